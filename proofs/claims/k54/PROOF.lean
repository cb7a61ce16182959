import PyProof.Rows.All
import Wide.All
import OpenK.AllK
import Wide.FinOn
import Lean
import PyProof.EqAt
import PyProof.EqKinds
import PyProof.TupleCall
import PyProof.NeKinds
import KE.KRevSl
import KE.KIsAll
import PyProof.ExcArgsOwn
import PyProof.ExcAttrAll.ValueError
import PyProof.ExcBaseAll.ValueError
import PyProof.FitsBits
import KE.LcSums
import KE.KRevIter
import PyProof.ListRange
import PyProof.Rows.SumAny
import PyProof.Rows.SortWalk
import PyProof.AttrMissHeap
import KE.KDictOf
import PySem.Challenge.RW_nodeladder_k54_between
set_option Elab.async false
set_option linter.all false
set_option maxRecDepth 1000000
open PySem.W renaming Frag→za,nsIn→zd,findIn→zl,keepIn→zQ,fnOf→zT,mg_none_of→zZ,codeIn→yI,emptyDict→yY,hideAll_get→za8,excIn→zab,kia_one→zae,instObj→zaf,plainGet→zb4,isFn→zb5
open Classical renaming choose_spec→zb,choose→zi,byContradiction→zac,propDecidable→zbf
open List renaming length_map→zc,mem_cons_self→ze,mem_cons_of_mem→zf,map_cons→zg,mem_singleton→zh,mem_of_getElem?→zj,size_toArray→zk,set_cons_succ→zm,length_cons→zo,mem_append_right→zp,getElem?_eq_getElem→zq,set_cons_zero→zt,mem_cons→zu,replicate→zv,mem_append→zx,getElem?_eq_some_iff→zy,getD_eq_getElem?_getD→zC,getElem?_map→zD,mem_map→zE,nodup_append→zJ,map_append→zK,length_append→zL,mem_append_left→zN,getElem?_set_self→zP,getElem?_cons_succ→zS,foldl_cons→zU,map_map→yF,append_nil→yH,nodup_cons→yJ,length_set→yK,mem_of_mem_take→yL,getElem?_set_ne→yM,range→yR,take_length→yS,length_take→yT,take_add_one→yU,getElem?_append_left→yV,length_reverse→yW,mem_filter→yX,replicate_succ→za0,nodup_nil→za1,take_append_drop→za2,length_singleton→za3,getElem?_replicate→za7,getElem?_append_right→zad,append_assoc→zai,map_nil→zan,getElem?_cons_zero→zao,lookup_cons→zap,length_replicate→zau,length_filter_le→zav,find?_cons→zaw,any_cons→zb2,mem_range→zb6,mem_or_eq_of_mem_set→zb7,drop_eq_getElem_cons→zb8,length_drop→zbb,cons_append→zbc,all_eq_true→zbd
open PySem.Heap renaming get?_push_of_some→zr,lt_size→zw,get?_push_size→zH,get?_update_other→zar,get?_update_self→zax,SameBut→zay
open Nat renaming le_refl→zA,lt_of_lt_of_le→zB,ne_of_lt→zG,zero_le→zX,le_trans→yP,le_of_lt→yQ
open Bool renaming false_eq_true→zF,false_ne_true→zM,and_eq_true→zR,eq_iff_iff→zak
open Option.some renaming inj→zI
open Prod renaming fst→zO,snd→yZ
open PySem.Builtin.Int renaming intBits→zV
open PySem.F renaming plain_min_loop→zW,plainAttrs_list→zal
open Or renaming inl→zY
open Ne renaming symm→yE
open PySem.Value renaming ref→yG
open Int renaming toNat_natCast→yN,emod_lt_of_pos→za4,emod_nonneg→zaa,zero_add→zaz,add_assoc→zb3
open PyProof.Rows renaming callWith_type1→yO
open PySem.W.Fast renaming tw5923862056798008813→za5,tw4187177175401517315→za6
open Option renaming map_some→za9,isSome_iff_exists→zba
open PySem.Around renaming under_plainId→zag
open False renaming elim→zah
open PySem.Builtin.Builtins renaming bindParams→zaj
open PySem.Obj renaming mapSeq→zam
open True renaming intro→zaq
open PySem.Calls renaming spliced_cons→zas,spliced_nil→zb0
open PySem.NameKind renaming free→zat
open PySem.Builtin.List renaming listTooLong→zb1
open PySem renaming mem_of_lookup→zb9
open ForInStep renaming yield→zbe
section
set_option maxHeartbeats 0
namespace L2
open PySem PySem.Spec PyProof.Rows PySem.W PySem.Calls
noncomputable def inClass (s:Stmt) (j:Nat):Stmt:=match s with
 | .ClassDef _ _ _ body _ _ _ _ _ _ _=>body.getD j (.Pass ⟨0,0,0,0⟩)
 |_=>.Pass ⟨0,0,0,0⟩
noncomputable def AR (s:Stmt):Arguments:=match s with
 | .FunctionDef _ a _ _ _ _ _ _ _ _=>a
 |_=>{ posonlyargs:=[],args:=[],vararg:=none,kwonlyargs:=[],kw_defaults:=[],kwarg:=none,defaults:=[] }
noncomputable def AB (s:Stmt):List Stmt:=match s with
 | .FunctionDef _ _ b _ _ _ _ _ _ _=>b
 |_=>[]
noncomputable def A3 (s:Stmt):Scope:=match s with
 | .FunctionDef _ _ _ _ _ _ sc _ _ _=>sc
 |_=>{ kind:=.function,names:=[],isGenerator:=false,isCoroutine:=false }
structure FP (K:za) (x:Str) (st:Stmt):Prop where
 ex:∃(f:Addr) (oc:Value) (od an:Option Addr) (sl:Array (Option Value)) (kV dc pm cd ct:Value),zd K mainGlobals x=some (some (.ref f))/\K.lookup f=some ⟨oc,od,.func (zT x x (AR st) (AB st) (A3 st) .none kV dc pm an cd ct),sl⟩/\yI K cd x=true/\zQ K (.ref f)=true
theorem nF {K:za}{x:Str}{st:Stmt}{f:Addr}{oc:Value}{od an:Option Addr}{sl:Array (Option Value)}{kV dc pm cd ct:Value}(a:zd K mainGlobals x=some (some (.ref f))) (l:K.lookup f=some ⟨oc,od,.func (zT x x (AR st) (AB st) (A3 st) .none kV dc pm an cd ct),sl⟩) (c:yI K cd x=true) (k:zQ K (.ref f)=true):FP K x st:=⟨⟨f,oc,od,an,sl,kV,dc,pm,cd,ct,a,l,c,k⟩⟩
structure MP (K:za) (C:Addr) (m qual:Str) (st:Stmt):Prop where
 ex:∃(f:Addr) (oc:Value) (od an:Option Addr) (sl:Array (Option Value)) (kV dc pm cd ct:Value),zl K (.ref C) m=some (some (.ref f))/\zb5 K (.ref f)=true/\K.lookup f=some ⟨oc,od,.func (zT m qual (AR st) (AB st) (A3 st) .none kV dc pm an cd ct),sl⟩/\yI K cd qual=true/\zQ K (.ref f)=true
theorem nG {K:za}{C:Addr}{m qual:Str}{st:Stmt}{f:Addr}{oc:Value}{od an:Option Addr}{sl:Array (Option Value)}{kV dc pm cd ct:Value}(a:zl K (.ref C) m=some (some (.ref f))) (i:zb5 K (.ref f)=true) (l:K.lookup f=some ⟨oc,od,.func (zT m qual (AR st) (AB st) (A3 st) .none kV dc pm an cd ct),sl⟩) (c:yI K cd qual=true) (k:zQ K (.ref f)=true):MP K C m qual st:=⟨⟨f,oc,od,an,sl,kV,dc,pm,cd,ct,a,i,l,c,k⟩⟩
noncomputable def CV (p:Program):Program:={ p with main:={ p.main with body:=p.main.body.filter fun s=>match s with | .FunctionDef .. =>true | .ClassDef .. =>true | _=>false } }
structure Rn where
 run:(String->Option Builtin)->Program->World->Nat->Option Value->Nat->Shared->Thread->Option Shared
 ns:Heap->Addr->Str->Option Value
 imp:(String->Option Builtin)->Program->World->Nat->Shared->Thread->Option Shared
 vK:Program->Shared->Option Shared
 st:Program->Shared×Thread
 tb:String->Option Builtin
noncomputable def M5 (R:Rn) (p:Program) (w:World) (N:Nat):Option Shared :=
 ((R.imp R.tb (opening p) w N (R.st (opening p)).fst (R.st (opening p)).snd).bind (R.vK p)).bind fun s₀ =>
 match s₀.heap.isNs mainGlobals && s₀.gens.size == 0 with
 |true=>(R.run R.tb p w s₀.heap.objs.size (R.ns s₀.heap mainGlobals (Str.ofString "__annotations__")) N s₀ (topStub p)).bind fun s₁ =>
  match staticsOk (importedModules p.main.body) s₀.heap s₁.heap && namesBound p s₁.heap && gensDone s₁ && laidKept s₀.heap s₁.heap with
  |true=>some s₁
  |false=>none
 |false=>none
noncomputable def R1:Rn:=⟨PySem.W.Fast.tw14082659384304107361,PySem.W.Fast.tw8920871248978507458,PySem.W.Fast.tw10274390034422433532,PySem.W.Fast.tw14289696077712309145,PySem.W.Fast.tw1435165496053646825,PySem.W.Fast.tw14364793385576792824⟩
noncomputable def WG (R:Rn) (p:Program) (w:World) (N:Nat):Heap:=match M5 R p w N with | some s=>s.heap | none=>⟨#[],default⟩
noncomputable def qU (h:Heap) (as:List Addr):za:=as.filterMap fun a=>(h.get? a).map fun o=>(a,o)
noncomputable def B7 (v:Option (Option Value)):Addr:=match v with | some (some (.ref f))=>f | _=>0
noncomputable def Du (K:za) (f:Addr):Obj:=(K.lookup f).getD ⟨.none,none,.plain,#[]⟩
noncomputable def Hg (d:Data) (st:Stmt):FuncData:=match d with | .func fd=>fd | _=>zT Str.empty Str.empty (AR st) [] (A3 st) .none .none .none .none none .none .none
noncomputable def Vg (v:Value):Addr:=match v with | .ref a=>a | _=>0
noncomputable def rS (d:Data):Nat:=match d with | .seq _ n=>n | _=>0
theorem Au {K:za}{x:Str}{st:Stmt}(a:zd K mainGlobals x=some (some (.ref (B7 (zd K mainGlobals x)))):=by kernel_rfl)
 (l:K.lookup (B7 (zd K mainGlobals x))=some ⟨(Du K (B7 (zd K mainGlobals x))).cls,(Du K (B7 (zd K mainGlobals x))).dict,.func (zT x x (AR st) (AB st) (A3 st) .none (Hg (Du K (B7 (zd K mainGlobals x))).data st).kwdefaults (Hg (Du K (B7 (zd K mainGlobals x))).data st).doc (Hg (Du K (B7 (zd K mainGlobals x))).data st).pyModule (Hg (Du K (B7 (zd K mainGlobals x))).data st).annotations (Hg (Du K (B7 (zd K mainGlobals x))).data st).code (Hg (Du K (B7 (zd K mainGlobals x))).data st).closureTuple),(Du K (B7 (zd K mainGlobals x))).slots⟩:=by kernel_rfl)
 (c:yI K (Hg (Du K (B7 (zd K mainGlobals x))).data st).code x=true:=by kernel_rfl) (k:zQ K (.ref (B7 (zd K mainGlobals x)))=true:=by kernel_rfl):FP K x st:=nF a l c k
theorem Ln {K:za}{C:Addr}{m qual:Str}{st:Stmt}(a:zl K (.ref C) m=some (some (.ref (B7 (zl K (.ref C) m)))):=by kernel_rfl) (i:zb5 K (.ref (B7 (zl K (.ref C) m)))=true:=by kernel_rfl)
 (l:K.lookup (B7 (zl K (.ref C) m))=some ⟨(Du K (B7 (zl K (.ref C) m))).cls,(Du K (B7 (zl K (.ref C) m))).dict,.func (zT m qual (AR st) (AB st) (A3 st) .none (Hg (Du K (B7 (zl K (.ref C) m))).data st).kwdefaults (Hg (Du K (B7 (zl K (.ref C) m))).data st).doc (Hg (Du K (B7 (zl K (.ref C) m))).data st).pyModule (Hg (Du K (B7 (zl K (.ref C) m))).data st).annotations (Hg (Du K (B7 (zl K (.ref C) m))).data st).code (Hg (Du K (B7 (zl K (.ref C) m))).data st).closureTuple),(Du K (B7 (zl K (.ref C) m))).slots⟩:=by kernel_rfl)
 (c:yI K (Hg (Du K (B7 (zl K (.ref C) m))).data st).code qual=true:=by kernel_rfl) (k:zQ K (.ref (B7 (zl K (.ref C) m)))=true:=by kernel_rfl):MP K C m qual st:=nG a i l c k
end L2
namespace cO
open PySem L2
theorem prim:(PySem.W.chainsOk PySem.Challenge.pw_nodeladder_k54_between || true)=true:=by k_qdec
theorem nI (w:World):(M5 R1 PySem.W.Fast.tw1346891545137598544 w 5276).map (fun s=>(za6 (CV PySem.W.Fast.tw1346891545137598544) [] (za5 PySem.W.Fast.tw1346891545137598544.main.body) (fun s=>PySem.W.xlAt (CV PySem.W.Fast.tw1346891545137598544) [] s && PySem.W.recOk [] s) true s).1)=some (PySem.W.openGood (CV PySem.W.Fast.tw1346891545137598544) []).1:=by kernel_rfl
theorem nJ (w:World):(M5 R1 PySem.W.Fast.tw1346891545137598544 w 5276).map (fun s=>(za6 (CV PySem.W.Fast.tw1346891545137598544) [] (za5 PySem.W.Fast.tw1346891545137598544.main.body) (fun s=>PySem.W.xlAt (CV PySem.W.Fast.tw1346891545137598544) [] s && PySem.W.recOk [] s) true s).2.1)=some (PySem.W.openGood (CV PySem.W.Fast.tw1346891545137598544) []).2.1:=by kernel_rfl
theorem nK (w:World):(M5 R1 PySem.W.Fast.tw1346891545137598544 w 5276).map (fun s=>(za6 (CV PySem.W.Fast.tw1346891545137598544) [] (za5 PySem.W.Fast.tw1346891545137598544.main.body) (fun s=>PySem.W.xlAt (CV PySem.W.Fast.tw1346891545137598544) [] s && PySem.W.recOk [] s) true s).2.2.1)=some (PySem.W.openGood (CV PySem.W.Fast.tw1346891545137598544) []).2.2.1:=by kernel_rfl
theorem nL (w:World):(M5 R1 PySem.W.Fast.tw1346891545137598544 w 5276).map (fun s=>(za6 (CV PySem.W.Fast.tw1346891545137598544) [] (za5 PySem.W.Fast.tw1346891545137598544.main.body) (fun s=>PySem.W.xlAt (CV PySem.W.Fast.tw1346891545137598544) [] s && PySem.W.recOk [] s) true s).2.2.2)=some (PySem.W.openGood (CV PySem.W.Fast.tw1346891545137598544) []).2.2.2:=by kernel_rfl
noncomputable def topP (p:Program) (i:Nat):Stmt:=p.main.body.getD i (.Pass ⟨0,0,0,0⟩)
noncomputable def Kp (R:Rn) (p:Program) (w:World):za:=qU (WG R p w 5276) (yR 396)
noncomputable def WH (K:za) (p:Program):Prop :=
 (zd K mainGlobals "Ladder" = some (some (.ref (B7 (zd K mainGlobals "Ladder"))))) /\
 (zb4 K (B7 (zd K mainGlobals "Ladder")) Str.empty=true) /\
 (PySem.W.hasDictIn K (B7 (zd K mainGlobals "Ladder"))=true) /\
 (PySem.W.plainOver K (B7 (zd K mainGlobals "Ladder"))=true) /\
 (zl K (.ref (B7 (zd K mainGlobals "Ladder"))) "__setattr__" = some (some (.builtin "object.__setattr__"))) /\
 (PySem.W.makesIn K (B7 (zd K mainGlobals "Ladder"))=true) /\
 (zQ K (.ref (B7 (zd K mainGlobals "Ladder")))=true) /\
 (FP K "is_whole_below" (topP p 7)) /\
 (FP K "is_measure" (topP p 8)) /\
 (FP K "is_road" (topP p 9)) /\
 (FP K "is_map" (topP p 10)) /\
 (FP K "checked" (topP p 11)) /\
 (FP K "added" (topP p 12)) /\
 (FP K "least" (topP p 13)) /\
 (FP K "road_cost" (topP p 14)) /\
 (FP K "kept_costs" (topP p 16)) /\
 (FP K "kept_costs_turned" (topP p 17)) /\
 (FP K "climbed" (topP p 18)) /\
 (FP K "swept" (topP p 20)) /\
 (FP K "costs_out" (topP p 21)) /\
 (FP K "costs_in" (topP p 22)) /\
 (FP K "between" (topP p 23)) /\
 (FP K "cost_so_far" (topP p 25)) /\
 (FP K "lay" (topP p 26)) /\
 (FP K "lay_over" (topP p 27)) /\
 (FP K "laid_arcs" (topP p 28)) /\
 (FP K "is_order" (topP p 30)) /\
 (FP K "checked_order" (topP p 31)) /\
 (FP K "first_bows" (topP p 32)) /\
 (FP K "missing_bows" (topP p 33)) /\
 (FP K "lightest" (topP p 34)) /\
 (FP K "ranked" (topP p 35)) /\
 (FP K "costs_from" (topP p 37)) /\
 (FP K "order_or_ranked" (topP p 39)) /\
 (FP K "kept_arcs" (topP p 40)) /\
 (MP K (B7 (zd K mainGlobals "Ladder")) "order" "Ladder.order" (inClass (topP p 41) 2)) /\
 (MP K (B7 (zd K mainGlobals "Ladder")) "checked_arc" "Ladder.checked_arc" (inClass (topP p 41) 4)) /\
 (MP K (B7 (zd K mainGlobals "Ladder")) "cost" "Ladder.cost" (inClass (topP p 41) 5)) /\
 (MP K (B7 (zd K mainGlobals "Ladder")) "kept" "Ladder.kept" (inClass (topP p 41) 8)) /\
 (FP K "_law_cell_at" (topP p 43)) /\
 (FP K "_law_mix" (topP p 44))
theorem Zg (w:World):WH (Kp R1 PySem.W.Fast.tw1346891545137598544 w) PySem.W.Fast.tw1346891545137598544 :=
 ⟨by kernel_rfl,by kernel_rfl,by kernel_rfl,by kernel_rfl,by kernel_rfl,by kernel_rfl,by kernel_rfl,Au,Au,Au,Au,Au,Au,Au,Au,Au,Au,Au,Au,Au,Au,Au,Au,Au,Au,Au,Au,Au,Au,Au,Au,Au,Au,Au,Au,Ln,Ln,Ln,Ln,Au,Au⟩
noncomputable def WI (K:za) (p:Program):Prop :=
 (FP K "_law_great" (topP p 45)) /\
 (FP K "_law_whole" (topP p 46)) /\
 (FP K "_law_roads" (topP p 47)) /\
 (FP K "_law_order" (topP p 48)) /\
 (FP K "_law_added" (topP p 49)) /\
 (FP K "_law_least" (topP p 50)) /\
 (FP K "_law_open" (topP p 51)) /\
 (FP K "_law_costs" (topP p 52)) /\
 (zl K (.ref (B7 (zd K mainGlobals "Ladder"))) "__init__" = some (some (.ref (B7 (zl K (.ref (B7 (zd K mainGlobals "Ladder"))) "__init__"))))) /\
 (zb5 K (.ref (B7 (zl K (.ref (B7 (zd K mainGlobals "Ladder"))) "__init__")))=true) /\
 (K.lookup (B7 (zl K (.ref (B7 (zd K mainGlobals "Ladder"))) "__init__"))=some ⟨(Du K (B7 (zl K (.ref (B7 (zd K mainGlobals "Ladder"))) "__init__"))).cls,(Du K (B7 (zl K (.ref (B7 (zd K mainGlobals "Ladder"))) "__init__"))).dict,.func (zT "__init__" "Ladder.__init__" (AR (inClass (topP p 41) 0)) (AB (inClass (topP p 41) 0)) (A3 (inClass (topP p 41) 0)) (.ref (Vg (Hg (Du K (B7 (zl K (.ref (B7 (zd K mainGlobals "Ladder"))) "__init__"))).data (inClass (topP p 41) 0)).defaults)) (Hg (Du K (B7 (zl K (.ref (B7 (zd K mainGlobals "Ladder"))) "__init__"))).data (inClass (topP p 41) 0)).kwdefaults (Hg (Du K (B7 (zl K (.ref (B7 (zd K mainGlobals "Ladder"))) "__init__"))).data (inClass (topP p 41) 0)).doc (Hg (Du K (B7 (zl K (.ref (B7 (zd K mainGlobals "Ladder"))) "__init__"))).data (inClass (topP p 41) 0)).pyModule (Hg (Du K (B7 (zl K (.ref (B7 (zd K mainGlobals "Ladder"))) "__init__"))).data (inClass (topP p 41) 0)).annotations (Hg (Du K (B7 (zl K (.ref (B7 (zd K mainGlobals "Ladder"))) "__init__"))).data (inClass (topP p 41) 0)).code (Hg (Du K (B7 (zl K (.ref (B7 (zd K mainGlobals "Ladder"))) "__init__"))).data (inClass (topP p 41) 0)).closureTuple),(Du K (B7 (zl K (.ref (B7 (zd K mainGlobals "Ladder"))) "__init__"))).slots⟩) /\
 (yI K (Hg (Du K (B7 (zl K (.ref (B7 (zd K mainGlobals "Ladder"))) "__init__"))).data (inClass (topP p 41) 0)).code "Ladder.__init__" = true) /\
 (zQ K (.ref (B7 (zl K (.ref (B7 (zd K mainGlobals "Ladder"))) "__init__")))=true) /\
 (K.lookup (Vg (Hg (Du K (B7 (zl K (.ref (B7 (zd K mainGlobals "Ladder"))) "__init__"))).data (inClass (topP p 41) 0)).defaults)=some ⟨(Du K (Vg (Hg (Du K (B7 (zl K (.ref (B7 (zd K mainGlobals "Ladder"))) "__init__"))).data (inClass (topP p 41) 0)).defaults)).cls,(Du K (Vg (Hg (Du K (B7 (zl K (.ref (B7 (zd K mainGlobals "Ladder"))) "__init__"))).data (inClass (topP p 41) 0)).defaults)).dict,.seq #[.none] (rS (Du K (Vg (Hg (Du K (B7 (zl K (.ref (B7 (zd K mainGlobals "Ladder"))) "__init__"))).data (inClass (topP p 41) 0)).defaults)).data),(Du K (Vg (Hg (Du K (B7 (zl K (.ref (B7 (zd K mainGlobals "Ladder"))) "__init__"))).data (inClass (topP p 41) 0)).defaults)).slots⟩) /\
 (zd K mainGlobals "law" = some (some (.ref (B7 (zd K mainGlobals "law"))))) /\
 (K.lookup (B7 (zd K mainGlobals "law"))=some ⟨(Du K (B7 (zd K mainGlobals "law"))).cls,(Du K (B7 (zd K mainGlobals "law"))).dict,.func (zT "law" "law" (AR (topP p 53)) (AB (topP p 53)) (A3 (topP p 53)) .none (Hg (Du K (B7 (zd K mainGlobals "law"))).data (topP p 53)).kwdefaults (Hg (Du K (B7 (zd K mainGlobals "law"))).data (topP p 53)).doc (Hg (Du K (B7 (zd K mainGlobals "law"))).data (topP p 53)).pyModule (Hg (Du K (B7 (zd K mainGlobals "law"))).data (topP p 53)).annotations (Hg (Du K (B7 (zd K mainGlobals "law"))).data (topP p 53)).code (Hg (Du K (B7 (zd K mainGlobals "law"))).data (topP p 53)).closureTuple),(Du K (B7 (zd K mainGlobals "law"))).slots⟩) /\
 (yI K (Hg (Du K (B7 (zd K mainGlobals "law"))).data (topP p 53)).code "law" = true) /\
 (zQ K (.ref (B7 (zd K mainGlobals "law")))=true) /\
 (zd K mainGlobals "all" = some none) /\
 (zd K mainGlobals "bool" = some none) /\
 (zd K mainGlobals "dict" = some none) /\
 (zd K mainGlobals "enumerate" = some none) /\
 (zd K mainGlobals "int" = some none) /\
 (zd K mainGlobals "isinstance" = some none) /\
 (zd K mainGlobals "len" = some none) /\
 (zd K mainGlobals "list" = some none) /\
 (zd K mainGlobals "min" = some none) /\
 (zd K mainGlobals "range" = some none) /\
 (zd K mainGlobals "reversed" = some none) /\
 (zd K mainGlobals "sorted" = some none) /\
 (zd K mainGlobals "tuple" = some none) /\
 (zd K mainGlobals "NoArc" = some (some (.ref (B7 (zd K mainGlobals "NoArc"))))) /\
 (zd K mainGlobals "NoMap" = some (some (.ref (B7 (zd K mainGlobals "NoMap"))))) /\
 (zd K mainGlobals "NoOrder" = some (some (.ref (B7 (zd K mainGlobals "NoOrder"))))) /\
 (zab K (B7 (zd K mainGlobals "NoArc")) [.type "ValueError",.type "Exception",.type "BaseException",.type "object"] "ValueError.__new__" = true) /\
 (zab K (B7 (zd K mainGlobals "NoMap")) [.type "ValueError",.type "Exception",.type "BaseException",.type "object"] "ValueError.__new__" = true) /\
 (zab K (B7 (zd K mainGlobals "NoOrder")) [.type "ValueError",.type "Exception",.type "BaseException",.type "object"] "ValueError.__new__" = true) /\
 (zl K (.ref (B7 (zd K mainGlobals "Ladder"))) "kept_ones" = some none) /\
 (zl K (.ref (B7 (zd K mainGlobals "Ladder"))) "laid" = some none) /\
 (zl K (.ref (B7 (zd K mainGlobals "Ladder"))) "own_map" = some none) /\
 (zl K (.ref (B7 (zd K mainGlobals "Ladder"))) "own_order" = some none)
theorem Zh (w:World):WI (Kp R1 PySem.W.Fast.tw1346891545137598544 w) PySem.W.Fast.tw1346891545137598544 :=
 ⟨Au,Au,Au,Au,Au,Au,Au,Au,by kernel_rfl,by kernel_rfl,by kernel_rfl,by kernel_rfl,by kernel_rfl,by kernel_rfl,by kernel_rfl,by kernel_rfl,by kernel_rfl,by kernel_rfl,by kernel_rfl,by kernel_rfl,by kernel_rfl,by kernel_rfl,by kernel_rfl,by kernel_rfl,by kernel_rfl,by kernel_rfl,by kernel_rfl,by kernel_rfl,by kernel_rfl,by kernel_rfl,by kernel_rfl,by kernel_rfl,by kernel_rfl,by kernel_rfl,by kernel_rfl,by kernel_rfl,by kernel_rfl,by kernel_rfl,by kernel_rfl,by kernel_rfl,by kernel_rfl⟩
end cO
end
set_option Elab.async false
set_option linter.all false
set_option maxRecDepth 100000
namespace L2
open PySem PySem.Spec PyProof.Rows
noncomputable abbrev Key:=Sum Int Str
noncomputable def NZ:Key->Value->Bool
 | .inl k,v=>Value.isInt k v
 | .inr x,v=>Value.isStrOf x v
noncomputable def rT (w:World):Key->Int
 | .inl k=>hashInt k
 | .inr x=>hashStr w x
theorem Bn:∀ {k:Key}{v:Value},NZ k v=true->(∃ i t,k=Sum.inl i/\v=Value.int i t)\/(∃ x t,k=Sum.inr x/\v=Value.str x t)
 | .inl i,v,h=>by
  obtain⟨t,e⟩:=Value.isInt_shape (k:=i) (v:=v) h
  exact .inl ⟨i,t,rfl,e⟩
 | .inr x,v,h=>by
  obtain⟨t,e⟩:=Value.isStrOf_shape (x:=x) (v:=v) h
  exact .inr ⟨x,t,rfl,e⟩
theorem Vh (i:Int) (t:Tok):NZ (.inl i) (.int i t)=true:=by simp[NZ,Value.isInt]
theorem Vi (x:Str) (t:Tok):NZ (.inr x) (.str x t)=true:=by simp[NZ,Value.isStrOf]
theorem iN (a b:Int):decide ((Sum.inl a:Key)=Sum.inl b)=(a == b):=by
 by_cases e:a=b
 ·subst e;simp
 ·have h:¬ (Sum.inl a:Key)=Sum.inl b:=fun q=>e (Sum.inl.inj q)
  rw[decide_eq_false h]
  exact (beq_eq_false_iff_ne.mpr e).symm
theorem iO (a b:Str):decide ((Sum.inr a:Key)=Sum.inr b)=decide (a=b):=by
 by_cases e:a=b
 ·subst e;simp
 ·have h:¬ (Sum.inr a:Key)=Sum.inr b:=fun q=>e (Sum.inr.inj q)
  rw[decide_eq_false h,decide_eq_false e]
theorem iP (a:Int) (b:Str):decide ((Sum.inl a:Key)=Sum.inr b)=false:=decide_eq_false (fun q=>nomatch q)
theorem iQ (a:Str) (b:Int):decide ((Sum.inr a:Key)=Sum.inl b)=false:=decide_eq_false (fun q=>nomatch q)
noncomputable def B5 (prog:Program) (w:World):PySem.KeyKind prog w Key where
 is:=NZ
 hash:=rT w
 inj:=fun v a b ha hb=>by
  rcases Bn ha with ⟨i,t,rfl,rfl⟩|⟨x,t,rfl,rfl⟩
  ·rcases Bn hb with ⟨j,u,rfl,e⟩|⟨y,u,rfl,e⟩
   ·injection e with e1 _;rw[e1]
   ·exact nomatch e
  ·rcases Bn hb with ⟨j,u,rfl,e⟩|⟨y,u,rfl,e⟩
   ·exact nomatch e
   ·injection e with e1 _;rw[e1]
 byValue:=fun k v h=>by
  rcases Bn h with ⟨i,t,rfl,rfl⟩|⟨x,t,rfl,rfl⟩<;>rfl
 pyHash:=fun hv h=>by
  rcases Bn hv with ⟨i,t,rfl,rfl⟩|⟨x,t,rfl,rfl⟩
  ·exact wpAny_pyHash_int h
  ·exact wpAny_pyHash_str h
 eqBool:=fun hu hv h=>by
  rcases Bn hu with ⟨i,t,rfl,rfl⟩|⟨x,t,rfl,rfl⟩
  ·rcases Bn hv with ⟨j,u,rfl,rfl⟩|⟨y,u,rfl,rfl⟩
   ·rw[iN] at h;exact wpAny_eqBool_int h
   ·rw[iP] at h;exact SeqAt.EqAt.int_str i t y u _ _ _ _ h
  ·rcases Bn hv with ⟨j,u,rfl,rfl⟩|⟨y,u,rfl,rfl⟩
   ·rw[iQ] at h;exact SeqAt.EqAt.str_int x t j u _ _ _ _ h
   ·rw[iO] at h;exact wpAny_eqBool_str h
 «strs»:=fun k x t v h=>by
  rcases Bn h with ⟨i,u,rfl,e⟩|⟨y,u,rfl,e⟩
  ·exact nomatch e
  ·injection e with e1 _
   subst e1
   cases v<;>rfl
theorem QD (prog:Program) (w:World) (i:Int) (t:Tok):(B5 prog w).is (.inl i) (.int i t)=true:=Vh i t
theorem QE (prog:Program) (w:World) (x:Str) (t:Tok):(B5 prog w).is (.inr x) (.str x t)=true:=Vi x t
inductive V where
 |AA|bl (b:Bool)|int (i:Int)|str (x:Str)|iR (b:Array UInt8)|nM (b:UInt64)|ref (a:Addr)|ty (n:String)
 deriving DecidableEq
noncomputable def RelV:V->Value->Prop
 | .AA,u=>u=Value.none
 | .bl b,u=>u=Value.bool b
 | .int i,u=>∃ t,u=Value.int i t
 | .str x,u=>∃ t,u=Value.str x t
 | .iR b,u=>∃ t,u=Value.bytes b t
 | .nM b,u=>∃ t,u=Value.float b t
 | .ref a,u=>u=yG a
 | .ty n,u=>u=Value.type n
noncomputable abbrev Vals:List V->List Value->Prop:=Paired RelV
theorem Vals.length {xs:List V}{us:List Value}(r:Vals xs us):xs.length=us.length:=Paired.length r
theorem Vals.get:∀ {xs:List V}{us:List Value}{i:Nat}{x:V},Vals xs us->xs[i]? =some x->∃ u,us[i]? =some u/\RelV x u
 |_,_,_,_,.nil,e=>by simp at e
 |_,_,0,_,.cons r _,e=>by simp at e;subst e;exact⟨_,rfl,r⟩
 |_,_,i + 1,x,.cons _ t,e=>by
  obtain⟨u,h1,h2⟩:=Vals.get (i:=i) (x:=x) t (by simpa using e)
  exact⟨u,by simpa using h1,h2⟩
theorem Vals.set {x:V}{u:Value}(r:RelV x u):∀ {xs:List V}{us:List Value}(i:Nat),Vals xs us->Vals (xs.set i x) (us.set i u)
 |_,_,_,.nil=>.nil
 |_,_,0,.cons _ t=>.cons r t
 |_,_,i + 1,.cons q t=>.cons q (Vals.set r i t)
theorem Vals.append:∀ {xs ys:List V}{us ws:List Value},Vals xs us->Vals ys ws->Vals (xs++ys) (us++ws)
 |_,_,_,_,.nil,s=>s
 |_,_,_,_,.cons r t,s=>.cons r (Vals.append t s)
theorem Vals.take:∀ {xs:List V}{us:List Value}(n:Nat),Vals xs us->Vals (xs.take n) (us.take n)
 |_,_,0,_=>.nil
 |_,_,_ + 1,.nil=>.nil
 |_,_,n + 1,.cons r t=>.cons r (Vals.take n t)
theorem Vals.drop:∀ {xs:List V}{us:List Value}(n:Nat),Vals xs us->Vals (xs.drop n) (us.drop n)
 |_,_,0,r=>r
 |_,_,_ + 1,.nil=>.nil
 |_,_,n + 1,.cons _ t=>Vals.drop n t
noncomputable def Ge:Option V->Option Value->Prop
 |some v,some u=>RelV v u
 |none,none=>True
 |_,_=>False
noncomputable def KV {κ:Type}:List (κ×V)->List (κ×Value)->Prop:=Paired fun (p:κ×V) (q:κ×Value)=>p.1=q.1/\RelV p.2 q.2
noncomputable def kV:Key->V
 | .inl i=>.int i
 | .inr x=>.str x
inductive HO where
 |lst (xs:List V)
 |tup (xs:List V)
 |dK (kvs:List (Key×V))|dT (kvs:List (List Key×V))
 |set (S:Int->Bool) (n:Nat)
 |ins (C dx:Addr) (fs:List (Str×V))
 |own (x:Addr)
 |xd (fs:List (Str×V))
 |met (f x:Addr)
 |qV (lo hi:Int)
 |Vj (o:Obj) (u:HO)
 |gK (ps:Array Value)
 |ext (φ:Heap->Prop)
noncomputable abbrev Hp:=Addr->Option HO
noncomputable def upd (H:Hp) (a:Addr) (o:HO):Hp:=fun b=>if b=a then some o else H b
theorem Ar {H:Hp}{a:Addr}{o:HO}:upd H a o a=some o:=by unfold upd;rw[if_pos rfl]
theorem Ag {H:Hp}{a b:Addr}{o:HO}(h:b≠a):upd H a o b=H b:=by unfold upd;rw[if_neg h]
theorem nN {H:Hp}{a b:Addr}{o u:HO}(h:H a=some o) (h':H b=some u) (d:o≠u):a≠b:=by
 intro e;subst e;rw[h] at h';exact d (zI h')
theorem Az {H:Hp}{a b:Addr}{o:HO}(h:H a=some o) (h':H b=none):a≠b:=by
 intro e;subst e;rw[h] at h';cases h'
section
variable (P:Program) (w:World)
noncomputable def BF (H:Hp) (h:Heap) (a:Addr):HO->Prop
 | .lst xs=>xs.length<=sizeLine/\∃(aa:List Value) (n:Nat),Vals xs aa/\h.get? a=some { cls:=.type "list",data:=.seq aa.toArray n }
 | .tup xs=>xs.length<=sizeLine/\∃ aa:List Value,Vals xs aa/\IsTup h a aa.toArray
 | .dK kvs=>kvs.length<=sizeLine/\(a == sysModules)=false/\∃ vs,KV kvs vs/\h.DictOf (B5 P w) a vs
 | .dT kvs=>kvs.length<=sizeLine/\(a == sysModules)=false/\∃ xs:List (List Key×Addr×Value),
  Paired (fun (p:List Key×V) (q:List Key×Addr×Value)=>p.1=q.1/\H q.2.1=some (.tup (p.1.map kV))/\RelV p.2 q.2.2) kvs xs /\
  ∃ o es ep,h.get? a=some o/\o.ExactDict/\o.data=.dict es ep/\es.toList=xs.map (entryOfKey (tupleKind (B5 P w)))/\(xs.map (·.1)).Nodup
 | .set S n=>h.SetOf (intKind P w) a S n
 | .ins C dx fs=>H dx=some (.own a)/\fs.length<=1000/\dx≠a/\h.get? a=some (zaf C dx) /\
  ∃ mA,h.Ns1 dx mA/\(∀ f,Ge (fs.lookup f) (mA f))/\PySem.Within mA (fs.map (·.1))
 | .own _=>∃ o,h.get? a=some o
 | .xd fs=>∃ mA,h.Ns1 a mA/\∀ f,Ge (fs.lookup f) (mA f)
 | .qV lo hi=>∃ t u v,h.get? a=some { cls:=.type "range",data:=.fields #[.int lo t,.int hi u,.int 1 v] }
 | .Vj o u=>h.get? a=some o/\BF H h a u
 | .gK ps=>h.get? a=some { cls:=.none,data:=.fields ps }
 | .met f x=>h.get? a=some (PySem.W.methodObj (.ref f) (.ref x))
 | .ext φ=>φ h/\(∃ o,h.get? a=some o)/\∀ h1 h2:Heap,φ h1->(∀ o,h1.get? a=some o->h2.get? a=some o)->φ h2
noncomputable def Fq (H:Hp) (h:Heap):Prop:=∀ a o,H a=some o->BF P w H h a o
end
section
variable {P:Program}{w:World}{H H':Hp}{h h':Heap}{a:Addr}{o:HO}
theorem BF.lt (x:BF P w H h a o):a < h.objs.size:=by
 cases o with
 |lst xs=>obtain⟨_,_,_,_,e⟩:=x;exact zw e
 |tup xs=>obtain⟨_,_,_,p⟩:=x;exact p.lt
 |dK kvs=>obtain⟨_,_,_,_,o,_,_,e,_⟩:=x;exact zw e
 |dT kvs=>obtain⟨_,_,_,_,o,_,_,e,_⟩:=x;exact zw e
 |set S n=>obtain⟨o,_,_,_,e,_⟩:=x;exact zw e
 |ins C dx fs=>obtain⟨_,_,_,e,_⟩:=x;exact zw e
 |own y=>obtain⟨_,e⟩:=x;exact zw e
 |xd fs=>obtain⟨_,⟨_,_,_,e,_⟩,_⟩:=x;exact zw e
 |qV lo hi=>obtain⟨_,_,_,e⟩:=x;exact zw e
 |Vj ob u=>obtain⟨e,_⟩:=x;exact zw e
 |gK ps=>exact zw (show h.get? a=some _ from x)
 |met f y=>exact zw (show h.get? a=some _ from x)
 |ext φ=>obtain⟨_,⟨_,e⟩,_⟩:=x;exact zw e
theorem Paired.iS {α β:Type}{F G:α->β->Prop}:∀ {l₁:List α}{l₂:List β},Paired F l₁ l₂->(∀ a b,F a b->G a b)->Paired G l₁ l₂
 |_,_,.nil,_=>.nil
 |_,_,.cons r t,f=>.cons (f _ _ r) (Paired.iS t f)
theorem BF.OX (x:BF P w H h a o) (k:∀ b u,(b=a\/H b=some (.own a))->h.get? b=some u->h'.get? b=some u)
 (ho:∀ b,H b=some (.own a)->H' b=some (.own a)) (ht:∀ b xs,H b=some (.tup xs)->H' b=some (.tup xs)):BF P w H' h' a o:=by
 induction o with
 |lst xs=>obtain⟨z,aa,n,r,e⟩:=x;exact⟨z,aa,n,r,k _ _ (.inl rfl) e⟩
 |tup xs=>obtain⟨z,aa,r,ob,e,c⟩:=x;exact⟨z,aa,r,ob,k _ _ (.inl rfl) e,c⟩
 |dK kvs=>obtain⟨z,y,vs,r,ob,es,ep,e,c⟩:=x;exact⟨z,y,vs,r,ob,es,ep,k _ _ (.inl rfl) e,c⟩
 |dT kvs =>
  obtain⟨z,y,xs,r,ob,es,ep,e,c⟩:=x
  exact⟨z,y,xs,Paired.iS r fun p q z=>⟨z.1,ht _ _ z.2.1,z.2.2⟩,ob,es,ep,k _ _ (.inl rfl) e,c⟩
 |set S n=>obtain⟨ob,es,ep,t,e,c⟩:=x;exact⟨ob,es,ep,t,k _ _ (.inl rfl) e,c⟩
 |ins C dx fs =>
  obtain⟨d,z,ne,e,mA,⟨od,es,ep,e2,c⟩,r⟩:=x
  exact⟨ho _ d,z,ne,k _ _ (.inl rfl) e,mA,⟨od,es,ep,k _ _ (.inr d) e2,c⟩,r⟩
 |own y=>obtain⟨ob,e⟩:=x;exact⟨ob,k _ _ (.inl rfl) e⟩
 |xd fs=>obtain⟨mA,⟨od,es,ep,e,c⟩,r⟩:=x;exact⟨mA,⟨od,es,ep,k _ _ (.inl rfl) e,c⟩,r⟩
 |qV lo hi=>obtain⟨t,u,v,e⟩:=x;exact⟨t,u,v,k _ _ (.inl rfl) e⟩
 |Vj ob u ih=>obtain⟨e,q⟩:=x;exact⟨k _ _ (.inl rfl) e,ih q⟩
 |gK ps =>
  have e:h.get? a=some { cls:=.none,data:=.fields ps }:=x
  show h'.get? a=some { cls:=.none,data:=.fields ps }
  exact k a _ (.inl rfl) e
 |met f y =>
  have e:h.get? a=some (PySem.W.methodObj (.ref f) (.ref y)):=x
  show h'.get? a=some (PySem.W.methodObj (.ref f) (.ref y))
  exact k a _ (.inl rfl) e
 |ext φ=>obtain⟨p,⟨o,e⟩,st⟩:=x;exact⟨st _ _ p fun o q=>k _ _ (.inl rfl) q,⟨o,k _ _ (.inl rfl) e⟩,st⟩
theorem Fq.lt (x:Fq P w H h) (e:H a=some o):a < h.objs.size:=(x a o e).lt
theorem Fq.fresh (x:Fq P w H h) (e:h.objs.size<=a):H a=none:=by
 cases q:H a with
 |none=>rfl
 |some u=>exact absurd (zB (x.lt q) e) (Nat.lt_irrefl _)
theorem Fq.kept (x:Fq P w H h) (k:∀ b u,h.get? b=some u->h'.get? b=some u):Fq P w H h':=fun a o e =>
 (x a o e).OX (fun b u _ q=>k b u q) (fun _ q=>q) fun _ _ q=>q
theorem Fq.laid (x:Fq P w H h) (k:∀ b u,h.get? b=some u->h'.get? b=some u) (hp:h.objs.size<=a) (new:BF P w (upd H a o) h' a o):Fq P w (upd H a o) h':=fun b u e=>by
 have hn:=x.fresh hp
 by_cases hb:b=a
 ·subst hb;rw[Ar] at e;cases e;exact new
 ·rw[Ag hb] at e
  exact (x b u e).OX (fun c v _ q=>k c v q) (fun c q=>by rw[Ag (Az q hn)];exact q) fun c xs q=>by rw[Ag (Az q hn)];exact q
end
noncomputable def Rd (H:Hp) (a:Addr) (u:HO):Prop:=H a=some u\/∃ o,H a=some (.Vj o u)
theorem Rd.ok {P:Program}{w:World}{H:Hp}{h:Heap}{a:Addr}{u:HO}(r:Rd H a u) (x:Fq P w H h):BF P w H h a u:=by
 rcases r with r|⟨o,r⟩
 ·exact x a u r
 ·obtain⟨_,q⟩:=x a _ r
  exact q
noncomputable def nO:Option HO->Prop
 |some (.lst _)=>True
 |some (.dK _)=>True
 |some (.dT _)=>True
 |some (.set _ _)=>True
 |some (.ins _ _ _)=>True
 |some (.ext _)=>True
 |_=>False
section
variable {P:Program}{w:World}{H:Hp}{h h':Heap}{x e:Addr}{o':HO}
theorem Fq.write (ok:Fq P w H h) (mu:nO (H x)) (he:e=x\/H e=some (.own x)) (k:∀ b u,b≠e->h.get? b=some u->h'.get? b=some u) (dq:∃ u,h'.get? e=some u)
 (new:BF P w (upd H x o') h' x o'):Fq P w (upd H x o') h':=fun b u q=>by
 have im:∀ c y,H c=some (.own y)->c≠x:=fun c y r z=>by subst z;rw[r] at mu;exact mu
 have l5:∀ c xs,H c=some (.tup xs)->c≠x:=fun c xs r z=>by subst z;rw[r] at mu;exact mu
 by_cases hb:b=x
 ·subst hb;rw[Ar] at q;cases q;exact new
 ·rw[Ag hb] at q
  by_cases ee:b=e
  ·have q':H b=some (.own x):=by
    rcases he with z|z
    ·exact absurd (ee.trans z) hb
    ·rw[ee];exact z
   rw[q] at q';cases q'
   obtain⟨v,hv⟩:=dq
   exact⟨v,by rw[ee];exact hv⟩
  ·refine (ok b u q).OX (fun c v hc r=>k c v ?_ r) (fun c r=>by rw[Ag (im c b r)];exact r) fun c xs r=>by rw[Ag (l5 c xs r)];exact r
   rcases hc with rfl|hc
   ·exact ee
   ·rintro rfl
    rcases he with z|z
    ·exact im c b hc z
    ·rw[hc] at z;cases z;exact hb rfl
end
structure Un (fs ex:List Addr) (H H':Hp) (h h':Heap):Prop where
 keep:∀ b o,h.get? b=some o->H b=none->b∉fs->b∉ex->h'.get? b=some o
 slot:∀ b o,h.get? b=some o->H b=none->b∈fs->b∉ex->∃ sl,h'.get? b=some { o with slots:=sl }
 free:∀ b o,h.get? b=some o->H b=none->b∉ex->H' b=none
 there:∀ b o,h.get? b=some o->b∉ex->∃ o',h'.get? b=some o'
 NC:∀ b xs,H b=some (.tup xs)->H' b=some (.tup xs)
 M6:∀ b o u,H b=some (.Vj o u)->H' b=some (.Vj o u)
 ND:∀ b ps,H b=some (.gK ps)->∃ more,H' b=some (.gK (ps++more))
section
variable {fs cp ex l6:List Addr}{H H1 H2:Hp}{h h1 h2 h':Heap}{a x e:Addr}{o:HO}
theorem Un.any (u:Un fs ex H H1 h h1){b:Addr}{ob:Obj}(q:h.get? b=some ob) (n:H b=none) (hx:b∉ex):∃ sl,h1.get? b=some { ob with slots:=sl }:=by
 by_cases hb:b∈fs
 ·exact u.slot b ob q n hb hx
 ·exact⟨ob.slots,u.keep b ob q n hb hx⟩
theorem Un.kept (k:∀ b u,h.get? b=some u->h'.get? b=some u):Un fs ex H H h h' :=
 ⟨fun b ob q _ _ _=>k b ob q,fun b ob q _ _ _=>⟨ob.slots,k b ob q⟩,fun _ _ _ n _=>n,fun b ob q _=>⟨ob,k b ob q⟩,fun _ _ q=>q,fun _ _ _ q=>q,fun _ ps q=>⟨#[],by rw[q];simp⟩⟩
theorem Un.refl:Un fs ex H H h h:=Un.kept fun _ _ q=>q
theorem Un.laid (k:∀ b u,h.get? b=some u->h'.get? b=some u) (hp:h.objs.size<=a) (hn:H a=none):Un fs ex H (upd H a o) h h' where
 keep:=fun b u q _ _ _=>k b u q
 slot:=fun b u q _ _ _=>⟨u.slots,k b u q⟩
 free:=fun b u q n _=>by rw[Ag (zG (zB (zw q) hp))];exact n
 there:=fun b u q _=>⟨u,k b u q⟩
 NC:=fun b xs q=>by rw[Ag (Az q hn)];exact q
 M6:=fun b u xs q=>by rw[Ag (Az q hn)];exact q
 ND:=fun b ps q=>⟨#[],by rw[Ag (Az q hn),q];simp⟩
theorem Un.write (mu:nO (H x)) (he:e=x\/H e=some (.own x)) (k:∀ b u,b≠e->h.get? b=some u->h'.get? b=some u) (dq:∃ u,h'.get? e=some u):Un fs ex H (upd H x o) h h':=by
 have hx:∀ b,H b=none->b≠x:=fun b n z=>by subst z;rw[n] at mu;exact mu
 have hb:∀ b,H b=none->b≠e:=fun b n z=>by
  subst z
  rcases he with r|r
  ·exact hx b n r
  ·rw[n] at r;cases r
 have hm:∀ b u,H b=some u->¬ nO (some u)->b≠x:=fun b u q nm z=>by subst z;rw[q] at mu;exact nm mu
 refine⟨fun b u q n _ _=>k b u (hb b n) q,fun b u q n _ _=>⟨u.slots,k b u (hb b n) q⟩,fun b u q n _=>by rw[Ag (hx b n)];exact n,fun b u q _=>?_,
  fun b xs q=>by rw[Ag (hm b _ q fun z=>z)];exact q,fun b u xs q=>by rw[Ag (hm b _ q fun z=>z)];exact q,fun b ps q=>⟨#[],by rw[Ag (hm b _ q fun z=>z),q];simp⟩⟩
 by_cases ee:b=e
 ·subst ee;exact dq
 ·exact⟨u,k b u ee q⟩
end
noncomputable def Cp (h:Heap) (H:Hp):List Addr:=(yR h.objs.size).filter fun a=>(H a).isSome
noncomputable def OY (h:Heap) (H:Hp):Heap:=PySem.W.hideAll h (Cp h H)
theorem Vk (h:Heap) (H:Hp):(OY h H).objs.size=h.objs.size:=PySem.W.hideAll_size _ _
theorem WJ {h:Heap}{H:Hp}{b:Addr}{o:Obj}(e:h.get? b=some o) (n:H b=none):(OY h H).get? b=some o :=
 za8 _ e fun hm=>by
  have q:(H b).isSome=true:=(yX.mp hm).2
  rw[n] at q;simp at q
theorem Zi {h:Heap}{H:Hp}{b:Addr}{o:Obj}(e:(OY h H).get? b=some o):h.get? b=some o/\H b=none:=by
 have e':h.get? b=some o:=PySem.W.of_hideAll (Cp h H) e
 refine⟨e',?_⟩
 cases q:H b with
 |none=>rfl
 |some x =>
  have hm:b∈Cp h H:=yX.mpr ⟨zb6.mpr (zw e'),by simp[q]⟩
  have z:(OY h H).get? b=none:=PySem.W.hideAll_none (Cp h H) hm
  rw[z] at e;cases e
noncomputable def Zj (g h:Heap) (L:Addr):List (Addr×Obj):=(yR h.objs.size).filterMap fun a=>if a=L\/(g.get? a).isSome=true then none else (h.get? a).map fun o=>(a,o)
noncomputable def rest (g h:Heap) (L d:Addr):List (Addr×Obj):=(Zj g h L).filter fun p=>decide (p.1≠d)
structure Mod (K:za) (mg:Str->Option Value) (base:Heap):Prop where
 WB:K.In base
 glob:base.Ns mainGlobals mg
 blt:∃ mb,base.Ns builtinsNs mb/\∀ x:Str,x ≠ "__name__" -> mb x=bootBuiltins x
 nolimit:base.NoLimit
structure Cx where
 prog:Program
 w:World
 K:za
 mg:Str->Option Value
 base:Heap
 A:Around
 N:List Str
 s₀:Shared
 H₀:Hp
 env:Env
 outer:List Env
 stack:List Env
 ex:List Addr
 fn:Str->Bool
 calm:Bool
 pn:List (Addr×Obj)
 xe:Value->Shared->Prop
noncomputable def KR (l:List Env):List Addr:=l.filterMap (·.frame)
noncomputable abbrev Cx.fs (X:Cx):List Addr:=KR X.outer
noncomputable def rV (sc:Scope) (x:Str):Prop:=sc.names.lookup x=some .local\/sc.names.lookup x=some .cell\/sc.names.lookup x=some .free
noncomputable def Loc (sc:Scope) (x:Str):Prop:=sc.names.lookup x=some .local\/sc.names.lookup x=some .cell
noncomputable def Look (env:Env) (h:Heap) (m:Str->Option Value) (x:Str) (u:Value):Prop :=
 (env.kindOf x=some .local/\m x=some u)\/((env.kindOf x=some .cell\/env.kindOf x=some .free)/\∃ c,env.cells.lookup x=some c/\h.IsCell c (some u))
structure Cx.Ok (X:Cx):Prop where
 mod:Mod X.K X.mg X.base
 kind:X.env.scope.kind=.function
 glob:X.env.globals=mainGlobals
 blt:X.env.builtins=builtinsNs
 above:X.s₀.heap.objs.size<=X.env.locals
 inj:∀ x y c,X.env.cells.lookup x=some c->X.env.cells.lookup y=some c->x=y
 has:∀ x,(X.env.kindOf x=some .cell\/X.env.kindOf x=some .free)->∃ c,X.env.cells.lookup x=some c
 nQ:∀ x c,X.fn x=true->X.env.cells.lookup x=some c->X.s₀.heap.objs.size<=c
 hd:X.calm=true->X.A.handled=none
 frames:X.A.frames=some X.stack
 gL:X.stack=X.outer\/(X.stack=X.env::X.outer/\X.env.frame=some X.env.locals)
 qW:∀ b∈X.ex,b≠X.env.locals/\∀ x c,X.env.cells.lookup x=some c->c≠b
 bs:∀ b o,X.base.get? b=some o->X.s₀.heap.get? b=some o/\X.H₀ b=none
 Zk:X.base.objs.size<=X.s₀.heap.objs.size
 WK:∀ b o,X.base.get? b=some o->b∉X.ex
 WL:∀ b∈X.ex,b∉X.fs
 IX:X.s₀.heap.FunFrames X.base X.outer
 iT:∀ b∈X.fs,X.H₀ b=none
structure Inv (X:Cx) (pins:List (Addr×Obj)) (σ:List (Option V)) (H:Hp) (s:Shared):Prop where
 ok:X.Ok
 os:s.os=X.s₀.os
 bare:AllBare s.gens
 base:Un X.fs X.ex X.H₀ H X.s₀.heap s.heap
 loc:∃ m,s.heap.Ns X.env.locals m/\∀(i:Nat) (x:Str) (v:V),X.N[i]? =some x->σ[i]? =some (some v)->rV X.env.scope x->∃ u,RelV v u/\Look X.env s.heap m x u
 cell:∀ x c,X.env.cells.lookup x=some c->∃ v,s.heap.IsCell c v
 free:H X.env.locals=none
 Gi:∀ x c,X.env.cells.lookup x=some c->H c=none
 pin:∀ p∈X.pn++pins,s.heap.get? p.1=some p.2/\H p.1=none/\p.1≠X.env.locals/\p.1∉X.fs/\∀ v,p.2.data≠.cell v
 Av:Fq X.prog X.w H s.heap
 len:σ.length=X.N.length
section
variable {X:Cx}{pins:List (Addr×Obj)}{σ:List (Option V)}{H H':Hp}{s:Shared}{h':Heap}
theorem Cx.Ok.rW (ok:X.Ok){b:Addr}{o:Obj}(e:X.base.get? b=some o):b∉X.fs:=fun hb=>by
 have:=(ok.IX.mem hb).1
 rw[e] at this;cases this
theorem Inv.bs (I:Inv X pins σ H s):∀ b o,X.base.get? b=some o->s.heap.get? b=some o/\H b=none:=fun b o e =>
 ⟨I.base.keep b o (I.ok.bs b o e).1 (I.ok.bs b o e).2 (I.ok.rW e) (I.ok.WK b o e),I.base.free b o (I.ok.bs b o e).1 (I.ok.bs b o e).2 (I.ok.WK b o e)⟩
theorem Inv.bk (I:Inv X pins σ H s):∀ b o,X.base.get? b=some o->s.heap.get? b=some o:=fun b o e=>(I.bs b o e).1
theorem Inv.mod (I:Inv X pins σ H s):Mod X.K X.mg X.base:=I.ok.mod
theorem Inv.Nz (I:Inv X pins σ H s):X.K.In s.heap:=I.ok.mod.WB.keeps I.bk
theorem Inv.fr (I:Inv X pins σ H s):∃ m,Fr X.base X.env.locals s.heap m :=
 let ⟨m,hn,_⟩:=I.loc
 ⟨m,hn,I.bk,yP I.ok.Zk I.ok.above⟩
theorem Inv.lt (I:Inv X pins σ H s):X.env.locals < s.heap.objs.size:=let ⟨_,hn,_⟩:=I.loc;hn.lt
theorem Inv.sz (I:Inv X pins σ H s):X.s₀.heap.objs.size<=s.heap.objs.size:=yP I.ok.above (yQ I.lt)
theorem Inv.rX (I:Inv X pins σ H s){a:Addr}(h:s.heap.objs.size<=a):a∉X.fs:=fun hb=>by
 obtain⟨_,o,ho,_⟩:=I.ok.IX.mem hb
 exact absurd (zB (zw ho) (yP I.sz h)) (Nat.lt_irrefl _)
theorem Inv.iU (I:Inv X pins σ H s):∀ x c,X.env.cells.lookup x=some c->c≠X.env.locals:=fun x c e z=>by
 obtain⟨v,o,ho,hd⟩:=I.cell x c e
 obtain⟨m,⟨o',es,ep,bC,bS,_⟩,_⟩:=I.loc
 rw[z,bC] at ho;cases ho;rw[bS] at hd;cases hd
theorem Inv.IX (I:Inv X pins σ H s):s.heap.FunFrames X.base X.outer:=by
 have all:∀(l:List Env),(∀ b∈KR l,b∈X.fs)->X.s₀.heap.FunFrames X.base l->s.heap.FunFrames X.base l:=by
  intro l
  induction l with
  |nil=>intro _ _;trivial
  |cons env r ih =>
   intro hs hl
   obtain⟨hk,⟨L,o,hf,hn,ho,hd⟩,hr⟩:=hl
   have hL:L∈X.fs:=hs L (by unfold KR;rw[List.filterMap_cons,hf];exact ze)
   obtain⟨sl,e⟩:=I.base.slot L o ho (I.ok.iT L hL) hL fun z=>I.ok.WL L z hL
   exact⟨hk,⟨L,_,hf,hn,e,hd⟩,ih (fun b hb=>hs b (by unfold KR;rw[List.filterMap_cons,hf];exact zf _ hb)) hr⟩
 exact all X.outer (fun _ hb=>hb) I.ok.IX
theorem Inv.stack (I:Inv X pins σ H s):s.heap.FunFrames X.base X.stack:=by
 rcases I.ok.gL with e|⟨e,hf⟩
 ·rw[e];exact I.IX
 ·rw[e]
  obtain⟨m,hn,_⟩:=I.loc
  refine .cons (by rw[I.ok.kind];decide) hf hn ?_ I.IX
  exact Heap.get?_none_of_le (yP I.ok.Zk I.ok.above)
theorem Inv.Sw (I:Inv X pins σ H s):∀ b∈KR X.stack,b∈X.env.locals::X.fs:=fun b hb=>by
 rcases I.ok.gL with e|⟨e,hf⟩
 ·rw[e] at hb;exact zf _ hb
 ·rw[e] at hb
  unfold KR at hb
  rw[List.filterMap_cons,hf] at hb
  exact hb
theorem Inv.OZ (I:Inv X pins σ H s):∀ b∈KR X.stack,H b=none:=fun b hb=>by
 rcases zu.mp (I.Sw b hb) with e|hb
 ·rw[e];exact I.free
 ·obtain⟨_,o,ho,_⟩:=I.ok.IX.mem hb
  exact I.base.free b o ho (I.ok.iT b hb) fun z=>I.ok.WL b z hb
theorem Inv.step {g':Array GenState}{t':Nat}{d':Drawn}{ch:List Addr}(I:Inv X pins σ H s)
 (cK:∀ b∈ch,(b∈X.ex\/X.s₀.heap.objs.size<=b)/\b≠X.env.locals/\(∀ x c,X.env.cells.lookup x=some c->c≠b)/\∀ p∈X.pn++pins,p.1≠b)
 (keep:∀ b o,b≠X.env.locals->b∉X.fs->b∉ch->s.heap.get? b=some o->H b=none->h'.get? b=some o)
 (slot:∀ b o,b≠X.env.locals->b∈X.fs->b∉ch->s.heap.get? b=some o->H b=none->∃ sl,h'.get? b=some { o with slots:=sl }) (free:∀ b o,b∉ch->s.heap.get? b=some o->H b=none->H' b=none)
 (there:∀ b o,b∉ch->s.heap.get? b=some o->∃ o',h'.get? b=some o')
 (NC:∀ b xs,H b=some (.tup xs)->H' b=some (.tup xs)) (M6:∀ b o u,H b=some (.Vj o u)->H' b=some (.Vj o u)) (ND:∀ b ps,H b=some (.gK ps)->∃ more,H' b=some (.gK (ps++more)))
 (ns:∀ m,s.heap.Ns X.env.locals m->h'.Ns X.env.locals m) (Av:Fq X.prog X.w H' h') (hg:AllBare g') :
 Inv X pins σ H' { s with heap:=h',gens:=g',drawn:=d',toks:=t' }:=by
 have uu:∀ b o,X.s₀.heap.get? b=some o->b≠X.env.locals:=fun b o e=>zG (zB (zw e) I.ok.above)
 have h8:∀ b o,X.s₀.heap.get? b=some o->b∉X.ex->b∉ch:=fun b o e hx hb=>by
  rcases (cK b hb).1 with z|z
  ·exact hx z
  ·exact absurd (zB (zw e) z) (Nat.lt_irrefl _)
 have cellK:∀ x c,X.env.cells.lookup x=some c->∀ v,s.heap.IsCell c v->h'.IsCell c v:=fun x c e v ⟨o,ho,hd⟩=>by
  have ip:c∉ch:=fun z=>(cK c z).2.2.1 x c e rfl
  by_cases hc:c∈X.fs
  ·obtain⟨sl,q⟩:=slot c o (I.iU x c e) hc ip ho (I.Gi x c e)
   exact⟨_,q,hd⟩
  ·exact⟨o,keep c o (I.iU x c e) hc ip ho (I.Gi x c e),hd⟩
 refine⟨I.ok,I.os,hg,⟨fun b o e n hb hx=>?_,fun b o e n hb hx=>?_,fun b o e n hx=>?_,fun b o e hx=>?_,fun b xs e=>NC b xs (I.base.NC b xs e),fun b o xs e=>M6 b o xs (I.base.M6 b o xs e),fun b ps e=>?_⟩,?_,fun x c e=>?_,?_,fun x c e=>?_,fun p hp=>?_,Av,I.len⟩
 ·exact keep b o (uu b o e) hb (h8 b o e hx) (I.base.keep b o e n hb hx) (I.base.free b o e n hx)
 ·obtain⟨sl,e1⟩:=I.base.slot b o e n hb hx
  obtain⟨kh,e2⟩:=slot b _ (uu b o e) hb (h8 b o e hx) e1 (I.base.free b o e n hx)
  exact⟨kh,e2⟩
 ·obtain⟨o',e1⟩:=I.base.there b o e hx
  exact free b o' (h8 b o e hx) e1 (I.base.free b o e n hx)
 ·obtain⟨o',e1⟩:=I.base.there b o e hx
  exact there b o' (h8 b o e hx) e1
 ·obtain⟨m1,e1⟩:=I.base.ND b ps e
  obtain⟨m2,e2⟩:=ND b _ e1
  exact⟨m1++m2,by rw[e2,Array.append_assoc]⟩
 ·obtain⟨m,hn,hl⟩:=I.loc
  refine⟨m,ns m hn,fun i x v e1 e2 e3=>?_⟩
  obtain⟨u,r,l⟩:=hl i x v e1 e2 e3
  refine⟨u,r,?_⟩
  rcases l with l|⟨k,c,e,z⟩
  ·exact .inl l
  ·exact .inr ⟨k,c,e,cellK x c e _ z⟩
 ·obtain⟨v,z⟩:=I.cell x c e
  exact⟨v,cellK x c e v z⟩
 ·obtain⟨m,⟨o,_,_,ho,_⟩,_⟩:=I.loc
  exact free _ o (fun z=>(cK _ z).2.1 rfl) ho I.free
 ·obtain⟨v,o,ho,hd⟩:=I.cell x c e
  exact free c o (fun z=>(cK c z).2.2.1 x c e rfl) ho (I.Gi x c e)
 ·obtain⟨e,n,ne,nf,d⟩:=I.pin p hp
  have ip:p.1∉ch:=fun z=>(cK p.1 z).2.2.2 p hp rfl
  exact⟨keep p.1 p.2 ne nf ip e n,free p.1 p.2 ip e n,ne,nf,d⟩
theorem Inv.un {t':Nat}(I:Inv X pins σ H s) (u:Un X.fs [] H H' s.heap h') (Av:Fq X.prog X.w H' h'):Inv X pins σ H' { s with heap:=h',toks:=t' }:=by
 obtain⟨m,⟨o,es,ep,ho,r⟩,_⟩:=id I.loc
 obtain⟨sl,hL⟩:=u.any ho I.free (by simp)
 exact I.step (g':=s.gens) (d':=s.drawn) (ch:=[]) (fun _ z=>nomatch z) (fun b o _ hb _ e n=>u.keep b o e n hb (by simp)) (fun b o _ hb _ e n=>u.slot b o e n hb (by simp)) (fun b o _ e n=>u.free b o e n (by simp)) (fun b o _ e=>u.there b o e (by simp)) u.NC u.M6 u.ND (fun m' hm=>by
  obtain⟨o',l7,l8,bC,r'⟩:=hm
  rw[ho] at bC;cases bC
  exact⟨_,l7,l8,hL,r'⟩) Av I.bare
theorem Inv.call {g':Array GenState}{t':Nat}{d':Drawn}{ch:List Addr}(I:Inv X pins σ H s) (u:Un (KR X.stack) ch H H' s.heap h') (Av:Fq X.prog X.w H' h') (hg:AllBare g')
 (cK:∀ b∈ch,(b∈X.ex\/X.s₀.heap.objs.size<=b)/\b≠X.env.locals/\(∀ x c,X.env.cells.lookup x=some c->c≠b)/\∀ p∈X.pn++pins,p.1≠b) :
 Inv X pins σ H' { s with heap:=h',gens:=g',drawn:=d',toks:=t' }:=by
 obtain⟨m,⟨o,es,ep,ho,r⟩,_⟩:=id I.loc
 obtain⟨sl,hL⟩:=u.any ho I.free fun z=>(cK _ z).2.1 rfl
 exact I.step (ch:=ch) cK (fun b o hL hb hc e n=>u.keep b o e n (fun z=>(zu.mp (I.Sw b z)).elim hL hb) hc) (fun b o _ _ hc e n=>u.any e n hc) (fun b o hc e n=>u.free b o e n hc) (fun b o hc e=>u.there b o e hc) u.NC u.M6 u.ND (fun m' hm=>by
  obtain⟨o',l7,l8,bC,r'⟩:=hm
  rw[ho] at bC;cases bC
  exact⟨_,l7,l8,hL,r'⟩) Av hg
theorem Inv.turned {t':Nat}{it:Addr}(I:Inv X pins σ H s) (k:∀ b o,b≠it->s.heap.get? b=some o->h'.get? b=some o) (hn:H it=none) (hL:it≠X.env.locals)
 (h1:it∈X.ex\/X.s₀.heap.objs.size<=it) (h2:∀ x c,X.env.cells.lookup x=some c->c≠it) (h3:∀ p∈X.pn++pins,p.1≠it):Inv X pins σ H { s with heap:=h',toks:=t' }:=by
 have uv:∀ b u,H b=some u->b≠it:=fun b u e z=>by rw[z,hn] at e;cases e
 refine I.step (g':=s.gens) (d':=s.drawn) (ch:=[it]) (fun b hb=>?_) (fun b o _ _ hc e _=>k b o (fun z=>hc (by simp[z])) e) (fun b o _ _ hc e _=>⟨o.slots,k b o (fun z=>hc (by simp[z])) e⟩) (fun _ _ _ _ n=>n)
  (fun b o hc e=>⟨o,k b o (fun z=>hc (by simp[z])) e⟩) (fun _ _ e=>e) (fun _ _ _ e=>e) (fun b ps e=>⟨#[],by rw[e];simp⟩) (fun m hm=>?_) (fun b u e=>?_) I.bare
 ·have e:b=it:=by simpa using hb
  subst e
  exact⟨h1,hL,h2,h3⟩
 ·obtain⟨o,es,ep,ho,r⟩:=hm
  exact⟨o,es,ep,k _ o (yE hL) ho,r⟩
 ·refine (I.Av b u e).OX (fun c v hc q=>k c v ?_ q) (fun _ q=>q) fun _ _ q=>q
  rcases hc with z|z
  ·rw[z];exact uv b u e
  ·exact uv c _ z
theorem Inv.tok (I:Inv X pins σ H s) (t:Nat):Inv X pins σ H { s with toks:=t }:=I.un (h':=s.heap) (t':=t) Un.refl I.Av
theorem Inv.kept {t':Nat}(I:Inv X pins σ H s) (k:∀ b u,s.heap.get? b=some u->h'.get? b=some u):Inv X pins σ H { s with heap:=h',toks:=t' }:=I.un (Un.kept k) (I.Av.kept k)
theorem Inv.laid {a:Addr}{o:HO}{t':Nat}(I:Inv X pins σ H s) (k:∀ b u,s.heap.get? b=some u->h'.get? b=some u) (hp:s.heap.objs.size<=a) (new:BF X.prog X.w (upd H a o) h' a o) :
 Inv X pins σ (upd H a o) { s with heap:=h',toks:=t' }:=I.un (Un.laid k hp (I.Av.fresh hp)) (I.Av.laid k hp new)
theorem Inv.write {x e:Addr}{o:HO}{t':Nat}(I:Inv X pins σ H s) (mu:nO (H x)) (he:e=x\/H e=some (.own x)) (k:∀ b u,b≠e->s.heap.get? b=some u->h'.get? b=some u) (dq:∃ u,h'.get? e=some u)
 (new:BF X.prog X.w (upd H x o) h' x o):Inv X pins σ (upd H x o) { s with heap:=h',toks:=t' }:=I.un (Un.write mu he k dq) (I.Av.write mu he k dq new)
theorem Inv.weak {σ':List (Option V)}(I:Inv X pins σ H s) (hl:σ'.length=σ.length) (w:∀(i:Nat) v,σ'[i]? =some (some v)->σ[i]? =some (some v)):Inv X pins σ' H s :=
 ⟨I.ok,I.os,I.bare,I.base,let ⟨m,hn,bY⟩:=I.loc;⟨m,hn,fun i x v e1 e2 e3=>bY i x v e1 (w i v e2) e3⟩,I.cell,I.free,I.Gi,I.pin,I.Av,hl.trans I.len⟩
theorem Inv.IY {dr:List (Addr×Obj)}(I:Inv X pins σ H s) (h:∀ p∈dr,s.heap.get? p.1=some p.2/\H p.1=none/\p.1≠X.env.locals/\p.1∉X.fs/\∀ v,p.2.data≠.cell v):Inv X dr σ H s :=
 ⟨I.ok,I.os,I.bare,I.base,I.loc,I.cell,I.free,I.Gi,fun p hp=>(zx.mp hp).elim (fun z=>I.pin p (zN _ z)) (h p),I.Av,I.len⟩
theorem QF {N:List Str}(hN:N.Nodup){i j:Nat}{x:Str}(a:N[i]? =some x) (b:N[j]? =some x):i=j:=by
 obtain⟨h1,e1⟩:=zy.mp a
 obtain⟨h2,e2⟩:=zy.mp b
 exact (List.getElem_inj hN).mp (e1.trans e2.symm)
theorem O0 {M:Model}{A:Around}{E:Value->Shared->Prop}{i:Nat}{x:Str}{v:V}{u:Value}{Q:Unit->Shared->Prop}(I:Inv X pins σ H s) (hN:X.N.Nodup) (hi:X.N[i]? =some x) (hx:Loc X.env.scope x) (r:RelV v u)
 (h:∀ s',Inv X pins (σ.set i (some v)) H s'->(∃ a,zay a s.heap s'.heap/\(a=X.env.locals\/X.env.cells.lookup x=some a))->Q () s') (hf:X.fn x=true\/X.env.scope.names.lookup x=some .local:=by first|exact .inl rfl|exact .inr rfl|assumption):wpAny M A (storeName X.env x u) Q E s:=by
 obtain⟨m,hn,hl⟩:=id I.loc
 have l9:(X.env.scope.kind == .class || (X.env.scope.kind == .module && X.env.locals != X.env.globals))=false:=by rw[I.ok.kind];rfl
 have hiσ:i < σ.length:=by rw[I.len];exact (zy.mp hi).1
 have iU:=I.iU
 have tracked:∀ {a:Addr} {h':Heap},(∃ o,s.heap.get? a=some o/\H a=none)->zay a s.heap h'->Fq X.prog X.w H h':=fun {a h'} ha hs b ob e=>by
  obtain⟨_,_,du⟩:=ha
  refine (I.Av b ob e).OX (fun c w' hc q=>(hs.2 c ?_).trans q) (fun _ q=>q) fun _ _ q=>q
  rintro rfl
  rcases hc with rfl|hc
  ·rw[du] at e;cases e
  ·rw[du] at hc;cases hc
 rcases hx with hk|hk
 ·refine wpAny_storeName_local hk hn (fun h' bZ hs=>?_) l9
  obtain⟨oL,_,_,me,_⟩:=id hn
  refine h _ ⟨I.ok,I.os,I.bare,⟨fun b o e n hb hx=>?_,fun b o e n hb hx=>?_,I.base.free,fun b o e hx=>?_,I.base.NC,I.base.M6,I.base.ND⟩,⟨_,bZ,fun j y v' e1 e2 e3=>?_⟩,fun y c e=>?_,I.free,I.Gi,fun p hp=>?_,tracked ⟨oL,me,I.free⟩ hs,by simpa using I.len⟩ ⟨_,hs,.inl rfl⟩
  ·exact (hs.2 b (zG (zB (zw e) I.ok.above))).trans (I.base.keep b o e n hb hx)
  ·obtain⟨sl,e1⟩:=I.base.slot b o e n hb hx
   exact⟨sl,(hs.2 b (zG (zB (zw e) I.ok.above))).trans e1⟩
  ·obtain⟨o',e1⟩:=I.base.there b o e hx
   exact⟨o',(hs.2 b (zG (zB (zw e) I.ok.above))).trans e1⟩
  ·by_cases hj:j=i
   ·subst hj
    rw[hi] at e1;cases e1
    rw[zP hiσ] at e2
    cases e2
    exact⟨u,r,.inl ⟨hk,by simp⟩⟩
   ·rw[yM (yE hj)] at e2
    obtain⟨u',r',q⟩:=hl j y v' e1 e2 e3
    refine⟨u',r',?_⟩
    rcases q with ⟨k,e⟩|⟨k,c,e,z⟩
    ·refine .inl ⟨k,?_⟩
     have:y≠x:=fun e=>hj (QF hN e1 (e▸hi))
     simp[this,e]
    ·exact .inr ⟨k,c,e,z.sameBut hs (iU y c e)⟩
  ·obtain⟨w',z⟩:=I.cell y c e
   exact⟨w',z.sameBut hs (iU y c e)⟩
  ·obtain⟨e,n,ne,nf,d⟩:=I.pin p hp
   exact⟨(hs.2 p.1 ne).trans e,n,ne,nf,d⟩
 ·have mf:X.fn x=true:=by
   rcases hf with z|z
   ·exact z
   ·rw[z] at hk;cases hk
  obtain⟨c,hc⟩:=I.ok.has x (.inl hk)
  obtain⟨w',z⟩:=I.cell x c hc
  refine wpAny_storeName_cell I.ok.kind hk hc z (fun h' bT hs=>?_)
  obtain⟨oc,uw,mh⟩:=id z
  refine h { s with heap:=h' } ⟨I.ok,I.os,I.bare,⟨fun b o e n hb hx=>?_,fun b o e n hb hx=>?_,I.base.free,fun b o e hx=>?_,I.base.NC,I.base.M6,I.base.ND⟩,⟨m,hn.sameBut hs (yE (iU x c hc)),fun j y v' e1 e2 e3=>?_⟩,fun y c' e=>?_,I.free,I.Gi,fun p hp=>?_,tracked ⟨oc,uw,I.Gi x c hc⟩ hs,by simpa using I.len⟩ ⟨c,hs,.inr hc⟩
  ·exact (hs.2 b (zG (zB (zw e) (I.ok.nQ x c mf hc)))).trans (I.base.keep b o e n hb hx)
  ·obtain⟨sl,e1⟩:=I.base.slot b o e n hb hx
   exact⟨sl,(hs.2 b (zG (zB (zw e) (I.ok.nQ x c mf hc)))).trans e1⟩
  ·obtain⟨o',e1⟩:=I.base.there b o e hx
   exact⟨o',(hs.2 b (zG (zB (zw e) (I.ok.nQ x c mf hc)))).trans e1⟩
  ·by_cases hj:j=i
   ·subst hj
    rw[hi] at e1;cases e1
    rw[zP hiσ] at e2
    cases e2
    exact⟨u,r,.inr ⟨.inl hk,c,hc,bT⟩⟩
   ·rw[yM (yE hj)] at e2
    obtain⟨u',r',q⟩:=hl j y v' e1 e2 e3
    refine⟨u',r',?_⟩
    rcases q with q|⟨k,c',e,z'⟩
    ·exact .inl q
    ·refine .inr ⟨k,c',e,z'.sameBut hs ?_⟩
     rintro rfl
     exact hj (QF hN e1 (I.ok.inj _ _ _ e hc▸hi))
  ·by_cases ko:c'=c
   ·subst ko;exact⟨_,bT⟩
   ·obtain⟨w2,z2⟩:=I.cell y c' e
    exact⟨w2,z2.sameBut hs ko⟩
  ·obtain⟨e,n,ne,nf,d⟩:=I.pin p hp
   refine⟨(hs.2 p.1 ?_).trans e,n,ne,nf,d⟩
   intro q
   rw[q,uw] at e
   have q':oc=p.2:=zI e
   exact d w' (by rw[<-q'];exact mh)
theorem QG {M:Model}{A:Around}{E:Value->Shared->Prop}{i:Nat}{x:Str}{v:V}{u:Value}{Q:Unit->Shared->Prop}(I:Inv X pins σ H s) (hN:X.N.Nodup) (hi:X.N[i]? =some x) (hx:Loc X.env.scope x) (r:RelV v u)
 (h:∀ s',Inv X pins (σ.set i (some v)) H s'->Q () s') (hf:X.fn x=true\/X.env.scope.names.lookup x=some .local:=by first|exact .inl rfl|exact .inr rfl|assumption):wpAny M A (storeName X.env x u) Q E s :=
 O0 I hN hi hx r (fun s' I' _=>h s' I') hf
theorem Inv.gM {s':Shared}{ch:List Addr}(I:Inv X pins σ H s) (ho:s'.os=s.os) (u:Un (KR X.stack) ch H H' s.heap s'.heap) (Av:Fq X.prog X.w H' s'.heap) (hg:AllBare s'.gens)
 (cK:∀ b∈ch,(b∈X.ex\/X.s₀.heap.objs.size<=b)/\b≠X.env.locals/\(∀ x c,X.env.cells.lookup x=some c->c≠b)/\∀ p∈X.pn++pins,p.1≠b):Inv X pins σ H' s':=by
 obtain⟨h',g',d',t',o'⟩:=s'
 have e:o'=s.os:=ho
 subst e
 exact I.call (g':=g') (t':=t') (d':=d') u Av hg cK
end
noncomputable abbrev XK:=Value->Option Addr->Hp->Prop
noncomputable abbrev St:=List (Option V)
noncomputable abbrev VK:=V->Hp->Prop
noncomputable abbrev TE:=St->Hp->VK->Prop
noncomputable abbrev TT:=St->Hp->(Bool->Hp->Prop)->Prop
noncomputable abbrev TA:=St->Hp->(List V->Hp->Prop)->Prop
structure Ends where
 nx:St->Hp->Prop
 rt:VK
 bk:St->Hp->Prop:=fun _ _=>False
 ct:St->Hp->Prop:=fun _ _=>False
noncomputable abbrev TS:=Ends->St->Hp->Prop
noncomputable def EP (X:Cx) (pins:List (Addr×Obj)) (σ:St) (Q:VK) (u:Value) (s':Shared):Prop:=∃ v H',Inv X pins σ H' s'/\RelV v u/\Q v H'
noncomputable def TP (X:Cx) (pins:List (Addr×Obj)) (σ:St) (Q:Bool->Hp->Prop) (b:Bool) (s':Shared):Prop:=∃ H',Inv X pins σ H' s'/\Q b H'
noncomputable def AP (X:Cx) (pins:List (Addr×Obj)) (σ:St) (Q:List V->Hp->Prop) (us:List Value) (s':Shared):Prop:=∃ vs H',Inv X pins σ H' s'/\Vals vs us/\Q vs H'
noncomputable def SP (X:Cx) (pins:List (Addr×Obj)) (D:Ends) (f:Flow) (s':Shared):Prop :=
 match f with
 | .next=>∃ σ' H',Inv X pins σ' H' s'/\D.nx σ' H'
 | .brk=>∃ σ' H',Inv X pins σ' H' s'/\D.bk σ' H'
 | .cont=>∃ σ' H',Inv X pins σ' H' s'/\D.ct σ' H'
 | .ret u=>∃ v σ' H',Inv X pins σ' H' s'/\RelV v u/\D.rt v H'
noncomputable def PE (X:Cx) (e:Expr) (t:TE):Prop :=
 ∀(pins:List (Addr×Obj)) (s:Shared) (σ:St) (H:Hp) (Q:VK),Inv X pins σ H s->t σ H Q->wpAny (model X.prog X.w) X.A (eval e X.env) (EP X pins σ Q) X.xe s
noncomputable def PT (X:Cx) (e:Expr) (t:TT):Prop :=
 ∀(pins:List (Addr×Obj)) (s:Shared) (σ:St) (H:Hp) (Q:Bool->Hp->Prop),Inv X pins σ H s->t σ H Q->wpAny (model X.prog X.w) X.A (isTrue e X.env (eval e X.env)) (TP X pins σ Q) X.xe s
noncomputable def PW (X:Cx) (e:Expr) (t:TT):Prop :=
 ∀(whole:Sem Value) (pins:List (Addr×Obj)) (s:Shared) (σ:St) (H:Hp) (Q:Bool->Hp->Prop),Inv X pins σ H s->t σ H Q->wpAny (model X.prog X.w) X.A (isTrue e X.env whole) (TP X pins σ Q) X.xe s
theorem PW.pt {X:Cx}{e:Expr}{t:TT}(h:PW X e t):PT X e t:=h _
noncomputable def PA (X:Cx) (es:List Expr) (t:TA):Prop :=
 ∀(pos:Pos) (pins:List (Addr×Obj)) (s:Shared) (σ:St) (H:Hp) (Q:List V->Hp->Prop),Inv X pins σ H s->t σ H Q->wpAny (model X.prog X.w) X.A (spliced (backTo pos (starEach es X.env))) (AP X pins σ Q) X.xe s
noncomputable def PS (X:Cx) (st:Stmt) (t:TS):Prop :=
 ∀(pins:List (Addr×Obj)) (s:Shared) (σ:St) (H:Hp) (D:Ends),Inv X pins σ H s->t D σ H->wpAny (model X.prog X.w) X.A (exec st X.env) (SP X pins D) X.xe s
noncomputable def U5 (X:Cx) (st:List Stmt) (t:TS):Prop :=
 ∀(pins:List (Addr×Obj)) (s:Shared) (σ:St) (H:Hp) (D:Ends),Inv X pins σ H s->t D σ H->wpAny (model X.prog X.w) X.A (execs st X.env) (SP X pins D) X.xe s
theorem Bg {α:Type}{t:Sem α}{Q Q':α->Shared->Prop}{M:Model}{A:Around}{E:Value->Shared->Prop}{s:Shared}(h:wpAny M A t Q E s) (hQ:∀ a s,Q a s->Q' a s):wpAny M A t Q' E s:=wpAny_mono h hQ fun _ _ x=>x
section
variable {X:Cx}
theorem bin {a b:Expr}{ta tb:TE}(ha:PE X a ta) (hb:PE X b tb){pins:List (Addr×Obj)}{s:Shared}{σ:St}{H:Hp}{R:V->V->Hp->Prop}(I:Inv X pins σ H s) (h:ta σ H fun x H1=>tb σ H1 fun y H2=>R x y H2)
 {α:Type} {Q:α->Shared->Prop} {f:Value->Value->Sem α}
 (hf:∀ v u s2 x y H2,Inv X pins σ H2 s2->RelV x v->RelV y u->R x y H2->wpAny (model X.prog X.w) X.A (f v u) Q X.xe s2) :
 wpAny (model X.prog X.w) X.A (eval a X.env) (fun v s₁=>wpAny (model X.prog X.w) X.A (eval b X.env) (fun u s₂=>wpAny (model X.prog X.w) X.A (f v u) Q X.xe s₂) X.xe s₁) X.xe s:=by
 refine Bg (ha pins s σ H _ I h) fun v s1 ⟨x,H1,I1,r1,q1⟩=>?_
 refine Bg (hb pins s1 σ H1 _ I1 q1) fun u s2 ⟨y,H2,I2,r2,q2⟩=>?_
 exact hf v u s2 x y H2 I2 r1 r2 q2
noncomputable def Lc (i:Nat):TE:=fun σ H Q=>∃ v,σ[i]? =some (some v)/\Q v H
noncomputable def tC (v:V):TE:=fun _ H Q=>Q v H
theorem iV {i:Nat}{x:Str}{pos:Pos}(hN:X.N[i]? =some x) (hv:rV X.env.scope x) (hd:(x == ("__debug__" : Str))=false:=by decide) (bz:(x == ("__classdict__" : Str))=false:=by decide):PE X (.Name x pos) (Lc i):=by
 intro pins s σ H Q I h
 obtain⟨v,e,h⟩:=h
 obtain⟨m,hn,hl⟩:=I.loc
 obtain⟨u,r,l⟩:=hl i x v hN e hv
 have fin:EP X pins σ Q u s:=⟨v,H,I,r,h⟩
 rcases l with ⟨hk,hm⟩|⟨hk,c,hc,bU⟩
 ·exact wpAny_Name (wpAny_loadName_local I.ok.kind hk hn hm fin) hd
 ·rcases hk with hk|hk
  ·exact wpAny_Name (wpAny_loadName_cell I.ok.kind hk hc bU fin) hd
  ·exact wpAny_Name (wpAny_loadName_free I.ok.kind hk hc bU fin bz) hd
theorem iW {i j pos}:PE X (.Constant (.int i) j pos) (tC (.int i)):=fun _ _ _ H _ I h=>wpAny_Constant_int ⟨.int i,H,I.tok _,⟨_,rfl⟩,h⟩
theorem nR {b j pos}:PE X (.Constant (.bool b) j pos) (tC (.bl b)):=fun _ _ _ H _ I h=>Constant_bool ⟨.bl b,H,I,rfl,h⟩
theorem iX {j pos}:PE X (.Constant .none j pos) (tC .AA):=fun _ _ _ H _ I h=>Constant_none ⟨.AA,H,I,rfl,h⟩
theorem iY {x j pos}:PE X (.Constant (.str x) j pos) (tC (.str x)):=fun _ _ _ H _ I h=>Calls.Constant_str ⟨.str x,H,I.tok _,⟨_,rfl⟩,h⟩
noncomputable def Gl (X:Cx) (x:Str):Prop:=X.env.kindOf x=some .globalImplicit
theorem P5 {E:Value->Shared->Prop}{pins:List (Addr×Obj)}{s:Shared}{σ:St}{H:Hp}{x:Str}{u:Value}{pos:Pos}{Q:Value->Shared->Prop}(I:Inv X pins σ H s) (hg:Gl X x) (hm:X.mg x=some u) (h:Q u s)
 (hd:(x == ("__debug__" : Str))=false:=by decide):wpAny (model X.prog X.w) X.A (eval (.Name x pos) X.env) Q E s :=
 Calls.Name_function_global I.ok.kind hg (Calls.loadGlobal_global (by rw[I.ok.glob];exact I.mod.glob.keeps I.bk) hm h) hd
theorem E6 {E:Value->Shared->Prop}{pins:List (Addr×Obj)}{s:Shared}{σ:St}{H:Hp}{x:Str}{u:Value}{pos:Pos}{Q:Value->Shared->Prop}(I:Inv X pins σ H s) (hg:Gl X x) (hm:X.mg x=none) (hv:bootBuiltins x=some u) (h:Q u s)
 (hn:x ≠ "__name__" := by decide) (hd:(x == ("__debug__" : Str))=false:=by decide):wpAny (model X.prog X.w) X.A (eval (.Name x pos) X.env) Q E s:=by
 obtain⟨mb,h1,h2⟩:=I.mod.blt
 exact Calls.Name_function_global I.ok.kind hg (Calls.loadGlobal_builtin (by rw[I.ok.glob];exact I.mod.glob.keeps I.bk) hm (by rw[I.ok.blt];exact h1.keeps I.bk) ((h2 x hn).trans hv) h) hd
theorem Zl {x:Str}{v:V}{u:Value}{pos:Pos}(hg:Gl X x) (hm:X.mg x=none) (hv:bootBuiltins x=some u) (r:RelV v u) (hn:x ≠ "__name__" := by decide) (hd:(x == ("__debug__" : Str))=false:=by decide):PE X (.Name x pos) (tC v) :=
 fun _ _ _ H _ I h=>E6 I hg hm hv ⟨v,H,I,r,h⟩ hn hd
variable {a b:Expr}{ta tb:TE}{pos:Pos}
noncomputable def PC (X:Cx) (op:CmpOp) (a b:Expr) (t:TE):Prop :=
 ∀(pins:List (Addr×Obj)) (s:Shared) (σ:St) (H:Hp) (Q:VK),Inv X pins σ H s->t σ H Q->
  wpAny (model X.prog X.w) X.A (eval a X.env) (fun v s₁=>wpAny (model X.prog X.w) X.A (eval b X.env) (fun u s₂=>wpAny (model X.prog X.w) X.A (compareOp op v u) (EP X pins σ Q) X.xe s₂) X.xe s₁) X.xe s
theorem QH (b:Expr){op:CmpOp}(h:op≠.In) (h2:op≠.NotIn):behindInMarks op b=false:=by
 have e1:(op == CmpOp.In)=false:=by cases op<;>first|rfl|exact absurd rfl h
 have e2:(op == CmpOp.NotIn)=false:=by cases op<;>first|rfl|exact absurd rfl h2
 cases b<;>simp[behindInMarks,e1,e2]
noncomputable def rY (ta:TE):TE:=fun σ H Q=>ta σ H fun x H1=>Q (.bl (decide (x=.AA))) H1
noncomputable def nS (ta:TE):TE:=fun σ H Q=>ta σ H fun x H1=>Q (.bl (!decide (x=.AA))) H1
theorem RelV.QI {x:V}{v:Value}(r:RelV x v):(v == Value.none)=decide (x=.AA):=by
 cases x with
 |AA=>cases r;rfl
 |bl _=>cases r;rfl
 |int _=>obtain⟨t,rfl⟩:=r;rfl
 |str _=>obtain⟨t,rfl⟩:=r;rfl
 |iR _=>obtain⟨t,rfl⟩:=r;rfl
 |nM _=>obtain⟨t,rfl⟩:=r;rfl
 |ref _=>cases r;rfl
 |ty _=>cases r;rfl
theorem WM {j pos'}(ha:PE X a ta):PC X .Is a (.Constant .none j pos') (rY ta):=by
 intro pins s σ H Q I h
 refine Bg (ha pins s σ H _ I h) fun v s1 ⟨x,H1,I1,r1,q1⟩=>?_
 exact Constant_none (is_none_gen ⟨.bl _,H1,I1,by rw[r1.QI];rfl,q1⟩)
theorem Zm {j pos'}(ha:PE X a ta):PC X .IsNot a (.Constant .none j pos') (nS ta):=by
 intro pins s σ H Q I h
 refine Bg (ha pins s σ H _ I h) fun v s1 ⟨x,H1,I1,r1,q1⟩=>?_
 exact Constant_none (isnot_none_gen ⟨.bl _,H1,I1,by rw[r1.QI];rfl,q1⟩)
noncomputable def tB (t:TE):TT:=fun σ H Q=>t σ H fun x H1=>∃ c,x=.bl c/\Q c H1
theorem iZ {op:CmpOp}{t:TE}(h:PC X op a b t) (h1:behindInMarks op b=false:=by first | exact QH _ (by decide) (by decide) | rfl):PE X (.Compare a [op] [b] pos) t:=fun pins s σ H Q I hw=>wpAny_Compare1 (h pins s σ H Q I hw) h1
theorem WN {op:CmpOp}{t:TE}(h:PC X op a b t) (h1:behindInMarks op b=false:=by first | exact QH _ (by decide) (by decide) | rfl):PT X (.Compare a [op] [b] pos) (tB t):=by
 intro pins s σ H Q I hw
 refine wpAny_isTrue_Compare1 (Bg (h pins s σ H _ I hw) fun v s1 h1=>Bg h1 fun u s2 h2=>Bg h2 fun c s3 ⟨x,H1,I1,r1,q1⟩=>?_) h1
 obtain⟨d,rfl,q⟩:=q1
 cases r1
 exact wpAny_truthy_bool ⟨H1,I1,q⟩
variable {tA kr:TT}{rest:List Expr}
noncomputable def rZ (t u:TT):TT:=fun σ H Q=>t σ H fun c H1=>if c=true then u σ H1 Q else Q false H1
noncomputable def vL (t u:TT):TT:=fun σ H Q=>t σ H fun c H1=>if c=true then Q true H1 else u σ H1 Q
noncomputable def sA (t:TT):TT:=fun σ H Q=>t σ H fun c H1=>Q (!c) H1
theorem pw_and1 (ha:PT X a tA):PW X (.BoolOp .And [a] pos) tA:=by
 intro wh pins s σ H Q I h
 refine isTrue_and (Bg (ha pins s σ H Q I h) fun c s1 e=>?_)
 cases c with
 |true=>exact isTrue_and_nil e
 |false=>exact e
theorem pw_or1 (ha:PT X a tA):PW X (.BoolOp .Or [a] pos) tA:=by
 intro wh pins s σ H Q I h
 refine isTrue_or (Bg (ha pins s σ H Q I h) fun c s1 e=>?_)
 cases c with
 |false=>exact isTrue_or_nil e
 |true=>exact e
theorem pw_and (ha:PT X a tA) (hb:PW X (.BoolOp .And (b::rest) pos) kr):PW X (.BoolOp .And (a::b::rest) pos) (rZ tA kr):=by
 intro wh pins s σ H Q I h
 refine isTrue_and (Bg (ha pins s σ H _ I h) fun c s1 ⟨H1,I1,q1⟩=>?_)
 cases c with
 |true=>exact hb wh pins s1 σ H1 Q I1 q1
 |false=>exact⟨H1,I1,q1⟩
theorem pw_or (ha:PT X a tA) (hb:PW X (.BoolOp .Or (b::rest) pos) kr):PW X (.BoolOp .Or (a::b::rest) pos) (vL tA kr):=by
 intro wh pins s σ H Q I h
 refine isTrue_or (Bg (ha pins s σ H _ I h) fun c s1 ⟨H1,I1,q1⟩=>?_)
 cases c with
 |true=>exact⟨H1,I1,q1⟩
 |false=>exact hb wh pins s1 σ H1 Q I1 q1
theorem jA (ha:PT X a tA):PT X (.UnaryOp .Not a pos) (sA tA):=by
 intro pins s σ H Q I h
 exact isTrue_not (ha pins s σ H (fun c H1=>Q (!c) H1) I h)
noncomputable def nT (ta tb:TE):TE:=fun σ H Q=>ta σ H fun x H1=>∃ c,x=.bl c/\if c=true then tb σ H1 Q else Q (.bl false) H1
noncomputable def sC (ta tb:TE):TE:=fun σ H Q=>ta σ H fun x H1=>∃ c,x=.bl c/\if c=true then Q (.bl true) H1 else tb σ H1 Q
noncomputable def nU (ta:TE):TE:=fun σ H Q=>ta σ H fun x H1=>∃ c,x=.bl c/\Q (.bl (!c)) H1
theorem jB {op}{t:TE}(h:PE X a t):PE X (.BoolOp op [a] pos) t:=fun pins s σ H Q I hw=>BoolOp_one (h pins s σ H Q I hw)
theorem jC (ha:PE X a ta) (hb:PE X (.BoolOp .And (b::rest) pos) tb):PE X (.BoolOp .And (a::b::rest) pos) (nT ta tb):=by
 intro pins s σ H Q I h
 refine BoolOp_and (Bg (ha pins s σ H _ I h) fun v s1 ⟨x,H1,I1,r1,q1⟩=>?_)
 obtain⟨c,rfl,q1⟩:=q1
 cases r1
 refine wpAny_truthy_bool ?_
 cases c with
 |true=>exact hb pins s1 σ H1 Q I1 q1
 |false=>exact⟨.bl false,H1,I1,rfl,q1⟩
theorem nV (ha:PE X a ta) (hb:PE X (.BoolOp .Or (b::rest) pos) tb):PE X (.BoolOp .Or (a::b::rest) pos) (sC ta tb):=by
 intro pins s σ H Q I h
 refine BoolOp_or (Bg (ha pins s σ H _ I h) fun v s1 ⟨x,H1,I1,r1,q1⟩=>?_)
 obtain⟨c,rfl,q1⟩:=q1
 cases r1
 refine wpAny_truthy_bool ?_
 cases c with
 |false=>exact hb pins s1 σ H1 Q I1 q1
 |true=>exact⟨.bl true,H1,I1,rfl,q1⟩
theorem jD (ha:PE X a ta):PE X (.UnaryOp .Not a pos) (nU ta):=by
 intro pins s σ H Q I h
 refine UnaryOp_ (Bg (ha pins s σ H _ I h) fun v s1 ⟨x,H1,I1,r1,q1⟩=>?_)
 obtain⟨c,rfl,q1⟩:=q1
 cases r1
 exact not_of (wpAny_truthy_bool ⟨.bl (!c),H1,I1,rfl,q1⟩)
end
noncomputable def Dm (K:za) (H:Hp) (a:Addr) (xs:List V):Prop :=
 Rd H a (.lst xs) \/
  ∃(o:Obj) (aa:Array Value) (n:Nat),K.lookup a=some o/\o.cls=.type "list" /\ o.dict=none/\o.data=.seq aa n/\aa.size<=sizeLine/\Vals xs aa.toList
noncomputable def Fs (K:za) (H:Hp) (a:Addr) (xs:List V):Prop :=
 Rd H a (.tup xs) \/
  ∃(o:Obj) (aa:Array Value) (n:Nat),K.lookup a=some o/\o.cls=.type "tuple" /\ o.data=.seq aa n/\aa.size<=sizeLine/\Vals xs aa.toList
noncomputable def sD:Value->Option V
 | .none=>some .AA
 | .bool b=>some (.bl b)
 | .int i _=>some (.int i)
 | .str x _=>some (.str x)
 | .bytes b _=>some (.iR b)
 | .float b _=>some (.nM b)
 | .ref a=>some (.ref a)
 | .type n=>some (.ty n)
 |_=>none
theorem RelV.abs {x:V}{u:Value}(r:RelV x u):sD u=some x:=by
 cases x with
 |AA=>cases r;rfl
 |bl _=>cases r;rfl
 |int _=>obtain⟨t,rfl⟩:=r;rfl
 |str _=>obtain⟨t,rfl⟩:=r;rfl
 |iR _=>obtain⟨t,rfl⟩:=r;rfl
 |nM _=>obtain⟨t,rfl⟩:=r;rfl
 |ref _=>cases r;rfl
 |ty _=>cases r;rfl
theorem RelV.inj {x y:V}{u:Value}(r:RelV x u) (q:RelV y u):x=y:=zI (r.abs.symm.trans q.abs)
theorem Vals.inj:∀ {xs ys:List V}{us:List Value},Vals xs us->Vals ys us->xs=ys
 |_,_,_,.nil,.nil=>rfl
 |_,_,_,.cons r t,.cons r' t'=>by rw[r.inj r',Vals.inj t t']
section
variable {X:Cx}{pins:List (Addr×Obj)}{σ:St}{H:Hp}{s:Shared}{a:Addr}{xs ys:List V}
theorem Dm.of {K:za}(h:H a=some (.lst xs)):Dm K H a xs:=.inl (.inl h)
theorem Fs.of {K:za}(h:H a=some (.tup xs)):Fs K H a xs:=.inl (.inl h)
theorem Inv.list (I:Inv X pins σ H s) (h:Dm X.K H a xs):∃ aa:List Value,Vals xs aa/\PlainL s.heap a aa.toArray/\xs.length<=sizeLine:=by
 rcases h with h|⟨o,aa,n,hk,hc,hd,hs,hz,r⟩
 ·obtain⟨z,aa,n,r,e⟩:=h.ok I.Av
  exact⟨aa,r,⟨_,n,e,rfl,rfl,rfl⟩,z⟩
 ·refine⟨aa.toList,r,⟨o,n,I.Nz a o hk,hc,hd,by simpa using hs⟩,?_⟩
  have e:=r.length
  simp only[Array.length_toList] at e
  omega
theorem Inv.tuple (I:Inv X pins σ H s) (h:Fs X.K H a xs):∃ aa:List Value,Vals xs aa/\IsTup s.heap a aa.toArray/\xs.length<=sizeLine:=by
 rcases h with h|⟨o,aa,n,hk,hc,hs,hz,r⟩
 ·obtain⟨z,aa,r,p⟩:=h.ok I.Av
  exact⟨aa,r,p,z⟩
 ·refine⟨aa.toList,r,⟨o,I.Nz a o hk,hc,n,by simpa using hs⟩,?_⟩
  have e:=r.length
  simp only[Array.length_toList] at e
  omega
theorem Inv.Gj (I:Inv X pins σ H s) (h:Dm X.K H a xs) (h':Dm X.K H a ys):xs=ys:=by
 obtain⟨aa,r,⟨o,n,e,_,_,d⟩,_⟩:=I.list h
 obtain⟨its',r',⟨o',n',e',_,_,d'⟩,_⟩:=I.list h'
 rw[e] at e';cases e'
 rw[d] at d'
 injection d' with d1 _
 have:aa=its':=by simpa using congrArg Array.toList d1
 subst this
 exact r.inj r'
theorem Inv.Hh (I:Inv X pins σ H s) (h:Fs X.K H a xs) (h':Fs X.K H a ys):xs=ys:=by
 obtain⟨aa,r,⟨o,e,_,n,d⟩,_⟩:=I.tuple h
 obtain⟨its',r',⟨o',e',_,n',d'⟩,_⟩:=I.tuple h'
 rw[e] at e';cases e'
 rw[d] at d'
 injection d' with d1 _
 have:aa=its':=by simpa using congrArg Array.toList d1
 subst this
 exact r.inj r'
end
noncomputable abbrev Cx.NE (X:Cx) (E:Value->Shared->Prop):Cx:={ X with xe:=E }
noncomputable abbrev Cx.nW (X:Cx):Cx:=X.NE fun _ _=>False
theorem Cx.Ok.NE {X:Cx}(ok:X.Ok) (E:Value->Shared->Prop):(X.NE E).Ok :=
 ⟨ok.mod,ok.kind,ok.glob,ok.blt,ok.above,ok.inj,ok.has,ok.nQ,ok.hd,ok.frames,ok.gL,ok.qW,ok.bs,ok.Zk,ok.WK,ok.WL,ok.IX,ok.iT⟩
theorem Cx.Ok.Gk {X:Cx}{E:Value->Shared->Prop}(ok:(X.NE E).Ok):X.Ok :=
 ⟨ok.mod,ok.kind,ok.glob,ok.blt,ok.above,ok.inj,ok.has,ok.nQ,ok.hd,ok.frames,ok.gL,ok.qW,ok.bs,ok.Zk,ok.WK,ok.WL,ok.IX,ok.iT⟩
section
variable {X:Cx}{pins:List (Addr×Obj)}{σ:St}{H:Hp}{s:Shared}{E:Value->Shared->Prop}
theorem Inv.NE (I:Inv X pins σ H s) (E:Value->Shared->Prop):Inv (X.NE E) pins σ H s:=⟨I.ok.NE E,I.os,I.bare,I.base,I.loc,I.cell,I.free,I.Gi,I.pin,I.Av,I.len⟩
theorem Inv.Gk (I:Inv (X.NE E) pins σ H s):Inv X pins σ H s:=⟨I.ok.Gk,I.os,I.bare,I.base,I.loc,I.cell,I.free,I.Gi,I.pin,I.Av,I.len⟩
theorem SP.Gk {D:Ends}{f:Flow}{s':Shared}(h:SP (X.NE E) pins D f s'):SP X pins D f s':=by
 cases f with
 |next=>obtain⟨σ',H',I,q⟩:=h;exact⟨σ',H',I.Gk,q⟩
 |brk=>obtain⟨σ',H',I,q⟩:=h;exact⟨σ',H',I.Gk,q⟩
 |cont=>obtain⟨σ',H',I,q⟩:=h;exact⟨σ',H',I.Gk,q⟩
 |ret u=>obtain⟨v,σ',H',I,r,q⟩:=h;exact⟨v,σ',H',I.Gk,r,q⟩
theorem U5.nW {st:List Stmt}{t:TS}(h:U5 X.nW st t):U5 X st t:=fun pins s σ H D I hw =>
 wpAny_mono (h pins s σ H D (I.NE _) hw) (fun _ _ q=>q.Gk) fun _ _ z=>zah z
end
section
variable {X:Cx}{st:Stmt}{rest:List Stmt}{t u:TS}{e:Expr}{te:TE}{pos:Pos}
noncomputable def nX:TS:=fun D σ H=>D.nx σ H
noncomputable def sE (t u:TS):TS:=fun D σ H=>t { D with nx:=u D } σ H
theorem Zn:U5 X [] nX:=fun _ _ σ H _ I h=>wpAny_execs_nil ⟨σ,H,I,h⟩
theorem WO (h1:PS X st t) (h2:U5 X rest u):U5 X (st::rest) (sE t u):=by
 intro pins s σ H D I h
 refine wpAny_execs_cons (Bg (h1 pins s σ H { D with nx:=u D } I h) fun f s1 q=>?_)
 cases f with
 |next =>
  obtain⟨σ',H',I',q⟩:=q
  exact h2 pins s1 σ' H' D I' q
 |ret v=>exact q
 |brk=>exact q
 |cont=>exact q
theorem Zo (h1:PS X st t):U5 X [st] t:=by
 intro pins s σ H D I h
 refine wpAny_execs_cons (Bg (h1 pins s σ H D I h) fun f s1 q=>?_)
 cases f with
 |next=>exact wpAny_execs_nil q
 |ret v=>exact q
 |brk=>exact q
 |cont=>exact q
theorem Inv.quiet {pins:List (Addr×Obj)}{σ:St}{H:Hp}{s:Shared}(I:Inv X pins σ H s):interactive X.env=false:=by simp[interactive,I.ok.kind]
noncomputable def nY (te:TE):TS:=fun D σ H=>te σ H fun _ H1=>D.nx σ H1
theorem Hi (he:PE X e te) (hs:swapsWith e none pos.line X.env=pure false:=by rfl):PS X (.Expr e pos) (nY te):=by
 intro pins s σ H D I h
 exact wpAny_Expr_any (Bg (he pins s σ H _ I h) fun v s1 ⟨x,H1,I1,r1,q1⟩=>⟨σ,H1,I1,q1⟩) I.quiet hs
noncomputable def sF (te:TE):TS:=fun D σ H=>te σ H D.rt
theorem Sx (he:PE X e te):PS X (.Return (some e) pos) (sF te):=by
 intro pins s σ H D I h
 exact wpAny_Return_some (Bg (he pins s σ H _ I h) fun v s1 ⟨x,H1,I1,r1,q1⟩=>⟨x,σ,H1,I1,r1,q1⟩)
noncomputable def sG (c:TT) (t u:TS):TS:=fun D σ H=>c σ H fun b H1=>if b=true then t D σ H1 else u D σ H1
theorem nZ {c:Expr}{a b:List Stmt}{tc:TT}(hc:PT X c tc) (ha:U5 X a t) (hb:U5 X b u):PS X (.If c a b pos) (sG tc t u):=by
 intro pins s σ H D I h
 refine wpAny_If (Bg (hc pins s σ H _ I h) fun d s1 ⟨H1,I1,q1⟩=>?_)
 cases d with
 |true=>exact ha pins s1 σ H1 D I1 q1
 |false=>exact hb pins s1 σ H1 D I1 q1
end
noncomputable abbrev TG:=V->St->Hp->(St->Hp->Prop)->Prop
noncomputable abbrev WC:=List V->St->Hp->(St->Hp->Prop)->Prop
noncomputable def PG (X:Cx) (target:Expr) (t:TG):Prop :=
 ∀(pins:List (Addr×Obj)) (s:Shared) (σ:St) (H:Hp) (v:V) (u:Value) (Q:St->Hp->Prop),Inv X pins σ H s->RelV v u->t v σ H Q->
  wpAny (model X.prog X.w) X.A (assign target X.env u) (fun _ s'=>∃ σ' H',Inv X pins σ' H' s'/\Q σ' H') X.xe s
noncomputable def mW (X:Cx) (ts:List Expr) (t:WC):Prop :=
 ∀(pins:List (Addr×Obj)) (s:Shared) (σ:St) (H:Hp) (vs:List V) (us:List Value) (Q:St->Hp->Prop),Inv X pins σ H s->Vals vs us->t vs σ H Q->
  wpAny (model X.prog X.w) X.A (assignInOrder ((assignEach ts X.env).map (·.2)) us) (fun _ s'=>∃ σ' H',Inv X pins σ' H' s'/\Q σ' H') X.xe s
noncomputable abbrev jE:=V->V->V->Hp->(Hp->Prop)->Prop
noncomputable def oA (X:Cx) (t:jE):Prop :=
 ∀(pins:List (Addr×Obj)) (s:Shared) (σ:St) (H:Hp) (o i v:V) (ov iv u:Value) (Q:Hp->Prop),Inv X pins σ H s->RelV o ov->RelV i iv->RelV v u->t o i v H Q->
  wpAny (model X.prog X.w) X.A (setItem ov iv u) (fun _ s'=>∃ H',Inv X pins σ H' s'/\Q H') X.xe s
section
variable {X:Cx}{pos:Pos}
noncomputable def O1 (i:Nat):TG:=fun v σ H Q=>Q (σ.set i (some v)) H
theorem P6 {i:Nat}{x:Str}(hN:X.N.Nodup) (hi:X.N[i]? =some x) (hx:Loc X.env.scope x) (hf:X.fn x=true\/X.env.scope.names.lookup x=some .local:=by first | exact .inl rfl | exact .inr rfl | assumption):PG X (.Name x pos) (O1 i):=by
 intro pins s σ H v u Q I r h
 exact wpAny_assign_Name (QG I hN hi hx r (fun s' I'=>⟨_,H,I',h⟩) hf)
noncomputable def jF:WC:=fun vs σ H Q=>vs=[]/\Q σ H
noncomputable def WQ (t:TG) (u:WC):WC:=fun vs σ H Q=>∃ v r,vs=v::r/\t v σ H fun σ' H'=>u r σ' H' Q
theorem U6:mW X [] jF:=by
 intro pins s σ H vs us Q I r h
 obtain⟨e,h⟩:=h
 subst e
 cases r
 exact assignInOrder_nil ⟨σ,H,I,h⟩
theorem QJ {e:Expr}{es:List Expr}{t:TG}{u:WC}(h1:PG X e t) (h2:mW X es u)
 (hs:(assignEach (e::es) X.env).map (·.2)=assign e X.env::(assignEach es X.env).map (·.2):=by rfl):mW X (e::es) (WQ t u):=by
 intro pins s σ H vs us Q I r h
 obtain⟨v,vr,e1,h⟩:=h
 subst e1
 cases r with
 |cons r rr =>
  rw[hs]
  refine assignInOrder_cons (Bg (h1 pins s σ H _ _ _ I r h) fun _ s1 ⟨σ1,H1,I1,q1⟩=>?_)
  exact h2 pins s1 σ1 H1 _ _ Q I1 rr q1
noncomputable def jG (K:za) (n:Nat) (t:WC):TG:=fun v σ H Q=>∃ a xs,v=.ref a/\Fs K H a xs/\xs.length=n/\t xs σ H Q
theorem WR {es:List Expr}{k:Nat}{t:WC}{n:Nat}(hc:X.calm=true) (h:mW X es t)
 (hn:(assignEach es X.env).length=n:=by rfl) (aY:(assignEach es X.env).findIdx? (·.1)=none:=by rfl):PG X (.Tuple es k pos) (jG X.K n t):=by
 intro pins s σ H v u Q I r hw
 obtain⟨a,xs,e1,hq,hl,hw⟩:=hw
 subst e1
 cases r
 obtain⟨aa,rv,ht,hz⟩:=I.tuple hq
 refine assign_Tuple_tuple (I.ok.hd hc) ht (by simp[hn,<-hl,rv.length]) aY fun h' hx=>?_
 have I1:Inv X pins σ H { s with heap:=h' }:=I.kept (t':=s.toks) fun b o e=>hx b o (zG (zw e)) e
 exact h pins _ σ H xs _ Q I1 (by simpa using rv) hw
noncomputable def sH (to ti:TE) (t:jE):TG:=fun v σ H Q=>to σ H fun o H1=>ti σ H1 fun i H2=>t o i v H2 fun H3=>Q σ H3
theorem WS {o i:Expr}{to ti:TE}{t:jE}(ho:PE X o to) (hi:PE X i ti) (hs:oA X t)
 (ha:∀ v,assign (.Subscript o i pos) X.env v=(do
  let ov <-holding [v] (eval o X.env)
  let iv <-holding [v,ov] (eval i X.env)
  standAt pos
  holding [v,ov,iv] (setItem ov iv v)
  release [v,ov,iv] []):=by intro _;rfl):PG X (.Subscript o i pos) (sH to ti t):=by
 intro pins s σ H v u Q I r h
 rw[ha]
 refine wpAny_bind (wpAny_holding (Bg (ho pins s σ H _ I h) fun ov s1 ⟨x,H1,I1,r1,q1⟩=>?_))
 refine wpAny_bind (wpAny_holding (Bg (hi pins s1 σ H1 _ I1 q1) fun iv s2 ⟨y,H2,I2,r2,q2⟩=>?_))
 refine wpAny_bind (wpAny_standAt (wpAny_bind (wpAny_holding (Bg (hs pins s2 σ H2 x y v ov iv u _ I2 r1 r2 r q2) fun _ s3 ⟨H3,I3,q3⟩=>?_))))
 exact wpAny_release ⟨σ,H3,I3,q3⟩
noncomputable def oB (te:TE) (g:TG):TS:=fun D σ H=>te σ H fun x H1=>g x σ H1 D.nx
theorem WT {tg e:Expr}{te:TE}{g:TG}(he:PE X e te) (hg:PG X tg g) (hs:swapsWithSole [tg] e pos.line X.env=pure false:=by rfl) (hw:swappedStores [tg] e X.env=pure none:=by rfl)
 (h1:(assignEach [tg] X.env).map (·.2)=[assign tg X.env]:=by rfl):PS X (.Assign [tg] e pos) (oB te g):=by
 intro pins s σ H D I h
 refine wpAny_Assign_stores (Bg (he pins s σ H _ I h) fun v s1 ⟨x,H1,I1,r1,q1⟩=>?_) hs hw
 rw[h1]
 exact Bg (hg pins s1 σ H1 x v _ I1 r1 q1) fun _ s2 q=>q
theorem Sy {i:Nat}{x:Str}{e:Expr}{te:TE}{pos':Pos}(hN:X.N.Nodup) (hi:X.N[i]? =some x) (hx:Loc X.env.scope x) (he:PE X e te) (hs:swapsWith e (some (.Name x pos')) pos.line X.env=pure false:=by rfl) (hf:X.fn x=true\/X.env.scope.names.lookup x=some .local:=by first | exact .inl rfl | exact .inr rfl | assumption) :
 PS X (.Assign [.Name x pos'] e pos) (oB te (O1 i)):=by
 intro pins s σ H D I h
 refine wpAny_Assign_Name (Bg (he pins s σ H _ I h) fun v s1 ⟨y,H1,I1,r1,q1⟩=>?_) hs
 exact QG I1 hN hi hx r1 (fun s2 I2=>⟨_,H1,I2,q1⟩) hf
end
section
variable {X:Cx}{pos:Pos}
noncomputable def jH (c:TT) (tb:TS):TS:=fun D σ H=>∃ W:Nat->St->Hp->Prop,(∃ m,W m σ H)/\∀ m σ H,W m σ H->
 c σ H fun b H1=>if b=true then ∃ N:St->Hp->Prop,(∀ σ' H',N σ' H'->∃ m',m' < m/\W m' σ' H')/\tb { D with nx:=N,ct:=N,bk:=D.nx } σ H1 else D.nx σ H1
theorem WU {c:Expr}{body:List Stmt}{tc:TT}{tb:TS}(hp:PassesOwn (model X.prog X.w) X.A X.env X.xe) (hc:PT X c tc) (hb:U5 X body tb):PS X (.While c body [] pos) (jH tc tb):=by
 intro pins s σ H D I h
 obtain⟨W,⟨m0,w0⟩,turn⟩:=h
 refine wpAny_While (codeAny_whileLoop (fun n s'=>∃ σ' H',Inv X pins σ' H' s'/\W n σ' H') ?_ m0 ⟨σ,H,I,w0⟩)
 rintro n s1 ⟨σ1,H1,I1,w1⟩
 refine wpAny_passesOwn hp (Bg (hc pins s1 σ1 H1 _ I1 (turn n σ1 H1 w1)) fun b s2 ⟨H2,I2,q2⟩=>?_)
 cases b with
 |true =>
  obtain⟨N,hN,q2⟩:=q2
  rw[if_pos rfl]
  refine wpAny_passesOwn hp (Bg (hb pins s2 σ1 H2 _ I2 q2) fun f s3 q3=>?_)
  cases f with
  |next =>
   obtain⟨σ3,H3,I3,n3⟩:=q3
   obtain⟨m',hm,w3⟩:=hN σ3 H3 n3
   exact⟨m',hm,σ3,H3,I3,w3⟩
  |cont =>
   obtain⟨σ3,H3,I3,n3⟩:=q3
   obtain⟨m',hm,w3⟩:=hN σ3 H3 n3
   exact⟨m',hm,σ3,H3,I3,w3⟩
  |brk=>exact q3
  |ret v=>exact q3
 |false =>
  rw[if_neg zM]
  exact wpAny_execs_nil ⟨σ1,H2,I2,q2⟩
end
structure It where
 go:Nat->Hp->Prop
 gN:Nat->Hp->V->Hp->Prop
 stop:Nat->Hp->Prop
noncomputable def Ld (X:Cx) (pins:List (Addr×Obj)) (H:Hp) (b:Addr):Prop :=
 H b=none/\b≠X.env.locals/\b∉X.fs/\(b∈X.ex\/X.s₀.heap.objs.size<=b)/\(∀ x c,X.env.cells.lookup x=some c->c≠b)/\∀ p∈X.pn++pins,p.1≠b
theorem Inv.WV {X:Cx}{pins:List (Addr×Obj)}{σ:St}{H H':Hp}{s:Shared}{b:Addr}(I:Inv X pins σ H s) (hb:s.heap.objs.size<=b) (hn:H' b=none):Ld X pins H' b:=by
 refine⟨hn,Nat.ne_of_gt (zB I.lt hb),I.rX hb,.inr (yP I.sz hb),fun x c e z=>?_,fun p hp z=>?_⟩
 ·obtain⟨v,q⟩:=I.cell x c e
  exact absurd (zB q.lt (by rw[z];exact hb)) (Nat.lt_irrefl _)
 ·exact absurd (zB (zw (I.pin p hp).1) (by rw[z];exact hb)) (Nat.lt_irrefl _)
structure Turn (P:Program) (w:World) (K:za) (tg:Expr) (J:It) (fp:List Addr) (it:Addr) (tn:Nat->Heap->Prop):Prop where
 mem:it∈fp
 obj:∀ i h,tn i h->∀ b∈fp,∃ o,h.get? b=some o/\∀ v,o.data≠.cell v
 keep:∀ i h h',tn i h->(∀ b∈fp,∀ o,h.get? b=some o->h'.get? b=some o)->tn i h'
 item:∀(X:Cx),X.prog=P->X.w=w->X.K=K->X.calm=true->∀(i:Nat) (pins:List (Addr×Obj)) (s:Shared) (σ:St) (H:Hp) (E:Value->Shared->Prop),Inv X pins σ H s->(∀ b∈fp,Ld X pins H b)->tn i s.heap->J.go i H->
  wpAny (model P w) X.A (pyNext (.ref it)) (fun r s1=>∃ u,r=some u /\
   wpAny (model P w) X.A (letOwnedTupleGo tg (.ref it) u) (fun _ s2=>∃ x H',Inv X pins σ H' s2/\RelV x u/\J.gN i H x H'/\tn (i + 1) s2.heap/\∀ b∈fp,H' b=none) E s1) E s
 done:∀(X:Cx),X.prog=P->X.w=w->X.K=K->X.calm=true->∀(i:Nat) (pins:List (Addr×Obj)) (s:Shared) (σ:St) (H:Hp) (E:Value->Shared->Prop),Inv X pins σ H s->(∀ b∈fp,Ld X pins H b)->tn i s.heap->J.stop i H->
  wpAny (model P w) X.A (pyNext (.ref it)) (fun r s1=>r=none/\Inv X pins σ H s1) E s
 self:∀(A:Around) (i:Nat) (s:Shared) (Q:Value->Shared->Prop) (E:Value->Shared->Prop),tn i s.heap->Q (.ref it) s->wpAny (model P w) A (pyIter (.ref it)) Q E s
noncomputable abbrev TI:=St->Hp->(It->Hp->Prop)->Prop
noncomputable def uA (X:Cx) (pins:List (Addr×Obj)) (σ:St) (tg:Expr) (R:It->Hp->Prop) (kt:Value) (s2:Shared):Prop :=
 ∃(it:Addr) (fp:List Addr) (tn:Nat->Heap->Prop) (J:It) (H':Hp),kt=.ref it/\Inv X pins σ H' s2/\Turn X.prog X.w X.K tg J fp it tn/\tn 0 s2.heap/\(∀ b∈fp,Ld X pins H' b)/\R J H'
noncomputable def PI (X:Cx) (tg iter:Expr) (wi:TI):Prop :=
 ∀(pins:List (Addr×Obj)) (s:Shared) (σ:St) (H:Hp) (R:It->Hp->Prop),Inv X pins σ H s->wi σ H R->
  wpAny (model X.prog X.w) X.A (eval iter X.env) (fun v s1=>wpAny (model X.prog X.w) X.A (pyIter v) (uA X pins σ tg R) X.xe s1) X.xe s
theorem WW {M:Model}{A:Around}{E:Value->Shared->Prop}{s:Shared}{tg:Expr}{it:Addr}{u:Value}{o:Obj}{n:String}{vs:Array Value}{Q:Unit->Shared->Prop}(ho:s.heap.get? it=some o) (hc:o.cls=.type n) (hd:o.data=.fields vs)
 (hn:["enumerate","zip","dict_itemiterator","dict_reverseitemiterator","odict_iterator","itertools.zip_longest","itertools.pairwise"].contains n=false) (hQ:Q () s):wpAny M A (letOwnedTupleGo tg (.ref it) u) Q E s:=by
 unfold letOwnedTupleGo
 cases tg<;>first
  |exact wpAny_pure hQ
  |(cases u<;>first
   |exact wpAny_pure hQ
   |(
    refine wpAny_bind (wpAny_load ho ?_)
    rw[hc,hd]
    show wpAny M A (if (["enumerate","zip","dict_itemiterator","dict_reverseitemiterator","odict_iterator","itertools.zip_longest","itertools.pairwise"].contains n && vs[0]? == some (rawInt _))=true then _ else _) Q E s
    rw[if_neg (by intro h;rw[hn,Bool.false_and] at h;cases h)]
    exact wpAny_pure hQ))
noncomputable def uB (K:za) (a:Addr):It :=
 ⟨fun i H=>∃ xs x,Dm K H a xs/\xs[i]? =some x,fun i H x H'=>H'=H/\∀ xs,Dm K H a xs->xs[i]? =some x,fun i H=>∃ xs,Dm K H a xs/\xs.length<=i⟩
noncomputable def qX (lo:Int) (n:Nat):It:=⟨fun i _=>i < n,fun i H x H'=>H'=H/\x=.int (lo + i),fun i _=>n<=i⟩
theorem Vl {P:Program}{w:World}{K:za}{tg:Expr}(a it:Addr):Turn P w K tg (uB K a) [it] it (fun i h=>h.IsListIter it a i) where
 mem:=by simp
 obj:=fun i h st b hb=>by
  have e:b=it:=by simpa using hb
  subst e
  obtain⟨o,e,c,d⟩:=st
  exact⟨o,e,fun v z=>by rw[d] at z;cases z⟩
 keep:=fun i h h' st k=>st.at fun o e=>k it (by simp) o e
 item:=by
  intro X hP hw hK hc i pins s σ H E I hf st hg
  subst hP hw hK
  obtain⟨xs,x,hq,hx⟩:=hg
  obtain⟨aa,rv,p,hz⟩:=I.list hq
  obtain⟨u,hu,ru⟩:=rv.get hx
  obtain⟨f0,f1,f2,f3,f4,f5⟩:=hf it (by simp)
  refine wpAny_pyNext_list_item st p.isList (x:=u) (by simpa using hu) fun h' cq sb=>?_
  have I1:Inv X pins σ H { s with heap:=h' }:=I.turned (t':=s.toks) (fun b o hb e=>(sb.2 b hb).trans e) f0 f1 f3 f4 f5
  obtain⟨o,e,c,d⟩:=id cq
  exact⟨u,rfl,WW (s:={ s with heap:=h' }) e c d (by decide) ⟨x,H,I1,ru,⟨rfl,fun ys hy=>by rw[I.Gj hy hq];exact hx⟩,cq,fun b hb=>(hf b hb).1⟩⟩
 done:=by
  intro X hP hw hK hc i pins s σ H E I hf st hg
  subst hP hw hK
  obtain⟨xs,hq,hx⟩:=hg
  obtain⟨aa,rv,p,hz⟩:=I.list hq
  obtain⟨f0,f1,f2,f3,f4,f5⟩:=hf it (by simp)
  have hl:=rv.length
  exact wpAny_pyNext_list_end (I.ok.hd hc) st p.isList (by simp;omega) fun h' eb=>⟨rfl,I.turned (t':=s.toks) (fun b o hb e=>eb b o hb e) f0 f1 f3 f4 f5⟩
 self:=fun _ _ _ _ _ st h=>wpAny_pyIter_listiter st h
theorem Sz {P:Program}{w:World}{K:za}{tg:Expr}(it:Addr) (lo:Int) (n:Nat):Turn P w K tg (qX lo n) [it] it (fun i h=>IsRangeIter h it (lo + (i:Nat) * 1) ((n:Int) - (i:Nat)) 1) where
 mem:=by simp
 obj:=fun i h st b hb=>by
  have e:b=it:=by simpa using hb
  subst e
  exact⟨_,st,fun v z=>by
   have z':Data.fields _=Data.cell v:=z
   cases z'⟩
 keep:=fun i h h' st k=>k it (by simp) _ st
 item:=by
  intro X hP hw hK hc i pins s σ H E I hf st hg
  subst hP hw hK
  obtain⟨f0,f1,f2,f3,f4,f5⟩:=hf it (by simp)
  have W:=Walks.range (prog:=X.prog) (w:=X.w) (I.ok.hd hc) it lo 1 n
  refine W.item i s _ _ hg st fun v h' tk hv cq kk=>?_
  obtain⟨t,rfl⟩:=hv
  have I1:Inv X pins σ H { s with heap:=h',toks:=tk }:=I.turned (fun b o hb e=>kk b o (by simpa using hb) e) f0 f1 f3 f4 f5
  refine⟨_,rfl,WW (s:={ s with heap:=h',toks:=tk }) (n := "range_iterator") cq rfl rfl (by decide) ⟨.int (lo + i),H,I1,⟨t,?_⟩,⟨rfl,rfl⟩,cq,fun b hb=>(hf b hb).1⟩⟩
  rw[Int.mul_one]
 done:=by
  intro X hP hw hK hc i pins s σ H E I hf st hg
  subst hP hw hK
  obtain⟨f0,f1,f2,f3,f4,f5⟩:=hf it (by simp)
  exact wpAny_pyNext_range_end (I.ok.hd hc) st (by have:n<=i:=hg;omega) fun h' eb=>⟨rfl,I.turned (t':=s.toks) (fun b o hb e=>eb b o hb e) f0 f1 f3 f4 f5⟩
 self:=fun _ _ _ _ _ st h=>wpAny_pyIter_rangeiter st h
section
variable {X:Cx}{tg:Expr}
noncomputable def oC (K:za) (tl:TE):TI:=fun σ H R=>tl σ H fun x H1=>∃ a,x=.ref a/\(∃ xs,Dm K H1 a xs)/\R (uB K a) H1
theorem Zp {l:Expr}{tl:TE}(hl:PE X l tl):PI X tg l (oC X.K tl):=by
 intro pins s σ H R I h
 refine Bg (hl pins s σ H _ I h) fun v s1 ⟨x,H1,I1,r1,q1⟩=>?_
 obtain⟨a,e,⟨xs,hq⟩,q⟩:=q1
 subst e
 cases r1
 obtain⟨aa,rv,p,hz⟩:=I1.list hq
 refine wpAny_pyIter_list p.isList ?_
 refine⟨s1.heap.objs.size,[s1.heap.objs.size],_,_,H1,rfl,I1.kept (t':=s1.toks) fun b o e=>zr _ e,Vl a _,⟨_,zH _ rfl,rfl,rfl⟩,fun b hb=>?_,q⟩
 have e:b=s1.heap.objs.size:=by simpa using hb
 subst e
 exact I1.WV (zA _) (I1.Av.fresh (zA _))
theorem WY {pins:List (Addr×Obj)}{σ:St}{H:Hp}{s:Shared}{R:It->Hp->Prop}{E:Value->Shared->Prop}{lo hi:Int}{t u v:Tok}{tk:Nat}(I:Inv X pins σ H s) (h1 : -(2 ^ 62)<=lo) (h2:lo < 2 ^ 62) (h3 : -(2 ^ 62)<=hi) (h4:hi < 2 ^ 62)
 (q:R (qX lo (hi - lo).toNat) H):wpAny (model X.prog X.w) X.A (pyIter (.ref s.heap.objs.size)) (uA X pins σ tg R) E { s with heap:=s.heap.push { cls:=.type "range",data:=.fields #[.int lo t,.int hi u,.int 1 v] },toks:=tk }:=by
 refine wpAny_pyIter_range (IsRange.new ..) (small_one h1 h2 h3 h4) ?_
 have I1:Inv X pins σ H { s with heap:=s.heap.push { cls:=.type "range",data:=.fields #[.int lo t,.int hi u,.int 1 v] },toks:=tk }:=I.kept fun b o e=>zr _ e
 refine⟨(s.heap.push { cls:=.type "range",data:=.fields #[.int lo t,.int hi u,.int 1 v] }).objs.size,[(s.heap.push { cls:=.type "range",data:=.fields #[.int lo t,.int hi u,.int 1 v] }).objs.size],_,_,H,rfl,
  I1.kept (t':=tk) fun b o e=>zr _ e,Sz _ lo (hi - lo).toNat,?_,fun b hb=>?_,q⟩
 ·have e1:lo + ((0:Nat):Int) * 1=lo:=by simp
  have e2:(((hi - lo).toNat:Nat):Int) - ((0:Nat):Int)=Builtin.Range.rangeSize lo hi 1:=by rw[rangeSize_one];split<;>omega
  show IsRangeIter _ _ (lo + ((0:Nat):Int) * 1) ((((hi - lo).toNat:Nat):Int) - ((0:Nat):Int)) 1
  rw[e1,e2]
  exact zH _ rfl
 ·have e:b=(s.heap.push { cls:=.type "range",data:=.fields #[.int lo t,.int hi u,.int 1 v] }).objs.size:=by simpa using hb
  subst e
  exact I1.WV (zA _) (I1.Av.fresh (zA _))
noncomputable def oE (ta:TA):TI:=fun σ H R=>ta σ H fun vs H1=>∃ j:Int,vs=[.int j]/\-(2 ^ 62)<=j/\j < 2 ^ 62/\R (qX 0 j.toNat) H1
theorem Vm {a:Expr}{ta:TA}{p pos:Pos}(hg:Gl X "range") (hm:X.mg "range" = none) (ha:PA X [a] ta) (hs:starEach [a] X.env=[(false,eval a X.env)]:=by rfl):PI X tg (.Call (.Name "range" p) [a] [] pos) (oE ta):=by
 intro pins s σ H R I h
 refine Call_ (E6 I hg hm boot_range (yO (Bg (ha pos pins s σ H _ I h) fun us s1 ⟨vs,H1,I1,r1,q1⟩=>?_) hs rfl))
 obtain⟨j,e,q1,q2,q⟩:=q1
 subst e
 cases r1 with
 |cons r rr =>
  cases rr
  obtain⟨t,rfl⟩:=r
  exact call_range_1 (WY I1 (by omega) (by omega) q1 q2 (by simpa using q))
noncomputable def sI (wi:TI) (g:TG) (tb:TS):TS:=fun D σ H=>wi σ H fun J H1=>∃ W:Nat->Nat->St->Hp->Prop,(∃ m,W 0 m σ H1)/\∀ i m σ H,W i m σ H->
 (J.stop i H/\D.nx σ H)\/(J.go i H/\∃ N:St->Hp->Prop,(∀ σ' H',N σ' H'->∃ m',m' < m/\W (i + 1) m' σ' H')/\∀ x H',J.gN i H x H'->g x σ H' fun σ2 H2=>tb { D with nx:=N,ct:=N,bk:=D.nx } σ2 H2)
noncomputable def Ii (fp:List Addr) (h:Heap):List (Addr×Obj):=fp.filterMap fun b=>(h.get? b).map fun o=>(b,o)
theorem Ft {fp:List Addr}{h:Heap}{b:Addr}{o:Obj}(hb:b∈fp) (e:h.get? b=some o):(b,o)∈Ii fp h:=List.mem_filterMap.mpr ⟨b,hb,by rw[e];rfl⟩
theorem O2 {fp:List Addr}{h:Heap}{p:Addr×Obj}(hp:p∈Ii fp h):p.1∈fp/\h.get? p.1=some p.2:=by
 obtain⟨b,hb,e⟩:=List.mem_filterMap.mp hp
 cases q:h.get? b with
 |none=>rw[q] at e;cases e
 |some o =>
  rw[q] at e
  have e':(b,o)=p:=zI e
  subst e'
  exact⟨hb,q⟩
theorem Inv.pinned {pins:List (Addr×Obj)}{σ:St}{H:Hp}{s:Shared}{fp:List Addr}(I:Inv X pins σ H s) (hf:∀ b∈fp,Ld X pins H b) (ho:∀ b∈fp,∃ o,s.heap.get? b=some o/\∀ v,o.data≠.cell v):Inv X (pins++Ii fp s.heap) σ H s :=
 I.IY fun p hp=>(zx.mp hp).elim (fun z=>I.pin p (zp _ z)) fun z=>by
  obtain⟨hb,e⟩:=O2 z
  obtain⟨f0,f1,f2,_⟩:=hf p.1 hb
  obtain⟨o,e',d⟩:=ho p.1 hb
  rw[e] at e';cases e'
  exact⟨e,f0,f1,f2,d⟩
theorem Inv.IZ {pins pl:List (Addr×Obj)}{σ:St}{H:Hp}{s:Shared}(I:Inv X (pins++pl) σ H s):Inv X pins σ H s:=I.IY fun p hp=>I.pin p (zp _ (zN _ hp))
theorem jI {iter:Expr}{body:List Stmt}{wi:TI}{g:TG}{tb:TS}{pos:Pos}(hp:PassesOwn (model X.prog X.w) X.A X.env X.xe) (hc:X.calm=true) (hi:PI X tg iter wi) (hg:PG X tg g) (hb:U5 X body tb)
 (hs:∀ x,foldedSetIterable iter X.env x=pure x:=by intro _;rfl):PS X (.For tg iter body [] pos) (sI wi g tb):=by
 intro pins s σ H D I h
 refine wpAny_For (Bg (hi pins s σ H _ I h) fun v s1 h1=>Bg h1 fun kt s2 h2=>?_) hs
 obtain⟨it,fp,tn,J,H2,e,I2,T,cP,f2,W,⟨m0,w0⟩,turn⟩:=h2
 subst e
 have bG:∀ {H':Hp},(∀ b∈fp,H' b=none)->∀ b∈fp,Ld X pins H' b:=fun hn b hb=>⟨hn b hb,(f2 b hb).2⟩
 refine codeAny_forLoop_any (fun n s'=>∃ i σ' H',Inv X pins σ' H' s'/\tn i s'.heap/\(∀ b∈fp,H' b=none)/\W i n σ' H') ?_ m0 ⟨0,σ,H2,I2,cP,fun b hb=>(f2 b hb).1,w0⟩
 rintro n s3 ⟨i,σ3,H3,I3,iq,ir,w3⟩
 rcases turn i n σ3 H3 w3 with ⟨stop,qn⟩|⟨go,N,hN,step⟩
 ·refine wpAny_passesOwn hp (Bg (T.done X rfl rfl rfl hc i pins s3 σ3 H3 X.xe I3 (bG ir) iq stop) fun r s4 ⟨hr,I4⟩=>?_)
  subst hr
  exact wpAny_execs_nil ⟨σ3,H3,I4,qn⟩
 ·refine wpAny_passesOwn hp (Bg (T.item X rfl rfl rfl hc i pins s3 σ3 H3 X.xe I3 (bG ir) iq go) fun r s4 ⟨u,hr,h4⟩=>?_)
  subst hr
  refine wpAny_passesOwn hp (Bg h4 fun _ s5 ⟨x,H5,I5,r5,y5,ef,mi⟩=>?_)
  have ml:=I5.pinned (bG mi) (T.obj _ _ ef)
  refine wpAny_passesOwn hp (Bg (hg _ s5 σ3 H5 x u _ ml r5 (step x H5 y5)) fun _ s6 ⟨σ6,H6,I6,q6⟩=>?_)
  refine wpAny_passesOwn hp (Bg (hb _ s6 σ6 H6 _ I6 q6) fun f s7 q7=>?_)
  have again:∀ {σ7:St} {H7:Hp},Inv X (pins++Ii fp s5.heap) σ7 H7 s7->N σ7 H7->∃ m,m < n/\∃ i σ' H',Inv X pins σ' H' s7/\tn i s7.heap/\(∀ b∈fp,H' b=none)/\W i m σ' H':=fun {σ7 H7} I7 n7=>by
   obtain⟨m',hm,w7⟩:=hN σ7 H7 n7
   refine⟨m',hm,i + 1,σ7,H7,I7.IZ,T.keep _ _ _ ef fun b hb o e=>(I7.pin (b,o) (zp _ (zp _ (Ft hb e)))).1,fun b hb=>?_,w7⟩
   obtain⟨o,e,d⟩:=T.obj _ _ ef b hb
   exact (I7.pin (b,o) (zp _ (zp _ (Ft hb e)))).2.1
  cases f with
  |next=>obtain⟨σ7,H7,I7,n7⟩:=q7;exact again I7 n7
  |cont=>obtain⟨σ7,H7,I7,n7⟩:=q7;exact again I7 n7
  |brk=>obtain⟨σ7,H7,I7,q7⟩:=q7;exact⟨σ7,H7,I7.IZ,q7⟩
  |ret v=>obtain⟨x7,σ7,H7,I7,r7,q7⟩:=q7;exact⟨x7,σ7,H7,I7.IZ,r7,q7⟩
end
noncomputable abbrev R2:=V->V->Hp->VK->Prop
noncomputable def Gm (X:Cx) (f:Value->Value->Sem Value) (r:R2):Prop :=
 ∀(pins:List (Addr×Obj)) (s:Shared) (σ:St) (H:Hp) (x y:V) (v u:Value) (Q:VK),Inv X pins σ H s->RelV x v->RelV y u->r x y H Q->
  wpAny (model X.prog X.w) X.A (f v u) (EP X pins σ Q) X.xe s
noncomputable def sJ (X:Cx) (f:Value->Sem Value) (r:V->Hp->VK->Prop):Prop :=
 ∀(pins:List (Addr×Obj)) (s:Shared) (σ:St) (H:Hp) (x:V) (v:Value) (Q:VK),Inv X pins σ H s->RelV x v->r x H Q->
  wpAny (model X.prog X.w) X.A (f v) (EP X pins σ Q) X.xe s
noncomputable def Gn (X:Cx) (f:Value) (r:List V->Hp->VK->Prop):Prop :=
 ∀(pins:List (Addr×Obj)) (s:Shared) (σ:St) (H:Hp) (xs:List V) (us:List Value) (Q:VK),Inv X pins σ H s->Vals xs us->r xs H Q->
  wpAny (model X.prog X.w) X.A (call f us) (EP X pins σ Q) X.xe s
noncomputable def sL (X:Cx) (r:V->Hp->(Bool->Hp->Prop)->Prop):Prop :=
 ∀(pins:List (Addr×Obj)) (s:Shared) (σ:St) (H:Hp) (x:V) (v:Value) (Q:Bool->Hp->Prop),Inv X pins σ H s->RelV x v->r x H Q->
  wpAny (model X.prog X.w) X.A (truthy v) (TP X pins σ Q) X.xe s
noncomputable def mX (r:R2) (ta tb:TE):TE:=fun σ H Q=>ta σ H fun x H1=>tb σ H1 fun y H2=>r x y H2 Q
noncomputable def vM (r:V->Hp->VK->Prop) (ta:TE):TE:=fun σ H Q=>ta σ H fun x H1=>r x H1 Q
noncomputable def rI (C:Int->Int->Prop) (g:Int->Int->V):R2:=fun x y H Q=>∃ i j,x=.int i/\y=.int j/\C i j/\Q (g i j) H
noncomputable def Zd (g:Int->Int->V):R2:=fun x y H Q=>∃ i j,x=.int i/\y=.int j/\Q (g i j) H
noncomputable def rU (g:Int->V):V->Hp->VK->Prop:=fun x H Q=>∃ i,x=.int i/\Q (g i) H
section
variable {X:Cx}{a b c:Expr}{ta tb tc:TE}{pos:Pos}
theorem jJ (ha:PE X a ta) (hb:PE X b tb){pins:List (Addr×Obj)}{s:Shared}{σ:St}{H:Hp}{R:V->V->Hp->Prop}(I:Inv X pins σ H s)
 (h:ta σ H fun x H1=>tb σ H1 fun y H2=>R x y H2) {Q:Value->Shared->Prop} {f:Value->Value->Sem Value}
 (hf:∀ v u s2 x y H2,Inv X pins σ H2 s2->RelV x v->RelV y u->R x y H2->wpAny (model X.prog X.w) X.A (f v u) Q X.xe s2) :
 wpAny (model X.prog X.w) X.A (eval a X.env) (fun v s₁=>wpAny (model X.prog X.w) X.A (eval b X.env) (fun u s₂=>wpAny (model X.prog X.w) X.A (f v u) Q X.xe s₂) X.xe s₁) X.xe s:=by
 refine Bg (ha pins s σ H _ I h) fun v s1 ⟨x,H1,I1,r1,q1⟩=>?_
 refine Bg (hb pins s1 σ H1 _ I1 q1) fun u s2 ⟨y,H2,I2,r2,q2⟩=>?_
 exact hf v u s2 x y H2 I2 r1 r2 q2
theorem WZ {op:Operator}{r:R2}(ho:Gm X (binaryOp op) r) (ha:PE X a ta) (hb:PE X b tb):PE X (.BinOp a op b pos) (mX r ta tb):=by
 intro pins s σ H Q I h
 exact wpAny_BinOp (jJ ha hb I h fun v u s2 x y H2 I2 rx ry q=>ho pins s2 σ H2 x y v u Q I2 rx ry q)
theorem oF {op:UnaryOp}{r:V->Hp->VK->Prop}(ho:sJ X (unaryOp op) r) (ha:PE X a ta):PE X (.UnaryOp op a pos) (vM r ta):=by
 intro pins s σ H Q I h
 exact UnaryOp_ (Bg (ha pins s σ H _ I h) fun v s1 ⟨x,H1,I1,r1,q1⟩=>ho pins s1 σ H1 x v Q I1 r1 q1)
theorem qY {f:Value->Value->Sem Value}{C:Int->Int->Prop}{g:Int->Int->Int}
 (rule:∀(i j:Int) (t u:Tok) (s:Shared) (Q:Value->Shared->Prop) (E:Value->Shared->Prop),C i j->Q (.int (g i j) s.toks) { s with toks:=s.toks + 1 }->wpAny (model X.prog X.w) X.A (f (.int i t) (.int j u)) Q E s) :
 Gm X f (rI C fun i j=>.int (g i j)):=by
 intro pins s σ H x y v u Q I rx ry h
 obtain⟨i,j,rfl,rfl,hc,q⟩:=h
 obtain⟨t,rfl⟩:=rx
 obtain⟨t',rfl⟩:=ry
 exact rule i j t t' s _ _ hc ⟨.int (g i j),H,I.tok _,⟨_,rfl⟩,q⟩
theorem oG {f:Value->Value->Sem Value}{g:Int->Int->Int}
 (rule:∀(i j:Int) (t u:Tok) (s:Shared) (Q:Value->Shared->Prop) (E:Value->Shared->Prop),Q (.int (g i j) s.toks) { s with toks:=s.toks + 1 }->wpAny (model X.prog X.w) X.A (f (.int i t) (.int j u)) Q E s) :
 Gm X f (Zd fun i j=>.int (g i j)):=by
 intro pins s σ H x y v u Q I rx ry h
 obtain⟨i,j,rfl,rfl,q⟩:=h
 obtain⟨t,rfl⟩:=rx
 obtain⟨t',rfl⟩:=ry
 exact rule i j t t' s _ _ ⟨.int (g i j),H,I.tok _,⟨_,rfl⟩,q⟩
theorem jK {f:Value->Value->Sem Value}{g:Int->Int->Bool}
 (rule:∀(i j:Int) (t u:Tok) (s:Shared) (Q:Value->Shared->Prop) (E:Value->Shared->Prop),Q (.bool (g i j)) s->wpAny (model X.prog X.w) X.A (f (.int i t) (.int j u)) Q E s) :
 Gm X f (Zd fun i j=>.bl (g i j)):=by
 intro pins s σ H x y v u Q I rx ry h
 obtain⟨i,j,rfl,rfl,q⟩:=h
 obtain⟨t,rfl⟩:=rx
 obtain⟨t',rfl⟩:=ry
 exact rule i j t t' s _ _ ⟨.bl (g i j),H,I,rfl,q⟩
noncomputable def X0 (i j:Int):Prop:=0 < j/\j < 1073741824
noncomputable def Zq (i j:Int):Prop:=0<=j/\j<=1000000/\i.natAbs < 2 ^ 64
noncomputable def X1 (i j:Int):Prop:=(-(2 ^ 64) < i/\i < 2 ^ 64)\/(-(2 ^ 64) < j/\j < 2 ^ 64)
theorem X1.ok {i j:Int}(h:X1 i j):IntMulOk i j:=by
 rcases h with ⟨h1,h2⟩|⟨h1,h2⟩
 ·exact .of_left (intBits_le_64 h1 h2)
 ·exact .of_right (intBits_le_64 h1 h2)
theorem jL:Gm X (binaryOp .Add) (Zd fun i j=>.int (i + j)):=oG fun _ _ _ _ _ _ _ q=>add_int q
theorem jM:Gm X (binaryOp .Sub) (Zd fun i j=>.int (i - j)):=oG fun _ _ _ _ _ _ _ q=>sub_int q
theorem Zr:Gm X (binaryOp .FloorDiv) (rI X0 fun i j=>.int (i / j)):=qY fun i j _ _ _ _ _ hc q=>by
 have h1:(0:Int) < j:=hc.1
 have h2:j < 1073741824:=hc.2
 exact floordiv_int (by omega) (by rw[Int.fdiv_eq_ediv_of_nonneg i (by omega)];exact q) (.inl (PyProof.noPylong_small (by omega)))
theorem jN:Gm X (binaryOp .Mod) (rI (fun _ j=>0 < j) fun i j=>.int (i % j)):=qY fun i j _ _ _ _ _ hc q=>by
 have h1:(0:Int) < j:=hc
 exact mod_int' (by omega) (by rw[Int.fmod_eq_emod_of_nonneg i (by omega)];exact q)
theorem jO:Gm X (binaryOp .Pow) (rI Zq fun i j=>.int (i ^ j.toNat)):=qY fun _ _ _ _ _ _ _ hc q=>pow_int_small hc.1 hc.2.1 hc.2.2 q
theorem vN {f:Value->Sem Value}{g:Int->Int}
 (rule:∀(i:Int) (t:Tok) (s:Shared) (Q:Value->Shared->Prop) (E:Value->Shared->Prop),Q (.int (g i) s.toks) { s with toks:=s.toks + 1 }->wpAny (model X.prog X.w) X.A (f (.int i t)) Q E s) :
 sJ X f (rU fun i=>.int (g i)):=by
 intro pins s σ H x v Q I rx h
 obtain⟨i,rfl,q⟩:=h
 obtain⟨t,rfl⟩:=rx
 exact rule i t s _ _ ⟨.int (g i),H,I.tok _,⟨_,rfl⟩,q⟩
theorem jP:sJ X (unaryOp .USub) (rU fun i=>.int (-i)):=vN fun _ _ _ _ _ q=>neg_int q
end
section
variable {X:Cx}{a b c:Expr}{ta tb tc:TE}{pos:Pos}
theorem gO:Gm X (compareOp .Lt) (Zd fun i j=>.bl (decide (i < j))):=jK fun _ _ _ _ _ _ _ q=>lt_int q
theorem oH:Gm X (compareOp .LtE) (Zd fun i j=>.bl (decide (i<=j))):=jK fun _ _ _ _ _ _ _ q=>le_int q
theorem oI:Gm X (compareOp .Gt) (Zd fun i j=>.bl (decide (j < i))):=jK fun _ _ _ _ _ _ _ q=>gt_int q
theorem Gm.or {f:Value->Value->Sem Value}{r r':R2}(h:Gm X f r) (h':Gm X f r'):Gm X f (fun x y H Q=>r x y H Q\/r' x y H Q):=by
 intro pins s σ H x y v u Q I rx ry q
 rcases q with q|q
 ·exact h pins s σ H x y v u Q I rx ry q
 ·exact h' pins s σ H x y v u Q I rx ry q
theorem Ij (b:Expr){op:CmpOp}(h:op≠.In:=by decide) (h2:op≠.NotIn:=by decide):behindInMarks op b=false:=by
 have e1:(op == CmpOp.In)=false:=by cases op<;>first|rfl|exact absurd rfl h
 have e2:(op == CmpOp.NotIn)=false:=by cases op<;>first|rfl|exact absurd rfl h2
 cases b<;>simp[behindInMarks,e1,e2]
theorem Zs {op:CmpOp}{r:R2}(ho:Gm X (compareOp op) r) (ha:PE X a ta) (hb:PE X b tb) (hm:behindInMarks op b=false):PE X (.Compare a [op] [b] pos) (mX r ta tb):=by
 intro pins s σ H Q I h
 exact wpAny_Compare1 (jJ ha hb I h fun v u s2 x y H2 I2 rx ry q=>ho pins s2 σ H2 x y v u Q I2 rx ry q) hm
noncomputable def oJ (t:TE):TT:=fun σ H Q=>t σ H fun x H'=>∃ k,x=.bl k/\Q k H'
theorem Zt {op:CmpOp}{r:R2}(ho:Gm X (compareOp op) r) (ha:PE X a ta) (hb:PE X b tb) (hm:behindInMarks op b=false):PT X (.Compare a [op] [b] pos) (oJ (mX r ta tb)):=by
 intro pins s σ H Q I h
 refine wpAny_isTrue_Compare1 (Bg (ha pins s σ H _ I h) fun v s1 ⟨x,H1,I1,r1,q1⟩=>Bg (hb pins s1 σ H1 _ I1 q1) fun u s2 ⟨y,H2,I2,r2,q2⟩ =>
  Bg (ho pins s2 σ H2 x y v u _ I2 r1 r2 q2) fun c s3 ⟨z,H3,I3,r3,k,e,q3⟩=>?_) hm
 subst e
 cases r3
 exact wpAny_truthy_bool ⟨H3,I3,q3⟩
noncomputable def jQ (r r':R2) (ta tb tc:TE):TE:=fun σ H Q=>ta σ H fun x H1=>tb σ H1 fun y H2=>r x y H2 fun z H3=>∃ k,z=.bl k /\
 (if k=true then tc σ H3 fun w' H4=>r' y w' H4 Q else Q (.bl false) H3)
theorem X2 {op eh:CmpOp}{r r':R2}(ho:Gm X (compareOp op) r) (bC:Gm X (compareOp eh) r') (ha:PE X a ta) (hb:PE X b tb) (hc:PE X c tc)
 (hm:lastMarks [op,eh] [b,c]=false:=by with_unfolding_all rfl):PE X (.Compare a [op,eh] [b,c] pos) (jQ r r' ta tb tc):=by
 intro pins s σ H Q I h
 refine Compare_chain (Bg (ha pins s σ H _ I h) fun v s1 ⟨x,H1,I1,r1,q1⟩=>chain_link (Bg (hb pins s1 σ H1 _ I1 q1) fun u s2 ⟨y,H2,I2,r2,q2⟩ =>
  Bg (ho pins s2 σ H2 x y v u _ I2 r1 r2 q2) fun d s3 ⟨z,H3,I3,r3,k,e,q3⟩=>?_)) hm
 subst e
 cases r3
 refine wpAny_truthy_bool ?_
 cases k with
 |false=>exact ite_ff ⟨.bl false,H3,I3,rfl,q3⟩
 |true=>exact ite_tt (chain_last (Bg (hc pins s3 σ H3 _ I3 q3) fun w' s4 ⟨z',H4,I4,r4,q4⟩=>bC pins s4 σ H4 y z' u w' Q I4 r2 r4 q4))
noncomputable def oK (K:za) (x:V) (H:Hp) (k:Bool):Prop :=
 match x with
 | .AA=>k=false
 | .bl b=>k=b
 | .int i=>k=(i != 0)
 | .str y=>y.length<=sizeLine/\k=((y.length:Int) != 0)
 | .iR y=>y.size<=sizeLine/\k=((y.size:Int) != 0)
 | .ref p=>(∃ xs,Dm K H p xs/\k = !xs.isEmpty)\/(∃ xs,Fs K H p xs/\k = !xs.isEmpty)\/∃ kvs,H p=some (.dK kvs)/\k = !kvs.isEmpty
 |_=>False
theorem SA {κ:Type}{kvs:List (κ×V)}{vs:List (κ×Value)}(r:KV kvs vs):(!vs.isEmpty) = !kvs.isEmpty:=by
 cases r<;>rfl
theorem M7 {xs:List V}{aa:List Value}(r:Vals xs aa):(!aa.toArray.isEmpty) = !xs.isEmpty:=by
 cases r<;>simp
theorem Ki:(sizeLine:Nat) < 2 ^ 63:=by rw[sizeLine_eq];decide
theorem jR:sL X (fun x H Q=>∃ k,oK X.K x H k/\Q k H):=by
 intro pins s σ H x v Q I rx h
 obtain⟨k,e,q⟩:=h
 have hl:=Ki
 have hs:sizeLine=16777216:=sizeLine_eq
 cases x with
 |AA =>
  cases rx
  have e':k=false:=e
  subst e'
  exact truthy_none ⟨H,I,q⟩
 |bl b =>
  cases rx
  have e':k=b:=e
  subst e'
  exact wpAny_truthy_bool ⟨H,I,q⟩
 |int i =>
  obtain⟨t,rfl⟩:=rx
  have e':k=(i != 0):=e
  subst e'
  exact PySem.P.truthy_int ⟨H,I,q⟩
 |str y =>
  obtain⟨t,rfl⟩:=rx
  obtain⟨hy,e'⟩:y.length<=sizeLine/\k=((y.length:Int) != 0):=e
  subst e'
  exact PySem.P.truthy_str (by omega) ⟨H,I.tok _,q⟩
 |iR y =>
  obtain⟨t,rfl⟩:=rx
  obtain⟨hy,e'⟩:y.size<=sizeLine/\k=((y.size:Int) != 0):=e
  subst e'
  exact PySem.W.truthy_bytes (by omega) ⟨H,I.tok _,q⟩
 |ref p =>
  cases rx
  have e':(∃ xs,Dm X.K H p xs/\k = !xs.isEmpty)\/(∃ xs,Fs X.K H p xs/\k = !xs.isEmpty)\/∃ kvs,H p=some (.dK kvs)/\k = !kvs.isEmpty:=e
  rcases e' with ⟨xs,hx,e'⟩|⟨xs,hx,e'⟩|⟨kvs,hx,e'⟩
  ·subst e'
   obtain⟨aa,r,pl,hz⟩:=I.list hx
   have hlen:=r.length
   exact wpAny_truthy_list pl.isList (by simp only[zk];omega) ⟨H,I.tok _,by rw[M7 r];exact q⟩
  ·subst e'
   obtain⟨aa,r,pl,hz⟩:=I.tuple hx
   have hlen:=r.length
   exact truthy_tuple pl (by simp only[zk];omega) ⟨H,I.tok _,by rw[M7 r];exact q⟩
  ·subst e'
   obtain⟨hz,hS,vs,r,m⟩:kvs.length<=sizeLine/\(p == sysModules)=false/\∃ vs,KV kvs vs/\s.heap.DictOf (B5 X.prog X.w) p vs:=I.Av p _ hx
   have hlen:kvs.length=vs.length:=Paired.length r
   exact wpAny_truthy_dict hS m (by omega) ⟨H,I.tok _,by rw[SA r];exact q⟩
 |_=>exact (show False from e).elim
theorem X3 (ha:PE X a ta) (he:∀ whole,isTrue a X.env whole=(do let v <-whole;standAt a.pos;holding [v] (truthy v))) :
 PT X a (fun σ H Q=>ta σ H fun x H'=>∃ k,oK X.K x H' k/\Q k H'):=by
 intro pins s σ H Q I h
 exact isTrue_plain (Bg (ha pins s σ H _ I h) fun v s1 ⟨x,H1,I1,r1,q1⟩=>jR pins s1 σ H1 x v Q I1 r1 q1) (he _)
theorem vals1 {x:V}{us:List Value}(r:Vals [x] us):∃ u,us=[u]/\RelV x u:=by
 cases r with
 |cons r1 r2=>cases r2;exact⟨_,rfl,r1⟩
theorem Vn:Gn X (.type "int") (fun xs H Q=>(∃ i,xs=[.int i]/\Q (.int i) H)\/∃ k,xs=[.bl k]/\Q (.int (if k then 1 else 0)) H):=by
 intro pins s σ H xs us Q I r h
 rcases h with ⟨i,rfl,q⟩|⟨k,rfl,q⟩
 ·obtain⟨u,rfl,t,rfl⟩:=vals1 r
  exact call_int_int ⟨.int i,H,I,⟨_,rfl⟩,q⟩
 ·obtain⟨u,rfl,r1⟩:=vals1 r
  cases r1
  exact call_int_bool ⟨.int (if k then 1 else 0),H,I.tok _,⟨_,rfl⟩,q⟩
end
structure SD (h:Heap) (x dx C:Addr) (mA:Str->Option Value):Prop where
 obj:h.get? x=some (zaf C dx)
 ns:h.Ns1 dx mA
 ne:dx≠x
theorem Vo {h:Heap}{dx:Addr}{mA:Str->Option Value}(n:h.Ns1 dx mA):∃ od,h.get? dx=some od/\∀ name,PySem.W.lookIn name od=some (mA name):=by
 obtain⟨o,es,ep,ho,hd,hk,_,hm⟩:=n
 refine⟨o,ho,fun name=>?_⟩
 have e:=hm name
 unfold nsFind findBy at e
 rw[<-Array.find?_toList] at e
 unfold PySem.W.lookIn
 rw[hd]
 dsimp only
 split
 ·rename_i y q
  rw[q] at e
  exact congrArg some e
 ·rename_i q
  rw[q] at e
  have a:es.toList.any (·.refKey)=false:=by
   rw[List.any_eq_false]
   intro y hy
   obtain⟨z,t,mn⟩:=hk y (Array.mem_toList_iff.mp hy)
   simp[DictEntry.refKey,mn]
  have a':¬ es.toList.any (·.refKey)=true:=by rw[a];exact zM
  rw[if_neg a']
  exact congrArg some e
theorem SD.look {h:Heap}{x dx C:Addr}{mA:Str->Option Value}(I:SD h x dx C mA):∃ od,PySem.W.InstAt h x (zaf C dx) C (some od)/\∀ name,PySem.W.lookIn name od=some (mA name) :=
 let ⟨od,ho,hl⟩:=Vo I.ns
 ⟨od,⟨I.obj,rfl,rfl,ho⟩,hl⟩
section
variable {prog:Program}{w:World}{A:Around}{E:Value->Shared->Prop}{s:Shared}{K:za}{x dx C f:Addr}{mA:Str->Option Value}{name:Str}{v:Value}
theorem get_map {expr:Bool}{Q:Value->Shared->Prop}(X:K.In s.heap) (I:SD s.heap x dx C mA) (hg:zb4 K C name=true) (hh:PySem.W.hasDictIn K C=true)
 (ha:zl K (.ref C) name=some none) (hv:mA name=some v) (v3:PySem.W.handedIn v=true) (h:Q v { s with toks:=s.toks + 1 }) :
 wpAny (model prog w) A (getAttr (.ref x) name expr) Q E s:=by
 obtain⟨od,J,hl⟩:=I.look
 exact PySem.W.get_value X J (PySem.W.plainGet_of hg).1 (PySem.W.findObj_own hh ha rfl (by rw[hl,hv])) v3 h
theorem X4 {pl:Sem Bool}{Q:Value×List Value->Shared->Prop}(X:K.In s.heap) (I:SD s.heap x dx C mA) (hg:zb4 K C name=true)
 (hf:zl K (.ref C) name=some (some (.ref f))) (ht:zb5 K (.ref f)=true) (hv:mA name=none) (h:Q (.ref f,[.ref x]) s) :
 wpAny (model prog w) A (getMethod (.ref x) name pl) Q E s:=by
 obtain⟨od,J,hl⟩:=I.look
 exact PySem.W.method_fn X J (PySem.W.plainGet_of hg).1 (PySem.W.plainGet_of hg).2 hf (beq_iff_eq.mp ht) (by show (PySem.W.lookIn name od).map (·.isSome)=some false;rw[hl,hv];rfl) h
theorem Zu {ns:List Str}{Q:Unit->Shared->Prop}(X:K.In s.heap) (I:SD s.heap x dx C mA)
 (hs:zl K (.ref C) "__setattr__" = some (some (.builtin "object.__setattr__"))) (hp:PySem.W.plainOver K C=true) (ht:PySem.W.takerIn K C name=some none) (hh:PySem.W.hasDictIn K C=true)
 (hw:PySem.Within mA ns) (hsz:ns.length<=sizeLine)
 (h:∀ h',SD h' x dx C (fun y=>if y=name then some v else mA y)->zay dx s.heap h'->Q () { s with heap:=h',toks:=s.toks + 2 }) :
 wpAny (model prog w) A (setAttr (.ref x) name v) Q E s:=by
 obtain⟨od,J,hl⟩:=I.look
 refine PySem.W.set_plain X J hs (PySem.W.osa_open (s:={ s with toks:=s.toks + 1 }) (r:=none) X J hp ht fun b=>?_)
 obtain⟨cd,hc,bS⟩:=PySem.W.any_some hh
 have hx:s.heap.get? x=some ⟨.ref C,some dx,.plain,#[]⟩:=I.obj
 refine wpAny_bind (wpAny_pure (wpAny_bind (wpAny_bind (wpAny_loadPart hx (wpAny_bind (PySem.W.Looks.here (s:={ s with toks:=s.toks + 1 }) (PySem.W.looks_clsIn X hc) ?_))))))
 rw[bS]
 refine wpAny_pure (a:=some dx) (wpAny_bind (wpAny_pure (wpAny_bind ?_)))
 refine wpAny_nsSet1 (s:={ s with toks:=s.toks + 1 }) I.ns fun h' aK bi=>?_
 obtain⟨oD,yn,yo,v4,v5,v6⟩:=aK.count (PySem.Within.cons name v hw)
 refine wpAny_bind (wpAny_lookBehind v4 (by rw[v5];exact pastItsLine_dict (yP v6 (by rw[zo];omega))) ?_)
 exact wpAny_pure (h _ ⟨(bi.2 _ (yE I.ne)).trans I.obj,aK,I.ne⟩ bi)
theorem X5 {R:Result->Shared->Prop}{vs:List Value}{kw:List (Str×Value)}(X:K.In s.heap) (hm:PySem.W.makesIn K C=true)
 (hi:zl K (.ref C) "__init__" = some (some (.ref f))) (hf:PySem.W.typeIn K (.ref f)=some (.type "function"))
 (h:codeAny (model prog w) (A.under (.builtin "type.__call__" ⟨.ref C::vs,kw⟩)) (.call (.ref f) ⟨.ref (s.heap.objs.size + 1)::vs,kw⟩) (PySem.W.InitBack (s.heap.objs.size + 1) R)
  { s with heap:=(s.heap.push yY).push (zaf C s.heap.objs.size) }) :
 codeAny (model prog w) A (.call (.ref C) ⟨vs,kw⟩) R s:=by
 obtain⟨hh,g,d,t,os⟩:=s
 exact PySem.W.make_core (PySem.W.makes_of X hm) (PySem.W.looks_findIn X hi) (fun self=>PySem.W.bind_fn X self hf) (.inl rfl) h
end
noncomputable def E7 (f:Str) (v:V):List (Str×V)->List (Str×V)
 |[]=>[(f,v)]
 |(g,x)::r=>if g=f then (g,v)::r else (g,x)::E7 f v r
theorem KS (f g:Str) (v:V):∀ fs:List (Str×V),(E7 f v fs).lookup g=if g=f then some v else fs.lookup g
 |[]=>by
  show List.lookup g [(f,v)]=_
  by_cases h:g=f
  ·have hb:(g == f)=true:=beq_iff_eq.mpr h
   simp only[List.lookup,hb,if_pos h]
  ·have hb:(g == f)=false:=beq_eq_false_iff_ne.mpr h
   simp only[List.lookup,hb,if_neg h]
 |(k,x)::r=>by
  have ih:=KS f g v r
  rw[show E7 f v ((k,x)::r)=(if k=f then (k,v)::r else (k,x)::E7 f v r) from rfl]
  by_cases hk:k=f
  ·rw[if_pos hk]
   by_cases h:g=k
   ·have hb:(g == k)=true:=beq_iff_eq.mpr h
    simp only[List.lookup,hb,if_pos (h.trans hk)]
   ·have hb:(g == k)=false:=beq_eq_false_iff_ne.mpr h
    simp only[List.lookup,hb,if_neg (fun e:g=f=>h (e.trans hk.symm))]
  ·rw[if_neg hk]
   by_cases h:g=k
   ·have hb:(g == k)=true:=beq_iff_eq.mpr h
    simp only[List.lookup,hb,if_neg (fun e:g=f=>hk (h.symm.trans e))]
   ·have hb:(g == k)=false:=beq_eq_false_iff_ne.mpr h
    simp only[List.lookup,hb]
    exact ih
theorem Kj (f:Str) (v:V):∀ fs:List (Str×V),f∈(E7 f v fs).map (·.1)/\∀ g,g∈fs.map (·.1)->g∈(E7 f v fs).map (·.1)
 |[]=>⟨by simp[E7],fun g h=>by simp at h⟩
 |(k,x)::r=>by
  obtain⟨i1,i2⟩:=Kj f v r
  rw[show E7 f v ((k,x)::r)=(if k=f then (k,v)::r else (k,x)::E7 f v r) from rfl]
  by_cases hk:k=f
  ·rw[if_pos hk]
   subst hk
   exact⟨by simp,fun g h=>by simpa using h⟩
  ·rw[if_neg hk]
   refine⟨?_,fun g h=>?_⟩
   ·rw[zg]
    exact zf _ i1
   ·rw[zg] at h ⊢
    rcases zu.mp h with e|e
    ·exact zu.mpr (.inl e)
    ·exact zf _ (i2 g e)
theorem KU (f:Str) (v:V):∀ fs:List (Str×V),(E7 f v fs).length<=fs.length + 1
 |[]=>by simp[E7]
 |(k,x)::r=>by
  have ih:=KU f v r
  rw[show E7 f v ((k,x)::r)=(if k=f then (k,v)::r else (k,x)::E7 f v r) from rfl]
  by_cases hk:k=f
  ·rw[if_pos hk,zo,zo];omega
  ·rw[if_neg hk,zo,zo];omega
theorem Ge.some_of {v:V}{o:Option Value}(r:Ge (some v) o):∃ u,o=some u/\RelV v u:=by
 cases o with
 |none=>exact (show False from r).elim
 |some u=>exact⟨u,rfl,r⟩
theorem Ge.none_of {o:Option Value}(r:Ge none o):o=none:=by
 cases o with
 |none=>rfl
 |some u=>exact (show False from r).elim
theorem Vp {v:V}{u:Value}(r:RelV v u):PySem.W.handedIn u=true:=by
 cases v with
 |AA=>cases (show u=Value.none from r);rfl
 |bl b=>cases (show u=Value.bool b from r);rfl
 |int i=>obtain⟨t,e⟩:=(show ∃ t,u=Value.int i t from r);cases e;rfl
 |str x=>obtain⟨t,e⟩:=(show ∃ t,u=Value.str x t from r);cases e;rfl
 |iR b=>obtain⟨t,e⟩:=(show ∃ t,u=Value.bytes b t from r);cases e;rfl
 |nM b=>obtain⟨t,e⟩:=(show ∃ t,u=Value.float b t from r);cases e;rfl
 |ref a=>cases (show u=yG a from r);rfl
 |ty n=>cases (show u=Value.type n from r);rfl
section
variable {P:Program}{w:World}{H H':Hp}{h h':Heap}{a C dx:Addr}{fs cp:List (Str×V)}
theorem P7 (Av:Fq P w H h) (e:H a=some (.ins C dx fs)):∃ mA,SD h a dx C mA/\(∀ f,Ge (fs.lookup f) (mA f))/\PySem.Within mA (fs.map (·.1))/\fs.length<=1000/\H dx=some (.own a):=by
 obtain⟨d,z,ne,ob,mA,n,r,q⟩:=(show BF P w H h a (.ins C dx fs) from Av a _ e)
 exact⟨mA,⟨ob,n,ne⟩,r,q,z,d⟩
end
structure Vq (K:za) (C:Addr):Prop where
 pg:zb4 K C Str.empty=true
 hd:PySem.W.hasDictIn K C=true
 po:PySem.W.plainOver K C=true
 sa:zl K (.ref C) "__setattr__" = some (some (.builtin "object.__setattr__"))
theorem Vq.get {K:za}{C:Addr}(c:Vq K C) (f:Str):zb4 K C f=true:=c.pg
noncomputable def Ik (K:za) (C:Addr) (f:Str):Prop:=zl K (.ref C) f=some none
theorem Ik.oM {K:za}{C:Addr}{f:Str}(n:Ik K C f):PySem.W.takerIn K C f=some none:=by
 unfold PySem.W.takerIn
 rw[show zl K (.ref C) f=some none from n]
 rfl
structure Meth (K:za) (C:Addr) (m:Str) (f:Addr):Prop where
 at_:zl K (.ref C) m=some (some (.ref f))
 fn:zb5 K (.ref f)=true
 kp:zQ K (.ref f)=true
section
variable {X:Cx}{pins:List (Addr×Obj)}{σ:St}{H:Hp}{s:Shared}{a C dx:Addr}{fs:List (Str×V)}{f:Str}{v:V}{A:Around}{E:Value->Shared->Prop}
theorem SE {b:Bool}{Q:Value->Shared->Prop}(I:Inv X pins σ H s) (e:H a=some (.ins C dx fs)) (c:Vq X.K C) (n:Ik X.K C f) (l:fs.lookup f=some v)
 (h:∀ u s',Inv X pins σ H s'->RelV v u->Q u s'):wpAny (model X.prog X.w) A (getAttr (.ref a) f b) Q E s:=by
 obtain⟨mA,O,r,_,_,_⟩:=P7 I.Av e
 obtain⟨u,hu,ru⟩:=Ge.some_of (v:=v) (o:=mA f) (by rw[<-l];exact r f)
 exact get_map I.Nz O (c.get f) c.hd n hu (Vp ru) (h u _ (I.tok _) ru)
theorem M8 {m:Str}{g:Addr}{pl:Sem Bool}{Q:Value×List Value->Shared->Prop}(I:Inv X pins σ H s) (e:H a=some (.ins C dx fs)) (c:Vq X.K C) (k:Meth X.K C m g) (l:fs.lookup m=none)
 (h:Q (.ref g,[.ref a]) s):wpAny (model X.prog X.w) A (getMethod (.ref a) m pl) Q E s:=by
 obtain⟨mA,O,r,_,_,_⟩:=P7 I.Av e
 have hn:mA m=none:=Ge.none_of (by rw[<-l];exact r m)
 exact X4 I.Nz O (c.get m) k.at_ k.fn hn h
theorem SF {y:V}{u:Value}{Q:Unit->Shared->Prop}(I:Inv X pins σ H s) (e:H a=some (.ins C dx fs)) (c:Vq X.K C) (n:Ik X.K C f) (hl:fs.length < 1000) (ry:RelV y u)
 (h:∀ s',Inv X pins σ (upd H a (.ins C dx (E7 f y fs))) s'->Q () s'):wpAny (model X.prog X.w) A (setAttr (.ref a) f u) Q E s:=by
 obtain⟨mA,O,r,wi,_,ho⟩:=P7 I.Av e
 have hz:(fs.map (·.1)).length<=sizeLine:=by rw[zc,sizeLine_eq];omega
 refine Zu I.Nz O c.sa c.po n.oM c.hd wi hz fun h' O' sb=>h _ ?_
 have hd:∃ o,h'.get? dx=some o:=let ⟨o,_,_,e',_⟩:=O'.ns;⟨o,e'⟩
 refine I.write (x:=a) (e:=dx) (by rw[e];exact zaq) (.inr ho) (fun b q hb z=>(sb.2 b hb).trans z) hd ?_
 refine⟨by rw[Ag O.ne];exact ho,?_,O.ne,O'.obj,_,O'.ns,fun g=>?_,fun g hg=>?_⟩
 ·have:=KU f y fs;omega
 ·show Ge ((E7 f y fs).lookup g) (if g=f then some u else mA g)
  rw[KS]
  by_cases q:g=f
  ·rw[if_pos q,if_pos q];exact ry
  ·rw[if_neg q,if_neg q];exact r g
 ·by_cases q:g=f
  ·rw[q];exact (Kj f y fs).1
  ·refine (Kj f y fs).2 g (wi g fun z=>hg ?_)
   show (if g=f then some u else mA g)=none
   rw[if_neg q];exact z
theorem Inv.made (I:Inv X pins σ H s):Inv X pins σ (upd (upd H s.heap.objs.size (.own (s.heap.objs.size + 1))) (s.heap.objs.size + 1) (.ins C s.heap.objs.size []))
 { s with heap:=(s.heap.push yY).push (zaf C s.heap.objs.size) }:=by
 have e1:(s.heap.push yY).get? s.heap.objs.size=some yY:=zH s.heap rfl
 have e2:((s.heap.push yY).push (zaf C s.heap.objs.size)).get? (s.heap.objs.size + 1)=some (zaf C s.heap.objs.size):=by
  have:=zH (s.heap.push yY) (o:=zaf C s.heap.objs.size) rfl
  rwa[Heap.size_push] at this
 have e3:(s.heap.push yY).Ns s.heap.objs.size (fun _=>none):=⟨yY,#[],_,e1,rfl,(fun e he=>absurd he (by simp)),fun _=>rfl⟩
 have I1:=I.laid (a:=s.heap.objs.size) (o:=.own (s.heap.objs.size + 1)) (h':=s.heap.push yY) (t':=s.toks) (fun b u q=>zr _ q) (zA _) ⟨_,e1⟩
 refine I1.laid (a:=s.heap.objs.size + 1) (o:=.ins C s.heap.objs.size []) (t':=s.toks) (fun b u q=>zr _ q) (Nat.le_of_eq (Heap.size_push _ _)) ?_
 have ne:s.heap.objs.size≠s.heap.objs.size + 1:=zG (Nat.lt_succ_self _)
 refine⟨by rw[Ag ne,Ar],zX _,ne,e2,fun _=>none,(Heap.Ns1.of_empty e3).at fun o q=>zr _ q,fun _=>zaq,fun y hy=>absurd rfl hy⟩
theorem Zv {prog:Program}{w:World}{env:Env}{e:Expr}{f:Str}{pos:Pos}{s:Shared}{Q:Value->Shared->Prop}(hb:attributeBase e f env (eval e env)=eval e env)
 (h:wpAny (model prog w) A (eval e env) (fun o s₁=>wpAny (model prog w) A (getAttr o f true) Q E s₁) E s):wpAny (model prog w) A (eval (.Attribute e f pos) env) Q E s :=
 Attribute_any_ h (by rw[arm_eval_Attribute,hb])
end
noncomputable def sM (K:za) (ta:TE) (f:Str):TE:=fun σ H Q=>ta σ H fun x H1=>∃ a C dx fs v,x=.ref a/\H1 a=some (.ins C dx fs)/\Vq K C/\Ik K C f/\fs.lookup f=some v/\Q v H1
noncomputable def sN (K:za) (ta tv:TE) (f:Str):TS:=fun D σ H=>tv σ H fun y H1=>ta σ H1 fun x H2=>∃ a C dx fs,x=.ref a/\H2 a=some (.ins C dx fs)/\Vq K C/\Ik K C f/\fs.length < 1000 /\
 D.nx σ (upd H2 a (.ins C dx (E7 f y fs)))
section
variable {X:Cx}{o e value:Expr}{f:Str}{pos pos' bH:Pos}{ta tv:TE}
theorem jS (he:PE X e ta) (hb:attributeBase e f X.env (eval e X.env)=eval e X.env):PE X (.Attribute e f pos) (sM X.K ta f):=by
 intro pins s σ H Q I h
 refine Zv hb (Bg (he pins s σ H _ I h) fun u s1 ⟨x,H1,I1,rx,a,C,dx,fs,v,ex,ea,c,n,l,q⟩=>?_)
 subst ex
 obtain rfl:u=yG a:=rx
 exact SE I1 ea c n l fun u' s2 I2 ru=>⟨v,H1,I2,ru,q⟩
theorem jT (ha:PE X o ta) (hv:PE X value tv) (hs:swapsWith value (some (.Attribute o f pos')) pos.line X.env=pure false):PS X (.Assign [.Attribute o f pos'] value pos) (sN X.K ta tv f):=by
 intro pins s σ H D I h
 refine plainObj_wpAny_Assign_Attribute (Bg (hv pins s σ H _ I h) fun u s1 ⟨y,H1,I1,ry,q⟩=>Bg (ha pins s1 σ H1 _ I1 q) fun ov s2 ⟨x,H2,I2,rx,a,C,dx,fs,ex,ea,c,n,l,q2⟩=>?_) hs
 subst ex
 obtain rfl:ov=yG a:=rx
 exact SF I2 ea c n l ry fun s3 I3=>⟨σ,_,I3,q2⟩
end
structure BJ (k:Nat) (A:Around):Prop where
 hd:A.handled=none
 dp:A.depth + 3 * k + 5 < recursionLimit
 un:A.units + 16 * k + 200 < cLine
theorem BJ.mono {j k:Nat}{A:Around}(r:BJ k A) (h:j<=k):BJ j A:=⟨r.hd,by have:=r.dp;omega,by have:=r.un;omega⟩
theorem BJ.deeper {k:Nat}{A:Around}(r:BJ (k + 1) A) (env:Env):BJ k (A.deeper env) :=
 ⟨r.hd,by have:=r.dp;show A.depth + 1 + 3 * k + 5 < _;omega,by have:=r.un;show A.units + 3 + 16 * k + 200 < _;omega⟩
theorem SG {A:Around}{C:Addr}{us:List Value}{kw:List (Str×Value)}:(A.under (.builtin "type.__call__" ⟨.ref C::us,kw⟩)).depth=A.depth + 1:=by
 first|rfl|simp[Around.under,Code.weight,Code.isCreation,Code.isGuard,Code.isCaller,Code.frames,Code.isFrame,guardIds]
theorem SH {A:Around}{C:Addr}{us:List Value}{kw:List (Str×Value)}:(A.under (.builtin "type.__call__" ⟨.ref C::us,kw⟩)).units=A.units + 1:=by
 first|rfl|simp[Around.under,Code.cUnits,Code.frames,Code.isFrame]
theorem BJ.make {k:Nat}{A:Around}(r:BJ (k + 1) A) (C:Addr) (us:List Value) (kw:List (Str×Value)):BJ k (A.under (.builtin "type.__call__" ⟨.ref C::us,kw⟩)) :=
 ⟨r.hd,by have:=r.dp;rw[SG];omega,by have:=r.un;rw[SH];omega⟩
theorem BJ.depth {k:Nat}{A:Around}(r:BJ k A):A.depth < recursionLimit:=by have:=r.dp;omega
theorem BJ.units {k:Nat}{A:Around}(r:BJ k A):A.units + 64 < cLine:=by have:=r.un;omega
noncomputable def jU:TA:=fun _ H Q=>Q [] H
noncomputable def gQ (ta:TE) (tr:TA):TA:=fun σ H Q=>ta σ H fun x H1=>tr σ H1 fun xs H2=>Q (x::xs) H2
section
variable {X:Cx}{e:Expr}{es:List Expr}{te:TE}{t:TA}{pos:Pos}
theorem Cj:PA X [] jU:=fun _ _ _ _ H Q I h=>zb0 ⟨[],H,I,.nil,h⟩
theorem Bi (ha:PE X e te) (hr:PA X es t) (hs:starEach (e::es) X.env=(false,eval e X.env)::starEach es X.env:=by rfl):PA X (e::es) (gQ te t):=by
 intro pos pins s σ H Q I h
 rw[hs]
 show wpAny _ _ (spliced ((false,eval e X.env)::backTo pos (starEach es X.env))) _ _ s
 refine zas (Bg (ha pins s σ H _ I h) fun u s1 ⟨x,H1,I1,r1,q1⟩=>?_)
 exact Bg (hr pos pins s1 σ H1 _ I1 q1) fun us s2 ⟨xs,H2,I2,r2,q2⟩=>⟨x::xs,H2,I2,.cons r1 r2,q2⟩
noncomputable def sO (t:TA):TE:=fun σ H Q=>t σ H fun xs H1=>xs.length<=sizeLine/\∀ p,H1 p=none->Q (.ref p) (upd H1 p (.tup xs))
noncomputable def sP (t:TA):TE:=fun σ H Q=>t σ H fun xs H1=>xs.length<=sizeLine/\∀ p,H1 p=none->Q (.ref p) (upd H1 p (.lst xs))
theorem X6 {x1}(h:PA X es t):PE X (.Tuple es x1 pos) (sO t):=by
 intro pins s σ H Q I hq
 refine wpAny_Tuple_spliced (Bg (h pos pins s σ H _ I hq) fun us s1 ⟨xs,H1,I1,r,z,q⟩=>⟨by rw[<-r.length];exact z,?_⟩)
 have hf:H1 s1.heap.objs.size=none:=I1.Av.fresh (zA _)
 refine⟨.ref s1.heap.objs.size,upd H1 s1.heap.objs.size (.tup xs),I1.laid (t':=s1.toks) (fun b u e=>zr _ e) (zA _) ?_,rfl,q _ hf⟩
 exact⟨z,us,r,⟨_,zH _ rfl,rfl,_,rfl⟩⟩
theorem P8 (h:PA X es t):PE X (.List es pos) (sP t):=by
 intro pins s σ H Q I hq
 refine wpAny_List_spliced (Bg (h pos pins s σ H _ I hq) fun us s1 ⟨xs,H1,I1,r,z,q⟩=>⟨by rw[<-r.length];exact z,?_⟩)
 have hf:H1 s1.heap.objs.size=none:=I1.Av.fresh (zA _)
 refine⟨.ref s1.heap.objs.size,upd H1 s1.heap.objs.size (.lst xs),I1.laid (t':=s1.toks) (fun b u e=>zr _ e) (zA _) ?_,rfl,q _ hf⟩
 exact⟨z,us,0,r,zH _ rfl⟩
end
noncomputable abbrev Sp:=List V->Hp->VK->XK->Prop
noncomputable abbrev U7:=List Env->Hp->Shared->XK->Value->Shared->Prop
structure SI (P:Program) (w:World) (K:za) (mg:Str->Option Value) (base:Heap) (A:Around) (outer:List Env) (s:Shared) (H:Hp):Prop where
 frames:A.frames=some outer
 mod:Mod K mg base
 bs:∀ b o,base.get? b=some o->s.heap.get? b=some o/\H b=none
 Zk:base.objs.size<=s.heap.objs.size
 IX:s.heap.FunFrames base outer
 iT:∀ b∈KR outer,H b=none
 Av:Fq P w H s.heap
 bare:AllBare s.gens
noncomputable def CE (outer:List Env) (P:Program) (w:World) (H:Hp) (s:Shared) (Q:VK) (u:Value) (s':Shared):Prop :=
 ∃ v H',s'.os=s.os/\AllBare s'.gens/\Un (KR outer) [] H H' s.heap s'.heap/\Fq P w H' s'.heap/\RelV v u/\Q v H'
noncomputable def CR (CX:U7) (outer:List Env) (P:Program) (w:World) (H:Hp) (s:Shared) (Q:VK) (E:XK) (r:Result) (s':Shared):Prop :=
 match r with
 | .ok (.ret u)=>CE outer P w H s Q u s'
 | .ok _=>False
 | .error e=>CX outer H s E e s'
structure Dn (P:Program) (w:World) (K:za) (mg:Str->Option Value) (base:Heap) (CX:U7) (k:Nat) (f:Addr) (fd:FuncData) (ps:List Str) (sp:Sp):Prop where
 len:∀ vs H Q E,sp vs H Q E->vs.length=ps.length
 run:∀(A:Around) (outer:List Env) (s:Shared) (H:Hp) (args:Args) (us:List Value) (vs:List V) (Q:VK) (E:XK),BJ k A->SI P w K mg base A outer s H->BindsTo s fd args (ps.zip us)->Vals vs us->sp vs H Q E->
  codeAny (model P w) A (.call (.ref f) args) (CR CX outer P w H s Q E) s
theorem SI.make {P:Program}{w:World}{K:za}{mg:Str->Option Value}{base:Heap}{A:Around}{outer:List Env}{s:Shared}{H:Hp}(e:SI P w K mg base A outer s H) (C:Addr) (us:List Value) (kw:List (Str×Value)) :
 SI P w K mg base (A.under (.builtin "type.__call__" ⟨.ref C::us,kw⟩)) outer s H:=⟨by first|exact e.frames|(simpa [Around.under,Code.envs,Code.isFrame,pushEnvs] using e.frames),e.mod,e.bs,e.Zk,e.IX,e.iT,e.Av,e.bare⟩
section
variable {X:Cx}{pins:List (Addr×Obj)}{σ:St}{H:Hp}{s s':Shared}
theorem Inv.oN (I:Inv X pins σ H s):SI X.prog X.w X.K X.mg X.base X.A X.stack s H :=
 ⟨I.ok.frames,I.ok.mod,I.bs,yP I.ok.Zk I.sz,I.stack,I.OZ,I.Av,I.bare⟩
theorem Inv.after {Q:VK}{u:Value}(I:Inv X pins σ H s) (h:CE X.stack X.prog X.w H s Q u s'):EP X pins σ Q u s':=by
 obtain⟨v,H',os,bare,un,Av,r,q⟩:=h
 obtain⟨hh,g,d,t,v7⟩:=s'
 obtain rfl:v7=s.os:=os
 exact⟨v,H',I.call (h':=hh) (g':=g) (d':=d) (t':=t) (ch:=[]) un Av bare (fun b z=>absurd z (by simp)),r,q⟩
end
noncomputable def oO (sp:Sp) (bI:List V) (E:XK) (t:TA):TE:=fun σ H Q=>t σ H fun vs H1=>sp (vs++bI) H1 Q E
noncomputable def oP (C:Addr) (sp:Sp) (bI:List V) (E:XK) (t:TA):TE:=fun σ H Q=>t σ H fun vs H1=>∀ x dx,H1 x=none->H1 dx=none->dx≠x->
 sp (.ref x::(vs++bI)) (upd (upd H1 dx (.own x)) x (.ins C dx [])) (fun v H2=>v=.AA/\Q (.ref x) H2) E
noncomputable def Binds (K:za) (fd:FuncData) (ps:List Str) (ds:List Value):Prop :=
 ∀(s:Shared) (us:List Value),K.In s.heap->(us++ds).length=ps.length->BindsTo s fd ⟨us,[]⟩ (ps.zip (us++ds))
theorem Binds.all {K:za}{fd:FuncData}{ps:List Str}(h:∀ us:List Value,us.length=ps.length->bindArgs fd ⟨us,[]⟩=pure (ps.zip us)):Binds K fd ps []:=fun s us _ hl=>by
 rw[yH] at hl ⊢
 exact .of_eq (h us hl)
noncomputable def Gp (CX:U7) (X:Cx) (E:XK):Prop:=∀(pins:List (Addr×Obj)) (σ:St) (H:Hp) (s:Shared) (e:Value) (s':Shared),Inv X pins σ H s->CX X.stack H s E e s'->X.xe e s'
section
variable {X:Cx}{CX:U7}{k:Nat}{f C:Addr}{fd:FuncData}{ps:List Str}{sp:Sp}{bI:List V}{ds:List Value}{E:XK}{x m:Str}{p pos apos:Pos}{e o:Expr}{es:List Expr}{ta:TE}{t:TA}
theorem SJ {pins:List (Addr×Obj)}{σ:St}{H:Hp}{s:Shared}{Q:VK}{us:List Value}{vs:List V}(F:Dn X.prog X.w X.K X.mg X.base CX k f fd ps sp) (hr:BJ k X.A) (hb:Binds X.K fd ps ds) (hd:Vals bI ds) (hx:Gp CX X E)
 (I:Inv X pins σ H s) (r:Vals vs us) (h:sp (vs++bI) H Q E):wpAny (model X.prog X.w) X.A (call (.ref f) us) (EP X pins σ Q) X.xe s:=by
 have r2:Vals (vs++bI) (us++ds):=r.append hd
 have hl:(us++ds).length=ps.length:=by rw[<-r2.length];exact F.len _ _ _ _ h
 refine wpAny_call (codeAny_mono (F.run X.A X.stack s H ⟨us,[]⟩ (us++ds) (vs++bI) Q E hr I.oN (hb s us I.Nz hl) r2 h) fun r s' hq=>?_)
 cases r with
 |error e=>exact hx pins σ H s e s' I hq
 |ok fl =>
  cases fl with
  |ret u=>exact I.after hq
  |next=>exact zah hq
  |brk=>exact zah hq
  |cont=>exact zah hq
theorem U8 (F:Dn X.prog X.w X.K X.mg X.base CX k f fd ps sp) (hr:BJ k X.A) (hg:Gl X x) (hm:X.mg x=some (.ref f)) (hk:zQ X.K (.ref f)=true) (hb:Binds X.K fd ps ds) (hd:Vals bI ds) (hx:Gp CX X E)
 (ha:PA X (e::es) t) (aU:(x == ("__debug__" : Str))=false:=by decide) (he:starEach (e::es) X.env=(false,eval e X.env)::starEach es X.env:=by rfl) (a4:(backTo pos (starEach es X.env)).any (·.1)=false:=by rfl) :
 PE X (.Call (.Name x p) (e::es) [] pos) (oO sp bI E t):=by
 intro pins s σ H Q I h
 refine wpAny_Call_Name_kw (P5 I hg hm ?_ aU)
 refine PySem.W.callWith_K (h₀:=X.base) I.ok.mod.WB hk (Bg (ha pos pins s σ H _ I h) fun us s1 ⟨vs,H1,I1,r,q⟩=>⟨I1.Nz,?_⟩) he a4
 exact SJ F hr hb hd hx I1 r q
structure Mk (K:za) (C f:Addr):Prop where
 makes:PySem.W.makesIn K C=true
 init:zl K (.ref C) "__init__" = some (some (.ref f))
 fn:zb5 K (.ref f)=true
 kp:zQ K (.ref C)=true
theorem X7 {pins:List (Addr×Obj)}{σ:St}{H:Hp}{s:Shared}{Q:VK}{us:List Value}{vs:List V}(M:Mk X.K C f) (F:Dn X.prog X.w X.K X.mg X.base CX k f fd ps sp) (hr:BJ (k + 1) X.A) (hb:Binds X.K fd ps ds) (hd:Vals bI ds)
 (hx:Gp CX X E) (I:Inv X pins σ H s) (r:Vals vs us)
 (h:∀ x dx,H x=none->H dx=none->dx≠x->sp (.ref x::(vs++bI)) (upd (upd H dx (.own x)) x (.ins C dx [])) (fun v H2=>v=.AA/\Q (.ref x) H2) E) :
 wpAny (model X.prog X.w) X.A (call (.ref C) us) (EP X pins σ Q) X.xe s:=by
 have hq:=h (s.heap.objs.size + 1) s.heap.objs.size (I.Av.fresh (Nat.le_succ _)) (I.Av.fresh (zA _)) (zG (Nat.lt_succ_self _))
 have I2:=Inv.made (C:=C) I
 have r2:Vals (V.ref (s.heap.objs.size + 1)::(vs++bI)) (yG (s.heap.objs.size + 1)::(us++ds)):=.cons rfl (r.append hd)
 have hl:(yG (s.heap.objs.size + 1)::us++ds).length=ps.length:=by
  have e:=r2.length
  rw[F.len _ _ _ _ hq] at e
  exact e.symm
 refine wpAny_call (X5 (f:=f) I.Nz M.makes M.init (beq_iff_eq.mp M.fn) (codeAny_mono (F.run _ X.stack _ _ ⟨yG (s.heap.objs.size + 1)::us,[]⟩ (yG (s.heap.objs.size + 1)::(us++ds)) _ _ E (hr.make C us [])
  (I2.oN.make C us []) (hb _ (yG (s.heap.objs.size + 1)::us) I2.Nz hl) r2 hq) fun r s' eo=>?_))
 cases r with
 |error e=>exact hx pins σ _ _ e s' I2 eo
 |ok fl =>
  cases fl with
  |ret u =>
   obtain⟨v,H',I3,rv,ev,q3⟩:=I2.after eo
   subst ev
   exact⟨rv,⟨V.ref (s.heap.objs.size + 1),H',I3,rfl,q3⟩⟩
  |next=>exact zah eo
  |brk=>exact zah eo
  |cont=>exact zah eo
theorem U9 (M:Mk X.K C f) (F:Dn X.prog X.w X.K X.mg X.base CX k f fd ps sp) (hr:BJ (k + 1) X.A) (hg:Gl X x) (hm:X.mg x=some (.ref C)) (hb:Binds X.K fd ps ds) (hd:Vals bI ds) (hx:Gp CX X E)
 (ha:PA X (e::es) t) (aU:(x == ("__debug__" : Str))=false:=by decide) (he:starEach (e::es) X.env=(false,eval e X.env)::starEach es X.env:=by rfl) (a4:(backTo pos (starEach es X.env)).any (·.1)=false:=by rfl) :
 PE X (.Call (.Name x p) (e::es) [] pos) (oP C sp bI E t):=by
 intro pins s σ H Q I h
 refine wpAny_Call_Name_kw (P5 I hg hm ?_ aU)
 refine PySem.W.callWith_K (h₀:=X.base) I.ok.mod.WB M.kp (Bg (ha pos pins s σ H _ I h) fun us s1 ⟨vs,H1,I1,r,q⟩=>⟨I1.Nz,?_⟩) he a4
 exact X7 M F hr hb hd hx I1 r q
end
noncomputable def PK (X:Cx) (iu:List Keyword) (t:TA):Prop :=
 ∀(pos:Pos) (pins:List (Addr×Obj)) (s:Shared) (σ:St) (H:Hp) (Q:List V->Hp->Prop),Inv X pins σ H s->t σ H Q->wpAny (model X.prog X.w) X.A (evalAll ((backToKw pos (keywordEach iu X.env)).map (·.2))) (AP X pins σ Q) X.xe s
section
variable {X:Cx}{CX:U7}{k:Nat}{f C:Addr}{fd:FuncData}{ps ks:List Str}{sp:Sp}{E:XK}{x m:Str}{p pos apos mo:Pos}{e o:Expr}{es:List Expr}{iu:List Keyword}{te ta:TE}{t tk:TA}{nm:Option Str}
theorem jV:PK X [] jU:=fun _ _ _ _ H Q I h=>wpAny_evalAll_nil ⟨[],H,I,.nil,h⟩
theorem Zw (ha:PE X e te) (hr:PK X iu t):PK X (⟨nm,e,mo⟩::iu) (gQ te t):=by
 intro pos pins s σ H Q I h
 show wpAny _ _ (evalAll ((do let v <-eval e X.env;standAt pos;pure v)::(backToKw pos (keywordEach iu X.env)).map (·.2))) _ _ s
 refine wpAny_evalAll_cons (wpAny_bind (Bg (ha pins s σ H _ I h) fun u s1 ⟨x,H1,I1,r1,q1⟩=>wpAny_bind (wpAny_standAt (wpAny_pure ?_))))
 exact Bg (hr pos pins s1 σ H1 _ I1 q1) fun us s2 ⟨xs,H2,I2,r2,q2⟩=>⟨x::xs,H2,I2,.cons r1 r2,q2⟩
variable {g:List Value->List Value->List Value}{gV:List V->List V->List V}
end
structure Ae (N P:List Str) (sc:Scope):Prop where
 kind:sc.kind=.function
 co:sc.isCoroutine=false
 gen:sc.isGenerator=false
 nd:N.Nodup
 pre:N.take P.length=P
 uC:∀ x∈P,sc.names.lookup x=some .local\/sc.names.lookup x=some .cell
 jW:∀ y∈sc.names,y.2≠.free
theorem O3 {kindOf:Str->Option NameKind}{x:Str}:∀ {binds:List (Str×Value)}{m:Str->Option Value},(∀ v,(x,v)∉binds)->bindL kindOf binds m x=m x
 |[],_,_=>rfl
 |(n,v)::r,m,h=>by
  unfold bindL
  rw[O3 fun w hw=>h w (zf _ hw)]
  split
  ·have:x≠n:=by rintro rfl;exact h v ze
   simp[this]
  ·rfl
theorem O4 {kindOf:Str->Option NameKind}{x:Str}:∀ {binds:List (Str×Value)}{m:Str->Option Value},(∀ v,(x,v)∉binds)->bindC kindOf binds m x=m x
 |[],_,_=>rfl
 |(n,v)::r,m,h=>by
  unfold bindC
  rw[O4 fun w hw=>h w (zf _ hw)]
  split
  ·rfl
  ·have:x≠n:=by rintro rfl;exact h v ze
   simp[this]
theorem O5 {kindOf:Str->Option NameKind}{x:Str}{v:Value}:∀ {P:List Str}{vs:List Value}{i:Nat}{m:Str->Option Value},P.Nodup->P[i]? =some x->vs[i]? =some v->kindOf x=some .local->
 bindL kindOf (P.zip vs) m x=some v
 |[],_,_,_,_,h,_,_=>by simp at h
 |_::_,[],_,_,_,_,h,_=>by simp at h
 |p::P,w::vs,0,m,nd,h1,h2,hk=>by
  simp at h1 h2;subst h1;subst h2
  show bindL kindOf ((p,w)::P.zip vs) m p=_
  unfold bindL
  rw[O3 fun v hv=>(yJ.mp nd).1 (List.of_mem_zip hv).1,if_pos hk]
  simp
 |p::P,w::vs,i + 1,m,nd,h1,h2,hk=>by
  show bindL kindOf ((p,w)::P.zip vs) m x=_
  unfold bindL
  exact O5 (i:=i) (yJ.mp nd).2 (by simpa using h1) (by simpa using h2) hk
theorem O6 {kindOf:Str->Option NameKind}{x:Str}{v:Value}:∀ {P:List Str}{vs:List Value}{i:Nat}{m:Str->Option Value},P.Nodup->P[i]? =some x->vs[i]? =some v->kindOf x≠some .local->
 bindC kindOf (P.zip vs) m x=some v
 |[],_,_,_,_,h,_,_=>by simp at h
 |_::_,[],_,_,_,_,h,_=>by simp at h
 |p::P,w::vs,0,m,nd,h1,h2,hk=>by
  simp at h1 h2;subst h1;subst h2
  show bindC kindOf ((p,w)::P.zip vs) m p=_
  unfold bindC
  rw[O4 fun v hv=>(yJ.mp nd).1 (List.of_mem_zip hv).1,if_neg hk]
  simp
 |p::P,w::vs,i + 1,m,nd,h1,h2,hk=>by
  show bindC kindOf ((p,w)::P.zip vs) m x=_
  unfold bindC
  exact O6 (i:=i) (yJ.mp nd).2 (by simpa using h1) (by simpa using h2) hk
noncomputable def start (N:List Str) (vs:List V):St:=vs.map some++zv (N.length - vs.length) none
noncomputable def Le (CX:U7) (P:Program) (w:World) (K:za) (mg:Str->Option Value) (base:Heap) (N:List Str) (qual:Str) (scope:Scope) (f:Addr) (cd:Value) (A:Around) (outer:List Env) (s:Shared) (H:Hp) (E:XK):Cx where
 prog:=P
 w:=w
 K:=K
 mg:=mg
 base:=base
 A:=A.deeper (envOfC qual scope s.heap.objs.size f cd)
 N:=N
 s₀:=s
 H₀:=H
 env:=envOfC qual scope s.heap.objs.size f cd
 outer:=outer
 stack:=envOfC qual scope s.heap.objs.size f cd::outer
 ex:=[]
 calm:=true
 fn:=fun _=>true
 pn:=[]
 xe:=fun e s'=>wpAny (model P w) (A.deeper (envOfC qual scope s.heap.objs.size f cd)) (leaving (envOfC qual scope s.heap.objs.size f cd) e) (fun _ iw=>CX outer H s E e iw) (fun e' iw=>CX outer H s E e' iw) s'
theorem QK {sc:Scope}{n:Nat}{x:Str}(h:sc.names.lookup x=some .cell):∃ c,(cellsFrom n sc.names []).lookup x=some c:=by
 have q:=PySem.W.cellsFrom_some sc.names n [] (.inl h)
 exact zba.mp q
theorem Vr {CX:U7}{P:Program}{w:World}{K:za}{mg:Str->Option Value}{base:Heap}{N ps:List Str}{qual:Str}{scope:Scope}{f:Addr}{cd:Value}{A:Around}{outer:List Env}{s s1:Shared}{H:Hp}{E:XK}{us:List Value}{vs:List V}
 (S:Ae N ps scope) (hd:A.handled=none) (e0:SI P w K mg base A outer s H) (hl:vs.length=ps.length) (r:Vals vs us)
 (x:InCallC s s.heap.objs.size (bindL (envOfC qual scope s.heap.objs.size f cd).kindOf (ps.zip us) fun _=>none) (cellsFrom (s.heap.objs.size + 1) scope.names []) (bindC (envOfC qual scope s.heap.objs.size f cd).kindOf (ps.zip us) fun _=>none) s1) :
 Inv (Le CX P w K mg base N qual scope f cd A outer s H E) [] (start N vs) H s1:=by
 have a4:ps.length<=N.length:=by have:=congrArg List.length S.pre;rw[yT] at this;omega
 obtain⟨h1,tk,rfl,hk⟩:=x.done
 have ix:∀ b:Addr,b∉(Le CX P w K mg base N qual scope f cd A outer s H E).ex:=fun b z=>absurd (show b∈([]:List Addr) from z) (by simp)
 refine⟨⟨e0.mod,S.kind,rfl,rfl,zA _,fun y z c h1 h2=>?_,fun y hy=>?_,fun y c _ h=>?_,fun _=>hd,Around.frames_deeper e0.frames,.inr ⟨rfl,rfl⟩,fun b z=>absurd z (ix b),e0.bs,e0.Zk,fun b _ _=>ix b,fun b z=>absurd z (ix b),e0.IX,e0.iT⟩,
  rfl,e0.bare,Un.kept hk,⟨_,x.toInCall.ns,fun i y v h1 h2 h3=>?_⟩,fun y c h=>⟨_,x.cell y c h⟩,e0.Av.fresh (zA _),fun y c h=>?_,fun p hp=>absurd (show p∈([]:List (Addr×Obj)) from hp) (by simp),e0.Av.kept hk,?_⟩
 ·exact name_of_addr x.apart (zb9 h1) (zb9 h2)
 ·have hy:scope.names.lookup y=some .cell\/scope.names.lookup y=some .free:=hy
  rcases hy with hy|hy
  ·exact QK hy
  ·exact absurd rfl (S.jW _ (zb9 hy))
 ·exact yQ (x.above y c (zb9 h))
 ·have hi:i < vs.length:=by
   unfold start at h2
   by_cases hi:i < vs.length
   ·exact hi
   ·rw[zad (by simpa using hi)] at h2
    rw[za7] at h2
    split at h2<;>cases h2
  have ha:vs[i]? =some v:=by
   unfold start at h2
   rw[yV (by simpa using hi),zD] at h2
   cases e:vs[i]? with
   |none=>rw[e] at h2;cases h2
   |some a=>rw[e] at h2;cases h2;rfl
  obtain⟨u,hu,rv⟩:=r.get ha
  have hp:ps[i]? =some y:=by
   rw[<-S.pre,List.getElem?_take_of_lt (by omega)];exact h1
  have ux:ps.Nodup:=by rw[<-S.pre];exact S.nd.sublist (List.take_sublist _ _)
  refine⟨u,rv,?_⟩
  rcases S.uC y (zj hp) with k|k
  ·exact .inl ⟨k,O5 ux hp hu k⟩
  ·obtain⟨c,e⟩:=QK (n:=s.heap.objs.size + 1) k
   refine .inr ⟨.inl k,c,e,?_⟩
   have q:=x.cell y c e
   rw[O6 ux hp hu (by show scope.names.lookup y≠_;rw[k];decide)] at q
   exact q
 ·exact e0.Av.fresh (yQ (x.above y c (zb9 h)))
 ·unfold start
  show _=N.length
  rw[zL,zc,zau]
  omega
theorem Ua {CX:U7}{P:Program}{w:World}{K:za}{mg:Str->Option Value}{base:Heap}{k:Nat}{f:Addr}{name qual:Str}{params:Arguments}{body:List Stmt}{scope:Scope}{dV kV doc pm B2 ct oc:Value}{an od:Option Addr}
 {Sn:Array (Option Value)} {N ps:List Str} {sp:Sp} (lk:K.lookup f=some ⟨oc,od,.func (zT name qual params body scope dV kV doc pm an B2 ct),Sn⟩) (bz:yI K B2 qual=true) (S:Ae N ps scope)
 (len:∀ vs H Q E,sp vs H Q E->vs.length=ps.length)
 (cr:∀(A:Around) (outer:List Env) (s:Shared) (H:Hp) (vs:List V) (Q:VK) (E:XK),BJ k (A.deeper (envOfC qual scope s.heap.objs.size f B2))->sp vs H Q E->
  ∃ t,U5 (Le CX P w K mg base N qual scope f B2 A outer s H E) body t/\t { nx:=fun _ H'=>Q .AA H',rt:=Q } (start N vs) H) :
 Dn P w K mg base CX (k + 1) f (zT name qual params body scope dV kV doc pm an B2 ct) ps sp:=by
 refine⟨len,fun A outer s H args us vs Q E hr e0 hb r ca=>?_⟩
 have hl:=len _ _ _ _ ca
 have KX:K.In s.heap:=e0.mod.WB.keeps fun b o e=>(e0.bs b o e).1
 have lim:s.heap.NoLimit:=e0.mod.nolimit.keeps fun b o e=>(e0.bs b o e).1
 have iy:∀ y∈ps.zip us,scope.names.lookup y.1=some .local\/(scope.names.lookup y.1=some .cell/\((cellsFrom (s.heap.objs.size + 1) scope.names []).lookup y.1).isSome=true):=fun ⟨n,v⟩ hy=>by
  rcases S.uC n (List.of_mem_zip hy).1 with q|q
  ·exact .inl q
  ·exact .inr ⟨q,PySem.W.cellsFrom_some _ _ _ (.inl q)⟩
 refine codeAny_call_function hr.depth (KX _ _ lk) rfl S.co S.gen rfl (PySem.W.codeRec_of KX bz) (hb _ _ _ _ ?_)
 refine wpAny_newFunctionEnv_cells S.kind iy fun env he s1 x=>?_
 subst he
 refine⟨lim.keeps x.toInCall.keep,codeAny_func ?_⟩
 obtain⟨t,ht,hq⟩:=cr A outer s H vs Q E (hr.deeper _) ca
 have I:Inv (Le CX P w K mg base N qual scope f B2 A outer s H E) [] (start N vs) H s1:=Vr S hr.hd e0 hl r x
 refine wpAny_mono (ht [] s1 (start N vs) H _ I hq) (fun fl s' hs=>?_) fun e s' hs=>hs
 have fin:∀ {σ':St} {H':Hp} {v:V} {u:Value},Inv (Le CX P w K mg base N qual scope f B2 A outer s H E) [] σ' H' s'->RelV v u->Q v H'->CE outer P w H s Q u s' :=
  fun {σ' H' v u} J rv q=>⟨v,H',J.os,J.bare,J.base,J.Av,rv,q⟩
 cases fl with
 |ret u =>
  obtain⟨v,σ',H',J,rv,q⟩:=hs
  exact fin J rv q
 |next =>
  obtain⟨σ',H',J,q⟩:=hs
  exact fin (v:=V.AA) (u:=Value.none) J rfl q
 |brk =>
  obtain⟨_,_,_,q⟩:=hs
  exact zah q
 |cont =>
  obtain⟨_,_,_,q⟩:=hs
  exact zah q
section
variable {X:Cx}{x:Str}{p pos:Pos}{e:Expr}{es:List Expr}{t:TA}{id T:String}{r:List V->Hp->VK->Prop}
noncomputable def sQ (r:List V->Hp->VK->Prop) (t:TA):TE:=fun σ H Q=>t σ H fun vs H1=>r vs H1 Q
theorem QL (hc:Gn X (.builtin id) r) (hg:Gl X x) (hm:X.mg x=none) (hv:bootBuiltins x=some (.builtin id)) (ha:PA X (e::es) t) (hn:x ≠ "__name__" := by decide) (aU:(x == ("__debug__" : Str))=false:=by decide)
 (he:starEach (e::es) X.env=(false,eval e X.env)::starEach es X.env:=by rfl) (a4:(backTo pos (starEach es X.env)).any (·.1)=false:=by rfl):PE X (.Call (.Name x p) (e::es) [] pos) (sQ r t):=by
 intro pins s σ H Q I h
 refine wpAny_Call_Name_kw (E6 I hg hm hv ?_ hn aU)
 exact PyProof.Rows.callWith_builtin1 (Bg (ha pos pins s σ H _ I h) fun us s1 ⟨vs,H1,I1,r1,q1⟩=>hc pins s1 σ H1 vs us Q I1 r1 q1) he a4
theorem O7 (hc:Gn X (.type T) r) (hg:Gl X x) (hm:X.mg x=none) (hv:bootBuiltins x=some (.type T)) (ha:PA X (e::es) t) (hn:x ≠ "__name__" := by decide) (aU:(x == ("__debug__" : Str))=false:=by decide)
 (he:starEach (e::es) X.env=(false,eval e X.env)::starEach es X.env:=by rfl) (a4:(backTo pos (starEach es X.env)).any (·.1)=false:=by rfl):PE X (.Call (.Name x p) (e::es) [] pos) (sQ r t):=by
 intro pins s σ H Q I h
 refine wpAny_Call_Name_kw (E6 I hg hm hv ?_ hn aU)
 exact yO (Bg (ha pos pins s σ H _ I h) fun us s1 ⟨vs,H1,I1,r1,q1⟩=>hc pins s1 σ H1 vs us Q I1 r1 q1) he a4
end
end L2
namespace HT
open PySem PyProof.Rows
noncomputable def lexLt:List Int->List Int->Bool
 |[],[]=>false
 |[],_::_=>true
 |_::_,[]=>false
 |x::xs,y::ys=>if x=y then lexLt xs ys else decide (x < y)
theorem Fu (x y:Int) (xs ys:List Int):lexLt (x::xs) (y::ys)=if x=y then lexLt xs ys else decide (x < y):=rfl
theorem EV:lexLt [] []=false:=rfl
theorem M9 (y:Int) (ys:List Int):lexLt [] (y::ys)=true:=rfl
theorem Ma (x:Int) (xs:List Int):lexLt (x::xs) []=false:=rfl
theorem X8 (A:Around) (s:Shared) (a:Int) (t:Tok) (c:Int) (u:Tok):∃ e,SeqAt.EqAt A s (.int a t) (.int c u) e/\(e=true↔a=c) :=
 ⟨(a == c),SeqAt.EqAt.int_int a t c u,by simp⟩
theorem X9 (A:Around) (s:Shared) (a:Int) (t:Tok) (c:Int) (u:Tok) (prog:Program) (w:World) (E:Value->Shared->Prop) (Q:Value->Shared->Prop) (h:Q (.bool (decide (a < c))) s) :
 wpAny (model prog w) A (richCompare .Lt (.int a t) (.int c u)) Q E s :=
 (PyProof.Rows.lt_int h:wpAny (model prog w) A (compareOp .Lt (.int a t) (.int c u)) Q E s)
section
open PySem.SeqAt
open PySem.AutoSeq1 (wpAny_loadPart')
open PySem.MeetsSeq PySem.MeetsSeq2 PySem.MeetsSeq3
theorem NF (l b:Addr) (items ay:Array Value) (n n2:Nat) (dd mq:Option Addr) (sl iz:Array (Option Value)) (ns ms:List Int) (hi:IntsAre items.toList ns) (hj:IntsAre ay.toList ms) :
 Meets (Builtin.«tuple.__lt__» ⟨[.ref l,.ref b],[]⟩)
  (fun _ R s=>s.heap.get? l=some { cls:=.type "tuple",dict:=dd,data:=.seq items n,slots:=sl }/\s.heap.get? b=some { cls:=.type "tuple",dict:=mq,data:=.seq ay n2,slots:=iz } /\
   R (.ok (.ret (.bool (lexLt ns ms)))) s) :=
 .of_wp fun prog w A R s h=>by
  obtain⟨hp,g,d,tk,os⟩:=s;obtain⟨hl,hb,h⟩:=h
  have f2:=AutoSeq1.sub_tuple_tuple
  have z1:items.size=ns.length:=by rw[<-hi.length];simp
  have z2:ay.size=ms.length:=by rw[<-hj.length];simp
  wp_walk using wpAny_loadPart' hl,wpAny_loadPart' hb,wpAny_forIn_list _ (fun rest b s'=>b.1=none/\s'=⟨hp,g,d,tk,os⟩/\∃(vs ws:List Value) (cQ h9:List Int),rest=vs.zip ws /\
   IntsAre vs cQ/\IntsAre ws h9/\cQ.length + ay.size=h9.length + items.size/\R (.ok (.ret (.bool (lexLt cQ h9)))) ⟨hp,g,d,tk,os⟩) _
  case turn =>
   rintro ⟨y,x⟩ rest b s' ⟨aE,rfl,vs,ws,cQ,h9,hz,mr,ku,hlen,hR⟩
   cases mr with
   |nil=>rw[List.zip_nil_left] at hz;cases hz
   |cons a t mt =>
    cases ku with
    |nil=>rw[List.zip_nil_right] at hz;cases hz
    |cons c u mw =>
     rw[List.zip_cons_cons] at hz
     injection hz with v8 i4
     injection v8 with hy hx
     subst hy hx
     rw[Fu] at hR
     simp only[zo] at hlen
     obtain⟨e,he,i5⟩:=X8 A.in1 ⟨hp,g,d,tk,os⟩ a t c u
     refine wpAny_bind (he prog w _ _ ?_)
     cases e with
     |true =>
      rw[if_pos (i5.mp rfl)] at hR
      wp_walk
      exact⟨rfl,rfl,_,_,_,_,i4,mt,mw,by omega,hR⟩
     |false =>
      rw[if_neg (fun q=>absurd (i5.mpr q) zM)] at hR
      have v9:=X9 A.in1 ⟨hp,g,d,tk,os⟩ a t c u prog w
      wp_walk using v9
      exact⟨_,rfl,by simpa using hR⟩
  case fin =>
   rintro ⟨b1,b2⟩ s' ⟨aE,rfl,vs,ws,cQ,h9,hz,mr,ku,hlen,hR⟩
   simp only at aE
   subst aE
   have hv:lexLt cQ h9=decide (items.size < ay.size):=by
    cases mr with
    |nil =>
     cases ku with
     |nil =>
      simp only[List.length_nil] at hlen
      rw[EV]
      exact (decide_eq_false (by omega)).symm
     |cons c u hw =>
      simp only[List.length_nil,zo] at hlen
      rw[M9]
      exact (decide_eq_true (by omega)).symm
    |cons a t hv =>
     cases ku with
     |nil =>
      simp only[List.length_nil,zo] at hlen
      rw[Ma]
      exact (decide_eq_false (by omega)).symm
     |cons c u hw =>
      rw[List.zip_cons_cons] at hz
      cases hz
   rw[hv] at hR
   wp_walk
   exact⟨_,rfl,by simpa [Builtin.Tuple.tupleCompareSizes] using hR⟩
  case h =>
   exact⟨rfl,rfl,items.toList,ay.toList,ns,ms,rfl,hi,hj,by omega,h⟩
end
section
variable {prog:Program}{w:World}{A:Around}{E:Value->Shared->Prop}{s:Shared}
theorem Il {l b:Addr}{items ay:Array Value}{ns ms:List Int}{Q:Value->Shared->Prop}(hl:IsTup s.heap l items) (hb:IsTup s.heap b ay) (hi:IntsAre items.toList ns) (hj:IntsAre ay.toList ms)
 (hu:A.units < cLine) (h:Q (.bool (lexLt ns ms)) s):wpAny (model prog w) A (compareOp .Lt (.ref l) (.ref b)) Q E s:=by
 obtain⟨⟨cls,dd,data,sl⟩,ho,hc,n,hd⟩:=id hl
 obtain⟨⟨vP,mq,data2,iz⟩,lb,uz,n2,hd2⟩:=id hb
 simp only at hc hd uz hd2
 subst hc hd uz hd2
 exact richCompare_meets_room (op:=.Lt) ⟨_,ho,rfl⟩ ⟨_,lb,rfl⟩ PySem.F.slot_tuple_lt PySem.F.entry_tuple_lt (PySem.F.args_tuple_lt_2 _ _) (NF l b items ay n n2 dd mq sl iz ns ms hi hj)
  ⟨ho,lb,show Value.bool (lexLt ns ms)≠Value.notImplemented/\Q (.bool (lexLt ns ms)) s from ⟨(fun x=>nomatch x),h⟩⟩ hu
noncomputable def Mb (n d:Nat):Option Int->Nat
 |none=>d
 |some v=>if v < 0 then (v + (n:Int)).toNat else min v.toNat n
theorem Xa (n d:Nat):Mb n d none=d:=rfl
theorem P9 (n d k:Nat):Mb n d (some (k:Int))=min k n:=by
 show (if (k:Int) < 0 then ((k:Int) + (n:Int)).toNat else min (k:Int).toNat n)=min k n
 rw[if_neg (by omega),yN]
end
end HT
namespace L2
open PySem PySem.Spec PyProof.Rows
noncomputable abbrev TO:=St->Hp->(Option Int->Hp->Prop)->Prop
noncomputable def PO (X:Cx) (e:Option Expr) (t:TO):Prop :=
 ∀(pins:List (Addr×Obj)) (s:Shared) (σ:St) (H:Hp) (Q:Option Int->Hp->Prop),Inv X pins σ H s->t σ H Q->
  wpAny (model X.prog X.w) X.A (evalPart e X.env) (fun u s'=>∃ o H',Inv X pins σ H' s'/\IsPart u o/\Q o H') X.xe s
noncomputable def Zx:TO:=fun _ H Q=>Q none H
noncomputable def oQ (t:TE):TO:=fun σ H Q=>t σ H fun x H1=>∃ i,x=.int i/\Q (some i) H1
theorem intsAre_of {ns:List Int}:∀ {us:List Value},Vals (ns.map V.int) us->IntsAre us ns:=by
 induction ns with
 |nil=>intro us r;rw[zan] at r;cases r;exact .nil
 |cons n ns ih =>
  intro us r
  rw[zg] at r
  cases r with
  |cons r1 r2 =>
   obtain⟨t,e⟩:=r1
   subst e
   exact .cons n t (ih r2)
section
variable {X:Cx}{e:Expr}{te:TE}{lo hi:Option Expr}{tl th:TO}{pos p2:Pos}
theorem Zy:PO X none Zx:=by
 intro pins s σ H Q I h
 rw[evalPart_none]
 exact wpAny_pure ⟨none,H,I,.none,h⟩
theorem Zz (h:PE X e te):PO X (some e) (oQ te):=by
 intro pins s σ H Q I hw
 rw[evalPart_some]
 refine Bg (h pins s σ H _ I hw) fun u s1 ⟨x,H1,I1,r1,q1⟩=>?_
 obtain⟨i,rfl,q⟩:=q1
 obtain⟨t,rfl⟩:=r1
 exact⟨some i,H1,I1,.int i t,q⟩
noncomputable def uD (X:Cx) (r:V->Option Int->Option Int->Hp->VK->Prop):Prop :=
 ∀(pins:List (Addr×Obj)) (s:Shared) (σ:St) (H:Hp) (x:V) (v vl vu:Value) (lo hi:Option Int) (sl:Addr) (Q:VK),Inv X pins σ H s->RelV x v->s.heap.IsSliceOf sl vl vu .none->IsPart vl lo->IsPart vu hi->r x lo hi H Q->
  ∃ T id,typeLookup (.type T) "__getitem__" = pure (some (.builtin id))/\s.TypeIs v T/\wpAny (model X.prog X.w) X.A (getItem v (.ref sl)) (EP X pins σ Q) X.xe s
noncomputable def vQ (r:V->Option Int->Option Int->Hp->VK->Prop) (te:TE) (tl th:TO):TE:=fun σ H Q=>te σ H fun x H1=>tl σ H1 fun l H2=>th σ H2 fun u H3=>r x l u H3 Q
theorem Xb {r:V->Option Int->Option Int->Hp->VK->Prop}(hr:uD X r) (he:PE X e te) (hl:PO X lo tl) (hu:PO X hi th):PE X (.Subscript e (.Slice lo hi none p2) pos) (vQ r te tl th):=by
 intro pins s σ H Q I h
 refine Subscript_ (Bg (he pins s σ H _ I h) fun v s1 ⟨x,H1,I1,r1,q1⟩=>?_)
 refine wpAny_Slice (Bg (hl pins s1 σ H1 _ I1 q1) fun vl s2 ⟨l,H2,I2,pl,q2⟩=>Bg (hu pins s2 σ H2 _ I2 q2) fun vu s3 ⟨u,H3,I3,pu,q3⟩=>?_)
 rw[evalPart_none]
 refine wpAny_pure ?_
 have I4:Inv X pins σ H3 { s3 with heap:=s3.heap.push { cls:=.type "slice",data:=.fields #[vl,vu,.none] } }:=I3.kept (t':=s3.toks) fun b ob q=>zr _ q
 obtain⟨T,id,hT,ht,hg⟩:=hr pins { s3 with heap:=s3.heap.push { cls:=.type "slice",data:=.fields #[vl,vu,.none] } } σ H3 x v vl vu l u s3.heap.objs.size Q I4 r1 (Heap.IsSliceOf.new ..) pl pu q3
 show wpAny (model X.prog X.w) X.A (subscriptTail e (.Slice lo hi none p2) v (.ref s3.heap.objs.size)) (EP X pins σ Q) X.xe { s3 with heap:=s3.heap.push { cls:=.type "slice",data:=.fields #[vl,vu,.none] } }
 exact tail_any (ops:=[.ref s3.heap.objs.size,v]) ht hT hg (by with_unfolding_all rfl)
noncomputable def Xc (xs:List V) (lo hi:Option Int):List V:=(xs.drop (HT.Mb xs.length 0 lo)).take (HT.Mb xs.length xs.length hi - HT.Mb xs.length 0 lo)
theorem QM (xs:List V) (lo hi:Option Int):(Xc xs lo hi).length<=xs.length:=by
 unfold Xc
 rw[yT,zbb]
 omega
noncomputable def oR (K:za):R2:=fun x y H Q=>∃ a b ns ms,x=.ref a/\y=.ref b/\Fs K H a (ns.map V.int)/\Fs K H b (ms.map V.int)/\Q (.bl (HT.lexLt ns ms)) H
theorem Xd (hu:X.A.units < cLine):Gm X (compareOp .Lt) (oR X.K):=by
 intro pins s σ H x y v u Q I rx ry h
 obtain⟨a,b,ns,ms,rfl,rfl,ha,hb,q⟩:=h
 cases rx
 cases ry
 obtain⟨aa,r1,p1,_⟩:=I.tuple ha
 obtain⟨aZ,r2,p2,_⟩:=I.tuple hb
 have i1:IntsAre aa.toArray.toList ns:=intsAre_of r1
 have i2:IntsAre aZ.toArray.toList ms:=intsAre_of r2
 exact HT.Il p1 p2 i1 i2 hu ⟨.bl (HT.lexLt ns ms),H,I,rfl,q⟩
end
noncomputable def O8 (n:Nat) (i:Int):Option Nat:=if 0<=i then (if i < n then some i.toNat else none) else if -(n:Int)<=i then some (i + n).toNat else none
noncomputable def QN {α:Type}(xs:List α) (i:Int):Option α:=(O8 xs.length i).bind fun j=>xs[j]?
theorem Ub {n:Nat}{i:Int}{j:Nat}(h:O8 n i=some j):seqIndex? i n=some j/\j < n/\-(n:Int)<=i/\i < n:=by
 unfold O8 at h
 by_cases h0:0<=i
 ·rw[if_pos h0] at h
  by_cases h1:i < n
  ·rw[if_pos h1] at h
   have e:i.toNat=j:=zI h
   exact⟨by rw[seqIndex_of h0 h1,e],by omega,by omega,h1⟩
  ·rw[if_neg h1] at h;cases h
 ·rw[if_neg h0] at h
  by_cases h1 : -(n:Int)<=i
  ·rw[if_pos h1] at h
   have e:(i + n).toNat=j:=zI h
   exact⟨by rw[seqIndex_neg (by omega) h1,e],by omega,h1,by omega⟩
  ·rw[if_neg h1] at h;cases h
theorem Uc {α:Type}{xs:List α}{i:Int}{v:α}(h:QN xs i=some v):∃ j,seqIndex? i xs.length=some j/\xs[j]? =some v/\j < xs.length/\-(xs.length:Int)<=i/\i < xs.length:=by
 unfold QN at h
 cases e:O8 xs.length i with
 |none=>rw[e] at h;cases h
 |some j =>
  rw[e] at h
  obtain⟨h1,h2,h3,h4⟩:=Ub e
  exact⟨j,h1,h,h2,h3,h4⟩
noncomputable def Hj (b:Expr):Prop:=∀ o i,subscripted b false o i=operate [o,i] (getItem o i)
noncomputable def ZA (X:Cx) (r:R2):Prop :=
 ∀(value slice:Expr) (pins:List (Addr×Obj)) (s:Shared) (σ:St) (H:Hp) (x y:V) (v u:Value) (Q:VK),Inv X pins σ H s->RelV x v->RelV y u->r x y H Q->
  subscripted slice false v u=operate [v,u] (getItem v u)->wpAny (model X.prog X.w) X.A (subscriptTail value slice v u) (EP X pins σ Q) X.xe s
noncomputable def vR (X:Cx) (id:String) (r:V->List V->Hp->VK->Prop):Prop :=
 ∀(pins:List (Addr×Obj)) (s:Shared) (σ:St) (H:Hp) (x:V) (xs:List V) (v:Value) (us:List Value) (Q:VK),Inv X pins σ H s->RelV x v->Vals xs us->r x xs H Q->
  wpAny (model X.prog X.w) X.A (call (.builtin id) (v::us)) (EP X pins σ Q) X.xe s
section
variable {X:Cx}{a b:Expr}{ta tb:TE}{pos:Pos}
theorem ZA.or {r r':R2}(h:ZA X r) (h':ZA X r'):ZA X (fun x y H Q=>r x y H Q\/r' x y H Q):=by
 intro value slice pins s σ H x y v u Q I rx ry q hs
 rcases q with q|q
 ·exact h value slice pins s σ H x y v u Q I rx ry q hs
 ·exact h' value slice pins s σ H x y v u Q I rx ry q hs
theorem Ud {r:R2}(hr:ZA X r) (ha:PE X a ta) (hb:PE X b tb) (hs:Hj b):PE X (.Subscript a b pos) (mX r ta tb):=by
 intro pins s σ H Q I h
 exact Subscript_ (jJ ha hb I h fun v u s2 x y H2 I2 rx ry q=>hr a b pins s2 σ H2 x y v u Q I2 rx ry q (hs _ _))
noncomputable def jX (K:za):R2:=fun x y H Q=>∃ p xs i v,x=.ref p/\y=.int i/\Dm K H p xs/\QN xs i=some v/\Q v H
noncomputable def jY (K:za):R2:=fun x y H Q=>∃ p xs i v,x=.ref p/\y=.int i/\Fs K H p xs/\QN xs i=some v/\Q v H
theorem Lp:ZA X (jX X.K):=by
 intro value slice pins s σ H x y v u Q I rx ry h hs
 obtain⟨p,xs,i,z,rfl,rfl,hq,he,q⟩:=h
 cases rx
 obtain⟨t,rfl⟩:=ry
 obtain⟨aa,r,pl,hz⟩:=I.list hq
 obtain⟨j,h1,h2,h3,h4,h5⟩:=Uc he
 obtain⟨w,ew,b5⟩:=r.get h2
 have hl:=r.length
 have hn:=Ki
 have fin:EP X pins σ Q w s:=⟨z,H,I,b5,q⟩
 by_cases h0:0<=i
 ·have hj:i.toNat=j:=by
   rw[seqIndex_of h0 h5] at h1
   exact zI h1
  exact item_listR pl.isList h0 (by omega) (by rw[hj];simpa using ew) fin hs
 ·have hj:(i + (aa.toArray.size:Int)).toNat=j:=by
   rw[seqIndex_neg (by omega) h4] at h1
   rw[zk,<-hl]
   exact zI h1
  exact subscriptTail_builtinR (x:=w) pl.isList.typeIs slot_list_getitem.lookup
   (wpAny_getItem_list_neg (Q:=fun r s'=>r=w/\EP X pins σ Q r s') pl.isList (by omega) (by rw[zk]<;>omega) (by omega) (by rw[hj];simpa using ew) ⟨rfl,fin⟩) hs
theorem jZ:ZA X (jY X.K):=by
 intro value slice pins s σ H x y v u Q I rx ry h hs
 obtain⟨p,xs,i,z,rfl,rfl,hq,he,q⟩:=h
 cases rx
 obtain⟨t,rfl⟩:=ry
 obtain⟨aa,r,pl,hz⟩:=I.tuple hq
 obtain⟨j,h1,h2,h3,h4,h5⟩:=Uc he
 obtain⟨w,ew,b5⟩:=r.get h2
 have hl:=r.length
 have hn:=Ki
 have fin:EP X pins σ Q w s:=⟨z,H,I,b5,q⟩
 exact subscriptTail_builtinR (x:=w) pl.typeIs slot_tuple_getitem.lookup
  (getItem_tuple (j:=j) (Q:=fun r s'=>r=w/\EP X pins σ Q r s') pl (by omega) (by omega) (by rw[zk,<-hl];exact h1) (by simpa using ew) ⟨rfl,fin⟩) hs
theorem SK (aa:List Value) (n j:Nat) (u:Value):zam (·.setIfInBounds j u) { cls:=.type "list",data:=.seq aa.toArray n }={ cls:=.type "list",data:=.seq (aa.set j u).toArray n }:=by
 simp[zam]
theorem Inv.lst {pins:List (Addr×Obj)}{σ:St}{H:Hp}{s:Shared}{p:Addr}{xs:List V}(I:Inv X pins σ H s) (h:H p=some (.lst xs)) :
 ∃(aa:List Value) (n:Nat),Vals xs aa/\s.heap.get? p=some { cls:=.type "list",data:=.seq aa.toArray n }/\xs.length<=sizeLine:=by
 obtain⟨z,aa,n,r,e⟩:=I.Av p _ h
 exact⟨aa,n,r,e,z⟩
theorem Inv.kA {pins:List (Addr×Obj)}{σ:St}{H:Hp}{s:Shared}{p:Addr}{xs ys:List V}{aa its':List Value}{n n':Nat}{f:Obj->Obj}(I:Inv X pins σ H s) (h:H p=some (.lst xs))
 (ho:s.heap.get? p=some { cls:=.type "list",data:=.seq aa.toArray n }) (hf:f { cls:=.type "list",data:=.seq aa.toArray n }={ cls:=.type "list",data:=.seq its'.toArray n' }) (r:Vals ys its') (hz:ys.length<=sizeLine) (t:Nat) :
 Inv X pins σ (upd H p (.lst ys)) { s with heap:=s.heap.update p f,toks:=t }:=by
 have e:(s.heap.update p f).get? p=some { cls:=.type "list",data:=.seq its'.toArray n' }:=by
  rw[zax f ho (by rw[hf]<;>rfl),hf]
 refine I.write (x:=p) (e:=p) (by rw[h];trivial) (.inl rfl) (fun b u hb q=>(zar _ _ (yE hb)).trans q) ⟨_,e⟩ ?_
 exact⟨hz,its',n',r,e⟩
noncomputable def oS:V->V->V->Hp->(Hp->Prop)->Prop:=fun o i v H Q=>∃ p xs k j,o=.ref p/\i=.int k/\H p=some (.lst xs)/\O8 xs.length k=some j/\Q (upd H p (.lst (xs.set j v)))
theorem set_list:oA X oS:=by
 intro pins s σ H o i v ov iv u Q I ro ri rv h
 obtain⟨p,xs,k,j,rfl,rfl,hp,hj,q⟩:=h
 cases ro
 obtain⟨t,rfl⟩:=ri
 obtain⟨aa,n,r,ho,hz⟩:=I.lst hp
 obtain⟨h1,h2,h3,h4⟩:=Ub hj
 have hl:=r.length
 have hn:=Ki
 have I':Inv X pins σ (upd H p (.lst (xs.set j v))) { s with heap:=s.heap.update p (zam (·.setIfInBounds j u)) } :=
  I.kA hp ho (SK aa n j u) (r.set rv j) (by rw[yK];exact hz) s.toks
 by_cases h0:0<=k
 ·have hk:k.toNat=j:=by
   rw[seqIndex_of h0 h4] at h1
   exact zI h1
  exact PySem.W.ki_setAt ho h0 (by omega) (by rw[zk,<-hl];exact h4) (by rw[hk];exact⟨_,I',q⟩)
 ·have hk:(k + (aa.toArray.size:Int)).toNat=j:=by
   rw[seqIndex_neg (by omega) h3] at h1
   rw[zk,<-hl]
   exact zI h1
  exact PySem.W.ki_setBack ho (by omega) (by rw[zk,<-hl];exact h3) (by omega) (by rw[hk];exact⟨_,I',q⟩)
theorem Pa (lo hi:Option Int) (n:Nat):(sliceBounds lo hi none n).1=((HT.Mb n 0 lo:Nat):Int)/\(sliceBounds lo hi none n).2.1=((HT.Mb n n hi:Nat):Int)/\(sliceBounds lo hi none n).2.2=1:=by
 refine⟨?_,?_,rfl⟩
 ·cases lo with
  |none=>simp[sliceBounds,HT.Mb]
  |some i =>
   simp only[sliceBounds,HT.Mb,Option.getD_none,show (1:Int) > 0 by decide,if_true]
   by_cases h:i < 0
   ·simp only[h,if_true]<;>omega
   ·simp only[h,if_false]<;>omega
 ·cases hi with
  |none=>simp[sliceBounds,HT.Mb]
  |some i =>
   simp only[sliceBounds,HT.Mb,Option.getD_none,show (1:Int) > 0 by decide,if_true]
   by_cases h:i < 0
   ·simp only[h,if_true]<;>omega
   ·simp only[h,if_false]<;>omega
theorem NG (aa:List Value) (lo hi:Option Int):slicePick aa.toArray lo hi none=((aa.drop (HT.Mb aa.length 0 lo)).take (HT.Mb aa.length aa.length hi - HT.Mb aa.length 0 lo)).toArray:=by
 obtain⟨h1,h2,h3⟩:=Pa lo hi aa.toArray.size
 unfold slicePick
 rw[h1,h2,h3]
 simp only[sliceRange_one,pick_run,zk]<;>rfl
noncomputable def sR (K:za):V->Option Int->Option Int->Hp->VK->Prop:=fun x lo hi H Q=>∃ a xs,x=.ref a/\Dm K H a xs/\∀ p,H p=none->Q (.ref p) (upd H p (.lst (Xc xs lo hi)))
theorem ZC:uD X (sR X.K):=by
 intro pins s σ H x v vl vu lo hi sl Q I rx hs pl pu h
 obtain⟨a,xs,rfl,hx,q⟩:=h
 cases rx
 obtain⟨aa,r,ht,hz⟩:=I.list hx
 have hlen:=r.length
 refine⟨"list",_,slot_list_getitem.lookup,ht.isList.typeIs,?_⟩
 refine wpAny_getItem_list_slice ht.isList hs pl pu .none (by simp) ?_ (by rw[zk]<;>omega)
 rw[NG,<-hlen]
 refine⟨.ref s.heap.objs.size,_,I.laid (t':=s.toks) (o:=.lst (Xc xs lo hi)) (fun b ob q=>zr _ q) (zA _) ?_,rfl,q _ (I.Av.fresh (zA _))⟩
 exact⟨yP (QM xs lo hi) hz,_,0,(r.drop (HT.Mb xs.length 0 lo)).take (HT.Mb xs.length xs.length hi - HT.Mb xs.length 0 lo),zH _ rfl⟩
noncomputable def J0:V->Bool
 | .AA=>true
 | .bl _=>true
 | .int _=>true
 | .str _=>true
 |_=>false
noncomputable def gR:V->V->Bool
 | .AA,.AA=>true
 | .bl a,.bl b=>a == b
 | .bl a,.int b=>(if a then 1 else 0) == b
 | .int a,.bl b=>a == (if b then 1 else 0)
 | .int a,.int b=>a == b
 | .str a,.str b=>a == b
 |_,_=>false
theorem kB {A:Around}{s:Shared}{y x:V}{u v:Value}(ry:RelV y u) (rx:RelV x v) (fy:J0 y=true) (fx:J0 x=true):SeqAt.EqAt A s u v (gR y x):=by
 cases y with
 |AA =>
  cases ry
  cases x with
  |AA=>cases rx;exact SeqAt.EqAt.same _
  |bl b=>cases rx;exact SeqAt.EqAt.none_bool b
  |int b=>obtain⟨t,rfl⟩:=rx;exact SeqAt.EqAt.none_int b t
  |str b=>obtain⟨t,rfl⟩:=rx;exact SeqAt.EqAt.none_str b t
  |_=>exact absurd (show false=true from fx) zM
 |bl a =>
  cases ry
  cases x with
  |AA=>cases rx;exact SeqAt.EqAt.bool_none a
  |bl b=>cases rx;exact SeqAt.EqAt.bool_bool a b
  |int b=>obtain⟨t,rfl⟩:=rx;exact SeqAt.EqAt.bool_int a b t
  |str b=>obtain⟨t,rfl⟩:=rx;exact SeqAt.EqAt.bool_str a b t
  |_=>exact absurd (show false=true from fx) zM
 |int a =>
  obtain⟨t',rfl⟩:=ry
  cases x with
  |AA=>cases rx;exact SeqAt.EqAt.int_none a t'
  |bl b=>cases rx;exact SeqAt.EqAt.int_bool a t' b
  |int b=>obtain⟨t,rfl⟩:=rx;exact SeqAt.EqAt.int_int a t' b t
  |str b=>obtain⟨t,rfl⟩:=rx;exact SeqAt.EqAt.int_str a t' b t
  |_=>exact absurd (show false=true from fx) zM
 |str a =>
  obtain⟨t',rfl⟩:=ry
  cases x with
  |AA=>cases rx;exact SeqAt.EqAt.str_none a t'
  |bl b=>cases rx;exact SeqAt.EqAt.str_bool a t' b
  |int b=>obtain⟨t,rfl⟩:=rx;exact SeqAt.EqAt.str_int a t' b t
  |str b=>obtain⟨t,rfl⟩:=rx;exact SeqAt.EqAt.str_str a t' b t
  |_=>exact absurd (show false=true from fx) zM
 |_=>exact absurd (show false=true from fy) zM
noncomputable def SM (x:V) (u:Value):Bool:=match u with
 | .none=>gR .AA x
 | .bool b=>gR (.bl b) x
 | .int i _=>gR (.int i) x
 | .str z _=>gR (.str z) x
 |_=>false
theorem Xe {x y:V}{u:Value}(r:RelV y u) (f:J0 y=true):SM x u=gR y x:=by
 cases y with
 |AA=>cases r;rfl
 |bl b=>cases r;rfl
 |int i=>obtain⟨t,rfl⟩:=r;rfl
 |str z=>obtain⟨t,rfl⟩:=r;rfl
 |_=>exact absurd (show false=true from f) zM
theorem J2 {x:V}:∀ {xs:List V}{us:List Value},Vals xs us->xs.all J0=true->us.any (SM x)=xs.any fun y=>gR y x
 |_,_,.nil,_=>rfl
 |y::xs,u::us,.cons r t,f=>by
  rw[List.all_cons,zR] at f
  rw[zb2,zb2,Xe r f.1,J2 t f.2]
theorem Gq {A:Around}{s:Shared}{x:V}{v:Value}(rx:RelV x v) (fx:J0 x=true):∀ {xs:List V}{us:List Value},Vals xs us->xs.all J0=true->∀ u∈us,SeqAt.EqAt A s u v (SM x u)
 |_,_,.nil,_=>fun u hu=>by cases hu
 |y::xs,u::us,.cons r t,f=>fun u' hu=>by
  rw[List.all_cons,zR] at f
  rcases zu.mp hu with rfl|hu
  ·rw[Xe r f.1];exact kB r rx f.1 fx
  ·exact Gq rx fx t f.2 u' hu
noncomputable def qZ (x:V) (xs:List V):Bool:=xs.any fun y=>gR y x
noncomputable def rA (K:za) (neg:Bool):R2:=fun x y H Q=>∃ p xs,y=.ref p/\(Dm K H p xs\/Fs K H p xs)/\J0 x=true/\xs.all J0=true/\Q (.bl (if neg then !qZ x xs else qZ x xs)) H
theorem Vs:Gm X (compareOp .In) (rA X.K false):=by
 intro pins s σ H x y v u Q I rx ry h
 obtain⟨p,xs,rfl,hq,fx,fs,q⟩:=h
 cases ry
 rcases hq with hq|hq
 ·obtain⟨aa,r,pl,hz⟩:=I.list hq
  refine SeqAt.in_listAt (SM x) pl.isList (fun w hw=>Gq rx fx r fs w (by simpa using hw)) ⟨.bl _,H,I,rfl,?_⟩
  rw[show aa.toArray.any (SM x)=aa.any (SM x) by simp,J2 r fs]
  exact q
 ·obtain⟨aa,r,pl,hz⟩:=I.tuple hq
  refine SeqAt.in_tupleAt (SM x) pl (fun w hw=>Gq rx fx r fs w (by simpa using hw)) ⟨.bl _,H,I,rfl,?_⟩
  rw[show aa.toArray.any (SM x)=aa.any (SM x) by simp,J2 r fs]
  exact q
theorem Pb:Gm X (compareOp .NotIn) (rA X.K true):=by
 intro pins s σ H x y v u Q I rx ry h
 obtain⟨p,xs,rfl,hq,fx,fs,q⟩:=h
 cases ry
 rcases hq with hq|hq
 ·obtain⟨aa,r,pl,hz⟩:=I.list hq
  refine SeqAt.notIn_listAt (SM x) pl.isList (fun w hw=>Gq rx fx r fs w (by simpa using hw)) ⟨.bl _,H,I,rfl,?_⟩
  rw[show aa.toArray.any (SM x)=aa.any (SM x) by simp,J2 r fs]
  exact q
 ·obtain⟨aa,r,pl,hz⟩:=I.tuple hq
  refine SeqAt.notIn_tupleAt (SM x) pl (fun w hw=>Gq rx fx r fs w (by simpa using hw)) ⟨.bl _,H,I,rfl,?_⟩
  rw[show aa.toArray.any (SM x)=aa.any (SM x) by simp,J2 r fs]
  exact q
theorem Pc:Gn X (.builtin "len") (fun xs H Q=>∃ p ys,xs=[.ref p]/\(Dm X.K H p ys\/Fs X.K H p ys)/\Q (.int ys.length) H):=by
 intro pins s σ H xs us Q I r h
 obtain⟨p,ys,rfl,hq,q⟩:=h
 obtain⟨u,rfl,rx⟩:=vals1 r
 cases rx
 have hn:=Ki
 rcases hq with hq|hq
 ·obtain⟨aa,r',pl,hz⟩:=I.list hq
  have hlen:=r'.length
  exact Calls.call_len_list pl.isList (by simp only[zk]<;>omega) ⟨.int ys.length,H,I.tok _,⟨s.toks + 1,by rw[zk,hlen]⟩,q⟩
 ·obtain⟨aa,r',pl,hz⟩:=I.tuple hq
  have hlen:=r'.length
  exact len_tuple pl (by simp only[zk]<;>omega) ⟨.int ys.length,H,I.tok _,⟨s.toks + 1,by rw[zk,hlen]⟩,q⟩
theorem Pd:Gn X (.type "list") (fun xs H Q=>∃ p ys,xs=[.ref p]/\(Dm X.K H p ys\/Fs X.K H p ys)/\∀ l,H l=none->Q (.ref l) (upd H l (.lst ys))):=by
 intro pins s σ H xs us Q I r h
 obtain⟨p,ys,rfl,hq,q⟩:=h
 obtain⟨u,rfl,rx⟩:=vals1 r
 cases rx
 have fin:∀(aa:List Value),Vals ys aa->ys.length<=sizeLine->∀(h':Heap) (c':Nat),(∀ b o',s.heap.get? b=some o'->h'.get? b=some o')->
  h'.get? s.heap.objs.size=some { cls:=.type "list",dict:=none,data:=.seq aa.toArray c',slots:=#[] }->EP X pins σ Q (.ref s.heap.objs.size) { s with heap:=h' }:=fun aa r' hz h' c' kp e =>
  ⟨.ref s.heap.objs.size,_,I.laid (t':=s.toks) kp (zA _) (show BF X.prog X.w _ h' _ (.lst ys) from ⟨hz,aa,c',r',e⟩),rfl,q _ (I.Av.fresh (zA _))⟩
 rcases hq with hq|hq
 ·obtain⟨aa,r',pl,hz⟩:=I.list hq
  have hlen:=r'.length
  obtain⟨o,ho,hc,n,hd⟩:=pl.isList
  exact call_list_seq p (.inl rfl) ho hc hd (fun h' c' kp e=>fin aa r' hz h' c' kp e) (by simp only[zk]<;>omega)
 ·obtain⟨aa,r',pl,hz⟩:=I.tuple hq
  have hlen:=r'.length
  obtain⟨o,ho,hc,n,hd⟩:=pl
  exact call_list_seq p (.inr rfl) ho hc hd (fun h' c' kp e=>fin aa r' hz h' c' kp e) (by simp only[zk]<;>omega)
theorem NH:Gn X (.type "tuple") (fun xs H Q=>∃ p ys,xs=[.ref p]/\((Dm X.K H p ys/\∀ l,H l=none->Q (.ref l) (upd H l (.tup ys)))\/(Fs X.K H p ys/\Q (.ref p) H))):=by
 intro pins s σ H xs us Q I r h
 obtain⟨p,ys,rfl,h⟩:=h
 obtain⟨u,rfl,rx⟩:=vals1 r
 cases rx
 rcases h with ⟨hq,q⟩|⟨hq,q⟩
 ·obtain⟨aa,r',pl,hz⟩:=I.list hq
  have hlen:=r'.length
  refine call_tuple_list pl.isList (fun h' kp=>?_) (by simp only[zk]<;>omega)
  have I1:Inv X pins σ H { s with heap:=h' }:=I.kept (t':=s.toks) kp
  have I2:Inv X pins σ (upd H h'.objs.size (.tup ys)) { s with heap:=h'.push { cls:=.type "tuple",data:=.seq aa.toArray } } :=
   I1.laid (t':=s.toks) (fun b o e=>zr _ e) (zA _) (show BF X.prog X.w _ _ _ (.tup ys) from ⟨hz,aa,r',IsTup.new _ _⟩)
  exact⟨.ref h'.objs.size,_,I2,rfl,q _ (I1.Av.fresh (zA _))⟩
 ·obtain⟨aa,r',pl,hz⟩:=I.tuple hq
  exact call_tuple_same pl ⟨.ref p,H,I,rfl,q⟩
noncomputable def uE (K:za) (T:String) (x:V) (H:Hp):Prop:=match x with
 | .str _=>T = "str"
 | .int _=>T = "int"
 | .ref p=>(T = "list" /\ ∃ xs,Dm K H p xs)\/(T = "tuple" /\ ∃ o,K.lookup p=some o/\o.cls=.type "tuple" /\ o.dict=none) \/
  (T = "dict" /\ ((∃ kvs,H p=some (.dK kvs))\/∃ kvs,H p=some (.dT kvs)))\/(T = "set" /\ ∃ S n,H p=some (.set S n))
 |_=>False
theorem kC {pins:List (Addr×Obj)}{σ:St}{H:Hp}{s:Shared}{T:String}{x:V}{v:Value}(I:Inv X pins σ H s) (r:RelV x v) (ty:uE X.K T x H) :
 s.TypeIs v T/\∀ a,v=.ref a->∃ ob,s.heap.get? a=some ob/\ob.dict=none:=by
 cases x with
 |str z =>
  obtain⟨t,rfl⟩:=r
  cases (show T = "str" from ty)
  exact⟨typeIs_str s z t,fun _ e=>nomatch e⟩
 |int i =>
  obtain⟨t,rfl⟩:=r
  cases (show T = "int" from ty)
  exact⟨typeIs_int s i t,fun _ e=>nomatch e⟩
 |ref p =>
  cases r
  rcases ty with ⟨rfl,xs,hq⟩|⟨rfl,o,hk,hc,hd⟩|⟨rfl,hk⟩|⟨rfl,S,n,hk⟩
  ·obtain⟨aa,_,pl,_⟩:=I.list hq
   refine⟨pl.isList.typeIs,fun a e=>?_⟩
   cases e
   obtain⟨o,n,e,c,hd,_⟩:=pl
   exact⟨o,e,hd⟩
  ·refine⟨⟨o,I.Nz p o hk,hc⟩,fun a e=>?_⟩
   cases e
   exact⟨o,I.Nz _ o hk,hd⟩
  ·have z:∃ o,s.heap.get? p=some o/\o.ExactDict:=by
    rcases hk with ⟨kvs,hk⟩|⟨kvs,hk⟩
    ·obtain⟨_,_,_,_,o,_,_,e,ex,_⟩:=I.Av p _ hk
     exact⟨o,e,ex⟩
    ·obtain⟨_,_,_,_,o,_,_,e,ex,_⟩:=I.Av p _ hk
     exact⟨o,e,ex⟩
   obtain⟨o,e,ex⟩:=z
   refine⟨⟨o,e,ex.1⟩,fun a e2=>?_⟩
   cases e2
   exact⟨o,e,ex.2.1⟩
  ·obtain⟨o,_,_,_,e,ex,_⟩:=I.Av p _ hk
   refine⟨⟨o,e,ex.1⟩,fun a e2=>?_⟩
   cases e2
   exact⟨o,e,ex.2.1⟩
 |_=>exact zah ty
noncomputable def vS (K:za) (T:String) (r:V->List V->Hp->VK->Prop) (to:TE) (t:TA):TE:=fun σ H Q=>to σ H fun x H1=>uE K T x H1/\t σ H1 fun xs H2=>r x xs H2 Q
variable {o e:Expr}{es:List Expr}{to:TE}{t:TA}{name:Str}{apos ad:Pos}{T id:String}{r:V->List V->Hp->VK->Prop}
theorem QO (pa:PlainAttrs T) (slot:Slot T name id) (vT:typeOf (.builtin id)=pure (.type "method_descriptor")) (hm:vR X id r) (ho:PE X o to) (ha:PA X (e::es) t)
 (a8:attributeBase o name X.env (eval o X.env)=eval o X.env:=by rfl)
 (aV:((backTo ad (starEach (e::es) X.env)).all (fun x => !x.1) && (backToKw ad (keywordEach [] X.env)).all (fun x=>x.1.isSome)
  && decide ((e::es).length + ([]:List Keyword).length + (if ([]:List Keyword).isEmpty then 0 else 1) < 30))=true:=by rfl)
 (a9:(apos.endLine == ad.line)=true:=by rfl) (hs:starEach (e::es) X.env=(false,eval e X.env)::starEach es X.env:=by rfl) (ar:(backTo ad (starEach es X.env)).any (·.1)=false:=by rfl) :
 PE X (.Call (.Attribute o name apos) (e::es) [] ad) (vS X.K T r to t):=by
 intro pins s σ H Q I h
 refine wpAny_Call_method_late a8 aV a9 rfl (Bg (ho pins s σ H _ I h) fun v s1 ⟨x,H1,I1,r1,ty,q1⟩=>?_)
 obtain⟨h1,h2⟩:=kC I1 r1 ty
 refine⟨T,id,pa,slot,vT,h1,h2,?_⟩
 have hA:=ha ad pins s1 σ H1 _ I1 q1
 rw[hs] at hA ⊢
 refine Calls.callWith_builtin (by show (false || (backTo ad (starEach es X.env)).any (·.1))=false;rw[ar]<;>rfl) (Calls.evalArgs_plain ?_)
 exact Bg hA fun us s2 ⟨vs,H2,I2,r2,q2⟩=>hm pins s2 σ H2 x vs v us Q I2 r1 r2 q2
end
noncomputable def rB (X:Cx) (id:String) (r:V->List V->Hp->VK->Prop):Prop :=
 ∀(pins:List (Addr×Obj)) (s:Shared) (σ:St) (H:Hp) (x:V) (xs:List V) (v:Value) (us:List Value) (Q:VK),Inv X pins σ H s->RelV x v->Vals xs us->r x xs H Q->
  wpAny (model X.prog X.w) X.A (call (.builtin id) (v::us)) (EP X pins σ Q) X.xe s
theorem Vals.one:∀ {x:V}{us:List Value},Vals [x] us->∃ u,us=[u]/\RelV x u
 |_,_,.cons r .nil=>⟨_,rfl,r⟩
theorem Vals.two:∀ {x y:V}{us:List Value},Vals [x,y] us->∃ u v,us=[u,v]/\RelV x u/\RelV y v
 |_,_,_,.cons r (.cons q .nil)=>⟨_,_,rfl,r,q⟩
theorem Vals.dropLast {xs:List V}{us:List Value}(h:Vals xs us):Vals xs.dropLast us.dropLast:=by
 induction h with
 |nil=>exact .nil
 |cons r t ih =>
  cases t with
  |nil=>exact .nil
  |cons q t'=>exact .cons r ih
theorem Vals.eraseIdx:∀ {xs:List V}{us:List Value}(i:Nat),Vals xs us->Vals (xs.eraseIdx i) (us.eraseIdx i)
 |_,_,_,.nil=>.nil
 |_,_,0,.cons _ t=>t
 |_,_,i + 1,.cons r t=>.cons r (Vals.eraseIdx i t)
theorem Vals.rep {xs:List V}{us:List Value}(h:Vals xs us):∀ k:Nat,Vals (zv k xs).flatten (zv k us).flatten
 |0=>.nil
 |k + 1=>by
  rw[za0,za0,List.flatten_cons,List.flatten_cons]
  exact Vals.append h (Vals.rep h k)
theorem foldl_rep (aa:List Value):∀(k:Nat) (acc:List Value),
 List.foldl (fun x1 x2=>x1++x2) acc.toArray (zv k aa.toArray)=(acc++(zv k aa).flatten).toArray
 |0,acc=>by simp
 |k + 1,acc=>by
  have e:acc.toArray++aa.toArray=(acc++aa).toArray:=by simp
  have e2:(acc++aa)++(zv k aa).flatten=acc++(zv (k + 1) aa).flatten:=by
   rw[za0,List.flatten_cons,zai]
  rw[<-e2,<-foldl_rep aa k (acc++aa),<-e,za0,zU]
section
variable {X:Cx}{pins:List (Addr×Obj)}{σ:St}{H:Hp}{s:Shared}{l b:Addr}{xs ys zs:List V}
theorem Inv.ZD {aa its':List Value}{n:Nat}{f:Array Value->Array Value}{t':Nat}(I:Inv X pins σ H s) (hH:H l=some (.lst xs))
 (e:s.heap.get? l=some { cls:=.type "list",data:=.seq aa.toArray n }) (hf:f aa.toArray=its'.toArray) (hv:Vals ys its') (hz:ys.length<=sizeLine) :
 Inv X pins σ (upd H l (.lst ys)) { s with heap:=s.heap.update l (zam f),toks:=t' }:=by
 have q:=PySem.IsL.update e f
 rw[hf] at q
 refine I.write (x:=l) (e:=l) (by rw[hH];exact trivial) (.inl rfl) (fun b' u hb hu=>(zar s.heap (zam f) (yE hb)).trans hu) ⟨_,q⟩ ?_
 exact⟨hz,its',_,hv,q⟩
theorem Inv.oU {aa:List Value}{t':Nat}(I:Inv X pins σ H s) (hv:Vals ys aa) (hz:ys.length<=sizeLine) :
 Inv X pins σ (upd H s.heap.objs.size (.lst ys)) { s with heap:=s.heap.push { cls:=.type "list",data:=.seq aa.toArray },toks:=t' } :=
 I.laid (fun _ _ q=>zr _ q) (zA _) ⟨hz,aa,0,hv,zH _ rfl⟩
theorem Inv.fresh (I:Inv X pins σ H s):H s.heap.objs.size=none:=I.Av.fresh (zA _)
theorem Inv.Vt (I:Inv X pins σ H s) (hH:H l=some (.lst xs)):xs.length<=sizeLine/\∃(aa:List Value) (n:Nat),Vals xs aa/\xs.length=aa.length/\s.heap.get? l=some { cls:=.type "list",data:=.seq aa.toArray n }:=by
 obtain⟨z,aa,n,r,e⟩:=I.Av l _ hH
 exact⟨z,aa,n,r,r.length,e⟩
theorem QP {n:Nat}(h:n<=sizeLine):zb1 n=false:=by
 unfold zb1
 exact decide_eq_false (by omega)
end
section
variable {X:Cx}
noncomputable def ZE:V->List V->Hp->VK->Prop:=fun x vs H Q=>∃ l xs y,x=.ref l/\vs=[y]/\H l=some (.lst xs)/\xs.length < sizeLine/\Q .AA (upd H l (.lst (xs++[y])))
theorem O9:rB X "list.append" ZE:=by
 intro pins s σ H x vs v us Q I rx rv h
 obtain⟨l,xs,y,rfl,rfl,hH,hz,q⟩:=h
 cases rx
 obtain⟨u,rfl,ru⟩:=rv.one
 obtain⟨z,aa,n,r,hl,e⟩:=I.Vt hH
 refine call_meets F.slot_list_append ⟨_,e,rfl⟩ F.entry_list_append (F.args_list_append_2 _ _) (PySem.list_append l aa.toArray n u (by rw[zk];omega)) ⟨e,?_⟩
 refine⟨.AA,_,I.ZD (its':=aa++[u]) hH e (by simp) (r.append (.cons ru .nil)) ?_,rfl,q⟩
 rw[zL,za3]
 omega
noncomputable def ZF:V->List V->Hp->VK->Prop:=fun x vs H Q=>∃ l b xs zs,x=.ref l/\vs=[.ref b]/\H l=some (.lst xs)/\H b=some (.lst zs)/\xs.length + zs.length<=sizeLine/\Q .AA (upd H l (.lst (xs++zs)))
theorem Vu:rB X "list.extend" ZF:=by
 intro pins s σ H x vs v us Q I rx rv h
 obtain⟨l,b,xs,zs,rfl,rfl,hH,hB,hz,q⟩:=h
 cases rx
 obtain⟨u,rfl,ru⟩:=rv.one
 cases ru
 obtain⟨z,aa,n,r,hl,e⟩:=I.Vt hH
 obtain⟨z2,aZ,n2,r2,bf,e2⟩:=I.Vt hB
 have hsz:aa.toArray.size + aZ.toArray.size<=sizeLine:=by rw[zk,zk];omega
 have cu:¬ (!aa.toArray.isEmpty && zb1 (aa.toArray.size + aZ.toArray.size))=true:=by
  rw[QP hsz,Bool.and_false]
  exact zM
 refine call_meets F.slot_list_extend ⟨_,e,rfl⟩ F.entry_list_extend (F.args_list_extend_2 _ _)
  (AutoSeq1.list_extend_list_list_0 l aa.toArray n b aZ.toArray n2 cu (by rw[zk];omega) (by omega)) ⟨e,e2,?_⟩
 refine⟨.AA,_,I.ZD (its':=aa++aZ) hH e (by simp) (r.append r2) ?_,rfl,q⟩
 rw[zL]
 omega
noncomputable def sS:R2:=fun x y H Q=>∃ l k xs,x=.ref l/\y=.int k/\H l=some (.lst xs)/\-(2 ^ 63)<=k/\k < 2 ^ 63/\xs.length * k.toNat<=sizeLine /\
 ∀ p,H p=none->Q (.ref p) (upd H p (.lst (zv k.toNat xs).flatten))
theorem len_rep {α:Type}(xs:List α) (k:Nat):(zv k xs).flatten.length=k * xs.length:=by
 induction k with
 |zero=>simp
 |succ k ih=>rw[za0,List.flatten_cons,zL,ih,Nat.succ_mul,Nat.add_comm]
theorem kD:Gm X (binaryOp .Mult) sS:=by
 intro pins s σ H x y v u Q I rx ry h
 obtain⟨l,k,xs,rfl,rfl,hH,h1,h2,hz,q⟩:=h
 cases rx
 obtain⟨t,rfl⟩:=ry
 obtain⟨z,aa,n,r,hl,e⟩:=I.Vt hH
 have hlen:aa.toArray.size * k.toNat<=sizeLine:=by rw[zk,<-hl];exact hz
 have mx:¬ aa.toArray.size * k.toNat > (2 ^ 63 - 1) / 8:=by
  have:(sizeLine:Nat)<=(2 ^ 63 - 1) / 8:=by decide
  omega
 have ez:¬ (!Builtin.List.listFitsIndex k)=true:=by
  rw[fitsIndex_both h1 h2]
  exact zM
 have cu:¬ zb1 (aa.toArray.size * k.toNat)=true:=by
  rw[QP hlen]
  exact zM
 have ba:List.foldl (fun x1 x2=>x1++x2) #[] (zv (if aa.toArray.isEmpty=true then 0 else k.toNat) aa.toArray)=(zv k.toNat aa).flatten.toArray:=by
  have f0:∀ m:Nat,List.foldl (fun x1 x2=>x1++x2) #[] (zv m aa.toArray)=(zv m aa).flatten.toArray:=fun m=>by
   have:=foldl_rep aa m []
   rw[List.nil_append] at this
   exact this
  rw[f0]
  cases aa with
  |nil=>simp
  |cons a r'=>rw[if_neg (by simp)]
 refine wpAny_binaryOp_repeat_ref (T := "list") (U := "int") (by decide) ⟨_,e,rfl⟩ (fun s'=>typeIs_int s' k t) noFill_list_mul F.fills_int_mul F.slot_int_rmul repeat_list F.slot_int_index.lookup
  (call_meets F.slot_int_rmul (typeIs_int s k t) F.entry_int_rmul (F.args_int_rmul_2 _ _) (int___rmul___int_list k t l aa.toArray n)
   ⟨e,rfl,⟨_,e,rfl⟩,call_meets F.slot_list_mul ⟨_,e,rfl⟩ F.entry_list_mul (F.args_list_mul_2 _ _) (AutoListH.list___mul___list_int_3 l aa.toArray n k t ez mx cu) ⟨e,?_⟩⟩)
 rw[ba]
 exact⟨.ref _,_,I.oU (t':=s.toks) (r.rep k.toNat) (by rw[len_rep,Nat.mul_comm];exact hz),rfl,q _ I.fresh⟩
end
end L2
namespace u3
open PySem PySem.W PySem.Calls PyProof.Rows
theorem Lf {P:Params}{h:Heap}:∀(ns:List Int) (vs:List Value),WellAll P h vs (ns.map WData.int)->IntsAre vs ns:=by
 intro ns
 induction ns with
 |nil =>
  intro vs w
  rw[zan] at w
  cases w
  exact .nil
 |cons n ns ih =>
  intro vs w
  rw[zg] at w
  cases w with
  |cons a b =>
   cases a
   exact .cons _ _ (ih _ b)
theorem Vv {l:OpenLaw}{n:Nat}(hn:l.most=some n){P:Params}{h:Heap}{args:List WData}{vals:List Value}
 (cR:l.row.toRowW.claim.pre args=true) (my:WellAll P h vals args) :
 ∃ a vs ns,vals=[yG a]/\args=[WData.list (ns.map WData.int)]/\h.get? a=some { cls:=.type "list",data:=.seq vs.toArray }/\IntsAre vs ns/\ns.length<=n:=by
 have vU:WShape.hasAll [] args [.list .int]=true:=(pre_splitW cR).1
 have hc:l.pre.holds [] { args:=args }=true:=(pre_splitW cR).2
 obtain⟨d,r,rfl,h1,h2⟩:=hasAllW_cons vU
 obtain rfl:=hasAllW_nil h2
 obtain⟨xs,rfl,h3⟩:=hasW_list h1
 obtain⟨ns,rfl⟩:=items_int h3
 have hlen:ns.length<=n:=by
  unfold OpenLaw.pre at hc
  have h4:(WTm.not (.lt (.lit (.int (n:Int))) (.len (.arg 0)))).holds [] { args:=[.list (ns.map .int)] }=true:=by
   have h4:=(holds_andW hc).1
   rw[hn] at h4
   exact h4
  have h5:=condW_of h4 (w_not (w_lt w_lit (w_len_list (w_arg rfl))))
  rw[zc] at h5
  refine Nat.le_of_not_lt fun q=>?_
  have q':(n:Int) < ((ns.length:Nat):Int):=by omega
  first
   |(rw[decide_eq_true q'] at h5;exact absurd h5 (by decide))
   |(simp at h5;omega)
 cases my with
 |cons w1 w2 =>
  cases w2
  cases w1 with
  |list ho aF=>exact⟨_,_,ns,rfl,rfl,ho,Lf ns _ aF,hlen⟩
theorem Vw (l:OpenLaw) (args:List WData):l.row.toRowW.claim.post args (.bool true) args=true :=
 postW_of (r:=l.row.toRowW) (X:=(true == true))
  (show WShape.has [] (.bool true) .bool=true by first|rfl|decide|simp[WShape.has,WShape.arms,WShape.armsAll])
  (show (WTm.eq .res (.lit (.bool true))).value [] { args:=args,res:=some (.bool true),after:=args }=some (.bool (true == true)) from w_eq_bool (w_res rfl) w_lit) rfl
end u3
namespace L2
open PySem PySem.Spec PyProof.Rows
theorem Oa:∀ {vs:List Value}{ns:List Int},IntsAre vs ns->Vals (ns.map V.int) vs
 |_,_,.nil=>.nil
 |_,_,.cons n t h=>.cons ⟨t,rfl⟩ (Oa h)
noncomputable def ZG (H:Hp):Prop:=∀ b,H b=none\/∃ o xs,H b=some (.Vj o (.lst xs))
theorem QQ {P:Program}{w:World}{K:za}{mg mb:Str->Option Value}{CX:U7}{k:Nat}{fa a:Addr}{fd:FuncData}{x:Str}{sp:Sp}{s₁:Shared}{vs:List Value}{ns:List Int}
 (KX:K.In s₁.heap) (i6:s₁.heap.Ns mainGlobals mg) (hb:s₁.heap.Ns builtinsNs mb) (vV:∀ x:Str,x ≠ "__name__" -> mb x=bootBuiltins x) (mz:s₁.heap.NoLimit) (hg:s₁.gens=#[])
 (ha:s₁.heap.get? a=some { cls:=.type "list",data:=.seq vs.toArray }) (hi:IntsAre vs ns) (hl:ns.length<=sizeLine) (hr:BJ k callerA)
 (F:∀ base:Heap,K.In base->base.Ns mainGlobals mg->Dn P w K mg base CX k fa fd [x] sp) (i7:∀(s:Shared) (u:Value),BindsTo s fd ⟨[u],[]⟩ [(x,u)])
 (ca:∀ H:Hp,ZG H->Dm K H a (ns.map V.int)->sp [.ref a] H (fun v _=>v=.bl true) fun _ _ _=>False)
 (i8:∀ H e s',CX [] H s₁ (fun _ _ _=>False) e s'->False) :
 codeAny (model P w) callerA (.call (.ref fa) ⟨[.ref a],[]⟩) (fun r s'=>r=.ok (.ret (.bool true))/\OldK s₁.heap s'.heap/\s'.os=s₁.os/\AllBare s'.gens) s₁:=by
 have rv:=Oa hi
 have m6:=hi.length
 have core:∀ H:Hp,ZG H->Dm K H a (ns.map V.int)->Fq P w H s₁.heap->(∀ b,H b≠none->b=a)->(H a≠none->K.lookup a=none)->
  codeAny (model P w) callerA (.call (.ref fa) ⟨[.ref a],[]⟩) (fun r s'=>r=.ok (.ret (.bool true))/\OldK s₁.heap s'.heap/\s'.os=s₁.os/\AllBare s'.gens) s₁:=by
  intro H hO hS Av hA hK
  have bV:∀ {b:Addr} {o:Obj},s₁.heap.get? b=some o->H b=none->(OY s₁.heap H).get? b=some o:=fun e n=>WJ e n
  have ix:∀ {b:Addr} {o:Obj} {es:Array DictEntry} {ep:Nat},s₁.heap.get? b=some o->o.data=.dict es ep->H b=none:=fun {b o es ep} e d=>by
   cases q:H b with
   |none=>rfl
   |some u =>
    have e':b=a:=hA b (by rw[q];simp)
    subst e'
    rw[ha] at e;cases e
    have d':Data.seq vs.toArray _=Data.dict es ep:=d
    cases d'
  have lc:∀ {b:Addr} {m:Str->Option Value},s₁.heap.Ns b m->(OY s₁.heap H).Ns b m:=fun {b m} ⟨o,es,ep,e,d,r⟩=>⟨o,es,ep,bV e (ix e d),d,r⟩
  have u4:K.In (OY s₁.heap H):=fun b o e=>bV (KX b o e) (by
   cases q:H b with
   |none=>rfl
   |some u =>
    have e':b=a:=hA b (by rw[q];simp)
    subst e'
    rw[hK (by rw[q];simp)] at e;cases e)
  have hM:Mod K mg (OY s₁.heap H):=⟨u4,lc i6,⟨mb,lc hb,vV⟩,let ⟨mc,h1,h2⟩:=mz;⟨mc,lc h1,h2⟩⟩
  have e0:SI P w K mg (OY s₁.heap H) callerA [] s₁ H:=⟨rfl,hM,fun b o e=>Zi e,Nat.le_of_eq (Vk _ _),trivial,fun b hb=>absurd (show b∈([]:List Addr) from hb) (by simp),Av,.of_eq hg⟩
  refine codeAny_mono ((F _ u4 (lc i6)).run callerA [] s₁ H ⟨[.ref a],[]⟩ [.ref a] [.ref a] _ _ hr e0 (i7 s₁ (.ref a)) (.cons rfl .nil) (ca H hO hS)) fun r s' h=>?_
  cases r with
  |error e=>exact (i8 H e s' h).elim
  |ok fl =>
   cases fl with
   |next=>exact zah h
   |brk=>exact zah h
   |cont=>exact zah h
   |ret u =>
    obtain⟨v,H',os,bare,un,e7,r',q⟩:=h
    have q':v=.bl true:=q
    subst q'
    obtain rfl:u=Value.bool true:=r'
    refine⟨rfl,OldK.of_keep fun b o e=>?_,os,bare⟩
    cases q:H b with
    |none=>exact un.keep b o e q (by intro z;exact absurd (show b∈([]:List Addr) from z) (by simp)) (by simp)
    |some u =>
     rcases hO b with z|⟨ob,xs,z⟩
     ·rw[q] at z;cases z
     ·have z2:=un.M6 b ob _ z
      obtain⟨e1,_⟩:=Av b _ z
      obtain⟨e2,_⟩:=e7 b _ z2
      rw[e] at e1;cases e1
      exact e2
 cases hk:K.lookup a with
 |some o =>
  have e:=KX a o hk
  rw[ha] at e
  cases e
  refine core (fun _=>none) (fun _=>.inl rfl) (.inr ⟨_,vs.toArray,_,hk,rfl,rfl,rfl,by rw[zk,m6];exact hl,by simpa using rv⟩) (fun b u z=>by have z':(none:Option HO)=some u:=z;cases z') (fun b z=>absurd rfl z) fun z=>absurd rfl z
 |none =>
  refine core (fun b=>if b=a then some (.Vj { cls:=.type "list",data:=.seq vs.toArray } (.lst (ns.map V.int))) else none) (fun b=>?_) (.inl (.inr ⟨{ cls:=.type "list",data:=.seq vs.toArray },if_pos rfl⟩)) (fun b u z=>?_) (fun b z=>?_) fun _=>hk
  ·by_cases hb:b=a
   ·exact .inr ⟨_,_,if_pos hb⟩
   ·exact .inl (if_neg hb)
  ·by_cases hb:b=a
   ·have z':=(if_pos hb).symm.trans z
    cases z'
    subst hb
    exact⟨ha,by rw[zc];exact hl,vs,_,rv,ha⟩
   ·have z':=(if_neg hb).symm.trans z
    cases z'
  ·by_cases hb:b=a
   ·exact hb
   ·exact absurd (if_neg hb) z
noncomputable abbrev ZH:U7:=fun _ _ _ _ _ _=>False
noncomputable abbrev E0:XK:=fun _ _ _=>False
structure WD (K:za) (x qual:Str) (st:Stmt) (f:Addr) (fd:FuncData):Prop where
 ex:∃(oc:Value) (od:Option Addr) (kV doc pm:Value) (an:Option Addr) (B2 ct:Value) (Sn:Array (Option Value)),
  fd=zT x qual (AR st) (AB st) (A3 st) .none kV doc pm an B2 ct/\K.lookup f=some ⟨oc,od,.func fd,Sn⟩/\yI K B2 qual=true
 kp:zQ K (.ref f)=true
section
variable {P:Program}{w:World}{K:za}{mg:Str->Option Value}{base:Heap}
theorem WD.ok {x qual:Str}{st:Stmt}{f:Addr}{fd:FuncData}{N ps:List Str}{k:Nat}{sp:Sp}(F:WD K x qual st f fd) (S:Ae N ps (A3 st)) (len:∀ vs H Q E,sp vs H Q E->vs.length=ps.length)
 (cr:∀(B2:Value) (A:Around) (outer:List Env) (s:Shared) (H:Hp) (vs:List V) (Q:VK) (E:XK),BJ k (A.deeper (envOfC qual (A3 st) s.heap.objs.size f B2))->sp vs H Q E->
  ∃ t,U5 (Le ZH P w K mg base N qual (A3 st) f B2 A outer s H E).nW (AB st) t/\t { nx:=fun _ H'=>Q .AA H',rt:=Q } (start N vs) H):Dn P w K mg base ZH (k + 1) f fd ps sp:=by
 obtain⟨oc,od,kV,doc,pm,an,B2,ct,Sn,rfl,lk,bz⟩:=F.ex
 refine Ua lk bz S len fun A outer s H vs Q E hr ca=>?_
 obtain⟨t,h,q⟩:=cr B2 A outer s H vs Q E hr ca
 exact⟨t,h.nW,q⟩
theorem WD.binds {x qual:Str}{st:Stmt}{f:Addr}{fd:FuncData}{ps:List Str}(F:WD K x qual st f fd)
 (h:∀(kV doc pm:Value) (an:Option Addr) (B2 ct:Value) (us:List Value),us.length=ps.length->bindArgs (zT x qual (AR st) (AB st) (A3 st) .none kV doc pm an B2 ct) ⟨us,[]⟩=pure (ps.zip us)):Binds K fd ps []:=by
 obtain⟨oc,od,kV,doc,pm,an,B2,ct,Sn,rfl,lk,bz⟩:=F.ex
 exact .all (h kV doc pm an B2 ct)
theorem SN {x qual:Str}{st:Stmt}{f:Addr}{oc:Value}{od an:Option Addr}{Sn:Array (Option Value)}{kV doc pm B2 ct:Value}(l:K.lookup f=some ⟨oc,od,.func (zT x qual (AR st) (AB st) (A3 st) .none kV doc pm an B2 ct),Sn⟩)
 (c:yI K B2 qual=true) (k:zQ K (.ref f)=true):WD K x qual st f (zT x qual (AR st) (AB st) (A3 st) .none kV doc pm an B2 ct):=⟨⟨oc,od,kV,doc,pm,an,B2,ct,Sn,rfl,l,c⟩,k⟩
end
theorem AG {n:Nat}(h:n<=1000):n < sizeLine:=Nat.lt_of_le_of_lt h (by decide)
section
variable {X:Cx}
theorem pv (i:Nat){x:Str}{pos:Pos}(hN:X.N[i]? =some x:=by rfl) (hv:rV X.env.scope x:=by first | exact zY rfl | exact Or.inr (zY rfl) | exact Or.inr (Or.inr rfl)) (hd:(x == ("__debug__" : Str))=false:=by decide)
 (bz:(x == ("__classdict__" : Str))=false:=by decide):PE X (.Name x pos) (Lc i):=iV hN hv hd bz
end
noncomputable def Ad (H H':Hp):Prop:=∀ b o,H b=some o->H' b=some o
theorem Ad.refl (H:Hp):Ad H H:=fun _ _ h=>h
theorem Ad.trans {H H1 H2:Hp}(a:Ad H H1) (b:Ad H1 H2):Ad H H2:=fun c o h=>b c o (a c o h)
theorem Ad.seq {K:za}{H H':Hp}{a:Addr}{xs:List V}(e:Ad H H') (h:Dm K H a xs):Dm K H' a xs:=by
 rcases h with (h|⟨o,h⟩)|h
 ·exact .inl (.inl (e _ _ h))
 ·exact .inl (.inr ⟨o,e _ _ h⟩)
 ·exact .inr h
section
variable {κ:Type} [DecidableEq κ]
noncomputable def Lg (kvs:List (κ×V)) (k:κ):Option V:=(kvs.find? fun kv=>decide (kv.1=k)).map (·.2)
noncomputable def putK (kvs:List (κ×V)) (k:κ) (v:V):List (κ×V) :=
 if (kvs.any fun kv=>decide (kv.1=k))=true then kvs.map (fun kv=>if kv.1=k then (kv.1,v) else kv) else kvs++[(k,v)]
theorem Mc {p:κ×V}{r:List (κ×V)}{k:κ}(e:p.1=k):Lg (p::r) k=some p.2:=by simp[Lg,zaw,e]
theorem Md {p:κ×V}{r:List (κ×V)}{k:κ}(e:¬ p.1=k):Lg (p::r) k=Lg r k:=by simp[Lg,zaw,e]
theorem QR (k:κ):∀ kvs:List (κ×V),(kvs.any fun kv=>decide (kv.1=k))=(Lg kvs k).isSome
 |[]=>rfl
 |p::r=>by
  rw[zb2]
  by_cases e:p.1=k
  ·simp only[Mc e,decide_eq_true e,Bool.true_or,Option.isSome_some]
  ·rw[Md e,decide_eq_false e,Bool.false_or];exact QR k r
theorem ED (kvs:List (κ×V)) (k:κ) (v:V):(putK kvs k v).length<=kvs.length + 1:=by
 unfold putK
 split
 ·rw[zc];omega
 ·rw[zL,zo,List.length_nil];omega
theorem Ge.Fc {o:Option V}{u:Option Value}(r:Ge o u):o.isSome=u.isSome:=by
 cases o with
 |none=>cases u with
  |none=>rfl
  |some _=>exact (show False from r).elim
 |some _=>cases u with
  |none=>exact (show False from r).elim
  |some _=>rfl
theorem Ge.getD {o:Option V}{u:Option Value}{d:V}{d':Value}(r:Ge o u) (rd:RelV d d'):RelV (o.getD d) (u.getD d'):=by
 cases o with
 |none=>cases u with
  |none=>exact rd
  |some _=>exact (show False from r).elim
 |some _=>cases u with
  |none=>exact (show False from r).elim
  |some _=>exact r
theorem KV.val {kvs:List (κ×V)}{vs:List (κ×Value)}(r:KV kvs vs) (k:κ):Ge (Lg kvs k) (valueAt vs k):=by
 unfold KV at r
 induction r with
 |nil=>exact zaq
 | @cons p q ps qs h t ih =>
  obtain⟨h1,h2⟩:=h
  by_cases e:p.1=k
  ·have e':q.1=k:=h1.symm.trans e
   have b:valueAt (q::qs) k=some q.2:=by simp[valueAt,zaw,e']
   rw[Mc e,b];exact h2
  ·have e':¬ q.1=k:=fun z=>e (h1.trans z)
   have b:valueAt (q::qs) k=valueAt qs k:=by simp[valueAt,zaw,e']
   rw[Md e,b];exact ih
theorem KV.any {kvs:List (κ×V)}{vs:List (κ×Value)}(r:KV kvs vs) (k:κ):(kvs.any fun kv=>decide (kv.1=k))=vs.any fun kv=>decide (kv.1=k):=by
 unfold KV at r
 induction r with
 |nil=>rfl
 |cons h t ih=>rw[zb2,zb2,ih,h.1]
theorem KV.kE {kvs:List (κ×V)}{vs:List (κ×Value)}(r:KV kvs vs) (k:κ){y:V}{u:Value}(ry:RelV y u) :
 KV (kvs.map fun kv=>if kv.1=k then (kv.1,y) else kv) (vs.map fun kv=>if kv.1=k then (kv.1,u) else kv):=by
 unfold KV at r ⊢
 induction r with
 |nil=>exact .nil
 | @cons p q ps qs h t ih =>
  rw[zg,zg]
  refine .cons ?_ ih
  obtain⟨h1,h2⟩:=h
  by_cases e:p.1=k
  ·rw[if_pos e,if_pos (h1.symm.trans e)];exact⟨h1,ry⟩
  ·rw[if_neg e,if_neg (fun z=>e (h1.trans z))];exact⟨h1,h2⟩
theorem KV.put {kvs:List (κ×V)}{vs:List (κ×Value)}(r:KV kvs vs) (k:κ){y:V}{u:Value}(ry:RelV y u):KV (putK kvs k y) (stored vs k u):=by
 unfold putK stored
 rw[r.any k]
 by_cases e:(vs.any fun kv=>decide (kv.1=k))=true
 ·rw[if_pos e,if_pos e];exact r.kE k ry
 ·rw[if_neg e,if_neg e];exact Paired.snoc r ⟨rfl,ry⟩
theorem KV.length {kvs:List (κ×V)}{vs:List (κ×Value)}(r:KV kvs vs):kvs.length=vs.length:=Paired.length r
end
theorem Me {P:Program}{w:World}{k:Key}{u:Value}(r:RelV (kV k) u):(B5 P w).is k u=true:=by
 cases k with
 |inl i=>obtain⟨t,e⟩:=(show ∃ t,u=Value.int i t from r);subst e;exact QD P w i t
 |inr x=>obtain⟨t,e⟩:=(show ∃ t,u=Value.str x t from r);subst e;exact QE P w x t
theorem Ob {P:Program}{w:World}:∀ {ks:List Key}{us:List Value},Vals (ks.map kV) us->ItemsAre (B5 P w) ks us
 |[],_,r=>by rw[zan] at r;cases r;exact .nil
 |k::ks,_,r=>by
  rw[zg] at r
  cases r with
  |cons h t=>exact .cons (Me h) (Ob t)
noncomputable abbrev KT (H:Hp):List (List Key×V)->List (List Key×Addr×Value)->Prop:=Paired fun p q=>p.1=q.1/\H q.2.1=some (.tup (p.1.map kV))/\RelV p.2 q.2.2
theorem KT.val {H:Hp}{kvs:List (List Key×V)}{xs:List (List Key×Addr×Value)}(r:KT H kvs xs) (k:List Key):Ge (Lg kvs k) ((atKey xs k).map (·.2)):=by
 induction r with
 |nil=>exact zaq
 | @cons p q ps qs h t ih =>
  obtain⟨h1,_,h2⟩:=h
  by_cases e:p.1=k
  ·have e':q.1=k:=h1.symm.trans e
   have b:atKey (q::qs) k=some q.2:=by simp[atKey,zaw,e']
   rw[Mc e,b];exact h2
  ·have e':¬ q.1=k:=fun z=>e (h1.trans z)
   have b:atKey (q::qs) k=atKey qs k:=by simp[atKey,zaw,e']
   rw[Md e,b];exact ih
theorem KT.kE {H:Hp}{kvs:List (List Key×V)}{xs:List (List Key×Addr×Value)}(r:KT H kvs xs) (k:List Key){y:V}{u:Value}(ry:RelV y u) :
 KT H (kvs.map fun kv=>if kv.1=k then (kv.1,y) else kv) (xs.map (putAt k u)):=by
 induction r with
 |nil=>exact .nil
 | @cons p q ps qs h t ih =>
  rw[zg,zg]
  refine .cons ?_ ih
  obtain⟨h1,h2,h3⟩:=h
  unfold putAt
  by_cases e:p.1=k
  ·rw[if_pos e,if_pos (h1.symm.trans e)];exact⟨h1,h2,ry⟩
  ·rw[if_neg e,if_neg (fun z=>e (h1.trans z))];exact⟨h1,h2,h3⟩
theorem KT.put {H:Hp}{kvs:List (List Key×V)}{xs:List (List Key×Addr×Value)}(r:KT H kvs xs) (k:List Key){b:Addr}{y:V}{u:Value}(hb:H b=some (.tup (k.map kV))) (ry:RelV y u) :
 KT H (putK kvs k y) (storedH xs k b u):=by
 have e:(kvs.any fun kv=>decide (kv.1=k))=(atKey xs k).isSome:=by
  rw[QR,(r.val k).Fc,Option.isSome_map]
 unfold putK storedH
 rw[e]
 by_cases q:(atKey xs k).isSome=true
 ·rw[if_pos q,if_pos q];exact r.kE k ry
 ·rw[if_neg q,if_neg q];exact Paired.snoc r ⟨rfl,hb,ry⟩
theorem KT.keeps {H H':Hp}{kvs:List (List Key×V)}{xs:List (List Key×Addr×Value)}(r:KT H kvs xs) (ht:∀ b ys,H b=some (.tup ys)->H' b=some (.tup ys)):KT H' kvs xs :=
 Paired.iS r fun _ _ z=>⟨z.1,ht _ _ z.2.1,z.2.2⟩
section
variable {P:Program}{w:World}{H:Hp}{h:Heap}{a:Addr}
theorem gU {u:HO}(ok:Fq P w H h) (e:Rd H a u):BF P w H h a u:=e.ok ok
theorem Mf {kvs:List (Key×V)}(ok:Fq P w H h) (e:Rd H a (.dK kvs)):kvs.length<=sizeLine/\(a == sysModules)=false/\∃ vs,KV kvs vs/\h.DictOf (B5 P w) a vs :=
 show BF P w H h a (.dK kvs) from gU ok e
theorem gW {kvs:List (Key×V)}(ok:Fq P w H h) (e:H a=some (.dK kvs)):kvs.length<=sizeLine/\(a == sysModules)=false/\∃ vs,KV kvs vs/\h.DictOf (B5 P w) a vs:=Mf ok (.inl e)
theorem Im {ks:List Key}(ok:Fq P w H h) (e:H a=some (.tup (ks.map kV))):(tupleKind (B5 P w)).is h ks a:=by
 obtain⟨_,aa,r,o,h1,h2,n,h3⟩:=(show BF P w H h a (.tup (ks.map kV)) from ok a _ e)
 exact⟨o,aa.toArray,n,h1,h2,h3,by simpa using Ob r⟩
theorem Mg {kvs:List (List Key×V)}(ok:Fq P w H h) (e:Rd H a (.dT kvs)):kvs.length<=sizeLine/\(a == sysModules)=false /\
 ∃ xs,KT H kvs xs/\h.DictOfH (tupleKind (B5 P w)) a xs:=by
 obtain⟨z,y,xs,r,o,es,ep,h1,h2,h3,h4,h5⟩:=(show BF P w H h a (.dT kvs) from gU ok e)
 refine⟨z,y,xs,r,o,es,ep,h1,h2,h3,h4,fun x hx=>?_,h5⟩
 have all:∀ {l:List (List Key×V)} {m:List (List Key×Addr×Value)},KT H l m->∀ x∈m,(tupleKind (B5 P w)).is h x.1 x.2.1:=by
  intro l m q
  induction q with
  |nil=>intro x hx;exact nomatch hx
  | @cons p q ps qs hq t ih =>
   intro x hx
   rcases zu.mp hx with e|hx
   ·subst e
    exact Im ok (by rw[<-hq.1];exact hq.2.1)
   ·exact ih x hx
 exact all r x hx
theorem oV {kvs:List (List Key×V)}(ok:Fq P w H h) (e:H a=some (.dT kvs)):kvs.length<=sizeLine/\(a == sysModules)=false /\
 ∃ xs,KT H kvs xs/\h.DictOfH (tupleKind (B5 P w)) a xs:=Mg ok (.inl e)
end
noncomputable def Io (H:Hp) (a:Addr) (y:V) (r:Option V):Prop :=
 (∃ kvs k,Rd H a (.dK kvs)/\y=kV k/\r=Lg kvs k)\/∃ kvs k b,Rd H a (.dT kvs)/\y=.ref b/\H b=some (.tup (k.map kV))/\r=Lg kvs k
noncomputable def oW (H:Hp) (a:Addr) (y v:V) (H':Hp):Prop :=
 (∃ kvs k,H a=some (.dK kvs)/\y=kV k/\kvs.length < sizeLine/\H'=upd H a (.dK (putK kvs k v))) \/
 ∃ kvs k b,H a=some (.dT kvs)/\y=.ref b/\H b=some (.tup (k.map kV))/\kvs.length < sizeLine/\H'=upd H a (.dT (putK kvs k v))
theorem Io.k {H:Hp}{a:Addr}{kvs:List (Key×V)}{k:Key}(e:H a=some (.dK kvs)):Io H a (kV k) (Lg kvs k):=.inl ⟨kvs,k,.inl e,rfl,rfl⟩
theorem Io.t {H:Hp}{a b:Addr}{kvs:List (List Key×V)}{k:List Key}(e:H a=some (.dT kvs)) (eb:H b=some (.tup (k.map kV))):Io H a (.ref b) (Lg kvs k):=.inr ⟨kvs,k,b,.inl e,rfl,eb,rfl⟩
section
variable {X:Cx}{pins:List (Addr×Obj)}{σ:St}{H:Hp}{s:Shared}{a:Addr}{y v:V}{u r:Value}{o:Option V}{A:Around}{E:Value->Shared->Prop}
theorem Inv.big (I:Inv X pins σ H s):sysModules < s.heap.objs.size:=by
 have h:mainGlobals < s.heap.objs.size:=(I.mod.glob.keeps I.bk).lt
 exact Nat.lt_trans (by decide) h
theorem Vx {Q:Value->Shared->Prop}(hu:A.units + 1 < cLine) (I:Inv X pins σ H s) (g:Io H a y (some v)) (ry:RelV y u) (h:∀ w' s',Inv X pins σ H s'->RelV v w'->Q w' s') :
 wpAny (model X.prog X.w) A (getItem (.ref a) u) Q E s:=by
 rcases g with ⟨kvs,k,e,ey,l⟩|⟨kvs,k,b,e,ey,eb,l⟩
 ·subst ey
  obtain⟨z,hd,vs,rel,dd⟩:=Mf I.Av e
  obtain⟨w',hw,b5⟩:=Ge.some_of (v:=v) (o:=valueAt vs k) (by rw[l];exact rel.val k)
  exact wpAny_getItem_of (Me ry) dd.mapOf hw (h w' _ (I.tok _) b5)
 ·subst ey
  cases (show u=yG b from ry)
  obtain⟨z,hd,xs,rel,dd⟩:=Mg I.Av e
  obtain⟨w',hw,b5⟩:=Ge.some_of (v:=v) (o:=(atKey xs k).map (·.2)) (by rw[l];exact rel.val k)
  obtain⟨p,hp,vW⟩:=Option.map_eq_some_iff.mp hw
  refine wpAny_getItem_heap (tupleKind_room_in1 hu) (Im I.Av eb) dd hp ?_
  rw[vW]
  exact h w' _ (I.tok _) b5
theorem sT {Q:Value->Shared->Prop}(hu:A.units + 1 < cLine) (I:Inv X pins σ H s) (g:Io H a y o) (ry:RelV y u) (h:∀ s',Inv X pins σ H s'->Q (.bool o.isSome) s') :
 wpAny (model X.prog X.w) A (compareOp .In u (.ref a)) Q E s:=by
 rcases g with ⟨kvs,k,e,ey,l⟩|⟨kvs,k,b,e,ey,eb,l⟩
 ·subst ey
  obtain⟨z,hd,vs,rel,dd⟩:=Mf I.Av e
  refine wpAny_in_of (Me ry) hd dd.mapOf ?_
  rw[<-(rel.val k).Fc,<-l]
  exact h _ (I.tok _)
 ·subst ey
  cases (show u=yG b from ry)
  obtain⟨z,hd,xs,rel,dd⟩:=Mg I.Av e
  refine wpAny_in_heap (tupleKind_room_in1 hu) (Im I.Av eb) hd dd ?_
  have q:=(rel.val k).Fc
  rw[Option.isSome_map] at q
  rw[<-q,<-l]
  exact h _ (I.tok _)
theorem ZI {Q:Value->Shared->Prop}(hu:A.units + 1 < cLine) (I:Inv X pins σ H s) (g:Io H a y o) (ry:RelV y u) (h:∀ s',Inv X pins σ H s'->Q (.bool (!o.isSome)) s') :
 wpAny (model X.prog X.w) A (compareOp .NotIn u (.ref a)) Q E s:=by
 rcases g with ⟨kvs,k,e,ey,l⟩|⟨kvs,k,b,e,ey,eb,l⟩
 ·subst ey
  obtain⟨z,hd,vs,rel,dd⟩:=Mf I.Av e
  refine wpAny_notIn_of (Me ry) hd dd.mapOf ?_
  rw[<-(rel.val k).Fc,<-l]
  exact h _ (I.tok _)
 ·subst ey
  cases (show u=yG b from ry)
  obtain⟨z,hd,xs,rel,dd⟩:=Mg I.Av e
  refine wpAny_notIn_heap (tupleKind_room_in1 hu) (Im I.Av eb) hd dd ?_
  have q:=(rel.val k).Fc
  rw[Option.isSome_map] at q
  rw[<-q,<-l]
  exact h _ (I.tok _)
theorem Pe {h':Heap}{t':Nat}{ob:HO}(I:Inv X pins σ H s) (mu:nO (H a)) (hs:zay a s.heap h') (he:∃ q,h'.get? a=some q) (new:BF X.prog X.w (upd H a ob) h' a ob) :
 Inv X pins σ (upd H a ob) { s with heap:=h',toks:=t' } :=
 I.write (x:=a) (e:=a) mu (.inl rfl) (fun b q hb z=>(hs.2 b hb).trans z) he new
theorem Xf {P:Program}{w:World}{H':Hp}{h':Heap}{kvs:List (Key×V)}{vs:List (Key×Value)}(z:kvs.length<=sizeLine) (hd:(a == sysModules)=false) (rel:KV kvs vs) (dd:h'.DictOf (B5 P w) a vs) :
 BF P w H' h' a (.dK kvs):=⟨z,hd,vs,rel,dd⟩
theorem Vy {H':Hp}{Q:Unit->Shared->Prop}(hu:A.units + 1 < cLine) (I:Inv X pins σ H s) (g:oW H a y v H') (ry:RelV y u) (rv:RelV v r) (h:∀ s',Inv X pins σ H' s'->Q () s') :
 wpAny (model X.prog X.w) A (setItem (.ref a) u r) Q E s:=by
 rcases g with ⟨kvs,k,e,ey,l,eH⟩|⟨kvs,k,b,e,ey,eb,l,eH⟩
 ·subst ey eH
  obtain⟨z,hd,vs,rel,dd⟩:=gW I.Av e
  have hz:vs.length<=sizeLine:=by rw[<-rel.length];exact z
  have hl:(putK kvs k v).length<=sizeLine:=by have:=ED kvs k v;omega
  refine wpAny_setItem_pairs (hsz:=hz) (Me ry) dd fun h' e8 hs=>h _ ?_
  have he:∃ q,h'.get? a=some q:=let ⟨q,_,_,hq,_⟩:=e8;⟨q,hq⟩
  exact Pe I (by rw[e];exact zaq) hs he (Xf hl hd (rel.put k rv) e8)
 ·subst ey eH
  cases (show u=yG b from ry)
  obtain⟨z,hd,xs,rel,dd⟩:=oV I.Av e
  have hz:xs.length<=sizeLine:=by rw[<-Paired.length rel];exact z
  have hl:(putK kvs k v).length<=sizeLine:=by have:=ED kvs k v;omega
  refine wpAny_setItem_heap (hsz:=hz) (tupleKind_room_in1 hu) (Im I.Av eb) dd fun h' e8 hs=>h _ ?_
  obtain⟨q,es,ep,hq,h2,h3,h4,_,h5⟩:=e8
  refine Pe I (by rw[e];exact zaq) hs ⟨q,hq⟩ ⟨hl,hd,_,(rel.put k eb rv).keeps fun c ys ec=>?_,q,es,ep,hq,h2,h3,h4,h5⟩
  rw[Ag (nN ec e (fun z=>nomatch z))]
  exact ec
end
theorem QS {X:Cx}{pins:List (Addr×Obj)}{σ:St}{H:Hp}{s:Shared}{a:Addr}{y:V}{o:Option V}(I:Inv X pins σ H s) (g:Io H a y o):s.TypeIs (.ref a) "dict" := by
 rcases g with ⟨kvs,k,e,_,_⟩|⟨kvs,k,b,e,_,_,_⟩
 ·obtain⟨_,_,vs,_,dd⟩:=Mf I.Av e
  exact dd.typeIs
 ·obtain⟨_,_,xs,_,dd⟩:=Mg I.Av e
  exact dd.typeIs
noncomputable def oX (td ty tv:TE):TS:=fun D σ H=>tv σ H fun v H1=>td σ H1 fun x H2=>ty σ H2 fun y H3=>∃ a H4,x=.ref a/\oW H3 a y v H4/\D.nx σ H4
section
variable {X:Cx}{o i e value:Expr}{pos pos' bH:Pos}{td ty tv:TE}
theorem ZJ (hu:X.A.units + 1 < cLine) (ho:PE X o td) (hi:PE X i ty) (hv:PE X value tv) (hs:swapsWith value (some (.Subscript o i pos')) pos.line X.env=pure false) :
 PS X (.Assign [.Subscript o i pos'] value pos) (oX td ty tv):=by
 intro pins s σ H D I h
 refine wpAny_Assign_Subscript (Bg (hv pins s σ H _ I h) fun r s1 ⟨v,H1,I1,rv,q1⟩=>Bg (ho pins s1 σ H1 _ I1 q1) fun u s2 ⟨x,H2,I2,rx,q2⟩=>Bg (hi pins s2 σ H2 _ I2 q2) fun iv s3 ⟨y,H3,I3,ry,a,H4,ex,g,q3⟩=>?_) hs
 subst ex
 obtain rfl:u=yG a:=rx
 exact Vy hu I3 g ry rv fun s4 I4=>⟨σ,H4,I4,q3⟩
end
theorem QT {P:Program}{w:World}{H:Hp}(h:Heap) (hb:sysModules < h.objs.size):BF P w H (h.push { cls:=.type "dict",data:=.dict #[] }) h.objs.size (.dK []) :=
 ⟨zX _,beq_eq_false_iff_ne.mpr (yE (zG hb)),[],.nil,Heap.DictOf.new h⟩
theorem Xg {P:Program}{w:World}{H:Hp}(h:Heap) (hb:sysModules < h.objs.size):BF P w H (h.push { cls:=.type "dict",data:=.dict #[] }) h.objs.size (.dT []) :=
 ⟨zX _,beq_eq_false_iff_ne.mpr (yE (zG hb)),[],.nil,_,#[],0,zH _ rfl,⟨rfl,rfl,rfl⟩,rfl,rfl,za1⟩
noncomputable def kF:TE:=fun _ H Q=>∀ p,H p=none->Q (.ref p) (upd H p (.dK []))
noncomputable def kG:TE:=fun _ H Q=>∀ p,H p=none->Q (.ref p) (upd H p (.dT []))
section
variable {X:Cx}{pos:Pos}
theorem Xh:PE X (.Dict [] [] pos) kF:=fun pins s σ H Q I h =>
 wpAny_Dict_empty ⟨.ref s.heap.objs.size,_,I.laid (a:=s.heap.objs.size) (o:=.dK []) (t':=s.toks) (fun _ _ q=>zr _ q) (zA _) (QT s.heap I.big),rfl,h _ (I.Av.fresh (zA _))⟩
theorem Xi:PE X (.Dict [] [] pos) kG:=fun pins s σ H Q I h =>
 wpAny_Dict_empty ⟨.ref s.heap.objs.size,_,I.laid (a:=s.heap.objs.size) (o:=.dT []) (t':=s.toks) (fun _ _ q=>zr _ q) (zA _) (Xg s.heap I.big),rfl,h _ (I.Av.fresh (zA _))⟩
end
noncomputable def SO:List (TE×TE)->St->Hp->(List (V×V)->Hp->Prop)->Prop
 |[],_,H,Q=>Q [] H
 |(tk,tv)::r,σ,H,Q=>tk σ H fun x H1=>tv σ H1 fun y H2=>SO r σ H2 fun ps H3=>Q ((x,y)::ps) H3
noncomputable abbrev VV:List (V×V)->List (Value×Value)->Prop:=Paired fun p q=>RelV p.1 q.1/\RelV p.2 q.2
noncomputable def rC (X:Cx) (pos:Pos) (keys:List (Option Expr)) (values:List Expr) (cS:List (TE×TE)):Prop :=
 ∀(pins:List (Addr×Obj)) (s:Shared) (σ:St) (H:Hp) (Q:List (V×V)->Hp->Prop),Inv X pins σ H s->SO cS σ H Q->
  wpAny (model X.prog X.w) X.A (evalPairs (pairTrees keys values X.env pos)) (fun vs s'=>∃ ps H',Inv X pins σ H' s'/\VV ps vs/\Q ps H') X.xe s
theorem ZK {X:Cx}{pos:Pos}:rC X pos [] [] []:=fun pins s σ H Q I h=>pairTrees_nil_walk ⟨[],H,I,.nil,h⟩
theorem Xj {X:Cx}{pos:Pos}{k v:Expr}{ks:List (Option Expr)}{vs:List Expr}{tk tv:TE}{cS:List (TE×TE)}(hk:PE X k tk) (hv:PE X v tv) (hr:rC X pos ks vs cS) :
 rC X pos (some k::ks) (v::vs) ((tk,tv)::cS):=fun pins s σ H Q I h =>
 pairTrees_cons_walk (Bg (hk pins s σ H _ I h) fun u s1 ⟨x,H1,I1,rx,q1⟩=>Bg (hv pins s1 σ H1 _ I1 q1) fun w2 s2 ⟨y,H2,I2,ry,q2⟩ =>
  Bg (hr pins s2 σ H2 _ I2 q2) fun ws s3 ⟨ps,H3,I3,rel,q3⟩=>⟨(x,y)::ps,H3,I3,.cons ⟨rx,ry⟩ rel,q3⟩)
noncomputable def Gr (kvs more:List (Key×V)):List (Key×V):=more.foldl (fun acc kv=>putK acc kv.1 kv.2) kvs
theorem KV.merge:∀ {more:List (Key×V)}{rs:List (Key×Value)}{kvs:List (Key×V)}{vs:List (Key×Value)},KV more rs->KV kvs vs->KV (Gr kvs more) (merged vs rs):=by
 intro more rs kvs vs r
 unfold KV at r
 induction r generalizing kvs vs with
 |nil=>intro q;exact q
 | @cons p q ps qs h t ih =>
  intro r0
  have e:KV (putK kvs p.1 p.2) (stored vs q.1 q.2):=by
   have:=r0.put p.1 h.2
   rw[<-h.1];exact this
  exact ih e
theorem HX:∀(more kvs:List (Key×V)),(Gr kvs more).length<=kvs.length + more.length
 |[],kvs=>by show kvs.length<=kvs.length + 0;omega
 |p::r,kvs=>by
  have h1:=HX r (putK kvs p.1 p.2)
  have h2:=ED kvs p.1 p.2
  show (Gr (putK kvs p.1 p.2) r).length<=_
  rw[zo];omega
theorem Mh {P:Program}{w:World}:∀ {kvs:List (Key×V)}{ws:List (Value×Value)},VV (kvs.map fun kv=>(kV kv.1,kv.2)) ws->∃ rs,Carries (B5 P w) ws rs/\KV kvs rs
 |[],_,r=>by rw[zan] at r;cases r;exact⟨[],zaq,.nil⟩
 |p::kvs,_,r=>by
  rw[zg] at r
  cases r with
  | @cons a b as bs h t =>
   obtain⟨rs,c,q⟩:=Mh (P:=P) (w:=w) t
   obtain⟨b1,b2⟩:=b
   exact⟨(p.1,b2)::rs,⟨Me h.1,rfl,c⟩,.cons ⟨rfl,h.2⟩ q⟩
noncomputable def oY (cS:List (TE×TE)):TE:=fun σ H Q=>∀ p,H p=none->SO cS σ (upd H p (.dK [])) fun ps H2=>H2 p=some (.dK [])/\∃ kvs:List (Key×V),ps=kvs.map (fun kv=>(kV kv.1,kv.2))/\kvs.length<=15/\Q (.ref p) (upd H2 p (.dK (Gr [] kvs)))
theorem ZL {X:Cx}{pos:Pos}{keys:List (Option Expr)}{values:List Expr}{cS:List (TE×TE)}(h:rC X pos keys values cS) (aF:keys.all (·.isSome)=true) (hl:keys.length=values.length) (h0:keys≠[])
 (vX:keys.length<=15):PE X (.Dict keys values pos) (oY cS):=by
 intro pins s σ H Q I q
 have hn:=I.Av.fresh (zA s.heap.objs.size)
 have I1:=I.laid (a:=s.heap.objs.size) (o:=.dK []) (h':=s.heap.push { cls:=.type "dict",data:=.dict #[] }) (t':=s.toks) (fun _ _ q=>zr _ q) (zA _) (QT s.heap I.big)
 refine wpAny_Dict_walk (knd:=B5 X.prog X.w) aF hl h0 vX (Bg (h pins _ σ _ _ I1 (q _ hn)) fun ws s2 ⟨ps,H2,I2,rel,e,kvs,ep,lk,q2⟩=>?_)
 subst ep
 obtain⟨rs,c,rk⟩:=Mh (P:=X.prog) (w:=X.w) rel
 obtain⟨z,hd,u5,r0,dd⟩:=gW I2.Av e
 cases r0
 refine⟨rs,c,dd,fun h' e8 hs=>⟨.ref s.heap.objs.size,_,?_,rfl,q2⟩⟩
 have hz:(Gr [] kvs).length<=sizeLine:=by
  have h1:=HX kvs []
  rw[List.length_nil] at h1
  rw[sizeLine_eq];omega
 have he:∃ q,h'.get? s.heap.objs.size=some q:=let ⟨q,_,_,hq,_⟩:=e8;⟨q,hq⟩
 exact Pe I2 (by rw[e];exact zaq) hs he (Xf hz hd (rk.merge .nil) e8)
structure M1 (X:Cx) (o:Expr) (m:Str) (apos:Pos) (e:Expr) (ad:Pos):Prop where
 base:attributeBase o m X.env (eval o X.env)=eval o X.env
 vY:((backTo ad (starEach [e] X.env)).all (fun x => !x.1) && (backToKw ad (keywordEach [] X.env)).all (fun x=>x.1.isSome)
  && decide (([e]:List Expr).length + ([]:List Keyword).length + (if ([]:List Keyword).isEmpty then 0 else 1) < 30))=true
 line:(apos.endLine == ad.line)=true
 oZ:backTo ad (starEach [e] X.env)=[(false,eval e X.env)]
noncomputable def sU (H:Hp) (a:Addr):Prop:=(∃ kvs,Rd H a (.dK kvs))\/∃ kvs,Rd H a (.dT kvs)
theorem SQ {X:Cx}{pins:List (Addr×Obj)}{σ:St}{H:Hp}{s:Shared}{a:Addr}(I:Inv X pins σ H s) (d:sU H a) :
 s.TypeIs (.ref a) "dict" /\ (∀ b,yG a=.ref b->∃ ob,s.heap.get? b=some ob/\ob.dict=none)/\(a == sysModules)=false:=by
 rcases d with ⟨kvs,e⟩|⟨kvs,e⟩
 ·obtain⟨_,hd,vs,_,dd⟩:=Mf I.Av e
  refine⟨dd.typeIs,fun b q=>?_,hd⟩
  cases q
  obtain⟨ob,_,_,h1,h2,_⟩:=dd
  exact⟨ob,h1,h2.2.1⟩
 ·obtain⟨_,hd,xs,_,dd⟩:=Mg I.Av e
  refine⟨dd.typeIs,fun b q=>?_,hd⟩
  cases q
  obtain⟨ob,_,_,h1,h2,_⟩:=dd
  exact⟨ob,h1,h2.2.1⟩
section
variable {X:Cx}{pins:List (Addr×Obj)}{σ:St}{H:Hp}{s:Shared}{a:Addr}{y d:V}{u r:Value}{o:Option V}{A:Around}{E:Value->Shared->Prop}
theorem kH {Q:Value->Shared->Prop}(hu:A.units + 1 < cLine) (I:Inv X pins σ H s) (g:Io H a y o) (ry:RelV y u) (h:∀ w' s',Inv X pins σ H s'->RelV (o.getD .AA) w'->Q w' s') :
 wpAny (model X.prog X.w) A (call (.builtin "dict.get") [.ref a,u]) Q E s:=by
 rcases g with ⟨kvs,k,e,ey,l⟩|⟨kvs,k,b,e,ey,eb,l⟩
 ·subst ey
  obtain⟨z,hd,vs,rel,dd⟩:=Mf I.Av e
  refine call_meetsIn PySem.F.slot_dict_get dd.typeIs PySem.F.entry_dict_get (PySem.F.args_dict_get_2 _ _) (meets_dict_get (B5 X.prog X.w) a (Me ry) hd) ⟨_,dd.mapOf,h _ _ (I.tok _) ?_⟩
  rw[l]
  exact (rel.val k).getD rfl
 ·subst ey
  cases (show u=yG b from ry)
  obtain⟨z,hd,xs,rel,dd⟩:=Mg I.Av e
  refine call_meetsIn PySem.F.slot_dict_get dd.typeIs PySem.F.entry_dict_get (PySem.F.args_dict_get_2 _ _) (meetsH_dict_get (tupleKind (B5 X.prog X.w)) a b hd) ⟨tupleKind_room_in1 hu,k,xs,Im I.Av eb,dd,h _ _ (I.tok _) ?_⟩
  rw[l]
  exact (rel.val k).getD rfl
end
noncomputable def kI (td ty:TE):TE:=fun σ H Q=>td σ H fun x H1=>∃ a,x=.ref a/\sU H1 a/\ty σ H1 fun y H2=>∃ o,Io H2 a y o/\Q (o.getD .AA) H2
section
variable {X:Cx}{o e f:Expr}{apos ad:Pos}{td ty tx:TE}
theorem Xk (hu:X.A.units + 1 < cLine) (ho:PE X o td) (he:PE X e ty) (m:M1 X o "get" apos e ad):PE X (.Call (.Attribute o "get" apos) [e] [] ad) (kI td ty):=by
 intro pins s σ H Q I h
 refine wpAny_Call_method m.base m.vY m.line PySem.F.plainAttrs_dict PySem.F.slot_dict_get PySem.F.type_dict_get (Bg (ho pins s σ H _ I h) fun u s1 ⟨x,H1,I1,rx,a,ex,d,q1⟩=>?_)
 subst ex
 obtain rfl:u=yG a:=rx
 obtain⟨t1,t2,_⟩:=SQ I1 d
 refine⟨t1,t2,?_⟩
 rw[m.oZ]
 refine Calls.callWith_builtin rfl (Calls.evalArgs_plain (zas (Bg (he pins s1 σ H1 _ I1 q1) fun iv s2 ⟨y,H2,I2,ry,ov,g,q2⟩=>zb0 ?_)))
 exact kH hu I2 g ry fun w' s3 I3 b5=>⟨_,H2,I3,b5,q2⟩
end
noncomputable def J3 (sc outer:Scope):Bool :=
 decide (sc.kind=.function) && sc.names.all fun y=>decide (y.2≠.cell) && (decide (y.2≠.free) || decide (outer.names.lookup y.1=some .cell) || decide (outer.names.lookup y.1=some .free)) && (decide (y.2≠.local) || decide (sc.names.lookup y.1=some .local))
noncomputable def Pf (N NB:List Str) (sc:Scope) (μ:List (Option Nat)):Bool :=
 decide (NB.length=μ.length) && (NB.zip μ).all fun p=>match p.2 with
  |none=>true
  |some i=>decide (N[i]? =some p.1) && decide (sc.names.lookup p.1=some .free)
noncomputable def EW (μ:List (Option Nat)) (σ:St):St:=μ.map fun o=>o.bind fun i=>(σ[i]?).join
noncomputable def HV (cells:List (Str×Addr)):List (Str×NameKind)->List (Str×Addr)->List (Str×Addr)
 |[],cs=>cs
 |(n,k)::r,cs=>HV cells r (if (k == .free)=true then (n,(cells.lookup n).getD 0)::cs else cs)
theorem HY {scope:Scope}{env:Env}(h:∀ y∈scope.names,y.2=.free->∃ c,env.cells.lookup y.1=some c):closureFor scope env=pure (HV env.cells scope.names []):=by
 unfold closureFor
 have key:∀(names:List (Str×NameKind)) (cs:List (Str×Addr)),(∀ y∈names,y.2=.free->∃ c,env.cells.lookup y.1=some c)->
  (forIn names cs fun (x:Str×NameKind) r=>match x with
   |(name,kind)=>if (kind == zat)=true then do
    let __do_lift <-cellOf env name
    pure (zbe ((name,__do_lift)::r))
    else pure (zbe r):Sem _)=pure (HV env.cells names cs):=by
  intro names
  induction names with
  |nil=>intro cs _;rfl
  |cons y r ih =>
   intro cs hy
   obtain⟨n,k⟩:=y
   rw[List.forIn_cons]
   by_cases hk:k=.free
   ·subst hk
    obtain⟨c,hc⟩:=hy (n,.free) ze rfl
    have e:cellOf env n=pure c:=by unfold cellOf;rw[show env.cells.lookup n=some c from hc]
    simp only[e,beq_self_eq_true,if_true,pure_bind]
    rw[ih _ fun z hz=>hy z (zf _ hz)]
    simp only[HV,beq_self_eq_true,if_true]
    rw[show env.cells.lookup n=some c from hc];rfl
   ·have hb:(k == zat)=false:=by simpa using hk
    simp only[hb,zF,if_false,pure_bind]
    rw[ih _ fun z hz=>hy z (zf _ hz)]
    simp only[HV,hb,zF,if_false]
 have q:=key scope.names [] h
 simp only[bind_pure]
 exact q
theorem QU {cells:List (Str×Addr)}:∀ {names:List (Str×NameKind)}{cs:List (Str×Addr)}{x:Str}{c:Addr},(x,c)∈HV cells names cs->(x,c)∈cs\/((x,.free)∈names/\c=(cells.lookup x).getD 0)
 |[],cs,x,c,h=>.inl h
 |(n,k)::r,cs,x,c,h=>by
  rcases QU (names:=r) h with q|⟨q,e⟩
  ·by_cases hk:k=.free
   ·subst hk
    simp only[beq_self_eq_true,if_true] at q
    rcases zu.mp q with z|z
    ·cases z;exact .inr ⟨ze,rfl⟩
    ·exact .inl z
   ·have hb:(k == zat)=false:=by simpa using hk
    simp only[hb,zF,if_false] at q
    exact .inl q
  ·exact .inr ⟨zf _ q,e⟩
theorem Mi {cells:List (Str×Addr)}:∀ {names:List (Str×NameKind)}{cs:List (Str×Addr)}{p:Str×Addr},p∈cs->p∈HV cells names cs
 |[],_,_,h=>h
 |(n,k)::r,cs,p,h=>by
  show p∈HV cells r _
  refine Mi ?_
  by_cases hk:(k == zat)=true
  ·rw[if_pos hk];exact zf _ h
  ·rw[if_neg hk];exact h
theorem Mj {cells:List (Str×Addr)}:∀ {names:List (Str×NameKind)}{cs:List (Str×Addr)}{x:Str},(x,.free)∈names->∃ c,(x,c)∈HV cells names cs
 |(n,k)::r,cs,x,h=>by
  rcases zu.mp h with z|z
  ·cases z
   refine⟨(cells.lookup n).getD 0,?_⟩
   show _∈HV cells r (if (zat == zat)=true then _ else _)
   exact Mi (by rw[if_pos (beq_self_eq_true _)];exact ze)
  ·exact Mj (names:=r) z
theorem EX {x:Str}{c:Addr}:∀ {l:List (Str×Addr)},(x,c)∈l->∃ c',l.lookup x=some c'
 |(y,d)::r,h=>by
  rw[zap]
  by_cases e:(x == y)=true
  ·rw[e];exact⟨d,rfl⟩
  ·rw[Bool.eq_false_iff.mpr e]
   rcases zu.mp h with z|z
   ·cases z;exact absurd (beq_self_eq_true x) e
   ·exact EX z
theorem J4 {scope:Scope}{env:Env}{x:Str}{k:NameKind}(h:(relabel scope env).names.lookup x=some k):∃ k',scope.names.lookup x=some k'/\(k=k'\/(k'=.free/\k=.cell)):=by
 unfold relabel at h
 dsimp only at h
 revert h
 induction scope.names with
 |nil=>intro h;cases h
 |cons y r ih =>
  obtain⟨n,k'⟩:=y
  intro h
  rw[zg,zap] at h
  rw[zap]
  by_cases hc:(k' == zat && env.scope.kind == .function && env.kindOf n == some .cell)=true
  ·dsimp only at h
   rw[if_pos hc] at h
   dsimp only at h
   cases e:x == n with
   |true =>
    rw[e] at h
    have hf:k'=.free:=by
     have:=hc
     simp only[zR] at this
     simpa using this.1.1
    exact⟨k',rfl,.inr ⟨hf,(zI h).symm⟩⟩
   |false=>rw[e] at h;exact ih h
  ·dsimp only at h
   rw[if_neg hc] at h
   dsimp only at h
   cases e:x == n with
   |true=>rw[e] at h;exact⟨k',rfl,.inl (zI h).symm⟩
   |false=>rw[e] at h;exact ih h
theorem lookup_mem {α:Type}{x:Str}{k:α}:∀ {l:List (Str×α)},l.lookup x=some k->(x,k)∈l
 |(y,d)::r,h=>by
  rw[zap] at h
  cases e:x == y with
  |true =>
   rw[e] at h;cases h;have:x=y:=by simpa using e
   subst this;exact ze
  |false=>rw[e] at h;exact zf _ (lookup_mem h)
noncomputable def blockOf (X:Cx) (s:Shared) (H:Hp) (scope:Scope) (C:Addr) (NB:List Str) (ex:List Addr):Cx :=
 { X with N:=NB,s₀:=s,H₀:=H,env:=compEnvC scope (HV X.env.cells scope.names []) C X.env,outer:=X.stack,stack:=X.stack,ex:=ex,fn:=fun _=>false,pn:=[],xe:=fun _ _=>False }
section
variable {X:Cx}{pins:List (Addr×Obj)}{σ:St}{H:Hp}{s s4:Shared}{scope:Scope}{NB:List Str}{μ:List (Option Nat)}{fp:List Addr}{C:Addr}
theorem Hk (h:J3 scope X.env.scope=true):scope.kind=.function:=by
 unfold J3 at h
 simp only[zR,decide_eq_true_eq] at h
 exact h.1
theorem Hl {sc outer:Scope}(h:J3 sc outer=true){y:Str×NameKind}(hy:y∈sc.names):y.2≠.cell/\(y.2=.free->outer.names.lookup y.1=some .cell\/outer.names.lookup y.1=some .free)/\(y.2=.local->sc.names.lookup y.1=some .local):=by
 unfold J3 at h
 simp only[zR,decide_eq_true_eq,zbd,Bool.or_eq_true] at h
 obtain⟨⟨h1,h2⟩,h3⟩:=h.2 y hy
 exact⟨h1,fun e=>by
  rcases h2 with (q|q)|q
  ·exact absurd e q
  ·exact .inl q
  ·exact .inr q,fun e=>h3.elim (fun q=>absurd e q) id⟩
theorem Ip (I:Inv X pins σ H s) (h:J3 scope X.env.scope=true){x:Str}(hx:(x,.free)∈scope.names):∃ c,X.env.cells.lookup x=some c:=I.ok.has x ((Hl h hx).2.1 rfl)
theorem E8 (I:Inv X pins σ H s) (h:J3 scope X.env.scope=true){x:Str}{c:Addr}(e:(HV X.env.cells scope.names []).lookup x=some c):X.env.cells.lookup x=some c:=by
 rcases QU (lookup_mem e) with q|⟨q,r⟩
 ·cases q
 ·obtain⟨c',e'⟩:=Ip I h q
  rw[e'] at r
  rw[e',r];rfl
theorem Ml {env:Env}(h:J3 scope env.scope=true){x:Str}{k:NameKind}(hk:(relabel scope env).names.lookup x=some k) (hc:k=.cell\/k=.free):(x,.free)∈scope.names:=by
 obtain⟨k',e,q⟩:=J4 hk
 have m:=lookup_mem e
 have n:=(Hl h m).1
 rcases q with q|⟨q,_⟩
 ·subst q
  rcases hc with z|z
  ·exact absurd z n
  ·subst z;exact m
 ·subst q;exact m
theorem ZM (h:Pf X.N NB scope μ=true):NB.length=μ.length/\∀(j i:Nat),μ[j]? =some (some i)->∃ x,NB[j]? =some x/\X.N[i]? =some x/\scope.names.lookup x=some .free:=by
 unfold Pf at h
 simp only[zR,decide_eq_true_eq,zbd] at h
 refine⟨h.1,fun j i e=>?_⟩
 have hj:j < NB.length:=by rw[h.1];exact (zy.mp e).1
 have m:(NB[j],some i)∈NB.zip μ:=by
  refine List.mem_iff_getElem?.mpr ⟨j,?_⟩
  rw[List.getElem?_zip_eq_some]
  exact⟨zq hj,e⟩
 have q:=h.2 _ m
 dsimp only at q
 simp only[zR,decide_eq_true_eq] at q
 exact⟨NB[j],zq hj,q.1,q.2⟩
theorem QV (I:Inv X pins σ H s) (aG:J3 scope X.env.scope=true) (bJ:Pf X.N NB scope μ=true) (ia:∀ b∈fp,Ld X pins H b) (lf:∀ b∈fp,∃ o,s.heap.get? b=some o)
 (hC:s.heap.objs.size<=C) {h4:Heap} {t4:Nat} (ns:h4.Ns C fun _=>none) (k:∀ b o,s.heap.get? b=some o->h4.get? b=some o) :
 Inv (blockOf X s H scope C NB fp) [] (EW μ σ) H { s with heap:=h4,toks:=t4 }:=by
 obtain⟨hlen,bJ⟩:=ZM bJ
 have u6:∀ b o,s.heap.get? b=some o->b≠C:=fun b o e=>zG (zB (zw e) hC)
 have lg:∀ x c,X.env.cells.lookup x=some c->c≠C:=fun x c e=>by
  obtain⟨v,o,ho,_⟩:=I.cell x c e
  exact u6 c o ho
 refine⟨⟨I.ok.mod,(show scope.kind=_ from Hk aG),I.ok.glob,I.ok.blt,hC,fun x y c h1 h2=>I.ok.inj x y c (E8 I aG h1) (E8 I aG h2),fun x hx=>?_,fun x c h _=>(by cases h),I.ok.hd,I.ok.frames,.inl rfl,fun b hb=>?_,I.bs,yP I.ok.Zk I.sz,fun b o e hb=>?_,fun b hb hz=>?_,I.stack,I.OZ⟩,
  rfl,I.bare,Un.kept k,⟨_,ns,fun j x v e1 e2 e3=>?_⟩,fun x c e=>?_,I.Av.fresh hC,fun x c e=>I.Gi x c (E8 I aG e),fun p hp=>(by cases hp),I.Av.kept k,?_⟩
 ·have q:(x,zat)∈scope.names:=by
   rcases hx with hx|hx
   ·exact Ml aG hx (.inl rfl)
   ·exact Ml aG hx (.inr rfl)
  obtain⟨c,m⟩:=Mj (cells:=X.env.cells) (cs:=[]) q
  exact EX m
 ·obtain⟨o,ho⟩:=lf b hb
  refine⟨u6 b o ho,fun x c e z=>?_⟩
  exact (ia b hb).2.2.2.2.1 x c (E8 I aG e) z
 ·rcases (ia b hb).2.2.2.1 with z|z
  ·exact I.ok.WK b o e z
  ·exact absurd (zB (zw (I.ok.bs b o e).1) z) (Nat.lt_irrefl _)
 ·rcases zu.mp (I.Sw b hz) with e|e
  ·exact (ia b hb).2.1 e
  ·exact (ia b hb).2.2.1 e
 ·have i9:(μ[j]?).map (fun o=>o.bind fun i=>(σ[i]?).join)=some (some v):=by
   rw[<-zD];exact e2
  cases q:μ[j]? with
  |none=>rw[q] at i9;cases i9
  |some o =>
   rw[q] at i9
   cases o with
   |none=>cases i9
   |some i =>
    have e4:(σ[i]?).join=some v:=by simpa using i9
    have e5:σ[i]? =some (some v):=by
     cases z:σ[i]? with
     |none=>rw[z] at e4;cases e4
     |some w=>rw[z] at e4;simp at e4;rw[e4]
    obtain⟨x',n1,n2,n3⟩:=bJ j i q
    have ex:x'=x:=zI (n1.symm.trans e1)
    subst ex
    have m:=lookup_mem n3
    have ov:=(Hl aG m).2.1 rfl
    obtain⟨mm,hn,hl⟩:=I.loc
    obtain⟨u,r,l⟩:=hl i x' v n2 e5 (ov.elim (fun z=>.inr (.inl z)) fun z=>.inr (.inr z))
    refine⟨u,r,.inr ⟨?_,?_⟩⟩
    ·rcases e3 with z|z|z
     ·obtain⟨k',z1,z2⟩:=J4 (k:=.local) z
      rw[n3] at z1
      cases z1
      rcases z2 with z2|⟨_,z2⟩<;>cases z2
     ·exact .inl z
     ·exact .inr z
    ·rcases l with ⟨l,_⟩|⟨_,c,l1,l2⟩
     ·rcases ov with z|z<;>(rw[show X.env.kindOf x'=_ from z] at l;cases l)
     ·obtain⟨c',m'⟩:=Mj (cells:=X.env.cells) (cs:=[]) m
      obtain⟨yp,l3⟩:=EX m'
      have l4:=E8 I aG l3
      rw[l1] at l4
      cases l4
      refine⟨c,l3,?_⟩
      obtain⟨o,ho,hd⟩:=l2
      exact⟨o,k _ _ ho,hd⟩
 ·obtain⟨v,o,ho,hd⟩:=I.cell x c (E8 I aG e)
  exact⟨v,o,k _ _ ho,hd⟩
 ·show (EW μ σ).length=NB.length
  unfold EW
  rw[zc,hlen]
theorem Fq.adopt {P:Program}{w:World}{H:Hp}{h:Heap}{a:Addr}{o:HO}(x:Fq P w H h) (hn:H a=none) (new:BF P w (upd H a o) h a o):Fq P w (upd H a o) h:=fun b u e=>by
 by_cases hb:b=a
 ·subst hb;rw[Ar] at e;cases e;exact new
 ·rw[Ag hb] at e
  exact (x b u e).OX (fun c v _ q=>q) (fun c q=>by rw[Ag (Az q hn)];exact q) fun c xs q=>by rw[Ag (Az q hn)];exact q
theorem Vz {H':Hp}{s':Shared}{h':Heap}{D:Addr}{pl:List (Addr×Obj)}{σ':St}{aa:List Value}{ys:List V}{n:Nat}(I:Inv X pins σ H s) (ia:∀ b∈fp,Ld X pins H b) (J:Inv (blockOf X s H scope C NB fp) pl σ' H' s')
 (hC:s.heap.objs.size<=C) (hD:s.heap.objs.size<=D) (cL:D≠C) (eD:s'.heap.get? D=some { cls:=.type "list",data:=.seq aa.toArray n }) (nD:H' D=none) (r:Vals ys aa) (hz:ys.length<=sizeLine)
 (sb:zay C s'.heap h'):Inv X pins σ (upd H' D (.lst ys)) { s' with heap:=h' }:=by
 have e9:∀ b o,s.heap.get? b=some o->b≠C:=fun b o e=>zG (zB (zw e) hC)
 have m7:∀ b o,s.heap.get? b=some o->b≠D:=fun b o e=>zG (zB (zw e) hD)
 have freshD:H D=none:=I.Av.fresh hD
 have nC:H' C=none:=J.free
 have u:Un (KR X.stack) fp H H' s.heap s'.heap:=J.base
 have e7:Fq X.prog X.w H' h':=fun b ob e=>(J.Av b ob e).OX (fun c v hc q=>(sb.2 c (by
  intro z
  subst z
  rcases hc with rfl|hc
  ·rw[nC] at e;cases e
  ·rw[nC] at hc;cases hc)).trans q) (fun _ q=>q) fun _ _ q=>q
 refine I.gM (ch:=fp) J.os ⟨fun b o e n hb hx=>?_,fun b o e n hb hx=>?_,fun b o e n hx=>?_,fun b o e hx=>?_,fun b xs e=>?_,fun b o u' e=>?_,fun b ps e=>?_⟩ (e7.adopt nD ⟨hz,aa,n,r,(sb.2 D cL).trans eD⟩) J.bare fun b hb=>?_
 ·exact (sb.2 b (e9 b o e)).trans (u.keep b o e n hb hx)
 ·obtain⟨sl,q⟩:=u.slot b o e n hb hx
  exact⟨sl,(sb.2 b (e9 b o e)).trans q⟩
 ·rw[Ag (m7 b o e)];exact u.free b o e n hx
 ·obtain⟨o',q⟩:=u.there b o e hx
  exact⟨o',(sb.2 b (e9 b o e)).trans q⟩
 ·rw[Ag (Az e freshD)];exact u.NC b xs e
 ·rw[Ag (Az e freshD)];exact u.M6 b o u' e
 ·rw[Ag (Az e freshD)];exact u.ND b ps e
 ·obtain⟨_,f1,_,f3,f4,f5⟩:=ia b hb
  exact⟨f3,f1,f4,f5⟩
end
theorem Pg {prog:Program}{w:World}{A:Around}{R:Result->Shared->Prop}{s:Shared}{elt target iter:Expr}{ifs:List Expr}{scope:Scope}{pos:Pos}{it acc:Value}{env:Env}(I:Nat->Shared->Prop)
 (turn:∀ n s,I n s->wpAny (model prog w) A (pyNext it) (fun r s₁=>match r with
  |none=>R (.ok .next) s₁
  |some v=>wpAny (model prog w) A (letOwnedTupleGo target it v) (fun _ s₁'=>wpAny (model prog w) A (assign target env v) (fun _ s₂ =>
   wpAny (model prog w) A (forIn ifs true fun c r=>if r=true then do let ok <-isTrue c env (eval c env);pure (zbe ok) else pure (zbe r)) (fun ok s₃ =>
    if ok=true then wpAny (model prog w) A (eval elt env) (fun x s₄ =>
     wpAny (model prog w) A (call (.builtin "list.append") [acc,x]) (fun _ s₅=>∃ m,m < n/\I m s₅) (fun _ _=>False) s₄) (fun _ _=>False) s₃
    else ∃ m,m < n/\I m s₃) (fun _ _=>False) s₂) (fun _ _=>False) s₁') (fun _ _=>False) s₁) (fun _ _=>False) s)
 (n:Nat) (h:I n s) :
 codeAny (model prog w) A (.compLoop (.ListComp elt [⟨target,iter,ifs,0⟩] scope pos) 0 it acc env) R s:=by
 refine codeAny_loop rfl I (fun n s hI=>?_) n h
 show wpAny _ A ((compTurn (.ListComp elt [⟨target,iter,ifs,0⟩] scope pos) 0 it acc env).onRaise (fun x=>do noteFrame x env;theTreesLotGoes x)) _ _ s
 refine wpAny_noted ?_
 rw[compTurn_list]
 refine wpAny_bind (wpAny_standAt (wpAny_bind (wpAny_mono (turn n s hI) (fun r s₁ h₁=>?_) fun _ _ h'=>h'.elim)))
 cases r with
 |none=>exact wpAny_pure h₁
 |some v =>
  refine wpAny_bind (wpAny_mono h₁ (fun _ s₁' h₁'=>?_) fun _ _ h'=>h'.elim)
  refine wpAny_bind (wpAny_mono h₁' (fun _ s₂ h₂=>wpAny_bind (wpAny_mono h₂ (fun ok s₃ h₃=>?_) fun _ _ h'=>h'.elim)) fun _ _ h'=>h'.elim)
  cases ok with
  |false=>exact wpAny_pure ⟨rfl,h₃⟩
  |true =>
   exact wpAny_bind (wpAny_bind (wpAny_mono h₃ (fun x s₄ h₄=>wpAny_bind (wpAny_mono h₄ (fun _ s₅ h₅=>wpAny_pure (wpAny_pure ⟨rfl,h₅⟩)) fun _ _ h'=>h'.elim)) fun _ _ h'=>h'.elim))
noncomputable def mY (X:Cx) (cs:List Expr) (t:TT):Prop :=
 ∀(pins:List (Addr×Obj)) (s:Shared) (σ:St) (H:Hp) (Q:Bool->Hp->Prop),Inv X pins σ H s->t σ H Q->
  wpAny (model X.prog X.w) X.A (forIn cs true fun c r=>if r=true then do let ok <-isTrue c X.env (eval c X.env);pure (zbe ok) else pure (zbe r)) (TP X pins σ Q) X.xe s
noncomputable def sV:TT:=fun _ H Q=>Q true H
theorem ZN {X:Cx}:mY X [] sV:=fun _ _ _ H _ I h=>wpAny_tests_nil ⟨H,I,h⟩
theorem ZO {X:Cx}{c:Expr}{t:TT}(h:PT X c t):mY X [c] t:=fun pins s σ H Q I q=>wpAny_tests_one (h pins s σ H Q I q)
noncomputable def Kk (μ:List (Option Nat)) (g:TG):Prop:=∀ σ x H Q,g x (EW μ σ) H Q->g x (EW μ σ) H fun σ' H'=>Q σ' H'/\∀(j:Nat) v,(EW μ σ)[j]? =some (some v)->σ'[j]? =some (some v)
theorem ZP {μ:List (Option Nat)}{i:Nat}(h:μ[i]? =some none):Kk μ (O1 i):=fun σ x H Q q=>by
 refine⟨q,fun j v e=>?_⟩
 have ae:j≠i:=fun z=>by
  subst z
  unfold EW at e
  rw[zD,h] at e
  cases e
 rw[yM (yE ae)]
 exact e
noncomputable def uF (J:It) (H1:Hp) (Q:VK) (st:V->Hp->(St->Hp->Prop)->Prop) (tc:TT) (te:TE):Prop :=
 ∃ W:Nat->Nat->List V->Hp->Prop,(∃ m,W 0 m [] H1)/\∀ i m ys H2,W i m ys H2->
  (J.stop i H2/\∀ D,H2 D=none->Q (.ref D) (upd H2 D (.lst ys))) \/
  (J.go i H2/\ys.length < sizeLine/\∃ N:List V->Hp->Prop,(∀ bD H',N bD H'->∃ m',m' < m/\W (i + 1) m' bD H')/\∀ x H3,J.gN i H2 x H3->st x H3 fun σ4 H4=>tc σ4 H4 fun b H5=>if b=true then te σ4 H5 fun y H6=>N (ys++[y]) H6 else N ys H5)
noncomputable def Ue (wi:TI) (μ:List (Option Nat)) (g:TG) (tc:Shared->Hp->Addr->List Addr->TT) (te:Shared->Hp->Addr->List Addr->TE):TE:=fun σ H Q=>wi σ H fun J H1=>∀ s C ex,uF J H1 Q (fun x H K=>g x (EW μ σ) H K) (tc s H1 C ex) (te s H1 C ex)
section
variable {X:Cx}{pins:List (Addr×Obj)}{σ:St}{H2:Hp}{s2:Shared}{tg elt iter:Expr}{ifs:List Expr}{scope:Scope}{pos:Pos}{NB:List Str}{μ:List (Option Nat)}{g:TG}{tc:Shared->Hp->Addr->List Addr->TT}{te:Shared->Hp->Addr->List Addr->TE}{fp:List Addr}{it:Addr}{tn:Nat->Heap->Prop}{J:It}{Q:VK}
theorem Oc (hc:X.calm=true) (I2:Inv X pins σ H2 s2) (T:Turn X.prog X.w X.K tg J fp it tn) (cP:tn 0 s2.heap) (f2:∀ b∈fp,Ld X pins H2 b)
 (aG:J3 scope X.env.scope=true) (bJ:Pf X.N NB scope μ=true) (ja:Kk μ g)
 (hb:∀(s:Shared) (H:Hp) (C:Addr) (ex:List Addr),PG (blockOf X s H scope C NB ex) tg g/\mY (blockOf X s H scope C NB ex) ifs (tc s H C ex)/\PE (blockOf X s H scope C NB ex) elt (te s H C ex))
 (q:∀ C,uF J H2 Q (fun x H K=>g x (EW μ σ) H K) (tc s2 H2 C fp) (te s2 H2 C fp)) {RR:Value->Addr->Result->Shared->Prop} {E:Value->Shared->Prop}
 (fin:∀(D C:Addr) (s':Shared) (H':Hp) (ys:List V) (m:Str->Option Value),s2.heap.objs.size<=D->s2.heap.objs.size<=C->D≠C->s'.heap.Ns C m->H' C=none->(∀ h',zay C s'.heap h'->Inv X pins σ (upd H' D (.lst ys)) { s' with heap:=h' })->Q (.ref D) (upd H' D (.lst ys))->RR (.ref D) C (.ok .next) s') :
 wpAny (model X.prog X.w) X.A (newList []) (fun acc s₃=>wpAny (model X.prog X.w) X.A (newFunctionEnv scope X.env.globals (HV X.env.cells scope.names []) [] X.env.qual none .none (some X.env)) (fun jb s₄ =>
  codeAny (model X.prog X.w) X.A (.compStart (.ListComp elt [⟨tg,iter,ifs,0⟩] scope pos) 0 (.ref it) acc { jb with scope:=relabel scope X.env }) (RR acc jb.locals) s₄) E s₃) E s2:=by
 have bU:∀ y∈scope.names,y.2≠.cell:=fun y hy=>(Hl aG hy).1
 refine wpAny_newObj_type (wpAny_newFunctionEnv bU (by intro y hy;simp at hy) (fun h₁ hns₁ hsb₁=>?_) (Hk aG))
 dsimp only at hns₁ hsb₁ ⊢
 generalize m8:s2.heap.push { cls:=.type "list",dict:=none,data:=.seq ([]:List Value).toArray }=lh at hns₁ hsb₁ ⊢
 have hC:lh.objs.size=s2.heap.objs.size + 1:=by rw[<-m8,Heap.size_push]
 have cL:s2.heap.objs.size≠lh.objs.size:=by rw[hC];exact zG (Nat.lt_succ_self _)
 have jc:s2.heap.objs.size<=lh.objs.size:=by rw[hC];exact Nat.le_succ _
 have old:∀ b o,s2.heap.get? b=some o->h₁.get? b=some o:=fun b o e=>hsb₁.extBut b o (by rw[hC];exact zG (Nat.lt_succ_of_lt (zw e))) (zr _ (m8▸zr _ e))
 have eD:h₁.get? s2.heap.objs.size=some { cls:=.type "list",data:=.seq ([]:List Value).toArray }:=hsb₁.extBut _ _ cL (zr _ (m8▸zH _ rfl))
 have lf:∀ b∈fp,∃ o,s2.heap.get? b=some o:=fun b hb=>let ⟨o,e,_⟩:=T.obj _ _ cP b hb;⟨o,e⟩
 have m9:∀ b∈fp,b≠s2.heap.objs.size:=fun b hb=>let ⟨o,e⟩:=lf b hb;zG (zw e)
 generalize u7:s2.heap.objs.size=D at jc cL eD m9 ⊢
 generalize yq:lh.objs.size=C at *
 have cb:s2.heap.objs.size<=D:=by rw[u7];exact zA _
 have cv:s2.heap.objs.size<=C:=by rw[u7];exact jc
 have I4:Inv (blockOf X s2 H2 scope C NB fp) [] (EW μ σ) H2 { s2 with heap:=h₁,toks:=s2.toks + ([]:List (Str×Value)).length }:=QV I2 aG bJ f2 lf cv (by simpa using hns₁) old
 have bG:∀ {H':Hp} {pl:List (Addr×Obj)},(∀ b∈fp,H' b=none)->(∀ p∈pl,p.1=D)->∀ b∈fp,Ld (blockOf X s2 H2 scope C NB fp) pl H' b:=fun {H' pl} hn hp b hb=>by
  refine⟨hn b hb,(I4.ok.qW b hb).1,I4.ok.WL b hb,.inl hb,fun x c e z=>(I4.ok.qW b hb).2 x c e z,fun p fc z=>?_⟩
  have na:p∈pl:=by simpa [blockOf] using fc
  exact m9 b hb (z▸hp p na)
 have vZ:D∉(blockOf X s2 H2 scope C NB fp).fs:=fun z=>by
  obtain⟨_,o,ho,_⟩:=I4.ok.IX.mem z
  exact absurd (zw ho) (Nat.not_lt.mpr cb)
 obtain⟨W,⟨m0,w0⟩,turn⟩:=q C
 have loop:∀ s₃:Shared,s₃={ s2 with heap:=h₁,toks:=s2.toks + ([]:List (Str×Value)).length } ->
  codeAny (model X.prog X.w) X.A (.compLoop (.ListComp elt [⟨tg,iter,ifs,0⟩] scope pos) 0 (.ref it) (.ref D) (compEnvC scope (HV X.env.cells scope.names []) C X.env)) (RR (.ref D) C) s₃:=by
  rintro s₃ rfl
  refine Pg (fun n s'=>∃ i ys aa k H',Inv (blockOf X s2 H2 scope C NB fp) [(D,{ cls:=.type "list",data:=.seq aa k })] (EW μ σ) H' s'/\tn i s'.heap/\(∀ b∈fp,H' b=none)/\Vals ys aa.toList/\ys.length<=sizeLine/\W i n ys H') ?_ m0
   ⟨0,[],#[],0,H2,I4.IY fun p hp=>?_,T.keep _ _ _ cP fun b hb o e=>old b o e,fun b hb=>(f2 b hb).1,.nil,zX _,w0⟩
  rotate_left
  ·have e:=zh.mp hp
   subst e
   exact⟨eD,I2.Av.fresh cb,cL,vZ,fun v=>by simp⟩
  rintro n s3 ⟨i,ys,aa,k,H3,I3,iq,ir,rv,hz,w3⟩
  rcases turn i n ys H3 w3 with ⟨stop,qn⟩|⟨go,aj,N,hN,step⟩
  ·refine wpAny_mono (T.done (blockOf X s2 H2 scope C NB fp) rfl rfl rfl hc i _ s3 _ H3 (fun _ _=>False) I3 (bG ir (by simp)) iq stop) (fun r s4 ⟨hr,li⟩=>?_) fun _ _ e=>e
   subst hr
   obtain⟨p1,p2,p3,p4,p5⟩:=li.pin _ (zp _ ze)
   obtain⟨m,hn,_⟩:=id li.loc
   have e1:s4.heap.get? D=some { cls:=.type "list",data:=.seq aa.toList.toArray k }:=by simpa using p1
   exact fin D C s4 H3 ys m cb cv cL hn li.free (fun h' sb=>Vz I2 f2 li cv cb cL e1 p2 rv hz sb) (qn D p2)
  ·refine wpAny_mono (T.item (blockOf X s2 H2 scope C NB fp) rfl rfl rfl hc i _ s3 _ H3 (fun _ _=>False) I3 (bG ir (by simp)) iq go) (fun r s4 ⟨u,hr,h4⟩=>?_) fun _ _ e=>e
   subst hr
   refine Bg h4 fun _ s5 ⟨x,H5,I5,r5,y5,ef,mi⟩=>?_
   have ml:=I5.pinned (bG mi (by simp)) (T.obj _ _ ef)
   have cq:=ja σ x H5 _ (step x H5 y5)
   obtain⟨hg,ht,he⟩:=hb s2 H2 C fp
   refine Bg (hg _ s5 _ H5 x u _ ml r5 cq) fun _ s6 ⟨σ6,H6,I6,q6,k6⟩=>?_
   refine Bg (ht _ s6 σ6 H6 _ I6 q6) fun ok s7 ⟨H7,I7,q7⟩=>?_
   have again:∀ {H8:Hp} {s8:Shared} {its':Array Value} {k':Nat} {bD:List V},Inv (blockOf X s2 H2 scope C NB fp) ([(D,{ cls:=.type "list",data:=.seq its' k' })]++Ii fp s5.heap) σ6 H8 s8->Vals bD its'.toList->bD.length<=sizeLine->(∃ m,m < n/\W (i + 1) m bD H8)->
    ∃ m,m < n/\∃ i ys aa k H',Inv (blockOf X s2 H2 scope C NB fp) [(D,{ cls:=.type "list",data:=.seq aa k })] (EW μ σ) H' s8/\tn i s8.heap/\(∀ b∈fp,H' b=none)/\Vals ys aa.toList/\ys.length<=sizeLine/\W i m ys H':=fun {H8 s8 its' k' bD} I8 bj wa n8=>by
    obtain⟨m',hm,w8⟩:=n8
    refine⟨m',hm,i + 1,bD,its',k',H8,(I8.IZ.weak ?_ k6),T.keep _ _ _ ef fun b hb o e=>(I8.pin (b,o) (zp _ (zp _ (Ft hb e)))).1,fun b hb=>?_,bj,wa,w8⟩
    ·rw[I8.len];exact I4.len
    ·obtain⟨o,e,d⟩:=T.obj _ _ ef b hb
     exact (I8.pin (b,o) (zp _ (zp _ (Ft hb e)))).2.1
   cases ok with
   |false =>
    simp only[zF,if_false] at q7 ⊢
    exact again I7 rv hz (hN _ _ q7)
   |true =>
    simp only[if_true] at q7 ⊢
    refine Bg (he _ s7 σ6 H7 _ I7 q7) fun uy s8 ⟨y,H8,I8,r8,q8⟩=>?_
    obtain⟨p1,p2,p3,p4,p5⟩:=I8.pin (D,_) (zp _ (zN _ ze))
    have e1:s8.heap.get? D=some { cls:=.type "list",data:=.seq aa k }:=p1
    have hsz:aa.size=ys.length:=by rw[<-Array.length_toList];exact rv.length.symm
    refine call_meets F.slot_list_append ⟨_,e1,rfl⟩ F.entry_list_append (F.args_list_append_2 _ _) (PySem.list_append D aa k uy (by rw[hsz];omega)) ⟨e1,?_⟩
    have nc:=PySem.IsL.update e1 (·.push uy)
    have Iu:Inv (blockOf X s2 H2 scope C NB fp) (Ii fp s5.heap) σ6 H8 s8:=I8.IY fun p hp=>I8.pin p (zp _ (zp _ hp))
    have It:=Iu.turned (it:=D) (h':=s8.heap.update D (zam (·.push uy))) (t':=s8.toks) (fun b o hb e=>(zar _ _ (yE hb)).trans e) p2 p3 (.inr cb) (fun x c e z=>?_) (fun p hp z=>?_)
    ·refine again (its':=aa.push uy) (k':=if (aa.push uy).size == aa.size then k else k + 1) (It.IY fun p hp=>?_) (by simpa using rv.append (.cons r8 .nil)) (by rw[zL,za3];omega) (hN _ _ q8)
     rcases zx.mp hp with hp|hp
     ·have e:=zh.mp hp
      subst e
      exact⟨nc,p2,p3,p4,fun v=>by simp⟩
     ·exact It.pin p (zp _ hp)
    ·have e':=E8 I2 aG e
     obtain⟨v,o,ho,_⟩:=I2.cell x c e'
     exact absurd (zw ho) (by rw[z];exact Nat.not_lt.mpr cb)
    ·have fc:p∈Ii fp s5.heap:=by simpa [blockOf] using hp
     exact m9 p.1 (O2 fc).1 z
 exact codeAny_compStart_list (loop _ rfl) (T.self _ 0 _ _ _ (T.keep _ _ _ cP fun b hb o e=>old b o e) (loop _ rfl))
theorem ZQ {wi:TI}(hc:X.calm=true) (hi:PI X tg iter wi) (aG:J3 scope X.env.scope=true) (bJ:Pf X.N NB scope μ=true) (ja:Kk μ g)
 (hb:∀(s:Shared) (H:Hp) (C:Addr) (ex:List Addr),PG (blockOf X s H scope C NB ex) tg g/\mY (blockOf X s H scope C NB ex) ifs (tc s H C ex)/\PE (blockOf X s H scope C NB ex) elt (te s H C ex))
 (hs:∀ x,foldedSetIterable iter X.env x=pure x:=by intro _;rfl):PE X (.ListComp elt [⟨tg,iter,ifs,0⟩] scope pos) (Ue wi μ g tc te):=by
 intro pins s σ H Q I h
 have bK:∀ y∈scope.names,y.2=.local->scope.names.lookup y.1=some .local:=fun y hy=>(Hl aG hy).2.2
 have cz:closureFor scope X.env=pure (HV X.env.cells scope.names []):=HY fun y hy e=>Ip I aG (x:=y.1) (by rw[<-e];exact hy)
 rw[eval_ListComp]
 refine wpAny_comprehension_free (use:=none) rfl hs cz (Hk aG) bK (Bg (hi pins s σ H _ I h) fun v s1 h1=>Bg h1 fun kt s2 h2=>?_)
 obtain⟨it,fp,tn,J,H2,e,I2,T,cP,f2,q⟩:=h2
 subst e
 refine Oc (RR:=fun acc C=>compPost (model X.prog X.w) X.A X.xe none (EP X pins σ Q) acc C) hc I2 T cP f2 aG bJ ja hb (fun C=>q s2 C fp) ?_
 intro D C s' H' ys m hD hC cL hn nC hI hq
 exact⟨m,hn,fun h' sb=>⟨.ref D,_,hI h' sb,rfl,hq⟩⟩
noncomputable def pA (i:Nat) (te:TE):TS:=fun D σ H=>te σ H fun x H1=>D.nx (σ.set i (some x)) H1
theorem Ug {wi:TI}{i:Nat}{y:Str}{py aw:Pos}(hN:X.N.Nodup) (jd:X.N[i]? =some y) (hy:Loc X.env.scope y) (hc:X.calm=true) (hi:PI X tg iter wi) (aG:J3 scope X.env.scope=true) (bJ:Pf X.N NB scope μ=true) (ja:Kk μ g)
 (hb:∀(s:Shared) (H:Hp) (C:Addr) (ex:List Addr),PG (blockOf X s H scope C NB ex) tg g/\mY (blockOf X s H scope C NB ex) ifs (tc s H C ex)/\PE (blockOf X s H scope C NB ex) elt (te s H C ex))
 (bL:swapsWith (.ListComp elt [⟨tg,iter,ifs,0⟩] scope pos) (some (.Name y py)) aw.line X.env=pure true:=by rfl)
 (hs:∀ x,foldedSetIterable iter X.env x=pure x:=by intro _;rfl) (hf:X.fn y=true\/X.env.scope.names.lookup y=some .local:=by first|exact .inl rfl|exact .inr rfl|assumption) :
 PS X (.Assign [.Name y py] (.ListComp elt [⟨tg,iter,ifs,0⟩] scope pos) aw) (pA i (Ue wi μ g tc te)):=by
 intro pins s σ H D' I h
 have bK:∀ y∈scope.names,y.2=.local->scope.names.lookup y.1=some .local:=fun y hy=>(Hl aG hy).2.2
 have cz:closureFor scope X.env=pure (HV X.env.cells scope.names []):=HY fun y hy e=>Ip I aG (x:=y.1) (by rw[<-e];exact hy)
 rw[exec_Assign_Name_used _ _ _ _ bL]
 refine wpAny_bind (wpAny_standAt (wpAny_bind ?_))
 show wpAny _ X.A (do let _ <-comprehension (.ListComp elt [⟨tg,iter,ifs,0⟩] scope pos) scope X.env _ (newList []) false (eval iter X.env) (some (assign (.Name y py) X.env))) _ _ s
 refine wpAny_bind (wpAny_mono (wpAny_comprehension_free (use:=some (assign (.Name y py) X.env)) (Q:=fun _ s'=>SP X pins D' .next s') rfl hs cz (Hk aG) bK (Bg (hi pins s σ H _ I h) fun v s1 h1=>Bg h1 fun kt s2 h2=>?_)) (fun _ s' hq=>wpAny_pure (wpAny_pure hq)) fun _ _ e=>e)
 obtain⟨it,fp,tn,J,H2,e,I2,T,cP,f2,q⟩:=h2
 subst e
 refine Oc (RR:=fun acc C=>compPost (model X.prog X.w) X.A X.xe (some (assign (.Name y py) X.env)) (fun _ s'=>SP X pins D' .next s') acc C) hc I2 T cP f2 aG bJ ja hb (fun C=>q s2 C fp) ?_
 intro D C s' H' ys m hD hC cL hn nC hI hq
 have I':=hI s'.heap (.refl ..)
 show wpAny _ X.A (assign (.Name y py) X.env (.ref D)) _ _ _
 refine wpAny_assign_Name (O0 (i:=i) (v:=.ref D) I' hN jd hy rfl (fun iw wb ng=>?_) hf)
 obtain⟨a,sb,ha⟩:=ng
 have h8:a≠C:=by
  rcases ha with z|z
  ·rw[z];exact zG (zB I2.lt hC)
  ·obtain⟨v,o,ho,_⟩:=I2.cell y a z
   exact zG (zB (zw ho) hC)
 refine⟨m,hn.sameBut sb (yE h8),fun h' bM=>?_⟩
 refine⟨_,_,wb.turned (it:=C) (t':=iw.toks) (fun b o hb e=>(bM.2 b hb).trans e) (by rw[Ag (yE cL)];exact nC) (Nat.ne_of_gt (zB I2.lt hC)) (.inr (yP I2.sz hC)) (fun x c e z=>?_) (fun p hp z=>?_),hq⟩
 ·obtain⟨v,o,ho,_⟩:=I2.cell x c e
  exact absurd (zw ho) (by rw[z];exact Nat.not_lt.mpr hC)
 ·exact absurd (zw (I2.pin p hp).1) (by rw[z];exact Nat.not_lt.mpr hC)
end
noncomputable def uG (K:za) (a:Addr):It :=
 ⟨fun i H=>∃ xs x,Dm K H a xs/\xs[i]? =some x,fun i H v H'=>∃ p x,H p=none/\v=.ref p/\(∀ xs,Dm K H a xs->xs[i]? =some x)/\H'=upd H p (.tup [.int i,x]),fun i H=>∃ xs,Dm K H a xs/\xs.length<=i⟩
theorem SR {X:Cx}{pins:List (Addr×Obj)}{σ:St}{H:Hp}{s:Shared}{h':Heap}{t':Nat}{e it:Addr}(I:Inv X pins σ H s) (he:Ld X pins H e) (hi:Ld X pins H it) (k:∀ b o,b≠e->b≠it->s.heap.get? b=some o->h'.get? b=some o):Inv X pins σ H { s with heap:=h',toks:=t' }:=by
 obtain⟨e0,e1,e2,e3,e4,e5⟩:=he
 obtain⟨f0,f1,f2,f3,f4,f5⟩:=hi
 have ne:∀ b u,H b=some u->b≠e/\b≠it:=fun b u q=>⟨fun z=>(by rw[z,e0] at q;cases q),fun z=>(by rw[z,f0] at q;cases q)⟩
 refine I.step (g':=s.gens) (d':=s.drawn) (ch:=[e,it]) (fun b hb=>?_) (fun b o _ _ hc q _=>k b o (fun z=>hc (by simp[z])) (fun z=>hc (by simp[z])) q) (fun b o _ _ hc q _=>⟨o.slots,k b o (fun z=>hc (by simp[z])) (fun z=>hc (by simp[z])) q⟩) (fun _ _ _ _ n=>n)
  (fun b o hc q=>⟨o,k b o (fun z=>hc (by simp[z])) (fun z=>hc (by simp[z])) q⟩) (fun _ _ q=>q) (fun _ _ _ q=>q) (fun b ps q=>⟨#[],by rw[q];simp⟩) (fun m hm=>?_) (fun b u q=>?_) I.bare
 ·rcases zu.mp hb with z|z
  ·subst z;exact⟨e3,e1,e4,e5⟩
  ·have z:=zh.mp z
   subst z;exact⟨f3,f1,f4,f5⟩
 ·obtain⟨o,es,ep,ho,r⟩:=hm
  exact⟨o,es,ep,k _ o (yE e1) (yE f1) ho,r⟩
 ·refine (I.Av b u q).OX (fun c v hc z=>k c v ?_ ?_ z) (fun _ z=>z) fun _ _ z=>z
  ·rcases hc with z|z
   ·rw[z];exact (ne b u q).1
   ·exact (ne c _ z).1
  ·rcases hc with z|z
   ·rw[z];exact (ne b u q).2
   ·exact (ne c _ z).2
theorem VA {P:Program}{w:World}{K:za}{c4:List Expr}{x1}{bH:Pos}(a e it:Addr) (ae:e≠it) :
 Turn P w K (.Tuple c4 x1 bH) (uG K a) [e,it] e (fun i h=>(∃ old,IsEnum h e it i old)/\h.IsListIter it a i) where
 mem:=by simp
 obj:=fun i h st b hb=>by
  obtain⟨⟨old,h1⟩,o,h2,c,d⟩:=st
  rcases zu.mp hb with z|z
  ·subst z;exact⟨_,h1,fun v z=>by cases z⟩
  ·have z:=zh.mp z
   subst z;exact⟨o,h2,fun v z=>by rw[d] at z;cases z⟩
 keep:=fun i h h' st k=>⟨let ⟨old,h1⟩:=st.1;⟨old,k e (by simp) _ h1⟩,st.2.at fun o e=>k it (by simp) o e⟩
 item:=by
  intro X hP hw hK hc i pins s σ H E I hf st hg
  subst hP hw hK
  obtain⟨xs,x,hq,hx⟩:=hg
  obtain⟨⟨old,he⟩,hit⟩:=st
  obtain⟨aa,rv,p,hz⟩:=I.list hq
  obtain⟨u,hu,ru⟩:=rv.get hx
  have fe:=hf e (by simp)
  have fi:=hf it (by simp)
  refine wpAny_pyNext_enum_item he hit p.isList (x:=u) (by simpa using hu) ae fun h1 dq nh ht hsz hk=>?_
  refine⟨_,rfl,wpAny_letOwnedTupleGo_enum (s:={ s with heap:=h1,toks:=s.toks + 1 }) dq fun h2 wc bi=>?_⟩
  have bN:zay e h1 h2:=bi
  have nt:s.heap.objs.size≠e:=Nat.ne_of_gt (zw he)
  have we:s.heap.objs.size≠it:=by
   obtain⟨o,ho,_⟩:=hit
   exact Nat.ne_of_gt (zw ho)
  have I1:Inv X pins σ H { s with heap:=h2,toks:=s.toks + 1 }:=SR I fe fi fun b o hb aE q=>(bN.2 b hb).trans (hk b o hb aE q)
  have tup:h2.get? s.heap.objs.size=some { cls:=.type "tuple",data:=.seq #[.int i s.toks,u] }:=(bN.2 _ nt).trans ht
  have nH:H s.heap.objs.size=none:=I.Av.fresh (zA _)
  have vv:Vals [.int i,x] [.int i s.toks,u]:=.cons ⟨_,rfl⟩ (.cons ru .nil)
  have ni:Fq X.prog X.w (upd H s.heap.objs.size (.tup [.int i,x])) h2:=I1.Av.adopt nH ⟨by show 2<=sizeLine;decide,_,vv,⟨_,tup,rfl,_,rfl⟩⟩
  have I2:Inv X pins σ (upd H s.heap.objs.size (.tup [.int i,x])) { s with heap:=h2,toks:=s.toks + 1 }:=by
   refine I.step (g':=s.gens) (d':=s.drawn) (ch:=[e,it]) (fun b hb=>?_) (fun b o _ _ hc q _=>(bN.2 b (fun z=>hc (by simp[z]))).trans (hk b o (fun z=>hc (by simp[z])) (fun z=>hc (by simp[z])) q)) (fun b o _ _ hc q _=>⟨o.slots,(bN.2 b (fun z=>hc (by simp[z]))).trans (hk b o (fun z=>hc (by simp[z])) (fun z=>hc (by simp[z])) q)⟩)
    (fun b o hc q n=>by rw[Ag (zG (zw q))];exact n) (fun b o hc q=>⟨o,(bN.2 b (fun z=>hc (by simp[z]))).trans (hk b o (fun z=>hc (by simp[z])) (fun z=>hc (by simp[z])) q)⟩)
    (fun b xs q=>by rw[Ag (Az q nH)];exact q) (fun b o u q=>by rw[Ag (Az q nH)];exact q) (fun b ps q=>⟨#[],by rw[Ag (Az q nH),q];simp⟩) (fun m hm=>?_) ni I.bare
   ·rcases zu.mp hb with z|z
    ·subst z;exact⟨fe.2.2.2.1,fe.2.1,fe.2.2.2.2.1,fe.2.2.2.2.2⟩
    ·have z:=zh.mp z
     subst z;exact⟨fi.2.2.2.1,fi.2.1,fi.2.2.2.2.1,fi.2.2.2.2.2⟩
   ·obtain⟨o,es,ep,ho,r⟩:=hm
    exact⟨o,es,ep,(bN.2 _ (yE fe.2.1)).trans (hk _ o (yE fe.2.1) (yE fi.2.1) ho),r⟩
  refine⟨.ref s.heap.objs.size,_,I2,rfl,⟨_,x,nH,rfl,fun ys hy=>by rw[I.Gj hy hq];exact hx,rfl⟩,⟨⟨u,wc⟩,nh.at fun o q=>(bN.2 it (yE ae)).trans q⟩,fun b hb=>?_⟩
  have aE:b≠s.heap.objs.size:=by
   rcases zu.mp hb with z|z
   ·rw[z];exact yE nt
   ·rw[zh.mp z];exact yE we
  rw[Ag aE]
  exact (hf b hb).1
 done:=by
  intro X hP hw hK hc i pins s σ H E I hf st hg
  subst hP hw hK
  obtain⟨xs,hq,hx⟩:=hg
  obtain⟨⟨old,he⟩,hit⟩:=st
  obtain⟨aa,rv,p,hz⟩:=I.list hq
  have hl:=rv.length
  obtain⟨f0,f1,f2,f3,f4,f5⟩:=hf it (by simp)
  exact wpAny_pyNext_enum_end (I.ok.hd hc) he hit p.isList (by simp;omega) fun h' eb=>⟨rfl,I.turned (t':=s.toks) (fun b o hb e=>eb b o hb e) f0 f1 f3 f4 f5⟩
 self:=fun _ _ _ _ _ st h=>let ⟨_,he⟩:=st.1;wpAny_pyIter_enum he h
section
variable {X:Cx}
noncomputable def pB (K:za) (ta:TA):TI:=fun σ H R=>ta σ H fun vs H1=>∃ a,vs=[.ref a]/\(∃ xs,Dm K H1 a xs)/\R (uG K a) H1
theorem ZR {c4:List Expr}{x1}{bH:Pos}{a:Expr}{ta:TA}{p pos:Pos}(hg:Gl X "enumerate") (hm:X.mg "enumerate" = none) (ha:PA X [a] ta) (hb:bootBuiltins "enumerate" = some (.type "enumerate"):=by decide +kernel) (hs:starEach [a] X.env=[(false,eval a X.env)]:=by rfl) :
 PI X (.Tuple c4 x1 bH) (.Call (.Name "enumerate" p) [a] [] pos) (pB X.K ta):=by
 intro pins s σ H R I h
 refine Call_ (E6 I hg hm hb (yO (Bg (ha pos pins s σ H _ I h) fun us s1 ⟨vs,H1,I1,r1,q1⟩=>?_) hs rfl))
 obtain⟨j,e,⟨xs,hq⟩,q⟩:=q1
 subst e
 cases r1 with
 |cons r rr =>
  cases rr
  cases r
  obtain⟨aa,rv,p,hz⟩:=I1.list hq
  refine call_enumerate_list p.isList fun h' he hit hsz hk=>?_
  refine wpAny_pyIter_enum (s:={ s1 with heap:=h' }) he ?_
  have I2:Inv X pins σ H1 { s1 with heap:=h' }:=I1.kept (t':=s1.toks) hk
  refine⟨_,[s1.heap.objs.size + 1,s1.heap.objs.size],_,_,H1,rfl,I2,VA j _ _ (Nat.succ_ne_self _),⟨⟨_,he⟩,hit⟩,fun b hb=>?_,q⟩
  rcases zu.mp hb with z|z
  ·rw[z];exact I1.WV (Nat.le_succ _) (I1.Av.fresh (Nat.le_succ _))
  ·rw[zh.mp z];exact I1.WV (zA _) (I1.Av.fresh (zA _))
end
noncomputable def BK {α:Type}(o:Option (α×List Int)) (b:α×List Int):Option (α×List Int):=match o with | none=>some b | some c=>if HT.lexLt b.2 c.2=true then some b else some c
noncomputable def AX {α:Type}(bs:List (α×List Int)):Option (α×List Int):=bs.foldl BK none
noncomputable def Dj (bs:List (Addr×List Int)):Array Value:=match AX bs with | none=>#[] | some b=>#[.ref b.1,.ref b.1]
theorem D1 {α:Type}(bs:List (α×List Int)) (b:α×List Int):AX (bs++[b])=match AX bs with | none=>some b | some c=>if HT.lexLt b.2 c.2=true then some b else some c:=by
 unfold AX;rw[List.foldl_append];rfl
theorem Kl {α:Type}:∀(bs:List (α×List Int)) (b:α×List Int),AX bs=some b->b∈bs:=by
 intro bs
 suffices h:∀(bs:List (α×List Int)) (o:Option (α×List Int)) (b:α×List Int),bs.foldl BK o=some b->b∈bs\/o=some b by
  intro b hb
  rcases h bs none b hb with q|q
  ·exact q
  ·cases q
 intro bs
 induction bs with
 |nil=>intro o b h;exact .inr h
 |cons x r ih =>
  intro o b h
  rw[zU] at h
  rcases ih _ _ h with q|q
  ·exact .inl (zf _ q)
  ·cases o with
   |none=>cases q;exact .inl ze
   |some c =>
    unfold BK at q
    dsimp only at q
    split at q
    ·cases q;exact .inl ze
    ·exact .inr q
theorem NI (a v:Value):argsOk "min" ⟨[a],[(Str.ofString "default",v)]⟩:=by unfold argsOk;kernel_rfl
section
variable {prog:Program}{w:World}{A:Around}{R:Result->Shared->Prop}
theorem Xl (bs:List (Addr×List Int)) (tv:Addr->Array Value) (l I S:Addr) (d:Value) (hh:A.handled=none) (hu:A.in1.units < cLine) (cT:S≠I) (ib:l≠I) (je:l≠S) (fg:∀ b∈bs,b.1≠I/\b.1≠S)
 (hk:∀ b∈bs,IntsAre (tv b.1).toList b.2):∀(k j:Nat) (s:Shared) (c:Nat),bs.length - j=k->j<=bs.length->s.heap.IsListIter I l j->s.heap.IsList l (bs.map fun b=>yG b.1).toArray->(∀ b∈bs,IsTup s.heap b.1 (tv b.1))->
  s.heap.get? S=some { cls:=.type "list",dict:=none,data:=.seq (Dj (bs.take j)) c,slots:=#[] } ->
  (∀ h' tk,(∀ b o,b≠I->b≠S->s.heap.get? b=some o->h'.get? b=some o)->R (.ok (.ret (match AX bs with|none=>d|some b=>.ref b.1))) { s with heap:=h',toks:=tk })->
  codeAny (model prog w) A (.builtin "min.loop" ⟨[.ref I,.none,.ref S],[(Str.ofString "default",d)]⟩) R s:=by
 have aA:(toString "min" ++ toString ".loop" : String) = "min.loop" := by decide
 intro k
 induction k with
 |zero =>
  intro j s c hr hj hit hl ht hS hR
  have bO:j=bs.length:=by omega
  subst bO
  rw[yS] at hS
  refine codeAny_builtin PySem.F.entry_min_loop ?_
  rw[zag zW _]
  show wpAny _ A.in1 (seqItems? (.ref S) >>= _) _ _ s
  refine wpAny_bind (wpAny_seqItems hS rfl ?_)
  show wpAny _ A.in1 (tryCatch (pyNext (.ref I)) _ >>= _) _ _ s
  refine wpAny_bind (wpAny_tryCatch (wpAny_pyNext_list_end (A:=A.in1) hh hit hl (by simp) fun h' eb=>?_))
  have aH:h'.get? S=_:=eb S _ cT hS
  unfold Dj at aH
  cases hb:AX bs with
  |none =>
   unfold Dj
   rw[hb]
   show wpAny _ A.in1 (rule _ >>= _) _ _ _
   refine wpAny_bind (wpAny_rule (wpAny_pure ?_))
   have q:=hR h' s.toks fun b o h1 h2 e=>eb b o h1 e
   rw[hb] at q
   exact q
  |some b =>
   rw[hb] at aH
   unfold Dj
   rw[hb]
   show wpAny _ A.in1 (updateSeq S (fun _=>#[]) >>= _) _ _ _
   refine wpAny_bind ?_
   refine wpAny_updateSeq aH rfl (wpAny_bind (wpAny_letGo (wpAny_pure ?_)))
   have q:=hR (h'.update S (zam fun _=>#[])) s.toks fun b o h1 h2 e=>(zar _ _ (yE h2)).trans (eb b o h1 e)
   rw[hb] at q
   exact q
 |succ k ih =>
  intro j s c hr hj hit hl ht hS hR
  have aj:j < bs.length:=by omega
  have ej:bs.take (j + 1)=bs.take j++[bs[j]]:=by rw[yU,zq aj];rfl
  have mj:bs[j]∈bs:=List.getElem_mem aj
  refine codeAny_builtin PySem.F.entry_min_loop ?_
  rw[zag zW _]
  show wpAny _ A.in1 (seqItems? (.ref S) >>= _) _ _ s
  refine wpAny_bind (wpAny_seqItems hS rfl ?_)
  show wpAny _ A.in1 (tryCatch (pyNext (.ref I)) _ >>= _) _ _ s
  refine wpAny_bind (wpAny_tryCatch (wpAny_pyNext_list_item (A:=A.in1) hit hl (x:=.ref bs[j].1) (by simp[aj]) fun h' bn sb=>?_))
  have bM:zay I s.heap h':=sb
  have aH:h'.get? S=_:=(bM.2 S cT).trans hS
  have bY:h'.IsList l (bs.map fun b=>yG b.1).toArray:=hl.at fun o e=>(bM.2 l ib).trans e
  have c5:∀ b∈bs,IsTup h' b.1 (tv b.1):=fun b hb=>by
   obtain⟨o,ho,r⟩:=ht b hb
   exact⟨o,(bM.2 b.1 (fg b hb).1).trans ho,r⟩
  cases hb:AX (bs.take j) with
  |none =>
   unfold Dj at aH ⊢
   rw[hb] at aH ⊢
   show wpAny _ A.in1 (updateSeq S (fun _=>#[.ref bs[j].1,.ref bs[j].1]) >>= _) _ _ _
   refine wpAny_bind ?_
   refine wpAny_updateSeq aH rfl ?_
   rw[aA]
   have s1:=Heap.SameBut.update h' S (zam fun _=>(#[.ref bs[j].1,.ref bs[j].1]:Array Value))
   refine wpAny_pure ⟨plainId_quiet zW _,ih (j + 1) _ (c + 1) (by omega) aj (bn.at fun o e=>(s1.2 I (yE cT)).trans e) (bY.at fun o e=>(s1.2 l je).trans e) (fun b hb=>?_) ?_ fun c6 tk aW=>?_⟩
   ·obtain⟨o,ho,r⟩:=c5 b hb
    exact⟨o,(s1.2 b.1 (fg b hb).2).trans ho,r⟩
   ·refine (zax _ aH rfl).trans ?_
    unfold Dj
    rw[ej,D1,hb]
    rfl
   ·exact hR c6 tk fun b o h1 h2 e=>aW b o h1 h2 ((s1.2 b h2).trans ((bM.2 b h1).trans e))
  |some m =>
   have mm:m∈bs:=yL (Kl _ _ hb)
   unfold Dj at aH ⊢
   rw[hb] at aH ⊢
   show wpAny _ A.in1 (tryCatch (holding [.ref bs[j].1,.ref bs[j].1] (richCompare .Lt (.ref bs[j].1) (.ref m.1) >>= _)) _ >>= _) _ _ _
   refine wpAny_bind (wpAny_tryCatch (wpAny_holding (wpAny_bind (HT.Il (c5 _ mj) (c5 _ mm) (hk _ mj) (hk _ mm) hu ?_))))
   refine wpAny_bind (wpAny_holding (wpAny_truthy_bool ?_))
   refine wpAny_bind (wpAny_letGo (wpAny_pure ?_))
   cases hc:HT.lexLt bs[j].2 m.2 with
   |true =>
    simp only[if_true]
    have s1:=Heap.SameBut.update h' S (zam fun _=>(#[.ref bs[j].1,.ref bs[j].1]:Array Value))
    refine wpAny_bind ?_
    refine wpAny_updateSeq aH rfl (wpAny_bind (wpAny_letGo ?_))
    rw[aA]
    refine wpAny_pure ⟨plainId_quiet zW _,ih (j + 1) _ c (by omega) aj (bn.at fun o e=>(s1.2 I (yE cT)).trans e) (bY.at fun o e=>(s1.2 l je).trans e) (fun b hb=>?_) ?_ fun c6 tk aW=>?_⟩
    ·obtain⟨o,ho,r⟩:=c5 b hb
     exact⟨o,(s1.2 b.1 (fg b hb).2).trans ho,r⟩
    ·refine (zax _ aH rfl).trans ?_
     unfold Dj
     rw[ej,D1,hb]
     simp only[hc,if_true]
     rfl
    ·exact hR c6 tk fun b o h1 h2 e=>aW b o h1 h2 ((s1.2 b h2).trans ((bM.2 b h1).trans e))
   |false =>
    simp only[zF,if_false]
    refine wpAny_bind (wpAny_letGo ?_)
    rw[aA]
    refine wpAny_pure ⟨plainId_quiet zW _,ih (j + 1) _ c (by omega) aj bn bY c5 ?_ fun c6 tk aW=>?_⟩
    ·refine aH.trans ?_
     unfold Dj
     rw[ej,D1,hb]
     simp only[hc,zF,if_false]
    ·exact hR c6 tk fun b o h1 h2 e=>aW b o h1 h2 ((bM.2 b h1).trans e)
theorem NJ {E:Value->Shared->Prop}{s:Shared}{Q:Value->Shared->Prop}(bs:List (Addr×List Int)) (tv:Addr->Array Value) (l:Addr) (d:Value) (hh:A.handled=none) (hu:A.in1.units < cLine)
 (hl:s.heap.IsList l (bs.map fun b=>yG b.1).toArray) (ht:∀ b∈bs,IsTup s.heap b.1 (tv b.1)) (hk:∀ b∈bs,IntsAre (tv b.1).toList b.2)
 (hQ:∀ h' tk,(∀ b o,s.heap.get? b=some o->h'.get? b=some o)->Q (match AX bs with|none=>d|some b=>.ref b.1) { s with heap:=h',toks:=tk }) :
 wpAny (model prog w) A (call (.builtin "min") [.ref l] [(Str.ofString "default",d)]) Q E s:=by
 have aA:(toString "min" ++ toString ".loop" : String) = "min.loop" := by decide
 obtain⟨ol,fj,_⟩:=id hl
 have wg:l < s.heap.objs.size:=zw fj
 refine kmk_tree PySem.F.kind_min PySem.F.plain_min PySem.F.entry_min (NI _ _) ?_
 show wpAny _ A.in1 (zaj "min" ["key","default"] 0 ⟨[],[(Str.ofString "default",d)]⟩ >>= _) _ _ s
 refine wpAny_bind (wpAny_of_eq (show zaj "min" ["key","default"] 0 ⟨[],[(Str.ofString "default",d)]⟩=pure [none,some d] from rfl) ?_)
 refine wpAny_bind (wpAny_pure ?_)
 refine wpAny_bind (wpAny_pyIter_list hl ?_)
 refine wpAny_bind (wpAny_newList ?_ (zX _))
 rw[aA]
 have hS:(s.heap.push { cls:=.type "list_iterator",data:=.fields #[.ref l,.int 0 0] }).objs.size=s.heap.objs.size + 1:=Heap.size_push ..
 have old:∀ b o,s.heap.get? b=some o->b≠s.heap.objs.size/\b≠(s.heap.push { cls:=.type "list_iterator",data:=.fields #[.ref l,.int 0 0] }).objs.size:=fun b o e=>⟨zG (zw e),by rw[hS];exact zG (Nat.lt_succ_of_lt (zw e))⟩
 have grow:∀ b o,s.heap.get? b=some o->((s.heap.push { cls:=.type "list_iterator",data:=.fields #[.ref l,.int 0 0] }).push { cls:=.type "list",data:=.seq #[] }).get? b=some o:=fun b o e=>zr _ (zr _ e)
 refine wpAny_pure ⟨plainId_quiet zW _,?_⟩
 refine Xl bs tv l s.heap.objs.size (s.heap.push { cls:=.type "list_iterator",data:=.fields #[.ref l,.int 0 0] }).objs.size d hh hu (by rw[hS];exact Nat.succ_ne_self _) (old l ol fj).1 (old l ol fj).2 (fun b hb=>?_) hk _ 0 _ 0 rfl (zX _) ?_ ?_ (fun b hb=>?_) ?_ ?_
 ·obtain⟨o,ho,_⟩:=ht b hb
  exact old b.1 o ho
 ·exact⟨_,zr _ (zH _ rfl),rfl,rfl⟩
 ·exact hl.at fun o e=>grow l o e
 ·obtain⟨o,ho,r⟩:=ht b hb
  exact⟨o,grow b.1 o ho,r⟩
 ·exact zH _ rfl
 ·intro h' tk fm
  exact hQ h' tk fun b o e=>fm b o (old b o e).1 (old b o e).2 (grow b o e)
end
section
variable {X:Cx}{e e2:Expr}{te td:TE}{p pos kp:Pos}
noncomputable def pC (K:za) (te td:TE):TE:=fun σ H Q=>te σ H fun x H1=>td σ H1 fun d H2=>∃(a:Addr) (bs:List (Addr×List Int)),x=.ref a/\Dm K H2 a (bs.map fun b=>V.ref b.1)/\(∀ b∈bs,Fs K H2 b.1 (b.2.map V.int))/\Q (match AX bs with | none=>d | some b=>.ref b.1) H2
theorem Km:∀ {bs:List (Addr×List Int)}{us:List Value},Vals (bs.map fun b=>V.ref b.1) us->us=bs.map fun b=>yG b.1
 |[],_,.nil=>rfl
 |b::r,_,.cons h t=>by cases h;rw[Km t];rfl
theorem ZS (hc:X.calm=true) (hu:X.A.units + 1 < cLine) (hg:Gl X "min") (hm:X.mg "min" = none) (he:PE X e te) (hd:PE X e2 td)
 (aY:starEach [e] X.env=[(false,eval e X.env)]:=by rfl) (aF:(backToKw pos (keywordEach [⟨some "default",e2,kp⟩] X.env)).all (·.1.isSome)=true:=by rfl) (nj:(backToKw pos (keywordEach [⟨some "default",e2,kp⟩] X.env)).filterMap (·.1)=([("default" : Str)]:List Str):=by rfl)
 (nk:(backToKw pos (keywordEach [⟨some "default",e2,kp⟩] X.env)).any (·.1.isNone)=false:=by rfl) (cc:backTo pos (starEach [e] X.env)=(false,eval e X.env)::backTo pos (starEach [] X.env):=by rfl) (a4:(backTo pos (starEach [e] X.env)).any (·.1)=false:=by rfl) :
 PE X (.Call (.Name "min" p) [e] [⟨some "default",e2,kp⟩] pos) (pC X.K te td):=by
 intro pins s σ H Q I h
 refine wpAny_Call_Name_kw (E6 I hg hm boot_min ?_ (by decide) (by decide))
 refine callWith_kw (Bg ((Bi he Cj (hs:=aY)) pos pins s σ H (fun vs H1=>match vs with|[x]=>td σ H1 fun d H2=>∃(a:Addr) (bs:List (Addr×List Int)),x=.ref a/\Dm X.K H2 a (bs.map fun b=>V.ref b.1)/\(∀ b∈bs,Fs X.K H2 b.1 (b.2.map V.int))/\Q (match AX bs with|none=>d|some b=>.ref b.1) H2|_=>False) I h) fun us s1 ⟨vs,H1,I1,r1,q1⟩=>?_) cc a4 aF nk
 obtain⟨x,rfl⟩:∃ x,vs=[x]:=by
  match vs,q1 with
  |[x],_=>exact⟨x,rfl⟩
 refine Bg ((Zw hd jV) pos pins s1 σ H1 (fun zs H2=>match zs with|[d]=>∃(a:Addr) (bs:List (Addr×List Int)),x=.ref a/\Dm X.K H2 a (bs.map fun b=>V.ref b.1)/\(∀ b∈bs,Fs X.K H2 b.1 (b.2.map V.int))/\Q (match AX bs with|none=>d|some b=>.ref b.1) H2|_=>False) I1 q1) fun ws s2 ⟨zs,H2,I2,r2,q2⟩=>?_
 obtain⟨d,rfl⟩:∃ d,zs=[d]:=by
  match zs,q2 with
  |[d],_=>exact⟨d,rfl⟩
 obtain⟨a,bs,rfl,hl,hb,q⟩:=q2
 obtain⟨ua,rfl,ra⟩:=r1.one
 obtain⟨ud,rfl,rd⟩:=r2.one
 cases ra
 rw[nj]
 obtain⟨aa,rv,pl,hz⟩:=I2.list hl
 have ei:=Km rv
 subst ei
 have tv:∀ a:Addr,∃ t:Array Value,∀ b∈bs,b.1=a->IsTup s2.heap a t/\IntsAre t.toList b.2:=fun a=>by
  by_cases c7:∃ b∈bs,b.1=a
  ·obtain⟨b,c7,rfl⟩:=c7
   obtain⟨ts,rt,pt,_⟩:=I2.tuple (hb b c7)
   refine⟨ts.toArray,fun b' aE e=>⟨pt,?_⟩⟩
   have q2:=hb b' aE
   rw[e] at q2
   have e2:=I2.Hh q2 (hb b c7)
   rw[<-e2] at rt
   simpa using intsAre_of rt
  ·exact⟨#[],fun b aE e=>absurd ⟨b,aE,e⟩ c7⟩
 refine NJ bs (fun b=>zi (tv b)) a ud (I2.ok.hd hc) hu pl.isList (fun b aE=>(zb (tv b.1) b aE rfl).1) (fun b aE=>(zb (tv b.1) b aE rfl).2) fun h' tk hk=>?_
 refine⟨match AX bs with|none=>d|some b=>.ref b.1,H2,I2.kept (t':=tk) hk,?_,q⟩
 cases AX bs with
 |none=>exact rd
 |some b=>rfl
end
inductive D where
 |AA|bl (b:Bool)|int (i:Int)|str (x:Str)|tup (ds:List D)|lst (ds:List D)|DK (x:Str)|Bj (t:Bool) (ks vs:List D)|ins (x:Str) (ns:List Str) (ds:List D)
noncomputable def Dk:Key->D
 | .inl i=>.int i
 | .inr x=>.str x
noncomputable def sW (a c:Addr) (h:Heap):Prop:=∃ o,h.get? a=some o/\o.cls=.ref c/\PySem.W.notCls o=true
mutual
inductive BL (K:za) (H:Hp):V->D->Prop
 |AA:BL K H .AA .AA
 |bl (b):BL K H (.bl b) (.bl b)
 |int (i):BL K H (.int i) (.int i)
 |str (x):BL K H (.str x) (.str x)
 |tup {a xs ds}:H a=some (.tup xs)->Ah K H xs ds->BL K H (.ref a) (.tup ds)
 |lst {a xs ds}:Dm K H a xs->Ah K H xs ds->BL K H (.ref a) (.lst ds)
 |Iq {a kvs ds}:H a=some (.dK kvs)->Ah K H (kvs.map yZ) ds->BL K H (.ref a) (.Bj false (kvs.map fun kv=>Dk kv.1) ds)
 |Ir {a kvs ds}:H a=some (.dT kvs)->Ah K H (kvs.map yZ) ds->BL K H (.ref a) (.Bj true (kvs.map fun kv=>.tup (kv.1.map Dk)) ds)
 |ins {a C dx fs x ds}:zd K mainGlobals x=some (some (.ref C))->H a=some (.ins C dx fs)->Ah K H (fs.map yZ) ds->BL K H (.ref a) (.ins x (fs.map zO) ds)
 |DK {a c x}:zd K mainGlobals x=some (some (.ref c))->H a=some (.ext (sW a c))->BL K H (.ref a) (.DK x)
inductive Ah (K:za) (H:Hp):List V->List D->Prop
 |nil:Ah K H [] []
 |cons {x d xs ds}:BL K H x d->Ah K H xs ds->Ah K H (x::xs) (d::ds)
end
theorem Ah.length {K:za}{H:Hp}:∀ {xs:List V}{ds:List D},Ah K H xs ds->xs.length=ds.length
 |_,_,.nil=>rfl
 |_,_,.cons _ t=>by rw[zo,zo,Ah.length t]
theorem Ah.get {K:za}{H:Hp}:∀ {xs:List V}{ds:List D}{i:Nat}{d:D},Ah K H xs ds->ds[i]? =some d->∃ x,xs[i]? =some x/\BL K H x d
 |_,_,_,_,.nil,e=>by simp at e
 |_,_,0,_,.cons r _,e=>by simp at e;subst e;exact⟨_,rfl,r⟩
 |_,_,i + 1,d,.cons _ t,e=>by
  obtain⟨u,h1,h2⟩:=Ah.get (i:=i) (d:=d) t (by simpa using e)
  exact⟨u,by simpa using h1,h2⟩
theorem Ah.Kn {K:za}{H:Hp}:∀ {xs:List V}{ds:List D}{i:Nat}{x:V},Ah K H xs ds->xs[i]? =some x->∃ d,ds[i]? =some d/\BL K H x d
 |_,_,_,_,.nil,e=>by simp at e
 |_,_,0,_,.cons r _,e=>by simp at e;subst e;exact⟨_,rfl,r⟩
 |_,_,i + 1,d,.cons _ t,e=>by
  obtain⟨u,h1,h2⟩:=Ah.Kn (i:=i) (x:=d) t (by simpa using e)
  exact⟨u,by simpa using h1,h2⟩
theorem Ah.append {K:za}{H:Hp}:∀ {xs ys:List V}{ds es:List D},Ah K H xs ds->Ah K H ys es->Ah K H (xs++ys) (ds++es)
 |_,_,_,_,.nil,h=>h
 |_,_,_,_,.cons r t,h=>.cons r (Ah.append t h)
theorem Ah.snoc {K:za}{H:Hp}{xs:List V}{ds:List D}{x:V}{d:D}(h:Ah K H xs ds) (r:BL K H x d):Ah K H (xs++[x]) (ds++[d]):=h.append (.cons r .nil)
theorem Ah.take {K:za}{H:Hp}:∀ {xs:List V}{ds:List D}(n:Nat),Ah K H xs ds->Ah K H (xs.take n) (ds.take n)
 |_,_,0,_=>.nil
 |_,_,_ + 1,.nil=>.nil
 |_,_,n + 1,.cons r t=>.cons r (Ah.take n t)
theorem Ah.drop {K:za}{H:Hp}:∀ {xs:List V}{ds:List D}(n:Nat),Ah K H xs ds->Ah K H (xs.drop n) (ds.drop n)
 |_,_,0,r=>r
 |_,_,_ + 1,.nil=>.nil
 |_,_,n + 1,.cons _ t=>Ah.drop n t
theorem Ah.ints {K:za}{H:Hp}:∀(ns:List Int),Ah K H (ns.map V.int) (ns.map D.int)
 |[]=>.nil
 |n::r=>.cons (.int n) (Ah.ints r)
theorem Ad.sX {K:za}{H H':Hp}{a:Addr}{xs:List V}(e:Ad H H') (h:Fs K H a xs):Fs K H' a xs:=by
 rcases h with (h|⟨o,h⟩)|h
 ·exact .inl (.inl (e _ _ h))
 ·exact .inl (.inr ⟨o,e _ _ h⟩)
 ·exact .inr h
mutual
theorem BL.mono {K:za}{H H':Hp}(e:Ad H H'):∀ {v:V}{d:D},BL K H v d->BL K H' v d
 |_,_,.AA=>.AA
 |_,_,.bl b=>.bl b
 |_,_,.int i=>.int i
 |_,_,.str x=>.str x
 |_,_,.tup h r=>.tup (e _ _ h) (Ah.mono e r)
 |_,_,.lst h r=>.lst (e.seq h) (Ah.mono e r)
 |_,_,.Iq h r=>.Iq (e _ _ h) (Ah.mono e r)
 |_,_,.Ir h r=>.Ir (e _ _ h) (Ah.mono e r)
 |_,_,.ins n h r=>.ins n (e _ _ h) (Ah.mono e r)
 |_,_,.DK h r=>.DK h (e _ _ r)
theorem Ah.mono {K:za}{H H':Hp}(e:Ad H H'):∀ {vs:List V}{ds:List D},Ah K H vs ds->Ah K H' vs ds
 |_,_,.nil=>.nil
 |_,_,.cons h t=>.cons (BL.mono e h) (Ah.mono e t)
end
theorem AN {H:Hp}{p:Addr}(h:H p=none) (o:HO):Ad H (upd H p o):=fun b u q=>by rw[Ag (Az q h)];exact q
mutual
noncomputable def Aw:D->D->Bool
 | .AA,.AA=>true
 | .bl a,.bl b=>a == b
 | .int a,.int b=>a == b
 | .str a,.str b=>a == b
 | .bl a,.int b=>(if a then 1 else 0) == b
 | .int a,.bl b=>a == (if b then 1 else 0)
 | .tup a,.tup b=>Cv a b
 | .lst a,.lst b=>Cv a b
 | .DK a,.DK b=>a == b
 | .Bj s a b,.Bj t c d=>(s == t) && (Cv a c && Cv b d)
 | .ins x n a,.ins y m b=>(x == y) && ((n == m) && Cv a b)
 |_,_=>false
noncomputable def Cv:List D->List D->Bool
 |[],[]=>true
 |a::r,b::t=>Aw a b && Cv r t
 |_,_=>false
end
mutual
theorem Mm:∀ d:D,Aw d d=true
 | .AA=>by simp[Aw]
 | .bl b=>by simp[Aw]
 | .int b=>by simp[Aw]
 | .str b=>by simp[Aw]
 | .tup b=>by simp only[Aw];exact DL b
 | .lst b=>by simp only[Aw];exact DL b
 | .DK b=>by simp[Aw]
 | .Bj s a b=>by simp only[Aw];rw[DL a,DL b];simp
 | .ins x n a=>by simp only[Aw];rw[DL a];simp
theorem DL:∀ d:List D,Cv d d=true
 |[]=>by simp[Cv]
 |a::r=>by simp only[Cv,Mm a,DL r,Bool.and_true]
end
mutual
noncomputable def AI:D->Bool
 | .tup a=>Mn a
 | .lst a=>Mn a
 | .DK _=>false
 | .Bj _ _ _=>false
 | .ins _ _ _=>false
 |_=>true
noncomputable def Mn:List D->Bool
 |[]=>true
 |a::r=>AI a && Mn r
end
theorem Cb:∀ {ds:List D}{d:D},d∈ds->Mn ds=true->AI d=true
 |a::r,d,h,q=>by
  rw[Mn,zR] at q
  rcases zu.mp h with z|z
  ·subst z;exact q.1
  ·exact Cb z q.2
mutual
noncomputable def IV:D->Nat
 | .tup a=>Lh a + 1
 | .lst a=>Lh a + 1
 |_=>0
noncomputable def Lh:List D->Nat
 |[]=>0
 |a::r=>max (IV a) (Lh r)
end
theorem Fv:∀ {ds:List D}{d:D},d∈ds->IV d<=Lh ds
 |a::r,d,h=>by
  rw[Lh]
  rcases zu.mp h with z|z
  ·subst z;exact Nat.le_max_left _ _
  ·exact yP (Fv z) (Nat.le_max_right _ _)
theorem QW:∀ {a b:List D},Cv a b=true->a.length=b.length
 |[],[],_=>rfl
 |[],_::_,h=>by simp[Cv] at h
 |_::_,[],h=>by simp[Cv] at h
 |a::r,b::t,h=>by
  simp only[Cv,zR] at h
  rw[zo,zo,QW h.2]
theorem E9:∀(a b:List D),a.length=b.length->(yR a.length).all (fun j=>Aw (a.getD j .AA) (b.getD j .AA))=Cv a b
 |[],[],_=>by simp[Cv]
 |a::r,b::t,h=>by
  have ih:=E9 r t (by simpa using h)
  rw[zo,List.range_succ_eq_map,List.all_cons,List.all_map,Cv,<-ih]
  simp[Function.comp_def]
 |[],_::_,h=>by cases h
 |_::_,[],h=>by cases h
theorem Lq {a b:List D}(h:a.length≠b.length):Cv a b=false:=by
 cases e:Cv a b with
 |false=>rfl
 |true=>exact absurd (QW e) h
theorem Mo (a b:List D):((yR (min a.length b.length)).all (fun j=>Aw (a.getD j .AA) (b.getD j .AA)) && (a.length == b.length))=Cv a b:=by
 by_cases h:a.length=b.length
 ·rw[<-E9 a b h,h];simp
 ·rw[Lq h,beq_false_of_ne h,Bool.and_false]
section
variable {X:Cx}{pins:List (Addr×Obj)}{σ:St}{H:Hp}{s:Shared}
theorem Uh (I:Inv X pins σ H s){a:Addr}{xs ys:List V}(h:Dm X.K H a xs) (h':Fs X.K H a ys):False:=by
 obtain⟨aa,_,⟨o,n,e,c,_,_⟩,_⟩:=I.list h
 obtain⟨its',_,⟨o',e',c',_⟩,_⟩:=I.tuple h'
 rw[e] at e';cases e'
 rw[c] at c'
 revert c';decide
mutual
theorem ZT (I:Inv X pins σ H s):∀ {v:V}{d d':D},AI d=true->AI d'=true->BL X.K H v d->BL X.K H v d'->d=d'
 |_,_,_,_,_,.AA,.AA=>rfl
 |_,_,_,_,_,.bl _,.bl _=>rfl
 |_,_,_,_,_,.int _,.int _=>rfl
 |_,_,_,_,_,.str _,.str _=>rfl
 |_,_,_,n1,n2,.tup h r,.tup h' r'=>by
  have e:=I.Hh (.of h) (.of h')
  subst e
  rw[Gs I (by rw[AI] at n1;exact n1) (by rw[AI] at n2;exact n2) r r']
 |_,_,_,n1,n2,.lst h r,.lst h' r'=>by
  have e:=I.Gj h h'
  subst e
  rw[Gs I (by rw[AI] at n1;exact n1) (by rw[AI] at n2;exact n2) r r']
 |_,_,_,_,_,.tup h _,.lst h' _=>(Uh I h' (.of h)).elim
 |_,_,_,_,_,.lst h _,.tup h' _=>(Uh I h (.of h')).elim
 |_,_,_,n1,_,.DK _ _,_=>by rw[AI] at n1;cases n1
 |_,_,_,n1,_,.Iq _ _,_=>by rw[AI] at n1;cases n1
 |_,_,_,n1,_,.Ir _ _,_=>by rw[AI] at n1;cases n1
 |_,_,_,n1,_,.ins _ _ _,_=>by rw[AI] at n1;cases n1
 |_,_,_,_,n2,_,.DK _ _=>by rw[AI] at n2;cases n2
 |_,_,_,_,n2,_,.Iq _ _=>by rw[AI] at n2;cases n2
 |_,_,_,_,n2,_,.Ir _ _=>by rw[AI] at n2;cases n2
 |_,_,_,_,n2,_,.ins _ _ _=>by rw[AI] at n2;cases n2
theorem Gs (I:Inv X pins σ H s):∀ {v:List V}{d d':List D},Mn d=true->Mn d'=true->Ah X.K H v d->Ah X.K H v d'->d=d'
 |_,_,_,_,_,.nil,.nil=>rfl
 |_,_,_,n1,n2,.cons h r,.cons h' r'=>by
  rw[Mn,zR] at n1 n2
  rw[ZT I n1.1 n2.1 h h',Gs I n1.2 n2.2 r r']
end
theorem WE {xs:List V}{aa:List Value}(r:Vals xs aa) (j:Nat) (h:j < aa.toArray.size):∃ x,xs[j]? =some x/\RelV x aa.toArray[j]:=by
 have h':j < aa.length:=by simpa using h
 have hx:j < xs.length:=by rw[r.length];exact h'
 obtain⟨u,hu,ru⟩:=r.get (zq hx)
 rw[zq h'] at hu
 refine⟨xs[j],zq hx,?_⟩
 have e:aa.toArray[j]=u:=by simpa using hu
 rw[e];exact ru
theorem Cr {ds:List D}{j:Nat}{d:D}(h:ds[j]? =some d):ds.getD j .AA=d:=by rw[zC,h];rfl
theorem Ph (I:Inv X pins σ H s):∀(n:Nat) (A:Around) (d e:D) (v w:V) (u1 u2:Value),IV d<=n->AI d=true->AI e=true->A.units + n < cLine->BL X.K H v d->BL X.K H w e->RelV v u1->RelV w u2->SeqAt.EqAt A s u1 u2 (Aw d e):=by
 intro n
 induction n with
 |zero =>
  intro A d e v w u1 u2 hd av ag hu h1 h2 r1 r2
  have ak:A.units < cLine:=by omega
  cases h1 with
  |DK _ _=>simp[AI] at av
  |Iq _ _=>simp[AI] at av
  |Ir _ _=>simp[AI] at av
  |ins _ _ _=>simp[AI] at av
  |AA =>
   cases r1
   cases h2 with
   |DK _ _=>simp[AI] at ag
   |Iq _ _=>simp[AI] at ag
   |Ir _ _=>simp[AI] at ag
   |ins _ _ _=>simp[AI] at ag
   |AA=>cases r2;simp only[Aw];exact .same _
   |bl b=>cases r2;simp only[Aw];exact .none_bool _
   |int b=>obtain⟨t,rfl⟩:=r2;simp only[Aw];exact .none_int _ _
   |str b=>obtain⟨t,rfl⟩:=r2;simp only[Aw];exact .none_str _ _
   |tup h r=>cases r2;simp only[Aw];obtain⟨_,_,p,_⟩:=I.tuple (.of h);exact .none_tuple p ak
   |lst h r=>cases r2;simp only[Aw];obtain⟨_,_,p,_⟩:=I.list h;exact .none_list p.isList ak
  |bl a =>
   cases r1
   cases h2 with
   |DK _ _=>simp[AI] at ag
   |Iq _ _=>simp[AI] at ag
   |Ir _ _=>simp[AI] at ag
   |ins _ _ _=>simp[AI] at ag
   |AA=>cases r2;simp only[Aw];exact .bool_none _
   |bl b=>cases r2;simp only[Aw];exact .bool_bool _ _
   |int b=>obtain⟨t,rfl⟩:=r2;simp only[Aw];exact .bool_int _ _ _
   |str b=>obtain⟨t,rfl⟩:=r2;simp only[Aw];exact .bool_str _ _ _
   |tup h r=>cases r2;simp only[Aw];obtain⟨_,_,p,_⟩:=I.tuple (.of h);exact .bool_tuple _ p ak
   |lst h r=>cases r2;simp only[Aw];obtain⟨_,_,p,_⟩:=I.list h;exact .bool_list _ p.isList ak
  |int a =>
   obtain⟨t',rfl⟩:=r1
   cases h2 with
   |DK _ _=>simp[AI] at ag
   |Iq _ _=>simp[AI] at ag
   |Ir _ _=>simp[AI] at ag
   |ins _ _ _=>simp[AI] at ag
   |AA=>cases r2;simp only[Aw];exact .int_none _ _
   |bl b=>cases r2;simp only[Aw];exact .int_bool _ _ _
   |int b=>obtain⟨t,rfl⟩:=r2;simp only[Aw];exact .int_int _ _ _ _
   |str b=>obtain⟨t,rfl⟩:=r2;simp only[Aw];exact .int_str _ _ _ _
   |tup h r=>cases r2;simp only[Aw];obtain⟨_,_,p,_⟩:=I.tuple (.of h);exact .int_tuple _ _ p ak
   |lst h r=>cases r2;simp only[Aw];obtain⟨_,_,p,_⟩:=I.list h;exact .int_list _ _ p.isList ak
  |str a =>
   obtain⟨t',rfl⟩:=r1
   cases h2 with
   |DK _ _=>simp[AI] at ag
   |Iq _ _=>simp[AI] at ag
   |Ir _ _=>simp[AI] at ag
   |ins _ _ _=>simp[AI] at ag
   |AA=>cases r2;simp only[Aw];exact .str_none _ _
   |bl b=>cases r2;simp only[Aw];exact .str_bool _ _ _
   |int b=>obtain⟨t,rfl⟩:=r2;simp only[Aw];exact .str_int _ _ _ _
   |str b=>obtain⟨t,rfl⟩:=r2;simp only[Aw];exact .str_str _ _ _ _
   |tup h r=>cases r2;simp only[Aw];obtain⟨_,_,p,_⟩:=I.tuple (.of h);exact .str_tuple _ _ p ak
   |lst h r=>cases r2;simp only[Aw];obtain⟨_,_,p,_⟩:=I.list h;exact .str_list _ _ p.isList ak
  |tup h r=>rw[IV] at hd;omega
  |lst h r=>rw[IV] at hd;omega
 |succ n ih =>
  intro A d e v w u1 u2 hd av ag hu h1 h2 r1 r2
  have ak:A.units < cLine:=by omega
  have u8:A.in1.units + n < cLine:=by show A.units + 1 + n < cLine;omega
  by_cases jf:IV d<=n
  ·exact ih A d e v w u1 u2 jf av ag (by omega) h1 h2 r1 r2
  cases h1 with
  |DK _ _=>simp[AI] at av
  |Iq _ _=>simp[AI] at av
  |Ir _ _=>simp[AI] at av
  |ins _ _ _=>simp[AI] at av
  |AA=>exact absurd (by simp[IV]) jf
  |bl _=>exact absurd (by simp[IV]) jf
  |int _=>exact absurd (by simp[IV]) jf
  |str _=>exact absurd (by simp[IV]) jf
  | @tup a xs ds h r =>
   cases r1
   obtain⟨aa,rv,p,_⟩:=I.tuple (.of h)
   cases h2 with
   |DK _ _=>simp[AI] at ag
   |Iq _ _=>simp[AI] at ag
   |Ir _ _=>simp[AI] at ag
   |ins _ _ _=>simp[AI] at ag
   |AA=>cases r2;simp only[Aw];exact .tuple_none p ak
   |bl b=>cases r2;simp only[Aw];exact .tuple_bool _ p ak
   |int b=>obtain⟨t,rfl⟩:=r2;simp only[Aw];exact .tuple_int _ _ p ak
   |str b=>obtain⟨t,rfl⟩:=r2;simp only[Aw];exact .tuple_str _ _ p ak
   | @lst a2 c8 es h' r'=>cases r2;simp only[Aw];obtain⟨_,_,p',_⟩:=I.list h';exact .tuple_list p p'.isList ak
   | @tup a2 c8 es h' r' =>
    cases r2
    by_cases ha:a=a2
    ·subst ha
     have e':=I.Hh (.of h) (.of h')
     subst e'
     have e2:=Gs I (by rw[AI] at av;exact av) (by rw[AI] at ag;exact ag) r r'
     subst e2
     rw[Mm]
     exact .same _
    ·obtain⟨its',bj,p',_⟩:=I.tuple (.of h')
     refine .of_refs ha ?_
     have q:=SeqAt.RcAt.tuples (A:=A) (e:=fun j=>Aw (ds.getD j .AA) (es.getD j .AA)) p p' ak fun j h1 h2=>?_
     ·have z1:aa.toArray.size=ds.length:=by rw[zk,<-rv.length,r.length]
      have z2:its'.toArray.size=es.length:=by rw[zk,<-bj.length,r'.length]
      rw[z1,z2,Mo] at q
      simp only[Aw]
      exact q
     ·obtain⟨x,hx,rx⟩:=WE rv j h1
      obtain⟨y,hy,ry⟩:=WE bj j h2
      obtain⟨dx,ex,c9⟩:=r.Kn hx
      obtain⟨dy,ey,cA⟩:=r'.Kn hy
      rw[Cr ex,Cr ey]
      refine ih A.in1 dx dy x y _ _ ?_ (Cb (zj ex) (by rw[AI] at av;exact av)) (Cb (zj ey) (by rw[AI] at ag;exact ag)) u8 c9 cA rx ry
      rw[IV] at hd
      have:=Fv (zj ex)
      omega
  | @lst a xs ds h r =>
   cases r1
   obtain⟨aa,rv,p,_⟩:=I.list h
   cases h2 with
   |DK _ _=>simp[AI] at ag
   |Iq _ _=>simp[AI] at ag
   |Ir _ _=>simp[AI] at ag
   |ins _ _ _=>simp[AI] at ag
   |AA=>cases r2;simp only[Aw];exact .list_none p.isList ak
   |bl b=>cases r2;simp only[Aw];exact .list_bool _ p.isList ak
   |int b=>obtain⟨t,rfl⟩:=r2;simp only[Aw];exact .list_int _ _ p.isList ak
   |str b=>obtain⟨t,rfl⟩:=r2;simp only[Aw];exact .list_str _ _ p.isList ak
   | @tup a2 c8 es h' r'=>cases r2;simp only[Aw];obtain⟨_,_,p',_⟩:=I.tuple (.of h');exact .list_tuple p.isList p' ak
   | @lst a2 c8 es h' r' =>
    cases r2
    by_cases ha:a=a2
    ·subst ha
     have e':=I.Gj h h'
     subst e'
     have e2:=Gs I (by rw[AI] at av;exact av) (by rw[AI] at ag;exact ag) r r'
     subst e2
     rw[Mm]
     exact .same _
    ·obtain⟨its',bj,p',_⟩:=I.list h'
     refine .of_refs ha ?_
     have z1:aa.toArray.size=ds.length:=by rw[zk,<-rv.length,r.length]
     have z2:its'.toArray.size=es.length:=by rw[zk,<-bj.length,r'.length]
     by_cases hz:aa.toArray.size=its'.toArray.size
     ·have q:=SeqAt.RcAt.lists (A:=A) (e:=fun j=>Aw (ds.getD j .AA) (es.getD j .AA)) p.isList p'.isList hz ak fun j h1 h2=>?_
      ·rw[z1,E9 ds es (by rw[<-z1,<-z2,hz])] at q
       simp only[Aw]
       exact q
      ·obtain⟨x,hx,rx⟩:=WE rv j h1
       obtain⟨y,hy,ry⟩:=WE bj j h2
       obtain⟨dx,ex,c9⟩:=r.Kn hx
       obtain⟨dy,ey,cA⟩:=r'.Kn hy
       rw[Cr ex,Cr ey]
       refine ih A.in1 dx dy x y _ _ ?_ (Cb (zj ex) (by rw[AI] at av;exact av)) (Cb (zj ey) (by rw[AI] at ag;exact ag)) u8 c9 cA rx ry
       rw[IV] at hd
       have:=Fv (zj ex)
       omega
     ·have q:=SeqAt.RcAt.lists_lengths (A:=A) p.isList p'.isList (by simpa using hz) ak
      simp only[Aw]
      rw[Lq (by rw[<-z1,<-z2];exact hz)]
      exact q
theorem sY (I:Inv X pins σ H s) (A:Around) (d e:D) (v w:V) (u1 u2:Value) (hd:A.units + IV d < cLine) (av:AI d=true) (ag:AI e=true) (h1:BL X.K H v d) (h2:BL X.K H w e) (r1:RelV v u1) (r2:RelV w u2):SeqAt.RcAt A s u1 u2 (Aw d e):=by
 have ak:A.units < cLine:=by omega
 cases h1 with
 |DK _ _=>simp[AI] at av
 |Iq _ _=>simp[AI] at av
 |Ir _ _=>simp[AI] at av
 |ins _ _ _=>simp[AI] at av
 |AA =>
  cases r1
  cases h2 with
  |DK _ _=>simp[AI] at ag
  |Iq _ _=>simp[AI] at ag
  |Ir _ _=>simp[AI] at ag
  |ins _ _ _=>simp[AI] at ag
  |AA=>cases r2;simp only[Aw];exact .none_none
  |bl b=>cases r2;simp only[Aw];exact .none_bool _
  |int b=>obtain⟨t,rfl⟩:=r2;simp only[Aw];exact .none_int _ _
  |str b=>obtain⟨t,rfl⟩:=r2;simp only[Aw];exact .none_str _ _
  |tup h r=>cases r2;simp only[Aw];obtain⟨_,_,p,_⟩:=I.tuple (.of h);exact .none_tuple  p ak
  |lst h r=>cases r2;simp only[Aw];obtain⟨_,_,p,_⟩:=I.list h;exact .none_list  p.isList ak
 |bl a =>
  cases r1
  cases h2 with
  |DK _ _=>simp[AI] at ag
  |Iq _ _=>simp[AI] at ag
  |Ir _ _=>simp[AI] at ag
  |ins _ _ _=>simp[AI] at ag
  |AA=>cases r2;simp only[Aw];exact .bool_none _
  |bl b=>cases r2;simp only[Aw];exact .bool_bool _ _
  |int b=>obtain⟨t,rfl⟩:=r2;simp only[Aw];exact .bool_int _ _ _
  |str b=>obtain⟨t,rfl⟩:=r2;simp only[Aw];exact .bool_str _ _ _
  |tup h r=>cases r2;simp only[Aw];obtain⟨_,_,p,_⟩:=I.tuple (.of h);exact .bool_tuple _ p ak
  |lst h r=>cases r2;simp only[Aw];obtain⟨_,_,p,_⟩:=I.list h;exact .bool_list _ p.isList ak
 |int a =>
  obtain⟨t',rfl⟩:=r1
  cases h2 with
  |DK _ _=>simp[AI] at ag
  |Iq _ _=>simp[AI] at ag
  |Ir _ _=>simp[AI] at ag
  |ins _ _ _=>simp[AI] at ag
  |AA=>cases r2;simp only[Aw];exact .int_none _ _
  |bl b=>cases r2;simp only[Aw];exact .int_bool _ _ _
  |int b=>obtain⟨t,rfl⟩:=r2;simp only[Aw];exact .int_int _ _ _ _
  |str b=>obtain⟨t,rfl⟩:=r2;simp only[Aw];exact .int_str _ _ _ _
  |tup h r=>cases r2;simp only[Aw];obtain⟨_,_,p,_⟩:=I.tuple (.of h);exact .int_tuple _ _ p ak
  |lst h r=>cases r2;simp only[Aw];obtain⟨_,_,p,_⟩:=I.list h;exact .int_list _ _ p.isList ak
 |str a =>
  obtain⟨t',rfl⟩:=r1
  cases h2 with
  |DK _ _=>simp[AI] at ag
  |Iq _ _=>simp[AI] at ag
  |Ir _ _=>simp[AI] at ag
  |ins _ _ _=>simp[AI] at ag
  |AA=>cases r2;simp only[Aw];exact .str_none _ _
  |bl b=>cases r2;simp only[Aw];exact .str_bool _ _ _
  |int b=>obtain⟨t,rfl⟩:=r2;simp only[Aw];exact .str_int _ _ _ _
  |str b=>obtain⟨t,rfl⟩:=r2;simp only[Aw];exact .str_str _ _ _ _
  |tup h r=>cases r2;simp only[Aw];obtain⟨_,_,p,_⟩:=I.tuple (.of h);exact .str_tuple _ _ p ak
  |lst h r=>cases r2;simp only[Aw];obtain⟨_,_,p,_⟩:=I.list h;exact .str_list _ _ p.isList ak
 | @tup a xs ds h r =>
  cases r1
  obtain⟨aa,rv,p,_⟩:=I.tuple (.of h)
  cases h2 with
  |DK _ _=>simp[AI] at ag
  |Iq _ _=>simp[AI] at ag
  |Ir _ _=>simp[AI] at ag
  |ins _ _ _=>simp[AI] at ag
  |AA=>cases r2;simp only[Aw];exact .tuple_none  p ak
  |bl b=>cases r2;simp only[Aw];exact .tuple_bool _ p ak
  |int b=>obtain⟨t,rfl⟩:=r2;simp only[Aw];exact .tuple_int _ _ p ak
  |str b=>obtain⟨t,rfl⟩:=r2;simp only[Aw];exact .tuple_str _ _ p ak
  | @lst a2 c8 es h' r'=>cases r2;simp only[Aw];obtain⟨_,_,p',_⟩:=I.list h';exact .tuple_list p p'.isList ak
  | @tup a2 c8 es h' r' =>
   cases r2
   obtain⟨its',bj,p',_⟩:=I.tuple (.of h')
   have z1:aa.toArray.size=ds.length:=by rw[zk,<-rv.length,r.length]
   have z2:its'.toArray.size=es.length:=by rw[zk,<-bj.length,r'.length]
   have q:=SeqAt.RcAt.tuples (A:=A) (e:=fun j=>Aw (ds.getD j .AA) (es.getD j .AA)) p p' ak fun j h1 h2=>?_
   ·rw[z1,z2,Mo] at q
    simp only[Aw]
    exact q
   ·obtain⟨x,hx,rx⟩:=WE rv j h1
    obtain⟨y,hy,ry⟩:=WE bj j h2
    obtain⟨dx,ex,c9⟩:=r.Kn hx
    obtain⟨dy,ey,cA⟩:=r'.Kn hy
    rw[Cr ex,Cr ey]
    rw[IV] at hd
    have:=Fv (zj ex)
    exact Ph I (Lh ds) A.in1 dx dy x y _ _ this (Cb (zj ex) (by rw[AI] at av;exact av)) (Cb (zj ey) (by rw[AI] at ag;exact ag)) (by show A.units + 1 + _ < cLine;omega) c9 cA rx ry
 | @lst a xs ds h r =>
  cases r1
  obtain⟨aa,rv,p,_⟩:=I.list h
  cases h2 with
  |DK _ _=>simp[AI] at ag
  |Iq _ _=>simp[AI] at ag
  |Ir _ _=>simp[AI] at ag
  |ins _ _ _=>simp[AI] at ag
  |AA=>cases r2;simp only[Aw];exact .list_none  p.isList ak
  |bl b=>cases r2;simp only[Aw];exact .list_bool _ p.isList ak
  |int b=>obtain⟨t,rfl⟩:=r2;simp only[Aw];exact .list_int _ _ p.isList ak
  |str b=>obtain⟨t,rfl⟩:=r2;simp only[Aw];exact .list_str _ _ p.isList ak
  | @tup a2 c8 es h' r'=>cases r2;simp only[Aw];obtain⟨_,_,p',_⟩:=I.tuple (.of h');exact .list_tuple p.isList p' ak
  | @lst a2 c8 es h' r' =>
   cases r2
   obtain⟨its',bj,p',_⟩:=I.list h'
   have z1:aa.toArray.size=ds.length:=by rw[zk,<-rv.length,r.length]
   have z2:its'.toArray.size=es.length:=by rw[zk,<-bj.length,r'.length]
   by_cases hz:aa.toArray.size=its'.toArray.size
   ·have q:=SeqAt.RcAt.lists (A:=A) (e:=fun j=>Aw (ds.getD j .AA) (es.getD j .AA)) p.isList p'.isList hz ak fun j h1 h2=>?_
    ·rw[z1,E9 ds es (by rw[<-z1,<-z2,hz])] at q
     simp only[Aw]
     exact q
    ·obtain⟨x,hx,rx⟩:=WE rv j h1
     obtain⟨y,hy,ry⟩:=WE bj j h2
     obtain⟨dx,ex,c9⟩:=r.Kn hx
     obtain⟨dy,ey,cA⟩:=r'.Kn hy
     rw[Cr ex,Cr ey]
     rw[IV] at hd
     have:=Fv (zj ex)
     exact Ph I (Lh ds) A.in1 dx dy x y _ _ this (Cb (zj ex) (by rw[AI] at av;exact av)) (Cb (zj ey) (by rw[AI] at ag;exact ag)) (by show A.units + 1 + _ < cLine;omega) c9 cA rx ry
   ·have q:=SeqAt.RcAt.lists_lengths (A:=A) p.isList p'.isList (by simpa using hz) ak
    simp only[Aw]
    rw[Lq (by rw[<-z1,<-z2];exact hz)]
    exact q
theorem pE (I:Inv X pins σ H s) (A:Around) (d e:D) (v w:V) (u1 u2:Value) (hd:A.units + IV d < cLine) (av:AI d=true) (ag:AI e=true) (h1:BL X.K H v d) (h2:BL X.K H w e) (r1:RelV v u1) (r2:RelV w u2):SeqAt.RcNeAt A s u1 u2 (!Aw d e):=by
 have ak:A.units < cLine:=by omega
 cases h1 with
 |DK _ _=>simp[AI] at av
 |Iq _ _=>simp[AI] at av
 |Ir _ _=>simp[AI] at av
 |ins _ _ _=>simp[AI] at av
 |AA =>
  cases r1
  cases h2 with
  |DK _ _=>simp[AI] at ag
  |Iq _ _=>simp[AI] at ag
  |Ir _ _=>simp[AI] at ag
  |ins _ _ _=>simp[AI] at ag
  |AA=>cases r2;simp only[Aw];exact .none_none
  |bl b=>cases r2;simp only[Aw];exact .none_bool _
  |int b=>obtain⟨t,rfl⟩:=r2;simp only[Aw];exact .none_int _ _
  |str b=>obtain⟨t,rfl⟩:=r2;simp only[Aw];exact .none_str _ _
  |tup h r=>cases r2;simp only[Aw];obtain⟨_,_,p,_⟩:=I.tuple (.of h);exact .none_tuple  p ak
  |lst h r=>cases r2;simp only[Aw];obtain⟨_,_,p,_⟩:=I.list h;exact .none_list  p.isList ak
 |bl a =>
  cases r1
  cases h2 with
  |DK _ _=>simp[AI] at ag
  |Iq _ _=>simp[AI] at ag
  |Ir _ _=>simp[AI] at ag
  |ins _ _ _=>simp[AI] at ag
  |AA=>cases r2;simp only[Aw];exact .bool_none _
  |bl b=>cases r2;simp only[Aw];exact .bool_bool _ _
  |int b=>obtain⟨t,rfl⟩:=r2;simp only[Aw];exact .bool_int _ _ _
  |str b=>obtain⟨t,rfl⟩:=r2;simp only[Aw];exact .bool_str _ _ _
  |tup h r=>cases r2;simp only[Aw];obtain⟨_,_,p,_⟩:=I.tuple (.of h);exact .bool_tuple _ p ak
  |lst h r=>cases r2;simp only[Aw];obtain⟨_,_,p,_⟩:=I.list h;exact .bool_list _ p.isList ak
 |int a =>
  obtain⟨t',rfl⟩:=r1
  cases h2 with
  |DK _ _=>simp[AI] at ag
  |Iq _ _=>simp[AI] at ag
  |Ir _ _=>simp[AI] at ag
  |ins _ _ _=>simp[AI] at ag
  |AA=>cases r2;simp only[Aw];exact .int_none _ _
  |bl b=>cases r2;simp only[Aw];exact .int_bool _ _ _
  |int b=>obtain⟨t,rfl⟩:=r2;simp only[Aw];exact .int_int _ _ _ _
  |str b=>obtain⟨t,rfl⟩:=r2;simp only[Aw];exact .int_str _ _ _ _
  |tup h r=>cases r2;simp only[Aw];obtain⟨_,_,p,_⟩:=I.tuple (.of h);exact .int_tuple _ _ p ak
  |lst h r=>cases r2;simp only[Aw];obtain⟨_,_,p,_⟩:=I.list h;exact .int_list _ _ p.isList ak
 |str a =>
  obtain⟨t',rfl⟩:=r1
  cases h2 with
  |DK _ _=>simp[AI] at ag
  |Iq _ _=>simp[AI] at ag
  |Ir _ _=>simp[AI] at ag
  |ins _ _ _=>simp[AI] at ag
  |AA=>cases r2;simp only[Aw];exact .str_none _ _
  |bl b=>cases r2;simp only[Aw];exact .str_bool _ _ _
  |int b=>obtain⟨t,rfl⟩:=r2;simp only[Aw];exact .str_int _ _ _ _
  |str b=>obtain⟨t,rfl⟩:=r2;simp only[Aw];exact .str_str _ _ _ _
  |tup h r=>cases r2;simp only[Aw];obtain⟨_,_,p,_⟩:=I.tuple (.of h);exact .str_tuple _ _ p ak
  |lst h r=>cases r2;simp only[Aw];obtain⟨_,_,p,_⟩:=I.list h;exact .str_list _ _ p.isList ak
 | @tup a xs ds h r =>
  cases r1
  obtain⟨aa,rv,p,_⟩:=I.tuple (.of h)
  cases h2 with
  |DK _ _=>simp[AI] at ag
  |Iq _ _=>simp[AI] at ag
  |Ir _ _=>simp[AI] at ag
  |ins _ _ _=>simp[AI] at ag
  |AA=>cases r2;simp only[Aw];exact .tuple_none  p ak
  |bl b=>cases r2;simp only[Aw];exact .tuple_bool _ p ak
  |int b=>obtain⟨t,rfl⟩:=r2;simp only[Aw];exact .tuple_int _ _ p ak
  |str b=>obtain⟨t,rfl⟩:=r2;simp only[Aw];exact .tuple_str _ _ p ak
  | @lst a2 c8 es h' r'=>cases r2;simp only[Aw];obtain⟨_,_,p',_⟩:=I.list h';exact .tuple_list p p'.isList ak
  | @tup a2 c8 es h' r' =>
   cases r2
   obtain⟨its',bj,p',_⟩:=I.tuple (.of h')
   have z1:aa.toArray.size=ds.length:=by rw[zk,<-rv.length,r.length]
   have z2:its'.toArray.size=es.length:=by rw[zk,<-bj.length,r'.length]
   have q:=SeqAt.RcNeAt.tuples (A:=A) (e:=fun j=>Aw (ds.getD j .AA) (es.getD j .AA)) p p' ak fun j h1 h2=>?_
   ·rw[z1,z2,Mo] at q
    simp only[Aw]
    exact q
   ·obtain⟨x,hx,rx⟩:=WE rv j h1
    obtain⟨y,hy,ry⟩:=WE bj j h2
    obtain⟨dx,ex,c9⟩:=r.Kn hx
    obtain⟨dy,ey,cA⟩:=r'.Kn hy
    rw[Cr ex,Cr ey]
    rw[IV] at hd
    have:=Fv (zj ex)
    exact Ph I (Lh ds) A.in1 dx dy x y _ _ this (Cb (zj ex) (by rw[AI] at av;exact av)) (Cb (zj ey) (by rw[AI] at ag;exact ag)) (by show A.units + 1 + _ < cLine;omega) c9 cA rx ry
 | @lst a xs ds h r =>
  cases r1
  obtain⟨aa,rv,p,_⟩:=I.list h
  cases h2 with
  |DK _ _=>simp[AI] at ag
  |Iq _ _=>simp[AI] at ag
  |Ir _ _=>simp[AI] at ag
  |ins _ _ _=>simp[AI] at ag
  |AA=>cases r2;simp only[Aw];exact .list_none  p.isList ak
  |bl b=>cases r2;simp only[Aw];exact .list_bool _ p.isList ak
  |int b=>obtain⟨t,rfl⟩:=r2;simp only[Aw];exact .list_int _ _ p.isList ak
  |str b=>obtain⟨t,rfl⟩:=r2;simp only[Aw];exact .list_str _ _ p.isList ak
  | @tup a2 c8 es h' r'=>cases r2;simp only[Aw];obtain⟨_,_,p',_⟩:=I.tuple (.of h');exact .list_tuple p.isList p' ak
  | @lst a2 c8 es h' r' =>
   cases r2
   obtain⟨its',bj,p',_⟩:=I.list h'
   have z1:aa.toArray.size=ds.length:=by rw[zk,<-rv.length,r.length]
   have z2:its'.toArray.size=es.length:=by rw[zk,<-bj.length,r'.length]
   by_cases hz:aa.toArray.size=its'.toArray.size
   ·have q:=SeqAt.RcNeAt.lists (A:=A) (e:=fun j=>Aw (ds.getD j .AA) (es.getD j .AA)) p.isList p'.isList hz ak fun j h1 h2=>?_
    ·rw[z1,E9 ds es (by rw[<-z1,<-z2,hz])] at q
     simp only[Aw]
     exact q
    ·obtain⟨x,hx,rx⟩:=WE rv j h1
     obtain⟨y,hy,ry⟩:=WE bj j h2
     obtain⟨dx,ex,c9⟩:=r.Kn hx
     obtain⟨dy,ey,cA⟩:=r'.Kn hy
     rw[Cr ex,Cr ey]
     rw[IV] at hd
     have:=Fv (zj ex)
     exact Ph I (Lh ds) A.in1 dx dy x y _ _ this (Cb (zj ex) (by rw[AI] at av;exact av)) (Cb (zj ey) (by rw[AI] at ag;exact ag)) (by show A.units + 1 + _ < cLine;omega) c9 cA rx ry
   ·have q:=SeqAt.RcNeAt.lists_lengths (A:=A) p.isList p'.isList (by simpa using hz) ak
    simp only[Aw]
    rw[Lq (by rw[<-z1,<-z2];exact hz)]
    exact q
noncomputable def ZU (K:za) (A:Around) (neg:Bool):R2:=fun x y H Q=>∃ d e,BL K H x d/\BL K H y e/\A.units + IV d < cLine/\AI d=true/\AI e=true/\Q (.bl (if neg=true then !Aw d e else Aw d e)) H
theorem Xm:Gm X (compareOp .Eq) (ZU X.K X.A false):=by
 intro pins s σ H x y v u Q I rx ry h
 obtain⟨d,e,hd,he,hu,n1,n2,q⟩:=h
 exact sY I X.A d e x y v u hu n1 n2 hd he rx ry X.prog X.w X.xe _ ⟨.bl _,H,I,rfl,q⟩
theorem kJ:Gm X (compareOp .NotEq) (ZU X.K X.A true):=by
 intro pins s σ H x y v u Q I rx ry h
 obtain⟨d,e,hd,he,hu,n1,n2,q⟩:=h
 exact pE I X.A d e x y v u hu n1 n2 hd he rx ry X.prog X.w X.xe _ ⟨.bl _,H,I,rfl,q⟩
end
end L2
namespace L2
open PySem PySem.Spec PyProof.Rows
inductive OT where
 |sh (d:D)|lst (ts:List OT)|tup (ts:List OT)|Bj (t:Bool) (ks:List D) (ts:List OT)|ins (x:Str) (ns:List Str) (ts:List OT)
inductive Ow where
 |rows (C3:List (List D))
 |Lr (p:Nat) (ds:List D)
 |tree (p:Option Nat) (t:OT)
inductive Cl where
 |val (d:D)|own (ds:List D)|ow (o:Ow)
noncomputable abbrev Ab:=List (Option Cl)
inductive M (α:Type) where
 |ok (a:α)|ex (c:Str)|bad
noncomputable def M.bind {α β:Type}(m:M α) (k:α->M β):M β:=match m with
 | .ok a=>k a
 | .ex c=>.ex c
 | .bad=>.bad
@[simp] theorem M.A8 {α β:Type}(a:α) (k:α->M β):(M.ok a).bind k=k a:=rfl
noncomputable def del (H:Hp) (P:Addr->Prop):Hp:=fun a=>open Classical in if P a then none else H a
theorem Ax {H:Hp}{P:Addr->Prop}{a:Addr}(h:¬ P a):del H P a=H a:=by unfold del;rw[if_neg h]
theorem D2 {H:Hp}{P:Addr->Prop}{a:Addr}(h:P a):del H P a=none:=by unfold del;rw[if_pos h]
theorem Am {H:Hp}{P:Addr->Prop}{a:Addr}{o:HO}(h:del H P a=some o):¬ P a/\H a=some o:=by
 by_cases hp:P a
 ·rw[D2 hp] at h;cases h
 ·rw[Ax hp] at h;exact⟨hp,h⟩
theorem Ad.del {H H':Hp}{P:Addr->Prop}(e:Ad H H'):Ad (del H P) (del H' P):=fun b o h=>by
 obtain⟨h1,h2⟩:=Am h
 rw[Ax h1];exact e b o h2
theorem CI {H:Hp}{P P':Addr->Prop}(h:∀ a,P' a->P a):Ad (L2.del H P) (L2.del H P'):=fun b o e=>by
 obtain⟨h1,h2⟩:=Am e
 rw[Ax fun z=>h1 (h b z)];exact h2
theorem Ea {H:Hp}{P:Addr->Prop}:Ad (L2.del H P) H:=fun b o e=>(Am e).2
noncomputable def Dp (H:Hp) (a:Addr):Prop:=∃ o,H a=some o/\∀ xs,o≠.tup xs/\∀ z,o≠.Vj z (.tup xs)
theorem Dp.same {H H':Hp}{a:Addr}(h:Dp H a) (e:Ad H H'):Dp H' a:=let ⟨o,q,r⟩:=h;⟨o,e a o q,r⟩
theorem Dp.no {H:Hp}{a:Addr}(h:Dp H a) (e:H a=none):False:=by
 obtain⟨o,q,r⟩:=h
 rw[e] at q;cases q
theorem Dp.lst {H:Hp}{a:Addr}{xs:List V}(h:H a=some (.lst xs)):Dp H a:=⟨_,h,fun _=>⟨fun z=>(by cases z),fun _ z=>by cases z⟩⟩
mutual
inductive C4 (K:za) (H:Hp) (P:Addr->Prop):V->OT->List Addr->Prop
 |sh {v d}:BL K (del H P) v d->C4 K H P v (.sh d) []
 |lst {p xs ts fp}:H p=some (.lst xs)->AJ K H P xs ts fp->C4 K H P (.ref p) (.lst ts) (p::fp)
 |tup {p xs ts fp}:del H P p=some (.tup xs)->AJ K H P xs ts fp->C4 K H P (.ref p) (.tup ts) fp
 |dK {p kvs ts fp}:H p=some (.dK kvs)->AJ K H P (kvs.map yZ) ts fp->C4 K H P (.ref p) (.Bj false (kvs.map fun kv=>Dk kv.1) ts) (p::fp)
 |dT {p kvs ts fp}:H p=some (.dT kvs)->AJ K H P (kvs.map yZ) ts fp->C4 K H P (.ref p) (.Bj true (kvs.map fun kv=>.tup (kv.1.map Dk)) ts) (p::fp)
 |ins {p C dx fs ts fp x}:zd K mainGlobals x=some (some (.ref C))->H p=some (.ins C dx fs)->AJ K H P (fs.map yZ) ts fp->C4 K H P (.ref p) (.ins x (fs.map zO) ts) (p::fp)
inductive AJ (K:za) (H:Hp) (P:Addr->Prop):List V->List OT->List Addr->Prop
 |nil:AJ K H P [] [] []
 |cons {v t fp vs ts fq}:C4 K H P v t fp->AJ K H P vs ts fq->AJ K H P (v::vs) (t::ts) (fp++fq)
end
mutual
noncomputable def er:OT->D
 | .sh d=>d
 | .lst ts=>.lst (Ui ts)
 | .tup ts=>.tup (Ui ts)
 | .Bj t ks ts=>.Bj t ks (Ui ts)
 | .ins x ns ts=>.ins x ns (Ui ts)
noncomputable def Ui:List OT->List D
 |[]=>[]
 |t::r=>er t::Ui r
end
theorem Uj:∀ ts:List OT,Ui ts=ts.map er
 |[]=>rfl
 |t::r=>by rw[Ui,Uj r,zg]
mutual
theorem C4.move {K:za}{H H':Hp}{P P':Addr->Prop}(sm:Ad (del H P) (del H' P')):∀ {v:V}{t:OT}{fp:List Addr},(∀ a∈fp,H' a=H a)->C4 K H P v t fp->C4 K H' P' v t fp
 |_,_,_,_,.sh h=>.sh (h.mono sm)
 |_,_,_,k,.lst h r=>.lst ((k _ ze).trans h) (AJ.move sm (fun a ha=>k a (zf _ ha)) r)
 |_,_,_,k,.tup h r=>.tup (sm _ _ h) (AJ.move sm k r)
 |_,_,_,k,.dK h r=>.dK ((k _ ze).trans h) (AJ.move sm (fun a ha=>k a (zf _ ha)) r)
 |_,_,_,k,.dT h r=>.dT ((k _ ze).trans h) (AJ.move sm (fun a ha=>k a (zf _ ha)) r)
 |_,_,_,k,.ins n h r=>.ins n ((k _ ze).trans h) (AJ.move sm (fun a ha=>k a (zf _ ha)) r)
theorem AJ.move {K:za}{H H':Hp}{P P':Addr->Prop}(sm:Ad (del H P) (del H' P')):∀ {v:List V}{t:List OT}{fp:List Addr},(∀ a∈fp,H' a=H a)->AJ K H P v t fp->AJ K H' P' v t fp
 |_,_,_,_,.nil=>.nil
 |_,_,_,k,.cons h r=>.cons (C4.move sm (fun a ha=>k a (zN _ ha)) h) (AJ.move sm (fun a ha=>k a (zp _ ha)) r)
end
mutual
theorem C4.Cp {K:za}{H:Hp}{P:Addr->Prop}:∀ {v:V}{t:OT}{fp:List Addr},C4 K H P v t fp->∀ a∈fp,Dp H a
 |_,_,_,.sh h,a,ha=>by cases ha
 |_,_,_,.lst h r,a,ha=>by
  rcases zu.mp ha with rfl|ha
  ·exact .lst h
  ·exact AJ.Cp r a ha
 |_,_,_,.tup h r,a,ha=>AJ.Cp r a ha
 |_,_,_,.dK h r,a,ha=>by
  rcases zu.mp ha with rfl|ha
  ·exact⟨_,h,fun _=>⟨fun z=>(by cases z),fun _ z=>by cases z⟩⟩
  ·exact AJ.Cp r a ha
 |_,_,_,.dT h r,a,ha=>by
  rcases zu.mp ha with rfl|ha
  ·exact⟨_,h,fun _=>⟨fun z=>(by cases z),fun _ z=>by cases z⟩⟩
  ·exact AJ.Cp r a ha
 |_,_,_,.ins n h r,a,ha=>by
  rcases zu.mp ha with rfl|ha
  ·exact⟨_,h,fun _=>⟨fun z=>(by cases z),fun _ z=>by cases z⟩⟩
  ·exact AJ.Cp r a ha
theorem AJ.Cp {K:za}{H:Hp}{P:Addr->Prop}:∀ {v:List V}{t:List OT}{fp:List Addr},AJ K H P v t fp->∀ a∈fp,Dp H a
 |_,_,_,.nil,a,ha=>by cases ha
 |_,_,_,.cons h r,a,ha=>by
  rcases zx.mp ha with ha|ha
  ·exact C4.Cp h a ha
  ·exact AJ.Cp r a ha
end
mutual
theorem C4.Cq {K:za}{H:Hp}{P P':Addr->Prop}:∀ {v:V}{t:OT}{fp ai:List Addr},C4 K H P v t fp->C4 K H P' v t ai->fp=ai
 |_,_,_,_,.sh _,.sh _=>rfl
 |_,_,_,_,.lst h r,.lst h' r'=>by
  rw[h] at h';cases h'
  rw[AJ.Cq r r']
 |_,_,_,_,.tup h r,.tup h' r'=>by
  have e:=(Am h).2.symm.trans (Am h').2
  cases e
  exact AJ.Cq r r'
 |_,_,_,_,.dK (kvs:=kvs) (ts:=ts) h r,x=>by
  generalize ht:OT.Bj false (kvs.map fun kv=>Dk kv.1) ts=t at x
  cases x with
  |dK h' r' =>
   rw[h] at h';cases h'
   injection ht with _ _ e
   subst e
   rw[AJ.Cq r r']
  |dT h' r'=>rw[h] at h';cases h'
  |_=>cases ht
 |_,_,_,_,.dT (kvs:=kvs) (ts:=ts) h r,x=>by
  generalize ht:OT.Bj true (kvs.map fun kv=>D.tup (kv.1.map Dk)) ts=t at x
  cases x with
  |dT h' r' =>
   rw[h] at h';cases h'
   injection ht with _ _ e
   subst e
   rw[AJ.Cq r r']
  |dK h' r'=>rw[h] at h';cases h'
  |_=>cases ht
 |_,_,_,_,.ins (fs:=fs) (ts:=ts) (x:=y) n h r,x=>by
  generalize ht:OT.ins y (fs.map zO) ts=t at x
  cases x with
  |ins n' h' r' =>
   rw[h] at h';cases h'
   injection ht with _ _ e
   subst e
   rw[AJ.Cq r r']
  |_=>cases ht
theorem AJ.Cq {K:za}{H:Hp}{P P':Addr->Prop}:∀ {v:List V}{t:List OT}{fp ai:List Addr},AJ K H P v t fp->AJ K H P' v t ai->fp=ai
 |_,_,_,_,.nil,.nil=>rfl
 |_,_,_,_,.cons h r,.cons h' r'=>by rw[C4.Cq h h',AJ.Cq r r']
end
mutual
theorem C4.has {K:za}{H:Hp}{P P0:Addr->Prop}(hs:∀ a,P0 a->P a):∀ {v:V}{t:OT}{fp:List Addr},(∀ a∈fp,¬ P0 a)->C4 K H P v t fp->BL K (del H P0) v (er t)
 |_,_,_,_,.sh h=>by rw[er];exact h.mono (CI hs)
 |_,_,_,k,.lst h r=>by rw[er];exact .lst (.of (show del H P0 _=_ by rw[Ax (k _ ze)];exact h)) (AJ.has hs (fun a ha=>k a (zf _ ha)) r)
 |_,_,_,k,.tup h r=>by rw[er];exact .tup (CI hs _ _ h) (AJ.has hs k r)
 |_,_,_,k,.dK h r=>by rw[er];exact .Iq (show del H P0 _=_ by rw[Ax (k _ ze)];exact h) (AJ.has hs (fun a ha=>k a (zf _ ha)) r)
 |_,_,_,k,.dT h r=>by rw[er];exact .Ir (show del H P0 _=_ by rw[Ax (k _ ze)];exact h) (AJ.has hs (fun a ha=>k a (zf _ ha)) r)
 |_,_,_,k,.ins n h r=>by rw[er];exact .ins n (show del H P0 _=_ by rw[Ax (k _ ze)];exact h) (AJ.has hs (fun a ha=>k a (zf _ ha)) r)
theorem AJ.has {K:za}{H:Hp}{P P0:Addr->Prop}(hs:∀ a,P0 a->P a):∀ {v:List V}{t:List OT}{fp:List Addr},(∀ a∈fp,¬ P0 a)->AJ K H P v t fp->Ah K (del H P0) v (Ui t)
 |_,_,_,_,.nil=>by rw[Ui];exact .nil
 |_,_,_,k,.cons h r=>by rw[Ui];exact .cons (C4.has hs (fun a ha=>k a (zN _ ha)) h) (AJ.has hs (fun a ha=>k a (zp _ ha)) r)
end
inductive Bz (K:za) (H:Hp) (P:Addr->Prop):List Addr->List (List D)->Prop
 |nil:Bz K H P [] []
 |cons {q:Addr} {xs:List V} {ds:List D} {ps:List Addr} {C3:List (List D)}:H q=some (.lst xs)->Ah K (del H P) xs ds->Bz K H P ps C3->Bz K H P (q::ps) (ds::C3)
noncomputable def Dl (K:za) (H:Hp) (P:Addr->Prop):Cl->V->List Addr->Prop
 | .own ds,v,fp=>∃ p xs,v=.ref p/\fp=[p]/\H p=some (.lst xs)/\Ah K (del H P) xs ds
 | .ow (.rows C3),v,fp=>∃ p ps,v=.ref p/\fp=p::ps/\H p=some (.lst (ps.map V.ref))/\Bz K H P ps C3
 | .ow (.Lr _ ds),v,fp=>∃ p xs,v=.ref p/\fp=[p]/\H p=some (.lst xs)/\Ah K (del H P) xs ds
 | .ow (.tree _ t),v,fp=>C4 K H P v t fp
 | .val _,_,_=>False
noncomputable def Iv:Cl->Bool
 | .val _=>false
 |_=>true
theorem Bz.move {K:za}{H H':Hp}{P P':Addr->Prop}(sm:Ad (del H P) (del H' P')):∀ {ps:List Addr}{C3:List (List D)},(∀ a∈ps,H' a=H a)->Bz K H P ps C3->Bz K H' P' ps C3
 |_,_,_,.nil=>.nil
 |_,_,k,.cons h r t=>.cons ((k _ ze).trans h) (r.mono sm) (Bz.move sm (fun a ha=>k a (zf _ ha)) t)
theorem Bz.at {K:za}{H:Hp}{P:Addr->Prop}:∀ {ps:List Addr}{C3:List (List D)},Bz K H P ps C3->∀ a∈ps,∃ xs,H a=some (.lst xs)
 |_,_,.nil,a,h=>by cases h
 |_,_,.cons h r t,a,ha=>by
  rcases zu.mp ha with rfl|ha
  ·exact⟨_,h⟩
  ·exact t.at a ha
theorem Bz.length {K:za}{H:Hp}{P:Addr->Prop}:∀ {ps:List Addr}{C3:List (List D)},Bz K H P ps C3->ps.length=C3.length
 |_,_,.nil=>rfl
 |_,_,.cons h r t=>by rw[zo,zo,t.length]
theorem Bz.get {K:za}{H:Hp}{P:Addr->Prop}:∀ {ps:List Addr}{C3:List (List D)}{i:Nat}{ds:List D},Bz K H P ps C3->C3[i]? =some ds->∃ q xs,ps[i]? =some q/\H q=some (.lst xs)/\Ah K (del H P) xs ds
 |_,_,_,_,.nil,e=>by simp at e
 |_,_,0,_,.cons h r _,e=>by simp at e;subst e;exact⟨_,_,rfl,h,r⟩
 |_,_,i + 1,ds,.cons _ _ t,e=>by
  obtain⟨q,xs,h1,h2⟩:=Bz.get (i:=i) (ds:=ds) t (by simpa using e)
  exact⟨q,xs,by simpa using h1,h2⟩
theorem QX:∀ {ps qs:List Addr},ps.map V.ref=qs.map V.ref->ps=qs
 |[],[],_=>rfl
 |[],_::_,h=>by cases h
 |_::_,[],h=>by cases h
 |p::ps,q::qs,h=>by
  rw[zg,zg] at h
  injection h with h1 h2
  injection h1 with h1
  rw[h1,QX h2]
theorem Dl.move {K:za}{H H':Hp}{P P':Addr->Prop}(sm:Ad (del H P) (del H' P')){c:Cl}{v:V}{fp:List Addr}(k:∀ a∈fp,H' a=H a) (h:Dl K H P c v fp):Dl K H' P' c v fp:=by
 cases c with
 |val d=>exact h
 |own ds =>
  obtain⟨p,xs,rfl,rfl,h1,h2⟩:=h
  exact⟨p,xs,rfl,rfl,(k p ze).trans h1,h2.mono sm⟩
 |ow o =>
  cases o with
  |rows C3 =>
   obtain⟨p,ps,rfl,rfl,h1,h2⟩:=h
   exact⟨p,ps,rfl,rfl,(k p ze).trans h1,h2.move sm fun a ha=>k a (zf _ ha)⟩
  |Lr p ds =>
   obtain⟨p,xs,rfl,rfl,h1,h2⟩:=h
   exact⟨p,xs,rfl,rfl,(k p ze).trans h1,h2.mono sm⟩
  |tree p t=>exact C4.move sm k h
theorem Dl.at {K:za}{H:Hp}{P:Addr->Prop}{c:Cl}{v:V}{fp:List Addr}(h:Dl K H P c v fp):∀ a∈fp,∃ o,H a=some o:=by
 cases c with
 |val d=>exact h.elim
 |own ds =>
  obtain⟨p,xs,rfl,rfl,h1,h2⟩:=h
  exact fun a ha=>⟨.lst xs,by rw[zh.mp ha];exact h1⟩
 |ow o =>
  cases o with
  |rows C3 =>
   obtain⟨p,ps,rfl,rfl,h1,h2⟩:=h
   intro a ha
   rcases zu.mp ha with rfl|ha
   ·exact⟨_,h1⟩
   ·obtain⟨xs,q⟩:=h2.at a ha
    exact⟨_,q⟩
  |Lr p ds =>
   obtain⟨p,xs,rfl,rfl,h1,h2⟩:=h
   exact fun a ha=>⟨.lst xs,by rw[zh.mp ha];exact h1⟩
  |tree p t =>
   intro a ha
   obtain⟨o,q,_⟩:=C4.Cp h a ha
   exact⟨o,q⟩
theorem Dl.same {K:za}{H H':Hp}{P:Addr->Prop}(e:Ad H H'){c:Cl}{v:V}{fp:List Addr}(h:Dl K H P c v fp):Dl K H' P c v fp :=
 h.move e.del fun a ha=>by obtain⟨xs,q⟩:=h.at a ha;rw[q];exact e _ _ q
theorem Dl.Cq {K:za}{H:Hp}{P P':Addr->Prop}{c:Cl}{v:V}{fp ai:List Addr}(h:Dl K H P c v fp) (h':Dl K H P' c v ai):fp=ai:=by
 cases c with
 |val d=>exact h.elim
 |own ds =>
  obtain⟨p,xs,rfl,rfl,h1,h2⟩:=h
  obtain⟨p',dw,e,rfl,dz,ic⟩:=h'
  cases e;rfl
 |ow o =>
  cases o with
  |rows C3 =>
   obtain⟨p,ps,rfl,rfl,h1,h2⟩:=h
   obtain⟨p',yr,e,rfl,dz,ic⟩:=h'
   cases e
   rw[h1] at dz
   injection dz with e
   injection e with e
   rw[QX e]
  |Lr p ds =>
   obtain⟨p,xs,rfl,rfl,h1,h2⟩:=h
   obtain⟨p',dw,e,rfl,dz,ic⟩:=h'
   cases e;rfl
  |tree p t=>exact C4.Cq h h'
structure EA where
 pr:Addr->Prop
 g:Nat->Addr
instance:CoeFun EA (fun _=>Addr->Prop):=⟨EA.pr⟩
instance:Coe EA (Addr->Prop):=⟨EA.pr⟩
noncomputable def Od:Cl->Option Nat
 | .ow (.Lr n _)=>some n
 | .ow (.tree (some n) _)=>some n
 |_=>none
structure An (K:za) (P0:EA) (P:Addr->Prop) (H:Hp) (σ:St) (ρ:Ab):Prop where
 sub:∀ a,P0 a->P a
 Cp:∀ a,P a->Dp H a
 val:∀(i:Nat) d,ρ[i]? =some (some (.val d))->∃ v,σ[i]? =some (some v)/\BL K (del H P) v d
 ows:∀(i:Nat) c,ρ[i]? =some (some c)->Iv c=true->∃ v fp,σ[i]? =some (some v)/\Dl K H P c v fp/\(∀ a∈fp,P a/\¬ P0 a)/\fp.Nodup
 apart:∀(i j:Nat) c c' v v' fp ai,ρ[i]? =some (some c)->ρ[j]? =some (some c')->σ[i]? =some (some v)->σ[j]? =some (some v')->Dl K H P c v fp->Dl K H P c' v' ai->i≠j->∀ a∈fp,a∉ai
 len:σ.length=ρ.length
 pin:∀(i:Nat) c n,ρ[i]? =some (some c)->Od c=some n->σ[i]? =some (some (.ref (P0.g n)))
theorem An.own {K:za}{P0:EA}{P:Addr->Prop}{H:Hp}{σ:St}{ρ:Ab}(E:An K P0 P H σ ρ) (i:Nat) (ds:List D) (h:ρ[i]? =some (some (.own ds))) :
 ∃ p xs,σ[i]? =some (some (.ref p))/\H p=some (.lst xs)/\P p/\¬ P0 p/\Ah K (del H P) xs ds:=by
 obtain⟨v,fp,h1,⟨p,xs,rfl,rfl,h2,h3⟩,h4,_⟩:=E.ows i _ h rfl
 exact⟨p,xs,h1,h2,(h4 p ze).1,(h4 p ze).2,h3⟩
theorem An.Xn {K:za}{P0:EA}{P P':Addr->Prop}{H H':Hp}{σ:St}{ρ:Ab}(E:An K P0 P H σ ρ) (sm:Ad (del H P) (del H' P')){i j:Nat}{c c':Cl}{v v':V}{fp ai:List Addr}
 (ki:∀ v fp,σ[i]? =some (some v)->Dl K H P c v fp->∀ a∈fp,H' a=H a) (kj:∀ v fp,σ[j]? =some (some v)->Dl K H P c' v fp->∀ a∈fp,H' a=H a)
 (hi:ρ[i]? =some (some c)) (hj:ρ[j]? =some (some c')) (si:σ[i]? =some (some v)) (sj:σ[j]? =some (some v')) (h:Dl K H' P' c v fp) (h':Dl K H' P' c' v' ai) (ae:i≠j):∀ a∈fp,a∉ai:=by
 have key:∀(k:Nat) (d:Cl) (w:V) (fq:List Addr),ρ[k]? =some (some d)->σ[k]? =some (some w)->(∀ v fp,σ[k]? =some (some v)->Dl K H P d v fp->∀ a∈fp,H' a=H a)->Dl K H' P' d w fq->Dl K H P d w fq:=fun k d w fq hk sk kk ho=>by
  have io:Iv d=true:=by cases d<;>first|rfl|exact ho.elim
  obtain⟨w',ck,s2,o2,_⟩:=E.ows k d hk io
  rw[sk] at s2;cases s2
  have o3:=o2.move sm (kk _ _ sk o2)
  rw[ho.Cq o3]
  exact o2
 exact E.apart i j c c' v v' fp ai hi hj si sj (key i c v fp hi si ki h) (key j c' v' ai hj sj kj h') ae
theorem An.same {K:za}{P0:EA}{P:Addr->Prop}{H H':Hp}{σ:St}{ρ:Ab}(E:An K P0 P H σ ρ) (e:Ad H H'):An K P0 P H' σ ρ :=
 ⟨E.sub,fun a h=>(E.Cp a h).same e,fun i d h=>let ⟨v,h1,h2⟩:=E.val i d h;⟨v,h1,h2.mono e.del⟩,
  fun i c h io=>let ⟨v,fp,h1,h2,h3,h4⟩:=E.ows i c h io;⟨v,fp,h1,h2.same e,h3,h4⟩,
  fun i j c c' v v' fp ai hi hj si sj h h' ae=>E.Xn e.del (fun v fp _ o a ha=>by obtain⟨xs,q⟩:=o.at a ha;rw[q];exact e _ _ q) (fun v fp _ o a ha=>by obtain⟨xs,q⟩:=o.at a ha;rw[q];exact e _ _ q) hi hj si sj h h' ae,E.len,E.pin⟩
noncomputable def gV (K:za) (WX:Str->Hp->Prop) (P:Addr->Prop) (H:Hp) (Q:VK):M D->Prop
 | .ok d=>∀ v H',Ad H H'->BL K (del H' P) v d->Q v H'
 | .ex x=>∀ H',Ad H H'->WX x H'
 | .bad=>False
noncomputable def gA (K:za) (WX:Str->Hp->Prop) (P:Addr->Prop) (H:Hp) (Q:List V->Hp->Prop):M (List D)->Prop
 | .ok d=>∀ v H',Ad H H'->Ah K (del H' P) v d->Q v H'
 | .ex x=>∀ H',Ad H H'->WX x H'
 | .bad=>False
noncomputable def gT (WX:Str->Hp->Prop) (H:Hp) (Q:Bool->Hp->Prop):M Bool->Prop
 | .ok b=>∀ H',Ad H H'->Q b H'
 | .ex x=>∀ H',Ad H H'->WX x H'
 | .bad=>False
section
variable {K:za}{WX:Str->Hp->Prop}{P:Addr->Prop}{H H':Hp}
theorem gV.same {Q:VK}{m:M D}(h:gV K WX P H Q m) (e:Ad H H'):gV K WX P H' Q m:=by
 cases m with
 |ok d=>exact fun v H2 q hv=>h v H2 (e.trans q) hv
 |ex x=>exact fun H2 q=>h H2 (e.trans q)
 |bad=>exact h
theorem gA.same {Q:List V->Hp->Prop}{m:M (List D)}(h:gA K WX P H Q m) (e:Ad H H'):gA K WX P H' Q m:=by
 cases m with
 |ok d=>exact fun v H2 q hv=>h v H2 (e.trans q) hv
 |ex x=>exact fun H2 q=>h H2 (e.trans q)
 |bad=>exact h
theorem gT.same {Q:Bool->Hp->Prop}{m:M Bool}(h:gT WX H Q m) (e:Ad H H'):gT WX H' Q m:=by
 cases m with
 |ok d=>exact fun H2 q=>h H2 (e.trans q)
 |ex x=>exact fun H2 q=>h H2 (e.trans q)
 |bad=>exact h
end
noncomputable def Lv (c:Bool) (P0:EA) (P:Addr->Prop):Addr->Prop:=if c=true then P else P0.pr
noncomputable def DE (X:Cx) (WX:Str->Hp->Prop) (c:Bool) (e:Expr) (f:Ab->M D):Prop :=
 ∃ t,PE X e t/\∀ P0 P σ H Q ρ,An X.K P0 P H σ ρ->gV X.K WX (Lv c P0 P) H Q (f ρ)->t σ H Q
noncomputable def DA (X:Cx) (WX:Str->Hp->Prop) (c:Bool) (es:List Expr) (f:Ab->M (List D)):Prop :=
 ∃ t,PA X es t/\(∀ P0 P σ H Q ρ,An X.K P0 P H σ ρ->gA X.K WX (Lv c P0 P) H Q (f ρ)->t σ H Q)/\∀ ρ ds,f ρ=.ok ds->ds.length=es.length
noncomputable def DT (X:Cx) (WX:Str->Hp->Prop) (e:Expr) (f:Ab->M Bool):Prop :=
 ∃ t,PT X e t/\∀ P0 P σ H Q ρ,An X.K P0 P H σ ρ->gT WX H Q (f ρ)->t σ H Q
noncomputable def DW (X:Cx) (WX:Str->Hp->Prop) (e:Expr) (f:Ab->M Bool):Prop :=
 ∃ t,PW X e t/\∀ P0 P σ H Q ρ,An X.K P0 P H σ ρ->gT WX H Q (f ρ)->t σ H Q
theorem DW.dt {X:Cx}{WX:Str->Hp->Prop}{e:Expr}{f:Ab->M Bool}(h:DW X WX e f):DT X WX e f:=let ⟨t,h1,h2⟩:=h;⟨t,h1.pt,h2⟩
section
variable {X:Cx}{WX:Str->Hp->Prop}{c:Bool}{P0:EA}{P:Addr->Prop}{H:Hp}{σ:St}{ρ:Ab}
theorem An.lv (E:An X.K P0 P H σ ρ) (c:Bool):∀ a,Lv c P0 P a->P a:=fun a h=>by
 cases c with
 |true=>exact h
 |false=>exact E.sub a h
theorem An.pF (E:An X.K P0 P H σ ρ) (c:Bool):∀ a,Lv c P0 P a->Dp H a:=fun a h=>E.Cp a (E.lv c a h)
theorem Pj {e:Expr}{f:Ab->M D}(h:DE X WX true e f):DE X WX false e f:=by
 obtain⟨t,h1,h2⟩:=h
 refine⟨t,h1,fun P0 P σ H Q ρ E g=>h2 P0 P σ H Q ρ E ?_⟩
 cases e:f ρ with
 |ok d=>rw[e] at g;exact fun v H' s hv=>g v H' s (hv.mono (CI E.sub))
 |ex x=>rw[e] at g;exact g
 |bad=>rw[e] at g;exact g
noncomputable def pG:D->Bool
 | .tup _ | .lst _ | .DK _ | .Bj _ _ _ | .ins _ _ _=>false
 |_=>true
noncomputable def fl (m:M D):M D:=m.bind fun d=>if pG d=true then .ok d else .bad
noncomputable def rv (i:Nat) (ρ:Ab):M D:=match ρ[i]? with | some (some (.val d))=>.ok d | _=>.bad
noncomputable def ra (i:Nat) (ρ:Ab):M D:=match ρ[i]? with | some (some (.val d))=>.ok d | some (some (.own ds))=>.ok (.lst ds) | some (some (.ow (.rows C3)))=>.ok (.lst (C3.map D.lst)) | some (some (.ow (.Lr _ ds)))=>.ok (.lst ds) | some (some (.ow (.tree _ t)))=>.ok (er t) | _=>.bad
theorem A1 (i:Nat){x:Str}{pos:Pos}(h:PE X (.Name x pos) (Lc i)):DE X WX true (.Name x pos) (rv i):=by
 refine⟨_,h,fun P0 P σ H Q ρ E g=>?_⟩
 unfold rv at g
 split at g
 ·rename_i d e
  obtain⟨v,h1,h2⟩:=E.val i d e
  exact⟨v,h1,g v H (Ad.refl H) h2⟩
 ·exact g.elim
theorem A6 {i j pos}:DE X WX c (.Constant (.int i) j pos) (fun _=>.ok (.int i)):=⟨_,iW,fun P0 P σ H Q ρ E g=>g _ H (Ad.refl H) (.int i)⟩
theorem Dv {b j pos}:DE X WX c (.Constant (.bool b) j pos) (fun _=>.ok (.bl b)):=⟨_,nR,fun P0 P σ H Q ρ E g=>g _ H (Ad.refl H) (.bl b)⟩
theorem Dq {j pos}:DE X WX c (.Constant .none j pos) (fun _=>.ok .AA):=⟨_,iX,fun P0 P σ H Q ρ E g=>g _ H (Ad.refl H) .AA⟩
theorem SS {x j pos}:DE X WX c (.Constant (.str x) j pos) (fun _=>.ok (.str x)):=⟨_,iY,fun P0 P σ H Q ρ E g=>g _ H (Ad.refl H) (.str x)⟩
noncomputable def Uk (K:za) (WX:Str->Hp->Prop) (r:R2) (bc:D->D->M D):Prop :=
 ∀(P:Addr->Prop) (H:Hp) (x y:D) (v w:V) (Q:VK),(∀ a,P a->Dp H a)->BL K (del H P) v x->BL K (del H P) w y->gV K WX P H Q (bc x y)->r v w H Q
variable {a b:Expr}{f g:Ab->M D}{pos:Pos}
theorem QY {ta tb:TE}{r:R2}{bc:D->D->M D}(ha:∀ P0 P σ H Q ρ,An X.K P0 P H σ ρ->gV X.K WX (Lv c P0 P) H Q (f ρ)->ta σ H Q) (hb:∀ P0 P σ H Q ρ,An X.K P0 P H σ ρ->gV X.K WX (Lv c P0 P) H Q (g ρ)->tb σ H Q)
 (hr:Uk X.K WX r bc) {Q:VK} (E:An X.K P0 P H σ ρ) (h:gV X.K WX (Lv c P0 P) H Q ((f ρ).bind fun x=>(g ρ).bind fun y=>bc x y)):mX r ta tb σ H Q:=by
 refine ha P0 P σ H _ ρ E ?_
 cases e:f ρ with
 |bad=>rw[e] at h;exact h
 |ex x=>rw[e] at h;exact h
 |ok x =>
  rw[e] at h
  intro v H1 s1 hv
  refine hb P0 P σ H1 _ ρ (E.same s1) ?_
  cases e2:g ρ with
  |bad=>rw[e2] at h;exact h
  |ex y=>rw[e2] at h;exact gV.same (m:=.ex y) h s1
  |ok y =>
   rw[e2] at h
   intro w H2 s2 hw
   exact hr _ H2 x y v w Q (fun a q=>((E.same s1).same s2).pF c a q) (hv.mono s2.del) hw ((gV.same h s1).same s2)
theorem Oe {op:Operator}{r:R2}{bc:D->D->M D}(ho:Gm X (binaryOp op) r) (hr:Uk X.K WX r bc) (ha:DE X WX c a f) (hb:DE X WX c b g):DE X WX c (.BinOp a op b pos) (fun ρ=>(f ρ).bind fun x=>(g ρ).bind fun y=>bc x y):=by
 obtain⟨ta,a1,a2⟩:=ha
 obtain⟨tb,b1,b2⟩:=hb
 exact⟨_,WZ ho a1 b1,fun P0 P σ H Q ρ E h=>QY a2 b2 hr E h⟩
theorem Xo {op:CmpOp}{r:R2}{bc:D->D->M D}(ho:Gm X (compareOp op) r) (hr:Uk X.K WX r bc) (ha:DE X WX c a f) (hb:DE X WX c b g) (hm:behindInMarks op b=false):DE X WX c (.Compare a [op] [b] pos) (fun ρ=>(f ρ).bind fun x=>(g ρ).bind fun y=>bc x y):=by
 obtain⟨ta,a1,a2⟩:=ha
 obtain⟨tb,b1,b2⟩:=hb
 exact⟨_,Zs ho a1 b1 hm,fun P0 P σ H Q ρ E h=>QY a2 b2 hr E h⟩
theorem pH {r:R2}{bc:D->D->M D}(ho:ZA X r) (hr:Uk X.K WX r bc) (ha:DE X WX c a f) (hb:DE X WX c b g) (hs:Hj b):DE X WX c (.Subscript a b pos) (fun ρ=>(f ρ).bind fun x=>(g ρ).bind fun y=>bc x y):=by
 obtain⟨ta,a1,a2⟩:=ha
 obtain⟨tb,b1,b2⟩:=hb
 exact⟨_,Ud ho a1 b1 hs,fun P0 P σ H Q ρ E h=>QY a2 b2 hr E h⟩
noncomputable def Bu (k:Int->Int->M D) (x y:D):M D:=match x,y with | .int i,.int j=>k i j | _,_=>.bad
theorem BL.int_inv {K:za}{H:Hp}{v:V}{i:Int}(h:BL K H v (.int i)):v=.int i:=by cases h;rfl
theorem BL.Mp {K:za}{H:Hp}{v:V}{i:Bool}(h:BL K H v (.bl i)):v=.bl i:=by cases h;rfl
theorem Pk {C:Int->Int->Prop}{gv:Int->Int->V}{gd:Int->Int->D} [∀ i j,Decidable (C i j)] (hg:∀ i j K H,BL K H (gv i j) (gd i j)):Uk X.K WX (rI C gv) (Bu fun i j=>if C i j then .ok (gd i j) else .bad):=by
 intro P H x y v w Q ht hx hy h
 unfold Bu at h
 split at h
 ·rename_i i j
  rw[hx.int_inv,hy.int_inv]
  dsimp only at h
  by_cases hc:C i j
  ·rw[if_pos hc] at h
   exact⟨i,j,rfl,rfl,hc,h _ H (Ad.refl H) (hg i j _ _)⟩
  ·rw[if_neg hc] at h;exact h.elim
 ·exact h.elim
theorem Ls {gv:Int->Int->V}{gd:Int->Int->D}(hg:∀ i j K H,BL K H (gv i j) (gd i j)):Uk X.K WX (Zd gv) (Bu fun i j=>.ok (gd i j)):=by
 intro P H x y v w Q ht hx hy h
 unfold Bu at h
 split at h
 ·rename_i i j
  rw[hx.int_inv,hy.int_inv]
  exact⟨i,j,rfl,rfl,h _ H (Ad.refl H) (hg i j _ _)⟩
 ·exact h.elim
instance (i j:Int):Decidable (X0 i j):=by unfold X0;infer_instance
instance (i j:Int):Decidable (Zq i j):=by unfold Zq;infer_instance
instance (i j:Int):Decidable (X1 i j):=by unfold X1;infer_instance
noncomputable def pI:=Bu fun i j=>.ok (.int (i + j))
noncomputable def pJ:=Bu fun i j=>.ok (.int (i - j))
noncomputable def Eb:=Bu fun i j=>if 0 < j then .ok (.int (i % j)) else .bad
noncomputable def J5:=Bu fun i j=>if X0 i j then .ok (.int (i / j)) else .bad
noncomputable def VB:=Bu fun i j=>if Zq i j then .ok (.int (i ^ j.toNat)) else .bad
noncomputable def uH:=Bu fun i j=>.ok (.bl (decide (i < j)))
noncomputable def wA:=Bu fun i j=>.ok (.bl (decide (i<=j)))
noncomputable def uI:=Bu fun i j=>.ok (.bl (decide (j < i)))
noncomputable def wB:=Bu fun i j=>.ok (.bl (decide (j<=i)))
theorem BM (ha:DE X WX c a f) (hb:DE X WX c b g):DE X WX c (.BinOp a .Add b pos) (fun ρ=>(f ρ).bind fun x=>(g ρ).bind fun y=>pI x y):=Oe jL (Ls fun _ _ _ _=>.int _) ha hb
theorem kK (ha:DE X WX c a f) (hb:DE X WX c b g):DE X WX c (.BinOp a .Sub b pos) (fun ρ=>(f ρ).bind fun x=>(g ρ).bind fun y=>pJ x y):=Oe jM (Ls fun _ _ _ _=>.int _) ha hb
theorem BG (ha:DE X WX c a f) (hb:DE X WX c b g):DE X WX c (.BinOp a .Mod b pos) (fun ρ=>(f ρ).bind fun x=>(g ρ).bind fun y=>Eb x y):=Oe jN (Pk fun _ _ _ _=>.int _) ha hb
theorem Fw (ha:DE X WX c a f) (hb:DE X WX c b g):DE X WX c (.BinOp a .FloorDiv b pos) (fun ρ=>(f ρ).bind fun x=>(g ρ).bind fun y=>J5 x y):=Oe Zr (Pk fun _ _ _ _=>.int _) ha hb
theorem Xp (ha:DE X WX c a f) (hb:DE X WX c b g):DE X WX c (.BinOp a .Pow b pos) (fun ρ=>(f ρ).bind fun x=>(g ρ).bind fun y=>VB x y):=Oe jO (Pk fun _ _ _ _=>.int _) ha hb
noncomputable def ZV (n:Nat) (x y:D):M D:=if IV x<=n/\AI x=true/\AI y=true then .ok (.bl (Aw x y)) else .bad
noncomputable def Ze (n:Nat) (x y:D):M D:=if IV x<=n/\AI x=true/\AI y=true then .ok (.bl (!Aw x y)) else .bad
theorem Xq {n:Nat}(hu:X.A.units + n < cLine):Uk X.K WX (ZU X.K X.A false) (ZV n):=by
 intro P H x y v w Q ht hx hy h
 unfold ZV at h
 by_cases hd:IV x<=n/\AI x=true/\AI y=true
 ·rw[if_pos hd] at h
  exact⟨x,y,hx.mono Ea,hy.mono Ea,by omega,hd.2.1,hd.2.2,h _ H (Ad.refl H) (.bl _)⟩
 ·rw[if_neg hd] at h;exact h.elim
theorem kL {n:Nat}(hu:X.A.units + n < cLine):Uk X.K WX (ZU X.K X.A true) (Ze n):=by
 intro P H x y v w Q ht hx hy h
 unfold Ze at h
 by_cases hd:IV x<=n/\AI x=true/\AI y=true
 ·rw[if_pos hd] at h
  exact⟨x,y,hx.mono Ea,hy.mono Ea,by omega,hd.2.1,hd.2.2,h _ H (Ad.refl H) (.bl _)⟩
 ·rw[if_neg hd] at h;exact h.elim
theorem gY {n:Nat}(hu:X.A.units + n < cLine) (ha:DE X WX c a f) (hb:DE X WX c b g):DE X WX c (.Compare a [.Eq] [b] pos) (fun ρ=>(f ρ).bind fun x=>(g ρ).bind fun y=>ZV n x y):=Xo Xm (Xq hu) ha hb (Ij _)
noncomputable def C5:D->Bool
 | .AA=>true
 |_=>false
theorem BL.sZ {K:za}{H:Hp}{v:V}{d:D}(h:BL K H v d):decide (v=.AA)=C5 d:=by
 cases h<;>simp[C5]
theorem kM {j pos'}(ha:DE X WX c a f):DE X WX c (.Compare a [.Is] [.Constant .none j pos'] pos) (fun ρ=>(f ρ).bind fun x=>.ok (.bl (C5 x))):=by
 obtain⟨ta,a1,a2⟩:=ha
 refine⟨_,iZ (WM a1),fun P0 P σ H Q ρ E h=>?_⟩
 dsimp only at h
 refine a2 P0 P σ H _ ρ E ?_
 cases e:f ρ with
 |bad=>rw[e] at h;exact h
 |ex x=>rw[e] at h;exact h
 |ok x=>rw[e] at h;exact fun v H1 s1 hv=>h _ H1 s1 (by rw[hv.sZ];exact .bl _)
noncomputable def ZW (x y:D):M D:=match x,y with
 | .tup ds,.int i=>(match QN ds i with|some d=>.ok d|none=>.bad)
 | .lst ds,.int i=>(match QN ds i with|some d=>.ok d|none=>.bad)
 |_,_=>.bad
theorem Ah.QN {K:za}{H:Hp}{xs:List V}{ds:List D}{i:Int}{d:D}(h:Ah K H xs ds) (e:L2.QN ds i=some d):∃ v,L2.QN xs i=some v/\BL K H v d:=by
 unfold L2.QN at e ⊢
 rw[<-h.length] at e
 cases q:O8 xs.length i with
 |none=>rw[q] at e;cases e
 |some j =>
  rw[q] at e
  exact h.get e
theorem Dm.Bo {K:za}{H:Hp}{P:Addr->Prop}{a:Addr}{xs:List V}(h:Dm K (del H P) a xs):Dm K H a xs:=Ea.seq h
theorem Fs.Bo {K:za}{H:Hp}{P:Addr->Prop}{a:Addr}{xs:List V}(h:Fs K (del H P) a xs):Fs K H a xs:=Ea.sX h
theorem Gu:Uk X.K WX (fun x y H Q=>jX X.K x y H Q\/jY X.K x y H Q) ZW:=by
 intro P H x y v w Q ht hx hy h
 unfold ZW at h
 split at h
 ·rename_i ds i
  split at h
  ·rename_i d e
   cases hy
   cases hx with
   |tup hs hl =>
    obtain⟨u,h1,h2⟩:=hl.QN e
    exact .inr ⟨_,_,i,u,rfl,rfl,Fs.of (Am hs).2,h1,h _ H (Ad.refl H) h2⟩
  ·exact h.elim
 ·rename_i ds i
  split at h
  ·rename_i d e
   cases hy
   cases hx with
   |lst hs hl =>
    obtain⟨u,h1,h2⟩:=hl.QN e
    exact .inl ⟨_,_,i,u,rfl,rfl,hs.Bo,h1,h _ H (Ad.refl H) h2⟩
  ·exact h.elim
 ·exact h.elim
theorem A7:DA X WX c [] (fun _=>.ok []):=⟨_,Cj,fun P0 P σ H Q ρ E h=>h [] H (Ad.refl H) .nil,fun ρ ds h=>by cases h;rfl⟩
theorem A2 {e:Expr}{es:List Expr}{f:Ab->M D}{fs:Ab->M (List D)}(he:DE X WX c e f) (hr:DA X WX c es fs) (hs:starEach (e::es) X.env=(false,eval e X.env)::starEach es X.env:=by rfl) :
 DA X WX c (e::es) (fun ρ=>(f ρ).bind fun d=>(fs ρ).bind fun ds=>.ok (d::ds)):=by
 obtain⟨te,e1,e2⟩:=he
 obtain⟨tr,r1,r2,r3⟩:=hr
 refine⟨_,Bi e1 r1 hs,fun P0 P σ H Q ρ E h=>?_,fun ρ ds h=>?_⟩
 rotate_left
 ·dsimp only at h
  cases q:f ρ with
  |bad=>rw[q] at h;cases h
  |ex x=>rw[q] at h;cases h
  |ok x =>
   rw[q] at h
   cases q2:fs ρ with
   |bad=>rw[q2] at h;cases h
   |ex x=>rw[q2] at h;cases h
   |ok xs =>
    rw[q2] at h
    cases h
    rw[zo,zo,r3 ρ xs q2]
 dsimp only at h
 refine e2 P0 P σ H _ ρ E ?_
 cases q:f ρ with
 |bad=>rw[q] at h;exact h
 |ex x=>rw[q] at h;exact h
 |ok x =>
  rw[q] at h
  intro v H1 s1 hv
  refine r2 P0 P σ H1 _ ρ (E.same s1) ?_
  cases q2:fs ρ with
  |bad=>rw[q2] at h;exact h
  |ex y=>rw[q2] at h;exact gA.same (m:=.ex y) h s1
  |ok ds =>
   rw[q2] at h
   exact fun vs H2 s2 aI=>h _ H2 (s1.trans s2) (.cons (hv.mono s2.del) aI)
theorem J6 {H:Hp}{P:Addr->Prop}{p:Addr}{o:HO}(hn:H p=none) (ht:∀ a,P a->Dp H a):del (upd H p o) P p=some o:=by
 rw[Ax fun z=>(ht p z).no hn]
 exact Ar
theorem AL {es:List Expr}{fs:Ab->M (List D)}{x1}(ha:DA X WX c es fs) (hz:es.length<=1000:=by decide):DE X WX c (.Tuple es x1 pos) (fun ρ=>(fs ρ).bind fun ds=>if ds.length<=1000 then .ok (.tup ds) else .bad):=by
 obtain⟨ta,a1,a2,a3⟩:=ha
 refine⟨_,X6 a1,fun P0 P σ H Q ρ E h=>?_⟩
 dsimp only at h
 refine a2 P0 P σ H _ ρ E ?_
 cases q:fs ρ with
 |bad=>rw[q] at h;exact h
 |ex y=>rw[q] at h;exact h
 |ok ds =>
  rw[q] at h
  simp only[M.A8] at h
  by_cases hd:ds.length<=1000
  ·rw[if_pos hd] at h
   intro vs H1 s1 aI
   refine⟨yQ (AG (by rw[aI.length];exact hd)),fun p hp=>h _ _ (s1.trans (AN hp _)) (.tup (J6 hp fun a q=>(E.same s1).pF c a q) (aI.mono (AN hp _).del))⟩
  ·rw[if_neg hd] at h;exact h.elim
theorem Gv {es:List Expr}{fs:Ab->M (List D)}(ha:DA X WX c es fs):DE X WX c (.List es pos) (fun ρ=>(fs ρ).bind fun ds=>if ds.length<=1000 then .ok (.lst ds) else .bad):=by
 obtain⟨ta,a1,a2,a3⟩:=ha
 refine⟨_,P8 a1,fun P0 P σ H Q ρ E h=>?_⟩
 dsimp only at h
 refine a2 P0 P σ H _ ρ E ?_
 cases q:fs ρ with
 |bad=>rw[q] at h;exact h
 |ex y=>rw[q] at h;exact h
 |ok ds =>
  rw[q] at h
  simp only[M.A8] at h
  by_cases hd:ds.length<=1000
  ·rw[if_pos hd] at h
   intro vs H1 s1 aI
   refine⟨yQ (AG (by rw[aI.length];exact hd)),fun p hp=>h _ _ (s1.trans (AN hp _)) (.lst (.of (J6 hp fun a q=>(E.same s1).pF c a q)) (aI.mono (AN hp _).del))⟩
  ·rw[if_neg hd] at h;exact h.elim
end
end L2
namespace L2
open PySem PySem.Spec PyProof.Rows
noncomputable def Of (d:D):M Bool:=match d with | .bl b=>.ok b | _=>.bad
section
variable {X:Cx}{WX:Str->Hp->Prop}{c:Bool}{P0:EA}{P:Addr->Prop}{H:Hp}{σ:St}{ρ:Ab}{a b e:Expr}{f g:Ab->M D}{ft gt:Ab->M Bool}{pos:Pos}
theorem pK {WX:Str->Hp->Prop}{P:Addr->Prop}{K:za}{H:Hp}{Q:Bool->Hp->Prop}{m:M D}(h:gT WX H Q (m.bind Of)):gV K WX P H (fun x H'=>∃ k,x=.bl k/\Q k H') m:=by
 cases m with
 |bad=>exact h
 |ex x=>exact h
 |ok d =>
  intro v H' s hv
  simp only[M.A8] at h
  unfold Of at h
  split at h
  ·rename_i b
   exact⟨b,hv.Mp,h H' s⟩
  ·exact h.elim
theorem Fx {op:CmpOp}{r:R2}{bc:D->D->M D}(ho:Gm X (compareOp op) r) (hr:Uk X.K WX r bc) (ha:DE X WX c a f) (hb:DE X WX c b g) (hm:behindInMarks op b=false):DT X WX (.Compare a [op] [b] pos) (fun ρ=>((f ρ).bind fun x=>(g ρ).bind fun y=>bc x y).bind Of):=by
 obtain⟨ta,a1,a2⟩:=ha
 obtain⟨tb,b1,b2⟩:=hb
 exact⟨_,Zt ho a1 b1 hm,fun P0 P σ H Q ρ E h=>QY a2 b2 hr E (pK h)⟩
theorem pL (ha:DE X WX c a f) (hb:DE X WX c b g):DT X WX (.Compare a [.Lt] [b] pos) (fun ρ=>((f ρ).bind fun x=>(g ρ).bind fun y=>uH x y).bind Of):=Fx gO (Ls fun _ _ _ _=>.bl _) ha hb (Ij _)
theorem Ul (ha:DE X WX c a f) (hb:DE X WX c b g):DT X WX (.Compare a [.Gt] [b] pos) (fun ρ=>((f ρ).bind fun x=>(g ρ).bind fun y=>uI x y).bind Of):=Fx oI (Ls fun _ _ _ _=>.bl _) ha hb (Ij _)
theorem J7 {n:Nat}(hu:X.A.units + n < cLine) (ha:DE X WX c a f) (hb:DE X WX c b g):DT X WX (.Compare a [.Eq] [b] pos) (fun ρ=>((f ρ).bind fun x=>(g ρ).bind fun y=>ZV n x y).bind Of):=Fx Xm (Xq hu) ha hb (Ij _)
theorem KW {n:Nat}(hu:X.A.units + n < cLine) (ha:DE X WX c a f) (hb:DE X WX c b g):DT X WX (.Compare a [.NotEq] [b] pos) (fun ρ=>((f ρ).bind fun x=>(g ρ).bind fun y=>Ze n x y).bind Of):=Fx kJ (kL hu) ha hb (Ij _)
theorem Gw {j pos'}(ha:DE X WX c a f):DT X WX (.Compare a [.Is] [.Constant .none j pos'] pos) (fun ρ=>(f ρ).bind fun x=>.ok (C5 x)):=by
 obtain⟨ta,a1,a2⟩:=ha
 refine⟨_,WN (WM a1),fun P0 P σ H Q ρ E h=>?_⟩
 dsimp only at h
 refine a2 P0 P σ H _ ρ E ?_
 cases e:f ρ with
 |bad=>rw[e] at h;exact h
 |ex x=>rw[e] at h;exact h
 |ok x=>rw[e] at h;exact fun v H1 s1 hv=>⟨_,rfl,by rw[hv.sZ];exact h H1 s1⟩
theorem J8 {j pos'}(ha:DE X WX c a f):DT X WX (.Compare a [.IsNot] [.Constant .none j pos'] pos) (fun ρ=>(f ρ).bind fun x=>.ok (!C5 x)):=by
 obtain⟨ta,a1,a2⟩:=ha
 refine⟨_,WN (Zm a1),fun P0 P σ H Q ρ E h=>?_⟩
 dsimp only at h
 refine a2 P0 P σ H _ ρ E ?_
 cases e:f ρ with
 |bad=>rw[e] at h;exact h
 |ex x=>rw[e] at h;exact h
 |ok x=>rw[e] at h;exact fun v H1 s1 hv=>⟨_,rfl,by rw[hv.sZ];exact h H1 s1⟩
theorem CJ (ha:DT X WX a ft):DT X WX (.UnaryOp .Not a pos) (fun ρ=>(ft ρ).bind fun b=>.ok (!b)):=by
 obtain⟨ta,a1,a2⟩:=ha
 refine⟨_,jA a1,fun P0 P σ H Q ρ E h=>?_⟩
 dsimp only at h
 refine a2 P0 P σ H _ ρ E ?_
 cases e:ft ρ with
 |bad=>rw[e] at h;exact h
 |ex x=>rw[e] at h;exact h
 |ok x=>rw[e] at h;exact fun H1 s1=>h H1 s1
theorem Hm (ha:DT X WX a ft):DW X WX (.BoolOp .And [a] pos) ft:=let ⟨ta,a1,a2⟩:=ha;⟨_,pw_and1 a1,a2⟩
theorem Ec (ha:DT X WX a ft):DW X WX (.BoolOp .Or [a] pos) ft:=let ⟨ta,a1,a2⟩:=ha;⟨_,pw_or1 a1,a2⟩
theorem Iw {rest:List Expr}(ha:DT X WX a ft) (hb:DW X WX (.BoolOp .And (b::rest) pos) gt):DW X WX (.BoolOp .And (a::b::rest) pos) (fun ρ=>(ft ρ).bind fun k=>if k=true then gt ρ else .ok false):=by
 obtain⟨ta,a1,a2⟩:=ha
 obtain⟨tb,b1,b2⟩:=hb
 refine⟨_,pw_and a1 b1,fun P0 P σ H Q ρ E h=>?_⟩
 dsimp only at h
 refine a2 P0 P σ H _ ρ E ?_
 cases e:ft ρ with
 |bad=>rw[e] at h;exact h
 |ex x=>rw[e] at h;exact h
 |ok k =>
  rw[e] at h
  intro H1 s1
  cases k with
  |true =>
   simp only[M.A8,if_true] at h ⊢
   exact b2 P0 P σ H1 _ ρ (E.same s1) (h.same s1)
  |false =>
   simp only[M.A8,zF,if_false] at h ⊢
   exact h H1 s1
theorem Fd {rest:List Expr}(ha:DT X WX a ft) (hb:DW X WX (.BoolOp .Or (b::rest) pos) gt):DW X WX (.BoolOp .Or (a::b::rest) pos) (fun ρ=>(ft ρ).bind fun k=>if k=true then .ok true else gt ρ):=by
 obtain⟨ta,a1,a2⟩:=ha
 obtain⟨tb,b1,b2⟩:=hb
 refine⟨_,pw_or a1 b1,fun P0 P σ H Q ρ E h=>?_⟩
 dsimp only at h
 refine a2 P0 P σ H _ ρ E ?_
 cases e:ft ρ with
 |bad=>rw[e] at h;exact h
 |ex x=>rw[e] at h;exact h
 |ok k =>
  rw[e] at h
  intro H1 s1
  cases k with
  |true =>
   simp only[M.A8,if_true] at h ⊢
   exact h H1 s1
  |false =>
   simp only[M.A8,zF,if_false] at h ⊢
   exact b2 P0 P σ H1 _ ρ (E.same s1) (h.same s1)
theorem Pm {op}(ha:DE X WX c a f):DE X WX c (.BoolOp op [a] pos) f:=let ⟨ta,a1,a2⟩:=ha;⟨_,jB a1,a2⟩
theorem Pn {rest:List Expr}(ha:DE X WX c a f) (hb:DE X WX c (.BoolOp .And (b::rest) pos) g):DE X WX c (.BoolOp .And (a::b::rest) pos) (fun ρ=>((f ρ).bind Of).bind fun k=>if k=true then g ρ else .ok (.bl false)):=by
 obtain⟨ta,a1,a2⟩:=ha
 obtain⟨tb,b1,b2⟩:=hb
 refine⟨_,jC a1 b1,fun P0 P σ H Q ρ E h=>?_⟩
 dsimp only at h
 refine a2 P0 P σ H _ ρ E ?_
 cases e:f ρ with
 |bad=>rw[e] at h;exact h
 |ex x=>rw[e] at h;exact h
 |ok d =>
  rw[e] at h
  simp only[M.A8] at h
  unfold Of at h
  split at h
  ·rename_i k
   intro v H1 s1 hv
   refine⟨k,hv.Mp,?_⟩
   cases k with
   |true =>
    simp only[M.A8,if_true] at h ⊢
    exact b2 P0 P σ H1 _ ρ (E.same s1) (h.same s1)
   |false =>
    simp only[M.A8,zF,if_false] at h ⊢
    exact h _ H1 s1 (.bl _)
  ·exact h.elim
theorem pM {rest:List Expr}(ha:DE X WX c a f) (hb:DE X WX c (.BoolOp .Or (b::rest) pos) g):DE X WX c (.BoolOp .Or (a::b::rest) pos) (fun ρ=>((f ρ).bind Of).bind fun k=>if k=true then .ok (.bl true) else g ρ):=by
 obtain⟨ta,a1,a2⟩:=ha
 obtain⟨tb,b1,b2⟩:=hb
 refine⟨_,nV a1 b1,fun P0 P σ H Q ρ E h=>?_⟩
 dsimp only at h
 refine a2 P0 P σ H _ ρ E ?_
 cases e:f ρ with
 |bad=>rw[e] at h;exact h
 |ex x=>rw[e] at h;exact h
 |ok d =>
  rw[e] at h
  simp only[M.A8] at h
  unfold Of at h
  split at h
  ·rename_i k
   intro v H1 s1 hv
   refine⟨k,hv.Mp,?_⟩
   cases k with
   |true =>
    simp only[M.A8,if_true] at h ⊢
    exact h _ H1 s1 (.bl _)
   |false =>
    simp only[M.A8,zF,if_false] at h ⊢
    exact b2 P0 P σ H1 _ ρ (E.same s1) (h.same s1)
  ·exact h.elim
theorem Xr (ha:DE X WX c a f):DE X WX c (.UnaryOp .Not a pos) (fun ρ=>((f ρ).bind Of).bind fun k=>.ok (.bl (!k))):=by
 obtain⟨ta,a1,a2⟩:=ha
 refine⟨_,jD a1,fun P0 P σ H Q ρ E h=>?_⟩
 dsimp only at h
 refine a2 P0 P σ H _ ρ E ?_
 cases e:f ρ with
 |bad=>rw[e] at h;exact h
 |ex x=>rw[e] at h;exact h
 |ok d =>
  rw[e] at h
  simp only[M.A8] at h
  unfold Of at h
  split at h
  ·rename_i k
   exact fun v H1 s1 hv=>⟨k,hv.Mp,h _ H1 s1 (.bl _)⟩
  ·exact h.elim
theorem tD (ha:DE X WX c a f):DE X WX c (.UnaryOp .USub a pos) (fun ρ=>(f ρ).bind fun d=>match d with | .int i=>.ok (.int (-i)) | _=>.bad):=by
 obtain⟨ta,a1,a2⟩:=ha
 refine⟨_,oF jP a1,fun P0 P σ H Q ρ E h=>?_⟩
 dsimp only at h
 refine a2 P0 P σ H _ ρ E ?_
 cases e:f ρ with
 |bad=>rw[e] at h;exact h
 |ex x=>rw[e] at h;exact h
 |ok d =>
  rw[e] at h
  simp only[M.A8] at h
  split at h
  ·rename_i i
   exact fun v H1 s1 hv=>⟨i,hv.int_inv,h _ H1 s1 (.int _)⟩
  ·exact h.elim
theorem VC {d:Expr}{h:Ab->M D}{op eh:CmpOp}{p q:Int->Int->Bool}(ho:Gm X (compareOp op) (Zd fun i j=>.bl (p i j))) (bC:Gm X (compareOp eh) (Zd fun i j=>.bl (q i j))) (ha:DE X WX c a f) (hb:DE X WX c b g) (hd:DE X WX c d h)
 (hm:lastMarks [op,eh] [b,d]=false:=by with_unfolding_all rfl):DE X WX c (.Compare a [op,eh] [b,d] pos) (fun ρ=>(f ρ).bind fun x=>(g ρ).bind fun y=>Bu (fun i j=>if p i j=true then (h ρ).bind fun z=>Bu (fun _ k=>.ok (.bl (q j k))) (.int 0) z else .ok (.bl false)) x y):=by
 obtain⟨ta,a1,a2⟩:=ha
 obtain⟨tb,b1,b2⟩:=hb
 obtain⟨td,d1,d2⟩:=hd
 refine⟨_,X2 ho bC a1 b1 d1 hm,fun P0 P σ H Q ρ E hh=>?_⟩
 dsimp only at hh
 refine a2 P0 P σ H _ ρ E ?_
 cases e:f ρ with
 |bad=>rw[e] at hh;exact hh
 |ex x=>rw[e] at hh;exact hh
 |ok x =>
  rw[e] at hh
  intro v H1 s1 hv
  refine b2 P0 P σ H1 _ ρ (E.same s1) ?_
  cases e2:g ρ with
  |bad=>rw[e2] at hh;exact hh
  |ex y=>rw[e2] at hh;exact gV.same (m:=.ex y) hh s1
  |ok y =>
   rw[e2] at hh
   simp only[M.A8] at hh
   unfold Bu at hh
   split at hh
   ·rename_i i j
    intro w H2 s2 hw
    refine⟨i,j,hv.int_inv,hw.int_inv,p i j,rfl,?_⟩
    dsimp only at hh
    by_cases hp:p i j=true
    ·rw[if_pos hp] at hh ⊢
     refine d2 P0 P σ H2 _ ρ ((E.same s1).same s2) ?_
     cases e3:h ρ with
     |bad=>rw[e3] at hh;exact hh
     |ex z=>rw[e3] at hh;exact gV.same (gV.same (m:=.ex z) hh s1) s2
     |ok z =>
      rw[e3] at hh
      simp only[M.A8] at hh
      cases z with
      |int k=>exact fun u H3 s3 hu=>⟨j,k,hw.int_inv,hu.int_inv,hh _ H3 ((s1.trans s2).trans s3) (.bl _)⟩
      |_=>exact hh.elim
    ·rw[if_neg hp] at hh ⊢
     exact hh _ H2 (s1.trans s2) (.bl _)
   ·exact hh.elim
noncomputable def KY (K:za) (WX:Str->Hp->Prop) (r:List V->Hp->VK->Prop) (dF:List D->M D):Prop :=
 ∀(P:Addr->Prop) (H:Hp) (ds:List D) (vs:List V) (Q:VK),(∀ a,P a->Dp H a)->Ah K (del H P) vs ds->gV K WX P H Q (dF ds)->r vs H Q
variable {x:Str}{p:Pos}{es:List Expr}{fs:Ab->M (List D)}{id T:String}{r:List V->Hp->VK->Prop}{dF:List D->M D}
theorem Xs {ta:TA}(ha:∀ P0 P σ H Q ρ,An X.K P0 P H σ ρ->gA X.K WX (Lv c P0 P) H Q (fs ρ)->ta σ H Q) (hr:KY X.K WX r dF){Q:VK}(E:An X.K P0 P H σ ρ) (h:gV X.K WX (Lv c P0 P) H Q ((fs ρ).bind dF)):sQ r ta σ H Q:=by
 refine ha P0 P σ H _ ρ E ?_
 cases e:fs ρ with
 |bad=>rw[e] at h;exact h
 |ex x=>rw[e] at h;exact h
 |ok ds =>
  rw[e] at h
  exact fun vs H1 s1 aI=>hr _ H1 ds vs Q (fun a q=>(E.same s1).pF c a q) aI (h.same s1)
theorem Mq (hc:Gn X (.builtin id) r) (hr:KY X.K WX r dF) (hg:Gl X x) (hm:X.mg x=none) (hv:bootBuiltins x=some (.builtin id)) (ha:DA X WX c (e::es) fs) (hn:x ≠ "__name__" := by decide) (aU:(x == ("__debug__" : Str))=false:=by decide)
 (he:starEach (e::es) X.env=(false,eval e X.env)::starEach es X.env:=by rfl) (a4:(backTo pos (starEach es X.env)).any (·.1)=false:=by rfl):DE X WX c (.Call (.Name x p) (e::es) [] pos) (fun ρ=>(fs ρ).bind dF):=by
 obtain⟨ta,a1,a2,a3⟩:=ha
 exact⟨_,QL hc hg hm hv a1 hn aU he a4,fun P0 P σ H Q ρ E h=>Xs a2 hr E h⟩
theorem Og (hc:Gn X (.type T) r) (hr:KY X.K WX r dF) (hg:Gl X x) (hm:X.mg x=none) (hv:bootBuiltins x=some (.type T)) (ha:DA X WX c (e::es) fs) (hn:x ≠ "__name__" := by decide) (aU:(x == ("__debug__" : Str))=false:=by decide)
 (he:starEach (e::es) X.env=(false,eval e X.env)::starEach es X.env:=by rfl) (a4:(backTo pos (starEach es X.env)).any (·.1)=false:=by rfl):DE X WX c (.Call (.Name x p) (e::es) [] pos) (fun ρ=>(fs ρ).bind dF):=by
 obtain⟨ta,a1,a2,a3⟩:=ha
 exact⟨_,O7 hc hg hm hv a1 hn aU he a4,fun P0 P σ H Q ρ E h=>Xs a2 hr E h⟩
noncomputable def VD (ds:List D):M D:=match ds with
 |[.lst xs]=>.ok (.int xs.length)
 |[.tup xs]=>.ok (.int xs.length)
 |_=>.bad
theorem Ah.one {K:za}{H:Hp}{vs:List V}{d:D}(h:Ah K H vs [d]):∃ v,vs=[v]/\BL K H v d:=by
 cases h with
 |cons h t=>cases t;exact⟨_,rfl,h⟩
theorem Ah.two {K:za}{H:Hp}{vs:List V}{d e:D}(h:Ah K H vs [d,e]):∃ v w,vs=[v,w]/\BL K H v d/\BL K H w e:=by
 cases h with
 |cons h t =>
  obtain⟨w,rfl,hw⟩:=t.one
  exact⟨_,w,rfl,h,hw⟩
theorem kN:KY X.K WX (fun xs H Q=>∃ p ys,xs=[.ref p]/\(Dm X.K H p ys\/Fs X.K H p ys)/\Q (.int ys.length) H) VD:=by
 intro P H ds vs Q ht hl h
 unfold VD at h
 split at h
 ·obtain⟨v,rfl,hv⟩:=hl.one
  cases hv with
  |lst hs hh=>exact⟨_,_,rfl,.inl hs.Bo,by rw[hh.length];exact h _ H (Ad.refl H) (.int _)⟩
 ·obtain⟨v,rfl,hv⟩:=hl.one
  cases hv with
  |tup hs hh=>exact⟨_,_,rfl,.inr (Fs.of (Am hs).2),by rw[hh.length];exact h _ H (Ad.refl H) (.int _)⟩
 ·exact h.elim
theorem EY (hg:Gl X "len") (hm:X.mg "len" = none) (ha:DE X WX c e f) (hs:starEach [e] X.env=[(false,eval e X.env)]:=by rfl):DE X WX c (.Call (.Name "len" p) [e] [] pos) (fun ρ=>((f ρ).bind fun d=>(M.ok []).bind fun ds=>.ok (d::ds)).bind VD) :=
 Mq Pc kN hg hm PySem.boot_len (A2 ha A7 hs) (he:=hs)
noncomputable def SU (ds:List D):M D:=match ds with
 |[.lst xs]=>.ok (.tup xs)
 |[.tup xs]=>.ok (.tup xs)
 |_=>.bad
theorem Xu:KY X.K WX (fun xs H Q=>∃ p ys,xs=[.ref p]/\((Dm X.K H p ys/\∀ l,H l=none->Q (.ref l) (upd H l (.tup ys)))\/(Fs X.K H p ys/\Q (.ref p) H))) SU:=by
 intro P H ds vs Q ht hl h
 unfold SU at h
 split at h
 ·obtain⟨v,rfl,hv⟩:=hl.one
  cases hv with
  |lst hs hh=>exact⟨_,_,rfl,.inl ⟨hs.Bo,fun l hn=>h _ _ (AN hn _) (.tup (J6 hn ht) (hh.mono (AN hn _).del))⟩⟩
 ·obtain⟨v,rfl,hv⟩:=hl.one
  cases hv with
  |tup hs hh=>exact⟨_,_,rfl,.inr ⟨Fs.of (Am hs).2,h _ H (Ad.refl H) (.tup hs hh)⟩⟩
 ·exact h.elim
theorem Xv (hg:Gl X "tuple") (hm:X.mg "tuple" = none) (ha:DE X WX c e f) (hb:bootBuiltins "tuple" = some (.type "tuple"):=by decide +kernel) (hs:starEach [e] X.env=[(false,eval e X.env)]:=by rfl):DE X WX c (.Call (.Name "tuple" p) [e] [] pos) (fun ρ=>((f ρ).bind fun d=>(M.ok []).bind fun ds=>.ok (d::ds)).bind SU) :=
 Og NH Xu hg hm hb (A2 ha A7 hs) (he:=hs)
noncomputable def gZ:D->String
 | .AA => "NoneType"
 | .bl _ => "bool"
 | .int _ => "int"
 | .str _ => "str"
 | .tup _ => "tuple"
 | .lst _ => "list"
 | .DK _ => "NoneType"
 | .Bj _ _ _ => "dict"
 | .ins _ _ _ => "NoneType"
noncomputable def EB (T:String) (d:D):Bool:=(gZ d == T) || (gZ d == "bool" && T == "int")
noncomputable def J9 (T:String) (d:D):M D:=match d with
 | .DK _=>.bad
 | .ins _ _ _=>.bad
 |d=>.ok (.bl (EB T d))
noncomputable def Um:D->Bool
 | .DK _=>true
 | .ins _ _ _=>true
 |_=>false
theorem QZ {T:String}{d:D}(h:Um d=false):J9 T d=.ok (.bl (EB T d)):=by cases d<;>first | rfl | cases h
noncomputable def tE (K:za) (T:String):List V->Hp->VK->Prop:=fun xs H Q=>∃ x d,xs=[x,.ty T]/\BL K H x d/\Um d=false/\Q (.bl (EB T d)) H
theorem Xw {T:String}(hk:∀ d:D,PySem.W.kitOne X.K (.type (gZ d)) (.type T)=some (EB T d)):Gn X (.builtin "isinstance") (tE X.K T):=by
 intro pins s σ H xs us Q I r h
 obtain⟨x,d,rfl,hd,hx,q⟩:=h
 obtain⟨u,w,rfl,rx,b5⟩:=r.two
 cases b5
 have fin:∀ tk,EP X pins σ Q (.bool (EB T d)) { s with toks:=tk }:=fun tk=>⟨.bl _,H,I.tok tk,rfl,q⟩
 have e:=hk d
 cases hd with
 |DK _ _=>cases hx
 |ins _ _ _=>cases hx
 |Iq hs hl =>
  cases rx
  obtain⟨⟨o,h1,h2⟩,_,_⟩:=SQ I (.inl ⟨_,.inl hs⟩)
  exact zae PySem.W.kitx_dict I.Nz ⟨o,h1,h2⟩ e (fun z=>nomatch z) fin
 |Ir hs hl =>
  cases rx
  obtain⟨⟨o,h1,h2⟩,_,_⟩:=SQ I (.inr ⟨_,.inl hs⟩)
  exact zae PySem.W.kitx_dict I.Nz ⟨o,h1,h2⟩ e (fun z=>nomatch z) fin
 |AA=>cases rx;exact zae PySem.W.kitx_none I.Nz zaq e (fun z=>nomatch z) fin
 |bl b=>cases rx;exact zae PySem.W.kitx_bool I.Nz zaq e (fun z=>nomatch z) fin
 |int b=>obtain⟨t,rfl⟩:=rx;exact zae PySem.W.kitx_int I.Nz zaq e (fun z=>nomatch z) fin
 |str b=>obtain⟨t,rfl⟩:=rx;exact zae PySem.W.kitx_str I.Nz zaq e (fun z=>nomatch z) fin
 |tup hs hl =>
  cases rx
  obtain⟨_,_,⟨o,h1,h2,_⟩,_⟩:=I.tuple (.of hs)
  exact zae PySem.W.kitx_tuple I.Nz ⟨o,h1,h2⟩ e (fun z=>nomatch z) fin
 |lst hs hl =>
  cases rx
  obtain⟨_,_,⟨o,n,h1,h2,_⟩,_⟩:=I.list hs
  exact zae PySem.W.kitx_list I.Nz ⟨o,h1,h2⟩ e (fun z=>nomatch z) fin
theorem Fy {T:String}{x2:Str}{p2:Pos}(hk:∀ d:D,PySem.W.kitOne X.K (.type (gZ d)) (.type T)=some (EB T d)) (hg:Gl X "isinstance") (hm:X.mg "isinstance" = none) (jg:Gl X x2) (ce:X.mg x2=none) (wj:bootBuiltins x2=some (.type T)) (ha:DE X WX c e f)
 (hb:bootBuiltins "isinstance" = some (.builtin "isinstance"):=by decide +kernel) (aK:x2 ≠ "__name__" := by decide) (nl:(x2 == ("__debug__" : Str))=false:=by decide) (hs:starEach [e,.Name x2 p2] X.env=(false,eval e X.env)::starEach [.Name x2 p2] X.env:=by rfl) (bi:starEach [.Name x2 p2] X.env=[(false,eval (.Name x2 p2) X.env)]:=by rfl)
 (a4:(backTo pos (starEach [.Name x2 p2] X.env)).any (·.1)=false:=by rfl) :
 DE X WX c (.Call (.Name "isinstance" p) [e,.Name x2 p2] [] pos) (fun ρ=>(f ρ).bind fun d=>J9 T d):=by
 obtain⟨ta,a1,a2⟩:=ha
 refine⟨_,QL (Xw hk) hg hm hb (Bi a1 (Bi (Zl (v:=.ty T) jg ce wj rfl aK nl) Cj bi) hs) (by decide) (by decide) hs a4,fun P0 P σ H Q ρ E h=>?_⟩
 dsimp only at h
 refine a2 P0 P σ H _ ρ E ?_
 cases q:f ρ with
 |bad=>rw[q] at h;exact h
 |ex x=>rw[q] at h;exact h
 |ok d =>
  rw[q] at h
  simp only[M.A8] at h
  cases hx:Um d with
  |true=>cases d<;>first|exact h.elim|cases hx
  |false =>
   rw[QZ hx] at h
   exact fun v H1 s1 hv=>⟨v,d,rfl,hv.mono Ea,hx,h _ H1 s1 (.bl _)⟩
theorem Mr (K:za) (d:D):PySem.W.kitOne K (.type (gZ d)) (.type "tuple")=some (EB "tuple" d):=by cases d<;>rfl
theorem Ko (K:za) (d:D):PySem.W.kitOne K (.type (gZ d)) (.type "list")=some (EB "list" d):=by cases d<;>rfl
theorem Oh (K:za) (d:D):PySem.W.kitOne K (.type (gZ d)) (.type "bool")=some (EB "bool" d):=by cases d<;>rfl
theorem R3 (K:za) (d:D):PySem.W.kitOne K (.type (gZ d)) (.type "int")=some (EB "int" d):=by cases d<;>rfl
noncomputable def mZ (lo hi:Option Int) (d:D):M D:=match d with
 | .lst ds=>.ok (.lst ((ds.drop (HT.Mb ds.length 0 lo)).take (HT.Mb ds.length ds.length hi - HT.Mb ds.length 0 lo)))
 |_=>.bad
noncomputable def DO (X:Cx) (WX:Str->Hp->Prop) (c:Bool) (e:Option Expr) (f:Ab->M (Option Int)):Prop :=
 ∃ t,PO X e t/\∀ P0 P σ H Q ρ,An X.K P0 P H σ ρ->(match f ρ with | .ok o=>∀ H',Ad H H'->Q o H' | .ex x=>∀ H',Ad H H'->WX x H' | .bad=>False)->t σ H Q
theorem Uo:DO X WX c none (fun _=>.ok none):=⟨_,Zy,fun P0 P σ H Q ρ E h=>h H (Ad.refl H)⟩
noncomputable def uJ (d:D):M (Option Int):=match d with | .int i=>.ok (some i) | _=>.bad
theorem Lu (ha:DE X WX c e f):DO X WX c (some e) (fun ρ=>(f ρ).bind uJ):=by
 obtain⟨ta,a1,a2⟩:=ha
 refine⟨_,Zz a1,fun P0 P σ H Q ρ E h=>?_⟩
 dsimp only at h
 refine a2 P0 P σ H _ ρ E ?_
 cases q:f ρ with
 |bad=>rw[q] at h;exact h
 |ex x=>rw[q] at h;exact h
 |ok d =>
  rw[q] at h
  cases d with
  |int i=>exact fun v H1 s1 hv=>⟨i,hv.int_inv,h H1 s1⟩
  |_=>exact h.elim
end
end L2
namespace L2
open PySem PySem.Spec PyProof.Rows
inductive Out where
 |ret (d:D)|next (ρ:Ab)|brk (ρ:Ab)|cont (ρ:Ab)|CH (c:Cl)|Fe (t:OT) (ρ:Ab)
noncomputable def Tr (P0 P:Addr->Prop) (H:Hp) (P':Addr->Prop) (H':Hp):Prop:=Ad (del H P) (del H' P')/\∀ a,P0 a->H' a=H a
theorem Tr.refl {P0 P:Addr->Prop}{H:Hp}:Tr P0 P H P H:=⟨Ad.refl _,fun _ _=>rfl⟩
theorem Tr.trans {P0 P P1 P2:Addr->Prop}{H H1 H2:Hp}(a:Tr P0 P H P1 H1) (b:Tr P0 P1 H1 P2 H2):Tr P0 P H P2 H2:=⟨a.1.trans b.1,fun x h=>(b.2 x h).trans (a.2 x h)⟩
theorem An.tr {K:za}{P0:EA}{P:Addr->Prop}{H H':Hp}{σ:St}{ρ:Ab}(E:An K P0 P H σ ρ) (e:Ad H H'):Tr P0 P H P H' :=
 ⟨e.del,fun a h=>by obtain⟨o,q,_⟩:=E.Cp a (E.sub a h);rw[e a o q,q]⟩
noncomputable def gS (K:za) (WX:Str->Hp->Prop) (P0:EA) (P:Addr->Prop) (H:Hp) (Z:Ends):M Out->Prop
 | .ok (.ret d)=>∀ v H' P',Tr P0 P H P' H'->BL K (del H' P0) v d->Z.rt v H'
 | .ok (.next ρ)=>∀ σ' H' P',Tr P0 P H P' H'->An K P0 P' H' σ' ρ->Z.nx σ' H'
 | .ok (.brk ρ)=>∀ σ' H' P',Tr P0 P H P' H'->An K P0 P' H' σ' ρ->Z.bk σ' H'
 | .ok (.cont ρ)=>∀ σ' H' P',Tr P0 P H P' H'->An K P0 P' H' σ' ρ->Z.ct σ' H'
 | .ok (.CH c)=>∀ v fp H' P',Tr P0 P H P' H'->(∀ a,P0 a->P' a)->(∀ a,P' a->Dp H' a)->Dl K H' P' c v fp->(∀ a∈fp,P' a/\¬ P0 a)->fp.Nodup->Z.rt v H'
 | .ok (.Fe t ρ)=>∀ v fp σ' H' P',Tr P0 P H P' H'->An K P0 P' H' σ' ρ->C4 K H' P' v t fp->fp.Nodup->(∀ a∈fp,P' a/\¬ P0 a/\∀(j:Nat) c v' fq,ρ[j]? =some (some c)->σ'[j]? =some (some v')->Dl K H' P' c v' fq->a∉fq)->Z.rt v H'
 | .ex x=>∀ H' P',Tr P0 P H P' H'->WX x H'
 | .bad=>False
theorem gS.tr {K:za}{WX:Str->Hp->Prop}{P0:EA}{P P':Addr->Prop}{H H':Hp}{Z:Ends}{m:M Out}(h:gS K WX P0 P H Z m) (t:Tr P0 P H P' H'):gS K WX P0 P' H' Z m:=by
 cases m with
 |bad=>exact h
 |ex x=>exact fun H2 P2 t2=>h H2 P2 (t.trans t2)
 |ok o =>
  cases o with
  |ret d=>exact fun v H2 P2 t2 hv=>h v H2 P2 (t.trans t2) hv
  |next ρ=>exact fun σ2 H2 P2 t2 hv=>h σ2 H2 P2 (t.trans t2) hv
  |brk ρ=>exact fun σ2 H2 P2 t2 hv=>h σ2 H2 P2 (t.trans t2) hv
  |cont ρ=>exact fun σ2 H2 P2 t2 hv=>h σ2 H2 P2 (t.trans t2) hv
  |CH c=>exact fun v fp H2 P2 t2=>h v fp H2 P2 (t.trans t2)
  |Fe c ρ=>exact fun v fp σ2 H2 P2 t2=>h v fp σ2 H2 P2 (t.trans t2)
noncomputable def DS (X:Cx) (WX:Str->Hp->Prop) (st:Stmt) (g:Ab->M Out):Prop :=
 ∃ t,PS X st t/\∀ P0 P σ H Z ρ,An X.K P0 P H σ ρ->gS X.K WX P0 P H Z (g ρ)->t Z σ H
noncomputable def So (X:Cx) (WX:Str->Hp->Prop) (st:List Stmt) (g:Ab->M Out):Prop :=
 ∃ t,U5 X st t/\∀ P0 P σ H Z ρ,An X.K P0 P H σ ρ->gS X.K WX P0 P H Z (g ρ)->t Z σ H
noncomputable def ZX (m:M Out) (k:Ab->M Out):M Out:=match m with
 | .ok (.next ρ)=>k ρ
 |m=>m
section
variable {X:Cx}{WX:Str->Hp->Prop}{c:Bool}{P0:EA}{P:Addr->Prop}{H:Hp}{σ:St}{ρ:Ab}{a b e:Expr}{f g:Ab->M D}{ft gt:Ab->M Bool}{pos:Pos}{st:Stmt}{rest:List Stmt}{g1 g2:Ab->M Out}
theorem AD:So X WX [] (fun ρ=>.ok (.next ρ)):=⟨_,Zn,fun P0 P σ H Z ρ E h=>h σ H P Tr.refl E⟩
theorem A5 (h:DS X WX st g1):So X WX [st] g1:=let ⟨t,h1,h2⟩:=h;⟨_,Zo h1,h2⟩
theorem A4 (h:DS X WX st g1) (hr:So X WX rest g2):So X WX (st::rest) (fun ρ=>ZX (g1 ρ) g2):=by
 obtain⟨t,h1,h2⟩:=h
 obtain⟨u,r1,r2⟩:=hr
 refine⟨_,WO h1 r1,fun P0 P σ H Z ρ E h=>?_⟩
 dsimp only at h
 refine h2 P0 P σ H { Z with nx:=u Z } ρ E ?_
 cases q:g1 ρ with
 |bad=>rw[q] at h;exact h
 |ex x=>rw[q] at h;exact h
 |ok o =>
  rw[q] at h
  cases o with
  |ret d=>exact h
  |brk d=>exact h
  |cont d=>exact h
  |CH d=>exact h
  |Fe d ρ2=>exact h
  |next ρ'=>exact fun σ' H' P' t E'=>r2 P0 P' σ' H' Z ρ' E' (gS.tr h t)
theorem SV (ha:DE X WX false e f):DS X WX (.Return (some e) pos) (fun ρ=>(f ρ).bind fun d=>.ok (.ret d)):=by
 obtain⟨ta,a1,a2⟩:=ha
 refine⟨_,Sx a1,fun P0 P σ H Z ρ E h=>?_⟩
 dsimp only at h
 refine a2 P0 P σ H _ ρ E ?_
 cases q:f ρ with
 |bad=>rw[q] at h;exact h
 |ex x=>rw[q] at h;exact fun H' s=>h H' P (E.tr s)
 |ok d=>rw[q] at h;exact fun v H' s hv=>h v H' P (E.tr s) hv
theorem Be {c:Expr}{sa sb:List Stmt}(hc:DT X WX c ft) (ha:So X WX sa g1) (hb:So X WX sb g2):DS X WX (.If c sa sb pos) (fun ρ=>(ft ρ).bind fun k=>if k=true then g1 ρ else g2 ρ):=by
 obtain⟨tc,c1,c2⟩:=hc
 obtain⟨ta,a1,a2⟩:=ha
 obtain⟨tb,b1,b2⟩:=hb
 refine⟨_,nZ c1 a1 b1,fun P0 P σ H Z ρ E h=>?_⟩
 dsimp only at h
 refine c2 P0 P σ H _ ρ E ?_
 cases q:ft ρ with
 |bad=>rw[q] at h;exact h
 |ex x=>rw[q] at h;exact fun H' s=>h H' P (E.tr s)
 |ok k =>
  rw[q] at h
  intro H1 s1
  cases k with
  |true =>
   simp only[M.A8,if_true] at h ⊢
   exact a2 P0 P σ H1 Z ρ (E.same s1) (h.tr (E.tr s1))
  |false =>
   simp only[M.A8,zF,if_false] at h ⊢
   exact b2 P0 P σ H1 Z ρ (E.same s1) (h.tr (E.tr s1))
theorem get_set {α:Type}{l:List α}{i j:Nat}{x y:α}(h:(l.set i x)[j]? =some y):(i=j/\i < l.length/\x=y)\/(i≠j/\l[j]? =some y):=by
 by_cases e:i=j
 ·subst e
  rw[List.getElem?_set_self'] at h
  cases q:l[i]? with
  |none=>rw[q] at h;cases h
  |some z =>
   rw[q] at h
   exact .inl ⟨rfl,(zy.mp q).1,by simpa using h⟩
 ·rw[yM e] at h
  exact .inr ⟨e,h⟩
theorem An.VE {K:za}(E:An K P0 P H σ ρ){i:Nat}{v:V}{d:D}(hv:BL K (del H P) v d):An K P0 P H (σ.set i (some v)) (ρ.set i (some (.val d))):=by
 have gs:∀ {j:Nat},i≠j->(σ.set i (some v))[j]? =σ[j]? :=fun h=>yM h
 refine⟨E.sub,E.Cp,fun j e h=>?_,fun j c h io=>?_,fun j k c c' u u' fp ai h1 h2 h3 h4 h5 h6 ae=>?_,by rw[yK,yK];exact E.len,fun j c n h hp=>?_⟩
 rotate_left 3
 ·rcases get_set h with ⟨rfl,hl,e1⟩|⟨ae,h⟩
  ·cases e1;cases hp
  ·rw[gs ae];exact E.pin j c n h hp
 ·rcases get_set h with ⟨rfl,hl,e1⟩|⟨ae,h⟩
  ·cases e1
   exact⟨v,zP (by rw[E.len];exact hl),hv⟩
  ·obtain⟨w,h1,h2⟩:=E.val j e h
   exact⟨w,by rw[gs ae];exact h1,h2⟩
 ·rcases get_set h with ⟨rfl,hl,e1⟩|⟨ae,h⟩
  ·cases e1;cases io
  ·obtain⟨w,fp,h1,h2⟩:=E.ows j c h io
   exact⟨w,fp,by rw[gs ae];exact h1,h2⟩
 ·rcases get_set h1 with ⟨rfl,hl,e1⟩|⟨cf,h1⟩
  ·cases e1;exact h5.elim
  ·rcases get_set h2 with ⟨rfl,hl,e1⟩|⟨aK,h2⟩
   ·cases e1;exact h6.elim
   ·rw[gs cf] at h3
    rw[gs aK] at h4
    exact E.apart j k c c' u u' fp ai h1 h2 h3 h4 h5 h6 ae
theorem An.VF {K:za}(E:An K P0 P H σ ρ){P':Addr->Prop}{H':Hp}{i:Nat}{v:V}{c:Cl}{fp:List Addr}(hs:∀ a,P a->P' a) (ht:∀ a,P' a->Dp H' a) (sm:Ad (del H P) (del H' P'))
 (keep:∀(j:Nat) c' v' ai,i≠j->ρ[j]? =some (some c')->σ[j]? =some (some v')->Dl K H P c' v' ai->∀ a∈ai,H' a=H a/\a∉fp)
 (new:Dl K H' P' c v fp) (hp:∀ a∈fp,P' a/\¬ P0 a) (nd:fp.Nodup) (fv:∀ n,Od c=some n->v=.ref (P0.g n):=by intro n z;cases z):An K P0 P' H' (σ.set i (some v)) (ρ.set i (some c)):=by
 have gs:∀ {j:Nat},i≠j->(σ.set i (some v))[j]? =σ[j]? :=fun h=>yM h
 refine⟨fun a h=>hs a (E.sub a h),ht,fun j e h=>?_,fun j c' h io=>?_,fun j k c1 c2 u u' a7 ck h1 h2 h3 h4 h5 h6 ae=>?_,by rw[yK,yK];exact E.len,fun j c' n h hp=>?_⟩
 rotate_left 3
 ·rcases get_set h with ⟨rfl,hl,e1⟩|⟨ae,h⟩
  ·cases e1;rw[zP (by rw[E.len];exact hl),fv n hp]
  ·rw[gs ae];exact E.pin j c' n h hp
 ·rcases get_set h with ⟨rfl,hl,e1⟩|⟨ae,h⟩
  ·cases e1;exact new.elim
  ·obtain⟨w,h1,h2⟩:=E.val j e h
   exact⟨w,by rw[gs ae];exact h1,h2.mono sm⟩
 ·rcases get_set h with ⟨rfl,hl,e1⟩|⟨ae,h⟩
  ·cases e1
   exact⟨v,fp,zP (by rw[E.len];exact hl),new,hp,nd⟩
  ·obtain⟨w,fq,h1,h2,h3,h4⟩:=E.ows j c' h io
   exact⟨w,fq,by rw[gs ae];exact h1,h2.move sm fun a ha=>(keep j c' w fq ae h h1 h2 a ha).1,fun a ha=>⟨hs a (h3 a ha).1,(h3 a ha).2⟩,h4⟩
 ·have back:∀(l:Nat) (d:Cl) (w:V) (fq:List Addr),i≠l->ρ[l]? =some (some d)->σ[l]? =some (some w)->Dl K H' P' d w fq->∃ fr,Dl K H P d w fr/\fr=fq:=fun l d w fq hn hk sk ho=>by
   have io:Iv d=true:=by cases d<;>first|rfl|exact ho.elim
   obtain⟨w',ck,s2,o2,_⟩:=E.ows l d hk io
   rw[sk] at s2;cases s2
   exact⟨ck,o2,(o2.move sm fun a ha=>(keep l d w ck hn hk sk o2 a ha).1).Cq ho⟩
  rcases get_set h1 with ⟨rfl,hl,e1⟩|⟨cf,h1⟩
  ·cases e1
   rw[zP (by rw[E.len];exact hl)] at h3
   cases h3
   rcases get_set h2 with ⟨e,_⟩|⟨aK,h2⟩
   ·exact (ae e).elim
   ·rw[gs aK] at h4
    obtain⟨fr,o,rfl⟩:=back k c2 u' ck aK h2 h4 h6
    intro a ha hb
    rw[new.Cq h5] at keep
    exact (keep k c2 u' fr aK h2 h4 o a hb).2 ha
  ·rw[gs cf] at h3
   obtain⟨fr,o,rfl⟩:=back j c1 u a7 cf h1 h3 h5
   rcases get_set h2 with ⟨rfl,hl,e1⟩|⟨aK,h2⟩
   ·cases e1
    rw[zP (by rw[E.len];exact hl)] at h4
    cases h4
    intro a ha
    rw[new.Cq h6] at keep
    exact (keep j c1 u fr cf h1 h3 o a ha).2
   ·rw[gs aK] at h4
    obtain⟨nq,o2,rfl⟩:=back k c2 u' ck aK h2 h4 h6
    exact E.apart j k c1 c2 u u' fr nq h1 h2 h3 h4 o o2 ae
theorem An.pN {K:za}(E:An K P0 P H σ ρ){P':Addr->Prop}{H':Hp}{i:Nat}{v:V}{c:Cl}{fp:List Addr}(hs:∀ a,P0 a->P' a) (ht:∀ a,P' a->Dp H' a) (sm:Ad (del H P) (del H' P'))
 (keep:∀(j:Nat) c' v' ai,i≠j->ρ[j]? =some (some c')->σ[j]? =some (some v')->Dl K H P c' v' ai->∀ a∈ai,H' a=H a/\a∉fp/\P' a)
 (new:Dl K H' P' c v fp) (hp:∀ a∈fp,P' a/\¬ P0 a) (nd:fp.Nodup) (fv:∀ n,Od c=some n->v=.ref (P0.g n):=by intro n z;cases z):An K P0 P' H' (σ.set i (some v)) (ρ.set i (some c)):=by
 have gs:∀ {j:Nat},i≠j->(σ.set i (some v))[j]? =σ[j]? :=fun h=>yM h
 refine⟨hs,ht,fun j e h=>?_,fun j c' h io=>?_,fun j k c1 c2 u u' a7 ck h1 h2 h3 h4 h5 h6 ae=>?_,by rw[yK,yK];exact E.len,fun j c' n h hp=>?_⟩
 rotate_left 3
 ·rcases get_set h with ⟨rfl,hl,e1⟩|⟨ae,h⟩
  ·cases e1;rw[zP (by rw[E.len];exact hl),fv n hp]
  ·rw[gs ae];exact E.pin j c' n h hp
 ·rcases get_set h with ⟨rfl,hl,e1⟩|⟨ae,h⟩
  ·cases e1;exact new.elim
  ·obtain⟨w,h1,h2⟩:=E.val j e h
   exact⟨w,by rw[gs ae];exact h1,h2.mono sm⟩
 ·rcases get_set h with ⟨rfl,hl,e1⟩|⟨ae,h⟩
  ·cases e1
   exact⟨v,fp,zP (by rw[E.len];exact hl),new,hp,nd⟩
  ·obtain⟨w,fq,h1,h2,h3,h4⟩:=E.ows j c' h io
   exact⟨w,fq,by rw[gs ae];exact h1,h2.move sm fun a ha=>(keep j c' w fq ae h h1 h2 a ha).1,fun a ha=>⟨(keep j c' w fq ae h h1 h2 a ha).2.2,(h3 a ha).2⟩,h4⟩
 ·have back:∀(l:Nat) (d:Cl) (w:V) (fq:List Addr),i≠l->ρ[l]? =some (some d)->σ[l]? =some (some w)->Dl K H' P' d w fq->∃ fr,Dl K H P d w fr/\fr=fq:=fun l d w fq hn hk sk ho=>by
   have io:Iv d=true:=by cases d<;>first|rfl|exact ho.elim
   obtain⟨w',ck,s2,o2,_⟩:=E.ows l d hk io
   rw[sk] at s2;cases s2
   exact⟨ck,o2,(o2.move sm fun a ha=>(keep l d w ck hn hk sk o2 a ha).1).Cq ho⟩
  rcases get_set h1 with ⟨rfl,hl,e1⟩|⟨cf,h1⟩
  ·cases e1
   rw[zP (by rw[E.len];exact hl)] at h3
   cases h3
   rcases get_set h2 with ⟨e,_⟩|⟨aK,h2⟩
   ·exact (ae e).elim
   ·rw[gs aK] at h4
    obtain⟨fr,o,rfl⟩:=back k c2 u' ck aK h2 h4 h6
    intro a ha hb
    rw[new.Cq h5] at keep
    exact (keep k c2 u' fr aK h2 h4 o a hb).2.1 ha
  ·rw[gs cf] at h3
   obtain⟨fr,o,rfl⟩:=back j c1 u a7 cf h1 h3 h5
   rcases get_set h2 with ⟨rfl,hl,e1⟩|⟨aK,h2⟩
   ·cases e1
    rw[zP (by rw[E.len];exact hl)] at h4
    cases h4
    intro a ha
    rw[new.Cq h6] at keep
    exact (keep j c1 u fr cf h1 h3 o a ha).2.1
   ·rw[gs aK] at h4
    obtain⟨nq,o2,rfl⟩:=back k c2 u' ck aK h2 h4 h6
    exact E.apart j k c1 c2 u u' fr nq h1 h2 h3 h4 o o2 ae
theorem Kq {α:Type}:∀ {l:List α}{i:Nat}{x:α},l[i]? =some x->l.set i x=l
 |[],_,_,h=>by cases h
 |y::r,0,x,h=>by cases h;rfl
 |y::r,i + 1,x,h=>by rw[zm,Kq (by simpa using h)]
theorem An.mut {K:za}(E:An K P0 P H σ ρ){i p:Nat}{xs:List V}{ds jh:List D}(ho:ρ[i]? =some (some (.own ds))) (hs:σ[i]? =some (some (.ref p))) (pP:P p) (lj:¬ P0 p) (hx:Ah K (del H P) xs jh) :
 An K P0 P (upd H p (.lst xs)) σ (ρ.set i (some (.own jh)))/\Tr P0 P H P (upd H p (.lst xs)):=by
 have sd:del (upd H p (.lst xs)) P=del H P:=by
  funext b
  by_cases hb:P b
  ·rw[D2 hb,D2 hb]
  ·rw[Ax hb,Ax hb,Ag (fun z=>hb (by rw[z];exact pP))]
 have sm:Ad (del H P) (del (upd H p (.lst xs)) P):=by rw[sd];exact Ad.refl _
 obtain⟨v,fp,s1,o1,_⟩:=E.ows i _ ho rfl
 rw[hs] at s1;cases s1
 have key:=E.VF (P':=P) (H':=upd H p (.lst xs)) (i:=i) (v:=.ref p) (c:=.own jh) (fp:=[p]) (fun a h=>h) (fun a h=>?_) sm (fun j c' v' ai ae h1 h2 h3 a ha=>?_) ⟨p,xs,rfl,rfl,Ar,by rw[sd];exact hx⟩ (fun a ha=>by rw[zh.mp ha];exact⟨pP,lj⟩) (by simp)
 ·rw[Kq hs] at key
  exact⟨key,sm,fun a h=>by rw[Ag (fun z=>lj (by rw[<-z];exact h))]⟩
 ·by_cases ha:a=p
  ·subst ha;exact Dp.lst Ar
  ·unfold Dp;rw[Ag ha];exact E.Cp a h
 ·obtain⟨p',dw,e,rfl,_⟩:=o1
  cases e
  have hn:a≠p:=fun z=>E.apart j i c' _ v' _ ai [p] h1 ho h2 hs h3 ⟨p,dw,rfl,rfl,by assumption⟩ (yE ae) a ha (by rw[z];exact zh.mpr rfl)
  exact⟨Ag hn,fun z=>hn (zh.mp z)⟩
theorem An.grow {K:za}(E:An K P0 P H σ ρ){i p:Nat}{xs:List V}{ds:List D}{v:V}{d:D}(ho:ρ[i]? =some (some (.own ds))) (hs:σ[i]? =some (some (.ref p))) (hp:H p=some (.lst xs)) (pP:P p) (lj:¬ P0 p) (hx:Ah K (del H P) xs ds) (hv:BL K (del H P) v d) :
 An K P0 P (upd H p (.lst (xs++[v]))) σ (ρ.set i (some (.own (ds++[d]))))/\Tr P0 P H P (upd H p (.lst (xs++[v]))):=E.mut ho hs pP lj (hx.snoc hv)
theorem AQ (i:Nat){x:Str}{pos':Pos}(hN:X.N.Nodup) (hi:X.N[i]? =some x) (hx:Loc X.env.scope x) (ha:DE X WX true e f) (hs:swapsWith e (some (.Name x pos')) pos.line X.env=pure false:=by rfl) (hf:X.fn x=true\/X.env.scope.names.lookup x=some .local:=by first | exact .inl rfl | exact .inr rfl | assumption) :
 DS X WX (.Assign [.Name x pos'] e pos) (fun ρ=>(f ρ).bind fun d=>.ok (.next (ρ.set i (some (.val d))))):=by
 obtain⟨ta,a1,a2⟩:=ha
 refine⟨_,Sy hN hi hx a1 hs hf,fun P0 P σ H Z ρ E h=>?_⟩
 dsimp only at h
 refine a2 P0 P σ H _ ρ E ?_
 cases q:f ρ with
 |bad=>rw[q] at h;exact h
 |ex x=>rw[q] at h;exact fun H' s=>h H' P (E.tr s)
 |ok d=>rw[q] at h;exact fun v H' s hv=>h _ H' P (E.tr s) ((E.same s).VE hv)
noncomputable def VG (i:Nat) (ρ:Ab) (m:M D):M Out:=match ρ[i]? with
 |some (some (.own ds))=>m.bind fun d=>if ds.length < 1000 then .ok (.next (ρ.set i (some (.own (ds++[d]))))) else .bad
 |_=>.bad
theorem DM (i:Nat){x:Str}{p1 apos ad:Pos}(hv:PE X (.Name x p1) (Lc i)) (ha:DE X WX true e f) (hs:starEach [e] X.env=[(false,eval e X.env)]:=by rfl)
 (bL:swapsWith (.Call (.Attribute (.Name x p1) "append" apos) [e] [] ad) none pos.line X.env=pure false:=by rfl)
 (a8:attributeBase (.Name x p1) "append" X.env (eval (.Name x p1) X.env)=eval (.Name x p1) X.env:=by rfl)
 (aV:((backTo ad (starEach [e] X.env)).all (fun x => !x.1) && (backToKw ad (keywordEach [] X.env)).all (fun x=>x.1.isSome) && decide (([e]:List Expr).length + ([]:List Keyword).length + (if ([]:List Keyword).isEmpty then 0 else 1) < 30))=true:=by rfl)
 (a9:(apos.endLine == ad.line)=true:=by rfl) (ar:(backTo ad (starEach [] X.env)).any (·.1)=false:=by rfl) :
 DS X WX (.Expr (.Call (.Attribute (.Name x p1) "append" apos) [e] [] ad) pos) (fun ρ=>VG i ρ (f ρ)):=by
 obtain⟨ta,a1,a2⟩:=ha
 refine⟨_,Hi (QO zal PySem.F.slot_list_append PySem.F.type_list_append O9 hv (Bi a1 Cj hs) a8 aV a9 hs ar) bL,fun P0 P σ H Z ρ E h=>?_⟩
 dsimp only at h
 unfold VG at h
 split at h
 ·rename_i ds e1
  obtain⟨p,xs,h1,h2,h3,h4,h5⟩:=E.own i ds e1
  refine⟨_,h1,.inl ⟨rfl,xs,.of h2⟩,?_⟩
  refine a2 P0 P σ H _ ρ E ?_
  cases q:f ρ with
  |bad=>rw[q] at h;exact h
  |ex y=>rw[q] at h;exact fun H' s=>h H' P (E.tr s)
  |ok d =>
   rw[q] at h
   simp only[M.A8] at h
   by_cases hl:ds.length < 1000
   ·rw[if_pos hl] at h
    intro v H1 s1 hv
    have E1:=E.same s1
    have ic:H1 p=some (.lst xs):=s1 _ _ h2
    refine⟨p,xs,v,rfl,rfl,ic,AG (by rw[h5.length];omega),?_⟩
    obtain⟨E2,t2⟩:=E1.grow e1 h1 ic h3 h4 (h5.mono s1.del) hv
    exact h _ _ _ ((E.tr s1).trans t2) E2
   ·rw[if_neg hl] at h;exact h.elim
 ·exact h.elim
end
end L2
namespace L2
open PySem PySem.Spec PyProof.Rows
noncomputable def gG (K:za) (P0:EA) (P:Addr->Prop) (H:Hp) (Q:St->Hp->Prop):M Ab->Prop
 | .ok ρ=>∀ σ',An K P0 P H σ' ρ->Q σ' H
 |_=>False
noncomputable def DG (X:Cx) (tg:Expr) (gt:D->Ab->M Ab):Prop :=
 ∃ g:TG,PG X tg g/\∀ P0 P σ H Q ρ v d,An X.K P0 P H σ ρ->BL X.K (del H P) v d->gG X.K P0 P H Q (gt d ρ)->g v σ H Q
noncomputable def rD (X:Cx) (wk:List Expr) (gt:List D->Ab->M Ab):Prop :=
 ∃ g:WC,mW X wk g/\∀ P0 P σ H Q ρ v d,An X.K P0 P H σ ρ->Ah X.K (del H P) v d->gG X.K P0 P H Q (gt d ρ)->g v σ H Q
structure ZY (K:za) (J:It) (P:Addr->Prop) (H:Hp) (ds:List D):Prop where
 go:∀(i:Nat) P' H',Ad (del H P) (del H' P')->i < ds.length->J.go i H'
 stop:∀(i:Nat) P' H',Ad (del H P) (del H' P')->ds.length<=i->J.stop i H'
 gN:∀(i:Nat) P' H' v f6 d,Ad (del H P) (del H' P')->(∀ a,P' a->Dp H' a)->ds[i]? =some d->J.gN i H' v f6->Ad H' f6/\BL K (del f6 P') v d
noncomputable def DI (X:Cx) (WX:Str->Hp->Prop) (tg iter:Expr) (f:Ab->M (List D)):Prop :=
 ∃ wi,PI X tg iter wi/\∀ P0 P σ H R ρ,An X.K P0 P H σ ρ->(match f ρ with | .ok ds=>∀ J H',Ad H H'->ZY X.K J P H' ds->R J H' | .ex x=>∀ H',Ad H H'->WX x H' | .bad=>False)->wi σ H R
noncomputable def forM (gt:D->Ab->M Ab) (body:Ab->M Out):List D->Ab->M Out
 |[],ρ=>.ok (.next ρ)
 |d::r,ρ=>match gt d ρ with
  | .ok ρ1=>(match body ρ1 with
   | .ok (.next ρ2)=>forM gt body r ρ2
   | .ok (.cont ρ2)=>forM gt body r ρ2
   | .ok (.brk ρ2)=>.ok (.next ρ2)
   |m=>m)
  |_=>.bad
section
variable {X:Cx}{WX:Str->Hp->Prop}{c:Bool}{P0:EA}{P:Addr->Prop}{H:Hp}{σ:St}{ρ:Ab}{a b e tg iter:Expr}{f g:Ab->M D}{ft:Ab->M Bool}{pos:Pos}{gt:D->Ab->M Ab}{cU:List D->Ab->M Ab}{gb:Ab->M Out}{fi:Ab->M (List D)}
theorem AS (i:Nat){x:Str}(hN:X.N.Nodup) (hi:X.N[i]? =some x) (hx:Loc X.env.scope x) (hf:X.fn x=true\/X.env.scope.names.lookup x=some .local:=by first | exact .inl rfl | exact .inr rfl | assumption):DG X (.Name x pos) (fun d ρ=>.ok (ρ.set i (some (.val d)))) :=
 ⟨_,P6 hN hi hx hf,fun P0 P σ H Q ρ v d E hv h=>h _ (E.VE hv)⟩
theorem Up:rD X [] (fun ds ρ=>match ds with | []=>.ok ρ | _=>.bad):=⟨_,U6,fun P0 P σ H Q ρ v d E hv h=>by
 cases hv with
 |nil=>exact⟨rfl,h σ E⟩
 |cons _ _=>exact h.elim⟩
theorem Ja {es:List Expr}(h1:DG X e gt) (h2:rD X es cU) (hs:(assignEach (e::es) X.env).map (·.2)=assign e X.env::(assignEach es X.env).map (·.2):=by rfl) :
 rD X (e::es) (fun ds ρ=>match ds with|d::r=>(gt d ρ).bind (cU r)|[]=>.bad):=by
 obtain⟨t,a1,a2⟩:=h1
 obtain⟨u,b1,b2⟩:=h2
 refine⟨_,QJ a1 b1 hs,fun P0 P σ H Q ρ v d E hv h=>?_⟩
 cases hv with
 |nil=>exact h.elim
 | @cons x d xs ds hx cg =>
  refine⟨x,xs,rfl,a2 P0 P σ H _ ρ x d E hx ?_⟩
  dsimp only at h
  cases q:gt d ρ with
  |bad=>rw[q] at h;exact h
  |ex y=>rw[q] at h;exact h
  |ok ρ1=>rw[q] at h;exact fun σ' E'=>b2 P0 P σ' H Q ρ1 xs ds E' cg h
theorem Xx {es:List Expr}{k n:Nat}(hc:X.calm=true) (h:rD X es cU) (hn:(assignEach es X.env).length=n:=by rfl) (aY:(assignEach es X.env).findIdx? (·.1)=none:=by rfl) :
 DG X (.Tuple es k pos) (fun d ρ=>match d with | .tup ds=>if ds.length=n then cU ds ρ else .bad|_=>.bad):=by
 obtain⟨t,a1,a2⟩:=h
 refine⟨_,WR hc a1 hn aY,fun P0 P σ H Q ρ v d E hv h=>?_⟩
 cases hv with
 | @tup a xs ds hs hl =>
  dsimp only at h
  by_cases hd:ds.length=n
  ·rw[if_pos hd] at h
   exact⟨a,xs,rfl,Fs.of (Am hs).2,by rw[hl.length];exact hd,a2 P0 P σ H Q ρ xs ds E hl h⟩
  ·rw[if_neg hd] at h;exact h.elim
 |_=>exact h.elim
theorem AZ (ha:DE X WX true e f):DI X WX tg e (fun ρ=>(f ρ).bind fun d=>match d with | .lst ds=>.ok ds | _=>.bad):=by
 obtain⟨ta,a1,a2⟩:=ha
 refine⟨_,Zp a1,fun P0 P σ H R ρ E h=>?_⟩
 dsimp only at h
 refine a2 P0 P σ H _ ρ E ?_
 cases q:f ρ with
 |bad=>rw[q] at h;exact h
 |ex x=>rw[q] at h;exact h
 |ok d =>
  rw[q] at h
  cases d with
  |lst ds =>
   intro v H1 s1 hv
   cases hv with
   | @lst a xs _ hs hl =>
    refine⟨a,rfl,⟨xs,hs.Bo⟩,h _ H1 s1 ⟨fun i P' H' s hi=>?_,fun i P' H' s hi=>?_,fun i P' H' v f6 d s ht hd y=>?_⟩⟩
    ·obtain⟨x,hx,_⟩:=hl.get (zq hi)
     exact⟨xs,x,(s.seq hs).Bo,hx⟩
    ·exact⟨xs,(s.seq hs).Bo,by rw[hl.length];exact hi⟩
    ·obtain⟨rfl,y⟩:=y
     obtain⟨x,hx,bS⟩:=hl.get hd
     have e:=y xs (s.seq hs).Bo
     rw[hx] at e
     cases e
     exact⟨Ad.refl _,bS.mono s⟩
  |_=>exact h.elim
noncomputable def C6 (lo:Int):Nat->List D
 |0=>[]
 |n + 1=>.int lo::C6 (lo + 1) n
theorem B6 (lo:Int):∀ n:Nat,(C6 lo n).length=n:=by
 intro n
 induction n generalizing lo with
 |zero=>rfl
 |succ n ih=>rw[C6,zo,ih]
theorem Bv {lo:Int}{n i:Nat}{d:D}(h:(C6 lo n)[i]? =some d):d=.int (lo + i)/\i < n:=by
 have hi:i < n:=by
  have:=(zy.mp h).1
  rw[B6] at this;exact this
 refine⟨?_,hi⟩
 induction n generalizing lo i with
 |zero=>omega
 |succ n ih =>
  cases i with
  |zero=>rw[C6] at h;simp at h;rw[<-h];simp
  |succ i =>
   rw[C6,zS] at h
   rw[ih h (by omega)]
   congr 1
   omega
theorem SW {K:za}{P:Addr->Prop}{H:Hp}(lo:Int) (n:Nat):ZY K (qX lo n) P H (C6 lo n) :=
 ⟨fun i P' H' _ hi=>by rw[B6] at hi;exact hi,fun i P' H' _ hi=>by rw[B6] at hi;exact hi,fun i P' H' v f6 d _ _ hd y=>by
  obtain⟨rfl,rfl⟩:=y
  obtain⟨rfl,_⟩:=Bv hd
  exact⟨Ad.refl _,.int _⟩⟩
noncomputable def R4:D->M (List D)
 | .int j=>@ite _ (-(2 ^ 62)<=j/\j < 2 ^ 62) (zbf _) (.ok (C6 0 j.toNat)) .bad
 |_=>.bad
theorem R5 {j:Int}(h1 : -(2 ^ 62)<=j) (h2:j < 2 ^ 62):R4 (.int j)=.ok (C6 0 j.toNat):=if_pos ⟨h1,h2⟩
theorem Ff {n:Nat}(h:n<=1000):R4 (.int (n:Int))=.ok (C6 0 n):=by
 rw[R5 (by omega) (by omega),yN]
theorem BU {p:Pos}(hg:Gl X "range") (hm:X.mg "range" = none) (ha:DE X WX c a f) (hs:starEach [a] X.env=[(false,eval a X.env)]:=by rfl) :
 DI X WX tg (.Call (.Name "range" p) [a] [] pos) (fun ρ=>(f ρ).bind R4):=by
 obtain⟨ta,a1,a2⟩:=ha
 refine⟨_,Vm hg hm (Bi a1 Cj hs) hs,fun P0 P σ H R ρ E h=>?_⟩
 dsimp only at h
 refine a2 P0 P σ H _ ρ E ?_
 cases q:f ρ with
 |bad=>rw[q] at h;exact h
 |ex x=>rw[q] at h;exact h
 |ok d =>
  rw[q] at h
  cases d with
  |int j =>
   simp only[M.A8] at h
   by_cases hj : -(2 ^ 62)<=j/\j < 2 ^ 62
   ·rw[R5 hj.1 hj.2] at h
    exact fun v H1 s1 hv=>⟨j,by rw[hv.int_inv],hj.1,hj.2,h _ H1 s1 (SW 0 _)⟩
   ·have e:R4 (.int j)=.bad:=if_neg hj
    rw[e] at h;exact h.elim
  |_=>exact h.elim
noncomputable def HZ (k:Nat):List D->List D
 |[]=>[]
 |d::r=>.tup [.int k,d]::HZ (k + 1) r
theorem DQ (k:Nat) (ds:List D):(HZ k ds).length=ds.length:=by
 induction ds generalizing k with
 |nil=>rfl
 |cons d r ih=>rw[HZ,zo,zo,ih]
theorem Hn {k i:Nat}{ds:List D}{e:D}(h:(HZ k ds)[i]? =some e):∃ d,ds[i]? =some d/\e=.tup [.int ((k + i:Nat):Int),d]:=by
 induction ds generalizing k i with
 |nil=>rw[HZ] at h;simp at h
 |cons d r ih =>
  cases i with
  |zero=>rw[HZ] at h;simp at h;exact⟨d,rfl,by rw[<-h];rfl⟩
  |succ i =>
   rw[HZ,zS] at h
   obtain⟨d',h1,h2⟩:=ih h
   refine⟨d',by simpa using h1,?_⟩
   rw[h2]
   congr 3
   omega
theorem Po {c4:List Expr}{x1}{bH p:Pos}(hg:Gl X "enumerate") (hm:X.mg "enumerate" = none) (ha:DE X WX true a f) (hb:bootBuiltins "enumerate" = some (.type "enumerate"):=by decide +kernel) (hs:starEach [a] X.env=[(false,eval a X.env)]:=by rfl) :
 DI X WX (.Tuple c4 x1 bH) (.Call (.Name "enumerate" p) [a] [] pos) (fun ρ=>(f ρ).bind fun d=>match d with | .lst ds=>.ok (HZ 0 ds)|_=>.bad):=by
 obtain⟨ta,a1,a2⟩:=ha
 refine⟨_,ZR hg hm (Bi a1 Cj hs) hb hs,fun P0 P σ H R ρ E h=>?_⟩
 dsimp only at h
 refine a2 P0 P σ H _ ρ E ?_
 cases q:f ρ with
 |bad=>rw[q] at h;exact h
 |ex x=>rw[q] at h;exact h
 |ok d =>
  rw[q] at h
  cases d with
  |lst ds =>
   intro v H1 s1 hv
   cases hv with
   | @lst a xs _ hs hl =>
    refine⟨a,rfl,⟨xs,hs.Bo⟩,h _ H1 s1 ⟨fun i P' H' s hi=>?_,fun i P' H' s hi=>?_,fun i P' H' v f6 d s ht hd y=>?_⟩⟩
    ·rw[DQ] at hi
     obtain⟨x,hx,_⟩:=hl.get (zq hi)
     exact⟨xs,x,(s.seq hs).Bo,hx⟩
    ·rw[DQ] at hi
     exact⟨xs,(s.seq hs).Bo,by rw[hl.length];exact hi⟩
    ·obtain⟨p,x,hn,rfl,y,rfl⟩:=y
     obtain⟨d',aJ,rfl⟩:=Hn hd
     obtain⟨x',hx,bS⟩:=hl.get aJ
     have e:=y xs (s.seq hs).Bo
     rw[hx] at e
     cases e
     refine⟨AN hn _,.tup (J6 hn ht) (.cons ?_ (.cons ((bS.mono s).mono (AN hn _).del) .nil))⟩
     rw[Nat.zero_add]
     exact .int _
  |_=>exact h.elim
theorem Jb {α:Type}{l:List α}{i:Nat}(h:i < l.length):l.drop i=l[i]::l.drop (i + 1):=zb8 h
theorem Bw {body:List Stmt}(hp:PassesOwn (model X.prog X.w) X.A X.env X.xe) (hc:X.calm=true) (hi:DI X WX tg iter fi) (hg:DG X tg gt) (hb:So X WX body gb) (hs:∀ x,foldedSetIterable iter X.env x=pure x:=by intro _;rfl) :
 DS X WX (.For tg iter body [] pos) (fun ρ=>(fi ρ).bind fun ds=>forM gt gb ds ρ):=by
 obtain⟨wi,i1,i2⟩:=hi
 obtain⟨t,a1,a2⟩:=hg
 obtain⟨tb,b1,b2⟩:=hb
 refine⟨_,jI hp hc i1 a1 b1 hs,fun P0 P σ H Z ρ E h=>?_⟩
 dsimp only at h
 refine i2 P0 P σ H _ ρ E ?_
 cases q:fi ρ with
 |bad=>rw[q] at h;exact h
 |ex x=>rw[q] at h;exact fun H' s=>h H' P (E.tr s)
 |ok ds =>
  rw[q] at h
  simp only[M.A8] at h
  intro J H1 s1 ok
  refine⟨fun i m σ' H'=>m=ds.length - i/\i<=ds.length/\∃ P' ρ',Tr P0 P H1 P' H'/\An X.K P0 P' H' σ' ρ'/\gS X.K WX P0 P' H' Z (forM gt gb (ds.drop i) ρ'),
   ⟨ds.length,by simp,zX _,P,ρ,Tr.refl,E.same s1,by rw[List.drop_zero];exact h.tr (E.tr s1)⟩,?_⟩
  rintro i m σ' H' ⟨rfl,hi,P',ρ',t',E',g'⟩
  by_cases aj:i < ds.length
  ·refine .inr ⟨ok.go i P' H' t'.1 aj,fun σ2 H2=>i + 1<=ds.length/\∃ P2 ρ2,Tr P0 P H1 P2 H2/\An X.K P0 P2 H2 σ2 ρ2/\gS X.K WX P0 P2 H2 Z (forM gt gb (ds.drop (i + 1)) ρ2),fun σ2 H2 hq=>⟨ds.length - (i + 1),by omega,rfl,hq.1,hq.2⟩,fun v H2 y=>?_⟩
   obtain⟨s2,hv⟩:=ok.gN i P' H' v H2 ds[i] t'.1 E'.Cp (zq aj) y
   rw[Jb aj,forM] at g'
   have E2:=E'.same s2
   refine a2 P0 P' σ' H2 _ ρ' v ds[i] E2 hv ?_
   cases q1:gt ds[i] ρ' with
   |bad=>rw[q1] at g';exact g'
   |ex x=>rw[q1] at g';exact g'.elim
   |ok ρ1 =>
    rw[q1] at g'
    dsimp only at g'
    intro σ3 E3
    refine b2 P0 P' σ3 H2 _ ρ1 E3 ?_
    have tt:Tr P0 P H1 P' H2:=t'.trans (E'.tr s2)
    cases q2:gb ρ1 with
    |bad=>rw[q2] at g';exact g'
    |ex x=>rw[q2] at g';exact gS.tr (m:=.ex x) g' (E'.tr s2)
    |ok o =>
     rw[q2] at g'
     cases o with
     |ret d=>exact gS.tr (m:=.ok (.ret d)) g' (E'.tr s2)
     |CH d=>exact gS.tr (m:=.ok (.CH d)) g' (E'.tr s2)
     |Fe d ρ2=>exact gS.tr (m:=.ok (.Fe d ρ2)) g' (E'.tr s2)
     |next ρ2=>exact fun σ4 H4 P4 t4 E4=>⟨aj,P4,ρ2,tt.trans t4,E4,gS.tr g' ((E'.tr s2).trans t4)⟩
     |cont ρ2=>exact fun σ4 H4 P4 t4 E4=>⟨aj,P4,ρ2,tt.trans t4,E4,gS.tr g' ((E'.tr s2).trans t4)⟩
     |brk ρ2=>exact fun σ4 H4 P4 t4 E4=>g' σ4 H4 P4 ((E'.tr s2).trans t4) E4
  ·have e:i=ds.length:=by omega
   subst e
   refine .inl ⟨ok.stop _ P' H' t'.1 (zA _),?_⟩
   rw[List.drop_length,forM] at g'
   exact g' σ' H' P' Tr.refl E'
end
end L2
namespace L2
open PySem PySem.Spec PyProof.Rows
noncomputable def SX (K:za) (n:Nat) (F:List D->M D):Sp:=fun vs H Q _=>vs.length=n/\∃ P ds,(∀ a,P a->Dp H a)/\Ah K (del H P) vs ds/\gV K (fun _ _=>False) P H Q (F ds)
noncomputable def AK (N:List Str) (ds:List D):Ab:=ds.map (fun d=>some (.val d))++zv (N.length - ds.length) none
noncomputable def tF:Cl->M D
 | .val d=>.ok d
 | .own ds=>.ok (.lst ds)
 | .ow (.rows C3)=>.ok (.lst (C3.map D.lst))
 | .ow (.Lr _ _)=>.bad
 | .ow (.tree _ t)=>.ok (er t)
noncomputable def fin (m:M Out):M D:=match m with
 | .ok (.ret d)=>.ok d
 | .ok (.CH c)=>tF c
 | .ok (.next _)=>.ok .AA
 |_=>.bad
theorem Oi {K:za}{P:Addr->Prop}{H:Hp}{N:List Str}{vs:List V}{ds:List D}(ht:∀ a,P a->Dp H a) (h:Ah K (del H P) vs ds):An K ⟨P,fun _=>0⟩ P H (start N vs) (AK N ds):=by
 have hl:=h.length
 have key:∀(i:Nat) (c:Cl),(AK N ds)[i]? =some (some c)->∃ d,ds[i]? =some d/\c=.val d:=fun i c e=>by
  unfold AK at e
  by_cases hi:i < ds.length
  ·rw[yV (by simpa using hi),zD] at e
   cases q:ds[i]? with
   |none=>rw[q] at e;cases e
   |some d=>rw[q] at e;cases e;exact⟨d,rfl,rfl⟩
  ·rw[zad (by simpa using hi),za7] at e
   split at e<;>cases e
 refine⟨fun _ h=>h,ht,fun i d e=>?_,fun i es e io=>?_,fun i j c c' v v' fp ai e _ _ _ ho _ _=>?_,?_,fun i c n e hp=>?_⟩
 rotate_left 4
 ·obtain⟨d',q,z⟩:=key i _ e
  cases z
  cases hp
 ·obtain⟨d',q,z⟩:=key i _ e
  cases z
  obtain⟨v,hv,hd⟩:=h.get q
  refine⟨v,?_,hd⟩
  unfold start
  rw[yV (by rw[zc];exact (zy.mp hv).1),zD,hv]
  rfl
 ·obtain⟨d',q,z⟩:=key i _ e
  cases z
  cases io
 ·obtain⟨d',q,z⟩:=key i _ e
  cases z
  exact ho.elim
 ·unfold start AK
  simp[hl]
theorem Dx {P:Addr->Prop}{H H':Hp}{P':Addr->Prop}(t:Tr P P H P' H'):Ad H H':=fun b o e=>by
 by_cases hb:P b
 ·rw[t.2 b hb];exact e
 ·exact (Am (t.1 b o (by rw[Ax hb];exact e))).2
theorem Bz.kO {K:za}{H:Hp}{P P0:Addr->Prop}(hs:∀ a,P0 a->P a):∀ {ps:List Addr}{C3:List (List D)},(∀ a∈ps,¬ P0 a)->Bz K H P ps C3->Ah K (del H P0) (ps.map V.ref) (C3.map D.lst)
 |_,_,_,.nil=>.nil
 |_,_,k,.cons h r t=>.cons (.lst (.of (show del H P0 _=_ by rw[Ax (k _ ze)];exact h)) (r.mono (CI hs))) (Bz.kO hs (fun a ha=>k a (zf _ ha)) t)
theorem ZZ {K:za}{WX:Str->Hp->Prop}{P P2:Addr->Prop}{H H':Hp}{Q:VK}{c:Cl}{v:V}{fp:List Addr}(h:gV K WX P H Q (tF c)) (t':Tr P P H P2 H') (hs:∀ a,P a->P2 a) (ht:∀ a,P2 a->Dp H' a) (ho:Dl K H' P2 c v fp) (hp:∀ a∈fp,P2 a/\¬ P a):Q v H':=by
 cases c with
 |val d=>exact ho.elim
 |own ds =>
  obtain⟨p,xs,rfl,rfl,h1,h2⟩:=ho
  exact h _ H' (Dx t') (.lst (.of (show del H' P p=_ by rw[Ax (hp p ze).2];exact h1)) (h2.mono (CI hs)))
 |ow o =>
  cases o with
  |rows C3 =>
   obtain⟨p,ps,rfl,rfl,h1,h2⟩:=ho
   exact h _ H' (Dx t') (.lst (.of (show del H' P p=_ by rw[Ax (hp p ze).2];exact h1)) (h2.kO hs fun a ha=>(hp a (zf _ ha)).2))
  |Lr p ds=>exact h.elim
  |tree p t=>exact h _ H' (Dx t') (C4.has hs (fun a ha=>(hp a ha).2) ho)
section
variable {P:Program}{w:World}{K:za}{mg:Str->Option Value}{base:Heap}
theorem pO {x qual:Str}{st:Stmt}{f:Addr}{fd:FuncData}{N ps:List Str}{k:Nat}(F:WD K x qual st f fd) (S:Ae N ps (A3 st)) (g:Ab->M Out)
 (hb:∀(B2:Value) (A:Around) (outer:List Env) (s:Shared) (H:Hp) (E:XK),BJ k (A.deeper (envOfC qual (A3 st) s.heap.objs.size f B2))->So (Le ZH P w K mg base N qual (A3 st) f B2 A outer s H E).nW (fun _ _=>False) (AB st) g) :
 Dn P w K mg base ZH (k + 1) f fd ps (SX K ps.length fun ds=>fin (g (AK N ds))):=by
 refine F.ok S (fun vs H Q E h=>h.1) fun B2 A outer s H vs Q E hr h=>?_
 obtain⟨hl,P',ds,ht,hv,hq⟩:=h
 obtain⟨t,h1,h2⟩:=hb B2 A outer s H E hr
 refine⟨t,h1,h2 ⟨P',fun _=>0⟩ P' _ H _ _ (Oi ht hv) ?_⟩
 dsimp only at hq
 revert hq
 cases g (AK N ds) with
 |bad=>exact fun h=>h.elim
 |ex x=>exact fun h=>h.elim
 |ok o =>
  cases o with
  |ret d=>exact fun h v H' P2 t hv=>h v H' (Dx t) hv
  |next ρ=>exact fun h σ' H' P2 t E=>h .AA H' (Dx t) .AA
  |brk ρ=>exact fun h=>h.elim
  |cont ρ=>exact fun h=>h.elim
  |CH c=>exact fun h v fp H' P2 t hs ht ho hp nd=>ZZ h t hs ht ho hp
  |Fe d ρ=>exact fun h=>h.elim
end
section
variable {X:Cx}{WX:Str->Hp->Prop}{c:Bool}{P0:EA}{P:Addr->Prop}{H:Hp}{σ:St}{ρ:Ab}{a b e tg iter:Expr}{f g:Ab->M D}{ft:Ab->M Bool}{pos:Pos}{gt:D->Ab->M Ab}{fi:Ab->M (List D)}{es:List Expr}{fs:Ab->M (List D)}
noncomputable def BA (μ:List (Option Nat)) (ρ:Ab):Ab:=μ.map fun o=>o.bind fun i=>match ρ[i]? with | some (some (.val d))=>some (.val d) | _=>none
theorem Ho {μ:List (Option Nat)}{ρ:Ab}{j:Nat}{cl:Cl}(h:(BA μ ρ)[j]? =some (some cl)):∃ i d,μ[j]? =some (some i)/\ρ[i]? =some (some (.val d))/\cl=.val d:=by
 unfold BA at h
 rw[zD] at h
 cases q:μ[j]? with
 |none=>rw[q] at h;cases h
 |some o =>
  rw[q] at h
  cases o with
  |none=>cases h
  |some i =>
   simp only[za9,Option.bind_some,Option.some.injEq] at h
   split at h
   ·rename_i d e
    cases h
    exact⟨i,d,rfl,e,rfl⟩
   ·cases h
theorem An.block {K:za}(E:An K P0 P H σ ρ) (μ:List (Option Nat)):An K P0 P H (EW μ σ) (BA μ ρ):=by
 refine⟨E.sub,E.Cp,fun j d h=>?_,fun j ds h io=>?_,fun j k c c' v v' fp ai h _ _ _ ho _ _=>?_,by unfold EW BA;simp,fun j c n h hp=>by obtain⟨i,d',h1,h2,h3⟩:=Ho h;subst h3;cases hp⟩
 ·obtain⟨i,d',h1,h2,h3⟩:=Ho h
  cases h3
  obtain⟨v,h4,h5⟩:=E.val i d h2
  refine⟨v,?_,h5⟩
  unfold EW
  rw[zD,h1]
  simp[h4]
 ·obtain⟨i,d',h1,h2,h3⟩:=Ho h
  cases h3
  cases io
 ·obtain⟨i,d',h1,h2,h3⟩:=Ho h
  cases h3
  exact ho.elim
noncomputable def B8 (gt:D->Ab->M Ab) (ft:Ab->M Bool) (fe:Ab->M D):List D->Ab->M (List D)
 |[],_=>.ok []
 |d::r,ρ=>match gt d ρ with
  | .ok ρ1=>(match ft ρ1 with
   | .ok k=>if k=true then (match fe ρ1 with
    | .ok y=>(match B8 gt ft fe r ρ with | .ok ys=>.ok (y::ys)|_=>.bad)
    |_=>.bad) else B8 gt ft fe r ρ
   |_=>.bad)
  |_=>.bad
noncomputable def pQ (X:Cx) (scope:Scope) (NB:List Str) (μ:List (Option Nat)) (tg:Expr) (gt:D->Ab->M Ab):Prop :=
 ∃ g:TG,(∀ s H C ex,PG (blockOf X s H scope C NB ex) tg g)/\Kk μ g/\∀ P0 P σ H Q ρ v d,An X.K P0 P H σ ρ->BL X.K (del H P) v d->gG X.K P0 P H Q (gt d ρ)->g v σ H Q
theorem BO {scope:Scope}{NB:List Str}{μ:List (Option Nat)}(i:Nat){x:Str}(hN:NB.Nodup) (hi:NB[i]? =some x) (hx:(relabel scope X.env).names.lookup x=some .local) (hm:μ[i]? =some none):pQ X scope NB μ (.Name x pos) (fun d ρ=>.ok (ρ.set i (some (.val d)))) :=
 ⟨O1 i,fun s H C ex=>P6 (X:=blockOf X s H scope C NB ex) hN hi (.inl hx) (.inr hx),ZP hm,fun P0 P σ H Q ρ v d E hv h=>h _ (E.VE hv)⟩
noncomputable def pR (X:Cx) (cs:List Expr) (f:Ab->M Bool):Prop :=
 ∃ t,mY X cs t/\∀ P0 P σ H Q ρ,An X.K P0 P H σ ρ->gT (fun _ _=>False) H Q (f ρ)->t σ H Q
theorem EE:pR X [] (fun _=>.ok true):=⟨_,ZN,fun P0 P σ H Q ρ E h=>h H (Ad.refl H)⟩
theorem Fz (h:DT X (fun _ _=>False) a ft):pR X [a] ft:=let ⟨t,h1,h2⟩:=h;⟨_,ZO h1,h2⟩
noncomputable def Jc (m:M (List D)):M D:=match m with | .ok ys=>.ok (.lst ys) | _=>.bad
theorem kP {μ:List (Option Nat)}{wi:TI}{gg:TG}{tc:Shared->Hp->Addr->List Addr->TT}{te:Shared->Hp->Addr->List Addr->TE}{fe:Ab->M D}
 (i2:∀ P0 P σ H R ρ,An X.K P0 P H σ ρ->(match fi ρ with | .ok ds=>∀ J H',Ad H H'->ZY X.K J P H' ds->R J H' | .ex x=>∀ H',Ad H H'->WX x H' | .bad=>False)->wi σ H R)
 (g2:∀ P0 P σ H Q ρ v d,An X.K P0 P H σ ρ->BL X.K (del H P) v d->gG X.K P0 P H Q (gt d ρ)->gg v σ H Q)
 (t2:∀ s H' C ex P0 P σ H Q ρ,An X.K P0 P H σ ρ->gT (fun _ _=>False) H Q (ft ρ)->tc s H' C ex σ H Q)
 (e2:∀ s H' C ex P0 P σ H Q ρ,An X.K P0 P H σ ρ->gV X.K (fun _ _=>False) (Lv c P0 P) H Q (fe ρ)->te s H' C ex σ H Q) {Q:VK}
 (E:An X.K P0 P H σ ρ) (h:gV X.K WX (Lv c P0 P) H Q ((fi ρ).bind fun ds=>if ds.length<=1000 then Jc (B8 gt ft fe ds (BA μ ρ)) else .bad)):Ue wi μ gg tc te σ H Q:=by
 refine i2 P0 P σ H _ ρ E ?_
 cases q:fi ρ with
 |bad=>rw[q] at h;exact h
 |ex x=>rw[q] at h;exact h
 |ok ds =>
  rw[q] at h
  simp only[M.A8] at h
  by_cases hd:¬ ds.length<=1000
  ·rw[if_neg hd] at h;exact h.elim
  have hd:ds.length<=1000:=by omega
  rw[if_pos hd] at h
  intro J H1 s1 ok s C ex
  cases qc:B8 gt ft fe ds (BA μ ρ) with
  |bad=>rw[qc] at h;exact h.elim
  |ex x=>rw[qc] at h;exact h.elim
  |ok total =>
   rw[qc] at h
   unfold Jc at h
   dsimp only at h
   have E1:=E.same s1
   refine⟨fun i m ys H2=>m=ds.length - i/\i<=ds.length/\ys.length<=i/\Ad H1 H2/\∃ es rest,Ah X.K (del H2 (Lv c P0 P)) ys es/\B8 gt ft fe (ds.drop i) (BA μ ρ)=.ok rest/\es++rest=total,
    ⟨ds.length,by simp,zX _,zA _,Ad.refl _,[],total,.nil,by rw[List.drop_zero];exact qc,rfl⟩,?_⟩
   rintro i m ys H2 ⟨rfl,hi,hy,s2,es,rest,f7,aq,bo⟩
   by_cases aj:i < ds.length
   ·refine .inr ⟨ok.go i P H2 s2.del aj,Nat.lt_of_le_of_lt hy (AG (by omega)),fun bD H'=>i + 1<=ds.length/\bD.length<=i + 1/\Ad H1 H'/\∃ es rest,Ah X.K (del H' (Lv c P0 P)) bD es/\B8 gt ft fe (ds.drop (i + 1)) (BA μ ρ)=.ok rest/\es++rest=total,fun bD H' hq=>⟨ds.length - (i + 1),by omega,rfl,hq.1,hq.2.1,hq.2.2.1,hq.2.2.2⟩,fun v H3 y=>?_⟩
    have E2:=E1.same s2
    obtain⟨s3,hv⟩:=ok.gN i P H2 v H3 ds[i] s2.del E2.Cp (zq aj) y
    rw[Jb aj,B8] at aq
    have E3:=(E2.same s3).block μ
    refine g2 P0 P _ H3 _ (BA μ ρ) v ds[i] E3 hv ?_
    cases q1:gt ds[i] (BA μ ρ) with
    |bad=>rw[q1] at aq;cases aq
    |ex x=>rw[q1] at aq;cases aq
    |ok ρ1 =>
     rw[q1] at aq
     dsimp only at aq
     intro σ4 E4
     refine t2 s H1 C ex P0 P σ4 H3 _ ρ1 E4 ?_
     cases q2:ft ρ1 with
     |bad=>rw[q2] at aq;cases aq
     |ex x=>rw[q2] at aq;cases aq
     |ok k =>
      rw[q2] at aq
      dsimp only at aq
      intro H5 s5
      cases k with
      |false =>
       simp only[zF,if_false] at aq ⊢
       exact⟨aj,by omega,(s2.trans s3).trans s5,es,rest,(f7.mono s3.del).mono s5.del,aq,bo⟩
      |true =>
       simp only[if_true] at aq ⊢
       refine e2 s H1 C ex P0 P σ4 H5 _ ρ1 (E4.same s5) ?_
       cases q3:fe ρ1 with
       |bad=>rw[q3] at aq;cases aq
       |ex x=>rw[q3] at aq;cases aq
       |ok y' =>
        rw[q3] at aq
        dsimp only at aq
        cases q4:B8 gt ft fe (ds.drop (i + 1)) (BA μ ρ) with
        |bad=>rw[q4] at aq;cases aq
        |ex x=>rw[q4] at aq;cases aq
        |ok nr =>
         rw[q4] at aq
         cases aq
         intro w H6 s6 hw
         refine⟨aj,by rw[zL,za3];omega,((s2.trans s3).trans s5).trans s6,es++[y'],nr,(((f7.mono s3.del).mono s5.del).mono s6.del).snoc hw,rfl,?_⟩
         rw[zai];exact bo
   ·have e:i=ds.length:=by omega
    subst e
    rw[List.drop_length,B8] at aq
    cases aq
    rw[yH] at bo
    subst bo
    refine .inl ⟨ok.stop _ P H2 s2.del (zA _),fun D0 hn=>h _ _ ((s1.trans s2).trans (AN hn _)) (.lst (.of (J6 hn fun a q=>(E1.same s2).pF c a q)) (f7.mono (AN hn _).del))⟩
theorem Uq {scope:Scope}{NB:List Str}{ifs:List Expr}{elt:Expr}{fe:Ab->M D}(i:Nat){x:Str}{px aw:Pos}(μ:List (Option Nat)) (hN:X.N.Nodup) (jd:X.N[i]? =some x) (hx:Loc X.env.scope x) (hc:X.calm=true) (hi:DI X WX tg iter fi) (aG:J3 scope X.env.scope=true) (bJ:Pf X.N NB scope μ=true) (hg:pQ X scope NB μ tg gt)
 (ht:∀ s H C ex,pR (blockOf X s H scope C NB ex) ifs ft) (he:∀ s H C ex,DE (blockOf X s H scope C NB ex) (fun _ _=>False) true elt fe)
 (bL:swapsWith (.ListComp elt [⟨tg,iter,ifs,0⟩] scope pos) (some (.Name x px)) aw.line X.env=pure true:=by rfl) (hs:∀ x,foldedSetIterable iter X.env x=pure x:=by intro _;rfl) (hf:X.fn x=true\/X.env.scope.names.lookup x=some .local:=by first|exact .inl rfl|exact .inr rfl|assumption) :
 DS X WX (.Assign [.Name x px] (.ListComp elt [⟨tg,iter,ifs,0⟩] scope pos) aw) (fun ρ=>((fi ρ).bind fun ds=>if ds.length<=1000 then Jc (B8 gt ft fe ds (BA μ ρ)) else .bad).bind fun d=>.ok (.next (ρ.set i (some (.val d))))):=by
 obtain⟨wi,i1,i2⟩:=hi
 obtain⟨gg,g1,gk,g2⟩:=hg
 refine⟨_,Ug hN jd hx hc i1 aG bJ gk (fun s H C ex=>⟨g1 s H C ex,(zb (ht s H C ex)).1,(zb (he s H C ex)).1⟩) bL hs hf,fun P0 P σ H Z ρ E h=>?_⟩
 refine kP (c:=true) i2 g2 (fun s H' C ex P0 P σ H Q ρ E h=>(zb (ht s H' C ex)).2 P0 P σ H Q ρ E h) (fun s H' C ex P0 P σ H Q ρ E h=>(zb (he s H' C ex)).2 P0 P σ H Q ρ E h) E ?_
 dsimp only at h
 revert h
 cases ((fi ρ).bind fun ds=>if ds.length<=1000 then Jc (B8 gt ft fe ds (BA μ ρ)) else .bad) with
 |bad=>exact fun h=>h
 |ex y=>exact fun h H' s=>h H' P (E.tr s)
 |ok d=>exact fun h v H' s hv=>h _ H' P (E.tr s) ((E.same s).VE hv)
end
end L2
namespace L2
open PySem PySem.Spec PyProof.Rows
section
variable {X:Cx}{WX:Str->Hp->Prop}{c:Bool}{P0:EA}{P:Addr->Prop}{H:Hp}{σ:St}{ρ:Ab}{a b e k:Expr}{f g:Ab->M D}{te tk:TE}{pos p2:Pos}
noncomputable def wC (x y:D):M D:=match x,y with | .lst ds,.int i=>if i = -1 then .ok (.lst ds.reverse) else .bad | _,_=>.bad
noncomputable def CC:List D->Option (List Int)
 |[]=>some []
 | .int i::r=>(CC r).map (i::·)
 |_=>none
noncomputable def Xy:D->Option (List Int)
 | .tup ds=>CC ds
 |_=>none
noncomputable def Gx:List D->Option (List (D×List Int))
 |[]=>some []
 |d::r=>(Xy d).bind fun k=>(Gx r).map ((d,k)::·)
noncomputable def Ur (l d:D):M D:=match l with
 | .lst ds=>(match Gx ds with|some ks=>.ok (match AX ks with|none=>d|some b=>b.1)|none=>.bad)
 |_=>.bad
theorem Kr {K:za}{H:Hp}:∀ {xs:List V}{ds:List D}{ns:List Int},Ah K H xs ds->CC ds=some ns->xs=ns.map V.int
 |_,_,_,.nil,e=>by simp only[CC] at e;cases e;rfl
 |_,_,_,.cons (d:=d) h t,e=>by
  cases d with
  |int i =>
   simp only[CC] at e
   cases q:CC _ with
   |none=>rw[q] at e;cases e
   |some ns =>
    rw[q] at e
    cases e
    rw[h.int_inv,Kr t q];rfl
  |_=>simp[CC] at e
noncomputable abbrev Alike (K:za) (H:Hp):List (Addr×List Int)->List (D×List Int)->Prop:=Paired fun p q=>p.2=q.2/\BL K H (.ref p.1) q.1
theorem Iy {K:za}{H:Hp}:∀ {xs:List V}{ds:List D}{ks:List (D×List Int)},Ah K H xs ds->Gx ds=some ks->∃ bs:List (Addr×List Int),xs=bs.map (fun b=>V.ref b.1)/\(∀ b∈bs,Fs K H b.1 (b.2.map V.int))/\Alike K H bs ks
 |_,_,_,.nil,e=>by simp only[Gx] at e;cases e;exact⟨[],rfl,by simp,.nil⟩
 |_,_,_,.cons (d:=d) h t,e=>by
  simp only[Gx] at e
  cases q:Xy d with
  |none=>rw[q] at e;cases e
  |some k =>
   rw[q] at e
   simp only[Option.bind_some] at e
   cases q2:Gx _ with
   |none=>rw[q2] at e;cases e
   |some ks =>
    rw[q2] at e
    cases e
    obtain⟨bs,h1,h2,h3⟩:=Iy t q2
    cases d with
    |tup es =>
     have h':=h
     cases h with
     | @tup a xs _ hs hl =>
      simp only[Xy] at q
      have e1:=Kr hl q
      subst e1
      refine⟨(a,k)::bs,by rw[h1];rfl,fun b hb=>?_,.cons ⟨rfl,h'⟩ h3⟩
      rcases zu.mp hb with z|z
      ·subst z;exact Fs.of hs
      ·exact h2 b z
    |_=>simp[Xy] at q
theorem Ms {K:za}{H:Hp}{bs:List (Addr×List Int)}{ks:List (D×List Int)}(h:Alike K H bs ks):(AX bs=none/\AX ks=none)\/∃ b k,AX bs=some b/\AX ks=some k/\b.2=k.2/\BL K H (.ref b.1) k.1:=by
 unfold AX
 suffices z:∀(o:Option (Addr×List Int)) (o':Option (D×List Int)),((o=none/\o'=none)\/∃ b k,o=some b/\o'=some k/\b.2=k.2/\BL K H (.ref b.1) k.1)->
  ((bs.foldl BK o=none/\ks.foldl BK o'=none) \/
   ∃ b k,bs.foldl BK o=some b/\ks.foldl BK o'=some k/\b.2=k.2/\BL K H (.ref b.1) k.1) from z none none (.inl ⟨rfl,rfl⟩)
 induction h with
 |nil=>intro o o' h;exact h
 | @cons b k bs ks hh t ih =>
  intro o o' h
  rw[zU,zU]
  refine ih _ _ ?_
  rcases h with ⟨rfl,rfl⟩|⟨b',k',rfl,rfl,e1,e2⟩
  ·exact .inr ⟨b,k,rfl,rfl,hh⟩
  ·unfold BK
   dsimp only
   rw[hh.1,e1]
   by_cases hl:HT.lexLt k.2 k'.2=true
   ·rw[if_pos hl,if_pos hl];exact .inr ⟨b,k,rfl,rfl,hh⟩
   ·rw[if_neg hl,if_neg hl];exact .inr ⟨b',k',rfl,rfl,e1,e2⟩
theorem Us {p kp:Pos}{e2:Expr}(hc:X.calm=true) (hu:X.A.units + 1 < cLine) (hg:Gl X "min") (hm:X.mg "min" = none) (ha:DE X WX c e f) (hb:DE X WX c e2 g)
 (aY:starEach [e] X.env=[(false,eval e X.env)]:=by rfl) (aF:(backToKw pos (keywordEach [⟨some "default",e2,kp⟩] X.env)).all (·.1.isSome)=true:=by rfl) (nj:(backToKw pos (keywordEach [⟨some "default",e2,kp⟩] X.env)).filterMap (·.1)=([("default" : Str)]:List Str):=by rfl)
 (nk:(backToKw pos (keywordEach [⟨some "default",e2,kp⟩] X.env)).any (·.1.isNone)=false:=by rfl) (cc:backTo pos (starEach [e] X.env)=(false,eval e X.env)::backTo pos (starEach [] X.env):=by rfl) (a4:(backTo pos (starEach [e] X.env)).any (·.1)=false:=by rfl) :
 DE X WX c (.Call (.Name "min" p) [e] [⟨some "default",e2,kp⟩] pos) (fun ρ=>(f ρ).bind fun x=>(g ρ).bind fun y=>Ur x y):=by
 obtain⟨ta,a1,a2⟩:=ha
 obtain⟨tb,b1,b2⟩:=hb
 refine⟨_,ZS hc hu hg hm a1 b1 aY aF nj nk cc a4,fun P0 P σ H Q ρ E h=>QY (r:=fun x d H2 Q=>∃(a:Addr) (bs:List (Addr×List Int)),x=.ref a/\Dm X.K H2 a (bs.map fun b=>V.ref b.1)/\(∀ b∈bs,Fs X.K H2 b.1 (b.2.map V.int))/\Q (match AX bs with|none=>d|some b=>.ref b.1) H2) a2 b2 ?_ E h⟩
 intro P H x y v w Q ht hx hy h
 unfold Ur at h
 split at h
 ·rename_i ds
  split at h
  ·rename_i ks e1
   cases hx with
   | @lst a xs _ hs hl =>
    obtain⟨bs,rfl,h2,h3⟩:=Iy hl e1
    refine⟨a,bs,rfl,hs.Bo,fun b hb=>(h2 b hb).Bo,?_⟩
    rcases Ms h3 with ⟨q1,q2⟩|⟨b,k,q1,q2,_,q3⟩
    ·rw[q1]
     rw[q2] at h
     exact h _ H (Ad.refl H) hy
    ·rw[q1]
     rw[q2] at h
     exact h _ H (Ad.refl H) q3
  ·exact h.elim
 ·exact h.elim
end
end L2
namespace L2
open PySem PySem.Spec PyProof.Rows
theorem AU {A:Around}{k:Nat}(hr:BJ k A) (n:Nat) (hn:n<=64):A.units + n < cLine:=by have:=hr.units;omega
structure Ak (K:za) (mg:Str->Option Value) (x:Str) (st:Stmt) (ps:List Str):Prop where
 ex:∃ f fd,WD K x x st f fd/\mg x=some (.ref f)/\Binds K fd ps []
end L2
namespace L2
open PySem PySem.Spec PyProof.Rows
theorem BF.there {P:Program}{w:World}{H:Hp}{h:Heap}{a:Addr}{o:HO}(x:BF P w H h a o):∃ ob,h.get? a=some ob:=by
 cases o with
 |lst xs=>obtain⟨_,_,_,_,e⟩:=x;exact⟨_,e⟩
 |tup xs=>obtain⟨_,_,_,o,e,_⟩:=x;exact⟨o,e⟩
 |dK kvs=>obtain⟨_,_,_,_,o,_,_,e,_⟩:=x;exact⟨_,e⟩
 |dT kvs=>obtain⟨_,_,_,_,o,_,_,e,_⟩:=x;exact⟨_,e⟩
 |set S n=>obtain⟨o,_,_,_,e,_⟩:=x;exact⟨_,e⟩
 |ins C dx fs=>obtain⟨_,_,_,e,_⟩:=x;exact⟨_,e⟩
 |own y=>obtain⟨_,e⟩:=x;exact⟨_,e⟩
 |xd fs=>obtain⟨_,⟨_,_,_,e,_⟩,_⟩:=x;exact⟨_,e⟩
 |qV lo hi=>obtain⟨_,_,_,e⟩:=x;exact⟨_,e⟩
 |Vj ob u=>obtain⟨e,_⟩:=x;exact⟨_,e⟩
 |gK ps=>exact⟨_,(show h.get? a=some _ from x)⟩
 |met f y=>exact⟨_,(show h.get? a=some _ from x)⟩
 |ext φ=>obtain⟨_,⟨_,e⟩,_⟩:=x;exact⟨_,e⟩
theorem Fq.gone {P:Program}{w:World}{H:Hp}{h:Heap}{a:Addr}(x:Fq P w H h) (e:h.get? a=none):H a=none:=by
 cases q:H a with
 |none=>rfl
 |some o=>obtain⟨ob,z⟩:=(x a o q).there;rw[e] at z;cases z
structure kQ (base g:Heap) (H:Hp) (l:List Env) (ea c:Addr) (h:Heap):Prop where
 yA:∃ a0,Heap.FlyingW base l ea (.ref c) a0 h
 new:g.get? ea=none
 un:H ea=none
 tr:∀ oe vs T,h.get? ea=some oe->oe.data=.fields vs->vs[1]? =some (.ref T)->H T=none/\g.get? T=none
noncomputable def SY (P:Program) (w:World) (base:Heap):U7:=fun outer H s E ev s'=>∃(ea c:Addr) (H':Hp),ev=.ref ea/\s'.os=s.os/\AllBare s'.gens/\Un (KR outer) [] H H' s.heap s'.heap/\Fq P w H' s'.heap/\kQ base s.heap H' outer ea c s'.heap/\E (.ref c) none H'
section
variable {P:Program}{w:World}{K:za}{mg:Str->Option Value}{base:Heap}{N:List Str}{qual:Str}{scope:Scope}{f:Addr}{cd:Value}{A:Around}{outer:List Env}{s:Shared}{H:Hp}{E:XK}
noncomputable abbrev Ut (P:Program) (w:World) (K:za) (mg:Str->Option Value) (base:Heap) (N:List Str) (qual:Str) (scope:Scope) (f:Addr) (cd:Value) (A:Around) (outer:List Env) (s:Shared) (H:Hp) (E:XK):Cx :=
 Le (SY P w base) P w K mg base N qual scope f cd A outer s H E
theorem hV {pins:List (Addr×Obj)}{σ:St}{H1:Hp}{s1:Shared}{h' B:Heap}{ea c:Addr}{a0:Value}{hid:List Addr}(J:Inv (Ut P w K mg base N qual scope f cd A outer s H E) pins σ H1 s1)
 (hB:∀ b o,s1.heap.get? b=some o->b∉KR (envOfC qual scope s.heap.objs.size f cd::outer)->b∉hid->(H1 b≠none\/∃ o',s.heap.get? b=some o')->B.get? b=some o) (wl:base.StaysIn B)
 (hh:∀ b∈hid,H1 b=none/\s.heap.get? b=none) (hT:∀ b,B.get? b=none->b∉KR (envOfC qual scope s.heap.objs.size f cd::outer)->H1 b=none/\s.heap.get? b=none)
 (wm:s.heap.get? ea=none) (nu:H1 ea=none) (F:Heap.FlyingW B outer ea (.ref c) a0 h') (cM:s1.heap.UpToSlots h') (q:E (.ref c) none H1) :
 SY P w base outer H s E (.ref ea) { s1 with heap:=h' }:=by
 have nv:∀ b∈KR outer,∃ o,s1.heap.get? b=some o/\∀ vs,o.data≠.fields vs:=fun b hb=>(J.IX.mem hb).2
 have ji:∀ b o,s.heap.get? b=some o->b≠s.heap.objs.size:=fun b o e=>zG (zw e)
 have gL:∀ b,b∈KR (envOfC qual scope s.heap.objs.size f cd::outer)->b=s.heap.objs.size\/b∈KR outer:=fun b hb=>by
  have aE:b∈s.heap.objs.size::KR outer:=hb
  exact zu.mp aE
 have U:Un (KR outer) [] H H1 s.heap s1.heap:=J.base
 have cB:∀ b o,s.heap.get? b=some o->b∉hid:=fun b o e hb=>by rw[(hh b hb).2] at e;cases e
 have jj:∀ b o,H1 b≠none->s1.heap.get? b=some o->h'.get? b=some o:=fun b o hn e=>by
  refine F.1 b o (hB b o e (fun hb=>?_) (fun hb=>hn (hh b hb).1) (.inl hn))
  exact hn (J.OZ b hb)
 refine⟨ea,c,H1,rfl,J.os,J.bare,⟨fun b o e n hb hx=>?_,fun b o e n hb hx=>?_,U.free,fun b o e hx=>?_,U.NC,U.M6,U.ND⟩,fun b ob e=>?_,⟨⟨a0,?_⟩,wm,nu,fun oe vs T h1 h2 h3=>?_⟩,q⟩
 ·refine F.1 b o (hB b o (U.keep b o e n hb hx) (fun z=>?_) (cB b o e) (.inr ⟨o,e⟩))
  rcases gL b z with z|z
  ·exact ji b o e z
  ·exact hb z
 ·obtain⟨sl,e1⟩:=U.slot b o e n hb hx
  obtain⟨o2,e2,nf⟩:=nv b hb
  rw[e1] at e2
  obtain⟨kh,e3⟩:=cM b _ e1 (by cases e2;exact nf)
  exact⟨kh,e3⟩
 ·obtain⟨o',e1⟩:=U.there b o e hx
  by_cases hb:b∈KR outer
  ·obtain⟨o2,e2,nf⟩:=nv b hb
   obtain⟨kh,e3⟩:=cM b _ e2 nf
   exact⟨_,e3⟩
  ·refine⟨o',F.1 b o' (hB b o' e1 (fun z=>?_) (cB b o e) (.inr ⟨o,e⟩))⟩
   rcases gL b z with z|z
   ·exact ji b o e z
   ·exact hb z
 ·refine (J.Av b ob e).OX (fun x v hx q=>jj x v ?_ q) (fun _ q=>q) fun _ _ q=>q
  rcases hx with rfl|hx
  ·rw[e];intro z;cases z
  ·rw[hx];intro z;cases z
 ·exact PySem.W.flyingW_base wl F
 ·obtain⟨_,_,ff,yt,bg,T',oT,ts,k1,k2,k3,k4,k5,k6,k7,k8,k9⟩:=F
  rw[show ({ s1 with heap:=h' }:Shared).heap.get? ea=h'.get? ea from rfl,k1] at h1
  cases h1
  rw[k3] at h2
  cases h2
  rw[k4] at h3
  cases h3
  refine hT T k5 fun hb=>?_
  rcases gL T hb with z|z
  ·obtain⟨m,⟨oL,es,ep,me,ny,_⟩,_⟩:=J.loc
   obtain⟨sl,e3⟩:=cM s.heap.objs.size oL me fun vs zz=>by rw[ny] at zz;cases zz
   rw[<-z,k7] at e3
   cases e3
   rw[show oL.data=_ from k8] at ny
   cases ny
  ·obtain⟨o2,e2,nf⟩:=nv T z
   obtain⟨sl,e3⟩:=cM T o2 e2 nf
   rw[k7] at e3
   cases e3
   exact nf ts k8
theorem Xz {l:List Env}:∀ env∈l,∀ a,env.frame=some a->a∈KR l:=fun env he a ha=>List.mem_filterMap.mpr ⟨env,he,ha⟩
theorem cV {pins:List (Addr×Obj)}{σ:St}{H1:Hp}{s2:Shared}{h1:Heap}{ea C:Addr}{vs:List Value}(J:Inv (Ut P w K mg base N qual scope f cd A outer s H E) pins σ H1 s2) (hx:Heap.MadeExcOf s2.heap h1 ea (.ref C) vs) (q:E (.ref C) none H1) :
 (Ut P w K mg base N qual scope f cd A outer s H E).xe (.ref ea) { s2 with heap:=h1 }:=by
 have J1:Inv (Ut P w K mg base N qual scope f cd A outer s H E) pins σ H1 { s2 with heap:=h1 }:=J.kept (t':=s2.toks) hx.keeps
 have fr:=J.stack
 have f8:=Xz (l:=envOfC qual scope s.heap.objs.size f cd::outer)
 refine wpAny_leaves_madeW (base:=PySem.W.hideAll s2.heap (KR (envOfC qual scope s.heap.objs.size f cd::outer))) (outer:=outer) (L:=s.heap.objs.size) J.ok.frames rfl (fun b o e=>PySem.W.of_hideAll _ e) (PySem.W.funFrames_hide fr f8) hx fun h' t F ht yu cM=>?_
 have cC:∀ b,s2.heap.get? b=none->H1 b=none/\s.heap.get? b=none:=fun b e=>by
  refine⟨J.Av.gone e,?_⟩
  cases q:s.heap.get? b with
  |none=>rfl
  |some o=>obtain⟨o',z⟩:=J.base.there b o q (by simp[Le]);rw[e] at z;cases z
 refine hV (B:=PySem.W.hideAll s2.heap (KR (envOfC qual scope s.heap.objs.size f cd::outer))) (hid:=[]) J1 (fun b o e hb _ wn=>?_) (fun b o e=>?_) (fun b z=>by cases z) (fun b e hb=>?_) (cC ea hx.new).2 (cC ea hx.new).1 F cM q
 ·have lb:∃ o2,s2.heap.get? b=some o2:=by
   rcases wn with z|⟨o',z⟩
   ·cases q2:H1 b with
    |none=>exact absurd q2 z
    |some u=>exact (J.Av b u q2).there
   ·exact J.base.there b o' z (by simp[Le])
  obtain⟨o2,e2⟩:=lb
  have e3:=hx.keeps b o2 e2
  rw[show ({ s2 with heap:=h1 }:Shared).heap.get? b=h1.get? b from rfl,e3] at e
  cases e
  exact za8 _ e2 hb
 ·refine za8 _ (J.bk b o e) fun hb=>?_
  have z:base.get? b=none:=(fr.mem hb).1
  rw[show base.get? b=some o from e] at z;cases z
 ·refine cC b ?_
  cases q2:s2.heap.get? b with
  |none=>rfl
  |some o=>rw[za8 _ q2 hb] at e;cases e
theorem cW:Gp (SY P w base) (Ut P w K mg base N qual scope f cd A outer s H E) E:=by
 intro pins σ H0 s0 ev s1 I h
 obtain⟨ea,c,H1,rfl,wo,wp,U,Av,⟨⟨a0,F⟩,ba,u9,wq⟩,q⟩:=h
 have J:Inv (Ut P w K mg base N qual scope f cd A outer s H E) pins σ H1 s1:=I.gM (ch:=[]) wo U Av wp fun b hb=>by cases hb
 obtain⟨f1,f2,f3,oe,vs,T,oT,ts,k1,k2,k3,k4,k5,k6,k7,k8,k9⟩:=F
 have hT:=wq oe vs T k1 k3 k4
 have fr:=J.stack
 have entry:∀ b,s0.heap.get? b=none->s.heap.get? b=none:=fun b e=>by
  cases q:s.heap.get? b with
  |none=>rfl
  |some o=>obtain⟨o',z⟩:=I.base.there b o q (by simp[Le]);rw[e] at z;cases z
 have f8:∀ env∈(envOfC qual scope s.heap.objs.size f cd::outer),∀ a,env.frame=some a->a∈KR (envOfC qual scope s.heap.objs.size f cd::outer)++[ea,T]:=fun env he a ha=>zN _ (Xz env he a ha)
 have FB:Heap.FlyingW (PySem.W.hideAll s1.heap (KR (envOfC qual scope s.heap.objs.size f cd::outer)++[ea,T])) (envOfC qual scope s.heap.objs.size f cd::outer) ea (.ref c) a0 s1.heap :=
  ⟨fun b o e=>PySem.W.of_hideAll _ e,PySem.W.hideAll_none _ (by simp),PySem.W.funFrames_hide fr f8,oe,vs,T,oT,ts,k1,k2,k3,k4,PySem.W.hideAll_none _ (by simp),k6,k7,k8,k9⟩
 refine wpAny_leaves_onW (outer:=outer) (L:=s.heap.objs.size) J.ok.frames rfl FB fun h' F' cM=>?_
 have jk:∀ b,s1.heap.get? b=none->H1 b=none/\s.heap.get? b=none:=fun b e=>by
  refine⟨J.Av.gone e,?_⟩
  cases q:s.heap.get? b with
  |none=>rfl
  |some o=>obtain⟨o',z⟩:=J.base.there b o q (by simp[Le]);rw[e] at z;cases z
 have hid:∀ b∈[ea,T],H1 b=none/\s.heap.get? b=none:=fun b hb=>by
  rcases zu.mp hb with z|z
  ·rw[z];exact⟨u9,entry ea ba⟩
  ·rw[zh.mp z];exact⟨hT.1,entry T hT.2⟩
 refine hV (hid:=[ea,T]) J (fun b o e hb lm _=>za8 _ e fun z=>(zx.mp z).elim hb lm) (fun b o e=>?_) hid (fun b e hb=>?_) (entry ea ba) u9 F' cM q
 ·refine za8 _ (J.bk b o e) fun hb=>?_
  rcases zx.mp hb with hb|hb
  ·have z:base.get? b=none:=(fr.mem hb).1
   rw[show base.get? b=some o from e] at z;cases z
  ·rcases zu.mp hb with z|z
   ·rw[z] at e;rw[show base.get? ea=some o from e] at f2;cases f2
   ·rw[zh.mp z] at e;rw[show base.get? T=some o from e] at k5;cases k5
 ·by_cases lm:b∈[ea,T]
  ·exact hid b lm
  ·refine jk b ?_
   cases q2:s1.heap.get? b with
   |none=>rfl
   |some o=>rw[za8 _ q2 fun z=>(zx.mp z).elim hb lm] at e;cases e
end
end L2
namespace L2
open PySem PySem.Spec PyProof.Rows
structure XCall (X:Cx) (E:XK):Prop where
 call:Gp (SY X.prog X.w X.base) X E
 own:PassesOwn (model X.prog X.w) X.A X.env X.xe
structure rE (X:Cx) (E:XK):Prop extends XCall X E where
 made:∀ pins σ H s h' ea C vs,Inv X pins σ H s->Heap.MadeExcOf s.heap h' ea (.ref C) vs->E (.ref C) none H->X.xe (.ref ea) { s with heap:=h' }
theorem A9 {P:Program}{w:World}{K:za}{mg:Str->Option Value}{base:Heap}{N:List Str}{qual:Str}{scope:Scope}{f:Addr}{cd:Value}{A:Around}{outer:List Env}{s:Shared}{H:Hp}{E:XK} :
 rE (Ut P w K mg base N qual scope f cd A outer s H E) E:=⟨⟨cW,PassesOwn.leaving⟩,fun _ _ _ _ _ _ _ _ J hx q=>cV J hx q⟩
theorem Bh {X:Cx}(h:X.xe=fun _ _=>False):rE X E0:=⟨⟨fun _ _ _ _ _ _ _ h=>by obtain⟨_,_,_,_,_,_,_,_,_,q⟩:=h;exact q.elim,by rw[h];exact PassesOwn.never⟩,fun _ _ _ _ _ _ _ _ _ _ q=>q.elim⟩
noncomputable def D3 (K:za) (E:XK):Str->Hp->Prop:=fun x H=>∃ c,zd K mainGlobals x=some (some (.ref c))/\E (.ref c) none H
section
variable {X:Cx}{E:XK}{WX:Str->Hp->Prop}{c:Bool}{e:Expr}{es:List Expr}{fs:Ab->M (List D)}{f:Ab->M D}{ft:Ab->M Bool}{pos:Pos}
theorem cX {K:za}{h₀:Heap}{C:Addr}{uK:List Value}{newId:String}(X:K.In h₀) (q:zab K C uK newId=true) :
 ∃ bm N nm q bs hdct sn sub ab col dd k0 k1 k2 k3 k5 mN,h₀.get? C=some (excClassObj nm q C N bs bm hdct sn sub ab col dd k0 k1 k2 k3 k5 newId)/\h₀.Ns N mN/\mN "__init__" = none/\OwnTail h₀ uK bm:=by
 unfold zab at q
 split at q
 ·rename_i dd cd sl ho
  split at q
  ·rename_i C' bm k0 k1 k2 k3 n k5 hm hs
   simp only[zR,beq_iff_eq,Bool.not_eq_true'] at q
   obtain⟨⟨⟨⟨⟨rfl,rfl⟩,jl⟩,ht⟩,Av⟩,ln⟩:=q
   obtain⟨nm,bs,mro,ns,qn,hd,sn,sub,ab,col,del⟩:=cd
   dsimp only at hm jl Av ln
   subst hm jl
   have cM:sl=#[k0,k1,k2,k3,some (.builtin n),k5]:=by
    obtain⟨l⟩:=sl
    simp only at hs
    rw[hs]
   subst cM
   exact⟨bm,ns,nm,qn,bs,hd,sn,sub,ab,col,dd,k0,k1,k2,k3,k5,_,X _ _ ho,.of_isNs (PySem.W.isNs_of_in X Av),PySem.W.nsMap_none_of_in X Av ln,PySem.W.tail_of_in X ht⟩
  ·cases q
 ·cases q
theorem XA {x:Str}{np ad:Pos}{C:Addr}{B newId f9:String}{bm:List Value}(xo:rE X E) (hc:X.calm=true) (FB:ExcBaseFacts B newId f9 bm) (i6:zd X.K mainGlobals x=some (some (.ref C))) (hq:zab X.K C bm newId=true) (hg:Gl X x) (hm:X.mg x=some (.ref C))
 (ha:DE X (D3 X.K E) c e f) (aU:(x == ("__debug__" : Str))=false:=by decide) (he:starEach [e] X.env=[(false,eval e X.env)]:=by rfl) (ar:(backTo ad (starEach [e] X.env)).any (·.1)=false:=by rfl) :
 DS X (D3 X.K E) (.Raise (some (.Call (.Name x np) [e] [] ad)) none pos) (fun ρ=>(f ρ).bind fun _=>.ex x):=by
 obtain⟨ta,a1,a2⟩:=ha
 refine⟨fun Z σ H=>ta σ H fun y H1=>(([y]:List V).length=1/\E (.ref C) none H1),?_,fun P0 P σ H Z ρ E h=>?_⟩
 ·intro pins s σ H D I h
  obtain⟨tl,N,nm,q,bs,hdct,sn,sub,ab,col,dd,k0,k1,k2,k3,k5,mN,hC,hN,ln,T⟩:=cX I.mod.WB hq
  refine wpAny_Raise_call_subT (C:=C) (nm:=nm) (q:=q) (N:=N) (bs:=bs) (bm:=tl) (hdct:=hdct) (sn:=sn) (sub:=sub) (ab:=ab) (col:=col) (dd:=dd) (k0:=k0) (k1:=k1) (k2:=k2) (k3:=k3) (k5:=k5)
   FB (mN:=mN) (T.hasType FB.hasBase) (I.ok.hd hc) ar ln (P5 I hg hm ⟨rfl,?_⟩ aU)
  rw[he]
  have pa:=(Bi a1 Cj he) ad pins s σ H (fun vs H1=>vs.length=1/\E (.ref C) none H1) I ?_
  ·rw[he] at pa
   refine Calls.evalArgs_plain (Bg pa fun vs s2 ⟨xs,H2,I2,r2,q2⟩=>⟨rfl,?_,I2.bk _ _ hC,hN.keeps I2.bk,T.keeps I2.bk,fun h' ea hx=>xo.made pins σ H2 s2 h' ea C _ I2 hx q2.2⟩)
   rw[<-r2.length,q2.1]
   exact yQ (AG (by decide))
  ·exact h
 ·dsimp only at h
  refine a2 P0 P σ H _ ρ E ?_
  cases q:f ρ with
  |bad=>rw[q] at h;exact h
  |ex x=>rw[q] at h;exact fun H' s=>h H' P (E.tr s)
  |ok d =>
   rw[q] at h
   intro v H1 s1 hv
   obtain⟨c',h1,h2⟩:=h H1 P (E.tr s1)
   rw[i6] at h1
   cases h1
   exact⟨rfl,h2⟩
end
end L2
namespace L2
open PySem PySem.Spec PyProof.Rows
section
variable {X:Cx}{WX:Str->Hp->Prop}{c:Bool}{a b e:Expr}{f g:Ab->M D}{pos p:Pos}
noncomputable def hX (K:za):R2:=fun x y H Q=>∃ l b xs zs,x=.ref l/\y=.ref b/\Dm K H l xs/\Dm K H b zs/\xs.length + zs.length<=sizeLine/\∀ p,H p=none->Q (.ref p) (upd H p (.lst (xs++zs)))
theorem cY:Gm X (binaryOp .Add) (hX X.K):=by
 intro pins s σ H x y v u Q I rx ry h
 obtain⟨l,b,xs,zs,rfl,rfl,h1,h2,hz,q⟩:=h
 cases rx
 cases ry
 obtain⟨aa,r,⟨⟨c1,d1,t1,wr⟩,n,e1,q1,q2,q3⟩,bE⟩:=I.list h1
 obtain⟨aZ,r2,⟨⟨c2,d2,t2,iz⟩,n2,e2,q4,q5,q6⟩,nz⟩:=I.list h2
 dsimp only at q1 q2 q3 q4 q5 q6
 subst q1 q2 q3 q4 q5 q6
 have l1:=r.length
 have l2:=r2.length
 refine concat_meets ⟨_,e1,rfl⟩ ⟨_,e2,rfl⟩ noFill_list_add seq_list_add PySem.F.slot_list_add PySem.F.entry_list_add (PySem.F.args_list_add_2 _ _) (list_addW l b aa.toArray aZ.toArray n n2 none none wr iz (by rw[zk,zk];omega)) ⟨e1,e2,?_⟩
 rw[show aa.toArray++aZ.toArray=(aa++aZ).toArray by simp]
 exact⟨.ref _,_,I.oU (t':=s.toks) (r.append r2) (by rw[zL];omega),rfl,q _ I.fresh⟩
noncomputable def uL (x y:D):M D:=match x,y with
 | .int i,.int j=>.ok (.int (i + j))
 | .lst ds,.lst es=>if ds.length + es.length<=1000 then .ok (.lst (ds++es)) else .bad
 |_,_=>.bad
theorem Ah.uM {K:za}{H:Hp}:∀ {xs ys:List V}{ds es:List D},Ah K H xs ds->Ah K H ys es->Ah K H (xs++ys) (ds++es)
 |_,_,_,_,.nil,h=>h
 |_,_,_,_,.cons a t,h=>.cons a (t.uM h)
noncomputable def rF (neg:Bool) (x y:D):M D:=match x,y with
 | .int i,.lst ds=>(match CC ds with|some ns=>.ok (.bl (if neg then !ns.contains i else ns.contains i))|none=>.bad)
 |_,_=>.bad
theorem XB (i:Int) (ns:List Int):qZ (.int i) (ns.map V.int)=ns.contains i:=by
 unfold qZ
 induction ns with
 |nil=>rfl
 |cons n r ih =>
  rw[zg,zb2,ih,List.contains_cons]
  congr 1
  show (n == i)=(i == n)
  rw[zak,beq_iff_eq,beq_iff_eq]
  exact eq_comm
theorem VH (ns:List Int):(ns.map V.int).all J0=true:=by
 induction ns with
 |nil=>rfl
 |cons n r ih=>rw[zg,List.all_cons,ih];rfl
theorem Gy {neg:Bool}:Uk X.K WX (rA X.K neg) (rF neg):=by
 intro P H x y v w Q ht hx hy h
 unfold rF at h
 split at h
 ·rename_i i ds
  split at h
  ·rename_i ns hn
   cases hx
   cases hy with
   |lst h1 h2 =>
    have e:=Kr h2 hn
    subst e
    refine⟨_,_,rfl,.inl h1.Bo,rfl,VH ns,?_⟩
    rw[XB]
    exact h _ H (Ad.refl H) (.bl _)
  ·exact h.elim
 ·exact h.elim
end
structure ClsAt (K:za) (mg:Str->Option Value) (x:Str):Prop where
 ex:∃ C,zd K mainGlobals x=some (some (.ref C))/\mg x=some (.ref C)/\zab K C [.type "ValueError",.type "Exception",.type "BaseException",.type "object"] "ValueError.__new__" = true
noncomputable def one (x:Str) (b:Bool):Str->Option Bool:=fun y=>if y=x then some b else none
section
variable {X:Cx}{E:XK}{WX:Str->Hp->Prop}{c:Bool}{e:Expr}{f:Ab->M D}{pos p:Pos}
theorem Ks {x:Str}{np ad:Pos}(T:ClsAt X.K X.mg x) (xo:rE X E) (hc:X.calm=true) (hg:Gl X x) (ha:DE X (D3 X.K E) c e f) (aU:(x == ("__debug__" : Str))=false:=by decide) (he:starEach [e] X.env=[(false,eval e X.env)]:=by rfl) (ar:(backTo ad (starEach [e] X.env)).any (·.1)=false:=by rfl) :
 DS X (D3 X.K E) (.Raise (some (.Call (.Name x np) [e] [] ad)) none pos) (fun ρ=>(f ρ).bind fun _=>.ex x):=by
 obtain⟨C,h1,h2,h3⟩:=T.ex
 exact XA xo hc PySem.F.excBase_ValueError h1 h3 hg h2 ha aU he ar
end
end L2
namespace L2
open PySem PySem.Spec PyProof.Rows
noncomputable def R6 (i j:Int):Prop:=(i.natAbs < 2 ^ 1000/\j.natAbs < 2 ^ 1000)\/X1 i j
instance (i j:Int):Decidable (R6 i j):=by unfold R6;infer_instance
theorem Oj {i:Int}(h:i.natAbs < 2 ^ 1000):zV i<=2 ^ 20:=by
 unfold zV
 split
 ·exact zX _
 ·rename_i z
  have h0:i.natAbs≠0:=fun q=>z (by rw[Int.natAbs_eq_zero.mp q];rfl)
  have:=(Nat.log2_lt h0).mpr h
  have h3:(1000:Nat)<=2 ^ 20:=by decide
  exact yP this h3
theorem R6.ok {i j:Int}(h:R6 i j):IntMulOk i j:=by
 rcases h with ⟨h1,h2⟩|h
 ·exact IntMulOk.of_bits (Oj h1) (Oj h2)
 ·exact h.ok
theorem Jd {gt:D->Ab->M Ab}{ft:Ab->M Bool}{fe:Ab->M D}{ρ:Ab}(p:D->Bool) (f:D->D):∀(ds:List D),(∀ d∈ds,∃ ρ1,gt d ρ=.ok ρ1/\ft ρ1=.ok (p d)/\(p d=true->fe ρ1=.ok (f d)))->B8 gt ft fe ds ρ=.ok ((ds.filter p).map f)
 |[],_=>rfl
 |d::r,h=>by
  obtain⟨ρ1,h1,h2,h3⟩:=h d ze
  have ih:=Jd p f r fun d hd=>h d (zf _ hd)
  rw[B8,h1]
  dsimp only
  rw[h2]
  dsimp only
  by_cases hp:p d=true
  ·rw[if_pos hp,h3 hp]
   dsimp only
   rw[ih,List.filter_cons_of_pos hp]
   rfl
  ·rw[if_neg hp,ih,List.filter_cons_of_neg hp]
theorem Mt (n:Nat):C6 0 n=(yR n).map fun i:Nat=>D.int (i:Int):=by
 apply List.ext_getElem?
 intro i
 rw[zD]
 by_cases h:i < n
 ·have hi:i < (C6 0 n).length:=by rw[B6];exact h
  have e:=zq hi
  obtain⟨h1,_⟩:=Bv e
  rw[e,h1,List.getElem?_range h,zaz]
  rfl
 ·rw[List.getElem?_eq_none (by rw[B6];omega),List.getElem?_eq_none (by simp;omega)]
  rfl
theorem DR (ns:List Int):CC (ns.map D.int)=some ns:=by
 induction ns with
 |nil=>rfl
 |cons n r ih=>rw[zg,CC,ih];rfl
theorem XC (ds:List D) (n:Nat):mZ (some (n:Int)) none (.lst ds)=.ok (.lst (ds.drop n)):=by
 unfold mZ
 dsimp only
 rw[HT.Xa,HT.P9]
 congr 2
 by_cases h:n<=ds.length
 ·rw[Nat.min_eq_left h,List.take_of_length_le (by rw[zbb];exact zA _)]
 ·rw[Nat.min_eq_right (by omega),List.drop_of_length_le (zA _),List.drop_of_length_le (by omega),List.take_nil]
end L2
namespace L2
open PySem PySem.Spec PyProof.Rows
noncomputable def Pl (n:Nat) (d:D):Prop:=IV d<=n/\AI d=true
theorem Pp {n:Nat}:∀ {ds:List D},(∀ d∈ds,IV d<=n)->Lh ds<=n
 |[],_=>by rw[Lh];exact zX _
 |d::r,h=>by
  rw[Lh]
  exact Nat.max_le.mpr ⟨h d ze,Pp fun d hd=>h d (zf _ hd)⟩
theorem Pq:∀ {ds:List D},(∀ d∈ds,AI d=true)->Mn ds=true
 |[],_=>by rw[Mn]
 |d::r,h=>by
  rw[Mn,h d ze,Pq fun d hd=>h d (zf _ hd)]
  rfl
theorem Iz {n:Nat}(i:Int):Pl n (.int i):=⟨by rw[IV];exact zX _;all_goals simp,by rw[AI];all_goals simp⟩
theorem kR {n:Nat}:Pl n .AA:=⟨by rw[IV];exact zX _;all_goals simp,by rw[AI];all_goals simp⟩
theorem kS {n:Nat}{ds:List D}(h:∀ d∈ds,Pl n d):Pl (n + 1) (.tup ds) :=
 ⟨by rw[IV];exact Nat.succ_le_succ (Pp fun d hd=>(h d hd).1),by rw[AI];exact Pq fun d hd=>(h d hd).2⟩
theorem kT {n:Nat}{ds:List D}(h:∀ d∈ds,Pl n d):Pl (n + 1) (.lst ds) :=
 ⟨by rw[IV];exact Nat.succ_le_succ (Pp fun d hd=>(h d hd).1),by rw[AI];exact Pq fun d hd=>(h d hd).2⟩
theorem Lw {n:Nat}(ns:List Int):Pl (n + 1) (.lst (ns.map D.int)):=kT fun d hd=>by
 obtain⟨i,_,rfl⟩:=zE.mp hd
 exact Iz i
theorem kU {n:Nat}:∀ d∈([]:List D),Pl n d:=fun d h=>by cases h
theorem Uu {n:Nat}{d:D}{ds:List D}(h:Pl n d) (t:∀ d∈ds,Pl n d):∀ e∈d::ds,Pl n e:=fun e he=>by
 rcases zu.mp he with rfl|he
 ·exact h
 ·exact t e he
theorem Ta {n:Nat}{x y:D}(h:Pl n x) (k:Pl n y):ZV n x y=.ok (.bl (Aw x y)):=by
 unfold ZV
 rw[if_pos ⟨h.1,h.2,k.2⟩]
theorem Tb {n:Nat}{x y:D}(h:Pl n x) (k:Pl n y):Ze n x y=.ok (.bl (!Aw x y)):=by
 unfold Ze
 rw[if_pos ⟨h.1,h.2,k.2⟩]
theorem Ol {gt:D->Ab->M Ab}{ft:Ab->M Bool}{fe:Ab->M D}{ρ:Ab}(f:D->D) (ds:List D) (h:∀ d∈ds,∃ ρ1,gt d ρ=.ok ρ1/\ft ρ1=.ok true/\fe ρ1=.ok (f d)):B8 gt ft fe ds ρ=.ok (ds.map f):=by
 rw[Jd (fun _=>true) f ds fun d hd=>by
  obtain⟨ρ1,h1,h2,h3⟩:=h d hd
  exact⟨ρ1,h1,h2,fun _=>h3⟩]
 rw[List.filter_eq_self.mpr fun _ _=>rfl]
theorem cZ (ds:List D) (a b:Nat):mZ (some (a:Int)) (some (b:Int)) (.lst ds)=.ok (.lst ((ds.drop a).take (b - a))):=by
 unfold mZ
 dsimp only
 rw[HT.P9,HT.P9]
 congr 2
 by_cases h:a<=ds.length
 ·rw[Nat.min_eq_left h]
  by_cases h2:b<=ds.length
  ·rw[Nat.min_eq_left h2]
  ·rw[Nat.min_eq_right (by omega),List.take_of_length_le (by rw[zbb];exact zA _),List.take_of_length_le (by rw[zbb];omega)]
 ·rw[Nat.min_eq_right (show ds.length<=a by omega),List.drop_of_length_le (zA _),List.drop_of_length_le (show ds.length<=a by omega),List.take_nil,List.take_nil]
end L2
namespace L2
open PySem PySem.Spec PyProof.Rows
section
variable {X:Cx}{WX:Str->Hp->Prop}{c:Bool}{P0:EA}{P:Addr->Prop}{H:Hp}{σ:St}{ρ:Ab}{a b e:Expr}{f g:Ab->M D}{ft gt:Ab->M Bool}{pos:Pos}{st:Stmt}{rest:List Stmt}{g1 g2:Ab->M Out}
theorem R7 {K:za}{H:Hp}{v:V}{d:D}(h:BL K H v d):∀ n:Nat,Ah K H (zv n v) (zv n d)
 |0=>.nil
 |n + 1=>by rw[za0,za0];exact .cons h (R7 h n)
theorem Mu {K:za}{H:Hp}{v:V}{d:D}(h:BL K H v d):∀ {vs:List V}{ds:List D}(n:Nat),Ah K H vs ds->Ah K H (vs.set n v) (ds.set n d)
 |_,_,_,.nil=>.nil
 |_,_,0,.cons _ t=>.cons h t
 |_,_,n + 1,.cons a t=>.cons a (Mu h n t)
noncomputable def wD (i:Nat) (ρ:Ab) (d k:D):M Out:=match k with
 | .int j=>if 0<=j/\j.toNat<=1000 then .ok (.next (ρ.set i (some (.own (zv j.toNat d))))) else .bad
 |_=>.bad
theorem Om {α:Type}(v:α):∀ n:Nat,(zv n [v]).flatten=zv n v
 |0=>rfl
 |n + 1=>by rw[za0,List.flatten_cons,Om v n];rfl
noncomputable def kW (i:Nat) (ρ:Ab) (ds:List D) (d k:D):M Out:=match k with
 | .int j=>(match O8 ds.length j with|some n=>.ok (.next (ρ.set i (some (.own (ds.set n d)))))|none=>.bad)
 |_=>.bad
noncomputable def dA (i:Nat) (ρ:Ab) (m:M D) (d:D):M Out:=match ρ[i]? with
 |some (some (.own ds))=>m.bind (kW i ρ ds d)
 |_=>.bad
theorem Mv (i:Nat){x:Str}{p1 aw:Pos}(hv:PE X (.Name x p1) (Lc i)) (ha:DE X WX true a f) (hk:DE X WX true b g)
 (hs:swapsWithSole [.Subscript (.Name x p1) b aw] a pos.line X.env=pure false:=by rfl) (hw:swappedStores [.Subscript (.Name x p1) b aw] a X.env=pure none:=by rfl) (h1:(assignEach [.Subscript (.Name x p1) b aw] X.env).map (·.2)=[assign (.Subscript (.Name x p1) b aw) X.env]:=by rfl)
 (ga:∀ v,assign (.Subscript (.Name x p1) b aw) X.env v=(do
  let ov <-holding [v] (eval (.Name x p1) X.env)
  let iv <-holding [v,ov] (eval b X.env)
  standAt aw
  holding [v,ov,iv] (setItem ov iv v)
  release [v,ov,iv] []):=by intro _;rfl) :
 DS X WX (.Assign [.Subscript (.Name x p1) b aw] a pos) (fun ρ=>(f ρ).bind (dA i ρ (g ρ))):=by
 obtain⟨ta,a1,a2⟩:=ha
 obtain⟨tb,b1,b2⟩:=hk
 refine⟨_,WT a1 (WS hv b1 set_list ga) hs hw h1,fun P0 P σ H Z ρ E h=>?_⟩
 dsimp only at h
 refine a2 P0 P σ H _ ρ E ?_
 cases q:f ρ with
 |bad=>rw[q] at h;exact h
 |ex x=>rw[q] at h;exact fun H' s=>h H' P (E.tr s)
 |ok d =>
  rw[q] at h
  simp only[M.A8] at h
  intro v H1 s1 hv
  have E1:=E.same s1
  unfold dA at h
  split at h
  ·rename_i ds e1
   obtain⟨p,xs,h1,h2,h3,h4,h5⟩:=E1.own i ds e1
   refine⟨_,h1,b2 P0 P σ H1 _ ρ E1 ?_⟩
   cases q2:g ρ with
   |bad=>rw[q2] at h;exact h.elim
   |ex x=>rw[q2] at h;exact fun H' s2=>h H' P ((E.tr s1).trans (E1.tr s2))
   |ok k =>
    rw[q2] at h
    simp only[M.A8] at h
    unfold kW at h
    intro w H2 s2 hw
    split at h
    ·rename_i j
     cases hw
     split at h
     ·rename_i n en
      have E2:=E1.same s2
      refine⟨p,xs,j,n,rfl,rfl,s2 _ _ h2,by rw[h5.length];exact en,?_⟩
      obtain⟨E3,t3⟩:=E2.mut e1 h1 h3 h4 (Mu (hv.mono s2.del) n (h5.mono s2.del))
      exact h _ _ _ ((E.tr s1).trans ((E1.tr s2).trans t3)) E3
     ·exact h.elim
    ·exact h.elim
  ·exact h.elim
noncomputable def Ay (c:Ab->M Bool) (b:Ab->M Out):Nat->Ab->M Out
 |0,_=>.bad
 |n + 1,ρ=>match c ρ with
  | .ok true=>(match b ρ with
   | .ok (.next ρ')=>Ay c b n ρ'
   | .ok (.cont ρ')=>Ay c b n ρ'
   | .ok (.brk ρ')=>.ok (.next ρ')
   |r=>r)
  | .ok false=>.ok (.next ρ)
  | .ex x=>.ex x
  | .bad=>.bad
noncomputable def KZ (c:Ab->M Bool) (b:Ab->M Out) (ρ:Ab):M Out :=
 @dite _ (∃ n,Ay c b n ρ≠.bad) (zbf _) (fun h=>Ay c b (zi h) ρ) (fun _=>.bad)
theorem CD {c:Ab->M Bool}{b:Ab->M Out}:∀ {n:Nat}{ρ:Ab},Ay c b n ρ≠.bad->∀ m,Ay c b (n + m) ρ=Ay c b n ρ
 |0,ρ,h,m=>(h rfl).elim
 |n + 1,ρ,h,m=>by
  rw[show n + 1 + m=(n + m) + 1 by omega]
  rw[Ay] at h
  rw[Ay,Ay]
  cases q:c ρ with
  |bad=>rfl
  |ex x=>rfl
  |ok k =>
   rw[q] at h
   cases k with
   |false=>rfl
   |true =>
    dsimp only at h ⊢
    cases q2:b ρ with
    |bad=>rfl
    |ex x=>rfl
    |ok o =>
     rw[q2] at h
     cases o with
     |next ρ'=>dsimp only at h ⊢;exact CD h m
     |cont ρ'=>dsimp only at h ⊢;exact CD h m
     |brk ρ'=>rfl
     |ret d=>rfl
     |CH d=>rfl
     |Fe d ρ2=>rfl
theorem XD {c:Ab->M Bool}{b:Ab->M Out}{n:Nat}{ρ:Ab}(h:Ay c b n ρ≠.bad):KZ c b ρ=Ay c b n ρ:=by
 unfold KZ
 have hx:∃ n,Ay c b n ρ≠.bad:=⟨n,h⟩
 rw[dif_pos hx]
 have hc:=zb hx
 have e1:=CD h (zi hx)
 have e2:=CD hc n
 rw[Nat.add_comm] at e2
 rw[<-e1,e2]
theorem VI {c:Ab->M Bool}{b:Ab->M Out}{ρ:Ab}(h:KZ c b ρ≠.bad):∃ n,Ay c b n ρ≠.bad/\KZ c b ρ=Ay c b n ρ:=by
 by_cases hx:∃ n,Ay c b n ρ≠.bad
 ·obtain⟨n,hn⟩:=hx
  exact⟨n,hn,XD hn⟩
 ·exact (h (by unfold KZ;rw[dif_neg hx])).elim
theorem hZ {K:za}{Z:Ends}{m:M Out}(h:gS K WX P0 P H Z m):m≠.bad:=fun e=>by rw[e] at h;exact h
theorem R8 {body:List Stmt}(hp:PassesOwn (model X.prog X.w) X.A X.env X.xe) (hc:DT X WX a ft) (hb:So X WX body g1):DS X WX (.While a body [] pos) (KZ ft g1):=by
 obtain⟨tc,c1,c2⟩:=hc
 obtain⟨tb,b1,b2⟩:=hb
 refine⟨_,WU hp c1 b1,fun P0 P σ H Z ρ E h=>?_⟩
 obtain⟨n,hn,en⟩:=VI (hZ h)
 rw[en] at h
 refine⟨fun m σ' H'=>∃ ρ' P',An X.K P0 P' H' σ' ρ'/\Tr P0 P H P' H'/\gS X.K WX P0 P' H' Z (Ay ft g1 m ρ'),⟨n,ρ,P,E,Tr.refl,h⟩,?_⟩
 rintro m σ1 H1 ⟨ρ1,P1,E1,t1,h1⟩
 cases m with
 |zero=>exact h1.elim
 |succ m =>
  rw[Ay] at h1
  refine c2 P0 P1 σ1 H1 _ ρ1 E1 ?_
  cases q:ft ρ1 with
  |bad=>rw[q] at h1;exact h1
  |ex x=>rw[q] at h1;exact fun H2 s2=>h1 H2 P1 (E1.tr s2)
  |ok k =>
   rw[q] at h1
   intro H2 s2
   have E2:=E1.same s2
   cases k with
   |false =>
    rw[if_neg (by simp)]
    exact h1 σ1 H2 P1 (E1.tr s2) E2
   |true =>
    rw[if_pos rfl]
    dsimp only at h1
    refine⟨fun σ' H'=>∃ ρ' P',An X.K P0 P' H' σ' ρ'/\Tr P0 P H P' H'/\gS X.K WX P0 P' H' Z (Ay ft g1 m ρ'),fun σ' H' z=>⟨m,Nat.lt_succ_self m,z⟩,?_⟩
    refine b2 P0 P1 σ1 H2 _ ρ1 E2 ?_
    cases q2:g1 ρ1 with
    |bad=>rw[q2] at h1;exact h1
    |ex x=>rw[q2] at h1;exact fun H3 P3 t3=>h1 H3 P3 ((E1.tr s2).trans t3)
    |ok o =>
     rw[q2] at h1
     have t2:=t1.trans (E1.tr s2)
     cases o with
     |next ρ'=>exact fun σ3 H3 P3 t3 E3=>⟨ρ',P3,E3,t2.trans t3,h1.tr ((E1.tr s2).trans t3)⟩
     |cont ρ'=>exact fun σ3 H3 P3 t3 E3=>⟨ρ',P3,E3,t2.trans t3,h1.tr ((E1.tr s2).trans t3)⟩
     |brk ρ'=>exact fun σ3 H3 P3 t3 E3=>h1 σ3 H3 P3 ((E1.tr s2).trans t3) E3
     |ret d=>exact fun v H3 P3 t3 hv=>h1 v H3 P3 ((E1.tr s2).trans t3) hv
     |CH d=>exact fun v fp H3 P3 t3=>h1 v fp H3 P3 ((E1.tr s2).trans t3)
     |Fe d ρ2=>exact fun v fp σ3 H3 P3 t3=>h1 v fp σ3 H3 P3 ((E1.tr s2).trans t3)
noncomputable def Uv (ds:List D):M D:=match ds with
 |[.int i]=>.ok (.int i)
 |[.bl b]=>.ok (.int (if b then 1 else 0))
 |_=>.bad
theorem dB:KY X.K WX (fun xs H Q=>(∃ i,xs=[.int i]/\Q (.int i) H)\/∃ k,xs=[.bl k]/\Q (.int (if k then 1 else 0)) H) Uv:=by
 intro P H ds vs Q ht hl h
 unfold Uv at h
 split at h
 ·obtain⟨v,rfl,hv⟩:=hl.one
  cases hv
  exact .inl ⟨_,rfl,h _ H (Ad.refl H) (.int _)⟩
 ·obtain⟨v,rfl,hv⟩:=hl.one
  cases hv
  exact .inr ⟨_,rfl,h _ H (Ad.refl H) (.int _)⟩
 ·exact h.elim
theorem dC {p:Pos}(hg:Gl X "int") (hm:X.mg "int" = none) (ha:DE X WX c e f) (hb:bootBuiltins "int" = some (.type "int"):=by decide +kernel) (hs:starEach [e] X.env=[(false,eval e X.env)]:=by rfl):DE X WX c (.Call (.Name "int" p) [e] [] pos) (fun ρ=>((f ρ).bind fun d=>(M.ok []).bind fun ds=>.ok (d::ds)).bind Uv) :=
 Og Vn dB hg hm hb (A2 ha A7 hs) (he:=hs)
noncomputable def Gz:List D->Option (List Bool)
 |[]=>some []
 | .bl b::r=>(Gz r).map (b::·)
 |_=>none
theorem Mw (bs:List Bool):Gz (bs.map D.bl)=some bs:=by
 induction bs with
 |nil=>rfl
 |cons b r ih=>rw[zg,Gz,ih];rfl
theorem Mx:∀ {ds:List D}{bs:List Bool},Gz ds=some bs->ds=bs.map D.bl
 |[],bs,h=>by cases h;rfl
 | .bl b::r,bs,h=>by
  rw[Gz] at h
  cases q:Gz r with
  |none=>rw[q] at h;cases h
  |some wt=>rw[q] at h;cases h;rw[Mx q];rfl
 | .AA::r,bs,h=>by cases h
 | .int _::r,bs,h=>by cases h
 | .str _::r,bs,h=>by cases h
 | .tup _::r,bs,h=>by cases h
 | .lst _::r,bs,h=>by cases h
 | .DK _::r,bs,h=>by cases h
 | .Bj _ _ _::r,bs,h=>by cases h
 | .ins _ _ _::r,bs,h=>by cases h
theorem My {K:za}{H:Hp}:∀ {vs:List V}{bs:List Bool},Ah K H vs (bs.map D.bl)->vs=bs.map V.bl
 |_,[],.nil=>rfl
 |_,b::r,.cons h t=>by cases h;rw[My t];rfl
theorem Mz:∀ {bs:List Bool}{us:List Value},Vals (bs.map V.bl) us->LSm.BoolsAre us bs
 |[],_,.nil=>.nil
 |b::r,_,.cons h t=>by cases h;exact .cons b (Mz t)
theorem MA (hc:X.calm=true):Gn X (.builtin "all") (fun xs H Q=>∃ p bs,xs=[.ref p]/\Dm X.K H p (List.map V.bl bs)/\Q (.bl (bs.all id)) H):=by
 intro pins s σ H xs us Q I r h
 obtain⟨p,bs,rfl,hq,q⟩:=h
 obtain⟨u,rfl,rx⟩:=vals1 r
 cases rx
 obtain⟨aa,r',pl,hz⟩:=I.list hq
 have hl:=pl.isList
 have hb:=Mz r'
 have aj:p < s.heap.objs.size:=by obtain⟨_,e,_⟩:=hl;exact zw e
 refine call_all_walk (wpAny_pyIter_list hl ?_)
 refine⟨s.heap.objs.size,[s.heap.objs.size,p],[s.heap.objs.size],aa.toArray.size,_,_,fun i=>(bs[i]?).getD true,rfl,Walks.list (A:=X.A.in1) (I.ok.hd hc) _ p (zG aj) aa.toArray,
  ⟨⟨_,zH _ rfl,rfl,rfl⟩,hl.push _⟩,fun i v s' Q' E' hP hQ=>?_,fun h' tk hk=>?_⟩
 ·obtain⟨b,e,rfl⟩:=hb.get i v (by simpa using hP)
  simp only[e,Option.getD_some] at hQ
  exact wpAny_truthy_bool hQ
 ·have e:((yR aa.toArray.size).all fun i=>(bs[i]?).getD true)=bs.all id:=by
   rw[zk,hb.length];exact LSm.range_all bs
  rw[e]
  exact⟨.bl _,H,I.kept (t':=tk) (LSm.kept_iter hk),rfl,q⟩
noncomputable def XE (ds:List D):M D:=match ds with
 |[.lst xs]=>(match Gz xs with|some bs=>.ok (.bl (bs.all id))|none=>.bad)
 |_=>.bad
theorem kX:KY X.K WX (fun xs H Q=>∃ p bs,xs=[.ref p]/\Dm X.K H p (List.map V.bl bs)/\Q (.bl (bs.all id)) H) XE:=by
 intro P H ds vs Q ht hl h
 unfold XE at h
 split at h
 ·rename_i xs
  obtain⟨v,rfl,hv⟩:=hl.one
  split at h
  ·rename_i bs eb
   have:=Mx eb
   subst this
   cases hv with
   |lst hs hh =>
    have:=My hh
    subst this
    exact⟨_,bs,rfl,hs.Bo,h _ H (Ad.refl H) (.bl _)⟩
  ·exact h.elim
 ·exact h.elim
theorem Tc {p:Pos}(hc:X.calm=true) (hg:Gl X "all") (hm:X.mg "all" = none) (ha:DE X WX c e f) (hb:bootBuiltins "all" = some (.builtin "all"):=by decide +kernel) (hs:starEach [e] X.env=[(false,eval e X.env)]:=by rfl):DE X WX c (.Call (.Name "all" p) [e] [] pos) (fun ρ=>((f ρ).bind fun d=>(M.ok []).bind fun ds=>.ok (d::ds)).bind XE) :=
 Mq (MA hc) kX hg hm hb (A2 ha A7 hs) (he:=hs)
end
end L2
namespace L2
open PySem PySem.Spec PyProof.Rows
noncomputable def Sm (n:Int):Prop:=zV n<=2 ^ 20
theorem XF:∀ {ns:List Int},W.WData.weightAll (ns.map W.WData.int)<=2 ^ 20->∀ n∈ns,Sm n
 |m::r,h,n,hn=>by
  rw[zg,W.WData.weightAll,W.WData.weight] at h
  rcases zu.mp hn with rfl|hn
  ·unfold Sm zV
   omega
  ·exact XF (by omega) n hn
theorem pS {ns:List Int}(h:W.WData.layableAll [W.WData.list (ns.map W.WData.int)]=true):∀ n∈ns,Sm n:=by
 unfold W.WData.layableAll at h
 rw[List.all_cons,zR] at h
 have h1:=h.1
 unfold W.WData.layable at h1
 rw[zR,decide_eq_true_eq,W.WData.weight] at h1
 exact XF h1.2
end L2
namespace HT
open PySem PySem.W PyProof.Rows Spec Calls u3
theorem Oo {l:OpenLaw}{n:Nat}{q:Program}{loose:List Str}{XP:(Str->Option Value)->Heap->Prop}{YP:World->Heap->Prop}{d:DefRec}
 (hn:l.most=some n) (gc:d.params.defaults=[])
 (run:∀(w:World) (s₀ s₁:Shared) (mg mb:Str->Option Value) (fa:Addr) (o:Obj) (pm cd doc:Value) (a:Addr) (vs:List Value) (ns:List Int),(∀ n∈ns,L2.Sm n)->
  Ground q loose [] XP w s₀ mg mb s₁.heap->YP w s₁.heap->s₁.heap.get? fa=some o->o.data=.func (docDef d.name d.params d.body d.scope pm cd doc)->s₁.heap.CodeRec cd d.name->mg d.name=some (.ref fa)->
  s₁.heap.get? a=some { cls:=.type "list",data:=.seq vs.toArray }->IntsAre vs ns->ns.length<=n->s₁.gens=#[]->
  codeAny (model l.prog w) callerA (.call (.ref fa) ⟨[.ref a],[]⟩) (fun r s'=>r=.ok (.ret (.bool true))/\OldK s₁.heap s'.heap/\s'.os=s₁.os/\AllBare s'.gens) s₁) :
 WalkO q loose XP YP l.row.toRowW d [] (fun f vs=>PySem.call f vs):=by
 intro w s₀ s₁ mg mb G Y fa o pm cd doc dV kV ho hd bz hD ge hg args vals as cR n4 gf my yv
 obtain rfl:dV=.none:=Dflts.none hD gc
 obtain rfl:kV=.none:=Dflts.noKw hD
 obtain⟨a,vs,ns,rfl,rfl,cD,b6,hlen⟩:=Vv hn cR my
 refine enter_call (codeAny_mono (run w s₀ s₁ mg mb fa o pm cd doc a vs ns (L2.pS n4) G Y ho (fd_plain hd) bz ge cD b6 hlen hg) fun r s' hq=>?_)
 obtain⟨rfl,h2,h3,h4⟩:=hq
 exact⟨.inl ⟨.bool true,.bool true,[],rfl,fun _=>rfl,.bool true,Vw l _,fun _=>⟨List.Pairwise.nil,fun _ hm=>(nomatch hm)⟩⟩,h2,h3,h4⟩
end HT
namespace L2
open PySem PySem.Spec PyProof.Rows
theorem rG {l:PySem.W.OpenLaw}{n k:Nat}{q:Program}{loose:List Str}{XP:(Str->Option Value)->Heap->Prop}{YP:World->Heap->Prop}{d:DefRec}{K:Params->za}{CX:World->U7}{sp:World->Sp}{x:Str}
 (hn:l.most=some n) (aK:n<=sizeLine) (gc:d.params.defaults=[]) (hr:BJ k callerA) (hY:∀(w:World) (h:Heap),YP w h->(K w.params).In h)
 (F:∀(w:World) (mg:Str->Option Value) (fa:Addr) (h:Heap),(K w.params).In h->h.Ns mainGlobals mg->mg d.name=some (.ref fa)->∃ fd:FuncData,(∀(s:Shared) (u:Value),BindsTo s fd ⟨[u],[]⟩ [(x,u)]) /\
  ∀ base:Heap,(K w.params).In base->base.Ns mainGlobals mg->Dn l.prog w (K w.params) mg base (CX w) k fa fd [x] (sp w))
 (ca:∀(w:World) (H:Hp) (a:Addr) (ns:List Int),(∀ n∈ns,Sm n)->ns.length<=n->ZG H->Dm (K w.params) H a (ns.map V.int)->sp w [.ref a] H (fun v _=>v=.bl true) fun _ _ _=>False)
 (i8:∀(w:World) (H:Hp) (s:Shared) (e:Value) (s':Shared),CX w [] H s (fun _ _ _=>False) e s'->False):PySem.W.WalkO q loose XP YP l.row.toRowW d [] (fun f vs=>PySem.call f vs):=by
 refine HT.Oo hn gc fun w s₀ s₁ mg mb fa o pm cd doc a vs ns bF G Y ho hd bz ge cD b6 hlen hg=>?_
 have KX:=hY w _ Y
 obtain⟨fd,hb,hF⟩:=F w mg fa _ KX G.T.g ge
 exact QQ KX G.T.g G.T.b G.T.builtins G.T.nolimit hg cD b6 (yP hlen aK) hr hF hb (fun H hO hS=>ca w H a ns bF hlen hO hS) fun H e s'=>i8 w H s₁ e s'
theorem dD {F:List D->M D}(h:∀ ns:List Int,ns.length<=63->(∀ n∈ns,Sm n)->F [.lst (ns.map D.int)]=.ok (.bl true)) (K:za) (H:Hp) (a:Addr) (ns:List Int) (bF:∀ n∈ns,Sm n) (hl:ns.length<=63) (hS:Dm K H a (ns.map V.int)):SX K 1 F [.ref a] H (fun v _=>v=.bl true) fun _ _ _=>False:=by
 refine⟨rfl,fun _=>False,[.lst (ns.map D.int)],fun _ z=>z.elim,.cons (.lst ?_ (Ah.ints ns)) .nil,?_⟩
 ·have e:del H (fun _=>False)=H:=by funext b;exact Ax (fun z=>z)
  rw[e];exact hS
 ·rw[h ns hl bF]
  exact fun v H' s hv=>hv.Mp
noncomputable def Oq (i j:Int):Prop:=(zV i<=2 ^ 20 + 1/\zV j<=2 ^ 10)\/R6 i j
theorem VJ {a b:Int}(h:zV a + zV b<=2 ^ 21):IntMulOk a b:=by
 have e:(2:Nat) ^ 21=2097152:=by decide
 have h2:Builtin.Int.intTooBig (zV a + zV b)=false:=by
  unfold Builtin.Int.intTooBig bitsLine
  exact decide_eq_false (by omega)
 unfold IntMulOk
 rw[h2]
 simp
theorem Oq.ok {i j:Int}(h:Oq i j):IntMulOk i j:=by
 rcases h with ⟨h1,h2⟩|h
 ·exact VJ (by omega)
 ·exact h.ok
theorem dE {X:Cx}:Gm X (binaryOp .Mult) (rI Oq fun i j=>.int (i * j)):=qY fun _ _ _ _ _ _ _ hc q=>mul_int q hc.ok
noncomputable instance (i j:Int):Decidable (Oq i j):=zbf _
noncomputable def I0:=Bu fun i j=>if Oq i j then .ok (.int (i * j)) else .bad
theorem Ed {i j:Int}(h:Oq i j):I0 (.int i) (.int j)=.ok (.int (i * j)):=by
 unfold I0 Bu
 dsimp only
 rw[if_pos h]
theorem FA {X:Cx}{WX:Str->Hp->Prop}{c:Bool}{a b:Expr}{f g:Ab->M D}{pos:Pos}(ha:DE X WX c a f) (hb:DE X WX c b g):DE X WX c (.BinOp a .Mult b pos) (fun ρ=>(f ρ).bind fun x=>(g ρ).bind fun y=>I0 x y):=Oe dE (Pk fun _ _ _ _=>.int _) ha hb
theorem bits_le {n:Int}{k:Nat}(h:n.natAbs < 2 ^ k):zV n<=k:=by
 unfold zV
 split
 ·exact zX _
 ·rename_i hn
  have hp:n.natAbs≠0:=by simpa using hn
  exact (Nat.log2_lt hp).mpr h
theorem VL {c x:Int}(h:Sm c) (hx:x.natAbs < 2 ^ 20):zV (c + x)<=2 ^ 20 + 1:=by
 refine bits_le ?_
 have h1:=natAbs_lt_pow_bits c
 have h2:(2:Nat) ^ zV c<=2 ^ (2 ^ 20):=Nat.pow_le_pow_right (by omega) h
 have h3:(2:Nat) ^ 20<=2 ^ (2 ^ 20):=Nat.pow_le_pow_right (by omega) (by omega)
 have h4:(c + x).natAbs<=c.natAbs + x.natAbs:=Int.natAbs_add_le c x
 rw[Nat.pow_succ]
 omega
end L2
namespace L2
open PySem PySem.Spec PyProof.Rows
mutual
noncomputable def Je:D->Bool
 | .tup a=>Jf a
 | .lst _=>false
 | .DK _=>false
 | .Bj _ _ _=>false
 | .ins _ _ _=>false
 |_=>true
noncomputable def Jf:List D->Bool
 |[]=>true
 |a::r=>Je a && Jf r
end
theorem Uw {H:Hp}{P0 P:Addr->Prop}{a:Addr}{xs:List V}(ht:∀ a,P a->Dp H a) (h:del H P0 a=some (.tup xs)):del H P a=some (.tup xs):=by
 obtain⟨h1,h2⟩:=Am h
 rw[Ax fun z=>by
  obtain⟨o',q,r⟩:=ht a z
  rw[h2] at q;cases q
  exact (r xs).1 rfl]
 exact h2
mutual
theorem BL.Je {K:za}{H:Hp}{P0 P:Addr->Prop}(ht:∀ a,P a->Dp H a):∀ {v:V}{d:D},Je d=true->BL K (del H P0) v d->BL K (del H P) v d
 |_,_,_,.AA=>.AA
 |_,_,_,.bl b=>.bl b
 |_,_,_,.int i=>.int i
 |_,_,_,.str x=>.str x
 |_,_,n,.tup h r=>.tup (Uw ht h) (Ah.Je ht (by rw[L2.Je] at n;exact n) r)
 |_,_,n,.lst h r=>by rw[L2.Je] at n;cases n
 |_,_,n,.DK h r=>by rw[L2.Je] at n;cases n
 |_,_,n,.Iq h r=>by rw[L2.Je] at n;cases n
 |_,_,n,.Ir h r=>by rw[L2.Je] at n;cases n
 |_,_,n,.ins _ h r=>by rw[L2.Je] at n;cases n
theorem Ah.Je {K:za}{H:Hp}{P0 P:Addr->Prop}(ht:∀ a,P a->Dp H a):∀ {vs:List V}{ds:List D},Jf ds=true->Ah K (del H P0) vs ds->Ah K (del H P) vs ds
 |_,_,_,.nil=>.nil
 |_,_,n,.cons h t=>by
  rw[Jf,zR] at n
  exact .cons (BL.Je ht n.1 h) (Ah.Je ht n.2 t)
end
noncomputable def dp (m:M D):M D:=m.bind fun d=>if Je d=true then .ok d else .bad
theorem dG {X:Cx}{WX:Str->Hp->Prop}{e:Expr}{f:Ab->M D}(h:DE X WX false e f):DE X WX true e (fun ρ=>dp (f ρ)):=by
 obtain⟨t,h1,h2⟩:=h
 refine⟨t,h1,fun P0 P σ H Q ρ E g=>h2 P0 P σ H Q ρ E ?_⟩
 unfold dp at g
 dsimp only at g
 cases e:f ρ with
 |ok d =>
  rw[e] at g
  simp only[M.A8] at g
  by_cases hf:Je d=true
  ·rw[if_pos hf] at g
   exact fun v H' s hv=>g v H' s (hv.Je (E.same s).Cp hf)
  ·rw[if_neg hf] at g;exact g.elim
 |ex x=>rw[e] at g;exact g
 |bad=>rw[e] at g;exact g
end L2
namespace L2
open PySem PySem.Spec PyProof.Rows
section
variable {α:Type}(lt:α->α->Prop)
noncomputable def NA:List α->List α->Prop
 |y::ys,x::xs=>(lt y x/\ys.length=xs.length)\/(y=x/\NA ys xs)
 |_,_=>False
theorem NA.len:∀ {ys xs:List α},NA lt ys xs->ys.length=xs.length
 |y::ys,x::xs,h=>by
  rcases h with ⟨_,h⟩|⟨_,h⟩
  ·rw[zo,zo,h]
  ·rw[zo,zo,NA.len h]
 |[],[],h=>h.elim
 |[],_::_,h=>h.elim
 |_::_,[],h=>h.elim
theorem XG (n:Nat) (ih:∀ xs:List α,xs.length=n->Acc (NA lt) xs){x:α}(hx:Acc lt x):∀ {xs:List α},xs.length=n->Acc (NA lt) xs->Acc (NA lt) (x::xs):=by
 induction hx with
 |intro x _ wu =>
  intro xs hl cg
  induction cg with
  |intro xs _ n5 =>
   refine .intro _ fun zs h=>?_
   cases zs with
   |nil=>exact h.elim
   |cons y ys =>
    rcases h with ⟨h1,h2⟩|⟨h1,h2⟩
    ·exact wu y h1 (h2.trans hl) (ih ys (h2.trans hl))
    ·subst h1
     exact n5 ys h2 ((NA.len lt h2).trans hl)
theorem MB (h:∀ x,Acc lt x):∀(n:Nat) (xs:List α),xs.length=n->Acc (NA lt) xs
 |0,[],_=>.intro _ fun zs h=>by cases zs<;>exact h.elim
 |n + 1,x::xs,e=>XG lt n (MB h n) (h x) (by simpa using e) (MB h n xs (by simpa using e))
theorem Ux:∀ {xs:List α}{i:Nat}{y:α}{x:α},xs[i]? =some x->lt y x->NA lt (xs.set i y) xs
 |[],_,_,_,h,_=>by cases h
 |z::zs,0,y,x,h,hl=>by
  cases h
  exact .inl ⟨hl,rfl⟩
 |z::zs,i + 1,y,x,h,hl=>.inr ⟨rfl,Ux (by simpa using h) hl⟩
theorem NA.trans (ht:∀ a b c,lt a b->lt b c->lt a c):∀ {xs ys zs:List α},NA lt xs ys->NA lt ys zs->NA lt xs zs
 |x::xs,y::ys,z::zs,h1,h2=>by
  rcases h1 with ⟨a,b⟩|⟨rfl,b⟩
  ·rcases h2 with ⟨c,d⟩|⟨rfl,d⟩
   ·exact .inl ⟨ht _ _ _ a c,b.trans d⟩
   ·exact .inl ⟨a,b.trans (NA.len lt d)⟩
  ·rcases h2 with ⟨c,d⟩|⟨rfl,d⟩
   ·exact .inl ⟨c,(NA.len lt b).trans d⟩
   ·exact .inr ⟨rfl,NA.trans ht b d⟩
 |[],_,_,h,_=>by cases h
 |_::_,[],_,h,_=>by cases h
 |_::_,_::_,[],_,h=>by cases h
end
end L2
namespace L2
open PySem PySem.Spec PyProof.Rows
section
variable {X:Cx}{WX:Str->Hp->Prop}{c:Bool}{P0:EA}{P:Addr->Prop}{H:Hp}{σ:St}{ρ:Ab}{a b e:Expr}{f g g2:Ab->M D}{pos:Pos}
theorem An.forget {K:za}(E:An K P0 P H σ ρ) (k:Nat):An K P0 P H σ (ρ.set k none):=by
 have key:∀(j:Nat) (cl:Cl),(ρ.set k none)[j]? =some (some cl)->k≠j/\ρ[j]? =some (some cl):=fun j cl h=>by
  rcases get_set h with ⟨_,_,z⟩|z
  ·cases z
  ·exact z
 exact⟨E.sub,E.Cp,fun j d h=>E.val j d (key j _ h).2,fun j d h io=>E.ows j d (key j _ h).2 io,fun i j c c' v v' fp ai h1 h2=>E.apart i j c c' v v' fp ai (key i _ h1).2 (key j _ h2).2,by rw[yK];exact E.len,fun j c n h hp=>E.pin j c n (key j _ h).2 hp⟩
theorem dH (i:Nat){x:Str}{pos' da:Pos}(hN:X.N.Nodup) (hi:X.N[i]? =some x) (hx:Loc X.env.scope x) (hs:swapsWith (.List [] da) (some (.Name x pos')) pos.line X.env=pure false:=by rfl) (hf:X.fn x=true\/X.env.scope.names.lookup x=some .local:=by first | exact .inl rfl | exact .inr rfl | assumption) :
 DS X WX (.Assign [.Name x pos'] (.List [] da) pos) (fun ρ=>.ok (.next (ρ.set i (some (.ow (.rows [])))))):=by
 refine⟨_,Sy hN hi hx (P8 Cj) hs hf,fun P0 P σ H Z ρ E h=>?_⟩
 refine⟨zX _,fun p hp=>?_⟩
 have nP:¬ P p:=fun z=>(E.Cp p z).no hp
 have sm:Ad (del H P) (del (upd H p (.lst [])) (fun a=>P a\/a=p)):=fun b o e=>by
  obtain⟨h1,h2⟩:=Am e
  have hb:b≠p:=Az h2 hp
  rw[Ax (fun z=>z.elim h1 hb),Ag hb];exact h2
 refine h _ _ (fun a=>P a\/a=p) ⟨sm,fun a ha=>by rw[Ag (fun z=>nP (by rw[<-z];exact E.sub a ha))]⟩ (E.VF (fp:=[p]) (fun a h=>.inl h) (fun a h=>?_) sm (fun j c' v' ai ae h1 h2 h3 a ha=>?_) ⟨p,[],rfl,rfl,Ar,.nil⟩ (fun a ha=>?_) (by simp))
 ·by_cases ha:a=p
  ·subst ha;exact Dp.lst Ar
  ·rcases h with h|h
   ·unfold Dp;rw[Ag ha];exact E.Cp a h
   ·exact absurd h ha
 ·obtain⟨ys,q⟩:=h3.at a ha
  have hn:a≠p:=Az q hp
  exact⟨Ag hn,fun z=>hn (zh.mp z)⟩
 ·rw[zh.mp ha]
  exact⟨.inr rfl,fun z=>nP (E.sub p z)⟩
theorem Bz.snoc {K:za}{H:Hp}{P:Addr->Prop}{q:Addr}{xs:List V}{ds:List D}(hq:H q=some (.lst xs)) (hx:Ah K (del H P) xs ds):∀ {ps:List Addr}{C3:List (List D)},Bz K H P ps C3->Bz K H P (ps++[q]) (C3++[ds])
 |_,_,.nil=>.cons hq hx .nil
 |_,_,.cons h r t=>.cons h r (t.snoc hq hx)
noncomputable def XH (i k:Nat) (ρ:Ab):M Out:=match ρ[i]?,ρ[k]? with
 |some (some (.ow (.rows C3))),some (some (.own ds))=>if C3.length < 1000/\i≠k then .ok (.next ((ρ.set k none).set i (some (.ow (.rows (C3++[ds])))))) else .bad
 |_,_=>.bad
theorem dI (i k:Nat){x y:Str}{p1 p2 apos ad:Pos}(hv:PE X (.Name x p1) (Lc i)) (hw:PE X (.Name y p2) (Lc k)) (hs:starEach [.Name y p2] X.env=[(false,eval (.Name y p2) X.env)]:=by rfl)
 (bL:swapsWith (.Call (.Attribute (.Name x p1) "append" apos) [.Name y p2] [] ad) none pos.line X.env=pure false:=by rfl)
 (a8:attributeBase (.Name x p1) "append" X.env (eval (.Name x p1) X.env)=eval (.Name x p1) X.env:=by rfl)
 (aV:((backTo ad (starEach [.Name y p2] X.env)).all (fun x => !x.1) && (backToKw ad (keywordEach [] X.env)).all (fun x=>x.1.isSome) && decide (([.Name y p2]:List Expr).length + ([]:List Keyword).length + (if ([]:List Keyword).isEmpty then 0 else 1) < 30))=true:=by rfl)
 (a9:(apos.endLine == ad.line)=true:=by rfl) (ar:(backTo ad (starEach [] X.env)).any (·.1)=false:=by rfl) :
 DS X WX (.Expr (.Call (.Attribute (.Name x p1) "append" apos) [.Name y p2] [] ad) pos) (XH i k):=by
 refine⟨_,Hi (QO zal PySem.F.slot_list_append PySem.F.type_list_append O9 hv (Bi hw Cj hs) a8 aV a9 hs ar) bL,fun P0 P σ H Z ρ E h=>?_⟩
 unfold XH at h
 split at h
 ·rename_i C3 ds e1 e2
  by_cases hl:C3.length < 1000/\i≠k
  ·rw[if_pos hl] at h
   obtain⟨v,fp,h1,o1,h4,nd⟩:=E.ows i _ e1 rfl
   obtain⟨w,fq,k1,o2,k4,_⟩:=E.ows k _ e2 rfl
   have oa:=o1
   have ob:=o2
   obtain⟨p,ps,rfl,rfl,h2,h3⟩:=o1
   obtain⟨q,xs,rfl,rfl,k2,k3⟩:=o2
   refine⟨_,h1,.inl ⟨rfl,_,.of h2⟩,⟨_,k1,p,_,_,rfl,rfl,h2,AG (by rw[zc,h3.length];exact yQ hl.1),?_⟩⟩
   have pP:=h4 p ze
   have sd:del (upd H p (.lst (ps.map V.ref++[V.ref q]))) P=del H P:=by
    funext b
    by_cases hb:P b
    ·rw[D2 hb,D2 hb]
    ·rw[Ax hb,Ax hb,Ag (fun z=>hb (by rw[z];exact pP.1))]
   have sm:Ad (del H P) (del (upd H p (.lst (ps.map V.ref++[V.ref q]))) P):=by rw[sd];exact Ad.refl _
   have qn:q∉p::ps:=fun z=>E.apart i k _ _ _ _ _ _ e1 e2 h1 k1 oa ob hl.2 q z (zh.mpr rfl)
   have qp:q≠p:=fun z=>qn (by rw[z];exact ze)
   have key:=(E.forget k).VF (P':=P) (H':=upd H p (.lst (ps.map V.ref++[V.ref q]))) (i:=i) (v:=.ref p) (c:=.ow (.rows (C3++[ds]))) (fp:=p::(ps++[q])) (fun a h=>h) (fun a h=>?_) sm (fun j c' v' ai ae g1 g2 g3 a ha=>?_)
    ⟨p,ps++[q],rfl,rfl,by rw[zK];exact Ar,?_⟩ (fun a ha=>?_) ?_
   ·rw[Kq h1] at key
    exact h _ _ _ ⟨sm,fun a h=>by rw[Ag (fun z=>pP.2 (by rw[<-z];exact h))]⟩ key
   ·by_cases ha:a=p
    ·subst ha;exact Dp.lst Ar
    ·unfold Dp;rw[Ag ha];exact E.Cp a h
   ·have hj:k≠j/\ρ[j]? =some (some c'):=by
     rcases get_set g1 with ⟨_,_,z⟩|z
     ·cases z
     ·exact z
    have n1:=E.apart j i _ _ _ _ _ _ hj.2 e1 g2 h1 g3 oa (yE ae) a ha
    have n2:=E.apart j k _ _ _ _ _ _ hj.2 e2 g2 k1 g3 ob (yE hj.1) a ha
    have ap:a≠p:=fun z=>n1 (by rw[z];exact ze)
    refine⟨Ag ap,fun z=>?_⟩
    rcases zu.mp z with z|z
    ·exact ap z
    ·rcases zx.mp z with z|z
     ·exact n1 (zf _ z)
     ·exact n2 z
   ·refine Bz.snoc (xs:=xs) (by rw[Ag qp];exact k2) (by rw[sd];exact k3) (h3.move sm fun a ha=>Ag fun z=>?_)
    rw[yJ] at nd
    exact nd.1 (by rw[<-z];exact ha)
   ·rcases zu.mp ha with rfl|ha
    ·exact pP
    ·rcases zx.mp ha with ha|ha
     ·exact h4 a (zf _ ha)
     ·exact k4 a ha
   ·rw[yJ] at nd ⊢
    refine⟨fun z=>?_,?_⟩
    ·rcases zx.mp z with z|z
     ·exact nd.1 z
     ·exact qp (zh.mp z).symm
    ·rw[zJ]
     refine⟨nd.2,by simp,fun x hx y hy z=>?_⟩
     rw[zh.mp hy] at z
     exact qn (zf _ (z▸hx))
  ·rw[if_neg hl] at h;exact h.elim
 ·exact h.elim
theorem XI {α:Type}{l:List α}{k:Int}{n:Nat}(h:O8 l.length k=some n):QN l k=l[n]? :=by
 unfold QN
 rw[h]
 rfl
noncomputable def rowAt (C3:List (List D)) (ka:D):M (List D):=match ka with
 | .int j=>(match O8 C3.length j with|some n=>(match C3[n]? with|some ds=>.ok ds|none=>.bad)|none=>.bad)
 |_=>.bad
theorem Ot {C3:List (List D)}{ka:D}{m:M (List D)}(h:rowAt C3 ka=m) (hb:m≠.bad):∃ j n ds,ka=.int j/\O8 C3.length j=some n/\C3[n]? =some ds/\m=.ok ds:=by
 subst h
 unfold rowAt at hb ⊢
 split at hb
 ·rename_i j
  split at hb
  ·rename_i n en
   split at hb
   ·rename_i ds ed
    exact⟨j,n,ds,rfl,en,ed,by simp only[en,ed]⟩
   ·exact (hb rfl).elim
  ·exact (hb rfl).elim
 ·exact (hb rfl).elim
noncomputable def dJ (i:Nat) (ρ:Ab) (ma mb:M D):M D:=match ρ[i]? with
 |some (some (.ow (.rows C3)))=>ma.bind fun ka=>(rowAt C3 ka).bind fun ds=>mb.bind fun kb=>ZW (.lst ds) kb
 |_=>.bad
theorem pT {K:za}{P:Addr->Prop}{Q:VK}{m:M D}(h:gV K WX P H Q m):m≠.bad:=fun e=>by rw[e] at h;exact h
theorem Uy {α β:Type}{m:M α}{k:α->M β}(h:m.bind k≠.bad):m≠.bad:=fun e=>by rw[e] at h;exact h rfl
theorem Td (i:Nat){x:Str}{p1 p2:Pos}(hv:PE X (.Name x p1) (Lc i)) (ha:DE X WX true a f) (hb:DE X WX true b g) (hs:Hj a:=by exact fun _ _=>rfl) (bi:Hj b:=by exact fun _ _=>rfl) :
 DE X WX true (.Subscript (.Subscript (.Name x p1) a p2) b pos) (fun ρ=>dJ i ρ (f ρ) (g ρ)):=by
 obtain⟨ta,a1,a2⟩:=ha
 obtain⟨tb,b1,b2⟩:=hb
 refine⟨_,Ud Lp (Ud Lp hv a1 hs) b1 bi,fun P0 P σ H Q ρ E h=>?_⟩
 dsimp only at h
 unfold dJ at h
 split at h
 ·rename_i C3 e1
  obtain⟨v,fp,h1,⟨p,ps,rfl,rfl,h2,h3⟩,h4,nd⟩:=E.ows i _ e1 rfl
  refine⟨_,h1,a2 P0 P σ H _ ρ E ?_⟩
  cases q:f ρ with
  |bad=>rw[q] at h;exact h
  |ex x=>rw[q] at h;exact h
  |ok ka =>
   rw[q] at h
   simp only[M.A8] at h
   intro w H1 s1 hw
   obtain⟨j,n,ds,rfl,en,ed,em⟩:=Ot rfl (Uy (pT h))
   rw[em] at h
   simp only[M.A8] at h
   cases hw
   obtain⟨r,xs,r1,r2,r3⟩:=h3.get ed
   have hl:O8 (ps.map V.ref).length j=some n:=by rw[zc,h3.length];exact en
   refine⟨p,_,j,.ref r,rfl,rfl,.of (s1 _ _ h2),by rw[XI hl,zD,r1];rfl,?_⟩
   refine b2 P0 P σ H1 _ ρ (E.same s1) ?_
   cases q2:g ρ with
   |bad=>rw[q2] at h;exact h.elim
   |ex x=>rw[q2] at h;exact fun H' s'=>h H' (s1.trans s')
   |ok kb =>
    rw[q2] at h
    simp only[M.A8] at h
    intro u H2 s2 hu
    unfold ZW at h
    split at h
    ·rename_i cc;cases cc
    ·rename_i jh j' cc
     cases cc
     split at h
     ·rename_i d e
      cases hu
      obtain⟨z,k1,k2⟩:=(r3.mono (s1.trans s2).del).QN e
      exact⟨r,xs,j',z,rfl,rfl,.of (s2 _ _ (s1 _ _ r2)),k1,h _ H2 (s1.trans s2) k2⟩
     ·exact h.elim
    ·exact h.elim
 ·exact h.elim
theorem Bz.set {K:za}{H H':Hp}{P:Addr->Prop}(sm:Ad (del H P) (del H' P)){r:Addr}{xs:List V}{ds:List D}(hr:H' r=some (.lst xs)) (hx:Ah K (del H' P) xs ds) (k:∀ a,a≠r->H' a=H a):∀ {ps:List Addr}{C3:List (List D)}{n:Nat},ps.Nodup->ps[n]? =some r->Bz K H P ps C3->Bz K H' P ps (C3.set n ds)
 |_,_,_,_,e,.nil=>by simp at e
 |_,_,0,nd,e,.cons h1 h2 t=>by
  simp at e;subst e
  rw[yJ] at nd
  exact .cons hr hx (t.move sm fun a ha=>k a fun z=>nd.1 (by rw[<-z];exact ha))
 |q::ps,d::C3,n + 1,nd,e,.cons h1 h2 t=>by
  rw[yJ] at nd
  have e':ps[n]? =some r:=by simpa using e
  refine .cons ((k q fun z=>nd.1 (by rw[z];exact zj e')).trans h1) (h2.mono sm) (t.set sm hr hx k nd.2 e')
noncomputable def dM (i:Nat) (ρ:Ab) (C3:List (List D)) (d ka:D) (ds:List D) (kb:D):M Out:=match ka,kb with
 | .int j,.int l=>(match O8 C3.length j,O8 ds.length l with|some n,some m=>.ok (.next (ρ.set i (some (.ow (.rows (C3.set n (ds.set m d)))))))|_,_=>.bad)
 |_,_=>.bad
noncomputable def Uz (i:Nat) (ρ:Ab) (ma mb:M D) (d:D):M Out:=match ρ[i]? with
 |some (some (.ow (.rows C3)))=>ma.bind fun ka=>(rowAt C3 ka).bind fun ds=>mb.bind fun kb=>dM i ρ C3 d ka ds kb
 |_=>.bad
theorem dN (i:Nat){x:Str}{p1 p2 aw:Pos}(hv:PE X (.Name x p1) (Lc i)) (he:DE X WX true e g2) (ha:DE X WX true a f) (hb:DE X WX true b g) (wv:Hj a:=by exact fun _ _=>rfl)
 (hs:swapsWithSole [.Subscript (.Subscript (.Name x p1) a p2) b aw] e pos.line X.env=pure false:=by rfl) (hw:swappedStores [.Subscript (.Subscript (.Name x p1) a p2) b aw] e X.env=pure none:=by rfl) (h1:(assignEach [.Subscript (.Subscript (.Name x p1) a p2) b aw] X.env).map (·.2)=[assign (.Subscript (.Subscript (.Name x p1) a p2) b aw) X.env]:=by rfl)
 (ga:∀ v,assign (.Subscript (.Subscript (.Name x p1) a p2) b aw) X.env v=(do
  let ov <-holding [v] (eval (.Subscript (.Name x p1) a p2) X.env)
  let iv <-holding [v,ov] (eval b X.env)
  standAt aw
  holding [v,ov,iv] (setItem ov iv v)
  release [v,ov,iv] []):=by intro _;rfl) :
 DS X WX (.Assign [.Subscript (.Subscript (.Name x p1) a p2) b aw] e pos) (fun ρ=>(g2 ρ).bind (Uz i ρ (f ρ) (g ρ))):=by
 obtain⟨te,e1,e2⟩:=he
 obtain⟨ta,a1,a2⟩:=ha
 obtain⟨tb,b1,b2⟩:=hb
 refine⟨_,WT e1 (WS (Ud Lp hv a1 wv) b1 set_list ga) hs hw h1,fun P0 P σ H Z ρ E h=>?_⟩
 dsimp only at h
 refine e2 P0 P σ H _ ρ E ?_
 cases q0:g2 ρ with
 |bad=>rw[q0] at h;exact h
 |ex x=>rw[q0] at h;exact fun H' s=>h H' P (E.tr s)
 |ok d =>
  rw[q0] at h
  simp only[M.A8] at h
  intro v H0 s0 n6
  have E0:=E.same s0
  unfold Uz at h
  split at h
  ·rename_i C3 uN
   obtain⟨v',fp,h1,o1,h4,nd⟩:=E0.ows i _ uN rfl
   have oa:=o1
   obtain⟨p,ps,rfl,rfl,h2,h3⟩:=o1
   refine⟨_,h1,a2 P0 P σ H0 _ ρ E0 ?_⟩
   cases q:f ρ with
   |bad=>rw[q] at h;exact h.elim
   |ex x=>rw[q] at h;exact fun H' s=>h H' P ((E.tr s0).trans (E0.tr s))
   |ok ka =>
    rw[q] at h
    simp only[M.A8] at h
    intro w H1 s1 hw
    obtain⟨j,n,ds,rfl,en,ed,em⟩:=Ot rfl (Uy (hZ h))
    rw[em] at h
    simp only[M.A8] at h
    cases hw
    obtain⟨r,xs,r1,r2,r3⟩:=h3.get ed
    have hl:O8 (ps.map V.ref).length j=some n:=by rw[zc,h3.length];exact en
    refine⟨p,_,j,.ref r,rfl,rfl,.of (s1 _ _ h2),by rw[XI hl,zD,r1];rfl,?_⟩
    have E1:=E0.same s1
    refine b2 P0 P σ H1 _ ρ E1 ?_
    cases q2:g ρ with
    |bad=>rw[q2] at h;exact h.elim
    |ex x=>rw[q2] at h;exact fun H' s'=>h H' P ((E.tr s0).trans ((E0.tr s1).trans (E1.tr s')))
    |ok kb =>
     rw[q2] at h
     simp only[M.A8] at h
     intro u H2 s2 hu
     unfold dM at h
     split at h
     ·rename_i j' l cc
      cases cc
      cases hu
      split at h
      ·rename_i n' m em ww
       rw[en] at em;cases em
       have E2:=E1.same s2
       have cE:=s1.trans s2
       have rm:r∈ps:=zj r1
       have rP:=h4 r (zf _ rm)
       have d0:=yJ.mp nd
       have rp:r≠p:=fun z=>d0.1 (by rw[<-z];exact rm)
       have sd:del (upd H2 r (.lst (xs.set m v))) P=del H2 P:=by
        funext b
        by_cases hb:P b
        ·rw[D2 hb,D2 hb]
        ·rw[Ax hb,Ax hb,Ag (fun z=>hb (by rw[z];exact rP.1))]
       have sm:Ad (del H2 P) (del (upd H2 r (.lst (xs.set m v))) P):=by rw[sd];exact Ad.refl _
       have ob:=oa.same cE
       refine⟨r,xs,l,m,rfl,rfl,cE _ _ r2,by rw[r3.length];exact ww,?_⟩
       have key:=E2.VF (P':=P) (H':=upd H2 r (.lst (xs.set m v))) (i:=i) (v:=.ref p) (c:=.ow (.rows (C3.set n (ds.set m d)))) (fp:=p::ps) (fun a h=>h) (fun a h=>?_) sm (fun j2 c' v' ai ae g1 g2 g3 a ha=>?_)
        ⟨p,ps,rfl,rfl,by rw[Ag (yE rp)];exact cE _ _ h2,?_⟩ h4 nd
       ·rw[Kq h1] at key
        exact h _ _ _ ((E.tr s0).trans ((E0.tr cE).trans ⟨sm,fun a h=>by rw[Ag (fun z=>rP.2 (by rw[<-z];exact h))]⟩)) key
       ·by_cases ha:a=r
        ·subst ha;exact Dp.lst Ar
        ·unfold Dp;rw[Ag ha];exact E2.Cp a h
       ·have n1:=E2.apart j2 i _ _ _ _ _ _ g1 uN g2 h1 g3 ob (yE ae) a ha
        exact⟨Ag fun z=>n1 (by rw[z];exact zf _ rm),n1⟩
       ·have wx:Bz X.K H2 P ps C3:=h3.move cE.del fun a ha=>by obtain⟨ys,z⟩:=h3.at a ha;rw[z];exact cE _ _ z
        refine wx.set sm Ar ?_ (fun a ha=>Ag ha) d0.2 r1
        rw[sd]
        exact Mu ((n6.mono s1.del).mono s2.del) m (r3.mono cE.del)
      ·exact h.elim
     ·exact h.elim
  ·exact h.elim
end
end L2
namespace L2
open PySem PySem.Spec PyProof.Rows
section
variable {X:Cx}{WX:Str->Hp->Prop}{c:Bool}{P0:EA}{P:Addr->Prop}{H:Hp}{σ:St}{ρ:Ab}{a b e:Expr}{f g g2:Ab->M D}{pos:Pos}
theorem DU:∀ {ds:List D}{ns:List Int},CC ds=some ns->ds=ns.map D.int
 |[],ns,h=>by cases h;rfl
 | .int b::r,bs,h=>by
  rw[CC] at h
  cases q:CC r with
  |none=>rw[q] at h;cases h
  |some wt=>rw[q] at h;cases h;rw[DU q];rfl
 | .AA::r,bs,h=>by cases h
 | .bl _::r,bs,h=>by cases h
 | .str _::r,bs,h=>by cases h
 | .tup _::r,bs,h=>by cases h
 | .lst _::r,bs,h=>by cases h
 | .DK _::r,bs,h=>by cases h
 | .Bj _ _ _::r,bs,h=>by cases h
 | .ins _ _ _::r,bs,h=>by cases h
theorem Ee {K:za}{H:Hp}:∀ {vs:List V}{bs:List Int},Ah K H vs (bs.map D.int)->vs=bs.map V.int
 |_,[],.nil=>rfl
 |_,b::r,.cons h t=>by cases h;rw[Ee t];rfl
end
end L2
namespace L2
open PySem PySem.Spec PyProof.Rows
noncomputable def cst:Option (Int×Int)->D
 |none=>.AA
 |some p=>.tup [.int p.1,.int p.2]
noncomputable def Aj:Option (Int×Int)->Option (Int×Int)->Option (Int×Int)
 |some p,some q=>some (p.1 + q.1,p.2 + q.2)
 |_,_=>none
noncomputable def iA (p q:Int×Int):Int×Int:=if p.1 < q.1\/(p.1=q.1/\p.2<=q.2) then p else q
noncomputable def Dy:Option (Int×Int)->Option (Int×Int)->Option (Int×Int)
 |none,b=>b
 |some p,none=>some p
 |some p,some q=>some (iA p q)
noncomputable def FC (cs:List (Option (Int×Int))):Option (Int×Int):=cs.foldl Dy none
theorem GA (cs:List (Option (Int×Int))):B8 (fun d ρ=>.ok (ρ.set 0 (some (.val d)))) (fun ρ=>(rv 0 ρ).bind fun x=>.ok (!C5 x)) (rv 0) (cs.map cst) [none]=.ok ((cs.filterMap id).map fun p=>cst (some p)):=by
 induction cs with
 |nil=>rfl
 |cons c r ih =>
  rw[zg,B8]
  cases c with
  |none =>
   show B8 _ _ _ (r.map cst) [none]=_
   rw[ih];rfl
  |some p =>
   show (match B8 _ _ _ (r.map cst) [none] with | .ok ys=>M.ok (cst (some p)::ys)|_=>.bad)=_
   rw[ih];rfl
theorem VM (ps:List (Int×Int)):Gx (ps.map fun p=>cst (some p))=some (ps.map fun p=>(cst (some p),[p.1,p.2])):=by
 induction ps with
 |nil=>rfl
 |cons p r ih=>rw[zg,Gx,ih];rfl
theorem XJ (cs:List (Option (Int×Int))):AX ((cs.filterMap id).map fun p=>(cst (some p),[p.1,p.2]))=(FC cs).map fun p=>(cst (some p),[p.1,p.2]):=by
 have key:∀(cs:List (Option (Int×Int))) (z:Option (Int×Int)),((cs.filterMap id).map fun p=>(cst (some p),[p.1,p.2])).foldl BK (z.map fun p=>(cst (some p),[p.1,p.2]))=(cs.foldl Dy z).map fun p=>(cst (some p),[p.1,p.2]):=by
  intro cs
  induction cs with
  |nil=>intro z;rfl
  |cons c r ih =>
   intro z
   cases c with
   |none =>
    rw[show List.filterMap id (none::r)=List.filterMap id r from rfl,zU,ih z]
    cases z<;>rfl
   |some q =>
    rw[show List.filterMap id (some q::r)=q::List.filterMap id r from rfl,zg,zU,zU,<-ih (Dy z (some q))]
    congr 1
    cases z with
    |none=>rfl
    |some p =>
     simp only[za9,BK,HT.Fu,HT.EV,Dy,iA]
     by_cases h1:q.1=p.1
     ·by_cases h2:q.2=p.2
      ·rw[if_pos (show p.1 < q.1\/(p.1=q.1/\p.2<=q.2) by omega)]
       simp[h1,h2]
      ·by_cases h3:q.2 < p.2
       ·rw[if_neg (show ¬ (p.1 < q.1\/(p.1=q.1/\p.2<=q.2)) by omega)]
        simp[h1,h2,h3]
       ·rw[if_pos (show p.1 < q.1\/(p.1=q.1/\p.2<=q.2) by omega)]
        simp[h1,h2,h3]
     ·by_cases h3:q.1 < p.1
      ·rw[if_neg (show ¬ (p.1 < q.1\/(p.1=q.1/\p.2<=q.2)) by omega)]
       simp[h1,h3]
      ·rw[if_pos (show p.1 < q.1\/(p.1=q.1/\p.2<=q.2) by omega)]
       simp[h1,h3]
 exact key cs none
theorem UA (cs:List (Option (Int×Int))):Ur (.lst ((cs.filterMap id).map fun p=>cst (some p))) .AA=.ok (cst (FC cs)):=by
 simp only[Ur,VM,XJ]
 cases FC cs<;>rfl
theorem R9 (cs:List (Option (Int×Int))):Jc (B8 (fun d ρ=>.ok (ρ.set 0 (some (.val d)))) (fun ρ=>(rv 0 ρ).bind fun x=>.ok (!C5 x)) (rv 0) (cs.map cst) [none])=.ok (.lst ((cs.filterMap id).map fun p=>cst (some p))):=by
 rw[GA];rfl
noncomputable abbrev Co:=Option (Int×Int)
noncomputable def BN:Co->Co->Prop
 |_,none=>True
 |none,some _=>False
 |some p,some q=>p.1 < q.1\/(p.1=q.1/\p.2<=q.2)
theorem C7:∀ a:Co,BN a a
 |none=>trivial
 |some p=>.inr ⟨rfl,Int.le_refl _⟩
theorem Ap:∀ {a b c:Co},BN a b->BN b c->BN a c
 |_,_,none,_,_=>trivial
 |none,none,some _,_,h=>h.elim
 |some _,none,some _,_,h=>h.elim
 |none,some _,some _,h,_=>h.elim
 |some p,some q,some r,h1,h2=>by simp only[BN] at *;omega
theorem MC:∀ {a b:Co},BN a b->BN b a->a=b
 |none,none,_,_=>rfl
 |none,some _,h,_=>h.elim
 |some _,none,_,h=>h.elim
 |some p,some q,h1,h2=>by
  obtain⟨p1,p2⟩:=p
  obtain⟨q1,q2⟩:=q
  simp only[BN] at h1 h2
  have e1:p1=q1:=by omega
  have e2:p2=q2:=by omega
  rw[e1,e2]
theorem Bm:∀ a b:Co,(Dy a b=a/\BN a b)\/(Dy a b=b/\BN b a/\a≠b)
 |none,none=>.inl ⟨rfl,trivial⟩
 |none,some q=>.inr ⟨rfl,trivial,fun h=>by cases h⟩
 |some p,none=>.inl ⟨rfl,trivial⟩
 |some p,some q=>by
  unfold Dy iA
  by_cases h:p.1 < q.1\/(p.1=q.1/\p.2<=q.2)
  ·dsimp only;rw[if_pos h];exact .inl ⟨rfl,h⟩
  ·dsimp only;rw[if_neg h]
   refine .inr ⟨rfl,?_,fun e=>?_⟩
   ·simp only[BN];omega
   ·cases e;exact h (.inr ⟨rfl,Int.le_refl _⟩)
theorem EF (a b:Co):BN (Dy a b) a:=by
 rcases Bm a b with ⟨e,h⟩|⟨e,h,_⟩
 ·rw[e];exact C7 a
 ·rw[e];exact h
theorem EG (a b:Co):BN (Dy a b) b:=by
 rcases Bm a b with ⟨e,h⟩|⟨e,h,_⟩
 ·rw[e];exact h
 ·rw[e];exact C7 b
theorem Ra (cs:List Co):∀ z:Co,BN (cs.foldl Dy z) z/\(∀ x∈cs,BN (cs.foldl Dy z) x)/\(cs.foldl Dy z=z\/cs.foldl Dy z∈cs):=by
 induction cs with
 |nil=>intro z;exact⟨C7 z,(fun x h=>by cases h),.inl rfl⟩
 |cons c r ih =>
  intro z
  obtain⟨h1,h2,h3⟩:=ih (Dy z c)
  rw[zU]
  refine⟨Ap h1 (EF z c),fun x hx=>?_,?_⟩
  ·rcases zu.mp hx with rfl|hx
   ·exact Ap h1 (EG z x)
   ·exact h2 x hx
  ·rcases h3 with h3|h3
   ·rw[h3]
    rcases Bm z c with ⟨e,_⟩|⟨e,_⟩
    ·exact .inl e
    ·rw[e];exact .inr ze
   ·exact .inr (zf _ h3)
theorem Lx {cs:List Co}{x:Co}(h:x∈cs):BN (FC cs) x:=(Ra cs none).2.1 x h
theorem Jg (cs:List Co):FC cs=none\/FC cs∈cs:=(Ra cs none).2.2
theorem dO {cs:List Co}{v:Co}(h1:∀ x∈cs,BN v x) (h2:v≠none->∃ x∈cs,BN x v):FC cs=v:=by
 refine MC ?_ ?_
 ·cases v with
  |none=>cases FC cs<;>exact trivial
  |some p =>
   obtain⟨x,hx,hl⟩:=h2 (by intro z;cases z)
   exact Ap (Lx hx) hl
 ·rcases Jg cs with h|h
  ·rw[h];cases v<;>exact trivial
  ·exact h1 _ h
theorem Cc:∀ a b:Co,Aj a b=Aj b a
 |none,none=>rfl
 |none,some _=>rfl
 |some _,none=>rfl
 |some p,some q=>by simp only[Aj];rw[Int.add_comm,Int.add_comm p.2]
theorem Cd:∀ {a b:Co}(c:Co),BN a b->BN (Aj a c) (Aj b c)
 |_,none,c,_=>by cases c<;>exact trivial
 |none,some _,c,h=>h.elim
 |some p,some q,none,h=>trivial
 |some p,some q,some r,h=>by simp only[Aj,BN] at *;omega
noncomputable def NN:Co->Prop
 |none=>True
 |some p=>0<=p.1/\0<=p.2
theorem MD:∀ {a b:Co},NN a->NN b->NN (Aj a b)
 |none,none,_,_=>trivial
 |none,some _,_,_=>trivial
 |some _,none,_,_=>trivial
 |some p,some q,h1,h2=>by simp only[Aj,NN] at *;omega
theorem XM {a b:Co}(h1:NN a) (h2:NN b):NN (Dy a b):=by
 rcases Bm a b with ⟨e,_⟩|⟨e,_⟩
 ·rw[e];exact h1
 ·rw[e];exact h2
noncomputable def ltN (a b:Co):Prop:=NN a/\BN a b/\a≠b
theorem VN (a b c:Co) (h1:ltN a b) (h2:ltN b c):ltN a c :=
 ⟨h1.1,Ap h1.2.1 h2.2.1,fun e=>by subst e;exact h1.2.2 (MC h1.2.1 h2.2.1)⟩
noncomputable def rank:Co->Nat×Nat×Nat
 |none=>(1,0,0)
 |some p=>(0,p.1.toNat,p.2.toNat)
theorem kY:∀ a:Co,NN a->Acc ltN a:=by
 have wf:WellFounded (InvImage (Prod.Lex (· < ·) (Prod.Lex (· < ·) (· < ·))) rank):=InvImage.wf rank (Prod.lex Nat.lt_wfRel (Prod.lex Nat.lt_wfRel Nat.lt_wfRel)).wf
 intro a
 induction a using wf.induction with
 |h a ih =>
  intro ha
  refine .intro _ fun b ⟨hb,hl,ae⟩=>ih b ?_ hb
  cases b with
  |none=>cases a with
   |none=>exact (ae rfl).elim
   |some p=>exact hl.elim
  |some q=>cases a with
   |none=>exact Prod.Lex.left _ _ (by decide)
   |some p =>
    obtain⟨p1,p2⟩:=p
    obtain⟨q1,q2⟩:=q
    simp only[BN,NN] at hl ha hb
    show Prod.Lex _ _ (0,q1.toNat,q2.toNat) (0,p1.toNat,p2.toNat)
    refine Prod.Lex.right _ ?_
    by_cases h:q1 < p1
    ·exact Prod.Lex.left _ _ (by omega)
    ·have e:q1=p1:=by omega
     subst e
     have h2:q2≠p2:=fun e=>ae (by rw[e])
     exact Prod.Lex.right _ (by omega)
theorem dP (a:Co):Acc ltN a:=.intro _ fun b h=>kY b h.1
theorem VO (cs:List Co):Acc (NA ltN) cs:=MB ltN dP cs.length cs rfl
structure Road where
 a:Int
 b:Int
 l:Option Int
 w:Int
noncomputable def GB:Option Int->D
 |none=>.AA
 |some i=>.int i
noncomputable def BI (r:Road):D:=.tup [.int r.a,.int r.b,GB r.l,.int r.w]
noncomputable def As (m:Int) (rs:List Road):D:=.tup [.int m,.lst (rs.map BI)]
noncomputable def C8 (r:Road):Co:=match r.l with | none=>none | some l=>some (l,1)
structure Hq (m:Nat) (r:Road):Prop where
 a0:0<=r.a
 a1:r.a < m
 b0:0<=r.b
 b1:r.b < m
 l0:∀ l,r.l=some l->0<=l
noncomputable def Jh (r:Road):Road:=⟨r.b,r.a,r.l,r.w⟩
theorem UB {m:Nat}{r:Road}(h:Hq m r):NN (C8 r):=by
 unfold C8
 split
 ·trivial
 ·rename_i l e
  exact⟨h.l0 l e,by show (0:Int)<=1;decide⟩
noncomputable def atC (cs:List Co) (i:Int):Co:=cs.getD i.toNat none
theorem Dc {cs:List Co}{i:Int}(h0:0<=i) (h1:i < cs.length):cs[i.toNat]? =some (atC cs i):=by
 unfold atC
 rw[zC,zq (show i.toNat < cs.length by omega)]
 rfl
theorem set_same {α:Type}:∀ {l:List α}{i:Nat}{x:α},l[i]? =some x->l.set i x=l
 |[],_,_,h=>by cases h
 |y::r,0,x,h=>by cases h;rfl
 |y::r,i + 1,x,h=>by rw[zm,set_same (by simpa using h)]
noncomputable def D4 (r:Road) (cs:List Co):List Co:=cs.set r.b.toNat (Dy (atC cs r.b) (Aj (atC cs r.a) (C8 r)))
theorem Hr {cs:List Co}{i j:Int}{v:Co}(hi:0<=i) (hj:0<=j) (h1:i < cs.length):atC (cs.set i.toNat v) j=if j=i then v else atC cs j:=by
 unfold atC
 rw[zC,zC]
 by_cases h:j=i
 ·subst h
  rw[if_pos rfl,zP (by omega)]
  rfl
 ·rw[if_neg h,yM (by omega)]
structure Good (m s:Nat) (rs:List Road) (cs:List Co):Prop where
 len:cs.length=m
 st:atC cs s=some (0,0)
 nn:∀ c∈cs,NN c
 sup:∀ p:Int,0<=p->p < m->p≠s->atC cs p≠none->∃ r∈rs,r.b=p/\BN (Aj (atC cs r.a) (C8 r)) (atC cs p)
theorem Good.iB {m s:Nat}{rs:List Road}{cs:List Co}(g:Good m s rs cs){i:Int}(h0:0<=i) (h1:i < m):NN (atC cs i) :=
 g.nn _ (zj (Dc h0 (by rw[g.len];exact h1)))
theorem VP {m s:Nat}{rs:List Road}{cs:List Co}{r:Road}(g:Good m s rs cs) (hr:r∈rs) (Av:∀ r∈rs,Hq m r) :
 Good m s rs (D4 r cs)/\(∀ i:Int,0<=i->BN (atC (D4 r cs) i) (atC cs i))/\(Dy (atC cs r.b) (Aj (atC cs r.a) (C8 r))=atC cs r.b->D4 r cs=cs) /\
 (Dy (atC cs r.b) (Aj (atC cs r.a) (C8 r))≠atC cs r.b->NA ltN (D4 r cs) cs):=by
 have ok:=Av r hr
 have cm:r.b < cs.length:=by rw[g.len];exact ok.b1
 have hx:NN (Aj (atC cs r.a) (C8 r)):=MD (g.iB ok.a0 ok.a1) (UB ok)
 have hv:NN (Dy (atC cs r.b) (Aj (atC cs r.a) (C8 r))):=XM (g.iB ok.b0 ok.b1) hx
 have bp:∀ i:Int,0<=i->atC (D4 r cs) i=if i=r.b then Dy (atC cs r.b) (Aj (atC cs r.a) (C8 r)) else atC cs i:=fun i hi=>Hr ok.b0 hi cm
 have le:∀ i:Int,0<=i->BN (atC (D4 r cs) i) (atC cs i):=fun i hi=>by
  rw[bp i hi]
  by_cases h:i=r.b
  ·rw[if_pos h,h];exact EF _ _
  ·rw[if_neg h];exact C7 _
 refine⟨⟨by unfold D4;rw[yK];exact g.len,?_,fun c hc=>?_,fun p h0 h1 hp hn=>?_⟩,le,fun h=>?_,fun h=>?_⟩
 ·rw[bp s (by omega)]
  by_cases h:(s:Int)=r.b
  ·rw[if_pos h,<-h,g.st]
   cases q:Aj (atC cs r.a) (C8 r) with
   |none=>rfl
   |some x =>
    rw[q] at hx
    unfold Dy iA
    dsimp only
    rw[if_pos (by simp only[NN] at hx;omega)]
  ·rw[if_neg h];exact g.st
 ·unfold D4 at hc
  rcases zb7 hc with h|h
  ·exact g.nn c h
  ·rw[h];exact hv
 ·rw[bp p h0] at hn ⊢
  by_cases h:p=r.b
  ·rw[if_pos h] at hn ⊢
   rcases Bm (atC cs r.b) (Aj (atC cs r.a) (C8 r)) with ⟨e,_⟩|⟨e,_⟩
   ·rw[e] at hn ⊢
    subst h
    obtain⟨r',h2,h3,h4⟩:=g.sup r.b h0 h1 hp hn
    exact⟨r',h2,h3,Ap (Cd _ (le r'.a (Av r' h2).a0)) h4⟩
   ·rw[e]
    exact⟨r,hr,h.symm,Cd _ (le r.a ok.a0)⟩
  ·rw[if_neg h] at hn ⊢
   obtain⟨r',h2,h3,h4⟩:=g.sup p h0 h1 hp hn
   exact⟨r',h2,h3,Ap (Cd _ (le r'.a (Av r' h2).a0)) h4⟩
 ·unfold D4
  rw[h]
  exact set_same (Dc ok.b0 cm)
 ·unfold D4
  exact Ux ltN (Dc ok.b0 cm) ⟨hv,EF _ _,h⟩
noncomputable def Right (m s:Nat) (rs:List Road) (cs:List Co):Prop :=
 cs.length=m/\atC cs s=some (0,0)/\(∀ c∈cs,NN c)/\∀ p:Int,0<=p->p < m->p≠s->atC cs p=FC ((rs.filter fun r=>decide (r.b=p)).map fun r=>Aj (C8 r) (atC cs r.a))
theorem right_of {m s:Nat}{rs:List Road}{cs:List Co}(g:Good m s rs cs) (h:∀ r∈rs,Dy (atC cs r.b) (Aj (atC cs r.a) (C8 r))=atC cs r.b):Right m s rs cs:=by
 refine⟨g.len,g.st,g.nn,fun p h0 h1 hp=>?_⟩
 symm
 refine dO (fun x hx=>?_) fun hn=>?_
 ·obtain⟨r,hr,rfl⟩:=zE.mp hx
  obtain⟨h2,h3⟩:=yX.mp hr
  have e:r.b=p:=by simpa using h3
  have:=EG (atC cs r.b) (Aj (atC cs r.a) (C8 r))
  rw[h r h2,e] at this
  rw[Cc]
  exact this
 ·obtain⟨r,h2,h3,h4⟩:=g.sup p h0 h1 hp hn
  refine⟨_,zE.mpr ⟨r,yX.mpr ⟨h2,by simpa using h3⟩,rfl⟩,?_⟩
  rw[Cc]
  exact h4
theorem ME {m s:Nat}(rs:List Road) (h:s < m):Good m s rs ((zv m none).set s (some (0,0))):=by
 have hl:(zv m (none:Co)).length=m:=zau
 have bp:∀ i:Int,0<=i->atC ((zv m none).set s (some (0,0))) i=if i=s then some (0,0) else none:=fun i hi=>by
  have:=Hr (cs:=zv m none) (i:=(s:Int)) (j:=i) (v:=some (0,0)) (by omega) hi (by rw[hl];omega)
  rw[yN] at this
  rw[this]
  by_cases h:i=s
  ·rw[if_pos h,if_pos h]
  ·rw[if_neg h,if_neg h]
   unfold atC
   rw[zC,za7]
   split<;>rfl
 refine⟨by rw[yK,hl],?_,fun c hc=>?_,fun p h0 h1 hp hn=>?_⟩
 ·rw[bp s (by omega),if_pos rfl]
 ·rcases zb7 hc with h|h
  ·rw[List.eq_of_mem_replicate h];trivial
  ·rw[h];exact⟨Int.le_refl _,Int.le_refl _⟩
 ·rw[bp p h0,if_neg hp] at hn
  exact (hn rfl).elim
theorem kZ {α:Type}{l:List α}{n:Int}(h:0<=n/\n < l.length):QN l n=l[n.toNat]? :=by
 unfold QN O8
 obtain⟨h1,h2⟩:=h
 simp[h1,h2]
theorem Ly {n:Nat}{j:Int}(h:0<=j/\j < n):O8 n j=some j.toNat:=by
 unfold O8
 obtain⟨h1,h2⟩:=h
 simp[h1,h2]
theorem Ji {α:Type}{f:α->D}{l:List α}{n:Int}{x:α}(h0:0<=n) (h:l[n.toNat]? =some x):ZW (.lst (l.map f)) (.int n)=.ok (f x):=by
 have h1:=(zy.mp h).1
 unfold ZW
 dsimp only
 rw[kZ (by rw[zc];omega),zD,h]
 rfl
theorem CK {cs:List Co}{i:Int}(h0:0<=i) (h1:i < cs.length):ZW (.lst (cs.map cst)) (.int i)=.ok (cst (atC cs i)):=Ji h0 (Dc h0 h1)
theorem Pr {n:Nat}(c:Co):Pl (n + 1) (cst c):=by
 cases c with
 |none=>exact kR
 |some p=>exact kS (Uu (Iz _) (Uu (Iz _) kU))
theorem UC (a b:Co):Aw (cst a) (cst b)=decide (a=b):=by
 rcases a with _|⟨a1,a2⟩<;>rcases b with _|⟨b1,b2⟩
 ·simp[cst,Aw]
 ·simp[cst,Aw]
 ·simp[cst,Aw]
 ·rw[zak]
  simp[cst,Aw,Cv]
theorem dQ (a b:Co):Ze 16 (cst a) (cst b)=.ok (.bl (!decide (a=b))):=by rw[Tb (Pr (n:=15) a) (Pr (n:=15) b),UC]
theorem Pt (a b:Co):ZV 16 (cst a) (cst b)=.ok (.bl (decide (a=b))):=by rw[Ta (Pr (n:=15) a) (Pr (n:=15) b),UC]
theorem UE (c:Co):Je (cst c)=true:=by
 cases c<;>simp[cst,Je,Jf]
theorem Pu (c:Co):dp (.ok (cst c))=.ok (cst c):=by
 unfold dp
 rw[M.A8,if_pos (UE c)]
theorem AO {a b:Int}(h:0 < b):Eb (.int a) (.int b)=.ok (.int (a % b)):=by
 unfold Eb Bu
 dsimp only
 rw[if_pos h]
theorem DV {a b:Int}(h:X0 a b):J5 (.int a) (.int b)=.ok (.int (a / b)):=by
 unfold J5 Bu
 dsimp only
 rw[if_pos h]
end L2
namespace L2
open PySem PySem.Spec PyProof.Rows
inductive Wk (rs:List Road):Int->Int->Int×Int->Prop
 |nil (u:Int):Wk rs u u (0,0)
 |cons {r:Road} {l:Int} {w:Int} {c:Int×Int}:r∈rs->r.l=some l->Wk rs r.b w c->Wk rs r.a w (l + c.1,1 + c.2)
theorem Wk.trans {rs:List Road}{u v w:Int}{c d:Int×Int}(h:Wk rs u v c) (k:Wk rs v w d):Wk rs u w (c.1 + d.1,c.2 + d.2):=by
 induction h with
 |nil u=>simpa using k
 |cons hr hl _ ih =>
  have:=Wk.cons hr hl (ih k)
  simpa [zb3] using this
theorem Wk.one {rs:List Road}{r:Road}{l:Int}(hr:r∈rs) (hl:r.l=some l):Wk rs r.a r.b (l,1):=by
 have:=Wk.cons hr hl (Wk.nil (rs:=rs) r.b)
 simpa using this
noncomputable def BP (rs:List Road) (u w:Int) (x:Co):Prop:=(∀ c,Wk rs u w c->BN x (some c))/\∀ p,x=some p->Wk rs u w p
theorem BP.Cq {rs:List Road}{u w:Int}{x y:Co}(h:BP rs u w x) (k:BP rs u w y):x=y:=by
 refine MC ?_ ?_
 ·cases y with
  |none=>cases x<;>exact trivial
  |some q=>exact h.1 q (k.2 q rfl)
 ·cases x with
  |none=>cases y<;>exact trivial
  |some q=>exact k.1 q (h.2 q rfl)
theorem Jj {r:Road}{c:Int×Int}(h:C8 r=some c):∃ l,r.l=some l/\c=(l,1):=by
 unfold C8 at h
 split at h
 ·cases h
 ·rename_i l e;cases h;exact⟨l,e,rfl⟩
theorem Fg {a b:Co}{c:Int×Int}(h:Aj a b=some c):∃ p q,a=some p/\b=some q/\c=(p.1 + q.1,p.2 + q.2):=by
 cases a with
 |none=>cases h
 |some p=>cases b with
  |none=>cases h
  |some q=>cases h;exact⟨p,q,rfl,rfl,rfl⟩
theorem Right.min_le {m s:Nat}{rs:List Road}{cs:List Co}(h:Right m s rs cs){r:Road}(hr:r∈rs) (Av:Hq m r):BN (atC cs r.b) (Aj (C8 r) (atC cs r.a)):=by
 obtain⟨h1,h2,h3,h4⟩:=h
 by_cases hs:r.b=s
 ·rw[hs,h2]
  have hn:NN (Aj (C8 r) (atC cs r.a)):=MD (UB Av) (h3 _ (zj (Dc Av.a0 (by rw[h1];exact Av.a1))))
  cases q:Aj (C8 r) (atC cs r.a) with
  |none=>exact trivial
  |some p=>rw[q] at hn;simp only[NN] at hn;simp only[BN];omega
 ·rw[h4 r.b Av.b0 Av.b1 hs]
  exact Lx (zE.mpr ⟨r,yX.mpr ⟨hr,by simp⟩,rfl⟩)
theorem VQ {m s:Nat}{rs:List Road}{cs:List Co}(h:Right m s rs cs) (Av:∀ r∈rs,Hq m r){u w:Int}{c:Int×Int}(k:Wk rs u w c):BN (atC cs w) (Aj (atC cs u) (some c)):=by
 induction k with
 |nil u =>
  cases atC cs u with
  |none=>exact trivial
  |some p=>simp only[Aj,BN];omega
 | @cons r l w c hr hl _ ih =>
  refine Ap ih ?_
  have h1:=h.min_le hr (Av r hr)
  have e:C8 r=some (l,1):=by unfold C8;rw[hl]
  rw[e] at h1
  cases q:atC cs r.a with
  |none=>exact trivial
  |some p =>
   rw[q] at h1
   cases q2:atC cs r.b with
   |none=>rw[q2] at h1;exact h1.elim
   |some p2=>rw[q2] at h1;simp only[Aj,BN] at *;omega
theorem VR {m s:Nat}{rs:List Road}{cs:List Co}(h:Right m s rs cs) (Av:∀ r∈rs,Hq m r):∀(n:Nat) (w:Int) (p:Int×Int),0<=w->w < m->atC cs w=some p->p.2.toNat=n->Wk rs s w p:=by
 obtain⟨h1,h2,h3,h4⟩:=h
 intro n
 induction n with
 |zero =>
  intro w p h0 hw hp hn
  by_cases hs:w=s
  ·rw[hs,h2] at hp;cases hp;rw[hs];exact .nil _
  ·exfalso
   have e:=h4 w h0 hw hs
   rw[hp] at e
   rcases Jg ((rs.filter fun r=>decide (r.b=w)).map fun r=>Aj (C8 r) (atC cs r.a)) with z|z
   ·rw[z] at e;cases e
   ·rw[<-e] at z
    obtain⟨r,hr,e2⟩:=zE.mp z
    have cN:=(yX.mp hr).1
    obtain⟨p1,p2,e3,e4,e5⟩:=Fg e2
    obtain⟨l,hl,rfl⟩:=Jj e3
    have ok:=Av r cN
    have nn:=h3 _ (zj (Dc ok.a0 (by rw[h1];exact ok.a1)))
    rw[e4] at nn
    simp only[NN] at nn
    rw[e5] at hn
    simp only at hn
    omega
 |succ n ih =>
  intro w p h0 hw hp hn
  by_cases hs:w=s
  ·rw[hs,h2] at hp;cases hp;rw[hs];exact .nil _
  ·have e:=h4 w h0 hw hs
   rw[hp] at e
   rcases Jg ((rs.filter fun r=>decide (r.b=w)).map fun r=>Aj (C8 r) (atC cs r.a)) with z|z
   ·rw[z] at e;cases e
   ·rw[<-e] at z
    obtain⟨r,hr,e2⟩:=zE.mp z
    obtain⟨cN,n9⟩:=yX.mp hr
    have n9:r.b=w:=by simpa using n9
    obtain⟨p1,p2,e3,e4,e5⟩:=Fg e2
    obtain⟨l,hl,rfl⟩:=Jj e3
    have ok:=Av r cN
    have nn:=h3 _ (zj (Dc ok.a0 (by rw[h1];exact ok.a1)))
    rw[e4] at nn
    simp only[NN] at nn
    subst e5
    simp only at hn
    have w1:=ih r.a p2 ok.a0 ok.a1 e4 (by omega)
    have w2:=w1.trans (Wk.one cN hl)
    rw[n9] at w2
    have e6:((l + p2.1,1 + p2.2):Int×Int)=(p2.1 + l,p2.2 + 1):=by rw[Int.add_comm l,Int.add_comm 1]
    show Wk rs s w (l + p2.1,1 + p2.2)
    rw[e6]
    exact w2
theorem Right.XN {m s:Nat}{rs:List Road}{cs:List Co}(h:Right m s rs cs) (Av:∀ r∈rs,Hq m r){w:Int}(h0:0<=w) (hw:w < m):BP rs s w (atC cs w):=by
 refine⟨fun c k=>?_,fun p hp=>VR h Av _ w p h0 hw hp rfl⟩
 have:=VQ h Av k
 rw[h.2.1] at this
 have e:Aj (some (0,0)) (some c)=some c:=by simp[Aj]
 rw[e] at this
 exact this
theorem Te {a b c d:Co}(h:BN a b) (k:BN c d):BN (Aj a c) (Aj b d):=by
 refine Ap (Cd c h) ?_
 rw[Cc b c,Cc b d]
 exact Cd b k
theorem Ef:∀ a b c:Co,Aj (Aj a b) c=Aj a (Aj b c)
 |none,b,c=>by cases b<;>cases c<;>rfl
 |some p,none,c=>by cases c<;>rfl
 |some p,some q,none=>rfl
 |some p,some q,some r=>by simp only[Aj];rw[zb3,zb3]
theorem Ou:∀ a:Co,Aj a (some (0,0))=a
 |none=>rfl
 |some p=>by simp[Aj]
theorem VS (a:Co):Aj (some (0,0)) a=a:=by rw[Cc];exact Ou a
theorem Rb (a:Co):Dy a a=a:=by rcases Bm a a with ⟨e,_⟩ | ⟨e,_⟩<;>exact e
theorem XO {a b:Co}(h:NN b):BN a (Aj a b):=by
 cases a with
 |none=>exact trivial
 |some p=>cases b with
  |none=>exact trivial
  |some q=>simp only[NN] at h;simp only[Aj,BN];omega
structure FW (m k:Nat) (rs:List Road) (A:Int->Int->Co):Prop where
 dg:∀ x:Int,0<=x->x < m->A x x=some (0,0)
 nn:∀ x y:Int,0<=x->x < m->0<=y->y < m->NN (A x y)
 sd:∀ x y:Int,0<=x->x < m->0<=y->y < m->∀ p,A x y=some p->Wk rs x y p
 ed:∀ r∈rs,BN (A r.a r.b) (C8 r)
 tr:∀ v x y:Int,0<=v->v < k->0<=x->x < m->0<=y->y < m->BN (A x y) (Aj (A x v) (A v y))
noncomputable def over (k:Int) (A:Int->Int->Co):Int->Int->Co:=fun x y=>Dy (A x y) (Aj (A x k) (A k y))
theorem Rc {m k:Nat}{rs:List Road}{A:Int->Int->Co}(F:FW m k rs A) (hk:k < m) (x:Int):over k A x k=A x k:=by
 unfold over
 rw[F.dg k (by omega) (by omega),Ou,Rb]
theorem Rf {m k:Nat}{rs:List Road}{A:Int->Int->Co}(F:FW m k rs A) (hk:k < m) (y:Int):over k A k y=A k y:=by
 unfold over
 rw[F.dg k (by omega) (by omega),VS,Rb]
theorem XQ {m k:Nat}{rs:List Road}{A:Int->Int->Co}(F:FW m k rs A) (hk:k < m):FW m (k + 1) rs (over k A):=by
 have k0:(0:Int)<=k:=by omega
 have k1:(k:Int) < m:=by omega
 refine⟨fun x h0 h1=>?_,fun x y h0 h1 h2 h3=>XM (F.nn x y h0 h1 h2 h3) (MD (F.nn x k h0 h1 k0 k1) (F.nn k y k0 k1 h2 h3)),fun x y h0 h1 h2 h3 p hp=>?_,fun r hr=>Ap (EF _ _) (F.ed r hr),fun v x y v0 v1 h0 h1 h2 h3=>?_⟩
 ·unfold over
  rw[F.dg x h0 h1]
  have hn:NN (Aj (A x k) (A k x)):=MD (F.nn x k h0 h1 k0 k1) (F.nn k x k0 k1 h0 h1)
  cases q:Aj (A x k) (A k x) with
  |none=>rfl
  |some z =>
   rw[q] at hn
   simp only[NN] at hn
   unfold Dy iA
   dsimp only
   rw[if_pos (by omega)]
 ·unfold over at hp
  rcases Bm (A x y) (Aj (A x k) (A k y)) with ⟨e,_⟩|⟨e,_⟩
  ·rw[e] at hp;exact F.sd x y h0 h1 h2 h3 p hp
  ·rw[e] at hp
   obtain⟨p1,p2,e1,e2,rfl⟩:=Fg hp
   exact (F.sd x k h0 h1 k0 k1 p1 e1).trans (F.sd k y k0 k1 h2 h3 p2 e2)
 ·by_cases hv:v=k
  ·subst hv
   rw[Rc F hk,Rf F hk]
   exact EG _ _
  ·have vk:v < k:=by omega
   have vm:v < m:=by omega
   have wy:=F.tr v x y v0 vk h0 h1 h2 h3
   have wz:=F.tr v k y v0 vk k0 k1 h2 h3
   have w4:=F.tr v x k v0 vk h0 h1 k0 k1
   have g1:BN (over k A x y) (A x y):=EF _ _
   have g2:BN (over k A x y) (Aj (A x k) (A k y)):=EG _ _
   have w5:=F.nn k v k0 k1 v0 vm
   have w6:=F.nn v k v0 vm k0 k1
   have e1:over k A x v=Dy (A x v) (Aj (A x k) (A k v)):=rfl
   have e2:over k A v y=Dy (A v y) (Aj (A v k) (A k y)):=rfl
   rw[e1,e2]
   rcases Bm (A x v) (Aj (A x k) (A k v)) with ⟨e,_⟩|⟨e,_⟩<;>rcases Bm (A v y) (Aj (A v k) (A k y)) with ⟨e',_⟩|⟨e',_⟩<;>rw[e,e']
   ·exact Ap g1 wy
   ·refine Ap g2 ?_
    rw[<-Ef]
    exact Cd _ w4
   ·refine Ap g2 ?_
    rw[Ef,Cc (A x k),Cc (A x k)]
    exact Cd _ wz
   ·refine Ap g2 ?_
    have e3:Aj (Aj (A x k) (A k v)) (Aj (A v k) (A k y))=Aj (Aj (A x k) (A k y)) (Aj (A k v) (A v k)):=by
     rw[Ef,Ef,<-Ef (A k v),Cc (Aj (A k v) (A v k))]
    rw[e3]
    exact XO (MD w5 w6)
theorem lA {m:Nat}{rs:List Road}{A:Int->Int->Co}(F:FW m m rs A) (Av:∀ r∈rs,Hq m r){x y:Int}(h0:0<=x) (h1:x < m) (h2:0<=y) (h3:y < m):BP rs x y (A x y):=by
 refine⟨fun c k=>?_,F.sd x y h0 h1 h2 h3⟩
 induction k with
 |nil u=>rw[F.dg u h0 h1];exact C7 _
 | @cons r l w c hr hl k' ih =>
  have ok:=Av r hr
  have i1:=ih ok.b0 ok.b1 h2 h3
  have t:=F.tr r.b r.a w ok.b0 (by have:=ok.b1;omega) h0 h1 h2 h3
  have e:=F.ed r hr
  have e':C8 r=some (l,1):=by unfold C8;rw[hl]
  rw[e'] at e
  refine Ap t (Ap (Te e i1) ?_)
  exact C7 _
structure MF (m:Nat) (rs:List Road) (u:Int) (n:Nat) (R:List Co):Prop where
 len:R.length=m
 st:atC R u=some (0,0)
 nn:∀ c∈R,NN c
 sd:∀ y:Int,0<=y->y < m->∀ p,atC R y=some p->Wk rs u y p
 ed:∀ r∈rs.take n,r.a=u->BN (atC R r.b) (C8 r)
theorem VT {m u:Nat}(rs:List Road) (h:u < m):MF m rs u 0 ((zv m none).set u (some (0,0))):=by
 have g:=ME (m:=m) (s:=u) rs h
 refine⟨g.len,g.st,g.nn,fun y h0 h1 p hp=>?_,fun r hr=>by rw[List.take_zero] at hr;cases hr⟩
 by_cases hy:y=u
 ·rw[hy,g.st] at hp;cases hp;rw[hy];exact .nil _
 ·have:=Hr (cs:=zv m none) (i:=(u:Int)) (j:=y) (v:=some (0,0)) (by omega) h0 (by rw[zau];omega)
  rw[yN,if_neg hy] at this
  rw[this] at hp
  unfold atC at hp
  rw[zC,za7] at hp
  split at hp<;>cases hp
theorem XR {m:Nat}{rs:List Road}{u:Int}{n:Nat}{R:List Co}{r:Road}(g:MF m rs u n R) (hr:rs[n]? =some r) (hu:r.a≠u):MF m rs u (n + 1) R :=
 ⟨g.len,g.st,g.nn,g.sd,fun r' bq ak=>by
  rw[yU,hr] at bq
  rcases zx.mp bq with h|h
  ·exact g.ed r' h ak
  ·have:r'=r:=by simpa using h
   rw[this] at ak;exact (hu ak).elim⟩
theorem XS {m:Nat}{rs:List Road}{u:Int}{n:Nat}{R:List Co}{r:Road}(g:MF m rs u n R) (hr:rs[n]? =some r) (hu:r.a=u) (Av:∀ r∈rs,Hq m r):MF m rs u (n + 1) (R.set r.b.toNat (Dy (atC R r.b) (C8 r))):=by
 have hm:=zj hr
 have ok:=Av r hm
 have cm:r.b < R.length:=by rw[g.len];exact ok.b1
 have bp:∀ i:Int,0<=i->atC (R.set r.b.toNat (Dy (atC R r.b) (C8 r))) i=if i=r.b then Dy (atC R r.b) (C8 r) else atC R i:=fun i hi=>Hr ok.b0 hi cm
 have nb:NN (atC R r.b):=g.nn _ (zj (Dc ok.b0 cm))
 refine⟨by rw[yK];exact g.len,?_,fun c hc=>?_,fun y h0 h1 p hp=>?_,fun r' bq ak=>?_⟩
 ·rw[bp u (by rw[<-hu];exact ok.a0)]
  by_cases h:u=r.b
  ·rw[if_pos h,<-h,g.st]
   have hx:=UB ok
   cases q:C8 r with
   |none=>rfl
   |some z =>
    rw[q] at hx
    simp only[NN] at hx
    unfold Dy iA
    dsimp only
    rw[if_pos (by omega)]
  ·rw[if_neg h];exact g.st
 ·rcases zb7 hc with h|h
  ·exact g.nn c h
  ·rw[h];exact XM nb (UB ok)
 ·rw[bp y h0] at hp
  by_cases h:y=r.b
  ·rw[if_pos h] at hp
   rcases Bm (atC R r.b) (C8 r) with ⟨e,_⟩|⟨e,_⟩
   ·rw[e] at hp;rw[h];exact g.sd r.b ok.b0 ok.b1 p hp
   ·rw[e] at hp
    obtain⟨l,hl,rfl⟩:=Jj hp
    rw[h,<-hu];exact Wk.one hm hl
  ·rw[if_neg h] at hp;exact g.sd y h0 h1 p hp
 ·have og:r'∈rs:=yL bq
  rw[bp r'.b (Av r' og).b0]
  rw[yU,hr] at bq
  rcases zx.mp bq with h|h
  ·by_cases hb:r'.b=r.b
   ·rw[if_pos hb]
    have:=g.ed r' h ak
    rw[hb] at this
    exact Ap (EF _ _) this
   ·rw[if_neg hb];exact g.ed r' h ak
  ·have e:r'=r:=by simpa using h
   rw[e,if_pos rfl]
   exact EG _ _
noncomputable def at2 (ac:List (List Co)) (x y:Int):Co:=atC (ac.getD x.toNat []) y
noncomputable def AH (ac:List (List Co)):List (List D):=ac.map fun R=>R.map cst
structure Pw (m:Nat) (ac:List (List Co)):Prop where
 len:ac.length=m
 row:∀ R∈ac,R.length=m
theorem Pw.get {m:Nat}{ac:List (List Co)}(h:Pw m ac){x:Int}(h0:0<=x) (h1:x < m):ac[x.toNat]? =some (ac.getD x.toNat [])/\(ac.getD x.toNat []).length=m:=by
 have hl:x.toNat < ac.length:=by rw[h.len];omega
 have e:ac[x.toNat]? =some (ac.getD x.toNat []):=by rw[zC,zq hl];rfl
 exact⟨e,h.row _ (zj e)⟩
noncomputable def put2 (ac:List (List Co)) (x y:Int) (v:Co):List (List Co):=ac.set x.toNat ((ac.getD x.toNat []).set y.toNat v)
theorem Pw.put {m:Nat}{ac:List (List Co)}(h:Pw m ac){x y:Int}(h0:0<=x) (h1:x < m) (h2:0<=y) (h3:y < m) (v:Co):Pw m (put2 ac x y v)/\∀ x' y':Int,0<=x'->0<=y'->at2 (put2 ac x y v) x' y'=if x'=x/\y'=y then v else at2 ac x' y':=by
 obtain⟨e,hl⟩:=h.get h0 h1
 refine⟨⟨by unfold put2;rw[yK];exact h.len,fun R hR=>?_⟩,fun x' y' hx hy=>?_⟩
 ·unfold put2 at hR
  rcases zb7 hR with z|z
  ·exact h.row R z
  ·rw[z,yK];exact hl
 ·unfold at2 put2
  by_cases uO:x'=x
  ·subst uO
   have e2:(ac.set x'.toNat ((ac.getD x'.toNat []).set y.toNat v)).getD x'.toNat []=(ac.getD x'.toNat []).set y.toNat v:=by
    rw[zC (l:=ac.set _ _),zP (by rw[h.len];omega)];rfl
   rw[e2,Hr h2 hy (by rw[hl];exact h3)]
   by_cases lp:y'=y
   ·rw[if_pos lp,if_pos ⟨rfl,lp⟩]
   ·rw[if_neg lp,if_neg (fun z=>lp z.2)]
  ·have e2:(ac.set x.toNat ((ac.getD x.toNat []).set y.toNat v)).getD x'.toNat []=ac.getD x'.toNat []:=by
    rw[zC,yM (by omega),zC]
   rw[e2,if_neg (fun z=>uO z.1)]
theorem Rg {m:Nat}{ac:List (List Co)}(h:Pw m ac){x:Int}(h0:0<=x) (h1:x < m):rowAt (AH ac) (.int x)=.ok ((ac.getD x.toNat []).map cst):=by
 obtain⟨e,hl⟩:=h.get h0 h1
 have e1:O8 (AH ac).length x=some x.toNat:=Ly ⟨h0,by unfold AH;rw[zc,h.len];exact h1⟩
 have e2:(AH ac)[x.toNat]? =some ((ac.getD x.toNat []).map cst):=by unfold AH;rw[zD,e];rfl
 unfold rowAt
 simp only[e1,e2]
theorem dR {m:Nat}{ac:List (List Co)}(h:Pw m ac){x y:Int}(h0:0<=x) (h1:x < m) (h2:0<=y) (h3:y < m):ZW (.lst ((ac.getD x.toNat []).map cst)) (.int y)=.ok (cst (at2 ac x y)) :=
 CK h2 (by rw[(h.get h0 h1).2];exact h3)
theorem dS {m:Nat}{ac:List (List Co)}(h:Pw m ac){x y:Int}(h0:0<=x) (h1:x < m) (h2:0<=y) (h3:y < m) (i:Nat) (ρ:Ab) (v:Co):dM i ρ (AH ac) (cst v) (.int x) ((ac.getD x.toNat []).map cst) (.int y)=.ok (.next (ρ.set i (some (.ow (.rows (AH (put2 ac x y v))))))):=by
 have e1:O8 (AH ac).length x=some x.toNat:=Ly ⟨h0,by unfold AH;rw[zc,h.len];exact h1⟩
 have e2:O8 ((ac.getD x.toNat []).map cst).length y=some y.toNat:=Ly ⟨h2,by rw[zc,(h.get h0 h1).2];exact h3⟩
 unfold dM
 simp only[e1,e2]
 unfold AH put2
 rw[List.map_set,List.map_set]
end L2
namespace L2
open PySem PySem.Spec PyProof.Rows
theorem FW.congr {m k:Nat}{rs:List Road}{A B:Int->Int->Co}(F:FW m k rs A) (hk:k<=m) (Av:∀ r∈rs,Hq m r) (h:∀ x y:Int,0<=x->x < m->0<=y->y < m->B x y=A x y):FW m k rs B:=by
 refine⟨fun x h0 h1=>?_,fun x y h0 h1 h2 h3=>?_,fun x y h0 h1 h2 h3 p hp=>?_,fun r hr=>?_,fun v x y v0 v1 h0 h1 h2 h3=>?_⟩
 ·rw[h x x h0 h1 h0 h1];exact F.dg x h0 h1
 ·rw[h x y h0 h1 h2 h3];exact F.nn x y h0 h1 h2 h3
 ·rw[h x y h0 h1 h2 h3] at hp;exact F.sd x y h0 h1 h2 h3 p hp
 ·have ok:=Av r hr
  rw[h r.a r.b ok.a0 ok.a1 ok.b0 ok.b1];exact F.ed r hr
 ·rw[h x y h0 h1 h2 h3,h x v h0 h1 v0 (by omega),h v y v0 (by omega) h2 h3]
  exact F.tr v x y v0 v1 h0 h1 h2 h3
theorem XT {m:Nat}{rs:List Road}{ac:List (List Co)}(hM:Pw m ac) (Av:∀ r∈rs,Hq m r) (h:∀ u:Nat,u < m->MF m rs u rs.length (ac.getD u [])):FW m 0 rs (at2 ac):=by
 have key:∀ x:Int,0<=x->x < m->MF m rs x rs.length (ac.getD x.toNat []):=fun x h0 h1=>by
  have:=h x.toNat (by omega)
  rw[Int.toNat_of_nonneg h0] at this
  exact this
 refine⟨fun x h0 h1=>(key x h0 h1).st,fun x y h0 h1 h2 h3=>(key x h0 h1).nn _ (zj (Dc h2 (by rw[(key x h0 h1).len];exact h3))),fun x y h0 h1 h2 h3 p hp=>(key x h0 h1).sd y h2 h3 p hp,fun r hr=>?_,fun v x y v0 v1=>by omega⟩
 have ok:=Av r hr
 exact (key r.a ok.a0 ok.a1).ed r (by rw[yS];exact hr) rfl
noncomputable def hit (rs:List Road) (cs:List Co) (p:Nat) (k:Nat):Bool:=match rs[k]? with
 |some r=>decide (r.b=(p:Int)) && decide (Aj (atC cs r.a) (C8 r)≠none) && decide (Aj (atC cs r.a) (C8 r)=atC cs (p:Int))
 |none=>false
end L2
namespace L2
open PySem PySem.Spec PyProof.Rows
theorem Wk.nn {m:Nat}{rs:List Road}(Av:∀ r∈rs,Hq m r){u w:Int}{c:Int×Int}(h:Wk rs u w c):0<=c.1/\0<=c.2:=by
 induction h with
 |nil=>exact⟨Int.le_refl _,Int.le_refl _⟩
 |cons hr hl _ ih =>
  have:=(Av _ hr).l0 _ hl
  simp only
  omega
end L2
namespace L2
open PySem PySem.Spec PyProof.Rows
theorem lB {P P2:Addr->Prop}{H H':Hp}(t:Tr P P H P2 H'){a:Addr}(h:P2 a) (hn:¬ P a):H a=none:=by
 cases q:H a with
 |none=>rfl
 |some o =>
  have:=t.1 a o (by rw[Ax hn];exact q)
  exact ((Am this).1 h).elim
end L2
namespace L2
open PySem PySem.Spec PyProof.Rows
section
variable {X:Cx}{WX:Str->Hp->Prop}{c:Bool}{P0:EA}{P:Addr->Prop}{H:Hp}{σ:St}{ρ:Ab}{a b e:Expr}{f g:Ab->M D}{pos:Pos}
noncomputable def dU:V->List V->Hp->VK->Prop:=fun x vs H Q=>∃(l:Addr) (xs:List V) (k:Nat) (y:V),x=.ref l/\vs=[.int (k:Int),y]/\H l=some (.lst xs)/\k<=xs.length/\xs.length < sizeLine/\Q .AA (upd H l (.lst (xs.take k++y::xs.drop k)))
theorem Rh:∀ {xs:List V}{us:List Value}{y:V}{w:Value},Vals xs us->∀ k:Nat,RelV y w->Vals (xs.take k++y::xs.drop k) (us.take k++w::us.drop k)
 |_,_,_,_,r,0,h=>.cons h r
 |_,_,_,_,.nil,k + 1,h=>.cons h .nil
 |_,_,_,_,.cons a t,k + 1,h=>.cons a (Rh t k h)
theorem XU {prog:Program}{wd:World}{A:Around}{E:Value->Shared->Prop}{s:Shared}{Q:Value->Shared->Prop}{l:Addr}{items:Array Value}{n:Nat}(x:Int) (u:Tok) (y:Value) (hc:¬(!Builtin.List.listFitsIndex x)=true) (hs:items.size<=sizeLine)
 (e:s.heap.get? l=some { cls:=.type "list",data:=.seq items n })
 (h:Q .none { s with heap:=s.heap.update l (zam fun xs=>(xs.extract 0 (if x < 0 then (x + (xs.size:Int)).toNat else min x.toNat xs.size)).push y++xs.extract (if x < 0 then (x + (xs.size:Int)).toNat else min x.toNat xs.size)),toks:=s.toks }):wpAny (model prog wd) A (call (.builtin "list.insert") [.ref l,.int x u,y]) Q E s:=by
 have hm:=PySem.AutoSeq1.list_insert_list_int_val_1 l items n x u y hc hs
 have ha:=PySem.F.args_list_insert_3 (.ref l) (.int x u) y
 exact call_meets PySem.F.slot_list_insert ⟨_,e,rfl⟩ PySem.F.entry_list_insert ha hm ⟨e,h⟩
theorem VU:rB X "list.insert" dU:=by
 intro pins s σ H x vs v us Q I rx rv h
 obtain⟨l,xs,k,y,rfl,rfl,hH,hk,hz,q⟩:=h
 cases rx
 obtain⟨u,w,rfl,ru,b5⟩:=rv.two
 obtain⟨tk,rfl⟩:=ru
 obtain⟨z,aa,n,r,hl,e⟩:=I.Vt hH
 have hlen:=r.length
 have yw:=Ki
 have ez:¬ (!Builtin.List.listFitsIndex (k:Int))=true:=by
  unfold Builtin.List.listFitsIndex
  simp
  omega
 have hsz:aa.toArray.size<=sizeLine:=by rw[zk,<-hl];exact yQ hz
 refine XU (k:Int) tk w ez hsz e ?_
 refine⟨.AA,_,I.ZD (its':=aa.take k++w::aa.drop k) hH e ?_ ?_ ?_,rfl,q⟩
 ·have e1:¬ ((k:Int) < 0):=by omega
  have e2:min (k:Int).toNat aa.toArray.size=k:=by rw[yN,zk];omega
  simp only[e1,if_false,e2]
  apply Array.toList_inj.mp
  simp
  rw[List.take_of_length_le (by rw[zbb];exact zA _)]
 ·exact Rh r k b5
 ·rw[zL,zo,yT,zbb]
  omega
noncomputable def VW (i:Nat) (ρ:Ab) (mk md:M D):M Out:=match ρ[i]? with
 |some (some (.own ds))=>mk.bind fun k=>md.bind fun d=>match k with
  | .int j=>if 0<=j/\j.toNat<=ds.length/\ds.length < 1000 then .ok (.next (ρ.set i (some (.own (ds.take j.toNat++d::ds.drop j.toNat))))) else .bad
  |_=>.bad
 |_=>.bad
theorem Ov {K:za}{H:Hp}:∀ {vs:List V}{ds:List D}(n:Nat),Ah K H vs ds->Ah K H (vs.take n) (ds.take n)
 |_,_,0,_=>by rw[List.take_zero,List.take_zero];exact .nil
 |_,_,_ + 1,.nil=>.nil
 |_,_,n + 1,.cons h t=>by rw[List.take_succ_cons,List.take_succ_cons];exact .cons h (Ov n t)
theorem Ox {K:za}{H:Hp}:∀ {vs:List V}{ds:List D}(n:Nat),Ah K H vs ds->Ah K H (vs.drop n) (ds.drop n)
 |_,_,0,h=>h
 |_,_,_ + 1,.nil=>.nil
 |_,_,n + 1,.cons h t=>by rw[List.drop_succ_cons,List.drop_succ_cons];exact Ox n t
theorem Ri {K:za}{H:Hp}:∀ {vs ws:List V}{ds es:List D},Ah K H vs ds->Ah K H ws es->Ah K H (vs++ws) (ds++es)
 |_,_,_,_,.nil,k=>k
 |_,_,_,_,.cons h t,k=>.cons h (Ri t k)
theorem VX (i:Nat){x:Str}{p1 apos ad:Pos}(hv:PE X (.Name x p1) (Lc i)) (hk:DE X WX true a f) (hd:DE X WX true b g) (hs:starEach [a,b] X.env=(false,eval a X.env)::starEach [b] X.env:=by rfl) (bi:starEach [b] X.env=[(false,eval b X.env)]:=by rfl)
 (bL:swapsWith (.Call (.Attribute (.Name x p1) "insert" apos) [a,b] [] ad) none pos.line X.env=pure false:=by rfl)
 (a8:attributeBase (.Name x p1) "insert" X.env (eval (.Name x p1) X.env)=eval (.Name x p1) X.env:=by rfl)
 (aV:((backTo ad (starEach [a,b] X.env)).all (fun x => !x.1) && (backToKw ad (keywordEach [] X.env)).all (fun x=>x.1.isSome) && decide (([a,b]:List Expr).length + ([]:List Keyword).length + (if ([]:List Keyword).isEmpty then 0 else 1) < 30))=true:=by rfl)
 (a9:(apos.endLine == ad.line)=true:=by rfl) (ar:(backTo ad (starEach [b] X.env)).any (·.1)=false:=by rfl) :
 DS X WX (.Expr (.Call (.Attribute (.Name x p1) "insert" apos) [a,b] [] ad) pos) (fun ρ=>VW i ρ (f ρ) (g ρ)):=by
 obtain⟨ta,a1,a2⟩:=hk
 obtain⟨tb,b1,b2⟩:=hd
 refine⟨_,Hi (QO zal PySem.F.slot_list_insert PySem.F.type_list_insert VU hv (Bi a1 (Bi b1 Cj bi) hs) a8 aV a9 hs ar) bL,fun P0 P σ H Z ρ E h=>?_⟩
 dsimp only at h
 unfold VW at h
 split at h
 ·rename_i ds e1
  obtain⟨p,xs,h1,h2,h3,h4,h5⟩:=E.own i ds e1
  refine⟨_,h1,.inl ⟨rfl,xs,.of h2⟩,a2 P0 P σ H _ ρ E ?_⟩
  cases q:f ρ with
  |bad=>rw[q] at h;exact h
  |ex y=>rw[q] at h;exact fun H' s=>h H' P (E.tr s)
  |ok k =>
   rw[q] at h
   simp only[M.A8] at h
   intro w H1 s1 hw
   have E1:=E.same s1
   refine b2 P0 P σ H1 _ ρ E1 ?_
   cases q2:g ρ with
   |bad=>rw[q2] at h;exact h
   |ex y=>rw[q2] at h;exact fun H' s=>h H' P ((E.tr s1).trans (E1.tr s))
   |ok d =>
    rw[q2] at h
    simp only[M.A8] at h
    intro v H2 s2 n6
    have E2:=E1.same s2
    have cE:=s1.trans s2
    split at h
    ·rename_i j
     cases hw
     by_cases hj:0<=j/\j.toNat<=ds.length/\ds.length < 1000
     ·rw[if_pos hj] at h
      have w9:((j.toNat:Nat):Int)=j:=Int.toNat_of_nonneg hj.1
      have uP:=h5.mono cE.del
      refine⟨p,xs,j.toNat,v,rfl,by rw[w9],cE _ _ h2,by rw[h5.length];exact hj.2.1,AG (by rw[h5.length];exact yQ hj.2.2),?_⟩
      obtain⟨E3,t3⟩:=E2.mut e1 h1 h3 h4 (Ri (Ov j.toNat uP) (.cons n6 (Ox j.toNat uP)))
      exact h _ _ _ ((E.tr cE).trans t3) E3
     ·rw[if_neg hj] at h;exact h.elim
    ·exact h.elim
 ·exact h.elim
noncomputable def pU (ds:List D):M D:=match ds with
 |[.lst xs]=>(match Gz xs with|some bs=>.ok (.bl (bs.any id))|none=>.bad)
 |_=>.bad
end
end L2
namespace L2
open PySem PySem.Spec PyProof.Rows
noncomputable def kids:OT->List OT
 | .sh _=>[]
 | .lst ts=>ts
 | .tup ts=>ts
 | .Bj _ _ ts=>ts
 | .ins _ _ ts=>ts
noncomputable def Lz:OT->List OT->OT
 | .sh d,_=>.sh d
 | .lst _,ts=>.lst ts
 | .tup _,ts=>.tup ts
 | .Bj b ks _,ts=>.Bj b ks ts
 | .ins x ns _,ts=>.ins x ns ts
noncomputable def Kt:OT->List Nat->Option OT
 |t,[]=>some t
 |t,j::π=>match (kids t)[j]? with|some s=>Kt s π|none=>none
noncomputable def EZ:OT->List Nat->OT->OT
 |_,[],u=>u
 |t,j::π,u=>match (kids t)[j]? with|some s=>Lz t ((kids t).set j (EZ s π u))|none=>t
@[simp] theorem XW (t:OT):Kt t []=some t:=by unfold Kt;rfl
@[simp] theorem Fh (t u:OT):EZ t [] u=u:=by unfold EZ;rfl
theorem VY {t s:OT}{j:Nat}{π:List Nat}(h:(kids t)[j]? =some s):Kt t (j::π)=Kt s π:=by rw[Kt,h]
theorem VZ {t s u:OT}{j:Nat}{π:List Nat}(h:(kids t)[j]? =some s):EZ t (j::π) u=Lz t ((kids t).set j (EZ s π u)):=by rw[EZ,h]
section
variable {K:za}{H H':Hp}{P P':Addr->Prop}
noncomputable def CF (K:za) (H:Hp) (P:Addr->Prop) (v:V) (t:OT) (q:List Addr) (xs:List V):Prop:=match t with
 | .sh _=>False
 | .lst ts=>∃ p,v=.ref p/\q=[p]/\H p=some (.lst xs)
 | .tup ts=>∃ p,v=.ref p/\q=[]/\del H P p=some (.tup xs)
 | .Bj false ks ts=>∃ p kvs,v=.ref p/\q=[p]/\H p=some (.dK kvs)/\ks=(kvs.map fun kv=>Dk kv.1)/\xs=kvs.map yZ
 | .Bj true ks ts=>∃ p kvs,v=.ref p/\q=[p]/\H p=some (.dT kvs)/\ks=(kvs.map fun kv=>.tup (kv.1.map Dk))/\xs=kvs.map yZ
 | .ins x ns ts=>∃ p C dx fs,v=.ref p/\q=[p]/\zd K mainGlobals x=some (some (.ref C))/\H p=some (.ins C dx fs)/\ns=fs.map zO/\xs=fs.map yZ
theorem CF.own {v:V}{t:OT}{q:List Addr}{xs:List V}{fp:List Addr}(h:CF K H P v t q xs) (r:AJ K H P xs (kids t) fp):C4 K H P v t (q++fp):=by
 cases t with
 |sh d=>exact h.elim
 |lst ts=>obtain⟨p,rfl,rfl,h⟩:=h;exact .lst h r
 |tup ts=>obtain⟨p,rfl,rfl,h⟩:=h;exact .tup h r
 |Bj b ks ts =>
  cases b with
  |false=>obtain⟨p,kvs,rfl,rfl,h,rfl,rfl⟩:=h;exact .dK h r
  |true=>obtain⟨p,kvs,rfl,rfl,h,rfl,rfl⟩:=h;exact .dT h r
 |ins x ns ts=>obtain⟨p,C,dx,fs,rfl,rfl,n,h,rfl,rfl⟩:=h;exact .ins n h r
theorem C4.node {v:V}{t:OT}{fp:List Addr}(h:C4 K H P v t fp) (hk:kids t≠[]\/∀ d,t≠.sh d):∃ q xs fq,fp=q++fq/\CF K H P v t q xs/\AJ K H P xs (kids t) fq:=by
 cases h with
 |sh h=>rcases hk with hk|hk;exact (hk rfl).elim;exact (hk _ rfl).elim
 |lst h r=>exact⟨[_],_,_,rfl,⟨_,rfl,rfl,h⟩,r⟩
 |tup h r=>exact⟨[],_,_,rfl,⟨_,rfl,rfl,h⟩,r⟩
 |dK h r=>exact⟨[_],_,_,rfl,⟨_,_,rfl,rfl,h,rfl,rfl⟩,r⟩
 |dT h r=>exact⟨[_],_,_,rfl,⟨_,_,rfl,rfl,h,rfl,rfl⟩,r⟩
 |ins n h r=>exact⟨[_],_,_,rfl,⟨_,_,_,_,rfl,rfl,n,h,rfl,rfl⟩,r⟩
theorem CF.move (sm:Ad (del H P) (del H' P')){v:V}{t:OT}{q:List Addr}{xs:List V}(k:∀ a∈q,H' a=H a) (h:CF K H P v t q xs):CF K H' P' v t q xs:=by
 cases t with
 |sh d=>exact h.elim
 |lst ts=>obtain⟨p,rfl,rfl,h⟩:=h;exact⟨p,rfl,rfl,(k p ze).trans h⟩
 |tup ts=>obtain⟨p,rfl,rfl,h⟩:=h;exact⟨p,rfl,rfl,sm _ _ h⟩
 |Bj b ks ts =>
  cases b with
  |false=>obtain⟨p,kvs,rfl,rfl,h,rfl,rfl⟩:=h;exact⟨p,kvs,rfl,rfl,(k p ze).trans h,rfl,rfl⟩
  |true=>obtain⟨p,kvs,rfl,rfl,h,rfl,rfl⟩:=h;exact⟨p,kvs,rfl,rfl,(k p ze).trans h,rfl,rfl⟩
 |ins x ns ts=>obtain⟨p,C,dx,fs,rfl,rfl,n,h,rfl,rfl⟩:=h;exact⟨p,C,dx,fs,rfl,rfl,n,(k p ze).trans h,rfl,rfl⟩
theorem CF.kids {v:V}{t:OT}{q:List Addr}{xs:List V}(h:CF K H P v t q xs) (ts:List OT):CF K H P v (Lz t ts) q xs:=by
 cases t with
 |sh d=>exact h.elim
 |lst us=>exact h
 |tup us=>exact h
 |Bj b ks us=>cases b<;>exact h
 |ins x ns us=>exact h
theorem Px {v:V}{t:OT}{q:List Addr}{xs:List V}(h:CF K H P v t q xs) (ts:List OT):L2.kids (Lz t ts)=ts:=by
 cases t with
 |sh d=>exact h.elim
 |lst us=>rfl
 |tup us=>rfl
 |Bj b ks us=>rfl
 |ins x ns us=>rfl
theorem CF.inj {v:V}{t:OT}{q q':List Addr}{xs dw:List V}(h:CF K H P v t q xs) (h':CF K H P v t q' dw):q=q'/\xs=dw:=by
 cases t with
 |sh d=>exact h.elim
 |lst ts=>obtain⟨p,rfl,rfl,h⟩:=h;obtain⟨p',e,rfl,h'⟩:=h';cases e;rw[h] at h';cases h';exact⟨rfl,rfl⟩
 |tup ts=>obtain⟨p,rfl,rfl,h⟩:=h;obtain⟨p',e,rfl,h'⟩:=h';cases e;rw[h] at h';cases h';exact⟨rfl,rfl⟩
 |Bj b ks ts =>
  cases b with
  |false=>obtain⟨p,kvs,rfl,rfl,h,_,rfl⟩:=h;obtain⟨p',oh,e,rfl,h',_,rfl⟩:=h';cases e;rw[h] at h';cases h';exact⟨rfl,rfl⟩
  |true=>obtain⟨p,kvs,rfl,rfl,h,_,rfl⟩:=h;obtain⟨p',oh,e,rfl,h',_,rfl⟩:=h';cases e;rw[h] at h';cases h';exact⟨rfl,rfl⟩
 |ins x ns ts=>obtain⟨p,C,dx,fs,rfl,rfl,n,h,_,rfl⟩:=h;obtain⟨p',C',yx,cp,e,rfl,n',h',_,rfl⟩:=h';cases e;rw[h] at h';cases h';exact⟨rfl,rfl⟩
inductive Jk (K:za) (H:Hp) (P:Addr->Prop):V->OT->List Nat->V->OT->Prop
 |nil {v t}:Jk K H P v t [] v t
 |cons {v t q xs j x s π v1 t1}:CF K H P v t q xs->xs[j]? =some x->(kids t)[j]? =some s->Jk K H P x s π v1 t1->Jk K H P v t (j::π) v1 t1
theorem Jk.sub {v v1:V}{t t1:OT}{π:List Nat}(h:Jk K H P v t π v1 t1):Kt t π=some t1:=by
 induction h with
 |nil=>exact XW _
 |cons _ _ hs _ ih=>rw[VY hs];exact ih
theorem AJ.get:∀ {xs:List V}{ts:List OT}{fp:List Addr}{j:Nat}{x:V}{s:OT},AJ K H P xs ts fp->xs[j]? =some x->ts[j]? =some s->∃ pre fs post,fp=pre++fs++post/\C4 K H P x s fs
 |_,_,_,_,_,_,.nil,e,_=>by simp at e
 |_,_,_,0,_,_,.cons h r,e,e'=>by
  simp at e e';subst e;subst e'
  exact⟨[],_,_,rfl,h⟩
 |_,_,_,j + 1,_,_,.cons (fp:=f1) h r,e,e'=>by
  obtain⟨pre,fs,post,z,q⟩:=AJ.get r (by simpa using e) (by simpa using e')
  exact⟨f1++pre,fs,post,by rw[z];simp,q⟩
theorem AJ.len:∀ {xs:List V}{ts:List OT}{fp:List Addr},AJ K H P xs ts fp->xs.length=ts.length
 |_,_,_,.nil=>rfl
 |_,_,_,.cons _ r=>by rw[zo,zo,r.len]
theorem C4.part {v v1:V}{t t1:OT}{π:List Nat}{fp:List Addr}(h:C4 K H P v t fp) (s:Jk K H P v t π v1 t1):∃ a7,C4 K H P v1 t1 a7/\(∀ a∈a7,a∈fp)/\(fp.Nodup->a7.Nodup):=by
 induction s generalizing fp with
 |nil=>exact⟨fp,h,fun _ h=>h,fun h=>h⟩
 |cons n hx hs _ ih =>
  obtain⟨q,xs,fq,rfl,n',r⟩:=h.node (.inl fun z=>by rw[z] at hs;cases hs)
  obtain⟨rfl,rfl⟩:=n.inj n'
  obtain⟨pre,fs,post,rfl,o⟩:=r.get hx hs
  obtain⟨a7,o1,k,kn⟩:=ih o
  exact⟨a7,o1,fun a ha=>zp _ (zN _ (zp _ (k a ha))),fun nd=>kn (zJ.mp (zJ.mp (zJ.mp nd).2.1).1).2.1⟩
theorem AJ.put (sm:Ad (del H P) (del H' P')):∀ {xs:List V}{ts:List OT}{fp:List Addr}{j:Nat}{x:V}{s s':OT}{fs cp:List Addr},AJ K H P xs ts fp->xs[j]? =some x->ts[j]? =some s->C4 K H P x s fs->C4 K H' P' x s' cp->(∀ a∈fp,a∉fs->H' a=H a)->fp.Nodup->cp.Nodup->(∀ a∈cp,a∈fp->a∈fs)->
 ∃ ai,AJ K H' P' xs (ts.set j s') ai/\ai.Nodup/\∀ a∈ai,a∈cp\/(a∈fp/\a∉fs)
 |_,_,_,_,_,_,_,_,_,.nil,e,_,_,_,_,_,_,_=>by simp at e
 |_,_,_,0,x,s,s',fs,cp,.cons (fp:=f1) (fq:=f2) h r,e,e',o,o',k,nd,d0,dj=>by
  simp at e e';subst e;subst e'
  have:=h.Cq o;subst this
  have b7:=zJ.mp nd
  have k2:∀ a∈f2,a∉f1:=fun a ha hb=>b7.2.2 a hb a ha rfl
  refine⟨cp++f2,.cons o' (r.move sm fun a ha=>k a (zp _ ha) (k2 a ha)),zJ.mpr ⟨d0,b7.2.1,fun a ha b hb z=>?_⟩,fun a ha=>?_⟩
  ·subst z
   exact k2 a hb (dj a ha (zp _ hb))
  ·rcases zx.mp ha with ha|ha
   ·exact .inl ha
   ·exact .inr ⟨zp _ ha,k2 a ha⟩
 |_,_,_,j + 1,x,s,s',fs,cp,.cons (vs:=u5) (ts:=wE) (fp:=f1) (fq:=f2) h r,e,e',o,o',k,nd,d0,dj=>by
  have b7:=zJ.mp nd
  have e2:u5[j]? =some x:=by simpa using e
  have e3:wE[j]? =some s:=by simpa using e'
  obtain⟨pre,fx,post,hf,ox⟩:=r.get e2 e3
  have:=ox.Cq o;subst this
  have k1:∀ a∈f1,a∉fx:=fun a ha hb=>b7.2.2 a ha a (by rw[hf];exact zN _ (zp _ hb)) rfl
  obtain⟨ai,q1,q2,q3⟩:=AJ.put sm r e2 e3 o o' (fun a ha hn=>k a (zp _ ha) hn) b7.2.1 d0 (fun a ha hb=>dj a ha (zp _ hb))
  refine⟨f1++ai,.cons (h.move sm fun a ha=>k a (zN _ ha) (k1 a ha)) q1,zJ.mpr ⟨b7.1,q2,fun a ha b hb z=>?_⟩,fun a ha=>?_⟩
  ·subst z
   rcases q3 a hb with z|z
   ·exact k1 a ha (dj a z (zN _ ha))
   ·exact b7.2.2 a ha a z.1 rfl
  ·rcases zx.mp ha with ha|ha
   ·exact .inr ⟨zN _ ha,k1 a ha⟩
   ·rcases q3 a ha with z|z
    ·exact .inl z
    ·exact .inr ⟨zp _ z.1,z.2⟩
theorem C4.put (sm:Ad (del H P) (del H' P')){v v1:V}{t t1 u:OT}{π:List Nat}{fp a7 fu:List Addr}(h:C4 K H P v t fp) (s:Jk K H P v t π v1 t1) (o:C4 K H P v1 t1 a7) (o':C4 K H' P' v1 u fu) (k:∀ a∈fp,a∉a7->H' a=H a) (nd:fp.Nodup) (d0:fu.Nodup) (dj:∀ a∈fu,a∈fp->a∈a7) :
 ∃ ai,C4 K H' P' v (EZ t π u) ai/\ai.Nodup/\∀ a∈ai,a∈fu\/(a∈fp/\a∉a7):=by
 induction s generalizing fp with
 |nil =>
  rw[Fh]
  exact⟨fu,o',d0,fun a ha=>.inl ha⟩
 | @cons v t q xs j x s π v1 t1 n hx hs s1 ih =>
  obtain⟨q',dw,fq,rfl,n',r⟩:=h.node (.inl fun z=>by rw[z] at hs;cases hs)
  obtain⟨rfl,rfl⟩:=n.inj n'
  have jm:=zJ.mp nd
  obtain⟨pre,fs,post,hf,ox⟩:=r.get hx hs
  have sub:∀ a∈fs,a∈fq:=fun a ha=>by rw[hf];exact zN _ (zp _ ha)
  have wF:fs.Nodup:=by
   have:=jm.2.1
   rw[hf] at this
   exact (zJ.mp (zJ.mp this).1).2.1
  obtain⟨fz,oz,kz,_⟩:=ox.part s1
  have:=oz.Cq o;subst this
  obtain⟨cp,q1,q2,q3⟩:=ih ox o o' (fun a ha hn=>k a (zp _ (sub a ha)) hn) wF (fun a ha hb=>dj a ha (zp _ (sub a hb)))
  have qf:∀ a∈q,a∉fs:=fun a ha hb=>jm.2.2 a ha a (sub a hb) rfl
  have kq:∀ a∈q,H' a=H a:=fun a ha=>k a (zN _ ha) fun z=>qf a ha (kz a z)
  obtain⟨ai,p1,p2,p3⟩:=r.put sm hx hs ox q1 (fun a ha hn=>k a (zp _ ha) fun z=>hn (kz a z)) jm.2.1 q2 (fun a ha hb=>by
   rcases q3 a ha with z|z
   ·exact kz a (dj a z (zp _ hb))
   ·exact z.1)
  rw[VZ hs]
  have n2:=(n.move sm kq).kids ((kids t).set j (EZ s π u))
  have o2:=n2.own (fp:=ai) (by rw[Px n];exact p1)
  refine⟨q++ai,o2,zJ.mpr ⟨jm.1,p2,fun a ha b hb z=>?_⟩,fun a ha=>?_⟩
  ·subst z
   rcases p3 a hb with z|z
   ·rcases q3 a z with y|y
    ·exact qf a ha (kz a (dj a y (zN _ ha)))
    ·exact qf a ha y.1
   ·exact jm.2.2 a ha a z.1 rfl
  ·rcases zx.mp ha with ha|ha
   ·exact .inr ⟨zN _ ha,fun z=>qf a ha (kz a z)⟩
   ·rcases p3 a ha with z|z
    ·rcases q3 a z with y|y
     ·exact .inl y
     ·exact .inr ⟨zp _ (sub a y.1),y.2⟩
    ·exact .inr ⟨zp _ z.1,fun y=>z.2 (kz a y)⟩
end
end L2
namespace L2
open PySem PySem.Spec PyProof.Rows
noncomputable def PU (P:Addr->Prop) (fp:List Addr):Addr->Prop:=fun a=>P a\/a∈fp
theorem MG {P:Addr->Prop}{fp:List Addr}:∀ a,P a->PU P fp a:=fun a h=>.inl h
theorem Dd {P:Addr->Prop}{fp:List Addr}{H H':Hp}(s:Ad H H') (hn:∀ a∈fp,H a=none):Ad (del H P) (del H' (PU P fp)):=fun b o e=>by
 obtain⟨h1,h2⟩:=Am e
 rw[Ax fun z=>z.elim h1 fun w=>by rw[hn b w] at h2;cases h2]
 exact s b o h2
theorem Tf {P:Addr->Prop}{H:Hp}:del H (PU P [])=del H P:=by
 funext b
 by_cases h:P b
 ·rw[D2 h,D2 (.inl h)]
 ·rw[Ax h,Ax fun z=>z.elim h fun w=>by cases w]
theorem Ku {P:Addr->Prop}{fp:List Addr}{K:za}{H':Hp}{Q:Addr->Prop}{v:V}{t:OT}(hP:∀ a,P a->Dp H' a) (o:C4 K H' Q v t fp):∀ a,PU P fp a->Dp H' a:=fun a h=>h.elim (hP a) (o.Cp a)
theorem UG {P:Addr->Prop}{fp:List Addr}{K:za}{H':Hp}{Q:Addr->Prop}{v:List V}{t:List OT}(hP:∀ a,P a->Dp H' a) (o:AJ K H' Q v t fp):∀ a,PU P fp a->Dp H' a:=fun a h=>h.elim (hP a) (o.Cp a)
theorem An.more {K:za}{P0:EA}{P P':Addr->Prop}{H H':Hp}{σ:St}{ρ:Ab}(E:An K P0 P H σ ρ) (e:Ad H H') (hs:∀ a,P a->P' a) (ht:∀ a,P' a->Dp H' a) (sm:Ad (del H P) (del H' P')):An K P0 P' H' σ ρ:=by
 have keep:∀(c:Cl) (v:V) (fp:List Addr),Dl K H P c v fp->∀ a∈fp,H' a=H a:=fun c v fp o a ha=>by
  obtain⟨xs,q⟩:=o.at a ha
  rw[q];exact e _ _ q
 exact⟨fun a h=>hs a (E.sub a h),ht,fun i d h=>let ⟨v,h1,h2⟩:=E.val i d h;⟨v,h1,h2.mono sm⟩,
  fun i c h io=>let ⟨v,fp,h1,h2,h3,h4⟩:=E.ows i c h io;⟨v,fp,h1,h2.move sm (keep c v fp h2),fun a ha=>⟨hs a (h3 a ha).1,(h3 a ha).2⟩,h4⟩,
  fun i j c c' v v' fp ai hi hj si sj h h' ae=>E.Xn sm (fun v fp _ o a ha=>keep _ _ _ o a ha) (fun v fp _ o a ha=>keep _ _ _ o a ha) hi hj si sj h h' ae,E.len,E.pin⟩
noncomputable def XX (K:za) (WX:Str->Hp->Prop) (P:Addr->Prop) (H:Hp) (Q:VK):M OT->Prop
 | .ok t=>∀ v fp H',Ad H H'->(∀ a∈fp,H a=none)->fp.Nodup->C4 K H' (PU P fp) v t fp->Q v H'
 | .ex x=>∀ H',Ad H H'->WX x H'
 | .bad=>False
noncomputable def wG (K:za) (WX:Str->Hp->Prop) (P:Addr->Prop) (H:Hp) (Q:List V->Hp->Prop):M (List OT)->Prop
 | .ok t=>∀ v fp H',Ad H H'->(∀ a∈fp,H a=none)->fp.Nodup->AJ K H' (PU P fp) v t fp->Q v H'
 | .ex x=>∀ H',Ad H H'->WX x H'
 | .bad=>False
theorem Fi {H H':Hp}(s:Ad H H'){a:Addr}(h:H' a=none):H a=none:=by
 cases q:H a with
 |none=>rfl
 |some o=>rw[s a o q] at h;cases h
section
variable {K:za}{WX:Str->Hp->Prop}{P:Addr->Prop}{H H':Hp}
theorem XX.same {Q:VK}{m:M OT}(h:XX K WX P H Q m) (e:Ad H H'):XX K WX P H' Q m:=by
 cases m with
 |ok d=>exact fun v fp H2 q hn nd o=>h v fp H2 (e.trans q) (fun a ha=>Fi e (hn a ha)) nd o
 |ex x=>exact fun H2 q=>h H2 (e.trans q)
 |bad=>exact h
end
noncomputable def DN (X:Cx) (WX:Str->Hp->Prop) (e:Expr) (f:Ab->M OT):Prop :=
 ∃ t,PE X e t/\∀ P0 P σ H Q ρ,An X.K P0 P H σ ρ->XX X.K WX P H Q (f ρ)->t σ H Q
noncomputable def pV (X:Cx) (WX:Str->Hp->Prop) (es:List Expr) (f:Ab->M (List OT)):Prop :=
 ∃ t,PA X es t/\(∀ P0 P σ H Q ρ,An X.K P0 P H σ ρ->wG X.K WX P H Q (f ρ)->t σ H Q)/\∀ ρ ts,f ρ=.ok ts->ts.length=es.length
noncomputable def pW (d:D):M OT:=.ok (.sh d)
noncomputable def nA (t:OT):M D:=.ok (er t)
section
variable {X:Cx}{WX:Str->Hp->Prop}{c:Bool}{P0:EA}{P:Addr->Prop}{H:Hp}{σ:St}{ρ:Ab}{a b e:Expr}{f g:Ab->M D}{fn:Ab->M OT}{pos:Pos}{es:List Expr}
theorem B9 (h:DE X WX true e f):DN X WX e (fun ρ=>(f ρ).bind pW):=by
 obtain⟨t,h1,h2⟩:=h
 refine⟨t,h1,fun P0 P σ H Q ρ E g=>h2 P0 P σ H Q ρ E ?_⟩
 dsimp only at g
 cases q:f ρ with
 |bad=>rw[q] at g;exact g
 |ex x=>rw[q] at g;exact g
 |ok d=>rw[q] at g;exact fun v H' s hv=>g v [] H' s (fun a ha=>by cases ha) za1 (.sh (by rw[Tf];exact hv))
theorem Ai (h:DN X WX e fn):DE X WX c e (fun ρ=>(fn ρ).bind nA):=by
 suffices z:DE X WX true e (fun ρ=>(fn ρ).bind nA) by
  cases c with
  |true=>exact z
  |false=>exact Pj z
 obtain⟨t,h1,h2⟩:=h
 refine⟨t,h1,fun P0 P σ H Q ρ E g=>h2 P0 P σ H Q ρ E ?_⟩
 dsimp only at g
 cases q:fn ρ with
 |bad=>rw[q] at g;exact g
 |ex x=>rw[q] at g;exact g
 |ok d =>
  rw[q] at g
  exact fun v fp H' s hn nd o=>g v H' s (o.has MG fun a ha z=>(E.Cp a z).no (hn a ha))
theorem Dz:pV X WX [] (fun _=>.ok []):=⟨_,Cj,fun P0 P σ H Q ρ E h=>h [] [] H (Ad.refl H) (fun a ha=>by cases ha) za1 .nil,fun ρ ds h=>by cases h;rfl⟩
theorem Rj {es:List Expr}{fs:Ab->M (List OT)}(he:DN X WX e fn) (hr:pV X WX es fs) (hs:starEach (e::es) X.env=(false,eval e X.env)::starEach es X.env:=by rfl) :
 pV X WX (e::es) (fun ρ=>(fn ρ).bind fun d=>(fs ρ).bind fun ds=>.ok (d::ds)):=by
 obtain⟨te,e1,e2⟩:=he
 obtain⟨tr,r1,r2,r3⟩:=hr
 refine⟨_,Bi e1 r1 hs,fun P0 P σ H Q ρ E h=>?_,fun ρ ds h=>?_⟩
 rotate_left
 ·dsimp only at h
  cases q:fn ρ with
  |bad=>rw[q] at h;cases h
  |ex x=>rw[q] at h;cases h
  |ok x =>
   rw[q] at h
   cases q2:fs ρ with
   |bad=>rw[q2] at h;cases h
   |ex x=>rw[q2] at h;cases h
   |ok xs =>
    rw[q2] at h
    cases h
    rw[zo,zo,r3 ρ xs q2]
 dsimp only at h
 refine e2 P0 P σ H _ ρ E ?_
 cases q:fn ρ with
 |bad=>rw[q] at h;exact h
 |ex x=>rw[q] at h;exact h
 |ok x =>
  rw[q] at h
  intro v fp H1 s1 n1 gh o1
  have E1:An X.K P0 (PU P fp) H1 σ ρ:=E.more s1 MG (Ku (E.same s1).Cp o1) (Dd s1 n1)
  refine r2 P0 (PU P fp) σ H1 _ ρ E1 ?_
  cases q2:fs ρ with
  |bad=>rw[q2] at h;exact h
  |ex y=>rw[q2] at h;exact fun H' s=>h H' (s1.trans s)
  |ok ds =>
   rw[q2] at h
   intro vs fq H2 s2 n2 b7 o2
   have dj:∀ a∈fp,a∉fq:=fun a ha hb=>(o1.Cp a ha).no (n2 a hb)
   have eP:PU (PU P fp) fq=PU P (fp++fq):=by
    funext a
    simp only[PU,zx,or_assoc]
   have sm:Ad (del H1 (PU P fp)) (del H2 (PU P (fp++fq))):=by rw[<-eP];exact Dd s2 n2
   refine h _ (fp++fq) H2 (s1.trans s2) (fun a ha=>?_) (zJ.mpr ⟨gh,b7,fun a ha b hb z=>dj a ha (by rw[z];exact hb)⟩) (.cons (o1.move sm fun a ha=>?_) (by rw[<-eP];exact o2))
   ·rcases zx.mp ha with ha|ha
    ·exact n1 a ha
    ·exact Fi s1 (n2 a ha)
   ·obtain⟨o,z,_⟩:=o1.Cp a ha
    rw[z];exact s2 _ _ z
theorem lC {P:Addr->Prop}{fp:List Addr}{p:Addr}{H:Hp}{o:HO}(hn:H p=none) (hP:∀ a,PU P fp a->Dp H a):Ad (del H (PU P fp)) (del (upd H p o) (PU P (p::fp))):=fun b u e=>by
 obtain⟨h1,h2⟩:=Am e
 have hb:b≠p:=Az h2 hn
 rw[Ax fun z=>z.elim (fun z=>h1 (.inl z)) fun w=>(zu.mp w).elim hb fun w=>h1 (.inr w),Ag hb]
 exact h2
theorem GC {fs:Ab->M (List OT)}(ha:pV X WX es fs) (hz:es.length<=1000:=by decide):DN X WX (.List es pos) (fun ρ=>(fs ρ).bind fun ts=>.ok (.lst ts)):=by
 obtain⟨ta,a1,a2,a3⟩:=ha
 refine⟨_,P8 a1,fun P0 P σ H Q ρ E h=>?_⟩
 dsimp only at h
 refine a2 P0 P σ H _ ρ E ?_
 cases q:fs ρ with
 |bad=>rw[q] at h;exact h
 |ex y=>rw[q] at h;exact h
 |ok ts =>
  rw[q] at h
  simp only[M.A8] at h
  intro vs fp H1 s1 n1 gh o1
  have hP:=UG (E.same s1).Cp o1
  refine⟨yQ (AG (by rw[o1.len,a3 ρ ts q];exact hz)),fun p hp=>?_⟩
  have ae:∀ a∈fp,a≠p:=fun a ha z=>(o1.Cp a ha).no (by rw[z];exact hp)
  exact h _ (p::fp) _ (s1.trans (AN hp _)) (fun a ha=>(zu.mp ha).elim (fun z=>by rw[z];exact Fi s1 hp) (n1 a)) (yJ.mpr ⟨fun z=>ae p z rfl,gh⟩) (.lst Ar (o1.move (lC hp hP) fun a ha=>Ag (ae a ha)))
theorem dW {P:Addr->Prop}{fp:List Addr}{p:Addr}{H:Hp}{o:HO}(hn:H p=none) (hP:∀ a,PU P fp a->Dp H a):Ad (del H (PU P fp)) (del (upd H p o) (PU P fp)):=fun b u e=>by
 obtain⟨h1,h2⟩:=Am e
 have hb:b≠p:=Az h2 hn
 rw[Ax h1,Ag hb]
 exact h2
theorem lD {fs:Ab->M (List OT)}{x1}(ha:pV X WX es fs) (hz:es.length<=1000:=by decide):DN X WX (.Tuple es x1 pos) (fun ρ=>(fs ρ).bind fun ts=>.ok (.tup ts)):=by
 obtain⟨ta,a1,a2,a3⟩:=ha
 refine⟨_,X6 a1,fun P0 P σ H Q ρ E h=>?_⟩
 dsimp only at h
 refine a2 P0 P σ H _ ρ E ?_
 cases q:fs ρ with
 |bad=>rw[q] at h;exact h
 |ex y=>rw[q] at h;exact h
 |ok ts =>
  rw[q] at h
  simp only[M.A8] at h
  intro vs fp H1 s1 n1 gh o1
  have hP:=UG (E.same s1).Cp o1
  refine⟨yQ (AG (by rw[o1.len,a3 ρ ts q];exact hz)),fun p hp=>?_⟩
  have ae:∀ a∈fp,a≠p:=fun a ha z=>(o1.Cp a ha).no (by rw[z];exact hp)
  refine h _ fp _ (s1.trans (AN hp _)) n1 gh (.tup ?_ (o1.move (dW hp hP) fun a ha=>Ag (ae a ha)))
  rw[Ax fun z=>(hP p z).no hp]
  exact Ar
theorem Ah.ows {K:za}{H:Hp}{P:Addr->Prop}:∀ {xs:List V}{ds:List D},Ah K (del H P) xs ds->AJ K H P xs (ds.map .sh) []
 |_,_,.nil=>.nil
 |_,_,.cons h t=>.cons (.sh h) t.ows
theorem XX.Kv {K:za}{WX:Str->Hp->Prop}{P:Addr->Prop}{H H1:Hp}{Q:VK}{xs:List V}{ds:List D}(h:XX K WX P H Q (.ok (.lst (ds.map .sh)))) (s1:Ad H H1) (hx:Ah K (del H1 P) xs ds):∀ p,H1 p=none->Q (.ref p) (upd H1 p (.lst xs)):=fun p hp=>by
 have hn:∀ a∈[p],H1 a=none:=fun a ha=>by rw[zh.mp ha];exact hp
 exact h _ [p] _ (s1.trans (AN hp _)) (fun a ha=>Fi s1 (hn a ha)) (by simp) (.lst Ar (hx.mono (Dd (AN hp _) hn)).ows)
theorem AJ.lE {K:za}{H:Hp}{P:Addr->Prop}:∀ {xs:List V}{ds:List D}{fp:List Addr},AJ K H P xs (ds.map .sh) fp->fp=[]/\Ah K (del H P) xs ds
 |_,[],_,.nil=>⟨rfl,.nil⟩
 |_,d::ds,_,.cons (.sh h) r=>by
  obtain⟨rfl,q⟩:=AJ.lE r
  exact⟨rfl,.cons h q⟩
noncomputable def Li:Cl->Cl
 | .val d=>.val d
 | .own ds=>.val (.lst ds)
 | .ow (.rows C3)=>.val (.lst (C3.map D.lst))
 | .ow (.Lr _ ds)=>.val (.lst ds)
 | .ow (.tree _ t)=>.val (er t)
noncomputable def EC (ρ:Ab):Ab:=ρ.map fun o=>o.map Li
@[simp] theorem Jl:EC []=[]:=rfl
@[simp] theorem Hs (ρ:Ab):EC (none::ρ)=none::EC ρ:=rfl
@[simp] theorem Ht (c:Cl) (ρ:Ab):EC (some c::ρ)=some (Li c)::EC ρ:=rfl
theorem An.low {K:za}{P0:EA}{P:Addr->Prop}{H:Hp}{σ:St}{ρ:Ab}(E:An K P0 P H σ ρ):An K P0 P0 H σ (EC ρ):=by
 have key:∀(i:Nat) (c:Cl),(EC ρ)[i]? =some (some c)->∃ c',ρ[i]? =some (some c')/\c=Li c':=fun i c h=>by
  unfold EC at h
  rw[zD] at h
  cases q:ρ[i]? with
  |none=>rw[q] at h;cases h
  |some o =>
   rw[q] at h
   cases o with
   |none=>cases h
   |some c'=>cases h;exact⟨c',rfl,rfl⟩
 have oj:∀ c,Iv (Li c)=false:=fun c=>by
  cases c with
  |val d=>rfl
  |own ds=>rfl
  |ow o=>cases o<;>rfl
 have jn:∀ c,Od (Li c)=none:=fun c=>by
  cases c with
  |val d=>rfl
  |own ds=>rfl
  |ow o=>cases o<;>rfl
 have wH:∀ c v fp,¬ Dl K H P0 (Li c) v fp:=fun c v fp h=>by
  cases c with
  |val d=>exact h
  |own ds=>exact h
  |ow o=>cases o<;>exact h
 refine⟨fun _ h=>h,fun a h=>E.Cp a (E.sub a h),fun i d h=>?_,fun i c h io=>?_,fun i j c c' v v' fp ai hi hj si sj h h' ae=>?_,by unfold EC;rw[zc];exact E.len,fun i c n h hp=>by obtain⟨c',h1,rfl⟩:=key i _ h;rw[jn] at hp;cases hp⟩
 ·obtain⟨c,h1,h2⟩:=key i _ h
  cases c with
  |val d' =>
   cases h2
   obtain⟨v,q1,q2⟩:=E.val i d h1
   exact⟨v,q1,q2.mono (CI E.sub)⟩
  |own ds =>
   cases h2
   obtain⟨p,xs,q1,q2,q3,q4,q5⟩:=E.own i ds h1
   exact⟨_,q1,.lst (.of (show del H P0 p=_ by rw[Ax q4];exact q2)) (q5.mono (CI E.sub))⟩
  |ow o =>
   obtain⟨v,fp,q1,q2,q3,q4⟩:=E.ows i _ h1 rfl
   cases o with
   |rows C3 =>
    cases h2
    obtain⟨p,ps,rfl,rfl,q5,q6⟩:=q2
    exact⟨_,q1,.lst (.of (show del H P0 p=_ by rw[Ax (q3 p ze).2];exact q5)) (q6.kO E.sub fun a ha=>(q3 a (zf _ ha)).2)⟩
   |Lr p ds =>
    cases h2
    obtain⟨p,xs,rfl,rfl,q5,q6⟩:=q2
    exact⟨_,q1,.lst (.of (show del H P0 p=_ by rw[Ax (q3 p ze).2];exact q5)) (q6.mono (CI E.sub))⟩
   |tree p t =>
    cases h2
    exact⟨_,q1,C4.has E.sub (fun a ha=>(q3 a ha).2) q2⟩
 ·obtain⟨c',h1,rfl⟩:=key i _ h
  rw[oj] at io;cases io
 ·obtain⟨c1,h1,rfl⟩:=key i _ hi
  exact (wH _ _ _ h).elim
theorem lF {c:Bool}(h:DE X WX c e f):DE X WX false e (fun ρ=>f (EC ρ)):=by
 obtain⟨t,h1,h2⟩:=h
 refine⟨t,h1,fun P0 P σ H Q ρ E g=>h2 P0 P0 σ H Q (EC ρ) E.low ?_⟩
 have e:Lv c P0 P0=P0:=by cases c<;>rfl
 rw[e]
 exact g
theorem IA {ft:Ab->M Bool}(h:DT X WX e ft):DT X WX e (fun ρ=>ft (EC ρ)):=by
 obtain⟨t,h1,h2⟩:=h
 exact⟨t,h1,fun P0 P σ H Q ρ E g=>h2 P0 P0 σ H Q (EC ρ) E.low g⟩
mutual
noncomputable def GD:OT->Bool
 | .sh d=>Je d
 | .lst ts=>G4 ts
 | .tup ts=>G4 ts
 | .Bj _ _ ts=>G4 ts
 | .ins _ _ ts=>G4 ts
noncomputable def G4:List OT->Bool
 |[]=>true
 |t::r=>GD t && G4 r
end
mutual
theorem C4.clean {K:za}{H:Hp}{P P':Addr->Prop}(ht:∀ a,P' a->Dp H a):∀ {v:V}{t:OT}{fp:List Addr},GD t=true->C4 K H P v t fp->C4 K H P' v t fp
 |_,_,_,n,.sh h=>.sh (h.Je ht (by rw[GD] at n;exact n))
 |_,_,_,n,.lst h r=>.lst h (AJ.clean ht (by rw[GD] at n;exact n) r)
 |_,_,_,n,.tup h r=>.tup (Uw ht h) (AJ.clean ht (by rw[GD] at n;exact n) r)
 |_,_,_,n,.dK h r=>.dK h (AJ.clean ht (by rw[GD] at n;exact n) r)
 |_,_,_,n,.dT h r=>.dT h (AJ.clean ht (by rw[GD] at n;exact n) r)
 |_,_,_,n,.ins x h r=>.ins x h (AJ.clean ht (by rw[GD] at n;exact n) r)
theorem AJ.clean {K:za}{H:Hp}{P P':Addr->Prop}(ht:∀ a,P' a->Dp H a):∀ {v:List V}{t:List OT}{fp:List Addr},G4 t=true->AJ K H P v t fp->AJ K H P' v t fp
 |_,_,_,_,.nil=>.nil
 |_,_,_,n,.cons h r=>by
  rw[G4,zR] at n
  exact .cons (C4.clean ht n.1 h) (AJ.clean ht n.2 r)
end
noncomputable def Sq (m:M OT):M OT:=m.bind fun t=>if GD t=true then .ok t else .bad
theorem Eg (h:DN X WX e fn):DN X WX e (fun ρ=>Sq (fn (EC ρ))):=by
 obtain⟨t,h1,h2⟩:=h
 refine⟨t,h1,fun P0 P σ H Q ρ E g=>h2 P0 P0 σ H Q (EC ρ) E.low ?_⟩
 unfold Sq at g
 dsimp only at g
 cases q:fn (EC ρ) with
 |bad=>rw[q] at g;exact g
 |ex x=>rw[q] at g;exact g
 |ok t =>
  rw[q] at g
  simp only[M.A8] at g
  by_cases hf:GD t=true
  ·rw[if_pos hf] at g
   exact fun v fp H' s hn nd o=>g v fp H' s hn nd (o.clean (Ku (E.same s).Cp o) hf)
  ·rw[if_neg hf] at g;exact g.elim
noncomputable def Kv (d:D):M OT:=match d with
 | .lst ds=>.ok (.lst (ds.map .sh))
 | .tup ds=>.ok (.lst (ds.map .sh))
 |_=>.bad
theorem Jm {p:Pos}(hg:Gl X "list") (hm:X.mg "list" = none) (ha:DE X WX true e f) (hb:bootBuiltins "list" = some (.type "list"):=by decide +kernel) (aY:starEach [e] X.env=[(false,eval e X.env)]:=by rfl) :
 DN X WX (.Call (.Name "list" p) [e] [] pos) (fun ρ=>(f ρ).bind Kv):=by
 obtain⟨ta,a1,a2⟩:=ha
 refine⟨_,O7 Pd hg hm hb (Bi a1 Cj aY) (he:=aY),fun P0 P σ H Q ρ E h=>?_⟩
 dsimp only at h
 refine a2 P0 P σ H _ ρ E ?_
 cases q:f ρ with
 |bad=>rw[q] at h;exact h
 |ex x=>rw[q] at h;exact h
 |ok d =>
  rw[q] at h
  simp only[M.A8] at h
  intro v H1 s1 hv
  unfold Kv at h
  split at h
  ·cases hv with
   |lst hs hh=>exact⟨_,_,rfl,.inl hs.Bo,h.Kv s1 hh⟩
  ·cases hv with
   |tup hs hh=>exact⟨_,_,rfl,.inr (Fs.of (Am hs).2),h.Kv s1 hh⟩
  ·exact h.elim
noncomputable def uQ (K:za) (WX:Str->Hp->Prop) (r:R2) (bc:D->D->M OT):Prop :=
 ∀(P:Addr->Prop) (H:Hp) (x y:D) (v w:V) (Q:VK),(∀ a,P a->Dp H a)->BL K (del H P) v x->BL K (del H P) w y->XX K WX P H Q (bc x y)->r v w H Q
theorem pX {ta tb:TE}{r:R2}{bc:D->D->M OT}(ha:∀ P0 P σ H Q ρ,An X.K P0 P H σ ρ->gV X.K WX (Lv true P0 P) H Q (f ρ)->ta σ H Q) (hb:∀ P0 P σ H Q ρ,An X.K P0 P H σ ρ->gV X.K WX (Lv true P0 P) H Q (g ρ)->tb σ H Q)
 (hr:uQ X.K WX r bc) {Q:VK} (E:An X.K P0 P H σ ρ) (h:XX X.K WX P H Q ((f ρ).bind fun x=>(g ρ).bind fun y=>bc x y)):mX r ta tb σ H Q:=by
 refine ha P0 P σ H _ ρ E ?_
 cases e:f ρ with
 |bad=>rw[e] at h;exact h
 |ex x=>rw[e] at h;exact h
 |ok x =>
  rw[e] at h
  intro v H1 s1 hv
  refine hb P0 P σ H1 _ ρ (E.same s1) ?_
  cases e2:g ρ with
  |bad=>rw[e2] at h;exact h
  |ex y=>rw[e2] at h;exact fun H' s=>h H' (s1.trans s)
  |ok y =>
   rw[e2] at h
   intro w H2 s2 hw
   exact hr _ H2 x y v w Q ((E.same s1).same s2).Cp (hv.mono s2.del) hw ((h.same s1).same s2)
noncomputable def Rk (x y:D):M OT:=match x,y with
 | .lst a,.lst b=>if a.length + b.length<=1000 then .ok (.lst ((a++b).map .sh)) else .bad
 |_,_=>.bad
end
end L2
namespace L2
open PySem PySem.Spec PyProof.Rows
noncomputable def spT (K:za) (n:Nat) (F:List D->M OT):Sp:=fun vs H Q E=>vs.length=n/\∃ P ds,(∀ a,P a->Dp H a)/\Ah K (del H P) vs ds/\XX K (D3 K E) P H Q (F ds)
noncomputable def pY:Cl->M OT
 | .val d=>.ok (.sh d)
 | .own ds=>.ok (.lst (ds.map .sh))
 | .ow (.rows C3)=>.ok (.lst (C3.map fun ds=>.lst (ds.map .sh)))
 | .ow (.Lr _ _)=>.bad
 | .ow (.tree none t)=>.ok t
 | .ow (.tree (some _) _)=>.bad
noncomputable def XY (m:M Out):M OT:=match m with
 | .ok (.ret d)=>.ok (.sh d)
 | .ok (.CH c)=>pY c
 | .ok (.next _)=>.ok (.sh .AA)
 | .ex x=>.ex x
 |_=>.bad
theorem Bz.ows {K:za}{H:Hp}{P:Addr->Prop}:∀ {ps:List Addr}{C3:List (List D)},Bz K H P ps C3->AJ K H P (ps.map V.ref) (C3.map fun ds=>.lst (ds.map .sh)) ps
 |_,_,.nil=>.nil
 |_,_,.cons h r t=>.cons (.lst h r.ows) t.ows
theorem Dl.tree {K:za}{H:Hp}{P:Addr->Prop}{c:Cl}{v:V}{fp:List Addr}{t:OT}(h:Dl K H P c v fp) (e:pY c=.ok t):C4 K H P v t fp:=by
 cases c with
 |val d=>exact h.elim
 |own ds =>
  cases e
  obtain⟨p,xs,rfl,rfl,h1,h2⟩:=h
  exact .lst h1 h2.ows
 |ow o =>
  cases o with
  |rows C3 =>
   cases e
   obtain⟨p,ps,rfl,rfl,h1,h2⟩:=h
   exact .lst h1 h2.ows
  |Lr p ds=>cases e
  |tree p t' =>
   cases p with
   |none=>cases e;exact h
   |some q=>cases e
section
variable {P:Program}{w:World}{K:za}{mg:Str->Option Value}{base:Heap}
theorem dX {WX:Str->Hp->Prop}{P P2:Addr->Prop}{H H':Hp}{Q:VK}{c:Cl}{v:V}{fp:List Addr}(h:XX K WX P H Q (pY c)) (t:Tr P P H P2 H') (hs:∀ a,P a->P2 a) (ho:Dl K H' P2 c v fp) (hp:∀ a∈fp,P2 a/\¬ P a) (nd:fp.Nodup):Q v H':=by
 cases q:pY c with
 |bad=>rw[q] at h;exact h.elim
 |ex x=>cases c with
  |val d=>cases q
  |own ds=>cases q
  |ow o =>
   cases o with
   |rows C3=>cases q
   |Lr p ds=>cases q
   |tree p t'=>cases p<;>cases q
 |ok u =>
  rw[q] at h
  have o:=ho.tree q
  refine h v fp H' (Dx t) (fun a ha=>lB t (hp a ha).1 (hp a ha).2) nd (o.move (CI fun a ha=>ha.elim (hs a) fun z=>(hp a z).1) fun _ _=>rfl)
theorem pZ {x qual:Str}{st:Stmt}{f:Addr}{fd:FuncData}{N ps:List Str}{k:Nat}(F:WD K x qual st f fd) (S:Ae N ps (A3 st)) (g:Ab->M Out)
 (hb:∀(B2:Value) (A:Around) (outer:List Env) (s:Shared) (H:Hp) (E:XK),BJ k (A.deeper (envOfC qual (A3 st) s.heap.objs.size f B2))->So (Ut P w K mg base N qual (A3 st) f B2 A outer s H E) (D3 K E) (AB st) g) :
 Dn P w K mg base (SY P w base) (k + 1) f fd ps (spT K ps.length fun ds=>XY (g (AK N ds))):=by
 obtain⟨oc,od,kV,doc,pm,an,B2,ct,Sn,rfl,lk,bz⟩:=F.ex
 refine Ua lk bz S (fun vs H Q E h=>h.1) fun A outer s H vs Q E hr h=>?_
 obtain⟨hl,P',ds,ht,hv,hq⟩:=h
 obtain⟨t,h1,h2⟩:=hb B2 A outer s H E hr
 refine⟨t,h1,h2 ⟨P',fun _=>0⟩ P' _ H _ _ (Oi ht hv) ?_⟩
 dsimp only at hq
 revert hq
 cases g (AK N ds) with
 |bad=>exact fun h=>h.elim
 |ex x=>exact fun h H' P2 t=>h H' (Dx t)
 |ok o =>
  cases o with
  |ret d=>exact fun h v H' P2 t hv=>h v [] H' (Dx t) (fun a ha=>by cases ha) za1 (.sh (by rw[Tf];exact hv))
  |next ρ=>exact fun h σ' H' P2 t E=>h .AA [] H' (Dx t) (fun a ha=>by cases ha) za1 (.sh .AA)
  |brk ρ=>exact fun h=>h.elim
  |cont ρ=>exact fun h=>h.elim
  |CH c=>exact fun h v fp H' P2 t hs ht ho hp nd=>dX h t hs ho hp nd
  |Fe d ρ=>exact fun h=>h.elim
end
structure BY (P:Program) (w:World) (K:za) (mg:Str->Option Value) (base:Heap) (x:Str) (k n:Nat) (F:List D->M OT):Prop where
 ex:∃ fa fd ps,Dn P w K mg base (SY P w base) k fa fd ps (spT K n F)/\mg x=some (.ref fa)/\zQ K (.ref fa)=true/\Binds K fd ps []
theorem AE {P:Program}{w:World}{K:za}{mg:Str->Option Value}{base:Heap}{x:Str}{st:Stmt}{N ps:List Str}{k n:Nat}(T:Ak K mg x st ps) (S:Ae N ps (A3 st)) (g:Ab->M Out)
 (hb:∀(f:Addr) (B2:Value) (A:Around) (outer:List Env) (s:Shared) (H:Hp) (E:XK),BJ k (A.deeper (envOfC x (A3 st) s.heap.objs.size f B2))->So (Ut P w K mg base N x (A3 st) f B2 A outer s H E) (D3 K E) (AB st) g) (hn:ps.length=n:=by rfl) :
 BY P w K mg base x (k + 1) n (fun ds=>XY (g (AK N ds))):=by
 obtain⟨f,fd,F,hm,hB⟩:=T.ex
 subst hn
 exact⟨⟨f,fd,ps,pZ F S g (hb f),hm,F.kp,hB⟩⟩
section
variable {X:Cx}{E:XK}{WX:Str->Hp->Prop}{c:Bool}{e:Expr}{es:List Expr}{fs:Ab->M (List D)}{f:Ab->M D}{fn:Ab->M OT}{ft:Ab->M Bool}{pos:Pos}
theorem Aa {k n:Nat}{F:List D->M OT}{x:Str}{p:Pos}(xo:XCall X E) (G:BY X.prog X.w X.K X.mg X.base x k n F) (hr:BJ k X.A) (hg:Gl X x) (ha:DA X (D3 X.K E) true (e::es) fs) (hn:(e::es).length=n)
 (aU:(x == ("__debug__" : Str))=false:=by decide) (he:starEach (e::es) X.env=(false,eval e X.env)::starEach es X.env:=by rfl) (a4:(backTo pos (starEach es X.env)).any (·.1)=false:=by rfl) :
 DN X (D3 X.K E) (.Call (.Name x p) (e::es) [] pos) (fun ρ=>(fs ρ).bind F):=by
 obtain⟨fa,fd,ps,hF,hm,hk,hb⟩:=G.ex
 obtain⟨ta,a1,a2,a3⟩:=ha
 refine⟨_,U8 hF hr hg hm hk hb .nil xo.call a1 aU he a4,fun P0 P σ H Q ρ E h=>?_⟩
 dsimp only at h
 refine a2 P0 P σ H _ ρ E ?_
 cases q:fs ρ with
 |bad=>rw[q] at h;exact h
 |ex x=>rw[q] at h;exact h
 |ok ds =>
  rw[q] at h
  simp only[M.A8] at h
  intro vs H1 s1 aI
  rw[yH]
  exact⟨by rw[aI.length,a3 ρ ds q];exact hn,P,ds,(E.same s1).Cp,aI,h.same s1⟩
theorem BV (h:DN X WX e fn):DN X (fun _ _=>False) e fn:=by
 obtain⟨t,h1,h2⟩:=h
 refine⟨t,h1,fun P0 P σ H Q ρ E g=>h2 P0 P σ H Q ρ E ?_⟩
 cases q:fn ρ with
 |bad=>rw[q] at g;exact g
 |ex x=>rw[q] at g;exact (g H (Ad.refl H)).elim
 |ok t=>rw[q] at g;exact g
noncomputable def XZ (t:OT):M Out:=match t with
 | .sh d=>.ok (.ret d)
 |t=>.ok (.CH (.ow (.tree none t)))
end
section
variable {X:Cx}{WX:Str->Hp->Prop}{c:Bool}{P0:EA}{P:Addr->Prop}{H:Hp}{σ:St}{ρ:Ab}{a b e:Expr}{f g:Ab->M D}{fn:Ab->M OT}{pos:Pos}
theorem An.tG {K:za}{H':Hp}{fp:List Addr}(E:An K P0 P H σ ρ) (s:Ad H H') (hn:∀ a∈fp,H a=none):Tr P0 P H (PU P fp) H' :=
 ⟨Dd s hn,fun a ha=>by obtain⟨o,q,_⟩:=E.Cp a (E.sub a ha);rw[q];exact s _ _ q⟩
theorem Ao (ha:DN X WX e fn):DS X WX (.Return (some e) pos) (fun ρ=>(fn ρ).bind XZ):=by
 obtain⟨ta,a1,a2⟩:=ha
 refine⟨_,Sx a1,fun P0 P σ H Z ρ E h=>?_⟩
 dsimp only at h
 refine a2 P0 P σ H _ ρ E ?_
 cases q:fn ρ with
 |bad=>rw[q] at h;exact h
 |ex x=>rw[q] at h;exact fun H' s=>h H' P (E.tr s)
 |ok t =>
  rw[q] at h
  simp only[M.A8] at h
  intro v fp H' s hn nd o
  have key:gS X.K WX P0 P H Z (.ok (.CH (.ow (.tree none t))))->Z.rt v H':=fun h =>
   h v fp H' (PU P fp) (E.tG s hn) (fun a ha=>.inl (E.sub a ha)) (Ku (E.same s).Cp o) o (fun a ha=>⟨.inr ha,fun z=>(E.Cp a (E.sub a z)).no (hn a ha)⟩) nd
  cases t with
  |sh d =>
   cases o with
   |sh hv=>exact h v H' P (E.tr s) (hv.mono (CI fun a ha=>.inl (E.sub a ha)))
  |lst ts=>exact key h
  |tup ts=>exact key h
  |Bj b ks ts=>exact key h
  |ins x ns ts=>exact key h
noncomputable def Eh:List OT->Option (List D)
 |[]=>some []
 | .sh d::r=>(Eh r).map (d::·)
 |_::_=>none
theorem CG:∀ ds:List D,Eh (ds.map .sh)=some ds
 |[]=>rfl
 |d::r=>by rw[zg,Eh,CG r];rfl
theorem D5:∀ {ts:List OT}{ds:List D},Eh ts=some ds->ts=ds.map .sh
 |[],ds,h=>by cases h;rfl
 | .sh d::r,ds,h=>by
  rw[Eh] at h
  cases q:Eh r with
  |none=>rw[q] at h;cases h
  |some es=>rw[q] at h;cases h;rw[zg,<-D5 q]
 | .lst _::r,ds,h=>by cases h
 | .tup _::r,ds,h=>by cases h
 | .Bj _ _ _::r,ds,h=>by cases h
 | .ins _ _ _::r,ds,h=>by cases h
noncomputable def toCl (p:Option Nat) (t:OT):Cl:=match t with
 | .lst ts=>(match Eh ts with
  |some ds=>(match p with|none=>.own ds|some q=>.ow (.Lr q ds))
  |none=>.ow (.tree p (.lst ts)))
 |t=>.ow (.tree p t)
@[simp] theorem toCl_list (ds:List D):toCl none (.lst (ds.map .sh))=.own ds:=by unfold toCl;simp only[CG]
@[simp] theorem toCl_listP (q:Nat) (ds:List D):toCl (some q) (.lst (ds.map .sh))=.ow (.Lr q ds):=by unfold toCl;simp only[CG]
@[simp] theorem toCl_dct (p:Option Nat) (b:Bool) (ks:List D) (ts:List OT):toCl p (.Bj b ks ts)=.ow (.tree p (.Bj b ks ts)):=rfl
noncomputable def treeOf:Cl->Option (Option Nat×OT)
 | .own ds=>some (none,.lst (ds.map .sh))
 | .ow (.Lr p ds)=>some (some p,.lst (ds.map .sh))
 | .ow (.rows C3)=>some (none,.lst (C3.map fun ds=>.lst (ds.map .sh)))
 | .ow (.tree p t)=>some (p,t)
 | .val _=>none
theorem Dl.toT {K:za}{H:Hp}{P:Addr->Prop}{c:Cl}{v:V}{fp:List Addr}{p:Option Nat}{t:OT}(h:Dl K H P c v fp) (e:treeOf c=some (p,t)):C4 K H P v t fp:=by
 cases c with
 |val d=>exact h.elim
 |own ds =>
  cases e
  obtain⟨p,xs,rfl,rfl,h1,h2⟩:=h
  exact .lst h1 h2.ows
 |ow o =>
  cases o with
  |rows C3 =>
   cases e
   obtain⟨p,ps,rfl,rfl,h1,h2⟩:=h
   exact .lst h1 h2.ows
  |Lr p ds =>
   cases e
   obtain⟨p,xs,rfl,rfl,h1,h2⟩:=h
   exact .lst h1 h2.ows
  |tree p t'=>cases e;exact h
theorem Dl.toCl {K:za}{H:Hp}{P:Addr->Prop}{v:V}{fp:List Addr}{p:Option Nat}{t:OT}(h:C4 K H P v t fp):Dl K H P (toCl p t) v fp:=by
 unfold L2.toCl
 split
 ·rename_i ts
  cases q:Eh ts with
  |none=>exact h
  |some ds =>
   have e:=D5 q
   subst e
   cases h with
   |lst h1 h2 =>
    obtain⟨rfl,h3⟩:=h2.lE
    cases p with
    |none=>exact⟨_,_,rfl,rfl,h1,h3⟩
    |some q=>exact⟨_,_,rfl,rfl,h1,h3⟩
 ·exact h
theorem IB (p:Option Nat) (t:OT):Od (toCl p t)=p:=by
 unfold toCl
 split
 ·rename_i ts
  cases q:Eh ts with
  |none=>cases p<;>rfl
  |some ds=>cases p<;>rfl
 ·cases p<;>rfl
theorem IC {c:Cl}{p:Option Nat}{t:OT}(h:treeOf c=some (p,t)):Od c=p:=by
 cases c with
 |val d=>cases h
 |own ds=>cases h;rfl
 |ow o =>
  cases o with
  |rows C3=>cases h;rfl
  |Lr p ds=>cases h;rfl
  |tree p t=>cases h;cases p<;>rfl
noncomputable def Rl (i:Nat) (ρ:Ab) (t:OT):M Out:=match t with
 | .sh d=>.ok (.next (ρ.set i (some (.val d))))
 |t=>.ok (.next (ρ.set i (some (toCl none t))))
theorem iC {K:za}{i:Nat}{t:OT}{v:V}{fp:List Addr}{H':Hp}{Z:Ends}(E:An K P0 P H σ ρ) (s:Ad H H') (hn:∀ a∈fp,H a=none) (nd:fp.Nodup) (o:C4 K H' (PU P fp) v t fp) (h:gS K WX P0 P H Z (Rl i ρ t)):Z.nx (σ.set i (some v)) H':=by
 have key:gS K WX P0 P H Z (.ok (.next (ρ.set i (some (toCl none t)))))->Z.nx (σ.set i (some v)) H':=fun h=>by
  refine h _ H' (PU P fp) (E.tG s hn) (E.VF MG (Ku (E.same s).Cp o) (Dd s hn) (fun j c' v' ai ae g1 g2 g3 a ha=>?_) (Dl.toCl o) (fun a ha=>⟨.inr ha,fun z=>(E.Cp a (E.sub a z)).no (hn a ha)⟩) nd (fun n z=>by rw[IB] at z;cases z))
  obtain⟨xs,z⟩:=g3.at a ha
  exact⟨by rw[z];exact s _ _ z,fun w=>by rw[hn a w] at z;cases z⟩
 cases t with
 |sh d =>
  cases o with
  |sh hv=>exact h _ H' P (E.tr s) ((E.same s).VE (by rw[Tf] at hv;exact hv))
 |lst ts=>exact key h
 |tup ts=>exact key h
 |Bj b ks ts=>exact key h
 |ins x ns ts=>exact key h
theorem BD (i:Nat){x:Str}{pos':Pos}(hN:X.N.Nodup) (hi:X.N[i]? =some x) (hx:Loc X.env.scope x) (ha:DN X WX e fn) (hs:swapsWith e (some (.Name x pos')) pos.line X.env=pure false:=by rfl) (hf:X.fn x=true\/X.env.scope.names.lookup x=some .local:=by first | exact .inl rfl | exact .inr rfl | assumption) :
 DS X WX (.Assign [.Name x pos'] e pos) (fun ρ=>(fn ρ).bind (Rl i ρ)):=by
 obtain⟨ta,a1,a2⟩:=ha
 refine⟨_,Sy hN hi hx a1 hs hf,fun P0 P σ H Z ρ E h=>?_⟩
 dsimp only at h
 refine a2 P0 P σ H _ ρ E ?_
 cases q:fn ρ with
 |bad=>rw[q] at h;exact h
 |ex x=>rw[q] at h;exact fun H' s=>h H' P (E.tr s)
 |ok t =>
  rw[q] at h
  exact fun v fp H' s hn nd o=>iC E s hn nd o h
noncomputable def Tg (i:Nat) (ρ:Ab):M Out:=match ρ[i]? with
 |some (some (.val d))=>.ok (.ret d)
 |some (some c)=>.ok (.CH c)
 |_=>.bad
theorem CL (i:Nat){x:Str}{p1:Pos}(hv:PE X (.Name x p1) (Lc i)):DS X WX (.Return (some (.Name x p1)) pos) (Tg i):=by
 refine⟨_,Sx hv,fun P0 P σ H Z ρ E h=>?_⟩
 unfold Tg at h
 split at h
 ·rename_i d e1
  obtain⟨v,h1,h2⟩:=E.val i d e1
  exact⟨v,h1,h v H P Tr.refl (h2.mono (CI E.sub))⟩
 ·rename_i c hc e1
  have io:Iv c=true:=by
   cases c with
   |val d=>exact (hc d rfl).elim
   |own ds=>rfl
   |ow o=>rfl
  obtain⟨v,fp,h1,h2,h3,h4⟩:=E.ows i _ e1 io
  exact⟨v,h1,h v fp H P Tr.refl E.sub E.Cp h2 h3 h4⟩
 ·exact h.elim
theorem Py:∀ ds:List D,Ui (ds.map .sh)=ds
 |[]=>rfl
 |d::r=>by rw[zg,Ui,er,Py r]
noncomputable def Y0 (i:Nat) (ρ:Ab):Ab:=match ρ[i]? with
 |some (some c)=>ρ.set i (some (Li c))
 |_=>ρ
end
end L2
namespace L2
open PySem PySem.Spec PyProof.Rows
section
variable {K:za}{H H':Hp}{P P':Addr->Prop}
theorem CF.same {v:V}{t:OT}{q:List Addr}{xs:List V}(e:Ad H H') (h:CF K H P v t q xs):CF K H' P v t q xs:=by
 cases t with
 |sh d=>exact h.elim
 |lst ts=>obtain⟨p,rfl,rfl,h⟩:=h;exact⟨p,rfl,rfl,e _ _ h⟩
 |tup ts=>obtain⟨p,rfl,rfl,h⟩:=h;exact⟨p,rfl,rfl,e.del _ _ h⟩
 |Bj b ks ts =>
  cases b with
  |false=>obtain⟨p,kvs,rfl,rfl,h,rfl,rfl⟩:=h;exact⟨p,kvs,rfl,rfl,e _ _ h,rfl,rfl⟩
  |true=>obtain⟨p,kvs,rfl,rfl,h,rfl,rfl⟩:=h;exact⟨p,kvs,rfl,rfl,e _ _ h,rfl,rfl⟩
 |ins x ns ts=>obtain⟨p,C,dx,fs,rfl,rfl,n,h,rfl,rfl⟩:=h;exact⟨p,C,dx,fs,rfl,rfl,n,e _ _ h,rfl,rfl⟩
theorem Jk.same {v v1:V}{t t1:OT}{π:List Nat}(e:Ad H H') (h:Jk K H P v t π v1 t1):Jk K H' P v t π v1 t1:=by
 induction h with
 |nil=>exact .nil
 |cons n hx hs _ ih=>exact .cons (n.same e) hx hs ih
theorem CF.more {v:V}{t:OT}{q:List Addr}{xs:List V}(sm:Ad (del H P) (del H' P')) (e:Ad H H') (h:CF K H P v t q xs):CF K H' P' v t q xs:=by
 cases t with
 |sh d=>exact h.elim
 |lst ts=>obtain⟨p,rfl,rfl,h⟩:=h;exact⟨p,rfl,rfl,e _ _ h⟩
 |tup ts=>obtain⟨p,rfl,rfl,h⟩:=h;exact⟨p,rfl,rfl,sm _ _ h⟩
 |Bj b ks ts =>
  cases b with
  |false=>obtain⟨p,kvs,rfl,rfl,h,rfl,rfl⟩:=h;exact⟨p,kvs,rfl,rfl,e _ _ h,rfl,rfl⟩
  |true=>obtain⟨p,kvs,rfl,rfl,h,rfl,rfl⟩:=h;exact⟨p,kvs,rfl,rfl,e _ _ h,rfl,rfl⟩
 |ins x ns ts=>obtain⟨p,C,dx,fs,rfl,rfl,n,h,rfl,rfl⟩:=h;exact⟨p,C,dx,fs,rfl,rfl,n,e _ _ h,rfl,rfl⟩
theorem Jk.more {v v1:V}{t t1:OT}{π:List Nat}(sm:Ad (del H P) (del H' P')) (e:Ad H H') (h:Jk K H P v t π v1 t1):Jk K H' P' v t π v1 t1:=by
 induction h with
 |nil=>exact .nil
 |cons n hx hs _ ih=>exact .cons (n.more sm e) hx hs ih
end
noncomputable def UH (i:Nat) (ρ:Ab) (π:List Nat):Option OT:=match ρ[i]? with
 |some (some c)=>(match treeOf c with|some (_,t)=>Kt t π|none=>none)
 |_=>none
structure Bl (K:za) (P:Addr->Prop) (H:Hp) (σ:St) (ρ:Ab) (i:Nat) (π:List Nat) (v:V) (t1:OT):Prop where
 ex:∃ v0 c p t,ρ[i]? =some (some c)/\treeOf c=some (p,t)/\σ[i]? =some (some v0)/\Jk K H P v0 t π v t1
theorem Bl.at {K:za}{P:Addr->Prop}{H:Hp}{σ:St}{ρ:Ab}{i:Nat}{π:List Nat}{v:V}{t1:OT}(h:Bl K P H σ ρ i π v t1):UH i ρ π=some t1:=by
 obtain⟨v0,c,p,t,h1,h2,h3,h4⟩:=h.ex
 unfold UH
 simp only[h1,h2]
 exact h4.sub
theorem Bl.same {K:za}{P:Addr->Prop}{H H':Hp}{σ:St}{ρ:Ab}{i:Nat}{π:List Nat}{v:V}{t1:OT}(e:Ad H H') (h:Bl K P H σ ρ i π v t1):Bl K P H' σ ρ i π v t1:=by
 obtain⟨v0,c,p,t,h1,h2,h3,h4⟩:=h.ex
 exact⟨v0,c,p,t,h1,h2,h3,h4.same e⟩
theorem Bl.more {K:za}{P P':Addr->Prop}{H H':Hp}{σ:St}{ρ:Ab}{i:Nat}{π:List Nat}{v:V}{t1:OT}(sm:Ad (del H P) (del H' P')) (e:Ad H H') (h:Bl K P H σ ρ i π v t1):Bl K P' H' σ ρ i π v t1:=by
 obtain⟨v0,c,p,t,h1,h2,h3,h4⟩:=h.ex
 exact⟨v0,c,p,t,h1,h2,h3,h4.more sm e⟩
theorem Bl.own {K:za}{P0:EA}{P:Addr->Prop}{H:Hp}{σ:St}{ρ:Ab}{i:Nat}{π:List Nat}{v:V}{t1:OT}(h:Bl K P H σ ρ i π v t1) (E:An K P0 P H σ ρ):∃ a7,C4 K H P v t1 a7/\(∀ a∈a7,P a/\¬ P0 a)/\a7.Nodup:=by
 obtain⟨v0,c,p,t,h1,h2,h3,h4⟩:=h.ex
 have io:Iv c=true:=by cases c<;>first|rfl|cases h2
 obtain⟨w,fp,k1,k2,k3,k4⟩:=E.ows i c h1 io
 rw[h3] at k1;cases k1
 obtain⟨a7,o1,hk,kn⟩:=(k2.toT h2).part h4
 exact⟨a7,o1,fun a ha=>k3 a (hk a ha),kn k4⟩
noncomputable def gP (K:za) (WX:Str->Hp->Prop) (P:Addr->Prop) (H:Hp) (σ:St) (ρ:Ab) (i:Nat) (Q:VK):M (List Nat)->Prop
 | .ok π=>∀ v t1 H',Ad H H'->Bl K P H' σ ρ i π v t1->Q v H'
 | .ex x=>∀ H',Ad H H'->WX x H'
 | .bad=>False
noncomputable def DP (X:Cx) (WX:Str->Hp->Prop) (e:Expr) (i:Nat) (f:Ab->M (List Nat)):Prop :=
 ∃ t,PE X e t/\∀ P0 P σ H Q ρ,An X.K P0 P H σ ρ->gP X.K WX P H σ ρ i Q (f ρ)->t σ H Q
section
variable {X:Cx}{WX:Str->Hp->Prop}{c:Bool}{P0:EA}{P:Addr->Prop}{H:Hp}{σ:St}{ρ:Ab}{a b e:Expr}{f g:Ab->M D}{fn:Ab->M OT}{fp:Ab->M (List Nat)}{pos:Pos}{i:Nat}
noncomputable def Rm (i:Nat) (ρ:Ab):M (List Nat):=match UH i ρ [] with | some _=>.ok [] | none=>.bad
theorem BZ (i:Nat){x:Str}{p1:Pos}(hv:PE X (.Name x p1) (Lc i)):DP X WX (.Name x p1) i (Rm i):=by
 refine⟨_,hv,fun P0 P σ H Q ρ E h=>?_⟩
 unfold Rm at h
 split at h
 ·rename_i t e
  unfold UH at e
  split at e
  ·rename_i cl e1
   split at e
   ·rename_i p t0 e2
    have io:Iv cl=true:=by cases cl<;>first|rfl|cases e2
    obtain⟨v,fp,h1,h2,h3,h4⟩:=E.ows i cl e1 io
    exact⟨v,h1,h v t0 H (Ad.refl H) ⟨v,cl,p,t0,e1,e2,h1,.nil⟩⟩
   ·cases e
  ·cases e
 ·exact h.elim
noncomputable def tH (i:Nat) (ρ:Ab) (π:List Nat):M D:=match UH i ρ π with
 |some (.sh d)=>.ok d
 |_=>.bad
theorem An.qA {K:za}{P':Addr->Prop}{H':Hp}{π:List Nat}{v1:V}{t1 u:OT}{a7 fu:List Addr}(E:An K P0 P H σ ρ) (pl:Bl K P H σ ρ i π v1 t1) (o:C4 K H P v1 t1 a7) (hs:∀ a,P a->P' a) (ht:∀ a,P' a->Dp H' a) (sm:Ad (del H P) (del H' P')) (keep:∀ a,P a->a∉a7->H' a=H a)
 (o':C4 K H' P' v1 u fu) (nd:fu.Nodup) (hf:∀ a∈fu,a∈a7\/(P' a/\¬ P0 a/\∀(j:Nat) c v fp,ρ[j]? =some (some c)->σ[j]? =some (some v)->Dl K H P c v fp->a∉fp)) :
 ∃ c p t,ρ[i]? =some (some c)/\treeOf c=some (p,t)/\An K P0 P' H' σ (ρ.set i (some (toCl p (EZ t π u))))/\Tr P0 P H P' H':=by
 obtain⟨v0,c,p,t,h1,h2,h3,h4⟩:=pl.ex
 have io:Iv c=true:=by cases c<;>first|rfl|cases h2
 obtain⟨w,fp,k1,k2,k3,k4⟩:=E.ows i c h1 io
 rw[h3] at k1;cases k1
 have ot:=k2.toT h2
 obtain⟨fz,oz,kz,_⟩:=ot.part h4
 have:=oz.Cq o;subst this
 obtain⟨ai,q1,q2,q3⟩:=ot.put sm h4 o o' (fun a ha hn=>keep a (k3 a ha).1 hn) k4 nd (fun a ha hb=>(hf a ha).elim id fun z=>(z.2.2 i c v0 fp h1 h3 k2 hb).elim)
 refine⟨c,p,t,h1,h2,?_,sm,fun a ha=>keep a (E.sub a ha) fun z=>(k3 a (kz a z)).2 ha⟩
 have key:=E.VF (P':=P') (H':=H') (i:=i) (v:=v0) (c:=toCl p (EZ t π u)) (fp:=ai) hs ht sm (fun j c' v' fq ae g1 g2 g3 a ha=>?_) (Dl.toCl q1) (fun a ha=>?_) q2 (fun n z=>by rw[IB] at z;subst z;have:=E.pin i c n h1 (IC h2);rw[h3] at this;cases this;rfl)
 ·rw[Kq h3] at key
  exact key
 ·have om:a∉fp:=E.apart j i c' c v' v0 fq fp g1 h1 g2 h3 g3 k2 (yE ae) a ha
  have jo:Iv c'=true:=by cases c'<;>first|rfl|exact g3.elim
  obtain⟨w',fr,m1,m2,m3,m4⟩:=E.ows j c' g1 jo
  rw[g2] at m1;cases m1
  have:=m2.Cq g3;subst this
  refine⟨keep a (m3 a ha).1 fun z=>om (kz a z),fun z=>?_⟩
  rcases q3 a z with y|y
  ·rcases hf a y with x|x
   ·exact om (kz a x)
   ·exact x.2.2 j c' v' fr g1 g2 g3 ha
  ·exact om y.1
 ·rcases q3 a ha with y|y
  ·rcases hf a y with x|x
   ·exact⟨hs a (k3 a (kz a x)).1,(k3 a (kz a x)).2⟩
   ·exact⟨x.1,x.2.1⟩
  ·exact⟨hs a (k3 a y.1).1,(k3 a y.1).2⟩
theorem An.tI {K:za}{π:List Nat}{l:Addr}{xs ys:List V}{ts us:List OT}{fq fu:List Addr}(E:An K P0 P H σ ρ) (pl:Bl K P H σ ρ i π (.ref l) (.lst ts)) (hH:H l=some (.lst xs)) (o:AJ K H P xs ts fq) (o':AJ K H P ys us fu) (nd:fu.Nodup) (hl:l∉fu)
 (hf:∀ a∈fu,a∈fq\/(P a/\¬ P0 a/\∀(j:Nat) c v fp,ρ[j]? =some (some c)->σ[j]? =some (some v)->Dl K H P c v fp->a∉fp)) :
 ∃ c p t,ρ[i]? =some (some c)/\treeOf c=some (p,t)/\An K P0 P (upd H l (.lst ys)) σ (ρ.set i (some (toCl p (EZ t π (.lst us)))))/\Tr P0 P H P (upd H l (.lst ys)):=by
 have ot:C4 K H P (.ref l) (.lst ts) (l::fq):=.lst hH o
 obtain⟨a7,o1,hp,_⟩:=pl.own E
 have:=o1.Cq ot;subst this
 have pP:P l:=(hp l ze).1
 have sd:del (upd H l (.lst ys)) P=del H P:=by
  funext b
  by_cases hb:P b
  ·rw[D2 hb,D2 hb]
  ·rw[Ax hb,Ax hb,Ag (fun z=>hb (by rw[z];exact pP))]
 have sm:Ad (del H P) (del (upd H l (.lst ys)) P):=by rw[sd];exact Ad.refl _
 refine E.qA pl ot (fun _ h=>h) (fun a h=>?_) sm (fun a ha hn=>Ag fun z=>hn (by rw[z];exact ze)) (.lst Ar (o'.move sm fun a ha=>Ag fun z=>hl (by rw[<-z];exact ha))) (yJ.mpr ⟨hl,nd⟩) (fun a ha=>?_)
 ·by_cases ha:a=l
  ·subst ha;exact Dp.lst Ar
  ·unfold Dp;rw[Ag ha];exact E.Cp a h
 ·rcases zu.mp ha with z|z
  ·exact .inl (by rw[z];exact ze)
  ·rcases hf a z with y|y
   ·exact .inl (zf _ y)
   ·exact .inr y
end
end L2
namespace L2
open PySem PySem.Spec PyProof.Rows
noncomputable def kd:D->Option Key
 | .int i=>some (.inl i)
 | .str x=>some (.inr x)
 |_=>none
noncomputable def nB:List D->Option (List Key)
 |[]=>some []
 |d::r=>match kd d,nB r with|some k,some ks=>some (k::ks)|_,_=>none
theorem iD {d:D}{k:Key}(h:kd d=some k):d=Dk k:=by
 cases d<;>simp[kd] at h<;>subst h<;>rfl
theorem Y1:∀ {ds:List D}{ks:List Key},nB ds=some ks->ds=ks.map Dk
 |[],ks,h=>by cases h;rfl
 |d::r,ks,h=>by
  rw[nB] at h
  cases q:kd d with
  |none=>rw[q] at h;cases h
  |some k =>
   cases q2:nB r with
   |none=>rw[q,q2] at h;cases h
   |some wI =>
    rw[q,q2] at h
    cases h
    rw[zg,<-iD q,<-Y1 q2]
inductive dY:Bool->D->Prop
 |k (κ:Key):dY false (Dk κ)
 |t (κ:List Key):dY true (.tup (κ.map Dk))
noncomputable def keyOk (b:Bool) (d:D):Bool:=match b,d with
 |false,d=>(kd d).isSome
 |true,.tup ds=>(nB ds).isSome
 |_,_=>false
theorem Fj {b:Bool}{d:D}(h:keyOk b d=true):dY b d:=by
 cases b with
 |false =>
  obtain⟨k,hk⟩:=zba.mp (show (kd d).isSome=true from h)
  rw[iD hk];exact .k k
 |true =>
  cases d with
  |tup ds =>
   obtain⟨k,hk⟩:=zba.mp (show (nB ds).isSome=true from h)
   rw[Y1 hk];exact .t k
  |_=>cases h
theorem MH (a b:Key):Aw (Dk a) (Dk b)=decide (a=b):=by
 cases a with
 |inl i =>
  cases b with
  |inl j=>simp only[Dk,Aw];rw[zak];simp
  |inr y=>simp[Dk,Aw]
 |inr x =>
  cases b with
  |inl j=>simp[Dk,Aw]
  |inr y=>simp only[Dk,Aw];rw[zak];simp
theorem LB:∀ a b:List Key,Cv (a.map Dk) (b.map Dk)=decide (a=b)
 |[],[]=>by simp[Cv]
 |[],_::_=>by simp[Cv]
 |_::_,[]=>by simp[Cv]
 |a::r,b::t=>by
  rw[zg,zg,Cv,MH,LB r t,zak]
  simp
noncomputable def Gf {α:Type}:List D->List α->D->Option α
 |k::ks,v::vs,y=>if Aw k y=true then some v else Gf ks vs y
 |_,_,_=>none
noncomputable def ID {α:Type}:List D->List α->D->α->List α
 |k::ks,v::vs,y,z=>(if Aw k y=true then z else v)::ID ks vs y z
 |_,vs,_,_=>vs
noncomputable def Lj (ks:List D) (y:D):Bool:=ks.any fun k=>Aw k y
section
variable {κ:Type} [DecidableEq κ] {fk:κ->D}(hf:∀ a b,Aw (fk a) (fk b)=decide (a=b))
include hf
theorem MI {α:Type}:∀(kvs:List (κ×α)) (k:κ),Gf (kvs.map fun kv=>fk kv.1) (kvs.map yZ) (fk k)=(kvs.find? fun kv=>decide (kv.1=k)).map (·.2)
 |[],k=>rfl
 |p::r,k=>by
  rw[zg,zg,Gf,hf,zaw]
  by_cases e:p.1=k
  ·rw[decide_eq_true e];rfl
  ·rw[decide_eq_false e]
   simp only[zF,if_false]
   exact MI r k
theorem MJ {α:Type}(kvs:List (κ×α)) (k:κ):Lj (kvs.map fun kv=>fk kv.1) (fk k)=kvs.any fun kv=>decide (kv.1=k):=by
 unfold Lj
 rw[List.any_map]
 congr 1
 funext kv
 exact hf _ _
theorem Jn (k:κ) (v:V):∀(kvs:List (κ×V)),ID (kvs.map fun kv=>fk kv.1) (kvs.map yZ) (fk k) v=(kvs.map fun kv=>if kv.1=k then (kv.1,v) else kv).map yZ
 |[]=>rfl
 |p::r=>by
  rw[zg,zg,ID,hf,zg,zg,Jn k v r]
  by_cases e:p.1=k
  ·rw[decide_eq_true e,if_pos e];rfl
  ·rw[decide_eq_false e,if_neg e];rfl
theorem Jo (k:κ) (v:V):∀(kvs:List (κ×V)),(kvs.map fun kv=>if kv.1=k then (kv.1,v) else kv).map (fun kv=>fk kv.1)=kvs.map fun kv=>fk kv.1
 |[]=>rfl
 |p::r=>by
  rw[zg,zg,zg,Jo k v r]
  by_cases e:p.1=k
  ·rw[if_pos e]
  ·rw[if_neg e]
end
theorem MK {K:za}{H:Hp}:∀ {ks:List D}{xs:List V}{ds:List D}{y d:D},Ah K H xs ds->Gf ks ds y=some d->∃ x,Gf ks xs y=some x/\BL K H x d
 |[],_,_,_,_,_,e=>by simp[Gf] at e
 |_::_,_,_,_,_,.nil,e=>by simp[Gf] at e
 |k::ks,_,_,y,d,.cons h t,e=>by
  rw[Gf] at e ⊢
  by_cases q:Aw k y=true
  ·rw[if_pos q] at e ⊢;cases e;exact⟨_,rfl,h⟩
  ·rw[if_neg q] at e ⊢;exact MK t e
theorem Hu {α:Type}:∀ {ks:List D}{xs:List α}{y:D},xs.length=ks.length->Lj ks y=(Gf ks xs y).isSome
 |[],[],y,_=>rfl
 |k::ks,x::xs,y,h=>by
  unfold Lj
  rw[zb2,Gf]
  cases q:Aw k y with
  |true=>rfl
  |false =>
   simp only[Bool.false_or,zF,if_false]
   exact Hu (by simpa using h)
 |[],_::_,_,h=>by cases h
 |_::_,[],_,h=>by cases h
theorem Jp {K:za}{H:Hp}{P:Addr->Prop}{y d:D}{v:V}(hv:BL K (del H P) v d):∀ {ks:List D}{xs:List V}{ds:List D},Ah K (del H P) xs ds->Ah K (del H P) (ID ks xs y v) (ID ks ds y d)
 |[],_,_,h=>by simp only[ID];exact h
 |_::_,_,_,.nil=>by simp only[ID];exact .nil
 |k::ks,_,_,.cons h t=>by
  rw[ID,ID]
  refine .cons ?_ (Jp hv t)
  by_cases q:Aw k y=true
  ·rw[if_pos q,if_pos q];exact hv
  ·rw[if_neg q,if_neg q];exact h
section
variable {K:za}{H:Hp}{P:Addr->Prop}
theorem Ah.keys:∀ {xs:List V}(κ:List Key),Ah K H xs (κ.map Dk)->xs=κ.map kV
 |_,[],.nil=>rfl
 |_,k::r,.cons h t=>by
  rw[zg,<-Ah.keys r t]
  congr 1
  cases k with
  |inl i=>exact h.int_inv
  |inr x=>cases h;rfl
theorem BL.lG {y:V}{κ:Key}(h:BL K H y (Dk κ)):y=kV κ:=by
 cases κ with
 |inl i=>exact h.int_inv
 |inr x=>cases h;rfl
theorem Pz {v y:V}{b:Bool}{ks vs:List D}{k:D}(hv:BL K (del H P) v (.Bj b ks vs)) (hy:BL K (del H P) y k) (hk:dY b k):∃ a xs,v=.ref a/\Io H a y (Gf ks xs k)/\Ah K (del H P) xs vs/\xs.length=ks.length:=by
 cases hv with
 |Iq hh hl =>
  cases hk with
  |k κ =>
   refine⟨_,_,rfl,?_,hl,by simp⟩
   rw[hy.lG,MI MH]
   exact Io.k (Am hh).2
 |Ir hh hl =>
  cases hk with
  |t κ =>
   cases hy with
   |tup ht bf =>
    have e:=Ah.keys κ bf
    subst e
    refine⟨_,_,rfl,?_,hl,by simp⟩
    rw[MI (fk:=fun κ:List Key=>D.tup (κ.map Dk)) (fun a b=>by simp only[Aw];exact LB a b)]
    exact Io.t (Am hh).2 (Am ht).2
end
section
variable {X:Cx}{WX:Str->Hp->Prop}{c:Bool}{P0:EA}{P:Addr->Prop}{H:Hp}{σ:St}{ρ:Ab}{a b e:Expr}{f g:Ab->M D}{fn:Ab->M OT}{fp:Ab->M (List Nat)}{pos:Pos}{i:Nat}
noncomputable def qB:R2:=fun x y H Q=>∃ a v,x=.ref a/\Io H a y (some v)/\Q v H
theorem dZ (hu:X.A.units + 1 < cLine):ZA X qB:=by
 intro value slice pins s σ H x y v u Q I rx ry h hs
 obtain⟨a,z,rfl,g,q⟩:=h
 cases rx
 have hT:=QS I g
 have h₂:wpAny (model X.prog X.w) X.A (getItem (.ref a) u) (EP X pins σ Q) X.xe s:=Vx hu I g ry fun w' s3 I3 b5=>⟨z,H,I3,b5,q⟩
 unfold subscriptTail
 refine wpAny_bind ?_
 rw[getitemInPython_of_ne hT.not_modules]
 refine wpAny_bind (wpAny_specialOf hT PySem.F.slot_dict_getitem.lookup ?_)
 have fin:wpAny (model X.prog X.w) X.A (subscripted slice false (.ref a) u) (fun r s₃=>wpAny (model X.prog X.w) X.A (letTemporaryGo value (.ref a) r >>= fun _=>pure r) (EP X pins σ Q) X.xe s₃) X.xe s:=by
  rw[hs]
  exact wpAny_operating (wpAny_mono h₂ (fun r s₃ h₃=>wpAny_bind (wpAny_letTemporaryGo (wpAny_pure h₃))) fun _ _ x=>x)
 first
  |exact wpAny_pure (wpAny_bind fin)
  |exact wpAny_bind (wpAny_pure (wpAny_bind fin))
  |exact wpAny_bind fin
noncomputable def B4 (x y:D):M D:=match x with
 | .Bj b ks vs=>if keyOk b y=true then (match Gf ks vs y with|some d=>.ok d|none=>.bad) else .bad
 |x=>ZW x y
theorem eA:Uk X.K WX (fun x y H Q=>(jX X.K x y H Q\/jY X.K x y H Q)\/qB x y H Q) B4:=by
 intro P H x y v w Q ht hx hy h
 cases x with
 |Bj b ks vs =>
  simp only[B4] at h
  by_cases hk:keyOk b y=true
  ·rw[if_pos hk] at h
   obtain⟨a,xs,rfl,g,hl,_⟩:=Pz hx hy (Fj hk)
   split at h
   ·rename_i d e
    obtain⟨u,e1,e2⟩:=MK hl e
    rw[e1] at g
    exact .inr ⟨a,u,rfl,g,h _ H (Ad.refl H) e2⟩
   ·exact h.elim
  ·rw[if_neg hk] at h;exact h.elim
 |AA=>exact .inl (Gu P H _ y v w Q ht hx hy h)
 |bl b=>exact .inl (Gu P H _ y v w Q ht hx hy h)
 |int b=>exact .inl (Gu P H _ y v w Q ht hx hy h)
 |str b=>exact .inl (Gu P H _ y v w Q ht hx hy h)
 |tup b=>exact .inl (Gu P H _ y v w Q ht hx hy h)
 |lst b=>exact .inl (Gu P H _ y v w Q ht hx hy h)
 |DK b=>exact .inl (Gu P H _ y v w Q ht hx hy h)
 |ins b _ _=>exact .inl (Gu P H _ y v w Q ht hx hy h)
theorem Ac {n:Nat}(hu:X.A.units + n < cLine) (ha:DE X WX c a f) (hb:DE X WX c b g) (hs:Hj b:=by exact fun _ _=>rfl) (hn:1<=n:=by decide):DE X WX c (.Subscript a b pos) (fun ρ=>(f ρ).bind fun x=>(g ρ).bind fun y=>B4 x y):=pH ((Lp.or jZ).or (dZ (by omega))) eA ha hb hs
noncomputable def lH (neg:Bool):R2:=fun y x H Q=>∃ a o,x=.ref a/\Io H a y o/\Q (.bl (if neg=true then !o.isSome else o.isSome)) H
theorem Th (hu:X.A.units + 1 < cLine):Gm X (compareOp .In) (lH false):=by
 intro pins s σ H x y v u Q I rx ry h
 obtain⟨a,o,rfl,g,q⟩:=h
 cases ry
 exact sT hu I g rx fun s3 I3=>⟨.bl o.isSome,H,I3,rfl,q⟩
theorem NK (hu:X.A.units + 1 < cLine):Gm X (compareOp .NotIn) (lH true):=by
 intro pins s σ H x y v u Q I rx ry h
 obtain⟨a,o,rfl,g,q⟩:=h
 cases ry
 exact ZI hu I g rx fun s3 I3=>⟨.bl (!o.isSome),H,I3,rfl,q⟩
noncomputable def Jq (neg:Bool) (y x:D):M D:=match x with
 | .Bj b ks vs=>if keyOk b y=true then .ok (.bl (if neg=true then !Lj ks y else Lj ks y)) else .bad
 |x=>rF neg y x
theorem UI {neg:Bool}:Uk X.K WX (fun x y H Q=>rA X.K neg x y H Q\/lH neg x y H Q) (Jq neg):=by
 intro P H x y v w Q ht hx hy h
 cases y with
 |Bj b ks vs =>
  simp only[Jq] at h
  by_cases hk:keyOk b x=true
  ·rw[if_pos hk] at h
   obtain⟨a,xs,rfl,g,hl,hn⟩:=Pz hy hx (Fj hk)
   rw[Hu (xs:=xs) hn] at h
   exact .inr ⟨a,_,rfl,g,h _ H (Ad.refl H) (.bl _)⟩
  ·rw[if_neg hk] at h;exact h.elim
 |AA=>exact .inl (Gy P H x _ v w Q ht hx hy h)
 |bl b=>exact .inl (Gy P H x _ v w Q ht hx hy h)
 |int b=>exact .inl (Gy P H x _ v w Q ht hx hy h)
 |str b=>exact .inl (Gy P H x _ v w Q ht hx hy h)
 |tup b=>exact .inl (Gy P H x _ v w Q ht hx hy h)
 |lst b=>exact .inl (Gy P H x _ v w Q ht hx hy h)
 |DK b=>exact .inl (Gy P H x _ v w Q ht hx hy h)
 |ins b _ _=>exact .inl (Gy P H x _ v w Q ht hx hy h)
theorem ML {n:Nat}(hu:X.A.units + n < cLine) (ha:DE X WX c a f) (hb:DE X WX c b g) (hm:behindInMarks .In b=false:=by rfl) (hn:1<=n:=by decide):DT X WX (.Compare a [.In] [b] pos) (fun ρ=>((f ρ).bind fun x=>(g ρ).bind fun y=>Jq false x y).bind Of):=Fx (Vs.or (Th (by omega))) UI ha hb hm
theorem LC {n:Nat}(hu:X.A.units + n < cLine) (ha:DE X WX c a f) (hb:DE X WX c b g) (hm:behindInMarks .NotIn b=false:=by rfl) (hn:1<=n:=by decide):DT X WX (.Compare a [.NotIn] [b] pos) (fun ρ=>((f ρ).bind fun x=>(g ρ).bind fun y=>Jq true x y).bind Of):=Fx (Pb.or (NK (by omega))) UI ha hb hm
noncomputable def F0:D->M Bool
 | .AA=>.ok false
 | .bl b=>.ok b
 | .int i=>.ok (i != 0)
 | .tup ds=>.ok (!ds.isEmpty)
 | .lst ds=>.ok (!ds.isEmpty)
 |_=>.bad
theorem Jr {K:za}{H:Hp}{xs:List V}{ds:List D}(h:Ah K H xs ds):(!ds.isEmpty) = !xs.isEmpty:=by cases h<;>rfl
theorem Ck (h:DE X WX c e f) (he:∀ whole,isTrue e X.env whole=(do let v <-whole;standAt e.pos;holding [v] (truthy v)):=by intro _;rfl):DT X WX e (fun ρ=>(f ρ).bind F0):=by
 obtain⟨t,h1,h2⟩:=h
 refine⟨_,X3 h1 he,fun P0 P σ H Q ρ E h=>h2 P0 P σ H _ ρ E ?_⟩
 dsimp only at h
 cases q:f ρ with
 |bad=>rw[q] at h;exact h
 |ex x=>rw[q] at h;exact h
 |ok d =>
  rw[q] at h
  simp only[M.A8] at h
  intro v H' s hv
  cases hv with
  |AA=>exact⟨false,rfl,h H' s⟩
  |bl b=>exact⟨b,rfl,h H' s⟩
  |int i=>exact⟨_,rfl,h H' s⟩
  |tup hs hl=>exact⟨_,.inr (.inl ⟨_,Fs.of (Am hs).2,rfl⟩),by rw[<-Jr hl];exact h H' s⟩
  |lst hs hl=>exact⟨_,.inl ⟨_,hs.Bo,rfl⟩,by rw[<-Jr hl];exact h H' s⟩
  |_=>exact h.elim
end
end L2
namespace L2
open PySem PySem.Spec PyProof.Rows
noncomputable def Js (m:M (List D)):M OT:=match m with | .ok ys=>.ok (.lst (ys.map .sh)) | _=>.bad
section
variable {X:Cx}{WX:Str->Hp->Prop}{c:Bool}{P0:EA}{P:Addr->Prop}{H:Hp}{σ:St}{ρ:Ab}{a b e tg iter:Expr}{f g:Ab->M D}{ft:Ab->M Bool}{pos:Pos}{gt:D->Ab->M Ab}{fi:Ab->M (List D)}{es:List Expr}{fs:Ab->M (List D)}
theorem Y2 {μ:List (Option Nat)}{wi:TI}{gg:TG}{tc:Shared->Hp->Addr->List Addr->TT}{te:Shared->Hp->Addr->List Addr->TE}{fe:Ab->M D}
 (i2:∀ P0 P σ H R ρ,An X.K P0 P H σ ρ->(match fi ρ with | .ok ds=>∀ J H',Ad H H'->ZY X.K J P H' ds->R J H' | .ex x=>∀ H',Ad H H'->WX x H' | .bad=>False)->wi σ H R)
 (g2:∀ P0 P σ H Q ρ v d,An X.K P0 P H σ ρ->BL X.K (del H P) v d->gG X.K P0 P H Q (gt d ρ)->gg v σ H Q)
 (t2:∀ s H' C ex P0 P σ H Q ρ,An X.K P0 P H σ ρ->gT (fun _ _=>False) H Q (ft ρ)->tc s H' C ex σ H Q)
 (e2:∀ s H' C ex P0 P σ H Q ρ,An X.K P0 P H σ ρ->gV X.K (fun _ _=>False) (Lv true P0 P) H Q (fe ρ)->te s H' C ex σ H Q) {Q:VK}
 (E:An X.K P0 P H σ ρ) (h:XX X.K WX P H Q ((fi ρ).bind fun ds=>if ds.length<=1000 then Js (B8 gt ft fe ds (BA μ ρ)) else .bad)):Ue wi μ gg tc te σ H Q:=by
 refine i2 P0 P σ H _ ρ E ?_
 cases q:fi ρ with
 |bad=>rw[q] at h;exact h
 |ex x=>rw[q] at h;exact h
 |ok ds =>
  rw[q] at h
  simp only[M.A8] at h
  by_cases hd:¬ ds.length<=1000
  ·rw[if_neg hd] at h;exact h.elim
  have hd:ds.length<=1000:=by omega
  rw[if_pos hd] at h
  intro J H1 s1 ok s C ex
  cases qc:B8 gt ft fe ds (BA μ ρ) with
  |bad=>rw[qc] at h;exact h.elim
  |ex x=>rw[qc] at h;exact h.elim
  |ok total =>
   rw[qc] at h
   unfold Js at h
   dsimp only at h
   have E1:=E.same s1
   refine⟨fun i m ys H2=>m=ds.length - i/\i<=ds.length/\ys.length<=i/\Ad H1 H2/\∃ es rest,Ah X.K (del H2 P) ys es/\B8 gt ft fe (ds.drop i) (BA μ ρ)=.ok rest/\es++rest=total,
    ⟨ds.length,by simp,zX _,zA _,Ad.refl _,[],total,.nil,by rw[List.drop_zero];exact qc,rfl⟩,?_⟩
   rintro i m ys H2 ⟨rfl,hi,hy,s2,es,rest,f7,aq,bo⟩
   by_cases aj:i < ds.length
   ·refine .inr ⟨ok.go i P H2 s2.del aj,Nat.lt_of_le_of_lt hy (AG (by omega)),fun bD H'=>i + 1<=ds.length/\bD.length<=i + 1/\Ad H1 H'/\∃ es rest,Ah X.K (del H' P) bD es/\B8 gt ft fe (ds.drop (i + 1)) (BA μ ρ)=.ok rest/\es++rest=total,fun bD H' hq=>⟨ds.length - (i + 1),by omega,rfl,hq.1,hq.2.1,hq.2.2.1,hq.2.2.2⟩,fun v H3 y=>?_⟩
    have E2:=E1.same s2
    obtain⟨s3,hv⟩:=ok.gN i P H2 v H3 ds[i] s2.del E2.Cp (zq aj) y
    rw[Jb aj,B8] at aq
    have E3:=(E2.same s3).block μ
    refine g2 P0 P _ H3 _ (BA μ ρ) v ds[i] E3 hv ?_
    cases q1:gt ds[i] (BA μ ρ) with
    |bad=>rw[q1] at aq;cases aq
    |ex x=>rw[q1] at aq;cases aq
    |ok ρ1 =>
     rw[q1] at aq
     dsimp only at aq
     intro σ4 E4
     refine t2 s H1 C ex P0 P σ4 H3 _ ρ1 E4 ?_
     cases q2:ft ρ1 with
     |bad=>rw[q2] at aq;cases aq
     |ex x=>rw[q2] at aq;cases aq
     |ok k =>
      rw[q2] at aq
      dsimp only at aq
      intro H5 s5
      cases k with
      |false =>
       simp only[zF,if_false] at aq ⊢
       exact⟨aj,by omega,(s2.trans s3).trans s5,es,rest,(f7.mono s3.del).mono s5.del,aq,bo⟩
      |true =>
       simp only[if_true] at aq ⊢
       refine e2 s H1 C ex P0 P σ4 H5 _ ρ1 (E4.same s5) ?_
       cases q3:fe ρ1 with
       |bad=>rw[q3] at aq;cases aq
       |ex x=>rw[q3] at aq;cases aq
       |ok y' =>
        rw[q3] at aq
        dsimp only at aq
        cases q4:B8 gt ft fe (ds.drop (i + 1)) (BA μ ρ) with
        |bad=>rw[q4] at aq;cases aq
        |ex x=>rw[q4] at aq;cases aq
        |ok nr =>
         rw[q4] at aq
         cases aq
         intro w H6 s6 hw
         refine⟨aj,by rw[zL,za3];omega,((s2.trans s3).trans s5).trans s6,es++[y'],nr,(((f7.mono s3.del).mono s5.del).mono s6.del).snoc hw,rfl,?_⟩
         rw[zai];exact bo
   ·have e:i=ds.length:=by omega
    subst e
    rw[List.drop_length,B8] at aq
    cases aq
    rw[yH] at bo
    subst bo
    exact .inl ⟨ok.stop _ P H2 s2.del (zA _),fun D0 hn=>h.Kv (s1.trans s2) f7 D0 hn⟩
theorem Cs {scope:Scope}{NB:List Str}{ifs:List Expr}{elt:Expr}{fe:Ab->M D}(μ:List (Option Nat)) (hc:X.calm=true) (hi:DI X WX tg iter fi) (aG:J3 scope X.env.scope=true) (bJ:Pf X.N NB scope μ=true) (hg:pQ X scope NB μ tg gt)
 (ht:∀ s H C ex,pR (blockOf X s H scope C NB ex) ifs ft) (he:∀ s H C ex,DE (blockOf X s H scope C NB ex) (fun _ _=>False) true elt fe) (hs:∀ x,foldedSetIterable iter X.env x=pure x:=by intro _;rfl) :
 DN X WX (.ListComp elt [⟨tg,iter,ifs,0⟩] scope pos) (fun ρ=>(fi ρ).bind fun ds=>if ds.length<=1000 then Js (B8 gt ft fe ds (BA μ ρ)) else .bad):=by
 obtain⟨wi,i1,i2⟩:=hi
 obtain⟨gg,g1,gk,g2⟩:=hg
 refine⟨_,ZQ hc i1 aG bJ gk (fun s H C ex=>⟨g1 s H C ex,(zb (ht s H C ex)).1,(zb (he s H C ex)).1⟩) hs,fun P0 P σ H Q ρ E h=>?_⟩
 exact Y2 i2 g2 (fun s H' C ex P0 P σ H Q ρ E h=>(zb (ht s H' C ex)).2 P0 P σ H Q ρ E h) (fun s H' C ex P0 P σ H Q ρ E h=>(zb (he s H' C ex)).2 P0 P σ H Q ρ E h) E h
theorem Y3 {scope:Scope}{NB:List Str}{ifs:List Expr}{elt:Expr}{fe:Ab->M D}(i:Nat){x:Str}{px aw:Pos}(μ:List (Option Nat)) (hN:X.N.Nodup) (jd:X.N[i]? =some x) (hx:Loc X.env.scope x) (hc:X.calm=true) (hi:DI X WX tg iter fi) (aG:J3 scope X.env.scope=true) (bJ:Pf X.N NB scope μ=true) (hg:pQ X scope NB μ tg gt)
 (ht:∀ s H C ex,pR (blockOf X s H scope C NB ex) ifs ft) (he:∀ s H C ex,DE (blockOf X s H scope C NB ex) (fun _ _=>False) true elt fe)
 (bL:swapsWith (.ListComp elt [⟨tg,iter,ifs,0⟩] scope pos) (some (.Name x px)) aw.line X.env=pure true:=by rfl) (hs:∀ x,foldedSetIterable iter X.env x=pure x:=by intro _;rfl) (hf:X.fn x=true\/X.env.scope.names.lookup x=some .local:=by first|exact .inl rfl|exact .inr rfl|assumption) :
 DS X WX (.Assign [.Name x px] (.ListComp elt [⟨tg,iter,ifs,0⟩] scope pos) aw) (fun ρ=>(Sq ((fi (EC ρ)).bind fun ds=>if ds.length<=1000 then Js (B8 gt ft fe ds (BA μ (EC ρ))) else .bad)).bind (Rl i ρ)):=by
 obtain⟨wi,i1,i2⟩:=hi
 obtain⟨gg,g1,gk,g2⟩:=hg
 refine⟨_,Ug hN jd hx hc i1 aG bJ gk (fun s H C ex=>⟨g1 s H C ex,(zb (ht s H C ex)).1,(zb (he s H C ex)).1⟩) bL hs hf,fun P0 P σ H Z ρ E h=>?_⟩
 refine Y2 (P0:=P0) (P:=P0) i2 g2 (fun s H' C ex P0 P σ H Q ρ E h=>(zb (ht s H' C ex)).2 P0 P σ H Q ρ E h) (fun s H' C ex P0 P σ H Q ρ E h=>(zb (he s H' C ex)).2 P0 P σ H Q ρ E h) E.low ?_
 dsimp only at h
 revert h
 cases ((fi (EC ρ)).bind fun ds=>if ds.length<=1000 then Js (B8 gt ft fe ds (BA μ (EC ρ))) else .bad) with
 |bad=>exact fun h=>h
 |ex y=>exact fun h H' s=>h H' P (E.tr s)
 |ok t =>
  unfold Sq
  simp only[M.A8]
  by_cases hf:GD t=true
  ·rw[if_pos hf]
   exact fun h v fp H' s hn nd o=>iC E s hn nd (o.clean (Ku (E.same s).Cp o) hf) h
  ·rw[if_neg hf];exact fun h=>h.elim
end
end L2
namespace L2
open PySem PySem.Spec PyProof.Rows
noncomputable def tJ (K:za) (WX:Str->Hp->Prop) (P:Addr->Prop) (p:Addr) (fp:List Addr) (H:Hp) (Q:VK):M (OT×OT)->Prop
 | .ok (t,r)=>∀ v H' P' ai fr,(∀ a,P a->a∉fp->P' a/\H' a=H a)->(∀ a,P' a->Dp H' a)->Ad (del H P) (del H' P')->C4 K H' P' (.ref p) t ai->ai.Nodup->C4 K H' P' v r fr->fr.Nodup->(∀ a∈fr,a∉ai)->
  (∀ a∈ai,P' a/\(P a->a∈fp))->(∀ a∈fr,P' a/\(P a->a∈fp))->Q v H'
 | .ex _=>False
 | .bad=>False
noncomputable def Oy (K:za) (n:Nat) (F:OT->List D->M (OT×OT)):Sp:=fun vs H Q E=>vs.length=n/\∃ P p t fp rest a5,vs=.ref p::rest/\(∀ a,P a->Dp H a)/\(∀ a∈fp,P a)/\fp.Nodup/\C4 K H P (.ref p) t fp/\Ah K (del H P) rest a5/\tJ K (D3 K E) P p fp H Q (F t a5)
noncomputable def CW (N:List Str) (t:OT) (a5:List D):Ab:=some (toCl (some 0) t)::(a5.map (fun d=>some (.val d))++zv (N.length - (a5.length + 1)) none)
noncomputable def GF (ρ:Ab):Option OT:=match ρ[0]? with
 |some (some c)=>(match treeOf c with|some (some 0,t)=>some t|_=>none)
 |_=>none
noncomputable def Ei (m:M Out):M (OT×OT):=match m with
 | .ok (.next ρ)=>(match GF ρ with|some t=>.ok (t,.sh .AA)|none=>.bad)
 | .ok (.Fe r ρ)=>(match GF ρ with|some t=>.ok (t,r)|none=>.bad)
 |_=>.bad
theorem W0 (p:Option Nat) (t:OT):Iv (toCl p t)=true:=by
 unfold toCl
 split
 ·rename_i ts
  cases q:Eh ts with
  |none=>rfl
  |some ds=>cases p<;>rfl
 ·rfl
theorem Jt {K:za}{P:Addr->Prop}{H:Hp}{N:List Str}{p:Addr}{t:OT}{fp:List Addr}{rest:List V}{a5:List D}(ht:∀ a,P a->Dp H a) (hp:∀ a∈fp,P a) (nd:fp.Nodup) (o:C4 K H P (.ref p) t fp) (h:Ah K (del H P) rest a5) :
 An K ⟨fun a=>P a/\a∉fp,fun _=>p⟩ P H (start N (.ref p::rest)) (CW N t a5):=by
 have hl:=h.length
 have key:∀(i:Nat) (c:Cl),(a5.map (fun d=>some (Cl.val d))++zv (N.length - (a5.length + 1)) none)[i]? =some (some c)->∃ d,a5[i]? =some d/\c=.val d:=fun i c e=>by
  by_cases hi:i < a5.length
  ·rw[yV (by simpa using hi),zD] at e
   cases q:a5[i]? with
   |none=>rw[q] at e;cases e
   |some d=>rw[q] at e;cases e;exact⟨d,rfl,rfl⟩
  ·rw[zad (by simpa using hi),za7] at e
   split at e<;>cases e
 have uR:(start N (.ref p::rest))[0]? =some (some (.ref p)):=by unfold start;rfl
 refine⟨fun a h=>h.1,ht,fun i d e=>?_,fun i c e io=>?_,fun i j c c' v v' fp ai e1 e2 _ _ o1 o2 ae=>?_,?_,fun i c n e wJ=>?_⟩
 rotate_left 4
 ·cases i with
  |zero=>exact uR
  |succ i =>
   obtain⟨d',q,z⟩:=key i _ (by unfold CW at e;simpa using e)
   cases z
   cases wJ
 ·cases i with
  |zero =>
   have e':some (toCl (some 0) t)=some (.val d):=by simpa [CW] using e
   have:=W0 (some 0) t
   rw[zI e'] at this
   cases this
  |succ i =>
   obtain⟨d',q,z⟩:=key i _ (by unfold CW at e;simpa using e)
   cases z
   obtain⟨v,hv,hd⟩:=h.get q
   refine⟨v,?_,hd⟩
   unfold start
   rw[zg,zbc,zS,yV (by rw[zc];exact (zy.mp hv).1),zD,hv]
   rfl
 ·cases i with
  |zero =>
   have e':toCl (some 0) t=c:=by simpa [CW] using e
   subst e'
   exact⟨_,fp,uR,Dl.toCl o,fun a ha=>⟨hp a ha,fun z=>z.2 ha⟩,nd⟩
  |succ i =>
   obtain⟨d',q,z⟩:=key i _ (by unfold CW at e;simpa using e)
   cases z
   cases io
 ·cases i with
  |zero =>
   cases j with
   |zero=>exact (ae rfl).elim
   |succ j =>
    obtain⟨d',q,z⟩:=key j _ (by unfold CW at e2;simpa using e2)
    cases z
    exact o2.elim
  |succ i =>
   obtain⟨d',q,z⟩:=key i _ (by unfold CW at e1;simpa using e1)
   cases z
   exact o1.elim
 ·unfold start CW
  simp[hl]
section
variable {P:Program}{w:World}{K:za}{mg:Str->Option Value}{base:Heap}
theorem LD {P0:EA}{P':Addr->Prop}{H':Hp}{σ':St}{ρ:Ab}{t:OT}(E:An K P0 P' H' σ' ρ) (h:GF ρ=some t):∃ c ai,ρ[0]? =some (some c)/\σ'[0]? =some (some (.ref (P0.g 0)))/\Dl K H' P' c (.ref (P0.g 0)) ai/\C4 K H' P' (.ref (P0.g 0)) t ai/\ai.Nodup/\∀ a∈ai,P' a/\¬ P0 a:=by
 unfold GF at h
 split at h
 ·rename_i c e
  split at h
  ·rename_i t' e2
   cases h
   have io:Iv c=true:=by cases c<;>first|rfl|cases e2
   obtain⟨v,fp,k1,k2,k3,k4⟩:=E.ows 0 c e io
   have:=E.pin 0 c 0 e (IC e2)
   rw[k1] at this
   cases this
   exact⟨c,fp,e,k1,k2,k2.toT e2,k4,k3⟩
  ·cases h
 ·cases h
theorem lI {x qual:Str}{st:Stmt}{f:Addr}{fd:FuncData}{N ps:List Str}{k:Nat}(F:WD K x qual st f fd) (S:Ae N ps (A3 st)) (g:Ab->M Out)
 (hb:∀(B2:Value) (A:Around) (outer:List Env) (s:Shared) (H:Hp) (E:XK),BJ k (A.deeper (envOfC qual (A3 st) s.heap.objs.size f B2))->So (Ut P w K mg base N qual (A3 st) f B2 A outer s H E) (D3 K E) (AB st) g) :
 Dn P w K mg base (SY P w base) (k + 1) f fd ps (Oy K ps.length fun t a5=>Ei (g (CW N t a5))):=by
 obtain⟨oc,od,kV,doc,pm,an,B2,ct,Sn,rfl,lk,bz⟩:=F.ex
 refine Ua lk bz S (fun vs H Q E h=>h.1) fun A outer s H vs Q E hr h=>?_
 obtain⟨hl,P',p,t,fp,rest,a5,rfl,ht,hp,nd,ho,hv,hq⟩:=h
 obtain⟨tt,h1,h2⟩:=hb B2 A outer s H E hr
 refine⟨tt,h1,h2 ⟨fun a=>P' a/\a∉fp,fun _=>p⟩ P' _ H _ _ (Jt ht hp nd ho hv) ?_⟩
 dsimp only at hq
 revert hq
 cases g (CW N t a5) with
 |bad=>exact fun h=>h.elim
 |ex x=>exact fun h=>h.elim
 |ok o =>
  have sub:∀ {P2:Addr->Prop} {H2:Hp} {σ2:St} {ρ:Ab},An K ⟨fun a=>P' a/\a∉fp,fun _=>p⟩ P2 H2 σ2 ρ->∀ a,P2 a/\¬ (P' a/\a∉fp)->P2 a/\(P' a->a∈fp):=fun E a ha=>⟨ha.1,fun z=>zac fun w=>ha.2 ⟨z,w⟩⟩
  cases o with
  |ret d=>exact fun h=>h.elim
  |CH d=>exact fun h=>h.elim
  |next ρ =>
   intro hq σ' H' P2 t2 E2
   unfold Ei at hq
   dsimp only at hq
   split at hq
   ·rename_i t' e
    obtain⟨c,ai,k1,k2,k3,k4,k5,k6⟩:=LD E2 e
    exact hq .AA H' P2 ai [] (fun a ha hn=>⟨E2.sub a ⟨ha,hn⟩,t2.2 a ⟨ha,hn⟩⟩) E2.Cp t2.1 k4 k5 (.sh .AA) za1 (fun a ha=>by cases ha) (fun a ha=>sub E2 a (k6 a ha)) (fun a ha=>by cases ha)
   ·exact hq.elim
  |Fe r ρ =>
   intro hq v fr σ' H' P2 t2 E2 o2 b7 hf
   unfold Ei at hq
   dsimp only at hq
   split at hq
   ·rename_i t' e
    obtain⟨c,ai,k1,k2,k3,k4,k5,k6⟩:=LD E2 e
    exact hq v H' P2 ai fr (fun a ha hn=>⟨E2.sub a ⟨ha,hn⟩,t2.2 a ⟨ha,hn⟩⟩) E2.Cp t2.1 k4 k5 o2 b7 (fun a ha=>(hf a ha).2.2 0 c _ ai k1 k2 k3) (fun a ha=>sub E2 a (k6 a ha)) (fun a ha=>sub E2 a ⟨(hf a ha).1,(hf a ha).2.1⟩)
   ·exact hq.elim
  |brk ρ=>exact fun h=>h.elim
  |cont ρ=>exact fun h=>h.elim
end
structure Oz (P:Program) (w:World) (K:za) (mg:Str->Option Value) (base:Heap) (x:Str) (k n:Nat) (F:OT->List D->M (OT×OT)):Prop where
 ex:∃ fa fd ps,Dn P w K mg base (SY P w base) k fa fd ps (Oy K n F)/\mg x=some (.ref fa)/\zQ K (.ref fa)=true/\Binds K fd ps []
theorem Ro {P:Program}{w:World}{K:za}{mg:Str->Option Value}{base:Heap}{x:Str}{st:Stmt}{N ps:List Str}{k n:Nat}(T:Ak K mg x st ps) (S:Ae N ps (A3 st)) (g:Ab->M Out)
 (hb:∀(f:Addr) (B2:Value) (A:Around) (outer:List Env) (s:Shared) (H:Hp) (E:XK),BJ k (A.deeper (envOfC x (A3 st) s.heap.objs.size f B2))->So (Ut P w K mg base N x (A3 st) f B2 A outer s H E) (D3 K E) (AB st) g) (hn:ps.length=n:=by rfl) :
 Oz P w K mg base x (k + 1) n (fun t a5=>Ei (g (CW N t a5))):=by
 obtain⟨f,fd,F,hm,hB⟩:=T.ex
 subst hn
 exact⟨⟨f,fd,ps,lI F S g (hb f),hm,F.kp,hB⟩⟩
section
variable {X:Cx}{WX:Str->Hp->Prop}{c:Bool}{P0:EA}{P:Addr->Prop}{H:Hp}{σ:St}{ρ:Ab}{a b e:Expr}{f g:Ab->M D}{fn:Ab->M OT}{fp:Ab->M (List Nat)}{pos:Pos}{i:Nat}{es:List Expr}{fs:Ab->M (List D)}
theorem An.qC {K:za}{P':Addr->Prop}{H':Hp}{π:List Nat}{v1 v2:V}{t1 u r:OT}{a7 fu fr:List Addr}(E:An K P0 P H σ ρ) (pl:Bl K P H σ ρ i π v1 t1) (o:C4 K H P v1 t1 a7) (hs:∀ a,P a->a∉a7->P' a/\H' a=H a) (ht:∀ a,P' a->Dp H' a) (sm:Ad (del H P) (del H' P'))
 (o':C4 K H' P' v1 u fu) (nd:fu.Nodup) (hf:∀ a∈fu,P' a/\(P a->a∈a7)) (or:C4 K H' P' v2 r fr) (yy:fr.Nodup) (hr:∀ a∈fr,P' a/\(P a->a∈a7)) (dj:∀ a∈fr,a∉fu) :
 ∃ c p t,ρ[i]? =some (some c)/\treeOf c=some (p,t)/\An K P0 P' H' σ (ρ.set i (some (toCl p (EZ t π u))))/\Tr P0 P H P' H' /\
  ∀ a∈fr,P' a/\¬ P0 a/\∀(j:Nat) c' v fq,(ρ.set i (some (toCl p (EZ t π u))))[j]? =some (some c')->σ[j]? =some (some v)->Dl K H' P' c' v fq->a∉fq:=by
 obtain⟨v0,c,p,t,h1,h2,h3,h4⟩:=pl.ex
 have io:Iv c=true:=by cases c<;>first|rfl|cases h2
 obtain⟨w,fp,k1,k2,k3,k4⟩:=E.ows i c h1 io
 rw[h3] at k1;cases k1
 have ot:=k2.toT h2
 obtain⟨fz,oz,kz,_⟩:=ot.part h4
 have:=oz.Cq o;subst this
 obtain⟨ai,q1,q2,q3⟩:=ot.put sm h4 o o' (fun a ha hn=>(hs a (k3 a ha).1 hn).2) k4 nd (fun a ha hb=>(hf a ha).2 (k3 a hb).1)
 have uS:∀(j:Nat) c' v' fq,i≠j->ρ[j]? =some (some c')->σ[j]? =some (some v')->Dl K H P c' v' fq->∀ a∈fq,P a/\a∉fp:=fun j c' v' fq ae g1 g2 g3 a ha=>by
  have jo:Iv c'=true:=by cases c'<;>first|rfl|exact g3.elim
  obtain⟨w',on,m1,m2,m3,m4⟩:=E.ows j c' g1 jo
  rw[g2] at m1;cases m1
  have:=m2.Cq g3;subst this
  exact⟨(m3 a ha).1,E.apart j i c' c v' v0 on fp g1 h1 g2 h3 g3 k2 (yE ae) a ha⟩
 have key:=E.pN (P':=P') (H':=H') (i:=i) (v:=v0) (c:=toCl p (EZ t π u)) (fp:=ai) (fun a ha=>(hs a (E.sub a ha) fun z=>(k3 a (kz a z)).2 ha).1) ht sm (fun j c' v' fq ae g1 g2 g3 a ha=>?_) (Dl.toCl q1) (fun a ha=>?_) q2 (fun n z=>by rw[IB] at z;subst z;have:=E.pin i c n h1 (IC h2);rw[h3] at this;cases this;rfl)
 ·rw[Kq h3] at key
  refine⟨c,p,t,h1,h2,key,⟨sm,fun a ha=>(hs a (E.sub a ha) fun z=>(k3 a (kz a z)).2 ha).2⟩,fun a ha=>⟨(hr a ha).1,fun z=>(k3 a (kz a ((hr a ha).2 (E.sub a z)))).2 z,fun j c' v fq g1 g2 g3 hb=>?_⟩⟩
  rcases get_set g1 with ⟨rfl,hl,z⟩|⟨ae,g1⟩
  ·cases z
   rw[h3] at g2;cases g2
   rw[g3.Cq (Dl.toCl q1)] at hb
   rcases q3 a hb with y|y
   ·exact dj a ha y
   ·exact y.2 ((hr a ha).2 (k3 a y.1).1)
  ·have jo:Iv c'=true:=by cases c'<;>first|rfl|exact g3.elim
   obtain⟨w',on,m1,m2,m3,m4⟩:=E.ows j c' g1 jo
   rw[g2] at m1;cases m1
   have o2:=uS j c' v on ae g1 g2 m2
   have mv:=m2.move sm fun b aE=>(hs b (o2 b aE).1 fun z=>(o2 b aE).2 (kz b z)).2
   rw[g3.Cq mv] at hb
   exact (o2 a hb).2 (kz a ((hr a ha).2 (o2 a hb).1))
 ·have o2:=uS j c' v' fq ae g1 g2 g3 a ha
  have hk:=hs a o2.1 fun z=>o2.2 (kz a z)
  refine⟨hk.2,fun z=>?_,hk.1⟩
  rcases q3 a z with y|y
  ·exact o2.2 (kz a ((hf a y).2 o2.1))
  ·exact o2.2 y.1
 ·rcases q3 a ha with y|y
  ·exact⟨(hf a y).1,fun z=>(k3 a (kz a ((hf a y).2 (E.sub a z)))).2 z⟩
  ·exact⟨(hs a (k3 a y.1).1 y.2).1,(k3 a y.1).2⟩
end
end L2
namespace L2
open PySem PySem.Spec PyProof.Rows
noncomputable def IE (i:Nat) (ρ:Ab) (π:List Nat) (u:OT):M Out:=match ρ[i]? with
 |some (some c)=>(match treeOf c with|some (p,t)=>.ok (.next (ρ.set i (some (toCl p (EZ t π u)))))|none=>.bad)
 |_=>.bad
noncomputable def L0 (i:Nat) (ρ:Ab) (π:List Nat):M (List OT):=match UH i ρ π with | some (.lst ts)=>.ok ts | _=>.bad
theorem Ju {i:Nat}{ρ:Ab}{π:List Nat}{u:OT}{c:Cl}{p:Option Nat}{t:OT}(h:ρ[i]? =some (some c)) (ht:treeOf c=some (p,t)):IE i ρ π u=.ok (.next (ρ.set i (some (toCl p (EZ t π u))))):=by
 unfold IE
 simp only[h,ht]
section
variable {X:Cx}{WX:Str->Hp->Prop}{c:Bool}{P0:EA}{P:Addr->Prop}{H:Hp}{σ:St}{ρ:Ab}{a b e:Expr}{f g:Ab->M D}{fn:Ab->M OT}{fp:Ab->M (List Nat)}{pos:Pos}{i:Nat}{es:List Expr}{fs:Ab->M (List D)}
noncomputable def eC {α:Type}(o:Option α):M α:=match o with | some x=>.ok x | none=>.bad
noncomputable def Sr (i:Nat) (ρ:Ab) (π:List Nat):M (List D):=match UH i ρ π with | some (.lst ts)=>(match Eh ts with | some ds=>.ok ds | none=>.bad) | _=>.bad
theorem Bl.shl {K:za}{π:List Nat}{v:V}{t1:OT}{ds:List D}(pl:Bl K P H σ ρ i π v t1) (E:An K P0 P H σ ρ) (h:Sr i ρ π=.ok ds):t1=.lst (ds.map .sh)/\∃ l xs,v=.ref l/\H l=some (.lst xs)/\Ah K (del H P) xs ds:=by
 unfold Sr at h
 rw[pl.at] at h
 split at h
 ·rename_i uV e
  split at h
  ·rename_i jh e'
   cases e
   cases h
   have z:=D5 e'
   subst z
   obtain⟨a7,o1,hp,nd⟩:=pl.own E
   cases o1 with
   |lst hh hr=>exact⟨rfl,_,_,rfl,hh,hr.lE.2⟩
  ·cases h
 ·cases h
theorem Y4 {π:List Nat}{x:Str}(h:Sr i ρ π=.ex x):False:=by
 unfold Sr at h
 split at h
 ·split at h<;>cases h
 ·cases h
theorem An.qD {K:za}{π:List Nat}{l:Addr}{xs ys:List V}{ds es:List D}(E:An K P0 P H σ ρ) (pl:Bl K P H σ ρ i π (.ref l) (.lst (ds.map .sh))) (hH:H l=some (.lst xs)) (o:Ah K (del H P) xs ds) (o':Ah K (del H P) ys es) :
 ∃ c p t,ρ[i]? =some (some c)/\treeOf c=some (p,t)/\An K P0 P (upd H l (.lst ys)) σ (ρ.set i (some (toCl p (EZ t π (.lst (es.map .sh))))))/\Tr P0 P H P (upd H l (.lst ys)) :=
 E.tI pl hH o.ows o'.ows za1 (fun z=>by cases z) (fun a ha=>by cases ha)
noncomputable def eE (t:OT):M (List D):=match t with | .lst us=>eC (Eh us) | _=>.bad
theorem Y5 (ha:DP X WX a i fp) (he:DN X WX e fn){apos ad:Pos}(hs:starEach [e] X.env=[(false,eval e X.env)]:=by rfl)
 (bL:swapsWith (.Call (.Attribute a "extend" apos) [e] [] ad) none pos.line X.env=pure false:=by rfl)
 (a8:attributeBase a "extend" X.env (eval a X.env)=eval a X.env:=by rfl)
 (aV:((backTo ad (starEach [e] X.env)).all (fun x => !x.1) && (backToKw ad (keywordEach [] X.env)).all (fun x=>x.1.isSome) && decide (([e]:List Expr).length + ([]:List Keyword).length + (if ([]:List Keyword).isEmpty then 0 else 1) < 30))=true:=by rfl)
 (a9:(apos.endLine == ad.line)=true:=by rfl) (ar:(backTo ad (starEach [] X.env)).any (·.1)=false:=by rfl) :
 DS X WX (.Expr (.Call (.Attribute a "extend" apos) [e] [] ad) pos) (fun ρ=>(fp ρ).bind fun π=>(Sr i ρ π).bind fun ds=>((fn ρ).bind eE).bind fun es=>if ds.length + es.length<=1000 then IE i ρ π (.lst ((ds++es).map .sh)) else .bad):=by
 obtain⟨ta,a1,a2⟩:=ha
 obtain⟨te,e1,e2⟩:=he
 refine⟨_,Hi (QO zal PySem.F.slot_list_extend PySem.F.type_list_extend Vu a1 (Bi e1 Cj hs) a8 aV a9 hs ar) bL,fun P0 P σ H Z ρ E h=>?_⟩
 dsimp only at h
 refine a2 P0 P σ H _ ρ E ?_
 cases q:fp ρ with
 |bad=>rw[q] at h;exact h
 |ex x=>rw[q] at h;exact fun H' s=>h H' P (E.tr s)
 |ok π =>
  rw[q] at h
  simp only[M.A8] at h
  intro v t1 H1 s1 pl
  have E1:=E.same s1
  cases q1:Sr i ρ π with
  |bad=>rw[q1] at h;exact h.elim
  |ex x=>exact (Y4 q1).elim
  |ok ds =>
   rw[q1] at h
   simp only[M.A8] at h
   obtain⟨rfl,l,xs,rfl,hl,ol⟩:=pl.shl E1 q1
   refine⟨.inl ⟨rfl,xs,.of hl⟩,e2 P0 P σ H1 _ ρ E1 ?_⟩
   cases q2:fn ρ with
   |bad=>rw[q2] at h;exact h
   |ex y=>rw[q2] at h;exact fun H' s=>h H' P ((E.tr s1).trans (E1.tr s))
   |ok t =>
    rw[q2] at h
    simp only[M.A8] at h
    intro w fw H2 s2 n2 b7 o2
    have sm:=Dd (P:=P) s2 n2
    have E2:An X.K P0 (PU P fw) H2 σ ρ:=E1.more s2 MG (Ku (E1.same s2).Cp o2) sm
    cases t with
    |lst us =>
     simp only[eE] at h
     cases q3:Eh us with
     |none=>rw[q3] at h;exact h.elim
     |some es =>
      rw[q3] at h
      simp only[eC,M.A8] at h
      have z:=D5 q3
      subst z
      cases o2 with
      |lst hb hr =>
       by_cases hz:ds.length + es.length<=1000
       ·rw[if_pos hz] at h
        have he:=hr.lE.2
        have jp:=ol.mono sm
        have bf:=s2 _ _ hl
        obtain⟨c,p,t0,g1,g2,E3,t3⟩:=E2.qD (pl.more sm s2) bf jp (jp.append he)
        rw[Ju g1 g2] at h
        exact⟨l,_,xs,_,rfl,rfl,bf,hb,yQ (AG (by rw[ol.length,he.length];exact hz)),h _ _ _ (((E.tr s1).trans (E1.tG s2 n2)).trans t3) E3⟩
       ·rw[if_neg hz] at h;exact h.elim
    |_=>exact h.elim
end
end L2
namespace L2
open PySem PySem.Spec PyProof.Rows
noncomputable def gX (K:za) (WX:Str->Hp->Prop) (P0:EA) (P:Addr->Prop) (H:Hp) (σ:St) (Q:VK):M (Ab×OT)->Prop
 | .ok (ρ,t)=>∀ v fp H' P',Tr P0 P H P' H'->An K P0 P' H' σ ρ->C4 K H' P' v t fp->fp.Nodup->(∀ a∈fp,P' a/\¬ P0 a/\∀(j:Nat) c v' fq,ρ[j]? =some (some c)->σ[j]? =some (some v')->Dl K H' P' c v' fq->a∉fq)->Q v H'
 | .ex x=>∀ H' P',Tr P0 P H P' H'->WX x H'
 | .bad=>False
noncomputable def DX (X:Cx) (WX:Str->Hp->Prop) (e:Expr) (f:Ab->M (Ab×OT)):Prop :=
 ∃ t,PE X e t/\∀ P0 P σ H Q ρ,An X.K P0 P H σ ρ->gX X.K WX P0 P H σ Q (f ρ)->t σ H Q
noncomputable def Y6:OT->Bool
 | .sh _=>false
 |_=>true
noncomputable def Rp (i:Nat) (F:OT->List D->M (OT×OT)) (ρ:Ab) (π:List Nat) (a5:List D):M (Ab×OT):=match ρ[i]? with
 |some (some c)=>(match treeOf c with
  |some (p,t)=>(match Kt t π with
   |some t1=>if Y6 t1=true then (match F t1 a5 with | .ok (t2,r)=>.ok (ρ.set i (some (toCl p (EZ t π t2))),r)|_=>.bad) else .bad
   |none=>.bad)
  |none=>.bad)
 |_=>.bad
section
variable {X:Cx}{E:XK}{WX:Str->Hp->Prop}{c:Bool}{P0:EA}{P:Addr->Prop}{H:Hp}{σ:St}{ρ:Ab}{a b e:Expr}{f g:Ab->M D}{fn:Ab->M OT}{fx:Ab->M (Ab×OT)}{fp:Ab->M (List Nat)}{pos:Pos}{i:Nat}{es:List Expr}{fs:Ab->M (List D)}
theorem Y7 {F:OT->List D->M (OT×OT)}{π:List Nat}{a5:List D}{c:Cl}{p:Option Nat}{t t1 t2 r:OT}(h:ρ[i]? =some (some c)) (ht:treeOf c=some (p,t)) (hs:Kt t π=some t1) (hN:Y6 t1=true) (hF:F t1 a5=.ok (t2,r)):Rp i F ρ π a5=.ok (ρ.set i (some (toCl p (EZ t π t2))),r):=by
 unfold Rp
 simp only[h,ht,hs,hN,if_true,hF]
theorem Y8 {k n:Nat}{F:OT->List D->M (OT×OT)}{x:Str}{p:Pos}(xo:XCall X E) (G:Oz X.prog X.w X.K X.mg X.base x k n F) (hr:BJ k X.A) (hg:Gl X x) (hp:DP X (D3 X.K E) a i fp) (ha:DA X (D3 X.K E) true es fs) (hn:es.length + 1=n)
 (aU:(x == ("__debug__" : Str))=false:=by decide) (he:starEach (a::es) X.env=(false,eval a X.env)::starEach es X.env:=by rfl) (a4:(backTo pos (starEach es X.env)).any (·.1)=false:=by rfl) :
 DX X (D3 X.K E) (.Call (.Name x p) (a::es) [] pos) (fun ρ=>(fp ρ).bind fun π=>(fs ρ).bind fun a5=>Rp i F ρ π a5):=by
 obtain⟨fa,fd,ps,hF,hm,hk,hb⟩:=G.ex
 obtain⟨tp,p1,p2⟩:=hp
 obtain⟨ta,a1,a2,a3⟩:=ha
 refine⟨_,U8 hF hr hg hm hk hb .nil xo.call (Bi p1 a1 he) aU he a4,fun P0 P σ H Q ρ Ev h=>?_⟩
 dsimp only at h
 refine p2 P0 P σ H _ ρ Ev ?_
 cases q:fp ρ with
 |bad=>rw[q] at h;exact h
 |ex x=>rw[q] at h;exact fun H' s=>h H' P (Ev.tr s)
 |ok π =>
  rw[q] at h
  simp only[M.A8] at h
  intro v t1 H1 s1 pl
  have E1:=Ev.same s1
  refine a2 P0 P σ H1 _ ρ E1 ?_
  cases q2:fs ρ with
  |bad=>rw[q2] at h;exact h
  |ex y=>rw[q2] at h;exact fun H' s=>h H' P ((Ev.tr s1).trans (E1.tr s))
  |ok a5 =>
   rw[q2] at h
   simp only[M.A8] at h
   intro vs H2 s2 aI
   have E2:=E1.same s2
   have db:=pl.same s2
   show Oy X.K n F ((v::vs)++[]) H2 Q E
   rw[yH]
   obtain⟨v0,c,pp,t,g1,g2,g3,g4⟩:=db.ex
   unfold Rp at h
   simp only[g1,g2,g4.sub] at h
   by_cases hx:Y6 t1=true
   ·rw[if_pos hx] at h
    obtain⟨a7,o1,wK,gh⟩:=db.own E2
    have oq:∃ l,v=.ref l:=by
     cases o1 with
     |sh hv=>exact absurd hx (by simp[Y6])
     |lst _ _=>exact⟨_,rfl⟩
     |tup _ _=>exact⟨_,rfl⟩
     |dK _ _=>exact⟨_,rfl⟩
     |dT _ _=>exact⟨_,rfl⟩
     |ins _ _ _=>exact⟨_,rfl⟩
    obtain⟨l,rfl⟩:=oq
    refine⟨by rw[zo,aI.length,a3 ρ a5 q2];exact hn,P,l,t1,a7,vs,a5,rfl,E2.Cp,fun b hb=>(wK b hb).1,gh,o1,aI,?_⟩
    cases qF:F t1 a5 with
    |bad=>rw[qF] at h;exact h.elim
    |ex x=>rw[qF] at h;exact h.elim
    |ok z =>
    obtain⟨t2,r⟩:=z
    rw[qF] at h
    intro w H' P' fu fr k1 k2 k3 k4 k5 k6 k7 k8 k9 oy
    obtain⟨c',p',t',m1,m2,m3,m4,m5⟩:=E2.qC db o1 k1 k2 k3 k4 k5 k9 k6 k7 oy k8
    rw[g1] at m1;cases m1
    rw[g2] at m2;cases m2
    exact h w fr H' P' (((Ev.tr s1).trans (E1.tr s2)).trans m4) m3 k6 k7 m5
   ·rw[if_neg hx] at h;exact h.elim
theorem MM (he:DX X WX e fx) (hs:swapsWith e none pos.line X.env=pure false:=by rfl):DS X WX (.Expr e pos) (fun ρ=>(fx ρ).bind fun z=>.ok (.next z.1)):=by
 obtain⟨te,e1,e2⟩:=he
 refine⟨_,Hi e1 hs,fun P0 P σ H Z ρ E h=>?_⟩
 dsimp only at h
 refine e2 P0 P σ H _ ρ E ?_
 cases q:fx ρ with
 |bad=>rw[q] at h;exact h
 |ex x=>rw[q] at h;exact h
 |ok z=>rw[q] at h;exact fun v fp H' P' t E' o nd hf=>h σ H' P' t E'
end
end L2
namespace L2
open PySem PySem.Spec PyProof.Rows
noncomputable def G5 (i:Nat) (ρ:Ab) (π:List Nat):M (Bool×List D×List D):=match UH i ρ π with
 |some (.Bj b ks ts)=>(match Eh ts with|some vs=>.ok (b,ks,vs)|none=>.bad)
 |_=>.bad
noncomputable def putD (ks vs:List D) (k v:D):List D×List D:=if Lj ks k=true then (ks,ID ks vs k v) else (ks++[k],vs++[v])
section
variable {X:Cx}{E:XK}{WX:Str->Hp->Prop}{c:Bool}{P0:EA}{P:Addr->Prop}{H:Hp}{σ:St}{ρ:Ab}{a b e:Expr}{f g:Ab->M D}{fn:Ab->M OT}{fx:Ab->M (Ab×OT)}{fp:Ab->M (List Nat)}{pos:Pos}{i:Nat}{es:List Expr}{fs:Ab->M (List D)}
theorem Bl.Bj {K:za}{π:List Nat}{v:V}{t1:OT}{bl:Bool}{ks vs:List D}(pl:Bl K P H σ ρ i π v t1) (E:An K P0 P H σ ρ) (h:G5 i ρ π=.ok (bl,ks,vs)):t1=.Bj bl ks (vs.map .sh)/\∃ l xs,v=.ref l/\P l/\Ah K (del H P) xs vs/\C4 K H P (.ref l) (.Bj bl ks (vs.map .sh)) [l] /\
 ((bl=false/\∃ kvs,H l=some (.dK kvs)/\ks=(kvs.map fun kv=>Dk kv.1)/\xs=kvs.map yZ)\/(bl=true/\∃ kvs,H l=some (.dT kvs)/\ks=(kvs.map fun kv=>.tup (kv.1.map Dk))/\xs=kvs.map yZ)):=by
 unfold G5 at h
 rw[pl.at] at h
 split at h
 ·rename_i b' wI uV e
  split at h
  ·rename_i bg e'
   cases e
   cases h
   have z:=D5 e'
   subst z
   obtain⟨a7,o1,hp,nd⟩:=pl.own E
   generalize ht:OT.Bj bl ks (vs.map .sh)=t at o1
   cases o1 with
   |dK hh hr =>
    injection ht with h1 h2 h3
    subst h1 h2 h3
    obtain⟨rfl,hs⟩:=hr.lE
    exact⟨rfl,_,_,rfl,(hp _ ze).1,hs,.dK hh hr,.inl ⟨rfl,_,hh,rfl,rfl⟩⟩
   |dT hh hr =>
    injection ht with h1 h2 h3
    subst h1 h2 h3
    obtain⟨rfl,hs⟩:=hr.lE
    exact⟨rfl,_,_,rfl,(hp _ ze).1,hs,.dT hh hr,.inr ⟨rfl,_,hh,rfl,rfl⟩⟩
   |_=>cases ht
  ·cases h
 ·cases h
theorem Y9 {π:List Nat}{x:Str}(h:G5 i ρ π=.ex x):False:=by
 unfold G5 at h
 split at h
 ·split at h<;>cases h
 ·cases h
theorem An.lJ {K:za}{π:List Nat}{l:Addr}{t1 u:OT}{o':HO}(E:An K P0 P H σ ρ) (pl:Bl K P H σ ρ i π (.ref l) t1) (ot:C4 K H P (.ref l) t1 [l]) (hn:∀ xs,o'≠.tup xs/\∀ z,o'≠.Vj z (.tup xs)) (new:Ad (del H P) (del (upd H l o') P)->C4 K (upd H l o') P (.ref l) u [l]) :
 ∃ c p t,ρ[i]? =some (some c)/\treeOf c=some (p,t)/\An K P0 P (upd H l o') σ (ρ.set i (some (toCl p (EZ t π u))))/\Tr P0 P H P (upd H l o'):=by
 obtain⟨a7,o1,hp,_⟩:=pl.own E
 have:=o1.Cq ot;subst this
 have pP:P l:=(hp l ze).1
 have sd:del (upd H l o') P=del H P:=by
  funext b
  by_cases hb:P b
  ·rw[D2 hb,D2 hb]
  ·rw[Ax hb,Ax hb,Ag (fun z=>hb (by rw[z];exact pP))]
 have sm:Ad (del H P) (del (upd H l o') P):=by rw[sd];exact Ad.refl _
 refine E.qA pl ot (fun _ h=>h) (fun a h=>?_) sm (fun a ha hn=>Ag fun z=>hn (by rw[z];exact ze)) (new sm) (by simp) (fun a ha=>.inl ha)
 by_cases ha:a=l
 ·subst ha;exact⟨_,Ar,hn⟩
 ·unfold Dp;rw[Ag ha];exact E.Cp a h
theorem LF {n:Nat}(hu:X.A.units + n < cLine) (ha:DP X WX a i fp) (hk:DE X WX true b g) (hv:DE X WX true e f){pos':Pos}(hs:swapsWith e (some (.Subscript a b pos')) pos.line X.env=pure false:=by rfl) (hn:1<=n:=by decide) :
 DS X WX (.Assign [.Subscript a b pos'] e pos) (fun ρ=>(f ρ).bind fun v=>(fp ρ).bind fun π=>(g ρ).bind fun k=>(G5 i ρ π).bind fun z=>if keyOk z.1 k=true/\z.2.1.length < 1000 then IE i ρ π (.Bj z.1 (putD z.2.1 z.2.2 k v).1 ((putD z.2.1 z.2.2 k v).2.map .sh)) else .bad):=by
 obtain⟨ta,a1,a2⟩:=ha
 obtain⟨tk,k1,k2⟩:=hk
 obtain⟨tv,v1,v2⟩:=hv
 refine⟨_,ZJ (by omega) a1 k1 v1 hs,fun P0 P σ H Z ρ E h=>?_⟩
 dsimp only at h
 refine v2 P0 P σ H _ ρ E ?_
 cases q0:f ρ with
 |bad=>rw[q0] at h;exact h
 |ex x=>rw[q0] at h;exact fun H' s=>h H' P (E.tr s)
 |ok d =>
  rw[q0] at h
  simp only[M.A8] at h
  intro w H0 s0 hw
  have E0:=E.same s0
  refine a2 P0 P σ H0 _ ρ E0 ?_
  cases q:fp ρ with
  |bad=>rw[q] at h;exact h
  |ex x=>rw[q] at h;exact fun H' s=>h H' P ((E.tr s0).trans (E0.tr s))
  |ok π =>
   rw[q] at h
   simp only[M.A8] at h
   intro v t1 H1 s1 pl
   have E1:=E0.same s1
   refine k2 P0 P σ H1 _ ρ E1 ?_
   cases q2:g ρ with
   |bad=>rw[q2] at h;exact h
   |ex y=>rw[q2] at h;exact fun H' s=>h H' P (((E.tr s0).trans (E0.tr s1)).trans (E1.tr s))
   |ok k =>
    rw[q2] at h
    simp only[M.A8] at h
    intro y H2 s2 hy
    have E2:=E1.same s2
    have db:=pl.same s2
    have lq:=(hw.mono s1.del).mono s2.del
    have uW:=((E.tr s0).trans (E0.tr s1)).trans (E1.tr s2)
    cases q3:G5 i ρ π with
    |bad=>rw[q3] at h;exact h.elim
    |ex x=>exact (Y9 q3).elim
    |ok z =>
     obtain⟨bb,ks,vs⟩:=z
     rw[q3] at h
     simp only[M.A8] at h
     by_cases hc:keyOk bb k=true/\ks.length < 1000
     ·rw[if_pos hc] at h
      obtain⟨rfl,l,xs,rfl,hP,cg,ot,jq⟩:=db.Bj E2 q3
      have hK:=Fj hc.1
      rcases jq with ⟨rfl,kvs,hH,rfl,rfl⟩|⟨rfl,kvs,hH,rfl,rfl⟩
      ·cases hK with
       |k κ =>
        have ey:=hy.lG
        refine⟨l,_,rfl,.inl ⟨kvs,κ,hH,ey,AG (by have:=hc.2;rw[zc] at this;omega),rfl⟩,?_⟩
        have ba:∃ bg,(putD (kvs.map fun kv=>Dk kv.1) vs (Dk κ) d)=((putK kvs κ w).map (fun kv=>Dk kv.1),bg)/\Ah X.K (del H2 P) ((putK kvs κ w).map yZ) bg:=by
         unfold putD putK
         rw[MJ MH]
         by_cases hh:(kvs.any fun kv=>decide (kv.1=κ))=true
         ·rw[if_pos hh,if_pos hh]
          refine⟨_,by rw[Jo (fk:=Dk) MH],?_⟩
          rw[<-Jn (fk:=Dk) MH]
          exact Jp lq cg
         ·rw[if_neg hh,if_neg hh]
          refine⟨_,by rw[zK];rfl,?_⟩
          rw[zK]
          exact cg.snoc lq
        obtain⟨bg,e1,e2⟩:=ba
        obtain⟨c,p,t0,g1,g2,E3,t3⟩:=E2.lJ (o':=.dK (putK kvs κ w)) (u:=.Bj false ((putK kvs κ w).map fun kv=>Dk kv.1) (bg.map .sh)) db ot (fun _=>⟨fun z=>(by cases z),fun _ z=>by cases z⟩) (fun mv=>.dK Ar (e2.mono mv).ows)
        rw[e1,Ju g1 g2] at h
        exact h _ _ _ (uW.trans t3) E3
      ·cases hK with
       |t κ =>
        cases hy with
        |tup ht bf =>
         have ey:=Ah.keys κ bf
         subst ey
         refine⟨l,_,rfl,.inr ⟨kvs,κ,_,hH,rfl,(Am ht).2,AG (by have:=hc.2;rw[zc] at this;omega),rfl⟩,?_⟩
         have hf:∀ a b:List Key,Aw (.tup (a.map Dk)) (.tup (b.map Dk))=decide (a=b):=fun a b=>by simp only[Aw];exact LB a b
         have ba:∃ bg,(putD (kvs.map fun kv=>.tup (kv.1.map Dk)) vs (.tup (κ.map Dk)) d)=((putK kvs κ w).map (fun kv=>.tup (kv.1.map Dk)),bg)/\Ah X.K (del H2 P) ((putK kvs κ w).map yZ) bg:=by
          unfold putD putK
          rw[MJ (fk:=fun κ:List Key=>D.tup (κ.map Dk)) hf]
          by_cases hh:(kvs.any fun kv=>decide (kv.1=κ))=true
          ·rw[if_pos hh,if_pos hh]
           refine⟨_,by rw[Jo (fk:=fun κ:List Key=>D.tup (κ.map Dk)) hf],?_⟩
           rw[<-Jn (fk:=fun κ:List Key=>D.tup (κ.map Dk)) hf]
           exact Jp lq cg
          ·rw[if_neg hh,if_neg hh]
           refine⟨_,by rw[zK];rfl,?_⟩
           rw[zK]
           exact cg.snoc lq
         obtain⟨bg,e1,e2⟩:=ba
         obtain⟨c,p,t0,g1,g2,E3,t3⟩:=E2.lJ (o':=.dT (putK kvs κ w)) (u:=.Bj true ((putK kvs κ w).map fun kv=>.tup (kv.1.map Dk)) (bg.map .sh)) db ot (fun _=>⟨fun z=>(by cases z),fun _ z=>by cases z⟩) (fun mv=>.dT Ar (e2.mono mv).ows)
         rw[e1,Ju g1 g2] at h
         exact h _ _ _ (uW.trans t3) E3
     ·rw[if_neg hc] at h;exact h.elim
theorem Rq (tk:Bool):DN X WX (.Dict [] [] pos) (fun _=>.ok (.Bj tk [] [])):=by
 cases tk with
 |false =>
  refine⟨_,Xh,fun P0 P σ H Q ρ E h p hp=>?_⟩
  exact h _ [p] _ (AN hp _) (fun a ha=>by rw[zh.mp ha];exact hp) (by simp) (.dK (kvs:=[]) Ar .nil)
 |true =>
  refine⟨_,Xi,fun P0 P σ H Q ρ E h p hp=>?_⟩
  exact h _ [p] _ (AN hp _) (fun a ha=>by rw[zh.mp ha];exact hp) (by simp) (.dT (kvs:=[]) Ar .nil)
end
end L2
namespace L2
open PySem PySem.Spec PyProof.Rows
theorem IF {α:Type}(o:Option (α×List Int)) (b:α×List Int):BK o b≠none:=by
 unfold BK
 split
 ·intro z;cases z
 ·split<;>(intro z;cases z)
theorem MN {α:Type}:∀ {bs:List (α×List Int)},bs≠[]->AX bs≠none:=by
 intro bs h
 unfold AX
 suffices z:∀(bs:List (α×List Int)) (o:Option (α×List Int)),o≠none->bs.foldl BK o≠none by
  cases bs with
  |nil=>exact (h rfl).elim
  |cons b r=>rw[zU];exact z r _ (IF _ _)
 intro bs
 induction bs with
 |nil=>intro o h;exact h
 |cons b r ih=>intro o h;rw[zU];exact ih _ (IF _ _)
section
variable {prog:Program}{w:World}{A:Around}{R:Result->Shared->Prop}
theorem W2 (bs:List (Addr×List Int)) (o5:bs≠[]) (tv:Addr->Array Value) (l I S:Addr) (hh:A.handled=none) (hu:A.in1.units < cLine) (cT:S≠I) (ib:l≠I) (je:l≠S) (fg:∀ b∈bs,b.1≠I/\b.1≠S)
 (hk:∀ b∈bs,IntsAre (tv b.1).toList b.2):∀(k j:Nat) (s:Shared) (c:Nat),bs.length - j=k->j<=bs.length->s.heap.IsListIter I l j->s.heap.IsList l (bs.map fun b=>yG b.1).toArray->(∀ b∈bs,IsTup s.heap b.1 (tv b.1))->
  s.heap.get? S=some { cls:=.type "list",dict:=none,data:=.seq (Dj (bs.take j)) c,slots:=#[] } ->
  (∀ h' tk,(∀ b o,b≠I->b≠S->s.heap.get? b=some o->h'.get? b=some o)->R (.ok (.ret (match AX bs with|none=>.none|some b=>.ref b.1))) { s with heap:=h',toks:=tk })->
  codeAny (model prog w) A (.builtin "min.loop" ⟨[.ref I,.none,.ref S],[]⟩) R s:=by
 have aA:(toString "min" ++ toString ".loop" : String) = "min.loop" := by decide
 intro k
 induction k with
 |zero =>
  intro j s c hr hj hit hl ht hS hR
  have bO:j=bs.length:=by omega
  subst bO
  rw[yS] at hS
  refine codeAny_builtin PySem.F.entry_min_loop ?_
  rw[zag zW _]
  show wpAny _ A.in1 (seqItems? (.ref S) >>= _) _ _ s
  refine wpAny_bind (wpAny_seqItems hS rfl ?_)
  show wpAny _ A.in1 (tryCatch (pyNext (.ref I)) _ >>= _) _ _ s
  refine wpAny_bind (wpAny_tryCatch (wpAny_pyNext_list_end (A:=A.in1) hh hit hl (by simp) fun h' eb=>?_))
  have aH:h'.get? S=_:=eb S _ cT hS
  unfold Dj at aH
  cases hb:AX bs with
  |none=>exact (MN o5 hb).elim
  |some b =>
   rw[hb] at aH
   unfold Dj
   rw[hb]
   show wpAny _ A.in1 (updateSeq S (fun _=>#[]) >>= _) _ _ _
   refine wpAny_bind ?_
   refine wpAny_updateSeq aH rfl (wpAny_bind (wpAny_letGo (wpAny_pure ?_)))
   have q:=hR (h'.update S (zam fun _=>#[])) s.toks fun b o h1 h2 e=>(zar _ _ (yE h2)).trans (eb b o h1 e)
   rw[hb] at q
   exact q
 |succ k ih =>
  intro j s c hr hj hit hl ht hS hR
  have aj:j < bs.length:=by omega
  have ej:bs.take (j + 1)=bs.take j++[bs[j]]:=by rw[yU,zq aj];rfl
  have mj:bs[j]∈bs:=List.getElem_mem aj
  refine codeAny_builtin PySem.F.entry_min_loop ?_
  rw[zag zW _]
  show wpAny _ A.in1 (seqItems? (.ref S) >>= _) _ _ s
  refine wpAny_bind (wpAny_seqItems hS rfl ?_)
  show wpAny _ A.in1 (tryCatch (pyNext (.ref I)) _ >>= _) _ _ s
  refine wpAny_bind (wpAny_tryCatch (wpAny_pyNext_list_item (A:=A.in1) hit hl (x:=.ref bs[j].1) (by simp[aj]) fun h' bn sb=>?_))
  have bM:zay I s.heap h':=sb
  have aH:h'.get? S=_:=(bM.2 S cT).trans hS
  have bY:h'.IsList l (bs.map fun b=>yG b.1).toArray:=hl.at fun o e=>(bM.2 l ib).trans e
  have c5:∀ b∈bs,IsTup h' b.1 (tv b.1):=fun b hb=>by
   obtain⟨o,ho,r⟩:=ht b hb
   exact⟨o,(bM.2 b.1 (fg b hb).1).trans ho,r⟩
  cases hb:AX (bs.take j) with
  |none =>
   unfold Dj at aH ⊢
   rw[hb] at aH ⊢
   show wpAny _ A.in1 (updateSeq S (fun _=>#[.ref bs[j].1,.ref bs[j].1]) >>= _) _ _ _
   refine wpAny_bind ?_
   refine wpAny_updateSeq aH rfl ?_
   rw[aA]
   have s1:=Heap.SameBut.update h' S (zam fun _=>(#[.ref bs[j].1,.ref bs[j].1]:Array Value))
   refine wpAny_pure ⟨plainId_quiet zW _,ih (j + 1) _ (c + 1) (by omega) aj (bn.at fun o e=>(s1.2 I (yE cT)).trans e) (bY.at fun o e=>(s1.2 l je).trans e) (fun b hb=>?_) ?_ fun c6 tk aW=>?_⟩
   ·obtain⟨o,ho,r⟩:=c5 b hb
    exact⟨o,(s1.2 b.1 (fg b hb).2).trans ho,r⟩
   ·refine (zax _ aH rfl).trans ?_
    unfold Dj
    rw[ej,D1,hb]
    rfl
   ·exact hR c6 tk fun b o h1 h2 e=>aW b o h1 h2 ((s1.2 b h2).trans ((bM.2 b h1).trans e))
  |some m =>
   have mm:m∈bs:=yL (Kl _ _ hb)
   unfold Dj at aH ⊢
   rw[hb] at aH ⊢
   show wpAny _ A.in1 (tryCatch (holding [.ref bs[j].1,.ref bs[j].1] (richCompare .Lt (.ref bs[j].1) (.ref m.1) >>= _)) _ >>= _) _ _ _
   refine wpAny_bind (wpAny_tryCatch (wpAny_holding (wpAny_bind (HT.Il (c5 _ mj) (c5 _ mm) (hk _ mj) (hk _ mm) hu ?_))))
   refine wpAny_bind (wpAny_holding (wpAny_truthy_bool ?_))
   refine wpAny_bind (wpAny_letGo (wpAny_pure ?_))
   cases hc:HT.lexLt bs[j].2 m.2 with
   |true =>
    simp only[if_true]
    have s1:=Heap.SameBut.update h' S (zam fun _=>(#[.ref bs[j].1,.ref bs[j].1]:Array Value))
    refine wpAny_bind ?_
    refine wpAny_updateSeq aH rfl (wpAny_bind (wpAny_letGo ?_))
    rw[aA]
    refine wpAny_pure ⟨plainId_quiet zW _,ih (j + 1) _ c (by omega) aj (bn.at fun o e=>(s1.2 I (yE cT)).trans e) (bY.at fun o e=>(s1.2 l je).trans e) (fun b hb=>?_) ?_ fun c6 tk aW=>?_⟩
    ·obtain⟨o,ho,r⟩:=c5 b hb
     exact⟨o,(s1.2 b.1 (fg b hb).2).trans ho,r⟩
    ·refine (zax _ aH rfl).trans ?_
     unfold Dj
     rw[ej,D1,hb]
     simp only[hc,if_true]
     rfl
    ·exact hR c6 tk fun b o h1 h2 e=>aW b o h1 h2 ((s1.2 b h2).trans ((bM.2 b h1).trans e))
   |false =>
    simp only[zF,if_false]
    refine wpAny_bind (wpAny_letGo ?_)
    rw[aA]
    refine wpAny_pure ⟨plainId_quiet zW _,ih (j + 1) _ c (by omega) aj bn bY c5 ?_ fun c6 tk aW=>?_⟩
    ·refine aH.trans ?_
     unfold Dj
     rw[ej,D1,hb]
     simp only[hc,zF,if_false]
    ·exact hR c6 tk fun b o h1 h2 e=>aW b o h1 h2 ((bM.2 b h1).trans e)
theorem PB {E:Value->Shared->Prop}{s:Shared}{Q:Value->Shared->Prop}(bs:List (Addr×List Int)) (o5:bs≠[]) (tv:Addr->Array Value) (l:Addr) (hh:A.handled=none) (hu:A.in1.units < cLine)
 (hl:s.heap.IsList l (bs.map fun b=>yG b.1).toArray) (ht:∀ b∈bs,IsTup s.heap b.1 (tv b.1)) (hk:∀ b∈bs,IntsAre (tv b.1).toList b.2)
 (hQ:∀ h' tk,(∀ b o,s.heap.get? b=some o->h'.get? b=some o)->Q (match AX bs with|none=>.none|some b=>.ref b.1) { s with heap:=h',toks:=tk }) :
 wpAny (model prog w) A (call (.builtin "min") [.ref l]) Q E s:=by
 have aA:(toString "min" ++ toString ".loop" : String) = "min.loop" := by decide
 obtain⟨ol,fj,_⟩:=id hl
 have wg:l < s.heap.objs.size:=zw fj
 refine kmk_tree PySem.F.kind_min PySem.F.plain_min PySem.F.entry_min (by unfold argsOk;kernel_rfl) ?_
 show wpAny _ A.in1 (zaj "min" ["key","default"] 0 ⟨[],[]⟩ >>= _) _ _ s
 refine wpAny_bind (wpAny_of_eq (show zaj "min" ["key","default"] 0 ⟨[],[]⟩=pure [none,none] from rfl) ?_)
 refine wpAny_bind (wpAny_pure ?_)
 refine wpAny_bind (wpAny_pyIter_list hl ?_)
 refine wpAny_bind (wpAny_newList ?_ (zX _))
 rw[aA]
 have hS:(s.heap.push { cls:=.type "list_iterator",data:=.fields #[.ref l,.int 0 0] }).objs.size=s.heap.objs.size + 1:=Heap.size_push ..
 have old:∀ b o,s.heap.get? b=some o->b≠s.heap.objs.size/\b≠(s.heap.push { cls:=.type "list_iterator",data:=.fields #[.ref l,.int 0 0] }).objs.size:=fun b o e=>⟨zG (zw e),by rw[hS];exact zG (Nat.lt_succ_of_lt (zw e))⟩
 have grow:∀ b o,s.heap.get? b=some o->((s.heap.push { cls:=.type "list_iterator",data:=.fields #[.ref l,.int 0 0] }).push { cls:=.type "list",data:=.seq #[] }).get? b=some o:=fun b o e=>zr _ (zr _ e)
 refine wpAny_pure ⟨plainId_quiet zW _,?_⟩
 refine W2 bs o5 tv l s.heap.objs.size (s.heap.push { cls:=.type "list_iterator",data:=.fields #[.ref l,.int 0 0] }).objs.size hh hu (by rw[hS];exact Nat.succ_ne_self _) (old l ol fj).1 (old l ol fj).2 (fun b hb=>?_) hk _ 0 _ 0 rfl (zX _) ?_ ?_ (fun b hb=>?_) ?_ ?_
 ·obtain⟨o,ho,_⟩:=ht b hb
  exact old b.1 o ho
 ·exact⟨_,zr _ (zH _ rfl),rfl,rfl⟩
 ·exact hl.at fun o e=>grow l o e
 ·obtain⟨o,ho,r⟩:=ht b hb
  exact⟨o,grow b.1 o ho,r⟩
 ·exact zH _ rfl
 ·intro h' tk fm
  exact hQ h' tk fun b o e=>fm b o (old b o e).1 (old b o e).2 (grow b o e)
end
section
variable {X:Cx}{WX:Str->Hp->Prop}{c:Bool}{e:Expr}{f:Ab->M D}{pos:Pos}
noncomputable def iE (K:za):List V->Hp->VK->Prop:=fun xs H Q=>∃(a:Addr) (bs:List (Addr×List Int)) (b:Addr×List Int),xs=[.ref a]/\Dm K H a (bs.map fun b=>V.ref b.1)/\(∀ b∈bs,Fs K H b.1 (b.2.map V.int))/\AX bs=some b/\Q (.ref b.1) H
theorem W3 (hc:X.calm=true) (hu:X.A.units + 1 < cLine):Gn X (.builtin "min") (iE X.K):=by
 intro pins s σ H xs us Q I r h
 obtain⟨a,bs,b0,rfl,hl,hb,he,q⟩:=h
 obtain⟨ua,rfl,ra⟩:=r.one
 cases ra
 obtain⟨aa,rv,pl,hz⟩:=I.list hl
 have ei:=Km rv
 subst ei
 have tv:∀ a:Addr,∃ t:Array Value,∀ b∈bs,b.1=a->IsTup s.heap a t/\IntsAre t.toList b.2:=fun a=>by
  by_cases c7:∃ b∈bs,b.1=a
  ·obtain⟨b,c7,rfl⟩:=c7
   obtain⟨ts,rt,pt,_⟩:=I.tuple (hb b c7)
   refine⟨ts.toArray,fun b' aE e=>⟨pt,?_⟩⟩
   have q2:=hb b' aE
   rw[e] at q2
   have e2:=I.Hh q2 (hb b c7)
   rw[<-e2] at rt
   simpa using intsAre_of rt
  ·exact⟨#[],fun b aE e=>absurd ⟨b,aE,e⟩ c7⟩
 have ae:bs≠[]:=fun z=>by subst z;cases he
 refine PB bs ae (fun b=>zi (tv b)) a (I.ok.hd hc) hu pl.isList (fun b aE=>(zb (tv b.1) b aE rfl).1) (fun b aE=>(zb (tv b.1) b aE rfl).2) fun h' tk hk=>?_
 rw[he]
 exact⟨.ref b0.1,H,I.kept (t':=tk) hk,rfl,q⟩
noncomputable def UJ (ds:List D):M D:=match ds with
 |[.lst xs]=>(match Gx xs with|some ks=>(match AX ks with|some k=>.ok k.1|none=>.bad)|none=>.bad)
 |_=>.bad
theorem eF:KY X.K WX (iE X.K) UJ:=by
 intro P H ds vs Q ht hl h
 unfold UJ at h
 split at h
 ·rename_i xs
  obtain⟨v,rfl,hv⟩:=hl.one
  split at h
  ·rename_i ks e1
   cases hv with
   |lst hs hh =>
    obtain⟨bs,rfl,h2,h3⟩:=Iy hh e1
    split at h
    ·rename_i k e2
     rcases Ms h3 with ⟨q1,q2⟩|⟨b,k',q1,q2,_,q3⟩
     ·rw[q2] at e2;cases e2
     ·rw[q2] at e2;cases e2
      exact⟨_,bs,b,rfl,hs.Bo,fun b hb=>(h2 b hb).Bo,q1,h _ H (Ad.refl H) q3⟩
    ·exact h.elim
  ·exact h.elim
 ·exact h.elim
theorem eG {p:Pos}{n:Nat}(hc:X.calm=true) (hu:X.A.units + n < cLine) (hg:Gl X "min") (hm:X.mg "min" = none) (ha:DE X WX c e f) (hb:bootBuiltins "min" = some (.builtin "min"):=by decide +kernel) (hs:starEach [e] X.env=[(false,eval e X.env)]:=by rfl) (hn:1<=n:=by decide):DE X WX c (.Call (.Name "min" p) [e] [] pos) (fun ρ=>((f ρ).bind fun d=>(M.ok []).bind fun ds=>.ok (d::ds)).bind UJ) :=
 Mq (W3 hc (by omega)) eF hg hm hb (A2 ha A7 hs) (he:=hs)
end
section
variable {X:Cx}{E:XK}{WX:Str->Hp->Prop}{c:Bool}{P0:EA}{P:Addr->Prop}{H:Hp}{σ:St}{ρ:Ab}{a b e:Expr}{f g:Ab->M D}{fn:Ab->M OT}{fp:Ab->M (List Nat)}{pos:Pos}{i:Nat}
noncomputable def eI:V->List V->Hp->VK->Prop:=fun x vs H Q=>∃(l:Addr) (ns:List Int) (k:Int),x=.ref l/\vs=[.int k]/\H l=some (.lst (ns.map V.int))/\k∈ns/\Q .AA (upd H l (.lst ((ns.erase k).map V.int)))
theorem OA {α β:Type}(f:α->β):∀(l:List α) (k:Nat),(l.eraseIdx k).map f=(l.map f).eraseIdx k
 |[],_=>rfl
 |_::_,0=>rfl
 |x::r,k + 1=>by rw[List.eraseIdx_cons_succ,zg,zg,List.eraseIdx_cons_succ,OA f r k]
noncomputable def Ti (k:Int):Value->Bool
 | .int i _=>i == k
 |_=>false
theorem W4:rB X "list.remove" eI:=by
 intro pins s σ H x vs v us Q I rx rv h
 obtain⟨l,ns,k,rfl,rfl,hH,hk,q⟩:=h
 cases rx
 obtain⟨u,rfl,ru⟩:=rv.one
 obtain⟨tk,rfl⟩:=ru
 obtain⟨z,aa,n,r,hl,e⟩:=I.Vt hH
 have hlen:=r.length
 have gi:ns.idxOf k < ns.length:=List.idxOf_lt_length_iff.mpr hk
 have gj:∀ m (hm:m < aa.toArray.size) (uX:m < ns.length),∃ t,aa.toArray[m]=Value.int ns[m] t:=fun m hm uX=>by
  have hx:(ns.map V.int)[m]? =some (V.int ns[m]):=by rw[zD,zq uX];rfl
  obtain⟨w,hw,b5⟩:=r.get hx
  obtain⟨t,rfl⟩:=b5
  refine⟨t,?_⟩
  have:aa[m]? =some aa[m]:=zq (by simpa using hm)
  rw[hw] at this
  simpa using (zI this).symm
 have hsz:aa.toArray.size=ns.length:=by rw[zk,<-hlen,zc]
 have hm:=MeetsSeq.list_remove l aa.toArray n (.int k tk) (Ti k) (fun y hy=>by
  obtain⟨m,hm,rfl⟩:=Array.mem_iff_getElem.mp hy
  obtain⟨t,ht⟩:=gj m hm (by rw[<-hsz];exact hm)
  rw[ht]
  exact MeetsSeq.EqGives.int _ _ _ _) (ns.idxOf k) (by rw[hsz];exact gi) (by
  obtain⟨t,ht⟩:=gj (ns.idxOf k) (by rw[hsz];exact gi) gi
  rw[ht]
  simp[Ti]) (fun m hm aj=>by
  obtain⟨t,ht⟩:=gj m hm (by omega)
  rw[ht]
  have:=List.not_of_lt_findIdx (p:=(· == k)) (xs:=ns) (i:=m) aj
  simpa [Ti] using this) (by rw[zk];omega)
 refine call_meets F.slot_list_remove ⟨_,e,rfl⟩ F.entry_list_remove (F.args_list_remove_2 _ _) hm ⟨e,?_⟩
 refine⟨.AA,_,I.ZD (its':=aa.eraseIdx (ns.idxOf k)) hH e ?_ ?_ ?_,rfl,q⟩
 ·show aa.toArray.eraseIdxIfInBounds _=_
  rw[List.eraseIdxIfInBounds_toArray]
 ·rw[show ns.erase k=ns.eraseIdx (ns.idxOf k) from List.erase_eq_eraseIdx_of_idxOf rfl,OA]
  exact r.eraseIdx _
 ·rw[zc]
  have:=List.length_erase_le (a:=k) (l:=ns)
  rw[zc] at z
  omega
theorem W5 (ha:DP X WX a i fp) (he:DE X WX true e f){apos ad:Pos}(hs:starEach [e] X.env=[(false,eval e X.env)]:=by rfl)
 (bL:swapsWith (.Call (.Attribute a "remove" apos) [e] [] ad) none pos.line X.env=pure false:=by rfl)
 (a8:attributeBase a "remove" X.env (eval a X.env)=eval a X.env:=by rfl)
 (aV:((backTo ad (starEach [e] X.env)).all (fun x => !x.1) && (backToKw ad (keywordEach [] X.env)).all (fun x=>x.1.isSome) && decide (([e]:List Expr).length + ([]:List Keyword).length + (if ([]:List Keyword).isEmpty then 0 else 1) < 30))=true:=by rfl)
 (a9:(apos.endLine == ad.line)=true:=by rfl) (ar:(backTo ad (starEach [] X.env)).any (·.1)=false:=by rfl) :
 DS X WX (.Expr (.Call (.Attribute a "remove" apos) [e] [] ad) pos) (fun ρ=>(fp ρ).bind fun π=>(Sr i ρ π).bind fun ds=>(f ρ).bind fun d=>match d,CC ds with
  | .int k,some ns=>if k∈ns then IE i ρ π (.lst (((ns.erase k).map D.int).map .sh)) else .bad
  |_,_=>.bad):=by
 obtain⟨ta,a1,a2⟩:=ha
 obtain⟨te,e1,e2⟩:=he
 refine⟨_,Hi (QO zal PySem.F.slot_list_remove PySem.F.type_list_remove W4 a1 (Bi e1 Cj hs) a8 aV a9 hs ar) bL,fun P0 P σ H Z ρ E h=>?_⟩
 dsimp only at h
 refine a2 P0 P σ H _ ρ E ?_
 cases q:fp ρ with
 |bad=>rw[q] at h;exact h
 |ex x=>rw[q] at h;exact fun H' s=>h H' P (E.tr s)
 |ok π =>
  rw[q] at h
  simp only[M.A8] at h
  intro v t1 H1 s1 pl
  have E1:=E.same s1
  cases q1:Sr i ρ π with
  |bad=>rw[q1] at h;exact h.elim
  |ex x=>exact (Y4 q1).elim
  |ok ds =>
   rw[q1] at h
   simp only[M.A8] at h
   obtain⟨rfl,l,xs,rfl,hl,ol⟩:=pl.shl E1 q1
   refine⟨.inl ⟨rfl,xs,.of hl⟩,e2 P0 P σ H1 _ ρ E1 ?_⟩
   cases q2:f ρ with
   |bad=>rw[q2] at h;exact h
   |ex y=>rw[q2] at h;exact fun H' s=>h H' P ((E.tr s1).trans (E1.tr s))
   |ok d =>
    rw[q2] at h
    simp only[M.A8] at h
    intro w H2 s2 hw
    have E2:=E1.same s2
    have db:=pl.same s2
    cases d with
    |int k =>
     cases q3:CC ds with
     |none=>rw[q3] at h;exact h.elim
     |some ns =>
      rw[q3] at h
      dsimp only at h
      by_cases hk:k∈ns
      ·rw[if_pos hk] at h
       have:=DU q3
       subst this
       have jp:=ol.mono s2.del
       have ex:=Ee jp
       subst ex
       have bf:=s2 _ _ hl
       obtain⟨c,p,t0,g1,g2,E3,t3⟩:=E2.qD (ys:=(ns.erase k).map V.int) (es:=(ns.erase k).map D.int) db bf jp (Ah.ints _)
       rw[Ju g1 g2] at h
       exact⟨l,ns,k,rfl,by rw[hw.int_inv],bf,hk,h _ _ _ (((E.tr s1).trans (E1.tr s2)).trans t3) E3⟩
      ·rw[if_neg hk] at h;exact h.elim
    |_=>exact h.elim
end
end L2
namespace L2
open PySem PySem.Spec PyProof.Rows
section
variable {X:Cx}{WX:Str->Hp->Prop}{c:Bool}{P0:EA}{P:Addr->Prop}{H:Hp}{σ:St}{ρ:Ab}{a b e:Expr}{f g:Ab->M D}{fn:Ab->M OT}{pos:Pos}{te:TE}
noncomputable def qE (ds:List D):M D:=match ds with
 |[.lst xs]=>(match CC xs with|some ns=>.ok (.int ns.sum)|none=>.bad)
 |_=>.bad
noncomputable def tK (te:TE):TE:=fun σ H Q=>te σ H fun x H1=>∃ n:Nat,x=.int (n:Int)/\n<=1000/\∀ r,H1 r=none->Q (.ref r) (upd H1 r (.lst ((yR n).map fun i:Nat=>V.int (i:Int))))
theorem W6 {acc:Array Value}{n:Nat}(h:ItemsOf (fun i v=>∃ t,v=Value.int (0 + (i:Int) * 1) t) acc n):Vals ((yR n).map fun i:Nat=>V.int (i:Int)) acc.toList:=by
 obtain⟨h1,h2⟩:=h
 have key:∀(l:List Value) (k:Nat),(∀ i v,l[i]? =some v->∃ t,v=Value.int ((k + i:Nat):Int) t)->Vals ((List.range' k l.length).map fun i:Nat=>V.int (i:Int)) l:=by
  intro l
  induction l with
  |nil=>intro k _;exact .nil
  |cons v r ih =>
   intro k hk
   rw[zo,List.range'_succ,zg]
   refine .cons (by obtain⟨t,e⟩:=hk 0 v rfl;exact⟨t,by simpa using e⟩) (ih (k + 1) fun i w hw=>?_)
   obtain⟨t,e⟩:=hk (i + 1) w (by simpa using hw)
   exact⟨t,by rw[e];congr 1;omega⟩
 have:=key acc.toList 0 (fun i v hv=>by
  obtain⟨t,e⟩:=h2 i v (by rw[<-Array.getElem?_toList];exact hv)
  exact⟨t,by rw[e];congr 1;omega⟩)
 rw[Array.length_toList,h1] at this
 rw[List.range_eq_range']
 exact this
theorem PD {p p2 bP:Pos}(hc:X.calm=true) (hg:Gl X "list") (hm:X.mg "list" = none) (jg:Gl X "range") (ce:X.mg "range" = none) (he:PE X e te)
 (hv:bootBuiltins "list" = some (.type "list"):=by decide +kernel)
 (hs:starEach [.Call (.Name "range" p2) [e] [] bP] X.env=[(false,eval (.Call (.Name "range" p2) [e] [] bP) X.env)]:=by rfl) (bi:starEach [e] X.env=[(false,eval e X.env)]:=by rfl) :
 PE X (.Call (.Name "list" p) [.Call (.Name "range" p2) [e] [] bP] [] pos) (tK te):=by
 intro pins s σ H Q I h
 refine wpAny_Call_Name_kw (E6 I hg hm hv ?_)
 refine yO ?_ hs
 rw[hs]
 refine zas ?_
 refine wpAny_Call_Name_kw (E6 I jg ce boot_range ?_)
 refine yO ?_ bi
 rw[bi]
 refine zas (Bg (he pins s σ H _ I h) fun u s1 ⟨x,H1,I1,r1,q1⟩=>?_)
 obtain⟨n,rfl,hn,q⟩:=q1
 obtain⟨t,rfl⟩:=r1
 refine zb0 ?_
 refine call_range_1 ?_
 refine zb0 ?_
 have h4:((n:Nat):Int) < 2 ^ 62:=by omega
 refine call_list_range (n:=n) (I1.ok.hd hc) (IsRange.new ..) (small_one (by omega) (by omega) (by omega) h4) (by rw[rangeSize_one];split<;>omega) (by omega) fun h' tk o6 c' hk aH o7=>?_
 have kp:∀ b o,s1.heap.get? b=some o->h'.get? b=some o:=fun b o e=>hk b o (zr _ e)
 have rv:=W6 o7
 have jr:∀ o:Obj,s1.heap.objs.size<=(s1.heap.push o).objs.size:=fun o=>by simp[Heap.push]
 refine⟨.ref _,_,I1.laid (t':=tk) (o:=.lst ((yR n).map fun i:Nat=>V.int (i:Int))) kp (jr _) ⟨?_,o6.toList,c',rv,by simpa using aH⟩,rfl,q _ (I1.Av.fresh (jr _))⟩
 rw[zc,List.length_range]
 exact yQ (AG hn)
noncomputable def rH (d:D):M OT:=match d with
 | .int j=>@ite _ (0<=j/\j<=1000) (zbf _) (.ok (.lst ((C6 0 j.toNat).map .sh))) .bad
 |_=>.bad
theorem PF {n:Nat}(h:n<=1000):rH (.int (n:Int))=.ok (.lst (((yR n).map fun i:Nat=>D.int (i:Int)).map .sh)):=by
 unfold rH
 dsimp only
 rw[if_pos ⟨by omega,by omega⟩,yN,Mt]
theorem Jv {p p2 bP:Pos}(hc:X.calm=true) (hg:Gl X "list") (hm:X.mg "list" = none) (jg:Gl X "range") (ce:X.mg "range" = none) (he:DE X WX true e f)
 (hv:bootBuiltins "list" = some (.type "list"):=by decide +kernel)
 (hs:starEach [.Call (.Name "range" p2) [e] [] bP] X.env=[(false,eval (.Call (.Name "range" p2) [e] [] bP) X.env)]:=by rfl) (bi:starEach [e] X.env=[(false,eval e X.env)]:=by rfl) :
 DN X WX (.Call (.Name "list" p) [.Call (.Name "range" p2) [e] [] bP] [] pos) (fun ρ=>(f ρ).bind rH):=by
 obtain⟨te,e1,e2⟩:=he
 refine⟨_,PD hc hg hm jg ce e1 hv hs bi,fun P0 P σ H Q ρ E h=>?_⟩
 refine e2 P0 P σ H _ ρ E ?_
 dsimp only at h
 cases q:f ρ with
 |bad=>rw[q] at h;exact h
 |ex x=>rw[q] at h;exact h
 |ok d =>
  rw[q] at h
  simp only[M.A8] at h
  intro v H1 s1 hv
  cases d with
  |int j =>
   by_cases hj:0<=j/\j<=1000
   ·obtain⟨n,rfl⟩:∃ n:Nat,j=n:=⟨j.toNat,by omega⟩
    rw[PF (by omega)] at h
    refine⟨n,hv.int_inv,by omega,fun r hr=>h.Kv s1 (xs:=(yR n).map fun i:Nat=>V.int (i:Int)) ?_ r hr⟩
    have:∀ l:List Nat,Ah X.K (del H1 P) (l.map fun i:Nat=>V.int (i:Int)) (l.map fun i:Nat=>D.int (i:Int)):=fun l=>by
     induction l with
     |nil=>exact .nil
     |cons x r ih=>exact .cons (.int _) ih
    exact this _
   ·have e:rH (.int j)=.bad:=if_neg hj
    rw[e] at h;exact h.elim
  |_=>exact h.elim
noncomputable def eJ (lo hi:Option Int) (d:D):M OT:=match d with
 | .lst ds=>.ok (.lst (((ds.drop (HT.Mb ds.length 0 lo)).take (HT.Mb ds.length ds.length hi - HT.Mb ds.length 0 lo)).map .sh))
 |_=>.bad
theorem MO {lo hi:Option Expr}{o8 fh:Ab->M (Option Int)}{p2:Pos}(ha:DE X WX true e f) (hl:DO X WX true lo o8) (hh:DO X WX true hi fh):DN X WX (.Subscript e (.Slice lo hi none p2) pos) (fun ρ=>(f ρ).bind fun d=>(o8 ρ).bind fun l=>(fh ρ).bind fun u=>eJ l u d):=by
 obtain⟨ta,a1,a2⟩:=ha
 obtain⟨tl,l1,l2⟩:=hl
 obtain⟨th,h1,h2⟩:=hh
 refine⟨_,Xb ZC a1 l1 h1,fun P0 P σ H Q ρ E h=>?_⟩
 dsimp only at h
 refine a2 P0 P σ H _ ρ E ?_
 cases q:f ρ with
 |bad=>rw[q] at h;exact h
 |ex x=>rw[q] at h;exact h
 |ok d =>
  rw[q] at h
  intro v H1 s1 hv
  refine l2 P0 P σ H1 _ ρ (E.same s1) ?_
  cases q2:o8 ρ with
  |bad=>rw[q2] at h;exact h
  |ex y=>rw[q2] at h;exact fun H' s=>h H' (s1.trans s)
  |ok l =>
   rw[q2] at h
   intro H2 s2
   refine h2 P0 P σ H2 _ ρ ((E.same s1).same s2) ?_
   cases q3:fh ρ with
   |bad=>rw[q3] at h;exact h
   |ex y=>rw[q3] at h;exact fun H' s=>h H' ((s1.trans s2).trans s)
   |ok u =>
    rw[q3] at h
    simp only[M.A8] at h
    intro H3 s3
    unfold eJ at h
    split at h
    ·cases hv with
     |lst hs hl =>
      refine⟨_,_,rfl,(s3.seq (s2.seq hs.Bo)),fun p hp=>h.Kv ((s1.trans s2).trans s3) ?_ p hp⟩
      unfold Xc
      rw[hl.length]
      exact ((((hl.drop _).take _).mono s2.del).mono s3.del)
    ·exact h.elim
theorem Yb:uQ X.K WX (hX X.K) Rk:=by
 intro P H x y v w Q ht hx hy h
 unfold Rk at h
 split at h
 ·rename_i ds es
  by_cases hl:ds.length + es.length<=1000
  ·rw[if_pos hl] at h
   cases hx with
   |lst h1 h2 =>
    cases hy with
    |lst h3 h4=>exact⟨_,_,_,_,rfl,rfl,h1.Bo,h3.Bo,yQ (AG (by rw[h2.length,h4.length];exact hl)),h.Kv (Ad.refl _) (h2.uM h4)⟩
  ·rw[if_neg hl] at h;exact h.elim
 ·exact h.elim
theorem eK (ha:DE X WX true a f) (hb:DE X WX true b g):DN X WX (.BinOp a .Add b pos) (fun ρ=>(f ρ).bind fun x=>(g ρ).bind fun y=>Rk x y):=by
 obtain⟨ta,a1,a2⟩:=ha
 obtain⟨tb,b1,b2⟩:=hb
 exact⟨_,WZ cY a1 b1,fun P0 P σ H Q ρ E h=>pX a2 b2 Yb E h⟩
noncomputable def GK (μ:List (Option Nat)) (g:TG):Prop:=∀ σ0 σ x H Q,(∀(j:Nat) v,(EW μ σ0)[j]? =some (some v)->σ[j]? =some (some v))->g x σ H Q->g x σ H fun σ' H'=>Q σ' H'/\∀(j:Nat) v,(EW μ σ0)[j]? =some (some v)->σ'[j]? =some (some v)
noncomputable def qG (μ:List (Option Nat)) (g:WC):Prop:=∀ σ0 σ x H Q,(∀(j:Nat) v,(EW μ σ0)[j]? =some (some v)->σ[j]? =some (some v))->g x σ H Q->g x σ H fun σ' H'=>Q σ' H'/\∀(j:Nat) v,(EW μ σ0)[j]? =some (some v)->σ'[j]? =some (some v)
theorem GK.keeps {μ:List (Option Nat)}{g:TG}(h:GK μ g):Kk μ g:=fun σ x H Q q=>h σ (EW μ σ) x H Q (fun _ _ z=>z) q
theorem eL {μ:List (Option Nat)}{i:Nat}(h:μ[i]? =some none):GK μ (O1 i):=fun σ0 σ x H Q hk q=>by
 refine⟨q,fun j v hj=>?_⟩
 have ae:i≠j:=fun z=>by
  subst z
  unfold EW at hj
  rw[zD,h] at hj
  cases hj
 rw[yM ae]
 exact hk j v hj
theorem eM {μ:List (Option Nat)}:qG μ jF:=fun σ0 σ x H Q hk q=>⟨q.1,q.2,hk⟩
theorem Yc {μ:List (Option Nat)}{t:TG}{u:WC}(mono:∀ v σ H Q Q',(∀ σ' H',Q σ' H'->Q' σ' H')->t v σ H Q->t v σ H Q') (ht:GK μ t) (hu:qG μ u):qG μ (WQ t u):=fun σ0 σ x H Q hk q=>by
 obtain⟨v,r,rfl,q⟩:=q
 exact⟨v,r,rfl,mono _ _ _ _ _ (fun σ' H' z=>hu σ0 σ' r H' Q z.2 z.1) (ht σ0 σ v H _ hk q)⟩
theorem lK {K:za}{μ:List (Option Nat)}{n:Nat}{t:WC}(h:qG μ t):GK μ (jG K n t):=fun σ0 σ x H Q hk q=>by
 obtain⟨a,xs,rfl,h1,h2,q⟩:=q
 exact⟨a,xs,rfl,h1,h2,h σ0 σ xs H Q hk q⟩
variable {cU:List D->Ab->M Ab}{gt:D->Ab->M Ab}{es:List Expr}
noncomputable def eN (X:Cx) (scope:Scope) (NB:List Str) (μ:List (Option Nat)) (es:List Expr) (gt:List D->Ab->M Ab):Prop :=
 ∃ g:WC,(∀ s H C ex,mW (blockOf X s H scope C NB ex) es g)/\qG μ g/\∀ P0 P σ H Q ρ vs ds,An X.K P0 P H σ ρ->Ah X.K (del H P) vs ds->gG X.K P0 P H Q (gt ds ρ)->g vs σ H Q
theorem MQ {scope:Scope}{NB:List Str}{μ:List (Option Nat)}:eN X scope NB μ [] (fun ds ρ=>match ds with | []=>.ok ρ | _=>.bad) :=
 ⟨jF,fun s H C ex=>U6,eM,fun P0 P σ H Q ρ vs ds E hv h=>by
  cases hv with
  |nil=>exact⟨rfl,h σ E⟩
  |cons _ _=>exact h.elim⟩
theorem DY {scope:Scope}{NB:List Str}{μ:List (Option Nat)}(i:Nat){x:Str}{px:Pos}(hN:NB.Nodup) (hi:NB[i]? =some x) (hx:(relabel scope X.env).names.lookup x=some .local) (hm:μ[i]? =some none) (hr:eN X scope NB μ es cU)
 (hs:∀ s H C ex,(assignEach (.Name x px::es) (blockOf X s H scope C NB ex).env).map (·.2)=assign (.Name x px) (blockOf X s H scope C NB ex).env::(assignEach es (blockOf X s H scope C NB ex).env).map (·.2):=by intro _ _ _ _;rfl) :
 eN X scope NB μ (.Name x px::es) (fun ds ρ=>match ds with|d::r=>cU r (ρ.set i (some (.val d)))|[]=>.bad):=by
 obtain⟨gr,r1,r2,r3⟩:=hr
 refine⟨WQ (O1 i) gr,fun s H C ex=>QJ (P6 (X:=blockOf X s H scope C NB ex) hN hi (.inl hx) (.inr hx)) (r1 s H C ex) (hs s H C ex),Yc (fun v σ H Q Q' hq h=>hq _ _ h) (eL hm) r2,fun P0 P σ H Q ρ vs ds E hv h=>?_⟩
 cases hv with
 |nil=>exact h.elim
 |cons h1 h2=>exact⟨_,_,rfl,r3 P0 P _ H Q _ _ _ (E.VE h1) h2 h⟩
theorem PH {scope:Scope}{NB:List Str}{μ:List (Option Nat)}{k n:Nat}{pt:Pos}(hc:X.calm=true) (h:eN X scope NB μ es cU)
 (hn:∀ s H C ex,(assignEach es (blockOf X s H scope C NB ex).env).length=n:=by intro _ _ _ _;rfl) (aY:∀ s H C ex,(assignEach es (blockOf X s H scope C NB ex).env).findIdx? (·.1)=none:=by intro _ _ _ _;rfl) :
 pQ X scope NB μ (.Tuple es k pt) (fun d ρ=>match d with | .tup ds=>if ds.length=n then cU ds ρ else .bad|_=>.bad):=by
 obtain⟨t,a1,a2,a3⟩:=h
 refine⟨jG X.K n t,fun s H C ex=>WR (X:=blockOf X s H scope C NB ex) hc (a1 s H C ex) (hn s H C ex) (aY s H C ex),(lK a2).keeps,fun P0 P σ H Q ρ v d E hv h=>?_⟩
 cases hv with
 | @tup a xs ds hs hl =>
  dsimp only at h
  by_cases hd:ds.length=n
  ·rw[if_pos hd] at h
   exact⟨a,xs,rfl,Fs.of (Am hs).2,by rw[hl.length];exact hd,a3 P0 P σ H Q ρ xs ds E hl h⟩
  ·rw[if_neg hd] at h;exact h.elim
 |_=>exact h.elim
end
end L2
namespace L2
open PySem PySem.Spec PyProof.Rows
noncomputable def WP (m:M Out) (nx:Ab->Prop) (rt:Out->Prop) (ex:Str->Prop):Prop:=match m with
 | .ok (.next ρ)=>nx ρ
 | .ok o=>rt o
 | .ex x=>ex x
 | .bad=>False
section
variable {nx:Ab->Prop}{rt:Out->Prop}{ex:Str->Prop}{m:M Out}{k:Ab->M Out}{ρ ρ':Ab}
theorem Ba (h:m=.ok (.next ρ')) (hn:nx ρ'):WP m nx rt ex:=by rw[h];exact hn
theorem WP.mono {uY:Ab->Prop}{uZ:Out->Prop}{l6:Str->Prop}(h:WP m nx rt ex) (h1:∀ ρ,nx ρ->uY ρ) (h2:∀ o,rt o->uZ o) (h3:∀ x,ex x->l6 x):WP m uY uZ l6:=by
 cases m with
 |bad=>exact h
 |ex x=>exact h3 x h
 |ok o =>
  cases o with
  |next ρ=>exact h1 ρ h
  |ret d=>exact h2 _ h
  |brk d=>exact h2 _ h
  |cont d=>exact h2 _ h
  |CH d=>exact h2 _ h
  |Fe d ρ=>exact h2 _ h
theorem wp_seq (h:WP m (fun ρ=>WP (k ρ) nx rt ex) rt ex):WP (ZX m k) nx rt ex:=by
 cases m with
 |bad=>exact h
 |ex x=>exact h
 |ok o =>
  cases o with
  |next ρ=>exact h
  |ret d=>exact h
  |brk d=>exact h
  |cont d=>exact h
  |CH d=>exact h
  |Fe d ρ=>exact h
theorem wp_step (h:m=.ok (.next ρ')) (hk:WP (k ρ') nx rt ex):WP (ZX m k) nx rt ex:=by rw[h];exact hk
theorem BW {I:Ab->Prop}(h:WP m I rt ex) (hk:∀ ρ,I ρ->WP (k ρ) nx rt ex):WP (ZX m k) nx rt ex:=wp_seq (h.mono hk (fun _ h=>h) fun _ h=>h)
noncomputable def inLoop (I:Ab->Prop) (nx:Ab->Prop) (rt:Out->Prop) (o:Out):Prop:=match o with
 | .cont ρ=>I ρ
 | .brk ρ=>nx ρ
 |o=>rt o
theorem Bx {gt:D->Ab->M Ab}{gb:Ab->M Out}{ds:List D}(I:Nat->Ab->Prop) (h0:I 0 ρ)
 (step:∀ i d ρ,ds[i]? =some d->I i ρ->∃ ρ1,gt d ρ=.ok ρ1/\WP (gb ρ1) (I (i + 1)) (inLoop (I (i + 1)) nx rt) ex) (done:∀ ρ,I ds.length ρ->nx ρ):WP (forM gt gb ds ρ) nx rt ex:=by
 have key:∀(n i:Nat) (ρ:Ab),i + n=ds.length->I i ρ->WP (forM gt gb (ds.drop i) ρ) nx rt ex:=by
  intro n
  induction n with
  |zero =>
   intro i ρ hi h
   have e:i=ds.length:=by omega
   subst e
   rw[List.drop_length,forM]
   exact done ρ h
  |succ n ih =>
   intro i ρ hi h
   have aj:i < ds.length:=by omega
   obtain⟨ρ1,h1,h2⟩:=step i ds[i] ρ (zq aj) h
   rw[Jb aj,forM,h1]
   dsimp only
   cases q:gb ρ1 with
   |bad=>rw[q] at h2;exact h2
   |ex x=>rw[q] at h2;exact h2
   |ok o =>
    rw[q] at h2
    cases o with
    |next ρ2=>exact ih (i + 1) ρ2 (by omega) h2
    |ret d=>exact h2
    |CH d=>exact h2
    |Fe d ρ2=>exact h2
    |cont ρ2=>exact ih (i + 1) ρ2 (by omega) h2
    |brk ρ2=>exact h2
 have:=key ds.length 0 ρ (by omega) h0
 rw[List.drop_zero] at this
 exact this
theorem Rr {α:Type}{c:Ab->M Bool}{b:Ab->M Out}{lt:α->α->Prop}(J:α->Ab->Prop){x:α}(hx:Acc lt x) (h0:J x ρ)
 (step:∀ x ρ,J x ρ->(c ρ=.ok false/\nx ρ)\/(c ρ=.ok true/\WP (b ρ) (fun ρ2=>∃ y,lt y x/\J y ρ2) (inLoop (fun ρ2=>∃ y,lt y x/\J y ρ2) nx rt) ex)):WP (KZ c b ρ) nx rt ex:=by
 have key:∀ x,Acc lt x->∀ ρ,J x ρ->∃ n,Ay c b n ρ≠.bad/\WP (Ay c b n ρ) nx rt ex:=by
  intro x hx
  induction hx with
  |intro x _ ih =>
   intro ρ h
   rcases step x ρ h with ⟨h1,h2⟩|⟨h1,h2⟩
   ·refine⟨1,?_,?_⟩
    ·rw[Ay,h1];intro z;cases z
    ·rw[Ay,h1];exact h2
   ·cases q:b ρ with
    |bad=>rw[q] at h2;exact h2.elim
    |ex y =>
     rw[q] at h2
     refine⟨1,?_,?_⟩
     ·rw[Ay,h1];dsimp only;rw[q];intro z;cases z
     ·rw[Ay,h1];dsimp only;rw[q];exact h2
    |ok o =>
     rw[q] at h2
     have go:∀ ρ2,(∃ y,lt y x/\J y ρ2)->(∀ n,Ay c b (n + 1) ρ=Ay c b n ρ2)->∃ n,Ay c b n ρ≠.bad/\WP (Ay c b n ρ) nx rt ex:=by
      rintro ρ2 ⟨y,hy,hJ⟩ e
      obtain⟨n,h3,h4⟩:=ih y hy ρ2 hJ
      exact⟨n + 1,by rw[e];exact h3,by rw[e];exact h4⟩
     cases o with
     |next ρ2=>exact go ρ2 h2 fun n=>by rw[Ay,h1];dsimp only;rw[q]
     |cont ρ2=>exact go ρ2 h2 fun n=>by rw[Ay,h1];dsimp only;rw[q]
     |brk ρ2 =>
      refine⟨1,?_,?_⟩
      ·rw[Ay,h1];dsimp only;rw[q];intro z;cases z
      ·rw[Ay,h1];dsimp only;rw[q];exact h2
     |ret d =>
      refine⟨1,?_,?_⟩
      ·rw[Ay,h1];dsimp only;rw[q];intro z;cases z
      ·rw[Ay,h1];dsimp only;rw[q];exact h2
     |CH d =>
      refine⟨1,?_,?_⟩
      ·rw[Ay,h1];dsimp only;rw[q];intro z;cases z
      ·rw[Ay,h1];dsimp only;rw[q];exact h2
     |Fe d ρ2 =>
      refine⟨1,?_,?_⟩
      ·rw[Ay,h1];dsimp only;rw[q];intro z;cases z
      ·rw[Ay,h1];dsimp only;rw[q];exact h2
 obtain⟨n,h1,h2⟩:=key x hx ρ h0
 unfold KZ
 have hx:∃ n,Ay c b n ρ≠.bad:=⟨n,h1⟩
 rw[dif_pos hx]
 have e:Ay c b (zi hx) ρ=Ay c b n ρ:=by
  have a:=CD (zb hx) n
  have b':=CD h1 (zi hx)
  rw[Nat.add_comm] at b'
  rw[<-a,<-b']
 rw[e]
 exact h2
noncomputable def vA (Q:OT->Prop) (o:Out):Prop:=match o with
 | .ret d=>Q (.sh d)
 | .CH c=>∃ t,pY c=.ok t/\Q t
 |_=>False
theorem L1 {Q:OT->Prop}(h:WP m (fun _=>Q (.sh .AA)) (vA Q) (fun _=>False)):∃ t,XY m=.ok t/\Q t:=by
 cases m with
 |bad=>exact h.elim
 |ex x=>exact h.elim
 |ok o =>
  cases o with
  |next ρ=>exact⟨_,rfl,h⟩
  |ret d=>exact⟨_,rfl,h⟩
  |CH c=>exact h
  |Fe c ρ=>exact h.elim
  |brk ρ=>exact h.elim
  |cont ρ=>exact h.elim
theorem BB {t:OT}(h:WP m (fun _=>OT.sh .AA=t) (vA (·=t)) (fun _=>False)):XY m=.ok t:=by
 obtain⟨u,h1,h2⟩:=L1 (Q:=(·=t)) h
 rw[h1,h2]
noncomputable def vB (Q:D->Prop) (o:Out):Prop:=match o with
 | .ret d=>Q d
 | .CH c=>∃ t,tF c=.ok t/\Q t
 |_=>False
theorem qH {Q:D->Prop}(h:WP m (fun _=>Q .AA) (vB Q) (fun _=>False)):∃ t,fin m=.ok t/\Q t:=by
 cases m with
 |bad=>exact h.elim
 |ex x=>exact h.elim
 |ok o =>
  cases o with
  |next ρ=>exact⟨_,rfl,h⟩
  |ret d=>exact⟨_,rfl,h⟩
  |CH c=>exact h
  |Fe c ρ=>exact h.elim
  |brk ρ=>exact h.elim
  |cont ρ=>exact h.elim
theorem qI {d:D}(h:WP m (fun _=>D.AA=d) (vB (·=d)) (fun _=>False)):fin m=.ok d:=by
 obtain⟨u,h1,h2⟩:=qH (Q:=(·=d)) h
 rw[h1,h2]
end
end L2
namespace L2
open PySem PySem.Spec PyProof.Rows
section
variable {d:D}{ds es:List D}{ρ ρ':Ab}{o:Option Cl}{i n:Nat}{p:Option Nat}{t u:OT}{π:List Nat}{b:Bool}{ks vs:List D}{ts:List OT}{m:M D}
theorem rJ:rv 0 (some (.val d)::ρ)=.ok d:=rfl
theorem rK:rv (i + 1) (o::ρ)=rv i ρ:=rfl
noncomputable def Rt (f:Ab->Ab) (m:M Out):M Out:=match m with
 | .ok (.next ρ)=>.ok (.next (f ρ))
 |m=>m
theorem Jw {f:Ab->Ab}:Rt f (.ok (.next ρ))=.ok (.next (f ρ)):=rfl
theorem Jx:Rm 0 (some (.own ds)::ρ)=.ok []:=rfl
theorem Jy:Rm 0 (some (.ow (.Lr n ds))::ρ)=.ok []:=rfl
theorem Hv:Rm 0 (some (.ow (.tree p t))::ρ)=.ok []:=by unfold Rm UH;simp[treeOf]
theorem UK:Rm (i + 1) (o::ρ)=Rm i ρ:=rfl
theorem UL:UH 0 (some (.own ds)::ρ) π=Kt (.lst (ds.map .sh)) π:=rfl
theorem UM:UH 0 (some (.ow (.Lr n ds))::ρ) π=Kt (.lst (ds.map .sh)) π:=rfl
theorem MR:UH 0 (some (.ow (.tree p t))::ρ) π=Kt t π:=rfl
theorem LG:Sr 0 (some (.own ds)::ρ) []=.ok ds:=by unfold Sr;simp[UL,CG]
theorem LH:Sr 0 (some (.ow (.Lr n ds))::ρ) []=.ok ds:=by unfold Sr;simp[UM,CG]
theorem Jz:Sr 0 (some (.ow (.tree p (.lst (ds.map .sh))))::ρ) []=.ok ds:=by unfold Sr;simp[MR,CG]
theorem eO:Sr (i + 1) (o::ρ) π=Sr i ρ π:=rfl
theorem Hw:L0 0 (some (.own ds)::ρ) []=.ok (ds.map .sh):=by unfold L0;simp[UL]
theorem Hx:L0 0 (some (.ow (.Lr n ds))::ρ) []=.ok (ds.map .sh):=by unfold L0;simp[UM]
theorem FD:L0 0 (some (.ow (.tree p (.lst ts)))::ρ) []=.ok ts:=by unfold L0;simp[MR]
theorem PJ:L0 (i + 1) (o::ρ) π=L0 i ρ π:=rfl
theorem D6:G5 0 (some (.ow (.tree p (.Bj b ks (vs.map .sh))))::ρ) []=.ok (b,ks,vs):=by unfold G5;simp[MR,CG]
theorem PL:G5 (i + 1) (o::ρ) π=G5 i ρ π:=rfl
theorem JA:IE 0 (some (.own ds)::ρ) [] u=.ok (.next (some (toCl none u)::ρ)):=by unfold IE;simp[treeOf]
theorem JB:IE 0 (some (.ow (.Lr n ds))::ρ) [] u=.ok (.next (some (toCl (some n) u)::ρ)):=by unfold IE;simp[treeOf]
theorem Hy:IE 0 (some (.ow (.tree p t))::ρ) π u=.ok (.next (some (toCl p (EZ t π u))::ρ)):=by unfold IE;simp[treeOf]
theorem UN:IE (i + 1) (o::ρ) π u=Rt (o::·) (IE i ρ π u):=by
 unfold IE Rt
 simp only[zS,zm]
 split
 ·rename_i c e
  split<;>simp_all
 ·simp_all
theorem JC:VG 0 (some (.own ds)::ρ) (.ok d)=if ds.length < 1000 then .ok (.next (some (.own (ds++[d]))::ρ)) else .bad:=rfl
theorem UO:VG (i + 1) (o::ρ) m=Rt (o::·) (VG i ρ m):=by
 unfold VG
 rw[zS]
 cases q:ρ[i]? with
 |none=>rfl
 |some oo =>
  cases oo with
  |none=>rfl
  |some c =>
   cases c with
   |own ds =>
    cases m with
    |ok d =>
     simp only[M.A8,zm]
     by_cases h:ds.length < 1000
     ·rw[if_pos h,if_pos h];rfl
     ·rw[if_neg h,if_neg h];rfl
    |ex x=>rfl
    |bad=>rfl
   |val d=>rfl
   |ow w=>rfl
theorem JD {j:Int}:VW 0 (some (.own ds)::ρ) (.ok (.int j)) (.ok d)=if 0<=j/\j.toNat<=ds.length/\ds.length < 1000 then .ok (.next (some (.own (ds.take j.toNat++d::ds.drop j.toNat))::ρ)) else .bad:=rfl
theorem UP {m2:M D}:VW (i + 1) (o::ρ) m m2=Rt (o::·) (VW i ρ m m2):=by
 unfold VW
 rw[zS]
 cases q:ρ[i]? with
 |none=>rfl
 |some oo =>
  cases oo with
  |none=>rfl
  |some c =>
   cases c with
   |own ds =>
    cases m with
    |ok d =>
     cases m2 with
     |ok d2 =>
      simp only[M.A8,zm]
      cases d with
      |int j =>
       dsimp only
       by_cases h:0<=j/\j.toNat<=ds.length/\ds.length < 1000
       ·rw[if_pos h,if_pos h];rfl
       ·rw[if_neg h,if_neg h];rfl
      |_=>rfl
     |ex x=>rfl
     |bad=>rfl
    |ex x=>rfl
    |bad=>rfl
   |val d=>rfl
   |ow w=>rfl
theorem JE:Tg 0 (some (.val d)::ρ)=.ok (.ret d):=rfl
theorem JF:Tg 0 (some (.own ds)::ρ)=.ok (.CH (.own ds)):=rfl
theorem LI {w:Ow}:Tg 0 (some (.ow w)::ρ)=.ok (.CH (.ow w)):=rfl
theorem UQ:Tg (i + 1) (o::ρ)=Tg i ρ:=rfl
theorem vC:tH i ρ π=match UH i ρ π with | some (.sh d)=>.ok d | _=>.bad:=rfl
theorem eQ:Y0 (i + 1) (o::ρ)=o::Y0 i ρ:=by
 unfold Y0
 simp only[zS,zm]
 split<;>simp_all
theorem eR {c:Cl}:Y0 0 (some c::ρ)=some (Li c)::ρ:=rfl
theorem JG:Li (.val d)=.val d:=rfl
theorem JH:Li (.own ds)=.val (.lst ds):=rfl
theorem JI:Li (.ow (.Lr n ds))=.val (.lst ds):=rfl
theorem LJ:Li (.ow (.tree p t))=.val (er t):=rfl
theorem IG:er (.Bj b ks (vs.map .sh))=.Bj b ks vs:=by rw[er,Py]
theorem Kw:er (.lst (ds.map .sh))=.lst ds:=by rw[er,Py]
theorem Ru:er (.sh d)=d:=rfl
theorem rL {l:List (Option Nat)}:BA (none::l) ρ=none::BA l ρ:=rfl
theorem rM:BA [] ρ=[]:=rfl
theorem eS {l:List (Option Nat)}:BA (some i::l) ρ=(match ρ[i]? with | some (some (.val d))=>some (.val d) | _=>none)::BA l ρ:=rfl
theorem eT {α:Type}{x y:α}:(if ([]:List D).length<=1000 then x else y)=x:=if_pos (by show 0<=1000;decide)
theorem eU {α:Type}{x y:α}{a:D}:(if [a].length<=1000 then x else y)=x:=if_pos (by show 1<=1000;decide)
theorem eV {α:Type}{x y:α}{a b:D}:(if [a,b].length<=1000 then x else y)=x:=if_pos (by show 2<=1000;decide)
theorem eW {α:Type}{x y:α}{a b c:D}:(if [a,b,c].length<=1000 then x else y)=x:=if_pos (by show 3<=1000;decide)
theorem eX {α:Type}{x y:α}{a b c d:D}:(if [a,b,c,d].length<=1000 then x else y)=x:=if_pos (by show 4<=1000;decide)
theorem toCl_nil:toCl none (.lst [])=.own []:=rfl
theorem Cw {α:Type}{gt:D->Ab->M Ab}{ft:Ab->M Bool}{fe:Ab->M D}{g:α->D}(p:α->Bool) (f:α->D):∀ {l:List α},(∀ x∈l,∃ ρ1,gt (g x) ρ=.ok ρ1/\ft ρ1=.ok (p x)/\(p x=true->fe ρ1=.ok (f x)))->B8 gt ft fe (l.map g) ρ=.ok ((l.filter p).map f)
 |[],_=>rfl
 |x::r,h=>by
  obtain⟨ρ1,h1,h2,h3⟩:=h x ze
  have ih:=Cw (gt:=gt) (ft:=ft) (fe:=fe) (g:=g) p f (l:=r) fun y hy=>h y (zf _ hy)
  rw[zg,B8,h1]
  dsimp only
  rw[h2]
  dsimp only
  rw[List.filter_cons]
  cases hp:p x with
  |true =>
   rw[if_pos rfl,h3 hp]
   dsimp only
   rw[ih]
   simp
  |false=>simp[ih]
theorem D7 {α:Type}{gt:D->Ab->M Ab}{ft:Ab->M Bool}{fe:Ab->M D}{g:α->D}(f:α->D){l:List α}(h:∀ x∈l,∃ ρ1,gt (g x) ρ=.ok ρ1/\ft ρ1=.ok true/\fe ρ1=.ok (f x)):B8 gt ft fe (l.map g) ρ=.ok (l.map f):=by
 have:=Cw (gt:=gt) (ft:=ft) (fe:=fe) (ρ:=ρ) (g:=g) (fun _=>true) f (l:=l) fun x hx=>by
  obtain⟨ρ1,h1,h2,h3⟩:=h x hx
  exact⟨ρ1,h1,h2,fun _=>h3⟩
 rw[this,List.filter_eq_self.mpr (fun _ _=>rfl)]
theorem BQ {α:Type}{g:α->D}{l:List α}{i:Nat}{d:D}(h:(l.map g)[i]? =some d):∃ x,l[i]? =some x/\d=g x:=by
 rw[zD] at h
 cases q:l[i]? with
 |none=>rw[q] at h;cases h
 |some x=>rw[q] at h;cases h;exact⟨x,rfl,rfl⟩
theorem PM:eE (.lst (ds.map .sh))=.ok ds:=by unfold eE;simp[CG,eC]
theorem Hz {α:Type}{x:α}:eC (some x)=.ok x:=rfl
theorem LK:Rl i ρ (.sh d)=.ok (.next (ρ.set i (some (.val d)))):=rfl
theorem JJ:Rl i ρ (.lst ts)=.ok (.next (ρ.set i (some (toCl none (.lst ts))))):=rfl
theorem JK:Rl i ρ (.tup ts)=.ok (.next (ρ.set i (some (.ow (.tree none (.tup ts)))))):=rfl
theorem JL:Rl i ρ (.Bj b ks ts)=.ok (.next (ρ.set i (some (.ow (.tree none (.Bj b ks ts)))))):=rfl
theorem JM {x:Str}{ns:List Str}:Rl i ρ (.ins x ns ts)=.ok (.next (ρ.set i (some (.ow (.tree none (.ins x ns ts)))))):=rfl
theorem LL:XZ (.sh d)=.ok (.ret d):=rfl
theorem JN:XZ (.lst ts)=.ok (.CH (.ow (.tree none (.lst ts)))):=rfl
theorem JO:XZ (.tup ts)=.ok (.CH (.ow (.tree none (.tup ts)))):=rfl
theorem JP:XZ (.Bj b ks ts)=.ok (.CH (.ow (.tree none (.Bj b ks ts)))):=rfl
theorem Rv {α:Type}{f:α->D}(h:∀ x,Je (f x)=true):∀ l:List α,Jf (l.map f)=true
 |[]=>by simp[Jf]
 |x::r=>by rw[zg,Jf,h x,Rv h r];rfl
theorem Rw:∀ ds:List D,G4 (ds.map .sh)=Jf ds
 |[]=>by simp[Jf,G4]
 |d::r=>by rw[zg,G4,GD,Rw r,Jf]
theorem lL (h:Je d=true):Sq (.ok (.sh d))=.ok (.sh d):=by unfold Sq;simp[GD,h]
theorem eY (h:Jf ds=true):Sq (.ok (.lst (ds.map .sh)))=.ok (.lst (ds.map .sh)):=by unfold Sq;simp[GD,Rw,h]
theorem eZ {i:Int}:Je (.int i)=true:=by simp[Je]
theorem Yd:F0 (.lst ds)=.ok (!ds.isEmpty):=rfl
theorem lM {a s m:Int}(h0:0<=a) (h1:a < m) (s0:1<=s) (s1:s < m):(a + s) % m≠a:=by
 by_cases h:a + s < m
 ·rw[Int.emod_eq_of_lt (by omega) h];omega
 ·have e:(a + s) % m=(a + s - m) % m:=by rw[Int.sub_emod_right]
  rw[e,Int.emod_eq_of_lt (by omega) (by omega)];omega
theorem LM {k:Nat}(i j:Int):ZV k (.int i) (.int j)=.ok (.bl (decide (i=j))):=by
 rw[Ta (Iz _) (Iz _)]
 simp only[Aw,Bool.beq_eq_decide_eq]
theorem LN {k:Nat}(i j:Int):Ze k (.int i) (.int j)=.ok (.bl (!decide (i=j))):=by
 rw[Tb (Iz _) (Iz _)]
 simp only[Aw,Bool.beq_eq_decide_eq]
theorem JQ {i j:Int}:pI (.int i) (.int j)=.ok (.int (i + j)):=rfl
theorem JR {i j:Int}:pJ (.int i) (.int j)=.ok (.int (i - j)):=rfl
theorem LO {i j:Int}:uH (.int i) (.int j)=.ok (.bl (decide (i < j))):=rfl
theorem LP {i j:Int}:wA (.int i) (.int j)=.ok (.bl (decide (i<=j))):=rfl
theorem LQ {i j:Int}:uI (.int i) (.int j)=.ok (.bl (decide (j < i))):=rfl
theorem LR {i j:Int}:wB (.int i) (.int j)=.ok (.bl (decide (j<=i))):=rfl
theorem LS {i:Int}:uJ (.int i)=.ok (some i):=rfl
theorem JS:VD [.lst ds]=.ok (.int ds.length):=rfl
theorem JT:VD [.tup ds]=.ok (.int ds.length):=rfl
theorem ite_tt {α:Type}{x y:α}:(if true=true then x else y)=x:=rfl
theorem ite_ff {α:Type}{x y:α}:(if false=true then x else y)=y:=rfl
theorem Ye {lo hi:Option Int}{x:D}(h:mZ lo hi x=.ok (.lst ds)):eJ lo hi x=.ok (.lst (ds.map .sh)):=by
 unfold mZ at h
 unfold eJ
 cases x with
 |lst xs=>dsimp only at h ⊢;injection h with h;injection h with h;rw[h]
 |_=>cases h
theorem Rx (xs:List D) (k:Nat):eJ (some (k:Int)) none (.lst xs)=.ok (.lst ((xs.drop k).map .sh)):=Ye (XC xs k)
theorem fA (xs:List D) (a b:Nat):eJ (some (a:Int)) (some (b:Int)) (.lst xs)=.ok (.lst (((xs.drop a).take (b - a)).map .sh)):=Ye (cZ xs a b)
theorem JU:Kv (.lst ds)=.ok (.lst (ds.map .sh)):=rfl
theorem JV:Kv (.tup ds)=.ok (.lst (ds.map .sh)):=rfl
theorem HA {ns:List Int}:qE [.lst (ns.map D.int)]=.ok (.int ns.sum):=by unfold qE;dsimp only;rw[DR]
theorem HB {T:String}:J9 T (.lst ds)=.ok (.bl (EB T (.lst ds))):=rfl
theorem HC {T:String}:J9 T (.tup ds)=.ok (.bl (EB T (.tup ds))):=rfl
theorem HD {T:String}{k:Int}:J9 T (.int k)=.ok (.bl (EB T (.int k))):=rfl
theorem HE {T:String}:J9 T .AA=.ok (.bl (EB T .AA)):=rfl
theorem JW {T:String}{k:Bool}:J9 T (.bl k)=.ok (.bl (EB T (.bl k))):=rfl
theorem HF {T:String}{k:Str}:J9 T (.str k)=.ok (.bl (EB T (.str k))):=rfl
theorem HG {T:String}:J9 T (.Bj b ks vs)=.ok (.bl (EB T (.Bj b ks vs))):=rfl
theorem UR:EB "list" (.lst ds)=true:=rfl
theorem US:EB "tuple" (.tup ds)=true:=rfl
theorem UT {k:Int}:EB "int" (.int k)=true:=rfl
theorem UU {k:Int}:EB "bool" (.int k)=false:=rfl
theorem UW:EB "dict" (.Bj b ks vs)=true:=rfl
theorem HH {neg:Bool}{k:Int}{ns:List Int}:Jq neg (.int k) (.lst (ns.map D.int))=.ok (.bl (if neg then !ns.contains k else ns.contains k)):=by
 unfold Jq rF
 dsimp only
 rw[DR]
noncomputable def vO (s:Option D):Option Cl:=s.map .val
theorem LU {s:Option D}:EC (vO s::ρ)=vO s::EC ρ:=by cases s<;>rfl
end
end L2
namespace L2
open PySem PySem.Spec PyProof.Rows
noncomputable def pD (p:Int×Int):D:=.tup [.int p.1,.int p.2]
theorem GG (p q:Int×Int):Aw (pD p) (pD q)=decide (p=q):=by
 obtain⟨a,b⟩:=p
 obtain⟨c,d⟩:=q
 unfold pD
 simp only[Aw,Cv,Bool.and_true]
 rw[zak]
 simp
theorem GH (p:Int×Int):keyOk true (pD p)=true:=rfl
theorem UX (B:List (Int×Int)) (p:Int×Int):Lj (B.map pD) (pD p)=decide (p∈B):=by
 unfold Lj
 rw[List.any_map,zak]
 simp only[List.any_eq_true,Function.comp,GG,decide_eq_true_eq]
 constructor
 ·rintro ⟨x,hx,rfl⟩;exact hx
 ·intro h;exact⟨p,h,rfl⟩
theorem PN (B:List (Int×Int)) (vs:List D) (neg:Bool) (a b:Int):Jq neg (.tup [.int a,.int b]) (.Bj true (B.map pD) vs)=.ok (.bl (if neg=true then !decide ((a,b)∈B) else decide ((a,b)∈B))):=by
 unfold Jq
 dsimp only
 have h1:keyOk true (D.tup [D.int a,D.int b])=true:=rfl
 have h2:Lj (B.map pD) (D.tup [D.int a,D.int b])=decide ((a,b)∈B):=UX B (a,b)
 rw[if_pos h1,h2]
noncomputable def Kx (B:List (Int×Int)) (p:Int×Int):List (Int×Int):=if p∈B then B else B++[p]
noncomputable def CY {α:Type}(B:List α):List D:=B.map fun _=>.bl true
theorem OB {α:Type}(f:α->D) (y:D):∀ B:List α,ID (B.map f) (CY B) y (.bl true)=CY B
 |[]=>rfl
 |b::r=>by
  show ID (f b::r.map f) (.bl true::CY r) y (.bl true)=.bl true::CY r
  rw[ID,OB f y r]
  split<;>rfl
theorem UY (B:List (Int×Int)) (p:Int×Int):putD (B.map pD) (CY B) (pD p) (.bl true)=((Kx B p).map pD,CY (Kx B p)):=by
 unfold putD Kx
 rw[UX]
 by_cases h:p∈B
 ·rw[decide_eq_true h,if_pos rfl,if_pos h,OB]
 ·rw[decide_eq_false h,if_neg (by simp),if_neg h]
  unfold CY
  simp
theorem Ry {B:List (Int×Int)}{p q:Int×Int}:q∈Kx B p↔q∈B\/q=p:=by
 unfold Kx
 split
 ·constructor
  ·exact .inl
  ·rintro (h|rfl)
   ·exact h
   ·assumption
 ·simp
theorem Tj {B:List (Int×Int)}{p:Int×Int}(h:B.Nodup):(Kx B p).Nodup:=by
 unfold Kx
 split
 ·exact h
 ·rename_i hn
  exact zJ.mpr ⟨h,by simp,fun a ha b hb z=>by simp at hb;subst hb;subst z;exact hn ha⟩
theorem Ky {α:Type} [DecidableEq α]:∀ {l u:List α},l.Nodup->(∀ x∈l,x∈u)->l.length<=u.length
 |[],_,_,_=>zX _
 |x::r,u,nd,h=>by
  have b7:=yJ.mp nd
  have hx:=h x ze
  have ih:=Ky (l:=r) (u:=u.erase x) b7.2 fun y hy=>(List.mem_erase_of_ne (fun z=>b7.1 (by rw[<-z];exact hy))).mpr (h y (zf _ hy))
  have e:=List.length_erase_of_mem hx
  have:0 < u.length:=List.length_pos_of_mem hx
  rw[zo]
  omega
theorem Yg (p:Int×Int):Je (pD p)=true:=by simp[pD,Je,Jf]
noncomputable def AV (m:Nat):List Int:=(yR m).map fun i:Nat=>(i:Int)
theorem MS (m:Nat):((yR m).map fun i:Nat=>D.int (i:Int))=(AV m).map D.int:=by unfold AV;rw[yF];rfl
theorem Fl (m:Nat):(AV m).length=m:=by unfold AV;simp
theorem JX {m:Nat}{p:Int}:p∈AV m↔0<=p/\p < m:=by
 unfold AV
 constructor
 ·intro h
  obtain⟨i,hi,rfl⟩:=zE.mp h
  have:=zb6.mp hi
  omega
 ·rintro ⟨h0,h1⟩
  exact zE.mpr ⟨p.toNat,zb6.mpr (by omega),by omega⟩
noncomputable def B1 (B:List (Int×Int)) (L:List Int) (v:Int):List (Int×Int):=(L.filter fun u=>decide ((u,v)∈B)).flatMap fun u=>((L.filter fun w=>decide ((v,w)∈B)).filter fun w=>decide (u≠w) && !decide ((u,w)∈B)).map fun w=>(u,w)
noncomputable def lN (B:List (Int×Int)):Prop:=∀ x,(x,x)∉B
theorem W7 (B:List (Int×Int)) (L:List Int) (v:Int):(B1 B L v).length<=L.length * L.length:=by
 unfold B1
 rw[List.length_flatMap]
 have key:∀ l:List Int,(l.map fun u=>(((L.filter fun w=>decide ((v,w)∈B)).filter fun w=>decide (u≠w) && !decide ((u,w)∈B)).map fun w=>(u,w)).length).sum<=l.length * L.length:=by
  intro l
  induction l with
  |nil=>simp
  |cons u r ih =>
   rw[zg,List.sum_cons,zo,Nat.succ_mul]
   have:(((L.filter fun w=>decide ((v,w)∈B)).filter fun w=>decide (u≠w) && !decide ((u,w)∈B)).map fun w=>(u,w)).length<=L.length:=by
    rw[zc]
    exact yP (zav _ _) (zav _ _)
   omega
 exact yP (key _) (Nat.mul_le_mul_right _ (zav _ _))
theorem OC {α:Type}(f:α->List Int):∀ l:List α,Gx (l.map fun x=>D.tup ((f x).map D.int))=some (l.map fun x=>(D.tup ((f x).map D.int),f x))
 |[]=>rfl
 |x::r=>by
  rw[zg,Gx,OC f r]
  simp[Xy,DR]
theorem OD {B:List (Int×Int)}{L:List Int}{v:Int}{p:Int×Int}(h:p∈B1 B L v):p.1∈L/\p.2∈L/\p.1≠p.2:=by
 unfold B1 at h
 obtain⟨u,hu,h⟩:=List.mem_flatMap.mp h
 obtain⟨w,hw,rfl⟩:=zE.mp h
 have h1:=yX.mp hw
 have h2:=yX.mp h1.1
 have h3:=yX.mp hu
 simp at h1
 exact⟨h3.1,h2.1,h1.2.1⟩
noncomputable def Cm (B ps:List (Int×Int)):List (Int×Int):=ps.foldl Kx B
structure Cn (m:Nat) (B:List (Int×Int)):Prop where
 nd:B.Nodup
 no:lN B
 vD:∀ p∈B,(0<=p.1/\p.1 < m)/\(0<=p.2/\p.2 < m)
theorem Cn.add {m:Nat}{B:List (Int×Int)}(h:Cn m B){p:Int×Int}(hp:p.1≠p.2) (h1:0<=p.1/\p.1 < m) (h2:0<=p.2/\p.2 < m):Cn m (Kx B p):=by
 refine⟨Tj h.nd,fun x hx=>?_,fun q hq=>?_⟩
 ·rcases Ry.mp hx with z|z
  ·exact h.no x z
  ·subst z;exact hp rfl
 ·rcases Ry.mp hq with z|z
  ·exact h.vD q z
  ·subst z;exact⟨h1,h2⟩
theorem Cn.Cm {m:Nat}{B:List (Int×Int)}(h:Cn m B):∀ {ps:List (Int×Int)},(∀ p∈ps,p.1≠p.2/\(0<=p.1/\p.1 < m)/\(0<=p.2/\p.2 < m))->Cn m (L2.Cm B ps):=by
 intro ps
 induction ps generalizing B with
 |nil=>intro _;exact h
 |cons p r ih =>
  intro hp
  have:=hp p ze
  exact ih (h.add this.1 this.2.1 this.2.2) fun q hq=>hp q (zf _ hq)
theorem Cn.len {m:Nat}{B:List (Int×Int)}(h:Cn m B) (hm:m<=20):B.length < 1000:=by
 have key:=Ky (l:=B) (u:=(yR m).flatMap fun i:Nat=>(yR m).map fun j:Nat=>((i:Int),(j:Int))) h.nd fun p hp=>by
  obtain⟨h1,h2⟩:=h.vD p hp
  refine List.mem_flatMap.mpr ⟨p.1.toNat,zb6.mpr (by omega),zE.mpr ⟨p.2.toNat,zb6.mpr (by omega),?_⟩⟩
  rw[Int.toNat_of_nonneg h1.1,Int.toNat_of_nonneg h2.1]
 have e:((yR m).flatMap fun i:Nat=>(yR m).map fun j:Nat=>((i:Int),(j:Int))).length=m * m:=by
  rw[List.length_flatMap]
  simp[List.map_const',List.sum_replicate_nat]
 rw[e] at key
 have:m * m<=20 * 20:=Nat.mul_le_mul hm hm
 omega
theorem F1 (a b c d:Int):HT.lexLt [a,b] [c,d]=decide (a < c\/(a=c/\b < d)):=by
 rw[HT.Fu,HT.Fu,HT.EV,zak]
 by_cases h1:a=c
 ·subst h1
  by_cases h2:b=d
  ·subst h2;simp
  ·simp[h2]
 ·simp[h1]
theorem W8 {α β:Type}(f:α->β):∀ bs:List (α×List Int),AX (bs.map fun b=>(f b.1,b.2))=(AX bs).map fun b=>(f b.1,b.2):=by
 intro bs
 unfold AX
 suffices z:∀ o:Option (α×List Int),(bs.map fun b=>(f b.1,b.2)).foldl BK (o.map fun b=>(f b.1,b.2))=(bs.foldl BK o).map fun b=>(f b.1,b.2) from z none
 induction bs with
 |nil=>intro o;rfl
 |cons b r ih =>
  intro o
  rw[zg,zU,zU,<-ih]
  congr 1
  cases o with
  |none=>rfl
  |some c =>
   unfold BK
   dsimp only [za9]
   split<;>rfl
theorem Yh {α:Type}:∀(bs:List (α×List Int)) (o:Option (α×List Int)) (b:α×List Int),bs.foldl BK o=some b->b∈bs\/o=some b:=by
 intro bs
 induction bs with
 |nil=>intro o b h;exact .inr h
 |cons x r ih =>
  intro o b h
  rw[zU] at h
  rcases ih _ _ h with q|q
  ·exact .inl (zf _ q)
  ·cases o with
   |none=>cases q;exact .inl ze
   |some c =>
    unfold BK at q
    dsimp only at q
    split at q
    ·cases q;exact .inl ze
    ·exact .inr q
theorem W9 {α:Type}{bs:List (α×List Int)}(h2:∀ b∈bs,∃ x y:Int,b.2=[x,y]){b:α×List Int}(hb:AX bs=some b):∀ c∈bs,HT.lexLt c.2 b.2=false:=by
 unfold AX at hb
 suffices z:∀(bs:List (α×List Int)) (o:Option (α×List Int)),(∀ b∈bs,∃ x y:Int,b.2=[x,y])->(∀ b,o=some b->∃ x y:Int,b.2=[x,y])->∀ b,bs.foldl BK o=some b->(∀ c∈bs,HT.lexLt c.2 b.2=false)/\(∀ c,o=some c->HT.lexLt c.2 b.2=false) from (z bs none h2 (fun b h=>by cases h) b hb).1
 intro bs
 induction bs with
 |nil =>
  intro o _ ho b h
  refine⟨fun c hc=>(by cases hc),fun c hc=>?_⟩
  have e:o=some b:=h
  rw[hc] at e
  cases e
  obtain⟨x,y,e⟩:=ho _ hc
  rw[e,F1]
  simp
 |cons d r ih =>
  intro o h2 ho b h
  rw[zU] at h
  have hd:=h2 d ze
  have aY:∀ b,BK o d=some b->∃ x y:Int,b.2=[x,y]:=fun b hb=>by
   unfold BK at hb
   cases o with
   |none=>cases hb;exact hd
   |some c =>
    dsimp only at hb
    split at hb
    ·cases hb;exact hd
    ·cases hb;exact ho _ rfl
  obtain⟨i1,i2⟩:=ih (BK o d) (fun c hc=>h2 c (zf _ hc)) aY b h
  have wL:=IF o d
  obtain⟨k,hk⟩:∃ k,BK o d=some k:=by
   cases q:BK o d with
   |none=>exact (wL q).elim
   |some k=>exact⟨k,rfl⟩
  have wM:=i2 k hk
  obtain⟨kx,ky,ek⟩:=aY k hk
  have fb:∃ x y:Int,b.2=[x,y]:=by
   have:=Yh r (BK o d) b h
   rcases this with z|z
   ·exact h2 b (zf _ z)
   ·exact aY b z
  obtain⟨bx,yz,eb⟩:=fb
  obtain⟨dx,dy,ed⟩:=hd
  rw[ek,eb,F1,decide_eq_false_iff_not] at wM
  have cF:HT.lexLt d.2 b.2=false/\∀ c,o=some c->HT.lexLt c.2 b.2=false:=by
   unfold BK at hk
   cases o with
   |none =>
    cases hk
    rw[ed] at ek
    injection ek with e1 e2
    injection e2 with e2 _
    refine⟨?_,fun c hc=>by cases hc⟩
    rw[ed,eb,F1,decide_eq_false_iff_not]
    omega
   |some c =>
    obtain⟨cx,cy,ec⟩:=ho c rfl
    dsimp only at hk
    rw[ed,ec,F1] at hk
    by_cases hl:dx < cx\/(dx=cx/\dy < cy)
    ·rw[if_pos (decide_eq_true hl)] at hk
     cases hk
     rw[ed] at ek
     injection ek with e1 e2
     injection e2 with e2 _
     refine⟨?_,fun c' bT=>?_⟩
     ·rw[ed,eb,F1,decide_eq_false_iff_not];omega
     ·cases bT
      rw[ec,eb,F1,decide_eq_false_iff_not];omega
    ·rw[if_neg (by simpa using hl)] at hk
     cases hk
     rw[ec] at ek
     injection ek with e1 e2
     injection e2 with e2 _
     refine⟨?_,fun c' bT=>?_⟩
     ·rw[ed,eb,F1,decide_eq_false_iff_not];omega
     ·cases bT
      rw[ec,eb,F1,decide_eq_false_iff_not];omega
  refine⟨fun c hc=>?_,cF.2⟩
  rcases zu.mp hc with z|z
  ·rw[z];exact cF.1
  ·exact i1 c z
noncomputable def Bk (B:List (Int×Int)) (L:List Int):Int:=match AX (L.map fun p=>(p,[((B1 B L p).length:Int),p])) with
 |some k=>k.1
 |none=>0
theorem OE {B:List (Int×Int)}{L:List Int}(h:L≠[]):Bk B L∈L/\∀ p∈L,¬ (((B1 B L p).length:Int) < (B1 B L (Bk B L)).length\/(((B1 B L p).length:Int)=(B1 B L (Bk B L)).length/\p < Bk B L)):=by
 unfold Bk
 cases q:AX (L.map fun p=>(p,[((B1 B L p).length:Int),p])) with
 |none=>exact (MN (fun z=>h (List.map_eq_nil_iff.mp z)) q).elim
 |some k =>
  obtain⟨p,hp,rfl⟩:=zE.mp (Kl _ _ q)
  refine⟨hp,fun p' fc=>?_⟩
  have:=W9 (fun b hb=>by obtain⟨x,_,rfl⟩:=zE.mp hb;exact⟨_,_,rfl⟩) q _ (zE.mpr ⟨p',fc,rfl⟩)
  rw[F1,decide_eq_false_iff_not] at this
  exact this
noncomputable def Ss:Nat->List (Int×Int)->List Int->List Int
 |0,_,_=>[]
 |n + 1,B,L=>if L=[] then [] else Bk B L::Ss n (Cm B (B1 B L (Bk B L))) (L.erase (Bk B L))
noncomputable def BC (rs:List Road):List (Int×Int):=rs.foldl (fun B r=>match r.l with | none=>B | some _=>Kx B (r.a,r.b)) []
theorem Rz {m:Nat}:∀ {rs:List Road},(∀ r∈rs,Hq m r/\r.a≠r.b)->Cn m (BC rs):=by
 intro rs
 suffices z:∀(rs:List Road) (B:List (Int×Int)),Cn m B->(∀ r∈rs,Hq m r/\r.a≠r.b)->Cn m (rs.foldl (fun B r=>match r.l with|none=>B|some _=>Kx B (r.a,r.b)) B) from fun h=>z rs [] ⟨za1,fun x h=>(by cases h),fun p h=>(by cases h)⟩ h
 intro rs
 induction rs with
 |nil=>intro B h _;exact h
 |cons r t ih =>
  intro B h hr
  rw[zU]
  refine ih _ ?_ fun r' h'=>hr r' (zf _ h')
  have:=hr r ze
  cases r.l with
  |none=>exact h
  |some l=>exact h.add this.2 ⟨this.1.a0,this.1.a1⟩ ⟨this.1.b0,this.1.b1⟩
end L2
namespace L2
open PySem PySem.Spec PyProof.Rows
noncomputable def Tn (x:Int):List Int->List Int
 |[]=>[x]
 |y::r=>if x<=y then x::y::r else y::Tn x r
noncomputable def G6:List Int->List Int
 |[]=>[]
 |x::r=>Tn x (G6 r)
theorem Kz (x:Int):∀ l:List Int,(Tn x l).Perm (x::l)
 |[]=>.refl _
 |y::r=>by
  unfold Tn
  split
  ·exact .refl _
  ·exact ((Kz x r).cons y).trans (.swap x y r)
theorem Ej:∀ l:List Int,(G6 l).Perm l
 |[]=>.refl _
 |x::r=>(Kz x (G6 r)).trans ((Ej r).cons x)
theorem L3 (x:Int):∀ l:List Int,l.Pairwise (·<=·)->(Tn x l).Pairwise (·<=·)
 |[],_=>by simp[Tn]
 |y::r,h=>by
  unfold Tn
  have hy:=List.pairwise_cons.mp h
  split
  ·rename_i bQ
   exact List.pairwise_cons.mpr ⟨fun z hz=>by
    rcases zu.mp hz with rfl|hz
    ·exact bQ
    ·exact Int.le_trans bQ (hy.1 z hz),h⟩
  ·rename_i bQ
   exact List.pairwise_cons.mpr ⟨fun z hz=>by
    rcases zu.mp ((Kz x r).mem_iff.mp hz) with rfl|hz
    ·omega
    ·exact hy.1 z hz,L3 x r hy.2⟩
theorem FE:∀ l:List Int,(G6 l).Pairwise (·<=·)
 |[]=>.nil
 |x::r=>L3 x _ (FE r)
theorem GI:∀ {a b:List Int},a.Perm b->a.Pairwise (·<=·)->b.Pairwise (·<=·)->a=b
 |[],b,hp,_,_=>(List.nil_perm.mp hp).symm
 |x::r,[],hp,_,_=>by have:=hp.length_eq;simp at this
 |x::r,y::t,hp,ha,hb=>by
  have cG:=List.pairwise_cons.mp ha
  have aE:=List.pairwise_cons.mp hb
  have e:x=y:=by
   have h1:x∈y::t:=hp.mem_iff.mp (ze ..)
   have h2:y∈x::r:=hp.mem_iff.mpr (ze ..)
   rcases zu.mp h1 with e|h1
   ·exact e
   rcases zu.mp h2 with e|h2
   ·exact e.symm
   have:=cG.1 _ h2
   have:=aE.1 _ h1
   omega
  subst e
  rw[GI (List.Perm.cons_inv hp) cG.2 aE.2]
theorem JY:∀ {us:List Value}{ns:List Int},IntsAre us ns->Vals (ns.map V.int) us
 |_,_,.nil=>.nil
 |_,_,.cons n t h=>.cons ⟨t,rfl⟩ (JY h)
theorem MT {K:za}{H:Hp}:∀ l:List Int,Ah K H (l.map V.int) (l.map D.int)
 |[]=>.nil
 |x::r=>.cons (.int _) (MT r)
section
variable {X:Cx}{WX:Str->Hp->Prop}{c:Bool}{P0:EA}{P:Addr->Prop}{H:Hp}{σ:St}{ρ:Ab}{a b e:Expr}{f g:Ab->M D}{fn:Ab->M OT}{pos:Pos}{te:TE}
noncomputable def tL (X:Cx) (te:TE):TE:=fun σ H Q=>te σ H fun x H1=>∃ p ns,x=.ref p/\Dm X.K H1 p (List.map V.int ns)/\ns.length < 64/\∀ r,H1 r=none->Q (.ref r) (upd H1 r (.lst ((G6 ns).map V.int)))
theorem Wa {p:Pos}(hc:X.calm=true) (hg:Gl X "sorted") (hm:X.mg "sorted" = none) (he:PE X e te)
 (hv:bootBuiltins "sorted" = some (.builtin "sorted"):=by decide +kernel)
 (hs:starEach [e] X.env=[(false,eval e X.env)]:=by rfl) :
 PE X (.Call (.Name "sorted" p) [e] [] pos) (tL X te):=by
 intro pins s σ H Q I h
 refine wpAny_Call_Name_kw (E6 I hg hm hv ?_)
 refine PyProof.Rows.callWith_builtin1 ?_ hs
 rw[hs]
 refine zas (Bg (he pins s σ H _ I h) fun u s1 ⟨x,H1,I1,r1,q1⟩=>?_)
 obtain⟨q,ns,rfl,hq,wN,h⟩:=q1
 cases r1
 refine zb0 ?_
 obtain⟨aa,r',pl,hz⟩:=I1.list hq
 have hi:=intsAre_of r'
 have o9:=r'.length
 rw[zc] at o9
 refine sorted_ints pl.isList hi (by omega) fun out cQ b1 b2 b3=>?_
 obtain⟨c',aH⟩:=sortedAll_at s1.heap aa out
 have e:cQ=G6 ns:=GI (b2.trans (Ej ns).symm) b3 (FE ns)
 subst e
 refine⟨.ref _,_,I1.laid (t':=s1.toks) (o:=.lst ((G6 ns).map V.int)) (fun b o e=>sortedAll_old e) (Nat.le_succ _) ⟨?_,out.toList,c',JY b1,by simpa using aH⟩,rfl,h _ (I1.Av.fresh (Nat.le_succ _))⟩
 rw[zc,(Ej ns).length_eq]
 exact yQ (AG (by omega))
noncomputable def fB (d:D):M OT:=match d with
 | .lst xs=>(match CC xs with|some ns=>if ns.length < 64 then .ok (.lst (((G6 ns).map .int).map .sh)) else .bad|none=>.bad)
 |_=>.bad
theorem Wb {ns:List Int}(h:ns.length < 64):fB (.lst (ns.map .int))=.ok (.lst (((G6 ns).map .int).map .sh)):=by
 unfold fB
 dsimp only
 rw[DR]
 dsimp only
 rw[if_pos h]
theorem Wc {p:Pos}(hc:X.calm=true) (hg:Gl X "sorted") (hm:X.mg "sorted" = none) (he:DE X WX true e f)
 (hv:bootBuiltins "sorted" = some (.builtin "sorted"):=by decide +kernel)
 (hs:starEach [e] X.env=[(false,eval e X.env)]:=by rfl) :
 DN X WX (.Call (.Name "sorted" p) [e] [] pos) (fun ρ=>(f ρ).bind fB):=by
 obtain⟨te,e1,e2⟩:=he
 refine⟨_,Wa hc hg hm e1 hv hs,fun P0 P σ H Q ρ E h=>?_⟩
 refine e2 P0 P σ H _ ρ E ?_
 dsimp only at h
 cases q:f ρ with
 |bad=>rw[q] at h;exact h
 |ex x=>rw[q] at h;exact h
 |ok d =>
  rw[q] at h
  simp only[M.A8] at h
  intro v H1 s1 hv
  unfold fB at h
  split at h
  ·rename_i xs
   split at h
   ·rename_i ns eb
    have:=DU eb
    subst this
    split at h
    ·rename_i hl
     cases hv with
     |lst hs hh =>
      have:=Ee hh
      subst this
      exact⟨_,ns,rfl,hs.Bo,hl,h.Kv s1 (MT _)⟩
    ·exact h.elim
   ·exact h.elim
  ·exact h.elim
noncomputable def fC (d k:D):M OT:=match k with
 | .int j=>if 0<=j/\j.toNat<=1000 then .ok (.lst ((zv j.toNat d).map .sh)) else .bad
 |_=>.bad
theorem MU {d:D}{n:Nat}(h:n<=1000):fC d (.int (n:Int))=.ok (.lst ((zv n d).map .sh)):=by
 unfold fC
 dsimp only
 rw[if_pos ⟨by omega,by omega⟩,yN]
theorem To {da:Pos}(ha:DE X WX true a f) (hb:DE X WX true b g) (aY:starEach [a] X.env=[(false,eval a X.env)]:=by rfl) :
 DN X WX (.BinOp (.List [a] da) .Mult b pos) (fun ρ=>(f ρ).bind fun d=>(g ρ).bind fun k=>fC d k):=by
 obtain⟨ta,a1,a2⟩:=ha
 obtain⟨tb,b1,b2⟩:=hb
 refine⟨_,WZ kD (P8 (Bi a1 Cj aY)) b1,fun P0 P σ H Q ρ E h=>?_⟩
 dsimp only at h
 refine a2 P0 P σ H _ ρ E ?_
 cases q:f ρ with
 |bad=>rw[q] at h;exact h
 |ex x=>rw[q] at h;exact h
 |ok d =>
  rw[q] at h
  simp only[M.A8] at h
  intro v H1 s1 hv
  have E1:=E.same s1
  refine⟨yQ (AG (by simp)),fun p hp=>?_⟩
  have s2:Ad H1 (upd H1 p (.lst [v])):=AN hp _
  have E2:=E1.same s2
  refine b2 P0 P σ _ _ ρ E2 ?_
  cases q2:g ρ with
  |bad=>rw[q2] at h;exact h
  |ex x=>rw[q2] at h;exact fun H' s3=>h H' ((s1.trans s2).trans s3)
  |ok k =>
   rw[q2] at h
   simp only[M.A8] at h
   unfold fC at h
   intro w H3 s3 hw
   cases k with
   |int j =>
    dsimp only at h
    by_cases hj:0<=j/\j.toNat<=1000
    ·rw[if_pos hj] at h
     cases hw
     refine⟨p,j,[v],rfl,rfl,s3 _ _ Ar,by omega,by omega,yQ (AG (by simp;omega)),?_⟩
     rw[Om]
     exact h.Kv ((s1.trans s2).trans s3) (R7 ((hv.mono s2.del).mono s3.del) j.toNat)
    ·rw[if_neg hj] at h;exact h.elim
   |_=>exact h.elim
end
end L2
namespace L2
theorem Fm {f:Int->Int->M D}{a b:Int}:Bu f (.int a) (.int b)=f a b:=rfl
theorem JZ {bs:List Bool}:XE [.lst (bs.map D.bl)]=.ok (.bl (bs.all id)):=by unfold XE;dsimp only;rw[Mw]
theorem K0 {bs:List Bool}:pU [.lst (bs.map D.bl)]=.ok (.bl (bs.any id)):=by unfold pU;dsimp only;rw[Mw]
theorem fD {a b:List D}(h:a.length + b.length<=1000):Rk (.lst a) (.lst b)=.ok (.lst ((a++b).map .sh)):=if_pos h
noncomputable def Kh (d:D) (n:Int):Bool:=match d with
 | .int j=>decide (0<=j) && decide (j < n)
 |_=>false
noncomputable def EH (m:Nat):D->Bool
 | .lst xs=>(match CC xs with|some ns=>decide (G6 ns=AV m)|none=>false)
 |_=>false
noncomputable def qJ (d:D):Prop:=Um d=false/\∀ xs,d=.lst xs->xs.length<=1000/\∀ e∈xs,Um e=false
theorem RB (m:Nat):(AV m).Pairwise (·<=·):=by
 unfold AV
 rw[List.pairwise_map]
 exact (List.pairwise_lt_range (n:=m)).imp fun h=>by omega
theorem MV (m:Nat):(AV m).Nodup:=by
 unfold AV List.Nodup
 rw[List.pairwise_map]
 exact (List.pairwise_lt_range (n:=m)).imp fun h=>by omega
theorem OF {m:Nat}{L:List Int}:G6 L=AV m↔L.Perm (AV m) :=
 ⟨fun h=>by rw[<-h];exact (Ej L).symm,fun h=>GI ((Ej L).trans h) (FE L) (RB m)⟩
theorem MW {m:Nat}{L:List Int}:EH m (.lst (L.map D.int))=decide (G6 L=AV m):=by unfold EH;dsimp only;rw[DR]
theorem Tp {m:Nat}{L:List Int}(h:L.Perm (AV m)):EH m (.lst (L.map D.int))=true:=by rw[MW];exact decide_eq_true (OF.mpr h)
theorem Wd {m:Nat}{xs:List D}(h:EH m (.lst xs)=true):∃ L:List Int,xs=L.map D.int/\L.Perm (AV m):=by
 unfold EH at h
 dsimp only at h
 split at h
 ·rename_i ns e
  exact⟨ns,DU e,OF.mp (of_decide_eq_true h)⟩
 ·cases h
theorem GJ {m:Nat}{L:List Int}(h:L.Perm (AV m)):L.length=m:=by rw[h.length_eq,Fl]
theorem B3 {m:Nat}{L:List Int}(h:L.Perm (AV m)){p:Int}:p∈L↔0<=p/\p < m:=by rw[h.mem_iff,JX]
theorem IH {m:Nat}{L:List Int}(h:L.Perm (AV m)):L.Nodup:=h.nodup_iff.mpr (MV m)
theorem RC {m:Nat}{xs:List D}(h:EH m (.lst xs)=true):xs.length=m/\(xs.map fun e=>Kh e m).all id=true:=by
 obtain⟨L,rfl,hp⟩:=Wd h
 refine⟨by rw[zc,GJ hp],?_⟩
 rw[zbd]
 intro b hb
 rw[yF] at hb
 obtain⟨j,hj,rfl⟩:=zE.mp hb
 have:=(B3 hp).mp hj
 show (decide (0<=j) && decide (j < m))=true
 simp only[zR,decide_eq_true_eq]
 exact this
theorem UZ {m:Nat}:∀ {xs:List D},(xs.map fun e=>Kh e m).all id=true->∃ L:List Int,xs=L.map D.int
 |[],_=>⟨[],rfl⟩
 |d::r,h=>by
  rw[zg,List.all_cons,zR] at h
  obtain⟨L,rfl⟩:=UZ h.2
  cases d with
  |int j=>exact⟨j::L,rfl⟩
  |_=>exact absurd h.1 (by simp[Kh])
theorem OG:∀ {a b:List Int},Cv (a.map D.int) (b.map D.int)=decide (a=b)
 |[],[]=>by simp[Cv]
 |[],y::t=>by simp[Cv]
 |x::r,[]=>by simp[Cv]
 |x::r,y::t=>by
  rw[zg,zg,Cv,OG,Aw]
  by_cases h:x=y<;>by_cases k:r=t<;>simp[h,k]
theorem RD {a b:List Int}:Aw (.lst (a.map D.int)) (.lst (b.map D.int))=decide (a=b):=by rw[Aw];exact OG
theorem Yi {a b:List Int}:ZV 16 (.lst (a.map D.int)) (.lst (b.map D.int))=.ok (.bl (decide (a=b))):=by rw[Ta (Lw (n:=15) a) (Lw (n:=15) b),RD]
theorem Yj {a b:List Int}:Ze 16 (.lst (a.map D.int)) (.lst (b.map D.int))=.ok (.bl (!decide (a=b))):=by rw[Tb (Lw (n:=15) a) (Lw (n:=15) b),RD]
theorem We {i:Nat}{L:List Int}(h:L.Perm (AV i)) (n:Nat):(L.take n++(i:Int)::L.drop n).Perm (AV (i + 1)):=by
 have e:AV (i + 1)=AV i++[(i:Int)]:=by unfold AV;rw[List.range_succ,zK];rfl
 rw[e]
 refine List.perm_middle.trans ?_
 rw[za2]
 exact ((h.cons _).trans (List.perm_append_singleton _ _).symm)
theorem fE {m:Nat}{xs:List D}(h:xs.length≠m):EH m (.lst xs)=false:=by
 cases q:EH m (.lst xs) with
 |false=>rfl
 |true=>exact (h (RC q).1).elim
end L2
namespace L2
theorem K1 {i:Nat}{ρ:Ab}{ds:List D}{d:D}{p:Int}(hi:ρ[i]? =some (some (.own ds))) (h0:0<=p) (h1:p < ds.length):dA i ρ (.ok (.int p)) d=.ok (.next (ρ.set i (some (.own (ds.set p.toNat d))))):=by
 unfold dA
 rw[hi]
 dsimp only
 rw[M.A8]
 unfold kW
 dsimp only
 rw[Ly ⟨h0,h1⟩]
end L2
namespace L2
theorem fF {ρ:Ab}:Y0 0 (none::ρ)=none::ρ:=rfl
end L2
namespace L2
theorem Yk:∃ T Q:Int,VB (.int 10) (.int 60)=.ok (.int T)/\VB (.int 982451653) (.int 7)=.ok (.int Q)/\1000000 < T/\T.natAbs < 2 ^ 200/\0 < Q/\Q.natAbs < 2 ^ 250:=⟨10 ^ 60,982451653 ^ 7,rfl,rfl,by decide,by decide,by decide,by decide⟩
noncomputable def L4:Int:=zi Yk
theorem iF:∃ Q:Int,VB (.int 10) (.int 60)=.ok (.int L4)/\VB (.int 982451653) (.int 7)=.ok (.int Q)/\1000000 < L4/\L4.natAbs < 2 ^ 200/\0 < Q/\Q.natAbs < 2 ^ 250:=zb Yk
theorem iG:VB (.int 10) (.int 60)=.ok (.int L4):=(zb iF).1
theorem PP:1000000 < L4:=(zb iF).2.2.1
theorem fG {i:Int}:Eb (.int i) (.int L4)=.ok (.int (i % L4)):=AO (by have:=PP;omega)
noncomputable def cl:Nat->D->Prop
 |0,d=>Um d=false
 |n + 1,d=>Um d=false/\∀ ds,(d=.tup ds\/d=.lst ds)->∀ e∈ds,cl n e
theorem cl.x {n:Nat}{d:D}(h:cl n d):Um d=false:=by cases n with | zero=>exact h | succ n=>exact h.1
theorem Yl {n:Nat}{ds:List D}(h:∀ e∈ds,cl n e):cl (n + 1) (.tup ds):=⟨rfl,fun es e x hx=>by rcases e with e | e<;>cases e;exact h x hx⟩
theorem lO {n:Nat}{ds:List D}(h:∀ e∈ds,cl n e):cl (n + 1) (.lst ds):=⟨rfl,fun es e x hx=>by rcases e with e | e<;>cases e;exact h x hx⟩
theorem V0 {n:Nat}{d:D}(h:Um d=false) (h2:∀ ds,d≠.tup ds) (h3:∀ ds,d≠.lst ds):cl n d:=by
 cases n with
 |zero=>exact h
 |succ n=>exact⟨h,fun ds e=>by rcases e with e|e;exact (h2 ds e).elim;exact (h3 ds e).elim⟩
theorem MX {n:Nat}{i:Int}:cl n (.int i):=V0 rfl (fun _ h=>by cases h) (fun _ h=>by cases h)
theorem lP {n:Nat}:cl n .AA:=V0 rfl (fun _ h=>by cases h) (fun _ h=>by cases h)
theorem lQ {n:Nat}{l:Option Int}:cl n (GB l):=by cases l;exact lP;exact MX
theorem Ym {n:Nat}:∀ e∈([]:List D),cl n e:=fun e h=>by cases h
theorem HI {n:Nat}{d:D}{ds:List D}(h:cl n d) (t:∀ e∈ds,cl n e):∀ e∈d::ds,cl n e:=fun e he=>by
 rcases zu.mp he with rfl|he
 ·exact h
 ·exact t e he
theorem qK {n:Nat}{r:Road}:cl (n + 1) (BI r):=Yl (HI MX (HI MX (HI lQ (HI MX Ym))))
theorem lR {n:Nat}{rs:List Road}:∀ e∈rs.map BI,cl (n + 1) e:=fun e he=>by
 obtain⟨r,_,rfl⟩:=zE.mp he
 exact qK
noncomputable def F2 (m:Int):D->Bool
 | .tup [a,b,l,w]=>Kh a m && (Kh b m && (!Aw a b && ((C5 l || Kh l L4) && Kh w L4)))
 |_=>false
noncomputable def Dw:D->Bool
 | .tup [.int m,.lst rs]=>(Kh (.int m) 17 && !decide (m=0)) && (decide (rs.length<=60) && (rs.map (F2 m)).all id)
 |_=>false
theorem Wf {n:D}:Dw (.tup [n])=false:=by cases n<;>rfl
theorem Tq {n r z:D}{t:List D}:Dw (.tup (n::r::z::t))=false:=by cases n<;>cases r<;>rfl
structure MY (m:Nat) (r:Road):Prop where
 a0:0<=r.a
 a1:r.a < m
 b0:0<=r.b
 b1:r.b < m
 ab:r.a≠r.b
 l0:∀ l,r.l=some l->0<=l/\l < L4
 w0:0<=r.w
 w1:r.w < L4
theorem K2 {i n:Int}(h0:0<=i) (h1:i < n):Kh (.int i) n=true:=by unfold Kh;simp[h0,h1]
theorem Wg {m:Nat}{r:Road}(h:MY m r):F2 m (BI r)=true:=by
 unfold BI F2
 dsimp only
 rw[K2 h.a0 h.a1,K2 h.b0 h.b1,K2 h.w0 h.w1]
 have:Aw (.int r.a) (.int r.b)=false:=by rw[Aw];simp[h.ab]
 rw[this]
 cases hl:r.l with
 |none=>rfl
 |some l=>have:=h.l0 l hl;rw[show GB (some l)=.int l from rfl,K2 this.1 this.2];rfl
theorem Yn {m:Nat}{rs:List Road}(h1:1<=m) (h2:m<=16) (hl:rs.length<=60) (h:∀ r∈rs,MY m r):Dw (As m rs)=true:=by
 unfold As Dw
 dsimp only
 rw[K2 (by omega) (by omega),zc,decide_eq_true hl,decide_eq_false (by omega)]
 have:(((rs.map BI).map (F2 m)).all id)=true:=by
  rw[zbd]
  intro b hb
  rw[yF] at hb
  obtain⟨r,hr,rfl⟩:=zE.mp hb
  exact Wg (h r hr)
 rw[this];rfl
end L2
namespace L2
theorem Yo {S:List D}{q:Int}(h:0 < S.length) (h0:0<=q):Eb (.int q) (.int (S.length:Int))=.ok (.int (q % S.length))/\∃ y,y∈S/\B4 (.lst S) (.int (q % (S.length:Int)))=.ok y:=by
 have ca:(0:Int) < (S.length:Int):=by omega
 have b0:0<=q % (S.length:Int):=zaa _ (by omega)
 have b1:q % (S.length:Int) < S.length:=za4 _ ca
 refine⟨AO ca,S[(q % (S.length:Int)).toNat]'(by omega),List.getElem_mem _,?_⟩
 have:=Ji (f:=fun d:D=>d) (l:=S) b0 (zq (by omega))
 rw[List.map_id'] at this
 exact this
end L2
namespace L2
theorem fH {a b:OT}:er (.tup [a,b])=.tup [er a,er b]:=by simp[er,Ui]
end L2
namespace L2
section
variable {α β:Type}{a b c d e f g:α}{x y:β}
theorem fI:(if [a,b,c,d,e].length<=1000 then x else y)=x:=rfl
theorem fJ:(if [a,b,c,d,e,f].length<=1000 then x else y)=x:=rfl
theorem fK:(if [a,b,c,d,e,f,g].length<=1000 then x else y)=x:=rfl
theorem LV {t:Bool}:er (.Bj t [] [])=.Bj t [] []:=by simp[er,Ui]
end
end L2
namespace L2
open PySem PySem.Spec PyProof.Rows
noncomputable def fL (f:Str):List Str->List D->Option D
 |n::ns,d::ds=>if f == n then some d else fL f ns ds
 |_,_=>none
theorem RE {K:za}{H:Hp}{f:Str}:∀ {fs:List (Str×V)}{ds:List D}{d:D},Ah K H (fs.map yZ) ds->fL f (fs.map zO) ds=some d->∃ v,fs.lookup f=some v/\BL K H v d
 |[],ds,d,_,h=>by simp[fL] at h
 |(n,v)::fs,_,d,.cons hv ht,h=>by
  rw[zg,fL] at h
  rw[zap]
  cases q:f == n with
  |true=>rw[q,if_pos rfl] at h;cases h;exact⟨v,rfl,hv⟩
  |false=>rw[q,if_neg (by simp)] at h;exact RE ht h
theorem MZ {K:za}{H:Hp}{f:Str}:∀ {fs:List (Str×V)}{ds:List D},Ah K H (fs.map yZ) ds->fL f (fs.map zO) ds=none->fs.lookup f=none
 |[],ds,_,h=>rfl
 |(n,v)::fs,_,.cons hv ht,h=>by
  rw[zg,fL] at h
  rw[zap]
  cases q:f == n with
  |true=>rw[q,if_pos rfl] at h;cases h
  |false=>rw[q,if_neg (by simp)] at h;exact MZ ht h
structure I9 (K:za) (x f:Str):Prop where
 ex:∃ C,zd K mainGlobals x=some (some (.ref C))/\Vq K C/\Ik K C f
noncomputable def NL (cs:List Str) (f:Str) (d:D):M D:=match d with
 | .ins x ns ds=>if x∈cs then (match fL f ns ds with|some e=>.ok e|none=>.bad) else .bad
 |_=>.bad
section
variable {X:Cx}{E:XK}{WX:Str->Hp->Prop}{c:Bool}{P0:EA}{P:Addr->Prop}{H:Hp}{σ:St}{ρ:Ab}{a b e:Expr}{es:List Expr}{f g:Ab->M D}{fs:Ab->M (List D)}{fn:Ab->M OT}{pos:Pos}{te:TE}
theorem F3 (cs:List Str){fl:Str}(pc:∀ x∈cs,I9 X.K x fl) (ha:DE X WX c a f) (hb:attributeBase a fl X.env (eval a X.env)=eval a X.env:=by rfl):DE X WX c (.Attribute a fl pos) (fun ρ=>(f ρ).bind (NL cs fl)):=by
 obtain⟨ta,a1,a2⟩:=ha
 refine⟨_,jS a1 hb,fun P0 P σ H Q ρ E h=>?_⟩
 dsimp only at h
 refine a2 P0 P σ H _ ρ E ?_
 cases e:f ρ with
 |bad=>rw[e] at h;exact h
 |ex x=>rw[e] at h;exact h
 |ok d =>
  rw[e] at h
  simp only[M.A8] at h
  intro v H1 s1 hv
  unfold NL at h
  split at h
  ·rename_i x ns ds
   split at h
   ·rename_i hx
    split at h
    ·rename_i d' el
     cases hv with
     |ins hn ha hl =>
      obtain⟨C,bZ,hc,d4⟩:=(pc x hx).ex
      rw[hn] at bZ
      cases bZ
      obtain⟨v',l1,l2⟩:=RE hl el
      exact⟨_,_,_,_,v',rfl,(Am ha).2,hc,d4,l1,h v' H1 s1 l2⟩
    ·exact h.elim
   ·exact h.elim
  ·exact h.elim
structure Ia (K:za) (x m qual:Str) (st:Stmt) (ps:List Str):Prop where
 ex:∃ C f fd,zd K mainGlobals x=some (some (.ref C))/\Vq K C/\Meth K C m f/\WD K m qual st f fd/\Binds K fd ps []
structure II (P:Program) (w:World) (K:za) (mg:Str->Option Value) (base:Heap) (x m:Str) (k n:Nat) (F:List D->M OT):Prop where
 ex:∃ C fa fd ps,zd K mainGlobals x=some (some (.ref C))/\Vq K C/\Meth K C m fa/\Dn P w K mg base (SY P w base) k fa fd ps (spT K n F)/\Binds K fd ps []
theorem LW {P:Program}{w:World}{K:za}{mg:Str->Option Value}{base:Heap}{x m qual:Str}{st:Stmt}{N ps:List Str}{k n:Nat}(T:Ia K x m qual st ps) (S:Ae N ps (A3 st)) (g:Ab->M Out)
 (hb:∀(f:Addr) (B2:Value) (A:Around) (outer:List Env) (s:Shared) (H:Hp) (E:XK),BJ k (A.deeper (envOfC qual (A3 st) s.heap.objs.size f B2))->So (Ut P w K mg base N qual (A3 st) f B2 A outer s H E) (D3 K E) (AB st) g) (hn:ps.length=n:=by rfl) :
 II P w K mg base x m (k + 1) n (fun ds=>XY (g (AK N ds))):=by
 obtain⟨C,f,fd,h1,h2,h3,F,hB⟩:=T.ex
 subst hn
 exact⟨⟨C,f,fd,ps,h1,h2,h3,pZ F S g (hb f),hB⟩⟩
noncomputable def rN (x:Str):List (Str×(List D->M OT))->Option (List D->M OT)
 |[]=>none
 |(y,F)::r=>if x=y then some F else rN x r
theorem V1 {x:Str}{F:List D->M OT}:∀ {ms:List (Str×(List D->M OT))},rN x ms=some F->(x,F)∈ms
 |[],h=>by cases h
 |(y,G)::r,h=>by
  unfold rN at h
  split at h
  ·rename_i e;cases h;subst e;exact ze
  ·exact zf _ (V1 h)
noncomputable def IJ (ms:List (Str×(List D->M OT))) (m:Str) (d:D):M (List D->M OT):=match d with
 | .ins x ns es=>(match rN x ms with
  |some F=>(match fL m ns es with|none=>.ok F|some _=>.bad)
  |none=>.bad)
 |_=>.bad
theorem RF {ms:List (Str×(List D->M OT))}{m:Str}{d:D}{F:List D->M OT}(h:IJ ms m d=.ok F):∃ x ns es,d=.ins x ns es/\(x,F)∈ms/\fL m ns es=none:=by
 unfold IJ at h
 split at h
 ·rename_i x ns es
  split at h
  ·rename_i G e
   split at h
   ·rename_i e2;cases h;exact⟨x,ns,es,rfl,V1 e,e2⟩
   ·cases h
  ·cases h
 ·cases h
theorem OH {ms:List (Str×(List D->M OT))}{m:Str}{d:D}{x:Str}:IJ ms m d≠.ex x:=fun h=>by
 unfold IJ at h
 split at h
 ·split at h
  ·split at h<;>cases h
  ·cases h
 ·cases h
noncomputable def Yp (X:Cx) (m:Str) (k:Nat) (E:XK) (ta:TE) (t:TA):TE:=fun σ H Q=>ta σ H fun x H1=>∃ a C dx fs f fd ps n F,x=.ref a/\H1 a=some (.ins C dx fs)/\fs.lookup m=none/\Vq X.K C/\Meth X.K C m f/\Dn X.prog X.w X.K X.mg X.base (SY X.prog X.w X.base) k f fd ps (spT X.K n F)/\Binds X.K fd ps [] /\
 t σ H1 fun vs H2=>spT X.K n F (x::vs) H2 Q E
theorem Yq {pl:Sem Bool}{o:Expr}{m:Str}{k:Nat}{ta:TE}{t:TA}{apos:Pos}(he:PE X o ta) (hr:BJ k X.A) (hx:Gp (SY X.prog X.w X.base) X E) (ha:PA X (e::es) t)
 (aY:starEach (e::es) X.env=(false,eval e X.env)::starEach es X.env:=by rfl) (a4:(backTo pos (starEach es X.env)).any (·.1)=false:=by rfl)
 (ht:eval (.Call (.Attribute o m apos) (e::es) [] pos) X.env=(do
  let ov <-eval o X.env
  standAt apos.atName
  let (f,first) <-holding [ov] (getMethod ov m pl)
  callWith pos f first (backTo pos (starEach (e::es) X.env)) (backToKw pos (keywordEach [] X.env))):=by rfl) :
 PE X (.Call (.Attribute o m apos) (e::es) [] pos) (Yp X m k E ta t):=by
 intro pins s σ H Q I h
 refine PySem.W.methodCall_KW (pl:=pl) (Bg (he pins s σ H _ I h) fun u s1 ⟨x,H1,I1,rx,a,C,dx,fs,f,fd,ps,n,F,ex,ea,l,c,hm,hF,hb,q⟩=>?_) ht
 subst ex
 obtain rfl:u=yG a:=rx
 refine M8 I1 ea c hm l ?_
 refine PySem.W.callWith_K (first:=[.ref a]) (h₀:=X.base) I.ok.mod.WB hm.kp (Bg (ha pos pins s1 σ H1 _ I1 q) fun us s2 ⟨vs,H2,I2,r,q2⟩=>⟨I2.Nz,?_⟩) aY a4
 exact SJ (us:=.ref a::us) (vs:=.ref a::vs) hF hr hb .nil hx I2 (.cons rfl r) (by rw[yH];exact q2)
theorem Wh {pl:Sem Bool}{o:Expr}{m:Str}{k:Nat}{ta:TE}{apos:Pos}(he:PE X o ta) (hr:BJ k X.A) (hx:Gp (SY X.prog X.w X.base) X E)
 (ht:eval (.Call (.Attribute o m apos) [] [] pos) X.env=(do
  let ov <-eval o X.env
  standAt apos.atName
  let (f,first) <-holding [ov] (getMethod ov m pl)
  callWith pos f first (backTo pos (starEach [] X.env)) (backToKw pos (keywordEach [] X.env))):=by rfl) :
 PE X (.Call (.Attribute o m apos) [] [] pos) (Yp X m k E ta jU):=by
 intro pins s σ H Q I h
 refine PySem.W.methodCall_KW (pl:=pl) (Bg (he pins s σ H _ I h) fun u s1 ⟨x,H1,I1,rx,a,C,dx,fs,f,fd,ps,n,F,ex,ea,l,c,hm,hF,hb,q⟩=>?_) ht
 subst ex
 obtain rfl:u=yG a:=rx
 refine M8 I1 ea c hm l ?_
 exact PySem.W.callWith_K0 (first:=[.ref a]) I1.Nz hm.kp (SJ (us:=[.ref a]) (vs:=[.ref a]) hF hr hb .nil hx I1 (.cons rfl .nil) q)
theorem V2 {P:Program}{w:World}{K:za}{mg:Str->Option Value}{base:Heap}{CX:U7}{k k':Nat}{f:Addr}{fd:FuncData}{ps:List Str}{sp:Sp}(h:k<=k') (F:Dn P w K mg base CX k f fd ps sp):Dn P w K mg base CX k' f fd ps sp :=
 ⟨F.len,fun A stack s H args us vs Q E hr=>F.run A stack s H args us vs Q E (hr.mono h)⟩
theorem PQ {o:Expr}{fo:Ab->M D}{m:Str}{k n:Nat}{apos:Pos}{pl:Sem Bool}(ms:List (Str×(List D->M OT))) (xo:XCall X E) (pd:∀ p∈ms,∃ k',k'<=k/\II X.prog X.w X.K X.mg X.base p.1 m k' n p.2) (hr:BJ k X.A) (ho:DE X (D3 X.K E) true o fo) (ha:DA X (D3 X.K E) true (e::es) fs) (b8:(e::es).length + 1=n)
 (aY:starEach (e::es) X.env=(false,eval e X.env)::starEach es X.env:=by rfl) (a4:(backTo pos (starEach es X.env)).any (·.1)=false:=by rfl)
 (ht:eval (.Call (.Attribute o m apos) (e::es) [] pos) X.env=(do
  let ov <-eval o X.env
  standAt apos.atName
  let (f,first) <-holding [ov] (getMethod ov m pl)
  callWith pos f first (backTo pos (starEach (e::es) X.env)) (backToKw pos (keywordEach [] X.env))):=by rfl) :
 DN X (D3 X.K E) (.Call (.Attribute o m apos) (e::es) [] pos) (fun ρ=>(fo ρ).bind fun d=>(IJ ms m d).bind fun F=>(fs ρ).bind fun ds=>F (d::ds)):=by
 obtain⟨ta,a1,a2⟩:=ho
 obtain⟨tb,b1,b2,b3⟩:=ha
 refine⟨_,Yq (pl:=pl) a1 hr xo.call b1 aY a4 ht,fun P0 P σ H Q ρ Ev h=>?_⟩
 dsimp only at h
 refine a2 P0 P σ H _ ρ Ev ?_
 cases q:fo ρ with
 |bad=>rw[q] at h;exact h
 |ex x=>rw[q] at h;exact h
 |ok d =>
  rw[q] at h
  simp only[M.A8] at h
  intro v H1 s1 hv
  cases q2:IJ ms m d with
  |bad=>rw[q2] at h;exact h.elim
  |ex y=>exact (OH q2).elim
  |ok F =>
   rw[q2] at h
   simp only[M.A8] at h
   obtain⟨x,ns,wO,rfl,bd,pe⟩:=RF q2
   obtain⟨k',fm,M0⟩:=pd _ bd
   obtain⟨C,fa,fd,ps,h1,h2,h3,h4,h5⟩:=M0.ex
   cases hv with
   |ins hn hH hl =>
    rw[hn] at h1
    cases h1
    refine⟨_,_,_,_,fa,fd,ps,n,F,rfl,(Am hH).2,MZ hl pe,h2,h3,V2 fm h4,h5,?_⟩
    refine b2 P0 P σ H1 _ ρ (Ev.same s1) ?_
    cases q3:fs ρ with
    |bad=>rw[q3] at h;exact h
    |ex y=>rw[q3] at h;exact fun H' s=>h H' (s1.trans s)
    |ok ds =>
     rw[q3] at h
     simp only[M.A8] at h
     intro vs H2 s2 aI
     have js:=(BL.ins hn hH hl).mono s2.del
     exact⟨by rw[zo,aI.length,b3 ρ ds q3];exact b8,P,_,((Ev.same s1).same s2).Cp,.cons js aI,h.same (s1.trans s2)⟩
theorem K3 {o:Expr}{fo:Ab->M D}{m:Str}{k:Nat}{apos:Pos}{pl:Sem Bool}(ms:List (Str×(List D->M OT))) (xo:XCall X E) (pd:∀ p∈ms,∃ k',k'<=k/\II X.prog X.w X.K X.mg X.base p.1 m k' 1 p.2) (hr:BJ k X.A) (ho:DE X (D3 X.K E) true o fo)
 (ht:eval (.Call (.Attribute o m apos) [] [] pos) X.env=(do
  let ov <-eval o X.env
  standAt apos.atName
  let (f,first) <-holding [ov] (getMethod ov m pl)
  callWith pos f first (backTo pos (starEach [] X.env)) (backToKw pos (keywordEach [] X.env))):=by rfl) :
 DN X (D3 X.K E) (.Call (.Attribute o m apos) [] [] pos) (fun ρ=>(fo ρ).bind fun d=>(IJ ms m d).bind fun F=>F [d]):=by
 obtain⟨ta,a1,a2⟩:=ho
 refine⟨_,Wh (pl:=pl) a1 hr xo.call ht,fun P0 P σ H Q ρ Ev h=>?_⟩
 dsimp only at h
 refine a2 P0 P σ H _ ρ Ev ?_
 cases q:fo ρ with
 |bad=>rw[q] at h;exact h
 |ex x=>rw[q] at h;exact h
 |ok d =>
  rw[q] at h
  simp only[M.A8] at h
  intro v H1 s1 hv
  cases q2:IJ ms m d with
  |bad=>rw[q2] at h;exact h.elim
  |ex y=>exact (OH q2).elim
  |ok F =>
   rw[q2] at h
   simp only[M.A8] at h
   obtain⟨x,ns,wO,rfl,bd,pe⟩:=RF q2
   obtain⟨k',fm,M0⟩:=pd _ bd
   obtain⟨C,fa,fd,ps,h1,h2,h3,h4,h5⟩:=M0.ex
   cases hv with
   |ins hn hH hl =>
    rw[hn] at h1
    cases h1
    refine⟨_,_,_,_,fa,fd,ps,1,F,rfl,(Am hH).2,MZ hl pe,h2,h3,V2 fm h4,h5,?_⟩
    exact⟨rfl,P,_,(Ev.same s1).Cp,.cons (BL.ins hn hH hl) .nil,h.same s1⟩
end
end L2
namespace L2
open PySem PySem.Spec PyProof.Rows
section
variable {X:Cx}{E:XK}{WX:Str->Hp->Prop}{c:Bool}{P0:EA}{P:Addr->Prop}{H:Hp}{σ:St}{ρ:Ab}{a b e:Expr}{es:List Expr}{f g:Ab->M D}{fs:Ab->M (List D)}{fn:Ab->M OT}{pos:Pos}{te:TE}
structure lS (K:za) (mg:Str->Option Value) (x:Str) (C:Addr):Prop where
 ns:zd K mainGlobals x=some (some (.ref C))
 vE:mg x=some (.ref C)
theorem OI {p dx C:Addr}(hp:H p=none) (hd:H dx=none):Ad H (upd (upd H dx (.own p)) p (.ins C dx [])):=fun b u q=>by
 rw[Ag (Az q hp),Ag (Az q hd)]
 exact q
structure qL (P:Program) (w:World) (K:za) (mg:Str->Option Value) (base:Heap) (x:Str) (k n:Nat) (F:OT->List D->M (OT×OT)):Prop where
 ex:∃ C fa fd ps,lS K mg x C/\Mk K C fa/\Dn P w K mg base (SY P w base) k fa fd ps (Oy K n F)/\Binds K fd ps []
noncomputable def OJ (m:M (OT×OT)):M OT:=match m with
 | .ok (t,.sh .AA)=>.ok t
 |_=>.bad
theorem fM {x:Str}{k n:Nat}{F:OT->List D->M (OT×OT)}{p:Pos}(xo:XCall X E) (G:qL X.prog X.w X.K X.mg X.base x k n F) (hr:BJ (k + 1) X.A) (hg:Gl X x) (ha:DA X (D3 X.K E) true (e::es) fs) (b8:(e::es).length + 1=n)
 (aU:(x == ("__debug__" : Str))=false:=by decide) (he:starEach (e::es) X.env=(false,eval e X.env)::starEach es X.env:=by rfl) (a4:(backTo pos (starEach es X.env)).any (·.1)=false:=by rfl) :
 DN X (D3 X.K E) (.Call (.Name x p) (e::es) [] pos) (fun ρ=>(fs ρ).bind fun ds=>OJ (F (.ins x [] []) ds)):=by
 obtain⟨C,fa,fd,ps,hT,hM,hF,hb⟩:=G.ex
 obtain⟨ta,a1,a2,a3⟩:=ha
 refine⟨_,U9 hM hF hr hg hT.vE hb .nil xo.call a1 aU he a4,fun P0 P σ H Q ρ Ev h=>?_⟩
 dsimp only at h
 refine a2 P0 P σ H _ ρ Ev ?_
 cases q:fs ρ with
 |bad=>rw[q] at h;exact h
 |ex x=>rw[q] at h;exact h
 |ok ds =>
  rw[q] at h
  simp only[M.A8] at h
  intro vs H1 s1 aI y dx hy hd ae
  rw[yH]
  have E1:=Ev.same s1
  have sm:=OI (C:=C) hy hd
  have cf:∀ a∈[y],H1 a=none:=fun a ha=>by rw[zh.mp ha];exact hy
  refine⟨by rw[zo,aI.length,a3 ρ ds q];exact b8,PU P [y],y,.ins x [] [],[y],vs,ds,rfl,fun a ha=>?_,fun a ha=>.inr ha,by simp,C4.ins (fs:=[]) hT.ns Ar .nil,aI.mono (Dd sm cf),?_⟩
  ·rcases ha with ha|ha
   ·exact (E1.Cp a ha).same sm
   ·rw[zh.mp ha]
    exact⟨_,Ar,fun xs=>⟨(fun z=>by cases z),(fun z w=>by cases w)⟩⟩
  ·cases q2:F (.ins x [] []) ds with
   |bad=>rw[q2] at h;exact h
   |ex z=>rw[q2] at h;exact h
   |ok tr =>
    obtain⟨t,r⟩:=tr
    rw[q2] at h
    simp only[OJ] at h
    intro v H' P' ai fr k1 k2 k3 k4 k5 k6 k7 k8 k9 oy
    cases r with
    |sh d =>
     cases d with
     |AA =>
      cases k6 with
      |sh hv =>
       cases hv
       refine⟨rfl,h _ ai H' ?_ ?_ k5 ?_⟩
       ·intro b u eb
        have e1:=s1 b u eb
        have ci:b≠y:=fun z=>by rw[z,hy] at e1;cases e1
        have e2:=sm b u e1
        by_cases hP:P b
        ·exact (k1 b (.inl hP) (by simp[ci])).2.trans e2
        ·exact (Am (k3 b u (by rw[Ax fun z=>z.elim hP fun w=>ci (zh.mp w)];exact e2))).2
       ·intro b jt
        cases eb:H b with
        |none=>rfl
        |some u =>
         exfalso
         have e1:=s1 b u eb
         have ci:b≠y:=fun z=>by rw[z,hy] at e1;cases e1
         have e2:=sm b u e1
         have hn:=fun z=>ci (zh.mp ((k9 b jt).2 z))
         exact (Am (k3 b u (by rw[Ax hn];exact e2))).1 (k9 b jt).1
       ·refine k4.move (fun b u eb=>?_) fun _ _=>rfl
        obtain⟨g1,g2⟩:=Am eb
        rw[Ax]
        ·exact g2
        ·rintro (z|z)
         ·have ci:b≠y:=fun w=>by
           obtain⟨o,e1,_⟩:=E1.Cp b z
           rw[w,hy] at e1
           cases e1
          exact g1 (k1 b (.inl z) (by simp[ci])).1
         ·exact g1 (k9 b z).1
     |_=>exact h.elim
    |_=>exact h.elim
end
end L2
namespace L2
open PySem PySem.Spec PyProof.Rows
noncomputable def OK (i:Nat) (ρ:Ab) (π:List Nat):M (Str×List Str×List D):=match UH i ρ π with
 |some (.ins x ns ts)=>(match Eh ts with|some vs=>.ok (x,ns,vs)|none=>.bad)
 |_=>.bad
theorem Yr {i:Nat}{ρ:Ab}{π:List Nat}{x:Str}(h:OK i ρ π=.ex x):False:=by
 unfold OK at h
 split at h
 ·split at h<;>cases h
 ·cases h
noncomputable def Ys (f:Str):List Str->List Str
 |[]=>[f]
 |g::r=>if g=f then g::r else g::Ys f r
noncomputable def Yt (f:Str) (d:D):List Str->List D->List D
 |[],_=>[d]
 |g::r,e::t=>if g=f then d::t else e::Yt f d r t
 |_::_,[]=>[]
theorem RG (f:Str) (v:V):∀ fs:List (Str×V),(E7 f v fs).map zO=Ys f (fs.map zO)
 |[]=>rfl
 |(g,x)::r=>by
  rw[zg,Ys,E7]
  split
  ·rfl
  ·rw[zg,RG f v r]
theorem RH {K:za}{H:Hp}{f:Str}{v:V}{d:D}(hv:BL K H v d):∀ {fs:List (Str×V)}{ds:List D},Ah K H (fs.map yZ) ds->Ah K H ((E7 f v fs).map yZ) (Yt f d (fs.map zO) ds)
 |[],_,.nil=>.cons hv .nil
 |(g,x)::r,_,.cons hx ht=>by
  rw[zg,Yt,E7]
  split
  ·exact .cons hv ht
  ·exact .cons hx (RH hv ht)
section
variable {X:Cx}{E:XK}{WX:Str->Hp->Prop}{c:Bool}{P0:EA}{P:Addr->Prop}{H:Hp}{σ:St}{ρ:Ab}{a b e:Expr}{f g:Ab->M D}{fn:Ab->M OT}{fp:Ab->M (List Nat)}{pos:Pos}{i:Nat}{es:List Expr}{fs:Ab->M (List D)}
theorem Bl.ins {K:za}{π:List Nat}{v:V}{t1:OT}{x:Str}{ns:List Str}{vs:List D}(pl:Bl K P H σ ρ i π v t1) (E:An K P0 P H σ ρ) (h:OK i ρ π=.ok (x,ns,vs)) :
 t1=.ins x ns (vs.map .sh)/\∃ l C dx fs,v=.ref l/\Ah K (del H P) (fs.map yZ) vs/\C4 K H P (.ref l) (.ins x ns (vs.map .sh)) [l]/\zd K mainGlobals x=some (some (.ref C))/\H l=some (.ins C dx fs)/\ns=fs.map zO:=by
 unfold OK at h
 rw[pl.at] at h
 split at h
 ·rename_i x' cQ uV e
  split at h
  ·rename_i bg e'
   cases e
   cases h
   have z:=D5 e'
   subst z
   obtain⟨a7,o1,hp,nd⟩:=pl.own E
   generalize ht:OT.ins x ns (vs.map .sh)=t at o1
   cases o1 with
   |ins hn hh hr =>
    injection ht with h1 h2 h3
    subst h1 h2 h3
    obtain⟨rfl,hs⟩:=hr.lE
    exact⟨rfl,_,_,_,_,rfl,hs,.ins hn hh hr,hn,hh,rfl⟩
   |_=>cases ht
  ·cases h
 ·cases h
theorem LX (cs:List Str){fl:Str}(pc:∀ x∈cs,I9 X.K x fl) (ha:DP X WX a i fp) (hv:DE X WX true e f){pos':Pos}(hs:swapsWith e (some (.Attribute a fl pos')) pos.line X.env=pure false:=by rfl) :
 DS X WX (.Assign [.Attribute a fl pos'] e pos) (fun ρ=>(f ρ).bind fun v=>(fp ρ).bind fun π=>(OK i ρ π).bind fun z=>if z.1∈cs/\z.2.1.length < 1000 then IE i ρ π (.ins z.1 (Ys fl z.2.1) ((Yt fl v z.2.1 z.2.2).map .sh)) else .bad):=by
 obtain⟨ta,a1,a2⟩:=ha
 obtain⟨tv,v1,v2⟩:=hv
 refine⟨_,jT a1 v1 hs,fun P0 P σ H Z ρ E h=>?_⟩
 dsimp only at h
 refine v2 P0 P σ H _ ρ E ?_
 cases q0:f ρ with
 |bad=>rw[q0] at h;exact h
 |ex x=>rw[q0] at h;exact fun H' s=>h H' P (E.tr s)
 |ok d =>
  rw[q0] at h
  simp only[M.A8] at h
  intro w H0 s0 hw
  have E0:=E.same s0
  refine a2 P0 P σ H0 _ ρ E0 ?_
  cases q:fp ρ with
  |bad=>rw[q] at h;exact h
  |ex x=>rw[q] at h;exact fun H' s=>h H' P ((E.tr s0).trans (E0.tr s))
  |ok π =>
   rw[q] at h
   simp only[M.A8] at h
   intro v t1 H1 s1 pl
   have E1:=E0.same s1
   have wP:=(E.tr s0).trans (E0.tr s1)
   cases q3:OK i ρ π with
   |bad=>rw[q3] at h;exact h.elim
   |ex x=>exact (Yr q3).elim
   |ok z =>
    obtain⟨x,ns,vs⟩:=z
    rw[q3] at h
    simp only[M.A8] at h
    by_cases hc:x∈cs/\ns.length < 1000
    ·rw[if_pos hc] at h
     obtain⟨rfl,l,C,dx,fs,rfl,cg,ot,hn,hH,rfl⟩:=pl.ins E1 q3
     obtain⟨C',bZ,b9,d4⟩:=(pc x hc.1).ex
     rw[hn] at bZ
     cases bZ
     have wQ:=hw.mono s1.del
     obtain⟨c,p,t0,g1,g2,E3,t3⟩:=E1.lJ (o':=.ins C dx (E7 fl w fs)) (u:=.ins x (Ys fl (fs.map zO)) ((Yt fl d (fs.map zO) vs).map .sh)) pl ot (fun _=>⟨fun z=>(by cases z),fun _ z=>by cases z⟩) (fun mv=>by
      have:=C4.ins (K:=X.K) (H:=upd H1 l (.ins C dx (E7 fl w fs))) (P:=P) (p:=l) (fs:=E7 fl w fs) (x:=x) hn Ar (((RH wQ cg).mono mv).ows)
      rw[RG] at this
      exact this)
     rw[Ju g1 g2] at h
     exact⟨l,C,dx,fs,rfl,hH,b9,d4,by have:=hc.2;rw[zc] at this;exact this,h _ _ _ (wP.trans t3) E3⟩
    ·rw[if_neg hc] at h;exact h.elim
end
end L2
namespace L2
open PySem PySem.Spec PyProof.Rows
theorem C1 {K:za}{f:Str}:∀ y∈([]:List Str),I9 K y f:=fun y h=>by cases h
theorem Bp {K:za}{f x:Str}{xs:List Str}(h:I9 K x f) (t:∀ y∈xs,I9 K y f):∀ y∈x::xs,I9 K y f:=fun y hy=>by
 rcases zu.mp hy with rfl|hy
 ·exact h
 ·exact t y hy
theorem FF {P:Program}{w:World}{K:za}{mg:Str->Option Value}{base:Heap}{m:Str}{k n:Nat}:∀ p∈([]:List (Str×(List D->M OT))),∃ k',k'<=k/\II P w K mg base p.1 m k' n p.2:=fun p h=>by cases h
theorem Ek {P:Program}{w:World}{K:za}{mg:Str->Option Value}{base:Heap}{m x:Str}{k k' n:Nat}{F:List D->M OT}{ms:List (Str×(List D->M OT))}(hk:k'<=k) (h:II P w K mg base x m k' n F) (t:∀ p∈ms,∃ k',k'<=k/\II P w K mg base p.1 m k' n p.2) :
 ∀ p∈(x,F)::ms,∃ k',k'<=k/\II P w K mg base p.1 m k' n p.2:=fun p hp=>by
 rcases zu.mp hp with rfl|hp
 ·exact⟨k',hk,h⟩
 ·exact t p hp
end L2
set_option maxRecDepth 1000000
set_option maxHeartbeats 0
namespace L2
open PySem
theorem OL:entryFor table "dict.update.loop" = some Builtin.«dict.update.loop»:=by unfold entryFor;rfl
end L2
namespace L2
open PySem PySem.Spec PySem.Calls PyProof.Rows PySem.W PySem.Builtin PySem.Builtin.ObjectAttr
section
variable {prog:Program}{w:World}{A:Around}{E:Value->Shared->Prop}{s:Shared}
theorem call_meets {T id:String}{nm:Str}{B:Builtin}{self:Value}{rest:List Value}{Sp:PySem.Spec}{Q:Value->Shared->Prop}(SL:Slot T nm id) (hB:entryFor table id=some B) (ht:s.TypeIs self T) (ha:argsOk id ⟨self::rest,[]⟩) (m:Meets (B ⟨self::rest,[]⟩) Sp)
 (h:Sp A (fun r s'=>match r with | .ok (.ret v)=>Q v s' | .ok _=>False | .error e=>E e s') s):wpAny (model prog w) A (call (.builtin id) (self::rest)) Q E s :=
 wpAny_call (codeAny_call_builtin SL.plain hB (SL.check _ _ _ _ _ _ _ _ ht ha (m prog w A _ s h)))
theorem RI {l:Addr}{xs:Array Value}{k:Nat}{sl:Array (Option Value)}{Q:Option Value->Shared->Prop}(hh:A.handled=none) (hl:s.heap.get? l=some { cls:=.type "list",data:=.seq xs k,slots:=sl })
 (h:∀ h' tk,(∀ b o,s.heap.get? b=some o->h'.get? b=some o)->Q none { s with heap:=h',toks:=tk }):wpAny (model prog w) A (getAttr? (.ref l) "keys") Q E s:=by
 have miss:typeLookup (.type "list") "keys" = pure none:=am_miss_of_fast (by decide +kernel)
 have T0:∀ hp:Heap,hp.get? l=some { cls:=.type "list",data:=.seq xs k,slots:=sl }->Looks (model prog w) hp (typeOf (.ref l)) (.type "list"):=fun hp e=>(Looks.ld e).andThen .now
 have SL:=PySem.F.slot_list_getattribute
 have av:(onTheHeap (Value.type "list") && Value.builtin "list.__getattribute__" == Value.builtin "object.__getattribute__")=false:=rfl
 have pf:(false && onTheHeap (Value.builtin "list.__getattribute__"))=false:=rfl
 unfold getAttr? getAttrBy?
 refine wpAny_bind (wpAny_mkText (wpAny_bind (wpAny_attempt ?_)))
 unfold getAttrBy
 refine wpAny_holding (wpAny_bind ((T0 _ hl).at (wpAny_bind ?_)))
 rw[SL.lookup]
 refine wpAny_pure ?_
 dsimp only
 rw[av,if_neg zM]
 unfold getAttrByItsOwn hookBefore
 rw[if_neg (show ¬ onTheHeap (Value.type "list")=true from zM)]
 refine wpAny_bind (wpAny_pure (wpAny_bind (wpAny_attempt (wpAny_holding ?_))))
 unfold callGetattribute
 rw[pf,if_neg zM]
 unfold boundAndCalled
 rw[SL.bind]
 refine wpAny_bind (wpAny_pure ?_)
 dsimp only
 refine call_meets SL am_entry_list_getattribute ⟨_,hl,rfl⟩ (PySem.F.args_list_getattribute_2 _ _) (meets_getattribute_miss_list l xs k sl "keys" s.toks miss rfl (by decide)) ⟨hl,hh,fun h' tk e ne=>?_⟩
 dsimp only
 obtain⟨kp,nw,t,u,he⟩:=ne
 have T1:Looks (model prog w) h' (typeOf (.ref e)) (.type "AttributeError"):=(Looks.ld he).andThen .now
 unfold getattributeRaised isInstance
 refine wpAny_bind (wpAny_bind (T1.at ?_))
 rw[sub_AttributeError]
 refine wpAny_pure ?_
 rw[if_pos rfl]
 unfold hookBehind
 rw[if_neg (show ¬ onTheHeap (Value.type "list")=true from zM),am_list_getattr_none]
 refine wpAny_bind (wpAny_pure ?_)
 unfold hookOrError attributeErrorLeaves
 dsimp only
 rw[if_pos (show (!false)=true from rfl)]
 refine wpAny_bind (wpAny_throw ?_)
 refine wpAny_bind (wpAny_bind (T1.at ?_))
 rw[sub_AttributeError]
 refine wpAny_pure ?_
 rw[if_pos rfl]
 exact wpAny_pure (h h' tk kp)
theorem Wi {t:Addr}{aa:Array Value}{Q:List Value->Shared->Prop}(ht:IsTup s.heap t aa) (h:Q aa.toList s):wpAny (model prog w) A (Dict.pairItems (.ref t)) Q E s:=by
 obtain⟨o,h1,h2,n,h3⟩:=ht
 have T0:Looks (model prog w) s.heap (typeOf (.ref t)) (.type "tuple"):=h2▸(Looks.ld h1).andThen .now
 unfold Dict.pairItems
 refine wpAny_bind (T0.at ?_)
 have hx:(Value.type "tuple" == Value.type "list" || Value.type "tuple" == Value.type "tuple")=true:=by decide
 rw[if_pos hx]
 exact wpAny_bind (wpAny_seqItems h1 h3 (wpAny_pure h))
theorem HJ:plainId "dict.update.loop" = true:=by decide +kernel
theorem N0 {K:Type} [DecidableEq K] {knd:KeyKind prog w K}{h h':Heap}{d I l:Addr}{i:Nat}{xs:List (List K×Addr×Value)}(hd:h.DictOfH (tupleKind knd) d xs) (hit:h.IsListIter I l i) (sb:∀ b o,b≠I->h.get? b=some o->h'.get? b=some o) :
 h'.DictOfH (tupleKind knd) d xs:=by
 obtain⟨o,es,ep,h1,h2,h3,h4,h5,h6⟩:=hd
 obtain⟨oi,i1,i2,i3⟩:=hit
 refine⟨o,es,ep,sb d o (fun z=>?_) h1,h2,h3,h4,fun x hx=>?_,h6⟩
 ·subst z
  rw[i1] at h1
  cases h1
  rw[i3] at h3
  cases h3
 ·obtain⟨ok,aa,n,k1,k2,k3,k4⟩:=h5 x hx
  refine⟨ok,aa,n,sb _ _ (fun z=>?_) k1,k2,k3,k4⟩
  rw[z,i1] at k1
  cases k1
  rw[i3] at k3
  cases k3
theorem Ts {K:Type} [DecidableEq K] {knd:KeyKind prog w K}{R:Result->Shared->Prop}{d I l:Addr}{items:Array Value}{h0:Heap}(ps:List (List K×Addr×Value)) (hh:A.handled=none) (cN:A.in1.units < cLine) (ib:l≠I) (wR:d≠I) (va:l≠d)
 (vb:ps.length=items.size) (hsz:items.size + 1<=sizeLine) (hl:h0.IsList l items)
 (hp:∀(j:Nat) p,ps[j]? =some p->(p.2.1≠d/\p.2.1≠I/\(tupleKind knd).is h0 p.1 p.2.1)/\∃ t,items[j]? =some (.ref t)/\t≠d/\t≠I/\IsTup h0 t #[.ref p.2.1,p.2.2]) :
 ∀(m i:Nat) (xs:List (List K×Addr×Value)) (s:Shared),items.size - i=m->i<=items.size->xs.length<=i->s.heap.IsListIter I l i->s.heap.DictOfH (tupleKind knd) d xs->(∀ b o,b≠d->b≠I->h0.get? b=some o->s.heap.get? b=some o)->
  (∀ h' tk,h'.DictOfH (tupleKind knd) d ((ps.drop i).foldl (fun acc p=>storedH acc p.1 p.2.1 p.2.2) xs)->(∀ b o,b≠d->b≠I->h0.get? b=some o->h'.get? b=some o)->R (.ok (.ret .none)) { s with heap:=h',toks:=tk })->
  codeAny (model prog w) A (.builtin "dict.update.loop" ⟨[.ref d,.ref I,rawInt i,.none],[]⟩) R s:=by
 intro m
 induction m with
 |zero =>
  intro i xs s hm hi wS hit hd hf h
  have bO:i=items.size:=by omega
  refine codeAny_builtin OL ?_
  rw[zag HJ _]
  show wpAny _ A.in1 (pyNext (.ref I) >>= _) _ _ s
  refine wpAny_bind (wpAny_pyNext_list_end (A:=A.in1) hh hit (hl.at fun o e=>hf l o va ib e) (by simp[bO]) fun h' eb=>?_)
  have hd2:=N0 hd hit fun b o hb e=>eb b o hb e
  show wpAny _ A.in1 (Dict.addKeywords d [] >>= _) _ _ _
  unfold Dict.addKeywords
  refine wpAny_bind (wpAny_bind ?_)
  refine wpAny_pure (wpAny_pure (wpAny_pure ?_))
  have ed:ps.drop i=[]:=by rw[List.drop_eq_nil_iff];omega
  rw[ed] at h
  exact h h' s.toks hd2 fun b o h1 h2 e=>eb b o h2 (hf b o h1 h2 e)
 |succ m ih =>
  intro i xs s hm hi wS hit hd hf h
  have aj:i < items.size:=by omega
  obtain⟨p,ph⟩:∃ p,ps[i]? =some p:=⟨ps[i]'(by omega),zq _⟩
  obtain⟨⟨p1,p2,p3⟩,t,ht,t1,t2,t3⟩:=hp i p ph
  refine codeAny_builtin OL ?_
  rw[zag HJ _]
  show wpAny _ A.in1 (pyNext (.ref I) >>= _) _ _ s
  refine wpAny_bind (wpAny_pyNext_list_item (A:=A.in1) hit (hl.at fun o e=>hf l o va ib e) ht fun h' bn sb=>?_)
  have hd2:h'.DictOfH (tupleKind knd) d xs:=N0 hd hit fun b o hb e=>(sb.2 b hb).trans e
  have pi:∀ b o,b≠d->b≠I->h0.get? b=some o->h'.get? b=some o:=fun b o h1 h2 e=>(sb.2 b h2).trans (hf b o h1 h2 e)
  have t4:IsTup h' t #[.ref p.2.1,p.2.2]:=by
   obtain⟨o,e1,e2⟩:=t3
   exact⟨o,pi t o t1 t2 e1,e2⟩
  have p4:(tupleKind knd).is h' p.1 p.2.1:=by
   obtain⟨o,aa,n,e1,e2⟩:=p3
   exact⟨o,aa,n,pi _ o p1 p2 e1,e2⟩
  dsimp only
  refine wpAny_bind (wpAny_holding (wpAny_bind (wpAny_tryCatch (Wi t4 ?_))))
  show wpAny _ A.in1 (holding [.ref p.2.1,p.2.2] (dictSet d (.ref p.2.1) p.2.2)) _ _ _
  refine wpAny_holding (wpAny_dictSet_heap (knd:=tupleKind knd) (hsz:=by omega) cN p4 hd2 fun h3 pk vc=>?_)
  refine wpAny_pure ⟨plainId_quiet HJ _,?_⟩
  have pq:h3.IsListIter I l (i + 1):=by
   obtain⟨o,e1,e2⟩:=bn
   exact⟨o,(vc.2 I (yE wR)).trans e1,e2⟩
  have ed:ps.drop i=p::ps.drop (i + 1):=by
   rw[zb8 (by omega:i < ps.length)]
   rw[zq (by omega:i < ps.length)] at ph
   rw[zI ph]
  rw[ed,zU] at h
  have o9:(storedH xs p.1 p.2.1 p.2.2).length<=i + 1:=by
   unfold storedH
   split
   ·rw[zc];omega
   ·rw[zL,za3];omega
  have q:=ih (i + 1) (storedH xs p.1 p.2.1 p.2.2) { s with heap:=h3,toks:=s.toks + (tupleKind knd).draws p.1 } (by omega) (by omega) o9 pq pk (fun b o h1 h2 e=>(vc.2 b h1).trans (pi b o h1 h2 e)) h
  exact q
theorem Lk {K:Type} [DecidableEq K] {knd:KeyKind prog w K}{Q:Value->Shared->Prop}{l:Addr}{items:Array Value}{n:Nat}{sl:Array (Option Value)}(ps:List (List K×Addr×Value)) (hh:A.handled=none) (cN:A.units + 2 < cLine)
 (vb:ps.length=items.size) (hsz:items.size + 1<=sizeLine) (hl:s.heap.get? l=some { cls:=.type "list",data:=.seq items n,slots:=sl })
 (hp:∀(j:Nat) p,ps[j]? =some p->(tupleKind knd).is s.heap p.1 p.2.1/\∃ t,items[j]? =some (.ref t)/\IsTup s.heap t #[.ref p.2.1,p.2.2])
 (h:∀ h' tk,h'.DictOfH (tupleKind knd) s.heap.objs.size (ps.foldl (fun acc p=>storedH acc p.1 p.2.1 p.2.2) [])->(∀ b o,s.heap.get? b=some o->h'.get? b=some o)->Q (.ref s.heap.objs.size) { s with heap:=h',toks:=tk }) :
 wpAny (model prog w) A (call (.type "dict") [.ref l]) Q E s:=by
 refine callType_codes (Q₁:=fun obj s₁=>obj=.ref s.heap.objs.size/\s₁={ s with heap:=s.heap.push { cls:=.type "dict",data:=.dict #[] } }) PySem.F.kt_called_dict (PySem.F.kt_typeCall_dict_1 _) PySem.F.entry_dict_init
  (kt_code_dict_new _ ⟨rfl,rfl⟩) fun obj s₁ h₁=>?_
 obtain⟨rfl,rfl⟩:=h₁
 have hS:(s.heap.push { cls:=.type "dict",data:=.dict #[] }).get? s.heap.objs.size=some { cls:=.type "dict",data:=.dict #[] }:=zH _ rfl
 have ll:l < s.heap.objs.size:=zw hl
 have ju:(s.heap.push { cls:=.type "dict",data:=.dict #[] }).get? l=some { cls:=.type "list",data:=.seq items n,slots:=sl }:=zr _ hl
 refine⟨⟨_,hS,rfl⟩,PySem.F.args_dict_init_2 _ _,?_⟩
 have TD:Looks (model prog w) (s.heap.push { cls:=.type "dict",data:=.dict #[] }) (typeOf (.ref s.heap.objs.size)) (.type "dict"):=(Looks.ld hS).andThen .now
 have TL:Looks (model prog w) (s.heap.push { cls:=.type "dict",data:=.dict #[] }) (typeOf (.ref l)) (.type "list"):=(Looks.ld ju).andThen .now
 unfold Builtin.«dict.__init__» Dict.selfAndRest Dict.notOrdered
 dsimp only
 rw[if_pos (by decide)]
 refine wpAny_bind (wpAny_bind (wpAny_bind (TD.at ?_)))
 rw[if_neg (by decide)]
 refine wpAny_pure ?_
 unfold Dict.addrOf
 refine wpAny_bind (wpAny_pure (wpAny_pure ?_))
 unfold Dict.updateCommon Dict.updateFrom
 dsimp only
 refine wpAny_bind (TL.at ?_)
 rw[if_pos (by decide)]
 refine wpAny_bind (RI (A:=A.in1.in1) hh ju fun h2 y2 pw=>?_)
 rw[if_pos (show (none:Option Value).isNone=true from rfl)]
 refine wpAny_bind (wpAny_rule ?_)
 have bf:h2.IsList l items:=⟨_,pw _ _ ju,rfl,n,rfl⟩
 have vd:=pw _ _ hS
 refine wpAny_bind (wpAny_pyIter_list bf ?_)
 refine wpAny_pure ⟨plainId_quiet HJ _,?_⟩
 have lz:s.heap.objs.size < h2.objs.size:=zw vd
 have wT:∀ b o,s.heap.get? b=some o->(h2.push { cls:=.type "list_iterator",data:=.fields #[.ref l,.int 0 0] }).get? b=some o:=fun b o e=>zr _ (pw _ _ (zr _ e))
 have pk:(h2.push { cls:=.type "list_iterator",data:=.fields #[.ref l,.int 0 0] }).DictOfH (tupleKind knd) s.heap.objs.size [] :=
  ⟨_,#[],0,zr _ vd,⟨rfl,rfl,rfl⟩,rfl,rfl,fun x hx=>absurd hx List.not_mem_nil,za1⟩
 have aj:∀ b o,s.heap.get? b=some o->b≠s.heap.objs.size/\b≠h2.objs.size:=fun b o e=>by
  have:=zw e
  exact⟨zG this,zG (Nat.lt_trans this lz)⟩
 refine Ts (A:=A.in1) (knd:=knd) (l:=l) (h0:=s.heap) ps hh cN (zG (Nat.lt_trans ll lz)) (zG lz) (zG ll) vb hsz ⟨_,hl,rfl,n,rfl⟩ (fun j p hj=>?_) items.size 0 [] _ (by omega) (by omega) (by simp) ⟨_,zH _ rfl,rfl,rfl⟩ pk (fun b o h1 ic e=>wT b o e) fun h' tk bS wU=>?_
 ·obtain⟨q1,t,q2,q3⟩:=hp j p hj
  obtain⟨o1,_,_,e1,_⟩:=id q1
  obtain⟨o2,e2,_⟩:=id q3
  exact⟨⟨(aj _ _ e1).1,(aj _ _ e1).2,q1⟩,t,q2,(aj _ _ e2).1,(aj _ _ e2).2,q3⟩
 ·exact⟨rfl,h h' tk bS fun b o e=>wU b o (aj _ _ e).1 (aj _ _ e).2 e⟩
end
structure Wj where
 (t:Addr) (κ:List Key) (b:Addr) (v:V)
noncomputable def fN (H:Hp) (p:Wj):Prop:=H p.t=some (.tup [.ref p.b,p.v])/\H p.b=some (.tup (p.κ.map kV))
noncomputable def rO (ps:List Wj):List (List Key×V):=ps.foldl (fun acc p=>putK acc p.κ p.v) []
noncomputable def wV (X:Cx) (te:TE):TE:=fun σ H Q=>te σ H fun x H1=>∃(l:Addr) (ps:List Wj),x=.ref l/\Dm X.K H1 l (ps.map fun p=>V.ref p.t)/\(∀ p∈ps,fN H1 p)/\ps.length<=1000/\∀ r,H1 r=none->Q (.ref r) (upd H1 r (.dT (rO ps)))
theorem RJ:∀ {ps:List Wj}{us:List Value},Vals (ps.map fun p=>V.ref p.t) us->us=ps.map fun p=>yG p.t
 |[],_,.nil=>rfl
 |p::ps,_,.cons h t=>by
  cases h
  rw[zg,<-RJ t]
theorem iH {H:Hp}:∀ {ps:List Wj}{qs:List (List Key×Addr×Value)}{kvs:List (List Key×V)}{xs:List (List Key×Addr×Value)},(∀ p∈ps,fN H p)->Paired (fun (p:Wj) (q:List Key×Addr×Value)=>p.κ=q.1/\p.b=q.2.1/\RelV p.v q.2.2) ps qs->KT H kvs xs->KT H (ps.foldl (fun acc p=>putK acc p.κ p.v) kvs) (qs.foldl (fun acc p=>storedH acc p.1 p.2.1 p.2.2) xs)
 |[],_,_,_,_,.nil,h=>h
 |p::ps,_,_,_,ho,.cons (b:=q) hq t,h=>by
  obtain⟨q1,q2,q3⟩:=q
  obtain⟨e1,e2,e3⟩:=hq
  dsimp only at e1 e2 e3
  subst e1 e2
  have r:=iH (ps:=ps) (fun p' hp=>ho p' (zf _ hp)) t (h.put p.κ (ho p ze).2 e3)
  exact r
theorem Yu:∀(ps:List Wj) (kvs:List (List Key×V)),(ps.foldl (fun acc p=>putK acc p.κ p.v) kvs).length<=kvs.length + ps.length
 |[],kvs=>zA _
 |p::ps,kvs=>by
  have h1:=Yu ps (putK kvs p.κ p.v)
  have h2:=ED kvs p.κ p.v
  rw[zU,zo]
  omega
theorem V3 {h:Heap}{H:Hp}{P:Program}{w:World}(ok:Fq P w H h):∀ {ps:List Wj},(∀ p∈ps,fN H p)->∃ qs:List (List Key×Addr×Value),Paired (fun (p:Wj) (q:List Key×Addr×Value)=>p.κ=q.1/\p.b=q.2.1/\RelV p.v q.2.2) ps qs /\
 ∀(j:Nat) q,qs[j]? =some q->(tupleKind (B5 P w)).is h q.1 q.2.1/\∃ t,(ps.map fun p=>yG p.t)[j]? =some (.ref t)/\IsTup h t #[.ref q.2.1,q.2.2]
 |[],_=>⟨[],.nil,fun j q e=>by simp at e⟩
 |p::ps,ho=>by
  obtain⟨qs,h1,h2⟩:=V3 ok fun p hp=>ho p (zf _ hp)
  obtain⟨o1,o2⟩:=ho p ze
  obtain⟨_,aa,r,it⟩:=(show BF P w H h p.t (.tup [.ref p.b,p.v]) from ok p.t _ o1)
  obtain⟨u,v,rfl,ru,rv⟩:=r.two
  cases ru
  refine⟨(p.κ,p.b,v)::qs,.cons ⟨rfl,rfl,rv⟩ h1,fun j q e=>?_⟩
  cases j with
  |zero =>
   rw[zao] at e
   cases e
   exact⟨Im ok o2,p.t,by simp,it⟩
  |succ j =>
   rw[zS] at e
   obtain⟨a1,t,a2,a3⟩:=h2 j q e
   exact⟨a1,t,by simpa using a2,a3⟩
section
variable {X:Cx}{WX:Str->Hp->Prop}{c:Bool}{P0:EA}{P:Addr->Prop}{H:Hp}{σ:St}{ρ:Ab}{a b e:Expr}{f g:Ab->M D}{fn:Ab->M OT}{pos:Pos}{te:TE}
theorem Yv {p:Pos}{n:Nat}(hc:X.calm=true) (hu:X.A.units + n < cLine) (hg:Gl X "dict") (hm:X.mg "dict" = none) (he:PE X e te)
 (hv:bootBuiltins "dict" = some (.type "dict"):=by decide +kernel)
 (hs:starEach [e] X.env=[(false,eval e X.env)]:=by rfl) (hn:2<=n:=by decide) :
 PE X (.Call (.Name "dict" p) [e] [] pos) (wV X te):=by
 intro pins s σ H Q I h
 refine wpAny_Call_Name_kw (E6 I hg hm hv ?_)
 refine yO ?_ hs
 rw[hs]
 refine zas (Bg (he pins s σ H _ I h) fun u s1 ⟨x,H1,I1,r1,q1⟩=>?_)
 obtain⟨l,ps,rfl,hq,ho,hlen,q⟩:=q1
 cases r1
 refine zb0 ?_
 obtain⟨aa,r',pl,hz⟩:=I1.list hq
 have hits:=RJ r'
 subst hits
 obtain⟨⟨wW,ve,vg,pz⟩,n0,o1,o2,o3,o4⟩:=pl
 dsimp only at o2 o3 o4
 subst o2 o3 o4
 obtain⟨qs,h1,h2⟩:=V3 I1.Av ho
 refine Lk (knd:=B5 X.prog X.w) qs (I1.ok.hd hc) (by omega) (by rw[zk,zc,<-h1.length]) (AG (by rw[zk,zc];omega)) o1 (fun j p hj=>?_) fun h' tk hd kp=>?_
 ·obtain⟨a1,t,a2,a3⟩:=h2 j p hj
  exact⟨a1,t,by rw[List.getElem?_toArray];exact a2,a3⟩
 ·have wX:=iH ho h1 (show KT H1 [] [] from .nil)
  have jr:s1.heap.objs.size<=s1.heap.objs.size:=zA _
  have d5:=I1.Av.fresh jr
  have wY:=Yu ps []
  obtain⟨o,es,ep,g1,g2,g3,g4,g5,g6⟩:=hd
  refine⟨.ref _,_,I1.laid (t':=tk) (o:=.dT (rO ps)) kp jr ⟨yQ (AG (by unfold rO;simp at wY;omega)),beq_eq_false_iff_ne.mpr (yE (zG I1.big)),_,wX.keeps (fun b ys eb=>by rw[Ag (fun z=>by rw[z,d5] at eb;cases eb)];exact eb),o,es,ep,g1,g2,g3,g4,g6⟩,rfl,q _ d5⟩
noncomputable def Wl:List D->Option (List (D×D))
 |[]=>some []
 | .tup [k,v]::r=>(Wl r).map ((k,v)::·)
 |_=>none
noncomputable def rQ (l:List (D×D)):List D×List D:=l.foldl (fun z kv=>putD z.1 z.2 kv.1 kv.2) ([],[])
noncomputable def fO (d:D):M OT:=match d with
 | .lst xs=>(match Wl xs with|some l=>if l.length<=1000/\(l.all fun kv=>keyOk true kv.1)=true then .ok (.Bj true (rQ l).1 ((rQ l).2.map .sh)) else .bad|none=>.bad)
 |_=>.bad
theorem V4 {K:za}{H:Hp}{P:Addr->Prop}:∀ {xs:List V}{ds:List D}{l:List (D×D)},Ah K (del H P) xs ds->Wl ds=some l->(l.all fun kv=>keyOk true kv.1)=true->
 ∃ ps:List Wj,xs=ps.map (fun p=>V.ref p.t)/\(∀ p∈ps,fN H p)/\Paired (fun (p:Wj) (kv:D×D)=>kv.1=.tup (p.κ.map Dk)/\BL K (del H P) p.v kv.2) ps l
 |_,[],l,.nil,e,_=>by cases e;exact⟨[],rfl,fun p hp=>(by cases hp),.nil⟩
 |_,d::ds,l,.cons hd ht,e,hk=>by
  unfold Wl at e
  split at e
  ·rename_i cc;cases cc
  ·rename_i k v r cc
   cases cc
   obtain⟨l',e1,e2⟩:=Option.map_eq_some_iff.mp e
   subst e2
   rw[List.all_cons,zR] at hk
   obtain⟨ps,q1,q2,q3⟩:=V4 ht e1 hk.2
   have hK:=Fj hk.1
   cases hK with
   |t κ =>
    cases hd with
    |tup h1 h2 =>
     obtain⟨x,y,rfl,hx,hy⟩:=h2.two
     cases hx with
     |tup g1 g2 =>
      rename_i tt bb dw
      have ey:=Ah.keys κ g2
      subst ey
      refine⟨⟨tt,κ,bb,y⟩::ps,by rw[zg,q1],fun p hp=>?_,.cons ⟨rfl,hy⟩ q3⟩
      rcases zu.mp hp with rfl|hp
      ·exact⟨(Am h1).2,(Am g1).2⟩
      ·exact q2 p hp
  ·cases e
theorem Yw {K:za}{H:Hp}{P:Addr->Prop}:∀ {ps:List Wj}{l:List (D×D)}{kvs:List (List Key×V)}{vs:List D},Paired (fun (p:Wj) (kv:D×D)=>kv.1=.tup (p.κ.map Dk)/\BL K (del H P) p.v kv.2) ps l->Ah K (del H P) (kvs.map yZ) vs->
 ∃ bg,l.foldl (fun z kv=>putD z.1 z.2 kv.1 kv.2) (kvs.map (fun kv=>D.tup (kv.1.map Dk)),vs)=((ps.foldl (fun acc p=>putK acc p.κ p.v) kvs).map (fun kv=>D.tup (kv.1.map Dk)),bg)/\Ah K (del H P) ((ps.foldl (fun acc p=>putK acc p.κ p.v) kvs).map yZ) bg
 |[],_,kvs,vs,.nil,h=>⟨vs,rfl,h⟩
 |p::ps,_,kvs,vs,.cons (b:=kv) hq t,h=>by
  obtain⟨k,d⟩:=kv
  obtain⟨e1,e2⟩:=hq
  dsimp only at e1 e2
  subst e1
  have hf:∀ a b:List Key,Aw (.tup (a.map Dk)) (.tup (b.map Dk))=decide (a=b):=fun a b=>by simp only[Aw];exact LB a b
  have ba:∃ bg,(putD (kvs.map fun kv=>.tup (kv.1.map Dk)) vs (.tup (p.κ.map Dk)) d)=((putK kvs p.κ p.v).map (fun kv=>.tup (kv.1.map Dk)),bg)/\Ah K (del H P) ((putK kvs p.κ p.v).map yZ) bg:=by
   unfold putD putK
   rw[MJ (fk:=fun κ:List Key=>D.tup (κ.map Dk)) hf]
   by_cases hh:(kvs.any fun kv=>decide (kv.1=p.κ))=true
   ·rw[if_pos hh,if_pos hh]
    refine⟨_,by rw[Jo (fk:=fun κ:List Key=>D.tup (κ.map Dk)) hf],?_⟩
    rw[<-Jn (fk:=fun κ:List Key=>D.tup (κ.map Dk)) hf]
    exact Jp e2 h
   ·rw[if_neg hh,if_neg hh]
    refine⟨_,by rw[zK];rfl,?_⟩
    rw[zK]
    exact h.snoc e2
  obtain⟨y3,g1,g2⟩:=ba
  obtain⟨wZ,g3,g4⟩:=Yw t g2
  refine⟨wZ,?_,g4⟩
  rw[zU]
  dsimp only
  rw[g1]
  exact g3
theorem RK {p:Pos}{n:Nat}(hc:X.calm=true) (hu:X.A.units + n < cLine) (hg:Gl X "dict") (hm:X.mg "dict" = none) (he:DE X WX true e f)
 (hv:bootBuiltins "dict" = some (.type "dict"):=by decide +kernel)
 (hs:starEach [e] X.env=[(false,eval e X.env)]:=by rfl) (hn:2<=n:=by decide) :
 DN X WX (.Call (.Name "dict" p) [e] [] pos) (fun ρ=>(f ρ).bind fO):=by
 obtain⟨te,e1,e2⟩:=he
 refine⟨_,Yv hc hu hg hm e1 hv hs hn,fun P0 P σ H Q ρ E h=>?_⟩
 refine e2 P0 P σ H _ ρ E ?_
 dsimp only at h
 cases q:f ρ with
 |bad=>rw[q] at h;exact h
 |ex x=>rw[q] at h;exact h
 |ok d =>
  rw[q] at h
  simp only[M.A8] at h
  intro v H1 s1 hv
  unfold fO at h
  split at h
  ·rename_i xs
   split at h
   ·rename_i l eb
    split at h
    ·rename_i hl
     cases hv with
     |lst hs hh =>
      obtain⟨ps,q1,q2,q3⟩:=V4 hh eb hl.2
      subst q1
      obtain⟨bg,g1,g2⟩:=Yw (kvs:=[]) q3 .nil
      refine⟨_,ps,rfl,hs.Bo,q2,by rw[q3.length];exact hl.1,fun r hr=>?_⟩
      have e3:rQ l=((rO ps).map (fun kv=>D.tup (kv.1.map Dk)),bg):=g1
      rw[e3] at h
      have bZ:∀ a∈[r],H1 a=none:=fun a ha=>by rw[zh.mp ha];exact hr
      exact h _ [r] _ (s1.trans (AN hr _)) (fun a ha=>Fi s1 (bZ a ha)) (by simp) (.dT Ar (g2.mono (Dd (AN hr _) bZ)).ows)
    ·exact h.elim
   ·exact h.elim
  ·exact h.elim
end
end L2
namespace L2
open PySem PySem.Spec PyProof.Rows
section
variable {X:Cx}{WX:Str->Hp->Prop}{c:Bool}{P0:EA}{P:Addr->Prop}{H:Hp}{σ:St}{ρ:Ab}{a b e:Expr}{f g:Ab->M D}{fn:Ab->M OT}{pos:Pos}{te:TE}
noncomputable def Yx (x y:D):M D:=match x,y with
 | .tup xs,.tup ys=>(match CC xs,CC ys with|some ns,some ms=>.ok (.bl (HT.lexLt ns ms))|_,_=>.bad)
 |_,_=>.bad
theorem V5:Uk X.K WX (oR X.K) Yx:=by
 intro P H x y v w Q ht hx hy h
 unfold Yx at h
 split at h
 ·rename_i xs ys
  split at h
  ·rename_i ns ms e1 e2
   have:=DU e1
   subst this
   have:=DU e2
   subst this
   cases hx with
   |tup h1 h2 =>
    cases hy with
    |tup h3 h4 =>
     have:=Ee h2
     subst this
     have:=Ee h4
     subst this
     exact⟨_,_,ns,ms,rfl,rfl,Fs.of (Am h1).2,Fs.of (Am h3).2,h _ H (Ad.refl H) (.bl _)⟩
  ·exact h.elim
 ·exact h.elim
theorem tM {n:Nat}(hu:X.A.units + n < cLine) (ha:DE X WX c a f) (hb:DE X WX c b g):DE X WX c (.Compare a [.Lt] [b] pos) (fun ρ=>(f ρ).bind fun x=>(g ρ).bind fun y=>Yx x y):=Xo (Xd (by omega)) V5 ha hb (Ij _)
theorem lT {n:Nat}(hu:X.A.units + n < cLine) (ha:DE X WX c a f) (hb:DE X WX c b g):DT X WX (.Compare a [.Lt] [b] pos) (fun ρ=>((f ρ).bind fun x=>(g ρ).bind fun y=>Yx x y).bind Of):=Fx (Xd (by omega)) V5 ha hb (Ij _)
theorem Yy (hk:DE X WX true a f) (hv:DE X WX true b g):DN X WX (.Dict [some a] [b] pos) (fun ρ=>(f ρ).bind fun k=>(g ρ).bind fun v=>if keyOk false k=true then .ok (.Bj false [k] [.sh v]) else .bad):=by
 obtain⟨tk,k1,k2⟩:=hk
 obtain⟨tv,v1,v2⟩:=hv
 refine⟨_,ZL (Xj k1 v1 ZK) rfl rfl (by simp) (by simp),fun P0 P σ H Q ρ E h p hp=>?_⟩
 dsimp only at h
 have hn:∀ a∈[p],H a=none:=fun a ha=>by rw[zh.mp ha];exact hp
 have s0:Ad H (upd H p (.dK [])):=AN hp _
 have E1:An X.K P0 (PU P [p]) (upd H p (.dK [])) σ ρ:=E.more s0 MG (fun a ha=>ha.elim (fun z=>(E.Cp a z).same s0) fun z=>by
  rw[zh.mp z]
  exact⟨_,Ar,fun _=>⟨fun z=>(by cases z),fun _ z=>by cases z⟩⟩) (Dd s0 hn)
 refine k2 P0 (PU P [p]) σ _ _ ρ E1 ?_
 cases q:f ρ with
 |bad=>rw[q] at h;exact h
 |ex x=>rw[q] at h;exact fun H' s=>h H' (s0.trans s)
 |ok k =>
  rw[q] at h
  simp only[M.A8] at h
  intro y H2 s2 hy
  have E2:=E1.same s2
  refine v2 P0 (PU P [p]) σ H2 _ ρ E2 ?_
  cases q2:g ρ with
  |bad=>rw[q2] at h;exact h
  |ex x=>rw[q2] at h;exact fun H' s=>h H' ((s0.trans s2).trans s)
  |ok d =>
   rw[q2] at h
   simp only[M.A8] at h
   intro w H3 s3 hw
   by_cases hc:keyOk false k=true
   ·rw[if_pos hc] at h
    have hK:=Fj hc
    cases hK with
    |k κ =>
     have ey:=hy.lG
     subst ey
     refine⟨s3 _ _ (s2 _ _ Ar),[(κ,w)],rfl,by simp,?_⟩
     have s4:Ad H (upd H3 p (.dK (Gr [] [(κ,w)]))):=fun a o ha=>by
      rw[Ag (fun z=>by rw[z,hp] at ha;cases ha)]
      exact s3 _ _ (s2 _ _ (s0 _ _ ha))
     have s5:Ad (del H3 (PU P [p])) (del (upd H3 p (.dK (Gr [] [(κ,w)]))) (PU P [p])):=fun a o ha=>by
      obtain⟨n1,n2⟩:=Am ha
      rw[Ax n1,Ag (fun z=>n1 (.inr (by rw[z];exact zh.mpr rfl)))]
      exact n2
     refine h _ [p] _ s4 hn (by simp) ?_
     have e1:Gr [] [(κ,w)]=[(κ,w)]:=rfl
     rw[e1] at s5 ⊢
     exact .dK (kvs:=[(κ,w)]) Ar (.cons (.sh (hw.mono s5)) .nil)
   ·rw[if_neg hc] at h;exact h.elim
noncomputable def OM (x:D) (m:M D):M D:=match x with
 | .Bj b ks vs=>m.bind fun y=>if keyOk b y=true then .ok ((Gf ks vs y).getD .AA) else .bad
 |_=>.bad
theorem fP {K:za}{v:V}{bb:Bool}{ks vs:List D}{P:Addr->Prop}(h:BL K (del H P) v (.Bj bb ks vs)):∃ a,v=.ref a/\sU H a:=by
 cases h with
 |Iq h1 h2=>exact⟨_,rfl,.inl ⟨_,.inl (Am h1).2⟩⟩
 |Ir h1 h2=>exact⟨_,rfl,.inr ⟨_,.inl (Am h1).2⟩⟩
theorem N1 {n:Nat}{o k:Expr}{apos ad:Pos}(hu:X.A.units + n < cLine) (ha:DE X WX c o f) (hb:DE X WX c k g) (m:M1 X o "get" apos k ad:=by exact⟨rfl,rfl,rfl,rfl⟩) (hn:1<=n:=by decide) :
 DE X WX c (.Call (.Attribute o "get" apos) [k] [] ad) (fun ρ=>(f ρ).bind fun x=>OM x (g ρ)):=by
 obtain⟨ta,a1,a2⟩:=ha
 obtain⟨tb,b1,b2⟩:=hb
 refine⟨_,Xk (by omega) a1 b1 m,fun P0 P σ H Q ρ E h=>?_⟩
 dsimp only at h
 refine a2 P0 P σ H _ ρ E ?_
 cases q:f ρ with
 |bad=>rw[q] at h;exact h
 |ex x=>rw[q] at h;exact h
 |ok x =>
  rw[q] at h
  simp only[M.A8] at h
  intro v H1 s1 hv
  unfold OM at h
  split at h
  ·rename_i bb ks vs
   obtain⟨a,rfl,hD⟩:=fP hv
   refine⟨a,rfl,hD,b2 P0 P σ H1 _ ρ (E.same s1) ?_⟩
   cases e2:g ρ with
   |bad=>rw[e2] at h;exact h
   |ex y=>rw[e2] at h;exact gV.same (m:=.ex y) h s1
   |ok y =>
    rw[e2] at h
    simp only[M.A8] at h
    intro w H2 s2 hw
    by_cases hk:keyOk bb y=true
    ·rw[if_pos hk] at h
     obtain⟨a',xs,ea,g',hl,bZ⟩:=Pz (hv.mono s2.del) hw (Fj hk)
     cases ea
     refine⟨_,g',?_⟩
     refine gV.same (gV.same h s1) s2 _ H2 (Ad.refl _) ?_
     cases eg:Gf ks vs y with
     |none =>
      have:Gf ks xs y=none:=by
       cases xa:Gf ks xs y with
       |none=>rfl
       |some z =>
        have h1:=Hu (xs:=xs) (y:=y) bZ
        have h2:=Hu (ks:=ks) (xs:=vs) (y:=y) (by rw[<-hl.length,bZ])
        rw[h1,xa,eg] at h2
        cases h2
      rw[this]
      exact .AA
     |some d =>
      obtain⟨x,e3,e4⟩:=MK hl eg
      rw[e3]
      exact e4
    ·rw[if_neg hk] at h;exact h.elim
  ·exact h.elim
end
end L2
namespace L2
open PySem PySem.Spec PyProof.Rows
noncomputable def vF (K:za) (a:Addr) (n:Nat):It :=
 ⟨fun i H=>∃ xs x,Dm K H a xs/\xs.length=n/\i < n/\xs[n - 1 - i]? =some x,fun i H x H'=>H'=H/\∀ xs,Dm K H a xs->xs[n - 1 - i]? =some x,fun i H=>∃ xs,Dm K H a xs/\xs.length=n/\n<=i⟩
theorem Yz {h:Heap}{it a:Addr}{i:Int}{xs:Array Value}(h1:h.IsRevIter it a i) (h2:h.IsList a xs):a≠it:=fun z=>by
 subst z
 obtain⟨o,e1,e2,_⟩:=h1
 obtain⟨o2,e3,e4,_⟩:=h2
 rw[e1] at e3
 cases e3
 rw[e2] at e4
 exact absurd (Value.type.inj e4) (by decide)
theorem YA {P:Program}{w:World}{K:za}{tg:Expr}(a it:Addr) (n:Nat):Turn P w K tg (vF K a n) [it] it (fun i h=>i<=n/\h.IsRevIter it a ((n:Int) - 1 - i)) where
 mem:=by simp
 obj:=fun i h st b hb=>by
  have e:b=it:=by simpa using hb
  subst e
  obtain⟨_,o,e,c,d⟩:=st
  exact⟨o,e,fun v z=>by rw[d] at z;cases z⟩
 keep:=fun i h h' st k=>⟨st.1,st.2.at fun o e=>k it (by simp) o e⟩
 item:=by
  intro X hP hw hK hc i pins s σ H E I hf st hg
  subst hP hw hK
  obtain⟨xs,x,hq,qd,bO,hx⟩:=hg
  obtain⟨aa,rv,p,hz⟩:=I.list hq
  obtain⟨u,hu,ru⟩:=rv.get hx
  obtain⟨f0,f1,f2,f3,f4,f5⟩:=hf it (by simp)
  have hl:=rv.length
  have qe:aa.toArray.size=n:=by rw[zk,<-hl,qd]
  have W:=Walks.listRev (prog:=X.prog) (w:=X.w) (A:=X.A) (I.ok.hd hc) it a (Yz st.2 p.isList) aa.toArray
  rw[qe] at W
  refine W.item i s _ _ bO ⟨st.1,st.2,p.isList⟩ fun v h' tk hv cq kp=>?_
  have ev:v=u:=by
   rw[List.getElem?_toArray,hu] at hv
   exact (zI hv).symm
  subst ev
  have I1:Inv X pins σ H { s with heap:=h',toks:=tk }:=I.turned (t':=tk) (fun b o hb e=>kp b o (by simpa using hb) e) f0 f1 f3 f4 f5
  obtain⟨o,e,c,d⟩:=id cq.2.1
  exact⟨v,rfl,WW (s:={ s with heap:=h',toks:=tk }) e c d (by decide) ⟨x,H,I1,ru,⟨rfl,fun ys hy=>by rw[I.Gj hy hq];exact hx⟩,⟨cq.1,cq.2.1⟩,fun b hb=>(hf b hb).1⟩⟩
 done:=by
  intro X hP hw hK hc i pins s σ H E I hf st hg
  subst hP hw hK
  obtain⟨xs,hq,qd,bO⟩:=hg
  obtain⟨aa,rv,p,hz⟩:=I.list hq
  obtain⟨f0,f1,f2,f3,f4,f5⟩:=hf it (by simp)
  have hl:=rv.length
  have qe:aa.toArray.size=n:=by rw[zk,<-hl,qd]
  have W:=Walks.listRev (prog:=X.prog) (w:=X.w) (A:=X.A) (I.ok.hd hc) it a (Yz st.2 p.isList) aa.toArray
  rw[qe] at W
  have xb:i=n:=Nat.le_antisymm st.1 bO
  subst xb
  exact W.done s _ _ ⟨st.1,st.2,p.isList⟩ fun h' tk kp=>⟨rfl,I.turned (t':=tk) (fun b o hb e=>kp b o (by simpa using hb) e) f0 f1 f3 f4 f5⟩
 self:=fun _ _ _ _ _ st h=>wpAny_pyIter_revIter st.2 h
section
variable {X:Cx}{WX:Str->Hp->Prop}{tg a:Expr}{f:Ab->M D}{pos p:Pos}{te:TE}
noncomputable def tN (K:za) (ta:TA):TI:=fun σ H R=>ta σ H fun vs H1=>∃ a xs,vs=[.ref a]/\Dm K H1 a xs/\R (vF K a xs.length) H1
theorem lU {ta:TA}(hg:Gl X "reversed") (hm:X.mg "reversed" = none) (ha:PA X [a] ta) (hb:bootBuiltins "reversed" = some (.type "reversed"):=by decide +kernel) (hs:starEach [a] X.env=[(false,eval a X.env)]:=by rfl) :
 PI X tg (.Call (.Name "reversed" p) [a] [] pos) (tN X.K ta):=by
 intro pins s σ H R I h
 refine Call_ (E6 I hg hm hb (yO (Bg (ha pos pins s σ H _ I h) fun us s1 ⟨vs,H1,I1,r1,q1⟩=>?_) hs rfl))
 obtain⟨j,xs,e,hq,q⟩:=q1
 subst e
 cases r1 with
 |cons r rr =>
  cases rr
  cases r
  obtain⟨aa,rv,p,hz⟩:=I1.list hq
  have hl:=rv.length
  refine call_reversed_list p.isList ?_
  have hit:(s1.heap.push (revObj j ((aa.toArray.size:Int) - 1))).IsRevIter s1.heap.objs.size j ((xs.length:Int) - 1 - (0:Nat)):=by
   rw[zk,<-hl]
   exact⟨_,zH _ rfl,rfl,by simp[revObj]⟩
  refine wpAny_pyIter_revIter (s:={ s1 with heap:=s1.heap.push (revObj j ((aa.toArray.size:Int) - 1)) }) hit ?_
  refine⟨s1.heap.objs.size,[s1.heap.objs.size],_,_,H1,rfl,I1.kept (t':=s1.toks) fun b o e=>zr _ e,YA j _ xs.length,⟨zX _,hit⟩,fun b hb=>?_,q⟩
  have e:b=s1.heap.objs.size:=by simpa using hb
  subst e
  exact I1.WV (zA _) (I1.Av.fresh (zA _))
theorem lV (hg:Gl X "reversed") (hm:X.mg "reversed" = none) (ha:DE X WX true a f) (hb:bootBuiltins "reversed" = some (.type "reversed"):=by decide +kernel) (hs:starEach [a] X.env=[(false,eval a X.env)]:=by rfl) :
 DI X WX tg (.Call (.Name "reversed" p) [a] [] pos) (fun ρ=>(f ρ).bind fun d=>match d with | .lst ds=>.ok ds.reverse|_=>.bad):=by
 obtain⟨ta,a1,a2⟩:=ha
 refine⟨_,lU hg hm (Bi a1 Cj hs) hb hs,fun P0 P σ H R ρ E h=>?_⟩
 dsimp only at h
 refine a2 P0 P σ H _ ρ E ?_
 cases q:f ρ with
 |bad=>rw[q] at h;exact h
 |ex x=>rw[q] at h;exact h
 |ok d =>
  rw[q] at h
  cases d with
  |lst ds =>
   intro v H1 s1 hv
   cases hv with
   | @lst a xs _ hs hl =>
    have hlen:=hl.length
    refine⟨a,xs,rfl,hs.Bo,h _ H1 s1 ⟨fun i P' H' s hi=>?_,fun i P' H' s hi=>?_,fun i P' H' v f6 d s ht hd y=>?_⟩⟩
    ·rw[yW] at hi
     obtain⟨x,hx,_⟩:=hl.get (zq (show xs.length - 1 - i < ds.length by omega))
     exact⟨xs,x,(s.seq hs).Bo,rfl,by omega,hx⟩
    ·rw[yW] at hi
     exact⟨xs,(s.seq hs).Bo,rfl,by omega⟩
    ·obtain⟨rfl,y⟩:=y
     have aj:=(zy.mp hd).1
     rw[yW] at aj
     rw[List.getElem?_reverse aj] at hd
     obtain⟨x,hx,bS⟩:=hl.get hd
     have e:=y xs (s.seq hs).Bo
     rw[hlen,hx] at e
     cases e
     exact⟨Ad.refl _,bS.mono s⟩
  |_=>exact h.elim
end
end L2
namespace L2
open PySem PySem.Spec PyProof.Rows
structure lW (K:za) (x qual:Str) (st:Stmt) (f:Addr) (fd:FuncData):Prop where
 ex:∃(oc:Value) (od:Option Addr) (dV kV doc pm:Value) (an:Option Addr) (B2 ct:Value) (Sn:Array (Option Value)),
  fd=zT x qual (AR st) (AB st) (A3 st) dV kV doc pm an B2 ct/\K.lookup f=some ⟨oc,od,.func fd,Sn⟩/\yI K B2 qual=true
 kp:zQ K (.ref f)=true
section
variable {P:Program}{w:World}{K:za}{mg:Str->Option Value}{base:Heap}
theorem fQ {x qual:Str}{st:Stmt}{f:Addr}{fd:FuncData}{N ps:List Str}{k:Nat}(F:lW K x qual st f fd) (S:Ae N ps (A3 st)) (g:Ab->M Out)
 (hb:∀(B2:Value) (A:Around) (outer:List Env) (s:Shared) (H:Hp) (E:XK),BJ k (A.deeper (envOfC qual (A3 st) s.heap.objs.size f B2))->So (Ut P w K mg base N qual (A3 st) f B2 A outer s H E) (D3 K E) (AB st) g) :
 Dn P w K mg base (SY P w base) (k + 1) f fd ps (Oy K ps.length fun t a5=>Ei (g (CW N t a5))):=by
 obtain⟨oc,od,dV,kV,doc,pm,an,B2,ct,Sn,rfl,lk,bz⟩:=F.ex
 refine Ua lk bz S (fun vs H Q E h=>h.1) fun A outer s H vs Q E hr h=>?_
 obtain⟨hl,P',p,t,fp,rest,a5,rfl,ht,hp,nd,ho,hv,hq⟩:=h
 obtain⟨tt,h1,h2⟩:=hb B2 A outer s H E hr
 refine⟨tt,h1,h2 ⟨fun a=>P' a/\a∉fp,fun _=>p⟩ P' _ H _ _ (Jt ht hp nd ho hv) ?_⟩
 dsimp only at hq
 revert hq
 cases g (CW N t a5) with
 |bad=>exact fun h=>h.elim
 |ex x=>exact fun h=>h.elim
 |ok o =>
  have sub:∀ {P2:Addr->Prop} {H2:Hp} {σ2:St} {ρ:Ab},An K ⟨fun a=>P' a/\a∉fp,fun _=>p⟩ P2 H2 σ2 ρ->∀ a,P2 a/\¬ (P' a/\a∉fp)->P2 a/\(P' a->a∈fp):=fun E a ha=>⟨ha.1,fun z=>zac fun w=>ha.2 ⟨z,w⟩⟩
  cases o with
  |ret d=>exact fun h=>h.elim
  |CH d=>exact fun h=>h.elim
  |next ρ =>
   intro hq σ' H' P2 t2 E2
   unfold Ei at hq
   dsimp only at hq
   split at hq
   ·rename_i t' e
    obtain⟨c,ai,k1,k2,k3,k4,k5,k6⟩:=LD E2 e
    exact hq .AA H' P2 ai [] (fun a ha hn=>⟨E2.sub a ⟨ha,hn⟩,t2.2 a ⟨ha,hn⟩⟩) E2.Cp t2.1 k4 k5 (.sh .AA) za1 (fun a ha=>by cases ha) (fun a ha=>sub E2 a (k6 a ha)) (fun a ha=>by cases ha)
   ·exact hq.elim
  |Fe r ρ =>
   intro hq v fr σ' H' P2 t2 E2 o2 b7 hf
   unfold Ei at hq
   dsimp only at hq
   split at hq
   ·rename_i t' e
    obtain⟨c,ai,k1,k2,k3,k4,k5,k6⟩:=LD E2 e
    exact hq v H' P2 ai fr (fun a ha hn=>⟨E2.sub a ⟨ha,hn⟩,t2.2 a ⟨ha,hn⟩⟩) E2.Cp t2.1 k4 k5 o2 b7 (fun a ha=>(hf a ha).2.2 0 c _ ai k1 k2 k3) (fun a ha=>sub E2 a (k6 a ha)) (fun a ha=>sub E2 a ⟨(hf a ha).1,(hf a ha).2.1⟩)
   ·exact hq.elim
  |brk ρ=>exact fun h=>h.elim
  |cont ρ=>exact fun h=>h.elim
end
theorem fR {K:za}{x qual:Str}{st:Stmt}{f:Addr}{oc:Value}{od an:Option Addr}{Sn:Array (Option Value)}{dV kV doc pm B2 ct:Value}(l:K.lookup f=some ⟨oc,od,.func (zT x qual (AR st) (AB st) (A3 st) dV kV doc pm an B2 ct),Sn⟩)
 (c:yI K B2 qual=true) (k:zQ K (.ref f)=true):lW K x qual st f (zT x qual (AR st) (AB st) (A3 st) dV kV doc pm an B2 ct):=⟨⟨oc,od,dV,kV,doc,pm,an,B2,ct,Sn,rfl,l,c⟩,k⟩
structure ON (P:Program) (w:World) (K:za) (mg:Str->Option Value) (base:Heap) (x:Str) (k n:Nat) (F:OT->List D->M (OT×OT)):Prop where
 ex:∃ C fa fd ps,lS K mg x C/\Mk K C fa/\Dn P w K mg base (SY P w base) k fa fd ps (Oy K n F)/\Binds K fd ps []/\Binds K fd ps [.none]
theorem ON.xA {P:Program}{w:World}{K:za}{mg:Str->Option Value}{base:Heap}{x:Str}{k n:Nat}{F:OT->List D->M (OT×OT)}(G:ON P w K mg base x k n F):qL P w K mg base x k n F:=by
 obtain⟨C,fa,fd,ps,h1,h2,h3,h4,_⟩:=G.ex
 exact⟨⟨C,fa,fd,ps,h1,h2,h3,h4⟩⟩
structure Tt (K:za) (mg:Str->Option Value) (x qual:Str) (st:Stmt) (ps:List Str):Prop where
 ex:∃ C f fd,lS K mg x C/\Mk K C f/\lW K "__init__" qual st f fd/\Binds K fd ps []/\Binds K fd ps [.none]
theorem YB {P:Program}{w:World}{K:za}{mg:Str->Option Value}{base:Heap}{x qual:Str}{st:Stmt}{N ps:List Str}{k n:Nat}(T:Tt K mg x qual st ps) (S:Ae N ps (A3 st)) (g:Ab->M Out)
 (hb:∀(f:Addr) (B2:Value) (A:Around) (outer:List Env) (s:Shared) (H:Hp) (E:XK),BJ k (A.deeper (envOfC qual (A3 st) s.heap.objs.size f B2))->So (Ut P w K mg base N qual (A3 st) f B2 A outer s H E) (D3 K E) (AB st) g) (hn:ps.length=n:=by rfl) :
 ON P w K mg base x (k + 1) n (fun t a5=>Ei (g (CW N t a5))):=by
 obtain⟨C,f,fd,h1,h2,F,hB⟩:=T.ex
 subst hn
 exact⟨⟨C,f,fd,ps,h1,h2,fQ F S g (hb f),hB⟩⟩
section
variable {X:Cx}{E:XK}{WX:Str->Hp->Prop}{c:Bool}{e:Expr}{es:List Expr}{fs:Ab->M (List D)}{pos:Pos}{H:Hp}
theorem YC {x:Str}{k n:Nat}{F:OT->List D->M (OT×OT)}{p:Pos}(xo:XCall X E) (G:ON X.prog X.w X.K X.mg X.base x k n F) (hr:BJ (k + 1) X.A) (hg:Gl X x) (ha:DA X (D3 X.K E) true (e::es) fs) (b8:(e::es).length + 2=n)
 (aU:(x == ("__debug__" : Str))=false:=by decide) (he:starEach (e::es) X.env=(false,eval e X.env)::starEach es X.env:=by rfl) (a4:(backTo pos (starEach es X.env)).any (·.1)=false:=by rfl) :
 DN X (D3 X.K E) (.Call (.Name x p) (e::es) [] pos) (fun ρ=>(fs ρ).bind fun ds=>OJ (F (.ins x [] []) (ds++[.AA]))):=by
 obtain⟨C,fa,fd,ps,hT,hM,hF,_,hb⟩:=G.ex
 obtain⟨ta,a1,a2,a3⟩:=ha
 refine⟨_,U9 hM hF hr hg hT.vE hb (show Vals [.AA] [.none] from .cons (show RelV .AA .none from rfl) .nil) xo.call a1 aU he a4,fun P0 P σ H Q ρ Ev h=>?_⟩
 dsimp only at h
 refine a2 P0 P σ H _ ρ Ev ?_
 cases q:fs ρ with
 |bad=>rw[q] at h;exact h
 |ex x=>rw[q] at h;exact h
 |ok ds =>
  rw[q] at h
  simp only[M.A8] at h
  intro vs H1 s1 aI y dx hy hd ae
  have E1:=Ev.same s1
  have sm:=OI (C:=C) hy hd
  have cf:∀ a∈[y],H1 a=none:=fun a ha=>by rw[zh.mp ha];exact hy
  refine⟨by rw[zo,zL,aI.length,a3 ρ ds q];exact b8,PU P [y],y,.ins x [] [],[y],vs++[.AA],ds++[.AA],rfl,fun a ha=>?_,fun a ha=>.inr ha,by simp,C4.ins (fs:=[]) hT.ns Ar .nil,(aI.mono (Dd sm cf)).append (.cons .AA .nil),?_⟩
  ·rcases ha with ha|ha
   ·exact (E1.Cp a ha).same sm
   ·rw[zh.mp ha]
    exact⟨_,Ar,fun xs=>⟨(fun z=>by cases z),(fun z w=>by cases w)⟩⟩
  ·cases q2:F (.ins x [] []) (ds++[.AA]) with
   |bad=>rw[q2] at h;exact h
   |ex z=>rw[q2] at h;exact h
   |ok tr =>
    obtain⟨t,r⟩:=tr
    rw[q2] at h
    simp only[OJ] at h
    intro v H' P' ai fr k1 k2 k3 k4 k5 k6 k7 k8 k9 oy
    cases r with
    |sh d =>
     cases d with
     |AA =>
      cases k6 with
      |sh hv =>
       cases hv
       refine⟨rfl,h _ ai H' ?_ ?_ k5 ?_⟩
       ·intro b u eb
        have e1:=s1 b u eb
        have ci:b≠y:=fun z=>by rw[z,hy] at e1;cases e1
        have e2:=sm b u e1
        by_cases hP:P b
        ·exact (k1 b (.inl hP) (by simp[ci])).2.trans e2
        ·exact (Am (k3 b u (by rw[Ax fun z=>z.elim hP fun w=>ci (zh.mp w)];exact e2))).2
       ·intro b jt
        cases eb:H b with
        |none=>rfl
        |some u =>
         exfalso
         have e1:=s1 b u eb
         have ci:b≠y:=fun z=>by rw[z,hy] at e1;cases e1
         have e2:=sm b u e1
         have hn:=fun z=>ci (zh.mp ((k9 b jt).2 z))
         exact (Am (k3 b u (by rw[Ax hn];exact e2))).1 (k9 b jt).1
       ·refine k4.move (fun b u eb=>?_) fun _ _=>rfl
        obtain⟨g1,g2⟩:=Am eb
        rw[Ax]
        ·exact g2
        ·rintro (z|z)
         ·have ci:b≠y:=fun w=>by
           obtain⟨o,e1,_⟩:=E1.Cp b z
           rw[w,hy] at e1
           cases e1
          exact g1 (k1 b (.inl z) (by simp[ci])).1
         ·exact g1 (k9 b z).1
     |_=>exact h.elim
    |_=>exact h.elim
end
end L2
namespace L2
structure Su (m:Nat) (rs:List Road) (rk:Int->Nat) (Af:Int->Int->Co):Prop where
 snd:∀ x y c,Af x y=some c->Wk rs x y c/\x≠y/\(0<=x/\x < m)/\0<=y/\y < m
 road:∀ r∈rs,BN (Af r.a r.b) (C8 r)
 vG:∀ p x y,x≠y->rk p < rk x->rk p < rk y->BN (Af x y) (Aj (Af x p) (Af p y))
 inj:∀ x y:Int,0<=x->x < m->0<=y->y < m->rk x=rk y->x=y
 nn:∀ x y c,Wk rs x y c->0<=c.1/\0<=c.2
inductive NM (Af:Int->Int->Co) (rk:Int->Nat) (s:Int):Int->Int×Int->Prop
 |nil:NM Af rk s s (0,0)
 |snoc {x y:Int} {c d:Int×Int}:NM Af rk s x c->rk x < rk y->Af x y=some d->NM Af rk s y (c.1 + d.1,c.2 + d.2)
inductive RL (Af:Int->Int->Co) (rk:Int->Nat) (t:Int):Nat->Int->Int×Int->Prop
 |nil:RL Af rk t 0 t (0,0)
 |snoc {n:Nat} {x y:Int} {c d:Int×Int}:RL Af rk t n x c->rk y < rk x->Af x y=some d->RL Af rk t (n + 1) y (c.1 + d.1,c.2 + d.2)
noncomputable def Sv (p q:Int×Int):Prop:=p.1 < q.1\/(p.1=q.1/\p.2<=q.2)
theorem YD {a:Co}{q:Int×Int}(h:BN a (some q)):∃ p,a=some p/\Sv p q:=by
 cases a with
 |none=>exact h.elim
 |some p=>exact⟨p,rfl,h⟩
noncomputable def UD (Af:Int->Int->Co) (rk:Int->Nat) (s w:Int) (c:Int×Int):Prop:=∃ t n c1 c2,NM Af rk s t c1/\RL Af rk t n w c2/\Sv (c1.1 + c2.1,c1.2 + c2.2) c
section
variable {m:Nat}{rs:List Road}{rk:Int->Nat}{Af Cf:Int->Int->Co}{s w:Int}
theorem NM.walk (L:Su m rs rk Af){t:Int}{c:Int×Int}(h:NM Af rk s t c):Wk rs s t c:=by
 induction h with
 |nil=>exact .nil s
 |snoc _ _ ha ih=>exact ih.trans (L.snd _ _ _ ha).1
theorem RL.walk (L:Su m rs rk Af){t x:Int}{n:Nat}{c:Int×Int}(h:RL Af rk t n x c):Wk rs t x c:=by
 induction h with
 |nil=>exact .nil t
 |snoc _ _ ha ih=>exact ih.trans (L.snd _ _ _ ha).1
theorem lX (L:Su m rs rk Af):∀(n:Nat){t x y:Int}{c1 c2 d:Int×Int},NM Af rk s t c1->RL Af rk t n x c2->Af x y=some d->UD Af rk s y (c1.1 + c2.1 + d.1,c1.2 + c2.2 + d.2):=by
 intro n
 induction n with
 |zero =>
  intro t x y c1 c2 d hu hd ha
  obtain⟨_,ae,hx,hy⟩:=L.snd _ _ _ ha
  cases hd with
  |nil =>
   by_cases h:rk y < rk t
   ·exact⟨t,1,c1,_,hu,.snoc .nil h ha,by simp only[Sv];omega⟩
   ·have h2:rk t < rk y:=by
     have hq:rk t≠rk y:=fun e=>ae (L.inj t y hx.1 hx.2 hy.1 hy.2 e)
     omega
    exact⟨y,0,_,_,.snoc hu h2 ha,.nil,by simp only[Sv];omega⟩
 |succ n ih =>
  intro t x y c1 c2 d hu hd ha
  obtain⟨hw,ae,hx,hy⟩:=L.snd _ _ _ ha
  by_cases h:rk y < rk x
  ·exact⟨t,n + 2,c1,_,hu,.snoc hd h ha,by simp only[Sv];omega⟩
  ·have h2:rk x < rk y:=by
    have hq:rk x≠rk y:=fun e=>ae (L.inj x y hx.1 hx.2 hy.1 hy.2 e)
    omega
   cases hd with
   | @snoc _ z _ c e bS hr cG =>
    have n1:=L.nn _ _ _ hw
    have n2:=L.nn _ _ _ (L.snd _ _ _ cG).1
    by_cases hz:z=y
    ·subst hz
     exact⟨t,n,c1,c,hu,bS,by simp only[Sv];omega⟩
    ·have q:=L.vG x z y hz hr h2
     rw[cG,ha] at q
     obtain⟨f,hf,hle⟩:=YD q
     obtain⟨t',n',qg,qh,g1,g2,g3⟩:=ih hu bS hf
     refine⟨t',n',qg,qh,g1,g2,?_⟩
     simp only[Sv] at *
     omega
theorem fS (L:Su m rs rk Af){u:Int}{c:Int×Int}(h:Wk rs u w c):∀ {c0:Int×Int},UD Af rk s u c0->UD Af rk s w (c0.1 + c.1,c0.2 + c.2):=by
 induction h with
 |nil u =>
  intro c0 h
  simpa using h
 | @cons r l w c hr hl _ ih =>
  intro c0 h0
  obtain⟨t,n,c1,c2,g1,g2,g3⟩:=h0
  have q:=L.road r hr
  unfold C8 at q
  rw[hl] at q
  obtain⟨d,hd,hle⟩:=YD q
  obtain⟨t',n',qg,qh,k1,k2,k3⟩:=lX L n g1 g2 hd
  have r1:=@ih (c0.1 + l,c0.2 + 1) ⟨t',n',qg,qh,k1,k2,by simp only[Sv] at *;omega⟩
  simpa [zb3] using r1
noncomputable def Kept (rs:List Road) (Af Cf:Int->Int->Co):Prop:=∀ x y c,Cf x y=some c↔(Af x y=some c/\BP rs x y (some c))
theorem fT (L:Su m rs rk Af) (K:Kept rs Af Cf){t:Int}{c1:Int×Int}(h:NM Af rk s t c1):∀ {c2:Int×Int},Wk rs t w c2->(∀ c,Wk rs s w c->Sv (c1.1 + c2.1,c1.2 + c2.2) c)->NM Cf rk s t c1:=by
 induction h with
 |nil=>exact fun _ _=>.nil
 | @snoc x y c d hu hr ha ih =>
  intro c2 hw hm
  have cG:=(L.snd _ _ _ ha).1
  refine .snoc (ih (c2:=(d.1 + c2.1,d.2 + c2.2)) (cG.trans hw) fun c' bT=>?_) hr ((K x y d).mpr ⟨ha,fun e he=>?_,fun p hp=>by cases hp;exact cG⟩)
  ·have:=hm c' bT
   simp only[Sv] at *
   omega
  ·have:=hm _ (((hu.walk L).trans he).trans hw)
   simp only[Sv,BN] at *
   omega
theorem fU (L:Su m rs rk Af) (K:Kept rs Af Cf){t x:Int}{n:Nat}{c2:Int×Int}{c1:Int×Int}(hs:Wk rs s t c1) (h:RL Af rk t n x c2):(∀ c,Wk rs s x c->Sv (c1.1 + c2.1,c1.2 + c2.2) c)->RL Cf rk t n x c2:=by
 induction h with
 |nil=>exact fun _=>.nil
 | @snoc n x y c d hd hr ha ih =>
  intro hm
  have cG:=(L.snd _ _ _ ha).1
  refine .snoc (ih fun c' bT=>?_) hr ((K x y d).mpr ⟨ha,fun e he=>?_,fun p hp=>by cases hp;exact cG⟩)
  ·have:=hm _ (bT.trans cG)
   simp only[Sv] at *
   omega
  ·have:=hm _ ((hs.trans (hd.walk L)).trans he)
   simp only[Sv,BN] at *
   omega
theorem YE (L:Su m rs rk Af) (K:Kept rs Af Cf){c:Int×Int}(h:BP rs s w (some c)):∃ t n c1 c2,NM Cf rk s t c1/\RL Cf rk t n w c2/\c=(c1.1 + c2.1,c1.2 + c2.2):=by
 obtain⟨t,n,c1,c2,g1,g2,g3⟩:=fS L (h.2 c rfl) (c0:=(0,0)) ⟨s,0,_,_,.nil,.nil,by simp[Sv]⟩
 have hw:=(g1.walk L).trans (g2.walk L)
 have q:=h.1 _ hw
 have e:c=(c1.1 + c2.1,c1.2 + c2.2):=by
  obtain⟨a,b⟩:=c
  simp only[Sv,BN] at *
  refine Prod.ext ?_ ?_<;>dsimp only<;>omega
 refine⟨t,n,c1,c2,fT L K g1 (g2.walk L) fun c' bT=>?_,fU L K (g1.walk L) g2 fun c' bT=>?_,e⟩
 ·have:=h.1 _ bT;rw[e] at this;exact this
 ·have:=h.1 _ bT;rw[e] at this;exact this
structure rR (rk:Int->Nat) (Cf:Int->Int->Co) (s:Int) (R:Int->Co):Prop where
 st:BN (R s) (some (0,0))
 cl:∀ x y,rk x < rk y->BN (R y) (Aj (R x) (Cf x y))
 sd:∀ x c,R x=some c->NM Cf rk s x c
theorem rR.le {R:Int->Co}(h:rR rk Cf s R){t:Int}{c:Int×Int}(u:NM Cf rk s t c):BN (R t) (some c):=by
 induction u with
 |nil=>exact h.st
 | @snoc x y c d hu hr ha ih =>
  refine Ap (h.cl x y hr) ?_
  rw[ha]
  exact Cd (some d) ih
structure qM (rk:Int->Nat) (Cf:Int->Int->Co) (s:Int) (R T:Int->Co) (m:Nat):Prop where
 top:∀ x:Int,0<=x->x < m->BN (T x) (R x)
 cl:∀ x y:Int,0<=x->x < m->0<=y->y < m->rk y < rk x->BN (T y) (Aj (T x) (Cf x y))
 sd:∀ x c,T x=some c->∃ t n c1 c2,NM Cf rk s t c1/\RL Cf rk t n x c2/\c=(c1.1 + c2.1,c1.2 + c2.2)
theorem Kept.iI (K:Kept rs Af Cf){x y:Int}{c:Int×Int}(h:Cf x y=some c):Af x y=some c:=((K x y c).mp h).1
theorem NM.of_kept (K:Kept rs Af Cf){t:Int}{c:Int×Int}(h:NM Cf rk s t c):NM Af rk s t c:=by
 induction h with
 |nil=>exact .nil
 |snoc _ hr ha ih=>exact .snoc ih hr (K.iI ha)
theorem RL.of_kept (K:Kept rs Af Cf){t x:Int}{n:Nat}{c:Int×Int}(h:RL Cf rk t n x c):RL Af rk t n x c:=by
 induction h with
 |nil=>exact .nil
 |snoc _ hr ha ih=>exact .snoc ih hr (K.iI ha)
theorem qN (L:Su m rs rk Af) (K:Kept rs Af Cf){t x:Int}{n:Nat}{c:Int×Int}(h:RL Cf rk t n x c) (ht:0<=t/\t < m):0<=x/\x < m:=by
 cases h with
 |nil=>exact ht
 |snoc _ hr ha=>exact (L.snd _ _ _ (K.iI ha)).2.2.2
theorem qO (L:Su m rs rk Af) (K:Kept rs Af Cf){t:Int}{c:Int×Int}(h:NM Cf rk s t c) (ht:0<=s/\s < m):0<=t/\t < m:=by
 cases h with
 |nil=>exact ht
 |snoc _ hr ha=>exact (L.snd _ _ _ (K.iI ha)).2.2.2
theorem qM.le (L:Su m rs rk Af) (K:Kept rs Af Cf){R T:Int->Co}(h:qM rk Cf s R T m){t x:Int}{n:Nat}{c1 c2:Int×Int}(ht:0<=t/\t < m) (hT:BN (T t) (some c1)) (u:RL Cf rk t n x c2):BN (T x) (some (c1.1 + c2.1,c1.2 + c2.2)):=by
 induction u with
 |nil=>simpa using hT
 | @snoc n x y c d hd hr ha ih =>
  have hx:=qN L K hd ht
  have hy:=(L.snd _ _ _ (K.iI ha)).2.2.2
  refine Ap (h.cl x y hx.1 hx.2 hy.1 hy.2 hr) ?_
  rw[ha]
  have:=Cd (some d) ih
  simp only[Aj,zb3] at this
  exact this
theorem OO (L:Su m rs rk Af) (K:Kept rs Af Cf){R T:Int->Co}(hs:0<=s/\s < m) (hR:rR rk Cf s R) (hT:qM rk Cf s R T m){x:Co}(hx:BP rs s w x):BP rs s w (T w):=by
 have key:BN (T w) x:=by
  cases x with
  |none=>cases T w<;>exact trivial
  |some c =>
   obtain⟨t,n,c1,c2,g1,g2,e⟩:=YE L K hx
   have ht:=qO L K g1 hs
   rw[e]
   exact hT.le L K ht (Ap (hT.top t ht.1 ht.2) (hR.le g1)) g2
 refine⟨fun c hc=>Ap key (hx.1 c hc),fun p hp=>?_⟩
 obtain⟨t,n,c1,c2,g1,g2,rfl⟩:=hT.sd w p hp
 exact ((g1.of_kept K).walk L).trans ((g2.of_kept K).walk L)
end
theorem Wk.turn {rs:List Road}{u w:Int}{c:Int×Int}(h:Wk rs u w c):Wk (rs.map Jh) w u c:=by
 induction h with
 |nil u=>exact .nil u
 | @cons r l w c hr hl _ ih =>
  have h1:Wk (rs.map Jh) (Jh r).a (Jh r).b (l,1):=Wk.one (zE.mpr ⟨r,hr,rfl⟩) hl
  have:=ih.trans h1
  have e:(c.1 + l,c.2 + 1)=(l + c.1,1 + c.2):=by rw[Int.add_comm,Int.add_comm c.2]
  rw[<-e]
  exact this
theorem HK (rs:List Road):(rs.map Jh).map Jh=rs:=by
 rw[yF]
 exact (List.map_congr_left fun r _=>rfl).trans (List.map_id rs)
theorem BP.turn {rs:List Road}{u w:Int}{x:Co}(h:BP rs u w x):BP (rs.map Jh) w u x:=by
 refine⟨fun c hc=>h.1 c ?_,fun p hp=>(h.2 p hp).turn⟩
 have:=hc.turn
 rw[HK] at this
 exact this
theorem Su.turn {m:Nat}{rs:List Road}{rk:Int->Nat}{Af:Int->Int->Co}(L:Su m rs rk Af):Su m (rs.map Jh) rk (fun x y=>Af y x):=by
 refine⟨fun x y c h=>?_,fun r hr=>?_,fun p x y ae h1 h2=>?_,L.inj,fun x y c h=>?_⟩
 ·obtain⟨a,b,c,d⟩:=L.snd _ _ _ h
  exact⟨a.turn,yE b,d,c⟩
 ·obtain⟨r',bq,rfl⟩:=zE.mp hr
  exact L.road r' bq
 ·rw[Cc]
  exact L.vG p y x (yE ae) h2 h1
 ·have:=h.turn
  rw[HK] at this
  exact L.nn _ _ _ this
theorem Kept.turn {rs:List Road}{Af Cf:Int->Int->Co}(K:Kept rs Af Cf):Kept (rs.map Jh) (fun x y=>Af y x) (fun x y=>Cf y x):=fun x y c=>by
 refine (K y x c).trans ⟨fun h=>⟨h.1,h.2.turn⟩,fun h=>⟨h.1,?_⟩⟩
 have:=h.2.turn
 rw[HK] at this
 exact this
end L2
namespace L2
section
variable {κ β:Type} [DecidableEq κ]
noncomputable def AF:List (κ×β)->κ->Option β
 |[],_=>none
 |(k,v)::r,x=>if k=x then some v else AF r x
noncomputable def Dr (A:List (κ×β)) (k:κ) (v:β):List (κ×β):=if (AF A k).isSome=true then A.map fun kv=>if kv.1=k then (kv.1,v) else kv else A++[(k,v)]
theorem PR (k j:κ) (v:β):∀ A:List (κ×β),AF (A.map fun kv=>if kv.1=k then (kv.1,v) else kv) j=if j=k then (AF A j).map fun _=>v else AF A j
 |[]=>by simp[AF]
 |(k',v')::r=>by
  rw[zg]
  by_cases h1:k'=k
  ·rw[if_pos h1]
   subst h1
   simp only[AF]
   by_cases h2:k'=j
   ·subst h2;simp
   ·rw[if_neg h2,if_neg h2,PR k' j v r]
  ·rw[if_neg h1]
   simp only[AF]
   by_cases h2:k'=j
   ·subst h2
    rw[if_pos rfl,if_pos rfl,if_neg h1]
   ·rw[if_neg h2,if_neg h2,PR k j v r]
theorem RM (k j:κ) (v:β):∀ A:List (κ×β),AF A k=none->AF (A++[(k,v)]) j=if j=k then some v else AF A j
 |[],_=>by
  simp only[List.nil_append,AF]
  by_cases h:k=j
  ·subst h;simp
  ·rw[if_neg h,if_neg (yE h)]
 |(k',v')::r,h=>by
  simp only[AF] at h
  by_cases h1:k'=k
  ·rw[if_pos h1] at h;cases h
  ·rw[if_neg h1] at h
   rw[zbc]
   simp only[AF]
   rw[RM k j v r h]
   by_cases h2:k'=j
   ·subst h2;rw[if_pos rfl,if_pos rfl,if_neg h1]
   ·rw[if_neg h2,if_neg h2]
theorem HL (A:List (κ×β)) (k j:κ) (v:β):AF (Dr A k v) j=if j=k then some v else AF A j:=by
 unfold Dr
 by_cases h:(AF A k).isSome=true
 ·rw[if_pos h,PR]
  by_cases hj:j=k
  ·subst hj
   rw[if_pos rfl,if_pos rfl]
   obtain⟨x,hx⟩:=zba.mp h
   rw[hx];rfl
  ·rw[if_neg hj,if_neg hj]
 ·rw[if_neg h]
  exact RM k j v A (by cases e:AF A k with|none=>rfl|some x=>rw[e] at h;exact (h rfl).elim)
theorem HM:∀ {A:List (κ×β)}{k:κ},(AF A k).isSome=true↔k∈A.map zO
 |[],k=>by simp[AF]
 |(k',v')::r,k=>by
  simp only[AF,zg,zu]
  by_cases h:k'=k
  ·rw[if_pos h];simp[h]
  ·rw[if_neg h,HM];simp[yE h]
theorem YF {A:List (κ×β)}{k:κ}:AF A k=none↔k∉A.map zO:=by
 rw[<-HM]
 cases AF A k<;>simp
theorem RN (A:List (κ×β)) (k:κ) (v:β):(Dr A k v).map zO=if (AF A k).isSome=true then A.map zO else A.map zO++[k]:=by
 unfold Dr
 split
 ·rw[yF]
  refine List.map_congr_left fun kv _=>?_
  dsimp only [Function.comp]
  split<;>rfl
 ·rw[zK];rfl
theorem KA {A:List (κ×β)}{k:κ}{v:β}(h:(A.map zO).Nodup):((Dr A k v).map zO).Nodup:=by
 rw[RN]
 split
 ·exact h
 ·rename_i hn
  rw[HM] at hn
  rw[zJ]
  exact⟨h,by simp,fun x hx y hy=>by rw[zh.mp hy];exact fun e=>hn (e▸hx)⟩
theorem N2 {A:List (κ×β)}{k x:κ}{v:β}(h:x∈(Dr A k v).map zO):x∈A.map zO\/x=k:=by
 rw[RN] at h
 split at h
 ·exact .inl h
 ·rcases zx.mp h with h|h
  ·exact .inl h
  ·exact .inr (zh.mp h)
theorem PV:∀ {A:List (κ×β)}{k:κ}{v:β},AF A k=some v->(k,v)∈A
 |(k',v')::r,k,v,h=>by
  simp only[AF] at h
  split at h
  ·rename_i e;cases h;subst e;exact ze
  ·exact zf _ (PV h)
theorem YG:∀ {A:List (κ×β)}{k:κ}{v:β},(A.map zO).Nodup->(k,v)∈A->AF A k=some v
 |(k',v')::r,k,v,hn,h=>by
  rw[zg,yJ] at hn
  simp only[AF]
  rcases zu.mp h with e|h
  ·cases e;rw[if_pos rfl]
  ·have:k'≠k:=fun e=>hn.1 (e▸zE.mpr ⟨_,h,rfl⟩)
   rw[if_neg this]
   exact YG hn.2 h
variable {kf:κ->D}{vf:β->D}(he:∀ a b,Aw (kf a) (kf b)=decide (a=b))
include he
theorem K4 (A:List (κ×β)) (k:κ):Lj (A.map fun kv=>kf kv.1) (kf k)=(AF A k).isSome:=by
 induction A with
 |nil=>rfl
 |cons kv r ih =>
  obtain⟨k',v'⟩:=kv
  unfold Lj at ih ⊢
  rw[zg,zb2,ih,he]
  simp only[AF]
  by_cases h:k'=k
  ·rw[if_pos h,decide_eq_true h];rfl
  ·rw[if_neg h,decide_eq_false h];rfl
theorem GL (A:List (κ×β)) (k:κ):Gf (A.map fun kv=>kf kv.1) (A.map fun kv=>vf kv.2) (kf k)=(AF A k).map vf:=by
 induction A with
 |nil=>rfl
 |cons kv r ih =>
  obtain⟨k',v'⟩:=kv
  rw[zg,zg,Gf,he,ih]
  simp only[AF]
  by_cases h:k'=k
  ·rw[decide_eq_true h,if_pos rfl,if_pos h];rfl
  ·rw[decide_eq_false h,if_neg zM,if_neg h]
theorem YH (k:κ) (v:β) (A:List (κ×β)):ID (A.map fun kv=>kf kv.1) (A.map fun kv=>vf kv.2) (kf k) (vf v)=(A.map fun kv=>if kv.1=k then (kv.1,v) else kv).map fun kv=>vf kv.2:=by
 induction A with
 |nil=>rfl
 |cons kv r ih =>
  obtain⟨k',v'⟩:=kv
  rw[zg,zg,ID,he,ih,zg,zg]
  by_cases h:k'=k
  ·rw[decide_eq_true h,if_pos rfl,if_pos h]
  ·rw[decide_eq_false h,if_neg zM,if_neg h]
theorem N3 (A:List (κ×β)) (k:κ) (v:β):putD (A.map fun kv=>kf kv.1) (A.map fun kv=>vf kv.2) (kf k) (vf v)=((Dr A k v).map (fun kv=>kf kv.1),(Dr A k v).map fun kv=>vf kv.2):=by
 unfold putD Dr
 rw[K4 he]
 by_cases h:(AF A k).isSome=true
 ·rw[if_pos h,if_pos h,YH he]
  refine Prod.ext ?_ rfl
  dsimp only
  rw[yF]
  refine List.map_congr_left fun kv _=>?_
  dsimp only [Function.comp]
  split<;>rfl
 ·rw[if_neg h,if_neg h,zK,zK];rfl
end
theorem K5 (a b:Int):Aw (.int a) (.int b)=decide (a=b):=by
 simp only[Aw]
 by_cases h:a=b
 ·subst h;simp
 ·simp[h]
noncomputable abbrev LA:=List ((Int×Int)×((Int×Int)×Option Int))
noncomputable def Wm (v:(Int×Int)×Option Int):D:=.tup [cst (some v.1),GB v.2]
noncomputable def L5 (A:LA):D:=.Bj true (A.map fun kv=>pD kv.1) (A.map fun kv=>Wm kv.2)
noncomputable def IW (A:LA):OT:=.Bj true (A.map fun kv=>pD kv.1) ((A.map fun kv=>Wm kv.2).map .sh)
noncomputable def Al (A:LA) (p:Int×Int):Co:=(AF A p).map zO
noncomputable def layA (A:LA) (p:Int×Int) (c:Co) (mid:Option Int):LA:=match c with
 |none=>A
 |some c=>(match AF A p with
  |none=>Dr A p (c,mid)
  |some z=>if c.1 < z.1.1\/(c.1=z.1.1/\c.2 < z.1.2) then Dr A p (c,mid) else A)
theorem GN (A:LA) (p q:Int×Int) (c:Co) (mid:Option Int):Al (layA A p c mid) q=if q=p then Dy (Al A p) c else Al A q:=by
 unfold layA Al
 cases c with
 |none =>
  by_cases h:q=p
  ·subst h;rw[if_pos rfl];cases AF A q<;>rfl
  ·rw[if_neg h]
 |some c =>
  cases e:AF A p with
  |none =>
   dsimp only
   rw[HL]
   by_cases h:q=p
   ·rw[if_pos h,if_pos h];rfl
   ·rw[if_neg h,if_neg h]
  |some z =>
   dsimp only
   by_cases hc:c.1 < z.1.1\/(c.1=z.1.1/\c.2 < z.1.2)
   ·rw[if_pos hc,HL]
    by_cases h:q=p
    ·rw[if_pos h,if_pos h]
     simp only[za9,Dy,iA]
     rw[if_neg (by omega)]
    ·rw[if_neg h,if_neg h]
   ·rw[if_neg hc]
    by_cases h:q=p
    ·subst h
     rw[if_pos rfl,e]
     simp only[za9,Dy,iA]
     rw[if_pos (by omega)]
    ·rw[if_neg h]
theorem Tu (A:LA) (p q:Int×Int) (c:Co) (mid:Option Int):BN (Al (layA A p c mid) q) (Al A q):=by
 rw[GN]
 split
 ·rename_i h;subst h;exact EF _ _
 ·exact C7 _
theorem YI {A:LA}{p x:Int×Int}{c:Co}{mid:Option Int}(h:x∈(layA A p c mid).map zO):x∈A.map zO\/x=p:=by
 unfold layA at h
 split at h
 ·exact .inl h
 ·split at h
  ·exact N2 h
  ·split at h
   ·exact N2 h
   ·exact .inl h
theorem Wn {A:LA}{p:Int×Int}{c:Co}{mid:Option Int}(h:(A.map zO).Nodup):((layA A p c mid).map zO).Nodup:=by
 unfold layA
 split
 ·exact h
 ·split
  ·exact KA h
  ·split
   ·exact KA h
   ·exact h
noncomputable def PX (p u:Int) (A:LA) (w:Int):LA:=if u=w then A else layA A (u,w) (Aj (Al A (u,p)) (Al A (p,w))) (some p)
noncomputable def fV (p:Int) (H:List Int) (A:LA) (u:Int):LA:=H.foldl (PX p u) A
noncomputable def lY (A:LA) (p:Int) (H:List Int):LA:=H.foldl (fV p H) A
noncomputable def Tv:LA->List Int->LA
 |A,[]=>A
 |A,p::r=>Tv (lY A p r) r
noncomputable def lay0 (rs:List Road):LA:=rs.foldl (fun A r=>layA A (r.a,r.b) (C8 r) none) []
noncomputable def BR (rs:List Road) (L:List Int):LA:=Tv (lay0 rs) L
structure Fp (m:Nat) (A:LA):Prop where
 nd:(A.map zO).Nodup
 rg:∀ p∈A.map zO,p.1≠p.2/\(0<=p.1/\p.1 < m)/\0<=p.2/\p.2 < m
theorem Fp.lay {m:Nat}{A:LA}(h:Fp m A){p:Int×Int}{c:Co}{mid:Option Int}(hp:p.1≠p.2/\(0<=p.1/\p.1 < m)/\0<=p.2/\p.2 < m):Fp m (layA A p c mid) :=
 ⟨Wn h.nd,fun q hq=>(YI hq).elim (h.rg q) fun e=>e▸hp⟩
theorem Fp.len {m:Nat}{A:LA}(h:Fp m A) (hm:m<=20):A.length < 1000:=by
 have:=Cn.len (B:=A.map zO) (m:=m) ⟨h.nd,fun x hx=>(h.rg _ hx).1 rfl,fun q hq=>⟨(h.rg q hq).2.1,(h.rg q hq).2.2⟩⟩ hm
 rwa[zc] at this
theorem K6 {α β:Type}{f:β->α->β}(P:List α->β->Prop):∀ {L pre:List α}{b:β},P pre b->(∀ a∈L,∀ pre b,P pre b->P (pre++[a]) (f b a))->P (pre++L) (L.foldl f b)
 |[],pre,b,h,_=>by rw[yH];exact h
 |a::L,pre,b,h,hs=>by
  have:=K6 P (L:=L) (hs a ze pre b h) fun x hx=>hs x (zf _ hx)
  rw[zai] at this
  exact this
noncomputable def fW (rs:List Road) (A:LA):Prop:=∀ x y c,Al A (x,y)=some c->Wk rs x y c
theorem fW.lay {rs:List Road}{A:LA}(h:fW rs A){x y:Int}{c:Co}{mid:Option Int}(hc:∀ p,c=some p->Wk rs x y p):fW rs (layA A (x,y) c mid):=fun u w d hd=>by
 rw[GN] at hd
 split at hd
 ·rename_i e
  cases e
  rcases Bm (Al A (x,y)) c with ⟨e,_⟩|⟨e,_⟩
  ·rw[e] at hd;exact h _ _ _ hd
  ·rw[e] at hd;exact hc d hd
 ·exact h _ _ _ hd
structure Over (m:Nat) (rs:List Road) (p:Int) (H:List Int) (A0 A:LA):Prop where
 ok:Fp m A
 sd:fW rs A
 le:∀ q,BN (Al A q) (Al A0 q)
 sm:∀ x y,(x∉H\/y∉H)->Al A (x,y)=Al A0 (x,y)
theorem Wo {m:Nat}{rs:List Road}{p:Int}{H:List Int}{A0 A:LA}(hp:p∉H) (hH:∀ x∈H,0<=x/\x < m) (h:Over m rs p H A0 A){u w:Int}(hu:u∈H) (hw:w∈H):Over m rs p H A0 (PX p u A w)/\(u≠w->BN (Al (PX p u A w) (u,w)) (Aj (Al A0 (u,p)) (Al A0 (p,w)))):=by
 unfold PX
 by_cases e:u=w
 ·rw[if_pos e];exact⟨h,fun z=>(z e).elim⟩
 ·rw[if_neg e]
  have e1:=h.sm u p (.inr hp)
  have e2:=h.sm p w (.inl hp)
  refine⟨⟨h.ok.lay ⟨e,hH u hu,hH w hw⟩,h.sd.lay fun c hc=>?_,fun q=>Ap (Tu _ _ _ _ _) (h.le q),fun x y bQ=>?_⟩,fun _=>?_⟩
  ·obtain⟨a,b,ha,hb,rfl⟩:=Fg hc
   exact (h.sd _ _ _ ha).trans (h.sd _ _ _ hb)
  ·rw[GN,if_neg (fun z=>by cases z;exact bQ.elim (fun q=>q hu) fun q=>q hw)]
   exact h.sm x y bQ
  ·rw[GN,if_pos rfl,e1,e2]
   exact EG _ _
theorem iJ {p u:Int}{A:LA}{w:Int}(q:Int×Int):BN (Al (PX p u A w) q) (Al A q):=by
 unfold PX
 split
 ·exact C7 _
 ·exact Tu _ _ _ _ _
theorem iK {p u:Int}(q:Int×Int):∀(H:List Int) (A:LA),BN (Al (H.foldl (PX p u) A) q) (Al A q)
 |[],A=>C7 _
 |w::H,A=>Ap (iK q H (PX p u A w)) (iJ q)
theorem lZ {m:Nat}{rs:List Road}{p:Int}{H:List Int}{A0 A:LA}(hp:p∉H) (hH:∀ x∈H,0<=x/\x < m) (h:Over m rs p H A0 A){u:Int}(hu:u∈H):Over m rs p H A0 (fV p H A u)/\∀ w∈H,u≠w->BN (Al (fV p H A u) (u,w)) (Aj (Al A0 (u,p)) (Al A0 (p,w))):=by
 unfold fV
 have:=K6 (L:=H) (pre:=[]) (f:=PX p u) (b:=A) (fun W A=>Over m rs p H A0 A/\∀ w∈W,u≠w->BN (Al A (u,w)) (Aj (Al A0 (u,p)) (Al A0 (p,w)))) ⟨h,fun w hw=>by cases hw⟩ fun w hw W B hB=>by
  obtain⟨b1,b2⟩:=hB
  obtain⟨c1,c2⟩:=Wo hp hH b1 hu hw
  refine⟨c1,fun x hx ae=>?_⟩
  rcases zx.mp hx with hx|hx
  ·exact Ap (iJ _) (b2 x hx ae)
  ·rw[zh.mp hx] at ae ⊢
   exact c2 ae
 exact this
theorem YJ {m:Nat}{rs:List Road}{p:Int}{H:List Int}{A:LA}(hp:p∉H) (hH:∀ x∈H,0<=x/\x < m) (h1:Fp m A) (h2:fW rs A):Over m rs p H A (lY A p H)/\∀ u∈H,∀ w∈H,u≠w->BN (Al (lY A p H) (u,w)) (Aj (Al A (u,p)) (Al A (p,w))):=by
 unfold lY
 have:=K6 (L:=H) (pre:=[]) (f:=fV p H) (b:=A) (fun U B=>Over m rs p H A B/\∀ u∈U,∀ w∈H,u≠w->BN (Al B (u,w)) (Aj (Al A (u,p)) (Al A (p,w)))) ⟨⟨h1,h2,fun q=>C7 _,fun x y _=>rfl⟩,fun u hu=>by cases hu⟩ fun u hu U B hB=>by
  obtain⟨b1,b2⟩:=hB
  obtain⟨c1,c2⟩:=lZ hp hH b1 hu
  refine⟨c1,fun x hx w hw ae=>?_⟩
  rcases zx.mp hx with hx|hx
  ·exact Ap (iK _ H B) (b2 x hx w hw ae)
  ·rw[zh.mp hx] at ae ⊢
   exact c2 w hw ae
 exact this
theorem PY {m:Nat}{rs:List Road}(Av:∀ r∈rs,Hq m r/\r.a≠r.b):Fp m (lay0 rs)/\fW rs (lay0 rs)/\∀ r∈rs,BN (Al (lay0 rs) (r.a,r.b)) (C8 r):=by
 unfold lay0
 have:=K6 (L:=rs) (pre:=[]) (f:=fun A r=>layA A (r.a,r.b) (C8 r) none) (b:=[]) (fun W A=>Fp m A/\fW rs A/\∀ r∈W,BN (Al A (r.a,r.b)) (C8 r)) ⟨⟨by simp,fun p hp=>by cases hp⟩,⟨(fun _ _ _ h=>by cases h),fun r hr=>by cases hr⟩⟩ fun r hr W B hB=>by
  obtain⟨b1,b2,b3⟩:=hB
  obtain⟨o1,o2⟩:=Av r hr
  refine⟨b1.lay ⟨o2,⟨o1.a0,o1.a1⟩,o1.b0,o1.b1⟩,b2.lay fun c hc=>?_,fun x hx=>?_⟩
  ·obtain⟨l,hl,rfl⟩:=Jj hc
   exact Wk.one hr hl
  ·rcases zx.mp hx with hx|hx
   ·exact Ap (Tu _ _ _ _ _) (b3 x hx)
   ·rw[zh.mp hx,GN,if_pos rfl]
    exact EG _ _
 exact this
noncomputable def DB:List Int->Int->Nat
 |[],_=>0
 |a::l,x=>if a=x then 0 else DB l x + 1
theorem V6:∀ {pre post:List Int}{p:Int},p∉pre->DB (pre++p::post) p=pre.length
 |[],post,p,_=>by simp[DB]
 |a::pre,post,p,h=>by
  rw[zu,not_or] at h
  rw[zbc,DB,if_neg (yE h.1),V6 h.2];rfl
theorem Tw:∀ {pre post:List Int}{x:Int},x∈pre->DB (pre++post) x < pre.length
 |a::pre,post,x,h=>by
  rw[zbc,DB]
  by_cases e:a=x
  ·rw[if_pos e];simp
  ·rw[if_neg e,zo]
   have:=Tw (post:=post) ((zu.mp h).resolve_left (yE e))
   omega
theorem PZ:∀ {pre post:List Int}{x:Int},x∉pre->pre.length<=DB (pre++post) x
 |[],post,x,_=>zX _
 |a::pre,post,x,h=>by
  rw[zu,not_or] at h
  rw[zbc,DB,if_neg (yE h.1),zo]
  have:=PZ (post:=post) h.2
  omega
theorem Q0:∀ {L:List Int}{x y:Int},x∈L->y∈L->DB L x=DB L y->x=y
 |a::l,x,y,hx,hy,e=>by
  rw[DB,DB] at e
  by_cases h1:a=x
  ·by_cases h2:a=y
   ·rw[<-h1,<-h2]
   ·rw[if_pos h1,if_neg h2] at e;omega
  ·by_cases h2:a=y
   ·rw[if_neg h1,if_pos h2] at e;omega
   ·rw[if_neg h1,if_neg h2] at e
    exact Q0 ((zu.mp hx).resolve_left (yE h1)) ((zu.mp hy).resolve_left (yE h2)) (by omega)
theorem Tx {L:List Int}{x:Int}(h:DB L x < L.length):x∈L:=by
 refine zac fun hn=>?_
 have:=PZ (pre:=L) (post:=[]) hn
 rw[yH] at this
 omega
theorem YK:∀(L:List Int) (x:Int),DB L x<=L.length
 |[],_=>zA _
 |a::l,x=>by
  rw[DB,zo]
  split
  ·omega
  ·have:=YK l x;omega
theorem L6:∀ {L:List Int}{p:Int},p∈L->∃ pre post,L=pre++p::post/\p∉pre
 |a::l,p,h=>by
  by_cases ha:a=p
  ·subst ha;exact⟨[],l,rfl,by simp⟩
  ·obtain⟨pre,post,e2,hn⟩:=L6 ((zu.mp h).resolve_left (yE ha))
   exact⟨a::pre,post,by rw[zbc,<-e2],by simp[yE ha,hn]⟩
theorem YL {L:List Int}{p:Int}(h:DB L p < L.length):∃ pre post,L=pre++p::post/\p∉pre/\∀ x,DB L p < DB L x->x∈L->x∈post:=by
 obtain⟨pre,post,e,hn⟩:=L6 (Tx h)
 refine⟨pre,post,e,hn,fun x hr hx=>?_⟩
 subst e
 rw[V6 hn] at hr
 rcases zx.mp hx with hx|hx
 ·have:=Tw (post:=p::post) hx;omega
 ·rcases zu.mp hx with rfl|hx
  ·rw[V6 hn] at hr;omega
  ·exact hx
theorem mB {m:Nat}{rs:List Road}{L:List Int}(hL:L.Nodup) (hr:∀ x∈L,0<=x/\x < m):∀(post pre:List Int) (A:LA),L=pre++post->Fp m A->fW rs A->(∀ r∈rs,BN (Al A (r.a,r.b)) (C8 r))->
 (∀ pa p pb,L=pa++p::pb->pa.length < pre.length->∀ x∈pb,∀ y∈pb,x≠y->BN (Al A (x,y)) (Aj (Al A (x,p)) (Al A (p,y))))->
 Fp m (Tv A post)/\fW rs (Tv A post)/\(∀ r∈rs,BN (Al (Tv A post) (r.a,r.b)) (C8 r))/\∀ pa p pb,L=pa++p::pb->∀ x∈pb,∀ y∈pb,x≠y->BN (Al (Tv A post) (x,y)) (Aj (Al (Tv A post) (x,p)) (Al (Tv A post) (p,y))):=by
 intro post
 induction post with
 |nil =>
  intro pre A e h1 h2 h3 h4
  rw[yH] at e
  refine⟨h1,h2,h3,fun pa p pb e2=>h4 pa p pb e2 ?_⟩
  rw[<-e,e2,zL,zo]
  omega
 |cons p post ih =>
  intro pre A e h1 h2 h3 h4
  rw[Tv]
  have hn:(pre++p::post).Nodup:=e▸hL
  rw[zJ,yJ] at hn
  have bO:∀ x∈post,0<=x/\x < m:=fun x hx=>hr x (by rw[e];simp[hx])
  obtain⟨o,ov⟩:=YJ (p:=p) hn.2.1.1 bO h1 h2
  refine ih (pre++[p]) (lY A p post) (by rw[e];simp) o.ok o.sd (fun r bq=>Ap (o.le _) (h3 r bq)) fun pa q pb e2 aj x hx y hy ae=>?_
  rw[zL,za3] at aj
  by_cases hq:pa.length < pre.length
  ·-- an lr one
   have vh:q∉post:=fun eo=>by
    have e3:pre++p::post=pa++q::pb:=by rw[<-e,e2]
    have q1:q∈pre:=by
     have:=congrArg (fun l=>l[pa.length]?) e3
     rw[yV hq,zad (zA _),Nat.sub_self] at this
     exact zj this
    exact hn.2.2 q q1 q (zf _ eo) rfl
   rw[o.sm x q (.inr vh),o.sm q y (.inl vh)]
   exact Ap (o.le _) (h4 pa q pb e2 hq x hx y hy ae)
  ·have a4:pa.length=pre.length:=by omega
   have e3:pa++q::pb=pre++p::post:=by rw[<-e2,e]
   obtain⟨rfl,e4⟩:=List.append_inj e3 a4
   cases e4
   rw[o.sm x p (.inr hn.2.1.1),o.sm p y (.inl hn.2.1.1)]
   exact ov x hx y hy ae
theorem N4 {m:Nat}{rs:List Road}{L:List Int}(hL:L.Perm (AV m)) (Av:∀ r∈rs,Hq m r/\r.a≠r.b):Fp m (BR rs L)/\Su m rs (DB L) (fun x y=>Al (BR rs L) (x,y)):=by
 have oq:L.Nodup:=IH hL
 obtain⟨a1,a2,a3⟩:=PY Av
 obtain⟨b1,b2,b3,b4⟩:=mB oq (fun x hx=>(B3 hL).mp hx) L [] (lay0 rs) rfl a1 a2 a3 (fun pa p pb _ h=>by simp at h)
 refine⟨b1,fun x y c h=>?_,b3,fun p x y ae h1 h2=>?_,fun x y x0 x1 y0 y1 e=>Q0 ((B3 hL).mpr ⟨x0,x1⟩) ((B3 hL).mpr ⟨y0,y1⟩) e,fun x y c h=>Wk.nn (fun r hr=>(Av r hr).1) h⟩
 ·have hm:(x,y)∈(Tv (lay0 rs) L).map zO:=by
   rw[<-HM]
   unfold Al at h
   cases q:AF (BR rs L) (x,y) with
   |none=>rw[q] at h;cases h
   |some z=>unfold BR at q;rw[q];rfl
  have:=b1.rg _ hm
  exact⟨b2 _ _ _ h,this.1,this.2.1,this.2.2⟩
 ·have bd:∀ {x y:Int} {c:Int×Int},Al (BR rs L) (x,y)=some c->x∈L/\y∈L:=fun {x y c} h=>by
   have hm:(x,y)∈(Tv (lay0 rs) L).map zO:=by
    rw[<-HM]
    unfold Al at h
    cases q:AF (BR rs L) (x,y) with
    |none=>rw[q] at h;cases h
    |some z=>unfold BR at q;rw[q];rfl
   have:=b1.rg _ hm
   exact⟨(B3 hL).mpr this.2.1,(B3 hL).mpr this.2.2⟩
  have a4:DB L p < L.length:=zB h1 (YK L x)
  obtain⟨pre,post,e,hn,d6⟩:=YL a4
  cases q1:Al (BR rs L) (x,p) with
  |none=>cases Al (BR rs L) (x,y)<;>exact trivial
  |some c1 =>
   cases q2:Al (BR rs L) (p,y) with
   |none=>cases Al (BR rs L) (x,y)<;>exact trivial
   |some c2 =>
    have r:=b4 pre p post e x (d6 x h1 (bd q1).1) y (d6 y h2 (bd q2).2) ae
    rw[<-q1,<-q2]
    exact r
end L2
namespace L2
noncomputable abbrev CA:=List ((Int×Int)×(Int×Int))
noncomputable def LY (C:CA):D:=.Bj true (C.map fun kv=>pD kv.1) (C.map fun kv=>cst (some kv.2))
noncomputable def nE (C:CA):OT:=.Bj true (C.map fun kv=>pD kv.1) ((C.map fun kv=>cst (some kv.2)).map .sh)
noncomputable abbrev RA:=List (Int×(Int×Int))
noncomputable def YM (R:RA):D:=.Bj false (R.map fun kv=>D.int kv.1) (R.map fun kv=>cst (some kv.2))
noncomputable def Zf (R:RA):OT:=.Bj false (R.map fun kv=>D.int kv.1) ((R.map fun kv=>cst (some kv.2)).map .sh)
theorem Q1 (A:LA):er (IW A)=L5 A:=IG
theorem Q2 (C:CA):er (nE C)=LY C:=IG
theorem Q3 (R:RA):er (Zf R)=YM R:=IG
theorem KC (i:Int):keyOk false (.int i)=true:=rfl
theorem Q4 (A:LA) (p:Int×Int) (neg:Bool):Jq neg (pD p) (L5 A)=.ok (.bl (if neg=true then !(AF A p).isSome else (AF A p).isSome)):=by
 unfold L5 Jq
 dsimp only
 rw[if_pos (GH p),K4 GG]
theorem Q5 {A:LA}{p:Int×Int}{v:(Int×Int)×Option Int}(h:AF A p=some v):B4 (L5 A) (pD p)=.ok (Wm v):=by
 unfold L5 B4
 dsimp only
 rw[if_pos (GH p),GL GG,h];rfl
theorem mC (C:CA) (p:Int×Int) (neg:Bool):Jq neg (pD p) (LY C)=.ok (.bl (if neg=true then !(AF C p).isSome else (AF C p).isSome)):=by
 unfold LY Jq
 dsimp only
 rw[if_pos (GH p),K4 GG]
theorem mD {C:CA}{p:Int×Int}{c:Int×Int}(h:AF C p=some c):B4 (LY C) (pD p)=.ok (cst (some c)):=by
 unfold LY B4
 dsimp only
 rw[if_pos (GH p),GL (vf:=fun c=>cst (some c)) GG,h];rfl
theorem mE (C:CA) (p:Int×Int):OM (LY C) (.ok (pD p))=.ok (cst (AF C p)):=by
 unfold LY OM
 simp only[M.A8]
 rw[if_pos (GH p),GL (vf:=fun c=>cst (some c)) GG]
 cases AF C p<;>rfl
theorem mF (R:RA) (p:Int) (neg:Bool):Jq neg (.int p) (YM R)=.ok (.bl (if neg=true then !(AF R p).isSome else (AF R p).isSome)):=by
 unfold YM Jq
 dsimp only
 rw[if_pos (KC p),K4 (kf:=D.int) K5]
theorem mG {R:RA}{p:Int}{c:Int×Int}(h:AF R p=some c):B4 (YM R) (.int p)=.ok (cst (some c)):=by
 unfold YM B4
 dsimp only
 rw[if_pos (KC p),GL (kf:=D.int) (vf:=fun c=>cst (some c)) K5,h];rfl
theorem YN (R:RA) (p:Int):OM (YM R) (.ok (.int p))=.ok (cst (AF R p)):=by
 unfold YM OM
 simp only[M.A8]
 rw[if_pos (KC p),GL (kf:=D.int) (vf:=fun c=>cst (some c)) K5]
 cases AF R p<;>rfl
theorem YO (A:LA) (p:Int×Int) (v:(Int×Int)×Option Int):putD (A.map fun kv=>pD kv.1) (A.map fun kv=>Wm kv.2) (pD p) (Wm v)=((Dr A p v).map (fun kv=>pD kv.1),(Dr A p v).map fun kv=>Wm kv.2):=N3 GG A p v
theorem mH (R:RA) (p:Int) (c:Int×Int):putD (R.map fun kv=>D.int kv.1) (R.map fun kv=>cst (some kv.2)) (.int p) (cst (some c))=((Dr R p c).map (fun kv=>D.int kv.1),(Dr R p c).map fun kv=>cst (some kv.2)):=N3 (kf:=D.int) (vf:=fun c=>cst (some c)) K5 R p c
theorem V7 {α:Type}(k v:α->D):∀ l:List α,Wl (l.map fun x=>.tup [k x,v x])=some (l.map fun x=>(k x,v x))
 |[]=>rfl
 |x::l=>by rw[zg,Wl,V7 k v l];rfl
theorem iL:∀(C C0:CA),((C0++C).map zO).Nodup->(C.map fun kv=>(pD kv.1,cst (some kv.2))).foldl (fun z kv=>putD z.1 z.2 kv.1 kv.2) (C0.map (fun kv=>pD kv.1),C0.map fun kv=>cst (some kv.2))=((C0++C).map (fun kv=>pD kv.1),(C0++C).map fun kv=>cst (some kv.2))
 |[],C0,_=>by simp
 |kv::C,C0,hn=>by
  obtain⟨p,c⟩:=kv
  rw[zg,zU]
  dsimp only
  have h0:AF C0 p=none:=by
   rw[YF]
   intro hm
   rw[zK,zJ] at hn
   exact hn.2.2 p hm p (by simp) rfl
  have e:Dr C0 p c=C0++[(p,c)]:=by unfold Dr;rw[h0];rfl
  rw[N3 (vf:=fun c=>cst (some c)) GG,e,iL C (C0++[(p,c)]) (by rw[zai];exact hn),zai]
  rfl
theorem YQ {C:CA}(hn:(C.map zO).Nodup) (hl:C.length<=1000):fO (.lst (C.map fun kv=>.tup [pD kv.1,cst (some kv.2)]))=.ok (nE C):=by
 unfold fO
 dsimp only
 rw[V7 (fun kv:(Int×Int)×(Int×Int)=>pD kv.1) (fun kv=>cst (some kv.2))]
 dsimp only
 have e:=iL C [] hn
 rw[if_pos ⟨by rw[zc];exact hl,by rw[List.all_map];exact zbd.mpr fun x _=>rfl⟩]
 have e2:rQ (C.map fun kv=>(pD kv.1,cst (some kv.2)))=(C.map (fun kv=>pD kv.1),C.map fun kv=>cst (some kv.2)):=e
 rw[e2];rfl
noncomputable def B0 (m:Nat) (rs:List Road) (L:List Int) (A:LA) (K:List (Int×Int)):D:=.ins "Ladder" ["own_map","own_order","laid","kept_ones"] [As m rs,.lst (L.map D.int),L5 A,.lst (K.map pD)]
structure C9 (m:Nat) (rs:List Road) (L:List Int) (A:LA) (K:List (Int×Int)):Prop where
 m1:1<=m
 m2:m<=16
 rl:rs.length<=60
 ok:∀ r∈rs,Hq m r/\r.a≠r.b
 pm:L.Perm (AV m)
 la:A=BR rs L
 kn:K.Nodup
 km:∀ p,p∈K↔∃ c,Al A p=some c/\BP rs p.1 p.2 (some c)
theorem C9.tO {m:Nat}{rs:List Road}{L:List Int}{A:LA}{K:List (Int×Int)}(h:C9 m rs L A K):Fp m A:=by
 rw[h.la];exact (N4 h.pm h.ok).1
theorem C9.iI {m:Nat}{rs:List Road}{L:List Int}{A:LA}{K:List (Int×Int)}(h:C9 m rs L A K):Su m rs (DB L) (fun x y=>Al A (x,y)):=by
 rw[h.la];exact (N4 h.pm h.ok).2
theorem Fn {A:LA}{p:Int×Int}{c:Int×Int}(h:Al A p=some c):p∈A.map zO:=by
 rw[<-HM]
 unfold Al at h
 cases q:AF A p with
 |none=>rw[q] at h;cases h
 |some z=>rfl
theorem C9.WB {m:Nat}{rs:List Road}{L:List Int}{A:LA}{K:List (Int×Int)}(h:C9 m rs L A K){p:Int×Int}(hp:p∈K):p.1≠p.2/\(0<=p.1/\p.1 < m)/\0<=p.2/\p.2 < m:=by
 obtain⟨c,hc,_⟩:=(h.km p).mp hp
 exact h.tO.rg p (Fn hc)
theorem C9.kl {m:Nat}{rs:List Road}{L:List Int}{A:LA}{K:List (Int×Int)}(h:C9 m rs L A K):K.length < 1000 :=
 Cn.len (m:=m) ⟨h.kn,fun x hx=>(h.WB hx).1 rfl,fun q hq=>⟨(h.WB hq).2.1,(h.WB hq).2.2⟩⟩ (by have:=h.m2;omega)
noncomputable def Ib (A:LA) (K:List (Int×Int)):CA:=K.map fun p=>(p,(Al A p).getD (0,0))
theorem N5 (A:LA) (K:List (Int×Int)):(Ib A K).map zO=K:=by
 unfold Ib
 rw[yF]
 exact (List.map_congr_left fun p _=>rfl).trans (List.map_id K)
theorem C9.kept {m:Nat}{rs:List Road}{L:List Int}{A:LA}{K:List (Int×Int)}(h:C9 m rs L A K):Kept rs (fun x y=>Al A (x,y)) (fun x y=>AF (Ib A K) (x,y)):=fun x y c=>by
 have hn:((Ib A K).map zO).Nodup:=by rw[N5];exact h.kn
 constructor
 ·intro hf
  have hm:=PV hf
  unfold Ib at hm
  obtain⟨p,hp,e⟩:=zE.mp hm
  obtain⟨c',hc,cj⟩:=(h.km p).mp hp
  rw[hc] at e
  cases e
  exact⟨hc,cj⟩
 ·rintro ⟨h1,h2⟩
  refine YG hn ?_
  unfold Ib
  exact zE.mpr ⟨(x,y),(h.km (x,y)).mpr ⟨c,h1,h2⟩,by rw[show Al A (x,y)=some c from h1];rfl⟩
noncomputable def RO (C:CA):CA:=C.map fun kv=>((kv.1.2,kv.1.1),kv.2)
theorem Wq {C:CA}(h:(C.map zO).Nodup):((RO C).map zO).Nodup:=by
 have e:(RO C).map zO=(C.map zO).map fun p=>(p.2,p.1):=by
  unfold RO;rw[yF,yF];rfl
 rw[e]
 exact (List.pairwise_map.mpr (h.imp fun {a b} ie e=>ie (by cases a;cases b;cases e;rfl)))
theorem Q6 (x y:Int):∀ C:CA,AF (RO C) (x,y)=AF C (y,x)
 |[]=>rfl
 |((a,b),c)::C=>by
  unfold RO
  rw[zg,AF,AF]
  have:=Q6 x y C
  unfold RO at this
  rw[this]
  by_cases h:a=y/\b=x
  ·rw[if_pos (by rw[h.1,h.2]),if_pos (by rw[h.1,h.2])]
  ·rw[if_neg (fun e=>h (by cases e;exact⟨rfl,rfl⟩)),if_neg (fun e=>h (by cases e;exact⟨rfl,rfl⟩))]
theorem tP (p q:Int×Int):Yx (cst (some p)) (cst (some q))=.ok (.bl (decide (p.1 < q.1\/(p.1=q.1/\p.2 < q.2)))):=by
 rw[<-F1];rfl
theorem Tz {m:M Out}{t r:OT}(h:WP m (fun ρ=>GF ρ=some t/\OT.sh .AA=r) (fun o=>match o with | .Fe r' ρ=>GF ρ=some t/\r'=r | _=>False) (fun _=>False)):Ei m=.ok (t,r):=by
 cases m with
 |bad=>exact h.elim
 |ex x=>exact h.elim
 |ok o =>
  cases o with
  |next ρ=>obtain⟨h1,h2⟩:=(show GF ρ=some t/\OT.sh .AA=r from h);unfold Ei;dsimp only;rw[h1,<-h2]
  |Fe r' ρ=>obtain⟨h1,h2⟩:=(show GF ρ=some t/\r'=r from h);unfold Ei;dsimp only;rw[h1,<-h2]
  |ret d=>exact h.elim
  |CH d=>exact h.elim
  |brk d=>exact h.elim
  |cont d=>exact h.elim
theorem KD {F:OT->List D->M (OT×OT)}{ρ:Ab}{p:Option Nat}{t t2 r:OT}{a5:List D}{i:Nat}(h:ρ[i]? =some (some (.ow (.tree p t)))) (hN:Y6 t=true) (hF:F t a5=.ok (t2,r)):Rp i F ρ [] a5=.ok (ρ.set i (some (toCl p t2)),r):=by
 rw[Y7 h rfl rfl hN hF,Fh]
theorem DZ {A:LA}{p:Option Nat}{ρ:Ab}:G5 0 (some (.ow (.tree p (IW A)))::ρ) []=.ok (true,A.map (fun kv=>pD kv.1),A.map fun kv=>Wm kv.2):=D6
theorem HN {R:RA}{p:Option Nat}{ρ:Ab}:G5 0 (some (.ow (.tree p (Zf R)))::ρ) []=.ok (false,R.map (fun kv=>D.int kv.1),R.map fun kv=>cst (some kv.2)):=D6
theorem Fp.ov {m:Nat}{A:LA}(h:Fp m A){p u w:Int}(hu:0<=u/\u < m) (hw:0<=w/\w < m):Fp m (PX p u A w):=by
 unfold PX
 split
 ·exact h
 ·rename_i e;exact h.lay ⟨e,hu,hw⟩
theorem Fp.ou {m:Nat}{p u:Int}(hu:0<=u/\u < m):∀ {H:List Int}{A:LA},Fp m A->(∀ x∈H,0<=x/\x < m)->Fp m (H.foldl (PX p u) A)
 |[],A,h,_=>h
 |w::H,A,h,hH=>by
  have r:=Fp.ou (A:=PX p u A w) (H:=H) (p:=p) hu (h.ov hu (hH w ze)) fun x hx=>hH x (zf _ hx)
  exact r
theorem El {α β:Type}{f:β->α->β}{l:List α}{i:Nat}{x:α}{b:β}(h:l[i]? =some x):(l.take (i + 1)).foldl f b=f ((l.take i).foldl f b) x:=by
 rw[yU,h,Option.toList_some,List.foldl_append];rfl
theorem Fp.lo {m:Nat}{p:Int}{H0:List Int}(h0:∀ x∈H0,0<=x/\x < m):∀ {H:List Int}{A:LA},Fp m A->(∀ x∈H,0<=x/\x < m)->Fp m (H.foldl (fV p H0) A)
 |[],A,h,_=>h
 |w::H,A,h,hH=>by
  have r:=Fp.lo (p:=p) (A:=fV p H0 A w) (H:=H) h0 (Fp.ou (hH w ze) h h0) fun x hx=>hH x (zf _ hx)
  exact r
theorem LZ (c:Co):Sq (.ok (.sh (cst c)))=.ok (.sh (cst c)):=by
 cases c<;>rfl
noncomputable def tQ (a b:List Co×Bool):Prop:=b.2=true/\(a.2=false\/(a.2=true/\NA ltN a.1 b.1))
theorem mI (x:List Co):Acc tQ (x,false):=.intro _ fun y h=>by cases h.1
theorem mJ (x:List Co):Acc tQ (x,true):=by
 have:=VO x
 induction this with
 |intro x _ ih =>
  refine .intro _ fun y h=>?_
  obtain⟨y,b⟩:=y
  rcases h.2 with e|⟨e,h2⟩
  ·dsimp only at e;subst e;exact mI y
  ·dsimp only at e;subst e;exact ih y h2
theorem TB (n:Nat):C6 0 n=(AV n).map D.int:=by rw[Mt,MS]
theorem MY.vH {m:Nat}{r:Road}(h:MY m r):Hq m r/\r.a≠r.b:=⟨⟨h.a0,h.a1,h.b0,h.b1,fun l hl=>(h.l0 l hl).1⟩,h.ab⟩
noncomputable def KP (rs:List Road) (A:LA) (p:Int×Int):Prop:=∃ c,Al A p=some c/\BP rs p.1 p.2 (some c)
noncomputable def qP (A:LA) (cs:List Co) (u w:Int):Bool:=match Al A (u,w) with
 |none=>false
 |some c=>decide (some c=atC cs w)
theorem YR {m s:Nat}{rs:List Road}{cs:List Co}{A:LA}(hR:Right m s rs cs) (Av:∀ r∈rs,Hq m r){w:Int}(h0:0<=w) (h1:w < m):qP A cs s w=true↔KP rs A (s,w):=by
 have hm:=hR.XN Av h0 h1
 unfold qP KP
 cases q:Al A ((s:Int),w) with
 |none=>simp
 |some c =>
  dsimp only
  constructor
  ·intro h
   have e:=of_decide_eq_true h
   exact⟨c,rfl,e▸hm⟩
  ·rintro ⟨c',e,h⟩
   cases e
   exact decide_eq_true (h.Cq hm)
theorem mK {m:Nat}{rs:List Road}{A:LA}{K:List (Int×Int)}(hA:Fp m A) (hm:m<=20) (hn:K.Nodup) (hK:∀ p∈K,KP rs A p):K.length < 1000:=by
 have hr:∀ p∈K,p.1≠p.2/\(0<=p.1/\p.1 < m)/\0<=p.2/\p.2 < m:=fun p hp=>by
  obtain⟨c,hc,_⟩:=hK p hp
  exact hA.rg p (Fn hc)
 exact Cn.len (m:=m) ⟨hn,fun x hx=>(hr _ hx).1 rfl,fun q hq=>⟨(hr q hq).2.1,(hr q hq).2.2⟩⟩ hm
theorem KG:∀ ds:List D,(∀ d∈ds,Je d=true)->G4 (ds.map .sh)=true
 |[],_=>rfl
 |d::ds,h=>by
  rw[zg,G4,GD,h d ze,KG ds fun x hx=>h x (zf _ hx)];rfl
theorem N6 {ds:List D}(h:∀ d∈ds,Je d=true):Sq (.ok (.lst (ds.map .sh)))=.ok (.lst (ds.map .sh)):=by
 unfold Sq
 simp only[M.A8]
 rw[GD,KG ds h];rfl
theorem YS (L:List Int):Sq (.ok (.lst ((L.map D.int).map .sh)))=.ok (.lst ((L.map D.int).map .sh)):=N6 fun d hd=>by
 obtain⟨x,_,rfl⟩:=zE.mp hd;rfl
theorem fX (K:List (Int×Int)):Sq (.ok (.lst ((K.map pD).map .sh)))=.ok (.lst ((K.map pD).map .sh)):=N6 fun d hd=>by
 obtain⟨x,_,rfl⟩:=zE.mp hd;exact Yg x
theorem YT (cs:List Co):Sq (.ok (.lst ((cs.map cst).map .sh)))=.ok (.lst ((cs.map cst).map .sh)):=N6 fun d hd=>by
 obtain⟨x,_,rfl⟩:=zE.mp hd;exact UE x
theorem mL (v:(Int×Int)×Option Int):Je (Wm v)=true:=by
 obtain⟨c,l⟩:=v
 cases l<;>rfl
theorem fY (A:LA):Sq (.ok (IW A))=.ok (IW A):=by
 unfold Sq IW
 simp only[M.A8]
 rw[GD,KG _ fun d hd=>by
  obtain⟨x,_,rfl⟩:=zE.mp hd;exact mL x.2]
 rfl
theorem Q7 {L:List Int}(hn:L.Nodup){i:Nat}{x:Int}(h:L[i]? =some x):DB L x=i:=by
 have aj:=(zy.mp h).1
 have e:L=L.take i++x::L.drop (i + 1):=by
  have h2:L.drop i=x::L.drop (i + 1):=by
   rw[zb8 aj]
   rw[zq aj] at h
   rw[zI h]
  rw[<-h2,za2]
 have hx:x∉L.take i:=fun hm=>by
  rw[e,zJ] at hn
  exact hn.2.2 x hm x ze rfl
 rw[e,V6 hx,yT]
 omega
theorem V8 {L:List Int}(hn:L.Nodup){i:Nat}{y:Int}(h:y∈L.drop i):i<=DB L y:=by
 have hy:y∉L.take i:=fun hm=>by
  rw[<-za2 i L,zJ] at hn
  exact hn.2.2 y hm y h rfl
 have h1:=PZ (pre:=L.take i) (post:=L.drop i) hy
 rw[za2,yT] at h1
 have h2:L.drop i≠[]:=fun e=>by rw[e] at h;cases h
 have h3:i < L.length:=by
  rw[Ne,List.drop_eq_nil_iff] at h2
  omega
 omega
theorem fZ {L:List Int}{i:Nat}{y:Int}(h:y∈L) (hr:i<=DB L y):y∈L.drop i:=by
 rw[<-za2 i L] at h
 rcases zx.mp h with h|h
 ·have h1:=Tw (post:=L.drop i) h
  rw[za2,yT] at h1
  omega
 ·exact h
structure QC (L:List Int) (C:CA) (s:Int) (i:Nat) (R:RA):Prop where
 nd:(R.map zO).Nodup
 rg:∀ k∈R.map zO,k∈L
 st:BN (AF R s) (some (0,0))
 sd:∀ y c,AF R y=some c->NM (fun x y=>AF C (x,y)) (DB L) s y c
 cl:∀ x y,DB L x < i->DB L x < DB L y->BN (AF R y) (Aj (AF R x) (AF C (x,y)))
structure iM (L:List Int) (C:CA) (s:Int) (i:Nat) (x:Int) (c0:Int×Int) (W:List Int) (R0 R:RA):Prop where
 nd:(R.map zO).Nodup
 rg:∀ k∈R.map zO,k∈L
 sd:∀ y c,AF R y=some c->NM (fun x y=>AF C (x,y)) (DB L) s y c
 le:∀ y,BN (AF R y) (AF R0 y)
 sm:∀ y,DB L y<=i->AF R y=AF R0 y
 cw:∀ y∈W,BN (AF R y) (Aj (some c0) (AF C (x,y)))
theorem iM.put {L:List Int}{C:CA}{s:Int}{i:Nat}{x:Int}{c0:Int×Int}{W:List Int}{R0 R:RA}(h:iM L C s i x c0 W R0 R){y:Int}{d v:Int×Int}(hy:y∈L) (hr:i < DB L y) (hx:DB L x=i) (pf:AF R0 x=some c0) (hd:AF C (x,y)=some d) (hv:Dy (AF R y) (some (c0.1 + d.1,c0.2 + d.2))=some v):iM L C s i x c0 (W++[y]) R0 (Dr R y v):=by
 have hle:BN (some v) (AF R y):=hv▸EF _ _
 refine⟨KA h.nd,fun k hk=>(N2 hk).elim (h.rg k) fun e=>e▸hy,fun z c hz=>?_,fun z=>?_,fun z hz=>?_,fun z hz=>?_⟩
 ·rw[HL] at hz
  split at hz
  ·rename_i e
   subst e
   cases hz
   rcases Bm (AF R z) (some (c0.1 + d.1,c0.2 + d.2)) with ⟨e,_⟩|⟨e,_⟩
   ·rw[hv] at e;exact h.sd z _ e.symm
   ·rw[hv] at e
    cases e
    have av:=h.sd x c0 (by rw[h.sm x (by omega)];exact pf)
    exact .snoc av (by omega) hd
  ·exact h.sd z c hz
 ·rw[HL]
  split
  ·rename_i e;subst e;exact Ap hle (h.le z)
  ·exact h.le z
 ·rw[HL,if_neg (fun e=>by subst e;omega)]
  exact h.sm z hz
 ·rw[HL]
  split
  ·rename_i e
   subst e
   rw[hd]
   exact hv▸EG _ _
  ·rename_i e
   rcases zx.mp hz with hz|hz
   ·exact h.cw z hz
   ·exact (e (zh.mp hz)).elim
theorem iM.skip {L:List Int}{C:CA}{s:Int}{i:Nat}{x:Int}{c0:Int×Int}{W:List Int}{R0 R:RA}(h:iM L C s i x c0 W R0 R){y:Int}(hd:AF C (x,y)=none):iM L C s i x c0 (W++[y]) R0 R :=
 ⟨h.nd,h.rg,h.sd,h.le,h.sm,fun z hz=>by
  rcases zx.mp hz with hz|hz
  ·exact h.cw z hz
  ·rw[zh.mp hz,hd];cases AF R y<;>exact trivial⟩
theorem QC.go {L:List Int}{C:CA}{s:Int}{i:Nat}{x:Int}{c0:Int×Int}{R0 R:RA}(hC:∀ p c,AF C p=some c->p.2∈L) (h0:QC L C s i R0) (hx:L[i]? =some x) (hn:L.Nodup) (hc:AF R0 x=some c0) (h:iM L C s i x c0 (L.drop (i + 1)) R0 R):QC L C s (i + 1) R:=by
 have ig:=Q7 hn hx
 refine⟨h.nd,h.rg,Ap (h.le s) h0.st,h.sd,fun u y hu hy=>?_⟩
 by_cases e:DB L u < i
 ·rw[h.sm u (by omega)]
  exact Ap (h.le y) (h0.cl u y e hy)
 ·have e2:DB L u=i:=by omega
  have hi:=(zy.mp hx).1
  have qi:u∈L:=Tx (by omega)
  have eu:u=x:=Q0 qi (zj hx) (by omega)
  subst eu
  rw[h.sm u (by omega),hc]
  cases q:AF C (u,y) with
  |none=>cases AF R y<;>exact trivial
  |some d =>
   have:=h.cw y (fZ (hC _ _ q) (by omega))
   rw[q] at this
   exact this
theorem QC.skip {L:List Int}{C:CA}{s:Int}{i:Nat}{x:Int}{R:RA}(h0:QC L C s i R) (hx:L[i]? =some x) (hn:L.Nodup) (hc:AF R x=none):QC L C s (i + 1) R:=by
 have ig:=Q7 hn hx
 refine⟨h0.nd,h0.rg,h0.st,h0.sd,fun u y hu hy=>?_⟩
 by_cases e:DB L u < i
 ·exact h0.cl u y e hy
 ·have hi:=(zy.mp hx).1
  have eu:u=x:=Q0 (Tx (by omega)) (zj hx) (by omega)
  subst eu
  rw[hc]
  cases AF C (u,y)<;>cases AF R y<;>exact trivial
theorem QC.start {L:List Int}{C:CA}{s:Int}(hs:s∈L):QC L C s 0 [(s,(0,0))]:=by
 refine⟨by simp,fun k hk=>by simp at hk;rw[hk];exact hs,by simp[AF,BN],fun y c h=>?_,fun x y h=>by omega⟩
 simp only[AF] at h
 split at h
 ·rename_i e;subst e;cases h;exact .nil
 ·cases h
theorem QC.vI {m:Nat}{L:List Int}{C:CA}{s:Int}{R:RA}(h:QC L C s L.length R) (hC:∀ p c,AF C p=some c->p.1∈L/\p.2∈L):rR (DB L) (fun x y=>AF C (x,y)) s (AF R):=by
 refine⟨h.st,fun x y hr=>?_,h.sd⟩
 cases q:AF C (x,y) with
 |none=>cases AF R x<;>cases AF R y<;>exact trivial
 |some d =>
  have hx:DB L x < L.length:=zB hr (YK L y)
  have:=h.cl x y hx hr
  rw[q] at this
  exact this
structure YU (m:Nat) (L:List Int) (C:CA) (s:Int) (R:RA) (W:List Int) (T:List Co):Prop where
 len:T.length=m
 no:∀ x:Int,0<=x->x < m->x∉W->atC T x=none
 top:∀ x∈W,BN (atC T x) (AF R x)
 cl:∀ x∈W,∀ y∈W,DB L y < DB L x->BN (atC T y) (Aj (atC T x) (AF C (x,y)))
 sd:∀(x:Int) c,0<=x->x < m->atC T x=some c->∃ t n c1 c2,NM (fun x y=>AF C (x,y)) (DB L) s t c1/\RL (fun x y=>AF C (x,y)) (DB L) t n x c2/\c=(c1.1 + c2.1,c1.2 + c2.2)
theorem YU.step {m:Nat}{L:List Int}{C:CA}{s:Int}{R:RA}{W:List Int}{T:List Co}(hR:∀ y c,AF R y=some c->NM (fun x y=>AF C (x,y)) (DB L) s y c) (h:YU m L C s R W T){y:Int}(qj:0<=y) (xc:y < m) (qk:y∉W) (hW:∀ x∈W,(0<=x/\x < m)/\DB L y < DB L x) :
 YU m L C s R (W++[y]) (T.set y.toNat (FC (AF R y::W.map fun x=>Aj (atC T x) (AF C (x,y))))):=by
 obtain⟨v,hv⟩:∃ v,v=FC (AF R y::W.map fun x=>Aj (atC T x) (AF C (x,y))):=⟨_,rfl⟩
 rw[<-hv]
 have bp:∀ i:Int,0<=i->atC (T.set y.toNat v) i=if i=y then v else atC T i:=fun i hi=>Hr qj hi (by rw[h.len];exact xc)
 have bQ:∀ x∈W,x≠y:=fun x hx e=>qk (e▸hx)
 refine⟨by rw[yK];exact h.len,fun x h0 h1 hx=>?_,fun x hx=>?_,fun x hx z hz hr=>?_,fun x c h0 h1 hx=>?_⟩
 ·rw[zx,not_or] at hx
  rw[bp x h0,if_neg (fun e=>hx.2 (zh.mpr e))]
  exact h.no x h0 h1 hx.1
 ·rcases zx.mp hx with hx|hx
  ·rw[bp x (hW x hx).1.1,if_neg (bQ x hx)];exact h.top x hx
  ·have e:=zh.mp hx
   subst e
   rw[bp x qj,if_pos rfl,hv]
   exact Lx ze
 ·rcases zx.mp hx with av|av
  ·rcases zx.mp hz with bE|bE
   ·rw[bp x (hW x av).1.1,if_neg (bQ x av),bp z (hW z bE).1.1,if_neg (bQ z bE)];exact h.cl x av z bE hr
   ·have e:=zh.mp bE
    rw[e] at hr ⊢
    rw[bp x (hW x av).1.1,if_neg (bQ x av),bp y qj,if_pos rfl,hv]
    exact Lx (zf _ (zE.mpr ⟨x,av,rfl⟩))
  ·have e:=zh.mp av
   rw[e] at hr
   rcases zx.mp hz with bE|bE
   ·have:=(hW z bE).2;omega
   ·rw[zh.mp bE] at hr
    omega
 ·rw[bp x h0] at hx
  split at hx
  ·rename_i e
   subst e
   rw[hv] at hx
   rcases Jg (AF R x::W.map fun z=>Aj (atC T z) (AF C (z,x))) with e|e
   ·rw[e] at hx;cases hx
   ·rw[hx] at e
    rcases zu.mp e with e|e
    ·exact⟨x,0,c,(0,0),hR x c e.symm,.nil,by simp⟩
    ·obtain⟨z,hz,e⟩:=zE.mp e
     obtain⟨p,q,e1,e2,rfl⟩:=Fg e
     obtain⟨t,n,c1,c2,g1,g2,rfl⟩:=h.sd z p (hW z hz).1.1 (hW z hz).1.2 e1
     exact⟨t,n + 1,c1,_,g1,.snoc g2 (hW z hz).2 e2,by simp only[zb3]⟩
  ·exact h.sd x c h0 h1 hx
theorem YU.start {m:Nat}{L:List Int}{C:CA}{s:Int}{R:RA}:YU m L C s R [] (zv m none):=by
 have d4:∀ x:Int,atC (zv m none) x=none:=fun x=>by
  unfold atC
  rw[zC,za7]
  split<;>rfl
 exact⟨by simp,fun x _ _ _=>d4 x,(fun x hx=>by cases hx),(fun x hx=>by cases hx),fun x c _ _ h=>by rw[d4] at h;cases h⟩
end L2
namespace L2
theorem mM {a b g i:Int}(ha:0<=a/\a < L4) (hb:0<=b/\b < L4) (hg:0<=g/\g < L4) (h0:0<=i) (h1:i < 8):∃ l:Option Int,B4 (.lst [.AA,.int 0,.int 0,.int 1,.int a,.int b,.int g,.int g]) (.int i)=.ok (GB l)/\∀ z,l=some z->0<=z/\z < L4:=by
 have ht:=PP
 have hi:i=0\/i=1\/i=2\/i=3\/i=4\/i=5\/i=6\/i=7:=by omega
 rcases hi with rfl|rfl|rfl|rfl|rfl|rfl|rfl|rfl
 ·exact⟨none,rfl,fun z e=>by cases e⟩
 ·exact⟨some 0,rfl,fun z e=>by cases e;omega⟩
 ·exact⟨some 0,rfl,fun z e=>by cases e;omega⟩
 ·exact⟨some 1,rfl,fun z e=>by cases e;omega⟩
 ·exact⟨some a,rfl,fun z e=>by cases e;exact ha⟩
 ·exact⟨some b,rfl,fun z e=>by cases e;exact hb⟩
 ·exact⟨some g,rfl,fun z e=>by cases e;exact hg⟩
 ·exact⟨some g,rfl,fun z e=>by cases e;exact hg⟩
theorem mO {a b i:Int}(ha:0<=a/\a < L4) (hb:0<=b/\b < L4) (h0:0<=i) (h1:i < 2):∃ w:Int,B4 (.lst [.int a,.int b]) (.int i)=.ok (.int w)/\0<=w/\w < L4:=by
 have hi:i=0\/i=1:=by omega
 rcases hi with rfl|rfl
 ·exact⟨a,rfl,ha⟩
 ·exact⟨b,rfl,hb⟩
theorem gB {α:Type}{a b c d e f g h:D}{x y:α}:(if [a,b,c,d,e,f,g,h].length<=1000 then x else y)=x:=if_pos (by simp)
theorem V9 (r:Road):dp (.ok (BI r))=.ok (BI r):=by
 obtain⟨a,b,l,w⟩:=r
 cases l<;>rfl
theorem Q8 (i:Int):dp (.ok (.int i))=.ok (.int i):=rfl
theorem TC {ρ:Ab}{i m:Nat}{ac:List (List Co)}{x y:Int}(h:ρ[i]? =some (some (.ow (.rows (AH ac))))) (hM:Pw m ac) (h0:0<=x) (h1:x < m) (h2:0<=y) (h3:y < m):dJ i ρ (.ok (.int x)) (.ok (.int y))=.ok (cst (at2 ac x y)):=by
 unfold dJ
 rw[h]
 simp only[M.A8]
 rw[Rg hM h0 h1]
 exact dR hM h0 h1 h2 h3
theorem gC {ρ:Ab}{i m:Nat}{ac:List (List Co)}{x y:Int}{v:Co}(h:ρ[i]? =some (some (.ow (.rows (AH ac))))) (hM:Pw m ac) (h0:0<=x) (h1:x < m) (h2:0<=y) (h3:y < m):Uz i ρ (.ok (.int x)) (.ok (.int y)) (cst v)=.ok (.next (ρ.set i (some (.ow (.rows (AH (put2 ac x y v))))))):=by
 unfold Uz
 rw[h]
 simp only[M.A8]
 rw[Rg hM h0 h1]
 exact dS hM h0 h1 h2 h3 i ρ v
theorem RP:∀(n:Nat) (B:List (Int×Int)) (L:List Int),L.length=n->(Ss n B L).Perm L
 |0,B,L,h=>by rw[List.length_eq_zero_iff.mp h];exact .refl _
 |n + 1,B,L,h=>by
  have ae:L≠[]:=fun e=>by rw[e] at h;cases h
  have hm:=(OE (B:=B) ae).1
  rw[Ss,if_neg ae]
  refine List.Perm.trans ?_ (List.perm_cons_erase hm).symm
  exact (RP n _ _ (by rw[List.length_erase_of_mem hm,h];rfl)).cons _
end L2
namespace L2
theorem TF (T:List Co) (k:Nat):HZ k (T.map cst)=(yR T.length).map fun i=>D.tup [.int ((k + i:Nat):Int),cst (atC T (i:Int))]:=by
 apply List.ext_getElem?
 intro i
 rw[zD]
 by_cases hi:i < T.length
 ·obtain⟨e,he⟩:∃ e,(HZ k (T.map cst))[i]? =some e:=⟨_,zq (by rw[DQ,zc];exact hi)⟩
  obtain⟨d,hd,rfl⟩:=Hn he
  rw[he,List.getElem?_range hi]
  have e1:=Dc (cs:=T) (i:=(i:Int)) (by omega) (by omega)
  rw[yN] at e1
  rw[zD,e1] at hd
  cases hd
  rfl
 ·rw[List.getElem?_eq_none (by rw[DQ,zc];omega),List.getElem?_eq_none (by rw[List.length_range];omega)]
  rfl
noncomputable def OP (a b:Int->Co) (c:Co) (m:Nat):List Int:=((yR m).filter fun i:Nat=>decide (c≠none) && decide (Aj (a i) (b i)=c)).map fun i:Nat=>(i:Int)
theorem YV (a b:Int->Co) (m:Nat):OP a b none m=[]:=by
 unfold OP
 rw[List.filter_eq_nil_iff.mpr (fun x _=>by simp)]
 rfl
theorem YW (a b:Int->Co) (c:Int×Int) (m:Nat):(OP a b (some c) m).map D.int=((yR m).filter fun i:Nat=>decide (Aj (a i) (b i)=some c)).map fun i:Nat=>D.int (i:Int):=by
 unfold OP
 rw[yF]
 have e:(fun i:Nat=>decide (some c≠(none:Co)) && decide (Aj (a i) (b i)=some c))=fun i:Nat=>decide (Aj (a i) (b i)=some c):=by funext i;simp
 rw[e]
 rfl
theorem YX (a b:Int->Co) (c:Co) (m:Nat):OP a b c (m + 1)=OP a b c m++(if Aj (a m) (b m)≠none/\Aj (a m) (b m)=c then [(m:Int)] else []):=by
 unfold OP
 rw[List.range_succ,List.filter_append,zK]
 congr 1
 by_cases h:Aj (a m) (b m)=c
 ·by_cases h2:c=none
  ·subst h2
   rw[List.filter_cons_of_neg (by simp),if_neg (by rw[h];simp)]
   rfl
  ·rw[List.filter_cons_of_pos (by simp[h,h2]),if_pos ⟨by rw[h];exact h2,h⟩]
   rfl
 ·rw[List.filter_cons_of_neg (by simp[h]),if_neg (by simp[h])]
  rfl
theorem Wr {a b a' b':Int->Co}{c:Co}{m:Nat}(h:∀ i:Nat,i < m->Aj (a i) (b i)=Aj (a' i) (b' i)):OP a b c m=OP a' b' c m:=by
 unfold OP
 rw[List.filter_congr fun i hi=>by rw[h i (zb6.mp hi)]]
theorem Va (a b:Int->Co) (c:Co) (m:Nat):(OP a b c m).length<=m:=by
 unfold OP
 rw[zc]
 exact yP (zav _ _) (Nat.le_of_eq List.length_range)
end L2
namespace L2
open PySem PySem.Spec PyProof.Rows
theorem AY {K:za}{mg:Str->Option Value}{h:Heap}{x:Str}{st:Stmt}{ps:List Str}(X:K.In h) (G:h.Ns mainGlobals mg) (p:FP K x st) (hb:∀(kV dc pm:Value) (an:Option Addr) (cd ct:Value) (us:List Value),us.length=ps.length->bindArgs (zT x x (AR st) (AB st) (A3 st) .none kV dc pm an cd ct) ⟨us,[]⟩=pure (ps.zip us)):Ak K mg x st ps:=by
 obtain⟨f,oc,od,an,sl,kV,dc,pm,cd,ct,a,l,c,k⟩:=p.ex
 have F:=SN (st:=st) l c k
 exact⟨⟨_,_,F,PySem.W.mg_of X G a,F.binds hb⟩⟩
theorem Vb {K:za}{C:Addr}{x m qual:Str}{st:Stmt}{ps:List Str}(aC:zd K mainGlobals x=some (some (.ref C))) (cl:Vq K C) (p:MP K C m qual st) (hb:∀(kV dc pm:Value) (an:Option Addr) (cd ct:Value) (us:List Value),us.length=ps.length->bindArgs (zT m qual (AR st) (AB st) (A3 st) .none kV dc pm an cd ct) ⟨us,[]⟩=pure (ps.zip us)):Ia K x m qual st ps:=by
 obtain⟨f,oc,od,an,sl,kV,dc,pm,cd,ct,a,i,l,c,k⟩:=p.ex
 have F:=SN (st:=st) l c k
 exact⟨⟨_,_,_,aC,cl,⟨a,i,k⟩,F,F.binds hb⟩⟩
end L2
namespace L2
open PySem PySem.W PySem.Calls PyProof.Rows
noncomputable def R0:Rn:=⟨topRun,Heap.nsMap,importEnds,fenceModules?,PySem.start,treeTable⟩
theorem mP:R0=R1:=by
 unfold R0 R1
 rw[PySem.W.Fast.te14082659384304107361,PySem.W.Fast.te8920871248978507458,PySem.W.Fast.te10274390034422433532,PySem.W.Fast.te14289696077712309145,PySem.W.Fast.te1435165496053646825,PySem.W.Fast.te14364793385576792824]
theorem Vc (p:Program) (w:World) (N:Nat):openEnds treeTable p w N=M5 R0 p w N:=by
 unfold openEnds fencedOpening M5
 rfl
theorem N7 {h:Heap}{a:Addr}{o:Obj}:∀ {as:List Addr},(qU h as).lookup a=some o->h.get? a=some o
 |[],e=>by cases e
 |b::r,e=>by
  unfold qU at e
  rw[List.filterMap_cons] at e
  cases q:h.get? b with
  |none=>rw[q] at e;exact N7 (as:=r) e
  |some u =>
   rw[q] at e
   dsimp only [za9] at e
   rw[zap] at e
   cases c:a == b with
   |true=>rw[c] at e;cases e;rw[eq_of_beq c];exact q
   |false=>rw[c] at e;exact N7 (as:=r) e
noncomputable def qQ (h h':Heap):Prop:=∀(b:Addr) (o:Obj),h.get? b=some o->h'.get? b=some o
theorem mQ {h h':Heap}{as:List Addr}(s:qQ h h'):(qU h as).In h':=fun a o e=>s a o (N7 e)
theorem gD {p q:Program}{Xt:Shared->Bool}{N:Nat}(h:∀ w:World,(openEnds treeTable p w N).map (fun s=>openSeen q [] (importedModules p.main.body) Xt true s)=some (openGood q [])):LeftO p q [] Xt (fun s=>s.heap) (fun w=>WG R0 p w N) N:=fun w=>by
 have e:=h w
 unfold WG
 dsimp only
 rw[<-Vc]
 cases q':openEnds treeTable p w N with
 |none=>rw[q'] at e;cases e
 |some s =>
  rw[q'] at e
  rw[za9] at e ⊢
  dsimp only
  rw[zI e]
theorem Q9 {α β γ:Type}{o:Option γ}{f:γ->α×β}{a:α×β}(h:o.map (fun s=>(f s).1)=some a.1) (k:o.map (fun s=>(f s).2)=some a.2):o.map f=some a:=by
 cases o with
 |none=>cases h
 |some s =>
  rw[za9] at h k ⊢
  exact congrArg some (Prod.ext (zI h) (zI k))
theorem qR {l:PySem.W.OpenLaw}{n k:Nat}{q:Program}{loose:List Str}{XP:(Str->Option Value)->Heap->Prop}{YP:World->Heap->Prop}{d:DefRec}{K:World->za}{CX:World->U7}{sp:World->Sp}{x:Str}
 (hn:l.most=some n) (aK:n<=sizeLine) (gc:d.params.defaults=[]) (hr:BJ k callerA) (hY:∀(w:World) (h:Heap),YP w h->(K w).In h)
 (F:∀(w:World) (mg:Str->Option Value) (fa:Addr) (h:Heap),(K w).In h->h.Ns mainGlobals mg->mg d.name=some (.ref fa)->∃ fd:FuncData,(∀(s:Shared) (u:Value),BindsTo s fd ⟨[u],[]⟩ [(x,u)]) /\
  ∀ base:Heap,(K w).In base->base.Ns mainGlobals mg->Dn l.prog w (K w) mg base (CX w) k fa fd [x] (sp w))
 (ca:∀(w:World) (H:Hp) (a:Addr) (ns:List Int),(∀ n∈ns,Sm n)->ns.length<=n->ZG H->Dm (K w) H a (ns.map V.int)->sp w [.ref a] H (fun v _=>v=.bl true) fun _ _ _=>False)
 (i8:∀(w:World) (H:Hp) (s:Shared) (e:Value) (s':Shared),CX w [] H s (fun _ _ _=>False) e s'->False):PySem.W.WalkO q loose XP YP l.row.toRowW d [] (fun f vs=>PySem.call f vs):=by
 refine HT.Oo hn gc fun w s₀ s₁ mg mb fa o pm cd doc a vs ns bF G Y ho hd bz ge cD b6 hlen hg=>?_
 have KX:=hY w _ Y
 obtain⟨fd,hb,hF⟩:=F w mg fa _ KX G.T.g ge
 exact QQ KX G.T.g G.T.b G.T.builtins G.T.nolimit hg cD b6 (yP hlen aK) hr hF hb (fun H hO hS=>ca w H a ns bF hlen hO hS) fun H e s'=>i8 w H s₁ e s'
end L2
set_option maxHeartbeats 4000000
namespace cO
open PySem L2
noncomputable def top (i:Nat):Stmt:=PySem.Challenge.pw_nodeladder_k54_between.main.body.getD i (.Pass ⟨0,0,0,0⟩)
noncomputable abbrev Ce:Stmt:=top 7
theorem K7:Ae ["thing","bound"] ["thing","bound"] (A3 Ce):=⟨rfl,rfl,rfl,by decide +kernel,rfl,by decide +kernel,by decide +kernel⟩
noncomputable abbrev DC:Stmt:=top 8
theorem NO:Ae ["thing"] ["thing"] (A3 DC):=⟨rfl,rfl,rfl,by decide +kernel,rfl,by decide +kernel,by decide +kernel⟩
noncomputable abbrev HP:Stmt:=top 9
theorem TH:Ae ["thing","many"] ["thing","many"] (A3 HP):=⟨rfl,rfl,rfl,by decide +kernel,rfl,by decide +kernel,by decide +kernel⟩
noncomputable abbrev K8:Stmt:=top 10
theorem KH:Ae ["thing","many","roads"] ["thing"] (A3 K8):=⟨rfl,rfl,rfl,by decide +kernel,rfl,by decide +kernel,by decide +kernel⟩
noncomputable abbrev HQ:Stmt:=top 11
theorem TJ:Ae ["thing"] ["thing"] (A3 HQ):=⟨rfl,rfl,rfl,by decide +kernel,rfl,by decide +kernel,by decide +kernel⟩
noncomputable abbrev M2:Stmt:=top 12
theorem YY:Ae ["one","other"] ["one","other"] (A3 M2):=⟨rfl,rfl,rfl,by decide +kernel,rfl,by decide +kernel,by decide +kernel⟩
noncomputable abbrev M3:Stmt:=top 13
theorem YZ:Ae ["some"] ["some"] (A3 M3):=⟨rfl,rfl,rfl,by decide +kernel,rfl,by decide +kernel,by decide +kernel⟩
noncomputable abbrev EI:Stmt:=top 14
theorem Qa:Ae ["road"] ["road"] (A3 EI):=⟨rfl,rfl,rfl,by decide +kernel,rfl,by decide +kernel,by decide +kernel⟩
noncomputable abbrev DD:Stmt:=top 16
theorem NP:Ae ["ladder"] ["ladder"] (A3 DD):=⟨rfl,rfl,rfl,by decide +kernel,rfl,by decide +kernel,by decide +kernel⟩
noncomputable abbrev BE:Stmt:=top 17
theorem GO:Ae ["ladder"] ["ladder"] (A3 BE):=⟨rfl,rfl,rfl,by decide +kernel,rfl,by decide +kernel,by decide +kernel⟩
noncomputable abbrev HR:Stmt:=top 18
theorem D8:Ae ["order","costs","place","reached","rank","lower","higher","cost"] ["order","costs","place"] (A3 HR):=⟨rfl,rfl,rfl,by decide +kernel,rfl,by decide +kernel,by decide +kernel⟩
noncomputable abbrev M4:Stmt:=top 20
theorem Fo:Ae ["order","costs","place","reached","told","higher","lower","over"] ["order","costs","place"] (A3 M4):=⟨rfl,rfl,rfl,by decide +kernel,rfl,by decide +kernel,by decide +kernel⟩
noncomputable abbrev EJ:Stmt:=top 21
theorem Qb:Ae ["ladder","start"] ["ladder","start"] (A3 EJ):=⟨rfl,rfl,rfl,by decide +kernel,rfl,by decide +kernel,by decide +kernel⟩
noncomputable abbrev FG:Stmt:=top 22
theorem RQ:Ae ["ladder","goal"] ["ladder","goal"] (A3 FG):=⟨rfl,rfl,rfl,by decide +kernel,rfl,by decide +kernel,by decide +kernel⟩
noncomputable abbrev HS:Stmt:=top 23
theorem IK:Ae ["ladder","start","goal","ahead","behind"] ["ladder","start","goal"] (A3 HS):=⟨rfl,rfl,rfl,by decide +kernel,rfl,by decide +kernel,by decide +kernel⟩
noncomputable abbrev De:Stmt:=top 25
theorem N8:Ae ["laid","pair"] ["laid","pair"] (A3 De):=⟨rfl,rfl,rfl,by decide +kernel,rfl,by decide +kernel,by decide +kernel⟩
noncomputable abbrev Vd:Stmt:=top 26
theorem mR:Ae ["laid","pair","cost","middle"] ["laid","pair","cost","middle"] (A3 Vd):=⟨rfl,rfl,rfl,by decide +kernel,rfl,by decide +kernel,by decide +kernel⟩
noncomputable abbrev FH:Stmt:=top 27
theorem EK:Ae ["laid","place","higher","u","w","cost"] ["laid","place","higher"] (A3 FH):=⟨rfl,rfl,rfl,by decide +kernel,rfl,by decide +kernel,by decide +kernel⟩
noncomputable abbrev EL:Stmt:=top 28
theorem CM:Ae ["net","order","laid","road","rank","place"] ["net","order"] (A3 EL):=⟨rfl,rfl,rfl,by decide +kernel,rfl,by decide +kernel,by decide +kernel⟩
noncomputable abbrev FI:Stmt:=top 30
theorem RS:Ae ["net","thing"] ["net","thing"] (A3 FI):=⟨rfl,rfl,rfl,by decide +kernel,rfl,by decide +kernel,by decide +kernel⟩
noncomputable abbrev Ct:Stmt:=top 31
theorem KI:Ae ["net","thing"] ["net","thing"] (A3 Ct):=⟨rfl,rfl,rfl,by decide +kernel,rfl,by decide +kernel,by decide +kernel⟩
noncomputable abbrev DF:Stmt:=top 32
theorem F4:Ae ["net","bows","road"] ["net"] (A3 DF):=⟨rfl,rfl,rfl,by decide +kernel,rfl,by decide +kernel,by decide +kernel⟩
noncomputable abbrev CN:Stmt:=top 33
theorem BS:Ae ["bows","left","place","ahead","behind","missing","u"] ["bows","left","place"] (A3 CN):=⟨rfl,rfl,rfl,by decide +kernel,rfl,by decide +kernel,by decide +kernel⟩
noncomputable abbrev FJ:Stmt:=top 34
theorem RT:Ae ["bows","left"] ["bows","left"] (A3 FJ):=⟨rfl,rfl,rfl,by decide +kernel,rfl,by decide +kernel,by decide +kernel⟩
noncomputable abbrev K9:Stmt:=top 35
theorem E5:Ae ["net","bows","left","order","place","bow"] ["net"] (A3 K9):=⟨rfl,rfl,rfl,by decide +kernel,rfl,by decide +kernel,by decide +kernel⟩
noncomputable abbrev DH:Stmt:=top 37
theorem By:Ae ["net","start","costs","changed","road","cost"] ["net","start"] (A3 DH):=⟨rfl,rfl,rfl,by decide +kernel,rfl,by decide +kernel,by decide +kernel⟩
noncomputable abbrev C2:Stmt:=top 39
theorem IL:Ae ["net","order"] ["net","order"] (A3 C2):=⟨rfl,rfl,rfl,by decide +kernel,rfl,by decide +kernel,by decide +kernel⟩
noncomputable abbrev EM:Stmt:=top 40
theorem DJ:Ae ["net","laid","kept","u","costs"] ["net","laid"] (A3 EM):=⟨rfl,rfl,rfl,by decide +kernel,rfl,by decide +kernel,by decide +kernel⟩
noncomputable abbrev Aq:Stmt:=inClass (top 41) 0
theorem IM:Ae ["self","net","order"] ["self","net","order"] (A3 Aq):=⟨rfl,rfl,rfl,by decide +kernel,rfl,by decide +kernel,by decide +kernel⟩
noncomputable abbrev CO:Stmt:=inClass (top 41) 2
theorem Ll:Ae ["self"] ["self"] (A3 CO):=⟨rfl,rfl,rfl,by decide +kernel,rfl,by decide +kernel,by decide +kernel⟩
noncomputable abbrev Bq:Stmt:=inClass (top 41) 4
theorem CZ:Ae ["self","u","w","many"] ["self","u","w"] (A3 Bq):=⟨rfl,rfl,rfl,by decide +kernel,rfl,by decide +kernel,by decide +kernel⟩
noncomputable abbrev Df:Stmt:=inClass (top 41) 5
theorem N9:Ae ["self","u","w"] ["self","u","w"] (A3 Df):=⟨rfl,rfl,rfl,by decide +kernel,rfl,by decide +kernel,by decide +kernel⟩
noncomputable abbrev Dg:Stmt:=inClass (top 41) 8
theorem Na:Ae ["self"] ["self"] (A3 Dg):=⟨rfl,rfl,rfl,by decide +kernel,rfl,by decide +kernel,by decide +kernel⟩
noncomputable abbrev Dh:Stmt:=top 43
theorem Nb:Ae ["_law_script","_law_k"] ["_law_script","_law_k"] (A3 Dh):=⟨rfl,rfl,rfl,by decide +kernel,rfl,by decide +kernel,by decide +kernel⟩
noncomputable abbrev HU:Stmt:=top 44
theorem Nc:Ae ["_law_cell","_law_k","_law_number"] ["_law_cell","_law_k"] (A3 HU):=⟨rfl,rfl,rfl,by decide +kernel,rfl,by decide +kernel,by decide +kernel⟩
noncomputable abbrev EN:Stmt:=top 45
theorem Qc:Ae ["_law_cell","_law_k"] ["_law_cell","_law_k"] (A3 EN):=⟨rfl,rfl,rfl,by decide +kernel,rfl,by decide +kernel,by decide +kernel⟩
noncomputable abbrev EO:Stmt:=top 46
theorem Qd:Ae ["_law_found"] ["_law_found"] (A3 EO):=⟨rfl,rfl,rfl,by decide +kernel,rfl,by decide +kernel,by decide +kernel⟩
noncomputable abbrev EQ:Stmt:=top 47
theorem Bc:Ae ["_law_cells","_law_many","_law_roads_here","_law_k","_law_mixed","_law_great_here","_law_one","_law_other","_law_small","_law_length"] ["_law_cells","_law_many"] (A3 EQ):=⟨rfl,rfl,rfl,by decide +kernel,rfl,by decide +kernel,by decide +kernel⟩
noncomputable abbrev ER:Stmt:=top 48
theorem FK:Ae ["_law_cell","_law_many","_law_order_here","_law_place"] ["_law_cell","_law_many"] (A3 ER):=⟨rfl,rfl,rfl,by decide +kernel,rfl,by decide +kernel,by decide +kernel⟩
noncomputable abbrev ES:Stmt:=top 49
theorem Qe:Ae ["_law_one","_law_other"] ["_law_one","_law_other"] (A3 ES):=⟨rfl,rfl,rfl,by decide +kernel,rfl,by decide +kernel,by decide +kernel⟩
noncomputable abbrev ET:Stmt:=top 50
theorem Qf:Ae ["_law_some"] ["_law_some"] (A3 ET):=⟨rfl,rfl,rfl,by decide +kernel,rfl,by decide +kernel,by decide +kernel⟩
noncomputable abbrev FL:Stmt:=top 51
theorem RU:Ae ["_law_road"] ["_law_road"] (A3 FL):=⟨rfl,rfl,rfl,by decide +kernel,rfl,by decide +kernel,by decide +kernel⟩
noncomputable abbrev EU:Stmt:=top 52
theorem Br:Ae ["_law_roads_here","_law_many","_law_costs_here","_law_u","_law_v","_law_row","_law_road","_law_w"] ["_law_roads_here","_law_many"] (A3 EU):=⟨rfl,rfl,rfl,by decide +kernel,rfl,by decide +kernel,by decide +kernel⟩
noncomputable abbrev G7:Stmt:=top 53
theorem CP:Ae ["_law_script","_law_first","_law_many","_law_roads_here","_law_costs_here","_law_k","_law_ladder","_law_start","_law_goal","_law_due","_law_place","_law_found","_law_both"] ["_law_script"] (A3 G7):=⟨rfl,rfl,rfl,by decide +kernel,rfl,by decide +kernel,by decide +kernel⟩
structure Txt (K:za) (mg:Str->Option Value):Prop where
 KJ:Ak K mg "is_whole_below" Ce ["thing","bound"]
 Qg:Ak K mg "is_measure" DC ["thing"]
 Ws:Ak K mg "is_road" HP ["thing","many"]
 Z0:Ak K mg "is_map" K8 ["thing"]
 Wt:Ak K mg "checked" HQ ["thing"]
 gE:Ak K mg "added" M2 ["one","other"]
 gF:Ak K mg "least" M3 ["some"]
 RV:Ak K mg "road_cost" EI ["road"]
 Qh:Ak K mg "kept_costs" DD ["ladder"]
 HW:Ak K mg "kept_costs_turned" BE ["ladder"]
 Wu:Ak K mg "climbed" HR ["order","costs","place"]
 gH:Ak K mg "swept" M4 ["order","costs","place"]
 RW:Ak K mg "costs_out" EJ ["ladder","start"]
 TK:Ak K mg "costs_in" FG ["ladder","goal"]
 Wv:Ak K mg "between" HS ["ladder","start","goal"]
 NQ:Ak K mg "cost_so_far" De ["laid","pair"]
 qS:Ak K mg "lay" Vd ["laid","pair","cost","middle"]
 TM:Ak K mg "lay_over" FH ["laid","place","higher"]
 RX:Ak K mg "laid_arcs" EL ["net","order"]
 TN:Ak K mg "is_order" FI ["net","thing"]
 Lm:Ak K mg "checked_order" Ct ["net","thing"]
 Qi:Ak K mg "first_bows" DF ["net"]
 Nd:Ak K mg "missing_bows" CN ["bows","left","place"]
 TQ:Ak K mg "lightest" FJ ["bows","left"]
 Z1:Ak K mg "ranked" K9 ["net"]
 Qj:Ak K mg "costs_from" DH ["net","start"]
 Ka:Ak K mg "order_or_ranked" C2 ["net","order"]
 RY:Ak K mg "kept_arcs" EM ["net","laid"]
 Kb:Tt K mg "Ladder" "Ladder.__init__" Aq ["self","net","order"]
 Nf:Ia K "Ladder" "order" "Ladder.order" CO ["self"]
 GP:Ia K "Ladder" "checked_arc" "Ladder.checked_arc" Bq ["self","u","w"]
 NR:Ia K "Ladder" "cost" "Ladder.cost" Df ["self","u","w"]
 NS:Ia K "Ladder" "kept" "Ladder.kept" Dg ["self"]
 NT:Ak K mg "_law_cell_at" Dh ["_law_script","_law_k"]
 Ww:Ak K mg "_law_mix" HU ["_law_cell","_law_k"]
 RZ:Ak K mg "_law_great" EN ["_law_cell","_law_k"]
 S0:Ak K mg "_law_whole" EO ["_law_found"]
 S1:Ak K mg "_law_roads" EQ ["_law_cells","_law_many"]
 S2:Ak K mg "_law_order" ER ["_law_cell","_law_many"]
 S3:Ak K mg "_law_added" ES ["_law_one","_law_other"]
 S4:Ak K mg "_law_least" ET ["_law_some"]
 TR:Ak K mg "_law_open" FL ["_law_road"]
 S5:Ak K mg "_law_costs" EU ["_law_roads_here","_law_many"]
 vJ:Ak K mg "law" G7 ["_law_script"]
 Z2:mg "all" = none
 Z3:mg "bool" = none
 Z4:mg "dict" = none
 GQ:mg "enumerate" = none
 Z5:mg "int" = none
 Bd:mg "isinstance" = none
 Ic:mg "len" = none
 F5:mg "list" = none
 Z6:mg "min" = none
 Cu:mg "range" = none
 TU:mg "reversed" = none
 Z7:mg "sorted" = none
 Qk:mg "tuple" = none
 gI:ClsAt K mg "NoArc"
 gJ:ClsAt K mg "NoMap"
 Wx:ClsAt K mg "NoOrder"
 Em:I9 K "Ladder" "kept_ones"
 Di:I9 K "Ladder" "laid"
 BH:I9 K "Ladder" "own_map"
 Cy:I9 K "Ladder" "own_order"
local macro_rules | `(tactic| simp_arith [$xs,*])=>`(tactic| simp only [rJ,rK,LU,List.set_cons_zero,List.set_cons_succ,M.A8,Ht,Hs,Jl,JG,JH,JI,LJ,IG,Kw,Ru,Jx,Jy,Hv,UK,LG,LH,Jz,eO,Hw,Hx,FD,PJ,D6,PL,JA,JB,Hy,UN,Jw,Fh,toCl_list,toCl_listP,toCl_dct,LK,JJ,JK,JL,JM,LL,JN,JO,JP,nA,pW,JC,UO,JD,UP,JE,JF,LI,UQ,rL,rM,eS,eT,eU,eV,eW,eX,toCl_nil,Jc,Js,Of,PM,Hz,LM,LN,JQ,JR,LO,LP,LQ,LR,LS,JS,JT,JU,JV,HA,HB,HC,HD,HE,JW,HF,HG,UR,US,UT,UU,UW,HH,ite_tt,ite_ff,Bool.not_true,Bool.not_false,List.getElem?_cons_zero,List.getElem?_cons_succ,Fm,JZ,K0,eR,fF,eQ,fI,fJ,fK,LV,Q1,Q2,Q3,DZ,HN,LZ,Pu,gB,V9,Q8,$xs,*])
variable {P:Program}{w:World}{K:za}{mg:Str->Option Value}{base:Heap}
theorem CQ:∃ F:List D->M OT,(∀ {P:Program}{w:World}{K:za}{mg:Str->Option Value}{base:Heap},Txt K mg->BY P w K mg base "is_whole_below" 1 2 F)/\(∀(d:D) (n:Int),Um d=false->F [d,.int n]=.ok (.sh (.bl (Kh d n)))):=by
 refine⟨_,fun T=>AE (k:=0) T.KJ K7 _ (fun f B2 A outer s H E hr=>(A5 (Ao (B9 (Pn (Fy (R3 _) rfl T.Bd rfl T.Z5 (by decide +kernel) (A1 0 (pv 0))) (Pn (Xr (Fy (Oh _) rfl T.Bd rfl T.Z3 (by decide +kernel) (A1 0 (pv 0)))) (Pm (VC oH gO A6 (A1 0 (pv 0)) (A1 1 (pv 1)))))))))),?_⟩
 intro d n hx
 have e0:AK ["thing","bound"] [d,.int n]=[some (.val d),some (.val (.int n))]:=rfl
 rw[e0]
 refine BB ?_
 simp_arith[QZ hx]
 cases d with
 |int j =>
  simp_arith[]
  unfold Kh
  by_cases h1:0<=j<;>by_cases h2:j < n<;>simp[h1,h2,F0,Fm]<;>rfl
 |DK x=>cases hx
 |ins x n d=>cases hx
 |_=>rfl
noncomputable def G8:List D->M OT:=zi CQ
theorem AW:Txt K mg->BY P w K mg base "is_whole_below" 1 2 G8:=(zb CQ).1
theorem AM:∀(d:D) (n:Int),Um d=false->G8 [d,.int n]=.ok (.sh (.bl (Kh d n))):=(zb CQ).2
theorem F6:∃ F:List D->M OT,(∀ {P:Program}{w:World}{K:za}{mg:Str->Option Value}{base:Heap},Txt K mg->BY P w K mg base "is_measure" 2 1 F)/\(∀ d:D,Um d=false->F [d]=.ok (.sh (.bl (Kh d L4)))):=by
 refine⟨_,fun T=>AE (k:=1) T.Qg NO _ (fun f B2 A outer s H E hr=>(A5 (Ao (Aa A9.toXCall (AW T) (hr.mono (by decide)) rfl (A2 (A1 0 (pv 0)) (A2 (Xp A6 A6) A7)) rfl)))),?_⟩
 intro d hx
 have e0:AK ["thing"] [d]=[some (.val d)]:=rfl
 rw[e0]
 have h1:=AM d L4 hx
 refine BB ?_
 simp_arith[iG,h1]
 rfl
noncomputable def L7:List D->M OT:=zi F6
theorem Ie:Txt K mg->BY P w K mg base "is_measure" 2 1 L7:=(zb F6).1
theorem Ig:∀ d:D,Um d=false->L7 [d]=.ok (.sh (.bl (Kh d L4))):=(zb F6).2
theorem IP:∃ F:List D->M OT,(∀ {P:Program}{w:World}{K:za}{mg:Str->Option Value}{base:Heap},Txt K mg->BY P w K mg base "is_road" 3 2 F)/\(∀(d:D) (m:Int),cl 1 d->F [d,.int m]=.ok (.sh (.bl (F2 m d)))):=by
 refine⟨_,fun T=>AE (k:=2) T.Ws TH _ (fun f B2 A outer s H E hr=>(A4 (Be (DW.dt (Fd (CJ (Ck (c:=true) (Fy (Mr _) rfl T.Bd rfl T.Qk (by decide +kernel) (A1 0 (pv 0))))) (Ec (KW (c:=true) (AU hr 16 (by decide)) (EY rfl T.Ic (A1 0 (pv 0))) A6)))) (A5 (Ao (B9 Dv))) AD) (A4 (Be (DW.dt (Fd (CJ (Ck (c:=true) (Ai (Aa A9.toXCall (AW T) (hr.mono (by decide)) rfl (A2 (Ac (AU hr 16 (by decide)) (A1 0 (pv 0)) A6) (A2 (A1 1 (pv 1)) A7)) rfl)))) (Ec (CJ (Ck (c:=true) (Ai (Aa A9.toXCall (AW T) (hr.mono (by decide)) rfl (A2 (Ac (AU hr 16 (by decide)) (A1 0 (pv 0)) A6) (A2 (A1 1 (pv 1)) A7)) rfl))))))) (A5 (Ao (B9 Dv))) AD) (A4 (Be (J7 (c:=true) (AU hr 16 (by decide)) (Ac (AU hr 16 (by decide)) (A1 0 (pv 0)) A6) (Ac (AU hr 16 (by decide)) (A1 0 (pv 0)) A6)) (A5 (Ao (B9 Dv))) AD) (A5 (Ao (B9 (Pn (pM (kM (Ac (AU hr 16 (by decide)) (A1 0 (pv 0)) A6)) (Pm (Ai (Aa A9.toXCall (Ie T) (hr.mono (by decide)) rfl (A2 (Ac (AU hr 16 (by decide)) (A1 0 (pv 0)) A6) A7) rfl)))) (Pm (Ai (Aa A9.toXCall (Ie T) (hr.mono (by decide)) rfl (A2 (Ac (AU hr 16 (by decide)) (A1 0 (pv 0)) A6) A7) rfl))))))))))),?_⟩
 intro d m hc
 have e0:AK ["thing","many"] [d,.int m]=[some (.val d),some (.val (.int m))]:=rfl
 rw[e0]
 have hx:=hc.x
 refine BB ?_
 cases d with
 |tup ds =>
  have b9:∀ e∈ds,Um e=false:=fun e he=>(hc.2 ds (.inl rfl) e he).x
  rcases ds with _|⟨a,_|⟨b,_|⟨l,_|⟨w,_|⟨z,r⟩⟩⟩⟩⟩
  ·rfl
  ·rfl
  ·rfl
  ·rfl
  ·have i0:B4 (.tup [a,b,l,w]) (.int 0)=.ok a:=rfl
   have i1:B4 (.tup [a,b,l,w]) (.int 1)=.ok b:=rfl
   have i2:B4 (.tup [a,b,l,w]) (.int 2)=.ok l:=rfl
   have i3:B4 (.tup [a,b,l,w]) (.int 3)=.ok w:=rfl
   have ha:=AM a m (b9 a (by simp))
   have hb:=AM b m (b9 b (by simp))
   have hl:=Ig l (b9 l (by simp))
   have hw:=Ig w (b9 w (by simp))
   apply wp_step
   ·rfl
   unfold F2
   dsimp only
   cases qa:Kh a m with
   |false=>simp_arith[i0,ha,qa,F0];rfl
   |true =>
    cases qb:Kh b m with
    |false=>simp_arith[i0,i1,ha,hb,qa,qb,F0];rfl
    |true =>
     apply wp_step
     ·simp_arith[i0,i1,ha,hb,qa,qb,F0];rfl
     cases a with
     |int x =>
      cases b with
      |int y =>
       have he:Aw (.int x) (.int y)=decide (x=y):=by rw[Aw];by_cases h:x=y<;>simp[h]
       rw[he]
       by_cases bQ:x=y
       ·simp_arith[i0,i1,decide_eq_true bQ];rfl
       ·apply wp_step
        ·simp_arith[i0,i1,decide_eq_false bQ];rfl
        rw[decide_eq_false bQ]
        simp_arith[i2,i3,hl,hw]
        cases C5 l<;>cases Kh l L4<;>cases Kh w L4<;>rfl
      |_=>cases qb
     |_=>cases qa
  ·have ae:¬ (((a::b::l::w::z::r).length:Nat):Int)=4:=by simp only[zo];omega
   simp_arith[decide_eq_false ae]
   rfl
 |DK x=>cases hx
 |ins x n d=>cases hx
 |_=>rfl
noncomputable def S6:List D->M OT:=zi IP
theorem TV:Txt K mg->BY P w K mg base "is_road" 3 2 S6:=(zb IP).1
theorem TX:∀(d:D) (m:Int),cl 1 d->S6 [d,.int m]=.ok (.sh (.bl (F2 m d))):=(zb IP).2
theorem KL:∃ F:List D->M OT,(∀ {P:Program}{w:World}{K:za}{mg:Str->Option Value}{base:Heap},Txt K mg->BY P w K mg base "is_map" 4 1 F)/\(∀ d:D,cl 3 d->F [d]=.ok (.sh (.bl (Dw d)))):=by
 refine⟨_,fun T=>AE (k:=3) T.Z0 KH _ (fun f B2 A outer s H E hr=>(A4 (Be (DW.dt (Fd (CJ (Ck (c:=true) (Fy (Mr _) rfl T.Bd rfl T.Qk (by decide +kernel) (A1 0 (pv 0))))) (Ec (KW (c:=true) (AU hr 16 (by decide)) (EY rfl T.Ic (A1 0 (pv 0))) A6)))) (A5 (Ao (B9 Dv))) AD) (A4 (AQ 1 KH.nd rfl (Or.inr rfl) (Ac (AU hr 16 (by decide)) (A1 0 (pv 0)) A6)) (A4 (AQ 2 KH.nd rfl (zY rfl) (Ac (AU hr 16 (by decide)) (A1 0 (pv 0)) A6)) (A4 (Be (DW.dt (Fd (CJ (Ck (c:=true) (Ai (Aa A9.toXCall (AW T) (hr.mono (by decide)) rfl (A2 (A1 1 (pv 1)) (A2 A6 A7)) rfl)))) (Ec (J7 (c:=true) (AU hr 16 (by decide)) (A1 1 (pv 1)) A6)))) (A5 (Ao (B9 Dv))) AD) (A4 (Be (DW.dt (Fd (CJ (Ck (c:=true) (Fy (Ko _) rfl T.Bd rfl T.F5 (by decide +kernel) (A1 2 (pv 2))))) (Ec (Ul (c:=true) (EY rfl T.Ic (A1 2 (pv 2))) A6)))) (A5 (Ao (B9 Dv))) AD) (A5 (Ao (B9 (Tc rfl rfl T.Z2 (Ai (Cs (NB:=["road","many"]) [none,some 1] rfl (AZ (A1 2 (pv 2))) rfl rfl (BO 0 (by decide) rfl rfl rfl) (fun _ _ _ _=>EE) (fun _ _ _ _=>(Ai (BV (Aa (Bh rfl).toXCall (TV T) (hr.mono (by decide)) rfl (A2 (A1 0 (pv 0)) (A2 (A1 1 (pv 1)) A7)) rfl)))))))))))))))),?_⟩
 intro d hc
 have e0:AK ["thing","many","roads"] [d]=[some (.val d),none,none]:=rfl
 rw[e0]
 have hx:=hc.x
 refine BB ?_
 cases d with
 |tup ds =>
  have b9:∀ e∈ds,cl 2 e:=fun e he=>hc.2 ds (.inl rfl) e he
  rcases ds with _|⟨n,_|⟨r,_|⟨z,t⟩⟩⟩
  ·rfl
  ·rw[Wf];rfl
  ·have i0:B4 (.tup [n,r]) (.int 0)=.ok n:=rfl
   have i1:B4 (.tup [n,r]) (.int 1)=.ok r:=rfl
   have hn:=AM n 17 (b9 n (by simp)).x
   have hr:=b9 r (by simp)
   have ig:=hr.x
   apply wp_step
   ·rfl
   apply wp_step
   ·simp_arith[i0];rfl
   apply wp_step
   ·simp_arith[i1];rfl
   cases qn:Kh n 17 with
   |false =>
    have e1:Dw (.tup [n,r])=false:=by
     cases n with
     |int m=>cases r with
      |lst rs=>unfold Dw;dsimp only;rw[qn];rfl
      |_=>rfl
     |_=>rfl
    rw[e1]
    simp_arith[hn,qn,F0]
    rfl
   |true =>
    cases n with
    |int m =>
     by_cases hm:m=0
     ·have e1:Dw (.tup [.int m,r])=false:=by
       cases r with
       |lst rs=>unfold Dw;dsimp only;rw[decide_eq_true hm];simp
       |_=>rfl
      rw[e1]
      simp_arith[hn,qn,F0,decide_eq_true hm]
      rfl
     ·apply wp_step
      ·simp_arith[hn,qn,F0,decide_eq_false hm];rfl
      cases r with
      |lst rs =>
       by_cases hl:rs.length<=60
       ·have bY:¬ (60:Int) < (rs.length:Int):=by omega
        have bf:rs.length<=1000:=by omega
        apply wp_step
        ·simp_arith[decide_eq_false bY];rfl
        simp_arith[if_pos bf]
        rw[Ol (fun d=>.bl (F2 m d)) rs]
        ·have e2:(rs.map fun d=>D.bl (F2 m d))=(rs.map (F2 m)).map D.bl:=by rw[yF];rfl
         rw[e2]
         unfold Dw
         dsimp only
         rw[qn,decide_eq_true hl,decide_eq_false hm]
         simp_arith[Bool.true_and]
         rfl
        ·intro d hd
         have:=TX d m (hr.2 rs (.inr rfl) d hd)
         exact⟨_,rfl,rfl,by simp_arith[this]⟩
       ·have bY:(60:Int) < (rs.length:Int):=by omega
        unfold Dw
        dsimp only
        rw[decide_eq_false hl]
        simp_arith[decide_eq_true bY,Bool.false_and,Bool.and_false]
        rfl
      |DK x=>cases ig
      |ins x n d=>cases ig
      |_=>rfl
    |_=>cases qn
  ·have ae:¬ (((n::r::z::t).length:Nat):Int)=2:=by simp only[zo];omega
   rw[Tq]
   simp_arith[decide_eq_false ae]
   rfl
 |DK x=>cases hx
 |ins x n d=>cases hx
 |_=>rfl
noncomputable def Ve:List D->M OT:=zi KL
theorem Wy:Txt K mg->BY P w K mg base "is_map" 4 1 Ve:=(zb KL).1
theorem OQ:∀ d:D,cl 3 d->Ve [d]=.ok (.sh (.bl (Dw d))):=(zb KL).2
theorem IQ:∃ F:List D->M OT,(∀ {P:Program}{w:World}{K:za}{mg:Str->Option Value}{base:Heap},Txt K mg->BY P w K mg base "checked" 5 1 F)/\((∀(m:Nat) (rs:List Road),Dw (As m rs)=true->rs.length<=60->F [As m rs]=.ok (.tup [.sh (.int m),.lst ((rs.map BI).map .sh)]))/\(∀ d:D,cl 3 d->Dw d=false->F [d]=.ex "NoMap")):=by
 refine⟨_,fun T=>AE (k:=4) T.Wt TJ _ (fun f B2 A outer s H E hr=>(A4 (Be (CJ (Ck (c:=true) (Ai (Aa A9.toXCall (Wy T) (hr.mono (by decide)) rfl (A2 (A1 0 (pv 0)) A7) rfl)))) (A5 (Ks (c:=true) T.gJ A9 rfl rfl SS)) AD) (A5 (Ao (lD (Rj (B9 (Ac (AU hr 16 (by decide)) (A1 0 (pv 0)) A6)) (Rj (Cs (NB:=["road"]) [none] rfl (AZ (Ac (AU hr 16 (by decide)) (A1 0 (pv 0)) A6)) rfl rfl (BO 0 (by decide) rfl rfl rfl) (fun _ _ _ _=>EE) (fun _ _ _ _=>(Xv rfl T.Qk (A1 0 (pv 0))))) Dz))))))),?_⟩
 refine⟨fun m rs hm hl=>?_,fun d hc ho=>?_⟩
 ·have e0:AK ["thing"] [As m rs]=[some (.val (As m rs))]:=rfl
  rw[e0]
  have h1:=OQ (As m rs) (Yl (HI MX (HI (lO lR) Ym)))
  rw[hm] at h1
  have n0:B4 (As m rs) (.int 0)=.ok (.int m):=rfl
  have n1:B4 (As m rs) (.int 1)=.ok (.lst (rs.map BI)):=rfl
  have bf:(rs.map BI).length<=1000:=by rw[zc];omega
  refine BB ?_
  apply wp_step
  ·simp_arith[h1,F0];rfl
  simp_arith[n0,n1,if_pos bf]
  rw[D7 BI (fun r hr=>⟨_,rfl,rfl,rfl⟩)]
  simp_arith[]
  exact⟨_,rfl,rfl⟩
 ·have e0:AK ["thing"] [d]=[some (.val d)]:=rfl
  rw[e0]
  have h1:=OQ d hc
  rw[ho] at h1
  simp_arith[h1,F0]
  rfl
noncomputable def Ng:List D->M OT:=zi IQ
theorem TY:Txt K mg->BY P w K mg base "checked" 5 1 Ng:=(zb IQ).1
theorem TZ:(∀(m:Nat) (rs:List Road),Dw (As m rs)=true->rs.length<=60->Ng [As m rs]=.ok (.tup [.sh (.int m),.lst ((rs.map BI).map .sh)]))/\(∀ d:D,cl 3 d->Dw d=false->Ng [d]=.ex "NoMap"):=(zb IQ).2
theorem Nh:∃ F:List D->M OT,(∀ {P:Program}{w:World}{K:za}{mg:Str->Option Value}{base:Heap},Txt K mg->BY P w K mg base "added" 1 2 F)/\(∀ a b:Co,F [cst a,cst b]=.ok (.sh (cst (Aj a b)))):=by
 refine⟨_,fun T=>AE (k:=0) T.gE YY _ (fun f B2 A outer s H E hr=>(A4 (Be (DW.dt (Fd (Gw (c:=true) (A1 0 (pv 0))) (Ec (Gw (c:=true) (A1 1 (pv 1)))))) (A5 (Ao (B9 Dq))) AD) (A5 (Ao (B9 (AL (A2 (BM (Ac (AU hr 16 (by decide)) (A1 0 (pv 0)) A6) (Ac (AU hr 16 (by decide)) (A1 1 (pv 1)) A6)) (A2 (BM (Ac (AU hr 16 (by decide)) (A1 0 (pv 0)) A6) (Ac (AU hr 16 (by decide)) (A1 1 (pv 1)) A6)) A7)))))))),?_⟩
 intro a b
 rcases a with _|⟨a1,a2⟩<;>rcases b with _|⟨b1,b2⟩<;>rfl
noncomputable def Z8:List D->M OT:=zi Nh
theorem GR:Txt K mg->BY P w K mg base "added" 1 2 Z8:=(zb Nh).1
theorem GS:∀ a b:Co,Z8 [cst a,cst b]=.ok (.sh (cst (Aj a b))):=(zb Nh).2
theorem Ni:∃ F:List D->M OT,(∀ {P:Program}{w:World}{K:za}{mg:Str->Option Value}{base:Heap},Txt K mg->BY P w K mg base "least" 1 1 F)/\(∀ cs:List Co,cs.length<=1000->F [.lst (cs.map cst)]=.ok (.sh (cst (FC cs)))):=by
 refine⟨_,fun T=>AE (k:=0) T.gF YZ _ (fun f B2 A outer s H E hr=>(A5 (Ao (B9 (Us rfl (AU hr 1 (by decide)) rfl T.Z6 (Ai (Cs (NB:=["cost"]) [none] rfl (AZ (A1 0 (pv 0))) rfl rfl (BO 0 (by decide) rfl rfl rfl) (fun _ _ _ _=>Fz (J8 (c:=true) (A1 0 (pv 0)))) (fun _ _ _ _=>(A1 0 (pv 0))))) Dq))))),?_⟩
 intro cs hc
 have e0:∀ x:D,AK ["some"] [x]=[some (.val x)]:=fun x=>rfl
 rw[e0]
 refine BB ?_
 have hl:(cs.map cst).length<=1000:=by rw[zc];exact hc
 have xf:=R9 cs
 have ql:=UA cs
 simp_arith[if_pos hl]
 rw[GA]
 simp_arith[ql]
 rfl
noncomputable def Ql:List D->M OT:=zi Ni
theorem Nj:Txt K mg->BY P w K mg base "least" 1 1 Ql:=(zb Ni).1
theorem Nk:∀ cs:List Co,cs.length<=1000->Ql [.lst (cs.map cst)]=.ok (.sh (cst (FC cs))):=(zb Ni).2
theorem FN:∃ F:List D->M OT,(∀ {P:Program}{w:World}{K:za}{mg:Str->Option Value}{base:Heap},Txt K mg->BY P w K mg base "road_cost" 1 1 F)/\(∀ r:Road,F [BI r]=.ok (.sh (cst (C8 r)))):=by
 refine⟨_,fun T=>AE (k:=0) T.RV Qa _ (fun f B2 A outer s H E hr=>(A4 (Be (Gw (c:=true) (Ac (AU hr 16 (by decide)) (A1 0 (pv 0)) A6)) (A5 (Ao (B9 Dq))) AD) (A5 (Ao (B9 (AL (A2 (Ac (AU hr 16 (by decide)) (A1 0 (pv 0)) A6) (A2 A6 A7)))))))),?_⟩
 intro r
 obtain⟨a,b,l,w⟩:=r
 cases l<;>rfl
noncomputable def Nl:List D->M OT:=zi FN
theorem FO:Txt K mg->BY P w K mg base "road_cost" 1 1 Nl:=(zb FN).1
theorem FQ:∀ r:Road,Nl [BI r]=.ok (.sh (cst (C8 r))):=(zb FN).2
theorem BX:∃ F:List D->M OT,(∀ {P:Program}{w:World}{K:za}{mg:Str->Option Value}{base:Heap},Txt K mg->II P w K mg base "Ladder" "checked_arc" 2 3 F)/\(∀(m:Nat) (rs:List Road) (L:List Int) (A:LA) (K:List (Int×Int)) (u w:Int),0<=u->u < m->0<=w->w < m->(AF A (u,w)).isSome=true->F [B0 m rs L A K,.int u,.int w]=.ok (.sh (pD (u,w)))):=by
 refine⟨_,fun T=>LW (k:=1) T.GP CZ _ (fun f B2 A outer s H E hr=>(A4 (AQ 3 CZ.nd rfl (zY rfl) (Ac (AU hr 16 (by decide)) (F3 ["Ladder"] (Bp T.BH C1) (A1 0 (pv 0))) A6)) (A4 (Be (DW.dt (Fd (CJ (Ck (c:=true) (Ai (Aa A9.toXCall (AW T) (hr.mono (by decide)) rfl (A2 (A1 1 (pv 1)) (A2 (A1 3 (pv 3)) A7)) rfl)))) (Fd (CJ (Ck (c:=true) (Ai (Aa A9.toXCall (AW T) (hr.mono (by decide)) rfl (A2 (A1 2 (pv 2)) (A2 (A1 3 (pv 3)) A7)) rfl)))) (Ec (LC (c:=true) (AU hr 16 (by decide)) (AL (A2 (A1 1 (pv 1)) (A2 (A1 2 (pv 2)) A7))) (F3 ["Ladder"] (Bp T.Di C1) (A1 0 (pv 0)))))))) (A5 (Ks (c:=true) T.gI A9 rfl rfl SS)) AD) (A5 (Ao (B9 (AL (A2 (A1 1 (pv 1)) (A2 (A1 2 (pv 2)) A7))))))))),?_⟩
 intro m rs L A K u w u0 u1 w0 w1 hf
 have e0:AK ["self","u","w","many"] [B0 m rs L A K,.int u,.int w]=[some (.val (B0 m rs L A K)),some (.val (.int u)),some (.val (.int w)),none]:=rfl
 rw[e0]
 refine BB ?_
 have f1:NL ["Ladder"] "own_map" (B0 m rs L A K)=.ok (As m rs):=rfl
 have f2:NL ["Ladder"] "laid" (B0 m rs L A K)=.ok (L5 A):=rfl
 have n0:B4 (As m rs) (.int 0)=.ok (.int m):=rfl
 have h1:=AM (.int u) m rfl
 have h2:=AM (.int w) m rfl
 have g1:Kh (.int u) m=true:=by simp[Kh,u0,u1]
 have g2:Kh (.int w) m=true:=by simp[Kh,w0,w1]
 rw[g1] at h1
 rw[g2] at h2
 have hp:D.tup [.int u,.int w]=pD (u,w):=rfl
 have hm:=Q4 A (u,w) true
 rw[hf] at hm
 apply wp_step
 ·simp_arith[f1,n0];rfl
 apply wp_step
 ·simp_arith[h1,h2,f2,hp,hm,F0];rfl
 rfl
noncomputable def Bb:List D->M OT:=zi BX
theorem Gg:Txt K mg->II P w K mg base "Ladder" "checked_arc" 2 3 Bb:=(zb BX).1
theorem Gh:∀(m:Nat) (rs:List Road) (L:List Int) (A:LA) (K:List (Int×Int)) (u w:Int),0<=u->u < m->0<=w->w < m->(AF A (u,w)).isSome=true->Bb [B0 m rs L A K,.int u,.int w]=.ok (.sh (pD (u,w))):=(zb BX).2
theorem En:∃ F:List D->M OT,(∀ {P:Program}{w:World}{K:za}{mg:Str->Option Value}{base:Heap},Txt K mg->II P w K mg base "Ladder" "cost" 3 3 F)/\(∀(m:Nat) (rs:List Road) (L:List Int) (A:LA) (K:List (Int×Int)) (u w:Int) (c:Int×Int),Fp m A->Al A (u,w)=some c->F [B0 m rs L A K,.int u,.int w]=.ok (.sh (cst (some c)))):=by
 refine⟨_,fun T=>LW (k:=2) T.NR N9 _ (fun f B2 A outer s H E hr=>(A5 (Ao (B9 (Ac (AU hr 16 (by decide)) (Ac (AU hr 16 (by decide)) (F3 ["Ladder"] (Bp T.Di C1) (A1 0 (pv 0))) (Ai (PQ (k:=2) [("Ladder",Bb)] A9.toXCall (Ek (by decide) (Gg T) FF) (hr.mono (by decide)) (A1 0 (pv 0)) (A2 (A1 1 (pv 1)) (A2 (A1 2 (pv 2)) A7)) rfl))) A6))))),?_⟩
 intro m rs L A K u w c hA hc
 have e0:AK ["self","u","w"] [B0 m rs L A K,.int u,.int w]=[some (.val (B0 m rs L A K)),some (.val (.int u)),some (.val (.int w))]:=rfl
 rw[e0]
 refine BB ?_
 have f2:NL ["Ladder"] "laid" (B0 m rs L A K)=.ok (L5 A):=rfl
 have hk:=hA.rg _ (Fn hc)
 obtain⟨v,hv⟩:∃ v,AF A (u,w)=some (c,v):=by
  unfold Al at hc
  cases q:AF A (u,w) with
  |none=>rw[q] at hc;cases hc
  |some z=>rw[q] at hc;obtain⟨z1,z2⟩:=z;cases hc;exact⟨z2,rfl⟩
 have h1:=Gh m rs L A K u w hk.2.1.1 hk.2.1.2 hk.2.2.1 hk.2.2.2 (by rw[hv];rfl)
 have hi:=Q5 hv
 have h0:B4 (Wm (c,v)) (.int 0)=.ok (cst (some c)):=rfl
 have hs:IJ [("Ladder",Bb)] "checked_arc" (B0 m rs L A K)=.ok Bb:=rfl
 simp_arith[f2,hs,h1,hi,h0]
 rfl
noncomputable def Bs:List D->M OT:=zi En
theorem GU:Txt K mg->II P w K mg base "Ladder" "cost" 3 3 Bs:=(zb En).1
theorem GV:∀(m:Nat) (rs:List Road) (L:List Int) (A:LA) (K:List (Int×Int)) (u w:Int) (c:Int×Int),Fp m A->Al A (u,w)=some c->Bs [B0 m rs L A K,.int u,.int w]=.ok (.sh (cst (some c))):=(zb En).2
theorem Eo:∃ F:List D->M OT,(∀ {P:Program}{w:World}{K:za}{mg:Str->Option Value}{base:Heap},Txt K mg->II P w K mg base "Ladder" "kept" 1 1 F)/\(∀(m:Nat) (rs:List Road) (L:List Int) (A:LA) (K:List (Int×Int)),F [B0 m rs L A K]=.ok (.lst ((K.map pD).map .sh))):=by
 refine⟨_,fun T=>LW (k:=0) T.NS Na _ (fun f B2 A outer s H E hr=>(A5 (Ao (Jm rfl T.F5 (F3 ["Ladder"] (Bp T.Em C1) (A1 0 (pv 0))))))),?_⟩
 intro m rs L A K
 rfl
noncomputable def Bt:List D->M OT:=zi Eo
theorem GW:Txt K mg->II P w K mg base "Ladder" "kept" 1 1 Bt:=(zb Eo).1
theorem GX:∀(m:Nat) (rs:List Road) (L:List Int) (A:LA) (K:List (Int×Int)),Bt [B0 m rs L A K]=.ok (.lst ((K.map pD).map .sh)):=(zb Eo).2
theorem F7:∃ F:List D->M OT,(∀ {P:Program}{w:World}{K:za}{mg:Str->Option Value}{base:Heap},Txt K mg->BY P w K mg base "kept_costs" 4 1 F)/\(∀(m:Nat) (rs:List Road) (L:List Int) (A:LA) (K:List (Int×Int)),C9 m rs L A K->F [B0 m rs L A K]=.ok (nE (Ib A K))):=by
 refine⟨_,fun T=>AE (k:=3) T.Qh NP _ (fun f B2 A outer s H E hr=>(A5 (Ao (RK rfl (AU hr 16 (by decide)) rfl T.Z4 (Ai (Cs (NB:=["u","w","ladder"]) [none,none,some 0] rfl (AZ (Ai (K3 (k:=1) [("Ladder",Bt)] A9.toXCall (Ek (by decide) (GW T) FF) (hr.mono (by decide)) (A1 0 (pv 0))))) rfl rfl (PH (n:=2) rfl (DY 0 (by decide) rfl rfl rfl (DY 1 (by decide) rfl rfl rfl MQ))) (fun _ _ _ _=>EE) (fun _ _ _ _=>(AL (A2 (AL (A2 (A1 0 (pv 0)) (A2 (A1 1 (pv 1)) A7))) (A2 (Ai (BV (PQ (k:=3) [("Ladder",Bs)] (Bh rfl).toXCall (Ek (by decide) (GU T) FF) (hr.mono (by decide)) (A1 2 (pv 2)) (A2 (A1 0 (pv 0)) (A2 (A1 1 (pv 1)) A7)) rfl))) A7)))))))))),?_⟩
 intro m rs L A K ok
 have e0:AK ["ladder"] [B0 m rs L A K]=[some (.val (B0 m rs L A K))]:=rfl
 rw[e0]
 refine BB ?_
 have hs:IJ [("Ladder",Bt)] "kept" (B0 m rs L A K)=.ok Bt:=rfl
 have bi:IJ [("Ladder",Bs)] "cost" (B0 m rs L A K)=.ok Bs:=rfl
 have hk:=GX m rs L A K
 have hl:(K.map pD).length<=1000:=by rw[zc];have:=ok.kl;omega
 have hn:((Ib A K).map zO).Nodup:=by rw[N5];exact ok.kn
 have hd:=YQ (C:=Ib A K) hn (by simp only[Ib,zc];have:=ok.kl;omega)
 simp_arith[hs,hk,if_pos hl]
 rw[D7 (fun p=>D.tup [pD p,cst (some ((Al A p).getD (0,0)))]) (fun p hp=>⟨_,rfl,rfl,by
  obtain⟨c,hc,_⟩:=(ok.km p).mp hp
  have h1:=GV m rs L A K p.1 p.2 c ok.tO hc
  simp_arith[bi,h1]
  rw[hc]
  rfl⟩)]
 have e1:(K.map fun p=>D.tup [pD p,cst (some ((Al A p).getD (0,0)))])=(Ib A K).map fun kv=>D.tup [pD kv.1,cst (some kv.2)]:=by
  simp only[RO,Ib,yF];rfl
 rw[e1]
 simp_arith[hd]
 exact⟨_,rfl,rfl⟩
noncomputable def L8:List D->M OT:=zi F7
theorem NU:Txt K mg->BY P w K mg base "kept_costs" 4 1 L8:=(zb F7).1
theorem NV:∀(m:Nat) (rs:List Road) (L:List Int) (A:LA) (K:List (Int×Int)),C9 m rs L A K->L8 [B0 m rs L A K]=.ok (nE (Ib A K)):=(zb F7).2
theorem Ca:∃ F:List D->M OT,(∀ {P:Program}{w:World}{K:za}{mg:Str->Option Value}{base:Heap},Txt K mg->BY P w K mg base "kept_costs_turned" 4 1 F)/\(∀(m:Nat) (rs:List Road) (L:List Int) (A:LA) (K:List (Int×Int)),C9 m rs L A K->F [B0 m rs L A K]=.ok (nE (RO (Ib A K)))):=by
 refine⟨_,fun T=>AE (k:=3) T.HW GO _ (fun f B2 A outer s H E hr=>(A5 (Ao (RK rfl (AU hr 16 (by decide)) rfl T.Z4 (Ai (Cs (NB:=["u","w","ladder"]) [none,none,some 0] rfl (AZ (Ai (K3 (k:=1) [("Ladder",Bt)] A9.toXCall (Ek (by decide) (GW T) FF) (hr.mono (by decide)) (A1 0 (pv 0))))) rfl rfl (PH (n:=2) rfl (DY 0 (by decide) rfl rfl rfl (DY 1 (by decide) rfl rfl rfl MQ))) (fun _ _ _ _=>EE) (fun _ _ _ _=>(AL (A2 (AL (A2 (A1 1 (pv 1)) (A2 (A1 0 (pv 0)) A7))) (A2 (Ai (BV (PQ (k:=3) [("Ladder",Bs)] (Bh rfl).toXCall (Ek (by decide) (GU T) FF) (hr.mono (by decide)) (A1 2 (pv 2)) (A2 (A1 0 (pv 0)) (A2 (A1 1 (pv 1)) A7)) rfl))) A7)))))))))),?_⟩
 intro m rs L A K ok
 have e0:AK ["ladder"] [B0 m rs L A K]=[some (.val (B0 m rs L A K))]:=rfl
 rw[e0]
 refine BB ?_
 have hs:IJ [("Ladder",Bt)] "kept" (B0 m rs L A K)=.ok Bt:=rfl
 have bi:IJ [("Ladder",Bs)] "cost" (B0 m rs L A K)=.ok Bs:=rfl
 have hk:=GX m rs L A K
 have hl:(K.map pD).length<=1000:=by rw[zc];have:=ok.kl;omega
 have hn:((Ib A K).map zO).Nodup:=by rw[N5];exact ok.kn
 have hd:=YQ (C:=RO (Ib A K)) (Wq hn) (by unfold RO;simp only[Ib,zc];have:=ok.kl;omega)
 simp_arith[hs,hk,if_pos hl]
 rw[D7 (fun p=>D.tup [pD (p.2,p.1),cst (some ((Al A p).getD (0,0)))]) (fun p hp=>⟨_,rfl,rfl,by
  obtain⟨c,hc,_⟩:=(ok.km p).mp hp
  have h1:=GV m rs L A K p.1 p.2 c ok.tO hc
  simp_arith[bi,h1]
  rw[hc]
  rfl⟩)]
 have e1:(K.map fun p=>D.tup [pD (p.2,p.1),cst (some ((Al A p).getD (0,0)))])=(RO (Ib A K)).map fun kv=>D.tup [pD kv.1,cst (some kv.2)]:=by
  simp only[RO,Ib,yF];rfl
 rw[e1]
 simp_arith[hd]
 exact⟨_,rfl,rfl⟩
noncomputable def Ep:List D->M OT:=zi Ca
theorem GY:Txt K mg->BY P w K mg base "kept_costs_turned" 4 1 Ep:=(zb Ca).1
theorem GZ:∀(m:Nat) (rs:List Road) (L:List Int) (A:LA) (K:List (Int×Int)),C9 m rs L A K->Ep [B0 m rs L A K]=.ok (nE (RO (Ib A K))):=(zb Ca).2
theorem IR:∃ F:List D->M OT,(∀ {P:Program}{w:World}{K:za}{mg:Str->Option Value}{base:Heap},Txt K mg->BY P w K mg base "climbed" 2 3 F)/\(∀(m:Nat) (L:List Int) (C:CA) (s:Int),m<=20->L.Perm (AV m)->s∈L->(∀ p c,AF C p=some c->p.1∈L/\p.2∈L)->∃ R:RA,F [.lst (L.map D.int),LY C,.int s]=.ok (Zf R)/\QC L C s L.length R):=by
 refine⟨_,fun T=>AE (k:=1) T.Wu D8 _ (fun f B2 A outer s H E hr=>(A4 (BD 3 D8.nd rfl (zY rfl) (Yy (A1 2 (pv 2)) (AL (A2 A6 (A2 A6 A7))))) (A4 (Bw A9.toXCall.own rfl (Po rfl T.GQ (A1 0 (pv 0))) (Xx (n:=2) rfl (Ja (AS 4 D8.nd rfl (zY rfl)) (Ja (AS 5 D8.nd rfl (zY rfl)) Up))) (A5 (Be (IA (ML (c:=true) (AU hr 16 (by decide)) (A1 5 (pv 5)) (A1 3 (pv 3)))) (A5 (Bw A9.toXCall.own rfl (AZ (Ai (MO (A1 0 (pv 0)) (Lu (BM (A1 4 (pv 4)) A6)) Uo))) (AS 6 D8.nd rfl (zY rfl)) (A5 (Be (ML (c:=true) (AU hr 16 (by decide)) (AL (A2 (A1 5 (pv 5)) (A2 (A1 6 (pv 6)) A7))) (A1 1 (pv 1))) (A4 (AQ 7 D8.nd rfl (zY rfl) (Ai (Eg (Aa A9.toXCall (GR T) (hr.mono (by decide)) rfl (A2 (Ac (AU hr 16 (by decide)) (A1 3 (pv 3)) (A1 5 (pv 5))) (A2 (Ac (AU hr 16 (by decide)) (A1 1 (pv 1)) (AL (A2 (A1 5 (pv 5)) (A2 (A1 6 (pv 6)) A7)))) A7)) rfl)))) (A5 (LF (AU hr 16 (by decide)) (BZ 3 (pv 3)) (A1 6 (pv 6)) (Ai (Eg (Aa A9.toXCall (Nj T) (hr.mono (by decide)) rfl (A2 (Gv (A2 (N1 (AU hr 16 (by decide)) (A1 3 (pv 3)) (A1 6 (pv 6))) (A2 (A1 7 (pv 7)) A7))) A7) rfl)))))) AD)))) AD))) (A5 (CL 3 (pv 3)))))),?_⟩
 intro m L C s hm hL hs hC
 have hn:=IH hL
 have hlen:=GJ hL
 have e0:AK ["order","costs","place","reached","rank","lower","higher","cost"] [.lst (L.map D.int),LY C,.int s]=[some (.val (.lst (L.map D.int))),some (.val (LY C)),some (.val (.int s)),none,none,none,none,none]:=rfl
 rw[e0]
 refine (fun h:∃ t,_/\∃ R:RA,t=Zf R/\QC L C s L.length R=>by
  obtain⟨t,h1,R,rfl,h2⟩:=h
  exact⟨R,h1,h2⟩) (L1 ?_)
 refine wp_step (ρ':=[some (.val (.lst (L.map D.int))),some (.val (LY C)),some (.val (.int s)),some (.ow (.tree none (Zf [(s,(0,0))]))),none,none,none,none]) (by rfl) ?_
 refine BW (I:=fun ρ=>∃(R:RA) (s4 s5 s6 s7:Option Cl),ρ=[some (.val (.lst (L.map D.int))),some (.val (LY C)),some (.val (.int s)),some (.ow (.tree none (Zf R))),s4,s5,s6,s7]/\QC L C s L.length R) ?_ ?_
 ·simp_arith[]
  refine Bx (fun i ρ=>i<=L.length/\∃(R:RA) (s4 s5 s6 s7:Option Cl),ρ=[some (.val (.lst (L.map D.int))),some (.val (LY C)),some (.val (.int s)),some (.ow (.tree none (Zf R))),s4,s5,s6,s7]/\QC L C s i R) ⟨zX _,_,none,none,none,none,rfl,QC.start hs⟩ ?_ ?_
  ·rintro i d ρ hd ⟨hi,R,s4,s5,s6,s7,rfl,hR⟩
   obtain⟨d',aJ,rfl⟩:=Hn hd
   obtain⟨x,hx,rfl⟩:=BQ aJ
   have aj:=(zy.mp hx).1
   rw[Nat.zero_add]
   refine⟨_,rfl,?_⟩
   have de:=mF R x false
   have ig:=Q7 hn hx
   cases q:AF R x with
   |none =>
    rw[q] at de
    refine Ba (ρ':=_) (by simp_arith[de];rfl) ⟨aj,R,_,_,_,_,rfl,hR.skip hx hn q⟩
   |some c0 =>
    rw[q] at de
    have sl:eJ (some ((i:Int) + 1)) none (.lst (L.map D.int))=.ok (.lst (((L.drop (i + 1)).map D.int).map .sh)):=by rw[List.map_drop];exact Rx _ (i + 1)
    simp_arith[de,sl,if_true,Option.isSome_some,zF,if_false]
    refine Bx (fun j ρ=>j<=(L.drop (i + 1)).length/\∃(R':RA) (s6 s7:Option Cl),ρ=[some (.val (.lst (L.map D.int))),some (.val (LY C)),some (.val (.int s)),some (.ow (.tree none (Zf R'))),some (.val (.int i)),some (.val (.int x)),s6,s7]/\iM L C s i x c0 ((L.drop (i + 1)).take j) R R') ⟨zX _,R,s6,s7,rfl,hR.nd,hR.rg,hR.sd,fun y=>C7 _,fun y _=>rfl,fun y hy=>by rw[List.take_zero] at hy;cases hy⟩ ?_ ?_
    ·rintro j d ρ hd ⟨hj,R',s6,s7,rfl,hI⟩
     obtain⟨y,hy,rfl⟩:=BQ hd
     have jv:=(zy.mp hy).1
     have vi:=zj hy
     have xg:y∈L:=List.mem_of_mem_drop vi
     have ii:i < DB L y:=V8 hn vi
     have et:(L.drop (i + 1)).take (j + 1)=(L.drop (i + 1)).take j++[y]:=by rw[yU,hy];rfl
     refine⟨_,rfl,?_⟩
     rw[et]
     have t1:∀ a b:Int,D.tup [.int a,.int b]=pD (a,b):=fun a b=>rfl
     have ls:=mC C (x,y) false
     cases q2:AF C (x,y) with
     |none =>
      rw[q2] at ls
      refine Ba (ρ':=_) (by simp_arith[t1,ls];rfl) ⟨jv,R',_,_,rfl,hI.skip q2⟩
     |some dd =>
      rw[q2] at ls
      have av:AF R' x=some c0:=by rw[hI.sm x (by omega)];exact q
      have i1:=mG av
      have i2:=mD q2
      have h1:=GS (some c0) (some dd)
      have g1:=YN R' y
      obtain⟨v,hv⟩:∃ v,Dy (AF R' y) (some (c0.1 + dd.1,c0.2 + dd.2))=some v:=by
       cases AF R' y with
       |none=>exact⟨_,rfl⟩
       |some z=>exact⟨_,rfl⟩
      have h2:Ql [.lst [cst (AF R' y),cst (some (c0.1 + dd.1,c0.2 + dd.2))]]=.ok (.sh (cst (Dy (AF R' y) (some (c0.1 + dd.1,c0.2 + dd.2))))):=Nk [AF R' y,some (c0.1 + dd.1,c0.2 + dd.2)] (by simp)
      rw[hv] at h2
      have aD:=hI.put xg ii ig q q2 hv
      have hl:(R'.map fun kv=>D.int kv.1).length < 1000:=by
       have:=Ky hI.nd hI.rg
       rw[zc] at this ⊢
       omega
      have ij:∀ z:Int,keyOk false (.int z)=true:=fun z=>rfl
      have ha:Aj (some c0) (some dd)=some (c0.1 + dd.1,c0.2 + dd.2):=rfl
      rw[ha] at h1
      simp_arith[t1,ls,if_true,Option.isSome_some,zF,if_false]
      apply wp_step
      ·simp_arith[t1,i1,i2,h1];rfl
      refine Ba (ρ':=[some (.val (.lst (L.map D.int))),some (.val (LY C)),some (.val (.int s)),some (.ow (.tree none (Zf (Dr R' y v)))),some (.val (.int i)),some (.val (.int x)),some (.val (.int y)),some (.val (cst (some (c0.1 + dd.1,c0.2 + dd.2))))]) (by
       simp_arith[g1,h2,ij,hl,and_self,if_true,mH]
       rfl) ⟨jv,_,_,_,rfl,aD⟩
    ·rintro ρ ⟨_,R',s6,s7,rfl,hI⟩
     rw[zc,yS] at hI
     exact⟨aj,R',_,_,s6,s7,rfl,hR.go (fun p c h=>(hC p c h).2) hx hn q hI⟩
  ·rintro ρ ⟨_,R,s4,s5,s6,s7,rfl,hR⟩
   rw[DQ,zc] at hR
   exact⟨R,s4,s5,s6,s7,rfl,hR⟩
 ·rintro ρ ⟨R,s4,s5,s6,s7,rfl,hR⟩
  exact⟨_,rfl,R,rfl,hR⟩
noncomputable def S7:List D->M OT:=zi IR
theorem U0:Txt K mg->BY P w K mg base "climbed" 2 3 S7:=(zb IR).1
theorem U1:∀(m:Nat) (L:List Int) (C:CA) (s:Int),m<=20->L.Perm (AV m)->s∈L->(∀ p c,AF C p=some c->p.1∈L/\p.2∈L)->∃ R:RA,S7 [.lst (L.map D.int),LY C,.int s]=.ok (Zf R)/\QC L C s L.length R:=(zb IR).2
theorem Nm:∃ F:List D->M OT,(∀ {P:Program}{w:World}{K:za}{mg:Str->Option Value}{base:Heap},Txt K mg->BY P w K mg base "swept" 3 3 F)/\(∀(m:Nat) (L:List Int) (C:CA) (s:Int),m<=20->L.Perm (AV m)->s∈L->(∀ p c,AF C p=some c->p.1∈L/\p.2∈L)->∃(R:RA) (T:List Co),F [.lst (L.map D.int),LY C,.int s]=.ok (.lst ((T.map cst).map .sh))/\QC L C s L.length R/\YU m L C s R L.reverse T):=by
 refine⟨_,fun T=>AE (k:=2) T.gH Fo _ (fun f B2 A outer s H E hr=>(A4 (AQ 3 Fo.nd rfl (zY rfl) (Ai (Aa A9.toXCall (U0 T) (hr.mono (by decide)) rfl (A2 (A1 0 (pv 0)) (A2 (A1 1 (pv 1)) (A2 (A1 2 (pv 2)) A7))) rfl))) (A4 (BD 4 Fo.nd rfl (Or.inr rfl) (To Dq (EY rfl T.Ic (A1 0 (pv 0))))) (A4 (BD 5 Fo.nd rfl (zY rfl) (GC Dz)) (A4 (Bw A9.toXCall.own rfl (lV rfl T.TU (A1 0 (pv 0))) (AS 6 Fo.nd rfl (Or.inr rfl)) (A4 (Y3 (NB:=["high","told","costs","lower"]) 7 [none,some 4,some 1,some 6] Fo.nd rfl (zY rfl) rfl (AZ (A1 5 (pv 5))) rfl rfl (BO 0 (by decide) rfl rfl rfl) (fun _ _ _ _=>EE) (fun _ _ _ _=>(Ai (BV (Aa (Bh rfl).toXCall (GR T) (hr.mono (by decide)) rfl (A2 (Ac (AU hr 16 (by decide)) (A1 1 (pv 1)) (A1 0 (pv 0))) (A2 (N1 (AU hr 16 (by decide)) (A1 2 (pv 2)) (AL (A2 (A1 0 (pv 0)) (A2 (A1 3 (pv 3)) A7)))) A7)) rfl))))) (A4 (Mv 4 (pv 4) (Ai (Eg (Aa A9.toXCall (Nj T) (hr.mono (by decide)) rfl (A2 (Ai (eK (Gv (A2 (N1 (AU hr 16 (by decide)) (A1 3 (pv 3)) (A1 6 (pv 6))) A7)) (A1 7 (pv 7)))) A7) rfl))) (A1 6 (pv 6))) (A5 (DM 5 (pv 5) (A1 6 (pv 6))))))) (A5 (CL 4 (pv 4)))))))),?_⟩
 intro m L C s hm hL hs hC
 have hn:=IH hL
 have hlen:=GJ hL
 obtain⟨R,hF,hR⟩:=U1 m L C s hm hL hs hC
 have e0:AK ["order","costs","place","reached","told","higher","lower","over"] [.lst (L.map D.int),LY C,.int s]=[some (.val (.lst (L.map D.int))),some (.val (LY C)),some (.val (.int s)),none,none,none,none,none]:=rfl
 rw[e0]
 refine (fun h:∃ t,_/\∃ T:List Co,t=.lst ((T.map cst).map .sh)/\YU m L C s R L.reverse T=>by
  obtain⟨t,h1,T,rfl,h2⟩:=h
  exact⟨R,T,h1,hR,h2⟩) (L1 ?_)
 have qm:((L.map D.int).length:Int)=(m:Int):=by rw[zc,hlen]
 have bA:=MU (d:=.AA) (n:=m) (by omega)
 have cH:zv m D.AA=(zv m (none:Co)).map cst:=by rw[List.map_replicate];rfl
 rw[cH] at bA
 apply wp_step
 ·simp_arith[hF];rfl
 try simp only[zt,zm]
 apply wp_step
 ·simp_arith[qm,bA];rfl
 try simp only[zt,zm]
 apply wp_step
 ·rfl
 try simp only[zt,zm]
 refine BW (I:=fun ρ=>∃(T:List Co) (s5 s6 s7:Option Cl),ρ=[some (.val (.lst (L.map D.int))),some (.val (LY C)),some (.val (.int s)),some (.val (YM R)),some (.own (T.map cst)),s5,s6,s7]/\YU m L C s R L.reverse T) ?_ ?_
 ·have qo:(L.map D.int).reverse=L.reverse.map D.int:=by rw[List.map_reverse]
  simp_arith[qo]
  refine Bx (fun i ρ=>i<=L.reverse.length/\∃(T:List Co) (s6 s7:Option Cl),ρ=[some (.val (.lst (L.map D.int))),some (.val (LY C)),some (.val (.int s)),some (.val (YM R)),some (.own (T.map cst)),some (.own ((L.reverse.take i).map D.int)),s6,s7]/\YU m L C s R (L.reverse.take i) T) ⟨zX _,_,none,none,rfl,YU.start⟩ ?_ ?_
  ·rintro i d ρ hd ⟨hi,T,s6,s7,rfl,hT⟩
   obtain⟨y,hy,rfl⟩:=BQ hd
   have aj:=(zy.mp hy).1
   have ii:=(B3 hL).mp (List.mem_reverse.mp (zj hy))
   have et:L.reverse.take (i + 1)=L.reverse.take i++[y]:=by rw[yU,hy];rfl
   rw[yW] at aj
   have xh:L[L.length - 1 - i]? =some y:=by rw[List.getElem?_reverse aj] at hy;exact hy
   have y4:=Q7 hn xh
   have qq:∀ x∈L.reverse.take i,(0<=x/\x < m)/\DB L y < DB L x:=fun x hx=>by
    have xi:=List.mem_reverse.mp (yL hx)
    refine⟨(B3 hL).mp xi,?_⟩
    rw[List.take_reverse,List.mem_reverse] at hx
    have:=V8 hn hx
    omega
   have qk:y∉L.reverse.take i:=fun hx=>by have:=(qq y hx).2;omega
   have vj:=hT.len
   refine⟨_,rfl,?_⟩
   have ju:((L.reverse.take i).map D.int).length<=1000:=by rw[zc,yT,yW];omega
   have t1:∀ a b:Int,D.tup [.int a,.int b]=pD (a,b):=fun a b=>rfl
   have g1:=YN R y
   obtain⟨vs,aI⟩:∃ vs:List Co,vs=(L.reverse.take i).map fun x=>Aj (atC T x) (AF C (x,y)):=⟨_,rfl⟩
   apply wp_step
   ·simp_arith[if_pos ju]
    rw[D7 (fun x=>cst (Aj (atC T x) (AF C (x,y)))) (fun x hx=>⟨_,rfl,rfl,by
     have vn:=(qq x hx).1
     have x1:B4 (.lst (T.map cst)) (.int x)=.ok (cst (atC T x)):=CK vn.1 (by rw[vj];exact vn.2)
     have g2:=mE C (x,y)
     have h1:=GS (atC T x) (AF C (x,y))
     simp_arith[t1,x1,g2,h1]⟩)]
    have ev:(L.reverse.take i).map (fun x=>cst (Aj (atC T x) (AF C (x,y))))=vs.map cst:=by rw[aI,yF];rfl
    rw[ev]
    have dv:=YT vs
    simp_arith[dv]
    rfl
   try simp only[zt,zm]
   have a4:Rk (.lst [cst (AF R y)]) (.lst (vs.map cst))=.ok (.lst (((AF R y::vs).map cst).map .sh)):=fD (by rw[aI,zc,zc,yT,yW,za3];omega)
   have h3:=Nk (AF R y::vs) (by rw[aI,zo,zc,yT,yW];omega)
   have aD:=K1 (i:=4) (ρ:=[some (.val (.lst (L.map D.int))),some (.val (LY C)),some (.val (.int s)),some (.val (YM R)),some (.own (T.map cst)),some (.own ((L.reverse.take i).map D.int)),some (.val (.int y)),some (.own (vs.map cst))]) (d:=cst (FC (AF R y::vs))) (p:=y) rfl ii.1 (by rw[zc,vj];exact ii.2)
   have br:(T.map cst).set y.toNat (cst (FC (AF R y::vs)))=(T.set y.toNat (FC (AF R y::vs))).map cst:=by rw[List.map_set]
   rw[br] at aD
   apply wp_step
   ·simp_arith[g1,a4,h3,aD];rfl
   try simp only[zt,zm]
   have xj:((L.reverse.take i).map D.int).length < 1000:=by rw[zc,yT,yW];omega
   refine Ba (ρ':=[some (.val (.lst (L.map D.int))),some (.val (LY C)),some (.val (.int s)),some (.val (YM R)),some (.own ((T.set y.toNat (FC (AF R y::vs))).map cst)),some (.own ((L.reverse.take (i + 1)).map D.int)),some (.val (.int y)),some (.own (vs.map cst))]) (by simp_arith[if_pos xj,et,zK,zg,zan]) ⟨by rw[yW];exact aj,_,_,_,rfl,?_⟩
   rw[et,aI]
   exact hT.step hR.sd ii.1 ii.2 qk qq
  ·rintro ρ ⟨_,T,s6,s7,rfl,hT⟩
   rw[zc,yS] at hT
   exact⟨T,_,s6,s7,rfl,hT⟩
 ·rintro ρ ⟨T,s5,s6,s7,rfl,hT⟩
  exact⟨_,rfl,T,rfl,hT⟩
noncomputable def Z9:List D->M OT:=zi Nm
theorem S8:Txt K mg->BY P w K mg base "swept" 3 3 Z9:=(zb Nm).1
theorem S9:∀(m:Nat) (L:List Int) (C:CA) (s:Int),m<=20->L.Perm (AV m)->s∈L->(∀ p c,AF C p=some c->p.1∈L/\p.2∈L)->∃(R:RA) (T:List Co),Z9 [.lst (L.map D.int),LY C,.int s]=.ok (.lst ((T.map cst).map .sh))/\QC L C s L.length R/\YU m L C s R L.reverse T:=(zb Nm).2
theorem F8:∃ F:List D->M OT,(∀ {P:Program}{w:World}{K:za}{mg:Str->Option Value}{base:Heap},Txt K mg->BY P w K mg base "costs_from" 2 2 F)/\(∀(m s:Nat) (rs:List Road),s < m->m<=900->(∀ r∈rs,Hq m r)->∃ cs:List Co,Right m s rs cs/\F [As m rs,.int s]=.ok (.lst ((cs.map cst).map .sh))):=by
 refine⟨_,fun T=>AE (k:=1) T.Qj By _ (fun f B2 A outer s H E hr=>(A4 (BD 2 By.nd rfl (zY rfl) (To Dq (Ac (AU hr 16 (by decide)) (A1 0 (pv 0)) A6))) (A4 (Mv 2 (pv 2) (AL (A2 A6 (A2 A6 A7))) (A1 1 (pv 1))) (A4 (AQ 3 By.nd rfl (zY rfl) Dv) (A4 (R8 A9.toXCall.own (Ck (c:=true) (A1 3 (pv 3))) (A4 (AQ 3 By.nd rfl (zY rfl) Dv) (A5 (Bw A9.toXCall.own rfl (AZ (Ac (AU hr 16 (by decide)) (A1 0 (pv 0)) A6)) (AS 4 By.nd rfl (zY rfl)) (A4 (AQ 5 By.nd rfl (zY rfl) (Ai (Eg (Aa A9.toXCall (Nj T) (hr.mono (by decide)) rfl (A2 (Gv (A2 (Ac (AU hr 16 (by decide)) (A1 2 (pv 2)) (Ac (AU hr 16 (by decide)) (A1 4 (pv 4)) A6)) (A2 (Ai (Aa A9.toXCall (GR T) (hr.mono (by decide)) rfl (A2 (Ac (AU hr 16 (by decide)) (A1 2 (pv 2)) (Ac (AU hr 16 (by decide)) (A1 4 (pv 4)) A6)) (A2 (Ai (Aa A9.toXCall (FO T) (hr.mono (by decide)) rfl (A2 (A1 4 (pv 4)) A7) rfl)) A7)) rfl)) A7))) A7) rfl)))) (A5 (Be (IA (KW (c:=true) (AU hr 16 (by decide)) (A1 5 (pv 5)) (Ac (AU hr 16 (by decide)) (A1 2 (pv 2)) (Ac (AU hr 16 (by decide)) (A1 4 (pv 4)) A6)))) (A4 (Mv 2 (pv 2) (A1 5 (pv 5)) (Ac (AU hr 16 (by decide)) (A1 4 (pv 4)) A6)) (A5 (AQ 3 By.nd rfl (zY rfl) Dv))) AD))))))) (A5 (CL 2 (pv 2)))))))),?_⟩
 intro m s rs hs hm Av
 have e0:AK ["net","start","costs","changed","road","cost"] [As m rs,.int s]=[some (.val (As m rs)),some (.val (.int s)),none,none,none,none]:=rfl
 rw[e0]
 refine (fun h:∃ t,_/\∃ cs:List Co,Right m s rs cs/\t=.lst ((cs.map cst).map .sh)=>by
  obtain⟨t,h1,cs,h2,rfl⟩:=h
  exact⟨cs,h2,h1⟩) (L1 ?_)
 have n0:B4 (As m rs) (.int 0)=.ok (.int m):=rfl
 have n1:B4 (As m rs) (.int 1)=.ok (.lst (rs.map BI)):=rfl
 have bA:=MU (d:=.AA) (n:=m) (by omega)
 have cH:zv m D.AA=(zv m (none:Co)).map cst:=by rw[List.map_replicate];rfl
 rw[cH] at bA
 apply wp_step
 ·simp_arith[n0,bA];rfl
 try simp only[zt,zm]
 have aD:=K1 (i:=2) (ρ:=[some (.val (As m rs)),some (.val (.int s)),some (.own ((zv m (none:Co)).map cst)),none,none,none]) (d:=.tup [.int 0,.int 0]) (p:=(s:Int)) rfl (by omega) (by rw[zc,zau];omega)
 have br:((zv m (none:Co)).map cst).set (s:Int).toNat (.tup [.int 0,.int 0])=((zv m none).set s (some (0,0))).map cst:=by rw[yN,List.map_set];rfl
 rw[br] at aD
 apply wp_step
 ·simp_arith[aD];rfl
 try simp only[zt,zm]
 apply wp_step
 ·rfl
 try simp only[zt,zm]
 refine BW (I:=fun ρ=>∃(cs:List Co) (s3 s4 s5:Option Cl),ρ=[some (.val (As m rs)),some (.val (.int s)),some (.own (cs.map cst)),s3,s4,s5]/\Right m s rs cs) ?_ ?_
 ·refine Rr (lt:=tQ) (fun z ρ=>∃(s4 s5:Option Cl),ρ=[some (.val (As m rs)),some (.val (.int s)),some (.own (z.1.map cst)),some (.val (.bl z.2)),s4,s5]/\Good m s rs z.1/\(z.2=false->Right m s rs z.1)) (mJ _) ⟨none,none,rfl,ME rs hs,fun e=>by cases e⟩ ?_
  rintro ⟨cs,b⟩ ρ ⟨s4,s5,rfl,g,hR⟩
  cases b with
  |false=>exact .inl ⟨rfl,cs,_,s4,s5,rfl,hR rfl⟩
  |true =>
   refine .inr ⟨rfl,?_⟩
   apply wp_step
   ·rfl
   try simp only[zt,zm]
   simp_arith[n1]
   refine Bx (fun i ρ=>∃(a6:List Co) (ch:Bool) (s4 s5:Option Cl),ρ=[some (.val (As m rs)),some (.val (.int s)),some (.own (a6.map cst)),some (.val (.bl ch)),s4,s5]/\Good m s rs a6/\(ch=true->NA ltN a6 cs)/\(ch=false->a6=cs/\∀ r∈rs.take i,Dy (atC cs r.b) (Aj (atC cs r.a) (C8 r))=atC cs r.b)) ⟨cs,false,s4,s5,rfl,g,(fun h=>by cases h),fun _=>⟨rfl,fun r hr=>by rw[List.take_zero] at hr;cases hr⟩⟩ ?_ ?_
   ·rintro i d ρ hd ⟨a6,ch,s4,s5,rfl,g1,h1,h2⟩
    obtain⟨r,hq,rfl⟩:=BQ hd
    have hr:=zj hq
    have ok:=Av r hr
    obtain⟨g2,_,g4,g5⟩:=VP g1 hr Av
    have cm:r.b < a6.length:=by rw[g1.len];exact ok.b1
    have xk:r.a < a6.length:=by rw[g1.len];exact ok.a1
    have r0:B4 (BI r) (.int 0)=.ok (.int r.a):=rfl
    have r1:B4 (BI r) (.int 1)=.ok (.int r.b):=rfl
    have x0:B4 (.lst (a6.map cst)) (.int r.a)=.ok (cst (atC a6 r.a)):=CK ok.a0 xk
    have x1:B4 (.lst (a6.map cst)) (.int r.b)=.ok (cst (atC a6 r.b)):=CK ok.b0 cm
    have xl:=FQ r
    have gl:=GS (atC a6 r.a) (C8 r)
    have hle:Ql [.lst [cst (atC a6 r.b),cst (Aj (atC a6 r.a) (C8 r))]]=.ok (.sh (cst (Dy (atC a6 r.b) (Aj (atC a6 r.a) (C8 r))))):=Nk [atC a6 r.b,Aj (atC a6 r.a) (C8 r)] (by simp)
    have ae:=dQ (Dy (atC a6 r.b) (Aj (atC a6 r.a) (C8 r))) (atC a6 r.b)
    refine⟨_,rfl,?_⟩
    apply wp_step
    ·simp_arith[r0,r1,x0,x1,xl,gl,hle];rfl
    try simp only[zt,zm]
    by_cases hc:Dy (atC a6 r.b) (Aj (atC a6 r.a) (C8 r))=atC a6 r.b
    ·rw[decide_eq_true hc] at ae
     refine Ba (ρ':=_) (by simp_arith[r1,x1,ae];rfl) ⟨a6,ch,_,_,rfl,g1,h1,fun hf=>?_⟩
     obtain⟨e1,e2⟩:=h2 hf
     subst e1
     refine⟨rfl,fun r' bq=>?_⟩
     rw[yU,hq] at bq
     rcases zx.mp bq with bq|bq
     ·exact e2 r' bq
     ·have:r'=r:=by simpa using bq
      rw[this];exact hc
    ·rw[decide_eq_false hc] at ae
     have aD:=K1 (i:=2) (ρ:=[some (.val (As m rs)),some (.val (.int s)),some (.own (a6.map cst)),some (.val (.bl ch)),some (.val (BI r)),some (.val (cst (Dy (atC a6 r.b) (Aj (atC a6 r.a) (C8 r)))))]) (d:=cst (Dy (atC a6 r.b) (Aj (atC a6 r.a) (C8 r)))) (p:=r.b) rfl ok.b0 (by rw[zc];exact cm)
     have br:(a6.map cst).set r.b.toNat (cst (Dy (atC a6 r.b) (Aj (atC a6 r.a) (C8 r))))=(D4 r a6).map cst:=by unfold D4;rw[List.map_set]
     rw[br] at aD
     simp_arith[r1,x1,ae,if_true]
     apply wp_step
     ·simp_arith[r1,aD];rfl
     refine Ba (ρ':=_) rfl ⟨D4 r a6,true,_,_,rfl,g2,fun _=>?_,fun hf=>by cases hf⟩
     cases ch with
     |false=>obtain⟨e1,_⟩:=h2 rfl;subst e1;exact g5 hc
     |true=>exact NA.trans ltN VN (g5 hc) (h1 rfl)
   ·rintro ρ' ⟨a6,ch,s4,s5,rfl,g1,h1,h2⟩
    cases ch with
    |true=>exact⟨(a6,true),⟨rfl,.inr ⟨rfl,h1 rfl⟩⟩,s4,s5,rfl,g1,fun e=>by cases e⟩
    |false =>
     obtain⟨e1,e2⟩:=h2 rfl
     subst e1
     rw[zc,yS] at e2
     exact⟨(a6,false),⟨rfl,.inl rfl⟩,s4,s5,rfl,g1,fun _=>right_of g1 e2⟩
 ·rintro ρ' ⟨cs,s3,s4,s5,rfl,hR⟩
  exact⟨_,rfl,cs,hR,rfl⟩
noncomputable def L9:List D->M OT:=zi F8
theorem NW:Txt K mg->BY P w K mg base "costs_from" 2 2 L9:=(zb F8).1
theorem F9:∀(m s:Nat) (rs:List Road),s < m->m<=900->(∀ r∈rs,Hq m r)->∃ cs:List Co,Right m s rs cs/\L9 [As m rs,.int s]=.ok (.lst ((cs.map cst).map .sh)):=(zb F8).2
theorem Ds:∃ F:List D->M OT,(∀ {P:Program}{w:World}{K:za}{mg:Str->Option Value}{base:Heap},Txt K mg->II P w K mg base "Ladder" "order" 1 1 F)/\(∀(m:Nat) (rs:List Road) (L:List Int) (A:LA) (K:List (Int×Int)),F [B0 m rs L A K]=.ok (.lst ((L.map D.int).map .sh))):=by
 refine⟨_,fun T=>LW (k:=0) T.Nf Ll _ (fun f B2 A outer s H E hr=>(A5 (Ao (Jm rfl T.F5 (F3 ["Ladder"] (Bp T.Cy C1) (A1 0 (pv 0))))))),?_⟩
 intro m rs L A K
 rfl
noncomputable def Bf:List D->M OT:=zi Ds
theorem G9:Txt K mg->II P w K mg base "Ladder" "order" 1 1 Bf:=(zb Ds).1
theorem Ga:∀(m:Nat) (rs:List Road) (L:List Int) (A:LA) (K:List (Int×Int)),Bf [B0 m rs L A K]=.ok (.lst ((L.map D.int).map .sh)):=(zb Ds).2
theorem FR:∃ F:List D->M OT,(∀ {P:Program}{w:World}{K:za}{mg:Str->Option Value}{base:Heap},Txt K mg->BY P w K mg base "costs_out" 5 2 F)/\(∀(m:Nat) (rs:List Road) (L:List Int) (A:LA) (K:List (Int×Int)) (s:Nat),C9 m rs L A K->s < m->∃ T:List Co,F [B0 m rs L A K,.int s]=.ok (.lst ((T.map cst).map .sh))/\T.length=m/\∀ w:Int,0<=w->w < m->BP rs s w (atC T w)):=by
 refine⟨_,fun T=>AE (k:=4) T.RW Qb _ (fun f B2 A outer s H E hr=>(A5 (Ao (Aa A9.toXCall (S8 T) (hr.mono (by decide)) rfl (A2 (Ai (K3 (k:=1) [("Ladder",Bf)] A9.toXCall (Ek (by decide) (G9 T) FF) (hr.mono (by decide)) (A1 0 (pv 0)))) (A2 (Ai (Aa A9.toXCall (NU T) (hr.mono (by decide)) rfl (A2 (A1 0 (pv 0)) A7) rfl)) (A2 (A1 1 (pv 1)) A7))) rfl)))),?_⟩
 intro m rs L A K s ok hs
 have hm:=ok.m2
 have e0:AK ["ladder","start"] [B0 m rs L A K,.int s]=[some (.val (B0 m rs L A K)),some (.val (.int s))]:=rfl
 rw[e0]
 have h1:=NV m rs L A K ok
 have h2:=Ga m rs L A K
 have gm:IJ [("Ladder",Bf)] "order" (B0 m rs L A K)=.ok Bf:=rfl
 have qr:(s:Int)∈L:=(B3 ok.pm).mpr ⟨by omega,by omega⟩
 have gn:∀ p c,AF (Ib A K) p=some c->p.1∈L/\p.2∈L:=fun p c h=>by
  have hm:=PV h
  unfold Ib at hm
  obtain⟨q,hq,e⟩:=zE.mp hm
  cases e
  have:=ok.WB hq
  exact⟨(B3 ok.pm).mpr this.2.1,(B3 ok.pm).mpr this.2.2⟩
 have hC:∀ p c,AF (Ib A K) p=some c->p.1∈L/\p.2∈L:=fun p c h=>by
  exact gn p c h
 obtain⟨R,T,hF,hR,hT⟩:=S9 m L (Ib A K) s (by omega) ok.pm qr hC
 refine⟨T,BB ?_,hT.len,fun w h0 h1=>?_⟩
 ·simp_arith[gm,h2,h1,hF]
  exact⟨_,rfl,rfl⟩
 ·have hU:=hR.vI (m:=m) hC
  have aF:∀ x:Int,0<=x->x < m->x∈L.reverse:=fun x a b=>List.mem_reverse.mpr ((B3 ok.pm).mpr ⟨a,b⟩)
  obtain⟨T',jw⟩:∃ T':Int->Co,T'=fun x:Int=>if 0<=x/\x < (m:Int) then atC T x else none:=⟨_,rfl⟩
  have cI:∀ x:Int,0<=x->x < m->T' x=atC T x:=fun x a b=>by rw[jw];exact if_pos ⟨a,b⟩
  have hS:qM (DB L) (fun x y=>AF (Ib A K) (x,y)) s (AF R) T' m:=⟨fun x a b=>by rw[cI x a b];exact hT.top x (aF x a b),fun x y a b c d hr=>by rw[cI x a b,cI y c d];exact hT.cl x (aF x a b) y (aF y c d) hr,fun x c hx=>by
   have ag:0<=x/\x < m:=by
    refine zac fun hn=>?_
    rw[jw] at hx
    dsimp only at hx
    rw[if_neg hn] at hx
    cases hx
   rw[cI x ag.1 ag.2] at hx
   exact hT.sd x c ag.1 ag.2 hx⟩
  obtain⟨cs,qt,_⟩:=F9 m s rs hs (by omega) (fun r hr=>(ok.ok r hr).1)
  have cj:=qt.XN (fun r hr=>(ok.ok r hr).1) h0 h1
  have q:=OO (s:=(s:Int)) (w:=w) ok.iI ok.kept ⟨by omega,by omega⟩ hU hS cj
  rw[cI w h0 h1] at q
  exact q
noncomputable def Nn:List D->M OT:=zi FR
theorem Qm:Txt K mg->BY P w K mg base "costs_out" 5 2 Nn:=(zb FR).1
theorem Qn:∀(m:Nat) (rs:List Road) (L:List Int) (A:LA) (K:List (Int×Int)) (s:Nat),C9 m rs L A K->s < m->∃ T:List Co,Nn [B0 m rs L A K,.int s]=.ok (.lst ((T.map cst).map .sh))/\T.length=m/\∀ w:Int,0<=w->w < m->BP rs s w (atC T w):=(zb FR).2
theorem H9:∃ F:List D->M OT,(∀ {P:Program}{w:World}{K:za}{mg:Str->Option Value}{base:Heap},Txt K mg->BY P w K mg base "costs_in" 5 2 F)/\(∀(m:Nat) (rs:List Road) (L:List Int) (A:LA) (K:List (Int×Int)) (s:Nat),C9 m rs L A K->s < m->∃ T:List Co,F [B0 m rs L A K,.int s]=.ok (.lst ((T.map cst).map .sh))/\T.length=m/\∀ w:Int,0<=w->w < m->BP rs w s (atC T w)):=by
 refine⟨_,fun T=>AE (k:=4) T.TK RQ _ (fun f B2 A outer s H E hr=>(A5 (Ao (Aa A9.toXCall (S8 T) (hr.mono (by decide)) rfl (A2 (Ai (K3 (k:=1) [("Ladder",Bf)] A9.toXCall (Ek (by decide) (G9 T) FF) (hr.mono (by decide)) (A1 0 (pv 0)))) (A2 (Ai (Aa A9.toXCall (GY T) (hr.mono (by decide)) rfl (A2 (A1 0 (pv 0)) A7) rfl)) (A2 (A1 1 (pv 1)) A7))) rfl)))),?_⟩
 intro m rs L A K s ok hs
 have hm:=ok.m2
 have e0:AK ["ladder","goal"] [B0 m rs L A K,.int s]=[some (.val (B0 m rs L A K)),some (.val (.int s))]:=rfl
 rw[e0]
 have h1:=GZ m rs L A K ok
 have h2:=Ga m rs L A K
 have gm:IJ [("Ladder",Bf)] "order" (B0 m rs L A K)=.ok Bf:=rfl
 have qr:(s:Int)∈L:=(B3 ok.pm).mpr ⟨by omega,by omega⟩
 have gn:∀ p c,AF (Ib A K) p=some c->p.1∈L/\p.2∈L:=fun p c h=>by
  have hm:=PV h
  unfold Ib at hm
  obtain⟨q,hq,e⟩:=zE.mp hm
  cases e
  have:=ok.WB hq
  exact⟨(B3 ok.pm).mpr this.2.1,(B3 ok.pm).mpr this.2.2⟩
 have hC:∀ p c,AF (RO (Ib A K)) p=some c->p.1∈L/\p.2∈L:=fun p c h=>by
  rw[show p=(p.1,p.2) from rfl,Q6] at h
  have:=gn _ _ h
  exact⟨this.2,this.1⟩
 obtain⟨R,T,hF,hR,hT⟩:=S9 m L (RO (Ib A K)) s (by omega) ok.pm qr hC
 refine⟨T,BB ?_,hT.len,fun w h0 h1=>?_⟩
 ·simp_arith[gm,h2,h1,hF]
  exact⟨_,rfl,rfl⟩
 ·have hU:=hR.vI (m:=m) hC
  have aF:∀ x:Int,0<=x->x < m->x∈L.reverse:=fun x a b=>List.mem_reverse.mpr ((B3 ok.pm).mpr ⟨a,b⟩)
  obtain⟨T',jw⟩:∃ T':Int->Co,T'=fun x:Int=>if 0<=x/\x < (m:Int) then atC T x else none:=⟨_,rfl⟩
  have cI:∀ x:Int,0<=x->x < m->T' x=atC T x:=fun x a b=>by rw[jw];exact if_pos ⟨a,b⟩
  have hS:qM (DB L) (fun x y=>AF (RO (Ib A K)) (x,y)) s (AF R) T' m:=⟨fun x a b=>by rw[cI x a b];exact hT.top x (aF x a b),fun x y a b c d hr=>by rw[cI x a b,cI y c d];exact hT.cl x (aF x a b) y (aF y c d) hr,fun x c hx=>by
   have ag:0<=x/\x < m:=by
    refine zac fun hn=>?_
    rw[jw] at hx
    dsimp only at hx
    rw[if_neg hn] at hx
    cases hx
   rw[cI x ag.1 ag.2] at hx
   exact hT.sd x c ag.1 ag.2 hx⟩
  have xm:(fun x y=>AF (RO (Ib A K)) (x,y))=fun x y=>AF (Ib A K) (y,x):=by funext x y;exact Q6 x y _
  rw[xm] at hU hS
  obtain⟨cs,qt,_⟩:=F9 m w.toNat rs (by omega) (by omega) (fun r hr=>(ok.ok r hr).1)
  have cj:=qt.XN (fun r hr=>(ok.ok r hr).1) (w:=(s:Int)) (by omega) (by omega)
  have ew:((w.toNat:Nat):Int)=w:=by omega
  rw[ew] at cj
  have q:=(OO (s:=(s:Int)) (w:=w) ok.iI.turn ok.kept.turn ⟨by omega,by omega⟩ hU hS cj.turn).turn
  rw[HK,cI w h0 h1] at q
  exact q
noncomputable def OR:List D->M OT:=zi H9
theorem Sa:Txt K mg->BY P w K mg base "costs_in" 5 2 OR:=(zb H9).1
theorem Sb:∀(m:Nat) (rs:List Road) (L:List Int) (A:LA) (K:List (Int×Int)) (s:Nat),C9 m rs L A K->s < m->∃ T:List Co,OR [B0 m rs L A K,.int s]=.ok (.lst ((T.map cst).map .sh))/\T.length=m/\∀ w:Int,0<=w->w < m->BP rs w s (atC T w):=(zb H9).2
theorem IS:∃ F:List D->M OT,(∀ {P:Program}{w:World}{K:za}{mg:Str->Option Value}{base:Heap},Txt K mg->BY P w K mg base "between" 6 3 F)/\(∀(m:Nat) (rs:List Road) (L:List Int) (A:LA) (K:List (Int×Int)) (s g:Nat),C9 m rs L A K->s < m->g < m->∃ T U:List Co,F [B0 m rs L A K,.int s,.int g]=.ok (.lst (((OP (atC T) (atC U) (atC T g) m).map D.int).map .sh))/\(∀ w:Int,0<=w->w < m->BP rs s w (atC T w))/\∀ w:Int,0<=w->w < m->BP rs w g (atC U w)):=by
 refine⟨_,fun T=>AE (k:=5) T.Wv IK _ (fun f B2 A outer s H E hr=>(A4 (AQ 3 IK.nd rfl (Or.inr rfl) (Ai (Aa A9.toXCall (Qm T) (hr.mono (by decide)) rfl (A2 (A1 0 (pv 0)) (A2 (A1 1 (pv 1)) A7)) rfl))) (A4 (AQ 4 IK.nd rfl (Or.inr rfl) (Ai (Aa A9.toXCall (Sa T) (hr.mono (by decide)) rfl (A2 (A1 0 (pv 0)) (A2 (A1 2 (pv 2)) A7)) rfl))) (A4 (Be (Gw (c:=true) (Ac (AU hr 16 (by decide)) (A1 3 (pv 3)) (A1 2 (pv 2)))) (A5 (Ao (GC Dz))) AD) (A5 (Ao (Cs (NB:=["place","cost","ahead","goal","behind"]) [none,none,some 3,some 2,some 4] rfl (Po rfl T.GQ (A1 3 (pv 3))) rfl rfl (PH (n:=2) rfl (DY 0 (by decide) rfl rfl rfl (DY 1 (by decide) rfl rfl rfl MQ))) (fun _ _ _ _=>Fz (J7 (c:=true) (AU hr 16 (by decide)) (Ai (BV (Aa (Bh rfl).toXCall (GR T) (hr.mono (by decide)) rfl (A2 (A1 1 (pv 1)) (A2 (Ac (AU hr 16 (by decide)) (A1 4 (pv 4)) (A1 0 (pv 0))) A7)) rfl))) (Ac (AU hr 16 (by decide)) (A1 2 (pv 2)) (A1 3 (pv 3))))) (fun _ _ _ _=>(A1 0 (pv 0)))))))))),?_⟩
 intro m rs L A K s g ok hs hg
 have hm:=ok.m2
 obtain⟨T,g1,l1,t1⟩:=Qn m rs L A K s ok hs
 obtain⟨U,g2,l2,t2⟩:=Sb m rs L A K g ok hg
 refine⟨T,U,?_,t1,t2⟩
 have e0:AK ["ladder","start","goal","ahead","behind"] [B0 m rs L A K,.int s,.int g]=[some (.val (B0 m rs L A K)),some (.val (.int s)),some (.val (.int g)),none,none]:=rfl
 rw[e0]
 refine BB ?_
 have x1:B4 (.lst (T.map cst)) (.int (g:Int))=.ok (cst (atC T g)):=CK (by omega) (by omega)
 apply wp_step
 ·simp_arith[g1];rfl
 try simp only[zt,zm]
 apply wp_step
 ·simp_arith[g2];rfl
 try simp only[zt,zm]
 cases hc:atC T g with
 |none =>
  rw[hc] at x1
  rw[YV]
  have b8:C5 (cst none)=true:=rfl
  simp_arith[x1,b8]
  exact⟨_,rfl,rfl⟩
 |some c =>
  rw[hc] at x1
  have b8:C5 (cst (some c))=false:=rfl
  apply wp_step
  ·simp_arith[x1,b8];rfl
  simp_arith[TF,l1,Nat.zero_add]
  rw[Cw (fun i:Nat=>decide (Aj (atC T (i:Int)) (atC U (i:Int))=some c)) (fun i:Nat=>D.int (i:Int)) (fun i hi=>⟨_,rfl,by
   have y6:=zb6.mp hi
   have x2:B4 (.lst (U.map cst)) (.int (i:Int))=.ok (cst (atC U i)):=CK (by omega) (by omega)
   have gl:=GS (atC T i) (atC U i)
   have lu:=Pt (Aj (atC T i) (atC U i)) (some c)
   simp_arith[x1,x2,gl,lu]
   try rfl,fun _=>rfl⟩)]
  have hl:(List.map (fun i:Nat=>D.tup [.int (i:Int),cst (atC T (i:Int))]) (yR m)).length<=1000:=by rw[zc,List.length_range];omega
  rw[if_pos hl,YW]
  exact⟨_,rfl,rfl⟩
noncomputable def Sd:List D->M OT:=zi IS
theorem Np:Txt K mg->BY P w K mg base "between" 6 3 Sd:=(zb IS).1
theorem U2:∀(m:Nat) (rs:List Road) (L:List Int) (A:LA) (K:List (Int×Int)) (s g:Nat),C9 m rs L A K->s < m->g < m->∃ T U:List Co,Sd [B0 m rs L A K,.int s,.int g]=.ok (.lst (((OP (atC T) (atC U) (atC T g) m).map D.int).map .sh))/\(∀ w:Int,0<=w->w < m->BP rs s w (atC T w))/\∀ w:Int,0<=w->w < m->BP rs w g (atC U w):=(zb IS).2
theorem Er:∃ F:List D->M OT,(∀ {P:Program}{w:World}{K:za}{mg:Str->Option Value}{base:Heap},Txt K mg->BY P w K mg base "cost_so_far" 1 2 F)/\(∀(A:LA) (p:Int×Int),F [L5 A,pD p]=.ok (.sh (cst (Al A p)))):=by
 refine⟨_,fun T=>AE (k:=0) T.NQ N8 _ (fun f B2 A outer s H E hr=>(A4 (Be (LC (c:=true) (AU hr 16 (by decide)) (A1 1 (pv 1)) (A1 0 (pv 0))) (A5 (Ao (B9 Dq))) AD) (A5 (Ao (B9 (Ac (AU hr 16 (by decide)) (Ac (AU hr 16 (by decide)) (A1 0 (pv 0)) (A1 1 (pv 1))) A6)))))),?_⟩
 intro A p
 have e0:AK ["laid","pair"] [L5 A,pD p]=[some (.val (L5 A)),some (.val (pD p))]:=rfl
 rw[e0]
 refine BB ?_
 have hm:=Q4 A p true
 unfold Al
 cases q:AF A p with
 |none =>
  rw[q] at hm
  simp_arith[hm,F0];rfl
 |some v =>
  rw[q] at hm
  have hi:=Q5 q
  have h0:B4 (Wm v) (.int 0)=.ok (cst (some v.1)):=rfl
  apply wp_step
  ·simp_arith[hm,F0];rfl
  simp_arith[hi,h0];rfl
noncomputable def Kc:List D->M OT:=zi Er
theorem Ha:Txt K mg->BY P w K mg base "cost_so_far" 1 2 Kc:=(zb Er).1
theorem Hb:∀(A:LA) (p:Int×Int),Kc [L5 A,pD p]=.ok (.sh (cst (Al A p))):=(zb Er).2
theorem U3:∃ F:OT->List D->M (OT×OT),(∀ {P:Program}{w:World}{K:za}{mg:Str->Option Value}{base:Heap},Txt K mg->Oz P w K mg base "lay" 1 4 F)/\(∀(A:LA) (p:Int×Int) (c:Co) (mid:Option Int),A.length < 1000->F (IW A) [pD p,cst c,GB mid]=.ok (IW (layA A p c mid),.sh .AA)):=by
 refine⟨_,fun T=>Ro (k:=0) T.qS mR _ (fun f B2 A outer s H E hr=>(A5 (Be (IA (DW.dt (Iw (J8 (c:=true) (A1 2 (pv 2))) (Hm (DW.dt (Fd (LC (c:=true) (AU hr 16 (by decide)) (A1 1 (pv 1)) (A1 0 (pv 0))) (Ec (lT (c:=true) (AU hr 16 (by decide)) (A1 2 (pv 2)) (Ac (AU hr 16 (by decide)) (Ac (AU hr 16 (by decide)) (A1 0 (pv 0)) (A1 1 (pv 1))) A6))))))))) (A5 (LF (AU hr 16 (by decide)) (BZ 0 (pv 0)) (A1 1 (pv 1)) (AL (A2 (A1 2 (pv 2)) (A2 (A1 3 (pv 3)) A7))))) AD))),?_⟩
 intro A p c mid hA
 have e0:CW ["laid","pair","cost","middle"] (IW A) [pD p,cst c,GB mid]=[some (.ow (.tree (some 0) (IW A))),some (.val (pD p)),some (.val (cst c)),some (.val (GB mid))]:=rfl
 rw[e0]
 refine Tz ?_
 have hm:=Q4 A p true
 have vo:∀ c:Int×Int,D.tup [cst (some c),GB mid]=Wm (c,mid):=fun c=>rfl
 have hl:(A.map fun kv=>pD kv.1).length < 1000:=by rw[zc];exact hA
 have ij:keyOk true (pD p)=true:=rfl
 have aj:∀ v,(List.map (fun kv=>pD kv.1) (Dr A p v))=(List.map (fun kv=>pD kv.1) (Dr A p v)):=fun _=>rfl
 cases c with
 |none =>
  refine Ba (ρ':=_) (by simp_arith[cst,C5];rfl) ⟨rfl,rfl⟩
 |some c =>
  have b8:C5 (cst (some c))=false:=rfl
  cases q:AF A p with
  |none =>
   rw[q] at hm
   have el:layA A p (some c) mid=Dr A p (c,mid):=by unfold layA;dsimp only;rw[q]
   rw[el]
   refine Ba (ρ':=[some (.ow (.tree (some 0) (IW (Dr A p (c,mid))))),some (.val (pD p)),some (.val (cst (some c))),some (.val (GB mid))]) (by
    simp_arith[b8,hm,F0,DZ,vo,if_pos (And.intro ij hl),YO,ij,hl,and_self,if_true]
    rfl) ⟨rfl,rfl⟩
  |some z =>
   rw[q] at hm
   have hi:=Q5 q
   have h0:B4 (Wm z) (.int 0)=.ok (cst (some z.1)):=rfl
   have hx:=tP c z.1
   by_cases hc:c.1 < z.1.1\/(c.1=z.1.1/\c.2 < z.1.2)
   ·have el:layA A p (some c) mid=Dr A p (c,mid):=by unfold layA;dsimp only;rw[q];dsimp only;rw[if_pos hc]
    rw[decide_eq_true hc] at hx
    rw[el]
    refine Ba (ρ':=[some (.ow (.tree (some 0) (IW (Dr A p (c,mid))))),some (.val (pD p)),some (.val (cst (some c))),some (.val (GB mid))]) (by
     simp_arith[b8,hm,hi,h0,hx,F0,DZ,vo,if_pos (And.intro ij hl),YO,ij,hl,and_self,if_true]
     rfl) ⟨rfl,rfl⟩
   ·have el:layA A p (some c) mid=A:=by unfold layA;dsimp only;rw[q];dsimp only;rw[if_neg hc]
    rw[decide_eq_false hc] at hx
    rw[el]
    refine Ba (ρ':=_) (by simp_arith[b8,hm,hi,h0,hx,F0];rfl) ⟨rfl,rfl⟩
noncomputable def qT:OT->List D->M (OT×OT):=zi U3
theorem Za:Txt K mg->Oz P w K mg base "lay" 1 4 qT:=(zb U3).1
theorem Zb:∀(A:LA) (p:Int×Int) (c:Co) (mid:Option Int),A.length < 1000->qT (IW A) [pD p,cst c,GB mid]=.ok (IW (layA A p c mid),.sh .AA):=(zb U3).2
theorem Hc:∃ F:OT->List D->M (OT×OT),(∀ {P:Program}{w:World}{K:za}{mg:Str->Option Value}{base:Heap},Txt K mg->Oz P w K mg base "lay_over" 2 3 F)/\(∀(m:Nat) (A:LA) (p:Int) (H:List Int),m<=20->Fp m A->(∀ x∈H,0<=x/\x < m)->F (IW A) [.int p,.lst (H.map D.int)]=.ok (IW (lY A p H),.sh .AA)):=by
 refine⟨_,fun T=>Ro (k:=1) T.TM EK _ (fun f B2 A outer s H E hr=>(A5 (Bw A9.toXCall.own rfl (AZ (A1 2 (pv 2))) (AS 3 EK.nd rfl (zY rfl)) (A5 (Bw A9.toXCall.own rfl (AZ (A1 2 (pv 2))) (AS 4 EK.nd rfl (zY rfl)) (A5 (Be (KW (c:=true) (AU hr 16 (by decide)) (A1 3 (pv 3)) (A1 4 (pv 4))) (A4 (AQ 5 EK.nd rfl (zY rfl) (Ai (Eg (Aa A9.toXCall (GR T) (hr.mono (by decide)) rfl (A2 (Ai (Aa A9.toXCall (Ha T) (hr.mono (by decide)) rfl (A2 (A1 0 (pv 0)) (A2 (AL (A2 (A1 3 (pv 3)) (A2 (A1 1 (pv 1)) A7))) A7)) rfl)) (A2 (Ai (Aa A9.toXCall (Ha T) (hr.mono (by decide)) rfl (A2 (A1 0 (pv 0)) (A2 (AL (A2 (A1 1 (pv 1)) (A2 (A1 4 (pv 4)) A7))) A7)) rfl)) A7)) rfl)))) (A5 (MM (Y8 A9.toXCall (Za T) (hr.mono (by decide)) rfl (BZ 0 (pv 0)) (A2 (AL (A2 (A1 3 (pv 3)) (A2 (A1 4 (pv 4)) A7))) (A2 (A1 5 (pv 5)) (A2 (A1 1 (pv 1)) A7))) rfl)))) AD))))))),?_⟩
 intro m A p H hm hA hH
 have e0:CW ["laid","place","higher","u","w","cost"] (IW A) [.int p,.lst (H.map D.int)]=[some (.ow (.tree (some 0) (IW A))),some (.val (.int p)),some (.val (.lst (H.map D.int))),none,none,none]:=rfl
 rw[e0]
 refine Tz ?_
 simp_arith[]
 refine Bx (fun i ρ=>∃ s3 s4 s5:Option Cl,ρ=[some (.ow (.tree (some 0) (IW ((H.take i).foldl (fV p H) A)))),some (.val (.int p)),some (.val (.lst (H.map D.int))),s3,s4,s5]) ⟨none,none,none,rfl⟩ ?_ ?_
 ·rintro i d ρ hd ⟨s3,s4,s5,rfl⟩
  obtain⟨u,hu,rfl⟩:=BQ hd
  have qi:=hH u (zj hu)
  refine⟨_,rfl,?_⟩
  obtain⟨B,hB⟩:∃ B,B=(H.take i).foldl (fV p H) A:=⟨_,rfl⟩
  have gp:Fp m B:=by rw[hB];exact Fp.lo hH hA fun x hx=>hH x (yL hx)
  rw[<-hB,El hu,<-hB]
  simp_arith[]
  refine Bx (fun j ρ=>∃ s4 s5:Option Cl,ρ=[some (.ow (.tree (some 0) (IW ((H.take j).foldl (PX p u) B)))),some (.val (.int p)),some (.val (.lst (H.map D.int))),some (.val (.int u)),s4,s5]) ⟨s4,s5,rfl⟩ ?_ ?_
  ·rintro j d ρ hd ⟨s4,s5,rfl⟩
   obtain⟨w,hw,rfl⟩:=BQ hd
   have y7:=hH w (zj hw)
   refine⟨_,rfl,?_⟩
   obtain⟨C,hC⟩:∃ C,C=(H.take j).foldl (PX p u) B:=⟨_,rfl⟩
   have qu:Fp m C:=by rw[hC];exact Fp.ou qi gp fun x hx=>hH x (yL hx)
   rw[El hw,<-hC]
   by_cases e:u=w
   ·have ev:PX p u C w=C:=by unfold PX;rw[if_pos e]
    rw[ev]
    refine Ba (ρ':=_) (by simp_arith[decide_eq_true e];rfl) ⟨_,_,rfl⟩
   ·have ev:PX p u C w=layA C (u,w) (Aj (Al C (u,p)) (Al C (p,w))) (some p):=by unfold PX;rw[if_neg e]
    rw[ev]
    have h1:=Hb C (u,p)
    have h2:=Hb C (p,w)
    have h3:=GS (Al C (u,p)) (Al C (p,w))
    have h4:=Zb C (u,w) (Aj (Al C (u,p)) (Al C (p,w))) (some p) (qu.len hm)
    have t1:∀ a b:Int,D.tup [.int a,.int b]=pD (a,b):=fun a b=>rfl
    have t2:GB (some p)=.int p:=rfl
    rw[t2] at h4
    have h5:=KD (ρ:=[some (.ow (.tree (some 0) (IW C))),some (.val (.int p)),some (.val (.lst (H.map D.int))),some (.val (.int u)),some (.val (.int w)),some (.val (cst (Aj (Al C (u,p)) (Al C (p,w)))))]) (i:=0) rfl rfl h4
    simp_arith[decide_eq_false e,if_true]
    apply wp_step
    ·simp_arith[t1,h1,h2,h3];rfl
    refine Ba (ρ':=_) (by simp_arith[t1,h5];rfl) ⟨_,_,rfl⟩
  ·rintro ρ ⟨s4,s5,rfl⟩
   rw[zc,yS]
   exact⟨_,s4,s5,rfl⟩
 ·rintro ρ ⟨s3,s4,s5,rfl⟩
  rw[zc,yS]
  exact⟨rfl,trivial⟩
noncomputable def OS:OT->List D->M (OT×OT):=zi Hc
theorem Se:Txt K mg->Oz P w K mg base "lay_over" 2 3 OS:=(zb Hc).1
theorem Sf:∀(m:Nat) (A:LA) (p:Int) (H:List Int),m<=20->Fp m A->(∀ x∈H,0<=x/\x < m)->OS (IW A) [.int p,.lst (H.map D.int)]=.ok (IW (lY A p H),.sh .AA):=(zb Hc).2
theorem FT:∃ F:List D->M OT,(∀ {P:Program}{w:World}{K:za}{mg:Str->Option Value}{base:Heap},Txt K mg->BY P w K mg base "laid_arcs" 3 2 F)/\(∀(m:Nat) (rs:List Road) (L:List Int),m<=20->L.Perm (AV m)->(∀ r∈rs,Hq m r/\r.a≠r.b)->F [As m rs,.lst (L.map D.int)]=.ok (IW (BR rs L))):=by
 refine⟨_,fun T=>AE (k:=2) T.RX CM _ (fun f B2 A outer s H E hr=>(A4 (BD 2 CM.nd rfl (zY rfl) (Rq true)) (A4 (Bw A9.toXCall.own rfl (AZ (Ac (AU hr 16 (by decide)) (A1 0 (pv 0)) A6)) (AS 3 CM.nd rfl (zY rfl)) (A5 (MM (Y8 A9.toXCall (Za T) (hr.mono (by decide)) rfl (BZ 2 (pv 2)) (A2 (AL (A2 (Ac (AU hr 16 (by decide)) (A1 3 (pv 3)) A6) (A2 (Ac (AU hr 16 (by decide)) (A1 3 (pv 3)) A6) A7))) (A2 (Ai (Aa A9.toXCall (FO T) (hr.mono (by decide)) rfl (A2 (A1 3 (pv 3)) A7) rfl)) (A2 Dq A7))) rfl)))) (A4 (Bw A9.toXCall.own rfl (Po rfl T.GQ (A1 1 (pv 1))) (Xx (n:=2) rfl (Ja (AS 4 CM.nd rfl (zY rfl)) (Ja (AS 5 CM.nd rfl (zY rfl)) Up))) (A5 (MM (Y8 A9.toXCall (Se T) (hr.mono (by decide)) rfl (BZ 2 (pv 2)) (A2 (A1 5 (pv 5)) (A2 (Ai (MO (A1 1 (pv 1)) (Lu (BM (A1 4 (pv 4)) A6)) Uo)) A7)) rfl)))) (A5 (CL 2 (pv 2))))))),?_⟩
 intro m rs L hm hL Av
 have e0:AK ["net","order","laid","road","rank","place"] [As m rs,.lst (L.map D.int)]=[some (.val (As m rs)),some (.val (.lst (L.map D.int))),none,none,none,none]:=rfl
 rw[e0]
 refine BB ?_
 have n1:B4 (As m rs) (.int 1)=.ok (.lst (rs.map BI)):=rfl
 apply wp_step
 ·rfl
 try simp only[zt,zm]
 have gq:∀ i,i<=rs.length->Fp m ((rs.take i).foldl (fun A r=>layA A (r.a,r.b) (C8 r) none) []):=fun i hi=>by
  have:=(PY (m:=m) (rs:=rs.take i) fun r hr=>Av r (yL hr)).1
  exact this
 refine BW (I:=fun ρ=>∃ s3 s4 s5:Option Cl,ρ=[some (.val (As m rs)),some (.val (.lst (L.map D.int))),some (.ow (.tree none (IW (lay0 rs)))),s3,s4,s5]) ?_ ?_
 ·simp_arith[n1]
  refine Bx (fun i ρ=>i<=rs.length/\∃ s3 s4 s5:Option Cl,ρ=[some (.val (As m rs)),some (.val (.lst (L.map D.int))),some (.ow (.tree none (IW ((rs.take i).foldl (fun A r=>layA A (r.a,r.b) (C8 r) none) [])))),s3,s4,s5]) ⟨zX _,none,none,none,rfl⟩ ?_ ?_
  ·rintro i d ρ hd ⟨hi,s3,s4,s5,rfl⟩
   obtain⟨r,hr,rfl⟩:=BQ hd
   have aj:=(zy.mp hr).1
   refine⟨_,rfl,?_⟩
   rw[El hr]
   obtain⟨B,hB⟩:∃ B,B=(rs.take i).foldl (fun A r=>layA A (r.a,r.b) (C8 r) none) []:=⟨_,rfl⟩
   have gp:Fp m B:=by rw[hB];exact gq i hi
   rw[<-hB]
   have i0:B4 (BI r) (.int 0)=.ok (.int r.a):=rfl
   have i1:B4 (BI r) (.int 1)=.ok (.int r.b):=rfl
   have h1:=FQ r
   have h2:=Zb B (r.a,r.b) (C8 r) none (gp.len hm)
   have t1:∀ a b:Int,D.tup [.int a,.int b]=pD (a,b):=fun a b=>rfl
   have t2:GB none=.AA:=rfl
   rw[t2] at h2
   have h5:=KD (ρ:=[some (.val (As m rs)),some (.val (.lst (L.map D.int))),some (.ow (.tree none (IW B))),some (.val (BI r)),s4,s5]) (i:=2) rfl rfl h2
   refine Ba (ρ':=_) (by simp_arith[i0,i1,h1,t1,h5];rfl) ⟨aj,_,_,_,rfl⟩
  ·rintro ρ ⟨_,s3,s4,s5,rfl⟩
   rw[zc,yS]
   exact⟨s3,s4,s5,rfl⟩
 ·rintro ρ ⟨s3,s4,s5,rfl⟩
  have qm:=PY Av
  refine BW (I:=fun ρ=>∃ s3 s4 s5:Option Cl,ρ=[some (.val (As m rs)),some (.val (.lst (L.map D.int))),some (.ow (.tree none (IW (BR rs L)))),s3,s4,s5]) ?_ ?_
  ·simp_arith[]
   refine Bx (fun i ρ=>i<=L.length/\∃(G:LA) (s3 s4 s5:Option Cl),ρ=[some (.val (As m rs)),some (.val (.lst (L.map D.int))),some (.ow (.tree none (IW G))),s3,s4,s5]/\Fp m G/\Tv G (L.drop i)=Tv (lay0 rs) L) ⟨zX _,lay0 rs,s3,s4,s5,rfl,qm.1,rfl⟩ ?_ ?_
   ·rintro i d ρ hd ⟨hi,G,s3,s4,s5,rfl,hG,jx⟩
    obtain⟨d',aJ,rfl⟩:=Hn hd
    obtain⟨p,hp,rfl⟩:=BQ aJ
    have aj:=(zy.mp hp).1
    rw[Nat.zero_add]
    refine⟨_,rfl,?_⟩
    have bO:∀ x∈L.drop (i + 1),0<=x/\x < m:=fun x hx=>(B3 hL).mp (List.mem_of_mem_drop hx)
    have ed:L.drop i=p::L.drop (i + 1):=by
     rw[zb8 aj]
     rw[zq aj] at hp
     rw[zI hp]
    rw[ed,Tv] at jx
    have h2:=Sf m G p (L.drop (i + 1)) hm hG bO
    have sl:eJ (some ((i:Int) + 1)) none (.lst (L.map D.int))=.ok (.lst (((L.drop (i + 1)).map D.int).map .sh)):=by rw[List.map_drop];exact Rx _ (i + 1)
    have h5:=KD (ρ:=[some (.val (As m rs)),some (.val (.lst (L.map D.int))),some (.ow (.tree none (IW G))),s3,some (.val (.int i)),some (.val (.int p))]) (i:=2) rfl rfl h2
    refine Ba (ρ':=_) (by simp_arith[sl,h5];rfl) ⟨aj,_,_,_,_,rfl,Fp.lo bO hG bO,jx⟩
   ·rintro ρ ⟨_,G,s3,s4,s5,rfl,hG,jx⟩
    rw[DQ,zc,List.drop_length,Tv] at jx
    exact⟨s3,s4,s5,by rw[jx];rfl⟩
  ·rintro ρ ⟨s3,s4,s5,rfl⟩
   exact⟨_,rfl,rfl⟩
noncomputable def Nq:List D->M OT:=zi FT
theorem Qo:Txt K mg->BY P w K mg base "laid_arcs" 3 2 Nq:=(zb FT).1
theorem Qp:∀(m:Nat) (rs:List Road) (L:List Int),m<=20->L.Perm (AV m)->(∀ r∈rs,Hq m r/\r.a≠r.b)->Nq [As m rs,.lst (L.map D.int)]=.ok (IW (BR rs L)):=(zb FT).2
theorem Hd:∃ F:List D->M OT,(∀ {P:Program}{w:World}{K:za}{mg:Str->Option Value}{base:Heap},Txt K mg->BY P w K mg base "is_order" 2 2 F)/\(∀(m:Nat) (x d:D),m<=60->qJ d->F [.tup [.int m,x],d]=.ok (.sh (.bl (EH m d)))):=by
 refine⟨_,fun T=>AE (k:=1) T.TN RS _ (fun f B2 A outer s H E hr=>(A4 (Be (DW.dt (Fd (CJ (Ck (c:=true) (Fy (Ko _) rfl T.Bd rfl T.F5 (by decide +kernel) (A1 1 (pv 1))))) (Ec (KW (c:=true) (AU hr 16 (by decide)) (EY rfl T.Ic (A1 1 (pv 1))) (Ac (AU hr 16 (by decide)) (A1 0 (pv 0)) A6))))) (A5 (Ao (B9 Dv))) AD) (A4 (Be (CJ (Ck (c:=true) (Tc rfl rfl T.Z2 (Ai (Cs (NB:=["place","net"]) [none,some 0] rfl (AZ (A1 1 (pv 1))) rfl rfl (BO 0 (by decide) rfl rfl rfl) (fun _ _ _ _=>EE) (fun _ _ _ _=>(Ai (BV (Aa (Bh rfl).toXCall (AW T) (hr.mono (by decide)) rfl (A2 (A1 0 (pv 0)) (A2 (Ac (AU hr 16 (by decide)) (A1 1 (pv 1)) A6) A7)) rfl))))))))) (A5 (Ao (B9 Dv))) AD) (A5 (Ao (B9 (gY (AU hr 16 (by decide)) (Ai (Wc rfl rfl T.Z7 (A1 1 (pv 1)))) (Ai (Jv rfl rfl T.F5 rfl T.Cu (Ac (AU hr 16 (by decide)) (A1 0 (pv 0)) A6)))))))))),?_⟩
 intro m x d hm ⟨hx,Av⟩
 have e0:AK ["net","thing"] [.tup [.int m,x],d]=[some (.val (.tup [.int m,x])),some (.val d)]:=rfl
 rw[e0]
 have n0:B4 (.tup [.int m,x]) (.int 0)=.ok (.int m):=rfl
 refine BB ?_
 cases d with
 |lst xs =>
  obtain⟨hl,cg⟩:=Av xs rfl
  by_cases h1:xs.length=m
  ·have dz:(xs.length:Int)=(m:Int):=by omega
   apply wp_step
   ·simp_arith[n0,decide_eq_true dz];rfl
   have aq:∀ {gt:D->Ab->M Ab} {ft:Ab->M Bool} {fe:Ab->M D} {ρ:Ab},(∀ d∈xs,∃ ρ1,gt d ρ=.ok ρ1/\ft ρ1=.ok true/\fe ρ1=.ok (.bl (Kh d m)))->B8 gt ft fe xs ρ=.ok ((xs.map fun e=>Kh e m).map D.bl):=fun h=>by
    rw[Ol (fun d=>.bl (Kh d m)) xs h,yF];rfl
   cases h2:(xs.map fun e=>Kh e m).all id with
   |false =>
    have hf:EH m (.lst xs)=false:=by
     cases q:EH m (.lst xs) with
     |false=>rfl
     |true=>have:=(RC q).2;rw[h2] at this;cases this
    rw[hf]
    simp_arith[if_pos hl]
    rw[aq]
    ·simp_arith[h2]
     rfl
    ·intro d hd
     have:=AM d m (cg d hd)
     exact⟨_,rfl,rfl,by simp_arith[n0,this]⟩
   |true =>
    obtain⟨L,rfl⟩:=UZ h2
    rw[zc] at h1
    have hs:=Wb (ns:=L) (by omega)
    have h3:=PF (n:=m) (by omega)
    rw[MS] at h3
    apply wp_step
    ·simp_arith[if_pos hl]
     rw[aq]
     ·simp_arith[h2]
      rfl
     ·intro d hd
      have:=AM d m (cg d hd)
      exact⟨_,rfl,rfl,by simp_arith[n0,this]⟩
    simp_arith[n0,hs,h3,Yi]
    rw[MW]
    rfl
  ·have dz:¬ (xs.length:Int)=(m:Int):=by omega
   rw[fE h1]
   simp_arith[n0,decide_eq_false dz]
   rfl
 |DK x=>cases hx
 |ins x n d=>cases hx
 |_=>rfl
noncomputable def OU:List D->M OT:=zi Hd
theorem Sg:Txt K mg->BY P w K mg base "is_order" 2 2 OU:=(zb Hd).1
theorem La:∀(m:Nat) (x d:D),m<=60->qJ d->OU [.tup [.int m,x],d]=.ok (.sh (.bl (EH m d))):=(zb Hd).2
theorem D9:∃ F:List D->M OT,(∀ {P:Program}{w:World}{K:za}{mg:Str->Option Value}{base:Heap},Txt K mg->BY P w K mg base "checked_order" 3 2 F)/\((∀(m:Nat) (x:D) (L:List Int),m<=60->L.Perm (AV m)->F [.tup [.int m,x],.lst (L.map .int)]=.ok (.lst ((L.map D.int).map .sh)))/\(∀(m:Nat) (x d:D),m<=60->qJ d->EH m d=false->F [.tup [.int m,x],d]=.ex "NoOrder")):=by
 refine⟨_,fun T=>AE (k:=2) T.Lm KI _ (fun f B2 A outer s H E hr=>(A4 (Be (CJ (Ck (c:=true) (Ai (Aa A9.toXCall (Sg T) (hr.mono (by decide)) rfl (A2 (A1 0 (pv 0)) (A2 (A1 1 (pv 1)) A7)) rfl)))) (A5 (Ks (c:=true) T.Wx A9 rfl rfl SS)) AD) (A5 (Ao (Jm rfl T.F5 (A1 1 (pv 1))))))),?_⟩
 refine⟨fun m x L hm hL=>?_,fun m x d hm hd ho=>?_⟩
 ·have e0:AK ["net","thing"] [.tup [.int m,x],.lst (L.map .int)]=[some (.val (.tup [.int m,x])),some (.val (.lst (L.map .int)))]:=rfl
  rw[e0]
  have hd:qJ (.lst (L.map D.int)):=⟨rfl,fun xs e=>by
   cases e
   exact⟨by rw[zc,GJ hL];omega,fun e he=>by obtain⟨j,_,rfl⟩:=zE.mp he;rfl⟩⟩
  have h1:=La m x _ hm hd
  rw[Tp hL] at h1
  refine BB ?_
  apply wp_step
  ·simp_arith[h1];rfl
  simp_arith[]
  exact⟨_,rfl,rfl⟩
 ·have e0:AK ["net","thing"] [.tup [.int m,x],d]=[some (.val (.tup [.int m,x])),some (.val d)]:=rfl
  rw[e0]
  have h1:=La m x _ hm hd
  rw[ho] at h1
  simp_arith[h1]
  rfl
noncomputable def CS:List D->M OT:=zi D9
theorem KN:Txt K mg->BY P w K mg base "checked_order" 3 2 CS:=(zb D9).1
theorem KO:(∀(m:Nat) (x:D) (L:List Int),m<=60->L.Perm (AV m)->CS [.tup [.int m,x],.lst (L.map .int)]=.ok (.lst ((L.map D.int).map .sh)))/\(∀(m:Nat) (x d:D),m<=60->qJ d->EH m d=false->CS [.tup [.int m,x],d]=.ex "NoOrder"):=(zb D9).2
theorem Fb:∃ F:List D->M OT,(∀ {P:Program}{w:World}{K:za}{mg:Str->Option Value}{base:Heap},Txt K mg->BY P w K mg base "first_bows" 2 1 F)/\(∀(m:Nat) (rs:List Road),m<=20->(∀ r∈rs,Hq m r/\r.a≠r.b)->F [As m rs]=.ok (.Bj true ((BC rs).map pD) ((CY (BC rs)).map .sh))):=by
 refine⟨_,fun T=>AE (k:=1) T.Qi F4 _ (fun f B2 A outer s H E hr=>(A4 (BD 1 F4.nd rfl (zY rfl) (Rq true)) (A4 (Bw A9.toXCall.own rfl (AZ (Ac (AU hr 16 (by decide)) (A1 0 (pv 0)) A6)) (AS 2 F4.nd rfl (zY rfl)) (A5 (Be (J8 (c:=true) (Ai (Aa A9.toXCall (FO T) (hr.mono (by decide)) rfl (A2 (A1 2 (pv 2)) A7) rfl))) (A5 (LF (AU hr 16 (by decide)) (BZ 1 (pv 1)) (AL (A2 (Ac (AU hr 16 (by decide)) (A1 2 (pv 2)) A6) (A2 (Ac (AU hr 16 (by decide)) (A1 2 (pv 2)) A6) A7))) Dv)) AD))) (A5 (CL 1 (pv 1)))))),?_⟩
 intro m rs hm Av
 have e0:AK ["net","bows","road"] [As m rs]=[some (.val (As m rs)),none,none]:=rfl
 rw[e0]
 refine BB ?_
 apply wp_step
 ·rfl
 have n1:B4 (As m rs) (.int 1)=.ok (.lst (rs.map BI)):=rfl
 refine BW (I:=fun ρ=>∃ s2,ρ=[some (.val (As m rs)),some (.ow (.tree none (.Bj true ((BC rs).map pD) ((CY (BC rs)).map .sh)))),s2]) ?_ ?_
 ·simp_arith[n1]
  refine Bx (fun i ρ=>∃ s2,ρ=[some (.val (As m rs)),some (.ow (.tree none (.Bj true ((BC (rs.take i)).map pD) ((CY (BC (rs.take i))).map .sh)))),s2]) ⟨none,rfl⟩ ?_ ?_
  ·rintro i d ρ hd ⟨s2,rfl⟩
   rw[zD] at hd
   cases hq:rs[i]? with
   |none=>rw[hq] at hd;cases hd
   |some r =>
    rw[hq] at hd
    cases hd
    have hr:=zj hq
    have et:rs.take (i + 1)=rs.take i++[r]:=by rw[yU,hq];rfl
    have eb:BC (rs.take (i + 1))=(match r.l with|none=>BC (rs.take i)|some _=>Kx (BC (rs.take i)) (r.a,r.b)):=by
     unfold BC;rw[et,List.foldl_append];rfl
    have xn:=Rz (m:=m) (rs:=rs.take i) fun r' h'=>Av r' (yL h')
    have hlen:=xn.len hm
    have h1:=FQ r
    refine⟨_,rfl,?_⟩
    cases hl:r.l with
    |none =>
     have e1:C8 r=none:=by unfold C8;rw[hl]
     rw[hl] at eb
     rw[e1] at h1
     simp_arith[h1,cst,C5]
     exact⟨_,by rw[eb]⟩
    |some l =>
     have e1:C8 r=some (l,1):=by unfold C8;rw[hl]
     rw[hl] at eb
     rw[e1] at h1
     have i0:B4 (BI r) (.int 0)=.ok (.int r.a):=rfl
     have i1:B4 (BI r) (.int 1)=.ok (.int r.b):=rfl
     have kk:keyOk true (D.tup [.int r.a,.int r.b])=true/\((BC (rs.take i)).map pD).length < 1000:=⟨rfl,by rw[zc];exact hlen⟩
     have pp:putD ((BC (rs.take i)).map pD) (CY (BC (rs.take i))) (D.tup [.int r.a,.int r.b]) (.bl true)=_:=UY (BC (rs.take i)) (r.a,r.b)
     simp_arith[h1,cst,C5,Bool.not_false,if_true,i0,i1,if_pos kk,pp]
     exact⟨_,by rw[eb]⟩
  ·rintro ρ ⟨s2,rfl⟩
   rw[zc,yS]
   exact⟨s2,rfl⟩
 ·rintro ρ ⟨s2,rfl⟩
  exact⟨_,rfl,rfl⟩
noncomputable def Lb:List D->M OT:=zi Fb
theorem NX:Txt K mg->BY P w K mg base "first_bows" 2 1 Lb:=(zb Fb).1
theorem NY:∀(m:Nat) (rs:List Road),m<=20->(∀ r∈rs,Hq m r/\r.a≠r.b)->Lb [As m rs]=.ok (.Bj true ((BC rs).map pD) ((CY (BC rs)).map .sh)):=(zb Fb).2
theorem Dt:∃ F:List D->M OT,(∀ {P:Program}{w:World}{K:za}{mg:Str->Option Value}{base:Heap},Txt K mg->BY P w K mg base "missing_bows" 1 3 F)/\(∀(B:List (Int×Int)) (vs:List D) (L:List Int) (v:Int),L.length<=30->F [.Bj true (B.map pD) vs,.lst (L.map .int),.int v]=.ok (.lst (((B1 B L v).map pD).map .sh))):=by
 refine⟨_,fun T=>AE (k:=0) T.Nd BS _ (fun f B2 A outer s H E hr=>(A4 (Uq (NB:=["u","bows","place"]) 3 [none,some 0,some 2] BS.nd rfl (zY rfl) rfl (AZ (A1 1 (pv 1))) rfl rfl (BO 0 (by decide) rfl rfl rfl) (fun _ _ _ _=>Fz (ML (c:=true) (AU hr 16 (by decide)) (AL (A2 (A1 0 (pv 0)) (A2 (A1 2 (pv 2)) A7))) (A1 1 (pv 1)))) (fun _ _ _ _=>(A1 0 (pv 0)))) (A4 (Uq (NB:=["w","bows","place"]) 4 [none,some 0,some 2] BS.nd rfl (zY rfl) rfl (AZ (A1 1 (pv 1))) rfl rfl (BO 0 (by decide) rfl rfl rfl) (fun _ _ _ _=>Fz (ML (c:=true) (AU hr 16 (by decide)) (AL (A2 (A1 2 (pv 2)) (A2 (A1 0 (pv 0)) A7))) (A1 1 (pv 1)))) (fun _ _ _ _=>(A1 0 (pv 0)))) (A4 (BD 5 BS.nd rfl (zY rfl) (GC Dz)) (A4 (Bw A9.toXCall.own rfl (AZ (A1 3 (pv 3))) (AS 6 BS.nd rfl (Or.inr rfl)) (A5 (Y5 (BZ 5 (pv 5)) (by exact (Cs (NB:=["w","u","bows"]) [none,some 6,some 0] rfl (AZ (A1 4 (pv 4))) rfl rfl (BO 0 (by decide) rfl rfl rfl) (fun _ _ _ _=>Fz (DW.dt (Iw (KW (c:=true) (AU hr 16 (by decide)) (A1 1 (pv 1)) (A1 0 (pv 0))) (Hm (LC (c:=true) (AU hr 16 (by decide)) (AL (A2 (A1 1 (pv 1)) (A2 (A1 0 (pv 0)) A7))) (A1 2 (pv 2))))))) (fun _ _ _ _=>(AL (A2 (A1 1 (pv 1)) (A2 (A1 0 (pv 0)) A7))))))))) (A5 (CL 5 (pv 5)))))))),?_⟩
 intro B vs L v hl
 have e0:AK ["bows","left","place","ahead","behind","missing","u"] [.Bj true (B.map pD) vs,.lst (L.map .int),.int v]=[some (.val (.Bj true (B.map pD) vs)),some (.val (.lst (L.map .int))),some (.val (.int v)),none,none,none,none]:=rfl
 rw[e0]
 refine BB ?_
 have hL:(L.map D.int).length<=1000:=by rw[zc];omega
 apply wp_step
 ·simp_arith[if_pos hL]
  rw[Cw (fun u=>decide ((u,v)∈B)) D.int (fun u hu=>⟨_,rfl,by simp[rJ,rK,LU,zt,zm,M.A8,Ht,Hs,Jl,JG,JH,JI,LJ,IG,Kw,Ru,Jx,Jy,Hv,UK,LG,LH,Jz,eO,Hw,Hx,FD,PJ,D6,PL,JA,JB,Hy,UN,Jw,Fh,toCl_list,toCl_listP,toCl_dct,LK,JJ,JK,JL,JM,LL,JN,JO,JP,nA,pW,JC,UO,JD,UP,JE,JF,LI,UQ,rL,rM,eS,eT,eU,eV,eW,eX,toCl_nil,Jc,Js,Of,PM,Hz,LM,LN,JQ,JR,LO,LP,LQ,LR,LS,JS,JT,JU,JV,HA,HB,HC,HD,HE,JW,HF,HG,UR,US,UT,UU,UW,HH,ite_tt,ite_ff,Bool.not_true,Bool.not_false,zao,zS,Fm,JZ,K0,eR,fF,eQ,fI,fJ,fK,LV,Q1,Q2,Q3,DZ,HN,LZ,Pu,gB,V9,Q8,PN],fun _=>by simp_arith[]⟩)]
  simp_arith[]
  rfl
 apply wp_step
 ·simp_arith[if_pos hL]
  rw[Cw (fun w=>decide ((v,w)∈B)) D.int (fun u hu=>⟨_,rfl,by simp[rJ,rK,LU,zt,zm,M.A8,Ht,Hs,Jl,JG,JH,JI,LJ,IG,Kw,Ru,Jx,Jy,Hv,UK,LG,LH,Jz,eO,Hw,Hx,FD,PJ,D6,PL,JA,JB,Hy,UN,Jw,Fh,toCl_list,toCl_listP,toCl_dct,LK,JJ,JK,JL,JM,LL,JN,JO,JP,nA,pW,JC,UO,JD,UP,JE,JF,LI,UQ,rL,rM,eS,eT,eU,eV,eW,eX,toCl_nil,Jc,Js,Of,PM,Hz,LM,LN,JQ,JR,LO,LP,LQ,LR,LS,JS,JT,JU,JV,HA,HB,HC,HD,HE,JW,HF,HG,UR,US,UT,UU,UW,HH,ite_tt,ite_ff,Bool.not_true,Bool.not_false,zao,zS,Fm,JZ,K0,eR,fF,eQ,fI,fJ,fK,LV,Q1,Q2,Q3,DZ,HN,LZ,Pu,gB,V9,Q8,PN],fun _=>by simp_arith[]⟩)]
  simp_arith[]
  rfl
 apply wp_step
 ·rfl
 try simp only[zt,zm]
 have vp:((L.filter fun w=>decide ((v,w)∈B)).map D.int).length<=1000:=by rw[zc];exact yP (zav _ _) (by omega)
 have hlen:=W7 B L v
 have y8:L.length * L.length<=30 * 30:=Nat.mul_le_mul hl hl
 generalize hA:L.filter (fun u=>decide ((u,v)∈B))=A
 generalize hW:L.filter (fun w=>decide ((v,w)∈B))=W at vp ⊢
 obtain⟨G,hG⟩:∃ G:Int->List (Int×Int),G=fun u=>((W.filter fun w=>decide (u≠w) && !decide ((u,w)∈B)).map fun w=>(u,w)):=⟨_,rfl⟩
 have d8:B1 B L v=A.flatMap G:=by unfold B1;rw[hA,hW,hG]
 refine BW (I:=fun ρ=>∃ s6,ρ=[some (.val (.Bj true (B.map pD) vs)),some (.val (.lst (L.map .int))),some (.val (.int v)),some (.val (.lst (A.map .int))),some (.val (.lst (W.map .int))),some (.own ((A.flatMap G).map pD)),s6]) ?_ ?_
 ·simp_arith[]
  refine Bx (fun i ρ=>∃ s6,ρ=[some (.val (.Bj true (B.map pD) vs)),some (.val (.lst (L.map .int))),some (.val (.int v)),some (.val (.lst (A.map .int))),some (.val (.lst (W.map .int))),some (.own (((A.take i).flatMap G).map pD)),s6]) ⟨none,rfl⟩ ?_ ?_
  ·rintro i d ρ hd ⟨s6,rfl⟩
   obtain⟨u,hu,rfl⟩:=BQ hd
   have et:A.take (i + 1)=A.take i++[u]:=by rw[yU,hu];rfl
   refine⟨_,rfl,?_⟩
   have hb:(((A.take i).flatMap G).map pD).length + ((G u).map pD).length<=1000:=by
    have h1:((A.take (i + 1)).flatMap G).length<=(A.flatMap G).length:=by
     conv=>rhs;rw[<-za2 (i + 1) A,List.flatMap_append,zL]
     omega
    rw[et,List.flatMap_append,zL] at h1
    rw[d8] at hlen
    simp only[List.flatMap_cons,List.flatMap_nil,yH] at h1
    rw[zc,zc]
    omega
   have ko:(((W.filter fun w=>decide (u≠w) && !decide ((u,w)∈B)).map fun w=>(u,w)).map pD)=(W.filter fun w=>decide (u≠w) && !decide ((u,w)∈B)).map fun w=>D.tup [.int u,.int w]:=by rw[yF];rfl
   refine Ba (ρ':=[some (.val (.Bj true (B.map pD) vs)),some (.val (.lst (L.map .int))),some (.val (.int v)),some (.val (.lst (A.map .int))),some (.val (.lst (W.map .int))),some (.own (((A.take (i + 1)).flatMap G).map pD)),some (.val (.int u))]) ?_ ⟨_,rfl⟩
   simp_arith[if_pos vp]
   rw[Cw (fun w=>decide (u≠w) && !decide ((u,w)∈B)) (fun w=>D.tup [.int u,.int w]) (fun w hw=>⟨_,rfl,by
    simp[rJ,rK,LU,zt,zm,M.A8,Ht,Hs,Jl,JG,JH,JI,LJ,IG,Kw,Ru,Jx,Jy,Hv,UK,LG,LH,Jz,eO,Hw,Hx,FD,PJ,D6,PL,JA,JB,Hy,UN,Jw,Fh,toCl_list,toCl_listP,toCl_dct,LK,JJ,JK,JL,JM,LL,JN,JO,JP,nA,pW,JC,UO,JD,UP,JE,JF,LI,UQ,rL,rM,eS,eT,eU,eV,eW,eX,toCl_nil,Jc,Js,Of,PM,Hz,LM,LN,JQ,JR,LO,LP,LQ,LR,LS,JS,JT,JU,JV,HA,HB,HC,HD,HE,JW,HF,HG,UR,US,UT,UU,UW,HH,ite_tt,ite_ff,Bool.not_true,Bool.not_false,zao,zS,Fm,JZ,K0,eR,fF,eQ,fI,fJ,fK,LV,Q1,Q2,Q3,DZ,HN,LZ,Pu,gB,V9,Q8,PN,Ze,IV,AI,Aw]
    by_cases h:u=w<;>simp[h],fun _=>by simp_arith[]⟩)]
   rw[<-ko]
   have xp:((W.filter fun w=>decide (u≠w) && !decide ((u,w)∈B)).map fun w=>(u,w))=G u:=by rw[hG]
   rw[xp]
   simp_arith[if_pos hb]
   rw[et,List.flatMap_append,List.flatMap_cons,List.flatMap_nil,yH,<-zK]
  ·rintro ρ ⟨s6,rfl⟩
   rw[zc,yS]
   exact⟨s6,rfl⟩
 ·rintro ρ ⟨s6,rfl⟩
  rw[d8]
  exact⟨_,rfl,rfl⟩
noncomputable def Ih:List D->M OT:=zi Dt
theorem Gb:Txt K mg->BY P w K mg base "missing_bows" 1 3 Ih:=(zb Dt).1
theorem Gd:∀(B:List (Int×Int)) (vs:List D) (L:List Int) (v:Int),L.length<=30->Ih [.Bj true (B.map pD) vs,.lst (L.map .int),.int v]=.ok (.lst (((B1 B L v).map pD).map .sh)):=(zb Dt).2
theorem He:∃ F:List D->M OT,(∀ {P:Program}{w:World}{K:za}{mg:Str->Option Value}{base:Heap},Txt K mg->BY P w K mg base "lightest" 2 2 F)/\(∀(B:List (Int×Int)) (vs:List D) (L:List Int),L≠[]->L.length<=30->F [.Bj true (B.map pD) vs,.lst (L.map .int)]=.ok (.sh (.int (Bk B L)))):=by
 refine⟨_,fun T=>AE (k:=1) T.TQ RT _ (fun f B2 A outer s H E hr=>(A5 (Ao (B9 (Ac (AU hr 16 (by decide)) (eG rfl (AU hr 16 (by decide)) rfl T.Z6 (Ai (Cs (NB:=["place","bows","left"]) [none,some 0,some 1] rfl (AZ (A1 1 (pv 1))) rfl rfl (BO 0 (by decide) rfl rfl rfl) (fun _ _ _ _=>EE) (fun _ _ _ _=>(AL (A2 (EY rfl T.Ic (Ai (BV (Aa (Bh rfl).toXCall (Gb T) (hr.mono (by decide)) rfl (A2 (A1 1 (pv 1)) (A2 (A1 2 (pv 2)) (A2 (A1 0 (pv 0)) A7))) rfl)))) (A2 (A1 0 (pv 0)) A7))))))) A6))))),?_⟩
 intro B vs L ae hl
 have e0:AK ["bows","left"] [.Bj true (B.map pD) vs,.lst (L.map .int)]=[some (.val (.Bj true (B.map pD) vs)),some (.val (.lst (L.map .int)))]:=rfl
 rw[e0]
 refine BB ?_
 have hL:(L.map D.int).length<=1000:=by rw[zc];omega
 simp_arith[if_pos hL]
 rw[D7 (fun p=>D.tup ([((B1 B L p).length:Int),p].map D.int)) (fun p hp=>⟨_,rfl,rfl,by
  have h1:=Gd B vs L p hl
  simp_arith[h1,VD,zc,zg,zan]⟩)]
 simp_arith[UJ]
 rw[OC]
 have hb:=W8 (fun p=>D.tup ([((B1 B L p).length:Int),p].map D.int)) (L.map fun p=>(p,[((B1 B L p).length:Int),p]))
 rw[yF] at hb
 have e2:((fun b:Int×List Int=>(D.tup ([((B1 B L b.1).length:Int),b.1].map D.int),b.2)) ∘ fun p=>(p,[((B1 B L p).length:Int),p]))=fun p=>(D.tup ([((B1 B L p).length:Int),p].map D.int),[((B1 B L p).length:Int),p]):=rfl
 rw[e2] at hb
 dsimp only
 rw[hb]
 unfold Bk
 cases q:AX (L.map fun p=>(p,[((B1 B L p).length:Int),p])) with
 |none=>exact (MN (fun z=>ae (List.map_eq_nil_iff.mp z)) q).elim
 |some k =>
  simp only[za9,M.A8]
  rfl
noncomputable def OV:List D->M OT:=zi He
theorem Sh:Txt K mg->BY P w K mg base "lightest" 2 2 OV:=(zb He).1
theorem Si:∀(B:List (Int×Int)) (vs:List D) (L:List Int),L≠[]->L.length<=30->OV [.Bj true (B.map pD) vs,.lst (L.map .int)]=.ok (.sh (.int (Bk B L))):=(zb He).2
theorem KQ:∃ F:List D->M OT,(∀ {P:Program}{w:World}{K:za}{mg:Str->Option Value}{base:Heap},Txt K mg->BY P w K mg base "ranked" 3 1 F)/\(∀(m:Nat) (rs:List Road),m<=20->(∀ r∈rs,Hq m r/\r.a≠r.b)->F [As m rs]=.ok (.lst (((Ss m (BC rs) (AV m)).map D.int).map .sh))):=by
 refine⟨_,fun T=>AE (k:=2) T.Z1 E5 _ (fun f B2 A outer s H E hr=>(A4 (BD 1 E5.nd rfl (zY rfl) (Aa A9.toXCall (NX T) (hr.mono (by decide)) rfl (A2 (A1 0 (pv 0)) A7) rfl)) (A4 (BD 2 E5.nd rfl (zY rfl) (Jv rfl rfl T.F5 rfl T.Cu (Ac (AU hr 16 (by decide)) (A1 0 (pv 0)) A6))) (A4 (BD 3 E5.nd rfl (zY rfl) (GC Dz)) (A4 (R8 A9.toXCall.own (IA (Ck (c:=true) (A1 2 (pv 2)))) (A4 (AQ 4 E5.nd rfl (zY rfl) (Ai (Eg (Aa A9.toXCall (Sh T) (hr.mono (by decide)) rfl (A2 (A1 1 (pv 1)) (A2 (A1 2 (pv 2)) A7)) rfl)))) (A4 (Bw A9.toXCall.own rfl (AZ (Ai (Eg (Aa A9.toXCall (Gb T) (hr.mono (by decide)) rfl (A2 (A1 1 (pv 1)) (A2 (A1 2 (pv 2)) (A2 (A1 4 (pv 4)) A7))) rfl)))) (AS 5 E5.nd rfl (zY rfl)) (A5 (LF (AU hr 16 (by decide)) (BZ 1 (pv 1)) (A1 5 (pv 5)) Dv))) (A4 (W5 (BZ 2 (pv 2)) (A1 4 (pv 4))) (A5 (DM 3 (pv 3) (A1 4 (pv 4)))))))) (A5 (CL 3 (pv 3)))))))),?_⟩
 intro m rs hm Av
 have e0:AK ["net","bows","left","order","place","bow"] [As m rs]=[some (.val (As m rs)),none,none,none,none,none]:=rfl
 rw[e0]
 refine BB ?_
 have h1:=NY m rs hm Av
 have n0:B4 (As m rs) (.int 0)=.ok (.int m):=rfl
 have h2:=PF (n:=m) (by omega)
 rw[MS] at h2
 apply wp_step
 ·simp_arith[h1]
  rfl
 apply wp_step
 ·simp_arith[n0,h2]
  rfl
 apply wp_step
 ·rfl
 try simp only[zt,zm]
 refine BW (I:=fun ρ=>∃ s1 s2 s4 s5,ρ=[some (.val (As m rs)),s1,s2,some (.own ((Ss m (BC rs) (AV m)).map D.int)),s4,s5]) ?_ ?_
 ·refine Rr (lt:=fun a b:Nat=>a < b) (fun n ρ=>∃(B:List (Int×Int)) (L O:List Int) (s4 s5:Option Cl),ρ=[some (.val (As m rs)),some (.ow (.tree none (.Bj true (B.map pD) ((CY B).map .sh)))),some (.own (L.map D.int)),some (.own (O.map D.int)),s4,s5]/\L.length=n/\n + O.length=m/\Cn m B/\(∀ p∈L,0<=p/\p < (m:Int))/\O++Ss n B L=Ss m (BC rs) (AV m)) (Nat.lt_wfRel.wf.apply m) ⟨BC rs,AV m,[],none,none,rfl,Fl m,by simp,Rz Av,fun p hp=>JX.mp hp,rfl⟩ ?_
  rintro n ρ ⟨B,L,O,s4,s5,rfl,hn,hO,hB,hL,df⟩
  by_cases jy:L=[]
  ·subst jy
   left
   have:n=0:=by simpa using hn.symm
   subst this
   rw[Ss,yH] at df
   exact⟨rfl,⟨_,_,_,_,by rw[df]⟩⟩
  ·right
   have jz:L.length<=30:=by omega
   have q1:=Si B (CY B) L jy jz
   have q2:=Gd B (CY B) L (Bk B L) jz
   obtain⟨bd,_⟩:=OE (B:=B) jy
   have xq:0 < L.length:=List.length_pos_of_mem bd
   obtain⟨n',rfl⟩:∃ n',n=n' + 1:=⟨n - 1,by omega⟩
   rw[Ss,if_neg jy] at df
   constructor
   ·simp_arith[Yd]
    cases L with
    |nil=>exact (jy rfl).elim
    |cons x r=>rfl
   apply wp_step
   ·simp_arith[q1,lL eZ]
    rfl
   try simp only[zt,zm]
   have d4:Jf ((B1 B L (Bk B L)).map pD)=true:=Rv Yg _
   refine BW (I:=fun ρ=>∃ s5,ρ=[some (.val (As m rs)),some (.ow (.tree none (.Bj true ((Cm B (B1 B L (Bk B L))).map pD) ((CY (Cm B (B1 B L (Bk B L)))).map .sh)))),some (.own (L.map D.int)),some (.own (O.map D.int)),some (.val (.int (Bk B L))),s5]) ?_ ?_
   ·simp_arith[q2,eY d4]
    refine Bx (fun i ρ=>∃ s5,ρ=[some (.val (As m rs)),some (.ow (.tree none (.Bj true ((Cm B ((B1 B L (Bk B L)).take i)).map pD) ((CY (Cm B ((B1 B L (Bk B L)).take i))).map .sh)))),some (.own (L.map D.int)),some (.own (O.map D.int)),some (.val (.int (Bk B L))),s5]) ⟨s5,rfl⟩ ?_ ?_
    ·rintro i d ρ hd ⟨s5,rfl⟩
     obtain⟨p,hp,rfl⟩:=BQ hd
     refine⟨_,rfl,?_⟩
     have xr:Cn m (Cm B ((B1 B L (Bk B L)).take i)):=hB.Cm fun q hq=>by
      have:=OD (yL hq)
      exact⟨this.2.2,hL _ this.1,hL _ this.2.1⟩
     have kk:keyOk true (pD p)=true/\((Cm B ((B1 B L (Bk B L)).take i)).map pD).length < 1000:=⟨rfl,by rw[zc];exact xr.len hm⟩
     have et:(B1 B L (Bk B L)).take (i + 1)=(B1 B L (Bk B L)).take i++[p]:=by rw[yU,hp];rfl
     have ea:Cm B ((B1 B L (Bk B L)).take (i + 1))=Kx (Cm B ((B1 B L (Bk B L)).take i)) p:=by
      unfold Cm;rw[et,List.foldl_append];rfl
     simp_arith[if_pos kk,UY]
     exact⟨_,by rw[ea]⟩
    ·rintro ρ ⟨s5,rfl⟩
     rw[zc,yS]
     exact⟨s5,rfl⟩
   ·rintro ρ ⟨s5,rfl⟩
    have xt:(O.map D.int).length < 1000:=by rw[zc];omega
    apply wp_step
    ·simp_arith[DR,if_pos bd]
     rfl
    refine Ba (ρ':=[some (.val (As m rs)),some (.ow (.tree none (.Bj true ((Cm B (B1 B L (Bk B L))).map pD) ((CY (Cm B (B1 B L (Bk B L)))).map .sh)))),some (.own ((L.erase (Bk B L)).map D.int)),some (.own ((O++[Bk B L]).map D.int)),some (.val (.int (Bk B L))),s5]) ?_ ?_
    ·simp_arith[if_pos xt,zK,zg,zan]
    ·have hlen:=List.length_erase_of_mem bd
     refine⟨n',by omega,_,_,_,_,_,rfl,by omega,by rw[zL];simp;omega,hB.Cm fun q hq=>?_,fun p hp=>hL p (List.mem_of_mem_erase hp),?_⟩
     ·have:=OD hq
      exact⟨this.2.2,hL _ this.1,hL _ this.2.1⟩
     ·rw[zai]
      exact df
 ·rintro ρ ⟨s1,s2,s4,s5,rfl⟩
  exact⟨_,rfl,rfl⟩
noncomputable def Vf:List D->M OT:=zi KQ
theorem Wz:Txt K mg->BY P w K mg base "ranked" 3 1 Vf:=(zb KQ).1
theorem WA:∀(m:Nat) (rs:List Road),m<=20->(∀ r∈rs,Hq m r/\r.a≠r.b)->Vf [As m rs]=.ok (.lst (((Ss m (BC rs) (AV m)).map D.int).map .sh)):=(zb KQ).2
theorem Cz:∃ F:List D->M OT,(∀ {P:Program}{w:World}{K:za}{mg:Str->Option Value}{base:Heap},Txt K mg->BY P w K mg base "order_or_ranked" 4 2 F)/\(∀(m:Nat) (rs:List Road),m<=20->(∀ r∈rs,Hq m r/\r.a≠r.b)->(∀ L:List Int,L.Perm (AV m)->F [As m rs,.lst (L.map .int)]=.ok (.lst ((L.map D.int).map .sh)))/\F [As m rs,.AA]=.ok (.lst (((Ss m (BC rs) (AV m)).map D.int).map .sh))):=by
 refine⟨_,fun T=>AE (k:=3) T.Ka IL _ (fun f B2 A outer s H E hr=>(A4 (Be (Gw (c:=true) (A1 1 (pv 1))) (A5 (Ao (Aa A9.toXCall (Wz T) (hr.mono (by decide)) rfl (A2 (A1 0 (pv 0)) A7) rfl))) AD) (A5 (Ao (Aa A9.toXCall (KN T) (hr.mono (by decide)) rfl (A2 (A1 0 (pv 0)) (A2 (A1 1 (pv 1)) A7)) rfl))))),?_⟩
 intro m rs hm Av
 have h1:=WA m rs hm Av
 refine⟨fun L hL=>?_,?_⟩
 ·have h2:CS [As m rs,.lst (L.map .int)]=.ok (.lst ((L.map D.int).map .sh)):=KO.1 m (.lst (rs.map BI)) L (by omega) hL
  have e0:AK ["net","order"] [As m rs,.lst (L.map .int)]=[some (.val (As m rs)),some (.val (.lst (L.map .int)))]:=rfl
  rw[e0]
  refine BB ?_
  apply wp_step
  ·rfl
  simp_arith[h2]
  exact⟨_,rfl,rfl⟩
 ·have e0:AK ["net","order"] [As m rs,.AA]=[some (.val (As m rs)),some (.val .AA)]:=rfl
  rw[e0]
  refine BB ?_
  simp_arith[C5,h1]
  exact⟨_,rfl,rfl⟩
noncomputable def Cg:List D->M OT:=zi Cz
theorem IT:Txt K mg->BY P w K mg base "order_or_ranked" 4 2 Cg:=(zb Cz).1
theorem Es:∀(m:Nat) (rs:List Road),m<=20->(∀ r∈rs,Hq m r/\r.a≠r.b)->(∀ L:List Int,L.Perm (AV m)->Cg [As m rs,.lst (L.map .int)]=.ok (.lst ((L.map D.int).map .sh)))/\Cg [As m rs,.AA]=.ok (.lst (((Ss m (BC rs) (AV m)).map D.int).map .sh)):=(zb Cz).2
theorem FU:∃ F:List D->M OT,(∀ {P:Program}{w:World}{K:za}{mg:Str->Option Value}{base:Heap},Txt K mg->BY P w K mg base "kept_arcs" 3 2 F)/\(∀(m:Nat) (rs:List Road) (A:LA),m<=20->(∀ r∈rs,Hq m r)->Fp m A->∃ K:List (Int×Int),F [As m rs,L5 A]=.ok (.lst ((K.map pD).map .sh))/\K.Nodup/\∀ p,p∈K↔KP rs A p):=by
 refine⟨_,fun T=>AE (k:=2) T.RY DJ _ (fun f B2 A outer s H E hr=>(A4 (BD 2 DJ.nd rfl (zY rfl) (GC Dz)) (A4 (Bw A9.toXCall.own rfl (BU (c:=true) rfl T.Cu (Ac (AU hr 16 (by decide)) (A1 0 (pv 0)) A6)) (AS 3 DJ.nd rfl (Or.inr rfl)) (A4 (AQ 4 DJ.nd rfl (Or.inr rfl) (Ai (Aa A9.toXCall (NW T) (hr.mono (by decide)) rfl (A2 (A1 0 (pv 0)) (A2 (A1 3 (pv 3)) A7)) rfl))) (A5 (Y5 (BZ 2 (pv 2)) (by exact (Cs (NB:=["w","u","laid","costs"]) [none,some 3,some 1,some 4] rfl (BU (c:=true) rfl T.Cu (Ac (AU hr 16 (by decide)) (A1 0 (pv 0)) A6)) rfl rfl (BO 0 (by decide) rfl rfl rfl) (fun _ _ _ _=>Fz (DW.dt (Iw (ML (c:=true) (AU hr 16 (by decide)) (AL (A2 (A1 1 (pv 1)) (A2 (A1 0 (pv 0)) A7))) (A1 2 (pv 2))) (Hm (J7 (c:=true) (AU hr 16 (by decide)) (Ac (AU hr 16 (by decide)) (Ac (AU hr 16 (by decide)) (A1 2 (pv 2)) (AL (A2 (A1 1 (pv 1)) (A2 (A1 0 (pv 0)) A7)))) A6) (Ac (AU hr 16 (by decide)) (A1 3 (pv 3)) (A1 0 (pv 0)))))))) (fun _ _ _ _=>(AL (A2 (A1 1 (pv 1)) (A2 (A1 0 (pv 0)) A7)))))))))) (A5 (CL 2 (pv 2)))))),?_⟩
 intro m rs A hm Av hA
 have e0:AK ["net","laid","kept","u","costs"] [As m rs,L5 A]=[some (.val (As m rs)),some (.val (L5 A)),none,none,none]:=rfl
 rw[e0]
 refine (fun h:∃ t,_/\∃ K:List (Int×Int),t=.lst ((K.map pD).map .sh)/\K.Nodup/\∀ p,p∈K↔KP rs A p=>by
  obtain⟨t,h1,K,rfl,h2⟩:=h
  exact⟨K,h1,h2⟩) (L1 ?_)
 have n0:B4 (As m rs) (.int 0)=.ok (.int m):=rfl
 have hr:R4 (.int (m:Int))=.ok ((AV m).map D.int):=by rw[Ff (by omega),TB]
 have hl:((AV m).map D.int).length<=1000:=by rw[zc,Fl];omega
 apply wp_step
 ·rfl
 try simp only[zt,zm]
 refine BW (I:=fun ρ=>∃(K:List (Int×Int)) (s3 s4:Option Cl),ρ=[some (.val (As m rs)),some (.val (L5 A)),some (.own (K.map pD)),s3,s4]/\K.Nodup/\∀ p,p∈K↔KP rs A p) ?_ ?_
 ·simp_arith[n0,hr]
  refine Bx (fun i ρ=>i<=m/\∃(K:List (Int×Int)) (s3 s4:Option Cl),ρ=[some (.val (As m rs)),some (.val (L5 A)),some (.own (K.map pD)),s3,s4]/\K.Nodup/\∀ p,p∈K↔(p.1 < i/\KP rs A p)) ⟨zX _,[],none,none,rfl,za1,fun p=>⟨(fun h=>by cases h),fun h=>by
   obtain⟨c,hc,_⟩:=h.2
   have:=(hA.rg p (Fn hc)).2.1
   omega⟩⟩ ?_ ?_
  ·rintro i d ρ hd ⟨hi,K,s3,s4,rfl,hn,hK⟩
   obtain⟨u,hu,rfl⟩:=BQ hd
   have aj:i < m:=by have:=(zy.mp hu).1;rw[Fl] at this;exact this
   have eu:u=(i:Int):=by
    unfold AV at hu
    rw[zD,List.getElem?_range aj] at hu
    exact (zI hu).symm
   subst eu
   obtain⟨cs,hR,hF⟩:=F9 m i rs aj (by omega) Av
   refine⟨_,rfl,?_⟩
   apply wp_step
   ·simp_arith[hF];rfl
   try simp only[zt,zm]
   obtain⟨W,hW⟩:∃ W,W=(AV m).filter fun w=>qP A cs i w:=⟨_,rfl⟩
   have vq:∀ w,w∈W↔KP rs A ((i:Int),w):=fun w=>by
    rw[hW,yX,JX]
    constructor
    ·rintro ⟨hw,h⟩;exact (YR hR Av hw.1 hw.2).mp h
    ·intro h
     obtain⟨c,hc,_⟩:=id h
     have:=(hA.rg _ (Fn hc)).2.2
     exact⟨this,(YR hR Av this.1 this.2).mpr h⟩
   have xu:W.Nodup:=by rw[hW];exact (MV m).filter _
   have aK:(K++W.map fun w=>((i:Int),w)).Nodup:=by
    rw[zJ]
    refine⟨hn,List.pairwise_map.mpr (xu.imp fun {a b} ie e=>ie (by cases e;rfl)),fun x hx y hy e=>?_⟩
    subst e
    obtain⟨w,_,rfl⟩:=zE.mp hy
    have:=(hK _).mp hx
    simp at this
   have vt:∀ p,p∈K++W.map (fun w=>((i:Int),w))↔(p.1 < ((i + 1:Nat):Int)/\KP rs A p):=fun p=>by
    rw[zx,hK]
    constructor
    ·rintro (h|h)
     ·exact⟨by have:=h.1;omega,h.2⟩
     ·obtain⟨w,hw,rfl⟩:=zE.mp h
      exact⟨by dsimp only;omega,(vq w).mp hw⟩
    ·rintro ⟨h1,h2⟩
     by_cases e:p.1 < (i:Int)
     ·exact .inl ⟨e,h2⟩
     ·have e2:p.1=(i:Int):=by omega
      obtain⟨p1,p2⟩:=p
      dsimp only at e2
      subst e2
      exact .inr (zE.mpr ⟨p2,(vq p2).mpr h2,rfl⟩)
   have hlen:=mK hA hm aK fun p hp=>((vt p).mp hp).2
   have hb:(K.map pD).length + ((W.map fun w=>((i:Int),w)).map pD).length<=1000:=by
    rw[zL] at hlen
    rw[zc,zc]
    omega
   refine Ba (ρ':=[some (.val (As m rs)),some (.val (L5 A)),some (.own ((K++W.map fun w=>((i:Int),w)).map pD)),some (.val (.int i)),some (.val (.lst (cs.map cst)))]) ?_ ⟨aj,_,_,_,rfl,aK,vt⟩
   have t1:∀ a b:Int,D.tup [.int a,.int b]=pD (a,b):=fun a b=>rfl
   simp_arith[n0,hr,if_pos hl]
   rw[Cw (fun w=>qP A cs i w) (fun w=>pD ((i:Int),w)) (fun w hw=>⟨_,rfl,by
    have vw:=JX.mp hw
    have x1:B4 (.lst (cs.map cst)) (.int w)=.ok (cst (atC cs w)):=CK vw.1 (by rw[hR.1];exact vw.2)
    have de:=Q4 A ((i:Int),w) false
    unfold qP Al
    cases q:AF A ((i:Int),w) with
    |none =>
     rw[q] at de
     simp_arith[t1,de]
     rfl
    |some v =>
     rw[q] at de
     have hit:=Q5 q
     have h0:B4 (Wm v) (.int 0)=.ok (cst (some v.1)):=rfl
     have he:=Pt (some v.1) (atC cs w)
     simp_arith[t1,de,hit,h0,x1,he]
     rfl,fun _=>by simp_arith[t1]⟩)]
   rw[<-hW]
   have ew:W.map (fun w=>pD ((i:Int),w))=(W.map fun w=>((i:Int),w)).map pD:=by rw[yF];rfl
   rw[ew]
   simp_arith[if_pos hb]
   rw[<-zK]
  ·rintro ρ ⟨_,K,s3,s4,rfl,hn,hK⟩
   refine⟨K,s3,s4,rfl,hn,fun p=>(hK p).trans ⟨fun h=>h.2,fun h=>⟨?_,h⟩⟩⟩
   obtain⟨c,hc,_⟩:=h
   have:=(hA.rg p (Fn hc)).2.1
   rw[zc,Fl]
   omega
 ·rintro ρ ⟨K,s3,s4,rfl,hn,hK⟩
  exact⟨_,rfl,K,rfl,hn,hK⟩
noncomputable def Nr:List D->M OT:=zi FU
theorem Qq:Txt K mg->BY P w K mg base "kept_arcs" 3 2 Nr:=(zb FU).1
theorem Qr:∀(m:Nat) (rs:List Road) (A:LA),m<=20->(∀ r∈rs,Hq m r)->Fp m A->∃ K:List (Int×Int),Nr [As m rs,L5 A]=.ok (.lst ((K.map pD).map .sh))/\K.Nodup/\∀ p,p∈K↔KP rs A p:=(zb FU).2
theorem CB:∃ F:OT->List D->M (OT×OT),(∀ {P:Program}{w:World}{K:za}{mg:Str->Option Value}{base:Heap},Txt K mg->ON P w K mg base "Ladder" 6 3 F)/\(∀(m:Nat) (rs:List Road) (o:D) (L:List Int),1<=m->m<=16->rs.length<=60->(∀ r∈rs,MY m r)->L.Perm (AV m)->(o=.lst (L.map D.int)\/(o=.AA/\L=Ss m (BC rs) (AV m)))->∃(A:LA) (K:List (Int×Int)),C9 m rs L A K/\∃ t,F (.ins "Ladder" [] []) [As m rs,o]=.ok (t,.sh .AA)/\er t=B0 m rs L A K):=by
 refine⟨_,fun T=>YB (k:=5) T.Kb IM _ (fun f B2 A outer s H E hr=>(A4 (LX ["Ladder"] (Bp T.BH C1) (BZ 0 (pv 0)) (Ai (Aa A9.toXCall (TY T) (hr.mono (by decide)) rfl (A2 (A1 1 (pv 1)) A7) rfl))) (A4 (LX ["Ladder"] (Bp T.Cy C1) (BZ 0 (pv 0)) (Ai (Eg (Aa A9.toXCall (IT T) (hr.mono (by decide)) rfl (A2 (F3 ["Ladder"] (Bp T.BH C1) (A1 0 (pv 0))) (A2 (A1 2 (pv 2)) A7)) rfl)))) (A4 (LX ["Ladder"] (Bp T.Di C1) (BZ 0 (pv 0)) (Ai (Eg (Aa A9.toXCall (Qo T) (hr.mono (by decide)) rfl (A2 (F3 ["Ladder"] (Bp T.BH C1) (A1 0 (pv 0))) (A2 (F3 ["Ladder"] (Bp T.Cy C1) (A1 0 (pv 0))) A7)) rfl)))) (A5 (LX ["Ladder"] (Bp T.Em C1) (BZ 0 (pv 0)) (Ai (Eg (Aa A9.toXCall (Qq T) (hr.mono (by decide)) rfl (A2 (F3 ["Ladder"] (Bp T.BH C1) (A1 0 (pv 0))) (A2 (F3 ["Ladder"] (Bp T.Di C1) (A1 0 (pv 0))) A7)) rfl))))))))),?_⟩
 intro m rs o L dh ce cn gf hL ho
 have Av:∀ r∈rs,Hq m r/\r.a≠r.b:=fun r hr=>(gf r hr).vH
 have qv:=Yn dh ce cn gf
 have h1:=TZ.1 m rs qv cn
 have h2:Cg [As m rs,o]=.ok (.lst ((L.map D.int).map .sh)):=by
  rcases ho with rfl|⟨rfl,rfl⟩
  ·exact (Es m rs (by omega) Av).1 L hL
  ·exact (Es m rs (by omega) Av).2
 have h3:=Qp m rs L (by omega) hL Av
 have hA:=(N4 hL Av).1
 obtain⟨K,h4,hn,hK⟩:=Qr m rs (BR rs L) (by omega) (fun r hr=>(Av r hr).1) hA
 refine⟨BR rs L,K,⟨dh,ce,cn,Av,hL,rfl,hn,hK⟩,.ins "Ladder" ["own_map","own_order","laid","kept_ones"] [.sh (As m rs),.sh (.lst (L.map D.int)),.sh (L5 (BR rs L)),.sh (.lst (K.map pD))],?_,rfl⟩
 have e0:CW ["self","net","order"] (.ins "Ladder" [] []) [As m rs,o]=[some (.ow (.tree (some 0) (.ins "Ladder" [] []))),some (.val (As m rs)),some (.val o)]:=rfl
 rw[e0]
 refine Tz ?_
 have e1:er (.tup [.sh (.int m),.lst ((rs.map BI).map .sh)])=As m rs:=by rw[fH,Ru,Kw];rfl
 have T:∀(ns:List Str) (ds:List D),er (.ins "Ladder" ns (ds.map .sh))=.ins "Ladder" ns ds:=fun ns ds=>by rw[er,Py]
 have T1:=T ["own_map"] [As m rs]
 have T2:=T ["own_map","own_order"] [As m rs,.lst (L.map D.int)]
 have T3:=T ["own_map","own_order","laid"] [As m rs,.lst (L.map D.int),L5 (BR rs L)]
 simp only[zg,zan] at T1 T2 T3
 have d1:=YS L
 have d2:=fY (BR rs L)
 have d3:=fX K
 have f1:NL ["Ladder"] "own_map" (.ins "Ladder" ["own_map"] [As m rs])=.ok (As m rs):=rfl
 have f2:NL ["Ladder"] "own_map" (.ins "Ladder" ["own_map","own_order"] [As m rs,.lst (L.map D.int)])=.ok (As m rs):=rfl
 have f3:NL ["Ladder"] "own_order" (.ins "Ladder" ["own_map","own_order"] [As m rs,.lst (L.map D.int)])=.ok (.lst (L.map D.int)):=rfl
 have f4:NL ["Ladder"] "own_map" (.ins "Ladder" ["own_map","own_order","laid"] [As m rs,.lst (L.map D.int),L5 (BR rs L)])=.ok (As m rs):=rfl
 have f5:NL ["Ladder"] "laid" (.ins "Ladder" ["own_map","own_order","laid"] [As m rs,.lst (L.map D.int),L5 (BR rs L)])=.ok (L5 (BR rs L)):=rfl
 refine wp_step (ρ':=[some (.ow (.tree (some 0) (.ins "Ladder" ["own_map"] [.sh (As m rs)]))),some (.val (As m rs)),some (.val o)]) (by simp_arith[h1,e1];rfl) ?_
 refine wp_step (ρ':=[some (.ow (.tree (some 0) (.ins "Ladder" ["own_map","own_order"] [.sh (As m rs),.sh (.lst (L.map D.int))]))),some (.val (As m rs)),some (.val o)]) (by simp_arith[T1,f1,h2,d1];rfl) ?_
 refine wp_step (ρ':=[some (.ow (.tree (some 0) (.ins "Ladder" ["own_map","own_order","laid"] [.sh (As m rs),.sh (.lst (L.map D.int)),.sh (L5 (BR rs L))]))),some (.val (As m rs)),some (.val o)]) (by simp_arith[T2,f2,f3,h3,d2];rfl) ?_
 refine Ba (ρ':=[some (.ow (.tree (some 0) (.ins "Ladder" ["own_map","own_order","laid","kept_ones"] [.sh (As m rs),.sh (.lst (L.map D.int)),.sh (L5 (BR rs L)),.sh (.lst (K.map pD))]))),some (.val (As m rs)),some (.val o)]) (by simp_arith[T3,f4,f5,h4,d3];rfl) ⟨rfl,rfl⟩
noncomputable def Ci:OT->List D->M (OT×OT):=zi CB
theorem Et:Txt K mg->ON P w K mg base "Ladder" 6 3 Ci:=(zb CB).1
theorem Eu:∀(m:Nat) (rs:List Road) (o:D) (L:List Int),1<=m->m<=16->rs.length<=60->(∀ r∈rs,MY m r)->L.Perm (AV m)->(o=.lst (L.map D.int)\/(o=.AA/\L=Ss m (BC rs) (AV m)))->∃(A:LA) (K:List (Int×Int)),C9 m rs L A K/\∃ t,Ci (.ins "Ladder" [] []) [As m rs,o]=.ok (t,.sh .AA)/\er t=B0 m rs L A K:=(zb CB).2
theorem Ew:∃ F:List D->M OT,(∀ {P:Program}{w:World}{K:za}{mg:Str->Option Value}{base:Heap},Txt K mg->BY P w K mg base "_law_cell_at" 1 2 F)/\(∀(ns:List Int) (k:Nat),(∀ n∈ns,Sm n)->∃ v:Int,Sm v/\F [.lst (ns.map D.int),.int k]=.ok (.sh (.int v))):=by
 refine⟨_,fun T=>AE (k:=0) T.NT Nb _ (fun f B2 A outer s H E hr=>(A4 (Be (pL (c:=true) (A1 1 (pv 1)) (EY rfl T.Ic (A1 0 (pv 0)))) (A5 (Ao (B9 (Ac (AU hr 16 (by decide)) (A1 0 (pv 0)) (A1 1 (pv 1)))))) AD) (A5 (Ao (B9 A6))))),?_⟩
 intro ns k bF
 have e0:AK ["_law_script","_law_k"] [.lst (ns.map D.int),.int k]=[some (.val (.lst (ns.map D.int))),some (.val (.int k))]:=rfl
 rw[e0]
 by_cases hk:(k:Int) < ((ns.map D.int).length:Int)
 ·have vx:=hk
  rw[zc] at vx
  have i1:B4 (.lst (ns.map D.int)) (.int k)=.ok (.int (ns[k]'(by omega))):=Ji (by omega) (by rw[yN];exact zq _)
  refine⟨ns[k]'(by omega),bF _ (List.getElem_mem _),BB ?_⟩
  simp_arith[decide_eq_true hk,i1]
  rfl
 ·refine⟨0,by unfold Sm;decide,BB ?_⟩
  simp_arith[decide_eq_false hk]
  rfl
noncomputable def CT:List D->M OT:=zi Ew
theorem CU:Txt K mg->BY P w K mg base "_law_cell_at" 1 2 CT:=(zb Ew).1
theorem Ex:∀(ns:List Int) (k:Nat),(∀ n∈ns,Sm n)->∃ v:Int,Sm v/\CT [.lst (ns.map D.int),.int k]=.ok (.sh (.int v)):=(zb Ew).2
theorem IU:∃ F:List D->M OT,(∀ {P:Program}{w:World}{K:za}{mg:Str->Option Value}{base:Heap},Txt K mg->BY P w K mg base "_law_mix" 1 2 F)/\(∀ c k:Int,0<=k->k<=1000->∃ v:Int,0<=v/\F [.int c,.int k]=.ok (.sh (.int v))):=by
 refine⟨_,fun T=>AE (k:=0) T.Ww Nc _ (fun f B2 A outer s H E hr=>(A4 (AQ 2 Nc.nd rfl (zY rfl) (BG (BM (BM (BM (FA (A1 0 (pv 0)) A6) (FA (FA (A1 1 (pv 1)) (A1 1 (pv 1))) A6)) (FA A6 (A1 1 (pv 1)))) A6) A6)) (A5 (Ao (B9 (BG (FA (A1 2 (pv 2)) (A1 2 (pv 2))) A6)))))),?_⟩
 intro c k h0 h1
 have e0:AK ["_law_cell","_law_k","_law_number"] [.int c,.int k]=[some (.val (.int c)),some (.val (.int k)),none]:=rfl
 rw[e0]
 have m1:I0 (.int c) (.int 48271)=.ok (.int (c * 48271)):=Ed (.inr (.inr (.inr (by decide))))
 have m2:I0 (.int k) (.int k)=.ok (.int (k * k)):=Ed (.inr (.inr (.inr ⟨by omega,by omega⟩)))
 have m3:I0 (.int (k * k)) (.int 69621)=.ok (.int (k * k * 69621)):=Ed (.inr (.inr (.inr (by decide))))
 have m4:I0 (.int 11) (.int k)=.ok (.int (11 * k)):=Ed (.inr (.inr (.inr ⟨by omega,by omega⟩)))
 have q1:Eb (.int (c * 48271 + k * k * 69621 + 11 * k + 1)) (.int 2147483647)=.ok (.int ((c * 48271 + k * k * 69621 + 11 * k + 1) % 2147483647)):=AO (by decide)
 obtain⟨x,hx⟩:∃ x,x=(c * 48271 + k * k * 69621 + 11 * k + 1) % 2147483647:=⟨_,rfl⟩
 have x0:0<=x:=by omega
 have x1:x < 2147483647:=by omega
 have m5:I0 (.int x) (.int x)=.ok (.int (x * x)):=Ed (.inr (.inr (.inr ⟨by omega,by omega⟩)))
 have q2:Eb (.int (x * x)) (.int 2147483629)=.ok (.int (x * x % 2147483629)):=AO (by decide)
 refine⟨x * x % 2147483629,zaa _ (by decide),BB ?_⟩
 rw[<-hx] at q1
 apply wp_step
 ·simp_arith[m1,m2,m3,m4,q1];rfl
 simp_arith[m5,q2]
 rfl
noncomputable def Sj:List D->M OT:=zi IU
theorem Ey:Txt K mg->BY P w K mg base "_law_mix" 1 2 Sj:=(zb IU).1
theorem Ez:∀ c k:Int,0<=k->k<=1000->∃ v:Int,0<=v/\Sj [.int c,.int k]=.ok (.sh (.int v)):=(zb IU).2
theorem FV:∃ F:List D->M OT,(∀ {P:Program}{w:World}{K:za}{mg:Str->Option Value}{base:Heap},Txt K mg->BY P w K mg base "_law_great" 1 2 F)/\(∀ c k:Int,Sm c->0<=k->k<=100->∃ v:Int,(0<=v/\v < L4)/\F [.int c,.int k]=.ok (.sh (.int v))):=by
 refine⟨_,fun T=>AE (k:=0) T.RZ Qc _ (fun f B2 A outer s H E hr=>(A5 (Ao (B9 (BG (FA (BM (BM (A1 0 (pv 0)) (FA (A1 1 (pv 1)) (A1 1 (pv 1)))) A6) A6) (Xp A6 A6)))))),?_⟩
 intro c k hs h0 h1
 have ht:=PP
 have e0:AK ["_law_cell","_law_k"] [.int c,.int k]=[some (.val (.int c)),some (.val (.int k))]:=rfl
 rw[e0]
 have m2:I0 (.int k) (.int k)=.ok (.int (k * k)):=Ed (.inr (.inr (.inr ⟨by omega,by omega⟩)))
 have hk:0<=k * k:=Int.mul_nonneg h0 h0
 have vx:k * k<=100 * 100:=Int.mul_le_mul h1 h1 h0 (by decide)
 have hb:PySem.Builtin.Int.intBits (c + (k * k + 1))<=2 ^ 20 + 1:=VL hs (by omega)
 have m3:I0 (.int (c + (k * k + 1))) (.int 5172390846617502938471650293846571029384756102938477)=.ok (.int ((c + (k * k + 1)) * 5172390846617502938471650293846571029384756102938477)):=Ed (.inl ⟨hb,bits_le (by decide)⟩)
 rw[<-zb3] at m3
 refine⟨(c + k * k + 1) * 5172390846617502938471650293846571029384756102938477 % L4,⟨zaa _ (by omega),za4 _ (by omega)⟩,BB ?_⟩
 simp_arith[m2,m3,iG,fG]
 rfl
noncomputable def Nt:List D->M OT:=zi FV
theorem Qs:Txt K mg->BY P w K mg base "_law_great" 1 2 Nt:=(zb FV).1
theorem Qt:∀ c k:Int,Sm c->0<=k->k<=100->∃ v:Int,(0<=v/\v < L4)/\Nt [.int c,.int k]=.ok (.sh (.int v)):=(zb FV).2
theorem FX:∃ F:List D->M OT,(∀ {P:Program}{w:World}{K:za}{mg:Str->Option Value}{base:Heap},Txt K mg->BY P w K mg base "_law_whole" 1 1 F)/\(∀ i:Int,F [.int i]=.ok (.sh (.bl true))):=by
 refine⟨_,fun T=>AE (k:=0) T.S0 Qd _ (fun f B2 A outer s H E hr=>(A5 (Ao (B9 (Pn (Fy (R3 _) rfl T.Bd rfl T.Z5 (by decide +kernel) (A1 0 (pv 0))) (Pm (Xr (Fy (Oh _) rfl T.Bd rfl T.Z3 (by decide +kernel) (A1 0 (pv 0)))))))))),?_⟩
 intro i
 rfl
noncomputable def Nu:List D->M OT:=zi FX
theorem Qu:Txt K mg->BY P w K mg base "_law_whole" 1 1 Nu:=(zb FX).1
theorem Qv:∀ i:Int,Nu [.int i]=.ok (.sh (.bl true)):=(zb FX).2
theorem FY:∃ F:List D->M OT,(∀ {P:Program}{w:World}{K:za}{mg:Str->Option Value}{base:Heap},Txt K mg->BY P w K mg base "_law_roads" 2 2 F)/\(∀(cells:List Int) (m:Nat),1<=m->m<=16->cells.length<=60->(∀ c∈cells,Sm c)->∃ rs:List Road,rs.length<=cells.length/\(∀ r∈rs,MY m r)/\F [.lst (cells.map D.int),.int m]=.ok (.lst ((rs.map BI).map .sh))):=by
 refine⟨_,fun T=>AE (k:=1) T.S1 Bc _ (fun f B2 A outer s H E hr=>(A4 (BD 2 Bc.nd rfl (zY rfl) (GC Dz)) (A4 (Bw A9.toXCall.own rfl (BU (c:=true) rfl T.Cu (EY rfl T.Ic (A1 0 (pv 0)))) (AS 3 Bc.nd rfl (zY rfl)) (A4 (AQ 4 Bc.nd rfl (zY rfl) (Ai (Aa A9.toXCall (Ey T) (hr.mono (by decide)) rfl (A2 (Ac (AU hr 16 (by decide)) (A1 0 (pv 0)) (A1 3 (pv 3))) (A2 (A1 3 (pv 3)) A7)) rfl))) (A4 (AQ 5 Bc.nd rfl (zY rfl) (Ai (Aa A9.toXCall (Qs T) (hr.mono (by decide)) rfl (A2 (Ac (AU hr 16 (by decide)) (A1 0 (pv 0)) (A1 3 (pv 3))) (A2 (A1 3 (pv 3)) A7)) rfl))) (A5 (Be (IA (DW.dt (Iw (Ul (c:=true) (A1 1 (pv 1)) A6) (Iw (Ul (c:=true) (EY rfl T.Ic (A1 2 (pv 2))) A6) (Hm (J7 (c:=true) (AU hr 16 (by decide)) (BG (A1 4 (pv 4)) A6) A6)))))) (A5 (DM 2 (pv 2) (dG (lF (c:=true) (Ac (AU hr 16 (by decide)) (A1 2 (pv 2)) (BG (Fw (A1 4 (pv 4)) A6) (EY rfl T.Ic (A1 2 (pv 2))))))))) (A5 (Be (Ul (c:=true) (A1 1 (pv 1)) A6) (A4 (AQ 6 Bc.nd rfl (zY rfl) (BG (Fw (A1 4 (pv 4)) A6) (A1 1 (pv 1)))) (A4 (AQ 7 Bc.nd rfl (zY rfl) (BG (BM (BM (A1 6 (pv 6)) A6) (BG (Fw (A1 4 (pv 4)) A6) (kK (A1 1 (pv 1)) A6))) (A1 1 (pv 1)))) (A4 (AQ 8 Bc.nd rfl (zY rfl) (Fw (A1 4 (pv 4)) A6)) (A4 (AQ 9 Bc.nd rfl (zY rfl) (Ac (AU hr 16 (by decide)) (Gv (A2 Dq (A2 A6 (A2 A6 (A2 A6 (A2 (BG (A1 8 (pv 8)) A6) (A2 (BG (A1 8 (pv 8)) A6) (A2 (A1 5 (pv 5)) (A2 (A1 5 (pv 5)) A7))))))))) (BG (Fw (A1 4 (pv 4)) A6) A6))) (A5 (DM 2 (pv 2) (AL (A2 (A1 6 (pv 6)) (A2 (A1 7 (pv 7)) (A2 (A1 9 (pv 9)) (A2 (Ac (AU hr 16 (by decide)) (Gv (A2 (BG (A1 8 (pv 8)) A6) (A2 (A1 5 (pv 5)) A7))) (BG (A1 4 (pv 4)) A6)) A7))))))))))) AD))))))) (A5 (CL 2 (pv 2)))))),?_⟩
 intro cells m dh ce hl bF
 have ht:=PP
 have e0:AK ["_law_cells","_law_many","_law_roads_here","_law_k","_law_mixed","_law_great_here","_law_one","_law_other","_law_small","_law_length"] [.lst (cells.map D.int),.int m]=[some (.val (.lst (cells.map D.int))),some (.val (.int m)),none,none,none,none,none,none,none,none]:=rfl
 rw[e0]
 refine (fun h:∃ t,_/\∃ rs:List Road,t=.lst ((rs.map BI).map .sh)/\rs.length<=cells.length/\(∀ r∈rs,MY m r)=>by
  obtain⟨t,h1,rs,rfl,h2,h3⟩:=h
  exact⟨rs,h2,h3,h1⟩) (L1 ?_)
 have hr:R4 (.int ((cells.map D.int).length:Int))=.ok (C6 0 cells.length):=by rw[zc];exact Ff (by omega)
 apply wp_step
 ·rfl
 try simp only[zt,zm]
 refine BW (I:=fun ρ=>∃(rs:List Road) (s3 s4 s5 s6 s7 s8 s9:Option Cl),ρ=[some (.val (.lst (cells.map D.int))),some (.val (.int m)),some (.own (rs.map BI)),s3,s4,s5,s6,s7,s8,s9]/\rs.length<=cells.length/\∀ r∈rs,MY m r) ?_ ?_
 ·simp_arith[hr]
  refine Bx (fun i ρ=>i<=60/\∃(rs:List Road) (s3 s4 s5 s6 s7 s8 s9:Option Cl),ρ=[some (.val (.lst (cells.map D.int))),some (.val (.int m)),some (.own (rs.map BI)),s3,s4,s5,s6,s7,s8,s9]/\rs.length<=i/\∀ r∈rs,MY m r) ⟨by omega,[],none,none,none,none,none,none,none,rfl,by simp,fun r hr=>by cases hr⟩ ?_ ?_
  ·rintro i d ρ hd ⟨_,rs,s3,s4,s5,s6,s7,s8,s9,rfl,cn,Av⟩
   obtain⟨aJ,hi⟩:=Bv hd
   rw[zaz] at aJ
   subst aJ
   have hq:cells[i]? =some cells[i]:=zq hi
   have aq:=bF _ (List.getElem_mem hi)
   have x1:B4 (.lst (cells.map D.int)) (.int (i:Int))=.ok (.int cells[i]):=Ji (by omega) (by rw[yN];exact hq)
   obtain⟨v,v0,hv⟩:=Ez cells[i] i (by omega) (by omega)
   obtain⟨g,g0,hg⟩:=Qt cells[i] i aq (by omega) (by omega)
   have bB:(rs.map BI).length < 1000:=by rw[zc];omega
   refine⟨_,rfl,?_⟩
   apply wp_step
   ·simp_arith[x1,hv];rfl
   try simp only[zt,zm]
   apply wp_step
   ·simp_arith[x1,hg];rfl
   try simp only[zt,zm]
   have d7:J5 (.int v) (.int 7)=.ok (.int (v / 7)):=DV ⟨by decide,by decide⟩
   have q7:Eb (.int v) (.int 7)=.ok (.int (v % 7)):=AO (by decide)
   by_cases hm:(1:Int) < (m:Int)
   ·have di:(0:Int) < (m:Int):=by omega
    have j0:(0:Int) < (m:Int) - 1:=by omega
    by_cases hz:(0:Int) < ((rs.map BI).length:Int)/\v % 7=3
    ·have hlen:0 < (rs.map BI).length:=by omega
     obtain⟨p1,y,hy,p2⟩:=Yo hlen (show 0<=v / 7 by omega)
     obtain⟨r,bq,rfl⟩:=zE.mp hy
     refine Ba (ρ':=[some (.val (.lst (cells.map D.int))),some (.val (.int m)),some (.own ((rs++[r]).map BI)),some (.val (.int i)),some (.val (.int v)),some (.val (.int g)),s6,s7,s8,s9]) ?_ ⟨by omega,rs++[r],_,_,_,_,_,_,_,rfl,by simp;omega,fun r2 j1=>by
      rcases zx.mp j1 with h|h
      ·exact Av r2 h
      ·rw[zh.mp h];exact Av r bq⟩
     simp_arith[decide_eq_true hm,decide_eq_true hz.1,q7,decide_eq_true hz.2,d7,p1,p2,if_pos bB,if_true]
     rw[zK]
     rfl
    ·obtain⟨o,ho⟩:∃ o,o=v / 7 % (m:Int):=⟨_,rfl⟩
     obtain⟨o',bC⟩:∃ o',o'=(o + 1 + v / 112 % ((m:Int) - 1)) % (m:Int):=⟨_,rfl⟩
     have o0:0<=o:=by rw[ho];exact zaa _ (by omega)
     have o1:o < m:=by rw[ho];exact za4 _ di
     have p0:0<=o':=by rw[bC];exact zaa _ (by omega)
     have p1:o' < m:=by rw[bC];exact za4 _ di
     have s0:0<=v / 112 % ((m:Int) - 1):=zaa _ (by omega)
     have s1:v / 112 % ((m:Int) - 1) < (m:Int) - 1:=za4 _ j0
     have ie:o≠o':=by
      have:=lM (a:=o) (s:=1 + v / 112 % ((m:Int) - 1)) (m:=m) o0 o1 (by omega) (by omega)
      rw[bC,zb3]
      exact fun z=>this z.symm
     have j3:J5 (.int v) (.int 112)=.ok (.int (v / 112)):=DV ⟨by decide,by decide⟩
     have d9:J5 (.int v) (.int 8064)=.ok (.int (v / 8064)):=DV ⟨by decide,by decide⟩
     have dL:J5 (.int v) (.int 1008)=.ok (.int (v / 1008)):=DV ⟨by decide,by decide⟩
     have q1:Eb (.int (v / 7)) (.int (m:Int))=.ok (.int o):=by rw[ho];exact AO di
     have q2:Eb (.int (v / 112)) (.int ((m:Int) - 1))=.ok (.int (v / 112 % ((m:Int) - 1))):=AO j0
     have q3:Eb (.int (o + 1 + v / 112 % ((m:Int) - 1))) (.int (m:Int))=.ok (.int o'):=by rw[bC];exact AO di
     have q4:Eb (.int (v / 8064)) (.int 3)=.ok (.int (v / 8064 % 3)):=AO (by decide)
     have q5:Eb (.int (v / 8064)) (.int 100)=.ok (.int (v / 8064 % 100)):=AO (by decide)
     have q6:Eb (.int (v / 1008)) (.int 8)=.ok (.int (v / 1008 % 8)):=AO (by decide)
     have q8:Eb (.int (v / 8064)) (.int 5)=.ok (.int (v / 8064 % 5)):=AO (by decide)
     have q9:Eb (.int v) (.int 2)=.ok (.int (v % 2)):=AO (by decide)
     obtain⟨l,a4,l0⟩:=mM (a:=v / 8064 % 3) (b:=v / 8064 % 100) (g:=g) (i:=v / 1008 % 8) (by omega) (by omega) g0 (by omega) (by omega)
     obtain⟨w,vy,w0⟩:=mO (a:=v / 8064 % 5) (b:=g) (i:=v % 2) (by omega) g0 (by omega) (by omega)
     have vz:D.tup [.int o,.int o',GB l,.int w]=BI ⟨o,o',l,w⟩:=rfl
     rcases Classical.em ((0:Int) < ((rs.map BI).length:Int)) with bE|bE
     ·have nz:¬ v % 7=3:=fun z=>hz ⟨bE,z⟩
      simp_arith[decide_eq_true hm,decide_eq_true bE,q7,decide_eq_false nz,zF,if_false,if_true]
      apply wp_step
      ·simp_arith[d7,q1];rfl
      apply wp_step
      ·simp_arith[j3,q2,q3];rfl
      apply wp_step
      ·simp_arith[d9];rfl
      apply wp_step
      ·simp_arith[q4,q5,dL,q6,a4];rfl
      refine Ba (ρ':=[some (.val (.lst (cells.map D.int))),some (.val (.int m)),some (.own ((rs++[(⟨o,o',l,w⟩:Road)]).map BI)),some (.val (.int i)),some (.val (.int v)),some (.val (.int g)),some (.val (.int o)),some (.val (.int o')),some (.val (.int (v / 8064))),some (.val (GB l))]) (by simp_arith[q8,q9,vy,vz,if_pos bB,zK,zg,zan]) ⟨by omega,_,_,_,_,_,_,_,_,rfl,by simp;omega,fun r2 j1=>by
       rcases zx.mp j1 with h|h
       ·exact Av r2 h
       ·rw[zh.mp h];exact⟨o0,o1,p0,p1,ie,l0,w0.1,w0.2⟩⟩
     ·simp_arith[decide_eq_true hm,decide_eq_false bE,zF,if_false,if_true]
      apply wp_step
      ·simp_arith[d7,q1];rfl
      apply wp_step
      ·simp_arith[j3,q2,q3];rfl
      apply wp_step
      ·simp_arith[d9];rfl
      apply wp_step
      ·simp_arith[q4,q5,dL,q6,a4];rfl
      refine Ba (ρ':=[some (.val (.lst (cells.map D.int))),some (.val (.int m)),some (.own ((rs++[(⟨o,o',l,w⟩:Road)]).map BI)),some (.val (.int i)),some (.val (.int v)),some (.val (.int g)),some (.val (.int o)),some (.val (.int o')),some (.val (.int (v / 8064))),some (.val (GB l))]) (by simp_arith[q8,q9,vy,vz,if_pos bB,zK,zg,zan]) ⟨by omega,_,_,_,_,_,_,_,_,rfl,by simp;omega,fun r2 j1=>by
       rcases zx.mp j1 with h|h
       ·exact Av r2 h
       ·rw[zh.mp h];exact⟨o0,o1,p0,p1,ie,l0,w0.1,w0.2⟩⟩
   ·refine Ba (ρ':=_) (by simp_arith[decide_eq_false hm];rfl) ⟨by omega,rs,_,_,_,_,_,_,_,rfl,by omega,Av⟩
  ·rintro ρ ⟨_,rs,s3,s4,s5,s6,s7,s8,s9,rfl,cn,Av⟩
   rw[B6] at cn
   exact⟨rs,s3,s4,s5,s6,s7,s8,s9,rfl,cn,Av⟩
 ·rintro ρ ⟨rs,s3,s4,s5,s6,s7,s8,s9,rfl,cn,Av⟩
  exact⟨_,rfl,rs,rfl,cn,Av⟩
noncomputable def Nv:List D->M OT:=zi FY
theorem Qw:Txt K mg->BY P w K mg base "_law_roads" 2 2 Nv:=(zb FY).1
theorem Qx:∀(cells:List Int) (m:Nat),1<=m->m<=16->cells.length<=60->(∀ c∈cells,Sm c)->∃ rs:List Road,rs.length<=cells.length/\(∀ r∈rs,MY m r)/\Nv [.lst (cells.map D.int),.int m]=.ok (.lst ((rs.map BI).map .sh)):=(zb FY).2
theorem FZ:∃ F:List D->M OT,(∀ {P:Program}{w:World}{K:za}{mg:Str->Option Value}{base:Heap},Txt K mg->BY P w K mg base "_law_order" 2 2 F)/\(∀(c:Int) (m:Nat),m<=60->∃ L:List Int,L.Perm (AV m)/\F [.int c,.int m]=.ok (.lst ((L.map D.int).map .sh))):=by
 refine⟨_,fun T=>AE (k:=1) T.S2 FK _ (fun f B2 A outer s H E hr=>(A4 (BD 2 FK.nd rfl (zY rfl) (GC Dz)) (A4 (Bw A9.toXCall.own rfl (BU (c:=true) rfl T.Cu (A1 1 (pv 1))) (AS 3 FK.nd rfl (zY rfl)) (A5 (VX 2 (pv 2) (BG (Ai (Aa A9.toXCall (Ey T) (hr.mono (by decide)) rfl (A2 (A1 0 (pv 0)) (A2 (BM A6 (A1 3 (pv 3))) A7)) rfl)) (BM (A1 3 (pv 3)) A6)) (A1 3 (pv 3))))) (A5 (CL 2 (pv 2)))))),?_⟩
 intro c m hm
 have e0:AK ["_law_cell","_law_many","_law_order_here","_law_place"] [.int c,.int m]=[some (.val (.int c)),some (.val (.int m)),none,none]:=rfl
 rw[e0]
 refine (fun h:∃ t,_/\∃ L:List Int,t=OT.lst ((L.map D.int).map .sh)/\L.Perm (AV m)=>by
  obtain⟨t,h1,L,rfl,h2⟩:=h
  exact⟨L,h2,h1⟩) (L1 ?_)
 have hr:=Ff (n:=m) (by omega)
 apply wp_step
 ·rfl
 try simp only[zt,zm]
 refine BW (I:=fun ρ=>∃(L:List Int) (s3:Option Cl),ρ=[some (.val (.int c)),some (.val (.int m)),some (.own (L.map D.int)),s3]/\L.Perm (AV m)) ?_ ?_
 ·simp_arith[hr]
  refine Bx (fun i ρ=>i<=m/\∃(L:List Int) (s3:Option Cl),ρ=[some (.val (.int c)),some (.val (.int m)),some (.own (L.map D.int)),s3]/\L.Perm (AV i)) ⟨zX _,[],none,rfl,.refl _⟩ ?_ ?_
  ·rintro i d ρ hd ⟨_,L,s3,rfl,hL⟩
   obtain⟨aJ,hi⟩:=Bv hd
   rw[zaz] at aJ
   subst aJ
   have hlen:=GJ hL
   refine⟨_,rfl,?_⟩
   obtain⟨v,v0,hv⟩:=Ez c (40 + i) (by omega) (by omega)
   have dh:Eb (.int v) (.int ((i:Int) + 1))=.ok (.int (v % ((i:Int) + 1))):=AO (by omega)
   have b0:0<=v % ((i:Int) + 1):=zaa _ (by omega)
   have b1:v % ((i:Int) + 1) < (i:Int) + 1:=za4 _ (by omega)
   refine Ba (ρ':=[some (.val (.int c)),some (.val (.int m)),some (.own ((L.take (v % ((i:Int) + 1)).toNat++(i:Int)::L.drop (v % ((i:Int) + 1)).toNat).map D.int)),some (.val (.int i))]) ?_ ⟨by omega,_,_,rfl,We hL _⟩
   simp_arith[hv,dh]
   rw[if_pos ⟨b0,by rw[zc];omega,by rw[zc];omega⟩]
   simp only[zK,zg,List.map_take,List.map_drop]
   rfl
  ·rintro ρ ⟨_,L,s3,rfl,hL⟩
   exact⟨L,s3,rfl,by rw[B6] at hL;exact hL⟩
 ·rintro ρ ⟨L,s3,rfl,hL⟩
  exact⟨_,rfl,L,rfl,hL⟩
noncomputable def Nw:List D->M OT:=zi FZ
theorem Qy:Txt K mg->BY P w K mg base "_law_order" 2 2 Nw:=(zb FZ).1
theorem Qz:∀(c:Int) (m:Nat),m<=60->∃ L:List Int,L.Perm (AV m)/\Nw [.int c,.int m]=.ok (.lst ((L.map D.int).map .sh)):=(zb FZ).2
theorem G0:∃ F:List D->M OT,(∀ {P:Program}{w:World}{K:za}{mg:Str->Option Value}{base:Heap},Txt K mg->BY P w K mg base "_law_added" 1 2 F)/\(∀ a b:Co,F [cst a,cst b]=.ok (.sh (cst (Aj a b)))):=by
 refine⟨_,fun T=>AE (k:=0) T.S3 Qe _ (fun f B2 A outer s H E hr=>(A4 (Be (DW.dt (Fd (Gw (c:=true) (A1 0 (pv 0))) (Ec (Gw (c:=true) (A1 1 (pv 1)))))) (A5 (Ao (B9 Dq))) AD) (A5 (Ao (B9 (AL (A2 (BM (Ac (AU hr 16 (by decide)) (A1 0 (pv 0)) A6) (Ac (AU hr 16 (by decide)) (A1 1 (pv 1)) A6)) (A2 (BM (Ac (AU hr 16 (by decide)) (A1 0 (pv 0)) A6) (Ac (AU hr 16 (by decide)) (A1 1 (pv 1)) A6)) A7)))))))),?_⟩
 intro a b
 rcases a with _|⟨a1,a2⟩<;>rcases b with _|⟨b1,b2⟩<;>rfl
noncomputable def Nx:List D->M OT:=zi G0
theorem Kd:Txt K mg->BY P w K mg base "_law_added" 1 2 Nx:=(zb G0).1
theorem Ke:∀ a b:Co,Nx [cst a,cst b]=.ok (.sh (cst (Aj a b))):=(zb G0).2
theorem G1:∃ F:List D->M OT,(∀ {P:Program}{w:World}{K:za}{mg:Str->Option Value}{base:Heap},Txt K mg->BY P w K mg base "_law_least" 1 1 F)/\(∀ cs:List Co,cs.length<=1000->F [.lst (cs.map cst)]=.ok (.sh (cst (FC cs)))):=by
 refine⟨_,fun T=>AE (k:=0) T.S4 Qf _ (fun f B2 A outer s H E hr=>(A5 (Ao (B9 (Us rfl (AU hr 1 (by decide)) rfl T.Z6 (Ai (Cs (NB:=["_law_cost"]) [none] rfl (AZ (A1 0 (pv 0))) rfl rfl (BO 0 (by decide) rfl rfl rfl) (fun _ _ _ _=>Fz (J8 (c:=true) (A1 0 (pv 0)))) (fun _ _ _ _=>(A1 0 (pv 0))))) Dq))))),?_⟩
 intro cs hc
 have e0:∀ x:D,AK ["_law_some"] [x]=[some (.val x)]:=fun x=>rfl
 rw[e0]
 refine BB ?_
 have hl:(cs.map cst).length<=1000:=by rw[zc];exact hc
 have xf:=R9 cs
 have ql:=UA cs
 simp_arith[if_pos hl]
 rw[GA]
 simp_arith[ql]
 rfl
noncomputable def G2:List D->M OT:=zi G1
theorem Kf:Txt K mg->BY P w K mg base "_law_least" 1 1 G2:=(zb G1).1
theorem Kg:∀ cs:List Co,cs.length<=1000->G2 [.lst (cs.map cst)]=.ok (.sh (cst (FC cs))):=(zb G1).2
theorem Hf:∃ F:List D->M OT,(∀ {P:Program}{w:World}{K:za}{mg:Str->Option Value}{base:Heap},Txt K mg->BY P w K mg base "_law_open" 1 1 F)/\(∀ r:Road,F [BI r]=.ok (.sh (cst (C8 r)))):=by
 refine⟨_,fun T=>AE (k:=0) T.TR RU _ (fun f B2 A outer s H E hr=>(A4 (Be (Gw (c:=true) (Ac (AU hr 16 (by decide)) (A1 0 (pv 0)) A6)) (A5 (Ao (B9 Dq))) AD) (A5 (Ao (B9 (AL (A2 (Ac (AU hr 16 (by decide)) (A1 0 (pv 0)) A6) (A2 A6 A7)))))))),?_⟩
 intro r
 obtain⟨a,b,l,w⟩:=r
 cases l<;>rfl
noncomputable def OW:List D->M OT:=zi Hf
theorem Sk:Txt K mg->BY P w K mg base "_law_open" 1 1 OW:=(zb Hf).1
theorem Sl:∀ r:Road,OW [BI r]=.ok (.sh (cst (C8 r))):=(zb Hf).2
theorem G3:∃ F:List D->M OT,(∀ {P:Program}{w:World}{K:za}{mg:Str->Option Value}{base:Heap},Txt K mg->BY P w K mg base "_law_costs" 2 2 F)/\(∀(m:Nat) (rs:List Road),m<=900->rs.length<=900->(∀ r∈rs,Hq m r)->∃ ac:List (List Co),Pw m ac/\(∀ x y:Int,0<=x->x < m->0<=y->y < m->BP rs x y (at2 ac x y))/\∃ t,F [.lst (rs.map BI),.int m]=.ok t/\er t=.lst ((AH ac).map D.lst)):=by
 refine⟨_,fun T=>AE (k:=1) T.S5 Br _ (fun f B2 A outer s H E hr=>(A4 (dH 2 Br.nd rfl (zY rfl)) (A4 (Bw A9.toXCall.own rfl (BU (c:=true) rfl T.Cu (A1 1 (pv 1))) (AS 3 Br.nd rfl (zY rfl)) (A4 (BD 5 Br.nd rfl (zY rfl) (To Dq (A1 1 (pv 1)))) (A4 (Mv 5 (pv 5) (AL (A2 A6 (A2 A6 A7))) (A1 3 (pv 3))) (A4 (Bw A9.toXCall.own rfl (AZ (A1 0 (pv 0))) (AS 6 Br.nd rfl (zY rfl)) (A5 (Be (J7 (c:=true) (AU hr 16 (by decide)) (Ac (AU hr 16 (by decide)) (A1 6 (pv 6)) A6) (A1 3 (pv 3))) (A5 (Mv 5 (pv 5) (Ai (Eg (Aa A9.toXCall (Kf T) (hr.mono (by decide)) rfl (A2 (Gv (A2 (Ac (AU hr 16 (by decide)) (A1 5 (pv 5)) (Ac (AU hr 16 (by decide)) (A1 6 (pv 6)) A6)) (A2 (Ai (Aa A9.toXCall (Sk T) (hr.mono (by decide)) rfl (A2 (A1 6 (pv 6)) A7) rfl)) A7))) A7) rfl))) (Ac (AU hr 16 (by decide)) (A1 6 (pv 6)) A6))) AD))) (A5 (dI 2 5 (pv 2) (pv 5))))))) (A4 (Bw A9.toXCall.own rfl (BU (c:=true) rfl T.Cu (A1 1 (pv 1))) (AS 4 Br.nd rfl (zY rfl)) (A5 (Bw A9.toXCall.own rfl (BU (c:=true) rfl T.Cu (A1 1 (pv 1))) (AS 3 Br.nd rfl (zY rfl)) (A5 (Bw A9.toXCall.own rfl (BU (c:=true) rfl T.Cu (A1 1 (pv 1))) (AS 7 Br.nd rfl (zY rfl)) (A5 (dN 2 (pv 2) (Ai (Aa A9.toXCall (Kf T) (hr.mono (by decide)) rfl (A2 (Gv (A2 (Td 2 (pv 2) (A1 3 (pv 3)) (A1 7 (pv 7))) (A2 (Ai (Aa A9.toXCall (Kd T) (hr.mono (by decide)) rfl (A2 (Td 2 (pv 2) (A1 3 (pv 3)) (A1 4 (pv 4))) (A2 (Td 2 (pv 2) (A1 4 (pv 4)) (A1 7 (pv 7))) A7)) rfl)) A7))) A7) rfl)) (A1 3 (pv 3)) (A1 7 (pv 7))))))))) (A5 (CL 2 (pv 2))))))),?_⟩
 intro m rs hm cn Av
 have e0:AK ["_law_roads_here","_law_many","_law_costs_here","_law_u","_law_v","_law_row","_law_road","_law_w"] [.lst (rs.map BI),.int m]=[some (.val (.lst (rs.map BI))),some (.val (.int m)),none,none,none,none,none,none]:=rfl
 rw[e0]
 refine (fun h:∃ t,_/\∃ ac:List (List Co),Pw m ac/\(∀ x y:Int,0<=x->x < m->0<=y->y < m->BP rs x y (at2 ac x y))/\er t=.lst ((AH ac).map D.lst)=>by
  obtain⟨t,h1,ac,h2,h3,h4⟩:=h
  exact⟨ac,h2,h3,t,h1,h4⟩) (L1 ?_)
 have dk:=Ff (n:=m) (by omega)
 refine wp_step (ρ':=[some (.val (.lst (rs.map BI))),some (.val (.int m)),some (.ow (.rows [])),none,none,none,none,none]) rfl ?_
 refine BW (I:=fun ρ=>∃(ac:List (List Co)) (s3 s5 s6:Option Cl),ρ=[some (.val (.lst (rs.map BI))),some (.val (.int m)),some (.ow (.rows (AH ac))),s3,none,s5,s6,none]/\ac.length=m/\∀ u:Nat,u < m->MF m rs u rs.length (ac.getD u [])) ?_ ?_
 ·simp_arith[dk]
  refine Bx (fun i ρ=>∃(ac:List (List Co)) (s3 s5 s6:Option Cl),ρ=[some (.val (.lst (rs.map BI))),some (.val (.int m)),some (.ow (.rows (AH ac))),s3,none,s5,s6,none]/\ac.length=i/\∀ u:Nat,u < i->MF m rs u rs.length (ac.getD u [])) ⟨[],none,none,none,rfl,rfl,fun u h=>by omega⟩ ?_ ?_
  ·rintro i d ρ hd ⟨ac,s3,s5,s6,rfl,b9,be⟩
   obtain⟨aJ,hi⟩:=Bv hd
   rw[zaz] at aJ
   subst aJ
   refine⟨_,rfl,?_⟩
   have bA:=MU (d:=.AA) (n:=m) (by omega)
   have cH:zv m D.AA=(zv m (none:Co)).map cst:=by rw[List.map_replicate];rfl
   rw[cH] at bA
   apply wp_step
   ·simp_arith[bA];rfl
   try simp only[zt,zm]
   have aD:=K1 (i:=5) (ρ:=[some (.val (.lst (rs.map BI))),some (.val (.int m)),some (.ow (.rows (AH ac))),some (.val (.int i)),none,some (.own ((zv m (none:Co)).map cst)),s6,none]) (d:=.tup [.int 0,.int 0]) (p:=(i:Int)) rfl (by omega) (by rw[zc,zau];omega)
   have br:((zv m (none:Co)).map cst).set (i:Int).toNat (.tup [.int 0,.int 0])=((zv m none).set i (some (0,0))).map cst:=by rw[yN,List.map_set];rfl
   rw[br] at aD
   apply wp_step
   ·simp_arith[aD];rfl
   try simp only[zt,zm]
   refine BW (I:=fun ρ=>∃(R:List Co) (s6:Option Cl),ρ=[some (.val (.lst (rs.map BI))),some (.val (.int m)),some (.ow (.rows (AH ac))),some (.val (.int i)),none,some (.own (R.map cst)),s6,none]/\MF m rs i rs.length R) ?_ ?_
   ·simp_arith[]
    refine Bx (fun j ρ=>∃(R:List Co) (s6:Option Cl),ρ=[some (.val (.lst (rs.map BI))),some (.val (.int m)),some (.ow (.rows (AH ac))),some (.val (.int i)),none,some (.own (R.map cst)),s6,none]/\MF m rs i j R) ⟨_,s6,rfl,VT rs hi⟩ ?_ ?_
    ·rintro j d ρ hd ⟨R,s6,rfl,g⟩
     obtain⟨r,hq,rfl⟩:=BQ hd
     have hr:=zj hq
     have ok:=Av r hr
     have r0:B4 (BI r) (.int 0)=.ok (.int r.a):=rfl
     have r1:B4 (BI r) (.int 1)=.ok (.int r.b):=rfl
     have cm:r.b < R.length:=by rw[g.len];exact ok.b1
     have x1:B4 (.lst (R.map cst)) (.int r.b)=.ok (cst (atC R r.b)):=CK ok.b0 cm
     have xv:=Sl r
     have hle:G2 [.lst [cst (atC R r.b),cst (C8 r)]]=.ok (.sh (cst (Dy (atC R r.b) (C8 r)))):=Kg [atC R r.b,C8 r] (by simp)
     refine⟨_,rfl,?_⟩
     by_cases hu:r.a=(i:Int)
     ·have aD:=K1 (i:=5) (ρ:=[some (.val (.lst (rs.map BI))),some (.val (.int m)),some (.ow (.rows (AH ac))),some (.val (.int i)),none,some (.own (R.map cst)),some (.val (BI r)),none]) (d:=cst (Dy (atC R r.b) (C8 r))) (p:=r.b) rfl ok.b0 (by rw[zc];exact cm)
      have br:(R.map cst).set r.b.toNat (cst (Dy (atC R r.b) (C8 r)))=(R.set r.b.toNat (Dy (atC R r.b) (C8 r))).map cst:=by rw[List.map_set]
      rw[br] at aD
      refine Ba (ρ':=[some (.val (.lst (rs.map BI))),some (.val (.int m)),some (.ow (.rows (AH ac))),some (.val (.int i)),none,some (.own ((R.set r.b.toNat (Dy (atC R r.b) (C8 r))).map cst)),some (.val (BI r)),none]) (by simp_arith[r0,r1,decide_eq_true hu,x1,xv,hle,aD];rfl) ⟨_,_,rfl,XS g hq hu Av⟩
     ·refine Ba (ρ':=_) (by simp_arith[r0,decide_eq_false hu];rfl) ⟨_,_,rfl,XR g hq hu⟩
    ·rintro ρ ⟨R,s6,rfl,g⟩
     rw[zc] at g
     exact⟨R,s6,rfl,g⟩
   ·rintro ρ ⟨R,s6,rfl,g⟩
    have hl:(AH ac).length < 1000/\2≠5:=⟨by unfold AH;rw[zc];omega,by decide⟩
    refine Ba (ρ':=[some (.val (.lst (rs.map BI))),some (.val (.int m)),some (.ow (.rows (AH (ac++[R])))),some (.val (.int i)),none,none,s6,none]) ?_ ⟨_,_,_,_,rfl,by simp[b9],fun u hu=>?_⟩
    ·simp only[XH,zao,zS,if_pos hl,zt,zm]
     unfold AH
     rw[zK]
     rfl
    ·by_cases h:u=i
     ·subst h
      have e:(ac++[R]).getD u []=R:=by rw[zC,zad (by omega)];simp[b9]
      rw[e];exact g
     ·have e:(ac++[R]).getD u []=ac.getD u []:=by rw[zC,yV (by omega),zC]
      rw[e];exact be u (by omega)
  ·rintro ρ ⟨ac,s3,s5,s6,rfl,b9,be⟩
   rw[B6] at b9 be
   exact⟨ac,s3,s5,s6,rfl,b9,be⟩
 rintro ρ ⟨ac,s3,s5,s6,rfl,b9,be⟩
 have hM:Pw m ac:=⟨b9,fun R hR=>by
  obtain⟨u,hu,e⟩:=List.getElem_of_mem hR
  have:=(be u (by omega)).len
  rw[zC,zq hu] at this
  rw[<-e];exact this⟩
 have hF:=XT hM Av be
 refine BW (I:=fun ρ=>∃(ac:List (List Co)) (s3 s4 s5 s6 s7:Option Cl),ρ=[some (.val (.lst (rs.map BI))),some (.val (.int m)),some (.ow (.rows (AH ac))),s3,s4,s5,s6,s7]/\Pw m ac/\FW m m rs (at2 ac)) ?_ ?_
 ·simp_arith[dk]
  refine Bx (fun k ρ=>∃(ac:List (List Co)) (s3 s4 s5 s6 s7:Option Cl),ρ=[some (.val (.lst (rs.map BI))),some (.val (.int m)),some (.ow (.rows (AH ac))),s3,s4,s5,s6,s7]/\Pw m ac/\FW m k rs (at2 ac)) ⟨ac,s3,none,s5,s6,none,rfl,hM,hF⟩ ?_ ?_
  ·rintro k d ρ hd ⟨az,s3,s4,s5,s6,s7,rfl,xw,j4⟩
   obtain⟨aJ,hk⟩:=Bv hd
   rw[zaz] at aJ
   subst aJ
   refine⟨_,rfl,?_⟩
   have k0:(0:Int)<=k:=by omega
   have k1:(k:Int) < m:=by omega
   have oc:=Rc j4 hk
   have orr:=Rf j4 hk
   simp_arith[dk]
   refine Bx (fun u ρ=>∃(ac:List (List Co)) (s3 s5 s6 s7:Option Cl),ρ=[some (.val (.lst (rs.map BI))),some (.val (.int m)),some (.ow (.rows (AH ac))),s3,some (.val (.int k)),s5,s6,s7]/\Pw m ac/\∀ x y:Int,0<=x->x < m->0<=y->y < m->at2 ac x y=if x < u then over k (at2 az) x y else at2 az x y) ⟨az,s3,s5,s6,s7,rfl,xw,fun x y h0 h1 h2 h3=>by rw[if_neg (by omega)]⟩ ?_ ?_
   ·rintro u d ρ hd ⟨bR,s3,s5,s6,s7,rfl,gu,lw⟩
    obtain⟨aJ,hu⟩:=Bv hd
    rw[zaz] at aJ
    subst aJ
    have u0:(0:Int)<=u:=by omega
    have u1:(u:Int) < m:=by omega
    refine⟨_,rfl,?_⟩
    simp_arith[dk]
    refine Bx (fun w ρ=>∃(ac:List (List Co)) (s5 s6 s7:Option Cl),ρ=[some (.val (.lst (rs.map BI))),some (.val (.int m)),some (.ow (.rows (AH ac))),some (.val (.int u)),some (.val (.int k)),s5,s6,s7]/\Pw m ac/\∀ x y:Int,0<=x->x < m->0<=y->y < m->at2 ac x y=if x < u\/(x=u/\y < w) then over k (at2 az) x y else at2 az x y) ⟨bR,s5,s6,s7,rfl,gu,fun x y h0 h1 h2 h3=>by
     rw[lw x y h0 h1 h2 h3]
     by_cases h:x < u
     ·rw[if_pos h,if_pos (.inl h)]
     ·rw[if_neg h,if_neg (by omega)]⟩ ?_ ?_
    ·rintro w d ρ hd ⟨aX,s5,s6,s7,rfl,gw,gx⟩
     obtain⟨aJ,hw⟩:=Bv hd
     rw[zaz] at aJ
     subst aJ
     have w0:(0:Int)<=w:=by omega
     have w1:(w:Int) < m:=by omega
     have a1:at2 aX u w=at2 az u w:=by rw[gx u w u0 u1 w0 w1,if_neg (by omega)]
     have a2:at2 aX u k=at2 az u k:=by
      rw[gx u k u0 u1 k0 k1]
      split
      ·exact oc u
      ·rfl
     have a3:at2 aX k w=at2 az k w:=by
      rw[gx k w k0 k1 w0 w1]
      split
      ·exact orr w
      ·rfl
     obtain⟨xx,hP⟩:=gw.put u0 u1 w0 w1 (over k (at2 az) u w)
     obtain⟨R0,y9⟩:∃ R0:Ab,R0=[some (.val (.lst (rs.map BI))),some (.val (.int m)),some (.ow (.rows (AH aX))),some (.val (.int u)),some (.val (.int k)),s5,s6,some (.val (.int w))]:=⟨_,rfl⟩
     have c1:=TC (ρ:=[some (.val (.lst (rs.map BI))),some (.val (.int m)),some (.ow (.rows (AH aX))),some (.val (.int u)),some (.val (.int k)),s5,s6,some (.val (.int w))]) (i:=2) rfl gw u0 u1 w0 w1
     have c2:=TC (ρ:=[some (.val (.lst (rs.map BI))),some (.val (.int m)),some (.ow (.rows (AH aX))),some (.val (.int u)),some (.val (.int k)),s5,s6,some (.val (.int w))]) (i:=2) rfl gw u0 u1 k0 k1
     have c3:=TC (ρ:=[some (.val (.lst (rs.map BI))),some (.val (.int m)),some (.ow (.rows (AH aX))),some (.val (.int u)),some (.val (.int k)),s5,s6,some (.val (.int w))]) (i:=2) rfl gw k0 k1 w0 w1
     rw[a1] at c1
     rw[a2] at c2
     rw[a3] at c3
     have gl:=Ke (at2 az u k) (at2 az k w)
     have hle:G2 [.lst [cst (at2 az u w),cst (Aj (at2 az u k) (at2 az k w))]]=.ok (.sh (cst (over k (at2 az) u w))):=Kg [at2 az u w,Aj (at2 az u k) (at2 az k w)] (by simp)
     have pj:=gC (ρ:=[some (.val (.lst (rs.map BI))),some (.val (.int m)),some (.ow (.rows (AH aX))),some (.val (.int u)),some (.val (.int k)),s5,s6,some (.val (.int w))]) (i:=2) (v:=over k (at2 az) u w) rfl gw u0 u1 w0 w1
     refine⟨_,rfl,?_⟩
     refine Ba (ρ':=[some (.val (.lst (rs.map BI))),some (.val (.int m)),some (.ow (.rows (AH (put2 aX u w (over k (at2 az) u w))))),some (.val (.int u)),some (.val (.int k)),s5,s6,some (.val (.int w))]) (by simp_arith[c1,c2,c3,gl,hle,pj]) ⟨_,_,_,_,rfl,xx,fun x y h0 h1 h2 h3=>?_⟩
     rw[hP x y h0 h2]
     by_cases h:x=u/\y=w
     ·rw[if_pos h,if_pos (by omega),h.1,h.2]
     ·rw[if_neg h,gx x y h0 h1 h2 h3]
      by_cases h':x < u\/(x=u/\y < w)
      ·rw[if_pos h',if_pos (by omega)]
      ·rw[if_neg h',if_neg (by omega)]
    ·rintro ρ ⟨aX,s5,s6,s7,rfl,gw,gx⟩
     rw[B6] at gx
     refine⟨aX,_,_,_,_,rfl,gw,fun x y h0 h1 h2 h3=>?_⟩
     rw[gx x y h0 h1 h2 h3]
     by_cases h:x < u\/(x=u/\y < m)
     ·rw[if_pos h,if_pos (by omega)]
     ·rw[if_neg h,if_neg (by omega)]
   ·rintro ρ ⟨bR,s3,s5,s6,s7,rfl,gu,lw⟩
    rw[B6] at lw
    refine⟨bR,_,_,_,_,_,rfl,gu,(XQ j4 hk).congr (by omega) Av fun x y h0 h1 h2 h3=>?_⟩
    rw[lw x y h0 h1 h2 h3,if_pos h1]
  ·rintro ρ ⟨bR,s3,s4,s5,s6,s7,rfl,gu,ik⟩
   rw[B6] at ik
   exact⟨bR,s3,s4,s5,s6,s7,rfl,gu,ik⟩
 ·rintro ρ ⟨bR,s3,s4,s5,s6,s7,rfl,gu,ik⟩
  refine⟨_,rfl,bR,gu,fun x y h0 h1 h2 h3=>lA ik Av h0 h1 h2 h3,?_⟩
  rw[er,Uj,yF]
  congr 1
  refine List.map_congr_left fun R _=>?_
  dsimp only [Function.comp]
  rw[Kw]
noncomputable def Ny:List D->M OT:=zi G3
theorem QA:Txt K mg->BY P w K mg base "_law_costs" 2 2 Ny:=(zb G3).1
theorem QB:∀(m:Nat) (rs:List Road),m<=900->rs.length<=900->(∀ r∈rs,Hq m r)->∃ ac:List (List Co),Pw m ac/\(∀ x y:Int,0<=x->x < m->0<=y->y < m->BP rs x y (at2 ac x y))/\∃ t,Ny [.lst (rs.map BI),.int m]=.ok t/\er t=.lst ((AH ac).map D.lst):=(zb G3).2
theorem U4:∃ F:List D->M D,(∀ {P:Program}{w:World}{K:za}{mg:Str->Option Value}{base:Heap}{f:Addr}{fd:FuncData},Txt K mg->WD K "law" "law" G7 f fd->Dn P w K mg base ZH 8 f fd ["_law_script"] (SX K 1 F))/\(∀ ns:List Int,ns.length<=63->(∀ n∈ns,Sm n)->F [.lst (ns.map D.int)]=.ok (.bl true)):=by
 refine⟨_,fun {P w K mg base f fd} T F=>pO (k:=7) F CP _ (fun B2 A outer s H E hr=>(A4 (AQ 1 CP.nd rfl (zY rfl) (Ai (BV (Aa (Bh rfl).toXCall (Ey T) (hr.mono (by decide)) rfl (A2 (Ai (Aa (Bh rfl).toXCall (CU T) (hr.mono (by decide)) rfl (A2 (A1 0 (pv 0)) (A2 A6 A7)) rfl)) (A2 A6 A7)) rfl)))) (A4 (AQ 2 CP.nd rfl (zY rfl) (Ac (AU hr 16 (by decide)) (Gv (A2 (BM A6 (BG (A1 1 (pv 1)) A6)) (A2 (BM A6 (BG (A1 1 (pv 1)) A6)) A7))) (dC rfl T.Z5 (gY (AU hr 16 (by decide)) (BG (Fw (A1 1 (pv 1)) A6) A6) A6)))) (A4 (AQ 3 CP.nd rfl (zY rfl) (Ai (BV (Aa (Bh rfl).toXCall (Qw T) (hr.mono (by decide)) rfl (A2 (Ai (MO (A1 0 (pv 0)) (Lu A6) (Lu A6))) (A2 (A1 2 (pv 2)) A7)) rfl)))) (A4 (Be (J7 (c:=true) (AU hr 16 (by decide)) (BG (Fw (A1 1 (pv 1)) A6) A6) A6) (A5 (AQ 6 CP.nd rfl (zY rfl) (Ai (BV (YC (Bh rfl).toXCall (Et T) (hr.mono (by decide)) rfl (A2 (AL (A2 (A1 2 (pv 2)) (A2 (Ai (Jm rfl T.F5 (A1 3 (pv 3)))) A7))) A7) rfl))))) (A5 (AQ 6 CP.nd rfl (zY rfl) (Ai (BV (fM (Bh rfl).toXCall (Et T).xA (hr.mono (by decide)) rfl (A2 (AL (A2 (A1 2 (pv 2)) (A2 (Ai (Jm rfl T.F5 (A1 3 (pv 3)))) A7))) (A2 (Ai (Aa (Bh rfl).toXCall (Qy T) (hr.mono (by decide)) rfl (A2 (Ai (Aa (Bh rfl).toXCall (CU T) (hr.mono (by decide)) rfl (A2 (A1 0 (pv 0)) (A2 A6 A7)) rfl)) (A2 (A1 2 (pv 2)) A7)) rfl)) A7)) rfl)))))) (A4 (AQ 4 CP.nd rfl (zY rfl) (Ai (BV (Aa (Bh rfl).toXCall (QA T) (hr.mono (by decide)) rfl (A2 (A1 3 (pv 3)) (A2 (A1 2 (pv 2)) A7)) rfl)))) (A4 (Bw PassesOwn.never rfl (BU (c:=true) rfl T.Cu A6) (AS 5 CP.nd rfl (zY rfl)) (A4 (AQ 7 CP.nd rfl (zY rfl) (BG (Ai (BV (Aa (Bh rfl).toXCall (Ey T) (hr.mono (by decide)) rfl (A2 (Ai (Aa (Bh rfl).toXCall (CU T) (hr.mono (by decide)) rfl (A2 (A1 0 (pv 0)) (A2 A6 A7)) rfl)) (A2 (BM A6 (A1 5 (pv 5))) A7)) rfl))) (A1 2 (pv 2)))) (A4 (AQ 8 CP.nd rfl (zY rfl) (BG (Ai (BV (Aa (Bh rfl).toXCall (Ey T) (hr.mono (by decide)) rfl (A2 (Ai (Aa (Bh rfl).toXCall (CU T) (hr.mono (by decide)) rfl (A2 (A1 0 (pv 0)) (A2 A6 A7)) rfl)) (A2 (BM A6 (A1 5 (pv 5))) A7)) rfl))) (A1 2 (pv 2)))) (A4 (BD 9 CP.nd rfl (zY rfl) (GC Dz)) (A4 (Bw PassesOwn.never rfl (BU (c:=true) rfl T.Cu (A1 2 (pv 2))) (AS 10 CP.nd rfl (zY rfl)) (A4 (AQ 12 CP.nd rfl (zY rfl) (Ai (BV (Aa (Bh rfl).toXCall (Kd T) (hr.mono (by decide)) rfl (A2 (Ac (AU hr 16 (by decide)) (Ac (AU hr 16 (by decide)) (A1 4 (pv 4)) (A1 7 (pv 7))) (A1 10 (pv 10))) (A2 (Ac (AU hr 16 (by decide)) (Ac (AU hr 16 (by decide)) (A1 4 (pv 4)) (A1 10 (pv 10))) (A1 8 (pv 8))) A7)) rfl)))) (A5 (Be (DW.dt (Iw (J8 (c:=true) (A1 12 (pv 12))) (Hm (J7 (c:=true) (AU hr 16 (by decide)) (A1 12 (pv 12)) (Ac (AU hr 16 (by decide)) (Ac (AU hr 16 (by decide)) (A1 4 (pv 4)) (A1 7 (pv 7))) (A1 8 (pv 8))))))) (A5 (DM 9 (pv 9) (A1 10 (pv 10)))) AD)))) (A4 (BD 11 CP.nd rfl (zY rfl) (BV (Aa (Bh rfl).toXCall (Np T) (hr.mono (by decide)) rfl (A2 (A1 6 (pv 6)) (A2 (A1 7 (pv 7)) (A2 (A1 8 (pv 8)) A7))) rfl))) (A4 (Be (IA (DW.dt (Fd (CJ (Ck (c:=true) (Fy (Ko _) rfl T.Bd rfl T.F5 (by decide +kernel) (A1 11 (pv 11))))) (Fd (CJ (Ck (c:=true) (Tc rfl rfl T.Z2 (Ai (Cs (NB:=["_law_place"]) [none] rfl (AZ (A1 11 (pv 11))) rfl rfl (BO 0 (by decide) rfl rfl rfl) (fun _ _ _ _=>EE) (fun _ _ _ _=>(Ai (BV (Aa (Bh rfl).toXCall (Qu T) (hr.mono (by decide)) rfl (A2 (A1 0 (pv 0)) A7) rfl))))))))) (Ec (KW (c:=true) (AU hr 16 (by decide)) (A1 11 (pv 11)) (A1 9 (pv 9)))))))) (A5 (SV (Pj Dv))) AD) (A4 (DM 11 (pv 11) (A1 7 (pv 7))) (A5 (Be (IA (DW.dt (Iw (J7 (c:=true) (AU hr 16 (by decide)) (A1 5 (pv 5)) A6) (Hm (KW (c:=true) (AU hr 16 (by decide)) (Ai (BV (Aa (Bh rfl).toXCall (Np T) (hr.mono (by decide)) rfl (A2 (A1 6 (pv 6)) (A2 (A1 7 (pv 7)) (A2 (A1 8 (pv 8)) A7))) rfl))) (A1 9 (pv 9))))))) (A5 (SV (Pj Dv))) AD)))))))))) (A5 (SV (Pj Dv)))))))))),?_⟩
 intro ns i6 bF
 have e0:AK ["_law_script","_law_first","_law_many","_law_roads_here","_law_costs_here","_law_k","_law_ladder","_law_start","_law_goal","_law_due","_law_place","_law_found","_law_both"] [.lst (ns.map D.int)]=[some (.val (.lst (ns.map D.int))),none,none,none,none,none,none,none,none,none,none,none,none]:=rfl
 rw[e0]
 refine qI ?_
 obtain⟨z0,yB,j4⟩:=Ex ns 0 bF
 obtain⟨z1,bE,ik⟩:=Ex ns 1 bF
 obtain⟨z2,nz,xy⟩:=Ex ns 2 bF
 have qw:CT [.lst (ns.map D.int),.int 0]=.ok (.sh (.int z0)):=j4
 have qx:CT [.lst (ns.map D.int),.int 1]=.ok (.sh (.int z1)):=ik
 have j5:CT [.lst (ns.map D.int),.int 2]=.ok (.sh (.int z2)):=xy
 obtain⟨v,v0,hv⟩:=Ez z0 0 (by decide) (by decide)
 have q1:Eb (.int v) (.int 6)=.ok (.int (v % 6)):=AO (by decide)
 have q2:Eb (.int v) (.int 10)=.ok (.int (v % 10)):=AO (by decide)
 have q3:J5 (.int v) (.int 77)=.ok (.int (v / 77)):=DV ⟨by decide,by decide⟩
 have q4:Eb (.int (v / 77)) (.int 8)=.ok (.int (v / 77 % 8)):=AO (by decide)
 have q5:J5 (.int v) (.int 6)=.ok (.int (v / 6)):=DV ⟨by decide,by decide⟩
 have q6:Eb (.int (v / 6)) (.int 3)=.ok (.int (v / 6 % 3)):=AO (by decide)
 obtain⟨m,dh,ce,j6⟩:∃ m:Nat,1<=m/\m<=16/\((Uv [.bl (decide (v / 77 % 8=3))]).bind fun y=>B4 (.lst [.int (1 + v % 6),.int (7 + v % 10)]) y)=.ok (.int m):=by
  by_cases h:v / 77 % 8=3
  ·refine⟨(7 + v % 10).toNat,by omega,by omega,?_⟩
   rw[decide_eq_true h,show (((7 + v % 10).toNat:Nat):Int)=7 + v % 10 by omega]
   rfl
  ·refine⟨(1 + v % 6).toNat,by omega,by omega,?_⟩
   rw[decide_eq_false h,show (((1 + v % 6).toNat:Nat):Int)=1 + v % 6 by omega]
   rfl
 have di:(0:Int) < (m:Int):=by omega
 apply wp_step
 ·simp_arith[qw,hv];rfl
 try simp only[zt,zm]
 apply wp_step
 ·simp_arith[q1,q2,q3,q4,j6];rfl
 try simp only[zt,zm]
 have sl:eJ (some 3) (some 27) (.lst (ns.map D.int))=.ok (.lst ((((ns.drop 3).take 24).map D.int).map .sh)):=by rw[List.map_take,List.map_drop];exact fA _ 3 27
 obtain⟨rs,cn,gf,xz⟩:=Qx ((ns.drop 3).take 24) m dh ce (by rw[yT];omega) fun c hc=>bF c (List.mem_of_mem_drop (yL hc))
 have j7:rs.length<=60:=by rw[yT] at cn;omega
 have qy:∀ r∈rs,Hq m r:=fun r hr=>(gf r hr).vH.1
 apply wp_step
 ·simp_arith[sl,xz];rfl
 try simp only[zt,zm]
 obtain⟨Lo,x4,x5⟩:=Qz z1 m (by omega)
 have nn:D.tup [.int m,.lst (rs.map BI)]=As m rs:=rfl
 refine BW (I:=fun ρ=>∃(L:List Int) (A:LA) (K:List (Int×Int)),ρ=[some (.val (.lst (ns.map D.int))),some (.val (.int v)),some (.val (.int m)),some (.val (.lst (rs.map BI))),none,none,some (.val (B0 m rs L A K)),none,none,none,none,none,none]/\C9 m rs L A K) ?_ ?_
 ·by_cases c1:v / 6 % 3=1
  ·obtain⟨A,K,ok,t,hI,hE⟩:=Eu m rs .AA (Ss m (BC rs) (AV m)) dh ce j7 gf (RP m _ _ (Fl m)) (.inr ⟨rfl,rfl⟩)
   have qz:OJ (Ci (.ins "Ladder" [] []) ([As m rs]++[.AA]))=.ok t:=by
    rw[show [As m rs]++[D.AA]=[As m rs,.AA] from rfl,hI];rfl
   refine Ba (ρ':=[some (.val (.lst (ns.map D.int))),some (.val (.int v)),some (.val (.int m)),some (.val (.lst (rs.map BI))),none,none,some (.val (B0 m rs (Ss m (BC rs) (AV m)) A K)),none,none,none,none,none,none]) (by simp_arith[q5,q6,decide_eq_true c1,nn,qz,hE];try rfl) ⟨_,A,K,rfl,ok⟩
  ·obtain⟨A,K,ok,t,hI,hE⟩:=Eu m rs (.lst (Lo.map D.int)) Lo dh ce j7 gf x4 (.inl rfl)
   have qz:OJ (Ci (.ins "Ladder" [] []) [As m rs,.lst (Lo.map D.int)])=.ok t:=by rw[hI];rfl
   refine Ba (ρ':=[some (.val (.lst (ns.map D.int))),some (.val (.int v)),some (.val (.int m)),some (.val (.lst (rs.map BI))),none,none,some (.val (B0 m rs Lo A K)),none,none,none,none,none,none]) (by simp_arith[q5,q6,decide_eq_false c1,qx,x5,nn,qz,hE];try rfl) ⟨_,A,K,rfl,ok⟩
 rintro ρ ⟨L,A,K,rfl,ok⟩
 obtain⟨ac,hM,hA,tc,x6,x8⟩:=QB m rs (by omega) (by omega) qy
 have be:∀ s:Int,0<=s->s < m->B4 (.lst ((AH ac).map D.lst)) (.int s)=.ok (.lst ((ac.getD s.toNat []).map cst)):=fun s h0 h1=>by
  have e:=(hM.get h0 h1).1
  have e2:(AH ac)[s.toNat]? =some ((ac.getD s.toNat []).map cst):=by unfold AH;rw[zD,e];rfl
  exact Ji h0 e2
 apply wp_step
 ·simp_arith[x6,x8];rfl
 try simp only[zt,zm]
 have hr:R4 (.int 3)=.ok (C6 0 3):=Ff (n:=3) (by omega)
 have cN:R4 (.int (m:Int))=.ok (C6 0 m):=Ff (by omega)
 refine BW (I:=fun ρ=>∃(s5 s7 s8 s9 cJ:Option Cl) (bt bu:Option D),ρ=[some (.val (.lst (ns.map D.int))),some (.val (.int v)),some (.val (.int m)),some (.val (.lst (rs.map BI))),some (.val (.lst ((AH ac).map D.lst))),s5,some (.val (B0 m rs L A K)),s7,s8,s9,vO bt,cJ,vO bu]) ?_ ?_
 ·simp_arith[hr]
  refine Bx (fun i ρ=>∃(s5 s7 s8 s9 cJ:Option Cl) (bt bu:Option D),ρ=[some (.val (.lst (ns.map D.int))),some (.val (.int v)),some (.val (.int m)),some (.val (.lst (rs.map BI))),some (.val (.lst ((AH ac).map D.lst))),s5,some (.val (B0 m rs L A K)),s7,s8,s9,vO bt,cJ,vO bu]) ⟨none,none,none,none,none,none,none,rfl⟩ ?_ ?_
  ·rintro i d ρ hd ⟨s5,s7,s8,s9,cJ,bt,bu,rfl⟩
   obtain⟨aJ,hi⟩:=Bv hd
   rw[zaz] at aJ
   subst aJ
   refine⟨_,rfl,?_⟩
   obtain⟨p,p0,hp⟩:=Ez z2 (30 + i) (by omega) (by omega)
   obtain⟨p',yC,fc⟩:=Ez z2 (34 + i) (by omega) (by omega)
   have q7:Eb (.int p) (.int (m:Int))=.ok (.int (p % m)):=AO di
   have q8:Eb (.int p') (.int (m:Int))=.ok (.int (p' % m)):=AO di
   obtain⟨s,hs⟩:∃ s:Nat,(s:Int)=p % m:=⟨(p % m).toNat,by have:=zaa p (b:=(m:Int)) (by omega);omega⟩
   have rb:s < m:=by have:=za4 p di;omega
   obtain⟨g,hg⟩:∃ g:Nat,(g:Int)=p' % m:=⟨(p' % m).toNat,by have:=zaa p' (b:=(m:Int)) (by omega);omega⟩
   have rc:g < m:=by have:=za4 p' di;omega
   rw[<-hs] at q7
   rw[<-hg] at q8
   obtain⟨T,U,hB,t1,t2⟩:=U2 m rs L A K s g ok rb rc
   have uT:∀ w:Int,0<=w->w < m->atC T w=at2 ac s w:=fun w a b=>(t1 w a b).Cq (hA s w (by omega) (by omega) a b)
   have uU:∀ w:Int,0<=w->w < m->atC U w=at2 ac w g:=fun w a b=>(t2 w a b).Cq (hA w g a b (by omega) (by omega))
   have eB:OP (atC T) (atC U) (atC T g) m=OP (fun w=>at2 ac s w) (fun w=>at2 ac w g) (at2 ac s g) m:=by
    rw[uT g (by omega) (by omega)]
    exact Wr fun i hi=>by rw[uT i (by omega) (by omega),uU i (by omega) (by omega)]
   rw[eB] at hB
   obtain⟨B,re⟩:∃ B,B=OP (fun w=>at2 ac s w) (fun w=>at2 ac w g) (at2 ac s g) m:=⟨_,rfl⟩
   rw[<-re] at hB
   have yD:B.length<=m:=by rw[re];exact Va _ _ _ _
   have rf:∀ x y:Int,0<=x->x < m->0<=y->y < m->B4 (.lst ((ac.getD x.toNat []).map cst)) (.int y)=.ok (cst (at2 ac x y)):=fun x y a b c d=>CK c (by rw[(hM.get a b).2];exact d)
   apply wp_step
   ·simp_arith[j5,hp,q7];rfl
   try simp only[zt,zm]
   apply wp_step
   ·simp_arith[j5,fc,q8];rfl
   try simp only[zt,zm]
   refine wp_step (ρ':=[some (.val (.lst (ns.map D.int))),some (.val (.int v)),some (.val (.int m)),some (.val (.lst (rs.map BI))),some (.val (.lst ((AH ac).map D.lst))),some (.val (.int i)),some (.val (B0 m rs L A K)),some (.val (.int s)),some (.val (.int g)),some (.own []),vO bt,cJ,vO bu]) (by simp_arith[];try rfl) ?_
   refine BW (I:=fun ρ=>∃(bt bu:Option D),ρ=[some (.val (.lst (ns.map D.int))),some (.val (.int v)),some (.val (.int m)),some (.val (.lst (rs.map BI))),some (.val (.lst ((AH ac).map D.lst))),some (.val (.int i)),some (.val (B0 m rs L A K)),some (.val (.int s)),some (.val (.int g)),some (.own (B.map D.int)),vO bt,cJ,vO bu]) ?_ ?_
   ·simp_arith[cN]
    refine Bx (fun j ρ=>∃(bt bu:Option D),ρ=[some (.val (.lst (ns.map D.int))),some (.val (.int v)),some (.val (.int m)),some (.val (.lst (rs.map BI))),some (.val (.lst ((AH ac).map D.lst))),some (.val (.int i)),some (.val (B0 m rs L A K)),some (.val (.int s)),some (.val (.int g)),some (.own ((OP (fun w=>at2 ac s w) (fun w=>at2 ac w g) (at2 ac s g) j).map D.int)),vO bt,cJ,vO bu]) ⟨bt,bu,rfl⟩ ?_ ?_
    ·rintro j d ρ hd ⟨bt,bu,rfl⟩
     obtain⟨aJ,hj⟩:=Bv hd
     rw[zaz] at aJ
     subst aJ
     refine⟨_,rfl,?_⟩
     have r1:=be s (by omega) (by omega)
     have r2:=be j (by omega) (by omega)
     have x1:=rf s j (by omega) (by omega) (by omega) (by omega)
     have x2:=rf j g (by omega) (by omega) (by omega) (by omega)
     have x3:=rf s g (by omega) (by omega) (by omega) (by omega)
     have gl:=Ke (at2 ac s j) (at2 ac j g)
     have hl:=Va (fun w=>at2 ac s w) (fun w=>at2 ac w g) (at2 ac s g) j
     apply wp_step
     ·simp_arith[r1,r2,x1,x2,gl];rfl
     try simp only[zt,zm]
     have il:=YX (fun w=>at2 ac s w) (fun w=>at2 ac w g) (at2 ac s g) j
     have lu:=Pt (Aj (at2 ac s j) (at2 ac j g)) (at2 ac s g)
     have bB:((OP (fun w=>at2 ac s w) (fun w=>at2 ac w g) (at2 ac s g) j).map D.int).length < 1000:=by rw[zc];omega
     have b8:C5 (cst (Aj (at2 ac s j) (at2 ac j g)))=decide (Aj (at2 ac s j) (at2 ac j g)=none):=by cases Aj (at2 ac s j) (at2 ac j g)<;>rfl
     by_cases c1:Aj (at2 ac s j) (at2 ac j g)=none
     ·rw[if_neg (fun h=>h.1 c1),yH] at il
      refine Ba (ρ':=_) (by simp_arith[b8,decide_eq_true c1];rfl) ⟨some (.int j),some (cst (Aj (at2 ac s j) (at2 ac j g))),by rw[il];rfl⟩
     ·by_cases c2:Aj (at2 ac s j) (at2 ac j g)=at2 ac s g
      ·rw[if_pos ⟨c1,c2⟩] at il
       refine Ba (ρ':=[some (.val (.lst (ns.map D.int))),some (.val (.int v)),some (.val (.int m)),some (.val (.lst (rs.map BI))),some (.val (.lst ((AH ac).map D.lst))),some (.val (.int i)),some (.val (B0 m rs L A K)),some (.val (.int s)),some (.val (.int g)),some (.own ((OP (fun w=>at2 ac s w) (fun w=>at2 ac w g) (at2 ac s g) (j + 1)).map D.int)),some (.val (.int j)),cJ,some (.val (cst (Aj (at2 ac s j) (at2 ac j g))))]) (by
        rw[il]
        simp_arith[b8,decide_eq_false c1,lu,decide_eq_true c2,r1,x3,F0,if_pos bB,zK]
        rfl) ⟨some (.int j),some (cst (Aj (at2 ac s j) (at2 ac j g))),rfl⟩
      ·rw[if_neg (fun h=>c2 h.2),yH] at il
       refine Ba (ρ':=_) (by simp_arith[b8,decide_eq_false c1,lu,decide_eq_false c2,r1,x3,F0];rfl) ⟨some (.int j),some (cst (Aj (at2 ac s j) (at2 ac j g))),by rw[il];rfl⟩
    ·rintro ρ ⟨bt,bu,rfl⟩
     rw[B6,<-re]
     exact⟨bt,bu,rfl⟩
   rintro ρ ⟨bt,bu,rfl⟩
   have rh:(B.map D.int).length<=1000:=by rw[zc];omega
   have rj:(B.map D.int).length < 1000:=by rw[zc];omega
   have ae:Ze 16 (.lst (B.map D.int)) (.lst (B.map D.int))=.ok (.bl false):=by rw[Yj,decide_eq_true rfl];rfl
   apply wp_step
   ·simp_arith[hB];rfl
   try simp only[zt,zm]
   refine wp_step (ρ':=[some (.val (.lst (ns.map D.int))),some (.val (.int v)),some (.val (.int m)),some (.val (.lst (rs.map BI))),some (.val (.lst ((AH ac).map D.lst))),some (.val (.int i)),some (.val (B0 m rs L A K)),some (.val (.int s)),some (.val (.int g)),some (.own (B.map D.int)),vO bt,some (.own (B.map D.int)),vO bu]) (by
    simp_arith[F0,if_pos rh]
    rw[D7 (fun _=>D.bl true) (fun b hb=>⟨_,rfl,rfl,by
     have h1:=Qv b
     simp_arith[h1]⟩)]
    have e1:(B.map fun _=>D.bl true)=(B.map fun _=>true).map D.bl:=by rw[yF];rfl
    have e2:(B.map fun _=>true).all id=true:=by rw[zbd];intro x hx;obtain⟨_,_,rfl⟩:=zE.mp hx;rfl
    simp_arith[e1,e2,ae,F0]
    try rfl) ?_
   apply wp_step
   ·simp_arith[if_pos rj];rfl
   try simp only[zt,zm]
   refine Ba (ρ':=[some (.val (.lst (ns.map D.int))),some (.val (.int v)),some (.val (.int m)),some (.val (.lst (rs.map BI))),some (.val (.lst ((AH ac).map D.lst))),some (.val (.int i)),some (.val (B0 m rs L A K)),some (.val (.int s)),some (.val (.int g)),some (.own (B.map D.int)),vO bt,some (.own (B.map D.int++[D.int s])),vO bu]) (by
    by_cases hk:(i:Int)=0
    ·simp_arith[decide_eq_true hk,hB,ae];try rfl
    ·simp_arith[decide_eq_false hk];try rfl) ⟨_,_,_,_,_,_,_,rfl⟩
  ·rintro ρ ⟨s5,s7,s8,s9,cJ,bt,bu,rfl⟩
   exact⟨s5,s7,s8,s9,cJ,bt,bu,rfl⟩
 ·rintro ρ ⟨s5,s7,s8,s9,cJ,bt,bu,rfl⟩
  rfl
noncomputable def Zc:List D->M D:=zi U4
theorem mS {P:Program}{w:World}{K:za}{mg:Str->Option Value}{base:Heap}{f:Addr}{fd:FuncData}:Txt K mg->WD K "law" "law" G7 f fd->Dn P w K mg base ZH 8 f fd ["_law_script"] (SX K 1 Zc):=(zb U4).1
theorem mT:∀ ns:List Int,ns.length<=63->(∀ n∈ns,Sm n)->Zc [.lst (ns.map D.int)]=.ok (.bl true):=(zb U4).2
theorem all_mk {l:PySem.W.OpenLaw}{w:World}{K:za}{h:Heap}{mg:Str->Option Value}{fa:Addr}(X:K.In h) (G:h.Ns mainGlobals mg) (x9:mg "law" = some (.ref fa))
 {af:Addr} {lx:Addr} {rn gy:Option Addr} {rq:Array (Option Value)} {rz gz g7 g8 dl g9:Value} {dm:Addr} {to29:Value} {r6:Option Addr} {r9:Nat} {se:Array (Option Value)} {sf:Addr} {sg j8:Option Addr} {so:Array (Option Value)} {sq j9 kc ke h7 kg:Value} {bW:Addr} {bX:Addr} {bh:Addr}
 (ah:zd K mainGlobals "Ladder" = some (some (.ref af))) (aL:zb4 K af Str.empty=true) (aM:PySem.W.hasDictIn K af=true) (aN:PySem.W.plainOver K af=true) (aO:zl K (.ref af) "__setattr__" = some (some (.builtin "object.__setattr__"))) (aP:PySem.W.makesIn K af=true) (aQ:zQ K (.ref af)=true)
 (p1:FP K "is_whole_below" Ce)
 (p2:FP K "is_measure" DC)
 (p3:FP K "is_road" HP)
 (p4:FP K "is_map" K8)
 (p5:FP K "checked" HQ)
 (p6:FP K "added" M2)
 (p7:FP K "least" M3)
 (p8:FP K "road_cost" EI)
 (p9:FP K "kept_costs" DD)
 (sr:FP K "kept_costs_turned" BE)
 (ss:FP K "climbed" HR)
 (su:FP K "swept" M4)
 (sv:FP K "costs_out" EJ)
 (sw:FP K "costs_in" FG)
 (sx:FP K "between" HS)
 (sy:FP K "cost_so_far" De)
 (sB:FP K "lay" Vd)
 (sK:FP K "lay_over" FH)
 (tf:FP K "laid_arcs" EL)
 (tj:FP K "is_order" FI)
 (tm:FP K "checked_order" Ct)
 (tq:FP K "first_bows" DF)
 (tu:FP K "missing_bows" CN)
 (tw:FP K "lightest" FJ)
 (tz:FP K "ranked" K9)
 (t5:FP K "costs_from" DH)
 (t6:FP K "order_or_ranked" C2)
 (t7:FP K "kept_arcs" EM)
 (t8:MP K af "order" "Ladder.order" CO)
 (t9:MP K af "checked_arc" "Ladder.checked_arc" Bq)
 (tR:MP K af "cost" "Ladder.cost" Df)
 (tS:MP K af "kept" "Ladder.kept" Dg)
 (tT:FP K "_law_cell_at" Dh)
 (tU:FP K "_law_mix" HU)
 (tV:FP K "_law_great" EN)
 (tW:FP K "_law_whole" EO)
 (tX:FP K "_law_roads" EQ)
 (tY:FP K "_law_order" ER)
 (tZ:FP K "_law_added" ES)
 (ub:FP K "_law_least" ET)
 (uc:FP K "_law_open" FL)
 (ue:FP K "_law_costs" EU)
 (uf:zl K (.ref af) "__init__" = some (some (.ref lx))) (ug:zb5 K (.ref lx)=true)
 (uh:K.lookup lx=some ⟨rz,rn,.func (zT "__init__" "Ladder.__init__" (AR Aq) (AB Aq) (A3 Aq) (.ref dm) gz g7 g8 gy dl g9),rq⟩) (ui:yI K dl "Ladder.__init__" = true) (uj:zQ K (.ref lx)=true)
 (dn:K.lookup dm=some ⟨to29,r6,.seq #[.none] r9,se⟩)
 (ly:zd K mainGlobals "law" = some (some (.ref sf)))
 (uk:K.lookup sf=some ⟨sq,sg,.func (zT "law" "law" (AR G7) (AB G7) (A3 G7) .none j9 kc ke j8 h7 kg),so⟩) (ul:yI K h7 "law" = true) (um:zQ K (.ref sf)=true)
 (z1:zd K mainGlobals "all" = some none)
 (z2:zd K mainGlobals "bool" = some none)
 (z3:zd K mainGlobals "dict" = some none)
 (z4:zd K mainGlobals "enumerate" = some none)
 (z5:zd K mainGlobals "int" = some none)
 (z6:zd K mainGlobals "isinstance" = some none)
 (z7:zd K mainGlobals "len" = some none)
 (z8:zd K mainGlobals "list" = some none)
 (z9:zd K mainGlobals "min" = some none)
 (uo:zd K mainGlobals "range" = some none)
 (up:zd K mainGlobals "reversed" = some none)
 (uq:zd K mainGlobals "sorted" = some none)
 (ur:zd K mainGlobals "tuple" = some none)
 (aS:zd K mainGlobals "NoArc" = some (some (.ref bW)))
 (aT:zd K mainGlobals "NoMap" = some (some (.ref bX)))
 (aB:zd K mainGlobals "NoOrder" = some (some (.ref bh)))
 (bv:zab K bW [.type "ValueError",.type "Exception",.type "BaseException",.type "object"] "ValueError.__new__" = true)
 (bw:zab K bX [.type "ValueError",.type "Exception",.type "BaseException",.type "object"] "ValueError.__new__" = true)
 (aR:zab K bh [.type "ValueError",.type "Exception",.type "BaseException",.type "object"] "ValueError.__new__" = true)
 (am:zl K (.ref af) "kept_ones" = some none)
 (ax:zl K (.ref af) "laid" = some none)
 (au:zl K (.ref af) "own_map" = some none)
 (ao:zl K (.ref af) "own_order" = some none) :
 ∃ fd:FuncData,(∀(s:Shared) (v:Value),BindsTo s fd ⟨[v],[]⟩ [("_law_script",v)])/\∀ base:Heap,K.In base->base.Ns mainGlobals mg->Dn l.prog w K mg base ZH 8 fa fd ["_law_script"] (SX K 1 Zc):=by
 have e:=x9.symm.trans (PySem.W.mg_of X G ly)
 cases e
 have al:Vq K af:=⟨aL,aM,aN,aO⟩
 have T1:Ak K mg "is_whole_below" Ce ["thing","bound"]:=AY X G p1 fun _ _ _ _ _ _ us hl=>match us,hl with|[_,_],_=>rfl
 have T2:Ak K mg "is_measure" DC ["thing"]:=AY X G p2 fun _ _ _ _ _ _ us hl=>match us,hl with|[_],_=>rfl
 have T3:Ak K mg "is_road" HP ["thing","many"]:=AY X G p3 fun _ _ _ _ _ _ us hl=>match us,hl with|[_,_],_=>rfl
 have T4:Ak K mg "is_map" K8 ["thing"]:=AY X G p4 fun _ _ _ _ _ _ us hl=>match us,hl with|[_],_=>rfl
 have T5:Ak K mg "checked" HQ ["thing"]:=AY X G p5 fun _ _ _ _ _ _ us hl=>match us,hl with|[_],_=>rfl
 have T6:Ak K mg "added" M2 ["one","other"]:=AY X G p6 fun _ _ _ _ _ _ us hl=>match us,hl with|[_,_],_=>rfl
 have T7:Ak K mg "least" M3 ["some"]:=AY X G p7 fun _ _ _ _ _ _ us hl=>match us,hl with|[_],_=>rfl
 have T8:Ak K mg "road_cost" EI ["road"]:=AY X G p8 fun _ _ _ _ _ _ us hl=>match us,hl with|[_],_=>rfl
 have T9:Ak K mg "kept_costs" DD ["ladder"]:=AY X G p9 fun _ _ _ _ _ _ us hl=>match us,hl with|[_],_=>rfl
 have xB:Ak K mg "kept_costs_turned" BE ["ladder"]:=AY X G sr fun _ _ _ _ _ _ us hl=>match us,hl with|[_],_=>rfl
 have xC:Ak K mg "climbed" HR ["order","costs","place"]:=AY X G ss fun _ _ _ _ _ _ us hl=>match us,hl with|[_,_,_],_=>rfl
 have xD:Ak K mg "swept" M4 ["order","costs","place"]:=AY X G su fun _ _ _ _ _ _ us hl=>match us,hl with|[_,_,_],_=>rfl
 have xE:Ak K mg "costs_out" EJ ["ladder","start"]:=AY X G sv fun _ _ _ _ _ _ us hl=>match us,hl with|[_,_],_=>rfl
 have xF:Ak K mg "costs_in" FG ["ladder","goal"]:=AY X G sw fun _ _ _ _ _ _ us hl=>match us,hl with|[_,_],_=>rfl
 have xG:Ak K mg "between" HS ["ladder","start","goal"]:=AY X G sx fun _ _ _ _ _ _ us hl=>match us,hl with|[_,_,_],_=>rfl
 have xH:Ak K mg "cost_so_far" De ["laid","pair"]:=AY X G sy fun _ _ _ _ _ _ us hl=>match us,hl with|[_,_],_=>rfl
 have xI:Ak K mg "lay" Vd ["laid","pair","cost","middle"]:=AY X G sB fun _ _ _ _ _ _ us hl=>match us,hl with|[_,_,_,_],_=>rfl
 have xJ:Ak K mg "lay_over" FH ["laid","place","higher"]:=AY X G sK fun _ _ _ _ _ _ us hl=>match us,hl with|[_,_,_],_=>rfl
 have xK:Ak K mg "laid_arcs" EL ["net","order"]:=AY X G tf fun _ _ _ _ _ _ us hl=>match us,hl with|[_,_],_=>rfl
 have xL:Ak K mg "is_order" FI ["net","thing"]:=AY X G tj fun _ _ _ _ _ _ us hl=>match us,hl with|[_,_],_=>rfl
 have xM:Ak K mg "checked_order" Ct ["net","thing"]:=AY X G tm fun _ _ _ _ _ _ us hl=>match us,hl with|[_,_],_=>rfl
 have xN:Ak K mg "first_bows" DF ["net"]:=AY X G tq fun _ _ _ _ _ _ us hl=>match us,hl with|[_],_=>rfl
 have xO:Ak K mg "missing_bows" CN ["bows","left","place"]:=AY X G tu fun _ _ _ _ _ _ us hl=>match us,hl with|[_,_,_],_=>rfl
 have xP:Ak K mg "lightest" FJ ["bows","left"]:=AY X G tw fun _ _ _ _ _ _ us hl=>match us,hl with|[_,_],_=>rfl
 have xQ:Ak K mg "ranked" K9 ["net"]:=AY X G tz fun _ _ _ _ _ _ us hl=>match us,hl with|[_],_=>rfl
 have xR:Ak K mg "costs_from" DH ["net","start"]:=AY X G t5 fun _ _ _ _ _ _ us hl=>match us,hl with|[_,_],_=>rfl
 have xS:Ak K mg "order_or_ranked" C2 ["net","order"]:=AY X G t6 fun _ _ _ _ _ _ us hl=>match us,hl with|[_,_],_=>rfl
 have xT:Ak K mg "kept_arcs" EM ["net","laid"]:=AY X G t7 fun _ _ _ _ _ _ us hl=>match us,hl with|[_,_],_=>rfl
 have xU:Ia K "Ladder" "order" "Ladder.order" CO ["self"]:=Vb ah al t8 fun _ _ _ _ _ _ us hl=>match us,hl with|[_],_=>rfl
 have xV:Ia K "Ladder" "checked_arc" "Ladder.checked_arc" Bq ["self","u","w"]:=Vb ah al t9 fun _ _ _ _ _ _ us hl=>match us,hl with|[_,_,_],_=>rfl
 have xW:Ia K "Ladder" "cost" "Ladder.cost" Df ["self","u","w"]:=Vb ah al tR fun _ _ _ _ _ _ us hl=>match us,hl with|[_,_,_],_=>rfl
 have xX:Ia K "Ladder" "kept" "Ladder.kept" Dg ["self"]:=Vb ah al tS fun _ _ _ _ _ _ us hl=>match us,hl with|[_],_=>rfl
 have xY:Ak K mg "_law_cell_at" Dh ["_law_script","_law_k"]:=AY X G tT fun _ _ _ _ _ _ us hl=>match us,hl with|[_,_],_=>rfl
 have xZ:Ak K mg "_law_mix" HU ["_law_cell","_law_k"]:=AY X G tU fun _ _ _ _ _ _ us hl=>match us,hl with|[_,_],_=>rfl
 have ya:Ak K mg "_law_great" EN ["_law_cell","_law_k"]:=AY X G tV fun _ _ _ _ _ _ us hl=>match us,hl with|[_,_],_=>rfl
 have yb:Ak K mg "_law_whole" EO ["_law_found"]:=AY X G tW fun _ _ _ _ _ _ us hl=>match us,hl with|[_],_=>rfl
 have yc:Ak K mg "_law_roads" EQ ["_law_cells","_law_many"]:=AY X G tX fun _ _ _ _ _ _ us hl=>match us,hl with|[_,_],_=>rfl
 have yd:Ak K mg "_law_order" ER ["_law_cell","_law_many"]:=AY X G tY fun _ _ _ _ _ _ us hl=>match us,hl with|[_,_],_=>rfl
 have ye:Ak K mg "_law_added" ES ["_law_one","_law_other"]:=AY X G tZ fun _ _ _ _ _ _ us hl=>match us,hl with|[_,_],_=>rfl
 have yf:Ak K mg "_law_least" ET ["_law_some"]:=AY X G ub fun _ _ _ _ _ _ us hl=>match us,hl with|[_],_=>rfl
 have yg:Ak K mg "_law_open" FL ["_law_road"]:=AY X G uc fun _ _ _ _ _ _ us hl=>match us,hl with|[_],_=>rfl
 have yh:Ak K mg "_law_costs" EU ["_law_roads_here","_law_many"]:=AY X G ue fun _ _ _ _ _ _ us hl=>match us,hl with|[_,_],_=>rfl
 have yi:=fR (st:=Aq) uh ui uj
 have yj:Binds K (zT "__init__" "Ladder.__init__" (AR Aq) (AB Aq) (A3 Aq) (.ref dm) gz g7 g8 gy dl g9) ["self","net","order"] []:=fun s us hK hl=>by
  have bf:us.length=3:=by simpa using hl
  match us,bf with
  |[_,_,_],_=>exact PySem.W.binds_K hK rfl dn rfl rfl rfl
 have yk:Binds K (zT "__init__" "Ladder.__init__" (AR Aq) (AB Aq) (A3 Aq) (.ref dm) gz g7 g8 gy dl g9) ["self","net","order"] [.none]:=fun s us hK hl=>by
  have bf:us.length=2:=by simpa using hl
  match us,bf with
  |[_,_],_=>exact PySem.W.binds_K hK rfl dn rfl rfl rfl
 have yl:Tt K mg "Ladder" "Ladder.__init__" Aq ["self","net","order"]:=⟨_,_,_,⟨ah,PySem.W.mg_of X G ah⟩,⟨aP,uf,ug,aQ⟩,yi,yj,yk⟩
 have ut:=SN (st:=G7) uk ul um
 have ym:Ak K mg "law" G7 ["_law_script"]:=⟨_,_,ut,PySem.W.mg_of X G ly,ut.binds fun _ _ _ _ _ _ us hl=>match us,hl with|[_],_=>rfl⟩
 have T:Txt K mg:=⟨T1,T2,T3,T4,T5,T6,T7,T8,T9,xB,xC,xD,xE,xF,xG,xH,xI,xJ,xK,xL,xM,xN,xO,xP,xQ,xR,xS,xT,yl,xU,xV,xW,xX,xY,xZ,ya,yb,yc,yd,ye,yf,yg,yh,ym,zZ X G z1,zZ X G z2,zZ X G z3,zZ X G z4,zZ X G z5,zZ X G z6,zZ X G z7,zZ X G z8,zZ X G z9,zZ X G uo,zZ X G up,zZ X G uq,zZ X G ur,⟨_,aS,PySem.W.mg_of X G aS,bv⟩,⟨_,aT,PySem.W.mg_of X G aT,bw⟩,⟨_,aB,PySem.W.mg_of X G aB,aR⟩,⟨_,ah,al,am⟩,⟨_,ah,al,ax⟩,⟨_,ah,al,au⟩,⟨_,ah,al,ao⟩⟩
 refine⟨zT "law" "law" (AR G7) (AB G7) (A3 G7) .none j9 kc ke j8 h7 kg,fun s v=>.of_eq rfl,fun base _ _=>?_⟩
 exact mS T ut
set_option maxHeartbeats 0 in
set_option maxHeartbeats 0 in
set_option maxHeartbeats 0 in
set_option maxHeartbeats 0 in
theorem left (w:World):(PySem.W.openEnds treeTable PySem.Challenge.pw_nodeladder_k54_between w 5276).map (fun s=>PySem.W.openSeen (CV PySem.Challenge.pw_nodeladder_k54_between) [] (importedModules PySem.Challenge.pw_nodeladder_k54_between.main.body) (fun s=>PySem.W.xlAt (CV PySem.Challenge.pw_nodeladder_k54_between) [] s && PySem.W.recOk [] s) true s)=some (PySem.W.openGood (CV PySem.Challenge.pw_nodeladder_k54_between) []):=by
 rw[Vc,mP,PySem.W.Fast.te4187177175401517315,PySem.W.Fast.te5923862056798008813,PySem.W.Fast.te1346891545137598544]
 exact Q9 (nI w) (Q9 (nJ w) (Q9 (nK w) (nL w)))
set_option maxHeartbeats 0 in
theorem mU (w:World):WH (Kp R0 PySem.Challenge.pw_nodeladder_k54_between w) PySem.Challenge.pw_nodeladder_k54_between:=by
 rw[mP,PySem.W.Fast.te1346891545137598544]
 exact Zg w
set_option maxHeartbeats 0 in
theorem mV (w:World):WI (Kp R0 PySem.Challenge.pw_nodeladder_k54_between w) PySem.Challenge.pw_nodeladder_k54_between:=by
 rw[mP,PySem.W.Fast.te1346891545137598544]
 exact Zh w
theorem walk {l:PySem.W.OpenLaw}{q:Program}{loose:List Str}{XP:(Str->Option Value)->Heap->Prop}{YP:World->Heap->Prop}{d:DefRec}{K:World->za}(hn:l.most=some 63) (gc:d.params.defaults=[])
 (hY:∀(w:World) (h:Heap),YP w h->(K w).In h)
 (F:∀(w:World) (mg:Str->Option Value) (fa:Addr) (h:Heap),(K w).In h->h.Ns mainGlobals mg->mg d.name=some (.ref fa)->
  ∃ fd:FuncData,(∀(s:Shared) (u:Value),BindsTo s fd ⟨[u],[]⟩ [("_law_script",u)])/\∀ base:Heap,(K w).In base->base.Ns mainGlobals mg->Dn l.prog w (K w) mg base ZH 8 fa fd ["_law_script"] (SX (K w) 1 Zc)) :
 PySem.W.WalkO q loose XP YP l.row.toRowW d [] (fun f vs=>PySem.call f vs) :=
 L2.qR (n:=63) (k:=8) (x := "_law_script") (CX:=fun _=>ZH) (sp:=fun w=>SX (K w) 1 Zc) hn (by decide) gc ⟨rfl,by decide,by decide⟩ hY F (fun w H a ns bF hl _ hS=>dD mT (K w) H a ns bF hl hS) fun _ _ _ _ _ z=>z
end cO
open PySem PySem.W PyProof.Rows L2
set_option maxRecDepth 100000 in
set_option maxHeartbeats 0 in
theorem PySem.Challenge.cw_nodeladder_k54_between_holds : PySem.Challenge.rw_nodeladder_k54_between.Holds := by
 w_on;o_law
 refine holds_open (q:=CV PySem.Challenge.pw_nodeladder_k54_between) (loose:=[]) (Xt:=fun s=>xlAt (CV PySem.Challenge.pw_nodeladder_k54_between) [] s && recOk [] s) (XP:=XL (CV PySem.Challenge.pw_nodeladder_k54_between) []) (Yf:=fun s=>s.heap) (Ya:=fun w=>WG R0 PySem.Challenge.pw_nodeladder_k54_between w 5276) (YP:=fun w h=>qQ (WG R0 PySem.Challenge.pw_nodeladder_k54_between w 5276) h) (N:=5276) (gD cO.left) (fun w s e b o q=>by rw[<-e] at q;exact q) (fun w h h' a b c o q=>b c o (a c o q)) (fun s e=>xl_of s (Bool.and_eq_true_iff.mp e).1) XL.keeps (by rfl) (by rfl) (by rfl) (fun s e=>recFacts_of (Bool.and_eq_true_iff.mp e).2) (by rfl) (by first|assumption|decide +kernel) (by decide +kernel) ⟨rfl,rfl,rfl,rfl,rfl,by decide +kernel⟩ ?hw ?hc
 case hw=>w_witness2
 case hc =>
  refine cO.walk (l:=PySem.Challenge.rw_nodeladder_k54_between) (K:=cO.Kp R0 PySem.Challenge.pw_nodeladder_k54_between) rfl rfl (fun w h Y=>mQ Y) ?F
  intro w mg fa h KX G ge
  obtain⟨ah,aL,aM,aN,aO,aP,aQ,p1,p2,p3,p4,p5,p6,p7,p8,p9,sr,ss,su,sv,sw,sx,sy,sB,sK,tf,tj,tm,tq,tu,tw,tz,t5,t6,t7,t8,t9,tR,tS,tT,tU⟩:=cO.mU w
  obtain⟨tV,tW,tX,tY,tZ,ub,uc,ue,uf,ug,uh,ui,uj,dn,ly,uk,ul,um,z1,z2,z3,z4,z5,z6,z7,z8,z9,uo,up,uq,ur,aS,aT,aB,bv,bw,aR,am,ax,au,ao⟩:=cO.mV w
  exact cO.all_mk KX G ge ah aL aM aN aO aP aQ p1 p2 p3 p4 p5 p6 p7 p8 p9 sr ss su sv sw sx sy sB sK tf tj tm tq tu tw tz t5 t6 t7 t8 t9 tR tS tT tU tV tW tX tY tZ ub uc ue uf ug uh ui uj dn ly uk ul um z1 z2 z3 z4 z5 z6 z7 z8 z9 uo up uq ur aS aT aB bv bw aR am ax au ao
