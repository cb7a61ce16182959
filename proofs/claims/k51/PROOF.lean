import PyProof.Rows.All
import Wide.All
import OpenK.AllK
import Wide.FinOn
import Lean
import PyProof.EqAt
import PyProof.EqKinds
import PyProof.TupleCall
import PyProof.NeKinds
import KE.KRevSl
import KE.KIsAll
import PyProof.ExcArgsOwn
import PyProof.ExcAttrAll.ValueError
import PyProof.ExcBaseAll.ValueError
import PyProof.FitsBits
import KE.LcSums
import KE.KRevIter
import PyProof.ListRange
import PyProof.Rows.SumAny
import PyProof.Rows.SortWalk
import PyProof.AttrMissHeap
import KE.KDictOf
import PySem.Challenge.RW_nodeladder_k51_swept
set_option Elab.async false
set_option linter.all false
set_option maxRecDepth 1000000
open PySem.W renaming Frag→za,nsIn→zd,findIn→zl,keepIn→zR,fnOf→zU,mg_none_of→yK,codeIn→yO,emptyDict→za4,hideAll_get→zae,excIn→zag,kia_one→zal,instObj→zam,plainGet→zb9,isFn→zba
open Classical renaming choose_spec→zb,choose→zj,byContradiction→zah,propDecidable→zbj
open List renaming length_map→zc,mem_cons_self→ze,mem_cons_of_mem→zf,map_cons→zg,mem_singleton→zh,size_toArray→zi,mem_of_getElem?→zk,set_cons_succ→zo,length_cons→zp,mem_append_right→zq,getElem?_eq_getElem→zt,mem_cons→zu,set_cons_zero→zv,replicate→zw,mem_append→zy,getElem?_eq_some_iff→zA,getD_eq_getElem?_getD→zD,mem_map→zE,getElem?_map→zH,nodup_append→zK,length_append→zL,map_append→zN,mem_append_left→zO,getElem?_set_self→zQ,getElem?_cons_succ→zT,foldl_cons→zV,map_map→yM,nodup_cons→yP,length_set→yQ,mem_of_mem_take→yR,getElem?_set_ne→yS,append_nil→yW,take_length→yX,length_take→yY,take_add_one→yZ,getElem?_append_left→za0,length_reverse→za1,mem_filter→za2,range→za3,replicate_succ→za6,nodup_nil→za7,take_append_drop→za8,length_singleton→za9,getElem?_replicate→zad,getElem?_append_right→zai,getElem?_eq_none→zaj,append_assoc→zap,map_nil→zau,getElem?_cons_zero→zav,lookup_cons→zaw,length_replicate→zb1,find?_cons→zb2,any_cons→zb7,mem_or_eq_of_mem_set→zbb,drop_eq_getElem_cons→zbc,length_drop→zbf,cons_append→zbg,all_eq_true→zbh
open PySem.Challenge renaming pw_nodeladder_k51_swept→zm
open PySem.Heap renaming get?_push_of_some→zr,lt_size→zx,get?_push_size→zI,get?_update_other→zay,get?_update_self→zb3,SameBut→zb4
open Nat renaming le_refl→zB,lt_of_lt_of_le→zC,ne_of_lt→zG,zero_le→zW,le_trans→yU,le_of_lt→yV
open Bool renaming false_eq_true→zF,false_ne_true→zM,and_eq_true→zS,eq_iff_iff→zar
open Option.some renaming inj→zJ
open Prod renaming fst→zP,snd→za5
open PySem.Builtin.Int renaming intBits→zX
open PySem.F renaming plain_min_loop→zY,plainAttrs_list→zaa
open Int renaming toNat_natCast→zZ,emod_lt_of_pos→zak,emod_nonneg→zat,add_assoc→zb8
open Or renaming inl→yJ
open Ne renaming symm→yL
open PySem.Value renaming ref→yN
open PyProof.Rows renaming callWith_type1→yT
open PySem.W.Fast renaming tw5923862056798008813→zab,tw4187177175401517315→zac
open Option renaming map_some→zaf,isSome_iff_exists→zbe
open PySem.Around renaming under_plainId→zan
open False renaming elim→zao
open PySem.Builtin.Builtins renaming bindParams→zaq
open PySem.Obj renaming mapSeq→zas
open True renaming intro→zax
open PySem.Calls renaming spliced_cons→zaz,spliced_nil→zb5
open PySem.NameKind renaming free→zb0
open PySem.Builtin.List renaming listTooLong→zb6
open PySem renaming mem_of_lookup→zbd
open ForInStep renaming yield→zbi
section
set_option maxHeartbeats 0
namespace L2
open PySem PySem.Spec PyProof.Rows PySem.W PySem.Calls
noncomputable def inClass (s:Stmt) (j:Nat):Stmt:=match s with
 | .ClassDef _ _ _ body _ _ _ _ _ _ _=>body.getD j (.Pass ⟨0,0,0,0⟩)
 |_=>.Pass ⟨0,0,0,0⟩
noncomputable def AQ (s:Stmt):Arguments:=match s with
 | .FunctionDef _ a _ _ _ _ _ _ _ _=>a
 |_=>{ posonlyargs:=[],args:=[],vararg:=none,kwonlyargs:=[],kw_defaults:=[],kwarg:=none,defaults:=[] }
noncomputable def AD (s:Stmt):List Stmt:=match s with
 | .FunctionDef _ _ b _ _ _ _ _ _ _=>b
 |_=>[]
noncomputable def A3 (s:Stmt):Scope:=match s with
 | .FunctionDef _ _ _ _ _ _ sc _ _ _=>sc
 |_=>{ kind:=.function,names:=[],isGenerator:=false,isCoroutine:=false }
structure FP (K:za) (x:Str) (st:Stmt):Prop where
 ex:∃(f:Addr) (oc:Value) (od an:Option Addr) (sl:Array (Option Value)) (kV dc pm cd ct:Value),zd K mainGlobals x=some (some (.ref f))/\K.lookup f=some ⟨oc,od,.func (zU x x (AQ st) (AD st) (A3 st) .none kV dc pm an cd ct),sl⟩/\yO K cd x=true/\zR K (.ref f)=true
theorem nM {K:za}{x:Str}{st:Stmt}{f:Addr}{oc:Value}{od an:Option Addr}{sl:Array (Option Value)}{kV dc pm cd ct:Value}(a:zd K mainGlobals x=some (some (.ref f))) (l:K.lookup f=some ⟨oc,od,.func (zU x x (AQ st) (AD st) (A3 st) .none kV dc pm an cd ct),sl⟩) (c:yO K cd x=true) (k:zR K (.ref f)=true):FP K x st:=⟨⟨f,oc,od,an,sl,kV,dc,pm,cd,ct,a,l,c,k⟩⟩
structure MP (K:za) (C:Addr) (m qual:Str) (st:Stmt):Prop where
 ex:∃(f:Addr) (oc:Value) (od an:Option Addr) (sl:Array (Option Value)) (kV dc pm cd ct:Value),zl K (.ref C) m=some (some (.ref f))/\zba K (.ref f)=true/\K.lookup f=some ⟨oc,od,.func (zU m qual (AQ st) (AD st) (A3 st) .none kV dc pm an cd ct),sl⟩/\yO K cd qual=true/\zR K (.ref f)=true
theorem nN {K:za}{C:Addr}{m qual:Str}{st:Stmt}{f:Addr}{oc:Value}{od an:Option Addr}{sl:Array (Option Value)}{kV dc pm cd ct:Value}(a:zl K (.ref C) m=some (some (.ref f))) (i:zba K (.ref f)=true) (l:K.lookup f=some ⟨oc,od,.func (zU m qual (AQ st) (AD st) (A3 st) .none kV dc pm an cd ct),sl⟩) (c:yO K cd qual=true) (k:zR K (.ref f)=true):MP K C m qual st:=⟨⟨f,oc,od,an,sl,kV,dc,pm,cd,ct,a,i,l,c,k⟩⟩
noncomputable def CW (p:Program):Program:={ p with main:={ p.main with body:=p.main.body.filter fun s=>match s with | .FunctionDef .. =>true | .ClassDef .. =>true | _=>false } }
structure Rn where
 run:(String->Option Builtin)->Program->World->Nat->Option Value->Nat->Shared->Thread->Option Shared
 ns:Heap->Addr->Str->Option Value
 imp:(String->Option Builtin)->Program->World->Nat->Shared->Thread->Option Shared
 vL:Program->Shared->Option Shared
 st:Program->Shared×Thread
 tb:String->Option Builtin
noncomputable def Mj (R:Rn) (p:Program) (w:World) (N:Nat):Option Shared :=
 ((R.imp R.tb (opening p) w N (R.st (opening p)).fst (R.st (opening p)).snd).bind (R.vL p)).bind fun s₀ =>
 match s₀.heap.isNs mainGlobals && s₀.gens.size == 0 with
 |true=>(R.run R.tb p w s₀.heap.objs.size (R.ns s₀.heap mainGlobals (Str.ofString "__annotations__")) N s₀ (topStub p)).bind fun s₁ =>
  match staticsOk (importedModules p.main.body) s₀.heap s₁.heap && namesBound p s₁.heap && gensDone s₁ && laidKept s₀.heap s₁.heap with
  |true=>some s₁
  |false=>none
 |false=>none
noncomputable def R1:Rn:=⟨PySem.W.Fast.tw14082659384304107361,PySem.W.Fast.tw8920871248978507458,PySem.W.Fast.tw10274390034422433532,PySem.W.Fast.tw14289696077712309145,PySem.W.Fast.tw1435165496053646825,PySem.W.Fast.tw14364793385576792824⟩
noncomputable def WN (R:Rn) (p:Program) (w:World) (N:Nat):Heap:=match Mj R p w N with | some s=>s.heap | none=>⟨#[],default⟩
noncomputable def qY (h:Heap) (as:List Addr):za:=as.filterMap fun a=>(h.get? a).map fun o=>(a,o)
noncomputable def B8 (v:Option (Option Value)):Addr:=match v with | some (some (.ref f))=>f | _=>0
noncomputable def Dy (K:za) (f:Addr):Obj:=(K.lookup f).getD ⟨.none,none,.plain,#[]⟩
noncomputable def Hj (d:Data) (st:Stmt):FuncData:=match d with | .func fd=>fd | _=>zU Str.empty Str.empty (AQ st) [] (A3 st) .none .none .none .none none .none .none
noncomputable def Vp (v:Value):Addr:=match v with | .ref a=>a | _=>0
noncomputable def rW (d:Data):Nat:=match d with | .seq _ n=>n | _=>0
theorem Au {K:za}{x:Str}{st:Stmt}(a:zd K mainGlobals x=some (some (.ref (B8 (zd K mainGlobals x)))):=by kernel_rfl)
 (l:K.lookup (B8 (zd K mainGlobals x))=some ⟨(Dy K (B8 (zd K mainGlobals x))).cls,(Dy K (B8 (zd K mainGlobals x))).dict,.func (zU x x (AQ st) (AD st) (A3 st) .none (Hj (Dy K (B8 (zd K mainGlobals x))).data st).kwdefaults (Hj (Dy K (B8 (zd K mainGlobals x))).data st).doc (Hj (Dy K (B8 (zd K mainGlobals x))).data st).pyModule (Hj (Dy K (B8 (zd K mainGlobals x))).data st).annotations (Hj (Dy K (B8 (zd K mainGlobals x))).data st).code (Hj (Dy K (B8 (zd K mainGlobals x))).data st).closureTuple),(Dy K (B8 (zd K mainGlobals x))).slots⟩:=by kernel_rfl)
 (c:yO K (Hj (Dy K (B8 (zd K mainGlobals x))).data st).code x=true:=by kernel_rfl) (k:zR K (.ref (B8 (zd K mainGlobals x)))=true:=by kernel_rfl):FP K x st:=nM a l c k
theorem LF {K:za}{C:Addr}{m qual:Str}{st:Stmt}(a:zl K (.ref C) m=some (some (.ref (B8 (zl K (.ref C) m)))):=by kernel_rfl) (i:zba K (.ref (B8 (zl K (.ref C) m)))=true:=by kernel_rfl)
 (l:K.lookup (B8 (zl K (.ref C) m))=some ⟨(Dy K (B8 (zl K (.ref C) m))).cls,(Dy K (B8 (zl K (.ref C) m))).dict,.func (zU m qual (AQ st) (AD st) (A3 st) .none (Hj (Dy K (B8 (zl K (.ref C) m))).data st).kwdefaults (Hj (Dy K (B8 (zl K (.ref C) m))).data st).doc (Hj (Dy K (B8 (zl K (.ref C) m))).data st).pyModule (Hj (Dy K (B8 (zl K (.ref C) m))).data st).annotations (Hj (Dy K (B8 (zl K (.ref C) m))).data st).code (Hj (Dy K (B8 (zl K (.ref C) m))).data st).closureTuple),(Dy K (B8 (zl K (.ref C) m))).slots⟩:=by kernel_rfl)
 (c:yO K (Hj (Dy K (B8 (zl K (.ref C) m))).data st).code qual=true:=by kernel_rfl) (k:zR K (.ref (B8 (zl K (.ref C) m)))=true:=by kernel_rfl):MP K C m qual st:=nN a i l c k
end L2
namespace K51
open PySem L2
theorem prim:(PySem.W.chainsOk zm || true)=true:=by k_qdec
theorem nO (w:World):(Mj R1 PySem.W.Fast.tw4444633713727475660 w 5334).map (fun s=>(zac (CW PySem.W.Fast.tw4444633713727475660) [] (zab PySem.W.Fast.tw4444633713727475660.main.body) (fun s=>PySem.W.xlAt (CW PySem.W.Fast.tw4444633713727475660) [] s && PySem.W.recOk [] s) true s).1)=some (PySem.W.openGood (CW PySem.W.Fast.tw4444633713727475660) []).1:=by kernel_rfl
theorem nQ (w:World):(Mj R1 PySem.W.Fast.tw4444633713727475660 w 5334).map (fun s=>(zac (CW PySem.W.Fast.tw4444633713727475660) [] (zab PySem.W.Fast.tw4444633713727475660.main.body) (fun s=>PySem.W.xlAt (CW PySem.W.Fast.tw4444633713727475660) [] s && PySem.W.recOk [] s) true s).2.1)=some (PySem.W.openGood (CW PySem.W.Fast.tw4444633713727475660) []).2.1:=by kernel_rfl
theorem nR (w:World):(Mj R1 PySem.W.Fast.tw4444633713727475660 w 5334).map (fun s=>(zac (CW PySem.W.Fast.tw4444633713727475660) [] (zab PySem.W.Fast.tw4444633713727475660.main.body) (fun s=>PySem.W.xlAt (CW PySem.W.Fast.tw4444633713727475660) [] s && PySem.W.recOk [] s) true s).2.2.1)=some (PySem.W.openGood (CW PySem.W.Fast.tw4444633713727475660) []).2.2.1:=by kernel_rfl
theorem nS (w:World):(Mj R1 PySem.W.Fast.tw4444633713727475660 w 5334).map (fun s=>(zac (CW PySem.W.Fast.tw4444633713727475660) [] (zab PySem.W.Fast.tw4444633713727475660.main.body) (fun s=>PySem.W.xlAt (CW PySem.W.Fast.tw4444633713727475660) [] s && PySem.W.recOk [] s) true s).2.2.2)=some (PySem.W.openGood (CW PySem.W.Fast.tw4444633713727475660) []).2.2.2:=by kernel_rfl
noncomputable def topP (p:Program) (i:Nat):Stmt:=p.main.body.getD i (.Pass ⟨0,0,0,0⟩)
noncomputable def Kp (R:Rn) (p:Program) (w:World):za:=qY (WN R p w 5334) (za3 403)
noncomputable def WO (K:za) (p:Program):Prop :=
 (zd K mainGlobals "Ladder" = some (some (.ref (B8 (zd K mainGlobals "Ladder"))))) /\
 (zb9 K (B8 (zd K mainGlobals "Ladder")) Str.empty=true) /\
 (PySem.W.hasDictIn K (B8 (zd K mainGlobals "Ladder"))=true) /\
 (PySem.W.plainOver K (B8 (zd K mainGlobals "Ladder"))=true) /\
 (zl K (.ref (B8 (zd K mainGlobals "Ladder"))) "__setattr__" = some (some (.builtin "object.__setattr__"))) /\
 (PySem.W.makesIn K (B8 (zd K mainGlobals "Ladder"))=true) /\
 (zR K (.ref (B8 (zd K mainGlobals "Ladder")))=true) /\
 (FP K "is_whole_below" (topP p 7)) /\
 (FP K "is_measure" (topP p 8)) /\
 (FP K "is_road" (topP p 9)) /\
 (FP K "is_map" (topP p 10)) /\
 (FP K "checked" (topP p 11)) /\
 (FP K "added" (topP p 12)) /\
 (FP K "least" (topP p 13)) /\
 (FP K "road_cost" (topP p 14)) /\
 (FP K "kept_costs" (topP p 16)) /\
 (FP K "kept_costs_turned" (topP p 17)) /\
 (FP K "climbed" (topP p 18)) /\
 (FP K "swept" (topP p 20)) /\
 (FP K "costs_out" (topP p 21)) /\
 (FP K "costs_in" (topP p 22)) /\
 (FP K "cost_so_far" (topP p 24)) /\
 (FP K "lay" (topP p 25)) /\
 (FP K "lay_over" (topP p 26)) /\
 (FP K "laid_arcs" (topP p 27)) /\
 (FP K "is_order" (topP p 29)) /\
 (FP K "checked_order" (topP p 30)) /\
 (FP K "first_bows" (topP p 31)) /\
 (FP K "missing_bows" (topP p 32)) /\
 (FP K "lightest" (topP p 33)) /\
 (FP K "ranked" (topP p 34)) /\
 (FP K "costs_from" (topP p 36)) /\
 (FP K "order_or_ranked" (topP p 38)) /\
 (FP K "kept_arcs" (topP p 39)) /\
 (MP K (B8 (zd K mainGlobals "Ladder")) "order" "Ladder.order" (inClass (topP p 40) 2)) /\
 (MP K (B8 (zd K mainGlobals "Ladder")) "checked_arc" "Ladder.checked_arc" (inClass (topP p 40) 4)) /\
 (MP K (B8 (zd K mainGlobals "Ladder")) "cost" "Ladder.cost" (inClass (topP p 40) 5)) /\
 (MP K (B8 (zd K mainGlobals "Ladder")) "kept" "Ladder.kept" (inClass (topP p 40) 8)) /\
 (FP K "_law_cell_at" (topP p 42)) /\
 (FP K "_law_mix" (topP p 43)) /\
 (FP K "_law_great" (topP p 44)) /\
 (FP K "_law_whole" (topP p 45))
theorem Zn (w:World):WO (Kp R1 PySem.W.Fast.tw4444633713727475660 w) PySem.W.Fast.tw4444633713727475660 :=
 ⟨by kernel_rfl,by kernel_rfl,by kernel_rfl,by kernel_rfl,by kernel_rfl,by kernel_rfl,by kernel_rfl,Au,Au,Au,Au,Au,Au,Au,Au,Au,Au,Au,Au,Au,Au,Au,Au,Au,Au,Au,Au,Au,Au,Au,Au,Au,Au,Au,LF,LF,LF,LF,Au,Au,Au,Au⟩
noncomputable def WQ (K:za) (p:Program):Prop :=
 (FP K "_law_is_cost" (topP p 46)) /\
 (FP K "_law_are_costs" (topP p 47)) /\
 (FP K "_law_roads" (topP p 48)) /\
 (FP K "_law_order" (topP p 49)) /\
 (FP K "_law_added" (topP p 50)) /\
 (FP K "_law_least" (topP p 51)) /\
 (FP K "_law_open" (topP p 52)) /\
 (FP K "_law_costs" (topP p 53)) /\
 (zl K (.ref (B8 (zd K mainGlobals "Ladder"))) "__init__" = some (some (.ref (B8 (zl K (.ref (B8 (zd K mainGlobals "Ladder"))) "__init__"))))) /\
 (zba K (.ref (B8 (zl K (.ref (B8 (zd K mainGlobals "Ladder"))) "__init__")))=true) /\
 (K.lookup (B8 (zl K (.ref (B8 (zd K mainGlobals "Ladder"))) "__init__"))=some ⟨(Dy K (B8 (zl K (.ref (B8 (zd K mainGlobals "Ladder"))) "__init__"))).cls,(Dy K (B8 (zl K (.ref (B8 (zd K mainGlobals "Ladder"))) "__init__"))).dict,.func (zU "__init__" "Ladder.__init__" (AQ (inClass (topP p 40) 0)) (AD (inClass (topP p 40) 0)) (A3 (inClass (topP p 40) 0)) (.ref (Vp (Hj (Dy K (B8 (zl K (.ref (B8 (zd K mainGlobals "Ladder"))) "__init__"))).data (inClass (topP p 40) 0)).defaults)) (Hj (Dy K (B8 (zl K (.ref (B8 (zd K mainGlobals "Ladder"))) "__init__"))).data (inClass (topP p 40) 0)).kwdefaults (Hj (Dy K (B8 (zl K (.ref (B8 (zd K mainGlobals "Ladder"))) "__init__"))).data (inClass (topP p 40) 0)).doc (Hj (Dy K (B8 (zl K (.ref (B8 (zd K mainGlobals "Ladder"))) "__init__"))).data (inClass (topP p 40) 0)).pyModule (Hj (Dy K (B8 (zl K (.ref (B8 (zd K mainGlobals "Ladder"))) "__init__"))).data (inClass (topP p 40) 0)).annotations (Hj (Dy K (B8 (zl K (.ref (B8 (zd K mainGlobals "Ladder"))) "__init__"))).data (inClass (topP p 40) 0)).code (Hj (Dy K (B8 (zl K (.ref (B8 (zd K mainGlobals "Ladder"))) "__init__"))).data (inClass (topP p 40) 0)).closureTuple),(Dy K (B8 (zl K (.ref (B8 (zd K mainGlobals "Ladder"))) "__init__"))).slots⟩) /\
 (yO K (Hj (Dy K (B8 (zl K (.ref (B8 (zd K mainGlobals "Ladder"))) "__init__"))).data (inClass (topP p 40) 0)).code "Ladder.__init__" = true) /\
 (zR K (.ref (B8 (zl K (.ref (B8 (zd K mainGlobals "Ladder"))) "__init__")))=true) /\
 (K.lookup (Vp (Hj (Dy K (B8 (zl K (.ref (B8 (zd K mainGlobals "Ladder"))) "__init__"))).data (inClass (topP p 40) 0)).defaults)=some ⟨(Dy K (Vp (Hj (Dy K (B8 (zl K (.ref (B8 (zd K mainGlobals "Ladder"))) "__init__"))).data (inClass (topP p 40) 0)).defaults)).cls,(Dy K (Vp (Hj (Dy K (B8 (zl K (.ref (B8 (zd K mainGlobals "Ladder"))) "__init__"))).data (inClass (topP p 40) 0)).defaults)).dict,.seq #[.none] (rW (Dy K (Vp (Hj (Dy K (B8 (zl K (.ref (B8 (zd K mainGlobals "Ladder"))) "__init__"))).data (inClass (topP p 40) 0)).defaults)).data),(Dy K (Vp (Hj (Dy K (B8 (zl K (.ref (B8 (zd K mainGlobals "Ladder"))) "__init__"))).data (inClass (topP p 40) 0)).defaults)).slots⟩) /\
 (zd K mainGlobals "law" = some (some (.ref (B8 (zd K mainGlobals "law"))))) /\
 (K.lookup (B8 (zd K mainGlobals "law"))=some ⟨(Dy K (B8 (zd K mainGlobals "law"))).cls,(Dy K (B8 (zd K mainGlobals "law"))).dict,.func (zU "law" "law" (AQ (topP p 54)) (AD (topP p 54)) (A3 (topP p 54)) .none (Hj (Dy K (B8 (zd K mainGlobals "law"))).data (topP p 54)).kwdefaults (Hj (Dy K (B8 (zd K mainGlobals "law"))).data (topP p 54)).doc (Hj (Dy K (B8 (zd K mainGlobals "law"))).data (topP p 54)).pyModule (Hj (Dy K (B8 (zd K mainGlobals "law"))).data (topP p 54)).annotations (Hj (Dy K (B8 (zd K mainGlobals "law"))).data (topP p 54)).code (Hj (Dy K (B8 (zd K mainGlobals "law"))).data (topP p 54)).closureTuple),(Dy K (B8 (zd K mainGlobals "law"))).slots⟩) /\
 (yO K (Hj (Dy K (B8 (zd K mainGlobals "law"))).data (topP p 54)).code "law" = true) /\
 (zR K (.ref (B8 (zd K mainGlobals "law")))=true) /\
 (zd K mainGlobals "all" = some none) /\
 (zd K mainGlobals "bool" = some none) /\
 (zd K mainGlobals "dict" = some none) /\
 (zd K mainGlobals "enumerate" = some none) /\
 (zd K mainGlobals "int" = some none) /\
 (zd K mainGlobals "isinstance" = some none) /\
 (zd K mainGlobals "len" = some none) /\
 (zd K mainGlobals "list" = some none) /\
 (zd K mainGlobals "min" = some none) /\
 (zd K mainGlobals "range" = some none) /\
 (zd K mainGlobals "reversed" = some none) /\
 (zd K mainGlobals "sorted" = some none) /\
 (zd K mainGlobals "tuple" = some none) /\
 (zd K mainGlobals "NoArc" = some (some (.ref (B8 (zd K mainGlobals "NoArc"))))) /\
 (zd K mainGlobals "NoMap" = some (some (.ref (B8 (zd K mainGlobals "NoMap"))))) /\
 (zd K mainGlobals "NoOrder" = some (some (.ref (B8 (zd K mainGlobals "NoOrder"))))) /\
 (zag K (B8 (zd K mainGlobals "NoArc")) [.type "ValueError",.type "Exception",.type "BaseException",.type "object"] "ValueError.__new__" = true) /\
 (zag K (B8 (zd K mainGlobals "NoMap")) [.type "ValueError",.type "Exception",.type "BaseException",.type "object"] "ValueError.__new__" = true) /\
 (zag K (B8 (zd K mainGlobals "NoOrder")) [.type "ValueError",.type "Exception",.type "BaseException",.type "object"] "ValueError.__new__" = true) /\
 (zl K (.ref (B8 (zd K mainGlobals "Ladder"))) "kept_ones" = some none) /\
 (zl K (.ref (B8 (zd K mainGlobals "Ladder"))) "laid" = some none) /\
 (zl K (.ref (B8 (zd K mainGlobals "Ladder"))) "own_map" = some none) /\
 (zl K (.ref (B8 (zd K mainGlobals "Ladder"))) "own_order" = some none)
theorem Zo (w:World):WQ (Kp R1 PySem.W.Fast.tw4444633713727475660 w) PySem.W.Fast.tw4444633713727475660 :=
 ⟨Au,Au,Au,Au,Au,Au,Au,Au,by kernel_rfl,by kernel_rfl,by kernel_rfl,by kernel_rfl,by kernel_rfl,by kernel_rfl,by kernel_rfl,by kernel_rfl,by kernel_rfl,by kernel_rfl,by kernel_rfl,by kernel_rfl,by kernel_rfl,by kernel_rfl,by kernel_rfl,by kernel_rfl,by kernel_rfl,by kernel_rfl,by kernel_rfl,by kernel_rfl,by kernel_rfl,by kernel_rfl,by kernel_rfl,by kernel_rfl,by kernel_rfl,by kernel_rfl,by kernel_rfl,by kernel_rfl,by kernel_rfl,by kernel_rfl,by kernel_rfl,by kernel_rfl,by kernel_rfl⟩
end K51
end
set_option Elab.async false
set_option linter.all false
set_option maxRecDepth 100000
namespace L2
open PySem PySem.Spec PyProof.Rows
noncomputable abbrev Key:=Sum Int Str
noncomputable def Og:Key->Value->Bool
 | .inl k,v=>Value.isInt k v
 | .inr x,v=>Value.isStrOf x v
noncomputable def rX (w:World):Key->Int
 | .inl k=>hashInt k
 | .inr x=>hashStr w x
theorem Bn:∀ {k:Key}{v:Value},Og k v=true->(∃ i t,k=Sum.inl i/\v=Value.int i t)\/(∃ x t,k=Sum.inr x/\v=Value.str x t)
 | .inl i,v,h=>by
  obtain⟨t,e⟩:=Value.isInt_shape (k:=i) (v:=v) h
  exact .inl ⟨i,t,rfl,e⟩
 | .inr x,v,h=>by
  obtain⟨t,e⟩:=Value.isStrOf_shape (x:=x) (v:=v) h
  exact .inr ⟨x,t,rfl,e⟩
theorem Vq (i:Int) (t:Tok):Og (.inl i) (.int i t)=true:=by simp[Og,Value.isInt]
theorem Vr (x:Str) (t:Tok):Og (.inr x) (.str x t)=true:=by simp[Og,Value.isStrOf]
theorem iP (a b:Int):decide ((Sum.inl a:Key)=Sum.inl b)=(a == b):=by
 by_cases e:a=b
 ·subst e;simp
 ·have h:¬ (Sum.inl a:Key)=Sum.inl b:=fun q=>e (Sum.inl.inj q)
  rw[decide_eq_false h]
  exact (beq_eq_false_iff_ne.mpr e).symm
theorem iQ (a b:Str):decide ((Sum.inr a:Key)=Sum.inr b)=decide (a=b):=by
 by_cases e:a=b
 ·subst e;simp
 ·have h:¬ (Sum.inr a:Key)=Sum.inr b:=fun q=>e (Sum.inr.inj q)
  rw[decide_eq_false h,decide_eq_false e]
theorem iR (a:Int) (b:Str):decide ((Sum.inl a:Key)=Sum.inr b)=false:=decide_eq_false (fun q=>nomatch q)
theorem iS (a:Str) (b:Int):decide ((Sum.inr a:Key)=Sum.inl b)=false:=decide_eq_false (fun q=>nomatch q)
noncomputable def B6 (prog:Program) (w:World):PySem.KeyKind prog w Key where
 is:=Og
 hash:=rX w
 inj:=fun v a b ha hb=>by
  rcases Bn ha with ⟨i,t,rfl,rfl⟩|⟨x,t,rfl,rfl⟩
  ·rcases Bn hb with ⟨j,u,rfl,e⟩|⟨y,u,rfl,e⟩
   ·injection e with e1 _;rw[e1]
   ·exact nomatch e
  ·rcases Bn hb with ⟨j,u,rfl,e⟩|⟨y,u,rfl,e⟩
   ·exact nomatch e
   ·injection e with e1 _;rw[e1]
 byValue:=fun k v h=>by
  rcases Bn h with ⟨i,t,rfl,rfl⟩|⟨x,t,rfl,rfl⟩<;>rfl
 pyHash:=fun hv h=>by
  rcases Bn hv with ⟨i,t,rfl,rfl⟩|⟨x,t,rfl,rfl⟩
  ·exact wpAny_pyHash_int h
  ·exact wpAny_pyHash_str h
 eqBool:=fun hu hv h=>by
  rcases Bn hu with ⟨i,t,rfl,rfl⟩|⟨x,t,rfl,rfl⟩
  ·rcases Bn hv with ⟨j,u,rfl,rfl⟩|⟨y,u,rfl,rfl⟩
   ·rw[iP] at h;exact wpAny_eqBool_int h
   ·rw[iR] at h;exact SeqAt.EqAt.int_str i t y u _ _ _ _ h
  ·rcases Bn hv with ⟨j,u,rfl,rfl⟩|⟨y,u,rfl,rfl⟩
   ·rw[iS] at h;exact SeqAt.EqAt.str_int x t j u _ _ _ _ h
   ·rw[iQ] at h;exact wpAny_eqBool_str h
 «strs»:=fun k x t v h=>by
  rcases Bn h with ⟨i,u,rfl,e⟩|⟨y,u,rfl,e⟩
  ·exact nomatch e
  ·injection e with e1 _
   subst e1
   cases v<;>rfl
theorem QK (prog:Program) (w:World) (i:Int) (t:Tok):(B6 prog w).is (.inl i) (.int i t)=true:=Vq i t
theorem QL (prog:Program) (w:World) (x:Str) (t:Tok):(B6 prog w).is (.inr x) (.str x t)=true:=Vr x t
inductive V where
 |AA|bl (b:Bool)|int (i:Int)|str (x:Str)|iT (b:Array UInt8)|nT (b:UInt64)|ref (a:Addr)|ty (n:String)
 deriving DecidableEq
noncomputable def RelV:V->Value->Prop
 | .AA,u=>u=Value.none
 | .bl b,u=>u=Value.bool b
 | .int i,u=>∃ t,u=Value.int i t
 | .str x,u=>∃ t,u=Value.str x t
 | .iT b,u=>∃ t,u=Value.bytes b t
 | .nT b,u=>∃ t,u=Value.float b t
 | .ref a,u=>u=yN a
 | .ty n,u=>u=Value.type n
noncomputable abbrev Vals:List V->List Value->Prop:=Paired RelV
theorem Vals.length {xs:List V}{us:List Value}(r:Vals xs us):xs.length=us.length:=Paired.length r
theorem Vals.get:∀ {xs:List V}{us:List Value}{i:Nat}{x:V},Vals xs us->xs[i]? =some x->∃ u,us[i]? =some u/\RelV x u
 |_,_,_,_,.nil,e=>by simp at e
 |_,_,0,_,.cons r _,e=>by simp at e;subst e;exact⟨_,rfl,r⟩
 |_,_,i + 1,x,.cons _ t,e=>by
  obtain⟨u,h1,h2⟩:=Vals.get (i:=i) (x:=x) t (by simpa using e)
  exact⟨u,by simpa using h1,h2⟩
theorem Vals.set {x:V}{u:Value}(r:RelV x u):∀ {xs:List V}{us:List Value}(i:Nat),Vals xs us->Vals (xs.set i x) (us.set i u)
 |_,_,_,.nil=>.nil
 |_,_,0,.cons _ t=>.cons r t
 |_,_,i + 1,.cons q t=>.cons q (Vals.set r i t)
theorem Vals.append:∀ {xs ys:List V}{us ws:List Value},Vals xs us->Vals ys ws->Vals (xs++ys) (us++ws)
 |_,_,_,_,.nil,s=>s
 |_,_,_,_,.cons r t,s=>.cons r (Vals.append t s)
theorem Vals.take:∀ {xs:List V}{us:List Value}(n:Nat),Vals xs us->Vals (xs.take n) (us.take n)
 |_,_,0,_=>.nil
 |_,_,_ + 1,.nil=>.nil
 |_,_,n + 1,.cons r t=>.cons r (Vals.take n t)
theorem Vals.drop:∀ {xs:List V}{us:List Value}(n:Nat),Vals xs us->Vals (xs.drop n) (us.drop n)
 |_,_,0,r=>r
 |_,_,_ + 1,.nil=>.nil
 |_,_,n + 1,.cons _ t=>Vals.drop n t
noncomputable def Gj:Option V->Option Value->Prop
 |some v,some u=>RelV v u
 |none,none=>True
 |_,_=>False
noncomputable def KV {κ:Type}:List (κ×V)->List (κ×Value)->Prop:=Paired fun (p:κ×V) (q:κ×Value)=>p.1=q.1/\RelV p.2 q.2
noncomputable def kV:Key->V
 | .inl i=>.int i
 | .inr x=>.str x
inductive HO where
 |lst (xs:List V)
 |tup (xs:List V)
 |dK (kvs:List (Key×V))|dT (kvs:List (List Key×V))
 |set (S:Int->Bool) (n:Nat)
 |ins (C dx:Addr) (fs:List (Str×V))
 |own (x:Addr)
 |xd (fs:List (Str×V))
 |met (f x:Addr)
 |qZ (lo hi:Int)
 |Vs (o:Obj) (u:HO)
 |gL (ps:Array Value)
 |ext (φ:Heap->Prop)
noncomputable abbrev Hp:=Addr->Option HO
noncomputable def upd (H:Hp) (a:Addr) (o:HO):Hp:=fun b=>if b=a then some o else H b
theorem Ar {H:Hp}{a:Addr}{o:HO}:upd H a o a=some o:=by unfold upd;rw[if_pos rfl]
theorem Ah {H:Hp}{a b:Addr}{o:HO}(h:b≠a):upd H a o b=H b:=by unfold upd;rw[if_neg h]
theorem nU {H:Hp}{a b:Addr}{o u:HO}(h:H a=some o) (h':H b=some u) (d:o≠u):a≠b:=by
 intro e;subst e;rw[h] at h';exact d (zJ h')
theorem Az {H:Hp}{a b:Addr}{o:HO}(h:H a=some o) (h':H b=none):a≠b:=by
 intro e;subst e;rw[h] at h';cases h'
section
variable (P:Program) (w:World)
noncomputable def BD (H:Hp) (h:Heap) (a:Addr):HO->Prop
 | .lst xs=>xs.length<=sizeLine/\∃(aa:List Value) (n:Nat),Vals xs aa/\h.get? a=some { cls:=.type "list",data:=.seq aa.toArray n }
 | .tup xs=>xs.length<=sizeLine/\∃ aa:List Value,Vals xs aa/\IsTup h a aa.toArray
 | .dK kvs=>kvs.length<=sizeLine/\(a == sysModules)=false/\∃ vs,KV kvs vs/\h.DictOf (B6 P w) a vs
 | .dT kvs=>kvs.length<=sizeLine/\(a == sysModules)=false/\∃ xs:List (List Key×Addr×Value),
  Paired (fun (p:List Key×V) (q:List Key×Addr×Value)=>p.1=q.1/\H q.2.1=some (.tup (p.1.map kV))/\RelV p.2 q.2.2) kvs xs /\
  ∃ o es ep,h.get? a=some o/\o.ExactDict/\o.data=.dict es ep/\es.toList=xs.map (entryOfKey (tupleKind (B6 P w)))/\(xs.map (·.1)).Nodup
 | .set S n=>h.SetOf (intKind P w) a S n
 | .ins C dx fs=>H dx=some (.own a)/\fs.length<=1000/\dx≠a/\h.get? a=some (zam C dx) /\
  ∃ mA,h.Ns1 dx mA/\(∀ f,Gj (fs.lookup f) (mA f))/\PySem.Within mA (fs.map (·.1))
 | .own _=>∃ o,h.get? a=some o
 | .xd fs=>∃ mA,h.Ns1 a mA/\∀ f,Gj (fs.lookup f) (mA f)
 | .qZ lo hi=>∃ t u v,h.get? a=some { cls:=.type "range",data:=.fields #[.int lo t,.int hi u,.int 1 v] }
 | .Vs o u=>h.get? a=some o/\BD H h a u
 | .gL ps=>h.get? a=some { cls:=.none,data:=.fields ps }
 | .met f x=>h.get? a=some (PySem.W.methodObj (.ref f) (.ref x))
 | .ext φ=>φ h/\(∃ o,h.get? a=some o)/\∀ h1 h2:Heap,φ h1->(∀ o,h1.get? a=some o->h2.get? a=some o)->φ h2
noncomputable def Fq (H:Hp) (h:Heap):Prop:=∀ a o,H a=some o->BD P w H h a o
end
section
variable {P:Program}{w:World}{H H':Hp}{h h':Heap}{a:Addr}{o:HO}
theorem BD.lt (x:BD P w H h a o):a < h.objs.size:=by
 cases o with
 |lst xs=>obtain⟨_,_,_,_,e⟩:=x;exact zx e
 |tup xs=>obtain⟨_,_,_,p⟩:=x;exact p.lt
 |dK kvs=>obtain⟨_,_,_,_,o,_,_,e,_⟩:=x;exact zx e
 |dT kvs=>obtain⟨_,_,_,_,o,_,_,e,_⟩:=x;exact zx e
 |set S n=>obtain⟨o,_,_,_,e,_⟩:=x;exact zx e
 |ins C dx fs=>obtain⟨_,_,_,e,_⟩:=x;exact zx e
 |own y=>obtain⟨_,e⟩:=x;exact zx e
 |xd fs=>obtain⟨_,⟨_,_,_,e,_⟩,_⟩:=x;exact zx e
 |qZ lo hi=>obtain⟨_,_,_,e⟩:=x;exact zx e
 |Vs ob u=>obtain⟨e,_⟩:=x;exact zx e
 |gL ps=>exact zx (show h.get? a=some _ from x)
 |met f y=>exact zx (show h.get? a=some _ from x)
 |ext φ=>obtain⟨_,⟨_,e⟩,_⟩:=x;exact zx e
theorem Paired.iU {α β:Type}{F G:α->β->Prop}:∀ {l₁:List α}{l₂:List β},Paired F l₁ l₂->(∀ a b,F a b->G a b)->Paired G l₁ l₂
 |_,_,.nil,_=>.nil
 |_,_,.cons r t,f=>.cons (f _ _ r) (Paired.iU t f)
theorem BD.Pj (x:BD P w H h a o) (k:∀ b u,(b=a\/H b=some (.own a))->h.get? b=some u->h'.get? b=some u)
 (ho:∀ b,H b=some (.own a)->H' b=some (.own a)) (ht:∀ b xs,H b=some (.tup xs)->H' b=some (.tup xs)):BD P w H' h' a o:=by
 induction o with
 |lst xs=>obtain⟨z,aa,n,r,e⟩:=x;exact⟨z,aa,n,r,k _ _ (.inl rfl) e⟩
 |tup xs=>obtain⟨z,aa,r,ob,e,c⟩:=x;exact⟨z,aa,r,ob,k _ _ (.inl rfl) e,c⟩
 |dK kvs=>obtain⟨z,y,vs,r,ob,es,ep,e,c⟩:=x;exact⟨z,y,vs,r,ob,es,ep,k _ _ (.inl rfl) e,c⟩
 |dT kvs =>
  obtain⟨z,y,xs,r,ob,es,ep,e,c⟩:=x
  exact⟨z,y,xs,Paired.iU r fun p q z=>⟨z.1,ht _ _ z.2.1,z.2.2⟩,ob,es,ep,k _ _ (.inl rfl) e,c⟩
 |set S n=>obtain⟨ob,es,ep,t,e,c⟩:=x;exact⟨ob,es,ep,t,k _ _ (.inl rfl) e,c⟩
 |ins C dx fs =>
  obtain⟨d,z,ne,e,mA,⟨od,es,ep,e2,c⟩,r⟩:=x
  exact⟨ho _ d,z,ne,k _ _ (.inl rfl) e,mA,⟨od,es,ep,k _ _ (.inr d) e2,c⟩,r⟩
 |own y=>obtain⟨ob,e⟩:=x;exact⟨ob,k _ _ (.inl rfl) e⟩
 |xd fs=>obtain⟨mA,⟨od,es,ep,e,c⟩,r⟩:=x;exact⟨mA,⟨od,es,ep,k _ _ (.inl rfl) e,c⟩,r⟩
 |qZ lo hi=>obtain⟨t,u,v,e⟩:=x;exact⟨t,u,v,k _ _ (.inl rfl) e⟩
 |Vs ob u ih=>obtain⟨e,q⟩:=x;exact⟨k _ _ (.inl rfl) e,ih q⟩
 |gL ps =>
  have e:h.get? a=some { cls:=.none,data:=.fields ps }:=x
  show h'.get? a=some { cls:=.none,data:=.fields ps }
  exact k a _ (.inl rfl) e
 |met f y =>
  have e:h.get? a=some (PySem.W.methodObj (.ref f) (.ref y)):=x
  show h'.get? a=some (PySem.W.methodObj (.ref f) (.ref y))
  exact k a _ (.inl rfl) e
 |ext φ=>obtain⟨p,⟨o,e⟩,st⟩:=x;exact⟨st _ _ p fun o q=>k _ _ (.inl rfl) q,⟨o,k _ _ (.inl rfl) e⟩,st⟩
theorem Fq.lt (x:Fq P w H h) (e:H a=some o):a < h.objs.size:=(x a o e).lt
theorem Fq.fresh (x:Fq P w H h) (e:h.objs.size<=a):H a=none:=by
 cases q:H a with
 |none=>rfl
 |some u=>exact absurd (zC (x.lt q) e) (Nat.lt_irrefl _)
theorem Fq.kept (x:Fq P w H h) (k:∀ b u,h.get? b=some u->h'.get? b=some u):Fq P w H h':=fun a o e =>
 (x a o e).Pj (fun b u _ q=>k b u q) (fun _ q=>q) fun _ _ q=>q
theorem Fq.laid (x:Fq P w H h) (k:∀ b u,h.get? b=some u->h'.get? b=some u) (hp:h.objs.size<=a) (new:BD P w (upd H a o) h' a o):Fq P w (upd H a o) h':=fun b u e=>by
 have hn:=x.fresh hp
 by_cases hb:b=a
 ·subst hb;rw[Ar] at e;cases e;exact new
 ·rw[Ah hb] at e
  exact (x b u e).Pj (fun c v _ q=>k c v q) (fun c q=>by rw[Ah (Az q hn)];exact q) fun c xs q=>by rw[Ah (Az q hn)];exact q
end
noncomputable def Rd (H:Hp) (a:Addr) (u:HO):Prop:=H a=some u\/∃ o,H a=some (.Vs o u)
theorem Rd.ok {P:Program}{w:World}{H:Hp}{h:Heap}{a:Addr}{u:HO}(r:Rd H a u) (x:Fq P w H h):BD P w H h a u:=by
 rcases r with r|⟨o,r⟩
 ·exact x a u r
 ·obtain⟨_,q⟩:=x a _ r
  exact q
noncomputable def nV:Option HO->Prop
 |some (.lst _)=>True
 |some (.dK _)=>True
 |some (.dT _)=>True
 |some (.set _ _)=>True
 |some (.ins _ _ _)=>True
 |some (.ext _)=>True
 |_=>False
section
variable {P:Program}{w:World}{H:Hp}{h h':Heap}{x e:Addr}{o':HO}
theorem Fq.write (ok:Fq P w H h) (mu:nV (H x)) (he:e=x\/H e=some (.own x)) (k:∀ b u,b≠e->h.get? b=some u->h'.get? b=some u) (dq:∃ u,h'.get? e=some u)
 (new:BD P w (upd H x o') h' x o'):Fq P w (upd H x o') h':=fun b u q=>by
 have im:∀ c y,H c=some (.own y)->c≠x:=fun c y r z=>by subst z;rw[r] at mu;exact mu
 have l9:∀ c xs,H c=some (.tup xs)->c≠x:=fun c xs r z=>by subst z;rw[r] at mu;exact mu
 by_cases hb:b=x
 ·subst hb;rw[Ar] at q;cases q;exact new
 ·rw[Ah hb] at q
  by_cases ef:b=e
  ·have q':H b=some (.own x):=by
    rcases he with z|z
    ·exact absurd (ef.trans z) hb
    ·rw[ef];exact z
   rw[q] at q';cases q'
   obtain⟨v,hv⟩:=dq
   exact⟨v,by rw[ef];exact hv⟩
  ·refine (ok b u q).Pj (fun c v hc r=>k c v ?_ r) (fun c r=>by rw[Ah (im c b r)];exact r) fun c xs r=>by rw[Ah (l9 c xs r)];exact r
   rcases hc with rfl|hc
   ·exact ef
   ·rintro rfl
    rcases he with z|z
    ·exact im c b hc z
    ·rw[hc] at z;cases z;exact hb rfl
end
structure Un (fs ex:List Addr) (H H':Hp) (h h':Heap):Prop where
 keep:∀ b o,h.get? b=some o->H b=none->b∉fs->b∉ex->h'.get? b=some o
 slot:∀ b o,h.get? b=some o->H b=none->b∈fs->b∉ex->∃ sl,h'.get? b=some { o with slots:=sl }
 free:∀ b o,h.get? b=some o->H b=none->b∉ex->H' b=none
 there:∀ b o,h.get? b=some o->b∉ex->∃ o',h'.get? b=some o'
 NS:∀ b xs,H b=some (.tup xs)->H' b=some (.tup xs)
 Ml:∀ b o u,H b=some (.Vs o u)->H' b=some (.Vs o u)
 NT:∀ b ps,H b=some (.gL ps)->∃ more,H' b=some (.gL (ps++more))
section
variable {fs cj ex me:List Addr}{H H1 H2:Hp}{h h1 h2 h':Heap}{a x e:Addr}{o:HO}
theorem Un.any (u:Un fs ex H H1 h h1){b:Addr}{ob:Obj}(q:h.get? b=some ob) (n:H b=none) (hx:b∉ex):∃ sl,h1.get? b=some { ob with slots:=sl }:=by
 by_cases hb:b∈fs
 ·exact u.slot b ob q n hb hx
 ·exact⟨ob.slots,u.keep b ob q n hb hx⟩
theorem Un.kept (k:∀ b u,h.get? b=some u->h'.get? b=some u):Un fs ex H H h h' :=
 ⟨fun b ob q _ _ _=>k b ob q,fun b ob q _ _ _=>⟨ob.slots,k b ob q⟩,fun _ _ _ n _=>n,fun b ob q _=>⟨ob,k b ob q⟩,fun _ _ q=>q,fun _ _ _ q=>q,fun _ ps q=>⟨#[],by rw[q];simp⟩⟩
theorem Un.refl:Un fs ex H H h h:=Un.kept fun _ _ q=>q
theorem Un.laid (k:∀ b u,h.get? b=some u->h'.get? b=some u) (hp:h.objs.size<=a) (hn:H a=none):Un fs ex H (upd H a o) h h' where
 keep:=fun b u q _ _ _=>k b u q
 slot:=fun b u q _ _ _=>⟨u.slots,k b u q⟩
 free:=fun b u q n _=>by rw[Ah (zG (zC (zx q) hp))];exact n
 there:=fun b u q _=>⟨u,k b u q⟩
 NS:=fun b xs q=>by rw[Ah (Az q hn)];exact q
 Ml:=fun b u xs q=>by rw[Ah (Az q hn)];exact q
 NT:=fun b ps q=>⟨#[],by rw[Ah (Az q hn),q];simp⟩
theorem Un.write (mu:nV (H x)) (he:e=x\/H e=some (.own x)) (k:∀ b u,b≠e->h.get? b=some u->h'.get? b=some u) (dq:∃ u,h'.get? e=some u):Un fs ex H (upd H x o) h h':=by
 have hx:∀ b,H b=none->b≠x:=fun b n z=>by subst z;rw[n] at mu;exact mu
 have hb:∀ b,H b=none->b≠e:=fun b n z=>by
  subst z
  rcases he with r|r
  ·exact hx b n r
  ·rw[n] at r;cases r
 have hm:∀ b u,H b=some u->¬ nV (some u)->b≠x:=fun b u q nm z=>by subst z;rw[q] at mu;exact nm mu
 refine⟨fun b u q n _ _=>k b u (hb b n) q,fun b u q n _ _=>⟨u.slots,k b u (hb b n) q⟩,fun b u q n _=>by rw[Ah (hx b n)];exact n,fun b u q _=>?_,
  fun b xs q=>by rw[Ah (hm b _ q fun z=>z)];exact q,fun b u xs q=>by rw[Ah (hm b _ q fun z=>z)];exact q,fun b ps q=>⟨#[],by rw[Ah (hm b _ q fun z=>z),q];simp⟩⟩
 by_cases ef:b=e
 ·subst ef;exact dq
 ·exact⟨u,k b u ef q⟩
end
noncomputable def Cq (h:Heap) (H:Hp):List Addr:=(za3 h.objs.size).filter fun a=>(H a).isSome
noncomputable def Pk (h:Heap) (H:Hp):Heap:=PySem.W.hideAll h (Cq h H)
theorem Vt (h:Heap) (H:Hp):(Pk h H).objs.size=h.objs.size:=PySem.W.hideAll_size _ _
theorem WR {h:Heap}{H:Hp}{b:Addr}{o:Obj}(e:h.get? b=some o) (n:H b=none):(Pk h H).get? b=some o :=
 zae _ e fun hm=>by
  have q:(H b).isSome=true:=(za2.mp hm).2
  rw[n] at q;simp at q
theorem Zp {h:Heap}{H:Hp}{b:Addr}{o:Obj}(e:(Pk h H).get? b=some o):h.get? b=some o/\H b=none:=by
 have e':h.get? b=some o:=PySem.W.of_hideAll (Cq h H) e
 refine⟨e',?_⟩
 cases q:H b with
 |none=>rfl
 |some x =>
  have hm:b∈Cq h H:=za2.mpr ⟨List.mem_range.mpr (zx e'),by simp[q]⟩
  have z:(Pk h H).get? b=none:=PySem.W.hideAll_none (Cq h H) hm
  rw[z] at e;cases e
noncomputable def Zq (g h:Heap) (L:Addr):List (Addr×Obj):=(za3 h.objs.size).filterMap fun a=>if a=L\/(g.get? a).isSome=true then none else (h.get? a).map fun o=>(a,o)
noncomputable def rest (g h:Heap) (L d:Addr):List (Addr×Obj):=(Zq g h L).filter fun p=>decide (p.1≠d)
structure Mod (K:za) (mg:Str->Option Value) (base:Heap):Prop where
 WJ:K.In base
 glob:base.Ns mainGlobals mg
 blt:∃ mb,base.Ns builtinsNs mb/\∀ x:Str,x ≠ "__name__" -> mb x=bootBuiltins x
 nolimit:base.NoLimit
structure Cx where
 prog:Program
 w:World
 K:za
 mg:Str->Option Value
 base:Heap
 A:Around
 N:List Str
 s₀:Shared
 H₀:Hp
 env:Env
 outer:List Env
 stack:List Env
 ex:List Addr
 fn:Str->Bool
 calm:Bool
 pn:List (Addr×Obj)
 xe:Value->Shared->Prop
noncomputable def L4 (l:List Env):List Addr:=l.filterMap (·.frame)
noncomputable abbrev Cx.fs (X:Cx):List Addr:=L4 X.outer
noncomputable def rY (sc:Scope) (x:Str):Prop:=sc.names.lookup x=some .local\/sc.names.lookup x=some .cell\/sc.names.lookup x=some .free
noncomputable def Loc (sc:Scope) (x:Str):Prop:=sc.names.lookup x=some .local\/sc.names.lookup x=some .cell
noncomputable def Look (env:Env) (h:Heap) (m:Str->Option Value) (x:Str) (u:Value):Prop :=
 (env.kindOf x=some .local/\m x=some u)\/((env.kindOf x=some .cell\/env.kindOf x=some .free)/\∃ c,env.cells.lookup x=some c/\h.IsCell c (some u))
structure Cx.Ok (X:Cx):Prop where
 mod:Mod X.K X.mg X.base
 kind:X.env.scope.kind=.function
 glob:X.env.globals=mainGlobals
 blt:X.env.builtins=builtinsNs
 above:X.s₀.heap.objs.size<=X.env.locals
 inj:∀ x y c,X.env.cells.lookup x=some c->X.env.cells.lookup y=some c->x=y
 has:∀ x,(X.env.kindOf x=some .cell\/X.env.kindOf x=some .free)->∃ c,X.env.cells.lookup x=some c
 nW:∀ x c,X.fn x=true->X.env.cells.lookup x=some c->X.s₀.heap.objs.size<=c
 hd:X.calm=true->X.A.handled=none
 frames:X.A.frames=some X.stack
 gM:X.stack=X.outer\/(X.stack=X.env::X.outer/\X.env.frame=some X.env.locals)
 rA:∀ b∈X.ex,b≠X.env.locals/\∀ x c,X.env.cells.lookup x=some c->c≠b
 bs:∀ b o,X.base.get? b=some o->X.s₀.heap.get? b=some o/\X.H₀ b=none
 Zr:X.base.objs.size<=X.s₀.heap.objs.size
 WS:∀ b o,X.base.get? b=some o->b∉X.ex
 WT:∀ b∈X.ex,b∉X.fs
 J0:X.s₀.heap.FunFrames X.base X.outer
 iV:∀ b∈X.fs,X.H₀ b=none
structure Inv (X:Cx) (pins:List (Addr×Obj)) (σ:List (Option V)) (H:Hp) (s:Shared):Prop where
 ok:X.Ok
 os:s.os=X.s₀.os
 bare:AllBare s.gens
 base:Un X.fs X.ex X.H₀ H X.s₀.heap s.heap
 loc:∃ m,s.heap.Ns X.env.locals m/\∀(i:Nat) (x:Str) (v:V),X.N[i]? =some x->σ[i]? =some (some v)->rY X.env.scope x->∃ u,RelV v u/\Look X.env s.heap m x u
 cell:∀ x c,X.env.cells.lookup x=some c->∃ v,s.heap.IsCell c v
 free:H X.env.locals=none
 Gp:∀ x c,X.env.cells.lookup x=some c->H c=none
 pin:∀ p∈X.pn++pins,s.heap.get? p.1=some p.2/\H p.1=none/\p.1≠X.env.locals/\p.1∉X.fs/\∀ v,p.2.data≠.cell v
 Av:Fq X.prog X.w H s.heap
 len:σ.length=X.N.length
section
variable {X:Cx}{pins:List (Addr×Obj)}{σ:List (Option V)}{H H':Hp}{s:Shared}{h':Heap}
theorem Cx.Ok.rZ (ok:X.Ok){b:Addr}{o:Obj}(e:X.base.get? b=some o):b∉X.fs:=fun hb=>by
 have:=(ok.J0.mem hb).1
 rw[e] at this;cases this
theorem Inv.bs (I:Inv X pins σ H s):∀ b o,X.base.get? b=some o->s.heap.get? b=some o/\H b=none:=fun b o e =>
 ⟨I.base.keep b o (I.ok.bs b o e).1 (I.ok.bs b o e).2 (I.ok.rZ e) (I.ok.WS b o e),I.base.free b o (I.ok.bs b o e).1 (I.ok.bs b o e).2 (I.ok.WS b o e)⟩
theorem Inv.bk (I:Inv X pins σ H s):∀ b o,X.base.get? b=some o->s.heap.get? b=some o:=fun b o e=>(I.bs b o e).1
theorem Inv.mod (I:Inv X pins σ H s):Mod X.K X.mg X.base:=I.ok.mod
theorem Inv.NQ (I:Inv X pins σ H s):X.K.In s.heap:=I.ok.mod.WJ.keeps I.bk
theorem Inv.fr (I:Inv X pins σ H s):∃ m,Fr X.base X.env.locals s.heap m :=
 let ⟨m,hn,_⟩:=I.loc
 ⟨m,hn,I.bk,yU I.ok.Zr I.ok.above⟩
theorem Inv.lt (I:Inv X pins σ H s):X.env.locals < s.heap.objs.size:=let ⟨_,hn,_⟩:=I.loc;hn.lt
theorem Inv.sz (I:Inv X pins σ H s):X.s₀.heap.objs.size<=s.heap.objs.size:=yU I.ok.above (yV I.lt)
theorem Inv.sA (I:Inv X pins σ H s){a:Addr}(h:s.heap.objs.size<=a):a∉X.fs:=fun hb=>by
 obtain⟨_,o,ho,_⟩:=I.ok.J0.mem hb
 exact absurd (zC (zx ho) (yU I.sz h)) (Nat.lt_irrefl _)
theorem Inv.iW (I:Inv X pins σ H s):∀ x c,X.env.cells.lookup x=some c->c≠X.env.locals:=fun x c e z=>by
 obtain⟨v,o,ho,hd⟩:=I.cell x c e
 obtain⟨m,⟨o',es,ep,b9,bO,_⟩,_⟩:=I.loc
 rw[z,b9] at ho;cases ho;rw[bO] at hd;cases hd
theorem Inv.J0 (I:Inv X pins σ H s):s.heap.FunFrames X.base X.outer:=by
 have all:∀(l:List Env),(∀ b∈L4 l,b∈X.fs)->X.s₀.heap.FunFrames X.base l->s.heap.FunFrames X.base l:=by
  intro l
  induction l with
  |nil=>intro _ _;trivial
  |cons env r ih =>
   intro hs hl
   obtain⟨hk,⟨L,o,hf,hn,ho,hd⟩,hr⟩:=hl
   have hL:L∈X.fs:=hs L (by unfold L4;rw[List.filterMap_cons,hf];exact ze)
   obtain⟨sl,e⟩:=I.base.slot L o ho (I.ok.iV L hL) hL fun z=>I.ok.WT L z hL
   exact⟨hk,⟨L,_,hf,hn,e,hd⟩,ih (fun b hb=>hs b (by unfold L4;rw[List.filterMap_cons,hf];exact zf _ hb)) hr⟩
 exact all X.outer (fun _ hb=>hb) I.ok.J0
theorem Inv.stack (I:Inv X pins σ H s):s.heap.FunFrames X.base X.stack:=by
 rcases I.ok.gM with e|⟨e,hf⟩
 ·rw[e];exact I.J0
 ·rw[e]
  obtain⟨m,hn,_⟩:=I.loc
  refine .cons (by rw[I.ok.kind];decide) hf hn ?_ I.J0
  exact Heap.get?_none_of_le (yU I.ok.Zr I.ok.above)
theorem Inv.SD (I:Inv X pins σ H s):∀ b∈L4 X.stack,b∈X.env.locals::X.fs:=fun b hb=>by
 rcases I.ok.gM with e|⟨e,hf⟩
 ·rw[e] at hb;exact zf _ hb
 ·rw[e] at hb
  unfold L4 at hb
  rw[List.filterMap_cons,hf] at hb
  exact hb
theorem Inv.Pm (I:Inv X pins σ H s):∀ b∈L4 X.stack,H b=none:=fun b hb=>by
 rcases zu.mp (I.SD b hb) with e|hb
 ·rw[e];exact I.free
 ·obtain⟨_,o,ho,_⟩:=I.ok.J0.mem hb
  exact I.base.free b o ho (I.ok.iV b hb) fun z=>I.ok.WT b z hb
theorem Inv.step {g':Array GenState}{t':Nat}{d':Drawn}{ch:List Addr}(I:Inv X pins σ H s)
 (cH:∀ b∈ch,(b∈X.ex\/X.s₀.heap.objs.size<=b)/\b≠X.env.locals/\(∀ x c,X.env.cells.lookup x=some c->c≠b)/\∀ p∈X.pn++pins,p.1≠b)
 (keep:∀ b o,b≠X.env.locals->b∉X.fs->b∉ch->s.heap.get? b=some o->H b=none->h'.get? b=some o)
 (slot:∀ b o,b≠X.env.locals->b∈X.fs->b∉ch->s.heap.get? b=some o->H b=none->∃ sl,h'.get? b=some { o with slots:=sl }) (free:∀ b o,b∉ch->s.heap.get? b=some o->H b=none->H' b=none)
 (there:∀ b o,b∉ch->s.heap.get? b=some o->∃ o',h'.get? b=some o')
 (NS:∀ b xs,H b=some (.tup xs)->H' b=some (.tup xs)) (Ml:∀ b o u,H b=some (.Vs o u)->H' b=some (.Vs o u)) (NT:∀ b ps,H b=some (.gL ps)->∃ more,H' b=some (.gL (ps++more)))
 (ns:∀ m,s.heap.Ns X.env.locals m->h'.Ns X.env.locals m) (Av:Fq X.prog X.w H' h') (hg:AllBare g') :
 Inv X pins σ H' { s with heap:=h',gens:=g',drawn:=d',toks:=t' }:=by
 have u8:∀ b o,X.s₀.heap.get? b=some o->b≠X.env.locals:=fun b o e=>zG (zC (zx e) I.ok.above)
 have h9:∀ b o,X.s₀.heap.get? b=some o->b∉X.ex->b∉ch:=fun b o e hx hb=>by
  rcases (cH b hb).1 with z|z
  ·exact hx z
  ·exact absurd (zC (zx e) z) (Nat.lt_irrefl _)
 have cellK:∀ x c,X.env.cells.lookup x=some c->∀ v,s.heap.IsCell c v->h'.IsCell c v:=fun x c e v ⟨o,ho,hd⟩=>by
  have ip:c∉ch:=fun z=>(cH c z).2.2.1 x c e rfl
  by_cases hc:c∈X.fs
  ·obtain⟨sl,q⟩:=slot c o (I.iW x c e) hc ip ho (I.Gp x c e)
   exact⟨_,q,hd⟩
  ·exact⟨o,keep c o (I.iW x c e) hc ip ho (I.Gp x c e),hd⟩
 refine⟨I.ok,I.os,hg,⟨fun b o e n hb hx=>?_,fun b o e n hb hx=>?_,fun b o e n hx=>?_,fun b o e hx=>?_,fun b xs e=>NS b xs (I.base.NS b xs e),fun b o xs e=>Ml b o xs (I.base.Ml b o xs e),fun b ps e=>?_⟩,?_,fun x c e=>?_,?_,fun x c e=>?_,fun p hp=>?_,Av,I.len⟩
 ·exact keep b o (u8 b o e) hb (h9 b o e hx) (I.base.keep b o e n hb hx) (I.base.free b o e n hx)
 ·obtain⟨sl,e1⟩:=I.base.slot b o e n hb hx
  obtain⟨lb,e2⟩:=slot b _ (u8 b o e) hb (h9 b o e hx) e1 (I.base.free b o e n hx)
  exact⟨lb,e2⟩
 ·obtain⟨o',e1⟩:=I.base.there b o e hx
  exact free b o' (h9 b o e hx) e1 (I.base.free b o e n hx)
 ·obtain⟨o',e1⟩:=I.base.there b o e hx
  exact there b o' (h9 b o e hx) e1
 ·obtain⟨m1,e1⟩:=I.base.NT b ps e
  obtain⟨m2,e2⟩:=NT b _ e1
  exact⟨m1++m2,by rw[e2,Array.append_assoc]⟩
 ·obtain⟨m,hn,hl⟩:=I.loc
  refine⟨m,ns m hn,fun i x v e1 e2 e3=>?_⟩
  obtain⟨u,r,l⟩:=hl i x v e1 e2 e3
  refine⟨u,r,?_⟩
  rcases l with l|⟨k,c,e,z⟩
  ·exact .inl l
  ·exact .inr ⟨k,c,e,cellK x c e _ z⟩
 ·obtain⟨v,z⟩:=I.cell x c e
  exact⟨v,cellK x c e v z⟩
 ·obtain⟨m,⟨o,_,_,ho,_⟩,_⟩:=I.loc
  exact free _ o (fun z=>(cH _ z).2.1 rfl) ho I.free
 ·obtain⟨v,o,ho,hd⟩:=I.cell x c e
  exact free c o (fun z=>(cH c z).2.2.1 x c e rfl) ho (I.Gp x c e)
 ·obtain⟨e,n,ne,nf,d⟩:=I.pin p hp
  have ip:p.1∉ch:=fun z=>(cH p.1 z).2.2.2 p hp rfl
  exact⟨keep p.1 p.2 ne nf ip e n,free p.1 p.2 ip e n,ne,nf,d⟩
theorem Inv.un {t':Nat}(I:Inv X pins σ H s) (u:Un X.fs [] H H' s.heap h') (Av:Fq X.prog X.w H' h'):Inv X pins σ H' { s with heap:=h',toks:=t' }:=by
 obtain⟨m,⟨o,es,ep,ho,r⟩,_⟩:=id I.loc
 obtain⟨sl,hL⟩:=u.any ho I.free (by simp)
 exact I.step (g':=s.gens) (d':=s.drawn) (ch:=[]) (fun _ z=>nomatch z) (fun b o _ hb _ e n=>u.keep b o e n hb (by simp)) (fun b o _ hb _ e n=>u.slot b o e n hb (by simp)) (fun b o _ e n=>u.free b o e n (by simp)) (fun b o _ e=>u.there b o e (by simp)) u.NS u.Ml u.NT (fun m' hm=>by
  obtain⟨o',mf,mh,b9,r'⟩:=hm
  rw[ho] at b9;cases b9
  exact⟨_,mf,mh,hL,r'⟩) Av I.bare
theorem Inv.call {g':Array GenState}{t':Nat}{d':Drawn}{ch:List Addr}(I:Inv X pins σ H s) (u:Un (L4 X.stack) ch H H' s.heap h') (Av:Fq X.prog X.w H' h') (hg:AllBare g')
 (cH:∀ b∈ch,(b∈X.ex\/X.s₀.heap.objs.size<=b)/\b≠X.env.locals/\(∀ x c,X.env.cells.lookup x=some c->c≠b)/\∀ p∈X.pn++pins,p.1≠b) :
 Inv X pins σ H' { s with heap:=h',gens:=g',drawn:=d',toks:=t' }:=by
 obtain⟨m,⟨o,es,ep,ho,r⟩,_⟩:=id I.loc
 obtain⟨sl,hL⟩:=u.any ho I.free fun z=>(cH _ z).2.1 rfl
 exact I.step (ch:=ch) cH (fun b o hL hb hc e n=>u.keep b o e n (fun z=>(zu.mp (I.SD b z)).elim hL hb) hc) (fun b o _ _ hc e n=>u.any e n hc) (fun b o hc e n=>u.free b o e n hc) (fun b o hc e=>u.there b o e hc) u.NS u.Ml u.NT (fun m' hm=>by
  obtain⟨o',mf,mh,b9,r'⟩:=hm
  rw[ho] at b9;cases b9
  exact⟨_,mf,mh,hL,r'⟩) Av hg
theorem Inv.turned {t':Nat}{it:Addr}(I:Inv X pins σ H s) (k:∀ b o,b≠it->s.heap.get? b=some o->h'.get? b=some o) (hn:H it=none) (hL:it≠X.env.locals)
 (h1:it∈X.ex\/X.s₀.heap.objs.size<=it) (h2:∀ x c,X.env.cells.lookup x=some c->c≠it) (h3:∀ p∈X.pn++pins,p.1≠it):Inv X pins σ H { s with heap:=h',toks:=t' }:=by
 have u9:∀ b u,H b=some u->b≠it:=fun b u e z=>by rw[z,hn] at e;cases e
 refine I.step (g':=s.gens) (d':=s.drawn) (ch:=[it]) (fun b hb=>?_) (fun b o _ _ hc e _=>k b o (fun z=>hc (by simp[z])) e) (fun b o _ _ hc e _=>⟨o.slots,k b o (fun z=>hc (by simp[z])) e⟩) (fun _ _ _ _ n=>n)
  (fun b o hc e=>⟨o,k b o (fun z=>hc (by simp[z])) e⟩) (fun _ _ e=>e) (fun _ _ _ e=>e) (fun b ps e=>⟨#[],by rw[e];simp⟩) (fun m hm=>?_) (fun b u e=>?_) I.bare
 ·have e:b=it:=by simpa using hb
  subst e
  exact⟨h1,hL,h2,h3⟩
 ·obtain⟨o,es,ep,ho,r⟩:=hm
  exact⟨o,es,ep,k _ o (yL hL) ho,r⟩
 ·refine (I.Av b u e).Pj (fun c v hc q=>k c v ?_ q) (fun _ q=>q) fun _ _ q=>q
  rcases hc with z|z
  ·rw[z];exact u9 b u e
  ·exact u9 c _ z
theorem Inv.tok (I:Inv X pins σ H s) (t:Nat):Inv X pins σ H { s with toks:=t }:=I.un (h':=s.heap) (t':=t) Un.refl I.Av
theorem Inv.kept {t':Nat}(I:Inv X pins σ H s) (k:∀ b u,s.heap.get? b=some u->h'.get? b=some u):Inv X pins σ H { s with heap:=h',toks:=t' }:=I.un (Un.kept k) (I.Av.kept k)
theorem Inv.laid {a:Addr}{o:HO}{t':Nat}(I:Inv X pins σ H s) (k:∀ b u,s.heap.get? b=some u->h'.get? b=some u) (hp:s.heap.objs.size<=a) (new:BD X.prog X.w (upd H a o) h' a o) :
 Inv X pins σ (upd H a o) { s with heap:=h',toks:=t' }:=I.un (Un.laid k hp (I.Av.fresh hp)) (I.Av.laid k hp new)
theorem Inv.write {x e:Addr}{o:HO}{t':Nat}(I:Inv X pins σ H s) (mu:nV (H x)) (he:e=x\/H e=some (.own x)) (k:∀ b u,b≠e->s.heap.get? b=some u->h'.get? b=some u) (dq:∃ u,h'.get? e=some u)
 (new:BD X.prog X.w (upd H x o) h' x o):Inv X pins σ (upd H x o) { s with heap:=h',toks:=t' }:=I.un (Un.write mu he k dq) (I.Av.write mu he k dq new)
theorem Inv.weak {σ':List (Option V)}(I:Inv X pins σ H s) (hl:σ'.length=σ.length) (w:∀(i:Nat) v,σ'[i]? =some (some v)->σ[i]? =some (some v)):Inv X pins σ' H s :=
 ⟨I.ok,I.os,I.bare,I.base,let ⟨m,hn,bU⟩:=I.loc;⟨m,hn,fun i x v e1 e2 e3=>bU i x v e1 (w i v e2) e3⟩,I.cell,I.free,I.Gp,I.pin,I.Av,hl.trans I.len⟩
theorem Inv.J2 {dr:List (Addr×Obj)}(I:Inv X pins σ H s) (h:∀ p∈dr,s.heap.get? p.1=some p.2/\H p.1=none/\p.1≠X.env.locals/\p.1∉X.fs/\∀ v,p.2.data≠.cell v):Inv X dr σ H s :=
 ⟨I.ok,I.os,I.bare,I.base,I.loc,I.cell,I.free,I.Gp,fun p hp=>(zy.mp hp).elim (fun z=>I.pin p (zO _ z)) (h p),I.Av,I.len⟩
theorem QM {N:List Str}(hN:N.Nodup){i j:Nat}{x:Str}(a:N[i]? =some x) (b:N[j]? =some x):i=j:=by
 obtain⟨h1,e1⟩:=zA.mp a
 obtain⟨h2,e2⟩:=zA.mp b
 exact (List.getElem_inj hN).mp (e1.trans e2.symm)
theorem Oh {M:Model}{A:Around}{E:Value->Shared->Prop}{i:Nat}{x:Str}{v:V}{u:Value}{Q:Unit->Shared->Prop}(I:Inv X pins σ H s) (hN:X.N.Nodup) (hi:X.N[i]? =some x) (hx:Loc X.env.scope x) (r:RelV v u)
 (h:∀ s',Inv X pins (σ.set i (some v)) H s'->(∃ a,zb4 a s.heap s'.heap/\(a=X.env.locals\/X.env.cells.lookup x=some a))->Q () s') (hf:X.fn x=true\/X.env.scope.names.lookup x=some .local:=by first|exact .inl rfl|exact .inr rfl|assumption):wpAny M A (storeName X.env x u) Q E s:=by
 obtain⟨m,hn,hl⟩:=id I.loc
 have mi:(X.env.scope.kind == .class || (X.env.scope.kind == .module && X.env.locals != X.env.globals))=false:=by rw[I.ok.kind];rfl
 have hiσ:i < σ.length:=by rw[I.len];exact (zA.mp hi).1
 have iW:=I.iW
 have tracked:∀ {a:Addr} {h':Heap},(∃ o,s.heap.get? a=some o/\H a=none)->zb4 a s.heap h'->Fq X.prog X.w H h':=fun {a h'} ha hs b ob e=>by
  obtain⟨_,_,du⟩:=ha
  refine (I.Av b ob e).Pj (fun c w' hc q=>(hs.2 c ?_).trans q) (fun _ q=>q) fun _ _ q=>q
  rintro rfl
  rcases hc with rfl|hc
  ·rw[du] at e;cases e
  ·rw[du] at hc;cases hc
 rcases hx with hk|hk
 ·refine wpAny_storeName_local hk hn (fun h' bV hs=>?_) mi
  obtain⟨oL,_,_,ml,_⟩:=id hn
  refine h _ ⟨I.ok,I.os,I.bare,⟨fun b o e n hb hx=>?_,fun b o e n hb hx=>?_,I.base.free,fun b o e hx=>?_,I.base.NS,I.base.Ml,I.base.NT⟩,⟨_,bV,fun j y v' e1 e2 e3=>?_⟩,fun y c e=>?_,I.free,I.Gp,fun p hp=>?_,tracked ⟨oL,ml,I.free⟩ hs,by simpa using I.len⟩ ⟨_,hs,.inl rfl⟩
  ·exact (hs.2 b (zG (zC (zx e) I.ok.above))).trans (I.base.keep b o e n hb hx)
  ·obtain⟨sl,e1⟩:=I.base.slot b o e n hb hx
   exact⟨sl,(hs.2 b (zG (zC (zx e) I.ok.above))).trans e1⟩
  ·obtain⟨o',e1⟩:=I.base.there b o e hx
   exact⟨o',(hs.2 b (zG (zC (zx e) I.ok.above))).trans e1⟩
  ·by_cases hj:j=i
   ·subst hj
    rw[hi] at e1;cases e1
    rw[zQ hiσ] at e2
    cases e2
    exact⟨u,r,.inl ⟨hk,by simp⟩⟩
   ·rw[yS (yL hj)] at e2
    obtain⟨u',r',q⟩:=hl j y v' e1 e2 e3
    refine⟨u',r',?_⟩
    rcases q with ⟨k,e⟩|⟨k,c,e,z⟩
    ·refine .inl ⟨k,?_⟩
     have:y≠x:=fun e=>hj (QM hN e1 (e▸hi))
     simp[this,e]
    ·exact .inr ⟨k,c,e,z.sameBut hs (iW y c e)⟩
  ·obtain⟨w',z⟩:=I.cell y c e
   exact⟨w',z.sameBut hs (iW y c e)⟩
  ·obtain⟨e,n,ne,nf,d⟩:=I.pin p hp
   exact⟨(hs.2 p.1 ne).trans e,n,ne,nf,d⟩
 ·have mn:X.fn x=true:=by
   rcases hf with z|z
   ·exact z
   ·rw[z] at hk;cases hk
  obtain⟨c,hc⟩:=I.ok.has x (.inl hk)
  obtain⟨w',z⟩:=I.cell x c hc
  refine wpAny_storeName_cell I.ok.kind hk hc z (fun h' bP hs=>?_)
  obtain⟨oc,uA,mo⟩:=id z
  refine h { s with heap:=h' } ⟨I.ok,I.os,I.bare,⟨fun b o e n hb hx=>?_,fun b o e n hb hx=>?_,I.base.free,fun b o e hx=>?_,I.base.NS,I.base.Ml,I.base.NT⟩,⟨m,hn.sameBut hs (yL (iW x c hc)),fun j y v' e1 e2 e3=>?_⟩,fun y c' e=>?_,I.free,I.Gp,fun p hp=>?_,tracked ⟨oc,uA,I.Gp x c hc⟩ hs,by simpa using I.len⟩ ⟨c,hs,.inr hc⟩
  ·exact (hs.2 b (zG (zC (zx e) (I.ok.nW x c mn hc)))).trans (I.base.keep b o e n hb hx)
  ·obtain⟨sl,e1⟩:=I.base.slot b o e n hb hx
   exact⟨sl,(hs.2 b (zG (zC (zx e) (I.ok.nW x c mn hc)))).trans e1⟩
  ·obtain⟨o',e1⟩:=I.base.there b o e hx
   exact⟨o',(hs.2 b (zG (zC (zx e) (I.ok.nW x c mn hc)))).trans e1⟩
  ·by_cases hj:j=i
   ·subst hj
    rw[hi] at e1;cases e1
    rw[zQ hiσ] at e2
    cases e2
    exact⟨u,r,.inr ⟨.inl hk,c,hc,bP⟩⟩
   ·rw[yS (yL hj)] at e2
    obtain⟨u',r',q⟩:=hl j y v' e1 e2 e3
    refine⟨u',r',?_⟩
    rcases q with q|⟨k,c',e,z'⟩
    ·exact .inl q
    ·refine .inr ⟨k,c',e,z'.sameBut hs ?_⟩
     rintro rfl
     exact hj (QM hN e1 (I.ok.inj _ _ _ e hc▸hi))
  ·by_cases lc:c'=c
   ·subst lc;exact⟨_,bP⟩
   ·obtain⟨w2,z2⟩:=I.cell y c' e
    exact⟨w2,z2.sameBut hs lc⟩
  ·obtain⟨e,n,ne,nf,d⟩:=I.pin p hp
   refine⟨(hs.2 p.1 ?_).trans e,n,ne,nf,d⟩
   intro q
   rw[q,uA] at e
   have q':oc=p.2:=zJ e
   exact d w' (by rw[<-q'];exact mo)
theorem QN {M:Model}{A:Around}{E:Value->Shared->Prop}{i:Nat}{x:Str}{v:V}{u:Value}{Q:Unit->Shared->Prop}(I:Inv X pins σ H s) (hN:X.N.Nodup) (hi:X.N[i]? =some x) (hx:Loc X.env.scope x) (r:RelV v u)
 (h:∀ s',Inv X pins (σ.set i (some v)) H s'->Q () s') (hf:X.fn x=true\/X.env.scope.names.lookup x=some .local:=by first|exact .inl rfl|exact .inr rfl|assumption):wpAny M A (storeName X.env x u) Q E s :=
 Oh I hN hi hx r (fun s' I' _=>h s' I') hf
theorem Inv.gN {s':Shared}{ch:List Addr}(I:Inv X pins σ H s) (ho:s'.os=s.os) (u:Un (L4 X.stack) ch H H' s.heap s'.heap) (Av:Fq X.prog X.w H' s'.heap) (hg:AllBare s'.gens)
 (cH:∀ b∈ch,(b∈X.ex\/X.s₀.heap.objs.size<=b)/\b≠X.env.locals/\(∀ x c,X.env.cells.lookup x=some c->c≠b)/\∀ p∈X.pn++pins,p.1≠b):Inv X pins σ H' s':=by
 obtain⟨h',g',d',t',o'⟩:=s'
 have e:o'=s.os:=ho
 subst e
 exact I.call (g':=g') (t':=t') (d':=d') u Av hg cH
end
noncomputable abbrev XK:=Value->Option Addr->Hp->Prop
noncomputable abbrev St:=List (Option V)
noncomputable abbrev VK:=V->Hp->Prop
noncomputable abbrev TE:=St->Hp->VK->Prop
noncomputable abbrev TT:=St->Hp->(Bool->Hp->Prop)->Prop
noncomputable abbrev TA:=St->Hp->(List V->Hp->Prop)->Prop
structure Ends where
 nx:St->Hp->Prop
 rt:VK
 bk:St->Hp->Prop:=fun _ _=>False
 ct:St->Hp->Prop:=fun _ _=>False
noncomputable abbrev TS:=Ends->St->Hp->Prop
noncomputable def EP (X:Cx) (pins:List (Addr×Obj)) (σ:St) (Q:VK) (u:Value) (s':Shared):Prop:=∃ v H',Inv X pins σ H' s'/\RelV v u/\Q v H'
noncomputable def TP (X:Cx) (pins:List (Addr×Obj)) (σ:St) (Q:Bool->Hp->Prop) (b:Bool) (s':Shared):Prop:=∃ H',Inv X pins σ H' s'/\Q b H'
noncomputable def AP (X:Cx) (pins:List (Addr×Obj)) (σ:St) (Q:List V->Hp->Prop) (us:List Value) (s':Shared):Prop:=∃ vs H',Inv X pins σ H' s'/\Vals vs us/\Q vs H'
noncomputable def SP (X:Cx) (pins:List (Addr×Obj)) (D:Ends) (f:Flow) (s':Shared):Prop :=
 match f with
 | .next=>∃ σ' H',Inv X pins σ' H' s'/\D.nx σ' H'
 | .brk=>∃ σ' H',Inv X pins σ' H' s'/\D.bk σ' H'
 | .cont=>∃ σ' H',Inv X pins σ' H' s'/\D.ct σ' H'
 | .ret u=>∃ v σ' H',Inv X pins σ' H' s'/\RelV v u/\D.rt v H'
noncomputable def PE (X:Cx) (e:Expr) (t:TE):Prop :=
 ∀(pins:List (Addr×Obj)) (s:Shared) (σ:St) (H:Hp) (Q:VK),Inv X pins σ H s->t σ H Q->wpAny (model X.prog X.w) X.A (eval e X.env) (EP X pins σ Q) X.xe s
noncomputable def PT (X:Cx) (e:Expr) (t:TT):Prop :=
 ∀(pins:List (Addr×Obj)) (s:Shared) (σ:St) (H:Hp) (Q:Bool->Hp->Prop),Inv X pins σ H s->t σ H Q->wpAny (model X.prog X.w) X.A (isTrue e X.env (eval e X.env)) (TP X pins σ Q) X.xe s
noncomputable def PW (X:Cx) (e:Expr) (t:TT):Prop :=
 ∀(whole:Sem Value) (pins:List (Addr×Obj)) (s:Shared) (σ:St) (H:Hp) (Q:Bool->Hp->Prop),Inv X pins σ H s->t σ H Q->wpAny (model X.prog X.w) X.A (isTrue e X.env whole) (TP X pins σ Q) X.xe s
theorem PW.pt {X:Cx}{e:Expr}{t:TT}(h:PW X e t):PT X e t:=h _
noncomputable def PA (X:Cx) (es:List Expr) (t:TA):Prop :=
 ∀(pos:Pos) (pins:List (Addr×Obj)) (s:Shared) (σ:St) (H:Hp) (Q:List V->Hp->Prop),Inv X pins σ H s->t σ H Q->wpAny (model X.prog X.w) X.A (spliced (backTo pos (starEach es X.env))) (AP X pins σ Q) X.xe s
noncomputable def PS (X:Cx) (st:Stmt) (t:TS):Prop :=
 ∀(pins:List (Addr×Obj)) (s:Shared) (σ:St) (H:Hp) (D:Ends),Inv X pins σ H s->t D σ H->wpAny (model X.prog X.w) X.A (exec st X.env) (SP X pins D) X.xe s
noncomputable def Ub (X:Cx) (st:List Stmt) (t:TS):Prop :=
 ∀(pins:List (Addr×Obj)) (s:Shared) (σ:St) (H:Hp) (D:Ends),Inv X pins σ H s->t D σ H->wpAny (model X.prog X.w) X.A (execs st X.env) (SP X pins D) X.xe s
theorem Be {α:Type}{t:Sem α}{Q Q':α->Shared->Prop}{M:Model}{A:Around}{E:Value->Shared->Prop}{s:Shared}(h:wpAny M A t Q E s) (hQ:∀ a s,Q a s->Q' a s):wpAny M A t Q' E s:=wpAny_mono h hQ fun _ _ x=>x
section
variable {X:Cx}
theorem bin {a b:Expr}{ta tb:TE}(ha:PE X a ta) (hb:PE X b tb){pins:List (Addr×Obj)}{s:Shared}{σ:St}{H:Hp}{R:V->V->Hp->Prop}(I:Inv X pins σ H s) (h:ta σ H fun x H1=>tb σ H1 fun y H2=>R x y H2)
 {α:Type} {Q:α->Shared->Prop} {f:Value->Value->Sem α}
 (hf:∀ v u s2 x y H2,Inv X pins σ H2 s2->RelV x v->RelV y u->R x y H2->wpAny (model X.prog X.w) X.A (f v u) Q X.xe s2) :
 wpAny (model X.prog X.w) X.A (eval a X.env) (fun v s₁=>wpAny (model X.prog X.w) X.A (eval b X.env) (fun u s₂=>wpAny (model X.prog X.w) X.A (f v u) Q X.xe s₂) X.xe s₁) X.xe s:=by
 refine Be (ha pins s σ H _ I h) fun v s1 ⟨x,H1,I1,r1,q1⟩=>?_
 refine Be (hb pins s1 σ H1 _ I1 q1) fun u s2 ⟨y,H2,I2,r2,q2⟩=>?_
 exact hf v u s2 x y H2 I2 r1 r2 q2
noncomputable def Lp (i:Nat):TE:=fun σ H Q=>∃ v,σ[i]? =some (some v)/\Q v H
noncomputable def tC (v:V):TE:=fun _ H Q=>Q v H
theorem iX {i:Nat}{x:Str}{pos:Pos}(hN:X.N[i]? =some x) (hv:rY X.env.scope x) (hd:(x == ("__debug__" : Str))=false:=by decide) (bw:(x == ("__classdict__" : Str))=false:=by decide):PE X (.Name x pos) (Lp i):=by
 intro pins s σ H Q I h
 obtain⟨v,e,h⟩:=h
 obtain⟨m,hn,hl⟩:=I.loc
 obtain⟨u,r,l⟩:=hl i x v hN e hv
 have fin:EP X pins σ Q u s:=⟨v,H,I,r,h⟩
 rcases l with ⟨hk,hm⟩|⟨hk,c,hc,bQ⟩
 ·exact wpAny_Name (wpAny_loadName_local I.ok.kind hk hn hm fin) hd
 ·rcases hk with hk|hk
  ·exact wpAny_Name (wpAny_loadName_cell I.ok.kind hk hc bQ fin) hd
  ·exact wpAny_Name (wpAny_loadName_free I.ok.kind hk hc bQ fin bw) hd
theorem iY {i j pos}:PE X (.Constant (.int i) j pos) (tC (.int i)):=fun _ _ _ H _ I h=>wpAny_Constant_int ⟨.int i,H,I.tok _,⟨_,rfl⟩,h⟩
theorem nX {b j pos}:PE X (.Constant (.bool b) j pos) (tC (.bl b)):=fun _ _ _ H _ I h=>Constant_bool ⟨.bl b,H,I,rfl,h⟩
theorem iZ {j pos}:PE X (.Constant .none j pos) (tC .AA):=fun _ _ _ H _ I h=>Constant_none ⟨.AA,H,I,rfl,h⟩
theorem jA {x j pos}:PE X (.Constant (.str x) j pos) (tC (.str x)):=fun _ _ _ H _ I h=>Calls.Constant_str ⟨.str x,H,I.tok _,⟨_,rfl⟩,h⟩
noncomputable def Gl (X:Cx) (x:Str):Prop:=X.env.kindOf x=some .globalImplicit
theorem Pn {E:Value->Shared->Prop}{pins:List (Addr×Obj)}{s:Shared}{σ:St}{H:Hp}{x:Str}{u:Value}{pos:Pos}{Q:Value->Shared->Prop}(I:Inv X pins σ H s) (hg:Gl X x) (hm:X.mg x=some u) (h:Q u s)
 (hd:(x == ("__debug__" : Str))=false:=by decide):wpAny (model X.prog X.w) X.A (eval (.Name x pos) X.env) Q E s :=
 Calls.Name_function_global I.ok.kind hg (Calls.loadGlobal_global (by rw[I.ok.glob];exact I.mod.glob.keeps I.bk) hm h) hd
theorem E5 {E:Value->Shared->Prop}{pins:List (Addr×Obj)}{s:Shared}{σ:St}{H:Hp}{x:Str}{u:Value}{pos:Pos}{Q:Value->Shared->Prop}(I:Inv X pins σ H s) (hg:Gl X x) (hm:X.mg x=none) (hv:bootBuiltins x=some u) (h:Q u s)
 (hn:x ≠ "__name__" := by decide) (hd:(x == ("__debug__" : Str))=false:=by decide):wpAny (model X.prog X.w) X.A (eval (.Name x pos) X.env) Q E s:=by
 obtain⟨mb,h1,h2⟩:=I.mod.blt
 exact Calls.Name_function_global I.ok.kind hg (Calls.loadGlobal_builtin (by rw[I.ok.glob];exact I.mod.glob.keeps I.bk) hm (by rw[I.ok.blt];exact h1.keeps I.bk) ((h2 x hn).trans hv) h) hd
theorem Zs {x:Str}{v:V}{u:Value}{pos:Pos}(hg:Gl X x) (hm:X.mg x=none) (hv:bootBuiltins x=some u) (r:RelV v u) (hn:x ≠ "__name__" := by decide) (hd:(x == ("__debug__" : Str))=false:=by decide):PE X (.Name x pos) (tC v) :=
 fun _ _ _ H _ I h=>E5 I hg hm hv ⟨v,H,I,r,h⟩ hn hd
variable {a b:Expr}{ta tb:TE}{pos:Pos}
noncomputable def PC (X:Cx) (op:CmpOp) (a b:Expr) (t:TE):Prop :=
 ∀(pins:List (Addr×Obj)) (s:Shared) (σ:St) (H:Hp) (Q:VK),Inv X pins σ H s->t σ H Q->
  wpAny (model X.prog X.w) X.A (eval a X.env) (fun v s₁=>wpAny (model X.prog X.w) X.A (eval b X.env) (fun u s₂=>wpAny (model X.prog X.w) X.A (compareOp op v u) (EP X pins σ Q) X.xe s₂) X.xe s₁) X.xe s
theorem QO (b:Expr){op:CmpOp}(h:op≠.In) (h2:op≠.NotIn):behindInMarks op b=false:=by
 have e1:(op == CmpOp.In)=false:=by cases op<;>first|rfl|exact absurd rfl h
 have e2:(op == CmpOp.NotIn)=false:=by cases op<;>first|rfl|exact absurd rfl h2
 cases b<;>simp[behindInMarks,e1,e2]
noncomputable def sC (ta:TE):TE:=fun σ H Q=>ta σ H fun x H1=>Q (.bl (decide (x=.AA))) H1
noncomputable def nY (ta:TE):TE:=fun σ H Q=>ta σ H fun x H1=>Q (.bl (!decide (x=.AA))) H1
theorem RelV.QP {x:V}{v:Value}(r:RelV x v):(v == Value.none)=decide (x=.AA):=by
 cases x with
 |AA=>cases r;rfl
 |bl _=>cases r;rfl
 |int _=>obtain⟨t,rfl⟩:=r;rfl
 |str _=>obtain⟨t,rfl⟩:=r;rfl
 |iT _=>obtain⟨t,rfl⟩:=r;rfl
 |nT _=>obtain⟨t,rfl⟩:=r;rfl
 |ref _=>cases r;rfl
 |ty _=>cases r;rfl
theorem WU {j pos'}(ha:PE X a ta):PC X .Is a (.Constant .none j pos') (sC ta):=by
 intro pins s σ H Q I h
 refine Be (ha pins s σ H _ I h) fun v s1 ⟨x,H1,I1,r1,q1⟩=>?_
 exact Constant_none (is_none_gen ⟨.bl _,H1,I1,by rw[r1.QP];rfl,q1⟩)
theorem Zt {j pos'}(ha:PE X a ta):PC X .IsNot a (.Constant .none j pos') (nY ta):=by
 intro pins s σ H Q I h
 refine Be (ha pins s σ H _ I h) fun v s1 ⟨x,H1,I1,r1,q1⟩=>?_
 exact Constant_none (isnot_none_gen ⟨.bl _,H1,I1,by rw[r1.QP];rfl,q1⟩)
noncomputable def tB (t:TE):TT:=fun σ H Q=>t σ H fun x H1=>∃ c,x=.bl c/\Q c H1
theorem jB {op:CmpOp}{t:TE}(h:PC X op a b t) (h1:behindInMarks op b=false:=by first | exact QO _ (by decide) (by decide) | rfl):PE X (.Compare a [op] [b] pos) t:=fun pins s σ H Q I hw=>wpAny_Compare1 (h pins s σ H Q I hw) h1
theorem WV {op:CmpOp}{t:TE}(h:PC X op a b t) (h1:behindInMarks op b=false:=by first | exact QO _ (by decide) (by decide) | rfl):PT X (.Compare a [op] [b] pos) (tB t):=by
 intro pins s σ H Q I hw
 refine wpAny_isTrue_Compare1 (Be (h pins s σ H _ I hw) fun v s1 h1=>Be h1 fun u s2 h2=>Be h2 fun c s3 ⟨x,H1,I1,r1,q1⟩=>?_) h1
 obtain⟨d,rfl,q⟩:=q1
 cases r1
 exact wpAny_truthy_bool ⟨H1,I1,q⟩
variable {tA lf:TT}{rest:List Expr}
noncomputable def sD (t u:TT):TT:=fun σ H Q=>t σ H fun c H1=>if c=true then u σ H1 Q else Q false H1
noncomputable def vM (t u:TT):TT:=fun σ H Q=>t σ H fun c H1=>if c=true then Q true H1 else u σ H1 Q
noncomputable def sE (t:TT):TT:=fun σ H Q=>t σ H fun c H1=>Q (!c) H1
theorem pw_and1 (ha:PT X a tA):PW X (.BoolOp .And [a] pos) tA:=by
 intro wh pins s σ H Q I h
 refine isTrue_and (Be (ha pins s σ H Q I h) fun c s1 e=>?_)
 cases c with
 |true=>exact isTrue_and_nil e
 |false=>exact e
theorem pw_or1 (ha:PT X a tA):PW X (.BoolOp .Or [a] pos) tA:=by
 intro wh pins s σ H Q I h
 refine isTrue_or (Be (ha pins s σ H Q I h) fun c s1 e=>?_)
 cases c with
 |false=>exact isTrue_or_nil e
 |true=>exact e
theorem pw_and (ha:PT X a tA) (hb:PW X (.BoolOp .And (b::rest) pos) lf):PW X (.BoolOp .And (a::b::rest) pos) (sD tA lf):=by
 intro wh pins s σ H Q I h
 refine isTrue_and (Be (ha pins s σ H _ I h) fun c s1 ⟨H1,I1,q1⟩=>?_)
 cases c with
 |true=>exact hb wh pins s1 σ H1 Q I1 q1
 |false=>exact⟨H1,I1,q1⟩
theorem pw_or (ha:PT X a tA) (hb:PW X (.BoolOp .Or (b::rest) pos) lf):PW X (.BoolOp .Or (a::b::rest) pos) (vM tA lf):=by
 intro wh pins s σ H Q I h
 refine isTrue_or (Be (ha pins s σ H _ I h) fun c s1 ⟨H1,I1,q1⟩=>?_)
 cases c with
 |true=>exact⟨H1,I1,q1⟩
 |false=>exact hb wh pins s1 σ H1 Q I1 q1
theorem jC (ha:PT X a tA):PT X (.UnaryOp .Not a pos) (sE tA):=by
 intro pins s σ H Q I h
 exact isTrue_not (ha pins s σ H (fun c H1=>Q (!c) H1) I h)
noncomputable def nZ (ta tb:TE):TE:=fun σ H Q=>ta σ H fun x H1=>∃ c,x=.bl c/\if c=true then tb σ H1 Q else Q (.bl false) H1
noncomputable def sF (ta tb:TE):TE:=fun σ H Q=>ta σ H fun x H1=>∃ c,x=.bl c/\if c=true then Q (.bl true) H1 else tb σ H1 Q
noncomputable def oA (ta:TE):TE:=fun σ H Q=>ta σ H fun x H1=>∃ c,x=.bl c/\Q (.bl (!c)) H1
theorem jD {op}{t:TE}(h:PE X a t):PE X (.BoolOp op [a] pos) t:=fun pins s σ H Q I hw=>BoolOp_one (h pins s σ H Q I hw)
theorem jE (ha:PE X a ta) (hb:PE X (.BoolOp .And (b::rest) pos) tb):PE X (.BoolOp .And (a::b::rest) pos) (nZ ta tb):=by
 intro pins s σ H Q I h
 refine BoolOp_and (Be (ha pins s σ H _ I h) fun v s1 ⟨x,H1,I1,r1,q1⟩=>?_)
 obtain⟨c,rfl,q1⟩:=q1
 cases r1
 refine wpAny_truthy_bool ?_
 cases c with
 |true=>exact hb pins s1 σ H1 Q I1 q1
 |false=>exact⟨.bl false,H1,I1,rfl,q1⟩
theorem oB (ha:PE X a ta) (hb:PE X (.BoolOp .Or (b::rest) pos) tb):PE X (.BoolOp .Or (a::b::rest) pos) (sF ta tb):=by
 intro pins s σ H Q I h
 refine BoolOp_or (Be (ha pins s σ H _ I h) fun v s1 ⟨x,H1,I1,r1,q1⟩=>?_)
 obtain⟨c,rfl,q1⟩:=q1
 cases r1
 refine wpAny_truthy_bool ?_
 cases c with
 |false=>exact hb pins s1 σ H1 Q I1 q1
 |true=>exact⟨.bl true,H1,I1,rfl,q1⟩
theorem jF (ha:PE X a ta):PE X (.UnaryOp .Not a pos) (oA ta):=by
 intro pins s σ H Q I h
 refine UnaryOp_ (Be (ha pins s σ H _ I h) fun v s1 ⟨x,H1,I1,r1,q1⟩=>?_)
 obtain⟨c,rfl,q1⟩:=q1
 cases r1
 exact not_of (wpAny_truthy_bool ⟨.bl (!c),H1,I1,rfl,q1⟩)
end
noncomputable def Dr (K:za) (H:Hp) (a:Addr) (xs:List V):Prop :=
 Rd H a (.lst xs) \/
  ∃(o:Obj) (aa:Array Value) (n:Nat),K.lookup a=some o/\o.cls=.type "list" /\ o.dict=none/\o.data=.seq aa n/\aa.size<=sizeLine/\Vals xs aa.toList
noncomputable def Fs (K:za) (H:Hp) (a:Addr) (xs:List V):Prop :=
 Rd H a (.tup xs) \/
  ∃(o:Obj) (aa:Array Value) (n:Nat),K.lookup a=some o/\o.cls=.type "tuple" /\ o.data=.seq aa n/\aa.size<=sizeLine/\Vals xs aa.toList
noncomputable def sG:Value->Option V
 | .none=>some .AA
 | .bool b=>some (.bl b)
 | .int i _=>some (.int i)
 | .str x _=>some (.str x)
 | .bytes b _=>some (.iT b)
 | .float b _=>some (.nT b)
 | .ref a=>some (.ref a)
 | .type n=>some (.ty n)
 |_=>none
theorem RelV.abs {x:V}{u:Value}(r:RelV x u):sG u=some x:=by
 cases x with
 |AA=>cases r;rfl
 |bl _=>cases r;rfl
 |int _=>obtain⟨t,rfl⟩:=r;rfl
 |str _=>obtain⟨t,rfl⟩:=r;rfl
 |iT _=>obtain⟨t,rfl⟩:=r;rfl
 |nT _=>obtain⟨t,rfl⟩:=r;rfl
 |ref _=>cases r;rfl
 |ty _=>cases r;rfl
theorem RelV.inj {x y:V}{u:Value}(r:RelV x u) (q:RelV y u):x=y:=zJ (r.abs.symm.trans q.abs)
theorem Vals.inj:∀ {xs ys:List V}{us:List Value},Vals xs us->Vals ys us->xs=ys
 |_,_,_,.nil,.nil=>rfl
 |_,_,_,.cons r t,.cons r' t'=>by rw[r.inj r',Vals.inj t t']
section
variable {X:Cx}{pins:List (Addr×Obj)}{σ:St}{H:Hp}{s:Shared}{a:Addr}{xs ys:List V}
theorem Dr.of {K:za}(h:H a=some (.lst xs)):Dr K H a xs:=.inl (.inl h)
theorem Fs.of {K:za}(h:H a=some (.tup xs)):Fs K H a xs:=.inl (.inl h)
theorem Inv.list (I:Inv X pins σ H s) (h:Dr X.K H a xs):∃ aa:List Value,Vals xs aa/\PlainL s.heap a aa.toArray/\xs.length<=sizeLine:=by
 rcases h with h|⟨o,aa,n,hk,hc,hd,hs,hz,r⟩
 ·obtain⟨z,aa,n,r,e⟩:=h.ok I.Av
  exact⟨aa,r,⟨_,n,e,rfl,rfl,rfl⟩,z⟩
 ·refine⟨aa.toList,r,⟨o,n,I.NQ a o hk,hc,hd,by simpa using hs⟩,?_⟩
  have e:=r.length
  simp only[Array.length_toList] at e
  omega
theorem Inv.tuple (I:Inv X pins σ H s) (h:Fs X.K H a xs):∃ aa:List Value,Vals xs aa/\IsTup s.heap a aa.toArray/\xs.length<=sizeLine:=by
 rcases h with h|⟨o,aa,n,hk,hc,hs,hz,r⟩
 ·obtain⟨z,aa,r,p⟩:=h.ok I.Av
  exact⟨aa,r,p,z⟩
 ·refine⟨aa.toList,r,⟨o,I.NQ a o hk,hc,n,by simpa using hs⟩,?_⟩
  have e:=r.length
  simp only[Array.length_toList] at e
  omega
theorem Inv.Gq (I:Inv X pins σ H s) (h:Dr X.K H a xs) (h':Dr X.K H a ys):xs=ys:=by
 obtain⟨aa,r,⟨o,n,e,_,_,d⟩,_⟩:=I.list h
 obtain⟨its',r',⟨o',n',e',_,_,d'⟩,_⟩:=I.list h'
 rw[e] at e';cases e'
 rw[d] at d'
 injection d' with d1 _
 have:aa=its':=by simpa using congrArg Array.toList d1
 subst this
 exact r.inj r'
theorem Inv.Hk (I:Inv X pins σ H s) (h:Fs X.K H a xs) (h':Fs X.K H a ys):xs=ys:=by
 obtain⟨aa,r,⟨o,e,_,n,d⟩,_⟩:=I.tuple h
 obtain⟨its',r',⟨o',e',_,n',d'⟩,_⟩:=I.tuple h'
 rw[e] at e';cases e'
 rw[d] at d'
 injection d' with d1 _
 have:aa=its':=by simpa using congrArg Array.toList d1
 subst this
 exact r.inj r'
end
noncomputable abbrev Cx.NU (X:Cx) (E:Value->Shared->Prop):Cx:={ X with xe:=E }
noncomputable abbrev Cx.oC (X:Cx):Cx:=X.NU fun _ _=>False
theorem Cx.Ok.NU {X:Cx}(ok:X.Ok) (E:Value->Shared->Prop):(X.NU E).Ok :=
 ⟨ok.mod,ok.kind,ok.glob,ok.blt,ok.above,ok.inj,ok.has,ok.nW,ok.hd,ok.frames,ok.gM,ok.rA,ok.bs,ok.Zr,ok.WS,ok.WT,ok.J0,ok.iV⟩
theorem Cx.Ok.Gr {X:Cx}{E:Value->Shared->Prop}(ok:(X.NU E).Ok):X.Ok :=
 ⟨ok.mod,ok.kind,ok.glob,ok.blt,ok.above,ok.inj,ok.has,ok.nW,ok.hd,ok.frames,ok.gM,ok.rA,ok.bs,ok.Zr,ok.WS,ok.WT,ok.J0,ok.iV⟩
section
variable {X:Cx}{pins:List (Addr×Obj)}{σ:St}{H:Hp}{s:Shared}{E:Value->Shared->Prop}
theorem Inv.NU (I:Inv X pins σ H s) (E:Value->Shared->Prop):Inv (X.NU E) pins σ H s:=⟨I.ok.NU E,I.os,I.bare,I.base,I.loc,I.cell,I.free,I.Gp,I.pin,I.Av,I.len⟩
theorem Inv.Gr (I:Inv (X.NU E) pins σ H s):Inv X pins σ H s:=⟨I.ok.Gr,I.os,I.bare,I.base,I.loc,I.cell,I.free,I.Gp,I.pin,I.Av,I.len⟩
theorem SP.Gr {D:Ends}{f:Flow}{s':Shared}(h:SP (X.NU E) pins D f s'):SP X pins D f s':=by
 cases f with
 |next=>obtain⟨σ',H',I,q⟩:=h;exact⟨σ',H',I.Gr,q⟩
 |brk=>obtain⟨σ',H',I,q⟩:=h;exact⟨σ',H',I.Gr,q⟩
 |cont=>obtain⟨σ',H',I,q⟩:=h;exact⟨σ',H',I.Gr,q⟩
 |ret u=>obtain⟨v,σ',H',I,r,q⟩:=h;exact⟨v,σ',H',I.Gr,r,q⟩
theorem Ub.oC {st:List Stmt}{t:TS}(h:Ub X.oC st t):Ub X st t:=fun pins s σ H D I hw =>
 wpAny_mono (h pins s σ H D (I.NU _) hw) (fun _ _ q=>q.Gr) fun _ _ z=>zao z
end
section
variable {X:Cx}{st:Stmt}{rest:List Stmt}{t u:TS}{e:Expr}{te:TE}{pos:Pos}
noncomputable def oE:TS:=fun D σ H=>D.nx σ H
noncomputable def sH (t u:TS):TS:=fun D σ H=>t { D with nx:=u D } σ H
theorem Zu:Ub X [] oE:=fun _ _ σ H _ I h=>wpAny_execs_nil ⟨σ,H,I,h⟩
theorem WW (h1:PS X st t) (h2:Ub X rest u):Ub X (st::rest) (sH t u):=by
 intro pins s σ H D I h
 refine wpAny_execs_cons (Be (h1 pins s σ H { D with nx:=u D } I h) fun f s1 q=>?_)
 cases f with
 |next =>
  obtain⟨σ',H',I',q⟩:=q
  exact h2 pins s1 σ' H' D I' q
 |ret v=>exact q
 |brk=>exact q
 |cont=>exact q
theorem Zv (h1:PS X st t):Ub X [st] t:=by
 intro pins s σ H D I h
 refine wpAny_execs_cons (Be (h1 pins s σ H D I h) fun f s1 q=>?_)
 cases f with
 |next=>exact wpAny_execs_nil q
 |ret v=>exact q
 |brk=>exact q
 |cont=>exact q
theorem Inv.quiet {pins:List (Addr×Obj)}{σ:St}{H:Hp}{s:Shared}(I:Inv X pins σ H s):interactive X.env=false:=by simp[interactive,I.ok.kind]
noncomputable def oF (te:TE):TS:=fun D σ H=>te σ H fun _ H1=>D.nx σ H1
theorem Ft (he:PE X e te) (hs:swapsWith e none pos.line X.env=pure false:=by rfl):PS X (.Expr e pos) (oF te):=by
 intro pins s σ H D I h
 exact wpAny_Expr_any (Be (he pins s σ H _ I h) fun v s1 ⟨x,H1,I1,r1,q1⟩=>⟨σ,H1,I1,q1⟩) I.quiet hs
noncomputable def sI (te:TE):TS:=fun D σ H=>te σ H D.rt
theorem SE (he:PE X e te):PS X (.Return (some e) pos) (sI te):=by
 intro pins s σ H D I h
 exact wpAny_Return_some (Be (he pins s σ H _ I h) fun v s1 ⟨x,H1,I1,r1,q1⟩=>⟨x,σ,H1,I1,r1,q1⟩)
noncomputable def sJ (c:TT) (t u:TS):TS:=fun D σ H=>c σ H fun b H1=>if b=true then t D σ H1 else u D σ H1
theorem oG {c:Expr}{a b:List Stmt}{tc:TT}(hc:PT X c tc) (ha:Ub X a t) (hb:Ub X b u):PS X (.If c a b pos) (sJ tc t u):=by
 intro pins s σ H D I h
 refine wpAny_If (Be (hc pins s σ H _ I h) fun d s1 ⟨H1,I1,q1⟩=>?_)
 cases d with
 |true=>exact ha pins s1 σ H1 D I1 q1
 |false=>exact hb pins s1 σ H1 D I1 q1
end
noncomputable abbrev TG:=V->St->Hp->(St->Hp->Prop)->Prop
noncomputable abbrev WK:=List V->St->Hp->(St->Hp->Prop)->Prop
noncomputable def PG (X:Cx) (target:Expr) (t:TG):Prop :=
 ∀(pins:List (Addr×Obj)) (s:Shared) (σ:St) (H:Hp) (v:V) (u:Value) (Q:St->Hp->Prop),Inv X pins σ H s->RelV v u->t v σ H Q->
  wpAny (model X.prog X.w) X.A (assign target X.env u) (fun _ s'=>∃ σ' H',Inv X pins σ' H' s'/\Q σ' H') X.xe s
noncomputable def nE (X:Cx) (ts:List Expr) (t:WK):Prop :=
 ∀(pins:List (Addr×Obj)) (s:Shared) (σ:St) (H:Hp) (vs:List V) (us:List Value) (Q:St->Hp->Prop),Inv X pins σ H s->Vals vs us->t vs σ H Q->
  wpAny (model X.prog X.w) X.A (assignInOrder ((assignEach ts X.env).map (·.2)) us) (fun _ s'=>∃ σ' H',Inv X pins σ' H' s'/\Q σ' H') X.xe s
noncomputable abbrev jG:=V->V->V->Hp->(Hp->Prop)->Prop
noncomputable def oH (X:Cx) (t:jG):Prop :=
 ∀(pins:List (Addr×Obj)) (s:Shared) (σ:St) (H:Hp) (o i v:V) (ov iv u:Value) (Q:Hp->Prop),Inv X pins σ H s->RelV o ov->RelV i iv->RelV v u->t o i v H Q->
  wpAny (model X.prog X.w) X.A (setItem ov iv u) (fun _ s'=>∃ H',Inv X pins σ H' s'/\Q H') X.xe s
section
variable {X:Cx}{pos:Pos}
noncomputable def Oi (i:Nat):TG:=fun v σ H Q=>Q (σ.set i (some v)) H
theorem Po {i:Nat}{x:Str}(hN:X.N.Nodup) (hi:X.N[i]? =some x) (hx:Loc X.env.scope x) (hf:X.fn x=true\/X.env.scope.names.lookup x=some .local:=by first | exact .inl rfl | exact .inr rfl | assumption):PG X (.Name x pos) (Oi i):=by
 intro pins s σ H v u Q I r h
 exact wpAny_assign_Name (QN I hN hi hx r (fun s' I'=>⟨_,H,I',h⟩) hf)
noncomputable def jH:WK:=fun vs σ H Q=>vs=[]/\Q σ H
noncomputable def WY (t:TG) (u:WK):WK:=fun vs σ H Q=>∃ v r,vs=v::r/\t v σ H fun σ' H'=>u r σ' H' Q
theorem Uc:nE X [] jH:=by
 intro pins s σ H vs us Q I r h
 obtain⟨e,h⟩:=h
 subst e
 cases r
 exact assignInOrder_nil ⟨σ,H,I,h⟩
theorem QQ {e:Expr}{es:List Expr}{t:TG}{u:WK}(h1:PG X e t) (h2:nE X es u)
 (hs:(assignEach (e::es) X.env).map (·.2)=assign e X.env::(assignEach es X.env).map (·.2):=by rfl):nE X (e::es) (WY t u):=by
 intro pins s σ H vs us Q I r h
 obtain⟨v,vr,e1,h⟩:=h
 subst e1
 cases r with
 |cons r rr =>
  rw[hs]
  refine assignInOrder_cons (Be (h1 pins s σ H _ _ _ I r h) fun _ s1 ⟨σ1,H1,I1,q1⟩=>?_)
  exact h2 pins s1 σ1 H1 _ _ Q I1 rr q1
noncomputable def jI (K:za) (n:Nat) (t:WK):TG:=fun v σ H Q=>∃ a xs,v=.ref a/\Fs K H a xs/\xs.length=n/\t xs σ H Q
theorem WZ {es:List Expr}{k:Nat}{t:WK}{n:Nat}(hc:X.calm=true) (h:nE X es t)
 (hn:(assignEach es X.env).length=n:=by rfl) (aY:(assignEach es X.env).findIdx? (·.1)=none:=by rfl):PG X (.Tuple es k pos) (jI X.K n t):=by
 intro pins s σ H v u Q I r hw
 obtain⟨a,xs,e1,hq,hl,hw⟩:=hw
 subst e1
 cases r
 obtain⟨aa,rv,ht,hz⟩:=I.tuple hq
 refine assign_Tuple_tuple (I.ok.hd hc) ht (by simp[hn,<-hl,rv.length]) aY fun h' hx=>?_
 have I1:Inv X pins σ H { s with heap:=h' }:=I.kept (t':=s.toks) fun b o e=>hx b o (zG (zx e)) e
 exact h pins _ σ H xs _ Q I1 (by simpa using rv) hw
noncomputable def sL (to ti:TE) (t:jG):TG:=fun v σ H Q=>to σ H fun o H1=>ti σ H1 fun i H2=>t o i v H2 fun H3=>Q σ H3
theorem X0 {o i:Expr}{to ti:TE}{t:jG}(ho:PE X o to) (hi:PE X i ti) (hs:oH X t)
 (ha:∀ v,assign (.Subscript o i pos) X.env v=(do
  let ov <-holding [v] (eval o X.env)
  let iv <-holding [v,ov] (eval i X.env)
  standAt pos
  holding [v,ov,iv] (setItem ov iv v)
  release [v,ov,iv] []):=by intro _;rfl):PG X (.Subscript o i pos) (sL to ti t):=by
 intro pins s σ H v u Q I r h
 rw[ha]
 refine wpAny_bind (wpAny_holding (Be (ho pins s σ H _ I h) fun ov s1 ⟨x,H1,I1,r1,q1⟩=>?_))
 refine wpAny_bind (wpAny_holding (Be (hi pins s1 σ H1 _ I1 q1) fun iv s2 ⟨y,H2,I2,r2,q2⟩=>?_))
 refine wpAny_bind (wpAny_standAt (wpAny_bind (wpAny_holding (Be (hs pins s2 σ H2 x y v ov iv u _ I2 r1 r2 r q2) fun _ s3 ⟨H3,I3,q3⟩=>?_))))
 exact wpAny_release ⟨σ,H3,I3,q3⟩
noncomputable def oI (te:TE) (g:TG):TS:=fun D σ H=>te σ H fun x H1=>g x σ H1 D.nx
theorem X1 {tg e:Expr}{te:TE}{g:TG}(he:PE X e te) (hg:PG X tg g) (hs:swapsWithSole [tg] e pos.line X.env=pure false:=by rfl) (hw:swappedStores [tg] e X.env=pure none:=by rfl)
 (h1:(assignEach [tg] X.env).map (·.2)=[assign tg X.env]:=by rfl):PS X (.Assign [tg] e pos) (oI te g):=by
 intro pins s σ H D I h
 refine wpAny_Assign_stores (Be (he pins s σ H _ I h) fun v s1 ⟨x,H1,I1,r1,q1⟩=>?_) hs hw
 rw[h1]
 exact Be (hg pins s1 σ H1 x v _ I1 r1 q1) fun _ s2 q=>q
theorem SF {i:Nat}{x:Str}{e:Expr}{te:TE}{pos':Pos}(hN:X.N.Nodup) (hi:X.N[i]? =some x) (hx:Loc X.env.scope x) (he:PE X e te) (hs:swapsWith e (some (.Name x pos')) pos.line X.env=pure false:=by rfl) (hf:X.fn x=true\/X.env.scope.names.lookup x=some .local:=by first | exact .inl rfl | exact .inr rfl | assumption) :
 PS X (.Assign [.Name x pos'] e pos) (oI te (Oi i)):=by
 intro pins s σ H D I h
 refine wpAny_Assign_Name (Be (he pins s σ H _ I h) fun v s1 ⟨y,H1,I1,r1,q1⟩=>?_) hs
 exact QN I1 hN hi hx r1 (fun s2 I2=>⟨_,H1,I2,q1⟩) hf
end
section
variable {X:Cx}{pos:Pos}
noncomputable def jJ (c:TT) (tb:TS):TS:=fun D σ H=>∃ W:Nat->St->Hp->Prop,(∃ m,W m σ H)/\∀ m σ H,W m σ H->
 c σ H fun b H1=>if b=true then ∃ N:St->Hp->Prop,(∀ σ' H',N σ' H'->∃ m',m' < m/\W m' σ' H')/\tb { D with nx:=N,ct:=N,bk:=D.nx } σ H1 else D.nx σ H1
theorem X2 {c:Expr}{body:List Stmt}{tc:TT}{tb:TS}(hp:PassesOwn (model X.prog X.w) X.A X.env X.xe) (hc:PT X c tc) (hb:Ub X body tb):PS X (.While c body [] pos) (jJ tc tb):=by
 intro pins s σ H D I h
 obtain⟨W,⟨m0,w0⟩,turn⟩:=h
 refine wpAny_While (codeAny_whileLoop (fun n s'=>∃ σ' H',Inv X pins σ' H' s'/\W n σ' H') ?_ m0 ⟨σ,H,I,w0⟩)
 rintro n s1 ⟨σ1,H1,I1,w1⟩
 refine wpAny_passesOwn hp (Be (hc pins s1 σ1 H1 _ I1 (turn n σ1 H1 w1)) fun b s2 ⟨H2,I2,q2⟩=>?_)
 cases b with
 |true =>
  obtain⟨N,hN,q2⟩:=q2
  rw[if_pos rfl]
  refine wpAny_passesOwn hp (Be (hb pins s2 σ1 H2 _ I2 q2) fun f s3 q3=>?_)
  cases f with
  |next =>
   obtain⟨σ3,H3,I3,n3⟩:=q3
   obtain⟨m',hm,w3⟩:=hN σ3 H3 n3
   exact⟨m',hm,σ3,H3,I3,w3⟩
  |cont =>
   obtain⟨σ3,H3,I3,n3⟩:=q3
   obtain⟨m',hm,w3⟩:=hN σ3 H3 n3
   exact⟨m',hm,σ3,H3,I3,w3⟩
  |brk=>exact q3
  |ret v=>exact q3
 |false =>
  rw[if_neg zM]
  exact wpAny_execs_nil ⟨σ1,H2,I2,q2⟩
end
structure It where
 go:Nat->Hp->Prop
 gO:Nat->Hp->V->Hp->Prop
 stop:Nat->Hp->Prop
noncomputable def Lq (X:Cx) (pins:List (Addr×Obj)) (H:Hp) (b:Addr):Prop :=
 H b=none/\b≠X.env.locals/\b∉X.fs/\(b∈X.ex\/X.s₀.heap.objs.size<=b)/\(∀ x c,X.env.cells.lookup x=some c->c≠b)/\∀ p∈X.pn++pins,p.1≠b
theorem Inv.X3 {X:Cx}{pins:List (Addr×Obj)}{σ:St}{H H':Hp}{s:Shared}{b:Addr}(I:Inv X pins σ H s) (hb:s.heap.objs.size<=b) (hn:H' b=none):Lq X pins H' b:=by
 refine⟨hn,Nat.ne_of_gt (zC I.lt hb),I.sA hb,.inr (yU I.sz hb),fun x c e z=>?_,fun p hp z=>?_⟩
 ·obtain⟨v,q⟩:=I.cell x c e
  exact absurd (zC q.lt (by rw[z];exact hb)) (Nat.lt_irrefl _)
 ·exact absurd (zC (zx (I.pin p hp).1) (by rw[z];exact hb)) (Nat.lt_irrefl _)
structure Turn (P:Program) (w:World) (K:za) (tg:Expr) (J:It) (fp:List Addr) (it:Addr) (tn:Nat->Heap->Prop):Prop where
 mem:it∈fp
 obj:∀ i h,tn i h->∀ b∈fp,∃ o,h.get? b=some o/\∀ v,o.data≠.cell v
 keep:∀ i h h',tn i h->(∀ b∈fp,∀ o,h.get? b=some o->h'.get? b=some o)->tn i h'
 item:∀(X:Cx),X.prog=P->X.w=w->X.K=K->X.calm=true->∀(i:Nat) (pins:List (Addr×Obj)) (s:Shared) (σ:St) (H:Hp) (E:Value->Shared->Prop),Inv X pins σ H s->(∀ b∈fp,Lq X pins H b)->tn i s.heap->J.go i H->
  wpAny (model P w) X.A (pyNext (.ref it)) (fun r s1=>∃ u,r=some u /\
   wpAny (model P w) X.A (letOwnedTupleGo tg (.ref it) u) (fun _ s2=>∃ x H',Inv X pins σ H' s2/\RelV x u/\J.gO i H x H'/\tn (i + 1) s2.heap/\∀ b∈fp,H' b=none) E s1) E s
 done:∀(X:Cx),X.prog=P->X.w=w->X.K=K->X.calm=true->∀(i:Nat) (pins:List (Addr×Obj)) (s:Shared) (σ:St) (H:Hp) (E:Value->Shared->Prop),Inv X pins σ H s->(∀ b∈fp,Lq X pins H b)->tn i s.heap->J.stop i H->
  wpAny (model P w) X.A (pyNext (.ref it)) (fun r s1=>r=none/\Inv X pins σ H s1) E s
 self:∀(A:Around) (i:Nat) (s:Shared) (Q:Value->Shared->Prop) (E:Value->Shared->Prop),tn i s.heap->Q (.ref it) s->wpAny (model P w) A (pyIter (.ref it)) Q E s
noncomputable abbrev TI:=St->Hp->(It->Hp->Prop)->Prop
noncomputable def uB (X:Cx) (pins:List (Addr×Obj)) (σ:St) (tg:Expr) (R:It->Hp->Prop) (lg:Value) (s2:Shared):Prop :=
 ∃(it:Addr) (fp:List Addr) (tn:Nat->Heap->Prop) (J:It) (H':Hp),lg=.ref it/\Inv X pins σ H' s2/\Turn X.prog X.w X.K tg J fp it tn/\tn 0 s2.heap/\(∀ b∈fp,Lq X pins H' b)/\R J H'
noncomputable def PI (X:Cx) (tg iter:Expr) (wi:TI):Prop :=
 ∀(pins:List (Addr×Obj)) (s:Shared) (σ:St) (H:Hp) (R:It->Hp->Prop),Inv X pins σ H s->wi σ H R->
  wpAny (model X.prog X.w) X.A (eval iter X.env) (fun v s1=>wpAny (model X.prog X.w) X.A (pyIter v) (uB X pins σ tg R) X.xe s1) X.xe s
theorem X4 {M:Model}{A:Around}{E:Value->Shared->Prop}{s:Shared}{tg:Expr}{it:Addr}{u:Value}{o:Obj}{n:String}{vs:Array Value}{Q:Unit->Shared->Prop}(ho:s.heap.get? it=some o) (hc:o.cls=.type n) (hd:o.data=.fields vs)
 (hn:["enumerate","zip","dict_itemiterator","dict_reverseitemiterator","odict_iterator","itertools.zip_longest","itertools.pairwise"].contains n=false) (hQ:Q () s):wpAny M A (letOwnedTupleGo tg (.ref it) u) Q E s:=by
 unfold letOwnedTupleGo
 cases tg<;>first
  |exact wpAny_pure hQ
  |(cases u<;>first
   |exact wpAny_pure hQ
   |(
    refine wpAny_bind (wpAny_load ho ?_)
    rw[hc,hd]
    show wpAny M A (if (["enumerate","zip","dict_itemiterator","dict_reverseitemiterator","odict_iterator","itertools.zip_longest","itertools.pairwise"].contains n && vs[0]? == some (rawInt _))=true then _ else _) Q E s
    rw[if_neg (by intro h;rw[hn,Bool.false_and] at h;cases h)]
    exact wpAny_pure hQ))
noncomputable def uC (K:za) (a:Addr):It :=
 ⟨fun i H=>∃ xs x,Dr K H a xs/\xs[i]? =some x,fun i H x H'=>H'=H/\∀ xs,Dr K H a xs->xs[i]? =some x,fun i H=>∃ xs,Dr K H a xs/\xs.length<=i⟩
noncomputable def rB (lo:Int) (n:Nat):It:=⟨fun i _=>i < n,fun i H x H'=>H'=H/\x=.int (lo + i),fun i _=>n<=i⟩
theorem Vu {P:Program}{w:World}{K:za}{tg:Expr}(a it:Addr):Turn P w K tg (uC K a) [it] it (fun i h=>h.IsListIter it a i) where
 mem:=by simp
 obj:=fun i h st b hb=>by
  have e:b=it:=by simpa using hb
  subst e
  obtain⟨o,e,c,d⟩:=st
  exact⟨o,e,fun v z=>by rw[d] at z;cases z⟩
 keep:=fun i h h' st k=>st.at fun o e=>k it (by simp) o e
 item:=by
  intro X hP hw hK hc i pins s σ H E I hf st hg
  subst hP hw hK
  obtain⟨xs,x,hq,hx⟩:=hg
  obtain⟨aa,rv,p,hz⟩:=I.list hq
  obtain⟨u,hu,ru⟩:=rv.get hx
  obtain⟨f0,f1,f2,f3,f4,f5⟩:=hf it (by simp)
  refine wpAny_pyNext_list_item st p.isList (x:=u) (by simpa using hu) fun h' ck sb=>?_
  have I1:Inv X pins σ H { s with heap:=h' }:=I.turned (t':=s.toks) (fun b o hb e=>(sb.2 b hb).trans e) f0 f1 f3 f4 f5
  obtain⟨o,e,c,d⟩:=id ck
  exact⟨u,rfl,X4 (s:={ s with heap:=h' }) e c d (by decide) ⟨x,H,I1,ru,⟨rfl,fun ys hy=>by rw[I.Gq hy hq];exact hx⟩,ck,fun b hb=>(hf b hb).1⟩⟩
 done:=by
  intro X hP hw hK hc i pins s σ H E I hf st hg
  subst hP hw hK
  obtain⟨xs,hq,hx⟩:=hg
  obtain⟨aa,rv,p,hz⟩:=I.list hq
  obtain⟨f0,f1,f2,f3,f4,f5⟩:=hf it (by simp)
  have hl:=rv.length
  exact wpAny_pyNext_list_end (I.ok.hd hc) st p.isList (by simp;omega) fun h' eb=>⟨rfl,I.turned (t':=s.toks) (fun b o hb e=>eb b o hb e) f0 f1 f3 f4 f5⟩
 self:=fun _ _ _ _ _ st h=>wpAny_pyIter_listiter st h
theorem SG {P:Program}{w:World}{K:za}{tg:Expr}(it:Addr) (lo:Int) (n:Nat):Turn P w K tg (rB lo n) [it] it (fun i h=>IsRangeIter h it (lo + (i:Nat) * 1) ((n:Int) - (i:Nat)) 1) where
 mem:=by simp
 obj:=fun i h st b hb=>by
  have e:b=it:=by simpa using hb
  subst e
  exact⟨_,st,fun v z=>by
   have z':Data.fields _=Data.cell v:=z
   cases z'⟩
 keep:=fun i h h' st k=>k it (by simp) _ st
 item:=by
  intro X hP hw hK hc i pins s σ H E I hf st hg
  subst hP hw hK
  obtain⟨f0,f1,f2,f3,f4,f5⟩:=hf it (by simp)
  have W:=Walks.range (prog:=X.prog) (w:=X.w) (I.ok.hd hc) it lo 1 n
  refine W.item i s _ _ hg st fun v h' tk hv ck kk=>?_
  obtain⟨t,rfl⟩:=hv
  have I1:Inv X pins σ H { s with heap:=h',toks:=tk }:=I.turned (fun b o hb e=>kk b o (by simpa using hb) e) f0 f1 f3 f4 f5
  refine⟨_,rfl,X4 (s:={ s with heap:=h',toks:=tk }) (n := "range_iterator") ck rfl rfl (by decide) ⟨.int (lo + i),H,I1,⟨t,?_⟩,⟨rfl,rfl⟩,ck,fun b hb=>(hf b hb).1⟩⟩
  rw[Int.mul_one]
 done:=by
  intro X hP hw hK hc i pins s σ H E I hf st hg
  subst hP hw hK
  obtain⟨f0,f1,f2,f3,f4,f5⟩:=hf it (by simp)
  exact wpAny_pyNext_range_end (I.ok.hd hc) st (by have:n<=i:=hg;omega) fun h' eb=>⟨rfl,I.turned (t':=s.toks) (fun b o hb e=>eb b o hb e) f0 f1 f3 f4 f5⟩
 self:=fun _ _ _ _ _ st h=>wpAny_pyIter_rangeiter st h
section
variable {X:Cx}{tg:Expr}
noncomputable def oJ (K:za) (tl:TE):TI:=fun σ H R=>tl σ H fun x H1=>∃ a,x=.ref a/\(∃ xs,Dr K H1 a xs)/\R (uC K a) H1
theorem Zw {l:Expr}{tl:TE}(hl:PE X l tl):PI X tg l (oJ X.K tl):=by
 intro pins s σ H R I h
 refine Be (hl pins s σ H _ I h) fun v s1 ⟨x,H1,I1,r1,q1⟩=>?_
 obtain⟨a,e,⟨xs,hq⟩,q⟩:=q1
 subst e
 cases r1
 obtain⟨aa,rv,p,hz⟩:=I1.list hq
 refine wpAny_pyIter_list p.isList ?_
 refine⟨s1.heap.objs.size,[s1.heap.objs.size],_,_,H1,rfl,I1.kept (t':=s1.toks) fun b o e=>zr _ e,Vu a _,⟨_,zI _ rfl,rfl,rfl⟩,fun b hb=>?_,q⟩
 have e:b=s1.heap.objs.size:=by simpa using hb
 subst e
 exact I1.X3 (zB _) (I1.Av.fresh (zB _))
theorem X5 {pins:List (Addr×Obj)}{σ:St}{H:Hp}{s:Shared}{R:It->Hp->Prop}{E:Value->Shared->Prop}{lo hi:Int}{t u v:Tok}{tk:Nat}(I:Inv X pins σ H s) (h1 : -(2 ^ 62)<=lo) (h2:lo < 2 ^ 62) (h3 : -(2 ^ 62)<=hi) (h4:hi < 2 ^ 62)
 (q:R (rB lo (hi - lo).toNat) H):wpAny (model X.prog X.w) X.A (pyIter (.ref s.heap.objs.size)) (uB X pins σ tg R) E { s with heap:=s.heap.push { cls:=.type "range",data:=.fields #[.int lo t,.int hi u,.int 1 v] },toks:=tk }:=by
 refine wpAny_pyIter_range (IsRange.new ..) (small_one h1 h2 h3 h4) ?_
 have I1:Inv X pins σ H { s with heap:=s.heap.push { cls:=.type "range",data:=.fields #[.int lo t,.int hi u,.int 1 v] },toks:=tk }:=I.kept fun b o e=>zr _ e
 refine⟨(s.heap.push { cls:=.type "range",data:=.fields #[.int lo t,.int hi u,.int 1 v] }).objs.size,[(s.heap.push { cls:=.type "range",data:=.fields #[.int lo t,.int hi u,.int 1 v] }).objs.size],_,_,H,rfl,
  I1.kept (t':=tk) fun b o e=>zr _ e,SG _ lo (hi - lo).toNat,?_,fun b hb=>?_,q⟩
 ·have e1:lo + ((0:Nat):Int) * 1=lo:=by simp
  have e2:(((hi - lo).toNat:Nat):Int) - ((0:Nat):Int)=Builtin.Range.rangeSize lo hi 1:=by rw[rangeSize_one];split<;>omega
  show IsRangeIter _ _ (lo + ((0:Nat):Int) * 1) ((((hi - lo).toNat:Nat):Int) - ((0:Nat):Int)) 1
  rw[e1,e2]
  exact zI _ rfl
 ·have e:b=(s.heap.push { cls:=.type "range",data:=.fields #[.int lo t,.int hi u,.int 1 v] }).objs.size:=by simpa using hb
  subst e
  exact I1.X3 (zB _) (I1.Av.fresh (zB _))
noncomputable def oK (ta:TA):TI:=fun σ H R=>ta σ H fun vs H1=>∃ j:Int,vs=[.int j]/\-(2 ^ 62)<=j/\j < 2 ^ 62/\R (rB 0 j.toNat) H1
theorem Vv {a:Expr}{ta:TA}{p pos:Pos}(hg:Gl X "range") (hm:X.mg "range" = none) (ha:PA X [a] ta) (hs:starEach [a] X.env=[(false,eval a X.env)]:=by rfl):PI X tg (.Call (.Name "range" p) [a] [] pos) (oK ta):=by
 intro pins s σ H R I h
 refine Call_ (E5 I hg hm boot_range (yT (Be (ha pos pins s σ H _ I h) fun us s1 ⟨vs,H1,I1,r1,q1⟩=>?_) hs rfl))
 obtain⟨j,e,q1,q2,q⟩:=q1
 subst e
 cases r1 with
 |cons r rr =>
  cases rr
  obtain⟨t,rfl⟩:=r
  exact call_range_1 (X5 I1 (by omega) (by omega) q1 q2 (by simpa using q))
noncomputable def sM (wi:TI) (g:TG) (tb:TS):TS:=fun D σ H=>wi σ H fun J H1=>∃ W:Nat->Nat->St->Hp->Prop,(∃ m,W 0 m σ H1)/\∀ i m σ H,W i m σ H->
 (J.stop i H/\D.nx σ H)\/(J.go i H/\∃ N:St->Hp->Prop,(∀ σ' H',N σ' H'->∃ m',m' < m/\W (i + 1) m' σ' H')/\∀ x H',J.gO i H x H'->g x σ H' fun σ2 H2=>tb { D with nx:=N,ct:=N,bk:=D.nx } σ2 H2)
noncomputable def Im (fp:List Addr) (h:Heap):List (Addr×Obj):=fp.filterMap fun b=>(h.get? b).map fun o=>(b,o)
theorem Fu {fp:List Addr}{h:Heap}{b:Addr}{o:Obj}(hb:b∈fp) (e:h.get? b=some o):(b,o)∈Im fp h:=List.mem_filterMap.mpr ⟨b,hb,by rw[e];rfl⟩
theorem Oj {fp:List Addr}{h:Heap}{p:Addr×Obj}(hp:p∈Im fp h):p.1∈fp/\h.get? p.1=some p.2:=by
 obtain⟨b,hb,e⟩:=List.mem_filterMap.mp hp
 cases q:h.get? b with
 |none=>rw[q] at e;cases e
 |some o =>
  rw[q] at e
  have e':(b,o)=p:=zJ e
  subst e'
  exact⟨hb,q⟩
theorem Inv.pinned {pins:List (Addr×Obj)}{σ:St}{H:Hp}{s:Shared}{fp:List Addr}(I:Inv X pins σ H s) (hf:∀ b∈fp,Lq X pins H b) (ho:∀ b∈fp,∃ o,s.heap.get? b=some o/\∀ v,o.data≠.cell v):Inv X (pins++Im fp s.heap) σ H s :=
 I.J2 fun p hp=>(zy.mp hp).elim (fun z=>I.pin p (zq _ z)) fun z=>by
  obtain⟨hb,e⟩:=Oj z
  obtain⟨f0,f1,f2,_⟩:=hf p.1 hb
  obtain⟨o,e',d⟩:=ho p.1 hb
  rw[e] at e';cases e'
  exact⟨e,f0,f1,f2,d⟩
theorem Inv.J3 {pins pl:List (Addr×Obj)}{σ:St}{H:Hp}{s:Shared}(I:Inv X (pins++pl) σ H s):Inv X pins σ H s:=I.J2 fun p hp=>I.pin p (zq _ (zO _ hp))
theorem jK {iter:Expr}{body:List Stmt}{wi:TI}{g:TG}{tb:TS}{pos:Pos}(hp:PassesOwn (model X.prog X.w) X.A X.env X.xe) (hc:X.calm=true) (hi:PI X tg iter wi) (hg:PG X tg g) (hb:Ub X body tb)
 (hs:∀ x,foldedSetIterable iter X.env x=pure x:=by intro _;rfl):PS X (.For tg iter body [] pos) (sM wi g tb):=by
 intro pins s σ H D I h
 refine wpAny_For (Be (hi pins s σ H _ I h) fun v s1 h1=>Be h1 fun lg s2 h2=>?_) hs
 obtain⟨it,fp,tn,J,H2,e,I2,T,cK,f2,W,⟨m0,w0⟩,turn⟩:=h2
 subst e
 have bD:∀ {H':Hp},(∀ b∈fp,H' b=none)->∀ b∈fp,Lq X pins H' b:=fun hn b hb=>⟨hn b hb,(f2 b hb).2⟩
 refine codeAny_forLoop_any (fun n s'=>∃ i σ' H',Inv X pins σ' H' s'/\tn i s'.heap/\(∀ b∈fp,H' b=none)/\W i n σ' H') ?_ m0 ⟨0,σ,H2,I2,cK,fun b hb=>(f2 b hb).1,w0⟩
 rintro n s3 ⟨i,σ3,H3,I3,iq,ir,w3⟩
 rcases turn i n σ3 H3 w3 with ⟨stop,qn⟩|⟨go,N,hN,step⟩
 ·refine wpAny_passesOwn hp (Be (T.done X rfl rfl rfl hc i pins s3 σ3 H3 X.xe I3 (bD ir) iq stop) fun r s4 ⟨hr,I4⟩=>?_)
  subst hr
  exact wpAny_execs_nil ⟨σ3,H3,I4,qn⟩
 ·refine wpAny_passesOwn hp (Be (T.item X rfl rfl rfl hc i pins s3 σ3 H3 X.xe I3 (bD ir) iq go) fun r s4 ⟨u,hr,h4⟩=>?_)
  subst hr
  refine wpAny_passesOwn hp (Be h4 fun _ s5 ⟨x,H5,I5,r5,y5,eh,mq⟩=>?_)
  have mr:=I5.pinned (bD mq) (T.obj _ _ eh)
  refine wpAny_passesOwn hp (Be (hg _ s5 σ3 H5 x u _ mr r5 (step x H5 y5)) fun _ s6 ⟨σ6,H6,I6,q6⟩=>?_)
  refine wpAny_passesOwn hp (Be (hb _ s6 σ6 H6 _ I6 q6) fun f s7 q7=>?_)
  have again:∀ {σ7:St} {H7:Hp},Inv X (pins++Im fp s5.heap) σ7 H7 s7->N σ7 H7->∃ m,m < n/\∃ i σ' H',Inv X pins σ' H' s7/\tn i s7.heap/\(∀ b∈fp,H' b=none)/\W i m σ' H':=fun {σ7 H7} I7 n7=>by
   obtain⟨m',hm,w7⟩:=hN σ7 H7 n7
   refine⟨m',hm,i + 1,σ7,H7,I7.J3,T.keep _ _ _ eh fun b hb o e=>(I7.pin (b,o) (zq _ (zq _ (Fu hb e)))).1,fun b hb=>?_,w7⟩
   obtain⟨o,e,d⟩:=T.obj _ _ eh b hb
   exact (I7.pin (b,o) (zq _ (zq _ (Fu hb e)))).2.1
  cases f with
  |next=>obtain⟨σ7,H7,I7,n7⟩:=q7;exact again I7 n7
  |cont=>obtain⟨σ7,H7,I7,n7⟩:=q7;exact again I7 n7
  |brk=>obtain⟨σ7,H7,I7,q7⟩:=q7;exact⟨σ7,H7,I7.J3,q7⟩
  |ret v=>obtain⟨x7,σ7,H7,I7,r7,q7⟩:=q7;exact⟨x7,σ7,H7,I7.J3,r7,q7⟩
end
noncomputable abbrev R2:=V->V->Hp->VK->Prop
noncomputable def Gs (X:Cx) (f:Value->Value->Sem Value) (r:R2):Prop :=
 ∀(pins:List (Addr×Obj)) (s:Shared) (σ:St) (H:Hp) (x y:V) (v u:Value) (Q:VK),Inv X pins σ H s->RelV x v->RelV y u->r x y H Q->
  wpAny (model X.prog X.w) X.A (f v u) (EP X pins σ Q) X.xe s
noncomputable def sN (X:Cx) (f:Value->Sem Value) (r:V->Hp->VK->Prop):Prop :=
 ∀(pins:List (Addr×Obj)) (s:Shared) (σ:St) (H:Hp) (x:V) (v:Value) (Q:VK),Inv X pins σ H s->RelV x v->r x H Q->
  wpAny (model X.prog X.w) X.A (f v) (EP X pins σ Q) X.xe s
noncomputable def Gu (X:Cx) (f:Value) (r:List V->Hp->VK->Prop):Prop :=
 ∀(pins:List (Addr×Obj)) (s:Shared) (σ:St) (H:Hp) (xs:List V) (us:List Value) (Q:VK),Inv X pins σ H s->Vals xs us->r xs H Q->
  wpAny (model X.prog X.w) X.A (call f us) (EP X pins σ Q) X.xe s
noncomputable def sO (X:Cx) (r:V->Hp->(Bool->Hp->Prop)->Prop):Prop :=
 ∀(pins:List (Addr×Obj)) (s:Shared) (σ:St) (H:Hp) (x:V) (v:Value) (Q:Bool->Hp->Prop),Inv X pins σ H s->RelV x v->r x H Q->
  wpAny (model X.prog X.w) X.A (truthy v) (TP X pins σ Q) X.xe s
noncomputable def nF (r:R2) (ta tb:TE):TE:=fun σ H Q=>ta σ H fun x H1=>tb σ H1 fun y H2=>r x y H2 Q
noncomputable def vN (r:V->Hp->VK->Prop) (ta:TE):TE:=fun σ H Q=>ta σ H fun x H1=>r x H1 Q
noncomputable def rI (C:Int->Int->Prop) (g:Int->Int->V):R2:=fun x y H Q=>∃ i j,x=.int i/\y=.int j/\C i j/\Q (g i j) H
noncomputable def Zl (g:Int->Int->V):R2:=fun x y H Q=>∃ i j,x=.int i/\y=.int j/\Q (g i j) H
noncomputable def rU (g:Int->V):V->Hp->VK->Prop:=fun x H Q=>∃ i,x=.int i/\Q (g i) H
section
variable {X:Cx}{a b c:Expr}{ta tb tc:TE}{pos:Pos}
theorem jL (ha:PE X a ta) (hb:PE X b tb){pins:List (Addr×Obj)}{s:Shared}{σ:St}{H:Hp}{R:V->V->Hp->Prop}(I:Inv X pins σ H s)
 (h:ta σ H fun x H1=>tb σ H1 fun y H2=>R x y H2) {Q:Value->Shared->Prop} {f:Value->Value->Sem Value}
 (hf:∀ v u s2 x y H2,Inv X pins σ H2 s2->RelV x v->RelV y u->R x y H2->wpAny (model X.prog X.w) X.A (f v u) Q X.xe s2) :
 wpAny (model X.prog X.w) X.A (eval a X.env) (fun v s₁=>wpAny (model X.prog X.w) X.A (eval b X.env) (fun u s₂=>wpAny (model X.prog X.w) X.A (f v u) Q X.xe s₂) X.xe s₁) X.xe s:=by
 refine Be (ha pins s σ H _ I h) fun v s1 ⟨x,H1,I1,r1,q1⟩=>?_
 refine Be (hb pins s1 σ H1 _ I1 q1) fun u s2 ⟨y,H2,I2,r2,q2⟩=>?_
 exact hf v u s2 x y H2 I2 r1 r2 q2
theorem X6 {op:Operator}{r:R2}(ho:Gs X (binaryOp op) r) (ha:PE X a ta) (hb:PE X b tb):PE X (.BinOp a op b pos) (nF r ta tb):=by
 intro pins s σ H Q I h
 exact wpAny_BinOp (jL ha hb I h fun v u s2 x y H2 I2 rx ry q=>ho pins s2 σ H2 x y v u Q I2 rx ry q)
theorem oM {op:UnaryOp}{r:V->Hp->VK->Prop}(ho:sN X (unaryOp op) r) (ha:PE X a ta):PE X (.UnaryOp op a pos) (vN r ta):=by
 intro pins s σ H Q I h
 exact UnaryOp_ (Be (ha pins s σ H _ I h) fun v s1 ⟨x,H1,I1,r1,q1⟩=>ho pins s1 σ H1 x v Q I1 r1 q1)
theorem rC {f:Value->Value->Sem Value}{C:Int->Int->Prop}{g:Int->Int->Int}
 (rule:∀(i j:Int) (t u:Tok) (s:Shared) (Q:Value->Shared->Prop) (E:Value->Shared->Prop),C i j->Q (.int (g i j) s.toks) { s with toks:=s.toks + 1 }->wpAny (model X.prog X.w) X.A (f (.int i t) (.int j u)) Q E s) :
 Gs X f (rI C fun i j=>.int (g i j)):=by
 intro pins s σ H x y v u Q I rx ry h
 obtain⟨i,j,rfl,rfl,hc,q⟩:=h
 obtain⟨t,rfl⟩:=rx
 obtain⟨t',rfl⟩:=ry
 exact rule i j t t' s _ _ hc ⟨.int (g i j),H,I.tok _,⟨_,rfl⟩,q⟩
theorem oN {f:Value->Value->Sem Value}{g:Int->Int->Int}
 (rule:∀(i j:Int) (t u:Tok) (s:Shared) (Q:Value->Shared->Prop) (E:Value->Shared->Prop),Q (.int (g i j) s.toks) { s with toks:=s.toks + 1 }->wpAny (model X.prog X.w) X.A (f (.int i t) (.int j u)) Q E s) :
 Gs X f (Zl fun i j=>.int (g i j)):=by
 intro pins s σ H x y v u Q I rx ry h
 obtain⟨i,j,rfl,rfl,q⟩:=h
 obtain⟨t,rfl⟩:=rx
 obtain⟨t',rfl⟩:=ry
 exact rule i j t t' s _ _ ⟨.int (g i j),H,I.tok _,⟨_,rfl⟩,q⟩
theorem jM {f:Value->Value->Sem Value}{g:Int->Int->Bool}
 (rule:∀(i j:Int) (t u:Tok) (s:Shared) (Q:Value->Shared->Prop) (E:Value->Shared->Prop),Q (.bool (g i j)) s->wpAny (model X.prog X.w) X.A (f (.int i t) (.int j u)) Q E s) :
 Gs X f (Zl fun i j=>.bl (g i j)):=by
 intro pins s σ H x y v u Q I rx ry h
 obtain⟨i,j,rfl,rfl,q⟩:=h
 obtain⟨t,rfl⟩:=rx
 obtain⟨t',rfl⟩:=ry
 exact rule i j t t' s _ _ ⟨.bl (g i j),H,I,rfl,q⟩
noncomputable def X7 (i j:Int):Prop:=0 < j/\j < 1073741824
noncomputable def Zx (i j:Int):Prop:=0<=j/\j<=1000000/\i.natAbs < 2 ^ 64
noncomputable def X8 (i j:Int):Prop:=(-(2 ^ 64) < i/\i < 2 ^ 64)\/(-(2 ^ 64) < j/\j < 2 ^ 64)
theorem X8.ok {i j:Int}(h:X8 i j):IntMulOk i j:=by
 rcases h with ⟨h1,h2⟩|⟨h1,h2⟩
 ·exact .of_left (intBits_le_64 h1 h2)
 ·exact .of_right (intBits_le_64 h1 h2)
theorem jN:Gs X (binaryOp .Add) (Zl fun i j=>.int (i + j)):=oN fun _ _ _ _ _ _ _ q=>add_int q
theorem jO:Gs X (binaryOp .Sub) (Zl fun i j=>.int (i - j)):=oN fun _ _ _ _ _ _ _ q=>sub_int q
theorem Zy:Gs X (binaryOp .FloorDiv) (rI X7 fun i j=>.int (i / j)):=rC fun i j _ _ _ _ _ hc q=>by
 have h1:(0:Int) < j:=hc.1
 have h2:j < 1073741824:=hc.2
 exact floordiv_int (by omega) (by rw[Int.fdiv_eq_ediv_of_nonneg i (by omega)];exact q) (.inl (PyProof.noPylong_small (by omega)))
theorem jP:Gs X (binaryOp .Mod) (rI (fun _ j=>0 < j) fun i j=>.int (i % j)):=rC fun i j _ _ _ _ _ hc q=>by
 have h1:(0:Int) < j:=hc
 exact mod_int' (by omega) (by rw[Int.fmod_eq_emod_of_nonneg i (by omega)];exact q)
theorem jQ:Gs X (binaryOp .Pow) (rI Zx fun i j=>.int (i ^ j.toNat)):=rC fun _ _ _ _ _ _ _ hc q=>pow_int_small hc.1 hc.2.1 hc.2.2 q
theorem vP {f:Value->Sem Value}{g:Int->Int}
 (rule:∀(i:Int) (t:Tok) (s:Shared) (Q:Value->Shared->Prop) (E:Value->Shared->Prop),Q (.int (g i) s.toks) { s with toks:=s.toks + 1 }->wpAny (model X.prog X.w) X.A (f (.int i t)) Q E s) :
 sN X f (rU fun i=>.int (g i)):=by
 intro pins s σ H x v Q I rx h
 obtain⟨i,rfl,q⟩:=h
 obtain⟨t,rfl⟩:=rx
 exact rule i t s _ _ ⟨.int (g i),H,I.tok _,⟨_,rfl⟩,q⟩
theorem jR:sN X (unaryOp .USub) (rU fun i=>.int (-i)):=vP fun _ _ _ _ _ q=>neg_int q
end
section
variable {X:Cx}{a b c:Expr}{ta tb tc:TE}{pos:Pos}
theorem gQ:Gs X (compareOp .Lt) (Zl fun i j=>.bl (decide (i < j))):=jM fun _ _ _ _ _ _ _ q=>lt_int q
theorem oO:Gs X (compareOp .LtE) (Zl fun i j=>.bl (decide (i<=j))):=jM fun _ _ _ _ _ _ _ q=>le_int q
theorem oP:Gs X (compareOp .Gt) (Zl fun i j=>.bl (decide (j < i))):=jM fun _ _ _ _ _ _ _ q=>gt_int q
theorem Gs.or {f:Value->Value->Sem Value}{r r':R2}(h:Gs X f r) (h':Gs X f r'):Gs X f (fun x y H Q=>r x y H Q\/r' x y H Q):=by
 intro pins s σ H x y v u Q I rx ry q
 rcases q with q|q
 ·exact h pins s σ H x y v u Q I rx ry q
 ·exact h' pins s σ H x y v u Q I rx ry q
theorem Io (b:Expr){op:CmpOp}(h:op≠.In:=by decide) (h2:op≠.NotIn:=by decide):behindInMarks op b=false:=by
 have e1:(op == CmpOp.In)=false:=by cases op<;>first|rfl|exact absurd rfl h
 have e2:(op == CmpOp.NotIn)=false:=by cases op<;>first|rfl|exact absurd rfl h2
 cases b<;>simp[behindInMarks,e1,e2]
theorem Zz {op:CmpOp}{r:R2}(ho:Gs X (compareOp op) r) (ha:PE X a ta) (hb:PE X b tb) (hm:behindInMarks op b=false):PE X (.Compare a [op] [b] pos) (nF r ta tb):=by
 intro pins s σ H Q I h
 exact wpAny_Compare1 (jL ha hb I h fun v u s2 x y H2 I2 rx ry q=>ho pins s2 σ H2 x y v u Q I2 rx ry q) hm
noncomputable def oQ (t:TE):TT:=fun σ H Q=>t σ H fun x H'=>∃ k,x=.bl k/\Q k H'
theorem ZA {op:CmpOp}{r:R2}(ho:Gs X (compareOp op) r) (ha:PE X a ta) (hb:PE X b tb) (hm:behindInMarks op b=false):PT X (.Compare a [op] [b] pos) (oQ (nF r ta tb)):=by
 intro pins s σ H Q I h
 refine wpAny_isTrue_Compare1 (Be (ha pins s σ H _ I h) fun v s1 ⟨x,H1,I1,r1,q1⟩=>Be (hb pins s1 σ H1 _ I1 q1) fun u s2 ⟨y,H2,I2,r2,q2⟩ =>
  Be (ho pins s2 σ H2 x y v u _ I2 r1 r2 q2) fun c s3 ⟨z,H3,I3,r3,k,e,q3⟩=>?_) hm
 subst e
 cases r3
 exact wpAny_truthy_bool ⟨H3,I3,q3⟩
noncomputable def jS (r r':R2) (ta tb tc:TE):TE:=fun σ H Q=>ta σ H fun x H1=>tb σ H1 fun y H2=>r x y H2 fun z H3=>∃ k,z=.bl k /\
 (if k=true then tc σ H3 fun w' H4=>r' y w' H4 Q else Q (.bl false) H3)
theorem X9 {op eo:CmpOp}{r r':R2}(ho:Gs X (compareOp op) r) (b9:Gs X (compareOp eo) r') (ha:PE X a ta) (hb:PE X b tb) (hc:PE X c tc)
 (hm:lastMarks [op,eo] [b,c]=false:=by with_unfolding_all rfl):PE X (.Compare a [op,eo] [b,c] pos) (jS r r' ta tb tc):=by
 intro pins s σ H Q I h
 refine Compare_chain (Be (ha pins s σ H _ I h) fun v s1 ⟨x,H1,I1,r1,q1⟩=>chain_link (Be (hb pins s1 σ H1 _ I1 q1) fun u s2 ⟨y,H2,I2,r2,q2⟩ =>
  Be (ho pins s2 σ H2 x y v u _ I2 r1 r2 q2) fun d s3 ⟨z,H3,I3,r3,k,e,q3⟩=>?_)) hm
 subst e
 cases r3
 refine wpAny_truthy_bool ?_
 cases k with
 |false=>exact ite_ff ⟨.bl false,H3,I3,rfl,q3⟩
 |true=>exact ite_tt (chain_last (Be (hc pins s3 σ H3 _ I3 q3) fun w' s4 ⟨z',H4,I4,r4,q4⟩=>b9 pins s4 σ H4 y z' u w' Q I4 r2 r4 q4))
noncomputable def oR (K:za) (x:V) (H:Hp) (k:Bool):Prop :=
 match x with
 | .AA=>k=false
 | .bl b=>k=b
 | .int i=>k=(i != 0)
 | .str y=>y.length<=sizeLine/\k=((y.length:Int) != 0)
 | .iT y=>y.size<=sizeLine/\k=((y.size:Int) != 0)
 | .ref p=>(∃ xs,Dr K H p xs/\k = !xs.isEmpty)\/(∃ xs,Fs K H p xs/\k = !xs.isEmpty)\/∃ kvs,H p=some (.dK kvs)/\k = !kvs.isEmpty
 |_=>False
theorem SH {κ:Type}{kvs:List (κ×V)}{vs:List (κ×Value)}(r:KV kvs vs):(!vs.isEmpty) = !kvs.isEmpty:=by
 cases r<;>rfl
theorem Mm {xs:List V}{aa:List Value}(r:Vals xs aa):(!aa.toArray.isEmpty) = !xs.isEmpty:=by
 cases r<;>simp
theorem Kl:(sizeLine:Nat) < 2 ^ 63:=by rw[sizeLine_eq];decide
theorem jT:sO X (fun x H Q=>∃ k,oR X.K x H k/\Q k H):=by
 intro pins s σ H x v Q I rx h
 obtain⟨k,e,q⟩:=h
 have hl:=Kl
 have hs:sizeLine=16777216:=sizeLine_eq
 cases x with
 |AA =>
  cases rx
  have e':k=false:=e
  subst e'
  exact truthy_none ⟨H,I,q⟩
 |bl b =>
  cases rx
  have e':k=b:=e
  subst e'
  exact wpAny_truthy_bool ⟨H,I,q⟩
 |int i =>
  obtain⟨t,rfl⟩:=rx
  have e':k=(i != 0):=e
  subst e'
  exact PySem.P.truthy_int ⟨H,I,q⟩
 |str y =>
  obtain⟨t,rfl⟩:=rx
  obtain⟨hy,e'⟩:y.length<=sizeLine/\k=((y.length:Int) != 0):=e
  subst e'
  exact PySem.P.truthy_str (by omega) ⟨H,I.tok _,q⟩
 |iT y =>
  obtain⟨t,rfl⟩:=rx
  obtain⟨hy,e'⟩:y.size<=sizeLine/\k=((y.size:Int) != 0):=e
  subst e'
  exact PySem.W.truthy_bytes (by omega) ⟨H,I.tok _,q⟩
 |ref p =>
  cases rx
  have e':(∃ xs,Dr X.K H p xs/\k = !xs.isEmpty)\/(∃ xs,Fs X.K H p xs/\k = !xs.isEmpty)\/∃ kvs,H p=some (.dK kvs)/\k = !kvs.isEmpty:=e
  rcases e' with ⟨xs,hx,e'⟩|⟨xs,hx,e'⟩|⟨kvs,hx,e'⟩
  ·subst e'
   obtain⟨aa,r,pl,hz⟩:=I.list hx
   have hlen:=r.length
   exact wpAny_truthy_list pl.isList (by simp only[zi];omega) ⟨H,I.tok _,by rw[Mm r];exact q⟩
  ·subst e'
   obtain⟨aa,r,pl,hz⟩:=I.tuple hx
   have hlen:=r.length
   exact truthy_tuple pl (by simp only[zi];omega) ⟨H,I.tok _,by rw[Mm r];exact q⟩
  ·subst e'
   obtain⟨hz,hS,vs,r,m⟩:kvs.length<=sizeLine/\(p == sysModules)=false/\∃ vs,KV kvs vs/\s.heap.DictOf (B6 X.prog X.w) p vs:=I.Av p _ hx
   have hlen:kvs.length=vs.length:=Paired.length r
   exact wpAny_truthy_dict hS m (by omega) ⟨H,I.tok _,by rw[SH r];exact q⟩
 |_=>exact (show False from e).elim
theorem Xa (ha:PE X a ta) (he:∀ whole,isTrue a X.env whole=(do let v <-whole;standAt a.pos;holding [v] (truthy v))) :
 PT X a (fun σ H Q=>ta σ H fun x H'=>∃ k,oR X.K x H' k/\Q k H'):=by
 intro pins s σ H Q I h
 exact isTrue_plain (Be (ha pins s σ H _ I h) fun v s1 ⟨x,H1,I1,r1,q1⟩=>jT pins s1 σ H1 x v Q I1 r1 q1) (he _)
theorem vals1 {x:V}{us:List Value}(r:Vals [x] us):∃ u,us=[u]/\RelV x u:=by
 cases r with
 |cons r1 r2=>cases r2;exact⟨_,rfl,r1⟩
theorem Vw:Gu X (.type "int") (fun xs H Q=>(∃ i,xs=[.int i]/\Q (.int i) H)\/∃ k,xs=[.bl k]/\Q (.int (if k then 1 else 0)) H):=by
 intro pins s σ H xs us Q I r h
 rcases h with ⟨i,rfl,q⟩|⟨k,rfl,q⟩
 ·obtain⟨u,rfl,t,rfl⟩:=vals1 r
  exact call_int_int ⟨.int i,H,I,⟨_,rfl⟩,q⟩
 ·obtain⟨u,rfl,r1⟩:=vals1 r
  cases r1
  exact call_int_bool ⟨.int (if k then 1 else 0),H,I.tok _,⟨_,rfl⟩,q⟩
end
structure SI (h:Heap) (x dx C:Addr) (mA:Str->Option Value):Prop where
 obj:h.get? x=some (zam C dx)
 ns:h.Ns1 dx mA
 ne:dx≠x
theorem Vx {h:Heap}{dx:Addr}{mA:Str->Option Value}(n:h.Ns1 dx mA):∃ od,h.get? dx=some od/\∀ name,PySem.W.lookIn name od=some (mA name):=by
 obtain⟨o,es,ep,ho,hd,hk,_,hm⟩:=n
 refine⟨o,ho,fun name=>?_⟩
 have e:=hm name
 unfold nsFind findBy at e
 rw[<-Array.find?_toList] at e
 unfold PySem.W.lookIn
 rw[hd]
 dsimp only
 split
 ·rename_i y q
  rw[q] at e
  exact congrArg some e
 ·rename_i q
  rw[q] at e
  have a:es.toList.any (·.refKey)=false:=by
   rw[List.any_eq_false]
   intro y hy
   obtain⟨z,t,mt⟩:=hk y (Array.mem_toList_iff.mp hy)
   simp[DictEntry.refKey,mt]
  have a':¬ es.toList.any (·.refKey)=true:=by rw[a];exact zM
  rw[if_neg a']
  exact congrArg some e
theorem SI.look {h:Heap}{x dx C:Addr}{mA:Str->Option Value}(I:SI h x dx C mA):∃ od,PySem.W.InstAt h x (zam C dx) C (some od)/\∀ name,PySem.W.lookIn name od=some (mA name) :=
 let ⟨od,ho,hl⟩:=Vx I.ns
 ⟨od,⟨I.obj,rfl,rfl,ho⟩,hl⟩
section
variable {prog:Program}{w:World}{A:Around}{E:Value->Shared->Prop}{s:Shared}{K:za}{x dx C f:Addr}{mA:Str->Option Value}{name:Str}{v:Value}
theorem get_map {expr:Bool}{Q:Value->Shared->Prop}(X:K.In s.heap) (I:SI s.heap x dx C mA) (hg:zb9 K C name=true) (hh:PySem.W.hasDictIn K C=true)
 (ha:zl K (.ref C) name=some none) (hv:mA name=some v) (vQ:PySem.W.handedIn v=true) (h:Q v { s with toks:=s.toks + 1 }) :
 wpAny (model prog w) A (getAttr (.ref x) name expr) Q E s:=by
 obtain⟨od,J,hl⟩:=I.look
 exact PySem.W.get_value X J (PySem.W.plainGet_of hg).1 (PySem.W.findObj_own hh ha rfl (by rw[hl,hv])) vQ h
theorem Xb {pl:Sem Bool}{Q:Value×List Value->Shared->Prop}(X:K.In s.heap) (I:SI s.heap x dx C mA) (hg:zb9 K C name=true)
 (hf:zl K (.ref C) name=some (some (.ref f))) (ht:zba K (.ref f)=true) (hv:mA name=none) (h:Q (.ref f,[.ref x]) s) :
 wpAny (model prog w) A (getMethod (.ref x) name pl) Q E s:=by
 obtain⟨od,J,hl⟩:=I.look
 exact PySem.W.method_fn X J (PySem.W.plainGet_of hg).1 (PySem.W.plainGet_of hg).2 hf (beq_iff_eq.mp ht) (by show (PySem.W.lookIn name od).map (·.isSome)=some false;rw[hl,hv];rfl) h
theorem ZC {ns:List Str}{Q:Unit->Shared->Prop}(X:K.In s.heap) (I:SI s.heap x dx C mA)
 (hs:zl K (.ref C) "__setattr__" = some (some (.builtin "object.__setattr__"))) (hp:PySem.W.plainOver K C=true) (ht:PySem.W.takerIn K C name=some none) (hh:PySem.W.hasDictIn K C=true)
 (hw:PySem.Within mA ns) (hsz:ns.length<=sizeLine)
 (h:∀ h',SI h' x dx C (fun y=>if y=name then some v else mA y)->zb4 dx s.heap h'->Q () { s with heap:=h',toks:=s.toks + 2 }) :
 wpAny (model prog w) A (setAttr (.ref x) name v) Q E s:=by
 obtain⟨od,J,hl⟩:=I.look
 refine PySem.W.set_plain X J hs (PySem.W.osa_open (s:={ s with toks:=s.toks + 1 }) (r:=none) X J hp ht fun b=>?_)
 obtain⟨cd,hc,bO⟩:=PySem.W.any_some hh
 have hx:s.heap.get? x=some ⟨.ref C,some dx,.plain,#[]⟩:=I.obj
 refine wpAny_bind (wpAny_pure (wpAny_bind (wpAny_bind (wpAny_loadPart hx (wpAny_bind (PySem.W.Looks.here (s:={ s with toks:=s.toks + 1 }) (PySem.W.looks_clsIn X hc) ?_))))))
 rw[bO]
 refine wpAny_pure (a:=some dx) (wpAny_bind (wpAny_pure (wpAny_bind ?_)))
 refine wpAny_nsSet1 (s:={ s with toks:=s.toks + 1 }) I.ns fun h' aJ bh=>?_
 obtain⟨oD,yw,yx,vR,vS,vT⟩:=aJ.count (PySem.Within.cons name v hw)
 refine wpAny_bind (wpAny_lookBehind vR (by rw[vS];exact pastItsLine_dict (yU vT (by rw[zp];omega))) ?_)
 exact wpAny_pure (h _ ⟨(bh.2 _ (yL I.ne)).trans I.obj,aJ,I.ne⟩ bh)
theorem Xc {R:Result->Shared->Prop}{vs:List Value}{kw:List (Str×Value)}(X:K.In s.heap) (hm:PySem.W.makesIn K C=true)
 (hi:zl K (.ref C) "__init__" = some (some (.ref f))) (hf:PySem.W.typeIn K (.ref f)=some (.type "function"))
 (h:codeAny (model prog w) (A.under (.builtin "type.__call__" ⟨.ref C::vs,kw⟩)) (.call (.ref f) ⟨.ref (s.heap.objs.size + 1)::vs,kw⟩) (PySem.W.InitBack (s.heap.objs.size + 1) R)
  { s with heap:=(s.heap.push za4).push (zam C s.heap.objs.size) }) :
 codeAny (model prog w) A (.call (.ref C) ⟨vs,kw⟩) R s:=by
 obtain⟨hh,g,d,t,os⟩:=s
 exact PySem.W.make_core (PySem.W.makes_of X hm) (PySem.W.looks_findIn X hi) (fun self=>PySem.W.bind_fn X self hf) (.inl rfl) h
end
noncomputable def E6 (f:Str) (v:V):List (Str×V)->List (Str×V)
 |[]=>[(f,v)]
 |(g,x)::r=>if g=f then (g,v)::r else (g,x)::E6 f v r
theorem L5 (f g:Str) (v:V):∀ fs:List (Str×V),(E6 f v fs).lookup g=if g=f then some v else fs.lookup g
 |[]=>by
  show List.lookup g [(f,v)]=_
  by_cases h:g=f
  ·have hb:(g == f)=true:=beq_iff_eq.mpr h
   simp only[List.lookup,hb,if_pos h]
  ·have hb:(g == f)=false:=beq_eq_false_iff_ne.mpr h
   simp only[List.lookup,hb,if_neg h]
 |(k,x)::r=>by
  have ih:=L5 f g v r
  rw[show E6 f v ((k,x)::r)=(if k=f then (k,v)::r else (k,x)::E6 f v r) from rfl]
  by_cases hk:k=f
  ·rw[if_pos hk]
   by_cases h:g=k
   ·have hb:(g == k)=true:=beq_iff_eq.mpr h
    simp only[List.lookup,hb,if_pos (h.trans hk)]
   ·have hb:(g == k)=false:=beq_eq_false_iff_ne.mpr h
    simp only[List.lookup,hb,if_neg (fun e:g=f=>h (e.trans hk.symm))]
  ·rw[if_neg hk]
   by_cases h:g=k
   ·have hb:(g == k)=true:=beq_iff_eq.mpr h
    simp only[List.lookup,hb,if_neg (fun e:g=f=>hk (h.symm.trans e))]
   ·have hb:(g == k)=false:=beq_eq_false_iff_ne.mpr h
    simp only[List.lookup,hb]
    exact ih
theorem Km (f:Str) (v:V):∀ fs:List (Str×V),f∈(E6 f v fs).map (·.1)/\∀ g,g∈fs.map (·.1)->g∈(E6 f v fs).map (·.1)
 |[]=>⟨by simp[E6],fun g h=>by simp at h⟩
 |(k,x)::r=>by
  obtain⟨i1,i2⟩:=Km f v r
  rw[show E6 f v ((k,x)::r)=(if k=f then (k,v)::r else (k,x)::E6 f v r) from rfl]
  by_cases hk:k=f
  ·rw[if_pos hk]
   subst hk
   exact⟨by simp,fun g h=>by simpa using h⟩
  ·rw[if_neg hk]
   refine⟨?_,fun g h=>?_⟩
   ·rw[zg]
    exact zf _ i1
   ·rw[zg] at h ⊢
    rcases zu.mp h with e|e
    ·exact zu.mpr (.inl e)
    ·exact zf _ (i2 g e)
theorem L6 (f:Str) (v:V):∀ fs:List (Str×V),(E6 f v fs).length<=fs.length + 1
 |[]=>by simp[E6]
 |(k,x)::r=>by
  have ih:=L6 f v r
  rw[show E6 f v ((k,x)::r)=(if k=f then (k,v)::r else (k,x)::E6 f v r) from rfl]
  by_cases hk:k=f
  ·rw[if_pos hk,zp,zp];omega
  ·rw[if_neg hk,zp,zp];omega
theorem Gj.some_of {v:V}{o:Option Value}(r:Gj (some v) o):∃ u,o=some u/\RelV v u:=by
 cases o with
 |none=>exact (show False from r).elim
 |some u=>exact⟨u,rfl,r⟩
theorem Gj.none_of {o:Option Value}(r:Gj none o):o=none:=by
 cases o with
 |none=>rfl
 |some u=>exact (show False from r).elim
theorem Vy {v:V}{u:Value}(r:RelV v u):PySem.W.handedIn u=true:=by
 cases v with
 |AA=>cases (show u=Value.none from r);rfl
 |bl b=>cases (show u=Value.bool b from r);rfl
 |int i=>obtain⟨t,e⟩:=(show ∃ t,u=Value.int i t from r);cases e;rfl
 |str x=>obtain⟨t,e⟩:=(show ∃ t,u=Value.str x t from r);cases e;rfl
 |iT b=>obtain⟨t,e⟩:=(show ∃ t,u=Value.bytes b t from r);cases e;rfl
 |nT b=>obtain⟨t,e⟩:=(show ∃ t,u=Value.float b t from r);cases e;rfl
 |ref a=>cases (show u=yN a from r);rfl
 |ty n=>cases (show u=Value.type n from r);rfl
section
variable {P:Program}{w:World}{H H':Hp}{h h':Heap}{a C dx:Addr}{fs cj:List (Str×V)}
theorem Pp (Av:Fq P w H h) (e:H a=some (.ins C dx fs)):∃ mA,SI h a dx C mA/\(∀ f,Gj (fs.lookup f) (mA f))/\PySem.Within mA (fs.map (·.1))/\fs.length<=1000/\H dx=some (.own a):=by
 obtain⟨d,z,ne,ob,mA,n,r,q⟩:=(show BD P w H h a (.ins C dx fs) from Av a _ e)
 exact⟨mA,⟨ob,n,ne⟩,r,q,z,d⟩
end
structure Vz (K:za) (C:Addr):Prop where
 pg:zb9 K C Str.empty=true
 hd:PySem.W.hasDictIn K C=true
 po:PySem.W.plainOver K C=true
 sa:zl K (.ref C) "__setattr__" = some (some (.builtin "object.__setattr__"))
theorem Vz.get {K:za}{C:Addr}(c:Vz K C) (f:Str):zb9 K C f=true:=c.pg
noncomputable def Ip (K:za) (C:Addr) (f:Str):Prop:=zl K (.ref C) f=some none
theorem Ip.oS {K:za}{C:Addr}{f:Str}(n:Ip K C f):PySem.W.takerIn K C f=some none:=by
 unfold PySem.W.takerIn
 rw[show zl K (.ref C) f=some none from n]
 rfl
structure Meth (K:za) (C:Addr) (m:Str) (f:Addr):Prop where
 at_:zl K (.ref C) m=some (some (.ref f))
 fn:zba K (.ref f)=true
 kp:zR K (.ref f)=true
section
variable {X:Cx}{pins:List (Addr×Obj)}{σ:St}{H:Hp}{s:Shared}{a C dx:Addr}{fs:List (Str×V)}{f:Str}{v:V}{A:Around}{E:Value->Shared->Prop}
theorem SJ {b:Bool}{Q:Value->Shared->Prop}(I:Inv X pins σ H s) (e:H a=some (.ins C dx fs)) (c:Vz X.K C) (n:Ip X.K C f) (l:fs.lookup f=some v)
 (h:∀ u s',Inv X pins σ H s'->RelV v u->Q u s'):wpAny (model X.prog X.w) A (getAttr (.ref a) f b) Q E s:=by
 obtain⟨mA,O,r,_,_,_⟩:=Pp I.Av e
 obtain⟨u,hu,ru⟩:=Gj.some_of (v:=v) (o:=mA f) (by rw[<-l];exact r f)
 exact get_map I.NQ O (c.get f) c.hd n hu (Vy ru) (h u _ (I.tok _) ru)
theorem Mn {m:Str}{g:Addr}{pl:Sem Bool}{Q:Value×List Value->Shared->Prop}(I:Inv X pins σ H s) (e:H a=some (.ins C dx fs)) (c:Vz X.K C) (k:Meth X.K C m g) (l:fs.lookup m=none)
 (h:Q (.ref g,[.ref a]) s):wpAny (model X.prog X.w) A (getMethod (.ref a) m pl) Q E s:=by
 obtain⟨mA,O,r,_,_,_⟩:=Pp I.Av e
 have hn:mA m=none:=Gj.none_of (by rw[<-l];exact r m)
 exact Xb I.NQ O (c.get m) k.at_ k.fn hn h
theorem SK {y:V}{u:Value}{Q:Unit->Shared->Prop}(I:Inv X pins σ H s) (e:H a=some (.ins C dx fs)) (c:Vz X.K C) (n:Ip X.K C f) (hl:fs.length < 1000) (ry:RelV y u)
 (h:∀ s',Inv X pins σ (upd H a (.ins C dx (E6 f y fs))) s'->Q () s'):wpAny (model X.prog X.w) A (setAttr (.ref a) f u) Q E s:=by
 obtain⟨mA,O,r,wi,_,ho⟩:=Pp I.Av e
 have hz:(fs.map (·.1)).length<=sizeLine:=by rw[zc,sizeLine_eq];omega
 refine ZC I.NQ O c.sa c.po n.oS c.hd wi hz fun h' O' sb=>h _ ?_
 have hd:∃ o,h'.get? dx=some o:=let ⟨o,_,_,e',_⟩:=O'.ns;⟨o,e'⟩
 refine I.write (x:=a) (e:=dx) (by rw[e];exact zax) (.inr ho) (fun b q hb z=>(sb.2 b hb).trans z) hd ?_
 refine⟨by rw[Ah O.ne];exact ho,?_,O.ne,O'.obj,_,O'.ns,fun g=>?_,fun g hg=>?_⟩
 ·have:=L6 f y fs;omega
 ·show Gj ((E6 f y fs).lookup g) (if g=f then some u else mA g)
  rw[L5]
  by_cases q:g=f
  ·rw[if_pos q,if_pos q];exact ry
  ·rw[if_neg q,if_neg q];exact r g
 ·by_cases q:g=f
  ·rw[q];exact (Km f y fs).1
  ·refine (Km f y fs).2 g (wi g fun z=>hg ?_)
   show (if g=f then some u else mA g)=none
   rw[if_neg q];exact z
theorem Inv.made (I:Inv X pins σ H s):Inv X pins σ (upd (upd H s.heap.objs.size (.own (s.heap.objs.size + 1))) (s.heap.objs.size + 1) (.ins C s.heap.objs.size []))
 { s with heap:=(s.heap.push za4).push (zam C s.heap.objs.size) }:=by
 have e1:(s.heap.push za4).get? s.heap.objs.size=some za4:=zI s.heap rfl
 have e2:((s.heap.push za4).push (zam C s.heap.objs.size)).get? (s.heap.objs.size + 1)=some (zam C s.heap.objs.size):=by
  have:=zI (s.heap.push za4) (o:=zam C s.heap.objs.size) rfl
  rwa[Heap.size_push] at this
 have e3:(s.heap.push za4).Ns s.heap.objs.size (fun _=>none):=⟨za4,#[],_,e1,rfl,(fun e he=>absurd he (by simp)),fun _=>rfl⟩
 have I1:=I.laid (a:=s.heap.objs.size) (o:=.own (s.heap.objs.size + 1)) (h':=s.heap.push za4) (t':=s.toks) (fun b u q=>zr _ q) (zB _) ⟨_,e1⟩
 refine I1.laid (a:=s.heap.objs.size + 1) (o:=.ins C s.heap.objs.size []) (t':=s.toks) (fun b u q=>zr _ q) (Nat.le_of_eq (Heap.size_push _ _)) ?_
 have ne:s.heap.objs.size≠s.heap.objs.size + 1:=zG (Nat.lt_succ_self _)
 refine⟨by rw[Ah ne,Ar],zW _,ne,e2,fun _=>none,(Heap.Ns1.of_empty e3).at fun o q=>zr _ q,fun _=>zax,fun y hy=>absurd rfl hy⟩
theorem ZD {prog:Program}{w:World}{env:Env}{e:Expr}{f:Str}{pos:Pos}{s:Shared}{Q:Value->Shared->Prop}(hb:attributeBase e f env (eval e env)=eval e env)
 (h:wpAny (model prog w) A (eval e env) (fun o s₁=>wpAny (model prog w) A (getAttr o f true) Q E s₁) E s):wpAny (model prog w) A (eval (.Attribute e f pos) env) Q E s :=
 Attribute_any_ h (by rw[arm_eval_Attribute,hb])
end
noncomputable def sP (K:za) (ta:TE) (f:Str):TE:=fun σ H Q=>ta σ H fun x H1=>∃ a C dx fs v,x=.ref a/\H1 a=some (.ins C dx fs)/\Vz K C/\Ip K C f/\fs.lookup f=some v/\Q v H1
noncomputable def sQ (K:za) (ta tv:TE) (f:Str):TS:=fun D σ H=>tv σ H fun y H1=>ta σ H1 fun x H2=>∃ a C dx fs,x=.ref a/\H2 a=some (.ins C dx fs)/\Vz K C/\Ip K C f/\fs.length < 1000 /\
 D.nx σ (upd H2 a (.ins C dx (E6 f y fs)))
section
variable {X:Cx}{o e value:Expr}{f:Str}{pos pos' bE:Pos}{ta tv:TE}
theorem jU (he:PE X e ta) (hb:attributeBase e f X.env (eval e X.env)=eval e X.env):PE X (.Attribute e f pos) (sP X.K ta f):=by
 intro pins s σ H Q I h
 refine ZD hb (Be (he pins s σ H _ I h) fun u s1 ⟨x,H1,I1,rx,a,C,dx,fs,v,ex,ea,c,n,l,q⟩=>?_)
 subst ex
 obtain rfl:u=yN a:=rx
 exact SJ I1 ea c n l fun u' s2 I2 ru=>⟨v,H1,I2,ru,q⟩
theorem jV (ha:PE X o ta) (hv:PE X value tv) (hs:swapsWith value (some (.Attribute o f pos')) pos.line X.env=pure false):PS X (.Assign [.Attribute o f pos'] value pos) (sQ X.K ta tv f):=by
 intro pins s σ H D I h
 refine plainObj_wpAny_Assign_Attribute (Be (hv pins s σ H _ I h) fun u s1 ⟨y,H1,I1,ry,q⟩=>Be (ha pins s1 σ H1 _ I1 q) fun ov s2 ⟨x,H2,I2,rx,a,C,dx,fs,ex,ea,c,n,l,q2⟩=>?_) hs
 subst ex
 obtain rfl:ov=yN a:=rx
 exact SK I2 ea c n l ry fun s3 I3=>⟨σ,_,I3,q2⟩
end
structure BH (k:Nat) (A:Around):Prop where
 hd:A.handled=none
 dp:A.depth + 3 * k + 5 < recursionLimit
 un:A.units + 16 * k + 200 < cLine
theorem BH.mono {j k:Nat}{A:Around}(r:BH k A) (h:j<=k):BH j A:=⟨r.hd,by have:=r.dp;omega,by have:=r.un;omega⟩
theorem BH.deeper {k:Nat}{A:Around}(r:BH (k + 1) A) (env:Env):BH k (A.deeper env) :=
 ⟨r.hd,by have:=r.dp;show A.depth + 1 + 3 * k + 5 < _;omega,by have:=r.un;show A.units + 3 + 16 * k + 200 < _;omega⟩
theorem SM {A:Around}{C:Addr}{us:List Value}{kw:List (Str×Value)}:(A.under (.builtin "type.__call__" ⟨.ref C::us,kw⟩)).depth=A.depth + 1:=by
 first|rfl|simp[Around.under,Code.weight,Code.isCreation,Code.isGuard,Code.isCaller,Code.frames,Code.isFrame,guardIds]
theorem SN {A:Around}{C:Addr}{us:List Value}{kw:List (Str×Value)}:(A.under (.builtin "type.__call__" ⟨.ref C::us,kw⟩)).units=A.units + 1:=by
 first|rfl|simp[Around.under,Code.cUnits,Code.frames,Code.isFrame]
theorem BH.make {k:Nat}{A:Around}(r:BH (k + 1) A) (C:Addr) (us:List Value) (kw:List (Str×Value)):BH k (A.under (.builtin "type.__call__" ⟨.ref C::us,kw⟩)) :=
 ⟨r.hd,by have:=r.dp;rw[SM];omega,by have:=r.un;rw[SN];omega⟩
theorem BH.depth {k:Nat}{A:Around}(r:BH k A):A.depth < recursionLimit:=by have:=r.dp;omega
theorem BH.units {k:Nat}{A:Around}(r:BH k A):A.units + 64 < cLine:=by have:=r.un;omega
noncomputable def jW:TA:=fun _ H Q=>Q [] H
noncomputable def gR (ta:TE) (tr:TA):TA:=fun σ H Q=>ta σ H fun x H1=>tr σ H1 fun xs H2=>Q (x::xs) H2
section
variable {X:Cx}{e:Expr}{es:List Expr}{te:TE}{t:TA}{pos:Pos}
theorem Cj:PA X [] jW:=fun _ _ _ _ H Q I h=>zb5 ⟨[],H,I,.nil,h⟩
theorem Bh (ha:PE X e te) (hr:PA X es t) (hs:starEach (e::es) X.env=(false,eval e X.env)::starEach es X.env:=by rfl):PA X (e::es) (gR te t):=by
 intro pos pins s σ H Q I h
 rw[hs]
 show wpAny _ _ (spliced ((false,eval e X.env)::backTo pos (starEach es X.env))) _ _ s
 refine zaz (Be (ha pins s σ H _ I h) fun u s1 ⟨x,H1,I1,r1,q1⟩=>?_)
 exact Be (hr pos pins s1 σ H1 _ I1 q1) fun us s2 ⟨xs,H2,I2,r2,q2⟩=>⟨x::xs,H2,I2,.cons r1 r2,q2⟩
noncomputable def sR (t:TA):TE:=fun σ H Q=>t σ H fun xs H1=>xs.length<=sizeLine/\∀ p,H1 p=none->Q (.ref p) (upd H1 p (.tup xs))
noncomputable def sS (t:TA):TE:=fun σ H Q=>t σ H fun xs H1=>xs.length<=sizeLine/\∀ p,H1 p=none->Q (.ref p) (upd H1 p (.lst xs))
theorem Xd {x1}(h:PA X es t):PE X (.Tuple es x1 pos) (sR t):=by
 intro pins s σ H Q I hq
 refine wpAny_Tuple_spliced (Be (h pos pins s σ H _ I hq) fun us s1 ⟨xs,H1,I1,r,z,q⟩=>⟨by rw[<-r.length];exact z,?_⟩)
 have hf:H1 s1.heap.objs.size=none:=I1.Av.fresh (zB _)
 refine⟨.ref s1.heap.objs.size,upd H1 s1.heap.objs.size (.tup xs),I1.laid (t':=s1.toks) (fun b u e=>zr _ e) (zB _) ?_,rfl,q _ hf⟩
 exact⟨z,us,r,⟨_,zI _ rfl,rfl,_,rfl⟩⟩
theorem Pq (h:PA X es t):PE X (.List es pos) (sS t):=by
 intro pins s σ H Q I hq
 refine wpAny_List_spliced (Be (h pos pins s σ H _ I hq) fun us s1 ⟨xs,H1,I1,r,z,q⟩=>⟨by rw[<-r.length];exact z,?_⟩)
 have hf:H1 s1.heap.objs.size=none:=I1.Av.fresh (zB _)
 refine⟨.ref s1.heap.objs.size,upd H1 s1.heap.objs.size (.lst xs),I1.laid (t':=s1.toks) (fun b u e=>zr _ e) (zB _) ?_,rfl,q _ hf⟩
 exact⟨z,us,0,r,zI _ rfl⟩
end
noncomputable abbrev Sp:=List V->Hp->VK->XK->Prop
noncomputable abbrev Ud:=List Env->Hp->Shared->XK->Value->Shared->Prop
structure SO (P:Program) (w:World) (K:za) (mg:Str->Option Value) (base:Heap) (A:Around) (outer:List Env) (s:Shared) (H:Hp):Prop where
 frames:A.frames=some outer
 mod:Mod K mg base
 bs:∀ b o,base.get? b=some o->s.heap.get? b=some o/\H b=none
 Zr:base.objs.size<=s.heap.objs.size
 J0:s.heap.FunFrames base outer
 iV:∀ b∈L4 outer,H b=none
 Av:Fq P w H s.heap
 bare:AllBare s.gens
noncomputable def CE (outer:List Env) (P:Program) (w:World) (H:Hp) (s:Shared) (Q:VK) (u:Value) (s':Shared):Prop :=
 ∃ v H',s'.os=s.os/\AllBare s'.gens/\Un (L4 outer) [] H H' s.heap s'.heap/\Fq P w H' s'.heap/\RelV v u/\Q v H'
noncomputable def CR (CX:Ud) (outer:List Env) (P:Program) (w:World) (H:Hp) (s:Shared) (Q:VK) (E:XK) (r:Result) (s':Shared):Prop :=
 match r with
 | .ok (.ret u)=>CE outer P w H s Q u s'
 | .ok _=>False
 | .error e=>CX outer H s E e s'
structure Ds (P:Program) (w:World) (K:za) (mg:Str->Option Value) (base:Heap) (CX:Ud) (k:Nat) (f:Addr) (fd:FuncData) (ps:List Str) (sp:Sp):Prop where
 len:∀ vs H Q E,sp vs H Q E->vs.length=ps.length
 run:∀(A:Around) (outer:List Env) (s:Shared) (H:Hp) (args:Args) (us:List Value) (vs:List V) (Q:VK) (E:XK),BH k A->SO P w K mg base A outer s H->BindsTo s fd args (ps.zip us)->Vals vs us->sp vs H Q E->
  codeAny (model P w) A (.call (.ref f) args) (CR CX outer P w H s Q E) s
theorem SO.make {P:Program}{w:World}{K:za}{mg:Str->Option Value}{base:Heap}{A:Around}{outer:List Env}{s:Shared}{H:Hp}(e:SO P w K mg base A outer s H) (C:Addr) (us:List Value) (kw:List (Str×Value)) :
 SO P w K mg base (A.under (.builtin "type.__call__" ⟨.ref C::us,kw⟩)) outer s H:=⟨by first|exact e.frames|(simpa [Around.under,Code.envs,Code.isFrame,pushEnvs] using e.frames),e.mod,e.bs,e.Zr,e.J0,e.iV,e.Av,e.bare⟩
section
variable {X:Cx}{pins:List (Addr×Obj)}{σ:St}{H:Hp}{s s':Shared}
theorem Inv.oU (I:Inv X pins σ H s):SO X.prog X.w X.K X.mg X.base X.A X.stack s H :=
 ⟨I.ok.frames,I.ok.mod,I.bs,yU I.ok.Zr I.sz,I.stack,I.Pm,I.Av,I.bare⟩
theorem Inv.after {Q:VK}{u:Value}(I:Inv X pins σ H s) (h:CE X.stack X.prog X.w H s Q u s'):EP X pins σ Q u s':=by
 obtain⟨v,H',os,bare,un,Av,r,q⟩:=h
 obtain⟨hh,g,d,t,vU⟩:=s'
 obtain rfl:vU=s.os:=os
 exact⟨v,H',I.call (h':=hh) (g':=g) (d':=d) (t':=t) (ch:=[]) un Av bare (fun b z=>absurd z (by simp)),r,q⟩
end
noncomputable def oV (sp:Sp) (bF:List V) (E:XK) (t:TA):TE:=fun σ H Q=>t σ H fun vs H1=>sp (vs++bF) H1 Q E
noncomputable def oW (C:Addr) (sp:Sp) (bF:List V) (E:XK) (t:TA):TE:=fun σ H Q=>t σ H fun vs H1=>∀ x dx,H1 x=none->H1 dx=none->dx≠x->
 sp (.ref x::(vs++bF)) (upd (upd H1 dx (.own x)) x (.ins C dx [])) (fun v H2=>v=.AA/\Q (.ref x) H2) E
noncomputable def Binds (K:za) (fd:FuncData) (ps:List Str) (ds:List Value):Prop :=
 ∀(s:Shared) (us:List Value),K.In s.heap->(us++ds).length=ps.length->BindsTo s fd ⟨us,[]⟩ (ps.zip (us++ds))
theorem Binds.all {K:za}{fd:FuncData}{ps:List Str}(h:∀ us:List Value,us.length=ps.length->bindArgs fd ⟨us,[]⟩=pure (ps.zip us)):Binds K fd ps []:=fun s us _ hl=>by
 rw[yW] at hl ⊢
 exact .of_eq (h us hl)
noncomputable def Gv (CX:Ud) (X:Cx) (E:XK):Prop:=∀(pins:List (Addr×Obj)) (σ:St) (H:Hp) (s:Shared) (e:Value) (s':Shared),Inv X pins σ H s->CX X.stack H s E e s'->X.xe e s'
section
variable {X:Cx}{CX:Ud}{k:Nat}{f C:Addr}{fd:FuncData}{ps:List Str}{sp:Sp}{bF:List V}{ds:List Value}{E:XK}{x m:Str}{p pos apos:Pos}{e o:Expr}{es:List Expr}{ta:TE}{t:TA}
theorem SQ {pins:List (Addr×Obj)}{σ:St}{H:Hp}{s:Shared}{Q:VK}{us:List Value}{vs:List V}(F:Ds X.prog X.w X.K X.mg X.base CX k f fd ps sp) (hr:BH k X.A) (hb:Binds X.K fd ps ds) (hd:Vals bF ds) (hx:Gv CX X E)
 (I:Inv X pins σ H s) (r:Vals vs us) (h:sp (vs++bF) H Q E):wpAny (model X.prog X.w) X.A (call (.ref f) us) (EP X pins σ Q) X.xe s:=by
 have r2:Vals (vs++bF) (us++ds):=r.append hd
 have hl:(us++ds).length=ps.length:=by rw[<-r2.length];exact F.len _ _ _ _ h
 refine wpAny_call (codeAny_mono (F.run X.A X.stack s H ⟨us,[]⟩ (us++ds) (vs++bF) Q E hr I.oU (hb s us I.NQ hl) r2 h) fun r s' hq=>?_)
 cases r with
 |error e=>exact hx pins σ H s e s' I hq
 |ok fl =>
  cases fl with
  |ret u=>exact I.after hq
  |next=>exact zao hq
  |brk=>exact zao hq
  |cont=>exact zao hq
theorem Ue (F:Ds X.prog X.w X.K X.mg X.base CX k f fd ps sp) (hr:BH k X.A) (hg:Gl X x) (hm:X.mg x=some (.ref f)) (hk:zR X.K (.ref f)=true) (hb:Binds X.K fd ps ds) (hd:Vals bF ds) (hx:Gv CX X E)
 (ha:PA X (e::es) t) (aU:(x == ("__debug__" : Str))=false:=by decide) (he:starEach (e::es) X.env=(false,eval e X.env)::starEach es X.env:=by rfl) (a6:(backTo pos (starEach es X.env)).any (·.1)=false:=by rfl) :
 PE X (.Call (.Name x p) (e::es) [] pos) (oV sp bF E t):=by
 intro pins s σ H Q I h
 refine wpAny_Call_Name_kw (Pn I hg hm ?_ aU)
 refine PySem.W.callWith_K (h₀:=X.base) I.ok.mod.WJ hk (Be (ha pos pins s σ H _ I h) fun us s1 ⟨vs,H1,I1,r,q⟩=>⟨I1.NQ,?_⟩) he a6
 exact SQ F hr hb hd hx I1 r q
structure Mk (K:za) (C f:Addr):Prop where
 makes:PySem.W.makesIn K C=true
 init:zl K (.ref C) "__init__" = some (some (.ref f))
 fn:zba K (.ref f)=true
 kp:zR K (.ref C)=true
theorem Xe {pins:List (Addr×Obj)}{σ:St}{H:Hp}{s:Shared}{Q:VK}{us:List Value}{vs:List V}(M:Mk X.K C f) (F:Ds X.prog X.w X.K X.mg X.base CX k f fd ps sp) (hr:BH (k + 1) X.A) (hb:Binds X.K fd ps ds) (hd:Vals bF ds)
 (hx:Gv CX X E) (I:Inv X pins σ H s) (r:Vals vs us)
 (h:∀ x dx,H x=none->H dx=none->dx≠x->sp (.ref x::(vs++bF)) (upd (upd H dx (.own x)) x (.ins C dx [])) (fun v H2=>v=.AA/\Q (.ref x) H2) E) :
 wpAny (model X.prog X.w) X.A (call (.ref C) us) (EP X pins σ Q) X.xe s:=by
 have hq:=h (s.heap.objs.size + 1) s.heap.objs.size (I.Av.fresh (Nat.le_succ _)) (I.Av.fresh (zB _)) (zG (Nat.lt_succ_self _))
 have I2:=Inv.made (C:=C) I
 have r2:Vals (V.ref (s.heap.objs.size + 1)::(vs++bF)) (yN (s.heap.objs.size + 1)::(us++ds)):=.cons rfl (r.append hd)
 have hl:(yN (s.heap.objs.size + 1)::us++ds).length=ps.length:=by
  have e:=r2.length
  rw[F.len _ _ _ _ hq] at e
  exact e.symm
 refine wpAny_call (Xc (f:=f) I.NQ M.makes M.init (beq_iff_eq.mp M.fn) (codeAny_mono (F.run _ X.stack _ _ ⟨yN (s.heap.objs.size + 1)::us,[]⟩ (yN (s.heap.objs.size + 1)::(us++ds)) _ _ E (hr.make C us [])
  (I2.oU.make C us []) (hb _ (yN (s.heap.objs.size + 1)::us) I2.NQ hl) r2 hq) fun r s' ez=>?_))
 cases r with
 |error e=>exact hx pins σ _ _ e s' I2 ez
 |ok fl =>
  cases fl with
  |ret u =>
   obtain⟨v,H',I3,rv,ev,q3⟩:=I2.after ez
   subst ev
   exact⟨rv,⟨V.ref (s.heap.objs.size + 1),H',I3,rfl,q3⟩⟩
  |next=>exact zao ez
  |brk=>exact zao ez
  |cont=>exact zao ez
theorem Ug (M:Mk X.K C f) (F:Ds X.prog X.w X.K X.mg X.base CX k f fd ps sp) (hr:BH (k + 1) X.A) (hg:Gl X x) (hm:X.mg x=some (.ref C)) (hb:Binds X.K fd ps ds) (hd:Vals bF ds) (hx:Gv CX X E)
 (ha:PA X (e::es) t) (aU:(x == ("__debug__" : Str))=false:=by decide) (he:starEach (e::es) X.env=(false,eval e X.env)::starEach es X.env:=by rfl) (a6:(backTo pos (starEach es X.env)).any (·.1)=false:=by rfl) :
 PE X (.Call (.Name x p) (e::es) [] pos) (oW C sp bF E t):=by
 intro pins s σ H Q I h
 refine wpAny_Call_Name_kw (Pn I hg hm ?_ aU)
 refine PySem.W.callWith_K (h₀:=X.base) I.ok.mod.WJ M.kp (Be (ha pos pins s σ H _ I h) fun us s1 ⟨vs,H1,I1,r,q⟩=>⟨I1.NQ,?_⟩) he a6
 exact Xe M F hr hb hd hx I1 r q
end
noncomputable def PK (X:Cx) (iu:List Keyword) (t:TA):Prop :=
 ∀(pos:Pos) (pins:List (Addr×Obj)) (s:Shared) (σ:St) (H:Hp) (Q:List V->Hp->Prop),Inv X pins σ H s->t σ H Q->wpAny (model X.prog X.w) X.A (evalAll ((backToKw pos (keywordEach iu X.env)).map (·.2))) (AP X pins σ Q) X.xe s
section
variable {X:Cx}{CX:Ud}{k:Nat}{f C:Addr}{fd:FuncData}{ps ks:List Str}{sp:Sp}{E:XK}{x m:Str}{p pos apos mw:Pos}{e o:Expr}{es:List Expr}{iu:List Keyword}{te ta:TE}{t tk:TA}{nm:Option Str}
theorem jX:PK X [] jW:=fun _ _ _ _ H Q I h=>wpAny_evalAll_nil ⟨[],H,I,.nil,h⟩
theorem ZE (ha:PE X e te) (hr:PK X iu t):PK X (⟨nm,e,mw⟩::iu) (gR te t):=by
 intro pos pins s σ H Q I h
 show wpAny _ _ (evalAll ((do let v <-eval e X.env;standAt pos;pure v)::(backToKw pos (keywordEach iu X.env)).map (·.2))) _ _ s
 refine wpAny_evalAll_cons (wpAny_bind (Be (ha pins s σ H _ I h) fun u s1 ⟨x,H1,I1,r1,q1⟩=>wpAny_bind (wpAny_standAt (wpAny_pure ?_))))
 exact Be (hr pos pins s1 σ H1 _ I1 q1) fun us s2 ⟨xs,H2,I2,r2,q2⟩=>⟨x::xs,H2,I2,.cons r1 r2,q2⟩
variable {g:List Value->List Value->List Value}{gV:List V->List V->List V}
end
structure Ae (N P:List Str) (sc:Scope):Prop where
 kind:sc.kind=.function
 co:sc.isCoroutine=false
 gen:sc.isGenerator=false
 nd:N.Nodup
 pre:N.take P.length=P
 uD:∀ x∈P,sc.names.lookup x=some .local\/sc.names.lookup x=some .cell
 jY:∀ y∈sc.names,y.2≠.free
theorem Ol {kindOf:Str->Option NameKind}{x:Str}:∀ {binds:List (Str×Value)}{m:Str->Option Value},(∀ v,(x,v)∉binds)->bindL kindOf binds m x=m x
 |[],_,_=>rfl
 |(n,v)::r,m,h=>by
  unfold bindL
  rw[Ol fun w hw=>h w (zf _ hw)]
  split
  ·have:x≠n:=by rintro rfl;exact h v ze
   simp[this]
  ·rfl
theorem Om {kindOf:Str->Option NameKind}{x:Str}:∀ {binds:List (Str×Value)}{m:Str->Option Value},(∀ v,(x,v)∉binds)->bindC kindOf binds m x=m x
 |[],_,_=>rfl
 |(n,v)::r,m,h=>by
  unfold bindC
  rw[Om fun w hw=>h w (zf _ hw)]
  split
  ·rfl
  ·have:x≠n:=by rintro rfl;exact h v ze
   simp[this]
theorem Oo {kindOf:Str->Option NameKind}{x:Str}{v:Value}:∀ {P:List Str}{vs:List Value}{i:Nat}{m:Str->Option Value},P.Nodup->P[i]? =some x->vs[i]? =some v->kindOf x=some .local->
 bindL kindOf (P.zip vs) m x=some v
 |[],_,_,_,_,h,_,_=>by simp at h
 |_::_,[],_,_,_,_,h,_=>by simp at h
 |p::P,w::vs,0,m,nd,h1,h2,hk=>by
  simp at h1 h2;subst h1;subst h2
  show bindL kindOf ((p,w)::P.zip vs) m p=_
  unfold bindL
  rw[Ol fun v hv=>(yP.mp nd).1 (List.of_mem_zip hv).1,if_pos hk]
  simp
 |p::P,w::vs,i + 1,m,nd,h1,h2,hk=>by
  show bindL kindOf ((p,w)::P.zip vs) m x=_
  unfold bindL
  exact Oo (i:=i) (yP.mp nd).2 (by simpa using h1) (by simpa using h2) hk
theorem Oq {kindOf:Str->Option NameKind}{x:Str}{v:Value}:∀ {P:List Str}{vs:List Value}{i:Nat}{m:Str->Option Value},P.Nodup->P[i]? =some x->vs[i]? =some v->kindOf x≠some .local->
 bindC kindOf (P.zip vs) m x=some v
 |[],_,_,_,_,h,_,_=>by simp at h
 |_::_,[],_,_,_,_,h,_=>by simp at h
 |p::P,w::vs,0,m,nd,h1,h2,hk=>by
  simp at h1 h2;subst h1;subst h2
  show bindC kindOf ((p,w)::P.zip vs) m p=_
  unfold bindC
  rw[Om fun v hv=>(yP.mp nd).1 (List.of_mem_zip hv).1,if_neg hk]
  simp
 |p::P,w::vs,i + 1,m,nd,h1,h2,hk=>by
  show bindC kindOf ((p,w)::P.zip vs) m x=_
  unfold bindC
  exact Oq (i:=i) (yP.mp nd).2 (by simpa using h1) (by simpa using h2) hk
noncomputable def start (N:List Str) (vs:List V):St:=vs.map some++zw (N.length - vs.length) none
noncomputable def Lr (CX:Ud) (P:Program) (w:World) (K:za) (mg:Str->Option Value) (base:Heap) (N:List Str) (qual:Str) (scope:Scope) (f:Addr) (cd:Value) (A:Around) (outer:List Env) (s:Shared) (H:Hp) (E:XK):Cx where
 prog:=P
 w:=w
 K:=K
 mg:=mg
 base:=base
 A:=A.deeper (envOfC qual scope s.heap.objs.size f cd)
 N:=N
 s₀:=s
 H₀:=H
 env:=envOfC qual scope s.heap.objs.size f cd
 outer:=outer
 stack:=envOfC qual scope s.heap.objs.size f cd::outer
 ex:=[]
 calm:=true
 fn:=fun _=>true
 pn:=[]
 xe:=fun e s'=>wpAny (model P w) (A.deeper (envOfC qual scope s.heap.objs.size f cd)) (leaving (envOfC qual scope s.heap.objs.size f cd) e) (fun _ iw=>CX outer H s E e iw) (fun e' iw=>CX outer H s E e' iw) s'
theorem QR {sc:Scope}{n:Nat}{x:Str}(h:sc.names.lookup x=some .cell):∃ c,(cellsFrom n sc.names []).lookup x=some c:=by
 have q:=PySem.W.cellsFrom_some sc.names n [] (.inl h)
 exact zbe.mp q
theorem VA {CX:Ud}{P:Program}{w:World}{K:za}{mg:Str->Option Value}{base:Heap}{N ps:List Str}{qual:Str}{scope:Scope}{f:Addr}{cd:Value}{A:Around}{outer:List Env}{s s1:Shared}{H:Hp}{E:XK}{us:List Value}{vs:List V}
 (S:Ae N ps scope) (hd:A.handled=none) (e0:SO P w K mg base A outer s H) (hl:vs.length=ps.length) (r:Vals vs us)
 (x:InCallC s s.heap.objs.size (bindL (envOfC qual scope s.heap.objs.size f cd).kindOf (ps.zip us) fun _=>none) (cellsFrom (s.heap.objs.size + 1) scope.names []) (bindC (envOfC qual scope s.heap.objs.size f cd).kindOf (ps.zip us) fun _=>none) s1) :
 Inv (Lr CX P w K mg base N qual scope f cd A outer s H E) [] (start N vs) H s1:=by
 have a6:ps.length<=N.length:=by have:=congrArg List.length S.pre;rw[yY] at this;omega
 obtain⟨h1,tk,rfl,hk⟩:=x.done
 have ix:∀ b:Addr,b∉(Lr CX P w K mg base N qual scope f cd A outer s H E).ex:=fun b z=>absurd (show b∈([]:List Addr) from z) (by simp)
 refine⟨⟨e0.mod,S.kind,rfl,rfl,zB _,fun y z c h1 h2=>?_,fun y hy=>?_,fun y c _ h=>?_,fun _=>hd,Around.frames_deeper e0.frames,.inr ⟨rfl,rfl⟩,fun b z=>absurd z (ix b),e0.bs,e0.Zr,fun b _ _=>ix b,fun b z=>absurd z (ix b),e0.J0,e0.iV⟩,
  rfl,e0.bare,Un.kept hk,⟨_,x.toInCall.ns,fun i y v h1 h2 h3=>?_⟩,fun y c h=>⟨_,x.cell y c h⟩,e0.Av.fresh (zB _),fun y c h=>?_,fun p hp=>absurd (show p∈([]:List (Addr×Obj)) from hp) (by simp),e0.Av.kept hk,?_⟩
 ·exact name_of_addr x.apart (zbd h1) (zbd h2)
 ·have hy:scope.names.lookup y=some .cell\/scope.names.lookup y=some .free:=hy
  rcases hy with hy|hy
  ·exact QR hy
  ·exact absurd rfl (S.jY _ (zbd hy))
 ·exact yV (x.above y c (zbd h))
 ·have hi:i < vs.length:=by
   unfold start at h2
   by_cases hi:i < vs.length
   ·exact hi
   ·rw[zai (by simpa using hi)] at h2
    rw[zad] at h2
    split at h2<;>cases h2
  have ha:vs[i]? =some v:=by
   unfold start at h2
   rw[za0 (by simpa using hi),zH] at h2
   cases e:vs[i]? with
   |none=>rw[e] at h2;cases h2
   |some a=>rw[e] at h2;cases h2;rfl
  obtain⟨u,hu,rv⟩:=r.get ha
  have hp:ps[i]? =some y:=by
   rw[<-S.pre,List.getElem?_take_of_lt (by omega)];exact h1
  have uE:ps.Nodup:=by rw[<-S.pre];exact S.nd.sublist (List.take_sublist _ _)
  refine⟨u,rv,?_⟩
  rcases S.uD y (zk hp) with k|k
  ·exact .inl ⟨k,Oo uE hp hu k⟩
  ·obtain⟨c,e⟩:=QR (n:=s.heap.objs.size + 1) k
   refine .inr ⟨.inl k,c,e,?_⟩
   have q:=x.cell y c e
   rw[Oq uE hp hu (by show scope.names.lookup y≠_;rw[k];decide)] at q
   exact q
 ·exact e0.Av.fresh (yV (x.above y c (zbd h)))
 ·unfold start
  show _=N.length
  rw[zL,zc,zb1]
  omega
theorem Uh {CX:Ud}{P:Program}{w:World}{K:za}{mg:Str->Option Value}{base:Heap}{k:Nat}{f:Addr}{name qual:Str}{params:Arguments}{body:List Stmt}{scope:Scope}{dV kV doc pm B1 ct oc:Value}{an od:Option Addr}
 {Sv:Array (Option Value)} {N ps:List Str} {sp:Sp} (lk:K.lookup f=some ⟨oc,od,.func (zU name qual params body scope dV kV doc pm an B1 ct),Sv⟩) (bw:yO K B1 qual=true) (S:Ae N ps scope)
 (len:∀ vs H Q E,sp vs H Q E->vs.length=ps.length)
 (cm:∀(A:Around) (outer:List Env) (s:Shared) (H:Hp) (vs:List V) (Q:VK) (E:XK),BH k (A.deeper (envOfC qual scope s.heap.objs.size f B1))->sp vs H Q E->
  ∃ t,Ub (Lr CX P w K mg base N qual scope f B1 A outer s H E) body t/\t { nx:=fun _ H'=>Q .AA H',rt:=Q } (start N vs) H) :
 Ds P w K mg base CX (k + 1) f (zU name qual params body scope dV kV doc pm an B1 ct) ps sp:=by
 refine⟨len,fun A outer s H args us vs Q E hr e0 hb r bW=>?_⟩
 have hl:=len _ _ _ _ bW
 have KX:K.In s.heap:=e0.mod.WJ.keeps fun b o e=>(e0.bs b o e).1
 have lim:s.heap.NoLimit:=e0.mod.nolimit.keeps fun b o e=>(e0.bs b o e).1
 have iy:∀ y∈ps.zip us,scope.names.lookup y.1=some .local\/(scope.names.lookup y.1=some .cell/\((cellsFrom (s.heap.objs.size + 1) scope.names []).lookup y.1).isSome=true):=fun ⟨n,v⟩ hy=>by
  rcases S.uD n (List.of_mem_zip hy).1 with q|q
  ·exact .inl q
  ·exact .inr ⟨q,PySem.W.cellsFrom_some _ _ _ (.inl q)⟩
 refine codeAny_call_function hr.depth (KX _ _ lk) rfl S.co S.gen rfl (PySem.W.codeRec_of KX bw) (hb _ _ _ _ ?_)
 refine wpAny_newFunctionEnv_cells S.kind iy fun env he s1 x=>?_
 subst he
 refine⟨lim.keeps x.toInCall.keep,codeAny_func ?_⟩
 obtain⟨t,ht,hq⟩:=cm A outer s H vs Q E (hr.deeper _) bW
 have I:Inv (Lr CX P w K mg base N qual scope f B1 A outer s H E) [] (start N vs) H s1:=VA S hr.hd e0 hl r x
 refine wpAny_mono (ht [] s1 (start N vs) H _ I hq) (fun fl s' hs=>?_) fun e s' hs=>hs
 have fin:∀ {σ':St} {H':Hp} {v:V} {u:Value},Inv (Lr CX P w K mg base N qual scope f B1 A outer s H E) [] σ' H' s'->RelV v u->Q v H'->CE outer P w H s Q u s' :=
  fun {σ' H' v u} J rv q=>⟨v,H',J.os,J.bare,J.base,J.Av,rv,q⟩
 cases fl with
 |ret u =>
  obtain⟨v,σ',H',J,rv,q⟩:=hs
  exact fin J rv q
 |next =>
  obtain⟨σ',H',J,q⟩:=hs
  exact fin (v:=V.AA) (u:=Value.none) J rfl q
 |brk =>
  obtain⟨_,_,_,q⟩:=hs
  exact zao q
 |cont =>
  obtain⟨_,_,_,q⟩:=hs
  exact zao q
section
variable {X:Cx}{x:Str}{p pos:Pos}{e:Expr}{es:List Expr}{t:TA}{id T:String}{r:List V->Hp->VK->Prop}
noncomputable def sT (r:List V->Hp->VK->Prop) (t:TA):TE:=fun σ H Q=>t σ H fun vs H1=>r vs H1 Q
theorem QS (hc:Gu X (.builtin id) r) (hg:Gl X x) (hm:X.mg x=none) (hv:bootBuiltins x=some (.builtin id)) (ha:PA X (e::es) t) (hn:x ≠ "__name__" := by decide) (aU:(x == ("__debug__" : Str))=false:=by decide)
 (he:starEach (e::es) X.env=(false,eval e X.env)::starEach es X.env:=by rfl) (a6:(backTo pos (starEach es X.env)).any (·.1)=false:=by rfl):PE X (.Call (.Name x p) (e::es) [] pos) (sT r t):=by
 intro pins s σ H Q I h
 refine wpAny_Call_Name_kw (E5 I hg hm hv ?_ hn aU)
 exact PyProof.Rows.callWith_builtin1 (Be (ha pos pins s σ H _ I h) fun us s1 ⟨vs,H1,I1,r1,q1⟩=>hc pins s1 σ H1 vs us Q I1 r1 q1) he a6
theorem Ot (hc:Gu X (.type T) r) (hg:Gl X x) (hm:X.mg x=none) (hv:bootBuiltins x=some (.type T)) (ha:PA X (e::es) t) (hn:x ≠ "__name__" := by decide) (aU:(x == ("__debug__" : Str))=false:=by decide)
 (he:starEach (e::es) X.env=(false,eval e X.env)::starEach es X.env:=by rfl) (a6:(backTo pos (starEach es X.env)).any (·.1)=false:=by rfl):PE X (.Call (.Name x p) (e::es) [] pos) (sT r t):=by
 intro pins s σ H Q I h
 refine wpAny_Call_Name_kw (E5 I hg hm hv ?_ hn aU)
 exact yT (Be (ha pos pins s σ H _ I h) fun us s1 ⟨vs,H1,I1,r1,q1⟩=>hc pins s1 σ H1 vs us Q I1 r1 q1) he a6
end
end L2
namespace HT
open PySem PyProof.Rows
noncomputable def lexLt:List Int->List Int->Bool
 |[],[]=>false
 |[],_::_=>true
 |_::_,[]=>false
 |x::xs,y::ys=>if x=y then lexLt xs ys else decide (x < y)
theorem Fv (x y:Int) (xs ys:List Int):lexLt (x::xs) (y::ys)=if x=y then lexLt xs ys else decide (x < y):=rfl
theorem EV:lexLt [] []=false:=rfl
theorem Mo (y:Int) (ys:List Int):lexLt [] (y::ys)=true:=rfl
theorem Mp (x:Int) (xs:List Int):lexLt (x::xs) []=false:=rfl
theorem Xf (A:Around) (s:Shared) (a:Int) (t:Tok) (c:Int) (u:Tok):∃ e,SeqAt.EqAt A s (.int a t) (.int c u) e/\(e=true↔a=c) :=
 ⟨(a == c),SeqAt.EqAt.int_int a t c u,by simp⟩
theorem Xg (A:Around) (s:Shared) (a:Int) (t:Tok) (c:Int) (u:Tok) (prog:Program) (w:World) (E:Value->Shared->Prop) (Q:Value->Shared->Prop) (h:Q (.bool (decide (a < c))) s) :
 wpAny (model prog w) A (richCompare .Lt (.int a t) (.int c u)) Q E s :=
 (PyProof.Rows.lt_int h:wpAny (model prog w) A (compareOp .Lt (.int a t) (.int c u)) Q E s)
section
open PySem.SeqAt
open PySem.AutoSeq1 (wpAny_loadPart')
open PySem.MeetsSeq PySem.MeetsSeq2 PySem.MeetsSeq3
theorem NV (l b:Addr) (items a4:Array Value) (n n2:Nat) (dd mx:Option Addr) (sl iz:Array (Option Value)) (ns ms:List Int) (hi:IntsAre items.toList ns) (hj:IntsAre a4.toList ms) :
 Meets (Builtin.«tuple.__lt__» ⟨[.ref l,.ref b],[]⟩)
  (fun _ R s=>s.heap.get? l=some { cls:=.type "tuple",dict:=dd,data:=.seq items n,slots:=sl }/\s.heap.get? b=some { cls:=.type "tuple",dict:=mx,data:=.seq a4 n2,slots:=iz } /\
   R (.ok (.ret (.bool (lexLt ns ms)))) s) :=
 .of_wp fun prog w A R s h=>by
  obtain⟨hp,g,d,tk,os⟩:=s;obtain⟨hl,hb,h⟩:=h
  have f2:=AutoSeq1.sub_tuple_tuple
  have z1:items.size=ns.length:=by rw[<-hi.length];simp
  have z2:a4.size=ms.length:=by rw[<-hj.length];simp
  wp_walk using wpAny_loadPart' hl,wpAny_loadPart' hb,wpAny_forIn_list _ (fun rest b s'=>b.1=none/\s'=⟨hp,g,d,tk,os⟩/\∃(vs ws:List Value) (cL ia:List Int),rest=vs.zip ws /\
   IntsAre vs cL/\IntsAre ws ia/\cL.length + a4.size=ia.length + items.size/\R (.ok (.ret (.bool (lexLt cL ia)))) ⟨hp,g,d,tk,os⟩) _
  case turn =>
   rintro ⟨y,x⟩ rest b s' ⟨aE,rfl,vs,ws,cL,ia,hz,my,lh,hlen,hR⟩
   cases my with
   |nil=>rw[List.zip_nil_left] at hz;cases hz
   |cons a t mz =>
    cases lh with
    |nil=>rw[List.zip_nil_right] at hz;cases hz
    |cons c u m6 =>
     rw[List.zip_cons_cons] at hz
     injection hz with vV i4
     injection vV with hy hx
     subst hy hx
     rw[Fv] at hR
     simp only[zp] at hlen
     obtain⟨e,he,i5⟩:=Xf A.in1 ⟨hp,g,d,tk,os⟩ a t c u
     refine wpAny_bind (he prog w _ _ ?_)
     cases e with
     |true =>
      rw[if_pos (i5.mp rfl)] at hR
      wp_walk
      exact⟨rfl,rfl,_,_,_,_,i4,mz,m6,by omega,hR⟩
     |false =>
      rw[if_neg (fun q=>absurd (i5.mpr q) zM)] at hR
      have vW:=Xg A.in1 ⟨hp,g,d,tk,os⟩ a t c u prog w
      wp_walk using vW
      exact⟨_,rfl,by simpa using hR⟩
  case fin =>
   rintro ⟨b1,b2⟩ s' ⟨aE,rfl,vs,ws,cL,ia,hz,my,lh,hlen,hR⟩
   simp only at aE
   subst aE
   have hv:lexLt cL ia=decide (items.size < a4.size):=by
    cases my with
    |nil =>
     cases lh with
     |nil =>
      simp only[List.length_nil] at hlen
      rw[EV]
      exact (decide_eq_false (by omega)).symm
     |cons c u hw =>
      simp only[List.length_nil,zp] at hlen
      rw[Mo]
      exact (decide_eq_true (by omega)).symm
    |cons a t hv =>
     cases lh with
     |nil =>
      simp only[List.length_nil,zp] at hlen
      rw[Mp]
      exact (decide_eq_false (by omega)).symm
     |cons c u hw =>
      rw[List.zip_cons_cons] at hz
      cases hz
   rw[hv] at hR
   wp_walk
   exact⟨_,rfl,by simpa [Builtin.Tuple.tupleCompareSizes] using hR⟩
  case h =>
   exact⟨rfl,rfl,items.toList,a4.toList,ns,ms,rfl,hi,hj,by omega,h⟩
end
section
variable {prog:Program}{w:World}{A:Around}{E:Value->Shared->Prop}{s:Shared}
theorem Iq {l b:Addr}{items a4:Array Value}{ns ms:List Int}{Q:Value->Shared->Prop}(hl:IsTup s.heap l items) (hb:IsTup s.heap b a4) (hi:IntsAre items.toList ns) (hj:IntsAre a4.toList ms)
 (hu:A.units < cLine) (h:Q (.bool (lexLt ns ms)) s):wpAny (model prog w) A (compareOp .Lt (.ref l) (.ref b)) Q E s:=by
 obtain⟨⟨cls,dd,data,sl⟩,ho,hc,n,hd⟩:=id hl
 obtain⟨⟨vX,mx,data2,iz⟩,li,uF,n2,hd2⟩:=id hb
 simp only at hc hd uF hd2
 subst hc hd uF hd2
 exact richCompare_meets_room (op:=.Lt) ⟨_,ho,rfl⟩ ⟨_,li,rfl⟩ PySem.F.slot_tuple_lt PySem.F.entry_tuple_lt (PySem.F.args_tuple_lt_2 _ _) (NV l b items a4 n n2 dd mx sl iz ns ms hi hj)
  ⟨ho,li,show Value.bool (lexLt ns ms)≠Value.notImplemented/\Q (.bool (lexLt ns ms)) s from ⟨(fun x=>nomatch x),h⟩⟩ hu
noncomputable def Mq (n d:Nat):Option Int->Nat
 |none=>d
 |some v=>if v < 0 then (v + (n:Int)).toNat else min v.toNat n
theorem Xh (n d:Nat):Mq n d none=d:=rfl
theorem Pr (n d k:Nat):Mq n d (some (k:Int))=min k n:=by
 show (if (k:Int) < 0 then ((k:Int) + (n:Int)).toNat else min (k:Int).toNat n)=min k n
 rw[if_neg (by omega),zZ]
end
end HT
namespace L2
open PySem PySem.Spec PyProof.Rows
noncomputable abbrev TO:=St->Hp->(Option Int->Hp->Prop)->Prop
noncomputable def PO (X:Cx) (e:Option Expr) (t:TO):Prop :=
 ∀(pins:List (Addr×Obj)) (s:Shared) (σ:St) (H:Hp) (Q:Option Int->Hp->Prop),Inv X pins σ H s->t σ H Q->
  wpAny (model X.prog X.w) X.A (evalPart e X.env) (fun u s'=>∃ o H',Inv X pins σ H' s'/\IsPart u o/\Q o H') X.xe s
noncomputable def ZF:TO:=fun _ H Q=>Q none H
noncomputable def oX (t:TE):TO:=fun σ H Q=>t σ H fun x H1=>∃ i,x=.int i/\Q (some i) H1
theorem intsAre_of {ns:List Int}:∀ {us:List Value},Vals (ns.map V.int) us->IntsAre us ns:=by
 induction ns with
 |nil=>intro us r;rw[zau] at r;cases r;exact .nil
 |cons n ns ih =>
  intro us r
  rw[zg] at r
  cases r with
  |cons r1 r2 =>
   obtain⟨t,e⟩:=r1
   subst e
   exact .cons n t (ih r2)
section
variable {X:Cx}{e:Expr}{te:TE}{lo hi:Option Expr}{tl th:TO}{pos p2:Pos}
theorem ZG:PO X none ZF:=by
 intro pins s σ H Q I h
 rw[evalPart_none]
 exact wpAny_pure ⟨none,H,I,.none,h⟩
theorem ZH (h:PE X e te):PO X (some e) (oX te):=by
 intro pins s σ H Q I hw
 rw[evalPart_some]
 refine Be (h pins s σ H _ I hw) fun u s1 ⟨x,H1,I1,r1,q1⟩=>?_
 obtain⟨i,rfl,q⟩:=q1
 obtain⟨t,rfl⟩:=r1
 exact⟨some i,H1,I1,.int i t,q⟩
noncomputable def uG (X:Cx) (r:V->Option Int->Option Int->Hp->VK->Prop):Prop :=
 ∀(pins:List (Addr×Obj)) (s:Shared) (σ:St) (H:Hp) (x:V) (v vl vu:Value) (lo hi:Option Int) (sl:Addr) (Q:VK),Inv X pins σ H s->RelV x v->s.heap.IsSliceOf sl vl vu .none->IsPart vl lo->IsPart vu hi->r x lo hi H Q->
  ∃ T id,typeLookup (.type T) "__getitem__" = pure (some (.builtin id))/\s.TypeIs v T/\wpAny (model X.prog X.w) X.A (getItem v (.ref sl)) (EP X pins σ Q) X.xe s
noncomputable def vY (r:V->Option Int->Option Int->Hp->VK->Prop) (te:TE) (tl th:TO):TE:=fun σ H Q=>te σ H fun x H1=>tl σ H1 fun l H2=>th σ H2 fun u H3=>r x l u H3 Q
theorem Xi {r:V->Option Int->Option Int->Hp->VK->Prop}(hr:uG X r) (he:PE X e te) (hl:PO X lo tl) (hu:PO X hi th):PE X (.Subscript e (.Slice lo hi none p2) pos) (vY r te tl th):=by
 intro pins s σ H Q I h
 refine Subscript_ (Be (he pins s σ H _ I h) fun v s1 ⟨x,H1,I1,r1,q1⟩=>?_)
 refine wpAny_Slice (Be (hl pins s1 σ H1 _ I1 q1) fun vl s2 ⟨l,H2,I2,pl,q2⟩=>Be (hu pins s2 σ H2 _ I2 q2) fun vu s3 ⟨u,H3,I3,pu,q3⟩=>?_)
 rw[evalPart_none]
 refine wpAny_pure ?_
 have I4:Inv X pins σ H3 { s3 with heap:=s3.heap.push { cls:=.type "slice",data:=.fields #[vl,vu,.none] } }:=I3.kept (t':=s3.toks) fun b ob q=>zr _ q
 obtain⟨T,id,hT,ht,hg⟩:=hr pins { s3 with heap:=s3.heap.push { cls:=.type "slice",data:=.fields #[vl,vu,.none] } } σ H3 x v vl vu l u s3.heap.objs.size Q I4 r1 (Heap.IsSliceOf.new ..) pl pu q3
 show wpAny (model X.prog X.w) X.A (subscriptTail e (.Slice lo hi none p2) v (.ref s3.heap.objs.size)) (EP X pins σ Q) X.xe { s3 with heap:=s3.heap.push { cls:=.type "slice",data:=.fields #[vl,vu,.none] } }
 exact tail_any (ops:=[.ref s3.heap.objs.size,v]) ht hT hg (by with_unfolding_all rfl)
noncomputable def Xj (xs:List V) (lo hi:Option Int):List V:=(xs.drop (HT.Mq xs.length 0 lo)).take (HT.Mq xs.length xs.length hi - HT.Mq xs.length 0 lo)
theorem QT (xs:List V) (lo hi:Option Int):(Xj xs lo hi).length<=xs.length:=by
 unfold Xj
 rw[yY,zbf]
 omega
noncomputable def oY (K:za):R2:=fun x y H Q=>∃ a b ns ms,x=.ref a/\y=.ref b/\Fs K H a (ns.map V.int)/\Fs K H b (ms.map V.int)/\Q (.bl (HT.lexLt ns ms)) H
theorem Xk (hu:X.A.units < cLine):Gs X (compareOp .Lt) (oY X.K):=by
 intro pins s σ H x y v u Q I rx ry h
 obtain⟨a,b,ns,ms,rfl,rfl,ha,hb,q⟩:=h
 cases rx
 cases ry
 obtain⟨aa,r1,p1,_⟩:=I.tuple ha
 obtain⟨ba,r2,p2,_⟩:=I.tuple hb
 have i1:IntsAre aa.toArray.toList ns:=intsAre_of r1
 have i2:IntsAre ba.toArray.toList ms:=intsAre_of r2
 exact HT.Iq p1 p2 i1 i2 hu ⟨.bl (HT.lexLt ns ms),H,I,rfl,q⟩
end
noncomputable def Ou (n:Nat) (i:Int):Option Nat:=if 0<=i then (if i < n then some i.toNat else none) else if -(n:Int)<=i then some (i + n).toNat else none
noncomputable def QU {α:Type}(xs:List α) (i:Int):Option α:=(Ou xs.length i).bind fun j=>xs[j]?
theorem Ui {n:Nat}{i:Int}{j:Nat}(h:Ou n i=some j):seqIndex? i n=some j/\j < n/\-(n:Int)<=i/\i < n:=by
 unfold Ou at h
 by_cases h0:0<=i
 ·rw[if_pos h0] at h
  by_cases h1:i < n
  ·rw[if_pos h1] at h
   have e:i.toNat=j:=zJ h
   exact⟨by rw[seqIndex_of h0 h1,e],by omega,by omega,h1⟩
  ·rw[if_neg h1] at h;cases h
 ·rw[if_neg h0] at h
  by_cases h1 : -(n:Int)<=i
  ·rw[if_pos h1] at h
   have e:(i + n).toNat=j:=zJ h
   exact⟨by rw[seqIndex_neg (by omega) h1,e],by omega,h1,by omega⟩
  ·rw[if_neg h1] at h;cases h
theorem Uj {α:Type}{xs:List α}{i:Int}{v:α}(h:QU xs i=some v):∃ j,seqIndex? i xs.length=some j/\xs[j]? =some v/\j < xs.length/\-(xs.length:Int)<=i/\i < xs.length:=by
 unfold QU at h
 cases e:Ou xs.length i with
 |none=>rw[e] at h;cases h
 |some j =>
  rw[e] at h
  obtain⟨h1,h2,h3,h4⟩:=Ui e
  exact⟨j,h1,h,h2,h3,h4⟩
noncomputable def Hl (b:Expr):Prop:=∀ o i,subscripted b false o i=operate [o,i] (getItem o i)
noncomputable def ZI (X:Cx) (r:R2):Prop :=
 ∀(value slice:Expr) (pins:List (Addr×Obj)) (s:Shared) (σ:St) (H:Hp) (x y:V) (v u:Value) (Q:VK),Inv X pins σ H s->RelV x v->RelV y u->r x y H Q->
  subscripted slice false v u=operate [v,u] (getItem v u)->wpAny (model X.prog X.w) X.A (subscriptTail value slice v u) (EP X pins σ Q) X.xe s
noncomputable def uH (X:Cx) (id:String) (r:V->List V->Hp->VK->Prop):Prop :=
 ∀(pins:List (Addr×Obj)) (s:Shared) (σ:St) (H:Hp) (x:V) (xs:List V) (v:Value) (us:List Value) (Q:VK),Inv X pins σ H s->RelV x v->Vals xs us->r x xs H Q->
  wpAny (model X.prog X.w) X.A (call (.builtin id) (v::us)) (EP X pins σ Q) X.xe s
section
variable {X:Cx}{a b:Expr}{ta tb:TE}{pos:Pos}
theorem ZI.or {r r':R2}(h:ZI X r) (h':ZI X r'):ZI X (fun x y H Q=>r x y H Q\/r' x y H Q):=by
 intro value slice pins s σ H x y v u Q I rx ry q hs
 rcases q with q|q
 ·exact h value slice pins s σ H x y v u Q I rx ry q hs
 ·exact h' value slice pins s σ H x y v u Q I rx ry q hs
theorem Uk {r:R2}(hr:ZI X r) (ha:PE X a ta) (hb:PE X b tb) (hs:Hl b):PE X (.Subscript a b pos) (nF r ta tb):=by
 intro pins s σ H Q I h
 exact Subscript_ (jL ha hb I h fun v u s2 x y H2 I2 rx ry q=>hr a b pins s2 σ H2 x y v u Q I2 rx ry q (hs _ _))
noncomputable def jZ (K:za):R2:=fun x y H Q=>∃ p xs i v,x=.ref p/\y=.int i/\Dr K H p xs/\QU xs i=some v/\Q v H
noncomputable def kA (K:za):R2:=fun x y H Q=>∃ p xs i v,x=.ref p/\y=.int i/\Fs K H p xs/\QU xs i=some v/\Q v H
theorem LG:ZI X (jZ X.K):=by
 intro value slice pins s σ H x y v u Q I rx ry h hs
 obtain⟨p,xs,i,z,rfl,rfl,hq,he,q⟩:=h
 cases rx
 obtain⟨t,rfl⟩:=ry
 obtain⟨aa,r,pl,hz⟩:=I.list hq
 obtain⟨j,h1,h2,h3,h4,h5⟩:=Uj he
 obtain⟨w,ew,bz⟩:=r.get h2
 have hl:=r.length
 have hn:=Kl
 have fin:EP X pins σ Q w s:=⟨z,H,I,bz,q⟩
 by_cases h0:0<=i
 ·have hj:i.toNat=j:=by
   rw[seqIndex_of h0 h5] at h1
   exact zJ h1
  exact item_listR pl.isList h0 (by omega) (by rw[hj];simpa using ew) fin hs
 ·have hj:(i + (aa.toArray.size:Int)).toNat=j:=by
   rw[seqIndex_neg (by omega) h4] at h1
   rw[zi,<-hl]
   exact zJ h1
  exact subscriptTail_builtinR (x:=w) pl.isList.typeIs slot_list_getitem.lookup
   (wpAny_getItem_list_neg (Q:=fun r s'=>r=w/\EP X pins σ Q r s') pl.isList (by omega) (by rw[zi]<;>omega) (by omega) (by rw[hj];simpa using ew) ⟨rfl,fin⟩) hs
theorem kB:ZI X (kA X.K):=by
 intro value slice pins s σ H x y v u Q I rx ry h hs
 obtain⟨p,xs,i,z,rfl,rfl,hq,he,q⟩:=h
 cases rx
 obtain⟨t,rfl⟩:=ry
 obtain⟨aa,r,pl,hz⟩:=I.tuple hq
 obtain⟨j,h1,h2,h3,h4,h5⟩:=Uj he
 obtain⟨w,ew,bz⟩:=r.get h2
 have hl:=r.length
 have hn:=Kl
 have fin:EP X pins σ Q w s:=⟨z,H,I,bz,q⟩
 exact subscriptTail_builtinR (x:=w) pl.typeIs slot_tuple_getitem.lookup
  (getItem_tuple (j:=j) (Q:=fun r s'=>r=w/\EP X pins σ Q r s') pl (by omega) (by omega) (by rw[zi,<-hl];exact h1) (by simpa using ew) ⟨rfl,fin⟩) hs
theorem SR (aa:List Value) (n j:Nat) (u:Value):zas (·.setIfInBounds j u) { cls:=.type "list",data:=.seq aa.toArray n }={ cls:=.type "list",data:=.seq (aa.set j u).toArray n }:=by
 simp[zas]
theorem Inv.lst {pins:List (Addr×Obj)}{σ:St}{H:Hp}{s:Shared}{p:Addr}{xs:List V}(I:Inv X pins σ H s) (h:H p=some (.lst xs)) :
 ∃(aa:List Value) (n:Nat),Vals xs aa/\s.heap.get? p=some { cls:=.type "list",data:=.seq aa.toArray n }/\xs.length<=sizeLine:=by
 obtain⟨z,aa,n,r,e⟩:=I.Av p _ h
 exact⟨aa,n,r,e,z⟩
theorem Inv.kC {pins:List (Addr×Obj)}{σ:St}{H:Hp}{s:Shared}{p:Addr}{xs ys:List V}{aa its':List Value}{n n':Nat}{f:Obj->Obj}(I:Inv X pins σ H s) (h:H p=some (.lst xs))
 (ho:s.heap.get? p=some { cls:=.type "list",data:=.seq aa.toArray n }) (hf:f { cls:=.type "list",data:=.seq aa.toArray n }={ cls:=.type "list",data:=.seq its'.toArray n' }) (r:Vals ys its') (hz:ys.length<=sizeLine) (t:Nat) :
 Inv X pins σ (upd H p (.lst ys)) { s with heap:=s.heap.update p f,toks:=t }:=by
 have e:(s.heap.update p f).get? p=some { cls:=.type "list",data:=.seq its'.toArray n' }:=by
  rw[zb3 f ho (by rw[hf]<;>rfl),hf]
 refine I.write (x:=p) (e:=p) (by rw[h];trivial) (.inl rfl) (fun b u hb q=>(zay _ _ (yL hb)).trans q) ⟨_,e⟩ ?_
 exact⟨hz,its',n',r,e⟩
noncomputable def oZ:V->V->V->Hp->(Hp->Prop)->Prop:=fun o i v H Q=>∃ p xs k j,o=.ref p/\i=.int k/\H p=some (.lst xs)/\Ou xs.length k=some j/\Q (upd H p (.lst (xs.set j v)))
theorem set_list:oH X oZ:=by
 intro pins s σ H o i v ov iv u Q I ro ri rv h
 obtain⟨p,xs,k,j,rfl,rfl,hp,hj,q⟩:=h
 cases ro
 obtain⟨t,rfl⟩:=ri
 obtain⟨aa,n,r,ho,hz⟩:=I.lst hp
 obtain⟨h1,h2,h3,h4⟩:=Ui hj
 have hl:=r.length
 have hn:=Kl
 have I':Inv X pins σ (upd H p (.lst (xs.set j v))) { s with heap:=s.heap.update p (zas (·.setIfInBounds j u)) } :=
  I.kC hp ho (SR aa n j u) (r.set rv j) (by rw[yQ];exact hz) s.toks
 by_cases h0:0<=k
 ·have hk:k.toNat=j:=by
   rw[seqIndex_of h0 h4] at h1
   exact zJ h1
  exact PySem.W.ki_setAt ho h0 (by omega) (by rw[zi,<-hl];exact h4) (by rw[hk];exact⟨_,I',q⟩)
 ·have hk:(k + (aa.toArray.size:Int)).toNat=j:=by
   rw[seqIndex_neg (by omega) h3] at h1
   rw[zi,<-hl]
   exact zJ h1
  exact PySem.W.ki_setBack ho (by omega) (by rw[zi,<-hl];exact h3) (by omega) (by rw[hk];exact⟨_,I',q⟩)
theorem Pt (lo hi:Option Int) (n:Nat):(sliceBounds lo hi none n).1=((HT.Mq n 0 lo:Nat):Int)/\(sliceBounds lo hi none n).2.1=((HT.Mq n n hi:Nat):Int)/\(sliceBounds lo hi none n).2.2=1:=by
 refine⟨?_,?_,rfl⟩
 ·cases lo with
  |none=>simp[sliceBounds,HT.Mq]
  |some i =>
   simp only[sliceBounds,HT.Mq,Option.getD_none,show (1:Int) > 0 by decide,if_true]
   by_cases h:i < 0
   ·simp only[h,if_true]<;>omega
   ·simp only[h,if_false]<;>omega
 ·cases hi with
  |none=>simp[sliceBounds,HT.Mq]
  |some i =>
   simp only[sliceBounds,HT.Mq,Option.getD_none,show (1:Int) > 0 by decide,if_true]
   by_cases h:i < 0
   ·simp only[h,if_true]<;>omega
   ·simp only[h,if_false]<;>omega
theorem NW (aa:List Value) (lo hi:Option Int):slicePick aa.toArray lo hi none=((aa.drop (HT.Mq aa.length 0 lo)).take (HT.Mq aa.length aa.length hi - HT.Mq aa.length 0 lo)).toArray:=by
 obtain⟨h1,h2,h3⟩:=Pt lo hi aa.toArray.size
 unfold slicePick
 rw[h1,h2,h3]
 simp only[sliceRange_one,pick_run,zi]<;>rfl
noncomputable def sU (K:za):V->Option Int->Option Int->Hp->VK->Prop:=fun x lo hi H Q=>∃ a xs,x=.ref a/\Dr K H a xs/\∀ p,H p=none->Q (.ref p) (upd H p (.lst (Xj xs lo hi)))
theorem ZJ:uG X (sU X.K):=by
 intro pins s σ H x v vl vu lo hi sl Q I rx hs pl pu h
 obtain⟨a,xs,rfl,hx,q⟩:=h
 cases rx
 obtain⟨aa,r,ht,hz⟩:=I.list hx
 have hlen:=r.length
 refine⟨"list",_,slot_list_getitem.lookup,ht.isList.typeIs,?_⟩
 refine wpAny_getItem_list_slice ht.isList hs pl pu .none (by simp) ?_ (by rw[zi]<;>omega)
 rw[NW,<-hlen]
 refine⟨.ref s.heap.objs.size,_,I.laid (t':=s.toks) (o:=.lst (Xj xs lo hi)) (fun b ob q=>zr _ q) (zB _) ?_,rfl,q _ (I.Av.fresh (zB _))⟩
 exact⟨yU (QT xs lo hi) hz,_,0,(r.drop (HT.Mq xs.length 0 lo)).take (HT.Mq xs.length xs.length hi - HT.Mq xs.length 0 lo),zI _ rfl⟩
noncomputable def J4:V->Bool
 | .AA=>true
 | .bl _=>true
 | .int _=>true
 | .str _=>true
 |_=>false
noncomputable def gU:V->V->Bool
 | .AA,.AA=>true
 | .bl a,.bl b=>a == b
 | .bl a,.int b=>(if a then 1 else 0) == b
 | .int a,.bl b=>a == (if b then 1 else 0)
 | .int a,.int b=>a == b
 | .str a,.str b=>a == b
 |_,_=>false
theorem kD {A:Around}{s:Shared}{y x:V}{u v:Value}(ry:RelV y u) (rx:RelV x v) (fy:J4 y=true) (fx:J4 x=true):SeqAt.EqAt A s u v (gU y x):=by
 cases y with
 |AA =>
  cases ry
  cases x with
  |AA=>cases rx;exact SeqAt.EqAt.same _
  |bl b=>cases rx;exact SeqAt.EqAt.none_bool b
  |int b=>obtain⟨t,rfl⟩:=rx;exact SeqAt.EqAt.none_int b t
  |str b=>obtain⟨t,rfl⟩:=rx;exact SeqAt.EqAt.none_str b t
  |_=>exact absurd (show false=true from fx) zM
 |bl a =>
  cases ry
  cases x with
  |AA=>cases rx;exact SeqAt.EqAt.bool_none a
  |bl b=>cases rx;exact SeqAt.EqAt.bool_bool a b
  |int b=>obtain⟨t,rfl⟩:=rx;exact SeqAt.EqAt.bool_int a b t
  |str b=>obtain⟨t,rfl⟩:=rx;exact SeqAt.EqAt.bool_str a b t
  |_=>exact absurd (show false=true from fx) zM
 |int a =>
  obtain⟨t',rfl⟩:=ry
  cases x with
  |AA=>cases rx;exact SeqAt.EqAt.int_none a t'
  |bl b=>cases rx;exact SeqAt.EqAt.int_bool a t' b
  |int b=>obtain⟨t,rfl⟩:=rx;exact SeqAt.EqAt.int_int a t' b t
  |str b=>obtain⟨t,rfl⟩:=rx;exact SeqAt.EqAt.int_str a t' b t
  |_=>exact absurd (show false=true from fx) zM
 |str a =>
  obtain⟨t',rfl⟩:=ry
  cases x with
  |AA=>cases rx;exact SeqAt.EqAt.str_none a t'
  |bl b=>cases rx;exact SeqAt.EqAt.str_bool a t' b
  |int b=>obtain⟨t,rfl⟩:=rx;exact SeqAt.EqAt.str_int a t' b t
  |str b=>obtain⟨t,rfl⟩:=rx;exact SeqAt.EqAt.str_str a t' b t
  |_=>exact absurd (show false=true from fx) zM
 |_=>exact absurd (show false=true from fy) zM
noncomputable def SS (x:V) (u:Value):Bool:=match u with
 | .none=>gU .AA x
 | .bool b=>gU (.bl b) x
 | .int i _=>gU (.int i) x
 | .str z _=>gU (.str z) x
 |_=>false
theorem Xl {x y:V}{u:Value}(r:RelV y u) (f:J4 y=true):SS x u=gU y x:=by
 cases y with
 |AA=>cases r;rfl
 |bl b=>cases r;rfl
 |int i=>obtain⟨t,rfl⟩:=r;rfl
 |str z=>obtain⟨t,rfl⟩:=r;rfl
 |_=>exact absurd (show false=true from f) zM
theorem J5 {x:V}:∀ {xs:List V}{us:List Value},Vals xs us->xs.all J4=true->us.any (SS x)=xs.any fun y=>gU y x
 |_,_,.nil,_=>rfl
 |y::xs,u::us,.cons r t,f=>by
  rw[List.all_cons,zS] at f
  rw[zb7,zb7,Xl r f.1,J5 t f.2]
theorem Gw {A:Around}{s:Shared}{x:V}{v:Value}(rx:RelV x v) (fx:J4 x=true):∀ {xs:List V}{us:List Value},Vals xs us->xs.all J4=true->∀ u∈us,SeqAt.EqAt A s u v (SS x u)
 |_,_,.nil,_=>fun u hu=>by cases hu
 |y::xs,u::us,.cons r t,f=>fun u' hu=>by
  rw[List.all_cons,zS] at f
  rcases zu.mp hu with rfl|hu
  ·rw[Xl r f.1];exact kD r rx f.1 fx
  ·exact Gw rx fx t f.2 u' hu
noncomputable def rD (x:V) (xs:List V):Bool:=xs.any fun y=>gU y x
noncomputable def rE (K:za) (neg:Bool):R2:=fun x y H Q=>∃ p xs,y=.ref p/\(Dr K H p xs\/Fs K H p xs)/\J4 x=true/\xs.all J4=true/\Q (.bl (if neg then !rD x xs else rD x xs)) H
theorem VB:Gs X (compareOp .In) (rE X.K false):=by
 intro pins s σ H x y v u Q I rx ry h
 obtain⟨p,xs,rfl,hq,fx,fs,q⟩:=h
 cases ry
 rcases hq with hq|hq
 ·obtain⟨aa,r,pl,hz⟩:=I.list hq
  refine SeqAt.in_listAt (SS x) pl.isList (fun w hw=>Gw rx fx r fs w (by simpa using hw)) ⟨.bl _,H,I,rfl,?_⟩
  rw[show aa.toArray.any (SS x)=aa.any (SS x) by simp,J5 r fs]
  exact q
 ·obtain⟨aa,r,pl,hz⟩:=I.tuple hq
  refine SeqAt.in_tupleAt (SS x) pl (fun w hw=>Gw rx fx r fs w (by simpa using hw)) ⟨.bl _,H,I,rfl,?_⟩
  rw[show aa.toArray.any (SS x)=aa.any (SS x) by simp,J5 r fs]
  exact q
theorem Pu:Gs X (compareOp .NotIn) (rE X.K true):=by
 intro pins s σ H x y v u Q I rx ry h
 obtain⟨p,xs,rfl,hq,fx,fs,q⟩:=h
 cases ry
 rcases hq with hq|hq
 ·obtain⟨aa,r,pl,hz⟩:=I.list hq
  refine SeqAt.notIn_listAt (SS x) pl.isList (fun w hw=>Gw rx fx r fs w (by simpa using hw)) ⟨.bl _,H,I,rfl,?_⟩
  rw[show aa.toArray.any (SS x)=aa.any (SS x) by simp,J5 r fs]
  exact q
 ·obtain⟨aa,r,pl,hz⟩:=I.tuple hq
  refine SeqAt.notIn_tupleAt (SS x) pl (fun w hw=>Gw rx fx r fs w (by simpa using hw)) ⟨.bl _,H,I,rfl,?_⟩
  rw[show aa.toArray.any (SS x)=aa.any (SS x) by simp,J5 r fs]
  exact q
theorem Pw:Gu X (.builtin "len") (fun xs H Q=>∃ p ys,xs=[.ref p]/\(Dr X.K H p ys\/Fs X.K H p ys)/\Q (.int ys.length) H):=by
 intro pins s σ H xs us Q I r h
 obtain⟨p,ys,rfl,hq,q⟩:=h
 obtain⟨u,rfl,rx⟩:=vals1 r
 cases rx
 have hn:=Kl
 rcases hq with hq|hq
 ·obtain⟨aa,r',pl,hz⟩:=I.list hq
  have hlen:=r'.length
  exact Calls.call_len_list pl.isList (by simp only[zi]<;>omega) ⟨.int ys.length,H,I.tok _,⟨s.toks + 1,by rw[zi,hlen]⟩,q⟩
 ·obtain⟨aa,r',pl,hz⟩:=I.tuple hq
  have hlen:=r'.length
  exact len_tuple pl (by simp only[zi]<;>omega) ⟨.int ys.length,H,I.tok _,⟨s.toks + 1,by rw[zi,hlen]⟩,q⟩
theorem Px:Gu X (.type "list") (fun xs H Q=>∃ p ys,xs=[.ref p]/\(Dr X.K H p ys\/Fs X.K H p ys)/\∀ l,H l=none->Q (.ref l) (upd H l (.lst ys))):=by
 intro pins s σ H xs us Q I r h
 obtain⟨p,ys,rfl,hq,q⟩:=h
 obtain⟨u,rfl,rx⟩:=vals1 r
 cases rx
 have fin:∀(aa:List Value),Vals ys aa->ys.length<=sizeLine->∀(h':Heap) (c':Nat),(∀ b o',s.heap.get? b=some o'->h'.get? b=some o')->
  h'.get? s.heap.objs.size=some { cls:=.type "list",dict:=none,data:=.seq aa.toArray c',slots:=#[] }->EP X pins σ Q (.ref s.heap.objs.size) { s with heap:=h' }:=fun aa r' hz h' c' kp e =>
  ⟨.ref s.heap.objs.size,_,I.laid (t':=s.toks) kp (zB _) (show BD X.prog X.w _ h' _ (.lst ys) from ⟨hz,aa,c',r',e⟩),rfl,q _ (I.Av.fresh (zB _))⟩
 rcases hq with hq|hq
 ·obtain⟨aa,r',pl,hz⟩:=I.list hq
  have hlen:=r'.length
  obtain⟨o,ho,hc,n,hd⟩:=pl.isList
  exact call_list_seq p (.inl rfl) ho hc hd (fun h' c' kp e=>fin aa r' hz h' c' kp e) (by simp only[zi]<;>omega)
 ·obtain⟨aa,r',pl,hz⟩:=I.tuple hq
  have hlen:=r'.length
  obtain⟨o,ho,hc,n,hd⟩:=pl
  exact call_list_seq p (.inr rfl) ho hc hd (fun h' c' kp e=>fin aa r' hz h' c' kp e) (by simp only[zi]<;>omega)
theorem NX:Gu X (.type "tuple") (fun xs H Q=>∃ p ys,xs=[.ref p]/\((Dr X.K H p ys/\∀ l,H l=none->Q (.ref l) (upd H l (.tup ys)))\/(Fs X.K H p ys/\Q (.ref p) H))):=by
 intro pins s σ H xs us Q I r h
 obtain⟨p,ys,rfl,h⟩:=h
 obtain⟨u,rfl,rx⟩:=vals1 r
 cases rx
 rcases h with ⟨hq,q⟩|⟨hq,q⟩
 ·obtain⟨aa,r',pl,hz⟩:=I.list hq
  have hlen:=r'.length
  refine call_tuple_list pl.isList (fun h' kp=>?_) (by simp only[zi]<;>omega)
  have I1:Inv X pins σ H { s with heap:=h' }:=I.kept (t':=s.toks) kp
  have I2:Inv X pins σ (upd H h'.objs.size (.tup ys)) { s with heap:=h'.push { cls:=.type "tuple",data:=.seq aa.toArray } } :=
   I1.laid (t':=s.toks) (fun b o e=>zr _ e) (zB _) (show BD X.prog X.w _ _ _ (.tup ys) from ⟨hz,aa,r',IsTup.new _ _⟩)
  exact⟨.ref h'.objs.size,_,I2,rfl,q _ (I1.Av.fresh (zB _))⟩
 ·obtain⟨aa,r',pl,hz⟩:=I.tuple hq
  exact call_tuple_same pl ⟨.ref p,H,I,rfl,q⟩
noncomputable def sV (K:za) (T:String) (x:V) (H:Hp):Prop:=match x with
 | .str _=>T = "str"
 | .int _=>T = "int"
 | .ref p=>(T = "list" /\ ∃ xs,Dr K H p xs)\/(T = "tuple" /\ ∃ o,K.lookup p=some o/\o.cls=.type "tuple" /\ o.dict=none) \/
  (T = "dict" /\ ((∃ kvs,H p=some (.dK kvs))\/∃ kvs,H p=some (.dT kvs)))\/(T = "set" /\ ∃ S n,H p=some (.set S n))
 |_=>False
theorem Xm {pins:List (Addr×Obj)}{σ:St}{H:Hp}{s:Shared}{T:String}{x:V}{v:Value}(I:Inv X pins σ H s) (r:RelV x v) (ty:sV X.K T x H) :
 s.TypeIs v T/\∀ a,v=.ref a->∃ ob,s.heap.get? a=some ob/\ob.dict=none:=by
 cases x with
 |str z =>
  obtain⟨t,rfl⟩:=r
  cases (show T = "str" from ty)
  exact⟨typeIs_str s z t,fun _ e=>nomatch e⟩
 |int i =>
  obtain⟨t,rfl⟩:=r
  cases (show T = "int" from ty)
  exact⟨typeIs_int s i t,fun _ e=>nomatch e⟩
 |ref p =>
  cases r
  rcases ty with ⟨rfl,xs,hq⟩|⟨rfl,o,hk,hc,hd⟩|⟨rfl,hk⟩|⟨rfl,S,n,hk⟩
  ·obtain⟨aa,_,pl,_⟩:=I.list hq
   refine⟨pl.isList.typeIs,fun a e=>?_⟩
   cases e
   obtain⟨o,n,e,c,hd,_⟩:=pl
   exact⟨o,e,hd⟩
  ·refine⟨⟨o,I.NQ p o hk,hc⟩,fun a e=>?_⟩
   cases e
   exact⟨o,I.NQ _ o hk,hd⟩
  ·have z:∃ o,s.heap.get? p=some o/\o.ExactDict:=by
    rcases hk with ⟨kvs,hk⟩|⟨kvs,hk⟩
    ·obtain⟨_,_,_,_,o,_,_,e,ex,_⟩:=I.Av p _ hk
     exact⟨o,e,ex⟩
    ·obtain⟨_,_,_,_,o,_,_,e,ex,_⟩:=I.Av p _ hk
     exact⟨o,e,ex⟩
   obtain⟨o,e,ex⟩:=z
   refine⟨⟨o,e,ex.1⟩,fun a e2=>?_⟩
   cases e2
   exact⟨o,e,ex.2.1⟩
  ·obtain⟨o,_,_,_,e,ex,_⟩:=I.Av p _ hk
   refine⟨⟨o,e,ex.1⟩,fun a e2=>?_⟩
   cases e2
   exact⟨o,e,ex.2.1⟩
 |_=>exact zao ty
noncomputable def sW (K:za) (T:String) (r:V->List V->Hp->VK->Prop) (to:TE):TE:=fun σ H Q=>to σ H fun x H1=>sV K T x H1/\r x [] H1 Q
noncomputable def vZ (K:za) (T:String) (r:V->List V->Hp->VK->Prop) (to:TE) (t:TA):TE:=fun σ H Q=>to σ H fun x H1=>sV K T x H1/\t σ H1 fun xs H2=>r x xs H2 Q
variable {o e:Expr}{es:List Expr}{to:TE}{t:TA}{name:Str}{apos ac:Pos}{T id:String}{r:V->List V->Hp->VK->Prop}
theorem kE (pa:PlainAttrs T) (slot:Slot T name id) (i6:typeOf (.builtin id)=pure (.type "method_descriptor")) (hm:uH X id r) (ho:PE X o to)
 (av:attributeBase o name X.env (eval o X.env)=eval o X.env:=by rfl) (aw:(apos.endLine == ac.line)=true:=by rfl):PE X (.Call (.Attribute o name apos) [] [] ac) (sW X.K T r to):=by
 intro pins s σ H Q I h
 refine wpAny_Call_method0_late av aw (Be (ho pins s σ H _ I h) fun v s1 ⟨x,H1,I1,r1,ty,q1⟩=>?_)
 obtain⟨h1,h2⟩:=Xm I1 r1 ty
 exact⟨T,id,pa,slot,i6,h1,h2,Calls.callWith_builtin rfl (PySem.evalArgs_none (hm pins s1 σ H1 x [] v [] Q I1 r1 .nil q1))⟩
theorem QV (pa:PlainAttrs T) (slot:Slot T name id) (i6:typeOf (.builtin id)=pure (.type "method_descriptor")) (hm:uH X id r) (ho:PE X o to) (ha:PA X (e::es) t)
 (av:attributeBase o name X.env (eval o X.env)=eval o X.env:=by rfl)
 (aV:((backTo ac (starEach (e::es) X.env)).all (fun x => !x.1) && (backToKw ac (keywordEach [] X.env)).all (fun x=>x.1.isSome)
  && decide ((e::es).length + ([]:List Keyword).length + (if ([]:List Keyword).isEmpty then 0 else 1) < 30))=true:=by rfl)
 (aw:(apos.endLine == ac.line)=true:=by rfl) (hs:starEach (e::es) X.env=(false,eval e X.env)::starEach es X.env:=by rfl) (ar:(backTo ac (starEach es X.env)).any (·.1)=false:=by rfl) :
 PE X (.Call (.Attribute o name apos) (e::es) [] ac) (vZ X.K T r to t):=by
 intro pins s σ H Q I h
 refine wpAny_Call_method_late av aV aw rfl (Be (ho pins s σ H _ I h) fun v s1 ⟨x,H1,I1,r1,ty,q1⟩=>?_)
 obtain⟨h1,h2⟩:=Xm I1 r1 ty
 refine⟨T,id,pa,slot,i6,h1,h2,?_⟩
 have hA:=ha ac pins s1 σ H1 _ I1 q1
 rw[hs] at hA ⊢
 refine Calls.callWith_builtin (by show (false || (backTo ac (starEach es X.env)).any (·.1))=false;rw[ar]<;>rfl) (Calls.evalArgs_plain ?_)
 exact Be hA fun us s2 ⟨vs,H2,I2,r2,q2⟩=>hm pins s2 σ H2 x vs v us Q I2 r1 r2 q2
end
noncomputable def kF (X:Cx) (id:String) (r:V->List V->Hp->VK->Prop):Prop :=
 ∀(pins:List (Addr×Obj)) (s:Shared) (σ:St) (H:Hp) (x:V) (xs:List V) (v:Value) (us:List Value) (Q:VK),Inv X pins σ H s->RelV x v->Vals xs us->r x xs H Q->
  wpAny (model X.prog X.w) X.A (call (.builtin id) (v::us)) (EP X pins σ Q) X.xe s
theorem Vals.one:∀ {x:V}{us:List Value},Vals [x] us->∃ u,us=[u]/\RelV x u
 |_,_,.cons r .nil=>⟨_,rfl,r⟩
theorem Vals.two:∀ {x y:V}{us:List Value},Vals [x,y] us->∃ u v,us=[u,v]/\RelV x u/\RelV y v
 |_,_,_,.cons r (.cons q .nil)=>⟨_,_,rfl,r,q⟩
theorem Vals.zero:∀ {us:List Value},Vals [] us->us=[]
 |_,.nil=>rfl
theorem Vals.dropLast {xs:List V}{us:List Value}(h:Vals xs us):Vals xs.dropLast us.dropLast:=by
 induction h with
 |nil=>exact .nil
 |cons r t ih =>
  cases t with
  |nil=>exact .nil
  |cons q t'=>exact .cons r ih
theorem Vals.eraseIdx:∀ {xs:List V}{us:List Value}(i:Nat),Vals xs us->Vals (xs.eraseIdx i) (us.eraseIdx i)
 |_,_,_,.nil=>.nil
 |_,_,0,.cons _ t=>t
 |_,_,i + 1,.cons r t=>.cons r (Vals.eraseIdx i t)
theorem Vals.rep {xs:List V}{us:List Value}(h:Vals xs us):∀ k:Nat,Vals (zw k xs).flatten (zw k us).flatten
 |0=>.nil
 |k + 1=>by
  rw[za6,za6,List.flatten_cons,List.flatten_cons]
  exact Vals.append h (Vals.rep h k)
theorem SU {α:Type}(l:List α):l.eraseIdx (l.length - 1)=l.dropLast:=by
 induction l with
 |nil=>rfl
 |cons a r ih =>
  cases r with
  |nil=>rfl
  |cons b r =>
   have e:(a::b::r).length - 1=((b::r).length - 1) + 1:=by
    have h1:(a::b::r).length=r.length + 2:=rfl
    have h2:(b::r).length=r.length + 1:=rfl
    omega
   rw[e,List.eraseIdx_cons_succ,ih]
   all_goals rfl
theorem foldl_rep (aa:List Value):∀(k:Nat) (acc:List Value),
 List.foldl (fun x1 x2=>x1++x2) acc.toArray (zw k aa.toArray)=(acc++(zw k aa).flatten).toArray
 |0,acc=>by simp
 |k + 1,acc=>by
  have e:acc.toArray++aa.toArray=(acc++aa).toArray:=by simp
  have e2:(acc++aa)++(zw k aa).flatten=acc++(zw (k + 1) aa).flatten:=by
   rw[za6,List.flatten_cons,zap]
  rw[<-e2,<-foldl_rep aa k (acc++aa),<-e,za6,zV]
section
variable {X:Cx}{pins:List (Addr×Obj)}{σ:St}{H:Hp}{s:Shared}{l b:Addr}{xs ys zs:List V}
theorem Inv.VC {aa its':List Value}{n:Nat}{f:Array Value->Array Value}{t':Nat}(I:Inv X pins σ H s) (hH:H l=some (.lst xs))
 (e:s.heap.get? l=some { cls:=.type "list",data:=.seq aa.toArray n }) (hf:f aa.toArray=its'.toArray) (hv:Vals ys its') (hz:ys.length<=sizeLine) :
 Inv X pins σ (upd H l (.lst ys)) { s with heap:=s.heap.update l (zas f),toks:=t' }:=by
 have q:=PySem.IsL.update e f
 rw[hf] at q
 refine I.write (x:=l) (e:=l) (by rw[hH];exact trivial) (.inl rfl) (fun b' u hb hu=>(zay s.heap (zas f) (yL hb)).trans hu) ⟨_,q⟩ ?_
 exact⟨hz,its',_,hv,q⟩
theorem Inv.pA {aa:List Value}{t':Nat}(I:Inv X pins σ H s) (hv:Vals ys aa) (hz:ys.length<=sizeLine) :
 Inv X pins σ (upd H s.heap.objs.size (.lst ys)) { s with heap:=s.heap.push { cls:=.type "list",data:=.seq aa.toArray },toks:=t' } :=
 I.laid (fun _ _ q=>zr _ q) (zB _) ⟨hz,aa,0,hv,zI _ rfl⟩
theorem Inv.fresh (I:Inv X pins σ H s):H s.heap.objs.size=none:=I.Av.fresh (zB _)
theorem Inv.QW (I:Inv X pins σ H s) (hH:H l=some (.lst xs)):xs.length<=sizeLine/\∃(aa:List Value) (n:Nat),Vals xs aa/\xs.length=aa.length/\s.heap.get? l=some { cls:=.type "list",data:=.seq aa.toArray n }:=by
 obtain⟨z,aa,n,r,e⟩:=I.Av l _ hH
 exact⟨z,aa,n,r,r.length,e⟩
theorem QX {n:Nat}(h:n<=sizeLine):zb6 n=false:=by
 unfold zb6
 exact decide_eq_false (by omega)
end
section
variable {X:Cx}
noncomputable def ZK:V->List V->Hp->VK->Prop:=fun x vs H Q=>∃ l xs y,x=.ref l/\vs=[y]/\H l=some (.lst xs)/\xs.length < sizeLine/\Q .AA (upd H l (.lst (xs++[y])))
theorem Ov:kF X "list.append" ZK:=by
 intro pins s σ H x vs v us Q I rx rv h
 obtain⟨l,xs,y,rfl,rfl,hH,hz,q⟩:=h
 cases rx
 obtain⟨u,rfl,ru⟩:=rv.one
 obtain⟨z,aa,n,r,hl,e⟩:=I.QW hH
 refine call_meets F.slot_list_append ⟨_,e,rfl⟩ F.entry_list_append (F.args_list_append_2 _ _) (PySem.list_append l aa.toArray n u (by rw[zi];omega)) ⟨e,?_⟩
 refine⟨.AA,_,I.VC (its':=aa++[u]) hH e (by simp) (r.append (.cons ru .nil)) ?_,rfl,q⟩
 rw[zL,za9]
 omega
noncomputable def ZL:V->List V->Hp->VK->Prop:=fun x vs H Q=>∃ l b xs zs,x=.ref l/\vs=[.ref b]/\H l=some (.lst xs)/\H b=some (.lst zs)/\xs.length + zs.length<=sizeLine/\Q .AA (upd H l (.lst (xs++zs)))
theorem VD:kF X "list.extend" ZL:=by
 intro pins s σ H x vs v us Q I rx rv h
 obtain⟨l,b,xs,zs,rfl,rfl,hH,hB,hz,q⟩:=h
 cases rx
 obtain⟨u,rfl,ru⟩:=rv.one
 cases ru
 obtain⟨z,aa,n,r,hl,e⟩:=I.QW hH
 obtain⟨z2,ba,n2,r2,aZ,e2⟩:=I.QW hB
 have hsz:aa.toArray.size + ba.toArray.size<=sizeLine:=by rw[zi,zi];omega
 have cn:¬ (!aa.toArray.isEmpty && zb6 (aa.toArray.size + ba.toArray.size))=true:=by
  rw[QX hsz,Bool.and_false]
  exact zM
 refine call_meets F.slot_list_extend ⟨_,e,rfl⟩ F.entry_list_extend (F.args_list_extend_2 _ _)
  (AutoSeq1.list_extend_list_list_0 l aa.toArray n b ba.toArray n2 cn (by rw[zi];omega) (by omega)) ⟨e,e2,?_⟩
 refine⟨.AA,_,I.VC (its':=aa++ba) hH e (by simp) (r.append r2) ?_,rfl,q⟩
 rw[zL]
 omega
noncomputable def sX:V->List V->Hp->VK->Prop:=fun x vs H Q=>∃ l xs y,x=.ref l/\vs=[]/\H l=some (.lst xs)/\xs[xs.length - 1]? =some y/\Q y (upd H l (.lst xs.dropLast))
theorem sY:kF X "list.pop" sX:=by
 intro pins s σ H x vs v us Q I rx rv h
 obtain⟨l,xs,y,rfl,rfl,hH,hy,q⟩:=h
 cases rx
 have m7:=rv.zero
 subst m7
 obtain⟨z,aa,n,r,hl,e⟩:=I.QW hH
 obtain⟨u,hu,ru⟩:=r.get hy
 have wa:aa.toArray[aa.toArray.size - 1]? =some u:=by
  show aa.toArray[aa.length - 1]? =some u
  rw[<-Array.getElem?_toList,<-hl]
  exact hu
 refine call_meets F.slot_list_pop ⟨_,e,rfl⟩ F.entry_list_pop (F.args_list_pop_1 _) (MeetsSeq.list_pop_last l aa.toArray n u wa (by rw[zi];omega)) ⟨e,?_⟩
 refine⟨y,_,I.VC (its':=aa.dropLast) hH e ?_ r.dropLast ?_,ru,q⟩
 ·show aa.toArray.eraseIdxIfInBounds (aa.toArray.size - 1)=aa.dropLast.toArray
  rw[zi,List.eraseIdxIfInBounds_toArray,SU]
 ·rw[List.length_dropLast]
  omega
noncomputable def kG:V->List V->Hp->VK->Prop:=fun x vs H Q=>∃ l xs,x=.ref l/\vs=[]/\H l=some (.lst xs)/\Q .AA (upd H l (.lst []))
theorem Xn:kF X "list.clear" kG:=by
 intro pins s σ H x vs v us Q I rx rv h
 obtain⟨l,xs,rfl,rfl,hH,q⟩:=h
 cases rx
 have m7:=rv.zero
 subst m7
 obtain⟨z,aa,n,r,hl,e⟩:=I.QW hH
 refine call_meets F.slot_list_clear ⟨_,e,rfl⟩ F.entry_list_clear (F.args_list_clear_1 _) (AutoSeq1.list_clear_list_0 l aa.toArray n (by rw[zi];omega)) ⟨e,?_⟩
 exact⟨.AA,_,I.VC (its':=[]) (ys:=[]) hH e rfl .nil (zW _),rfl,q⟩
noncomputable def sZ:R2:=fun x y H Q=>∃ l k xs,x=.ref l/\y=.int k/\H l=some (.lst xs)/\-(2 ^ 63)<=k/\k < 2 ^ 63/\xs.length * k.toNat<=sizeLine /\
 ∀ p,H p=none->Q (.ref p) (upd H p (.lst (zw k.toNat xs).flatten))
theorem len_rep {α:Type}(xs:List α) (k:Nat):(zw k xs).flatten.length=k * xs.length:=by
 induction k with
 |zero=>simp
 |succ k ih=>rw[za6,List.flatten_cons,zL,ih,Nat.succ_mul,Nat.add_comm]
theorem kH:Gs X (binaryOp .Mult) sZ:=by
 intro pins s σ H x y v u Q I rx ry h
 obtain⟨l,k,xs,rfl,rfl,hH,h1,h2,hz,q⟩:=h
 cases rx
 obtain⟨t,rfl⟩:=ry
 obtain⟨z,aa,n,r,hl,e⟩:=I.QW hH
 have hlen:aa.toArray.size * k.toNat<=sizeLine:=by rw[zi,<-hl];exact hz
 have m8:¬ aa.toArray.size * k.toNat > (2 ^ 63 - 1) / 8:=by
  have:(sizeLine:Nat)<=(2 ^ 63 - 1) / 8:=by decide
  omega
 have e7:¬ (!Builtin.List.listFitsIndex k)=true:=by
  rw[fitsIndex_both h1 h2]
  exact zM
 have cn:¬ zb6 (aa.toArray.size * k.toNat)=true:=by
  rw[QX hlen]
  exact zM
 have bc:List.foldl (fun x1 x2=>x1++x2) #[] (zw (if aa.toArray.isEmpty=true then 0 else k.toNat) aa.toArray)=(zw k.toNat aa).flatten.toArray:=by
  have f0:∀ m:Nat,List.foldl (fun x1 x2=>x1++x2) #[] (zw m aa.toArray)=(zw m aa).flatten.toArray:=fun m=>by
   have:=foldl_rep aa m []
   rw[List.nil_append] at this
   exact this
  rw[f0]
  cases aa with
  |nil=>simp
  |cons a r'=>rw[if_neg (by simp)]
 refine wpAny_binaryOp_repeat_ref (T := "list") (U := "int") (by decide) ⟨_,e,rfl⟩ (fun s'=>typeIs_int s' k t) noFill_list_mul F.fills_int_mul F.slot_int_rmul repeat_list F.slot_int_index.lookup
  (call_meets F.slot_int_rmul (typeIs_int s k t) F.entry_int_rmul (F.args_int_rmul_2 _ _) (int___rmul___int_list k t l aa.toArray n)
   ⟨e,rfl,⟨_,e,rfl⟩,call_meets F.slot_list_mul ⟨_,e,rfl⟩ F.entry_list_mul (F.args_list_mul_2 _ _) (AutoListH.list___mul___list_int_3 l aa.toArray n k t e7 m8 cn) ⟨e,?_⟩⟩)
 rw[bc]
 exact⟨.ref _,_,I.pA (t':=s.toks) (r.rep k.toNat) (by rw[len_rep,Nat.mul_comm];exact hz),rfl,q _ I.fresh⟩
end
end L2
namespace uI
open PySem PySem.W PySem.Calls PyProof.Rows
theorem Ls {P:Params}{h:Heap}:∀(ns:List Int) (vs:List Value),WellAll P h vs (ns.map WData.int)->IntsAre vs ns:=by
 intro ns
 induction ns with
 |nil =>
  intro vs w
  rw[zau] at w
  cases w
  exact .nil
 |cons n ns ih =>
  intro vs w
  rw[zg] at w
  cases w with
  |cons a b =>
   cases a
   exact .cons _ _ (ih _ b)
theorem VE {l:OpenLaw}{n:Nat}(hn:l.most=some n){P:Params}{h:Heap}{args:List WData}{vals:List Value}
 (cM:l.row.toRowW.claim.pre args=true) (m9:WellAll P h vals args) :
 ∃ a vs ns,vals=[yN a]/\args=[WData.list (ns.map WData.int)]/\h.get? a=some { cls:=.type "list",data:=.seq vs.toArray }/\IntsAre vs ns/\ns.length<=n:=by
 have wb:WShape.hasAll [] args [.list .int]=true:=(pre_splitW cM).1
 have hc:l.pre.holds [] { args:=args }=true:=(pre_splitW cM).2
 obtain⟨d,r,rfl,h1,h2⟩:=hasAllW_cons wb
 obtain rfl:=hasAllW_nil h2
 obtain⟨xs,rfl,h3⟩:=hasW_list h1
 obtain⟨ns,rfl⟩:=items_int h3
 have hlen:ns.length<=n:=by
  unfold OpenLaw.pre at hc
  have h4:(WTm.not (.lt (.lit (.int (n:Int))) (.len (.arg 0)))).holds [] { args:=[.list (ns.map .int)] }=true:=by
   have h4:=(holds_andW hc).1
   rw[hn] at h4
   exact h4
  have h5:=condW_of h4 (w_not (w_lt w_lit (w_len_list (w_arg rfl))))
  rw[zc] at h5
  refine Nat.le_of_not_lt fun q=>?_
  have q':(n:Int) < ((ns.length:Nat):Int):=by omega
  first
   |(rw[decide_eq_true q'] at h5;exact absurd h5 (by decide))
   |(simp at h5;omega)
 cases m9 with
 |cons w1 w2 =>
  cases w2
  cases w1 with
  |list ho aF=>exact⟨_,_,ns,rfl,rfl,ho,Ls ns _ aF,hlen⟩
theorem VF (l:OpenLaw) (args:List WData):l.row.toRowW.claim.post args (.bool true) args=true :=
 postW_of (r:=l.row.toRowW) (X:=(true == true))
  (show WShape.has [] (.bool true) .bool=true by first|rfl|decide|simp[WShape.has,WShape.arms,WShape.armsAll])
  (show (WTm.eq .res (.lit (.bool true))).value [] { args:=args,res:=some (.bool true),after:=args }=some (.bool (true == true)) from w_eq_bool (w_res rfl) w_lit) rfl
end uI
namespace L2
open PySem PySem.Spec PyProof.Rows
theorem Ox:∀ {vs:List Value}{ns:List Int},IntsAre vs ns->Vals (ns.map V.int) vs
 |_,_,.nil=>.nil
 |_,_,.cons n t h=>.cons ⟨t,rfl⟩ (Ox h)
noncomputable def ZM (H:Hp):Prop:=∀ b,H b=none\/∃ o xs,H b=some (.Vs o (.lst xs))
theorem QY {P:Program}{w:World}{K:za}{mg mb:Str->Option Value}{CX:Ud}{k:Nat}{fa a:Addr}{fd:FuncData}{x:Str}{sp:Sp}{s₁:Shared}{vs:List Value}{ns:List Int}
 (KX:K.In s₁.heap) (i7:s₁.heap.Ns mainGlobals mg) (hb:s₁.heap.Ns builtinsNs mb) (wc:∀ x:Str,x ≠ "__name__" -> mb x=bootBuiltins x) (na:s₁.heap.NoLimit) (hg:s₁.gens=#[])
 (ha:s₁.heap.get? a=some { cls:=.type "list",data:=.seq vs.toArray }) (hi:IntsAre vs ns) (hl:ns.length<=sizeLine) (hr:BH k callerA)
 (F:∀ base:Heap,K.In base->base.Ns mainGlobals mg->Ds P w K mg base CX k fa fd [x] sp) (i8:∀(s:Shared) (u:Value),BindsTo s fd ⟨[u],[]⟩ [(x,u)])
 (bW:∀ H:Hp,ZM H->Dr K H a (ns.map V.int)->sp [.ref a] H (fun v _=>v=.bl true) fun _ _ _=>False)
 (i9:∀ H e s',CX [] H s₁ (fun _ _ _=>False) e s'->False) :
 codeAny (model P w) callerA (.call (.ref fa) ⟨[.ref a],[]⟩) (fun r s'=>r=.ok (.ret (.bool true))/\OldK s₁.heap s'.heap/\s'.os=s₁.os/\AllBare s'.gens) s₁:=by
 have rv:=Ox hi
 have nc:=hi.length
 have core:∀ H:Hp,ZM H->Dr K H a (ns.map V.int)->Fq P w H s₁.heap->(∀ b,H b≠none->b=a)->(H a≠none->K.lookup a=none)->
  codeAny (model P w) callerA (.call (.ref fa) ⟨[.ref a],[]⟩) (fun r s'=>r=.ok (.ret (.bool true))/\OldK s₁.heap s'.heap/\s'.os=s₁.os/\AllBare s'.gens) s₁:=by
  intro H hO hS Av hA hK
  have bR:∀ {b:Addr} {o:Obj},s₁.heap.get? b=some o->H b=none->(Pk s₁.heap H).get? b=some o:=fun e n=>WR e n
  have ix:∀ {b:Addr} {o:Obj} {es:Array DictEntry} {ep:Nat},s₁.heap.get? b=some o->o.data=.dict es ep->H b=none:=fun {b o es ep} e d=>by
   cases q:H b with
   |none=>rfl
   |some u =>
    have e':b=a:=hA b (by rw[q];simp)
    subst e'
    rw[ha] at e;cases e
    have d':Data.seq vs.toArray _=Data.dict es ep:=d
    cases d'
  have lj:∀ {b:Addr} {m:Str->Option Value},s₁.heap.Ns b m->(Pk s₁.heap H).Ns b m:=fun {b m} ⟨o,es,ep,e,d,r⟩=>⟨o,es,ep,bR e (ix e d),d,r⟩
  have uJ:K.In (Pk s₁.heap H):=fun b o e=>bR (KX b o e) (by
   cases q:H b with
   |none=>rfl
   |some u =>
    have e':b=a:=hA b (by rw[q];simp)
    subst e'
    rw[hK (by rw[q];simp)] at e;cases e)
  have hM:Mod K mg (Pk s₁.heap H):=⟨uJ,lj i7,⟨mb,lj hb,wc⟩,let ⟨mc,h1,h2⟩:=na;⟨mc,lj h1,h2⟩⟩
  have e0:SO P w K mg (Pk s₁.heap H) callerA [] s₁ H:=⟨rfl,hM,fun b o e=>Zp e,Nat.le_of_eq (Vt _ _),trivial,fun b hb=>absurd (show b∈([]:List Addr) from hb) (by simp),Av,.of_eq hg⟩
  refine codeAny_mono ((F _ uJ (lj i7)).run callerA [] s₁ H ⟨[.ref a],[]⟩ [.ref a] [.ref a] _ _ hr e0 (i8 s₁ (.ref a)) (.cons rfl .nil) (bW H hO hS)) fun r s' h=>?_
  cases r with
  |error e=>exact (i9 H e s' h).elim
  |ok fl =>
   cases fl with
   |next=>exact zao h
   |brk=>exact zao h
   |cont=>exact zao h
   |ret u =>
    obtain⟨v,H',os,bare,un,e8,r',q⟩:=h
    have q':v=.bl true:=q
    subst q'
    obtain rfl:u=Value.bool true:=r'
    refine⟨rfl,OldK.of_keep fun b o e=>?_,os,bare⟩
    cases q:H b with
    |none=>exact un.keep b o e q (by intro z;exact absurd (show b∈([]:List Addr) from z) (by simp)) (by simp)
    |some u =>
     rcases hO b with z|⟨ob,xs,z⟩
     ·rw[q] at z;cases z
     ·have z2:=un.Ml b ob _ z
      obtain⟨e1,_⟩:=Av b _ z
      obtain⟨e2,_⟩:=e8 b _ z2
      rw[e] at e1;cases e1
      exact e2
 cases hk:K.lookup a with
 |some o =>
  have e:=KX a o hk
  rw[ha] at e
  cases e
  refine core (fun _=>none) (fun _=>.inl rfl) (.inr ⟨_,vs.toArray,_,hk,rfl,rfl,rfl,by rw[zi,nc];exact hl,by simpa using rv⟩) (fun b u z=>by have z':(none:Option HO)=some u:=z;cases z') (fun b z=>absurd rfl z) fun z=>absurd rfl z
 |none =>
  refine core (fun b=>if b=a then some (.Vs { cls:=.type "list",data:=.seq vs.toArray } (.lst (ns.map V.int))) else none) (fun b=>?_) (.inl (.inr ⟨{ cls:=.type "list",data:=.seq vs.toArray },if_pos rfl⟩)) (fun b u z=>?_) (fun b z=>?_) fun _=>hk
  ·by_cases hb:b=a
   ·exact .inr ⟨_,_,if_pos hb⟩
   ·exact .inl (if_neg hb)
  ·by_cases hb:b=a
   ·have z':=(if_pos hb).symm.trans z
    cases z'
    subst hb
    exact⟨ha,by rw[zc];exact hl,vs,_,rv,ha⟩
   ·have z':=(if_neg hb).symm.trans z
    cases z'
  ·by_cases hb:b=a
   ·exact hb
   ·exact absurd (if_neg hb) z
noncomputable abbrev ZN:Ud:=fun _ _ _ _ _ _=>False
noncomputable abbrev E0:XK:=fun _ _ _=>False
structure WL (K:za) (x qual:Str) (st:Stmt) (f:Addr) (fd:FuncData):Prop where
 ex:∃(oc:Value) (od:Option Addr) (kV doc pm:Value) (an:Option Addr) (B1 ct:Value) (Sv:Array (Option Value)),
  fd=zU x qual (AQ st) (AD st) (A3 st) .none kV doc pm an B1 ct/\K.lookup f=some ⟨oc,od,.func fd,Sv⟩/\yO K B1 qual=true
 kp:zR K (.ref f)=true
section
variable {P:Program}{w:World}{K:za}{mg:Str->Option Value}{base:Heap}
theorem WL.ok {x qual:Str}{st:Stmt}{f:Addr}{fd:FuncData}{N ps:List Str}{k:Nat}{sp:Sp}(F:WL K x qual st f fd) (S:Ae N ps (A3 st)) (len:∀ vs H Q E,sp vs H Q E->vs.length=ps.length)
 (cm:∀(B1:Value) (A:Around) (outer:List Env) (s:Shared) (H:Hp) (vs:List V) (Q:VK) (E:XK),BH k (A.deeper (envOfC qual (A3 st) s.heap.objs.size f B1))->sp vs H Q E->
  ∃ t,Ub (Lr ZN P w K mg base N qual (A3 st) f B1 A outer s H E).oC (AD st) t/\t { nx:=fun _ H'=>Q .AA H',rt:=Q } (start N vs) H):Ds P w K mg base ZN (k + 1) f fd ps sp:=by
 obtain⟨oc,od,kV,doc,pm,an,B1,ct,Sv,rfl,lk,bw⟩:=F.ex
 refine Uh lk bw S len fun A outer s H vs Q E hr bW=>?_
 obtain⟨t,h,q⟩:=cm B1 A outer s H vs Q E hr bW
 exact⟨t,h.oC,q⟩
theorem WL.binds {x qual:Str}{st:Stmt}{f:Addr}{fd:FuncData}{ps:List Str}(F:WL K x qual st f fd)
 (h:∀(kV doc pm:Value) (an:Option Addr) (B1 ct:Value) (us:List Value),us.length=ps.length->bindArgs (zU x qual (AQ st) (AD st) (A3 st) .none kV doc pm an B1 ct) ⟨us,[]⟩=pure (ps.zip us)):Binds K fd ps []:=by
 obtain⟨oc,od,kV,doc,pm,an,B1,ct,Sv,rfl,lk,bw⟩:=F.ex
 exact .all (h kV doc pm an B1 ct)
theorem SV {x qual:Str}{st:Stmt}{f:Addr}{oc:Value}{od an:Option Addr}{Sv:Array (Option Value)}{kV doc pm B1 ct:Value}(l:K.lookup f=some ⟨oc,od,.func (zU x qual (AQ st) (AD st) (A3 st) .none kV doc pm an B1 ct),Sv⟩)
 (c:yO K B1 qual=true) (k:zR K (.ref f)=true):WL K x qual st f (zU x qual (AQ st) (AD st) (A3 st) .none kV doc pm an B1 ct):=⟨⟨oc,od,kV,doc,pm,an,B1,ct,Sv,rfl,l,c⟩,k⟩
end
theorem AH {n:Nat}(h:n<=1000):n < sizeLine:=Nat.lt_of_le_of_lt h (by decide)
section
variable {X:Cx}
theorem pv (i:Nat){x:Str}{pos:Pos}(hN:X.N[i]? =some x:=by rfl) (hv:rY X.env.scope x:=by first | exact yJ rfl | exact Or.inr (yJ rfl) | exact Or.inr (Or.inr rfl)) (hd:(x == ("__debug__" : Str))=false:=by decide)
 (bw:(x == ("__classdict__" : Str))=false:=by decide):PE X (.Name x pos) (Lp i):=iX hN hv hd bw
end
noncomputable def Ad (H H':Hp):Prop:=∀ b o,H b=some o->H' b=some o
theorem Ad.refl (H:Hp):Ad H H:=fun _ _ h=>h
theorem Ad.trans {H H1 H2:Hp}(a:Ad H H1) (b:Ad H1 H2):Ad H H2:=fun c o h=>b c o (a c o h)
theorem Ad.seq {K:za}{H H':Hp}{a:Addr}{xs:List V}(e:Ad H H') (h:Dr K H a xs):Dr K H' a xs:=by
 rcases h with (h|⟨o,h⟩)|h
 ·exact .inl (.inl (e _ _ h))
 ·exact .inl (.inr ⟨o,e _ _ h⟩)
 ·exact .inr h
section
variable {κ:Type} [DecidableEq κ]
noncomputable def Lu (kvs:List (κ×V)) (k:κ):Option V:=(kvs.find? fun kv=>decide (kv.1=k)).map (·.2)
noncomputable def putK (kvs:List (κ×V)) (k:κ) (v:V):List (κ×V) :=
 if (kvs.any fun kv=>decide (kv.1=k))=true then kvs.map (fun kv=>if kv.1=k then (kv.1,v) else kv) else kvs++[(k,v)]
theorem Mr {p:κ×V}{r:List (κ×V)}{k:κ}(e:p.1=k):Lu (p::r) k=some p.2:=by simp[Lu,zb2,e]
theorem Ms {p:κ×V}{r:List (κ×V)}{k:κ}(e:¬ p.1=k):Lu (p::r) k=Lu r k:=by simp[Lu,zb2,e]
theorem QZ (k:κ):∀ kvs:List (κ×V),(kvs.any fun kv=>decide (kv.1=k))=(Lu kvs k).isSome
 |[]=>rfl
 |p::r=>by
  rw[zb7]
  by_cases e:p.1=k
  ·simp only[Mr e,decide_eq_true e,Bool.true_or,Option.isSome_some]
  ·rw[Ms e,decide_eq_false e,Bool.false_or];exact QZ k r
theorem EE (kvs:List (κ×V)) (k:κ) (v:V):(putK kvs k v).length<=kvs.length + 1:=by
 unfold putK
 split
 ·rw[zc];omega
 ·rw[zL,zp,List.length_nil];omega
theorem Gj.Fc {o:Option V}{u:Option Value}(r:Gj o u):o.isSome=u.isSome:=by
 cases o with
 |none=>cases u with
  |none=>rfl
  |some _=>exact (show False from r).elim
 |some _=>cases u with
  |none=>exact (show False from r).elim
  |some _=>rfl
theorem Gj.getD {o:Option V}{u:Option Value}{d:V}{d':Value}(r:Gj o u) (rd:RelV d d'):RelV (o.getD d) (u.getD d'):=by
 cases o with
 |none=>cases u with
  |none=>exact rd
  |some _=>exact (show False from r).elim
 |some _=>cases u with
  |none=>exact (show False from r).elim
  |some _=>exact r
theorem KV.val {kvs:List (κ×V)}{vs:List (κ×Value)}(r:KV kvs vs) (k:κ):Gj (Lu kvs k) (valueAt vs k):=by
 unfold KV at r
 induction r with
 |nil=>exact zax
 | @cons p q ps qs h t ih =>
  obtain⟨h1,h2⟩:=h
  by_cases e:p.1=k
  ·have e':q.1=k:=h1.symm.trans e
   have b:valueAt (q::qs) k=some q.2:=by simp[valueAt,zb2,e']
   rw[Mr e,b];exact h2
  ·have e':¬ q.1=k:=fun z=>e (h1.trans z)
   have b:valueAt (q::qs) k=valueAt qs k:=by simp[valueAt,zb2,e']
   rw[Ms e,b];exact ih
theorem KV.any {kvs:List (κ×V)}{vs:List (κ×Value)}(r:KV kvs vs) (k:κ):(kvs.any fun kv=>decide (kv.1=k))=vs.any fun kv=>decide (kv.1=k):=by
 unfold KV at r
 induction r with
 |nil=>rfl
 |cons h t ih=>rw[zb7,zb7,ih,h.1]
theorem KV.kI {kvs:List (κ×V)}{vs:List (κ×Value)}(r:KV kvs vs) (k:κ){y:V}{u:Value}(ry:RelV y u) :
 KV (kvs.map fun kv=>if kv.1=k then (kv.1,y) else kv) (vs.map fun kv=>if kv.1=k then (kv.1,u) else kv):=by
 unfold KV at r ⊢
 induction r with
 |nil=>exact .nil
 | @cons p q ps qs h t ih =>
  rw[zg,zg]
  refine .cons ?_ ih
  obtain⟨h1,h2⟩:=h
  by_cases e:p.1=k
  ·rw[if_pos e,if_pos (h1.symm.trans e)];exact⟨h1,ry⟩
  ·rw[if_neg e,if_neg (fun z=>e (h1.trans z))];exact⟨h1,h2⟩
theorem KV.put {kvs:List (κ×V)}{vs:List (κ×Value)}(r:KV kvs vs) (k:κ){y:V}{u:Value}(ry:RelV y u):KV (putK kvs k y) (stored vs k u):=by
 unfold putK stored
 rw[r.any k]
 by_cases e:(vs.any fun kv=>decide (kv.1=k))=true
 ·rw[if_pos e,if_pos e];exact r.kI k ry
 ·rw[if_neg e,if_neg e];exact Paired.snoc r ⟨rfl,ry⟩
theorem KV.length {kvs:List (κ×V)}{vs:List (κ×Value)}(r:KV kvs vs):kvs.length=vs.length:=Paired.length r
end
theorem Mt {P:Program}{w:World}{k:Key}{u:Value}(r:RelV (kV k) u):(B6 P w).is k u=true:=by
 cases k with
 |inl i=>obtain⟨t,e⟩:=(show ∃ t,u=Value.int i t from r);subst e;exact QK P w i t
 |inr x=>obtain⟨t,e⟩:=(show ∃ t,u=Value.str x t from r);subst e;exact QL P w x t
theorem Oy {P:Program}{w:World}:∀ {ks:List Key}{us:List Value},Vals (ks.map kV) us->ItemsAre (B6 P w) ks us
 |[],_,r=>by rw[zau] at r;cases r;exact .nil
 |k::ks,_,r=>by
  rw[zg] at r
  cases r with
  |cons h t=>exact .cons (Mt h) (Oy t)
noncomputable abbrev KT (H:Hp):List (List Key×V)->List (List Key×Addr×Value)->Prop:=Paired fun p q=>p.1=q.1/\H q.2.1=some (.tup (p.1.map kV))/\RelV p.2 q.2.2
theorem KT.val {H:Hp}{kvs:List (List Key×V)}{xs:List (List Key×Addr×Value)}(r:KT H kvs xs) (k:List Key):Gj (Lu kvs k) ((atKey xs k).map (·.2)):=by
 induction r with
 |nil=>exact zax
 | @cons p q ps qs h t ih =>
  obtain⟨h1,_,h2⟩:=h
  by_cases e:p.1=k
  ·have e':q.1=k:=h1.symm.trans e
   have b:atKey (q::qs) k=some q.2:=by simp[atKey,zb2,e']
   rw[Mr e,b];exact h2
  ·have e':¬ q.1=k:=fun z=>e (h1.trans z)
   have b:atKey (q::qs) k=atKey qs k:=by simp[atKey,zb2,e']
   rw[Ms e,b];exact ih
theorem KT.kI {H:Hp}{kvs:List (List Key×V)}{xs:List (List Key×Addr×Value)}(r:KT H kvs xs) (k:List Key){y:V}{u:Value}(ry:RelV y u) :
 KT H (kvs.map fun kv=>if kv.1=k then (kv.1,y) else kv) (xs.map (putAt k u)):=by
 induction r with
 |nil=>exact .nil
 | @cons p q ps qs h t ih =>
  rw[zg,zg]
  refine .cons ?_ ih
  obtain⟨h1,h2,h3⟩:=h
  unfold putAt
  by_cases e:p.1=k
  ·rw[if_pos e,if_pos (h1.symm.trans e)];exact⟨h1,h2,ry⟩
  ·rw[if_neg e,if_neg (fun z=>e (h1.trans z))];exact⟨h1,h2,h3⟩
theorem KT.put {H:Hp}{kvs:List (List Key×V)}{xs:List (List Key×Addr×Value)}(r:KT H kvs xs) (k:List Key){b:Addr}{y:V}{u:Value}(hb:H b=some (.tup (k.map kV))) (ry:RelV y u) :
 KT H (putK kvs k y) (storedH xs k b u):=by
 have e:(kvs.any fun kv=>decide (kv.1=k))=(atKey xs k).isSome:=by
  rw[QZ,(r.val k).Fc,Option.isSome_map]
 unfold putK storedH
 rw[e]
 by_cases q:(atKey xs k).isSome=true
 ·rw[if_pos q,if_pos q];exact r.kI k ry
 ·rw[if_neg q,if_neg q];exact Paired.snoc r ⟨rfl,hb,ry⟩
theorem KT.keeps {H H':Hp}{kvs:List (List Key×V)}{xs:List (List Key×Addr×Value)}(r:KT H kvs xs) (ht:∀ b ys,H b=some (.tup ys)->H' b=some (.tup ys)):KT H' kvs xs :=
 Paired.iU r fun _ _ z=>⟨z.1,ht _ _ z.2.1,z.2.2⟩
section
variable {P:Program}{w:World}{H:Hp}{h:Heap}{a:Addr}
theorem gW {u:HO}(ok:Fq P w H h) (e:Rd H a u):BD P w H h a u:=e.ok ok
theorem Mu {kvs:List (Key×V)}(ok:Fq P w H h) (e:Rd H a (.dK kvs)):kvs.length<=sizeLine/\(a == sysModules)=false/\∃ vs,KV kvs vs/\h.DictOf (B6 P w) a vs :=
 show BD P w H h a (.dK kvs) from gW ok e
theorem gY {kvs:List (Key×V)}(ok:Fq P w H h) (e:H a=some (.dK kvs)):kvs.length<=sizeLine/\(a == sysModules)=false/\∃ vs,KV kvs vs/\h.DictOf (B6 P w) a vs:=Mu ok (.inl e)
theorem Ir {ks:List Key}(ok:Fq P w H h) (e:H a=some (.tup (ks.map kV))):(tupleKind (B6 P w)).is h ks a:=by
 obtain⟨_,aa,r,o,h1,h2,n,h3⟩:=(show BD P w H h a (.tup (ks.map kV)) from ok a _ e)
 exact⟨o,aa.toArray,n,h1,h2,h3,by simpa using Oy r⟩
theorem Mv {kvs:List (List Key×V)}(ok:Fq P w H h) (e:Rd H a (.dT kvs)):kvs.length<=sizeLine/\(a == sysModules)=false /\
 ∃ xs,KT H kvs xs/\h.DictOfH (tupleKind (B6 P w)) a xs:=by
 obtain⟨z,y,xs,r,o,es,ep,h1,h2,h3,h4,h5⟩:=(show BD P w H h a (.dT kvs) from gW ok e)
 refine⟨z,y,xs,r,o,es,ep,h1,h2,h3,h4,fun x hx=>?_,h5⟩
 have all:∀ {l:List (List Key×V)} {m:List (List Key×Addr×Value)},KT H l m->∀ x∈m,(tupleKind (B6 P w)).is h x.1 x.2.1:=by
  intro l m q
  induction q with
  |nil=>intro x hx;exact nomatch hx
  | @cons p q ps qs hq t ih =>
   intro x hx
   rcases zu.mp hx with e|hx
   ·subst e
    exact Ir ok (by rw[<-hq.1];exact hq.2.1)
   ·exact ih x hx
 exact all r x hx
theorem pB {kvs:List (List Key×V)}(ok:Fq P w H h) (e:H a=some (.dT kvs)):kvs.length<=sizeLine/\(a == sysModules)=false /\
 ∃ xs,KT H kvs xs/\h.DictOfH (tupleKind (B6 P w)) a xs:=Mv ok (.inl e)
end
noncomputable def Iv (H:Hp) (a:Addr) (y:V) (r:Option V):Prop :=
 (∃ kvs k,Rd H a (.dK kvs)/\y=kV k/\r=Lu kvs k)\/∃ kvs k b,Rd H a (.dT kvs)/\y=.ref b/\H b=some (.tup (k.map kV))/\r=Lu kvs k
noncomputable def pC (H:Hp) (a:Addr) (y v:V) (H':Hp):Prop :=
 (∃ kvs k,H a=some (.dK kvs)/\y=kV k/\kvs.length < sizeLine/\H'=upd H a (.dK (putK kvs k v))) \/
 ∃ kvs k b,H a=some (.dT kvs)/\y=.ref b/\H b=some (.tup (k.map kV))/\kvs.length < sizeLine/\H'=upd H a (.dT (putK kvs k v))
theorem Iv.k {H:Hp}{a:Addr}{kvs:List (Key×V)}{k:Key}(e:H a=some (.dK kvs)):Iv H a (kV k) (Lu kvs k):=.inl ⟨kvs,k,.inl e,rfl,rfl⟩
theorem Iv.t {H:Hp}{a b:Addr}{kvs:List (List Key×V)}{k:List Key}(e:H a=some (.dT kvs)) (eb:H b=some (.tup (k.map kV))):Iv H a (.ref b) (Lu kvs k):=.inr ⟨kvs,k,b,.inl e,rfl,eb,rfl⟩
section
variable {X:Cx}{pins:List (Addr×Obj)}{σ:St}{H:Hp}{s:Shared}{a:Addr}{y v:V}{u r:Value}{o:Option V}{A:Around}{E:Value->Shared->Prop}
theorem Inv.big (I:Inv X pins σ H s):sysModules < s.heap.objs.size:=by
 have h:mainGlobals < s.heap.objs.size:=(I.mod.glob.keeps I.bk).lt
 exact Nat.lt_trans (by decide) h
theorem VG {Q:Value->Shared->Prop}(hu:A.units + 1 < cLine) (I:Inv X pins σ H s) (g:Iv H a y (some v)) (ry:RelV y u) (h:∀ w' s',Inv X pins σ H s'->RelV v w'->Q w' s') :
 wpAny (model X.prog X.w) A (getItem (.ref a) u) Q E s:=by
 rcases g with ⟨kvs,k,e,ey,l⟩|⟨kvs,k,b,e,ey,eb,l⟩
 ·subst ey
  obtain⟨z,hd,vs,rel,dd⟩:=Mu I.Av e
  obtain⟨w',hw,bz⟩:=Gj.some_of (v:=v) (o:=valueAt vs k) (by rw[l];exact rel.val k)
  exact wpAny_getItem_of (Mt ry) dd.mapOf hw (h w' _ (I.tok _) bz)
 ·subst ey
  cases (show u=yN b from ry)
  obtain⟨z,hd,xs,rel,dd⟩:=Mv I.Av e
  obtain⟨w',hw,bz⟩:=Gj.some_of (v:=v) (o:=(atKey xs k).map (·.2)) (by rw[l];exact rel.val k)
  obtain⟨p,hp,we⟩:=Option.map_eq_some_iff.mp hw
  refine wpAny_getItem_heap (tupleKind_room_in1 hu) (Ir I.Av eb) dd hp ?_
  rw[we]
  exact h w' _ (I.tok _) bz
theorem tD {Q:Value->Shared->Prop}(hu:A.units + 1 < cLine) (I:Inv X pins σ H s) (g:Iv H a y o) (ry:RelV y u) (h:∀ s',Inv X pins σ H s'->Q (.bool o.isSome) s') :
 wpAny (model X.prog X.w) A (compareOp .In u (.ref a)) Q E s:=by
 rcases g with ⟨kvs,k,e,ey,l⟩|⟨kvs,k,b,e,ey,eb,l⟩
 ·subst ey
  obtain⟨z,hd,vs,rel,dd⟩:=Mu I.Av e
  refine wpAny_in_of (Mt ry) hd dd.mapOf ?_
  rw[<-(rel.val k).Fc,<-l]
  exact h _ (I.tok _)
 ·subst ey
  cases (show u=yN b from ry)
  obtain⟨z,hd,xs,rel,dd⟩:=Mv I.Av e
  refine wpAny_in_heap (tupleKind_room_in1 hu) (Ir I.Av eb) hd dd ?_
  have q:=(rel.val k).Fc
  rw[Option.isSome_map] at q
  rw[<-q,<-l]
  exact h _ (I.tok _)
theorem ZO {Q:Value->Shared->Prop}(hu:A.units + 1 < cLine) (I:Inv X pins σ H s) (g:Iv H a y o) (ry:RelV y u) (h:∀ s',Inv X pins σ H s'->Q (.bool (!o.isSome)) s') :
 wpAny (model X.prog X.w) A (compareOp .NotIn u (.ref a)) Q E s:=by
 rcases g with ⟨kvs,k,e,ey,l⟩|⟨kvs,k,b,e,ey,eb,l⟩
 ·subst ey
  obtain⟨z,hd,vs,rel,dd⟩:=Mu I.Av e
  refine wpAny_notIn_of (Mt ry) hd dd.mapOf ?_
  rw[<-(rel.val k).Fc,<-l]
  exact h _ (I.tok _)
 ·subst ey
  cases (show u=yN b from ry)
  obtain⟨z,hd,xs,rel,dd⟩:=Mv I.Av e
  refine wpAny_notIn_heap (tupleKind_room_in1 hu) (Ir I.Av eb) hd dd ?_
  have q:=(rel.val k).Fc
  rw[Option.isSome_map] at q
  rw[<-q,<-l]
  exact h _ (I.tok _)
theorem Py {h':Heap}{t':Nat}{ob:HO}(I:Inv X pins σ H s) (mu:nV (H a)) (hs:zb4 a s.heap h') (he:∃ q,h'.get? a=some q) (new:BD X.prog X.w (upd H a ob) h' a ob) :
 Inv X pins σ (upd H a ob) { s with heap:=h',toks:=t' } :=
 I.write (x:=a) (e:=a) mu (.inl rfl) (fun b q hb z=>(hs.2 b hb).trans z) he new
theorem Xo {P:Program}{w:World}{H':Hp}{h':Heap}{kvs:List (Key×V)}{vs:List (Key×Value)}(z:kvs.length<=sizeLine) (hd:(a == sysModules)=false) (rel:KV kvs vs) (dd:h'.DictOf (B6 P w) a vs) :
 BD P w H' h' a (.dK kvs):=⟨z,hd,vs,rel,dd⟩
theorem VH {H':Hp}{Q:Unit->Shared->Prop}(hu:A.units + 1 < cLine) (I:Inv X pins σ H s) (g:pC H a y v H') (ry:RelV y u) (rv:RelV v r) (h:∀ s',Inv X pins σ H' s'->Q () s') :
 wpAny (model X.prog X.w) A (setItem (.ref a) u r) Q E s:=by
 rcases g with ⟨kvs,k,e,ey,l,eH⟩|⟨kvs,k,b,e,ey,eb,l,eH⟩
 ·subst ey eH
  obtain⟨z,hd,vs,rel,dd⟩:=gY I.Av e
  have hz:vs.length<=sizeLine:=by rw[<-rel.length];exact z
  have hl:(putK kvs k v).length<=sizeLine:=by have:=EE kvs k v;omega
  refine wpAny_setItem_pairs (hsz:=hz) (Mt ry) dd fun h' e9 hs=>h _ ?_
  have he:∃ q,h'.get? a=some q:=let ⟨q,_,_,hq,_⟩:=e9;⟨q,hq⟩
  exact Py I (by rw[e];exact zax) hs he (Xo hl hd (rel.put k rv) e9)
 ·subst ey eH
  cases (show u=yN b from ry)
  obtain⟨z,hd,xs,rel,dd⟩:=pB I.Av e
  have hz:xs.length<=sizeLine:=by rw[<-Paired.length rel];exact z
  have hl:(putK kvs k v).length<=sizeLine:=by have:=EE kvs k v;omega
  refine wpAny_setItem_heap (hsz:=hz) (tupleKind_room_in1 hu) (Ir I.Av eb) dd fun h' e9 hs=>h _ ?_
  obtain⟨q,es,ep,hq,h2,h3,h4,_,h5⟩:=e9
  refine Py I (by rw[e];exact zax) hs ⟨q,hq⟩ ⟨hl,hd,_,(rel.put k eb rv).keeps fun c ys ec=>?_,q,es,ep,hq,h2,h3,h4,h5⟩
  rw[Ah (nU ec e (fun z=>nomatch z))]
  exact ec
end
theorem R3 {X:Cx}{pins:List (Addr×Obj)}{σ:St}{H:Hp}{s:Shared}{a:Addr}{y:V}{o:Option V}(I:Inv X pins σ H s) (g:Iv H a y o):s.TypeIs (.ref a) "dict" := by
 rcases g with ⟨kvs,k,e,_,_⟩|⟨kvs,k,b,e,_,_,_⟩
 ·obtain⟨_,_,vs,_,dd⟩:=Mu I.Av e
  exact dd.typeIs
 ·obtain⟨_,_,xs,_,dd⟩:=Mv I.Av e
  exact dd.typeIs
noncomputable def pE (td ty tv:TE):TS:=fun D σ H=>tv σ H fun v H1=>td σ H1 fun x H2=>ty σ H2 fun y H3=>∃ a H4,x=.ref a/\pC H3 a y v H4/\D.nx σ H4
section
variable {X:Cx}{o i e value:Expr}{pos pos' bE:Pos}{td ty tv:TE}
theorem ZP (hu:X.A.units + 1 < cLine) (ho:PE X o td) (hi:PE X i ty) (hv:PE X value tv) (hs:swapsWith value (some (.Subscript o i pos')) pos.line X.env=pure false) :
 PS X (.Assign [.Subscript o i pos'] value pos) (pE td ty tv):=by
 intro pins s σ H D I h
 refine wpAny_Assign_Subscript (Be (hv pins s σ H _ I h) fun r s1 ⟨v,H1,I1,rv,q1⟩=>Be (ho pins s1 σ H1 _ I1 q1) fun u s2 ⟨x,H2,I2,rx,q2⟩=>Be (hi pins s2 σ H2 _ I2 q2) fun iv s3 ⟨y,H3,I3,ry,a,H4,ex,g,q3⟩=>?_) hs
 subst ex
 obtain rfl:u=yN a:=rx
 exact VH hu I3 g ry rv fun s4 I4=>⟨σ,H4,I4,q3⟩
end
theorem R4 {P:Program}{w:World}{H:Hp}(h:Heap) (hb:sysModules < h.objs.size):BD P w H (h.push { cls:=.type "dict",data:=.dict #[] }) h.objs.size (.dK []) :=
 ⟨zW _,beq_eq_false_iff_ne.mpr (yL (zG hb)),[],.nil,Heap.DictOf.new h⟩
theorem Xp {P:Program}{w:World}{H:Hp}(h:Heap) (hb:sysModules < h.objs.size):BD P w H (h.push { cls:=.type "dict",data:=.dict #[] }) h.objs.size (.dT []) :=
 ⟨zW _,beq_eq_false_iff_ne.mpr (yL (zG hb)),[],.nil,_,#[],0,zI _ rfl,⟨rfl,rfl,rfl⟩,rfl,rfl,za7⟩
noncomputable def kJ:TE:=fun _ H Q=>∀ p,H p=none->Q (.ref p) (upd H p (.dK []))
noncomputable def kK:TE:=fun _ H Q=>∀ p,H p=none->Q (.ref p) (upd H p (.dT []))
section
variable {X:Cx}{pos:Pos}
theorem Xq:PE X (.Dict [] [] pos) kJ:=fun pins s σ H Q I h =>
 wpAny_Dict_empty ⟨.ref s.heap.objs.size,_,I.laid (a:=s.heap.objs.size) (o:=.dK []) (t':=s.toks) (fun _ _ q=>zr _ q) (zB _) (R4 s.heap I.big),rfl,h _ (I.Av.fresh (zB _))⟩
theorem Xr:PE X (.Dict [] [] pos) kK:=fun pins s σ H Q I h =>
 wpAny_Dict_empty ⟨.ref s.heap.objs.size,_,I.laid (a:=s.heap.objs.size) (o:=.dT []) (t':=s.toks) (fun _ _ q=>zr _ q) (zB _) (Xp s.heap I.big),rfl,h _ (I.Av.fresh (zB _))⟩
end
noncomputable def SW:List (TE×TE)->St->Hp->(List (V×V)->Hp->Prop)->Prop
 |[],_,H,Q=>Q [] H
 |(tk,tv)::r,σ,H,Q=>tk σ H fun x H1=>tv σ H1 fun y H2=>SW r σ H2 fun ps H3=>Q ((x,y)::ps) H3
noncomputable abbrev VV:List (V×V)->List (Value×Value)->Prop:=Paired fun p q=>RelV p.1 q.1/\RelV p.2 q.2
noncomputable def rF (X:Cx) (pos:Pos) (keys:List (Option Expr)) (values:List Expr) (cN:List (TE×TE)):Prop :=
 ∀(pins:List (Addr×Obj)) (s:Shared) (σ:St) (H:Hp) (Q:List (V×V)->Hp->Prop),Inv X pins σ H s->SW cN σ H Q->
  wpAny (model X.prog X.w) X.A (evalPairs (pairTrees keys values X.env pos)) (fun vs s'=>∃ ps H',Inv X pins σ H' s'/\VV ps vs/\Q ps H') X.xe s
theorem ZQ {X:Cx}{pos:Pos}:rF X pos [] [] []:=fun pins s σ H Q I h=>pairTrees_nil_walk ⟨[],H,I,.nil,h⟩
theorem Xs {X:Cx}{pos:Pos}{k v:Expr}{ks:List (Option Expr)}{vs:List Expr}{tk tv:TE}{cN:List (TE×TE)}(hk:PE X k tk) (hv:PE X v tv) (hr:rF X pos ks vs cN) :
 rF X pos (some k::ks) (v::vs) ((tk,tv)::cN):=fun pins s σ H Q I h =>
 pairTrees_cons_walk (Be (hk pins s σ H _ I h) fun u s1 ⟨x,H1,I1,rx,q1⟩=>Be (hv pins s1 σ H1 _ I1 q1) fun w2 s2 ⟨y,H2,I2,ry,q2⟩ =>
  Be (hr pins s2 σ H2 _ I2 q2) fun ws s3 ⟨ps,H3,I3,rel,q3⟩=>⟨(x,y)::ps,H3,I3,.cons ⟨rx,ry⟩ rel,q3⟩)
noncomputable def Gx (kvs more:List (Key×V)):List (Key×V):=more.foldl (fun acc kv=>putK acc kv.1 kv.2) kvs
theorem KV.merge:∀ {more:List (Key×V)}{rs:List (Key×Value)}{kvs:List (Key×V)}{vs:List (Key×Value)},KV more rs->KV kvs vs->KV (Gx kvs more) (merged vs rs):=by
 intro more rs kvs vs r
 unfold KV at r
 induction r generalizing kvs vs with
 |nil=>intro q;exact q
 | @cons p q ps qs h t ih =>
  intro r0
  have e:KV (putK kvs p.1 p.2) (stored vs q.1 q.2):=by
   have:=r0.put p.1 h.2
   rw[<-h.1];exact this
  exact ih e
theorem Ib:∀(more kvs:List (Key×V)),(Gx kvs more).length<=kvs.length + more.length
 |[],kvs=>by show kvs.length<=kvs.length + 0;omega
 |p::r,kvs=>by
  have h1:=Ib r (putK kvs p.1 p.2)
  have h2:=EE kvs p.1 p.2
  show (Gx (putK kvs p.1 p.2) r).length<=_
  rw[zp];omega
theorem Mw {P:Program}{w:World}:∀ {kvs:List (Key×V)}{ws:List (Value×Value)},VV (kvs.map fun kv=>(kV kv.1,kv.2)) ws->∃ rs,Carries (B6 P w) ws rs/\KV kvs rs
 |[],_,r=>by rw[zau] at r;cases r;exact⟨[],zax,.nil⟩
 |p::kvs,_,r=>by
  rw[zg] at r
  cases r with
  | @cons a b as bs h t =>
   obtain⟨rs,c,q⟩:=Mw (P:=P) (w:=w) t
   obtain⟨b1,b2⟩:=b
   exact⟨(p.1,b2)::rs,⟨Mt h.1,rfl,c⟩,.cons ⟨rfl,h.2⟩ q⟩
noncomputable def pF (cN:List (TE×TE)):TE:=fun σ H Q=>∀ p,H p=none->SW cN σ (upd H p (.dK [])) fun ps H2=>H2 p=some (.dK [])/\∃ kvs:List (Key×V),ps=kvs.map (fun kv=>(kV kv.1,kv.2))/\kvs.length<=15/\Q (.ref p) (upd H2 p (.dK (Gx [] kvs)))
theorem ZR {X:Cx}{pos:Pos}{keys:List (Option Expr)}{values:List Expr}{cN:List (TE×TE)}(h:rF X pos keys values cN) (aF:keys.all (·.isSome)=true) (hl:keys.length=values.length) (h0:keys≠[])
 (wg:keys.length<=15):PE X (.Dict keys values pos) (pF cN):=by
 intro pins s σ H Q I q
 have hn:=I.Av.fresh (zB s.heap.objs.size)
 have I1:=I.laid (a:=s.heap.objs.size) (o:=.dK []) (h':=s.heap.push { cls:=.type "dict",data:=.dict #[] }) (t':=s.toks) (fun _ _ q=>zr _ q) (zB _) (R4 s.heap I.big)
 refine wpAny_Dict_walk (knd:=B6 X.prog X.w) aF hl h0 wg (Be (h pins _ σ _ _ I1 (q _ hn)) fun ws s2 ⟨ps,H2,I2,rel,e,kvs,ep,lk,q2⟩=>?_)
 subst ep
 obtain⟨rs,c,rk⟩:=Mw (P:=X.prog) (w:=X.w) rel
 obtain⟨z,hd,uK,r0,dd⟩:=gY I2.Av e
 cases r0
 refine⟨rs,c,dd,fun h' e9 hs=>⟨.ref s.heap.objs.size,_,?_,rfl,q2⟩⟩
 have hz:(Gx [] kvs).length<=sizeLine:=by
  have h1:=Ib kvs []
  rw[List.length_nil] at h1
  rw[sizeLine_eq];omega
 have he:∃ q,h'.get? s.heap.objs.size=some q:=let ⟨q,_,_,hq,_⟩:=e9;⟨q,hq⟩
 exact Py I2 (by rw[e];exact zax) hs he (Xo hz hd (rk.merge .nil) e9)
structure M1 (X:Cx) (o:Expr) (m:Str) (apos:Pos) (e:Expr) (ac:Pos):Prop where
 base:attributeBase o m X.env (eval o X.env)=eval o X.env
 wA:((backTo ac (starEach [e] X.env)).all (fun x => !x.1) && (backToKw ac (keywordEach [] X.env)).all (fun x=>x.1.isSome)
  && decide (([e]:List Expr).length + ([]:List Keyword).length + (if ([]:List Keyword).isEmpty then 0 else 1) < 30))=true
 line:(apos.endLine == ac.line)=true
 pG:backTo ac (starEach [e] X.env)=[(false,eval e X.env)]
noncomputable def tE (H:Hp) (a:Addr):Prop:=(∃ kvs,Rd H a (.dK kvs))\/∃ kvs,Rd H a (.dT kvs)
theorem SX {X:Cx}{pins:List (Addr×Obj)}{σ:St}{H:Hp}{s:Shared}{a:Addr}(I:Inv X pins σ H s) (d:tE H a) :
 s.TypeIs (.ref a) "dict" /\ (∀ b,yN a=.ref b->∃ ob,s.heap.get? b=some ob/\ob.dict=none)/\(a == sysModules)=false:=by
 rcases d with ⟨kvs,e⟩|⟨kvs,e⟩
 ·obtain⟨_,hd,vs,_,dd⟩:=Mu I.Av e
  refine⟨dd.typeIs,fun b q=>?_,hd⟩
  cases q
  obtain⟨ob,_,_,h1,h2,_⟩:=dd
  exact⟨ob,h1,h2.2.1⟩
 ·obtain⟨_,hd,xs,_,dd⟩:=Mv I.Av e
  refine⟨dd.typeIs,fun b q=>?_,hd⟩
  cases q
  obtain⟨ob,_,_,h1,h2,_⟩:=dd
  exact⟨ob,h1,h2.2.1⟩
section
variable {X:Cx}{pins:List (Addr×Obj)}{σ:St}{H:Hp}{s:Shared}{a:Addr}{y d:V}{u r:Value}{o:Option V}{A:Around}{E:Value->Shared->Prop}
theorem kL {Q:Value->Shared->Prop}(hu:A.units + 1 < cLine) (I:Inv X pins σ H s) (g:Iv H a y o) (ry:RelV y u) (h:∀ w' s',Inv X pins σ H s'->RelV (o.getD .AA) w'->Q w' s') :
 wpAny (model X.prog X.w) A (call (.builtin "dict.get") [.ref a,u]) Q E s:=by
 rcases g with ⟨kvs,k,e,ey,l⟩|⟨kvs,k,b,e,ey,eb,l⟩
 ·subst ey
  obtain⟨z,hd,vs,rel,dd⟩:=Mu I.Av e
  refine call_meetsIn PySem.F.slot_dict_get dd.typeIs PySem.F.entry_dict_get (PySem.F.args_dict_get_2 _ _) (meets_dict_get (B6 X.prog X.w) a (Mt ry) hd) ⟨_,dd.mapOf,h _ _ (I.tok _) ?_⟩
  rw[l]
  exact (rel.val k).getD rfl
 ·subst ey
  cases (show u=yN b from ry)
  obtain⟨z,hd,xs,rel,dd⟩:=Mv I.Av e
  refine call_meetsIn PySem.F.slot_dict_get dd.typeIs PySem.F.entry_dict_get (PySem.F.args_dict_get_2 _ _) (meetsH_dict_get (tupleKind (B6 X.prog X.w)) a b hd) ⟨tupleKind_room_in1 hu,k,xs,Ir I.Av eb,dd,h _ _ (I.tok _) ?_⟩
  rw[l]
  exact (rel.val k).getD rfl
end
noncomputable def kM (td ty:TE):TE:=fun σ H Q=>td σ H fun x H1=>∃ a,x=.ref a/\tE H1 a/\ty σ H1 fun y H2=>∃ o,Iv H2 a y o/\Q (o.getD .AA) H2
section
variable {X:Cx}{o e f:Expr}{apos ac:Pos}{td ty tx:TE}
theorem Xu (hu:X.A.units + 1 < cLine) (ho:PE X o td) (he:PE X e ty) (m:M1 X o "get" apos e ac):PE X (.Call (.Attribute o "get" apos) [e] [] ac) (kM td ty):=by
 intro pins s σ H Q I h
 refine wpAny_Call_method m.base m.wA m.line PySem.F.plainAttrs_dict PySem.F.slot_dict_get PySem.F.type_dict_get (Be (ho pins s σ H _ I h) fun u s1 ⟨x,H1,I1,rx,a,ex,d,q1⟩=>?_)
 subst ex
 obtain rfl:u=yN a:=rx
 obtain⟨t1,t2,_⟩:=SX I1 d
 refine⟨t1,t2,?_⟩
 rw[m.pG]
 refine Calls.callWith_builtin rfl (Calls.evalArgs_plain (zaz (Be (he pins s1 σ H1 _ I1 q1) fun iv s2 ⟨y,H2,I2,ry,ov,g,q2⟩=>zb5 ?_)))
 exact kL hu I2 g ry fun w' s3 I3 bz=>⟨_,H2,I3,bz,q2⟩
end
noncomputable def J6 (sc outer:Scope):Bool :=
 decide (sc.kind=.function) && sc.names.all fun y=>decide (y.2≠.cell) && (decide (y.2≠.free) || decide (outer.names.lookup y.1=some .cell) || decide (outer.names.lookup y.1=some .free)) && (decide (y.2≠.local) || decide (sc.names.lookup y.1=some .local))
noncomputable def Pz (N NB:List Str) (sc:Scope) (μ:List (Option Nat)):Bool :=
 decide (NB.length=μ.length) && (NB.zip μ).all fun p=>match p.2 with
  |none=>true
  |some i=>decide (N[i]? =some p.1) && decide (sc.names.lookup p.1=some .free)
noncomputable def EW (μ:List (Option Nat)) (σ:St):St:=μ.map fun o=>o.bind fun i=>(σ[i]?).join
noncomputable def I9 (cells:List (Str×Addr)):List (Str×NameKind)->List (Str×Addr)->List (Str×Addr)
 |[],cs=>cs
 |(n,k)::r,cs=>I9 cells r (if (k == .free)=true then (n,(cells.lookup n).getD 0)::cs else cs)
theorem Ic {scope:Scope}{env:Env}(h:∀ y∈scope.names,y.2=.free->∃ c,env.cells.lookup y.1=some c):closureFor scope env=pure (I9 env.cells scope.names []):=by
 unfold closureFor
 have key:∀(names:List (Str×NameKind)) (cs:List (Str×Addr)),(∀ y∈names,y.2=.free->∃ c,env.cells.lookup y.1=some c)->
  (forIn names cs fun (x:Str×NameKind) r=>match x with
   |(name,kind)=>if (kind == zb0)=true then do
    let __do_lift <-cellOf env name
    pure (zbi ((name,__do_lift)::r))
    else pure (zbi r):Sem _)=pure (I9 env.cells names cs):=by
  intro names
  induction names with
  |nil=>intro cs _;rfl
  |cons y r ih =>
   intro cs hy
   obtain⟨n,k⟩:=y
   rw[List.forIn_cons]
   by_cases hk:k=.free
   ·subst hk
    obtain⟨c,hc⟩:=hy (n,.free) ze rfl
    have e:cellOf env n=pure c:=by unfold cellOf;rw[show env.cells.lookup n=some c from hc]
    simp only[e,beq_self_eq_true,if_true,pure_bind]
    rw[ih _ fun z hz=>hy z (zf _ hz)]
    simp only[I9,beq_self_eq_true,if_true]
    rw[show env.cells.lookup n=some c from hc];rfl
   ·have hb:(k == zb0)=false:=by simpa using hk
    simp only[hb,zF,if_false,pure_bind]
    rw[ih _ fun z hz=>hy z (zf _ hz)]
    simp only[I9,hb,zF,if_false]
 have q:=key scope.names [] h
 simp only[bind_pure]
 exact q
theorem R5 {cells:List (Str×Addr)}:∀ {names:List (Str×NameKind)}{cs:List (Str×Addr)}{x:Str}{c:Addr},(x,c)∈I9 cells names cs->(x,c)∈cs\/((x,.free)∈names/\c=(cells.lookup x).getD 0)
 |[],cs,x,c,h=>.inl h
 |(n,k)::r,cs,x,c,h=>by
  rcases R5 (names:=r) h with q|⟨q,e⟩
  ·by_cases hk:k=.free
   ·subst hk
    simp only[beq_self_eq_true,if_true] at q
    rcases zu.mp q with z|z
    ·cases z;exact .inr ⟨ze,rfl⟩
    ·exact .inl z
   ·have hb:(k == zb0)=false:=by simpa using hk
    simp only[hb,zF,if_false] at q
    exact .inl q
  ·exact .inr ⟨zf _ q,e⟩
theorem Mx {cells:List (Str×Addr)}:∀ {names:List (Str×NameKind)}{cs:List (Str×Addr)}{p:Str×Addr},p∈cs->p∈I9 cells names cs
 |[],_,_,h=>h
 |(n,k)::r,cs,p,h=>by
  show p∈I9 cells r _
  refine Mx ?_
  by_cases hk:(k == zb0)=true
  ·rw[if_pos hk];exact zf _ h
  ·rw[if_neg hk];exact h
theorem My {cells:List (Str×Addr)}:∀ {names:List (Str×NameKind)}{cs:List (Str×Addr)}{x:Str},(x,.free)∈names->∃ c,(x,c)∈I9 cells names cs
 |(n,k)::r,cs,x,h=>by
  rcases zu.mp h with z|z
  ·cases z
   refine⟨(cells.lookup n).getD 0,?_⟩
   show _∈I9 cells r (if (zb0 == zb0)=true then _ else _)
   exact Mx (by rw[if_pos (beq_self_eq_true _)];exact ze)
  ·exact My (names:=r) z
theorem EX {x:Str}{c:Addr}:∀ {l:List (Str×Addr)},(x,c)∈l->∃ c',l.lookup x=some c'
 |(y,d)::r,h=>by
  rw[zaw]
  by_cases e:(x == y)=true
  ·rw[e];exact⟨d,rfl⟩
  ·rw[Bool.eq_false_iff.mpr e]
   rcases zu.mp h with z|z
   ·cases z;exact absurd (beq_self_eq_true x) e
   ·exact EX z
theorem J7 {scope:Scope}{env:Env}{x:Str}{k:NameKind}(h:(relabel scope env).names.lookup x=some k):∃ k',scope.names.lookup x=some k'/\(k=k'\/(k'=.free/\k=.cell)):=by
 unfold relabel at h
 dsimp only at h
 revert h
 induction scope.names with
 |nil=>intro h;cases h
 |cons y r ih =>
  obtain⟨n,k'⟩:=y
  intro h
  rw[zg,zaw] at h
  rw[zaw]
  by_cases hc:(k' == zb0 && env.scope.kind == .function && env.kindOf n == some .cell)=true
  ·dsimp only at h
   rw[if_pos hc] at h
   dsimp only at h
   cases e:x == n with
   |true =>
    rw[e] at h
    have hf:k'=.free:=by
     have:=hc
     simp only[zS] at this
     simpa using this.1.1
    exact⟨k',rfl,.inr ⟨hf,(zJ h).symm⟩⟩
   |false=>rw[e] at h;exact ih h
  ·dsimp only at h
   rw[if_neg hc] at h
   dsimp only at h
   cases e:x == n with
   |true=>rw[e] at h;exact⟨k',rfl,.inl (zJ h).symm⟩
   |false=>rw[e] at h;exact ih h
theorem lookup_mem {α:Type}{x:Str}{k:α}:∀ {l:List (Str×α)},l.lookup x=some k->(x,k)∈l
 |(y,d)::r,h=>by
  rw[zaw] at h
  cases e:x == y with
  |true =>
   rw[e] at h;cases h;have:x=y:=by simpa using e
   subst this;exact ze
  |false=>rw[e] at h;exact zf _ (lookup_mem h)
noncomputable def blockOf (X:Cx) (s:Shared) (H:Hp) (scope:Scope) (C:Addr) (NB:List Str) (ex:List Addr):Cx :=
 { X with N:=NB,s₀:=s,H₀:=H,env:=compEnvC scope (I9 X.env.cells scope.names []) C X.env,outer:=X.stack,stack:=X.stack,ex:=ex,fn:=fun _=>false,pn:=[],xe:=fun _ _=>False }
section
variable {X:Cx}{pins:List (Addr×Obj)}{σ:St}{H:Hp}{s s4:Shared}{scope:Scope}{NB:List Str}{μ:List (Option Nat)}{fp:List Addr}{C:Addr}
theorem Hm (h:J6 scope X.env.scope=true):scope.kind=.function:=by
 unfold J6 at h
 simp only[zS,decide_eq_true_eq] at h
 exact h.1
theorem Hn {sc outer:Scope}(h:J6 sc outer=true){y:Str×NameKind}(hy:y∈sc.names):y.2≠.cell/\(y.2=.free->outer.names.lookup y.1=some .cell\/outer.names.lookup y.1=some .free)/\(y.2=.local->sc.names.lookup y.1=some .local):=by
 unfold J6 at h
 simp only[zS,decide_eq_true_eq,zbh,Bool.or_eq_true] at h
 obtain⟨⟨h1,h2⟩,h3⟩:=h.2 y hy
 exact⟨h1,fun e=>by
  rcases h2 with (q|q)|q
  ·exact absurd e q
  ·exact .inl q
  ·exact .inr q,fun e=>h3.elim (fun q=>absurd e q) id⟩
theorem Iw (I:Inv X pins σ H s) (h:J6 scope X.env.scope=true){x:Str}(hx:(x,.free)∈scope.names):∃ c,X.env.cells.lookup x=some c:=I.ok.has x ((Hn h hx).2.1 rfl)
theorem E7 (I:Inv X pins σ H s) (h:J6 scope X.env.scope=true){x:Str}{c:Addr}(e:(I9 X.env.cells scope.names []).lookup x=some c):X.env.cells.lookup x=some c:=by
 rcases R5 (lookup_mem e) with q|⟨q,r⟩
 ·cases q
 ·obtain⟨c',e'⟩:=Iw I h q
  rw[e'] at r
  rw[e',r];rfl
theorem Mz {env:Env}(h:J6 scope env.scope=true){x:Str}{k:NameKind}(hk:(relabel scope env).names.lookup x=some k) (hc:k=.cell\/k=.free):(x,.free)∈scope.names:=by
 obtain⟨k',e,q⟩:=J7 hk
 have m:=lookup_mem e
 have n:=(Hn h m).1
 rcases q with q|⟨q,_⟩
 ·subst q
  rcases hc with z|z
  ·exact absurd z n
  ·subst z;exact m
 ·subst q;exact m
theorem ZS (h:Pz X.N NB scope μ=true):NB.length=μ.length/\∀(j i:Nat),μ[j]? =some (some i)->∃ x,NB[j]? =some x/\X.N[i]? =some x/\scope.names.lookup x=some .free:=by
 unfold Pz at h
 simp only[zS,decide_eq_true_eq,zbh] at h
 refine⟨h.1,fun j i e=>?_⟩
 have hj:j < NB.length:=by rw[h.1];exact (zA.mp e).1
 have m:(NB[j],some i)∈NB.zip μ:=by
  refine List.mem_iff_getElem?.mpr ⟨j,?_⟩
  rw[List.getElem?_zip_eq_some]
  exact⟨zt hj,e⟩
 have q:=h.2 _ m
 dsimp only at q
 simp only[zS,decide_eq_true_eq] at q
 exact⟨NB[j],zt hj,q.1,q.2⟩
theorem R6 (I:Inv X pins σ H s) (aG:J6 scope X.env.scope=true) (bG:Pz X.N NB scope μ=true) (ib:∀ b∈fp,Lq X pins H b) (lm:∀ b∈fp,∃ o,s.heap.get? b=some o)
 (hC:s.heap.objs.size<=C) {h4:Heap} {t4:Nat} (ns:h4.Ns C fun _=>none) (k:∀ b o,s.heap.get? b=some o->h4.get? b=some o) :
 Inv (blockOf X s H scope C NB fp) [] (EW μ σ) H { s with heap:=h4,toks:=t4 }:=by
 obtain⟨hlen,bG⟩:=ZS bG
 have uL:∀ b o,s.heap.get? b=some o->b≠C:=fun b o e=>zG (zC (zx e) hC)
 have ln:∀ x c,X.env.cells.lookup x=some c->c≠C:=fun x c e=>by
  obtain⟨v,o,ho,_⟩:=I.cell x c e
  exact uL c o ho
 refine⟨⟨I.ok.mod,(show scope.kind=_ from Hm aG),I.ok.glob,I.ok.blt,hC,fun x y c h1 h2=>I.ok.inj x y c (E7 I aG h1) (E7 I aG h2),fun x hx=>?_,fun x c h _=>(by cases h),I.ok.hd,I.ok.frames,.inl rfl,fun b hb=>?_,I.bs,yU I.ok.Zr I.sz,fun b o e hb=>?_,fun b hb hz=>?_,I.stack,I.Pm⟩,
  rfl,I.bare,Un.kept k,⟨_,ns,fun j x v e1 e2 e3=>?_⟩,fun x c e=>?_,I.Av.fresh hC,fun x c e=>I.Gp x c (E7 I aG e),fun p hp=>(by cases hp),I.Av.kept k,?_⟩
 ·have q:(x,zb0)∈scope.names:=by
   rcases hx with hx|hx
   ·exact Mz aG hx (.inl rfl)
   ·exact Mz aG hx (.inr rfl)
  obtain⟨c,m⟩:=My (cells:=X.env.cells) (cs:=[]) q
  exact EX m
 ·obtain⟨o,ho⟩:=lm b hb
  refine⟨uL b o ho,fun x c e z=>?_⟩
  exact (ib b hb).2.2.2.2.1 x c (E7 I aG e) z
 ·rcases (ib b hb).2.2.2.1 with z|z
  ·exact I.ok.WS b o e z
  ·exact absurd (zC (zx (I.ok.bs b o e).1) z) (Nat.lt_irrefl _)
 ·rcases zu.mp (I.SD b hz) with e|e
  ·exact (ib b hb).2.1 e
  ·exact (ib b hb).2.2.1 e
 ·have ja:(μ[j]?).map (fun o=>o.bind fun i=>(σ[i]?).join)=some (some v):=by
   rw[<-zH];exact e2
  cases q:μ[j]? with
  |none=>rw[q] at ja;cases ja
  |some o =>
   rw[q] at ja
   cases o with
   |none=>cases ja
   |some i =>
    have e4:(σ[i]?).join=some v:=by simpa using ja
    have e5:σ[i]? =some (some v):=by
     cases z:σ[i]? with
     |none=>rw[z] at e4;cases e4
     |some w=>rw[z] at e4;simp at e4;rw[e4]
    obtain⟨x',n1,n2,n3⟩:=bG j i q
    have ex:x'=x:=zJ (n1.symm.trans e1)
    subst ex
    have m:=lookup_mem n3
    have ov:=(Hn aG m).2.1 rfl
    obtain⟨mm,hn,hl⟩:=I.loc
    obtain⟨u,r,l⟩:=hl i x' v n2 e5 (ov.elim (fun z=>.inr (.inl z)) fun z=>.inr (.inr z))
    refine⟨u,r,.inr ⟨?_,?_⟩⟩
    ·rcases e3 with z|z|z
     ·obtain⟨k',z1,z2⟩:=J7 (k:=.local) z
      rw[n3] at z1
      cases z1
      rcases z2 with z2|⟨_,z2⟩<;>cases z2
     ·exact .inl z
     ·exact .inr z
    ·rcases l with ⟨l,_⟩|⟨_,c,l1,l2⟩
     ·rcases ov with z|z<;>(rw[show X.env.kindOf x'=_ from z] at l;cases l)
     ·obtain⟨c',m'⟩:=My (cells:=X.env.cells) (cs:=[]) m
      obtain⟨yy,l3⟩:=EX m'
      have l4:=E7 I aG l3
      rw[l1] at l4
      cases l4
      refine⟨c,l3,?_⟩
      obtain⟨o,ho,hd⟩:=l2
      exact⟨o,k _ _ ho,hd⟩
 ·obtain⟨v,o,ho,hd⟩:=I.cell x c (E7 I aG e)
  exact⟨v,o,k _ _ ho,hd⟩
 ·show (EW μ σ).length=NB.length
  unfold EW
  rw[zc,hlen]
theorem Fq.adopt {P:Program}{w:World}{H:Hp}{h:Heap}{a:Addr}{o:HO}(x:Fq P w H h) (hn:H a=none) (new:BD P w (upd H a o) h a o):Fq P w (upd H a o) h:=fun b u e=>by
 by_cases hb:b=a
 ·subst hb;rw[Ar] at e;cases e;exact new
 ·rw[Ah hb] at e
  exact (x b u e).Pj (fun c v _ q=>q) (fun c q=>by rw[Ah (Az q hn)];exact q) fun c xs q=>by rw[Ah (Az q hn)];exact q
theorem VI {H':Hp}{s':Shared}{h':Heap}{D:Addr}{pl:List (Addr×Obj)}{σ':St}{aa:List Value}{ys:List V}{n:Nat}(I:Inv X pins σ H s) (ib:∀ b∈fp,Lq X pins H b) (J:Inv (blockOf X s H scope C NB fp) pl σ' H' s')
 (hC:s.heap.objs.size<=C) (hD:s.heap.objs.size<=D) (cI:D≠C) (eD:s'.heap.get? D=some { cls:=.type "list",data:=.seq aa.toArray n }) (nD:H' D=none) (r:Vals ys aa) (hz:ys.length<=sizeLine)
 (sb:zb4 C s'.heap h'):Inv X pins σ (upd H' D (.lst ys)) { s' with heap:=h' }:=by
 have fc:∀ b o,s.heap.get? b=some o->b≠C:=fun b o e=>zG (zC (zx e) hC)
 have ng:∀ b o,s.heap.get? b=some o->b≠D:=fun b o e=>zG (zC (zx e) hD)
 have freshD:H D=none:=I.Av.fresh hD
 have nC:H' C=none:=J.free
 have u:Un (L4 X.stack) fp H H' s.heap s'.heap:=J.base
 have e8:Fq X.prog X.w H' h':=fun b ob e=>(J.Av b ob e).Pj (fun c v hc q=>(sb.2 c (by
  intro z
  subst z
  rcases hc with rfl|hc
  ·rw[nC] at e;cases e
  ·rw[nC] at hc;cases hc)).trans q) (fun _ q=>q) fun _ _ q=>q
 refine I.gN (ch:=fp) J.os ⟨fun b o e n hb hx=>?_,fun b o e n hb hx=>?_,fun b o e n hx=>?_,fun b o e hx=>?_,fun b xs e=>?_,fun b o u' e=>?_,fun b ps e=>?_⟩ (e8.adopt nD ⟨hz,aa,n,r,(sb.2 D cI).trans eD⟩) J.bare fun b hb=>?_
 ·exact (sb.2 b (fc b o e)).trans (u.keep b o e n hb hx)
 ·obtain⟨sl,q⟩:=u.slot b o e n hb hx
  exact⟨sl,(sb.2 b (fc b o e)).trans q⟩
 ·rw[Ah (ng b o e)];exact u.free b o e n hx
 ·obtain⟨o',q⟩:=u.there b o e hx
  exact⟨o',(sb.2 b (fc b o e)).trans q⟩
 ·rw[Ah (Az e freshD)];exact u.NS b xs e
 ·rw[Ah (Az e freshD)];exact u.Ml b o u' e
 ·rw[Ah (Az e freshD)];exact u.NT b ps e
 ·obtain⟨_,f1,_,f3,f4,f5⟩:=ib b hb
  exact⟨f3,f1,f4,f5⟩
end
theorem PB {prog:Program}{w:World}{A:Around}{R:Result->Shared->Prop}{s:Shared}{elt target iter:Expr}{ifs:List Expr}{scope:Scope}{pos:Pos}{it acc:Value}{env:Env}(I:Nat->Shared->Prop)
 (turn:∀ n s,I n s->wpAny (model prog w) A (pyNext it) (fun r s₁=>match r with
  |none=>R (.ok .next) s₁
  |some v=>wpAny (model prog w) A (letOwnedTupleGo target it v) (fun _ s₁'=>wpAny (model prog w) A (assign target env v) (fun _ s₂ =>
   wpAny (model prog w) A (forIn ifs true fun c r=>if r=true then do let ok <-isTrue c env (eval c env);pure (zbi ok) else pure (zbi r)) (fun ok s₃ =>
    if ok=true then wpAny (model prog w) A (eval elt env) (fun x s₄ =>
     wpAny (model prog w) A (call (.builtin "list.append") [acc,x]) (fun _ s₅=>∃ m,m < n/\I m s₅) (fun _ _=>False) s₄) (fun _ _=>False) s₃
    else ∃ m,m < n/\I m s₃) (fun _ _=>False) s₂) (fun _ _=>False) s₁') (fun _ _=>False) s₁) (fun _ _=>False) s)
 (n:Nat) (h:I n s) :
 codeAny (model prog w) A (.compLoop (.ListComp elt [⟨target,iter,ifs,0⟩] scope pos) 0 it acc env) R s:=by
 refine codeAny_loop rfl I (fun n s hI=>?_) n h
 show wpAny _ A ((compTurn (.ListComp elt [⟨target,iter,ifs,0⟩] scope pos) 0 it acc env).onRaise (fun x=>do noteFrame x env;theTreesLotGoes x)) _ _ s
 refine wpAny_noted ?_
 rw[compTurn_list]
 refine wpAny_bind (wpAny_standAt (wpAny_bind (wpAny_mono (turn n s hI) (fun r s₁ h₁=>?_) fun _ _ h'=>h'.elim)))
 cases r with
 |none=>exact wpAny_pure h₁
 |some v =>
  refine wpAny_bind (wpAny_mono h₁ (fun _ s₁' h₁'=>?_) fun _ _ h'=>h'.elim)
  refine wpAny_bind (wpAny_mono h₁' (fun _ s₂ h₂=>wpAny_bind (wpAny_mono h₂ (fun ok s₃ h₃=>?_) fun _ _ h'=>h'.elim)) fun _ _ h'=>h'.elim)
  cases ok with
  |false=>exact wpAny_pure ⟨rfl,h₃⟩
  |true =>
   exact wpAny_bind (wpAny_bind (wpAny_mono h₃ (fun x s₄ h₄=>wpAny_bind (wpAny_mono h₄ (fun _ s₅ h₅=>wpAny_pure (wpAny_pure ⟨rfl,h₅⟩)) fun _ _ h'=>h'.elim)) fun _ _ h'=>h'.elim))
noncomputable def nG (X:Cx) (cs:List Expr) (t:TT):Prop :=
 ∀(pins:List (Addr×Obj)) (s:Shared) (σ:St) (H:Hp) (Q:Bool->Hp->Prop),Inv X pins σ H s->t σ H Q->
  wpAny (model X.prog X.w) X.A (forIn cs true fun c r=>if r=true then do let ok <-isTrue c X.env (eval c X.env);pure (zbi ok) else pure (zbi r)) (TP X pins σ Q) X.xe s
noncomputable def tF:TT:=fun _ H Q=>Q true H
theorem ZT {X:Cx}:nG X [] tF:=fun _ _ _ H _ I h=>wpAny_tests_nil ⟨H,I,h⟩
theorem ZU {X:Cx}{c:Expr}{t:TT}(h:PT X c t):nG X [c] t:=fun pins s σ H Q I q=>wpAny_tests_one (h pins s σ H Q I q)
noncomputable def Kn (μ:List (Option Nat)) (g:TG):Prop:=∀ σ x H Q,g x (EW μ σ) H Q->g x (EW μ σ) H fun σ' H'=>Q σ' H'/\∀(j:Nat) v,(EW μ σ)[j]? =some (some v)->σ'[j]? =some (some v)
theorem ZV {μ:List (Option Nat)}{i:Nat}(h:μ[i]? =some none):Kn μ (Oi i):=fun σ x H Q q=>by
 refine⟨q,fun j v e=>?_⟩
 have af:j≠i:=fun z=>by
  subst z
  unfold EW at e
  rw[zH,h] at e
  cases e
 rw[yS (yL af)]
 exact e
noncomputable def uM (J:It) (H1:Hp) (Q:VK) (st:V->Hp->(St->Hp->Prop)->Prop) (tc:TT) (te:TE):Prop :=
 ∃ W:Nat->Nat->List V->Hp->Prop,(∃ m,W 0 m [] H1)/\∀ i m ys H2,W i m ys H2->
  (J.stop i H2/\∀ D,H2 D=none->Q (.ref D) (upd H2 D (.lst ys))) \/
  (J.go i H2/\ys.length < sizeLine/\∃ N:List V->Hp->Prop,(∀ bA H',N bA H'->∃ m',m' < m/\W (i + 1) m' bA H')/\∀ x H3,J.gO i H2 x H3->st x H3 fun σ4 H4=>tc σ4 H4 fun b H5=>if b=true then te σ4 H5 fun y H6=>N (ys++[y]) H6 else N ys H5)
noncomputable def Ul (wi:TI) (μ:List (Option Nat)) (g:TG) (tc:Shared->Hp->Addr->List Addr->TT) (te:Shared->Hp->Addr->List Addr->TE):TE:=fun σ H Q=>wi σ H fun J H1=>∀ s C ex,uM J H1 Q (fun x H K=>g x (EW μ σ) H K) (tc s H1 C ex) (te s H1 C ex)
section
variable {X:Cx}{pins:List (Addr×Obj)}{σ:St}{H2:Hp}{s2:Shared}{tg elt iter:Expr}{ifs:List Expr}{scope:Scope}{pos:Pos}{NB:List Str}{μ:List (Option Nat)}{g:TG}{tc:Shared->Hp->Addr->List Addr->TT}{te:Shared->Hp->Addr->List Addr->TE}{fp:List Addr}{it:Addr}{tn:Nat->Heap->Prop}{J:It}{Q:VK}
theorem Oz (hc:X.calm=true) (I2:Inv X pins σ H2 s2) (T:Turn X.prog X.w X.K tg J fp it tn) (cK:tn 0 s2.heap) (f2:∀ b∈fp,Lq X pins H2 b)
 (aG:J6 scope X.env.scope=true) (bG:Pz X.N NB scope μ=true) (jb:Kn μ g)
 (hb:∀(s:Shared) (H:Hp) (C:Addr) (ex:List Addr),PG (blockOf X s H scope C NB ex) tg g/\nG (blockOf X s H scope C NB ex) ifs (tc s H C ex)/\PE (blockOf X s H scope C NB ex) elt (te s H C ex))
 (q:∀ C,uM J H2 Q (fun x H K=>g x (EW μ σ) H K) (tc s2 H2 C fp) (te s2 H2 C fp)) {RR:Value->Addr->Result->Shared->Prop} {E:Value->Shared->Prop}
 (fin:∀(D C:Addr) (s':Shared) (H':Hp) (ys:List V) (m:Str->Option Value),s2.heap.objs.size<=D->s2.heap.objs.size<=C->D≠C->s'.heap.Ns C m->H' C=none->(∀ h',zb4 C s'.heap h'->Inv X pins σ (upd H' D (.lst ys)) { s' with heap:=h' })->Q (.ref D) (upd H' D (.lst ys))->RR (.ref D) C (.ok .next) s') :
 wpAny (model X.prog X.w) X.A (newList []) (fun acc s₃=>wpAny (model X.prog X.w) X.A (newFunctionEnv scope X.env.globals (I9 X.env.cells scope.names []) [] X.env.qual none .none (some X.env)) (fun jc s₄ =>
  codeAny (model X.prog X.w) X.A (.compStart (.ListComp elt [⟨tg,iter,ifs,0⟩] scope pos) 0 (.ref it) acc { jc with scope:=relabel scope X.env }) (RR acc jc.locals) s₄) E s₃) E s2:=by
 have bQ:∀ y∈scope.names,y.2≠.cell:=fun y hy=>(Hn aG hy).1
 refine wpAny_newObj_type (wpAny_newFunctionEnv bQ (by intro y hy;simp at hy) (fun h₁ hns₁ hsb₁=>?_) (Hm aG))
 dsimp only at hns₁ hsb₁ ⊢
 generalize nh:s2.heap.push { cls:=.type "list",dict:=none,data:=.seq ([]:List Value).toArray }=lp at hns₁ hsb₁ ⊢
 have hC:lp.objs.size=s2.heap.objs.size + 1:=by rw[<-nh,Heap.size_push]
 have cI:s2.heap.objs.size≠lp.objs.size:=by rw[hC];exact zG (Nat.lt_succ_self _)
 have jd:s2.heap.objs.size<=lp.objs.size:=by rw[hC];exact Nat.le_succ _
 have old:∀ b o,s2.heap.get? b=some o->h₁.get? b=some o:=fun b o e=>hsb₁.extBut b o (by rw[hC];exact zG (Nat.lt_succ_of_lt (zx e))) (zr _ (nh▸zr _ e))
 have eD:h₁.get? s2.heap.objs.size=some { cls:=.type "list",data:=.seq ([]:List Value).toArray }:=hsb₁.extBut _ _ cI (zr _ (nh▸zI _ rfl))
 have lm:∀ b∈fp,∃ o,s2.heap.get? b=some o:=fun b hb=>let ⟨o,e,_⟩:=T.obj _ _ cK b hb;⟨o,e⟩
 have ni:∀ b∈fp,b≠s2.heap.objs.size:=fun b hb=>let ⟨o,e⟩:=lm b hb;zG (zx e)
 generalize uN:s2.heap.objs.size=D at jd cI eD ni ⊢
 generalize yz:lp.objs.size=C at *
 have bX:s2.heap.objs.size<=D:=by rw[uN];exact zB _
 have cp:s2.heap.objs.size<=C:=by rw[uN];exact jd
 have I4:Inv (blockOf X s2 H2 scope C NB fp) [] (EW μ σ) H2 { s2 with heap:=h₁,toks:=s2.toks + ([]:List (Str×Value)).length }:=R6 I2 aG bG f2 lm cp (by simpa using hns₁) old
 have bD:∀ {H':Hp} {pl:List (Addr×Obj)},(∀ b∈fp,H' b=none)->(∀ p∈pl,p.1=D)->∀ b∈fp,Lq (blockOf X s2 H2 scope C NB fp) pl H' b:=fun {H' pl} hn hp b hb=>by
  refine⟨hn b hb,(I4.ok.rA b hb).1,I4.ok.WT b hb,.inl hb,fun x c e z=>(I4.ok.rA b hb).2 x c e z,fun p je z=>?_⟩
  have nj:p∈pl:=by simpa [blockOf] using je
  exact ni b hb (z▸hp p nj)
 have wj:D∉(blockOf X s2 H2 scope C NB fp).fs:=fun z=>by
  obtain⟨_,o,ho,_⟩:=I4.ok.J0.mem z
  exact absurd (zx ho) (Nat.not_lt.mpr bX)
 obtain⟨W,⟨m0,w0⟩,turn⟩:=q C
 have loop:∀ s₃:Shared,s₃={ s2 with heap:=h₁,toks:=s2.toks + ([]:List (Str×Value)).length } ->
  codeAny (model X.prog X.w) X.A (.compLoop (.ListComp elt [⟨tg,iter,ifs,0⟩] scope pos) 0 (.ref it) (.ref D) (compEnvC scope (I9 X.env.cells scope.names []) C X.env)) (RR (.ref D) C) s₃:=by
  rintro s₃ rfl
  refine PB (fun n s'=>∃ i ys aa k H',Inv (blockOf X s2 H2 scope C NB fp) [(D,{ cls:=.type "list",data:=.seq aa k })] (EW μ σ) H' s'/\tn i s'.heap/\(∀ b∈fp,H' b=none)/\Vals ys aa.toList/\ys.length<=sizeLine/\W i n ys H') ?_ m0
   ⟨0,[],#[],0,H2,I4.J2 fun p hp=>?_,T.keep _ _ _ cK fun b hb o e=>old b o e,fun b hb=>(f2 b hb).1,.nil,zW _,w0⟩
  rotate_left
  ·have e:=zh.mp hp
   subst e
   exact⟨eD,I2.Av.fresh bX,cI,wj,fun v=>by simp⟩
  rintro n s3 ⟨i,ys,aa,k,H3,I3,iq,ir,rv,hz,w3⟩
  rcases turn i n ys H3 w3 with ⟨stop,qn⟩|⟨go,aj,N,hN,step⟩
  ·refine wpAny_mono (T.done (blockOf X s2 H2 scope C NB fp) rfl rfl rfl hc i _ s3 _ H3 (fun _ _=>False) I3 (bD ir (by simp)) iq stop) (fun r s4 ⟨hr,lq⟩=>?_) fun _ _ e=>e
   subst hr
   obtain⟨p1,p2,p3,p4,p5⟩:=lq.pin _ (zq _ ze)
   obtain⟨m,hn,_⟩:=id lq.loc
   have e1:s4.heap.get? D=some { cls:=.type "list",data:=.seq aa.toList.toArray k }:=by simpa using p1
   exact fin D C s4 H3 ys m bX cp cI hn lq.free (fun h' sb=>VI I2 f2 lq cp bX cI e1 p2 rv hz sb) (qn D p2)
  ·refine wpAny_mono (T.item (blockOf X s2 H2 scope C NB fp) rfl rfl rfl hc i _ s3 _ H3 (fun _ _=>False) I3 (bD ir (by simp)) iq go) (fun r s4 ⟨u,hr,h4⟩=>?_) fun _ _ e=>e
   subst hr
   refine Be h4 fun _ s5 ⟨x,H5,I5,r5,y5,eh,mq⟩=>?_
   have mr:=I5.pinned (bD mq (by simp)) (T.obj _ _ eh)
   have ck:=jb σ x H5 _ (step x H5 y5)
   obtain⟨hg,ht,he⟩:=hb s2 H2 C fp
   refine Be (hg _ s5 _ H5 x u _ mr r5 ck) fun _ s6 ⟨σ6,H6,I6,q6,k6⟩=>?_
   refine Be (ht _ s6 σ6 H6 _ I6 q6) fun ok s7 ⟨H7,I7,q7⟩=>?_
   have again:∀ {H8:Hp} {s8:Shared} {its':Array Value} {k':Nat} {bA:List V},Inv (blockOf X s2 H2 scope C NB fp) ([(D,{ cls:=.type "list",data:=.seq its' k' })]++Im fp s5.heap) σ6 H8 s8->Vals bA its'.toList->bA.length<=sizeLine->(∃ m,m < n/\W (i + 1) m bA H8)->
    ∃ m,m < n/\∃ i ys aa k H',Inv (blockOf X s2 H2 scope C NB fp) [(D,{ cls:=.type "list",data:=.seq aa k })] (EW μ σ) H' s8/\tn i s8.heap/\(∀ b∈fp,H' b=none)/\Vals ys aa.toList/\ys.length<=sizeLine/\W i m ys H':=fun {H8 s8 its' k' bA} I8 bi wk n8=>by
    obtain⟨m',hm,w8⟩:=n8
    refine⟨m',hm,i + 1,bA,its',k',H8,(I8.J3.weak ?_ k6),T.keep _ _ _ eh fun b hb o e=>(I8.pin (b,o) (zq _ (zq _ (Fu hb e)))).1,fun b hb=>?_,bi,wk,w8⟩
    ·rw[I8.len];exact I4.len
    ·obtain⟨o,e,d⟩:=T.obj _ _ eh b hb
     exact (I8.pin (b,o) (zq _ (zq _ (Fu hb e)))).2.1
   cases ok with
   |false =>
    simp only[zF,if_false] at q7 ⊢
    exact again I7 rv hz (hN _ _ q7)
   |true =>
    simp only[if_true] at q7 ⊢
    refine Be (he _ s7 σ6 H7 _ I7 q7) fun uy s8 ⟨y,H8,I8,r8,q8⟩=>?_
    obtain⟨p1,p2,p3,p4,p5⟩:=I8.pin (D,_) (zq _ (zO _ ze))
    have e1:s8.heap.get? D=some { cls:=.type "list",data:=.seq aa k }:=p1
    have hsz:aa.size=ys.length:=by rw[<-Array.length_toList];exact rv.length.symm
    refine call_meets F.slot_list_append ⟨_,e1,rfl⟩ F.entry_list_append (F.args_list_append_2 _ _) (PySem.list_append D aa k uy (by rw[hsz];omega)) ⟨e1,?_⟩
    have nk:=PySem.IsL.update e1 (·.push uy)
    have Iu:Inv (blockOf X s2 H2 scope C NB fp) (Im fp s5.heap) σ6 H8 s8:=I8.J2 fun p hp=>I8.pin p (zq _ (zq _ hp))
    have It:=Iu.turned (it:=D) (h':=s8.heap.update D (zas (·.push uy))) (t':=s8.toks) (fun b o hb e=>(zay _ _ (yL hb)).trans e) p2 p3 (.inr bX) (fun x c e z=>?_) (fun p hp z=>?_)
    ·refine again (its':=aa.push uy) (k':=if (aa.push uy).size == aa.size then k else k + 1) (It.J2 fun p hp=>?_) (by simpa using rv.append (.cons r8 .nil)) (by rw[zL,za9];omega) (hN _ _ q8)
     rcases zy.mp hp with hp|hp
     ·have e:=zh.mp hp
      subst e
      exact⟨nk,p2,p3,p4,fun v=>by simp⟩
     ·exact It.pin p (zq _ hp)
    ·have e':=E7 I2 aG e
     obtain⟨v,o,ho,_⟩:=I2.cell x c e'
     exact absurd (zx ho) (by rw[z];exact Nat.not_lt.mpr bX)
    ·have je:p∈Im fp s5.heap:=by simpa [blockOf] using hp
     exact ni p.1 (Oj je).1 z
 exact codeAny_compStart_list (loop _ rfl) (T.self _ 0 _ _ _ (T.keep _ _ _ cK fun b hb o e=>old b o e) (loop _ rfl))
theorem ZW {wi:TI}(hc:X.calm=true) (hi:PI X tg iter wi) (aG:J6 scope X.env.scope=true) (bG:Pz X.N NB scope μ=true) (jb:Kn μ g)
 (hb:∀(s:Shared) (H:Hp) (C:Addr) (ex:List Addr),PG (blockOf X s H scope C NB ex) tg g/\nG (blockOf X s H scope C NB ex) ifs (tc s H C ex)/\PE (blockOf X s H scope C NB ex) elt (te s H C ex))
 (hs:∀ x,foldedSetIterable iter X.env x=pure x:=by intro _;rfl):PE X (.ListComp elt [⟨tg,iter,ifs,0⟩] scope pos) (Ul wi μ g tc te):=by
 intro pins s σ H Q I h
 have bH:∀ y∈scope.names,y.2=.local->scope.names.lookup y.1=some .local:=fun y hy=>(Hn aG hy).2.2
 have cq:closureFor scope X.env=pure (I9 X.env.cells scope.names []):=Ic fun y hy e=>Iw I aG (x:=y.1) (by rw[<-e];exact hy)
 rw[eval_ListComp]
 refine wpAny_comprehension_free (use:=none) rfl hs cq (Hm aG) bH (Be (hi pins s σ H _ I h) fun v s1 h1=>Be h1 fun lg s2 h2=>?_)
 obtain⟨it,fp,tn,J,H2,e,I2,T,cK,f2,q⟩:=h2
 subst e
 refine Oz (RR:=fun acc C=>compPost (model X.prog X.w) X.A X.xe none (EP X pins σ Q) acc C) hc I2 T cK f2 aG bG jb hb (fun C=>q s2 C fp) ?_
 intro D C s' H' ys m hD hC cI hn nC hI hq
 exact⟨m,hn,fun h' sb=>⟨.ref D,_,hI h' sb,rfl,hq⟩⟩
noncomputable def pH (i:Nat) (te:TE):TS:=fun D σ H=>te σ H fun x H1=>D.nx (σ.set i (some x)) H1
theorem Um {wi:TI}{i:Nat}{y:Str}{py ay:Pos}(hN:X.N.Nodup) (jf:X.N[i]? =some y) (hy:Loc X.env.scope y) (hc:X.calm=true) (hi:PI X tg iter wi) (aG:J6 scope X.env.scope=true) (bG:Pz X.N NB scope μ=true) (jb:Kn μ g)
 (hb:∀(s:Shared) (H:Hp) (C:Addr) (ex:List Addr),PG (blockOf X s H scope C NB ex) tg g/\nG (blockOf X s H scope C NB ex) ifs (tc s H C ex)/\PE (blockOf X s H scope C NB ex) elt (te s H C ex))
 (bj:swapsWith (.ListComp elt [⟨tg,iter,ifs,0⟩] scope pos) (some (.Name y py)) ay.line X.env=pure true:=by rfl)
 (hs:∀ x,foldedSetIterable iter X.env x=pure x:=by intro _;rfl) (hf:X.fn y=true\/X.env.scope.names.lookup y=some .local:=by first|exact .inl rfl|exact .inr rfl|assumption) :
 PS X (.Assign [.Name y py] (.ListComp elt [⟨tg,iter,ifs,0⟩] scope pos) ay) (pH i (Ul wi μ g tc te)):=by
 intro pins s σ H D' I h
 have bH:∀ y∈scope.names,y.2=.local->scope.names.lookup y.1=some .local:=fun y hy=>(Hn aG hy).2.2
 have cq:closureFor scope X.env=pure (I9 X.env.cells scope.names []):=Ic fun y hy e=>Iw I aG (x:=y.1) (by rw[<-e];exact hy)
 rw[exec_Assign_Name_used _ _ _ _ bj]
 refine wpAny_bind (wpAny_standAt (wpAny_bind ?_))
 show wpAny _ X.A (do let _ <-comprehension (.ListComp elt [⟨tg,iter,ifs,0⟩] scope pos) scope X.env _ (newList []) false (eval iter X.env) (some (assign (.Name y py) X.env))) _ _ s
 refine wpAny_bind (wpAny_mono (wpAny_comprehension_free (use:=some (assign (.Name y py) X.env)) (Q:=fun _ s'=>SP X pins D' .next s') rfl hs cq (Hm aG) bH (Be (hi pins s σ H _ I h) fun v s1 h1=>Be h1 fun lg s2 h2=>?_)) (fun _ s' hq=>wpAny_pure (wpAny_pure hq)) fun _ _ e=>e)
 obtain⟨it,fp,tn,J,H2,e,I2,T,cK,f2,q⟩:=h2
 subst e
 refine Oz (RR:=fun acc C=>compPost (model X.prog X.w) X.A X.xe (some (assign (.Name y py) X.env)) (fun _ s'=>SP X pins D' .next s') acc C) hc I2 T cK f2 aG bG jb hb (fun C=>q s2 C fp) ?_
 intro D C s' H' ys m hD hC cI hn nC hI hq
 have I':=hI s'.heap (.refl ..)
 show wpAny _ X.A (assign (.Name y py) X.env (.ref D)) _ _ _
 refine wpAny_assign_Name (Oh (i:=i) (v:=.ref D) I' hN jf hy rfl (fun iw wl nl=>?_) hf)
 obtain⟨a,sb,ha⟩:=nl
 have h9:a≠C:=by
  rcases ha with z|z
  ·rw[z];exact zG (zC I2.lt hC)
  ·obtain⟨v,o,ho,_⟩:=I2.cell y a z
   exact zG (zC (zx ho) hC)
 refine⟨m,hn.sameBut sb (yL h9),fun h' bI=>?_⟩
 refine⟨_,_,wl.turned (it:=C) (t':=iw.toks) (fun b o hb e=>(bI.2 b hb).trans e) (by rw[Ah (yL cI)];exact nC) (Nat.ne_of_gt (zC I2.lt hC)) (.inr (yU I2.sz hC)) (fun x c e z=>?_) (fun p hp z=>?_),hq⟩
 ·obtain⟨v,o,ho,_⟩:=I2.cell x c e
  exact absurd (zx ho) (by rw[z];exact Nat.not_lt.mpr hC)
 ·exact absurd (zx (I2.pin p hp).1) (by rw[z];exact Nat.not_lt.mpr hC)
end
noncomputable def uO (K:za) (a:Addr):It :=
 ⟨fun i H=>∃ xs x,Dr K H a xs/\xs[i]? =some x,fun i H v H'=>∃ p x,H p=none/\v=.ref p/\(∀ xs,Dr K H a xs->xs[i]? =some x)/\H'=upd H p (.tup [.int i,x]),fun i H=>∃ xs,Dr K H a xs/\xs.length<=i⟩
theorem SY {X:Cx}{pins:List (Addr×Obj)}{σ:St}{H:Hp}{s:Shared}{h':Heap}{t':Nat}{e it:Addr}(I:Inv X pins σ H s) (he:Lq X pins H e) (hi:Lq X pins H it) (k:∀ b o,b≠e->b≠it->s.heap.get? b=some o->h'.get? b=some o):Inv X pins σ H { s with heap:=h',toks:=t' }:=by
 obtain⟨e0,e1,e2,e3,e4,e5⟩:=he
 obtain⟨f0,f1,f2,f3,f4,f5⟩:=hi
 have ne:∀ b u,H b=some u->b≠e/\b≠it:=fun b u q=>⟨fun z=>(by rw[z,e0] at q;cases q),fun z=>(by rw[z,f0] at q;cases q)⟩
 refine I.step (g':=s.gens) (d':=s.drawn) (ch:=[e,it]) (fun b hb=>?_) (fun b o _ _ hc q _=>k b o (fun z=>hc (by simp[z])) (fun z=>hc (by simp[z])) q) (fun b o _ _ hc q _=>⟨o.slots,k b o (fun z=>hc (by simp[z])) (fun z=>hc (by simp[z])) q⟩) (fun _ _ _ _ n=>n)
  (fun b o hc q=>⟨o,k b o (fun z=>hc (by simp[z])) (fun z=>hc (by simp[z])) q⟩) (fun _ _ q=>q) (fun _ _ _ q=>q) (fun b ps q=>⟨#[],by rw[q];simp⟩) (fun m hm=>?_) (fun b u q=>?_) I.bare
 ·rcases zu.mp hb with z|z
  ·subst z;exact⟨e3,e1,e4,e5⟩
  ·have z:=zh.mp z
   subst z;exact⟨f3,f1,f4,f5⟩
 ·obtain⟨o,es,ep,ho,r⟩:=hm
  exact⟨o,es,ep,k _ o (yL e1) (yL f1) ho,r⟩
 ·refine (I.Av b u q).Pj (fun c v hc z=>k c v ?_ ?_ z) (fun _ z=>z) fun _ _ z=>z
  ·rcases hc with z|z
   ·rw[z];exact (ne b u q).1
   ·exact (ne c _ z).1
  ·rcases hc with z|z
   ·rw[z];exact (ne b u q).2
   ·exact (ne c _ z).2
theorem VJ {P:Program}{w:World}{K:za}{cr:List Expr}{x1}{bE:Pos}(a e it:Addr) (af:e≠it) :
 Turn P w K (.Tuple cr x1 bE) (uO K a) [e,it] e (fun i h=>(∃ old,IsEnum h e it i old)/\h.IsListIter it a i) where
 mem:=by simp
 obj:=fun i h st b hb=>by
  obtain⟨⟨old,h1⟩,o,h2,c,d⟩:=st
  rcases zu.mp hb with z|z
  ·subst z;exact⟨_,h1,fun v z=>by cases z⟩
  ·have z:=zh.mp z
   subst z;exact⟨o,h2,fun v z=>by rw[d] at z;cases z⟩
 keep:=fun i h h' st k=>⟨let ⟨old,h1⟩:=st.1;⟨old,k e (by simp) _ h1⟩,st.2.at fun o e=>k it (by simp) o e⟩
 item:=by
  intro X hP hw hK hc i pins s σ H E I hf st hg
  subst hP hw hK
  obtain⟨xs,x,hq,hx⟩:=hg
  obtain⟨⟨old,he⟩,hit⟩:=st
  obtain⟨aa,rv,p,hz⟩:=I.list hq
  obtain⟨u,hu,ru⟩:=rv.get hx
  have fe:=hf e (by simp)
  have fi:=hf it (by simp)
  refine wpAny_pyNext_enum_item he hit p.isList (x:=u) (by simpa using hu) af fun h1 dq nq ht hsz hk=>?_
  refine⟨_,rfl,wpAny_letOwnedTupleGo_enum (s:={ s with heap:=h1,toks:=s.toks + 1 }) dq fun h2 wm bh=>?_⟩
  have bJ:zb4 e h1 h2:=bh
  have nt:s.heap.objs.size≠e:=Nat.ne_of_gt (zx he)
  have wn:s.heap.objs.size≠it:=by
   obtain⟨o,ho,_⟩:=hit
   exact Nat.ne_of_gt (zx ho)
  have I1:Inv X pins σ H { s with heap:=h2,toks:=s.toks + 1 }:=SY I fe fi fun b o hb aE q=>(bJ.2 b hb).trans (hk b o hb aE q)
  have tup:h2.get? s.heap.objs.size=some { cls:=.type "tuple",data:=.seq #[.int i s.toks,u] }:=(bJ.2 _ nt).trans ht
  have nH:H s.heap.objs.size=none:=I.Av.fresh (zB _)
  have vv:Vals [.int i,x] [.int i s.toks,u]:=.cons ⟨_,rfl⟩ (.cons ru .nil)
  have nr:Fq X.prog X.w (upd H s.heap.objs.size (.tup [.int i,x])) h2:=I1.Av.adopt nH ⟨by show 2<=sizeLine;decide,_,vv,⟨_,tup,rfl,_,rfl⟩⟩
  have I2:Inv X pins σ (upd H s.heap.objs.size (.tup [.int i,x])) { s with heap:=h2,toks:=s.toks + 1 }:=by
   refine I.step (g':=s.gens) (d':=s.drawn) (ch:=[e,it]) (fun b hb=>?_) (fun b o _ _ hc q _=>(bJ.2 b (fun z=>hc (by simp[z]))).trans (hk b o (fun z=>hc (by simp[z])) (fun z=>hc (by simp[z])) q)) (fun b o _ _ hc q _=>⟨o.slots,(bJ.2 b (fun z=>hc (by simp[z]))).trans (hk b o (fun z=>hc (by simp[z])) (fun z=>hc (by simp[z])) q)⟩)
    (fun b o hc q n=>by rw[Ah (zG (zx q))];exact n) (fun b o hc q=>⟨o,(bJ.2 b (fun z=>hc (by simp[z]))).trans (hk b o (fun z=>hc (by simp[z])) (fun z=>hc (by simp[z])) q)⟩)
    (fun b xs q=>by rw[Ah (Az q nH)];exact q) (fun b o u q=>by rw[Ah (Az q nH)];exact q) (fun b ps q=>⟨#[],by rw[Ah (Az q nH),q];simp⟩) (fun m hm=>?_) nr I.bare
   ·rcases zu.mp hb with z|z
    ·subst z;exact⟨fe.2.2.2.1,fe.2.1,fe.2.2.2.2.1,fe.2.2.2.2.2⟩
    ·have z:=zh.mp z
     subst z;exact⟨fi.2.2.2.1,fi.2.1,fi.2.2.2.2.1,fi.2.2.2.2.2⟩
   ·obtain⟨o,es,ep,ho,r⟩:=hm
    exact⟨o,es,ep,(bJ.2 _ (yL fe.2.1)).trans (hk _ o (yL fe.2.1) (yL fi.2.1) ho),r⟩
  refine⟨.ref s.heap.objs.size,_,I2,rfl,⟨_,x,nH,rfl,fun ys hy=>by rw[I.Gq hy hq];exact hx,rfl⟩,⟨⟨u,wm⟩,nq.at fun o q=>(bJ.2 it (yL af)).trans q⟩,fun b hb=>?_⟩
  have aE:b≠s.heap.objs.size:=by
   rcases zu.mp hb with z|z
   ·rw[z];exact yL nt
   ·rw[zh.mp z];exact yL wn
  rw[Ah aE]
  exact (hf b hb).1
 done:=by
  intro X hP hw hK hc i pins s σ H E I hf st hg
  subst hP hw hK
  obtain⟨xs,hq,hx⟩:=hg
  obtain⟨⟨old,he⟩,hit⟩:=st
  obtain⟨aa,rv,p,hz⟩:=I.list hq
  have hl:=rv.length
  obtain⟨f0,f1,f2,f3,f4,f5⟩:=hf it (by simp)
  exact wpAny_pyNext_enum_end (I.ok.hd hc) he hit p.isList (by simp;omega) fun h' eb=>⟨rfl,I.turned (t':=s.toks) (fun b o hb e=>eb b o hb e) f0 f1 f3 f4 f5⟩
 self:=fun _ _ _ _ _ st h=>let ⟨_,he⟩:=st.1;wpAny_pyIter_enum he h
section
variable {X:Cx}
noncomputable def pI (K:za) (ta:TA):TI:=fun σ H R=>ta σ H fun vs H1=>∃ a,vs=[.ref a]/\(∃ xs,Dr K H1 a xs)/\R (uO K a) H1
theorem ZX {cr:List Expr}{x1}{bE:Pos}{a:Expr}{ta:TA}{p pos:Pos}(hg:Gl X "enumerate") (hm:X.mg "enumerate" = none) (ha:PA X [a] ta) (hb:bootBuiltins "enumerate" = some (.type "enumerate"):=by decide +kernel) (hs:starEach [a] X.env=[(false,eval a X.env)]:=by rfl) :
 PI X (.Tuple cr x1 bE) (.Call (.Name "enumerate" p) [a] [] pos) (pI X.K ta):=by
 intro pins s σ H R I h
 refine Call_ (E5 I hg hm hb (yT (Be (ha pos pins s σ H _ I h) fun us s1 ⟨vs,H1,I1,r1,q1⟩=>?_) hs rfl))
 obtain⟨j,e,⟨xs,hq⟩,q⟩:=q1
 subst e
 cases r1 with
 |cons r rr =>
  cases rr
  cases r
  obtain⟨aa,rv,p,hz⟩:=I1.list hq
  refine call_enumerate_list p.isList fun h' he hit hsz hk=>?_
  refine wpAny_pyIter_enum (s:={ s1 with heap:=h' }) he ?_
  have I2:Inv X pins σ H1 { s1 with heap:=h' }:=I1.kept (t':=s1.toks) hk
  refine⟨_,[s1.heap.objs.size + 1,s1.heap.objs.size],_,_,H1,rfl,I2,VJ j _ _ (Nat.succ_ne_self _),⟨⟨_,he⟩,hit⟩,fun b hb=>?_,q⟩
  rcases zu.mp hb with z|z
  ·rw[z];exact I1.X3 (Nat.le_succ _) (I1.Av.fresh (Nat.le_succ _))
  ·rw[zh.mp z];exact I1.X3 (zB _) (I1.Av.fresh (zB _))
end
noncomputable def BJ {α:Type}(o:Option (α×List Int)) (b:α×List Int):Option (α×List Int):=match o with | none=>some b | some c=>if HT.lexLt b.2 c.2=true then some b else some c
noncomputable def AX {α:Type}(bs:List (α×List Int)):Option (α×List Int):=bs.foldl BJ none
noncomputable def Dn (bs:List (Addr×List Int)):Array Value:=match AX bs with | none=>#[] | some b=>#[.ref b.1,.ref b.1]
theorem D2 {α:Type}(bs:List (α×List Int)) (b:α×List Int):AX (bs++[b])=match AX bs with | none=>some b | some c=>if HT.lexLt b.2 c.2=true then some b else some c:=by
 unfold AX;rw[List.foldl_append];rfl
theorem Ko {α:Type}:∀(bs:List (α×List Int)) (b:α×List Int),AX bs=some b->b∈bs:=by
 intro bs
 suffices h:∀(bs:List (α×List Int)) (o:Option (α×List Int)) (b:α×List Int),bs.foldl BJ o=some b->b∈bs\/o=some b by
  intro b hb
  rcases h bs none b hb with q|q
  ·exact q
  ·cases q
 intro bs
 induction bs with
 |nil=>intro o b h;exact .inr h
 |cons x r ih =>
  intro o b h
  rw[zV] at h
  rcases ih _ _ h with q|q
  ·exact .inl (zf _ q)
  ·cases o with
   |none=>cases q;exact .inl ze
   |some c =>
    unfold BJ at q
    dsimp only at q
    split at q
    ·cases q;exact .inl ze
    ·exact .inr q
theorem NY (a v:Value):argsOk "min" ⟨[a],[(Str.ofString "default",v)]⟩:=by unfold argsOk;kernel_rfl
section
variable {prog:Program}{w:World}{A:Around}{R:Result->Shared->Prop}
theorem Xv (bs:List (Addr×List Int)) (tv:Addr->Array Value) (l I S:Addr) (d:Value) (hh:A.handled=none) (hu:A.in1.units < cLine) (cO:S≠I) (ic:l≠I) (jg:l≠S) (fg:∀ b∈bs,b.1≠I/\b.1≠S)
 (hk:∀ b∈bs,IntsAre (tv b.1).toList b.2):∀(k j:Nat) (s:Shared) (c:Nat),bs.length - j=k->j<=bs.length->s.heap.IsListIter I l j->s.heap.IsList l (bs.map fun b=>yN b.1).toArray->(∀ b∈bs,IsTup s.heap b.1 (tv b.1))->
  s.heap.get? S=some { cls:=.type "list",dict:=none,data:=.seq (Dn (bs.take j)) c,slots:=#[] } ->
  (∀ h' tk,(∀ b o,b≠I->b≠S->s.heap.get? b=some o->h'.get? b=some o)->R (.ok (.ret (match AX bs with|none=>d|some b=>.ref b.1))) { s with heap:=h',toks:=tk })->
  codeAny (model prog w) A (.builtin "min.loop" ⟨[.ref I,.none,.ref S],[(Str.ofString "default",d)]⟩) R s:=by
 have aB:(toString "min" ++ toString ".loop" : String) = "min.loop" := by decide
 intro k
 induction k with
 |zero =>
  intro j s c hr hj hit hl ht hS hR
  have bK:j=bs.length:=by omega
  subst bK
  rw[yX] at hS
  refine codeAny_builtin PySem.F.entry_min_loop ?_
  rw[zan zY _]
  show wpAny _ A.in1 (seqItems? (.ref S) >>= _) _ _ s
  refine wpAny_bind (wpAny_seqItems hS rfl ?_)
  show wpAny _ A.in1 (tryCatch (pyNext (.ref I)) _ >>= _) _ _ s
  refine wpAny_bind (wpAny_tryCatch (wpAny_pyNext_list_end (A:=A.in1) hh hit hl (by simp) fun h' eb=>?_))
  have aH:h'.get? S=_:=eb S _ cO hS
  unfold Dn at aH
  cases hb:AX bs with
  |none =>
   unfold Dn
   rw[hb]
   show wpAny _ A.in1 (rule _ >>= _) _ _ _
   refine wpAny_bind (wpAny_rule (wpAny_pure ?_))
   have q:=hR h' s.toks fun b o h1 h2 e=>eb b o h1 e
   rw[hb] at q
   exact q
  |some b =>
   rw[hb] at aH
   unfold Dn
   rw[hb]
   show wpAny _ A.in1 (updateSeq S (fun _=>#[]) >>= _) _ _ _
   refine wpAny_bind ?_
   refine wpAny_updateSeq aH rfl (wpAny_bind (wpAny_letGo (wpAny_pure ?_)))
   have q:=hR (h'.update S (zas fun _=>#[])) s.toks fun b o h1 h2 e=>(zay _ _ (yL h2)).trans (eb b o h1 e)
   rw[hb] at q
   exact q
 |succ k ih =>
  intro j s c hr hj hit hl ht hS hR
  have aj:j < bs.length:=by omega
  have ej:bs.take (j + 1)=bs.take j++[bs[j]]:=by rw[yZ,zt aj];rfl
  have mj:bs[j]∈bs:=List.getElem_mem aj
  refine codeAny_builtin PySem.F.entry_min_loop ?_
  rw[zan zY _]
  show wpAny _ A.in1 (seqItems? (.ref S) >>= _) _ _ s
  refine wpAny_bind (wpAny_seqItems hS rfl ?_)
  show wpAny _ A.in1 (tryCatch (pyNext (.ref I)) _ >>= _) _ _ s
  refine wpAny_bind (wpAny_tryCatch (wpAny_pyNext_list_item (A:=A.in1) hit hl (x:=.ref bs[j].1) (by simp[aj]) fun h' bn sb=>?_))
  have bI:zb4 I s.heap h':=sb
  have aH:h'.get? S=_:=(bI.2 S cO).trans hS
  have bU:h'.IsList l (bs.map fun b=>yN b.1).toArray:=hl.at fun o e=>(bI.2 l ic).trans e
  have cu:∀ b∈bs,IsTup h' b.1 (tv b.1):=fun b hb=>by
   obtain⟨o,ho,r⟩:=ht b hb
   exact⟨o,(bI.2 b.1 (fg b hb).1).trans ho,r⟩
  cases hb:AX (bs.take j) with
  |none =>
   unfold Dn at aH ⊢
   rw[hb] at aH ⊢
   show wpAny _ A.in1 (updateSeq S (fun _=>#[.ref bs[j].1,.ref bs[j].1]) >>= _) _ _ _
   refine wpAny_bind ?_
   refine wpAny_updateSeq aH rfl ?_
   rw[aB]
   have s1:=Heap.SameBut.update h' S (zas fun _=>(#[.ref bs[j].1,.ref bs[j].1]:Array Value))
   refine wpAny_pure ⟨plainId_quiet zY _,ih (j + 1) _ (c + 1) (by omega) aj (bn.at fun o e=>(s1.2 I (yL cO)).trans e) (bU.at fun o e=>(s1.2 l jg).trans e) (fun b hb=>?_) ?_ fun cv tk aW=>?_⟩
   ·obtain⟨o,ho,r⟩:=cu b hb
    exact⟨o,(s1.2 b.1 (fg b hb).2).trans ho,r⟩
   ·refine (zb3 _ aH rfl).trans ?_
    unfold Dn
    rw[ej,D2,hb]
    rfl
   ·exact hR cv tk fun b o h1 h2 e=>aW b o h1 h2 ((s1.2 b h2).trans ((bI.2 b h1).trans e))
  |some m =>
   have mm:m∈bs:=yR (Ko _ _ hb)
   unfold Dn at aH ⊢
   rw[hb] at aH ⊢
   show wpAny _ A.in1 (tryCatch (holding [.ref bs[j].1,.ref bs[j].1] (richCompare .Lt (.ref bs[j].1) (.ref m.1) >>= _)) _ >>= _) _ _ _
   refine wpAny_bind (wpAny_tryCatch (wpAny_holding (wpAny_bind (HT.Iq (cu _ mj) (cu _ mm) (hk _ mj) (hk _ mm) hu ?_))))
   refine wpAny_bind (wpAny_holding (wpAny_truthy_bool ?_))
   refine wpAny_bind (wpAny_letGo (wpAny_pure ?_))
   cases hc:HT.lexLt bs[j].2 m.2 with
   |true =>
    simp only[if_true]
    have s1:=Heap.SameBut.update h' S (zas fun _=>(#[.ref bs[j].1,.ref bs[j].1]:Array Value))
    refine wpAny_bind ?_
    refine wpAny_updateSeq aH rfl (wpAny_bind (wpAny_letGo ?_))
    rw[aB]
    refine wpAny_pure ⟨plainId_quiet zY _,ih (j + 1) _ c (by omega) aj (bn.at fun o e=>(s1.2 I (yL cO)).trans e) (bU.at fun o e=>(s1.2 l jg).trans e) (fun b hb=>?_) ?_ fun cv tk aW=>?_⟩
    ·obtain⟨o,ho,r⟩:=cu b hb
     exact⟨o,(s1.2 b.1 (fg b hb).2).trans ho,r⟩
    ·refine (zb3 _ aH rfl).trans ?_
     unfold Dn
     rw[ej,D2,hb]
     simp only[hc,if_true]
     rfl
    ·exact hR cv tk fun b o h1 h2 e=>aW b o h1 h2 ((s1.2 b h2).trans ((bI.2 b h1).trans e))
   |false =>
    simp only[zF,if_false]
    refine wpAny_bind (wpAny_letGo ?_)
    rw[aB]
    refine wpAny_pure ⟨plainId_quiet zY _,ih (j + 1) _ c (by omega) aj bn bU cu ?_ fun cv tk aW=>?_⟩
    ·refine aH.trans ?_
     unfold Dn
     rw[ej,D2,hb]
     simp only[hc,zF,if_false]
    ·exact hR cv tk fun b o h1 h2 e=>aW b o h1 h2 ((bI.2 b h1).trans e)
theorem NZ {E:Value->Shared->Prop}{s:Shared}{Q:Value->Shared->Prop}(bs:List (Addr×List Int)) (tv:Addr->Array Value) (l:Addr) (d:Value) (hh:A.handled=none) (hu:A.in1.units < cLine)
 (hl:s.heap.IsList l (bs.map fun b=>yN b.1).toArray) (ht:∀ b∈bs,IsTup s.heap b.1 (tv b.1)) (hk:∀ b∈bs,IntsAre (tv b.1).toList b.2)
 (hQ:∀ h' tk,(∀ b o,s.heap.get? b=some o->h'.get? b=some o)->Q (match AX bs with|none=>d|some b=>.ref b.1) { s with heap:=h',toks:=tk }) :
 wpAny (model prog w) A (call (.builtin "min") [.ref l] [(Str.ofString "default",d)]) Q E s:=by
 have aB:(toString "min" ++ toString ".loop" : String) = "min.loop" := by decide
 obtain⟨ol,fj,_⟩:=id hl
 have wo:l < s.heap.objs.size:=zx fj
 refine kmk_tree PySem.F.kind_min PySem.F.plain_min PySem.F.entry_min (NY _ _) ?_
 show wpAny _ A.in1 (zaq "min" ["key","default"] 0 ⟨[],[(Str.ofString "default",d)]⟩ >>= _) _ _ s
 refine wpAny_bind (wpAny_of_eq (show zaq "min" ["key","default"] 0 ⟨[],[(Str.ofString "default",d)]⟩=pure [none,some d] from rfl) ?_)
 refine wpAny_bind (wpAny_pure ?_)
 refine wpAny_bind (wpAny_pyIter_list hl ?_)
 refine wpAny_bind (wpAny_newList ?_ (zW _))
 rw[aB]
 have hS:(s.heap.push { cls:=.type "list_iterator",data:=.fields #[.ref l,.int 0 0] }).objs.size=s.heap.objs.size + 1:=Heap.size_push ..
 have old:∀ b o,s.heap.get? b=some o->b≠s.heap.objs.size/\b≠(s.heap.push { cls:=.type "list_iterator",data:=.fields #[.ref l,.int 0 0] }).objs.size:=fun b o e=>⟨zG (zx e),by rw[hS];exact zG (Nat.lt_succ_of_lt (zx e))⟩
 have grow:∀ b o,s.heap.get? b=some o->((s.heap.push { cls:=.type "list_iterator",data:=.fields #[.ref l,.int 0 0] }).push { cls:=.type "list",data:=.seq #[] }).get? b=some o:=fun b o e=>zr _ (zr _ e)
 refine wpAny_pure ⟨plainId_quiet zY _,?_⟩
 refine Xv bs tv l s.heap.objs.size (s.heap.push { cls:=.type "list_iterator",data:=.fields #[.ref l,.int 0 0] }).objs.size d hh hu (by rw[hS];exact Nat.succ_ne_self _) (old l ol fj).1 (old l ol fj).2 (fun b hb=>?_) hk _ 0 _ 0 rfl (zW _) ?_ ?_ (fun b hb=>?_) ?_ ?_
 ·obtain⟨o,ho,_⟩:=ht b hb
  exact old b.1 o ho
 ·exact⟨_,zr _ (zI _ rfl),rfl,rfl⟩
 ·exact hl.at fun o e=>grow l o e
 ·obtain⟨o,ho,r⟩:=ht b hb
  exact⟨o,grow b.1 o ho,r⟩
 ·exact zI _ rfl
 ·intro h' tk fm
  exact hQ h' tk fun b o e=>fm b o (old b o e).1 (old b o e).2 (grow b o e)
end
section
variable {X:Cx}{e e2:Expr}{te td:TE}{p pos kp:Pos}
noncomputable def pJ (K:za) (te td:TE):TE:=fun σ H Q=>te σ H fun x H1=>td σ H1 fun d H2=>∃(a:Addr) (bs:List (Addr×List Int)),x=.ref a/\Dr K H2 a (bs.map fun b=>V.ref b.1)/\(∀ b∈bs,Fs K H2 b.1 (b.2.map V.int))/\Q (match AX bs with | none=>d | some b=>.ref b.1) H2
theorem Kq:∀ {bs:List (Addr×List Int)}{us:List Value},Vals (bs.map fun b=>V.ref b.1) us->us=bs.map fun b=>yN b.1
 |[],_,.nil=>rfl
 |b::r,_,.cons h t=>by cases h;rw[Kq t];rfl
theorem ZY (hc:X.calm=true) (hu:X.A.units + 1 < cLine) (hg:Gl X "min") (hm:X.mg "min" = none) (he:PE X e te) (hd:PE X e2 td)
 (aY:starEach [e] X.env=[(false,eval e X.env)]:=by rfl) (aF:(backToKw pos (keywordEach [⟨some "default",e2,kp⟩] X.env)).all (·.1.isSome)=true:=by rfl) (nu:(backToKw pos (keywordEach [⟨some "default",e2,kp⟩] X.env)).filterMap (·.1)=([("default" : Str)]:List Str):=by rfl)
 (nv:(backToKw pos (keywordEach [⟨some "default",e2,kp⟩] X.env)).any (·.1.isNone)=false:=by rfl) (bY:backTo pos (starEach [e] X.env)=(false,eval e X.env)::backTo pos (starEach [] X.env):=by rfl) (a6:(backTo pos (starEach [e] X.env)).any (·.1)=false:=by rfl) :
 PE X (.Call (.Name "min" p) [e] [⟨some "default",e2,kp⟩] pos) (pJ X.K te td):=by
 intro pins s σ H Q I h
 refine wpAny_Call_Name_kw (E5 I hg hm boot_min ?_ (by decide) (by decide))
 refine callWith_kw (Be ((Bh he Cj (hs:=aY)) pos pins s σ H (fun vs H1=>match vs with|[x]=>td σ H1 fun d H2=>∃(a:Addr) (bs:List (Addr×List Int)),x=.ref a/\Dr X.K H2 a (bs.map fun b=>V.ref b.1)/\(∀ b∈bs,Fs X.K H2 b.1 (b.2.map V.int))/\Q (match AX bs with|none=>d|some b=>.ref b.1) H2|_=>False) I h) fun us s1 ⟨vs,H1,I1,r1,q1⟩=>?_) bY a6 aF nv
 obtain⟨x,rfl⟩:∃ x,vs=[x]:=by
  match vs,q1 with
  |[x],_=>exact⟨x,rfl⟩
 refine Be ((ZE hd jX) pos pins s1 σ H1 (fun zs H2=>match zs with|[d]=>∃(a:Addr) (bs:List (Addr×List Int)),x=.ref a/\Dr X.K H2 a (bs.map fun b=>V.ref b.1)/\(∀ b∈bs,Fs X.K H2 b.1 (b.2.map V.int))/\Q (match AX bs with|none=>d|some b=>.ref b.1) H2|_=>False) I1 q1) fun ws s2 ⟨zs,H2,I2,r2,q2⟩=>?_
 obtain⟨d,rfl⟩:∃ d,zs=[d]:=by
  match zs,q2 with
  |[d],_=>exact⟨d,rfl⟩
 obtain⟨a,bs,rfl,hl,hb,q⟩:=q2
 obtain⟨ua,rfl,ra⟩:=r1.one
 obtain⟨ud,rfl,rd⟩:=r2.one
 cases ra
 rw[nu]
 obtain⟨aa,rv,pl,hz⟩:=I2.list hl
 have ei:=Kq rv
 subst ei
 have tv:∀ a:Addr,∃ t:Array Value,∀ b∈bs,b.1=a->IsTup s2.heap a t/\IntsAre t.toList b.2:=fun a=>by
  by_cases cz:∃ b∈bs,b.1=a
  ·obtain⟨b,cz,rfl⟩:=cz
   obtain⟨ts,rt,pt,_⟩:=I2.tuple (hb b cz)
   refine⟨ts.toArray,fun b' aE e=>⟨pt,?_⟩⟩
   have q2:=hb b' aE
   rw[e] at q2
   have e2:=I2.Hk q2 (hb b cz)
   rw[<-e2] at rt
   simpa using intsAre_of rt
  ·exact⟨#[],fun b aE e=>absurd ⟨b,aE,e⟩ cz⟩
 refine NZ bs (fun b=>zj (tv b)) a ud (I2.ok.hd hc) hu pl.isList (fun b aE=>(zb (tv b.1) b aE rfl).1) (fun b aE=>(zb (tv b.1) b aE rfl).2) fun h' tk hk=>?_
 refine⟨match AX bs with|none=>d|some b=>.ref b.1,H2,I2.kept (t':=tk) hk,?_,q⟩
 cases AX bs with
 |none=>exact rd
 |some b=>rfl
end
inductive D where
 |AA|bl (b:Bool)|int (i:Int)|str (x:Str)|tup (ds:List D)|lst (ds:List D)|DM (x:Str)|Bi (t:Bool) (ks vs:List D)|ins (x:Str) (ns:List Str) (ds:List D)
noncomputable def Dp:Key->D
 | .inl i=>.int i
 | .inr x=>.str x
noncomputable def tG (a c:Addr) (h:Heap):Prop:=∃ o,h.get? a=some o/\o.cls=.ref c/\PySem.W.notCls o=true
mutual
inductive BK (K:za) (H:Hp):V->D->Prop
 |AA:BK K H .AA .AA
 |bl (b):BK K H (.bl b) (.bl b)
 |int (i):BK K H (.int i) (.int i)
 |str (x):BK K H (.str x) (.str x)
 |tup {a xs ds}:H a=some (.tup xs)->Ag K H xs ds->BK K H (.ref a) (.tup ds)
 |lst {a xs ds}:Dr K H a xs->Ag K H xs ds->BK K H (.ref a) (.lst ds)
 |Iy {a kvs ds}:H a=some (.dK kvs)->Ag K H (kvs.map za5) ds->BK K H (.ref a) (.Bi false (kvs.map fun kv=>Dp kv.1) ds)
 |Iz {a kvs ds}:H a=some (.dT kvs)->Ag K H (kvs.map za5) ds->BK K H (.ref a) (.Bi true (kvs.map fun kv=>.tup (kv.1.map Dp)) ds)
 |ins {a C dx fs x ds}:zd K mainGlobals x=some (some (.ref C))->H a=some (.ins C dx fs)->Ag K H (fs.map za5) ds->BK K H (.ref a) (.ins x (fs.map zP) ds)
 |DM {a c x}:zd K mainGlobals x=some (some (.ref c))->H a=some (.ext (tG a c))->BK K H (.ref a) (.DM x)
inductive Ag (K:za) (H:Hp):List V->List D->Prop
 |nil:Ag K H [] []
 |cons {x d xs ds}:BK K H x d->Ag K H xs ds->Ag K H (x::xs) (d::ds)
end
theorem Ag.length {K:za}{H:Hp}:∀ {xs:List V}{ds:List D},Ag K H xs ds->xs.length=ds.length
 |_,_,.nil=>rfl
 |_,_,.cons _ t=>by rw[zp,zp,Ag.length t]
theorem Ag.get {K:za}{H:Hp}:∀ {xs:List V}{ds:List D}{i:Nat}{d:D},Ag K H xs ds->ds[i]? =some d->∃ x,xs[i]? =some x/\BK K H x d
 |_,_,_,_,.nil,e=>by simp at e
 |_,_,0,_,.cons r _,e=>by simp at e;subst e;exact⟨_,rfl,r⟩
 |_,_,i + 1,d,.cons _ t,e=>by
  obtain⟨u,h1,h2⟩:=Ag.get (i:=i) (d:=d) t (by simpa using e)
  exact⟨u,by simpa using h1,h2⟩
theorem Ag.Kr {K:za}{H:Hp}:∀ {xs:List V}{ds:List D}{i:Nat}{x:V},Ag K H xs ds->xs[i]? =some x->∃ d,ds[i]? =some d/\BK K H x d
 |_,_,_,_,.nil,e=>by simp at e
 |_,_,0,_,.cons r _,e=>by simp at e;subst e;exact⟨_,rfl,r⟩
 |_,_,i + 1,d,.cons _ t,e=>by
  obtain⟨u,h1,h2⟩:=Ag.Kr (i:=i) (x:=d) t (by simpa using e)
  exact⟨u,by simpa using h1,h2⟩
theorem Ag.append {K:za}{H:Hp}:∀ {xs ys:List V}{ds es:List D},Ag K H xs ds->Ag K H ys es->Ag K H (xs++ys) (ds++es)
 |_,_,_,_,.nil,h=>h
 |_,_,_,_,.cons r t,h=>.cons r (Ag.append t h)
theorem Ag.snoc {K:za}{H:Hp}{xs:List V}{ds:List D}{x:V}{d:D}(h:Ag K H xs ds) (r:BK K H x d):Ag K H (xs++[x]) (ds++[d]):=h.append (.cons r .nil)
theorem Ag.take {K:za}{H:Hp}:∀ {xs:List V}{ds:List D}(n:Nat),Ag K H xs ds->Ag K H (xs.take n) (ds.take n)
 |_,_,0,_=>.nil
 |_,_,_ + 1,.nil=>.nil
 |_,_,n + 1,.cons r t=>.cons r (Ag.take n t)
theorem Ag.drop {K:za}{H:Hp}:∀ {xs:List V}{ds:List D}(n:Nat),Ag K H xs ds->Ag K H (xs.drop n) (ds.drop n)
 |_,_,0,r=>r
 |_,_,_ + 1,.nil=>.nil
 |_,_,n + 1,.cons _ t=>Ag.drop n t
theorem Ag.ints {K:za}{H:Hp}:∀(ns:List Int),Ag K H (ns.map V.int) (ns.map D.int)
 |[]=>.nil
 |n::r=>.cons (.int n) (Ag.ints r)
theorem Ad.tH {K:za}{H H':Hp}{a:Addr}{xs:List V}(e:Ad H H') (h:Fs K H a xs):Fs K H' a xs:=by
 rcases h with (h|⟨o,h⟩)|h
 ·exact .inl (.inl (e _ _ h))
 ·exact .inl (.inr ⟨o,e _ _ h⟩)
 ·exact .inr h
mutual
theorem BK.mono {K:za}{H H':Hp}(e:Ad H H'):∀ {v:V}{d:D},BK K H v d->BK K H' v d
 |_,_,.AA=>.AA
 |_,_,.bl b=>.bl b
 |_,_,.int i=>.int i
 |_,_,.str x=>.str x
 |_,_,.tup h r=>.tup (e _ _ h) (Ag.mono e r)
 |_,_,.lst h r=>.lst (e.seq h) (Ag.mono e r)
 |_,_,.Iy h r=>.Iy (e _ _ h) (Ag.mono e r)
 |_,_,.Iz h r=>.Iz (e _ _ h) (Ag.mono e r)
 |_,_,.ins n h r=>.ins n (e _ _ h) (Ag.mono e r)
 |_,_,.DM h r=>.DM h (e _ _ r)
theorem Ag.mono {K:za}{H H':Hp}(e:Ad H H'):∀ {vs:List V}{ds:List D},Ag K H vs ds->Ag K H' vs ds
 |_,_,.nil=>.nil
 |_,_,.cons h t=>.cons (BK.mono e h) (Ag.mono e t)
end
theorem AN {H:Hp}{p:Addr}(h:H p=none) (o:HO):Ad H (upd H p o):=fun b u q=>by rw[Ah (Az q h)];exact q
mutual
noncomputable def Aw:D->D->Bool
 | .AA,.AA=>true
 | .bl a,.bl b=>a == b
 | .int a,.int b=>a == b
 | .str a,.str b=>a == b
 | .bl a,.int b=>(if a then 1 else 0) == b
 | .int a,.bl b=>a == (if b then 1 else 0)
 | .tup a,.tup b=>Cy a b
 | .lst a,.lst b=>Cy a b
 | .DM a,.DM b=>a == b
 | .Bi s a b,.Bi t c d=>(s == t) && (Cy a c && Cy b d)
 | .ins x n a,.ins y m b=>(x == y) && ((n == m) && Cy a b)
 |_,_=>false
noncomputable def Cy:List D->List D->Bool
 |[],[]=>true
 |a::r,b::t=>Aw a b && Cy r t
 |_,_=>false
end
mutual
theorem J8:∀ d:D,Aw d d=true
 | .AA=>by simp[Aw]
 | .bl b=>by simp[Aw]
 | .int b=>by simp[Aw]
 | .str b=>by simp[Aw]
 | .tup b=>by simp only[Aw];exact DQ b
 | .lst b=>by simp only[Aw];exact DQ b
 | .DM b=>by simp[Aw]
 | .Bi s a b=>by simp only[Aw];rw[DQ a,DQ b];simp
 | .ins x n a=>by simp only[Aw];rw[DQ a];simp
theorem DQ:∀ d:List D,Cy d d=true
 |[]=>by simp[Cy]
 |a::r=>by simp only[Cy,J8 a,DQ r,Bool.and_true]
end
mutual
noncomputable def AJ:D->Bool
 | .tup a=>MA a
 | .lst a=>MA a
 | .DM _=>false
 | .Bi _ _ _=>false
 | .ins _ _ _=>false
 |_=>true
noncomputable def MA:List D->Bool
 |[]=>true
 |a::r=>AJ a && MA r
end
theorem C9:∀ {ds:List D}{d:D},d∈ds->MA ds=true->AJ d=true
 |a::r,d,h,q=>by
  rw[MA,zS] at q
  rcases zu.mp h with z|z
  ·subst z;exact q.1
  ·exact C9 z q.2
mutual
noncomputable def IY:D->Nat
 | .tup a=>Lw a + 1
 | .lst a=>Lw a + 1
 |_=>0
noncomputable def Lw:List D->Nat
 |[]=>0
 |a::r=>max (IY a) (Lw r)
end
theorem Fw:∀ {ds:List D}{d:D},d∈ds->IY d<=Lw ds
 |a::r,d,h=>by
  rw[Lw]
  rcases zu.mp h with z|z
  ·subst z;exact Nat.le_max_left _ _
  ·exact yU (Fw z) (Nat.le_max_right _ _)
theorem R7:∀ {a b:List D},Cy a b=true->a.length=b.length
 |[],[],_=>rfl
 |[],_::_,h=>by simp[Cy] at h
 |_::_,[],h=>by simp[Cy] at h
 |a::r,b::t,h=>by
  simp only[Cy,zS] at h
  rw[zp,zp,R7 h.2]
theorem E8:∀(a b:List D),a.length=b.length->(za3 a.length).all (fun j=>Aw (a.getD j .AA) (b.getD j .AA))=Cy a b
 |[],[],_=>by simp[Cy]
 |a::r,b::t,h=>by
  have ih:=E8 r t (by simpa using h)
  rw[zp,List.range_succ_eq_map,List.all_cons,List.all_map,Cy,<-ih]
  simp[Function.comp_def]
 |[],_::_,h=>by cases h
 |_::_,[],h=>by cases h
theorem LH {a b:List D}(h:a.length≠b.length):Cy a b=false:=by
 cases e:Cy a b with
 |false=>rfl
 |true=>exact absurd (R7 e) h
theorem MB (a b:List D):((za3 (min a.length b.length)).all (fun j=>Aw (a.getD j .AA) (b.getD j .AA)) && (a.length == b.length))=Cy a b:=by
 by_cases h:a.length=b.length
 ·rw[<-E8 a b h,h];simp
 ·rw[LH h,beq_false_of_ne h,Bool.and_false]
section
variable {X:Cx}{pins:List (Addr×Obj)}{σ:St}{H:Hp}{s:Shared}
theorem Uo (I:Inv X pins σ H s){a:Addr}{xs ys:List V}(h:Dr X.K H a xs) (h':Fs X.K H a ys):False:=by
 obtain⟨aa,_,⟨o,n,e,c,_,_⟩,_⟩:=I.list h
 obtain⟨its',_,⟨o',e',c',_⟩,_⟩:=I.tuple h'
 rw[e] at e';cases e'
 rw[c] at c'
 revert c';decide
mutual
theorem ZZ (I:Inv X pins σ H s):∀ {v:V}{d d':D},AJ d=true->AJ d'=true->BK X.K H v d->BK X.K H v d'->d=d'
 |_,_,_,_,_,.AA,.AA=>rfl
 |_,_,_,_,_,.bl _,.bl _=>rfl
 |_,_,_,_,_,.int _,.int _=>rfl
 |_,_,_,_,_,.str _,.str _=>rfl
 |_,_,_,n1,n2,.tup h r,.tup h' r'=>by
  have e:=I.Hk (.of h) (.of h')
  subst e
  rw[Gy I (by rw[AJ] at n1;exact n1) (by rw[AJ] at n2;exact n2) r r']
 |_,_,_,n1,n2,.lst h r,.lst h' r'=>by
  have e:=I.Gq h h'
  subst e
  rw[Gy I (by rw[AJ] at n1;exact n1) (by rw[AJ] at n2;exact n2) r r']
 |_,_,_,_,_,.tup h _,.lst h' _=>(Uo I h' (.of h)).elim
 |_,_,_,_,_,.lst h _,.tup h' _=>(Uo I h (.of h')).elim
 |_,_,_,n1,_,.DM _ _,_=>by rw[AJ] at n1;cases n1
 |_,_,_,n1,_,.Iy _ _,_=>by rw[AJ] at n1;cases n1
 |_,_,_,n1,_,.Iz _ _,_=>by rw[AJ] at n1;cases n1
 |_,_,_,n1,_,.ins _ _ _,_=>by rw[AJ] at n1;cases n1
 |_,_,_,_,n2,_,.DM _ _=>by rw[AJ] at n2;cases n2
 |_,_,_,_,n2,_,.Iy _ _=>by rw[AJ] at n2;cases n2
 |_,_,_,_,n2,_,.Iz _ _=>by rw[AJ] at n2;cases n2
 |_,_,_,_,n2,_,.ins _ _ _=>by rw[AJ] at n2;cases n2
theorem Gy (I:Inv X pins σ H s):∀ {v:List V}{d d':List D},MA d=true->MA d'=true->Ag X.K H v d->Ag X.K H v d'->d=d'
 |_,_,_,_,_,.nil,.nil=>rfl
 |_,_,_,n1,n2,.cons h r,.cons h' r'=>by
  rw[MA,zS] at n1 n2
  rw[ZZ I n1.1 n2.1 h h',Gy I n1.2 n2.2 r r']
end
theorem WM {xs:List V}{aa:List Value}(r:Vals xs aa) (j:Nat) (h:j < aa.toArray.size):∃ x,xs[j]? =some x/\RelV x aa.toArray[j]:=by
 have h':j < aa.length:=by simpa using h
 have hx:j < xs.length:=by rw[r.length];exact h'
 obtain⟨u,hu,ru⟩:=r.get (zt hx)
 rw[zt h'] at hu
 refine⟨xs[j],zt hx,?_⟩
 have e:aa.toArray[j]=u:=by simpa using hu
 rw[e];exact ru
theorem Ct {ds:List D}{j:Nat}{d:D}(h:ds[j]? =some d):ds.getD j .AA=d:=by rw[zD,h];rfl
theorem PD (I:Inv X pins σ H s):∀(n:Nat) (A:Around) (d e:D) (v w:V) (u1 u2:Value),IY d<=n->AJ d=true->AJ e=true->A.units + n < cLine->BK X.K H v d->BK X.K H w e->RelV v u1->RelV w u2->SeqAt.EqAt A s u1 u2 (Aw d e):=by
 intro n
 induction n with
 |zero =>
  intro A d e v w u1 u2 hd ax ag hu h1 h2 r1 r2
  have ak:A.units < cLine:=by omega
  cases h1 with
  |DM _ _=>simp[AJ] at ax
  |Iy _ _=>simp[AJ] at ax
  |Iz _ _=>simp[AJ] at ax
  |ins _ _ _=>simp[AJ] at ax
  |AA =>
   cases r1
   cases h2 with
   |DM _ _=>simp[AJ] at ag
   |Iy _ _=>simp[AJ] at ag
   |Iz _ _=>simp[AJ] at ag
   |ins _ _ _=>simp[AJ] at ag
   |AA=>cases r2;simp only[Aw];exact .same _
   |bl b=>cases r2;simp only[Aw];exact .none_bool _
   |int b=>obtain⟨t,rfl⟩:=r2;simp only[Aw];exact .none_int _ _
   |str b=>obtain⟨t,rfl⟩:=r2;simp only[Aw];exact .none_str _ _
   |tup h r=>cases r2;simp only[Aw];obtain⟨_,_,p,_⟩:=I.tuple (.of h);exact .none_tuple p ak
   |lst h r=>cases r2;simp only[Aw];obtain⟨_,_,p,_⟩:=I.list h;exact .none_list p.isList ak
  |bl a =>
   cases r1
   cases h2 with
   |DM _ _=>simp[AJ] at ag
   |Iy _ _=>simp[AJ] at ag
   |Iz _ _=>simp[AJ] at ag
   |ins _ _ _=>simp[AJ] at ag
   |AA=>cases r2;simp only[Aw];exact .bool_none _
   |bl b=>cases r2;simp only[Aw];exact .bool_bool _ _
   |int b=>obtain⟨t,rfl⟩:=r2;simp only[Aw];exact .bool_int _ _ _
   |str b=>obtain⟨t,rfl⟩:=r2;simp only[Aw];exact .bool_str _ _ _
   |tup h r=>cases r2;simp only[Aw];obtain⟨_,_,p,_⟩:=I.tuple (.of h);exact .bool_tuple _ p ak
   |lst h r=>cases r2;simp only[Aw];obtain⟨_,_,p,_⟩:=I.list h;exact .bool_list _ p.isList ak
  |int a =>
   obtain⟨t',rfl⟩:=r1
   cases h2 with
   |DM _ _=>simp[AJ] at ag
   |Iy _ _=>simp[AJ] at ag
   |Iz _ _=>simp[AJ] at ag
   |ins _ _ _=>simp[AJ] at ag
   |AA=>cases r2;simp only[Aw];exact .int_none _ _
   |bl b=>cases r2;simp only[Aw];exact .int_bool _ _ _
   |int b=>obtain⟨t,rfl⟩:=r2;simp only[Aw];exact .int_int _ _ _ _
   |str b=>obtain⟨t,rfl⟩:=r2;simp only[Aw];exact .int_str _ _ _ _
   |tup h r=>cases r2;simp only[Aw];obtain⟨_,_,p,_⟩:=I.tuple (.of h);exact .int_tuple _ _ p ak
   |lst h r=>cases r2;simp only[Aw];obtain⟨_,_,p,_⟩:=I.list h;exact .int_list _ _ p.isList ak
  |str a =>
   obtain⟨t',rfl⟩:=r1
   cases h2 with
   |DM _ _=>simp[AJ] at ag
   |Iy _ _=>simp[AJ] at ag
   |Iz _ _=>simp[AJ] at ag
   |ins _ _ _=>simp[AJ] at ag
   |AA=>cases r2;simp only[Aw];exact .str_none _ _
   |bl b=>cases r2;simp only[Aw];exact .str_bool _ _ _
   |int b=>obtain⟨t,rfl⟩:=r2;simp only[Aw];exact .str_int _ _ _ _
   |str b=>obtain⟨t,rfl⟩:=r2;simp only[Aw];exact .str_str _ _ _ _
   |tup h r=>cases r2;simp only[Aw];obtain⟨_,_,p,_⟩:=I.tuple (.of h);exact .str_tuple _ _ p ak
   |lst h r=>cases r2;simp only[Aw];obtain⟨_,_,p,_⟩:=I.list h;exact .str_list _ _ p.isList ak
  |tup h r=>rw[IY] at hd;omega
  |lst h r=>rw[IY] at hd;omega
 |succ n ih =>
  intro A d e v w u1 u2 hd ax ag hu h1 h2 r1 r2
  have ak:A.units < cLine:=by omega
  have uP:A.in1.units + n < cLine:=by show A.units + 1 + n < cLine;omega
  by_cases jh:IY d<=n
  ·exact ih A d e v w u1 u2 jh ax ag (by omega) h1 h2 r1 r2
  cases h1 with
  |DM _ _=>simp[AJ] at ax
  |Iy _ _=>simp[AJ] at ax
  |Iz _ _=>simp[AJ] at ax
  |ins _ _ _=>simp[AJ] at ax
  |AA=>exact absurd (by simp[IY]) jh
  |bl _=>exact absurd (by simp[IY]) jh
  |int _=>exact absurd (by simp[IY]) jh
  |str _=>exact absurd (by simp[IY]) jh
  | @tup a xs ds h r =>
   cases r1
   obtain⟨aa,rv,p,_⟩:=I.tuple (.of h)
   cases h2 with
   |DM _ _=>simp[AJ] at ag
   |Iy _ _=>simp[AJ] at ag
   |Iz _ _=>simp[AJ] at ag
   |ins _ _ _=>simp[AJ] at ag
   |AA=>cases r2;simp only[Aw];exact .tuple_none p ak
   |bl b=>cases r2;simp only[Aw];exact .tuple_bool _ p ak
   |int b=>obtain⟨t,rfl⟩:=r2;simp only[Aw];exact .tuple_int _ _ p ak
   |str b=>obtain⟨t,rfl⟩:=r2;simp only[Aw];exact .tuple_str _ _ p ak
   | @lst a2 c4 es h' r'=>cases r2;simp only[Aw];obtain⟨_,_,p',_⟩:=I.list h';exact .tuple_list p p'.isList ak
   | @tup a2 c4 es h' r' =>
    cases r2
    by_cases ha:a=a2
    ·subst ha
     have e':=I.Hk (.of h) (.of h')
     subst e'
     have e2:=Gy I (by rw[AJ] at ax;exact ax) (by rw[AJ] at ag;exact ag) r r'
     subst e2
     rw[J8]
     exact .same _
    ·obtain⟨its',bi,p',_⟩:=I.tuple (.of h')
     refine .of_refs ha ?_
     have q:=SeqAt.RcAt.tuples (A:=A) (e:=fun j=>Aw (ds.getD j .AA) (es.getD j .AA)) p p' ak fun j h1 h2=>?_
     ·have z1:aa.toArray.size=ds.length:=by rw[zi,<-rv.length,r.length]
      have z2:its'.toArray.size=es.length:=by rw[zi,<-bi.length,r'.length]
      rw[z1,z2,MB] at q
      simp only[Aw]
      exact q
     ·obtain⟨x,hx,rx⟩:=WM rv j h1
      obtain⟨y,hy,ry⟩:=WM bi j h2
      obtain⟨dx,ex,c5⟩:=r.Kr hx
      obtain⟨dy,ey,c6⟩:=r'.Kr hy
      rw[Ct ex,Ct ey]
      refine ih A.in1 dx dy x y _ _ ?_ (C9 (zk ex) (by rw[AJ] at ax;exact ax)) (C9 (zk ey) (by rw[AJ] at ag;exact ag)) uP c5 c6 rx ry
      rw[IY] at hd
      have:=Fw (zk ex)
      omega
  | @lst a xs ds h r =>
   cases r1
   obtain⟨aa,rv,p,_⟩:=I.list h
   cases h2 with
   |DM _ _=>simp[AJ] at ag
   |Iy _ _=>simp[AJ] at ag
   |Iz _ _=>simp[AJ] at ag
   |ins _ _ _=>simp[AJ] at ag
   |AA=>cases r2;simp only[Aw];exact .list_none p.isList ak
   |bl b=>cases r2;simp only[Aw];exact .list_bool _ p.isList ak
   |int b=>obtain⟨t,rfl⟩:=r2;simp only[Aw];exact .list_int _ _ p.isList ak
   |str b=>obtain⟨t,rfl⟩:=r2;simp only[Aw];exact .list_str _ _ p.isList ak
   | @tup a2 c4 es h' r'=>cases r2;simp only[Aw];obtain⟨_,_,p',_⟩:=I.tuple (.of h');exact .list_tuple p.isList p' ak
   | @lst a2 c4 es h' r' =>
    cases r2
    by_cases ha:a=a2
    ·subst ha
     have e':=I.Gq h h'
     subst e'
     have e2:=Gy I (by rw[AJ] at ax;exact ax) (by rw[AJ] at ag;exact ag) r r'
     subst e2
     rw[J8]
     exact .same _
    ·obtain⟨its',bi,p',_⟩:=I.list h'
     refine .of_refs ha ?_
     have z1:aa.toArray.size=ds.length:=by rw[zi,<-rv.length,r.length]
     have z2:its'.toArray.size=es.length:=by rw[zi,<-bi.length,r'.length]
     by_cases hz:aa.toArray.size=its'.toArray.size
     ·have q:=SeqAt.RcAt.lists (A:=A) (e:=fun j=>Aw (ds.getD j .AA) (es.getD j .AA)) p.isList p'.isList hz ak fun j h1 h2=>?_
      ·rw[z1,E8 ds es (by rw[<-z1,<-z2,hz])] at q
       simp only[Aw]
       exact q
      ·obtain⟨x,hx,rx⟩:=WM rv j h1
       obtain⟨y,hy,ry⟩:=WM bi j h2
       obtain⟨dx,ex,c5⟩:=r.Kr hx
       obtain⟨dy,ey,c6⟩:=r'.Kr hy
       rw[Ct ex,Ct ey]
       refine ih A.in1 dx dy x y _ _ ?_ (C9 (zk ex) (by rw[AJ] at ax;exact ax)) (C9 (zk ey) (by rw[AJ] at ag;exact ag)) uP c5 c6 rx ry
       rw[IY] at hd
       have:=Fw (zk ex)
       omega
     ·have q:=SeqAt.RcAt.lists_lengths (A:=A) p.isList p'.isList (by simpa using hz) ak
      simp only[Aw]
      rw[LH (by rw[<-z1,<-z2];exact hz)]
      exact q
theorem tI (I:Inv X pins σ H s) (A:Around) (d e:D) (v w:V) (u1 u2:Value) (hd:A.units + IY d < cLine) (ax:AJ d=true) (ag:AJ e=true) (h1:BK X.K H v d) (h2:BK X.K H w e) (r1:RelV v u1) (r2:RelV w u2):SeqAt.RcAt A s u1 u2 (Aw d e):=by
 have ak:A.units < cLine:=by omega
 cases h1 with
 |DM _ _=>simp[AJ] at ax
 |Iy _ _=>simp[AJ] at ax
 |Iz _ _=>simp[AJ] at ax
 |ins _ _ _=>simp[AJ] at ax
 |AA =>
  cases r1
  cases h2 with
  |DM _ _=>simp[AJ] at ag
  |Iy _ _=>simp[AJ] at ag
  |Iz _ _=>simp[AJ] at ag
  |ins _ _ _=>simp[AJ] at ag
  |AA=>cases r2;simp only[Aw];exact .none_none
  |bl b=>cases r2;simp only[Aw];exact .none_bool _
  |int b=>obtain⟨t,rfl⟩:=r2;simp only[Aw];exact .none_int _ _
  |str b=>obtain⟨t,rfl⟩:=r2;simp only[Aw];exact .none_str _ _
  |tup h r=>cases r2;simp only[Aw];obtain⟨_,_,p,_⟩:=I.tuple (.of h);exact .none_tuple  p ak
  |lst h r=>cases r2;simp only[Aw];obtain⟨_,_,p,_⟩:=I.list h;exact .none_list  p.isList ak
 |bl a =>
  cases r1
  cases h2 with
  |DM _ _=>simp[AJ] at ag
  |Iy _ _=>simp[AJ] at ag
  |Iz _ _=>simp[AJ] at ag
  |ins _ _ _=>simp[AJ] at ag
  |AA=>cases r2;simp only[Aw];exact .bool_none _
  |bl b=>cases r2;simp only[Aw];exact .bool_bool _ _
  |int b=>obtain⟨t,rfl⟩:=r2;simp only[Aw];exact .bool_int _ _ _
  |str b=>obtain⟨t,rfl⟩:=r2;simp only[Aw];exact .bool_str _ _ _
  |tup h r=>cases r2;simp only[Aw];obtain⟨_,_,p,_⟩:=I.tuple (.of h);exact .bool_tuple _ p ak
  |lst h r=>cases r2;simp only[Aw];obtain⟨_,_,p,_⟩:=I.list h;exact .bool_list _ p.isList ak
 |int a =>
  obtain⟨t',rfl⟩:=r1
  cases h2 with
  |DM _ _=>simp[AJ] at ag
  |Iy _ _=>simp[AJ] at ag
  |Iz _ _=>simp[AJ] at ag
  |ins _ _ _=>simp[AJ] at ag
  |AA=>cases r2;simp only[Aw];exact .int_none _ _
  |bl b=>cases r2;simp only[Aw];exact .int_bool _ _ _
  |int b=>obtain⟨t,rfl⟩:=r2;simp only[Aw];exact .int_int _ _ _ _
  |str b=>obtain⟨t,rfl⟩:=r2;simp only[Aw];exact .int_str _ _ _ _
  |tup h r=>cases r2;simp only[Aw];obtain⟨_,_,p,_⟩:=I.tuple (.of h);exact .int_tuple _ _ p ak
  |lst h r=>cases r2;simp only[Aw];obtain⟨_,_,p,_⟩:=I.list h;exact .int_list _ _ p.isList ak
 |str a =>
  obtain⟨t',rfl⟩:=r1
  cases h2 with
  |DM _ _=>simp[AJ] at ag
  |Iy _ _=>simp[AJ] at ag
  |Iz _ _=>simp[AJ] at ag
  |ins _ _ _=>simp[AJ] at ag
  |AA=>cases r2;simp only[Aw];exact .str_none _ _
  |bl b=>cases r2;simp only[Aw];exact .str_bool _ _ _
  |int b=>obtain⟨t,rfl⟩:=r2;simp only[Aw];exact .str_int _ _ _ _
  |str b=>obtain⟨t,rfl⟩:=r2;simp only[Aw];exact .str_str _ _ _ _
  |tup h r=>cases r2;simp only[Aw];obtain⟨_,_,p,_⟩:=I.tuple (.of h);exact .str_tuple _ _ p ak
  |lst h r=>cases r2;simp only[Aw];obtain⟨_,_,p,_⟩:=I.list h;exact .str_list _ _ p.isList ak
 | @tup a xs ds h r =>
  cases r1
  obtain⟨aa,rv,p,_⟩:=I.tuple (.of h)
  cases h2 with
  |DM _ _=>simp[AJ] at ag
  |Iy _ _=>simp[AJ] at ag
  |Iz _ _=>simp[AJ] at ag
  |ins _ _ _=>simp[AJ] at ag
  |AA=>cases r2;simp only[Aw];exact .tuple_none  p ak
  |bl b=>cases r2;simp only[Aw];exact .tuple_bool _ p ak
  |int b=>obtain⟨t,rfl⟩:=r2;simp only[Aw];exact .tuple_int _ _ p ak
  |str b=>obtain⟨t,rfl⟩:=r2;simp only[Aw];exact .tuple_str _ _ p ak
  | @lst a2 c4 es h' r'=>cases r2;simp only[Aw];obtain⟨_,_,p',_⟩:=I.list h';exact .tuple_list p p'.isList ak
  | @tup a2 c4 es h' r' =>
   cases r2
   obtain⟨its',bi,p',_⟩:=I.tuple (.of h')
   have z1:aa.toArray.size=ds.length:=by rw[zi,<-rv.length,r.length]
   have z2:its'.toArray.size=es.length:=by rw[zi,<-bi.length,r'.length]
   have q:=SeqAt.RcAt.tuples (A:=A) (e:=fun j=>Aw (ds.getD j .AA) (es.getD j .AA)) p p' ak fun j h1 h2=>?_
   ·rw[z1,z2,MB] at q
    simp only[Aw]
    exact q
   ·obtain⟨x,hx,rx⟩:=WM rv j h1
    obtain⟨y,hy,ry⟩:=WM bi j h2
    obtain⟨dx,ex,c5⟩:=r.Kr hx
    obtain⟨dy,ey,c6⟩:=r'.Kr hy
    rw[Ct ex,Ct ey]
    rw[IY] at hd
    have:=Fw (zk ex)
    exact PD I (Lw ds) A.in1 dx dy x y _ _ this (C9 (zk ex) (by rw[AJ] at ax;exact ax)) (C9 (zk ey) (by rw[AJ] at ag;exact ag)) (by show A.units + 1 + _ < cLine;omega) c5 c6 rx ry
 | @lst a xs ds h r =>
  cases r1
  obtain⟨aa,rv,p,_⟩:=I.list h
  cases h2 with
  |DM _ _=>simp[AJ] at ag
  |Iy _ _=>simp[AJ] at ag
  |Iz _ _=>simp[AJ] at ag
  |ins _ _ _=>simp[AJ] at ag
  |AA=>cases r2;simp only[Aw];exact .list_none  p.isList ak
  |bl b=>cases r2;simp only[Aw];exact .list_bool _ p.isList ak
  |int b=>obtain⟨t,rfl⟩:=r2;simp only[Aw];exact .list_int _ _ p.isList ak
  |str b=>obtain⟨t,rfl⟩:=r2;simp only[Aw];exact .list_str _ _ p.isList ak
  | @tup a2 c4 es h' r'=>cases r2;simp only[Aw];obtain⟨_,_,p',_⟩:=I.tuple (.of h');exact .list_tuple p.isList p' ak
  | @lst a2 c4 es h' r' =>
   cases r2
   obtain⟨its',bi,p',_⟩:=I.list h'
   have z1:aa.toArray.size=ds.length:=by rw[zi,<-rv.length,r.length]
   have z2:its'.toArray.size=es.length:=by rw[zi,<-bi.length,r'.length]
   by_cases hz:aa.toArray.size=its'.toArray.size
   ·have q:=SeqAt.RcAt.lists (A:=A) (e:=fun j=>Aw (ds.getD j .AA) (es.getD j .AA)) p.isList p'.isList hz ak fun j h1 h2=>?_
    ·rw[z1,E8 ds es (by rw[<-z1,<-z2,hz])] at q
     simp only[Aw]
     exact q
    ·obtain⟨x,hx,rx⟩:=WM rv j h1
     obtain⟨y,hy,ry⟩:=WM bi j h2
     obtain⟨dx,ex,c5⟩:=r.Kr hx
     obtain⟨dy,ey,c6⟩:=r'.Kr hy
     rw[Ct ex,Ct ey]
     rw[IY] at hd
     have:=Fw (zk ex)
     exact PD I (Lw ds) A.in1 dx dy x y _ _ this (C9 (zk ex) (by rw[AJ] at ax;exact ax)) (C9 (zk ey) (by rw[AJ] at ag;exact ag)) (by show A.units + 1 + _ < cLine;omega) c5 c6 rx ry
   ·have q:=SeqAt.RcAt.lists_lengths (A:=A) p.isList p'.isList (by simpa using hz) ak
    simp only[Aw]
    rw[LH (by rw[<-z1,<-z2];exact hz)]
    exact q
theorem pK (I:Inv X pins σ H s) (A:Around) (d e:D) (v w:V) (u1 u2:Value) (hd:A.units + IY d < cLine) (ax:AJ d=true) (ag:AJ e=true) (h1:BK X.K H v d) (h2:BK X.K H w e) (r1:RelV v u1) (r2:RelV w u2):SeqAt.RcNeAt A s u1 u2 (!Aw d e):=by
 have ak:A.units < cLine:=by omega
 cases h1 with
 |DM _ _=>simp[AJ] at ax
 |Iy _ _=>simp[AJ] at ax
 |Iz _ _=>simp[AJ] at ax
 |ins _ _ _=>simp[AJ] at ax
 |AA =>
  cases r1
  cases h2 with
  |DM _ _=>simp[AJ] at ag
  |Iy _ _=>simp[AJ] at ag
  |Iz _ _=>simp[AJ] at ag
  |ins _ _ _=>simp[AJ] at ag
  |AA=>cases r2;simp only[Aw];exact .none_none
  |bl b=>cases r2;simp only[Aw];exact .none_bool _
  |int b=>obtain⟨t,rfl⟩:=r2;simp only[Aw];exact .none_int _ _
  |str b=>obtain⟨t,rfl⟩:=r2;simp only[Aw];exact .none_str _ _
  |tup h r=>cases r2;simp only[Aw];obtain⟨_,_,p,_⟩:=I.tuple (.of h);exact .none_tuple  p ak
  |lst h r=>cases r2;simp only[Aw];obtain⟨_,_,p,_⟩:=I.list h;exact .none_list  p.isList ak
 |bl a =>
  cases r1
  cases h2 with
  |DM _ _=>simp[AJ] at ag
  |Iy _ _=>simp[AJ] at ag
  |Iz _ _=>simp[AJ] at ag
  |ins _ _ _=>simp[AJ] at ag
  |AA=>cases r2;simp only[Aw];exact .bool_none _
  |bl b=>cases r2;simp only[Aw];exact .bool_bool _ _
  |int b=>obtain⟨t,rfl⟩:=r2;simp only[Aw];exact .bool_int _ _ _
  |str b=>obtain⟨t,rfl⟩:=r2;simp only[Aw];exact .bool_str _ _ _
  |tup h r=>cases r2;simp only[Aw];obtain⟨_,_,p,_⟩:=I.tuple (.of h);exact .bool_tuple _ p ak
  |lst h r=>cases r2;simp only[Aw];obtain⟨_,_,p,_⟩:=I.list h;exact .bool_list _ p.isList ak
 |int a =>
  obtain⟨t',rfl⟩:=r1
  cases h2 with
  |DM _ _=>simp[AJ] at ag
  |Iy _ _=>simp[AJ] at ag
  |Iz _ _=>simp[AJ] at ag
  |ins _ _ _=>simp[AJ] at ag
  |AA=>cases r2;simp only[Aw];exact .int_none _ _
  |bl b=>cases r2;simp only[Aw];exact .int_bool _ _ _
  |int b=>obtain⟨t,rfl⟩:=r2;simp only[Aw];exact .int_int _ _ _ _
  |str b=>obtain⟨t,rfl⟩:=r2;simp only[Aw];exact .int_str _ _ _ _
  |tup h r=>cases r2;simp only[Aw];obtain⟨_,_,p,_⟩:=I.tuple (.of h);exact .int_tuple _ _ p ak
  |lst h r=>cases r2;simp only[Aw];obtain⟨_,_,p,_⟩:=I.list h;exact .int_list _ _ p.isList ak
 |str a =>
  obtain⟨t',rfl⟩:=r1
  cases h2 with
  |DM _ _=>simp[AJ] at ag
  |Iy _ _=>simp[AJ] at ag
  |Iz _ _=>simp[AJ] at ag
  |ins _ _ _=>simp[AJ] at ag
  |AA=>cases r2;simp only[Aw];exact .str_none _ _
  |bl b=>cases r2;simp only[Aw];exact .str_bool _ _ _
  |int b=>obtain⟨t,rfl⟩:=r2;simp only[Aw];exact .str_int _ _ _ _
  |str b=>obtain⟨t,rfl⟩:=r2;simp only[Aw];exact .str_str _ _ _ _
  |tup h r=>cases r2;simp only[Aw];obtain⟨_,_,p,_⟩:=I.tuple (.of h);exact .str_tuple _ _ p ak
  |lst h r=>cases r2;simp only[Aw];obtain⟨_,_,p,_⟩:=I.list h;exact .str_list _ _ p.isList ak
 | @tup a xs ds h r =>
  cases r1
  obtain⟨aa,rv,p,_⟩:=I.tuple (.of h)
  cases h2 with
  |DM _ _=>simp[AJ] at ag
  |Iy _ _=>simp[AJ] at ag
  |Iz _ _=>simp[AJ] at ag
  |ins _ _ _=>simp[AJ] at ag
  |AA=>cases r2;simp only[Aw];exact .tuple_none  p ak
  |bl b=>cases r2;simp only[Aw];exact .tuple_bool _ p ak
  |int b=>obtain⟨t,rfl⟩:=r2;simp only[Aw];exact .tuple_int _ _ p ak
  |str b=>obtain⟨t,rfl⟩:=r2;simp only[Aw];exact .tuple_str _ _ p ak
  | @lst a2 c4 es h' r'=>cases r2;simp only[Aw];obtain⟨_,_,p',_⟩:=I.list h';exact .tuple_list p p'.isList ak
  | @tup a2 c4 es h' r' =>
   cases r2
   obtain⟨its',bi,p',_⟩:=I.tuple (.of h')
   have z1:aa.toArray.size=ds.length:=by rw[zi,<-rv.length,r.length]
   have z2:its'.toArray.size=es.length:=by rw[zi,<-bi.length,r'.length]
   have q:=SeqAt.RcNeAt.tuples (A:=A) (e:=fun j=>Aw (ds.getD j .AA) (es.getD j .AA)) p p' ak fun j h1 h2=>?_
   ·rw[z1,z2,MB] at q
    simp only[Aw]
    exact q
   ·obtain⟨x,hx,rx⟩:=WM rv j h1
    obtain⟨y,hy,ry⟩:=WM bi j h2
    obtain⟨dx,ex,c5⟩:=r.Kr hx
    obtain⟨dy,ey,c6⟩:=r'.Kr hy
    rw[Ct ex,Ct ey]
    rw[IY] at hd
    have:=Fw (zk ex)
    exact PD I (Lw ds) A.in1 dx dy x y _ _ this (C9 (zk ex) (by rw[AJ] at ax;exact ax)) (C9 (zk ey) (by rw[AJ] at ag;exact ag)) (by show A.units + 1 + _ < cLine;omega) c5 c6 rx ry
 | @lst a xs ds h r =>
  cases r1
  obtain⟨aa,rv,p,_⟩:=I.list h
  cases h2 with
  |DM _ _=>simp[AJ] at ag
  |Iy _ _=>simp[AJ] at ag
  |Iz _ _=>simp[AJ] at ag
  |ins _ _ _=>simp[AJ] at ag
  |AA=>cases r2;simp only[Aw];exact .list_none  p.isList ak
  |bl b=>cases r2;simp only[Aw];exact .list_bool _ p.isList ak
  |int b=>obtain⟨t,rfl⟩:=r2;simp only[Aw];exact .list_int _ _ p.isList ak
  |str b=>obtain⟨t,rfl⟩:=r2;simp only[Aw];exact .list_str _ _ p.isList ak
  | @tup a2 c4 es h' r'=>cases r2;simp only[Aw];obtain⟨_,_,p',_⟩:=I.tuple (.of h');exact .list_tuple p.isList p' ak
  | @lst a2 c4 es h' r' =>
   cases r2
   obtain⟨its',bi,p',_⟩:=I.list h'
   have z1:aa.toArray.size=ds.length:=by rw[zi,<-rv.length,r.length]
   have z2:its'.toArray.size=es.length:=by rw[zi,<-bi.length,r'.length]
   by_cases hz:aa.toArray.size=its'.toArray.size
   ·have q:=SeqAt.RcNeAt.lists (A:=A) (e:=fun j=>Aw (ds.getD j .AA) (es.getD j .AA)) p.isList p'.isList hz ak fun j h1 h2=>?_
    ·rw[z1,E8 ds es (by rw[<-z1,<-z2,hz])] at q
     simp only[Aw]
     exact q
    ·obtain⟨x,hx,rx⟩:=WM rv j h1
     obtain⟨y,hy,ry⟩:=WM bi j h2
     obtain⟨dx,ex,c5⟩:=r.Kr hx
     obtain⟨dy,ey,c6⟩:=r'.Kr hy
     rw[Ct ex,Ct ey]
     rw[IY] at hd
     have:=Fw (zk ex)
     exact PD I (Lw ds) A.in1 dx dy x y _ _ this (C9 (zk ex) (by rw[AJ] at ax;exact ax)) (C9 (zk ey) (by rw[AJ] at ag;exact ag)) (by show A.units + 1 + _ < cLine;omega) c5 c6 rx ry
   ·have q:=SeqAt.RcNeAt.lists_lengths (A:=A) p.isList p'.isList (by simpa using hz) ak
    simp only[Aw]
    rw[LH (by rw[<-z1,<-z2];exact hz)]
    exact q
noncomputable def cP (K:za) (A:Around) (neg:Bool):R2:=fun x y H Q=>∃ d e,BK K H x d/\BK K H y e/\A.units + IY d < cLine/\AJ d=true/\AJ e=true/\Q (.bl (if neg=true then !Aw d e else Aw d e)) H
theorem Xw:Gs X (compareOp .Eq) (cP X.K X.A false):=by
 intro pins s σ H x y v u Q I rx ry h
 obtain⟨d,e,hd,he,hu,n1,n2,q⟩:=h
 exact tI I X.A d e x y v u hu n1 n2 hd he rx ry X.prog X.w X.xe _ ⟨.bl _,H,I,rfl,q⟩
theorem kN:Gs X (compareOp .NotEq) (cP X.K X.A true):=by
 intro pins s σ H x y v u Q I rx ry h
 obtain⟨d,e,hd,he,hu,n1,n2,q⟩:=h
 exact pK I X.A d e x y v u hu n1 n2 hd he rx ry X.prog X.w X.xe _ ⟨.bl _,H,I,rfl,q⟩
end
end L2
namespace L2
open PySem PySem.Spec PyProof.Rows
inductive OT where
 |sh (d:D)|lst (ts:List OT)|tup (ts:List OT)|Bi (t:Bool) (ks:List D) (ts:List OT)|ins (x:Str) (ns:List Str) (ts:List OT)
inductive Ow where
 |rows (C2:List (List D))
 |LI (p:Nat) (ds:List D)
 |tree (p:Option Nat) (t:OT)
inductive Cl where
 |val (d:D)|own (ds:List D)|ow (o:Ow)
noncomputable abbrev Ab:=List (Option Cl)
inductive M (α:Type) where
 |ok (a:α)|ex (c:Str)|bad
noncomputable def M.bind {α β:Type}(m:M α) (k:α->M β):M β:=match m with
 | .ok a=>k a
 | .ex c=>.ex c
 | .bad=>.bad
@[simp] theorem M.A7 {α β:Type}(a:α) (k:α->M β):(M.ok a).bind k=k a:=rfl
noncomputable def del (H:Hp) (P:Addr->Prop):Hp:=fun a=>open Classical in if P a then none else H a
theorem Ax {H:Hp}{P:Addr->Prop}{a:Addr}(h:¬ P a):del H P a=H a:=by unfold del;rw[if_neg h]
theorem D3 {H:Hp}{P:Addr->Prop}{a:Addr}(h:P a):del H P a=none:=by unfold del;rw[if_pos h]
theorem Al {H:Hp}{P:Addr->Prop}{a:Addr}{o:HO}(h:del H P a=some o):¬ P a/\H a=some o:=by
 by_cases hp:P a
 ·rw[D3 hp] at h;cases h
 ·rw[Ax hp] at h;exact⟨hp,h⟩
theorem Ad.del {H H':Hp}{P:Addr->Prop}(e:Ad H H'):Ad (del H P) (del H' P):=fun b o h=>by
 obtain⟨h1,h2⟩:=Al h
 rw[Ax h1];exact e b o h2
theorem CL {H:Hp}{P P':Addr->Prop}(h:∀ a,P' a->P a):Ad (L2.del H P) (L2.del H P'):=fun b o e=>by
 obtain⟨h1,h2⟩:=Al e
 rw[Ax fun z=>h1 (h b z)];exact h2
theorem E9 {H:Hp}{P:Addr->Prop}:Ad (L2.del H P) H:=fun b o e=>(Al e).2
noncomputable def Dt (H:Hp) (a:Addr):Prop:=∃ o,H a=some o/\∀ xs,o≠.tup xs/\∀ z,o≠.Vs z (.tup xs)
theorem Dt.same {H H':Hp}{a:Addr}(h:Dt H a) (e:Ad H H'):Dt H' a:=let ⟨o,q,r⟩:=h;⟨o,e a o q,r⟩
theorem Dt.no {H:Hp}{a:Addr}(h:Dt H a) (e:H a=none):False:=by
 obtain⟨o,q,r⟩:=h
 rw[e] at q;cases q
theorem Dt.lst {H:Hp}{a:Addr}{xs:List V}(h:H a=some (.lst xs)):Dt H a:=⟨_,h,fun _=>⟨fun z=>(by cases z),fun _ z=>by cases z⟩⟩
mutual
inductive C3 (K:za) (H:Hp) (P:Addr->Prop):V->OT->List Addr->Prop
 |sh {v d}:BK K (del H P) v d->C3 K H P v (.sh d) []
 |lst {p xs ts fp}:H p=some (.lst xs)->AK K H P xs ts fp->C3 K H P (.ref p) (.lst ts) (p::fp)
 |tup {p xs ts fp}:del H P p=some (.tup xs)->AK K H P xs ts fp->C3 K H P (.ref p) (.tup ts) fp
 |dK {p kvs ts fp}:H p=some (.dK kvs)->AK K H P (kvs.map za5) ts fp->C3 K H P (.ref p) (.Bi false (kvs.map fun kv=>Dp kv.1) ts) (p::fp)
 |dT {p kvs ts fp}:H p=some (.dT kvs)->AK K H P (kvs.map za5) ts fp->C3 K H P (.ref p) (.Bi true (kvs.map fun kv=>.tup (kv.1.map Dp)) ts) (p::fp)
 |ins {p C dx fs ts fp x}:zd K mainGlobals x=some (some (.ref C))->H p=some (.ins C dx fs)->AK K H P (fs.map za5) ts fp->C3 K H P (.ref p) (.ins x (fs.map zP) ts) (p::fp)
inductive AK (K:za) (H:Hp) (P:Addr->Prop):List V->List OT->List Addr->Prop
 |nil:AK K H P [] [] []
 |cons {v t fp vs ts fq}:C3 K H P v t fp->AK K H P vs ts fq->AK K H P (v::vs) (t::ts) (fp++fq)
end
mutual
noncomputable def er:OT->D
 | .sh d=>d
 | .lst ts=>.lst (Up ts)
 | .tup ts=>.tup (Up ts)
 | .Bi t ks ts=>.Bi t ks (Up ts)
 | .ins x ns ts=>.ins x ns (Up ts)
noncomputable def Up:List OT->List D
 |[]=>[]
 |t::r=>er t::Up r
end
theorem Uq:∀ ts:List OT,Up ts=ts.map er
 |[]=>rfl
 |t::r=>by rw[Up,Uq r,zg]
mutual
theorem C3.move {K:za}{H H':Hp}{P P':Addr->Prop}(sm:Ad (del H P) (del H' P')):∀ {v:V}{t:OT}{fp:List Addr},(∀ a∈fp,H' a=H a)->C3 K H P v t fp->C3 K H' P' v t fp
 |_,_,_,_,.sh h=>.sh (h.mono sm)
 |_,_,_,k,.lst h r=>.lst ((k _ ze).trans h) (AK.move sm (fun a ha=>k a (zf _ ha)) r)
 |_,_,_,k,.tup h r=>.tup (sm _ _ h) (AK.move sm k r)
 |_,_,_,k,.dK h r=>.dK ((k _ ze).trans h) (AK.move sm (fun a ha=>k a (zf _ ha)) r)
 |_,_,_,k,.dT h r=>.dT ((k _ ze).trans h) (AK.move sm (fun a ha=>k a (zf _ ha)) r)
 |_,_,_,k,.ins n h r=>.ins n ((k _ ze).trans h) (AK.move sm (fun a ha=>k a (zf _ ha)) r)
theorem AK.move {K:za}{H H':Hp}{P P':Addr->Prop}(sm:Ad (del H P) (del H' P')):∀ {v:List V}{t:List OT}{fp:List Addr},(∀ a∈fp,H' a=H a)->AK K H P v t fp->AK K H' P' v t fp
 |_,_,_,_,.nil=>.nil
 |_,_,_,k,.cons h r=>.cons (C3.move sm (fun a ha=>k a (zO _ ha)) h) (AK.move sm (fun a ha=>k a (zq _ ha)) r)
end
mutual
theorem C3.Cq {K:za}{H:Hp}{P:Addr->Prop}:∀ {v:V}{t:OT}{fp:List Addr},C3 K H P v t fp->∀ a∈fp,Dt H a
 |_,_,_,.sh h,a,ha=>by cases ha
 |_,_,_,.lst h r,a,ha=>by
  rcases zu.mp ha with rfl|ha
  ·exact .lst h
  ·exact AK.Cq r a ha
 |_,_,_,.tup h r,a,ha=>AK.Cq r a ha
 |_,_,_,.dK h r,a,ha=>by
  rcases zu.mp ha with rfl|ha
  ·exact⟨_,h,fun _=>⟨fun z=>(by cases z),fun _ z=>by cases z⟩⟩
  ·exact AK.Cq r a ha
 |_,_,_,.dT h r,a,ha=>by
  rcases zu.mp ha with rfl|ha
  ·exact⟨_,h,fun _=>⟨fun z=>(by cases z),fun _ z=>by cases z⟩⟩
  ·exact AK.Cq r a ha
 |_,_,_,.ins n h r,a,ha=>by
  rcases zu.mp ha with rfl|ha
  ·exact⟨_,h,fun _=>⟨fun z=>(by cases z),fun _ z=>by cases z⟩⟩
  ·exact AK.Cq r a ha
theorem AK.Cq {K:za}{H:Hp}{P:Addr->Prop}:∀ {v:List V}{t:List OT}{fp:List Addr},AK K H P v t fp->∀ a∈fp,Dt H a
 |_,_,_,.nil,a,ha=>by cases ha
 |_,_,_,.cons h r,a,ha=>by
  rcases zy.mp ha with ha|ha
  ·exact C3.Cq h a ha
  ·exact AK.Cq r a ha
end
mutual
theorem C3.Cr {K:za}{H:Hp}{P P':Addr->Prop}:∀ {v:V}{t:OT}{fp ai:List Addr},C3 K H P v t fp->C3 K H P' v t ai->fp=ai
 |_,_,_,_,.sh _,.sh _=>rfl
 |_,_,_,_,.lst h r,.lst h' r'=>by
  rw[h] at h';cases h'
  rw[AK.Cr r r']
 |_,_,_,_,.tup h r,.tup h' r'=>by
  have e:=(Al h).2.symm.trans (Al h').2
  cases e
  exact AK.Cr r r'
 |_,_,_,_,.dK (kvs:=kvs) (ts:=ts) h r,x=>by
  generalize ht:OT.Bi false (kvs.map fun kv=>Dp kv.1) ts=t at x
  cases x with
  |dK h' r' =>
   rw[h] at h';cases h'
   injection ht with _ _ e
   subst e
   rw[AK.Cr r r']
  |dT h' r'=>rw[h] at h';cases h'
  |_=>cases ht
 |_,_,_,_,.dT (kvs:=kvs) (ts:=ts) h r,x=>by
  generalize ht:OT.Bi true (kvs.map fun kv=>D.tup (kv.1.map Dp)) ts=t at x
  cases x with
  |dT h' r' =>
   rw[h] at h';cases h'
   injection ht with _ _ e
   subst e
   rw[AK.Cr r r']
  |dK h' r'=>rw[h] at h';cases h'
  |_=>cases ht
 |_,_,_,_,.ins (fs:=fs) (ts:=ts) (x:=y) n h r,x=>by
  generalize ht:OT.ins y (fs.map zP) ts=t at x
  cases x with
  |ins n' h' r' =>
   rw[h] at h';cases h'
   injection ht with _ _ e
   subst e
   rw[AK.Cr r r']
  |_=>cases ht
theorem AK.Cr {K:za}{H:Hp}{P P':Addr->Prop}:∀ {v:List V}{t:List OT}{fp ai:List Addr},AK K H P v t fp->AK K H P' v t ai->fp=ai
 |_,_,_,_,.nil,.nil=>rfl
 |_,_,_,_,.cons h r,.cons h' r'=>by rw[C3.Cr h h',AK.Cr r r']
end
mutual
theorem C3.has {K:za}{H:Hp}{P P0:Addr->Prop}(hs:∀ a,P0 a->P a):∀ {v:V}{t:OT}{fp:List Addr},(∀ a∈fp,¬ P0 a)->C3 K H P v t fp->BK K (del H P0) v (er t)
 |_,_,_,_,.sh h=>by rw[er];exact h.mono (CL hs)
 |_,_,_,k,.lst h r=>by rw[er];exact .lst (.of (show del H P0 _=_ by rw[Ax (k _ ze)];exact h)) (AK.has hs (fun a ha=>k a (zf _ ha)) r)
 |_,_,_,k,.tup h r=>by rw[er];exact .tup (CL hs _ _ h) (AK.has hs k r)
 |_,_,_,k,.dK h r=>by rw[er];exact .Iy (show del H P0 _=_ by rw[Ax (k _ ze)];exact h) (AK.has hs (fun a ha=>k a (zf _ ha)) r)
 |_,_,_,k,.dT h r=>by rw[er];exact .Iz (show del H P0 _=_ by rw[Ax (k _ ze)];exact h) (AK.has hs (fun a ha=>k a (zf _ ha)) r)
 |_,_,_,k,.ins n h r=>by rw[er];exact .ins n (show del H P0 _=_ by rw[Ax (k _ ze)];exact h) (AK.has hs (fun a ha=>k a (zf _ ha)) r)
theorem AK.has {K:za}{H:Hp}{P P0:Addr->Prop}(hs:∀ a,P0 a->P a):∀ {v:List V}{t:List OT}{fp:List Addr},(∀ a∈fp,¬ P0 a)->AK K H P v t fp->Ag K (del H P0) v (Up t)
 |_,_,_,_,.nil=>by rw[Up];exact .nil
 |_,_,_,k,.cons h r=>by rw[Up];exact .cons (C3.has hs (fun a ha=>k a (zO _ ha)) h) (AK.has hs (fun a ha=>k a (zq _ ha)) r)
end
inductive By (K:za) (H:Hp) (P:Addr->Prop):List Addr->List (List D)->Prop
 |nil:By K H P [] []
 |cons {q:Addr} {xs:List V} {ds:List D} {ps:List Addr} {C2:List (List D)}:H q=some (.lst xs)->Ag K (del H P) xs ds->By K H P ps C2->By K H P (q::ps) (ds::C2)
noncomputable def Dq (K:za) (H:Hp) (P:Addr->Prop):Cl->V->List Addr->Prop
 | .own ds,v,fp=>∃ p xs,v=.ref p/\fp=[p]/\H p=some (.lst xs)/\Ag K (del H P) xs ds
 | .ow (.rows C2),v,fp=>∃ p ps,v=.ref p/\fp=p::ps/\H p=some (.lst (ps.map V.ref))/\By K H P ps C2
 | .ow (.LI _ ds),v,fp=>∃ p xs,v=.ref p/\fp=[p]/\H p=some (.lst xs)/\Ag K (del H P) xs ds
 | .ow (.tree _ t),v,fp=>C3 K H P v t fp
 | .val _,_,_=>False
noncomputable def IA:Cl->Bool
 | .val _=>false
 |_=>true
theorem By.move {K:za}{H H':Hp}{P P':Addr->Prop}(sm:Ad (del H P) (del H' P')):∀ {ps:List Addr}{C2:List (List D)},(∀ a∈ps,H' a=H a)->By K H P ps C2->By K H' P' ps C2
 |_,_,_,.nil=>.nil
 |_,_,k,.cons h r t=>.cons ((k _ ze).trans h) (r.mono sm) (By.move sm (fun a ha=>k a (zf _ ha)) t)
theorem By.at {K:za}{H:Hp}{P:Addr->Prop}:∀ {ps:List Addr}{C2:List (List D)},By K H P ps C2->∀ a∈ps,∃ xs,H a=some (.lst xs)
 |_,_,.nil,a,h=>by cases h
 |_,_,.cons h r t,a,ha=>by
  rcases zu.mp ha with rfl|ha
  ·exact⟨_,h⟩
  ·exact t.at a ha
theorem By.length {K:za}{H:Hp}{P:Addr->Prop}:∀ {ps:List Addr}{C2:List (List D)},By K H P ps C2->ps.length=C2.length
 |_,_,.nil=>rfl
 |_,_,.cons h r t=>by rw[zp,zp,t.length]
theorem By.get {K:za}{H:Hp}{P:Addr->Prop}:∀ {ps:List Addr}{C2:List (List D)}{i:Nat}{ds:List D},By K H P ps C2->C2[i]? =some ds->∃ q xs,ps[i]? =some q/\H q=some (.lst xs)/\Ag K (del H P) xs ds
 |_,_,_,_,.nil,e=>by simp at e
 |_,_,0,_,.cons h r _,e=>by simp at e;subst e;exact⟨_,_,rfl,h,r⟩
 |_,_,i + 1,ds,.cons _ _ t,e=>by
  obtain⟨q,xs,h1,h2⟩:=By.get (i:=i) (ds:=ds) t (by simpa using e)
  exact⟨q,xs,by simpa using h1,h2⟩
theorem R8:∀ {ps qs:List Addr},ps.map V.ref=qs.map V.ref->ps=qs
 |[],[],_=>rfl
 |[],_::_,h=>by cases h
 |_::_,[],h=>by cases h
 |p::ps,q::qs,h=>by
  rw[zg,zg] at h
  injection h with h1 h2
  injection h1 with h1
  rw[h1,R8 h2]
theorem Dq.move {K:za}{H H':Hp}{P P':Addr->Prop}(sm:Ad (del H P) (del H' P')){c:Cl}{v:V}{fp:List Addr}(k:∀ a∈fp,H' a=H a) (h:Dq K H P c v fp):Dq K H' P' c v fp:=by
 cases c with
 |val d=>exact h
 |own ds =>
  obtain⟨p,xs,rfl,rfl,h1,h2⟩:=h
  exact⟨p,xs,rfl,rfl,(k p ze).trans h1,h2.mono sm⟩
 |ow o =>
  cases o with
  |rows C2 =>
   obtain⟨p,ps,rfl,rfl,h1,h2⟩:=h
   exact⟨p,ps,rfl,rfl,(k p ze).trans h1,h2.move sm fun a ha=>k a (zf _ ha)⟩
  |LI p ds =>
   obtain⟨p,xs,rfl,rfl,h1,h2⟩:=h
   exact⟨p,xs,rfl,rfl,(k p ze).trans h1,h2.mono sm⟩
  |tree p t=>exact C3.move sm k h
theorem Dq.at {K:za}{H:Hp}{P:Addr->Prop}{c:Cl}{v:V}{fp:List Addr}(h:Dq K H P c v fp):∀ a∈fp,∃ o,H a=some o:=by
 cases c with
 |val d=>exact h.elim
 |own ds =>
  obtain⟨p,xs,rfl,rfl,h1,h2⟩:=h
  exact fun a ha=>⟨.lst xs,by rw[zh.mp ha];exact h1⟩
 |ow o =>
  cases o with
  |rows C2 =>
   obtain⟨p,ps,rfl,rfl,h1,h2⟩:=h
   intro a ha
   rcases zu.mp ha with rfl|ha
   ·exact⟨_,h1⟩
   ·obtain⟨xs,q⟩:=h2.at a ha
    exact⟨_,q⟩
  |LI p ds =>
   obtain⟨p,xs,rfl,rfl,h1,h2⟩:=h
   exact fun a ha=>⟨.lst xs,by rw[zh.mp ha];exact h1⟩
  |tree p t =>
   intro a ha
   obtain⟨o,q,_⟩:=C3.Cq h a ha
   exact⟨o,q⟩
theorem Dq.same {K:za}{H H':Hp}{P:Addr->Prop}(e:Ad H H'){c:Cl}{v:V}{fp:List Addr}(h:Dq K H P c v fp):Dq K H' P c v fp :=
 h.move e.del fun a ha=>by obtain⟨xs,q⟩:=h.at a ha;rw[q];exact e _ _ q
theorem Dq.Cr {K:za}{H:Hp}{P P':Addr->Prop}{c:Cl}{v:V}{fp ai:List Addr}(h:Dq K H P c v fp) (h':Dq K H P' c v ai):fp=ai:=by
 cases c with
 |val d=>exact h.elim
 |own ds =>
  obtain⟨p,xs,rfl,rfl,h1,h2⟩:=h
  obtain⟨p',dw,e,rfl,dz,ie⟩:=h'
  cases e;rfl
 |ow o =>
  cases o with
  |rows C2 =>
   obtain⟨p,ps,rfl,rfl,h1,h2⟩:=h
   obtain⟨p',y2,e,rfl,dz,ie⟩:=h'
   cases e
   rw[h1] at dz
   injection dz with e
   injection e with e
   rw[R8 e]
  |LI p ds =>
   obtain⟨p,xs,rfl,rfl,h1,h2⟩:=h
   obtain⟨p',dw,e,rfl,dz,ie⟩:=h'
   cases e;rfl
  |tree p t=>exact C3.Cr h h'
structure EA where
 pr:Addr->Prop
 g:Nat->Addr
instance:CoeFun EA (fun _=>Addr->Prop):=⟨EA.pr⟩
instance:Coe EA (Addr->Prop):=⟨EA.pr⟩
noncomputable def OA:Cl->Option Nat
 | .ow (.LI n _)=>some n
 | .ow (.tree (some n) _)=>some n
 |_=>none
structure An (K:za) (P0:EA) (P:Addr->Prop) (H:Hp) (σ:St) (ρ:Ab):Prop where
 sub:∀ a,P0 a->P a
 Cq:∀ a,P a->Dt H a
 val:∀(i:Nat) d,ρ[i]? =some (some (.val d))->∃ v,σ[i]? =some (some v)/\BK K (del H P) v d
 ows:∀(i:Nat) c,ρ[i]? =some (some c)->IA c=true->∃ v fp,σ[i]? =some (some v)/\Dq K H P c v fp/\(∀ a∈fp,P a/\¬ P0 a)/\fp.Nodup
 apart:∀(i j:Nat) c c' v v' fp ai,ρ[i]? =some (some c)->ρ[j]? =some (some c')->σ[i]? =some (some v)->σ[j]? =some (some v')->Dq K H P c v fp->Dq K H P c' v' ai->i≠j->∀ a∈fp,a∉ai
 len:σ.length=ρ.length
 pin:∀(i:Nat) c n,ρ[i]? =some (some c)->OA c=some n->σ[i]? =some (some (.ref (P0.g n)))
theorem An.own {K:za}{P0:EA}{P:Addr->Prop}{H:Hp}{σ:St}{ρ:Ab}(E:An K P0 P H σ ρ) (i:Nat) (ds:List D) (h:ρ[i]? =some (some (.own ds))) :
 ∃ p xs,σ[i]? =some (some (.ref p))/\H p=some (.lst xs)/\P p/\¬ P0 p/\Ag K (del H P) xs ds:=by
 obtain⟨v,fp,h1,⟨p,xs,rfl,rfl,h2,h3⟩,h4,_⟩:=E.ows i _ h rfl
 exact⟨p,xs,h1,h2,(h4 p ze).1,(h4 p ze).2,h3⟩
theorem An.Xx {K:za}{P0:EA}{P P':Addr->Prop}{H H':Hp}{σ:St}{ρ:Ab}(E:An K P0 P H σ ρ) (sm:Ad (del H P) (del H' P')){i j:Nat}{c c':Cl}{v v':V}{fp ai:List Addr}
 (ki:∀ v fp,σ[i]? =some (some v)->Dq K H P c v fp->∀ a∈fp,H' a=H a) (kj:∀ v fp,σ[j]? =some (some v)->Dq K H P c' v fp->∀ a∈fp,H' a=H a)
 (hi:ρ[i]? =some (some c)) (hj:ρ[j]? =some (some c')) (si:σ[i]? =some (some v)) (sj:σ[j]? =some (some v')) (h:Dq K H' P' c v fp) (h':Dq K H' P' c' v' ai) (af:i≠j):∀ a∈fp,a∉ai:=by
 have key:∀(k:Nat) (d:Cl) (w:V) (fq:List Addr),ρ[k]? =some (some d)->σ[k]? =some (some w)->(∀ v fp,σ[k]? =some (some v)->Dq K H P d v fp->∀ a∈fp,H' a=H a)->Dq K H' P' d w fq->Dq K H P d w fq:=fun k d w fq hk sk kk ho=>by
  have io:IA d=true:=by cases d<;>first|rfl|exact ho.elim
  obtain⟨w',cf,s2,o2,_⟩:=E.ows k d hk io
  rw[sk] at s2;cases s2
  have o3:=o2.move sm (kk _ _ sk o2)
  rw[ho.Cr o3]
  exact o2
 exact E.apart i j c c' v v' fp ai hi hj si sj (key i c v fp hi si ki h) (key j c' v' ai hj sj kj h') af
theorem An.same {K:za}{P0:EA}{P:Addr->Prop}{H H':Hp}{σ:St}{ρ:Ab}(E:An K P0 P H σ ρ) (e:Ad H H'):An K P0 P H' σ ρ :=
 ⟨E.sub,fun a h=>(E.Cq a h).same e,fun i d h=>let ⟨v,h1,h2⟩:=E.val i d h;⟨v,h1,h2.mono e.del⟩,
  fun i c h io=>let ⟨v,fp,h1,h2,h3,h4⟩:=E.ows i c h io;⟨v,fp,h1,h2.same e,h3,h4⟩,
  fun i j c c' v v' fp ai hi hj si sj h h' af=>E.Xx e.del (fun v fp _ o a ha=>by obtain⟨xs,q⟩:=o.at a ha;rw[q];exact e _ _ q) (fun v fp _ o a ha=>by obtain⟨xs,q⟩:=o.at a ha;rw[q];exact e _ _ q) hi hj si sj h h' af,E.len,E.pin⟩
noncomputable def gV (K:za) (WX:Str->Hp->Prop) (P:Addr->Prop) (H:Hp) (Q:VK):M D->Prop
 | .ok d=>∀ v H',Ad H H'->BK K (del H' P) v d->Q v H'
 | .ex x=>∀ H',Ad H H'->WX x H'
 | .bad=>False
noncomputable def gA (K:za) (WX:Str->Hp->Prop) (P:Addr->Prop) (H:Hp) (Q:List V->Hp->Prop):M (List D)->Prop
 | .ok d=>∀ v H',Ad H H'->Ag K (del H' P) v d->Q v H'
 | .ex x=>∀ H',Ad H H'->WX x H'
 | .bad=>False
noncomputable def gT (WX:Str->Hp->Prop) (H:Hp) (Q:Bool->Hp->Prop):M Bool->Prop
 | .ok b=>∀ H',Ad H H'->Q b H'
 | .ex x=>∀ H',Ad H H'->WX x H'
 | .bad=>False
section
variable {K:za}{WX:Str->Hp->Prop}{P:Addr->Prop}{H H':Hp}
theorem gV.same {Q:VK}{m:M D}(h:gV K WX P H Q m) (e:Ad H H'):gV K WX P H' Q m:=by
 cases m with
 |ok d=>exact fun v H2 q hv=>h v H2 (e.trans q) hv
 |ex x=>exact fun H2 q=>h H2 (e.trans q)
 |bad=>exact h
theorem gA.same {Q:List V->Hp->Prop}{m:M (List D)}(h:gA K WX P H Q m) (e:Ad H H'):gA K WX P H' Q m:=by
 cases m with
 |ok d=>exact fun v H2 q hv=>h v H2 (e.trans q) hv
 |ex x=>exact fun H2 q=>h H2 (e.trans q)
 |bad=>exact h
theorem gT.same {Q:Bool->Hp->Prop}{m:M Bool}(h:gT WX H Q m) (e:Ad H H'):gT WX H' Q m:=by
 cases m with
 |ok d=>exact fun H2 q=>h H2 (e.trans q)
 |ex x=>exact fun H2 q=>h H2 (e.trans q)
 |bad=>exact h
end
noncomputable def Lv (c:Bool) (P0:EA) (P:Addr->Prop):Addr->Prop:=if c=true then P else P0.pr
noncomputable def DE (X:Cx) (WX:Str->Hp->Prop) (c:Bool) (e:Expr) (f:Ab->M D):Prop :=
 ∃ t,PE X e t/\∀ P0 P σ H Q ρ,An X.K P0 P H σ ρ->gV X.K WX (Lv c P0 P) H Q (f ρ)->t σ H Q
noncomputable def DA (X:Cx) (WX:Str->Hp->Prop) (c:Bool) (es:List Expr) (f:Ab->M (List D)):Prop :=
 ∃ t,PA X es t/\(∀ P0 P σ H Q ρ,An X.K P0 P H σ ρ->gA X.K WX (Lv c P0 P) H Q (f ρ)->t σ H Q)/\∀ ρ ds,f ρ=.ok ds->ds.length=es.length
noncomputable def DT (X:Cx) (WX:Str->Hp->Prop) (e:Expr) (f:Ab->M Bool):Prop :=
 ∃ t,PT X e t/\∀ P0 P σ H Q ρ,An X.K P0 P H σ ρ->gT WX H Q (f ρ)->t σ H Q
noncomputable def DW (X:Cx) (WX:Str->Hp->Prop) (e:Expr) (f:Ab->M Bool):Prop :=
 ∃ t,PW X e t/\∀ P0 P σ H Q ρ,An X.K P0 P H σ ρ->gT WX H Q (f ρ)->t σ H Q
theorem DW.dt {X:Cx}{WX:Str->Hp->Prop}{e:Expr}{f:Ab->M Bool}(h:DW X WX e f):DT X WX e f:=let ⟨t,h1,h2⟩:=h;⟨t,h1.pt,h2⟩
section
variable {X:Cx}{WX:Str->Hp->Prop}{c:Bool}{P0:EA}{P:Addr->Prop}{H:Hp}{σ:St}{ρ:Ab}
theorem An.lv (E:An X.K P0 P H σ ρ) (c:Bool):∀ a,Lv c P0 P a->P a:=fun a h=>by
 cases c with
 |true=>exact h
 |false=>exact E.sub a h
theorem An.pL (E:An X.K P0 P H σ ρ) (c:Bool):∀ a,Lv c P0 P a->Dt H a:=fun a h=>E.Cq a (E.lv c a h)
theorem Ks {e:Expr}{f:Ab->M D}(h:DE X WX true e f):DE X WX false e f:=by
 obtain⟨t,h1,h2⟩:=h
 refine⟨t,h1,fun P0 P σ H Q ρ E g=>h2 P0 P σ H Q ρ E ?_⟩
 cases e:f ρ with
 |ok d=>rw[e] at g;exact fun v H' s hv=>g v H' s (hv.mono (CL E.sub))
 |ex x=>rw[e] at g;exact g
 |bad=>rw[e] at g;exact g
noncomputable def pM:D->Bool
 | .tup _ | .lst _ | .DM _ | .Bi _ _ _ | .ins _ _ _=>false
 |_=>true
noncomputable def fl (m:M D):M D:=m.bind fun d=>if pM d=true then .ok d else .bad
noncomputable def rv (i:Nat) (ρ:Ab):M D:=match ρ[i]? with | some (some (.val d))=>.ok d | _=>.bad
noncomputable def ra (i:Nat) (ρ:Ab):M D:=match ρ[i]? with | some (some (.val d))=>.ok d | some (some (.own ds))=>.ok (.lst ds) | some (some (.ow (.rows C2)))=>.ok (.lst (C2.map D.lst)) | some (some (.ow (.LI _ ds)))=>.ok (.lst ds) | some (some (.ow (.tree _ t)))=>.ok (er t) | _=>.bad
theorem A1 (i:Nat){x:Str}{pos:Pos}(h:PE X (.Name x pos) (Lp i)):DE X WX true (.Name x pos) (rv i):=by
 refine⟨_,h,fun P0 P σ H Q ρ E g=>?_⟩
 unfold rv at g
 split at g
 ·rename_i d e
  obtain⟨v,h1,h2⟩:=E.val i d e
  exact⟨v,h1,g v H (Ad.refl H) h2⟩
 ·exact g.elim
theorem A6 {i j pos}:DE X WX c (.Constant (.int i) j pos) (fun _=>.ok (.int i)):=⟨_,iY,fun P0 P σ H Q ρ E g=>g _ H (Ad.refl H) (.int i)⟩
theorem CF {b j pos}:DE X WX c (.Constant (.bool b) j pos) (fun _=>.ok (.bl b)):=⟨_,nX,fun P0 P σ H Q ρ E g=>g _ H (Ad.refl H) (.bl b)⟩
theorem D4 {j pos}:DE X WX c (.Constant .none j pos) (fun _=>.ok .AA):=⟨_,iZ,fun P0 P σ H Q ρ E g=>g _ H (Ad.refl H) .AA⟩
theorem Ta {x j pos}:DE X WX c (.Constant (.str x) j pos) (fun _=>.ok (.str x)):=⟨_,jA,fun P0 P σ H Q ρ E g=>g _ H (Ad.refl H) (.str x)⟩
noncomputable def Ur (K:za) (WX:Str->Hp->Prop) (r:R2) (bd:D->D->M D):Prop :=
 ∀(P:Addr->Prop) (H:Hp) (x y:D) (v w:V) (Q:VK),(∀ a,P a->Dt H a)->BK K (del H P) v x->BK K (del H P) w y->gV K WX P H Q (bd x y)->r v w H Q
variable {a b:Expr}{f g:Ab->M D}{pos:Pos}
theorem R9 {ta tb:TE}{r:R2}{bd:D->D->M D}(ha:∀ P0 P σ H Q ρ,An X.K P0 P H σ ρ->gV X.K WX (Lv c P0 P) H Q (f ρ)->ta σ H Q) (hb:∀ P0 P σ H Q ρ,An X.K P0 P H σ ρ->gV X.K WX (Lv c P0 P) H Q (g ρ)->tb σ H Q)
 (hr:Ur X.K WX r bd) {Q:VK} (E:An X.K P0 P H σ ρ) (h:gV X.K WX (Lv c P0 P) H Q ((f ρ).bind fun x=>(g ρ).bind fun y=>bd x y)):nF r ta tb σ H Q:=by
 refine ha P0 P σ H _ ρ E ?_
 cases e:f ρ with
 |bad=>rw[e] at h;exact h
 |ex x=>rw[e] at h;exact h
 |ok x =>
  rw[e] at h
  intro v H1 s1 hv
  refine hb P0 P σ H1 _ ρ (E.same s1) ?_
  cases e2:g ρ with
  |bad=>rw[e2] at h;exact h
  |ex y=>rw[e2] at h;exact gV.same (m:=.ex y) h s1
  |ok y =>
   rw[e2] at h
   intro w H2 s2 hw
   exact hr _ H2 x y v w Q (fun a q=>((E.same s1).same s2).pL c a q) (hv.mono s2.del) hw ((gV.same h s1).same s2)
theorem OB {op:Operator}{r:R2}{bd:D->D->M D}(ho:Gs X (binaryOp op) r) (hr:Ur X.K WX r bd) (ha:DE X WX c a f) (hb:DE X WX c b g):DE X WX c (.BinOp a op b pos) (fun ρ=>(f ρ).bind fun x=>(g ρ).bind fun y=>bd x y):=by
 obtain⟨ta,a1,a2⟩:=ha
 obtain⟨tb,b1,b2⟩:=hb
 exact⟨_,X6 ho a1 b1,fun P0 P σ H Q ρ E h=>R9 a2 b2 hr E h⟩
theorem Xy {op:CmpOp}{r:R2}{bd:D->D->M D}(ho:Gs X (compareOp op) r) (hr:Ur X.K WX r bd) (ha:DE X WX c a f) (hb:DE X WX c b g) (hm:behindInMarks op b=false):DE X WX c (.Compare a [op] [b] pos) (fun ρ=>(f ρ).bind fun x=>(g ρ).bind fun y=>bd x y):=by
 obtain⟨ta,a1,a2⟩:=ha
 obtain⟨tb,b1,b2⟩:=hb
 exact⟨_,Zz ho a1 b1 hm,fun P0 P σ H Q ρ E h=>R9 a2 b2 hr E h⟩
theorem pN {r:R2}{bd:D->D->M D}(ho:ZI X r) (hr:Ur X.K WX r bd) (ha:DE X WX c a f) (hb:DE X WX c b g) (hs:Hl b):DE X WX c (.Subscript a b pos) (fun ρ=>(f ρ).bind fun x=>(g ρ).bind fun y=>bd x y):=by
 obtain⟨ta,a1,a2⟩:=ha
 obtain⟨tb,b1,b2⟩:=hb
 exact⟨_,Uk ho a1 b1 hs,fun P0 P σ H Q ρ E h=>R9 a2 b2 hr E h⟩
noncomputable def Bw (k:Int->Int->M D) (x y:D):M D:=match x,y with | .int i,.int j=>k i j | _,_=>.bad
theorem BK.int_inv {K:za}{H:Hp}{v:V}{i:Int}(h:BK K H v (.int i)):v=.int i:=by cases h;rfl
theorem BK.MC {K:za}{H:Hp}{v:V}{i:Bool}(h:BK K H v (.bl i)):v=.bl i:=by cases h;rfl
theorem PF {C:Int->Int->Prop}{gv:Int->Int->V}{gd:Int->Int->D} [∀ i j,Decidable (C i j)] (hg:∀ i j K H,BK K H (gv i j) (gd i j)):Ur X.K WX (rI C gv) (Bw fun i j=>if C i j then .ok (gd i j) else .bad):=by
 intro P H x y v w Q ht hx hy h
 unfold Bw at h
 split at h
 ·rename_i i j
  rw[hx.int_inv,hy.int_inv]
  dsimp only at h
  by_cases hc:C i j
  ·rw[if_pos hc] at h
   exact⟨i,j,rfl,rfl,hc,h _ H (Ad.refl H) (hg i j _ _)⟩
  ·rw[if_neg hc] at h;exact h.elim
 ·exact h.elim
theorem LJ {gv:Int->Int->V}{gd:Int->Int->D}(hg:∀ i j K H,BK K H (gv i j) (gd i j)):Ur X.K WX (Zl gv) (Bw fun i j=>.ok (gd i j)):=by
 intro P H x y v w Q ht hx hy h
 unfold Bw at h
 split at h
 ·rename_i i j
  rw[hx.int_inv,hy.int_inv]
  exact⟨i,j,rfl,rfl,h _ H (Ad.refl H) (hg i j _ _)⟩
 ·exact h.elim
instance (i j:Int):Decidable (X7 i j):=by unfold X7;infer_instance
instance (i j:Int):Decidable (Zx i j):=by unfold Zx;infer_instance
instance (i j:Int):Decidable (X8 i j):=by unfold X8;infer_instance
noncomputable def pO:=Bw fun i j=>.ok (.int (i + j))
noncomputable def pQ:=Bw fun i j=>.ok (.int (i - j))
noncomputable def EB:=Bw fun i j=>if 0 < j then .ok (.int (i % j)) else .bad
noncomputable def J9:=Bw fun i j=>if X7 i j then .ok (.int (i / j)) else .bad
noncomputable def VL:=Bw fun i j=>if Zx i j then .ok (.int (i ^ j.toNat)) else .bad
noncomputable def uQ:=Bw fun i j=>.ok (.bl (decide (i < j)))
noncomputable def wB:=Bw fun i j=>.ok (.bl (decide (i<=j)))
noncomputable def uR:=Bw fun i j=>.ok (.bl (decide (j < i)))
noncomputable def wC:=Bw fun i j=>.ok (.bl (decide (j<=i)))
theorem BW (ha:DE X WX c a f) (hb:DE X WX c b g):DE X WX c (.BinOp a .Add b pos) (fun ρ=>(f ρ).bind fun x=>(g ρ).bind fun y=>pO x y):=OB jN (LJ fun _ _ _ _=>.int _) ha hb
theorem kO (ha:DE X WX c a f) (hb:DE X WX c b g):DE X WX c (.BinOp a .Sub b pos) (fun ρ=>(f ρ).bind fun x=>(g ρ).bind fun y=>pQ x y):=OB jO (LJ fun _ _ _ _=>.int _) ha hb
theorem BL (ha:DE X WX c a f) (hb:DE X WX c b g):DE X WX c (.BinOp a .Mod b pos) (fun ρ=>(f ρ).bind fun x=>(g ρ).bind fun y=>EB x y):=OB jP (PF fun _ _ _ _=>.int _) ha hb
theorem Fx (ha:DE X WX c a f) (hb:DE X WX c b g):DE X WX c (.BinOp a .FloorDiv b pos) (fun ρ=>(f ρ).bind fun x=>(g ρ).bind fun y=>J9 x y):=OB Zy (PF fun _ _ _ _=>.int _) ha hb
theorem Xz (ha:DE X WX c a f) (hb:DE X WX c b g):DE X WX c (.BinOp a .Pow b pos) (fun ρ=>(f ρ).bind fun x=>(g ρ).bind fun y=>VL x y):=OB jQ (PF fun _ _ _ _=>.int _) ha hb
noncomputable def cQ (n:Nat) (x y:D):M D:=if IY x<=n/\AJ x=true/\AJ y=true then .ok (.bl (Aw x y)) else .bad
noncomputable def cR (n:Nat) (x y:D):M D:=if IY x<=n/\AJ x=true/\AJ y=true then .ok (.bl (!Aw x y)) else .bad
theorem XA {n:Nat}(hu:X.A.units + n < cLine):Ur X.K WX (cP X.K X.A false) (cQ n):=by
 intro P H x y v w Q ht hx hy h
 unfold cQ at h
 by_cases hd:IY x<=n/\AJ x=true/\AJ y=true
 ·rw[if_pos hd] at h
  exact⟨x,y,hx.mono E9,hy.mono E9,by omega,hd.2.1,hd.2.2,h _ H (Ad.refl H) (.bl _)⟩
 ·rw[if_neg hd] at h;exact h.elim
theorem kP {n:Nat}(hu:X.A.units + n < cLine):Ur X.K WX (cP X.K X.A true) (cR n):=by
 intro P H x y v w Q ht hx hy h
 unfold cR at h
 by_cases hd:IY x<=n/\AJ x=true/\AJ y=true
 ·rw[if_pos hd] at h
  exact⟨x,y,hx.mono E9,hy.mono E9,by omega,hd.2.1,hd.2.2,h _ H (Ad.refl H) (.bl _)⟩
 ·rw[if_neg hd] at h;exact h.elim
theorem gZ {n:Nat}(hu:X.A.units + n < cLine) (ha:DE X WX c a f) (hb:DE X WX c b g):DE X WX c (.Compare a [.Eq] [b] pos) (fun ρ=>(f ρ).bind fun x=>(g ρ).bind fun y=>cQ n x y):=Xy Xw (XA hu) ha hb (Io _)
noncomputable def Cz:D->Bool
 | .AA=>true
 |_=>false
theorem BK.tJ {K:za}{H:Hp}{v:V}{d:D}(h:BK K H v d):decide (v=.AA)=Cz d:=by
 cases h<;>simp[Cz]
theorem XB {j pos'}(ha:DE X WX c a f):DE X WX c (.Compare a [.Is] [.Constant .none j pos'] pos) (fun ρ=>(f ρ).bind fun x=>.ok (.bl (Cz x))):=by
 obtain⟨ta,a1,a2⟩:=ha
 refine⟨_,jB (WU a1),fun P0 P σ H Q ρ E h=>?_⟩
 dsimp only at h
 refine a2 P0 P σ H _ ρ E ?_
 cases e:f ρ with
 |bad=>rw[e] at h;exact h
 |ex x=>rw[e] at h;exact h
 |ok x=>rw[e] at h;exact fun v H1 s1 hv=>h _ H1 s1 (by rw[hv.tJ];exact .bl _)
noncomputable def cS (x y:D):M D:=match x,y with
 | .tup ds,.int i=>(match QU ds i with|some d=>.ok d|none=>.bad)
 | .lst ds,.int i=>(match QU ds i with|some d=>.ok d|none=>.bad)
 |_,_=>.bad
theorem Ag.QU {K:za}{H:Hp}{xs:List V}{ds:List D}{i:Int}{d:D}(h:Ag K H xs ds) (e:L2.QU ds i=some d):∃ v,L2.QU xs i=some v/\BK K H v d:=by
 unfold L2.QU at e ⊢
 rw[<-h.length] at e
 cases q:Ou xs.length i with
 |none=>rw[q] at e;cases e
 |some j =>
  rw[q] at e
  exact h.get e
theorem Dr.Bo {K:za}{H:Hp}{P:Addr->Prop}{a:Addr}{xs:List V}(h:Dr K (del H P) a xs):Dr K H a xs:=E9.seq h
theorem Fs.Bo {K:za}{H:Hp}{P:Addr->Prop}{a:Addr}{xs:List V}(h:Fs K (del H P) a xs):Fs K H a xs:=E9.tH h
theorem Gz:Ur X.K WX (fun x y H Q=>jZ X.K x y H Q\/kA X.K x y H Q) cS:=by
 intro P H x y v w Q ht hx hy h
 unfold cS at h
 split at h
 ·rename_i ds i
  split at h
  ·rename_i d e
   cases hy
   cases hx with
   |tup hs hl =>
    obtain⟨u,h1,h2⟩:=hl.QU e
    exact .inr ⟨_,_,i,u,rfl,rfl,Fs.of (Al hs).2,h1,h _ H (Ad.refl H) h2⟩
  ·exact h.elim
 ·rename_i ds i
  split at h
  ·rename_i d e
   cases hy
   cases hx with
   |lst hs hl =>
    obtain⟨u,h1,h2⟩:=hl.QU e
    exact .inl ⟨_,_,i,u,rfl,rfl,hs.Bo,h1,h _ H (Ad.refl H) h2⟩
  ·exact h.elim
 ·exact h.elim
theorem A8:DA X WX c [] (fun _=>.ok []):=⟨_,Cj,fun P0 P σ H Q ρ E h=>h [] H (Ad.refl H) .nil,fun ρ ds h=>by cases h;rfl⟩
theorem A2 {e:Expr}{es:List Expr}{f:Ab->M D}{fs:Ab->M (List D)}(he:DE X WX c e f) (hr:DA X WX c es fs) (hs:starEach (e::es) X.env=(false,eval e X.env)::starEach es X.env:=by rfl) :
 DA X WX c (e::es) (fun ρ=>(f ρ).bind fun d=>(fs ρ).bind fun ds=>.ok (d::ds)):=by
 obtain⟨te,e1,e2⟩:=he
 obtain⟨tr,r1,r2,r3⟩:=hr
 refine⟨_,Bh e1 r1 hs,fun P0 P σ H Q ρ E h=>?_,fun ρ ds h=>?_⟩
 rotate_left
 ·dsimp only at h
  cases q:f ρ with
  |bad=>rw[q] at h;cases h
  |ex x=>rw[q] at h;cases h
  |ok x =>
   rw[q] at h
   cases q2:fs ρ with
   |bad=>rw[q2] at h;cases h
   |ex x=>rw[q2] at h;cases h
   |ok xs =>
    rw[q2] at h
    cases h
    rw[zp,zp,r3 ρ xs q2]
 dsimp only at h
 refine e2 P0 P σ H _ ρ E ?_
 cases q:f ρ with
 |bad=>rw[q] at h;exact h
 |ex x=>rw[q] at h;exact h
 |ok x =>
  rw[q] at h
  intro v H1 s1 hv
  refine r2 P0 P σ H1 _ ρ (E.same s1) ?_
  cases q2:fs ρ with
  |bad=>rw[q2] at h;exact h
  |ex y=>rw[q2] at h;exact gA.same (m:=.ex y) h s1
  |ok ds =>
   rw[q2] at h
   exact fun vs H2 s2 aI=>h _ H2 (s1.trans s2) (.cons (hv.mono s2.del) aI)
theorem Ja {H:Hp}{P:Addr->Prop}{p:Addr}{o:HO}(hn:H p=none) (ht:∀ a,P a->Dt H a):del (upd H p o) P p=some o:=by
 rw[Ax fun z=>(ht p z).no hn]
 exact Ar
theorem AL {es:List Expr}{fs:Ab->M (List D)}{x1}(ha:DA X WX c es fs) (hz:es.length<=1000:=by decide):DE X WX c (.Tuple es x1 pos) (fun ρ=>(fs ρ).bind fun ds=>if ds.length<=1000 then .ok (.tup ds) else .bad):=by
 obtain⟨ta,a1,a2,a3⟩:=ha
 refine⟨_,Xd a1,fun P0 P σ H Q ρ E h=>?_⟩
 dsimp only at h
 refine a2 P0 P σ H _ ρ E ?_
 cases q:fs ρ with
 |bad=>rw[q] at h;exact h
 |ex y=>rw[q] at h;exact h
 |ok ds =>
  rw[q] at h
  simp only[M.A7] at h
  by_cases hd:ds.length<=1000
  ·rw[if_pos hd] at h
   intro vs H1 s1 aI
   refine⟨yV (AH (by rw[aI.length];exact hd)),fun p hp=>h _ _ (s1.trans (AN hp _)) (.tup (Ja hp fun a q=>(E.same s1).pL c a q) (aI.mono (AN hp _).del))⟩
  ·rw[if_neg hd] at h;exact h.elim
theorem GA {es:List Expr}{fs:Ab->M (List D)}(ha:DA X WX c es fs):DE X WX c (.List es pos) (fun ρ=>(fs ρ).bind fun ds=>if ds.length<=1000 then .ok (.lst ds) else .bad):=by
 obtain⟨ta,a1,a2,a3⟩:=ha
 refine⟨_,Pq a1,fun P0 P σ H Q ρ E h=>?_⟩
 dsimp only at h
 refine a2 P0 P σ H _ ρ E ?_
 cases q:fs ρ with
 |bad=>rw[q] at h;exact h
 |ex y=>rw[q] at h;exact h
 |ok ds =>
  rw[q] at h
  simp only[M.A7] at h
  by_cases hd:ds.length<=1000
  ·rw[if_pos hd] at h
   intro vs H1 s1 aI
   refine⟨yV (AH (by rw[aI.length];exact hd)),fun p hp=>h _ _ (s1.trans (AN hp _)) (.lst (.of (Ja hp fun a q=>(E.same s1).pL c a q)) (aI.mono (AN hp _).del))⟩
  ·rw[if_neg hd] at h;exact h.elim
end
end L2
namespace L2
open PySem PySem.Spec PyProof.Rows
noncomputable def OC (d:D):M Bool:=match d with | .bl b=>.ok b | _=>.bad
section
variable {X:Cx}{WX:Str->Hp->Prop}{c:Bool}{P0:EA}{P:Addr->Prop}{H:Hp}{σ:St}{ρ:Ab}{a b e:Expr}{f g:Ab->M D}{ft gt:Ab->M Bool}{pos:Pos}
theorem pR {WX:Str->Hp->Prop}{P:Addr->Prop}{K:za}{H:Hp}{Q:Bool->Hp->Prop}{m:M D}(h:gT WX H Q (m.bind OC)):gV K WX P H (fun x H'=>∃ k,x=.bl k/\Q k H') m:=by
 cases m with
 |bad=>exact h
 |ex x=>exact h
 |ok d =>
  intro v H' s hv
  simp only[M.A7] at h
  unfold OC at h
  split at h
  ·rename_i b
   exact⟨b,hv.MC,h H' s⟩
  ·exact h.elim
theorem Fy {op:CmpOp}{r:R2}{bd:D->D->M D}(ho:Gs X (compareOp op) r) (hr:Ur X.K WX r bd) (ha:DE X WX c a f) (hb:DE X WX c b g) (hm:behindInMarks op b=false):DT X WX (.Compare a [op] [b] pos) (fun ρ=>((f ρ).bind fun x=>(g ρ).bind fun y=>bd x y).bind OC):=by
 obtain⟨ta,a1,a2⟩:=ha
 obtain⟨tb,b1,b2⟩:=hb
 exact⟨_,ZA ho a1 b1 hm,fun P0 P σ H Q ρ E h=>R9 a2 b2 hr E (pR h)⟩
theorem pS (ha:DE X WX c a f) (hb:DE X WX c b g):DT X WX (.Compare a [.Lt] [b] pos) (fun ρ=>((f ρ).bind fun x=>(g ρ).bind fun y=>uQ x y).bind OC):=Fy gQ (LJ fun _ _ _ _=>.bl _) ha hb (Io _)
theorem Us (ha:DE X WX c a f) (hb:DE X WX c b g):DT X WX (.Compare a [.Gt] [b] pos) (fun ρ=>((f ρ).bind fun x=>(g ρ).bind fun y=>uR x y).bind OC):=Fy oP (LJ fun _ _ _ _=>.bl _) ha hb (Io _)
theorem L7 {n:Nat}(hu:X.A.units + n < cLine) (ha:DE X WX c a f) (hb:DE X WX c b g):DT X WX (.Compare a [.Eq] [b] pos) (fun ρ=>((f ρ).bind fun x=>(g ρ).bind fun y=>cQ n x y).bind OC):=Fy Xw (XA hu) ha hb (Io _)
theorem G7 {n:Nat}(hu:X.A.units + n < cLine) (ha:DE X WX c a f) (hb:DE X WX c b g):DT X WX (.Compare a [.NotEq] [b] pos) (fun ρ=>((f ρ).bind fun x=>(g ρ).bind fun y=>cR n x y).bind OC):=Fy kN (kP hu) ha hb (Io _)
theorem IB {j pos'}(ha:DE X WX c a f):DT X WX (.Compare a [.Is] [.Constant .none j pos'] pos) (fun ρ=>(f ρ).bind fun x=>.ok (Cz x)):=by
 obtain⟨ta,a1,a2⟩:=ha
 refine⟨_,WV (WU a1),fun P0 P σ H Q ρ E h=>?_⟩
 dsimp only at h
 refine a2 P0 P σ H _ ρ E ?_
 cases e:f ρ with
 |bad=>rw[e] at h;exact h
 |ex x=>rw[e] at h;exact h
 |ok x=>rw[e] at h;exact fun v H1 s1 hv=>⟨_,rfl,by rw[hv.tJ];exact h H1 s1⟩
theorem LK {j pos'}(ha:DE X WX c a f):DT X WX (.Compare a [.IsNot] [.Constant .none j pos'] pos) (fun ρ=>(f ρ).bind fun x=>.ok (!Cz x)):=by
 obtain⟨ta,a1,a2⟩:=ha
 refine⟨_,WV (Zt a1),fun P0 P σ H Q ρ E h=>?_⟩
 dsimp only at h
 refine a2 P0 P σ H _ ρ E ?_
 cases e:f ρ with
 |bad=>rw[e] at h;exact h
 |ex x=>rw[e] at h;exact h
 |ok x=>rw[e] at h;exact fun v H1 s1 hv=>⟨_,rfl,by rw[hv.tJ];exact h H1 s1⟩
theorem Ck (ha:DT X WX a ft):DT X WX (.UnaryOp .Not a pos) (fun ρ=>(ft ρ).bind fun b=>.ok (!b)):=by
 obtain⟨ta,a1,a2⟩:=ha
 refine⟨_,jC a1,fun P0 P σ H Q ρ E h=>?_⟩
 dsimp only at h
 refine a2 P0 P σ H _ ρ E ?_
 cases e:ft ρ with
 |bad=>rw[e] at h;exact h
 |ex x=>rw[e] at h;exact h
 |ok x=>rw[e] at h;exact fun H1 s1=>h H1 s1
theorem Ho (ha:DT X WX a ft):DW X WX (.BoolOp .And [a] pos) ft:=let ⟨ta,a1,a2⟩:=ha;⟨_,pw_and1 a1,a2⟩
theorem CM (ha:DT X WX a ft):DW X WX (.BoolOp .Or [a] pos) ft:=let ⟨ta,a1,a2⟩:=ha;⟨_,pw_or1 a1,a2⟩
theorem IC {rest:List Expr}(ha:DT X WX a ft) (hb:DW X WX (.BoolOp .And (b::rest) pos) gt):DW X WX (.BoolOp .And (a::b::rest) pos) (fun ρ=>(ft ρ).bind fun k=>if k=true then gt ρ else .ok false):=by
 obtain⟨ta,a1,a2⟩:=ha
 obtain⟨tb,b1,b2⟩:=hb
 refine⟨_,pw_and a1 b1,fun P0 P σ H Q ρ E h=>?_⟩
 dsimp only at h
 refine a2 P0 P σ H _ ρ E ?_
 cases e:ft ρ with
 |bad=>rw[e] at h;exact h
 |ex x=>rw[e] at h;exact h
 |ok k =>
  rw[e] at h
  intro H1 s1
  cases k with
  |true =>
   simp only[M.A7,if_true] at h ⊢
   exact b2 P0 P σ H1 _ ρ (E.same s1) (h.same s1)
  |false =>
   simp only[M.A7,zF,if_false] at h ⊢
   exact h H1 s1
theorem Ea {rest:List Expr}(ha:DT X WX a ft) (hb:DW X WX (.BoolOp .Or (b::rest) pos) gt):DW X WX (.BoolOp .Or (a::b::rest) pos) (fun ρ=>(ft ρ).bind fun k=>if k=true then .ok true else gt ρ):=by
 obtain⟨ta,a1,a2⟩:=ha
 obtain⟨tb,b1,b2⟩:=hb
 refine⟨_,pw_or a1 b1,fun P0 P σ H Q ρ E h=>?_⟩
 dsimp only at h
 refine a2 P0 P σ H _ ρ E ?_
 cases e:ft ρ with
 |bad=>rw[e] at h;exact h
 |ex x=>rw[e] at h;exact h
 |ok k =>
  rw[e] at h
  intro H1 s1
  cases k with
  |true =>
   simp only[M.A7,if_true] at h ⊢
   exact h H1 s1
  |false =>
   simp only[M.A7,zF,if_false] at h ⊢
   exact b2 P0 P σ H1 _ ρ (E.same s1) (h.same s1)
theorem Kt {op}(ha:DE X WX c a f):DE X WX c (.BoolOp op [a] pos) f:=let ⟨ta,a1,a2⟩:=ha;⟨_,jD a1,a2⟩
theorem MD {rest:List Expr}(ha:DE X WX c a f) (hb:DE X WX c (.BoolOp .And (b::rest) pos) g):DE X WX c (.BoolOp .And (a::b::rest) pos) (fun ρ=>((f ρ).bind OC).bind fun k=>if k=true then g ρ else .ok (.bl false)):=by
 obtain⟨ta,a1,a2⟩:=ha
 obtain⟨tb,b1,b2⟩:=hb
 refine⟨_,jE a1 b1,fun P0 P σ H Q ρ E h=>?_⟩
 dsimp only at h
 refine a2 P0 P σ H _ ρ E ?_
 cases e:f ρ with
 |bad=>rw[e] at h;exact h
 |ex x=>rw[e] at h;exact h
 |ok d =>
  rw[e] at h
  simp only[M.A7] at h
  unfold OC at h
  split at h
  ·rename_i k
   intro v H1 s1 hv
   refine⟨k,hv.MC,?_⟩
   cases k with
   |true =>
    simp only[M.A7,if_true] at h ⊢
    exact b2 P0 P σ H1 _ ρ (E.same s1) (h.same s1)
   |false =>
    simp only[M.A7,zF,if_false] at h ⊢
    exact h _ H1 s1 (.bl _)
  ·exact h.elim
theorem hV {rest:List Expr}(ha:DE X WX c a f) (hb:DE X WX c (.BoolOp .Or (b::rest) pos) g):DE X WX c (.BoolOp .Or (a::b::rest) pos) (fun ρ=>((f ρ).bind OC).bind fun k=>if k=true then .ok (.bl true) else g ρ):=by
 obtain⟨ta,a1,a2⟩:=ha
 obtain⟨tb,b1,b2⟩:=hb
 refine⟨_,oB a1 b1,fun P0 P σ H Q ρ E h=>?_⟩
 dsimp only at h
 refine a2 P0 P σ H _ ρ E ?_
 cases e:f ρ with
 |bad=>rw[e] at h;exact h
 |ex x=>rw[e] at h;exact h
 |ok d =>
  rw[e] at h
  simp only[M.A7] at h
  unfold OC at h
  split at h
  ·rename_i k
   intro v H1 s1 hv
   refine⟨k,hv.MC,?_⟩
   cases k with
   |true =>
    simp only[M.A7,if_true] at h ⊢
    exact h _ H1 s1 (.bl _)
   |false =>
    simp only[M.A7,zF,if_false] at h ⊢
    exact b2 P0 P σ H1 _ ρ (E.same s1) (h.same s1)
  ·exact h.elim
theorem XC (ha:DE X WX c a f):DE X WX c (.UnaryOp .Not a pos) (fun ρ=>((f ρ).bind OC).bind fun k=>.ok (.bl (!k))):=by
 obtain⟨ta,a1,a2⟩:=ha
 refine⟨_,jF a1,fun P0 P σ H Q ρ E h=>?_⟩
 dsimp only at h
 refine a2 P0 P σ H _ ρ E ?_
 cases e:f ρ with
 |bad=>rw[e] at h;exact h
 |ex x=>rw[e] at h;exact h
 |ok d =>
  rw[e] at h
  simp only[M.A7] at h
  unfold OC at h
  split at h
  ·rename_i k
   exact fun v H1 s1 hv=>⟨k,hv.MC,h _ H1 s1 (.bl _)⟩
  ·exact h.elim
theorem tK (ha:DE X WX c a f):DE X WX c (.UnaryOp .USub a pos) (fun ρ=>(f ρ).bind fun d=>match d with | .int i=>.ok (.int (-i)) | _=>.bad):=by
 obtain⟨ta,a1,a2⟩:=ha
 refine⟨_,oM jR a1,fun P0 P σ H Q ρ E h=>?_⟩
 dsimp only at h
 refine a2 P0 P σ H _ ρ E ?_
 cases e:f ρ with
 |bad=>rw[e] at h;exact h
 |ex x=>rw[e] at h;exact h
 |ok d =>
  rw[e] at h
  simp only[M.A7] at h
  split at h
  ·rename_i i
   exact fun v H1 s1 hv=>⟨i,hv.int_inv,h _ H1 s1 (.int _)⟩
  ·exact h.elim
theorem VM {d:Expr}{h:Ab->M D}{op eo:CmpOp}{p q:Int->Int->Bool}(ho:Gs X (compareOp op) (Zl fun i j=>.bl (p i j))) (b9:Gs X (compareOp eo) (Zl fun i j=>.bl (q i j))) (ha:DE X WX c a f) (hb:DE X WX c b g) (hd:DE X WX c d h)
 (hm:lastMarks [op,eo] [b,d]=false:=by with_unfolding_all rfl):DE X WX c (.Compare a [op,eo] [b,d] pos) (fun ρ=>(f ρ).bind fun x=>(g ρ).bind fun y=>Bw (fun i j=>if p i j=true then (h ρ).bind fun z=>Bw (fun _ k=>.ok (.bl (q j k))) (.int 0) z else .ok (.bl false)) x y):=by
 obtain⟨ta,a1,a2⟩:=ha
 obtain⟨tb,b1,b2⟩:=hb
 obtain⟨td,d1,d2⟩:=hd
 refine⟨_,X9 ho b9 a1 b1 d1 hm,fun P0 P σ H Q ρ E hh=>?_⟩
 dsimp only at hh
 refine a2 P0 P σ H _ ρ E ?_
 cases e:f ρ with
 |bad=>rw[e] at hh;exact hh
 |ex x=>rw[e] at hh;exact hh
 |ok x =>
  rw[e] at hh
  intro v H1 s1 hv
  refine b2 P0 P σ H1 _ ρ (E.same s1) ?_
  cases e2:g ρ with
  |bad=>rw[e2] at hh;exact hh
  |ex y=>rw[e2] at hh;exact gV.same (m:=.ex y) hh s1
  |ok y =>
   rw[e2] at hh
   simp only[M.A7] at hh
   unfold Bw at hh
   split at hh
   ·rename_i i j
    intro w H2 s2 hw
    refine⟨i,j,hv.int_inv,hw.int_inv,p i j,rfl,?_⟩
    dsimp only at hh
    by_cases hp:p i j=true
    ·rw[if_pos hp] at hh ⊢
     refine d2 P0 P σ H2 _ ρ ((E.same s1).same s2) ?_
     cases e3:h ρ with
     |bad=>rw[e3] at hh;exact hh
     |ex z=>rw[e3] at hh;exact gV.same (gV.same (m:=.ex z) hh s1) s2
     |ok z =>
      rw[e3] at hh
      simp only[M.A7] at hh
      cases z with
      |int k=>exact fun u H3 s3 hu=>⟨j,k,hw.int_inv,hu.int_inv,hh _ H3 ((s1.trans s2).trans s3) (.bl _)⟩
      |_=>exact hh.elim
    ·rw[if_neg hp] at hh ⊢
     exact hh _ H2 (s1.trans s2) (.bl _)
   ·exact hh.elim
noncomputable def L8 (K:za) (WX:Str->Hp->Prop) (r:List V->Hp->VK->Prop) (dF:List D->M D):Prop :=
 ∀(P:Addr->Prop) (H:Hp) (ds:List D) (vs:List V) (Q:VK),(∀ a,P a->Dt H a)->Ag K (del H P) vs ds->gV K WX P H Q (dF ds)->r vs H Q
variable {x:Str}{p:Pos}{es:List Expr}{fs:Ab->M (List D)}{id T:String}{r:List V->Hp->VK->Prop}{dF:List D->M D}
theorem XD {ta:TA}(ha:∀ P0 P σ H Q ρ,An X.K P0 P H σ ρ->gA X.K WX (Lv c P0 P) H Q (fs ρ)->ta σ H Q) (hr:L8 X.K WX r dF){Q:VK}(E:An X.K P0 P H σ ρ) (h:gV X.K WX (Lv c P0 P) H Q ((fs ρ).bind dF)):sT r ta σ H Q:=by
 refine ha P0 P σ H _ ρ E ?_
 cases e:fs ρ with
 |bad=>rw[e] at h;exact h
 |ex x=>rw[e] at h;exact h
 |ok ds =>
  rw[e] at h
  exact fun vs H1 s1 aI=>hr _ H1 ds vs Q (fun a q=>(E.same s1).pL c a q) aI (h.same s1)
theorem ME (hc:Gu X (.builtin id) r) (hr:L8 X.K WX r dF) (hg:Gl X x) (hm:X.mg x=none) (hv:bootBuiltins x=some (.builtin id)) (ha:DA X WX c (e::es) fs) (hn:x ≠ "__name__" := by decide) (aU:(x == ("__debug__" : Str))=false:=by decide)
 (he:starEach (e::es) X.env=(false,eval e X.env)::starEach es X.env:=by rfl) (a6:(backTo pos (starEach es X.env)).any (·.1)=false:=by rfl):DE X WX c (.Call (.Name x p) (e::es) [] pos) (fun ρ=>(fs ρ).bind dF):=by
 obtain⟨ta,a1,a2,a3⟩:=ha
 exact⟨_,QS hc hg hm hv a1 hn aU he a6,fun P0 P σ H Q ρ E h=>XD a2 hr E h⟩
theorem OD (hc:Gu X (.type T) r) (hr:L8 X.K WX r dF) (hg:Gl X x) (hm:X.mg x=none) (hv:bootBuiltins x=some (.type T)) (ha:DA X WX c (e::es) fs) (hn:x ≠ "__name__" := by decide) (aU:(x == ("__debug__" : Str))=false:=by decide)
 (he:starEach (e::es) X.env=(false,eval e X.env)::starEach es X.env:=by rfl) (a6:(backTo pos (starEach es X.env)).any (·.1)=false:=by rfl):DE X WX c (.Call (.Name x p) (e::es) [] pos) (fun ρ=>(fs ρ).bind dF):=by
 obtain⟨ta,a1,a2,a3⟩:=ha
 exact⟨_,Ot hc hg hm hv a1 hn aU he a6,fun P0 P σ H Q ρ E h=>XD a2 hr E h⟩
noncomputable def VN (ds:List D):M D:=match ds with
 |[.lst xs]=>.ok (.int xs.length)
 |[.tup xs]=>.ok (.int xs.length)
 |_=>.bad
theorem Ag.one {K:za}{H:Hp}{vs:List V}{d:D}(h:Ag K H vs [d]):∃ v,vs=[v]/\BK K H v d:=by
 cases h with
 |cons h t=>cases t;exact⟨_,rfl,h⟩
theorem Ag.two {K:za}{H:Hp}{vs:List V}{d e:D}(h:Ag K H vs [d,e]):∃ v w,vs=[v,w]/\BK K H v d/\BK K H w e:=by
 cases h with
 |cons h t =>
  obtain⟨w,rfl,hw⟩:=t.one
  exact⟨_,w,rfl,h,hw⟩
theorem kQ:L8 X.K WX (fun xs H Q=>∃ p ys,xs=[.ref p]/\(Dr X.K H p ys\/Fs X.K H p ys)/\Q (.int ys.length) H) VN:=by
 intro P H ds vs Q ht hl h
 unfold VN at h
 split at h
 ·obtain⟨v,rfl,hv⟩:=hl.one
  cases hv with
  |lst hs hh=>exact⟨_,_,rfl,.inl hs.Bo,by rw[hh.length];exact h _ H (Ad.refl H) (.int _)⟩
 ·obtain⟨v,rfl,hv⟩:=hl.one
  cases hv with
  |tup hs hh=>exact⟨_,_,rfl,.inr (Fs.of (Al hs).2),by rw[hh.length];exact h _ H (Ad.refl H) (.int _)⟩
 ·exact h.elim
theorem Du (hg:Gl X "len") (hm:X.mg "len" = none) (ha:DE X WX c e f) (hs:starEach [e] X.env=[(false,eval e X.env)]:=by rfl):DE X WX c (.Call (.Name "len" p) [e] [] pos) (fun ρ=>((f ρ).bind fun d=>(M.ok []).bind fun ds=>.ok (d::ds)).bind VN) :=
 ME Pw kQ hg hm PySem.boot_len (A2 ha A8 hs) (he:=hs)
noncomputable def Tb (ds:List D):M D:=match ds with
 |[.lst xs]=>.ok (.tup xs)
 |[.tup xs]=>.ok (.tup xs)
 |_=>.bad
theorem XE:L8 X.K WX (fun xs H Q=>∃ p ys,xs=[.ref p]/\((Dr X.K H p ys/\∀ l,H l=none->Q (.ref l) (upd H l (.tup ys)))\/(Fs X.K H p ys/\Q (.ref p) H))) Tb:=by
 intro P H ds vs Q ht hl h
 unfold Tb at h
 split at h
 ·obtain⟨v,rfl,hv⟩:=hl.one
  cases hv with
  |lst hs hh=>exact⟨_,_,rfl,.inl ⟨hs.Bo,fun l hn=>h _ _ (AN hn _) (.tup (Ja hn ht) (hh.mono (AN hn _).del))⟩⟩
 ·obtain⟨v,rfl,hv⟩:=hl.one
  cases hv with
  |tup hs hh=>exact⟨_,_,rfl,.inr ⟨Fs.of (Al hs).2,h _ H (Ad.refl H) (.tup hs hh)⟩⟩
 ·exact h.elim
theorem XF (hg:Gl X "tuple") (hm:X.mg "tuple" = none) (ha:DE X WX c e f) (hb:bootBuiltins "tuple" = some (.type "tuple"):=by decide +kernel) (hs:starEach [e] X.env=[(false,eval e X.env)]:=by rfl):DE X WX c (.Call (.Name "tuple" p) [e] [] pos) (fun ρ=>((f ρ).bind fun d=>(M.ok []).bind fun ds=>.ok (d::ds)).bind Tb) :=
 OD NX XE hg hm hb (A2 ha A8 hs) (he:=hs)
noncomputable def hX:D->String
 | .AA => "NoneType"
 | .bl _ => "bool"
 | .int _ => "int"
 | .str _ => "str"
 | .tup _ => "tuple"
 | .lst _ => "list"
 | .DM _ => "NoneType"
 | .Bi _ _ _ => "dict"
 | .ins _ _ _ => "NoneType"
noncomputable def EC (T:String) (d:D):Bool:=(hX d == T) || (hX d == "bool" && T == "int")
noncomputable def Jb (T:String) (d:D):M D:=match d with
 | .DM _=>.bad
 | .ins _ _ _=>.bad
 |d=>.ok (.bl (EC T d))
noncomputable def Ut:D->Bool
 | .DM _=>true
 | .ins _ _ _=>true
 |_=>false
theorem Ra {T:String}{d:D}(h:Ut d=false):Jb T d=.ok (.bl (EC T d)):=by cases d<;>first | rfl | cases h
noncomputable def tL (K:za) (T:String):List V->Hp->VK->Prop:=fun xs H Q=>∃ x d,xs=[x,.ty T]/\BK K H x d/\Ut d=false/\Q (.bl (EC T d)) H
theorem XG {T:String}(hk:∀ d:D,PySem.W.kitOne X.K (.type (hX d)) (.type T)=some (EC T d)):Gu X (.builtin "isinstance") (tL X.K T):=by
 intro pins s σ H xs us Q I r h
 obtain⟨x,d,rfl,hd,hx,q⟩:=h
 obtain⟨u,w,rfl,rx,bz⟩:=r.two
 cases bz
 have fin:∀ tk,EP X pins σ Q (.bool (EC T d)) { s with toks:=tk }:=fun tk=>⟨.bl _,H,I.tok tk,rfl,q⟩
 have e:=hk d
 cases hd with
 |DM _ _=>cases hx
 |ins _ _ _=>cases hx
 |Iy hs hl =>
  cases rx
  obtain⟨⟨o,h1,h2⟩,_,_⟩:=SX I (.inl ⟨_,.inl hs⟩)
  exact zal PySem.W.kitx_dict I.NQ ⟨o,h1,h2⟩ e (fun z=>nomatch z) fin
 |Iz hs hl =>
  cases rx
  obtain⟨⟨o,h1,h2⟩,_,_⟩:=SX I (.inr ⟨_,.inl hs⟩)
  exact zal PySem.W.kitx_dict I.NQ ⟨o,h1,h2⟩ e (fun z=>nomatch z) fin
 |AA=>cases rx;exact zal PySem.W.kitx_none I.NQ zax e (fun z=>nomatch z) fin
 |bl b=>cases rx;exact zal PySem.W.kitx_bool I.NQ zax e (fun z=>nomatch z) fin
 |int b=>obtain⟨t,rfl⟩:=rx;exact zal PySem.W.kitx_int I.NQ zax e (fun z=>nomatch z) fin
 |str b=>obtain⟨t,rfl⟩:=rx;exact zal PySem.W.kitx_str I.NQ zax e (fun z=>nomatch z) fin
 |tup hs hl =>
  cases rx
  obtain⟨_,_,⟨o,h1,h2,_⟩,_⟩:=I.tuple (.of hs)
  exact zal PySem.W.kitx_tuple I.NQ ⟨o,h1,h2⟩ e (fun z=>nomatch z) fin
 |lst hs hl =>
  cases rx
  obtain⟨_,_,⟨o,n,h1,h2,_⟩,_⟩:=I.list hs
  exact zal PySem.W.kitx_list I.NQ ⟨o,h1,h2⟩ e (fun z=>nomatch z) fin
theorem EY {T:String}{x2:Str}{p2:Pos}(hk:∀ d:D,PySem.W.kitOne X.K (.type (hX d)) (.type T)=some (EC T d)) (hg:Gl X "isinstance") (hm:X.mg "isinstance" = none) (ji:Gl X x2) (bZ:X.mg x2=none) (wp:bootBuiltins x2=some (.type T)) (ha:DE X WX c e f)
 (hb:bootBuiltins "isinstance" = some (.builtin "isinstance"):=by decide +kernel) (aJ:x2 ≠ "__name__" := by decide) (ny:(x2 == ("__debug__" : Str))=false:=by decide) (hs:starEach [e,.Name x2 p2] X.env=(false,eval e X.env)::starEach [.Name x2 p2] X.env:=by rfl) (bh:starEach [.Name x2 p2] X.env=[(false,eval (.Name x2 p2) X.env)]:=by rfl)
 (a6:(backTo pos (starEach [.Name x2 p2] X.env)).any (·.1)=false:=by rfl) :
 DE X WX c (.Call (.Name "isinstance" p) [e,.Name x2 p2] [] pos) (fun ρ=>(f ρ).bind fun d=>Jb T d):=by
 obtain⟨ta,a1,a2⟩:=ha
 refine⟨_,QS (XG hk) hg hm hb (Bh a1 (Bh (Zs (v:=.ty T) ji bZ wp rfl aJ ny) Cj bh) hs) (by decide) (by decide) hs a6,fun P0 P σ H Q ρ E h=>?_⟩
 dsimp only at h
 refine a2 P0 P σ H _ ρ E ?_
 cases q:f ρ with
 |bad=>rw[q] at h;exact h
 |ex x=>rw[q] at h;exact h
 |ok d =>
  rw[q] at h
  simp only[M.A7] at h
  cases hx:Ut d with
  |true=>cases d<;>first|exact h.elim|cases hx
  |false =>
   rw[Ra hx] at h
   exact fun v H1 s1 hv=>⟨v,d,rfl,hv.mono E9,hx,h _ H1 s1 (.bl _)⟩
theorem ID (K:za) (d:D):PySem.W.kitOne K (.type (hX d)) (.type "tuple")=some (EC "tuple" d):=by cases d<;>rfl
theorem Ku (K:za) (d:D):PySem.W.kitOne K (.type (hX d)) (.type "list")=some (EC "list" d):=by cases d<;>rfl
theorem OE (K:za) (d:D):PySem.W.kitOne K (.type (hX d)) (.type "bool")=some (EC "bool" d):=by cases d<;>rfl
theorem Rb (K:za) (d:D):PySem.W.kitOne K (.type (hX d)) (.type "int")=some (EC "int" d):=by cases d<;>rfl
noncomputable def nI (lo hi:Option Int) (d:D):M D:=match d with
 | .lst ds=>.ok (.lst ((ds.drop (HT.Mq ds.length 0 lo)).take (HT.Mq ds.length ds.length hi - HT.Mq ds.length 0 lo)))
 |_=>.bad
noncomputable def DO (X:Cx) (WX:Str->Hp->Prop) (c:Bool) (e:Option Expr) (f:Ab->M (Option Int)):Prop :=
 ∃ t,PO X e t/\∀ P0 P σ H Q ρ,An X.K P0 P H σ ρ->(match f ρ with | .ok o=>∀ H',Ad H H'->Q o H' | .ex x=>∀ H',Ad H H'->WX x H' | .bad=>False)->t σ H Q
theorem Uu:DO X WX c none (fun _=>.ok none):=⟨_,ZG,fun P0 P σ H Q ρ E h=>h H (Ad.refl H)⟩
noncomputable def uS (d:D):M (Option Int):=match d with | .int i=>.ok (some i) | _=>.bad
theorem LL (ha:DE X WX c e f):DO X WX c (some e) (fun ρ=>(f ρ).bind uS):=by
 obtain⟨ta,a1,a2⟩:=ha
 refine⟨_,ZH a1,fun P0 P σ H Q ρ E h=>?_⟩
 dsimp only at h
 refine a2 P0 P σ H _ ρ E ?_
 cases q:f ρ with
 |bad=>rw[q] at h;exact h
 |ex x=>rw[q] at h;exact h
 |ok d =>
  rw[q] at h
  cases d with
  |int i=>exact fun v H1 s1 hv=>⟨i,hv.int_inv,h H1 s1⟩
  |_=>exact h.elim
end
end L2
namespace L2
open PySem PySem.Spec PyProof.Rows
inductive Out where
 |ret (d:D)|next (ρ:Ab)|brk (ρ:Ab)|cont (ρ:Ab)|CK (c:Cl)|Fd (t:OT) (ρ:Ab)
noncomputable def Tr (P0 P:Addr->Prop) (H:Hp) (P':Addr->Prop) (H':Hp):Prop:=Ad (del H P) (del H' P')/\∀ a,P0 a->H' a=H a
theorem Tr.refl {P0 P:Addr->Prop}{H:Hp}:Tr P0 P H P H:=⟨Ad.refl _,fun _ _=>rfl⟩
theorem Tr.trans {P0 P P1 P2:Addr->Prop}{H H1 H2:Hp}(a:Tr P0 P H P1 H1) (b:Tr P0 P1 H1 P2 H2):Tr P0 P H P2 H2:=⟨a.1.trans b.1,fun x h=>(b.2 x h).trans (a.2 x h)⟩
theorem An.tr {K:za}{P0:EA}{P:Addr->Prop}{H H':Hp}{σ:St}{ρ:Ab}(E:An K P0 P H σ ρ) (e:Ad H H'):Tr P0 P H P H' :=
 ⟨e.del,fun a h=>by obtain⟨o,q,_⟩:=E.Cq a (E.sub a h);rw[e a o q,q]⟩
noncomputable def gS (K:za) (WX:Str->Hp->Prop) (P0:EA) (P:Addr->Prop) (H:Hp) (Z:Ends):M Out->Prop
 | .ok (.ret d)=>∀ v H' P',Tr P0 P H P' H'->BK K (del H' P0) v d->Z.rt v H'
 | .ok (.next ρ)=>∀ σ' H' P',Tr P0 P H P' H'->An K P0 P' H' σ' ρ->Z.nx σ' H'
 | .ok (.brk ρ)=>∀ σ' H' P',Tr P0 P H P' H'->An K P0 P' H' σ' ρ->Z.bk σ' H'
 | .ok (.cont ρ)=>∀ σ' H' P',Tr P0 P H P' H'->An K P0 P' H' σ' ρ->Z.ct σ' H'
 | .ok (.CK c)=>∀ v fp H' P',Tr P0 P H P' H'->(∀ a,P0 a->P' a)->(∀ a,P' a->Dt H' a)->Dq K H' P' c v fp->(∀ a∈fp,P' a/\¬ P0 a)->fp.Nodup->Z.rt v H'
 | .ok (.Fd t ρ)=>∀ v fp σ' H' P',Tr P0 P H P' H'->An K P0 P' H' σ' ρ->C3 K H' P' v t fp->fp.Nodup->(∀ a∈fp,P' a/\¬ P0 a/\∀(j:Nat) c v' fq,ρ[j]? =some (some c)->σ'[j]? =some (some v')->Dq K H' P' c v' fq->a∉fq)->Z.rt v H'
 | .ex x=>∀ H' P',Tr P0 P H P' H'->WX x H'
 | .bad=>False
theorem gS.tr {K:za}{WX:Str->Hp->Prop}{P0:EA}{P P':Addr->Prop}{H H':Hp}{Z:Ends}{m:M Out}(h:gS K WX P0 P H Z m) (t:Tr P0 P H P' H'):gS K WX P0 P' H' Z m:=by
 cases m with
 |bad=>exact h
 |ex x=>exact fun H2 P2 t2=>h H2 P2 (t.trans t2)
 |ok o =>
  cases o with
  |ret d=>exact fun v H2 P2 t2 hv=>h v H2 P2 (t.trans t2) hv
  |next ρ=>exact fun σ2 H2 P2 t2 hv=>h σ2 H2 P2 (t.trans t2) hv
  |brk ρ=>exact fun σ2 H2 P2 t2 hv=>h σ2 H2 P2 (t.trans t2) hv
  |cont ρ=>exact fun σ2 H2 P2 t2 hv=>h σ2 H2 P2 (t.trans t2) hv
  |CK c=>exact fun v fp H2 P2 t2=>h v fp H2 P2 (t.trans t2)
  |Fd c ρ=>exact fun v fp σ2 H2 P2 t2=>h v fp σ2 H2 P2 (t.trans t2)
noncomputable def DS (X:Cx) (WX:Str->Hp->Prop) (st:Stmt) (g:Ab->M Out):Prop :=
 ∃ t,PS X st t/\∀ P0 P σ H Z ρ,An X.K P0 P H σ ρ->gS X.K WX P0 P H Z (g ρ)->t Z σ H
noncomputable def Sw (X:Cx) (WX:Str->Hp->Prop) (st:List Stmt) (g:Ab->M Out):Prop :=
 ∃ t,Ub X st t/\∀ P0 P σ H Z ρ,An X.K P0 P H σ ρ->gS X.K WX P0 P H Z (g ρ)->t Z σ H
noncomputable def cT (m:M Out) (k:Ab->M Out):M Out:=match m with
 | .ok (.next ρ)=>k ρ
 |m=>m
section
variable {X:Cx}{WX:Str->Hp->Prop}{c:Bool}{P0:EA}{P:Addr->Prop}{H:Hp}{σ:St}{ρ:Ab}{a b e:Expr}{f g:Ab->M D}{ft gt:Ab->M Bool}{pos:Pos}{st:Stmt}{rest:List Stmt}{g1 g2:Ab->M Out}
theorem AB:Sw X WX [] (fun ρ=>.ok (.next ρ)):=⟨_,Zu,fun P0 P σ H Z ρ E h=>h σ H P Tr.refl E⟩
theorem A5 (h:DS X WX st g1):Sw X WX [st] g1:=let ⟨t,h1,h2⟩:=h;⟨_,Zv h1,h2⟩
theorem A4 (h:DS X WX st g1) (hr:Sw X WX rest g2):Sw X WX (st::rest) (fun ρ=>cT (g1 ρ) g2):=by
 obtain⟨t,h1,h2⟩:=h
 obtain⟨u,r1,r2⟩:=hr
 refine⟨_,WW h1 r1,fun P0 P σ H Z ρ E h=>?_⟩
 dsimp only at h
 refine h2 P0 P σ H { Z with nx:=u Z } ρ E ?_
 cases q:g1 ρ with
 |bad=>rw[q] at h;exact h
 |ex x=>rw[q] at h;exact h
 |ok o =>
  rw[q] at h
  cases o with
  |ret d=>exact h
  |brk d=>exact h
  |cont d=>exact h
  |CK d=>exact h
  |Fd d ρ2=>exact h
  |next ρ'=>exact fun σ' H' P' t E'=>r2 P0 P' σ' H' Z ρ' E' (gS.tr h t)
theorem MF (ha:DE X WX false e f):DS X WX (.Return (some e) pos) (fun ρ=>(f ρ).bind fun d=>.ok (.ret d)):=by
 obtain⟨ta,a1,a2⟩:=ha
 refine⟨_,SE a1,fun P0 P σ H Z ρ E h=>?_⟩
 dsimp only at h
 refine a2 P0 P σ H _ ρ E ?_
 cases q:f ρ with
 |bad=>rw[q] at h;exact h
 |ex x=>rw[q] at h;exact fun H' s=>h H' P (E.tr s)
 |ok d=>rw[q] at h;exact fun v H' s hv=>h v H' P (E.tr s) hv
theorem B7 {c:Expr}{sa sb:List Stmt}(hc:DT X WX c ft) (ha:Sw X WX sa g1) (hb:Sw X WX sb g2):DS X WX (.If c sa sb pos) (fun ρ=>(ft ρ).bind fun k=>if k=true then g1 ρ else g2 ρ):=by
 obtain⟨tc,c1,c2⟩:=hc
 obtain⟨ta,a1,a2⟩:=ha
 obtain⟨tb,b1,b2⟩:=hb
 refine⟨_,oG c1 a1 b1,fun P0 P σ H Z ρ E h=>?_⟩
 dsimp only at h
 refine c2 P0 P σ H _ ρ E ?_
 cases q:ft ρ with
 |bad=>rw[q] at h;exact h
 |ex x=>rw[q] at h;exact fun H' s=>h H' P (E.tr s)
 |ok k =>
  rw[q] at h
  intro H1 s1
  cases k with
  |true =>
   simp only[M.A7,if_true] at h ⊢
   exact a2 P0 P σ H1 Z ρ (E.same s1) (h.tr (E.tr s1))
  |false =>
   simp only[M.A7,zF,if_false] at h ⊢
   exact b2 P0 P σ H1 Z ρ (E.same s1) (h.tr (E.tr s1))
theorem get_set {α:Type}{l:List α}{i j:Nat}{x y:α}(h:(l.set i x)[j]? =some y):(i=j/\i < l.length/\x=y)\/(i≠j/\l[j]? =some y):=by
 by_cases e:i=j
 ·subst e
  rw[List.getElem?_set_self'] at h
  cases q:l[i]? with
  |none=>rw[q] at h;cases h
  |some z =>
   rw[q] at h
   exact .inl ⟨rfl,(zA.mp q).1,by simpa using h⟩
 ·rw[yS e] at h
  exact .inr ⟨e,h⟩
theorem An.VO {K:za}(E:An K P0 P H σ ρ){i:Nat}{v:V}{d:D}(hv:BK K (del H P) v d):An K P0 P H (σ.set i (some v)) (ρ.set i (some (.val d))):=by
 have gs:∀ {j:Nat},i≠j->(σ.set i (some v))[j]? =σ[j]? :=fun h=>yS h
 refine⟨E.sub,E.Cq,fun j e h=>?_,fun j c h io=>?_,fun j k c c' u u' fp ai h1 h2 h3 h4 h5 h6 af=>?_,by rw[yQ,yQ];exact E.len,fun j c n h hp=>?_⟩
 rotate_left 3
 ·rcases get_set h with ⟨rfl,hl,e1⟩|⟨af,h⟩
  ·cases e1;cases hp
  ·rw[gs af];exact E.pin j c n h hp
 ·rcases get_set h with ⟨rfl,hl,e1⟩|⟨af,h⟩
  ·cases e1
   exact⟨v,zQ (by rw[E.len];exact hl),hv⟩
  ·obtain⟨w,h1,h2⟩:=E.val j e h
   exact⟨w,by rw[gs af];exact h1,h2⟩
 ·rcases get_set h with ⟨rfl,hl,e1⟩|⟨af,h⟩
  ·cases e1;cases io
  ·obtain⟨w,fp,h1,h2⟩:=E.ows j c h io
   exact⟨w,fp,by rw[gs af];exact h1,h2⟩
 ·rcases get_set h1 with ⟨rfl,hl,e1⟩|⟨ca,h1⟩
  ·cases e1;exact h5.elim
  ·rcases get_set h2 with ⟨rfl,hl,e1⟩|⟨aJ,h2⟩
   ·cases e1;exact h6.elim
   ·rw[gs ca] at h3
    rw[gs aJ] at h4
    exact E.apart j k c c' u u' fp ai h1 h2 h3 h4 h5 h6 af
theorem An.VP {K:za}(E:An K P0 P H σ ρ){P':Addr->Prop}{H':Hp}{i:Nat}{v:V}{c:Cl}{fp:List Addr}(hs:∀ a,P a->P' a) (ht:∀ a,P' a->Dt H' a) (sm:Ad (del H P) (del H' P'))
 (keep:∀(j:Nat) c' v' ai,i≠j->ρ[j]? =some (some c')->σ[j]? =some (some v')->Dq K H P c' v' ai->∀ a∈ai,H' a=H a/\a∉fp)
 (new:Dq K H' P' c v fp) (hp:∀ a∈fp,P' a/\¬ P0 a) (nd:fp.Nodup) (fv:∀ n,OA c=some n->v=.ref (P0.g n):=by intro n z;cases z):An K P0 P' H' (σ.set i (some v)) (ρ.set i (some c)):=by
 have gs:∀ {j:Nat},i≠j->(σ.set i (some v))[j]? =σ[j]? :=fun h=>yS h
 refine⟨fun a h=>hs a (E.sub a h),ht,fun j e h=>?_,fun j c' h io=>?_,fun j k c1 c2 u u' aA cf h1 h2 h3 h4 h5 h6 af=>?_,by rw[yQ,yQ];exact E.len,fun j c' n h hp=>?_⟩
 rotate_left 3
 ·rcases get_set h with ⟨rfl,hl,e1⟩|⟨af,h⟩
  ·cases e1;rw[zQ (by rw[E.len];exact hl),fv n hp]
  ·rw[gs af];exact E.pin j c' n h hp
 ·rcases get_set h with ⟨rfl,hl,e1⟩|⟨af,h⟩
  ·cases e1;exact new.elim
  ·obtain⟨w,h1,h2⟩:=E.val j e h
   exact⟨w,by rw[gs af];exact h1,h2.mono sm⟩
 ·rcases get_set h with ⟨rfl,hl,e1⟩|⟨af,h⟩
  ·cases e1
   exact⟨v,fp,zQ (by rw[E.len];exact hl),new,hp,nd⟩
  ·obtain⟨w,fq,h1,h2,h3,h4⟩:=E.ows j c' h io
   exact⟨w,fq,by rw[gs af];exact h1,h2.move sm fun a ha=>(keep j c' w fq af h h1 h2 a ha).1,fun a ha=>⟨hs a (h3 a ha).1,(h3 a ha).2⟩,h4⟩
 ·have back:∀(l:Nat) (d:Cl) (w:V) (fq:List Addr),i≠l->ρ[l]? =some (some d)->σ[l]? =some (some w)->Dq K H' P' d w fq->∃ fr,Dq K H P d w fr/\fr=fq:=fun l d w fq hn hk sk ho=>by
   have io:IA d=true:=by cases d<;>first|rfl|exact ho.elim
   obtain⟨w',cf,s2,o2,_⟩:=E.ows l d hk io
   rw[sk] at s2;cases s2
   exact⟨cf,o2,(o2.move sm fun a ha=>(keep l d w cf hn hk sk o2 a ha).1).Cr ho⟩
  rcases get_set h1 with ⟨rfl,hl,e1⟩|⟨ca,h1⟩
  ·cases e1
   rw[zQ (by rw[E.len];exact hl)] at h3
   cases h3
   rcases get_set h2 with ⟨e,_⟩|⟨aJ,h2⟩
   ·exact (af e).elim
   ·rw[gs aJ] at h4
    obtain⟨fr,o,rfl⟩:=back k c2 u' cf aJ h2 h4 h6
    intro a ha hb
    rw[new.Cr h5] at keep
    exact (keep k c2 u' fr aJ h2 h4 o a hb).2 ha
  ·rw[gs ca] at h3
   obtain⟨fr,o,rfl⟩:=back j c1 u aA ca h1 h3 h5
   rcases get_set h2 with ⟨rfl,hl,e1⟩|⟨aJ,h2⟩
   ·cases e1
    rw[zQ (by rw[E.len];exact hl)] at h4
    cases h4
    intro a ha
    rw[new.Cr h6] at keep
    exact (keep j c1 u fr ca h1 h3 o a ha).2
   ·rw[gs aJ] at h4
    obtain⟨nz,o2,rfl⟩:=back k c2 u' cf aJ h2 h4 h6
    exact E.apart j k c1 c2 u u' fr nz h1 h2 h3 h4 o o2 af
theorem An.pT {K:za}(E:An K P0 P H σ ρ){P':Addr->Prop}{H':Hp}{i:Nat}{v:V}{c:Cl}{fp:List Addr}(hs:∀ a,P0 a->P' a) (ht:∀ a,P' a->Dt H' a) (sm:Ad (del H P) (del H' P'))
 (keep:∀(j:Nat) c' v' ai,i≠j->ρ[j]? =some (some c')->σ[j]? =some (some v')->Dq K H P c' v' ai->∀ a∈ai,H' a=H a/\a∉fp/\P' a)
 (new:Dq K H' P' c v fp) (hp:∀ a∈fp,P' a/\¬ P0 a) (nd:fp.Nodup) (fv:∀ n,OA c=some n->v=.ref (P0.g n):=by intro n z;cases z):An K P0 P' H' (σ.set i (some v)) (ρ.set i (some c)):=by
 have gs:∀ {j:Nat},i≠j->(σ.set i (some v))[j]? =σ[j]? :=fun h=>yS h
 refine⟨hs,ht,fun j e h=>?_,fun j c' h io=>?_,fun j k c1 c2 u u' aA cf h1 h2 h3 h4 h5 h6 af=>?_,by rw[yQ,yQ];exact E.len,fun j c' n h hp=>?_⟩
 rotate_left 3
 ·rcases get_set h with ⟨rfl,hl,e1⟩|⟨af,h⟩
  ·cases e1;rw[zQ (by rw[E.len];exact hl),fv n hp]
  ·rw[gs af];exact E.pin j c' n h hp
 ·rcases get_set h with ⟨rfl,hl,e1⟩|⟨af,h⟩
  ·cases e1;exact new.elim
  ·obtain⟨w,h1,h2⟩:=E.val j e h
   exact⟨w,by rw[gs af];exact h1,h2.mono sm⟩
 ·rcases get_set h with ⟨rfl,hl,e1⟩|⟨af,h⟩
  ·cases e1
   exact⟨v,fp,zQ (by rw[E.len];exact hl),new,hp,nd⟩
  ·obtain⟨w,fq,h1,h2,h3,h4⟩:=E.ows j c' h io
   exact⟨w,fq,by rw[gs af];exact h1,h2.move sm fun a ha=>(keep j c' w fq af h h1 h2 a ha).1,fun a ha=>⟨(keep j c' w fq af h h1 h2 a ha).2.2,(h3 a ha).2⟩,h4⟩
 ·have back:∀(l:Nat) (d:Cl) (w:V) (fq:List Addr),i≠l->ρ[l]? =some (some d)->σ[l]? =some (some w)->Dq K H' P' d w fq->∃ fr,Dq K H P d w fr/\fr=fq:=fun l d w fq hn hk sk ho=>by
   have io:IA d=true:=by cases d<;>first|rfl|exact ho.elim
   obtain⟨w',cf,s2,o2,_⟩:=E.ows l d hk io
   rw[sk] at s2;cases s2
   exact⟨cf,o2,(o2.move sm fun a ha=>(keep l d w cf hn hk sk o2 a ha).1).Cr ho⟩
  rcases get_set h1 with ⟨rfl,hl,e1⟩|⟨ca,h1⟩
  ·cases e1
   rw[zQ (by rw[E.len];exact hl)] at h3
   cases h3
   rcases get_set h2 with ⟨e,_⟩|⟨aJ,h2⟩
   ·exact (af e).elim
   ·rw[gs aJ] at h4
    obtain⟨fr,o,rfl⟩:=back k c2 u' cf aJ h2 h4 h6
    intro a ha hb
    rw[new.Cr h5] at keep
    exact (keep k c2 u' fr aJ h2 h4 o a hb).2.1 ha
  ·rw[gs ca] at h3
   obtain⟨fr,o,rfl⟩:=back j c1 u aA ca h1 h3 h5
   rcases get_set h2 with ⟨rfl,hl,e1⟩|⟨aJ,h2⟩
   ·cases e1
    rw[zQ (by rw[E.len];exact hl)] at h4
    cases h4
    intro a ha
    rw[new.Cr h6] at keep
    exact (keep j c1 u fr ca h1 h3 o a ha).2.1
   ·rw[gs aJ] at h4
    obtain⟨nz,o2,rfl⟩:=back k c2 u' cf aJ h2 h4 h6
    exact E.apart j k c1 c2 u u' fr nz h1 h2 h3 h4 o o2 af
theorem Kv {α:Type}:∀ {l:List α}{i:Nat}{x:α},l[i]? =some x->l.set i x=l
 |[],_,_,h=>by cases h
 |y::r,0,x,h=>by cases h;rfl
 |y::r,i + 1,x,h=>by rw[zo,Kv (by simpa using h)]
theorem An.mut {K:za}(E:An K P0 P H σ ρ){i p:Nat}{xs:List V}{ds jj:List D}(ho:ρ[i]? =some (some (.own ds))) (hs:σ[i]? =some (some (.ref p))) (pP:P p) (lr:¬ P0 p) (hx:Ag K (del H P) xs jj) :
 An K P0 P (upd H p (.lst xs)) σ (ρ.set i (some (.own jj)))/\Tr P0 P H P (upd H p (.lst xs)):=by
 have sd:del (upd H p (.lst xs)) P=del H P:=by
  funext b
  by_cases hb:P b
  ·rw[D3 hb,D3 hb]
  ·rw[Ax hb,Ax hb,Ah (fun z=>hb (by rw[z];exact pP))]
 have sm:Ad (del H P) (del (upd H p (.lst xs)) P):=by rw[sd];exact Ad.refl _
 obtain⟨v,fp,s1,o1,_⟩:=E.ows i _ ho rfl
 rw[hs] at s1;cases s1
 have key:=E.VP (P':=P) (H':=upd H p (.lst xs)) (i:=i) (v:=.ref p) (c:=.own jj) (fp:=[p]) (fun a h=>h) (fun a h=>?_) sm (fun j c' v' ai af h1 h2 h3 a ha=>?_) ⟨p,xs,rfl,rfl,Ar,by rw[sd];exact hx⟩ (fun a ha=>by rw[zh.mp ha];exact⟨pP,lr⟩) (by simp)
 ·rw[Kv hs] at key
  exact⟨key,sm,fun a h=>by rw[Ah (fun z=>lr (by rw[<-z];exact h))]⟩
 ·by_cases ha:a=p
  ·subst ha;exact Dt.lst Ar
  ·unfold Dt;rw[Ah ha];exact E.Cq a h
 ·obtain⟨p',dw,e,rfl,_⟩:=o1
  cases e
  have hn:a≠p:=fun z=>E.apart j i c' _ v' _ ai [p] h1 ho h2 hs h3 ⟨p,dw,rfl,rfl,by assumption⟩ (yL af) a ha (by rw[z];exact zh.mpr rfl)
  exact⟨Ah hn,fun z=>hn (zh.mp z)⟩
theorem An.grow {K:za}(E:An K P0 P H σ ρ){i p:Nat}{xs:List V}{ds:List D}{v:V}{d:D}(ho:ρ[i]? =some (some (.own ds))) (hs:σ[i]? =some (some (.ref p))) (hp:H p=some (.lst xs)) (pP:P p) (lr:¬ P0 p) (hx:Ag K (del H P) xs ds) (hv:BK K (del H P) v d) :
 An K P0 P (upd H p (.lst (xs++[v]))) σ (ρ.set i (some (.own (ds++[d]))))/\Tr P0 P H P (upd H p (.lst (xs++[v]))):=E.mut ho hs pP lr (hx.snoc hv)
theorem B3 (i:Nat){x:Str}{pos':Pos}(hN:X.N.Nodup) (hi:X.N[i]? =some x) (hx:Loc X.env.scope x) (ha:DE X WX true e f) (hs:swapsWith e (some (.Name x pos')) pos.line X.env=pure false:=by rfl) (hf:X.fn x=true\/X.env.scope.names.lookup x=some .local:=by first | exact .inl rfl | exact .inr rfl | assumption) :
 DS X WX (.Assign [.Name x pos'] e pos) (fun ρ=>(f ρ).bind fun d=>.ok (.next (ρ.set i (some (.val d))))):=by
 obtain⟨ta,a1,a2⟩:=ha
 refine⟨_,SF hN hi hx a1 hs hf,fun P0 P σ H Z ρ E h=>?_⟩
 dsimp only at h
 refine a2 P0 P σ H _ ρ E ?_
 cases q:f ρ with
 |bad=>rw[q] at h;exact h
 |ex x=>rw[q] at h;exact fun H' s=>h H' P (E.tr s)
 |ok d=>rw[q] at h;exact fun v H' s hv=>h _ H' P (E.tr s) ((E.same s).VO hv)
noncomputable def VQ (i:Nat) (ρ:Ab) (m:M D):M Out:=match ρ[i]? with
 |some (some (.own ds))=>m.bind fun d=>if ds.length < 1000 then .ok (.next (ρ.set i (some (.own (ds++[d]))))) else .bad
 |_=>.bad
theorem Hq (i:Nat){x:Str}{p1 apos ac:Pos}(hv:PE X (.Name x p1) (Lp i)) (ha:DE X WX true e f) (hs:starEach [e] X.env=[(false,eval e X.env)]:=by rfl)
 (bj:swapsWith (.Call (.Attribute (.Name x p1) "append" apos) [e] [] ac) none pos.line X.env=pure false:=by rfl)
 (av:attributeBase (.Name x p1) "append" X.env (eval (.Name x p1) X.env)=eval (.Name x p1) X.env:=by rfl)
 (aV:((backTo ac (starEach [e] X.env)).all (fun x => !x.1) && (backToKw ac (keywordEach [] X.env)).all (fun x=>x.1.isSome) && decide (([e]:List Expr).length + ([]:List Keyword).length + (if ([]:List Keyword).isEmpty then 0 else 1) < 30))=true:=by rfl)
 (aw:(apos.endLine == ac.line)=true:=by rfl) (ar:(backTo ac (starEach [] X.env)).any (·.1)=false:=by rfl) :
 DS X WX (.Expr (.Call (.Attribute (.Name x p1) "append" apos) [e] [] ac) pos) (fun ρ=>VQ i ρ (f ρ)):=by
 obtain⟨ta,a1,a2⟩:=ha
 refine⟨_,Ft (QV zaa PySem.F.slot_list_append PySem.F.type_list_append Ov hv (Bh a1 Cj hs) av aV aw hs ar) bj,fun P0 P σ H Z ρ E h=>?_⟩
 dsimp only at h
 unfold VQ at h
 split at h
 ·rename_i ds e1
  obtain⟨p,xs,h1,h2,h3,h4,h5⟩:=E.own i ds e1
  refine⟨_,h1,.inl ⟨rfl,xs,.of h2⟩,?_⟩
  refine a2 P0 P σ H _ ρ E ?_
  cases q:f ρ with
  |bad=>rw[q] at h;exact h
  |ex y=>rw[q] at h;exact fun H' s=>h H' P (E.tr s)
  |ok d =>
   rw[q] at h
   simp only[M.A7] at h
   by_cases hl:ds.length < 1000
   ·rw[if_pos hl] at h
    intro v H1 s1 hv
    have E1:=E.same s1
    have ie:H1 p=some (.lst xs):=s1 _ _ h2
    refine⟨p,xs,v,rfl,rfl,ie,AH (by rw[h5.length];omega),?_⟩
    obtain⟨E2,t2⟩:=E1.grow e1 h1 ie h3 h4 (h5.mono s1.del) hv
    exact h _ _ _ ((E.tr s1).trans t2) E2
   ·rw[if_neg hl] at h;exact h.elim
 ·exact h.elim
end
end L2
namespace L2
open PySem PySem.Spec PyProof.Rows
noncomputable def gG (K:za) (P0:EA) (P:Addr->Prop) (H:Hp) (Q:St->Hp->Prop):M Ab->Prop
 | .ok ρ=>∀ σ',An K P0 P H σ' ρ->Q σ' H
 |_=>False
noncomputable def DG (X:Cx) (tg:Expr) (gt:D->Ab->M Ab):Prop :=
 ∃ g:TG,PG X tg g/\∀ P0 P σ H Q ρ v d,An X.K P0 P H σ ρ->BK X.K (del H P) v d->gG X.K P0 P H Q (gt d ρ)->g v σ H Q
noncomputable def rG (X:Cx) (wq:List Expr) (gt:List D->Ab->M Ab):Prop :=
 ∃ g:WK,nE X wq g/\∀ P0 P σ H Q ρ v d,An X.K P0 P H σ ρ->Ag X.K (del H P) v d->gG X.K P0 P H Q (gt d ρ)->g v σ H Q
structure cU (K:za) (J:It) (P:Addr->Prop) (H:Hp) (ds:List D):Prop where
 go:∀(i:Nat) P' H',Ad (del H P) (del H' P')->i < ds.length->J.go i H'
 stop:∀(i:Nat) P' H',Ad (del H P) (del H' P')->ds.length<=i->J.stop i H'
 gO:∀(i:Nat) P' H' v f6 d,Ad (del H P) (del H' P')->(∀ a,P' a->Dt H' a)->ds[i]? =some d->J.gO i H' v f6->Ad H' f6/\BK K (del f6 P') v d
noncomputable def DI (X:Cx) (WX:Str->Hp->Prop) (tg iter:Expr) (f:Ab->M (List D)):Prop :=
 ∃ wi,PI X tg iter wi/\∀ P0 P σ H R ρ,An X.K P0 P H σ ρ->(match f ρ with | .ok ds=>∀ J H',Ad H H'->cU X.K J P H' ds->R J H' | .ex x=>∀ H',Ad H H'->WX x H' | .bad=>False)->wi σ H R
noncomputable def forM (gt:D->Ab->M Ab) (body:Ab->M Out):List D->Ab->M Out
 |[],ρ=>.ok (.next ρ)
 |d::r,ρ=>match gt d ρ with
  | .ok ρ1=>(match body ρ1 with
   | .ok (.next ρ2)=>forM gt body r ρ2
   | .ok (.cont ρ2)=>forM gt body r ρ2
   | .ok (.brk ρ2)=>.ok (.next ρ2)
   |m=>m)
  |_=>.bad
section
variable {X:Cx}{WX:Str->Hp->Prop}{c:Bool}{P0:EA}{P:Addr->Prop}{H:Hp}{σ:St}{ρ:Ab}{a b e tg iter:Expr}{f g:Ab->M D}{ft:Ab->M Bool}{pos:Pos}{gt:D->Ab->M Ab}{cV:List D->Ab->M Ab}{gb:Ab->M Out}{fi:Ab->M (List D)}
theorem AY (i:Nat){x:Str}(hN:X.N.Nodup) (hi:X.N[i]? =some x) (hx:Loc X.env.scope x) (hf:X.fn x=true\/X.env.scope.names.lookup x=some .local:=by first | exact .inl rfl | exact .inr rfl | assumption):DG X (.Name x pos) (fun d ρ=>.ok (ρ.set i (some (.val d)))) :=
 ⟨_,Po hN hi hx hf,fun P0 P σ H Q ρ v d E hv h=>h _ (E.VO hv)⟩
theorem Uv:rG X [] (fun ds ρ=>match ds with | []=>.ok ρ | _=>.bad):=⟨_,Uc,fun P0 P σ H Q ρ v d E hv h=>by
 cases hv with
 |nil=>exact⟨rfl,h σ E⟩
 |cons _ _=>exact h.elim⟩
theorem Jc {es:List Expr}(h1:DG X e gt) (h2:rG X es cV) (hs:(assignEach (e::es) X.env).map (·.2)=assign e X.env::(assignEach es X.env).map (·.2):=by rfl) :
 rG X (e::es) (fun ds ρ=>match ds with|d::r=>(gt d ρ).bind (cV r)|[]=>.bad):=by
 obtain⟨t,a1,a2⟩:=h1
 obtain⟨u,b1,b2⟩:=h2
 refine⟨_,QQ a1 b1 hs,fun P0 P σ H Q ρ v d E hv h=>?_⟩
 cases hv with
 |nil=>exact h.elim
 | @cons x d xs ds hx cb =>
  refine⟨x,xs,rfl,a2 P0 P σ H _ ρ x d E hx ?_⟩
  dsimp only at h
  cases q:gt d ρ with
  |bad=>rw[q] at h;exact h
  |ex y=>rw[q] at h;exact h
  |ok ρ1=>rw[q] at h;exact fun σ' E'=>b2 P0 P σ' H Q ρ1 xs ds E' cb h
theorem XH {es:List Expr}{k n:Nat}(hc:X.calm=true) (h:rG X es cV) (hn:(assignEach es X.env).length=n:=by rfl) (aY:(assignEach es X.env).findIdx? (·.1)=none:=by rfl) :
 DG X (.Tuple es k pos) (fun d ρ=>match d with | .tup ds=>if ds.length=n then cV ds ρ else .bad|_=>.bad):=by
 obtain⟨t,a1,a2⟩:=h
 refine⟨_,WZ hc a1 hn aY,fun P0 P σ H Q ρ v d E hv h=>?_⟩
 cases hv with
 | @tup a xs ds hs hl =>
  dsimp only at h
  by_cases hd:ds.length=n
  ·rw[if_pos hd] at h
   exact⟨a,xs,rfl,Fs.of (Al hs).2,by rw[hl.length];exact hd,a2 P0 P σ H Q ρ xs ds E hl h⟩
  ·rw[if_neg hd] at h;exact h.elim
 |_=>exact h.elim
theorem AO (ha:DE X WX true e f):DI X WX tg e (fun ρ=>(f ρ).bind fun d=>match d with | .lst ds=>.ok ds | _=>.bad):=by
 obtain⟨ta,a1,a2⟩:=ha
 refine⟨_,Zw a1,fun P0 P σ H R ρ E h=>?_⟩
 dsimp only at h
 refine a2 P0 P σ H _ ρ E ?_
 cases q:f ρ with
 |bad=>rw[q] at h;exact h
 |ex x=>rw[q] at h;exact h
 |ok d =>
  rw[q] at h
  cases d with
  |lst ds =>
   intro v H1 s1 hv
   cases hv with
   | @lst a xs _ hs hl =>
    refine⟨a,rfl,⟨xs,hs.Bo⟩,h _ H1 s1 ⟨fun i P' H' s hi=>?_,fun i P' H' s hi=>?_,fun i P' H' v f6 d s ht hd y=>?_⟩⟩
    ·obtain⟨x,hx,_⟩:=hl.get (zt hi)
     exact⟨xs,x,(s.seq hs).Bo,hx⟩
    ·exact⟨xs,(s.seq hs).Bo,by rw[hl.length];exact hi⟩
    ·obtain⟨rfl,y⟩:=y
     obtain⟨x,hx,bO⟩:=hl.get hd
     have e:=y xs (s.seq hs).Bo
     rw[hx] at e
     cases e
     exact⟨Ad.refl _,bO.mono s⟩
  |_=>exact h.elim
noncomputable def Cm (lo:Int):Nat->List D
 |0=>[]
 |n + 1=>.int lo::Cm (lo + 1) n
theorem Bf (lo:Int):∀ n:Nat,(Cm lo n).length=n:=by
 intro n
 induction n generalizing lo with
 |zero=>rfl
 |succ n ih=>rw[Cm,zp,ih]
theorem BM {lo:Int}{n i:Nat}{d:D}(h:(Cm lo n)[i]? =some d):d=.int (lo + i)/\i < n:=by
 have hi:i < n:=by
  have:=(zA.mp h).1
  rw[Bf] at this;exact this
 refine⟨?_,hi⟩
 induction n generalizing lo i with
 |zero=>omega
 |succ n ih =>
  cases i with
  |zero=>rw[Cm] at h;simp at h;rw[<-h];simp
  |succ i =>
   rw[Cm,zT] at h
   rw[ih h (by omega)]
   congr 1
   omega
theorem Tc {K:za}{P:Addr->Prop}{H:Hp}(lo:Int) (n:Nat):cU K (rB lo n) P H (Cm lo n) :=
 ⟨fun i P' H' _ hi=>by rw[Bf] at hi;exact hi,fun i P' H' _ hi=>by rw[Bf] at hi;exact hi,fun i P' H' v f6 d _ _ hd y=>by
  obtain⟨rfl,rfl⟩:=y
  obtain⟨rfl,_⟩:=BM hd
  exact⟨Ad.refl _,.int _⟩⟩
noncomputable def Td:D->M (List D)
 | .int j=>@ite _ (-(2 ^ 62)<=j/\j < 2 ^ 62) (zbj _) (.ok (Cm 0 j.toNat)) .bad
 |_=>.bad
theorem Rc {j:Int}(h1 : -(2 ^ 62)<=j) (h2:j < 2 ^ 62):Td (.int j)=.ok (Cm 0 j.toNat):=if_pos ⟨h1,h2⟩
theorem GB {n:Nat}(h:n<=1000):Td (.int (n:Int))=.ok (Cm 0 n):=by
 rw[Rc (by omega) (by omega),zZ]
theorem Ca {p:Pos}(hg:Gl X "range") (hm:X.mg "range" = none) (ha:DE X WX c a f) (hs:starEach [a] X.env=[(false,eval a X.env)]:=by rfl) :
 DI X WX tg (.Call (.Name "range" p) [a] [] pos) (fun ρ=>(f ρ).bind Td):=by
 obtain⟨ta,a1,a2⟩:=ha
 refine⟨_,Vv hg hm (Bh a1 Cj hs) hs,fun P0 P σ H R ρ E h=>?_⟩
 dsimp only at h
 refine a2 P0 P σ H _ ρ E ?_
 cases q:f ρ with
 |bad=>rw[q] at h;exact h
 |ex x=>rw[q] at h;exact h
 |ok d =>
  rw[q] at h
  cases d with
  |int j =>
   simp only[M.A7] at h
   by_cases hj : -(2 ^ 62)<=j/\j < 2 ^ 62
   ·rw[Rc hj.1 hj.2] at h
    exact fun v H1 s1 hv=>⟨j,by rw[hv.int_inv],hj.1,hj.2,h _ H1 s1 (Tc 0 _)⟩
   ·have e:Td (.int j)=.bad:=if_neg hj
    rw[e] at h;exact h.elim
  |_=>exact h.elim
noncomputable def L9 (k:Nat):List D->List D
 |[]=>[]
 |d::r=>.tup [.int k,d]::L9 (k + 1) r
theorem Hr (k:Nat) (ds:List D):(L9 k ds).length=ds.length:=by
 induction ds generalizing k with
 |nil=>rfl
 |cons d r ih=>rw[L9,zp,zp,ih]
theorem Kw {k i:Nat}{ds:List D}{e:D}(h:(L9 k ds)[i]? =some e):∃ d,ds[i]? =some d/\e=.tup [.int ((k + i:Nat):Int),d]:=by
 induction ds generalizing k i with
 |nil=>rw[L9] at h;simp at h
 |cons d r ih =>
  cases i with
  |zero=>rw[L9] at h;simp at h;exact⟨d,rfl,by rw[<-h];rfl⟩
  |succ i =>
   rw[L9,zT] at h
   obtain⟨d',h1,h2⟩:=ih h
   refine⟨d',by simpa using h1,?_⟩
   rw[h2]
   congr 3
   omega
theorem Uw {cr:List Expr}{x1}{bE p:Pos}(hg:Gl X "enumerate") (hm:X.mg "enumerate" = none) (ha:DE X WX true a f) (hb:bootBuiltins "enumerate" = some (.type "enumerate"):=by decide +kernel) (hs:starEach [a] X.env=[(false,eval a X.env)]:=by rfl) :
 DI X WX (.Tuple cr x1 bE) (.Call (.Name "enumerate" p) [a] [] pos) (fun ρ=>(f ρ).bind fun d=>match d with | .lst ds=>.ok (L9 0 ds)|_=>.bad):=by
 obtain⟨ta,a1,a2⟩:=ha
 refine⟨_,ZX hg hm (Bh a1 Cj hs) hb hs,fun P0 P σ H R ρ E h=>?_⟩
 dsimp only at h
 refine a2 P0 P σ H _ ρ E ?_
 cases q:f ρ with
 |bad=>rw[q] at h;exact h
 |ex x=>rw[q] at h;exact h
 |ok d =>
  rw[q] at h
  cases d with
  |lst ds =>
   intro v H1 s1 hv
   cases hv with
   | @lst a xs _ hs hl =>
    refine⟨a,rfl,⟨xs,hs.Bo⟩,h _ H1 s1 ⟨fun i P' H' s hi=>?_,fun i P' H' s hi=>?_,fun i P' H' v f6 d s ht hd y=>?_⟩⟩
    ·rw[Hr] at hi
     obtain⟨x,hx,_⟩:=hl.get (zt hi)
     exact⟨xs,x,(s.seq hs).Bo,hx⟩
    ·rw[Hr] at hi
     exact⟨xs,(s.seq hs).Bo,by rw[hl.length];exact hi⟩
    ·obtain⟨p,x,hn,rfl,y,rfl⟩:=y
     obtain⟨d',aR,rfl⟩:=Kw hd
     obtain⟨x',hx,bO⟩:=hl.get aR
     have e:=y xs (s.seq hs).Bo
     rw[hx] at e
     cases e
     refine⟨AN hn _,.tup (Ja hn ht) (.cons ?_ (.cons ((bO.mono s).mono (AN hn _).del) .nil))⟩
     rw[Nat.zero_add]
     exact .int _
  |_=>exact h.elim
theorem Jd {α:Type}{l:List α}{i:Nat}(h:i < l.length):l.drop i=l[i]::l.drop (i + 1):=zbc h
theorem BE {body:List Stmt}(hp:PassesOwn (model X.prog X.w) X.A X.env X.xe) (hc:X.calm=true) (hi:DI X WX tg iter fi) (hg:DG X tg gt) (hb:Sw X WX body gb) (hs:∀ x,foldedSetIterable iter X.env x=pure x:=by intro _;rfl) :
 DS X WX (.For tg iter body [] pos) (fun ρ=>(fi ρ).bind fun ds=>forM gt gb ds ρ):=by
 obtain⟨wi,i1,i2⟩:=hi
 obtain⟨t,a1,a2⟩:=hg
 obtain⟨tb,b1,b2⟩:=hb
 refine⟨_,jK hp hc i1 a1 b1 hs,fun P0 P σ H Z ρ E h=>?_⟩
 dsimp only at h
 refine i2 P0 P σ H _ ρ E ?_
 cases q:fi ρ with
 |bad=>rw[q] at h;exact h
 |ex x=>rw[q] at h;exact fun H' s=>h H' P (E.tr s)
 |ok ds =>
  rw[q] at h
  simp only[M.A7] at h
  intro J H1 s1 ok
  refine⟨fun i m σ' H'=>m=ds.length - i/\i<=ds.length/\∃ P' ρ',Tr P0 P H1 P' H'/\An X.K P0 P' H' σ' ρ'/\gS X.K WX P0 P' H' Z (forM gt gb (ds.drop i) ρ'),
   ⟨ds.length,by simp,zW _,P,ρ,Tr.refl,E.same s1,by rw[List.drop_zero];exact h.tr (E.tr s1)⟩,?_⟩
  rintro i m σ' H' ⟨rfl,hi,P',ρ',t',E',g'⟩
  by_cases aj:i < ds.length
  ·refine .inr ⟨ok.go i P' H' t'.1 aj,fun σ2 H2=>i + 1<=ds.length/\∃ P2 ρ2,Tr P0 P H1 P2 H2/\An X.K P0 P2 H2 σ2 ρ2/\gS X.K WX P0 P2 H2 Z (forM gt gb (ds.drop (i + 1)) ρ2),fun σ2 H2 hq=>⟨ds.length - (i + 1),by omega,rfl,hq.1,hq.2⟩,fun v H2 y=>?_⟩
   obtain⟨s2,hv⟩:=ok.gO i P' H' v H2 ds[i] t'.1 E'.Cq (zt aj) y
   rw[Jd aj,forM] at g'
   have E2:=E'.same s2
   refine a2 P0 P' σ' H2 _ ρ' v ds[i] E2 hv ?_
   cases q1:gt ds[i] ρ' with
   |bad=>rw[q1] at g';exact g'
   |ex x=>rw[q1] at g';exact g'.elim
   |ok ρ1 =>
    rw[q1] at g'
    dsimp only at g'
    intro σ3 E3
    refine b2 P0 P' σ3 H2 _ ρ1 E3 ?_
    have tt:Tr P0 P H1 P' H2:=t'.trans (E'.tr s2)
    cases q2:gb ρ1 with
    |bad=>rw[q2] at g';exact g'
    |ex x=>rw[q2] at g';exact gS.tr (m:=.ex x) g' (E'.tr s2)
    |ok o =>
     rw[q2] at g'
     cases o with
     |ret d=>exact gS.tr (m:=.ok (.ret d)) g' (E'.tr s2)
     |CK d=>exact gS.tr (m:=.ok (.CK d)) g' (E'.tr s2)
     |Fd d ρ2=>exact gS.tr (m:=.ok (.Fd d ρ2)) g' (E'.tr s2)
     |next ρ2=>exact fun σ4 H4 P4 t4 E4=>⟨aj,P4,ρ2,tt.trans t4,E4,gS.tr g' ((E'.tr s2).trans t4)⟩
     |cont ρ2=>exact fun σ4 H4 P4 t4 E4=>⟨aj,P4,ρ2,tt.trans t4,E4,gS.tr g' ((E'.tr s2).trans t4)⟩
     |brk ρ2=>exact fun σ4 H4 P4 t4 E4=>g' σ4 H4 P4 ((E'.tr s2).trans t4) E4
  ·have e:i=ds.length:=by omega
   subst e
   refine .inl ⟨ok.stop _ P' H' t'.1 (zB _),?_⟩
   rw[List.drop_length,forM] at g'
   exact g' σ' H' P' Tr.refl E'
end
end L2
namespace L2
open PySem PySem.Spec PyProof.Rows
noncomputable def Te (K:za) (n:Nat) (F:List D->M D):Sp:=fun vs H Q _=>vs.length=n/\∃ P ds,(∀ a,P a->Dt H a)/\Ag K (del H P) vs ds/\gV K (fun _ _=>False) P H Q (F ds)
noncomputable def AI (N:List Str) (ds:List D):Ab:=ds.map (fun d=>some (.val d))++zw (N.length - ds.length) none
noncomputable def tM:Cl->M D
 | .val d=>.ok d
 | .own ds=>.ok (.lst ds)
 | .ow (.rows C2)=>.ok (.lst (C2.map D.lst))
 | .ow (.LI _ _)=>.bad
 | .ow (.tree _ t)=>.ok (er t)
noncomputable def fin (m:M Out):M D:=match m with
 | .ok (.ret d)=>.ok d
 | .ok (.CK c)=>tM c
 | .ok (.next _)=>.ok .AA
 |_=>.bad
theorem OF {K:za}{P:Addr->Prop}{H:Hp}{N:List Str}{vs:List V}{ds:List D}(ht:∀ a,P a->Dt H a) (h:Ag K (del H P) vs ds):An K ⟨P,fun _=>0⟩ P H (start N vs) (AI N ds):=by
 have hl:=h.length
 have key:∀(i:Nat) (c:Cl),(AI N ds)[i]? =some (some c)->∃ d,ds[i]? =some d/\c=.val d:=fun i c e=>by
  unfold AI at e
  by_cases hi:i < ds.length
  ·rw[za0 (by simpa using hi),zH] at e
   cases q:ds[i]? with
   |none=>rw[q] at e;cases e
   |some d=>rw[q] at e;cases e;exact⟨d,rfl,rfl⟩
  ·rw[zai (by simpa using hi),zad] at e
   split at e<;>cases e
 refine⟨fun _ h=>h,ht,fun i d e=>?_,fun i es e io=>?_,fun i j c c' v v' fp ai e _ _ _ ho _ _=>?_,?_,fun i c n e hp=>?_⟩
 rotate_left 4
 ·obtain⟨d',q,z⟩:=key i _ e
  cases z
  cases hp
 ·obtain⟨d',q,z⟩:=key i _ e
  cases z
  obtain⟨v,hv,hd⟩:=h.get q
  refine⟨v,?_,hd⟩
  unfold start
  rw[za0 (by rw[zc];exact (zA.mp hv).1),zH,hv]
  rfl
 ·obtain⟨d',q,z⟩:=key i _ e
  cases z
  cases io
 ·obtain⟨d',q,z⟩:=key i _ e
  cases z
  exact ho.elim
 ·unfold start AI
  simp[hl]
theorem DB {P:Addr->Prop}{H H':Hp}{P':Addr->Prop}(t:Tr P P H P' H'):Ad H H':=fun b o e=>by
 by_cases hb:P b
 ·rw[t.2 b hb];exact e
 ·exact (Al (t.1 b o (by rw[Ax hb];exact e))).2
theorem By.kR {K:za}{H:Hp}{P P0:Addr->Prop}(hs:∀ a,P0 a->P a):∀ {ps:List Addr}{C2:List (List D)},(∀ a∈ps,¬ P0 a)->By K H P ps C2->Ag K (del H P0) (ps.map V.ref) (C2.map D.lst)
 |_,_,_,.nil=>.nil
 |_,_,k,.cons h r t=>.cons (.lst (.of (show del H P0 _=_ by rw[Ax (k _ ze)];exact h)) (r.mono (CL hs))) (By.kR hs (fun a ha=>k a (zf _ ha)) t)
theorem cW {K:za}{WX:Str->Hp->Prop}{P P2:Addr->Prop}{H H':Hp}{Q:VK}{c:Cl}{v:V}{fp:List Addr}(h:gV K WX P H Q (tM c)) (t':Tr P P H P2 H') (hs:∀ a,P a->P2 a) (ht:∀ a,P2 a->Dt H' a) (ho:Dq K H' P2 c v fp) (hp:∀ a∈fp,P2 a/\¬ P a):Q v H':=by
 cases c with
 |val d=>exact ho.elim
 |own ds =>
  obtain⟨p,xs,rfl,rfl,h1,h2⟩:=ho
  exact h _ H' (DB t') (.lst (.of (show del H' P p=_ by rw[Ax (hp p ze).2];exact h1)) (h2.mono (CL hs)))
 |ow o =>
  cases o with
  |rows C2 =>
   obtain⟨p,ps,rfl,rfl,h1,h2⟩:=ho
   exact h _ H' (DB t') (.lst (.of (show del H' P p=_ by rw[Ax (hp p ze).2];exact h1)) (h2.kR hs fun a ha=>(hp a (zf _ ha)).2))
  |LI p ds=>exact h.elim
  |tree p t=>exact h _ H' (DB t') (C3.has hs (fun a ha=>(hp a ha).2) ho)
section
variable {P:Program}{w:World}{K:za}{mg:Str->Option Value}{base:Heap}
theorem pU {x qual:Str}{st:Stmt}{f:Addr}{fd:FuncData}{N ps:List Str}{k:Nat}(F:WL K x qual st f fd) (S:Ae N ps (A3 st)) (g:Ab->M Out)
 (hb:∀(B1:Value) (A:Around) (outer:List Env) (s:Shared) (H:Hp) (E:XK),BH k (A.deeper (envOfC qual (A3 st) s.heap.objs.size f B1))->Sw (Lr ZN P w K mg base N qual (A3 st) f B1 A outer s H E).oC (fun _ _=>False) (AD st) g) :
 Ds P w K mg base ZN (k + 1) f fd ps (Te K ps.length fun ds=>fin (g (AI N ds))):=by
 refine F.ok S (fun vs H Q E h=>h.1) fun B1 A outer s H vs Q E hr h=>?_
 obtain⟨hl,P',ds,ht,hv,hq⟩:=h
 obtain⟨t,h1,h2⟩:=hb B1 A outer s H E hr
 refine⟨t,h1,h2 ⟨P',fun _=>0⟩ P' _ H _ _ (OF ht hv) ?_⟩
 dsimp only at hq
 revert hq
 cases g (AI N ds) with
 |bad=>exact fun h=>h.elim
 |ex x=>exact fun h=>h.elim
 |ok o =>
  cases o with
  |ret d=>exact fun h v H' P2 t hv=>h v H' (DB t) hv
  |next ρ=>exact fun h σ' H' P2 t E=>h .AA H' (DB t) .AA
  |brk ρ=>exact fun h=>h.elim
  |cont ρ=>exact fun h=>h.elim
  |CK c=>exact fun h v fp H' P2 t hs ht ho hp nd=>cW h t hs ht ho hp
  |Fd d ρ=>exact fun h=>h.elim
end
section
variable {X:Cx}{WX:Str->Hp->Prop}{c:Bool}{P0:EA}{P:Addr->Prop}{H:Hp}{σ:St}{ρ:Ab}{a b e tg iter:Expr}{f g:Ab->M D}{ft:Ab->M Bool}{pos:Pos}{gt:D->Ab->M Ab}{fi:Ab->M (List D)}{es:List Expr}{fs:Ab->M (List D)}
noncomputable def Bz (μ:List (Option Nat)) (ρ:Ab):Ab:=μ.map fun o=>o.bind fun i=>match ρ[i]? with | some (some (.val d))=>some (.val d) | _=>none
theorem Hs {μ:List (Option Nat)}{ρ:Ab}{j:Nat}{cl:Cl}(h:(Bz μ ρ)[j]? =some (some cl)):∃ i d,μ[j]? =some (some i)/\ρ[i]? =some (some (.val d))/\cl=.val d:=by
 unfold Bz at h
 rw[zH] at h
 cases q:μ[j]? with
 |none=>rw[q] at h;cases h
 |some o =>
  rw[q] at h
  cases o with
  |none=>cases h
  |some i =>
   simp only[zaf,Option.bind_some,Option.some.injEq] at h
   split at h
   ·rename_i d e
    cases h
    exact⟨i,d,rfl,e,rfl⟩
   ·cases h
theorem An.block {K:za}(E:An K P0 P H σ ρ) (μ:List (Option Nat)):An K P0 P H (EW μ σ) (Bz μ ρ):=by
 refine⟨E.sub,E.Cq,fun j d h=>?_,fun j ds h io=>?_,fun j k c c' v v' fp ai h _ _ _ ho _ _=>?_,by unfold EW Bz;simp,fun j c n h hp=>by obtain⟨i,d',h1,h2,h3⟩:=Hs h;subst h3;cases hp⟩
 ·obtain⟨i,d',h1,h2,h3⟩:=Hs h
  cases h3
  obtain⟨v,h4,h5⟩:=E.val i d h2
  refine⟨v,?_,h5⟩
  unfold EW
  rw[zH,h1]
  simp[h4]
 ·obtain⟨i,d',h1,h2,h3⟩:=Hs h
  cases h3
  cases io
 ·obtain⟨i,d',h1,h2,h3⟩:=Hs h
  cases h3
  exact ho.elim
noncomputable def B9 (gt:D->Ab->M Ab) (ft:Ab->M Bool) (fe:Ab->M D):List D->Ab->M (List D)
 |[],_=>.ok []
 |d::r,ρ=>match gt d ρ with
  | .ok ρ1=>(match ft ρ1 with
   | .ok k=>if k=true then (match fe ρ1 with
    | .ok y=>(match B9 gt ft fe r ρ with | .ok ys=>.ok (y::ys)|_=>.bad)
    |_=>.bad) else B9 gt ft fe r ρ
   |_=>.bad)
  |_=>.bad
noncomputable def pV (X:Cx) (scope:Scope) (NB:List Str) (μ:List (Option Nat)) (tg:Expr) (gt:D->Ab->M Ab):Prop :=
 ∃ g:TG,(∀ s H C ex,PG (blockOf X s H scope C NB ex) tg g)/\Kn μ g/\∀ P0 P σ H Q ρ v d,An X.K P0 P H σ ρ->BK X.K (del H P) v d->gG X.K P0 P H Q (gt d ρ)->g v σ H Q
theorem Bp {scope:Scope}{NB:List Str}{μ:List (Option Nat)}(i:Nat){x:Str}(hN:NB.Nodup) (hi:NB[i]? =some x) (hx:(relabel scope X.env).names.lookup x=some .local) (hm:μ[i]? =some none):pV X scope NB μ (.Name x pos) (fun d ρ=>.ok (ρ.set i (some (.val d)))) :=
 ⟨Oi i,fun s H C ex=>Po (X:=blockOf X s H scope C NB ex) hN hi (.inl hx) (.inr hx),ZV hm,fun P0 P σ H Q ρ v d E hv h=>h _ (E.VO hv)⟩
noncomputable def pW (X:Cx) (cs:List Expr) (f:Ab->M Bool):Prop :=
 ∃ t,nG X cs t/\∀ P0 P σ H Q ρ,An X.K P0 P H σ ρ->gT (fun _ _=>False) H Q (f ρ)->t σ H Q
theorem Df:pW X [] (fun _=>.ok true):=⟨_,ZT,fun P0 P σ H Q ρ E h=>h H (Ad.refl H)⟩
theorem Ht (h:DT X (fun _ _=>False) a ft):pW X [a] ft:=let ⟨t,h1,h2⟩:=h;⟨_,ZU h1,h2⟩
noncomputable def Je (m:M (List D)):M D:=match m with | .ok ys=>.ok (.lst ys) | _=>.bad
theorem kS {μ:List (Option Nat)}{wi:TI}{gg:TG}{tc:Shared->Hp->Addr->List Addr->TT}{te:Shared->Hp->Addr->List Addr->TE}{fe:Ab->M D}
 (i2:∀ P0 P σ H R ρ,An X.K P0 P H σ ρ->(match fi ρ with | .ok ds=>∀ J H',Ad H H'->cU X.K J P H' ds->R J H' | .ex x=>∀ H',Ad H H'->WX x H' | .bad=>False)->wi σ H R)
 (g2:∀ P0 P σ H Q ρ v d,An X.K P0 P H σ ρ->BK X.K (del H P) v d->gG X.K P0 P H Q (gt d ρ)->gg v σ H Q)
 (t2:∀ s H' C ex P0 P σ H Q ρ,An X.K P0 P H σ ρ->gT (fun _ _=>False) H Q (ft ρ)->tc s H' C ex σ H Q)
 (e2:∀ s H' C ex P0 P σ H Q ρ,An X.K P0 P H σ ρ->gV X.K (fun _ _=>False) (Lv c P0 P) H Q (fe ρ)->te s H' C ex σ H Q) {Q:VK}
 (E:An X.K P0 P H σ ρ) (h:gV X.K WX (Lv c P0 P) H Q ((fi ρ).bind fun ds=>if ds.length<=1000 then Je (B9 gt ft fe ds (Bz μ ρ)) else .bad)):Ul wi μ gg tc te σ H Q:=by
 refine i2 P0 P σ H _ ρ E ?_
 cases q:fi ρ with
 |bad=>rw[q] at h;exact h
 |ex x=>rw[q] at h;exact h
 |ok ds =>
  rw[q] at h
  simp only[M.A7] at h
  by_cases hd:¬ ds.length<=1000
  ·rw[if_neg hd] at h;exact h.elim
  have hd:ds.length<=1000:=by omega
  rw[if_pos hd] at h
  intro J H1 s1 ok s C ex
  cases qc:B9 gt ft fe ds (Bz μ ρ) with
  |bad=>rw[qc] at h;exact h.elim
  |ex x=>rw[qc] at h;exact h.elim
  |ok total =>
   rw[qc] at h
   unfold Je at h
   dsimp only at h
   have E1:=E.same s1
   refine⟨fun i m ys H2=>m=ds.length - i/\i<=ds.length/\ys.length<=i/\Ad H1 H2/\∃ es rest,Ag X.K (del H2 (Lv c P0 P)) ys es/\B9 gt ft fe (ds.drop i) (Bz μ ρ)=.ok rest/\es++rest=total,
    ⟨ds.length,by simp,zW _,zB _,Ad.refl _,[],total,.nil,by rw[List.drop_zero];exact qc,rfl⟩,?_⟩
   rintro i m ys H2 ⟨rfl,hi,hy,s2,es,rest,f7,aq,bo⟩
   by_cases aj:i < ds.length
   ·refine .inr ⟨ok.go i P H2 s2.del aj,Nat.lt_of_le_of_lt hy (AH (by omega)),fun bA H'=>i + 1<=ds.length/\bA.length<=i + 1/\Ad H1 H'/\∃ es rest,Ag X.K (del H' (Lv c P0 P)) bA es/\B9 gt ft fe (ds.drop (i + 1)) (Bz μ ρ)=.ok rest/\es++rest=total,fun bA H' hq=>⟨ds.length - (i + 1),by omega,rfl,hq.1,hq.2.1,hq.2.2.1,hq.2.2.2⟩,fun v H3 y=>?_⟩
    have E2:=E1.same s2
    obtain⟨s3,hv⟩:=ok.gO i P H2 v H3 ds[i] s2.del E2.Cq (zt aj) y
    rw[Jd aj,B9] at aq
    have E3:=(E2.same s3).block μ
    refine g2 P0 P _ H3 _ (Bz μ ρ) v ds[i] E3 hv ?_
    cases q1:gt ds[i] (Bz μ ρ) with
    |bad=>rw[q1] at aq;cases aq
    |ex x=>rw[q1] at aq;cases aq
    |ok ρ1 =>
     rw[q1] at aq
     dsimp only at aq
     intro σ4 E4
     refine t2 s H1 C ex P0 P σ4 H3 _ ρ1 E4 ?_
     cases q2:ft ρ1 with
     |bad=>rw[q2] at aq;cases aq
     |ex x=>rw[q2] at aq;cases aq
     |ok k =>
      rw[q2] at aq
      dsimp only at aq
      intro H5 s5
      cases k with
      |false =>
       simp only[zF,if_false] at aq ⊢
       exact⟨aj,by omega,(s2.trans s3).trans s5,es,rest,(f7.mono s3.del).mono s5.del,aq,bo⟩
      |true =>
       simp only[if_true] at aq ⊢
       refine e2 s H1 C ex P0 P σ4 H5 _ ρ1 (E4.same s5) ?_
       cases q3:fe ρ1 with
       |bad=>rw[q3] at aq;cases aq
       |ex x=>rw[q3] at aq;cases aq
       |ok y' =>
        rw[q3] at aq
        dsimp only at aq
        cases q4:B9 gt ft fe (ds.drop (i + 1)) (Bz μ ρ) with
        |bad=>rw[q4] at aq;cases aq
        |ex x=>rw[q4] at aq;cases aq
        |ok n4 =>
         rw[q4] at aq
         cases aq
         intro w H6 s6 hw
         refine⟨aj,by rw[zL,za9];omega,((s2.trans s3).trans s5).trans s6,es++[y'],n4,(((f7.mono s3.del).mono s5.del).mono s6.del).snoc hw,rfl,?_⟩
         rw[zap];exact bo
   ·have e:i=ds.length:=by omega
    subst e
    rw[List.drop_length,B9] at aq
    cases aq
    rw[yW] at bo
    subst bo
    refine .inl ⟨ok.stop _ P H2 s2.del (zB _),fun D0 hn=>h _ _ ((s1.trans s2).trans (AN hn _)) (.lst (.of (Ja hn fun a q=>(E1.same s2).pL c a q)) (f7.mono (AN hn _).del))⟩
theorem Ux {scope:Scope}{NB:List Str}{ifs:List Expr}{elt:Expr}{fe:Ab->M D}(i:Nat){x:Str}{px ay:Pos}(μ:List (Option Nat)) (hN:X.N.Nodup) (jf:X.N[i]? =some x) (hx:Loc X.env.scope x) (hc:X.calm=true) (hi:DI X WX tg iter fi) (aG:J6 scope X.env.scope=true) (bG:Pz X.N NB scope μ=true) (hg:pV X scope NB μ tg gt)
 (ht:∀ s H C ex,pW (blockOf X s H scope C NB ex) ifs ft) (he:∀ s H C ex,DE (blockOf X s H scope C NB ex) (fun _ _=>False) true elt fe)
 (bj:swapsWith (.ListComp elt [⟨tg,iter,ifs,0⟩] scope pos) (some (.Name x px)) ay.line X.env=pure true:=by rfl) (hs:∀ x,foldedSetIterable iter X.env x=pure x:=by intro _;rfl) (hf:X.fn x=true\/X.env.scope.names.lookup x=some .local:=by first|exact .inl rfl|exact .inr rfl|assumption) :
 DS X WX (.Assign [.Name x px] (.ListComp elt [⟨tg,iter,ifs,0⟩] scope pos) ay) (fun ρ=>((fi ρ).bind fun ds=>if ds.length<=1000 then Je (B9 gt ft fe ds (Bz μ ρ)) else .bad).bind fun d=>.ok (.next (ρ.set i (some (.val d))))):=by
 obtain⟨wi,i1,i2⟩:=hi
 obtain⟨gg,g1,gk,g2⟩:=hg
 refine⟨_,Um hN jf hx hc i1 aG bG gk (fun s H C ex=>⟨g1 s H C ex,(zb (ht s H C ex)).1,(zb (he s H C ex)).1⟩) bj hs hf,fun P0 P σ H Z ρ E h=>?_⟩
 refine kS (c:=true) i2 g2 (fun s H' C ex P0 P σ H Q ρ E h=>(zb (ht s H' C ex)).2 P0 P σ H Q ρ E h) (fun s H' C ex P0 P σ H Q ρ E h=>(zb (he s H' C ex)).2 P0 P σ H Q ρ E h) E ?_
 dsimp only at h
 revert h
 cases ((fi ρ).bind fun ds=>if ds.length<=1000 then Je (B9 gt ft fe ds (Bz μ ρ)) else .bad) with
 |bad=>exact fun h=>h
 |ex y=>exact fun h H' s=>h H' P (E.tr s)
 |ok d=>exact fun h v H' s hv=>h _ H' P (E.tr s) ((E.same s).VO hv)
end
end L2
namespace L2
open PySem PySem.Spec PyProof.Rows
section
variable {X:Cx}{WX:Str->Hp->Prop}{c:Bool}{P0:EA}{P:Addr->Prop}{H:Hp}{σ:St}{ρ:Ab}{a b e k:Expr}{f g:Ab->M D}{te tk:TE}{pos p2:Pos}
noncomputable def wD (x y:D):M D:=match x,y with | .lst ds,.int i=>if i = -1 then .ok (.lst ds.reverse) else .bad | _,_=>.bad
noncomputable def CG:List D->Option (List Int)
 |[]=>some []
 | .int i::r=>(CG r).map (i::·)
 |_=>none
noncomputable def XI:D->Option (List Int)
 | .tup ds=>CG ds
 |_=>none
noncomputable def GC:List D->Option (List (D×List Int))
 |[]=>some []
 |d::r=>(XI d).bind fun k=>(GC r).map ((d,k)::·)
noncomputable def Uy (l d:D):M D:=match l with
 | .lst ds=>(match GC ds with|some ks=>.ok (match AX ks with|none=>d|some b=>b.1)|none=>.bad)
 |_=>.bad
theorem Kx {K:za}{H:Hp}:∀ {xs:List V}{ds:List D}{ns:List Int},Ag K H xs ds->CG ds=some ns->xs=ns.map V.int
 |_,_,_,.nil,e=>by simp only[CG] at e;cases e;rfl
 |_,_,_,.cons (d:=d) h t,e=>by
  cases d with
  |int i =>
   simp only[CG] at e
   cases q:CG _ with
   |none=>rw[q] at e;cases e
   |some ns =>
    rw[q] at e
    cases e
    rw[h.int_inv,Kx t q];rfl
  |_=>simp[CG] at e
noncomputable abbrev Alike (K:za) (H:Hp):List (Addr×List Int)->List (D×List Int)->Prop:=Paired fun p q=>p.2=q.2/\BK K H (.ref p.1) q.1
theorem IE {K:za}{H:Hp}:∀ {xs:List V}{ds:List D}{ks:List (D×List Int)},Ag K H xs ds->GC ds=some ks->∃ bs:List (Addr×List Int),xs=bs.map (fun b=>V.ref b.1)/\(∀ b∈bs,Fs K H b.1 (b.2.map V.int))/\Alike K H bs ks
 |_,_,_,.nil,e=>by simp only[GC] at e;cases e;exact⟨[],rfl,by simp,.nil⟩
 |_,_,_,.cons (d:=d) h t,e=>by
  simp only[GC] at e
  cases q:XI d with
  |none=>rw[q] at e;cases e
  |some k =>
   rw[q] at e
   simp only[Option.bind_some] at e
   cases q2:GC _ with
   |none=>rw[q2] at e;cases e
   |some ks =>
    rw[q2] at e
    cases e
    obtain⟨bs,h1,h2,h3⟩:=IE t q2
    cases d with
    |tup es =>
     have h':=h
     cases h with
     | @tup a xs _ hs hl =>
      simp only[XI] at q
      have e1:=Kx hl q
      subst e1
      refine⟨(a,k)::bs,by rw[h1];rfl,fun b hb=>?_,.cons ⟨rfl,h'⟩ h3⟩
      rcases zu.mp hb with z|z
      ·subst z;exact Fs.of hs
      ·exact h2 b z
    |_=>simp[XI] at q
theorem MG {K:za}{H:Hp}{bs:List (Addr×List Int)}{ks:List (D×List Int)}(h:Alike K H bs ks):(AX bs=none/\AX ks=none)\/∃ b k,AX bs=some b/\AX ks=some k/\b.2=k.2/\BK K H (.ref b.1) k.1:=by
 unfold AX
 suffices z:∀(o:Option (Addr×List Int)) (o':Option (D×List Int)),((o=none/\o'=none)\/∃ b k,o=some b/\o'=some k/\b.2=k.2/\BK K H (.ref b.1) k.1)->
  ((bs.foldl BJ o=none/\ks.foldl BJ o'=none) \/
   ∃ b k,bs.foldl BJ o=some b/\ks.foldl BJ o'=some k/\b.2=k.2/\BK K H (.ref b.1) k.1) from z none none (.inl ⟨rfl,rfl⟩)
 induction h with
 |nil=>intro o o' h;exact h
 | @cons b k bs ks hh t ih =>
  intro o o' h
  rw[zV,zV]
  refine ih _ _ ?_
  rcases h with ⟨rfl,rfl⟩|⟨b',k',rfl,rfl,e1,e2⟩
  ·exact .inr ⟨b,k,rfl,rfl,hh⟩
  ·unfold BJ
   dsimp only
   rw[hh.1,e1]
   by_cases hl:HT.lexLt k.2 k'.2=true
   ·rw[if_pos hl,if_pos hl];exact .inr ⟨b,k,rfl,rfl,hh⟩
   ·rw[if_neg hl,if_neg hl];exact .inr ⟨b',k',rfl,rfl,e1,e2⟩
theorem Uz {p kp:Pos}{e2:Expr}(hc:X.calm=true) (hu:X.A.units + 1 < cLine) (hg:Gl X "min") (hm:X.mg "min" = none) (ha:DE X WX c e f) (hb:DE X WX c e2 g)
 (aY:starEach [e] X.env=[(false,eval e X.env)]:=by rfl) (aF:(backToKw pos (keywordEach [⟨some "default",e2,kp⟩] X.env)).all (·.1.isSome)=true:=by rfl) (nu:(backToKw pos (keywordEach [⟨some "default",e2,kp⟩] X.env)).filterMap (·.1)=([("default" : Str)]:List Str):=by rfl)
 (nv:(backToKw pos (keywordEach [⟨some "default",e2,kp⟩] X.env)).any (·.1.isNone)=false:=by rfl) (bY:backTo pos (starEach [e] X.env)=(false,eval e X.env)::backTo pos (starEach [] X.env):=by rfl) (a6:(backTo pos (starEach [e] X.env)).any (·.1)=false:=by rfl) :
 DE X WX c (.Call (.Name "min" p) [e] [⟨some "default",e2,kp⟩] pos) (fun ρ=>(f ρ).bind fun x=>(g ρ).bind fun y=>Uy x y):=by
 obtain⟨ta,a1,a2⟩:=ha
 obtain⟨tb,b1,b2⟩:=hb
 refine⟨_,ZY hc hu hg hm a1 b1 aY aF nu nv bY a6,fun P0 P σ H Q ρ E h=>R9 (r:=fun x d H2 Q=>∃(a:Addr) (bs:List (Addr×List Int)),x=.ref a/\Dr X.K H2 a (bs.map fun b=>V.ref b.1)/\(∀ b∈bs,Fs X.K H2 b.1 (b.2.map V.int))/\Q (match AX bs with|none=>d|some b=>.ref b.1) H2) a2 b2 ?_ E h⟩
 intro P H x y v w Q ht hx hy h
 unfold Uy at h
 split at h
 ·rename_i ds
  split at h
  ·rename_i ks e1
   cases hx with
   | @lst a xs _ hs hl =>
    obtain⟨bs,rfl,h2,h3⟩:=IE hl e1
    refine⟨a,bs,rfl,hs.Bo,fun b hb=>(h2 b hb).Bo,?_⟩
    rcases MG h3 with ⟨q1,q2⟩|⟨b,k,q1,q2,_,q3⟩
    ·rw[q1]
     rw[q2] at h
     exact h _ H (Ad.refl H) hy
    ·rw[q1]
     rw[q2] at h
     exact h _ H (Ad.refl H) q3
  ·exact h.elim
 ·exact h.elim
end
end L2
namespace L2
open PySem PySem.Spec PyProof.Rows
theorem AR {A:Around}{k:Nat}(hr:BH k A) (n:Nat) (hn:n<=64):A.units + n < cLine:=by have:=hr.units;omega
structure Ai (K:za) (mg:Str->Option Value) (x:Str) (st:Stmt) (ps:List Str):Prop where
 ex:∃ f fd,WL K x x st f fd/\mg x=some (.ref f)/\Binds K fd ps []
end L2
namespace L2
open PySem PySem.Spec PyProof.Rows
theorem BD.there {P:Program}{w:World}{H:Hp}{h:Heap}{a:Addr}{o:HO}(x:BD P w H h a o):∃ ob,h.get? a=some ob:=by
 cases o with
 |lst xs=>obtain⟨_,_,_,_,e⟩:=x;exact⟨_,e⟩
 |tup xs=>obtain⟨_,_,_,o,e,_⟩:=x;exact⟨o,e⟩
 |dK kvs=>obtain⟨_,_,_,_,o,_,_,e,_⟩:=x;exact⟨_,e⟩
 |dT kvs=>obtain⟨_,_,_,_,o,_,_,e,_⟩:=x;exact⟨_,e⟩
 |set S n=>obtain⟨o,_,_,_,e,_⟩:=x;exact⟨_,e⟩
 |ins C dx fs=>obtain⟨_,_,_,e,_⟩:=x;exact⟨_,e⟩
 |own y=>obtain⟨_,e⟩:=x;exact⟨_,e⟩
 |xd fs=>obtain⟨_,⟨_,_,_,e,_⟩,_⟩:=x;exact⟨_,e⟩
 |qZ lo hi=>obtain⟨_,_,_,e⟩:=x;exact⟨_,e⟩
 |Vs ob u=>obtain⟨e,_⟩:=x;exact⟨_,e⟩
 |gL ps=>exact⟨_,(show h.get? a=some _ from x)⟩
 |met f y=>exact⟨_,(show h.get? a=some _ from x)⟩
 |ext φ=>obtain⟨_,⟨_,e⟩,_⟩:=x;exact⟨_,e⟩
theorem Fq.gone {P:Program}{w:World}{H:Hp}{h:Heap}{a:Addr}(x:Fq P w H h) (e:h.get? a=none):H a=none:=by
 cases q:H a with
 |none=>rfl
 |some o=>obtain⟨ob,z⟩:=(x a o q).there;rw[e] at z;cases z
structure kT (base g:Heap) (H:Hp) (l:List Env) (ea c:Addr) (h:Heap):Prop where
 yA:∃ a0,Heap.FlyingW base l ea (.ref c) a0 h
 new:g.get? ea=none
 un:H ea=none
 tr:∀ oe vs T,h.get? ea=some oe->oe.data=.fields vs->vs[1]? =some (.ref T)->H T=none/\g.get? T=none
noncomputable def Tf (P:Program) (w:World) (base:Heap):Ud:=fun outer H s E ev s'=>∃(ea c:Addr) (H':Hp),ev=.ref ea/\s'.os=s.os/\AllBare s'.gens/\Un (L4 outer) [] H H' s.heap s'.heap/\Fq P w H' s'.heap/\kT base s.heap H' outer ea c s'.heap/\E (.ref c) none H'
section
variable {P:Program}{w:World}{K:za}{mg:Str->Option Value}{base:Heap}{N:List Str}{qual:Str}{scope:Scope}{f:Addr}{cd:Value}{A:Around}{outer:List Env}{s:Shared}{H:Hp}{E:XK}
noncomputable abbrev UA (P:Program) (w:World) (K:za) (mg:Str->Option Value) (base:Heap) (N:List Str) (qual:Str) (scope:Scope) (f:Addr) (cd:Value) (A:Around) (outer:List Env) (s:Shared) (H:Hp) (E:XK):Cx :=
 Lr (Tf P w base) P w K mg base N qual scope f cd A outer s H E
theorem hZ {pins:List (Addr×Obj)}{σ:St}{H1:Hp}{s1:Shared}{h' B:Heap}{ea c:Addr}{a0:Value}{hid:List Addr}(J:Inv (UA P w K mg base N qual scope f cd A outer s H E) pins σ H1 s1)
 (hB:∀ b o,s1.heap.get? b=some o->b∉L4 (envOfC qual scope s.heap.objs.size f cd::outer)->b∉hid->(H1 b≠none\/∃ o',s.heap.get? b=some o')->B.get? b=some o) (wr:base.StaysIn B)
 (hh:∀ b∈hid,H1 b=none/\s.heap.get? b=none) (hT:∀ b,B.get? b=none->b∉L4 (envOfC qual scope s.heap.objs.size f cd::outer)->H1 b=none/\s.heap.get? b=none)
 (wt:s.heap.get? ea=none) (n5:H1 ea=none) (F:Heap.FlyingW B outer ea (.ref c) a0 h') (cJ:s1.heap.UpToSlots h') (q:E (.ref c) none H1) :
 Tf P w base outer H s E (.ref ea) { s1 with heap:=h' }:=by
 have n6:∀ b∈L4 outer,∃ o,s1.heap.get? b=some o/\∀ vs,o.data≠.fields vs:=fun b hb=>(J.J0.mem hb).2
 have jk:∀ b o,s.heap.get? b=some o->b≠s.heap.objs.size:=fun b o e=>zG (zx e)
 have gM:∀ b,b∈L4 (envOfC qual scope s.heap.objs.size f cd::outer)->b=s.heap.objs.size\/b∈L4 outer:=fun b hb=>by
  have aE:b∈s.heap.objs.size::L4 outer:=hb
  exact zu.mp aE
 have U:Un (L4 outer) [] H H1 s.heap s1.heap:=J.base
 have c7:∀ b o,s.heap.get? b=some o->b∉hid:=fun b o e hb=>by rw[(hh b hb).2] at e;cases e
 have jl:∀ b o,H1 b≠none->s1.heap.get? b=some o->h'.get? b=some o:=fun b o hn e=>by
  refine F.1 b o (hB b o e (fun hb=>?_) (fun hb=>hn (hh b hb).1) (.inl hn))
  exact hn (J.Pm b hb)
 refine⟨ea,c,H1,rfl,J.os,J.bare,⟨fun b o e n hb hx=>?_,fun b o e n hb hx=>?_,U.free,fun b o e hx=>?_,U.NS,U.Ml,U.NT⟩,fun b ob e=>?_,⟨⟨a0,?_⟩,wt,n5,fun oe vs T h1 h2 h3=>?_⟩,q⟩
 ·refine F.1 b o (hB b o (U.keep b o e n hb hx) (fun z=>?_) (c7 b o e) (.inr ⟨o,e⟩))
  rcases gM b z with z|z
  ·exact jk b o e z
  ·exact hb z
 ·obtain⟨sl,e1⟩:=U.slot b o e n hb hx
  obtain⟨o2,e2,nf⟩:=n6 b hb
  rw[e1] at e2
  obtain⟨lb,e3⟩:=cJ b _ e1 (by cases e2;exact nf)
  exact⟨lb,e3⟩
 ·obtain⟨o',e1⟩:=U.there b o e hx
  by_cases hb:b∈L4 outer
  ·obtain⟨o2,e2,nf⟩:=n6 b hb
   obtain⟨lb,e3⟩:=cJ b _ e2 nf
   exact⟨_,e3⟩
  ·refine⟨o',F.1 b o' (hB b o' e1 (fun z=>?_) (c7 b o e) (.inr ⟨o,e⟩))⟩
   rcases gM b z with z|z
   ·exact jk b o e z
   ·exact hb z
 ·refine (J.Av b ob e).Pj (fun x v hx q=>jl x v ?_ q) (fun _ q=>q) fun _ _ q=>q
  rcases hx with rfl|hx
  ·rw[e];intro z;cases z
  ·rw[hx];intro z;cases z
 ·exact PySem.W.flyingW_base wr F
 ·obtain⟨_,_,ff,y3,bf,T',oT,ts,k1,k2,k3,k4,k5,k6,k7,k8,k9⟩:=F
  rw[show ({ s1 with heap:=h' }:Shared).heap.get? ea=h'.get? ea from rfl,k1] at h1
  cases h1
  rw[k3] at h2
  cases h2
  rw[k4] at h3
  cases h3
  refine hT T k5 fun hb=>?_
  rcases gM T hb with z|z
  ·obtain⟨m,⟨oL,es,ep,ml,n9,_⟩,_⟩:=J.loc
   obtain⟨sl,e3⟩:=cJ s.heap.objs.size oL ml fun vs zz=>by rw[n9] at zz;cases zz
   rw[<-z,k7] at e3
   cases e3
   rw[show oL.data=_ from k8] at n9
   cases n9
  ·obtain⟨o2,e2,nf⟩:=n6 T z
   obtain⟨sl,e3⟩:=cJ T o2 e2 nf
   rw[k7] at e3
   cases e3
   exact nf ts k8
theorem XJ {l:List Env}:∀ env∈l,∀ a,env.frame=some a->a∈L4 l:=fun env he a ha=>List.mem_filterMap.mpr ⟨env,he,ha⟩
theorem cX {pins:List (Addr×Obj)}{σ:St}{H1:Hp}{s2:Shared}{h1:Heap}{ea C:Addr}{vs:List Value}(J:Inv (UA P w K mg base N qual scope f cd A outer s H E) pins σ H1 s2) (hx:Heap.MadeExcOf s2.heap h1 ea (.ref C) vs) (q:E (.ref C) none H1) :
 (UA P w K mg base N qual scope f cd A outer s H E).xe (.ref ea) { s2 with heap:=h1 }:=by
 have J1:Inv (UA P w K mg base N qual scope f cd A outer s H E) pins σ H1 { s2 with heap:=h1 }:=J.kept (t':=s2.toks) hx.keeps
 have fr:=J.stack
 have f8:=XJ (l:=envOfC qual scope s.heap.objs.size f cd::outer)
 refine wpAny_leaves_madeW (base:=PySem.W.hideAll s2.heap (L4 (envOfC qual scope s.heap.objs.size f cd::outer))) (outer:=outer) (L:=s.heap.objs.size) J.ok.frames rfl (fun b o e=>PySem.W.of_hideAll _ e) (PySem.W.funFrames_hide fr f8) hx fun h' t F ht y4 cJ=>?_
 have c8:∀ b,s2.heap.get? b=none->H1 b=none/\s.heap.get? b=none:=fun b e=>by
  refine⟨J.Av.gone e,?_⟩
  cases q:s.heap.get? b with
  |none=>rfl
  |some o=>obtain⟨o',z⟩:=J.base.there b o q (by simp[Lr]);rw[e] at z;cases z
 refine hZ (B:=PySem.W.hideAll s2.heap (L4 (envOfC qual scope s.heap.objs.size f cd::outer))) (hid:=[]) J1 (fun b o e hb _ wu=>?_) (fun b o e=>?_) (fun b z=>by cases z) (fun b e hb=>?_) (c8 ea hx.new).2 (c8 ea hx.new).1 F cJ q
 ·have li:∃ o2,s2.heap.get? b=some o2:=by
   rcases wu with z|⟨o',z⟩
   ·cases q2:H1 b with
    |none=>exact absurd q2 z
    |some u=>exact (J.Av b u q2).there
   ·exact J.base.there b o' z (by simp[Lr])
  obtain⟨o2,e2⟩:=li
  have e3:=hx.keeps b o2 e2
  rw[show ({ s2 with heap:=h1 }:Shared).heap.get? b=h1.get? b from rfl,e3] at e
  cases e
  exact zae _ e2 hb
 ·refine zae _ (J.bk b o e) fun hb=>?_
  have z:base.get? b=none:=(fr.mem hb).1
  rw[show base.get? b=some o from e] at z;cases z
 ·refine c8 b ?_
  cases q2:s2.heap.get? b with
  |none=>rfl
  |some o=>rw[zae _ q2 hb] at e;cases e
theorem cY:Gv (Tf P w base) (UA P w K mg base N qual scope f cd A outer s H E) E:=by
 intro pins σ H0 s0 ev s1 I h
 obtain⟨ea,c,H1,rfl,wv,ww,U,Av,⟨⟨a0,F⟩,bc,uT,wx⟩,q⟩:=h
 have J:Inv (UA P w K mg base N qual scope f cd A outer s H E) pins σ H1 s1:=I.gN (ch:=[]) wv U Av ww fun b hb=>by cases hb
 obtain⟨f1,f2,f3,oe,vs,T,oT,ts,k1,k2,k3,k4,k5,k6,k7,k8,k9⟩:=F
 have hT:=wx oe vs T k1 k3 k4
 have fr:=J.stack
 have entry:∀ b,s0.heap.get? b=none->s.heap.get? b=none:=fun b e=>by
  cases q:s.heap.get? b with
  |none=>rfl
  |some o=>obtain⟨o',z⟩:=I.base.there b o q (by simp[Lr]);rw[e] at z;cases z
 have f8:∀ env∈(envOfC qual scope s.heap.objs.size f cd::outer),∀ a,env.frame=some a->a∈L4 (envOfC qual scope s.heap.objs.size f cd::outer)++[ea,T]:=fun env he a ha=>zO _ (XJ env he a ha)
 have FB:Heap.FlyingW (PySem.W.hideAll s1.heap (L4 (envOfC qual scope s.heap.objs.size f cd::outer)++[ea,T])) (envOfC qual scope s.heap.objs.size f cd::outer) ea (.ref c) a0 s1.heap :=
  ⟨fun b o e=>PySem.W.of_hideAll _ e,PySem.W.hideAll_none _ (by simp),PySem.W.funFrames_hide fr f8,oe,vs,T,oT,ts,k1,k2,k3,k4,PySem.W.hideAll_none _ (by simp),k6,k7,k8,k9⟩
 refine wpAny_leaves_onW (outer:=outer) (L:=s.heap.objs.size) J.ok.frames rfl FB fun h' F' cJ=>?_
 have jm:∀ b,s1.heap.get? b=none->H1 b=none/\s.heap.get? b=none:=fun b e=>by
  refine⟨J.Av.gone e,?_⟩
  cases q:s.heap.get? b with
  |none=>rfl
  |some o=>obtain⟨o',z⟩:=J.base.there b o q (by simp[Lr]);rw[e] at z;cases z
 have hid:∀ b∈[ea,T],H1 b=none/\s.heap.get? b=none:=fun b hb=>by
  rcases zu.mp hb with z|z
  ·rw[z];exact⟨uT,entry ea bc⟩
  ·rw[zh.mp z];exact⟨hT.1,entry T hT.2⟩
 refine hZ (hid:=[ea,T]) J (fun b o e hb ls _=>zae _ e fun z=>(zy.mp z).elim hb ls) (fun b o e=>?_) hid (fun b e hb=>?_) (entry ea bc) uT F' cJ q
 ·refine zae _ (J.bk b o e) fun hb=>?_
  rcases zy.mp hb with hb|hb
  ·have z:base.get? b=none:=(fr.mem hb).1
   rw[show base.get? b=some o from e] at z;cases z
  ·rcases zu.mp hb with z|z
   ·rw[z] at e;rw[show base.get? ea=some o from e] at f2;cases f2
   ·rw[zh.mp z] at e;rw[show base.get? T=some o from e] at k5;cases k5
 ·by_cases ls:b∈[ea,T]
  ·exact hid b ls
  ·refine jm b ?_
   cases q2:s1.heap.get? b with
   |none=>rfl
   |some o=>rw[zae _ q2 fun z=>(zy.mp z).elim hb ls] at e;cases e
end
end L2
namespace L2
open PySem PySem.Spec PyProof.Rows
structure XCall (X:Cx) (E:XK):Prop where
 call:Gv (Tf X.prog X.w X.base) X E
 own:PassesOwn (model X.prog X.w) X.A X.env X.xe
structure rH (X:Cx) (E:XK):Prop extends XCall X E where
 made:∀ pins σ H s h' ea C vs,Inv X pins σ H s->Heap.MadeExcOf s.heap h' ea (.ref C) vs->E (.ref C) none H->X.xe (.ref ea) { s with heap:=h' }
theorem A9 {P:Program}{w:World}{K:za}{mg:Str->Option Value}{base:Heap}{N:List Str}{qual:Str}{scope:Scope}{f:Addr}{cd:Value}{A:Around}{outer:List Env}{s:Shared}{H:Hp}{E:XK} :
 rH (UA P w K mg base N qual scope f cd A outer s H E) E:=⟨⟨cY,PassesOwn.leaving⟩,fun _ _ _ _ _ _ _ _ J hx q=>cX J hx q⟩
theorem Bg {X:Cx}(h:X.xe=fun _ _=>False):rH X E0:=⟨⟨fun _ _ _ _ _ _ _ h=>by obtain⟨_,_,_,_,_,_,_,_,_,q⟩:=h;exact q.elim,by rw[h];exact PassesOwn.never⟩,fun _ _ _ _ _ _ _ _ _ _ q=>q.elim⟩
noncomputable def D5 (K:za) (E:XK):Str->Hp->Prop:=fun x H=>∃ c,zd K mainGlobals x=some (some (.ref c))/\E (.ref c) none H
section
variable {X:Cx}{E:XK}{WX:Str->Hp->Prop}{c:Bool}{e:Expr}{es:List Expr}{fs:Ab->M (List D)}{f:Ab->M D}{ft:Ab->M Bool}{pos:Pos}
theorem cZ {K:za}{h₀:Heap}{C:Addr}{uU:List Value}{newId:String}(X:K.In h₀) (q:zag K C uU newId=true) :
 ∃ bm N nm q bs hdct sn sub ab col dd k0 k1 k2 k3 k5 mN,h₀.get? C=some (excClassObj nm q C N bs bm hdct sn sub ab col dd k0 k1 k2 k3 k5 newId)/\h₀.Ns N mN/\mN "__init__" = none/\OwnTail h₀ uU bm:=by
 unfold zag at q
 split at q
 ·rename_i dd cd sl ho
  split at q
  ·rename_i C' bm k0 k1 k2 k3 n k5 hm hs
   simp only[zS,beq_iff_eq,Bool.not_eq_true'] at q
   obtain⟨⟨⟨⟨⟨rfl,rfl⟩,jn⟩,ht⟩,Av⟩,lu⟩:=q
   obtain⟨nm,bs,mro,ns,qn,hd,sn,sub,ab,col,del⟩:=cd
   dsimp only at hm jn Av lu
   subst hm jn
   have cJ:sl=#[k0,k1,k2,k3,some (.builtin n),k5]:=by
    obtain⟨l⟩:=sl
    simp only at hs
    rw[hs]
   subst cJ
   exact⟨bm,ns,nm,qn,bs,hd,sn,sub,ab,col,dd,k0,k1,k2,k3,k5,_,X _ _ ho,.of_isNs (PySem.W.isNs_of_in X Av),PySem.W.nsMap_none_of_in X Av lu,PySem.W.tail_of_in X ht⟩
  ·cases q
 ·cases q
theorem XM {x:Str}{np ac:Pos}{C:Addr}{B newId f9:String}{bm:List Value}(xo:rH X E) (hc:X.calm=true) (FB:ExcBaseFacts B newId f9 bm) (i7:zd X.K mainGlobals x=some (some (.ref C))) (hq:zag X.K C bm newId=true) (hg:Gl X x) (hm:X.mg x=some (.ref C))
 (ha:DE X (D5 X.K E) c e f) (aU:(x == ("__debug__" : Str))=false:=by decide) (he:starEach [e] X.env=[(false,eval e X.env)]:=by rfl) (ar:(backTo ac (starEach [e] X.env)).any (·.1)=false:=by rfl) :
 DS X (D5 X.K E) (.Raise (some (.Call (.Name x np) [e] [] ac)) none pos) (fun ρ=>(f ρ).bind fun _=>.ex x):=by
 obtain⟨ta,a1,a2⟩:=ha
 refine⟨fun Z σ H=>ta σ H fun y H1=>(([y]:List V).length=1/\E (.ref C) none H1),?_,fun P0 P σ H Z ρ E h=>?_⟩
 ·intro pins s σ H D I h
  obtain⟨tl,N,nm,q,bs,hdct,sn,sub,ab,col,dd,k0,k1,k2,k3,k5,mN,hC,hN,lu,T⟩:=cZ I.mod.WJ hq
  refine wpAny_Raise_call_subT (C:=C) (nm:=nm) (q:=q) (N:=N) (bs:=bs) (bm:=tl) (hdct:=hdct) (sn:=sn) (sub:=sub) (ab:=ab) (col:=col) (dd:=dd) (k0:=k0) (k1:=k1) (k2:=k2) (k3:=k3) (k5:=k5)
   FB (mN:=mN) (T.hasType FB.hasBase) (I.ok.hd hc) ar lu (Pn I hg hm ⟨rfl,?_⟩ aU)
  rw[he]
  have pa:=(Bh a1 Cj he) ac pins s σ H (fun vs H1=>vs.length=1/\E (.ref C) none H1) I ?_
  ·rw[he] at pa
   refine Calls.evalArgs_plain (Be pa fun vs s2 ⟨xs,H2,I2,r2,q2⟩=>⟨rfl,?_,I2.bk _ _ hC,hN.keeps I2.bk,T.keeps I2.bk,fun h' ea hx=>xo.made pins σ H2 s2 h' ea C _ I2 hx q2.2⟩)
   rw[<-r2.length,q2.1]
   exact yV (AH (by decide))
  ·exact h
 ·dsimp only at h
  refine a2 P0 P σ H _ ρ E ?_
  cases q:f ρ with
  |bad=>rw[q] at h;exact h
  |ex x=>rw[q] at h;exact fun H' s=>h H' P (E.tr s)
  |ok d =>
   rw[q] at h
   intro v H1 s1 hv
   obtain⟨c',h1,h2⟩:=h H1 P (E.tr s1)
   rw[i7] at h1
   cases h1
   exact⟨rfl,h2⟩
end
end L2
namespace L2
open PySem PySem.Spec PyProof.Rows
section
variable {X:Cx}{WX:Str->Hp->Prop}{c:Bool}{a b e:Expr}{f g:Ab->M D}{pos p:Pos}
noncomputable def iA (K:za):R2:=fun x y H Q=>∃ l b xs zs,x=.ref l/\y=.ref b/\Dr K H l xs/\Dr K H b zs/\xs.length + zs.length<=sizeLine/\∀ p,H p=none->Q (.ref p) (upd H p (.lst (xs++zs)))
theorem dA:Gs X (binaryOp .Add) (iA X.K):=by
 intro pins s σ H x y v u Q I rx ry h
 obtain⟨l,b,xs,zs,rfl,rfl,h1,h2,hz,q⟩:=h
 cases rx
 cases ry
 obtain⟨aa,r,⟨⟨c1,d1,t1,wy⟩,n,e1,q1,q2,q3⟩,bB⟩:=I.list h1
 obtain⟨ba,r2,⟨⟨c2,d2,t2,iz⟩,n2,e2,q4,q5,q6⟩,og⟩:=I.list h2
 dsimp only at q1 q2 q3 q4 q5 q6
 subst q1 q2 q3 q4 q5 q6
 have l1:=r.length
 have l2:=r2.length
 refine concat_meets ⟨_,e1,rfl⟩ ⟨_,e2,rfl⟩ noFill_list_add seq_list_add PySem.F.slot_list_add PySem.F.entry_list_add (PySem.F.args_list_add_2 _ _) (list_addW l b aa.toArray ba.toArray n n2 none none wy iz (by rw[zi,zi];omega)) ⟨e1,e2,?_⟩
 rw[show aa.toArray++ba.toArray=(aa++ba).toArray by simp]
 exact⟨.ref _,_,I.pA (t':=s.toks) (r.append r2) (by rw[zL];omega),rfl,q _ I.fresh⟩
noncomputable def uV (x y:D):M D:=match x,y with
 | .int i,.int j=>.ok (.int (i + j))
 | .lst ds,.lst es=>if ds.length + es.length<=1000 then .ok (.lst (ds++es)) else .bad
 |_,_=>.bad
theorem Ag.uW {K:za}{H:Hp}:∀ {xs ys:List V}{ds es:List D},Ag K H xs ds->Ag K H ys es->Ag K H (xs++ys) (ds++es)
 |_,_,_,_,.nil,h=>h
 |_,_,_,_,.cons a t,h=>.cons a (t.uW h)
noncomputable def rJ (neg:Bool) (x y:D):M D:=match x,y with
 | .int i,.lst ds=>(match CG ds with|some ns=>.ok (.bl (if neg then !ns.contains i else ns.contains i))|none=>.bad)
 |_,_=>.bad
theorem XN (i:Int) (ns:List Int):rD (.int i) (ns.map V.int)=ns.contains i:=by
 unfold rD
 induction ns with
 |nil=>rfl
 |cons n r ih =>
  rw[zg,zb7,ih,List.contains_cons]
  congr 1
  show (n == i)=(i == n)
  rw[zar,beq_iff_eq,beq_iff_eq]
  exact eq_comm
theorem VR (ns:List Int):(ns.map V.int).all J4=true:=by
 induction ns with
 |nil=>rfl
 |cons n r ih=>rw[zg,List.all_cons,ih];rfl
theorem GD {neg:Bool}:Ur X.K WX (rE X.K neg) (rJ neg):=by
 intro P H x y v w Q ht hx hy h
 unfold rJ at h
 split at h
 ·rename_i i ds
  split at h
  ·rename_i ns hn
   cases hx
   cases hy with
   |lst h1 h2 =>
    have e:=Kx h2 hn
    subst e
    refine⟨_,_,rfl,.inl h1.Bo,rfl,VR ns,?_⟩
    rw[XN]
    exact h _ H (Ad.refl H) (.bl _)
  ·exact h.elim
 ·exact h.elim
end
structure ClsAt (K:za) (mg:Str->Option Value) (x:Str):Prop where
 ex:∃ C,zd K mainGlobals x=some (some (.ref C))/\mg x=some (.ref C)/\zag K C [.type "ValueError",.type "Exception",.type "BaseException",.type "object"] "ValueError.__new__" = true
noncomputable def one (x:Str) (b:Bool):Str->Option Bool:=fun y=>if y=x then some b else none
section
variable {X:Cx}{E:XK}{WX:Str->Hp->Prop}{c:Bool}{e:Expr}{f:Ab->M D}{pos p:Pos}
theorem Ky {x:Str}{np ac:Pos}(T:ClsAt X.K X.mg x) (xo:rH X E) (hc:X.calm=true) (hg:Gl X x) (ha:DE X (D5 X.K E) c e f) (aU:(x == ("__debug__" : Str))=false:=by decide) (he:starEach [e] X.env=[(false,eval e X.env)]:=by rfl) (ar:(backTo ac (starEach [e] X.env)).any (·.1)=false:=by rfl) :
 DS X (D5 X.K E) (.Raise (some (.Call (.Name x np) [e] [] ac)) none pos) (fun ρ=>(f ρ).bind fun _=>.ex x):=by
 obtain⟨C,h1,h2,h3⟩:=T.ex
 exact XM xo hc PySem.F.excBase_ValueError h1 h3 hg h2 ha aU he ar
end
end L2
namespace L2
open PySem PySem.Spec PyProof.Rows
noncomputable def Rf (i j:Int):Prop:=(i.natAbs < 2 ^ 1000/\j.natAbs < 2 ^ 1000)\/X8 i j
instance (i j:Int):Decidable (Rf i j):=by unfold Rf;infer_instance
theorem OG {i:Int}(h:i.natAbs < 2 ^ 1000):zX i<=2 ^ 20:=by
 unfold zX
 split
 ·exact zW _
 ·rename_i z
  have h0:i.natAbs≠0:=fun q=>z (by rw[Int.natAbs_eq_zero.mp q];rfl)
  have:=(Nat.log2_lt h0).mpr h
  have h3:(1000:Nat)<=2 ^ 20:=by decide
  exact yU this h3
theorem Rf.ok {i j:Int}(h:Rf i j):IntMulOk i j:=by
 rcases h with ⟨h1,h2⟩|h
 ·exact IntMulOk.of_bits (OG h1) (OG h2)
 ·exact h.ok
theorem Jf {gt:D->Ab->M Ab}{ft:Ab->M Bool}{fe:Ab->M D}{ρ:Ab}(p:D->Bool) (f:D->D):∀(ds:List D),(∀ d∈ds,∃ ρ1,gt d ρ=.ok ρ1/\ft ρ1=.ok (p d)/\(p d=true->fe ρ1=.ok (f d)))->B9 gt ft fe ds ρ=.ok ((ds.filter p).map f)
 |[],_=>rfl
 |d::r,h=>by
  obtain⟨ρ1,h1,h2,h3⟩:=h d ze
  have ih:=Jf p f r fun d hd=>h d (zf _ hd)
  rw[B9,h1]
  dsimp only
  rw[h2]
  dsimp only
  by_cases hp:p d=true
  ·rw[if_pos hp,h3 hp]
   dsimp only
   rw[ih,List.filter_cons_of_pos hp]
   rfl
  ·rw[if_neg hp,ih,List.filter_cons_of_neg hp]
theorem MH (n:Nat):Cm 0 n=(za3 n).map fun i:Nat=>D.int (i:Int):=by
 apply List.ext_getElem?
 intro i
 rw[zH]
 by_cases h:i < n
 ·have hi:i < (Cm 0 n).length:=by rw[Bf];exact h
  have e:=zt hi
  obtain⟨h1,_⟩:=BM e
  rw[e,h1,List.getElem?_range h,Int.zero_add]
  rfl
 ·rw[zaj (by rw[Bf];omega),zaj (by simp;omega)]
  rfl
theorem DR (ns:List Int):CG (ns.map D.int)=some ns:=by
 induction ns with
 |nil=>rfl
 |cons n r ih=>rw[zg,CG,ih];rfl
theorem XO (ds:List D) (n:Nat):nI (some (n:Int)) none (.lst ds)=.ok (.lst (ds.drop n)):=by
 unfold nI
 dsimp only
 rw[HT.Xh,HT.Pr]
 congr 2
 by_cases h:n<=ds.length
 ·rw[Nat.min_eq_left h,List.take_of_length_le (by rw[zbf];exact zB _)]
 ·rw[Nat.min_eq_right (by omega),List.drop_of_length_le (zB _),List.drop_of_length_le (by omega),List.take_nil]
end L2
namespace L2
open PySem PySem.Spec PyProof.Rows
noncomputable def Pl (n:Nat) (d:D):Prop:=IY d<=n/\AJ d=true
theorem PH {n:Nat}:∀ {ds:List D},(∀ d∈ds,IY d<=n)->Lw ds<=n
 |[],_=>by rw[Lw];exact zW _
 |d::r,h=>by
  rw[Lw]
  exact Nat.max_le.mpr ⟨h d ze,PH fun d hd=>h d (zf _ hd)⟩
theorem PJ:∀ {ds:List D},(∀ d∈ds,AJ d=true)->MA ds=true
 |[],_=>by rw[MA]
 |d::r,h=>by
  rw[MA,h d ze,PJ fun d hd=>h d (zf _ hd)]
  rfl
theorem IF {n:Nat}(i:Int):Pl n (.int i):=⟨by rw[IY];exact zW _;all_goals simp,by rw[AJ];all_goals simp⟩
theorem kU {n:Nat}:Pl n .AA:=⟨by rw[IY];exact zW _;all_goals simp,by rw[AJ];all_goals simp⟩
theorem kW {n:Nat}{ds:List D}(h:∀ d∈ds,Pl n d):Pl (n + 1) (.tup ds) :=
 ⟨by rw[IY];exact Nat.succ_le_succ (PH fun d hd=>(h d hd).1),by rw[AJ];exact PJ fun d hd=>(h d hd).2⟩
theorem XQ {n:Nat}{ds:List D}(h:∀ d∈ds,Pl n d):Pl (n + 1) (.lst ds) :=
 ⟨by rw[IY];exact Nat.succ_le_succ (PH fun d hd=>(h d hd).1),by rw[AJ];exact PJ fun d hd=>(h d hd).2⟩
theorem UB {n:Nat}(ns:List Int):Pl (n + 1) (.lst (ns.map D.int)):=XQ fun d hd=>by
 obtain⟨i,_,rfl⟩:=zE.mp hd
 exact IF i
theorem Pl.le {n m:Nat}{d:D}(h:Pl n d) (k:n<=m):Pl m d:=⟨yU h.1 k,h.2⟩
theorem kX {n:Nat}:∀ d∈([]:List D),Pl n d:=fun d h=>by cases h
theorem UC {n:Nat}{d:D}{ds:List D}(h:Pl n d) (t:∀ d∈ds,Pl n d):∀ e∈d::ds,Pl n e:=fun e he=>by
 rcases zu.mp he with rfl|he
 ·exact h
 ·exact t e he
theorem Tg {n:Nat}{x y:D}(h:Pl n x) (k:Pl n y):cQ n x y=.ok (.bl (Aw x y)):=by
 unfold cQ
 rw[if_pos ⟨h.1,h.2,k.2⟩]
theorem Th {n:Nat}{x y:D}(h:Pl n x) (k:Pl n y):cR n x y=.ok (.bl (!Aw x y)):=by
 unfold cR
 rw[if_pos ⟨h.1,h.2,k.2⟩]
theorem Rg {n:Nat}{x:D}(h:Pl n x):cR n x x=.ok (.bl false):=by rw[Th h h,J8];rfl
theorem OH {gt:D->Ab->M Ab}{ft:Ab->M Bool}{fe:Ab->M D}{ρ:Ab}(f:D->D) (ds:List D) (h:∀ d∈ds,∃ ρ1,gt d ρ=.ok ρ1/\ft ρ1=.ok true/\fe ρ1=.ok (f d)):B9 gt ft fe ds ρ=.ok (ds.map f):=by
 rw[Jf (fun _=>true) f ds fun d hd=>by
  obtain⟨ρ1,h1,h2,h3⟩:=h d hd
  exact⟨ρ1,h1,h2,fun _=>h3⟩]
 rw[List.filter_eq_self.mpr fun _ _=>rfl]
theorem dB (ds:List D) (a b:Nat):nI (some (a:Int)) (some (b:Int)) (.lst ds)=.ok (.lst ((ds.drop a).take (b - a))):=by
 unfold nI
 dsimp only
 rw[HT.Pr,HT.Pr]
 congr 2
 by_cases h:a<=ds.length
 ·rw[Nat.min_eq_left h]
  by_cases h2:b<=ds.length
  ·rw[Nat.min_eq_left h2]
  ·rw[Nat.min_eq_right (by omega),List.take_of_length_le (by rw[zbf];exact zB _),List.take_of_length_le (by rw[zbf];omega)]
 ·rw[Nat.min_eq_right (show ds.length<=a by omega),List.drop_of_length_le (zB _),List.drop_of_length_le (show ds.length<=a by omega),List.take_nil,List.take_nil]
end L2
namespace L2
open PySem PySem.Spec PyProof.Rows
section
variable {X:Cx}{WX:Str->Hp->Prop}{c:Bool}{P0:EA}{P:Addr->Prop}{H:Hp}{σ:St}{ρ:Ab}{a b e:Expr}{f g:Ab->M D}{ft gt:Ab->M Bool}{pos:Pos}{st:Stmt}{rest:List Stmt}{g1 g2:Ab->M Out}
theorem Rh {K:za}{H:Hp}{v:V}{d:D}(h:BK K H v d):∀ n:Nat,Ag K H (zw n v) (zw n d)
 |0=>.nil
 |n + 1=>by rw[za6,za6];exact .cons h (Rh h n)
theorem MI {K:za}{H:Hp}{v:V}{d:D}(h:BK K H v d):∀ {vs:List V}{ds:List D}(n:Nat),Ag K H vs ds->Ag K H (vs.set n v) (ds.set n d)
 |_,_,_,.nil=>.nil
 |_,_,0,.cons _ t=>.cons h t
 |_,_,n + 1,.cons a t=>.cons a (MI h n t)
noncomputable def wF (i:Nat) (ρ:Ab) (d k:D):M Out:=match k with
 | .int j=>if 0<=j/\j.toNat<=1000 then .ok (.next (ρ.set i (some (.own (zw j.toNat d))))) else .bad
 |_=>.bad
theorem OI {α:Type}(v:α):∀ n:Nat,(zw n [v]).flatten=zw n v
 |0=>rfl
 |n + 1=>by rw[za6,List.flatten_cons,OI v n];rfl
noncomputable def kY (i:Nat) (ρ:Ab) (ds:List D) (d k:D):M Out:=match k with
 | .int j=>(match Ou ds.length j with|some n=>.ok (.next (ρ.set i (some (.own (ds.set n d)))))|none=>.bad)
 |_=>.bad
noncomputable def dC (i:Nat) (ρ:Ab) (m:M D) (d:D):M Out:=match ρ[i]? with
 |some (some (.own ds))=>m.bind (kY i ρ ds d)
 |_=>.bad
theorem Kz (i:Nat){x:Str}{p1 ay:Pos}(hv:PE X (.Name x p1) (Lp i)) (ha:DE X WX true a f) (hk:DE X WX true b g)
 (hs:swapsWithSole [.Subscript (.Name x p1) b ay] a pos.line X.env=pure false:=by rfl) (hw:swappedStores [.Subscript (.Name x p1) b ay] a X.env=pure none:=by rfl) (h1:(assignEach [.Subscript (.Name x p1) b ay] X.env).map (·.2)=[assign (.Subscript (.Name x p1) b ay) X.env]:=by rfl)
 (ga:∀ v,assign (.Subscript (.Name x p1) b ay) X.env v=(do
  let ov <-holding [v] (eval (.Name x p1) X.env)
  let iv <-holding [v,ov] (eval b X.env)
  standAt ay
  holding [v,ov,iv] (setItem ov iv v)
  release [v,ov,iv] []):=by intro _;rfl) :
 DS X WX (.Assign [.Subscript (.Name x p1) b ay] a pos) (fun ρ=>(f ρ).bind (dC i ρ (g ρ))):=by
 obtain⟨ta,a1,a2⟩:=ha
 obtain⟨tb,b1,b2⟩:=hk
 refine⟨_,X1 a1 (X0 hv b1 set_list ga) hs hw h1,fun P0 P σ H Z ρ E h=>?_⟩
 dsimp only at h
 refine a2 P0 P σ H _ ρ E ?_
 cases q:f ρ with
 |bad=>rw[q] at h;exact h
 |ex x=>rw[q] at h;exact fun H' s=>h H' P (E.tr s)
 |ok d =>
  rw[q] at h
  simp only[M.A7] at h
  intro v H1 s1 hv
  have E1:=E.same s1
  unfold dC at h
  split at h
  ·rename_i ds e1
   obtain⟨p,xs,h1,h2,h3,h4,h5⟩:=E1.own i ds e1
   refine⟨_,h1,b2 P0 P σ H1 _ ρ E1 ?_⟩
   cases q2:g ρ with
   |bad=>rw[q2] at h;exact h.elim
   |ex x=>rw[q2] at h;exact fun H' s2=>h H' P ((E.tr s1).trans (E1.tr s2))
   |ok k =>
    rw[q2] at h
    simp only[M.A7] at h
    unfold kY at h
    intro w H2 s2 hw
    split at h
    ·rename_i j
     cases hw
     split at h
     ·rename_i n en
      have E2:=E1.same s2
      refine⟨p,xs,j,n,rfl,rfl,s2 _ _ h2,by rw[h5.length];exact en,?_⟩
      obtain⟨E3,t3⟩:=E2.mut e1 h1 h3 h4 (MI (hv.mono s2.del) n (h5.mono s2.del))
      exact h _ _ _ ((E.tr s1).trans ((E1.tr s2).trans t3)) E3
     ·exact h.elim
    ·exact h.elim
  ·exact h.elim
noncomputable def Ay (c:Ab->M Bool) (b:Ab->M Out):Nat->Ab->M Out
 |0,_=>.bad
 |n + 1,ρ=>match c ρ with
  | .ok true=>(match b ρ with
   | .ok (.next ρ')=>Ay c b n ρ'
   | .ok (.cont ρ')=>Ay c b n ρ'
   | .ok (.brk ρ')=>.ok (.next ρ')
   |r=>r)
  | .ok false=>.ok (.next ρ)
  | .ex x=>.ex x
  | .bad=>.bad
noncomputable def La (c:Ab->M Bool) (b:Ab->M Out) (ρ:Ab):M Out :=
 @dite _ (∃ n,Ay c b n ρ≠.bad) (zbj _) (fun h=>Ay c b (zj h) ρ) (fun _=>.bad)
theorem CH {c:Ab->M Bool}{b:Ab->M Out}:∀ {n:Nat}{ρ:Ab},Ay c b n ρ≠.bad->∀ m,Ay c b (n + m) ρ=Ay c b n ρ
 |0,ρ,h,m=>(h rfl).elim
 |n + 1,ρ,h,m=>by
  rw[show n + 1 + m=(n + m) + 1 by omega]
  rw[Ay] at h
  rw[Ay,Ay]
  cases q:c ρ with
  |bad=>rfl
  |ex x=>rfl
  |ok k =>
   rw[q] at h
   cases k with
   |false=>rfl
   |true =>
    dsimp only at h ⊢
    cases q2:b ρ with
    |bad=>rfl
    |ex x=>rfl
    |ok o =>
     rw[q2] at h
     cases o with
     |next ρ'=>dsimp only at h ⊢;exact CH h m
     |cont ρ'=>dsimp only at h ⊢;exact CH h m
     |brk ρ'=>rfl
     |ret d=>rfl
     |CK d=>rfl
     |Fd d ρ2=>rfl
theorem XR {c:Ab->M Bool}{b:Ab->M Out}{n:Nat}{ρ:Ab}(h:Ay c b n ρ≠.bad):La c b ρ=Ay c b n ρ:=by
 unfold La
 have hx:∃ n,Ay c b n ρ≠.bad:=⟨n,h⟩
 rw[dif_pos hx]
 have hc:=zb hx
 have e1:=CH h (zj hx)
 have e2:=CH hc n
 rw[Nat.add_comm] at e2
 rw[<-e1,e2]
theorem VS {c:Ab->M Bool}{b:Ab->M Out}{ρ:Ab}(h:La c b ρ≠.bad):∃ n,Ay c b n ρ≠.bad/\La c b ρ=Ay c b n ρ:=by
 by_cases hx:∃ n,Ay c b n ρ≠.bad
 ·obtain⟨n,hn⟩:=hx
  exact⟨n,hn,XR hn⟩
 ·exact (h (by unfold La;rw[dif_neg hx])).elim
theorem iB {K:za}{Z:Ends}{m:M Out}(h:gS K WX P0 P H Z m):m≠.bad:=fun e=>by rw[e] at h;exact h
theorem Ri {body:List Stmt}(hp:PassesOwn (model X.prog X.w) X.A X.env X.xe) (hc:DT X WX a ft) (hb:Sw X WX body g1):DS X WX (.While a body [] pos) (La ft g1):=by
 obtain⟨tc,c1,c2⟩:=hc
 obtain⟨tb,b1,b2⟩:=hb
 refine⟨_,X2 hp c1 b1,fun P0 P σ H Z ρ E h=>?_⟩
 obtain⟨n,hn,en⟩:=VS (iB h)
 rw[en] at h
 refine⟨fun m σ' H'=>∃ ρ' P',An X.K P0 P' H' σ' ρ'/\Tr P0 P H P' H'/\gS X.K WX P0 P' H' Z (Ay ft g1 m ρ'),⟨n,ρ,P,E,Tr.refl,h⟩,?_⟩
 rintro m σ1 H1 ⟨ρ1,P1,E1,t1,h1⟩
 cases m with
 |zero=>exact h1.elim
 |succ m =>
  rw[Ay] at h1
  refine c2 P0 P1 σ1 H1 _ ρ1 E1 ?_
  cases q:ft ρ1 with
  |bad=>rw[q] at h1;exact h1
  |ex x=>rw[q] at h1;exact fun H2 s2=>h1 H2 P1 (E1.tr s2)
  |ok k =>
   rw[q] at h1
   intro H2 s2
   have E2:=E1.same s2
   cases k with
   |false =>
    rw[if_neg (by simp)]
    exact h1 σ1 H2 P1 (E1.tr s2) E2
   |true =>
    rw[if_pos rfl]
    dsimp only at h1
    refine⟨fun σ' H'=>∃ ρ' P',An X.K P0 P' H' σ' ρ'/\Tr P0 P H P' H'/\gS X.K WX P0 P' H' Z (Ay ft g1 m ρ'),fun σ' H' z=>⟨m,Nat.lt_succ_self m,z⟩,?_⟩
    refine b2 P0 P1 σ1 H2 _ ρ1 E2 ?_
    cases q2:g1 ρ1 with
    |bad=>rw[q2] at h1;exact h1
    |ex x=>rw[q2] at h1;exact fun H3 P3 t3=>h1 H3 P3 ((E1.tr s2).trans t3)
    |ok o =>
     rw[q2] at h1
     have t2:=t1.trans (E1.tr s2)
     cases o with
     |next ρ'=>exact fun σ3 H3 P3 t3 E3=>⟨ρ',P3,E3,t2.trans t3,h1.tr ((E1.tr s2).trans t3)⟩
     |cont ρ'=>exact fun σ3 H3 P3 t3 E3=>⟨ρ',P3,E3,t2.trans t3,h1.tr ((E1.tr s2).trans t3)⟩
     |brk ρ'=>exact fun σ3 H3 P3 t3 E3=>h1 σ3 H3 P3 ((E1.tr s2).trans t3) E3
     |ret d=>exact fun v H3 P3 t3 hv=>h1 v H3 P3 ((E1.tr s2).trans t3) hv
     |CK d=>exact fun v fp H3 P3 t3=>h1 v fp H3 P3 ((E1.tr s2).trans t3)
     |Fd d ρ2=>exact fun v fp σ3 H3 P3 t3=>h1 v fp σ3 H3 P3 ((E1.tr s2).trans t3)
noncomputable def UE (ds:List D):M D:=match ds with
 |[.int i]=>.ok (.int i)
 |[.bl b]=>.ok (.int (if b then 1 else 0))
 |_=>.bad
theorem dD:L8 X.K WX (fun xs H Q=>(∃ i,xs=[.int i]/\Q (.int i) H)\/∃ k,xs=[.bl k]/\Q (.int (if k then 1 else 0)) H) UE:=by
 intro P H ds vs Q ht hl h
 unfold UE at h
 split at h
 ·obtain⟨v,rfl,hv⟩:=hl.one
  cases hv
  exact .inl ⟨_,rfl,h _ H (Ad.refl H) (.int _)⟩
 ·obtain⟨v,rfl,hv⟩:=hl.one
  cases hv
  exact .inr ⟨_,rfl,h _ H (Ad.refl H) (.int _)⟩
 ·exact h.elim
theorem dE {p:Pos}(hg:Gl X "int") (hm:X.mg "int" = none) (ha:DE X WX c e f) (hb:bootBuiltins "int" = some (.type "int"):=by decide +kernel) (hs:starEach [e] X.env=[(false,eval e X.env)]:=by rfl):DE X WX c (.Call (.Name "int" p) [e] [] pos) (fun ρ=>((f ρ).bind fun d=>(M.ok []).bind fun ds=>.ok (d::ds)).bind UE) :=
 OD Vw dD hg hm hb (A2 ha A8 hs) (he:=hs)
noncomputable def GF:List D->Option (List Bool)
 |[]=>some []
 | .bl b::r=>(GF r).map (b::·)
 |_=>none
theorem MJ (bs:List Bool):GF (bs.map D.bl)=some bs:=by
 induction bs with
 |nil=>rfl
 |cons b r ih=>rw[zg,GF,ih];rfl
theorem MK:∀ {ds:List D}{bs:List Bool},GF ds=some bs->ds=bs.map D.bl
 |[],bs,h=>by cases h;rfl
 | .bl b::r,bs,h=>by
  rw[GF] at h
  cases q:GF r with
  |none=>rw[q] at h;cases h
  |some wz=>rw[q] at h;cases h;rw[MK q];rfl
 | .AA::r,bs,h=>by cases h
 | .int _::r,bs,h=>by cases h
 | .str _::r,bs,h=>by cases h
 | .tup _::r,bs,h=>by cases h
 | .lst _::r,bs,h=>by cases h
 | .DM _::r,bs,h=>by cases h
 | .Bi _ _ _::r,bs,h=>by cases h
 | .ins _ _ _::r,bs,h=>by cases h
theorem ML {K:za}{H:Hp}:∀ {vs:List V}{bs:List Bool},Ag K H vs (bs.map D.bl)->vs=bs.map V.bl
 |_,[],.nil=>rfl
 |_,b::r,.cons h t=>by cases h;rw[ML t];rfl
theorem MM:∀ {bs:List Bool}{us:List Value},Vals (bs.map V.bl) us->LSm.BoolsAre us bs
 |[],_,.nil=>.nil
 |b::r,_,.cons h t=>by cases h;exact .cons b (MM t)
theorem MN (hc:X.calm=true):Gu X (.builtin "all") (fun xs H Q=>∃ p bs,xs=[.ref p]/\Dr X.K H p (List.map V.bl bs)/\Q (.bl (bs.all id)) H):=by
 intro pins s σ H xs us Q I r h
 obtain⟨p,bs,rfl,hq,q⟩:=h
 obtain⟨u,rfl,rx⟩:=vals1 r
 cases rx
 obtain⟨aa,r',pl,hz⟩:=I.list hq
 have hl:=pl.isList
 have hb:=MM r'
 have aj:p < s.heap.objs.size:=by obtain⟨_,e,_⟩:=hl;exact zx e
 refine call_all_walk (wpAny_pyIter_list hl ?_)
 refine⟨s.heap.objs.size,[s.heap.objs.size,p],[s.heap.objs.size],aa.toArray.size,_,_,fun i=>(bs[i]?).getD true,rfl,Walks.list (A:=X.A.in1) (I.ok.hd hc) _ p (zG aj) aa.toArray,
  ⟨⟨_,zI _ rfl,rfl,rfl⟩,hl.push _⟩,fun i v s' Q' E' hP hQ=>?_,fun h' tk hk=>?_⟩
 ·obtain⟨b,e,rfl⟩:=hb.get i v (by simpa using hP)
  simp only[e,Option.getD_some] at hQ
  exact wpAny_truthy_bool hQ
 ·have e:((za3 aa.toArray.size).all fun i=>(bs[i]?).getD true)=bs.all id:=by
   rw[zi,hb.length];exact LSm.range_all bs
  rw[e]
  exact⟨.bl _,H,I.kept (t':=tk) (LSm.kept_iter hk),rfl,q⟩
noncomputable def XS (ds:List D):M D:=match ds with
 |[.lst xs]=>(match GF xs with|some bs=>.ok (.bl (bs.all id))|none=>.bad)
 |_=>.bad
theorem kZ:L8 X.K WX (fun xs H Q=>∃ p bs,xs=[.ref p]/\Dr X.K H p (List.map V.bl bs)/\Q (.bl (bs.all id)) H) XS:=by
 intro P H ds vs Q ht hl h
 unfold XS at h
 split at h
 ·rename_i xs
  obtain⟨v,rfl,hv⟩:=hl.one
  split at h
  ·rename_i bs eb
   have:=MK eb
   subst this
   cases hv with
   |lst hs hh =>
    have:=ML hh
    subst this
    exact⟨_,bs,rfl,hs.Bo,h _ H (Ad.refl H) (.bl _)⟩
  ·exact h.elim
 ·exact h.elim
theorem Ti {p:Pos}(hc:X.calm=true) (hg:Gl X "all") (hm:X.mg "all" = none) (ha:DE X WX c e f) (hb:bootBuiltins "all" = some (.builtin "all"):=by decide +kernel) (hs:starEach [e] X.env=[(false,eval e X.env)]:=by rfl):DE X WX c (.Call (.Name "all" p) [e] [] pos) (fun ρ=>((f ρ).bind fun d=>(M.ok []).bind fun ds=>.ok (d::ds)).bind XS) :=
 ME (MN hc) kZ hg hm hb (A2 ha A8 hs) (he:=hs)
end
end L2
namespace L2
open PySem PySem.Spec PyProof.Rows
noncomputable def Sm (n:Int):Prop:=zX n<=2 ^ 20
theorem XT:∀ {ns:List Int},W.WData.weightAll (ns.map W.WData.int)<=2 ^ 20->∀ n∈ns,Sm n
 |m::r,h,n,hn=>by
  rw[zg,W.WData.weightAll,W.WData.weight] at h
  rcases zu.mp hn with rfl|hn
  ·unfold Sm zX
   omega
  ·exact XT (by omega) n hn
theorem pX {ns:List Int}(h:W.WData.layableAll [W.WData.list (ns.map W.WData.int)]=true):∀ n∈ns,Sm n:=by
 unfold W.WData.layableAll at h
 rw[List.all_cons,zS] at h
 have h1:=h.1
 unfold W.WData.layable at h1
 rw[zS,decide_eq_true_eq,W.WData.weight] at h1
 exact XT h1.2
end L2
namespace HT
open PySem PySem.W PyProof.Rows Spec Calls uI
theorem OJ {l:OpenLaw}{n:Nat}{q:Program}{loose:List Str}{XP:(Str->Option Value)->Heap->Prop}{YP:World->Heap->Prop}{d:DefRec}
 (hn:l.most=some n) (gc:d.params.defaults=[])
 (run:∀(w:World) (s₀ s₁:Shared) (mg mb:Str->Option Value) (fa:Addr) (o:Obj) (pm cd doc:Value) (a:Addr) (vs:List Value) (ns:List Int),(∀ n∈ns,L2.Sm n)->
  Ground q loose [] XP w s₀ mg mb s₁.heap->YP w s₁.heap->s₁.heap.get? fa=some o->o.data=.func (docDef d.name d.params d.body d.scope pm cd doc)->s₁.heap.CodeRec cd d.name->mg d.name=some (.ref fa)->
  s₁.heap.get? a=some { cls:=.type "list",data:=.seq vs.toArray }->IntsAre vs ns->ns.length<=n->s₁.gens=#[]->
  codeAny (model l.prog w) callerA (.call (.ref fa) ⟨[.ref a],[]⟩) (fun r s'=>r=.ok (.ret (.bool true))/\OldK s₁.heap s'.heap/\s'.os=s₁.os/\AllBare s'.gens) s₁) :
 WalkO q loose XP YP l.row.toRowW d [] (fun f vs=>PySem.call f vs):=by
 intro w s₀ s₁ mg mb G Y fa o pm cd doc dV kV ho hd bw hD ge hg args vals as cM oh gf m9 y6
 obtain rfl:dV=.none:=Dflts.none hD gc
 obtain rfl:kV=.none:=Dflts.noKw hD
 obtain⟨a,vs,ns,rfl,rfl,c9,b5,hlen⟩:=VE hn cM m9
 refine enter_call (codeAny_mono (run w s₀ s₁ mg mb fa o pm cd doc a vs ns (L2.pX oh) G Y ho (fd_plain hd) bw ge c9 b5 hlen hg) fun r s' hq=>?_)
 obtain⟨rfl,h2,h3,h4⟩:=hq
 exact⟨.inl ⟨.bool true,.bool true,[],rfl,fun _=>rfl,.bool true,VF l _,fun _=>⟨List.Pairwise.nil,fun _ hm=>(nomatch hm)⟩⟩,h2,h3,h4⟩
end HT
namespace L2
open PySem PySem.Spec PyProof.Rows
theorem rK {l:PySem.W.OpenLaw}{n k:Nat}{q:Program}{loose:List Str}{XP:(Str->Option Value)->Heap->Prop}{YP:World->Heap->Prop}{d:DefRec}{K:Params->za}{CX:World->Ud}{sp:World->Sp}{x:Str}
 (hn:l.most=some n) (aJ:n<=sizeLine) (gc:d.params.defaults=[]) (hr:BH k callerA) (hY:∀(w:World) (h:Heap),YP w h->(K w.params).In h)
 (F:∀(w:World) (mg:Str->Option Value) (fa:Addr) (h:Heap),(K w.params).In h->h.Ns mainGlobals mg->mg d.name=some (.ref fa)->∃ fd:FuncData,(∀(s:Shared) (u:Value),BindsTo s fd ⟨[u],[]⟩ [(x,u)]) /\
  ∀ base:Heap,(K w.params).In base->base.Ns mainGlobals mg->Ds l.prog w (K w.params) mg base (CX w) k fa fd [x] (sp w))
 (bW:∀(w:World) (H:Hp) (a:Addr) (ns:List Int),(∀ n∈ns,Sm n)->ns.length<=n->ZM H->Dr (K w.params) H a (ns.map V.int)->sp w [.ref a] H (fun v _=>v=.bl true) fun _ _ _=>False)
 (i9:∀(w:World) (H:Hp) (s:Shared) (e:Value) (s':Shared),CX w [] H s (fun _ _ _=>False) e s'->False):PySem.W.WalkO q loose XP YP l.row.toRowW d [] (fun f vs=>PySem.call f vs):=by
 refine HT.OJ hn gc fun w s₀ s₁ mg mb fa o pm cd doc a vs ns bC G Y ho hd bw ge c9 b5 hlen hg=>?_
 have KX:=hY w _ Y
 obtain⟨fd,hb,hF⟩:=F w mg fa _ KX G.T.g ge
 exact QY KX G.T.g G.T.b G.T.builtins G.T.nolimit hg c9 b5 (yU hlen aJ) hr hF hb (fun H hO hS=>bW w H a ns bC hlen hO hS) fun H e s'=>i9 w H s₁ e s'
theorem dG {F:List D->M D}(h:∀ ns:List Int,ns.length<=63->(∀ n∈ns,Sm n)->F [.lst (ns.map D.int)]=.ok (.bl true)) (K:za) (H:Hp) (a:Addr) (ns:List Int) (bC:∀ n∈ns,Sm n) (hl:ns.length<=63) (hS:Dr K H a (ns.map V.int)):Te K 1 F [.ref a] H (fun v _=>v=.bl true) fun _ _ _=>False:=by
 refine⟨rfl,fun _=>False,[.lst (ns.map D.int)],fun _ z=>z.elim,.cons (.lst ?_ (Ag.ints ns)) .nil,?_⟩
 ·have e:del H (fun _=>False)=H:=by funext b;exact Ax (fun z=>z)
  rw[e];exact hS
 ·rw[h ns hl bC]
  exact fun v H' s hv=>hv.MC
noncomputable def OK (i j:Int):Prop:=(zX i<=2 ^ 20 + 1/\zX j<=2 ^ 10)\/Rf i j
theorem VT {a b:Int}(h:zX a + zX b<=2 ^ 21):IntMulOk a b:=by
 have e:(2:Nat) ^ 21=2097152:=by decide
 have h2:Builtin.Int.intTooBig (zX a + zX b)=false:=by
  unfold Builtin.Int.intTooBig bitsLine
  exact decide_eq_false (by omega)
 unfold IntMulOk
 rw[h2]
 simp
theorem OK.ok {i j:Int}(h:OK i j):IntMulOk i j:=by
 rcases h with ⟨h1,h2⟩|h
 ·exact VT (by omega)
 ·exact h.ok
theorem dH {X:Cx}:Gs X (binaryOp .Mult) (rI OK fun i j=>.int (i * j)):=rC fun _ _ _ _ _ _ _ hc q=>mul_int q hc.ok
noncomputable instance (i j:Int):Decidable (OK i j):=zbj _
noncomputable def Ie:=Bw fun i j=>if OK i j then .ok (.int (i * j)) else .bad
theorem Eb {i j:Int}(h:OK i j):Ie (.int i) (.int j)=.ok (.int (i * j)):=by
 unfold Ie Bw
 dsimp only
 rw[if_pos h]
theorem Fz {X:Cx}{WX:Str->Hp->Prop}{c:Bool}{a b:Expr}{f g:Ab->M D}{pos:Pos}(ha:DE X WX c a f) (hb:DE X WX c b g):DE X WX c (.BinOp a .Mult b pos) (fun ρ=>(f ρ).bind fun x=>(g ρ).bind fun y=>Ie x y):=OB dH (PF fun _ _ _ _=>.int _) ha hb
theorem bits_le {n:Int}{k:Nat}(h:n.natAbs < 2 ^ k):zX n<=k:=by
 unfold zX
 split
 ·exact zW _
 ·rename_i hn
  have hp:n.natAbs≠0:=by simpa using hn
  exact (Nat.log2_lt hp).mpr h
theorem VU {c x:Int}(h:Sm c) (hx:x.natAbs < 2 ^ 20):zX (c + x)<=2 ^ 20 + 1:=by
 refine bits_le ?_
 have h1:=natAbs_lt_pow_bits c
 have h2:(2:Nat) ^ zX c<=2 ^ (2 ^ 20):=Nat.pow_le_pow_right (by omega) h
 have h3:(2:Nat) ^ 20<=2 ^ (2 ^ 20):=Nat.pow_le_pow_right (by omega) (by omega)
 have h4:(c + x).natAbs<=c.natAbs + x.natAbs:=Int.natAbs_add_le c x
 rw[Nat.pow_succ]
 omega
end L2
namespace L2
open PySem PySem.Spec PyProof.Rows
mutual
noncomputable def Jg:D->Bool
 | .tup a=>Jh a
 | .lst _=>false
 | .DM _=>false
 | .Bi _ _ _=>false
 | .ins _ _ _=>false
 |_=>true
noncomputable def Jh:List D->Bool
 |[]=>true
 |a::r=>Jg a && Jh r
end
theorem UG {H:Hp}{P0 P:Addr->Prop}{a:Addr}{xs:List V}(ht:∀ a,P a->Dt H a) (h:del H P0 a=some (.tup xs)):del H P a=some (.tup xs):=by
 obtain⟨h1,h2⟩:=Al h
 rw[Ax fun z=>by
  obtain⟨o',q,r⟩:=ht a z
  rw[h2] at q;cases q
  exact (r xs).1 rfl]
 exact h2
mutual
theorem BK.Jg {K:za}{H:Hp}{P0 P:Addr->Prop}(ht:∀ a,P a->Dt H a):∀ {v:V}{d:D},Jg d=true->BK K (del H P0) v d->BK K (del H P) v d
 |_,_,_,.AA=>.AA
 |_,_,_,.bl b=>.bl b
 |_,_,_,.int i=>.int i
 |_,_,_,.str x=>.str x
 |_,_,n,.tup h r=>.tup (UG ht h) (Ag.Jg ht (by rw[L2.Jg] at n;exact n) r)
 |_,_,n,.lst h r=>by rw[L2.Jg] at n;cases n
 |_,_,n,.DM h r=>by rw[L2.Jg] at n;cases n
 |_,_,n,.Iy h r=>by rw[L2.Jg] at n;cases n
 |_,_,n,.Iz h r=>by rw[L2.Jg] at n;cases n
 |_,_,n,.ins _ h r=>by rw[L2.Jg] at n;cases n
theorem Ag.Jg {K:za}{H:Hp}{P0 P:Addr->Prop}(ht:∀ a,P a->Dt H a):∀ {vs:List V}{ds:List D},Jh ds=true->Ag K (del H P0) vs ds->Ag K (del H P) vs ds
 |_,_,_,.nil=>.nil
 |_,_,n,.cons h t=>by
  rw[Jh,zS] at n
  exact .cons (BK.Jg ht n.1 h) (Ag.Jg ht n.2 t)
end
noncomputable def dp (m:M D):M D:=m.bind fun d=>if Jg d=true then .ok d else .bad
theorem dI {X:Cx}{WX:Str->Hp->Prop}{e:Expr}{f:Ab->M D}(h:DE X WX false e f):DE X WX true e (fun ρ=>dp (f ρ)):=by
 obtain⟨t,h1,h2⟩:=h
 refine⟨t,h1,fun P0 P σ H Q ρ E g=>h2 P0 P σ H Q ρ E ?_⟩
 unfold dp at g
 dsimp only at g
 cases e:f ρ with
 |ok d =>
  rw[e] at g
  simp only[M.A7] at g
  by_cases hf:Jg d=true
  ·rw[if_pos hf] at g
   exact fun v H' s hv=>g v H' s (hv.Jg (E.same s).Cq hf)
  ·rw[if_neg hf] at g;exact g.elim
 |ex x=>rw[e] at g;exact g
 |bad=>rw[e] at g;exact g
end L2
namespace L2
open PySem PySem.Spec PyProof.Rows
section
variable {α:Type}(lt:α->α->Prop)
noncomputable def NR:List α->List α->Prop
 |y::ys,x::xs=>(lt y x/\ys.length=xs.length)\/(y=x/\NR ys xs)
 |_,_=>False
theorem NR.len:∀ {ys xs:List α},NR lt ys xs->ys.length=xs.length
 |y::ys,x::xs,h=>by
  rcases h with ⟨_,h⟩|⟨_,h⟩
  ·rw[zp,zp,h]
  ·rw[zp,zp,NR.len h]
 |[],[],h=>h.elim
 |[],_::_,h=>h.elim
 |_::_,[],h=>h.elim
theorem XU (n:Nat) (ih:∀ xs:List α,xs.length=n->Acc (NR lt) xs){x:α}(hx:Acc lt x):∀ {xs:List α},xs.length=n->Acc (NR lt) xs->Acc (NR lt) (x::xs):=by
 induction hx with
 |intro x _ w4 =>
  intro xs hl cb
  induction cb with
  |intro xs _ oj =>
   refine .intro _ fun zs h=>?_
   cases zs with
   |nil=>exact h.elim
   |cons y ys =>
    rcases h with ⟨h1,h2⟩|⟨h1,h2⟩
    ·exact w4 y h1 (h2.trans hl) (ih ys (h2.trans hl))
    ·subst h1
     exact oj ys h2 ((NR.len lt h2).trans hl)
theorem MO (h:∀ x,Acc lt x):∀(n:Nat) (xs:List α),xs.length=n->Acc (NR lt) xs
 |0,[],_=>.intro _ fun zs h=>by cases zs<;>exact h.elim
 |n + 1,x::xs,e=>XU lt n (MO h n) (h x) (by simpa using e) (MO h n xs (by simpa using e))
theorem UH:∀ {xs:List α}{i:Nat}{y:α}{x:α},xs[i]? =some x->lt y x->NR lt (xs.set i y) xs
 |[],_,_,_,h,_=>by cases h
 |z::zs,0,y,x,h,hl=>by
  cases h
  exact .inl ⟨hl,rfl⟩
 |z::zs,i + 1,y,x,h,hl=>.inr ⟨rfl,UH (by simpa using h) hl⟩
theorem NR.trans (ht:∀ a b c,lt a b->lt b c->lt a c):∀ {xs ys zs:List α},NR lt xs ys->NR lt ys zs->NR lt xs zs
 |x::xs,y::ys,z::zs,h1,h2=>by
  rcases h1 with ⟨a,b⟩|⟨rfl,b⟩
  ·rcases h2 with ⟨c,d⟩|⟨rfl,d⟩
   ·exact .inl ⟨ht _ _ _ a c,b.trans d⟩
   ·exact .inl ⟨a,b.trans (NR.len lt d)⟩
  ·rcases h2 with ⟨c,d⟩|⟨rfl,d⟩
   ·exact .inl ⟨c,(NR.len lt b).trans d⟩
   ·exact .inr ⟨rfl,NR.trans ht b d⟩
 |[],_,_,h,_=>by cases h
 |_::_,[],_,h,_=>by cases h
 |_::_,_::_,[],_,h=>by cases h
end
end L2
namespace L2
open PySem PySem.Spec PyProof.Rows
section
variable {X:Cx}{WX:Str->Hp->Prop}{c:Bool}{P0:EA}{P:Addr->Prop}{H:Hp}{σ:St}{ρ:Ab}{a b e:Expr}{f g g2:Ab->M D}{pos:Pos}
theorem An.forget {K:za}(E:An K P0 P H σ ρ) (k:Nat):An K P0 P H σ (ρ.set k none):=by
 have key:∀(j:Nat) (cl:Cl),(ρ.set k none)[j]? =some (some cl)->k≠j/\ρ[j]? =some (some cl):=fun j cl h=>by
  rcases get_set h with ⟨_,_,z⟩|z
  ·cases z
  ·exact z
 exact⟨E.sub,E.Cq,fun j d h=>E.val j d (key j _ h).2,fun j d h io=>E.ows j d (key j _ h).2 io,fun i j c c' v v' fp ai h1 h2=>E.apart i j c c' v v' fp ai (key i _ h1).2 (key j _ h2).2,by rw[yQ];exact E.len,fun j c n h hp=>E.pin j c n (key j _ h).2 hp⟩
theorem dJ (i:Nat){x:Str}{pos' da:Pos}(hN:X.N.Nodup) (hi:X.N[i]? =some x) (hx:Loc X.env.scope x) (hs:swapsWith (.List [] da) (some (.Name x pos')) pos.line X.env=pure false:=by rfl) (hf:X.fn x=true\/X.env.scope.names.lookup x=some .local:=by first | exact .inl rfl | exact .inr rfl | assumption) :
 DS X WX (.Assign [.Name x pos'] (.List [] da) pos) (fun ρ=>.ok (.next (ρ.set i (some (.ow (.rows [])))))):=by
 refine⟨_,SF hN hi hx (Pq Cj) hs hf,fun P0 P σ H Z ρ E h=>?_⟩
 refine⟨zW _,fun p hp=>?_⟩
 have nP:¬ P p:=fun z=>(E.Cq p z).no hp
 have sm:Ad (del H P) (del (upd H p (.lst [])) (fun a=>P a\/a=p)):=fun b o e=>by
  obtain⟨h1,h2⟩:=Al e
  have hb:b≠p:=Az h2 hp
  rw[Ax (fun z=>z.elim h1 hb),Ah hb];exact h2
 refine h _ _ (fun a=>P a\/a=p) ⟨sm,fun a ha=>by rw[Ah (fun z=>nP (by rw[<-z];exact E.sub a ha))]⟩ (E.VP (fp:=[p]) (fun a h=>.inl h) (fun a h=>?_) sm (fun j c' v' ai af h1 h2 h3 a ha=>?_) ⟨p,[],rfl,rfl,Ar,.nil⟩ (fun a ha=>?_) (by simp))
 ·by_cases ha:a=p
  ·subst ha;exact Dt.lst Ar
  ·rcases h with h|h
   ·unfold Dt;rw[Ah ha];exact E.Cq a h
   ·exact absurd h ha
 ·obtain⟨ys,q⟩:=h3.at a ha
  have hn:a≠p:=Az q hp
  exact⟨Ah hn,fun z=>hn (zh.mp z)⟩
 ·rw[zh.mp ha]
  exact⟨.inr rfl,fun z=>nP (E.sub p z)⟩
theorem By.snoc {K:za}{H:Hp}{P:Addr->Prop}{q:Addr}{xs:List V}{ds:List D}(hq:H q=some (.lst xs)) (hx:Ag K (del H P) xs ds):∀ {ps:List Addr}{C2:List (List D)},By K H P ps C2->By K H P (ps++[q]) (C2++[ds])
 |_,_,.nil=>.cons hq hx .nil
 |_,_,.cons h r t=>.cons h r (t.snoc hq hx)
noncomputable def XW (i k:Nat) (ρ:Ab):M Out:=match ρ[i]?,ρ[k]? with
 |some (some (.ow (.rows C2))),some (some (.own ds))=>if C2.length < 1000/\i≠k then .ok (.next ((ρ.set k none).set i (some (.ow (.rows (C2++[ds])))))) else .bad
 |_,_=>.bad
theorem dM (i k:Nat){x y:Str}{p1 p2 apos ac:Pos}(hv:PE X (.Name x p1) (Lp i)) (hw:PE X (.Name y p2) (Lp k)) (hs:starEach [.Name y p2] X.env=[(false,eval (.Name y p2) X.env)]:=by rfl)
 (bj:swapsWith (.Call (.Attribute (.Name x p1) "append" apos) [.Name y p2] [] ac) none pos.line X.env=pure false:=by rfl)
 (av:attributeBase (.Name x p1) "append" X.env (eval (.Name x p1) X.env)=eval (.Name x p1) X.env:=by rfl)
 (aV:((backTo ac (starEach [.Name y p2] X.env)).all (fun x => !x.1) && (backToKw ac (keywordEach [] X.env)).all (fun x=>x.1.isSome) && decide (([.Name y p2]:List Expr).length + ([]:List Keyword).length + (if ([]:List Keyword).isEmpty then 0 else 1) < 30))=true:=by rfl)
 (aw:(apos.endLine == ac.line)=true:=by rfl) (ar:(backTo ac (starEach [] X.env)).any (·.1)=false:=by rfl) :
 DS X WX (.Expr (.Call (.Attribute (.Name x p1) "append" apos) [.Name y p2] [] ac) pos) (XW i k):=by
 refine⟨_,Ft (QV zaa PySem.F.slot_list_append PySem.F.type_list_append Ov hv (Bh hw Cj hs) av aV aw hs ar) bj,fun P0 P σ H Z ρ E h=>?_⟩
 unfold XW at h
 split at h
 ·rename_i C2 ds e1 e2
  by_cases hl:C2.length < 1000/\i≠k
  ·rw[if_pos hl] at h
   obtain⟨v,fp,h1,o1,h4,nd⟩:=E.ows i _ e1 rfl
   obtain⟨w,fq,k1,o2,k4,_⟩:=E.ows k _ e2 rfl
   have oa:=o1
   have ob:=o2
   obtain⟨p,ps,rfl,rfl,h2,h3⟩:=o1
   obtain⟨q,xs,rfl,rfl,k2,k3⟩:=o2
   refine⟨_,h1,.inl ⟨rfl,_,.of h2⟩,⟨_,k1,p,_,_,rfl,rfl,h2,AH (by rw[zc,h3.length];exact yV hl.1),?_⟩⟩
   have pP:=h4 p ze
   have sd:del (upd H p (.lst (ps.map V.ref++[V.ref q]))) P=del H P:=by
    funext b
    by_cases hb:P b
    ·rw[D3 hb,D3 hb]
    ·rw[Ax hb,Ax hb,Ah (fun z=>hb (by rw[z];exact pP.1))]
   have sm:Ad (del H P) (del (upd H p (.lst (ps.map V.ref++[V.ref q]))) P):=by rw[sd];exact Ad.refl _
   have qn:q∉p::ps:=fun z=>E.apart i k _ _ _ _ _ _ e1 e2 h1 k1 oa ob hl.2 q z (zh.mpr rfl)
   have qp:q≠p:=fun z=>qn (by rw[z];exact ze)
   have key:=(E.forget k).VP (P':=P) (H':=upd H p (.lst (ps.map V.ref++[V.ref q]))) (i:=i) (v:=.ref p) (c:=.ow (.rows (C2++[ds]))) (fp:=p::(ps++[q])) (fun a h=>h) (fun a h=>?_) sm (fun j c' v' ai af g1 g2 g3 a ha=>?_)
    ⟨p,ps++[q],rfl,rfl,by rw[zN];exact Ar,?_⟩ (fun a ha=>?_) ?_
   ·rw[Kv h1] at key
    exact h _ _ _ ⟨sm,fun a h=>by rw[Ah (fun z=>pP.2 (by rw[<-z];exact h))]⟩ key
   ·by_cases ha:a=p
    ·subst ha;exact Dt.lst Ar
    ·unfold Dt;rw[Ah ha];exact E.Cq a h
   ·have hj:k≠j/\ρ[j]? =some (some c'):=by
     rcases get_set g1 with ⟨_,_,z⟩|z
     ·cases z
     ·exact z
    have n1:=E.apart j i _ _ _ _ _ _ hj.2 e1 g2 h1 g3 oa (yL af) a ha
    have n2:=E.apart j k _ _ _ _ _ _ hj.2 e2 g2 k1 g3 ob (yL hj.1) a ha
    have ap:a≠p:=fun z=>n1 (by rw[z];exact ze)
    refine⟨Ah ap,fun z=>?_⟩
    rcases zu.mp z with z|z
    ·exact ap z
    ·rcases zy.mp z with z|z
     ·exact n1 (zf _ z)
     ·exact n2 z
   ·refine By.snoc (xs:=xs) (by rw[Ah qp];exact k2) (by rw[sd];exact k3) (h3.move sm fun a ha=>Ah fun z=>?_)
    rw[yP] at nd
    exact nd.1 (by rw[<-z];exact ha)
   ·rcases zu.mp ha with rfl|ha
    ·exact pP
    ·rcases zy.mp ha with ha|ha
     ·exact h4 a (zf _ ha)
     ·exact k4 a ha
   ·rw[yP] at nd ⊢
    refine⟨fun z=>?_,?_⟩
    ·rcases zy.mp z with z|z
     ·exact nd.1 z
     ·exact qp (zh.mp z).symm
    ·rw[zK]
     refine⟨nd.2,by simp,fun x hx y hy z=>?_⟩
     rw[zh.mp hy] at z
     exact qn (zf _ (z▸hx))
  ·rw[if_neg hl] at h;exact h.elim
 ·exact h.elim
theorem XX {α:Type}{l:List α}{k:Int}{n:Nat}(h:Ou l.length k=some n):QU l k=l[n]? :=by
 unfold QU
 rw[h]
 rfl
noncomputable def rowAt (C2:List (List D)) (ka:D):M (List D):=match ka with
 | .int j=>(match Ou C2.length j with|some n=>(match C2[n]? with|some ds=>.ok ds|none=>.bad)|none=>.bad)
 |_=>.bad
theorem OL {C2:List (List D)}{ka:D}{m:M (List D)}(h:rowAt C2 ka=m) (hb:m≠.bad):∃ j n ds,ka=.int j/\Ou C2.length j=some n/\C2[n]? =some ds/\m=.ok ds:=by
 subst h
 unfold rowAt at hb ⊢
 split at hb
 ·rename_i j
  split at hb
  ·rename_i n en
   split at hb
   ·rename_i ds ed
    exact⟨j,n,ds,rfl,en,ed,by simp only[en,ed]⟩
   ·exact (hb rfl).elim
  ·exact (hb rfl).elim
 ·exact (hb rfl).elim
noncomputable def dN (i:Nat) (ρ:Ab) (ma mb:M D):M D:=match ρ[i]? with
 |some (some (.ow (.rows C2)))=>ma.bind fun ka=>(rowAt C2 ka).bind fun ds=>mb.bind fun kb=>cS (.lst ds) kb
 |_=>.bad
theorem pY {K:za}{P:Addr->Prop}{Q:VK}{m:M D}(h:gV K WX P H Q m):m≠.bad:=fun e=>by rw[e] at h;exact h
theorem UI {α β:Type}{m:M α}{k:α->M β}(h:m.bind k≠.bad):m≠.bad:=fun e=>by rw[e] at h;exact h rfl
theorem Tj (i:Nat){x:Str}{p1 p2:Pos}(hv:PE X (.Name x p1) (Lp i)) (ha:DE X WX true a f) (hb:DE X WX true b g) (hs:Hl a:=by exact fun _ _=>rfl) (bh:Hl b:=by exact fun _ _=>rfl) :
 DE X WX true (.Subscript (.Subscript (.Name x p1) a p2) b pos) (fun ρ=>dN i ρ (f ρ) (g ρ)):=by
 obtain⟨ta,a1,a2⟩:=ha
 obtain⟨tb,b1,b2⟩:=hb
 refine⟨_,Uk LG (Uk LG hv a1 hs) b1 bh,fun P0 P σ H Q ρ E h=>?_⟩
 dsimp only at h
 unfold dN at h
 split at h
 ·rename_i C2 e1
  obtain⟨v,fp,h1,⟨p,ps,rfl,rfl,h2,h3⟩,h4,nd⟩:=E.ows i _ e1 rfl
  refine⟨_,h1,a2 P0 P σ H _ ρ E ?_⟩
  cases q:f ρ with
  |bad=>rw[q] at h;exact h
  |ex x=>rw[q] at h;exact h
  |ok ka =>
   rw[q] at h
   simp only[M.A7] at h
   intro w H1 s1 hw
   obtain⟨j,n,ds,rfl,en,ed,em⟩:=OL rfl (UI (pY h))
   rw[em] at h
   simp only[M.A7] at h
   cases hw
   obtain⟨r,xs,r1,r2,r3⟩:=h3.get ed
   have hl:Ou (ps.map V.ref).length j=some n:=by rw[zc,h3.length];exact en
   refine⟨p,_,j,.ref r,rfl,rfl,.of (s1 _ _ h2),by rw[XX hl,zH,r1];rfl,?_⟩
   refine b2 P0 P σ H1 _ ρ (E.same s1) ?_
   cases q2:g ρ with
   |bad=>rw[q2] at h;exact h.elim
   |ex x=>rw[q2] at h;exact fun H' s'=>h H' (s1.trans s')
   |ok kb =>
    rw[q2] at h
    simp only[M.A7] at h
    intro u H2 s2 hu
    unfold cS at h
    split at h
    ·rename_i bY;cases bY
    ·rename_i jj j' bY
     cases bY
     split at h
     ·rename_i d e
      cases hu
      obtain⟨z,k1,k2⟩:=(r3.mono (s1.trans s2).del).QU e
      exact⟨r,xs,j',z,rfl,rfl,.of (s2 _ _ (s1 _ _ r2)),k1,h _ H2 (s1.trans s2) k2⟩
     ·exact h.elim
    ·exact h.elim
 ·exact h.elim
theorem By.set {K:za}{H H':Hp}{P:Addr->Prop}(sm:Ad (del H P) (del H' P)){r:Addr}{xs:List V}{ds:List D}(hr:H' r=some (.lst xs)) (hx:Ag K (del H' P) xs ds) (k:∀ a,a≠r->H' a=H a):∀ {ps:List Addr}{C2:List (List D)}{n:Nat},ps.Nodup->ps[n]? =some r->By K H P ps C2->By K H' P ps (C2.set n ds)
 |_,_,_,_,e,.nil=>by simp at e
 |_,_,0,nd,e,.cons h1 h2 t=>by
  simp at e;subst e
  rw[yP] at nd
  exact .cons hr hx (t.move sm fun a ha=>k a fun z=>nd.1 (by rw[<-z];exact ha))
 |q::ps,d::C2,n + 1,nd,e,.cons h1 h2 t=>by
  rw[yP] at nd
  have e':ps[n]? =some r:=by simpa using e
  refine .cons ((k q fun z=>nd.1 (by rw[z];exact zk e')).trans h1) (h2.mono sm) (t.set sm hr hx k nd.2 e')
noncomputable def dO (i:Nat) (ρ:Ab) (C2:List (List D)) (d ka:D) (ds:List D) (kb:D):M Out:=match ka,kb with
 | .int j,.int l=>(match Ou C2.length j,Ou ds.length l with|some n,some m=>.ok (.next (ρ.set i (some (.ow (.rows (C2.set n (ds.set m d)))))))|_,_=>.bad)
 |_,_=>.bad
noncomputable def UJ (i:Nat) (ρ:Ab) (ma mb:M D) (d:D):M Out:=match ρ[i]? with
 |some (some (.ow (.rows C2)))=>ma.bind fun ka=>(rowAt C2 ka).bind fun ds=>mb.bind fun kb=>dO i ρ C2 d ka ds kb
 |_=>.bad
theorem dP (i:Nat){x:Str}{p1 p2 ay:Pos}(hv:PE X (.Name x p1) (Lp i)) (he:DE X WX true e g2) (ha:DE X WX true a f) (hb:DE X WX true b g) (w5:Hl a:=by exact fun _ _=>rfl)
 (hs:swapsWithSole [.Subscript (.Subscript (.Name x p1) a p2) b ay] e pos.line X.env=pure false:=by rfl) (hw:swappedStores [.Subscript (.Subscript (.Name x p1) a p2) b ay] e X.env=pure none:=by rfl) (h1:(assignEach [.Subscript (.Subscript (.Name x p1) a p2) b ay] X.env).map (·.2)=[assign (.Subscript (.Subscript (.Name x p1) a p2) b ay) X.env]:=by rfl)
 (ga:∀ v,assign (.Subscript (.Subscript (.Name x p1) a p2) b ay) X.env v=(do
  let ov <-holding [v] (eval (.Subscript (.Name x p1) a p2) X.env)
  let iv <-holding [v,ov] (eval b X.env)
  standAt ay
  holding [v,ov,iv] (setItem ov iv v)
  release [v,ov,iv] []):=by intro _;rfl) :
 DS X WX (.Assign [.Subscript (.Subscript (.Name x p1) a p2) b ay] e pos) (fun ρ=>(g2 ρ).bind (UJ i ρ (f ρ) (g ρ))):=by
 obtain⟨te,e1,e2⟩:=he
 obtain⟨ta,a1,a2⟩:=ha
 obtain⟨tb,b1,b2⟩:=hb
 refine⟨_,X1 e1 (X0 (Uk LG hv a1 w5) b1 set_list ga) hs hw h1,fun P0 P σ H Z ρ E h=>?_⟩
 dsimp only at h
 refine e2 P0 P σ H _ ρ E ?_
 cases q0:g2 ρ with
 |bad=>rw[q0] at h;exact h
 |ex x=>rw[q0] at h;exact fun H' s=>h H' P (E.tr s)
 |ok d =>
  rw[q0] at h
  simp only[M.A7] at h
  intro v H0 s0 om
  have E0:=E.same s0
  unfold UJ at h
  split at h
  ·rename_i C2 uX
   obtain⟨v',fp,h1,o1,h4,nd⟩:=E0.ows i _ uX rfl
   have oa:=o1
   obtain⟨p,ps,rfl,rfl,h2,h3⟩:=o1
   refine⟨_,h1,a2 P0 P σ H0 _ ρ E0 ?_⟩
   cases q:f ρ with
   |bad=>rw[q] at h;exact h.elim
   |ex x=>rw[q] at h;exact fun H' s=>h H' P ((E.tr s0).trans (E0.tr s))
   |ok ka =>
    rw[q] at h
    simp only[M.A7] at h
    intro w H1 s1 hw
    obtain⟨j,n,ds,rfl,en,ed,em⟩:=OL rfl (UI (iB h))
    rw[em] at h
    simp only[M.A7] at h
    cases hw
    obtain⟨r,xs,r1,r2,r3⟩:=h3.get ed
    have hl:Ou (ps.map V.ref).length j=some n:=by rw[zc,h3.length];exact en
    refine⟨p,_,j,.ref r,rfl,rfl,.of (s1 _ _ h2),by rw[XX hl,zH,r1];rfl,?_⟩
    have E1:=E0.same s1
    refine b2 P0 P σ H1 _ ρ E1 ?_
    cases q2:g ρ with
    |bad=>rw[q2] at h;exact h.elim
    |ex x=>rw[q2] at h;exact fun H' s'=>h H' P ((E.tr s0).trans ((E0.tr s1).trans (E1.tr s')))
    |ok kb =>
     rw[q2] at h
     simp only[M.A7] at h
     intro u H2 s2 hu
     unfold dO at h
     split at h
     ·rename_i j' l bY
      cases bY
      cases hu
      split at h
      ·rename_i n' m em w6
       rw[en] at em;cases em
       have E2:=E1.same s2
       have cA:=s1.trans s2
       have rm:r∈ps:=zk r1
       have rP:=h4 r (zf _ rm)
       have d0:=yP.mp nd
       have rp:r≠p:=fun z=>d0.1 (by rw[<-z];exact rm)
       have sd:del (upd H2 r (.lst (xs.set m v))) P=del H2 P:=by
        funext b
        by_cases hb:P b
        ·rw[D3 hb,D3 hb]
        ·rw[Ax hb,Ax hb,Ah (fun z=>hb (by rw[z];exact rP.1))]
       have sm:Ad (del H2 P) (del (upd H2 r (.lst (xs.set m v))) P):=by rw[sd];exact Ad.refl _
       have ob:=oa.same cA
       refine⟨r,xs,l,m,rfl,rfl,cA _ _ r2,by rw[r3.length];exact w6,?_⟩
       have key:=E2.VP (P':=P) (H':=upd H2 r (.lst (xs.set m v))) (i:=i) (v:=.ref p) (c:=.ow (.rows (C2.set n (ds.set m d)))) (fp:=p::ps) (fun a h=>h) (fun a h=>?_) sm (fun j2 c' v' ai af g1 g2 g3 a ha=>?_)
        ⟨p,ps,rfl,rfl,by rw[Ah (yL rp)];exact cA _ _ h2,?_⟩ h4 nd
       ·rw[Kv h1] at key
        exact h _ _ _ ((E.tr s0).trans ((E0.tr cA).trans ⟨sm,fun a h=>by rw[Ah (fun z=>rP.2 (by rw[<-z];exact h))]⟩)) key
       ·by_cases ha:a=r
        ·subst ha;exact Dt.lst Ar
        ·unfold Dt;rw[Ah ha];exact E2.Cq a h
       ·have n1:=E2.apart j2 i _ _ _ _ _ _ g1 uX g2 h1 g3 ob (yL af) a ha
        exact⟨Ah fun z=>n1 (by rw[z];exact zf _ rm),n1⟩
       ·have w9:By X.K H2 P ps C2:=h3.move cA.del fun a ha=>by obtain⟨ys,z⟩:=h3.at a ha;rw[z];exact cA _ _ z
        refine w9.set sm Ar ?_ (fun a ha=>Ah ha) d0.2 r1
        rw[sd]
        exact MI ((om.mono s1.del).mono s2.del) m (r3.mono cA.del)
      ·exact h.elim
     ·exact h.elim
  ·exact h.elim
end
end L2
namespace L2
open PySem PySem.Spec PyProof.Rows
section
variable {X:Cx}{WX:Str->Hp->Prop}{c:Bool}{P0:EA}{P:Addr->Prop}{H:Hp}{σ:St}{ρ:Ab}{a b e:Expr}{f g g2:Ab->M D}{pos:Pos}
theorem DU:∀ {ds:List D}{ns:List Int},CG ds=some ns->ds=ns.map D.int
 |[],ns,h=>by cases h;rfl
 | .int b::r,bs,h=>by
  rw[CG] at h
  cases q:CG r with
  |none=>rw[q] at h;cases h
  |some wz=>rw[q] at h;cases h;rw[DU q];rfl
 | .AA::r,bs,h=>by cases h
 | .bl _::r,bs,h=>by cases h
 | .str _::r,bs,h=>by cases h
 | .tup _::r,bs,h=>by cases h
 | .lst _::r,bs,h=>by cases h
 | .DM _::r,bs,h=>by cases h
 | .Bi _ _ _::r,bs,h=>by cases h
 | .ins _ _ _::r,bs,h=>by cases h
theorem Ec {K:za}{H:Hp}:∀ {vs:List V}{bs:List Int},Ag K H vs (bs.map D.int)->vs=bs.map V.int
 |_,[],.nil=>rfl
 |_,b::r,.cons h t=>by cases h;rw[Ec t];rfl
end
end L2
namespace L2
open PySem PySem.Spec PyProof.Rows
noncomputable def cst:Option (Int×Int)->D
 |none=>.AA
 |some p=>.tup [.int p.1,.int p.2]
noncomputable def Aq:Option (Int×Int)->Option (Int×Int)->Option (Int×Int)
 |some p,some q=>some (p.1 + q.1,p.2 + q.2)
 |_,_=>none
noncomputable def iC (p q:Int×Int):Int×Int:=if p.1 < q.1\/(p.1=q.1/\p.2<=q.2) then p else q
noncomputable def DC:Option (Int×Int)->Option (Int×Int)->Option (Int×Int)
 |none,b=>b
 |some p,none=>some p
 |some p,some q=>some (iC p q)
noncomputable def FA (cs:List (Option (Int×Int))):Option (Int×Int):=cs.foldl DC none
theorem GG (cs:List (Option (Int×Int))):B9 (fun d ρ=>.ok (ρ.set 0 (some (.val d)))) (fun ρ=>(rv 0 ρ).bind fun x=>.ok (!Cz x)) (rv 0) (cs.map cst) [none]=.ok ((cs.filterMap id).map fun p=>cst (some p)):=by
 induction cs with
 |nil=>rfl
 |cons c r ih =>
  rw[zg,B9]
  cases c with
  |none =>
   show B9 _ _ _ (r.map cst) [none]=_
   rw[ih];rfl
  |some p =>
   show (match B9 _ _ _ (r.map cst) [none] with | .ok ys=>M.ok (cst (some p)::ys)|_=>.bad)=_
   rw[ih];rfl
theorem VW (ps:List (Int×Int)):GC (ps.map fun p=>cst (some p))=some (ps.map fun p=>(cst (some p),[p.1,p.2])):=by
 induction ps with
 |nil=>rfl
 |cons p r ih=>rw[zg,GC,ih];rfl
theorem XY (cs:List (Option (Int×Int))):AX ((cs.filterMap id).map fun p=>(cst (some p),[p.1,p.2]))=(FA cs).map fun p=>(cst (some p),[p.1,p.2]):=by
 have key:∀(cs:List (Option (Int×Int))) (z:Option (Int×Int)),((cs.filterMap id).map fun p=>(cst (some p),[p.1,p.2])).foldl BJ (z.map fun p=>(cst (some p),[p.1,p.2]))=(cs.foldl DC z).map fun p=>(cst (some p),[p.1,p.2]):=by
  intro cs
  induction cs with
  |nil=>intro z;rfl
  |cons c r ih =>
   intro z
   cases c with
   |none =>
    rw[show List.filterMap id (none::r)=List.filterMap id r from rfl,zV,ih z]
    cases z<;>rfl
   |some q =>
    rw[show List.filterMap id (some q::r)=q::List.filterMap id r from rfl,zg,zV,zV,<-ih (DC z (some q))]
    congr 1
    cases z with
    |none=>rfl
    |some p =>
     simp only[zaf,BJ,HT.Fv,HT.EV,DC,iC]
     by_cases h1:q.1=p.1
     ·by_cases h2:q.2=p.2
      ·rw[if_pos (show p.1 < q.1\/(p.1=q.1/\p.2<=q.2) by omega)]
       simp[h1,h2]
      ·by_cases h3:q.2 < p.2
       ·rw[if_neg (show ¬ (p.1 < q.1\/(p.1=q.1/\p.2<=q.2)) by omega)]
        simp[h1,h2,h3]
       ·rw[if_pos (show p.1 < q.1\/(p.1=q.1/\p.2<=q.2) by omega)]
        simp[h1,h2,h3]
     ·by_cases h3:q.1 < p.1
      ·rw[if_neg (show ¬ (p.1 < q.1\/(p.1=q.1/\p.2<=q.2)) by omega)]
       simp[h1,h3]
      ·rw[if_pos (show p.1 < q.1\/(p.1=q.1/\p.2<=q.2) by omega)]
       simp[h1,h3]
 exact key cs none
theorem UK (cs:List (Option (Int×Int))):Uy (.lst ((cs.filterMap id).map fun p=>cst (some p))) .AA=.ok (cst (FA cs)):=by
 simp only[Uy,VW,XY]
 cases FA cs<;>rfl
theorem Rj (cs:List (Option (Int×Int))):Je (B9 (fun d ρ=>.ok (ρ.set 0 (some (.val d)))) (fun ρ=>(rv 0 ρ).bind fun x=>.ok (!Cz x)) (rv 0) (cs.map cst) [none])=.ok (.lst ((cs.filterMap id).map fun p=>cst (some p))):=by
 rw[GG];rfl
noncomputable abbrev Co:=Option (Int×Int)
noncomputable def BN:Co->Co->Prop
 |_,none=>True
 |none,some _=>False
 |some p,some q=>p.1 < q.1\/(p.1=q.1/\p.2<=q.2)
theorem C4:∀ a:Co,BN a a
 |none=>trivial
 |some p=>.inr ⟨rfl,Int.le_refl _⟩
theorem Ao:∀ {a b c:Co},BN a b->BN b c->BN a c
 |_,_,none,_,_=>trivial
 |none,none,some _,_,h=>h.elim
 |some _,none,some _,_,h=>h.elim
 |none,some _,some _,h,_=>h.elim
 |some p,some q,some r,h1,h2=>by simp only[BN] at *;omega
theorem MQ:∀ {a b:Co},BN a b->BN b a->a=b
 |none,none,_,_=>rfl
 |none,some _,h,_=>h.elim
 |some _,none,_,h=>h.elim
 |some p,some q,h1,h2=>by
  obtain⟨p1,p2⟩:=p
  obtain⟨q1,q2⟩:=q
  simp only[BN] at h1 h2
  have e1:p1=q1:=by omega
  have e2:p2=q2:=by omega
  rw[e1,e2]
theorem Bm:∀ a b:Co,(DC a b=a/\BN a b)\/(DC a b=b/\BN b a/\a≠b)
 |none,none=>.inl ⟨rfl,trivial⟩
 |none,some q=>.inr ⟨rfl,trivial,fun h=>by cases h⟩
 |some p,none=>.inl ⟨rfl,trivial⟩
 |some p,some q=>by
  unfold DC iC
  by_cases h:p.1 < q.1\/(p.1=q.1/\p.2<=q.2)
  ·dsimp only;rw[if_pos h];exact .inl ⟨rfl,h⟩
  ·dsimp only;rw[if_neg h]
   refine .inr ⟨rfl,?_,fun e=>?_⟩
   ·simp only[BN];omega
   ·cases e;exact h (.inr ⟨rfl,Int.le_refl _⟩)
theorem EF (a b:Co):BN (DC a b) a:=by
 rcases Bm a b with ⟨e,h⟩|⟨e,h,_⟩
 ·rw[e];exact C4 a
 ·rw[e];exact h
theorem EG (a b:Co):BN (DC a b) b:=by
 rcases Bm a b with ⟨e,h⟩|⟨e,h,_⟩
 ·rw[e];exact h
 ·rw[e];exact C4 b
theorem Rk (cs:List Co):∀ z:Co,BN (cs.foldl DC z) z/\(∀ x∈cs,BN (cs.foldl DC z) x)/\(cs.foldl DC z=z\/cs.foldl DC z∈cs):=by
 induction cs with
 |nil=>intro z;exact⟨C4 z,(fun x h=>by cases h),.inl rfl⟩
 |cons c r ih =>
  intro z
  obtain⟨h1,h2,h3⟩:=ih (DC z c)
  rw[zV]
  refine⟨Ao h1 (EF z c),fun x hx=>?_,?_⟩
  ·rcases zu.mp hx with rfl|hx
   ·exact Ao h1 (EG z x)
   ·exact h2 x hx
  ·rcases h3 with h3|h3
   ·rw[h3]
    rcases Bm z c with ⟨e,_⟩|⟨e,_⟩
    ·exact .inl e
    ·rw[e];exact .inr ze
   ·exact .inr (zf _ h3)
theorem LM {cs:List Co}{x:Co}(h:x∈cs):BN (FA cs) x:=(Rk cs none).2.1 x h
theorem Ji (cs:List Co):FA cs=none\/FA cs∈cs:=(Rk cs none).2.2
theorem dQ {cs:List Co}{v:Co}(h1:∀ x∈cs,BN v x) (h2:v≠none->∃ x∈cs,BN x v):FA cs=v:=by
 refine MQ ?_ ?_
 ·cases v with
  |none=>cases FA cs<;>exact trivial
  |some p =>
   obtain⟨x,hx,hl⟩:=h2 (by intro z;cases z)
   exact Ao (LM hx) hl
 ·rcases Ji cs with h|h
  ·rw[h];cases v<;>exact trivial
  ·exact h1 _ h
theorem Cb:∀ a b:Co,Aq a b=Aq b a
 |none,none=>rfl
 |none,some _=>rfl
 |some _,none=>rfl
 |some p,some q=>by simp only[Aq];rw[Int.add_comm,Int.add_comm p.2]
theorem Cc:∀ {a b:Co}(c:Co),BN a b->BN (Aq a c) (Aq b c)
 |_,none,c,_=>by cases c<;>exact trivial
 |none,some _,c,h=>h.elim
 |some p,some q,none,h=>trivial
 |some p,some q,some r,h=>by simp only[Aq,BN] at *;omega
noncomputable def NN:Co->Prop
 |none=>True
 |some p=>0<=p.1/\0<=p.2
theorem MR:∀ {a b:Co},NN a->NN b->NN (Aq a b)
 |none,none,_,_=>trivial
 |none,some _,_,_=>trivial
 |some _,none,_,_=>trivial
 |some p,some q,h1,h2=>by simp only[Aq,NN] at *;omega
theorem XZ {a b:Co}(h1:NN a) (h2:NN b):NN (DC a b):=by
 rcases Bm a b with ⟨e,_⟩|⟨e,_⟩
 ·rw[e];exact h1
 ·rw[e];exact h2
noncomputable def ltN (a b:Co):Prop:=NN a/\BN a b/\a≠b
theorem VX (a b c:Co) (h1:ltN a b) (h2:ltN b c):ltN a c :=
 ⟨h1.1,Ao h1.2.1 h2.2.1,fun e=>by subst e;exact h1.2.2 (MQ h1.2.1 h2.2.1)⟩
noncomputable def rank:Co->Nat×Nat×Nat
 |none=>(1,0,0)
 |some p=>(0,p.1.toNat,p.2.toNat)
theorem lA:∀ a:Co,NN a->Acc ltN a:=by
 have wf:WellFounded (InvImage (Prod.Lex (· < ·) (Prod.Lex (· < ·) (· < ·))) rank):=InvImage.wf rank (Prod.lex Nat.lt_wfRel (Prod.lex Nat.lt_wfRel Nat.lt_wfRel)).wf
 intro a
 induction a using wf.induction with
 |h a ih =>
  intro ha
  refine .intro _ fun b ⟨hb,hl,af⟩=>ih b ?_ hb
  cases b with
  |none=>cases a with
   |none=>exact (af rfl).elim
   |some p=>exact hl.elim
  |some q=>cases a with
   |none=>exact Prod.Lex.left _ _ (by decide)
   |some p =>
    obtain⟨p1,p2⟩:=p
    obtain⟨q1,q2⟩:=q
    simp only[BN,NN] at hl ha hb
    show Prod.Lex _ _ (0,q1.toNat,q2.toNat) (0,p1.toNat,p2.toNat)
    refine Prod.Lex.right _ ?_
    by_cases h:q1 < p1
    ·exact Prod.Lex.left _ _ (by omega)
    ·have e:q1=p1:=by omega
     subst e
     have h2:q2≠p2:=fun e=>af (by rw[e])
     exact Prod.Lex.right _ (by omega)
theorem dR (a:Co):Acc ltN a:=.intro _ fun b h=>lA b h.1
theorem VY (cs:List Co):Acc (NR ltN) cs:=MO ltN dR cs.length cs rfl
structure Road where
 a:Int
 b:Int
 l:Option Int
 w:Int
noncomputable def GH:Option Int->D
 |none=>.AA
 |some i=>.int i
noncomputable def BI (r:Road):D:=.tup [.int r.a,.int r.b,GH r.l,.int r.w]
noncomputable def As (m:Int) (rs:List Road):D:=.tup [.int m,.lst (rs.map BI)]
noncomputable def C5 (r:Road):Co:=match r.l with | none=>none | some l=>some (l,1)
structure Hu (m:Nat) (r:Road):Prop where
 a0:0<=r.a
 a1:r.a < m
 b0:0<=r.b
 b1:r.b < m
 l0:∀ l,r.l=some l->0<=l
noncomputable def Jj (r:Road):Road:=⟨r.b,r.a,r.l,r.w⟩
theorem UL {m:Nat}{r:Road}(h:Hu m r):NN (C5 r):=by
 unfold C5
 split
 ·trivial
 ·rename_i l e
  exact⟨h.l0 l e,by show (0:Int)<=1;decide⟩
noncomputable def atC (cs:List Co) (i:Int):Co:=cs.getD i.toNat none
theorem Cu {cs:List Co}{i:Int}(h0:0<=i) (h1:i < cs.length):cs[i.toNat]? =some (atC cs i):=by
 unfold atC
 rw[zD,zt (show i.toNat < cs.length by omega)]
 rfl
theorem set_same {α:Type}:∀ {l:List α}{i:Nat}{x:α},l[i]? =some x->l.set i x=l
 |[],_,_,h=>by cases h
 |y::r,0,x,h=>by cases h;rfl
 |y::r,i + 1,x,h=>by rw[zo,set_same (by simpa using h)]
noncomputable def D6 (r:Road) (cs:List Co):List Co:=cs.set r.b.toNat (DC (atC cs r.b) (Aq (atC cs r.a) (C5 r)))
theorem Hv {cs:List Co}{i j:Int}{v:Co}(hi:0<=i) (hj:0<=j) (h1:i < cs.length):atC (cs.set i.toNat v) j=if j=i then v else atC cs j:=by
 unfold atC
 rw[zD,zD]
 by_cases h:j=i
 ·subst h
  rw[if_pos rfl,zQ (by omega)]
  rfl
 ·rw[if_neg h,yS (by omega)]
structure Good (m s:Nat) (rs:List Road) (cs:List Co):Prop where
 len:cs.length=m
 st:atC cs s=some (0,0)
 nn:∀ c∈cs,NN c
 sup:∀ p:Int,0<=p->p < m->p≠s->atC cs p≠none->∃ r∈rs,r.b=p/\BN (Aq (atC cs r.a) (C5 r)) (atC cs p)
theorem Good.iD {m s:Nat}{rs:List Road}{cs:List Co}(g:Good m s rs cs){i:Int}(h0:0<=i) (h1:i < m):NN (atC cs i) :=
 g.nn _ (zk (Cu h0 (by rw[g.len];exact h1)))
theorem VZ {m s:Nat}{rs:List Road}{cs:List Co}{r:Road}(g:Good m s rs cs) (hr:r∈rs) (Av:∀ r∈rs,Hu m r) :
 Good m s rs (D6 r cs)/\(∀ i:Int,0<=i->BN (atC (D6 r cs) i) (atC cs i))/\(DC (atC cs r.b) (Aq (atC cs r.a) (C5 r))=atC cs r.b->D6 r cs=cs) /\
 (DC (atC cs r.b) (Aq (atC cs r.a) (C5 r))≠atC cs r.b->NR ltN (D6 r cs) cs):=by
 have ok:=Av r hr
 have cg:r.b < cs.length:=by rw[g.len];exact ok.b1
 have hx:NN (Aq (atC cs r.a) (C5 r)):=MR (g.iD ok.a0 ok.a1) (UL ok)
 have hv:NN (DC (atC cs r.b) (Aq (atC cs r.a) (C5 r))):=XZ (g.iD ok.b0 ok.b1) hx
 have bp:∀ i:Int,0<=i->atC (D6 r cs) i=if i=r.b then DC (atC cs r.b) (Aq (atC cs r.a) (C5 r)) else atC cs i:=fun i hi=>Hv ok.b0 hi cg
 have le:∀ i:Int,0<=i->BN (atC (D6 r cs) i) (atC cs i):=fun i hi=>by
  rw[bp i hi]
  by_cases h:i=r.b
  ·rw[if_pos h,h];exact EF _ _
  ·rw[if_neg h];exact C4 _
 refine⟨⟨by unfold D6;rw[yQ];exact g.len,?_,fun c hc=>?_,fun p h0 h1 hp hn=>?_⟩,le,fun h=>?_,fun h=>?_⟩
 ·rw[bp s (by omega)]
  by_cases h:(s:Int)=r.b
  ·rw[if_pos h,<-h,g.st]
   cases q:Aq (atC cs r.a) (C5 r) with
   |none=>rfl
   |some x =>
    rw[q] at hx
    unfold DC iC
    dsimp only
    rw[if_pos (by simp only[NN] at hx;omega)]
  ·rw[if_neg h];exact g.st
 ·unfold D6 at hc
  rcases zbb hc with h|h
  ·exact g.nn c h
  ·rw[h];exact hv
 ·rw[bp p h0] at hn ⊢
  by_cases h:p=r.b
  ·rw[if_pos h] at hn ⊢
   rcases Bm (atC cs r.b) (Aq (atC cs r.a) (C5 r)) with ⟨e,_⟩|⟨e,_⟩
   ·rw[e] at hn ⊢
    subst h
    obtain⟨r',h2,h3,h4⟩:=g.sup r.b h0 h1 hp hn
    exact⟨r',h2,h3,Ao (Cc _ (le r'.a (Av r' h2).a0)) h4⟩
   ·rw[e]
    exact⟨r,hr,h.symm,Cc _ (le r.a ok.a0)⟩
  ·rw[if_neg h] at hn ⊢
   obtain⟨r',h2,h3,h4⟩:=g.sup p h0 h1 hp hn
   exact⟨r',h2,h3,Ao (Cc _ (le r'.a (Av r' h2).a0)) h4⟩
 ·unfold D6
  rw[h]
  exact set_same (Cu ok.b0 cg)
 ·unfold D6
  exact UH ltN (Cu ok.b0 cg) ⟨hv,EF _ _,h⟩
noncomputable def Right (m s:Nat) (rs:List Road) (cs:List Co):Prop :=
 cs.length=m/\atC cs s=some (0,0)/\(∀ c∈cs,NN c)/\∀ p:Int,0<=p->p < m->p≠s->atC cs p=FA ((rs.filter fun r=>decide (r.b=p)).map fun r=>Aq (C5 r) (atC cs r.a))
theorem right_of {m s:Nat}{rs:List Road}{cs:List Co}(g:Good m s rs cs) (h:∀ r∈rs,DC (atC cs r.b) (Aq (atC cs r.a) (C5 r))=atC cs r.b):Right m s rs cs:=by
 refine⟨g.len,g.st,g.nn,fun p h0 h1 hp=>?_⟩
 symm
 refine dQ (fun x hx=>?_) fun hn=>?_
 ·obtain⟨r,hr,rfl⟩:=zE.mp hx
  obtain⟨h2,h3⟩:=za2.mp hr
  have e:r.b=p:=by simpa using h3
  have:=EG (atC cs r.b) (Aq (atC cs r.a) (C5 r))
  rw[h r h2,e] at this
  rw[Cb]
  exact this
 ·obtain⟨r,h2,h3,h4⟩:=g.sup p h0 h1 hp hn
  refine⟨_,zE.mpr ⟨r,za2.mpr ⟨h2,by simpa using h3⟩,rfl⟩,?_⟩
  rw[Cb]
  exact h4
theorem MS {m s:Nat}(rs:List Road) (h:s < m):Good m s rs ((zw m none).set s (some (0,0))):=by
 have hl:(zw m (none:Co)).length=m:=zb1
 have bp:∀ i:Int,0<=i->atC ((zw m none).set s (some (0,0))) i=if i=s then some (0,0) else none:=fun i hi=>by
  have:=Hv (cs:=zw m none) (i:=(s:Int)) (j:=i) (v:=some (0,0)) (by omega) hi (by rw[hl];omega)
  rw[zZ] at this
  rw[this]
  by_cases h:i=s
  ·rw[if_pos h,if_pos h]
  ·rw[if_neg h,if_neg h]
   unfold atC
   rw[zD,zad]
   split<;>rfl
 refine⟨by rw[yQ,hl],?_,fun c hc=>?_,fun p h0 h1 hp hn=>?_⟩
 ·rw[bp s (by omega),if_pos rfl]
 ·rcases zbb hc with h|h
  ·rw[List.eq_of_mem_replicate h];trivial
  ·rw[h];exact⟨Int.le_refl _,Int.le_refl _⟩
 ·rw[bp p h0,if_neg hp] at hn
  exact (hn rfl).elim
theorem lB {α:Type}{l:List α}{n:Int}(h:0<=n/\n < l.length):QU l n=l[n.toNat]? :=by
 unfold QU Ou
 obtain⟨h1,h2⟩:=h
 simp[h1,h2]
theorem LN {n:Nat}{j:Int}(h:0<=j/\j < n):Ou n j=some j.toNat:=by
 unfold Ou
 obtain⟨h1,h2⟩:=h
 simp[h1,h2]
theorem Jk {α:Type}{f:α->D}{l:List α}{n:Int}{x:α}(h0:0<=n) (h:l[n.toNat]? =some x):cS (.lst (l.map f)) (.int n)=.ok (f x):=by
 have h1:=(zA.mp h).1
 unfold cS
 dsimp only
 rw[lB (by rw[zc];omega),zH,h]
 rfl
theorem Ed {cs:List Co}{i:Int}(h0:0<=i) (h1:i < cs.length):cS (.lst (cs.map cst)) (.int i)=.ok (cst (atC cs i)):=Jk h0 (Cu h0 h1)
theorem MT {n:Nat}(c:Co):Pl (n + 1) (cst c):=by
 cases c with
 |none=>exact kU
 |some p=>exact kW (UC (IF _) (UC (IF _) kX))
theorem UM (a b:Co):Aw (cst a) (cst b)=decide (a=b):=by
 rcases a with _|⟨a1,a2⟩<;>rcases b with _|⟨b1,b2⟩
 ·simp[cst,Aw]
 ·simp[cst,Aw]
 ·simp[cst,Aw]
 ·rw[zar]
  simp[cst,Aw,Cy]
theorem dS (a b:Co):cR 16 (cst a) (cst b)=.ok (.bl (!decide (a=b))):=by rw[Th (MT (n:=15) a) (MT (n:=15) b),UM]
theorem dU (a b:Co):cQ 16 (cst a) (cst b)=.ok (.bl (decide (a=b))):=by rw[Tg (MT (n:=15) a) (MT (n:=15) b),UM]
theorem UN (c:Co):Jg (cst c)=true:=by
 cases c<;>simp[cst,Jg,Jh]
theorem PL (c:Co):dp (.ok (cst c))=.ok (cst c):=by
 unfold dp
 rw[M.A7,if_pos (UN c)]
theorem AS {a b:Int}(h:0 < b):EB (.int a) (.int b)=.ok (.int (a % b)):=by
 unfold EB Bw
 dsimp only
 rw[if_pos h]
theorem DV {a b:Int}(h:X7 a b):J9 (.int a) (.int b)=.ok (.int (a / b)):=by
 unfold J9 Bw
 dsimp only
 rw[if_pos h]
end L2
namespace L2
open PySem PySem.Spec PyProof.Rows
inductive Wk (rs:List Road):Int->Int->Int×Int->Prop
 |nil (u:Int):Wk rs u u (0,0)
 |cons {r:Road} {l:Int} {w:Int} {c:Int×Int}:r∈rs->r.l=some l->Wk rs r.b w c->Wk rs r.a w (l + c.1,1 + c.2)
theorem Wk.trans {rs:List Road}{u v w:Int}{c d:Int×Int}(h:Wk rs u v c) (k:Wk rs v w d):Wk rs u w (c.1 + d.1,c.2 + d.2):=by
 induction h with
 |nil u=>simpa using k
 |cons hr hl _ ih =>
  have:=Wk.cons hr hl (ih k)
  simpa [zb8] using this
theorem Wk.one {rs:List Road}{r:Road}{l:Int}(hr:r∈rs) (hl:r.l=some l):Wk rs r.a r.b (l,1):=by
 have:=Wk.cons hr hl (Wk.nil (rs:=rs) r.b)
 simpa using this
noncomputable def BQ (rs:List Road) (u w:Int) (x:Co):Prop:=(∀ c,Wk rs u w c->BN x (some c))/\∀ p,x=some p->Wk rs u w p
theorem BQ.Cr {rs:List Road}{u w:Int}{x y:Co}(h:BQ rs u w x) (k:BQ rs u w y):x=y:=by
 refine MQ ?_ ?_
 ·cases y with
  |none=>cases x<;>exact trivial
  |some q=>exact h.1 q (k.2 q rfl)
 ·cases x with
  |none=>cases y<;>exact trivial
  |some q=>exact k.1 q (h.2 q rfl)
theorem Jl {r:Road}{c:Int×Int}(h:C5 r=some c):∃ l,r.l=some l/\c=(l,1):=by
 unfold C5 at h
 split at h
 ·cases h
 ·rename_i l e;cases h;exact⟨l,e,rfl⟩
theorem Fe {a b:Co}{c:Int×Int}(h:Aq a b=some c):∃ p q,a=some p/\b=some q/\c=(p.1 + q.1,p.2 + q.2):=by
 cases a with
 |none=>cases h
 |some p=>cases b with
  |none=>cases h
  |some q=>cases h;exact⟨p,q,rfl,rfl,rfl⟩
theorem Right.min_le {m s:Nat}{rs:List Road}{cs:List Co}(h:Right m s rs cs){r:Road}(hr:r∈rs) (Av:Hu m r):BN (atC cs r.b) (Aq (C5 r) (atC cs r.a)):=by
 obtain⟨h1,h2,h3,h4⟩:=h
 by_cases hs:r.b=s
 ·rw[hs,h2]
  have hn:NN (Aq (C5 r) (atC cs r.a)):=MR (UL Av) (h3 _ (zk (Cu Av.a0 (by rw[h1];exact Av.a1))))
  cases q:Aq (C5 r) (atC cs r.a) with
  |none=>exact trivial
  |some p=>rw[q] at hn;simp only[NN] at hn;simp only[BN];omega
 ·rw[h4 r.b Av.b0 Av.b1 hs]
  exact LM (zE.mpr ⟨r,za2.mpr ⟨hr,by simp⟩,rfl⟩)
theorem W0 {m s:Nat}{rs:List Road}{cs:List Co}(h:Right m s rs cs) (Av:∀ r∈rs,Hu m r){u w:Int}{c:Int×Int}(k:Wk rs u w c):BN (atC cs w) (Aq (atC cs u) (some c)):=by
 induction k with
 |nil u =>
  cases atC cs u with
  |none=>exact trivial
  |some p=>simp only[Aq,BN];omega
 | @cons r l w c hr hl _ ih =>
  refine Ao ih ?_
  have h1:=h.min_le hr (Av r hr)
  have e:C5 r=some (l,1):=by unfold C5;rw[hl]
  rw[e] at h1
  cases q:atC cs r.a with
  |none=>exact trivial
  |some p =>
   rw[q] at h1
   cases q2:atC cs r.b with
   |none=>rw[q2] at h1;exact h1.elim
   |some p2=>rw[q2] at h1;simp only[Aq,BN] at *;omega
theorem W2 {m s:Nat}{rs:List Road}{cs:List Co}(h:Right m s rs cs) (Av:∀ r∈rs,Hu m r):∀(n:Nat) (w:Int) (p:Int×Int),0<=w->w < m->atC cs w=some p->p.2.toNat=n->Wk rs s w p:=by
 obtain⟨h1,h2,h3,h4⟩:=h
 intro n
 induction n with
 |zero =>
  intro w p h0 hw hp hn
  by_cases hs:w=s
  ·rw[hs,h2] at hp;cases hp;rw[hs];exact .nil _
  ·exfalso
   have e:=h4 w h0 hw hs
   rw[hp] at e
   rcases Ji ((rs.filter fun r=>decide (r.b=w)).map fun r=>Aq (C5 r) (atC cs r.a)) with z|z
   ·rw[z] at e;cases e
   ·rw[<-e] at z
    obtain⟨r,hr,e2⟩:=zE.mp z
    have d4:=(za2.mp hr).1
    obtain⟨p1,p2,e3,e4,e5⟩:=Fe e2
    obtain⟨l,hl,rfl⟩:=Jl e3
    have ok:=Av r d4
    have nn:=h3 _ (zk (Cu ok.a0 (by rw[h1];exact ok.a1)))
    rw[e4] at nn
    simp only[NN] at nn
    rw[e5] at hn
    simp only at hn
    omega
 |succ n ih =>
  intro w p h0 hw hp hn
  by_cases hs:w=s
  ·rw[hs,h2] at hp;cases hp;rw[hs];exact .nil _
  ·have e:=h4 w h0 hw hs
   rw[hp] at e
   rcases Ji ((rs.filter fun r=>decide (r.b=w)).map fun r=>Aq (C5 r) (atC cs r.a)) with z|z
   ·rw[z] at e;cases e
   ·rw[<-e] at z
    obtain⟨r,hr,e2⟩:=zE.mp z
    obtain⟨d4,on⟩:=za2.mp hr
    have on:r.b=w:=by simpa using on
    obtain⟨p1,p2,e3,e4,e5⟩:=Fe e2
    obtain⟨l,hl,rfl⟩:=Jl e3
    have ok:=Av r d4
    have nn:=h3 _ (zk (Cu ok.a0 (by rw[h1];exact ok.a1)))
    rw[e4] at nn
    simp only[NN] at nn
    subst e5
    simp only at hn
    have w1:=ih r.a p2 ok.a0 ok.a1 e4 (by omega)
    have w2:=w1.trans (Wk.one d4 hl)
    rw[on] at w2
    have e6:((l + p2.1,1 + p2.2):Int×Int)=(p2.1 + l,p2.2 + 1):=by rw[Int.add_comm l,Int.add_comm 1]
    show Wk rs s w (l + p2.1,1 + p2.2)
    rw[e6]
    exact w2
theorem Right.Y0 {m s:Nat}{rs:List Road}{cs:List Co}(h:Right m s rs cs) (Av:∀ r∈rs,Hu m r){w:Int}(h0:0<=w) (hw:w < m):BQ rs s w (atC cs w):=by
 refine⟨fun c k=>?_,fun p hp=>W2 h Av _ w p h0 hw hp rfl⟩
 have:=W0 h Av k
 rw[h.2.1] at this
 have e:Aq (some (0,0)) (some c)=some c:=by simp[Aq]
 rw[e] at this
 exact this
theorem Tn {a b c d:Co}(h:BN a b) (k:BN c d):BN (Aq a c) (Aq b d):=by
 refine Ao (Cc c h) ?_
 rw[Cb b c,Cb b d]
 exact Cc b k
theorem Ee:∀ a b c:Co,Aq (Aq a b) c=Aq a (Aq b c)
 |none,b,c=>by cases b<;>cases c<;>rfl
 |some p,none,c=>by cases c<;>rfl
 |some p,some q,none=>rfl
 |some p,some q,some r=>by simp only[Aq];rw[zb8,zb8]
theorem OM:∀ a:Co,Aq a (some (0,0))=a
 |none=>rfl
 |some p=>by simp[Aq]
theorem W3 (a:Co):Aq (some (0,0)) a=a:=by rw[Cb];exact OM a
theorem Rl (a:Co):DC a a=a:=by rcases Bm a a with ⟨e,_⟩ | ⟨e,_⟩<;>exact e
theorem Y1 {a b:Co}(h:NN b):BN a (Aq a b):=by
 cases a with
 |none=>exact trivial
 |some p=>cases b with
  |none=>exact trivial
  |some q=>simp only[NN] at h;simp only[Aq,BN];omega
structure FW (m k:Nat) (rs:List Road) (A:Int->Int->Co):Prop where
 dg:∀ x:Int,0<=x->x < m->A x x=some (0,0)
 nn:∀ x y:Int,0<=x->x < m->0<=y->y < m->NN (A x y)
 sd:∀ x y:Int,0<=x->x < m->0<=y->y < m->∀ p,A x y=some p->Wk rs x y p
 ed:∀ r∈rs,BN (A r.a r.b) (C5 r)
 tr:∀ v x y:Int,0<=v->v < k->0<=x->x < m->0<=y->y < m->BN (A x y) (Aq (A x v) (A v y))
noncomputable def over (k:Int) (A:Int->Int->Co):Int->Int->Co:=fun x y=>DC (A x y) (Aq (A x k) (A k y))
theorem Rm {m k:Nat}{rs:List Road}{A:Int->Int->Co}(F:FW m k rs A) (hk:k < m) (x:Int):over k A x k=A x k:=by
 unfold over
 rw[F.dg k (by omega) (by omega),OM,Rl]
theorem Ro {m k:Nat}{rs:List Road}{A:Int->Int->Co}(F:FW m k rs A) (hk:k < m) (y:Int):over k A k y=A k y:=by
 unfold over
 rw[F.dg k (by omega) (by omega),W3,Rl]
theorem Y2 {m k:Nat}{rs:List Road}{A:Int->Int->Co}(F:FW m k rs A) (hk:k < m):FW m (k + 1) rs (over k A):=by
 have k0:(0:Int)<=k:=by omega
 have k1:(k:Int) < m:=by omega
 refine⟨fun x h0 h1=>?_,fun x y h0 h1 h2 h3=>XZ (F.nn x y h0 h1 h2 h3) (MR (F.nn x k h0 h1 k0 k1) (F.nn k y k0 k1 h2 h3)),fun x y h0 h1 h2 h3 p hp=>?_,fun r hr=>Ao (EF _ _) (F.ed r hr),fun v x y v0 v1 h0 h1 h2 h3=>?_⟩
 ·unfold over
  rw[F.dg x h0 h1]
  have hn:NN (Aq (A x k) (A k x)):=MR (F.nn x k h0 h1 k0 k1) (F.nn k x k0 k1 h0 h1)
  cases q:Aq (A x k) (A k x) with
  |none=>rfl
  |some z =>
   rw[q] at hn
   simp only[NN] at hn
   unfold DC iC
   dsimp only
   rw[if_pos (by omega)]
 ·unfold over at hp
  rcases Bm (A x y) (Aq (A x k) (A k y)) with ⟨e,_⟩|⟨e,_⟩
  ·rw[e] at hp;exact F.sd x y h0 h1 h2 h3 p hp
  ·rw[e] at hp
   obtain⟨p1,p2,e1,e2,rfl⟩:=Fe hp
   exact (F.sd x k h0 h1 k0 k1 p1 e1).trans (F.sd k y k0 k1 h2 h3 p2 e2)
 ·by_cases hv:v=k
  ·subst hv
   rw[Rm F hk,Ro F hk]
   exact EG _ _
  ·have vk:v < k:=by omega
   have vm:v < m:=by omega
   have wE:=F.tr v x y v0 vk h0 h1 h2 h3
   have wG:=F.tr v k y v0 vk k0 k1 h2 h3
   have wH:=F.tr v x k v0 vk h0 h1 k0 k1
   have g1:BN (over k A x y) (A x y):=EF _ _
   have g2:BN (over k A x y) (Aq (A x k) (A k y)):=EG _ _
   have wI:=F.nn k v k0 k1 v0 vm
   have wJ:=F.nn v k v0 vm k0 k1
   have e1:over k A x v=DC (A x v) (Aq (A x k) (A k v)):=rfl
   have e2:over k A v y=DC (A v y) (Aq (A v k) (A k y)):=rfl
   rw[e1,e2]
   rcases Bm (A x v) (Aq (A x k) (A k v)) with ⟨e,_⟩|⟨e,_⟩<;>rcases Bm (A v y) (Aq (A v k) (A k y)) with ⟨e',_⟩|⟨e',_⟩<;>rw[e,e']
   ·exact Ao g1 wE
   ·refine Ao g2 ?_
    rw[<-Ee]
    exact Cc _ wH
   ·refine Ao g2 ?_
    rw[Ee,Cb (A x k),Cb (A x k)]
    exact Cc _ wG
   ·refine Ao g2 ?_
    have e3:Aq (Aq (A x k) (A k v)) (Aq (A v k) (A k y))=Aq (Aq (A x k) (A k y)) (Aq (A k v) (A v k)):=by
     rw[Ee,Ee,<-Ee (A k v),Cb (Aq (A k v) (A v k))]
    rw[e3]
    exact Y1 (MR wI wJ)
theorem lC {m:Nat}{rs:List Road}{A:Int->Int->Co}(F:FW m m rs A) (Av:∀ r∈rs,Hu m r){x y:Int}(h0:0<=x) (h1:x < m) (h2:0<=y) (h3:y < m):BQ rs x y (A x y):=by
 refine⟨fun c k=>?_,F.sd x y h0 h1 h2 h3⟩
 induction k with
 |nil u=>rw[F.dg u h0 h1];exact C4 _
 | @cons r l w c hr hl k' ih =>
  have ok:=Av r hr
  have i1:=ih ok.b0 ok.b1 h2 h3
  have t:=F.tr r.b r.a w ok.b0 (by have:=ok.b1;omega) h0 h1 h2 h3
  have e:=F.ed r hr
  have e':C5 r=some (l,1):=by unfold C5;rw[hl]
  rw[e'] at e
  refine Ao t (Ao (Tn e i1) ?_)
  exact C4 _
structure MU (m:Nat) (rs:List Road) (u:Int) (n:Nat) (R:List Co):Prop where
 len:R.length=m
 st:atC R u=some (0,0)
 nn:∀ c∈R,NN c
 sd:∀ y:Int,0<=y->y < m->∀ p,atC R y=some p->Wk rs u y p
 ed:∀ r∈rs.take n,r.a=u->BN (atC R r.b) (C5 r)
theorem W4 {m u:Nat}(rs:List Road) (h:u < m):MU m rs u 0 ((zw m none).set u (some (0,0))):=by
 have g:=MS (m:=m) (s:=u) rs h
 refine⟨g.len,g.st,g.nn,fun y h0 h1 p hp=>?_,fun r hr=>by rw[List.take_zero] at hr;cases hr⟩
 by_cases hy:y=u
 ·rw[hy,g.st] at hp;cases hp;rw[hy];exact .nil _
 ·have:=Hv (cs:=zw m none) (i:=(u:Int)) (j:=y) (v:=some (0,0)) (by omega) h0 (by rw[zb1];omega)
  rw[zZ,if_neg hy] at this
  rw[this] at hp
  unfold atC at hp
  rw[zD,zad] at hp
  split at hp<;>cases hp
theorem Y3 {m:Nat}{rs:List Road}{u:Int}{n:Nat}{R:List Co}{r:Road}(g:MU m rs u n R) (hr:rs[n]? =some r) (hu:r.a≠u):MU m rs u (n + 1) R :=
 ⟨g.len,g.st,g.nn,g.sd,fun r' bq ak=>by
  rw[yZ,hr] at bq
  rcases zy.mp bq with h|h
  ·exact g.ed r' h ak
  ·have:r'=r:=by simpa using h
   rw[this] at ak;exact (hu ak).elim⟩
theorem Y4 {m:Nat}{rs:List Road}{u:Int}{n:Nat}{R:List Co}{r:Road}(g:MU m rs u n R) (hr:rs[n]? =some r) (hu:r.a=u) (Av:∀ r∈rs,Hu m r):MU m rs u (n + 1) (R.set r.b.toNat (DC (atC R r.b) (C5 r))):=by
 have hm:=zk hr
 have ok:=Av r hm
 have cg:r.b < R.length:=by rw[g.len];exact ok.b1
 have bp:∀ i:Int,0<=i->atC (R.set r.b.toNat (DC (atC R r.b) (C5 r))) i=if i=r.b then DC (atC R r.b) (C5 r) else atC R i:=fun i hi=>Hv ok.b0 hi cg
 have nb:NN (atC R r.b):=g.nn _ (zk (Cu ok.b0 cg))
 refine⟨by rw[yQ];exact g.len,?_,fun c hc=>?_,fun y h0 h1 p hp=>?_,fun r' bq ak=>?_⟩
 ·rw[bp u (by rw[<-hu];exact ok.a0)]
  by_cases h:u=r.b
  ·rw[if_pos h,<-h,g.st]
   have hx:=UL ok
   cases q:C5 r with
   |none=>rfl
   |some z =>
    rw[q] at hx
    simp only[NN] at hx
    unfold DC iC
    dsimp only
    rw[if_pos (by omega)]
  ·rw[if_neg h];exact g.st
 ·rcases zbb hc with h|h
  ·exact g.nn c h
  ·rw[h];exact XZ nb (UL ok)
 ·rw[bp y h0] at hp
  by_cases h:y=r.b
  ·rw[if_pos h] at hp
   rcases Bm (atC R r.b) (C5 r) with ⟨e,_⟩|⟨e,_⟩
   ·rw[e] at hp;rw[h];exact g.sd r.b ok.b0 ok.b1 p hp
   ·rw[e] at hp
    obtain⟨l,hl,rfl⟩:=Jl hp
    rw[h,<-hu];exact Wk.one hm hl
  ·rw[if_neg h] at hp;exact g.sd y h0 h1 p hp
 ·have oq:r'∈rs:=yR bq
  rw[bp r'.b (Av r' oq).b0]
  rw[yZ,hr] at bq
  rcases zy.mp bq with h|h
  ·by_cases hb:r'.b=r.b
   ·rw[if_pos hb]
    have:=g.ed r' h ak
    rw[hb] at this
    exact Ao (EF _ _) this
   ·rw[if_neg hb];exact g.ed r' h ak
  ·have e:r'=r:=by simpa using h
   rw[e,if_pos rfl]
   exact EG _ _
noncomputable def at2 (ad:List (List Co)) (x y:Int):Co:=atC (ad.getD x.toNat []) y
noncomputable def AE (ad:List (List Co)):List (List D):=ad.map fun R=>R.map cst
structure O0 (m:Nat) (ad:List (List Co)):Prop where
 len:ad.length=m
 row:∀ R∈ad,R.length=m
theorem O0.get {m:Nat}{ad:List (List Co)}(h:O0 m ad){x:Int}(h0:0<=x) (h1:x < m):ad[x.toNat]? =some (ad.getD x.toNat [])/\(ad.getD x.toNat []).length=m:=by
 have hl:x.toNat < ad.length:=by rw[h.len];omega
 have e:ad[x.toNat]? =some (ad.getD x.toNat []):=by rw[zD,zt hl];rfl
 exact⟨e,h.row _ (zk e)⟩
noncomputable def put2 (ad:List (List Co)) (x y:Int) (v:Co):List (List Co):=ad.set x.toNat ((ad.getD x.toNat []).set y.toNat v)
theorem O0.put {m:Nat}{ad:List (List Co)}(h:O0 m ad){x y:Int}(h0:0<=x) (h1:x < m) (h2:0<=y) (h3:y < m) (v:Co):O0 m (put2 ad x y v)/\∀ x' y':Int,0<=x'->0<=y'->at2 (put2 ad x y v) x' y'=if x'=x/\y'=y then v else at2 ad x' y':=by
 obtain⟨e,hl⟩:=h.get h0 h1
 refine⟨⟨by unfold put2;rw[yQ];exact h.len,fun R hR=>?_⟩,fun x' y' hx hy=>?_⟩
 ·unfold put2 at hR
  rcases zbb hR with z|z
  ·exact h.row R z
  ·rw[z,yQ];exact hl
 ·unfold at2 put2
  by_cases uY:x'=x
  ·subst uY
   have e2:(ad.set x'.toNat ((ad.getD x'.toNat []).set y.toNat v)).getD x'.toNat []=(ad.getD x'.toNat []).set y.toNat v:=by
    rw[zD (l:=ad.set _ _),zQ (by rw[h.len];omega)];rfl
   rw[e2,Hv h2 hy (by rw[hl];exact h3)]
   by_cases lw:y'=y
   ·rw[if_pos lw,if_pos ⟨rfl,lw⟩]
   ·rw[if_neg lw,if_neg (fun z=>lw z.2)]
  ·have e2:(ad.set x.toNat ((ad.getD x.toNat []).set y.toNat v)).getD x'.toNat []=ad.getD x'.toNat []:=by
    rw[zD,yS (by omega),zD]
   rw[e2,if_neg (fun z=>uY z.1)]
theorem Rp {m:Nat}{ad:List (List Co)}(h:O0 m ad){x:Int}(h0:0<=x) (h1:x < m):rowAt (AE ad) (.int x)=.ok ((ad.getD x.toNat []).map cst):=by
 obtain⟨e,hl⟩:=h.get h0 h1
 have e1:Ou (AE ad).length x=some x.toNat:=LN ⟨h0,by unfold AE;rw[zc,h.len];exact h1⟩
 have e2:(AE ad)[x.toNat]? =some ((ad.getD x.toNat []).map cst):=by unfold AE;rw[zH,e];rfl
 unfold rowAt
 simp only[e1,e2]
theorem dW {m:Nat}{ad:List (List Co)}(h:O0 m ad){x y:Int}(h0:0<=x) (h1:x < m) (h2:0<=y) (h3:y < m):cS (.lst ((ad.getD x.toNat []).map cst)) (.int y)=.ok (cst (at2 ad x y)) :=
 Ed h2 (by rw[(h.get h0 h1).2];exact h3)
theorem dX {m:Nat}{ad:List (List Co)}(h:O0 m ad){x y:Int}(h0:0<=x) (h1:x < m) (h2:0<=y) (h3:y < m) (i:Nat) (ρ:Ab) (v:Co):dO i ρ (AE ad) (cst v) (.int x) ((ad.getD x.toNat []).map cst) (.int y)=.ok (.next (ρ.set i (some (.ow (.rows (AE (put2 ad x y v))))))):=by
 have e1:Ou (AE ad).length x=some x.toNat:=LN ⟨h0,by unfold AE;rw[zc,h.len];exact h1⟩
 have e2:Ou ((ad.getD x.toNat []).map cst).length y=some y.toNat:=LN ⟨h2,by rw[zc,(h.get h0 h1).2];exact h3⟩
 unfold dO
 simp only[e1,e2]
 unfold AE put2
 rw[List.map_set,List.map_set]
end L2
namespace L2
open PySem PySem.Spec PyProof.Rows
theorem FW.congr {m k:Nat}{rs:List Road}{A B:Int->Int->Co}(F:FW m k rs A) (hk:k<=m) (Av:∀ r∈rs,Hu m r) (h:∀ x y:Int,0<=x->x < m->0<=y->y < m->B x y=A x y):FW m k rs B:=by
 refine⟨fun x h0 h1=>?_,fun x y h0 h1 h2 h3=>?_,fun x y h0 h1 h2 h3 p hp=>?_,fun r hr=>?_,fun v x y v0 v1 h0 h1 h2 h3=>?_⟩
 ·rw[h x x h0 h1 h0 h1];exact F.dg x h0 h1
 ·rw[h x y h0 h1 h2 h3];exact F.nn x y h0 h1 h2 h3
 ·rw[h x y h0 h1 h2 h3] at hp;exact F.sd x y h0 h1 h2 h3 p hp
 ·have ok:=Av r hr
  rw[h r.a r.b ok.a0 ok.a1 ok.b0 ok.b1];exact F.ed r hr
 ·rw[h x y h0 h1 h2 h3,h x v h0 h1 v0 (by omega),h v y v0 (by omega) h2 h3]
  exact F.tr v x y v0 v1 h0 h1 h2 h3
theorem Y5 {m:Nat}{rs:List Road}{ad:List (List Co)}(hM:O0 m ad) (Av:∀ r∈rs,Hu m r) (h:∀ u:Nat,u < m->MU m rs u rs.length (ad.getD u [])):FW m 0 rs (at2 ad):=by
 have key:∀ x:Int,0<=x->x < m->MU m rs x rs.length (ad.getD x.toNat []):=fun x h0 h1=>by
  have:=h x.toNat (by omega)
  rw[Int.toNat_of_nonneg h0] at this
  exact this
 refine⟨fun x h0 h1=>(key x h0 h1).st,fun x y h0 h1 h2 h3=>(key x h0 h1).nn _ (zk (Cu h2 (by rw[(key x h0 h1).len];exact h3))),fun x y h0 h1 h2 h3 p hp=>(key x h0 h1).sd y h2 h3 p hp,fun r hr=>?_,fun v x y v0 v1=>by omega⟩
 have ok:=Av r hr
 exact (key r.a ok.a0 ok.a1).ed r (by rw[yX];exact hr) rfl
noncomputable def hit (rs:List Road) (cs:List Co) (p:Nat) (k:Nat):Bool:=match rs[k]? with
 |some r=>decide (r.b=(p:Int)) && decide (Aq (atC cs r.a) (C5 r)≠none) && decide (Aq (atC cs r.a) (C5 r)=atC cs (p:Int))
 |none=>false
end L2
namespace L2
open PySem PySem.Spec PyProof.Rows
theorem Wk.nn {m:Nat}{rs:List Road}(Av:∀ r∈rs,Hu m r){u w:Int}{c:Int×Int}(h:Wk rs u w c):0<=c.1/\0<=c.2:=by
 induction h with
 |nil=>exact⟨Int.le_refl _,Int.le_refl _⟩
 |cons hr hl _ ih =>
  have:=(Av _ hr).l0 _ hl
  simp only
  omega
end L2
namespace L2
open PySem PySem.Spec PyProof.Rows
theorem lD {P P2:Addr->Prop}{H H':Hp}(t:Tr P P H P2 H'){a:Addr}(h:P2 a) (hn:¬ P a):H a=none:=by
 cases q:H a with
 |none=>rfl
 |some o =>
  have:=t.1 a o (by rw[Ax hn];exact q)
  exact ((Al this).1 h).elim
end L2
namespace L2
open PySem PySem.Spec PyProof.Rows
section
variable {X:Cx}{WX:Str->Hp->Prop}{c:Bool}{P0:EA}{P:Addr->Prop}{H:Hp}{σ:St}{ρ:Ab}{a b e:Expr}{f g:Ab->M D}{pos:Pos}
noncomputable def dY:V->List V->Hp->VK->Prop:=fun x vs H Q=>∃(l:Addr) (xs:List V) (k:Nat) (y:V),x=.ref l/\vs=[.int (k:Int),y]/\H l=some (.lst xs)/\k<=xs.length/\xs.length < sizeLine/\Q .AA (upd H l (.lst (xs.take k++y::xs.drop k)))
theorem Rq:∀ {xs:List V}{us:List Value}{y:V}{w:Value},Vals xs us->∀ k:Nat,RelV y w->Vals (xs.take k++y::xs.drop k) (us.take k++w::us.drop k)
 |_,_,_,_,r,0,h=>.cons h r
 |_,_,_,_,.nil,k + 1,h=>.cons h .nil
 |_,_,_,_,.cons a t,k + 1,h=>.cons a (Rq t k h)
theorem Y6 {prog:Program}{wd:World}{A:Around}{E:Value->Shared->Prop}{s:Shared}{Q:Value->Shared->Prop}{l:Addr}{items:Array Value}{n:Nat}(x:Int) (u:Tok) (y:Value) (hc:¬(!Builtin.List.listFitsIndex x)=true) (hs:items.size<=sizeLine)
 (e:s.heap.get? l=some { cls:=.type "list",data:=.seq items n })
 (h:Q .none { s with heap:=s.heap.update l (zas fun xs=>(xs.extract 0 (if x < 0 then (x + (xs.size:Int)).toNat else min x.toNat xs.size)).push y++xs.extract (if x < 0 then (x + (xs.size:Int)).toNat else min x.toNat xs.size)),toks:=s.toks }):wpAny (model prog wd) A (call (.builtin "list.insert") [.ref l,.int x u,y]) Q E s:=by
 have hm:=PySem.AutoSeq1.list_insert_list_int_val_1 l items n x u y hc hs
 have ha:=PySem.F.args_list_insert_3 (.ref l) (.int x u) y
 exact call_meets PySem.F.slot_list_insert ⟨_,e,rfl⟩ PySem.F.entry_list_insert ha hm ⟨e,h⟩
theorem W5:kF X "list.insert" dY:=by
 intro pins s σ H x vs v us Q I rx rv h
 obtain⟨l,xs,k,y,rfl,rfl,hH,hk,hz,q⟩:=h
 cases rx
 obtain⟨u,w,rfl,ru,bz⟩:=rv.two
 obtain⟨tk,rfl⟩:=ru
 obtain⟨z,aa,n,r,hl,e⟩:=I.QW hH
 have hlen:=r.length
 have y7:=Kl
 have e7:¬ (!Builtin.List.listFitsIndex (k:Int))=true:=by
  unfold Builtin.List.listFitsIndex
  simp
  omega
 have hsz:aa.toArray.size<=sizeLine:=by rw[zi,<-hl];exact yV hz
 refine Y6 (k:Int) tk w e7 hsz e ?_
 refine⟨.AA,_,I.VC (its':=aa.take k++w::aa.drop k) hH e ?_ ?_ ?_,rfl,q⟩
 ·have e1:¬ ((k:Int) < 0):=by omega
  have e2:min (k:Int).toNat aa.toArray.size=k:=by rw[zZ,zi];omega
  simp only[e1,if_false,e2]
  apply Array.toList_inj.mp
  simp
  rw[List.take_of_length_le (by rw[zbf];exact zB _)]
 ·exact Rq r k bz
 ·rw[zL,zp,yY,zbf]
  omega
noncomputable def W6 (i:Nat) (ρ:Ab) (mk md:M D):M Out:=match ρ[i]? with
 |some (some (.own ds))=>mk.bind fun k=>md.bind fun d=>match k with
  | .int j=>if 0<=j/\j.toNat<=ds.length/\ds.length < 1000 then .ok (.next (ρ.set i (some (.own (ds.take j.toNat++d::ds.drop j.toNat))))) else .bad
  |_=>.bad
 |_=>.bad
theorem ON {K:za}{H:Hp}:∀ {vs:List V}{ds:List D}(n:Nat),Ag K H vs ds->Ag K H (vs.take n) (ds.take n)
 |_,_,0,_=>by rw[List.take_zero,List.take_zero];exact .nil
 |_,_,_ + 1,.nil=>.nil
 |_,_,n + 1,.cons h t=>by rw[List.take_succ_cons,List.take_succ_cons];exact .cons h (ON n t)
theorem OO {K:za}{H:Hp}:∀ {vs:List V}{ds:List D}(n:Nat),Ag K H vs ds->Ag K H (vs.drop n) (ds.drop n)
 |_,_,0,h=>h
 |_,_,_ + 1,.nil=>.nil
 |_,_,n + 1,.cons h t=>by rw[List.drop_succ_cons,List.drop_succ_cons];exact OO n t
theorem Rr {K:za}{H:Hp}:∀ {vs ws:List V}{ds es:List D},Ag K H vs ds->Ag K H ws es->Ag K H (vs++ws) (ds++es)
 |_,_,_,_,.nil,k=>k
 |_,_,_,_,.cons h t,k=>.cons h (Rr t k)
theorem W7 (i:Nat){x:Str}{p1 apos ac:Pos}(hv:PE X (.Name x p1) (Lp i)) (hk:DE X WX true a f) (hd:DE X WX true b g) (hs:starEach [a,b] X.env=(false,eval a X.env)::starEach [b] X.env:=by rfl) (bh:starEach [b] X.env=[(false,eval b X.env)]:=by rfl)
 (bj:swapsWith (.Call (.Attribute (.Name x p1) "insert" apos) [a,b] [] ac) none pos.line X.env=pure false:=by rfl)
 (av:attributeBase (.Name x p1) "insert" X.env (eval (.Name x p1) X.env)=eval (.Name x p1) X.env:=by rfl)
 (aV:((backTo ac (starEach [a,b] X.env)).all (fun x => !x.1) && (backToKw ac (keywordEach [] X.env)).all (fun x=>x.1.isSome) && decide (([a,b]:List Expr).length + ([]:List Keyword).length + (if ([]:List Keyword).isEmpty then 0 else 1) < 30))=true:=by rfl)
 (aw:(apos.endLine == ac.line)=true:=by rfl) (ar:(backTo ac (starEach [b] X.env)).any (·.1)=false:=by rfl) :
 DS X WX (.Expr (.Call (.Attribute (.Name x p1) "insert" apos) [a,b] [] ac) pos) (fun ρ=>W6 i ρ (f ρ) (g ρ)):=by
 obtain⟨ta,a1,a2⟩:=hk
 obtain⟨tb,b1,b2⟩:=hd
 refine⟨_,Ft (QV zaa PySem.F.slot_list_insert PySem.F.type_list_insert W5 hv (Bh a1 (Bh b1 Cj bh) hs) av aV aw hs ar) bj,fun P0 P σ H Z ρ E h=>?_⟩
 dsimp only at h
 unfold W6 at h
 split at h
 ·rename_i ds e1
  obtain⟨p,xs,h1,h2,h3,h4,h5⟩:=E.own i ds e1
  refine⟨_,h1,.inl ⟨rfl,xs,.of h2⟩,a2 P0 P σ H _ ρ E ?_⟩
  cases q:f ρ with
  |bad=>rw[q] at h;exact h
  |ex y=>rw[q] at h;exact fun H' s=>h H' P (E.tr s)
  |ok k =>
   rw[q] at h
   simp only[M.A7] at h
   intro w H1 s1 hw
   have E1:=E.same s1
   refine b2 P0 P σ H1 _ ρ E1 ?_
   cases q2:g ρ with
   |bad=>rw[q2] at h;exact h
   |ex y=>rw[q2] at h;exact fun H' s=>h H' P ((E.tr s1).trans (E1.tr s))
   |ok d =>
    rw[q2] at h
    simp only[M.A7] at h
    intro v H2 s2 om
    have E2:=E1.same s2
    have cA:=s1.trans s2
    split at h
    ·rename_i j
     cases hw
     by_cases hj:0<=j/\j.toNat<=ds.length/\ds.length < 1000
     ·rw[if_pos hj] at h
      have wK:((j.toNat:Nat):Int)=j:=Int.toNat_of_nonneg hj.1
      have uZ:=h5.mono cA.del
      refine⟨p,xs,j.toNat,v,rfl,by rw[wK],cA _ _ h2,by rw[h5.length];exact hj.2.1,AH (by rw[h5.length];exact yV hj.2.2),?_⟩
      obtain⟨E3,t3⟩:=E2.mut e1 h1 h3 h4 (Rr (ON j.toNat uZ) (.cons om (OO j.toNat uZ)))
      exact h _ _ _ ((E.tr cA).trans t3) E3
     ·rw[if_neg hj] at h;exact h.elim
    ·exact h.elim
 ·exact h.elim
noncomputable def pZ (ds:List D):M D:=match ds with
 |[.lst xs]=>(match GF xs with|some bs=>.ok (.bl (bs.any id))|none=>.bad)
 |_=>.bad
end
end L2
namespace L2
open PySem PySem.Spec PyProof.Rows
noncomputable def kids:OT->List OT
 | .sh _=>[]
 | .lst ts=>ts
 | .tup ts=>ts
 | .Bi _ _ ts=>ts
 | .ins _ _ ts=>ts
noncomputable def LO:OT->List OT->OT
 | .sh d,_=>.sh d
 | .lst _,ts=>.lst ts
 | .tup _,ts=>.tup ts
 | .Bi b ks _,ts=>.Bi b ks ts
 | .ins x ns _,ts=>.ins x ns ts
noncomputable def KA:OT->List Nat->Option OT
 |t,[]=>some t
 |t,j::π=>match (kids t)[j]? with|some s=>KA s π|none=>none
noncomputable def EZ:OT->List Nat->OT->OT
 |_,[],u=>u
 |t,j::π,u=>match (kids t)[j]? with|some s=>LO t ((kids t).set j (EZ s π u))|none=>t
@[simp] theorem Y7 (t:OT):KA t []=some t:=by unfold KA;rfl
@[simp] theorem Ff (t u:OT):EZ t [] u=u:=by unfold EZ;rfl
theorem W8 {t s:OT}{j:Nat}{π:List Nat}(h:(kids t)[j]? =some s):KA t (j::π)=KA s π:=by rw[KA,h]
theorem W9 {t s u:OT}{j:Nat}{π:List Nat}(h:(kids t)[j]? =some s):EZ t (j::π) u=LO t ((kids t).set j (EZ s π u)):=by rw[EZ,h]
section
variable {K:za}{H H':Hp}{P P':Addr->Prop}
noncomputable def CI (K:za) (H:Hp) (P:Addr->Prop) (v:V) (t:OT) (q:List Addr) (xs:List V):Prop:=match t with
 | .sh _=>False
 | .lst ts=>∃ p,v=.ref p/\q=[p]/\H p=some (.lst xs)
 | .tup ts=>∃ p,v=.ref p/\q=[]/\del H P p=some (.tup xs)
 | .Bi false ks ts=>∃ p kvs,v=.ref p/\q=[p]/\H p=some (.dK kvs)/\ks=(kvs.map fun kv=>Dp kv.1)/\xs=kvs.map za5
 | .Bi true ks ts=>∃ p kvs,v=.ref p/\q=[p]/\H p=some (.dT kvs)/\ks=(kvs.map fun kv=>.tup (kv.1.map Dp))/\xs=kvs.map za5
 | .ins x ns ts=>∃ p C dx fs,v=.ref p/\q=[p]/\zd K mainGlobals x=some (some (.ref C))/\H p=some (.ins C dx fs)/\ns=fs.map zP/\xs=fs.map za5
theorem CI.own {v:V}{t:OT}{q:List Addr}{xs:List V}{fp:List Addr}(h:CI K H P v t q xs) (r:AK K H P xs (kids t) fp):C3 K H P v t (q++fp):=by
 cases t with
 |sh d=>exact h.elim
 |lst ts=>obtain⟨p,rfl,rfl,h⟩:=h;exact .lst h r
 |tup ts=>obtain⟨p,rfl,rfl,h⟩:=h;exact .tup h r
 |Bi b ks ts =>
  cases b with
  |false=>obtain⟨p,kvs,rfl,rfl,h,rfl,rfl⟩:=h;exact .dK h r
  |true=>obtain⟨p,kvs,rfl,rfl,h,rfl,rfl⟩:=h;exact .dT h r
 |ins x ns ts=>obtain⟨p,C,dx,fs,rfl,rfl,n,h,rfl,rfl⟩:=h;exact .ins n h r
theorem C3.node {v:V}{t:OT}{fp:List Addr}(h:C3 K H P v t fp) (hk:kids t≠[]\/∀ d,t≠.sh d):∃ q xs fq,fp=q++fq/\CI K H P v t q xs/\AK K H P xs (kids t) fq:=by
 cases h with
 |sh h=>rcases hk with hk|hk;exact (hk rfl).elim;exact (hk _ rfl).elim
 |lst h r=>exact⟨[_],_,_,rfl,⟨_,rfl,rfl,h⟩,r⟩
 |tup h r=>exact⟨[],_,_,rfl,⟨_,rfl,rfl,h⟩,r⟩
 |dK h r=>exact⟨[_],_,_,rfl,⟨_,_,rfl,rfl,h,rfl,rfl⟩,r⟩
 |dT h r=>exact⟨[_],_,_,rfl,⟨_,_,rfl,rfl,h,rfl,rfl⟩,r⟩
 |ins n h r=>exact⟨[_],_,_,rfl,⟨_,_,_,_,rfl,rfl,n,h,rfl,rfl⟩,r⟩
theorem CI.move (sm:Ad (del H P) (del H' P')){v:V}{t:OT}{q:List Addr}{xs:List V}(k:∀ a∈q,H' a=H a) (h:CI K H P v t q xs):CI K H' P' v t q xs:=by
 cases t with
 |sh d=>exact h.elim
 |lst ts=>obtain⟨p,rfl,rfl,h⟩:=h;exact⟨p,rfl,rfl,(k p ze).trans h⟩
 |tup ts=>obtain⟨p,rfl,rfl,h⟩:=h;exact⟨p,rfl,rfl,sm _ _ h⟩
 |Bi b ks ts =>
  cases b with
  |false=>obtain⟨p,kvs,rfl,rfl,h,rfl,rfl⟩:=h;exact⟨p,kvs,rfl,rfl,(k p ze).trans h,rfl,rfl⟩
  |true=>obtain⟨p,kvs,rfl,rfl,h,rfl,rfl⟩:=h;exact⟨p,kvs,rfl,rfl,(k p ze).trans h,rfl,rfl⟩
 |ins x ns ts=>obtain⟨p,C,dx,fs,rfl,rfl,n,h,rfl,rfl⟩:=h;exact⟨p,C,dx,fs,rfl,rfl,n,(k p ze).trans h,rfl,rfl⟩
theorem CI.kids {v:V}{t:OT}{q:List Addr}{xs:List V}(h:CI K H P v t q xs) (ts:List OT):CI K H P v (LO t ts) q xs:=by
 cases t with
 |sh d=>exact h.elim
 |lst us=>exact h
 |tup us=>exact h
 |Bi b ks us=>cases b<;>exact h
 |ins x ns us=>exact h
theorem PM {v:V}{t:OT}{q:List Addr}{xs:List V}(h:CI K H P v t q xs) (ts:List OT):L2.kids (LO t ts)=ts:=by
 cases t with
 |sh d=>exact h.elim
 |lst us=>rfl
 |tup us=>rfl
 |Bi b ks us=>rfl
 |ins x ns us=>rfl
theorem CI.inj {v:V}{t:OT}{q q':List Addr}{xs dw:List V}(h:CI K H P v t q xs) (h':CI K H P v t q' dw):q=q'/\xs=dw:=by
 cases t with
 |sh d=>exact h.elim
 |lst ts=>obtain⟨p,rfl,rfl,h⟩:=h;obtain⟨p',e,rfl,h'⟩:=h';cases e;rw[h] at h';cases h';exact⟨rfl,rfl⟩
 |tup ts=>obtain⟨p,rfl,rfl,h⟩:=h;obtain⟨p',e,rfl,h'⟩:=h';cases e;rw[h] at h';cases h';exact⟨rfl,rfl⟩
 |Bi b ks ts =>
  cases b with
  |false=>obtain⟨p,kvs,rfl,rfl,h,_,rfl⟩:=h;obtain⟨p',oy,e,rfl,h',_,rfl⟩:=h';cases e;rw[h] at h';cases h';exact⟨rfl,rfl⟩
  |true=>obtain⟨p,kvs,rfl,rfl,h,_,rfl⟩:=h;obtain⟨p',oy,e,rfl,h',_,rfl⟩:=h';cases e;rw[h] at h';cases h';exact⟨rfl,rfl⟩
 |ins x ns ts=>obtain⟨p,C,dx,fs,rfl,rfl,n,h,_,rfl⟩:=h;obtain⟨p',C',y8,cj,e,rfl,n',h',_,rfl⟩:=h';cases e;rw[h] at h';cases h';exact⟨rfl,rfl⟩
inductive Jm (K:za) (H:Hp) (P:Addr->Prop):V->OT->List Nat->V->OT->Prop
 |nil {v t}:Jm K H P v t [] v t
 |cons {v t q xs j x s π v1 t1}:CI K H P v t q xs->xs[j]? =some x->(kids t)[j]? =some s->Jm K H P x s π v1 t1->Jm K H P v t (j::π) v1 t1
theorem Jm.sub {v v1:V}{t t1:OT}{π:List Nat}(h:Jm K H P v t π v1 t1):KA t π=some t1:=by
 induction h with
 |nil=>exact Y7 _
 |cons _ _ hs _ ih=>rw[W8 hs];exact ih
theorem AK.get:∀ {xs:List V}{ts:List OT}{fp:List Addr}{j:Nat}{x:V}{s:OT},AK K H P xs ts fp->xs[j]? =some x->ts[j]? =some s->∃ pre fs post,fp=pre++fs++post/\C3 K H P x s fs
 |_,_,_,_,_,_,.nil,e,_=>by simp at e
 |_,_,_,0,_,_,.cons h r,e,e'=>by
  simp at e e';subst e;subst e'
  exact⟨[],_,_,rfl,h⟩
 |_,_,_,j + 1,_,_,.cons (fp:=f1) h r,e,e'=>by
  obtain⟨pre,fs,post,z,q⟩:=AK.get r (by simpa using e) (by simpa using e')
  exact⟨f1++pre,fs,post,by rw[z];simp,q⟩
theorem AK.len:∀ {xs:List V}{ts:List OT}{fp:List Addr},AK K H P xs ts fp->xs.length=ts.length
 |_,_,_,.nil=>rfl
 |_,_,_,.cons _ r=>by rw[zp,zp,r.len]
theorem C3.part {v v1:V}{t t1:OT}{π:List Nat}{fp:List Addr}(h:C3 K H P v t fp) (s:Jm K H P v t π v1 t1):∃ aA,C3 K H P v1 t1 aA/\(∀ a∈aA,a∈fp)/\(fp.Nodup->aA.Nodup):=by
 induction s generalizing fp with
 |nil=>exact⟨fp,h,fun _ h=>h,fun h=>h⟩
 |cons n hx hs _ ih =>
  obtain⟨q,xs,fq,rfl,n',r⟩:=h.node (.inl fun z=>by rw[z] at hs;cases hs)
  obtain⟨rfl,rfl⟩:=n.inj n'
  obtain⟨pre,fs,post,rfl,o⟩:=r.get hx hs
  obtain⟨aA,o1,k,kn⟩:=ih o
  exact⟨aA,o1,fun a ha=>zq _ (zO _ (zq _ (k a ha))),fun nd=>kn (zK.mp (zK.mp (zK.mp nd).2.1).1).2.1⟩
theorem AK.put (sm:Ad (del H P) (del H' P')):∀ {xs:List V}{ts:List OT}{fp:List Addr}{j:Nat}{x:V}{s s':OT}{fs cj:List Addr},AK K H P xs ts fp->xs[j]? =some x->ts[j]? =some s->C3 K H P x s fs->C3 K H' P' x s' cj->(∀ a∈fp,a∉fs->H' a=H a)->fp.Nodup->cj.Nodup->(∀ a∈cj,a∈fp->a∈fs)->
 ∃ ai,AK K H' P' xs (ts.set j s') ai/\ai.Nodup/\∀ a∈ai,a∈cj\/(a∈fp/\a∉fs)
 |_,_,_,_,_,_,_,_,_,.nil,e,_,_,_,_,_,_,_=>by simp at e
 |_,_,_,0,x,s,s',fs,cj,.cons (fp:=f1) (fq:=f2) h r,e,e',o,o',k,nd,d0,dj=>by
  simp at e e';subst e;subst e'
  have:=h.Cr o;subst this
  have b6:=zK.mp nd
  have k2:∀ a∈f2,a∉f1:=fun a ha hb=>b6.2.2 a hb a ha rfl
  refine⟨cj++f2,.cons o' (r.move sm fun a ha=>k a (zq _ ha) (k2 a ha)),zK.mpr ⟨d0,b6.2.1,fun a ha b hb z=>?_⟩,fun a ha=>?_⟩
  ·subst z
   exact k2 a hb (dj a ha (zq _ hb))
  ·rcases zy.mp ha with ha|ha
   ·exact .inl ha
   ·exact .inr ⟨zq _ ha,k2 a ha⟩
 |_,_,_,j + 1,x,s,s',fs,cj,.cons (vs:=uK) (ts:=wL) (fp:=f1) (fq:=f2) h r,e,e',o,o',k,nd,d0,dj=>by
  have b6:=zK.mp nd
  have e2:uK[j]? =some x:=by simpa using e
  have e3:wL[j]? =some s:=by simpa using e'
  obtain⟨pre,fx,post,hf,ox⟩:=r.get e2 e3
  have:=ox.Cr o;subst this
  have k1:∀ a∈f1,a∉fx:=fun a ha hb=>b6.2.2 a ha a (by rw[hf];exact zO _ (zq _ hb)) rfl
  obtain⟨ai,q1,q2,q3⟩:=AK.put sm r e2 e3 o o' (fun a ha hn=>k a (zq _ ha) hn) b6.2.1 d0 (fun a ha hb=>dj a ha (zq _ hb))
  refine⟨f1++ai,.cons (h.move sm fun a ha=>k a (zO _ ha) (k1 a ha)) q1,zK.mpr ⟨b6.1,q2,fun a ha b hb z=>?_⟩,fun a ha=>?_⟩
  ·subst z
   rcases q3 a hb with z|z
   ·exact k1 a ha (dj a z (zO _ ha))
   ·exact b6.2.2 a ha a z.1 rfl
  ·rcases zy.mp ha with ha|ha
   ·exact .inr ⟨zO _ ha,k1 a ha⟩
   ·rcases q3 a ha with z|z
    ·exact .inl z
    ·exact .inr ⟨zq _ z.1,z.2⟩
theorem C3.put (sm:Ad (del H P) (del H' P')){v v1:V}{t t1 u:OT}{π:List Nat}{fp aA fu:List Addr}(h:C3 K H P v t fp) (s:Jm K H P v t π v1 t1) (o:C3 K H P v1 t1 aA) (o':C3 K H' P' v1 u fu) (k:∀ a∈fp,a∉aA->H' a=H a) (nd:fp.Nodup) (d0:fu.Nodup) (dj:∀ a∈fu,a∈fp->a∈aA) :
 ∃ ai,C3 K H' P' v (EZ t π u) ai/\ai.Nodup/\∀ a∈ai,a∈fu\/(a∈fp/\a∉aA):=by
 induction s generalizing fp with
 |nil =>
  rw[Ff]
  exact⟨fu,o',d0,fun a ha=>.inl ha⟩
 | @cons v t q xs j x s π v1 t1 n hx hs s1 ih =>
  obtain⟨q',dw,fq,rfl,n',r⟩:=h.node (.inl fun z=>by rw[z] at hs;cases hs)
  obtain⟨rfl,rfl⟩:=n.inj n'
  have jo:=zK.mp nd
  obtain⟨pre,fs,post,hf,ox⟩:=r.get hx hs
  have sub:∀ a∈fs,a∈fq:=fun a ha=>by rw[hf];exact zO _ (zq _ ha)
  have wM:fs.Nodup:=by
   have:=jo.2.1
   rw[hf] at this
   exact (zK.mp (zK.mp this).1).2.1
  obtain⟨fz,oz,kz,_⟩:=ox.part s1
  have:=oz.Cr o;subst this
  obtain⟨cj,q1,q2,q3⟩:=ih ox o o' (fun a ha hn=>k a (zq _ (sub a ha)) hn) wM (fun a ha hb=>dj a ha (zq _ (sub a hb)))
  have qf:∀ a∈q,a∉fs:=fun a ha hb=>jo.2.2 a ha a (sub a hb) rfl
  have kq:∀ a∈q,H' a=H a:=fun a ha=>k a (zO _ ha) fun z=>qf a ha (kz a z)
  obtain⟨ai,p1,p2,p3⟩:=r.put sm hx hs ox q1 (fun a ha hn=>k a (zq _ ha) fun z=>hn (kz a z)) jo.2.1 q2 (fun a ha hb=>by
   rcases q3 a ha with z|z
   ·exact kz a (dj a z (zq _ hb))
   ·exact z.1)
  rw[W9 hs]
  have n2:=(n.move sm kq).kids ((kids t).set j (EZ s π u))
  have o2:=n2.own (fp:=ai) (by rw[PM n];exact p1)
  refine⟨q++ai,o2,zK.mpr ⟨jo.1,p2,fun a ha b hb z=>?_⟩,fun a ha=>?_⟩
  ·subst z
   rcases p3 a hb with z|z
   ·rcases q3 a z with y|y
    ·exact qf a ha (kz a (dj a y (zO _ ha)))
    ·exact qf a ha y.1
   ·exact jo.2.2 a ha a z.1 rfl
  ·rcases zy.mp ha with ha|ha
   ·exact .inr ⟨zO _ ha,fun z=>qf a ha (kz a z)⟩
   ·rcases p3 a ha with z|z
    ·rcases q3 a z with y|y
     ·exact .inl y
     ·exact .inr ⟨zq _ (sub a y.1),y.2⟩
    ·exact .inr ⟨zq _ z.1,fun y=>z.2 (kz a y)⟩
end
end L2
namespace L2
open PySem PySem.Spec PyProof.Rows
noncomputable def PU (P:Addr->Prop) (fp:List Addr):Addr->Prop:=fun a=>P a\/a∈fp
theorem MV {P:Addr->Prop}{fp:List Addr}:∀ a,P a->PU P fp a:=fun a h=>.inl h
theorem Dg {P:Addr->Prop}{fp:List Addr}{H H':Hp}(s:Ad H H') (hn:∀ a∈fp,H a=none):Ad (del H P) (del H' (PU P fp)):=fun b o e=>by
 obtain⟨h1,h2⟩:=Al e
 rw[Ax fun z=>z.elim h1 fun w=>by rw[hn b w] at h2;cases h2]
 exact s b o h2
theorem To {P:Addr->Prop}{H:Hp}:del H (PU P [])=del H P:=by
 funext b
 by_cases h:P b
 ·rw[D3 h,D3 (.inl h)]
 ·rw[Ax h,Ax fun z=>z.elim h fun w=>by cases w]
theorem KC {P:Addr->Prop}{fp:List Addr}{K:za}{H':Hp}{Q:Addr->Prop}{v:V}{t:OT}(hP:∀ a,P a->Dt H' a) (o:C3 K H' Q v t fp):∀ a,PU P fp a->Dt H' a:=fun a h=>h.elim (hP a) (o.Cq a)
theorem UO {P:Addr->Prop}{fp:List Addr}{K:za}{H':Hp}{Q:Addr->Prop}{v:List V}{t:List OT}(hP:∀ a,P a->Dt H' a) (o:AK K H' Q v t fp):∀ a,PU P fp a->Dt H' a:=fun a h=>h.elim (hP a) (o.Cq a)
theorem An.more {K:za}{P0:EA}{P P':Addr->Prop}{H H':Hp}{σ:St}{ρ:Ab}(E:An K P0 P H σ ρ) (e:Ad H H') (hs:∀ a,P a->P' a) (ht:∀ a,P' a->Dt H' a) (sm:Ad (del H P) (del H' P')):An K P0 P' H' σ ρ:=by
 have keep:∀(c:Cl) (v:V) (fp:List Addr),Dq K H P c v fp->∀ a∈fp,H' a=H a:=fun c v fp o a ha=>by
  obtain⟨xs,q⟩:=o.at a ha
  rw[q];exact e _ _ q
 exact⟨fun a h=>hs a (E.sub a h),ht,fun i d h=>let ⟨v,h1,h2⟩:=E.val i d h;⟨v,h1,h2.mono sm⟩,
  fun i c h io=>let ⟨v,fp,h1,h2,h3,h4⟩:=E.ows i c h io;⟨v,fp,h1,h2.move sm (keep c v fp h2),fun a ha=>⟨hs a (h3 a ha).1,(h3 a ha).2⟩,h4⟩,
  fun i j c c' v v' fp ai hi hj si sj h h' af=>E.Xx sm (fun v fp _ o a ha=>keep _ _ _ o a ha) (fun v fp _ o a ha=>keep _ _ _ o a ha) hi hj si sj h h' af,E.len,E.pin⟩
noncomputable def Y8 (K:za) (WX:Str->Hp->Prop) (P:Addr->Prop) (H:Hp) (Q:VK):M OT->Prop
 | .ok t=>∀ v fp H',Ad H H'->(∀ a∈fp,H a=none)->fp.Nodup->C3 K H' (PU P fp) v t fp->Q v H'
 | .ex x=>∀ H',Ad H H'->WX x H'
 | .bad=>False
noncomputable def wN (K:za) (WX:Str->Hp->Prop) (P:Addr->Prop) (H:Hp) (Q:List V->Hp->Prop):M (List OT)->Prop
 | .ok t=>∀ v fp H',Ad H H'->(∀ a∈fp,H a=none)->fp.Nodup->AK K H' (PU P fp) v t fp->Q v H'
 | .ex x=>∀ H',Ad H H'->WX x H'
 | .bad=>False
theorem Fg {H H':Hp}(s:Ad H H'){a:Addr}(h:H' a=none):H a=none:=by
 cases q:H a with
 |none=>rfl
 |some o=>rw[s a o q] at h;cases h
section
variable {K:za}{WX:Str->Hp->Prop}{P:Addr->Prop}{H H':Hp}
theorem Y8.same {Q:VK}{m:M OT}(h:Y8 K WX P H Q m) (e:Ad H H'):Y8 K WX P H' Q m:=by
 cases m with
 |ok d=>exact fun v fp H2 q hn nd o=>h v fp H2 (e.trans q) (fun a ha=>Fg e (hn a ha)) nd o
 |ex x=>exact fun H2 q=>h H2 (e.trans q)
 |bad=>exact h
end
noncomputable def DN (X:Cx) (WX:Str->Hp->Prop) (e:Expr) (f:Ab->M OT):Prop :=
 ∃ t,PE X e t/\∀ P0 P σ H Q ρ,An X.K P0 P H σ ρ->Y8 X.K WX P H Q (f ρ)->t σ H Q
noncomputable def qA (X:Cx) (WX:Str->Hp->Prop) (es:List Expr) (f:Ab->M (List OT)):Prop :=
 ∃ t,PA X es t/\(∀ P0 P σ H Q ρ,An X.K P0 P H σ ρ->wN X.K WX P H Q (f ρ)->t σ H Q)/\∀ ρ ts,f ρ=.ok ts->ts.length=es.length
noncomputable def qB (d:D):M OT:=.ok (.sh d)
noncomputable def nJ (t:OT):M D:=.ok (er t)
section
variable {X:Cx}{WX:Str->Hp->Prop}{c:Bool}{P0:EA}{P:Addr->Prop}{H:Hp}{σ:St}{ρ:Ab}{a b e:Expr}{f g:Ab->M D}{fn:Ab->M OT}{pos:Pos}{es:List Expr}
theorem AZ (h:DE X WX true e f):DN X WX e (fun ρ=>(f ρ).bind qB):=by
 obtain⟨t,h1,h2⟩:=h
 refine⟨t,h1,fun P0 P σ H Q ρ E g=>h2 P0 P σ H Q ρ E ?_⟩
 dsimp only at g
 cases q:f ρ with
 |bad=>rw[q] at g;exact g
 |ex x=>rw[q] at g;exact g
 |ok d=>rw[q] at g;exact fun v H' s hv=>g v [] H' s (fun a ha=>by cases ha) za7 (.sh (by rw[To];exact hv))
theorem Aj (h:DN X WX e fn):DE X WX c e (fun ρ=>(fn ρ).bind nJ):=by
 suffices z:DE X WX true e (fun ρ=>(fn ρ).bind nJ) by
  cases c with
  |true=>exact z
  |false=>exact Ks z
 obtain⟨t,h1,h2⟩:=h
 refine⟨t,h1,fun P0 P σ H Q ρ E g=>h2 P0 P σ H Q ρ E ?_⟩
 dsimp only at g
 cases q:fn ρ with
 |bad=>rw[q] at g;exact g
 |ex x=>rw[q] at g;exact g
 |ok d =>
  rw[q] at g
  exact fun v fp H' s hn nd o=>g v H' s (o.has MV fun a ha z=>(E.Cq a z).no (hn a ha))
theorem FC:qA X WX [] (fun _=>.ok []):=⟨_,Cj,fun P0 P σ H Q ρ E h=>h [] [] H (Ad.refl H) (fun a ha=>by cases ha) za7 .nil,fun ρ ds h=>by cases h;rfl⟩
theorem Rt {es:List Expr}{fs:Ab->M (List OT)}(he:DN X WX e fn) (hr:qA X WX es fs) (hs:starEach (e::es) X.env=(false,eval e X.env)::starEach es X.env:=by rfl) :
 qA X WX (e::es) (fun ρ=>(fn ρ).bind fun d=>(fs ρ).bind fun ds=>.ok (d::ds)):=by
 obtain⟨te,e1,e2⟩:=he
 obtain⟨tr,r1,r2,r3⟩:=hr
 refine⟨_,Bh e1 r1 hs,fun P0 P σ H Q ρ E h=>?_,fun ρ ds h=>?_⟩
 rotate_left
 ·dsimp only at h
  cases q:fn ρ with
  |bad=>rw[q] at h;cases h
  |ex x=>rw[q] at h;cases h
  |ok x =>
   rw[q] at h
   cases q2:fs ρ with
   |bad=>rw[q2] at h;cases h
   |ex x=>rw[q2] at h;cases h
   |ok xs =>
    rw[q2] at h
    cases h
    rw[zp,zp,r3 ρ xs q2]
 dsimp only at h
 refine e2 P0 P σ H _ ρ E ?_
 cases q:fn ρ with
 |bad=>rw[q] at h;exact h
 |ex x=>rw[q] at h;exact h
 |ok x =>
  rw[q] at h
  intro v fp H1 s1 n1 gh o1
  have E1:An X.K P0 (PU P fp) H1 σ ρ:=E.more s1 MV (KC (E.same s1).Cq o1) (Dg s1 n1)
  refine r2 P0 (PU P fp) σ H1 _ ρ E1 ?_
  cases q2:fs ρ with
  |bad=>rw[q2] at h;exact h
  |ex y=>rw[q2] at h;exact fun H' s=>h H' (s1.trans s)
  |ok ds =>
   rw[q2] at h
   intro vs fq H2 s2 n2 b6 o2
   have dj:∀ a∈fp,a∉fq:=fun a ha hb=>(o1.Cq a ha).no (n2 a hb)
   have eP:PU (PU P fp) fq=PU P (fp++fq):=by
    funext a
    simp only[PU,zy,or_assoc]
   have sm:Ad (del H1 (PU P fp)) (del H2 (PU P (fp++fq))):=by rw[<-eP];exact Dg s2 n2
   refine h _ (fp++fq) H2 (s1.trans s2) (fun a ha=>?_) (zK.mpr ⟨gh,b6,fun a ha b hb z=>dj a ha (by rw[z];exact hb)⟩) (.cons (o1.move sm fun a ha=>?_) (by rw[<-eP];exact o2))
   ·rcases zy.mp ha with ha|ha
    ·exact n1 a ha
    ·exact Fg s1 (n2 a ha)
   ·obtain⟨o,z,_⟩:=o1.Cq a ha
    rw[z];exact s2 _ _ z
theorem lE {P:Addr->Prop}{fp:List Addr}{p:Addr}{H:Hp}{o:HO}(hn:H p=none) (hP:∀ a,PU P fp a->Dt H a):Ad (del H (PU P fp)) (del (upd H p o) (PU P (p::fp))):=fun b u e=>by
 obtain⟨h1,h2⟩:=Al e
 have hb:b≠p:=Az h2 hn
 rw[Ax fun z=>z.elim (fun z=>h1 (.inl z)) fun w=>(zu.mp w).elim hb fun w=>h1 (.inr w),Ah hb]
 exact h2
theorem KD {fs:Ab->M (List OT)}(ha:qA X WX es fs) (hz:es.length<=1000:=by decide):DN X WX (.List es pos) (fun ρ=>(fs ρ).bind fun ts=>.ok (.lst ts)):=by
 obtain⟨ta,a1,a2,a3⟩:=ha
 refine⟨_,Pq a1,fun P0 P σ H Q ρ E h=>?_⟩
 dsimp only at h
 refine a2 P0 P σ H _ ρ E ?_
 cases q:fs ρ with
 |bad=>rw[q] at h;exact h
 |ex y=>rw[q] at h;exact h
 |ok ts =>
  rw[q] at h
  simp only[M.A7] at h
  intro vs fp H1 s1 n1 gh o1
  have hP:=UO (E.same s1).Cq o1
  refine⟨yV (AH (by rw[o1.len,a3 ρ ts q];exact hz)),fun p hp=>?_⟩
  have af:∀ a∈fp,a≠p:=fun a ha z=>(o1.Cq a ha).no (by rw[z];exact hp)
  exact h _ (p::fp) _ (s1.trans (AN hp _)) (fun a ha=>(zu.mp ha).elim (fun z=>by rw[z];exact Fg s1 hp) (n1 a)) (yP.mpr ⟨fun z=>af p z rfl,gh⟩) (.lst Ar (o1.move (lE hp hP) fun a ha=>Ah (af a ha)))
theorem dZ {P:Addr->Prop}{fp:List Addr}{p:Addr}{H:Hp}{o:HO}(hn:H p=none) (hP:∀ a,PU P fp a->Dt H a):Ad (del H (PU P fp)) (del (upd H p o) (PU P fp)):=fun b u e=>by
 obtain⟨h1,h2⟩:=Al e
 have hb:b≠p:=Az h2 hn
 rw[Ax h1,Ah hb]
 exact h2
theorem lF {fs:Ab->M (List OT)}{x1}(ha:qA X WX es fs) (hz:es.length<=1000:=by decide):DN X WX (.Tuple es x1 pos) (fun ρ=>(fs ρ).bind fun ts=>.ok (.tup ts)):=by
 obtain⟨ta,a1,a2,a3⟩:=ha
 refine⟨_,Xd a1,fun P0 P σ H Q ρ E h=>?_⟩
 dsimp only at h
 refine a2 P0 P σ H _ ρ E ?_
 cases q:fs ρ with
 |bad=>rw[q] at h;exact h
 |ex y=>rw[q] at h;exact h
 |ok ts =>
  rw[q] at h
  simp only[M.A7] at h
  intro vs fp H1 s1 n1 gh o1
  have hP:=UO (E.same s1).Cq o1
  refine⟨yV (AH (by rw[o1.len,a3 ρ ts q];exact hz)),fun p hp=>?_⟩
  have af:∀ a∈fp,a≠p:=fun a ha z=>(o1.Cq a ha).no (by rw[z];exact hp)
  refine h _ fp _ (s1.trans (AN hp _)) n1 gh (.tup ?_ (o1.move (dZ hp hP) fun a ha=>Ah (af a ha)))
  rw[Ax fun z=>(hP p z).no hp]
  exact Ar
theorem Ag.ows {K:za}{H:Hp}{P:Addr->Prop}:∀ {xs:List V}{ds:List D},Ag K (del H P) xs ds->AK K H P xs (ds.map .sh) []
 |_,_,.nil=>.nil
 |_,_,.cons h t=>.cons (.sh h) t.ows
theorem Y8.KG {K:za}{WX:Str->Hp->Prop}{P:Addr->Prop}{H H1:Hp}{Q:VK}{xs:List V}{ds:List D}(h:Y8 K WX P H Q (.ok (.lst (ds.map .sh)))) (s1:Ad H H1) (hx:Ag K (del H1 P) xs ds):∀ p,H1 p=none->Q (.ref p) (upd H1 p (.lst xs)):=fun p hp=>by
 have hn:∀ a∈[p],H1 a=none:=fun a ha=>by rw[zh.mp ha];exact hp
 exact h _ [p] _ (s1.trans (AN hp _)) (fun a ha=>Fg s1 (hn a ha)) (by simp) (.lst Ar (hx.mono (Dg (AN hp _) hn)).ows)
theorem AK.lG {K:za}{H:Hp}{P:Addr->Prop}:∀ {xs:List V}{ds:List D}{fp:List Addr},AK K H P xs (ds.map .sh) fp->fp=[]/\Ag K (del H P) xs ds
 |_,[],_,.nil=>⟨rfl,.nil⟩
 |_,d::ds,_,.cons (.sh h) r=>by
  obtain⟨rfl,q⟩:=AK.lG r
  exact⟨rfl,.cons h q⟩
noncomputable def Lx:Cl->Cl
 | .val d=>.val d
 | .own ds=>.val (.lst ds)
 | .ow (.rows C2)=>.val (.lst (C2.map D.lst))
 | .ow (.LI _ ds)=>.val (.lst ds)
 | .ow (.tree _ t)=>.val (er t)
noncomputable def ED (ρ:Ab):Ab:=ρ.map fun o=>o.map Lx
@[simp] theorem Jn:ED []=[]:=rfl
@[simp] theorem Hw (ρ:Ab):ED (none::ρ)=none::ED ρ:=rfl
@[simp] theorem Hx (c:Cl) (ρ:Ab):ED (some c::ρ)=some (Lx c)::ED ρ:=rfl
theorem An.low {K:za}{P0:EA}{P:Addr->Prop}{H:Hp}{σ:St}{ρ:Ab}(E:An K P0 P H σ ρ):An K P0 P0 H σ (ED ρ):=by
 have key:∀(i:Nat) (c:Cl),(ED ρ)[i]? =some (some c)->∃ c',ρ[i]? =some (some c')/\c=Lx c':=fun i c h=>by
  unfold ED at h
  rw[zH] at h
  cases q:ρ[i]? with
  |none=>rw[q] at h;cases h
  |some o =>
   rw[q] at h
   cases o with
   |none=>cases h
   |some c'=>cases h;exact⟨c',rfl,rfl⟩
 have o5:∀ c,IA (Lx c)=false:=fun c=>by
  cases c with
  |val d=>rfl
  |own ds=>rfl
  |ow o=>cases o<;>rfl
 have jp:∀ c,OA (Lx c)=none:=fun c=>by
  cases c with
  |val d=>rfl
  |own ds=>rfl
  |ow o=>cases o<;>rfl
 have wO:∀ c v fp,¬ Dq K H P0 (Lx c) v fp:=fun c v fp h=>by
  cases c with
  |val d=>exact h
  |own ds=>exact h
  |ow o=>cases o<;>exact h
 refine⟨fun _ h=>h,fun a h=>E.Cq a (E.sub a h),fun i d h=>?_,fun i c h io=>?_,fun i j c c' v v' fp ai hi hj si sj h h' af=>?_,by unfold ED;rw[zc];exact E.len,fun i c n h hp=>by obtain⟨c',h1,rfl⟩:=key i _ h;rw[jp] at hp;cases hp⟩
 ·obtain⟨c,h1,h2⟩:=key i _ h
  cases c with
  |val d' =>
   cases h2
   obtain⟨v,q1,q2⟩:=E.val i d h1
   exact⟨v,q1,q2.mono (CL E.sub)⟩
  |own ds =>
   cases h2
   obtain⟨p,xs,q1,q2,q3,q4,q5⟩:=E.own i ds h1
   exact⟨_,q1,.lst (.of (show del H P0 p=_ by rw[Ax q4];exact q2)) (q5.mono (CL E.sub))⟩
  |ow o =>
   obtain⟨v,fp,q1,q2,q3,q4⟩:=E.ows i _ h1 rfl
   cases o with
   |rows C2 =>
    cases h2
    obtain⟨p,ps,rfl,rfl,q5,q6⟩:=q2
    exact⟨_,q1,.lst (.of (show del H P0 p=_ by rw[Ax (q3 p ze).2];exact q5)) (q6.kR E.sub fun a ha=>(q3 a (zf _ ha)).2)⟩
   |LI p ds =>
    cases h2
    obtain⟨p,xs,rfl,rfl,q5,q6⟩:=q2
    exact⟨_,q1,.lst (.of (show del H P0 p=_ by rw[Ax (q3 p ze).2];exact q5)) (q6.mono (CL E.sub))⟩
   |tree p t =>
    cases h2
    exact⟨_,q1,C3.has E.sub (fun a ha=>(q3 a ha).2) q2⟩
 ·obtain⟨c',h1,rfl⟩:=key i _ h
  rw[o5] at io;cases io
 ·obtain⟨c1,h1,rfl⟩:=key i _ hi
  exact (wO _ _ _ h).elim
theorem lH {c:Bool}(h:DE X WX c e f):DE X WX false e (fun ρ=>f (ED ρ)):=by
 obtain⟨t,h1,h2⟩:=h
 refine⟨t,h1,fun P0 P σ H Q ρ E g=>h2 P0 P0 σ H Q (ED ρ) E.low ?_⟩
 have e:Lv c P0 P0=P0:=by cases c<;>rfl
 rw[e]
 exact g
theorem IG {ft:Ab->M Bool}(h:DT X WX e ft):DT X WX e (fun ρ=>ft (ED ρ)):=by
 obtain⟨t,h1,h2⟩:=h
 exact⟨t,h1,fun P0 P σ H Q ρ E g=>h2 P0 P0 σ H Q (ED ρ) E.low g⟩
mutual
noncomputable def GI:OT->Bool
 | .sh d=>Jg d
 | .lst ts=>G8 ts
 | .tup ts=>G8 ts
 | .Bi _ _ ts=>G8 ts
 | .ins _ _ ts=>G8 ts
noncomputable def G8:List OT->Bool
 |[]=>true
 |t::r=>GI t && G8 r
end
mutual
theorem C3.clean {K:za}{H:Hp}{P P':Addr->Prop}(ht:∀ a,P' a->Dt H a):∀ {v:V}{t:OT}{fp:List Addr},GI t=true->C3 K H P v t fp->C3 K H P' v t fp
 |_,_,_,n,.sh h=>.sh (h.Jg ht (by rw[GI] at n;exact n))
 |_,_,_,n,.lst h r=>.lst h (AK.clean ht (by rw[GI] at n;exact n) r)
 |_,_,_,n,.tup h r=>.tup (UG ht h) (AK.clean ht (by rw[GI] at n;exact n) r)
 |_,_,_,n,.dK h r=>.dK h (AK.clean ht (by rw[GI] at n;exact n) r)
 |_,_,_,n,.dT h r=>.dT h (AK.clean ht (by rw[GI] at n;exact n) r)
 |_,_,_,n,.ins x h r=>.ins x h (AK.clean ht (by rw[GI] at n;exact n) r)
theorem AK.clean {K:za}{H:Hp}{P P':Addr->Prop}(ht:∀ a,P' a->Dt H a):∀ {v:List V}{t:List OT}{fp:List Addr},G8 t=true->AK K H P v t fp->AK K H P' v t fp
 |_,_,_,_,.nil=>.nil
 |_,_,_,n,.cons h r=>by
  rw[G8,zS] at n
  exact .cons (C3.clean ht n.1 h) (AK.clean ht n.2 r)
end
noncomputable def Sx (m:M OT):M OT:=m.bind fun t=>if GI t=true then .ok t else .bad
theorem Ef (h:DN X WX e fn):DN X WX e (fun ρ=>Sx (fn (ED ρ))):=by
 obtain⟨t,h1,h2⟩:=h
 refine⟨t,h1,fun P0 P σ H Q ρ E g=>h2 P0 P0 σ H Q (ED ρ) E.low ?_⟩
 unfold Sx at g
 dsimp only at g
 cases q:fn (ED ρ) with
 |bad=>rw[q] at g;exact g
 |ex x=>rw[q] at g;exact g
 |ok t =>
  rw[q] at g
  simp only[M.A7] at g
  by_cases hf:GI t=true
  ·rw[if_pos hf] at g
   exact fun v fp H' s hn nd o=>g v fp H' s hn nd (o.clean (KC (E.same s).Cq o) hf)
  ·rw[if_neg hf] at g;exact g.elim
noncomputable def KG (d:D):M OT:=match d with
 | .lst ds=>.ok (.lst (ds.map .sh))
 | .tup ds=>.ok (.lst (ds.map .sh))
 |_=>.bad
theorem Jo {p:Pos}(hg:Gl X "list") (hm:X.mg "list" = none) (ha:DE X WX true e f) (hb:bootBuiltins "list" = some (.type "list"):=by decide +kernel) (aY:starEach [e] X.env=[(false,eval e X.env)]:=by rfl) :
 DN X WX (.Call (.Name "list" p) [e] [] pos) (fun ρ=>(f ρ).bind KG):=by
 obtain⟨ta,a1,a2⟩:=ha
 refine⟨_,Ot Px hg hm hb (Bh a1 Cj aY) (he:=aY),fun P0 P σ H Q ρ E h=>?_⟩
 dsimp only at h
 refine a2 P0 P σ H _ ρ E ?_
 cases q:f ρ with
 |bad=>rw[q] at h;exact h
 |ex x=>rw[q] at h;exact h
 |ok d =>
  rw[q] at h
  simp only[M.A7] at h
  intro v H1 s1 hv
  unfold KG at h
  split at h
  ·cases hv with
   |lst hs hh=>exact⟨_,_,rfl,.inl hs.Bo,h.KG s1 hh⟩
  ·cases hv with
   |tup hs hh=>exact⟨_,_,rfl,.inr (Fs.of (Al hs).2),h.KG s1 hh⟩
  ·exact h.elim
noncomputable def vA (K:za) (WX:Str->Hp->Prop) (r:R2) (bd:D->D->M OT):Prop :=
 ∀(P:Addr->Prop) (H:Hp) (x y:D) (v w:V) (Q:VK),(∀ a,P a->Dt H a)->BK K (del H P) v x->BK K (del H P) w y->Y8 K WX P H Q (bd x y)->r v w H Q
theorem qC {ta tb:TE}{r:R2}{bd:D->D->M OT}(ha:∀ P0 P σ H Q ρ,An X.K P0 P H σ ρ->gV X.K WX (Lv true P0 P) H Q (f ρ)->ta σ H Q) (hb:∀ P0 P σ H Q ρ,An X.K P0 P H σ ρ->gV X.K WX (Lv true P0 P) H Q (g ρ)->tb σ H Q)
 (hr:vA X.K WX r bd) {Q:VK} (E:An X.K P0 P H σ ρ) (h:Y8 X.K WX P H Q ((f ρ).bind fun x=>(g ρ).bind fun y=>bd x y)):nF r ta tb σ H Q:=by
 refine ha P0 P σ H _ ρ E ?_
 cases e:f ρ with
 |bad=>rw[e] at h;exact h
 |ex x=>rw[e] at h;exact h
 |ok x =>
  rw[e] at h
  intro v H1 s1 hv
  refine hb P0 P σ H1 _ ρ (E.same s1) ?_
  cases e2:g ρ with
  |bad=>rw[e2] at h;exact h
  |ex y=>rw[e2] at h;exact fun H' s=>h H' (s1.trans s)
  |ok y =>
   rw[e2] at h
   intro w H2 s2 hw
   exact hr _ H2 x y v w Q ((E.same s1).same s2).Cq (hv.mono s2.del) hw ((h.same s1).same s2)
noncomputable def Ru (x y:D):M OT:=match x,y with
 | .lst a,.lst b=>if a.length + b.length<=1000 then .ok (.lst ((a++b).map .sh)) else .bad
 |_,_=>.bad
end
end L2
namespace L2
open PySem PySem.Spec PyProof.Rows
noncomputable def spT (K:za) (n:Nat) (F:List D->M OT):Sp:=fun vs H Q E=>vs.length=n/\∃ P ds,(∀ a,P a->Dt H a)/\Ag K (del H P) vs ds/\Y8 K (D5 K E) P H Q (F ds)
noncomputable def qD:Cl->M OT
 | .val d=>.ok (.sh d)
 | .own ds=>.ok (.lst (ds.map .sh))
 | .ow (.rows C2)=>.ok (.lst (C2.map fun ds=>.lst (ds.map .sh)))
 | .ow (.LI _ _)=>.bad
 | .ow (.tree none t)=>.ok t
 | .ow (.tree (some _) _)=>.bad
noncomputable def Y9 (m:M Out):M OT:=match m with
 | .ok (.ret d)=>.ok (.sh d)
 | .ok (.CK c)=>qD c
 | .ok (.next _)=>.ok (.sh .AA)
 | .ex x=>.ex x
 |_=>.bad
theorem By.ows {K:za}{H:Hp}{P:Addr->Prop}:∀ {ps:List Addr}{C2:List (List D)},By K H P ps C2->AK K H P (ps.map V.ref) (C2.map fun ds=>.lst (ds.map .sh)) ps
 |_,_,.nil=>.nil
 |_,_,.cons h r t=>.cons (.lst h r.ows) t.ows
theorem Dq.tree {K:za}{H:Hp}{P:Addr->Prop}{c:Cl}{v:V}{fp:List Addr}{t:OT}(h:Dq K H P c v fp) (e:qD c=.ok t):C3 K H P v t fp:=by
 cases c with
 |val d=>exact h.elim
 |own ds =>
  cases e
  obtain⟨p,xs,rfl,rfl,h1,h2⟩:=h
  exact .lst h1 h2.ows
 |ow o =>
  cases o with
  |rows C2 =>
   cases e
   obtain⟨p,ps,rfl,rfl,h1,h2⟩:=h
   exact .lst h1 h2.ows
  |LI p ds=>cases e
  |tree p t' =>
   cases p with
   |none=>cases e;exact h
   |some q=>cases e
section
variable {P:Program}{w:World}{K:za}{mg:Str->Option Value}{base:Heap}
theorem eA {WX:Str->Hp->Prop}{P P2:Addr->Prop}{H H':Hp}{Q:VK}{c:Cl}{v:V}{fp:List Addr}(h:Y8 K WX P H Q (qD c)) (t:Tr P P H P2 H') (hs:∀ a,P a->P2 a) (ho:Dq K H' P2 c v fp) (hp:∀ a∈fp,P2 a/\¬ P a) (nd:fp.Nodup):Q v H':=by
 cases q:qD c with
 |bad=>rw[q] at h;exact h.elim
 |ex x=>cases c with
  |val d=>cases q
  |own ds=>cases q
  |ow o =>
   cases o with
   |rows C2=>cases q
   |LI p ds=>cases q
   |tree p t'=>cases p<;>cases q
 |ok u =>
  rw[q] at h
  have o:=ho.tree q
  refine h v fp H' (DB t) (fun a ha=>lD t (hp a ha).1 (hp a ha).2) nd (o.move (CL fun a ha=>ha.elim (hs a) fun z=>(hp a z).1) fun _ _=>rfl)
theorem qE {x qual:Str}{st:Stmt}{f:Addr}{fd:FuncData}{N ps:List Str}{k:Nat}(F:WL K x qual st f fd) (S:Ae N ps (A3 st)) (g:Ab->M Out)
 (hb:∀(B1:Value) (A:Around) (outer:List Env) (s:Shared) (H:Hp) (E:XK),BH k (A.deeper (envOfC qual (A3 st) s.heap.objs.size f B1))->Sw (UA P w K mg base N qual (A3 st) f B1 A outer s H E) (D5 K E) (AD st) g) :
 Ds P w K mg base (Tf P w base) (k + 1) f fd ps (spT K ps.length fun ds=>Y9 (g (AI N ds))):=by
 obtain⟨oc,od,kV,doc,pm,an,B1,ct,Sv,rfl,lk,bw⟩:=F.ex
 refine Uh lk bw S (fun vs H Q E h=>h.1) fun A outer s H vs Q E hr h=>?_
 obtain⟨hl,P',ds,ht,hv,hq⟩:=h
 obtain⟨t,h1,h2⟩:=hb B1 A outer s H E hr
 refine⟨t,h1,h2 ⟨P',fun _=>0⟩ P' _ H _ _ (OF ht hv) ?_⟩
 dsimp only at hq
 revert hq
 cases g (AI N ds) with
 |bad=>exact fun h=>h.elim
 |ex x=>exact fun h H' P2 t=>h H' (DB t)
 |ok o =>
  cases o with
  |ret d=>exact fun h v H' P2 t hv=>h v [] H' (DB t) (fun a ha=>by cases ha) za7 (.sh (by rw[To];exact hv))
  |next ρ=>exact fun h σ' H' P2 t E=>h .AA [] H' (DB t) (fun a ha=>by cases ha) za7 (.sh .AA)
  |brk ρ=>exact fun h=>h.elim
  |cont ρ=>exact fun h=>h.elim
  |CK c=>exact fun h v fp H' P2 t hs ht ho hp nd=>eA h t hs ho hp nd
  |Fd d ρ=>exact fun h=>h.elim
end
structure BV (P:Program) (w:World) (K:za) (mg:Str->Option Value) (base:Heap) (x:Str) (k n:Nat) (F:List D->M OT):Prop where
 ex:∃ fa fd ps,Ds P w K mg base (Tf P w base) k fa fd ps (spT K n F)/\mg x=some (.ref fa)/\zR K (.ref fa)=true/\Binds K fd ps []
theorem AF {P:Program}{w:World}{K:za}{mg:Str->Option Value}{base:Heap}{x:Str}{st:Stmt}{N ps:List Str}{k n:Nat}(T:Ai K mg x st ps) (S:Ae N ps (A3 st)) (g:Ab->M Out)
 (hb:∀(f:Addr) (B1:Value) (A:Around) (outer:List Env) (s:Shared) (H:Hp) (E:XK),BH k (A.deeper (envOfC x (A3 st) s.heap.objs.size f B1))->Sw (UA P w K mg base N x (A3 st) f B1 A outer s H E) (D5 K E) (AD st) g) (hn:ps.length=n:=by rfl) :
 BV P w K mg base x (k + 1) n (fun ds=>Y9 (g (AI N ds))):=by
 obtain⟨f,fd,F,hm,hB⟩:=T.ex
 subst hn
 exact⟨⟨f,fd,ps,qE F S g (hb f),hm,F.kp,hB⟩⟩
section
variable {X:Cx}{E:XK}{WX:Str->Hp->Prop}{c:Bool}{e:Expr}{es:List Expr}{fs:Ab->M (List D)}{f:Ab->M D}{fn:Ab->M OT}{ft:Ab->M Bool}{pos:Pos}
theorem Aa {k n:Nat}{F:List D->M OT}{x:Str}{p:Pos}(xo:XCall X E) (G:BV X.prog X.w X.K X.mg X.base x k n F) (hr:BH k X.A) (hg:Gl X x) (ha:DA X (D5 X.K E) true (e::es) fs) (hn:(e::es).length=n)
 (aU:(x == ("__debug__" : Str))=false:=by decide) (he:starEach (e::es) X.env=(false,eval e X.env)::starEach es X.env:=by rfl) (a6:(backTo pos (starEach es X.env)).any (·.1)=false:=by rfl) :
 DN X (D5 X.K E) (.Call (.Name x p) (e::es) [] pos) (fun ρ=>(fs ρ).bind F):=by
 obtain⟨fa,fd,ps,hF,hm,hk,hb⟩:=G.ex
 obtain⟨ta,a1,a2,a3⟩:=ha
 refine⟨_,Ue hF hr hg hm hk hb .nil xo.call a1 aU he a6,fun P0 P σ H Q ρ E h=>?_⟩
 dsimp only at h
 refine a2 P0 P σ H _ ρ E ?_
 cases q:fs ρ with
 |bad=>rw[q] at h;exact h
 |ex x=>rw[q] at h;exact h
 |ok ds =>
  rw[q] at h
  simp only[M.A7] at h
  intro vs H1 s1 aI
  rw[yW]
  exact⟨by rw[aI.length,a3 ρ ds q];exact hn,P,ds,(E.same s1).Cq,aI,h.same s1⟩
theorem BO (h:DN X WX e fn):DN X (fun _ _=>False) e fn:=by
 obtain⟨t,h1,h2⟩:=h
 refine⟨t,h1,fun P0 P σ H Q ρ E g=>h2 P0 P σ H Q ρ E ?_⟩
 cases q:fn ρ with
 |bad=>rw[q] at g;exact g
 |ex x=>rw[q] at g;exact (g H (Ad.refl H)).elim
 |ok t=>rw[q] at g;exact g
noncomputable def Yb (t:OT):M Out:=match t with
 | .sh d=>.ok (.ret d)
 |t=>.ok (.CK (.ow (.tree none t)))
end
section
variable {X:Cx}{WX:Str->Hp->Prop}{c:Bool}{P0:EA}{P:Addr->Prop}{H:Hp}{σ:St}{ρ:Ab}{a b e:Expr}{f g:Ab->M D}{fn:Ab->M OT}{pos:Pos}
theorem An.tN {K:za}{H':Hp}{fp:List Addr}(E:An K P0 P H σ ρ) (s:Ad H H') (hn:∀ a∈fp,H a=none):Tr P0 P H (PU P fp) H' :=
 ⟨Dg s hn,fun a ha=>by obtain⟨o,q,_⟩:=E.Cq a (E.sub a ha);rw[q];exact s _ _ q⟩
theorem Am (ha:DN X WX e fn):DS X WX (.Return (some e) pos) (fun ρ=>(fn ρ).bind Yb):=by
 obtain⟨ta,a1,a2⟩:=ha
 refine⟨_,SE a1,fun P0 P σ H Z ρ E h=>?_⟩
 dsimp only at h
 refine a2 P0 P σ H _ ρ E ?_
 cases q:fn ρ with
 |bad=>rw[q] at h;exact h
 |ex x=>rw[q] at h;exact fun H' s=>h H' P (E.tr s)
 |ok t =>
  rw[q] at h
  simp only[M.A7] at h
  intro v fp H' s hn nd o
  have key:gS X.K WX P0 P H Z (.ok (.CK (.ow (.tree none t))))->Z.rt v H':=fun h =>
   h v fp H' (PU P fp) (E.tN s hn) (fun a ha=>.inl (E.sub a ha)) (KC (E.same s).Cq o) o (fun a ha=>⟨.inr ha,fun z=>(E.Cq a (E.sub a z)).no (hn a ha)⟩) nd
  cases t with
  |sh d =>
   cases o with
   |sh hv=>exact h v H' P (E.tr s) (hv.mono (CL fun a ha=>.inl (E.sub a ha)))
  |lst ts=>exact key h
  |tup ts=>exact key h
  |Bi b ks ts=>exact key h
  |ins x ns ts=>exact key h
noncomputable def Eg:List OT->Option (List D)
 |[]=>some []
 | .sh d::r=>(Eg r).map (d::·)
 |_::_=>none
theorem CJ:∀ ds:List D,Eg (ds.map .sh)=some ds
 |[]=>rfl
 |d::r=>by rw[zg,Eg,CJ r];rfl
theorem D7:∀ {ts:List OT}{ds:List D},Eg ts=some ds->ts=ds.map .sh
 |[],ds,h=>by cases h;rfl
 | .sh d::r,ds,h=>by
  rw[Eg] at h
  cases q:Eg r with
  |none=>rw[q] at h;cases h
  |some es=>rw[q] at h;cases h;rw[zg,<-D7 q]
 | .lst _::r,ds,h=>by cases h
 | .tup _::r,ds,h=>by cases h
 | .Bi _ _ _::r,ds,h=>by cases h
 | .ins _ _ _::r,ds,h=>by cases h
noncomputable def toCl (p:Option Nat) (t:OT):Cl:=match t with
 | .lst ts=>(match Eg ts with
  |some ds=>(match p with|none=>.own ds|some q=>.ow (.LI q ds))
  |none=>.ow (.tree p (.lst ts)))
 |t=>.ow (.tree p t)
@[simp] theorem toCl_list (ds:List D):toCl none (.lst (ds.map .sh))=.own ds:=by unfold toCl;simp only[CJ]
@[simp] theorem toCl_listP (q:Nat) (ds:List D):toCl (some q) (.lst (ds.map .sh))=.ow (.LI q ds):=by unfold toCl;simp only[CJ]
@[simp] theorem toCl_dct (p:Option Nat) (b:Bool) (ks:List D) (ts:List OT):toCl p (.Bi b ks ts)=.ow (.tree p (.Bi b ks ts)):=rfl
noncomputable def treeOf:Cl->Option (Option Nat×OT)
 | .own ds=>some (none,.lst (ds.map .sh))
 | .ow (.LI p ds)=>some (some p,.lst (ds.map .sh))
 | .ow (.rows C2)=>some (none,.lst (C2.map fun ds=>.lst (ds.map .sh)))
 | .ow (.tree p t)=>some (p,t)
 | .val _=>none
theorem Dq.toT {K:za}{H:Hp}{P:Addr->Prop}{c:Cl}{v:V}{fp:List Addr}{p:Option Nat}{t:OT}(h:Dq K H P c v fp) (e:treeOf c=some (p,t)):C3 K H P v t fp:=by
 cases c with
 |val d=>exact h.elim
 |own ds =>
  cases e
  obtain⟨p,xs,rfl,rfl,h1,h2⟩:=h
  exact .lst h1 h2.ows
 |ow o =>
  cases o with
  |rows C2 =>
   cases e
   obtain⟨p,ps,rfl,rfl,h1,h2⟩:=h
   exact .lst h1 h2.ows
  |LI p ds =>
   cases e
   obtain⟨p,xs,rfl,rfl,h1,h2⟩:=h
   exact .lst h1 h2.ows
  |tree p t'=>cases e;exact h
theorem Dq.toCl {K:za}{H:Hp}{P:Addr->Prop}{v:V}{fp:List Addr}{p:Option Nat}{t:OT}(h:C3 K H P v t fp):Dq K H P (toCl p t) v fp:=by
 unfold L2.toCl
 split
 ·rename_i ts
  cases q:Eg ts with
  |none=>exact h
  |some ds =>
   have e:=D7 q
   subst e
   cases h with
   |lst h1 h2 =>
    obtain⟨rfl,h3⟩:=h2.lG
    cases p with
    |none=>exact⟨_,_,rfl,rfl,h1,h3⟩
    |some q=>exact⟨_,_,rfl,rfl,h1,h3⟩
 ·exact h
theorem IH (p:Option Nat) (t:OT):OA (toCl p t)=p:=by
 unfold toCl
 split
 ·rename_i ts
  cases q:Eg ts with
  |none=>cases p<;>rfl
  |some ds=>cases p<;>rfl
 ·cases p<;>rfl
theorem II {c:Cl}{p:Option Nat}{t:OT}(h:treeOf c=some (p,t)):OA c=p:=by
 cases c with
 |val d=>cases h
 |own ds=>cases h;rfl
 |ow o =>
  cases o with
  |rows C2=>cases h;rfl
  |LI p ds=>cases h;rfl
  |tree p t=>cases h;cases p<;>rfl
noncomputable def Rv (i:Nat) (ρ:Ab) (t:OT):M Out:=match t with
 | .sh d=>.ok (.next (ρ.set i (some (.val d))))
 |t=>.ok (.next (ρ.set i (some (toCl none t))))
theorem iE {K:za}{i:Nat}{t:OT}{v:V}{fp:List Addr}{H':Hp}{Z:Ends}(E:An K P0 P H σ ρ) (s:Ad H H') (hn:∀ a∈fp,H a=none) (nd:fp.Nodup) (o:C3 K H' (PU P fp) v t fp) (h:gS K WX P0 P H Z (Rv i ρ t)):Z.nx (σ.set i (some v)) H':=by
 have key:gS K WX P0 P H Z (.ok (.next (ρ.set i (some (toCl none t)))))->Z.nx (σ.set i (some v)) H':=fun h=>by
  refine h _ H' (PU P fp) (E.tN s hn) (E.VP MV (KC (E.same s).Cq o) (Dg s hn) (fun j c' v' ai af g1 g2 g3 a ha=>?_) (Dq.toCl o) (fun a ha=>⟨.inr ha,fun z=>(E.Cq a (E.sub a z)).no (hn a ha)⟩) nd (fun n z=>by rw[IH] at z;cases z))
  obtain⟨xs,z⟩:=g3.at a ha
  exact⟨by rw[z];exact s _ _ z,fun w=>by rw[hn a w] at z;cases z⟩
 cases t with
 |sh d =>
  cases o with
  |sh hv=>exact h _ H' P (E.tr s) ((E.same s).VO (by rw[To] at hv;exact hv))
 |lst ts=>exact key h
 |tup ts=>exact key h
 |Bi b ks ts=>exact key h
 |ins x ns ts=>exact key h
theorem BB (i:Nat){x:Str}{pos':Pos}(hN:X.N.Nodup) (hi:X.N[i]? =some x) (hx:Loc X.env.scope x) (ha:DN X WX e fn) (hs:swapsWith e (some (.Name x pos')) pos.line X.env=pure false:=by rfl) (hf:X.fn x=true\/X.env.scope.names.lookup x=some .local:=by first | exact .inl rfl | exact .inr rfl | assumption) :
 DS X WX (.Assign [.Name x pos'] e pos) (fun ρ=>(fn ρ).bind (Rv i ρ)):=by
 obtain⟨ta,a1,a2⟩:=ha
 refine⟨_,SF hN hi hx a1 hs hf,fun P0 P σ H Z ρ E h=>?_⟩
 dsimp only at h
 refine a2 P0 P σ H _ ρ E ?_
 cases q:fn ρ with
 |bad=>rw[q] at h;exact h
 |ex x=>rw[q] at h;exact fun H' s=>h H' P (E.tr s)
 |ok t =>
  rw[q] at h
  exact fun v fp H' s hn nd o=>iE E s hn nd o h
noncomputable def Tp (i:Nat) (ρ:Ab):M Out:=match ρ[i]? with
 |some (some (.val d))=>.ok (.ret d)
 |some (some c)=>.ok (.CK c)
 |_=>.bad
theorem CN (i:Nat){x:Str}{p1:Pos}(hv:PE X (.Name x p1) (Lp i)):DS X WX (.Return (some (.Name x p1)) pos) (Tp i):=by
 refine⟨_,SE hv,fun P0 P σ H Z ρ E h=>?_⟩
 unfold Tp at h
 split at h
 ·rename_i d e1
  obtain⟨v,h1,h2⟩:=E.val i d e1
  exact⟨v,h1,h v H P Tr.refl (h2.mono (CL E.sub))⟩
 ·rename_i c hc e1
  have io:IA c=true:=by
   cases c with
   |val d=>exact (hc d rfl).elim
   |own ds=>rfl
   |ow o=>rfl
  obtain⟨v,fp,h1,h2,h3,h4⟩:=E.ows i _ e1 io
  exact⟨v,h1,h v fp H P Tr.refl E.sub E.Cq h2 h3 h4⟩
 ·exact h.elim
theorem PN:∀ ds:List D,Up (ds.map .sh)=ds
 |[]=>rfl
 |d::r=>by rw[zg,Up,er,PN r]
noncomputable def Yc (i:Nat) (ρ:Ab):Ab:=match ρ[i]? with
 |some (some c)=>ρ.set i (some (Lx c))
 |_=>ρ
end
end L2
namespace L2
open PySem PySem.Spec PyProof.Rows
section
variable {K:za}{H H':Hp}{P P':Addr->Prop}
theorem CI.same {v:V}{t:OT}{q:List Addr}{xs:List V}(e:Ad H H') (h:CI K H P v t q xs):CI K H' P v t q xs:=by
 cases t with
 |sh d=>exact h.elim
 |lst ts=>obtain⟨p,rfl,rfl,h⟩:=h;exact⟨p,rfl,rfl,e _ _ h⟩
 |tup ts=>obtain⟨p,rfl,rfl,h⟩:=h;exact⟨p,rfl,rfl,e.del _ _ h⟩
 |Bi b ks ts =>
  cases b with
  |false=>obtain⟨p,kvs,rfl,rfl,h,rfl,rfl⟩:=h;exact⟨p,kvs,rfl,rfl,e _ _ h,rfl,rfl⟩
  |true=>obtain⟨p,kvs,rfl,rfl,h,rfl,rfl⟩:=h;exact⟨p,kvs,rfl,rfl,e _ _ h,rfl,rfl⟩
 |ins x ns ts=>obtain⟨p,C,dx,fs,rfl,rfl,n,h,rfl,rfl⟩:=h;exact⟨p,C,dx,fs,rfl,rfl,n,e _ _ h,rfl,rfl⟩
theorem Jm.same {v v1:V}{t t1:OT}{π:List Nat}(e:Ad H H') (h:Jm K H P v t π v1 t1):Jm K H' P v t π v1 t1:=by
 induction h with
 |nil=>exact .nil
 |cons n hx hs _ ih=>exact .cons (n.same e) hx hs ih
theorem CI.more {v:V}{t:OT}{q:List Addr}{xs:List V}(sm:Ad (del H P) (del H' P')) (e:Ad H H') (h:CI K H P v t q xs):CI K H' P' v t q xs:=by
 cases t with
 |sh d=>exact h.elim
 |lst ts=>obtain⟨p,rfl,rfl,h⟩:=h;exact⟨p,rfl,rfl,e _ _ h⟩
 |tup ts=>obtain⟨p,rfl,rfl,h⟩:=h;exact⟨p,rfl,rfl,sm _ _ h⟩
 |Bi b ks ts =>
  cases b with
  |false=>obtain⟨p,kvs,rfl,rfl,h,rfl,rfl⟩:=h;exact⟨p,kvs,rfl,rfl,e _ _ h,rfl,rfl⟩
  |true=>obtain⟨p,kvs,rfl,rfl,h,rfl,rfl⟩:=h;exact⟨p,kvs,rfl,rfl,e _ _ h,rfl,rfl⟩
 |ins x ns ts=>obtain⟨p,C,dx,fs,rfl,rfl,n,h,rfl,rfl⟩:=h;exact⟨p,C,dx,fs,rfl,rfl,n,e _ _ h,rfl,rfl⟩
theorem Jm.more {v v1:V}{t t1:OT}{π:List Nat}(sm:Ad (del H P) (del H' P')) (e:Ad H H') (h:Jm K H P v t π v1 t1):Jm K H' P' v t π v1 t1:=by
 induction h with
 |nil=>exact .nil
 |cons n hx hs _ ih=>exact .cons (n.more sm e) hx hs ih
end
noncomputable def UP (i:Nat) (ρ:Ab) (π:List Nat):Option OT:=match ρ[i]? with
 |some (some c)=>(match treeOf c with|some (_,t)=>KA t π|none=>none)
 |_=>none
structure Bl (K:za) (P:Addr->Prop) (H:Hp) (σ:St) (ρ:Ab) (i:Nat) (π:List Nat) (v:V) (t1:OT):Prop where
 ex:∃ v0 c p t,ρ[i]? =some (some c)/\treeOf c=some (p,t)/\σ[i]? =some (some v0)/\Jm K H P v0 t π v t1
theorem Bl.at {K:za}{P:Addr->Prop}{H:Hp}{σ:St}{ρ:Ab}{i:Nat}{π:List Nat}{v:V}{t1:OT}(h:Bl K P H σ ρ i π v t1):UP i ρ π=some t1:=by
 obtain⟨v0,c,p,t,h1,h2,h3,h4⟩:=h.ex
 unfold UP
 simp only[h1,h2]
 exact h4.sub
theorem Bl.same {K:za}{P:Addr->Prop}{H H':Hp}{σ:St}{ρ:Ab}{i:Nat}{π:List Nat}{v:V}{t1:OT}(e:Ad H H') (h:Bl K P H σ ρ i π v t1):Bl K P H' σ ρ i π v t1:=by
 obtain⟨v0,c,p,t,h1,h2,h3,h4⟩:=h.ex
 exact⟨v0,c,p,t,h1,h2,h3,h4.same e⟩
theorem Bl.more {K:za}{P P':Addr->Prop}{H H':Hp}{σ:St}{ρ:Ab}{i:Nat}{π:List Nat}{v:V}{t1:OT}(sm:Ad (del H P) (del H' P')) (e:Ad H H') (h:Bl K P H σ ρ i π v t1):Bl K P' H' σ ρ i π v t1:=by
 obtain⟨v0,c,p,t,h1,h2,h3,h4⟩:=h.ex
 exact⟨v0,c,p,t,h1,h2,h3,h4.more sm e⟩
theorem Bl.own {K:za}{P0:EA}{P:Addr->Prop}{H:Hp}{σ:St}{ρ:Ab}{i:Nat}{π:List Nat}{v:V}{t1:OT}(h:Bl K P H σ ρ i π v t1) (E:An K P0 P H σ ρ):∃ aA,C3 K H P v t1 aA/\(∀ a∈aA,P a/\¬ P0 a)/\aA.Nodup:=by
 obtain⟨v0,c,p,t,h1,h2,h3,h4⟩:=h.ex
 have io:IA c=true:=by cases c<;>first|rfl|cases h2
 obtain⟨w,fp,k1,k2,k3,k4⟩:=E.ows i c h1 io
 rw[h3] at k1;cases k1
 obtain⟨aA,o1,hk,kn⟩:=(k2.toT h2).part h4
 exact⟨aA,o1,fun a ha=>k3 a (hk a ha),kn k4⟩
noncomputable def gP (K:za) (WX:Str->Hp->Prop) (P:Addr->Prop) (H:Hp) (σ:St) (ρ:Ab) (i:Nat) (Q:VK):M (List Nat)->Prop
 | .ok π=>∀ v t1 H',Ad H H'->Bl K P H' σ ρ i π v t1->Q v H'
 | .ex x=>∀ H',Ad H H'->WX x H'
 | .bad=>False
noncomputable def DP (X:Cx) (WX:Str->Hp->Prop) (e:Expr) (i:Nat) (f:Ab->M (List Nat)):Prop :=
 ∃ t,PE X e t/\∀ P0 P σ H Q ρ,An X.K P0 P H σ ρ->gP X.K WX P H σ ρ i Q (f ρ)->t σ H Q
section
variable {X:Cx}{WX:Str->Hp->Prop}{c:Bool}{P0:EA}{P:Addr->Prop}{H:Hp}{σ:St}{ρ:Ab}{a b e:Expr}{f g:Ab->M D}{fn:Ab->M OT}{fp:Ab->M (List Nat)}{pos:Pos}{i:Nat}
noncomputable def Rw (i:Nat) (ρ:Ab):M (List Nat):=match UP i ρ [] with | some _=>.ok [] | none=>.bad
theorem BP (i:Nat){x:Str}{p1:Pos}(hv:PE X (.Name x p1) (Lp i)):DP X WX (.Name x p1) i (Rw i):=by
 refine⟨_,hv,fun P0 P σ H Q ρ E h=>?_⟩
 unfold Rw at h
 split at h
 ·rename_i t e
  unfold UP at e
  split at e
  ·rename_i cl e1
   split at e
   ·rename_i p t0 e2
    have io:IA cl=true:=by cases cl<;>first|rfl|cases e2
    obtain⟨v,fp,h1,h2,h3,h4⟩:=E.ows i cl e1 io
    exact⟨v,h1,h v t0 H (Ad.refl H) ⟨v,cl,p,t0,e1,e2,h1,.nil⟩⟩
   ·cases e
  ·cases e
 ·exact h.elim
noncomputable def tO (i:Nat) (ρ:Ab) (π:List Nat):M D:=match UP i ρ π with
 |some (.sh d)=>.ok d
 |_=>.bad
theorem An.qG {K:za}{P':Addr->Prop}{H':Hp}{π:List Nat}{v1:V}{t1 u:OT}{aA fu:List Addr}(E:An K P0 P H σ ρ) (pl:Bl K P H σ ρ i π v1 t1) (o:C3 K H P v1 t1 aA) (hs:∀ a,P a->P' a) (ht:∀ a,P' a->Dt H' a) (sm:Ad (del H P) (del H' P')) (keep:∀ a,P a->a∉aA->H' a=H a)
 (o':C3 K H' P' v1 u fu) (nd:fu.Nodup) (hf:∀ a∈fu,a∈aA\/(P' a/\¬ P0 a/\∀(j:Nat) c v fp,ρ[j]? =some (some c)->σ[j]? =some (some v)->Dq K H P c v fp->a∉fp)) :
 ∃ c p t,ρ[i]? =some (some c)/\treeOf c=some (p,t)/\An K P0 P' H' σ (ρ.set i (some (toCl p (EZ t π u))))/\Tr P0 P H P' H':=by
 obtain⟨v0,c,p,t,h1,h2,h3,h4⟩:=pl.ex
 have io:IA c=true:=by cases c<;>first|rfl|cases h2
 obtain⟨w,fp,k1,k2,k3,k4⟩:=E.ows i c h1 io
 rw[h3] at k1;cases k1
 have ot:=k2.toT h2
 obtain⟨fz,oz,kz,_⟩:=ot.part h4
 have:=oz.Cr o;subst this
 obtain⟨ai,q1,q2,q3⟩:=ot.put sm h4 o o' (fun a ha hn=>keep a (k3 a ha).1 hn) k4 nd (fun a ha hb=>(hf a ha).elim id fun z=>(z.2.2 i c v0 fp h1 h3 k2 hb).elim)
 refine⟨c,p,t,h1,h2,?_,sm,fun a ha=>keep a (E.sub a ha) fun z=>(k3 a (kz a z)).2 ha⟩
 have key:=E.VP (P':=P') (H':=H') (i:=i) (v:=v0) (c:=toCl p (EZ t π u)) (fp:=ai) hs ht sm (fun j c' v' fq af g1 g2 g3 a ha=>?_) (Dq.toCl q1) (fun a ha=>?_) q2 (fun n z=>by rw[IH] at z;subst z;have:=E.pin i c n h1 (II h2);rw[h3] at this;cases this;rfl)
 ·rw[Kv h3] at key
  exact key
 ·have o6:a∉fp:=E.apart j i c' c v' v0 fq fp g1 h1 g2 h3 g3 k2 (yL af) a ha
  have jq:IA c'=true:=by cases c'<;>first|rfl|exact g3.elim
  obtain⟨w',fr,m1,m2,m3,m4⟩:=E.ows j c' g1 jq
  rw[g2] at m1;cases m1
  have:=m2.Cr g3;subst this
  refine⟨keep a (m3 a ha).1 fun z=>o6 (kz a z),fun z=>?_⟩
  rcases q3 a z with y|y
  ·rcases hf a y with x|x
   ·exact o6 (kz a x)
   ·exact x.2.2 j c' v' fr g1 g2 g3 ha
  ·exact o6 y.1
 ·rcases q3 a ha with y|y
  ·rcases hf a y with x|x
   ·exact⟨hs a (k3 a (kz a x)).1,(k3 a (kz a x)).2⟩
   ·exact⟨x.1,x.2.1⟩
  ·exact⟨hs a (k3 a y.1).1,(k3 a y.1).2⟩
theorem An.tP {K:za}{π:List Nat}{l:Addr}{xs ys:List V}{ts us:List OT}{fq fu:List Addr}(E:An K P0 P H σ ρ) (pl:Bl K P H σ ρ i π (.ref l) (.lst ts)) (hH:H l=some (.lst xs)) (o:AK K H P xs ts fq) (o':AK K H P ys us fu) (nd:fu.Nodup) (hl:l∉fu)
 (hf:∀ a∈fu,a∈fq\/(P a/\¬ P0 a/\∀(j:Nat) c v fp,ρ[j]? =some (some c)->σ[j]? =some (some v)->Dq K H P c v fp->a∉fp)) :
 ∃ c p t,ρ[i]? =some (some c)/\treeOf c=some (p,t)/\An K P0 P (upd H l (.lst ys)) σ (ρ.set i (some (toCl p (EZ t π (.lst us)))))/\Tr P0 P H P (upd H l (.lst ys)):=by
 have ot:C3 K H P (.ref l) (.lst ts) (l::fq):=.lst hH o
 obtain⟨aA,o1,hp,_⟩:=pl.own E
 have:=o1.Cr ot;subst this
 have pP:P l:=(hp l ze).1
 have sd:del (upd H l (.lst ys)) P=del H P:=by
  funext b
  by_cases hb:P b
  ·rw[D3 hb,D3 hb]
  ·rw[Ax hb,Ax hb,Ah (fun z=>hb (by rw[z];exact pP))]
 have sm:Ad (del H P) (del (upd H l (.lst ys)) P):=by rw[sd];exact Ad.refl _
 refine E.qG pl ot (fun _ h=>h) (fun a h=>?_) sm (fun a ha hn=>Ah fun z=>hn (by rw[z];exact ze)) (.lst Ar (o'.move sm fun a ha=>Ah fun z=>hl (by rw[<-z];exact ha))) (yP.mpr ⟨hl,nd⟩) (fun a ha=>?_)
 ·by_cases ha:a=l
  ·subst ha;exact Dt.lst Ar
  ·unfold Dt;rw[Ah ha];exact E.Cq a h
 ·rcases zu.mp ha with z|z
  ·exact .inl (by rw[z];exact ze)
  ·rcases hf a z with y|y
   ·exact .inl (zf _ y)
   ·exact .inr y
end
end L2
namespace L2
open PySem PySem.Spec PyProof.Rows
noncomputable def kd:D->Option Key
 | .int i=>some (.inl i)
 | .str x=>some (.inr x)
 |_=>none
noncomputable def nK:List D->Option (List Key)
 |[]=>some []
 |d::r=>match kd d,nK r with|some k,some ks=>some (k::ks)|_,_=>none
theorem iF {d:D}{k:Key}(h:kd d=some k):d=Dp k:=by
 cases d<;>simp[kd] at h<;>subst h<;>rfl
theorem Yd:∀ {ds:List D}{ks:List Key},nK ds=some ks->ds=ks.map Dp
 |[],ks,h=>by cases h;rfl
 |d::r,ks,h=>by
  rw[nK] at h
  cases q:kd d with
  |none=>rw[q] at h;cases h
  |some k =>
   cases q2:nK r with
   |none=>rw[q,q2] at h;cases h
   |some wP =>
    rw[q,q2] at h
    cases h
    rw[zg,<-iF q,<-Yd q2]
inductive eB:Bool->D->Prop
 |k (κ:Key):eB false (Dp κ)
 |t (κ:List Key):eB true (.tup (κ.map Dp))
noncomputable def keyOk (b:Bool) (d:D):Bool:=match b,d with
 |false,d=>(kd d).isSome
 |true,.tup ds=>(nK ds).isSome
 |_,_=>false
theorem Fh {b:Bool}{d:D}(h:keyOk b d=true):eB b d:=by
 cases b with
 |false =>
  obtain⟨k,hk⟩:=zbe.mp (show (kd d).isSome=true from h)
  rw[iF hk];exact .k k
 |true =>
  cases d with
  |tup ds =>
   obtain⟨k,hk⟩:=zbe.mp (show (nK ds).isSome=true from h)
   rw[Yd hk];exact .t k
  |_=>cases h
theorem MW (a b:Key):Aw (Dp a) (Dp b)=decide (a=b):=by
 cases a with
 |inl i =>
  cases b with
  |inl j=>simp only[Dp,Aw];rw[zar];simp
  |inr y=>simp[Dp,Aw]
 |inr x =>
  cases b with
  |inl j=>simp[Dp,Aw]
  |inr y=>simp only[Dp,Aw];rw[zar];simp
theorem LP:∀ a b:List Key,Cy (a.map Dp) (b.map Dp)=decide (a=b)
 |[],[]=>by simp[Cy]
 |[],_::_=>by simp[Cy]
 |_::_,[]=>by simp[Cy]
 |a::r,b::t=>by
  rw[zg,zg,Cy,MW,LP r t,zar]
  simp
noncomputable def Gk {α:Type}:List D->List α->D->Option α
 |k::ks,v::vs,y=>if Aw k y=true then some v else Gk ks vs y
 |_,_,_=>none
noncomputable def IJ {α:Type}:List D->List α->D->α->List α
 |k::ks,v::vs,y,z=>(if Aw k y=true then z else v)::IJ ks vs y z
 |_,vs,_,_=>vs
noncomputable def Ly (ks:List D) (y:D):Bool:=ks.any fun k=>Aw k y
section
variable {κ:Type} [DecidableEq κ] {fk:κ->D}(hf:∀ a b,Aw (fk a) (fk b)=decide (a=b))
include hf
theorem MX {α:Type}:∀(kvs:List (κ×α)) (k:κ),Gk (kvs.map fun kv=>fk kv.1) (kvs.map za5) (fk k)=(kvs.find? fun kv=>decide (kv.1=k)).map (·.2)
 |[],k=>rfl
 |p::r,k=>by
  rw[zg,zg,Gk,hf,zb2]
  by_cases e:p.1=k
  ·rw[decide_eq_true e];rfl
  ·rw[decide_eq_false e]
   simp only[zF,if_false]
   exact MX r k
theorem MY {α:Type}(kvs:List (κ×α)) (k:κ):Ly (kvs.map fun kv=>fk kv.1) (fk k)=kvs.any fun kv=>decide (kv.1=k):=by
 unfold Ly
 rw[List.any_map]
 congr 1
 funext kv
 exact hf _ _
theorem Jp (k:κ) (v:V):∀(kvs:List (κ×V)),IJ (kvs.map fun kv=>fk kv.1) (kvs.map za5) (fk k) v=(kvs.map fun kv=>if kv.1=k then (kv.1,v) else kv).map za5
 |[]=>rfl
 |p::r=>by
  rw[zg,zg,IJ,hf,zg,zg,Jp k v r]
  by_cases e:p.1=k
  ·rw[decide_eq_true e,if_pos e];rfl
  ·rw[decide_eq_false e,if_neg e];rfl
theorem Jq (k:κ) (v:V):∀(kvs:List (κ×V)),(kvs.map fun kv=>if kv.1=k then (kv.1,v) else kv).map (fun kv=>fk kv.1)=kvs.map fun kv=>fk kv.1
 |[]=>rfl
 |p::r=>by
  rw[zg,zg,zg,Jq k v r]
  by_cases e:p.1=k
  ·rw[if_pos e]
  ·rw[if_neg e]
end
theorem MZ {K:za}{H:Hp}:∀ {ks:List D}{xs:List V}{ds:List D}{y d:D},Ag K H xs ds->Gk ks ds y=some d->∃ x,Gk ks xs y=some x/\BK K H x d
 |[],_,_,_,_,_,e=>by simp[Gk] at e
 |_::_,_,_,_,_,.nil,e=>by simp[Gk] at e
 |k::ks,_,_,y,d,.cons h t,e=>by
  rw[Gk] at e ⊢
  by_cases q:Aw k y=true
  ·rw[if_pos q] at e ⊢;cases e;exact⟨_,rfl,h⟩
  ·rw[if_neg q] at e ⊢;exact MZ t e
theorem Hy {α:Type}:∀ {ks:List D}{xs:List α}{y:D},xs.length=ks.length->Ly ks y=(Gk ks xs y).isSome
 |[],[],y,_=>rfl
 |k::ks,x::xs,y,h=>by
  unfold Ly
  rw[zb7,Gk]
  cases q:Aw k y with
  |true=>rfl
  |false =>
   simp only[Bool.false_or,zF,if_false]
   exact Hy (by simpa using h)
 |[],_::_,_,h=>by cases h
 |_::_,[],_,h=>by cases h
theorem Jr {K:za}{H:Hp}{P:Addr->Prop}{y d:D}{v:V}(hv:BK K (del H P) v d):∀ {ks:List D}{xs:List V}{ds:List D},Ag K (del H P) xs ds->Ag K (del H P) (IJ ks xs y v) (IJ ks ds y d)
 |[],_,_,h=>by simp only[IJ];exact h
 |_::_,_,_,.nil=>by simp only[IJ];exact .nil
 |k::ks,_,_,.cons h t=>by
  rw[IJ,IJ]
  refine .cons ?_ (Jr hv t)
  by_cases q:Aw k y=true
  ·rw[if_pos q,if_pos q];exact hv
  ·rw[if_neg q,if_neg q];exact h
section
variable {K:za}{H:Hp}{P:Addr->Prop}
theorem Ag.keys:∀ {xs:List V}(κ:List Key),Ag K H xs (κ.map Dp)->xs=κ.map kV
 |_,[],.nil=>rfl
 |_,k::r,.cons h t=>by
  rw[zg,<-Ag.keys r t]
  congr 1
  cases k with
  |inl i=>exact h.int_inv
  |inr x=>cases h;rfl
theorem BK.lI {y:V}{κ:Key}(h:BK K H y (Dp κ)):y=kV κ:=by
 cases κ with
 |inl i=>exact h.int_inv
 |inr x=>cases h;rfl
theorem PP {v y:V}{b:Bool}{ks vs:List D}{k:D}(hv:BK K (del H P) v (.Bi b ks vs)) (hy:BK K (del H P) y k) (hk:eB b k):∃ a xs,v=.ref a/\Iv H a y (Gk ks xs k)/\Ag K (del H P) xs vs/\xs.length=ks.length:=by
 cases hv with
 |Iy hh hl =>
  cases hk with
  |k κ =>
   refine⟨_,_,rfl,?_,hl,by simp⟩
   rw[hy.lI,MX MW]
   exact Iv.k (Al hh).2
 |Iz hh hl =>
  cases hk with
  |t κ =>
   cases hy with
   |tup ht aZ =>
    have e:=Ag.keys κ aZ
    subst e
    refine⟨_,_,rfl,?_,hl,by simp⟩
    rw[MX (fk:=fun κ:List Key=>D.tup (κ.map Dp)) (fun a b=>by simp only[Aw];exact LP a b)]
    exact Iv.t (Al hh).2 (Al ht).2
end
section
variable {X:Cx}{WX:Str->Hp->Prop}{c:Bool}{P0:EA}{P:Addr->Prop}{H:Hp}{σ:St}{ρ:Ab}{a b e:Expr}{f g:Ab->M D}{fn:Ab->M OT}{fp:Ab->M (List Nat)}{pos:Pos}{i:Nat}
noncomputable def qH:R2:=fun x y H Q=>∃ a v,x=.ref a/\Iv H a y (some v)/\Q v H
theorem eC (hu:X.A.units + 1 < cLine):ZI X qH:=by
 intro value slice pins s σ H x y v u Q I rx ry h hs
 obtain⟨a,z,rfl,g,q⟩:=h
 cases rx
 have hT:=R3 I g
 have h₂:wpAny (model X.prog X.w) X.A (getItem (.ref a) u) (EP X pins σ Q) X.xe s:=VG hu I g ry fun w' s3 I3 bz=>⟨z,H,I3,bz,q⟩
 unfold subscriptTail
 refine wpAny_bind ?_
 rw[getitemInPython_of_ne hT.not_modules]
 refine wpAny_bind (wpAny_specialOf hT PySem.F.slot_dict_getitem.lookup ?_)
 have fin:wpAny (model X.prog X.w) X.A (subscripted slice false (.ref a) u) (fun r s₃=>wpAny (model X.prog X.w) X.A (letTemporaryGo value (.ref a) r >>= fun _=>pure r) (EP X pins σ Q) X.xe s₃) X.xe s:=by
  rw[hs]
  exact wpAny_operating (wpAny_mono h₂ (fun r s₃ h₃=>wpAny_bind (wpAny_letTemporaryGo (wpAny_pure h₃))) fun _ _ x=>x)
 first
  |exact wpAny_pure (wpAny_bind fin)
  |exact wpAny_bind (wpAny_pure (wpAny_bind fin))
  |exact wpAny_bind fin
noncomputable def B5 (x y:D):M D:=match x with
 | .Bi b ks vs=>if keyOk b y=true then (match Gk ks vs y with|some d=>.ok d|none=>.bad) else .bad
 |x=>cS x y
theorem eE:Ur X.K WX (fun x y H Q=>(jZ X.K x y H Q\/kA X.K x y H Q)\/qH x y H Q) B5:=by
 intro P H x y v w Q ht hx hy h
 cases x with
 |Bi b ks vs =>
  simp only[B5] at h
  by_cases hk:keyOk b y=true
  ·rw[if_pos hk] at h
   obtain⟨a,xs,rfl,g,hl,_⟩:=PP hx hy (Fh hk)
   split at h
   ·rename_i d e
    obtain⟨u,e1,e2⟩:=MZ hl e
    rw[e1] at g
    exact .inr ⟨a,u,rfl,g,h _ H (Ad.refl H) e2⟩
   ·exact h.elim
  ·rw[if_neg hk] at h;exact h.elim
 |AA=>exact .inl (Gz P H _ y v w Q ht hx hy h)
 |bl b=>exact .inl (Gz P H _ y v w Q ht hx hy h)
 |int b=>exact .inl (Gz P H _ y v w Q ht hx hy h)
 |str b=>exact .inl (Gz P H _ y v w Q ht hx hy h)
 |tup b=>exact .inl (Gz P H _ y v w Q ht hx hy h)
 |lst b=>exact .inl (Gz P H _ y v w Q ht hx hy h)
 |DM b=>exact .inl (Gz P H _ y v w Q ht hx hy h)
 |ins b _ _=>exact .inl (Gz P H _ y v w Q ht hx hy h)
theorem Ac {n:Nat}(hu:X.A.units + n < cLine) (ha:DE X WX c a f) (hb:DE X WX c b g) (hs:Hl b:=by exact fun _ _=>rfl) (hn:1<=n:=by decide):DE X WX c (.Subscript a b pos) (fun ρ=>(f ρ).bind fun x=>(g ρ).bind fun y=>B5 x y):=pN ((LG.or kB).or (eC (by omega))) eE ha hb hs
noncomputable def lJ (neg:Bool):R2:=fun y x H Q=>∃ a o,x=.ref a/\Iv H a y o/\Q (.bl (if neg=true then !o.isSome else o.isSome)) H
theorem Tq (hu:X.A.units + 1 < cLine):Gs X (compareOp .In) (lJ false):=by
 intro pins s σ H x y v u Q I rx ry h
 obtain⟨a,o,rfl,g,q⟩:=h
 cases ry
 exact tD hu I g rx fun s3 I3=>⟨.bl o.isSome,H,I3,rfl,q⟩
theorem O1 (hu:X.A.units + 1 < cLine):Gs X (compareOp .NotIn) (lJ true):=by
 intro pins s σ H x y v u Q I rx ry h
 obtain⟨a,o,rfl,g,q⟩:=h
 cases ry
 exact ZO hu I g rx fun s3 I3=>⟨.bl (!o.isSome),H,I3,rfl,q⟩
noncomputable def Js (neg:Bool) (y x:D):M D:=match x with
 | .Bi b ks vs=>if keyOk b y=true then .ok (.bl (if neg=true then !Ly ks y else Ly ks y)) else .bad
 |x=>rJ neg y x
theorem UQ {neg:Bool}:Ur X.K WX (fun x y H Q=>rE X.K neg x y H Q\/lJ neg x y H Q) (Js neg):=by
 intro P H x y v w Q ht hx hy h
 cases y with
 |Bi b ks vs =>
  simp only[Js] at h
  by_cases hk:keyOk b x=true
  ·rw[if_pos hk] at h
   obtain⟨a,xs,rfl,g,hl,hn⟩:=PP hy hx (Fh hk)
   rw[Hy (xs:=xs) hn] at h
   exact .inr ⟨a,_,rfl,g,h _ H (Ad.refl H) (.bl _)⟩
  ·rw[if_neg hk] at h;exact h.elim
 |AA=>exact .inl (GD P H x _ v w Q ht hx hy h)
 |bl b=>exact .inl (GD P H x _ v w Q ht hx hy h)
 |int b=>exact .inl (GD P H x _ v w Q ht hx hy h)
 |str b=>exact .inl (GD P H x _ v w Q ht hx hy h)
 |tup b=>exact .inl (GD P H x _ v w Q ht hx hy h)
 |lst b=>exact .inl (GD P H x _ v w Q ht hx hy h)
 |DM b=>exact .inl (GD P H x _ v w Q ht hx hy h)
 |ins b _ _=>exact .inl (GD P H x _ v w Q ht hx hy h)
theorem N0 {n:Nat}(hu:X.A.units + n < cLine) (ha:DE X WX c a f) (hb:DE X WX c b g) (hm:behindInMarks .In b=false:=by rfl) (hn:1<=n:=by decide):DT X WX (.Compare a [.In] [b] pos) (fun ρ=>((f ρ).bind fun x=>(g ρ).bind fun y=>Js false x y).bind OC):=Fy (VB.or (Tq (by omega))) UQ ha hb hm
theorem LQ {n:Nat}(hu:X.A.units + n < cLine) (ha:DE X WX c a f) (hb:DE X WX c b g) (hm:behindInMarks .NotIn b=false:=by rfl) (hn:1<=n:=by decide):DT X WX (.Compare a [.NotIn] [b] pos) (fun ρ=>((f ρ).bind fun x=>(g ρ).bind fun y=>Js true x y).bind OC):=Fy (Pu.or (O1 (by omega))) UQ ha hb hm
noncomputable def F0:D->M Bool
 | .AA=>.ok false
 | .bl b=>.ok b
 | .int i=>.ok (i != 0)
 | .tup ds=>.ok (!ds.isEmpty)
 | .lst ds=>.ok (!ds.isEmpty)
 |_=>.bad
theorem Jt {K:za}{H:Hp}{xs:List V}{ds:List D}(h:Ag K H xs ds):(!ds.isEmpty) = !xs.isEmpty:=by cases h<;>rfl
theorem BX (h:DE X WX c e f) (he:∀ whole,isTrue e X.env whole=(do let v <-whole;standAt e.pos;holding [v] (truthy v)):=by intro _;rfl):DT X WX e (fun ρ=>(f ρ).bind F0):=by
 obtain⟨t,h1,h2⟩:=h
 refine⟨_,Xa h1 he,fun P0 P σ H Q ρ E h=>h2 P0 P σ H _ ρ E ?_⟩
 dsimp only at h
 cases q:f ρ with
 |bad=>rw[q] at h;exact h
 |ex x=>rw[q] at h;exact h
 |ok d =>
  rw[q] at h
  simp only[M.A7] at h
  intro v H' s hv
  cases hv with
  |AA=>exact⟨false,rfl,h H' s⟩
  |bl b=>exact⟨b,rfl,h H' s⟩
  |int i=>exact⟨_,rfl,h H' s⟩
  |tup hs hl=>exact⟨_,.inr (.inl ⟨_,Fs.of (Al hs).2,rfl⟩),by rw[<-Jt hl];exact h H' s⟩
  |lst hs hl=>exact⟨_,.inl ⟨_,hs.Bo,rfl⟩,by rw[<-Jt hl];exact h H' s⟩
  |_=>exact h.elim
end
end L2
namespace L2
open PySem PySem.Spec PyProof.Rows
noncomputable def Ju (m:M (List D)):M OT:=match m with | .ok ys=>.ok (.lst (ys.map .sh)) | _=>.bad
section
variable {X:Cx}{WX:Str->Hp->Prop}{c:Bool}{P0:EA}{P:Addr->Prop}{H:Hp}{σ:St}{ρ:Ab}{a b e tg iter:Expr}{f g:Ab->M D}{ft:Ab->M Bool}{pos:Pos}{gt:D->Ab->M Ab}{fi:Ab->M (List D)}{es:List Expr}{fs:Ab->M (List D)}
theorem Ye {μ:List (Option Nat)}{wi:TI}{gg:TG}{tc:Shared->Hp->Addr->List Addr->TT}{te:Shared->Hp->Addr->List Addr->TE}{fe:Ab->M D}
 (i2:∀ P0 P σ H R ρ,An X.K P0 P H σ ρ->(match fi ρ with | .ok ds=>∀ J H',Ad H H'->cU X.K J P H' ds->R J H' | .ex x=>∀ H',Ad H H'->WX x H' | .bad=>False)->wi σ H R)
 (g2:∀ P0 P σ H Q ρ v d,An X.K P0 P H σ ρ->BK X.K (del H P) v d->gG X.K P0 P H Q (gt d ρ)->gg v σ H Q)
 (t2:∀ s H' C ex P0 P σ H Q ρ,An X.K P0 P H σ ρ->gT (fun _ _=>False) H Q (ft ρ)->tc s H' C ex σ H Q)
 (e2:∀ s H' C ex P0 P σ H Q ρ,An X.K P0 P H σ ρ->gV X.K (fun _ _=>False) (Lv true P0 P) H Q (fe ρ)->te s H' C ex σ H Q) {Q:VK}
 (E:An X.K P0 P H σ ρ) (h:Y8 X.K WX P H Q ((fi ρ).bind fun ds=>if ds.length<=1000 then Ju (B9 gt ft fe ds (Bz μ ρ)) else .bad)):Ul wi μ gg tc te σ H Q:=by
 refine i2 P0 P σ H _ ρ E ?_
 cases q:fi ρ with
 |bad=>rw[q] at h;exact h
 |ex x=>rw[q] at h;exact h
 |ok ds =>
  rw[q] at h
  simp only[M.A7] at h
  by_cases hd:¬ ds.length<=1000
  ·rw[if_neg hd] at h;exact h.elim
  have hd:ds.length<=1000:=by omega
  rw[if_pos hd] at h
  intro J H1 s1 ok s C ex
  cases qc:B9 gt ft fe ds (Bz μ ρ) with
  |bad=>rw[qc] at h;exact h.elim
  |ex x=>rw[qc] at h;exact h.elim
  |ok total =>
   rw[qc] at h
   unfold Ju at h
   dsimp only at h
   have E1:=E.same s1
   refine⟨fun i m ys H2=>m=ds.length - i/\i<=ds.length/\ys.length<=i/\Ad H1 H2/\∃ es rest,Ag X.K (del H2 P) ys es/\B9 gt ft fe (ds.drop i) (Bz μ ρ)=.ok rest/\es++rest=total,
    ⟨ds.length,by simp,zW _,zB _,Ad.refl _,[],total,.nil,by rw[List.drop_zero];exact qc,rfl⟩,?_⟩
   rintro i m ys H2 ⟨rfl,hi,hy,s2,es,rest,f7,aq,bo⟩
   by_cases aj:i < ds.length
   ·refine .inr ⟨ok.go i P H2 s2.del aj,Nat.lt_of_le_of_lt hy (AH (by omega)),fun bA H'=>i + 1<=ds.length/\bA.length<=i + 1/\Ad H1 H'/\∃ es rest,Ag X.K (del H' P) bA es/\B9 gt ft fe (ds.drop (i + 1)) (Bz μ ρ)=.ok rest/\es++rest=total,fun bA H' hq=>⟨ds.length - (i + 1),by omega,rfl,hq.1,hq.2.1,hq.2.2.1,hq.2.2.2⟩,fun v H3 y=>?_⟩
    have E2:=E1.same s2
    obtain⟨s3,hv⟩:=ok.gO i P H2 v H3 ds[i] s2.del E2.Cq (zt aj) y
    rw[Jd aj,B9] at aq
    have E3:=(E2.same s3).block μ
    refine g2 P0 P _ H3 _ (Bz μ ρ) v ds[i] E3 hv ?_
    cases q1:gt ds[i] (Bz μ ρ) with
    |bad=>rw[q1] at aq;cases aq
    |ex x=>rw[q1] at aq;cases aq
    |ok ρ1 =>
     rw[q1] at aq
     dsimp only at aq
     intro σ4 E4
     refine t2 s H1 C ex P0 P σ4 H3 _ ρ1 E4 ?_
     cases q2:ft ρ1 with
     |bad=>rw[q2] at aq;cases aq
     |ex x=>rw[q2] at aq;cases aq
     |ok k =>
      rw[q2] at aq
      dsimp only at aq
      intro H5 s5
      cases k with
      |false =>
       simp only[zF,if_false] at aq ⊢
       exact⟨aj,by omega,(s2.trans s3).trans s5,es,rest,(f7.mono s3.del).mono s5.del,aq,bo⟩
      |true =>
       simp only[if_true] at aq ⊢
       refine e2 s H1 C ex P0 P σ4 H5 _ ρ1 (E4.same s5) ?_
       cases q3:fe ρ1 with
       |bad=>rw[q3] at aq;cases aq
       |ex x=>rw[q3] at aq;cases aq
       |ok y' =>
        rw[q3] at aq
        dsimp only at aq
        cases q4:B9 gt ft fe (ds.drop (i + 1)) (Bz μ ρ) with
        |bad=>rw[q4] at aq;cases aq
        |ex x=>rw[q4] at aq;cases aq
        |ok n4 =>
         rw[q4] at aq
         cases aq
         intro w H6 s6 hw
         refine⟨aj,by rw[zL,za9];omega,((s2.trans s3).trans s5).trans s6,es++[y'],n4,(((f7.mono s3.del).mono s5.del).mono s6.del).snoc hw,rfl,?_⟩
         rw[zap];exact bo
   ·have e:i=ds.length:=by omega
    subst e
    rw[List.drop_length,B9] at aq
    cases aq
    rw[yW] at bo
    subst bo
    exact .inl ⟨ok.stop _ P H2 s2.del (zB _),fun D0 hn=>h.KG (s1.trans s2) f7 D0 hn⟩
theorem Cd {scope:Scope}{NB:List Str}{ifs:List Expr}{elt:Expr}{fe:Ab->M D}(μ:List (Option Nat)) (hc:X.calm=true) (hi:DI X WX tg iter fi) (aG:J6 scope X.env.scope=true) (bG:Pz X.N NB scope μ=true) (hg:pV X scope NB μ tg gt)
 (ht:∀ s H C ex,pW (blockOf X s H scope C NB ex) ifs ft) (he:∀ s H C ex,DE (blockOf X s H scope C NB ex) (fun _ _=>False) true elt fe) (hs:∀ x,foldedSetIterable iter X.env x=pure x:=by intro _;rfl) :
 DN X WX (.ListComp elt [⟨tg,iter,ifs,0⟩] scope pos) (fun ρ=>(fi ρ).bind fun ds=>if ds.length<=1000 then Ju (B9 gt ft fe ds (Bz μ ρ)) else .bad):=by
 obtain⟨wi,i1,i2⟩:=hi
 obtain⟨gg,g1,gk,g2⟩:=hg
 refine⟨_,ZW hc i1 aG bG gk (fun s H C ex=>⟨g1 s H C ex,(zb (ht s H C ex)).1,(zb (he s H C ex)).1⟩) hs,fun P0 P σ H Q ρ E h=>?_⟩
 exact Ye i2 g2 (fun s H' C ex P0 P σ H Q ρ E h=>(zb (ht s H' C ex)).2 P0 P σ H Q ρ E h) (fun s H' C ex P0 P σ H Q ρ E h=>(zb (he s H' C ex)).2 P0 P σ H Q ρ E h) E h
theorem Yg {scope:Scope}{NB:List Str}{ifs:List Expr}{elt:Expr}{fe:Ab->M D}(i:Nat){x:Str}{px ay:Pos}(μ:List (Option Nat)) (hN:X.N.Nodup) (jf:X.N[i]? =some x) (hx:Loc X.env.scope x) (hc:X.calm=true) (hi:DI X WX tg iter fi) (aG:J6 scope X.env.scope=true) (bG:Pz X.N NB scope μ=true) (hg:pV X scope NB μ tg gt)
 (ht:∀ s H C ex,pW (blockOf X s H scope C NB ex) ifs ft) (he:∀ s H C ex,DE (blockOf X s H scope C NB ex) (fun _ _=>False) true elt fe)
 (bj:swapsWith (.ListComp elt [⟨tg,iter,ifs,0⟩] scope pos) (some (.Name x px)) ay.line X.env=pure true:=by rfl) (hs:∀ x,foldedSetIterable iter X.env x=pure x:=by intro _;rfl) (hf:X.fn x=true\/X.env.scope.names.lookup x=some .local:=by first|exact .inl rfl|exact .inr rfl|assumption) :
 DS X WX (.Assign [.Name x px] (.ListComp elt [⟨tg,iter,ifs,0⟩] scope pos) ay) (fun ρ=>(Sx ((fi (ED ρ)).bind fun ds=>if ds.length<=1000 then Ju (B9 gt ft fe ds (Bz μ (ED ρ))) else .bad)).bind (Rv i ρ)):=by
 obtain⟨wi,i1,i2⟩:=hi
 obtain⟨gg,g1,gk,g2⟩:=hg
 refine⟨_,Um hN jf hx hc i1 aG bG gk (fun s H C ex=>⟨g1 s H C ex,(zb (ht s H C ex)).1,(zb (he s H C ex)).1⟩) bj hs hf,fun P0 P σ H Z ρ E h=>?_⟩
 refine Ye (P0:=P0) (P:=P0) i2 g2 (fun s H' C ex P0 P σ H Q ρ E h=>(zb (ht s H' C ex)).2 P0 P σ H Q ρ E h) (fun s H' C ex P0 P σ H Q ρ E h=>(zb (he s H' C ex)).2 P0 P σ H Q ρ E h) E.low ?_
 dsimp only at h
 revert h
 cases ((fi (ED ρ)).bind fun ds=>if ds.length<=1000 then Ju (B9 gt ft fe ds (Bz μ (ED ρ))) else .bad) with
 |bad=>exact fun h=>h
 |ex y=>exact fun h H' s=>h H' P (E.tr s)
 |ok t =>
  unfold Sx
  simp only[M.A7]
  by_cases hf:GI t=true
  ·rw[if_pos hf]
   exact fun h v fp H' s hn nd o=>iE E s hn nd (o.clean (KC (E.same s).Cq o) hf) h
  ·rw[if_neg hf];exact fun h=>h.elim
end
end L2
namespace L2
open PySem PySem.Spec PyProof.Rows
noncomputable def tQ (K:za) (WX:Str->Hp->Prop) (P:Addr->Prop) (p:Addr) (fp:List Addr) (H:Hp) (Q:VK):M (OT×OT)->Prop
 | .ok (t,r)=>∀ v H' P' ai fr,(∀ a,P a->a∉fp->P' a/\H' a=H a)->(∀ a,P' a->Dt H' a)->Ad (del H P) (del H' P')->C3 K H' P' (.ref p) t ai->ai.Nodup->C3 K H' P' v r fr->fr.Nodup->(∀ a∈fr,a∉ai)->
  (∀ a∈ai,P' a/\(P a->a∈fp))->(∀ a∈fr,P' a/\(P a->a∈fp))->Q v H'
 | .ex _=>False
 | .bad=>False
noncomputable def OP (K:za) (n:Nat) (F:OT->List D->M (OT×OT)):Sp:=fun vs H Q E=>vs.length=n/\∃ P p t fp rest a7,vs=.ref p::rest/\(∀ a,P a->Dt H a)/\(∀ a∈fp,P a)/\fp.Nodup/\C3 K H P (.ref p) t fp/\Ag K (del H P) rest a7/\tQ K (D5 K E) P p fp H Q (F t a7)
noncomputable def CY (N:List Str) (t:OT) (a7:List D):Ab:=some (toCl (some 0) t)::(a7.map (fun d=>some (.val d))++zw (N.length - (a7.length + 1)) none)
noncomputable def GJ (ρ:Ab):Option OT:=match ρ[0]? with
 |some (some c)=>(match treeOf c with|some (some 0,t)=>some t|_=>none)
 |_=>none
noncomputable def Eh (m:M Out):M (OT×OT):=match m with
 | .ok (.next ρ)=>(match GJ ρ with|some t=>.ok (t,.sh .AA)|none=>.bad)
 | .ok (.Fd r ρ)=>(match GJ ρ with|some t=>.ok (t,r)|none=>.bad)
 |_=>.bad
theorem Wa (p:Option Nat) (t:OT):IA (toCl p t)=true:=by
 unfold toCl
 split
 ·rename_i ts
  cases q:Eg ts with
  |none=>rfl
  |some ds=>cases p<;>rfl
 ·rfl
theorem Jv {K:za}{P:Addr->Prop}{H:Hp}{N:List Str}{p:Addr}{t:OT}{fp:List Addr}{rest:List V}{a7:List D}(ht:∀ a,P a->Dt H a) (hp:∀ a∈fp,P a) (nd:fp.Nodup) (o:C3 K H P (.ref p) t fp) (h:Ag K (del H P) rest a7) :
 An K ⟨fun a=>P a/\a∉fp,fun _=>p⟩ P H (start N (.ref p::rest)) (CY N t a7):=by
 have hl:=h.length
 have key:∀(i:Nat) (c:Cl),(a7.map (fun d=>some (Cl.val d))++zw (N.length - (a7.length + 1)) none)[i]? =some (some c)->∃ d,a7[i]? =some d/\c=.val d:=fun i c e=>by
  by_cases hi:i < a7.length
  ·rw[za0 (by simpa using hi),zH] at e
   cases q:a7[i]? with
   |none=>rw[q] at e;cases e
   |some d=>rw[q] at e;cases e;exact⟨d,rfl,rfl⟩
  ·rw[zai (by simpa using hi),zad] at e
   split at e<;>cases e
 have va:(start N (.ref p::rest))[0]? =some (some (.ref p)):=by unfold start;rfl
 refine⟨fun a h=>h.1,ht,fun i d e=>?_,fun i c e io=>?_,fun i j c c' v v' fp ai e1 e2 _ _ o1 o2 af=>?_,?_,fun i c n e wQ=>?_⟩
 rotate_left 4
 ·cases i with
  |zero=>exact va
  |succ i =>
   obtain⟨d',q,z⟩:=key i _ (by unfold CY at e;simpa using e)
   cases z
   cases wQ
 ·cases i with
  |zero =>
   have e':some (toCl (some 0) t)=some (.val d):=by simpa [CY] using e
   have:=Wa (some 0) t
   rw[zJ e'] at this
   cases this
  |succ i =>
   obtain⟨d',q,z⟩:=key i _ (by unfold CY at e;simpa using e)
   cases z
   obtain⟨v,hv,hd⟩:=h.get q
   refine⟨v,?_,hd⟩
   unfold start
   rw[zg,zbg,zT,za0 (by rw[zc];exact (zA.mp hv).1),zH,hv]
   rfl
 ·cases i with
  |zero =>
   have e':toCl (some 0) t=c:=by simpa [CY] using e
   subst e'
   exact⟨_,fp,va,Dq.toCl o,fun a ha=>⟨hp a ha,fun z=>z.2 ha⟩,nd⟩
  |succ i =>
   obtain⟨d',q,z⟩:=key i _ (by unfold CY at e;simpa using e)
   cases z
   cases io
 ·cases i with
  |zero =>
   cases j with
   |zero=>exact (af rfl).elim
   |succ j =>
    obtain⟨d',q,z⟩:=key j _ (by unfold CY at e2;simpa using e2)
    cases z
    exact o2.elim
  |succ i =>
   obtain⟨d',q,z⟩:=key i _ (by unfold CY at e1;simpa using e1)
   cases z
   exact o1.elim
 ·unfold start CY
  simp[hl]
section
variable {P:Program}{w:World}{K:za}{mg:Str->Option Value}{base:Heap}
theorem LR {P0:EA}{P':Addr->Prop}{H':Hp}{σ':St}{ρ:Ab}{t:OT}(E:An K P0 P' H' σ' ρ) (h:GJ ρ=some t):∃ c ai,ρ[0]? =some (some c)/\σ'[0]? =some (some (.ref (P0.g 0)))/\Dq K H' P' c (.ref (P0.g 0)) ai/\C3 K H' P' (.ref (P0.g 0)) t ai/\ai.Nodup/\∀ a∈ai,P' a/\¬ P0 a:=by
 unfold GJ at h
 split at h
 ·rename_i c e
  split at h
  ·rename_i t' e2
   cases h
   have io:IA c=true:=by cases c<;>first|rfl|cases e2
   obtain⟨v,fp,k1,k2,k3,k4⟩:=E.ows 0 c e io
   have:=E.pin 0 c 0 e (II e2)
   rw[k1] at this
   cases this
   exact⟨c,fp,e,k1,k2,k2.toT e2,k4,k3⟩
  ·cases h
 ·cases h
theorem lK {x qual:Str}{st:Stmt}{f:Addr}{fd:FuncData}{N ps:List Str}{k:Nat}(F:WL K x qual st f fd) (S:Ae N ps (A3 st)) (g:Ab->M Out)
 (hb:∀(B1:Value) (A:Around) (outer:List Env) (s:Shared) (H:Hp) (E:XK),BH k (A.deeper (envOfC qual (A3 st) s.heap.objs.size f B1))->Sw (UA P w K mg base N qual (A3 st) f B1 A outer s H E) (D5 K E) (AD st) g) :
 Ds P w K mg base (Tf P w base) (k + 1) f fd ps (OP K ps.length fun t a7=>Eh (g (CY N t a7))):=by
 obtain⟨oc,od,kV,doc,pm,an,B1,ct,Sv,rfl,lk,bw⟩:=F.ex
 refine Uh lk bw S (fun vs H Q E h=>h.1) fun A outer s H vs Q E hr h=>?_
 obtain⟨hl,P',p,t,fp,rest,a7,rfl,ht,hp,nd,ho,hv,hq⟩:=h
 obtain⟨tt,h1,h2⟩:=hb B1 A outer s H E hr
 refine⟨tt,h1,h2 ⟨fun a=>P' a/\a∉fp,fun _=>p⟩ P' _ H _ _ (Jv ht hp nd ho hv) ?_⟩
 dsimp only at hq
 revert hq
 cases g (CY N t a7) with
 |bad=>exact fun h=>h.elim
 |ex x=>exact fun h=>h.elim
 |ok o =>
  have sub:∀ {P2:Addr->Prop} {H2:Hp} {σ2:St} {ρ:Ab},An K ⟨fun a=>P' a/\a∉fp,fun _=>p⟩ P2 H2 σ2 ρ->∀ a,P2 a/\¬ (P' a/\a∉fp)->P2 a/\(P' a->a∈fp):=fun E a ha=>⟨ha.1,fun z=>zah fun w=>ha.2 ⟨z,w⟩⟩
  cases o with
  |ret d=>exact fun h=>h.elim
  |CK d=>exact fun h=>h.elim
  |next ρ =>
   intro hq σ' H' P2 t2 E2
   unfold Eh at hq
   dsimp only at hq
   split at hq
   ·rename_i t' e
    obtain⟨c,ai,k1,k2,k3,k4,k5,k6⟩:=LR E2 e
    exact hq .AA H' P2 ai [] (fun a ha hn=>⟨E2.sub a ⟨ha,hn⟩,t2.2 a ⟨ha,hn⟩⟩) E2.Cq t2.1 k4 k5 (.sh .AA) za7 (fun a ha=>by cases ha) (fun a ha=>sub E2 a (k6 a ha)) (fun a ha=>by cases ha)
   ·exact hq.elim
  |Fd r ρ =>
   intro hq v fr σ' H' P2 t2 E2 o2 b6 hf
   unfold Eh at hq
   dsimp only at hq
   split at hq
   ·rename_i t' e
    obtain⟨c,ai,k1,k2,k3,k4,k5,k6⟩:=LR E2 e
    exact hq v H' P2 ai fr (fun a ha hn=>⟨E2.sub a ⟨ha,hn⟩,t2.2 a ⟨ha,hn⟩⟩) E2.Cq t2.1 k4 k5 o2 b6 (fun a ha=>(hf a ha).2.2 0 c _ ai k1 k2 k3) (fun a ha=>sub E2 a (k6 a ha)) (fun a ha=>sub E2 a ⟨(hf a ha).1,(hf a ha).2.1⟩)
   ·exact hq.elim
  |brk ρ=>exact fun h=>h.elim
  |cont ρ=>exact fun h=>h.elim
end
structure OQ (P:Program) (w:World) (K:za) (mg:Str->Option Value) (base:Heap) (x:Str) (k n:Nat) (F:OT->List D->M (OT×OT)):Prop where
 ex:∃ fa fd ps,Ds P w K mg base (Tf P w base) k fa fd ps (OP K n F)/\mg x=some (.ref fa)/\zR K (.ref fa)=true/\Binds K fd ps []
theorem Rx {P:Program}{w:World}{K:za}{mg:Str->Option Value}{base:Heap}{x:Str}{st:Stmt}{N ps:List Str}{k n:Nat}(T:Ai K mg x st ps) (S:Ae N ps (A3 st)) (g:Ab->M Out)
 (hb:∀(f:Addr) (B1:Value) (A:Around) (outer:List Env) (s:Shared) (H:Hp) (E:XK),BH k (A.deeper (envOfC x (A3 st) s.heap.objs.size f B1))->Sw (UA P w K mg base N x (A3 st) f B1 A outer s H E) (D5 K E) (AD st) g) (hn:ps.length=n:=by rfl) :
 OQ P w K mg base x (k + 1) n (fun t a7=>Eh (g (CY N t a7))):=by
 obtain⟨f,fd,F,hm,hB⟩:=T.ex
 subst hn
 exact⟨⟨f,fd,ps,lK F S g (hb f),hm,F.kp,hB⟩⟩
section
variable {X:Cx}{WX:Str->Hp->Prop}{c:Bool}{P0:EA}{P:Addr->Prop}{H:Hp}{σ:St}{ρ:Ab}{a b e:Expr}{f g:Ab->M D}{fn:Ab->M OT}{fp:Ab->M (List Nat)}{pos:Pos}{i:Nat}{es:List Expr}{fs:Ab->M (List D)}
theorem An.qI {K:za}{P':Addr->Prop}{H':Hp}{π:List Nat}{v1 v2:V}{t1 u r:OT}{aA fu fr:List Addr}(E:An K P0 P H σ ρ) (pl:Bl K P H σ ρ i π v1 t1) (o:C3 K H P v1 t1 aA) (hs:∀ a,P a->a∉aA->P' a/\H' a=H a) (ht:∀ a,P' a->Dt H' a) (sm:Ad (del H P) (del H' P'))
 (o':C3 K H' P' v1 u fu) (nd:fu.Nodup) (hf:∀ a∈fu,P' a/\(P a->a∈aA)) (or:C3 K H' P' v2 r fr) (y9:fr.Nodup) (hr:∀ a∈fr,P' a/\(P a->a∈aA)) (dj:∀ a∈fr,a∉fu) :
 ∃ c p t,ρ[i]? =some (some c)/\treeOf c=some (p,t)/\An K P0 P' H' σ (ρ.set i (some (toCl p (EZ t π u))))/\Tr P0 P H P' H' /\
  ∀ a∈fr,P' a/\¬ P0 a/\∀(j:Nat) c' v fq,(ρ.set i (some (toCl p (EZ t π u))))[j]? =some (some c')->σ[j]? =some (some v)->Dq K H' P' c' v fq->a∉fq:=by
 obtain⟨v0,c,p,t,h1,h2,h3,h4⟩:=pl.ex
 have io:IA c=true:=by cases c<;>first|rfl|cases h2
 obtain⟨w,fp,k1,k2,k3,k4⟩:=E.ows i c h1 io
 rw[h3] at k1;cases k1
 have ot:=k2.toT h2
 obtain⟨fz,oz,kz,_⟩:=ot.part h4
 have:=oz.Cr o;subst this
 obtain⟨ai,q1,q2,q3⟩:=ot.put sm h4 o o' (fun a ha hn=>(hs a (k3 a ha).1 hn).2) k4 nd (fun a ha hb=>(hf a ha).2 (k3 a hb).1)
 have vb:∀(j:Nat) c' v' fq,i≠j->ρ[j]? =some (some c')->σ[j]? =some (some v')->Dq K H P c' v' fq->∀ a∈fq,P a/\a∉fp:=fun j c' v' fq af g1 g2 g3 a ha=>by
  have jq:IA c'=true:=by cases c'<;>first|rfl|exact g3.elim
  obtain⟨w',o7,m1,m2,m3,m4⟩:=E.ows j c' g1 jq
  rw[g2] at m1;cases m1
  have:=m2.Cr g3;subst this
  exact⟨(m3 a ha).1,E.apart j i c' c v' v0 o7 fp g1 h1 g2 h3 g3 k2 (yL af) a ha⟩
 have key:=E.pT (P':=P') (H':=H') (i:=i) (v:=v0) (c:=toCl p (EZ t π u)) (fp:=ai) (fun a ha=>(hs a (E.sub a ha) fun z=>(k3 a (kz a z)).2 ha).1) ht sm (fun j c' v' fq af g1 g2 g3 a ha=>?_) (Dq.toCl q1) (fun a ha=>?_) q2 (fun n z=>by rw[IH] at z;subst z;have:=E.pin i c n h1 (II h2);rw[h3] at this;cases this;rfl)
 ·rw[Kv h3] at key
  refine⟨c,p,t,h1,h2,key,⟨sm,fun a ha=>(hs a (E.sub a ha) fun z=>(k3 a (kz a z)).2 ha).2⟩,fun a ha=>⟨(hr a ha).1,fun z=>(k3 a (kz a ((hr a ha).2 (E.sub a z)))).2 z,fun j c' v fq g1 g2 g3 hb=>?_⟩⟩
  rcases get_set g1 with ⟨rfl,hl,z⟩|⟨af,g1⟩
  ·cases z
   rw[h3] at g2;cases g2
   rw[g3.Cr (Dq.toCl q1)] at hb
   rcases q3 a hb with y|y
   ·exact dj a ha y
   ·exact y.2 ((hr a ha).2 (k3 a y.1).1)
  ·have jq:IA c'=true:=by cases c'<;>first|rfl|exact g3.elim
   obtain⟨w',o7,m1,m2,m3,m4⟩:=E.ows j c' g1 jq
   rw[g2] at m1;cases m1
   have o2:=vb j c' v o7 af g1 g2 m2
   have mv:=m2.move sm fun b aE=>(hs b (o2 b aE).1 fun z=>(o2 b aE).2 (kz b z)).2
   rw[g3.Cr mv] at hb
   exact (o2 a hb).2 (kz a ((hr a ha).2 (o2 a hb).1))
 ·have o2:=vb j c' v' fq af g1 g2 g3 a ha
  have hk:=hs a o2.1 fun z=>o2.2 (kz a z)
  refine⟨hk.2,fun z=>?_,hk.1⟩
  rcases q3 a z with y|y
  ·exact o2.2 (kz a ((hf a y).2 o2.1))
  ·exact o2.2 y.1
 ·rcases q3 a ha with y|y
  ·exact⟨(hf a y).1,fun z=>(k3 a (kz a ((hf a y).2 (E.sub a z)))).2 z⟩
  ·exact⟨(hs a (k3 a y.1).1 y.2).1,(k3 a y.1).2⟩
end
end L2
namespace L2
open PySem PySem.Spec PyProof.Rows
noncomputable def GL (i:Nat) (ρ:Ab) (π:List Nat) (u:OT):M Out:=match ρ[i]? with
 |some (some c)=>(match treeOf c with|some (p,t)=>.ok (.next (ρ.set i (some (toCl p (EZ t π u)))))|none=>.bad)
 |_=>.bad
noncomputable def Lb (i:Nat) (ρ:Ab) (π:List Nat):M (List OT):=match UP i ρ π with | some (.lst ts)=>.ok ts | _=>.bad
theorem Hz {i:Nat}{ρ:Ab}{π:List Nat}{u:OT}{c:Cl}{p:Option Nat}{t:OT}(h:ρ[i]? =some (some c)) (ht:treeOf c=some (p,t)):GL i ρ π u=.ok (.next (ρ.set i (some (toCl p (EZ t π u))))):=by
 unfold GL
 simp only[h,ht]
section
variable {X:Cx}{WX:Str->Hp->Prop}{c:Bool}{P0:EA}{P:Addr->Prop}{H:Hp}{σ:St}{ρ:Ab}{a b e:Expr}{f g:Ab->M D}{fn:Ab->M OT}{fp:Ab->M (List Nat)}{pos:Pos}{i:Nat}{es:List Expr}{fs:Ab->M (List D)}
noncomputable def Ts {α:Type}(o:Option α):M α:=match o with | some x=>.ok x | none=>.bad
noncomputable def PQ (i:Nat) (ρ:Ab) (π:List Nat):M (List D):=match UP i ρ π with | some (.lst ts)=>(match Eg ts with | some ds=>.ok ds | none=>.bad) | _=>.bad
theorem Bl.shl {K:za}{π:List Nat}{v:V}{t1:OT}{ds:List D}(pl:Bl K P H σ ρ i π v t1) (E:An K P0 P H σ ρ) (h:PQ i ρ π=.ok ds):t1=.lst (ds.map .sh)/\∃ l xs,v=.ref l/\H l=some (.lst xs)/\Ag K (del H P) xs ds:=by
 unfold PQ at h
 rw[pl.at] at h
 split at h
 ·rename_i vc e
  split at h
  ·rename_i jj e'
   cases e
   cases h
   have z:=D7 e'
   subst z
   obtain⟨aA,o1,hp,nd⟩:=pl.own E
   cases o1 with
   |lst hh hr=>exact⟨rfl,_,_,rfl,hh,hr.lG.2⟩
  ·cases h
 ·cases h
theorem Tt {π:List Nat}{x:Str}(h:PQ i ρ π=.ex x):False:=by
 unfold PQ at h
 split at h
 ·split at h<;>cases h
 ·cases h
theorem An.lL {K:za}{π:List Nat}{l:Addr}{xs ys:List V}{ds es:List D}(E:An K P0 P H σ ρ) (pl:Bl K P H σ ρ i π (.ref l) (.lst (ds.map .sh))) (hH:H l=some (.lst xs)) (o:Ag K (del H P) xs ds) (o':Ag K (del H P) ys es) :
 ∃ c p t,ρ[i]? =some (some c)/\treeOf c=some (p,t)/\An K P0 P (upd H l (.lst ys)) σ (ρ.set i (some (toCl p (EZ t π (.lst (es.map .sh))))))/\Tr P0 P H P (upd H l (.lst ys)) :=
 E.tP pl hH o.ows o'.ows za7 (fun z=>by cases z) (fun a ha=>by cases ha)
theorem lM {nm:Str}{id:String}{r:V->List V->Hp->VK->Prop}{dm:List D->Option (List D)}(ha:DP X WX a i fp) (slot:Slot "list" nm id) (i6:typeOf (.builtin id)=pure (.type "method_descriptor")) (hm:kF X id r)
 (hr:∀(P:Addr->Prop) (H:Hp) (l:Addr) (xs:List V) (ds us:List D) (Q:VK),H l=some (.lst xs)->Ag X.K (del H P) xs ds->dm ds=some us->(∀ ys v,Ag X.K (del H P) ys us->Q v (upd H l (.lst ys)))->r (.ref l) [] H Q) {apos ac:Pos}
 (bj:swapsWith (.Call (.Attribute a nm apos) [] [] ac) none pos.line X.env=pure false:=by rfl)
 (av:attributeBase a nm X.env (eval a X.env)=eval a X.env:=by rfl) (aw:(apos.endLine == ac.line)=true:=by rfl) :
 DS X WX (.Expr (.Call (.Attribute a nm apos) [] [] ac) pos) (fun ρ=>(fp ρ).bind fun π=>(PQ i ρ π).bind fun ds=>(Ts (dm ds)).bind fun us=>GL i ρ π (.lst (us.map .sh))):=by
 obtain⟨ta,a1,a2⟩:=ha
 refine⟨_,Ft (kE zaa slot i6 hm a1 av aw) bj,fun P0 P σ H Z ρ E h=>?_⟩
 dsimp only at h
 refine a2 P0 P σ H _ ρ E ?_
 cases q:fp ρ with
 |bad=>rw[q] at h;exact h
 |ex x=>rw[q] at h;exact fun H' s=>h H' P (E.tr s)
 |ok π =>
  rw[q] at h
  simp only[M.A7] at h
  intro v t1 H1 s1 pl
  have E1:=E.same s1
  cases q1:PQ i ρ π with
  |bad=>rw[q1] at h;exact h.elim
  |ex x=>exact (Tt q1).elim
  |ok ds =>
   rw[q1] at h
   simp only[M.A7] at h
   obtain⟨rfl,l,xs,rfl,hl,ol⟩:=pl.shl E1 q1
   cases q2:dm ds with
   |none=>rw[q2] at h;exact h.elim
   |some us =>
    rw[q2] at h
    simp only[Ts,M.A7] at h
    refine⟨.inl ⟨rfl,xs,.of hl⟩,hr P H1 l xs ds us _ hl ol q2 fun ys w hy=>?_⟩
    obtain⟨c,p,t0,g1,g2,E3,t3⟩:=E1.lL pl hl ol hy
    rw[Hz g1 g2] at h
    exact h _ _ _ ((E.tr s1).trans t3) E3
theorem Yh (ha:DP X WX a i fp){apos ac:Pos}(bj:swapsWith (.Call (.Attribute a "clear" apos) [] [] ac) none pos.line X.env=pure false:=by rfl)
 (av:attributeBase a "clear" X.env (eval a X.env)=eval a X.env:=by rfl) (aw:(apos.endLine == ac.line)=true:=by rfl) :
 DS X WX (.Expr (.Call (.Attribute a "clear" apos) [] [] ac) pos) (fun ρ=>(fp ρ).bind fun π=>(PQ i ρ π).bind fun ds=>(Ts (some [])).bind fun us=>GL i ρ π (.lst (us.map .sh))) :=
 lM (dm:=fun _=>some []) ha PySem.F.slot_list_clear PySem.F.type_list_clear Xn (fun P H l xs ds us Q h1 h2 h3 h4=>by cases h3;exact⟨l,xs,rfl,rfl,h1,h4 [] _ .nil⟩) bj av aw
noncomputable def eF (t:OT):M (List D):=match t with | .lst us=>Ts (Eg us) | _=>.bad
theorem Yi (ha:DP X WX a i fp) (he:DN X WX e fn){apos ac:Pos}(hs:starEach [e] X.env=[(false,eval e X.env)]:=by rfl)
 (bj:swapsWith (.Call (.Attribute a "extend" apos) [e] [] ac) none pos.line X.env=pure false:=by rfl)
 (av:attributeBase a "extend" X.env (eval a X.env)=eval a X.env:=by rfl)
 (aV:((backTo ac (starEach [e] X.env)).all (fun x => !x.1) && (backToKw ac (keywordEach [] X.env)).all (fun x=>x.1.isSome) && decide (([e]:List Expr).length + ([]:List Keyword).length + (if ([]:List Keyword).isEmpty then 0 else 1) < 30))=true:=by rfl)
 (aw:(apos.endLine == ac.line)=true:=by rfl) (ar:(backTo ac (starEach [] X.env)).any (·.1)=false:=by rfl) :
 DS X WX (.Expr (.Call (.Attribute a "extend" apos) [e] [] ac) pos) (fun ρ=>(fp ρ).bind fun π=>(PQ i ρ π).bind fun ds=>((fn ρ).bind eF).bind fun es=>if ds.length + es.length<=1000 then GL i ρ π (.lst ((ds++es).map .sh)) else .bad):=by
 obtain⟨ta,a1,a2⟩:=ha
 obtain⟨te,e1,e2⟩:=he
 refine⟨_,Ft (QV zaa PySem.F.slot_list_extend PySem.F.type_list_extend VD a1 (Bh e1 Cj hs) av aV aw hs ar) bj,fun P0 P σ H Z ρ E h=>?_⟩
 dsimp only at h
 refine a2 P0 P σ H _ ρ E ?_
 cases q:fp ρ with
 |bad=>rw[q] at h;exact h
 |ex x=>rw[q] at h;exact fun H' s=>h H' P (E.tr s)
 |ok π =>
  rw[q] at h
  simp only[M.A7] at h
  intro v t1 H1 s1 pl
  have E1:=E.same s1
  cases q1:PQ i ρ π with
  |bad=>rw[q1] at h;exact h.elim
  |ex x=>exact (Tt q1).elim
  |ok ds =>
   rw[q1] at h
   simp only[M.A7] at h
   obtain⟨rfl,l,xs,rfl,hl,ol⟩:=pl.shl E1 q1
   refine⟨.inl ⟨rfl,xs,.of hl⟩,e2 P0 P σ H1 _ ρ E1 ?_⟩
   cases q2:fn ρ with
   |bad=>rw[q2] at h;exact h
   |ex y=>rw[q2] at h;exact fun H' s=>h H' P ((E.tr s1).trans (E1.tr s))
   |ok t =>
    rw[q2] at h
    simp only[M.A7] at h
    intro w fw H2 s2 n2 b6 o2
    have sm:=Dg (P:=P) s2 n2
    have E2:An X.K P0 (PU P fw) H2 σ ρ:=E1.more s2 MV (KC (E1.same s2).Cq o2) sm
    cases t with
    |lst us =>
     simp only[eF] at h
     cases q3:Eg us with
     |none=>rw[q3] at h;exact h.elim
     |some es =>
      rw[q3] at h
      simp only[Ts,M.A7] at h
      have z:=D7 q3
      subst z
      cases o2 with
      |lst hb hr =>
       by_cases hz:ds.length + es.length<=1000
       ·rw[if_pos hz] at h
        have he:=hr.lG.2
        have jr:=ol.mono sm
        have aZ:=s2 _ _ hl
        obtain⟨c,p,t0,g1,g2,E3,t3⟩:=E2.lL (pl.more sm s2) aZ jr (jr.append he)
        rw[Hz g1 g2] at h
        exact⟨l,_,xs,_,rfl,rfl,aZ,hb,yV (AH (by rw[ol.length,he.length];exact hz)),h _ _ _ (((E.tr s1).trans (E1.tN s2 n2)).trans t3) E3⟩
       ·rw[if_neg hz] at h;exact h.elim
    |_=>exact h.elim
end
end L2
namespace L2
open PySem PySem.Spec PyProof.Rows
noncomputable def gX (K:za) (WX:Str->Hp->Prop) (P0:EA) (P:Addr->Prop) (H:Hp) (σ:St) (Q:VK):M (Ab×OT)->Prop
 | .ok (ρ,t)=>∀ v fp H' P',Tr P0 P H P' H'->An K P0 P' H' σ ρ->C3 K H' P' v t fp->fp.Nodup->(∀ a∈fp,P' a/\¬ P0 a/\∀(j:Nat) c v' fq,ρ[j]? =some (some c)->σ[j]? =some (some v')->Dq K H' P' c v' fq->a∉fq)->Q v H'
 | .ex x=>∀ H' P',Tr P0 P H P' H'->WX x H'
 | .bad=>False
noncomputable def DX (X:Cx) (WX:Str->Hp->Prop) (e:Expr) (f:Ab->M (Ab×OT)):Prop :=
 ∃ t,PE X e t/\∀ P0 P σ H Q ρ,An X.K P0 P H σ ρ->gX X.K WX P0 P H σ Q (f ρ)->t σ H Q
noncomputable def Yj:OT->Bool
 | .sh _=>false
 |_=>true
noncomputable def Ry (i:Nat) (F:OT->List D->M (OT×OT)) (ρ:Ab) (π:List Nat) (a7:List D):M (Ab×OT):=match ρ[i]? with
 |some (some c)=>(match treeOf c with
  |some (p,t)=>(match KA t π with
   |some t1=>if Yj t1=true then (match F t1 a7 with | .ok (t2,r)=>.ok (ρ.set i (some (toCl p (EZ t π t2))),r)|_=>.bad) else .bad
   |none=>.bad)
  |none=>.bad)
 |_=>.bad
section
variable {X:Cx}{E:XK}{WX:Str->Hp->Prop}{c:Bool}{P0:EA}{P:Addr->Prop}{H:Hp}{σ:St}{ρ:Ab}{a b e:Expr}{f g:Ab->M D}{fn:Ab->M OT}{fx:Ab->M (Ab×OT)}{fp:Ab->M (List Nat)}{pos:Pos}{i:Nat}{es:List Expr}{fs:Ab->M (List D)}
theorem Yk {F:OT->List D->M (OT×OT)}{π:List Nat}{a7:List D}{c:Cl}{p:Option Nat}{t t1 t2 r:OT}(h:ρ[i]? =some (some c)) (ht:treeOf c=some (p,t)) (hs:KA t π=some t1) (hN:Yj t1=true) (hF:F t1 a7=.ok (t2,r)):Ry i F ρ π a7=.ok (ρ.set i (some (toCl p (EZ t π t2))),r):=by
 unfold Ry
 simp only[h,ht,hs,hN,if_true,hF]
theorem Yl {k n:Nat}{F:OT->List D->M (OT×OT)}{x:Str}{p:Pos}(xo:XCall X E) (G:OQ X.prog X.w X.K X.mg X.base x k n F) (hr:BH k X.A) (hg:Gl X x) (hp:DP X (D5 X.K E) a i fp) (ha:DA X (D5 X.K E) true es fs) (hn:es.length + 1=n)
 (aU:(x == ("__debug__" : Str))=false:=by decide) (he:starEach (a::es) X.env=(false,eval a X.env)::starEach es X.env:=by rfl) (a6:(backTo pos (starEach es X.env)).any (·.1)=false:=by rfl) :
 DX X (D5 X.K E) (.Call (.Name x p) (a::es) [] pos) (fun ρ=>(fp ρ).bind fun π=>(fs ρ).bind fun a7=>Ry i F ρ π a7):=by
 obtain⟨fa,fd,ps,hF,hm,hk,hb⟩:=G.ex
 obtain⟨tp,p1,p2⟩:=hp
 obtain⟨ta,a1,a2,a3⟩:=ha
 refine⟨_,Ue hF hr hg hm hk hb .nil xo.call (Bh p1 a1 he) aU he a6,fun P0 P σ H Q ρ Ev h=>?_⟩
 dsimp only at h
 refine p2 P0 P σ H _ ρ Ev ?_
 cases q:fp ρ with
 |bad=>rw[q] at h;exact h
 |ex x=>rw[q] at h;exact fun H' s=>h H' P (Ev.tr s)
 |ok π =>
  rw[q] at h
  simp only[M.A7] at h
  intro v t1 H1 s1 pl
  have E1:=Ev.same s1
  refine a2 P0 P σ H1 _ ρ E1 ?_
  cases q2:fs ρ with
  |bad=>rw[q2] at h;exact h
  |ex y=>rw[q2] at h;exact fun H' s=>h H' P ((Ev.tr s1).trans (E1.tr s))
  |ok a7 =>
   rw[q2] at h
   simp only[M.A7] at h
   intro vs H2 s2 aI
   have E2:=E1.same s2
   have db:=pl.same s2
   show OP X.K n F ((v::vs)++[]) H2 Q E
   rw[yW]
   obtain⟨v0,c,pp,t,g1,g2,g3,g4⟩:=db.ex
   unfold Ry at h
   simp only[g1,g2,g4.sub] at h
   by_cases hx:Yj t1=true
   ·rw[if_pos hx] at h
    obtain⟨aA,o1,wR,gh⟩:=db.own E2
    have o8:∃ l,v=.ref l:=by
     cases o1 with
     |sh hv=>exact absurd hx (by simp[Yj])
     |lst _ _=>exact⟨_,rfl⟩
     |tup _ _=>exact⟨_,rfl⟩
     |dK _ _=>exact⟨_,rfl⟩
     |dT _ _=>exact⟨_,rfl⟩
     |ins _ _ _=>exact⟨_,rfl⟩
    obtain⟨l,rfl⟩:=o8
    refine⟨by rw[zp,aI.length,a3 ρ a7 q2];exact hn,P,l,t1,aA,vs,a7,rfl,E2.Cq,fun b hb=>(wR b hb).1,gh,o1,aI,?_⟩
    cases qF:F t1 a7 with
    |bad=>rw[qF] at h;exact h.elim
    |ex x=>rw[qF] at h;exact h.elim
    |ok z =>
    obtain⟨t2,r⟩:=z
    rw[qF] at h
    intro w H' P' fu fr k1 k2 k3 k4 k5 k6 k7 k8 k9 o9
    obtain⟨c',p',t',m1,m2,m3,m4,m5⟩:=E2.qI db o1 k1 k2 k3 k4 k5 k9 k6 k7 o9 k8
    rw[g1] at m1;cases m1
    rw[g2] at m2;cases m2
    exact h w fr H' P' (((Ev.tr s1).trans (E1.tr s2)).trans m4) m3 k6 k7 m5
   ·rw[if_neg hx] at h;exact h.elim
theorem N1 (he:DX X WX e fx) (hs:swapsWith e none pos.line X.env=pure false:=by rfl):DS X WX (.Expr e pos) (fun ρ=>(fx ρ).bind fun z=>.ok (.next z.1)):=by
 obtain⟨te,e1,e2⟩:=he
 refine⟨_,Ft e1 hs,fun P0 P σ H Z ρ E h=>?_⟩
 dsimp only at h
 refine e2 P0 P σ H _ ρ E ?_
 cases q:fx ρ with
 |bad=>rw[q] at h;exact h
 |ex x=>rw[q] at h;exact h
 |ok z=>rw[q] at h;exact fun v fp H' P' t E' o nd hf=>h σ H' P' t E'
end
end L2
namespace L2
open PySem PySem.Spec PyProof.Rows
noncomputable def G9 (i:Nat) (ρ:Ab) (π:List Nat):M (Bool×List D×List D):=match UP i ρ π with
 |some (.Bi b ks ts)=>(match Eg ts with|some vs=>.ok (b,ks,vs)|none=>.bad)
 |_=>.bad
noncomputable def putD (ks vs:List D) (k v:D):List D×List D:=if Ly ks k=true then (ks,IJ ks vs k v) else (ks++[k],vs++[v])
section
variable {X:Cx}{E:XK}{WX:Str->Hp->Prop}{c:Bool}{P0:EA}{P:Addr->Prop}{H:Hp}{σ:St}{ρ:Ab}{a b e:Expr}{f g:Ab->M D}{fn:Ab->M OT}{fx:Ab->M (Ab×OT)}{fp:Ab->M (List Nat)}{pos:Pos}{i:Nat}{es:List Expr}{fs:Ab->M (List D)}
theorem Bl.Bi {K:za}{π:List Nat}{v:V}{t1:OT}{bl:Bool}{ks vs:List D}(pl:Bl K P H σ ρ i π v t1) (E:An K P0 P H σ ρ) (h:G9 i ρ π=.ok (bl,ks,vs)):t1=.Bi bl ks (vs.map .sh)/\∃ l xs,v=.ref l/\P l/\Ag K (del H P) xs vs/\C3 K H P (.ref l) (.Bi bl ks (vs.map .sh)) [l] /\
 ((bl=false/\∃ kvs,H l=some (.dK kvs)/\ks=(kvs.map fun kv=>Dp kv.1)/\xs=kvs.map za5)\/(bl=true/\∃ kvs,H l=some (.dT kvs)/\ks=(kvs.map fun kv=>.tup (kv.1.map Dp))/\xs=kvs.map za5)):=by
 unfold G9 at h
 rw[pl.at] at h
 split at h
 ·rename_i b' wP vc e
  split at h
  ·rename_i bf e'
   cases e
   cases h
   have z:=D7 e'
   subst z
   obtain⟨aA,o1,hp,nd⟩:=pl.own E
   generalize ht:OT.Bi bl ks (vs.map .sh)=t at o1
   cases o1 with
   |dK hh hr =>
    injection ht with h1 h2 h3
    subst h1 h2 h3
    obtain⟨rfl,hs⟩:=hr.lG
    exact⟨rfl,_,_,rfl,(hp _ ze).1,hs,.dK hh hr,.inl ⟨rfl,_,hh,rfl,rfl⟩⟩
   |dT hh hr =>
    injection ht with h1 h2 h3
    subst h1 h2 h3
    obtain⟨rfl,hs⟩:=hr.lG
    exact⟨rfl,_,_,rfl,(hp _ ze).1,hs,.dT hh hr,.inr ⟨rfl,_,hh,rfl,rfl⟩⟩
   |_=>cases ht
  ·cases h
 ·cases h
theorem Ym {π:List Nat}{x:Str}(h:G9 i ρ π=.ex x):False:=by
 unfold G9 at h
 split at h
 ·split at h<;>cases h
 ·cases h
theorem An.lN {K:za}{π:List Nat}{l:Addr}{t1 u:OT}{o':HO}(E:An K P0 P H σ ρ) (pl:Bl K P H σ ρ i π (.ref l) t1) (ot:C3 K H P (.ref l) t1 [l]) (hn:∀ xs,o'≠.tup xs/\∀ z,o'≠.Vs z (.tup xs)) (new:Ad (del H P) (del (upd H l o') P)->C3 K (upd H l o') P (.ref l) u [l]) :
 ∃ c p t,ρ[i]? =some (some c)/\treeOf c=some (p,t)/\An K P0 P (upd H l o') σ (ρ.set i (some (toCl p (EZ t π u))))/\Tr P0 P H P (upd H l o'):=by
 obtain⟨aA,o1,hp,_⟩:=pl.own E
 have:=o1.Cr ot;subst this
 have pP:P l:=(hp l ze).1
 have sd:del (upd H l o') P=del H P:=by
  funext b
  by_cases hb:P b
  ·rw[D3 hb,D3 hb]
  ·rw[Ax hb,Ax hb,Ah (fun z=>hb (by rw[z];exact pP))]
 have sm:Ad (del H P) (del (upd H l o') P):=by rw[sd];exact Ad.refl _
 refine E.qG pl ot (fun _ h=>h) (fun a h=>?_) sm (fun a ha hn=>Ah fun z=>hn (by rw[z];exact ze)) (new sm) (by simp) (fun a ha=>.inl ha)
 by_cases ha:a=l
 ·subst ha;exact⟨_,Ar,hn⟩
 ·unfold Dt;rw[Ah ha];exact E.Cq a h
theorem LS {n:Nat}(hu:X.A.units + n < cLine) (ha:DP X WX a i fp) (hk:DE X WX true b g) (hv:DE X WX true e f){pos':Pos}(hs:swapsWith e (some (.Subscript a b pos')) pos.line X.env=pure false:=by rfl) (hn:1<=n:=by decide) :
 DS X WX (.Assign [.Subscript a b pos'] e pos) (fun ρ=>(f ρ).bind fun v=>(fp ρ).bind fun π=>(g ρ).bind fun k=>(G9 i ρ π).bind fun z=>if keyOk z.1 k=true/\z.2.1.length < 1000 then GL i ρ π (.Bi z.1 (putD z.2.1 z.2.2 k v).1 ((putD z.2.1 z.2.2 k v).2.map .sh)) else .bad):=by
 obtain⟨ta,a1,a2⟩:=ha
 obtain⟨tk,k1,k2⟩:=hk
 obtain⟨tv,v1,v2⟩:=hv
 refine⟨_,ZP (by omega) a1 k1 v1 hs,fun P0 P σ H Z ρ E h=>?_⟩
 dsimp only at h
 refine v2 P0 P σ H _ ρ E ?_
 cases q0:f ρ with
 |bad=>rw[q0] at h;exact h
 |ex x=>rw[q0] at h;exact fun H' s=>h H' P (E.tr s)
 |ok d =>
  rw[q0] at h
  simp only[M.A7] at h
  intro w H0 s0 hw
  have E0:=E.same s0
  refine a2 P0 P σ H0 _ ρ E0 ?_
  cases q:fp ρ with
  |bad=>rw[q] at h;exact h
  |ex x=>rw[q] at h;exact fun H' s=>h H' P ((E.tr s0).trans (E0.tr s))
  |ok π =>
   rw[q] at h
   simp only[M.A7] at h
   intro v t1 H1 s1 pl
   have E1:=E0.same s1
   refine k2 P0 P σ H1 _ ρ E1 ?_
   cases q2:g ρ with
   |bad=>rw[q2] at h;exact h
   |ex y=>rw[q2] at h;exact fun H' s=>h H' P (((E.tr s0).trans (E0.tr s1)).trans (E1.tr s))
   |ok k =>
    rw[q2] at h
    simp only[M.A7] at h
    intro y H2 s2 hy
    have E2:=E1.same s2
    have db:=pl.same s2
    have lx:=(hw.mono s1.del).mono s2.del
    have vd:=((E.tr s0).trans (E0.tr s1)).trans (E1.tr s2)
    cases q3:G9 i ρ π with
    |bad=>rw[q3] at h;exact h.elim
    |ex x=>exact (Ym q3).elim
    |ok z =>
     obtain⟨bb,ks,vs⟩:=z
     rw[q3] at h
     simp only[M.A7] at h
     by_cases hc:keyOk bb k=true/\ks.length < 1000
     ·rw[if_pos hc] at h
      obtain⟨rfl,l,xs,rfl,hP,cb,ot,js⟩:=db.Bi E2 q3
      have hK:=Fh hc.1
      rcases js with ⟨rfl,kvs,hH,rfl,rfl⟩|⟨rfl,kvs,hH,rfl,rfl⟩
      ·cases hK with
       |k κ =>
        have ey:=hy.lI
        refine⟨l,_,rfl,.inl ⟨kvs,κ,hH,ey,AH (by have:=hc.2;rw[zc] at this;omega),rfl⟩,?_⟩
        have bc:∃ bf,(putD (kvs.map fun kv=>Dp kv.1) vs (Dp κ) d)=((putK kvs κ w).map (fun kv=>Dp kv.1),bf)/\Ag X.K (del H2 P) ((putK kvs κ w).map za5) bf:=by
         unfold putD putK
         rw[MY MW]
         by_cases hh:(kvs.any fun kv=>decide (kv.1=κ))=true
         ·rw[if_pos hh,if_pos hh]
          refine⟨_,by rw[Jq (fk:=Dp) MW],?_⟩
          rw[<-Jp (fk:=Dp) MW]
          exact Jr lx cb
         ·rw[if_neg hh,if_neg hh]
          refine⟨_,by rw[zN];rfl,?_⟩
          rw[zN]
          exact cb.snoc lx
        obtain⟨bf,e1,e2⟩:=bc
        obtain⟨c,p,t0,g1,g2,E3,t3⟩:=E2.lN (o':=.dK (putK kvs κ w)) (u:=.Bi false ((putK kvs κ w).map fun kv=>Dp kv.1) (bf.map .sh)) db ot (fun _=>⟨fun z=>(by cases z),fun _ z=>by cases z⟩) (fun mv=>.dK Ar (e2.mono mv).ows)
        rw[e1,Hz g1 g2] at h
        exact h _ _ _ (vd.trans t3) E3
      ·cases hK with
       |t κ =>
        cases hy with
        |tup ht aZ =>
         have ey:=Ag.keys κ aZ
         subst ey
         refine⟨l,_,rfl,.inr ⟨kvs,κ,_,hH,rfl,(Al ht).2,AH (by have:=hc.2;rw[zc] at this;omega),rfl⟩,?_⟩
         have hf:∀ a b:List Key,Aw (.tup (a.map Dp)) (.tup (b.map Dp))=decide (a=b):=fun a b=>by simp only[Aw];exact LP a b
         have bc:∃ bf,(putD (kvs.map fun kv=>.tup (kv.1.map Dp)) vs (.tup (κ.map Dp)) d)=((putK kvs κ w).map (fun kv=>.tup (kv.1.map Dp)),bf)/\Ag X.K (del H2 P) ((putK kvs κ w).map za5) bf:=by
          unfold putD putK
          rw[MY (fk:=fun κ:List Key=>D.tup (κ.map Dp)) hf]
          by_cases hh:(kvs.any fun kv=>decide (kv.1=κ))=true
          ·rw[if_pos hh,if_pos hh]
           refine⟨_,by rw[Jq (fk:=fun κ:List Key=>D.tup (κ.map Dp)) hf],?_⟩
           rw[<-Jp (fk:=fun κ:List Key=>D.tup (κ.map Dp)) hf]
           exact Jr lx cb
          ·rw[if_neg hh,if_neg hh]
           refine⟨_,by rw[zN];rfl,?_⟩
           rw[zN]
           exact cb.snoc lx
         obtain⟨bf,e1,e2⟩:=bc
         obtain⟨c,p,t0,g1,g2,E3,t3⟩:=E2.lN (o':=.dT (putK kvs κ w)) (u:=.Bi true ((putK kvs κ w).map fun kv=>.tup (kv.1.map Dp)) (bf.map .sh)) db ot (fun _=>⟨fun z=>(by cases z),fun _ z=>by cases z⟩) (fun mv=>.dT Ar (e2.mono mv).ows)
         rw[e1,Hz g1 g2] at h
         exact h _ _ _ (vd.trans t3) E3
     ·rw[if_neg hc] at h;exact h.elim
theorem Rz (tk:Bool):DN X WX (.Dict [] [] pos) (fun _=>.ok (.Bi tk [] [])):=by
 cases tk with
 |false =>
  refine⟨_,Xq,fun P0 P σ H Q ρ E h p hp=>?_⟩
  exact h _ [p] _ (AN hp _) (fun a ha=>by rw[zh.mp ha];exact hp) (by simp) (.dK (kvs:=[]) Ar .nil)
 |true =>
  refine⟨_,Xr,fun P0 P σ H Q ρ E h p hp=>?_⟩
  exact h _ [p] _ (AN hp _) (fun a ha=>by rw[zh.mp ha];exact hp) (by simp) (.dT (kvs:=[]) Ar .nil)
end
end L2
namespace L2
open PySem PySem.Spec PyProof.Rows
theorem IK {α:Type}(o:Option (α×List Int)) (b:α×List Int):BJ o b≠none:=by
 unfold BJ
 split
 ·intro z;cases z
 ·split<;>(intro z;cases z)
theorem N2 {α:Type}:∀ {bs:List (α×List Int)},bs≠[]->AX bs≠none:=by
 intro bs h
 unfold AX
 suffices z:∀(bs:List (α×List Int)) (o:Option (α×List Int)),o≠none->bs.foldl BJ o≠none by
  cases bs with
  |nil=>exact (h rfl).elim
  |cons b r=>rw[zV];exact z r _ (IK _ _)
 intro bs
 induction bs with
 |nil=>intro o h;exact h
 |cons b r ih=>intro o h;rw[zV];exact ih _ (IK _ _)
section
variable {prog:Program}{w:World}{A:Around}{R:Result->Shared->Prop}
theorem Wb (bs:List (Addr×List Int)) (pc:bs≠[]) (tv:Addr->Array Value) (l I S:Addr) (hh:A.handled=none) (hu:A.in1.units < cLine) (cO:S≠I) (ic:l≠I) (jg:l≠S) (fg:∀ b∈bs,b.1≠I/\b.1≠S)
 (hk:∀ b∈bs,IntsAre (tv b.1).toList b.2):∀(k j:Nat) (s:Shared) (c:Nat),bs.length - j=k->j<=bs.length->s.heap.IsListIter I l j->s.heap.IsList l (bs.map fun b=>yN b.1).toArray->(∀ b∈bs,IsTup s.heap b.1 (tv b.1))->
  s.heap.get? S=some { cls:=.type "list",dict:=none,data:=.seq (Dn (bs.take j)) c,slots:=#[] } ->
  (∀ h' tk,(∀ b o,b≠I->b≠S->s.heap.get? b=some o->h'.get? b=some o)->R (.ok (.ret (match AX bs with|none=>.none|some b=>.ref b.1))) { s with heap:=h',toks:=tk })->
  codeAny (model prog w) A (.builtin "min.loop" ⟨[.ref I,.none,.ref S],[]⟩) R s:=by
 have aB:(toString "min" ++ toString ".loop" : String) = "min.loop" := by decide
 intro k
 induction k with
 |zero =>
  intro j s c hr hj hit hl ht hS hR
  have bK:j=bs.length:=by omega
  subst bK
  rw[yX] at hS
  refine codeAny_builtin PySem.F.entry_min_loop ?_
  rw[zan zY _]
  show wpAny _ A.in1 (seqItems? (.ref S) >>= _) _ _ s
  refine wpAny_bind (wpAny_seqItems hS rfl ?_)
  show wpAny _ A.in1 (tryCatch (pyNext (.ref I)) _ >>= _) _ _ s
  refine wpAny_bind (wpAny_tryCatch (wpAny_pyNext_list_end (A:=A.in1) hh hit hl (by simp) fun h' eb=>?_))
  have aH:h'.get? S=_:=eb S _ cO hS
  unfold Dn at aH
  cases hb:AX bs with
  |none=>exact (N2 pc hb).elim
  |some b =>
   rw[hb] at aH
   unfold Dn
   rw[hb]
   show wpAny _ A.in1 (updateSeq S (fun _=>#[]) >>= _) _ _ _
   refine wpAny_bind ?_
   refine wpAny_updateSeq aH rfl (wpAny_bind (wpAny_letGo (wpAny_pure ?_)))
   have q:=hR (h'.update S (zas fun _=>#[])) s.toks fun b o h1 h2 e=>(zay _ _ (yL h2)).trans (eb b o h1 e)
   rw[hb] at q
   exact q
 |succ k ih =>
  intro j s c hr hj hit hl ht hS hR
  have aj:j < bs.length:=by omega
  have ej:bs.take (j + 1)=bs.take j++[bs[j]]:=by rw[yZ,zt aj];rfl
  have mj:bs[j]∈bs:=List.getElem_mem aj
  refine codeAny_builtin PySem.F.entry_min_loop ?_
  rw[zan zY _]
  show wpAny _ A.in1 (seqItems? (.ref S) >>= _) _ _ s
  refine wpAny_bind (wpAny_seqItems hS rfl ?_)
  show wpAny _ A.in1 (tryCatch (pyNext (.ref I)) _ >>= _) _ _ s
  refine wpAny_bind (wpAny_tryCatch (wpAny_pyNext_list_item (A:=A.in1) hit hl (x:=.ref bs[j].1) (by simp[aj]) fun h' bn sb=>?_))
  have bI:zb4 I s.heap h':=sb
  have aH:h'.get? S=_:=(bI.2 S cO).trans hS
  have bU:h'.IsList l (bs.map fun b=>yN b.1).toArray:=hl.at fun o e=>(bI.2 l ic).trans e
  have cu:∀ b∈bs,IsTup h' b.1 (tv b.1):=fun b hb=>by
   obtain⟨o,ho,r⟩:=ht b hb
   exact⟨o,(bI.2 b.1 (fg b hb).1).trans ho,r⟩
  cases hb:AX (bs.take j) with
  |none =>
   unfold Dn at aH ⊢
   rw[hb] at aH ⊢
   show wpAny _ A.in1 (updateSeq S (fun _=>#[.ref bs[j].1,.ref bs[j].1]) >>= _) _ _ _
   refine wpAny_bind ?_
   refine wpAny_updateSeq aH rfl ?_
   rw[aB]
   have s1:=Heap.SameBut.update h' S (zas fun _=>(#[.ref bs[j].1,.ref bs[j].1]:Array Value))
   refine wpAny_pure ⟨plainId_quiet zY _,ih (j + 1) _ (c + 1) (by omega) aj (bn.at fun o e=>(s1.2 I (yL cO)).trans e) (bU.at fun o e=>(s1.2 l jg).trans e) (fun b hb=>?_) ?_ fun cv tk aW=>?_⟩
   ·obtain⟨o,ho,r⟩:=cu b hb
    exact⟨o,(s1.2 b.1 (fg b hb).2).trans ho,r⟩
   ·refine (zb3 _ aH rfl).trans ?_
    unfold Dn
    rw[ej,D2,hb]
    rfl
   ·exact hR cv tk fun b o h1 h2 e=>aW b o h1 h2 ((s1.2 b h2).trans ((bI.2 b h1).trans e))
  |some m =>
   have mm:m∈bs:=yR (Ko _ _ hb)
   unfold Dn at aH ⊢
   rw[hb] at aH ⊢
   show wpAny _ A.in1 (tryCatch (holding [.ref bs[j].1,.ref bs[j].1] (richCompare .Lt (.ref bs[j].1) (.ref m.1) >>= _)) _ >>= _) _ _ _
   refine wpAny_bind (wpAny_tryCatch (wpAny_holding (wpAny_bind (HT.Iq (cu _ mj) (cu _ mm) (hk _ mj) (hk _ mm) hu ?_))))
   refine wpAny_bind (wpAny_holding (wpAny_truthy_bool ?_))
   refine wpAny_bind (wpAny_letGo (wpAny_pure ?_))
   cases hc:HT.lexLt bs[j].2 m.2 with
   |true =>
    simp only[if_true]
    have s1:=Heap.SameBut.update h' S (zas fun _=>(#[.ref bs[j].1,.ref bs[j].1]:Array Value))
    refine wpAny_bind ?_
    refine wpAny_updateSeq aH rfl (wpAny_bind (wpAny_letGo ?_))
    rw[aB]
    refine wpAny_pure ⟨plainId_quiet zY _,ih (j + 1) _ c (by omega) aj (bn.at fun o e=>(s1.2 I (yL cO)).trans e) (bU.at fun o e=>(s1.2 l jg).trans e) (fun b hb=>?_) ?_ fun cv tk aW=>?_⟩
    ·obtain⟨o,ho,r⟩:=cu b hb
     exact⟨o,(s1.2 b.1 (fg b hb).2).trans ho,r⟩
    ·refine (zb3 _ aH rfl).trans ?_
     unfold Dn
     rw[ej,D2,hb]
     simp only[hc,if_true]
     rfl
    ·exact hR cv tk fun b o h1 h2 e=>aW b o h1 h2 ((s1.2 b h2).trans ((bI.2 b h1).trans e))
   |false =>
    simp only[zF,if_false]
    refine wpAny_bind (wpAny_letGo ?_)
    rw[aB]
    refine wpAny_pure ⟨plainId_quiet zY _,ih (j + 1) _ c (by omega) aj bn bU cu ?_ fun cv tk aW=>?_⟩
    ·refine aH.trans ?_
     unfold Dn
     rw[ej,D2,hb]
     simp only[hc,zF,if_false]
    ·exact hR cv tk fun b o h1 h2 e=>aW b o h1 h2 ((bI.2 b h1).trans e)
theorem PR {E:Value->Shared->Prop}{s:Shared}{Q:Value->Shared->Prop}(bs:List (Addr×List Int)) (pc:bs≠[]) (tv:Addr->Array Value) (l:Addr) (hh:A.handled=none) (hu:A.in1.units < cLine)
 (hl:s.heap.IsList l (bs.map fun b=>yN b.1).toArray) (ht:∀ b∈bs,IsTup s.heap b.1 (tv b.1)) (hk:∀ b∈bs,IntsAre (tv b.1).toList b.2)
 (hQ:∀ h' tk,(∀ b o,s.heap.get? b=some o->h'.get? b=some o)->Q (match AX bs with|none=>.none|some b=>.ref b.1) { s with heap:=h',toks:=tk }) :
 wpAny (model prog w) A (call (.builtin "min") [.ref l]) Q E s:=by
 have aB:(toString "min" ++ toString ".loop" : String) = "min.loop" := by decide
 obtain⟨ol,fj,_⟩:=id hl
 have wo:l < s.heap.objs.size:=zx fj
 refine kmk_tree PySem.F.kind_min PySem.F.plain_min PySem.F.entry_min (by unfold argsOk;kernel_rfl) ?_
 show wpAny _ A.in1 (zaq "min" ["key","default"] 0 ⟨[],[]⟩ >>= _) _ _ s
 refine wpAny_bind (wpAny_of_eq (show zaq "min" ["key","default"] 0 ⟨[],[]⟩=pure [none,none] from rfl) ?_)
 refine wpAny_bind (wpAny_pure ?_)
 refine wpAny_bind (wpAny_pyIter_list hl ?_)
 refine wpAny_bind (wpAny_newList ?_ (zW _))
 rw[aB]
 have hS:(s.heap.push { cls:=.type "list_iterator",data:=.fields #[.ref l,.int 0 0] }).objs.size=s.heap.objs.size + 1:=Heap.size_push ..
 have old:∀ b o,s.heap.get? b=some o->b≠s.heap.objs.size/\b≠(s.heap.push { cls:=.type "list_iterator",data:=.fields #[.ref l,.int 0 0] }).objs.size:=fun b o e=>⟨zG (zx e),by rw[hS];exact zG (Nat.lt_succ_of_lt (zx e))⟩
 have grow:∀ b o,s.heap.get? b=some o->((s.heap.push { cls:=.type "list_iterator",data:=.fields #[.ref l,.int 0 0] }).push { cls:=.type "list",data:=.seq #[] }).get? b=some o:=fun b o e=>zr _ (zr _ e)
 refine wpAny_pure ⟨plainId_quiet zY _,?_⟩
 refine Wb bs pc tv l s.heap.objs.size (s.heap.push { cls:=.type "list_iterator",data:=.fields #[.ref l,.int 0 0] }).objs.size hh hu (by rw[hS];exact Nat.succ_ne_self _) (old l ol fj).1 (old l ol fj).2 (fun b hb=>?_) hk _ 0 _ 0 rfl (zW _) ?_ ?_ (fun b hb=>?_) ?_ ?_
 ·obtain⟨o,ho,_⟩:=ht b hb
  exact old b.1 o ho
 ·exact⟨_,zr _ (zI _ rfl),rfl,rfl⟩
 ·exact hl.at fun o e=>grow l o e
 ·obtain⟨o,ho,r⟩:=ht b hb
  exact⟨o,grow b.1 o ho,r⟩
 ·exact zI _ rfl
 ·intro h' tk fm
  exact hQ h' tk fun b o e=>fm b o (old b o e).1 (old b o e).2 (grow b o e)
end
section
variable {X:Cx}{WX:Str->Hp->Prop}{c:Bool}{e:Expr}{f:Ab->M D}{pos:Pos}
noncomputable def iG (K:za):List V->Hp->VK->Prop:=fun xs H Q=>∃(a:Addr) (bs:List (Addr×List Int)) (b:Addr×List Int),xs=[.ref a]/\Dr K H a (bs.map fun b=>V.ref b.1)/\(∀ b∈bs,Fs K H b.1 (b.2.map V.int))/\AX bs=some b/\Q (.ref b.1) H
theorem Wc (hc:X.calm=true) (hu:X.A.units + 1 < cLine):Gu X (.builtin "min") (iG X.K):=by
 intro pins s σ H xs us Q I r h
 obtain⟨a,bs,b0,rfl,hl,hb,he,q⟩:=h
 obtain⟨ua,rfl,ra⟩:=r.one
 cases ra
 obtain⟨aa,rv,pl,hz⟩:=I.list hl
 have ei:=Kq rv
 subst ei
 have tv:∀ a:Addr,∃ t:Array Value,∀ b∈bs,b.1=a->IsTup s.heap a t/\IntsAre t.toList b.2:=fun a=>by
  by_cases cz:∃ b∈bs,b.1=a
  ·obtain⟨b,cz,rfl⟩:=cz
   obtain⟨ts,rt,pt,_⟩:=I.tuple (hb b cz)
   refine⟨ts.toArray,fun b' aE e=>⟨pt,?_⟩⟩
   have q2:=hb b' aE
   rw[e] at q2
   have e2:=I.Hk q2 (hb b cz)
   rw[<-e2] at rt
   simpa using intsAre_of rt
  ·exact⟨#[],fun b aE e=>absurd ⟨b,aE,e⟩ cz⟩
 have af:bs≠[]:=fun z=>by subst z;cases he
 refine PR bs af (fun b=>zj (tv b)) a (I.ok.hd hc) hu pl.isList (fun b aE=>(zb (tv b.1) b aE rfl).1) (fun b aE=>(zb (tv b.1) b aE rfl).2) fun h' tk hk=>?_
 rw[he]
 exact⟨.ref b0.1,H,I.kept (t':=tk) hk,rfl,q⟩
noncomputable def UR (ds:List D):M D:=match ds with
 |[.lst xs]=>(match GC xs with|some ks=>(match AX ks with|some k=>.ok k.1|none=>.bad)|none=>.bad)
 |_=>.bad
theorem eG:L8 X.K WX (iG X.K) UR:=by
 intro P H ds vs Q ht hl h
 unfold UR at h
 split at h
 ·rename_i xs
  obtain⟨v,rfl,hv⟩:=hl.one
  split at h
  ·rename_i ks e1
   cases hv with
   |lst hs hh =>
    obtain⟨bs,rfl,h2,h3⟩:=IE hh e1
    split at h
    ·rename_i k e2
     rcases MG h3 with ⟨q1,q2⟩|⟨b,k',q1,q2,_,q3⟩
     ·rw[q2] at e2;cases e2
     ·rw[q2] at e2;cases e2
      exact⟨_,bs,b,rfl,hs.Bo,fun b hb=>(h2 b hb).Bo,q1,h _ H (Ad.refl H) q3⟩
    ·exact h.elim
  ·exact h.elim
 ·exact h.elim
theorem eI {p:Pos}{n:Nat}(hc:X.calm=true) (hu:X.A.units + n < cLine) (hg:Gl X "min") (hm:X.mg "min" = none) (ha:DE X WX c e f) (hb:bootBuiltins "min" = some (.builtin "min"):=by decide +kernel) (hs:starEach [e] X.env=[(false,eval e X.env)]:=by rfl) (hn:1<=n:=by decide):DE X WX c (.Call (.Name "min" p) [e] [] pos) (fun ρ=>((f ρ).bind fun d=>(M.ok []).bind fun ds=>.ok (d::ds)).bind UR) :=
 ME (Wc hc (by omega)) eG hg hm hb (A2 ha A8 hs) (he:=hs)
end
section
variable {X:Cx}{E:XK}{WX:Str->Hp->Prop}{c:Bool}{P0:EA}{P:Addr->Prop}{H:Hp}{σ:St}{ρ:Ab}{a b e:Expr}{f g:Ab->M D}{fn:Ab->M OT}{fp:Ab->M (List Nat)}{pos:Pos}{i:Nat}
noncomputable def eJ:V->List V->Hp->VK->Prop:=fun x vs H Q=>∃(l:Addr) (ns:List Int) (k:Int),x=.ref l/\vs=[.int k]/\H l=some (.lst (ns.map V.int))/\k∈ns/\Q .AA (upd H l (.lst ((ns.erase k).map V.int)))
theorem OR {α β:Type}(f:α->β):∀(l:List α) (k:Nat),(l.eraseIdx k).map f=(l.map f).eraseIdx k
 |[],_=>rfl
 |_::_,0=>rfl
 |x::r,k + 1=>by rw[List.eraseIdx_cons_succ,zg,zg,List.eraseIdx_cons_succ,OR f r k]
noncomputable def Tu (k:Int):Value->Bool
 | .int i _=>i == k
 |_=>false
theorem Wd:kF X "list.remove" eJ:=by
 intro pins s σ H x vs v us Q I rx rv h
 obtain⟨l,ns,k,rfl,rfl,hH,hk,q⟩:=h
 cases rx
 obtain⟨u,rfl,ru⟩:=rv.one
 obtain⟨tk,rfl⟩:=ru
 obtain⟨z,aa,n,r,hl,e⟩:=I.QW hH
 have hlen:=r.length
 have gi:ns.idxOf k < ns.length:=List.idxOf_lt_length_iff.mpr hk
 have gj:∀ m (hm:m < aa.toArray.size) (ve:m < ns.length),∃ t,aa.toArray[m]=Value.int ns[m] t:=fun m hm ve=>by
  have hx:(ns.map V.int)[m]? =some (V.int ns[m]):=by rw[zH,zt ve];rfl
  obtain⟨w,hw,bz⟩:=r.get hx
  obtain⟨t,rfl⟩:=bz
  refine⟨t,?_⟩
  have:aa[m]? =some aa[m]:=zt (by simpa using hm)
  rw[hw] at this
  simpa using (zJ this).symm
 have hsz:aa.toArray.size=ns.length:=by rw[zi,<-hlen,zc]
 have hm:=MeetsSeq.list_remove l aa.toArray n (.int k tk) (Tu k) (fun y hy=>by
  obtain⟨m,hm,rfl⟩:=Array.mem_iff_getElem.mp hy
  obtain⟨t,ht⟩:=gj m hm (by rw[<-hsz];exact hm)
  rw[ht]
  exact MeetsSeq.EqGives.int _ _ _ _) (ns.idxOf k) (by rw[hsz];exact gi) (by
  obtain⟨t,ht⟩:=gj (ns.idxOf k) (by rw[hsz];exact gi) gi
  rw[ht]
  simp[Tu]) (fun m hm aj=>by
  obtain⟨t,ht⟩:=gj m hm (by omega)
  rw[ht]
  have:=List.not_of_lt_findIdx (p:=(· == k)) (xs:=ns) (i:=m) aj
  simpa [Tu] using this) (by rw[zi];omega)
 refine call_meets F.slot_list_remove ⟨_,e,rfl⟩ F.entry_list_remove (F.args_list_remove_2 _ _) hm ⟨e,?_⟩
 refine⟨.AA,_,I.VC (its':=aa.eraseIdx (ns.idxOf k)) hH e ?_ ?_ ?_,rfl,q⟩
 ·show aa.toArray.eraseIdxIfInBounds _=_
  rw[List.eraseIdxIfInBounds_toArray]
 ·rw[show ns.erase k=ns.eraseIdx (ns.idxOf k) from List.erase_eq_eraseIdx_of_idxOf rfl,OR]
  exact r.eraseIdx _
 ·rw[zc]
  have:=List.length_erase_le (a:=k) (l:=ns)
  rw[zc] at z
  omega
theorem We (ha:DP X WX a i fp) (he:DE X WX true e f){apos ac:Pos}(hs:starEach [e] X.env=[(false,eval e X.env)]:=by rfl)
 (bj:swapsWith (.Call (.Attribute a "remove" apos) [e] [] ac) none pos.line X.env=pure false:=by rfl)
 (av:attributeBase a "remove" X.env (eval a X.env)=eval a X.env:=by rfl)
 (aV:((backTo ac (starEach [e] X.env)).all (fun x => !x.1) && (backToKw ac (keywordEach [] X.env)).all (fun x=>x.1.isSome) && decide (([e]:List Expr).length + ([]:List Keyword).length + (if ([]:List Keyword).isEmpty then 0 else 1) < 30))=true:=by rfl)
 (aw:(apos.endLine == ac.line)=true:=by rfl) (ar:(backTo ac (starEach [] X.env)).any (·.1)=false:=by rfl) :
 DS X WX (.Expr (.Call (.Attribute a "remove" apos) [e] [] ac) pos) (fun ρ=>(fp ρ).bind fun π=>(PQ i ρ π).bind fun ds=>(f ρ).bind fun d=>match d,CG ds with
  | .int k,some ns=>if k∈ns then GL i ρ π (.lst (((ns.erase k).map D.int).map .sh)) else .bad
  |_,_=>.bad):=by
 obtain⟨ta,a1,a2⟩:=ha
 obtain⟨te,e1,e2⟩:=he
 refine⟨_,Ft (QV zaa PySem.F.slot_list_remove PySem.F.type_list_remove Wd a1 (Bh e1 Cj hs) av aV aw hs ar) bj,fun P0 P σ H Z ρ E h=>?_⟩
 dsimp only at h
 refine a2 P0 P σ H _ ρ E ?_
 cases q:fp ρ with
 |bad=>rw[q] at h;exact h
 |ex x=>rw[q] at h;exact fun H' s=>h H' P (E.tr s)
 |ok π =>
  rw[q] at h
  simp only[M.A7] at h
  intro v t1 H1 s1 pl
  have E1:=E.same s1
  cases q1:PQ i ρ π with
  |bad=>rw[q1] at h;exact h.elim
  |ex x=>exact (Tt q1).elim
  |ok ds =>
   rw[q1] at h
   simp only[M.A7] at h
   obtain⟨rfl,l,xs,rfl,hl,ol⟩:=pl.shl E1 q1
   refine⟨.inl ⟨rfl,xs,.of hl⟩,e2 P0 P σ H1 _ ρ E1 ?_⟩
   cases q2:f ρ with
   |bad=>rw[q2] at h;exact h
   |ex y=>rw[q2] at h;exact fun H' s=>h H' P ((E.tr s1).trans (E1.tr s))
   |ok d =>
    rw[q2] at h
    simp only[M.A7] at h
    intro w H2 s2 hw
    have E2:=E1.same s2
    have db:=pl.same s2
    cases d with
    |int k =>
     cases q3:CG ds with
     |none=>rw[q3] at h;exact h.elim
     |some ns =>
      rw[q3] at h
      dsimp only at h
      by_cases hk:k∈ns
      ·rw[if_pos hk] at h
       have:=DU q3
       subst this
       have jr:=ol.mono s2.del
       have ex:=Ec jr
       subst ex
       have aZ:=s2 _ _ hl
       obtain⟨c,p,t0,g1,g2,E3,t3⟩:=E2.lL (ys:=(ns.erase k).map V.int) (es:=(ns.erase k).map D.int) db aZ jr (Ag.ints _)
       rw[Hz g1 g2] at h
       exact⟨l,ns,k,rfl,by rw[hw.int_inv],aZ,hk,h _ _ _ (((E.tr s1).trans (E1.tr s2)).trans t3) E3⟩
      ·rw[if_neg hk] at h;exact h.elim
    |_=>exact h.elim
end
end L2
namespace L2
open PySem PySem.Spec PyProof.Rows
section
variable {X:Cx}{WX:Str->Hp->Prop}{c:Bool}{P0:EA}{P:Addr->Prop}{H:Hp}{σ:St}{ρ:Ab}{a b e:Expr}{f g:Ab->M D}{fn:Ab->M OT}{pos:Pos}{te:TE}
noncomputable def qJ (ds:List D):M D:=match ds with
 |[.lst xs]=>(match CG xs with|some ns=>.ok (.int ns.sum)|none=>.bad)
 |_=>.bad
noncomputable def tR (te:TE):TE:=fun σ H Q=>te σ H fun x H1=>∃ n:Nat,x=.int (n:Int)/\n<=1000/\∀ r,H1 r=none->Q (.ref r) (upd H1 r (.lst ((za3 n).map fun i:Nat=>V.int (i:Int))))
theorem Wf {acc:Array Value}{n:Nat}(h:ItemsOf (fun i v=>∃ t,v=Value.int (0 + (i:Int) * 1) t) acc n):Vals ((za3 n).map fun i:Nat=>V.int (i:Int)) acc.toList:=by
 obtain⟨h1,h2⟩:=h
 have key:∀(l:List Value) (k:Nat),(∀ i v,l[i]? =some v->∃ t,v=Value.int ((k + i:Nat):Int) t)->Vals ((List.range' k l.length).map fun i:Nat=>V.int (i:Int)) l:=by
  intro l
  induction l with
  |nil=>intro k _;exact .nil
  |cons v r ih =>
   intro k hk
   rw[zp,List.range'_succ,zg]
   refine .cons (by obtain⟨t,e⟩:=hk 0 v rfl;exact⟨t,by simpa using e⟩) (ih (k + 1) fun i w hw=>?_)
   obtain⟨t,e⟩:=hk (i + 1) w (by simpa using hw)
   exact⟨t,by rw[e];congr 1;omega⟩
 have:=key acc.toList 0 (fun i v hv=>by
  obtain⟨t,e⟩:=h2 i v (by rw[<-Array.getElem?_toList];exact hv)
  exact⟨t,by rw[e];congr 1;omega⟩)
 rw[Array.length_toList,h1] at this
 rw[List.range_eq_range']
 exact this
theorem PV {p p2 bL:Pos}(hc:X.calm=true) (hg:Gl X "list") (hm:X.mg "list" = none) (ji:Gl X "range") (bZ:X.mg "range" = none) (he:PE X e te)
 (hv:bootBuiltins "list" = some (.type "list"):=by decide +kernel)
 (hs:starEach [.Call (.Name "range" p2) [e] [] bL] X.env=[(false,eval (.Call (.Name "range" p2) [e] [] bL) X.env)]:=by rfl) (bh:starEach [e] X.env=[(false,eval e X.env)]:=by rfl) :
 PE X (.Call (.Name "list" p) [.Call (.Name "range" p2) [e] [] bL] [] pos) (tR te):=by
 intro pins s σ H Q I h
 refine wpAny_Call_Name_kw (E5 I hg hm hv ?_)
 refine yT ?_ hs
 rw[hs]
 refine zaz ?_
 refine wpAny_Call_Name_kw (E5 I ji bZ boot_range ?_)
 refine yT ?_ bh
 rw[bh]
 refine zaz (Be (he pins s σ H _ I h) fun u s1 ⟨x,H1,I1,r1,q1⟩=>?_)
 obtain⟨n,rfl,hn,q⟩:=q1
 obtain⟨t,rfl⟩:=r1
 refine zb5 ?_
 refine call_range_1 ?_
 refine zb5 ?_
 have h4:((n:Nat):Int) < 2 ^ 62:=by omega
 refine call_list_range (n:=n) (I1.ok.hd hc) (IsRange.new ..) (small_one (by omega) (by omega) (by omega) h4) (by rw[rangeSize_one];split<;>omega) (by omega) fun h' tk pd c' hk aH pe=>?_
 have kp:∀ b o,s1.heap.get? b=some o->h'.get? b=some o:=fun b o e=>hk b o (zr _ e)
 have rv:=Wf pe
 have jt:∀ o:Obj,s1.heap.objs.size<=(s1.heap.push o).objs.size:=fun o=>by simp[Heap.push]
 refine⟨.ref _,_,I1.laid (t':=tk) (o:=.lst ((za3 n).map fun i:Nat=>V.int (i:Int))) kp (jt _) ⟨?_,pd.toList,c',rv,by simpa using aH⟩,rfl,q _ (I1.Av.fresh (jt _))⟩
 rw[zc,List.length_range]
 exact yV (AH hn)
noncomputable def rL (d:D):M OT:=match d with
 | .int j=>@ite _ (0<=j/\j<=1000) (zbj _) (.ok (.lst ((Cm 0 j.toNat).map .sh))) .bad
 |_=>.bad
theorem PX {n:Nat}(h:n<=1000):rL (.int (n:Int))=.ok (.lst (((za3 n).map fun i:Nat=>D.int (i:Int)).map .sh)):=by
 unfold rL
 dsimp only
 rw[if_pos ⟨by omega,by omega⟩,zZ,MH]
theorem Jw {p p2 bL:Pos}(hc:X.calm=true) (hg:Gl X "list") (hm:X.mg "list" = none) (ji:Gl X "range") (bZ:X.mg "range" = none) (he:DE X WX true e f)
 (hv:bootBuiltins "list" = some (.type "list"):=by decide +kernel)
 (hs:starEach [.Call (.Name "range" p2) [e] [] bL] X.env=[(false,eval (.Call (.Name "range" p2) [e] [] bL) X.env)]:=by rfl) (bh:starEach [e] X.env=[(false,eval e X.env)]:=by rfl) :
 DN X WX (.Call (.Name "list" p) [.Call (.Name "range" p2) [e] [] bL] [] pos) (fun ρ=>(f ρ).bind rL):=by
 obtain⟨te,e1,e2⟩:=he
 refine⟨_,PV hc hg hm ji bZ e1 hv hs bh,fun P0 P σ H Q ρ E h=>?_⟩
 refine e2 P0 P σ H _ ρ E ?_
 dsimp only at h
 cases q:f ρ with
 |bad=>rw[q] at h;exact h
 |ex x=>rw[q] at h;exact h
 |ok d =>
  rw[q] at h
  simp only[M.A7] at h
  intro v H1 s1 hv
  cases d with
  |int j =>
   by_cases hj:0<=j/\j<=1000
   ·obtain⟨n,rfl⟩:∃ n:Nat,j=n:=⟨j.toNat,by omega⟩
    rw[PX (by omega)] at h
    refine⟨n,hv.int_inv,by omega,fun r hr=>h.KG s1 (xs:=(za3 n).map fun i:Nat=>V.int (i:Int)) ?_ r hr⟩
    have:∀ l:List Nat,Ag X.K (del H1 P) (l.map fun i:Nat=>V.int (i:Int)) (l.map fun i:Nat=>D.int (i:Int)):=fun l=>by
     induction l with
     |nil=>exact .nil
     |cons x r ih=>exact .cons (.int _) ih
    exact this _
   ·have e:rL (.int j)=.bad:=if_neg hj
    rw[e] at h;exact h.elim
  |_=>exact h.elim
noncomputable def eK (lo hi:Option Int) (d:D):M OT:=match d with
 | .lst ds=>.ok (.lst (((ds.drop (HT.Mq ds.length 0 lo)).take (HT.Mq ds.length ds.length hi - HT.Mq ds.length 0 lo)).map .sh))
 |_=>.bad
theorem N3 {lo hi:Option Expr}{pf fh:Ab->M (Option Int)}{p2:Pos}(ha:DE X WX true e f) (hl:DO X WX true lo pf) (hh:DO X WX true hi fh):DN X WX (.Subscript e (.Slice lo hi none p2) pos) (fun ρ=>(f ρ).bind fun d=>(pf ρ).bind fun l=>(fh ρ).bind fun u=>eK l u d):=by
 obtain⟨ta,a1,a2⟩:=ha
 obtain⟨tl,l1,l2⟩:=hl
 obtain⟨th,h1,h2⟩:=hh
 refine⟨_,Xi ZJ a1 l1 h1,fun P0 P σ H Q ρ E h=>?_⟩
 dsimp only at h
 refine a2 P0 P σ H _ ρ E ?_
 cases q:f ρ with
 |bad=>rw[q] at h;exact h
 |ex x=>rw[q] at h;exact h
 |ok d =>
  rw[q] at h
  intro v H1 s1 hv
  refine l2 P0 P σ H1 _ ρ (E.same s1) ?_
  cases q2:pf ρ with
  |bad=>rw[q2] at h;exact h
  |ex y=>rw[q2] at h;exact fun H' s=>h H' (s1.trans s)
  |ok l =>
   rw[q2] at h
   intro H2 s2
   refine h2 P0 P σ H2 _ ρ ((E.same s1).same s2) ?_
   cases q3:fh ρ with
   |bad=>rw[q3] at h;exact h
   |ex y=>rw[q3] at h;exact fun H' s=>h H' ((s1.trans s2).trans s)
   |ok u =>
    rw[q3] at h
    simp only[M.A7] at h
    intro H3 s3
    unfold eK at h
    split at h
    ·cases hv with
     |lst hs hl =>
      refine⟨_,_,rfl,(s3.seq (s2.seq hs.Bo)),fun p hp=>h.KG ((s1.trans s2).trans s3) ?_ p hp⟩
      unfold Xj
      rw[hl.length]
      exact ((((hl.drop _).take _).mono s2.del).mono s3.del)
    ·exact h.elim
theorem Yn:vA X.K WX (iA X.K) Ru:=by
 intro P H x y v w Q ht hx hy h
 unfold Ru at h
 split at h
 ·rename_i ds es
  by_cases hl:ds.length + es.length<=1000
  ·rw[if_pos hl] at h
   cases hx with
   |lst h1 h2 =>
    cases hy with
    |lst h3 h4=>exact⟨_,_,_,_,rfl,rfl,h1.Bo,h3.Bo,yV (AH (by rw[h2.length,h4.length];exact hl)),h.KG (Ad.refl _) (h2.uW h4)⟩
  ·rw[if_neg hl] at h;exact h.elim
 ·exact h.elim
theorem eL (ha:DE X WX true a f) (hb:DE X WX true b g):DN X WX (.BinOp a .Add b pos) (fun ρ=>(f ρ).bind fun x=>(g ρ).bind fun y=>Ru x y):=by
 obtain⟨ta,a1,a2⟩:=ha
 obtain⟨tb,b1,b2⟩:=hb
 exact⟨_,X6 dA a1 b1,fun P0 P σ H Q ρ E h=>qC a2 b2 Yn E h⟩
noncomputable def GK (μ:List (Option Nat)) (g:TG):Prop:=∀ σ0 σ x H Q,(∀(j:Nat) v,(EW μ σ0)[j]? =some (some v)->σ[j]? =some (some v))->g x σ H Q->g x σ H fun σ' H'=>Q σ' H'/\∀(j:Nat) v,(EW μ σ0)[j]? =some (some v)->σ'[j]? =some (some v)
noncomputable def qK (μ:List (Option Nat)) (g:WK):Prop:=∀ σ0 σ x H Q,(∀(j:Nat) v,(EW μ σ0)[j]? =some (some v)->σ[j]? =some (some v))->g x σ H Q->g x σ H fun σ' H'=>Q σ' H'/\∀(j:Nat) v,(EW μ σ0)[j]? =some (some v)->σ'[j]? =some (some v)
theorem GK.keeps {μ:List (Option Nat)}{g:TG}(h:GK μ g):Kn μ g:=fun σ x H Q q=>h σ (EW μ σ) x H Q (fun _ _ z=>z) q
theorem eM {μ:List (Option Nat)}{i:Nat}(h:μ[i]? =some none):GK μ (Oi i):=fun σ0 σ x H Q hk q=>by
 refine⟨q,fun j v hj=>?_⟩
 have af:i≠j:=fun z=>by
  subst z
  unfold EW at hj
  rw[zH,h] at hj
  cases hj
 rw[yS af]
 exact hk j v hj
theorem eN {μ:List (Option Nat)}:qK μ jH:=fun σ0 σ x H Q hk q=>⟨q.1,q.2,hk⟩
theorem Yo {μ:List (Option Nat)}{t:TG}{u:WK}(mono:∀ v σ H Q Q',(∀ σ' H',Q σ' H'->Q' σ' H')->t v σ H Q->t v σ H Q') (ht:GK μ t) (hu:qK μ u):qK μ (WY t u):=fun σ0 σ x H Q hk q=>by
 obtain⟨v,r,rfl,q⟩:=q
 exact⟨v,r,rfl,mono _ _ _ _ _ (fun σ' H' z=>hu σ0 σ' r H' Q z.2 z.1) (ht σ0 σ v H _ hk q)⟩
theorem lO {K:za}{μ:List (Option Nat)}{n:Nat}{t:WK}(h:qK μ t):GK μ (jI K n t):=fun σ0 σ x H Q hk q=>by
 obtain⟨a,xs,rfl,h1,h2,q⟩:=q
 exact⟨a,xs,rfl,h1,h2,h σ0 σ xs H Q hk q⟩
variable {cV:List D->Ab->M Ab}{gt:D->Ab->M Ab}{es:List Expr}
noncomputable def eO (X:Cx) (scope:Scope) (NB:List Str) (μ:List (Option Nat)) (es:List Expr) (gt:List D->Ab->M Ab):Prop :=
 ∃ g:WK,(∀ s H C ex,nE (blockOf X s H scope C NB ex) es g)/\qK μ g/\∀ P0 P σ H Q ρ vs ds,An X.K P0 P H σ ρ->Ag X.K (del H P) vs ds->gG X.K P0 P H Q (gt ds ρ)->g vs σ H Q
theorem RB {scope:Scope}{NB:List Str}{μ:List (Option Nat)}:eO X scope NB μ [] (fun ds ρ=>match ds with | []=>.ok ρ | _=>.bad) :=
 ⟨jH,fun s H C ex=>Uc,eN,fun P0 P σ H Q ρ vs ds E hv h=>by
  cases hv with
  |nil=>exact⟨rfl,h σ E⟩
  |cons _ _=>exact h.elim⟩
theorem HA {scope:Scope}{NB:List Str}{μ:List (Option Nat)}(i:Nat){x:Str}{px:Pos}(hN:NB.Nodup) (hi:NB[i]? =some x) (hx:(relabel scope X.env).names.lookup x=some .local) (hm:μ[i]? =some none) (hr:eO X scope NB μ es cV)
 (hs:∀ s H C ex,(assignEach (.Name x px::es) (blockOf X s H scope C NB ex).env).map (·.2)=assign (.Name x px) (blockOf X s H scope C NB ex).env::(assignEach es (blockOf X s H scope C NB ex).env).map (·.2):=by intro _ _ _ _;rfl) :
 eO X scope NB μ (.Name x px::es) (fun ds ρ=>match ds with|d::r=>cV r (ρ.set i (some (.val d)))|[]=>.bad):=by
 obtain⟨gr,r1,r2,r3⟩:=hr
 refine⟨WY (Oi i) gr,fun s H C ex=>QQ (Po (X:=blockOf X s H scope C NB ex) hN hi (.inl hx) (.inr hx)) (r1 s H C ex) (hs s H C ex),Yo (fun v σ H Q Q' hq h=>hq _ _ h) (eM hm) r2,fun P0 P σ H Q ρ vs ds E hv h=>?_⟩
 cases hv with
 |nil=>exact h.elim
 |cons h1 h2=>exact⟨_,_,rfl,r3 P0 P _ H Q _ _ _ (E.VO h1) h2 h⟩
theorem US {scope:Scope}{NB:List Str}{μ:List (Option Nat)}{k n:Nat}{pt:Pos}(hc:X.calm=true) (h:eO X scope NB μ es cV)
 (hn:∀ s H C ex,(assignEach es (blockOf X s H scope C NB ex).env).length=n:=by intro _ _ _ _;rfl) (aY:∀ s H C ex,(assignEach es (blockOf X s H scope C NB ex).env).findIdx? (·.1)=none:=by intro _ _ _ _;rfl) :
 pV X scope NB μ (.Tuple es k pt) (fun d ρ=>match d with | .tup ds=>if ds.length=n then cV ds ρ else .bad|_=>.bad):=by
 obtain⟨t,a1,a2,a3⟩:=h
 refine⟨jI X.K n t,fun s H C ex=>WZ (X:=blockOf X s H scope C NB ex) hc (a1 s H C ex) (hn s H C ex) (aY s H C ex),(lO a2).keeps,fun P0 P σ H Q ρ v d E hv h=>?_⟩
 cases hv with
 | @tup a xs ds hs hl =>
  dsimp only at h
  by_cases hd:ds.length=n
  ·rw[if_pos hd] at h
   exact⟨a,xs,rfl,Fs.of (Al hs).2,by rw[hl.length];exact hd,a3 P0 P σ H Q ρ xs ds E hl h⟩
  ·rw[if_neg hd] at h;exact h.elim
 |_=>exact h.elim
end
end L2
namespace L2
open PySem PySem.Spec PyProof.Rows
noncomputable def WP (m:M Out) (nx:Ab->Prop) (rt:Out->Prop) (ex:Str->Prop):Prop:=match m with
 | .ok (.next ρ)=>nx ρ
 | .ok o=>rt o
 | .ex x=>ex x
 | .bad=>False
section
variable {nx:Ab->Prop}{rt:Out->Prop}{ex:Str->Prop}{m:M Out}{k:Ab->M Out}{ρ ρ':Ab}
theorem Bj (h:m=.ok (.next ρ')) (hn:nx ρ'):WP m nx rt ex:=by rw[h];exact hn
theorem WP.mono {vg:Ab->Prop}{vh:Out->Prop}{me:Str->Prop}(h:WP m nx rt ex) (h1:∀ ρ,nx ρ->vg ρ) (h2:∀ o,rt o->vh o) (h3:∀ x,ex x->me x):WP m vg vh me:=by
 cases m with
 |bad=>exact h
 |ex x=>exact h3 x h
 |ok o =>
  cases o with
  |next ρ=>exact h1 ρ h
  |ret d=>exact h2 _ h
  |brk d=>exact h2 _ h
  |cont d=>exact h2 _ h
  |CK d=>exact h2 _ h
  |Fd d ρ=>exact h2 _ h
theorem wp_seq (h:WP m (fun ρ=>WP (k ρ) nx rt ex) rt ex):WP (cT m k) nx rt ex:=by
 cases m with
 |bad=>exact h
 |ex x=>exact h
 |ok o =>
  cases o with
  |next ρ=>exact h
  |ret d=>exact h
  |brk d=>exact h
  |cont d=>exact h
  |CK d=>exact h
  |Fd d ρ=>exact h
theorem wp_step (h:m=.ok (.next ρ')) (hk:WP (k ρ') nx rt ex):WP (cT m k) nx rt ex:=by rw[h];exact hk
theorem C6 {I:Ab->Prop}(h:WP m I rt ex) (hk:∀ ρ,I ρ->WP (k ρ) nx rt ex):WP (cT m k) nx rt ex:=wp_seq (h.mono hk (fun _ h=>h) fun _ h=>h)
noncomputable def inLoop (I:Ab->Prop) (nx:Ab->Prop) (rt:Out->Prop) (o:Out):Prop:=match o with
 | .cont ρ=>I ρ
 | .brk ρ=>nx ρ
 |o=>rt o
theorem BF {gt:D->Ab->M Ab}{gb:Ab->M Out}{ds:List D}(I:Nat->Ab->Prop) (h0:I 0 ρ)
 (step:∀ i d ρ,ds[i]? =some d->I i ρ->∃ ρ1,gt d ρ=.ok ρ1/\WP (gb ρ1) (I (i + 1)) (inLoop (I (i + 1)) nx rt) ex) (done:∀ ρ,I ds.length ρ->nx ρ):WP (forM gt gb ds ρ) nx rt ex:=by
 have key:∀(n i:Nat) (ρ:Ab),i + n=ds.length->I i ρ->WP (forM gt gb (ds.drop i) ρ) nx rt ex:=by
  intro n
  induction n with
  |zero =>
   intro i ρ hi h
   have e:i=ds.length:=by omega
   subst e
   rw[List.drop_length,forM]
   exact done ρ h
  |succ n ih =>
   intro i ρ hi h
   have aj:i < ds.length:=by omega
   obtain⟨ρ1,h1,h2⟩:=step i ds[i] ρ (zt aj) h
   rw[Jd aj,forM,h1]
   dsimp only
   cases q:gb ρ1 with
   |bad=>rw[q] at h2;exact h2
   |ex x=>rw[q] at h2;exact h2
   |ok o =>
    rw[q] at h2
    cases o with
    |next ρ2=>exact ih (i + 1) ρ2 (by omega) h2
    |ret d=>exact h2
    |CK d=>exact h2
    |Fd d ρ2=>exact h2
    |cont ρ2=>exact ih (i + 1) ρ2 (by omega) h2
    |brk ρ2=>exact h2
 have:=key ds.length 0 ρ (by omega) h0
 rw[List.drop_zero] at this
 exact this
theorem RC {α:Type}{c:Ab->M Bool}{b:Ab->M Out}{lt:α->α->Prop}(J:α->Ab->Prop){x:α}(hx:Acc lt x) (h0:J x ρ)
 (step:∀ x ρ,J x ρ->(c ρ=.ok false/\nx ρ)\/(c ρ=.ok true/\WP (b ρ) (fun ρ2=>∃ y,lt y x/\J y ρ2) (inLoop (fun ρ2=>∃ y,lt y x/\J y ρ2) nx rt) ex)):WP (La c b ρ) nx rt ex:=by
 have key:∀ x,Acc lt x->∀ ρ,J x ρ->∃ n,Ay c b n ρ≠.bad/\WP (Ay c b n ρ) nx rt ex:=by
  intro x hx
  induction hx with
  |intro x _ ih =>
   intro ρ h
   rcases step x ρ h with ⟨h1,h2⟩|⟨h1,h2⟩
   ·refine⟨1,?_,?_⟩
    ·rw[Ay,h1];intro z;cases z
    ·rw[Ay,h1];exact h2
   ·cases q:b ρ with
    |bad=>rw[q] at h2;exact h2.elim
    |ex y =>
     rw[q] at h2
     refine⟨1,?_,?_⟩
     ·rw[Ay,h1];dsimp only;rw[q];intro z;cases z
     ·rw[Ay,h1];dsimp only;rw[q];exact h2
    |ok o =>
     rw[q] at h2
     have go:∀ ρ2,(∃ y,lt y x/\J y ρ2)->(∀ n,Ay c b (n + 1) ρ=Ay c b n ρ2)->∃ n,Ay c b n ρ≠.bad/\WP (Ay c b n ρ) nx rt ex:=by
      rintro ρ2 ⟨y,hy,hJ⟩ e
      obtain⟨n,h3,h4⟩:=ih y hy ρ2 hJ
      exact⟨n + 1,by rw[e];exact h3,by rw[e];exact h4⟩
     cases o with
     |next ρ2=>exact go ρ2 h2 fun n=>by rw[Ay,h1];dsimp only;rw[q]
     |cont ρ2=>exact go ρ2 h2 fun n=>by rw[Ay,h1];dsimp only;rw[q]
     |brk ρ2 =>
      refine⟨1,?_,?_⟩
      ·rw[Ay,h1];dsimp only;rw[q];intro z;cases z
      ·rw[Ay,h1];dsimp only;rw[q];exact h2
     |ret d =>
      refine⟨1,?_,?_⟩
      ·rw[Ay,h1];dsimp only;rw[q];intro z;cases z
      ·rw[Ay,h1];dsimp only;rw[q];exact h2
     |CK d =>
      refine⟨1,?_,?_⟩
      ·rw[Ay,h1];dsimp only;rw[q];intro z;cases z
      ·rw[Ay,h1];dsimp only;rw[q];exact h2
     |Fd d ρ2 =>
      refine⟨1,?_,?_⟩
      ·rw[Ay,h1];dsimp only;rw[q];intro z;cases z
      ·rw[Ay,h1];dsimp only;rw[q];exact h2
 obtain⟨n,h1,h2⟩:=key x hx ρ h0
 unfold La
 have hx:∃ n,Ay c b n ρ≠.bad:=⟨n,h1⟩
 rw[dif_pos hx]
 have e:Ay c b (zj hx) ρ=Ay c b n ρ:=by
  have a:=CH (zb hx) n
  have b':=CH h1 (zj hx)
  rw[Nat.add_comm] at b'
  rw[<-a,<-b']
 rw[e]
 exact h2
noncomputable def vB (Q:OT->Prop) (o:Out):Prop:=match o with
 | .ret d=>Q (.sh d)
 | .CK c=>∃ t,qD c=.ok t/\Q t
 |_=>False
theorem Lc {Q:OT->Prop}(h:WP m (fun _=>Q (.sh .AA)) (vB Q) (fun _=>False)):∃ t,Y9 m=.ok t/\Q t:=by
 cases m with
 |bad=>exact h.elim
 |ex x=>exact h.elim
 |ok o =>
  cases o with
  |next ρ=>exact⟨_,rfl,h⟩
  |ret d=>exact⟨_,rfl,h⟩
  |CK c=>exact h
  |Fd c ρ=>exact h.elim
  |brk ρ=>exact h.elim
  |cont ρ=>exact h.elim
theorem Bq {t:OT}(h:WP m (fun _=>OT.sh .AA=t) (vB (·=t)) (fun _=>False)):Y9 m=.ok t:=by
 obtain⟨u,h1,h2⟩:=Lc (Q:=(·=t)) h
 rw[h1,h2]
noncomputable def vC (Q:D->Prop) (o:Out):Prop:=match o with
 | .ret d=>Q d
 | .CK c=>∃ t,tM c=.ok t/\Q t
 |_=>False
theorem qL {Q:D->Prop}(h:WP m (fun _=>Q .AA) (vC Q) (fun _=>False)):∃ t,fin m=.ok t/\Q t:=by
 cases m with
 |bad=>exact h.elim
 |ex x=>exact h.elim
 |ok o =>
  cases o with
  |next ρ=>exact⟨_,rfl,h⟩
  |ret d=>exact⟨_,rfl,h⟩
  |CK c=>exact h
  |Fd c ρ=>exact h.elim
  |brk ρ=>exact h.elim
  |cont ρ=>exact h.elim
theorem qM {d:D}(h:WP m (fun _=>D.AA=d) (vC (·=d)) (fun _=>False)):fin m=.ok d:=by
 obtain⟨u,h1,h2⟩:=qL (Q:=(·=d)) h
 rw[h1,h2]
end
end L2
namespace L2
open PySem PySem.Spec PyProof.Rows
section
variable {d:D}{ds es:List D}{ρ ρ':Ab}{o:Option Cl}{i n:Nat}{p:Option Nat}{t u:OT}{π:List Nat}{b:Bool}{ks vs:List D}{ts:List OT}{m:M D}
theorem rM:rv 0 (some (.val d)::ρ)=.ok d:=rfl
theorem rN:rv (i + 1) (o::ρ)=rv i ρ:=rfl
noncomputable def RD (f:Ab->Ab) (m:M Out):M Out:=match m with
 | .ok (.next ρ)=>.ok (.next (f ρ))
 |m=>m
theorem Jx {f:Ab->Ab}:RD f (.ok (.next ρ))=.ok (.next (f ρ)):=rfl
theorem Jy:Rw 0 (some (.own ds)::ρ)=.ok []:=rfl
theorem Jz:Rw 0 (some (.ow (.LI n ds))::ρ)=.ok []:=rfl
theorem HB:Rw 0 (some (.ow (.tree p t))::ρ)=.ok []:=by unfold Rw UP;simp[treeOf]
theorem UT:Rw (i + 1) (o::ρ)=Rw i ρ:=rfl
theorem UU:UP 0 (some (.own ds)::ρ) π=KA (.lst (ds.map .sh)) π:=rfl
theorem UW:UP 0 (some (.ow (.LI n ds))::ρ) π=KA (.lst (ds.map .sh)) π:=rfl
theorem N4:UP 0 (some (.ow (.tree p t))::ρ) π=KA t π:=rfl
theorem LU:PQ 0 (some (.own ds)::ρ) []=.ok ds:=by unfold PQ;simp[UU,CJ]
theorem LV:PQ 0 (some (.ow (.LI n ds))::ρ) []=.ok ds:=by unfold PQ;simp[UW,CJ]
theorem JA:PQ 0 (some (.ow (.tree p (.lst (ds.map .sh))))::ρ) []=.ok ds:=by unfold PQ;simp[N4,CJ]
theorem eQ:PQ (i + 1) (o::ρ) π=PQ i ρ π:=rfl
theorem HC:Lb 0 (some (.own ds)::ρ) []=.ok (ds.map .sh):=by unfold Lb;simp[UU]
theorem HD:Lb 0 (some (.ow (.LI n ds))::ρ) []=.ok (ds.map .sh):=by unfold Lb;simp[UW]
theorem FD:Lb 0 (some (.ow (.tree p (.lst ts)))::ρ) []=.ok ts:=by unfold Lb;simp[N4]
theorem PY:Lb (i + 1) (o::ρ) π=Lb i ρ π:=rfl
theorem D8:G9 0 (some (.ow (.tree p (.Bi b ks (vs.map .sh))))::ρ) []=.ok (b,ks,vs):=by unfold G9;simp[N4,CJ]
theorem PZ:G9 (i + 1) (o::ρ) π=G9 i ρ π:=rfl
theorem JB:GL 0 (some (.own ds)::ρ) [] u=.ok (.next (some (toCl none u)::ρ)):=by unfold GL;simp[treeOf]
theorem JC:GL 0 (some (.ow (.LI n ds))::ρ) [] u=.ok (.next (some (toCl (some n) u)::ρ)):=by unfold GL;simp[treeOf]
theorem HE:GL 0 (some (.ow (.tree p t))::ρ) π u=.ok (.next (some (toCl p (EZ t π u))::ρ)):=by unfold GL;simp[treeOf]
theorem UX:GL (i + 1) (o::ρ) π u=RD (o::·) (GL i ρ π u):=by
 unfold GL RD
 simp only[zT,zo]
 split
 ·rename_i c e
  split<;>simp_all
 ·simp_all
theorem JD:VQ 0 (some (.own ds)::ρ) (.ok d)=if ds.length < 1000 then .ok (.next (some (.own (ds++[d]))::ρ)) else .bad:=rfl
theorem UY:VQ (i + 1) (o::ρ) m=RD (o::·) (VQ i ρ m):=by
 unfold VQ
 rw[zT]
 cases q:ρ[i]? with
 |none=>rfl
 |some oo =>
  cases oo with
  |none=>rfl
  |some c =>
   cases c with
   |own ds =>
    cases m with
    |ok d =>
     simp only[M.A7,zo]
     by_cases h:ds.length < 1000
     ·rw[if_pos h,if_pos h];rfl
     ·rw[if_neg h,if_neg h];rfl
    |ex x=>rfl
    |bad=>rfl
   |val d=>rfl
   |ow w=>rfl
theorem JE {j:Int}:W6 0 (some (.own ds)::ρ) (.ok (.int j)) (.ok d)=if 0<=j/\j.toNat<=ds.length/\ds.length < 1000 then .ok (.next (some (.own (ds.take j.toNat++d::ds.drop j.toNat))::ρ)) else .bad:=rfl
theorem UZ {m2:M D}:W6 (i + 1) (o::ρ) m m2=RD (o::·) (W6 i ρ m m2):=by
 unfold W6
 rw[zT]
 cases q:ρ[i]? with
 |none=>rfl
 |some oo =>
  cases oo with
  |none=>rfl
  |some c =>
   cases c with
   |own ds =>
    cases m with
    |ok d =>
     cases m2 with
     |ok d2 =>
      simp only[M.A7,zo]
      cases d with
      |int j =>
       dsimp only
       by_cases h:0<=j/\j.toNat<=ds.length/\ds.length < 1000
       ·rw[if_pos h,if_pos h];rfl
       ·rw[if_neg h,if_neg h];rfl
      |_=>rfl
     |ex x=>rfl
     |bad=>rfl
    |ex x=>rfl
    |bad=>rfl
   |val d=>rfl
   |ow w=>rfl
theorem JF:Tp 0 (some (.val d)::ρ)=.ok (.ret d):=rfl
theorem JG:Tp 0 (some (.own ds)::ρ)=.ok (.CK (.own ds)):=rfl
theorem LW {w:Ow}:Tp 0 (some (.ow w)::ρ)=.ok (.CK (.ow w)):=rfl
theorem V0:Tp (i + 1) (o::ρ)=Tp i ρ:=rfl
theorem vD:tO i ρ π=match UP i ρ π with | some (.sh d)=>.ok d | _=>.bad:=rfl
theorem eR:Yc (i + 1) (o::ρ)=o::Yc i ρ:=by
 unfold Yc
 simp only[zT,zo]
 split<;>simp_all
theorem eS {c:Cl}:Yc 0 (some c::ρ)=some (Lx c)::ρ:=rfl
theorem JH:Lx (.val d)=.val d:=rfl
theorem JI:Lx (.own ds)=.val (.lst ds):=rfl
theorem JJ:Lx (.ow (.LI n ds))=.val (.lst ds):=rfl
theorem LX:Lx (.ow (.tree p t))=.val (er t):=rfl
theorem IL:er (.Bi b ks (vs.map .sh))=.Bi b ks vs:=by rw[er,PN]
theorem KH:er (.lst (ds.map .sh))=.lst ds:=by rw[er,PN]
theorem RE:er (.sh d)=d:=rfl
theorem rO {l:List (Option Nat)}:Bz (none::l) ρ=none::Bz l ρ:=rfl
theorem rQ:Bz [] ρ=[]:=rfl
theorem eT {l:List (Option Nat)}:Bz (some i::l) ρ=(match ρ[i]? with | some (some (.val d))=>some (.val d) | _=>none)::Bz l ρ:=rfl
theorem eU {α:Type}{x y:α}:(if ([]:List D).length<=1000 then x else y)=x:=if_pos (by show 0<=1000;decide)
theorem eV {α:Type}{x y:α}{a:D}:(if [a].length<=1000 then x else y)=x:=if_pos (by show 1<=1000;decide)
theorem eW {α:Type}{x y:α}{a b:D}:(if [a,b].length<=1000 then x else y)=x:=if_pos (by show 2<=1000;decide)
theorem eX {α:Type}{x y:α}{a b c:D}:(if [a,b,c].length<=1000 then x else y)=x:=if_pos (by show 3<=1000;decide)
theorem eY {α:Type}{x y:α}{a b c d:D}:(if [a,b,c,d].length<=1000 then x else y)=x:=if_pos (by show 4<=1000;decide)
theorem toCl_nil:toCl none (.lst [])=.own []:=rfl
theorem D9 {α:Type}{gt:D->Ab->M Ab}{ft:Ab->M Bool}{fe:Ab->M D}{g:α->D}(p:α->Bool) (f:α->D):∀ {l:List α},(∀ x∈l,∃ ρ1,gt (g x) ρ=.ok ρ1/\ft ρ1=.ok (p x)/\(p x=true->fe ρ1=.ok (f x)))->B9 gt ft fe (l.map g) ρ=.ok ((l.filter p).map f)
 |[],_=>rfl
 |x::r,h=>by
  obtain⟨ρ1,h1,h2,h3⟩:=h x ze
  have ih:=D9 (gt:=gt) (ft:=ft) (fe:=fe) (g:=g) p f (l:=r) fun y hy=>h y (zf _ hy)
  rw[zg,B9,h1]
  dsimp only
  rw[h2]
  dsimp only
  rw[List.filter_cons]
  cases hp:p x with
  |true =>
   rw[if_pos rfl,h3 hp]
   dsimp only
   rw[ih]
   simp
  |false=>simp[ih]
theorem C7 {α:Type}{gt:D->Ab->M Ab}{ft:Ab->M Bool}{fe:Ab->M D}{g:α->D}(f:α->D){l:List α}(h:∀ x∈l,∃ ρ1,gt (g x) ρ=.ok ρ1/\ft ρ1=.ok true/\fe ρ1=.ok (f x)):B9 gt ft fe (l.map g) ρ=.ok (l.map f):=by
 have:=D9 (gt:=gt) (ft:=ft) (fe:=fe) (ρ:=ρ) (g:=g) (fun _=>true) f (l:=l) fun x hx=>by
  obtain⟨ρ1,h1,h2,h3⟩:=h x hx
  exact⟨ρ1,h1,h2,fun _=>h3⟩
 rw[this,List.filter_eq_self.mpr (fun _ _=>rfl)]
theorem BR {α:Type}{g:α->D}{l:List α}{i:Nat}{d:D}(h:(l.map g)[i]? =some d):∃ x,l[i]? =some x/\d=g x:=by
 rw[zH] at h
 cases q:l[i]? with
 |none=>rw[q] at h;cases h
 |some x=>rw[q] at h;cases h;exact⟨x,rfl,rfl⟩
theorem Q0:eF (.lst (ds.map .sh))=.ok ds:=by unfold eF;simp[CJ,Ts]
theorem HF {α:Type}{x:α}:Ts (some x)=.ok x:=rfl
theorem LY:Rv i ρ (.sh d)=.ok (.next (ρ.set i (some (.val d)))):=rfl
theorem JK:Rv i ρ (.lst ts)=.ok (.next (ρ.set i (some (toCl none (.lst ts))))):=rfl
theorem JL:Rv i ρ (.tup ts)=.ok (.next (ρ.set i (some (.ow (.tree none (.tup ts)))))):=rfl
theorem JM:Rv i ρ (.Bi b ks ts)=.ok (.next (ρ.set i (some (.ow (.tree none (.Bi b ks ts)))))):=rfl
theorem JN {x:Str}{ns:List Str}:Rv i ρ (.ins x ns ts)=.ok (.next (ρ.set i (some (.ow (.tree none (.ins x ns ts)))))):=rfl
theorem LZ:Yb (.sh d)=.ok (.ret d):=rfl
theorem JO:Yb (.lst ts)=.ok (.CK (.ow (.tree none (.lst ts)))):=rfl
theorem JP:Yb (.tup ts)=.ok (.CK (.ow (.tree none (.tup ts)))):=rfl
theorem JQ:Yb (.Bi b ks ts)=.ok (.CK (.ow (.tree none (.Bi b ks ts)))):=rfl
theorem RF {α:Type}{f:α->D}(h:∀ x,Jg (f x)=true):∀ l:List α,Jh (l.map f)=true
 |[]=>by simp[Jh]
 |x::r=>by rw[zg,Jh,h x,RF h r];rfl
theorem RG:∀ ds:List D,G8 (ds.map .sh)=Jh ds
 |[]=>by simp[Jh,G8]
 |d::r=>by rw[zg,G8,GI,RG r,Jh]
theorem lP (h:Jg d=true):Sx (.ok (.sh d))=.ok (.sh d):=by unfold Sx;simp[GI,h]
theorem eZ (h:Jh ds=true):Sx (.ok (.lst (ds.map .sh)))=.ok (.lst (ds.map .sh)):=by unfold Sx;simp[GI,RG,h]
theorem fA {i:Int}:Jg (.int i)=true:=by simp[Jg]
theorem Yp:F0 (.lst ds)=.ok (!ds.isEmpty):=rfl
theorem lQ {a s m:Int}(h0:0<=a) (h1:a < m) (s0:1<=s) (s1:s < m):(a + s) % m≠a:=by
 by_cases h:a + s < m
 ·rw[Int.emod_eq_of_lt (by omega) h];omega
 ·have e:(a + s) % m=(a + s - m) % m:=by rw[Int.sub_emod_right]
  rw[e,Int.emod_eq_of_lt (by omega) (by omega)];omega
theorem M2 {k:Nat}(i j:Int):cQ k (.int i) (.int j)=.ok (.bl (decide (i=j))):=by
 rw[Tg (IF _) (IF _)]
 simp only[Aw,Bool.beq_eq_decide_eq]
theorem M3 {k:Nat}(i j:Int):cR k (.int i) (.int j)=.ok (.bl (!decide (i=j))):=by
 rw[Th (IF _) (IF _)]
 simp only[Aw,Bool.beq_eq_decide_eq]
theorem JR {i j:Int}:pO (.int i) (.int j)=.ok (.int (i + j)):=rfl
theorem JS {i j:Int}:pQ (.int i) (.int j)=.ok (.int (i - j)):=rfl
theorem M4 {i j:Int}:uQ (.int i) (.int j)=.ok (.bl (decide (i < j))):=rfl
theorem M5 {i j:Int}:wB (.int i) (.int j)=.ok (.bl (decide (i<=j))):=rfl
theorem M6 {i j:Int}:uR (.int i) (.int j)=.ok (.bl (decide (j < i))):=rfl
theorem M7 {i j:Int}:wC (.int i) (.int j)=.ok (.bl (decide (j<=i))):=rfl
theorem M8 {i:Int}:uS (.int i)=.ok (some i):=rfl
theorem JT:VN [.lst ds]=.ok (.int ds.length):=rfl
theorem JU:VN [.tup ds]=.ok (.int ds.length):=rfl
theorem ite_tt {α:Type}{x y:α}:(if true=true then x else y)=x:=rfl
theorem ite_ff {α:Type}{x y:α}:(if false=true then x else y)=y:=rfl
theorem Yq {lo hi:Option Int}{x:D}(h:nI lo hi x=.ok (.lst ds)):eK lo hi x=.ok (.lst (ds.map .sh)):=by
 unfold nI at h
 unfold eK
 cases x with
 |lst xs=>dsimp only at h ⊢;injection h with h;injection h with h;rw[h]
 |_=>cases h
theorem RH (xs:List D) (k:Nat):eK (some (k:Int)) none (.lst xs)=.ok (.lst ((xs.drop k).map .sh)):=Yq (XO xs k)
theorem fB (xs:List D) (a b:Nat):eK (some (a:Int)) (some (b:Int)) (.lst xs)=.ok (.lst (((xs.drop a).take (b - a)).map .sh)):=Yq (dB xs a b)
theorem JV:KG (.lst ds)=.ok (.lst (ds.map .sh)):=rfl
theorem JW:KG (.tup ds)=.ok (.lst (ds.map .sh)):=rfl
theorem HG {ns:List Int}:qJ [.lst (ns.map D.int)]=.ok (.int ns.sum):=by unfold qJ;dsimp only;rw[DR]
theorem HH {T:String}:Jb T (.lst ds)=.ok (.bl (EC T (.lst ds))):=rfl
theorem HI {T:String}:Jb T (.tup ds)=.ok (.bl (EC T (.tup ds))):=rfl
theorem HJ {T:String}{k:Int}:Jb T (.int k)=.ok (.bl (EC T (.int k))):=rfl
theorem HK {T:String}:Jb T .AA=.ok (.bl (EC T .AA)):=rfl
theorem JX {T:String}{k:Bool}:Jb T (.bl k)=.ok (.bl (EC T (.bl k))):=rfl
theorem HL {T:String}{k:Str}:Jb T (.str k)=.ok (.bl (EC T (.str k))):=rfl
theorem HM {T:String}:Jb T (.Bi b ks vs)=.ok (.bl (EC T (.Bi b ks vs))):=rfl
theorem V1:EC "list" (.lst ds)=true:=rfl
theorem V2:EC "tuple" (.tup ds)=true:=rfl
theorem V3 {k:Int}:EC "int" (.int k)=true:=rfl
theorem V4 {k:Int}:EC "bool" (.int k)=false:=rfl
theorem V5:EC "dict" (.Bi b ks vs)=true:=rfl
theorem HN {neg:Bool}{k:Int}{ns:List Int}:Js neg (.int k) (.lst (ns.map D.int))=.ok (.bl (if neg then !ns.contains k else ns.contains k)):=by
 unfold Js rJ
 dsimp only
 rw[DR]
noncomputable def vO (s:Option D):Option Cl:=s.map .val
theorem M9 {s:Option D}:ED (vO s::ρ)=vO s::ED ρ:=by cases s<;>rfl
end
end L2
namespace L2
open PySem PySem.Spec PyProof.Rows
noncomputable def pD (p:Int×Int):D:=.tup [.int p.1,.int p.2]
theorem GN (p q:Int×Int):Aw (pD p) (pD q)=decide (p=q):=by
 obtain⟨a,b⟩:=p
 obtain⟨c,d⟩:=q
 unfold pD
 simp only[Aw,Cy,Bool.and_true]
 rw[zar]
 simp
theorem GO (p:Int×Int):keyOk true (pD p)=true:=rfl
theorem V6 (B:List (Int×Int)) (p:Int×Int):Ly (B.map pD) (pD p)=decide (p∈B):=by
 unfold Ly
 rw[List.any_map,zar]
 simp only[List.any_eq_true,Function.comp,GN,decide_eq_true_eq]
 constructor
 ·rintro ⟨x,hx,rfl⟩;exact hx
 ·intro h;exact⟨p,h,rfl⟩
theorem Q1 (B:List (Int×Int)) (vs:List D) (neg:Bool) (a b:Int):Js neg (.tup [.int a,.int b]) (.Bi true (B.map pD) vs)=.ok (.bl (if neg=true then !decide ((a,b)∈B) else decide ((a,b)∈B))):=by
 unfold Js
 dsimp only
 have h1:keyOk true (D.tup [D.int a,D.int b])=true:=rfl
 have h2:Ly (B.map pD) (D.tup [D.int a,D.int b])=decide ((a,b)∈B):=V6 B (a,b)
 rw[if_pos h1,h2]
noncomputable def KI (B:List (Int×Int)) (p:Int×Int):List (Int×Int):=if p∈B then B else B++[p]
noncomputable def CZ {α:Type}(B:List α):List D:=B.map fun _=>.bl true
theorem OS {α:Type}(f:α->D) (y:D):∀ B:List α,IJ (B.map f) (CZ B) y (.bl true)=CZ B
 |[]=>rfl
 |b::r=>by
  show IJ (f b::r.map f) (.bl true::CZ r) y (.bl true)=.bl true::CZ r
  rw[IJ,OS f y r]
  split<;>rfl
theorem V7 (B:List (Int×Int)) (p:Int×Int):putD (B.map pD) (CZ B) (pD p) (.bl true)=((KI B p).map pD,CZ (KI B p)):=by
 unfold putD KI
 rw[V6]
 by_cases h:p∈B
 ·rw[decide_eq_true h,if_pos rfl,if_pos h,OS]
 ·rw[decide_eq_false h,if_neg (by simp),if_neg h]
  unfold CZ
  simp
theorem RI {B:List (Int×Int)}{p q:Int×Int}:q∈KI B p↔q∈B\/q=p:=by
 unfold KI
 split
 ·constructor
  ·exact .inl
  ·rintro (h|rfl)
   ·exact h
   ·assumption
 ·simp
theorem Tv {B:List (Int×Int)}{p:Int×Int}(h:B.Nodup):(KI B p).Nodup:=by
 unfold KI
 split
 ·exact h
 ·rename_i hn
  exact zK.mpr ⟨h,by simp,fun a ha b hb z=>by simp at hb;subst hb;subst z;exact hn ha⟩
theorem KJ {α:Type} [DecidableEq α]:∀ {l u:List α},l.Nodup->(∀ x∈l,x∈u)->l.length<=u.length
 |[],_,_,_=>zW _
 |x::r,u,nd,h=>by
  have b6:=yP.mp nd
  have hx:=h x ze
  have ih:=KJ (l:=r) (u:=u.erase x) b6.2 fun y hy=>(List.mem_erase_of_ne (fun z=>b6.1 (by rw[<-z];exact hy))).mpr (h y (zf _ hy))
  have e:=List.length_erase_of_mem hx
  have:0 < u.length:=List.length_pos_of_mem hx
  rw[zp]
  omega
theorem Yr (p:Int×Int):Jg (pD p)=true:=by simp[pD,Jg,Jh]
noncomputable def AU (m:Nat):List Int:=(za3 m).map fun i:Nat=>(i:Int)
theorem N5 (m:Nat):((za3 m).map fun i:Nat=>D.int (i:Int))=(AU m).map D.int:=by unfold AU;rw[yM];rfl
theorem Fi (m:Nat):(AU m).length=m:=by unfold AU;simp
theorem JY {m:Nat}{p:Int}:p∈AU m↔0<=p/\p < m:=by
 unfold AU
 constructor
 ·intro h
  obtain⟨i,hi,rfl⟩:=zE.mp h
  have:=List.mem_range.mp hi
  omega
 ·rintro ⟨h0,h1⟩
  exact zE.mpr ⟨p.toNat,List.mem_range.mpr (by omega),by omega⟩
noncomputable def B0 (B:List (Int×Int)) (L:List Int) (v:Int):List (Int×Int):=(L.filter fun u=>decide ((u,v)∈B)).flatMap fun u=>((L.filter fun w=>decide ((v,w)∈B)).filter fun w=>decide (u≠w) && !decide ((u,w)∈B)).map fun w=>(u,w)
noncomputable def lR (B:List (Int×Int)):Prop:=∀ x,(x,x)∉B
theorem Wg (B:List (Int×Int)) (L:List Int) (v:Int):(B0 B L v).length<=L.length * L.length:=by
 unfold B0
 rw[List.length_flatMap]
 have key:∀ l:List Int,(l.map fun u=>(((L.filter fun w=>decide ((v,w)∈B)).filter fun w=>decide (u≠w) && !decide ((u,w)∈B)).map fun w=>(u,w)).length).sum<=l.length * L.length:=by
  intro l
  induction l with
  |nil=>simp
  |cons u r ih =>
   rw[zg,List.sum_cons,zp,Nat.succ_mul]
   have:(((L.filter fun w=>decide ((v,w)∈B)).filter fun w=>decide (u≠w) && !decide ((u,w)∈B)).map fun w=>(u,w)).length<=L.length:=by
    rw[zc]
    exact yU (List.length_filter_le _ _) (List.length_filter_le _ _)
   omega
 exact yU (key _) (Nat.mul_le_mul_right _ (List.length_filter_le _ _))
theorem OU {α:Type}(f:α->List Int):∀ l:List α,GC (l.map fun x=>D.tup ((f x).map D.int))=some (l.map fun x=>(D.tup ((f x).map D.int),f x))
 |[]=>rfl
 |x::r=>by
  rw[zg,GC,OU f r]
  simp[XI,DR]
theorem OV {B:List (Int×Int)}{L:List Int}{v:Int}{p:Int×Int}(h:p∈B0 B L v):p.1∈L/\p.2∈L/\p.1≠p.2:=by
 unfold B0 at h
 obtain⟨u,hu,h⟩:=List.mem_flatMap.mp h
 obtain⟨w,hw,rfl⟩:=zE.mp h
 have h1:=za2.mp hw
 have h2:=za2.mp h1.1
 have h3:=za2.mp hu
 simp at h1
 exact⟨h3.1,h2.1,h1.2.1⟩
noncomputable def Cn (B ps:List (Int×Int)):List (Int×Int):=ps.foldl KI B
structure Cp (m:Nat) (B:List (Int×Int)):Prop where
 nd:B.Nodup
 no:lR B
 vE:∀ p∈B,(0<=p.1/\p.1 < m)/\(0<=p.2/\p.2 < m)
theorem Cp.add {m:Nat}{B:List (Int×Int)}(h:Cp m B){p:Int×Int}(hp:p.1≠p.2) (h1:0<=p.1/\p.1 < m) (h2:0<=p.2/\p.2 < m):Cp m (KI B p):=by
 refine⟨Tv h.nd,fun x hx=>?_,fun q hq=>?_⟩
 ·rcases RI.mp hx with z|z
  ·exact h.no x z
  ·subst z;exact hp rfl
 ·rcases RI.mp hq with z|z
  ·exact h.vE q z
  ·subst z;exact⟨h1,h2⟩
theorem Cp.Cn {m:Nat}{B:List (Int×Int)}(h:Cp m B):∀ {ps:List (Int×Int)},(∀ p∈ps,p.1≠p.2/\(0<=p.1/\p.1 < m)/\(0<=p.2/\p.2 < m))->Cp m (L2.Cn B ps):=by
 intro ps
 induction ps generalizing B with
 |nil=>intro _;exact h
 |cons p r ih =>
  intro hp
  have:=hp p ze
  exact ih (h.add this.1 this.2.1 this.2.2) fun q hq=>hp q (zf _ hq)
theorem Cp.len {m:Nat}{B:List (Int×Int)}(h:Cp m B) (hm:m<=20):B.length < 1000:=by
 have key:=KJ (l:=B) (u:=(za3 m).flatMap fun i:Nat=>(za3 m).map fun j:Nat=>((i:Int),(j:Int))) h.nd fun p hp=>by
  obtain⟨h1,h2⟩:=h.vE p hp
  refine List.mem_flatMap.mpr ⟨p.1.toNat,List.mem_range.mpr (by omega),zE.mpr ⟨p.2.toNat,List.mem_range.mpr (by omega),?_⟩⟩
  rw[Int.toNat_of_nonneg h1.1,Int.toNat_of_nonneg h2.1]
 have e:((za3 m).flatMap fun i:Nat=>(za3 m).map fun j:Nat=>((i:Int),(j:Int))).length=m * m:=by
  rw[List.length_flatMap]
  simp[List.map_const',List.sum_replicate_nat]
 rw[e] at key
 have:m * m<=20 * 20:=Nat.mul_le_mul hm hm
 omega
theorem F1 (a b c d:Int):HT.lexLt [a,b] [c,d]=decide (a < c\/(a=c/\b < d)):=by
 rw[HT.Fv,HT.Fv,HT.EV,zar]
 by_cases h1:a=c
 ·subst h1
  by_cases h2:b=d
  ·subst h2;simp
  ·simp[h2]
 ·simp[h1]
theorem Wh {α β:Type}(f:α->β):∀ bs:List (α×List Int),AX (bs.map fun b=>(f b.1,b.2))=(AX bs).map fun b=>(f b.1,b.2):=by
 intro bs
 unfold AX
 suffices z:∀ o:Option (α×List Int),(bs.map fun b=>(f b.1,b.2)).foldl BJ (o.map fun b=>(f b.1,b.2))=(bs.foldl BJ o).map fun b=>(f b.1,b.2) from z none
 induction bs with
 |nil=>intro o;rfl
 |cons b r ih =>
  intro o
  rw[zg,zV,zV,<-ih]
  congr 1
  cases o with
  |none=>rfl
  |some c =>
   unfold BJ
   dsimp only [zaf]
   split<;>rfl
theorem Ys {α:Type}:∀(bs:List (α×List Int)) (o:Option (α×List Int)) (b:α×List Int),bs.foldl BJ o=some b->b∈bs\/o=some b:=by
 intro bs
 induction bs with
 |nil=>intro o b h;exact .inr h
 |cons x r ih =>
  intro o b h
  rw[zV] at h
  rcases ih _ _ h with q|q
  ·exact .inl (zf _ q)
  ·cases o with
   |none=>cases q;exact .inl ze
   |some c =>
    unfold BJ at q
    dsimp only at q
    split at q
    ·cases q;exact .inl ze
    ·exact .inr q
theorem Wi {α:Type}{bs:List (α×List Int)}(h2:∀ b∈bs,∃ x y:Int,b.2=[x,y]){b:α×List Int}(hb:AX bs=some b):∀ c∈bs,HT.lexLt c.2 b.2=false:=by
 unfold AX at hb
 suffices z:∀(bs:List (α×List Int)) (o:Option (α×List Int)),(∀ b∈bs,∃ x y:Int,b.2=[x,y])->(∀ b,o=some b->∃ x y:Int,b.2=[x,y])->∀ b,bs.foldl BJ o=some b->(∀ c∈bs,HT.lexLt c.2 b.2=false)/\(∀ c,o=some c->HT.lexLt c.2 b.2=false) from (z bs none h2 (fun b h=>by cases h) b hb).1
 intro bs
 induction bs with
 |nil =>
  intro o _ ho b h
  refine⟨fun c hc=>(by cases hc),fun c hc=>?_⟩
  have e:o=some b:=h
  rw[hc] at e
  cases e
  obtain⟨x,y,e⟩:=ho _ hc
  rw[e,F1]
  simp
 |cons d r ih =>
  intro o h2 ho b h
  rw[zV] at h
  have hd:=h2 d ze
  have aY:∀ b,BJ o d=some b->∃ x y:Int,b.2=[x,y]:=fun b hb=>by
   unfold BJ at hb
   cases o with
   |none=>cases hb;exact hd
   |some c =>
    dsimp only at hb
    split at hb
    ·cases hb;exact hd
    ·cases hb;exact ho _ rfl
  obtain⟨i1,i2⟩:=ih (BJ o d) (fun c hc=>h2 c (zf _ hc)) aY b h
  have wS:=IK o d
  obtain⟨k,hk⟩:∃ k,BJ o d=some k:=by
   cases q:BJ o d with
   |none=>exact (wS q).elim
   |some k=>exact⟨k,rfl⟩
  have wT:=i2 k hk
  obtain⟨kx,ky,ek⟩:=aY k hk
  have fb:∃ x y:Int,b.2=[x,y]:=by
   have:=Ys r (BJ o d) b h
   rcases this with z|z
   ·exact h2 b (zf _ z)
   ·exact aY b z
  obtain⟨bx,yB,eb⟩:=fb
  obtain⟨dx,dy,ed⟩:=hd
  rw[ek,eb,F1,decide_eq_false_iff_not] at wT
  have cB:HT.lexLt d.2 b.2=false/\∀ c,o=some c->HT.lexLt c.2 b.2=false:=by
   unfold BJ at hk
   cases o with
   |none =>
    cases hk
    rw[ed] at ek
    injection ek with e1 e2
    injection e2 with e2 _
    refine⟨?_,fun c hc=>by cases hc⟩
    rw[ed,eb,F1,decide_eq_false_iff_not]
    omega
   |some c =>
    obtain⟨cx,cy,ec⟩:=ho c rfl
    dsimp only at hk
    rw[ed,ec,F1] at hk
    by_cases hl:dx < cx\/(dx=cx/\dy < cy)
    ·rw[if_pos (decide_eq_true hl)] at hk
     cases hk
     rw[ed] at ek
     injection ek with e1 e2
     injection e2 with e2 _
     refine⟨?_,fun c' bP=>?_⟩
     ·rw[ed,eb,F1,decide_eq_false_iff_not];omega
     ·cases bP
      rw[ec,eb,F1,decide_eq_false_iff_not];omega
    ·rw[if_neg (by simpa using hl)] at hk
     cases hk
     rw[ec] at ek
     injection ek with e1 e2
     injection e2 with e2 _
     refine⟨?_,fun c' bP=>?_⟩
     ·rw[ed,eb,F1,decide_eq_false_iff_not];omega
     ·cases bP
      rw[ec,eb,F1,decide_eq_false_iff_not];omega
  refine⟨fun c hc=>?_,cB.2⟩
  rcases zu.mp hc with z|z
  ·rw[z];exact cB.1
  ·exact i1 c z
noncomputable def Bk (B:List (Int×Int)) (L:List Int):Int:=match AX (L.map fun p=>(p,[((B0 B L p).length:Int),p])) with
 |some k=>k.1
 |none=>0
theorem OW {B:List (Int×Int)}{L:List Int}(h:L≠[]):Bk B L∈L/\∀ p∈L,¬ (((B0 B L p).length:Int) < (B0 B L (Bk B L)).length\/(((B0 B L p).length:Int)=(B0 B L (Bk B L)).length/\p < Bk B L)):=by
 unfold Bk
 cases q:AX (L.map fun p=>(p,[((B0 B L p).length:Int),p])) with
 |none=>exact (N2 (fun z=>h (List.map_eq_nil_iff.mp z)) q).elim
 |some k =>
  obtain⟨p,hp,rfl⟩:=zE.mp (Ko _ _ q)
  refine⟨hp,fun p' je=>?_⟩
  have:=Wi (fun b hb=>by obtain⟨x,_,rfl⟩:=zE.mp hb;exact⟨_,_,rfl⟩) q _ (zE.mpr ⟨p',je,rfl⟩)
  rw[F1,decide_eq_false_iff_not] at this
  exact this
noncomputable def Sy:Nat->List (Int×Int)->List Int->List Int
 |0,_,_=>[]
 |n + 1,B,L=>if L=[] then [] else Bk B L::Sy n (Cn B (B0 B L (Bk B L))) (L.erase (Bk B L))
noncomputable def BA (rs:List Road):List (Int×Int):=rs.foldl (fun B r=>match r.l with | none=>B | some _=>KI B (r.a,r.b)) []
theorem RJ {m:Nat}:∀ {rs:List Road},(∀ r∈rs,Hu m r/\r.a≠r.b)->Cp m (BA rs):=by
 intro rs
 suffices z:∀(rs:List Road) (B:List (Int×Int)),Cp m B->(∀ r∈rs,Hu m r/\r.a≠r.b)->Cp m (rs.foldl (fun B r=>match r.l with|none=>B|some _=>KI B (r.a,r.b)) B) from fun h=>z rs [] ⟨za7,fun x h=>(by cases h),fun p h=>(by cases h)⟩ h
 intro rs
 induction rs with
 |nil=>intro B h _;exact h
 |cons r t ih =>
  intro B h hr
  rw[zV]
  refine ih _ ?_ fun r' h'=>hr r' (zf _ h')
  have:=hr r ze
  cases r.l with
  |none=>exact h
  |some l=>exact h.add this.2 ⟨this.1.a0,this.1.a1⟩ ⟨this.1.b0,this.1.b1⟩
end L2
namespace L2
open PySem PySem.Spec PyProof.Rows
noncomputable def Tw (x:Int):List Int->List Int
 |[]=>[x]
 |y::r=>if x<=y then x::y::r else y::Tw x r
noncomputable def Ga:List Int->List Int
 |[]=>[]
 |x::r=>Tw x (Ga r)
theorem KL (x:Int):∀ l:List Int,(Tw x l).Perm (x::l)
 |[]=>.refl _
 |y::r=>by
  unfold Tw
  split
  ·exact .refl _
  ·exact ((KL x r).cons y).trans (.swap x y r)
theorem Ei:∀ l:List Int,(Ga l).Perm l
 |[]=>.refl _
 |x::r=>(KL x (Ga r)).trans ((Ei r).cons x)
theorem Ld (x:Int):∀ l:List Int,l.Pairwise (·<=·)->(Tw x l).Pairwise (·<=·)
 |[],_=>by simp[Tw]
 |y::r,h=>by
  unfold Tw
  have hy:=List.pairwise_cons.mp h
  split
  ·rename_i bM
   exact List.pairwise_cons.mpr ⟨fun z hz=>by
    rcases zu.mp hz with rfl|hz
    ·exact bM
    ·exact Int.le_trans bM (hy.1 z hz),h⟩
  ·rename_i bM
   exact List.pairwise_cons.mpr ⟨fun z hz=>by
    rcases zu.mp ((KL x r).mem_iff.mp hz) with rfl|hz
    ·omega
    ·exact hy.1 z hz,Ld x r hy.2⟩
theorem FE:∀ l:List Int,(Ga l).Pairwise (·<=·)
 |[]=>.nil
 |x::r=>Ld x _ (FE r)
theorem GP:∀ {a b:List Int},a.Perm b->a.Pairwise (·<=·)->b.Pairwise (·<=·)->a=b
 |[],b,hp,_,_=>(List.nil_perm.mp hp).symm
 |x::r,[],hp,_,_=>by have:=hp.length_eq;simp at this
 |x::r,y::t,hp,ha,hb=>by
  have cC:=List.pairwise_cons.mp ha
  have aE:=List.pairwise_cons.mp hb
  have e:x=y:=by
   have h1:x∈y::t:=hp.mem_iff.mp (ze ..)
   have h2:y∈x::r:=hp.mem_iff.mpr (ze ..)
   rcases zu.mp h1 with e|h1
   ·exact e
   rcases zu.mp h2 with e|h2
   ·exact e.symm
   have:=cC.1 _ h2
   have:=aE.1 _ h1
   omega
  subst e
  rw[GP (List.Perm.cons_inv hp) cC.2 aE.2]
theorem JZ:∀ {us:List Value}{ns:List Int},IntsAre us ns->Vals (ns.map V.int) us
 |_,_,.nil=>.nil
 |_,_,.cons n t h=>.cons ⟨t,rfl⟩ (JZ h)
theorem N6 {K:za}{H:Hp}:∀ l:List Int,Ag K H (l.map V.int) (l.map D.int)
 |[]=>.nil
 |x::r=>.cons (.int _) (N6 r)
section
variable {X:Cx}{WX:Str->Hp->Prop}{c:Bool}{P0:EA}{P:Addr->Prop}{H:Hp}{σ:St}{ρ:Ab}{a b e:Expr}{f g:Ab->M D}{fn:Ab->M OT}{pos:Pos}{te:TE}
noncomputable def tS (X:Cx) (te:TE):TE:=fun σ H Q=>te σ H fun x H1=>∃ p ns,x=.ref p/\Dr X.K H1 p (List.map V.int ns)/\ns.length < 64/\∀ r,H1 r=none->Q (.ref r) (upd H1 r (.lst ((Ga ns).map V.int)))
theorem Wj {p:Pos}(hc:X.calm=true) (hg:Gl X "sorted") (hm:X.mg "sorted" = none) (he:PE X e te)
 (hv:bootBuiltins "sorted" = some (.builtin "sorted"):=by decide +kernel)
 (hs:starEach [e] X.env=[(false,eval e X.env)]:=by rfl) :
 PE X (.Call (.Name "sorted" p) [e] [] pos) (tS X te):=by
 intro pins s σ H Q I h
 refine wpAny_Call_Name_kw (E5 I hg hm hv ?_)
 refine PyProof.Rows.callWith_builtin1 ?_ hs
 rw[hs]
 refine zaz (Be (he pins s σ H _ I h) fun u s1 ⟨x,H1,I1,r1,q1⟩=>?_)
 obtain⟨q,ns,rfl,hq,wU,h⟩:=q1
 cases r1
 refine zb5 ?_
 obtain⟨aa,r',pl,hz⟩:=I1.list hq
 have hi:=intsAre_of r'
 have ph:=r'.length
 rw[zc] at ph
 refine sorted_ints pl.isList hi (by omega) fun out cL b1 b2 b3=>?_
 obtain⟨c',aH⟩:=sortedAll_at s1.heap aa out
 have e:cL=Ga ns:=GP (b2.trans (Ei ns).symm) b3 (FE ns)
 subst e
 refine⟨.ref _,_,I1.laid (t':=s1.toks) (o:=.lst ((Ga ns).map V.int)) (fun b o e=>sortedAll_old e) (Nat.le_succ _) ⟨?_,out.toList,c',JZ b1,by simpa using aH⟩,rfl,h _ (I1.Av.fresh (Nat.le_succ _))⟩
 rw[zc,(Ei ns).length_eq]
 exact yV (AH (by omega))
noncomputable def fC (d:D):M OT:=match d with
 | .lst xs=>(match CG xs with|some ns=>if ns.length < 64 then .ok (.lst (((Ga ns).map .int).map .sh)) else .bad|none=>.bad)
 |_=>.bad
theorem Wl {ns:List Int}(h:ns.length < 64):fC (.lst (ns.map .int))=.ok (.lst (((Ga ns).map .int).map .sh)):=by
 unfold fC
 dsimp only
 rw[DR]
 dsimp only
 rw[if_pos h]
theorem Wm {p:Pos}(hc:X.calm=true) (hg:Gl X "sorted") (hm:X.mg "sorted" = none) (he:DE X WX true e f)
 (hv:bootBuiltins "sorted" = some (.builtin "sorted"):=by decide +kernel)
 (hs:starEach [e] X.env=[(false,eval e X.env)]:=by rfl) :
 DN X WX (.Call (.Name "sorted" p) [e] [] pos) (fun ρ=>(f ρ).bind fC):=by
 obtain⟨te,e1,e2⟩:=he
 refine⟨_,Wj hc hg hm e1 hv hs,fun P0 P σ H Q ρ E h=>?_⟩
 refine e2 P0 P σ H _ ρ E ?_
 dsimp only at h
 cases q:f ρ with
 |bad=>rw[q] at h;exact h
 |ex x=>rw[q] at h;exact h
 |ok d =>
  rw[q] at h
  simp only[M.A7] at h
  intro v H1 s1 hv
  unfold fC at h
  split at h
  ·rename_i xs
   split at h
   ·rename_i ns eb
    have:=DU eb
    subst this
    split at h
    ·rename_i hl
     cases hv with
     |lst hs hh =>
      have:=Ec hh
      subst this
      exact⟨_,ns,rfl,hs.Bo,hl,h.KG s1 (N6 _)⟩
    ·exact h.elim
   ·exact h.elim
  ·exact h.elim
noncomputable def fD (d k:D):M OT:=match k with
 | .int j=>if 0<=j/\j.toNat<=1000 then .ok (.lst ((zw j.toNat d).map .sh)) else .bad
 |_=>.bad
theorem N7 {d:D}{n:Nat}(h:n<=1000):fD d (.int (n:Int))=.ok (.lst ((zw n d).map .sh)):=by
 unfold fD
 dsimp only
 rw[if_pos ⟨by omega,by omega⟩,zZ]
theorem Tx {da:Pos}(ha:DE X WX true a f) (hb:DE X WX true b g) (aY:starEach [a] X.env=[(false,eval a X.env)]:=by rfl) :
 DN X WX (.BinOp (.List [a] da) .Mult b pos) (fun ρ=>(f ρ).bind fun d=>(g ρ).bind fun k=>fD d k):=by
 obtain⟨ta,a1,a2⟩:=ha
 obtain⟨tb,b1,b2⟩:=hb
 refine⟨_,X6 kH (Pq (Bh a1 Cj aY)) b1,fun P0 P σ H Q ρ E h=>?_⟩
 dsimp only at h
 refine a2 P0 P σ H _ ρ E ?_
 cases q:f ρ with
 |bad=>rw[q] at h;exact h
 |ex x=>rw[q] at h;exact h
 |ok d =>
  rw[q] at h
  simp only[M.A7] at h
  intro v H1 s1 hv
  have E1:=E.same s1
  refine⟨yV (AH (by simp)),fun p hp=>?_⟩
  have s2:Ad H1 (upd H1 p (.lst [v])):=AN hp _
  have E2:=E1.same s2
  refine b2 P0 P σ _ _ ρ E2 ?_
  cases q2:g ρ with
  |bad=>rw[q2] at h;exact h
  |ex x=>rw[q2] at h;exact fun H' s3=>h H' ((s1.trans s2).trans s3)
  |ok k =>
   rw[q2] at h
   simp only[M.A7] at h
   unfold fD at h
   intro w H3 s3 hw
   cases k with
   |int j =>
    dsimp only at h
    by_cases hj:0<=j/\j.toNat<=1000
    ·rw[if_pos hj] at h
     cases hw
     refine⟨p,j,[v],rfl,rfl,s3 _ _ Ar,by omega,by omega,yV (AH (by simp;omega)),?_⟩
     rw[OI]
     exact h.KG ((s1.trans s2).trans s3) (Rh ((hv.mono s2.del).mono s3.del) j.toNat)
    ·rw[if_neg hj] at h;exact h.elim
   |_=>exact h.elim
end
end L2
namespace L2
theorem Fj {f:Int->Int->M D}{a b:Int}:Bw f (.int a) (.int b)=f a b:=rfl
theorem K0 {bs:List Bool}:XS [.lst (bs.map D.bl)]=.ok (.bl (bs.all id)):=by unfold XS;dsimp only;rw[MJ]
theorem K1 {bs:List Bool}:pZ [.lst (bs.map D.bl)]=.ok (.bl (bs.any id)):=by unfold pZ;dsimp only;rw[MJ]
theorem fE {a b:List D}(h:a.length + b.length<=1000):Ru (.lst a) (.lst b)=.ok (.lst ((a++b).map .sh)):=if_pos h
noncomputable def Kk (d:D) (n:Int):Bool:=match d with
 | .int j=>decide (0<=j) && decide (j < n)
 |_=>false
noncomputable def EH (m:Nat):D->Bool
 | .lst xs=>(match CG xs with|some ns=>decide (Ga ns=AU m)|none=>false)
 |_=>false
noncomputable def qN (d:D):Prop:=Ut d=false/\∀ xs,d=.lst xs->xs.length<=1000/\∀ e∈xs,Ut e=false
theorem RK (m:Nat):(AU m).Pairwise (·<=·):=by
 unfold AU
 rw[List.pairwise_map]
 exact (List.pairwise_lt_range (n:=m)).imp fun h=>by omega
theorem N8 (m:Nat):(AU m).Nodup:=by
 unfold AU List.Nodup
 rw[List.pairwise_map]
 exact (List.pairwise_lt_range (n:=m)).imp fun h=>by omega
theorem OX {m:Nat}{L:List Int}:Ga L=AU m↔L.Perm (AU m) :=
 ⟨fun h=>by rw[<-h];exact (Ei L).symm,fun h=>GP ((Ei L).trans h) (FE L) (RK m)⟩
theorem N9 {m:Nat}{L:List Int}:EH m (.lst (L.map D.int))=decide (Ga L=AU m):=by unfold EH;dsimp only;rw[DR]
theorem Tz {m:Nat}{L:List Int}(h:L.Perm (AU m)):EH m (.lst (L.map D.int))=true:=by rw[N9];exact decide_eq_true (OX.mpr h)
theorem Wn {m:Nat}{xs:List D}(h:EH m (.lst xs)=true):∃ L:List Int,xs=L.map D.int/\L.Perm (AU m):=by
 unfold EH at h
 dsimp only at h
 split at h
 ·rename_i ns e
  exact⟨ns,DU e,OX.mp (of_decide_eq_true h)⟩
 ·cases h
theorem GQ {m:Nat}{L:List Int}(h:L.Perm (AU m)):L.length=m:=by rw[h.length_eq,Fi]
theorem B4 {m:Nat}{L:List Int}(h:L.Perm (AU m)){p:Int}:p∈L↔0<=p/\p < m:=by rw[h.mem_iff,JY]
theorem IM {m:Nat}{L:List Int}(h:L.Perm (AU m)):L.Nodup:=h.nodup_iff.mpr (N8 m)
theorem RL {m:Nat}{xs:List D}(h:EH m (.lst xs)=true):xs.length=m/\(xs.map fun e=>Kk e m).all id=true:=by
 obtain⟨L,rfl,hp⟩:=Wn h
 refine⟨by rw[zc,GQ hp],?_⟩
 rw[zbh]
 intro b hb
 rw[yM] at hb
 obtain⟨j,hj,rfl⟩:=zE.mp hb
 have:=(B4 hp).mp hj
 show (decide (0<=j) && decide (j < m))=true
 simp only[zS,decide_eq_true_eq]
 exact this
theorem V8 {m:Nat}:∀ {xs:List D},(xs.map fun e=>Kk e m).all id=true->∃ L:List Int,xs=L.map D.int
 |[],_=>⟨[],rfl⟩
 |d::r,h=>by
  rw[zg,List.all_cons,zS] at h
  obtain⟨L,rfl⟩:=V8 h.2
  cases d with
  |int j=>exact⟨j::L,rfl⟩
  |_=>exact absurd h.1 (by simp[Kk])
theorem OY:∀ {a b:List Int},Cy (a.map D.int) (b.map D.int)=decide (a=b)
 |[],[]=>by simp[Cy]
 |[],y::t=>by simp[Cy]
 |x::r,[]=>by simp[Cy]
 |x::r,y::t=>by
  rw[zg,zg,Cy,OY,Aw]
  by_cases h:x=y<;>by_cases k:r=t<;>simp[h,k]
theorem Yt {a b:List Int}:Aw (.lst (a.map D.int)) (.lst (b.map D.int))=decide (a=b):=by rw[Aw];exact OY
theorem Yu {a b:List Int}:cQ 16 (.lst (a.map D.int)) (.lst (b.map D.int))=.ok (.bl (decide (a=b))):=by rw[Tg (UB (n:=15) a) (UB (n:=15) b),Yt]
theorem Wo {i:Nat}{L:List Int}(h:L.Perm (AU i)) (n:Nat):(L.take n++(i:Int)::L.drop n).Perm (AU (i + 1)):=by
 have e:AU (i + 1)=AU i++[(i:Int)]:=by unfold AU;rw[List.range_succ,zN];rfl
 rw[e]
 refine List.perm_middle.trans ?_
 rw[za8]
 exact ((h.cons _).trans (List.perm_append_singleton _ _).symm)
theorem fF {m:Nat}{xs:List D}(h:xs.length≠m):EH m (.lst xs)=false:=by
 cases q:EH m (.lst xs) with
 |false=>rfl
 |true=>exact (h (RL q).1).elim
end L2
namespace L2
theorem HP {i:Nat}{ρ:Ab}{ds:List D}{d:D}{p:Int}(hi:ρ[i]? =some (some (.own ds))) (h0:0<=p) (h1:p < ds.length):dC i ρ (.ok (.int p)) d=.ok (.next (ρ.set i (some (.own (ds.set p.toNat d))))):=by
 unfold dC
 rw[hi]
 dsimp only
 rw[M.A7]
 unfold kY
 dsimp only
 rw[LN ⟨h0,h1⟩]
end L2
namespace L2
theorem fG {ρ:Ab}:Yc 0 (none::ρ)=none::ρ:=rfl
end L2
namespace L2
theorem Yv:∃ T Q:Int,VL (.int 10) (.int 60)=.ok (.int T)/\VL (.int 982451653) (.int 7)=.ok (.int Q)/\1000000 < T/\T.natAbs < 2 ^ 200/\0 < Q/\Q.natAbs < 2 ^ 250:=⟨10 ^ 60,982451653 ^ 7,rfl,rfl,by decide,by decide,by decide,by decide⟩
noncomputable def Le:Int:=zj Yv
theorem iH:∃ Q:Int,VL (.int 10) (.int 60)=.ok (.int Le)/\VL (.int 982451653) (.int 7)=.ok (.int Q)/\1000000 < Le/\Le.natAbs < 2 ^ 200/\0 < Q/\Q.natAbs < 2 ^ 250:=zb Yv
theorem iI:VL (.int 10) (.int 60)=.ok (.int Le):=(zb iH).1
theorem Q2:1000000 < Le:=(zb iH).2.2.1
theorem fH {i:Int}:EB (.int i) (.int Le)=.ok (.int (i % Le)):=AS (by have:=Q2;omega)
noncomputable def cl:Nat->D->Prop
 |0,d=>Ut d=false
 |n + 1,d=>Ut d=false/\∀ ds,(d=.tup ds\/d=.lst ds)->∀ e∈ds,cl n e
theorem cl.x {n:Nat}{d:D}(h:cl n d):Ut d=false:=by cases n with | zero=>exact h | succ n=>exact h.1
theorem Yw {n:Nat}{ds:List D}(h:∀ e∈ds,cl n e):cl (n + 1) (.tup ds):=⟨rfl,fun es e x hx=>by rcases e with e | e<;>cases e;exact h x hx⟩
theorem lS {n:Nat}{ds:List D}(h:∀ e∈ds,cl n e):cl (n + 1) (.lst ds):=⟨rfl,fun es e x hx=>by rcases e with e | e<;>cases e;exact h x hx⟩
theorem V9 {n:Nat}{d:D}(h:Ut d=false) (h2:∀ ds,d≠.tup ds) (h3:∀ ds,d≠.lst ds):cl n d:=by
 cases n with
 |zero=>exact h
 |succ n=>exact⟨h,fun ds e=>by rcases e with e|e;exact (h2 ds e).elim;exact (h3 ds e).elim⟩
theorem Na {n:Nat}{i:Int}:cl n (.int i):=V9 rfl (fun _ h=>by cases h) (fun _ h=>by cases h)
theorem lT {n:Nat}:cl n .AA:=V9 rfl (fun _ h=>by cases h) (fun _ h=>by cases h)
theorem lU {n:Nat}{l:Option Int}:cl n (GH l):=by cases l;exact lT;exact Na
theorem Yx {n:Nat}:∀ e∈([]:List D),cl n e:=fun e h=>by cases h
theorem HQ {n:Nat}{d:D}{ds:List D}(h:cl n d) (t:∀ e∈ds,cl n e):∀ e∈d::ds,cl n e:=fun e he=>by
 rcases zu.mp he with rfl|he
 ·exact h
 ·exact t e he
theorem qO {n:Nat}{r:Road}:cl (n + 1) (BI r):=Yw (HQ Na (HQ Na (HQ lU (HQ Na Yx))))
theorem lV {n:Nat}{rs:List Road}:∀ e∈rs.map BI,cl (n + 1) e:=fun e he=>by
 obtain⟨r,_,rfl⟩:=zE.mp he
 exact qO
noncomputable def F2 (m:Int):D->Bool
 | .tup [a,b,l,w]=>Kk a m && (Kk b m && (!Aw a b && ((Cz l || Kk l Le) && Kk w Le)))
 |_=>false
noncomputable def Dz:D->Bool
 | .tup [.int m,.lst rs]=>(Kk (.int m) 17 && !decide (m=0)) && (decide (rs.length<=60) && (rs.map (F2 m)).all id)
 |_=>false
theorem Wq {n:D}:Dz (.tup [n])=false:=by cases n<;>rfl
theorem TB {n r z:D}{t:List D}:Dz (.tup (n::r::z::t))=false:=by cases n<;>cases r<;>rfl
structure Nb (m:Nat) (r:Road):Prop where
 a0:0<=r.a
 a1:r.a < m
 b0:0<=r.b
 b1:r.b < m
 ab:r.a≠r.b
 l0:∀ l,r.l=some l->0<=l/\l < Le
 w0:0<=r.w
 w1:r.w < Le
theorem K2 {i n:Int}(h0:0<=i) (h1:i < n):Kk (.int i) n=true:=by unfold Kk;simp[h0,h1]
theorem Wr {m:Nat}{r:Road}(h:Nb m r):F2 m (BI r)=true:=by
 unfold BI F2
 dsimp only
 rw[K2 h.a0 h.a1,K2 h.b0 h.b1,K2 h.w0 h.w1]
 have:Aw (.int r.a) (.int r.b)=false:=by rw[Aw];simp[h.ab]
 rw[this]
 cases hl:r.l with
 |none=>rfl
 |some l=>have:=h.l0 l hl;rw[show GH (some l)=.int l from rfl,K2 this.1 this.2];rfl
theorem Yy {m:Nat}{rs:List Road}(h1:1<=m) (h2:m<=16) (hl:rs.length<=60) (h:∀ r∈rs,Nb m r):Dz (As m rs)=true:=by
 unfold As Dz
 dsimp only
 rw[K2 (by omega) (by omega),zc,decide_eq_true hl,decide_eq_false (by omega)]
 have:(((rs.map BI).map (F2 m)).all id)=true:=by
  rw[zbh]
  intro b hb
  rw[yM] at hb
  obtain⟨r,hr,rfl⟩:=zE.mp hb
  exact Wr (h r hr)
 rw[this];rfl
end L2
namespace L2
theorem Yz {S:List D}{q:Int}(h:0 < S.length) (h0:0<=q):EB (.int q) (.int (S.length:Int))=.ok (.int (q % S.length))/\∃ y,y∈S/\B5 (.lst S) (.int (q % (S.length:Int)))=.ok y:=by
 have bW:(0:Int) < (S.length:Int):=by omega
 have b0:0<=q % (S.length:Int):=zat _ (by omega)
 have b1:q % (S.length:Int) < S.length:=zak _ bW
 refine⟨AS bW,S[(q % (S.length:Int)).toNat]'(by omega),List.getElem_mem _,?_⟩
 have:=Jk (f:=fun d:D=>d) (l:=S) b0 (zt (by omega))
 rw[List.map_id'] at this
 exact this
end L2
namespace L2
theorem fI {a b:OT}:er (.tup [a,b])=.tup [er a,er b]:=by simp[er,Up]
end L2
namespace L2
section
variable {α β:Type}{a b c d e f g:α}{x y:β}
theorem fJ:(if [a,b,c,d,e].length<=1000 then x else y)=x:=rfl
theorem fK:(if [a,b,c,d,e,f].length<=1000 then x else y)=x:=rfl
theorem fL:(if [a,b,c,d,e,f,g].length<=1000 then x else y)=x:=rfl
theorem Ma {t:Bool}:er (.Bi t [] [])=.Bi t [] []:=by simp[er,Up]
end
end L2
namespace L2
open PySem PySem.Spec PyProof.Rows
noncomputable def fM (f:Str):List Str->List D->Option D
 |n::ns,d::ds=>if f == n then some d else fM f ns ds
 |_,_=>none
theorem RM {K:za}{H:Hp}{f:Str}:∀ {fs:List (Str×V)}{ds:List D}{d:D},Ag K H (fs.map za5) ds->fM f (fs.map zP) ds=some d->∃ v,fs.lookup f=some v/\BK K H v d
 |[],ds,d,_,h=>by simp[fM] at h
 |(n,v)::fs,_,d,.cons hv ht,h=>by
  rw[zg,fM] at h
  rw[zaw]
  cases q:f == n with
  |true=>rw[q,if_pos rfl] at h;cases h;exact⟨v,rfl,hv⟩
  |false=>rw[q,if_neg (by simp)] at h;exact RM ht h
theorem Nc {K:za}{H:Hp}{f:Str}:∀ {fs:List (Str×V)}{ds:List D},Ag K H (fs.map za5) ds->fM f (fs.map zP) ds=none->fs.lookup f=none
 |[],ds,_,h=>rfl
 |(n,v)::fs,_,.cons hv ht,h=>by
  rw[zg,fM] at h
  rw[zaw]
  cases q:f == n with
  |true=>rw[q,if_pos rfl] at h;cases h
  |false=>rw[q,if_neg (by simp)] at h;exact Nc ht h
structure Ig (K:za) (x f:Str):Prop where
 ex:∃ C,zd K mainGlobals x=some (some (.ref C))/\Vz K C/\Ip K C f
noncomputable def O2 (cs:List Str) (f:Str) (d:D):M D:=match d with
 | .ins x ns ds=>if x∈cs then (match fM f ns ds with|some e=>.ok e|none=>.bad) else .bad
 |_=>.bad
section
variable {X:Cx}{E:XK}{WX:Str->Hp->Prop}{c:Bool}{P0:EA}{P:Addr->Prop}{H:Hp}{σ:St}{ρ:Ab}{a b e:Expr}{es:List Expr}{f g:Ab->M D}{fs:Ab->M (List D)}{fn:Ab->M OT}{pos:Pos}{te:TE}
theorem F3 (cs:List Str){fl:Str}(pi:∀ x∈cs,Ig X.K x fl) (ha:DE X WX c a f) (hb:attributeBase a fl X.env (eval a X.env)=eval a X.env:=by rfl):DE X WX c (.Attribute a fl pos) (fun ρ=>(f ρ).bind (O2 cs fl)):=by
 obtain⟨ta,a1,a2⟩:=ha
 refine⟨_,jU a1 hb,fun P0 P σ H Q ρ E h=>?_⟩
 dsimp only at h
 refine a2 P0 P σ H _ ρ E ?_
 cases e:f ρ with
 |bad=>rw[e] at h;exact h
 |ex x=>rw[e] at h;exact h
 |ok d =>
  rw[e] at h
  simp only[M.A7] at h
  intro v H1 s1 hv
  unfold O2 at h
  split at h
  ·rename_i x ns ds
   split at h
   ·rename_i hx
    split at h
    ·rename_i d' el
     cases hv with
     |ins hn ha hl =>
      obtain⟨C,bV,hc,d5⟩:=(pi x hx).ex
      rw[hn] at bV
      cases bV
      obtain⟨v',l1,l2⟩:=RM hl el
      exact⟨_,_,_,_,v',rfl,(Al ha).2,hc,d5,l1,h v' H1 s1 l2⟩
    ·exact h.elim
   ·exact h.elim
  ·exact h.elim
structure Ih (K:za) (x m qual:Str) (st:Stmt) (ps:List Str):Prop where
 ex:∃ C f fd,zd K mainGlobals x=some (some (.ref C))/\Vz K C/\Meth K C m f/\WL K m qual st f fd/\Binds K fd ps []
structure IP (P:Program) (w:World) (K:za) (mg:Str->Option Value) (base:Heap) (x m:Str) (k n:Nat) (F:List D->M OT):Prop where
 ex:∃ C fa fd ps,zd K mainGlobals x=some (some (.ref C))/\Vz K C/\Meth K C m fa/\Ds P w K mg base (Tf P w base) k fa fd ps (spT K n F)/\Binds K fd ps []
theorem Mb {P:Program}{w:World}{K:za}{mg:Str->Option Value}{base:Heap}{x m qual:Str}{st:Stmt}{N ps:List Str}{k n:Nat}(T:Ih K x m qual st ps) (S:Ae N ps (A3 st)) (g:Ab->M Out)
 (hb:∀(f:Addr) (B1:Value) (A:Around) (outer:List Env) (s:Shared) (H:Hp) (E:XK),BH k (A.deeper (envOfC qual (A3 st) s.heap.objs.size f B1))->Sw (UA P w K mg base N qual (A3 st) f B1 A outer s H E) (D5 K E) (AD st) g) (hn:ps.length=n:=by rfl) :
 IP P w K mg base x m (k + 1) n (fun ds=>Y9 (g (AI N ds))):=by
 obtain⟨C,f,fd,h1,h2,h3,F,hB⟩:=T.ex
 subst hn
 exact⟨⟨C,f,fd,ps,h1,h2,h3,qE F S g (hb f),hB⟩⟩
noncomputable def rR (x:Str):List (Str×(List D->M OT))->Option (List D->M OT)
 |[]=>none
 |(y,F)::r=>if x=y then some F else rR x r
theorem Va {x:Str}{F:List D->M OT}:∀ {ms:List (Str×(List D->M OT))},rR x ms=some F->(x,F)∈ms
 |[],h=>by cases h
 |(y,G)::r,h=>by
  unfold rR at h
  split at h
  ·rename_i e;cases h;subst e;exact ze
  ·exact zf _ (Va h)
noncomputable def IQ (ms:List (Str×(List D->M OT))) (m:Str) (d:D):M (List D->M OT):=match d with
 | .ins x ns es=>(match rR x ms with
  |some F=>(match fM m ns es with|none=>.ok F|some _=>.bad)
  |none=>.bad)
 |_=>.bad
theorem RN {ms:List (Str×(List D->M OT))}{m:Str}{d:D}{F:List D->M OT}(h:IQ ms m d=.ok F):∃ x ns es,d=.ins x ns es/\(x,F)∈ms/\fM m ns es=none:=by
 unfold IQ at h
 split at h
 ·rename_i x ns es
  split at h
  ·rename_i G e
   split at h
   ·rename_i e2;cases h;exact⟨x,ns,es,rfl,Va e,e2⟩
   ·cases h
  ·cases h
 ·cases h
theorem OZ {ms:List (Str×(List D->M OT))}{m:Str}{d:D}{x:Str}:IQ ms m d≠.ex x:=fun h=>by
 unfold IQ at h
 split at h
 ·split at h
  ·split at h<;>cases h
  ·cases h
 ·cases h
noncomputable def YA (X:Cx) (m:Str) (k:Nat) (E:XK) (ta:TE) (t:TA):TE:=fun σ H Q=>ta σ H fun x H1=>∃ a C dx fs f fd ps n F,x=.ref a/\H1 a=some (.ins C dx fs)/\fs.lookup m=none/\Vz X.K C/\Meth X.K C m f/\Ds X.prog X.w X.K X.mg X.base (Tf X.prog X.w X.base) k f fd ps (spT X.K n F)/\Binds X.K fd ps [] /\
 t σ H1 fun vs H2=>spT X.K n F (x::vs) H2 Q E
theorem YB {pl:Sem Bool}{o:Expr}{m:Str}{k:Nat}{ta:TE}{t:TA}{apos:Pos}(he:PE X o ta) (hr:BH k X.A) (hx:Gv (Tf X.prog X.w X.base) X E) (ha:PA X (e::es) t)
 (aY:starEach (e::es) X.env=(false,eval e X.env)::starEach es X.env:=by rfl) (a6:(backTo pos (starEach es X.env)).any (·.1)=false:=by rfl)
 (ht:eval (.Call (.Attribute o m apos) (e::es) [] pos) X.env=(do
  let ov <-eval o X.env
  standAt apos.atName
  let (f,first) <-holding [ov] (getMethod ov m pl)
  callWith pos f first (backTo pos (starEach (e::es) X.env)) (backToKw pos (keywordEach [] X.env))):=by rfl) :
 PE X (.Call (.Attribute o m apos) (e::es) [] pos) (YA X m k E ta t):=by
 intro pins s σ H Q I h
 refine PySem.W.methodCall_KW (pl:=pl) (Be (he pins s σ H _ I h) fun u s1 ⟨x,H1,I1,rx,a,C,dx,fs,f,fd,ps,n,F,ex,ea,l,c,hm,hF,hb,q⟩=>?_) ht
 subst ex
 obtain rfl:u=yN a:=rx
 refine Mn I1 ea c hm l ?_
 refine PySem.W.callWith_K (first:=[.ref a]) (h₀:=X.base) I.ok.mod.WJ hm.kp (Be (ha pos pins s1 σ H1 _ I1 q) fun us s2 ⟨vs,H2,I2,r,q2⟩=>⟨I2.NQ,?_⟩) aY a6
 exact SQ (us:=.ref a::us) (vs:=.ref a::vs) hF hr hb .nil hx I2 (.cons rfl r) (by rw[yW];exact q2)
theorem Ws {pl:Sem Bool}{o:Expr}{m:Str}{k:Nat}{ta:TE}{apos:Pos}(he:PE X o ta) (hr:BH k X.A) (hx:Gv (Tf X.prog X.w X.base) X E)
 (ht:eval (.Call (.Attribute o m apos) [] [] pos) X.env=(do
  let ov <-eval o X.env
  standAt apos.atName
  let (f,first) <-holding [ov] (getMethod ov m pl)
  callWith pos f first (backTo pos (starEach [] X.env)) (backToKw pos (keywordEach [] X.env))):=by rfl) :
 PE X (.Call (.Attribute o m apos) [] [] pos) (YA X m k E ta jW):=by
 intro pins s σ H Q I h
 refine PySem.W.methodCall_KW (pl:=pl) (Be (he pins s σ H _ I h) fun u s1 ⟨x,H1,I1,rx,a,C,dx,fs,f,fd,ps,n,F,ex,ea,l,c,hm,hF,hb,q⟩=>?_) ht
 subst ex
 obtain rfl:u=yN a:=rx
 refine Mn I1 ea c hm l ?_
 exact PySem.W.callWith_K0 (first:=[.ref a]) I1.NQ hm.kp (SQ (us:=[.ref a]) (vs:=[.ref a]) hF hr hb .nil hx I1 (.cons rfl .nil) q)
theorem Vb {P:Program}{w:World}{K:za}{mg:Str->Option Value}{base:Heap}{CX:Ud}{k k':Nat}{f:Addr}{fd:FuncData}{ps:List Str}{sp:Sp}(h:k<=k') (F:Ds P w K mg base CX k f fd ps sp):Ds P w K mg base CX k' f fd ps sp :=
 ⟨F.len,fun A stack s H args us vs Q E hr=>F.run A stack s H args us vs Q E (hr.mono h)⟩
theorem Q3 {o:Expr}{fo:Ab->M D}{m:Str}{k n:Nat}{apos:Pos}{pl:Sem Bool}(ms:List (Str×(List D->M OT))) (xo:XCall X E) (pk:∀ p∈ms,∃ k',k'<=k/\IP X.prog X.w X.K X.mg X.base p.1 m k' n p.2) (hr:BH k X.A) (ho:DE X (D5 X.K E) true o fo) (ha:DA X (D5 X.K E) true (e::es) fs) (cD:(e::es).length + 1=n)
 (aY:starEach (e::es) X.env=(false,eval e X.env)::starEach es X.env:=by rfl) (a6:(backTo pos (starEach es X.env)).any (·.1)=false:=by rfl)
 (ht:eval (.Call (.Attribute o m apos) (e::es) [] pos) X.env=(do
  let ov <-eval o X.env
  standAt apos.atName
  let (f,first) <-holding [ov] (getMethod ov m pl)
  callWith pos f first (backTo pos (starEach (e::es) X.env)) (backToKw pos (keywordEach [] X.env))):=by rfl) :
 DN X (D5 X.K E) (.Call (.Attribute o m apos) (e::es) [] pos) (fun ρ=>(fo ρ).bind fun d=>(IQ ms m d).bind fun F=>(fs ρ).bind fun ds=>F (d::ds)):=by
 obtain⟨ta,a1,a2⟩:=ho
 obtain⟨tb,b1,b2,b3⟩:=ha
 refine⟨_,YB (pl:=pl) a1 hr xo.call b1 aY a6 ht,fun P0 P σ H Q ρ Ev h=>?_⟩
 dsimp only at h
 refine a2 P0 P σ H _ ρ Ev ?_
 cases q:fo ρ with
 |bad=>rw[q] at h;exact h
 |ex x=>rw[q] at h;exact h
 |ok d =>
  rw[q] at h
  simp only[M.A7] at h
  intro v H1 s1 hv
  cases q2:IQ ms m d with
  |bad=>rw[q2] at h;exact h.elim
  |ex y=>exact (OZ q2).elim
  |ok F =>
   rw[q2] at h
   simp only[M.A7] at h
   obtain⟨x,ns,wV,rfl,be,pq⟩:=RN q2
   obtain⟨k',fm,M0⟩:=pk _ be
   obtain⟨C,fa,fd,ps,h1,h2,h3,h4,h5⟩:=M0.ex
   cases hv with
   |ins hn hH hl =>
    rw[hn] at h1
    cases h1
    refine⟨_,_,_,_,fa,fd,ps,n,F,rfl,(Al hH).2,Nc hl pq,h2,h3,Vb fm h4,h5,?_⟩
    refine b2 P0 P σ H1 _ ρ (Ev.same s1) ?_
    cases q3:fs ρ with
    |bad=>rw[q3] at h;exact h
    |ex y=>rw[q3] at h;exact fun H' s=>h H' (s1.trans s)
    |ok ds =>
     rw[q3] at h
     simp only[M.A7] at h
     intro vs H2 s2 aI
     have ju:=(BK.ins hn hH hl).mono s2.del
     exact⟨by rw[zp,aI.length,b3 ρ ds q3];exact cD,P,_,((Ev.same s1).same s2).Cq,.cons ju aI,h.same (s1.trans s2)⟩
theorem K3 {o:Expr}{fo:Ab->M D}{m:Str}{k:Nat}{apos:Pos}{pl:Sem Bool}(ms:List (Str×(List D->M OT))) (xo:XCall X E) (pk:∀ p∈ms,∃ k',k'<=k/\IP X.prog X.w X.K X.mg X.base p.1 m k' 1 p.2) (hr:BH k X.A) (ho:DE X (D5 X.K E) true o fo)
 (ht:eval (.Call (.Attribute o m apos) [] [] pos) X.env=(do
  let ov <-eval o X.env
  standAt apos.atName
  let (f,first) <-holding [ov] (getMethod ov m pl)
  callWith pos f first (backTo pos (starEach [] X.env)) (backToKw pos (keywordEach [] X.env))):=by rfl) :
 DN X (D5 X.K E) (.Call (.Attribute o m apos) [] [] pos) (fun ρ=>(fo ρ).bind fun d=>(IQ ms m d).bind fun F=>F [d]):=by
 obtain⟨ta,a1,a2⟩:=ho
 refine⟨_,Ws (pl:=pl) a1 hr xo.call ht,fun P0 P σ H Q ρ Ev h=>?_⟩
 dsimp only at h
 refine a2 P0 P σ H _ ρ Ev ?_
 cases q:fo ρ with
 |bad=>rw[q] at h;exact h
 |ex x=>rw[q] at h;exact h
 |ok d =>
  rw[q] at h
  simp only[M.A7] at h
  intro v H1 s1 hv
  cases q2:IQ ms m d with
  |bad=>rw[q2] at h;exact h.elim
  |ex y=>exact (OZ q2).elim
  |ok F =>
   rw[q2] at h
   simp only[M.A7] at h
   obtain⟨x,ns,wV,rfl,be,pq⟩:=RN q2
   obtain⟨k',fm,M0⟩:=pk _ be
   obtain⟨C,fa,fd,ps,h1,h2,h3,h4,h5⟩:=M0.ex
   cases hv with
   |ins hn hH hl =>
    rw[hn] at h1
    cases h1
    refine⟨_,_,_,_,fa,fd,ps,1,F,rfl,(Al hH).2,Nc hl pq,h2,h3,Vb fm h4,h5,?_⟩
    exact⟨rfl,P,_,(Ev.same s1).Cq,.cons (BK.ins hn hH hl) .nil,h.same s1⟩
end
end L2
namespace L2
open PySem PySem.Spec PyProof.Rows
section
variable {X:Cx}{E:XK}{WX:Str->Hp->Prop}{c:Bool}{P0:EA}{P:Addr->Prop}{H:Hp}{σ:St}{ρ:Ab}{a b e:Expr}{es:List Expr}{f g:Ab->M D}{fs:Ab->M (List D)}{fn:Ab->M OT}{pos:Pos}{te:TE}
structure lW (K:za) (mg:Str->Option Value) (x:Str) (C:Addr):Prop where
 ns:zd K mainGlobals x=some (some (.ref C))
 vF:mg x=some (.ref C)
theorem P5 {p dx C:Addr}(hp:H p=none) (hd:H dx=none):Ad H (upd (upd H dx (.own p)) p (.ins C dx [])):=fun b u q=>by
 rw[Ah (Az q hp),Ah (Az q hd)]
 exact q
structure qP (P:Program) (w:World) (K:za) (mg:Str->Option Value) (base:Heap) (x:Str) (k n:Nat) (F:OT->List D->M (OT×OT)):Prop where
 ex:∃ C fa fd ps,lW K mg x C/\Mk K C fa/\Ds P w K mg base (Tf P w base) k fa fd ps (OP K n F)/\Binds K fd ps []
noncomputable def P6 (m:M (OT×OT)):M OT:=match m with
 | .ok (t,.sh .AA)=>.ok t
 |_=>.bad
theorem fN {x:Str}{k n:Nat}{F:OT->List D->M (OT×OT)}{p:Pos}(xo:XCall X E) (G:qP X.prog X.w X.K X.mg X.base x k n F) (hr:BH (k + 1) X.A) (hg:Gl X x) (ha:DA X (D5 X.K E) true (e::es) fs) (cD:(e::es).length + 1=n)
 (aU:(x == ("__debug__" : Str))=false:=by decide) (he:starEach (e::es) X.env=(false,eval e X.env)::starEach es X.env:=by rfl) (a6:(backTo pos (starEach es X.env)).any (·.1)=false:=by rfl) :
 DN X (D5 X.K E) (.Call (.Name x p) (e::es) [] pos) (fun ρ=>(fs ρ).bind fun ds=>P6 (F (.ins x [] []) ds)):=by
 obtain⟨C,fa,fd,ps,hT,hM,hF,hb⟩:=G.ex
 obtain⟨ta,a1,a2,a3⟩:=ha
 refine⟨_,Ug hM hF hr hg hT.vF hb .nil xo.call a1 aU he a6,fun P0 P σ H Q ρ Ev h=>?_⟩
 dsimp only at h
 refine a2 P0 P σ H _ ρ Ev ?_
 cases q:fs ρ with
 |bad=>rw[q] at h;exact h
 |ex x=>rw[q] at h;exact h
 |ok ds =>
  rw[q] at h
  simp only[M.A7] at h
  intro vs H1 s1 aI y dx hy hd af
  rw[yW]
  have E1:=Ev.same s1
  have sm:=P5 (C:=C) hy hd
  have ca:∀ a∈[y],H1 a=none:=fun a ha=>by rw[zh.mp ha];exact hy
  refine⟨by rw[zp,aI.length,a3 ρ ds q];exact cD,PU P [y],y,.ins x [] [],[y],vs,ds,rfl,fun a ha=>?_,fun a ha=>.inr ha,by simp,C3.ins (fs:=[]) hT.ns Ar .nil,aI.mono (Dg sm ca),?_⟩
  ·rcases ha with ha|ha
   ·exact (E1.Cq a ha).same sm
   ·rw[zh.mp ha]
    exact⟨_,Ar,fun xs=>⟨(fun z=>by cases z),(fun z w=>by cases w)⟩⟩
  ·cases q2:F (.ins x [] []) ds with
   |bad=>rw[q2] at h;exact h
   |ex z=>rw[q2] at h;exact h
   |ok tr =>
    obtain⟨t,r⟩:=tr
    rw[q2] at h
    simp only[P6] at h
    intro v H' P' ai fr k1 k2 k3 k4 k5 k6 k7 k8 k9 o9
    cases r with
    |sh d =>
     cases d with
     |AA =>
      cases k6 with
      |sh hv =>
       cases hv
       refine⟨rfl,h _ ai H' ?_ ?_ k5 ?_⟩
       ·intro b u eb
        have e1:=s1 b u eb
        have cc:b≠y:=fun z=>by rw[z,hy] at e1;cases e1
        have e2:=sm b u e1
        by_cases hP:P b
        ·exact (k1 b (.inl hP) (by simp[cc])).2.trans e2
        ·exact (Al (k3 b u (by rw[Ax fun z=>z.elim hP fun w=>cc (zh.mp w)];exact e2))).2
       ·intro b jv
        cases eb:H b with
        |none=>rfl
        |some u =>
         exfalso
         have e1:=s1 b u eb
         have cc:b≠y:=fun z=>by rw[z,hy] at e1;cases e1
         have e2:=sm b u e1
         have hn:=fun z=>cc (zh.mp ((k9 b jv).2 z))
         exact (Al (k3 b u (by rw[Ax hn];exact e2))).1 (k9 b jv).1
       ·refine k4.move (fun b u eb=>?_) fun _ _=>rfl
        obtain⟨g1,g2⟩:=Al eb
        rw[Ax]
        ·exact g2
        ·rintro (z|z)
         ·have cc:b≠y:=fun w=>by
           obtain⟨o,e1,_⟩:=E1.Cq b z
           rw[w,hy] at e1
           cases e1
          exact g1 (k1 b (.inl z) (by simp[cc])).1
         ·exact g1 (k9 b z).1
     |_=>exact h.elim
    |_=>exact h.elim
end
end L2
namespace L2
open PySem PySem.Spec PyProof.Rows
noncomputable def P7 (i:Nat) (ρ:Ab) (π:List Nat):M (Str×List Str×List D):=match UP i ρ π with
 |some (.ins x ns ts)=>(match Eg ts with|some vs=>.ok (x,ns,vs)|none=>.bad)
 |_=>.bad
theorem YC {i:Nat}{ρ:Ab}{π:List Nat}{x:Str}(h:P7 i ρ π=.ex x):False:=by
 unfold P7 at h
 split at h
 ·split at h<;>cases h
 ·cases h
noncomputable def YD (f:Str):List Str->List Str
 |[]=>[f]
 |g::r=>if g=f then g::r else g::YD f r
noncomputable def YE (f:Str) (d:D):List Str->List D->List D
 |[],_=>[d]
 |g::r,e::t=>if g=f then d::t else e::YE f d r t
 |_::_,[]=>[]
theorem RO (f:Str) (v:V):∀ fs:List (Str×V),(E6 f v fs).map zP=YD f (fs.map zP)
 |[]=>rfl
 |(g,x)::r=>by
  rw[zg,YD,E6]
  split
  ·rfl
  ·rw[zg,RO f v r]
theorem RP {K:za}{H:Hp}{f:Str}{v:V}{d:D}(hv:BK K H v d):∀ {fs:List (Str×V)}{ds:List D},Ag K H (fs.map za5) ds->Ag K H ((E6 f v fs).map za5) (YE f d (fs.map zP) ds)
 |[],_,.nil=>.cons hv .nil
 |(g,x)::r,_,.cons hx ht=>by
  rw[zg,YE,E6]
  split
  ·exact .cons hv ht
  ·exact .cons hx (RP hv ht)
section
variable {X:Cx}{E:XK}{WX:Str->Hp->Prop}{c:Bool}{P0:EA}{P:Addr->Prop}{H:Hp}{σ:St}{ρ:Ab}{a b e:Expr}{f g:Ab->M D}{fn:Ab->M OT}{fp:Ab->M (List Nat)}{pos:Pos}{i:Nat}{es:List Expr}{fs:Ab->M (List D)}
theorem Bl.ins {K:za}{π:List Nat}{v:V}{t1:OT}{x:Str}{ns:List Str}{vs:List D}(pl:Bl K P H σ ρ i π v t1) (E:An K P0 P H σ ρ) (h:P7 i ρ π=.ok (x,ns,vs)) :
 t1=.ins x ns (vs.map .sh)/\∃ l C dx fs,v=.ref l/\Ag K (del H P) (fs.map za5) vs/\C3 K H P (.ref l) (.ins x ns (vs.map .sh)) [l]/\zd K mainGlobals x=some (some (.ref C))/\H l=some (.ins C dx fs)/\ns=fs.map zP:=by
 unfold P7 at h
 rw[pl.at] at h
 split at h
 ·rename_i x' cL vc e
  split at h
  ·rename_i bf e'
   cases e
   cases h
   have z:=D7 e'
   subst z
   obtain⟨aA,o1,hp,nd⟩:=pl.own E
   generalize ht:OT.ins x ns (vs.map .sh)=t at o1
   cases o1 with
   |ins hn hh hr =>
    injection ht with h1 h2 h3
    subst h1 h2 h3
    obtain⟨rfl,hs⟩:=hr.lG
    exact⟨rfl,_,_,_,_,rfl,hs,.ins hn hh hr,hn,hh,rfl⟩
   |_=>cases ht
  ·cases h
 ·cases h
theorem Mc (cs:List Str){fl:Str}(pi:∀ x∈cs,Ig X.K x fl) (ha:DP X WX a i fp) (hv:DE X WX true e f){pos':Pos}(hs:swapsWith e (some (.Attribute a fl pos')) pos.line X.env=pure false:=by rfl) :
 DS X WX (.Assign [.Attribute a fl pos'] e pos) (fun ρ=>(f ρ).bind fun v=>(fp ρ).bind fun π=>(P7 i ρ π).bind fun z=>if z.1∈cs/\z.2.1.length < 1000 then GL i ρ π (.ins z.1 (YD fl z.2.1) ((YE fl v z.2.1 z.2.2).map .sh)) else .bad):=by
 obtain⟨ta,a1,a2⟩:=ha
 obtain⟨tv,v1,v2⟩:=hv
 refine⟨_,jV a1 v1 hs,fun P0 P σ H Z ρ E h=>?_⟩
 dsimp only at h
 refine v2 P0 P σ H _ ρ E ?_
 cases q0:f ρ with
 |bad=>rw[q0] at h;exact h
 |ex x=>rw[q0] at h;exact fun H' s=>h H' P (E.tr s)
 |ok d =>
  rw[q0] at h
  simp only[M.A7] at h
  intro w H0 s0 hw
  have E0:=E.same s0
  refine a2 P0 P σ H0 _ ρ E0 ?_
  cases q:fp ρ with
  |bad=>rw[q] at h;exact h
  |ex x=>rw[q] at h;exact fun H' s=>h H' P ((E.tr s0).trans (E0.tr s))
  |ok π =>
   rw[q] at h
   simp only[M.A7] at h
   intro v t1 H1 s1 pl
   have E1:=E0.same s1
   have wW:=(E.tr s0).trans (E0.tr s1)
   cases q3:P7 i ρ π with
   |bad=>rw[q3] at h;exact h.elim
   |ex x=>exact (YC q3).elim
   |ok z =>
    obtain⟨x,ns,vs⟩:=z
    rw[q3] at h
    simp only[M.A7] at h
    by_cases hc:x∈cs/\ns.length < 1000
    ·rw[if_pos hc] at h
     obtain⟨rfl,l,C,dx,fs,rfl,cb,ot,hn,hH,rfl⟩:=pl.ins E1 q3
     obtain⟨C',bV,b7,d5⟩:=(pi x hc.1).ex
     rw[hn] at bV
     cases bV
     have wX:=hw.mono s1.del
     obtain⟨c,p,t0,g1,g2,E3,t3⟩:=E1.lN (o':=.ins C dx (E6 fl w fs)) (u:=.ins x (YD fl (fs.map zP)) ((YE fl d (fs.map zP) vs).map .sh)) pl ot (fun _=>⟨fun z=>(by cases z),fun _ z=>by cases z⟩) (fun mv=>by
      have:=C3.ins (K:=X.K) (H:=upd H1 l (.ins C dx (E6 fl w fs))) (P:=P) (p:=l) (fs:=E6 fl w fs) (x:=x) hn Ar (((RP wX cb).mono mv).ows)
      rw[RO] at this
      exact this)
     rw[Hz g1 g2] at h
     exact⟨l,C,dx,fs,rfl,hH,b7,d5,by have:=hc.2;rw[zc] at this;exact this,h _ _ _ (wW.trans t3) E3⟩
    ·rw[if_neg hc] at h;exact h.elim
end
end L2
namespace L2
open PySem PySem.Spec PyProof.Rows
theorem BZ {K:za}{f:Str}:∀ y∈([]:List Str),Ig K y f:=fun y h=>by cases h
theorem Br {K:za}{f x:Str}{xs:List Str}(h:Ig K x f) (t:∀ y∈xs,Ig K y f):∀ y∈x::xs,Ig K y f:=fun y hy=>by
 rcases zu.mp hy with rfl|hy
 ·exact h
 ·exact t y hy
theorem FF {P:Program}{w:World}{K:za}{mg:Str->Option Value}{base:Heap}{m:Str}{k n:Nat}:∀ p∈([]:List (Str×(List D->M OT))),∃ k',k'<=k/\IP P w K mg base p.1 m k' n p.2:=fun p h=>by cases h
theorem Ej {P:Program}{w:World}{K:za}{mg:Str->Option Value}{base:Heap}{m x:Str}{k k' n:Nat}{F:List D->M OT}{ms:List (Str×(List D->M OT))}(hk:k'<=k) (h:IP P w K mg base x m k' n F) (t:∀ p∈ms,∃ k',k'<=k/\IP P w K mg base p.1 m k' n p.2) :
 ∀ p∈(x,F)::ms,∃ k',k'<=k/\IP P w K mg base p.1 m k' n p.2:=fun p hp=>by
 rcases zu.mp hp with rfl|hp
 ·exact⟨k',hk,h⟩
 ·exact t p hp
end L2
set_option maxRecDepth 1000000
set_option maxHeartbeats 0
namespace L2
open PySem
theorem P8:entryFor table "dict.update.loop" = some Builtin.«dict.update.loop»:=by unfold entryFor;rfl
end L2
namespace L2
open PySem PySem.Spec PySem.Calls PyProof.Rows PySem.W PySem.Builtin PySem.Builtin.ObjectAttr
section
variable {prog:Program}{w:World}{A:Around}{E:Value->Shared->Prop}{s:Shared}
theorem call_meets {T id:String}{nm:Str}{B:Builtin}{self:Value}{rest:List Value}{Sp:PySem.Spec}{Q:Value->Shared->Prop}(SL:Slot T nm id) (hB:entryFor table id=some B) (ht:s.TypeIs self T) (ha:argsOk id ⟨self::rest,[]⟩) (m:Meets (B ⟨self::rest,[]⟩) Sp)
 (h:Sp A (fun r s'=>match r with | .ok (.ret v)=>Q v s' | .ok _=>False | .error e=>E e s') s):wpAny (model prog w) A (call (.builtin id) (self::rest)) Q E s :=
 wpAny_call (codeAny_call_builtin SL.plain hB (SL.check _ _ _ _ _ _ _ _ ht ha (m prog w A _ s h)))
theorem RQ {l:Addr}{xs:Array Value}{k:Nat}{sl:Array (Option Value)}{Q:Option Value->Shared->Prop}(hh:A.handled=none) (hl:s.heap.get? l=some { cls:=.type "list",data:=.seq xs k,slots:=sl })
 (h:∀ h' tk,(∀ b o,s.heap.get? b=some o->h'.get? b=some o)->Q none { s with heap:=h',toks:=tk }):wpAny (model prog w) A (getAttr? (.ref l) "keys") Q E s:=by
 have miss:typeLookup (.type "list") "keys" = pure none:=am_miss_of_fast (by decide +kernel)
 have T0:∀ hp:Heap,hp.get? l=some { cls:=.type "list",data:=.seq xs k,slots:=sl }->Looks (model prog w) hp (typeOf (.ref l)) (.type "list"):=fun hp e=>(Looks.ld e).andThen .now
 have SL:=PySem.F.slot_list_getattribute
 have ax:(onTheHeap (Value.type "list") && Value.builtin "list.__getattribute__" == Value.builtin "object.__getattribute__")=false:=rfl
 have pw:(false && onTheHeap (Value.builtin "list.__getattribute__"))=false:=rfl
 unfold getAttr? getAttrBy?
 refine wpAny_bind (wpAny_mkText (wpAny_bind (wpAny_attempt ?_)))
 unfold getAttrBy
 refine wpAny_holding (wpAny_bind ((T0 _ hl).at (wpAny_bind ?_)))
 rw[SL.lookup]
 refine wpAny_pure ?_
 dsimp only
 rw[ax,if_neg zM]
 unfold getAttrByItsOwn hookBefore
 rw[if_neg (show ¬ onTheHeap (Value.type "list")=true from zM)]
 refine wpAny_bind (wpAny_pure (wpAny_bind (wpAny_attempt (wpAny_holding ?_))))
 unfold callGetattribute
 rw[pw,if_neg zM]
 unfold boundAndCalled
 rw[SL.bind]
 refine wpAny_bind (wpAny_pure ?_)
 dsimp only
 refine call_meets SL am_entry_list_getattribute ⟨_,hl,rfl⟩ (PySem.F.args_list_getattribute_2 _ _) (meets_getattribute_miss_list l xs k sl "keys" s.toks miss rfl (by decide)) ⟨hl,hh,fun h' tk e ne=>?_⟩
 dsimp only
 obtain⟨kp,nw,t,u,he⟩:=ne
 have T1:Looks (model prog w) h' (typeOf (.ref e)) (.type "AttributeError"):=(Looks.ld he).andThen .now
 unfold getattributeRaised isInstance
 refine wpAny_bind (wpAny_bind (T1.at ?_))
 rw[sub_AttributeError]
 refine wpAny_pure ?_
 rw[if_pos rfl]
 unfold hookBehind
 rw[if_neg (show ¬ onTheHeap (Value.type "list")=true from zM),am_list_getattr_none]
 refine wpAny_bind (wpAny_pure ?_)
 unfold hookOrError attributeErrorLeaves
 dsimp only
 rw[if_pos (show (!false)=true from rfl)]
 refine wpAny_bind (wpAny_throw ?_)
 refine wpAny_bind (wpAny_bind (T1.at ?_))
 rw[sub_AttributeError]
 refine wpAny_pure ?_
 rw[if_pos rfl]
 exact wpAny_pure (h h' tk kp)
theorem Wt {t:Addr}{aa:Array Value}{Q:List Value->Shared->Prop}(ht:IsTup s.heap t aa) (h:Q aa.toList s):wpAny (model prog w) A (Dict.pairItems (.ref t)) Q E s:=by
 obtain⟨o,h1,h2,n,h3⟩:=ht
 have T0:Looks (model prog w) s.heap (typeOf (.ref t)) (.type "tuple"):=h2▸(Looks.ld h1).andThen .now
 unfold Dict.pairItems
 refine wpAny_bind (T0.at ?_)
 have hx:(Value.type "tuple" == Value.type "list" || Value.type "tuple" == Value.type "tuple")=true:=by decide
 rw[if_pos hx]
 exact wpAny_bind (wpAny_seqItems h1 h3 (wpAny_pure h))
theorem HR:plainId "dict.update.loop" = true:=by decide +kernel
theorem Nd {K:Type} [DecidableEq K] {knd:KeyKind prog w K}{h h':Heap}{d I l:Addr}{i:Nat}{xs:List (List K×Addr×Value)}(hd:h.DictOfH (tupleKind knd) d xs) (hit:h.IsListIter I l i) (sb:∀ b o,b≠I->h.get? b=some o->h'.get? b=some o) :
 h'.DictOfH (tupleKind knd) d xs:=by
 obtain⟨o,es,ep,h1,h2,h3,h4,h5,h6⟩:=hd
 obtain⟨oi,i1,i2,i3⟩:=hit
 refine⟨o,es,ep,sb d o (fun z=>?_) h1,h2,h3,h4,fun x hx=>?_,h6⟩
 ·subst z
  rw[i1] at h1
  cases h1
  rw[i3] at h3
  cases h3
 ·obtain⟨ok,aa,n,k1,k2,k3,k4⟩:=h5 x hx
  refine⟨ok,aa,n,sb _ _ (fun z=>?_) k1,k2,k3,k4⟩
  rw[z,i1] at k1
  cases k1
  rw[i3] at k3
  cases k3
theorem TC {K:Type} [DecidableEq K] {knd:KeyKind prog w K}{R:Result->Shared->Prop}{d I l:Addr}{items:Array Value}{h0:Heap}(ps:List (List K×Addr×Value)) (hh:A.handled=none) (d4:A.in1.units < cLine) (ic:l≠I) (wY:d≠I) (vi:l≠d)
 (vj:ps.length=items.size) (hsz:items.size + 1<=sizeLine) (hl:h0.IsList l items)
 (hp:∀(j:Nat) p,ps[j]? =some p->(p.2.1≠d/\p.2.1≠I/\(tupleKind knd).is h0 p.1 p.2.1)/\∃ t,items[j]? =some (.ref t)/\t≠d/\t≠I/\IsTup h0 t #[.ref p.2.1,p.2.2]) :
 ∀(m i:Nat) (xs:List (List K×Addr×Value)) (s:Shared),items.size - i=m->i<=items.size->xs.length<=i->s.heap.IsListIter I l i->s.heap.DictOfH (tupleKind knd) d xs->(∀ b o,b≠d->b≠I->h0.get? b=some o->s.heap.get? b=some o)->
  (∀ h' tk,h'.DictOfH (tupleKind knd) d ((ps.drop i).foldl (fun acc p=>storedH acc p.1 p.2.1 p.2.2) xs)->(∀ b o,b≠d->b≠I->h0.get? b=some o->h'.get? b=some o)->R (.ok (.ret .none)) { s with heap:=h',toks:=tk })->
  codeAny (model prog w) A (.builtin "dict.update.loop" ⟨[.ref d,.ref I,rawInt i,.none],[]⟩) R s:=by
 intro m
 induction m with
 |zero =>
  intro i xs s hm hi wZ hit hd hf h
  have bK:i=items.size:=by omega
  refine codeAny_builtin P8 ?_
  rw[zan HR _]
  show wpAny _ A.in1 (pyNext (.ref I) >>= _) _ _ s
  refine wpAny_bind (wpAny_pyNext_list_end (A:=A.in1) hh hit (hl.at fun o e=>hf l o vi ic e) (by simp[bK]) fun h' eb=>?_)
  have hd2:=Nd hd hit fun b o hb e=>eb b o hb e
  show wpAny _ A.in1 (Dict.addKeywords d [] >>= _) _ _ _
  unfold Dict.addKeywords
  refine wpAny_bind (wpAny_bind ?_)
  refine wpAny_pure (wpAny_pure (wpAny_pure ?_))
  have ed:ps.drop i=[]:=by rw[List.drop_eq_nil_iff];omega
  rw[ed] at h
  exact h h' s.toks hd2 fun b o h1 h2 e=>eb b o h2 (hf b o h1 h2 e)
 |succ m ih =>
  intro i xs s hm hi wZ hit hd hf h
  have aj:i < items.size:=by omega
  obtain⟨p,pz⟩:∃ p,ps[i]? =some p:=⟨ps[i]'(by omega),zt _⟩
  obtain⟨⟨p1,p2,p3⟩,t,ht,t1,t2,t3⟩:=hp i p pz
  refine codeAny_builtin P8 ?_
  rw[zan HR _]
  show wpAny _ A.in1 (pyNext (.ref I) >>= _) _ _ s
  refine wpAny_bind (wpAny_pyNext_list_item (A:=A.in1) hit (hl.at fun o e=>hf l o vi ic e) ht fun h' bn sb=>?_)
  have hd2:h'.DictOfH (tupleKind knd) d xs:=Nd hd hit fun b o hb e=>(sb.2 b hb).trans e
  have qd:∀ b o,b≠d->b≠I->h0.get? b=some o->h'.get? b=some o:=fun b o h1 h2 e=>(sb.2 b h2).trans (hf b o h1 h2 e)
  have t4:IsTup h' t #[.ref p.2.1,p.2.2]:=by
   obtain⟨o,e1,e2⟩:=t3
   exact⟨o,qd t o t1 t2 e1,e2⟩
  have p4:(tupleKind knd).is h' p.1 p.2.1:=by
   obtain⟨o,aa,n,e1,e2⟩:=p3
   exact⟨o,aa,n,qd _ o p1 p2 e1,e2⟩
  dsimp only
  refine wpAny_bind (wpAny_holding (wpAny_bind (wpAny_tryCatch (Wt t4 ?_))))
  show wpAny _ A.in1 (holding [.ref p.2.1,p.2.2] (dictSet d (.ref p.2.1) p.2.2)) _ _ _
  refine wpAny_holding (wpAny_dictSet_heap (knd:=tupleKind knd) (hsz:=by omega) d4 p4 hd2 fun h3 qe vn=>?_)
  refine wpAny_pure ⟨plainId_quiet HR _,?_⟩
  have qg:h3.IsListIter I l (i + 1):=by
   obtain⟨o,e1,e2⟩:=bn
   exact⟨o,(vn.2 I (yL wY)).trans e1,e2⟩
  have ed:ps.drop i=p::ps.drop (i + 1):=by
   rw[zbc (by omega:i < ps.length)]
   rw[zt (by omega:i < ps.length)] at pz
   rw[zJ pz]
  rw[ed,zV] at h
  have ph:(storedH xs p.1 p.2.1 p.2.2).length<=i + 1:=by
   unfold storedH
   split
   ·rw[zc];omega
   ·rw[zL,za9];omega
  have q:=ih (i + 1) (storedH xs p.1 p.2.1 p.2.2) { s with heap:=h3,toks:=s.toks + (tupleKind knd).draws p.1 } (by omega) (by omega) ph qg qe (fun b o h1 h2 e=>(vn.2 b h1).trans (qd b o h1 h2 e)) h
  exact q
theorem Lz {K:Type} [DecidableEq K] {knd:KeyKind prog w K}{Q:Value->Shared->Prop}{l:Addr}{items:Array Value}{n:Nat}{sl:Array (Option Value)}(ps:List (List K×Addr×Value)) (hh:A.handled=none) (d4:A.units + 2 < cLine)
 (vj:ps.length=items.size) (hsz:items.size + 1<=sizeLine) (hl:s.heap.get? l=some { cls:=.type "list",data:=.seq items n,slots:=sl })
 (hp:∀(j:Nat) p,ps[j]? =some p->(tupleKind knd).is s.heap p.1 p.2.1/\∃ t,items[j]? =some (.ref t)/\IsTup s.heap t #[.ref p.2.1,p.2.2])
 (h:∀ h' tk,h'.DictOfH (tupleKind knd) s.heap.objs.size (ps.foldl (fun acc p=>storedH acc p.1 p.2.1 p.2.2) [])->(∀ b o,s.heap.get? b=some o->h'.get? b=some o)->Q (.ref s.heap.objs.size) { s with heap:=h',toks:=tk }) :
 wpAny (model prog w) A (call (.type "dict") [.ref l]) Q E s:=by
 refine callType_codes (Q₁:=fun obj s₁=>obj=.ref s.heap.objs.size/\s₁={ s with heap:=s.heap.push { cls:=.type "dict",data:=.dict #[] } }) PySem.F.kt_called_dict (PySem.F.kt_typeCall_dict_1 _) PySem.F.entry_dict_init
  (kt_code_dict_new _ ⟨rfl,rfl⟩) fun obj s₁ h₁=>?_
 obtain⟨rfl,rfl⟩:=h₁
 have hS:(s.heap.push { cls:=.type "dict",data:=.dict #[] }).get? s.heap.objs.size=some { cls:=.type "dict",data:=.dict #[] }:=zI _ rfl
 have ll:l < s.heap.objs.size:=zx hl
 have jw:(s.heap.push { cls:=.type "dict",data:=.dict #[] }).get? l=some { cls:=.type "list",data:=.seq items n,slots:=sl }:=zr _ hl
 refine⟨⟨_,hS,rfl⟩,PySem.F.args_dict_init_2 _ _,?_⟩
 have TD:Looks (model prog w) (s.heap.push { cls:=.type "dict",data:=.dict #[] }) (typeOf (.ref s.heap.objs.size)) (.type "dict"):=(Looks.ld hS).andThen .now
 have TL:Looks (model prog w) (s.heap.push { cls:=.type "dict",data:=.dict #[] }) (typeOf (.ref l)) (.type "list"):=(Looks.ld jw).andThen .now
 unfold Builtin.«dict.__init__» Dict.selfAndRest Dict.notOrdered
 dsimp only
 rw[if_pos (by decide)]
 refine wpAny_bind (wpAny_bind (wpAny_bind (TD.at ?_)))
 rw[if_neg (by decide)]
 refine wpAny_pure ?_
 unfold Dict.addrOf
 refine wpAny_bind (wpAny_pure (wpAny_pure ?_))
 unfold Dict.updateCommon Dict.updateFrom
 dsimp only
 refine wpAny_bind (TL.at ?_)
 rw[if_pos (by decide)]
 refine wpAny_bind (RQ (A:=A.in1.in1) hh jw fun h2 yC qh=>?_)
 rw[if_pos (show (none:Option Value).isNone=true from rfl)]
 refine wpAny_bind (wpAny_rule ?_)
 have aZ:h2.IsList l items:=⟨_,qh _ _ jw,rfl,n,rfl⟩
 have vo:=qh _ _ hS
 refine wpAny_bind (wpAny_pyIter_list aZ ?_)
 refine wpAny_pure ⟨plainId_quiet HR _,?_⟩
 have lz:s.heap.objs.size < h2.objs.size:=zx vo
 have xa:∀ b o,s.heap.get? b=some o->(h2.push { cls:=.type "list_iterator",data:=.fields #[.ref l,.int 0 0] }).get? b=some o:=fun b o e=>zr _ (qh _ _ (zr _ e))
 have qe:(h2.push { cls:=.type "list_iterator",data:=.fields #[.ref l,.int 0 0] }).DictOfH (tupleKind knd) s.heap.objs.size [] :=
  ⟨_,#[],0,zr _ vo,⟨rfl,rfl,rfl⟩,rfl,rfl,fun x hx=>absurd hx List.not_mem_nil,za7⟩
 have aj:∀ b o,s.heap.get? b=some o->b≠s.heap.objs.size/\b≠h2.objs.size:=fun b o e=>by
  have:=zx e
  exact⟨zG this,zG (Nat.lt_trans this lz)⟩
 refine TC (A:=A.in1) (knd:=knd) (l:=l) (h0:=s.heap) ps hh d4 (zG (Nat.lt_trans ll lz)) (zG lz) (zG ll) vj hsz ⟨_,hl,rfl,n,rfl⟩ (fun j p hj=>?_) items.size 0 [] _ (by omega) (by omega) (by simp) ⟨_,zI _ rfl,rfl,rfl⟩ qe (fun b o h1 ie e=>xa b o e) fun h' tk bO xb=>?_
 ·obtain⟨q1,t,q2,q3⟩:=hp j p hj
  obtain⟨o1,_,_,e1,_⟩:=id q1
  obtain⟨o2,e2,_⟩:=id q3
  exact⟨⟨(aj _ _ e1).1,(aj _ _ e1).2,q1⟩,t,q2,(aj _ _ e2).1,(aj _ _ e2).2,q3⟩
 ·exact⟨rfl,h h' tk bO fun b o e=>xb b o (aj _ _ e).1 (aj _ _ e).2 e⟩
end
structure Wu where
 (t:Addr) (κ:List Key) (b:Addr) (v:V)
noncomputable def fO (H:Hp) (p:Wu):Prop:=H p.t=some (.tup [.ref p.b,p.v])/\H p.b=some (.tup (p.κ.map kV))
noncomputable def rS (ps:List Wu):List (List Key×V):=ps.foldl (fun acc p=>putK acc p.κ p.v) []
noncomputable def xA (X:Cx) (te:TE):TE:=fun σ H Q=>te σ H fun x H1=>∃(l:Addr) (ps:List Wu),x=.ref l/\Dr X.K H1 l (ps.map fun p=>V.ref p.t)/\(∀ p∈ps,fO H1 p)/\ps.length<=1000/\∀ r,H1 r=none->Q (.ref r) (upd H1 r (.dT (rS ps)))
theorem RS:∀ {ps:List Wu}{us:List Value},Vals (ps.map fun p=>V.ref p.t) us->us=ps.map fun p=>yN p.t
 |[],_,.nil=>rfl
 |p::ps,_,.cons h t=>by
  cases h
  rw[zg,<-RS t]
theorem iJ {H:Hp}:∀ {ps:List Wu}{qs:List (List Key×Addr×Value)}{kvs:List (List Key×V)}{xs:List (List Key×Addr×Value)},(∀ p∈ps,fO H p)->Paired (fun (p:Wu) (q:List Key×Addr×Value)=>p.κ=q.1/\p.b=q.2.1/\RelV p.v q.2.2) ps qs->KT H kvs xs->KT H (ps.foldl (fun acc p=>putK acc p.κ p.v) kvs) (qs.foldl (fun acc p=>storedH acc p.1 p.2.1 p.2.2) xs)
 |[],_,_,_,_,.nil,h=>h
 |p::ps,_,_,_,ho,.cons (b:=q) hq t,h=>by
  obtain⟨q1,q2,q3⟩:=q
  obtain⟨e1,e2,e3⟩:=hq
  dsimp only at e1 e2 e3
  subst e1 e2
  have r:=iJ (ps:=ps) (fun p' hp=>ho p' (zf _ hp)) t (h.put p.κ (ho p ze).2 e3)
  exact r
theorem YF:∀(ps:List Wu) (kvs:List (List Key×V)),(ps.foldl (fun acc p=>putK acc p.κ p.v) kvs).length<=kvs.length + ps.length
 |[],kvs=>zB _
 |p::ps,kvs=>by
  have h1:=YF ps (putK kvs p.κ p.v)
  have h2:=EE kvs p.κ p.v
  rw[zV,zp]
  omega
theorem Vc {h:Heap}{H:Hp}{P:Program}{w:World}(ok:Fq P w H h):∀ {ps:List Wu},(∀ p∈ps,fO H p)->∃ qs:List (List Key×Addr×Value),Paired (fun (p:Wu) (q:List Key×Addr×Value)=>p.κ=q.1/\p.b=q.2.1/\RelV p.v q.2.2) ps qs /\
 ∀(j:Nat) q,qs[j]? =some q->(tupleKind (B6 P w)).is h q.1 q.2.1/\∃ t,(ps.map fun p=>yN p.t)[j]? =some (.ref t)/\IsTup h t #[.ref q.2.1,q.2.2]
 |[],_=>⟨[],.nil,fun j q e=>by simp at e⟩
 |p::ps,ho=>by
  obtain⟨qs,h1,h2⟩:=Vc ok fun p hp=>ho p (zf _ hp)
  obtain⟨o1,o2⟩:=ho p ze
  obtain⟨_,aa,r,it⟩:=(show BD P w H h p.t (.tup [.ref p.b,p.v]) from ok p.t _ o1)
  obtain⟨u,v,rfl,ru,rv⟩:=r.two
  cases ru
  refine⟨(p.κ,p.b,v)::qs,.cons ⟨rfl,rfl,rv⟩ h1,fun j q e=>?_⟩
  cases j with
  |zero =>
   rw[zav] at e
   cases e
   exact⟨Ir ok o2,p.t,by simp,it⟩
  |succ j =>
   rw[zT] at e
   obtain⟨a1,t,a2,a3⟩:=h2 j q e
   exact⟨a1,t,by simpa using a2,a3⟩
section
variable {X:Cx}{WX:Str->Hp->Prop}{c:Bool}{P0:EA}{P:Addr->Prop}{H:Hp}{σ:St}{ρ:Ab}{a b e:Expr}{f g:Ab->M D}{fn:Ab->M OT}{pos:Pos}{te:TE}
theorem YG {p:Pos}{n:Nat}(hc:X.calm=true) (hu:X.A.units + n < cLine) (hg:Gl X "dict") (hm:X.mg "dict" = none) (he:PE X e te)
 (hv:bootBuiltins "dict" = some (.type "dict"):=by decide +kernel)
 (hs:starEach [e] X.env=[(false,eval e X.env)]:=by rfl) (hn:2<=n:=by decide) :
 PE X (.Call (.Name "dict" p) [e] [] pos) (xA X te):=by
 intro pins s σ H Q I h
 refine wpAny_Call_Name_kw (E5 I hg hm hv ?_)
 refine yT ?_ hs
 rw[hs]
 refine zaz (Be (he pins s σ H _ I h) fun u s1 ⟨x,H1,I1,r1,q1⟩=>?_)
 obtain⟨l,ps,rfl,hq,ho,hlen,q⟩:=q1
 cases r1
 refine zb5 ?_
 obtain⟨aa,r',pl,hz⟩:=I1.list hq
 have hits:=RS r'
 subst hits
 obtain⟨⟨xc,vp,vq,qi⟩,n0,o1,o2,o3,o4⟩:=pl
 dsimp only at o2 o3 o4
 subst o2 o3 o4
 obtain⟨qs,h1,h2⟩:=Vc I1.Av ho
 refine Lz (knd:=B6 X.prog X.w) qs (I1.ok.hd hc) (by omega) (by rw[zi,zc,<-h1.length]) (AH (by rw[zi,zc];omega)) o1 (fun j p hj=>?_) fun h' tk hd kp=>?_
 ·obtain⟨a1,t,a2,a3⟩:=h2 j p hj
  exact⟨a1,t,by rw[List.getElem?_toArray];exact a2,a3⟩
 ·have xf:=iJ ho h1 (show KT H1 [] [] from .nil)
  have jt:s1.heap.objs.size<=s1.heap.objs.size:=zB _
  have d6:=I1.Av.fresh jt
  have xg:=YF ps []
  obtain⟨o,es,ep,g1,g2,g3,g4,g5,g6⟩:=hd
  refine⟨.ref _,_,I1.laid (t':=tk) (o:=.dT (rS ps)) kp jt ⟨yV (AH (by unfold rS;simp at xg;omega)),beq_eq_false_iff_ne.mpr (yL (zG I1.big)),_,xf.keeps (fun b ys eb=>by rw[Ah (fun z=>by rw[z,d6] at eb;cases eb)];exact eb),o,es,ep,g1,g2,g3,g4,g6⟩,rfl,q _ d6⟩
noncomputable def Wv:List D->Option (List (D×D))
 |[]=>some []
 | .tup [k,v]::r=>(Wv r).map ((k,v)::·)
 |_=>none
noncomputable def rT (l:List (D×D)):List D×List D:=l.foldl (fun z kv=>putD z.1 z.2 kv.1 kv.2) ([],[])
noncomputable def fP (d:D):M OT:=match d with
 | .lst xs=>(match Wv xs with|some l=>if l.length<=1000/\(l.all fun kv=>keyOk true kv.1)=true then .ok (.Bi true (rT l).1 ((rT l).2.map .sh)) else .bad|none=>.bad)
 |_=>.bad
theorem Vd {K:za}{H:Hp}{P:Addr->Prop}:∀ {xs:List V}{ds:List D}{l:List (D×D)},Ag K (del H P) xs ds->Wv ds=some l->(l.all fun kv=>keyOk true kv.1)=true->
 ∃ ps:List Wu,xs=ps.map (fun p=>V.ref p.t)/\(∀ p∈ps,fO H p)/\Paired (fun (p:Wu) (kv:D×D)=>kv.1=.tup (p.κ.map Dp)/\BK K (del H P) p.v kv.2) ps l
 |_,[],l,.nil,e,_=>by cases e;exact⟨[],rfl,fun p hp=>(by cases hp),.nil⟩
 |_,d::ds,l,.cons hd ht,e,hk=>by
  unfold Wv at e
  split at e
  ·rename_i bY;cases bY
  ·rename_i k v r bY
   cases bY
   obtain⟨l',e1,e2⟩:=Option.map_eq_some_iff.mp e
   subst e2
   rw[List.all_cons,zS] at hk
   obtain⟨ps,q1,q2,q3⟩:=Vd ht e1 hk.2
   have hK:=Fh hk.1
   cases hK with
   |t κ =>
    cases hd with
    |tup h1 h2 =>
     obtain⟨x,y,rfl,hx,hy⟩:=h2.two
     cases hx with
     |tup g1 g2 =>
      rename_i tt bb dw
      have ey:=Ag.keys κ g2
      subst ey
      refine⟨⟨tt,κ,bb,y⟩::ps,by rw[zg,q1],fun p hp=>?_,.cons ⟨rfl,hy⟩ q3⟩
      rcases zu.mp hp with rfl|hp
      ·exact⟨(Al h1).2,(Al g1).2⟩
      ·exact q2 p hp
  ·cases e
theorem YH {K:za}{H:Hp}{P:Addr->Prop}:∀ {ps:List Wu}{l:List (D×D)}{kvs:List (List Key×V)}{vs:List D},Paired (fun (p:Wu) (kv:D×D)=>kv.1=.tup (p.κ.map Dp)/\BK K (del H P) p.v kv.2) ps l->Ag K (del H P) (kvs.map za5) vs->
 ∃ bf,l.foldl (fun z kv=>putD z.1 z.2 kv.1 kv.2) (kvs.map (fun kv=>D.tup (kv.1.map Dp)),vs)=((ps.foldl (fun acc p=>putK acc p.κ p.v) kvs).map (fun kv=>D.tup (kv.1.map Dp)),bf)/\Ag K (del H P) ((ps.foldl (fun acc p=>putK acc p.κ p.v) kvs).map za5) bf
 |[],_,kvs,vs,.nil,h=>⟨vs,rfl,h⟩
 |p::ps,_,kvs,vs,.cons (b:=kv) hq t,h=>by
  obtain⟨k,d⟩:=kv
  obtain⟨e1,e2⟩:=hq
  dsimp only at e1 e2
  subst e1
  have hf:∀ a b:List Key,Aw (.tup (a.map Dp)) (.tup (b.map Dp))=decide (a=b):=fun a b=>by simp only[Aw];exact LP a b
  have bc:∃ bf,(putD (kvs.map fun kv=>.tup (kv.1.map Dp)) vs (.tup (p.κ.map Dp)) d)=((putK kvs p.κ p.v).map (fun kv=>.tup (kv.1.map Dp)),bf)/\Ag K (del H P) ((putK kvs p.κ p.v).map za5) bf:=by
   unfold putD putK
   rw[MY (fk:=fun κ:List Key=>D.tup (κ.map Dp)) hf]
   by_cases hh:(kvs.any fun kv=>decide (kv.1=p.κ))=true
   ·rw[if_pos hh,if_pos hh]
    refine⟨_,by rw[Jq (fk:=fun κ:List Key=>D.tup (κ.map Dp)) hf],?_⟩
    rw[<-Jp (fk:=fun κ:List Key=>D.tup (κ.map Dp)) hf]
    exact Jr e2 h
   ·rw[if_neg hh,if_neg hh]
    refine⟨_,by rw[zN];rfl,?_⟩
    rw[zN]
    exact h.snoc e2
  obtain⟨yD,g1,g2⟩:=bc
  obtain⟨xh,g3,g4⟩:=YH t g2
  refine⟨xh,?_,g4⟩
  rw[zV]
  dsimp only
  rw[g1]
  exact g3
theorem RT {p:Pos}{n:Nat}(hc:X.calm=true) (hu:X.A.units + n < cLine) (hg:Gl X "dict") (hm:X.mg "dict" = none) (he:DE X WX true e f)
 (hv:bootBuiltins "dict" = some (.type "dict"):=by decide +kernel)
 (hs:starEach [e] X.env=[(false,eval e X.env)]:=by rfl) (hn:2<=n:=by decide) :
 DN X WX (.Call (.Name "dict" p) [e] [] pos) (fun ρ=>(f ρ).bind fP):=by
 obtain⟨te,e1,e2⟩:=he
 refine⟨_,YG hc hu hg hm e1 hv hs hn,fun P0 P σ H Q ρ E h=>?_⟩
 refine e2 P0 P σ H _ ρ E ?_
 dsimp only at h
 cases q:f ρ with
 |bad=>rw[q] at h;exact h
 |ex x=>rw[q] at h;exact h
 |ok d =>
  rw[q] at h
  simp only[M.A7] at h
  intro v H1 s1 hv
  unfold fP at h
  split at h
  ·rename_i xs
   split at h
   ·rename_i l eb
    split at h
    ·rename_i hl
     cases hv with
     |lst hs hh =>
      obtain⟨ps,q1,q2,q3⟩:=Vd hh eb hl.2
      subst q1
      obtain⟨bf,g1,g2⟩:=YH (kvs:=[]) q3 .nil
      refine⟨_,ps,rfl,hs.Bo,q2,by rw[q3.length];exact hl.1,fun r hr=>?_⟩
      have e3:rT l=((rS ps).map (fun kv=>D.tup (kv.1.map Dp)),bf):=g1
      rw[e3] at h
      have bV:∀ a∈[r],H1 a=none:=fun a ha=>by rw[zh.mp ha];exact hr
      exact h _ [r] _ (s1.trans (AN hr _)) (fun a ha=>Fg s1 (bV a ha)) (by simp) (.dT Ar (g2.mono (Dg (AN hr _) bV)).ows)
    ·exact h.elim
   ·exact h.elim
  ·exact h.elim
end
end L2
namespace L2
open PySem PySem.Spec PyProof.Rows
section
variable {X:Cx}{WX:Str->Hp->Prop}{c:Bool}{P0:EA}{P:Addr->Prop}{H:Hp}{σ:St}{ρ:Ab}{a b e:Expr}{f g:Ab->M D}{fn:Ab->M OT}{pos:Pos}{te:TE}
noncomputable def YI (x y:D):M D:=match x,y with
 | .tup xs,.tup ys=>(match CG xs,CG ys with|some ns,some ms=>.ok (.bl (HT.lexLt ns ms))|_,_=>.bad)
 |_,_=>.bad
theorem Ve:Ur X.K WX (oY X.K) YI:=by
 intro P H x y v w Q ht hx hy h
 unfold YI at h
 split at h
 ·rename_i xs ys
  split at h
  ·rename_i ns ms e1 e2
   have:=DU e1
   subst this
   have:=DU e2
   subst this
   cases hx with
   |tup h1 h2 =>
    cases hy with
    |tup h3 h4 =>
     have:=Ec h2
     subst this
     have:=Ec h4
     subst this
     exact⟨_,_,ns,ms,rfl,rfl,Fs.of (Al h1).2,Fs.of (Al h3).2,h _ H (Ad.refl H) (.bl _)⟩
  ·exact h.elim
 ·exact h.elim
theorem tT {n:Nat}(hu:X.A.units + n < cLine) (ha:DE X WX c a f) (hb:DE X WX c b g):DE X WX c (.Compare a [.Lt] [b] pos) (fun ρ=>(f ρ).bind fun x=>(g ρ).bind fun y=>YI x y):=Xy (Xk (by omega)) Ve ha hb (Io _)
theorem lX {n:Nat}(hu:X.A.units + n < cLine) (ha:DE X WX c a f) (hb:DE X WX c b g):DT X WX (.Compare a [.Lt] [b] pos) (fun ρ=>((f ρ).bind fun x=>(g ρ).bind fun y=>YI x y).bind OC):=Fy (Xk (by omega)) Ve ha hb (Io _)
theorem YJ (hk:DE X WX true a f) (hv:DE X WX true b g):DN X WX (.Dict [some a] [b] pos) (fun ρ=>(f ρ).bind fun k=>(g ρ).bind fun v=>if keyOk false k=true then .ok (.Bi false [k] [.sh v]) else .bad):=by
 obtain⟨tk,k1,k2⟩:=hk
 obtain⟨tv,v1,v2⟩:=hv
 refine⟨_,ZR (Xs k1 v1 ZQ) rfl rfl (by simp) (by simp),fun P0 P σ H Q ρ E h p hp=>?_⟩
 dsimp only at h
 have hn:∀ a∈[p],H a=none:=fun a ha=>by rw[zh.mp ha];exact hp
 have s0:Ad H (upd H p (.dK [])):=AN hp _
 have E1:An X.K P0 (PU P [p]) (upd H p (.dK [])) σ ρ:=E.more s0 MV (fun a ha=>ha.elim (fun z=>(E.Cq a z).same s0) fun z=>by
  rw[zh.mp z]
  exact⟨_,Ar,fun _=>⟨fun z=>(by cases z),fun _ z=>by cases z⟩⟩) (Dg s0 hn)
 refine k2 P0 (PU P [p]) σ _ _ ρ E1 ?_
 cases q:f ρ with
 |bad=>rw[q] at h;exact h
 |ex x=>rw[q] at h;exact fun H' s=>h H' (s0.trans s)
 |ok k =>
  rw[q] at h
  simp only[M.A7] at h
  intro y H2 s2 hy
  have E2:=E1.same s2
  refine v2 P0 (PU P [p]) σ H2 _ ρ E2 ?_
  cases q2:g ρ with
  |bad=>rw[q2] at h;exact h
  |ex x=>rw[q2] at h;exact fun H' s=>h H' ((s0.trans s2).trans s)
  |ok d =>
   rw[q2] at h
   simp only[M.A7] at h
   intro w H3 s3 hw
   by_cases hc:keyOk false k=true
   ·rw[if_pos hc] at h
    have hK:=Fh hc
    cases hK with
    |k κ =>
     have ey:=hy.lI
     subst ey
     refine⟨s3 _ _ (s2 _ _ Ar),[(κ,w)],rfl,by simp,?_⟩
     have s4:Ad H (upd H3 p (.dK (Gx [] [(κ,w)]))):=fun a o ha=>by
      rw[Ah (fun z=>by rw[z,hp] at ha;cases ha)]
      exact s3 _ _ (s2 _ _ (s0 _ _ ha))
     have s5:Ad (del H3 (PU P [p])) (del (upd H3 p (.dK (Gx [] [(κ,w)]))) (PU P [p])):=fun a o ha=>by
      obtain⟨n1,n2⟩:=Al ha
      rw[Ax n1,Ah (fun z=>n1 (.inr (by rw[z];exact zh.mpr rfl)))]
      exact n2
     refine h _ [p] _ s4 hn (by simp) ?_
     have e1:Gx [] [(κ,w)]=[(κ,w)]:=rfl
     rw[e1] at s5 ⊢
     exact .dK (kvs:=[(κ,w)]) Ar (.cons (.sh (hw.mono s5)) .nil)
   ·rw[if_neg hc] at h;exact h.elim
noncomputable def P9 (x:D) (m:M D):M D:=match x with
 | .Bi b ks vs=>m.bind fun y=>if keyOk b y=true then .ok ((Gk ks vs y).getD .AA) else .bad
 |_=>.bad
theorem fQ {K:za}{v:V}{bb:Bool}{ks vs:List D}{P:Addr->Prop}(h:BK K (del H P) v (.Bi bb ks vs)):∃ a,v=.ref a/\tE H a:=by
 cases h with
 |Iy h1 h2=>exact⟨_,rfl,.inl ⟨_,.inl (Al h1).2⟩⟩
 |Iz h1 h2=>exact⟨_,rfl,.inr ⟨_,.inl (Al h1).2⟩⟩
theorem Nf {n:Nat}{o k:Expr}{apos ac:Pos}(hu:X.A.units + n < cLine) (ha:DE X WX c o f) (hb:DE X WX c k g) (m:M1 X o "get" apos k ac:=by exact⟨rfl,rfl,rfl,rfl⟩) (hn:1<=n:=by decide) :
 DE X WX c (.Call (.Attribute o "get" apos) [k] [] ac) (fun ρ=>(f ρ).bind fun x=>P9 x (g ρ)):=by
 obtain⟨ta,a1,a2⟩:=ha
 obtain⟨tb,b1,b2⟩:=hb
 refine⟨_,Xu (by omega) a1 b1 m,fun P0 P σ H Q ρ E h=>?_⟩
 dsimp only at h
 refine a2 P0 P σ H _ ρ E ?_
 cases q:f ρ with
 |bad=>rw[q] at h;exact h
 |ex x=>rw[q] at h;exact h
 |ok x =>
  rw[q] at h
  simp only[M.A7] at h
  intro v H1 s1 hv
  unfold P9 at h
  split at h
  ·rename_i bb ks vs
   obtain⟨a,rfl,hD⟩:=fQ hv
   refine⟨a,rfl,hD,b2 P0 P σ H1 _ ρ (E.same s1) ?_⟩
   cases e2:g ρ with
   |bad=>rw[e2] at h;exact h
   |ex y=>rw[e2] at h;exact gV.same (m:=.ex y) h s1
   |ok y =>
    rw[e2] at h
    simp only[M.A7] at h
    intro w H2 s2 hw
    by_cases hk:keyOk bb y=true
    ·rw[if_pos hk] at h
     obtain⟨a',xs,ea,g',hl,bV⟩:=PP (hv.mono s2.del) hw (Fh hk)
     cases ea
     refine⟨_,g',?_⟩
     refine gV.same (gV.same h s1) s2 _ H2 (Ad.refl _) ?_
     cases eg:Gk ks vs y with
     |none =>
      have:Gk ks xs y=none:=by
       cases xi:Gk ks xs y with
       |none=>rfl
       |some z =>
        have h1:=Hy (xs:=xs) (y:=y) bV
        have h2:=Hy (ks:=ks) (xs:=vs) (y:=y) (by rw[<-hl.length,bV])
        rw[h1,xi,eg] at h2
        cases h2
      rw[this]
      exact .AA
     |some d =>
      obtain⟨x,e3,e4⟩:=MZ hl eg
      rw[e3]
      exact e4
    ·rw[if_neg hk] at h;exact h.elim
  ·exact h.elim
end
end L2
namespace L2
open PySem PySem.Spec PyProof.Rows
noncomputable def vG (K:za) (a:Addr) (n:Nat):It :=
 ⟨fun i H=>∃ xs x,Dr K H a xs/\xs.length=n/\i < n/\xs[n - 1 - i]? =some x,fun i H x H'=>H'=H/\∀ xs,Dr K H a xs->xs[n - 1 - i]? =some x,fun i H=>∃ xs,Dr K H a xs/\xs.length=n/\n<=i⟩
theorem YK {h:Heap}{it a:Addr}{i:Int}{xs:Array Value}(h1:h.IsRevIter it a i) (h2:h.IsList a xs):a≠it:=fun z=>by
 subst z
 obtain⟨o,e1,e2,_⟩:=h1
 obtain⟨o2,e3,e4,_⟩:=h2
 rw[e1] at e3
 cases e3
 rw[e2] at e4
 exact absurd (Value.type.inj e4) (by decide)
theorem YL {P:Program}{w:World}{K:za}{tg:Expr}(a it:Addr) (n:Nat):Turn P w K tg (vG K a n) [it] it (fun i h=>i<=n/\h.IsRevIter it a ((n:Int) - 1 - i)) where
 mem:=by simp
 obj:=fun i h st b hb=>by
  have e:b=it:=by simpa using hb
  subst e
  obtain⟨_,o,e,c,d⟩:=st
  exact⟨o,e,fun v z=>by rw[d] at z;cases z⟩
 keep:=fun i h h' st k=>⟨st.1,st.2.at fun o e=>k it (by simp) o e⟩
 item:=by
  intro X hP hw hK hc i pins s σ H E I hf st hg
  subst hP hw hK
  obtain⟨xs,x,hq,qj,bK,hx⟩:=hg
  obtain⟨aa,rv,p,hz⟩:=I.list hq
  obtain⟨u,hu,ru⟩:=rv.get hx
  obtain⟨f0,f1,f2,f3,f4,f5⟩:=hf it (by simp)
  have hl:=rv.length
  have qk:aa.toArray.size=n:=by rw[zi,<-hl,qj]
  have W:=Walks.listRev (prog:=X.prog) (w:=X.w) (A:=X.A) (I.ok.hd hc) it a (YK st.2 p.isList) aa.toArray
  rw[qk] at W
  refine W.item i s _ _ bK ⟨st.1,st.2,p.isList⟩ fun v h' tk hv ck kp=>?_
  have ev:v=u:=by
   rw[List.getElem?_toArray,hu] at hv
   exact (zJ hv).symm
  subst ev
  have I1:Inv X pins σ H { s with heap:=h',toks:=tk }:=I.turned (t':=tk) (fun b o hb e=>kp b o (by simpa using hb) e) f0 f1 f3 f4 f5
  obtain⟨o,e,c,d⟩:=id ck.2.1
  exact⟨v,rfl,X4 (s:={ s with heap:=h',toks:=tk }) e c d (by decide) ⟨x,H,I1,ru,⟨rfl,fun ys hy=>by rw[I.Gq hy hq];exact hx⟩,⟨ck.1,ck.2.1⟩,fun b hb=>(hf b hb).1⟩⟩
 done:=by
  intro X hP hw hK hc i pins s σ H E I hf st hg
  subst hP hw hK
  obtain⟨xs,hq,qj,bK⟩:=hg
  obtain⟨aa,rv,p,hz⟩:=I.list hq
  obtain⟨f0,f1,f2,f3,f4,f5⟩:=hf it (by simp)
  have hl:=rv.length
  have qk:aa.toArray.size=n:=by rw[zi,<-hl,qj]
  have W:=Walks.listRev (prog:=X.prog) (w:=X.w) (A:=X.A) (I.ok.hd hc) it a (YK st.2 p.isList) aa.toArray
  rw[qk] at W
  have xj:i=n:=Nat.le_antisymm st.1 bK
  subst xj
  exact W.done s _ _ ⟨st.1,st.2,p.isList⟩ fun h' tk kp=>⟨rfl,I.turned (t':=tk) (fun b o hb e=>kp b o (by simpa using hb) e) f0 f1 f3 f4 f5⟩
 self:=fun _ _ _ _ _ st h=>wpAny_pyIter_revIter st.2 h
section
variable {X:Cx}{WX:Str->Hp->Prop}{tg a:Expr}{f:Ab->M D}{pos p:Pos}{te:TE}
noncomputable def tU (K:za) (ta:TA):TI:=fun σ H R=>ta σ H fun vs H1=>∃ a xs,vs=[.ref a]/\Dr K H1 a xs/\R (vG K a xs.length) H1
theorem lY {ta:TA}(hg:Gl X "reversed") (hm:X.mg "reversed" = none) (ha:PA X [a] ta) (hb:bootBuiltins "reversed" = some (.type "reversed"):=by decide +kernel) (hs:starEach [a] X.env=[(false,eval a X.env)]:=by rfl) :
 PI X tg (.Call (.Name "reversed" p) [a] [] pos) (tU X.K ta):=by
 intro pins s σ H R I h
 refine Call_ (E5 I hg hm hb (yT (Be (ha pos pins s σ H _ I h) fun us s1 ⟨vs,H1,I1,r1,q1⟩=>?_) hs rfl))
 obtain⟨j,xs,e,hq,q⟩:=q1
 subst e
 cases r1 with
 |cons r rr =>
  cases rr
  cases r
  obtain⟨aa,rv,p,hz⟩:=I1.list hq
  have hl:=rv.length
  refine call_reversed_list p.isList ?_
  have hit:(s1.heap.push (revObj j ((aa.toArray.size:Int) - 1))).IsRevIter s1.heap.objs.size j ((xs.length:Int) - 1 - (0:Nat)):=by
   rw[zi,<-hl]
   exact⟨_,zI _ rfl,rfl,by simp[revObj]⟩
  refine wpAny_pyIter_revIter (s:={ s1 with heap:=s1.heap.push (revObj j ((aa.toArray.size:Int) - 1)) }) hit ?_
  refine⟨s1.heap.objs.size,[s1.heap.objs.size],_,_,H1,rfl,I1.kept (t':=s1.toks) fun b o e=>zr _ e,YL j _ xs.length,⟨zW _,hit⟩,fun b hb=>?_,q⟩
  have e:b=s1.heap.objs.size:=by simpa using hb
  subst e
  exact I1.X3 (zB _) (I1.Av.fresh (zB _))
theorem lZ (hg:Gl X "reversed") (hm:X.mg "reversed" = none) (ha:DE X WX true a f) (hb:bootBuiltins "reversed" = some (.type "reversed"):=by decide +kernel) (hs:starEach [a] X.env=[(false,eval a X.env)]:=by rfl) :
 DI X WX tg (.Call (.Name "reversed" p) [a] [] pos) (fun ρ=>(f ρ).bind fun d=>match d with | .lst ds=>.ok ds.reverse|_=>.bad):=by
 obtain⟨ta,a1,a2⟩:=ha
 refine⟨_,lY hg hm (Bh a1 Cj hs) hb hs,fun P0 P σ H R ρ E h=>?_⟩
 dsimp only at h
 refine a2 P0 P σ H _ ρ E ?_
 cases q:f ρ with
 |bad=>rw[q] at h;exact h
 |ex x=>rw[q] at h;exact h
 |ok d =>
  rw[q] at h
  cases d with
  |lst ds =>
   intro v H1 s1 hv
   cases hv with
   | @lst a xs _ hs hl =>
    have hlen:=hl.length
    refine⟨a,xs,rfl,hs.Bo,h _ H1 s1 ⟨fun i P' H' s hi=>?_,fun i P' H' s hi=>?_,fun i P' H' v f6 d s ht hd y=>?_⟩⟩
    ·rw[za1] at hi
     obtain⟨x,hx,_⟩:=hl.get (zt (show xs.length - 1 - i < ds.length by omega))
     exact⟨xs,x,(s.seq hs).Bo,rfl,by omega,hx⟩
    ·rw[za1] at hi
     exact⟨xs,(s.seq hs).Bo,rfl,by omega⟩
    ·obtain⟨rfl,y⟩:=y
     have aj:=(zA.mp hd).1
     rw[za1] at aj
     rw[List.getElem?_reverse aj] at hd
     obtain⟨x,hx,bO⟩:=hl.get hd
     have e:=y xs (s.seq hs).Bo
     rw[hlen,hx] at e
     cases e
     exact⟨Ad.refl _,bO.mono s⟩
  |_=>exact h.elim
end
end L2
namespace L2
open PySem PySem.Spec PyProof.Rows
structure mB (K:za) (x qual:Str) (st:Stmt) (f:Addr) (fd:FuncData):Prop where
 ex:∃(oc:Value) (od:Option Addr) (dV kV doc pm:Value) (an:Option Addr) (B1 ct:Value) (Sv:Array (Option Value)),
  fd=zU x qual (AQ st) (AD st) (A3 st) dV kV doc pm an B1 ct/\K.lookup f=some ⟨oc,od,.func fd,Sv⟩/\yO K B1 qual=true
 kp:zR K (.ref f)=true
section
variable {P:Program}{w:World}{K:za}{mg:Str->Option Value}{base:Heap}
theorem fR {x qual:Str}{st:Stmt}{f:Addr}{fd:FuncData}{N ps:List Str}{k:Nat}(F:mB K x qual st f fd) (S:Ae N ps (A3 st)) (g:Ab->M Out)
 (hb:∀(B1:Value) (A:Around) (outer:List Env) (s:Shared) (H:Hp) (E:XK),BH k (A.deeper (envOfC qual (A3 st) s.heap.objs.size f B1))->Sw (UA P w K mg base N qual (A3 st) f B1 A outer s H E) (D5 K E) (AD st) g) :
 Ds P w K mg base (Tf P w base) (k + 1) f fd ps (OP K ps.length fun t a7=>Eh (g (CY N t a7))):=by
 obtain⟨oc,od,dV,kV,doc,pm,an,B1,ct,Sv,rfl,lk,bw⟩:=F.ex
 refine Uh lk bw S (fun vs H Q E h=>h.1) fun A outer s H vs Q E hr h=>?_
 obtain⟨hl,P',p,t,fp,rest,a7,rfl,ht,hp,nd,ho,hv,hq⟩:=h
 obtain⟨tt,h1,h2⟩:=hb B1 A outer s H E hr
 refine⟨tt,h1,h2 ⟨fun a=>P' a/\a∉fp,fun _=>p⟩ P' _ H _ _ (Jv ht hp nd ho hv) ?_⟩
 dsimp only at hq
 revert hq
 cases g (CY N t a7) with
 |bad=>exact fun h=>h.elim
 |ex x=>exact fun h=>h.elim
 |ok o =>
  have sub:∀ {P2:Addr->Prop} {H2:Hp} {σ2:St} {ρ:Ab},An K ⟨fun a=>P' a/\a∉fp,fun _=>p⟩ P2 H2 σ2 ρ->∀ a,P2 a/\¬ (P' a/\a∉fp)->P2 a/\(P' a->a∈fp):=fun E a ha=>⟨ha.1,fun z=>zah fun w=>ha.2 ⟨z,w⟩⟩
  cases o with
  |ret d=>exact fun h=>h.elim
  |CK d=>exact fun h=>h.elim
  |next ρ =>
   intro hq σ' H' P2 t2 E2
   unfold Eh at hq
   dsimp only at hq
   split at hq
   ·rename_i t' e
    obtain⟨c,ai,k1,k2,k3,k4,k5,k6⟩:=LR E2 e
    exact hq .AA H' P2 ai [] (fun a ha hn=>⟨E2.sub a ⟨ha,hn⟩,t2.2 a ⟨ha,hn⟩⟩) E2.Cq t2.1 k4 k5 (.sh .AA) za7 (fun a ha=>by cases ha) (fun a ha=>sub E2 a (k6 a ha)) (fun a ha=>by cases ha)
   ·exact hq.elim
  |Fd r ρ =>
   intro hq v fr σ' H' P2 t2 E2 o2 b6 hf
   unfold Eh at hq
   dsimp only at hq
   split at hq
   ·rename_i t' e
    obtain⟨c,ai,k1,k2,k3,k4,k5,k6⟩:=LR E2 e
    exact hq v H' P2 ai fr (fun a ha hn=>⟨E2.sub a ⟨ha,hn⟩,t2.2 a ⟨ha,hn⟩⟩) E2.Cq t2.1 k4 k5 o2 b6 (fun a ha=>(hf a ha).2.2 0 c _ ai k1 k2 k3) (fun a ha=>sub E2 a (k6 a ha)) (fun a ha=>sub E2 a ⟨(hf a ha).1,(hf a ha).2.1⟩)
   ·exact hq.elim
  |brk ρ=>exact fun h=>h.elim
  |cont ρ=>exact fun h=>h.elim
end
theorem fS {K:za}{x qual:Str}{st:Stmt}{f:Addr}{oc:Value}{od an:Option Addr}{Sv:Array (Option Value)}{dV kV doc pm B1 ct:Value}(l:K.lookup f=some ⟨oc,od,.func (zU x qual (AQ st) (AD st) (A3 st) dV kV doc pm an B1 ct),Sv⟩)
 (c:yO K B1 qual=true) (k:zR K (.ref f)=true):mB K x qual st f (zU x qual (AQ st) (AD st) (A3 st) dV kV doc pm an B1 ct):=⟨⟨oc,od,dV,kV,doc,pm,an,B1,ct,Sv,rfl,l,c⟩,k⟩
structure Pa (P:Program) (w:World) (K:za) (mg:Str->Option Value) (base:Heap) (x:Str) (k n:Nat) (F:OT->List D->M (OT×OT)):Prop where
 ex:∃ C fa fd ps,lW K mg x C/\Mk K C fa/\Ds P w K mg base (Tf P w base) k fa fd ps (OP K n F)/\Binds K fd ps []/\Binds K fd ps [.none]
theorem Pa.xB {P:Program}{w:World}{K:za}{mg:Str->Option Value}{base:Heap}{x:Str}{k n:Nat}{F:OT->List D->M (OT×OT)}(G:Pa P w K mg base x k n F):qP P w K mg base x k n F:=by
 obtain⟨C,fa,fd,ps,h1,h2,h3,h4,_⟩:=G.ex
 exact⟨⟨C,fa,fd,ps,h1,h2,h3,h4⟩⟩
structure TF (K:za) (mg:Str->Option Value) (x qual:Str) (st:Stmt) (ps:List Str):Prop where
 ex:∃ C f fd,lW K mg x C/\Mk K C f/\mB K "__init__" qual st f fd/\Binds K fd ps []/\Binds K fd ps [.none]
theorem YM {P:Program}{w:World}{K:za}{mg:Str->Option Value}{base:Heap}{x qual:Str}{st:Stmt}{N ps:List Str}{k n:Nat}(T:TF K mg x qual st ps) (S:Ae N ps (A3 st)) (g:Ab->M Out)
 (hb:∀(f:Addr) (B1:Value) (A:Around) (outer:List Env) (s:Shared) (H:Hp) (E:XK),BH k (A.deeper (envOfC qual (A3 st) s.heap.objs.size f B1))->Sw (UA P w K mg base N qual (A3 st) f B1 A outer s H E) (D5 K E) (AD st) g) (hn:ps.length=n:=by rfl) :
 Pa P w K mg base x (k + 1) n (fun t a7=>Eh (g (CY N t a7))):=by
 obtain⟨C,f,fd,h1,h2,F,hB⟩:=T.ex
 subst hn
 exact⟨⟨C,f,fd,ps,h1,h2,fR F S g (hb f),hB⟩⟩
section
variable {X:Cx}{E:XK}{WX:Str->Hp->Prop}{c:Bool}{e:Expr}{es:List Expr}{fs:Ab->M (List D)}{pos:Pos}{H:Hp}
theorem YN {x:Str}{k n:Nat}{F:OT->List D->M (OT×OT)}{p:Pos}(xo:XCall X E) (G:Pa X.prog X.w X.K X.mg X.base x k n F) (hr:BH (k + 1) X.A) (hg:Gl X x) (ha:DA X (D5 X.K E) true (e::es) fs) (cD:(e::es).length + 2=n)
 (aU:(x == ("__debug__" : Str))=false:=by decide) (he:starEach (e::es) X.env=(false,eval e X.env)::starEach es X.env:=by rfl) (a6:(backTo pos (starEach es X.env)).any (·.1)=false:=by rfl) :
 DN X (D5 X.K E) (.Call (.Name x p) (e::es) [] pos) (fun ρ=>(fs ρ).bind fun ds=>P6 (F (.ins x [] []) (ds++[.AA]))):=by
 obtain⟨C,fa,fd,ps,hT,hM,hF,_,hb⟩:=G.ex
 obtain⟨ta,a1,a2,a3⟩:=ha
 refine⟨_,Ug hM hF hr hg hT.vF hb (show Vals [.AA] [.none] from .cons (show RelV .AA .none from rfl) .nil) xo.call a1 aU he a6,fun P0 P σ H Q ρ Ev h=>?_⟩
 dsimp only at h
 refine a2 P0 P σ H _ ρ Ev ?_
 cases q:fs ρ with
 |bad=>rw[q] at h;exact h
 |ex x=>rw[q] at h;exact h
 |ok ds =>
  rw[q] at h
  simp only[M.A7] at h
  intro vs H1 s1 aI y dx hy hd af
  have E1:=Ev.same s1
  have sm:=P5 (C:=C) hy hd
  have ca:∀ a∈[y],H1 a=none:=fun a ha=>by rw[zh.mp ha];exact hy
  refine⟨by rw[zp,zL,aI.length,a3 ρ ds q];exact cD,PU P [y],y,.ins x [] [],[y],vs++[.AA],ds++[.AA],rfl,fun a ha=>?_,fun a ha=>.inr ha,by simp,C3.ins (fs:=[]) hT.ns Ar .nil,(aI.mono (Dg sm ca)).append (.cons .AA .nil),?_⟩
  ·rcases ha with ha|ha
   ·exact (E1.Cq a ha).same sm
   ·rw[zh.mp ha]
    exact⟨_,Ar,fun xs=>⟨(fun z=>by cases z),(fun z w=>by cases w)⟩⟩
  ·cases q2:F (.ins x [] []) (ds++[.AA]) with
   |bad=>rw[q2] at h;exact h
   |ex z=>rw[q2] at h;exact h
   |ok tr =>
    obtain⟨t,r⟩:=tr
    rw[q2] at h
    simp only[P6] at h
    intro v H' P' ai fr k1 k2 k3 k4 k5 k6 k7 k8 k9 o9
    cases r with
    |sh d =>
     cases d with
     |AA =>
      cases k6 with
      |sh hv =>
       cases hv
       refine⟨rfl,h _ ai H' ?_ ?_ k5 ?_⟩
       ·intro b u eb
        have e1:=s1 b u eb
        have cc:b≠y:=fun z=>by rw[z,hy] at e1;cases e1
        have e2:=sm b u e1
        by_cases hP:P b
        ·exact (k1 b (.inl hP) (by simp[cc])).2.trans e2
        ·exact (Al (k3 b u (by rw[Ax fun z=>z.elim hP fun w=>cc (zh.mp w)];exact e2))).2
       ·intro b jv
        cases eb:H b with
        |none=>rfl
        |some u =>
         exfalso
         have e1:=s1 b u eb
         have cc:b≠y:=fun z=>by rw[z,hy] at e1;cases e1
         have e2:=sm b u e1
         have hn:=fun z=>cc (zh.mp ((k9 b jv).2 z))
         exact (Al (k3 b u (by rw[Ax hn];exact e2))).1 (k9 b jv).1
       ·refine k4.move (fun b u eb=>?_) fun _ _=>rfl
        obtain⟨g1,g2⟩:=Al eb
        rw[Ax]
        ·exact g2
        ·rintro (z|z)
         ·have cc:b≠y:=fun w=>by
           obtain⟨o,e1,_⟩:=E1.Cq b z
           rw[w,hy] at e1
           cases e1
          exact g1 (k1 b (.inl z) (by simp[cc])).1
         ·exact g1 (k9 b z).1
     |_=>exact h.elim
    |_=>exact h.elim
end
end L2
namespace L2
structure Sz (m:Nat) (rs:List Road) (rk:Int->Nat) (Af:Int->Int->Co):Prop where
 snd:∀ x y c,Af x y=some c->Wk rs x y c/\x≠y/\(0<=x/\x < m)/\0<=y/\y < m
 road:∀ r∈rs,BN (Af r.a r.b) (C5 r)
 vH:∀ p x y,x≠y->rk p < rk x->rk p < rk y->BN (Af x y) (Aq (Af x p) (Af p y))
 inj:∀ x y:Int,0<=x->x < m->0<=y->y < m->rk x=rk y->x=y
 nn:∀ x y c,Wk rs x y c->0<=c.1/\0<=c.2
inductive O3 (Af:Int->Int->Co) (rk:Int->Nat) (s:Int):Int->Int×Int->Prop
 |nil:O3 Af rk s s (0,0)
 |snoc {x y:Int} {c d:Int×Int}:O3 Af rk s x c->rk x < rk y->Af x y=some d->O3 Af rk s y (c.1 + d.1,c.2 + d.2)
inductive RU (Af:Int->Int->Co) (rk:Int->Nat) (t:Int):Nat->Int->Int×Int->Prop
 |nil:RU Af rk t 0 t (0,0)
 |snoc {n:Nat} {x y:Int} {c d:Int×Int}:RU Af rk t n x c->rk y < rk x->Af x y=some d->RU Af rk t (n + 1) y (c.1 + d.1,c.2 + d.2)
noncomputable def SA (p q:Int×Int):Prop:=p.1 < q.1\/(p.1=q.1/\p.2<=q.2)
theorem YO {a:Co}{q:Int×Int}(h:BN a (some q)):∃ p,a=some p/\SA p q:=by
 cases a with
 |none=>exact h.elim
 |some p=>exact⟨p,rfl,h⟩
noncomputable def UD (Af:Int->Int->Co) (rk:Int->Nat) (s w:Int) (c:Int×Int):Prop:=∃ t n c1 c2,O3 Af rk s t c1/\RU Af rk t n w c2/\SA (c1.1 + c2.1,c1.2 + c2.2) c
section
variable {m:Nat}{rs:List Road}{rk:Int->Nat}{Af Cf:Int->Int->Co}{s w:Int}
theorem O3.walk (L:Sz m rs rk Af){t:Int}{c:Int×Int}(h:O3 Af rk s t c):Wk rs s t c:=by
 induction h with
 |nil=>exact .nil s
 |snoc _ _ ha ih=>exact ih.trans (L.snd _ _ _ ha).1
theorem RU.walk (L:Sz m rs rk Af){t x:Int}{n:Nat}{c:Int×Int}(h:RU Af rk t n x c):Wk rs t x c:=by
 induction h with
 |nil=>exact .nil t
 |snoc _ _ ha ih=>exact ih.trans (L.snd _ _ _ ha).1
theorem mC (L:Sz m rs rk Af):∀(n:Nat){t x y:Int}{c1 c2 d:Int×Int},O3 Af rk s t c1->RU Af rk t n x c2->Af x y=some d->UD Af rk s y (c1.1 + c2.1 + d.1,c1.2 + c2.2 + d.2):=by
 intro n
 induction n with
 |zero =>
  intro t x y c1 c2 d hu hd ha
  obtain⟨_,af,hx,hy⟩:=L.snd _ _ _ ha
  cases hd with
  |nil =>
   by_cases h:rk y < rk t
   ·exact⟨t,1,c1,_,hu,.snoc .nil h ha,by simp only[SA];omega⟩
   ·have h2:rk t < rk y:=by
     have hq:rk t≠rk y:=fun e=>af (L.inj t y hx.1 hx.2 hy.1 hy.2 e)
     omega
    exact⟨y,0,_,_,.snoc hu h2 ha,.nil,by simp only[SA];omega⟩
 |succ n ih =>
  intro t x y c1 c2 d hu hd ha
  obtain⟨hw,af,hx,hy⟩:=L.snd _ _ _ ha
  by_cases h:rk y < rk x
  ·exact⟨t,n + 2,c1,_,hu,.snoc hd h ha,by simp only[SA];omega⟩
  ·have h2:rk x < rk y:=by
    have hq:rk x≠rk y:=fun e=>af (L.inj x y hx.1 hx.2 hy.1 hy.2 e)
    omega
   cases hd with
   | @snoc _ z _ c e bO hr cC =>
    have n1:=L.nn _ _ _ hw
    have n2:=L.nn _ _ _ (L.snd _ _ _ cC).1
    by_cases hz:z=y
    ·subst hz
     exact⟨t,n,c1,c,hu,bO,by simp only[SA];omega⟩
    ·have q:=L.vH x z y hz hr h2
     rw[cC,ha] at q
     obtain⟨f,hf,hle⟩:=YO q
     obtain⟨t',n',ql,qm,g1,g2,g3⟩:=ih hu bO hf
     refine⟨t',n',ql,qm,g1,g2,?_⟩
     simp only[SA] at *
     omega
theorem fT (L:Sz m rs rk Af){u:Int}{c:Int×Int}(h:Wk rs u w c):∀ {c0:Int×Int},UD Af rk s u c0->UD Af rk s w (c0.1 + c.1,c0.2 + c.2):=by
 induction h with
 |nil u =>
  intro c0 h
  simpa using h
 | @cons r l w c hr hl _ ih =>
  intro c0 h0
  obtain⟨t,n,c1,c2,g1,g2,g3⟩:=h0
  have q:=L.road r hr
  unfold C5 at q
  rw[hl] at q
  obtain⟨d,hd,hle⟩:=YO q
  obtain⟨t',n',ql,qm,k1,k2,k3⟩:=mC L n g1 g2 hd
  have r1:=@ih (c0.1 + l,c0.2 + 1) ⟨t',n',ql,qm,k1,k2,by simp only[SA] at *;omega⟩
  simpa [zb8] using r1
noncomputable def Kept (rs:List Road) (Af Cf:Int->Int->Co):Prop:=∀ x y c,Cf x y=some c↔(Af x y=some c/\BQ rs x y (some c))
theorem fU (L:Sz m rs rk Af) (K:Kept rs Af Cf){t:Int}{c1:Int×Int}(h:O3 Af rk s t c1):∀ {c2:Int×Int},Wk rs t w c2->(∀ c,Wk rs s w c->SA (c1.1 + c2.1,c1.2 + c2.2) c)->O3 Cf rk s t c1:=by
 induction h with
 |nil=>exact fun _ _=>.nil
 | @snoc x y c d hu hr ha ih =>
  intro c2 hw hm
  have cC:=(L.snd _ _ _ ha).1
  refine .snoc (ih (c2:=(d.1 + c2.1,d.2 + c2.2)) (cC.trans hw) fun c' bP=>?_) hr ((K x y d).mpr ⟨ha,fun e he=>?_,fun p hp=>by cases hp;exact cC⟩)
  ·have:=hm c' bP
   simp only[SA] at *
   omega
  ·have:=hm _ (((hu.walk L).trans he).trans hw)
   simp only[SA,BN] at *
   omega
theorem fV (L:Sz m rs rk Af) (K:Kept rs Af Cf){t x:Int}{n:Nat}{c2:Int×Int}{c1:Int×Int}(hs:Wk rs s t c1) (h:RU Af rk t n x c2):(∀ c,Wk rs s x c->SA (c1.1 + c2.1,c1.2 + c2.2) c)->RU Cf rk t n x c2:=by
 induction h with
 |nil=>exact fun _=>.nil
 | @snoc n x y c d hd hr ha ih =>
  intro hm
  have cC:=(L.snd _ _ _ ha).1
  refine .snoc (ih fun c' bP=>?_) hr ((K x y d).mpr ⟨ha,fun e he=>?_,fun p hp=>by cases hp;exact cC⟩)
  ·have:=hm _ (bP.trans cC)
   simp only[SA] at *
   omega
  ·have:=hm _ ((hs.trans (hd.walk L)).trans he)
   simp only[SA,BN] at *
   omega
theorem YQ (L:Sz m rs rk Af) (K:Kept rs Af Cf){c:Int×Int}(h:BQ rs s w (some c)):∃ t n c1 c2,O3 Cf rk s t c1/\RU Cf rk t n w c2/\c=(c1.1 + c2.1,c1.2 + c2.2):=by
 obtain⟨t,n,c1,c2,g1,g2,g3⟩:=fT L (h.2 c rfl) (c0:=(0,0)) ⟨s,0,_,_,.nil,.nil,by simp[SA]⟩
 have hw:=(g1.walk L).trans (g2.walk L)
 have q:=h.1 _ hw
 have e:c=(c1.1 + c2.1,c1.2 + c2.2):=by
  obtain⟨a,b⟩:=c
  simp only[SA,BN] at *
  refine Prod.ext ?_ ?_<;>dsimp only<;>omega
 refine⟨t,n,c1,c2,fU L K g1 (g2.walk L) fun c' bP=>?_,fV L K (g1.walk L) g2 fun c' bP=>?_,e⟩
 ·have:=h.1 _ bP;rw[e] at this;exact this
 ·have:=h.1 _ bP;rw[e] at this;exact this
structure rV (rk:Int->Nat) (Cf:Int->Int->Co) (s:Int) (R:Int->Co):Prop where
 st:BN (R s) (some (0,0))
 cl:∀ x y,rk x < rk y->BN (R y) (Aq (R x) (Cf x y))
 sd:∀ x c,R x=some c->O3 Cf rk s x c
theorem rV.le {R:Int->Co}(h:rV rk Cf s R){t:Int}{c:Int×Int}(u:O3 Cf rk s t c):BN (R t) (some c):=by
 induction u with
 |nil=>exact h.st
 | @snoc x y c d hu hr ha ih =>
  refine Ao (h.cl x y hr) ?_
  rw[ha]
  exact Cc (some d) ih
structure qQ (rk:Int->Nat) (Cf:Int->Int->Co) (s:Int) (R T:Int->Co) (m:Nat):Prop where
 top:∀ x:Int,0<=x->x < m->BN (T x) (R x)
 cl:∀ x y:Int,0<=x->x < m->0<=y->y < m->rk y < rk x->BN (T y) (Aq (T x) (Cf x y))
 sd:∀ x c,T x=some c->∃ t n c1 c2,O3 Cf rk s t c1/\RU Cf rk t n x c2/\c=(c1.1 + c2.1,c1.2 + c2.2)
theorem Kept.iK (K:Kept rs Af Cf){x y:Int}{c:Int×Int}(h:Cf x y=some c):Af x y=some c:=((K x y c).mp h).1
theorem O3.of_kept (K:Kept rs Af Cf){t:Int}{c:Int×Int}(h:O3 Cf rk s t c):O3 Af rk s t c:=by
 induction h with
 |nil=>exact .nil
 |snoc _ hr ha ih=>exact .snoc ih hr (K.iK ha)
theorem RU.of_kept (K:Kept rs Af Cf){t x:Int}{n:Nat}{c:Int×Int}(h:RU Cf rk t n x c):RU Af rk t n x c:=by
 induction h with
 |nil=>exact .nil
 |snoc _ hr ha ih=>exact .snoc ih hr (K.iK ha)
theorem qR (L:Sz m rs rk Af) (K:Kept rs Af Cf){t x:Int}{n:Nat}{c:Int×Int}(h:RU Cf rk t n x c) (ht:0<=t/\t < m):0<=x/\x < m:=by
 cases h with
 |nil=>exact ht
 |snoc _ hr ha=>exact (L.snd _ _ _ (K.iK ha)).2.2.2
theorem qS (L:Sz m rs rk Af) (K:Kept rs Af Cf){t:Int}{c:Int×Int}(h:O3 Cf rk s t c) (ht:0<=s/\s < m):0<=t/\t < m:=by
 cases h with
 |nil=>exact ht
 |snoc _ hr ha=>exact (L.snd _ _ _ (K.iK ha)).2.2.2
theorem qQ.le (L:Sz m rs rk Af) (K:Kept rs Af Cf){R T:Int->Co}(h:qQ rk Cf s R T m){t x:Int}{n:Nat}{c1 c2:Int×Int}(ht:0<=t/\t < m) (hT:BN (T t) (some c1)) (u:RU Cf rk t n x c2):BN (T x) (some (c1.1 + c2.1,c1.2 + c2.2)):=by
 induction u with
 |nil=>simpa using hT
 | @snoc n x y c d hd hr ha ih =>
  have hx:=qR L K hd ht
  have hy:=(L.snd _ _ _ (K.iK ha)).2.2.2
  refine Ao (h.cl x y hx.1 hx.2 hy.1 hy.2 hr) ?_
  rw[ha]
  have:=Cc (some d) ih
  simp only[Aq,zb8] at this
  exact this
theorem Pb (L:Sz m rs rk Af) (K:Kept rs Af Cf){R T:Int->Co}(hs:0<=s/\s < m) (hR:rV rk Cf s R) (hT:qQ rk Cf s R T m){x:Co}(hx:BQ rs s w x):BQ rs s w (T w):=by
 have key:BN (T w) x:=by
  cases x with
  |none=>cases T w<;>exact trivial
  |some c =>
   obtain⟨t,n,c1,c2,g1,g2,e⟩:=YQ L K hx
   have ht:=qS L K g1 hs
   rw[e]
   exact hT.le L K ht (Ao (hT.top t ht.1 ht.2) (hR.le g1)) g2
 refine⟨fun c hc=>Ao key (hx.1 c hc),fun p hp=>?_⟩
 obtain⟨t,n,c1,c2,g1,g2,rfl⟩:=hT.sd w p hp
 exact ((g1.of_kept K).walk L).trans ((g2.of_kept K).walk L)
end
theorem Wk.turn {rs:List Road}{u w:Int}{c:Int×Int}(h:Wk rs u w c):Wk (rs.map Jj) w u c:=by
 induction h with
 |nil u=>exact .nil u
 | @cons r l w c hr hl _ ih =>
  have h1:Wk (rs.map Jj) (Jj r).a (Jj r).b (l,1):=Wk.one (zE.mpr ⟨r,hr,rfl⟩) hl
  have:=ih.trans h1
  have e:(c.1 + l,c.2 + 1)=(l + c.1,1 + c.2):=by rw[Int.add_comm,Int.add_comm c.2]
  rw[<-e]
  exact this
theorem HS (rs:List Road):(rs.map Jj).map Jj=rs:=by
 rw[yM]
 exact (List.map_congr_left fun r _=>rfl).trans (List.map_id rs)
theorem BQ.turn {rs:List Road}{u w:Int}{x:Co}(h:BQ rs u w x):BQ (rs.map Jj) w u x:=by
 refine⟨fun c hc=>h.1 c ?_,fun p hp=>(h.2 p hp).turn⟩
 have:=hc.turn
 rw[HS] at this
 exact this
theorem Sz.turn {m:Nat}{rs:List Road}{rk:Int->Nat}{Af:Int->Int->Co}(L:Sz m rs rk Af):Sz m (rs.map Jj) rk (fun x y=>Af y x):=by
 refine⟨fun x y c h=>?_,fun r hr=>?_,fun p x y af h1 h2=>?_,L.inj,fun x y c h=>?_⟩
 ·obtain⟨a,b,c,d⟩:=L.snd _ _ _ h
  exact⟨a.turn,yL b,d,c⟩
 ·obtain⟨r',bq,rfl⟩:=zE.mp hr
  exact L.road r' bq
 ·rw[Cb]
  exact L.vH p y x (yL af) h2 h1
 ·have:=h.turn
  rw[HS] at this
  exact L.nn _ _ _ this
theorem Kept.turn {rs:List Road}{Af Cf:Int->Int->Co}(K:Kept rs Af Cf):Kept (rs.map Jj) (fun x y=>Af y x) (fun x y=>Cf y x):=fun x y c=>by
 refine (K y x c).trans ⟨fun h=>⟨h.1,h.2.turn⟩,fun h=>⟨h.1,?_⟩⟩
 have:=h.2.turn
 rw[HS] at this
 exact this
end L2
namespace L2
section
variable {κ β:Type} [DecidableEq κ]
noncomputable def AG:List (κ×β)->κ->Option β
 |[],_=>none
 |(k,v)::r,x=>if k=x then some v else AG r x
noncomputable def Dv (A:List (κ×β)) (k:κ) (v:β):List (κ×β):=if (AG A k).isSome=true then A.map fun kv=>if kv.1=k then (kv.1,v) else kv else A++[(k,v)]
theorem Q4 (k j:κ) (v:β):∀ A:List (κ×β),AG (A.map fun kv=>if kv.1=k then (kv.1,v) else kv) j=if j=k then (AG A j).map fun _=>v else AG A j
 |[]=>by simp[AG]
 |(k',v')::r=>by
  rw[zg]
  by_cases h1:k'=k
  ·rw[if_pos h1]
   subst h1
   simp only[AG]
   by_cases h2:k'=j
   ·subst h2;simp
   ·rw[if_neg h2,if_neg h2,Q4 k' j v r]
  ·rw[if_neg h1]
   simp only[AG]
   by_cases h2:k'=j
   ·subst h2
    rw[if_pos rfl,if_pos rfl,if_neg h1]
   ·rw[if_neg h2,if_neg h2,Q4 k j v r]
theorem RV (k j:κ) (v:β):∀ A:List (κ×β),AG A k=none->AG (A++[(k,v)]) j=if j=k then some v else AG A j
 |[],_=>by
  simp only[List.nil_append,AG]
  by_cases h:k=j
  ·subst h;simp
  ·rw[if_neg h,if_neg (yL h)]
 |(k',v')::r,h=>by
  simp only[AG] at h
  by_cases h1:k'=k
  ·rw[if_pos h1] at h;cases h
  ·rw[if_neg h1] at h
   rw[zbg]
   simp only[AG]
   rw[RV k j v r h]
   by_cases h2:k'=j
   ·subst h2;rw[if_pos rfl,if_pos rfl,if_neg h1]
   ·rw[if_neg h2,if_neg h2]
theorem HU (A:List (κ×β)) (k j:κ) (v:β):AG (Dv A k v) j=if j=k then some v else AG A j:=by
 unfold Dv
 by_cases h:(AG A k).isSome=true
 ·rw[if_pos h,Q4]
  by_cases hj:j=k
  ·subst hj
   rw[if_pos rfl,if_pos rfl]
   obtain⟨x,hx⟩:=zbe.mp h
   rw[hx];rfl
  ·rw[if_neg hj,if_neg hj]
 ·rw[if_neg h]
  exact RV k j v A (by cases e:AG A k with|none=>rfl|some x=>rw[e] at h;exact (h rfl).elim)
theorem HV:∀ {A:List (κ×β)}{k:κ},(AG A k).isSome=true↔k∈A.map zP
 |[],k=>by simp[AG]
 |(k',v')::r,k=>by
  simp only[AG,zg,zu]
  by_cases h:k'=k
  ·rw[if_pos h];simp[h]
  ·rw[if_neg h,HV];simp[yL h]
theorem YR {A:List (κ×β)}{k:κ}:AG A k=none↔k∉A.map zP:=by
 rw[<-HV]
 cases AG A k<;>simp
theorem RW (A:List (κ×β)) (k:κ) (v:β):(Dv A k v).map zP=if (AG A k).isSome=true then A.map zP else A.map zP++[k]:=by
 unfold Dv
 split
 ·rw[yM]
  refine List.map_congr_left fun kv _=>?_
  dsimp only [Function.comp]
  split<;>rfl
 ·rw[zN];rfl
theorem KN {A:List (κ×β)}{k:κ}{v:β}(h:(A.map zP).Nodup):((Dv A k v).map zP).Nodup:=by
 rw[RW]
 split
 ·exact h
 ·rename_i hn
  rw[HV] at hn
  rw[zK]
  exact⟨h,by simp,fun x hx y hy=>by rw[zh.mp hy];exact fun e=>hn (e▸hx)⟩
theorem Ng {A:List (κ×β)}{k x:κ}{v:β}(h:x∈(Dv A k v).map zP):x∈A.map zP\/x=k:=by
 rw[RW] at h
 split at h
 ·exact .inl h
 ·rcases zy.mp h with h|h
  ·exact .inl h
  ·exact .inr (zh.mp h)
theorem Q5:∀ {A:List (κ×β)}{k:κ}{v:β},AG A k=some v->(k,v)∈A
 |(k',v')::r,k,v,h=>by
  simp only[AG] at h
  split at h
  ·rename_i e;cases h;subst e;exact ze
  ·exact zf _ (Q5 h)
theorem YS:∀ {A:List (κ×β)}{k:κ}{v:β},(A.map zP).Nodup->(k,v)∈A->AG A k=some v
 |(k',v')::r,k,v,hn,h=>by
  rw[zg,yP] at hn
  simp only[AG]
  rcases zu.mp h with e|h
  ·cases e;rw[if_pos rfl]
  ·have:k'≠k:=fun e=>hn.1 (e▸zE.mpr ⟨_,h,rfl⟩)
   rw[if_neg this]
   exact YS hn.2 h
variable {kf:κ->D}{vf:β->D}(he:∀ a b,Aw (kf a) (kf b)=decide (a=b))
include he
theorem K4 (A:List (κ×β)) (k:κ):Ly (A.map fun kv=>kf kv.1) (kf k)=(AG A k).isSome:=by
 induction A with
 |nil=>rfl
 |cons kv r ih =>
  obtain⟨k',v'⟩:=kv
  unfold Ly at ih ⊢
  rw[zg,zb7,ih,he]
  simp only[AG]
  by_cases h:k'=k
  ·rw[if_pos h,decide_eq_true h];rfl
  ·rw[if_neg h,decide_eq_false h];rfl
theorem GR (A:List (κ×β)) (k:κ):Gk (A.map fun kv=>kf kv.1) (A.map fun kv=>vf kv.2) (kf k)=(AG A k).map vf:=by
 induction A with
 |nil=>rfl
 |cons kv r ih =>
  obtain⟨k',v'⟩:=kv
  rw[zg,zg,Gk,he,ih]
  simp only[AG]
  by_cases h:k'=k
  ·rw[decide_eq_true h,if_pos rfl,if_pos h];rfl
  ·rw[decide_eq_false h,if_neg zM,if_neg h]
theorem YT (k:κ) (v:β) (A:List (κ×β)):IJ (A.map fun kv=>kf kv.1) (A.map fun kv=>vf kv.2) (kf k) (vf v)=(A.map fun kv=>if kv.1=k then (kv.1,v) else kv).map fun kv=>vf kv.2:=by
 induction A with
 |nil=>rfl
 |cons kv r ih =>
  obtain⟨k',v'⟩:=kv
  rw[zg,zg,IJ,he,ih,zg,zg]
  by_cases h:k'=k
  ·rw[decide_eq_true h,if_pos rfl,if_pos h]
  ·rw[decide_eq_false h,if_neg zM,if_neg h]
theorem Nh (A:List (κ×β)) (k:κ) (v:β):putD (A.map fun kv=>kf kv.1) (A.map fun kv=>vf kv.2) (kf k) (vf v)=((Dv A k v).map (fun kv=>kf kv.1),(Dv A k v).map fun kv=>vf kv.2):=by
 unfold putD Dv
 rw[K4 he]
 by_cases h:(AG A k).isSome=true
 ·rw[if_pos h,if_pos h,YT he]
  refine Prod.ext ?_ rfl
  dsimp only
  rw[yM]
  refine List.map_congr_left fun kv _=>?_
  dsimp only [Function.comp]
  split<;>rfl
 ·rw[if_neg h,if_neg h,zN,zN];rfl
end
theorem K5 (a b:Int):Aw (.int a) (.int b)=decide (a=b):=by
 simp only[Aw]
 by_cases h:a=b
 ·subst h;simp
 ·simp[h]
noncomputable abbrev LA:=List ((Int×Int)×((Int×Int)×Option Int))
noncomputable def Ww (v:(Int×Int)×Option Int):D:=.tup [cst (some v.1),GH v.2]
noncomputable def Lf (A:LA):D:=.Bi true (A.map fun kv=>pD kv.1) (A.map fun kv=>Ww kv.2)
noncomputable def IZ (A:LA):OT:=.Bi true (A.map fun kv=>pD kv.1) ((A.map fun kv=>Ww kv.2).map .sh)
noncomputable def Ak (A:LA) (p:Int×Int):Co:=(AG A p).map zP
noncomputable def layA (A:LA) (p:Int×Int) (c:Co) (mid:Option Int):LA:=match c with
 |none=>A
 |some c=>(match AG A p with
  |none=>Dv A p (c,mid)
  |some z=>if c.1 < z.1.1\/(c.1=z.1.1/\c.2 < z.1.2) then Dv A p (c,mid) else A)
theorem GS (A:LA) (p q:Int×Int) (c:Co) (mid:Option Int):Ak (layA A p c mid) q=if q=p then DC (Ak A p) c else Ak A q:=by
 unfold layA Ak
 cases c with
 |none =>
  by_cases h:q=p
  ·subst h;rw[if_pos rfl];cases AG A q<;>rfl
  ·rw[if_neg h]
 |some c =>
  cases e:AG A p with
  |none =>
   dsimp only
   rw[HU]
   by_cases h:q=p
   ·rw[if_pos h,if_pos h];rfl
   ·rw[if_neg h,if_neg h]
  |some z =>
   dsimp only
   by_cases hc:c.1 < z.1.1\/(c.1=z.1.1/\c.2 < z.1.2)
   ·rw[if_pos hc,HU]
    by_cases h:q=p
    ·rw[if_pos h,if_pos h]
     simp only[zaf,DC,iC]
     rw[if_neg (by omega)]
    ·rw[if_neg h,if_neg h]
   ·rw[if_neg hc]
    by_cases h:q=p
    ·subst h
     rw[if_pos rfl,e]
     simp only[zaf,DC,iC]
     rw[if_pos (by omega)]
    ·rw[if_neg h]
theorem TH (A:LA) (p q:Int×Int) (c:Co) (mid:Option Int):BN (Ak (layA A p c mid) q) (Ak A q):=by
 rw[GS]
 split
 ·rename_i h;subst h;exact EF _ _
 ·exact C4 _
theorem YU {A:LA}{p x:Int×Int}{c:Co}{mid:Option Int}(h:x∈(layA A p c mid).map zP):x∈A.map zP\/x=p:=by
 unfold layA at h
 split at h
 ·exact .inl h
 ·split at h
  ·exact Ng h
  ·split at h
   ·exact Ng h
   ·exact .inl h
theorem Wx {A:LA}{p:Int×Int}{c:Co}{mid:Option Int}(h:(A.map zP).Nodup):((layA A p c mid).map zP).Nodup:=by
 unfold layA
 split
 ·exact h
 ·split
  ·exact KN h
  ·split
   ·exact KN h
   ·exact h
noncomputable def Q6 (p u:Int) (A:LA) (w:Int):LA:=if u=w then A else layA A (u,w) (Aq (Ak A (u,p)) (Ak A (p,w))) (some p)
noncomputable def fW (p:Int) (H:List Int) (A:LA) (u:Int):LA:=H.foldl (Q6 p u) A
noncomputable def mD (A:LA) (p:Int) (H:List Int):LA:=H.foldl (fW p H) A
noncomputable def TJ:LA->List Int->LA
 |A,[]=>A
 |A,p::r=>TJ (mD A p r) r
noncomputable def lay0 (rs:List Road):LA:=rs.foldl (fun A r=>layA A (r.a,r.b) (C5 r) none) []
noncomputable def BS (rs:List Road) (L:List Int):LA:=TJ (lay0 rs) L
structure Fp (m:Nat) (A:LA):Prop where
 nd:(A.map zP).Nodup
 rg:∀ p∈A.map zP,p.1≠p.2/\(0<=p.1/\p.1 < m)/\0<=p.2/\p.2 < m
theorem Fp.lay {m:Nat}{A:LA}(h:Fp m A){p:Int×Int}{c:Co}{mid:Option Int}(hp:p.1≠p.2/\(0<=p.1/\p.1 < m)/\0<=p.2/\p.2 < m):Fp m (layA A p c mid) :=
 ⟨Wx h.nd,fun q hq=>(YU hq).elim (h.rg q) fun e=>e▸hp⟩
theorem Fp.len {m:Nat}{A:LA}(h:Fp m A) (hm:m<=20):A.length < 1000:=by
 have:=Cp.len (B:=A.map zP) (m:=m) ⟨h.nd,fun x hx=>(h.rg _ hx).1 rfl,fun q hq=>⟨(h.rg q hq).2.1,(h.rg q hq).2.2⟩⟩ hm
 rwa[zc] at this
theorem K6 {α β:Type}{f:β->α->β}(P:List α->β->Prop):∀ {L pre:List α}{b:β},P pre b->(∀ a∈L,∀ pre b,P pre b->P (pre++[a]) (f b a))->P (pre++L) (L.foldl f b)
 |[],pre,b,h,_=>by rw[yW];exact h
 |a::L,pre,b,h,hs=>by
  have:=K6 P (L:=L) (hs a ze pre b h) fun x hx=>hs x (zf _ hx)
  rw[zap] at this
  exact this
noncomputable def fX (rs:List Road) (A:LA):Prop:=∀ x y c,Ak A (x,y)=some c->Wk rs x y c
theorem fX.lay {rs:List Road}{A:LA}(h:fX rs A){x y:Int}{c:Co}{mid:Option Int}(hc:∀ p,c=some p->Wk rs x y p):fX rs (layA A (x,y) c mid):=fun u w d hd=>by
 rw[GS] at hd
 split at hd
 ·rename_i e
  cases e
  rcases Bm (Ak A (x,y)) c with ⟨e,_⟩|⟨e,_⟩
  ·rw[e] at hd;exact h _ _ _ hd
  ·rw[e] at hd;exact hc d hd
 ·exact h _ _ _ hd
structure Over (m:Nat) (rs:List Road) (p:Int) (H:List Int) (A0 A:LA):Prop where
 ok:Fp m A
 sd:fX rs A
 le:∀ q,BN (Ak A q) (Ak A0 q)
 sm:∀ x y,(x∉H\/y∉H)->Ak A (x,y)=Ak A0 (x,y)
theorem Wy {m:Nat}{rs:List Road}{p:Int}{H:List Int}{A0 A:LA}(hp:p∉H) (hH:∀ x∈H,0<=x/\x < m) (h:Over m rs p H A0 A){u w:Int}(hu:u∈H) (hw:w∈H):Over m rs p H A0 (Q6 p u A w)/\(u≠w->BN (Ak (Q6 p u A w) (u,w)) (Aq (Ak A0 (u,p)) (Ak A0 (p,w)))):=by
 unfold Q6
 by_cases e:u=w
 ·rw[if_pos e];exact⟨h,fun z=>(z e).elim⟩
 ·rw[if_neg e]
  have e1:=h.sm u p (.inr hp)
  have e2:=h.sm p w (.inl hp)
  refine⟨⟨h.ok.lay ⟨e,hH u hu,hH w hw⟩,h.sd.lay fun c hc=>?_,fun q=>Ao (TH _ _ _ _ _) (h.le q),fun x y bM=>?_⟩,fun _=>?_⟩
  ·obtain⟨a,b,ha,hb,rfl⟩:=Fe hc
   exact (h.sd _ _ _ ha).trans (h.sd _ _ _ hb)
  ·rw[GS,if_neg (fun z=>by cases z;exact bM.elim (fun q=>q hu) fun q=>q hw)]
   exact h.sm x y bM
  ·rw[GS,if_pos rfl,e1,e2]
   exact EG _ _
theorem iL {p u:Int}{A:LA}{w:Int}(q:Int×Int):BN (Ak (Q6 p u A w) q) (Ak A q):=by
 unfold Q6
 split
 ·exact C4 _
 ·exact TH _ _ _ _ _
theorem iM {p u:Int}(q:Int×Int):∀(H:List Int) (A:LA),BN (Ak (H.foldl (Q6 p u) A) q) (Ak A q)
 |[],A=>C4 _
 |w::H,A=>Ao (iM q H (Q6 p u A w)) (iL q)
theorem mE {m:Nat}{rs:List Road}{p:Int}{H:List Int}{A0 A:LA}(hp:p∉H) (hH:∀ x∈H,0<=x/\x < m) (h:Over m rs p H A0 A){u:Int}(hu:u∈H):Over m rs p H A0 (fW p H A u)/\∀ w∈H,u≠w->BN (Ak (fW p H A u) (u,w)) (Aq (Ak A0 (u,p)) (Ak A0 (p,w))):=by
 unfold fW
 have:=K6 (L:=H) (pre:=[]) (f:=Q6 p u) (b:=A) (fun W A=>Over m rs p H A0 A/\∀ w∈W,u≠w->BN (Ak A (u,w)) (Aq (Ak A0 (u,p)) (Ak A0 (p,w)))) ⟨h,fun w hw=>by cases hw⟩ fun w hw W B hB=>by
  obtain⟨b1,b2⟩:=hB
  obtain⟨c1,c2⟩:=Wy hp hH b1 hu hw
  refine⟨c1,fun x hx af=>?_⟩
  rcases zy.mp hx with hx|hx
  ·exact Ao (iL _) (b2 x hx af)
  ·rw[zh.mp hx] at af ⊢
   exact c2 af
 exact this
theorem YV {m:Nat}{rs:List Road}{p:Int}{H:List Int}{A:LA}(hp:p∉H) (hH:∀ x∈H,0<=x/\x < m) (h1:Fp m A) (h2:fX rs A):Over m rs p H A (mD A p H)/\∀ u∈H,∀ w∈H,u≠w->BN (Ak (mD A p H) (u,w)) (Aq (Ak A (u,p)) (Ak A (p,w))):=by
 unfold mD
 have:=K6 (L:=H) (pre:=[]) (f:=fW p H) (b:=A) (fun U B=>Over m rs p H A B/\∀ u∈U,∀ w∈H,u≠w->BN (Ak B (u,w)) (Aq (Ak A (u,p)) (Ak A (p,w)))) ⟨⟨h1,h2,fun q=>C4 _,fun x y _=>rfl⟩,fun u hu=>by cases hu⟩ fun u hu U B hB=>by
  obtain⟨b1,b2⟩:=hB
  obtain⟨c1,c2⟩:=mE hp hH b1 hu
  refine⟨c1,fun x hx w hw af=>?_⟩
  rcases zy.mp hx with hx|hx
  ·exact Ao (iM _ H B) (b2 x hx w hw af)
  ·rw[zh.mp hx] at af ⊢
   exact c2 w hw af
 exact this
theorem Q7 {m:Nat}{rs:List Road}(Av:∀ r∈rs,Hu m r/\r.a≠r.b):Fp m (lay0 rs)/\fX rs (lay0 rs)/\∀ r∈rs,BN (Ak (lay0 rs) (r.a,r.b)) (C5 r):=by
 unfold lay0
 have:=K6 (L:=rs) (pre:=[]) (f:=fun A r=>layA A (r.a,r.b) (C5 r) none) (b:=[]) (fun W A=>Fp m A/\fX rs A/\∀ r∈W,BN (Ak A (r.a,r.b)) (C5 r)) ⟨⟨by simp,fun p hp=>by cases hp⟩,⟨(fun _ _ _ h=>by cases h),fun r hr=>by cases hr⟩⟩ fun r hr W B hB=>by
  obtain⟨b1,b2,b3⟩:=hB
  obtain⟨o1,o2⟩:=Av r hr
  refine⟨b1.lay ⟨o2,⟨o1.a0,o1.a1⟩,o1.b0,o1.b1⟩,b2.lay fun c hc=>?_,fun x hx=>?_⟩
  ·obtain⟨l,hl,rfl⟩:=Jl hc
   exact Wk.one hr hl
  ·rcases zy.mp hx with hx|hx
   ·exact Ao (TH _ _ _ _ _) (b3 x hx)
   ·rw[zh.mp hx,GS,if_pos rfl]
    exact EG _ _
 exact this
noncomputable def DD:List Int->Int->Nat
 |[],_=>0
 |a::l,x=>if a=x then 0 else DD l x + 1
theorem Vf:∀ {pre post:List Int}{p:Int},p∉pre->DD (pre++p::post) p=pre.length
 |[],post,p,_=>by simp[DD]
 |a::pre,post,p,h=>by
  rw[zu,not_or] at h
  rw[zbg,DD,if_neg (yL h.1),Vf h.2];rfl
theorem TK:∀ {pre post:List Int}{x:Int},x∈pre->DD (pre++post) x < pre.length
 |a::pre,post,x,h=>by
  rw[zbg,DD]
  by_cases e:a=x
  ·rw[if_pos e];simp
  ·rw[if_neg e,zp]
   have:=TK (post:=post) ((zu.mp h).resolve_left (yL e))
   omega
theorem Q8:∀ {pre post:List Int}{x:Int},x∉pre->pre.length<=DD (pre++post) x
 |[],post,x,_=>zW _
 |a::pre,post,x,h=>by
  rw[zu,not_or] at h
  rw[zbg,DD,if_neg (yL h.1),zp]
  have:=Q8 (post:=post) h.2
  omega
theorem Q9:∀ {L:List Int}{x y:Int},x∈L->y∈L->DD L x=DD L y->x=y
 |a::l,x,y,hx,hy,e=>by
  rw[DD,DD] at e
  by_cases h1:a=x
  ·by_cases h2:a=y
   ·rw[<-h1,<-h2]
   ·rw[if_pos h1,if_neg h2] at e;omega
  ·by_cases h2:a=y
   ·rw[if_neg h1,if_pos h2] at e;omega
   ·rw[if_neg h1,if_neg h2] at e
    exact Q9 ((zu.mp hx).resolve_left (yL h1)) ((zu.mp hy).resolve_left (yL h2)) (by omega)
theorem TM {L:List Int}{x:Int}(h:DD L x < L.length):x∈L:=by
 refine zah fun hn=>?_
 have:=Q8 (pre:=L) (post:=[]) hn
 rw[yW] at this
 omega
theorem YW:∀(L:List Int) (x:Int),DD L x<=L.length
 |[],_=>zB _
 |a::l,x=>by
  rw[DD,zp]
  split
  ·omega
  ·have:=YW l x;omega
theorem Lg:∀ {L:List Int}{p:Int},p∈L->∃ pre post,L=pre++p::post/\p∉pre
 |a::l,p,h=>by
  by_cases ha:a=p
  ·subst ha;exact⟨[],l,rfl,by simp⟩
  ·obtain⟨pre,post,e2,hn⟩:=Lg ((zu.mp h).resolve_left (yL ha))
   exact⟨a::pre,post,by rw[zbg,<-e2],by simp[yL ha,hn]⟩
theorem YX {L:List Int}{p:Int}(h:DD L p < L.length):∃ pre post,L=pre++p::post/\p∉pre/\∀ x,DD L p < DD L x->x∈L->x∈post:=by
 obtain⟨pre,post,e,hn⟩:=Lg (TM h)
 refine⟨pre,post,e,hn,fun x hr hx=>?_⟩
 subst e
 rw[Vf hn] at hr
 rcases zy.mp hx with hx|hx
 ·have:=TK (post:=p::post) hx;omega
 ·rcases zu.mp hx with rfl|hx
  ·rw[Vf hn] at hr;omega
  ·exact hx
theorem mF {m:Nat}{rs:List Road}{L:List Int}(hL:L.Nodup) (hr:∀ x∈L,0<=x/\x < m):∀(post pre:List Int) (A:LA),L=pre++post->Fp m A->fX rs A->(∀ r∈rs,BN (Ak A (r.a,r.b)) (C5 r))->
 (∀ pa p pb,L=pa++p::pb->pa.length < pre.length->∀ x∈pb,∀ y∈pb,x≠y->BN (Ak A (x,y)) (Aq (Ak A (x,p)) (Ak A (p,y))))->
 Fp m (TJ A post)/\fX rs (TJ A post)/\(∀ r∈rs,BN (Ak (TJ A post) (r.a,r.b)) (C5 r))/\∀ pa p pb,L=pa++p::pb->∀ x∈pb,∀ y∈pb,x≠y->BN (Ak (TJ A post) (x,y)) (Aq (Ak (TJ A post) (x,p)) (Ak (TJ A post) (p,y))):=by
 intro post
 induction post with
 |nil =>
  intro pre A e h1 h2 h3 h4
  rw[yW] at e
  refine⟨h1,h2,h3,fun pa p pb e2=>h4 pa p pb e2 ?_⟩
  rw[<-e,e2,zL,zp]
  omega
 |cons p post ih =>
  intro pre A e h1 h2 h3 h4
  rw[TJ]
  have hn:(pre++p::post).Nodup:=e▸hL
  rw[zK,yP] at hn
  have bK:∀ x∈post,0<=x/\x < m:=fun x hx=>hr x (by rw[e];simp[hx])
  obtain⟨o,ov⟩:=YV (p:=p) hn.2.1.1 bK h1 h2
  refine ih (pre++[p]) (mD A p post) (by rw[e];simp) o.ok o.sd (fun r bq=>Ao (o.le _) (h3 r bq)) fun pa q pb e2 aj x hx y hy af=>?_
  rw[zL,za9] at aj
  by_cases hq:pa.length < pre.length
  ·-- an ly one
   have vt:q∉post:=fun ez=>by
    have e3:pre++p::post=pa++q::pb:=by rw[<-e,e2]
    have q1:q∈pre:=by
     have:=congrArg (fun l=>l[pa.length]?) e3
     rw[za0 hq,zai (zB _),Nat.sub_self] at this
     exact zk this
    exact hn.2.2 q q1 q (zf _ ez) rfl
   rw[o.sm x q (.inr vt),o.sm q y (.inl vt)]
   exact Ao (o.le _) (h4 pa q pb e2 hq x hx y hy af)
  ·have a6:pa.length=pre.length:=by omega
   have e3:pa++q::pb=pre++p::post:=by rw[<-e2,e]
   obtain⟨rfl,e4⟩:=List.append_inj e3 a6
   cases e4
   rw[o.sm x p (.inr hn.2.1.1),o.sm p y (.inl hn.2.1.1)]
   exact ov x hx y hy af
theorem Ni {m:Nat}{rs:List Road}{L:List Int}(hL:L.Perm (AU m)) (Av:∀ r∈rs,Hu m r/\r.a≠r.b):Fp m (BS rs L)/\Sz m rs (DD L) (fun x y=>Ak (BS rs L) (x,y)):=by
 have o8:L.Nodup:=IM hL
 obtain⟨a1,a2,a3⟩:=Q7 Av
 obtain⟨b1,b2,b3,b4⟩:=mF o8 (fun x hx=>(B4 hL).mp hx) L [] (lay0 rs) rfl a1 a2 a3 (fun pa p pb _ h=>by simp at h)
 refine⟨b1,fun x y c h=>?_,b3,fun p x y af h1 h2=>?_,fun x y x0 x1 y0 y1 e=>Q9 ((B4 hL).mpr ⟨x0,x1⟩) ((B4 hL).mpr ⟨y0,y1⟩) e,fun x y c h=>Wk.nn (fun r hr=>(Av r hr).1) h⟩
 ·have hm:(x,y)∈(TJ (lay0 rs) L).map zP:=by
   rw[<-HV]
   unfold Ak at h
   cases q:AG (BS rs L) (x,y) with
   |none=>rw[q] at h;cases h
   |some z=>unfold BS at q;rw[q];rfl
  have:=b1.rg _ hm
  exact⟨b2 _ _ _ h,this.1,this.2.1,this.2.2⟩
 ·have be:∀ {x y:Int} {c:Int×Int},Ak (BS rs L) (x,y)=some c->x∈L/\y∈L:=fun {x y c} h=>by
   have hm:(x,y)∈(TJ (lay0 rs) L).map zP:=by
    rw[<-HV]
    unfold Ak at h
    cases q:AG (BS rs L) (x,y) with
    |none=>rw[q] at h;cases h
    |some z=>unfold BS at q;rw[q];rfl
   have:=b1.rg _ hm
   exact⟨(B4 hL).mpr this.2.1,(B4 hL).mpr this.2.2⟩
  have a6:DD L p < L.length:=zC h1 (YW L x)
  obtain⟨pre,post,e,hn,d8⟩:=YX a6
  cases q1:Ak (BS rs L) (x,p) with
  |none=>cases Ak (BS rs L) (x,y)<;>exact trivial
  |some c1 =>
   cases q2:Ak (BS rs L) (p,y) with
   |none=>cases Ak (BS rs L) (x,y)<;>exact trivial
   |some c2 =>
    have r:=b4 pre p post e x (d8 x h1 (be q1).1) y (d8 y h2 (be q2).2) af
    rw[<-q1,<-q2]
    exact r
end L2
namespace L2
noncomputable abbrev CA:=List ((Int×Int)×(Int×Int))
noncomputable def Md (C:CA):D:=.Bi true (C.map fun kv=>pD kv.1) (C.map fun kv=>cst (some kv.2))
noncomputable def nL (C:CA):OT:=.Bi true (C.map fun kv=>pD kv.1) ((C.map fun kv=>cst (some kv.2)).map .sh)
noncomputable abbrev RA:=List (Int×(Int×Int))
noncomputable def YY (R:RA):D:=.Bi false (R.map fun kv=>D.int kv.1) (R.map fun kv=>cst (some kv.2))
noncomputable def Zm (R:RA):OT:=.Bi false (R.map fun kv=>D.int kv.1) ((R.map fun kv=>cst (some kv.2)).map .sh)
theorem Qa (A:LA):er (IZ A)=Lf A:=IL
theorem Qb (C:CA):er (nL C)=Md C:=IL
theorem Qc (R:RA):er (Zm R)=YY R:=IL
theorem KO (i:Int):keyOk false (.int i)=true:=rfl
theorem Qd (A:LA) (p:Int×Int) (neg:Bool):Js neg (pD p) (Lf A)=.ok (.bl (if neg=true then !(AG A p).isSome else (AG A p).isSome)):=by
 unfold Lf Js
 dsimp only
 rw[if_pos (GO p),K4 GN]
theorem Qe {A:LA}{p:Int×Int}{v:(Int×Int)×Option Int}(h:AG A p=some v):B5 (Lf A) (pD p)=.ok (Ww v):=by
 unfold Lf B5
 dsimp only
 rw[if_pos (GO p),GR GN,h];rfl
theorem mG (C:CA) (p:Int×Int) (neg:Bool):Js neg (pD p) (Md C)=.ok (.bl (if neg=true then !(AG C p).isSome else (AG C p).isSome)):=by
 unfold Md Js
 dsimp only
 rw[if_pos (GO p),K4 GN]
theorem mH {C:CA}{p:Int×Int}{c:Int×Int}(h:AG C p=some c):B5 (Md C) (pD p)=.ok (cst (some c)):=by
 unfold Md B5
 dsimp only
 rw[if_pos (GO p),GR (vf:=fun c=>cst (some c)) GN,h];rfl
theorem mI (C:CA) (p:Int×Int):P9 (Md C) (.ok (pD p))=.ok (cst (AG C p)):=by
 unfold Md P9
 simp only[M.A7]
 rw[if_pos (GO p),GR (vf:=fun c=>cst (some c)) GN]
 cases AG C p<;>rfl
theorem mJ (R:RA) (p:Int) (neg:Bool):Js neg (.int p) (YY R)=.ok (.bl (if neg=true then !(AG R p).isSome else (AG R p).isSome)):=by
 unfold YY Js
 dsimp only
 rw[if_pos (KO p),K4 (kf:=D.int) K5]
theorem mK {R:RA}{p:Int}{c:Int×Int}(h:AG R p=some c):B5 (YY R) (.int p)=.ok (cst (some c)):=by
 unfold YY B5
 dsimp only
 rw[if_pos (KO p),GR (kf:=D.int) (vf:=fun c=>cst (some c)) K5,h];rfl
theorem YZ (R:RA) (p:Int):P9 (YY R) (.ok (.int p))=.ok (cst (AG R p)):=by
 unfold YY P9
 simp only[M.A7]
 rw[if_pos (KO p),GR (kf:=D.int) (vf:=fun c=>cst (some c)) K5]
 cases AG R p<;>rfl
theorem Z0 (A:LA) (p:Int×Int) (v:(Int×Int)×Option Int):putD (A.map fun kv=>pD kv.1) (A.map fun kv=>Ww kv.2) (pD p) (Ww v)=((Dv A p v).map (fun kv=>pD kv.1),(Dv A p v).map fun kv=>Ww kv.2):=Nh GN A p v
theorem mL (R:RA) (p:Int) (c:Int×Int):putD (R.map fun kv=>D.int kv.1) (R.map fun kv=>cst (some kv.2)) (.int p) (cst (some c))=((Dv R p c).map (fun kv=>D.int kv.1),(Dv R p c).map fun kv=>cst (some kv.2)):=Nh (kf:=D.int) (vf:=fun c=>cst (some c)) K5 R p c
theorem Vg {α:Type}(k v:α->D):∀ l:List α,Wv (l.map fun x=>.tup [k x,v x])=some (l.map fun x=>(k x,v x))
 |[]=>rfl
 |x::l=>by rw[zg,Wv,Vg k v l];rfl
theorem iN:∀(C C0:CA),((C0++C).map zP).Nodup->(C.map fun kv=>(pD kv.1,cst (some kv.2))).foldl (fun z kv=>putD z.1 z.2 kv.1 kv.2) (C0.map (fun kv=>pD kv.1),C0.map fun kv=>cst (some kv.2))=((C0++C).map (fun kv=>pD kv.1),(C0++C).map fun kv=>cst (some kv.2))
 |[],C0,_=>by simp
 |kv::C,C0,hn=>by
  obtain⟨p,c⟩:=kv
  rw[zg,zV]
  dsimp only
  have h0:AG C0 p=none:=by
   rw[YR]
   intro hm
   rw[zN,zK] at hn
   exact hn.2.2 p hm p (by simp) rfl
  have e:Dv C0 p c=C0++[(p,c)]:=by unfold Dv;rw[h0];rfl
  rw[Nh (vf:=fun c=>cst (some c)) GN,e,iN C (C0++[(p,c)]) (by rw[zap];exact hn),zap]
  rfl
theorem Z1 {C:CA}(hn:(C.map zP).Nodup) (hl:C.length<=1000):fP (.lst (C.map fun kv=>.tup [pD kv.1,cst (some kv.2)]))=.ok (nL C):=by
 unfold fP
 dsimp only
 rw[Vg (fun kv:(Int×Int)×(Int×Int)=>pD kv.1) (fun kv=>cst (some kv.2))]
 dsimp only
 have e:=iN C [] hn
 rw[if_pos ⟨by rw[zc];exact hl,by rw[List.all_map];exact zbh.mpr fun x _=>rfl⟩]
 have e2:rT (C.map fun kv=>(pD kv.1,cst (some kv.2)))=(C.map (fun kv=>pD kv.1),C.map fun kv=>cst (some kv.2)):=e
 rw[e2];rfl
noncomputable def Ba (m:Nat) (rs:List Road) (L:List Int) (A:LA) (K:List (Int×Int)):D:=.ins "Ladder" ["own_map","own_order","laid","kept_ones"] [As m rs,.lst (L.map D.int),Lf A,.lst (K.map pD)]
structure Cs (m:Nat) (rs:List Road) (L:List Int) (A:LA) (K:List (Int×Int)):Prop where
 m1:1<=m
 m2:m<=16
 rl:rs.length<=60
 ok:∀ r∈rs,Hu m r/\r.a≠r.b
 pm:L.Perm (AU m)
 la:A=BS rs L
 kn:K.Nodup
 km:∀ p,p∈K↔∃ c,Ak A p=some c/\BQ rs p.1 p.2 (some c)
theorem Cs.tV {m:Nat}{rs:List Road}{L:List Int}{A:LA}{K:List (Int×Int)}(h:Cs m rs L A K):Fp m A:=by
 rw[h.la];exact (Ni h.pm h.ok).1
theorem Cs.iK {m:Nat}{rs:List Road}{L:List Int}{A:LA}{K:List (Int×Int)}(h:Cs m rs L A K):Sz m rs (DD L) (fun x y=>Ak A (x,y)):=by
 rw[h.la];exact (Ni h.pm h.ok).2
theorem Fl {A:LA}{p:Int×Int}{c:Int×Int}(h:Ak A p=some c):p∈A.map zP:=by
 rw[<-HV]
 unfold Ak at h
 cases q:AG A p with
 |none=>rw[q] at h;cases h
 |some z=>rfl
theorem Cs.WJ {m:Nat}{rs:List Road}{L:List Int}{A:LA}{K:List (Int×Int)}(h:Cs m rs L A K){p:Int×Int}(hp:p∈K):p.1≠p.2/\(0<=p.1/\p.1 < m)/\0<=p.2/\p.2 < m:=by
 obtain⟨c,hc,_⟩:=(h.km p).mp hp
 exact h.tV.rg p (Fl hc)
theorem Cs.kl {m:Nat}{rs:List Road}{L:List Int}{A:LA}{K:List (Int×Int)}(h:Cs m rs L A K):K.length < 1000 :=
 Cp.len (m:=m) ⟨h.kn,fun x hx=>(h.WJ hx).1 rfl,fun q hq=>⟨(h.WJ hq).2.1,(h.WJ hq).2.2⟩⟩ (by have:=h.m2;omega)
noncomputable def Ii (A:LA) (K:List (Int×Int)):CA:=K.map fun p=>(p,(Ak A p).getD (0,0))
theorem Nj (A:LA) (K:List (Int×Int)):(Ii A K).map zP=K:=by
 unfold Ii
 rw[yM]
 exact (List.map_congr_left fun p _=>rfl).trans (List.map_id K)
theorem Cs.kept {m:Nat}{rs:List Road}{L:List Int}{A:LA}{K:List (Int×Int)}(h:Cs m rs L A K):Kept rs (fun x y=>Ak A (x,y)) (fun x y=>AG (Ii A K) (x,y)):=fun x y c=>by
 have hn:((Ii A K).map zP).Nodup:=by rw[Nj];exact h.kn
 constructor
 ·intro hf
  have hm:=Q5 hf
  unfold Ii at hm
  obtain⟨p,hp,e⟩:=zE.mp hm
  obtain⟨c',hc,ce⟩:=(h.km p).mp hp
  rw[hc] at e
  cases e
  exact⟨hc,ce⟩
 ·rintro ⟨h1,h2⟩
  refine YS hn ?_
  unfold Ii
  exact zE.mpr ⟨(x,y),(h.km (x,y)).mpr ⟨c,h1,h2⟩,by rw[show Ak A (x,y)=some c from h1];rfl⟩
noncomputable def RX (C:CA):CA:=C.map fun kv=>((kv.1.2,kv.1.1),kv.2)
theorem Wz {C:CA}(h:(C.map zP).Nodup):((RX C).map zP).Nodup:=by
 have e:(RX C).map zP=(C.map zP).map fun p=>(p.2,p.1):=by
  unfold RX;rw[yM,yM];rfl
 rw[e]
 exact (List.pairwise_map.mpr (h.imp fun {a b} ig e=>ig (by cases a;cases b;cases e;rfl)))
theorem Qf (x y:Int):∀ C:CA,AG (RX C) (x,y)=AG C (y,x)
 |[]=>rfl
 |((a,b),c)::C=>by
  unfold RX
  rw[zg,AG,AG]
  have:=Qf x y C
  unfold RX at this
  rw[this]
  by_cases h:a=y/\b=x
  ·rw[if_pos (by rw[h.1,h.2]),if_pos (by rw[h.1,h.2])]
  ·rw[if_neg (fun e=>h (by cases e;exact⟨rfl,rfl⟩)),if_neg (fun e=>h (by cases e;exact⟨rfl,rfl⟩))]
theorem tW (p q:Int×Int):YI (cst (some p)) (cst (some q))=.ok (.bl (decide (p.1 < q.1\/(p.1=q.1/\p.2 < q.2)))):=by
 rw[<-F1];rfl
theorem TN {m:M Out}{t r:OT}(h:WP m (fun ρ=>GJ ρ=some t/\OT.sh .AA=r) (fun o=>match o with | .Fd r' ρ=>GJ ρ=some t/\r'=r | _=>False) (fun _=>False)):Eh m=.ok (t,r):=by
 cases m with
 |bad=>exact h.elim
 |ex x=>exact h.elim
 |ok o =>
  cases o with
  |next ρ=>obtain⟨h1,h2⟩:=(show GJ ρ=some t/\OT.sh .AA=r from h);unfold Eh;dsimp only;rw[h1,<-h2]
  |Fd r' ρ=>obtain⟨h1,h2⟩:=(show GJ ρ=some t/\r'=r from h);unfold Eh;dsimp only;rw[h1,<-h2]
  |ret d=>exact h.elim
  |CK d=>exact h.elim
  |brk d=>exact h.elim
  |cont d=>exact h.elim
theorem KQ {F:OT->List D->M (OT×OT)}{ρ:Ab}{p:Option Nat}{t t2 r:OT}{a7:List D}{i:Nat}(h:ρ[i]? =some (some (.ow (.tree p t)))) (hN:Yj t=true) (hF:F t a7=.ok (t2,r)):Ry i F ρ [] a7=.ok (ρ.set i (some (toCl p t2)),r):=by
 rw[Yk h rfl rfl hN hF,Ff]
theorem DY {A:LA}{p:Option Nat}{ρ:Ab}:G9 0 (some (.ow (.tree p (IZ A)))::ρ) []=.ok (true,A.map (fun kv=>pD kv.1),A.map fun kv=>Ww kv.2):=D8
theorem HW {R:RA}{p:Option Nat}{ρ:Ab}:G9 0 (some (.ow (.tree p (Zm R)))::ρ) []=.ok (false,R.map (fun kv=>D.int kv.1),R.map fun kv=>cst (some kv.2)):=D8
theorem Fp.ov {m:Nat}{A:LA}(h:Fp m A){p u w:Int}(hu:0<=u/\u < m) (hw:0<=w/\w < m):Fp m (Q6 p u A w):=by
 unfold Q6
 split
 ·exact h
 ·rename_i e;exact h.lay ⟨e,hu,hw⟩
theorem Fp.ou {m:Nat}{p u:Int}(hu:0<=u/\u < m):∀ {H:List Int}{A:LA},Fp m A->(∀ x∈H,0<=x/\x < m)->Fp m (H.foldl (Q6 p u) A)
 |[],A,h,_=>h
 |w::H,A,h,hH=>by
  have r:=Fp.ou (A:=Q6 p u A w) (H:=H) (p:=p) hu (h.ov hu (hH w ze)) fun x hx=>hH x (zf _ hx)
  exact r
theorem Ek {α β:Type}{f:β->α->β}{l:List α}{i:Nat}{x:α}{b:β}(h:l[i]? =some x):(l.take (i + 1)).foldl f b=f ((l.take i).foldl f b) x:=by
 rw[yZ,h,Option.toList_some,List.foldl_append];rfl
theorem Fp.lo {m:Nat}{p:Int}{H0:List Int}(h0:∀ x∈H0,0<=x/\x < m):∀ {H:List Int}{A:LA},Fp m A->(∀ x∈H,0<=x/\x < m)->Fp m (H.foldl (fW p H0) A)
 |[],A,h,_=>h
 |w::H,A,h,hH=>by
  have r:=Fp.lo (p:=p) (A:=fW p H0 A w) (H:=H) h0 (Fp.ou (hH w ze) h h0) fun x hx=>hH x (zf _ hx)
  exact r
theorem Me (c:Co):Sx (.ok (.sh (cst c)))=.ok (.sh (cst c)):=by
 cases c<;>rfl
noncomputable def tX (a b:List Co×Bool):Prop:=b.2=true/\(a.2=false\/(a.2=true/\NR ltN a.1 b.1))
theorem mM (x:List Co):Acc tX (x,false):=.intro _ fun y h=>by cases h.1
theorem mO (x:List Co):Acc tX (x,true):=by
 have:=VY x
 induction this with
 |intro x _ ih =>
  refine .intro _ fun y h=>?_
  obtain⟨y,b⟩:=y
  rcases h.2 with e|⟨e,h2⟩
  ·dsimp only at e;subst e;exact mM y
  ·dsimp only at e;subst e;exact ih y h2
theorem TQ (n:Nat):Cm 0 n=(AU n).map D.int:=by rw[MH,N5]
theorem Nb.vI {m:Nat}{r:Road}(h:Nb m r):Hu m r/\r.a≠r.b:=⟨⟨h.a0,h.a1,h.b0,h.b1,fun l hl=>(h.l0 l hl).1⟩,h.ab⟩
noncomputable def KP (rs:List Road) (A:LA) (p:Int×Int):Prop:=∃ c,Ak A p=some c/\BQ rs p.1 p.2 (some c)
noncomputable def qT (A:LA) (cs:List Co) (u w:Int):Bool:=match Ak A (u,w) with
 |none=>false
 |some c=>decide (some c=atC cs w)
theorem Z2 {m s:Nat}{rs:List Road}{cs:List Co}{A:LA}(hR:Right m s rs cs) (Av:∀ r∈rs,Hu m r){w:Int}(h0:0<=w) (h1:w < m):qT A cs s w=true↔KP rs A (s,w):=by
 have hm:=hR.Y0 Av h0 h1
 unfold qT KP
 cases q:Ak A ((s:Int),w) with
 |none=>simp
 |some c =>
  dsimp only
  constructor
  ·intro h
   have e:=of_decide_eq_true h
   exact⟨c,rfl,e▸hm⟩
  ·rintro ⟨c',e,h⟩
   cases e
   exact decide_eq_true (h.Cr hm)
theorem mP {m:Nat}{rs:List Road}{A:LA}{K:List (Int×Int)}(hA:Fp m A) (hm:m<=20) (hn:K.Nodup) (hK:∀ p∈K,KP rs A p):K.length < 1000:=by
 have hr:∀ p∈K,p.1≠p.2/\(0<=p.1/\p.1 < m)/\0<=p.2/\p.2 < m:=fun p hp=>by
  obtain⟨c,hc,_⟩:=hK p hp
  exact hA.rg p (Fl hc)
 exact Cp.len (m:=m) ⟨hn,fun x hx=>(hr _ hx).1 rfl,fun q hq=>⟨(hr q hq).2.1,(hr q hq).2.2⟩⟩ hm
theorem KR:∀ ds:List D,(∀ d∈ds,Jg d=true)->G8 (ds.map .sh)=true
 |[],_=>rfl
 |d::ds,h=>by
  rw[zg,G8,GI,h d ze,KR ds fun x hx=>h x (zf _ hx)];rfl
theorem Nk {ds:List D}(h:∀ d∈ds,Jg d=true):Sx (.ok (.lst (ds.map .sh)))=.ok (.lst (ds.map .sh)):=by
 unfold Sx
 simp only[M.A7]
 rw[GI,KR ds h];rfl
theorem Z3 (L:List Int):Sx (.ok (.lst ((L.map D.int).map .sh)))=.ok (.lst ((L.map D.int).map .sh)):=Nk fun d hd=>by
 obtain⟨x,_,rfl⟩:=zE.mp hd;rfl
theorem fY (K:List (Int×Int)):Sx (.ok (.lst ((K.map pD).map .sh)))=.ok (.lst ((K.map pD).map .sh)):=Nk fun d hd=>by
 obtain⟨x,_,rfl⟩:=zE.mp hd;exact Yr x
theorem Z4 (cs:List Co):Sx (.ok (.lst ((cs.map cst).map .sh)))=.ok (.lst ((cs.map cst).map .sh)):=Nk fun d hd=>by
 obtain⟨x,_,rfl⟩:=zE.mp hd;exact UN x
theorem mQ (v:(Int×Int)×Option Int):Jg (Ww v)=true:=by
 obtain⟨c,l⟩:=v
 cases l<;>rfl
theorem fZ (A:LA):Sx (.ok (IZ A))=.ok (IZ A):=by
 unfold Sx IZ
 simp only[M.A7]
 rw[GI,KR _ fun d hd=>by
  obtain⟨x,_,rfl⟩:=zE.mp hd;exact mQ x.2]
 rfl
theorem Qg {L:List Int}(hn:L.Nodup){i:Nat}{x:Int}(h:L[i]? =some x):DD L x=i:=by
 have aj:=(zA.mp h).1
 have e:L=L.take i++x::L.drop (i + 1):=by
  have h2:L.drop i=x::L.drop (i + 1):=by
   rw[zbc aj]
   rw[zt aj] at h
   rw[zJ h]
  rw[<-h2,za8]
 have hx:x∉L.take i:=fun hm=>by
  rw[e,zK] at hn
  exact hn.2.2 x hm x ze rfl
 rw[e,Vf hx,yY]
 omega
theorem Vh {L:List Int}(hn:L.Nodup){i:Nat}{y:Int}(h:y∈L.drop i):i<=DD L y:=by
 have hy:y∉L.take i:=fun hm=>by
  rw[<-za8 i L,zK] at hn
  exact hn.2.2 y hm y h rfl
 have h1:=Q8 (pre:=L.take i) (post:=L.drop i) hy
 rw[za8,yY] at h1
 have h2:L.drop i≠[]:=fun e=>by rw[e] at h;cases h
 have h3:i < L.length:=by
  rw[Ne,List.drop_eq_nil_iff] at h2
  omega
 omega
theorem gB {L:List Int}{i:Nat}{y:Int}(h:y∈L) (hr:i<=DD L y):y∈L.drop i:=by
 rw[<-za8 i L] at h
 rcases zy.mp h with h|h
 ·have h1:=TK (post:=L.drop i) h
  rw[za8,yY] at h1
  omega
 ·exact h
structure QJ (L:List Int) (C:CA) (s:Int) (i:Nat) (R:RA):Prop where
 nd:(R.map zP).Nodup
 rg:∀ k∈R.map zP,k∈L
 st:BN (AG R s) (some (0,0))
 sd:∀ y c,AG R y=some c->O3 (fun x y=>AG C (x,y)) (DD L) s y c
 cl:∀ x y,DD L x < i->DD L x < DD L y->BN (AG R y) (Aq (AG R x) (AG C (x,y)))
structure iO (L:List Int) (C:CA) (s:Int) (i:Nat) (x:Int) (c0:Int×Int) (W:List Int) (R0 R:RA):Prop where
 nd:(R.map zP).Nodup
 rg:∀ k∈R.map zP,k∈L
 sd:∀ y c,AG R y=some c->O3 (fun x y=>AG C (x,y)) (DD L) s y c
 le:∀ y,BN (AG R y) (AG R0 y)
 sm:∀ y,DD L y<=i->AG R y=AG R0 y
 cw:∀ y∈W,BN (AG R y) (Aq (some c0) (AG C (x,y)))
theorem iO.put {L:List Int}{C:CA}{s:Int}{i:Nat}{x:Int}{c0:Int×Int}{W:List Int}{R0 R:RA}(h:iO L C s i x c0 W R0 R){y:Int}{d v:Int×Int}(hy:y∈L) (hr:i < DD L y) (hx:DD L x=i) (pw:AG R0 x=some c0) (hd:AG C (x,y)=some d) (hv:DC (AG R y) (some (c0.1 + d.1,c0.2 + d.2))=some v):iO L C s i x c0 (W++[y]) R0 (Dv R y v):=by
 have hle:BN (some v) (AG R y):=hv▸EF _ _
 refine⟨KN h.nd,fun k hk=>(Ng hk).elim (h.rg k) fun e=>e▸hy,fun z c hz=>?_,fun z=>?_,fun z hz=>?_,fun z hz=>?_⟩
 ·rw[HU] at hz
  split at hz
  ·rename_i e
   subst e
   cases hz
   rcases Bm (AG R z) (some (c0.1 + d.1,c0.2 + d.2)) with ⟨e,_⟩|⟨e,_⟩
   ·rw[hv] at e;exact h.sd z _ e.symm
   ·rw[hv] at e
    cases e
    have ax:=h.sd x c0 (by rw[h.sm x (by omega)];exact pw)
    exact .snoc ax (by omega) hd
  ·exact h.sd z c hz
 ·rw[HU]
  split
  ·rename_i e;subst e;exact Ao hle (h.le z)
  ·exact h.le z
 ·rw[HU,if_neg (fun e=>by subst e;omega)]
  exact h.sm z hz
 ·rw[HU]
  split
  ·rename_i e
   subst e
   rw[hd]
   exact hv▸EG _ _
  ·rename_i e
   rcases zy.mp hz with hz|hz
   ·exact h.cw z hz
   ·exact (e (zh.mp hz)).elim
theorem iO.skip {L:List Int}{C:CA}{s:Int}{i:Nat}{x:Int}{c0:Int×Int}{W:List Int}{R0 R:RA}(h:iO L C s i x c0 W R0 R){y:Int}(hd:AG C (x,y)=none):iO L C s i x c0 (W++[y]) R0 R :=
 ⟨h.nd,h.rg,h.sd,h.le,h.sm,fun z hz=>by
  rcases zy.mp hz with hz|hz
  ·exact h.cw z hz
  ·rw[zh.mp hz,hd];cases AG R y<;>exact trivial⟩
theorem QJ.go {L:List Int}{C:CA}{s:Int}{i:Nat}{x:Int}{c0:Int×Int}{R0 R:RA}(hC:∀ p c,AG C p=some c->p.2∈L) (h0:QJ L C s i R0) (hx:L[i]? =some x) (hn:L.Nodup) (hc:AG R0 x=some c0) (h:iO L C s i x c0 (L.drop (i + 1)) R0 R):QJ L C s (i + 1) R:=by
 have ii:=Qg hn hx
 refine⟨h.nd,h.rg,Ao (h.le s) h0.st,h.sd,fun u y hu hy=>?_⟩
 by_cases e:DD L u < i
 ·rw[h.sm u (by omega)]
  exact Ao (h.le y) (h0.cl u y e hy)
 ·have e2:DD L u=i:=by omega
  have hi:=(zA.mp hx).1
  have qo:u∈L:=TM (by omega)
  have eu:u=x:=Q9 qo (zk hx) (by omega)
  subst eu
  rw[h.sm u (by omega),hc]
  cases q:AG C (u,y) with
  |none=>cases AG R y<;>exact trivial
  |some d =>
   have:=h.cw y (gB (hC _ _ q) (by omega))
   rw[q] at this
   exact this
theorem QJ.skip {L:List Int}{C:CA}{s:Int}{i:Nat}{x:Int}{R:RA}(h0:QJ L C s i R) (hx:L[i]? =some x) (hn:L.Nodup) (hc:AG R x=none):QJ L C s (i + 1) R:=by
 have ii:=Qg hn hx
 refine⟨h0.nd,h0.rg,h0.st,h0.sd,fun u y hu hy=>?_⟩
 by_cases e:DD L u < i
 ·exact h0.cl u y e hy
 ·have hi:=(zA.mp hx).1
  have eu:u=x:=Q9 (TM (by omega)) (zk hx) (by omega)
  subst eu
  rw[hc]
  cases AG C (u,y)<;>cases AG R y<;>exact trivial
theorem QJ.start {L:List Int}{C:CA}{s:Int}(hs:s∈L):QJ L C s 0 [(s,(0,0))]:=by
 refine⟨by simp,fun k hk=>by simp at hk;rw[hk];exact hs,by simp[AG,BN],fun y c h=>?_,fun x y h=>by omega⟩
 simp only[AG] at h
 split at h
 ·rename_i e;subst e;cases h;exact .nil
 ·cases h
theorem QJ.vJ {m:Nat}{L:List Int}{C:CA}{s:Int}{R:RA}(h:QJ L C s L.length R) (hC:∀ p c,AG C p=some c->p.1∈L/\p.2∈L):rV (DD L) (fun x y=>AG C (x,y)) s (AG R):=by
 refine⟨h.st,fun x y hr=>?_,h.sd⟩
 cases q:AG C (x,y) with
 |none=>cases AG R x<;>cases AG R y<;>exact trivial
 |some d =>
  have hx:DD L x < L.length:=zC hr (YW L y)
  have:=h.cl x y hx hr
  rw[q] at this
  exact this
structure Z5 (m:Nat) (L:List Int) (C:CA) (s:Int) (R:RA) (W:List Int) (T:List Co):Prop where
 len:T.length=m
 no:∀ x:Int,0<=x->x < m->x∉W->atC T x=none
 top:∀ x∈W,BN (atC T x) (AG R x)
 cl:∀ x∈W,∀ y∈W,DD L y < DD L x->BN (atC T y) (Aq (atC T x) (AG C (x,y)))
 sd:∀(x:Int) c,0<=x->x < m->atC T x=some c->∃ t n c1 c2,O3 (fun x y=>AG C (x,y)) (DD L) s t c1/\RU (fun x y=>AG C (x,y)) (DD L) t n x c2/\c=(c1.1 + c2.1,c1.2 + c2.2)
theorem Z5.step {m:Nat}{L:List Int}{C:CA}{s:Int}{R:RA}{W:List Int}{T:List Co}(hR:∀ y c,AG R y=some c->O3 (fun x y=>AG C (x,y)) (DD L) s y c) (h:Z5 m L C s R W T){y:Int}(qq:0<=y) (xk:y < m) (qr:y∉W) (hW:∀ x∈W,(0<=x/\x < m)/\DD L y < DD L x) :
 Z5 m L C s R (W++[y]) (T.set y.toNat (FA (AG R y::W.map fun x=>Aq (atC T x) (AG C (x,y))))):=by
 obtain⟨v,hv⟩:∃ v,v=FA (AG R y::W.map fun x=>Aq (atC T x) (AG C (x,y))):=⟨_,rfl⟩
 rw[<-hv]
 have bp:∀ i:Int,0<=i->atC (T.set y.toNat v) i=if i=y then v else atC T i:=fun i hi=>Hv qq hi (by rw[h.len];exact xk)
 have bM:∀ x∈W,x≠y:=fun x hx e=>qr (e▸hx)
 refine⟨by rw[yQ];exact h.len,fun x h0 h1 hx=>?_,fun x hx=>?_,fun x hx z hz hr=>?_,fun x c h0 h1 hx=>?_⟩
 ·rw[zy,not_or] at hx
  rw[bp x h0,if_neg (fun e=>hx.2 (zh.mpr e))]
  exact h.no x h0 h1 hx.1
 ·rcases zy.mp hx with hx|hx
  ·rw[bp x (hW x hx).1.1,if_neg (bM x hx)];exact h.top x hx
  ·have e:=zh.mp hx
   subst e
   rw[bp x qq,if_pos rfl,hv]
   exact LM ze
 ·rcases zy.mp hx with ax|ax
  ·rcases zy.mp hz with bB|bB
   ·rw[bp x (hW x ax).1.1,if_neg (bM x ax),bp z (hW z bB).1.1,if_neg (bM z bB)];exact h.cl x ax z bB hr
   ·have e:=zh.mp bB
    rw[e] at hr ⊢
    rw[bp x (hW x ax).1.1,if_neg (bM x ax),bp y qq,if_pos rfl,hv]
    exact LM (zf _ (zE.mpr ⟨x,ax,rfl⟩))
  ·have e:=zh.mp ax
   rw[e] at hr
   rcases zy.mp hz with bB|bB
   ·have:=(hW z bB).2;omega
   ·rw[zh.mp bB] at hr
    omega
 ·rw[bp x h0] at hx
  split at hx
  ·rename_i e
   subst e
   rw[hv] at hx
   rcases Ji (AG R x::W.map fun z=>Aq (atC T z) (AG C (z,x))) with e|e
   ·rw[e] at hx;cases hx
   ·rw[hx] at e
    rcases zu.mp e with e|e
    ·exact⟨x,0,c,(0,0),hR x c e.symm,.nil,by simp⟩
    ·obtain⟨z,hz,e⟩:=zE.mp e
     obtain⟨p,q,e1,e2,rfl⟩:=Fe e
     obtain⟨t,n,c1,c2,g1,g2,rfl⟩:=h.sd z p (hW z hz).1.1 (hW z hz).1.2 e1
     exact⟨t,n + 1,c1,_,g1,.snoc g2 (hW z hz).2 e2,by simp only[zb8]⟩
  ·exact h.sd x c h0 h1 hx
theorem Z5.start {m:Nat}{L:List Int}{C:CA}{s:Int}{R:RA}:Z5 m L C s R [] (zw m none):=by
 have d5:∀ x:Int,atC (zw m none) x=none:=fun x=>by
  unfold atC
  rw[zD,zad]
  split<;>rfl
 exact⟨by simp,fun x _ _ _=>d5 x,(fun x hx=>by cases hx),(fun x hx=>by cases hx),fun x c _ _ h=>by rw[d5] at h;cases h⟩
end L2
namespace L2
theorem mR {a b g i:Int}(ha:0<=a/\a < Le) (hb:0<=b/\b < Le) (hg:0<=g/\g < Le) (h0:0<=i) (h1:i < 8):∃ l:Option Int,B5 (.lst [.AA,.int 0,.int 0,.int 1,.int a,.int b,.int g,.int g]) (.int i)=.ok (GH l)/\∀ z,l=some z->0<=z/\z < Le:=by
 have ht:=Q2
 have hi:i=0\/i=1\/i=2\/i=3\/i=4\/i=5\/i=6\/i=7:=by omega
 rcases hi with rfl|rfl|rfl|rfl|rfl|rfl|rfl|rfl
 ·exact⟨none,rfl,fun z e=>by cases e⟩
 ·exact⟨some 0,rfl,fun z e=>by cases e;omega⟩
 ·exact⟨some 0,rfl,fun z e=>by cases e;omega⟩
 ·exact⟨some 1,rfl,fun z e=>by cases e;omega⟩
 ·exact⟨some a,rfl,fun z e=>by cases e;exact ha⟩
 ·exact⟨some b,rfl,fun z e=>by cases e;exact hb⟩
 ·exact⟨some g,rfl,fun z e=>by cases e;exact hg⟩
 ·exact⟨some g,rfl,fun z e=>by cases e;exact hg⟩
theorem mS {a b i:Int}(ha:0<=a/\a < Le) (hb:0<=b/\b < Le) (h0:0<=i) (h1:i < 2):∃ w:Int,B5 (.lst [.int a,.int b]) (.int i)=.ok (.int w)/\0<=w/\w < Le:=by
 have hi:i=0\/i=1:=by omega
 rcases hi with rfl|rfl
 ·exact⟨a,rfl,ha⟩
 ·exact⟨b,rfl,hb⟩
theorem gC {α:Type}{a b c d e f g h:D}{x y:α}:(if [a,b,c,d,e,f,g,h].length<=1000 then x else y)=x:=if_pos (by simp)
theorem Vi (r:Road):dp (.ok (BI r))=.ok (BI r):=by
 obtain⟨a,b,l,w⟩:=r
 cases l<;>rfl
theorem Qh (i:Int):dp (.ok (.int i))=.ok (.int i):=rfl
theorem TR {ρ:Ab}{i m:Nat}{ad:List (List Co)}{x y:Int}(h:ρ[i]? =some (some (.ow (.rows (AE ad))))) (hM:O0 m ad) (h0:0<=x) (h1:x < m) (h2:0<=y) (h3:y < m):dN i ρ (.ok (.int x)) (.ok (.int y))=.ok (cst (at2 ad x y)):=by
 unfold dN
 rw[h]
 simp only[M.A7]
 rw[Rp hM h0 h1]
 exact dW hM h0 h1 h2 h3
theorem gD {ρ:Ab}{i m:Nat}{ad:List (List Co)}{x y:Int}{v:Co}(h:ρ[i]? =some (some (.ow (.rows (AE ad))))) (hM:O0 m ad) (h0:0<=x) (h1:x < m) (h2:0<=y) (h3:y < m):UJ i ρ (.ok (.int x)) (.ok (.int y)) (cst v)=.ok (.next (ρ.set i (some (.ow (.rows (AE (put2 ad x y v))))))):=by
 unfold UJ
 rw[h]
 simp only[M.A7]
 rw[Rp hM h0 h1]
 exact dX hM h0 h1 h2 h3 i ρ v
theorem RY:∀(n:Nat) (B:List (Int×Int)) (L:List Int),L.length=n->(Sy n B L).Perm L
 |0,B,L,h=>by rw[List.length_eq_zero_iff.mp h];exact .refl _
 |n + 1,B,L,h=>by
  have af:L≠[]:=fun e=>by rw[e] at h;cases h
  have hm:=(OW (B:=B) af).1
  rw[Sy,if_neg af]
  refine List.Perm.trans ?_ (List.perm_cons_erase hm).symm
  exact (RY n _ _ (by rw[List.length_erase_of_mem hm,h];rfl)).cons _
theorem Vj (cs:List Co):Pl 16 (.lst (cs.map cst)):=(XQ (n:=1) fun d hd=>by
 obtain⟨c,_,rfl⟩:=zE.mp hd
 exact MT (n:=0) c).le (by decide)
theorem mT {m:Nat}{rs:List Road}{ad:List (List Co)}{T:List Co}{s:Int}(hM:O0 m ad) (hA:∀ x y:Int,0<=x->x < m->0<=y->y < m->BQ rs x y (at2 ad x y)) (h0:0<=s) (h1:s < m) (hl:T.length=m) (hT:∀ w:Int,0<=w->w < m->BQ rs s w (atC T w)):T=ad.getD s.toNat []:=by
 have hg:=(hM.get h0 h1).2
 apply List.ext_getElem?
 intro i
 by_cases hi:i < m
 ·have q:=(hT i (by omega) (by omega)).Cr (hA s i h0 h1 (by omega) (by omega))
  have e1:=Cu (cs:=T) (i:=(i:Int)) (by omega) (by rw[hl];omega)
  have e2:=Cu (cs:=ad.getD s.toNat []) (i:=(i:Int)) (by omega) (by rw[hg];omega)
  rw[zZ] at e1 e2
  rw[e1,e2,q]
  rfl
 ·rw[zaj (by omega),zaj (by omega)]
theorem mU {m:Nat}{rs:List Road}{ad:List (List Co)}{T:List Co}{s:Int}(hM:O0 m ad) (hA:∀ x y:Int,0<=x->x < m->0<=y->y < m->BQ rs x y (at2 ad x y)) (h0:0<=s) (h1:s < m) (hl:T.length=m) (hT:∀ w:Int,0<=w->w < m->BQ rs w s (atC T w)):T=ad.map fun R=>atC R s:=by
 apply List.ext_getElem?
 intro i
 by_cases hi:i < m
 ·have q:=(hT i (by omega) (by omega)).Cr (hA i s (by omega) (by omega) h0 h1)
  have e1:=Cu (cs:=T) (i:=(i:Int)) (by omega) (by rw[hl];omega)
  rw[zZ] at e1
  have e2:=(hM.get (x:=(i:Int)) (by omega) (by omega)).1
  rw[zZ] at e2
  rw[e1,q,zH,e2]
  unfold at2
  rw[zZ]
  rfl
 ·rw[zaj (by omega),zaj (by rw[zc,hM.len];omega)]
end L2
namespace L2
open PySem PySem.Spec PyProof.Rows
theorem AV {K:za}{mg:Str->Option Value}{h:Heap}{x:Str}{st:Stmt}{ps:List Str}(X:K.In h) (G:h.Ns mainGlobals mg) (p:FP K x st) (hb:∀(kV dc pm:Value) (an:Option Addr) (cd ct:Value) (us:List Value),us.length=ps.length->bindArgs (zU x x (AQ st) (AD st) (A3 st) .none kV dc pm an cd ct) ⟨us,[]⟩=pure (ps.zip us)):Ai K mg x st ps:=by
 obtain⟨f,oc,od,an,sl,kV,dc,pm,cd,ct,a,l,c,k⟩:=p.ex
 have F:=SV (st:=st) l c k
 exact⟨⟨_,_,F,PySem.W.mg_of X G a,F.binds hb⟩⟩
theorem Vk {K:za}{C:Addr}{x m qual:Str}{st:Stmt}{ps:List Str}(aC:zd K mainGlobals x=some (some (.ref C))) (cl:Vz K C) (p:MP K C m qual st) (hb:∀(kV dc pm:Value) (an:Option Addr) (cd ct:Value) (us:List Value),us.length=ps.length->bindArgs (zU m qual (AQ st) (AD st) (A3 st) .none kV dc pm an cd ct) ⟨us,[]⟩=pure (ps.zip us)):Ih K x m qual st ps:=by
 obtain⟨f,oc,od,an,sl,kV,dc,pm,cd,ct,a,i,l,c,k⟩:=p.ex
 have F:=SV (st:=st) l c k
 exact⟨⟨_,_,_,aC,cl,⟨a,i,k⟩,F,F.binds hb⟩⟩
end L2
namespace L2
open PySem PySem.W PySem.Calls PyProof.Rows
noncomputable def R0:Rn:=⟨topRun,Heap.nsMap,importEnds,fenceModules?,PySem.start,treeTable⟩
theorem mV:R0=R1:=by
 unfold R0 R1
 rw[PySem.W.Fast.te14082659384304107361,PySem.W.Fast.te8920871248978507458,PySem.W.Fast.te10274390034422433532,PySem.W.Fast.te14289696077712309145,PySem.W.Fast.te1435165496053646825,PySem.W.Fast.te14364793385576792824]
theorem Vl (p:Program) (w:World) (N:Nat):openEnds treeTable p w N=Mj R0 p w N:=by
 unfold openEnds fencedOpening Mj
 rfl
theorem Nl {h:Heap}{a:Addr}{o:Obj}:∀ {as:List Addr},(qY h as).lookup a=some o->h.get? a=some o
 |[],e=>by cases e
 |b::r,e=>by
  unfold qY at e
  rw[List.filterMap_cons] at e
  cases q:h.get? b with
  |none=>rw[q] at e;exact Nl (as:=r) e
  |some u =>
   rw[q] at e
   dsimp only [zaf] at e
   rw[zaw] at e
   cases c:a == b with
   |true=>rw[c] at e;cases e;rw[eq_of_beq c];exact q
   |false=>rw[c] at e;exact Nl (as:=r) e
noncomputable def qU (h h':Heap):Prop:=∀(b:Addr) (o:Obj),h.get? b=some o->h'.get? b=some o
theorem mW {h h':Heap}{as:List Addr}(s:qU h h'):(qY h as).In h':=fun a o e=>s a o (Nl e)
theorem gE {p q:Program}{Xt:Shared->Bool}{N:Nat}(h:∀ w:World,(openEnds treeTable p w N).map (fun s=>openSeen q [] (importedModules p.main.body) Xt true s)=some (openGood q [])):LeftO p q [] Xt (fun s=>s.heap) (fun w=>WN R0 p w N) N:=fun w=>by
 have e:=h w
 unfold WN
 dsimp only
 rw[<-Vl]
 cases q':openEnds treeTable p w N with
 |none=>rw[q'] at e;cases e
 |some s =>
  rw[q'] at e
  rw[zaf] at e ⊢
  dsimp only
  rw[zJ e]
theorem Qi {α β γ:Type}{o:Option γ}{f:γ->α×β}{a:α×β}(h:o.map (fun s=>(f s).1)=some a.1) (k:o.map (fun s=>(f s).2)=some a.2):o.map f=some a:=by
 cases o with
 |none=>cases h
 |some s =>
  rw[zaf] at h k ⊢
  exact congrArg some (Prod.ext (zJ h) (zJ k))
theorem qV {l:PySem.W.OpenLaw}{n k:Nat}{q:Program}{loose:List Str}{XP:(Str->Option Value)->Heap->Prop}{YP:World->Heap->Prop}{d:DefRec}{K:World->za}{CX:World->Ud}{sp:World->Sp}{x:Str}
 (hn:l.most=some n) (aJ:n<=sizeLine) (gc:d.params.defaults=[]) (hr:BH k callerA) (hY:∀(w:World) (h:Heap),YP w h->(K w).In h)
 (F:∀(w:World) (mg:Str->Option Value) (fa:Addr) (h:Heap),(K w).In h->h.Ns mainGlobals mg->mg d.name=some (.ref fa)->∃ fd:FuncData,(∀(s:Shared) (u:Value),BindsTo s fd ⟨[u],[]⟩ [(x,u)]) /\
  ∀ base:Heap,(K w).In base->base.Ns mainGlobals mg->Ds l.prog w (K w) mg base (CX w) k fa fd [x] (sp w))
 (bW:∀(w:World) (H:Hp) (a:Addr) (ns:List Int),(∀ n∈ns,Sm n)->ns.length<=n->ZM H->Dr (K w) H a (ns.map V.int)->sp w [.ref a] H (fun v _=>v=.bl true) fun _ _ _=>False)
 (i9:∀(w:World) (H:Hp) (s:Shared) (e:Value) (s':Shared),CX w [] H s (fun _ _ _=>False) e s'->False):PySem.W.WalkO q loose XP YP l.row.toRowW d [] (fun f vs=>PySem.call f vs):=by
 refine HT.OJ hn gc fun w s₀ s₁ mg mb fa o pm cd doc a vs ns bC G Y ho hd bw ge c9 b5 hlen hg=>?_
 have KX:=hY w _ Y
 obtain⟨fd,hb,hF⟩:=F w mg fa _ KX G.T.g ge
 exact QY KX G.T.g G.T.b G.T.builtins G.T.nolimit hg c9 b5 (yU hlen aJ) hr hF hb (fun H hO hS=>bW w H a ns bC hlen hO hS) fun H e s'=>i9 w H s₁ e s'
end L2
set_option maxHeartbeats 4000000
namespace K51
open PySem L2
noncomputable def top (i:Nat):Stmt:=zm.main.body.getD i (.Pass ⟨0,0,0,0⟩)
noncomputable abbrev Ce:Stmt:=top 7
theorem K7:Ae ["thing","bound"] ["thing","bound"] (A3 Ce):=⟨rfl,rfl,rfl,by decide +kernel,rfl,by decide +kernel,by decide +kernel⟩
noncomputable abbrev DF:Stmt:=top 8
theorem O4:Ae ["thing"] ["thing"] (A3 DF):=⟨rfl,rfl,rfl,by decide +kernel,rfl,by decide +kernel,by decide +kernel⟩
noncomputable abbrev HX:Stmt:=top 9
theorem TU:Ae ["thing","many"] ["thing","many"] (A3 HX):=⟨rfl,rfl,rfl,by decide +kernel,rfl,by decide +kernel,by decide +kernel⟩
noncomputable abbrev K8:Stmt:=top 10
theorem KS:Ae ["thing","many","roads"] ["thing"] (A3 K8):=⟨rfl,rfl,rfl,by decide +kernel,rfl,by decide +kernel,by decide +kernel⟩
noncomputable abbrev HY:Stmt:=top 11
theorem TV:Ae ["thing"] ["thing"] (A3 HY):=⟨rfl,rfl,rfl,by decide +kernel,rfl,by decide +kernel,by decide +kernel⟩
noncomputable abbrev Mf:Stmt:=top 12
theorem Z6:Ae ["one","other"] ["one","other"] (A3 Mf):=⟨rfl,rfl,rfl,by decide +kernel,rfl,by decide +kernel,by decide +kernel⟩
noncomputable abbrev Mg:Stmt:=top 13
theorem Z7:Ae ["some"] ["some"] (A3 Mg):=⟨rfl,rfl,rfl,by decide +kernel,rfl,by decide +kernel,by decide +kernel⟩
noncomputable abbrev EI:Stmt:=top 14
theorem Qj:Ae ["road"] ["road"] (A3 EI):=⟨rfl,rfl,rfl,by decide +kernel,rfl,by decide +kernel,by decide +kernel⟩
noncomputable abbrev DH:Stmt:=top 16
theorem O5:Ae ["ladder"] ["ladder"] (A3 DH):=⟨rfl,rfl,rfl,by decide +kernel,rfl,by decide +kernel,by decide +kernel⟩
noncomputable abbrev BC:Stmt:=top 17
theorem GU:Ae ["ladder"] ["ladder"] (A3 BC):=⟨rfl,rfl,rfl,by decide +kernel,rfl,by decide +kernel,by decide +kernel⟩
noncomputable abbrev HZ:Stmt:=top 18
theorem Dc:Ae ["order","costs","place","reached","rank","lower","higher","cost"] ["order","costs","place"] (A3 HZ):=⟨rfl,rfl,rfl,by decide +kernel,rfl,by decide +kernel,by decide +kernel⟩
noncomputable abbrev Mh:Stmt:=top 20
theorem Fm:Ae ["order","costs","place","reached","told","higher","lower","over"] ["order","costs","place"] (A3 Mh):=⟨rfl,rfl,rfl,by decide +kernel,rfl,by decide +kernel,by decide +kernel⟩
noncomputable abbrev EJ:Stmt:=top 21
theorem Qk:Ae ["ladder","start"] ["ladder","start"] (A3 EJ):=⟨rfl,rfl,rfl,by decide +kernel,rfl,by decide +kernel,by decide +kernel⟩
noncomputable abbrev FG:Stmt:=top 22
theorem RZ:Ae ["ladder","goal"] ["ladder","goal"] (A3 FG):=⟨rfl,rfl,rfl,by decide +kernel,rfl,by decide +kernel,by decide +kernel⟩
noncomputable abbrev Dh:Stmt:=top 24
theorem Nm:Ae ["laid","pair"] ["laid","pair"] (A3 Dh):=⟨rfl,rfl,rfl,by decide +kernel,rfl,by decide +kernel,by decide +kernel⟩
noncomputable abbrev Vm:Stmt:=top 25
theorem mX:Ae ["laid","pair","cost","middle"] ["laid","pair","cost","middle"] (A3 Vm):=⟨rfl,rfl,rfl,by decide +kernel,rfl,by decide +kernel,by decide +kernel⟩
noncomputable abbrev FH:Stmt:=top 26
theorem EK:Ae ["laid","place","higher","u","w","cost"] ["laid","place","higher"] (A3 FH):=⟨rfl,rfl,rfl,by decide +kernel,rfl,by decide +kernel,by decide +kernel⟩
noncomputable abbrev EL:Stmt:=top 27
theorem CO:Ae ["net","order","laid","road","rank","place"] ["net","order"] (A3 EL):=⟨rfl,rfl,rfl,by decide +kernel,rfl,by decide +kernel,by decide +kernel⟩
noncomputable abbrev FI:Stmt:=top 29
theorem S0:Ae ["net","thing"] ["net","thing"] (A3 FI):=⟨rfl,rfl,rfl,by decide +kernel,rfl,by decide +kernel,by decide +kernel⟩
noncomputable abbrev Cv:Stmt:=top 30
theorem KU:Ae ["net","thing"] ["net","thing"] (A3 Cv):=⟨rfl,rfl,rfl,by decide +kernel,rfl,by decide +kernel,by decide +kernel⟩
noncomputable abbrev DJ:Stmt:=top 31
theorem F4:Ae ["net","bows","road"] ["net"] (A3 DJ):=⟨rfl,rfl,rfl,by decide +kernel,rfl,by decide +kernel,by decide +kernel⟩
noncomputable abbrev CP:Stmt:=top 32
theorem BU:Ae ["bows","left","place","ahead","behind","missing","u"] ["bows","left","place"] (A3 CP):=⟨rfl,rfl,rfl,by decide +kernel,rfl,by decide +kernel,by decide +kernel⟩
noncomputable abbrev FJ:Stmt:=top 33
theorem S1:Ae ["bows","left"] ["bows","left"] (A3 FJ):=⟨rfl,rfl,rfl,by decide +kernel,rfl,by decide +kernel,by decide +kernel⟩
noncomputable abbrev K9:Stmt:=top 34
theorem DZ:Ae ["net","bows","left","order","place","bow"] ["net"] (A3 K9):=⟨rfl,rfl,rfl,by decide +kernel,rfl,by decide +kernel,by decide +kernel⟩
noncomputable abbrev DK:Stmt:=top 36
theorem Bx:Ae ["net","start","costs","changed","road","cost"] ["net","start"] (A3 DK):=⟨rfl,rfl,rfl,by decide +kernel,rfl,by decide +kernel,by decide +kernel⟩
noncomputable abbrev C1:Stmt:=top 38
theorem IR:Ae ["net","order"] ["net","order"] (A3 C1):=⟨rfl,rfl,rfl,by decide +kernel,rfl,by decide +kernel,by decide +kernel⟩
noncomputable abbrev EM:Stmt:=top 39
theorem DL:Ae ["net","laid","kept","u","costs"] ["net","laid"] (A3 EM):=⟨rfl,rfl,rfl,by decide +kernel,rfl,by decide +kernel,by decide +kernel⟩
noncomputable abbrev Ap:Stmt:=inClass (top 40) 0
theorem IS:Ae ["self","net","order"] ["self","net","order"] (A3 Ap):=⟨rfl,rfl,rfl,by decide +kernel,rfl,by decide +kernel,by decide +kernel⟩
noncomputable abbrev CQ:Stmt:=inClass (top 40) 2
theorem LB:Ae ["self"] ["self"] (A3 CQ):=⟨rfl,rfl,rfl,by decide +kernel,rfl,by decide +kernel,by decide +kernel⟩
noncomputable abbrev Bs:Stmt:=inClass (top 40) 4
theorem D1:Ae ["self","u","w","many"] ["self","u","w"] (A3 Bs):=⟨rfl,rfl,rfl,by decide +kernel,rfl,by decide +kernel,by decide +kernel⟩
noncomputable abbrev Di:Stmt:=inClass (top 40) 5
theorem Nn:Ae ["self","u","w"] ["self","u","w"] (A3 Di):=⟨rfl,rfl,rfl,by decide +kernel,rfl,by decide +kernel,by decide +kernel⟩
noncomputable abbrev Dj:Stmt:=inClass (top 40) 8
theorem Np:Ae ["self"] ["self"] (A3 Dj):=⟨rfl,rfl,rfl,by decide +kernel,rfl,by decide +kernel,by decide +kernel⟩
noncomputable abbrev Dk:Stmt:=top 42
theorem Nq:Ae ["_law_script","_law_k"] ["_law_script","_law_k"] (A3 Dk):=⟨rfl,rfl,rfl,by decide +kernel,rfl,by decide +kernel,by decide +kernel⟩
noncomputable abbrev I0:Stmt:=top 43
theorem Nr:Ae ["_law_cell","_law_k","_law_number"] ["_law_cell","_law_k"] (A3 I0):=⟨rfl,rfl,rfl,by decide +kernel,rfl,by decide +kernel,by decide +kernel⟩
noncomputable abbrev EN:Stmt:=top 44
theorem Ql:Ae ["_law_cell","_law_k"] ["_law_cell","_law_k"] (A3 EN):=⟨rfl,rfl,rfl,by decide +kernel,rfl,by decide +kernel,by decide +kernel⟩
noncomputable abbrev EO:Stmt:=top 45
theorem Qm:Ae ["_law_found"] ["_law_found"] (A3 EO):=⟨rfl,rfl,rfl,by decide +kernel,rfl,by decide +kernel,by decide +kernel⟩
noncomputable abbrev Dl:Stmt:=top 46
theorem Nt:Ae ["_law_found"] ["_law_found"] (A3 Dl):=⟨rfl,rfl,rfl,by decide +kernel,rfl,by decide +kernel,by decide +kernel⟩
noncomputable abbrev Cw:Stmt:=top 47
theorem KW:Ae ["_law_found","_law_many"] ["_law_found","_law_many"] (A3 Cw):=⟨rfl,rfl,rfl,by decide +kernel,rfl,by decide +kernel,by decide +kernel⟩
noncomputable abbrev EQ:Stmt:=top 48
theorem Bc:Ae ["_law_cells","_law_many","_law_roads_here","_law_k","_law_mixed","_law_great_here","_law_one","_law_other","_law_small","_law_length"] ["_law_cells","_law_many"] (A3 EQ):=⟨rfl,rfl,rfl,by decide +kernel,rfl,by decide +kernel,by decide +kernel⟩
noncomputable abbrev ER:Stmt:=top 49
theorem FK:Ae ["_law_cell","_law_many","_law_order_here","_law_place"] ["_law_cell","_law_many"] (A3 ER):=⟨rfl,rfl,rfl,by decide +kernel,rfl,by decide +kernel,by decide +kernel⟩
noncomputable abbrev ES:Stmt:=top 50
theorem Qn:Ae ["_law_one","_law_other"] ["_law_one","_law_other"] (A3 ES):=⟨rfl,rfl,rfl,by decide +kernel,rfl,by decide +kernel,by decide +kernel⟩
noncomputable abbrev ET:Stmt:=top 51
theorem Qo:Ae ["_law_some"] ["_law_some"] (A3 ET):=⟨rfl,rfl,rfl,by decide +kernel,rfl,by decide +kernel,by decide +kernel⟩
noncomputable abbrev FL:Stmt:=top 52
theorem S2:Ae ["_law_road"] ["_law_road"] (A3 FL):=⟨rfl,rfl,rfl,by decide +kernel,rfl,by decide +kernel,by decide +kernel⟩
noncomputable abbrev EU:Stmt:=top 53
theorem Bt:Ae ["_law_roads_here","_law_many","_law_costs_here","_law_u","_law_v","_law_row","_law_road","_law_w"] ["_law_roads_here","_law_many"] (A3 EU):=⟨rfl,rfl,rfl,by decide +kernel,rfl,by decide +kernel,by decide +kernel⟩
noncomputable abbrev Gb:Stmt:=top 54
theorem El:Ae ["_law_script","_law_first","_law_many","_law_roads_here","_law_costs_here","_law_k","_law_ladder","_law_place","_law_found"] ["_law_script"] (A3 Gb):=⟨rfl,rfl,rfl,by decide +kernel,rfl,by decide +kernel,by decide +kernel⟩
structure Txt (K:za) (mg:Str->Option Value):Prop where
 KY:Ai K mg "is_whole_below" Ce ["thing","bound"]
 Qp:Ai K mg "is_measure" DF ["thing"]
 WA:Ai K mg "is_road" HX ["thing","many"]
 Z8:Ai K mg "is_map" K8 ["thing"]
 WB:Ai K mg "checked" HY ["thing"]
 gF:Ai K mg "added" Mf ["one","other"]
 gH:Ai K mg "least" Mg ["some"]
 S3:Ai K mg "road_cost" EI ["road"]
 Qq:Ai K mg "kept_costs" DH ["ladder"]
 Ia:Ai K mg "kept_costs_turned" BC ["ladder"]
 WC:Ai K mg "climbed" HZ ["order","costs","place"]
 gI:Ai K mg "swept" Mh ["order","costs","place"]
 S4:Ai K mg "costs_out" EJ ["ladder","start"]
 TX:Ai K mg "costs_in" FG ["ladder","goal"]
 O6:Ai K mg "cost_so_far" Dh ["laid","pair"]
 qW:Ai K mg "lay" Vm ["laid","pair","cost","middle"]
 TY:Ai K mg "lay_over" FH ["laid","place","higher"]
 S5:Ai K mg "laid_arcs" EL ["net","order"]
 TZ:Ai K mg "is_order" FI ["net","thing"]
 LC:Ai K mg "checked_order" Cv ["net","thing"]
 Qr:Ai K mg "first_bows" DJ ["net"]
 Nu:Ai K mg "missing_bows" CP ["bows","left","place"]
 U0:Ai K mg "lightest" FJ ["bows","left"]
 Z9:Ai K mg "ranked" K9 ["net"]
 Qs:Ai K mg "costs_from" DK ["net","start"]
 Ka:Ai K mg "order_or_ranked" C1 ["net","order"]
 S6:Ai K mg "kept_arcs" EM ["net","laid"]
 Kb:TF K mg "Ladder" "Ladder.__init__" Ap ["self","net","order"]
 Nv:Ih K "Ladder" "order" "Ladder.order" CQ ["self"]
 GV:Ih K "Ladder" "checked_arc" "Ladder.checked_arc" Bs ["self","u","w"]
 O7:Ih K "Ladder" "cost" "Ladder.cost" Di ["self","u","w"]
 O8:Ih K "Ladder" "kept" "Ladder.kept" Dj ["self"]
 O9:Ai K mg "_law_cell_at" Dk ["_law_script","_law_k"]
 WD:Ai K mg "_law_mix" I0 ["_law_cell","_law_k"]
 S7:Ai K mg "_law_great" EN ["_law_cell","_law_k"]
 S8:Ai K mg "_law_whole" EO ["_law_found"]
 Oa:Ai K mg "_law_is_cost" Dl ["_law_found"]
 LD:Ai K mg "_law_are_costs" Cw ["_law_found","_law_many"]
 S9:Ai K mg "_law_roads" EQ ["_law_cells","_law_many"]
 Sa:Ai K mg "_law_order" ER ["_law_cell","_law_many"]
 Sb:Ai K mg "_law_added" ES ["_law_one","_law_other"]
 Sd:Ai K mg "_law_least" ET ["_law_some"]
 U1:Ai K mg "_law_open" FL ["_law_road"]
 Se:Ai K mg "_law_costs" EU ["_law_roads_here","_law_many"]
 vK:Ai K mg "law" Gb ["_law_script"]
 Za:mg "all" = none
 Zb:mg "bool" = none
 Zc:mg "dict" = none
 Lh:mg "enumerate" = none
 Zd:mg "int" = none
 B2:mg "isinstance" = none
 Gd:mg "len" = none
 F5:mg "list" = none
 Ze:mg "min" = none
 CS:mg "range" = none
 U2:mg "reversed" = none
 Zf:mg "sorted" = none
 Mi:mg "tuple" = none
 gJ:ClsAt K mg "NoArc"
 gK:ClsAt K mg "NoMap"
 WE:ClsAt K mg "NoOrder"
 Em:Ig K "Ladder" "kept_ones"
 Dm:Ig K "Ladder" "laid"
 BG:Ig K "Ladder" "own_map"
 CB:Ig K "Ladder" "own_order"
local macro_rules | `(tactic| simp_arith [$xs,*])=>`(tactic| simp only [rM,rN,M9,List.set_cons_zero,List.set_cons_succ,M.A7,Hx,Hw,Jn,JH,JI,JJ,LX,IL,KH,RE,Jy,Jz,HB,UT,LU,LV,JA,eQ,HC,HD,FD,PY,D8,PZ,JB,JC,HE,UX,Jx,Ff,toCl_list,toCl_listP,toCl_dct,LY,JK,JL,JM,JN,LZ,JO,JP,JQ,nJ,qB,JD,UY,JE,UZ,JF,JG,LW,V0,rO,rQ,eT,eU,eV,eW,eX,eY,toCl_nil,Je,Ju,OC,Q0,HF,M2,M3,JR,JS,M4,M5,M6,M7,M8,JT,JU,JV,JW,HG,HH,HI,HJ,HK,JX,HL,HM,V1,V2,V3,V4,V5,HN,ite_tt,ite_ff,Bool.not_true,Bool.not_false,List.getElem?_cons_zero,List.getElem?_cons_succ,Fj,K0,K1,eS,fG,eR,fJ,fK,fL,Ma,Qa,Qb,Qc,DY,HW,Me,PL,gC,Vi,Qh,$xs,*])
variable {P:Program}{w:World}{K:za}{mg:Str->Option Value}{base:Heap}
theorem CT:∃ F:List D->M OT,(∀ {P:Program}{w:World}{K:za}{mg:Str->Option Value}{base:Heap},Txt K mg->BV P w K mg base "is_whole_below" 1 2 F)/\(∀(d:D) (n:Int),Ut d=false->F [d,.int n]=.ok (.sh (.bl (Kk d n)))):=by
 refine⟨_,fun T=>AF (k:=0) T.KY K7 _ (fun f B1 A outer s H E hr=>(A5 (Am (AZ (MD (EY (Rb _) rfl T.B2 rfl T.Zd (by decide +kernel) (A1 0 (pv 0))) (MD (XC (EY (OE _) rfl T.B2 rfl T.Zb (by decide +kernel) (A1 0 (pv 0)))) (Kt (VM oO gQ A6 (A1 0 (pv 0)) (A1 1 (pv 1)))))))))),?_⟩
 intro d n hx
 have e0:AI ["thing","bound"] [d,.int n]=[some (.val d),some (.val (.int n))]:=rfl
 rw[e0]
 refine Bq ?_
 simp_arith[Ra hx]
 cases d with
 |int j =>
  simp_arith[]
  unfold Kk
  by_cases h1:0<=j<;>by_cases h2:j < n<;>simp[h1,h2,F0,Fj]<;>rfl
 |DM x=>cases hx
 |ins x n d=>cases hx
 |_=>rfl
noncomputable def Ge:List D->M OT:=zj CT
theorem AW:Txt K mg->BV P w K mg base "is_whole_below" 1 2 Ge:=(zb CT).1
theorem AM:∀(d:D) (n:Int),Ut d=false->Ge [d,.int n]=.ok (.sh (.bl (Kk d n))):=(zb CT).2
theorem F6:∃ F:List D->M OT,(∀ {P:Program}{w:World}{K:za}{mg:Str->Option Value}{base:Heap},Txt K mg->BV P w K mg base "is_measure" 2 1 F)/\(∀ d:D,Ut d=false->F [d]=.ok (.sh (.bl (Kk d Le)))):=by
 refine⟨_,fun T=>AF (k:=1) T.Qp O4 _ (fun f B1 A outer s H E hr=>(A5 (Am (Aa A9.toXCall (AW T) (hr.mono (by decide)) rfl (A2 (A1 0 (pv 0)) (A2 (Xz A6 A6) A8)) rfl)))),?_⟩
 intro d hx
 have e0:AI ["thing"] [d]=[some (.val d)]:=rfl
 rw[e0]
 have h1:=AM d Le hx
 refine Bq ?_
 simp_arith[iI,h1]
 rfl
noncomputable def Li:List D->M OT:=zj F6
theorem Ij:Txt K mg->BV P w K mg base "is_measure" 2 1 Li:=(zb F6).1
theorem Ik:∀ d:D,Ut d=false->Li [d]=.ok (.sh (.bl (Kk d Le))):=(zb F6).2
theorem IT:∃ F:List D->M OT,(∀ {P:Program}{w:World}{K:za}{mg:Str->Option Value}{base:Heap},Txt K mg->BV P w K mg base "is_road" 3 2 F)/\(∀(d:D) (m:Int),cl 1 d->F [d,.int m]=.ok (.sh (.bl (F2 m d)))):=by
 refine⟨_,fun T=>AF (k:=2) T.WA TU _ (fun f B1 A outer s H E hr=>(A4 (B7 (DW.dt (Ea (Ck (BX (c:=true) (EY (ID _) rfl T.B2 rfl T.Mi (by decide +kernel) (A1 0 (pv 0))))) (CM (G7 (c:=true) (AR hr 16 (by decide)) (Du rfl T.Gd (A1 0 (pv 0))) A6)))) (A5 (Am (AZ CF))) AB) (A4 (B7 (DW.dt (Ea (Ck (BX (c:=true) (Aj (Aa A9.toXCall (AW T) (hr.mono (by decide)) rfl (A2 (Ac (AR hr 16 (by decide)) (A1 0 (pv 0)) A6) (A2 (A1 1 (pv 1)) A8)) rfl)))) (CM (Ck (BX (c:=true) (Aj (Aa A9.toXCall (AW T) (hr.mono (by decide)) rfl (A2 (Ac (AR hr 16 (by decide)) (A1 0 (pv 0)) A6) (A2 (A1 1 (pv 1)) A8)) rfl))))))) (A5 (Am (AZ CF))) AB) (A4 (B7 (L7 (c:=true) (AR hr 16 (by decide)) (Ac (AR hr 16 (by decide)) (A1 0 (pv 0)) A6) (Ac (AR hr 16 (by decide)) (A1 0 (pv 0)) A6)) (A5 (Am (AZ CF))) AB) (A5 (Am (AZ (MD (hV (XB (Ac (AR hr 16 (by decide)) (A1 0 (pv 0)) A6)) (Kt (Aj (Aa A9.toXCall (Ij T) (hr.mono (by decide)) rfl (A2 (Ac (AR hr 16 (by decide)) (A1 0 (pv 0)) A6) A8) rfl)))) (Kt (Aj (Aa A9.toXCall (Ij T) (hr.mono (by decide)) rfl (A2 (Ac (AR hr 16 (by decide)) (A1 0 (pv 0)) A6) A8) rfl))))))))))),?_⟩
 intro d m hc
 have e0:AI ["thing","many"] [d,.int m]=[some (.val d),some (.val (.int m))]:=rfl
 rw[e0]
 have hx:=hc.x
 refine Bq ?_
 cases d with
 |tup ds =>
  have b7:∀ e∈ds,Ut e=false:=fun e he=>(hc.2 ds (.inl rfl) e he).x
  rcases ds with _|⟨a,_|⟨b,_|⟨l,_|⟨w,_|⟨z,r⟩⟩⟩⟩⟩
  ·rfl
  ·rfl
  ·rfl
  ·rfl
  ·have i0:B5 (.tup [a,b,l,w]) (.int 0)=.ok a:=rfl
   have i1:B5 (.tup [a,b,l,w]) (.int 1)=.ok b:=rfl
   have i2:B5 (.tup [a,b,l,w]) (.int 2)=.ok l:=rfl
   have i3:B5 (.tup [a,b,l,w]) (.int 3)=.ok w:=rfl
   have ha:=AM a m (b7 a (by simp))
   have hb:=AM b m (b7 b (by simp))
   have hl:=Ik l (b7 l (by simp))
   have hw:=Ik w (b7 w (by simp))
   apply wp_step
   ·rfl
   unfold F2
   dsimp only
   cases qa:Kk a m with
   |false=>simp_arith[i0,ha,qa,F0];rfl
   |true =>
    cases qb:Kk b m with
    |false=>simp_arith[i0,i1,ha,hb,qa,qb,F0];rfl
    |true =>
     apply wp_step
     ·simp_arith[i0,i1,ha,hb,qa,qb,F0];rfl
     cases a with
     |int x =>
      cases b with
      |int y =>
       have he:Aw (.int x) (.int y)=decide (x=y):=by rw[Aw];by_cases h:x=y<;>simp[h]
       rw[he]
       by_cases bM:x=y
       ·simp_arith[i0,i1,decide_eq_true bM];rfl
       ·apply wp_step
        ·simp_arith[i0,i1,decide_eq_false bM];rfl
        rw[decide_eq_false bM]
        simp_arith[i2,i3,hl,hw]
        cases Cz l<;>cases Kk l Le<;>cases Kk w Le<;>rfl
      |_=>cases qb
     |_=>cases qa
  ·have af:¬ (((a::b::l::w::z::r).length:Nat):Int)=4:=by simp only[zp];omega
   simp_arith[decide_eq_false af]
   rfl
 |DM x=>cases hx
 |ins x n d=>cases hx
 |_=>rfl
noncomputable def Sf:List D->M OT:=zj IT
theorem U3:Txt K mg->BV P w K mg base "is_road" 3 2 Sf:=(zb IT).1
theorem U4:∀(d:D) (m:Int),cl 1 d->Sf [d,.int m]=.ok (.sh (.bl (F2 m d))):=(zb IT).2
theorem KZ:∃ F:List D->M OT,(∀ {P:Program}{w:World}{K:za}{mg:Str->Option Value}{base:Heap},Txt K mg->BV P w K mg base "is_map" 4 1 F)/\(∀ d:D,cl 3 d->F [d]=.ok (.sh (.bl (Dz d)))):=by
 refine⟨_,fun T=>AF (k:=3) T.Z8 KS _ (fun f B1 A outer s H E hr=>(A4 (B7 (DW.dt (Ea (Ck (BX (c:=true) (EY (ID _) rfl T.B2 rfl T.Mi (by decide +kernel) (A1 0 (pv 0))))) (CM (G7 (c:=true) (AR hr 16 (by decide)) (Du rfl T.Gd (A1 0 (pv 0))) A6)))) (A5 (Am (AZ CF))) AB) (A4 (B3 1 KS.nd rfl (Or.inr rfl) (Ac (AR hr 16 (by decide)) (A1 0 (pv 0)) A6)) (A4 (B3 2 KS.nd rfl (yJ rfl) (Ac (AR hr 16 (by decide)) (A1 0 (pv 0)) A6)) (A4 (B7 (DW.dt (Ea (Ck (BX (c:=true) (Aj (Aa A9.toXCall (AW T) (hr.mono (by decide)) rfl (A2 (A1 1 (pv 1)) (A2 A6 A8)) rfl)))) (CM (L7 (c:=true) (AR hr 16 (by decide)) (A1 1 (pv 1)) A6)))) (A5 (Am (AZ CF))) AB) (A4 (B7 (DW.dt (Ea (Ck (BX (c:=true) (EY (Ku _) rfl T.B2 rfl T.F5 (by decide +kernel) (A1 2 (pv 2))))) (CM (Us (c:=true) (Du rfl T.Gd (A1 2 (pv 2))) A6)))) (A5 (Am (AZ CF))) AB) (A5 (Am (AZ (Ti rfl rfl T.Za (Aj (Cd (NB:=["road","many"]) [none,some 1] rfl (AO (A1 2 (pv 2))) rfl rfl (Bp 0 (by decide) rfl rfl rfl) (fun _ _ _ _=>Df) (fun _ _ _ _=>(Aj (BO (Aa (Bg rfl).toXCall (U3 T) (hr.mono (by decide)) rfl (A2 (A1 0 (pv 0)) (A2 (A1 1 (pv 1)) A8)) rfl)))))))))))))))),?_⟩
 intro d hc
 have e0:AI ["thing","many","roads"] [d]=[some (.val d),none,none]:=rfl
 rw[e0]
 have hx:=hc.x
 refine Bq ?_
 cases d with
 |tup ds =>
  have b7:∀ e∈ds,cl 2 e:=fun e he=>hc.2 ds (.inl rfl) e he
  rcases ds with _|⟨n,_|⟨r,_|⟨z,t⟩⟩⟩
  ·rfl
  ·rw[Wq];rfl
  ·have i0:B5 (.tup [n,r]) (.int 0)=.ok n:=rfl
   have i1:B5 (.tup [n,r]) (.int 1)=.ok r:=rfl
   have hn:=AM n 17 (b7 n (by simp)).x
   have hr:=b7 r (by simp)
   have ii:=hr.x
   apply wp_step
   ·rfl
   apply wp_step
   ·simp_arith[i0];rfl
   apply wp_step
   ·simp_arith[i1];rfl
   cases qn:Kk n 17 with
   |false =>
    have e1:Dz (.tup [n,r])=false:=by
     cases n with
     |int m=>cases r with
      |lst rs=>unfold Dz;dsimp only;rw[qn];rfl
      |_=>rfl
     |_=>rfl
    rw[e1]
    simp_arith[hn,qn,F0]
    rfl
   |true =>
    cases n with
    |int m =>
     by_cases hm:m=0
     ·have e1:Dz (.tup [.int m,r])=false:=by
       cases r with
       |lst rs=>unfold Dz;dsimp only;rw[decide_eq_true hm];simp
       |_=>rfl
      rw[e1]
      simp_arith[hn,qn,F0,decide_eq_true hm]
      rfl
     ·apply wp_step
      ·simp_arith[hn,qn,F0,decide_eq_false hm];rfl
      cases r with
      |lst rs =>
       by_cases hl:rs.length<=60
       ·have bU:¬ (60:Int) < (rs.length:Int):=by omega
        have aZ:rs.length<=1000:=by omega
        apply wp_step
        ·simp_arith[decide_eq_false bU];rfl
        simp_arith[if_pos aZ]
        rw[OH (fun d=>.bl (F2 m d)) rs]
        ·have e2:(rs.map fun d=>D.bl (F2 m d))=(rs.map (F2 m)).map D.bl:=by rw[yM];rfl
         rw[e2]
         unfold Dz
         dsimp only
         rw[qn,decide_eq_true hl,decide_eq_false hm]
         simp_arith[Bool.true_and]
         rfl
        ·intro d hd
         have:=U4 d m (hr.2 rs (.inr rfl) d hd)
         exact⟨_,rfl,rfl,by simp_arith[this]⟩
       ·have bU:(60:Int) < (rs.length:Int):=by omega
        unfold Dz
        dsimp only
        rw[decide_eq_false hl]
        simp_arith[decide_eq_true bU,Bool.false_and,Bool.and_false]
        rfl
      |DM x=>cases ii
      |ins x n d=>cases ii
      |_=>rfl
    |_=>cases qn
  ·have af:¬ (((n::r::z::t).length:Nat):Int)=2:=by simp only[zp];omega
   rw[TB]
   simp_arith[decide_eq_false af]
   rfl
 |DM x=>cases hx
 |ins x n d=>cases hx
 |_=>rfl
noncomputable def Vn:List D->M OT:=zj KZ
theorem WG:Txt K mg->BV P w K mg base "is_map" 4 1 Vn:=(zb KZ).1
theorem Pc:∀ d:D,cl 3 d->Vn [d]=.ok (.sh (.bl (Dz d))):=(zb KZ).2
theorem IU:∃ F:List D->M OT,(∀ {P:Program}{w:World}{K:za}{mg:Str->Option Value}{base:Heap},Txt K mg->BV P w K mg base "checked" 5 1 F)/\((∀(m:Nat) (rs:List Road),Dz (As m rs)=true->rs.length<=60->F [As m rs]=.ok (.tup [.sh (.int m),.lst ((rs.map BI).map .sh)]))/\(∀ d:D,cl 3 d->Dz d=false->F [d]=.ex "NoMap")):=by
 refine⟨_,fun T=>AF (k:=4) T.WB TV _ (fun f B1 A outer s H E hr=>(A4 (B7 (Ck (BX (c:=true) (Aj (Aa A9.toXCall (WG T) (hr.mono (by decide)) rfl (A2 (A1 0 (pv 0)) A8) rfl)))) (A5 (Ky (c:=true) T.gK A9 rfl rfl Ta)) AB) (A5 (Am (lF (Rt (AZ (Ac (AR hr 16 (by decide)) (A1 0 (pv 0)) A6)) (Rt (Cd (NB:=["road"]) [none] rfl (AO (Ac (AR hr 16 (by decide)) (A1 0 (pv 0)) A6)) rfl rfl (Bp 0 (by decide) rfl rfl rfl) (fun _ _ _ _=>Df) (fun _ _ _ _=>(XF rfl T.Mi (A1 0 (pv 0))))) FC))))))),?_⟩
 refine⟨fun m rs hm hl=>?_,fun d hc ho=>?_⟩
 ·have e0:AI ["thing"] [As m rs]=[some (.val (As m rs))]:=rfl
  rw[e0]
  have h1:=Pc (As m rs) (Yw (HQ Na (HQ (lS lV) Yx)))
  rw[hm] at h1
  have n0:B5 (As m rs) (.int 0)=.ok (.int m):=rfl
  have n1:B5 (As m rs) (.int 1)=.ok (.lst (rs.map BI)):=rfl
  have aZ:(rs.map BI).length<=1000:=by rw[zc];omega
  refine Bq ?_
  apply wp_step
  ·simp_arith[h1,F0];rfl
  simp_arith[n0,n1,if_pos aZ]
  rw[C7 BI (fun r hr=>⟨_,rfl,rfl,rfl⟩)]
  simp_arith[]
  exact⟨_,rfl,rfl⟩
 ·have e0:AI ["thing"] [d]=[some (.val d)]:=rfl
  rw[e0]
  have h1:=Pc d hc
  rw[ho] at h1
  simp_arith[h1,F0]
  rfl
noncomputable def Nw:List D->M OT:=zj IU
theorem U5:Txt K mg->BV P w K mg base "checked" 5 1 Nw:=(zb IU).1
theorem U6:(∀(m:Nat) (rs:List Road),Dz (As m rs)=true->rs.length<=60->Nw [As m rs]=.ok (.tup [.sh (.int m),.lst ((rs.map BI).map .sh)]))/\(∀ d:D,cl 3 d->Dz d=false->Nw [d]=.ex "NoMap"):=(zb IU).2
theorem Nx:∃ F:List D->M OT,(∀ {P:Program}{w:World}{K:za}{mg:Str->Option Value}{base:Heap},Txt K mg->BV P w K mg base "added" 1 2 F)/\(∀ a b:Co,F [cst a,cst b]=.ok (.sh (cst (Aq a b)))):=by
 refine⟨_,fun T=>AF (k:=0) T.gF Z6 _ (fun f B1 A outer s H E hr=>(A4 (B7 (DW.dt (Ea (IB (c:=true) (A1 0 (pv 0))) (CM (IB (c:=true) (A1 1 (pv 1)))))) (A5 (Am (AZ D4))) AB) (A5 (Am (AZ (AL (A2 (BW (Ac (AR hr 16 (by decide)) (A1 0 (pv 0)) A6) (Ac (AR hr 16 (by decide)) (A1 1 (pv 1)) A6)) (A2 (BW (Ac (AR hr 16 (by decide)) (A1 0 (pv 0)) A6) (Ac (AR hr 16 (by decide)) (A1 1 (pv 1)) A6)) A8)))))))),?_⟩
 intro a b
 rcases a with _|⟨a1,a2⟩<;>rcases b with _|⟨b1,b2⟩<;>rfl
noncomputable def Zg:List D->M OT:=zj Nx
theorem Kc:Txt K mg->BV P w K mg base "added" 1 2 Zg:=(zb Nx).1
theorem Kd:∀ a b:Co,Zg [cst a,cst b]=.ok (.sh (cst (Aq a b))):=(zb Nx).2
theorem Ny:∃ F:List D->M OT,(∀ {P:Program}{w:World}{K:za}{mg:Str->Option Value}{base:Heap},Txt K mg->BV P w K mg base "least" 1 1 F)/\(∀ cs:List Co,cs.length<=1000->F [.lst (cs.map cst)]=.ok (.sh (cst (FA cs)))):=by
 refine⟨_,fun T=>AF (k:=0) T.gH Z7 _ (fun f B1 A outer s H E hr=>(A5 (Am (AZ (Uz rfl (AR hr 1 (by decide)) rfl T.Ze (Aj (Cd (NB:=["cost"]) [none] rfl (AO (A1 0 (pv 0))) rfl rfl (Bp 0 (by decide) rfl rfl rfl) (fun _ _ _ _=>Ht (LK (c:=true) (A1 0 (pv 0)))) (fun _ _ _ _=>(A1 0 (pv 0))))) D4))))),?_⟩
 intro cs hc
 have e0:∀ x:D,AI ["some"] [x]=[some (.val x)]:=fun x=>rfl
 rw[e0]
 refine Bq ?_
 have hl:(cs.map cst).length<=1000:=by rw[zc];exact hc
 have xl:=Rj cs
 have qt:=UK cs
 simp_arith[if_pos hl]
 rw[GG]
 simp_arith[qt]
 rfl
noncomputable def Qt:List D->M OT:=zj Ny
theorem Nz:Txt K mg->BV P w K mg base "least" 1 1 Qt:=(zb Ny).1
theorem NA:∀ cs:List Co,cs.length<=1000->Qt [.lst (cs.map cst)]=.ok (.sh (cst (FA cs))):=(zb Ny).2
theorem FN:∃ F:List D->M OT,(∀ {P:Program}{w:World}{K:za}{mg:Str->Option Value}{base:Heap},Txt K mg->BV P w K mg base "road_cost" 1 1 F)/\(∀ r:Road,F [BI r]=.ok (.sh (cst (C5 r)))):=by
 refine⟨_,fun T=>AF (k:=0) T.S3 Qj _ (fun f B1 A outer s H E hr=>(A4 (B7 (IB (c:=true) (Ac (AR hr 16 (by decide)) (A1 0 (pv 0)) A6)) (A5 (Am (AZ D4))) AB) (A5 (Am (AZ (AL (A2 (Ac (AR hr 16 (by decide)) (A1 0 (pv 0)) A6) (A2 A6 A8)))))))),?_⟩
 intro r
 obtain⟨a,b,l,w⟩:=r
 cases l<;>rfl
noncomputable def NC:List D->M OT:=zj FN
theorem FO:Txt K mg->BV P w K mg base "road_cost" 1 1 NC:=(zb FN).1
theorem FQ:∀ r:Road,NC [BI r]=.ok (.sh (cst (C5 r))):=(zb FN).2
theorem BY:∃ F:List D->M OT,(∀ {P:Program}{w:World}{K:za}{mg:Str->Option Value}{base:Heap},Txt K mg->IP P w K mg base "Ladder" "checked_arc" 2 3 F)/\(∀(m:Nat) (rs:List Road) (L:List Int) (A:LA) (K:List (Int×Int)) (u w:Int),0<=u->u < m->0<=w->w < m->(AG A (u,w)).isSome=true->F [Ba m rs L A K,.int u,.int w]=.ok (.sh (pD (u,w)))):=by
 refine⟨_,fun T=>Mb (k:=1) T.GV D1 _ (fun f B1 A outer s H E hr=>(A4 (B3 3 D1.nd rfl (yJ rfl) (Ac (AR hr 16 (by decide)) (F3 ["Ladder"] (Br T.BG BZ) (A1 0 (pv 0))) A6)) (A4 (B7 (DW.dt (Ea (Ck (BX (c:=true) (Aj (Aa A9.toXCall (AW T) (hr.mono (by decide)) rfl (A2 (A1 1 (pv 1)) (A2 (A1 3 (pv 3)) A8)) rfl)))) (Ea (Ck (BX (c:=true) (Aj (Aa A9.toXCall (AW T) (hr.mono (by decide)) rfl (A2 (A1 2 (pv 2)) (A2 (A1 3 (pv 3)) A8)) rfl)))) (CM (LQ (c:=true) (AR hr 16 (by decide)) (AL (A2 (A1 1 (pv 1)) (A2 (A1 2 (pv 2)) A8))) (F3 ["Ladder"] (Br T.Dm BZ) (A1 0 (pv 0)))))))) (A5 (Ky (c:=true) T.gJ A9 rfl rfl Ta)) AB) (A5 (Am (AZ (AL (A2 (A1 1 (pv 1)) (A2 (A1 2 (pv 2)) A8))))))))),?_⟩
 intro m rs L A K u w u0 u1 w0 w1 hf
 have e0:AI ["self","u","w","many"] [Ba m rs L A K,.int u,.int w]=[some (.val (Ba m rs L A K)),some (.val (.int u)),some (.val (.int w)),none]:=rfl
 rw[e0]
 refine Bq ?_
 have f1:O2 ["Ladder"] "own_map" (Ba m rs L A K)=.ok (As m rs):=rfl
 have f2:O2 ["Ladder"] "laid" (Ba m rs L A K)=.ok (Lf A):=rfl
 have n0:B5 (As m rs) (.int 0)=.ok (.int m):=rfl
 have h1:=AM (.int u) m rfl
 have h2:=AM (.int w) m rfl
 have g1:Kk (.int u) m=true:=by simp[Kk,u0,u1]
 have g2:Kk (.int w) m=true:=by simp[Kk,w0,w1]
 rw[g1] at h1
 rw[g2] at h2
 have hp:D.tup [.int u,.int w]=pD (u,w):=rfl
 have hm:=Qd A (u,w) true
 rw[hf] at hm
 apply wp_step
 ·simp_arith[f1,n0];rfl
 apply wp_step
 ·simp_arith[h1,h2,f2,hp,hm,F0];rfl
 rfl
noncomputable def Bb:List D->M OT:=zj BY
theorem Gm:Txt K mg->IP P w K mg base "Ladder" "checked_arc" 2 3 Bb:=(zb BY).1
theorem Gn:∀(m:Nat) (rs:List Road) (L:List Int) (A:LA) (K:List (Int×Int)) (u w:Int),0<=u->u < m->0<=w->w < m->(AG A (u,w)).isSome=true->Bb [Ba m rs L A K,.int u,.int w]=.ok (.sh (pD (u,w))):=(zb BY).2
theorem En:∃ F:List D->M OT,(∀ {P:Program}{w:World}{K:za}{mg:Str->Option Value}{base:Heap},Txt K mg->IP P w K mg base "Ladder" "cost" 3 3 F)/\(∀(m:Nat) (rs:List Road) (L:List Int) (A:LA) (K:List (Int×Int)) (u w:Int) (c:Int×Int),Fp m A->Ak A (u,w)=some c->F [Ba m rs L A K,.int u,.int w]=.ok (.sh (cst (some c)))):=by
 refine⟨_,fun T=>Mb (k:=2) T.O7 Nn _ (fun f B1 A outer s H E hr=>(A5 (Am (AZ (Ac (AR hr 16 (by decide)) (Ac (AR hr 16 (by decide)) (F3 ["Ladder"] (Br T.Dm BZ) (A1 0 (pv 0))) (Aj (Q3 (k:=2) [("Ladder",Bb)] A9.toXCall (Ej (by decide) (Gm T) FF) (hr.mono (by decide)) (A1 0 (pv 0)) (A2 (A1 1 (pv 1)) (A2 (A1 2 (pv 2)) A8)) rfl))) A6))))),?_⟩
 intro m rs L A K u w c hA hc
 have e0:AI ["self","u","w"] [Ba m rs L A K,.int u,.int w]=[some (.val (Ba m rs L A K)),some (.val (.int u)),some (.val (.int w))]:=rfl
 rw[e0]
 refine Bq ?_
 have f2:O2 ["Ladder"] "laid" (Ba m rs L A K)=.ok (Lf A):=rfl
 have hk:=hA.rg _ (Fl hc)
 obtain⟨v,hv⟩:∃ v,AG A (u,w)=some (c,v):=by
  unfold Ak at hc
  cases q:AG A (u,w) with
  |none=>rw[q] at hc;cases hc
  |some z=>rw[q] at hc;obtain⟨z1,z2⟩:=z;cases hc;exact⟨z2,rfl⟩
 have h1:=Gn m rs L A K u w hk.2.1.1 hk.2.1.2 hk.2.2.1 hk.2.2.2 (by rw[hv];rfl)
 have hi:=Qe hv
 have h0:B5 (Ww (c,v)) (.int 0)=.ok (cst (some c)):=rfl
 have hs:IQ [("Ladder",Bb)] "checked_arc" (Ba m rs L A K)=.ok Bb:=rfl
 simp_arith[f2,hs,h1,hi,h0]
 rfl
noncomputable def Bu:List D->M OT:=zj En
theorem GW:Txt K mg->IP P w K mg base "Ladder" "cost" 3 3 Bu:=(zb En).1
theorem GX:∀(m:Nat) (rs:List Road) (L:List Int) (A:LA) (K:List (Int×Int)) (u w:Int) (c:Int×Int),Fp m A->Ak A (u,w)=some c->Bu [Ba m rs L A K,.int u,.int w]=.ok (.sh (cst (some c))):=(zb En).2
theorem Eo:∃ F:List D->M OT,(∀ {P:Program}{w:World}{K:za}{mg:Str->Option Value}{base:Heap},Txt K mg->IP P w K mg base "Ladder" "kept" 1 1 F)/\(∀(m:Nat) (rs:List Road) (L:List Int) (A:LA) (K:List (Int×Int)),F [Ba m rs L A K]=.ok (.lst ((K.map pD).map .sh))):=by
 refine⟨_,fun T=>Mb (k:=0) T.O8 Np _ (fun f B1 A outer s H E hr=>(A5 (Am (Jo rfl T.F5 (F3 ["Ladder"] (Br T.Em BZ) (A1 0 (pv 0))))))),?_⟩
 intro m rs L A K
 rfl
noncomputable def Bv:List D->M OT:=zj Eo
theorem GY:Txt K mg->IP P w K mg base "Ladder" "kept" 1 1 Bv:=(zb Eo).1
theorem GZ:∀(m:Nat) (rs:List Road) (L:List Int) (A:LA) (K:List (Int×Int)),Bv [Ba m rs L A K]=.ok (.lst ((K.map pD).map .sh)):=(zb Eo).2
theorem F7:∃ F:List D->M OT,(∀ {P:Program}{w:World}{K:za}{mg:Str->Option Value}{base:Heap},Txt K mg->BV P w K mg base "kept_costs" 4 1 F)/\(∀(m:Nat) (rs:List Road) (L:List Int) (A:LA) (K:List (Int×Int)),Cs m rs L A K->F [Ba m rs L A K]=.ok (nL (Ii A K))):=by
 refine⟨_,fun T=>AF (k:=3) T.Qq O5 _ (fun f B1 A outer s H E hr=>(A5 (Am (RT rfl (AR hr 16 (by decide)) rfl T.Zc (Aj (Cd (NB:=["u","w","ladder"]) [none,none,some 0] rfl (AO (Aj (K3 (k:=1) [("Ladder",Bv)] A9.toXCall (Ej (by decide) (GY T) FF) (hr.mono (by decide)) (A1 0 (pv 0))))) rfl rfl (US (n:=2) rfl (HA 0 (by decide) rfl rfl rfl (HA 1 (by decide) rfl rfl rfl RB))) (fun _ _ _ _=>Df) (fun _ _ _ _=>(AL (A2 (AL (A2 (A1 0 (pv 0)) (A2 (A1 1 (pv 1)) A8))) (A2 (Aj (BO (Q3 (k:=3) [("Ladder",Bu)] (Bg rfl).toXCall (Ej (by decide) (GW T) FF) (hr.mono (by decide)) (A1 2 (pv 2)) (A2 (A1 0 (pv 0)) (A2 (A1 1 (pv 1)) A8)) rfl))) A8)))))))))),?_⟩
 intro m rs L A K ok
 have e0:AI ["ladder"] [Ba m rs L A K]=[some (.val (Ba m rs L A K))]:=rfl
 rw[e0]
 refine Bq ?_
 have hs:IQ [("Ladder",Bv)] "kept" (Ba m rs L A K)=.ok Bv:=rfl
 have bh:IQ [("Ladder",Bu)] "cost" (Ba m rs L A K)=.ok Bu:=rfl
 have hk:=GZ m rs L A K
 have hl:(K.map pD).length<=1000:=by rw[zc];have:=ok.kl;omega
 have hn:((Ii A K).map zP).Nodup:=by rw[Nj];exact ok.kn
 have hd:=Z1 (C:=Ii A K) hn (by simp only[Ii,zc];have:=ok.kl;omega)
 simp_arith[hs,hk,if_pos hl]
 rw[C7 (fun p=>D.tup [pD p,cst (some ((Ak A p).getD (0,0)))]) (fun p hp=>⟨_,rfl,rfl,by
  obtain⟨c,hc,_⟩:=(ok.km p).mp hp
  have h1:=GX m rs L A K p.1 p.2 c ok.tV hc
  simp_arith[bh,h1]
  rw[hc]
  rfl⟩)]
 have e1:(K.map fun p=>D.tup [pD p,cst (some ((Ak A p).getD (0,0)))])=(Ii A K).map fun kv=>D.tup [pD kv.1,cst (some kv.2)]:=by
  simp only[RX,Ii,yM];rfl
 rw[e1]
 simp_arith[hd]
 exact⟨_,rfl,rfl⟩
noncomputable def Lj:List D->M OT:=zj F7
theorem Ob:Txt K mg->BV P w K mg base "kept_costs" 4 1 Lj:=(zb F7).1
theorem Oc:∀(m:Nat) (rs:List Road) (L:List Int) (A:LA) (K:List (Int×Int)),Cs m rs L A K->Lj [Ba m rs L A K]=.ok (nL (Ii A K)):=(zb F7).2
theorem C8:∃ F:List D->M OT,(∀ {P:Program}{w:World}{K:za}{mg:Str->Option Value}{base:Heap},Txt K mg->BV P w K mg base "kept_costs_turned" 4 1 F)/\(∀(m:Nat) (rs:List Road) (L:List Int) (A:LA) (K:List (Int×Int)),Cs m rs L A K->F [Ba m rs L A K]=.ok (nL (RX (Ii A K)))):=by
 refine⟨_,fun T=>AF (k:=3) T.Ia GU _ (fun f B1 A outer s H E hr=>(A5 (Am (RT rfl (AR hr 16 (by decide)) rfl T.Zc (Aj (Cd (NB:=["u","w","ladder"]) [none,none,some 0] rfl (AO (Aj (K3 (k:=1) [("Ladder",Bv)] A9.toXCall (Ej (by decide) (GY T) FF) (hr.mono (by decide)) (A1 0 (pv 0))))) rfl rfl (US (n:=2) rfl (HA 0 (by decide) rfl rfl rfl (HA 1 (by decide) rfl rfl rfl RB))) (fun _ _ _ _=>Df) (fun _ _ _ _=>(AL (A2 (AL (A2 (A1 1 (pv 1)) (A2 (A1 0 (pv 0)) A8))) (A2 (Aj (BO (Q3 (k:=3) [("Ladder",Bu)] (Bg rfl).toXCall (Ej (by decide) (GW T) FF) (hr.mono (by decide)) (A1 2 (pv 2)) (A2 (A1 0 (pv 0)) (A2 (A1 1 (pv 1)) A8)) rfl))) A8)))))))))),?_⟩
 intro m rs L A K ok
 have e0:AI ["ladder"] [Ba m rs L A K]=[some (.val (Ba m rs L A K))]:=rfl
 rw[e0]
 refine Bq ?_
 have hs:IQ [("Ladder",Bv)] "kept" (Ba m rs L A K)=.ok Bv:=rfl
 have bh:IQ [("Ladder",Bu)] "cost" (Ba m rs L A K)=.ok Bu:=rfl
 have hk:=GZ m rs L A K
 have hl:(K.map pD).length<=1000:=by rw[zc];have:=ok.kl;omega
 have hn:((Ii A K).map zP).Nodup:=by rw[Nj];exact ok.kn
 have hd:=Z1 (C:=RX (Ii A K)) (Wz hn) (by unfold RX;simp only[Ii,zc];have:=ok.kl;omega)
 simp_arith[hs,hk,if_pos hl]
 rw[C7 (fun p=>D.tup [pD (p.2,p.1),cst (some ((Ak A p).getD (0,0)))]) (fun p hp=>⟨_,rfl,rfl,by
  obtain⟨c,hc,_⟩:=(ok.km p).mp hp
  have h1:=GX m rs L A K p.1 p.2 c ok.tV hc
  simp_arith[bh,h1]
  rw[hc]
  rfl⟩)]
 have e1:(K.map fun p=>D.tup [pD (p.2,p.1),cst (some ((Ak A p).getD (0,0)))])=(RX (Ii A K)).map fun kv=>D.tup [pD kv.1,cst (some kv.2)]:=by
  simp only[RX,Ii,yM];rfl
 rw[e1]
 simp_arith[hd]
 exact⟨_,rfl,rfl⟩
noncomputable def Ep:List D->M OT:=zj C8
theorem H9:Txt K mg->BV P w K mg base "kept_costs_turned" 4 1 Ep:=(zb C8).1
theorem Ha:∀(m:Nat) (rs:List Road) (L:List Int) (A:LA) (K:List (Int×Int)),Cs m rs L A K->Ep [Ba m rs L A K]=.ok (nL (RX (Ii A K))):=(zb C8).2
theorem IV:∃ F:List D->M OT,(∀ {P:Program}{w:World}{K:za}{mg:Str->Option Value}{base:Heap},Txt K mg->BV P w K mg base "climbed" 2 3 F)/\(∀(m:Nat) (L:List Int) (C:CA) (s:Int),m<=20->L.Perm (AU m)->s∈L->(∀ p c,AG C p=some c->p.1∈L/\p.2∈L)->∃ R:RA,F [.lst (L.map D.int),Md C,.int s]=.ok (Zm R)/\QJ L C s L.length R):=by
 refine⟨_,fun T=>AF (k:=1) T.WC Dc _ (fun f B1 A outer s H E hr=>(A4 (BB 3 Dc.nd rfl (yJ rfl) (YJ (A1 2 (pv 2)) (AL (A2 A6 (A2 A6 A8))))) (A4 (BE A9.toXCall.own rfl (Uw rfl T.Lh (A1 0 (pv 0))) (XH (n:=2) rfl (Jc (AY 4 Dc.nd rfl (yJ rfl)) (Jc (AY 5 Dc.nd rfl (yJ rfl)) Uv))) (A5 (B7 (IG (N0 (c:=true) (AR hr 16 (by decide)) (A1 5 (pv 5)) (A1 3 (pv 3)))) (A5 (BE A9.toXCall.own rfl (AO (Aj (N3 (A1 0 (pv 0)) (LL (BW (A1 4 (pv 4)) A6)) Uu))) (AY 6 Dc.nd rfl (yJ rfl)) (A5 (B7 (N0 (c:=true) (AR hr 16 (by decide)) (AL (A2 (A1 5 (pv 5)) (A2 (A1 6 (pv 6)) A8))) (A1 1 (pv 1))) (A4 (B3 7 Dc.nd rfl (yJ rfl) (Aj (Ef (Aa A9.toXCall (Kc T) (hr.mono (by decide)) rfl (A2 (Ac (AR hr 16 (by decide)) (A1 3 (pv 3)) (A1 5 (pv 5))) (A2 (Ac (AR hr 16 (by decide)) (A1 1 (pv 1)) (AL (A2 (A1 5 (pv 5)) (A2 (A1 6 (pv 6)) A8)))) A8)) rfl)))) (A5 (LS (AR hr 16 (by decide)) (BP 3 (pv 3)) (A1 6 (pv 6)) (Aj (Ef (Aa A9.toXCall (Nz T) (hr.mono (by decide)) rfl (A2 (GA (A2 (Nf (AR hr 16 (by decide)) (A1 3 (pv 3)) (A1 6 (pv 6))) (A2 (A1 7 (pv 7)) A8))) A8) rfl)))))) AB)))) AB))) (A5 (CN 3 (pv 3)))))),?_⟩
 intro m L C s hm hL hs hC
 have hn:=IM hL
 have hlen:=GQ hL
 have e0:AI ["order","costs","place","reached","rank","lower","higher","cost"] [.lst (L.map D.int),Md C,.int s]=[some (.val (.lst (L.map D.int))),some (.val (Md C)),some (.val (.int s)),none,none,none,none,none]:=rfl
 rw[e0]
 refine (fun h:∃ t,_/\∃ R:RA,t=Zm R/\QJ L C s L.length R=>by
  obtain⟨t,h1,R,rfl,h2⟩:=h
  exact⟨R,h1,h2⟩) (Lc ?_)
 refine wp_step (ρ':=[some (.val (.lst (L.map D.int))),some (.val (Md C)),some (.val (.int s)),some (.ow (.tree none (Zm [(s,(0,0))]))),none,none,none,none]) (by rfl) ?_
 refine C6 (I:=fun ρ=>∃(R:RA) (s4 s5 s6 s7:Option Cl),ρ=[some (.val (.lst (L.map D.int))),some (.val (Md C)),some (.val (.int s)),some (.ow (.tree none (Zm R))),s4,s5,s6,s7]/\QJ L C s L.length R) ?_ ?_
 ·simp_arith[]
  refine BF (fun i ρ=>i<=L.length/\∃(R:RA) (s4 s5 s6 s7:Option Cl),ρ=[some (.val (.lst (L.map D.int))),some (.val (Md C)),some (.val (.int s)),some (.ow (.tree none (Zm R))),s4,s5,s6,s7]/\QJ L C s i R) ⟨zW _,_,none,none,none,none,rfl,QJ.start hs⟩ ?_ ?_
  ·rintro i d ρ hd ⟨hi,R,s4,s5,s6,s7,rfl,hR⟩
   obtain⟨d',aR,rfl⟩:=Kw hd
   obtain⟨x,hx,rfl⟩:=BR aR
   have aj:=(zA.mp hx).1
   rw[Nat.zero_add]
   refine⟨_,rfl,?_⟩
   have de:=mJ R x false
   have ii:=Qg hn hx
   cases q:AG R x with
   |none =>
    rw[q] at de
    refine Bj (ρ':=_) (by simp_arith[de];rfl) ⟨aj,R,_,_,_,_,rfl,hR.skip hx hn q⟩
   |some c0 =>
    rw[q] at de
    have sl:eK (some ((i:Int) + 1)) none (.lst (L.map D.int))=.ok (.lst (((L.drop (i + 1)).map D.int).map .sh)):=by rw[List.map_drop];exact RH _ (i + 1)
    simp_arith[de,sl,if_true,Option.isSome_some,zF,if_false]
    refine BF (fun j ρ=>j<=(L.drop (i + 1)).length/\∃(R':RA) (s6 s7:Option Cl),ρ=[some (.val (.lst (L.map D.int))),some (.val (Md C)),some (.val (.int s)),some (.ow (.tree none (Zm R'))),some (.val (.int i)),some (.val (.int x)),s6,s7]/\iO L C s i x c0 ((L.drop (i + 1)).take j) R R') ⟨zW _,R,s6,s7,rfl,hR.nd,hR.rg,hR.sd,fun y=>C4 _,fun y _=>rfl,fun y hy=>by rw[List.take_zero] at hy;cases hy⟩ ?_ ?_
    ·rintro j d ρ hd ⟨hj,R',s6,s7,rfl,hI⟩
     obtain⟨y,hy,rfl⟩:=BR hd
     have jx:=(zA.mp hy).1
     have vw:=zk hy
     have xm:y∈L:=List.mem_of_mem_drop vw
     have ij:i < DD L y:=Vh hn vw
     have et:(L.drop (i + 1)).take (j + 1)=(L.drop (i + 1)).take j++[y]:=by rw[yZ,hy];rfl
     refine⟨_,rfl,?_⟩
     rw[et]
     have t1:∀ a b:Int,D.tup [.int a,.int b]=pD (a,b):=fun a b=>rfl
     have l5:=mG C (x,y) false
     cases q2:AG C (x,y) with
     |none =>
      rw[q2] at l5
      refine Bj (ρ':=_) (by simp_arith[t1,l5];rfl) ⟨jx,R',_,_,rfl,hI.skip q2⟩
     |some dd =>
      rw[q2] at l5
      have ax:AG R' x=some c0:=by rw[hI.sm x (by omega)];exact q
      have i1:=mK ax
      have i2:=mH q2
      have h1:=Kd (some c0) (some dd)
      have g1:=YZ R' y
      obtain⟨v,hv⟩:∃ v,DC (AG R' y) (some (c0.1 + dd.1,c0.2 + dd.2))=some v:=by
       cases AG R' y with
       |none=>exact⟨_,rfl⟩
       |some z=>exact⟨_,rfl⟩
      have h2:Qt [.lst [cst (AG R' y),cst (some (c0.1 + dd.1,c0.2 + dd.2))]]=.ok (.sh (cst (DC (AG R' y) (some (c0.1 + dd.1,c0.2 + dd.2))))):=NA [AG R' y,some (c0.1 + dd.1,c0.2 + dd.2)] (by simp)
      rw[hv] at h2
      have a9:=hI.put xm ij ii q q2 hv
      have hl:(R'.map fun kv=>D.int kv.1).length < 1000:=by
       have:=KJ hI.nd hI.rg
       rw[zc] at this ⊢
       omega
      have ik:∀ z:Int,keyOk false (.int z)=true:=fun z=>rfl
      have ha:Aq (some c0) (some dd)=some (c0.1 + dd.1,c0.2 + dd.2):=rfl
      rw[ha] at h1
      simp_arith[t1,l5,if_true,Option.isSome_some,zF,if_false]
      apply wp_step
      ·simp_arith[t1,i1,i2,h1];rfl
      refine Bj (ρ':=[some (.val (.lst (L.map D.int))),some (.val (Md C)),some (.val (.int s)),some (.ow (.tree none (Zm (Dv R' y v)))),some (.val (.int i)),some (.val (.int x)),some (.val (.int y)),some (.val (cst (some (c0.1 + dd.1,c0.2 + dd.2))))]) (by
       simp_arith[g1,h2,ik,hl,and_self,if_true,mL]
       rfl) ⟨jx,_,_,_,rfl,a9⟩
    ·rintro ρ ⟨_,R',s6,s7,rfl,hI⟩
     rw[zc,yX] at hI
     exact⟨aj,R',_,_,s6,s7,rfl,hR.go (fun p c h=>(hC p c h).2) hx hn q hI⟩
  ·rintro ρ ⟨_,R,s4,s5,s6,s7,rfl,hR⟩
   rw[Hr,zc] at hR
   exact⟨R,s4,s5,s6,s7,rfl,hR⟩
 ·rintro ρ ⟨R,s4,s5,s6,s7,rfl,hR⟩
  exact⟨_,rfl,R,rfl,hR⟩
noncomputable def Sg:List D->M OT:=zj IV
theorem U7:Txt K mg->BV P w K mg base "climbed" 2 3 Sg:=(zb IV).1
theorem U8:∀(m:Nat) (L:List Int) (C:CA) (s:Int),m<=20->L.Perm (AU m)->s∈L->(∀ p c,AG C p=some c->p.1∈L/\p.2∈L)->∃ R:RA,Sg [.lst (L.map D.int),Md C,.int s]=.ok (Zm R)/\QJ L C s L.length R:=(zb IV).2
theorem ND:∃ F:List D->M OT,(∀ {P:Program}{w:World}{K:za}{mg:Str->Option Value}{base:Heap},Txt K mg->BV P w K mg base "swept" 3 3 F)/\(∀(m:Nat) (L:List Int) (C:CA) (s:Int),m<=20->L.Perm (AU m)->s∈L->(∀ p c,AG C p=some c->p.1∈L/\p.2∈L)->∃(R:RA) (T:List Co),F [.lst (L.map D.int),Md C,.int s]=.ok (.lst ((T.map cst).map .sh))/\QJ L C s L.length R/\Z5 m L C s R L.reverse T):=by
 refine⟨_,fun T=>AF (k:=2) T.gI Fm _ (fun f B1 A outer s H E hr=>(A4 (B3 3 Fm.nd rfl (yJ rfl) (Aj (Aa A9.toXCall (U7 T) (hr.mono (by decide)) rfl (A2 (A1 0 (pv 0)) (A2 (A1 1 (pv 1)) (A2 (A1 2 (pv 2)) A8))) rfl))) (A4 (BB 4 Fm.nd rfl (Or.inr rfl) (Tx D4 (Du rfl T.Gd (A1 0 (pv 0))))) (A4 (BB 5 Fm.nd rfl (yJ rfl) (KD FC)) (A4 (BE A9.toXCall.own rfl (lZ rfl T.U2 (A1 0 (pv 0))) (AY 6 Fm.nd rfl (Or.inr rfl)) (A4 (Yg (NB:=["high","told","costs","lower"]) 7 [none,some 4,some 1,some 6] Fm.nd rfl (yJ rfl) rfl (AO (A1 5 (pv 5))) rfl rfl (Bp 0 (by decide) rfl rfl rfl) (fun _ _ _ _=>Df) (fun _ _ _ _=>(Aj (BO (Aa (Bg rfl).toXCall (Kc T) (hr.mono (by decide)) rfl (A2 (Ac (AR hr 16 (by decide)) (A1 1 (pv 1)) (A1 0 (pv 0))) (A2 (Nf (AR hr 16 (by decide)) (A1 2 (pv 2)) (AL (A2 (A1 0 (pv 0)) (A2 (A1 3 (pv 3)) A8)))) A8)) rfl))))) (A4 (Kz 4 (pv 4) (Aj (Ef (Aa A9.toXCall (Nz T) (hr.mono (by decide)) rfl (A2 (Aj (eL (GA (A2 (Nf (AR hr 16 (by decide)) (A1 3 (pv 3)) (A1 6 (pv 6))) A8)) (A1 7 (pv 7)))) A8) rfl))) (A1 6 (pv 6))) (A5 (Hq 5 (pv 5) (A1 6 (pv 6))))))) (A5 (CN 4 (pv 4)))))))),?_⟩
 intro m L C s hm hL hs hC
 have hn:=IM hL
 have hlen:=GQ hL
 obtain⟨R,hF,hR⟩:=U8 m L C s hm hL hs hC
 have e0:AI ["order","costs","place","reached","told","higher","lower","over"] [.lst (L.map D.int),Md C,.int s]=[some (.val (.lst (L.map D.int))),some (.val (Md C)),some (.val (.int s)),none,none,none,none,none]:=rfl
 rw[e0]
 refine (fun h:∃ t,_/\∃ T:List Co,t=.lst ((T.map cst).map .sh)/\Z5 m L C s R L.reverse T=>by
  obtain⟨t,h1,T,rfl,h2⟩:=h
  exact⟨R,T,h1,hR,h2⟩) (Lc ?_)
 have qu:((L.map D.int).length:Int)=(m:Int):=by rw[zc,hlen]
 have b8:=N7 (d:=.AA) (n:=m) (by omega)
 have cE:zw m D.AA=(zw m (none:Co)).map cst:=by rw[List.map_replicate];rfl
 rw[cE] at b8
 apply wp_step
 ·simp_arith[hF];rfl
 try simp only[zv,zo]
 apply wp_step
 ·simp_arith[qu,b8];rfl
 try simp only[zv,zo]
 apply wp_step
 ·rfl
 try simp only[zv,zo]
 refine C6 (I:=fun ρ=>∃(T:List Co) (s5 s6 s7:Option Cl),ρ=[some (.val (.lst (L.map D.int))),some (.val (Md C)),some (.val (.int s)),some (.val (YY R)),some (.own (T.map cst)),s5,s6,s7]/\Z5 m L C s R L.reverse T) ?_ ?_
 ·have qv:(L.map D.int).reverse=L.reverse.map D.int:=by rw[List.map_reverse]
  simp_arith[qv]
  refine BF (fun i ρ=>i<=L.reverse.length/\∃(T:List Co) (s6 s7:Option Cl),ρ=[some (.val (.lst (L.map D.int))),some (.val (Md C)),some (.val (.int s)),some (.val (YY R)),some (.own (T.map cst)),some (.own ((L.reverse.take i).map D.int)),s6,s7]/\Z5 m L C s R (L.reverse.take i) T) ⟨zW _,_,none,none,rfl,Z5.start⟩ ?_ ?_
  ·rintro i d ρ hd ⟨hi,T,s6,s7,rfl,hT⟩
   obtain⟨y,hy,rfl⟩:=BR hd
   have aj:=(zA.mp hy).1
   have ij:=(B4 hL).mp (List.mem_reverse.mp (zk hy))
   have et:L.reverse.take (i + 1)=L.reverse.take i++[y]:=by rw[yZ,hy];rfl
   rw[za1] at aj
   have xn:L[L.length - 1 - i]? =some y:=by rw[List.getElem?_reverse aj] at hy;exact hy
   have yE:=Qg hn xn
   have qw:∀ x∈L.reverse.take i,(0<=x/\x < m)/\DD L y < DD L x:=fun x hx=>by
    have xp:=List.mem_reverse.mp (yR hx)
    refine⟨(B4 hL).mp xp,?_⟩
    rw[List.take_reverse,List.mem_reverse] at hx
    have:=Vh hn hx
    omega
   have qr:y∉L.reverse.take i:=fun hx=>by have:=(qw y hx).2;omega
   have vx:=hT.len
   refine⟨_,rfl,?_⟩
   have jw:((L.reverse.take i).map D.int).length<=1000:=by rw[zc,yY,za1];omega
   have t1:∀ a b:Int,D.tup [.int a,.int b]=pD (a,b):=fun a b=>rfl
   have g1:=YZ R y
   obtain⟨vs,aI⟩:∃ vs:List Co,vs=(L.reverse.take i).map fun x=>Aq (atC T x) (AG C (x,y)):=⟨_,rfl⟩
   apply wp_step
   ·simp_arith[if_pos jw]
    rw[C7 (fun x=>cst (Aq (atC T x) (AG C (x,y)))) (fun x hx=>⟨_,rfl,rfl,by
     have vy:=(qw x hx).1
     have x1:B5 (.lst (T.map cst)) (.int x)=.ok (cst (atC T x)):=Ed vy.1 (by rw[vx];exact vy.2)
     have g2:=mI C (x,y)
     have h1:=Kd (atC T x) (AG C (x,y))
     simp_arith[t1,x1,g2,h1]⟩)]
    have ev:(L.reverse.take i).map (fun x=>cst (Aq (atC T x) (AG C (x,y))))=vs.map cst:=by rw[aI,yM];rfl
    rw[ev]
    have dv:=Z4 vs
    simp_arith[dv]
    rfl
   try simp only[zv,zo]
   have a6:Ru (.lst [cst (AG R y)]) (.lst (vs.map cst))=.ok (.lst (((AG R y::vs).map cst).map .sh)):=fE (by rw[aI,zc,zc,yY,za1,za9];omega)
   have h3:=NA (AG R y::vs) (by rw[aI,zp,zc,yY,za1];omega)
   have a9:=HP (i:=4) (ρ:=[some (.val (.lst (L.map D.int))),some (.val (Md C)),some (.val (.int s)),some (.val (YY R)),some (.own (T.map cst)),some (.own ((L.reverse.take i).map D.int)),some (.val (.int y)),some (.own (vs.map cst))]) (d:=cst (FA (AG R y::vs))) (p:=y) rfl ij.1 (by rw[zc,vx];exact ij.2)
   have br:(T.map cst).set y.toNat (cst (FA (AG R y::vs)))=(T.set y.toNat (FA (AG R y::vs))).map cst:=by rw[List.map_set]
   rw[br] at a9
   apply wp_step
   ·simp_arith[g1,a6,h3,a9];rfl
   try simp only[zv,zo]
   have xq:((L.reverse.take i).map D.int).length < 1000:=by rw[zc,yY,za1];omega
   refine Bj (ρ':=[some (.val (.lst (L.map D.int))),some (.val (Md C)),some (.val (.int s)),some (.val (YY R)),some (.own ((T.set y.toNat (FA (AG R y::vs))).map cst)),some (.own ((L.reverse.take (i + 1)).map D.int)),some (.val (.int y)),some (.own (vs.map cst))]) (by simp_arith[if_pos xq,et,zN,zg,zau]) ⟨by rw[za1];exact aj,_,_,_,rfl,?_⟩
   rw[et,aI]
   exact hT.step hR.sd ij.1 ij.2 qr qw
  ·rintro ρ ⟨_,T,s6,s7,rfl,hT⟩
   rw[zc,yX] at hT
   exact⟨T,_,s6,s7,rfl,hT⟩
 ·rintro ρ ⟨T,s5,s6,s7,rfl,hT⟩
  exact⟨_,rfl,T,rfl,hT⟩
noncomputable def Zh:List D->M OT:=zj ND
theorem Sh:Txt K mg->BV P w K mg base "swept" 3 3 Zh:=(zb ND).1
theorem Si:∀(m:Nat) (L:List Int) (C:CA) (s:Int),m<=20->L.Perm (AU m)->s∈L->(∀ p c,AG C p=some c->p.1∈L/\p.2∈L)->∃(R:RA) (T:List Co),Zh [.lst (L.map D.int),Md C,.int s]=.ok (.lst ((T.map cst).map .sh))/\QJ L C s L.length R/\Z5 m L C s R L.reverse T:=(zb ND).2
theorem F8:∃ F:List D->M OT,(∀ {P:Program}{w:World}{K:za}{mg:Str->Option Value}{base:Heap},Txt K mg->BV P w K mg base "costs_from" 2 2 F)/\(∀(m s:Nat) (rs:List Road),s < m->m<=900->(∀ r∈rs,Hu m r)->∃ cs:List Co,Right m s rs cs/\F [As m rs,.int s]=.ok (.lst ((cs.map cst).map .sh))):=by
 refine⟨_,fun T=>AF (k:=1) T.Qs Bx _ (fun f B1 A outer s H E hr=>(A4 (BB 2 Bx.nd rfl (yJ rfl) (Tx D4 (Ac (AR hr 16 (by decide)) (A1 0 (pv 0)) A6))) (A4 (Kz 2 (pv 2) (AL (A2 A6 (A2 A6 A8))) (A1 1 (pv 1))) (A4 (B3 3 Bx.nd rfl (yJ rfl) CF) (A4 (Ri A9.toXCall.own (BX (c:=true) (A1 3 (pv 3))) (A4 (B3 3 Bx.nd rfl (yJ rfl) CF) (A5 (BE A9.toXCall.own rfl (AO (Ac (AR hr 16 (by decide)) (A1 0 (pv 0)) A6)) (AY 4 Bx.nd rfl (yJ rfl)) (A4 (B3 5 Bx.nd rfl (yJ rfl) (Aj (Ef (Aa A9.toXCall (Nz T) (hr.mono (by decide)) rfl (A2 (GA (A2 (Ac (AR hr 16 (by decide)) (A1 2 (pv 2)) (Ac (AR hr 16 (by decide)) (A1 4 (pv 4)) A6)) (A2 (Aj (Aa A9.toXCall (Kc T) (hr.mono (by decide)) rfl (A2 (Ac (AR hr 16 (by decide)) (A1 2 (pv 2)) (Ac (AR hr 16 (by decide)) (A1 4 (pv 4)) A6)) (A2 (Aj (Aa A9.toXCall (FO T) (hr.mono (by decide)) rfl (A2 (A1 4 (pv 4)) A8) rfl)) A8)) rfl)) A8))) A8) rfl)))) (A5 (B7 (IG (G7 (c:=true) (AR hr 16 (by decide)) (A1 5 (pv 5)) (Ac (AR hr 16 (by decide)) (A1 2 (pv 2)) (Ac (AR hr 16 (by decide)) (A1 4 (pv 4)) A6)))) (A4 (Kz 2 (pv 2) (A1 5 (pv 5)) (Ac (AR hr 16 (by decide)) (A1 4 (pv 4)) A6)) (A5 (B3 3 Bx.nd rfl (yJ rfl) CF))) AB))))))) (A5 (CN 2 (pv 2)))))))),?_⟩
 intro m s rs hs hm Av
 have e0:AI ["net","start","costs","changed","road","cost"] [As m rs,.int s]=[some (.val (As m rs)),some (.val (.int s)),none,none,none,none]:=rfl
 rw[e0]
 refine (fun h:∃ t,_/\∃ cs:List Co,Right m s rs cs/\t=.lst ((cs.map cst).map .sh)=>by
  obtain⟨t,h1,cs,h2,rfl⟩:=h
  exact⟨cs,h2,h1⟩) (Lc ?_)
 have n0:B5 (As m rs) (.int 0)=.ok (.int m):=rfl
 have n1:B5 (As m rs) (.int 1)=.ok (.lst (rs.map BI)):=rfl
 have b8:=N7 (d:=.AA) (n:=m) (by omega)
 have cE:zw m D.AA=(zw m (none:Co)).map cst:=by rw[List.map_replicate];rfl
 rw[cE] at b8
 apply wp_step
 ·simp_arith[n0,b8];rfl
 try simp only[zv,zo]
 have a9:=HP (i:=2) (ρ:=[some (.val (As m rs)),some (.val (.int s)),some (.own ((zw m (none:Co)).map cst)),none,none,none]) (d:=.tup [.int 0,.int 0]) (p:=(s:Int)) rfl (by omega) (by rw[zc,zb1];omega)
 have br:((zw m (none:Co)).map cst).set (s:Int).toNat (.tup [.int 0,.int 0])=((zw m none).set s (some (0,0))).map cst:=by rw[zZ,List.map_set];rfl
 rw[br] at a9
 apply wp_step
 ·simp_arith[a9];rfl
 try simp only[zv,zo]
 apply wp_step
 ·rfl
 try simp only[zv,zo]
 refine C6 (I:=fun ρ=>∃(cs:List Co) (s3 s4 s5:Option Cl),ρ=[some (.val (As m rs)),some (.val (.int s)),some (.own (cs.map cst)),s3,s4,s5]/\Right m s rs cs) ?_ ?_
 ·refine RC (lt:=tX) (fun z ρ=>∃(s4 s5:Option Cl),ρ=[some (.val (As m rs)),some (.val (.int s)),some (.own (z.1.map cst)),some (.val (.bl z.2)),s4,s5]/\Good m s rs z.1/\(z.2=false->Right m s rs z.1)) (mO _) ⟨none,none,rfl,MS rs hs,fun e=>by cases e⟩ ?_
  rintro ⟨cs,b⟩ ρ ⟨s4,s5,rfl,g,hR⟩
  cases b with
  |false=>exact .inl ⟨rfl,cs,_,s4,s5,rfl,hR rfl⟩
  |true =>
   refine .inr ⟨rfl,?_⟩
   apply wp_step
   ·rfl
   try simp only[zv,zo]
   simp_arith[n1]
   refine BF (fun i ρ=>∃(a8:List Co) (ch:Bool) (s4 s5:Option Cl),ρ=[some (.val (As m rs)),some (.val (.int s)),some (.own (a8.map cst)),some (.val (.bl ch)),s4,s5]/\Good m s rs a8/\(ch=true->NR ltN a8 cs)/\(ch=false->a8=cs/\∀ r∈rs.take i,DC (atC cs r.b) (Aq (atC cs r.a) (C5 r))=atC cs r.b)) ⟨cs,false,s4,s5,rfl,g,(fun h=>by cases h),fun _=>⟨rfl,fun r hr=>by rw[List.take_zero] at hr;cases hr⟩⟩ ?_ ?_
   ·rintro i d ρ hd ⟨a8,ch,s4,s5,rfl,g1,h1,h2⟩
    obtain⟨r,hq,rfl⟩:=BR hd
    have hr:=zk hq
    have ok:=Av r hr
    obtain⟨g2,_,g4,g5⟩:=VZ g1 hr Av
    have cg:r.b < a8.length:=by rw[g1.len];exact ok.b1
    have xr:r.a < a8.length:=by rw[g1.len];exact ok.a1
    have r0:B5 (BI r) (.int 0)=.ok (.int r.a):=rfl
    have r1:B5 (BI r) (.int 1)=.ok (.int r.b):=rfl
    have x0:B5 (.lst (a8.map cst)) (.int r.a)=.ok (cst (atC a8 r.a)):=Ed ok.a0 xr
    have x1:B5 (.lst (a8.map cst)) (.int r.b)=.ok (cst (atC a8 r.b)):=Ed ok.b0 cg
    have xt:=FQ r
    have qx:=Kd (atC a8 r.a) (C5 r)
    have hle:Qt [.lst [cst (atC a8 r.b),cst (Aq (atC a8 r.a) (C5 r))]]=.ok (.sh (cst (DC (atC a8 r.b) (Aq (atC a8 r.a) (C5 r))))):=NA [atC a8 r.b,Aq (atC a8 r.a) (C5 r)] (by simp)
    have af:=dS (DC (atC a8 r.b) (Aq (atC a8 r.a) (C5 r))) (atC a8 r.b)
    refine⟨_,rfl,?_⟩
    apply wp_step
    ·simp_arith[r0,r1,x0,x1,xt,qx,hle];rfl
    try simp only[zv,zo]
    by_cases hc:DC (atC a8 r.b) (Aq (atC a8 r.a) (C5 r))=atC a8 r.b
    ·rw[decide_eq_true hc] at af
     refine Bj (ρ':=_) (by simp_arith[r1,x1,af];rfl) ⟨a8,ch,_,_,rfl,g1,h1,fun hf=>?_⟩
     obtain⟨e1,e2⟩:=h2 hf
     subst e1
     refine⟨rfl,fun r' bq=>?_⟩
     rw[yZ,hq] at bq
     rcases zy.mp bq with bq|bq
     ·exact e2 r' bq
     ·have:r'=r:=by simpa using bq
      rw[this];exact hc
    ·rw[decide_eq_false hc] at af
     have a9:=HP (i:=2) (ρ:=[some (.val (As m rs)),some (.val (.int s)),some (.own (a8.map cst)),some (.val (.bl ch)),some (.val (BI r)),some (.val (cst (DC (atC a8 r.b) (Aq (atC a8 r.a) (C5 r)))))]) (d:=cst (DC (atC a8 r.b) (Aq (atC a8 r.a) (C5 r)))) (p:=r.b) rfl ok.b0 (by rw[zc];exact cg)
     have br:(a8.map cst).set r.b.toNat (cst (DC (atC a8 r.b) (Aq (atC a8 r.a) (C5 r))))=(D6 r a8).map cst:=by unfold D6;rw[List.map_set]
     rw[br] at a9
     simp_arith[r1,x1,af,if_true]
     apply wp_step
     ·simp_arith[r1,a9];rfl
     refine Bj (ρ':=_) rfl ⟨D6 r a8,true,_,_,rfl,g2,fun _=>?_,fun hf=>by cases hf⟩
     cases ch with
     |false=>obtain⟨e1,_⟩:=h2 rfl;subst e1;exact g5 hc
     |true=>exact NR.trans ltN VX (g5 hc) (h1 rfl)
   ·rintro ρ' ⟨a8,ch,s4,s5,rfl,g1,h1,h2⟩
    cases ch with
    |true=>exact⟨(a8,true),⟨rfl,.inr ⟨rfl,h1 rfl⟩⟩,s4,s5,rfl,g1,fun e=>by cases e⟩
    |false =>
     obtain⟨e1,e2⟩:=h2 rfl
     subst e1
     rw[zc,yX] at e2
     exact⟨(a8,false),⟨rfl,.inl rfl⟩,s4,s5,rfl,g1,fun _=>right_of g1 e2⟩
 ·rintro ρ' ⟨cs,s3,s4,s5,rfl,hR⟩
  exact⟨_,rfl,cs,hR,rfl⟩
noncomputable def Lk:List D->M OT:=zj F8
theorem Od:Txt K mg->BV P w K mg base "costs_from" 2 2 Lk:=(zb F8).1
theorem F9:∀(m s:Nat) (rs:List Road),s < m->m<=900->(∀ r∈rs,Hu m r)->∃ cs:List Co,Right m s rs cs/\Lk [As m rs,.int s]=.ok (.lst ((cs.map cst).map .sh)):=(zb F8).2
theorem Dw:∃ F:List D->M OT,(∀ {P:Program}{w:World}{K:za}{mg:Str->Option Value}{base:Heap},Txt K mg->IP P w K mg base "Ladder" "order" 1 1 F)/\(∀(m:Nat) (rs:List Road) (L:List Int) (A:LA) (K:List (Int×Int)),F [Ba m rs L A K]=.ok (.lst ((L.map D.int).map .sh))):=by
 refine⟨_,fun T=>Mb (k:=0) T.Nv LB _ (fun f B1 A outer s H E hr=>(A5 (Am (Jo rfl T.F5 (F3 ["Ladder"] (Br T.CB BZ) (A1 0 (pv 0))))))),?_⟩
 intro m rs L A K
 rfl
noncomputable def Bd:List D->M OT:=zj Dw
theorem Gf:Txt K mg->IP P w K mg base "Ladder" "order" 1 1 Bd:=(zb Dw).1
theorem Gg:∀(m:Nat) (rs:List Road) (L:List Int) (A:LA) (K:List (Int×Int)),Bd [Ba m rs L A K]=.ok (.lst ((L.map D.int).map .sh)):=(zb Dw).2
theorem FR:∃ F:List D->M OT,(∀ {P:Program}{w:World}{K:za}{mg:Str->Option Value}{base:Heap},Txt K mg->BV P w K mg base "costs_out" 5 2 F)/\(∀(m:Nat) (rs:List Road) (L:List Int) (A:LA) (K:List (Int×Int)) (s:Nat),Cs m rs L A K->s < m->∃ T:List Co,F [Ba m rs L A K,.int s]=.ok (.lst ((T.map cst).map .sh))/\T.length=m/\∀ w:Int,0<=w->w < m->BQ rs s w (atC T w)):=by
 refine⟨_,fun T=>AF (k:=4) T.S4 Qk _ (fun f B1 A outer s H E hr=>(A5 (Am (Aa A9.toXCall (Sh T) (hr.mono (by decide)) rfl (A2 (Aj (K3 (k:=1) [("Ladder",Bd)] A9.toXCall (Ej (by decide) (Gf T) FF) (hr.mono (by decide)) (A1 0 (pv 0)))) (A2 (Aj (Aa A9.toXCall (Ob T) (hr.mono (by decide)) rfl (A2 (A1 0 (pv 0)) A8) rfl)) (A2 (A1 1 (pv 1)) A8))) rfl)))),?_⟩
 intro m rs L A K s ok hs
 have hm:=ok.m2
 have e0:AI ["ladder","start"] [Ba m rs L A K,.int s]=[some (.val (Ba m rs L A K)),some (.val (.int s))]:=rfl
 rw[e0]
 have h1:=Oc m rs L A K ok
 have h2:=Gg m rs L A K
 have gl:IQ [("Ladder",Bd)] "order" (Ba m rs L A K)=.ok Bd:=rfl
 have qy:(s:Int)∈L:=(B4 ok.pm).mpr ⟨by omega,by omega⟩
 have gm:∀ p c,AG (Ii A K) p=some c->p.1∈L/\p.2∈L:=fun p c h=>by
  have hm:=Q5 h
  unfold Ii at hm
  obtain⟨q,hq,e⟩:=zE.mp hm
  cases e
  have:=ok.WJ hq
  exact⟨(B4 ok.pm).mpr this.2.1,(B4 ok.pm).mpr this.2.2⟩
 have hC:∀ p c,AG (Ii A K) p=some c->p.1∈L/\p.2∈L:=fun p c h=>by
  exact gm p c h
 obtain⟨R,T,hF,hR,hT⟩:=Si m L (Ii A K) s (by omega) ok.pm qy hC
 refine⟨T,Bq ?_,hT.len,fun w h0 h1=>?_⟩
 ·simp_arith[gl,h2,h1,hF]
  exact⟨_,rfl,rfl⟩
 ·have hU:=hR.vJ (m:=m) hC
  have aF:∀ x:Int,0<=x->x < m->x∈L.reverse:=fun x a b=>List.mem_reverse.mpr ((B4 ok.pm).mpr ⟨a,b⟩)
  obtain⟨T',jy⟩:∃ T':Int->Co,T'=fun x:Int=>if 0<=x/\x < (m:Int) then atC T x else none:=⟨_,rfl⟩
  have cF:∀ x:Int,0<=x->x < m->T' x=atC T x:=fun x a b=>by rw[jy];exact if_pos ⟨a,b⟩
  have hS:qQ (DD L) (fun x y=>AG (Ii A K) (x,y)) s (AG R) T' m:=⟨fun x a b=>by rw[cF x a b];exact hT.top x (aF x a b),fun x y a b c d hr=>by rw[cF x a b,cF y c d];exact hT.cl x (aF x a b) y (aF y c d) hr,fun x c hx=>by
   have ag:0<=x/\x < m:=by
    refine zah fun hn=>?_
    rw[jy] at hx
    dsimp only at hx
    rw[if_neg hn] at hx
    cases hx
   rw[cF x ag.1 ag.2] at hx
   exact hT.sd x c ag.1 ag.2 hx⟩
  obtain⟨cs,qz,_⟩:=F9 m s rs hs (by omega) (fun r hr=>(ok.ok r hr).1)
  have ce:=qz.Y0 (fun r hr=>(ok.ok r hr).1) h0 h1
  have q:=Pb (s:=(s:Int)) (w:=w) ok.iK ok.kept ⟨by omega,by omega⟩ hU hS ce
  rw[cF w h0 h1] at q
  exact q
noncomputable def NE:List D->M OT:=zj FR
theorem Ke:Txt K mg->BV P w K mg base "costs_out" 5 2 NE:=(zb FR).1
theorem Qu:∀(m:Nat) (rs:List Road) (L:List Int) (A:LA) (K:List (Int×Int)) (s:Nat),Cs m rs L A K->s < m->∃ T:List Co,NE [Ba m rs L A K,.int s]=.ok (.lst ((T.map cst).map .sh))/\T.length=m/\∀ w:Int,0<=w->w < m->BQ rs s w (atC T w):=(zb FR).2
theorem Hb:∃ F:List D->M OT,(∀ {P:Program}{w:World}{K:za}{mg:Str->Option Value}{base:Heap},Txt K mg->BV P w K mg base "costs_in" 5 2 F)/\(∀(m:Nat) (rs:List Road) (L:List Int) (A:LA) (K:List (Int×Int)) (s:Nat),Cs m rs L A K->s < m->∃ T:List Co,F [Ba m rs L A K,.int s]=.ok (.lst ((T.map cst).map .sh))/\T.length=m/\∀ w:Int,0<=w->w < m->BQ rs w s (atC T w)):=by
 refine⟨_,fun T=>AF (k:=4) T.TX RZ _ (fun f B1 A outer s H E hr=>(A5 (Am (Aa A9.toXCall (Sh T) (hr.mono (by decide)) rfl (A2 (Aj (K3 (k:=1) [("Ladder",Bd)] A9.toXCall (Ej (by decide) (Gf T) FF) (hr.mono (by decide)) (A1 0 (pv 0)))) (A2 (Aj (Aa A9.toXCall (H9 T) (hr.mono (by decide)) rfl (A2 (A1 0 (pv 0)) A8) rfl)) (A2 (A1 1 (pv 1)) A8))) rfl)))),?_⟩
 intro m rs L A K s ok hs
 have hm:=ok.m2
 have e0:AI ["ladder","goal"] [Ba m rs L A K,.int s]=[some (.val (Ba m rs L A K)),some (.val (.int s))]:=rfl
 rw[e0]
 have h1:=Ha m rs L A K ok
 have h2:=Gg m rs L A K
 have gl:IQ [("Ladder",Bd)] "order" (Ba m rs L A K)=.ok Bd:=rfl
 have qy:(s:Int)∈L:=(B4 ok.pm).mpr ⟨by omega,by omega⟩
 have gm:∀ p c,AG (Ii A K) p=some c->p.1∈L/\p.2∈L:=fun p c h=>by
  have hm:=Q5 h
  unfold Ii at hm
  obtain⟨q,hq,e⟩:=zE.mp hm
  cases e
  have:=ok.WJ hq
  exact⟨(B4 ok.pm).mpr this.2.1,(B4 ok.pm).mpr this.2.2⟩
 have hC:∀ p c,AG (RX (Ii A K)) p=some c->p.1∈L/\p.2∈L:=fun p c h=>by
  rw[show p=(p.1,p.2) from rfl,Qf] at h
  have:=gm _ _ h
  exact⟨this.2,this.1⟩
 obtain⟨R,T,hF,hR,hT⟩:=Si m L (RX (Ii A K)) s (by omega) ok.pm qy hC
 refine⟨T,Bq ?_,hT.len,fun w h0 h1=>?_⟩
 ·simp_arith[gl,h2,h1,hF]
  exact⟨_,rfl,rfl⟩
 ·have hU:=hR.vJ (m:=m) hC
  have aF:∀ x:Int,0<=x->x < m->x∈L.reverse:=fun x a b=>List.mem_reverse.mpr ((B4 ok.pm).mpr ⟨a,b⟩)
  obtain⟨T',jy⟩:∃ T':Int->Co,T'=fun x:Int=>if 0<=x/\x < (m:Int) then atC T x else none:=⟨_,rfl⟩
  have cF:∀ x:Int,0<=x->x < m->T' x=atC T x:=fun x a b=>by rw[jy];exact if_pos ⟨a,b⟩
  have hS:qQ (DD L) (fun x y=>AG (RX (Ii A K)) (x,y)) s (AG R) T' m:=⟨fun x a b=>by rw[cF x a b];exact hT.top x (aF x a b),fun x y a b c d hr=>by rw[cF x a b,cF y c d];exact hT.cl x (aF x a b) y (aF y c d) hr,fun x c hx=>by
   have ag:0<=x/\x < m:=by
    refine zah fun hn=>?_
    rw[jy] at hx
    dsimp only at hx
    rw[if_neg hn] at hx
    cases hx
   rw[cF x ag.1 ag.2] at hx
   exact hT.sd x c ag.1 ag.2 hx⟩
  have xu:(fun x y=>AG (RX (Ii A K)) (x,y))=fun x y=>AG (Ii A K) (y,x):=by funext x y;exact Qf x y _
  rw[xu] at hU hS
  obtain⟨cs,qz,_⟩:=F9 m w.toNat rs (by omega) (by omega) (fun r hr=>(ok.ok r hr).1)
  have ce:=qz.Y0 (fun r hr=>(ok.ok r hr).1) (w:=(s:Int)) (by omega) (by omega)
  have ew:((w.toNat:Nat):Int)=w:=by omega
  rw[ew] at ce
  have q:=(Pb (s:=(s:Int)) (w:=w) ok.iK.turn ok.kept.turn ⟨by omega,by omega⟩ hU hS ce.turn).turn
  rw[HS,cF w h0 h1] at q
  exact q
noncomputable def Pd:List D->M OT:=zj Hb
theorem Ll:Txt K mg->BV P w K mg base "costs_in" 5 2 Pd:=(zb Hb).1
theorem Sj:∀(m:Nat) (rs:List Road) (L:List Int) (A:LA) (K:List (Int×Int)) (s:Nat),Cs m rs L A K->s < m->∃ T:List Co,Pd [Ba m rs L A K,.int s]=.ok (.lst ((T.map cst).map .sh))/\T.length=m/\∀ w:Int,0<=w->w < m->BQ rs w s (atC T w):=(zb Hb).2
theorem Er:∃ F:List D->M OT,(∀ {P:Program}{w:World}{K:za}{mg:Str->Option Value}{base:Heap},Txt K mg->BV P w K mg base "cost_so_far" 1 2 F)/\(∀(A:LA) (p:Int×Int),F [Lf A,pD p]=.ok (.sh (cst (Ak A p)))):=by
 refine⟨_,fun T=>AF (k:=0) T.O6 Nm _ (fun f B1 A outer s H E hr=>(A4 (B7 (LQ (c:=true) (AR hr 16 (by decide)) (A1 1 (pv 1)) (A1 0 (pv 0))) (A5 (Am (AZ D4))) AB) (A5 (Am (AZ (Ac (AR hr 16 (by decide)) (Ac (AR hr 16 (by decide)) (A1 0 (pv 0)) (A1 1 (pv 1))) A6)))))),?_⟩
 intro A p
 have e0:AI ["laid","pair"] [Lf A,pD p]=[some (.val (Lf A)),some (.val (pD p))]:=rfl
 rw[e0]
 refine Bq ?_
 have hm:=Qd A p true
 unfold Ak
 cases q:AG A p with
 |none =>
  rw[q] at hm
  simp_arith[hm,F0];rfl
 |some v =>
  rw[q] at hm
  have hi:=Qe q
  have h0:B5 (Ww v) (.int 0)=.ok (cst (some v.1)):=rfl
  apply wp_step
  ·simp_arith[hm,F0];rfl
  simp_arith[hi,h0];rfl
noncomputable def Kf:List D->M OT:=zj Er
theorem Hc:Txt K mg->BV P w K mg base "cost_so_far" 1 2 Kf:=(zb Er).1
theorem Hd:∀(A:LA) (p:Int×Int),Kf [Lf A,pD p]=.ok (.sh (cst (Ak A p))):=(zb Er).2
theorem U9:∃ F:OT->List D->M (OT×OT),(∀ {P:Program}{w:World}{K:za}{mg:Str->Option Value}{base:Heap},Txt K mg->OQ P w K mg base "lay" 1 4 F)/\(∀(A:LA) (p:Int×Int) (c:Co) (mid:Option Int),A.length < 1000->F (IZ A) [pD p,cst c,GH mid]=.ok (IZ (layA A p c mid),.sh .AA)):=by
 refine⟨_,fun T=>Rx (k:=0) T.qW mX _ (fun f B1 A outer s H E hr=>(A5 (B7 (IG (DW.dt (IC (LK (c:=true) (A1 2 (pv 2))) (Ho (DW.dt (Ea (LQ (c:=true) (AR hr 16 (by decide)) (A1 1 (pv 1)) (A1 0 (pv 0))) (CM (lX (c:=true) (AR hr 16 (by decide)) (A1 2 (pv 2)) (Ac (AR hr 16 (by decide)) (Ac (AR hr 16 (by decide)) (A1 0 (pv 0)) (A1 1 (pv 1))) A6))))))))) (A5 (LS (AR hr 16 (by decide)) (BP 0 (pv 0)) (A1 1 (pv 1)) (AL (A2 (A1 2 (pv 2)) (A2 (A1 3 (pv 3)) A8))))) AB))),?_⟩
 intro A p c mid hA
 have e0:CY ["laid","pair","cost","middle"] (IZ A) [pD p,cst c,GH mid]=[some (.ow (.tree (some 0) (IZ A))),some (.val (pD p)),some (.val (cst c)),some (.val (GH mid))]:=rfl
 rw[e0]
 refine TN ?_
 have hm:=Qd A p true
 have vz:∀ c:Int×Int,D.tup [cst (some c),GH mid]=Ww (c,mid):=fun c=>rfl
 have hl:(A.map fun kv=>pD kv.1).length < 1000:=by rw[zc];exact hA
 have ik:keyOk true (pD p)=true:=rfl
 have aj:∀ v,(List.map (fun kv=>pD kv.1) (Dv A p v))=(List.map (fun kv=>pD kv.1) (Dv A p v)):=fun _=>rfl
 cases c with
 |none =>
  refine Bj (ρ':=_) (by simp_arith[cst,Cz];rfl) ⟨rfl,rfl⟩
 |some c =>
  have cD:Cz (cst (some c))=false:=rfl
  cases q:AG A p with
  |none =>
   rw[q] at hm
   have el:layA A p (some c) mid=Dv A p (c,mid):=by unfold layA;dsimp only;rw[q]
   rw[el]
   refine Bj (ρ':=[some (.ow (.tree (some 0) (IZ (Dv A p (c,mid))))),some (.val (pD p)),some (.val (cst (some c))),some (.val (GH mid))]) (by
    simp_arith[cD,hm,F0,DY,vz,if_pos (And.intro ik hl),Z0,ik,hl,and_self,if_true]
    rfl) ⟨rfl,rfl⟩
  |some z =>
   rw[q] at hm
   have hi:=Qe q
   have h0:B5 (Ww z) (.int 0)=.ok (cst (some z.1)):=rfl
   have hx:=tW c z.1
   by_cases hc:c.1 < z.1.1\/(c.1=z.1.1/\c.2 < z.1.2)
   ·have el:layA A p (some c) mid=Dv A p (c,mid):=by unfold layA;dsimp only;rw[q];dsimp only;rw[if_pos hc]
    rw[decide_eq_true hc] at hx
    rw[el]
    refine Bj (ρ':=[some (.ow (.tree (some 0) (IZ (Dv A p (c,mid))))),some (.val (pD p)),some (.val (cst (some c))),some (.val (GH mid))]) (by
     simp_arith[cD,hm,hi,h0,hx,F0,DY,vz,if_pos (And.intro ik hl),Z0,ik,hl,and_self,if_true]
     rfl) ⟨rfl,rfl⟩
   ·have el:layA A p (some c) mid=A:=by unfold layA;dsimp only;rw[q];dsimp only;rw[if_neg hc]
    rw[decide_eq_false hc] at hx
    rw[el]
    refine Bj (ρ':=_) (by simp_arith[cD,hm,hi,h0,hx,F0];rfl) ⟨rfl,rfl⟩
noncomputable def qX:OT->List D->M (OT×OT):=zj U9
theorem Zi:Txt K mg->OQ P w K mg base "lay" 1 4 qX:=(zb U9).1
theorem Zj:∀(A:LA) (p:Int×Int) (c:Co) (mid:Option Int),A.length < 1000->qX (IZ A) [pD p,cst c,GH mid]=.ok (IZ (layA A p c mid),.sh .AA):=(zb U9).2
theorem He:∃ F:OT->List D->M (OT×OT),(∀ {P:Program}{w:World}{K:za}{mg:Str->Option Value}{base:Heap},Txt K mg->OQ P w K mg base "lay_over" 2 3 F)/\(∀(m:Nat) (A:LA) (p:Int) (H:List Int),m<=20->Fp m A->(∀ x∈H,0<=x/\x < m)->F (IZ A) [.int p,.lst (H.map D.int)]=.ok (IZ (mD A p H),.sh .AA)):=by
 refine⟨_,fun T=>Rx (k:=1) T.TY EK _ (fun f B1 A outer s H E hr=>(A5 (BE A9.toXCall.own rfl (AO (A1 2 (pv 2))) (AY 3 EK.nd rfl (yJ rfl)) (A5 (BE A9.toXCall.own rfl (AO (A1 2 (pv 2))) (AY 4 EK.nd rfl (yJ rfl)) (A5 (B7 (G7 (c:=true) (AR hr 16 (by decide)) (A1 3 (pv 3)) (A1 4 (pv 4))) (A4 (B3 5 EK.nd rfl (yJ rfl) (Aj (Ef (Aa A9.toXCall (Kc T) (hr.mono (by decide)) rfl (A2 (Aj (Aa A9.toXCall (Hc T) (hr.mono (by decide)) rfl (A2 (A1 0 (pv 0)) (A2 (AL (A2 (A1 3 (pv 3)) (A2 (A1 1 (pv 1)) A8))) A8)) rfl)) (A2 (Aj (Aa A9.toXCall (Hc T) (hr.mono (by decide)) rfl (A2 (A1 0 (pv 0)) (A2 (AL (A2 (A1 1 (pv 1)) (A2 (A1 4 (pv 4)) A8))) A8)) rfl)) A8)) rfl)))) (A5 (N1 (Yl A9.toXCall (Zi T) (hr.mono (by decide)) rfl (BP 0 (pv 0)) (A2 (AL (A2 (A1 3 (pv 3)) (A2 (A1 4 (pv 4)) A8))) (A2 (A1 5 (pv 5)) (A2 (A1 1 (pv 1)) A8))) rfl)))) AB))))))),?_⟩
 intro m A p H hm hA hH
 have e0:CY ["laid","place","higher","u","w","cost"] (IZ A) [.int p,.lst (H.map D.int)]=[some (.ow (.tree (some 0) (IZ A))),some (.val (.int p)),some (.val (.lst (H.map D.int))),none,none,none]:=rfl
 rw[e0]
 refine TN ?_
 simp_arith[]
 refine BF (fun i ρ=>∃ s3 s4 s5:Option Cl,ρ=[some (.ow (.tree (some 0) (IZ ((H.take i).foldl (fW p H) A)))),some (.val (.int p)),some (.val (.lst (H.map D.int))),s3,s4,s5]) ⟨none,none,none,rfl⟩ ?_ ?_
 ·rintro i d ρ hd ⟨s3,s4,s5,rfl⟩
  obtain⟨u,hu,rfl⟩:=BR hd
  have qo:=hH u (zk hu)
  refine⟨_,rfl,?_⟩
  obtain⟨B,hB⟩:∃ B,B=(H.take i).foldl (fW p H) A:=⟨_,rfl⟩
  have gn:Fp m B:=by rw[hB];exact Fp.lo hH hA fun x hx=>hH x (yR hx)
  rw[<-hB,Ek hu,<-hB]
  simp_arith[]
  refine BF (fun j ρ=>∃ s4 s5:Option Cl,ρ=[some (.ow (.tree (some 0) (IZ ((H.take j).foldl (Q6 p u) B)))),some (.val (.int p)),some (.val (.lst (H.map D.int))),some (.val (.int u)),s4,s5]) ⟨s4,s5,rfl⟩ ?_ ?_
  ·rintro j d ρ hd ⟨s4,s5,rfl⟩
   obtain⟨w,hw,rfl⟩:=BR hd
   have yF:=hH w (zk hw)
   refine⟨_,rfl,?_⟩
   obtain⟨C,hC⟩:∃ C,C=(H.take j).foldl (Q6 p u) B:=⟨_,rfl⟩
   have rb:Fp m C:=by rw[hC];exact Fp.ou qo gn fun x hx=>hH x (yR hx)
   rw[Ek hw,<-hC]
   by_cases e:u=w
   ·have ev:Q6 p u C w=C:=by unfold Q6;rw[if_pos e]
    rw[ev]
    refine Bj (ρ':=_) (by simp_arith[decide_eq_true e];rfl) ⟨_,_,rfl⟩
   ·have ev:Q6 p u C w=layA C (u,w) (Aq (Ak C (u,p)) (Ak C (p,w))) (some p):=by unfold Q6;rw[if_neg e]
    rw[ev]
    have h1:=Hd C (u,p)
    have h2:=Hd C (p,w)
    have h3:=Kd (Ak C (u,p)) (Ak C (p,w))
    have h4:=Zj C (u,w) (Aq (Ak C (u,p)) (Ak C (p,w))) (some p) (rb.len hm)
    have t1:∀ a b:Int,D.tup [.int a,.int b]=pD (a,b):=fun a b=>rfl
    have t2:GH (some p)=.int p:=rfl
    rw[t2] at h4
    have h5:=KQ (ρ:=[some (.ow (.tree (some 0) (IZ C))),some (.val (.int p)),some (.val (.lst (H.map D.int))),some (.val (.int u)),some (.val (.int w)),some (.val (cst (Aq (Ak C (u,p)) (Ak C (p,w)))))]) (i:=0) rfl rfl h4
    simp_arith[decide_eq_false e,if_true]
    apply wp_step
    ·simp_arith[t1,h1,h2,h3];rfl
    refine Bj (ρ':=_) (by simp_arith[t1,h5];rfl) ⟨_,_,rfl⟩
  ·rintro ρ ⟨s4,s5,rfl⟩
   rw[zc,yX]
   exact⟨_,s4,s5,rfl⟩
 ·rintro ρ ⟨s3,s4,s5,rfl⟩
  rw[zc,yX]
  exact⟨rfl,trivial⟩
noncomputable def Pe:OT->List D->M (OT×OT):=zj He
theorem Sk:Txt K mg->OQ P w K mg base "lay_over" 2 3 Pe:=(zb He).1
theorem Sl:∀(m:Nat) (A:LA) (p:Int) (H:List Int),m<=20->Fp m A->(∀ x∈H,0<=x/\x < m)->Pe (IZ A) [.int p,.lst (H.map D.int)]=.ok (IZ (mD A p H),.sh .AA):=(zb He).2
theorem FT:∃ F:List D->M OT,(∀ {P:Program}{w:World}{K:za}{mg:Str->Option Value}{base:Heap},Txt K mg->BV P w K mg base "laid_arcs" 3 2 F)/\(∀(m:Nat) (rs:List Road) (L:List Int),m<=20->L.Perm (AU m)->(∀ r∈rs,Hu m r/\r.a≠r.b)->F [As m rs,.lst (L.map D.int)]=.ok (IZ (BS rs L))):=by
 refine⟨_,fun T=>AF (k:=2) T.S5 CO _ (fun f B1 A outer s H E hr=>(A4 (BB 2 CO.nd rfl (yJ rfl) (Rz true)) (A4 (BE A9.toXCall.own rfl (AO (Ac (AR hr 16 (by decide)) (A1 0 (pv 0)) A6)) (AY 3 CO.nd rfl (yJ rfl)) (A5 (N1 (Yl A9.toXCall (Zi T) (hr.mono (by decide)) rfl (BP 2 (pv 2)) (A2 (AL (A2 (Ac (AR hr 16 (by decide)) (A1 3 (pv 3)) A6) (A2 (Ac (AR hr 16 (by decide)) (A1 3 (pv 3)) A6) A8))) (A2 (Aj (Aa A9.toXCall (FO T) (hr.mono (by decide)) rfl (A2 (A1 3 (pv 3)) A8) rfl)) (A2 D4 A8))) rfl)))) (A4 (BE A9.toXCall.own rfl (Uw rfl T.Lh (A1 1 (pv 1))) (XH (n:=2) rfl (Jc (AY 4 CO.nd rfl (yJ rfl)) (Jc (AY 5 CO.nd rfl (yJ rfl)) Uv))) (A5 (N1 (Yl A9.toXCall (Sk T) (hr.mono (by decide)) rfl (BP 2 (pv 2)) (A2 (A1 5 (pv 5)) (A2 (Aj (N3 (A1 1 (pv 1)) (LL (BW (A1 4 (pv 4)) A6)) Uu)) A8)) rfl)))) (A5 (CN 2 (pv 2))))))),?_⟩
 intro m rs L hm hL Av
 have e0:AI ["net","order","laid","road","rank","place"] [As m rs,.lst (L.map D.int)]=[some (.val (As m rs)),some (.val (.lst (L.map D.int))),none,none,none,none]:=rfl
 rw[e0]
 refine Bq ?_
 have n1:B5 (As m rs) (.int 1)=.ok (.lst (rs.map BI)):=rfl
 apply wp_step
 ·rfl
 try simp only[zv,zo]
 have gp:∀ i,i<=rs.length->Fp m ((rs.take i).foldl (fun A r=>layA A (r.a,r.b) (C5 r) none) []):=fun i hi=>by
  have:=(Q7 (m:=m) (rs:=rs.take i) fun r hr=>Av r (yR hr)).1
  exact this
 refine C6 (I:=fun ρ=>∃ s3 s4 s5:Option Cl,ρ=[some (.val (As m rs)),some (.val (.lst (L.map D.int))),some (.ow (.tree none (IZ (lay0 rs)))),s3,s4,s5]) ?_ ?_
 ·simp_arith[n1]
  refine BF (fun i ρ=>i<=rs.length/\∃ s3 s4 s5:Option Cl,ρ=[some (.val (As m rs)),some (.val (.lst (L.map D.int))),some (.ow (.tree none (IZ ((rs.take i).foldl (fun A r=>layA A (r.a,r.b) (C5 r) none) [])))),s3,s4,s5]) ⟨zW _,none,none,none,rfl⟩ ?_ ?_
  ·rintro i d ρ hd ⟨hi,s3,s4,s5,rfl⟩
   obtain⟨r,hr,rfl⟩:=BR hd
   have aj:=(zA.mp hr).1
   refine⟨_,rfl,?_⟩
   rw[Ek hr]
   obtain⟨B,hB⟩:∃ B,B=(rs.take i).foldl (fun A r=>layA A (r.a,r.b) (C5 r) none) []:=⟨_,rfl⟩
   have gn:Fp m B:=by rw[hB];exact gp i hi
   rw[<-hB]
   have i0:B5 (BI r) (.int 0)=.ok (.int r.a):=rfl
   have i1:B5 (BI r) (.int 1)=.ok (.int r.b):=rfl
   have h1:=FQ r
   have h2:=Zj B (r.a,r.b) (C5 r) none (gn.len hm)
   have t1:∀ a b:Int,D.tup [.int a,.int b]=pD (a,b):=fun a b=>rfl
   have t2:GH none=.AA:=rfl
   rw[t2] at h2
   have h5:=KQ (ρ:=[some (.val (As m rs)),some (.val (.lst (L.map D.int))),some (.ow (.tree none (IZ B))),some (.val (BI r)),s4,s5]) (i:=2) rfl rfl h2
   refine Bj (ρ':=_) (by simp_arith[i0,i1,h1,t1,h5];rfl) ⟨aj,_,_,_,rfl⟩
  ·rintro ρ ⟨_,s3,s4,s5,rfl⟩
   rw[zc,yX]
   exact⟨s3,s4,s5,rfl⟩
 ·rintro ρ ⟨s3,s4,s5,rfl⟩
  have qu:=Q7 Av
  refine C6 (I:=fun ρ=>∃ s3 s4 s5:Option Cl,ρ=[some (.val (As m rs)),some (.val (.lst (L.map D.int))),some (.ow (.tree none (IZ (BS rs L)))),s3,s4,s5]) ?_ ?_
  ·simp_arith[]
   refine BF (fun i ρ=>i<=L.length/\∃(G:LA) (s3 s4 s5:Option Cl),ρ=[some (.val (As m rs)),some (.val (.lst (L.map D.int))),some (.ow (.tree none (IZ G))),s3,s4,s5]/\Fp m G/\TJ G (L.drop i)=TJ (lay0 rs) L) ⟨zW _,lay0 rs,s3,s4,s5,rfl,qu.1,rfl⟩ ?_ ?_
   ·rintro i d ρ hd ⟨hi,G,s3,s4,s5,rfl,hG,jz⟩
    obtain⟨d',aR,rfl⟩:=Kw hd
    obtain⟨p,hp,rfl⟩:=BR aR
    have aj:=(zA.mp hp).1
    rw[Nat.zero_add]
    refine⟨_,rfl,?_⟩
    have bK:∀ x∈L.drop (i + 1),0<=x/\x < m:=fun x hx=>(B4 hL).mp (List.mem_of_mem_drop hx)
    have ed:L.drop i=p::L.drop (i + 1):=by
     rw[zbc aj]
     rw[zt aj] at hp
     rw[zJ hp]
    rw[ed,TJ] at jz
    have h2:=Sl m G p (L.drop (i + 1)) hm hG bK
    have sl:eK (some ((i:Int) + 1)) none (.lst (L.map D.int))=.ok (.lst (((L.drop (i + 1)).map D.int).map .sh)):=by rw[List.map_drop];exact RH _ (i + 1)
    have h5:=KQ (ρ:=[some (.val (As m rs)),some (.val (.lst (L.map D.int))),some (.ow (.tree none (IZ G))),s3,some (.val (.int i)),some (.val (.int p))]) (i:=2) rfl rfl h2
    refine Bj (ρ':=_) (by simp_arith[sl,h5];rfl) ⟨aj,_,_,_,_,rfl,Fp.lo bK hG bK,jz⟩
   ·rintro ρ ⟨_,G,s3,s4,s5,rfl,hG,jz⟩
    rw[Hr,zc,List.drop_length,TJ] at jz
    exact⟨s3,s4,s5,by rw[jz];rfl⟩
  ·rintro ρ ⟨s3,s4,s5,rfl⟩
   exact⟨_,rfl,rfl⟩
noncomputable def NF:List D->M OT:=zj FT
theorem Qv:Txt K mg->BV P w K mg base "laid_arcs" 3 2 NF:=(zb FT).1
theorem Qw:∀(m:Nat) (rs:List Road) (L:List Int),m<=20->L.Perm (AU m)->(∀ r∈rs,Hu m r/\r.a≠r.b)->NF [As m rs,.lst (L.map D.int)]=.ok (IZ (BS rs L)):=(zb FT).2
theorem Hf:∃ F:List D->M OT,(∀ {P:Program}{w:World}{K:za}{mg:Str->Option Value}{base:Heap},Txt K mg->BV P w K mg base "is_order" 2 2 F)/\(∀(m:Nat) (x d:D),m<=60->qN d->F [.tup [.int m,x],d]=.ok (.sh (.bl (EH m d)))):=by
 refine⟨_,fun T=>AF (k:=1) T.TZ S0 _ (fun f B1 A outer s H E hr=>(A4 (B7 (DW.dt (Ea (Ck (BX (c:=true) (EY (Ku _) rfl T.B2 rfl T.F5 (by decide +kernel) (A1 1 (pv 1))))) (CM (G7 (c:=true) (AR hr 16 (by decide)) (Du rfl T.Gd (A1 1 (pv 1))) (Ac (AR hr 16 (by decide)) (A1 0 (pv 0)) A6))))) (A5 (Am (AZ CF))) AB) (A4 (B7 (Ck (BX (c:=true) (Ti rfl rfl T.Za (Aj (Cd (NB:=["place","net"]) [none,some 0] rfl (AO (A1 1 (pv 1))) rfl rfl (Bp 0 (by decide) rfl rfl rfl) (fun _ _ _ _=>Df) (fun _ _ _ _=>(Aj (BO (Aa (Bg rfl).toXCall (AW T) (hr.mono (by decide)) rfl (A2 (A1 0 (pv 0)) (A2 (Ac (AR hr 16 (by decide)) (A1 1 (pv 1)) A6) A8)) rfl))))))))) (A5 (Am (AZ CF))) AB) (A5 (Am (AZ (gZ (AR hr 16 (by decide)) (Aj (Wm rfl rfl T.Zf (A1 1 (pv 1)))) (Aj (Jw rfl rfl T.F5 rfl T.CS (Ac (AR hr 16 (by decide)) (A1 0 (pv 0)) A6)))))))))),?_⟩
 intro m x d hm ⟨hx,Av⟩
 have e0:AI ["net","thing"] [.tup [.int m,x],d]=[some (.val (.tup [.int m,x])),some (.val d)]:=rfl
 rw[e0]
 have n0:B5 (.tup [.int m,x]) (.int 0)=.ok (.int m):=rfl
 refine Bq ?_
 cases d with
 |lst xs =>
  obtain⟨hl,cb⟩:=Av xs rfl
  by_cases h1:xs.length=m
  ·have dz:(xs.length:Int)=(m:Int):=by omega
   apply wp_step
   ·simp_arith[n0,decide_eq_true dz];rfl
   have aq:∀ {gt:D->Ab->M Ab} {ft:Ab->M Bool} {fe:Ab->M D} {ρ:Ab},(∀ d∈xs,∃ ρ1,gt d ρ=.ok ρ1/\ft ρ1=.ok true/\fe ρ1=.ok (.bl (Kk d m)))->B9 gt ft fe xs ρ=.ok ((xs.map fun e=>Kk e m).map D.bl):=fun h=>by
    rw[OH (fun d=>.bl (Kk d m)) xs h,yM];rfl
   cases h2:(xs.map fun e=>Kk e m).all id with
   |false =>
    have hf:EH m (.lst xs)=false:=by
     cases q:EH m (.lst xs) with
     |false=>rfl
     |true=>have:=(RL q).2;rw[h2] at this;cases this
    rw[hf]
    simp_arith[if_pos hl]
    rw[aq]
    ·simp_arith[h2]
     rfl
    ·intro d hd
     have:=AM d m (cb d hd)
     exact⟨_,rfl,rfl,by simp_arith[n0,this]⟩
   |true =>
    obtain⟨L,rfl⟩:=V8 h2
    rw[zc] at h1
    have hs:=Wl (ns:=L) (by omega)
    have h3:=PX (n:=m) (by omega)
    rw[N5] at h3
    apply wp_step
    ·simp_arith[if_pos hl]
     rw[aq]
     ·simp_arith[h2]
      rfl
     ·intro d hd
      have:=AM d m (cb d hd)
      exact⟨_,rfl,rfl,by simp_arith[n0,this]⟩
    simp_arith[n0,hs,h3,Yu]
    rw[N9]
    rfl
  ·have dz:¬ (xs.length:Int)=(m:Int):=by omega
   rw[fF h1]
   simp_arith[n0,decide_eq_false dz]
   rfl
 |DM x=>cases hx
 |ins x n d=>cases hx
 |_=>rfl
noncomputable def Pf:List D->M OT:=zj Hf
theorem Sn:Txt K mg->BV P w K mg base "is_order" 2 2 Pf:=(zb Hf).1
theorem Lm:∀(m:Nat) (x d:D),m<=60->qN d->Pf [.tup [.int m,x],d]=.ok (.sh (.bl (EH m d))):=(zb Hf).2
theorem Dd:∃ F:List D->M OT,(∀ {P:Program}{w:World}{K:za}{mg:Str->Option Value}{base:Heap},Txt K mg->BV P w K mg base "checked_order" 3 2 F)/\((∀(m:Nat) (x:D) (L:List Int),m<=60->L.Perm (AU m)->F [.tup [.int m,x],.lst (L.map .int)]=.ok (.lst ((L.map D.int).map .sh)))/\(∀(m:Nat) (x d:D),m<=60->qN d->EH m d=false->F [.tup [.int m,x],d]=.ex "NoOrder")):=by
 refine⟨_,fun T=>AF (k:=2) T.LC KU _ (fun f B1 A outer s H E hr=>(A4 (B7 (Ck (BX (c:=true) (Aj (Aa A9.toXCall (Sn T) (hr.mono (by decide)) rfl (A2 (A1 0 (pv 0)) (A2 (A1 1 (pv 1)) A8)) rfl)))) (A5 (Ky (c:=true) T.WE A9 rfl rfl Ta)) AB) (A5 (Am (Jo rfl T.F5 (A1 1 (pv 1))))))),?_⟩
 refine⟨fun m x L hm hL=>?_,fun m x d hm hd ho=>?_⟩
 ·have e0:AI ["net","thing"] [.tup [.int m,x],.lst (L.map .int)]=[some (.val (.tup [.int m,x])),some (.val (.lst (L.map .int)))]:=rfl
  rw[e0]
  have hd:qN (.lst (L.map D.int)):=⟨rfl,fun xs e=>by
   cases e
   exact⟨by rw[zc,GQ hL];omega,fun e he=>by obtain⟨j,_,rfl⟩:=zE.mp he;rfl⟩⟩
  have h1:=Lm m x _ hm hd
  rw[Tz hL] at h1
  refine Bq ?_
  apply wp_step
  ·simp_arith[h1];rfl
  simp_arith[]
  exact⟨_,rfl,rfl⟩
 ·have e0:AI ["net","thing"] [.tup [.int m,x],d]=[some (.val (.tup [.int m,x])),some (.val d)]:=rfl
  rw[e0]
  have h1:=Lm m x _ hm hd
  rw[ho] at h1
  simp_arith[h1]
  rfl
noncomputable def CU:List D->M OT:=zj Dd
theorem L0:Txt K mg->BV P w K mg base "checked_order" 3 2 CU:=(zb Dd).1
theorem L1:(∀(m:Nat) (x:D) (L:List Int),m<=60->L.Perm (AU m)->CU [.tup [.int m,x],.lst (L.map .int)]=.ok (.lst ((L.map D.int).map .sh)))/\(∀(m:Nat) (x d:D),m<=60->qN d->EH m d=false->CU [.tup [.int m,x],d]=.ex "NoOrder"):=(zb Dd).2
theorem Fb:∃ F:List D->M OT,(∀ {P:Program}{w:World}{K:za}{mg:Str->Option Value}{base:Heap},Txt K mg->BV P w K mg base "first_bows" 2 1 F)/\(∀(m:Nat) (rs:List Road),m<=20->(∀ r∈rs,Hu m r/\r.a≠r.b)->F [As m rs]=.ok (.Bi true ((BA rs).map pD) ((CZ (BA rs)).map .sh))):=by
 refine⟨_,fun T=>AF (k:=1) T.Qr F4 _ (fun f B1 A outer s H E hr=>(A4 (BB 1 F4.nd rfl (yJ rfl) (Rz true)) (A4 (BE A9.toXCall.own rfl (AO (Ac (AR hr 16 (by decide)) (A1 0 (pv 0)) A6)) (AY 2 F4.nd rfl (yJ rfl)) (A5 (B7 (LK (c:=true) (Aj (Aa A9.toXCall (FO T) (hr.mono (by decide)) rfl (A2 (A1 2 (pv 2)) A8) rfl))) (A5 (LS (AR hr 16 (by decide)) (BP 1 (pv 1)) (AL (A2 (Ac (AR hr 16 (by decide)) (A1 2 (pv 2)) A6) (A2 (Ac (AR hr 16 (by decide)) (A1 2 (pv 2)) A6) A8))) CF)) AB))) (A5 (CN 1 (pv 1)))))),?_⟩
 intro m rs hm Av
 have e0:AI ["net","bows","road"] [As m rs]=[some (.val (As m rs)),none,none]:=rfl
 rw[e0]
 refine Bq ?_
 apply wp_step
 ·rfl
 have n1:B5 (As m rs) (.int 1)=.ok (.lst (rs.map BI)):=rfl
 refine C6 (I:=fun ρ=>∃ s2,ρ=[some (.val (As m rs)),some (.ow (.tree none (.Bi true ((BA rs).map pD) ((CZ (BA rs)).map .sh)))),s2]) ?_ ?_
 ·simp_arith[n1]
  refine BF (fun i ρ=>∃ s2,ρ=[some (.val (As m rs)),some (.ow (.tree none (.Bi true ((BA (rs.take i)).map pD) ((CZ (BA (rs.take i))).map .sh)))),s2]) ⟨none,rfl⟩ ?_ ?_
  ·rintro i d ρ hd ⟨s2,rfl⟩
   rw[zH] at hd
   cases hq:rs[i]? with
   |none=>rw[hq] at hd;cases hd
   |some r =>
    rw[hq] at hd
    cases hd
    have hr:=zk hq
    have et:rs.take (i + 1)=rs.take i++[r]:=by rw[yZ,hq];rfl
    have eb:BA (rs.take (i + 1))=(match r.l with|none=>BA (rs.take i)|some _=>KI (BA (rs.take i)) (r.a,r.b)):=by
     unfold BA;rw[et,List.foldl_append];rfl
    have xv:=RJ (m:=m) (rs:=rs.take i) fun r' h'=>Av r' (yR h')
    have hlen:=xv.len hm
    have h1:=FQ r
    refine⟨_,rfl,?_⟩
    cases hl:r.l with
    |none =>
     have e1:C5 r=none:=by unfold C5;rw[hl]
     rw[hl] at eb
     rw[e1] at h1
     simp_arith[h1,cst,Cz]
     exact⟨_,by rw[eb]⟩
    |some l =>
     have e1:C5 r=some (l,1):=by unfold C5;rw[hl]
     rw[hl] at eb
     rw[e1] at h1
     have i0:B5 (BI r) (.int 0)=.ok (.int r.a):=rfl
     have i1:B5 (BI r) (.int 1)=.ok (.int r.b):=rfl
     have kk:keyOk true (D.tup [.int r.a,.int r.b])=true/\((BA (rs.take i)).map pD).length < 1000:=⟨rfl,by rw[zc];exact hlen⟩
     have pp:putD ((BA (rs.take i)).map pD) (CZ (BA (rs.take i))) (D.tup [.int r.a,.int r.b]) (.bl true)=_:=V7 (BA (rs.take i)) (r.a,r.b)
     simp_arith[h1,cst,Cz,Bool.not_false,if_true,i0,i1,if_pos kk,pp]
     exact⟨_,by rw[eb]⟩
  ·rintro ρ ⟨s2,rfl⟩
   rw[zc,yX]
   exact⟨s2,rfl⟩
 ·rintro ρ ⟨s2,rfl⟩
  exact⟨_,rfl,rfl⟩
noncomputable def Ln:List D->M OT:=zj Fb
theorem Oe:Txt K mg->BV P w K mg base "first_bows" 2 1 Ln:=(zb Fb).1
theorem Of:∀(m:Nat) (rs:List Road),m<=20->(∀ r∈rs,Hu m r/\r.a≠r.b)->Ln [As m rs]=.ok (.Bi true ((BA rs).map pD) ((CZ (BA rs)).map .sh)):=(zb Fb).2
theorem Dx:∃ F:List D->M OT,(∀ {P:Program}{w:World}{K:za}{mg:Str->Option Value}{base:Heap},Txt K mg->BV P w K mg base "missing_bows" 1 3 F)/\(∀(B:List (Int×Int)) (vs:List D) (L:List Int) (v:Int),L.length<=30->F [.Bi true (B.map pD) vs,.lst (L.map .int),.int v]=.ok (.lst (((B0 B L v).map pD).map .sh))):=by
 refine⟨_,fun T=>AF (k:=0) T.Nu BU _ (fun f B1 A outer s H E hr=>(A4 (Ux (NB:=["u","bows","place"]) 3 [none,some 0,some 2] BU.nd rfl (yJ rfl) rfl (AO (A1 1 (pv 1))) rfl rfl (Bp 0 (by decide) rfl rfl rfl) (fun _ _ _ _=>Ht (N0 (c:=true) (AR hr 16 (by decide)) (AL (A2 (A1 0 (pv 0)) (A2 (A1 2 (pv 2)) A8))) (A1 1 (pv 1)))) (fun _ _ _ _=>(A1 0 (pv 0)))) (A4 (Ux (NB:=["w","bows","place"]) 4 [none,some 0,some 2] BU.nd rfl (yJ rfl) rfl (AO (A1 1 (pv 1))) rfl rfl (Bp 0 (by decide) rfl rfl rfl) (fun _ _ _ _=>Ht (N0 (c:=true) (AR hr 16 (by decide)) (AL (A2 (A1 2 (pv 2)) (A2 (A1 0 (pv 0)) A8))) (A1 1 (pv 1)))) (fun _ _ _ _=>(A1 0 (pv 0)))) (A4 (BB 5 BU.nd rfl (yJ rfl) (KD FC)) (A4 (BE A9.toXCall.own rfl (AO (A1 3 (pv 3))) (AY 6 BU.nd rfl (Or.inr rfl)) (A5 (Yi (BP 5 (pv 5)) (by exact (Cd (NB:=["w","u","bows"]) [none,some 6,some 0] rfl (AO (A1 4 (pv 4))) rfl rfl (Bp 0 (by decide) rfl rfl rfl) (fun _ _ _ _=>Ht (DW.dt (IC (G7 (c:=true) (AR hr 16 (by decide)) (A1 1 (pv 1)) (A1 0 (pv 0))) (Ho (LQ (c:=true) (AR hr 16 (by decide)) (AL (A2 (A1 1 (pv 1)) (A2 (A1 0 (pv 0)) A8))) (A1 2 (pv 2))))))) (fun _ _ _ _=>(AL (A2 (A1 1 (pv 1)) (A2 (A1 0 (pv 0)) A8))))))))) (A5 (CN 5 (pv 5)))))))),?_⟩
 intro B vs L v hl
 have e0:AI ["bows","left","place","ahead","behind","missing","u"] [.Bi true (B.map pD) vs,.lst (L.map .int),.int v]=[some (.val (.Bi true (B.map pD) vs)),some (.val (.lst (L.map .int))),some (.val (.int v)),none,none,none,none]:=rfl
 rw[e0]
 refine Bq ?_
 have hL:(L.map D.int).length<=1000:=by rw[zc];omega
 apply wp_step
 ·simp_arith[if_pos hL]
  rw[D9 (fun u=>decide ((u,v)∈B)) D.int (fun u hu=>⟨_,rfl,by simp[rM,rN,M9,zv,zo,M.A7,Hx,Hw,Jn,JH,JI,JJ,LX,IL,KH,RE,Jy,Jz,HB,UT,LU,LV,JA,eQ,HC,HD,FD,PY,D8,PZ,JB,JC,HE,UX,Jx,Ff,toCl_list,toCl_listP,toCl_dct,LY,JK,JL,JM,JN,LZ,JO,JP,JQ,nJ,qB,JD,UY,JE,UZ,JF,JG,LW,V0,rO,rQ,eT,eU,eV,eW,eX,eY,toCl_nil,Je,Ju,OC,Q0,HF,M2,M3,JR,JS,M4,M5,M6,M7,M8,JT,JU,JV,JW,HG,HH,HI,HJ,HK,JX,HL,HM,V1,V2,V3,V4,V5,HN,ite_tt,ite_ff,Bool.not_true,Bool.not_false,zav,zT,Fj,K0,K1,eS,fG,eR,fJ,fK,fL,Ma,Qa,Qb,Qc,DY,HW,Me,PL,gC,Vi,Qh,Q1],fun _=>by simp_arith[]⟩)]
  simp_arith[]
  rfl
 apply wp_step
 ·simp_arith[if_pos hL]
  rw[D9 (fun w=>decide ((v,w)∈B)) D.int (fun u hu=>⟨_,rfl,by simp[rM,rN,M9,zv,zo,M.A7,Hx,Hw,Jn,JH,JI,JJ,LX,IL,KH,RE,Jy,Jz,HB,UT,LU,LV,JA,eQ,HC,HD,FD,PY,D8,PZ,JB,JC,HE,UX,Jx,Ff,toCl_list,toCl_listP,toCl_dct,LY,JK,JL,JM,JN,LZ,JO,JP,JQ,nJ,qB,JD,UY,JE,UZ,JF,JG,LW,V0,rO,rQ,eT,eU,eV,eW,eX,eY,toCl_nil,Je,Ju,OC,Q0,HF,M2,M3,JR,JS,M4,M5,M6,M7,M8,JT,JU,JV,JW,HG,HH,HI,HJ,HK,JX,HL,HM,V1,V2,V3,V4,V5,HN,ite_tt,ite_ff,Bool.not_true,Bool.not_false,zav,zT,Fj,K0,K1,eS,fG,eR,fJ,fK,fL,Ma,Qa,Qb,Qc,DY,HW,Me,PL,gC,Vi,Qh,Q1],fun _=>by simp_arith[]⟩)]
  simp_arith[]
  rfl
 apply wp_step
 ·rfl
 try simp only[zv,zo]
 have v3:((L.filter fun w=>decide ((v,w)∈B)).map D.int).length<=1000:=by rw[zc];exact yU (List.length_filter_le _ _) (by omega)
 have hlen:=Wg B L v
 have yG:L.length * L.length<=30 * 30:=Nat.mul_le_mul hl hl
 generalize hA:L.filter (fun u=>decide ((u,v)∈B))=A
 generalize hW:L.filter (fun w=>decide ((v,w)∈B))=W at v3 ⊢
 obtain⟨G,hG⟩:∃ G:Int->List (Int×Int),G=fun u=>((W.filter fun w=>decide (u≠w) && !decide ((u,w)∈B)).map fun w=>(u,w)):=⟨_,rfl⟩
 have d9:B0 B L v=A.flatMap G:=by unfold B0;rw[hA,hW,hG]
 refine C6 (I:=fun ρ=>∃ s6,ρ=[some (.val (.Bi true (B.map pD) vs)),some (.val (.lst (L.map .int))),some (.val (.int v)),some (.val (.lst (A.map .int))),some (.val (.lst (W.map .int))),some (.own ((A.flatMap G).map pD)),s6]) ?_ ?_
 ·simp_arith[]
  refine BF (fun i ρ=>∃ s6,ρ=[some (.val (.Bi true (B.map pD) vs)),some (.val (.lst (L.map .int))),some (.val (.int v)),some (.val (.lst (A.map .int))),some (.val (.lst (W.map .int))),some (.own (((A.take i).flatMap G).map pD)),s6]) ⟨none,rfl⟩ ?_ ?_
  ·rintro i d ρ hd ⟨s6,rfl⟩
   obtain⟨u,hu,rfl⟩:=BR hd
   have et:A.take (i + 1)=A.take i++[u]:=by rw[yZ,hu];rfl
   refine⟨_,rfl,?_⟩
   have hb:(((A.take i).flatMap G).map pD).length + ((G u).map pD).length<=1000:=by
    have h1:((A.take (i + 1)).flatMap G).length<=(A.flatMap G).length:=by
     conv=>rhs;rw[<-za8 (i + 1) A,List.flatMap_append,zL]
     omega
    rw[et,List.flatMap_append,zL] at h1
    rw[d9] at hlen
    simp only[List.flatMap_cons,List.flatMap_nil,yW] at h1
    rw[zc,zc]
    omega
   have lc:(((W.filter fun w=>decide (u≠w) && !decide ((u,w)∈B)).map fun w=>(u,w)).map pD)=(W.filter fun w=>decide (u≠w) && !decide ((u,w)∈B)).map fun w=>D.tup [.int u,.int w]:=by rw[yM];rfl
   refine Bj (ρ':=[some (.val (.Bi true (B.map pD) vs)),some (.val (.lst (L.map .int))),some (.val (.int v)),some (.val (.lst (A.map .int))),some (.val (.lst (W.map .int))),some (.own (((A.take (i + 1)).flatMap G).map pD)),some (.val (.int u))]) ?_ ⟨_,rfl⟩
   simp_arith[if_pos v3]
   rw[D9 (fun w=>decide (u≠w) && !decide ((u,w)∈B)) (fun w=>D.tup [.int u,.int w]) (fun w hw=>⟨_,rfl,by
    simp[rM,rN,M9,zv,zo,M.A7,Hx,Hw,Jn,JH,JI,JJ,LX,IL,KH,RE,Jy,Jz,HB,UT,LU,LV,JA,eQ,HC,HD,FD,PY,D8,PZ,JB,JC,HE,UX,Jx,Ff,toCl_list,toCl_listP,toCl_dct,LY,JK,JL,JM,JN,LZ,JO,JP,JQ,nJ,qB,JD,UY,JE,UZ,JF,JG,LW,V0,rO,rQ,eT,eU,eV,eW,eX,eY,toCl_nil,Je,Ju,OC,Q0,HF,M2,M3,JR,JS,M4,M5,M6,M7,M8,JT,JU,JV,JW,HG,HH,HI,HJ,HK,JX,HL,HM,V1,V2,V3,V4,V5,HN,ite_tt,ite_ff,Bool.not_true,Bool.not_false,zav,zT,Fj,K0,K1,eS,fG,eR,fJ,fK,fL,Ma,Qa,Qb,Qc,DY,HW,Me,PL,gC,Vi,Qh,Q1,cR,IY,AJ,Aw]
    by_cases h:u=w<;>simp[h],fun _=>by simp_arith[]⟩)]
   rw[<-lc]
   have xw:((W.filter fun w=>decide (u≠w) && !decide ((u,w)∈B)).map fun w=>(u,w))=G u:=by rw[hG]
   rw[xw]
   simp_arith[if_pos hb]
   rw[et,List.flatMap_append,List.flatMap_cons,List.flatMap_nil,yW,<-zN]
  ·rintro ρ ⟨s6,rfl⟩
   rw[zc,yX]
   exact⟨s6,rfl⟩
 ·rintro ρ ⟨s6,rfl⟩
  rw[d9]
  exact⟨_,rfl,rfl⟩
noncomputable def Il:List D->M OT:=zj Dx
theorem Gh:Txt K mg->BV P w K mg base "missing_bows" 1 3 Il:=(zb Dx).1
theorem Gi:∀(B:List (Int×Int)) (vs:List D) (L:List Int) (v:Int),L.length<=30->Il [.Bi true (B.map pD) vs,.lst (L.map .int),.int v]=.ok (.lst (((B0 B L v).map pD).map .sh)):=(zb Dx).2
theorem Hg:∃ F:List D->M OT,(∀ {P:Program}{w:World}{K:za}{mg:Str->Option Value}{base:Heap},Txt K mg->BV P w K mg base "lightest" 2 2 F)/\(∀(B:List (Int×Int)) (vs:List D) (L:List Int),L≠[]->L.length<=30->F [.Bi true (B.map pD) vs,.lst (L.map .int)]=.ok (.sh (.int (Bk B L)))):=by
 refine⟨_,fun T=>AF (k:=1) T.U0 S1 _ (fun f B1 A outer s H E hr=>(A5 (Am (AZ (Ac (AR hr 16 (by decide)) (eI rfl (AR hr 16 (by decide)) rfl T.Ze (Aj (Cd (NB:=["place","bows","left"]) [none,some 0,some 1] rfl (AO (A1 1 (pv 1))) rfl rfl (Bp 0 (by decide) rfl rfl rfl) (fun _ _ _ _=>Df) (fun _ _ _ _=>(AL (A2 (Du rfl T.Gd (Aj (BO (Aa (Bg rfl).toXCall (Gh T) (hr.mono (by decide)) rfl (A2 (A1 1 (pv 1)) (A2 (A1 2 (pv 2)) (A2 (A1 0 (pv 0)) A8))) rfl)))) (A2 (A1 0 (pv 0)) A8))))))) A6))))),?_⟩
 intro B vs L af hl
 have e0:AI ["bows","left"] [.Bi true (B.map pD) vs,.lst (L.map .int)]=[some (.val (.Bi true (B.map pD) vs)),some (.val (.lst (L.map .int)))]:=rfl
 rw[e0]
 refine Bq ?_
 have hL:(L.map D.int).length<=1000:=by rw[zc];omega
 simp_arith[if_pos hL]
 rw[C7 (fun p=>D.tup ([((B0 B L p).length:Int),p].map D.int)) (fun p hp=>⟨_,rfl,rfl,by
  have h1:=Gi B vs L p hl
  simp_arith[h1,VN,zc,zg,zau]⟩)]
 simp_arith[UR]
 rw[OU]
 have hb:=Wh (fun p=>D.tup ([((B0 B L p).length:Int),p].map D.int)) (L.map fun p=>(p,[((B0 B L p).length:Int),p]))
 rw[yM] at hb
 have e2:((fun b:Int×List Int=>(D.tup ([((B0 B L b.1).length:Int),b.1].map D.int),b.2)) ∘ fun p=>(p,[((B0 B L p).length:Int),p]))=fun p=>(D.tup ([((B0 B L p).length:Int),p].map D.int),[((B0 B L p).length:Int),p]):=rfl
 rw[e2] at hb
 dsimp only
 rw[hb]
 unfold Bk
 cases q:AX (L.map fun p=>(p,[((B0 B L p).length:Int),p])) with
 |none=>exact (N2 (fun z=>af (List.map_eq_nil_iff.mp z)) q).elim
 |some k =>
  simp only[zaf,M.A7]
  rfl
noncomputable def Pg:List D->M OT:=zj Hg
theorem So:Txt K mg->BV P w K mg base "lightest" 2 2 Pg:=(zb Hg).1
theorem Sq:∀(B:List (Int×Int)) (vs:List D) (L:List Int),L≠[]->L.length<=30->Pg [.Bi true (B.map pD) vs,.lst (L.map .int)]=.ok (.sh (.int (Bk B L))):=(zb Hg).2
theorem L3:∃ F:List D->M OT,(∀ {P:Program}{w:World}{K:za}{mg:Str->Option Value}{base:Heap},Txt K mg->BV P w K mg base "ranked" 3 1 F)/\(∀(m:Nat) (rs:List Road),m<=20->(∀ r∈rs,Hu m r/\r.a≠r.b)->F [As m rs]=.ok (.lst (((Sy m (BA rs) (AU m)).map D.int).map .sh))):=by
 refine⟨_,fun T=>AF (k:=2) T.Z9 DZ _ (fun f B1 A outer s H E hr=>(A4 (BB 1 DZ.nd rfl (yJ rfl) (Aa A9.toXCall (Oe T) (hr.mono (by decide)) rfl (A2 (A1 0 (pv 0)) A8) rfl)) (A4 (BB 2 DZ.nd rfl (yJ rfl) (Jw rfl rfl T.F5 rfl T.CS (Ac (AR hr 16 (by decide)) (A1 0 (pv 0)) A6))) (A4 (BB 3 DZ.nd rfl (yJ rfl) (KD FC)) (A4 (Ri A9.toXCall.own (IG (BX (c:=true) (A1 2 (pv 2)))) (A4 (B3 4 DZ.nd rfl (yJ rfl) (Aj (Ef (Aa A9.toXCall (So T) (hr.mono (by decide)) rfl (A2 (A1 1 (pv 1)) (A2 (A1 2 (pv 2)) A8)) rfl)))) (A4 (BE A9.toXCall.own rfl (AO (Aj (Ef (Aa A9.toXCall (Gh T) (hr.mono (by decide)) rfl (A2 (A1 1 (pv 1)) (A2 (A1 2 (pv 2)) (A2 (A1 4 (pv 4)) A8))) rfl)))) (AY 5 DZ.nd rfl (yJ rfl)) (A5 (LS (AR hr 16 (by decide)) (BP 1 (pv 1)) (A1 5 (pv 5)) CF))) (A4 (We (BP 2 (pv 2)) (A1 4 (pv 4))) (A5 (Hq 3 (pv 3) (A1 4 (pv 4)))))))) (A5 (CN 3 (pv 3)))))))),?_⟩
 intro m rs hm Av
 have e0:AI ["net","bows","left","order","place","bow"] [As m rs]=[some (.val (As m rs)),none,none,none,none,none]:=rfl
 rw[e0]
 refine Bq ?_
 have h1:=Of m rs hm Av
 have n0:B5 (As m rs) (.int 0)=.ok (.int m):=rfl
 have h2:=PX (n:=m) (by omega)
 rw[N5] at h2
 apply wp_step
 ·simp_arith[h1]
  rfl
 apply wp_step
 ·simp_arith[n0,h2]
  rfl
 apply wp_step
 ·rfl
 try simp only[zv,zo]
 refine C6 (I:=fun ρ=>∃ s1 s2 s4 s5,ρ=[some (.val (As m rs)),s1,s2,some (.own ((Sy m (BA rs) (AU m)).map D.int)),s4,s5]) ?_ ?_
 ·refine RC (lt:=fun a b:Nat=>a < b) (fun n ρ=>∃(B:List (Int×Int)) (L O:List Int) (s4 s5:Option Cl),ρ=[some (.val (As m rs)),some (.ow (.tree none (.Bi true (B.map pD) ((CZ B).map .sh)))),some (.own (L.map D.int)),some (.own (O.map D.int)),s4,s5]/\L.length=n/\n + O.length=m/\Cp m B/\(∀ p∈L,0<=p/\p < (m:Int))/\O++Sy n B L=Sy m (BA rs) (AU m)) (Nat.lt_wfRel.wf.apply m) ⟨BA rs,AU m,[],none,none,rfl,Fi m,by simp,RJ Av,fun p hp=>JY.mp hp,rfl⟩ ?_
  rintro n ρ ⟨B,L,O,s4,s5,rfl,hn,hO,hB,hL,df⟩
  by_cases j0:L=[]
  ·subst j0
   left
   have:n=0:=by simpa using hn.symm
   subst this
   rw[Sy,yW] at df
   exact⟨rfl,⟨_,_,_,_,by rw[df]⟩⟩
  ·right
   have j1:L.length<=30:=by omega
   have q1:=Sq B (CZ B) L j0 j1
   have q2:=Gi B (CZ B) L (Bk B L) j1
   obtain⟨be,_⟩:=OW (B:=B) j0
   have xx:0 < L.length:=List.length_pos_of_mem be
   obtain⟨n',rfl⟩:∃ n',n=n' + 1:=⟨n - 1,by omega⟩
   rw[Sy,if_neg j0] at df
   constructor
   ·simp_arith[Yp]
    cases L with
    |nil=>exact (j0 rfl).elim
    |cons x r=>rfl
   apply wp_step
   ·simp_arith[q1,lP fA]
    rfl
   try simp only[zv,zo]
   have d5:Jh ((B0 B L (Bk B L)).map pD)=true:=RF Yr _
   refine C6 (I:=fun ρ=>∃ s5,ρ=[some (.val (As m rs)),some (.ow (.tree none (.Bi true ((Cn B (B0 B L (Bk B L))).map pD) ((CZ (Cn B (B0 B L (Bk B L)))).map .sh)))),some (.own (L.map D.int)),some (.own (O.map D.int)),some (.val (.int (Bk B L))),s5]) ?_ ?_
   ·simp_arith[q2,eZ d5]
    refine BF (fun i ρ=>∃ s5,ρ=[some (.val (As m rs)),some (.ow (.tree none (.Bi true ((Cn B ((B0 B L (Bk B L)).take i)).map pD) ((CZ (Cn B ((B0 B L (Bk B L)).take i))).map .sh)))),some (.own (L.map D.int)),some (.own (O.map D.int)),some (.val (.int (Bk B L))),s5]) ⟨s5,rfl⟩ ?_ ?_
    ·rintro i d ρ hd ⟨s5,rfl⟩
     obtain⟨p,hp,rfl⟩:=BR hd
     refine⟨_,rfl,?_⟩
     have xy:Cp m (Cn B ((B0 B L (Bk B L)).take i)):=hB.Cn fun q hq=>by
      have:=OV (yR hq)
      exact⟨this.2.2,hL _ this.1,hL _ this.2.1⟩
     have kk:keyOk true (pD p)=true/\((Cn B ((B0 B L (Bk B L)).take i)).map pD).length < 1000:=⟨rfl,by rw[zc];exact xy.len hm⟩
     have et:(B0 B L (Bk B L)).take (i + 1)=(B0 B L (Bk B L)).take i++[p]:=by rw[yZ,hp];rfl
     have ea:Cn B ((B0 B L (Bk B L)).take (i + 1))=KI (Cn B ((B0 B L (Bk B L)).take i)) p:=by
      unfold Cn;rw[et,List.foldl_append];rfl
     simp_arith[if_pos kk,V7]
     exact⟨_,by rw[ea]⟩
    ·rintro ρ ⟨s5,rfl⟩
     rw[zc,yX]
     exact⟨s5,rfl⟩
   ·rintro ρ ⟨s5,rfl⟩
    have xz:(O.map D.int).length < 1000:=by rw[zc];omega
    apply wp_step
    ·simp_arith[DR,if_pos be]
     rfl
    refine Bj (ρ':=[some (.val (As m rs)),some (.ow (.tree none (.Bi true ((Cn B (B0 B L (Bk B L))).map pD) ((CZ (Cn B (B0 B L (Bk B L)))).map .sh)))),some (.own ((L.erase (Bk B L)).map D.int)),some (.own ((O++[Bk B L]).map D.int)),some (.val (.int (Bk B L))),s5]) ?_ ?_
    ·simp_arith[if_pos xz,zN,zg,zau]
    ·have hlen:=List.length_erase_of_mem be
     refine⟨n',by omega,_,_,_,_,_,rfl,by omega,by rw[zL];simp;omega,hB.Cn fun q hq=>?_,fun p hp=>hL p (List.mem_of_mem_erase hp),?_⟩
     ·have:=OV hq
      exact⟨this.2.2,hL _ this.1,hL _ this.2.1⟩
     ·rw[zap]
      exact df
 ·rintro ρ ⟨s1,s2,s4,s5,rfl⟩
  exact⟨_,rfl,rfl⟩
noncomputable def Vo:List D->M OT:=zj L3
theorem WH:Txt K mg->BV P w K mg base "ranked" 3 1 Vo:=(zb L3).1
theorem WI:∀(m:Nat) (rs:List Road),m<=20->(∀ r∈rs,Hu m r/\r.a≠r.b)->Vo [As m rs]=.ok (.lst (((Sy m (BA rs) (AU m)).map D.int).map .sh)):=(zb L3).2
theorem CC:∃ F:List D->M OT,(∀ {P:Program}{w:World}{K:za}{mg:Str->Option Value}{base:Heap},Txt K mg->BV P w K mg base "order_or_ranked" 4 2 F)/\(∀(m:Nat) (rs:List Road),m<=20->(∀ r∈rs,Hu m r/\r.a≠r.b)->(∀ L:List Int,L.Perm (AU m)->F [As m rs,.lst (L.map .int)]=.ok (.lst ((L.map D.int).map .sh)))/\F [As m rs,.AA]=.ok (.lst (((Sy m (BA rs) (AU m)).map D.int).map .sh))):=by
 refine⟨_,fun T=>AF (k:=3) T.Ka IR _ (fun f B1 A outer s H E hr=>(A4 (B7 (IB (c:=true) (A1 1 (pv 1))) (A5 (Am (Aa A9.toXCall (WH T) (hr.mono (by decide)) rfl (A2 (A1 0 (pv 0)) A8) rfl))) AB) (A5 (Am (Aa A9.toXCall (L0 T) (hr.mono (by decide)) rfl (A2 (A1 0 (pv 0)) (A2 (A1 1 (pv 1)) A8)) rfl))))),?_⟩
 intro m rs hm Av
 have h1:=WI m rs hm Av
 refine⟨fun L hL=>?_,?_⟩
 ·have h2:CU [As m rs,.lst (L.map .int)]=.ok (.lst ((L.map D.int).map .sh)):=L1.1 m (.lst (rs.map BI)) L (by omega) hL
  have e0:AI ["net","order"] [As m rs,.lst (L.map .int)]=[some (.val (As m rs)),some (.val (.lst (L.map .int)))]:=rfl
  rw[e0]
  refine Bq ?_
  apply wp_step
  ·rfl
  simp_arith[h2]
  exact⟨_,rfl,rfl⟩
 ·have e0:AI ["net","order"] [As m rs,.AA]=[some (.val (As m rs)),some (.val .AA)]:=rfl
  rw[e0]
  refine Bq ?_
  simp_arith[Cz,h1]
  exact⟨_,rfl,rfl⟩
noncomputable def Cg:List D->M OT:=zj CC
theorem IW:Txt K mg->BV P w K mg base "order_or_ranked" 4 2 Cg:=(zb CC).1
theorem Es:∀(m:Nat) (rs:List Road),m<=20->(∀ r∈rs,Hu m r/\r.a≠r.b)->(∀ L:List Int,L.Perm (AU m)->Cg [As m rs,.lst (L.map .int)]=.ok (.lst ((L.map D.int).map .sh)))/\Cg [As m rs,.AA]=.ok (.lst (((Sy m (BA rs) (AU m)).map D.int).map .sh)):=(zb CC).2
theorem FU:∃ F:List D->M OT,(∀ {P:Program}{w:World}{K:za}{mg:Str->Option Value}{base:Heap},Txt K mg->BV P w K mg base "kept_arcs" 3 2 F)/\(∀(m:Nat) (rs:List Road) (A:LA),m<=20->(∀ r∈rs,Hu m r)->Fp m A->∃ K:List (Int×Int),F [As m rs,Lf A]=.ok (.lst ((K.map pD).map .sh))/\K.Nodup/\∀ p,p∈K↔KP rs A p):=by
 refine⟨_,fun T=>AF (k:=2) T.S6 DL _ (fun f B1 A outer s H E hr=>(A4 (BB 2 DL.nd rfl (yJ rfl) (KD FC)) (A4 (BE A9.toXCall.own rfl (Ca (c:=true) rfl T.CS (Ac (AR hr 16 (by decide)) (A1 0 (pv 0)) A6)) (AY 3 DL.nd rfl (Or.inr rfl)) (A4 (B3 4 DL.nd rfl (Or.inr rfl) (Aj (Aa A9.toXCall (Od T) (hr.mono (by decide)) rfl (A2 (A1 0 (pv 0)) (A2 (A1 3 (pv 3)) A8)) rfl))) (A5 (Yi (BP 2 (pv 2)) (by exact (Cd (NB:=["w","u","laid","costs"]) [none,some 3,some 1,some 4] rfl (Ca (c:=true) rfl T.CS (Ac (AR hr 16 (by decide)) (A1 0 (pv 0)) A6)) rfl rfl (Bp 0 (by decide) rfl rfl rfl) (fun _ _ _ _=>Ht (DW.dt (IC (N0 (c:=true) (AR hr 16 (by decide)) (AL (A2 (A1 1 (pv 1)) (A2 (A1 0 (pv 0)) A8))) (A1 2 (pv 2))) (Ho (L7 (c:=true) (AR hr 16 (by decide)) (Ac (AR hr 16 (by decide)) (Ac (AR hr 16 (by decide)) (A1 2 (pv 2)) (AL (A2 (A1 1 (pv 1)) (A2 (A1 0 (pv 0)) A8)))) A6) (Ac (AR hr 16 (by decide)) (A1 3 (pv 3)) (A1 0 (pv 0)))))))) (fun _ _ _ _=>(AL (A2 (A1 1 (pv 1)) (A2 (A1 0 (pv 0)) A8)))))))))) (A5 (CN 2 (pv 2)))))),?_⟩
 intro m rs A hm Av hA
 have e0:AI ["net","laid","kept","u","costs"] [As m rs,Lf A]=[some (.val (As m rs)),some (.val (Lf A)),none,none,none]:=rfl
 rw[e0]
 refine (fun h:∃ t,_/\∃ K:List (Int×Int),t=.lst ((K.map pD).map .sh)/\K.Nodup/\∀ p,p∈K↔KP rs A p=>by
  obtain⟨t,h1,K,rfl,h2⟩:=h
  exact⟨K,h1,h2⟩) (Lc ?_)
 have n0:B5 (As m rs) (.int 0)=.ok (.int m):=rfl
 have hr:Td (.int (m:Int))=.ok ((AU m).map D.int):=by rw[GB (by omega),TQ]
 have hl:((AU m).map D.int).length<=1000:=by rw[zc,Fi];omega
 apply wp_step
 ·rfl
 try simp only[zv,zo]
 refine C6 (I:=fun ρ=>∃(K:List (Int×Int)) (s3 s4:Option Cl),ρ=[some (.val (As m rs)),some (.val (Lf A)),some (.own (K.map pD)),s3,s4]/\K.Nodup/\∀ p,p∈K↔KP rs A p) ?_ ?_
 ·simp_arith[n0,hr]
  refine BF (fun i ρ=>i<=m/\∃(K:List (Int×Int)) (s3 s4:Option Cl),ρ=[some (.val (As m rs)),some (.val (Lf A)),some (.own (K.map pD)),s3,s4]/\K.Nodup/\∀ p,p∈K↔(p.1 < i/\KP rs A p)) ⟨zW _,[],none,none,rfl,za7,fun p=>⟨(fun h=>by cases h),fun h=>by
   obtain⟨c,hc,_⟩:=h.2
   have:=(hA.rg p (Fl hc)).2.1
   omega⟩⟩ ?_ ?_
  ·rintro i d ρ hd ⟨hi,K,s3,s4,rfl,hn,hK⟩
   obtain⟨u,hu,rfl⟩:=BR hd
   have aj:i < m:=by have:=(zA.mp hu).1;rw[Fi] at this;exact this
   have eu:u=(i:Int):=by
    unfold AU at hu
    rw[zH,List.getElem?_range aj] at hu
    exact (zJ hu).symm
   subst eu
   obtain⟨cs,hR,hF⟩:=F9 m i rs aj (by omega) Av
   refine⟨_,rfl,?_⟩
   apply wp_step
   ·simp_arith[hF];rfl
   try simp only[zv,zo]
   obtain⟨W,hW⟩:∃ W,W=(AU m).filter fun w=>qT A cs i w:=⟨_,rfl⟩
   have v4:∀ w,w∈W↔KP rs A ((i:Int),w):=fun w=>by
    rw[hW,za2,JY]
    constructor
    ·rintro ⟨hw,h⟩;exact (Z2 hR Av hw.1 hw.2).mp h
    ·intro h
     obtain⟨c,hc,_⟩:=id h
     have:=(hA.rg _ (Fl hc)).2.2
     exact⟨this,(Z2 hR Av this.1 this.2).mpr h⟩
   have x3:W.Nodup:=by rw[hW];exact (N8 m).filter _
   have aJ:(K++W.map fun w=>((i:Int),w)).Nodup:=by
    rw[zK]
    refine⟨hn,List.pairwise_map.mpr (x3.imp fun {a b} ig e=>ig (by cases e;rfl)),fun x hx y hy e=>?_⟩
    subst e
    obtain⟨w,_,rfl⟩:=zE.mp hy
    have:=(hK _).mp hx
    simp at this
   have v5:∀ p,p∈K++W.map (fun w=>((i:Int),w))↔(p.1 < ((i + 1:Nat):Int)/\KP rs A p):=fun p=>by
    rw[zy,hK]
    constructor
    ·rintro (h|h)
     ·exact⟨by have:=h.1;omega,h.2⟩
     ·obtain⟨w,hw,rfl⟩:=zE.mp h
      exact⟨by dsimp only;omega,(v4 w).mp hw⟩
    ·rintro ⟨h1,h2⟩
     by_cases e:p.1 < (i:Int)
     ·exact .inl ⟨e,h2⟩
     ·have e2:p.1=(i:Int):=by omega
      obtain⟨p1,p2⟩:=p
      dsimp only at e2
      subst e2
      exact .inr (zE.mpr ⟨p2,(v4 p2).mpr h2,rfl⟩)
   have hlen:=mP hA hm aJ fun p hp=>((v5 p).mp hp).2
   have hb:(K.map pD).length + ((W.map fun w=>((i:Int),w)).map pD).length<=1000:=by
    rw[zL] at hlen
    rw[zc,zc]
    omega
   refine Bj (ρ':=[some (.val (As m rs)),some (.val (Lf A)),some (.own ((K++W.map fun w=>((i:Int),w)).map pD)),some (.val (.int i)),some (.val (.lst (cs.map cst)))]) ?_ ⟨aj,_,_,_,rfl,aJ,v5⟩
   have t1:∀ a b:Int,D.tup [.int a,.int b]=pD (a,b):=fun a b=>rfl
   simp_arith[n0,hr,if_pos hl]
   rw[D9 (fun w=>qT A cs i w) (fun w=>pD ((i:Int),w)) (fun w hw=>⟨_,rfl,by
    have v6:=JY.mp hw
    have x1:B5 (.lst (cs.map cst)) (.int w)=.ok (cst (atC cs w)):=Ed v6.1 (by rw[hR.1];exact v6.2)
    have de:=Qd A ((i:Int),w) false
    unfold qT Ak
    cases q:AG A ((i:Int),w) with
    |none =>
     rw[q] at de
     simp_arith[t1,de]
     rfl
    |some v =>
     rw[q] at de
     have hit:=Qe q
     have h0:B5 (Ww v) (.int 0)=.ok (cst (some v.1)):=rfl
     have he:=dU (some v.1) (atC cs w)
     simp_arith[t1,de,hit,h0,x1,he]
     rfl,fun _=>by simp_arith[t1]⟩)]
   rw[<-hW]
   have ew:W.map (fun w=>pD ((i:Int),w))=(W.map fun w=>((i:Int),w)).map pD:=by rw[yM];rfl
   rw[ew]
   simp_arith[if_pos hb]
   rw[<-zN]
  ·rintro ρ ⟨_,K,s3,s4,rfl,hn,hK⟩
   refine⟨K,s3,s4,rfl,hn,fun p=>(hK p).trans ⟨fun h=>h.2,fun h=>⟨?_,h⟩⟩⟩
   obtain⟨c,hc,_⟩:=h
   have:=(hA.rg p (Fl hc)).2.1
   rw[zc,Fi]
   omega
 ·rintro ρ ⟨K,s3,s4,rfl,hn,hK⟩
  exact⟨_,rfl,K,rfl,hn,hK⟩
noncomputable def NG:List D->M OT:=zj FU
theorem Qx:Txt K mg->BV P w K mg base "kept_arcs" 3 2 NG:=(zb FU).1
theorem Qy:∀(m:Nat) (rs:List Road) (A:LA),m<=20->(∀ r∈rs,Hu m r)->Fp m A->∃ K:List (Int×Int),NG [As m rs,Lf A]=.ok (.lst ((K.map pD).map .sh))/\K.Nodup/\∀ p,p∈K↔KP rs A p:=(zb FU).2
theorem CD:∃ F:OT->List D->M (OT×OT),(∀ {P:Program}{w:World}{K:za}{mg:Str->Option Value}{base:Heap},Txt K mg->Pa P w K mg base "Ladder" 6 3 F)/\(∀(m:Nat) (rs:List Road) (o:D) (L:List Int),1<=m->m<=16->rs.length<=60->(∀ r∈rs,Nb m r)->L.Perm (AU m)->(o=.lst (L.map D.int)\/(o=.AA/\L=Sy m (BA rs) (AU m)))->∃(A:LA) (K:List (Int×Int)),Cs m rs L A K/\∃ t,F (.ins "Ladder" [] []) [As m rs,o]=.ok (t,.sh .AA)/\er t=Ba m rs L A K):=by
 refine⟨_,fun T=>YM (k:=5) T.Kb IS _ (fun f B1 A outer s H E hr=>(A4 (Mc ["Ladder"] (Br T.BG BZ) (BP 0 (pv 0)) (Aj (Aa A9.toXCall (U5 T) (hr.mono (by decide)) rfl (A2 (A1 1 (pv 1)) A8) rfl))) (A4 (Mc ["Ladder"] (Br T.CB BZ) (BP 0 (pv 0)) (Aj (Ef (Aa A9.toXCall (IW T) (hr.mono (by decide)) rfl (A2 (F3 ["Ladder"] (Br T.BG BZ) (A1 0 (pv 0))) (A2 (A1 2 (pv 2)) A8)) rfl)))) (A4 (Mc ["Ladder"] (Br T.Dm BZ) (BP 0 (pv 0)) (Aj (Ef (Aa A9.toXCall (Qv T) (hr.mono (by decide)) rfl (A2 (F3 ["Ladder"] (Br T.BG BZ) (A1 0 (pv 0))) (A2 (F3 ["Ladder"] (Br T.CB BZ) (A1 0 (pv 0))) A8)) rfl)))) (A5 (Mc ["Ladder"] (Br T.Em BZ) (BP 0 (pv 0)) (Aj (Ef (Aa A9.toXCall (Qx T) (hr.mono (by decide)) rfl (A2 (F3 ["Ladder"] (Br T.BG BZ) (A1 0 (pv 0))) (A2 (F3 ["Ladder"] (Br T.Dm BZ) (A1 0 (pv 0))) A8)) rfl))))))))),?_⟩
 intro m rs o L dh bZ ci gf hL ho
 have Av:∀ r∈rs,Hu m r/\r.a≠r.b:=fun r hr=>(gf r hr).vI
 have rc:=Yy dh bZ ci gf
 have h1:=U6.1 m rs rc ci
 have h2:Cg [As m rs,o]=.ok (.lst ((L.map D.int).map .sh)):=by
  rcases ho with rfl|⟨rfl,rfl⟩
  ·exact (Es m rs (by omega) Av).1 L hL
  ·exact (Es m rs (by omega) Av).2
 have h3:=Qw m rs L (by omega) hL Av
 have hA:=(Ni hL Av).1
 obtain⟨K,h4,hn,hK⟩:=Qy m rs (BS rs L) (by omega) (fun r hr=>(Av r hr).1) hA
 refine⟨BS rs L,K,⟨dh,bZ,ci,Av,hL,rfl,hn,hK⟩,.ins "Ladder" ["own_map","own_order","laid","kept_ones"] [.sh (As m rs),.sh (.lst (L.map D.int)),.sh (Lf (BS rs L)),.sh (.lst (K.map pD))],?_,rfl⟩
 have e0:CY ["self","net","order"] (.ins "Ladder" [] []) [As m rs,o]=[some (.ow (.tree (some 0) (.ins "Ladder" [] []))),some (.val (As m rs)),some (.val o)]:=rfl
 rw[e0]
 refine TN ?_
 have e1:er (.tup [.sh (.int m),.lst ((rs.map BI).map .sh)])=As m rs:=by rw[fI,RE,KH];rfl
 have T:∀(ns:List Str) (ds:List D),er (.ins "Ladder" ns (ds.map .sh))=.ins "Ladder" ns ds:=fun ns ds=>by rw[er,PN]
 have T1:=T ["own_map"] [As m rs]
 have T2:=T ["own_map","own_order"] [As m rs,.lst (L.map D.int)]
 have T3:=T ["own_map","own_order","laid"] [As m rs,.lst (L.map D.int),Lf (BS rs L)]
 simp only[zg,zau] at T1 T2 T3
 have d1:=Z3 L
 have d2:=fZ (BS rs L)
 have d3:=fY K
 have f1:O2 ["Ladder"] "own_map" (.ins "Ladder" ["own_map"] [As m rs])=.ok (As m rs):=rfl
 have f2:O2 ["Ladder"] "own_map" (.ins "Ladder" ["own_map","own_order"] [As m rs,.lst (L.map D.int)])=.ok (As m rs):=rfl
 have f3:O2 ["Ladder"] "own_order" (.ins "Ladder" ["own_map","own_order"] [As m rs,.lst (L.map D.int)])=.ok (.lst (L.map D.int)):=rfl
 have f4:O2 ["Ladder"] "own_map" (.ins "Ladder" ["own_map","own_order","laid"] [As m rs,.lst (L.map D.int),Lf (BS rs L)])=.ok (As m rs):=rfl
 have f5:O2 ["Ladder"] "laid" (.ins "Ladder" ["own_map","own_order","laid"] [As m rs,.lst (L.map D.int),Lf (BS rs L)])=.ok (Lf (BS rs L)):=rfl
 refine wp_step (ρ':=[some (.ow (.tree (some 0) (.ins "Ladder" ["own_map"] [.sh (As m rs)]))),some (.val (As m rs)),some (.val o)]) (by simp_arith[h1,e1];rfl) ?_
 refine wp_step (ρ':=[some (.ow (.tree (some 0) (.ins "Ladder" ["own_map","own_order"] [.sh (As m rs),.sh (.lst (L.map D.int))]))),some (.val (As m rs)),some (.val o)]) (by simp_arith[T1,f1,h2,d1];rfl) ?_
 refine wp_step (ρ':=[some (.ow (.tree (some 0) (.ins "Ladder" ["own_map","own_order","laid"] [.sh (As m rs),.sh (.lst (L.map D.int)),.sh (Lf (BS rs L))]))),some (.val (As m rs)),some (.val o)]) (by simp_arith[T2,f2,f3,h3,d2];rfl) ?_
 refine Bj (ρ':=[some (.ow (.tree (some 0) (.ins "Ladder" ["own_map","own_order","laid","kept_ones"] [.sh (As m rs),.sh (.lst (L.map D.int)),.sh (Lf (BS rs L)),.sh (.lst (K.map pD))]))),some (.val (As m rs)),some (.val o)]) (by simp_arith[T3,f4,f5,h4,d3];rfl) ⟨rfl,rfl⟩
noncomputable def Ci:OT->List D->M (OT×OT):=zj CD
theorem Et:Txt K mg->Pa P w K mg base "Ladder" 6 3 Ci:=(zb CD).1
theorem Eu:∀(m:Nat) (rs:List Road) (o:D) (L:List Int),1<=m->m<=16->rs.length<=60->(∀ r∈rs,Nb m r)->L.Perm (AU m)->(o=.lst (L.map D.int)\/(o=.AA/\L=Sy m (BA rs) (AU m)))->∃(A:LA) (K:List (Int×Int)),Cs m rs L A K/\∃ t,Ci (.ins "Ladder" [] []) [As m rs,o]=.ok (t,.sh .AA)/\er t=Ba m rs L A K:=(zb CD).2
theorem Ew:∃ F:List D->M OT,(∀ {P:Program}{w:World}{K:za}{mg:Str->Option Value}{base:Heap},Txt K mg->BV P w K mg base "_law_cell_at" 1 2 F)/\(∀(ns:List Int) (k:Nat),(∀ n∈ns,Sm n)->∃ v:Int,Sm v/\F [.lst (ns.map D.int),.int k]=.ok (.sh (.int v))):=by
 refine⟨_,fun T=>AF (k:=0) T.O9 Nq _ (fun f B1 A outer s H E hr=>(A4 (B7 (pS (c:=true) (A1 1 (pv 1)) (Du rfl T.Gd (A1 0 (pv 0)))) (A5 (Am (AZ (Ac (AR hr 16 (by decide)) (A1 0 (pv 0)) (A1 1 (pv 1)))))) AB) (A5 (Am (AZ A6))))),?_⟩
 intro ns k bC
 have e0:AI ["_law_script","_law_k"] [.lst (ns.map D.int),.int k]=[some (.val (.lst (ns.map D.int))),some (.val (.int k))]:=rfl
 rw[e0]
 by_cases hk:(k:Int) < ((ns.map D.int).length:Int)
 ·have v7:=hk
  rw[zc] at v7
  have i1:B5 (.lst (ns.map D.int)) (.int k)=.ok (.int (ns[k]'(by omega))):=Jk (by omega) (by rw[zZ];exact zt _)
  refine⟨ns[k]'(by omega),bC _ (List.getElem_mem _),Bq ?_⟩
  simp_arith[decide_eq_true hk,i1]
  rfl
 ·refine⟨0,by unfold Sm;decide,Bq ?_⟩
  simp_arith[decide_eq_false hk]
  rfl
noncomputable def CV:List D->M OT:=zj Ew
theorem Ex:Txt K mg->BV P w K mg base "_law_cell_at" 1 2 CV:=(zb Ew).1
theorem Ey:∀(ns:List Int) (k:Nat),(∀ n∈ns,Sm n)->∃ v:Int,Sm v/\CV [.lst (ns.map D.int),.int k]=.ok (.sh (.int v)):=(zb Ew).2
theorem IX:∃ F:List D->M OT,(∀ {P:Program}{w:World}{K:za}{mg:Str->Option Value}{base:Heap},Txt K mg->BV P w K mg base "_law_mix" 1 2 F)/\(∀ c k:Int,0<=k->k<=1000->∃ v:Int,0<=v/\F [.int c,.int k]=.ok (.sh (.int v))):=by
 refine⟨_,fun T=>AF (k:=0) T.WD Nr _ (fun f B1 A outer s H E hr=>(A4 (B3 2 Nr.nd rfl (yJ rfl) (BL (BW (BW (BW (Fz (A1 0 (pv 0)) A6) (Fz (Fz (A1 1 (pv 1)) (A1 1 (pv 1))) A6)) (Fz A6 (A1 1 (pv 1)))) A6) A6)) (A5 (Am (AZ (BL (Fz (A1 2 (pv 2)) (A1 2 (pv 2))) A6)))))),?_⟩
 intro c k h0 h1
 have e0:AI ["_law_cell","_law_k","_law_number"] [.int c,.int k]=[some (.val (.int c)),some (.val (.int k)),none]:=rfl
 rw[e0]
 have m1:Ie (.int c) (.int 48271)=.ok (.int (c * 48271)):=Eb (.inr (.inr (.inr (by decide))))
 have m2:Ie (.int k) (.int k)=.ok (.int (k * k)):=Eb (.inr (.inr (.inr ⟨by omega,by omega⟩)))
 have m3:Ie (.int (k * k)) (.int 69621)=.ok (.int (k * k * 69621)):=Eb (.inr (.inr (.inr (by decide))))
 have m4:Ie (.int 11) (.int k)=.ok (.int (11 * k)):=Eb (.inr (.inr (.inr ⟨by omega,by omega⟩)))
 have q1:EB (.int (c * 48271 + k * k * 69621 + 11 * k + 1)) (.int 2147483647)=.ok (.int ((c * 48271 + k * k * 69621 + 11 * k + 1) % 2147483647)):=AS (by decide)
 obtain⟨x,hx⟩:∃ x,x=(c * 48271 + k * k * 69621 + 11 * k + 1) % 2147483647:=⟨_,rfl⟩
 have x0:0<=x:=by omega
 have x1:x < 2147483647:=by omega
 have m5:Ie (.int x) (.int x)=.ok (.int (x * x)):=Eb (.inr (.inr (.inr ⟨by omega,by omega⟩)))
 have q2:EB (.int (x * x)) (.int 2147483629)=.ok (.int (x * x % 2147483629)):=AS (by decide)
 refine⟨x * x % 2147483629,zat _ (by decide),Bq ?_⟩
 rw[<-hx] at q1
 apply wp_step
 ·simp_arith[m1,m2,m3,m4,q1];rfl
 simp_arith[m5,q2]
 rfl
noncomputable def Sr:List D->M OT:=zj IX
theorem FV:Txt K mg->BV P w K mg base "_law_mix" 1 2 Sr:=(zb IX).1
theorem FX:∀ c k:Int,0<=k->k<=1000->∃ v:Int,0<=v/\Sr [.int c,.int k]=.ok (.sh (.int v)):=(zb IX).2
theorem FY:∃ F:List D->M OT,(∀ {P:Program}{w:World}{K:za}{mg:Str->Option Value}{base:Heap},Txt K mg->BV P w K mg base "_law_great" 1 2 F)/\(∀ c k:Int,Sm c->0<=k->k<=100->∃ v:Int,(0<=v/\v < Le)/\F [.int c,.int k]=.ok (.sh (.int v))):=by
 refine⟨_,fun T=>AF (k:=0) T.S7 Ql _ (fun f B1 A outer s H E hr=>(A5 (Am (AZ (BL (Fz (BW (BW (A1 0 (pv 0)) (Fz (A1 1 (pv 1)) (A1 1 (pv 1)))) A6) A6) (Xz A6 A6)))))),?_⟩
 intro c k hs h0 h1
 have ht:=Q2
 have e0:AI ["_law_cell","_law_k"] [.int c,.int k]=[some (.val (.int c)),some (.val (.int k))]:=rfl
 rw[e0]
 have m2:Ie (.int k) (.int k)=.ok (.int (k * k)):=Eb (.inr (.inr (.inr ⟨by omega,by omega⟩)))
 have hk:0<=k * k:=Int.mul_nonneg h0 h0
 have v7:k * k<=100 * 100:=Int.mul_le_mul h1 h1 h0 (by decide)
 have hb:PySem.Builtin.Int.intBits (c + (k * k + 1))<=2 ^ 20 + 1:=VU hs (by omega)
 have m3:Ie (.int (c + (k * k + 1))) (.int 5172390846617502938471650293846571029384756102938477)=.ok (.int ((c + (k * k + 1)) * 5172390846617502938471650293846571029384756102938477)):=Eb (.inl ⟨hb,bits_le (by decide)⟩)
 rw[<-zb8] at m3
 refine⟨(c + k * k + 1) * 5172390846617502938471650293846571029384756102938477 % Le,⟨zat _ (by omega),zak _ (by omega)⟩,Bq ?_⟩
 simp_arith[m2,m3,iI,fH]
 rfl
noncomputable def NH:List D->M OT:=zj FY
theorem Qz:Txt K mg->BV P w K mg base "_law_great" 1 2 NH:=(zb FY).1
theorem QA:∀ c k:Int,Sm c->0<=k->k<=100->∃ v:Int,(0<=v/\v < Le)/\NH [.int c,.int k]=.ok (.sh (.int v)):=(zb FY).2
theorem FZ:∃ F:List D->M OT,(∀ {P:Program}{w:World}{K:za}{mg:Str->Option Value}{base:Heap},Txt K mg->BV P w K mg base "_law_whole" 1 1 F)/\(∀ i:Int,F [.int i]=.ok (.sh (.bl true))):=by
 refine⟨_,fun T=>AF (k:=0) T.S8 Qm _ (fun f B1 A outer s H E hr=>(A5 (Am (AZ (MD (EY (Rb _) rfl T.B2 rfl T.Zd (by decide +kernel) (A1 0 (pv 0))) (Kt (XC (EY (OE _) rfl T.B2 rfl T.Zb (by decide +kernel) (A1 0 (pv 0)))))))))),?_⟩
 intro i
 rfl
noncomputable def NI:List D->M OT:=zj FZ
theorem Kg:Txt K mg->BV P w K mg base "_law_whole" 1 1 NI:=(zb FZ).1
theorem Kh:∀ i:Int,NI [.int i]=.ok (.sh (.bl true)):=(zb FZ).2
theorem Ez:∃ F:List D->M OT,(∀ {P:Program}{w:World}{K:za}{mg:Str->Option Value}{base:Heap},Txt K mg->BV P w K mg base "_law_is_cost" 2 1 F)/\(∀ a b:Int,F [.tup [.int a,.int b]]=.ok (.sh (.bl true))):=by
 refine⟨_,fun T=>AF (k:=1) T.Oa Nt _ (fun f B1 A outer s H E hr=>(A4 (B7 (DW.dt (Ea (Ck (BX (c:=true) (EY (ID _) rfl T.B2 rfl T.Mi (by decide +kernel) (A1 0 (pv 0))))) (CM (G7 (c:=true) (AR hr 16 (by decide)) (Du rfl T.Gd (A1 0 (pv 0))) A6)))) (A5 (Am (AZ CF))) AB) (A5 (Am (AZ (MD (Aj (Aa A9.toXCall (Kg T) (hr.mono (by decide)) rfl (A2 (Ac (AR hr 16 (by decide)) (A1 0 (pv 0)) A6) A8) rfl)) (Kt (Aj (Aa A9.toXCall (Kg T) (hr.mono (by decide)) rfl (A2 (Ac (AR hr 16 (by decide)) (A1 0 (pv 0)) A6) A8) rfl))))))))),?_⟩
 intro a b
 have e0:AI ["_law_found"] [.tup [.int a,.int b]]=[some (.val (.tup [.int a,.int b]))]:=rfl
 rw[e0]
 refine Bq ?_
 have h1:=Kh a
 have h2:=Kh b
 have i0:B5 (.tup [.int a,.int b]) (.int 0)=.ok (.int a):=rfl
 have i1:B5 (.tup [.int a,.int b]) (.int 1)=.ok (.int b):=rfl
 apply wp_step
 ·rfl
 simp_arith[i0,i1,h1,h2,F0]
 rfl
noncomputable def G0:List D->M OT:=zj Ez
theorem NJ:Txt K mg->BV P w K mg base "_law_is_cost" 2 1 G0:=(zb Ez).1
theorem NK:∀ a b:Int,G0 [.tup [.int a,.int b]]=.ok (.sh (.bl true)):=(zb Ez).2
theorem De:∃ F:List D->M OT,(∀ {P:Program}{w:World}{K:za}{mg:Str->Option Value}{base:Heap},Txt K mg->BV P w K mg base "_law_are_costs" 3 2 F)/\(∀(cs:List Co) (m:Nat),cs.length=m->m<=1000->F [.lst (cs.map cst),.int m]=.ok (.sh (.bl true))):=by
 refine⟨_,fun T=>AF (k:=2) T.LD KW _ (fun f B1 A outer s H E hr=>(A4 (B7 (DW.dt (Ea (Ck (BX (c:=true) (EY (Ku _) rfl T.B2 rfl T.F5 (by decide +kernel) (A1 0 (pv 0))))) (CM (G7 (c:=true) (AR hr 16 (by decide)) (Du rfl T.Gd (A1 0 (pv 0))) (A1 1 (pv 1)))))) (A5 (Am (AZ CF))) AB) (A5 (Am (AZ (Ti rfl rfl T.Za (Aj (Cd (NB:=["_law_cost"]) [none] rfl (AO (A1 0 (pv 0))) rfl rfl (Bp 0 (by decide) rfl rfl rfl) (fun _ _ _ _=>Df) (fun _ _ _ _=>(hV (XB (A1 0 (pv 0))) (Kt (Aj (BO (Aa (Bg rfl).toXCall (NJ T) (hr.mono (by decide)) rfl (A2 (A1 0 (pv 0)) A8) rfl)))))))))))))),?_⟩
 intro cs m hm hl
 have e0:AI ["_law_found","_law_many"] [.lst (cs.map cst),.int m]=[some (.val (.lst (cs.map cst))),some (.val (.int m))]:=rfl
 rw[e0]
 refine Bq ?_
 have aZ:(cs.map cst).length<=1000:=by rw[zc];omega
 have x4:((cs.map cst).length:Int)=(m:Int):=by rw[zc,hm]
 apply wp_step
 ·simp_arith[x4,decide_true];rfl
 simp_arith[if_pos aZ]
 rw[C7 (fun _=>D.bl true) (fun c hc=>⟨_,rfl,rfl,by
  cases c with
  |none=>rfl
  |some p =>
   have h1:G0 [cst (some p)]=.ok (.sh (.bl true)):=NK p.1 p.2
   have cD:Cz (cst (some p))=false:=rfl
   simp_arith[cD,h1,F0]
   try rfl⟩)]
 have e1:(cs.map fun _=>D.bl true)=(cs.map fun _=>true).map D.bl:=by rw[yM];rfl
 have e2:(cs.map fun _=>true).all id=true:=by rw[zbh];intro x hx;obtain⟨_,_,rfl⟩:=zE.mp hx;rfl
 simp_arith[e1,e2]
 rfl
noncomputable def Hh:List D->M OT:=zj De
theorem Fn:Txt K mg->BV P w K mg base "_law_are_costs" 3 2 Hh:=(zb De).1
theorem Fo:∀(cs:List Co) (m:Nat),cs.length=m->m<=1000->Hh [.lst (cs.map cst),.int m]=.ok (.sh (.bl true)):=(zb De).2
theorem G1:∃ F:List D->M OT,(∀ {P:Program}{w:World}{K:za}{mg:Str->Option Value}{base:Heap},Txt K mg->BV P w K mg base "_law_roads" 2 2 F)/\(∀(cells:List Int) (m:Nat),1<=m->m<=16->cells.length<=60->(∀ c∈cells,Sm c)->∃ rs:List Road,rs.length<=cells.length/\(∀ r∈rs,Nb m r)/\F [.lst (cells.map D.int),.int m]=.ok (.lst ((rs.map BI).map .sh))):=by
 refine⟨_,fun T=>AF (k:=1) T.S9 Bc _ (fun f B1 A outer s H E hr=>(A4 (BB 2 Bc.nd rfl (yJ rfl) (KD FC)) (A4 (BE A9.toXCall.own rfl (Ca (c:=true) rfl T.CS (Du rfl T.Gd (A1 0 (pv 0)))) (AY 3 Bc.nd rfl (yJ rfl)) (A4 (B3 4 Bc.nd rfl (yJ rfl) (Aj (Aa A9.toXCall (FV T) (hr.mono (by decide)) rfl (A2 (Ac (AR hr 16 (by decide)) (A1 0 (pv 0)) (A1 3 (pv 3))) (A2 (A1 3 (pv 3)) A8)) rfl))) (A4 (B3 5 Bc.nd rfl (yJ rfl) (Aj (Aa A9.toXCall (Qz T) (hr.mono (by decide)) rfl (A2 (Ac (AR hr 16 (by decide)) (A1 0 (pv 0)) (A1 3 (pv 3))) (A2 (A1 3 (pv 3)) A8)) rfl))) (A5 (B7 (IG (DW.dt (IC (Us (c:=true) (A1 1 (pv 1)) A6) (IC (Us (c:=true) (Du rfl T.Gd (A1 2 (pv 2))) A6) (Ho (L7 (c:=true) (AR hr 16 (by decide)) (BL (A1 4 (pv 4)) A6) A6)))))) (A5 (Hq 2 (pv 2) (dI (lH (c:=true) (Ac (AR hr 16 (by decide)) (A1 2 (pv 2)) (BL (Fx (A1 4 (pv 4)) A6) (Du rfl T.Gd (A1 2 (pv 2))))))))) (A5 (B7 (Us (c:=true) (A1 1 (pv 1)) A6) (A4 (B3 6 Bc.nd rfl (yJ rfl) (BL (Fx (A1 4 (pv 4)) A6) (A1 1 (pv 1)))) (A4 (B3 7 Bc.nd rfl (yJ rfl) (BL (BW (BW (A1 6 (pv 6)) A6) (BL (Fx (A1 4 (pv 4)) A6) (kO (A1 1 (pv 1)) A6))) (A1 1 (pv 1)))) (A4 (B3 8 Bc.nd rfl (yJ rfl) (Fx (A1 4 (pv 4)) A6)) (A4 (B3 9 Bc.nd rfl (yJ rfl) (Ac (AR hr 16 (by decide)) (GA (A2 D4 (A2 A6 (A2 A6 (A2 A6 (A2 (BL (A1 8 (pv 8)) A6) (A2 (BL (A1 8 (pv 8)) A6) (A2 (A1 5 (pv 5)) (A2 (A1 5 (pv 5)) A8))))))))) (BL (Fx (A1 4 (pv 4)) A6) A6))) (A5 (Hq 2 (pv 2) (AL (A2 (A1 6 (pv 6)) (A2 (A1 7 (pv 7)) (A2 (A1 9 (pv 9)) (A2 (Ac (AR hr 16 (by decide)) (GA (A2 (BL (A1 8 (pv 8)) A6) (A2 (A1 5 (pv 5)) A8))) (BL (A1 4 (pv 4)) A6)) A8))))))))))) AB))))))) (A5 (CN 2 (pv 2)))))),?_⟩
 intro cells m dh bZ hl bC
 have ht:=Q2
 have e0:AI ["_law_cells","_law_many","_law_roads_here","_law_k","_law_mixed","_law_great_here","_law_one","_law_other","_law_small","_law_length"] [.lst (cells.map D.int),.int m]=[some (.val (.lst (cells.map D.int))),some (.val (.int m)),none,none,none,none,none,none,none,none]:=rfl
 rw[e0]
 refine (fun h:∃ t,_/\∃ rs:List Road,t=.lst ((rs.map BI).map .sh)/\rs.length<=cells.length/\(∀ r∈rs,Nb m r)=>by
  obtain⟨t,h1,rs,rfl,h2,h3⟩:=h
  exact⟨rs,h2,h3,h1⟩) (Lc ?_)
 have hr:Td (.int ((cells.map D.int).length:Int))=.ok (Cm 0 cells.length):=by rw[zc];exact GB (by omega)
 apply wp_step
 ·rfl
 try simp only[zv,zo]
 refine C6 (I:=fun ρ=>∃(rs:List Road) (s3 s4 s5 s6 s7 s8 s9:Option Cl),ρ=[some (.val (.lst (cells.map D.int))),some (.val (.int m)),some (.own (rs.map BI)),s3,s4,s5,s6,s7,s8,s9]/\rs.length<=cells.length/\∀ r∈rs,Nb m r) ?_ ?_
 ·simp_arith[hr]
  refine BF (fun i ρ=>i<=60/\∃(rs:List Road) (s3 s4 s5 s6 s7 s8 s9:Option Cl),ρ=[some (.val (.lst (cells.map D.int))),some (.val (.int m)),some (.own (rs.map BI)),s3,s4,s5,s6,s7,s8,s9]/\rs.length<=i/\∀ r∈rs,Nb m r) ⟨by omega,[],none,none,none,none,none,none,none,rfl,by simp,fun r hr=>by cases hr⟩ ?_ ?_
  ·rintro i d ρ hd ⟨_,rs,s3,s4,s5,s6,s7,s8,s9,rfl,ci,Av⟩
   obtain⟨aR,hi⟩:=BM hd
   rw[Int.zero_add] at aR
   subst aR
   have hq:cells[i]? =some cells[i]:=zt hi
   have aq:=bC _ (List.getElem_mem hi)
   have x1:B5 (.lst (cells.map D.int)) (.int (i:Int))=.ok (.int cells[i]):=Jk (by omega) (by rw[zZ];exact hq)
   obtain⟨v,v0,hv⟩:=FX cells[i] i (by omega) (by omega)
   obtain⟨g,g0,hg⟩:=QA cells[i] i aq (by omega) (by omega)
   have cG:(rs.map BI).length < 1000:=by rw[zc];omega
   refine⟨_,rfl,?_⟩
   apply wp_step
   ·simp_arith[x1,hv];rfl
   try simp only[zv,zo]
   apply wp_step
   ·simp_arith[x1,hg];rfl
   try simp only[zv,zo]
   have d7:J9 (.int v) (.int 7)=.ok (.int (v / 7)):=DV ⟨by decide,by decide⟩
   have q7:EB (.int v) (.int 7)=.ok (.int (v % 7)):=AS (by decide)
   by_cases hm:(1:Int) < (m:Int)
   ·have gq:(0:Int) < (m:Int):=by omega
    have j3:(0:Int) < (m:Int) - 1:=by omega
    by_cases hz:(0:Int) < ((rs.map BI).length:Int)/\v % 7=3
    ·have hlen:0 < (rs.map BI).length:=by omega
     obtain⟨p1,y,hy,p2⟩:=Yz hlen (show 0<=v / 7 by omega)
     obtain⟨r,bq,rfl⟩:=zE.mp hy
     refine Bj (ρ':=[some (.val (.lst (cells.map D.int))),some (.val (.int m)),some (.own ((rs++[r]).map BI)),some (.val (.int i)),some (.val (.int v)),some (.val (.int g)),s6,s7,s8,s9]) ?_ ⟨by omega,rs++[r],_,_,_,_,_,_,_,rfl,by simp;omega,fun r2 j4=>by
      rcases zy.mp j4 with h|h
      ·exact Av r2 h
      ·rw[zh.mp h];exact Av r bq⟩
     simp_arith[decide_eq_true hm,decide_eq_true hz.1,q7,decide_eq_true hz.2,d7,p1,p2,if_pos cG,if_true]
     rw[zN]
     rfl
    ·obtain⟨o,ho⟩:∃ o,o=v / 7 % (m:Int):=⟨_,rfl⟩
     obtain⟨o',b9⟩:∃ o',o'=(o + 1 + v / 112 % ((m:Int) - 1)) % (m:Int):=⟨_,rfl⟩
     have o0:0<=o:=by rw[ho];exact zat _ (by omega)
     have o1:o < m:=by rw[ho];exact zak _ gq
     have p0:0<=o':=by rw[b9];exact zat _ (by omega)
     have p1:o' < m:=by rw[b9];exact zak _ gq
     have s0:0<=v / 112 % ((m:Int) - 1):=zat _ (by omega)
     have s1:v / 112 % ((m:Int) - 1) < (m:Int) - 1:=zak _ j3
     have ig:o≠o':=by
      have:=lQ (a:=o) (s:=1 + v / 112 % ((m:Int) - 1)) (m:=m) o0 o1 (by omega) (by omega)
      rw[b9,zb8]
      exact fun z=>this z.symm
     have j5:J9 (.int v) (.int 112)=.ok (.int (v / 112)):=DV ⟨by decide,by decide⟩
     have dL:J9 (.int v) (.int 8064)=.ok (.int (v / 8064)):=DV ⟨by decide,by decide⟩
     have ee:J9 (.int v) (.int 1008)=.ok (.int (v / 1008)):=DV ⟨by decide,by decide⟩
     have q1:EB (.int (v / 7)) (.int (m:Int))=.ok (.int o):=by rw[ho];exact AS gq
     have q2:EB (.int (v / 112)) (.int ((m:Int) - 1))=.ok (.int (v / 112 % ((m:Int) - 1))):=AS j3
     have q3:EB (.int (o + 1 + v / 112 % ((m:Int) - 1))) (.int (m:Int))=.ok (.int o'):=by rw[b9];exact AS gq
     have q4:EB (.int (v / 8064)) (.int 3)=.ok (.int (v / 8064 % 3)):=AS (by decide)
     have q5:EB (.int (v / 8064)) (.int 100)=.ok (.int (v / 8064 % 100)):=AS (by decide)
     have q6:EB (.int (v / 1008)) (.int 8)=.ok (.int (v / 1008 % 8)):=AS (by decide)
     have q8:EB (.int (v / 8064)) (.int 5)=.ok (.int (v / 8064 % 5)):=AS (by decide)
     have q9:EB (.int v) (.int 2)=.ok (.int (v % 2)):=AS (by decide)
     obtain⟨l,a6,l0⟩:=mR (a:=v / 8064 % 3) (b:=v / 8064 % 100) (g:=g) (i:=v / 1008 % 8) (by omega) (by omega) g0 (by omega) (by omega)
     obtain⟨w,v8,w0⟩:=mS (a:=v / 8064 % 5) (b:=g) (i:=v % 2) (by omega) g0 (by omega) (by omega)
     have v9:D.tup [.int o,.int o',GH l,.int w]=BI ⟨o,o',l,w⟩:=rfl
     rcases Classical.em ((0:Int) < ((rs.map BI).length:Int)) with bB|bB
     ·have og:¬ v % 7=3:=fun z=>hz ⟨bB,z⟩
      simp_arith[decide_eq_true hm,decide_eq_true bB,q7,decide_eq_false og,zF,if_false,if_true]
      apply wp_step
      ·simp_arith[d7,q1];rfl
      apply wp_step
      ·simp_arith[j5,q2,q3];rfl
      apply wp_step
      ·simp_arith[dL];rfl
      apply wp_step
      ·simp_arith[q4,q5,ee,q6,a6];rfl
      refine Bj (ρ':=[some (.val (.lst (cells.map D.int))),some (.val (.int m)),some (.own ((rs++[(⟨o,o',l,w⟩:Road)]).map BI)),some (.val (.int i)),some (.val (.int v)),some (.val (.int g)),some (.val (.int o)),some (.val (.int o')),some (.val (.int (v / 8064))),some (.val (GH l))]) (by simp_arith[q8,q9,v8,v9,if_pos cG,zN,zg,zau]) ⟨by omega,_,_,_,_,_,_,_,_,rfl,by simp;omega,fun r2 j4=>by
       rcases zy.mp j4 with h|h
       ·exact Av r2 h
       ·rw[zh.mp h];exact⟨o0,o1,p0,p1,ig,l0,w0.1,w0.2⟩⟩
     ·simp_arith[decide_eq_true hm,decide_eq_false bB,zF,if_false,if_true]
      apply wp_step
      ·simp_arith[d7,q1];rfl
      apply wp_step
      ·simp_arith[j5,q2,q3];rfl
      apply wp_step
      ·simp_arith[dL];rfl
      apply wp_step
      ·simp_arith[q4,q5,ee,q6,a6];rfl
      refine Bj (ρ':=[some (.val (.lst (cells.map D.int))),some (.val (.int m)),some (.own ((rs++[(⟨o,o',l,w⟩:Road)]).map BI)),some (.val (.int i)),some (.val (.int v)),some (.val (.int g)),some (.val (.int o)),some (.val (.int o')),some (.val (.int (v / 8064))),some (.val (GH l))]) (by simp_arith[q8,q9,v8,v9,if_pos cG,zN,zg,zau]) ⟨by omega,_,_,_,_,_,_,_,_,rfl,by simp;omega,fun r2 j4=>by
       rcases zy.mp j4 with h|h
       ·exact Av r2 h
       ·rw[zh.mp h];exact⟨o0,o1,p0,p1,ig,l0,w0.1,w0.2⟩⟩
   ·refine Bj (ρ':=_) (by simp_arith[decide_eq_false hm];rfl) ⟨by omega,rs,_,_,_,_,_,_,_,rfl,by omega,Av⟩
  ·rintro ρ ⟨_,rs,s3,s4,s5,s6,s7,s8,s9,rfl,ci,Av⟩
   rw[Bf] at ci
   exact⟨rs,s3,s4,s5,s6,s7,s8,s9,rfl,ci,Av⟩
 ·rintro ρ ⟨rs,s3,s4,s5,s6,s7,s8,s9,rfl,ci,Av⟩
  exact⟨_,rfl,rs,rfl,ci,Av⟩
noncomputable def NL:List D->M OT:=zj G1
theorem QB:Txt K mg->BV P w K mg base "_law_roads" 2 2 NL:=(zb G1).1
theorem QC:∀(cells:List Int) (m:Nat),1<=m->m<=16->cells.length<=60->(∀ c∈cells,Sm c)->∃ rs:List Road,rs.length<=cells.length/\(∀ r∈rs,Nb m r)/\NL [.lst (cells.map D.int),.int m]=.ok (.lst ((rs.map BI).map .sh)):=(zb G1).2
theorem G2:∃ F:List D->M OT,(∀ {P:Program}{w:World}{K:za}{mg:Str->Option Value}{base:Heap},Txt K mg->BV P w K mg base "_law_order" 2 2 F)/\(∀(c:Int) (m:Nat),m<=60->∃ L:List Int,L.Perm (AU m)/\F [.int c,.int m]=.ok (.lst ((L.map D.int).map .sh))):=by
 refine⟨_,fun T=>AF (k:=1) T.Sa FK _ (fun f B1 A outer s H E hr=>(A4 (BB 2 FK.nd rfl (yJ rfl) (KD FC)) (A4 (BE A9.toXCall.own rfl (Ca (c:=true) rfl T.CS (A1 1 (pv 1))) (AY 3 FK.nd rfl (yJ rfl)) (A5 (W7 2 (pv 2) (BL (Aj (Aa A9.toXCall (FV T) (hr.mono (by decide)) rfl (A2 (A1 0 (pv 0)) (A2 (BW A6 (A1 3 (pv 3))) A8)) rfl)) (BW (A1 3 (pv 3)) A6)) (A1 3 (pv 3))))) (A5 (CN 2 (pv 2)))))),?_⟩
 intro c m hm
 have e0:AI ["_law_cell","_law_many","_law_order_here","_law_place"] [.int c,.int m]=[some (.val (.int c)),some (.val (.int m)),none,none]:=rfl
 rw[e0]
 refine (fun h:∃ t,_/\∃ L:List Int,t=OT.lst ((L.map D.int).map .sh)/\L.Perm (AU m)=>by
  obtain⟨t,h1,L,rfl,h2⟩:=h
  exact⟨L,h2,h1⟩) (Lc ?_)
 have hr:=GB (n:=m) (by omega)
 apply wp_step
 ·rfl
 try simp only[zv,zo]
 refine C6 (I:=fun ρ=>∃(L:List Int) (s3:Option Cl),ρ=[some (.val (.int c)),some (.val (.int m)),some (.own (L.map D.int)),s3]/\L.Perm (AU m)) ?_ ?_
 ·simp_arith[hr]
  refine BF (fun i ρ=>i<=m/\∃(L:List Int) (s3:Option Cl),ρ=[some (.val (.int c)),some (.val (.int m)),some (.own (L.map D.int)),s3]/\L.Perm (AU i)) ⟨zW _,[],none,rfl,.refl _⟩ ?_ ?_
  ·rintro i d ρ hd ⟨_,L,s3,rfl,hL⟩
   obtain⟨aR,hi⟩:=BM hd
   rw[Int.zero_add] at aR
   subst aR
   have hlen:=GQ hL
   refine⟨_,rfl,?_⟩
   obtain⟨v,v0,hv⟩:=FX c (40 + i) (by omega) (by omega)
   have dh:EB (.int v) (.int ((i:Int) + 1))=.ok (.int (v % ((i:Int) + 1))):=AS (by omega)
   have b0:0<=v % ((i:Int) + 1):=zat _ (by omega)
   have b1:v % ((i:Int) + 1) < (i:Int) + 1:=zak _ (by omega)
   refine Bj (ρ':=[some (.val (.int c)),some (.val (.int m)),some (.own ((L.take (v % ((i:Int) + 1)).toNat++(i:Int)::L.drop (v % ((i:Int) + 1)).toNat).map D.int)),some (.val (.int i))]) ?_ ⟨by omega,_,_,rfl,Wo hL _⟩
   simp_arith[hv,dh]
   rw[if_pos ⟨b0,by rw[zc];omega,by rw[zc];omega⟩]
   simp only[zN,zg,List.map_take,List.map_drop]
   rfl
  ·rintro ρ ⟨_,L,s3,rfl,hL⟩
   exact⟨L,s3,rfl,by rw[Bf] at hL;exact hL⟩
 ·rintro ρ ⟨L,s3,rfl,hL⟩
  exact⟨_,rfl,L,rfl,hL⟩
noncomputable def NM:List D->M OT:=zj G2
theorem QD:Txt K mg->BV P w K mg base "_law_order" 2 2 NM:=(zb G2).1
theorem QE:∀(c:Int) (m:Nat),m<=60->∃ L:List Int,L.Perm (AU m)/\NM [.int c,.int m]=.ok (.lst ((L.map D.int).map .sh)):=(zb G2).2
theorem G3:∃ F:List D->M OT,(∀ {P:Program}{w:World}{K:za}{mg:Str->Option Value}{base:Heap},Txt K mg->BV P w K mg base "_law_added" 1 2 F)/\(∀ a b:Co,F [cst a,cst b]=.ok (.sh (cst (Aq a b)))):=by
 refine⟨_,fun T=>AF (k:=0) T.Sb Qn _ (fun f B1 A outer s H E hr=>(A4 (B7 (DW.dt (Ea (IB (c:=true) (A1 0 (pv 0))) (CM (IB (c:=true) (A1 1 (pv 1)))))) (A5 (Am (AZ D4))) AB) (A5 (Am (AZ (AL (A2 (BW (Ac (AR hr 16 (by decide)) (A1 0 (pv 0)) A6) (Ac (AR hr 16 (by decide)) (A1 1 (pv 1)) A6)) (A2 (BW (Ac (AR hr 16 (by decide)) (A1 0 (pv 0)) A6) (Ac (AR hr 16 (by decide)) (A1 1 (pv 1)) A6)) A8)))))))),?_⟩
 intro a b
 rcases a with _|⟨a1,a2⟩<;>rcases b with _|⟨b1,b2⟩<;>rfl
noncomputable def NO:List D->M OT:=zj G3
theorem QF:Txt K mg->BV P w K mg base "_law_added" 1 2 NO:=(zb G3).1
theorem QG:∀ a b:Co,NO [cst a,cst b]=.ok (.sh (cst (Aq a b))):=(zb G3).2
theorem G4:∃ F:List D->M OT,(∀ {P:Program}{w:World}{K:za}{mg:Str->Option Value}{base:Heap},Txt K mg->BV P w K mg base "_law_least" 1 1 F)/\(∀ cs:List Co,cs.length<=1000->F [.lst (cs.map cst)]=.ok (.sh (cst (FA cs)))):=by
 refine⟨_,fun T=>AF (k:=0) T.Sd Qo _ (fun f B1 A outer s H E hr=>(A5 (Am (AZ (Uz rfl (AR hr 1 (by decide)) rfl T.Ze (Aj (Cd (NB:=["_law_cost"]) [none] rfl (AO (A1 0 (pv 0))) rfl rfl (Bp 0 (by decide) rfl rfl rfl) (fun _ _ _ _=>Ht (LK (c:=true) (A1 0 (pv 0)))) (fun _ _ _ _=>(A1 0 (pv 0))))) D4))))),?_⟩
 intro cs hc
 have e0:∀ x:D,AI ["_law_some"] [x]=[some (.val x)]:=fun x=>rfl
 rw[e0]
 refine Bq ?_
 have hl:(cs.map cst).length<=1000:=by rw[zc];exact hc
 have xl:=Rj cs
 have qt:=UK cs
 simp_arith[if_pos hl]
 rw[GG]
 simp_arith[qt]
 rfl
noncomputable def G5:List D->M OT:=zj G4
theorem Ki:Txt K mg->BV P w K mg base "_law_least" 1 1 G5:=(zb G4).1
theorem Kj:∀ cs:List Co,cs.length<=1000->G5 [.lst (cs.map cst)]=.ok (.sh (cst (FA cs))):=(zb G4).2
theorem Hi:∃ F:List D->M OT,(∀ {P:Program}{w:World}{K:za}{mg:Str->Option Value}{base:Heap},Txt K mg->BV P w K mg base "_law_open" 1 1 F)/\(∀ r:Road,F [BI r]=.ok (.sh (cst (C5 r)))):=by
 refine⟨_,fun T=>AF (k:=0) T.U1 S2 _ (fun f B1 A outer s H E hr=>(A4 (B7 (IB (c:=true) (Ac (AR hr 16 (by decide)) (A1 0 (pv 0)) A6)) (A5 (Am (AZ D4))) AB) (A5 (Am (AZ (AL (A2 (Ac (AR hr 16 (by decide)) (A1 0 (pv 0)) A6) (A2 A6 A8)))))))),?_⟩
 intro r
 obtain⟨a,b,l,w⟩:=r
 cases l<;>rfl
noncomputable def Ph:List D->M OT:=zj Hi
theorem Ss:Txt K mg->BV P w K mg base "_law_open" 1 1 Ph:=(zb Hi).1
theorem Su:∀ r:Road,Ph [BI r]=.ok (.sh (cst (C5 r))):=(zb Hi).2
theorem G6:∃ F:List D->M OT,(∀ {P:Program}{w:World}{K:za}{mg:Str->Option Value}{base:Heap},Txt K mg->BV P w K mg base "_law_costs" 2 2 F)/\(∀(m:Nat) (rs:List Road),m<=900->rs.length<=900->(∀ r∈rs,Hu m r)->∃ ad:List (List Co),O0 m ad/\(∀ x y:Int,0<=x->x < m->0<=y->y < m->BQ rs x y (at2 ad x y))/\∃ t,F [.lst (rs.map BI),.int m]=.ok t/\er t=.lst ((AE ad).map D.lst)):=by
 refine⟨_,fun T=>AF (k:=1) T.Se Bt _ (fun f B1 A outer s H E hr=>(A4 (dJ 2 Bt.nd rfl (yJ rfl)) (A4 (BE A9.toXCall.own rfl (Ca (c:=true) rfl T.CS (A1 1 (pv 1))) (AY 3 Bt.nd rfl (yJ rfl)) (A4 (BB 5 Bt.nd rfl (yJ rfl) (Tx D4 (A1 1 (pv 1)))) (A4 (Kz 5 (pv 5) (AL (A2 A6 (A2 A6 A8))) (A1 3 (pv 3))) (A4 (BE A9.toXCall.own rfl (AO (A1 0 (pv 0))) (AY 6 Bt.nd rfl (yJ rfl)) (A5 (B7 (L7 (c:=true) (AR hr 16 (by decide)) (Ac (AR hr 16 (by decide)) (A1 6 (pv 6)) A6) (A1 3 (pv 3))) (A5 (Kz 5 (pv 5) (Aj (Ef (Aa A9.toXCall (Ki T) (hr.mono (by decide)) rfl (A2 (GA (A2 (Ac (AR hr 16 (by decide)) (A1 5 (pv 5)) (Ac (AR hr 16 (by decide)) (A1 6 (pv 6)) A6)) (A2 (Aj (Aa A9.toXCall (Ss T) (hr.mono (by decide)) rfl (A2 (A1 6 (pv 6)) A8) rfl)) A8))) A8) rfl))) (Ac (AR hr 16 (by decide)) (A1 6 (pv 6)) A6))) AB))) (A5 (dM 2 5 (pv 2) (pv 5))))))) (A4 (BE A9.toXCall.own rfl (Ca (c:=true) rfl T.CS (A1 1 (pv 1))) (AY 4 Bt.nd rfl (yJ rfl)) (A5 (BE A9.toXCall.own rfl (Ca (c:=true) rfl T.CS (A1 1 (pv 1))) (AY 3 Bt.nd rfl (yJ rfl)) (A5 (BE A9.toXCall.own rfl (Ca (c:=true) rfl T.CS (A1 1 (pv 1))) (AY 7 Bt.nd rfl (yJ rfl)) (A5 (dP 2 (pv 2) (Aj (Aa A9.toXCall (Ki T) (hr.mono (by decide)) rfl (A2 (GA (A2 (Tj 2 (pv 2) (A1 3 (pv 3)) (A1 7 (pv 7))) (A2 (Aj (Aa A9.toXCall (QF T) (hr.mono (by decide)) rfl (A2 (Tj 2 (pv 2) (A1 3 (pv 3)) (A1 4 (pv 4))) (A2 (Tj 2 (pv 2) (A1 4 (pv 4)) (A1 7 (pv 7))) A8)) rfl)) A8))) A8) rfl)) (A1 3 (pv 3)) (A1 7 (pv 7))))))))) (A5 (CN 2 (pv 2))))))),?_⟩
 intro m rs hm ci Av
 have e0:AI ["_law_roads_here","_law_many","_law_costs_here","_law_u","_law_v","_law_row","_law_road","_law_w"] [.lst (rs.map BI),.int m]=[some (.val (.lst (rs.map BI))),some (.val (.int m)),none,none,none,none,none,none]:=rfl
 rw[e0]
 refine (fun h:∃ t,_/\∃ ad:List (List Co),O0 m ad/\(∀ x y:Int,0<=x->x < m->0<=y->y < m->BQ rs x y (at2 ad x y))/\er t=.lst ((AE ad).map D.lst)=>by
  obtain⟨t,h1,ad,h2,h3,h4⟩:=h
  exact⟨ad,h2,h3,t,h1,h4⟩) (Lc ?_)
 have di:=GB (n:=m) (by omega)
 refine wp_step (ρ':=[some (.val (.lst (rs.map BI))),some (.val (.int m)),some (.ow (.rows [])),none,none,none,none,none]) rfl ?_
 refine C6 (I:=fun ρ=>∃(ad:List (List Co)) (s3 s5 s6:Option Cl),ρ=[some (.val (.lst (rs.map BI))),some (.val (.int m)),some (.ow (.rows (AE ad))),s3,none,s5,s6,none]/\ad.length=m/\∀ u:Nat,u < m->MU m rs u rs.length (ad.getD u [])) ?_ ?_
 ·simp_arith[di]
  refine BF (fun i ρ=>∃(ad:List (List Co)) (s3 s5 s6:Option Cl),ρ=[some (.val (.lst (rs.map BI))),some (.val (.int m)),some (.ow (.rows (AE ad))),s3,none,s5,s6,none]/\ad.length=i/\∀ u:Nat,u < i->MU m rs u rs.length (ad.getD u [])) ⟨[],none,none,none,rfl,rfl,fun u h=>by omega⟩ ?_ ?_
  ·rintro i d ρ hd ⟨ad,s3,s5,s6,rfl,b7,bt⟩
   obtain⟨aR,hi⟩:=BM hd
   rw[Int.zero_add] at aR
   subst aR
   refine⟨_,rfl,?_⟩
   have b8:=N7 (d:=.AA) (n:=m) (by omega)
   have cE:zw m D.AA=(zw m (none:Co)).map cst:=by rw[List.map_replicate];rfl
   rw[cE] at b8
   apply wp_step
   ·simp_arith[b8];rfl
   try simp only[zv,zo]
   have a9:=HP (i:=5) (ρ:=[some (.val (.lst (rs.map BI))),some (.val (.int m)),some (.ow (.rows (AE ad))),some (.val (.int i)),none,some (.own ((zw m (none:Co)).map cst)),s6,none]) (d:=.tup [.int 0,.int 0]) (p:=(i:Int)) rfl (by omega) (by rw[zc,zb1];omega)
   have br:((zw m (none:Co)).map cst).set (i:Int).toNat (.tup [.int 0,.int 0])=((zw m none).set i (some (0,0))).map cst:=by rw[zZ,List.map_set];rfl
   rw[br] at a9
   apply wp_step
   ·simp_arith[a9];rfl
   try simp only[zv,zo]
   refine C6 (I:=fun ρ=>∃(R:List Co) (s6:Option Cl),ρ=[some (.val (.lst (rs.map BI))),some (.val (.int m)),some (.ow (.rows (AE ad))),some (.val (.int i)),none,some (.own (R.map cst)),s6,none]/\MU m rs i rs.length R) ?_ ?_
   ·simp_arith[]
    refine BF (fun j ρ=>∃(R:List Co) (s6:Option Cl),ρ=[some (.val (.lst (rs.map BI))),some (.val (.int m)),some (.ow (.rows (AE ad))),some (.val (.int i)),none,some (.own (R.map cst)),s6,none]/\MU m rs i j R) ⟨_,s6,rfl,W4 rs hi⟩ ?_ ?_
    ·rintro j d ρ hd ⟨R,s6,rfl,g⟩
     obtain⟨r,hq,rfl⟩:=BR hd
     have hr:=zk hq
     have ok:=Av r hr
     have r0:B5 (BI r) (.int 0)=.ok (.int r.a):=rfl
     have r1:B5 (BI r) (.int 1)=.ok (.int r.b):=rfl
     have cg:r.b < R.length:=by rw[g.len];exact ok.b1
     have x1:B5 (.lst (R.map cst)) (.int r.b)=.ok (cst (atC R r.b)):=Ed ok.b0 cg
     have x5:=Su r
     have hle:G5 [.lst [cst (atC R r.b),cst (C5 r)]]=.ok (.sh (cst (DC (atC R r.b) (C5 r)))):=Kj [atC R r.b,C5 r] (by simp)
     refine⟨_,rfl,?_⟩
     by_cases hu:r.a=(i:Int)
     ·have a9:=HP (i:=5) (ρ:=[some (.val (.lst (rs.map BI))),some (.val (.int m)),some (.ow (.rows (AE ad))),some (.val (.int i)),none,some (.own (R.map cst)),some (.val (BI r)),none]) (d:=cst (DC (atC R r.b) (C5 r))) (p:=r.b) rfl ok.b0 (by rw[zc];exact cg)
      have br:(R.map cst).set r.b.toNat (cst (DC (atC R r.b) (C5 r)))=(R.set r.b.toNat (DC (atC R r.b) (C5 r))).map cst:=by rw[List.map_set]
      rw[br] at a9
      refine Bj (ρ':=[some (.val (.lst (rs.map BI))),some (.val (.int m)),some (.ow (.rows (AE ad))),some (.val (.int i)),none,some (.own ((R.set r.b.toNat (DC (atC R r.b) (C5 r))).map cst)),some (.val (BI r)),none]) (by simp_arith[r0,r1,decide_eq_true hu,x1,x5,hle,a9];rfl) ⟨_,_,rfl,Y4 g hq hu Av⟩
     ·refine Bj (ρ':=_) (by simp_arith[r0,decide_eq_false hu];rfl) ⟨_,_,rfl,Y3 g hq hu⟩
    ·rintro ρ ⟨R,s6,rfl,g⟩
     rw[zc] at g
     exact⟨R,s6,rfl,g⟩
   ·rintro ρ ⟨R,s6,rfl,g⟩
    have hl:(AE ad).length < 1000/\2≠5:=⟨by unfold AE;rw[zc];omega,by decide⟩
    refine Bj (ρ':=[some (.val (.lst (rs.map BI))),some (.val (.int m)),some (.ow (.rows (AE (ad++[R])))),some (.val (.int i)),none,none,s6,none]) ?_ ⟨_,_,_,_,rfl,by simp[b7],fun u hu=>?_⟩
    ·simp only[XW,zav,zT,if_pos hl,zv,zo]
     unfold AE
     rw[zN]
     rfl
    ·by_cases h:u=i
     ·subst h
      have e:(ad++[R]).getD u []=R:=by rw[zD,zai (by omega)];simp[b7]
      rw[e];exact g
     ·have e:(ad++[R]).getD u []=ad.getD u []:=by rw[zD,za0 (by omega),zD]
      rw[e];exact bt u (by omega)
  ·rintro ρ ⟨ad,s3,s5,s6,rfl,b7,bt⟩
   rw[Bf] at b7 bt
   exact⟨ad,s3,s5,s6,rfl,b7,bt⟩
 rintro ρ ⟨ad,s3,s5,s6,rfl,b7,bt⟩
 have hM:O0 m ad:=⟨b7,fun R hR=>by
  obtain⟨u,hu,e⟩:=List.getElem_of_mem hR
  have:=(bt u (by omega)).len
  rw[zD,zt hu] at this
  rw[<-e];exact this⟩
 have hF:=Y5 hM Av bt
 refine C6 (I:=fun ρ=>∃(ad:List (List Co)) (s3 s4 s5 s6 s7:Option Cl),ρ=[some (.val (.lst (rs.map BI))),some (.val (.int m)),some (.ow (.rows (AE ad))),s3,s4,s5,s6,s7]/\O0 m ad/\FW m m rs (at2 ad)) ?_ ?_
 ·simp_arith[di]
  refine BF (fun k ρ=>∃(ad:List (List Co)) (s3 s4 s5 s6 s7:Option Cl),ρ=[some (.val (.lst (rs.map BI))),some (.val (.int m)),some (.ow (.rows (AE ad))),s3,s4,s5,s6,s7]/\O0 m ad/\FW m k rs (at2 ad)) ⟨ad,s3,none,s5,s6,none,rfl,hM,hF⟩ ?_ ?_
  ·rintro k d ρ hd ⟨a5,s3,s4,s5,s6,s7,rfl,x6,j6⟩
   obtain⟨aR,hk⟩:=BM hd
   rw[Int.zero_add] at aR
   subst aR
   refine⟨_,rfl,?_⟩
   have k0:(0:Int)<=k:=by omega
   have k1:(k:Int) < m:=by omega
   have oc:=Rm j6 hk
   have orr:=Ro j6 hk
   simp_arith[di]
   refine BF (fun u ρ=>∃(ad:List (List Co)) (s3 s5 s6 s7:Option Cl),ρ=[some (.val (.lst (rs.map BI))),some (.val (.int m)),some (.ow (.rows (AE ad))),s3,some (.val (.int k)),s5,s6,s7]/\O0 m ad/\∀ x y:Int,0<=x->x < m->0<=y->y < m->at2 ad x y=if x < u then over k (at2 a5) x y else at2 a5 x y) ⟨a5,s3,s5,s6,s7,rfl,x6,fun x y h0 h1 h2 h3=>by rw[if_neg (by omega)]⟩ ?_ ?_
   ·rintro u d ρ hd ⟨bN,s3,s5,s6,s7,rfl,gu,l6⟩
    obtain⟨aR,hu⟩:=BM hd
    rw[Int.zero_add] at aR
    subst aR
    have u0:(0:Int)<=u:=by omega
    have u1:(u:Int) < m:=by omega
    refine⟨_,rfl,?_⟩
    simp_arith[di]
    refine BF (fun w ρ=>∃(ad:List (List Co)) (s5 s6 s7:Option Cl),ρ=[some (.val (.lst (rs.map BI))),some (.val (.int m)),some (.ow (.rows (AE ad))),some (.val (.int u)),some (.val (.int k)),s5,s6,s7]/\O0 m ad/\∀ x y:Int,0<=x->x < m->0<=y->y < m->at2 ad x y=if x < u\/(x=u/\y < w) then over k (at2 a5) x y else at2 a5 x y) ⟨bN,s5,s6,s7,rfl,gu,fun x y h0 h1 h2 h3=>by
     rw[l6 x y h0 h1 h2 h3]
     by_cases h:x < u
     ·rw[if_pos h,if_pos (.inl h)]
     ·rw[if_neg h,if_neg (by omega)]⟩ ?_ ?_
    ·rintro w d ρ hd ⟨aX,s5,s6,s7,rfl,gw,gx⟩
     obtain⟨aR,hw⟩:=BM hd
     rw[Int.zero_add] at aR
     subst aR
     have w0:(0:Int)<=w:=by omega
     have w1:(w:Int) < m:=by omega
     have a1:at2 aX u w=at2 a5 u w:=by rw[gx u w u0 u1 w0 w1,if_neg (by omega)]
     have a2:at2 aX u k=at2 a5 u k:=by
      rw[gx u k u0 u1 k0 k1]
      split
      ·exact oc u
      ·rfl
     have a3:at2 aX k w=at2 a5 k w:=by
      rw[gx k w k0 k1 w0 w1]
      split
      ·exact orr w
      ·rfl
     obtain⟨x8,hP⟩:=gw.put u0 u1 w0 w1 (over k (at2 a5) u w)
     obtain⟨R0,yH⟩:∃ R0:Ab,R0=[some (.val (.lst (rs.map BI))),some (.val (.int m)),some (.ow (.rows (AE aX))),some (.val (.int u)),some (.val (.int k)),s5,s6,some (.val (.int w))]:=⟨_,rfl⟩
     have c1:=TR (ρ:=[some (.val (.lst (rs.map BI))),some (.val (.int m)),some (.ow (.rows (AE aX))),some (.val (.int u)),some (.val (.int k)),s5,s6,some (.val (.int w))]) (i:=2) rfl gw u0 u1 w0 w1
     have c2:=TR (ρ:=[some (.val (.lst (rs.map BI))),some (.val (.int m)),some (.ow (.rows (AE aX))),some (.val (.int u)),some (.val (.int k)),s5,s6,some (.val (.int w))]) (i:=2) rfl gw u0 u1 k0 k1
     have c3:=TR (ρ:=[some (.val (.lst (rs.map BI))),some (.val (.int m)),some (.ow (.rows (AE aX))),some (.val (.int u)),some (.val (.int k)),s5,s6,some (.val (.int w))]) (i:=2) rfl gw k0 k1 w0 w1
     rw[a1] at c1
     rw[a2] at c2
     rw[a3] at c3
     have qx:=QG (at2 a5 u k) (at2 a5 k w)
     have hle:G5 [.lst [cst (at2 a5 u w),cst (Aq (at2 a5 u k) (at2 a5 k w))]]=.ok (.sh (cst (over k (at2 a5) u w))):=Kj [at2 a5 u w,Aq (at2 a5 u k) (at2 a5 k w)] (by simp)
     have pj:=gD (ρ:=[some (.val (.lst (rs.map BI))),some (.val (.int m)),some (.ow (.rows (AE aX))),some (.val (.int u)),some (.val (.int k)),s5,s6,some (.val (.int w))]) (i:=2) (v:=over k (at2 a5) u w) rfl gw u0 u1 w0 w1
     refine⟨_,rfl,?_⟩
     refine Bj (ρ':=[some (.val (.lst (rs.map BI))),some (.val (.int m)),some (.ow (.rows (AE (put2 aX u w (over k (at2 a5) u w))))),some (.val (.int u)),some (.val (.int k)),s5,s6,some (.val (.int w))]) (by simp_arith[c1,c2,c3,qx,hle,pj]) ⟨_,_,_,_,rfl,x8,fun x y h0 h1 h2 h3=>?_⟩
     rw[hP x y h0 h2]
     by_cases h:x=u/\y=w
     ·rw[if_pos h,if_pos (by omega),h.1,h.2]
     ·rw[if_neg h,gx x y h0 h1 h2 h3]
      by_cases h':x < u\/(x=u/\y < w)
      ·rw[if_pos h',if_pos (by omega)]
      ·rw[if_neg h',if_neg (by omega)]
    ·rintro ρ ⟨aX,s5,s6,s7,rfl,gw,gx⟩
     rw[Bf] at gx
     refine⟨aX,_,_,_,_,rfl,gw,fun x y h0 h1 h2 h3=>?_⟩
     rw[gx x y h0 h1 h2 h3]
     by_cases h:x < u\/(x=u/\y < m)
     ·rw[if_pos h,if_pos (by omega)]
     ·rw[if_neg h,if_neg (by omega)]
   ·rintro ρ ⟨bN,s3,s5,s6,s7,rfl,gu,l6⟩
    rw[Bf] at l6
    refine⟨bN,_,_,_,_,_,rfl,gu,(Y2 j6 hk).congr (by omega) Av fun x y h0 h1 h2 h3=>?_⟩
    rw[l6 x y h0 h1 h2 h3,if_pos h1]
  ·rintro ρ ⟨bN,s3,s4,s5,s6,s7,rfl,gu,il⟩
   rw[Bf] at il
   exact⟨bN,s3,s4,s5,s6,s7,rfl,gu,il⟩
 ·rintro ρ ⟨bN,s3,s4,s5,s6,s7,rfl,gu,il⟩
  refine⟨_,rfl,bN,gu,fun x y h0 h1 h2 h3=>lC il Av h0 h1 h2 h3,?_⟩
  rw[er,Uq,yM]
  congr 1
  refine List.map_congr_left fun R _=>?_
  dsimp only [Function.comp]
  rw[KH]
noncomputable def NP:List D->M OT:=zj G6
theorem QH:Txt K mg->BV P w K mg base "_law_costs" 2 2 NP:=(zb G6).1
theorem QI:∀(m:Nat) (rs:List Road),m<=900->rs.length<=900->(∀ r∈rs,Hu m r)->∃ ad:List (List Co),O0 m ad/\(∀ x y:Int,0<=x->x < m->0<=y->y < m->BQ rs x y (at2 ad x y))/\∃ t,NP [.lst (rs.map BI),.int m]=.ok t/\er t=.lst ((AE ad).map D.lst):=(zb G6).2
theorem Ua:∃ F:List D->M D,(∀ {P:Program}{w:World}{K:za}{mg:Str->Option Value}{base:Heap}{f:Addr}{fd:FuncData},Txt K mg->WL K "law" "law" Gb f fd->Ds P w K mg base ZN 8 f fd ["_law_script"] (Te K 1 F))/\(∀ ns:List Int,ns.length<=63->(∀ n∈ns,Sm n)->F [.lst (ns.map D.int)]=.ok (.bl true)):=by
 refine⟨_,fun {P w K mg base f fd} T F=>pU (k:=7) F El _ (fun B1 A outer s H E hr=>(A4 (B3 1 El.nd rfl (yJ rfl) (Aj (BO (Aa (Bg rfl).toXCall (FV T) (hr.mono (by decide)) rfl (A2 (Aj (Aa (Bg rfl).toXCall (Ex T) (hr.mono (by decide)) rfl (A2 (A1 0 (pv 0)) (A2 A6 A8)) rfl)) (A2 A6 A8)) rfl)))) (A4 (B3 2 El.nd rfl (yJ rfl) (Ac (AR hr 16 (by decide)) (GA (A2 (BW A6 (BL (A1 1 (pv 1)) A6)) (A2 (BW A6 (BL (A1 1 (pv 1)) A6)) A8))) (dE rfl T.Zd (gZ (AR hr 16 (by decide)) (BL (Fx (A1 1 (pv 1)) A6) A6) A6)))) (A4 (B3 3 El.nd rfl (yJ rfl) (Aj (BO (Aa (Bg rfl).toXCall (QB T) (hr.mono (by decide)) rfl (A2 (Aj (N3 (A1 0 (pv 0)) (LL A6) (LL A6))) (A2 (A1 2 (pv 2)) A8)) rfl)))) (A4 (B7 (L7 (c:=true) (AR hr 16 (by decide)) (BL (Fx (A1 1 (pv 1)) A6) A6) A6) (A5 (B3 6 El.nd rfl (yJ rfl) (Aj (BO (YN (Bg rfl).toXCall (Et T) (hr.mono (by decide)) rfl (A2 (AL (A2 (A1 2 (pv 2)) (A2 (Aj (Jo rfl T.F5 (A1 3 (pv 3)))) A8))) A8) rfl))))) (A5 (B3 6 El.nd rfl (yJ rfl) (Aj (BO (fN (Bg rfl).toXCall (Et T).xB (hr.mono (by decide)) rfl (A2 (AL (A2 (A1 2 (pv 2)) (A2 (Aj (Jo rfl T.F5 (A1 3 (pv 3)))) A8))) (A2 (Aj (Aa (Bg rfl).toXCall (QD T) (hr.mono (by decide)) rfl (A2 (Aj (Aa (Bg rfl).toXCall (Ex T) (hr.mono (by decide)) rfl (A2 (A1 0 (pv 0)) (A2 A6 A8)) rfl)) (A2 (A1 2 (pv 2)) A8)) rfl)) A8)) rfl)))))) (A4 (B3 4 El.nd rfl (yJ rfl) (Aj (BO (Aa (Bg rfl).toXCall (QH T) (hr.mono (by decide)) rfl (A2 (A1 3 (pv 3)) (A2 (A1 2 (pv 2)) A8)) rfl)))) (A4 (BE PassesOwn.never rfl (Ca (c:=true) rfl T.CS A6) (AY 5 El.nd rfl (yJ rfl)) (A4 (B3 7 El.nd rfl (Or.inr rfl) (BL (Aj (BO (Aa (Bg rfl).toXCall (FV T) (hr.mono (by decide)) rfl (A2 (Aj (Aa (Bg rfl).toXCall (Ex T) (hr.mono (by decide)) rfl (A2 (A1 0 (pv 0)) (A2 A6 A8)) rfl)) (A2 (BW A6 (A1 5 (pv 5))) A8)) rfl))) (A1 2 (pv 2)))) (A4 (BB 8 El.nd rfl (yJ rfl) (BO (Aa (Bg rfl).toXCall (Ke T) (hr.mono (by decide)) rfl (A2 (A1 6 (pv 6)) (A2 (A1 7 (pv 7)) A8)) rfl))) (A4 (B7 (IG (DW.dt (Ea (Ck (BX (c:=true) (Aj (BO (Aa (Bg rfl).toXCall (Fn T) (hr.mono (by decide)) rfl (A2 (A1 8 (pv 8)) (A2 (A1 2 (pv 2)) A8)) rfl))))) (CM (G7 (c:=true) (AR hr 16 (by decide)) (A1 8 (pv 8)) (Ac (AR hr 16 (by decide)) (A1 4 (pv 4)) (A1 7 (pv 7)))))))) (A5 (MF (Ks CF))) AB) (A4 (Yh (BP 8 (pv 8))) (A4 (B7 (DW.dt (IC (L7 (c:=true) (AR hr 16 (by decide)) (A1 5 (pv 5)) A6) (Ho (G7 (c:=true) (AR hr 16 (by decide)) (Aj (BO (Aa (Bg rfl).toXCall (Ke T) (hr.mono (by decide)) rfl (A2 (A1 6 (pv 6)) (A2 (A1 7 (pv 7)) A8)) rfl))) (Ac (AR hr 16 (by decide)) (A1 4 (pv 4)) (A1 7 (pv 7))))))) (A5 (MF (Ks CF))) AB) (A4 (BB 8 El.nd rfl (yJ rfl) (BO (Aa (Bg rfl).toXCall (Ll T) (hr.mono (by decide)) rfl (A2 (A1 6 (pv 6)) (A2 (A1 7 (pv 7)) A8)) rfl))) (A4 (B7 (IG (DW.dt (Ea (Ck (BX (c:=true) (Aj (BO (Aa (Bg rfl).toXCall (Fn T) (hr.mono (by decide)) rfl (A2 (A1 8 (pv 8)) (A2 (A1 2 (pv 2)) A8)) rfl))))) (CM (G7 (c:=true) (AR hr 16 (by decide)) (A1 8 (pv 8)) (Aj (Cd (NB:=["_law_row","_law_place"]) [none,some 7] rfl (AO (A1 4 (pv 4))) rfl rfl (Bp 0 (by decide) rfl rfl rfl) (fun _ _ _ _=>Df) (fun _ _ _ _=>(Ac (AR hr 16 (by decide)) (A1 0 (pv 0)) (A1 1 (pv 1))))))))))) (A5 (MF (Ks CF))) AB) (A4 (Kz 8 (pv 8) D4 (A1 7 (pv 7))) (A5 (B7 (DW.dt (IC (L7 (c:=true) (AR hr 16 (by decide)) (A1 5 (pv 5)) A6) (Ho (G7 (c:=true) (AR hr 16 (by decide)) (Aj (BO (Aa (Bg rfl).toXCall (Ll T) (hr.mono (by decide)) rfl (A2 (A1 6 (pv 6)) (A2 (A1 7 (pv 7)) A8)) rfl))) (Aj (Cd (NB:=["_law_row","_law_place"]) [none,some 7] rfl (AO (A1 4 (pv 4))) rfl rfl (Bp 0 (by decide) rfl rfl rfl) (fun _ _ _ _=>Df) (fun _ _ _ _=>(Ac (AR hr 16 (by decide)) (A1 0 (pv 0)) (A1 1 (pv 1)))))))))) (A5 (MF (Ks CF))) AB))))))))))) (A5 (MF (Ks CF)))))))))),?_⟩
 intro ns i7 bC
 have e0:AI ["_law_script","_law_first","_law_many","_law_roads_here","_law_costs_here","_law_k","_law_ladder","_law_place","_law_found"] [.lst (ns.map D.int)]=[some (.val (.lst (ns.map D.int))),none,none,none,none,none,none,none,none]:=rfl
 rw[e0]
 refine qM ?_
 obtain⟨z0,yI,j6⟩:=Ey ns 0 bC
 obtain⟨z1,bB,il⟩:=Ey ns 1 bC
 obtain⟨z2,og,x9⟩:=Ey ns 2 bC
 have re:CV [.lst (ns.map D.int),.int 0]=.ok (.sh (.int z0)):=j6
 have rf:CV [.lst (ns.map D.int),.int 1]=.ok (.sh (.int z1)):=il
 have rh:CV [.lst (ns.map D.int),.int 2]=.ok (.sh (.int z2)):=x9
 obtain⟨v,v0,hv⟩:=FX z0 0 (by decide) (by decide)
 have q1:EB (.int v) (.int 6)=.ok (.int (v % 6)):=AS (by decide)
 have q2:EB (.int v) (.int 10)=.ok (.int (v % 10)):=AS (by decide)
 have q3:J9 (.int v) (.int 77)=.ok (.int (v / 77)):=DV ⟨by decide,by decide⟩
 have q4:EB (.int (v / 77)) (.int 8)=.ok (.int (v / 77 % 8)):=AS (by decide)
 have q5:J9 (.int v) (.int 6)=.ok (.int (v / 6)):=DV ⟨by decide,by decide⟩
 have q6:EB (.int (v / 6)) (.int 3)=.ok (.int (v / 6 % 3)):=AS (by decide)
 obtain⟨m,dh,bZ,j7⟩:∃ m:Nat,1<=m/\m<=16/\((UE [.bl (decide (v / 77 % 8=3))]).bind fun y=>B5 (.lst [.int (1 + v % 6),.int (7 + v % 10)]) y)=.ok (.int m):=by
  by_cases h:v / 77 % 8=3
  ·refine⟨(7 + v % 10).toNat,by omega,by omega,?_⟩
   rw[decide_eq_true h,show (((7 + v % 10).toNat:Nat):Int)=7 + v % 10 by omega]
   rfl
  ·refine⟨(1 + v % 6).toNat,by omega,by omega,?_⟩
   rw[decide_eq_false h,show (((1 + v % 6).toNat:Nat):Int)=1 + v % 6 by omega]
   rfl
 have gq:(0:Int) < (m:Int):=by omega
 apply wp_step
 ·simp_arith[re,hv];rfl
 try simp only[zv,zo]
 apply wp_step
 ·simp_arith[q1,q2,q3,q4,j7];rfl
 try simp only[zv,zo]
 have sl:eK (some 3) (some 27) (.lst (ns.map D.int))=.ok (.lst ((((ns.drop 3).take 24).map D.int).map .sh)):=by rw[List.map_take,List.map_drop];exact fB _ 3 27
 obtain⟨rs,ci,gf,xC⟩:=QC ((ns.drop 3).take 24) m dh bZ (by rw[yY];omega) fun c hc=>bC c (List.mem_of_mem_drop (yR hc))
 have j8:rs.length<=60:=by rw[yY] at ci;omega
 have rj:∀ r∈rs,Hu m r:=fun r hr=>(gf r hr).vI.1
 apply wp_step
 ·simp_arith[sl,xC];rfl
 try simp only[zv,zo]
 obtain⟨Lo,xD,xE⟩:=QE z1 m (by omega)
 have nn:D.tup [.int m,.lst (rs.map BI)]=As m rs:=rfl
 refine C6 (I:=fun ρ=>∃(L:List Int) (A:LA) (K:List (Int×Int)),ρ=[some (.val (.lst (ns.map D.int))),some (.val (.int v)),some (.val (.int m)),some (.val (.lst (rs.map BI))),none,none,some (.val (Ba m rs L A K)),none,none]/\Cs m rs L A K) ?_ ?_
 ·by_cases c1:v / 6 % 3=1
  ·obtain⟨A,K,ok,t,hI,hE⟩:=Eu m rs .AA (Sy m (BA rs) (AU m)) dh bZ j8 gf (RY m _ _ (Fi m)) (.inr ⟨rfl,rfl⟩)
   have rn:P6 (Ci (.ins "Ladder" [] []) ([As m rs]++[.AA]))=.ok t:=by
    rw[show [As m rs]++[D.AA]=[As m rs,.AA] from rfl,hI];rfl
   refine Bj (ρ':=[some (.val (.lst (ns.map D.int))),some (.val (.int v)),some (.val (.int m)),some (.val (.lst (rs.map BI))),none,none,some (.val (Ba m rs (Sy m (BA rs) (AU m)) A K)),none,none]) (by simp_arith[q5,q6,decide_eq_true c1,nn,rn,hE];try rfl) ⟨_,A,K,rfl,ok⟩
  ·obtain⟨A,K,ok,t,hI,hE⟩:=Eu m rs (.lst (Lo.map D.int)) Lo dh bZ j8 gf xD (.inl rfl)
   have rn:P6 (Ci (.ins "Ladder" [] []) [As m rs,.lst (Lo.map D.int)])=.ok t:=by rw[hI];rfl
   refine Bj (ρ':=[some (.val (.lst (ns.map D.int))),some (.val (.int v)),some (.val (.int m)),some (.val (.lst (rs.map BI))),none,none,some (.val (Ba m rs Lo A K)),none,none]) (by simp_arith[q5,q6,decide_eq_false c1,rf,xE,nn,rn,hE];try rfl) ⟨_,A,K,rfl,ok⟩
 rintro ρ ⟨L,A,K,rfl,ok⟩
 obtain⟨ad,hM,hA,tc,xF,xG⟩:=QI m rs (by omega) (by omega) rj
 have bt:∀ s:Int,0<=s->s < m->B5 (.lst ((AE ad).map D.lst)) (.int s)=.ok (.lst ((ad.getD s.toNat []).map cst)):=fun s h0 h1=>by
  have e:=(hM.get h0 h1).1
  have e2:(AE ad)[s.toNat]? =some ((ad.getD s.toNat []).map cst):=by unfold AE;rw[zH,e];rfl
  exact Jk h0 e2
 apply wp_step
 ·simp_arith[xF,xG];rfl
 try simp only[zv,zo]
 have hr:Td (.int 3)=.ok (Cm 0 3):=GB (n:=3) (by omega)
 refine C6 (I:=fun ρ=>∃(s5 s7 s8:Option Cl),ρ=[some (.val (.lst (ns.map D.int))),some (.val (.int v)),some (.val (.int m)),some (.val (.lst (rs.map BI))),some (.val (.lst ((AE ad).map D.lst))),s5,some (.val (Ba m rs L A K)),s7,s8]) ?_ ?_
 ·simp_arith[hr]
  refine BF (fun i ρ=>∃(s5 s7 s8:Option Cl),ρ=[some (.val (.lst (ns.map D.int))),some (.val (.int v)),some (.val (.int m)),some (.val (.lst (rs.map BI))),some (.val (.lst ((AE ad).map D.lst))),s5,some (.val (Ba m rs L A K)),s7,s8]) ⟨none,none,none,rfl⟩ ?_ ?_
  ·rintro i d ρ hd ⟨s5,s7,s8,rfl⟩
   obtain⟨aR,hi⟩:=BM hd
   rw[Int.zero_add] at aR
   subst aR
   refine⟨_,rfl,?_⟩
   obtain⟨p,p0,hp⟩:=FX z2 (30 + i) (by omega) (by omega)
   have q7:EB (.int p) (.int (m:Int))=.ok (.int (p % m)):=AS gq
   obtain⟨s,hs⟩:∃ s:Nat,(s:Int)=p % m:=⟨(p % m).toNat,by have:=zat p (b:=(m:Int)) (by omega);omega⟩
   have j9:s < m:=by have:=zak p gq;omega
   rw[<-hs] at q7
   obtain⟨T1,g1,l1,t1⟩:=Qu m rs L A K s ok j9
   obtain⟨T2,g2,l2,t2⟩:=Sj m rs L A K s ok j9
   have r1:=mT hM hA (s:=(s:Int)) (by omega) (by omega) l1 t1
   have r2:=mU hM hA (s:=(s:Int)) (by omega) (by omega) l2 t2
   have a1:=Fo T1 m l1 (by omega)
   have a2:=Fo T2 m l2 (by omega)
   have i1:=bt s (by omega) (by omega)
   rw[<-r1] at i1
   have n1:=Rg (Vj T1)
   have n2:=Rg (Vj T2)
   have rq:((AE ad).map D.lst).length<=1000:=by unfold AE;rw[zc,zc,hM.len];omega
   have kc:ad.map (fun R=>cst (atC R (s:Int)))=T2.map cst:=by rw[r2,yM];rfl
   have gy:(AE ad).map D.lst=ad.map fun R=>D.lst (R.map cst):=by unfold AE;rw[yM];rfl
   have ke:∀ R∈ad,B5 (.lst (R.map cst)) (.int (s:Int))=.ok (cst (atC R s)):=fun R hR=>Ed (by omega) (by rw[hM.row R hR];omega)
   apply wp_step
   ·simp_arith[rh,hp,q7];rfl
   try simp only[zv,zo]
   apply wp_step
   ·simp_arith[g1];rfl
   try simp only[zv,zo]
   apply wp_step
   ·simp_arith[a1,i1,n1,F0];rfl
   refine wp_step (ρ':=[some (.val (.lst (ns.map D.int))),some (.val (.int v)),some (.val (.int m)),some (.val (.lst (rs.map BI))),some (.val (.lst ((AE ad).map D.lst))),some (.val (.int i)),some (.val (Ba m rs L A K)),some (.val (.int s)),some (.own [])]) (by simp_arith[];try rfl) ?_
   refine wp_step (ρ':=[some (.val (.lst (ns.map D.int))),some (.val (.int v)),some (.val (.int m)),some (.val (.lst (rs.map BI))),some (.val (.lst ((AE ad).map D.lst))),some (.val (.int i)),some (.val (Ba m rs L A K)),some (.val (.int s)),some (.own [])]) (by
    by_cases hk:(i:Int)=0
    ·simp_arith[decide_eq_true hk,g1,i1,n1];rfl
    ·simp_arith[decide_eq_false hk];try rfl) ?_
   apply wp_step
   ·simp_arith[g2];rfl
   try simp only[zv,zo]
   have kg:(ad.map fun R=>D.lst (R.map cst)).length<=1000:=by rw[<-gy];exact rq
   refine wp_step (ρ':=[some (.val (.lst (ns.map D.int))),some (.val (.int v)),some (.val (.int m)),some (.val (.lst (rs.map BI))),some (.val (.lst ((AE ad).map D.lst))),some (.val (.int i)),some (.val (Ba m rs L A K)),some (.val (.int s)),some (.own (T2.map cst))]) (by
    simp_arith[a2,gy,if_pos kg]
    rw[C7 (fun R=>cst (atC R (s:Int))) (fun R hR=>⟨_,rfl,rfl,by
     have hc:=ke R hR
     simp_arith[hc]⟩)]
    rw[kc]
    simp_arith[n2,F0]
    try rfl) ?_
   have a9:=HP (i:=8) (ρ:=[some (.val (.lst (ns.map D.int))),some (.val (.int v)),some (.val (.int m)),some (.val (.lst (rs.map BI))),some (.val (.lst ((AE ad).map D.lst))),some (.val (.int i)),some (.val (Ba m rs L A K)),some (.val (.int s)),some (.own (T2.map cst))]) (d:=.AA) (p:=(s:Int)) rfl (by omega) (by rw[zc,l2];omega)
   apply wp_step
   ·simp_arith[a9];rfl
   try simp only[zv,zo]
   refine Bj (ρ':=[some (.val (.lst (ns.map D.int))),some (.val (.int v)),some (.val (.int m)),some (.val (.lst (rs.map BI))),some (.val (.lst ((AE ad).map D.lst))),some (.val (.int i)),some (.val (Ba m rs L A K)),some (.val (.int s)),some (.own ((T2.map cst).set (s:Int).toNat .AA))]) (by
    by_cases hk:(i:Int)=0
    ·simp_arith[decide_eq_true hk,g2,gy,if_pos kg]
     rw[C7 (fun R=>cst (atC R (s:Int))) (fun R hR=>⟨_,rfl,rfl,by
      have hc:=ke R hR
      simp_arith[hc]⟩)]
     rw[kc]
     simp_arith[n2]
     rfl
    ·simp_arith[decide_eq_false hk];try rfl) ⟨_,_,_,rfl⟩
  ·rintro ρ ⟨s5,s7,s8,rfl⟩
   exact⟨s5,s7,s8,rfl⟩
 ·rintro ρ ⟨s5,s7,s8,rfl⟩
  rfl
noncomputable def Zk:List D->M D:=zj Ua
theorem mY {P:Program}{w:World}{K:za}{mg:Str->Option Value}{base:Heap}{f:Addr}{fd:FuncData}:Txt K mg->WL K "law" "law" Gb f fd->Ds P w K mg base ZN 8 f fd ["_law_script"] (Te K 1 Zk):=(zb Ua).1
theorem mZ:∀ ns:List Int,ns.length<=63->(∀ n∈ns,Sm n)->Zk [.lst (ns.map D.int)]=.ok (.bl true):=(zb Ua).2
theorem all_mk {l:PySem.W.OpenLaw}{w:World}{K:za}{h:Heap}{mg:Str->Option Value}{fa:Addr}(X:K.In h) (G:h.Ns mainGlobals mg) (xH:mg "law" = some (.ref fa))
 {ae:Addr} {l7:Addr} {rz gz:Option Addr} {r6:Array (Option Value)} {r9 g7 g8 g9 dk h7:Value} {dl:Addr} {to28:Value} {se:Option Addr} {sf:Nat} {sg:Array (Option Value)} {so:Addr} {sq kh:Option Addr} {sr:Array (Option Value)} {ss ko kr kt h8 ku:Value} {bS:Addr} {bT:Addr} {bg:Addr}
 (ah:zd K mainGlobals "Ladder" = some (some (.ref ae))) (aK:zb9 K ae Str.empty=true) (aL:PySem.W.hasDictIn K ae=true) (aM:PySem.W.plainOver K ae=true) (aN:zl K (.ref ae) "__setattr__" = some (some (.builtin "object.__setattr__"))) (aO:PySem.W.makesIn K ae=true) (aP:zR K (.ref ae)=true)
 (p1:FP K "is_whole_below" Ce)
 (p2:FP K "is_measure" DF)
 (p3:FP K "is_road" HX)
 (p4:FP K "is_map" K8)
 (p5:FP K "checked" HY)
 (p6:FP K "added" Mf)
 (p7:FP K "least" Mg)
 (p8:FP K "road_cost" EI)
 (p9:FP K "kept_costs" DH)
 (su:FP K "kept_costs_turned" BC)
 (sv:FP K "climbed" HZ)
 (sw:FP K "swept" Mh)
 (sx:FP K "costs_out" EJ)
 (sy:FP K "costs_in" FG)
 (sB:FP K "cost_so_far" Dh)
 (sK:FP K "lay" Vm)
 (tf:FP K "lay_over" FH)
 (tj:FP K "laid_arcs" EL)
 (tm:FP K "is_order" FI)
 (tq:FP K "checked_order" Cv)
 (tu:FP K "first_bows" DJ)
 (tw:FP K "missing_bows" CP)
 (tz:FP K "lightest" FJ)
 (t5:FP K "ranked" K9)
 (t6:FP K "costs_from" DK)
 (t7:FP K "order_or_ranked" C1)
 (t8:FP K "kept_arcs" EM)
 (t9:MP K ae "order" "Ladder.order" CQ)
 (tY:MP K ae "checked_arc" "Ladder.checked_arc" Bs)
 (tZ:MP K ae "cost" "Ladder.cost" Di)
 (ub:MP K ae "kept" "Ladder.kept" Dj)
 (uc:FP K "_law_cell_at" Dk)
 (ue:FP K "_law_mix" I0)
 (uf:FP K "_law_great" EN)
 (ug:FP K "_law_whole" EO)
 (uh:FP K "_law_is_cost" Dl)
 (ui:FP K "_law_are_costs" Cw)
 (uj:FP K "_law_roads" EQ)
 (uk:FP K "_law_order" ER)
 (ul:FP K "_law_added" ES)
 (um:FP K "_law_least" ET)
 (uo:FP K "_law_open" FL)
 (up:FP K "_law_costs" EU)
 (uq:zl K (.ref ae) "__init__" = some (some (.ref l7))) (ur:zba K (.ref l7)=true)
 (ut:K.lookup l7=some ⟨r9,rz,.func (zU "__init__" "Ladder.__init__" (AQ Ap) (AD Ap) (A3 Ap) (.ref dl) g7 g8 g9 gz dk h7),r6⟩) (uu:yO K dk "Ladder.__init__" = true) (uv:zR K (.ref l7)=true)
 (dn:K.lookup dl=some ⟨to28,se,.seq #[.none] sf,sg⟩)
 (l8:zd K mainGlobals "law" = some (some (.ref so)))
 (uw:K.lookup so=some ⟨ss,sq,.func (zU "law" "law" (AQ Gb) (AD Gb) (A3 Gb) .none ko kr kt kh h8 ku),sr⟩) (ux:yO K h8 "law" = true) (uz:zR K (.ref so)=true)
 (z1:zd K mainGlobals "all" = some none)
 (z2:zd K mainGlobals "bool" = some none)
 (z3:zd K mainGlobals "dict" = some none)
 (z4:zd K mainGlobals "enumerate" = some none)
 (z5:zd K mainGlobals "int" = some none)
 (z6:zd K mainGlobals "isinstance" = some none)
 (z7:zd K mainGlobals "len" = some none)
 (z8:zd K mainGlobals "list" = some none)
 (z9:zd K mainGlobals "min" = some none)
 (u3:zd K mainGlobals "range" = some none)
 (u4:zd K mainGlobals "reversed" = some none)
 (u5:zd K mainGlobals "sorted" = some none)
 (u6:zd K mainGlobals "tuple" = some none)
 (aS:zd K mainGlobals "NoArc" = some (some (.ref bS)))
 (aT:zd K mainGlobals "NoMap" = some (some (.ref bT)))
 (aD:zd K mainGlobals "NoOrder" = some (some (.ref bg)))
 (bu:zag K bS [.type "ValueError",.type "Exception",.type "BaseException",.type "object"] "ValueError.__new__" = true)
 (bv:zag K bT [.type "ValueError",.type "Exception",.type "BaseException",.type "object"] "ValueError.__new__" = true)
 (aQ:zag K bg [.type "ValueError",.type "Exception",.type "BaseException",.type "object"] "ValueError.__new__" = true)
 (am:zl K (.ref ae) "kept_ones" = some none)
 (az:zl K (.ref ae) "laid" = some none)
 (au:zl K (.ref ae) "own_map" = some none)
 (ao:zl K (.ref ae) "own_order" = some none) :
 ∃ fd:FuncData,(∀(s:Shared) (v:Value),BindsTo s fd ⟨[v],[]⟩ [("_law_script",v)])/\∀ base:Heap,K.In base->base.Ns mainGlobals mg->Ds l.prog w K mg base ZN 8 fa fd ["_law_script"] (Te K 1 Zk):=by
 have e:=xH.symm.trans (PySem.W.mg_of X G l8)
 cases e
 have al:Vz K ae:=⟨aK,aL,aM,aN⟩
 have T1:Ai K mg "is_whole_below" Ce ["thing","bound"]:=AV X G p1 fun _ _ _ _ _ _ us hl=>match us,hl with|[_,_],_=>rfl
 have T2:Ai K mg "is_measure" DF ["thing"]:=AV X G p2 fun _ _ _ _ _ _ us hl=>match us,hl with|[_],_=>rfl
 have T3:Ai K mg "is_road" HX ["thing","many"]:=AV X G p3 fun _ _ _ _ _ _ us hl=>match us,hl with|[_,_],_=>rfl
 have T4:Ai K mg "is_map" K8 ["thing"]:=AV X G p4 fun _ _ _ _ _ _ us hl=>match us,hl with|[_],_=>rfl
 have T5:Ai K mg "checked" HY ["thing"]:=AV X G p5 fun _ _ _ _ _ _ us hl=>match us,hl with|[_],_=>rfl
 have T6:Ai K mg "added" Mf ["one","other"]:=AV X G p6 fun _ _ _ _ _ _ us hl=>match us,hl with|[_,_],_=>rfl
 have T7:Ai K mg "least" Mg ["some"]:=AV X G p7 fun _ _ _ _ _ _ us hl=>match us,hl with|[_],_=>rfl
 have T8:Ai K mg "road_cost" EI ["road"]:=AV X G p8 fun _ _ _ _ _ _ us hl=>match us,hl with|[_],_=>rfl
 have T9:Ai K mg "kept_costs" DH ["ladder"]:=AV X G p9 fun _ _ _ _ _ _ us hl=>match us,hl with|[_],_=>rfl
 have xI:Ai K mg "kept_costs_turned" BC ["ladder"]:=AV X G su fun _ _ _ _ _ _ us hl=>match us,hl with|[_],_=>rfl
 have xJ:Ai K mg "climbed" HZ ["order","costs","place"]:=AV X G sv fun _ _ _ _ _ _ us hl=>match us,hl with|[_,_,_],_=>rfl
 have xK:Ai K mg "swept" Mh ["order","costs","place"]:=AV X G sw fun _ _ _ _ _ _ us hl=>match us,hl with|[_,_,_],_=>rfl
 have xL:Ai K mg "costs_out" EJ ["ladder","start"]:=AV X G sx fun _ _ _ _ _ _ us hl=>match us,hl with|[_,_],_=>rfl
 have xM:Ai K mg "costs_in" FG ["ladder","goal"]:=AV X G sy fun _ _ _ _ _ _ us hl=>match us,hl with|[_,_],_=>rfl
 have xN:Ai K mg "cost_so_far" Dh ["laid","pair"]:=AV X G sB fun _ _ _ _ _ _ us hl=>match us,hl with|[_,_],_=>rfl
 have xO:Ai K mg "lay" Vm ["laid","pair","cost","middle"]:=AV X G sK fun _ _ _ _ _ _ us hl=>match us,hl with|[_,_,_,_],_=>rfl
 have xP:Ai K mg "lay_over" FH ["laid","place","higher"]:=AV X G tf fun _ _ _ _ _ _ us hl=>match us,hl with|[_,_,_],_=>rfl
 have xQ:Ai K mg "laid_arcs" EL ["net","order"]:=AV X G tj fun _ _ _ _ _ _ us hl=>match us,hl with|[_,_],_=>rfl
 have xR:Ai K mg "is_order" FI ["net","thing"]:=AV X G tm fun _ _ _ _ _ _ us hl=>match us,hl with|[_,_],_=>rfl
 have xS:Ai K mg "checked_order" Cv ["net","thing"]:=AV X G tq fun _ _ _ _ _ _ us hl=>match us,hl with|[_,_],_=>rfl
 have xT:Ai K mg "first_bows" DJ ["net"]:=AV X G tu fun _ _ _ _ _ _ us hl=>match us,hl with|[_],_=>rfl
 have xU:Ai K mg "missing_bows" CP ["bows","left","place"]:=AV X G tw fun _ _ _ _ _ _ us hl=>match us,hl with|[_,_,_],_=>rfl
 have xV:Ai K mg "lightest" FJ ["bows","left"]:=AV X G tz fun _ _ _ _ _ _ us hl=>match us,hl with|[_,_],_=>rfl
 have xW:Ai K mg "ranked" K9 ["net"]:=AV X G t5 fun _ _ _ _ _ _ us hl=>match us,hl with|[_],_=>rfl
 have xX:Ai K mg "costs_from" DK ["net","start"]:=AV X G t6 fun _ _ _ _ _ _ us hl=>match us,hl with|[_,_],_=>rfl
 have xY:Ai K mg "order_or_ranked" C1 ["net","order"]:=AV X G t7 fun _ _ _ _ _ _ us hl=>match us,hl with|[_,_],_=>rfl
 have xZ:Ai K mg "kept_arcs" EM ["net","laid"]:=AV X G t8 fun _ _ _ _ _ _ us hl=>match us,hl with|[_,_],_=>rfl
 have ya:Ih K "Ladder" "order" "Ladder.order" CQ ["self"]:=Vk ah al t9 fun _ _ _ _ _ _ us hl=>match us,hl with|[_],_=>rfl
 have yb:Ih K "Ladder" "checked_arc" "Ladder.checked_arc" Bs ["self","u","w"]:=Vk ah al tY fun _ _ _ _ _ _ us hl=>match us,hl with|[_,_,_],_=>rfl
 have yc:Ih K "Ladder" "cost" "Ladder.cost" Di ["self","u","w"]:=Vk ah al tZ fun _ _ _ _ _ _ us hl=>match us,hl with|[_,_,_],_=>rfl
 have yd:Ih K "Ladder" "kept" "Ladder.kept" Dj ["self"]:=Vk ah al ub fun _ _ _ _ _ _ us hl=>match us,hl with|[_],_=>rfl
 have ye:Ai K mg "_law_cell_at" Dk ["_law_script","_law_k"]:=AV X G uc fun _ _ _ _ _ _ us hl=>match us,hl with|[_,_],_=>rfl
 have yf:Ai K mg "_law_mix" I0 ["_law_cell","_law_k"]:=AV X G ue fun _ _ _ _ _ _ us hl=>match us,hl with|[_,_],_=>rfl
 have yg:Ai K mg "_law_great" EN ["_law_cell","_law_k"]:=AV X G uf fun _ _ _ _ _ _ us hl=>match us,hl with|[_,_],_=>rfl
 have yh:Ai K mg "_law_whole" EO ["_law_found"]:=AV X G ug fun _ _ _ _ _ _ us hl=>match us,hl with|[_],_=>rfl
 have yi:Ai K mg "_law_is_cost" Dl ["_law_found"]:=AV X G uh fun _ _ _ _ _ _ us hl=>match us,hl with|[_],_=>rfl
 have yj:Ai K mg "_law_are_costs" Cw ["_law_found","_law_many"]:=AV X G ui fun _ _ _ _ _ _ us hl=>match us,hl with|[_,_],_=>rfl
 have yk:Ai K mg "_law_roads" EQ ["_law_cells","_law_many"]:=AV X G uj fun _ _ _ _ _ _ us hl=>match us,hl with|[_,_],_=>rfl
 have yl:Ai K mg "_law_order" ER ["_law_cell","_law_many"]:=AV X G uk fun _ _ _ _ _ _ us hl=>match us,hl with|[_,_],_=>rfl
 have ym:Ai K mg "_law_added" ES ["_law_one","_law_other"]:=AV X G ul fun _ _ _ _ _ _ us hl=>match us,hl with|[_,_],_=>rfl
 have yn:Ai K mg "_law_least" ET ["_law_some"]:=AV X G um fun _ _ _ _ _ _ us hl=>match us,hl with|[_],_=>rfl
 have yo:Ai K mg "_law_open" FL ["_law_road"]:=AV X G uo fun _ _ _ _ _ _ us hl=>match us,hl with|[_],_=>rfl
 have yp:Ai K mg "_law_costs" EU ["_law_roads_here","_law_many"]:=AV X G up fun _ _ _ _ _ _ us hl=>match us,hl with|[_,_],_=>rfl
 have yq:=fS (st:=Ap) ut uu uv
 have yr:Binds K (zU "__init__" "Ladder.__init__" (AQ Ap) (AD Ap) (A3 Ap) (.ref dl) g7 g8 g9 gz dk h7) ["self","net","order"] []:=fun s us hK hl=>by
  have aZ:us.length=3:=by simpa using hl
  match us,aZ with
  |[_,_,_],_=>exact PySem.W.binds_K hK rfl dn rfl rfl rfl
 have yt:Binds K (zU "__init__" "Ladder.__init__" (AQ Ap) (AD Ap) (A3 Ap) (.ref dl) g7 g8 g9 gz dk h7) ["self","net","order"] [.none]:=fun s us hK hl=>by
  have aZ:us.length=2:=by simpa using hl
  match us,aZ with
  |[_,_],_=>exact PySem.W.binds_K hK rfl dn rfl rfl rfl
 have yu:TF K mg "Ladder" "Ladder.__init__" Ap ["self","net","order"]:=⟨_,_,_,⟨ah,PySem.W.mg_of X G ah⟩,⟨aO,uq,ur,aP⟩,yq,yr,yt⟩
 have u7:=SV (st:=Gb) uw ux uz
 have yv:Ai K mg "law" Gb ["_law_script"]:=⟨_,_,u7,PySem.W.mg_of X G l8,u7.binds fun _ _ _ _ _ _ us hl=>match us,hl with|[_],_=>rfl⟩
 have T:Txt K mg:=⟨T1,T2,T3,T4,T5,T6,T7,T8,T9,xI,xJ,xK,xL,xM,xN,xO,xP,xQ,xR,xS,xT,xU,xV,xW,xX,xY,xZ,yu,ya,yb,yc,yd,ye,yf,yg,yh,yi,yj,yk,yl,ym,yn,yo,yp,yv,yK X G z1,yK X G z2,yK X G z3,yK X G z4,yK X G z5,yK X G z6,yK X G z7,yK X G z8,yK X G z9,yK X G u3,yK X G u4,yK X G u5,yK X G u6,⟨_,aS,PySem.W.mg_of X G aS,bu⟩,⟨_,aT,PySem.W.mg_of X G aT,bv⟩,⟨_,aD,PySem.W.mg_of X G aD,aQ⟩,⟨_,ah,al,am⟩,⟨_,ah,al,az⟩,⟨_,ah,al,au⟩,⟨_,ah,al,ao⟩⟩
 refine⟨zU "law" "law" (AQ Gb) (AD Gb) (A3 Gb) .none ko kr kt kh h8 ku,fun s v=>.of_eq rfl,fun base _ _=>?_⟩
 exact mY T u7
set_option maxHeartbeats 0 in
set_option maxHeartbeats 0 in
set_option maxHeartbeats 0 in
set_option maxHeartbeats 0 in
theorem left (w:World):(PySem.W.openEnds treeTable zm w 5334).map (fun s=>PySem.W.openSeen (CW zm) [] (importedModules zm.main.body) (fun s=>PySem.W.xlAt (CW zm) [] s && PySem.W.recOk [] s) true s)=some (PySem.W.openGood (CW zm) []):=by
 rw[Vl,mV,PySem.W.Fast.te4187177175401517315,PySem.W.Fast.te5923862056798008813,PySem.W.Fast.te4444633713727475660]
 exact Qi (nO w) (Qi (nQ w) (Qi (nR w) (nS w)))
set_option maxHeartbeats 0 in
theorem nA (w:World):WO (Kp R0 zm w) zm:=by
 rw[mV,PySem.W.Fast.te4444633713727475660]
 exact Zn w
set_option maxHeartbeats 0 in
theorem nB (w:World):WQ (Kp R0 zm w) zm:=by
 rw[mV,PySem.W.Fast.te4444633713727475660]
 exact Zo w
theorem walk {l:PySem.W.OpenLaw}{q:Program}{loose:List Str}{XP:(Str->Option Value)->Heap->Prop}{YP:World->Heap->Prop}{d:DefRec}{K:World->za}(hn:l.most=some 63) (gc:d.params.defaults=[])
 (hY:∀(w:World) (h:Heap),YP w h->(K w).In h)
 (F:∀(w:World) (mg:Str->Option Value) (fa:Addr) (h:Heap),(K w).In h->h.Ns mainGlobals mg->mg d.name=some (.ref fa)->
  ∃ fd:FuncData,(∀(s:Shared) (u:Value),BindsTo s fd ⟨[u],[]⟩ [("_law_script",u)])/\∀ base:Heap,(K w).In base->base.Ns mainGlobals mg->Ds l.prog w (K w) mg base ZN 8 fa fd ["_law_script"] (Te (K w) 1 Zk)) :
 PySem.W.WalkO q loose XP YP l.row.toRowW d [] (fun f vs=>PySem.call f vs) :=
 L2.qV (n:=63) (k:=8) (x := "_law_script") (CX:=fun _=>ZN) (sp:=fun w=>Te (K w) 1 Zk) hn (by decide) gc ⟨rfl,by decide,by decide⟩ hY F (fun w H a ns bC hl _ hS=>dG mZ (K w) H a ns bC hl hS) fun _ _ _ _ _ z=>z
end K51
open PySem PySem.W PyProof.Rows L2
set_option maxRecDepth 100000 in
set_option maxHeartbeats 0 in
theorem PySem.Challenge.cw_nodeladder_k51_swept_holds : PySem.Challenge.rw_nodeladder_k51_swept.Holds := by
 w_on;o_law
 refine holds_open (q:=CW zm) (loose:=[]) (Xt:=fun s=>xlAt (CW zm) [] s && recOk [] s) (XP:=XL (CW zm) []) (Yf:=fun s=>s.heap) (Ya:=fun w=>WN R0 zm w 5334) (YP:=fun w h=>qU (WN R0 zm w 5334) h) (N:=5334) (gE K51.left) (fun w s e b o q=>by rw[<-e] at q;exact q) (fun w h h' a b c o q=>b c o (a c o q)) (fun s e=>xl_of s (Bool.and_eq_true_iff.mp e).1) XL.keeps (by rfl) (by rfl) (by rfl) (fun s e=>recFacts_of (Bool.and_eq_true_iff.mp e).2) (by rfl) (by first|assumption|decide +kernel) (by decide +kernel) ⟨rfl,rfl,rfl,rfl,rfl,by decide +kernel⟩ ?hw ?hc
 case hw=>w_witness2
 case hc =>
  refine K51.walk (l:=PySem.Challenge.rw_nodeladder_k51_swept) (K:=K51.Kp R0 zm) rfl rfl (fun w h Y=>mW Y) ?F
  intro w mg fa h KX G ge
  obtain⟨ah,aK,aL,aM,aN,aO,aP,p1,p2,p3,p4,p5,p6,p7,p8,p9,su,sv,sw,sx,sy,sB,sK,tf,tj,tm,tq,tu,tw,tz,t5,t6,t7,t8,t9,tY,tZ,ub,uc,ue,uf,ug⟩:=K51.nA w
  obtain⟨uh,ui,uj,uk,ul,um,uo,up,uq,ur,ut,uu,uv,dn,l8,uw,ux,uz,z1,z2,z3,z4,z5,z6,z7,z8,z9,u3,u4,u5,u6,aS,aT,aD,bu,bv,aQ,am,az,au,ao⟩:=K51.nB w
  exact K51.all_mk KX G ge ah aK aL aM aN aO aP p1 p2 p3 p4 p5 p6 p7 p8 p9 su sv sw sx sy sB sK tf tj tm tq tu tw tz t5 t6 t7 t8 t9 tY tZ ub uc ue uf ug uh ui uj uk ul um uo up uq ur ut uu uv dn l8 uw ux uz z1 z2 z3 z4 z5 z6 z7 z8 z9 u3 u4 u5 u6 aS aT aD bu bv aQ am az au ao
