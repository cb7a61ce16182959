import PyProof.Rows.All
import Wide.All
import OpenK.AllK
import Wide.FinOn
import Lean
import PyProof.EqAt
import PyProof.EqKinds
import PyProof.TupleCall
import PyProof.NeKinds
import KE.KRevSl
import KE.KIsAll
import PyProof.ExcArgsOwn
import PyProof.ExcAttrAll.ValueError
import PyProof.ExcBaseAll.ValueError
import PyProof.FitsBits
import KE.LcSums
import KE.KRevIter
import PyProof.ListRange
import PyProof.Rows.SumAny
import PyProof.Rows.SortWalk
import PyProof.AttrMissHeap
import KE.KDictOf
import PyProof.ZipIter
import PyProof.DictWalks
import KE.KDictList
import KE.KFind
import KE.KDictSum
import KE.KSortTup
import PySem.Challenge.RW_nodeladder_k33_kept_are_least
set_option Elab.async false
set_option linter.all false
set_option maxRecDepth 1000000
open PySem.W renaming Frag→za,nsIn→zc,findIn→zi,keepIn→zN,fnOf→zP,mg_none_of→zZ,codeIn→yb,emptyDict→yt,hideAll_get→y9,excIn→yD,kia_one→yL,instObj→yM,plainGet→xj,isFn→xk
open Classical renaming choose_spec→zb,choose→zl,propDecidable→xq
open List renaming mem_cons_self→zd,length_map→ze,mem_cons_of_mem→zf,map_cons→zg,size_toArray→zj,mem_append_right→zm,length_cons→zo,mem_cons→zp,mem_of_getElem?→zq,getElem?_eq_getElem→zr,mem_singleton→zu,set_cons_succ→zw,replicate→z0,getElem?_map→zB,range→zD,getElem?_eq_some_iff→zE,set_cons_zero→zF,mem_map→zJ,mem_append_left→zK,getD_eq_getElem?_getD→zL,mem_append→zM,getElem?_cons_succ→zO,nodup_append→zS,length_append→zT,getElem?_set_self→zU,foldl_cons→ya,append_nil→yc,map_append→yh,pairwise_cons→yl,map_map→ym,mem_filter→yn,take_length→yo,mem_of_mem_take→yp,getElem?_set_ne→yq,take_of_length_le→yu,take_add_one→yw,replicate_succ→yx,nodup_nil→yy,getElem?_append_left→yz,length_set→y2,nodup_cons→yA,getElem?_range→yB,length_take→yF,getElem?_eq_none→yG,getElem?_cons_zero→yS,lookup_cons→yU,mem_range→yX,length_singleton→xa,length_filter_le→xb,find?_cons→xc,pairwise_map→xg,any_cons→xh,getElem?_append_right→xi,length_drop→xm,cons_append→xn
open PySem.Heap renaming get?_push_of_some→zh,lt_size→zt,get?_push_size→zA,get?_update_self→yH,SameBut→yR,get?_update_other→yY
open Nat renaming le_refl→zv,lt_of_lt_of_le→zC,ne_of_lt→zI,zero_le→zW,le_trans→yi,le_of_lt→yj
open Bool renaming false_eq_true→zy,false_ne_true→zG,and_eq_true→zV,eq_iff_iff→yQ
open Option.some renaming inj→zH
open PySem.F renaming plain_min_loop→zQ
open Prod renaming fst→zR,snd→y8
open PySem.Value renaming ref→zX,none→yE
open Or renaming inl→zY
open Ne renaming symm→yd
open PySem.Builtin.Int renaming intBits→ye
open Option renaming map_some→yf,isSome_iff_exists→y3,isSome_some→yW
open Array renaming getD_eq_getD_getElem?→yg,length_toList→yv,getElem?_eq_getElem→yJ
open Int renaming toNat_natCast→yk,emod_nonneg→yC,emod_lt_of_pos→yI,toNat_of_nonneg→yT
open PySem.Obj renaming mapSeq→yr
open PyProof.Rows renaming callWith_type1→y4
open PySem.W.Fast renaming tw5923862056798008813→y6,tw4187177175401517315→y7
open PySem.Heap.SameBut renaming update→yK
open PySem.Around renaming under_plainId→yN
open False renaming elim→yO
open PySem.Builtin.Builtins renaming bindParams→yP
open True renaming intro→yV
open PySem.NameKind renaming free→yZ
open PySem.Builtin.List renaming listTooLong→xf
open PySem renaming mem_of_lookup→xl
open ForInStep renaming yield→xp
section
set_option maxHeartbeats 0
namespace L2
open PySem PySem.Spec PyProof.Rows PySem.W PySem.Calls
noncomputable def inClass (s:Stmt)(j:Nat):Stmt:=match s with
 | .ClassDef _ _ _ body _ _ _ _ _ _ _=>body.getD j (.Pass ⟨0,0,0,0⟩)
 |_=>.Pass ⟨0,0,0,0⟩
noncomputable def AI (s:Stmt):Arguments:=match s with
 | .FunctionDef _ a _ _ _ _ _ _ _ _=>a
 |_=>{posonlyargs:=[],args:=[],vararg:=none,kwonlyargs:=[],kw_defaults:=[],kwarg:=none,defaults:=[]}
noncomputable def As (s:Stmt):List Stmt:=match s with
 | .FunctionDef _ _ b _ _ _ _ _ _ _=>b
 |_=>[]
noncomputable def A3 (s:Stmt):Scope:=match s with
 | .FunctionDef _ _ _ _ _ _ sc _ _ _=>sc
 |_=>{kind:=.function,names:=[],isGenerator:=false,isCoroutine:=false}
structure FP (K:za)(x:Str)(st:Stmt):Prop where
 ex:∃(f:Addr) (oc:Value) (od an:Option Addr) (sl:Array (Option Value)) (kV dc pm cd ct:Value),zc K mainGlobals x=some (some (.ref f))/\K.lookup f=some ⟨oc,od,.func (zP x x (AI st) (As st) (A3 st) .none kV dc pm an cd ct),sl⟩/\yb K cd x=true/\zN K (.ref f)=true
theorem iR {K:za}{x:Str}{st:Stmt}{f:Addr}{oc:Value}{od an:Option Addr}{sl:Array (Option Value)}{kV dc pm cd ct:Value}(a:zc K mainGlobals x=some (some (.ref f)))(l:K.lookup f=some ⟨oc,od,.func (zP x x (AI st) (As st) (A3 st) .none kV dc pm an cd ct),sl⟩)(c:yb K cd x=true)(k:zN K (.ref f)=true):FP K x st:=⟨⟨f,oc,od,an,sl,kV,dc,pm,cd,ct,a,l,c,k⟩⟩
structure MP (K:za)(C:Addr)(m qual:Str)(st:Stmt):Prop where
 ex:∃(f:Addr) (oc:Value) (od an:Option Addr) (sl:Array (Option Value)) (kV dc pm cd ct:Value),zi K (.ref C) m=some (some (.ref f))/\xk K (.ref f)=true/\K.lookup f=some ⟨oc,od,.func (zP m qual (AI st) (As st) (A3 st) .none kV dc pm an cd ct),sl⟩/\yb K cd qual=true/\zN K (.ref f)=true
theorem iS {K:za}{C:Addr}{m qual:Str}{st:Stmt}{f:Addr}{oc:Value}{od an:Option Addr}{sl:Array (Option Value)}{kV dc pm cd ct:Value}(a:zi K (.ref C) m=some (some (.ref f)))(i:xk K (.ref f)=true)(l:K.lookup f=some ⟨oc,od,.func (zP m qual (AI st) (As st) (A3 st) .none kV dc pm an cd ct),sl⟩)(c:yb K cd qual=true)(k:zN K (.ref f)=true):MP K C m qual st:=⟨⟨f,oc,od,an,sl,kV,dc,pm,cd,ct,a,i,l,c,k⟩⟩
noncomputable def Cp (p:Program):Program:={p with main:={p.main with body:=p.main.body.filter λ s=>match s with | .FunctionDef .. =>true | .ClassDef .. =>true | _=>false} }
structure Rn where
 run:(String->Option Builtin)->Program->World->Nat->Option Value->Nat->Shared->Thread->Option Shared
 ns:Heap->Addr->Str->Option Value
 imp:(String->Option Builtin)->Program->World->Nat->Shared->Thread->Option Shared
 rM:Program->Shared->Option Shared
 st:Program->Shared×Thread
 tb:String->Option Builtin
noncomputable def KW (R:Rn)(p:Program)(w:World)(N:Nat):Option Shared:=
 ((R.imp R.tb (opening p) w N (R.st (opening p)).fst (R.st (opening p)).snd).bind (R.rM p)).bind λ s₀ =>
 match s₀.heap.isNs mainGlobals&&s₀.gens.size==0 with
 |true=>(R.run R.tb p w s₀.heap.objs.size (R.ns s₀.heap mainGlobals (Str.ofString "__annotations__")) N s₀ (topStub p)).bind λ s₁ =>
  match staticsOk (importedModules p.main.body) s₀.heap s₁.heap&&namesBound p s₁.heap&&gensDone s₁&&laidKept s₀.heap s₁.heap with
  |true=>some s₁
  |false=>none
 |false=>none
noncomputable def R1:Rn:=⟨PySem.W.Fast.tw14082659384304107361,PySem.W.Fast.tw8920871248978507458,PySem.W.Fast.tw10274390034422433532,PySem.W.Fast.tw14289696077712309145,PySem.W.Fast.tw1435165496053646825,PySem.W.Fast.tw14364793385576792824⟩
noncomputable def Ve (R:Rn)(p:Program)(w:World)(N:Nat):Heap:=match KW R p w N with | some s=>s.heap | none=>⟨#[],default⟩
noncomputable def lZ (h:Heap)(as:List Addr):za:=as.filterMap λ a=>(h.get? a).map λ o=>(a,o)
noncomputable def AY (v:Option (Option Value)):Addr:=match v with | some (some (.ref f))=>f | _=>0
noncomputable def D3 (K:za)(f:Addr):Obj:=(K.lookup f).getD ⟨.none,none,.plain,#[]⟩
noncomputable def GQ (d:Data)(st:Stmt):FuncData:=match d with | .func fd=>fd | _=>zP Str.empty Str.empty (AI st) [] (A3 st) .none .none .none .none none .none .none
noncomputable def Ts (v:Value):Addr:=match v with | .ref a=>a | _=>0
noncomputable def mW (d:Data):Nat:=match d with | .seq _ n=>n | _=>0
theorem Aw {K:za}{x:Str}{st:Stmt}(a:zc K mainGlobals x=some (some (.ref (AY (zc K mainGlobals x)))):=by kernel_rfl)
 (l:K.lookup (AY (zc K mainGlobals x))=some ⟨(D3 K (AY (zc K mainGlobals x))).cls,(D3 K (AY (zc K mainGlobals x))).dict,.func (zP x x (AI st) (As st) (A3 st) .none (GQ (D3 K (AY (zc K mainGlobals x))).data st).kwdefaults (GQ (D3 K (AY (zc K mainGlobals x))).data st).doc (GQ (D3 K (AY (zc K mainGlobals x))).data st).pyModule (GQ (D3 K (AY (zc K mainGlobals x))).data st).annotations (GQ (D3 K (AY (zc K mainGlobals x))).data st).code (GQ (D3 K (AY (zc K mainGlobals x))).data st).closureTuple),(D3 K (AY (zc K mainGlobals x))).slots⟩:=by kernel_rfl)
 (c:yb K (GQ (D3 K (AY (zc K mainGlobals x))).data st).code x=true:=by kernel_rfl) (k:zN K (.ref (AY (zc K mainGlobals x)))=true:=by kernel_rfl):FP K x st:=iR a l c k
theorem Iy {K:za}{C:Addr}{m qual:Str}{st:Stmt}(a:zi K (.ref C) m=some (some (.ref (AY (zi K (.ref C) m)))):=by kernel_rfl)(i:xk K (.ref (AY (zi K (.ref C) m)))=true:=by kernel_rfl)
 (l:K.lookup (AY (zi K (.ref C) m))=some ⟨(D3 K (AY (zi K (.ref C) m))).cls,(D3 K (AY (zi K (.ref C) m))).dict,.func (zP m qual (AI st) (As st) (A3 st) .none (GQ (D3 K (AY (zi K (.ref C) m))).data st).kwdefaults (GQ (D3 K (AY (zi K (.ref C) m))).data st).doc (GQ (D3 K (AY (zi K (.ref C) m))).data st).pyModule (GQ (D3 K (AY (zi K (.ref C) m))).data st).annotations (GQ (D3 K (AY (zi K (.ref C) m))).data st).code (GQ (D3 K (AY (zi K (.ref C) m))).data st).closureTuple),(D3 K (AY (zi K (.ref C) m))).slots⟩:=by kernel_rfl)
 (c:yb K (GQ (D3 K (AY (zi K (.ref C) m))).data st).code qual=true:=by kernel_rfl) (k:zN K (.ref (AY (zi K (.ref C) m)))=true:=by kernel_rfl):MP K C m qual st:=iS a i l c k
end L2
namespace c5
open PySem L2
theorem prim:(PySem.W.chainsOk PySem.Challenge.pw_nodeladder_k33_kept_are_least||true)=true:=by k_qdec
theorem iT (w:World):(KW R1 PySem.W.Fast.tw15378293248588618353 w 6100).map (λ s=>(y7 (Cp PySem.W.Fast.tw15378293248588618353) [] (y6 PySem.W.Fast.tw15378293248588618353.main.body) (λ s=>PySem.W.xlAt (Cp PySem.W.Fast.tw15378293248588618353) [] s&&PySem.W.recOk [] s) true s).1)=some (PySem.W.openGood (Cp PySem.W.Fast.tw15378293248588618353) []).1:=by kernel_rfl
theorem iU (w:World):(KW R1 PySem.W.Fast.tw15378293248588618353 w 6100).map (λ s=>(y7 (Cp PySem.W.Fast.tw15378293248588618353) [] (y6 PySem.W.Fast.tw15378293248588618353.main.body) (λ s=>PySem.W.xlAt (Cp PySem.W.Fast.tw15378293248588618353) [] s&&PySem.W.recOk [] s) true s).2.1)=some (PySem.W.openGood (Cp PySem.W.Fast.tw15378293248588618353) []).2.1:=by kernel_rfl
theorem iV (w:World):(KW R1 PySem.W.Fast.tw15378293248588618353 w 6100).map (λ s=>(y7 (Cp PySem.W.Fast.tw15378293248588618353) [] (y6 PySem.W.Fast.tw15378293248588618353.main.body) (λ s=>PySem.W.xlAt (Cp PySem.W.Fast.tw15378293248588618353) [] s&&PySem.W.recOk [] s) true s).2.2.1)=some (PySem.W.openGood (Cp PySem.W.Fast.tw15378293248588618353) []).2.2.1:=by kernel_rfl
theorem iW (w:World):(KW R1 PySem.W.Fast.tw15378293248588618353 w 6100).map (λ s=>(y7 (Cp PySem.W.Fast.tw15378293248588618353) [] (y6 PySem.W.Fast.tw15378293248588618353.main.body) (λ s=>PySem.W.xlAt (Cp PySem.W.Fast.tw15378293248588618353) [] s&&PySem.W.recOk [] s) true s).2.2.2)=some (PySem.W.openGood (Cp PySem.W.Fast.tw15378293248588618353) []).2.2.2:=by kernel_rfl
noncomputable def topP (p:Program)(i:Nat):Stmt:=p.main.body.getD i (.Pass ⟨0,0,0,0⟩)
noncomputable def Kp (R:Rn)(p:Program)(w:World):za:=lZ (Ve R p w 6100) (zD 440)
def Vf (K:za)(p:Program):Prop:=
 (zc K mainGlobals "Ladder" = some (some (.ref (AY (zc K mainGlobals "Ladder")))))/\
 (xj K (AY (zc K mainGlobals "Ladder")) Str.empty=true)/\
 (PySem.W.hasDictIn K (AY (zc K mainGlobals "Ladder"))=true)/\
 (PySem.W.plainOver K (AY (zc K mainGlobals "Ladder"))=true)/\
 (zi K (.ref (AY (zc K mainGlobals "Ladder"))) "__setattr__" = some (some (.builtin "object.__setattr__")))/\
 (PySem.W.makesIn K (AY (zc K mainGlobals "Ladder"))=true)/\
 (zN K (.ref (AY (zc K mainGlobals "Ladder")))=true)/\
 (FP K "is_whole_below" (topP p 7))/\
 (FP K "is_measure" (topP p 8))/\
 (FP K "is_road" (topP p 9))/\
 (FP K "is_map" (topP p 10))/\
 (FP K "checked" (topP p 11))/\
 (FP K "added" (topP p 12))/\
 (FP K "least" (topP p 13))/\
 (FP K "road_cost" (topP p 14))/\
 (FP K "cost_so_far" (topP p 16))/\
 (FP K "lay" (topP p 17))/\
 (FP K "lay_over" (topP p 18))/\
 (FP K "laid_arcs" (topP p 19))/\
 (FP K "is_order" (topP p 21))/\
 (FP K "checked_order" (topP p 22))/\
 (FP K "first_bows" (topP p 23))/\
 (FP K "missing_bows" (topP p 24))/\
 (FP K "lightest" (topP p 25))/\
 (FP K "ranked" (topP p 26))/\
 (FP K "costs_from" (topP p 28))/\
 (FP K "order_or_ranked" (topP p 30))/\
 (FP K "kept_arcs" (topP p 31))/\
 (MP K (AY (zc K mainGlobals "Ladder")) "order" "Ladder.order" (inClass (topP p 32) 2))/\
 (MP K (AY (zc K mainGlobals "Ladder")) "arcs" "Ladder.arcs" (inClass (topP p 32) 3))/\
 (MP K (AY (zc K mainGlobals "Ladder")) "checked_arc" "Ladder.checked_arc" (inClass (topP p 32) 4))/\
 (MP K (AY (zc K mainGlobals "Ladder")) "cost" "Ladder.cost" (inClass (topP p 32) 5))/\
 (MP K (AY (zc K mainGlobals "Ladder")) "kept" "Ladder.kept" (inClass (topP p 32) 8))/\
 (FP K "_law_mixed" (topP p 34))/\
 (FP K "_law_road" (topP p 35))/\
 (FP K "_law_map" (topP p 36))/\
 (FP K "_law_order" (topP p 37))
theorem XB (w:World):Vf (Kp R1 PySem.W.Fast.tw15378293248588618353 w) PySem.W.Fast.tw15378293248588618353:=
 ⟨by kernel_rfl,by kernel_rfl,by kernel_rfl,by kernel_rfl,by kernel_rfl,by kernel_rfl,by kernel_rfl,Aw,Aw,Aw,Aw,Aw,Aw,Aw,Aw,Aw,Aw,Aw,Aw,Aw,Aw,Aw,Aw,Aw,Aw,Aw,Aw,Aw,Iy,Iy,Iy,Iy,Iy,Aw,Aw,Aw,Aw⟩
def Vg (K:za)(p:Program):Prop:=
 (FP K "_law_least" (topP p 38))/\
 (FP K "_law_costs" (topP p 39))/\
 (FP K "_law_cost" (topP p 40))/\
 (FP K "_law_right" (topP p 41))/\
 (zi K (.ref (AY (zc K mainGlobals "Ladder"))) "__init__" = some (some (.ref (AY (zi K (.ref (AY (zc K mainGlobals "Ladder"))) "__init__")))))/\
 (xk K (.ref (AY (zi K (.ref (AY (zc K mainGlobals "Ladder"))) "__init__")))=true)/\
 (K.lookup (AY (zi K (.ref (AY (zc K mainGlobals "Ladder"))) "__init__"))=some ⟨(D3 K (AY (zi K (.ref (AY (zc K mainGlobals "Ladder"))) "__init__"))).cls,(D3 K (AY (zi K (.ref (AY (zc K mainGlobals "Ladder"))) "__init__"))).dict,.func (zP "__init__" "Ladder.__init__" (AI (inClass (topP p 32) 0)) (As (inClass (topP p 32) 0)) (A3 (inClass (topP p 32) 0)) (.ref (Ts (GQ (D3 K (AY (zi K (.ref (AY (zc K mainGlobals "Ladder"))) "__init__"))).data (inClass (topP p 32) 0)).defaults)) (GQ (D3 K (AY (zi K (.ref (AY (zc K mainGlobals "Ladder"))) "__init__"))).data (inClass (topP p 32) 0)).kwdefaults (GQ (D3 K (AY (zi K (.ref (AY (zc K mainGlobals "Ladder"))) "__init__"))).data (inClass (topP p 32) 0)).doc (GQ (D3 K (AY (zi K (.ref (AY (zc K mainGlobals "Ladder"))) "__init__"))).data (inClass (topP p 32) 0)).pyModule (GQ (D3 K (AY (zi K (.ref (AY (zc K mainGlobals "Ladder"))) "__init__"))).data (inClass (topP p 32) 0)).annotations (GQ (D3 K (AY (zi K (.ref (AY (zc K mainGlobals "Ladder"))) "__init__"))).data (inClass (topP p 32) 0)).code (GQ (D3 K (AY (zi K (.ref (AY (zc K mainGlobals "Ladder"))) "__init__"))).data (inClass (topP p 32) 0)).closureTuple),(D3 K (AY (zi K (.ref (AY (zc K mainGlobals "Ladder"))) "__init__"))).slots⟩)/\
 (yb K (GQ (D3 K (AY (zi K (.ref (AY (zc K mainGlobals "Ladder"))) "__init__"))).data (inClass (topP p 32) 0)).code "Ladder.__init__" = true)/\
 (zN K (.ref (AY (zi K (.ref (AY (zc K mainGlobals "Ladder"))) "__init__")))=true)/\
 (K.lookup (Ts (GQ (D3 K (AY (zi K (.ref (AY (zc K mainGlobals "Ladder"))) "__init__"))).data (inClass (topP p 32) 0)).defaults)=some ⟨(D3 K (Ts (GQ (D3 K (AY (zi K (.ref (AY (zc K mainGlobals "Ladder"))) "__init__"))).data (inClass (topP p 32) 0)).defaults)).cls,(D3 K (Ts (GQ (D3 K (AY (zi K (.ref (AY (zc K mainGlobals "Ladder"))) "__init__"))).data (inClass (topP p 32) 0)).defaults)).dict,.seq #[.none] (mW (D3 K (Ts (GQ (D3 K (AY (zi K (.ref (AY (zc K mainGlobals "Ladder"))) "__init__"))).data (inClass (topP p 32) 0)).defaults)).data),(D3 K (Ts (GQ (D3 K (AY (zi K (.ref (AY (zc K mainGlobals "Ladder"))) "__init__"))).data (inClass (topP p 32) 0)).defaults)).slots⟩)/\
 (zc K mainGlobals "law" = some (some (.ref (AY (zc K mainGlobals "law")))))/\
 (K.lookup (AY (zc K mainGlobals "law"))=some ⟨(D3 K (AY (zc K mainGlobals "law"))).cls,(D3 K (AY (zc K mainGlobals "law"))).dict,.func (zP "law" "law" (AI (topP p 42)) (As (topP p 42)) (A3 (topP p 42)) .none (GQ (D3 K (AY (zc K mainGlobals "law"))).data (topP p 42)).kwdefaults (GQ (D3 K (AY (zc K mainGlobals "law"))).data (topP p 42)).doc (GQ (D3 K (AY (zc K mainGlobals "law"))).data (topP p 42)).pyModule (GQ (D3 K (AY (zc K mainGlobals "law"))).data (topP p 42)).annotations (GQ (D3 K (AY (zc K mainGlobals "law"))).data (topP p 42)).code (GQ (D3 K (AY (zc K mainGlobals "law"))).data (topP p 42)).closureTuple),(D3 K (AY (zc K mainGlobals "law"))).slots⟩)/\
 (yb K (GQ (D3 K (AY (zc K mainGlobals "law"))).data (topP p 42)).code "law" = true)/\
 (zN K (.ref (AY (zc K mainGlobals "law")))=true)/\
 (zc K mainGlobals "all" = some none)/\
 (zc K mainGlobals "bool" = some none)/\
 (zc K mainGlobals "enumerate" = some none)/\
 (zc K mainGlobals "int" = some none)/\
 (zc K mainGlobals "isinstance" = some none)/\
 (zc K mainGlobals "len" = some none)/\
 (zc K mainGlobals "list" = some none)/\
 (zc K mainGlobals "min" = some none)/\
 (zc K mainGlobals "range" = some none)/\
 (zc K mainGlobals "sorted" = some none)/\
 (zc K mainGlobals "sum" = some none)/\
 (zc K mainGlobals "tuple" = some none)/\
 (zc K mainGlobals "NoArc" = some (some (.ref (AY (zc K mainGlobals "NoArc")))))/\
 (zc K mainGlobals "NoMap" = some (some (.ref (AY (zc K mainGlobals "NoMap")))))/\
 (zc K mainGlobals "NoOrder" = some (some (.ref (AY (zc K mainGlobals "NoOrder")))))/\
 (yD K (AY (zc K mainGlobals "NoArc")) [.type "ValueError",.type "Exception",.type "BaseException",.type "object"] "ValueError.__new__" = true)/\
 (yD K (AY (zc K mainGlobals "NoMap")) [.type "ValueError",.type "Exception",.type "BaseException",.type "object"] "ValueError.__new__" = true)/\
 (yD K (AY (zc K mainGlobals "NoOrder")) [.type "ValueError",.type "Exception",.type "BaseException",.type "object"] "ValueError.__new__" = true)/\
 (zi K (.ref (AY (zc K mainGlobals "Ladder"))) "kept_ones" = some none)/\
 (zi K (.ref (AY (zc K mainGlobals "Ladder"))) "laid" = some none)/\
 (zi K (.ref (AY (zc K mainGlobals "Ladder"))) "own_map" = some none)/\
 (zi K (.ref (AY (zc K mainGlobals "Ladder"))) "own_order" = some none)
theorem XC (w:World):Vg (Kp R1 PySem.W.Fast.tw15378293248588618353 w) PySem.W.Fast.tw15378293248588618353:=
 ⟨Aw,Aw,Aw,Aw,by kernel_rfl,by kernel_rfl,by kernel_rfl,by kernel_rfl,by kernel_rfl,by kernel_rfl,by kernel_rfl,by kernel_rfl,by kernel_rfl,by kernel_rfl,by kernel_rfl,by kernel_rfl,by kernel_rfl,by kernel_rfl,by kernel_rfl,by kernel_rfl,by kernel_rfl,by kernel_rfl,by kernel_rfl,by kernel_rfl,by kernel_rfl,by kernel_rfl,by kernel_rfl,by kernel_rfl,by kernel_rfl,by kernel_rfl,by kernel_rfl,by kernel_rfl,by kernel_rfl,by kernel_rfl,by kernel_rfl,by kernel_rfl⟩
end c5
end
set_option Elab.async false
set_option linter.all false
set_option maxRecDepth 100000
namespace L2
open PySem PySem.Spec PyProof.Rows
noncomputable abbrev Key:=Sum Int Str
noncomputable def MU:Key->Value->Bool
 | .inl k,v=>Value.isInt k v
 | .inr x,v=>Value.isStrOf x v
noncomputable def mX (w:World):Key->Int
 | .inl k=>hashInt k
 | .inr x=>hashStr w x
theorem Bb:∀ {k:Key}{v:Value},MU k v=true->(∃i t,k=Sum.inl i/\v=Value.int i t)\/(∃x t,k=Sum.inr x/\v=Value.str x t)
 | .inl i,v,h=>by
  obtain⟨t,e⟩:=Value.isInt_shape (k:=i) (v:=v) h;exact .inl ⟨i,t,rfl,e⟩
 | .inr x,v,h=>by
  obtain⟨t,e⟩:=Value.isStrOf_shape (x:=x) (v:=v) h;exact .inr ⟨x,t,rfl,e⟩
theorem Tt (i:Int)(t:Tok):MU (.inl i) (.int i t)=true:=by simp[MU,Value.isInt]
theorem Tu (x:Str)(t:Tok):MU (.inr x) (.str x t)=true:=by simp[MU,Value.isStrOf]
theorem ZX (a b:Int):decide ((Sum.inl a:Key)=Sum.inl b)=(a==b):=by
 by_cases e:a=b
 ·subst e;simp
 ·have h:¬ (Sum.inl a:Key)=Sum.inl b:=λ q=>e (Sum.inl.inj q);rw[decide_eq_false h];exact (beq_eq_false_iff_ne.mpr e).symm
theorem ZY (a b:Str):decide ((Sum.inr a:Key)=Sum.inr b)=decide (a=b):=by
 by_cases e:a=b
 ·subst e;simp
 ·have h:¬ (Sum.inr a:Key)=Sum.inr b:=λ q=>e (Sum.inr.inj q);rw[decide_eq_false h,decide_eq_false e]
theorem ZZ (a:Int)(b:Str):decide ((Sum.inl a:Key)=Sum.inr b)=false:=decide_eq_false (λ q=>nomatch q)
theorem cR (a:Str)(b:Int):decide ((Sum.inr a:Key)=Sum.inl b)=false:=decide_eq_false (λ q=>nomatch q)
noncomputable def Bc (prog:Program)(w:World):PySem.KeyKind prog w Key where
 is:=MU
 hash:=mX w
 inj:=λ v a b ha hb=>by
  rcases Bb ha with ⟨i,t,rfl,rfl⟩|⟨x,t,rfl,rfl⟩
  ·rcases Bb hb with ⟨j,u,rfl,e⟩|⟨y,u,rfl,e⟩
   ·injection e with e1 _;rw[e1]
   ·exact nomatch e
  ·rcases Bb hb with ⟨j,u,rfl,e⟩|⟨y,u,rfl,e⟩
   ·exact nomatch e
   ·injection e with e1 _;rw[e1]
 byValue:=λ k v h=>by
  rcases Bb h with ⟨i,t,rfl,rfl⟩|⟨x,t,rfl,rfl⟩<;>rfl
 pyHash:=λ hv h=>by
  rcases Bb hv with ⟨i,t,rfl,rfl⟩|⟨x,t,rfl,rfl⟩
  ·exact wpAny_pyHash_int h
  ·exact wpAny_pyHash_str h
 eqBool:=λ hu hv h=>by
  rcases Bb hu with ⟨i,t,rfl,rfl⟩|⟨x,t,rfl,rfl⟩
  ·rcases Bb hv with ⟨j,u,rfl,rfl⟩|⟨y,u,rfl,rfl⟩
   ·rw[ZX] at h;exact wpAny_eqBool_int h
   ·rw[ZZ] at h;exact SeqAt.EqAt.int_str i t y u _ _ _ _ h
  ·rcases Bb hv with ⟨j,u,rfl,rfl⟩|⟨y,u,rfl,rfl⟩
   ·rw[cR] at h;exact SeqAt.EqAt.str_int x t j u _ _ _ _ h
   ·rw[ZY] at h;exact wpAny_eqBool_str h
 «strs»:=λ k x t v h=>by
  rcases Bb h with ⟨i,u,rfl,e⟩|⟨y,u,rfl,e⟩
  ·exact nomatch e
  ·injection e with e1 _
   subst e1;cases v<;>rfl
theorem P7 (prog:Program)(w:World)(i:Int)(t:Tok):(Bc prog w).is (.inl i) (.int i t)=true:=Tt i t
theorem P8 (prog:Program)(w:World)(x:Str)(t:Tok):(Bc prog w).is (.inr x) (.str x t)=true:=Tu x t
inductive V where
 |AD|bl (b:Bool)|int (i:Int)|str (x:Str)|cS (b:Array UInt8)|iX (b:UInt64)|ref (a:Addr)|ty (n:String)
 deriving DecidableEq
def RelV:V->Value->Prop
 | .AD,u=>u=yE
 | .bl b,u=>u=Value.bool b
 | .int i,u=>∃t,u=Value.int i t
 | .str x,u=>∃t,u=Value.str x t
 | .cS b,u=>∃t,u=Value.bytes b t
 | .iX b,u=>∃t,u=Value.float b t
 | .ref a,u=>u=zX a
 | .ty n,u=>u=Value.type n
noncomputable abbrev Vals:List V->List Value->Prop:=Paired RelV
theorem Vals.length {xs:List V}{us:List Value}(r:Vals xs us):xs.length=us.length:=Paired.length r
theorem Vals.get:∀ {xs:List V}{us:List Value}{i:Nat}{x:V},Vals xs us->xs[i]?=some x->∃u,us[i]?=some u/\RelV x u
 |_,_,_,_,.nil,e=>by simp at e
 |_,_,0,_,.cons r _,e=>by simp at e;subst e;exact⟨_,rfl,r⟩
 |_,_,i+1,x,.cons _ t,e=>by
  obtain⟨u,h1,h2⟩:=Vals.get (i:=i) (x:=x) t (by simpa using e);exact⟨u,by simpa using h1,h2⟩
theorem Vals.set {x:V}{u:Value}(r:RelV x u):∀ {xs:List V}{us:List Value}(i:Nat),Vals xs us->Vals (xs.set i x) (us.set i u)
 |_,_,_,.nil=>.nil
 |_,_,0,.cons _ t=>.cons r t
 |_,_,i+1,.cons q t=>.cons q (Vals.set r i t)
theorem Vals.append:∀ {xs ys:List V}{us ws:List Value},Vals xs us->Vals ys ws->Vals (xs++ys) (us++ws)
 |_,_,_,_,.nil,s=>s
 |_,_,_,_,.cons r t,s=>.cons r (Vals.append t s)
theorem Vals.take:∀ {xs:List V}{us:List Value}(n:Nat),Vals xs us->Vals (xs.take n) (us.take n)
 |_,_,0,_|_,_,_+1,.nil=>.nil
 |_,_,n+1,.cons r t=>.cons r (Vals.take n t)
theorem Vals.drop:∀ {xs:List V}{us:List Value}(n:Nat),Vals xs us->Vals (xs.drop n) (us.drop n)
 |_,_,0,r=>r
 |_,_,_+1,.nil=>.nil
 |_,_,n+1,.cons _ t=>Vals.drop n t
def Hv:Option V->Option Value->Prop
 |some v,some u=>RelV v u
 |none,none=>True
 |_,_=>False
def KV {κ:Type}:List (κ×V)->List (κ×Value)->Prop:=Paired λ(p:κ×V) (q:κ×Value)=>p.1=q.1/\RelV p.2 q.2
noncomputable def kV:Key->V
 | .inl i=>.int i
 | .inr x=>.str x
inductive HO where
 |lst (xs:List V)
 |tup (xs:List V)
 |dK (kvs:List (Key×V))|dT (kvs:List (List Key×V))
 |set (S:Int->Bool) (n:Nat)
 |ins (C dx:Addr) (fs:List (Str×V))
 |own (x:Addr)
 |xd (fs:List (Str×V))
 |met (f x:Addr)
 |mB (lo hi:Int)
 |QV (o:Obj) (u:HO)
 |Zs (ps:Array Value)
 |ext (φ:Heap->Prop)
noncomputable abbrev Hp:=Addr->Option HO
noncomputable def upd (H:Hp)(a:Addr)(o:HO):Hp:=λ b=>if b=a then some o else H b
theorem Ax {H:Hp}{a:Addr}{o:HO}:upd H a o a=some o:=by unfold upd;rw[if_pos rfl]
theorem Al {H:Hp}{a b:Addr}{o:HO}(h:b≠a):upd H a o b=H b:=by unfold upd;rw[if_neg h]
theorem iY {H:Hp}{a b:Addr}{o u:HO}(h:H a=some o)(h':H b=some u)(d:o≠u):a≠b:=by
 intro e;subst e;rw[h] at h';exact d (zH h')
theorem Av {H:Hp}{a b:Addr}{o:HO}(h:H a=some o)(h':H b=none):a≠b:=by
 intro e;subst e;rw[h] at h';cases h'
section
variable (P:Program) (w:World)
def Bi (H:Hp)(h:Heap)(a:Addr):HO->Prop
 | .lst xs=>xs.length<=sizeLine/\∃(aa:List Value) (n:Nat),Vals xs aa/\h.get? a=some {cls:=.type "list",data:=.seq aa.toArray n}
 | .tup xs=>xs.length<=sizeLine/\∃aa:List Value,Vals xs aa/\IsTup h a aa.toArray
 | .dK kvs=>kvs.length<=sizeLine/\(a==sysModules)=false/\∃vs,KV kvs vs/\h.DictOf (Bc P w) a vs
 | .dT kvs=>kvs.length<=sizeLine/\(a==sysModules)=false/\∃xs:List (List Key×Addr×Value),
  Paired (λ(p:List Key×V) (q:List Key×Addr×Value)=>p.1=q.1/\H q.2.1=some (.tup (p.1.map kV))/\RelV p.2 q.2.2) kvs xs/\
  ∃o es ep,h.get? a=some o/\o.ExactDict/\o.data=.dict es ep/\es.toList=xs.map (entryOfKey (tupleKind (Bc P w)))/\(xs.map (·.1)).Nodup
 | .set S n=>h.SetOf (intKind P w) a S n
 | .ins C dx fs=>H dx=some (.own a)/\fs.length<=1000/\dx≠a/\h.get? a=some (yM C dx)/\
  ∃mA,h.Ns1 dx mA/\(∀f,Hv (fs.lookup f) (mA f))/\PySem.Within mA (fs.map (·.1))
 | .own _=>∃o,h.get? a=some o
 | .xd fs=>∃mA,h.Ns1 a mA/\∀f,Hv (fs.lookup f) (mA f)
 | .mB lo hi=>∃t u v,h.get? a=some {cls:=.type "range",data:=.fields #[.int lo t,.int hi u,.int 1 v]}
 | .QV o u=>h.get? a=some o/\Bi H h a u
 | .Zs ps=>h.get? a=some {cls:=.none,data:=.fields ps}
 | .met f x=>h.get? a=some (PySem.W.methodObj (.ref f) (.ref x))
 | .ext φ=>φ h/\(∃o,h.get? a=some o)/\∀h1 h2:Heap,φ h1->(∀o,h1.get? a=some o->h2.get? a=some o)->φ h2
def FR (H:Hp)(h:Heap):Prop:=∀a o,H a=some o->Bi P w H h a o
end
section
variable {P:Program}{w:World}{H H':Hp}{h h':Heap}{a:Addr}{o:HO}
theorem Bi.lt (x:Bi P w H h a o):a<h.objs.size:=by
 cases o with
 |lst xs=>obtain⟨_,_,_,_,e⟩:=x;exact zt e
 |tup xs=>obtain⟨_,_,_,p⟩:=x;exact p.lt
 |dK kvs|dT kvs=>obtain⟨_,_,_,_,o,_,_,e,_⟩:=x;exact zt e
 |set S n=>obtain⟨o,_,_,_,e,_⟩:=x;exact zt e
 |ins C dx fs=>obtain⟨_,_,_,e,_⟩:=x;exact zt e
 |own y=>obtain⟨_,e⟩:=x;exact zt e
 |xd fs=>obtain⟨_,⟨_,_,_,e,_⟩,_⟩:=x;exact zt e
 |mB lo hi=>obtain⟨_,_,_,e⟩:=x;exact zt e
 |QV ob u=>obtain⟨e,_⟩:=x;exact zt e
 |Zs ps|met f y=>exact zt (show h.get? a=some _ from x)
 |ext φ=>obtain⟨_,⟨_,e⟩,_⟩:=x;exact zt e
theorem Paired.cT {α β:Type}{F G:α->β->Prop}:∀ {l₁:List α}{l₂:List β},Paired F l₁ l₂->(∀a b,F a b->G a b)->Paired G l₁ l₂
 |_,_,.nil,_=>.nil
 |_,_,.cons r t,f=>.cons (f _ _ r) (Paired.cT t f)
theorem Bi.NV (x:Bi P w H h a o)(k:∀b u,(b=a\/H b=some (.own a))->h.get? b=some u->h'.get? b=some u)
 (ho:∀b,H b=some (.own a)->H' b=some (.own a)) (ht:∀b xs,H b=some (.tup xs)->H' b=some (.tup xs)):Bi P w H' h' a o:=by
 induction o with
 |lst xs=>obtain⟨z,aa,n,r,e⟩:=x;exact⟨z,aa,n,r,k _ _ (.inl rfl) e⟩
 |tup xs=>obtain⟨z,aa,r,ob,e,c⟩:=x;exact⟨z,aa,r,ob,k _ _ (.inl rfl) e,c⟩
 |dK kvs=>obtain⟨z,y,vs,r,ob,es,ep,e,c⟩:=x;exact⟨z,y,vs,r,ob,es,ep,k _ _ (.inl rfl) e,c⟩
 |dT kvs =>
  obtain⟨z,y,xs,r,ob,es,ep,e,c⟩:=x;exact⟨z,y,xs,Paired.cT r λ p q z=>⟨z.1,ht _ _ z.2.1,z.2.2⟩,ob,es,ep,k _ _ (.inl rfl) e,c⟩
 |set S n=>obtain⟨ob,es,ep,t,e,c⟩:=x;exact⟨ob,es,ep,t,k _ _ (.inl rfl) e,c⟩
 |ins C dx fs =>
  obtain⟨d,z,ne,e,mA,⟨od,es,ep,e2,c⟩,r⟩:=x;exact⟨ho _ d,z,ne,k _ _ (.inl rfl) e,mA,⟨od,es,ep,k _ _ (.inr d) e2,c⟩,r⟩
 |own y=>obtain⟨ob,e⟩:=x;exact⟨ob,k _ _ (.inl rfl) e⟩
 |xd fs=>obtain⟨mA,⟨od,es,ep,e,c⟩,r⟩:=x;exact⟨mA,⟨od,es,ep,k _ _ (.inl rfl) e,c⟩,r⟩
 |mB lo hi=>obtain⟨t,u,v,e⟩:=x;exact⟨t,u,v,k _ _ (.inl rfl) e⟩
 |QV ob u ih=>obtain⟨e,q⟩:=x;exact⟨k _ _ (.inl rfl) e,ih q⟩
 |Zs ps =>
  have e:h.get? a=some {cls:=.none,data:=.fields ps}:=x;show h'.get? a=some {cls:=.none,data:=.fields ps};exact k a _ (.inl rfl) e
 |met f y =>
  have e:h.get? a=some (PySem.W.methodObj (.ref f) (.ref y)):=x;show h'.get? a=some (PySem.W.methodObj (.ref f) (.ref y));exact k a _ (.inl rfl) e
 |ext φ=>obtain⟨p,⟨o,e⟩,st⟩:=x;exact⟨st _ _ p λ o q=>k _ _ (.inl rfl) q,⟨o,k _ _ (.inl rfl) e⟩,st⟩
theorem FR.lt (x:FR P w H h)(e:H a=some o):a<h.objs.size:=(x a o e).lt
theorem FR.fresh (x:FR P w H h)(e:h.objs.size<=a):H a=none:=by
 cases q:H a with
 |none=>rfl
 |some u=>exact absurd (zC (x.lt q) e) (Nat.lt_irrefl _)
theorem FR.kept (x:FR P w H h)(k:∀b u,h.get? b=some u->h'.get? b=some u):FR P w H h':=λ a o e =>
 (x a o e).NV (λ b u _ q=>k b u q) (λ _ q=>q) λ _ _ q=>q
theorem FR.laid (x:FR P w H h)(k:∀b u,h.get? b=some u->h'.get? b=some u)(hp:h.objs.size<=a)(new:Bi P w (upd H a o) h' a o):FR P w (upd H a o) h':=λ b u e=>by
 have hn:=x.fresh hp;by_cases hb:b=a
 ·subst hb;rw[Ax] at e;cases e;exact new
 ·rw[Al hb] at e;exact (x b u e).NV (λ c v _ q=>k c v q) (λ c q=>by rw[Al (Av q hn)];exact q) λ c xs q=>by rw[Al (Av q hn)];exact q
end
def Rd (H:Hp)(a:Addr)(u:HO):Prop:=H a=some u\/∃o,H a=some (.QV o u)
theorem Rd.ok {P:Program}{w:World}{H:Hp}{h:Heap}{a:Addr}{u:HO}(r:Rd H a u)(x:FR P w H h):Bi P w H h a u:=by
 rcases r with r|⟨o,r⟩
 ·exact x a u r
 ·obtain⟨_,q⟩:=x a _ r;exact q
def iZ:Option HO->Prop
 |some (.lst _)|some (.dK _)|some (.dT _)|some (.set _ _)|some (.ins _ _ _)|some (.ext _)=>True
 |_=>False
section
variable {P:Program}{w:World}{H:Hp}{h h':Heap}{x e:Addr}{o':HO}
theorem FR.write (ok:FR P w H h)(mu:iZ (H x))(he:e=x\/H e=some (.own x))(k:∀b u,b≠e->h.get? b=some u->h'.get? b=some u)(cI:∃u,h'.get? e=some u)
 (new:Bi P w (upd H x o') h' x o'):FR P w (upd H x o') h':=λ b u q=>by
 have gn:∀c y,H c=some (.own y)->c≠x:=λ c y r z=>by subst z;rw[r] at mu;exact mu
 have ku:∀c xs,H c=some (.tup xs)->c≠x:=λ c xs r z=>by subst z;rw[r] at mu;exact mu
 by_cases hb:b=x
 ·subst hb;rw[Ax] at q;cases q;exact new
 ·rw[Al hb] at q;by_cases cU:b=e
  ·have q':H b=some (.own x):=by
    rcases he with z|z
    ·exact absurd (cU.trans z) hb
    ·rw[cU];exact z
   rw[q] at q';cases q';obtain⟨v,hv⟩:=cI;exact⟨v,by rw[cU];exact hv⟩
  ·refine (ok b u q).NV (λ c v hc r=>k c v ?_ r) (λ c r=>by rw[Al (gn c b r)];exact r) λ c xs r=>by rw[Al (ku c xs r)];exact r
   rcases hc with rfl|hc
   ·exact cU
   ·rintro rfl;rcases he with z|z
    ·exact gn c b hc z
    ·rw[hc] at z;cases z;exact hb rfl
end
structure Un (fs ex:List Addr)(H H':Hp)(h h':Heap):Prop where
 keep:∀b o,h.get? b=some o->H b=none->b∉fs->b∉ex->h'.get? b=some o
 slot:∀b o,h.get? b=some o->H b=none->b∈fs->b∉ex->∃sl,h'.get? b=some {o with slots:=sl}
 free:∀b o,h.get? b=some o->H b=none->b∉ex->H' b=none
 there:∀b o,h.get? b=some o->b∉ex->∃o',h'.get? b=some o'
 My:∀b xs,H b=some (.tup xs)->H' b=some (.tup xs)
 KY:∀b o u,H b=some (.QV o u)->H' b=some (.QV o u)
 Mz:∀b ps,H b=some (.Zs ps)->∃more,H' b=some (.Zs (ps++more))
section
variable {fs bS ex lb:List Addr}{H H1 H2:Hp}{h h1 h2 h':Heap}{a x e:Addr}{o:HO}
theorem Un.any (u:Un fs ex H H1 h h1){b:Addr}{ob:Obj}(q:h.get? b=some ob)(n:H b=none)(hx:b∉ex):∃sl,h1.get? b=some {ob with slots:=sl}:=by
 by_cases hb:b∈fs
 ·exact u.slot b ob q n hb hx
 ·exact⟨ob.slots,u.keep b ob q n hb hx⟩
theorem Un.kept (k:∀b u,h.get? b=some u->h'.get? b=some u):Un fs ex H H h h':=
 ⟨λ b ob q _ _ _=>k b ob q,λ b ob q _ _ _=>⟨ob.slots,k b ob q⟩,λ _ _ _ n _=>n,λ b ob q _=>⟨ob,k b ob q⟩,λ _ _ q=>q,λ _ _ _ q=>q,λ _ ps q=>⟨#[],by rw[q];simp⟩⟩
theorem Un.refl:Un fs ex H H h h:=Un.kept λ _ _ q=>q
theorem Un.laid (k:∀b u,h.get? b=some u->h'.get? b=some u)(hp:h.objs.size<=a)(hn:H a=none):Un fs ex H (upd H a o) h h' where
 keep:=λ b u q _ _ _=>k b u q
 slot:=λ b u q _ _ _=>⟨u.slots,k b u q⟩
 free:=λ b u q n _=>by rw[Al (zI (zC (zt q) hp))];exact n
 there:=λ b u q _=>⟨u,k b u q⟩
 My:=λ b xs q=>by rw[Al (Av q hn)];exact q
 KY:=λ b u xs q=>by rw[Al (Av q hn)];exact q
 Mz:=λ b ps q=>⟨#[],by rw[Al (Av q hn),q];simp⟩
theorem Un.write (mu:iZ (H x))(he:e=x\/H e=some (.own x))(k:∀b u,b≠e->h.get? b=some u->h'.get? b=some u)(cI:∃u,h'.get? e=some u):Un fs ex H (upd H x o) h h':=by
 have hx:∀b,H b=none->b≠x:=λ b n z=>by subst z;rw[n] at mu;exact mu
 have hb:∀b,H b=none->b≠e:=λ b n z=>by
  subst z;rcases he with r|r
  ·exact hx b n r
  ·rw[n] at r;cases r
 have hm:∀b u,H b=some u->¬ iZ (some u)->b≠x:=λ b u q nm z=>by subst z;rw[q] at mu;exact nm mu
 refine⟨λ b u q n _ _=>k b u (hb b n) q,λ b u q n _ _=>⟨u.slots,k b u (hb b n) q⟩,λ b u q n _=>by rw[Al (hx b n)];exact n,λ b u q _=>?_,
  λ b xs q=>by rw[Al (hm b _ q λ z=>z)];exact q,λ b u xs q=>by rw[Al (hm b _ q λ z=>z)];exact q,λ b ps q=>⟨#[],by rw[Al (hm b _ q λ z=>z),q];simp⟩⟩
 by_cases cU:b=e
 ·subst cU;exact cI
 ·exact⟨u,k b u cU q⟩
end
noncomputable def C4 (h:Heap)(H:Hp):List Addr:=(zD h.objs.size).filter λ a=>(H a).isSome
noncomputable def NW (h:Heap)(H:Hp):Heap:=PySem.W.hideAll h (C4 h H)
theorem Tv (h:Heap)(H:Hp):(NW h H).objs.size=h.objs.size:=PySem.W.hideAll_size _ _
theorem Vh {h:Heap}{H:Hp}{b:Addr}{o:Obj}(e:h.get? b=some o)(n:H b=none):(NW h H).get? b=some o:=
 y9 _ e λ hm=>by
  have q:(H b).isSome=true:=(yn.mp hm).2;rw[n] at q;simp at q
theorem XD {h:Heap}{H:Hp}{b:Addr}{o:Obj}(e:(NW h H).get? b=some o):h.get? b=some o/\H b=none:=by
 have e':h.get? b=some o:=PySem.W.of_hideAll (C4 h H) e;refine⟨e',?_⟩;cases q:H b with
 |none=>rfl
 |some x =>
  have hm:b∈C4 h H:=yn.mpr ⟨yX.mpr (zt e'),by simp[q]⟩;have z:(NW h H).get? b=none:=PySem.W.hideAll_none (C4 h H) hm;rw[z] at e;cases e
noncomputable def XE (g h:Heap)(L:Addr):List (Addr×Obj):=(zD h.objs.size).filterMap λ a=>if a=L\/(g.get? a).isSome=true then none else (h.get? a).map λ o=>(a,o)
noncomputable def rest (g h:Heap)(L d:Addr):List (Addr×Obj):=(XE g h L).filter λ p=>decide (p.1≠d)
structure Mod (K:za)(mg:Str->Option Value)(base:Heap):Prop where
 Vi:K.In base
 glob:base.Ns mainGlobals mg
 blt:∃mb,base.Ns builtinsNs mb/\∀x:Str,x ≠ "__name__" -> mb x=bootBuiltins x
 nolimit:base.NoLimit
structure Cx where
 prog:Program
 w:World
 K:za
 mg:Str->Option Value
 base:Heap
 A:Around
 N:List Str
 s₀:Shared
 H₀:Hp
 env:Env
 outer:List Env
 stack:List Env
 ex:List Addr
 fn:Str->Bool
 calm:Bool
 pn:List (Addr×Obj)
 xe:Value->Shared->Prop
noncomputable def K1 (l:List Env):List Addr:=l.filterMap (·.frame)
noncomputable abbrev Cx.fs (X:Cx):List Addr:=K1 X.outer
def mY (sc:Scope)(x:Str):Prop:=sc.names.lookup x=some .local\/sc.names.lookup x=some .cell\/sc.names.lookup x=some .free
def Loc (sc:Scope)(x:Str):Prop:=sc.names.lookup x=some .local\/sc.names.lookup x=some .cell
def Look (env:Env)(h:Heap)(m:Str->Option Value)(x:Str)(u:Value):Prop:=
 (env.kindOf x=some .local/\m x=some u)\/((env.kindOf x=some .cell\/env.kindOf x=some .free)/\∃c,env.cells.lookup x=some c/\h.IsCell c (some u))
structure Cx.Ok (X:Cx):Prop where
 mod:Mod X.K X.mg X.base
 kind:X.env.scope.kind=.function
 glob:X.env.globals=mainGlobals
 blt:X.env.builtins=builtinsNs
 above:X.s₀.heap.objs.size<=X.env.locals
 inj:∀x y c,X.env.cells.lookup x=some c->X.env.cells.lookup y=some c->x=y
 has:∀x,(X.env.kindOf x=some .cell\/X.env.kindOf x=some .free)->∃c,X.env.cells.lookup x=some c
 jA:∀x c,X.fn x=true->X.env.cells.lookup x=some c->X.s₀.heap.objs.size<=c
 hd:X.calm=true->X.A.handled=none
 frames:X.A.frames=some X.stack
 Zt:X.stack=X.outer\/(X.stack=X.env::X.outer/\X.env.frame=some X.env.locals)
 mC:∀b∈X.ex,b≠X.env.locals/\∀x c,X.env.cells.lookup x=some c->c≠b
 bs:∀b o,X.base.get? b=some o->X.s₀.heap.get? b=some o/\X.H₀ b=none
 XF:X.base.objs.size<=X.s₀.heap.objs.size
 Vj:∀b o,X.base.get? b=some o->b∉X.ex
 Vk:∀b∈X.ex,b∉X.fs
 Iz:X.s₀.heap.FunFrames X.base X.outer
 cV:∀b∈X.fs,X.H₀ b=none
structure Inv (X:Cx)(pins:List (Addr×Obj))(σ:List (Option V))(H:Hp)(s:Shared):Prop where
 ok:X.Ok
 os:s.os=X.s₀.os
 bare:AllBare s.gens
 base:Un X.fs X.ex X.H₀ H X.s₀.heap s.heap
 loc:∃m,s.heap.Ns X.env.locals m/\∀(i:Nat) (x:Str) (v:V),X.N[i]?=some x->σ[i]?=some (some v)->mY X.env.scope x->∃u,RelV v u/\Look X.env s.heap m x u
 cell:∀x c,X.env.cells.lookup x=some c->∃v,s.heap.IsCell c v
 free:H X.env.locals=none
 G5:∀x c,X.env.cells.lookup x=some c->H c=none
 pin:∀p∈X.pn++pins,s.heap.get? p.1=some p.2/\H p.1=none/\p.1≠X.env.locals/\p.1∉X.fs/\∀v,p.2.data≠.cell v
 Ao:FR X.prog X.w H s.heap
 len:σ.length=X.N.length
section
variable {X:Cx}{pins:List (Addr×Obj)}{σ:List (Option V)}{H H':Hp}{s:Shared}{h':Heap}
theorem Cx.Ok.mZ (ok:X.Ok){b:Addr}{o:Obj}(e:X.base.get? b=some o):b∉X.fs:=λ hb=>by
 have:=(ok.Iz.mem hb).1;rw[e] at this;cases this
theorem Inv.bs (I:Inv X pins σ H s):∀b o,X.base.get? b=some o->s.heap.get? b=some o/\H b=none:=λ b o e =>
 ⟨I.base.keep b o (I.ok.bs b o e).1 (I.ok.bs b o e).2 (I.ok.mZ e) (I.ok.Vj b o e),I.base.free b o (I.ok.bs b o e).1 (I.ok.bs b o e).2 (I.ok.Vj b o e)⟩
theorem Inv.bk (I:Inv X pins σ H s):∀b o,X.base.get? b=some o->s.heap.get? b=some o:=λ b o e=>(I.bs b o e).1
theorem Inv.mod (I:Inv X pins σ H s):Mod X.K X.mg X.base:=I.ok.mod
theorem Inv.Mx (I:Inv X pins σ H s):X.K.In s.heap:=I.ok.mod.Vi.keeps I.bk
theorem Inv.fr (I:Inv X pins σ H s):∃m,Fr X.base X.env.locals s.heap m:=
 let ⟨m,hn,_⟩:=I.loc
 ⟨m,hn,I.bk,yi I.ok.XF I.ok.above⟩
theorem Inv.lt (I:Inv X pins σ H s):X.env.locals<s.heap.objs.size:=let ⟨_,hn,_⟩:=I.loc;hn.lt
theorem Inv.sz (I:Inv X pins σ H s):X.s₀.heap.objs.size<=s.heap.objs.size:=yi I.ok.above (yj I.lt)
theorem Inv.nA (I:Inv X pins σ H s){a:Addr}(h:s.heap.objs.size<=a):a∉X.fs:=λ hb=>by
 obtain⟨_,o,ho,_⟩:=I.ok.Iz.mem hb;exact absurd (zC (zt ho) (yi I.sz h)) (Nat.lt_irrefl _)
theorem Inv.cW (I:Inv X pins σ H s):∀x c,X.env.cells.lookup x=some c->c≠X.env.locals:=λ x c e z=>by
 obtain⟨v,o,ho,hd⟩:=I.cell x c e;obtain⟨m,⟨o',es,ep,bH,bT,_⟩,_⟩:=I.loc;rw[z,bH] at ho;cases ho;rw[bT] at hd;cases hd
theorem Inv.Iz (I:Inv X pins σ H s):s.heap.FunFrames X.base X.outer:=by
 have all:∀(l:List Env),(∀b∈K1 l,b∈X.fs)->X.s₀.heap.FunFrames X.base l->s.heap.FunFrames X.base l:=by
  intro l;induction l with
  |nil=>intro _ _;trivial
  |cons env r ih =>
   intro hs hl;obtain⟨hk,⟨L,o,hf,hn,ho,hd⟩,hr⟩:=hl;have hL:L∈X.fs:=hs L (by unfold K1;rw[List.filterMap_cons,hf];exact zd);obtain⟨sl,e⟩:=I.base.slot L o ho (I.ok.cV L hL) hL λ z=>I.ok.Vk L z hL;exact⟨hk,⟨L,_,hf,hn,e,hd⟩,ih (λ b hb=>hs b (by unfold K1;rw[List.filterMap_cons,hf];exact zf _ hb)) hr⟩
 exact all X.outer (λ _ hb=>hb) I.ok.Iz
theorem Inv.stack (I:Inv X pins σ H s):s.heap.FunFrames X.base X.stack:=by
 rcases I.ok.Zt with e|⟨e,hf⟩
 ·rw[e];exact I.Iz
 ·rw[e];obtain⟨m,hn,_⟩:=I.loc;refine .cons (by rw[I.ok.kind];decide) hf hn ?_ I.Iz;exact Heap.get?_none_of_le (yi I.ok.XF I.ok.above)
theorem Inv.QW (I:Inv X pins σ H s):∀b∈K1 X.stack,b∈X.env.locals::X.fs:=λ b hb=>by
 rcases I.ok.Zt with e|⟨e,hf⟩
 ·rw[e] at hb;exact zf _ hb
 ·rw[e] at hb;unfold K1 at hb;rw[List.filterMap_cons,hf] at hb;exact hb
theorem Inv.NX (I:Inv X pins σ H s):∀b∈K1 X.stack,H b=none:=λ b hb=>by
 rcases zp.mp (I.QW b hb) with e|hb
 ·rw[e];exact I.free
 ·obtain⟨_,o,ho,_⟩:=I.ok.Iz.mem hb;exact I.base.free b o ho (I.ok.cV b hb) λ z=>I.ok.Vk b z hb
theorem Inv.step {g':Array GenState}{t':Nat}{d':Drawn}{ch:List Addr}(I:Inv X pins σ H s)
 (cq:∀b∈ch,(b∈X.ex\/X.s₀.heap.objs.size<=b)/\b≠X.env.locals/\(∀x c,X.env.cells.lookup x=some c->c≠b)/\∀p∈X.pn++pins,p.1≠b)
 (keep:∀b o,b≠X.env.locals->b∉X.fs->b∉ch->s.heap.get? b=some o->H b=none->h'.get? b=some o)
 (slot:∀b o,b≠X.env.locals->b∈X.fs->b∉ch->s.heap.get? b=some o->H b=none->∃sl,h'.get? b=some {o with slots:=sl}) (free:∀b o,b∉ch->s.heap.get? b=some o->H b=none->H' b=none)
 (there:∀b o,b∉ch->s.heap.get? b=some o->∃o',h'.get? b=some o')
 (My:∀b xs,H b=some (.tup xs)->H' b=some (.tup xs)) (KY:∀b o u,H b=some (.QV o u)->H' b=some (.QV o u)) (Mz:∀b ps,H b=some (.Zs ps)->∃more,H' b=some (.Zs (ps++more)))
 (ns:∀m,s.heap.Ns X.env.locals m->h'.Ns X.env.locals m) (Ao:FR X.prog X.w H' h') (hg:AllBare g'):
 Inv X pins σ H' {s with heap:=h',gens:=g',drawn:=d',toks:=t' }:=by
 have qq:∀b o,X.s₀.heap.get? b=some o->b≠X.env.locals:=λ b o e=>zI (zC (zt e) I.ok.above);have f8:∀b o,X.s₀.heap.get? b=some o->b∉X.ex->b∉ch:=λ b o e hx hb=>by
  rcases (cq b hb).1 with z|z
  ·exact hx z
  ·exact absurd (zC (zt e) z) (Nat.lt_irrefl _)
 have cellK:∀x c,X.env.cells.lookup x=some c->∀v,s.heap.IsCell c v->h'.IsCell c v:=λ x c e v ⟨o,ho,hd⟩=>by
  have gp:c∉ch:=λ z=>(cq c z).2.2.1 x c e rfl;by_cases hc:c∈X.fs
  ·obtain⟨sl,q⟩:=slot c o (I.cW x c e) hc gp ho (I.G5 x c e);exact⟨_,q,hd⟩
  ·exact⟨o,keep c o (I.cW x c e) hc gp ho (I.G5 x c e),hd⟩
 refine⟨I.ok,I.os,hg,⟨λ b o e n hb hx=>?_,λ b o e n hb hx=>?_,λ b o e n hx=>?_,λ b o e hx=>?_,λ b xs e=>My b xs (I.base.My b xs e),λ b o xs e=>KY b o xs (I.base.KY b o xs e),λ b ps e=>?_⟩,?_,λ x c e=>?_,?_,λ x c e=>?_,λ p hp=>?_,Ao,I.len⟩
 ·exact keep b o (qq b o e) hb (f8 b o e hx) (I.base.keep b o e n hb hx) (I.base.free b o e n hx)
 ·obtain⟨sl,e1⟩:=I.base.slot b o e n hb hx;obtain⟨jr,e2⟩:=slot b _ (qq b o e) hb (f8 b o e hx) e1 (I.base.free b o e n hx);exact⟨jr,e2⟩
 ·obtain⟨o',e1⟩:=I.base.there b o e hx;exact free b o' (f8 b o e hx) e1 (I.base.free b o e n hx)
 ·obtain⟨o',e1⟩:=I.base.there b o e hx;exact there b o' (f8 b o e hx) e1
 ·obtain⟨m1,e1⟩:=I.base.Mz b ps e;obtain⟨m2,e2⟩:=Mz b _ e1;exact⟨m1++m2,by rw[e2,Array.append_assoc]⟩
 ·obtain⟨m,hn,hl⟩:=I.loc;refine⟨m,ns m hn,λ i x v e1 e2 e3=>?_⟩;obtain⟨u,r,l⟩:=hl i x v e1 e2 e3;refine⟨u,r,?_⟩;rcases l with l|⟨k,c,e,z⟩
  ·exact .inl l
  ·exact .inr ⟨k,c,e,cellK x c e _ z⟩
 ·obtain⟨v,z⟩:=I.cell x c e;exact⟨v,cellK x c e v z⟩
 ·obtain⟨m,⟨o,_,_,ho,_⟩,_⟩:=I.loc;exact free _ o (λ z=>(cq _ z).2.1 rfl) ho I.free
 ·obtain⟨v,o,ho,hd⟩:=I.cell x c e;exact free c o (λ z=>(cq c z).2.2.1 x c e rfl) ho (I.G5 x c e)
 ·obtain⟨e,n,ne,nf,d⟩:=I.pin p hp;have gp:p.1∉ch:=λ z=>(cq p.1 z).2.2.2 p hp rfl;exact⟨keep p.1 p.2 ne nf gp e n,free p.1 p.2 gp e n,ne,nf,d⟩
theorem Inv.un {t':Nat}(I:Inv X pins σ H s)(u:Un X.fs [] H H' s.heap h')(Ao:FR X.prog X.w H' h'):Inv X pins σ H' {s with heap:=h',toks:=t' }:=by
 obtain⟨m,⟨o,es,ep,ho,r⟩,_⟩:=id I.loc;obtain⟨sl,hL⟩:=u.any ho I.free (by simp);exact I.step (g':=s.gens) (d':=s.drawn) (ch:=[]) (λ _ z=>nomatch z) (λ b o _ hb _ e n=>u.keep b o e n hb (by simp)) (λ b o _ hb _ e n=>u.slot b o e n hb (by simp)) (λ b o _ e n=>u.free b o e n (by simp)) (λ b o _ e=>u.there b o e (by simp)) u.My u.KY u.Mz (λ m' hm=>by
  obtain⟨o',lc,ld,bH,r'⟩:=hm;rw[ho] at bH;cases bH;exact⟨_,lc,ld,hL,r'⟩) Ao I.bare
theorem Inv.call {g':Array GenState}{t':Nat}{d':Drawn}{ch:List Addr}(I:Inv X pins σ H s)(u:Un (K1 X.stack) ch H H' s.heap h')(Ao:FR X.prog X.w H' h')(hg:AllBare g')
 (cq:∀b∈ch,(b∈X.ex\/X.s₀.heap.objs.size<=b)/\b≠X.env.locals/\(∀x c,X.env.cells.lookup x=some c->c≠b)/\∀p∈X.pn++pins,p.1≠b):
 Inv X pins σ H' {s with heap:=h',gens:=g',drawn:=d',toks:=t' }:=by
 obtain⟨m,⟨o,es,ep,ho,r⟩,_⟩:=id I.loc;obtain⟨sl,hL⟩:=u.any ho I.free λ z=>(cq _ z).2.1 rfl;exact I.step (ch:=ch) cq (λ b o hL hb hc e n=>u.keep b o e n (λ z=>(zp.mp (I.QW b z)).elim hL hb) hc) (λ b o _ _ hc e n=>u.any e n hc) (λ b o hc e n=>u.free b o e n hc) (λ b o hc e=>u.there b o e hc) u.My u.KY u.Mz (λ m' hm=>by
  obtain⟨o',lc,ld,bH,r'⟩:=hm;rw[ho] at bH;cases bH;exact⟨_,lc,ld,hL,r'⟩) Ao hg
theorem Inv.turned {t':Nat}{it:Addr}(I:Inv X pins σ H s)(k:∀b o,b≠it->s.heap.get? b=some o->h'.get? b=some o)(hn:H it=none)(hL:it≠X.env.locals)
 (h1:it∈X.ex\/X.s₀.heap.objs.size<=it) (h2:∀x c,X.env.cells.lookup x=some c->c≠it) (h3:∀p∈X.pn++pins,p.1≠it):Inv X pins σ H {s with heap:=h',toks:=t' }:=by
 have qr:∀b u,H b=some u->b≠it:=λ b u e z=>by rw[z,hn] at e;cases e
 refine I.step (g':=s.gens) (d':=s.drawn) (ch:=[it]) (λ b hb=>?_) (λ b o _ _ hc e _=>k b o (λ z=>hc (by simp[z])) e) (λ b o _ _ hc e _=>⟨o.slots,k b o (λ z=>hc (by simp[z])) e⟩) (λ _ _ _ _ n=>n)
  (λ b o hc e=>⟨o,k b o (λ z=>hc (by simp[z])) e⟩) (λ _ _ e=>e) (λ _ _ _ e=>e) (λ b ps e=>⟨#[],by rw[e];simp⟩) (λ m hm=>?_) (λ b u e=>?_) I.bare
 ·have e:b=it:=by simpa using hb
  subst e;exact⟨h1,hL,h2,h3⟩
 ·obtain⟨o,es,ep,ho,r⟩:=hm;exact⟨o,es,ep,k _ o (yd hL) ho,r⟩
 ·refine (I.Ao b u e).NV (λ c v hc q=>k c v ?_ q) (λ _ q=>q) λ _ _ q=>q;rcases hc with z|z
  ·rw[z];exact qr b u e
  ·exact qr c _ z
theorem Inv.tok (I:Inv X pins σ H s)(t:Nat):Inv X pins σ H {s with toks:=t}:=I.un (h':=s.heap) (t':=t) Un.refl I.Ao
theorem Inv.kept {t':Nat}(I:Inv X pins σ H s)(k:∀b u,s.heap.get? b=some u->h'.get? b=some u):Inv X pins σ H {s with heap:=h',toks:=t' }:=I.un (Un.kept k) (I.Ao.kept k)
theorem Inv.laid {a:Addr}{o:HO}{t':Nat}(I:Inv X pins σ H s)(k:∀b u,s.heap.get? b=some u->h'.get? b=some u)(hp:s.heap.objs.size<=a)(new:Bi X.prog X.w (upd H a o) h' a o):
 Inv X pins σ (upd H a o) {s with heap:=h',toks:=t' }:=I.un (Un.laid k hp (I.Ao.fresh hp)) (I.Ao.laid k hp new)
theorem Inv.write {x e:Addr}{o:HO}{t':Nat}(I:Inv X pins σ H s)(mu:iZ (H x))(he:e=x\/H e=some (.own x))(k:∀b u,b≠e->s.heap.get? b=some u->h'.get? b=some u)(cI:∃u,h'.get? e=some u)
 (new:Bi X.prog X.w (upd H x o) h' x o):Inv X pins σ (upd H x o) {s with heap:=h',toks:=t' }:=I.un (Un.write mu he k cI) (I.Ao.write mu he k cI new)
theorem Inv.weak {σ':List (Option V)}(I:Inv X pins σ H s)(hl:σ'.length=σ.length)(w:∀(i:Nat) v,σ'[i]?=some (some v)->σ[i]?=some (some v)):Inv X pins σ' H s:=
 ⟨I.ok,I.os,I.bare,I.base,let ⟨m,hn,bI⟩:=I.loc;⟨m,hn,λ i x v e1 e2 e3=>bI i x v e1 (w i v e2) e3⟩,I.cell,I.free,I.G5,I.pin,I.Ao,hl.trans I.len⟩
theorem Inv.IA {cJ:List (Addr×Obj)}(I:Inv X pins σ H s)(h:∀p∈cJ,s.heap.get? p.1=some p.2/\H p.1=none/\p.1≠X.env.locals/\p.1∉X.fs/\∀v,p.2.data≠.cell v):Inv X cJ σ H s:=
 ⟨I.ok,I.os,I.bare,I.base,I.loc,I.cell,I.free,I.G5,λ p hp=>(zM.mp hp).elim (λ z=>I.pin p (zK _ z)) (h p),I.Ao,I.len⟩
theorem P9 {N:List Str}(hN:N.Nodup){i j:Nat}{x:Str}(a:N[i]?=some x)(b:N[j]?=some x):i=j:=by
 obtain⟨h1,e1⟩:=zE.mp a;obtain⟨h2,e2⟩:=zE.mp b;exact (List.getElem_inj hN).mp (e1.trans e2.symm)
theorem MV {M:Model}{A:Around}{E:Value->Shared->Prop}{i:Nat}{x:Str}{v:V}{u:Value}{Q:Unit->Shared->Prop}(I:Inv X pins σ H s)(hN:X.N.Nodup)(hi:X.N[i]?=some x)(hx:Loc X.env.scope x)(r:RelV v u)
 (h:∀s',Inv X pins (σ.set i (some v)) H s'->(∃a,yR a s.heap s'.heap/\(a=X.env.locals\/X.env.cells.lookup x=some a))->Q () s') (hf:X.fn x=true\/X.env.scope.names.lookup x=some .local:=by first|exact .inl rfl|exact .inr rfl|assumption):wpAny M A (storeName X.env x u) Q E s:=by
 obtain⟨m,hn,hl⟩:=id I.loc;have lf:(X.env.scope.kind==.class||(X.env.scope.kind==.module&&X.env.locals != X.env.globals))=false:=by rw[I.ok.kind];rfl
 have hiσ:i<σ.length:=by rw[I.len];exact (zE.mp hi).1
 have cW:=I.cW;have tracked:∀ {a:Addr} {h':Heap},(∃o,s.heap.get? a=some o/\H a=none)->yR a s.heap h'->FR X.prog X.w H h':=fun {a h'} ha hs b ob e=>by
  obtain⟨_,_,cL⟩:=ha;refine (I.Ao b ob e).NV (λ c w' hc q=>(hs.2 c ?_).trans q) (λ _ q=>q) λ _ _ q=>q;rintro rfl;rcases hc with rfl|hc
  ·rw[cL] at e;cases e
  ·rw[cL] at hc;cases hc
 rcases hx with hk|hk
 ·refine wpAny_storeName_local hk hn (λ h' cr hs=>?_) lf;obtain⟨oL,_,_,cX,_⟩:=id hn;refine h _ ⟨I.ok,I.os,I.bare,⟨λ b o e n hb hx=>?_,λ b o e n hb hx=>?_,I.base.free,λ b o e hx=>?_,I.base.My,I.base.KY,I.base.Mz⟩,⟨_,cr,λ j y v' e1 e2 e3=>?_⟩,λ y c e=>?_,I.free,I.G5,λ p hp=>?_,tracked ⟨oL,cX,I.free⟩ hs,by simpa using I.len⟩ ⟨_,hs,.inl rfl⟩
  ·exact (hs.2 b (zI (zC (zt e) I.ok.above))).trans (I.base.keep b o e n hb hx)
  ·obtain⟨sl,e1⟩:=I.base.slot b o e n hb hx;exact⟨sl,(hs.2 b (zI (zC (zt e) I.ok.above))).trans e1⟩
  ·obtain⟨o',e1⟩:=I.base.there b o e hx;exact⟨o',(hs.2 b (zI (zC (zt e) I.ok.above))).trans e1⟩
  ·by_cases hj:j=i
   ·subst hj;rw[hi] at e1;cases e1;rw[zU hiσ] at e2;cases e2;exact⟨u,r,.inl ⟨hk,by simp⟩⟩
   ·rw[yq (yd hj)] at e2;obtain⟨u',r',q⟩:=hl j y v' e1 e2 e3;refine⟨u',r',?_⟩;rcases q with ⟨k,e⟩|⟨k,c,e,z⟩
    ·refine .inl ⟨k,?_⟩;have:y≠x:=λ e=>hj (P9 hN e1 (e▸hi));simp[this,e]
    ·exact .inr ⟨k,c,e,z.sameBut hs (cW y c e)⟩
  ·obtain⟨w',z⟩:=I.cell y c e;exact⟨w',z.sameBut hs (cW y c e)⟩
  ·obtain⟨e,n,ne,nf,d⟩:=I.pin p hp;exact⟨(hs.2 p.1 ne).trans e,n,ne,nf,d⟩
 ·have lg:X.fn x=true:=by
   rcases hf with z|z
   ·exact z
   ·rw[z] at hk;cases hk
  obtain⟨c,hc⟩:=I.ok.has x (.inl hk);obtain⟨w',z⟩:=I.cell x c hc;refine wpAny_storeName_cell I.ok.kind hk hc z (λ h' cu hs=>?_);obtain⟨oc,qt,lh⟩:=id z;refine h {s with heap:=h' } ⟨I.ok,I.os,I.bare,⟨λ b o e n hb hx=>?_,λ b o e n hb hx=>?_,I.base.free,λ b o e hx=>?_,I.base.My,I.base.KY,I.base.Mz⟩,⟨m,hn.sameBut hs (yd (cW x c hc)),λ j y v' e1 e2 e3=>?_⟩,λ y c' e=>?_,I.free,I.G5,λ p hp=>?_,tracked ⟨oc,qt,I.G5 x c hc⟩ hs,by simpa using I.len⟩ ⟨c,hs,.inr hc⟩
  ·exact (hs.2 b (zI (zC (zt e) (I.ok.jA x c lg hc)))).trans (I.base.keep b o e n hb hx)
  ·obtain⟨sl,e1⟩:=I.base.slot b o e n hb hx;exact⟨sl,(hs.2 b (zI (zC (zt e) (I.ok.jA x c lg hc)))).trans e1⟩
  ·obtain⟨o',e1⟩:=I.base.there b o e hx;exact⟨o',(hs.2 b (zI (zC (zt e) (I.ok.jA x c lg hc)))).trans e1⟩
  ·by_cases hj:j=i
   ·subst hj;rw[hi] at e1;cases e1;rw[zU hiσ] at e2;cases e2;exact⟨u,r,.inr ⟨.inl hk,c,hc,cu⟩⟩
   ·rw[yq (yd hj)] at e2;obtain⟨u',r',q⟩:=hl j y v' e1 e2 e3;refine⟨u',r',?_⟩;rcases q with q|⟨k,c',e,z'⟩
    ·exact .inl q
    ·refine .inr ⟨k,c',e,z'.sameBut hs ?_⟩;rintro rfl;exact hj (P9 hN e1 (I.ok.inj _ _ _ e hc▸hi))
  ·by_cases js:c'=c
   ·subst js;exact⟨_,cu⟩
   ·obtain⟨w2,z2⟩:=I.cell y c' e;exact⟨w2,z2.sameBut hs js⟩
  ·obtain⟨e,n,ne,nf,d⟩:=I.pin p hp;refine⟨(hs.2 p.1 ?_).trans e,n,ne,nf,d⟩;intro q;rw[q,qt] at e;have q':oc=p.2:=zH e;exact d w' (by rw[<-q'];exact lh)
theorem Pa {M:Model}{A:Around}{E:Value->Shared->Prop}{i:Nat}{x:Str}{v:V}{u:Value}{Q:Unit->Shared->Prop}(I:Inv X pins σ H s)(hN:X.N.Nodup)(hi:X.N[i]?=some x)(hx:Loc X.env.scope x)(r:RelV v u)
 (h:∀s',Inv X pins (σ.set i (some v)) H s'->Q () s') (hf:X.fn x=true\/X.env.scope.names.lookup x=some .local:=by first|exact .inl rfl|exact .inr rfl|assumption):wpAny M A (storeName X.env x u) Q E s:=
 MV I hN hi hx r (λ s' I' _=>h s' I') hf
theorem Inv.Zu {s':Shared}{ch:List Addr}(I:Inv X pins σ H s)(ho:s'.os=s.os)(u:Un (K1 X.stack) ch H H' s.heap s'.heap)(Ao:FR X.prog X.w H' s'.heap)(hg:AllBare s'.gens)
 (cq:∀b∈ch,(b∈X.ex\/X.s₀.heap.objs.size<=b)/\b≠X.env.locals/\(∀x c,X.env.cells.lookup x=some c->c≠b)/\∀p∈X.pn++pins,p.1≠b):Inv X pins σ H' s':=by
 obtain⟨h',g',d',t',o'⟩:=s';have e:o'=s.os:=ho;subst e;exact I.call (g':=g') (t':=t') (d':=d') u Ao hg cq
end
noncomputable abbrev XK:=Value->Option Addr->Hp->Prop
noncomputable abbrev St:=List (Option V)
noncomputable abbrev VK:=V->Hp->Prop
noncomputable abbrev TE:=St->Hp->VK->Prop
noncomputable abbrev TT:=St->Hp->(Bool->Hp->Prop)->Prop
noncomputable abbrev TA:=St->Hp->(List V->Hp->Prop)->Prop
structure Ends where
 nx:St->Hp->Prop
 rt:VK
 bk:St->Hp->Prop:=λ _ _=>False
 ct:St->Hp->Prop:=λ _ _=>False
noncomputable abbrev TS:=Ends->St->Hp->Prop
def EP (X:Cx)(pins:List (Addr×Obj))(σ:St)(Q:VK)(u:Value)(s':Shared):Prop:=∃v H',Inv X pins σ H' s'/\RelV v u/\Q v H'
def TP (X:Cx)(pins:List (Addr×Obj))(σ:St)(Q:Bool->Hp->Prop)(b:Bool)(s':Shared):Prop:=∃H',Inv X pins σ H' s'/\Q b H'
def AP (X:Cx)(pins:List (Addr×Obj))(σ:St)(Q:List V->Hp->Prop)(us:List Value)(s':Shared):Prop:=∃vs H',Inv X pins σ H' s'/\Vals vs us/\Q vs H'
def SP (X:Cx)(pins:List (Addr×Obj))(D:Ends)(f:Flow)(s':Shared):Prop:=
 match f with
 | .next=>∃σ' H',Inv X pins σ' H' s'/\D.nx σ' H'
 | .brk=>∃σ' H',Inv X pins σ' H' s'/\D.bk σ' H'
 | .cont=>∃σ' H',Inv X pins σ' H' s'/\D.ct σ' H'
 | .ret u=>∃v σ' H',Inv X pins σ' H' s'/\RelV v u/\D.rt v H'
def PE (X:Cx)(e:Expr)(t:TE):Prop:=
 ∀(pins:List (Addr×Obj)) (s:Shared) (σ:St) (H:Hp) (Q:VK),Inv X pins σ H s->t σ H Q->wpAny (model X.prog X.w) X.A (eval e X.env) (EP X pins σ Q) X.xe s
def PT (X:Cx)(e:Expr)(t:TT):Prop:=
 ∀(pins:List (Addr×Obj)) (s:Shared) (σ:St) (H:Hp) (Q:Bool->Hp->Prop),Inv X pins σ H s->t σ H Q->wpAny (model X.prog X.w) X.A (isTrue e X.env (eval e X.env)) (TP X pins σ Q) X.xe s
def PW (X:Cx)(e:Expr)(t:TT):Prop:=
 ∀(whole:Sem Value) (pins:List (Addr×Obj)) (s:Shared) (σ:St) (H:Hp) (Q:Bool->Hp->Prop),Inv X pins σ H s->t σ H Q->wpAny (model X.prog X.w) X.A (isTrue e X.env whole) (TP X pins σ Q) X.xe s
theorem PW.pt {X:Cx}{e:Expr}{t:TT}(h:PW X e t):PT X e t:=h _
def PA (X:Cx)(es:List Expr)(t:TA):Prop:=
 ∀(pos:Pos) (pins:List (Addr×Obj)) (s:Shared) (σ:St) (H:Hp) (Q:List V->Hp->Prop),Inv X pins σ H s->t σ H Q->wpAny (model X.prog X.w) X.A (spliced (backTo pos (starEach es X.env))) (AP X pins σ Q) X.xe s
def PS (X:Cx)(st:Stmt)(t:TS):Prop:=
 ∀(pins:List (Addr×Obj)) (s:Shared) (σ:St) (H:Hp) (D:Ends),Inv X pins σ H s->t D σ H->wpAny (model X.prog X.w) X.A (exec st X.env) (SP X pins D) X.xe s
def Sf (X:Cx)(st:List Stmt)(t:TS):Prop:=
 ∀(pins:List (Addr×Obj)) (s:Shared) (σ:St) (H:Hp) (D:Ends),Inv X pins σ H s->t D σ H->wpAny (model X.prog X.w) X.A (execs st X.env) (SP X pins D) X.xe s
theorem B2 {α:Type}{t:Sem α}{Q Q':α->Shared->Prop}{M:Model}{A:Around}{E:Value->Shared->Prop}{s:Shared}(h:wpAny M A t Q E s)(hQ:∀a s,Q a s->Q' a s):wpAny M A t Q' E s:=wpAny_mono h hQ λ _ _ x=>x
section
variable {X:Cx}
theorem bin {a b:Expr}{ta tb:TE}(ha:PE X a ta)(hb:PE X b tb){pins:List (Addr×Obj)}{s:Shared}{σ:St}{H:Hp}{R:V->V->Hp->Prop}(I:Inv X pins σ H s)(h:ta σ H λ x H1=>tb σ H1 λ y H2=>R x y H2)
 {α:Type} {Q:α->Shared->Prop} {f:Value->Value->Sem α}
 (hf:∀v u s2 x y H2,Inv X pins σ H2 s2->RelV x v->RelV y u->R x y H2->wpAny (model X.prog X.w) X.A (f v u) Q X.xe s2):
 wpAny (model X.prog X.w) X.A (eval a X.env) (λ v s₁=>wpAny (model X.prog X.w) X.A (eval b X.env) (λ u s₂=>wpAny (model X.prog X.w) X.A (f v u) Q X.xe s₂) X.xe s₁) X.xe s:=by
 refine B2 (ha pins s σ H _ I h) λ v s1 ⟨x,H1,I1,r1,q1⟩=>?_;refine B2 (hb pins s1 σ H1 _ I1 q1) λ u s2 ⟨y,H2,I2,r2,q2⟩=>?_;exact hf v u s2 x y H2 I2 r1 r2 q2
noncomputable def Pb (i:Nat):TE:=λ σ H Q=>∃v,σ[i]?=some (some v)/\Q v H
noncomputable def tC (v:V):TE:=λ _ H Q=>Q v H
theorem cY {i:Nat}{x:Str}{pos:Pos}(hN:X.N[i]?=some x)(hv:mY X.env.scope x)(hd:(x==("__debug__" : Str))=false:=by decide)(bd:(x==("__classdict__" : Str))=false:=by decide):PE X (.Name x pos) (Pb i):=by
 intro pins s σ H Q I h;obtain⟨v,e,h⟩:=h;obtain⟨m,hn,hl⟩:=I.loc;obtain⟨u,r,l⟩:=hl i x v hN e hv;have fin:EP X pins σ Q u s:=⟨v,H,I,r,h⟩;rcases l with ⟨hk,hm⟩|⟨hk,c,hc,bB⟩
 ·exact wpAny_Name (wpAny_loadName_local I.ok.kind hk hn hm fin) hd
 ·rcases hk with hk|hk
  ·exact wpAny_Name (wpAny_loadName_cell I.ok.kind hk hc bB fin) hd
  ·exact wpAny_Name (wpAny_loadName_free I.ok.kind hk hc bB fin bd) hd
theorem cZ {i j pos}:PE X (.Constant (.int i) j pos) (tC (.int i)):=λ _ _ _ H _ I h=>wpAny_Constant_int ⟨.int i,H,I.tok _,⟨_,rfl⟩,h⟩
theorem jB {b j pos}:PE X (.Constant (.bool b) j pos) (tC (.bl b)):=λ _ _ _ H _ I h=>Constant_bool ⟨.bl b,H,I,rfl,h⟩
theorem dA {j pos}:PE X (.Constant .none j pos) (tC .AD):=λ _ _ _ H _ I h=>Constant_none ⟨.AD,H,I,rfl,h⟩
theorem dB {x j pos}:PE X (.Constant (.str x) j pos) (tC (.str x)):=λ _ _ _ H _ I h=>Calls.Constant_str ⟨.str x,H,I.tok _,⟨_,rfl⟩,h⟩
def Gl (X:Cx)(x:Str):Prop:=X.env.kindOf x=some .globalImplicit
theorem NY {E:Value->Shared->Prop}{pins:List (Addr×Obj)}{s:Shared}{σ:St}{H:Hp}{x:Str}{u:Value}{pos:Pos}{Q:Value->Shared->Prop}(I:Inv X pins σ H s)(hg:Gl X x)(hm:X.mg x=some u)(h:Q u s)
 (hd:(x==("__debug__" : Str))=false:=by decide):wpAny (model X.prog X.w) X.A (eval (.Name x pos) X.env) Q E s:=
 Calls.Name_function_global I.ok.kind hg (Calls.loadGlobal_global (by rw[I.ok.glob];exact I.mod.glob.keeps I.bk) hm h) hd
theorem Ek {E:Value->Shared->Prop}{pins:List (Addr×Obj)}{s:Shared}{σ:St}{H:Hp}{x:Str}{u:Value}{pos:Pos}{Q:Value->Shared->Prop}(I:Inv X pins σ H s)(hg:Gl X x)(hm:X.mg x=none)(hv:bootBuiltins x=some u)(h:Q u s)
 (hn:x ≠ "__name__" := by decide) (hd:(x==("__debug__" : Str))=false:=by decide):wpAny (model X.prog X.w) X.A (eval (.Name x pos) X.env) Q E s:=by
 obtain⟨mb,h1,h2⟩:=I.mod.blt;exact Calls.Name_function_global I.ok.kind hg (Calls.loadGlobal_builtin (by rw[I.ok.glob];exact I.mod.glob.keeps I.bk) hm (by rw[I.ok.blt];exact h1.keeps I.bk) ((h2 x hn).trans hv) h) hd
theorem XG {x:Str}{v:V}{u:Value}{pos:Pos}(hg:Gl X x)(hm:X.mg x=none)(hv:bootBuiltins x=some u)(r:RelV v u)(hn:x ≠ "__name__" := by decide)(hd:(x==("__debug__" : Str))=false:=by decide):PE X (.Name x pos) (tC v):=
 λ _ _ _ H _ I h=>Ek I hg hm hv ⟨v,H,I,r,h⟩ hn hd
variable {a b:Expr}{ta tb:TE}{pos:Pos}
def PC (X:Cx)(op:CmpOp)(a b:Expr)(t:TE):Prop:=
 ∀(pins:List (Addr×Obj)) (s:Shared) (σ:St) (H:Hp) (Q:VK),Inv X pins σ H s->t σ H Q->
  wpAny (model X.prog X.w) X.A (eval a X.env) (λ v s₁=>wpAny (model X.prog X.w) X.A (eval b X.env) (λ u s₂=>wpAny (model X.prog X.w) X.A (compareOp op v u) (EP X pins σ Q) X.xe s₂) X.xe s₁) X.xe s
theorem Pc (b:Expr){op:CmpOp}(h:op≠.In)(h2:op≠.NotIn):behindInMarks op b=false:=by
 have e1:(op==CmpOp.In)=false:=by cases op<;>first|rfl|exact absurd rfl h
 have e2:(op==CmpOp.NotIn)=false:=by cases op<;>first|rfl|exact absurd rfl h2
 cases b<;>simp[behindInMarks,e1,e2]
noncomputable def nB (ta:TE):TE:=λ σ H Q=>ta σ H λ x H1=>Q (.bl (decide (x=.AD))) H1
noncomputable def jC (ta:TE):TE:=λ σ H Q=>ta σ H λ x H1=>Q (.bl (!decide (x=.AD))) H1
theorem RelV.Pd {x:V}{v:Value}(r:RelV x v):(v==yE)=decide (x=.AD):=by
 cases x with
 |AD|bl _=>cases r;rfl
 |int _|str _|cS _|iX _=>obtain⟨t,rfl⟩:=r;rfl
 |ref _|ty _=>cases r;rfl
theorem Vl {j pos'}(ha:PE X a ta):PC X .Is a (.Constant .none j pos') (nB ta):=by
 intro pins s σ H Q I h;refine B2 (ha pins s σ H _ I h) λ v s1 ⟨x,H1,I1,r1,q1⟩=>?_;exact Constant_none (is_none_gen ⟨.bl _,H1,I1,by rw[r1.Pd];rfl,q1⟩)
theorem XH {j pos'}(ha:PE X a ta):PC X .IsNot a (.Constant .none j pos') (jC ta):=by
 intro pins s σ H Q I h;refine B2 (ha pins s σ H _ I h) λ v s1 ⟨x,H1,I1,r1,q1⟩=>?_;exact Constant_none (isnot_none_gen ⟨.bl _,H1,I1,by rw[r1.Pd];rfl,q1⟩)
noncomputable def tB (t:TE):TT:=λ σ H Q=>t σ H λ x H1=>∃c,x=.bl c/\Q c H1
theorem dC {op:CmpOp}{t:TE}(h:PC X op a b t)(h1:behindInMarks op b=false:=by first | exact Pc _ (by decide) (by decide) | rfl):PE X (.Compare a [op] [b] pos) t:=λ pins s σ H Q I hw=>wpAny_Compare1 (h pins s σ H Q I hw) h1
theorem Vm {op:CmpOp}{t:TE}(h:PC X op a b t)(h1:behindInMarks op b=false:=by first | exact Pc _ (by decide) (by decide) | rfl):PT X (.Compare a [op] [b] pos) (tB t):=by
 intro pins s σ H Q I hw;refine wpAny_isTrue_Compare1 (B2 (h pins s σ H _ I hw) λ v s1 h1=>B2 h1 λ u s2 h2=>B2 h2 λ c s3 ⟨x,H1,I1,r1,q1⟩=>?_) h1;obtain⟨d,rfl,q⟩:=q1;cases r1;exact wpAny_truthy_bool ⟨H1,I1,q⟩
variable {tA jt:TT}{rest:List Expr}
noncomputable def nE (t u:TT):TT:=λ σ H Q=>t σ H λ c H1=>if c=true then u σ H1 Q else Q false H1
noncomputable def rN (t u:TT):TT:=λ σ H Q=>t σ H λ c H1=>if c=true then Q true H1 else u σ H1 Q
noncomputable def nF (t:TT):TT:=λ σ H Q=>t σ H λ c H1=>Q (!c) H1
theorem pw_and1 (ha:PT X a tA):PW X (.BoolOp .And [a] pos) tA:=by
 intro wh pins s σ H Q I h;refine isTrue_and (B2 (ha pins s σ H Q I h) λ c s1 e=>?_);cases c with
 |true=>exact isTrue_and_nil e
 |false=>exact e
theorem pw_or1 (ha:PT X a tA):PW X (.BoolOp .Or [a] pos) tA:=by
 intro wh pins s σ H Q I h;refine isTrue_or (B2 (ha pins s σ H Q I h) λ c s1 e=>?_);cases c with
 |false=>exact isTrue_or_nil e
 |true=>exact e
theorem pw_and (ha:PT X a tA)(hb:PW X (.BoolOp .And (b::rest) pos) jt):PW X (.BoolOp .And (a::b::rest) pos) (nE tA jt):=by
 intro wh pins s σ H Q I h;refine isTrue_and (B2 (ha pins s σ H _ I h) λ c s1 ⟨H1,I1,q1⟩=>?_);cases c with
 |true=>exact hb wh pins s1 σ H1 Q I1 q1
 |false=>exact⟨H1,I1,q1⟩
theorem pw_or (ha:PT X a tA)(hb:PW X (.BoolOp .Or (b::rest) pos) jt):PW X (.BoolOp .Or (a::b::rest) pos) (rN tA jt):=by
 intro wh pins s σ H Q I h;refine isTrue_or (B2 (ha pins s σ H _ I h) λ c s1 ⟨H1,I1,q1⟩=>?_);cases c with
 |true=>exact⟨H1,I1,q1⟩
 |false=>exact hb wh pins s1 σ H1 Q I1 q1
theorem dD (ha:PT X a tA):PT X (.UnaryOp .Not a pos) (nF tA):=by
 intro pins s σ H Q I h;exact isTrue_not (ha pins s σ H (λ c H1=>Q (!c) H1) I h)
noncomputable def jD (ta tb:TE):TE:=λ σ H Q=>ta σ H λ x H1=>∃c,x=.bl c/\if c=true then tb σ H1 Q else Q (.bl false) H1
noncomputable def nG (ta tb:TE):TE:=λ σ H Q=>ta σ H λ x H1=>∃c,x=.bl c/\if c=true then Q (.bl true) H1 else tb σ H1 Q
noncomputable def jE (ta:TE):TE:=λ σ H Q=>ta σ H λ x H1=>∃c,x=.bl c/\Q (.bl (!c)) H1
theorem Vn {op}{t:TE}(h:PE X a t):PE X (.BoolOp op [a] pos) t:=λ pins s σ H Q I hw=>BoolOp_one (h pins s σ H Q I hw)
theorem dE (ha:PE X a ta)(hb:PE X (.BoolOp .And (b::rest) pos) tb):PE X (.BoolOp .And (a::b::rest) pos) (jD ta tb):=by
 intro pins s σ H Q I h;refine BoolOp_and (B2 (ha pins s σ H _ I h) λ v s1 ⟨x,H1,I1,r1,q1⟩=>?_);obtain⟨c,rfl,q1⟩:=q1;cases r1;refine wpAny_truthy_bool ?_;cases c with
 |true=>exact hb pins s1 σ H1 Q I1 q1
 |false=>exact⟨.bl false,H1,I1,rfl,q1⟩
theorem Zv (ha:PE X a ta)(hb:PE X (.BoolOp .Or (b::rest) pos) tb):PE X (.BoolOp .Or (a::b::rest) pos) (nG ta tb):=by
 intro pins s σ H Q I h;refine BoolOp_or (B2 (ha pins s σ H _ I h) λ v s1 ⟨x,H1,I1,r1,q1⟩=>?_);obtain⟨c,rfl,q1⟩:=q1;cases r1;refine wpAny_truthy_bool ?_;cases c with
 |false=>exact hb pins s1 σ H1 Q I1 q1
 |true=>exact⟨.bl true,H1,I1,rfl,q1⟩
theorem dG (ha:PE X a ta):PE X (.UnaryOp .Not a pos) (jE ta):=by
 intro pins s σ H Q I h;refine UnaryOp_ (B2 (ha pins s σ H _ I h) λ v s1 ⟨x,H1,I1,r1,q1⟩=>?_);obtain⟨c,rfl,q1⟩:=q1;cases r1;exact not_of (wpAny_truthy_bool ⟨.bl (!c),H1,I1,rfl,q1⟩)
end
def D8 (K:za)(H:Hp)(a:Addr)(xs:List V):Prop:=
 Rd H a (.lst xs) \/
  ∃(o:Obj) (aa:Array Value) (n:Nat),K.lookup a=some o/\o.cls=.type "list" /\ o.dict=none/\o.data=.seq aa n/\aa.size<=sizeLine/\Vals xs aa.toList
def El (K:za)(H:Hp)(a:Addr)(xs:List V):Prop:=
 Rd H a (.tup xs) \/
  ∃(o:Obj) (aa:Array Value) (n:Nat),K.lookup a=some o/\o.cls=.type "tuple" /\ o.data=.seq aa n/\aa.size<=sizeLine/\Vals xs aa.toList
noncomputable def nI:Value->Option V
 | .none=>some .AD
 | .bool b=>some (.bl b)
 | .int i _=>some (.int i)
 | .str x _=>some (.str x)
 | .bytes b _=>some (.cS b)
 | .float b _=>some (.iX b)
 | .ref a=>some (.ref a)
 | .type n=>some (.ty n)
 |_=>none
theorem RelV.abs {x:V}{u:Value}(r:RelV x u):nI u=some x:=by
 cases x with
 |AD|bl _=>cases r;rfl
 |int _|str _|cS _|iX _=>obtain⟨t,rfl⟩:=r;rfl
 |ref _|ty _=>cases r;rfl
theorem RelV.inj {x y:V}{u:Value}(r:RelV x u)(q:RelV y u):x=y:=zH (r.abs.symm.trans q.abs)
theorem Vals.inj:∀ {xs ys:List V}{us:List Value},Vals xs us->Vals ys us->xs=ys
 |_,_,_,.nil,.nil=>rfl
 |_,_,_,.cons r t,.cons r' t'=>by rw[r.inj r',Vals.inj t t']
section
variable {X:Cx}{pins:List (Addr×Obj)}{σ:St}{H:Hp}{s:Shared}{a:Addr}{xs ys:List V}
theorem D8.of {K:za}(h:H a=some (.lst xs)):D8 K H a xs:=.inl (.inl h)
theorem El.of {K:za}(h:H a=some (.tup xs)):El K H a xs:=.inl (.inl h)
theorem Inv.list (I:Inv X pins σ H s)(h:D8 X.K H a xs):∃aa:List Value,Vals xs aa/\PlainL s.heap a aa.toArray/\xs.length<=sizeLine:=by
 rcases h with h|⟨o,aa,n,hk,hc,hd,hs,hz,r⟩
 ·obtain⟨z,aa,n,r,e⟩:=h.ok I.Ao;exact⟨aa,r,⟨_,n,e,rfl,rfl,rfl⟩,z⟩
 ·refine⟨aa.toList,r,⟨o,n,I.Mx a o hk,hc,hd,by simpa using hs⟩,?_⟩;have e:=r.length;simp only[yv] at e;omega
theorem Inv.tuple (I:Inv X pins σ H s)(h:El X.K H a xs):∃aa:List Value,Vals xs aa/\IsTup s.heap a aa.toArray/\xs.length<=sizeLine:=by
 rcases h with h|⟨o,aa,n,hk,hc,hs,hz,r⟩
 ·obtain⟨z,aa,r,p⟩:=h.ok I.Ao;exact⟨aa,r,p,z⟩
 ·refine⟨aa.toList,r,⟨o,I.Mx a o hk,hc,n,by simpa using hs⟩,?_⟩;have e:=r.length;simp only[yv] at e;omega
theorem Inv.IB (I:Inv X pins σ H s)(h:D8 X.K H a xs)(h':D8 X.K H a ys):xs=ys:=by
 obtain⟨aa,r,⟨o,n,e,_,_,d⟩,_⟩:=I.list h;obtain⟨its',r',⟨o',n',e',_,_,d'⟩,_⟩:=I.list h';rw[e] at e';cases e';rw[d] at d';injection d' with d1 _
 have:aa=its':=by simpa using congrArg Array.toList d1
 subst this;exact r.inj r'
theorem Inv.EE (I:Inv X pins σ H s)(h:El X.K H a xs)(h':El X.K H a ys):xs=ys:=by
 obtain⟨aa,r,⟨o,e,_,n,d⟩,_⟩:=I.tuple h;obtain⟨its',r',⟨o',e',_,n',d'⟩,_⟩:=I.tuple h';rw[e] at e';cases e';rw[d] at d';injection d' with d1 _
 have:aa=its':=by simpa using congrArg Array.toList d1
 subst this;exact r.inj r'
end
noncomputable abbrev Cx.MA (X:Cx)(E:Value->Shared->Prop):Cx:={X with xe:=E}
noncomputable abbrev Cx.jF (X:Cx):Cx:=X.MA λ _ _=>False
theorem Cx.Ok.MA {X:Cx}(ok:X.Ok)(E:Value->Shared->Prop):(X.MA E).Ok:=
 ⟨ok.mod,ok.kind,ok.glob,ok.blt,ok.above,ok.inj,ok.has,ok.jA,ok.hd,ok.frames,ok.Zt,ok.mC,ok.bs,ok.XF,ok.Vj,ok.Vk,ok.Iz,ok.cV⟩
theorem Cx.Ok.G6 {X:Cx}{E:Value->Shared->Prop}(ok:(X.MA E).Ok):X.Ok:=
 ⟨ok.mod,ok.kind,ok.glob,ok.blt,ok.above,ok.inj,ok.has,ok.jA,ok.hd,ok.frames,ok.Zt,ok.mC,ok.bs,ok.XF,ok.Vj,ok.Vk,ok.Iz,ok.cV⟩
section
variable {X:Cx}{pins:List (Addr×Obj)}{σ:St}{H:Hp}{s:Shared}{E:Value->Shared->Prop}
theorem Inv.MA (I:Inv X pins σ H s)(E:Value->Shared->Prop):Inv (X.MA E) pins σ H s:=⟨I.ok.MA E,I.os,I.bare,I.base,I.loc,I.cell,I.free,I.G5,I.pin,I.Ao,I.len⟩
theorem Inv.G6 (I:Inv (X.MA E) pins σ H s):Inv X pins σ H s:=⟨I.ok.G6,I.os,I.bare,I.base,I.loc,I.cell,I.free,I.G5,I.pin,I.Ao,I.len⟩
theorem SP.G6 {D:Ends}{f:Flow}{s':Shared}(h:SP (X.MA E) pins D f s'):SP X pins D f s':=by
 cases f with
 |next|brk|cont=>obtain⟨σ',H',I,q⟩:=h;exact⟨σ',H',I.G6,q⟩
 |ret u=>obtain⟨v,σ',H',I,r,q⟩:=h;exact⟨v,σ',H',I.G6,r,q⟩
theorem Sf.jF {st:List Stmt}{t:TS}(h:Sf X.jF st t):Sf X st t:=λ pins s σ H D I hw =>
 wpAny_mono (h pins s σ H D (I.MA _) hw) (λ _ _ q=>q.G6) λ _ _ z=>yO z
end
section
variable {X:Cx}{st:Stmt}{rest:List Stmt}{t u:TS}{e:Expr}{te:TE}{pos:Pos}
noncomputable def jG:TS:=λ D σ H=>D.nx σ H
noncomputable def nJ (t u:TS):TS:=λ D σ H=>t {D with nx:=u D} σ H
theorem XI:Sf X [] jG:=λ _ _ σ H _ I h=>wpAny_execs_nil ⟨σ,H,I,h⟩
theorem Vo (h1:PS X st t)(h2:Sf X rest u):Sf X (st::rest) (nJ t u):=by
 intro pins s σ H D I h;refine wpAny_execs_cons (B2 (h1 pins s σ H {D with nx:=u D} I h) λ f s1 q=>?_);cases f with
 |next =>
  obtain⟨σ',H',I',q⟩:=q;exact h2 pins s1 σ' H' D I' q
 |ret v|brk|cont=>exact q
theorem XJ (h1:PS X st t):Sf X [st] t:=by
 intro pins s σ H D I h;refine wpAny_execs_cons (B2 (h1 pins s σ H D I h) λ f s1 q=>?_);cases f with
 |next=>exact wpAny_execs_nil q
 |ret v|brk|cont=>exact q
theorem Inv.quiet {pins:List (Addr×Obj)}{σ:St}{H:Hp}{s:Shared}(I:Inv X pins σ H s):interactive X.env=false:=by simp[interactive,I.ok.kind]
noncomputable def jH (te:TE):TS:=λ D σ H=>te σ H λ _ H1=>D.nx σ H1
theorem IC (he:PE X e te)(hs:swapsWith e none pos.line X.env=pure false:=by rfl):PS X (.Expr e pos) (jH te):=by
 intro pins s σ H D I h;exact wpAny_Expr_any (B2 (he pins s σ H _ I h) λ v s1 ⟨x,H1,I1,r1,q1⟩=>⟨σ,H1,I1,q1⟩) I.quiet hs
noncomputable def nK (te:TE):TS:=λ D σ H=>te σ H D.rt
theorem NZ (he:PE X e te):PS X (.Return (some e) pos) (nK te):=by
 intro pins s σ H D I h;exact wpAny_Return_some (B2 (he pins s σ H _ I h) λ v s1 ⟨x,H1,I1,r1,q1⟩=>⟨x,σ,H1,I1,r1,q1⟩)
noncomputable def nL (c:TT)(t u:TS):TS:=λ D σ H=>c σ H λ b H1=>if b=true then t D σ H1 else u D σ H1
theorem jI {c:Expr}{a b:List Stmt}{tc:TT}(hc:PT X c tc)(ha:Sf X a t)(hb:Sf X b u):PS X (.If c a b pos) (nL tc t u):=by
 intro pins s σ H D I h;refine wpAny_If (B2 (hc pins s σ H _ I h) λ d s1 ⟨H1,I1,q1⟩=>?_);cases d with
 |true=>exact ha pins s1 σ H1 D I1 q1
 |false=>exact hb pins s1 σ H1 D I1 q1
end
noncomputable abbrev TG:=V->St->Hp->(St->Hp->Prop)->Prop
noncomputable abbrev Zw:=List V->St->Hp->(St->Hp->Prop)->Prop
def PG (X:Cx)(target:Expr)(t:TG):Prop:=
 ∀(pins:List (Addr×Obj)) (s:Shared) (σ:St) (H:Hp) (v:V) (u:Value) (Q:St->Hp->Prop),Inv X pins σ H s->RelV v u->t v σ H Q->
  wpAny (model X.prog X.w) X.A (assign target X.env u) (λ _ s'=>∃σ' H',Inv X pins σ' H' s'/\Q σ' H') X.xe s
def jJ (X:Cx)(ts:List Expr)(t:Zw):Prop:=
 ∀(pins:List (Addr×Obj)) (s:Shared) (σ:St) (H:Hp) (vs:List V) (us:List Value) (Q:St->Hp->Prop),Inv X pins σ H s->Vals vs us->t vs σ H Q->
  wpAny (model X.prog X.w) X.A (assignInOrder ((assignEach ts X.env).map (·.2)) us) (λ _ s'=>∃σ' H',Inv X pins σ' H' s'/\Q σ' H') X.xe s
noncomputable abbrev dH:=V->V->V->Hp->(Hp->Prop)->Prop
def jK (X:Cx)(t:dH):Prop:=
 ∀(pins:List (Addr×Obj)) (s:Shared) (σ:St) (H:Hp) (o i v:V) (ov iv u:Value) (Q:Hp->Prop),Inv X pins σ H s->RelV o ov->RelV i iv->RelV v u->t o i v H Q->
  wpAny (model X.prog X.w) X.A (setItem ov iv u) (λ _ s'=>∃H',Inv X pins σ H' s'/\Q H') X.xe s
section
variable {X:Cx}{pos:Pos}
noncomputable def Sg (i:Nat):TG:=λ v σ H Q=>Q (σ.set i (some v)) H
theorem Sh {i:Nat}{x:Str}(hN:X.N.Nodup)(hi:X.N[i]?=some x)(hx:Loc X.env.scope x)(hf:X.fn x=true\/X.env.scope.names.lookup x=some .local:=by first | exact .inl rfl | exact .inr rfl | assumption):PG X (.Name x pos) (Sg i):=by
 intro pins s σ H v u Q I r h;exact wpAny_assign_Name (Pa I hN hi hx r (λ s' I'=>⟨_,H,I',h⟩) hf)
noncomputable def nM:Zw:=λ vs σ H Q=>vs=[]/\Q σ H
noncomputable def jL (t:TG)(u:Zw):Zw:=λ vs σ H Q=>∃v r,vs=v::r/\t v σ H λ σ' H'=>u r σ' H' Q
theorem XM:jJ X [] nM:=by
 intro pins s σ H vs us Q I r h;obtain⟨e,h⟩:=h;subst e;cases r;exact assignInOrder_nil ⟨σ,H,I,h⟩
theorem Vp {e:Expr}{es:List Expr}{t:TG}{u:Zw}(h1:PG X e t)(h2:jJ X es u)
 (hs:(assignEach (e::es) X.env).map (·.2)=assign e X.env::(assignEach es X.env).map (·.2):=by rfl):jJ X (e::es) (jL t u):=by
 intro pins s σ H vs us Q I r h;obtain⟨v,vr,e1,h⟩:=h;subst e1;cases r with
 |cons r rr =>
  rw[hs];refine assignInOrder_cons (B2 (h1 pins s σ H _ _ _ I r h) λ _ s1 ⟨σ1,H1,I1,q1⟩=>?_);exact h2 pins s1 σ1 H1 _ _ Q I1 rr q1
noncomputable def nN (K:za)(n:Nat)(t:Zw):TG:=λ v σ H Q=>∃a xs,v=.ref a/\El K H a xs/\xs.length=n/\t xs σ H Q
theorem dI {es:List Expr}{k:Nat}{t:Zw}{n:Nat}(hc:X.calm=true)(h:jJ X es t)
 (hn:(assignEach es X.env).length=n:=by rfl) (aU:(assignEach es X.env).findIdx? (·.1)=none:=by rfl):PG X (.Tuple es k pos) (nN X.K n t):=by
 intro pins s σ H v u Q I r hw;obtain⟨a,xs,e1,hq,hl,hw⟩:=hw;subst e1;cases r;obtain⟨aa,rv,ht,hz⟩:=I.tuple hq;refine assign_Tuple_tuple (I.ok.hd hc) ht (by simp[hn,<-hl,rv.length]) aU λ h' hx=>?_;have I1:Inv X pins σ H {s with heap:=h' }:=I.kept (t':=s.toks) λ b o e=>hx b o (zI (zt e)) e;exact h pins _ σ H xs _ Q I1 (by simpa using rv) hw
noncomputable def nO (to ti:TE)(t:dH):TG:=λ v σ H Q=>to σ H λ o H1=>ti σ H1 λ i H2=>t o i v H2 λ H3=>Q σ H3
theorem dJ {o i:Expr}{to ti:TE}{t:dH}(ho:PE X o to)(hi:PE X i ti)(hs:jK X t)
 (ha:∀v,assign (.Subscript o i pos) X.env v=(do
  let ov <-holding [v] (eval o X.env);let iv <-holding [v,ov] (eval i X.env)
  standAt pos
  holding [v,ov,iv] (setItem ov iv v)
  release [v,ov,iv] []):=by intro _;rfl):PG X (.Subscript o i pos) (nO to ti t):=by
 intro pins s σ H v u Q I r h;rw[ha];refine wpAny_bind (wpAny_holding (B2 (ho pins s σ H _ I h) λ ov s1 ⟨x,H1,I1,r1,q1⟩=>?_));refine wpAny_bind (wpAny_holding (B2 (hi pins s1 σ H1 _ I1 q1) λ iv s2 ⟨y,H2,I2,r2,q2⟩=>?_));refine wpAny_bind (wpAny_standAt (wpAny_bind (wpAny_holding (B2 (hs pins s2 σ H2 x y v ov iv u _ I2 r1 r2 r q2) λ _ s3 ⟨H3,I3,q3⟩=>?_))));exact wpAny_release ⟨σ,H3,I3,q3⟩
noncomputable def jM (te:TE)(g:TG):TS:=λ D σ H=>te σ H λ x H1=>g x σ H1 D.nx
theorem dM {tg e:Expr}{te:TE}{g:TG}(he:PE X e te)(hg:PG X tg g)(hs:swapsWithSole [tg] e pos.line X.env=pure false:=by rfl)(hw:swappedStores [tg] e X.env=pure none:=by rfl)
 (h1:(assignEach [tg] X.env).map (·.2)=[assign tg X.env]:=by rfl):PS X (.Assign [tg] e pos) (jM te g):=by
 intro pins s σ H D I h;refine wpAny_Assign_stores (B2 (he pins s σ H _ I h) λ v s1 ⟨x,H1,I1,r1,q1⟩=>?_) hs hw;rw[h1];exact B2 (hg pins s1 σ H1 x v _ I1 r1 q1) λ _ s2 q=>q
theorem QX {i:Nat}{x:Str}{e:Expr}{te:TE}{pos':Pos}(hN:X.N.Nodup)(hi:X.N[i]?=some x)(hx:Loc X.env.scope x)(he:PE X e te)(hs:swapsWith e (some (.Name x pos')) pos.line X.env=pure false:=by rfl)(hf:X.fn x=true\/X.env.scope.names.lookup x=some .local:=by first | exact .inl rfl | exact .inr rfl | assumption):
 PS X (.Assign [.Name x pos'] e pos) (jM te (Sg i)):=by
 intro pins s σ H D I h;refine wpAny_Assign_Name (B2 (he pins s σ H _ I h) λ v s1 ⟨y,H1,I1,r1,q1⟩=>?_) hs;exact Pa I1 hN hi hx r1 (λ s2 I2=>⟨_,H1,I2,q1⟩) hf
end
section
variable {X:Cx}{pos:Pos}
noncomputable def dN (c:TT)(tb:TS):TS:=λ D σ H=>∃W:Nat->St->Hp->Prop,(∃m,W m σ H)/\∀m σ H,W m σ H->
 c σ H λ b H1=>if b=true then ∃N:St->Hp->Prop,(∀σ' H',N σ' H'->∃m',m'<m/\W m' σ' H')/\tb {D with nx:=N,ct:=N,bk:=D.nx} σ H1 else D.nx σ H1
theorem Vq {c:Expr}{body:List Stmt}{tc:TT}{tb:TS}(hp:PassesOwn (model X.prog X.w) X.A X.env X.xe)(hc:PT X c tc)(hb:Sf X body tb):PS X (.While c body [] pos) (dN tc tb):=by
 intro pins s σ H D I h;obtain⟨W,⟨m0,w0⟩,turn⟩:=h;refine wpAny_While (codeAny_whileLoop (λ n s'=>∃σ' H',Inv X pins σ' H' s'/\W n σ' H') ?_ m0 ⟨σ,H,I,w0⟩);rintro n s1 ⟨σ1,H1,I1,w1⟩;refine wpAny_passesOwn hp (B2 (hc pins s1 σ1 H1 _ I1 (turn n σ1 H1 w1)) λ b s2 ⟨H2,I2,q2⟩=>?_);cases b with
 |true =>
  obtain⟨N,hN,q2⟩:=q2;rw[if_pos rfl];refine wpAny_passesOwn hp (B2 (hb pins s2 σ1 H2 _ I2 q2) λ f s3 q3=>?_);cases f with
  |next =>
   obtain⟨σ3,H3,I3,n3⟩:=q3;obtain⟨m',hm,w3⟩:=hN σ3 H3 n3;exact⟨m',hm,σ3,H3,I3,w3⟩
  |cont =>
   obtain⟨σ3,H3,I3,n3⟩:=q3;obtain⟨m',hm,w3⟩:=hN σ3 H3 n3;exact⟨m',hm,σ3,H3,I3,w3⟩
  |brk|ret v=>exact q3
 |false =>
  rw[if_neg zG];exact wpAny_execs_nil ⟨σ1,H2,I2,q2⟩
end
structure It where
 go:Nat->Hp->Prop
 Zx:Nat->Hp->V->Hp->Prop
 stop:Nat->Hp->Prop
def Km (X:Cx)(pins:List (Addr×Obj))(H:Hp)(b:Addr):Prop:=
 H b=none/\b≠X.env.locals/\b∉X.fs/\(b∈X.ex\/X.s₀.heap.objs.size<=b)/\(∀x c,X.env.cells.lookup x=some c->c≠b)/\∀p∈X.pn++pins,p.1≠b
theorem Inv.Vr {X:Cx}{pins:List (Addr×Obj)}{σ:St}{H H':Hp}{s:Shared}{b:Addr}(I:Inv X pins σ H s)(hb:s.heap.objs.size<=b)(hn:H' b=none):Km X pins H' b:=by
 refine⟨hn,Nat.ne_of_gt (zC I.lt hb),I.nA hb,.inr (yi I.sz hb),λ x c e z=>?_,λ p hp z=>?_⟩
 ·obtain⟨v,q⟩:=I.cell x c e;exact absurd (zC q.lt (by rw[z];exact hb)) (Nat.lt_irrefl _)
 ·exact absurd (zC (zt (I.pin p hp).1) (by rw[z];exact hb)) (Nat.lt_irrefl _)
structure Turn (P:Program)(w:World)(K:za)(tg:Expr)(J:It)(fp:List Addr)(it:Addr)(tn:Nat->Heap->Prop):Prop where
 mem:it∈fp
 obj:∀i h,tn i h->∀b∈fp,∃o,h.get? b=some o/\∀v,o.data≠.cell v
 keep:∀i h h',tn i h->(∀b∈fp,∀o,h.get? b=some o->h'.get? b=some o)->tn i h'
 item:∀(X:Cx),X.prog=P->X.w=w->X.K=K->X.calm=true->∀(i:Nat) (pins:List (Addr×Obj)) (s:Shared) (σ:St) (H:Hp) (E:Value->Shared->Prop),Inv X pins σ H s->(∀b∈fp,Km X pins H b)->tn i s.heap->J.go i H->
  wpAny (model P w) X.A (pyNext (.ref it)) (λ r s1=>∃u,r=some u/\
   wpAny (model P w) X.A (letOwnedTupleGo tg (.ref it) u) (λ _ s2=>∃x H',Inv X pins σ H' s2/\RelV x u/\J.Zx i H x H'/\tn (i+1) s2.heap/\∀b∈fp,H' b=none) E s1) E s
 done:∀(X:Cx),X.prog=P->X.w=w->X.K=K->X.calm=true->∀(i:Nat) (pins:List (Addr×Obj)) (s:Shared) (σ:St) (H:Hp) (E:Value->Shared->Prop),Inv X pins σ H s->(∀b∈fp,Km X pins H b)->tn i s.heap->J.stop i H->
  wpAny (model P w) X.A (pyNext (.ref it)) (λ r s1=>r=none/\Inv X pins σ H s1) E s
 self:∀(A:Around) (i:Nat) (s:Shared) (Q:Value->Shared->Prop) (E:Value->Shared->Prop),tn i s.heap->Q (.ref it) s->wpAny (model P w) A (pyIter (.ref it)) Q E s
noncomputable abbrev TI:=St->Hp->(It->Hp->Prop)->Prop
def qA (X:Cx)(pins:List (Addr×Obj))(σ:St)(tg:Expr)(R:It->Hp->Prop)(ju:Value)(s2:Shared):Prop:=
 ∃(it:Addr) (fp:List Addr) (tn:Nat->Heap->Prop) (J:It) (H':Hp),ju=.ref it/\Inv X pins σ H' s2/\Turn X.prog X.w X.K tg J fp it tn/\tn 0 s2.heap/\(∀b∈fp,Km X pins H' b)/\R J H'
def PI (X:Cx)(tg iter:Expr)(wi:TI):Prop:=
 ∀(pins:List (Addr×Obj)) (s:Shared) (σ:St) (H:Hp) (R:It->Hp->Prop),Inv X pins σ H s->wi σ H R->
  wpAny (model X.prog X.w) X.A (eval iter X.env) (λ v s1=>wpAny (model X.prog X.w) X.A (pyIter v) (qA X pins σ tg R) X.xe s1) X.xe s
theorem Vs {M:Model}{A:Around}{E:Value->Shared->Prop}{s:Shared}{tg:Expr}{it:Addr}{u:Value}{o:Obj}{n:String}{vs:Array Value}{Q:Unit->Shared->Prop}(ho:s.heap.get? it=some o)(hc:o.cls=.type n)(hd:o.data=.fields vs)
 (hn:["enumerate","zip","dict_itemiterator","dict_reverseitemiterator","odict_iterator","itertools.zip_longest","itertools.pairwise"].contains n=false) (hQ:Q () s):wpAny M A (letOwnedTupleGo tg (.ref it) u) Q E s:=by
 unfold letOwnedTupleGo;cases tg<;>first
  |exact wpAny_pure hQ
  |(cases u<;>first
   |exact wpAny_pure hQ
   |(
    refine wpAny_bind (wpAny_load ho ?_);rw[hc,hd];show wpAny M A (if (["enumerate","zip","dict_itemiterator","dict_reverseitemiterator","odict_iterator","itertools.zip_longest","itertools.pairwise"].contains n&&vs[0]?== some (rawInt _))=true then _ else _) Q E s;rw[if_neg (by intro h;rw[hn,Bool.false_and] at h;cases h)];exact wpAny_pure hQ))
noncomputable def qB (K:za)(a:Addr):It:=
 ⟨λ i H=>∃xs x,D8 K H a xs/\xs[i]?=some x,λ i H x H'=>H'=H/\∀xs,D8 K H a xs->xs[i]?=some x,λ i H=>∃xs,D8 K H a xs/\xs.length<=i⟩
noncomputable def qC (K:za)(a:Addr):It:=
 ⟨λ i H=>∃xs x,El K H a xs/\xs[i]?=some x,λ i H x H'=>H'=H/\∀xs,El K H a xs->xs[i]?=some x,λ i H=>∃xs,El K H a xs/\xs.length<=i⟩
noncomputable def mD (lo:Int)(n:Nat):It:=⟨λ i _=>i<n,λ i H x H'=>H'=H/\x=.int (lo+i),λ i _=>n<=i⟩
theorem Tw {P:Program}{w:World}{K:za}{tg:Expr}(a it:Addr):Turn P w K tg (qB K a) [it] it (λ i h=>h.IsListIter it a i) where
 mem:=by simp
 obj:=λ i h st b hb=>by
  have e:b=it:=by simpa using hb
  subst e;obtain⟨o,e,c,d⟩:=st;exact⟨o,e,λ v z=>by rw[d] at z;cases z⟩
 keep:=λ i h h' st k=>st.at λ o e=>k it (by simp) o e
 item:=by
  intro X hP hw hK hc i pins s σ H E I hf st hg;subst hP hw hK;obtain⟨xs,x,hq,hx⟩:=hg;obtain⟨aa,rv,p,hz⟩:=I.list hq;obtain⟨u,hu,ru⟩:=rv.get hx;obtain⟨f0,f1,f2,f3,f4,f5⟩:=hf it (by simp);refine wpAny_pyNext_list_item st p.isList (x:=u) (by simpa using hu) λ h' bo sb=>?_;have I1:Inv X pins σ H {s with heap:=h' }:=I.turned (t':=s.toks) (λ b o hb e=>(sb.2 b hb).trans e) f0 f1 f3 f4 f5;obtain⟨o,e,c,d⟩:=id bo;exact⟨u,rfl,Vs (s:={s with heap:=h' }) e c d (by decide) ⟨x,H,I1,ru,⟨rfl,λ ys hy=>by rw[I.IB hy hq];exact hx⟩,bo,λ b hb=>(hf b hb).1⟩⟩
 done:=by
  intro X hP hw hK hc i pins s σ H E I hf st hg;subst hP hw hK;obtain⟨xs,hq,hx⟩:=hg;obtain⟨aa,rv,p,hz⟩:=I.list hq;obtain⟨f0,f1,f2,f3,f4,f5⟩:=hf it (by simp);have hl:=rv.length;exact wpAny_pyNext_list_end (I.ok.hd hc) st p.isList (by simp;omega) λ h' eb=>⟨rfl,I.turned (t':=s.toks) (λ b o hb e=>eb b o hb e) f0 f1 f3 f4 f5⟩
 self:=λ _ _ _ _ _ st h=>wpAny_pyIter_listiter st h
theorem QY {P:Program}{w:World}{K:za}{tg:Expr}(a it:Addr):Turn P w K tg (qC K a) [it] it (λ i h=>h.IsTupleIter it a i) where
 mem:=by simp
 obj:=λ i h st b hb=>by
  have e:b=it:=by simpa using hb
  subst e;obtain⟨o,e,c,d⟩:=st;exact⟨o,e,λ v z=>by rw[d] at z;cases z⟩
 keep:=λ i h h' st k=>st.at λ o e=>k it (by simp) o e
 item:=by
  intro X hP hw hK hc i pins s σ H E I hf st hg;subst hP hw hK;obtain⟨xs,x,hq,hx⟩:=hg;obtain⟨aa,rv,p,hz⟩:=I.tuple hq;obtain⟨u,hu,ru⟩:=rv.get hx;obtain⟨f0,f1,f2,f3,f4,f5⟩:=hf it (by simp);refine wpAny_pyNext_tuple_item st (show s.heap.IsTuple a aa.toArray from p) (x:=u) (by simpa using hu) λ h' bo sb=>?_;have I1:Inv X pins σ H {s with heap:=h' }:=I.turned (t':=s.toks) (λ b o hb e=>(sb.2 b hb).trans e) f0 f1 f3 f4 f5;obtain⟨o,e,c,d⟩:=id bo;exact⟨u,rfl,Vs (s:={s with heap:=h' }) e c d (by decide) ⟨x,H,I1,ru,⟨rfl,λ ys hy=>by rw[I.EE hy hq];exact hx⟩,bo,λ b hb=>(hf b hb).1⟩⟩
 done:=by
  intro X hP hw hK hc i pins s σ H E I hf st hg;subst hP hw hK;obtain⟨xs,hq,hx⟩:=hg;obtain⟨aa,rv,p,hz⟩:=I.tuple hq;obtain⟨f0,f1,f2,f3,f4,f5⟩:=hf it (by simp);have hl:=rv.length;exact wpAny_pyNext_tuple_end (I.ok.hd hc) st (show s.heap.IsTuple a aa.toArray from p) (by simp;omega) λ h' eb=>⟨rfl,I.turned (t':=s.toks) (λ b o hb e=>eb b o hb e) f0 f1 f3 f4 f5⟩
 self:=λ _ _ _ _ _ st h=>wpAny_pyIter_tupleiter st h
theorem QZ {P:Program}{w:World}{K:za}{tg:Expr}(it:Addr)(lo:Int)(n:Nat):Turn P w K tg (mD lo n) [it] it (λ i h=>IsRangeIter h it (lo+(i:Nat)*1) ((n:Int)-(i:Nat)) 1) where
 mem:=by simp
 obj:=λ i h st b hb=>by
  have e:b=it:=by simpa using hb
  subst e;exact⟨_,st,λ v z=>by
   have z':Data.fields _=Data.cell v:=z;cases z'⟩
 keep:=λ i h h' st k=>k it (by simp) _ st
 item:=by
  intro X hP hw hK hc i pins s σ H E I hf st hg;subst hP hw hK;obtain⟨f0,f1,f2,f3,f4,f5⟩:=hf it (by simp);have W:=Walks.range (prog:=X.prog) (w:=X.w) (I.ok.hd hc) it lo 1 n;refine W.item i s _ _ hg st λ v h' tk hv bo kk=>?_;obtain⟨t,rfl⟩:=hv;have I1:Inv X pins σ H {s with heap:=h',toks:=tk}:=I.turned (λ b o hb e=>kk b o (by simpa using hb) e) f0 f1 f3 f4 f5;refine⟨_,rfl,Vs (s:={s with heap:=h',toks:=tk}) (n := "range_iterator") bo rfl rfl (by decide) ⟨.int (lo+i),H,I1,⟨t,?_⟩,⟨rfl,rfl⟩,bo,λ b hb=>(hf b hb).1⟩⟩;rw[Int.mul_one]
 done:=by
  intro X hP hw hK hc i pins s σ H E I hf st hg;subst hP hw hK;obtain⟨f0,f1,f2,f3,f4,f5⟩:=hf it (by simp);exact wpAny_pyNext_range_end (I.ok.hd hc) st (by have:n<=i:=hg;omega) λ h' eb=>⟨rfl,I.turned (t':=s.toks) (λ b o hb e=>eb b o hb e) f0 f1 f3 f4 f5⟩
 self:=λ _ _ _ _ _ st h=>wpAny_pyIter_rangeiter st h
section
variable {X:Cx}{tg:Expr}
noncomputable def jN (K:za)(tl:TE):TI:=λ σ H R=>tl σ H λ x H1=>∃a,x=.ref a/\(∃xs,D8 K H1 a xs)/\R (qB K a) H1
noncomputable def nP (K:za)(tl:TE):TI:=λ σ H R=>tl σ H λ x H1=>∃a,x=.ref a/\(∃xs,El K H1 a xs)/\R (qC K a) H1
theorem XN {l:Expr}{tl:TE}(hl:PE X l tl):PI X tg l (jN X.K tl):=by
 intro pins s σ H R I h;refine B2 (hl pins s σ H _ I h) λ v s1 ⟨x,H1,I1,r1,q1⟩=>?_;obtain⟨a,e,⟨xs,hq⟩,q⟩:=q1;subst e;cases r1;obtain⟨aa,rv,p,hz⟩:=I1.list hq;refine wpAny_pyIter_list p.isList ?_;refine⟨s1.heap.objs.size,[s1.heap.objs.size],_,_,H1,rfl,I1.kept (t':=s1.toks) λ b o e=>zh _ e,Tw a _,⟨_,zA _ rfl,rfl,rfl⟩,λ b hb=>?_,q⟩;have e:b=s1.heap.objs.size:=by simpa using hb
 subst e;exact I1.Vr (zv _) (I1.Ao.fresh (zv _))
theorem dO {l:Expr}{tl:TE}(hl:PE X l tl):PI X tg l (nP X.K tl):=by
 intro pins s σ H R I h;refine B2 (hl pins s σ H _ I h) λ v s1 ⟨x,H1,I1,r1,q1⟩=>?_;obtain⟨a,e,⟨xs,hq⟩,q⟩:=q1;subst e;cases r1;obtain⟨aa,rv,p,hz⟩:=I1.tuple hq;refine wpAny_pyIter_tuple (show s1.heap.IsTuple a aa.toArray from p) ?_;refine⟨s1.heap.objs.size,[s1.heap.objs.size],_,_,H1,rfl,I1.kept (t':=s1.toks) λ b o e=>zh _ e,QY a _,⟨_,zA _ rfl,rfl,rfl⟩,λ b hb=>?_,q⟩;have e:b=s1.heap.objs.size:=by simpa using hb
 subst e;exact I1.Vr (zv _) (I1.Ao.fresh (zv _))
theorem Vt {pins:List (Addr×Obj)}{σ:St}{H:Hp}{s:Shared}{R:It->Hp->Prop}{E:Value->Shared->Prop}{lo hi:Int}{t u v:Tok}{tk:Nat}(I:Inv X pins σ H s)(h1 : -(2^62)<=lo)(h2:lo<2^62)(h3 : -(2^62)<=hi)(h4:hi<2^62)
 (q:R (mD lo (hi-lo).toNat) H):wpAny (model X.prog X.w) X.A (pyIter (.ref s.heap.objs.size)) (qA X pins σ tg R) E {s with heap:=s.heap.push {cls:=.type "range",data:=.fields #[.int lo t,.int hi u,.int 1 v]},toks:=tk}:=by
 refine wpAny_pyIter_range (IsRange.new ..) (small_one h1 h2 h3 h4) ?_;have I1:Inv X pins σ H {s with heap:=s.heap.push {cls:=.type "range",data:=.fields #[.int lo t,.int hi u,.int 1 v]},toks:=tk}:=I.kept λ b o e=>zh _ e;refine⟨(s.heap.push {cls:=.type "range",data:=.fields #[.int lo t,.int hi u,.int 1 v]}).objs.size,[(s.heap.push {cls:=.type "range",data:=.fields #[.int lo t,.int hi u,.int 1 v]}).objs.size],_,_,H,rfl,
  I1.kept (t':=tk) λ b o e=>zh _ e,QZ _ lo (hi-lo).toNat,?_,λ b hb=>?_,q⟩
 ·have e1:lo+((0:Nat):Int)*1=lo:=by simp
  have e2:(((hi-lo).toNat:Nat):Int)-((0:Nat):Int)=Builtin.Range.rangeSize lo hi 1:=by rw[rangeSize_one];split<;>omega
  show IsRangeIter _ _ (lo+((0:Nat):Int)*1) ((((hi-lo).toNat:Nat):Int)-((0:Nat):Int)) 1;rw[e1,e2];exact zA _ rfl
 ·have e:b=(s.heap.push {cls:=.type "range",data:=.fields #[.int lo t,.int hi u,.int 1 v]}).objs.size:=by simpa using hb
  subst e;exact I1.Vr (zv _) (I1.Ao.fresh (zv _))
noncomputable def jO (ta:TA):TI:=λ σ H R=>ta σ H λ vs H1=>∃j:Int,vs=[.int j]/\-(2^62)<=j/\j<2^62/\R (mD 0 j.toNat) H1
theorem Tx {a:Expr}{ta:TA}{p pos:Pos}(hg:Gl X "range")(hm:X.mg "range" = none)(ha:PA X [a] ta)(hs:starEach [a] X.env=[(false,eval a X.env)]:=by rfl):PI X tg (.Call (.Name "range" p) [a] [] pos) (jO ta):=by
 intro pins s σ H R I h;refine Call_ (Ek I hg hm boot_range (y4 (B2 (ha pos pins s σ H _ I h) λ us s1 ⟨vs,H1,I1,r1,q1⟩=>?_) hs rfl));obtain⟨j,e,q1,q2,q⟩:=q1;subst e;cases r1 with
 |cons r rr =>
  cases rr;obtain⟨t,rfl⟩:=r;exact call_range_1 (Vt I1 (by omega) (by omega) q1 q2 (by simpa using q))
noncomputable def nQ (wi:TI)(g:TG)(tb:TS):TS:=λ D σ H=>wi σ H λ J H1=>∃W:Nat->Nat->St->Hp->Prop,(∃m,W 0 m σ H1)/\∀i m σ H,W i m σ H->
 (J.stop i H/\D.nx σ H)\/(J.go i H/\∃N:St->Hp->Prop,(∀σ' H',N σ' H'->∃m',m'<m/\W (i+1) m' σ' H')/\∀x H',J.Zx i H x H'->g x σ H' λ σ2 H2=>tb {D with nx:=N,ct:=N,bk:=D.nx} σ2 H2)
noncomputable def HG (fp:List Addr)(h:Heap):List (Addr×Obj):=fp.filterMap λ b=>(h.get? b).map λ o=>(b,o)
theorem Fg {fp:List Addr}{h:Heap}{b:Addr}{o:Obj}(hb:b∈fp)(e:h.get? b=some o):(b,o)∈HG fp h:=List.mem_filterMap.mpr ⟨b,hb,by rw[e];rfl⟩
theorem MW {fp:List Addr}{h:Heap}{p:Addr×Obj}(hp:p∈HG fp h):p.1∈fp/\h.get? p.1=some p.2:=by
 obtain⟨b,hb,e⟩:=List.mem_filterMap.mp hp;cases q:h.get? b with
 |none=>rw[q] at e;cases e
 |some o =>
  rw[q] at e;have e':(b,o)=p:=zH e;subst e';exact⟨hb,q⟩
theorem Inv.pinned {pins:List (Addr×Obj)}{σ:St}{H:Hp}{s:Shared}{fp:List Addr}(I:Inv X pins σ H s)(hf:∀b∈fp,Km X pins H b)(ho:∀b∈fp,∃o,s.heap.get? b=some o/\∀v,o.data≠.cell v):Inv X (pins++HG fp s.heap) σ H s:=
 I.IA λ p hp=>(zM.mp hp).elim (λ z=>I.pin p (zm _ z)) λ z=>by
  obtain⟨hb,e⟩:=MW z;obtain⟨f0,f1,f2,_⟩:=hf p.1 hb;obtain⟨o,e',d⟩:=ho p.1 hb;rw[e] at e';cases e';exact⟨e,f0,f1,f2,d⟩
theorem Inv.ID {pins pl:List (Addr×Obj)}{σ:St}{H:Hp}{s:Shared}(I:Inv X (pins++pl) σ H s):Inv X pins σ H s:=I.IA λ p hp=>I.pin p (zm _ (zK _ hp))
theorem dP {iter:Expr}{body:List Stmt}{wi:TI}{g:TG}{tb:TS}{pos:Pos}(hp:PassesOwn (model X.prog X.w) X.A X.env X.xe)(hc:X.calm=true)(hi:PI X tg iter wi)(hg:PG X tg g)(hb:Sf X body tb)
 (hs:∀x,foldedSetIterable iter X.env x=pure x:=by intro _;rfl):PS X (.For tg iter body [] pos) (nQ wi g tb):=by
 intro pins s σ H D I h;refine wpAny_For (B2 (hi pins s σ H _ I h) λ v s1 h1=>B2 h1 λ ju s2 h2=>?_) hs;obtain⟨it,fp,tn,J,H2,e,I2,T,c6,f2,W,⟨m0,w0⟩,turn⟩:=h2;subst e;have bp:∀ {H':Hp},(∀b∈fp,H' b=none)->∀b∈fp,Km X pins H' b:=λ hn b hb=>⟨hn b hb,(f2 b hb).2⟩;refine codeAny_forLoop_any (λ n s'=>∃i σ' H',Inv X pins σ' H' s'/\tn i s'.heap/\(∀b∈fp,H' b=none)/\W i n σ' H') ?_ m0 ⟨0,σ,H2,I2,c6,λ b hb=>(f2 b hb).1,w0⟩;rintro n s3 ⟨i,σ3,H3,I3,gq,gr,w3⟩;rcases turn i n σ3 H3 w3 with ⟨stop,qn⟩|⟨go,N,hN,step⟩
 ·refine wpAny_passesOwn hp (B2 (T.done X rfl rfl rfl hc i pins s3 σ3 H3 X.xe I3 (bp gr) gq stop) λ r s4 ⟨hr,I4⟩=>?_);subst hr;exact wpAny_execs_nil ⟨σ3,H3,I4,qn⟩
 ·refine wpAny_passesOwn hp (B2 (T.item X rfl rfl rfl hc i pins s3 σ3 H3 X.xe I3 (bp gr) gq go) λ r s4 ⟨u,hr,h4⟩=>?_);subst hr;refine wpAny_passesOwn hp (B2 h4 λ _ s5 ⟨x,H5,I5,r5,y5,db,li⟩=>?_);have lj:=I5.pinned (bp li) (T.obj _ _ db);refine wpAny_passesOwn hp (B2 (hg _ s5 σ3 H5 x u _ lj r5 (step x H5 y5)) λ _ s6 ⟨σ6,H6,I6,q6⟩=>?_);refine wpAny_passesOwn hp (B2 (hb _ s6 σ6 H6 _ I6 q6) λ f s7 q7=>?_);have again:∀ {σ7:St} {H7:Hp},Inv X (pins++HG fp s5.heap) σ7 H7 s7->N σ7 H7->∃m,m<n/\∃i σ' H',Inv X pins σ' H' s7/\tn i s7.heap/\(∀b∈fp,H' b=none)/\W i m σ' H':=fun {σ7 H7} I7 n7=>by
   obtain⟨m',hm,w7⟩:=hN σ7 H7 n7;refine⟨m',hm,i+1,σ7,H7,I7.ID,T.keep _ _ _ db λ b hb o e=>(I7.pin (b,o) (zm _ (zm _ (Fg hb e)))).1,λ b hb=>?_,w7⟩;obtain⟨o,e,d⟩:=T.obj _ _ db b hb;exact (I7.pin (b,o) (zm _ (zm _ (Fg hb e)))).2.1
  cases f with
  |next|cont=>obtain⟨σ7,H7,I7,n7⟩:=q7;exact again I7 n7
  |brk=>obtain⟨σ7,H7,I7,q7⟩:=q7;exact⟨σ7,H7,I7.ID,q7⟩
  |ret v=>obtain⟨x7,σ7,H7,I7,r7,q7⟩:=q7;exact⟨x7,σ7,H7,I7.ID,r7,q7⟩
end
noncomputable abbrev R2:=V->V->Hp->VK->Prop
def GR (X:Cx)(f:Value->Value->Sem Value)(r:R2):Prop:=
 ∀(pins:List (Addr×Obj)) (s:Shared) (σ:St) (H:Hp) (x y:V) (v u:Value) (Q:VK),Inv X pins σ H s->RelV x v->RelV y u->r x y H Q->
  wpAny (model X.prog X.w) X.A (f v u) (EP X pins σ Q) X.xe s
def nR (X:Cx)(f:Value->Sem Value)(r:V->Hp->VK->Prop):Prop:=
 ∀(pins:List (Addr×Obj)) (s:Shared) (σ:St) (H:Hp) (x:V) (v:Value) (Q:VK),Inv X pins σ H s->RelV x v->r x H Q->
  wpAny (model X.prog X.w) X.A (f v) (EP X pins σ Q) X.xe s
def G7 (X:Cx)(f:Value)(r:List V->Hp->VK->Prop):Prop:=
 ∀(pins:List (Addr×Obj)) (s:Shared) (σ:St) (H:Hp) (xs:List V) (us:List Value) (Q:VK),Inv X pins σ H s->Vals xs us->r xs H Q->
  wpAny (model X.prog X.w) X.A (call f us) (EP X pins σ Q) X.xe s
def nS (X:Cx)(r:V->Hp->(Bool->Hp->Prop)->Prop):Prop:=
 ∀(pins:List (Addr×Obj)) (s:Shared) (σ:St) (H:Hp) (x:V) (v:Value) (Q:Bool->Hp->Prop),Inv X pins σ H s->RelV x v->r x H Q->
  wpAny (model X.prog X.w) X.A (truthy v) (TP X pins σ Q) X.xe s
noncomputable def jP (r:R2)(ta tb:TE):TE:=λ σ H Q=>ta σ H λ x H1=>tb σ H1 λ y H2=>r x y H2 Q
noncomputable def rO (r:V->Hp->VK->Prop)(ta:TE):TE:=λ σ H Q=>ta σ H λ x H1=>r x H1 Q
noncomputable def rI (C:Int->Int->Prop)(g:Int->Int->V):R2:=λ x y H Q=>∃i j,x=.int i/\y=.int j/\C i j/\Q (g i j) H
noncomputable def Xx (g:Int->Int->V):R2:=λ x y H Q=>∃i j,x=.int i/\y=.int j/\Q (g i j) H
def rU (g:Int->V):V->Hp->VK->Prop:=λ x H Q=>∃i,x=.int i/\Q (g i) H
section
variable {X:Cx}{a b c:Expr}{ta tb tc:TE}{pos:Pos}
theorem dQ (ha:PE X a ta)(hb:PE X b tb){pins:List (Addr×Obj)}{s:Shared}{σ:St}{H:Hp}{R:V->V->Hp->Prop}(I:Inv X pins σ H s)
 (h:ta σ H λ x H1=>tb σ H1 λ y H2=>R x y H2) {Q:Value->Shared->Prop} {f:Value->Value->Sem Value}
 (hf:∀v u s2 x y H2,Inv X pins σ H2 s2->RelV x v->RelV y u->R x y H2->wpAny (model X.prog X.w) X.A (f v u) Q X.xe s2):
 wpAny (model X.prog X.w) X.A (eval a X.env) (λ v s₁=>wpAny (model X.prog X.w) X.A (eval b X.env) (λ u s₂=>wpAny (model X.prog X.w) X.A (f v u) Q X.xe s₂) X.xe s₁) X.xe s:=by
 refine B2 (ha pins s σ H _ I h) λ v s1 ⟨x,H1,I1,r1,q1⟩=>?_;refine B2 (hb pins s1 σ H1 _ I1 q1) λ u s2 ⟨y,H2,I2,r2,q2⟩=>?_;exact hf v u s2 x y H2 I2 r1 r2 q2
theorem Zy {op:Operator}{r:R2}(ho:GR X (binaryOp op) r)(ha:PE X a ta)(hb:PE X b tb):PE X (.BinOp a op b pos) (jP r ta tb):=by
 intro pins s σ H Q I h;exact wpAny_BinOp (dQ ha hb I h λ v u s2 x y H2 I2 rx ry q=>ho pins s2 σ H2 x y v u Q I2 rx ry q)
theorem jQ {op:UnaryOp}{r:V->Hp->VK->Prop}(ho:nR X (unaryOp op) r)(ha:PE X a ta):PE X (.UnaryOp op a pos) (rO r ta):=by
 intro pins s σ H Q I h;exact UnaryOp_ (B2 (ha pins s σ H _ I h) λ v s1 ⟨x,H1,I1,r1,q1⟩=>ho pins s1 σ H1 x v Q I1 r1 q1)
theorem mE {f:Value->Value->Sem Value}{C:Int->Int->Prop}{g:Int->Int->Int}
 (rule:∀(i j:Int) (t u:Tok) (s:Shared) (Q:Value->Shared->Prop) (E:Value->Shared->Prop),C i j->Q (.int (g i j) s.toks) {s with toks:=s.toks+1}->wpAny (model X.prog X.w) X.A (f (.int i t) (.int j u)) Q E s):
 GR X f (rI C λ i j=>.int (g i j)):=by
 intro pins s σ H x y v u Q I rx ry h;obtain⟨i,j,rfl,rfl,hc,q⟩:=h;obtain⟨t,rfl⟩:=rx;obtain⟨t',rfl⟩:=ry;exact rule i j t t' s _ _ hc ⟨.int (g i j),H,I.tok _,⟨_,rfl⟩,q⟩
theorem jR {f:Value->Value->Sem Value}{g:Int->Int->Int}
 (rule:∀(i j:Int) (t u:Tok) (s:Shared) (Q:Value->Shared->Prop) (E:Value->Shared->Prop),Q (.int (g i j) s.toks) {s with toks:=s.toks+1}->wpAny (model X.prog X.w) X.A (f (.int i t) (.int j u)) Q E s):
 GR X f (Xx λ i j=>.int (g i j)):=by
 intro pins s σ H x y v u Q I rx ry h;obtain⟨i,j,rfl,rfl,q⟩:=h;obtain⟨t,rfl⟩:=rx;obtain⟨t',rfl⟩:=ry;exact rule i j t t' s _ _ ⟨.int (g i j),H,I.tok _,⟨_,rfl⟩,q⟩
theorem dR {f:Value->Value->Sem Value}{g:Int->Int->Bool}
 (rule:∀(i j:Int) (t u:Tok) (s:Shared) (Q:Value->Shared->Prop) (E:Value->Shared->Prop),Q (.bool (g i j)) s->wpAny (model X.prog X.w) X.A (f (.int i t) (.int j u)) Q E s):
 GR X f (Xx λ i j=>.bl (g i j)):=by
 intro pins s σ H x y v u Q I rx ry h;obtain⟨i,j,rfl,rfl,q⟩:=h;obtain⟨t,rfl⟩:=rx;obtain⟨t',rfl⟩:=ry;exact rule i j t t' s _ _ ⟨.bl (g i j),H,I,rfl,q⟩
def Pe (i j:Int):Prop:=0<j/\j<1073741824
def XO (i j:Int):Prop:=0<=j/\j<=1000000/\i.natAbs<2^64
def Vu (i j:Int):Prop:=(-(2^64)<i/\i<2^64)\/(-(2^64)<j/\j<2^64)
theorem Vu.ok {i j:Int}(h:Vu i j):IntMulOk i j:=by
 rcases h with ⟨h1,h2⟩|⟨h1,h2⟩
 ·exact .of_left (intBits_le_64 h1 h2)
 ·exact .of_right (intBits_le_64 h1 h2)
theorem dS:GR X (binaryOp .Add) (Xx λ i j=>.int (i+j)):=jR λ _ _ _ _ _ _ _ q=>add_int q
theorem dU:GR X (binaryOp .Sub) (Xx λ i j=>.int (i-j)):=jR λ _ _ _ _ _ _ _ q=>sub_int q
theorem XQ:GR X (binaryOp .FloorDiv) (rI Pe λ i j=>.int (i / j)):=mE λ i j _ _ _ _ _ hc q=>by
 have h1:(0:Int)<j:=hc.1;have h2:j<1073741824:=hc.2;exact floordiv_int (by omega) (by rw[Int.fdiv_eq_ediv_of_nonneg i (by omega)];exact q) (.inl (PyProof.noPylong_small (by omega)))
theorem dW:GR X (binaryOp .Mod) (rI (λ _ j=>0<j) λ i j=>.int (i%j)):=mE λ i j _ _ _ _ _ hc q=>by
 have h1:(0:Int)<j:=hc;exact mod_int' (by omega) (by rw[Int.fmod_eq_emod_of_nonneg i (by omega)];exact q)
theorem dX:GR X (binaryOp .Pow) (rI XO λ i j=>.int (i^j.toNat)):=mE λ _ _ _ _ _ _ _ hc q=>pow_int_small hc.1 hc.2.1 hc.2.2 q
theorem rP {f:Value->Sem Value}{g:Int->Int}
 (rule:∀(i:Int) (t:Tok) (s:Shared) (Q:Value->Shared->Prop) (E:Value->Shared->Prop),Q (.int (g i) s.toks) {s with toks:=s.toks+1}->wpAny (model X.prog X.w) X.A (f (.int i t)) Q E s):
 nR X f (rU λ i=>.int (g i)):=by
 intro pins s σ H x v Q I rx h;obtain⟨i,rfl,q⟩:=h;obtain⟨t,rfl⟩:=rx;exact rule i t s _ _ ⟨.int (g i),H,I.tok _,⟨_,rfl⟩,q⟩
theorem dY:nR X (unaryOp .USub) (rU λ i=>.int (-i)):=rP λ _ _ _ _ _ q=>neg_int q
end
section
variable {X:Cx}{a b c:Expr}{ta tb tc:TE}{pos:Pos}
theorem jS:GR X (compareOp .Lt) (Xx λ i j=>.bl (decide (i<j))):=dR λ _ _ _ _ _ _ _ q=>lt_int q
theorem jT:GR X (compareOp .LtE) (Xx λ i j=>.bl (decide (i<=j))):=dR λ _ _ _ _ _ _ _ q=>le_int q
theorem jU:GR X (compareOp .Gt) (Xx λ i j=>.bl (decide (j<i))):=dR λ _ _ _ _ _ _ _ q=>gt_int q
theorem GR.or {f:Value->Value->Sem Value}{r r':R2}(h:GR X f r)(h':GR X f r'):GR X f (λ x y H Q=>r x y H Q\/r' x y H Q):=by
 intro pins s σ H x y v u Q I rx ry q;rcases q with q|q
 ·exact h pins s σ H x y v u Q I rx ry q
 ·exact h' pins s σ H x y v u Q I rx ry q
theorem Jh (b:Expr){op:CmpOp}(h:op≠.In:=by decide)(h2:op≠.NotIn:=by decide):behindInMarks op b=false:=by
 have e1:(op==CmpOp.In)=false:=by cases op<;>first|rfl|exact absurd rfl h
 have e2:(op==CmpOp.NotIn)=false:=by cases op<;>first|rfl|exact absurd rfl h2
 cases b<;>simp[behindInMarks,e1,e2]
theorem XR {op:CmpOp}{r:R2}(ho:GR X (compareOp op) r)(ha:PE X a ta)(hb:PE X b tb)(hm:behindInMarks op b=false):PE X (.Compare a [op] [b] pos) (jP r ta tb):=by
 intro pins s σ H Q I h;exact wpAny_Compare1 (dQ ha hb I h λ v u s2 x y H2 I2 rx ry q=>ho pins s2 σ H2 x y v u Q I2 rx ry q) hm
noncomputable def jV (t:TE):TT:=λ σ H Q=>t σ H λ x H'=>∃k,x=.bl k/\Q k H'
theorem XS {op:CmpOp}{r:R2}(ho:GR X (compareOp op) r)(ha:PE X a ta)(hb:PE X b tb)(hm:behindInMarks op b=false):PT X (.Compare a [op] [b] pos) (jV (jP r ta tb)):=by
 intro pins s σ H Q I h;refine wpAny_isTrue_Compare1 (B2 (ha pins s σ H _ I h) λ v s1 ⟨x,H1,I1,r1,q1⟩=>B2 (hb pins s1 σ H1 _ I1 q1) λ u s2 ⟨y,H2,I2,r2,q2⟩ =>
  B2 (ho pins s2 σ H2 x y v u _ I2 r1 r2 q2) λ c s3 ⟨z,H3,I3,r3,k,e,q3⟩=>?_) hm
 subst e;cases r3;exact wpAny_truthy_bool ⟨H3,I3,q3⟩
noncomputable def dZ (r r':R2)(ta tb tc:TE):TE:=λ σ H Q=>ta σ H λ x H1=>tb σ H1 λ y H2=>r x y H2 λ z H3=>∃k,z=.bl k/\
 (if k=true then tc σ H3 λ w' H4=>r' y w' H4 Q else Q (.bl false) H3)
theorem Vv {op de:CmpOp}{r r':R2}(ho:GR X (compareOp op) r)(bH:GR X (compareOp de) r')(ha:PE X a ta)(hb:PE X b tb)(hc:PE X c tc)
 (hm:lastMarks [op,de] [b,c]=false:=by with_unfolding_all rfl):PE X (.Compare a [op,de] [b,c] pos) (dZ r r' ta tb tc):=by
 intro pins s σ H Q I h;refine Compare_chain (B2 (ha pins s σ H _ I h) λ v s1 ⟨x,H1,I1,r1,q1⟩=>chain_link (B2 (hb pins s1 σ H1 _ I1 q1) λ u s2 ⟨y,H2,I2,r2,q2⟩ =>
  B2 (ho pins s2 σ H2 x y v u _ I2 r1 r2 q2) λ d s3 ⟨z,H3,I3,r3,k,e,q3⟩=>?_)) hm
 subst e;cases r3;refine wpAny_truthy_bool ?_;cases k with
 |false=>exact ite_ff ⟨.bl false,H3,I3,rfl,q3⟩
 |true=>exact ite_tt (chain_last (B2 (hc pins s3 σ H3 _ I3 q3) λ w' s4 ⟨z',H4,I4,r4,q4⟩=>bH pins s4 σ H4 y z' u w' Q I4 r2 r4 q4))
def jW (K:za)(x:V)(H:Hp)(k:Bool):Prop:=
 match x with
 | .AD=>k=false
 | .bl b=>k=b
 | .int i=>k=(i != 0)
 | .str y=>y.length<=sizeLine/\k=((y.length:Int) != 0)
 | .cS y=>y.size<=sizeLine/\k=((y.size:Int) != 0)
 | .ref p=>(∃xs,D8 K H p xs/\k = !xs.isEmpty)\/(∃xs,El K H p xs/\k = !xs.isEmpty)\/∃kvs,H p=some (.dK kvs)/\k = !kvs.isEmpty
 |_=>False
theorem R3 {κ:Type}{kvs:List (κ×V)}{vs:List (κ×Value)}(r:KV kvs vs):(!vs.isEmpty) = !kvs.isEmpty:=by
 cases r<;>rfl
theorem KZ {xs:List V}{aa:List Value}(r:Vals xs aa):(!aa.toArray.isEmpty) = !xs.isEmpty:=by
 cases r<;>simp
theorem Ji:(sizeLine:Nat)<2^63:=by rw[sizeLine_eq];decide
theorem eA:nS X (λ x H Q=>∃k,jW X.K x H k/\Q k H):=by
 intro pins s σ H x v Q I rx h;obtain⟨k,e,q⟩:=h;have hl:=Ji;have hs:sizeLine=16777216:=sizeLine_eq;cases x with
 |AD =>
  cases rx;have e':k=false:=e;subst e';exact truthy_none ⟨H,I,q⟩
 |bl b =>
  cases rx;have e':k=b:=e;subst e';exact wpAny_truthy_bool ⟨H,I,q⟩
 |int i =>
  obtain⟨t,rfl⟩:=rx;have e':k=(i != 0):=e;subst e';exact PySem.P.truthy_int ⟨H,I,q⟩
 |str y =>
  obtain⟨t,rfl⟩:=rx;obtain⟨hy,e'⟩:y.length<=sizeLine/\k=((y.length:Int) != 0):=e;subst e';exact PySem.P.truthy_str (by omega) ⟨H,I.tok _,q⟩
 |cS y =>
  obtain⟨t,rfl⟩:=rx;obtain⟨hy,e'⟩:y.size<=sizeLine/\k=((y.size:Int) != 0):=e;subst e';exact PySem.W.truthy_bytes (by omega) ⟨H,I.tok _,q⟩
 |ref p =>
  cases rx;have e':(∃xs,D8 X.K H p xs/\k = !xs.isEmpty)\/(∃xs,El X.K H p xs/\k = !xs.isEmpty)\/∃kvs,H p=some (.dK kvs)/\k = !kvs.isEmpty:=e;rcases e' with ⟨xs,hx,e'⟩|⟨xs,hx,e'⟩|⟨kvs,hx,e'⟩
  ·subst e';obtain⟨aa,r,pl,hz⟩:=I.list hx;have hlen:=r.length;exact wpAny_truthy_list pl.isList (by simp only[zj];omega) ⟨H,I.tok _,by rw[KZ r];exact q⟩
  ·subst e';obtain⟨aa,r,pl,hz⟩:=I.tuple hx;have hlen:=r.length;exact truthy_tuple pl (by simp only[zj];omega) ⟨H,I.tok _,by rw[KZ r];exact q⟩
  ·subst e';obtain⟨hz,hS,vs,r,m⟩:kvs.length<=sizeLine/\(p==sysModules)=false/\∃vs,KV kvs vs/\s.heap.DictOf (Bc X.prog X.w) p vs:=I.Ao p _ hx;have hlen:kvs.length=vs.length:=Paired.length r;exact wpAny_truthy_dict hS m (by omega) ⟨H,I.tok _,by rw[R3 r];exact q⟩
 |_=>exact (show False from e).elim
theorem Vw (ha:PE X a ta)(he:∀whole,isTrue a X.env whole=(do let v <-whole;standAt a.pos;holding [v] (truthy v))):
 PT X a (λ σ H Q=>ta σ H λ x H'=>∃k,jW X.K x H' k/\Q k H'):=by
 intro pins s σ H Q I h;exact isTrue_plain (B2 (ha pins s σ H _ I h) λ v s1 ⟨x,H1,I1,r1,q1⟩=>eA pins s1 σ H1 x v Q I1 r1 q1) (he _)
theorem vals1 {x:V}{us:List Value}(r:Vals [x] us):∃u,us=[u]/\RelV x u:=by
 cases r with
 |cons r1 r2=>cases r2;exact⟨_,rfl,r1⟩
end
structure R4 (h:Heap)(x dx C:Addr)(mA:Str->Option Value):Prop where
 obj:h.get? x=some (yM C dx)
 ns:h.Ns1 dx mA
 ne:dx≠x
theorem Tz {h:Heap}{dx:Addr}{mA:Str->Option Value}(n:h.Ns1 dx mA):∃od,h.get? dx=some od/\∀name,PySem.W.lookIn name od=some (mA name):=by
 obtain⟨o,es,ep,ho,hd,hk,_,hm⟩:=n;refine⟨o,ho,λ name=>?_⟩;have e:=hm name;unfold nsFind findBy at e;rw[<-Array.find?_toList] at e;unfold PySem.W.lookIn;rw[hd];dsimp only;split
 ·rename_i y q;rw[q] at e;exact congrArg some e
 ·rename_i q;rw[q] at e;have a:es.toList.any (·.refKey)=false:=by
   rw[List.any_eq_false];intro y hy;obtain⟨z,t,lm⟩:=hk y (Array.mem_toList_iff.mp hy);simp[DictEntry.refKey,lm]
  have a':¬ es.toList.any (·.refKey)=true:=by rw[a];exact zG
  rw[if_neg a'];exact congrArg some e
theorem R4.look {h:Heap}{x dx C:Addr}{mA:Str->Option Value}(I:R4 h x dx C mA):∃od,PySem.W.InstAt h x (yM C dx) C (some od)/\∀name,PySem.W.lookIn name od=some (mA name):=
 let ⟨od,ho,hl⟩:=Tz I.ns
 ⟨od,⟨I.obj,rfl,rfl,ho⟩,hl⟩
section
variable {prog:Program}{w:World}{A:Around}{E:Value->Shared->Prop}{s:Shared}{K:za}{x dx C f:Addr}{mA:Str->Option Value}{name:Str}{v:Value}
theorem get_map {expr:Bool}{Q:Value->Shared->Prop}(X:K.In s.heap)(I:R4 s.heap x dx C mA)(hg:xj K C name=true)(hh:PySem.W.hasDictIn K C=true)
 (ha:zi K (.ref C) name=some none) (hv:mA name=some v) (ln:PySem.W.handedIn v=true) (h:Q v {s with toks:=s.toks+1}):
 wpAny (model prog w) A (getAttr (.ref x) name expr) Q E s:=by
 obtain⟨od,J,hl⟩:=I.look;exact PySem.W.get_value X J (PySem.W.plainGet_of hg).1 (PySem.W.findObj_own hh ha rfl (by rw[hl,hv])) ln h
theorem Vx {pl:Sem Bool}{Q:Value×List Value->Shared->Prop}(X:K.In s.heap)(I:R4 s.heap x dx C mA)(hg:xj K C name=true)
 (hf:zi K (.ref C) name=some (some (.ref f))) (ht:xk K (.ref f)=true) (hv:mA name=none) (h:Q (.ref f,[.ref x]) s):
 wpAny (model prog w) A (getMethod (.ref x) name pl) Q E s:=by
 obtain⟨od,J,hl⟩:=I.look;exact PySem.W.method_fn X J (PySem.W.plainGet_of hg).1 (PySem.W.plainGet_of hg).2 hf (beq_iff_eq.mp ht) (by show (PySem.W.lookIn name od).map (·.isSome)=some false;rw[hl,hv];rfl) h
theorem XT {ns:List Str}{Q:Unit->Shared->Prop}(X:K.In s.heap)(I:R4 s.heap x dx C mA)
 (hs:zi K (.ref C) "__setattr__" = some (some (.builtin "object.__setattr__"))) (hp:PySem.W.plainOver K C=true) (ht:PySem.W.takerIn K C name=some none) (hh:PySem.W.hasDictIn K C=true)
 (hw:PySem.Within mA ns) (hsz:ns.length<=sizeLine)
 (h:∀h',R4 h' x dx C (λ y=>if y=name then some v else mA y)->yR dx s.heap h'->Q () {s with heap:=h',toks:=s.toks+2}):
 wpAny (model prog w) A (setAttr (.ref x) name v) Q E s:=by
 obtain⟨od,J,hl⟩:=I.look;refine PySem.W.set_plain X J hs (PySem.W.osa_open (s:={s with toks:=s.toks+1}) (r:=none) X J hp ht λ b=>?_);obtain⟨cd,hc,bT⟩:=PySem.W.any_some hh;have hx:s.heap.get? x=some ⟨.ref C,some dx,.plain,#[]⟩:=I.obj;refine wpAny_bind (wpAny_pure (wpAny_bind (wpAny_bind (wpAny_loadPart hx (wpAny_bind (PySem.W.Looks.here (s:={s with toks:=s.toks+1}) (PySem.W.looks_clsIn X hc) ?_))))));rw[bT];refine wpAny_pure (a:=some dx) (wpAny_bind (wpAny_pure (wpAny_bind ?_)));refine wpAny_nsSet1 (s:={s with toks:=s.toks+1}) I.ns λ h' aD aS=>?_;obtain⟨oD,uv,uw,rQ,rR,rS⟩:=aD.count (PySem.Within.cons name v hw);refine wpAny_bind (wpAny_lookBehind rQ (by rw[rR];exact pastItsLine_dict (yi rS (by rw[zo];omega))) ?_);exact wpAny_pure (h _ ⟨(aS.2 _ (yd I.ne)).trans I.obj,aD,I.ne⟩ aS)
theorem Vy {R:Result->Shared->Prop}{vs:List Value}{kw:List (Str×Value)}(X:K.In s.heap)(hm:PySem.W.makesIn K C=true)
 (hi:zi K (.ref C) "__init__" = some (some (.ref f))) (hf:PySem.W.typeIn K (.ref f)=some (.type "function"))
 (h:codeAny (model prog w) (A.under (.builtin "type.__call__" ⟨.ref C::vs,kw⟩)) (.call (.ref f) ⟨.ref (s.heap.objs.size+1)::vs,kw⟩) (PySem.W.InitBack (s.heap.objs.size+1) R)
  {s with heap:=(s.heap.push yt).push (yM C s.heap.objs.size)}):
 codeAny (model prog w) A (.call (.ref C) ⟨vs,kw⟩) R s:=by
 obtain⟨hh,g,d,t,os⟩:=s;exact PySem.W.make_core (PySem.W.makes_of X hm) (PySem.W.looks_findIn X hi) (λ self=>PySem.W.bind_fn X self hf) (.inl rfl) h
end
noncomputable def Dx (f:Str)(v:V):List (Str×V)->List (Str×V)
 |[]=>[(f,v)]
 |(g,x)::r=>if g=f then (g,v)::r else (g,x)::Dx f v r
theorem K2 (f g:Str)(v:V):∀fs:List (Str×V),(Dx f v fs).lookup g=if g=f then some v else fs.lookup g
 |[]=>by
  show List.lookup g [(f,v)]=_;by_cases h:g=f
  ·have hb:(g==f)=true:=beq_iff_eq.mpr h;simp only[List.lookup,hb,if_pos h]
  ·have hb:(g==f)=false:=beq_eq_false_iff_ne.mpr h;simp only[List.lookup,hb,if_neg h]
 |(k,x)::r=>by
  have ih:=K2 f g v r;rw[show Dx f v ((k,x)::r)=(if k=f then (k,v)::r else (k,x)::Dx f v r) from rfl];by_cases hk:k=f
  ·rw[if_pos hk];by_cases h:g=k
   ·have hb:(g==k)=true:=beq_iff_eq.mpr h;simp only[List.lookup,hb,if_pos (h.trans hk)]
   ·have hb:(g==k)=false:=beq_eq_false_iff_ne.mpr h;simp only[List.lookup,hb,if_neg (λ e:g=f=>h (e.trans hk.symm))]
  ·rw[if_neg hk];by_cases h:g=k
   ·have hb:(g==k)=true:=beq_iff_eq.mpr h;simp only[List.lookup,hb,if_neg (λ e:g=f=>hk (h.symm.trans e))]
   ·have hb:(g==k)=false:=beq_eq_false_iff_ne.mpr h;simp only[List.lookup,hb];exact ih
theorem Jj (f:Str)(v:V):∀fs:List (Str×V),f∈(Dx f v fs).map (·.1)/\∀g,g∈fs.map (·.1)->g∈(Dx f v fs).map (·.1)
 |[]=>⟨by simp[Dx],λ g h=>by simp at h⟩
 |(k,x)::r=>by
  obtain⟨i1,i2⟩:=Jj f v r;rw[show Dx f v ((k,x)::r)=(if k=f then (k,v)::r else (k,x)::Dx f v r) from rfl];by_cases hk:k=f
  ·rw[if_pos hk];subst hk;exact⟨by simp,λ g h=>by simpa using h⟩
  ·rw[if_neg hk];refine⟨?_,λ g h=>?_⟩
   ·rw[zg];exact zf _ i1
   ·rw[zg] at h ⊢;rcases zp.mp h with e|e
    ·exact zp.mpr (.inl e)
    ·exact zf _ (i2 g e)
theorem K3 (f:Str)(v:V):∀fs:List (Str×V),(Dx f v fs).length<=fs.length+1
 |[]=>by simp[Dx]
 |(k,x)::r=>by
  have ih:=K3 f v r;rw[show Dx f v ((k,x)::r)=(if k=f then (k,v)::r else (k,x)::Dx f v r) from rfl];by_cases hk:k=f
  ·rw[if_pos hk,zo,zo];omega
  ·rw[if_neg hk,zo,zo];omega
theorem Hv.some_of {v:V}{o:Option Value}(r:Hv (some v) o):∃u,o=some u/\RelV v u:=by
 cases o with
 |none=>exact (show False from r).elim
 |some u=>exact⟨u,rfl,r⟩
theorem Hv.none_of {o:Option Value}(r:Hv none o):o=none:=by
 cases o with
 |none=>rfl
 |some u=>exact (show False from r).elim
theorem TB {v:V}{u:Value}(r:RelV v u):PySem.W.handedIn u=true:=by
 cases v with
 |AD=>cases (show u=yE from r);rfl
 |bl b=>cases (show u=Value.bool b from r);rfl
 |int i=>obtain⟨t,e⟩:=(show ∃t,u=Value.int i t from r);cases e;rfl
 |str x=>obtain⟨t,e⟩:=(show ∃t,u=Value.str x t from r);cases e;rfl
 |cS b=>obtain⟨t,e⟩:=(show ∃t,u=Value.bytes b t from r);cases e;rfl
 |iX b=>obtain⟨t,e⟩:=(show ∃t,u=Value.float b t from r);cases e;rfl
 |ref a=>cases (show u=zX a from r);rfl
 |ty n=>cases (show u=Value.type n from r);rfl
section
variable {P:Program}{w:World}{H H':Hp}{h h':Heap}{a C dx:Addr}{fs bS:List (Str×V)}
theorem O0 (Ao:FR P w H h)(e:H a=some (.ins C dx fs)):∃mA,R4 h a dx C mA/\(∀f,Hv (fs.lookup f) (mA f))/\PySem.Within mA (fs.map (·.1))/\fs.length<=1000/\H dx=some (.own a):=by
 obtain⟨d,z,ne,ob,mA,n,r,q⟩:=(show Bi P w H h a (.ins C dx fs) from Ao a _ e);exact⟨mA,⟨ob,n,ne⟩,r,q,z,d⟩
end
structure TC (K:za)(C:Addr):Prop where
 pg:xj K C Str.empty=true
 hd:PySem.W.hasDictIn K C=true
 po:PySem.W.plainOver K C=true
 sa:zi K (.ref C) "__setattr__" = some (some (.builtin "object.__setattr__"))
theorem TC.get {K:za}{C:Addr}(c:TC K C)(f:Str):xj K C f=true:=c.pg
def HH (K:za)(C:Addr)(f:Str):Prop:=zi K (.ref C) f=some none
theorem HH.jX {K:za}{C:Addr}{f:Str}(n:HH K C f):PySem.W.takerIn K C f=some none:=by
 unfold PySem.W.takerIn;rw[show zi K (.ref C) f=some none from n];rfl
structure Meth (K:za)(C:Addr)(m:Str)(f:Addr):Prop where
 at_:zi K (.ref C) m=some (some (.ref f))
 fn:xk K (.ref f)=true
 kp:zN K (.ref f)=true
section
variable {X:Cx}{pins:List (Addr×Obj)}{σ:St}{H:Hp}{s:Shared}{a C dx:Addr}{fs:List (Str×V)}{f:Str}{v:V}{A:Around}{E:Value->Shared->Prop}
theorem R5 {b:Bool}{Q:Value->Shared->Prop}(I:Inv X pins σ H s)(e:H a=some (.ins C dx fs))(c:TC X.K C)(n:HH X.K C f)(l:fs.lookup f=some v)
 (h:∀u s',Inv X pins σ H s'->RelV v u->Q u s'):wpAny (model X.prog X.w) A (getAttr (.ref a) f b) Q E s:=by
 obtain⟨mA,O,r,_,_,_⟩:=O0 I.Ao e;obtain⟨u,hu,ru⟩:=Hv.some_of (v:=v) (o:=mA f) (by rw[<-l];exact r f);exact get_map I.Mx O (c.get f) c.hd n hu (TB ru) (h u _ (I.tok _) ru)
theorem L0 {m:Str}{g:Addr}{pl:Sem Bool}{Q:Value×List Value->Shared->Prop}(I:Inv X pins σ H s)(e:H a=some (.ins C dx fs))(c:TC X.K C)(k:Meth X.K C m g)(l:fs.lookup m=none)
 (h:Q (.ref g,[.ref a]) s):wpAny (model X.prog X.w) A (getMethod (.ref a) m pl) Q E s:=by
 obtain⟨mA,O,r,_,_,_⟩:=O0 I.Ao e;have hn:mA m=none:=Hv.none_of (by rw[<-l];exact r m);exact Vx I.Mx O (c.get m) k.at_ k.fn hn h
theorem R6 {y:V}{u:Value}{Q:Unit->Shared->Prop}(I:Inv X pins σ H s)(e:H a=some (.ins C dx fs))(c:TC X.K C)(n:HH X.K C f)(hl:fs.length<1000)(ry:RelV y u)
 (h:∀s',Inv X pins σ (upd H a (.ins C dx (Dx f y fs))) s'->Q () s'):wpAny (model X.prog X.w) A (setAttr (.ref a) f u) Q E s:=by
 obtain⟨mA,O,r,wi,_,ho⟩:=O0 I.Ao e;have hz:(fs.map (·.1)).length<=sizeLine:=by rw[ze,sizeLine_eq];omega
 refine XT I.Mx O c.sa c.po n.jX c.hd wi hz λ h' O' sb=>h _ ?_;have hd:∃o,h'.get? dx=some o:=let ⟨o,_,_,e',_⟩:=O'.ns;⟨o,e'⟩;refine I.write (x:=a) (e:=dx) (by rw[e];exact yV) (.inr ho) (λ b q hb z=>(sb.2 b hb).trans z) hd ?_;refine⟨by rw[Al O.ne];exact ho,?_,O.ne,O'.obj,_,O'.ns,λ g=>?_,λ g hg=>?_⟩
 ·have:=K3 f y fs;omega
 ·show Hv ((Dx f y fs).lookup g) (if g=f then some u else mA g);rw[K2];by_cases q:g=f
  ·rw[if_pos q,if_pos q];exact ry
  ·rw[if_neg q,if_neg q];exact r g
 ·by_cases q:g=f
  ·rw[q];exact (Jj f y fs).1
  ·refine (Jj f y fs).2 g (wi g λ z=>hg ?_);show (if g=f then some u else mA g)=none;rw[if_neg q];exact z
theorem Inv.made (I:Inv X pins σ H s):Inv X pins σ (upd (upd H s.heap.objs.size (.own (s.heap.objs.size+1))) (s.heap.objs.size+1) (.ins C s.heap.objs.size []))
 {s with heap:=(s.heap.push yt).push (yM C s.heap.objs.size)}:=by
 have e1:(s.heap.push yt).get? s.heap.objs.size=some yt:=zA s.heap rfl;have e2:((s.heap.push yt).push (yM C s.heap.objs.size)).get? (s.heap.objs.size+1)=some (yM C s.heap.objs.size):=by
  have:=zA (s.heap.push yt) (o:=yM C s.heap.objs.size) rfl;rwa[Heap.size_push] at this
 have e3:(s.heap.push yt).Ns s.heap.objs.size (λ _=>none):=⟨yt,#[],_,e1,rfl,(λ e he=>absurd he (by simp)),λ _=>rfl⟩;have I1:=I.laid (a:=s.heap.objs.size) (o:=.own (s.heap.objs.size+1)) (h':=s.heap.push yt) (t':=s.toks) (λ b u q=>zh _ q) (zv _) ⟨_,e1⟩;refine I1.laid (a:=s.heap.objs.size+1) (o:=.ins C s.heap.objs.size []) (t':=s.toks) (λ b u q=>zh _ q) (Nat.le_of_eq (Heap.size_push _ _)) ?_;have ne:s.heap.objs.size≠s.heap.objs.size+1:=zI (Nat.lt_succ_self _);refine⟨by rw[Al ne,Ax],zW _,ne,e2,λ _=>none,(Heap.Ns1.of_empty e3).at λ o q=>zh _ q,λ _=>yV,λ y hy=>absurd rfl hy⟩
theorem XU {prog:Program}{w:World}{env:Env}{e:Expr}{f:Str}{pos:Pos}{s:Shared}{Q:Value->Shared->Prop}(hb:attributeBase e f env (eval e env)=eval e env)
 (h:wpAny (model prog w) A (eval e env) (λ o s₁=>wpAny (model prog w) A (getAttr o f true) Q E s₁) E s):wpAny (model prog w) A (eval (.Attribute e f pos) env) Q E s:=
 Attribute_any_ h (by rw[arm_eval_Attribute,hb])
end
noncomputable def nT (K:za)(ta:TE)(f:Str):TE:=λ σ H Q=>ta σ H λ x H1=>∃a C dx fs v,x=.ref a/\H1 a=some (.ins C dx fs)/\TC K C/\HH K C f/\fs.lookup f=some v/\Q v H1
noncomputable def nU (K:za)(ta tv:TE)(f:Str):TS:=λ D σ H=>tv σ H λ y H1=>ta σ H1 λ x H2=>∃a C dx fs,x=.ref a/\H2 a=some (.ins C dx fs)/\TC K C/\HH K C f/\fs.length<1000/\
 D.nx σ (upd H2 a (.ins C dx (Dx f y fs)))
section
variable {X:Cx}{o e value:Expr}{f:Str}{pos pos' bq:Pos}{ta tv:TE}
theorem eB (he:PE X e ta)(hb:attributeBase e f X.env (eval e X.env)=eval e X.env):PE X (.Attribute e f pos) (nT X.K ta f):=by
 intro pins s σ H Q I h;refine XU hb (B2 (he pins s σ H _ I h) λ u s1 ⟨x,H1,I1,rx,a,C,dx,fs,v,ex,ea,c,n,l,q⟩=>?_);subst ex;obtain rfl:u=zX a:=rx;exact R5 I1 ea c n l λ u' s2 I2 ru=>⟨v,H1,I2,ru,q⟩
theorem eC (ha:PE X o ta)(hv:PE X value tv)(hs:swapsWith value (some (.Attribute o f pos')) pos.line X.env=pure false):PS X (.Assign [.Attribute o f pos'] value pos) (nU X.K ta tv f):=by
 intro pins s σ H D I h;refine plainObj_wpAny_Assign_Attribute (B2 (hv pins s σ H _ I h) λ u s1 ⟨y,H1,I1,ry,q⟩=>B2 (ha pins s1 σ H1 _ I1 q) λ ov s2 ⟨x,H2,I2,rx,a,C,dx,fs,ex,ea,c,n,l,q2⟩=>?_) hs;subst ex;obtain rfl:ov=zX a:=rx;exact R6 I2 ea c n l ry λ s3 I3=>⟨σ,_,I3,q2⟩
end
structure Bq (k:Nat)(A:Around):Prop where
 hd:A.handled=none
 dp:A.depth+3*k+5<recursionLimit
 un:A.units+16*k+200<cLine
theorem Bq.mono {j k:Nat}{A:Around}(r:Bq k A)(h:j<=k):Bq j A:=⟨r.hd,by have:=r.dp;omega,by have:=r.un;omega⟩
theorem Bq.deeper {k:Nat}{A:Around}(r:Bq (k+1) A)(env:Env):Bq k (A.deeper env):=
 ⟨r.hd,by have:=r.dp;show A.depth+1+3*k+5<_;omega,by have:=r.un;show A.units+3+16*k+200<_;omega⟩
theorem R7 {A:Around}{C:Addr}{us:List Value}{kw:List (Str×Value)}:(A.under (.builtin "type.__call__" ⟨.ref C::us,kw⟩)).depth=A.depth+1:=by
 first|rfl|simp[Around.under,Code.weight,Code.isCreation,Code.isGuard,Code.isCaller,Code.frames,Code.isFrame,guardIds]
theorem R8 {A:Around}{C:Addr}{us:List Value}{kw:List (Str×Value)}:(A.under (.builtin "type.__call__" ⟨.ref C::us,kw⟩)).units=A.units+1:=by
 first|rfl|simp[Around.under,Code.cUnits,Code.frames,Code.isFrame]
theorem Bq.make {k:Nat}{A:Around}(r:Bq (k+1) A)(C:Addr)(us:List Value)(kw:List (Str×Value)):Bq k (A.under (.builtin "type.__call__" ⟨.ref C::us,kw⟩)):=
 ⟨r.hd,by have:=r.dp;rw[R7];omega,by have:=r.un;rw[R8];omega⟩
theorem Bq.depth {k:Nat}{A:Around}(r:Bq k A):A.depth<recursionLimit:=by have:=r.dp;omega
theorem Bq.units {k:Nat}{A:Around}(r:Bq k A):A.units+64<cLine:=by have:=r.un;omega
noncomputable def eE:TA:=λ _ H Q=>Q [] H
noncomputable def Zz (ta:TE)(tr:TA):TA:=λ σ H Q=>ta σ H λ x H1=>tr σ H1 λ xs H2=>Q (x::xs) H2
section
variable {X:Cx}{e:Expr}{es:List Expr}{te:TE}{t:TA}{pos:Pos}
theorem Cs:PA X [] eE:=λ _ _ _ _ H Q I h=>Calls.spliced_nil ⟨[],H,I,.nil,h⟩
theorem Bl (ha:PE X e te)(hr:PA X es t)(hs:starEach (e::es) X.env=(false,eval e X.env)::starEach es X.env:=by rfl):PA X (e::es) (Zz te t):=by
 intro pos pins s σ H Q I h;rw[hs];show wpAny _ _ (spliced ((false,eval e X.env)::backTo pos (starEach es X.env))) _ _ s;refine Calls.spliced_cons (B2 (ha pins s σ H _ I h) λ u s1 ⟨x,H1,I1,r1,q1⟩=>?_);exact B2 (hr pos pins s1 σ H1 _ I1 q1) λ us s2 ⟨xs,H2,I2,r2,q2⟩=>⟨x::xs,H2,I2,.cons r1 r2,q2⟩
noncomputable def nV (t:TA):TE:=λ σ H Q=>t σ H λ xs H1=>xs.length<=sizeLine/\∀p,H1 p=none->Q (.ref p) (upd H1 p (.tup xs))
noncomputable def nW (t:TA):TE:=λ σ H Q=>t σ H λ xs H1=>xs.length<=sizeLine/\∀p,H1 p=none->Q (.ref p) (upd H1 p (.lst xs))
theorem Vz {x1}(h:PA X es t):PE X (.Tuple es x1 pos) (nV t):=by
 intro pins s σ H Q I hq;refine wpAny_Tuple_spliced (B2 (h pos pins s σ H _ I hq) λ us s1 ⟨xs,H1,I1,r,z,q⟩=>⟨by rw[<-r.length];exact z,?_⟩);have hf:H1 s1.heap.objs.size=none:=I1.Ao.fresh (zv _);refine⟨.ref s1.heap.objs.size,upd H1 s1.heap.objs.size (.tup xs),I1.laid (t':=s1.toks) (λ b u e=>zh _ e) (zv _) ?_,rfl,q _ hf⟩;exact⟨z,us,r,⟨_,zA _ rfl,rfl,_,rfl⟩⟩
theorem R9 (h:PA X es t):PE X (.List es pos) (nW t):=by
 intro pins s σ H Q I hq;refine wpAny_List_spliced (B2 (h pos pins s σ H _ I hq) λ us s1 ⟨xs,H1,I1,r,z,q⟩=>⟨by rw[<-r.length];exact z,?_⟩);have hf:H1 s1.heap.objs.size=none:=I1.Ao.fresh (zv _);refine⟨.ref s1.heap.objs.size,upd H1 s1.heap.objs.size (.lst xs),I1.laid (t':=s1.toks) (λ b u e=>zh _ e) (zv _) ?_,rfl,q _ hf⟩;exact⟨z,us,0,r,zA _ rfl⟩
end
noncomputable abbrev Sp:=List V->Hp->VK->XK->Prop
noncomputable abbrev Si:=List Env->Hp->Shared->XK->Value->Shared->Prop
structure Ra (P:Program)(w:World)(K:za)(mg:Str->Option Value)(base:Heap)(A:Around)(outer:List Env)(s:Shared)(H:Hp):Prop where
 frames:A.frames=some outer
 mod:Mod K mg base
 bs:∀b o,base.get? b=some o->s.heap.get? b=some o/\H b=none
 XF:base.objs.size<=s.heap.objs.size
 Iz:s.heap.FunFrames base outer
 cV:∀b∈K1 outer,H b=none
 Ao:FR P w H s.heap
 bare:AllBare s.gens
def CE (outer:List Env)(P:Program)(w:World)(H:Hp)(s:Shared)(Q:VK)(u:Value)(s':Shared):Prop:=
 ∃v H',s'.os=s.os/\AllBare s'.gens/\Un (K1 outer) [] H H' s.heap s'.heap/\FR P w H' s'.heap/\RelV v u/\Q v H'
def CR (CX:Si)(outer:List Env)(P:Program)(w:World)(H:Hp)(s:Shared)(Q:VK)(E:XK)(r:Result)(s':Shared):Prop:=
 match r with
 | .ok (.ret u)=>CE outer P w H s Q u s'
 | .ok _=>False
 | .error e=>CX outer H s E e s'
structure CV (P:Program)(w:World)(K:za)(mg:Str->Option Value)(base:Heap)(CX:Si)(k:Nat)(f:Addr)(fd:FuncData)(ps:List Str)(sp:Sp):Prop where
 len:∀vs H Q E,sp vs H Q E->vs.length=ps.length
 run:∀(A:Around) (outer:List Env) (s:Shared) (H:Hp) (args:Args) (us:List Value) (vs:List V) (Q:VK) (E:XK),Bq k A->Ra P w K mg base A outer s H->BindsTo s fd args (ps.zip us)->Vals vs us->sp vs H Q E->
  codeAny (model P w) A (.call (.ref f) args) (CR CX outer P w H s Q E) s
theorem Ra.make {P:Program}{w:World}{K:za}{mg:Str->Option Value}{base:Heap}{A:Around}{outer:List Env}{s:Shared}{H:Hp}(e:Ra P w K mg base A outer s H)(C:Addr)(us:List Value)(kw:List (Str×Value)):
 Ra P w K mg base (A.under (.builtin "type.__call__" ⟨.ref C::us,kw⟩)) outer s H:=⟨by first|exact e.frames|(simpa [Around.under,Code.envs,Code.isFrame,pushEnvs] using e.frames),e.mod,e.bs,e.XF,e.Iz,e.cV,e.Ao,e.bare⟩
section
variable {X:Cx}{pins:List (Addr×Obj)}{σ:St}{H:Hp}{s s':Shared}
theorem Inv.jY (I:Inv X pins σ H s):Ra X.prog X.w X.K X.mg X.base X.A X.stack s H:=
 ⟨I.ok.frames,I.ok.mod,I.bs,yi I.ok.XF I.sz,I.stack,I.NX,I.Ao,I.bare⟩
theorem Inv.after {Q:VK}{u:Value}(I:Inv X pins σ H s)(h:CE X.stack X.prog X.w H s Q u s'):EP X pins σ Q u s':=by
 obtain⟨v,H',os,bare,un,Ao,r,q⟩:=h;obtain⟨hh,g,d,t,rT⟩:=s';obtain rfl:rT=s.os:=os;exact⟨v,H',I.call (h':=hh) (g':=g) (d':=d) (t':=t) (ch:=[]) un Ao bare (λ b z=>absurd z (by simp)),r,q⟩
end
noncomputable def jZ (sp:Sp)(br:List V)(E:XK)(t:TA):TE:=λ σ H Q=>t σ H λ vs H1=>sp (vs++br) H1 Q E
noncomputable def kA (C:Addr)(sp:Sp)(br:List V)(E:XK)(t:TA):TE:=λ σ H Q=>t σ H λ vs H1=>∀x dx,H1 x=none->H1 dx=none->dx≠x->
 sp (.ref x::(vs++br)) (upd (upd H1 dx (.own x)) x (.ins C dx [])) (λ v H2=>v=.AD/\Q (.ref x) H2) E
def Binds (K:za)(fd:FuncData)(ps:List Str)(ds:List Value):Prop:=
 ∀(s:Shared) (us:List Value),K.In s.heap->(us++ds).length=ps.length->BindsTo s fd ⟨us,[]⟩ (ps.zip (us++ds))
theorem Binds.all {K:za}{fd:FuncData}{ps:List Str}(h:∀us:List Value,us.length=ps.length->bindArgs fd ⟨us,[]⟩=pure (ps.zip us)):Binds K fd ps []:=λ s us _ hl=>by
 rw[yc] at hl ⊢;exact .of_eq (h us hl)
def G8 (CX:Si)(X:Cx)(E:XK):Prop:=∀(pins:List (Addr×Obj)) (σ:St) (H:Hp) (s:Shared) (e:Value) (s':Shared),Inv X pins σ H s->CX X.stack H s E e s'->X.xe e s'
section
variable {X:Cx}{CX:Si}{k:Nat}{f C:Addr}{fd:FuncData}{ps:List Str}{sp:Sp}{br:List V}{ds:List Value}{E:XK}{x m:Str}{p pos apos:Pos}{e o:Expr}{es:List Expr}{ta:TE}{t:TA}
theorem Rb {pins:List (Addr×Obj)}{σ:St}{H:Hp}{s:Shared}{Q:VK}{us:List Value}{vs:List V}(F:CV X.prog X.w X.K X.mg X.base CX k f fd ps sp)(hr:Bq k X.A)(hb:Binds X.K fd ps ds)(hd:Vals br ds)(hx:G8 CX X E)
 (I:Inv X pins σ H s) (r:Vals vs us) (h:sp (vs++br) H Q E):wpAny (model X.prog X.w) X.A (call (.ref f) us) (EP X pins σ Q) X.xe s:=by
 have r2:Vals (vs++br) (us++ds):=r.append hd;have hl:(us++ds).length=ps.length:=by rw[<-r2.length];exact F.len _ _ _ _ h
 refine wpAny_call (codeAny_mono (F.run X.A X.stack s H ⟨us,[]⟩ (us++ds) (vs++br) Q E hr I.jY (hb s us I.Mx hl) r2 h) λ r s' hq=>?_);cases r with
 |error e=>exact hx pins σ H s e s' I hq
 |ok fl =>
  cases fl with
  |ret u=>exact I.after hq
  |next|brk|cont=>exact yO hq
theorem Sj (F:CV X.prog X.w X.K X.mg X.base CX k f fd ps sp)(hr:Bq k X.A)(hg:Gl X x)(hm:X.mg x=some (.ref f))(hk:zN X.K (.ref f)=true)(hb:Binds X.K fd ps ds)(hd:Vals br ds)(hx:G8 CX X E)
 (ha:PA X (e::es) t) (aT:(x==("__debug__" : Str))=false:=by decide) (he:starEach (e::es) X.env=(false,eval e X.env)::starEach es X.env:=by rfl) (az:(backTo pos (starEach es X.env)).any (·.1)=false:=by rfl):
 PE X (.Call (.Name x p) (e::es) [] pos) (jZ sp br E t):=by
 intro pins s σ H Q I h;refine wpAny_Call_Name_kw (NY I hg hm ?_ aT);refine PySem.W.callWith_K (h₀:=X.base) I.ok.mod.Vi hk (B2 (ha pos pins s σ H _ I h) λ us s1 ⟨vs,H1,I1,r,q⟩=>⟨I1.Mx,?_⟩) he az;exact Rb F hr hb hd hx I1 r q
structure Mk (K:za)(C f:Addr):Prop where
 makes:PySem.W.makesIn K C=true
 init:zi K (.ref C) "__init__" = some (some (.ref f))
 fn:xk K (.ref f)=true
 kp:zN K (.ref C)=true
theorem VA {pins:List (Addr×Obj)}{σ:St}{H:Hp}{s:Shared}{Q:VK}{us:List Value}{vs:List V}(M:Mk X.K C f)(F:CV X.prog X.w X.K X.mg X.base CX k f fd ps sp)(hr:Bq (k+1) X.A)(hb:Binds X.K fd ps ds)(hd:Vals br ds)
 (hx:G8 CX X E) (I:Inv X pins σ H s) (r:Vals vs us)
 (h:∀x dx,H x=none->H dx=none->dx≠x->sp (.ref x::(vs++br)) (upd (upd H dx (.own x)) x (.ins C dx [])) (λ v H2=>v=.AD/\Q (.ref x) H2) E):
 wpAny (model X.prog X.w) X.A (call (.ref C) us) (EP X pins σ Q) X.xe s:=by
 have hq:=h (s.heap.objs.size+1) s.heap.objs.size (I.Ao.fresh (Nat.le_succ _)) (I.Ao.fresh (zv _)) (zI (Nat.lt_succ_self _));have I2:=Inv.made (C:=C) I;have r2:Vals (V.ref (s.heap.objs.size+1)::(vs++br)) (zX (s.heap.objs.size+1)::(us++ds)):=.cons rfl (r.append hd);have hl:(zX (s.heap.objs.size+1)::us++ds).length=ps.length:=by
  have e:=r2.length;rw[F.len _ _ _ _ hq] at e;exact e.symm
 refine wpAny_call (Vy (f:=f) I.Mx M.makes M.init (beq_iff_eq.mp M.fn) (codeAny_mono (F.run _ X.stack _ _ ⟨zX (s.heap.objs.size+1)::us,[]⟩ (zX (s.heap.objs.size+1)::(us++ds)) _ _ E (hr.make C us [])
  (I2.jY.make C us []) (hb _ (zX (s.heap.objs.size+1)::us) I2.Mx hl) r2 hq) λ r s' df=>?_))
 cases r with
 |error e=>exact hx pins σ _ _ e s' I2 df
 |ok fl =>
  cases fl with
  |ret u =>
   obtain⟨v,H',I3,rv,ev,q3⟩:=I2.after df;subst ev;exact⟨rv,⟨V.ref (s.heap.objs.size+1),H',I3,rfl,q3⟩⟩
  |next|brk|cont=>exact yO df
theorem XW (M:Mk X.K C f)(F:CV X.prog X.w X.K X.mg X.base CX k f fd ps sp)(hr:Bq (k+1) X.A)(hg:Gl X x)(hm:X.mg x=some (.ref C))(hb:Binds X.K fd ps ds)(hd:Vals br ds)(hx:G8 CX X E)
 (ha:PA X (e::es) t) (aT:(x==("__debug__" : Str))=false:=by decide) (he:starEach (e::es) X.env=(false,eval e X.env)::starEach es X.env:=by rfl) (az:(backTo pos (starEach es X.env)).any (·.1)=false:=by rfl):
 PE X (.Call (.Name x p) (e::es) [] pos) (kA C sp br E t):=by
 intro pins s σ H Q I h;refine wpAny_Call_Name_kw (NY I hg hm ?_ aT);refine PySem.W.callWith_K (h₀:=X.base) I.ok.mod.Vi M.kp (B2 (ha pos pins s σ H _ I h) λ us s1 ⟨vs,H1,I1,r,q⟩=>⟨I1.Mx,?_⟩) he az;exact VA M F hr hb hd hx I1 r q
end
def PK (X:Cx)(gu:List Keyword)(t:TA):Prop:=
 ∀(pos:Pos) (pins:List (Addr×Obj)) (s:Shared) (σ:St) (H:Hp) (Q:List V->Hp->Prop),Inv X pins σ H s->t σ H Q->wpAny (model X.prog X.w) X.A (evalAll ((backToKw pos (keywordEach gu X.env)).map (·.2))) (AP X pins σ Q) X.xe s
section
variable {X:Cx}{CX:Si}{k:Nat}{f C:Addr}{fd:FuncData}{ps ks:List Str}{sp:Sp}{E:XK}{x m:Str}{p pos apos lp:Pos}{e o:Expr}{es:List Expr}{gu:List Keyword}{te ta:TE}{t tk:TA}{nm:Option Str}
theorem eF:PK X [] eE:=λ _ _ _ _ H Q I h=>wpAny_evalAll_nil ⟨[],H,I,.nil,h⟩
theorem XX (ha:PE X e te)(hr:PK X gu t):PK X (⟨nm,e,lp⟩::gu) (Zz te t):=by
 intro pos pins s σ H Q I h;show wpAny _ _ (evalAll ((do let v <-eval e X.env;standAt pos;pure v)::(backToKw pos (keywordEach gu X.env)).map (·.2))) _ _ s;refine wpAny_evalAll_cons (wpAny_bind (B2 (ha pins s σ H _ I h) λ u s1 ⟨x,H1,I1,r1,q1⟩=>wpAny_bind (wpAny_standAt (wpAny_pure ?_))));exact B2 (hr pos pins s1 σ H1 _ I1 q1) λ us s2 ⟨xs,H2,I2,r2,q2⟩=>⟨x::xs,H2,I2,.cons r1 r2,q2⟩
variable {g:List Value->List Value->List Value}{gV:List V->List V->List V}
end
structure Ag (N P:List Str)(sc:Scope):Prop where
 kind:sc.kind=.function
 co:sc.isCoroutine=false
 gen:sc.isGenerator=false
 nd:N.Nodup
 pre:N.take P.length=P
 qD:∀x∈P,sc.names.lookup x=some .local\/sc.names.lookup x=some .cell
 eG:∀y∈sc.names,y.2≠.free
theorem MX {kindOf:Str->Option NameKind}{x:Str}:∀ {binds:List (Str×Value)}{m:Str->Option Value},(∀v,(x,v)∉binds)->bindL kindOf binds m x=m x
 |[],_,_=>rfl
 |(n,v)::r,m,h=>by
  unfold bindL;rw[MX λ w hw=>h w (zf _ hw)];split
  ·have:x≠n:=by rintro rfl;exact h v zd
   simp[this]
  ·rfl
theorem MY {kindOf:Str->Option NameKind}{x:Str}:∀ {binds:List (Str×Value)}{m:Str->Option Value},(∀v,(x,v)∉binds)->bindC kindOf binds m x=m x
 |[],_,_=>rfl
 |(n,v)::r,m,h=>by
  unfold bindC;rw[MY λ w hw=>h w (zf _ hw)];split
  ·rfl
  ·have:x≠n:=by rintro rfl;exact h v zd
   simp[this]
theorem MZ {kindOf:Str->Option NameKind}{x:Str}{v:Value}:∀ {P:List Str}{vs:List Value}{i:Nat}{m:Str->Option Value},P.Nodup->P[i]?=some x->vs[i]?=some v->kindOf x=some .local->
 bindL kindOf (P.zip vs) m x=some v
 |[],_,_,_,_,h,_,_|_::_,[],_,_,_,_,h,_=>by simp at h
 |p::P,w::vs,0,m,nd,h1,h2,hk=>by
  simp at h1 h2;subst h1;subst h2;show bindL kindOf ((p,w)::P.zip vs) m p=_;unfold bindL;rw[MX λ v hv=>(yA.mp nd).1 (List.of_mem_zip hv).1,if_pos hk];simp
 |p::P,w::vs,i+1,m,nd,h1,h2,hk=>by
  show bindL kindOf ((p,w)::P.zip vs) m x=_;unfold bindL;exact MZ (i:=i) (yA.mp nd).2 (by simpa using h1) (by simpa using h2) hk
theorem N0 {kindOf:Str->Option NameKind}{x:Str}{v:Value}:∀ {P:List Str}{vs:List Value}{i:Nat}{m:Str->Option Value},P.Nodup->P[i]?=some x->vs[i]?=some v->kindOf x≠some .local->
 bindC kindOf (P.zip vs) m x=some v
 |[],_,_,_,_,h,_,_|_::_,[],_,_,_,_,h,_=>by simp at h
 |p::P,w::vs,0,m,nd,h1,h2,hk=>by
  simp at h1 h2;subst h1;subst h2;show bindC kindOf ((p,w)::P.zip vs) m p=_;unfold bindC;rw[MY λ v hv=>(yA.mp nd).1 (List.of_mem_zip hv).1,if_neg hk];simp
 |p::P,w::vs,i+1,m,nd,h1,h2,hk=>by
  show bindC kindOf ((p,w)::P.zip vs) m x=_;unfold bindC;exact N0 (i:=i) (yA.mp nd).2 (by simpa using h1) (by simpa using h2) hk
noncomputable def start (N:List Str)(vs:List V):St:=vs.map some++z0 (N.length-vs.length) none
noncomputable def Kn (CX:Si)(P:Program)(w:World)(K:za)(mg:Str->Option Value)(base:Heap)(N:List Str)(qual:Str)(scope:Scope)(f:Addr)(cd:Value)(A:Around)(outer:List Env)(s:Shared)(H:Hp)(E:XK):Cx where
 prog:=P
 w:=w
 K:=K
 mg:=mg
 base:=base
 A:=A.deeper (envOfC qual scope s.heap.objs.size f cd)
 N:=N
 s₀:=s
 H₀:=H
 env:=envOfC qual scope s.heap.objs.size f cd
 outer:=outer
 stack:=envOfC qual scope s.heap.objs.size f cd::outer
 ex:=[]
 calm:=true
 fn:=λ _=>true
 pn:=[]
 xe:=λ e s'=>wpAny (model P w) (A.deeper (envOfC qual scope s.heap.objs.size f cd)) (leaving (envOfC qual scope s.heap.objs.size f cd) e) (λ _ gw=>CX outer H s E e gw) (λ e' gw=>CX outer H s E e' gw) s'
theorem Pf {sc:Scope}{n:Nat}{x:Str}(h:sc.names.lookup x=some .cell):∃c,(cellsFrom n sc.names []).lookup x=some c:=by
 have q:=PySem.W.cellsFrom_some sc.names n [] (.inl h);exact y3.mp q
theorem TF {CX:Si}{P:Program}{w:World}{K:za}{mg:Str->Option Value}{base:Heap}{N ps:List Str}{qual:Str}{scope:Scope}{f:Addr}{cd:Value}{A:Around}{outer:List Env}{s s1:Shared}{H:Hp}{E:XK}{us:List Value}{vs:List V}
 (S:Ag N ps scope) (hd:A.handled=none) (e0:Ra P w K mg base A outer s H) (hl:vs.length=ps.length) (r:Vals vs us)
 (x:InCallC s s.heap.objs.size (bindL (envOfC qual scope s.heap.objs.size f cd).kindOf (ps.zip us) λ _=>none) (cellsFrom (s.heap.objs.size+1) scope.names []) (bindC (envOfC qual scope s.heap.objs.size f cd).kindOf (ps.zip us) λ _=>none) s1):
 Inv (Kn CX P w K mg base N qual scope f cd A outer s H E) [] (start N vs) H s1:=by
 have az:ps.length<=N.length:=by have:=congrArg List.length S.pre;rw[yF] at this;omega
 obtain⟨h1,tk,rfl,hk⟩:=x.done;have gx:∀b:Addr,b∉(Kn CX P w K mg base N qual scope f cd A outer s H E).ex:=λ b z=>absurd (show b∈([]:List Addr) from z) (by simp);refine⟨⟨e0.mod,S.kind,rfl,rfl,zv _,λ y z c h1 h2=>?_,λ y hy=>?_,λ y c _ h=>?_,λ _=>hd,Around.frames_deeper e0.frames,.inr ⟨rfl,rfl⟩,λ b z=>absurd z (gx b),e0.bs,e0.XF,λ b _ _=>gx b,λ b z=>absurd z (gx b),e0.Iz,e0.cV⟩,
  rfl,e0.bare,Un.kept hk,⟨_,x.toInCall.ns,λ i y v h1 h2 h3=>?_⟩,λ y c h=>⟨_,x.cell y c h⟩,e0.Ao.fresh (zv _),λ y c h=>?_,λ p hp=>absurd (show p∈([]:List (Addr×Obj)) from hp) (by simp),e0.Ao.kept hk,?_⟩
 ·exact name_of_addr x.apart (xl h1) (xl h2)
 ·have hy:scope.names.lookup y=some .cell\/scope.names.lookup y=some .free:=hy;rcases hy with hy|hy
  ·exact Pf hy
  ·exact absurd rfl (S.eG _ (xl hy))
 ·exact yj (x.above y c (xl h))
 ·have hi:i<vs.length:=by
   unfold start at h2;by_cases hi:i<vs.length
   ·exact hi
   ·rw[xi (by simpa using hi)] at h2;rw[List.getElem?_replicate] at h2;split at h2<;>cases h2
  have ha:vs[i]?=some v:=by
   unfold start at h2;rw[yz (by simpa using hi),zB] at h2;cases e:vs[i]? with
   |none=>rw[e] at h2;cases h2
   |some a=>rw[e] at h2;cases h2;rfl
  obtain⟨u,hu,rv⟩:=r.get ha;have hp:ps[i]?=some y:=by
   rw[<-S.pre,List.getElem?_take_of_lt (by omega)];exact h1
  have qu:ps.Nodup:=by rw[<-S.pre];exact S.nd.sublist (List.take_sublist _ _)
  refine⟨u,rv,?_⟩;rcases S.qD y (zq hp) with k|k
  ·exact .inl ⟨k,MZ qu hp hu k⟩
  ·obtain⟨c,e⟩:=Pf (n:=s.heap.objs.size+1) k;refine .inr ⟨.inl k,c,e,?_⟩;have q:=x.cell y c e;rw[N0 qu hp hu (by show scope.names.lookup y≠_;rw[k];decide)] at q;exact q
 ·exact e0.Ao.fresh (yj (x.above y c (xl h)))
 ·unfold start;show _=N.length;rw[zT,ze,List.length_replicate];omega
theorem Sk {CX:Si}{P:Program}{w:World}{K:za}{mg:Str->Option Value}{base:Heap}{k:Nat}{f:Addr}{name qual:Str}{params:Arguments}{body:List Stmt}{scope:Scope}{dV kV doc pm B1 ct oc:Value}{an od:Option Addr}
 {QR:Array (Option Value)} {N ps:List Str} {sp:Sp} (lk:K.lookup f=some ⟨oc,od,.func (zP name qual params body scope dV kV doc pm an B1 ct),QR⟩) (bd:yb K B1 qual=true) (S:Ag N ps scope)
 (len:∀vs H Q E,sp vs H Q E->vs.length=ps.length)
 (bU:∀(A:Around) (outer:List Env) (s:Shared) (H:Hp) (vs:List V) (Q:VK) (E:XK),Bq k (A.deeper (envOfC qual scope s.heap.objs.size f B1))->sp vs H Q E->
  ∃t,Sf (Kn CX P w K mg base N qual scope f B1 A outer s H E) body t/\t {nx:=λ _ H'=>Q .AD H',rt:=Q} (start N vs) H):
 CV P w K mg base CX (k+1) f (zP name qual params body scope dV kV doc pm an B1 ct) ps sp:=by
 refine⟨len,λ A outer s H args us vs Q E hr e0 hb r cv=>?_⟩;have hl:=len _ _ _ _ cv;have KX:K.In s.heap:=e0.mod.Vi.keeps λ b o e=>(e0.bs b o e).1;have lim:s.heap.NoLimit:=e0.mod.nolimit.keeps λ b o e=>(e0.bs b o e).1;have gy:∀y∈ps.zip us,scope.names.lookup y.1=some .local\/(scope.names.lookup y.1=some .cell/\((cellsFrom (s.heap.objs.size+1) scope.names []).lookup y.1).isSome=true):=λ⟨n,v⟩ hy=>by
  rcases S.qD n (List.of_mem_zip hy).1 with q|q
  ·exact .inl q
  ·exact .inr ⟨q,PySem.W.cellsFrom_some _ _ _ (.inl q)⟩
 refine codeAny_call_function hr.depth (KX _ _ lk) rfl S.co S.gen rfl (PySem.W.codeRec_of KX bd) (hb _ _ _ _ ?_);refine wpAny_newFunctionEnv_cells S.kind gy λ env he s1 x=>?_;subst he;refine⟨lim.keeps x.toInCall.keep,codeAny_func ?_⟩;obtain⟨t,ht,hq⟩:=bU A outer s H vs Q E (hr.deeper _) cv;have I:Inv (Kn CX P w K mg base N qual scope f B1 A outer s H E) [] (start N vs) H s1:=TF S hr.hd e0 hl r x;refine wpAny_mono (ht [] s1 (start N vs) H _ I hq) (λ fl s' hs=>?_) λ e s' hs=>hs;have fin:∀ {σ':St} {H':Hp} {v:V} {u:Value},Inv (Kn CX P w K mg base N qual scope f B1 A outer s H E) [] σ' H' s'->RelV v u->Q v H'->CE outer P w H s Q u s':=
  fun {σ' H' v u} J rv q=>⟨v,H',J.os,J.bare,J.base,J.Ao,rv,q⟩
 cases fl with
 |ret u =>
  obtain⟨v,σ',H',J,rv,q⟩:=hs;exact fin J rv q
 |next =>
  obtain⟨σ',H',J,q⟩:=hs;exact fin (v:=V.AD) (u:=yE) J rfl q
 |brk =>
  obtain⟨_,_,_,q⟩:=hs;exact yO q
 |cont =>
  obtain⟨_,_,_,q⟩:=hs;exact yO q
section
variable {X:Cx}{x:Str}{p pos:Pos}{e:Expr}{es:List Expr}{t:TA}{id T:String}{r:List V->Hp->VK->Prop}
noncomputable def nX (r:List V->Hp->VK->Prop)(t:TA):TE:=λ σ H Q=>t σ H λ vs H1=>r vs H1 Q
theorem Pg (hc:G7 X (.builtin id) r)(hg:Gl X x)(hm:X.mg x=none)(hv:bootBuiltins x=some (.builtin id))(ha:PA X (e::es) t)(hn:x ≠ "__name__" := by decide)(aT:(x==("__debug__" : Str))=false:=by decide)
 (he:starEach (e::es) X.env=(false,eval e X.env)::starEach es X.env:=by rfl) (az:(backTo pos (starEach es X.env)).any (·.1)=false:=by rfl):PE X (.Call (.Name x p) (e::es) [] pos) (nX r t):=by
 intro pins s σ H Q I h;refine wpAny_Call_Name_kw (Ek I hg hm hv ?_ hn aT);exact PyProof.Rows.callWith_builtin1 (B2 (ha pos pins s σ H _ I h) λ us s1 ⟨vs,H1,I1,r1,q1⟩=>hc pins s1 σ H1 vs us Q I1 r1 q1) he az
theorem N1 (hc:G7 X (.type T) r)(hg:Gl X x)(hm:X.mg x=none)(hv:bootBuiltins x=some (.type T))(ha:PA X (e::es) t)(hn:x ≠ "__name__" := by decide)(aT:(x==("__debug__" : Str))=false:=by decide)
 (he:starEach (e::es) X.env=(false,eval e X.env)::starEach es X.env:=by rfl) (az:(backTo pos (starEach es X.env)).any (·.1)=false:=by rfl):PE X (.Call (.Name x p) (e::es) [] pos) (nX r t):=by
 intro pins s σ H Q I h;refine wpAny_Call_Name_kw (Ek I hg hm hv ?_ hn aT);exact y4 (B2 (ha pos pins s σ H _ I h) λ us s1 ⟨vs,H1,I1,r1,q1⟩=>hc pins s1 σ H1 vs us Q I1 r1 q1) he az
end
end L2
namespace HT
open PySem PyProof.Rows
noncomputable def lexLt:List Int->List Int->Bool
 |[],[]=>false
 |[],_::_=>true
 |_::_,[]=>false
 |x::xs,y::ys=>if x=y then lexLt xs ys else decide (x<y)
theorem Fh (x y:Int)(xs ys:List Int):lexLt (x::xs) (y::ys)=if x=y then lexLt xs ys else decide (x<y):=rfl
theorem Em:lexLt [] []=false:=rfl
theorem L1 (y:Int)(ys:List Int):lexLt [] (y::ys)=true:=rfl
theorem L3 (x:Int)(xs:List Int):lexLt (x::xs) []=false:=rfl
theorem VB (A:Around)(s:Shared)(a:Int)(t:Tok)(c:Int)(u:Tok):∃e,SeqAt.EqAt A s (.int a t) (.int c u) e/\(e=true↔a=c):=
 ⟨(a==c),SeqAt.EqAt.int_int a t c u,by simp⟩
theorem VC (A:Around)(s:Shared)(a:Int)(t:Tok)(c:Int)(u:Tok)(prog:Program)(w:World)(E:Value->Shared->Prop)(Q:Value->Shared->Prop)(h:Q (.bool (decide (a<c))) s):
 wpAny (model prog w) A (richCompare .Lt (.int a t) (.int c u)) Q E s:=
 (PyProof.Rows.lt_int h:wpAny (model prog w) A (compareOp .Lt (.int a t) (.int c u)) Q E s)
section
open PySem.SeqAt
open PySem.AutoSeq1 (wpAny_loadPart')
open PySem.MeetsSeq PySem.MeetsSeq2 PySem.MeetsSeq3
theorem MB (l b:Addr)(items au:Array Value)(n n2:Nat)(dd lq:Option Addr)(sl lr:Array (Option Value))(ns ms:List Int)(hi:IntsAre items.toList ns)(hj:IntsAre au.toList ms):
 Meets (Builtin.«tuple.__lt__» ⟨[.ref l,.ref b],[]⟩)
  (λ _ R s=>s.heap.get? l=some {cls:=.type "tuple",dict:=dd,data:=.seq items n,slots:=sl}/\s.heap.get? b=some {cls:=.type "tuple",dict:=lq,data:=.seq au n2,slots:=lr}/\
   R (.ok (.ret (.bool (lexLt ns ms)))) s):=
 .of_wp λ prog w A R s h=>by
  obtain⟨hp,g,d,tk,os⟩:=s;obtain⟨hl,hb,h⟩:=h;have f2:=AutoSeq1.sub_tuple_tuple;have z1:items.size=ns.length:=by rw[<-hi.length];simp
  have z2:au.size=ms.length:=by rw[<-hj.length];simp
  wp_walk using wpAny_loadPart' hl,wpAny_loadPart' hb,wpAny_forIn_list _ (λ rest b s'=>b.1=none/\s'=⟨hp,g,d,tk,os⟩/\∃(vs ws:List Value) (c7 f9:List Int),rest=vs.zip ws/\
   IntsAre vs c7/\IntsAre ws f9/\c7.length+au.size=f9.length+items.size/\R (.ok (.ret (.bool (lexLt c7 f9)))) ⟨hp,g,d,tk,os⟩) _
  case turn =>
   rintro ⟨y,x⟩ rest b s' ⟨a6,rfl,vs,ws,c7,f9,hz,ls,jv,hlen,hR⟩;cases ls with
   |nil=>rw[List.zip_nil_left] at hz;cases hz
   |cons a t lu =>
    cases jv with
    |nil=>rw[List.zip_nil_right] at hz;cases hz
    |cons c u lw =>
     rw[List.zip_cons_cons] at hz;injection hz with rV gz
     injection rV with hy hx
     subst hy hx;rw[Fh] at hR;simp only[zo] at hlen;obtain⟨e,he,g7⟩:=VB A.in1 ⟨hp,g,d,tk,os⟩ a t c u;refine wpAny_bind (he prog w _ _ ?_);cases e with
     |true =>
      rw[if_pos (g7.mp rfl)] at hR
      wp_walk
      exact⟨rfl,rfl,_,_,_,_,gz,lu,lw,by omega,hR⟩
     |false =>
      rw[if_neg (λ q=>absurd (g7.mpr q) zG)] at hR;have rW:=VC A.in1 ⟨hp,g,d,tk,os⟩ a t c u prog w
      wp_walk using rW
      exact⟨_,rfl,by simpa using hR⟩
  case fin =>
   rintro ⟨b1,b2⟩ s' ⟨a6,rfl,vs,ws,c7,f9,hz,ls,jv,hlen,hR⟩;simp only at a6;subst a6;have hv:lexLt c7 f9=decide (items.size<au.size):=by
    cases ls with
    |nil =>
     cases jv with
     |nil =>
      simp only[List.length_nil] at hlen;rw[Em];exact (decide_eq_false (by omega)).symm
     |cons c u hw =>
      simp only[List.length_nil,zo] at hlen;rw[L1];exact (decide_eq_true (by omega)).symm
    |cons a t hv =>
     cases jv with
     |nil =>
      simp only[List.length_nil,zo] at hlen;rw[L3];exact (decide_eq_false (by omega)).symm
     |cons c u hw =>
      rw[List.zip_cons_cons] at hz;cases hz
   rw[hv] at hR
   wp_walk
   exact⟨_,rfl,by simpa [Builtin.Tuple.tupleCompareSizes] using hR⟩
  case h =>
   exact⟨rfl,rfl,items.toList,au.toList,ns,ms,rfl,hi,hj,by omega,h⟩
end
section
variable {prog:Program}{w:World}{A:Around}{E:Value->Shared->Prop}{s:Shared}
theorem HI {l b:Addr}{items au:Array Value}{ns ms:List Int}{Q:Value->Shared->Prop}(hl:IsTup s.heap l items)(hb:IsTup s.heap b au)(hi:IntsAre items.toList ns)(hj:IntsAre au.toList ms)
 (hu:A.units<cLine) (h:Q (.bool (lexLt ns ms)) s):wpAny (model prog w) A (compareOp .Lt (.ref l) (.ref b)) Q E s:=by
 obtain⟨⟨cls,dd,data,sl⟩,ho,hc,n,hd⟩:=id hl;obtain⟨⟨rX,lq,data2,lr⟩,jw,qv,n2,hd2⟩:=id hb;simp only at hc hd qv hd2;subst hc hd qv hd2;exact richCompare_meets_room (op:=.Lt) ⟨_,ho,rfl⟩ ⟨_,jw,rfl⟩ PySem.F.slot_tuple_lt PySem.F.entry_tuple_lt (PySem.F.args_tuple_lt_2 _ _) (MB l b items au n n2 dd lq sl lr ns ms hi hj)
  ⟨ho,jw,show Value.bool (lexLt ns ms)≠Value.notImplemented/\Q (.bool (lexLt ns ms)) s from ⟨(λ x=>nomatch x),h⟩⟩ hu
noncomputable def L4 (n d:Nat):Option Int->Nat
 |none=>d
 |some v=>if v<0 then (v+(n:Int)).toNat else min v.toNat n
theorem Ph (n d:Nat):L4 n d none=d:=rfl
theorem Ky (n d k:Nat):L4 n d (some (k:Int))=min k n:=by
 show (if (k:Int)<0 then ((k:Int)+(n:Int)).toNat else min (k:Int).toNat n)=min k n;rw[if_neg (by omega),yk]
end
end HT
namespace L2
open PySem PySem.Spec PyProof.Rows
noncomputable abbrev TO:=St->Hp->(Option Int->Hp->Prop)->Prop
def PO (X:Cx)(e:Option Expr)(t:TO):Prop:=
 ∀(pins:List (Addr×Obj)) (s:Shared) (σ:St) (H:Hp) (Q:Option Int->Hp->Prop),Inv X pins σ H s->t σ H Q->
  wpAny (model X.prog X.w) X.A (evalPart e X.env) (λ u s'=>∃o H',Inv X pins σ H' s'/\IsPart u o/\Q o H') X.xe s
noncomputable def XY:TO:=λ _ H Q=>Q none H
noncomputable def kB (t:TE):TO:=λ σ H Q=>t σ H λ x H1=>∃i,x=.int i/\Q (some i) H1
theorem intsAre_of {ns:List Int}:∀ {us:List Value},Vals (ns.map V.int) us->IntsAre us ns:=by
 induction ns with
 |nil=>intro us r;rw[List.map_nil] at r;cases r;exact .nil
 |cons n ns ih =>
  intro us r;rw[zg] at r;cases r with
  |cons r1 r2 =>
   obtain⟨t,e⟩:=r1;subst e;exact .cons n t (ih r2)
section
variable {X:Cx}{e:Expr}{te:TE}{lo hi:Option Expr}{tl th:TO}{pos p2:Pos}
theorem XZ:PO X none XY:=by
 intro pins s σ H Q I h;rw[evalPart_none];exact wpAny_pure ⟨none,H,I,.none,h⟩
theorem Y0 (h:PE X e te):PO X (some e) (kB te):=by
 intro pins s σ H Q I hw;rw[evalPart_some];refine B2 (h pins s σ H _ I hw) λ u s1 ⟨x,H1,I1,r1,q1⟩=>?_;obtain⟨i,rfl,q⟩:=q1;obtain⟨t,rfl⟩:=r1;exact⟨some i,H1,I1,.int i t,q⟩
def qE (X:Cx)(r:V->Option Int->Option Int->Hp->VK->Prop):Prop:=
 ∀(pins:List (Addr×Obj)) (s:Shared) (σ:St) (H:Hp) (x:V) (v vl vu:Value) (lo hi:Option Int) (sl:Addr) (Q:VK),Inv X pins σ H s->RelV x v->s.heap.IsSliceOf sl vl vu .none->IsPart vl lo->IsPart vu hi->r x lo hi H Q->
  ∃T id,typeLookup (.type T) "__getitem__" = pure (some (.builtin id))/\s.TypeIs v T/\wpAny (model X.prog X.w) X.A (getItem v (.ref sl)) (EP X pins σ Q) X.xe s
noncomputable def rY (r:V->Option Int->Option Int->Hp->VK->Prop)(te:TE)(tl th:TO):TE:=λ σ H Q=>te σ H λ x H1=>tl σ H1 λ l H2=>th σ H2 λ u H3=>r x l u H3 Q
theorem VD {r:V->Option Int->Option Int->Hp->VK->Prop}(hr:qE X r)(he:PE X e te)(hl:PO X lo tl)(hu:PO X hi th):PE X (.Subscript e (.Slice lo hi none p2) pos) (rY r te tl th):=by
 intro pins s σ H Q I h;refine Subscript_ (B2 (he pins s σ H _ I h) λ v s1 ⟨x,H1,I1,r1,q1⟩=>?_);refine wpAny_Slice (B2 (hl pins s1 σ H1 _ I1 q1) λ vl s2 ⟨l,H2,I2,pl,q2⟩=>B2 (hu pins s2 σ H2 _ I2 q2) λ vu s3 ⟨u,H3,I3,pu,q3⟩=>?_);rw[evalPart_none];refine wpAny_pure ?_;have I4:Inv X pins σ H3 {s3 with heap:=s3.heap.push {cls:=.type "slice",data:=.fields #[vl,vu,.none]} }:=I3.kept (t':=s3.toks) λ b ob q=>zh _ q;obtain⟨T,id,hT,ht,hg⟩:=hr pins {s3 with heap:=s3.heap.push {cls:=.type "slice",data:=.fields #[vl,vu,.none]} } σ H3 x v vl vu l u s3.heap.objs.size Q I4 r1 (Heap.IsSliceOf.new ..) pl pu q3;show wpAny (model X.prog X.w) X.A (subscriptTail e (.Slice lo hi none p2) v (.ref s3.heap.objs.size)) (EP X pins σ Q) X.xe {s3 with heap:=s3.heap.push {cls:=.type "slice",data:=.fields #[vl,vu,.none]} };exact tail_any (ops:=[.ref s3.heap.objs.size,v]) ht hT hg (by with_unfolding_all rfl)
noncomputable def VE (xs:List V)(lo hi:Option Int):List V:=(xs.drop (HT.L4 xs.length 0 lo)).take (HT.L4 xs.length xs.length hi-HT.L4 xs.length 0 lo)
theorem Pj (xs:List V)(lo hi:Option Int):(VE xs lo hi).length<=xs.length:=by
 unfold VE;rw[yF,xm];omega
noncomputable def kC (K:za):R2:=λ x y H Q=>∃a b ns ms,x=.ref a/\y=.ref b/\El K H a (ns.map V.int)/\El K H b (ms.map V.int)/\Q (.bl (HT.lexLt ns ms)) H
theorem VF (hu:X.A.units<cLine):GR X (compareOp .Lt) (kC X.K):=by
 intro pins s σ H x y v u Q I rx ry h;obtain⟨a,b,ns,ms,rfl,rfl,ha,hb,q⟩:=h;cases rx;cases ry;obtain⟨aa,r1,p1,_⟩:=I.tuple ha;obtain⟨bJ,r2,p2,_⟩:=I.tuple hb;have i1:IntsAre aa.toArray.toList ns:=intsAre_of r1;have i2:IntsAre bJ.toArray.toList ms:=intsAre_of r2;exact HT.HI p1 p2 i1 i2 hu ⟨.bl (HT.lexLt ns ms),H,I,rfl,q⟩
end
noncomputable def Xy (n:Nat)(i:Int):Option Nat:=if 0<=i then (if i<n then some i.toNat else none) else if -(n:Int)<=i then some (i+n).toNat else none
noncomputable def Sl {α:Type}(xs:List α)(i:Int):Option α:=(Xy xs.length i).bind λ j=>xs[j]?
theorem Sn {n:Nat}{i:Int}{j:Nat}(h:Xy n i=some j):seqIndex? i n=some j/\j<n/\-(n:Int)<=i/\i<n:=by
 unfold Xy at h;by_cases h0:0<=i
 ·rw[if_pos h0] at h;by_cases h1:i<n
  ·rw[if_pos h1] at h;have e:i.toNat=j:=zH h;exact⟨by rw[seqIndex_of h0 h1,e],by omega,by omega,h1⟩
  ·rw[if_neg h1] at h;cases h
 ·rw[if_neg h0] at h;by_cases h1 : -(n:Int)<=i
  ·rw[if_pos h1] at h;have e:(i+n).toNat=j:=zH h;exact⟨by rw[seqIndex_neg (by omega) h1,e],by omega,h1,by omega⟩
  ·rw[if_neg h1] at h;cases h
theorem So {α:Type}{xs:List α}{i:Int}{v:α}(h:Sl xs i=some v):∃j,seqIndex? i xs.length=some j/\xs[j]?=some v/\j<xs.length/\-(xs.length:Int)<=i/\i<xs.length:=by
 unfold Sl at h;cases e:Xy xs.length i with
 |none=>rw[e] at h;cases h
 |some j =>
  rw[e] at h;obtain⟨h1,h2,h3,h4⟩:=Sn e;exact⟨j,h1,h,h2,h3,h4⟩
def O1 (b:Expr):Prop:=∀o i,subscripted b false o i=operate [o,i] (getItem o i)
def Y1 (X:Cx)(r:R2):Prop:=
 ∀(value slice:Expr) (pins:List (Addr×Obj)) (s:Shared) (σ:St) (H:Hp) (x y:V) (v u:Value) (Q:VK),Inv X pins σ H s->RelV x v->RelV y u->r x y H Q->
  subscripted slice false v u=operate [v,u] (getItem v u)->wpAny (model X.prog X.w) X.A (subscriptTail value slice v u) (EP X pins σ Q) X.xe s
def rZ (X:Cx)(id:String)(r:V->List V->Hp->VK->Prop):Prop:=
 ∀(pins:List (Addr×Obj)) (s:Shared) (σ:St) (H:Hp) (x:V) (xs:List V) (v:Value) (us:List Value) (Q:VK),Inv X pins σ H s->RelV x v->Vals xs us->r x xs H Q->
  wpAny (model X.prog X.w) X.A (call (.builtin id) (v::us)) (EP X pins σ Q) X.xe s
section
variable {X:Cx}{a b:Expr}{ta tb:TE}{pos:Pos}
theorem Y1.or {r r':R2}(h:Y1 X r)(h':Y1 X r'):Y1 X (λ x y H Q=>r x y H Q\/r' x y H Q):=by
 intro value slice pins s σ H x y v u Q I rx ry q hs;rcases q with q|q
 ·exact h value slice pins s σ H x y v u Q I rx ry q hs
 ·exact h' value slice pins s σ H x y v u Q I rx ry q hs
theorem kD {r:R2}(hr:Y1 X r)(ha:PE X a ta)(hb:PE X b tb)(hs:O1 b):PE X (.Subscript a b pos) (jP r ta tb):=by
 intro pins s σ H Q I h;exact Subscript_ (dQ ha hb I h λ v u s2 x y H2 I2 rx ry q=>hr a b pins s2 σ H2 x y v u Q I2 rx ry q (hs _ _))
noncomputable def eI (K:za):R2:=λ x y H Q=>∃p xs i v,x=.ref p/\y=.int i/\D8 K H p xs/\Sl xs i=some v/\Q v H
noncomputable def eJ (K:za):R2:=λ x y H Q=>∃p xs i v,x=.ref p/\y=.int i/\El K H p xs/\Sl xs i=some v/\Q v H
theorem Y2:Y1 X (eI X.K):=by
 intro value slice pins s σ H x y v u Q I rx ry h hs;obtain⟨p,xs,i,z,rfl,rfl,hq,he,q⟩:=h;cases rx;obtain⟨t,rfl⟩:=ry;obtain⟨aa,r,pl,hz⟩:=I.list hq;obtain⟨j,h1,h2,h3,h4,h5⟩:=So he;obtain⟨w,ew,bu⟩:=r.get h2;have hl:=r.length;have hn:=Ji;have fin:EP X pins σ Q w s:=⟨z,H,I,bu,q⟩;by_cases h0:0<=i
 ·have hj:i.toNat=j:=by
   rw[seqIndex_of h0 h5] at h1;exact zH h1
  exact item_listR pl.isList h0 (by omega) (by rw[hj];simpa using ew) fin hs
 ·have hj:(i+(aa.toArray.size:Int)).toNat=j:=by
   rw[seqIndex_neg (by omega) h4] at h1;rw[zj,<-hl];exact zH h1
  exact subscriptTail_builtinR (x:=w) pl.isList.typeIs slot_list_getitem.lookup
   (wpAny_getItem_list_neg (Q:=λ r s'=>r=w/\EP X pins σ Q r s') pl.isList (by omega) (by rw[zj]<;>omega) (by omega) (by rw[hj];simpa using ew) ⟨rfl,fin⟩) hs
theorem eK:Y1 X (eJ X.K):=by
 intro value slice pins s σ H x y v u Q I rx ry h hs;obtain⟨p,xs,i,z,rfl,rfl,hq,he,q⟩:=h;cases rx;obtain⟨t,rfl⟩:=ry;obtain⟨aa,r,pl,hz⟩:=I.tuple hq;obtain⟨j,h1,h2,h3,h4,h5⟩:=So he;obtain⟨w,ew,bu⟩:=r.get h2;have hl:=r.length;have hn:=Ji;have fin:EP X pins σ Q w s:=⟨z,H,I,bu,q⟩;exact subscriptTail_builtinR (x:=w) pl.typeIs slot_tuple_getitem.lookup
  (getItem_tuple (j:=j) (Q:=λ r s'=>r=w/\EP X pins σ Q r s') pl (by omega) (by omega) (by rw[zj,<-hl];exact h1) (by simpa using ew) ⟨rfl,fin⟩) hs
theorem Rc (aa:List Value)(n j:Nat)(u:Value):yr (·.setIfInBounds j u) {cls:=.type "list",data:=.seq aa.toArray n}={cls:=.type "list",data:=.seq (aa.set j u).toArray n}:=by
 simp[yr]
theorem Inv.lst {pins:List (Addr×Obj)}{σ:St}{H:Hp}{s:Shared}{p:Addr}{xs:List V}(I:Inv X pins σ H s)(h:H p=some (.lst xs)):
 ∃(aa:List Value) (n:Nat),Vals xs aa/\s.heap.get? p=some {cls:=.type "list",data:=.seq aa.toArray n}/\xs.length<=sizeLine:=by
 obtain⟨z,aa,n,r,e⟩:=I.Ao p _ h;exact⟨aa,n,r,e,z⟩
theorem Inv.eL {pins:List (Addr×Obj)}{σ:St}{H:Hp}{s:Shared}{p:Addr}{xs ys:List V}{aa its':List Value}{n n':Nat}{f:Obj->Obj}(I:Inv X pins σ H s)(h:H p=some (.lst xs))
 (ho:s.heap.get? p=some {cls:=.type "list",data:=.seq aa.toArray n}) (hf:f {cls:=.type "list",data:=.seq aa.toArray n}={cls:=.type "list",data:=.seq its'.toArray n' }) (r:Vals ys its') (hz:ys.length<=sizeLine) (t:Nat):
 Inv X pins σ (upd H p (.lst ys)) {s with heap:=s.heap.update p f,toks:=t}:=by
 have e:(s.heap.update p f).get? p=some {cls:=.type "list",data:=.seq its'.toArray n' }:=by
  rw[yH f ho (by rw[hf]<;>rfl),hf]
 refine I.write (x:=p) (e:=p) (by rw[h];trivial) (.inl rfl) (λ b u hb q=>(yY _ _ (yd hb)).trans q) ⟨_,e⟩ ?_;exact⟨hz,its',n',r,e⟩
def kE:V->V->V->Hp->(Hp->Prop)->Prop:=λ o i v H Q=>∃p xs k j,o=.ref p/\i=.int k/\H p=some (.lst xs)/\Xy xs.length k=some j/\Q (upd H p (.lst (xs.set j v)))
theorem set_list:jK X kE:=by
 intro pins s σ H o i v ov iv u Q I ro ri rv h;obtain⟨p,xs,k,j,rfl,rfl,hp,hj,q⟩:=h;cases ro;obtain⟨t,rfl⟩:=ri;obtain⟨aa,n,r,ho,hz⟩:=I.lst hp;obtain⟨h1,h2,h3,h4⟩:=Sn hj;have hl:=r.length;have hn:=Ji;have I':Inv X pins σ (upd H p (.lst (xs.set j v))) {s with heap:=s.heap.update p (yr (·.setIfInBounds j u))}:=
  I.eL hp ho (Rc aa n j u) (r.set rv j) (by rw[y2];exact hz) s.toks
 by_cases h0:0<=k
 ·have hk:k.toNat=j:=by
   rw[seqIndex_of h0 h4] at h1;exact zH h1
  exact PySem.W.ki_setAt ho h0 (by omega) (by rw[zj,<-hl];exact h4) (by rw[hk];exact⟨_,I',q⟩)
 ·have hk:(k+(aa.toArray.size:Int)).toNat=j:=by
   rw[seqIndex_neg (by omega) h3] at h1;rw[zj,<-hl];exact zH h1
  exact PySem.W.ki_setBack ho (by omega) (by rw[zj,<-hl];exact h3) (by omega) (by rw[hk];exact⟨_,I',q⟩)
theorem O2 (lo hi:Option Int)(n:Nat):(sliceBounds lo hi none n).1=((HT.L4 n 0 lo:Nat):Int)/\(sliceBounds lo hi none n).2.1=((HT.L4 n n hi:Nat):Int)/\(sliceBounds lo hi none n).2.2=1:=by
 refine⟨?_,?_,rfl⟩
 ·cases lo with
  |none=>simp[sliceBounds,HT.L4]
  |some i =>
   simp only[sliceBounds,HT.L4,Option.getD_none,show (1:Int) > 0 by decide,if_true];by_cases h:i<0
   ·simp only[h,if_true]<;>omega
   ·simp only[h,if_false]<;>omega
 ·cases hi with
  |none=>simp[sliceBounds,HT.L4]
  |some i =>
   simp only[sliceBounds,HT.L4,Option.getD_none,show (1:Int) > 0 by decide,if_true];by_cases h:i<0
   ·simp only[h,if_true]<;>omega
   ·simp only[h,if_false]<;>omega
theorem MC (aa:List Value)(lo hi:Option Int):slicePick aa.toArray lo hi none=((aa.drop (HT.L4 aa.length 0 lo)).take (HT.L4 aa.length aa.length hi-HT.L4 aa.length 0 lo)).toArray:=by
 obtain⟨h1,h2,h3⟩:=O2 lo hi aa.toArray.size;unfold slicePick;rw[h1,h2,h3];simp only[sliceRange_one,pick_run,zj]<;>rfl
def nY (K:za):V->Option Int->Option Int->Hp->VK->Prop:=λ x lo hi H Q=>∃a xs,x=.ref a/\D8 K H a xs/\∀p,H p=none->Q (.ref p) (upd H p (.lst (VE xs lo hi)))
theorem Y3:qE X (nY X.K):=by
 intro pins s σ H x v vl vu lo hi sl Q I rx hs pl pu h;obtain⟨a,xs,rfl,hx,q⟩:=h;cases rx;obtain⟨aa,r,ht,hz⟩:=I.list hx;have hlen:=r.length;refine⟨"list",_,slot_list_getitem.lookup,ht.isList.typeIs,?_⟩;refine wpAny_getItem_list_slice ht.isList hs pl pu .none (by simp) ?_ (by rw[zj]<;>omega);rw[MC,<-hlen];refine⟨.ref s.heap.objs.size,_,I.laid (t':=s.toks) (o:=.lst (VE xs lo hi)) (λ b ob q=>zh _ q) (zv _) ?_,rfl,q _ (I.Ao.fresh (zv _))⟩;exact⟨yi (Pj xs lo hi) hz,_,0,(r.drop (HT.L4 xs.length 0 lo)).take (HT.L4 xs.length xs.length hi-HT.L4 xs.length 0 lo),zA _ rfl⟩
noncomputable def IE:V->Bool
 | .AD| .bl _| .int _| .str _=>true
 |_=>false
noncomputable def ZA:V->V->Bool
 | .AD,.AD=>true
 | .bl a,.bl b=>a==b
 | .bl a,.int b=>(if a then 1 else 0)==b
 | .int a,.bl b=>a==(if b then 1 else 0)
 | .int a,.int b| .str a,.str b=>a==b
 |_,_=>false
theorem eM {A:Around}{s:Shared}{y x:V}{u v:Value}(ry:RelV y u)(rx:RelV x v)(fy:IE y=true)(fx:IE x=true):SeqAt.EqAt A s u v (ZA y x):=by
 cases y with
 |AD =>
  cases ry;cases x with
  |AD=>cases rx;exact SeqAt.EqAt.same _
  |bl b=>cases rx;exact SeqAt.EqAt.none_bool b
  |int b=>obtain⟨t,rfl⟩:=rx;exact SeqAt.EqAt.none_int b t
  |str b=>obtain⟨t,rfl⟩:=rx;exact SeqAt.EqAt.none_str b t
  |_=>exact absurd (show false=true from fx) zG
 |bl a =>
  cases ry;cases x with
  |AD=>cases rx;exact SeqAt.EqAt.bool_none a
  |bl b=>cases rx;exact SeqAt.EqAt.bool_bool a b
  |int b=>obtain⟨t,rfl⟩:=rx;exact SeqAt.EqAt.bool_int a b t
  |str b=>obtain⟨t,rfl⟩:=rx;exact SeqAt.EqAt.bool_str a b t
  |_=>exact absurd (show false=true from fx) zG
 |int a =>
  obtain⟨t',rfl⟩:=ry;cases x with
  |AD=>cases rx;exact SeqAt.EqAt.int_none a t'
  |bl b=>cases rx;exact SeqAt.EqAt.int_bool a t' b
  |int b=>obtain⟨t,rfl⟩:=rx;exact SeqAt.EqAt.int_int a t' b t
  |str b=>obtain⟨t,rfl⟩:=rx;exact SeqAt.EqAt.int_str a t' b t
  |_=>exact absurd (show false=true from fx) zG
 |str a =>
  obtain⟨t',rfl⟩:=ry;cases x with
  |AD=>cases rx;exact SeqAt.EqAt.str_none a t'
  |bl b=>cases rx;exact SeqAt.EqAt.str_bool a t' b
  |int b=>obtain⟨t,rfl⟩:=rx;exact SeqAt.EqAt.str_int a t' b t
  |str b=>obtain⟨t,rfl⟩:=rx;exact SeqAt.EqAt.str_str a t' b t
  |_=>exact absurd (show false=true from fx) zG
 |_=>exact absurd (show false=true from fy) zG
noncomputable def Rh (x:V)(u:Value):Bool:=match u with
 | .none=>ZA .AD x
 | .bool b=>ZA (.bl b) x
 | .int i _=>ZA (.int i) x
 | .str z _=>ZA (.str z) x
 |_=>false
theorem VG {x y:V}{u:Value}(r:RelV y u)(f:IE y=true):Rh x u=ZA y x:=by
 cases y with
 |AD|bl b=>cases r;rfl
 |int i|str z=>obtain⟨t,rfl⟩:=r;rfl
 |_=>exact absurd (show false=true from f) zG
theorem IF {x:V}:∀ {xs:List V}{us:List Value},Vals xs us->xs.all IE=true->us.any (Rh x)=xs.any λ y=>ZA y x
 |_,_,.nil,_=>rfl
 |y::xs,u::us,.cons r t,f=>by
  rw[List.all_cons,zV] at f;rw[xh,xh,VG r f.1,IF t f.2]
theorem G9 {A:Around}{s:Shared}{x:V}{v:Value}(rx:RelV x v)(fx:IE x=true):∀ {xs:List V}{us:List Value},Vals xs us->xs.all IE=true->∀u∈us,SeqAt.EqAt A s u v (Rh x u)
 |_,_,.nil,_=>λ u hu=>by cases hu
 |y::xs,u::us,.cons r t,f=>λ u' hu=>by
  rw[List.all_cons,zV] at f;rcases zp.mp hu with rfl|hu
  ·rw[VG r f.1];exact eM r rx f.1 fx
  ·exact G9 rx fx t f.2 u' hu
noncomputable def mF (x:V)(xs:List V):Bool:=xs.any λ y=>ZA y x
noncomputable def mG (K:za)(neg:Bool):R2:=λ x y H Q=>∃p xs,y=.ref p/\(D8 K H p xs\/El K H p xs)/\IE x=true/\xs.all IE=true/\Q (.bl (if neg then !mF x xs else mF x xs)) H
theorem TH:GR X (compareOp .In) (mG X.K false):=by
 intro pins s σ H x y v u Q I rx ry h;obtain⟨p,xs,rfl,hq,fx,fs,q⟩:=h;cases ry;rcases hq with hq|hq
 ·obtain⟨aa,r,pl,hz⟩:=I.list hq;refine SeqAt.in_listAt (Rh x) pl.isList (λ w hw=>G9 rx fx r fs w (by simpa using hw)) ⟨.bl _,H,I,rfl,?_⟩;rw[show aa.toArray.any (Rh x)=aa.any (Rh x) by simp,IF r fs];exact q
 ·obtain⟨aa,r,pl,hz⟩:=I.tuple hq;refine SeqAt.in_tupleAt (Rh x) pl (λ w hw=>G9 rx fx r fs w (by simpa using hw)) ⟨.bl _,H,I,rfl,?_⟩;rw[show aa.toArray.any (Rh x)=aa.any (Rh x) by simp,IF r fs];exact q
theorem O3:GR X (compareOp .NotIn) (mG X.K true):=by
 intro pins s σ H x y v u Q I rx ry h;obtain⟨p,xs,rfl,hq,fx,fs,q⟩:=h;cases ry;rcases hq with hq|hq
 ·obtain⟨aa,r,pl,hz⟩:=I.list hq;refine SeqAt.notIn_listAt (Rh x) pl.isList (λ w hw=>G9 rx fx r fs w (by simpa using hw)) ⟨.bl _,H,I,rfl,?_⟩;rw[show aa.toArray.any (Rh x)=aa.any (Rh x) by simp,IF r fs];exact q
 ·obtain⟨aa,r,pl,hz⟩:=I.tuple hq;refine SeqAt.notIn_tupleAt (Rh x) pl (λ w hw=>G9 rx fx r fs w (by simpa using hw)) ⟨.bl _,H,I,rfl,?_⟩;rw[show aa.toArray.any (Rh x)=aa.any (Rh x) by simp,IF r fs];exact q
theorem O4:G7 X (.builtin "len") (λ xs H Q=>∃p ys,xs=[.ref p]/\(D8 X.K H p ys\/El X.K H p ys)/\Q (.int ys.length) H):=by
 intro pins s σ H xs us Q I r h;obtain⟨p,ys,rfl,hq,q⟩:=h;obtain⟨u,rfl,rx⟩:=vals1 r;cases rx;have hn:=Ji;rcases hq with hq|hq
 ·obtain⟨aa,r',pl,hz⟩:=I.list hq;have hlen:=r'.length;exact Calls.call_len_list pl.isList (by simp only[zj]<;>omega) ⟨.int ys.length,H,I.tok _,⟨s.toks+1,by rw[zj,hlen]⟩,q⟩
 ·obtain⟨aa,r',pl,hz⟩:=I.tuple hq;have hlen:=r'.length;exact len_tuple pl (by simp only[zj]<;>omega) ⟨.int ys.length,H,I.tok _,⟨s.toks+1,by rw[zj,hlen]⟩,q⟩
theorem O5:G7 X (.type "list") (λ xs H Q=>∃p ys,xs=[.ref p]/\(D8 X.K H p ys\/El X.K H p ys)/\∀l,H l=none->Q (.ref l) (upd H l (.lst ys))):=by
 intro pins s σ H xs us Q I r h;obtain⟨p,ys,rfl,hq,q⟩:=h;obtain⟨u,rfl,rx⟩:=vals1 r;cases rx;have fin:∀(aa:List Value),Vals ys aa->ys.length<=sizeLine->∀(h':Heap) (c':Nat),(∀b o',s.heap.get? b=some o'->h'.get? b=some o')->
  h'.get? s.heap.objs.size=some {cls:=.type "list",dict:=none,data:=.seq aa.toArray c',slots:=#[]}->EP X pins σ Q (.ref s.heap.objs.size) {s with heap:=h' }:=λ aa r' hz h' c' kp e =>
  ⟨.ref s.heap.objs.size,_,I.laid (t':=s.toks) kp (zv _) (show Bi X.prog X.w _ h' _ (.lst ys) from ⟨hz,aa,c',r',e⟩),rfl,q _ (I.Ao.fresh (zv _))⟩
 rcases hq with hq|hq
 ·obtain⟨aa,r',pl,hz⟩:=I.list hq;have hlen:=r'.length;obtain⟨o,ho,hc,n,hd⟩:=pl.isList;exact call_list_seq p (.inl rfl) ho hc hd (λ h' c' kp e=>fin aa r' hz h' c' kp e) (by simp only[zj]<;>omega)
 ·obtain⟨aa,r',pl,hz⟩:=I.tuple hq;have hlen:=r'.length;obtain⟨o,ho,hc,n,hd⟩:=pl;exact call_list_seq p (.inr rfl) ho hc hd (λ h' c' kp e=>fin aa r' hz h' c' kp e) (by simp only[zj]<;>omega)
theorem MD:G7 X (.type "tuple") (λ xs H Q=>∃p ys,xs=[.ref p]/\((D8 X.K H p ys/\∀l,H l=none->Q (.ref l) (upd H l (.tup ys)))\/(El X.K H p ys/\Q (.ref p) H))):=by
 intro pins s σ H xs us Q I r h;obtain⟨p,ys,rfl,h⟩:=h;obtain⟨u,rfl,rx⟩:=vals1 r;cases rx;rcases h with ⟨hq,q⟩|⟨hq,q⟩
 ·obtain⟨aa,r',pl,hz⟩:=I.list hq;have hlen:=r'.length;refine call_tuple_list pl.isList (λ h' kp=>?_) (by simp only[zj]<;>omega);have I1:Inv X pins σ H {s with heap:=h' }:=I.kept (t':=s.toks) kp;have I2:Inv X pins σ (upd H h'.objs.size (.tup ys)) {s with heap:=h'.push {cls:=.type "tuple",data:=.seq aa.toArray} }:=
   I1.laid (t':=s.toks) (λ b o e=>zh _ e) (zv _) (show Bi X.prog X.w _ _ _ (.tup ys) from ⟨hz,aa,r',IsTup.new _ _⟩)
  exact⟨.ref h'.objs.size,_,I2,rfl,q _ (I1.Ao.fresh (zv _))⟩
 ·obtain⟨aa,r',pl,hz⟩:=I.tuple hq;exact call_tuple_same pl ⟨.ref p,H,I,rfl,q⟩
def qG (K:za)(T:String)(x:V)(H:Hp):Prop:=match x with
 | .str _=>T = "str"
 | .int _=>T = "int"
 | .ref p=>(T = "list" /\ ∃xs,D8 K H p xs)\/(T = "tuple" /\ ∃o,K.lookup p=some o/\o.cls=.type "tuple" /\ o.dict=none) \/
  (T = "dict" /\ ((∃kvs,H p=some (.dK kvs))\/∃kvs,H p=some (.dT kvs)))\/(T = "set" /\ ∃S n,H p=some (.set S n))
 |_=>False
theorem eN {pins:List (Addr×Obj)}{σ:St}{H:Hp}{s:Shared}{T:String}{x:V}{v:Value}(I:Inv X pins σ H s)(r:RelV x v)(ty:qG X.K T x H):
 s.TypeIs v T/\∀a,v=.ref a->∃ob,s.heap.get? a=some ob/\ob.dict=none:=by
 cases x with
 |str z =>
  obtain⟨t,rfl⟩:=r;cases (show T = "str" from ty);exact⟨typeIs_str s z t,λ _ e=>nomatch e⟩
 |int i =>
  obtain⟨t,rfl⟩:=r;cases (show T = "int" from ty);exact⟨typeIs_int s i t,λ _ e=>nomatch e⟩
 |ref p =>
  cases r;rcases ty with ⟨rfl,xs,hq⟩|⟨rfl,o,hk,hc,hd⟩|⟨rfl,hk⟩|⟨rfl,S,n,hk⟩
  ·obtain⟨aa,_,pl,_⟩:=I.list hq;refine⟨pl.isList.typeIs,λ a e=>?_⟩;cases e;obtain⟨o,n,e,c,hd,_⟩:=pl;exact⟨o,e,hd⟩
  ·refine⟨⟨o,I.Mx p o hk,hc⟩,λ a e=>?_⟩;cases e;exact⟨o,I.Mx _ o hk,hd⟩
  ·have z:∃o,s.heap.get? p=some o/\o.ExactDict:=by
    rcases hk with ⟨kvs,hk⟩|⟨kvs,hk⟩
    ·obtain⟨_,_,_,_,o,_,_,e,ex,_⟩:=I.Ao p _ hk;exact⟨o,e,ex⟩
    ·obtain⟨_,_,_,_,o,_,_,e,ex,_⟩:=I.Ao p _ hk;exact⟨o,e,ex⟩
   obtain⟨o,e,ex⟩:=z;refine⟨⟨o,e,ex.1⟩,λ a e2=>?_⟩;cases e2;exact⟨o,e,ex.2.1⟩
  ·obtain⟨o,_,_,_,e,ex,_⟩:=I.Ao p _ hk;refine⟨⟨o,e,ex.1⟩,λ a e2=>?_⟩;cases e2;exact⟨o,e,ex.2.1⟩
 |_=>exact yO ty
noncomputable def sA (K:za)(T:String)(r:V->List V->Hp->VK->Prop)(to:TE)(t:TA):TE:=λ σ H Q=>to σ H λ x H1=>qG K T x H1/\t σ H1 λ xs H2=>r x xs H2 Q
variable {o e:Expr}{es:List Expr}{to:TE}{t:TA}{name:Str}{apos ag:Pos}{T id:String}{r:V->List V->Hp->VK->Prop}
theorem Sq (pa:PlainAttrs T)(slot:Slot T name id)(se:typeOf (.builtin id)=pure (.type "method_descriptor"))(hm:rZ X id r)(ho:PE X o to)(ha:PA X (e::es) t)
 (a9:attributeBase o name X.env (eval o X.env)=eval o X.env:=by rfl)
 (aW:((backTo ag (starEach (e::es) X.env)).all (λ x => !x.1)&&(backToKw ag (keywordEach [] X.env)).all (λ x=>x.1.isSome)
  && decide ((e::es).length+([]:List Keyword).length+(if ([]:List Keyword).isEmpty then 0 else 1)<30))=true:=by rfl)
 (aA:(apos.endLine==ag.line)=true:=by rfl) (hs:starEach (e::es) X.env=(false,eval e X.env)::starEach es X.env:=by rfl) (aq:(backTo ag (starEach es X.env)).any (·.1)=false:=by rfl):
 PE X (.Call (.Attribute o name apos) (e::es) [] ag) (sA X.K T r to t):=by
 intro pins s σ H Q I h;refine wpAny_Call_method_late a9 aW aA rfl (B2 (ho pins s σ H _ I h) λ v s1 ⟨x,H1,I1,r1,ty,q1⟩=>?_);obtain⟨h1,h2⟩:=eN I1 r1 ty;refine⟨T,id,pa,slot,se,h1,h2,?_⟩;have hA:=ha ag pins s1 σ H1 _ I1 q1;rw[hs] at hA ⊢;refine Calls.callWith_builtin (by show (false||(backTo ag (starEach es X.env)).any (·.1))=false;rw[aq]<;>rfl) (Calls.evalArgs_plain ?_);exact B2 hA λ us s2 ⟨vs,H2,I2,r2,q2⟩=>hm pins s2 σ H2 x vs v us Q I2 r1 r2 q2
end
def mH (X:Cx)(id:String)(r:V->List V->Hp->VK->Prop):Prop:=
 ∀(pins:List (Addr×Obj)) (s:Shared) (σ:St) (H:Hp) (x:V) (xs:List V) (v:Value) (us:List Value) (Q:VK),Inv X pins σ H s->RelV x v->Vals xs us->r x xs H Q->
  wpAny (model X.prog X.w) X.A (call (.builtin id) (v::us)) (EP X pins σ Q) X.xe s
theorem Vals.one:∀ {x:V}{us:List Value},Vals [x] us->∃u,us=[u]/\RelV x u
 |_,_,.cons r .nil=>⟨_,rfl,r⟩
theorem Vals.two:∀ {x y:V}{us:List Value},Vals [x,y] us->∃u v,us=[u,v]/\RelV x u/\RelV y v
 |_,_,_,.cons r (.cons q .nil)=>⟨_,_,rfl,r,q⟩
theorem Vals.dropLast {xs:List V}{us:List Value}(h:Vals xs us):Vals xs.dropLast us.dropLast:=by
 induction h with
 |nil=>exact .nil
 |cons r t ih =>
  cases t with
  |nil=>exact .nil
  |cons q t'=>exact .cons r ih
theorem Vals.eraseIdx:∀ {xs:List V}{us:List Value}(i:Nat),Vals xs us->Vals (xs.eraseIdx i) (us.eraseIdx i)
 |_,_,_,.nil=>.nil
 |_,_,0,.cons _ t=>t
 |_,_,i+1,.cons r t=>.cons r (Vals.eraseIdx i t)
theorem Vals.reverse {xs:List V}{us:List Value}(h:Vals xs us):Vals xs.reverse us.reverse:=by
 induction h with
 |nil=>exact .nil
 |cons r t ih=>rw[List.reverse_cons,List.reverse_cons];exact Vals.append ih (.cons r .nil)
theorem Vals.rep {xs:List V}{us:List Value}(h:Vals xs us):∀k:Nat,Vals (z0 k xs).flatten (z0 k us).flatten
 |0=>.nil
 |k+1=>by
  rw[yx,yx,List.flatten_cons,List.flatten_cons];exact Vals.append h (Vals.rep h k)
theorem foldl_rep (aa:List Value):∀(k:Nat) (acc:List Value),
 List.foldl (λ x1 x2=>x1++x2) acc.toArray (z0 k aa.toArray)=(acc++(z0 k aa).flatten).toArray
 |0,acc=>by simp
 |k+1,acc=>by
  have e:acc.toArray++aa.toArray=(acc++aa).toArray:=by simp
  have e2:(acc++aa)++(z0 k aa).flatten=acc++(z0 (k+1) aa).flatten:=by
   rw[yx,List.flatten_cons,List.append_assoc]
  rw[<-e2,<-foldl_rep aa k (acc++aa),<-e,yx,ya]
section
variable {X:Cx}{pins:List (Addr×Obj)}{σ:St}{H:Hp}{s:Shared}{l b:Addr}{xs ys zs:List V}
theorem Inv.Y4 {aa its':List Value}{n:Nat}{f:Array Value->Array Value}{t':Nat}(I:Inv X pins σ H s)(hH:H l=some (.lst xs))
 (e:s.heap.get? l=some {cls:=.type "list",data:=.seq aa.toArray n}) (hf:f aa.toArray=its'.toArray) (hv:Vals ys its') (hz:ys.length<=sizeLine):
 Inv X pins σ (upd H l (.lst ys)) {s with heap:=s.heap.update l (yr f),toks:=t' }:=by
 have q:=PySem.IsL.update e f;rw[hf] at q;refine I.write (x:=l) (e:=l) (by rw[hH];exact trivial) (.inl rfl) (λ b' u hb hu=>(yY s.heap (yr f) (yd hb)).trans hu) ⟨_,q⟩ ?_;exact⟨hz,its',_,hv,q⟩
theorem Inv.nZ {aa:List Value}{t':Nat}(I:Inv X pins σ H s)(hv:Vals ys aa)(hz:ys.length<=sizeLine):
 Inv X pins σ (upd H s.heap.objs.size (.lst ys)) {s with heap:=s.heap.push {cls:=.type "list",data:=.seq aa.toArray},toks:=t' }:=
 I.laid (λ _ _ q=>zh _ q) (zv _) ⟨hz,aa,0,hv,zA _ rfl⟩
theorem Inv.fresh (I:Inv X pins σ H s):H s.heap.objs.size=none:=I.Ao.fresh (zv _)
theorem Inv.TJ (I:Inv X pins σ H s)(hH:H l=some (.lst xs)):xs.length<=sizeLine/\∃(aa:List Value) (n:Nat),Vals xs aa/\xs.length=aa.length/\s.heap.get? l=some {cls:=.type "list",data:=.seq aa.toArray n}:=by
 obtain⟨z,aa,n,r,e⟩:=I.Ao l _ hH;exact⟨z,aa,n,r,r.length,e⟩
theorem Pk {n:Nat}(h:n<=sizeLine):xf n=false:=by
 unfold xf;exact decide_eq_false (by omega)
end
section
variable {X:Cx}
def Y5:V->List V->Hp->VK->Prop:=λ x vs H Q=>∃l xs y,x=.ref l/\vs=[y]/\H l=some (.lst xs)/\xs.length<sizeLine/\Q .AD (upd H l (.lst (xs++[y])))
theorem TL:mH X "list.append" Y5:=by
 intro pins s σ H x vs v us Q I rx rv h;obtain⟨l,xs,y,rfl,rfl,hH,hz,q⟩:=h;cases rx;obtain⟨u,rfl,ru⟩:=rv.one;obtain⟨z,aa,n,r,hl,e⟩:=I.TJ hH;refine call_meets F.slot_list_append ⟨_,e,rfl⟩ F.entry_list_append (F.args_list_append_2 _ _) (PySem.list_append l aa.toArray n u (by rw[zj];omega)) ⟨e,?_⟩;refine⟨.AD,_,I.Y4 (its':=aa++[u]) hH e (by simp) (r.append (.cons ru .nil)) ?_,rfl,q⟩;rw[zT,xa];omega
def Y6:V->List V->Hp->VK->Prop:=λ x vs H Q=>∃l b xs zs,x=.ref l/\vs=[.ref b]/\H l=some (.lst xs)/\H b=some (.lst zs)/\xs.length+zs.length<=sizeLine/\Q .AD (upd H l (.lst (xs++zs)))
theorem TM:mH X "list.extend" Y6:=by
 intro pins s σ H x vs v us Q I rx rv h;obtain⟨l,b,xs,zs,rfl,rfl,hH,hB,hz,q⟩:=h;cases rx;obtain⟨u,rfl,ru⟩:=rv.one;cases ru;obtain⟨z,aa,n,r,hl,e⟩:=I.TJ hH;obtain⟨z2,bJ,n2,r2,aQ,e2⟩:=I.TJ hB;have hsz:aa.toArray.size+bJ.toArray.size<=sizeLine:=by rw[zj,zj];omega
 have bV:¬ (!aa.toArray.isEmpty&&xf (aa.toArray.size+bJ.toArray.size))=true:=by
  rw[Pk hsz,Bool.and_false];exact zG
 refine call_meets F.slot_list_extend ⟨_,e,rfl⟩ F.entry_list_extend (F.args_list_extend_2 _ _)
  (AutoSeq1.list_extend_list_list_0 l aa.toArray n b bJ.toArray n2 bV (by rw[zj];omega) (by omega)) ⟨e,e2,?_⟩
 refine⟨.AD,_,I.Y4 (its':=aa++bJ) hH e (by simp) (r.append r2) ?_,rfl,q⟩;rw[zT];omega
noncomputable def oA:R2:=λ x y H Q=>∃l k xs,x=.ref l/\y=.int k/\H l=some (.lst xs)/\-(2^63)<=k/\k<2^63/\xs.length*k.toNat<=sizeLine/\
 ∀p,H p=none->Q (.ref p) (upd H p (.lst (z0 k.toNat xs).flatten))
theorem len_rep {α:Type}(xs:List α)(k:Nat):(z0 k xs).flatten.length=k*xs.length:=by
 induction k with
 |zero=>simp
 |succ k ih=>rw[yx,List.flatten_cons,zT,ih,Nat.succ_mul,Nat.add_comm]
theorem eO:GR X (binaryOp .Mult) oA:=by
 intro pins s σ H x y v u Q I rx ry h;obtain⟨l,k,xs,rfl,rfl,hH,h1,h2,hz,q⟩:=h;cases rx;obtain⟨t,rfl⟩:=ry;obtain⟨z,aa,n,r,hl,e⟩:=I.TJ hH;have hlen:aa.toArray.size*k.toNat<=sizeLine:=by rw[zj,<-hl];exact hz
 have lx:¬ aa.toArray.size*k.toNat > (2^63-1) / 8:=by
  have:(sizeLine:Nat)<=(2^63-1) / 8:=by decide
  omega
 have dg:¬ (!Builtin.List.listFitsIndex k)=true:=by
  rw[fitsIndex_both h1 h2];exact zG
 have bV:¬ xf (aa.toArray.size*k.toNat)=true:=by
  rw[Pk hlen];exact zG
 have be:List.foldl (λ x1 x2=>x1++x2) #[] (z0 (if aa.toArray.isEmpty=true then 0 else k.toNat) aa.toArray)=(z0 k.toNat aa).flatten.toArray:=by
  have f0:∀m:Nat,List.foldl (λ x1 x2=>x1++x2) #[] (z0 m aa.toArray)=(z0 m aa).flatten.toArray:=λ m=>by
   have:=foldl_rep aa m [];rw[List.nil_append] at this;exact this
  rw[f0];cases aa with
  |nil=>simp
  |cons a r'=>rw[if_neg (by simp)]
 refine wpAny_binaryOp_repeat_ref (T := "list") (U := "int") (by decide) ⟨_,e,rfl⟩ (λ s'=>typeIs_int s' k t) noFill_list_mul F.fills_int_mul F.slot_int_rmul repeat_list F.slot_int_index.lookup
  (call_meets F.slot_int_rmul (typeIs_int s k t) F.entry_int_rmul (F.args_int_rmul_2 _ _) (int___rmul___int_list k t l aa.toArray n)
   ⟨e,rfl,⟨_,e,rfl⟩,call_meets F.slot_list_mul ⟨_,e,rfl⟩ F.entry_list_mul (F.args_list_mul_2 _ _) (AutoListH.list___mul___list_int_3 l aa.toArray n k t dg lx bV) ⟨e,?_⟩⟩)
 rw[be];exact⟨.ref _,_,I.nZ (t':=s.toks) (r.rep k.toNat) (by rw[len_rep,Nat.mul_comm];exact hz),rfl,q _ I.fresh⟩
end
end L2
namespace qw
open PySem PySem.W PySem.Calls PyProof.Rows
theorem Ko {P:Params}{h:Heap}:∀(ns:List Int) (vs:List Value),WellAll P h vs (ns.map WData.int)->IntsAre vs ns:=by
 intro ns;induction ns with
 |nil =>
  intro vs w;rw[List.map_nil] at w;cases w;exact .nil
 |cons n ns ih =>
  intro vs w;rw[zg] at w;cases w with
  |cons a b =>
   cases a;exact .cons _ _ (ih _ b)
theorem TN {l:OpenLaw}{n:Nat}(hn:l.most=some n){P:Params}{h:Heap}{args:List WData}{vals:List Value}
 (c8:l.row.toRowW.claim.pre args=true) (ly:WellAll P h vals args):
 ∃a vs ns,vals=[zX a]/\args=[WData.list (ns.map WData.int)]/\h.get? a=some {cls:=.type "list",data:=.seq vs.toArray}/\IntsAre vs ns/\ns.length<=n:=by
 have sf:WShape.hasAll [] args [.list .int]=true:=(pre_splitW c8).1;have hc:l.pre.holds [] {args:=args}=true:=(pre_splitW c8).2;obtain⟨d,r,rfl,h1,h2⟩:=hasAllW_cons sf;obtain rfl:=hasAllW_nil h2;obtain⟨xs,rfl,h3⟩:=hasW_list h1;obtain⟨ns,rfl⟩:=items_int h3;have hlen:ns.length<=n:=by
  unfold OpenLaw.pre at hc;have h4:(WTm.not (.lt (.lit (.int (n:Int))) (.len (.arg 0)))).holds [] {args:=[.list (ns.map .int)]}=true:=by
   have h4:=(holds_andW hc).1;rw[hn] at h4;exact h4
  have h5:=condW_of h4 (w_not (w_lt w_lit (w_len_list (w_arg rfl))));rw[ze] at h5;refine Nat.le_of_not_lt λ q=>?_;have q':(n:Int)<((ns.length:Nat):Int):=by omega
  first
   |(rw[decide_eq_true q'] at h5;exact absurd h5 (by decide))
   |(simp at h5;omega)
 cases ly with
 |cons w1 w2 =>
  cases w2;cases w1 with
  |list ho bv=>exact⟨_,_,ns,rfl,rfl,ho,Ko ns _ bv,hlen⟩
theorem TQ (l:OpenLaw)(args:List WData):l.row.toRowW.claim.post args (.bool true) args=true:=
 postW_of (r:=l.row.toRowW) (X:=(true==true))
  (show WShape.has [] (.bool true) .bool=true by first|rfl|decide|simp[WShape.has,WShape.arms,WShape.armsAll])
  (show (WTm.eq .res (.lit (.bool true))).value [] {args:=args,res:=some (.bool true),after:=args}=some (.bool (true==true)) from w_eq_bool (w_res rfl) w_lit) rfl
end qw
namespace L2
open PySem PySem.Spec PyProof.Rows
theorem N2:∀ {vs:List Value}{ns:List Int},IntsAre vs ns->Vals (ns.map V.int) vs
 |_,_,.nil=>.nil
 |_,_,.cons n t h=>.cons ⟨t,rfl⟩ (N2 h)
def Y7 (H:Hp):Prop:=∀b,H b=none\/∃o xs,H b=some (.QV o (.lst xs))
theorem Pm {P:Program}{w:World}{K:za}{mg mb:Str->Option Value}{CX:Si}{k:Nat}{fa a:Addr}{fd:FuncData}{x:Str}{sp:Sp}{s₁:Shared}{vs:List Value}{ns:List Int}
 (KX:K.In s₁.heap) (dh:s₁.heap.Ns mainGlobals mg) (hb:s₁.heap.Ns builtinsNs mb) (sg:∀x:Str,x ≠ "__name__" -> mb x=bootBuiltins x) (lz:s₁.heap.NoLimit) (hg:s₁.gens=#[])
 (ha:s₁.heap.get? a=some {cls:=.type "list",data:=.seq vs.toArray}) (hi:IntsAre vs ns) (hl:ns.length<=sizeLine) (hr:Bq k callerA)
 (F:∀base:Heap,K.In base->base.Ns mainGlobals mg->CV P w K mg base CX k fa fd [x] sp) (g8:∀(s:Shared) (u:Value),BindsTo s fd ⟨[u],[]⟩ [(x,u)])
 (cv:∀H:Hp,Y7 H->D8 K H a (ns.map V.int)->sp [.ref a] H (λ v _=>v=.bl true) λ _ _ _=>False)
 (g9:∀H e s',CX [] H s₁ (λ _ _ _=>False) e s'->False):
 codeAny (model P w) callerA (.call (.ref fa) ⟨[.ref a],[]⟩) (λ r s'=>r=.ok (.ret (.bool true))/\OldK s₁.heap s'.heap/\s'.os=s₁.os/\AllBare s'.gens) s₁:=by
 have rv:=N2 hi;have l5:=hi.length;have core:∀H:Hp,Y7 H->D8 K H a (ns.map V.int)->FR P w H s₁.heap->(∀b,H b≠none->b=a)->(H a≠none->K.lookup a=none)->
  codeAny (model P w) callerA (.call (.ref fa) ⟨[.ref a],[]⟩) (λ r s'=>r=.ok (.ret (.bool true))/\OldK s₁.heap s'.heap/\s'.os=s₁.os/\AllBare s'.gens) s₁:=by
  intro H hO hS Ao hA hK;have bC:∀ {b:Addr} {o:Obj},s₁.heap.get? b=some o->H b=none->(NW s₁.heap H).get? b=some o:=λ e n=>Vh e n;have gx:∀ {b:Addr} {o:Obj} {es:Array DictEntry} {ep:Nat},s₁.heap.get? b=some o->o.data=.dict es ep->H b=none:=fun {b o es ep} e d=>by
   cases q:H b with
   |none=>rfl
   |some u =>
    have e':b=a:=hA b (by rw[q];simp);subst e';rw[ha] at e;cases e;have d':Data.seq vs.toArray _=Data.dict es ep:=d;cases d'
  have jx:∀ {b:Addr} {m:Str->Option Value},s₁.heap.Ns b m->(NW s₁.heap H).Ns b m:=fun {b m} ⟨o,es,ep,e,d,r⟩=>⟨o,es,ep,bC e (gx e d),d,r⟩;have qx:K.In (NW s₁.heap H):=λ b o e=>bC (KX b o e) (by
   cases q:H b with
   |none=>rfl
   |some u =>
    have e':b=a:=hA b (by rw[q];simp);subst e';rw[hK (by rw[q];simp)] at e;cases e)
  have hM:Mod K mg (NW s₁.heap H):=⟨qx,jx dh,⟨mb,jx hb,sg⟩,let ⟨mc,h1,h2⟩:=lz;⟨mc,jx h1,h2⟩⟩;have e0:Ra P w K mg (NW s₁.heap H) callerA [] s₁ H:=⟨rfl,hM,λ b o e=>XD e,Nat.le_of_eq (Tv _ _),trivial,λ b hb=>absurd (show b∈([]:List Addr) from hb) (by simp),Ao,.of_eq hg⟩;refine codeAny_mono ((F _ qx (jx dh)).run callerA [] s₁ H ⟨[.ref a],[]⟩ [.ref a] [.ref a] _ _ hr e0 (g8 s₁ (.ref a)) (.cons rfl .nil) (cv H hO hS)) λ r s' h=>?_;cases r with
  |error e=>exact (g9 H e s' h).elim
  |ok fl =>
   cases fl with
   |next|brk|cont=>exact yO h
   |ret u =>
    obtain⟨v,H',os,bare,un,di,r',q⟩:=h;have q':v=.bl true:=q;subst q';obtain rfl:u=Value.bool true:=r';refine⟨rfl,OldK.of_keep λ b o e=>?_,os,bare⟩;cases q:H b with
    |none=>exact un.keep b o e q (by intro z;exact absurd (show b∈([]:List Addr) from z) (by simp)) (by simp)
    |some u =>
     rcases hO b with z|⟨ob,xs,z⟩
     ·rw[q] at z;cases z
     ·have z2:=un.KY b ob _ z;obtain⟨e1,_⟩:=Ao b _ z;obtain⟨e2,_⟩:=di b _ z2;rw[e] at e1;cases e1;exact e2
 cases hk:K.lookup a with
 |some o =>
  have e:=KX a o hk;rw[ha] at e;cases e;refine core (λ _=>none) (λ _=>.inl rfl) (.inr ⟨_,vs.toArray,_,hk,rfl,rfl,rfl,by rw[zj,l5];exact hl,by simpa using rv⟩) (λ b u z=>by have z':(none:Option HO)=some u:=z;cases z') (λ b z=>absurd rfl z) λ z=>absurd rfl z
 |none =>
  refine core (λ b=>if b=a then some (.QV {cls:=.type "list",data:=.seq vs.toArray} (.lst (ns.map V.int))) else none) (λ b=>?_) (.inl (.inr ⟨{cls:=.type "list",data:=.seq vs.toArray},if_pos rfl⟩)) (λ b u z=>?_) (λ b z=>?_) λ _=>hk
  ·by_cases hb:b=a
   ·exact .inr ⟨_,_,if_pos hb⟩
   ·exact .inl (if_neg hb)
  ·by_cases hb:b=a
   ·have z':=(if_pos hb).symm.trans z;cases z';subst hb;exact⟨ha,by rw[ze];exact hl,vs,_,rv,ha⟩
   ·have z':=(if_neg hb).symm.trans z;cases z'
  ·by_cases hb:b=a
   ·exact hb
   ·exact absurd (if_neg hb) z
noncomputable abbrev Y8:Si:=λ _ _ _ _ _ _=>False
noncomputable abbrev E0:XK:=λ _ _ _=>False
structure V9 (K:za)(x qual:Str)(st:Stmt)(f:Addr)(fd:FuncData):Prop where
 ex:∃(oc:Value) (od:Option Addr) (kV doc pm:Value) (an:Option Addr) (B1 ct:Value) (QR:Array (Option Value)),
  fd=zP x qual (AI st) (As st) (A3 st) .none kV doc pm an B1 ct/\K.lookup f=some ⟨oc,od,.func fd,QR⟩/\yb K B1 qual=true
 kp:zN K (.ref f)=true
section
variable {P:Program}{w:World}{K:za}{mg:Str->Option Value}{base:Heap}
theorem V9.ok {x qual:Str}{st:Stmt}{f:Addr}{fd:FuncData}{N ps:List Str}{k:Nat}{sp:Sp}(F:V9 K x qual st f fd)(S:Ag N ps (A3 st))(len:∀vs H Q E,sp vs H Q E->vs.length=ps.length)
 (bU:∀(B1:Value) (A:Around) (outer:List Env) (s:Shared) (H:Hp) (vs:List V) (Q:VK) (E:XK),Bq k (A.deeper (envOfC qual (A3 st) s.heap.objs.size f B1))->sp vs H Q E->
  ∃t,Sf (Kn Y8 P w K mg base N qual (A3 st) f B1 A outer s H E).jF (As st) t/\t {nx:=λ _ H'=>Q .AD H',rt:=Q} (start N vs) H):CV P w K mg base Y8 (k+1) f fd ps sp:=by
 obtain⟨oc,od,kV,doc,pm,an,B1,ct,QR,rfl,lk,bd⟩:=F.ex;refine Sk lk bd S len λ A outer s H vs Q E hr cv=>?_;obtain⟨t,h,q⟩:=bU B1 A outer s H vs Q E hr cv;exact⟨t,h.jF,q⟩
theorem V9.binds {x qual:Str}{st:Stmt}{f:Addr}{fd:FuncData}{ps:List Str}(F:V9 K x qual st f fd)
 (h:∀(kV doc pm:Value) (an:Option Addr) (B1 ct:Value) (us:List Value),us.length=ps.length->bindArgs (zP x qual (AI st) (As st) (A3 st) .none kV doc pm an B1 ct) ⟨us,[]⟩=pure (ps.zip us)):Binds K fd ps []:=by
 obtain⟨oc,od,kV,doc,pm,an,B1,ct,QR,rfl,lk,bd⟩:=F.ex;exact .all (h kV doc pm an B1 ct)
theorem Ri {x qual:Str}{st:Stmt}{f:Addr}{oc:Value}{od an:Option Addr}{QR:Array (Option Value)}{kV doc pm B1 ct:Value}(l:K.lookup f=some ⟨oc,od,.func (zP x qual (AI st) (As st) (A3 st) .none kV doc pm an B1 ct),QR⟩)
 (c:yb K B1 qual=true) (k:zN K (.ref f)=true):V9 K x qual st f (zP x qual (AI st) (As st) (A3 st) .none kV doc pm an B1 ct):=⟨⟨oc,od,kV,doc,pm,an,B1,ct,QR,rfl,l,c⟩,k⟩
end
theorem AF {n:Nat}(h:n<=1000):n<sizeLine:=Nat.lt_of_le_of_lt h (by decide)
section
variable {X:Cx}
theorem pv (i:Nat){x:Str}{pos:Pos}(hN:X.N[i]?=some x:=by rfl)(hv:mY X.env.scope x:=by first | exact zY rfl | exact Or.inr (zY rfl) | exact Or.inr (Or.inr rfl))(hd:(x==("__debug__" : Str))=false:=by decide)
 (bd:(x==("__classdict__" : Str))=false:=by decide):PE X (.Name x pos) (Pb i):=cY hN hv hd bd
end
def Ab (H H':Hp):Prop:=∀b o,H b=some o->H' b=some o
theorem Ab.refl (H:Hp):Ab H H:=λ _ _ h=>h
theorem Ab.trans {H H1 H2:Hp}(a:Ab H H1)(b:Ab H1 H2):Ab H H2:=λ c o h=>b c o (a c o h)
theorem Ab.seq {K:za}{H H':Hp}{a:Addr}{xs:List V}(e:Ab H H')(h:D8 K H a xs):D8 K H' a xs:=by
 rcases h with (h|⟨o,h⟩)|h
 ·exact .inl (.inl (e _ _ h))
 ·exact .inl (.inr ⟨o,e _ _ h⟩)
 ·exact .inr h
section
variable {κ:Type} [DecidableEq κ]
noncomputable def ME (kvs:List (κ×V))(k:κ):Option V:=(kvs.find? λ kv=>decide (kv.1=k)).map (·.2)
noncomputable def putK (kvs:List (κ×V))(k:κ)(v:V):List (κ×V):=
 if (kvs.any λ kv=>decide (kv.1=k))=true then kvs.map (λ kv=>if kv.1=k then (kv.1,v) else kv) else kvs++[(k,v)]
theorem L5 {p:κ×V}{r:List (κ×V)}{k:κ}(e:p.1=k):ME (p::r) k=some p.2:=by simp[ME,xc,e]
theorem L6 {p:κ×V}{r:List (κ×V)}{k:κ}(e:¬ p.1=k):ME (p::r) k=ME r k:=by simp[ME,xc,e]
theorem Pn (k:κ):∀kvs:List (κ×V),(kvs.any λ kv=>decide (kv.1=k))=(ME kvs k).isSome
 |[]=>rfl
 |p::r=>by
  rw[xh];by_cases e:p.1=k
  ·simp only[L5 e,decide_eq_true e,Bool.true_or,yW]
  ·rw[L6 e,decide_eq_false e,Bool.false_or];exact Pn k r
theorem Ga (kvs:List (κ×V))(k:κ)(v:V):(putK kvs k v).length<=kvs.length+1:=by
 unfold putK;split
 ·rw[ze];omega
 ·rw[zT,zo,List.length_nil];omega
theorem Hv.EF {o:Option V}{u:Option Value}(r:Hv o u):o.isSome=u.isSome:=by
 cases o with
 |none=>cases u with
  |none=>rfl
  |some _=>exact (show False from r).elim
 |some _=>cases u with
  |none=>exact (show False from r).elim
  |some _=>rfl
theorem KV.val {kvs:List (κ×V)}{vs:List (κ×Value)}(r:KV kvs vs)(k:κ):Hv (ME kvs k) (valueAt vs k):=by
 unfold KV at r;induction r with
 |nil=>exact yV
 | @cons p q ps qs h t ih =>
  obtain⟨h1,h2⟩:=h;by_cases e:p.1=k
  ·have e':q.1=k:=h1.symm.trans e;have b:valueAt (q::qs) k=some q.2:=by simp[valueAt,xc,e']
   rw[L5 e,b];exact h2
  ·have e':¬ q.1=k:=λ z=>e (h1.trans z);have b:valueAt (q::qs) k=valueAt qs k:=by simp[valueAt,xc,e']
   rw[L6 e,b];exact ih
theorem KV.any {kvs:List (κ×V)}{vs:List (κ×Value)}(r:KV kvs vs)(k:κ):(kvs.any λ kv=>decide (kv.1=k))=vs.any λ kv=>decide (kv.1=k):=by
 unfold KV at r;induction r with
 |nil=>rfl
 |cons h t ih=>rw[xh,xh,ih,h.1]
theorem KV.eQ {kvs:List (κ×V)}{vs:List (κ×Value)}(r:KV kvs vs)(k:κ){y:V}{u:Value}(ry:RelV y u):
 KV (kvs.map λ kv=>if kv.1=k then (kv.1,y) else kv) (vs.map λ kv=>if kv.1=k then (kv.1,u) else kv):=by
 unfold KV at r ⊢;induction r with
 |nil=>exact .nil
 | @cons p q ps qs h t ih =>
  rw[zg,zg];refine .cons ?_ ih;obtain⟨h1,h2⟩:=h;by_cases e:p.1=k
  ·rw[if_pos e,if_pos (h1.symm.trans e)];exact⟨h1,ry⟩
  ·rw[if_neg e,if_neg (λ z=>e (h1.trans z))];exact⟨h1,h2⟩
theorem KV.put {kvs:List (κ×V)}{vs:List (κ×Value)}(r:KV kvs vs)(k:κ){y:V}{u:Value}(ry:RelV y u):KV (putK kvs k y) (stored vs k u):=by
 unfold putK stored;rw[r.any k];by_cases e:(vs.any λ kv=>decide (kv.1=k))=true
 ·rw[if_pos e,if_pos e];exact r.eQ k ry
 ·rw[if_neg e,if_neg e];exact Paired.snoc r ⟨rfl,ry⟩
theorem KV.length {kvs:List (κ×V)}{vs:List (κ×Value)}(r:KV kvs vs):kvs.length=vs.length:=Paired.length r
end
theorem N3 {P:Program}{w:World}{k:Key}{u:Value}(r:RelV (kV k) u):(Bc P w).is k u=true:=by
 cases k with
 |inl i=>obtain⟨t,e⟩:=(show ∃t,u=Value.int i t from r);subst e;exact P7 P w i t
 |inr x=>obtain⟨t,e⟩:=(show ∃t,u=Value.str x t from r);subst e;exact P8 P w x t
theorem N4 {P:Program}{w:World}:∀ {ks:List Key}{us:List Value},Vals (ks.map kV) us->ItemsAre (Bc P w) ks us
 |[],_,r=>by rw[List.map_nil] at r;cases r;exact .nil
 |k::ks,_,r=>by
  rw[zg] at r;cases r with
  |cons h t=>exact .cons (N3 h) (N4 t)
noncomputable abbrev KT (H:Hp):List (List Key×V)->List (List Key×Addr×Value)->Prop:=Paired λ p q=>p.1=q.1/\H q.2.1=some (.tup (p.1.map kV))/\RelV p.2 q.2.2
theorem KT.val {H:Hp}{kvs:List (List Key×V)}{xs:List (List Key×Addr×Value)}(r:KT H kvs xs)(k:List Key):Hv (ME kvs k) ((atKey xs k).map (·.2)):=by
 induction r with
 |nil=>exact yV
 | @cons p q ps qs h t ih =>
  obtain⟨h1,_,h2⟩:=h;by_cases e:p.1=k
  ·have e':q.1=k:=h1.symm.trans e;have b:atKey (q::qs) k=some q.2:=by simp[atKey,xc,e']
   rw[L5 e,b];exact h2
  ·have e':¬ q.1=k:=λ z=>e (h1.trans z);have b:atKey (q::qs) k=atKey qs k:=by simp[atKey,xc,e']
   rw[L6 e,b];exact ih
theorem KT.eQ {H:Hp}{kvs:List (List Key×V)}{xs:List (List Key×Addr×Value)}(r:KT H kvs xs)(k:List Key){y:V}{u:Value}(ry:RelV y u):
 KT H (kvs.map λ kv=>if kv.1=k then (kv.1,y) else kv) (xs.map (putAt k u)):=by
 induction r with
 |nil=>exact .nil
 | @cons p q ps qs h t ih =>
  rw[zg,zg];refine .cons ?_ ih;obtain⟨h1,h2,h3⟩:=h;unfold putAt;by_cases e:p.1=k
  ·rw[if_pos e,if_pos (h1.symm.trans e)];exact⟨h1,h2,ry⟩
  ·rw[if_neg e,if_neg (λ z=>e (h1.trans z))];exact⟨h1,h2,h3⟩
theorem KT.put {H:Hp}{kvs:List (List Key×V)}{xs:List (List Key×Addr×Value)}(r:KT H kvs xs)(k:List Key){b:Addr}{y:V}{u:Value}(hb:H b=some (.tup (k.map kV)))(ry:RelV y u):
 KT H (putK kvs k y) (storedH xs k b u):=by
 have e:(kvs.any λ kv=>decide (kv.1=k))=(atKey xs k).isSome:=by
  rw[Pn,(r.val k).EF,Option.isSome_map]
 unfold putK storedH;rw[e];by_cases q:(atKey xs k).isSome=true
 ·rw[if_pos q,if_pos q];exact r.eQ k ry
 ·rw[if_neg q,if_neg q];exact Paired.snoc r ⟨rfl,hb,ry⟩
theorem KT.keeps {H H':Hp}{kvs:List (List Key×V)}{xs:List (List Key×Addr×Value)}(r:KT H kvs xs)(ht:∀b ys,H b=some (.tup ys)->H' b=some (.tup ys)):KT H' kvs xs:=
 Paired.cT r λ _ _ z=>⟨z.1,ht _ _ z.2.1,z.2.2⟩
section
variable {P:Program}{w:World}{H:Hp}{h:Heap}{a:Addr}
theorem VH {u:HO}(ok:FR P w H h)(e:Rd H a u):Bi P w H h a u:=e.ok ok
theorem N5 {kvs:List (Key×V)}(ok:FR P w H h)(e:Rd H a (.dK kvs)):kvs.length<=sizeLine/\(a==sysModules)=false/\∃vs,KV kvs vs/\h.DictOf (Bc P w) a vs:=
 show Bi P w H h a (.dK kvs) from VH ok e
theorem ZC {kvs:List (Key×V)}(ok:FR P w H h)(e:H a=some (.dK kvs)):kvs.length<=sizeLine/\(a==sysModules)=false/\∃vs,KV kvs vs/\h.DictOf (Bc P w) a vs:=N5 ok (.inl e)
theorem L7 {ks:List Key}(ok:FR P w H h)(e:H a=some (.tup (ks.map kV))):(tupleKind (Bc P w)).is h ks a:=by
 obtain⟨_,aa,r,o,h1,h2,n,h3⟩:=(show Bi P w H h a (.tup (ks.map kV)) from ok a _ e);exact⟨o,aa.toArray,n,h1,h2,h3,by simpa using N4 r⟩
theorem L8 {kvs:List (List Key×V)}(ok:FR P w H h)(e:Rd H a (.dT kvs)):kvs.length<=sizeLine/\(a==sysModules)=false/\
 ∃xs,KT H kvs xs/\h.DictOfH (tupleKind (Bc P w)) a xs:=by
 obtain⟨z,y,xs,r,o,es,ep,h1,h2,h3,h4,h5⟩:=(show Bi P w H h a (.dT kvs) from VH ok e);refine⟨z,y,xs,r,o,es,ep,h1,h2,h3,h4,λ x hx=>?_,h5⟩;have all:∀ {l:List (List Key×V)} {m:List (List Key×Addr×Value)},KT H l m->∀x∈m,(tupleKind (Bc P w)).is h x.1 x.2.1:=by
  intro l m q;induction q with
  |nil=>intro x hx;exact nomatch hx
  | @cons p q ps qs hq t ih =>
   intro x hx;rcases zp.mp hx with e|hx
   ·subst e;exact L7 ok (by rw[<-hq.1];exact hq.2.1)
   ·exact ih x hx
 exact all r x hx
theorem kF {kvs:List (List Key×V)}(ok:FR P w H h)(e:H a=some (.dT kvs)):kvs.length<=sizeLine/\(a==sysModules)=false/\
 ∃xs,KT H kvs xs/\h.DictOfH (tupleKind (Bc P w)) a xs:=L8 ok (.inl e)
end
def Rj (H:Hp)(a:Addr)(y:V)(r:Option V):Prop:=
 (∃kvs k,Rd H a (.dK kvs)/\y=kV k/\r=ME kvs k)\/∃kvs k b,Rd H a (.dT kvs)/\y=.ref b/\H b=some (.tup (k.map kV))/\r=ME kvs k
def kG (H:Hp)(a:Addr)(y v:V)(H':Hp):Prop:=
 (∃kvs k,H a=some (.dK kvs)/\y=kV k/\kvs.length<sizeLine/\H'=upd H a (.dK (putK kvs k v))) \/
 ∃kvs k b,H a=some (.dT kvs)/\y=.ref b/\H b=some (.tup (k.map kV))/\kvs.length<sizeLine/\H'=upd H a (.dT (putK kvs k v))
section
variable {X:Cx}{pins:List (Addr×Obj)}{σ:St}{H:Hp}{s:Shared}{a:Addr}{y v:V}{u r:Value}{o:Option V}{A:Around}{E:Value->Shared->Prop}
theorem Inv.big (I:Inv X pins σ H s):sysModules<s.heap.objs.size:=by
 have h:mainGlobals<s.heap.objs.size:=(I.mod.glob.keeps I.bk).lt;exact Nat.lt_trans (by decide) h
theorem TR {Q:Value->Shared->Prop}(hu:A.units+1<cLine)(I:Inv X pins σ H s)(g:Rj H a y (some v))(ry:RelV y u)(h:∀w' s',Inv X pins σ H s'->RelV v w'->Q w' s'):
 wpAny (model X.prog X.w) A (getItem (.ref a) u) Q E s:=by
 rcases g with ⟨kvs,k,e,ey,l⟩|⟨kvs,k,b,e,ey,eb,l⟩
 ·subst ey;obtain⟨z,hd,vs,rel,dd⟩:=N5 I.Ao e;obtain⟨w',hw,bu⟩:=Hv.some_of (v:=v) (o:=valueAt vs k) (by rw[l];exact rel.val k);exact wpAny_getItem_of (N3 ry) dd.mapOf hw (h w' _ (I.tok _) bu)
 ·subst ey;cases (show u=zX b from ry);obtain⟨z,hd,xs,rel,dd⟩:=L8 I.Ao e;obtain⟨w',hw,bu⟩:=Hv.some_of (v:=v) (o:=(atKey xs k).map (·.2)) (by rw[l];exact rel.val k);obtain⟨p,hp,so⟩:=Option.map_eq_some_iff.mp hw;refine wpAny_getItem_heap (tupleKind_room_in1 hu) (L7 I.Ao eb) dd hp ?_;rw[so];exact h w' _ (I.tok _) bu
theorem oB {Q:Value->Shared->Prop}(hu:A.units+1<cLine)(I:Inv X pins σ H s)(g:Rj H a y o)(ry:RelV y u)(h:∀s',Inv X pins σ H s'->Q (.bool o.isSome) s'):
 wpAny (model X.prog X.w) A (compareOp .In u (.ref a)) Q E s:=by
 rcases g with ⟨kvs,k,e,ey,l⟩|⟨kvs,k,b,e,ey,eb,l⟩
 ·subst ey;obtain⟨z,hd,vs,rel,dd⟩:=N5 I.Ao e;refine wpAny_in_of (N3 ry) hd dd.mapOf ?_;rw[<-(rel.val k).EF,<-l];exact h _ (I.tok _)
 ·subst ey;cases (show u=zX b from ry);obtain⟨z,hd,xs,rel,dd⟩:=L8 I.Ao e;refine wpAny_in_heap (tupleKind_room_in1 hu) (L7 I.Ao eb) hd dd ?_;have q:=(rel.val k).EF;rw[Option.isSome_map] at q;rw[<-q,<-l];exact h _ (I.tok _)
theorem Y9 {Q:Value->Shared->Prop}(hu:A.units+1<cLine)(I:Inv X pins σ H s)(g:Rj H a y o)(ry:RelV y u)(h:∀s',Inv X pins σ H s'->Q (.bool (!o.isSome)) s'):
 wpAny (model X.prog X.w) A (compareOp .NotIn u (.ref a)) Q E s:=by
 rcases g with ⟨kvs,k,e,ey,l⟩|⟨kvs,k,b,e,ey,eb,l⟩
 ·subst ey;obtain⟨z,hd,vs,rel,dd⟩:=N5 I.Ao e;refine wpAny_notIn_of (N3 ry) hd dd.mapOf ?_;rw[<-(rel.val k).EF,<-l];exact h _ (I.tok _)
 ·subst ey;cases (show u=zX b from ry);obtain⟨z,hd,xs,rel,dd⟩:=L8 I.Ao e;refine wpAny_notIn_heap (tupleKind_room_in1 hu) (L7 I.Ao eb) hd dd ?_;have q:=(rel.val k).EF;rw[Option.isSome_map] at q;rw[<-q,<-l];exact h _ (I.tok _)
theorem O6 {h':Heap}{t':Nat}{ob:HO}(I:Inv X pins σ H s)(mu:iZ (H a))(hs:yR a s.heap h')(he:∃q,h'.get? a=some q)(new:Bi X.prog X.w (upd H a ob) h' a ob):
 Inv X pins σ (upd H a ob) {s with heap:=h',toks:=t' }:=
 I.write (x:=a) (e:=a) mu (.inl rfl) (λ b q hb z=>(hs.2 b hb).trans z) he new
theorem VI {P:Program}{w:World}{H':Hp}{h':Heap}{kvs:List (Key×V)}{vs:List (Key×Value)}(z:kvs.length<=sizeLine)(hd:(a==sysModules)=false)(rel:KV kvs vs)(dd:h'.DictOf (Bc P w) a vs):
 Bi P w H' h' a (.dK kvs):=⟨z,hd,vs,rel,dd⟩
theorem TU {H':Hp}{Q:Unit->Shared->Prop}(hu:A.units+1<cLine)(I:Inv X pins σ H s)(g:kG H a y v H')(ry:RelV y u)(rv:RelV v r)(h:∀s',Inv X pins σ H' s'->Q () s'):
 wpAny (model X.prog X.w) A (setItem (.ref a) u r) Q E s:=by
 rcases g with ⟨kvs,k,e,ey,l,eH⟩|⟨kvs,k,b,e,ey,eb,l,eH⟩
 ·subst ey eH;obtain⟨z,hd,vs,rel,dd⟩:=ZC I.Ao e;have hz:vs.length<=sizeLine:=by rw[<-rel.length];exact z
  have hl:(putK kvs k v).length<=sizeLine:=by have:=Ga kvs k v;omega
  refine wpAny_setItem_pairs (hsz:=hz) (N3 ry) dd λ h' dk hs=>h _ ?_;have he:∃q,h'.get? a=some q:=let ⟨q,_,_,hq,_⟩:=dk;⟨q,hq⟩;exact O6 I (by rw[e];exact yV) hs he (VI hl hd (rel.put k rv) dk)
 ·subst ey eH;cases (show u=zX b from ry);obtain⟨z,hd,xs,rel,dd⟩:=kF I.Ao e;have hz:xs.length<=sizeLine:=by rw[<-Paired.length rel];exact z
  have hl:(putK kvs k v).length<=sizeLine:=by have:=Ga kvs k v;omega
  refine wpAny_setItem_heap (hsz:=hz) (tupleKind_room_in1 hu) (L7 I.Ao eb) dd λ h' dk hs=>h _ ?_;obtain⟨q,es,ep,hq,h2,h3,h4,_,h5⟩:=dk;refine O6 I (by rw[e];exact yV) hs ⟨q,hq⟩ ⟨hl,hd,_,(rel.put k eb rv).keeps λ c ys ec=>?_,q,es,ep,hq,h2,h3,h4,h5⟩;rw[Al (iY ec e (λ z=>nomatch z))];exact ec
end
theorem Po {X:Cx}{pins:List (Addr×Obj)}{σ:St}{H:Hp}{s:Shared}{a:Addr}{y:V}{o:Option V}(I:Inv X pins σ H s)(g:Rj H a y o):s.TypeIs (.ref a) "dict" := by
 rcases g with ⟨kvs,k,e,_,_⟩|⟨kvs,k,b,e,_,_,_⟩
 ·obtain⟨_,_,vs,_,dd⟩:=N5 I.Ao e;exact dd.typeIs
 ·obtain⟨_,_,xs,_,dd⟩:=L8 I.Ao e;exact dd.typeIs
noncomputable def kH (td ty tv:TE):TS:=λ D σ H=>tv σ H λ v H1=>td σ H1 λ x H2=>ty σ H2 λ y H3=>∃a H4,x=.ref a/\kG H3 a y v H4/\D.nx σ H4
section
variable {X:Cx}{o i e value:Expr}{pos pos' bq:Pos}{td ty tv:TE}
theorem Yb (hu:X.A.units+1<cLine)(ho:PE X o td)(hi:PE X i ty)(hv:PE X value tv)(hs:swapsWith value (some (.Subscript o i pos')) pos.line X.env=pure false):
 PS X (.Assign [.Subscript o i pos'] value pos) (kH td ty tv):=by
 intro pins s σ H D I h;refine wpAny_Assign_Subscript (B2 (hv pins s σ H _ I h) λ r s1 ⟨v,H1,I1,rv,q1⟩=>B2 (ho pins s1 σ H1 _ I1 q1) λ u s2 ⟨x,H2,I2,rx,q2⟩=>B2 (hi pins s2 σ H2 _ I2 q2) λ iv s3 ⟨y,H3,I3,ry,a,H4,ex,g,q3⟩=>?_) hs;subst ex;obtain rfl:u=zX a:=rx;exact TU hu I3 g ry rv λ s4 I4=>⟨σ,H4,I4,q3⟩
end
theorem Pp {P:Program}{w:World}{H:Hp}(h:Heap)(hb:sysModules<h.objs.size):Bi P w H (h.push {cls:=.type "dict",data:=.dict #[]}) h.objs.size (.dK []):=
 ⟨zW _,beq_eq_false_iff_ne.mpr (yd (zI hb)),[],.nil,Heap.DictOf.new h⟩
theorem VJ {P:Program}{w:World}{H:Hp}(h:Heap)(hb:sysModules<h.objs.size):Bi P w H (h.push {cls:=.type "dict",data:=.dict #[]}) h.objs.size (.dT []):=
 ⟨zW _,beq_eq_false_iff_ne.mpr (yd (zI hb)),[],.nil,_,#[],0,zA _ rfl,⟨rfl,rfl,rfl⟩,rfl,rfl,yy⟩
noncomputable def eR:TE:=λ _ H Q=>∀p,H p=none->Q (.ref p) (upd H p (.dK []))
noncomputable def eS:TE:=λ _ H Q=>∀p,H p=none->Q (.ref p) (upd H p (.dT []))
section
variable {X:Cx}{pos:Pos}
theorem VL:PE X (.Dict [] [] pos) eR:=λ pins s σ H Q I h =>
 wpAny_Dict_empty ⟨.ref s.heap.objs.size,_,I.laid (a:=s.heap.objs.size) (o:=.dK []) (t':=s.toks) (λ _ _ q=>zh _ q) (zv _) (Pp s.heap I.big),rfl,h _ (I.Ao.fresh (zv _))⟩
theorem VM:PE X (.Dict [] [] pos) eS:=λ pins s σ H Q I h =>
 wpAny_Dict_empty ⟨.ref s.heap.objs.size,_,I.laid (a:=s.heap.objs.size) (o:=.dT []) (t':=s.toks) (λ _ _ q=>zh _ q) (zv _) (VJ s.heap I.big),rfl,h _ (I.Ao.fresh (zv _))⟩
end
def Rk:List (TE×TE)->St->Hp->(List (V×V)->Hp->Prop)->Prop
 |[],_,H,Q=>Q [] H
 |(tk,tv)::r,σ,H,Q=>tk σ H λ x H1=>tv σ H1 λ y H2=>Rk r σ H2 λ ps H3=>Q ((x,y)::ps) H3
noncomputable abbrev VV:List (V×V)->List (Value×Value)->Prop:=Paired λ p q=>RelV p.1 q.1/\RelV p.2 q.2
def mI (X:Cx)(pos:Pos)(keys:List (Option Expr))(values:List Expr)(c9:List (TE×TE)):Prop:=
 ∀(pins:List (Addr×Obj)) (s:Shared) (σ:St) (H:Hp) (Q:List (V×V)->Hp->Prop),Inv X pins σ H s->Rk c9 σ H Q->
  wpAny (model X.prog X.w) X.A (evalPairs (pairTrees keys values X.env pos)) (λ vs s'=>∃ps H',Inv X pins σ H' s'/\VV ps vs/\Q ps H') X.xe s
theorem Yc {X:Cx}{pos:Pos}:mI X pos [] [] []:=λ pins s σ H Q I h=>pairTrees_nil_walk ⟨[],H,I,.nil,h⟩
theorem VN {X:Cx}{pos:Pos}{k v:Expr}{ks:List (Option Expr)}{vs:List Expr}{tk tv:TE}{c9:List (TE×TE)}(hk:PE X k tk)(hv:PE X v tv)(hr:mI X pos ks vs c9):
 mI X pos (some k::ks) (v::vs) ((tk,tv)::c9):=λ pins s σ H Q I h =>
 pairTrees_cons_walk (B2 (hk pins s σ H _ I h) λ u s1 ⟨x,H1,I1,rx,q1⟩=>B2 (hv pins s1 σ H1 _ I1 q1) λ w2 s2 ⟨y,H2,I2,ry,q2⟩ =>
  B2 (hr pins s2 σ H2 _ I2 q2) λ ws s3 ⟨ps,H3,I3,rel,q3⟩=>⟨(x,y)::ps,H3,I3,.cons ⟨rx,ry⟩ rel,q3⟩)
noncomputable def Gb (kvs more:List (Key×V)):List (Key×V):=more.foldl (λ acc kv=>putK acc kv.1 kv.2) kvs
theorem KV.merge:∀ {more:List (Key×V)}{rs:List (Key×Value)}{kvs:List (Key×V)}{vs:List (Key×Value)},KV more rs->KV kvs vs->KV (Gb kvs more) (merged vs rs):=by
 intro more rs kvs vs r;unfold KV at r;induction r generalizing kvs vs with
 |nil=>intro q;exact q
 | @cons p q ps qs h t ih =>
  intro r0;have e:KV (putK kvs p.1 p.2) (stored vs q.1 q.2):=by
   have:=r0.put p.1 h.2;rw[<-h.1];exact this
  exact ih e
theorem Hy:∀(more kvs:List (Key×V)),(Gb kvs more).length<=kvs.length+more.length
 |[],kvs=>by show kvs.length<=kvs.length+0;omega
 |p::r,kvs=>by
  have h1:=Hy r (putK kvs p.1 p.2);have h2:=Ga kvs p.1 p.2;show (Gb (putK kvs p.1 p.2) r).length<=_;rw[zo];omega
theorem L9 {P:Program}{w:World}:∀ {kvs:List (Key×V)}{ws:List (Value×Value)},VV (kvs.map λ kv=>(kV kv.1,kv.2)) ws->∃rs,Carries (Bc P w) ws rs/\KV kvs rs
 |[],_,r=>by rw[List.map_nil] at r;cases r;exact⟨[],yV,.nil⟩
 |p::kvs,_,r=>by
  rw[zg] at r;cases r with
  | @cons a b as bs h t =>
   obtain⟨rs,c,q⟩:=L9 (P:=P) (w:=w) t;obtain⟨b1,b2⟩:=b;exact⟨(p.1,b2)::rs,⟨N3 h.1,rfl,c⟩,.cons ⟨rfl,h.2⟩ q⟩
noncomputable def kI (c9:List (TE×TE)):TE:=λ σ H Q=>∀p,H p=none->Rk c9 σ (upd H p (.dK [])) λ ps H2=>H2 p=some (.dK [])/\∃kvs:List (Key×V),ps=kvs.map (λ kv=>(kV kv.1,kv.2))/\kvs.length<=15/\Q (.ref p) (upd H2 p (.dK (Gb [] kvs)))
theorem Yd {X:Cx}{pos:Pos}{keys:List (Option Expr)}{values:List Expr}{c9:List (TE×TE)}(h:mI X pos keys values c9)(bv:keys.all (·.isSome)=true)(hl:keys.length=values.length)(h0:keys≠[])
 (sq:keys.length<=15):PE X (.Dict keys values pos) (kI c9):=by
 intro pins s σ H Q I q;have hn:=I.Ao.fresh (zv s.heap.objs.size);have I1:=I.laid (a:=s.heap.objs.size) (o:=.dK []) (h':=s.heap.push {cls:=.type "dict",data:=.dict #[]}) (t':=s.toks) (λ _ _ q=>zh _ q) (zv _) (Pp s.heap I.big);refine wpAny_Dict_walk (knd:=Bc X.prog X.w) bv hl h0 sq (B2 (h pins _ σ _ _ I1 (q _ hn)) λ ws s2 ⟨ps,H2,I2,rel,e,kvs,ep,lk,q2⟩=>?_);subst ep;obtain⟨rs,c,rk⟩:=L9 (P:=X.prog) (w:=X.w) rel;obtain⟨z,hd,qy,r0,dd⟩:=ZC I2.Ao e;cases r0;refine⟨rs,c,dd,λ h' dk hs=>⟨.ref s.heap.objs.size,_,?_,rfl,q2⟩⟩;have hz:(Gb [] kvs).length<=sizeLine:=by
  have h1:=Hy kvs [];rw[List.length_nil] at h1;rw[sizeLine_eq];omega
 have he:∃q,h'.get? s.heap.objs.size=some q:=let ⟨q,_,_,hq,_⟩:=dk;⟨q,hq⟩;exact O6 I2 (by rw[e];exact yV) hs he (VI hz hd (rk.merge .nil) dk)
def sC (H:Hp)(a:Addr):Prop:=(∃kvs,Rd H a (.dK kvs))\/∃kvs,Rd H a (.dT kvs)
theorem VO {X:Cx}{pins:List (Addr×Obj)}{σ:St}{H:Hp}{s:Shared}{a:Addr}(I:Inv X pins σ H s)(d:sC H a):
 s.TypeIs (.ref a) "dict" /\ (∀b,zX a=.ref b->∃ob,s.heap.get? b=some ob/\ob.dict=none)/\(a==sysModules)=false:=by
 rcases d with ⟨kvs,e⟩|⟨kvs,e⟩
 ·obtain⟨_,hd,vs,_,dd⟩:=N5 I.Ao e;refine⟨dd.typeIs,λ b q=>?_,hd⟩;cases q;obtain⟨ob,_,_,h1,h2,_⟩:=dd;exact⟨ob,h1,h2.2.1⟩
 ·obtain⟨_,hd,xs,_,dd⟩:=L8 I.Ao e;refine⟨dd.typeIs,λ b q=>?_,hd⟩;cases q;obtain⟨ob,_,_,h1,h2,_⟩:=dd;exact⟨ob,h1,h2.2.1⟩
noncomputable def Jk (sc outer:Scope):Bool:=
 decide (sc.kind=.function)&&sc.names.all λ y=>decide (y.2≠.cell)&&(decide (y.2≠.free)||decide (outer.names.lookup y.1=some .cell)||decide (outer.names.lookup y.1=some .free))&&(decide (y.2≠.local)||decide (sc.names.lookup y.1=some .local))
noncomputable def Pq (N NB:List Str)(sc:Scope)(μ:List (Option Nat)):Bool:=
 decide (NB.length=μ.length)&&(NB.zip μ).all λ p=>match p.2 with
  |none=>true
  |some i=>decide (N[i]?=some p.1)&&decide (sc.names.lookup p.1=some .free)
noncomputable def HJ (μ:List (Option Nat))(σ:St):St:=μ.map λ o=>o.bind λ i=>(σ[i]?).join
noncomputable def Hw (cells:List (Str×Addr)):List (Str×NameKind)->List (Str×Addr)->List (Str×Addr)
 |[],cs=>cs
 |(n,k)::r,cs=>Hw cells r (if (k==.free)=true then (n,(cells.lookup n).getD 0)::cs else cs)
theorem Hz {scope:Scope}{env:Env}(h:∀y∈scope.names,y.2=.free->∃c,env.cells.lookup y.1=some c):closureFor scope env=pure (Hw env.cells scope.names []):=by
 unfold closureFor;have key:∀(names:List (Str×NameKind)) (cs:List (Str×Addr)),(∀y∈names,y.2=.free->∃c,env.cells.lookup y.1=some c)->
  (forIn names cs λ(x:Str×NameKind) r=>match x with
   |(name,kind)=>if (kind==yZ)=true then do
    let __do_lift <-cellOf env name
    pure (xp ((name,__do_lift)::r))
    else pure (xp r):Sem _)=pure (Hw env.cells names cs):=by
  intro names;induction names with
  |nil=>intro cs _;rfl
  |cons y r ih =>
   intro cs hy;obtain⟨n,k⟩:=y;rw[List.forIn_cons];by_cases hk:k=.free
   ·subst hk;obtain⟨c,hc⟩:=hy (n,.free) zd rfl;have e:cellOf env n=pure c:=by unfold cellOf;rw[show env.cells.lookup n=some c from hc]
    simp only[e,beq_self_eq_true,if_true,pure_bind];rw[ih _ λ z hz=>hy z (zf _ hz)];simp only[Hw,beq_self_eq_true,if_true];rw[show env.cells.lookup n=some c from hc];rfl
   ·have hb:(k==yZ)=false:=by simpa using hk
    simp only[hb,zy,if_false,pure_bind];rw[ih _ λ z hz=>hy z (zf _ hz)];simp only[Hw,hb,zy,if_false]
 have q:=key scope.names [] h;simp only[bind_pure];exact q
theorem Pr {cells:List (Str×Addr)}:∀ {names:List (Str×NameKind)}{cs:List (Str×Addr)}{x:Str}{c:Addr},(x,c)∈Hw cells names cs->(x,c)∈cs\/((x,.free)∈names/\c=(cells.lookup x).getD 0)
 |[],cs,x,c,h=>.inl h
 |(n,k)::r,cs,x,c,h=>by
  rcases Pr (names:=r) h with q|⟨q,e⟩
  ·by_cases hk:k=.free
   ·subst hk;simp only[beq_self_eq_true,if_true] at q;rcases zp.mp q with z|z
    ·cases z;exact .inr ⟨zd,rfl⟩
    ·exact .inl z
   ·have hb:(k==yZ)=false:=by simpa using hk
    simp only[hb,zy,if_false] at q;exact .inl q
  ·exact .inr ⟨zf _ q,e⟩
theorem La {cells:List (Str×Addr)}:∀ {names:List (Str×NameKind)}{cs:List (Str×Addr)}{p:Str×Addr},p∈cs->p∈Hw cells names cs
 |[],_,_,h=>h
 |(n,k)::r,cs,p,h=>by
  show p∈Hw cells r _;refine La ?_;by_cases hk:(k==yZ)=true
  ·rw[if_pos hk];exact zf _ h
  ·rw[if_neg hk];exact h
theorem Lb {cells:List (Str×Addr)}:∀ {names:List (Str×NameKind)}{cs:List (Str×Addr)}{x:Str},(x,.free)∈names->∃c,(x,c)∈Hw cells names cs
 |(n,k)::r,cs,x,h=>by
  rcases zp.mp h with z|z
  ·cases z;refine⟨(cells.lookup n).getD 0,?_⟩;show _∈Hw cells r (if (yZ==yZ)=true then _ else _);exact La (by rw[if_pos (beq_self_eq_true _)];exact zd)
  ·exact Lb (names:=r) z
theorem En {x:Str}{c:Addr}:∀ {l:List (Str×Addr)},(x,c)∈l->∃c',l.lookup x=some c'
 |(y,d)::r,h=>by
  rw[yU];by_cases e:(x==y)=true
  ·rw[e];exact⟨d,rfl⟩
  ·rw[Bool.eq_false_iff.mpr e];rcases zp.mp h with z|z
   ·cases z;exact absurd (beq_self_eq_true x) e
   ·exact En z
theorem IG {scope:Scope}{env:Env}{x:Str}{k:NameKind}(h:(relabel scope env).names.lookup x=some k):∃k',scope.names.lookup x=some k'/\(k=k'\/(k'=.free/\k=.cell)):=by
 unfold relabel at h;dsimp only at h;revert h;induction scope.names with
 |nil=>intro h;cases h
 |cons y r ih =>
  obtain⟨n,k'⟩:=y;intro h;rw[zg,yU] at h;rw[yU];by_cases hc:(k'==yZ&&env.scope.kind==.function&&env.kindOf n==some .cell)=true
  ·dsimp only at h;rw[if_pos hc] at h;dsimp only at h;cases e:x==n with
   |true =>
    rw[e] at h;have hf:k'=.free:=by
     have:=hc;simp only[zV] at this;simpa using this.1.1
    exact⟨k',rfl,.inr ⟨hf,(zH h).symm⟩⟩
   |false=>rw[e] at h;exact ih h
  ·dsimp only at h;rw[if_neg hc] at h;dsimp only at h;cases e:x==n with
   |true=>rw[e] at h;exact⟨k',rfl,.inl (zH h).symm⟩
   |false=>rw[e] at h;exact ih h
theorem lookup_mem {α:Type}{x:Str}{k:α}:∀ {l:List (Str×α)},l.lookup x=some k->(x,k)∈l
 |(y,d)::r,h=>by
  rw[yU] at h;cases e:x==y with
  |true =>
   rw[e] at h;cases h;have:x=y:=by simpa using e
   subst this;exact zd
  |false=>rw[e] at h;exact zf _ (lookup_mem h)
noncomputable def blockOf (X:Cx)(s:Shared)(H:Hp)(scope:Scope)(C:Addr)(NB:List Str)(ex:List Addr):Cx:=
 {X with N:=NB,s₀:=s,H₀:=H,env:=compEnvC scope (Hw X.env.cells scope.names []) C X.env,outer:=X.stack,stack:=X.stack,ex:=ex,fn:=λ _=>false,pn:=[],xe:=λ _ _=>False}
section
variable {X:Cx}{pins:List (Addr×Obj)}{σ:St}{H:Hp}{s s4:Shared}{scope:Scope}{NB:List Str}{μ:List (Option Nat)}{fp:List Addr}{C:Addr}
theorem GS (h:Jk scope X.env.scope=true):scope.kind=.function:=by
 unfold Jk at h;simp only[zV,decide_eq_true_eq] at h;exact h.1
theorem GU {sc outer:Scope}(h:Jk sc outer=true){y:Str×NameKind}(hy:y∈sc.names):y.2≠.cell/\(y.2=.free->outer.names.lookup y.1=some .cell\/outer.names.lookup y.1=some .free)/\(y.2=.local->sc.names.lookup y.1=some .local):=by
 unfold Jk at h;simp only[zV,decide_eq_true_eq,List.all_eq_true,Bool.or_eq_true] at h;obtain⟨⟨h1,h2⟩,h3⟩:=h.2 y hy;exact⟨h1,λ e=>by
  rcases h2 with (q|q)|q
  ·exact absurd e q
  ·exact .inl q
  ·exact .inr q,λ e=>h3.elim (λ q=>absurd e q) id⟩
theorem HK (I:Inv X pins σ H s)(h:Jk scope X.env.scope=true){x:Str}(hx:(x,.free)∈scope.names):∃c,X.env.cells.lookup x=some c:=I.ok.has x ((GU h hx).2.1 rfl)
theorem Dy (I:Inv X pins σ H s)(h:Jk scope X.env.scope=true){x:Str}{c:Addr}(e:(Hw X.env.cells scope.names []).lookup x=some c):X.env.cells.lookup x=some c:=by
 rcases Pr (lookup_mem e) with q|⟨q,r⟩
 ·cases q
 ·obtain⟨c',e'⟩:=HK I h q;rw[e'] at r;rw[e',r];rfl
theorem Lc {env:Env}(h:Jk scope env.scope=true){x:Str}{k:NameKind}(hk:(relabel scope env).names.lookup x=some k)(hc:k=.cell\/k=.free):(x,.free)∈scope.names:=by
 obtain⟨k',e,q⟩:=IG hk;have m:=lookup_mem e;have n:=(GU h m).1;rcases q with q|⟨q,_⟩
 ·subst q;rcases hc with z|z
  ·exact absurd z n
  ·subst z;exact m
 ·subst q;exact m
theorem Ye (h:Pq X.N NB scope μ=true):NB.length=μ.length/\∀(j i:Nat),μ[j]?=some (some i)->∃x,NB[j]?=some x/\X.N[i]?=some x/\scope.names.lookup x=some .free:=by
 unfold Pq at h;simp only[zV,decide_eq_true_eq,List.all_eq_true] at h;refine⟨h.1,λ j i e=>?_⟩;have hj:j<NB.length:=by rw[h.1];exact (zE.mp e).1
 have m:(NB[j],some i)∈NB.zip μ:=by
  refine List.mem_iff_getElem?.mpr ⟨j,?_⟩;rw[List.getElem?_zip_eq_some];exact⟨zr hj,e⟩
 have q:=h.2 _ m;dsimp only at q;simp only[zV,decide_eq_true_eq] at q;exact⟨NB[j],zr hj,q.1,q.2⟩
theorem Pt (I:Inv X pins σ H s)(aB:Jk scope X.env.scope=true)(bK:Pq X.N NB scope μ=true)(ga:∀b∈fp,Km X pins H b)(jy:∀b∈fp,∃o,s.heap.get? b=some o)
 (hC:s.heap.objs.size<=C) {h4:Heap} {t4:Nat} (ns:h4.Ns C λ _=>none) (k:∀b o,s.heap.get? b=some o->h4.get? b=some o):
 Inv (blockOf X s H scope C NB fp) [] (HJ μ σ) H {s with heap:=h4,toks:=t4}:=by
 obtain⟨hlen,bK⟩:=Ye bK;have qz:∀b o,s.heap.get? b=some o->b≠C:=λ b o e=>zI (zC (zt e) hC);have jz:∀x c,X.env.cells.lookup x=some c->c≠C:=λ x c e=>by
  obtain⟨v,o,ho,_⟩:=I.cell x c e;exact qz c o ho
 refine⟨⟨I.ok.mod,(show scope.kind=_ from GS aB),I.ok.glob,I.ok.blt,hC,λ x y c h1 h2=>I.ok.inj x y c (Dy I aB h1) (Dy I aB h2),λ x hx=>?_,λ x c h _=>(by cases h),I.ok.hd,I.ok.frames,.inl rfl,λ b hb=>?_,I.bs,yi I.ok.XF I.sz,λ b o e hb=>?_,λ b hb hz=>?_,I.stack,I.NX⟩,
  rfl,I.bare,Un.kept k,⟨_,ns,λ j x v e1 e2 e3=>?_⟩,λ x c e=>?_,I.Ao.fresh hC,λ x c e=>I.G5 x c (Dy I aB e),λ p hp=>(by cases hp),I.Ao.kept k,?_⟩
 ·have q:(x,yZ)∈scope.names:=by
   rcases hx with hx|hx
   ·exact Lc aB hx (.inl rfl)
   ·exact Lc aB hx (.inr rfl)
  obtain⟨c,m⟩:=Lb (cells:=X.env.cells) (cs:=[]) q;exact En m
 ·obtain⟨o,ho⟩:=jy b hb;refine⟨qz b o ho,λ x c e z=>?_⟩;exact (ga b hb).2.2.2.2.1 x c (Dy I aB e) z
 ·rcases (ga b hb).2.2.2.1 with z|z
  ·exact I.ok.Vj b o e z
  ·exact absurd (zC (zt (I.ok.bs b o e).1) z) (Nat.lt_irrefl _)
 ·rcases zp.mp (I.QW b hz) with e|e
  ·exact (ga b hb).2.1 e
  ·exact (ga b hb).2.2.1 e
 ·have h9:(μ[j]?).map (λ o=>o.bind λ i=>(σ[i]?).join)=some (some v):=by
   rw[<-zB];exact e2
  cases q:μ[j]? with
  |none=>rw[q] at h9;cases h9
  |some o =>
   rw[q] at h9;cases o with
   |none=>cases h9
   |some i =>
    have e4:(σ[i]?).join=some v:=by simpa using h9
    have e5:σ[i]?=some (some v):=by
     cases z:σ[i]? with
     |none=>rw[z] at e4;cases e4
     |some w=>rw[z] at e4;simp at e4;rw[e4]
    obtain⟨x',n1,n2,n3⟩:=bK j i q;have ex:x'=x:=zH (n1.symm.trans e1);subst ex;have m:=lookup_mem n3;have ov:=(GU aB m).2.1 rfl;obtain⟨mm,hn,hl⟩:=I.loc;obtain⟨u,r,l⟩:=hl i x' v n2 e5 (ov.elim (λ z=>.inr (.inl z)) λ z=>.inr (.inr z));refine⟨u,r,.inr ⟨?_,?_⟩⟩
    ·rcases e3 with z|z|z
     ·obtain⟨k',z1,z2⟩:=IG (k:=.local) z;rw[n3] at z1;cases z1;rcases z2 with z2|⟨_,z2⟩<;>cases z2
     ·exact .inl z
     ·exact .inr z
    ·rcases l with ⟨l,_⟩|⟨_,c,l1,l2⟩
     ·rcases ov with z|z<;>(rw[show X.env.kindOf x'=_ from z] at l;cases l)
     ·obtain⟨c',m'⟩:=Lb (cells:=X.env.cells) (cs:=[]) m;obtain⟨ux,l3⟩:=En m';have l4:=Dy I aB l3;rw[l1] at l4;cases l4;refine⟨c,l3,?_⟩;obtain⟨o,ho,hd⟩:=l2;exact⟨o,k _ _ ho,hd⟩
 ·obtain⟨v,o,ho,hd⟩:=I.cell x c (Dy I aB e);exact⟨v,o,k _ _ ho,hd⟩
 ·show (HJ μ σ).length=NB.length;unfold HJ;rw[ze,hlen]
theorem FR.adopt {P:Program}{w:World}{H:Hp}{h:Heap}{a:Addr}{o:HO}(x:FR P w H h)(hn:H a=none)(new:Bi P w (upd H a o) h a o):FR P w (upd H a o) h:=λ b u e=>by
 by_cases hb:b=a
 ·subst hb;rw[Ax] at e;cases e;exact new
 ·rw[Al hb] at e;exact (x b u e).NV (λ c v _ q=>q) (λ c q=>by rw[Al (Av q hn)];exact q) λ c xs q=>by rw[Al (Av q hn)];exact q
theorem TV {H':Hp}{s':Shared}{h':Heap}{D:Addr}{pl:List (Addr×Obj)}{σ':St}{aa:List Value}{ys:List V}{n:Nat}(I:Inv X pins σ H s)(ga:∀b∈fp,Km X pins H b)(J:Inv (blockOf X s H scope C NB fp) pl σ' H' s')
 (hC:s.heap.objs.size<=C) (hD:s.heap.objs.size<=D) (cw:D≠C) (eD:s'.heap.get? D=some {cls:=.type "list",data:=.seq aa.toArray n}) (nD:H' D=none) (r:Vals ys aa) (hz:ys.length<=sizeLine)
 (sb:yR C s'.heap h'):Inv X pins σ (upd H' D (.lst ys)) {s' with heap:=h' }:=by
 have dl:∀b o,s.heap.get? b=some o->b≠C:=λ b o e=>zI (zC (zt e) hC);have l6:∀b o,s.heap.get? b=some o->b≠D:=λ b o e=>zI (zC (zt e) hD);have freshD:H D=none:=I.Ao.fresh hD;have nC:H' C=none:=J.free;have u:Un (K1 X.stack) fp H H' s.heap s'.heap:=J.base;have di:FR X.prog X.w H' h':=λ b ob e=>(J.Ao b ob e).NV (λ c v hc q=>(sb.2 c (by
  intro z;subst z;rcases hc with rfl|hc
  ·rw[nC] at e;cases e
  ·rw[nC] at hc;cases hc)).trans q) (λ _ q=>q) λ _ _ q=>q
 refine I.Zu (ch:=fp) J.os ⟨λ b o e n hb hx=>?_,λ b o e n hb hx=>?_,λ b o e n hx=>?_,λ b o e hx=>?_,λ b xs e=>?_,λ b o u' e=>?_,λ b ps e=>?_⟩ (di.adopt nD ⟨hz,aa,n,r,(sb.2 D cw).trans eD⟩) J.bare λ b hb=>?_
 ·exact (sb.2 b (dl b o e)).trans (u.keep b o e n hb hx)
 ·obtain⟨sl,q⟩:=u.slot b o e n hb hx;exact⟨sl,(sb.2 b (dl b o e)).trans q⟩
 ·rw[Al (l6 b o e)];exact u.free b o e n hx
 ·obtain⟨o',q⟩:=u.there b o e hx;exact⟨o',(sb.2 b (dl b o e)).trans q⟩
 ·rw[Al (Av e freshD)];exact u.My b xs e
 ·rw[Al (Av e freshD)];exact u.KY b o u' e
 ·rw[Al (Av e freshD)];exact u.Mz b ps e
 ·obtain⟨_,f1,_,f3,f4,f5⟩:=ga b hb;exact⟨f3,f1,f4,f5⟩
end
theorem O7 {prog:Program}{w:World}{A:Around}{R:Result->Shared->Prop}{s:Shared}{elt target iter:Expr}{ifs:List Expr}{scope:Scope}{pos:Pos}{it acc:Value}{env:Env}(I:Nat->Shared->Prop)
 (turn:∀n s,I n s->wpAny (model prog w) A (pyNext it) (λ r s₁=>match r with
  |none=>R (.ok .next) s₁
  |some v=>wpAny (model prog w) A (letOwnedTupleGo target it v) (λ _ s₁'=>wpAny (model prog w) A (assign target env v) (λ _ s₂ =>
   wpAny (model prog w) A (forIn ifs true λ c r=>if r=true then do let ok <-isTrue c env (eval c env);pure (xp ok) else pure (xp r)) (λ ok s₃ =>
    if ok=true then wpAny (model prog w) A (eval elt env) (λ x s₄ =>
     wpAny (model prog w) A (call (.builtin "list.append") [acc,x]) (λ _ s₅=>∃m,m<n/\I m s₅) (λ _ _=>False) s₄) (λ _ _=>False) s₃
    else ∃m,m<n/\I m s₃) (λ _ _=>False) s₂) (λ _ _=>False) s₁') (λ _ _=>False) s₁) (λ _ _=>False) s)
 (n:Nat) (h:I n s):
 codeAny (model prog w) A (.compLoop (.ListComp elt [⟨target,iter,ifs,0⟩] scope pos) 0 it acc env) R s:=by
 refine codeAny_loop rfl I (λ n s hI=>?_) n h;show wpAny _ A ((compTurn (.ListComp elt [⟨target,iter,ifs,0⟩] scope pos) 0 it acc env).onRaise (λ x=>do noteFrame x env;theTreesLotGoes x)) _ _ s;refine wpAny_noted ?_;rw[compTurn_list];refine wpAny_bind (wpAny_standAt (wpAny_bind (wpAny_mono (turn n s hI) (λ r s₁ h₁=>?_) λ _ _ h'=>h'.elim)));cases r with
 |none=>exact wpAny_pure h₁
 |some v =>
  refine wpAny_bind (wpAny_mono h₁ (λ _ s₁' h₁'=>?_) λ _ _ h'=>h'.elim);refine wpAny_bind (wpAny_mono h₁' (λ _ s₂ h₂=>wpAny_bind (wpAny_mono h₂ (λ ok s₃ h₃=>?_) λ _ _ h'=>h'.elim)) λ _ _ h'=>h'.elim);cases ok with
  |false=>exact wpAny_pure ⟨rfl,h₃⟩
  |true =>
   exact wpAny_bind (wpAny_bind (wpAny_mono h₃ (λ x s₄ h₄=>wpAny_bind (wpAny_mono h₄ (λ _ s₅ h₅=>wpAny_pure (wpAny_pure ⟨rfl,h₅⟩)) λ _ _ h'=>h'.elim)) λ _ _ h'=>h'.elim))
def iL (X:Cx)(cs:List Expr)(t:TT):Prop:=
 ∀(pins:List (Addr×Obj)) (s:Shared) (σ:St) (H:Hp) (Q:Bool->Hp->Prop),Inv X pins σ H s->t σ H Q->
  wpAny (model X.prog X.w) X.A (forIn cs true λ c r=>if r=true then do let ok <-isTrue c X.env (eval c X.env);pure (xp ok) else pure (xp r)) (TP X pins σ Q) X.xe s
noncomputable def oC:TT:=λ _ H Q=>Q true H
theorem Yg {X:Cx}:iL X [] oC:=λ _ _ _ H _ I h=>wpAny_tests_nil ⟨H,I,h⟩
theorem Yh {X:Cx}{c:Expr}{t:TT}(h:PT X c t):iL X [c] t:=λ pins s σ H Q I q=>wpAny_tests_one (h pins s σ H Q I q)
def Ld (μ:List (Option Nat))(g:TG):Prop:=∀σ x H Q,g x (HJ μ σ) H Q->g x (HJ μ σ) H λ σ' H'=>Q σ' H'/\∀(j:Nat) v,(HJ μ σ)[j]?=some (some v)->σ'[j]?=some (some v)
theorem Yi {μ:List (Option Nat)}{i:Nat}(h:μ[i]?=some none):Ld μ (Sg i):=λ σ x H Q q=>by
 refine⟨q,λ j v e=>?_⟩;have ad:j≠i:=λ z=>by
  subst z;unfold HJ at e;rw[zB,h] at e;cases e
 rw[yq (yd ad)];exact e
def qH (J:It)(H1:Hp)(Q:VK)(st:V->Hp->(St->Hp->Prop)->Prop)(tc:TT)(te:TE):Prop:=
 ∃W:Nat->Nat->List V->Hp->Prop,(∃m,W 0 m [] H1)/\∀i m ys H2,W i m ys H2->
  (J.stop i H2/\∀D,H2 D=none->Q (.ref D) (upd H2 D (.lst ys))) \/
  (J.go i H2/\ys.length<sizeLine/\∃N:List V->Hp->Prop,(∀bh H',N bh H'->∃m',m'<m/\W (i+1) m' bh H')/\∀x H3,J.Zx i H2 x H3->st x H3 λ σ4 H4=>tc σ4 H4 λ b H5=>if b=true then te σ4 H5 λ y H6=>N (ys++[y]) H6 else N ys H5)
noncomputable def Sr (wi:TI)(μ:List (Option Nat))(g:TG)(tc:Shared->Hp->Addr->List Addr->TT)(te:Shared->Hp->Addr->List Addr->TE):TE:=λ σ H Q=>wi σ H λ J H1=>∀s C ex,qH J H1 Q (λ x H K=>g x (HJ μ σ) H K) (tc s H1 C ex) (te s H1 C ex)
section
variable {X:Cx}{pins:List (Addr×Obj)}{σ:St}{H2:Hp}{s2:Shared}{tg elt iter:Expr}{ifs:List Expr}{scope:Scope}{pos:Pos}{NB:List Str}{μ:List (Option Nat)}{g:TG}{tc:Shared->Hp->Addr->List Addr->TT}{te:Shared->Hp->Addr->List Addr->TE}{fp:List Addr}{it:Addr}{tn:Nat->Heap->Prop}{J:It}{Q:VK}
theorem N6 (hc:X.calm=true)(I2:Inv X pins σ H2 s2)(T:Turn X.prog X.w X.K tg J fp it tn)(c6:tn 0 s2.heap)(f2:∀b∈fp,Km X pins H2 b)
 (aB:Jk scope X.env.scope=true) (bK:Pq X.N NB scope μ=true) (ia:Ld μ g)
 (hb:∀(s:Shared) (H:Hp) (C:Addr) (ex:List Addr),PG (blockOf X s H scope C NB ex) tg g/\iL (blockOf X s H scope C NB ex) ifs (tc s H C ex)/\PE (blockOf X s H scope C NB ex) elt (te s H C ex))
 (q:∀C,qH J H2 Q (λ x H K=>g x (HJ μ σ) H K) (tc s2 H2 C fp) (te s2 H2 C fp)) {RR:Value->Addr->Result->Shared->Prop} {E:Value->Shared->Prop}
 (fin:∀(D C:Addr) (s':Shared) (H':Hp) (ys:List V) (m:Str->Option Value),s2.heap.objs.size<=D->s2.heap.objs.size<=C->D≠C->s'.heap.Ns C m->H' C=none->(∀h',yR C s'.heap h'->Inv X pins σ (upd H' D (.lst ys)) {s' with heap:=h' })->Q (.ref D) (upd H' D (.lst ys))->RR (.ref D) C (.ok .next) s'):
 wpAny (model X.prog X.w) X.A (newList []) (λ acc s₃=>wpAny (model X.prog X.w) X.A (newFunctionEnv scope X.env.globals (Hw X.env.cells scope.names []) [] X.env.qual none .none (some X.env)) (λ ib s₄ =>
  codeAny (model X.prog X.w) X.A (.compStart (.ListComp elt [⟨tg,iter,ifs,0⟩] scope pos) 0 (.ref it) acc {ib with scope:=relabel scope X.env}) (RR acc ib.locals) s₄) E s₃) E s2:=by
 have bB:∀y∈scope.names,y.2≠.cell:=λ y hy=>(GU aB hy).1;refine wpAny_newObj_type (wpAny_newFunctionEnv bB (by intro y hy;simp at hy) (λ h₁ hns₁ hsb₁=>?_) (GS aB));dsimp only at hns₁ hsb₁ ⊢;generalize l7:s2.heap.push {cls:=.type "list",dict:=none,data:=.seq ([]:List Value).toArray}=j2 at hns₁ hsb₁ ⊢;have hC:j2.objs.size=s2.heap.objs.size+1:=by rw[<-l7,Heap.size_push]
 have cw:s2.heap.objs.size≠j2.objs.size:=by rw[hC];exact zI (Nat.lt_succ_self _)
 have ic:s2.heap.objs.size<=j2.objs.size:=by rw[hC];exact Nat.le_succ _
 have old:∀b o,s2.heap.get? b=some o->h₁.get? b=some o:=λ b o e=>hsb₁.extBut b o (by rw[hC];exact zI (Nat.lt_succ_of_lt (zt e))) (zh _ (l7▸zh _ e));have eD:h₁.get? s2.heap.objs.size=some {cls:=.type "list",data:=.seq ([]:List Value).toArray}:=hsb₁.extBut _ _ cw (zh _ (l7▸zA _ rfl));have jy:∀b∈fp,∃o,s2.heap.get? b=some o:=λ b hb=>let ⟨o,e,_⟩:=T.obj _ _ c6 b hb;⟨o,e⟩;have l8:∀b∈fp,b≠s2.heap.objs.size:=λ b hb=>let ⟨o,e⟩:=jy b hb;zI (zt e);generalize q9:s2.heap.objs.size=D at ic cw eD l8 ⊢;generalize uz:j2.objs.size=C at *;have bL:s2.heap.objs.size<=D:=by rw[q9];exact zv _
 have bW:s2.heap.objs.size<=C:=by rw[q9];exact ic
 have I4:Inv (blockOf X s2 H2 scope C NB fp) [] (HJ μ σ) H2 {s2 with heap:=h₁,toks:=s2.toks+([]:List (Str×Value)).length}:=Pt I2 aB bK f2 jy bW (by simpa using hns₁) old;have bp:∀ {H':Hp} {pl:List (Addr×Obj)},(∀b∈fp,H' b=none)->(∀p∈pl,p.1=D)->∀b∈fp,Km (blockOf X s2 H2 scope C NB fp) pl H' b:=fun {H' pl} hn hp b hb=>by
  refine⟨hn b hb,(I4.ok.mC b hb).1,I4.ok.Vk b hb,.inl hb,λ x c e z=>(I4.ok.mC b hb).2 x c e z,λ p ie z=>?_⟩;have l9:p∈pl:=by simpa [blockOf] using ie
  exact l8 b hb (z▸hp p l9)
 have sr:D∉(blockOf X s2 H2 scope C NB fp).fs:=λ z=>by
  obtain⟨_,o,ho,_⟩:=I4.ok.Iz.mem z;exact absurd (zt ho) (Nat.not_lt.mpr bL)
 obtain⟨W,⟨m0,w0⟩,turn⟩:=q C;have loop:∀s₃:Shared,s₃={s2 with heap:=h₁,toks:=s2.toks+([]:List (Str×Value)).length} ->
  codeAny (model X.prog X.w) X.A (.compLoop (.ListComp elt [⟨tg,iter,ifs,0⟩] scope pos) 0 (.ref it) (.ref D) (compEnvC scope (Hw X.env.cells scope.names []) C X.env)) (RR (.ref D) C) s₃:=by
  rintro s₃ rfl;refine O7 (λ n s'=>∃i ys aa k H',Inv (blockOf X s2 H2 scope C NB fp) [(D,{cls:=.type "list",data:=.seq aa k})] (HJ μ σ) H' s'/\tn i s'.heap/\(∀b∈fp,H' b=none)/\Vals ys aa.toList/\ys.length<=sizeLine/\W i n ys H') ?_ m0
   ⟨0,[],#[],0,H2,I4.IA λ p hp=>?_,T.keep _ _ _ c6 λ b hb o e=>old b o e,λ b hb=>(f2 b hb).1,.nil,zW _,w0⟩
  rotate_left
  ·have e:=zu.mp hp;subst e;exact⟨eD,I2.Ao.fresh bL,cw,sr,λ v=>by simp⟩
  rintro n s3 ⟨i,ys,aa,k,H3,I3,gq,gr,rv,hz,w3⟩;rcases turn i n ys H3 w3 with ⟨stop,qn⟩|⟨go,ap,N,hN,step⟩
  ·refine wpAny_mono (T.done (blockOf X s2 H2 scope C NB fp) rfl rfl rfl hc i _ s3 _ H3 (λ _ _=>False) I3 (bp gr (by simp)) gq stop) (λ r s4 ⟨hr,j3⟩=>?_) λ _ _ e=>e;subst hr;obtain⟨p1,p2,p3,p4,p5⟩:=j3.pin _ (zm _ zd);obtain⟨m,hn,_⟩:=id j3.loc;have e1:s4.heap.get? D=some {cls:=.type "list",data:=.seq aa.toList.toArray k}:=by simpa using p1
   exact fin D C s4 H3 ys m bL bW cw hn j3.free (λ h' sb=>TV I2 f2 j3 bW bL cw e1 p2 rv hz sb) (qn D p2)
  ·refine wpAny_mono (T.item (blockOf X s2 H2 scope C NB fp) rfl rfl rfl hc i _ s3 _ H3 (λ _ _=>False) I3 (bp gr (by simp)) gq go) (λ r s4 ⟨u,hr,h4⟩=>?_) λ _ _ e=>e;subst hr;refine B2 h4 λ _ s5 ⟨x,H5,I5,r5,y5,db,li⟩=>?_;have lj:=I5.pinned (bp li (by simp)) (T.obj _ _ db);have bo:=ia σ x H5 _ (step x H5 y5);obtain⟨hg,ht,he⟩:=hb s2 H2 C fp;refine B2 (hg _ s5 _ H5 x u _ lj r5 bo) λ _ s6 ⟨σ6,H6,I6,q6,k6⟩=>?_;refine B2 (ht _ s6 σ6 H6 _ I6 q6) λ ok s7 ⟨H7,I7,q7⟩=>?_;have again:∀ {H8:Hp} {s8:Shared} {its':Array Value} {k':Nat} {bh:List V},Inv (blockOf X s2 H2 scope C NB fp) ([(D,{cls:=.type "list",data:=.seq its' k' })]++HG fp s5.heap) σ6 H8 s8->Vals bh its'.toList->bh.length<=sizeLine->(∃m,m<n/\W (i+1) m bh H8)->
    ∃m,m<n/\∃i ys aa k H',Inv (blockOf X s2 H2 scope C NB fp) [(D,{cls:=.type "list",data:=.seq aa k})] (HJ μ σ) H' s8/\tn i s8.heap/\(∀b∈fp,H' b=none)/\Vals ys aa.toList/\ys.length<=sizeLine/\W i m ys H':=fun {H8 s8 its' k' bh} I8 aX ss n8=>by
    obtain⟨m',hm,w8⟩:=n8;refine⟨m',hm,i+1,bh,its',k',H8,(I8.ID.weak ?_ k6),T.keep _ _ _ db λ b hb o e=>(I8.pin (b,o) (zm _ (zm _ (Fg hb e)))).1,λ b hb=>?_,aX,ss,w8⟩
    ·rw[I8.len];exact I4.len
    ·obtain⟨o,e,d⟩:=T.obj _ _ db b hb;exact (I8.pin (b,o) (zm _ (zm _ (Fg hb e)))).2.1
   cases ok with
   |false =>
    simp only[zy,if_false] at q7 ⊢;exact again I7 rv hz (hN _ _ q7)
   |true =>
    simp only[if_true] at q7 ⊢;refine B2 (he _ s7 σ6 H7 _ I7 q7) λ uy s8 ⟨y,H8,I8,r8,q8⟩=>?_;obtain⟨p1,p2,p3,p4,p5⟩:=I8.pin (D,_) (zm _ (zK _ zd));have e1:s8.heap.get? D=some {cls:=.type "list",data:=.seq aa k}:=p1;have hsz:aa.size=ys.length:=by rw[<-yv];exact rv.length.symm
    refine call_meets F.slot_list_append ⟨_,e1,rfl⟩ F.entry_list_append (F.args_list_append_2 _ _) (PySem.list_append D aa k uy (by rw[hsz];omega)) ⟨e1,?_⟩;have me:=PySem.IsL.update e1 (·.push uy);have Iu:Inv (blockOf X s2 H2 scope C NB fp) (HG fp s5.heap) σ6 H8 s8:=I8.IA λ p hp=>I8.pin p (zm _ (zm _ hp));have It:=Iu.turned (it:=D) (h':=s8.heap.update D (yr (·.push uy))) (t':=s8.toks) (λ b o hb e=>(yY _ _ (yd hb)).trans e) p2 p3 (.inr bL) (λ x c e z=>?_) (λ p hp z=>?_)
    ·refine again (its':=aa.push uy) (k':=if (aa.push uy).size==aa.size then k else k+1) (It.IA λ p hp=>?_) (by simpa using rv.append (.cons r8 .nil)) (by rw[zT,xa];omega) (hN _ _ q8);rcases zM.mp hp with hp|hp
     ·have e:=zu.mp hp;subst e;exact⟨me,p2,p3,p4,λ v=>by simp⟩
     ·exact It.pin p (zm _ hp)
    ·have e':=Dy I2 aB e;obtain⟨v,o,ho,_⟩:=I2.cell x c e';exact absurd (zt ho) (by rw[z];exact Nat.not_lt.mpr bL)
    ·have ie:p∈HG fp s5.heap:=by simpa [blockOf] using hp
     exact l8 p.1 (MW ie).1 z
 exact codeAny_compStart_list (loop _ rfl) (T.self _ 0 _ _ _ (T.keep _ _ _ c6 λ b hb o e=>old b o e) (loop _ rfl))
theorem Yj {wi:TI}(hc:X.calm=true)(hi:PI X tg iter wi)(aB:Jk scope X.env.scope=true)(bK:Pq X.N NB scope μ=true)(ia:Ld μ g)
 (hb:∀(s:Shared) (H:Hp) (C:Addr) (ex:List Addr),PG (blockOf X s H scope C NB ex) tg g/\iL (blockOf X s H scope C NB ex) ifs (tc s H C ex)/\PE (blockOf X s H scope C NB ex) elt (te s H C ex))
 (hs:∀x,foldedSetIterable iter X.env x=pure x:=by intro _;rfl):PE X (.ListComp elt [⟨tg,iter,ifs,0⟩] scope pos) (Sr wi μ g tc te):=by
 intro pins s σ H Q I h;have bw:∀y∈scope.names,y.2=.local->scope.names.lookup y.1=some .local:=λ y hy=>(GU aB hy).2.2;have bX:closureFor scope X.env=pure (Hw X.env.cells scope.names []):=Hz λ y hy e=>HK I aB (x:=y.1) (by rw[<-e];exact hy);rw[eval_ListComp];refine wpAny_comprehension_free (use:=none) rfl hs bX (GS aB) bw (B2 (hi pins s σ H _ I h) λ v s1 h1=>B2 h1 λ ju s2 h2=>?_);obtain⟨it,fp,tn,J,H2,e,I2,T,c6,f2,q⟩:=h2;subst e;refine N6 (RR:=λ acc C=>compPost (model X.prog X.w) X.A X.xe none (EP X pins σ Q) acc C) hc I2 T c6 f2 aB bK ia hb (λ C=>q s2 C fp) ?_;intro D C s' H' ys m hD hC cw hn nC hI hq;exact⟨m,hn,λ h' sb=>⟨.ref D,_,hI h' sb,rfl,hq⟩⟩
noncomputable def kJ (i:Nat)(te:TE):TS:=λ D σ H=>te σ H λ x H1=>D.nx (σ.set i (some x)) H1
theorem Yk {wi:TI}{i:Nat}{y:Str}{py aE:Pos}(hN:X.N.Nodup)(mf:X.N[i]?=some y)(hy:Loc X.env.scope y)(hc:X.calm=true)(hi:PI X tg iter wi)(aB:Jk scope X.env.scope=true)(bK:Pq X.N NB scope μ=true)(ia:Ld μ g)
 (hb:∀(s:Shared) (H:Hp) (C:Addr) (ex:List Addr),PG (blockOf X s H scope C NB ex) tg g/\iL (blockOf X s H scope C NB ex) ifs (tc s H C ex)/\PE (blockOf X s H scope C NB ex) elt (te s H C ex))
 (bY:swapsWith (.ListComp elt [⟨tg,iter,ifs,0⟩] scope pos) (some (.Name y py)) aE.line X.env=pure true:=by rfl)
 (hs:∀x,foldedSetIterable iter X.env x=pure x:=by intro _;rfl) (hf:X.fn y=true\/X.env.scope.names.lookup y=some .local:=by first|exact .inl rfl|exact .inr rfl|assumption):
 PS X (.Assign [.Name y py] (.ListComp elt [⟨tg,iter,ifs,0⟩] scope pos) aE) (kJ i (Sr wi μ g tc te)):=by
 intro pins s σ H D' I h;have bw:∀y∈scope.names,y.2=.local->scope.names.lookup y.1=some .local:=λ y hy=>(GU aB hy).2.2;have bX:closureFor scope X.env=pure (Hw X.env.cells scope.names []):=Hz λ y hy e=>HK I aB (x:=y.1) (by rw[<-e];exact hy);rw[exec_Assign_Name_used _ _ _ _ bY];refine wpAny_bind (wpAny_standAt (wpAny_bind ?_));show wpAny _ X.A (do let _ <-comprehension (.ListComp elt [⟨tg,iter,ifs,0⟩] scope pos) scope X.env _ (newList []) false (eval iter X.env) (some (assign (.Name y py) X.env))) _ _ s;refine wpAny_bind (wpAny_mono (wpAny_comprehension_free (use:=some (assign (.Name y py) X.env)) (Q:=λ _ s'=>SP X pins D' .next s') rfl hs bX (GS aB) bw (B2 (hi pins s σ H _ I h) λ v s1 h1=>B2 h1 λ ju s2 h2=>?_)) (λ _ s' hq=>wpAny_pure (wpAny_pure hq)) λ _ _ e=>e);obtain⟨it,fp,tn,J,H2,e,I2,T,c6,f2,q⟩:=h2;subst e;refine N6 (RR:=λ acc C=>compPost (model X.prog X.w) X.A X.xe (some (assign (.Name y py) X.env)) (λ _ s'=>SP X pins D' .next s') acc C) hc I2 T c6 f2 aB bK ia hb (λ C=>q s2 C fp) ?_;intro D C s' H' ys m hD hC cw hn nC hI hq;have I':=hI s'.heap (.refl ..);show wpAny _ X.A (assign (.Name y py) X.env (.ref D)) _ _ _;refine wpAny_assign_Name (MV (i:=i) (v:=.ref D) I' hN mf hy rfl (λ gw su mh=>?_) hf);obtain⟨a,sb,ha⟩:=mh;have f8:a≠C:=by
  rcases ha with z|z
  ·rw[z];exact zI (zC I2.lt hC)
  ·obtain⟨v,o,ho,_⟩:=I2.cell y a z;exact zI (zC (zt ho) hC)
 refine⟨m,hn.sameBut sb (yd f8),λ h' bz=>?_⟩;refine⟨_,_,su.turned (it:=C) (t':=gw.toks) (λ b o hb e=>(bz.2 b hb).trans e) (by rw[Al (yd cw)];exact nC) (Nat.ne_of_gt (zC I2.lt hC)) (.inr (yi I2.sz hC)) (λ x c e z=>?_) (λ p hp z=>?_),hq⟩
 ·obtain⟨v,o,ho,_⟩:=I2.cell x c e;exact absurd (zt ho) (by rw[z];exact Nat.not_lt.mpr hC)
 ·exact absurd (zt (I2.pin p hp).1) (by rw[z];exact Nat.not_lt.mpr hC)
end
noncomputable def qI (K:za)(a:Addr):It:=
 ⟨λ i H=>∃xs x,D8 K H a xs/\xs[i]?=some x,λ i H v H'=>∃p x,H p=none/\v=.ref p/\(∀xs,D8 K H a xs->xs[i]?=some x)/\H'=upd H p (.tup [.int i,x]),λ i H=>∃xs,D8 K H a xs/\xs.length<=i⟩
theorem Rl {X:Cx}{pins:List (Addr×Obj)}{σ:St}{H:Hp}{s:Shared}{h':Heap}{t':Nat}{e it:Addr}(I:Inv X pins σ H s)(he:Km X pins H e)(hi:Km X pins H it)(k:∀b o,b≠e->b≠it->s.heap.get? b=some o->h'.get? b=some o):Inv X pins σ H {s with heap:=h',toks:=t' }:=by
 obtain⟨e0,e1,e2,e3,e4,e5⟩:=he;obtain⟨f0,f1,f2,f3,f4,f5⟩:=hi;have ne:∀b u,H b=some u->b≠e/\b≠it:=λ b u q=>⟨λ z=>(by rw[z,e0] at q;cases q),λ z=>(by rw[z,f0] at q;cases q)⟩;refine I.step (g':=s.gens) (d':=s.drawn) (ch:=[e,it]) (λ b hb=>?_) (λ b o _ _ hc q _=>k b o (λ z=>hc (by simp[z])) (λ z=>hc (by simp[z])) q) (λ b o _ _ hc q _=>⟨o.slots,k b o (λ z=>hc (by simp[z])) (λ z=>hc (by simp[z])) q⟩) (λ _ _ _ _ n=>n)
  (λ b o hc q=>⟨o,k b o (λ z=>hc (by simp[z])) (λ z=>hc (by simp[z])) q⟩) (λ _ _ q=>q) (λ _ _ _ q=>q) (λ b ps q=>⟨#[],by rw[q];simp⟩) (λ m hm=>?_) (λ b u q=>?_) I.bare
 ·rcases zp.mp hb with z|z
  ·subst z;exact⟨e3,e1,e4,e5⟩
  ·have z:=zu.mp z;subst z;exact⟨f3,f1,f4,f5⟩
 ·obtain⟨o,es,ep,ho,r⟩:=hm;exact⟨o,es,ep,k _ o (yd e1) (yd f1) ho,r⟩
 ·refine (I.Ao b u q).NV (λ c v hc z=>k c v ?_ ?_ z) (λ _ z=>z) λ _ _ z=>z
  ·rcases hc with z|z
   ·rw[z];exact (ne b u q).1
   ·exact (ne c _ z).1
  ·rcases hc with z|z
   ·rw[z];exact (ne b u q).2
   ·exact (ne c _ z).2
theorem TX {P:Program}{w:World}{K:za}{bZ:List Expr}{x1}{bq:Pos}(a e it:Addr)(ad:e≠it):
 Turn P w K (.Tuple bZ x1 bq) (qI K a) [e,it] e (λ i h=>(∃old,IsEnum h e it i old)/\h.IsListIter it a i) where
 mem:=by simp
 obj:=λ i h st b hb=>by
  obtain⟨⟨old,h1⟩,o,h2,c,d⟩:=st;rcases zp.mp hb with z|z
  ·subst z;exact⟨_,h1,λ v z=>by cases z⟩
  ·have z:=zu.mp z;subst z;exact⟨o,h2,λ v z=>by rw[d] at z;cases z⟩
 keep:=λ i h h' st k=>⟨let ⟨old,h1⟩:=st.1;⟨old,k e (by simp) _ h1⟩,st.2.at λ o e=>k it (by simp) o e⟩
 item:=by
  intro X hP hw hK hc i pins s σ H E I hf st hg;subst hP hw hK;obtain⟨xs,x,hq,hx⟩:=hg;obtain⟨⟨old,he⟩,hit⟩:=st;obtain⟨aa,rv,p,hz⟩:=I.list hq;obtain⟨u,hu,ru⟩:=rv.get hx;have fe:=hf e (by simp);have fi:=hf it (by simp);refine wpAny_pyNext_enum_item he hit p.isList (x:=u) (by simpa using hu) ad λ h1 cI mi ht hsz hk=>?_;refine⟨_,rfl,wpAny_letOwnedTupleGo_enum (s:={s with heap:=h1,toks:=s.toks+1}) cI λ h2 sv aS=>?_⟩;have b7:yR e h1 h2:=aS;have nt:s.heap.objs.size≠e:=Nat.ne_of_gt (zt he);have sw:s.heap.objs.size≠it:=by
   obtain⟨o,ho,_⟩:=hit;exact Nat.ne_of_gt (zt ho)
  have I1:Inv X pins σ H {s with heap:=h2,toks:=s.toks+1}:=Rl I fe fi λ b o hb a6 q=>(b7.2 b hb).trans (hk b o hb a6 q);have tup:h2.get? s.heap.objs.size=some {cls:=.type "tuple",data:=.seq #[.int i s.toks,u]}:=(b7.2 _ nt).trans ht;have nH:H s.heap.objs.size=none:=I.Ao.fresh (zv _);have vv:Vals [.int i,x] [.int i s.toks,u]:=.cons ⟨_,rfl⟩ (.cons ru .nil);have ml:FR X.prog X.w (upd H s.heap.objs.size (.tup [.int i,x])) h2:=I1.Ao.adopt nH ⟨by show 2<=sizeLine;decide,_,vv,⟨_,tup,rfl,_,rfl⟩⟩;have I2:Inv X pins σ (upd H s.heap.objs.size (.tup [.int i,x])) {s with heap:=h2,toks:=s.toks+1}:=by
   refine I.step (g':=s.gens) (d':=s.drawn) (ch:=[e,it]) (λ b hb=>?_) (λ b o _ _ hc q _=>(b7.2 b (λ z=>hc (by simp[z]))).trans (hk b o (λ z=>hc (by simp[z])) (λ z=>hc (by simp[z])) q)) (λ b o _ _ hc q _=>⟨o.slots,(b7.2 b (λ z=>hc (by simp[z]))).trans (hk b o (λ z=>hc (by simp[z])) (λ z=>hc (by simp[z])) q)⟩)
    (λ b o hc q n=>by rw[Al (zI (zt q))];exact n) (λ b o hc q=>⟨o,(b7.2 b (λ z=>hc (by simp[z]))).trans (hk b o (λ z=>hc (by simp[z])) (λ z=>hc (by simp[z])) q)⟩)
    (λ b xs q=>by rw[Al (Av q nH)];exact q) (λ b o u q=>by rw[Al (Av q nH)];exact q) (λ b ps q=>⟨#[],by rw[Al (Av q nH),q];simp⟩) (λ m hm=>?_) ml I.bare
   ·rcases zp.mp hb with z|z
    ·subst z;exact⟨fe.2.2.2.1,fe.2.1,fe.2.2.2.2.1,fe.2.2.2.2.2⟩
    ·have z:=zu.mp z;subst z;exact⟨fi.2.2.2.1,fi.2.1,fi.2.2.2.2.1,fi.2.2.2.2.2⟩
   ·obtain⟨o,es,ep,ho,r⟩:=hm;exact⟨o,es,ep,(b7.2 _ (yd fe.2.1)).trans (hk _ o (yd fe.2.1) (yd fi.2.1) ho),r⟩
  refine⟨.ref s.heap.objs.size,_,I2,rfl,⟨_,x,nH,rfl,λ ys hy=>by rw[I.IB hy hq];exact hx,rfl⟩,⟨⟨u,sv⟩,mi.at λ o q=>(b7.2 it (yd ad)).trans q⟩,λ b hb=>?_⟩;have a6:b≠s.heap.objs.size:=by
   rcases zp.mp hb with z|z
   ·rw[z];exact yd nt
   ·rw[zu.mp z];exact yd sw
  rw[Al a6];exact (hf b hb).1
 done:=by
  intro X hP hw hK hc i pins s σ H E I hf st hg;subst hP hw hK;obtain⟨xs,hq,hx⟩:=hg;obtain⟨⟨old,he⟩,hit⟩:=st;obtain⟨aa,rv,p,hz⟩:=I.list hq;have hl:=rv.length;obtain⟨f0,f1,f2,f3,f4,f5⟩:=hf it (by simp);exact wpAny_pyNext_enum_end (I.ok.hd hc) he hit p.isList (by simp;omega) λ h' eb=>⟨rfl,I.turned (t':=s.toks) (λ b o hb e=>eb b o hb e) f0 f1 f3 f4 f5⟩
 self:=λ _ _ _ _ _ st h=>let ⟨_,he⟩:=st.1;wpAny_pyIter_enum he h
section
variable {X:Cx}
noncomputable def kK (K:za)(ta:TA):TI:=λ σ H R=>ta σ H λ vs H1=>∃a,vs=[.ref a]/\(∃xs,D8 K H1 a xs)/\R (qI K a) H1
theorem Yl {bZ:List Expr}{x1}{bq:Pos}{a:Expr}{ta:TA}{p pos:Pos}(hg:Gl X "enumerate")(hm:X.mg "enumerate" = none)(ha:PA X [a] ta)(hb:bootBuiltins "enumerate" = some (.type "enumerate"):=by decide +kernel)(hs:starEach [a] X.env=[(false,eval a X.env)]:=by rfl):
 PI X (.Tuple bZ x1 bq) (.Call (.Name "enumerate" p) [a] [] pos) (kK X.K ta):=by
 intro pins s σ H R I h;refine Call_ (Ek I hg hm hb (y4 (B2 (ha pos pins s σ H _ I h) λ us s1 ⟨vs,H1,I1,r1,q1⟩=>?_) hs rfl));obtain⟨j,e,⟨xs,hq⟩,q⟩:=q1;subst e;cases r1 with
 |cons r rr =>
  cases rr;cases r;obtain⟨aa,rv,p,hz⟩:=I1.list hq;refine call_enumerate_list p.isList λ h' he hit hsz hk=>?_;refine wpAny_pyIter_enum (s:={s1 with heap:=h' }) he ?_;have I2:Inv X pins σ H1 {s1 with heap:=h' }:=I1.kept (t':=s1.toks) hk;refine⟨_,[s1.heap.objs.size+1,s1.heap.objs.size],_,_,H1,rfl,I2,TX j _ _ (Nat.succ_ne_self _),⟨⟨_,he⟩,hit⟩,λ b hb=>?_,q⟩;rcases zp.mp hb with z|z
  ·rw[z];exact I1.Vr (Nat.le_succ _) (I1.Ao.fresh (Nat.le_succ _))
  ·rw[zu.mp z];exact I1.Vr (zv _) (I1.Ao.fresh (zv _))
end
noncomputable def Bo {α:Type}(o:Option (α×List Int))(b:α×List Int):Option (α×List Int):=match o with | none=>some b | some c=>if HT.lexLt b.2 c.2=true then some b else some c
noncomputable def AM {α:Type}(bs:List (α×List Int)):Option (α×List Int):=bs.foldl Bo none
noncomputable def CP (bs:List (Addr×List Int)):Array Value:=match AM bs with | none=>#[] | some b=>#[.ref b.1,.ref b.1]
theorem Ct {α:Type}(bs:List (α×List Int))(b:α×List Int):AM (bs++[b])=match AM bs with | none=>some b | some c=>if HT.lexLt b.2 c.2=true then some b else some c:=by
 unfold AM;rw[List.foldl_append];rfl
theorem Jl {α:Type}:∀(bs:List (α×List Int)) (b:α×List Int),AM bs=some b->b∈bs:=by
 intro bs
 suffices h:∀(bs:List (α×List Int)) (o:Option (α×List Int)) (b:α×List Int),bs.foldl Bo o=some b->b∈bs\/o=some b by
  intro b hb;rcases h bs none b hb with q|q
  ·exact q
  ·cases q
 intro bs;induction bs with
 |nil=>intro o b h;exact .inr h
 |cons x r ih =>
  intro o b h;rw[ya] at h;rcases ih _ _ h with q|q
  ·exact .inl (zf _ q)
  ·cases o with
   |none=>cases q;exact .inl zd
   |some c =>
    unfold Bo at q;dsimp only at q;split at q
    ·cases q;exact .inl zd
    ·exact .inr q
theorem MF (a v:Value):argsOk "min" ⟨[a],[(Str.ofString "default",v)]⟩:=by unfold argsOk;kernel_rfl
section
variable {prog:Program}{w:World}{A:Around}{R:Result->Shared->Prop}
theorem VP (bs:List (Addr×List Int))(tv:Addr->Array Value)(l I S:Addr)(d:Value)(hh:A.handled=none)(hu:A.in1.units<cLine)(cA:S≠I)(mn:l≠I)(ig:l≠S)(dm:∀b∈bs,b.1≠I/\b.1≠S)
 (hk:∀b∈bs,IntsAre (tv b.1).toList b.2):∀(k j:Nat) (s:Shared) (c:Nat),bs.length-j=k->j<=bs.length->s.heap.IsListIter I l j->s.heap.IsList l (bs.map λ b=>zX b.1).toArray->(∀b∈bs,IsTup s.heap b.1 (tv b.1))->
  s.heap.get? S=some {cls:=.type "list",dict:=none,data:=.seq (CP (bs.take j)) c,slots:=#[]} ->
  (∀h' tk,(∀b o,b≠I->b≠S->s.heap.get? b=some o->h'.get? b=some o)->R (.ok (.ret (match AM bs with|none=>d|some b=>.ref b.1))) {s with heap:=h',toks:=tk})->
  codeAny (model prog w) A (.builtin "min.loop" ⟨[.ref I,.none,.ref S],[(Str.ofString "default",d)]⟩) R s:=by
 have a5:(toString "min" ++ toString ".loop" : String) = "min.loop" := by decide
 intro k;induction k with
 |zero =>
  intro j s c hr hj hit hl ht hS hR;have cB:j=bs.length:=by omega
  subst cB;rw[yo] at hS;refine codeAny_builtin PySem.F.entry_min_loop ?_;rw[yN zQ _];show wpAny _ A.in1 (seqItems? (.ref S) >>= _) _ _ s;refine wpAny_bind (wpAny_seqItems hS rfl ?_);show wpAny _ A.in1 (tryCatch (pyNext (.ref I)) _ >>= _) _ _ s;refine wpAny_bind (wpAny_tryCatch (wpAny_pyNext_list_end (A:=A.in1) hh hit hl (by simp) λ h' eb=>?_));have a8:h'.get? S=_:=eb S _ cA hS;unfold CP at a8;cases hb:AM bs with
  |none =>
   unfold CP;rw[hb];show wpAny _ A.in1 (rule _ >>= _) _ _ _;refine wpAny_bind (wpAny_rule (wpAny_pure ?_));have q:=hR h' s.toks λ b o h1 h2 e=>eb b o h1 e;rw[hb] at q;exact q
  |some b =>
   rw[hb] at a8;unfold CP;rw[hb];show wpAny _ A.in1 (updateSeq S (λ _=>#[]) >>= _) _ _ _;refine wpAny_bind ?_;refine wpAny_updateSeq a8 rfl (wpAny_bind (wpAny_letGo (wpAny_pure ?_)));have q:=hR (h'.update S (yr λ _=>#[])) s.toks λ b o h1 h2 e=>(yY _ _ (yd h2)).trans (eb b o h1 e);rw[hb] at q;exact q
 |succ k ih =>
  intro j s c hr hj hit hl ht hS hR;have ap:j<bs.length:=by omega
  have ej:bs.take (j+1)=bs.take j++[bs[j]]:=by rw[yw,zr ap];rfl
  have mj:bs[j]∈bs:=List.getElem_mem ap;refine codeAny_builtin PySem.F.entry_min_loop ?_;rw[yN zQ _];show wpAny _ A.in1 (seqItems? (.ref S) >>= _) _ _ s;refine wpAny_bind (wpAny_seqItems hS rfl ?_);show wpAny _ A.in1 (tryCatch (pyNext (.ref I)) _ >>= _) _ _ s;refine wpAny_bind (wpAny_tryCatch (wpAny_pyNext_list_item (A:=A.in1) hit hl (x:=.ref bs[j].1) (by simp[ap]) λ h' aY sb=>?_));have bz:yR I s.heap h':=sb;have a8:h'.get? S=_:=(bz.2 S cA).trans hS;have bI:h'.IsList l (bs.map λ b=>zX b.1).toArray:=hl.at λ o e=>(bz.2 l mn).trans e;have ca:∀b∈bs,IsTup h' b.1 (tv b.1):=λ b hb=>by
   obtain⟨o,ho,r⟩:=ht b hb;exact⟨o,(bz.2 b.1 (dm b hb).1).trans ho,r⟩
  cases hb:AM (bs.take j) with
  |none =>
   unfold CP at a8 ⊢;rw[hb] at a8 ⊢;show wpAny _ A.in1 (updateSeq S (λ _=>#[.ref bs[j].1,.ref bs[j].1]) >>= _) _ _ _;refine wpAny_bind ?_;refine wpAny_updateSeq a8 rfl ?_;rw[a5];have s1:=yK h' S (yr λ _=>(#[.ref bs[j].1,.ref bs[j].1]:Array Value));refine wpAny_pure ⟨plainId_quiet zQ _,ih (j+1) _ (c+1) (by omega) ap (aY.at λ o e=>(s1.2 I (yd cA)).trans e) (bI.at λ o e=>(s1.2 l ig).trans e) (λ b hb=>?_) ?_ λ cb tk aR=>?_⟩
   ·obtain⟨o,ho,r⟩:=ca b hb;exact⟨o,(s1.2 b.1 (dm b hb).2).trans ho,r⟩
   ·refine (yH _ a8 rfl).trans ?_;unfold CP;rw[ej,Ct,hb];rfl
   ·exact hR cb tk λ b o h1 h2 e=>aR b o h1 h2 ((s1.2 b h2).trans ((bz.2 b h1).trans e))
  |some m =>
   have mm:m∈bs:=yp (Jl _ _ hb);unfold CP at a8 ⊢;rw[hb] at a8 ⊢;show wpAny _ A.in1 (tryCatch (holding [.ref bs[j].1,.ref bs[j].1] (richCompare .Lt (.ref bs[j].1) (.ref m.1) >>= _)) _ >>= _) _ _ _;refine wpAny_bind (wpAny_tryCatch (wpAny_holding (wpAny_bind (HT.HI (ca _ mj) (ca _ mm) (hk _ mj) (hk _ mm) hu ?_))));refine wpAny_bind (wpAny_holding (wpAny_truthy_bool ?_));refine wpAny_bind (wpAny_letGo (wpAny_pure ?_));cases hc:HT.lexLt bs[j].2 m.2 with
   |true =>
    simp only[if_true];have s1:=yK h' S (yr λ _=>(#[.ref bs[j].1,.ref bs[j].1]:Array Value));refine wpAny_bind ?_;refine wpAny_updateSeq a8 rfl (wpAny_bind (wpAny_letGo ?_));rw[a5];refine wpAny_pure ⟨plainId_quiet zQ _,ih (j+1) _ c (by omega) ap (aY.at λ o e=>(s1.2 I (yd cA)).trans e) (bI.at λ o e=>(s1.2 l ig).trans e) (λ b hb=>?_) ?_ λ cb tk aR=>?_⟩
    ·obtain⟨o,ho,r⟩:=ca b hb;exact⟨o,(s1.2 b.1 (dm b hb).2).trans ho,r⟩
    ·refine (yH _ a8 rfl).trans ?_;unfold CP;rw[ej,Ct,hb];simp only[hc,if_true];rfl
    ·exact hR cb tk λ b o h1 h2 e=>aR b o h1 h2 ((s1.2 b h2).trans ((bz.2 b h1).trans e))
   |false =>
    simp only[zy,if_false];refine wpAny_bind (wpAny_letGo ?_);rw[a5];refine wpAny_pure ⟨plainId_quiet zQ _,ih (j+1) _ c (by omega) ap aY bI ca ?_ λ cb tk aR=>?_⟩
    ·refine a8.trans ?_;unfold CP;rw[ej,Ct,hb];simp only[hc,zy,if_false]
    ·exact hR cb tk λ b o h1 h2 e=>aR b o h1 h2 ((bz.2 b h1).trans e)
theorem MG {E:Value->Shared->Prop}{s:Shared}{Q:Value->Shared->Prop}(bs:List (Addr×List Int))(tv:Addr->Array Value)(l:Addr)(d:Value)(hh:A.handled=none)(hu:A.in1.units<cLine)
 (hl:s.heap.IsList l (bs.map λ b=>zX b.1).toArray) (ht:∀b∈bs,IsTup s.heap b.1 (tv b.1)) (hk:∀b∈bs,IntsAre (tv b.1).toList b.2)
 (hQ:∀h' tk,(∀b o,s.heap.get? b=some o->h'.get? b=some o)->Q (match AM bs with|none=>d|some b=>.ref b.1) {s with heap:=h',toks:=tk}):
 wpAny (model prog w) A (call (.builtin "min") [.ref l] [(Str.ofString "default",d)]) Q E s:=by
 have a5:(toString "min" ++ toString ".loop" : String) = "min.loop" := by decide
 obtain⟨ol,dn,_⟩:=id hl;have sx:l<s.heap.objs.size:=zt dn;refine kmk_tree PySem.F.kind_min PySem.F.plain_min PySem.F.entry_min (MF _ _) ?_;show wpAny _ A.in1 (yP "min" ["key","default"] 0 ⟨[],[(Str.ofString "default",d)]⟩ >>= _) _ _ s;refine wpAny_bind (wpAny_of_eq (show yP "min" ["key","default"] 0 ⟨[],[(Str.ofString "default",d)]⟩=pure [none,some d] from rfl) ?_);refine wpAny_bind (wpAny_pure ?_);refine wpAny_bind (wpAny_pyIter_list hl ?_);refine wpAny_bind (wpAny_newList ?_ (zW _));rw[a5];have hS:(s.heap.push {cls:=.type "list_iterator",data:=.fields #[.ref l,.int 0 0]}).objs.size=s.heap.objs.size+1:=Heap.size_push ..;have old:∀b o,s.heap.get? b=some o->b≠s.heap.objs.size/\b≠(s.heap.push {cls:=.type "list_iterator",data:=.fields #[.ref l,.int 0 0]}).objs.size:=λ b o e=>⟨zI (zt e),by rw[hS];exact zI (Nat.lt_succ_of_lt (zt e))⟩;have grow:∀b o,s.heap.get? b=some o->((s.heap.push {cls:=.type "list_iterator",data:=.fields #[.ref l,.int 0 0]}).push {cls:=.type "list",data:=.seq #[]}).get? b=some o:=λ b o e=>zh _ (zh _ e);refine wpAny_pure ⟨plainId_quiet zQ _,?_⟩;refine VP bs tv l s.heap.objs.size (s.heap.push {cls:=.type "list_iterator",data:=.fields #[.ref l,.int 0 0]}).objs.size d hh hu (by rw[hS];exact Nat.succ_ne_self _) (old l ol dn).1 (old l ol dn).2 (λ b hb=>?_) hk _ 0 _ 0 rfl (zW _) ?_ ?_ (λ b hb=>?_) ?_ ?_
 ·obtain⟨o,ho,_⟩:=ht b hb;exact old b.1 o ho
 ·exact⟨_,zh _ (zA _ rfl),rfl,rfl⟩
 ·exact hl.at λ o e=>grow l o e
 ·obtain⟨o,ho,r⟩:=ht b hb;exact⟨o,grow b.1 o ho,r⟩
 ·exact zA _ rfl
 ·intro h' tk dq;exact hQ h' tk λ b o e=>dq b o (old b o e).1 (old b o e).2 (grow b o e)
end
section
variable {X:Cx}{e e2:Expr}{te td:TE}{p pos kp:Pos}
noncomputable def kL (K:za)(te td:TE):TE:=λ σ H Q=>te σ H λ x H1=>td σ H1 λ d H2=>∃(a:Addr) (bs:List (Addr×List Int)),x=.ref a/\D8 K H2 a (bs.map λ b=>V.ref b.1)/\(∀b∈bs,El K H2 b.1 (b.2.map V.int))/\Q (match AM bs with | none=>d | some b=>.ref b.1) H2
theorem Jm:∀ {bs:List (Addr×List Int)}{us:List Value},Vals (bs.map λ b=>V.ref b.1) us->us=bs.map λ b=>zX b.1
 |[],_,.nil=>rfl
 |b::r,_,.cons h t=>by cases h;rw[Jm t];rfl
theorem Ym (hc:X.calm=true)(hu:X.A.units+1<cLine)(hg:Gl X "min")(hm:X.mg "min" = none)(he:PE X e te)(hd:PE X e2 td)
 (aU:starEach [e] X.env=[(false,eval e X.env)]:=by rfl) (bv:(backToKw pos (keywordEach [⟨some "default",e2,kp⟩] X.env)).all (·.1.isSome)=true:=by rfl) (mo:(backToKw pos (keywordEach [⟨some "default",e2,kp⟩] X.env)).filterMap (·.1)=([("default" : Str)]:List Str):=by rfl)
 (mq:(backToKw pos (keywordEach [⟨some "default",e2,kp⟩] X.env)).any (·.1.isNone)=false:=by rfl) (ii:backTo pos (starEach [e] X.env)=(false,eval e X.env)::backTo pos (starEach [] X.env):=by rfl) (az:(backTo pos (starEach [e] X.env)).any (·.1)=false:=by rfl):
 PE X (.Call (.Name "min" p) [e] [⟨some "default",e2,kp⟩] pos) (kL X.K te td):=by
 intro pins s σ H Q I h;refine wpAny_Call_Name_kw (Ek I hg hm boot_min ?_ (by decide) (by decide));refine callWith_kw (B2 ((Bl he Cs (hs:=aU)) pos pins s σ H (λ vs H1=>match vs with|[x]=>td σ H1 λ d H2=>∃(a:Addr) (bs:List (Addr×List Int)),x=.ref a/\D8 X.K H2 a (bs.map λ b=>V.ref b.1)/\(∀b∈bs,El X.K H2 b.1 (b.2.map V.int))/\Q (match AM bs with|none=>d|some b=>.ref b.1) H2|_=>False) I h) λ us s1 ⟨vs,H1,I1,r1,q1⟩=>?_) ii az bv mq;obtain⟨x,rfl⟩:∃x,vs=[x]:=by
  match vs,q1 with
  |[x],_=>exact⟨x,rfl⟩
 refine B2 ((XX hd eF) pos pins s1 σ H1 (λ zs H2=>match zs with|[d]=>∃(a:Addr) (bs:List (Addr×List Int)),x=.ref a/\D8 X.K H2 a (bs.map λ b=>V.ref b.1)/\(∀b∈bs,El X.K H2 b.1 (b.2.map V.int))/\Q (match AM bs with|none=>d|some b=>.ref b.1) H2|_=>False) I1 q1) λ ws s2 ⟨zs,H2,I2,r2,q2⟩=>?_;obtain⟨d,rfl⟩:∃d,zs=[d]:=by
  match zs,q2 with
  |[d],_=>exact⟨d,rfl⟩
 obtain⟨a,bs,rfl,hl,hb,q⟩:=q2;obtain⟨ua,rfl,ra⟩:=r1.one;obtain⟨ud,rfl,rd⟩:=r2.one;cases ra;rw[mo];obtain⟨aa,rv,pl,hz⟩:=I2.list hl;have ei:=Jm rv;subst ei;have tv:∀a:Addr,∃t:Array Value,∀b∈bs,b.1=a->IsTup s2.heap a t/\IntsAre t.toList b.2:=λ a=>by
  by_cases cc:∃b∈bs,b.1=a
  ·obtain⟨b,cc,rfl⟩:=cc;obtain⟨ts,rt,pt,_⟩:=I2.tuple (hb b cc);refine⟨ts.toArray,λ b' a6 e=>⟨pt,?_⟩⟩;have q2:=hb b' a6;rw[e] at q2;have e2:=I2.EE q2 (hb b cc);rw[<-e2] at rt;simpa using intsAre_of rt
  ·exact⟨#[],λ b a6 e=>absurd ⟨b,a6,e⟩ cc⟩
 refine MG bs (λ b=>zl (tv b)) a ud (I2.ok.hd hc) hu pl.isList (λ b a6=>(zb (tv b.1) b a6 rfl).1) (λ b a6=>(zb (tv b.1) b a6 rfl).2) λ h' tk hk=>?_;refine⟨match AM bs with|none=>d|some b=>.ref b.1,H2,I2.kept (t':=tk) hk,?_,q⟩;cases AM bs with
 |none=>exact rd
 |some b=>rfl
end
inductive D where
 |AD|bl (b:Bool)|int (i:Int)|str (x:Str)|tup (ds:List D)|lst (ds:List D)|D9 (x:Str)|B6 (t:Bool) (ks vs:List D)|ins (x:Str) (ns:List Str) (ds:List D)
noncomputable def Eo:Key->D
 | .inl i=>.int i
 | .inr x=>.str x
def oE (a c:Addr)(h:Heap):Prop:=∃o,h.get? a=some o/\o.cls=.ref c/\PySem.W.notCls o=true
theorem Rd.same {H H':Hp}{a:Addr}{u:HO}(r:Rd H a u)(e:Ab H H'):Rd H' a u:=r.elim (λ h=>.inl (e _ _ h)) λ⟨o,h⟩=>.inr ⟨o,e _ _ h⟩
mutual
inductive BB (K:za) (H:Hp):V->D->Prop
 |AD:BB K H .AD .AD
 |bl (b):BB K H (.bl b) (.bl b)
 |int (i):BB K H (.int i) (.int i)
 |str (x):BB K H (.str x) (.str x)
 |tup {a xs ds}:H a=some (.tup xs)->Ae K H xs ds->BB K H (.ref a) (.tup ds)
 |lst {a xs ds}:D8 K H a xs->Ae K H xs ds->BB K H (.ref a) (.lst ds)
 |Ip {a kvs ds}:Rd H a (.dK kvs)->Ae K H (kvs.map y8) ds->BB K H (.ref a) (.B6 false (kvs.map λ kv=>Eo kv.1) ds)
 |HL {a kvs ds}:Rd H a (.dT kvs)->Ae K H (kvs.map y8) ds->BB K H (.ref a) (.B6 true (kvs.map λ kv=>.tup (kv.1.map Eo)) ds)
 |ins {a C dx fs x ds}:zc K mainGlobals x=some (some (.ref C))->H a=some (.ins C dx fs)->Ae K H (fs.map y8) ds->BB K H (.ref a) (.ins x (fs.map zR) ds)
 |D9 {a c x}:zc K mainGlobals x=some (some (.ref c))->H a=some (.ext (oE a c))->BB K H (.ref a) (.D9 x)
inductive Ae (K:za) (H:Hp):List V->List D->Prop
 |nil:Ae K H [] []
 |cons {x d xs ds}:BB K H x d->Ae K H xs ds->Ae K H (x::xs) (d::ds)
end
theorem Ae.length {K:za}{H:Hp}:∀ {xs:List V}{ds:List D},Ae K H xs ds->xs.length=ds.length
 |_,_,.nil=>rfl
 |_,_,.cons _ t=>by rw[zo,zo,Ae.length t]
theorem Ae.get {K:za}{H:Hp}:∀ {xs:List V}{ds:List D}{i:Nat}{d:D},Ae K H xs ds->ds[i]?=some d->∃x,xs[i]?=some x/\BB K H x d
 |_,_,_,_,.nil,e=>by simp at e
 |_,_,0,_,.cons r _,e=>by simp at e;subst e;exact⟨_,rfl,r⟩
 |_,_,i+1,d,.cons _ t,e=>by
  obtain⟨u,h1,h2⟩:=Ae.get (i:=i) (d:=d) t (by simpa using e);exact⟨u,by simpa using h1,h2⟩
theorem Ae.Jn {K:za}{H:Hp}:∀ {xs:List V}{ds:List D}{i:Nat}{x:V},Ae K H xs ds->xs[i]?=some x->∃d,ds[i]?=some d/\BB K H x d
 |_,_,_,_,.nil,e=>by simp at e
 |_,_,0,_,.cons r _,e=>by simp at e;subst e;exact⟨_,rfl,r⟩
 |_,_,i+1,d,.cons _ t,e=>by
  obtain⟨u,h1,h2⟩:=Ae.Jn (i:=i) (x:=d) t (by simpa using e);exact⟨u,by simpa using h1,h2⟩
theorem Ae.append {K:za}{H:Hp}:∀ {xs ys:List V}{ds es:List D},Ae K H xs ds->Ae K H ys es->Ae K H (xs++ys) (ds++es)
 |_,_,_,_,.nil,h=>h
 |_,_,_,_,.cons r t,h=>.cons r (Ae.append t h)
theorem Ae.snoc {K:za}{H:Hp}{xs:List V}{ds:List D}{x:V}{d:D}(h:Ae K H xs ds)(r:BB K H x d):Ae K H (xs++[x]) (ds++[d]):=h.append (.cons r .nil)
theorem Ae.take {K:za}{H:Hp}:∀ {xs:List V}{ds:List D}(n:Nat),Ae K H xs ds->Ae K H (xs.take n) (ds.take n)
 |_,_,0,_|_,_,_+1,.nil=>.nil
 |_,_,n+1,.cons r t=>.cons r (Ae.take n t)
theorem Ae.drop {K:za}{H:Hp}:∀ {xs:List V}{ds:List D}(n:Nat),Ae K H xs ds->Ae K H (xs.drop n) (ds.drop n)
 |_,_,0,r=>r
 |_,_,_+1,.nil=>.nil
 |_,_,n+1,.cons _ t=>Ae.drop n t
theorem Ae.reverse {K:za}{H:Hp}:∀ {xs:List V}{ds:List D},Ae K H xs ds->Ae K H xs.reverse ds.reverse
 |_,_,.nil=>.nil
 |_,_,.cons r t=>by rw[List.reverse_cons,List.reverse_cons];exact (Ae.reverse t).snoc r
theorem Ae.ints {K:za}{H:Hp}:∀(ns:List Int),Ae K H (ns.map V.int) (ns.map D.int)
 |[]=>.nil
 |n::r=>.cons (.int n) (Ae.ints r)
theorem Ab.oF {K:za}{H H':Hp}{a:Addr}{xs:List V}(e:Ab H H')(h:El K H a xs):El K H' a xs:=by
 rcases h with (h|⟨o,h⟩)|h
 ·exact .inl (.inl (e _ _ h))
 ·exact .inl (.inr ⟨o,e _ _ h⟩)
 ·exact .inr h
mutual
theorem BB.mono {K:za}{H H':Hp}(e:Ab H H'):∀ {v:V}{d:D},BB K H v d->BB K H' v d
 |_,_,.AD=>.AD
 |_,_,.bl b=>.bl b
 |_,_,.int i=>.int i
 |_,_,.str x=>.str x
 |_,_,.tup h r=>.tup (e _ _ h) (Ae.mono e r)
 |_,_,.lst h r=>.lst (e.seq h) (Ae.mono e r)
 |_,_,.Ip h r=>.Ip (h.same e) (Ae.mono e r)
 |_,_,.HL h r=>.HL (h.same e) (Ae.mono e r)
 |_,_,.ins n h r=>.ins n (e _ _ h) (Ae.mono e r)
 |_,_,.D9 h r=>.D9 h (e _ _ r)
theorem Ae.mono {K:za}{H H':Hp}(e:Ab H H'):∀ {vs:List V}{ds:List D},Ae K H vs ds->Ae K H' vs ds
 |_,_,.nil=>.nil
 |_,_,.cons h t=>.cons (BB.mono e h) (Ae.mono e t)
end
theorem AG {H:Hp}{p:Addr}(h:H p=none)(o:HO):Ab H (upd H p o):=λ b u q=>by rw[Al (Av q h)];exact q
mutual
noncomputable def Ap:D->D->Bool
 | .AD,.AD=>true
 | .bl a,.bl b| .int a,.int b| .str a,.str b=>a==b
 | .bl a,.int b=>(if a then 1 else 0)==b
 | .int a,.bl b=>a==(if b then 1 else 0)
 | .tup a,.tup b| .lst a,.lst b=>BY a b
 | .D9 a,.D9 b=>a==b
 | .B6 s a b,.B6 t c d=>(s==t)&&(BY a c&&BY b d)
 | .ins x n a,.ins y m b=>(x==y)&&((n==m)&&BY a b)
 |_,_=>false
noncomputable def BY:List D->List D->Bool
 |[],[]=>true
 |a::r,b::t=>Ap a b&&BY r t
 |_,_=>false
end
mutual
theorem Gd:∀d:D,Ap d d=true
 | .AD=>by simp[Ap]
 | .bl b| .int b| .str b=>by simp[Ap]
 | .tup b| .lst b=>by simp only[Ap];exact Dc b
 | .D9 b=>by simp[Ap]
 | .B6 s a b=>by simp only[Ap];rw[Dc a,Dc b];simp
 | .ins x n a=>by simp only[Ap];rw[Dc a];simp
theorem Dc:∀d:List D,BY d d=true
 |[]=>by simp[BY]
 |a::r=>by simp only[BY,Gd a,Dc r,Bool.and_true]
end
mutual
noncomputable def Az:D->Bool
 | .tup a| .lst a=>Le a
 | .D9 _| .B6 _ _ _| .ins _ _ _=>false
 |_=>true
noncomputable def Le:List D->Bool
 |[]=>true
 |a::r=>Az a&&Le r
end
theorem BG:∀ {ds:List D}{d:D},d∈ds->Le ds=true->Az d=true
 |a::r,d,h,q=>by
  rw[Le,zV] at q;rcases zp.mp h with z|z
  ·subst z;exact q.1
  ·exact BG z q.2
mutual
noncomputable def Iq:D->Nat
 | .tup a| .lst a=>Kq a+1
 |_=>0
noncomputable def Kq:List D->Nat
 |[]=>0
 |a::r=>max (Iq a) (Kq r)
end
theorem Fi:∀ {ds:List D}{d:D},d∈ds->Iq d<=Kq ds
 |a::r,d,h=>by
  rw[Kq];rcases zp.mp h with z|z
  ·subst z;exact Nat.le_max_left _ _
  ·exact yi (Fi z) (Nat.le_max_right _ _)
theorem Pu:∀ {a b:List D},BY a b=true->a.length=b.length
 |[],[],_=>rfl
 |[],_::_,h|_::_,[],h=>by simp[BY] at h
 |a::r,b::t,h=>by
  simp only[BY,zV] at h;rw[zo,zo,Pu h.2]
theorem Dz:∀(a b:List D),a.length=b.length->(zD a.length).all (λ j=>Ap (a.getD j .AD) (b.getD j .AD))=BY a b
 |[],[],_=>by simp[BY]
 |a::r,b::t,h=>by
  have ih:=Dz r t (by simpa using h);rw[zo,List.range_succ_eq_map,List.all_cons,List.all_map,BY,<-ih];simp[Function.comp_def]
 |[],_::_,h|_::_,[],h=>by cases h
theorem Kz {a b:List D}(h:a.length≠b.length):BY a b=false:=by
 cases e:BY a b with
 |false=>rfl
 |true=>exact absurd (Pu e) h
theorem Lf (a b:List D):((zD (min a.length b.length)).all (λ j=>Ap (a.getD j .AD) (b.getD j .AD))&&(a.length==b.length))=BY a b:=by
 by_cases h:a.length=b.length
 ·rw[<-Dz a b h,h];simp
 ·rw[Kz h,beq_false_of_ne h,Bool.and_false]
section
variable {X:Cx}{pins:List (Addr×Obj)}{σ:St}{H:Hp}{s:Shared}
theorem Ss (I:Inv X pins σ H s){a:Addr}{xs ys:List V}(h:D8 X.K H a xs)(h':El X.K H a ys):False:=by
 obtain⟨aa,_,⟨o,n,e,c,_,_⟩,_⟩:=I.list h;obtain⟨its',_,⟨o',e',c',_⟩,_⟩:=I.tuple h';rw[e] at e';cases e';rw[c] at c';revert c';decide
mutual
theorem Yn (I:Inv X pins σ H s):∀ {v:V}{d d':D},Az d=true->Az d'=true->BB X.K H v d->BB X.K H v d'->d=d'
 |_,_,_,_,_,.AD,.AD|_,_,_,_,_,.bl _,.bl _|_,_,_,_,_,.int _,.int _|_,_,_,_,_,.str _,.str _=>rfl
 |_,_,_,n1,n2,.tup h r,.tup h' r'=>by
  have e:=I.EE (.of h) (.of h');subst e;rw[Ge I (by rw[Az] at n1;exact n1) (by rw[Az] at n2;exact n2) r r']
 |_,_,_,n1,n2,.lst h r,.lst h' r'=>by
  have e:=I.IB h h';subst e;rw[Ge I (by rw[Az] at n1;exact n1) (by rw[Az] at n2;exact n2) r r']
 |_,_,_,_,_,.tup h _,.lst h' _=>(Ss I h' (.of h)).elim
 |_,_,_,_,_,.lst h _,.tup h' _=>(Ss I h (.of h')).elim
 |_,_,_,n1,_,.D9 _ _,_|_,_,_,n1,_,.Ip _ _,_|_,_,_,n1,_,.HL _ _,_|_,_,_,n1,_,.ins _ _ _,_=>by rw[Az] at n1;cases n1
 |_,_,_,_,n2,_,.D9 _ _|_,_,_,_,n2,_,.Ip _ _|_,_,_,_,n2,_,.HL _ _|_,_,_,_,n2,_,.ins _ _ _=>by rw[Az] at n2;cases n2
theorem Ge (I:Inv X pins σ H s):∀ {v:List V}{d d':List D},Le d=true->Le d'=true->Ae X.K H v d->Ae X.K H v d'->d=d'
 |_,_,_,_,_,.nil,.nil=>rfl
 |_,_,_,n1,n2,.cons h r,.cons h' r'=>by
  rw[Le,zV] at n1 n2;rw[Yn I n1.1 n2.1 h h',Ge I n1.2 n2.2 r r']
end
theorem Va {xs:List V}{aa:List Value}(r:Vals xs aa)(j:Nat)(h:j<aa.toArray.size):∃x,xs[j]?=some x/\RelV x aa.toArray[j]:=by
 have h':j<aa.length:=by simpa using h
 have hx:j<xs.length:=by rw[r.length];exact h'
 obtain⟨u,hu,ru⟩:=r.get (zr hx);rw[zr h'] at hu;refine⟨xs[j],zr hx,?_⟩;have e:aa.toArray[j]=u:=by simpa using hu
 rw[e];exact ru
theorem BW {ds:List D}{j:Nat}{d:D}(h:ds[j]?=some d):ds.getD j .AD=d:=by rw[zL,h];rfl
theorem O8 (I:Inv X pins σ H s):∀(n:Nat) (A:Around) (d e:D) (v w:V) (u1 u2:Value),Iq d<=n->Az d=true->Az e=true->A.units+n<cLine->BB X.K H v d->BB X.K H w e->RelV v u1->RelV w u2->SeqAt.EqAt A s u1 u2 (Ap d e):=by
 intro n;induction n with
 |zero =>
  intro A d e v w u1 u2 hd ax af hu h1 h2 r1 r2;have am:A.units<cLine:=by omega
  cases h1 with
  |D9 _ _|Ip _ _|HL _ _|ins _ _ _=>simp[Az] at ax
  |AD =>
   cases r1;cases h2 with
   |D9 _ _|Ip _ _|HL _ _|ins _ _ _=>simp[Az] at af
   |AD=>cases r2;simp only[Ap];exact .same _
   |bl b=>cases r2;simp only[Ap];exact .none_bool _
   |int b=>obtain⟨t,rfl⟩:=r2;simp only[Ap];exact .none_int _ _
   |str b=>obtain⟨t,rfl⟩:=r2;simp only[Ap];exact .none_str _ _
   |tup h r=>cases r2;simp only[Ap];obtain⟨_,_,p,_⟩:=I.tuple (.of h);exact .none_tuple p am
   |lst h r=>cases r2;simp only[Ap];obtain⟨_,_,p,_⟩:=I.list h;exact .none_list p.isList am
  |bl a =>
   cases r1;cases h2 with
   |D9 _ _|Ip _ _|HL _ _|ins _ _ _=>simp[Az] at af
   |AD=>cases r2;simp only[Ap];exact .bool_none _
   |bl b=>cases r2;simp only[Ap];exact .bool_bool _ _
   |int b=>obtain⟨t,rfl⟩:=r2;simp only[Ap];exact .bool_int _ _ _
   |str b=>obtain⟨t,rfl⟩:=r2;simp only[Ap];exact .bool_str _ _ _
   |tup h r=>cases r2;simp only[Ap];obtain⟨_,_,p,_⟩:=I.tuple (.of h);exact .bool_tuple _ p am
   |lst h r=>cases r2;simp only[Ap];obtain⟨_,_,p,_⟩:=I.list h;exact .bool_list _ p.isList am
  |int a =>
   obtain⟨t',rfl⟩:=r1;cases h2 with
   |D9 _ _|Ip _ _|HL _ _|ins _ _ _=>simp[Az] at af
   |AD=>cases r2;simp only[Ap];exact .int_none _ _
   |bl b=>cases r2;simp only[Ap];exact .int_bool _ _ _
   |int b=>obtain⟨t,rfl⟩:=r2;simp only[Ap];exact .int_int _ _ _ _
   |str b=>obtain⟨t,rfl⟩:=r2;simp only[Ap];exact .int_str _ _ _ _
   |tup h r=>cases r2;simp only[Ap];obtain⟨_,_,p,_⟩:=I.tuple (.of h);exact .int_tuple _ _ p am
   |lst h r=>cases r2;simp only[Ap];obtain⟨_,_,p,_⟩:=I.list h;exact .int_list _ _ p.isList am
  |str a =>
   obtain⟨t',rfl⟩:=r1;cases h2 with
   |D9 _ _|Ip _ _|HL _ _|ins _ _ _=>simp[Az] at af
   |AD=>cases r2;simp only[Ap];exact .str_none _ _
   |bl b=>cases r2;simp only[Ap];exact .str_bool _ _ _
   |int b=>obtain⟨t,rfl⟩:=r2;simp only[Ap];exact .str_int _ _ _ _
   |str b=>obtain⟨t,rfl⟩:=r2;simp only[Ap];exact .str_str _ _ _ _
   |tup h r=>cases r2;simp only[Ap];obtain⟨_,_,p,_⟩:=I.tuple (.of h);exact .str_tuple _ _ p am
   |lst h r=>cases r2;simp only[Ap];obtain⟨_,_,p,_⟩:=I.list h;exact .str_list _ _ p.isList am
  |tup h r|lst h r=>rw[Iq] at hd;omega
 |succ n ih =>
  intro A d e v w u1 u2 hd ax af hu h1 h2 r1 r2;have am:A.units<cLine:=by omega
  have qJ:A.in1.units+n<cLine:=by show A.units+1+n<cLine;omega
  by_cases ij:Iq d<=n
  ·exact ih A d e v w u1 u2 ij ax af (by omega) h1 h2 r1 r2
  cases h1 with
  |D9 _ _|Ip _ _|HL _ _|ins _ _ _=>simp[Az] at ax
  |AD|bl _|int _|str _=>exact absurd (by simp[Iq]) ij
  | @tup a xs ds h r =>
   cases r1;obtain⟨aa,rv,p,_⟩:=I.tuple (.of h);cases h2 with
   |D9 _ _|Ip _ _|HL _ _|ins _ _ _=>simp[Az] at af
   |AD=>cases r2;simp only[Ap];exact .tuple_none p am
   |bl b=>cases r2;simp only[Ap];exact .tuple_bool _ p am
   |int b=>obtain⟨t,rfl⟩:=r2;simp only[Ap];exact .tuple_int _ _ p am
   |str b=>obtain⟨t,rfl⟩:=r2;simp only[Ap];exact .tuple_str _ _ p am
   | @lst a2 bM es h' r'=>cases r2;simp only[Ap];obtain⟨_,_,p',_⟩:=I.list h';exact .tuple_list p p'.isList am
   | @tup a2 bM es h' r' =>
    cases r2;by_cases ha:a=a2
    ·subst ha;have e':=I.EE (.of h) (.of h');subst e';have e2:=Ge I (by rw[Az] at ax;exact ax) (by rw[Az] at af;exact af) r r';subst e2;rw[Gd];exact .same _
    ·obtain⟨its',aX,p',_⟩:=I.tuple (.of h');refine .of_refs ha ?_;have q:=SeqAt.RcAt.tuples (A:=A) (e:=λ j=>Ap (ds.getD j .AD) (es.getD j .AD)) p p' am λ j h1 h2=>?_
     ·have z1:aa.toArray.size=ds.length:=by rw[zj,<-rv.length,r.length]
      have z2:its'.toArray.size=es.length:=by rw[zj,<-aX.length,r'.length]
      rw[z1,z2,Lf] at q;simp only[Ap];exact q
     ·obtain⟨x,hx,rx⟩:=Va rv j h1;obtain⟨y,hy,ry⟩:=Va aX j h2;obtain⟨dx,ex,ce⟩:=r.Jn hx;obtain⟨dy,ey,cf⟩:=r'.Jn hy;rw[BW ex,BW ey];refine ih A.in1 dx dy x y _ _ ?_ (BG (zq ex) (by rw[Az] at ax;exact ax)) (BG (zq ey) (by rw[Az] at af;exact af)) qJ ce cf rx ry;rw[Iq] at hd;have:=Fi (zq ex);omega
  | @lst a xs ds h r =>
   cases r1;obtain⟨aa,rv,p,_⟩:=I.list h;cases h2 with
   |D9 _ _|Ip _ _|HL _ _|ins _ _ _=>simp[Az] at af
   |AD=>cases r2;simp only[Ap];exact .list_none p.isList am
   |bl b=>cases r2;simp only[Ap];exact .list_bool _ p.isList am
   |int b=>obtain⟨t,rfl⟩:=r2;simp only[Ap];exact .list_int _ _ p.isList am
   |str b=>obtain⟨t,rfl⟩:=r2;simp only[Ap];exact .list_str _ _ p.isList am
   | @tup a2 bM es h' r'=>cases r2;simp only[Ap];obtain⟨_,_,p',_⟩:=I.tuple (.of h');exact .list_tuple p.isList p' am
   | @lst a2 bM es h' r' =>
    cases r2;by_cases ha:a=a2
    ·subst ha;have e':=I.IB h h';subst e';have e2:=Ge I (by rw[Az] at ax;exact ax) (by rw[Az] at af;exact af) r r';subst e2;rw[Gd];exact .same _
    ·obtain⟨its',aX,p',_⟩:=I.list h';refine .of_refs ha ?_;have z1:aa.toArray.size=ds.length:=by rw[zj,<-rv.length,r.length]
     have z2:its'.toArray.size=es.length:=by rw[zj,<-aX.length,r'.length]
     by_cases hz:aa.toArray.size=its'.toArray.size
     ·have q:=SeqAt.RcAt.lists (A:=A) (e:=λ j=>Ap (ds.getD j .AD) (es.getD j .AD)) p.isList p'.isList hz am λ j h1 h2=>?_
      ·rw[z1,Dz ds es (by rw[<-z1,<-z2,hz])] at q;simp only[Ap];exact q
      ·obtain⟨x,hx,rx⟩:=Va rv j h1;obtain⟨y,hy,ry⟩:=Va aX j h2;obtain⟨dx,ex,ce⟩:=r.Jn hx;obtain⟨dy,ey,cf⟩:=r'.Jn hy;rw[BW ex,BW ey];refine ih A.in1 dx dy x y _ _ ?_ (BG (zq ex) (by rw[Az] at ax;exact ax)) (BG (zq ey) (by rw[Az] at af;exact af)) qJ ce cf rx ry;rw[Iq] at hd;have:=Fi (zq ex);omega
     ·have q:=SeqAt.RcAt.lists_lengths (A:=A) p.isList p'.isList (by simpa using hz) am;simp only[Ap];rw[Kz (by rw[<-z1,<-z2];exact hz)];exact q
theorem oG (I:Inv X pins σ H s)(A:Around)(d e:D)(v w:V)(u1 u2:Value)(hd:A.units+Iq d<cLine)(ax:Az d=true)(af:Az e=true)(h1:BB X.K H v d)(h2:BB X.K H w e)(r1:RelV v u1)(r2:RelV w u2):SeqAt.RcAt A s u1 u2 (Ap d e):=by
 have am:A.units<cLine:=by omega
 cases h1 with
 |D9 _ _|Ip _ _|HL _ _|ins _ _ _=>simp[Az] at ax
 |AD =>
  cases r1;cases h2 with
  |D9 _ _|Ip _ _|HL _ _|ins _ _ _=>simp[Az] at af
  |AD=>cases r2;simp only[Ap];exact .none_none
  |bl b=>cases r2;simp only[Ap];exact .none_bool _
  |int b=>obtain⟨t,rfl⟩:=r2;simp only[Ap];exact .none_int _ _
  |str b=>obtain⟨t,rfl⟩:=r2;simp only[Ap];exact .none_str _ _
  |tup h r=>cases r2;simp only[Ap];obtain⟨_,_,p,_⟩:=I.tuple (.of h);exact .none_tuple  p am
  |lst h r=>cases r2;simp only[Ap];obtain⟨_,_,p,_⟩:=I.list h;exact .none_list  p.isList am
 |bl a =>
  cases r1;cases h2 with
  |D9 _ _|Ip _ _|HL _ _|ins _ _ _=>simp[Az] at af
  |AD=>cases r2;simp only[Ap];exact .bool_none _
  |bl b=>cases r2;simp only[Ap];exact .bool_bool _ _
  |int b=>obtain⟨t,rfl⟩:=r2;simp only[Ap];exact .bool_int _ _ _
  |str b=>obtain⟨t,rfl⟩:=r2;simp only[Ap];exact .bool_str _ _ _
  |tup h r=>cases r2;simp only[Ap];obtain⟨_,_,p,_⟩:=I.tuple (.of h);exact .bool_tuple _ p am
  |lst h r=>cases r2;simp only[Ap];obtain⟨_,_,p,_⟩:=I.list h;exact .bool_list _ p.isList am
 |int a =>
  obtain⟨t',rfl⟩:=r1;cases h2 with
  |D9 _ _|Ip _ _|HL _ _|ins _ _ _=>simp[Az] at af
  |AD=>cases r2;simp only[Ap];exact .int_none _ _
  |bl b=>cases r2;simp only[Ap];exact .int_bool _ _ _
  |int b=>obtain⟨t,rfl⟩:=r2;simp only[Ap];exact .int_int _ _ _ _
  |str b=>obtain⟨t,rfl⟩:=r2;simp only[Ap];exact .int_str _ _ _ _
  |tup h r=>cases r2;simp only[Ap];obtain⟨_,_,p,_⟩:=I.tuple (.of h);exact .int_tuple _ _ p am
  |lst h r=>cases r2;simp only[Ap];obtain⟨_,_,p,_⟩:=I.list h;exact .int_list _ _ p.isList am
 |str a =>
  obtain⟨t',rfl⟩:=r1;cases h2 with
  |D9 _ _|Ip _ _|HL _ _|ins _ _ _=>simp[Az] at af
  |AD=>cases r2;simp only[Ap];exact .str_none _ _
  |bl b=>cases r2;simp only[Ap];exact .str_bool _ _ _
  |int b=>obtain⟨t,rfl⟩:=r2;simp only[Ap];exact .str_int _ _ _ _
  |str b=>obtain⟨t,rfl⟩:=r2;simp only[Ap];exact .str_str _ _ _ _
  |tup h r=>cases r2;simp only[Ap];obtain⟨_,_,p,_⟩:=I.tuple (.of h);exact .str_tuple _ _ p am
  |lst h r=>cases r2;simp only[Ap];obtain⟨_,_,p,_⟩:=I.list h;exact .str_list _ _ p.isList am
 | @tup a xs ds h r =>
  cases r1;obtain⟨aa,rv,p,_⟩:=I.tuple (.of h);cases h2 with
  |D9 _ _|Ip _ _|HL _ _|ins _ _ _=>simp[Az] at af
  |AD=>cases r2;simp only[Ap];exact .tuple_none  p am
  |bl b=>cases r2;simp only[Ap];exact .tuple_bool _ p am
  |int b=>obtain⟨t,rfl⟩:=r2;simp only[Ap];exact .tuple_int _ _ p am
  |str b=>obtain⟨t,rfl⟩:=r2;simp only[Ap];exact .tuple_str _ _ p am
  | @lst a2 bM es h' r'=>cases r2;simp only[Ap];obtain⟨_,_,p',_⟩:=I.list h';exact .tuple_list p p'.isList am
  | @tup a2 bM es h' r' =>
   cases r2;obtain⟨its',aX,p',_⟩:=I.tuple (.of h');have z1:aa.toArray.size=ds.length:=by rw[zj,<-rv.length,r.length]
   have z2:its'.toArray.size=es.length:=by rw[zj,<-aX.length,r'.length]
   have q:=SeqAt.RcAt.tuples (A:=A) (e:=λ j=>Ap (ds.getD j .AD) (es.getD j .AD)) p p' am λ j h1 h2=>?_
   ·rw[z1,z2,Lf] at q;simp only[Ap];exact q
   ·obtain⟨x,hx,rx⟩:=Va rv j h1;obtain⟨y,hy,ry⟩:=Va aX j h2;obtain⟨dx,ex,ce⟩:=r.Jn hx;obtain⟨dy,ey,cf⟩:=r'.Jn hy;rw[BW ex,BW ey];rw[Iq] at hd;have:=Fi (zq ex);exact O8 I (Kq ds) A.in1 dx dy x y _ _ this (BG (zq ex) (by rw[Az] at ax;exact ax)) (BG (zq ey) (by rw[Az] at af;exact af)) (by show A.units+1+_<cLine;omega) ce cf rx ry
 | @lst a xs ds h r =>
  cases r1;obtain⟨aa,rv,p,_⟩:=I.list h;cases h2 with
  |D9 _ _|Ip _ _|HL _ _|ins _ _ _=>simp[Az] at af
  |AD=>cases r2;simp only[Ap];exact .list_none  p.isList am
  |bl b=>cases r2;simp only[Ap];exact .list_bool _ p.isList am
  |int b=>obtain⟨t,rfl⟩:=r2;simp only[Ap];exact .list_int _ _ p.isList am
  |str b=>obtain⟨t,rfl⟩:=r2;simp only[Ap];exact .list_str _ _ p.isList am
  | @tup a2 bM es h' r'=>cases r2;simp only[Ap];obtain⟨_,_,p',_⟩:=I.tuple (.of h');exact .list_tuple p.isList p' am
  | @lst a2 bM es h' r' =>
   cases r2;obtain⟨its',aX,p',_⟩:=I.list h';have z1:aa.toArray.size=ds.length:=by rw[zj,<-rv.length,r.length]
   have z2:its'.toArray.size=es.length:=by rw[zj,<-aX.length,r'.length]
   by_cases hz:aa.toArray.size=its'.toArray.size
   ·have q:=SeqAt.RcAt.lists (A:=A) (e:=λ j=>Ap (ds.getD j .AD) (es.getD j .AD)) p.isList p'.isList hz am λ j h1 h2=>?_
    ·rw[z1,Dz ds es (by rw[<-z1,<-z2,hz])] at q;simp only[Ap];exact q
    ·obtain⟨x,hx,rx⟩:=Va rv j h1;obtain⟨y,hy,ry⟩:=Va aX j h2;obtain⟨dx,ex,ce⟩:=r.Jn hx;obtain⟨dy,ey,cf⟩:=r'.Jn hy;rw[BW ex,BW ey];rw[Iq] at hd;have:=Fi (zq ex);exact O8 I (Kq ds) A.in1 dx dy x y _ _ this (BG (zq ex) (by rw[Az] at ax;exact ax)) (BG (zq ey) (by rw[Az] at af;exact af)) (by show A.units+1+_<cLine;omega) ce cf rx ry
   ·have q:=SeqAt.RcAt.lists_lengths (A:=A) p.isList p'.isList (by simpa using hz) am;simp only[Ap];rw[Kz (by rw[<-z1,<-z2];exact hz)];exact q
theorem kM (I:Inv X pins σ H s)(A:Around)(d e:D)(v w:V)(u1 u2:Value)(hd:A.units+Iq d<cLine)(ax:Az d=true)(af:Az e=true)(h1:BB X.K H v d)(h2:BB X.K H w e)(r1:RelV v u1)(r2:RelV w u2):SeqAt.RcNeAt A s u1 u2 (!Ap d e):=by
 have am:A.units<cLine:=by omega
 cases h1 with
 |D9 _ _|Ip _ _|HL _ _|ins _ _ _=>simp[Az] at ax
 |AD =>
  cases r1;cases h2 with
  |D9 _ _|Ip _ _|HL _ _|ins _ _ _=>simp[Az] at af
  |AD=>cases r2;simp only[Ap];exact .none_none
  |bl b=>cases r2;simp only[Ap];exact .none_bool _
  |int b=>obtain⟨t,rfl⟩:=r2;simp only[Ap];exact .none_int _ _
  |str b=>obtain⟨t,rfl⟩:=r2;simp only[Ap];exact .none_str _ _
  |tup h r=>cases r2;simp only[Ap];obtain⟨_,_,p,_⟩:=I.tuple (.of h);exact .none_tuple  p am
  |lst h r=>cases r2;simp only[Ap];obtain⟨_,_,p,_⟩:=I.list h;exact .none_list  p.isList am
 |bl a =>
  cases r1;cases h2 with
  |D9 _ _|Ip _ _|HL _ _|ins _ _ _=>simp[Az] at af
  |AD=>cases r2;simp only[Ap];exact .bool_none _
  |bl b=>cases r2;simp only[Ap];exact .bool_bool _ _
  |int b=>obtain⟨t,rfl⟩:=r2;simp only[Ap];exact .bool_int _ _ _
  |str b=>obtain⟨t,rfl⟩:=r2;simp only[Ap];exact .bool_str _ _ _
  |tup h r=>cases r2;simp only[Ap];obtain⟨_,_,p,_⟩:=I.tuple (.of h);exact .bool_tuple _ p am
  |lst h r=>cases r2;simp only[Ap];obtain⟨_,_,p,_⟩:=I.list h;exact .bool_list _ p.isList am
 |int a =>
  obtain⟨t',rfl⟩:=r1;cases h2 with
  |D9 _ _|Ip _ _|HL _ _|ins _ _ _=>simp[Az] at af
  |AD=>cases r2;simp only[Ap];exact .int_none _ _
  |bl b=>cases r2;simp only[Ap];exact .int_bool _ _ _
  |int b=>obtain⟨t,rfl⟩:=r2;simp only[Ap];exact .int_int _ _ _ _
  |str b=>obtain⟨t,rfl⟩:=r2;simp only[Ap];exact .int_str _ _ _ _
  |tup h r=>cases r2;simp only[Ap];obtain⟨_,_,p,_⟩:=I.tuple (.of h);exact .int_tuple _ _ p am
  |lst h r=>cases r2;simp only[Ap];obtain⟨_,_,p,_⟩:=I.list h;exact .int_list _ _ p.isList am
 |str a =>
  obtain⟨t',rfl⟩:=r1;cases h2 with
  |D9 _ _|Ip _ _|HL _ _|ins _ _ _=>simp[Az] at af
  |AD=>cases r2;simp only[Ap];exact .str_none _ _
  |bl b=>cases r2;simp only[Ap];exact .str_bool _ _ _
  |int b=>obtain⟨t,rfl⟩:=r2;simp only[Ap];exact .str_int _ _ _ _
  |str b=>obtain⟨t,rfl⟩:=r2;simp only[Ap];exact .str_str _ _ _ _
  |tup h r=>cases r2;simp only[Ap];obtain⟨_,_,p,_⟩:=I.tuple (.of h);exact .str_tuple _ _ p am
  |lst h r=>cases r2;simp only[Ap];obtain⟨_,_,p,_⟩:=I.list h;exact .str_list _ _ p.isList am
 | @tup a xs ds h r =>
  cases r1;obtain⟨aa,rv,p,_⟩:=I.tuple (.of h);cases h2 with
  |D9 _ _|Ip _ _|HL _ _|ins _ _ _=>simp[Az] at af
  |AD=>cases r2;simp only[Ap];exact .tuple_none  p am
  |bl b=>cases r2;simp only[Ap];exact .tuple_bool _ p am
  |int b=>obtain⟨t,rfl⟩:=r2;simp only[Ap];exact .tuple_int _ _ p am
  |str b=>obtain⟨t,rfl⟩:=r2;simp only[Ap];exact .tuple_str _ _ p am
  | @lst a2 bM es h' r'=>cases r2;simp only[Ap];obtain⟨_,_,p',_⟩:=I.list h';exact .tuple_list p p'.isList am
  | @tup a2 bM es h' r' =>
   cases r2;obtain⟨its',aX,p',_⟩:=I.tuple (.of h');have z1:aa.toArray.size=ds.length:=by rw[zj,<-rv.length,r.length]
   have z2:its'.toArray.size=es.length:=by rw[zj,<-aX.length,r'.length]
   have q:=SeqAt.RcNeAt.tuples (A:=A) (e:=λ j=>Ap (ds.getD j .AD) (es.getD j .AD)) p p' am λ j h1 h2=>?_
   ·rw[z1,z2,Lf] at q;simp only[Ap];exact q
   ·obtain⟨x,hx,rx⟩:=Va rv j h1;obtain⟨y,hy,ry⟩:=Va aX j h2;obtain⟨dx,ex,ce⟩:=r.Jn hx;obtain⟨dy,ey,cf⟩:=r'.Jn hy;rw[BW ex,BW ey];rw[Iq] at hd;have:=Fi (zq ex);exact O8 I (Kq ds) A.in1 dx dy x y _ _ this (BG (zq ex) (by rw[Az] at ax;exact ax)) (BG (zq ey) (by rw[Az] at af;exact af)) (by show A.units+1+_<cLine;omega) ce cf rx ry
 | @lst a xs ds h r =>
  cases r1;obtain⟨aa,rv,p,_⟩:=I.list h;cases h2 with
  |D9 _ _|Ip _ _|HL _ _|ins _ _ _=>simp[Az] at af
  |AD=>cases r2;simp only[Ap];exact .list_none  p.isList am
  |bl b=>cases r2;simp only[Ap];exact .list_bool _ p.isList am
  |int b=>obtain⟨t,rfl⟩:=r2;simp only[Ap];exact .list_int _ _ p.isList am
  |str b=>obtain⟨t,rfl⟩:=r2;simp only[Ap];exact .list_str _ _ p.isList am
  | @tup a2 bM es h' r'=>cases r2;simp only[Ap];obtain⟨_,_,p',_⟩:=I.tuple (.of h');exact .list_tuple p.isList p' am
  | @lst a2 bM es h' r' =>
   cases r2;obtain⟨its',aX,p',_⟩:=I.list h';have z1:aa.toArray.size=ds.length:=by rw[zj,<-rv.length,r.length]
   have z2:its'.toArray.size=es.length:=by rw[zj,<-aX.length,r'.length]
   by_cases hz:aa.toArray.size=its'.toArray.size
   ·have q:=SeqAt.RcNeAt.lists (A:=A) (e:=λ j=>Ap (ds.getD j .AD) (es.getD j .AD)) p.isList p'.isList hz am λ j h1 h2=>?_
    ·rw[z1,Dz ds es (by rw[<-z1,<-z2,hz])] at q;simp only[Ap];exact q
    ·obtain⟨x,hx,rx⟩:=Va rv j h1;obtain⟨y,hy,ry⟩:=Va aX j h2;obtain⟨dx,ex,ce⟩:=r.Jn hx;obtain⟨dy,ey,cf⟩:=r'.Jn hy;rw[BW ex,BW ey];rw[Iq] at hd;have:=Fi (zq ex);exact O8 I (Kq ds) A.in1 dx dy x y _ _ this (BG (zq ex) (by rw[Az] at ax;exact ax)) (BG (zq ey) (by rw[Az] at af;exact af)) (by show A.units+1+_<cLine;omega) ce cf rx ry
   ·have q:=SeqAt.RcNeAt.lists_lengths (A:=A) p.isList p'.isList (by simpa using hz) am;simp only[Ap];rw[Kz (by rw[<-z1,<-z2];exact hz)];exact q
noncomputable def Yo (K:za)(A:Around)(neg:Bool):R2:=λ x y H Q=>∃d e,BB K H x d/\BB K H y e/\A.units+Iq d<cLine/\Az d=true/\Az e=true/\Q (.bl (if neg=true then !Ap d e else Ap d e)) H
theorem VQ:GR X (compareOp .Eq) (Yo X.K X.A false):=by
 intro pins s σ H x y v u Q I rx ry h;obtain⟨d,e,hd,he,hu,n1,n2,q⟩:=h;exact oG I X.A d e x y v u hu n1 n2 hd he rx ry X.prog X.w X.xe _ ⟨.bl _,H,I,rfl,q⟩
theorem eT:GR X (compareOp .NotEq) (Yo X.K X.A true):=by
 intro pins s σ H x y v u Q I rx ry h;obtain⟨d,e,hd,he,hu,n1,n2,q⟩:=h;exact kM I X.A d e x y v u hu n1 n2 hd he rx ry X.prog X.w X.xe _ ⟨.bl _,H,I,rfl,q⟩
end
inductive OT where
 |sh (d:D)|lst (ts:List OT)|tup (ts:List OT)|B6 (t:Bool) (ks:List D) (ts:List OT)|ins (x:Str) (ns:List Str) (ts:List OT)
inductive Ow where
 |rows (G4:List (List D))
 |Kr (p:Nat) (ds:List D)
 |tree (p:Option Nat) (t:OT)
inductive Cl where
 |val (d:D)|own (ds:List D)|ow (o:Ow)
noncomputable abbrev A9:=List (Option Cl)
inductive M (α:Type) where
 |ok (a:α)|ex (c:Str)|bad
noncomputable def M.bind {α β:Type}(m:M α)(k:α->M β):M β:=match m with
 | .ok a=>k a
 | .ex c=>.ex c
 | .bad=>.bad
@[simp] theorem M.A6 {α β:Type}(a:α) (k:α->M β):(M.ok a).bind k=k a:=rfl
noncomputable def del (H:Hp)(P:Addr->Prop):Hp:=λ a=>open Classical in if P a then none else H a
theorem AA {H:Hp}{P:Addr->Prop}{a:Addr}(h:¬ P a):del H P a=H a:=by unfold del;rw[if_neg h]
theorem Fj {H:Hp}{P:Addr->Prop}{a:Addr}(h:P a):del H P a=none:=by unfold del;rw[if_pos h]
theorem Am {H:Hp}{P:Addr->Prop}{a:Addr}{o:HO}(h:del H P a=some o):¬ P a/\H a=some o:=by
 by_cases hp:P a
 ·rw[Fj hp] at h;cases h
 ·rw[AA hp] at h;exact⟨hp,h⟩
theorem Rd.Bj {H:Hp}{P:Addr->Prop}{a:Addr}{u:HO}(r:Rd (del H P) a u):Rd H a u:=r.elim (λ h=>.inl (Am h).2) λ⟨o,h⟩=>.inr ⟨o,(Am h).2⟩
theorem Ab.del {H H':Hp}{P:Addr->Prop}(e:Ab H H'):Ab (del H P) (del H' P):=λ b o h=>by
 obtain⟨h1,h2⟩:=Am h;rw[AA h1];exact e b o h2
theorem BH {H:Hp}{P P':Addr->Prop}(h:∀a,P' a->P a):Ab (L2.del H P) (L2.del H P'):=λ b o e=>by
 obtain⟨h1,h2⟩:=Am e;rw[AA λ z=>h1 (h b z)];exact h2
theorem DB {H:Hp}{P:Addr->Prop}:Ab (L2.del H P) H:=λ b o e=>(Am e).2
def Eb (H:Hp)(a:Addr):Prop:=∃o,H a=some o/\∀xs,o≠.tup xs/\∀z,o≠.QV z (.tup xs)
theorem Eb.same {H H':Hp}{a:Addr}(h:Eb H a)(e:Ab H H'):Eb H' a:=let ⟨o,q,r⟩:=h;⟨o,e a o q,r⟩
theorem Eb.no {H:Hp}{a:Addr}(h:Eb H a)(e:H a=none):False:=by
 obtain⟨o,q,r⟩:=h;rw[e] at q;cases q
theorem Eb.lst {H:Hp}{a:Addr}{xs:List V}(h:H a=some (.lst xs)):Eb H a:=⟨_,h,λ _=>⟨λ z=>(by cases z),λ _ z=>by cases z⟩⟩
mutual
inductive BC (K:za) (H:Hp) (P:Addr->Prop):V->OT->List Addr->Prop
 |sh {v d}:BB K (del H P) v d->BC K H P v (.sh d) []
 |lst {p xs ts fp}:H p=some (.lst xs)->AB K H P xs ts fp->BC K H P (.ref p) (.lst ts) (p::fp)
 |tup {p xs ts fp}:del H P p=some (.tup xs)->AB K H P xs ts fp->BC K H P (.ref p) (.tup ts) fp
 |dK {p kvs ts fp}:H p=some (.dK kvs)->AB K H P (kvs.map y8) ts fp->BC K H P (.ref p) (.B6 false (kvs.map λ kv=>Eo kv.1) ts) (p::fp)
 |dT {p kvs ts fp}:H p=some (.dT kvs)->AB K H P (kvs.map y8) ts fp->BC K H P (.ref p) (.B6 true (kvs.map λ kv=>.tup (kv.1.map Eo)) ts) (p::fp)
 |ins {p C dx fs ts fp x}:zc K mainGlobals x=some (some (.ref C))->H p=some (.ins C dx fs)->AB K H P (fs.map y8) ts fp->BC K H P (.ref p) (.ins x (fs.map zR) ts) (p::fp)
inductive AB (K:za) (H:Hp) (P:Addr->Prop):List V->List OT->List Addr->Prop
 |nil:AB K H P [] [] []
 |cons {v t fp vs ts fq}:BC K H P v t fp->AB K H P vs ts fq->AB K H P (v::vs) (t::ts) (fp++fq)
end
mutual
noncomputable def er:OT->D
 | .sh d=>d
 | .lst ts=>.lst (Pw ts)
 | .tup ts=>.tup (Pw ts)
 | .B6 t ks ts=>.B6 t ks (Pw ts)
 | .ins x ns ts=>.ins x ns (Pw ts)
noncomputable def Pw:List OT->List D
 |[]=>[]
 |t::r=>er t::Pw r
end
theorem Su:∀ts:List OT,Pw ts=ts.map er
 |[]=>rfl
 |t::r=>by rw[Pw,Su r,zg]
mutual
theorem BC.move {K:za}{H H':Hp}{P P':Addr->Prop}(sm:Ab (del H P) (del H' P')):∀ {v:V}{t:OT}{fp:List Addr},(∀a∈fp,H' a=H a)->BC K H P v t fp->BC K H' P' v t fp
 |_,_,_,_,.sh h=>.sh (h.mono sm)
 |_,_,_,k,.lst h r=>.lst ((k _ zd).trans h) (AB.move sm (λ a ha=>k a (zf _ ha)) r)
 |_,_,_,k,.tup h r=>.tup (sm _ _ h) (AB.move sm k r)
 |_,_,_,k,.dK h r=>.dK ((k _ zd).trans h) (AB.move sm (λ a ha=>k a (zf _ ha)) r)
 |_,_,_,k,.dT h r=>.dT ((k _ zd).trans h) (AB.move sm (λ a ha=>k a (zf _ ha)) r)
 |_,_,_,k,.ins n h r=>.ins n ((k _ zd).trans h) (AB.move sm (λ a ha=>k a (zf _ ha)) r)
theorem AB.move {K:za}{H H':Hp}{P P':Addr->Prop}(sm:Ab (del H P) (del H' P')):∀ {v:List V}{t:List OT}{fp:List Addr},(∀a∈fp,H' a=H a)->AB K H P v t fp->AB K H' P' v t fp
 |_,_,_,_,.nil=>.nil
 |_,_,_,k,.cons h r=>.cons (BC.move sm (λ a ha=>k a (zK _ ha)) h) (AB.move sm (λ a ha=>k a (zm _ ha)) r)
end
mutual
theorem BC.C4 {K:za}{H:Hp}{P:Addr->Prop}:∀ {v:V}{t:OT}{fp:List Addr},BC K H P v t fp->∀a∈fp,Eb H a
 |_,_,_,.sh h,a,ha=>by cases ha
 |_,_,_,.lst h r,a,ha=>by
  rcases zp.mp ha with rfl|ha
  ·exact .lst h
  ·exact AB.C4 r a ha
 |_,_,_,.tup h r,a,ha=>AB.C4 r a ha
 |_,_,_,.dK h r,a,ha=>by
  rcases zp.mp ha with rfl|ha
  ·exact⟨_,h,λ _=>⟨λ z=>(by cases z),λ _ z=>by cases z⟩⟩
  ·exact AB.C4 r a ha
 |_,_,_,.dT h r,a,ha=>by
  rcases zp.mp ha with rfl|ha
  ·exact⟨_,h,λ _=>⟨λ z=>(by cases z),λ _ z=>by cases z⟩⟩
  ·exact AB.C4 r a ha
 |_,_,_,.ins n h r,a,ha=>by
  rcases zp.mp ha with rfl|ha
  ·exact⟨_,h,λ _=>⟨λ z=>(by cases z),λ _ z=>by cases z⟩⟩
  ·exact AB.C4 r a ha
theorem AB.C4 {K:za}{H:Hp}{P:Addr->Prop}:∀ {v:List V}{t:List OT}{fp:List Addr},AB K H P v t fp->∀a∈fp,Eb H a
 |_,_,_,.nil,a,ha=>by cases ha
 |_,_,_,.cons h r,a,ha=>by
  rcases zM.mp ha with ha|ha
  ·exact BC.C4 h a ha
  ·exact AB.C4 r a ha
end
mutual
theorem BC.BL {K:za}{H:Hp}{P P':Addr->Prop}:∀ {v:V}{t:OT}{fp ah:List Addr},BC K H P v t fp->BC K H P' v t ah->fp=ah
 |_,_,_,_,.sh _,.sh _=>rfl
 |_,_,_,_,.lst h r,.lst h' r'=>by
  rw[h] at h';cases h';rw[AB.BL r r']
 |_,_,_,_,.tup h r,.tup h' r'=>by
  have e:=(Am h).2.symm.trans (Am h').2;cases e;exact AB.BL r r'
 |_,_,_,_,.dK (kvs:=kvs) (ts:=ts) h r,x=>by
  generalize ht:OT.B6 false (kvs.map λ kv=>Eo kv.1) ts=t at x;cases x with
  |dK h' r' =>
   rw[h] at h';cases h';injection ht with _ _ e
   subst e;rw[AB.BL r r']
  |dT h' r'=>rw[h] at h';cases h'
  |_=>cases ht
 |_,_,_,_,.dT (kvs:=kvs) (ts:=ts) h r,x=>by
  generalize ht:OT.B6 true (kvs.map λ kv=>D.tup (kv.1.map Eo)) ts=t at x;cases x with
  |dT h' r' =>
   rw[h] at h';cases h';injection ht with _ _ e
   subst e;rw[AB.BL r r']
  |dK h' r'=>rw[h] at h';cases h'
  |_=>cases ht
 |_,_,_,_,.ins (fs:=fs) (ts:=ts) (x:=y) n h r,x=>by
  generalize ht:OT.ins y (fs.map zR) ts=t at x;cases x with
  |ins n' h' r' =>
   rw[h] at h';cases h';injection ht with _ _ e
   subst e;rw[AB.BL r r']
  |_=>cases ht
theorem AB.BL {K:za}{H:Hp}{P P':Addr->Prop}:∀ {v:List V}{t:List OT}{fp ah:List Addr},AB K H P v t fp->AB K H P' v t ah->fp=ah
 |_,_,_,_,.nil,.nil=>rfl
 |_,_,_,_,.cons h r,.cons h' r'=>by rw[BC.BL h h',AB.BL r r']
end
mutual
theorem BC.has {K:za}{H:Hp}{P P0:Addr->Prop}(hs:∀a,P0 a->P a):∀ {v:V}{t:OT}{fp:List Addr},(∀a∈fp,¬ P0 a)->BC K H P v t fp->BB K (del H P0) v (er t)
 |_,_,_,_,.sh h=>by rw[er];exact h.mono (BH hs)
 |_,_,_,k,.lst h r=>by rw[er];exact .lst (.of (show del H P0 _=_ by rw[AA (k _ zd)];exact h)) (AB.has hs (λ a ha=>k a (zf _ ha)) r)
 |_,_,_,k,.tup h r=>by rw[er];exact .tup (BH hs _ _ h) (AB.has hs k r)
 |_,_,_,k,.dK h r=>by rw[er];exact .Ip (.inl (show del H P0 _=_ by rw[AA (k _ zd)];exact h)) (AB.has hs (λ a ha=>k a (zf _ ha)) r)
 |_,_,_,k,.dT h r=>by rw[er];exact .HL (.inl (show del H P0 _=_ by rw[AA (k _ zd)];exact h)) (AB.has hs (λ a ha=>k a (zf _ ha)) r)
 |_,_,_,k,.ins n h r=>by rw[er];exact .ins n (show del H P0 _=_ by rw[AA (k _ zd)];exact h) (AB.has hs (λ a ha=>k a (zf _ ha)) r)
theorem AB.has {K:za}{H:Hp}{P P0:Addr->Prop}(hs:∀a,P0 a->P a):∀ {v:List V}{t:List OT}{fp:List Addr},(∀a∈fp,¬ P0 a)->AB K H P v t fp->Ae K (del H P0) v (Pw t)
 |_,_,_,_,.nil=>by rw[Pw];exact .nil
 |_,_,_,k,.cons h r=>by rw[Pw];exact .cons (BC.has hs (λ a ha=>k a (zK _ ha)) h) (AB.has hs (λ a ha=>k a (zm _ ha)) r)
end
inductive DC (K:za) (H:Hp) (P:Addr->Prop):List Addr->List (List D)->Prop
 |nil:DC K H P [] []
 |cons {q:Addr} {xs:List V} {ds:List D} {ps:List Addr} {G4:List (List D)}:H q=some (.lst xs)->Ae K (del H P) xs ds->DC K H P ps G4->DC K H P (q::ps) (ds::G4)
def Cm (K:za)(H:Hp)(P:Addr->Prop):Cl->V->List Addr->Prop
 | .own ds,v,fp=>∃p xs,v=.ref p/\fp=[p]/\H p=some (.lst xs)/\Ae K (del H P) xs ds
 | .ow (.rows G4),v,fp=>∃p ps,v=.ref p/\fp=p::ps/\H p=some (.lst (ps.map V.ref))/\DC K H P ps G4
 | .ow (.Kr _ ds),v,fp=>∃p xs,v=.ref p/\fp=[p]/\H p=some (.lst xs)/\Ae K (del H P) xs ds
 | .ow (.tree _ t),v,fp=>BC K H P v t fp
 | .val _,_,_=>False
noncomputable def Fl:Cl->Bool
 | .val _=>false
 |_=>true
theorem DC.move {K:za}{H H':Hp}{P P':Addr->Prop}(sm:Ab (del H P) (del H' P')):∀ {ps:List Addr}{G4:List (List D)},(∀a∈ps,H' a=H a)->DC K H P ps G4->DC K H' P' ps G4
 |_,_,_,.nil=>.nil
 |_,_,k,.cons h r t=>.cons ((k _ zd).trans h) (r.mono sm) (DC.move sm (λ a ha=>k a (zf _ ha)) t)
theorem DC.at {K:za}{H:Hp}{P:Addr->Prop}:∀ {ps:List Addr}{G4:List (List D)},DC K H P ps G4->∀a∈ps,∃xs,H a=some (.lst xs)
 |_,_,.nil,a,h=>by cases h
 |_,_,.cons h r t,a,ha=>by
  rcases zp.mp ha with rfl|ha
  ·exact⟨_,h⟩
  ·exact t.at a ha
theorem Px:∀ {ps qs:List Addr},ps.map V.ref=qs.map V.ref->ps=qs
 |[],[],_=>rfl
 |[],_::_,h|_::_,[],h=>by cases h
 |p::ps,q::qs,h=>by
  rw[zg,zg] at h;injection h with h1 h2
  injection h1 with h1
  rw[h1,Px h2]
theorem Cm.move {K:za}{H H':Hp}{P P':Addr->Prop}(sm:Ab (del H P) (del H' P')){c:Cl}{v:V}{fp:List Addr}(k:∀a∈fp,H' a=H a)(h:Cm K H P c v fp):Cm K H' P' c v fp:=by
 cases c with
 |val d=>exact h
 |own ds =>
  obtain⟨p,xs,rfl,rfl,h1,h2⟩:=h;exact⟨p,xs,rfl,rfl,(k p zd).trans h1,h2.mono sm⟩
 |ow o =>
  cases o with
  |rows G4 =>
   obtain⟨p,ps,rfl,rfl,h1,h2⟩:=h;exact⟨p,ps,rfl,rfl,(k p zd).trans h1,h2.move sm λ a ha=>k a (zf _ ha)⟩
  |Kr p ds =>
   obtain⟨p,xs,rfl,rfl,h1,h2⟩:=h;exact⟨p,xs,rfl,rfl,(k p zd).trans h1,h2.mono sm⟩
  |tree p t=>exact BC.move sm k h
theorem Cm.at {K:za}{H:Hp}{P:Addr->Prop}{c:Cl}{v:V}{fp:List Addr}(h:Cm K H P c v fp):∀a∈fp,∃o,H a=some o:=by
 cases c with
 |val d=>exact h.elim
 |own ds =>
  obtain⟨p,xs,rfl,rfl,h1,h2⟩:=h;exact λ a ha=>⟨.lst xs,by rw[zu.mp ha];exact h1⟩
 |ow o =>
  cases o with
  |rows G4 =>
   obtain⟨p,ps,rfl,rfl,h1,h2⟩:=h;intro a ha;rcases zp.mp ha with rfl|ha
   ·exact⟨_,h1⟩
   ·obtain⟨xs,q⟩:=h2.at a ha;exact⟨_,q⟩
  |Kr p ds =>
   obtain⟨p,xs,rfl,rfl,h1,h2⟩:=h;exact λ a ha=>⟨.lst xs,by rw[zu.mp ha];exact h1⟩
  |tree p t =>
   intro a ha;obtain⟨o,q,_⟩:=BC.C4 h a ha;exact⟨o,q⟩
theorem Cm.same {K:za}{H H':Hp}{P:Addr->Prop}(e:Ab H H'){c:Cl}{v:V}{fp:List Addr}(h:Cm K H P c v fp):Cm K H' P c v fp:=
 h.move e.del λ a ha=>by obtain⟨xs,q⟩:=h.at a ha;rw[q];exact e _ _ q
theorem Cm.BL {K:za}{H:Hp}{P P':Addr->Prop}{c:Cl}{v:V}{fp ah:List Addr}(h:Cm K H P c v fp)(h':Cm K H P' c v ah):fp=ah:=by
 cases c with
 |val d=>exact h.elim
 |own ds =>
  obtain⟨p,xs,rfl,rfl,h1,h2⟩:=h;obtain⟨p',dr,e,rfl,cM,ik⟩:=h';cases e;rfl
 |ow o =>
  cases o with
  |rows G4 =>
   obtain⟨p,ps,rfl,rfl,h1,h2⟩:=h;obtain⟨p',sy,e,rfl,cM,ik⟩:=h';cases e;rw[h1] at cM;injection cM with e
   injection e with e
   rw[Px e]
  |Kr p ds =>
   obtain⟨p,xs,rfl,rfl,h1,h2⟩:=h;obtain⟨p',dr,e,rfl,cM,ik⟩:=h';cases e;rfl
  |tree p t=>exact BC.BL h h'
structure Ea where
 pr:Addr->Prop
 g:Nat->Addr
instance:CoeFun Ea (λ _=>Addr->Prop):=⟨Ea.pr⟩
instance:Coe Ea (Addr->Prop):=⟨Ea.pr⟩
noncomputable def N7:Cl->Option Nat
 | .ow (.Kr n _)=>some n
 | .ow (.tree (some n) _)=>some n
 |_=>none
structure Ai (K:za)(P0:Ea)(P:Addr->Prop)(H:Hp)(σ:St)(ρ:A9):Prop where
 sub:∀a,P0 a->P a
 C4:∀a,P a->Eb H a
 val:∀(i:Nat) d,ρ[i]?=some (some (.val d))->∃v,σ[i]?=some (some v)/\BB K (del H P) v d
 ows:∀(i:Nat) c,ρ[i]?=some (some c)->Fl c=true->∃v fp,σ[i]?=some (some v)/\Cm K H P c v fp/\(∀a∈fp,P a/\¬ P0 a)/\fp.Nodup
 apart:∀(i j:Nat) c c' v v' fp ah,ρ[i]?=some (some c)->ρ[j]?=some (some c')->σ[i]?=some (some v)->σ[j]?=some (some v')->Cm K H P c v fp->Cm K H P c' v' ah->i≠j->∀a∈fp,a∉ah
 len:σ.length=ρ.length
 pin:∀(i:Nat) c n,ρ[i]?=some (some c)->N7 c=some n->σ[i]?=some (some (.ref (P0.g n)))
theorem Ai.own {K:za}{P0:Ea}{P:Addr->Prop}{H:Hp}{σ:St}{ρ:A9}(E:Ai K P0 P H σ ρ)(i:Nat)(ds:List D)(h:ρ[i]?=some (some (.own ds))):
 ∃p xs,σ[i]?=some (some (.ref p))/\H p=some (.lst xs)/\P p/\¬ P0 p/\Ae K (del H P) xs ds:=by
 obtain⟨v,fp,h1,⟨p,xs,rfl,rfl,h2,h3⟩,h4,_⟩:=E.ows i _ h rfl;exact⟨p,xs,h1,h2,(h4 p zd).1,(h4 p zd).2,h3⟩
theorem Ai.VR {K:za}{P0:Ea}{P P':Addr->Prop}{H H':Hp}{σ:St}{ρ:A9}(E:Ai K P0 P H σ ρ)(sm:Ab (del H P) (del H' P')){i j:Nat}{c c':Cl}{v v':V}{fp ah:List Addr}
 (ki:∀v fp,σ[i]?=some (some v)->Cm K H P c v fp->∀a∈fp,H' a=H a) (kj:∀v fp,σ[j]?=some (some v)->Cm K H P c' v fp->∀a∈fp,H' a=H a)
 (hi:ρ[i]?=some (some c)) (hj:ρ[j]?=some (some c')) (si:σ[i]?=some (some v)) (sj:σ[j]?=some (some v')) (h:Cm K H' P' c v fp) (h':Cm K H' P' c' v' ah) (ad:i≠j):∀a∈fp,a∉ah:=by
 have key:∀(k:Nat) (d:Cl) (w:V) (fq:List Addr),ρ[k]?=some (some d)->σ[k]?=some (some w)->(∀v fp,σ[k]?=some (some v)->Cm K H P d v fp->∀a∈fp,H' a=H a)->Cm K H' P' d w fq->Cm K H P d w fq:=λ k d w fq hk sk kk ho=>by
  have io:Fl d=true:=by cases d<;>first|rfl|exact ho.elim
  obtain⟨w',bP,s2,o2,_⟩:=E.ows k d hk io;rw[sk] at s2;cases s2;have o3:=o2.move sm (kk _ _ sk o2);rw[ho.BL o3];exact o2
 exact E.apart i j c c' v v' fp ah hi hj si sj (key i c v fp hi si ki h) (key j c' v' ah hj sj kj h') ad
theorem Ai.same {K:za}{P0:Ea}{P:Addr->Prop}{H H':Hp}{σ:St}{ρ:A9}(E:Ai K P0 P H σ ρ)(e:Ab H H'):Ai K P0 P H' σ ρ:=
 ⟨E.sub,λ a h=>(E.C4 a h).same e,λ i d h=>let ⟨v,h1,h2⟩:=E.val i d h;⟨v,h1,h2.mono e.del⟩,
  λ i c h io=>let ⟨v,fp,h1,h2,h3,h4⟩:=E.ows i c h io;⟨v,fp,h1,h2.same e,h3,h4⟩,
  λ i j c c' v v' fp ah hi hj si sj h h' ad=>E.VR e.del (λ v fp _ o a ha=>by obtain⟨xs,q⟩:=o.at a ha;rw[q];exact e _ _ q) (λ v fp _ o a ha=>by obtain⟨xs,q⟩:=o.at a ha;rw[q];exact e _ _ q) hi hj si sj h h' ad,E.len,E.pin⟩
def gV (K:za)(WX:Str->Hp->Prop)(P:Addr->Prop)(H:Hp)(Q:VK):M D->Prop
 | .ok d=>∀v H',Ab H H'->BB K (del H' P) v d->Q v H'
 | .ex x=>∀H',Ab H H'->WX x H'
 | .bad=>False
def gA (K:za)(WX:Str->Hp->Prop)(P:Addr->Prop)(H:Hp)(Q:List V->Hp->Prop):M (List D)->Prop
 | .ok d=>∀v H',Ab H H'->Ae K (del H' P) v d->Q v H'
 | .ex x=>∀H',Ab H H'->WX x H'
 | .bad=>False
def gT (WX:Str->Hp->Prop)(H:Hp)(Q:Bool->Hp->Prop):M Bool->Prop
 | .ok b=>∀H',Ab H H'->Q b H'
 | .ex x=>∀H',Ab H H'->WX x H'
 | .bad=>False
section
variable {K:za}{WX:Str->Hp->Prop}{P:Addr->Prop}{H H':Hp}
theorem gV.same {Q:VK}{m:M D}(h:gV K WX P H Q m)(e:Ab H H'):gV K WX P H' Q m:=by
 cases m with
 |ok d=>exact λ v H2 q hv=>h v H2 (e.trans q) hv
 |ex x=>exact λ H2 q=>h H2 (e.trans q)
 |bad=>exact h
theorem gA.same {Q:List V->Hp->Prop}{m:M (List D)}(h:gA K WX P H Q m)(e:Ab H H'):gA K WX P H' Q m:=by
 cases m with
 |ok d=>exact λ v H2 q hv=>h v H2 (e.trans q) hv
 |ex x=>exact λ H2 q=>h H2 (e.trans q)
 |bad=>exact h
theorem gT.same {Q:Bool->Hp->Prop}{m:M Bool}(h:gT WX H Q m)(e:Ab H H'):gT WX H' Q m:=by
 cases m with
 |ok d|ex x=>exact λ H2 q=>h H2 (e.trans q)
 |bad=>exact h
end
def Lv (c:Bool)(P0:Ea)(P:Addr->Prop):Addr->Prop:=if c=true then P else P0.pr
def DE (X:Cx)(WX:Str->Hp->Prop)(c:Bool)(e:Expr)(f:A9->M D):Prop:=
 ∃t,PE X e t/\∀P0 P σ H Q ρ,Ai X.K P0 P H σ ρ->gV X.K WX (Lv c P0 P) H Q (f ρ)->t σ H Q
def DA (X:Cx)(WX:Str->Hp->Prop)(c:Bool)(es:List Expr)(f:A9->M (List D)):Prop:=
 ∃t,PA X es t/\(∀P0 P σ H Q ρ,Ai X.K P0 P H σ ρ->gA X.K WX (Lv c P0 P) H Q (f ρ)->t σ H Q)/\∀ρ ds,f ρ=.ok ds->ds.length=es.length
def DT (X:Cx)(WX:Str->Hp->Prop)(e:Expr)(f:A9->M Bool):Prop:=
 ∃t,PT X e t/\∀P0 P σ H Q ρ,Ai X.K P0 P H σ ρ->gT WX H Q (f ρ)->t σ H Q
def DW (X:Cx)(WX:Str->Hp->Prop)(e:Expr)(f:A9->M Bool):Prop:=
 ∃t,PW X e t/\∀P0 P σ H Q ρ,Ai X.K P0 P H σ ρ->gT WX H Q (f ρ)->t σ H Q
theorem DW.dt {X:Cx}{WX:Str->Hp->Prop}{e:Expr}{f:A9->M Bool}(h:DW X WX e f):DT X WX e f:=let ⟨t,h1,h2⟩:=h;⟨t,h1.pt,h2⟩
section
variable {X:Cx}{WX:Str->Hp->Prop}{c:Bool}{P0:Ea}{P:Addr->Prop}{H:Hp}{σ:St}{ρ:A9}
theorem Ai.lv (E:Ai X.K P0 P H σ ρ)(c:Bool):∀a,Lv c P0 P a->P a:=λ a h=>by
 cases c with
 |true=>exact h
 |false=>exact E.sub a h
theorem Ai.kN (E:Ai X.K P0 P H σ ρ)(c:Bool):∀a,Lv c P0 P a->Eb H a:=λ a h=>E.C4 a (E.lv c a h)
theorem Rm {e:Expr}{f:A9->M D}(h:DE X WX true e f):DE X WX false e f:=by
 obtain⟨t,h1,h2⟩:=h;refine⟨t,h1,λ P0 P σ H Q ρ E g=>h2 P0 P σ H Q ρ E ?_⟩;cases e:f ρ with
 |ok d=>rw[e] at g;exact λ v H' s hv=>g v H' s (hv.mono (BH E.sub))
 |ex x|bad=>rw[e] at g;exact g
noncomputable def kO:D->Bool
 | .tup _ | .lst _ | .D9 _ | .B6 _ _ _ | .ins _ _ _=>false
 |_=>true
noncomputable def fl (m:M D):M D:=m.bind λ d=>if kO d=true then .ok d else .bad
noncomputable def rv (i:Nat)(ρ:A9):M D:=match ρ[i]? with | some (some (.val d))=>.ok d | _=>.bad
noncomputable def ra (i:Nat)(ρ:A9):M D:=match ρ[i]? with | some (some (.val d))=>.ok d | some (some (.own ds))=>.ok (.lst ds) | some (some (.ow (.rows G4)))=>.ok (.lst (G4.map D.lst)) | some (some (.ow (.Kr _ ds)))=>.ok (.lst ds) | some (some (.ow (.tree _ t)))=>.ok (er t) | _=>.bad
theorem A1 (i:Nat){x:Str}{pos:Pos}(h:PE X (.Name x pos) (Pb i)):DE X WX true (.Name x pos) (rv i):=by
 refine⟨_,h,λ P0 P σ H Q ρ E g=>?_⟩;unfold rv at g;split at g
 ·rename_i d e;obtain⟨v,h1,h2⟩:=E.val i d e;exact⟨v,h1,g v H (Ab.refl H) h2⟩
 ·exact g.elim
theorem A5 {i j pos}:DE X WX c (.Constant (.int i) j pos) (λ _=>.ok (.int i)):=⟨_,cZ,λ P0 P σ H Q ρ E g=>g _ H (Ab.refl H) (.int i)⟩
theorem BK {b j pos}:DE X WX c (.Constant (.bool b) j pos) (λ _=>.ok (.bl b)):=⟨_,jB,λ P0 P σ H Q ρ E g=>g _ H (Ab.refl H) (.bl b)⟩
theorem Gf {j pos}:DE X WX c (.Constant .none j pos) (λ _=>.ok .AD):=⟨_,dA,λ P0 P σ H Q ρ E g=>g _ H (Ab.refl H) .AD⟩
theorem Ro {x j pos}:DE X WX c (.Constant (.str x) j pos) (λ _=>.ok (.str x)):=⟨_,dB,λ P0 P σ H Q ρ E g=>g _ H (Ab.refl H) (.str x)⟩
def Sv (K:za)(WX:Str->Hp->Prop)(r:R2)(bn:D->D->M D):Prop:=
 ∀(P:Addr->Prop) (H:Hp) (x y:D) (v w:V) (Q:VK),(∀a,P a->Eb H a)->BB K (del H P) v x->BB K (del H P) w y->gV K WX P H Q (bn x y)->r v w H Q
variable {a b:Expr}{f g:A9->M D}{pos:Pos}
theorem N8 {ta tb:TE}{r:R2}{bn:D->D->M D}(ha:∀P0 P σ H Q ρ,Ai X.K P0 P H σ ρ->gV X.K WX (Lv c P0 P) H Q (f ρ)->ta σ H Q)(hb:∀P0 P σ H Q ρ,Ai X.K P0 P H σ ρ->gV X.K WX (Lv c P0 P) H Q (g ρ)->tb σ H Q)
 (hr:Sv X.K WX r bn) {Q:VK} (E:Ai X.K P0 P H σ ρ) (h:gV X.K WX (Lv c P0 P) H Q ((f ρ).bind λ x=>(g ρ).bind λ y=>bn x y)):jP r ta tb σ H Q:=by
 refine ha P0 P σ H _ ρ E ?_;cases e:f ρ with
 |bad|ex x=>rw[e] at h;exact h
 |ok x =>
  rw[e] at h;intro v H1 s1 hv;refine hb P0 P σ H1 _ ρ (E.same s1) ?_;cases e2:g ρ with
  |bad=>rw[e2] at h;exact h
  |ex y=>rw[e2] at h;exact gV.same (m:=.ex y) h s1
  |ok y =>
   rw[e2] at h;intro w H2 s2 hw;exact hr _ H2 x y v w Q (λ a q=>((E.same s1).same s2).kN c a q) (hv.mono s2.del) hw ((gV.same h s1).same s2)
theorem N9 {op:Operator}{r:R2}{bn:D->D->M D}(ho:GR X (binaryOp op) r)(hr:Sv X.K WX r bn)(ha:DE X WX c a f)(hb:DE X WX c b g):DE X WX c (.BinOp a op b pos) (λ ρ=>(f ρ).bind λ x=>(g ρ).bind λ y=>bn x y):=by
 obtain⟨ta,a1,a2⟩:=ha;obtain⟨tb,b1,b2⟩:=hb;exact⟨_,Zy ho a1 b1,λ P0 P σ H Q ρ E h=>N8 a2 b2 hr E h⟩
theorem VS {op:CmpOp}{r:R2}{bn:D->D->M D}(ho:GR X (compareOp op) r)(hr:Sv X.K WX r bn)(ha:DE X WX c a f)(hb:DE X WX c b g)(hm:behindInMarks op b=false):DE X WX c (.Compare a [op] [b] pos) (λ ρ=>(f ρ).bind λ x=>(g ρ).bind λ y=>bn x y):=by
 obtain⟨ta,a1,a2⟩:=ha;obtain⟨tb,b1,b2⟩:=hb;exact⟨_,XR ho a1 b1 hm,λ P0 P σ H Q ρ E h=>N8 a2 b2 hr E h⟩
theorem kP {r:R2}{bn:D->D->M D}(ho:Y1 X r)(hr:Sv X.K WX r bn)(ha:DE X WX c a f)(hb:DE X WX c b g)(hs:O1 b):DE X WX c (.Subscript a b pos) (λ ρ=>(f ρ).bind λ x=>(g ρ).bind λ y=>bn x y):=by
 obtain⟨ta,a1,a2⟩:=ha;obtain⟨tb,b1,b2⟩:=hb;exact⟨_,kD ho a1 b1 hs,λ P0 P σ H Q ρ E h=>N8 a2 b2 hr E h⟩
noncomputable def B9 (k:Int->Int->M D)(x y:D):M D:=match x,y with | .int i,.int j=>k i j | _,_=>.bad
theorem BB.int_inv {K:za}{H:Hp}{v:V}{i:Int}(h:BB K H v (.int i)):v=.int i:=by cases h;rfl
theorem BB.Jo {K:za}{H:Hp}{v:V}{i:Bool}(h:BB K H v (.bl i)):v=.bl i:=by cases h;rfl
theorem O9 {C:Int->Int->Prop}{gv:Int->Int->V}{gd:Int->Int->D}[∀i j,Decidable (C i j)](hg:∀i j K H,BB K H (gv i j) (gd i j)):Sv X.K WX (rI C gv) (B9 λ i j=>if C i j then .ok (gd i j) else .bad):=by
 intro P H x y v w Q ht hx hy h;unfold B9 at h;split at h
 ·rename_i i j;rw[hx.int_inv,hy.int_inv];dsimp only at h;by_cases hc:C i j
  ·rw[if_pos hc] at h;exact⟨i,j,rfl,rfl,hc,h _ H (Ab.refl H) (hg i j _ _)⟩
  ·rw[if_neg hc] at h;exact h.elim
 ·exact h.elim
theorem Oa {gv:Int->Int->V}{gd:Int->Int->D}(hg:∀i j K H,BB K H (gv i j) (gd i j)):Sv X.K WX (Xx gv) (B9 λ i j=>.ok (gd i j)):=by
 intro P H x y v w Q ht hx hy h;unfold B9 at h;split at h
 ·rename_i i j;rw[hx.int_inv,hy.int_inv];exact⟨i,j,rfl,rfl,h _ H (Ab.refl H) (hg i j _ _)⟩
 ·exact h.elim
instance (i j:Int):Decidable (Pe i j):=by unfold Pe;infer_instance
instance (i j:Int):Decidable (XO i j):=by unfold XO;infer_instance
instance (i j:Int):Decidable (Vu i j):=by unfold Vu;infer_instance
noncomputable def VT:=B9 λ i j=>.ok (.int (i+j))
noncomputable def eU:=B9 λ i j=>.ok (.int (i-j))
noncomputable def HM:=B9 λ i j=>if 0<j then .ok (.int (i%j)) else .bad
noncomputable def Na:=B9 λ i j=>if Pe i j then .ok (.int (i / j)) else .bad
noncomputable def Py:=B9 λ i j=>if XO i j then .ok (.int (i^j.toNat)) else .bad
noncomputable def sD:=B9 λ i j=>.ok (.bl (decide (i<j)))
noncomputable def sE:=B9 λ i j=>.ok (.bl (decide (i<=j)))
noncomputable def qK:=B9 λ i j=>.ok (.bl (decide (j<i)))
noncomputable def sF:=B9 λ i j=>.ok (.bl (decide (j<=i)))
theorem Cu (ha:DE X WX c a f)(hb:DE X WX c b g):DE X WX c (.BinOp a .Add b pos) (λ ρ=>(f ρ).bind λ x=>(g ρ).bind λ y=>VT x y):=N9 dS (Oa λ _ _ _ _=>.int _) ha hb
theorem eV (ha:DE X WX c a f)(hb:DE X WX c b g):DE X WX c (.BinOp a .Sub b pos) (λ ρ=>(f ρ).bind λ x=>(g ρ).bind λ y=>eU x y):=N9 dU (Oa λ _ _ _ _=>.int _) ha hb
theorem BM (ha:DE X WX c a f)(hb:DE X WX c b g):DE X WX c (.BinOp a .Mod b pos) (λ ρ=>(f ρ).bind λ x=>(g ρ).bind λ y=>HM x y):=N9 dW (O9 λ _ _ _ _=>.int _) ha hb
theorem KA (ha:DE X WX c a f)(hb:DE X WX c b g):DE X WX c (.BinOp a .FloorDiv b pos) (λ ρ=>(f ρ).bind λ x=>(g ρ).bind λ y=>Na x y):=N9 XQ (O9 λ _ _ _ _=>.int _) ha hb
theorem Ob (ha:DE X WX c a f)(hb:DE X WX c b g):DE X WX c (.BinOp a .Pow b pos) (λ ρ=>(f ρ).bind λ x=>(g ρ).bind λ y=>Py x y):=N9 dX (O9 λ _ _ _ _=>.int _) ha hb
noncomputable def Xz (n:Nat)(x y:D):M D:=if Iq x<=n/\Az x=true/\Az y=true then .ok (.bl (Ap x y)) else .bad
noncomputable def Yp (n:Nat)(x y:D):M D:=if Iq x<=n/\Az x=true/\Az y=true then .ok (.bl (!Ap x y)) else .bad
theorem VU {n:Nat}(hu:X.A.units+n<cLine):Sv X.K WX (Yo X.K X.A false) (Xz n):=by
 intro P H x y v w Q ht hx hy h;unfold Xz at h;by_cases hd:Iq x<=n/\Az x=true/\Az y=true
 ·rw[if_pos hd] at h;exact⟨x,y,hx.mono DB,hy.mono DB,by omega,hd.2.1,hd.2.2,h _ H (Ab.refl H) (.bl _)⟩
 ·rw[if_neg hd] at h;exact h.elim
theorem eW {n:Nat}(hu:X.A.units+n<cLine):Sv X.K WX (Yo X.K X.A true) (Yp n):=by
 intro P H x y v w Q ht hx hy h;unfold Yp at h;by_cases hd:Iq x<=n/\Az x=true/\Az y=true
 ·rw[if_pos hd] at h;exact⟨x,y,hx.mono DB,hy.mono DB,by omega,hd.2.1,hd.2.2,h _ H (Ab.refl H) (.bl _)⟩
 ·rw[if_neg hd] at h;exact h.elim
theorem ZD {n:Nat}(hu:X.A.units+n<cLine)(ha:DE X WX c a f)(hb:DE X WX c b g):DE X WX c (.Compare a [.Eq] [b] pos) (λ ρ=>(f ρ).bind λ x=>(g ρ).bind λ y=>Xz n x y):=VS VQ (VU hu) ha hb (Jh _)
noncomputable def BN:D->Bool
 | .AD=>true
 |_=>false
theorem BB.oH {K:za}{H:Hp}{v:V}{d:D}(h:BB K H v d):decide (v=.AD)=BN d:=by
 cases h<;>simp[BN]
theorem eX {j pos'}(ha:DE X WX c a f):DE X WX c (.Compare a [.Is] [.Constant .none j pos'] pos) (λ ρ=>(f ρ).bind λ x=>.ok (.bl (BN x))):=by
 obtain⟨ta,a1,a2⟩:=ha;refine⟨_,dC (Vl a1),λ P0 P σ H Q ρ E h=>?_⟩;dsimp only at h;refine a2 P0 P σ H _ ρ E ?_;cases e:f ρ with
 |bad|ex x=>rw[e] at h;exact h
 |ok x=>rw[e] at h;exact λ v H1 s1 hv=>h _ H1 s1 (by rw[hv.oH];exact .bl _)
noncomputable def iM (x y:D):M D:=match x,y with
 | .tup ds,.int i| .lst ds,.int i=>(match Sl ds i with|some d=>.ok d|none=>.bad)
 |_,_=>.bad
theorem Ae.Sl {K:za}{H:Hp}{xs:List V}{ds:List D}{i:Int}{d:D}(h:Ae K H xs ds)(e:L2.Sl ds i=some d):∃v,L2.Sl xs i=some v/\BB K H v d:=by
 unfold L2.Sl at e ⊢;rw[<-h.length] at e;cases q:Xy xs.length i with
 |none=>rw[q] at e;cases e
 |some j =>
  rw[q] at e;exact h.get e
theorem D8.Bj {K:za}{H:Hp}{P:Addr->Prop}{a:Addr}{xs:List V}(h:D8 K (del H P) a xs):D8 K H a xs:=DB.seq h
theorem El.Bj {K:za}{H:Hp}{P:Addr->Prop}{a:Addr}{xs:List V}(h:El K (del H P) a xs):El K H a xs:=DB.oF h
theorem Gg:Sv X.K WX (λ x y H Q=>eI X.K x y H Q\/eJ X.K x y H Q) iM:=by
 intro P H x y v w Q ht hx hy h;unfold iM at h;split at h
 ·rename_i ds i;split at h
  ·rename_i d e;cases hy;cases hx with
   |tup hs hl =>
    obtain⟨u,h1,h2⟩:=hl.Sl e;exact .inr ⟨_,_,i,u,rfl,rfl,El.of (Am hs).2,h1,h _ H (Ab.refl H) h2⟩
  ·exact h.elim
 ·rename_i ds i;split at h
  ·rename_i d e;cases hy;cases hx with
   |lst hs hl =>
    obtain⟨u,h1,h2⟩:=hl.Sl e;exact .inl ⟨_,_,i,u,rfl,rfl,hs.Bj,h1,h _ H (Ab.refl H) h2⟩
  ·exact h.elim
 ·exact h.elim
theorem A8:DA X WX c [] (λ _=>.ok []):=⟨_,Cs,λ P0 P σ H Q ρ E h=>h [] H (Ab.refl H) .nil,λ ρ ds h=>by cases h;rfl⟩
theorem A2 {e:Expr}{es:List Expr}{f:A9->M D}{fs:A9->M (List D)}(he:DE X WX c e f)(hr:DA X WX c es fs)(hs:starEach (e::es) X.env=(false,eval e X.env)::starEach es X.env:=by rfl):
 DA X WX c (e::es) (λ ρ=>(f ρ).bind λ d=>(fs ρ).bind λ ds=>.ok (d::ds)):=by
 obtain⟨te,e1,e2⟩:=he;obtain⟨tr,r1,r2,r3⟩:=hr;refine⟨_,Bl e1 r1 hs,λ P0 P σ H Q ρ E h=>?_,λ ρ ds h=>?_⟩
 rotate_left
 ·dsimp only at h;cases q:f ρ with
  |bad|ex x=>rw[q] at h;cases h
  |ok x =>
   rw[q] at h;cases q2:fs ρ with
   |bad|ex x=>rw[q2] at h;cases h
   |ok xs =>
    rw[q2] at h;cases h;rw[zo,zo,r3 ρ xs q2]
 dsimp only at h;refine e2 P0 P σ H _ ρ E ?_;cases q:f ρ with
 |bad|ex x=>rw[q] at h;exact h
 |ok x =>
  rw[q] at h;intro v H1 s1 hv;refine r2 P0 P σ H1 _ ρ (E.same s1) ?_;cases q2:fs ρ with
  |bad=>rw[q2] at h;exact h
  |ex y=>rw[q2] at h;exact gA.same (m:=.ex y) h s1
  |ok ds =>
   rw[q2] at h;exact λ vs H2 s2 aM=>h _ H2 (s1.trans s2) (.cons (hv.mono s2.del) aM)
theorem GV {H:Hp}{P:Addr->Prop}{p:Addr}{o:HO}(hn:H p=none)(ht:∀a,P a->Eb H a):del (upd H p o) P p=some o:=by
 rw[AA λ z=>(ht p z).no hn];exact Ax
theorem AS {es:List Expr}{fs:A9->M (List D)}{x1}(ha:DA X WX c es fs)(hz:es.length<=1000:=by decide):DE X WX c (.Tuple es x1 pos) (λ ρ=>(fs ρ).bind λ ds=>if ds.length<=1000 then .ok (.tup ds) else .bad):=by
 obtain⟨ta,a1,a2,a3⟩:=ha;refine⟨_,Vz a1,λ P0 P σ H Q ρ E h=>?_⟩;dsimp only at h;refine a2 P0 P σ H _ ρ E ?_;cases q:fs ρ with
 |bad|ex y=>rw[q] at h;exact h
 |ok ds =>
  rw[q] at h;simp only[M.A6] at h;by_cases hd:ds.length<=1000
  ·rw[if_pos hd] at h;intro vs H1 s1 aM;refine⟨yj (AF (by rw[aM.length];exact hd)),λ p hp=>h _ _ (s1.trans (AG hp _)) (.tup (GV hp λ a q=>(E.same s1).kN c a q) (aM.mono (AG hp _).del))⟩
  ·rw[if_neg hd] at h;exact h.elim
theorem Oc {es:List Expr}{fs:A9->M (List D)}(ha:DA X WX c es fs):DE X WX c (.List es pos) (λ ρ=>(fs ρ).bind λ ds=>if ds.length<=1000 then .ok (.lst ds) else .bad):=by
 obtain⟨ta,a1,a2,a3⟩:=ha;refine⟨_,R9 a1,λ P0 P σ H Q ρ E h=>?_⟩;dsimp only at h;refine a2 P0 P σ H _ ρ E ?_;cases q:fs ρ with
 |bad|ex y=>rw[q] at h;exact h
 |ok ds =>
  rw[q] at h;simp only[M.A6] at h;by_cases hd:ds.length<=1000
  ·rw[if_pos hd] at h;intro vs H1 s1 aM;refine⟨yj (AF (by rw[aM.length];exact hd)),λ p hp=>h _ _ (s1.trans (AG hp _)) (.lst (.of (GV hp λ a q=>(E.same s1).kN c a q)) (aM.mono (AG hp _).del))⟩
  ·rw[if_neg hd] at h;exact h.elim
end
noncomputable def MH (d:D):M Bool:=match d with | .bl b=>.ok b | _=>.bad
section
variable {X:Cx}{WX:Str->Hp->Prop}{c:Bool}{P0:Ea}{P:Addr->Prop}{H:Hp}{σ:St}{ρ:A9}{a b e:Expr}{f g:A9->M D}{ft gt:A9->M Bool}{pos:Pos}
theorem kQ {WX:Str->Hp->Prop}{P:Addr->Prop}{K:za}{H:Hp}{Q:Bool->Hp->Prop}{m:M D}(h:gT WX H Q (m.bind MH)):gV K WX P H (λ x H'=>∃k,x=.bl k/\Q k H') m:=by
 cases m with
 |bad|ex x=>exact h
 |ok d =>
  intro v H' s hv;simp only[M.A6] at h;unfold MH at h;split at h
  ·rename_i b;exact⟨b,hv.Jo,h H' s⟩
  ·exact h.elim
theorem GW {op:CmpOp}{r:R2}{bn:D->D->M D}(ho:GR X (compareOp op) r)(hr:Sv X.K WX r bn)(ha:DE X WX c a f)(hb:DE X WX c b g)(hm:behindInMarks op b=false):DT X WX (.Compare a [op] [b] pos) (λ ρ=>((f ρ).bind λ x=>(g ρ).bind λ y=>bn x y).bind MH):=by
 obtain⟨ta,a1,a2⟩:=ha;obtain⟨tb,b1,b2⟩:=hb;exact⟨_,XS ho a1 b1 hm,λ P0 P σ H Q ρ E h=>N8 a2 b2 hr E (kQ h)⟩
theorem ZE (ha:DE X WX c a f)(hb:DE X WX c b g):DT X WX (.Compare a [.Gt] [b] pos) (λ ρ=>((f ρ).bind λ x=>(g ρ).bind λ y=>qK x y).bind MH):=GW jU (Oa λ _ _ _ _=>.bl _) ha hb (Jh _)
theorem K4 {n:Nat}(hu:X.A.units+n<cLine)(ha:DE X WX c a f)(hb:DE X WX c b g):DT X WX (.Compare a [.Eq] [b] pos) (λ ρ=>((f ρ).bind λ x=>(g ρ).bind λ y=>Xz n x y).bind MH):=GW VQ (VU hu) ha hb (Jh _)
theorem K5 {n:Nat}(hu:X.A.units+n<cLine)(ha:DE X WX c a f)(hb:DE X WX c b g):DT X WX (.Compare a [.NotEq] [b] pos) (λ ρ=>((f ρ).bind λ x=>(g ρ).bind λ y=>Yp n x y).bind MH):=GW eT (eW hu) ha hb (Jh _)
theorem Od {j pos'}(ha:DE X WX c a f):DT X WX (.Compare a [.Is] [.Constant .none j pos'] pos) (λ ρ=>(f ρ).bind λ x=>.ok (BN x)):=by
 obtain⟨ta,a1,a2⟩:=ha;refine⟨_,Vm (Vl a1),λ P0 P σ H Q ρ E h=>?_⟩;dsimp only at h;refine a2 P0 P σ H _ ρ E ?_;cases e:f ρ with
 |bad|ex x=>rw[e] at h;exact h
 |ok x=>rw[e] at h;exact λ v H1 s1 hv=>⟨_,rfl,by rw[hv.oH];exact h H1 s1⟩
theorem KC {j pos'}(ha:DE X WX c a f):DT X WX (.Compare a [.IsNot] [.Constant .none j pos'] pos) (λ ρ=>(f ρ).bind λ x=>.ok (!BN x)):=by
 obtain⟨ta,a1,a2⟩:=ha;refine⟨_,Vm (XH a1),λ P0 P σ H Q ρ E h=>?_⟩;dsimp only at h;refine a2 P0 P σ H _ ρ E ?_;cases e:f ρ with
 |bad|ex x=>rw[e] at h;exact h
 |ok x=>rw[e] at h;exact λ v H1 s1 hv=>⟨_,rfl,by rw[hv.oH];exact h H1 s1⟩
theorem BO (ha:DT X WX a ft):DT X WX (.UnaryOp .Not a pos) (λ ρ=>(ft ρ).bind λ b=>.ok (!b)):=by
 obtain⟨ta,a1,a2⟩:=ha;refine⟨_,dD a1,λ P0 P σ H Q ρ E h=>?_⟩;dsimp only at h;refine a2 P0 P σ H _ ρ E ?_;cases e:ft ρ with
 |bad|ex x=>rw[e] at h;exact h
 |ok x=>rw[e] at h;exact λ H1 s1=>h H1 s1
theorem KD (ha:DT X WX a ft):DW X WX (.BoolOp .And [a] pos) ft:=let ⟨ta,a1,a2⟩:=ha;⟨_,pw_and1 a1,a2⟩
theorem Ca (ha:DT X WX a ft):DW X WX (.BoolOp .Or [a] pos) ft:=let ⟨ta,a1,a2⟩:=ha;⟨_,pw_or1 a1,a2⟩
theorem Lg {rest:List Expr}(ha:DT X WX a ft)(hb:DW X WX (.BoolOp .And (b::rest) pos) gt):DW X WX (.BoolOp .And (a::b::rest) pos) (λ ρ=>(ft ρ).bind λ k=>if k=true then gt ρ else .ok false):=by
 obtain⟨ta,a1,a2⟩:=ha;obtain⟨tb,b1,b2⟩:=hb;refine⟨_,pw_and a1 b1,λ P0 P σ H Q ρ E h=>?_⟩;dsimp only at h;refine a2 P0 P σ H _ ρ E ?_;cases e:ft ρ with
 |bad|ex x=>rw[e] at h;exact h
 |ok k =>
  rw[e] at h;intro H1 s1;cases k with
  |true =>
   simp only[M.A6,if_true] at h ⊢;exact b2 P0 P σ H1 _ ρ (E.same s1) (h.same s1)
  |false =>
   simp only[M.A6,zy,if_false] at h ⊢;exact h H1 s1
theorem D4 {rest:List Expr}(ha:DT X WX a ft)(hb:DW X WX (.BoolOp .Or (b::rest) pos) gt):DW X WX (.BoolOp .Or (a::b::rest) pos) (λ ρ=>(ft ρ).bind λ k=>if k=true then .ok true else gt ρ):=by
 obtain⟨ta,a1,a2⟩:=ha;obtain⟨tb,b1,b2⟩:=hb;refine⟨_,pw_or a1 b1,λ P0 P σ H Q ρ E h=>?_⟩;dsimp only at h;refine a2 P0 P σ H _ ρ E ?_;cases e:ft ρ with
 |bad|ex x=>rw[e] at h;exact h
 |ok k =>
  rw[e] at h;intro H1 s1;cases k with
  |true =>
   simp only[M.A6,if_true] at h ⊢;exact h H1 s1
  |false =>
   simp only[M.A6,zy,if_false] at h ⊢;exact b2 P0 P σ H1 _ ρ (E.same s1) (h.same s1)
theorem Oe {op}(ha:DE X WX c a f):DE X WX c (.BoolOp op [a] pos) f:=let ⟨ta,a1,a2⟩:=ha;⟨_,Vn a1,a2⟩
theorem Of {rest:List Expr}(ha:DE X WX c a f)(hb:DE X WX c (.BoolOp .And (b::rest) pos) g):DE X WX c (.BoolOp .And (a::b::rest) pos) (λ ρ=>((f ρ).bind MH).bind λ k=>if k=true then g ρ else .ok (.bl false)):=by
 obtain⟨ta,a1,a2⟩:=ha;obtain⟨tb,b1,b2⟩:=hb;refine⟨_,dE a1 b1,λ P0 P σ H Q ρ E h=>?_⟩;dsimp only at h;refine a2 P0 P σ H _ ρ E ?_;cases e:f ρ with
 |bad|ex x=>rw[e] at h;exact h
 |ok d =>
  rw[e] at h;simp only[M.A6] at h;unfold MH at h;split at h
  ·rename_i k;intro v H1 s1 hv;refine⟨k,hv.Jo,?_⟩;cases k with
   |true =>
    simp only[M.A6,if_true] at h ⊢;exact b2 P0 P σ H1 _ ρ (E.same s1) (h.same s1)
   |false =>
    simp only[M.A6,zy,if_false] at h ⊢;exact h _ H1 s1 (.bl _)
  ·exact h.elim
theorem kR {rest:List Expr}(ha:DE X WX c a f)(hb:DE X WX c (.BoolOp .Or (b::rest) pos) g):DE X WX c (.BoolOp .Or (a::b::rest) pos) (λ ρ=>((f ρ).bind MH).bind λ k=>if k=true then .ok (.bl true) else g ρ):=by
 obtain⟨ta,a1,a2⟩:=ha;obtain⟨tb,b1,b2⟩:=hb;refine⟨_,Zv a1 b1,λ P0 P σ H Q ρ E h=>?_⟩;dsimp only at h;refine a2 P0 P σ H _ ρ E ?_;cases e:f ρ with
 |bad|ex x=>rw[e] at h;exact h
 |ok d =>
  rw[e] at h;simp only[M.A6] at h;unfold MH at h;split at h
  ·rename_i k;intro v H1 s1 hv;refine⟨k,hv.Jo,?_⟩;cases k with
   |true =>
    simp only[M.A6,if_true] at h ⊢;exact h _ H1 s1 (.bl _)
   |false =>
    simp only[M.A6,zy,if_false] at h ⊢;exact b2 P0 P σ H1 _ ρ (E.same s1) (h.same s1)
  ·exact h.elim
theorem VW (ha:DE X WX c a f):DE X WX c (.UnaryOp .Not a pos) (λ ρ=>((f ρ).bind MH).bind λ k=>.ok (.bl (!k))):=by
 obtain⟨ta,a1,a2⟩:=ha;refine⟨_,dG a1,λ P0 P σ H Q ρ E h=>?_⟩;dsimp only at h;refine a2 P0 P σ H _ ρ E ?_;cases e:f ρ with
 |bad|ex x=>rw[e] at h;exact h
 |ok d =>
  rw[e] at h;simp only[M.A6] at h;unfold MH at h;split at h
  ·rename_i k;exact λ v H1 s1 hv=>⟨k,hv.Jo,h _ H1 s1 (.bl _)⟩
  ·exact h.elim
theorem eY (ha:DE X WX c a f):DE X WX c (.UnaryOp .USub a pos) (λ ρ=>(f ρ).bind λ d=>match d with | .int i=>.ok (.int (-i)) | _=>.bad):=by
 obtain⟨ta,a1,a2⟩:=ha;refine⟨_,jQ dY a1,λ P0 P σ H Q ρ E h=>?_⟩;dsimp only at h;refine a2 P0 P σ H _ ρ E ?_;cases e:f ρ with
 |bad|ex x=>rw[e] at h;exact h
 |ok d =>
  rw[e] at h;simp only[M.A6] at h;split at h
  ·rename_i i;exact λ v H1 s1 hv=>⟨i,hv.int_inv,h _ H1 s1 (.int _)⟩
  ·exact h.elim
theorem TY {d:Expr}{h:A9->M D}{op de:CmpOp}{p q:Int->Int->Bool}(ho:GR X (compareOp op) (Xx λ i j=>.bl (p i j)))(bH:GR X (compareOp de) (Xx λ i j=>.bl (q i j)))(ha:DE X WX c a f)(hb:DE X WX c b g)(hd:DE X WX c d h)
 (hm:lastMarks [op,de] [b,d]=false:=by with_unfolding_all rfl):DE X WX c (.Compare a [op,de] [b,d] pos) (λ ρ=>(f ρ).bind λ x=>(g ρ).bind λ y=>B9 (λ i j=>if p i j=true then (h ρ).bind λ z=>B9 (λ _ k=>.ok (.bl (q j k))) (.int 0) z else .ok (.bl false)) x y):=by
 obtain⟨ta,a1,a2⟩:=ha;obtain⟨tb,b1,b2⟩:=hb;obtain⟨td,d1,d2⟩:=hd;refine⟨_,Vv ho bH a1 b1 d1 hm,λ P0 P σ H Q ρ E hh=>?_⟩;dsimp only at hh;refine a2 P0 P σ H _ ρ E ?_;cases e:f ρ with
 |bad|ex x=>rw[e] at hh;exact hh
 |ok x =>
  rw[e] at hh;intro v H1 s1 hv;refine b2 P0 P σ H1 _ ρ (E.same s1) ?_;cases e2:g ρ with
  |bad=>rw[e2] at hh;exact hh
  |ex y=>rw[e2] at hh;exact gV.same (m:=.ex y) hh s1
  |ok y =>
   rw[e2] at hh;simp only[M.A6] at hh;unfold B9 at hh;split at hh
   ·rename_i i j;intro w H2 s2 hw;refine⟨i,j,hv.int_inv,hw.int_inv,p i j,rfl,?_⟩;dsimp only at hh;by_cases hp:p i j=true
    ·rw[if_pos hp] at hh ⊢;refine d2 P0 P σ H2 _ ρ ((E.same s1).same s2) ?_;cases e3:h ρ with
     |bad=>rw[e3] at hh;exact hh
     |ex z=>rw[e3] at hh;exact gV.same (gV.same (m:=.ex z) hh s1) s2
     |ok z =>
      rw[e3] at hh;simp only[M.A6] at hh;cases z with
      |int k=>exact λ u H3 s3 hu=>⟨j,k,hw.int_inv,hu.int_inv,hh _ H3 ((s1.trans s2).trans s3) (.bl _)⟩
      |_=>exact hh.elim
    ·rw[if_neg hp] at hh ⊢;exact hh _ H2 (s1.trans s2) (.bl _)
   ·exact hh.elim
def K6 (K:za)(WX:Str->Hp->Prop)(r:List V->Hp->VK->Prop)(dF:List D->M D):Prop:=
 ∀(P:Addr->Prop) (H:Hp) (ds:List D) (vs:List V) (Q:VK),(∀a,P a->Eb H a)->Ae K (del H P) vs ds->gV K WX P H Q (dF ds)->r vs H Q
variable {x:Str}{p:Pos}{es:List Expr}{fs:A9->M (List D)}{id T:String}{r:List V->Hp->VK->Prop}{dF:List D->M D}
theorem VX {ta:TA}(ha:∀P0 P σ H Q ρ,Ai X.K P0 P H σ ρ->gA X.K WX (Lv c P0 P) H Q (fs ρ)->ta σ H Q)(hr:K6 X.K WX r dF){Q:VK}(E:Ai X.K P0 P H σ ρ)(h:gV X.K WX (Lv c P0 P) H Q ((fs ρ).bind dF)):nX r ta σ H Q:=by
 refine ha P0 P σ H _ ρ E ?_;cases e:fs ρ with
 |bad|ex x=>rw[e] at h;exact h
 |ok ds =>
  rw[e] at h;exact λ vs H1 s1 aM=>hr _ H1 ds vs Q (λ a q=>(E.same s1).kN c a q) aM (h.same s1)
theorem IH (hc:G7 X (.builtin id) r)(hr:K6 X.K WX r dF)(hg:Gl X x)(hm:X.mg x=none)(hv:bootBuiltins x=some (.builtin id))(ha:DA X WX c (e::es) fs)(hn:x ≠ "__name__" := by decide)(aT:(x==("__debug__" : Str))=false:=by decide)
 (he:starEach (e::es) X.env=(false,eval e X.env)::starEach es X.env:=by rfl) (az:(backTo pos (starEach es X.env)).any (·.1)=false:=by rfl):DE X WX c (.Call (.Name x p) (e::es) [] pos) (λ ρ=>(fs ρ).bind dF):=by
 obtain⟨ta,a1,a2,a3⟩:=ha;exact⟨_,Pg hc hg hm hv a1 hn aT he az,λ P0 P σ H Q ρ E h=>VX a2 hr E h⟩
theorem TZ (hc:G7 X (.type T) r)(hr:K6 X.K WX r dF)(hg:Gl X x)(hm:X.mg x=none)(hv:bootBuiltins x=some (.type T))(ha:DA X WX c (e::es) fs)(hn:x ≠ "__name__" := by decide)(aT:(x==("__debug__" : Str))=false:=by decide)
 (he:starEach (e::es) X.env=(false,eval e X.env)::starEach es X.env:=by rfl) (az:(backTo pos (starEach es X.env)).any (·.1)=false:=by rfl):DE X WX c (.Call (.Name x p) (e::es) [] pos) (λ ρ=>(fs ρ).bind dF):=by
 obtain⟨ta,a1,a2,a3⟩:=ha;exact⟨_,N1 hc hg hm hv a1 hn aT he az,λ P0 P σ H Q ρ E h=>VX a2 hr E h⟩
noncomputable def U0 (ds:List D):M D:=match ds with
 |[.lst xs]|[.tup xs]=>.ok (.int xs.length)
 |_=>.bad
theorem Ae.one {K:za}{H:Hp}{vs:List V}{d:D}(h:Ae K H vs [d]):∃v,vs=[v]/\BB K H v d:=by
 cases h with
 |cons h t=>cases t;exact⟨_,rfl,h⟩
theorem eZ:K6 X.K WX (λ xs H Q=>∃p ys,xs=[.ref p]/\(D8 X.K H p ys\/El X.K H p ys)/\Q (.int ys.length) H) U0:=by
 intro P H ds vs Q ht hl h;unfold U0 at h;split at h
 ·obtain⟨v,rfl,hv⟩:=hl.one;cases hv with
  |lst hs hh=>exact⟨_,_,rfl,.inl hs.Bj,by rw[hh.length];exact h _ H (Ab.refl H) (.int _)⟩
 ·obtain⟨v,rfl,hv⟩:=hl.one;cases hv with
  |tup hs hh=>exact⟨_,_,rfl,.inr (El.of (Am hs).2),by rw[hh.length];exact h _ H (Ab.refl H) (.int _)⟩
 ·exact h.elim
theorem Jp (hg:Gl X "len")(hm:X.mg "len" = none)(ha:DE X WX c e f)(hs:starEach [e] X.env=[(false,eval e X.env)]:=by rfl):DE X WX c (.Call (.Name "len" p) [e] [] pos) (λ ρ=>((f ρ).bind λ d=>(M.ok []).bind λ ds=>.ok (d::ds)).bind U0):=
 IH O4 eZ hg hm PySem.boot_len (A2 ha A8 hs) (he:=hs)
noncomputable def Rp (ds:List D):M D:=match ds with
 |[.lst xs]|[.tup xs]=>.ok (.tup xs)
 |_=>.bad
theorem VY:K6 X.K WX (λ xs H Q=>∃p ys,xs=[.ref p]/\((D8 X.K H p ys/\∀l,H l=none->Q (.ref l) (upd H l (.tup ys)))\/(El X.K H p ys/\Q (.ref p) H))) Rp:=by
 intro P H ds vs Q ht hl h;unfold Rp at h;split at h
 ·obtain⟨v,rfl,hv⟩:=hl.one;cases hv with
  |lst hs hh=>exact⟨_,_,rfl,.inl ⟨hs.Bj,λ l hn=>h _ _ (AG hn _) (.tup (GV hn ht) (hh.mono (AG hn _).del))⟩⟩
 ·obtain⟨v,rfl,hv⟩:=hl.one;cases hv with
  |tup hs hh=>exact⟨_,_,rfl,.inr ⟨El.of (Am hs).2,h _ H (Ab.refl H) (.tup hs hh)⟩⟩
 ·exact h.elim
theorem VZ (hg:Gl X "tuple")(hm:X.mg "tuple" = none)(ha:DE X WX c e f)(hb:bootBuiltins "tuple" = some (.type "tuple"):=by decide +kernel)(hs:starEach [e] X.env=[(false,eval e X.env)]:=by rfl):DE X WX c (.Call (.Name "tuple" p) [e] [] pos) (λ ρ=>((f ρ).bind λ d=>(M.ok []).bind λ ds=>.ok (d::ds)).bind Rp):=
 TZ MD VY hg hm hb (A2 ha A8 hs) (he:=hs)
noncomputable def ZF:D->String
 | .AD => "NoneType"
 | .bl _ => "bool"
 | .int _ => "int"
 | .str _ => "str"
 | .tup _ => "tuple"
 | .lst _ => "list"
 | .D9 _ => "NoneType"
 | .B6 _ _ _ => "dict"
 | .ins _ _ _ => "NoneType"
noncomputable def Ec (T:String)(d:D):Bool:=(ZF d==T)||(ZF d == "bool" && T == "int")
noncomputable def II (T:String)(d:D):M D:=match d with
 | .D9 _| .ins _ _ _=>.bad
 |d=>.ok (.bl (Ec T d))
noncomputable def Sw:D->Bool
 | .D9 _| .ins _ _ _=>true
 |_=>false
theorem Pz {T:String}{d:D}(h:Sw d=false):II T d=.ok (.bl (Ec T d)):=by cases d<;>first | rfl | cases h
def oI (K:za)(T:String):List V->Hp->VK->Prop:=λ xs H Q=>∃x d,xs=[x,.ty T]/\BB K H x d/\Sw d=false/\Q (.bl (Ec T d)) H
theorem W0 {T:String}(hk:∀d:D,PySem.W.kitOne X.K (.type (ZF d)) (.type T)=some (Ec T d)):G7 X (.builtin "isinstance") (oI X.K T):=by
 intro pins s σ H xs us Q I r h;obtain⟨x,d,rfl,hd,hx,q⟩:=h;obtain⟨u,w,rfl,rx,bu⟩:=r.two;cases bu;have fin:∀tk,EP X pins σ Q (.bool (Ec T d)) {s with toks:=tk}:=λ tk=>⟨.bl _,H,I.tok tk,rfl,q⟩;have e:=hk d;cases hd with
 |D9 _ _|ins _ _ _=>cases hx
 |Ip hs hl =>
  cases rx;obtain⟨⟨o,h1,h2⟩,_,_⟩:=VO I (.inl ⟨_,hs⟩);exact yL PySem.W.kitx_dict I.Mx ⟨o,h1,h2⟩ e (λ z=>nomatch z) fin
 |HL hs hl =>
  cases rx;obtain⟨⟨o,h1,h2⟩,_,_⟩:=VO I (.inr ⟨_,hs⟩);exact yL PySem.W.kitx_dict I.Mx ⟨o,h1,h2⟩ e (λ z=>nomatch z) fin
 |AD=>cases rx;exact yL PySem.W.kitx_none I.Mx yV e (λ z=>nomatch z) fin
 |bl b=>cases rx;exact yL PySem.W.kitx_bool I.Mx yV e (λ z=>nomatch z) fin
 |int b=>obtain⟨t,rfl⟩:=rx;exact yL PySem.W.kitx_int I.Mx yV e (λ z=>nomatch z) fin
 |str b=>obtain⟨t,rfl⟩:=rx;exact yL PySem.W.kitx_str I.Mx yV e (λ z=>nomatch z) fin
 |tup hs hl =>
  cases rx;obtain⟨_,_,⟨o,h1,h2,_⟩,_⟩:=I.tuple (.of hs);exact yL PySem.W.kitx_tuple I.Mx ⟨o,h1,h2⟩ e (λ z=>nomatch z) fin
 |lst hs hl =>
  cases rx;obtain⟨_,_,⟨o,n,h1,h2,_⟩,_⟩:=I.list hs;exact yL PySem.W.kitx_list I.Mx ⟨o,h1,h2⟩ e (λ z=>nomatch z) fin
theorem Ep {T:String}{x2:Str}{p2:Pos}(hk:∀d:D,PySem.W.kitOne X.K (.type (ZF d)) (.type T)=some (Ec T d))(hg:Gl X "isinstance")(hm:X.mg "isinstance" = none)(il:Gl X x2)(b8:X.mg x2=none)(sB:bootBuiltins x2=some (.type T))(ha:DE X WX c e f)
 (hb:bootBuiltins "isinstance" = some (.builtin "isinstance"):=by decide +kernel) (aD:x2 ≠ "__name__" := by decide) (mr:(x2==("__debug__" : Str))=false:=by decide) (hs:starEach [e,.Name x2 p2] X.env=(false,eval e X.env)::starEach [.Name x2 p2] X.env:=by rfl) (aS:starEach [.Name x2 p2] X.env=[(false,eval (.Name x2 p2) X.env)]:=by rfl)
 (az:(backTo pos (starEach [.Name x2 p2] X.env)).any (·.1)=false:=by rfl):
 DE X WX c (.Call (.Name "isinstance" p) [e,.Name x2 p2] [] pos) (λ ρ=>(f ρ).bind λ d=>II T d):=by
 obtain⟨ta,a1,a2⟩:=ha;refine⟨_,Pg (W0 hk) hg hm hb (Bl a1 (Bl (XG (v:=.ty T) il b8 sB rfl aD mr) Cs aS) hs) (by decide) (by decide) hs az,λ P0 P σ H Q ρ E h=>?_⟩;dsimp only at h;refine a2 P0 P σ H _ ρ E ?_;cases q:f ρ with
 |bad|ex x=>rw[q] at h;exact h
 |ok d =>
  rw[q] at h;simp only[M.A6] at h;cases hx:Sw d with
  |true=>cases d<;>first|exact h.elim|cases hx
  |false =>
   rw[Pz hx] at h;exact λ v H1 s1 hv=>⟨v,d,rfl,hv.mono DB,hx,h _ H1 s1 (.bl _)⟩
theorem HN (K:za)(d:D):PySem.W.kitOne K (.type (ZF d)) (.type "tuple")=some (Ec "tuple" d):=by cases d<;>rfl
theorem Jq (K:za)(d:D):PySem.W.kitOne K (.type (ZF d)) (.type "list")=some (Ec "list" d):=by cases d<;>rfl
theorem Nb (K:za)(d:D):PySem.W.kitOne K (.type (ZF d)) (.type "bool")=some (Ec "bool" d):=by cases d<;>rfl
theorem PB (K:za)(d:D):PySem.W.kitOne K (.type (ZF d)) (.type "int")=some (Ec "int" d):=by cases d<;>rfl
noncomputable def ZG (lo hi:Option Int)(d:D):M D:=match d with
 | .lst ds=>.ok (.lst ((ds.drop (HT.L4 ds.length 0 lo)).take (HT.L4 ds.length ds.length hi-HT.L4 ds.length 0 lo)))
 |_=>.bad
def DO (X:Cx)(WX:Str->Hp->Prop)(c:Bool)(e:Option Expr)(f:A9->M (Option Int)):Prop:=
 ∃t,PO X e t/\∀P0 P σ H Q ρ,Ai X.K P0 P H σ ρ->(match f ρ with | .ok o=>∀H',Ab H H'->Q o H' | .ex x=>∀H',Ab H H'->WX x H' | .bad=>False)->t σ H Q
theorem Og:DO X WX c none (λ _=>.ok none):=⟨_,XZ,λ P0 P σ H Q ρ E h=>h H (Ab.refl H)⟩
noncomputable def qL (d:D):M (Option Int):=match d with | .int i=>.ok (some i) | _=>.bad
theorem IJ (ha:DE X WX c e f):DO X WX c (some e) (λ ρ=>(f ρ).bind qL):=by
 obtain⟨ta,a1,a2⟩:=ha;refine⟨_,Y0 a1,λ P0 P σ H Q ρ E h=>?_⟩;dsimp only at h;refine a2 P0 P σ H _ ρ E ?_;cases q:f ρ with
 |bad|ex x=>rw[q] at h;exact h
 |ok d =>
  rw[q] at h;cases d with
  |int i=>exact λ v H1 s1 hv=>⟨i,hv.int_inv,h H1 s1⟩
  |_=>exact h.elim
end
inductive Out where
 |ret (d:D)|next (ρ:A9)|brk (ρ:A9)|cont (ρ:A9)|BZ (c:Cl)|Ed (t:OT) (ρ:A9)
def Tr (P0 P:Addr->Prop)(H:Hp)(P':Addr->Prop)(H':Hp):Prop:=Ab (del H P) (del H' P')/\∀a,P0 a->H' a=H a
theorem Tr.refl {P0 P:Addr->Prop}{H:Hp}:Tr P0 P H P H:=⟨Ab.refl _,λ _ _=>rfl⟩
theorem Tr.trans {P0 P P1 P2:Addr->Prop}{H H1 H2:Hp}(a:Tr P0 P H P1 H1)(b:Tr P0 P1 H1 P2 H2):Tr P0 P H P2 H2:=⟨a.1.trans b.1,λ x h=>(b.2 x h).trans (a.2 x h)⟩
theorem Ai.tr {K:za}{P0:Ea}{P:Addr->Prop}{H H':Hp}{σ:St}{ρ:A9}(E:Ai K P0 P H σ ρ)(e:Ab H H'):Tr P0 P H P H':=
 ⟨e.del,λ a h=>by obtain⟨o,q,_⟩:=E.C4 a (E.sub a h);rw[e a o q,q]⟩
def gS (K:za)(WX:Str->Hp->Prop)(P0:Ea)(P:Addr->Prop)(H:Hp)(Z:Ends):M Out->Prop
 | .ok (.ret d)=>∀v H' P',Tr P0 P H P' H'->BB K (del H' P0) v d->Z.rt v H'
 | .ok (.next ρ)=>∀σ' H' P',Tr P0 P H P' H'->Ai K P0 P' H' σ' ρ->Z.nx σ' H'
 | .ok (.brk ρ)=>∀σ' H' P',Tr P0 P H P' H'->Ai K P0 P' H' σ' ρ->Z.bk σ' H'
 | .ok (.cont ρ)=>∀σ' H' P',Tr P0 P H P' H'->Ai K P0 P' H' σ' ρ->Z.ct σ' H'
 | .ok (.BZ c)=>∀v fp H' P',Tr P0 P H P' H'->(∀a,P0 a->P' a)->(∀a,P' a->Eb H' a)->Cm K H' P' c v fp->(∀a∈fp,P' a/\¬ P0 a)->fp.Nodup->Z.rt v H'
 | .ok (.Ed t ρ)=>∀v fp σ' H' P',Tr P0 P H P' H'->Ai K P0 P' H' σ' ρ->BC K H' P' v t fp->fp.Nodup->(∀a∈fp,P' a/\¬ P0 a/\∀(j:Nat) c v' fq,ρ[j]?=some (some c)->σ'[j]?=some (some v')->Cm K H' P' c v' fq->a∉fq)->Z.rt v H'
 | .ex x=>∀H' P',Tr P0 P H P' H'->WX x H'
 | .bad=>False
theorem gS.tr {K:za}{WX:Str->Hp->Prop}{P0:Ea}{P P':Addr->Prop}{H H':Hp}{Z:Ends}{m:M Out}(h:gS K WX P0 P H Z m)(t:Tr P0 P H P' H'):gS K WX P0 P' H' Z m:=by
 cases m with
 |bad=>exact h
 |ex x=>exact λ H2 P2 t2=>h H2 P2 (t.trans t2)
 |ok o =>
  cases o with
  |ret d=>exact λ v H2 P2 t2 hv=>h v H2 P2 (t.trans t2) hv
  |next ρ|brk ρ|cont ρ=>exact λ σ2 H2 P2 t2 hv=>h σ2 H2 P2 (t.trans t2) hv
  |BZ c=>exact λ v fp H2 P2 t2=>h v fp H2 P2 (t.trans t2)
  |Ed c ρ=>exact λ v fp σ2 H2 P2 t2=>h v fp σ2 H2 P2 (t.trans t2)
def DS (X:Cx)(WX:Str->Hp->Prop)(st:Stmt)(g:A9->M Out):Prop:=
 ∃t,PS X st t/\∀P0 P σ H Z ρ,Ai X.K P0 P H σ ρ->gS X.K WX P0 P H Z (g ρ)->t Z σ H
def QS (X:Cx)(WX:Str->Hp->Prop)(st:List Stmt)(g:A9->M Out):Prop:=
 ∃t,Sf X st t/\∀P0 P σ H Z ρ,Ai X.K P0 P H σ ρ->gS X.K WX P0 P H Z (g ρ)->t Z σ H
noncomputable def W2 (m:M Out)(k:A9->M Out):M Out:=match m with
 | .ok (.next ρ)=>k ρ
 |m=>m
section
variable {X:Cx}{WX:Str->Hp->Prop}{c:Bool}{P0:Ea}{P:Addr->Prop}{H:Hp}{σ:St}{ρ:A9}{a b e:Expr}{f g:A9->M D}{ft gt:A9->M Bool}{pos:Pos}{st:Stmt}{rest:List Stmt}{g1 g2:A9->M Out}
theorem Au:QS X WX [] (λ ρ=>.ok (.next ρ)):=⟨_,XI,λ P0 P σ H Z ρ E h=>h σ H P Tr.refl E⟩
theorem A7 (h:DS X WX st g1):QS X WX [st] g1:=let ⟨t,h1,h2⟩:=h;⟨_,XJ h1,h2⟩
theorem A4 (h:DS X WX st g1)(hr:QS X WX rest g2):QS X WX (st::rest) (λ ρ=>W2 (g1 ρ) g2):=by
 obtain⟨t,h1,h2⟩:=h;obtain⟨u,r1,r2⟩:=hr;refine⟨_,Vo h1 r1,λ P0 P σ H Z ρ E h=>?_⟩;dsimp only at h;refine h2 P0 P σ H {Z with nx:=u Z} ρ E ?_;cases q:g1 ρ with
 |bad|ex x=>rw[q] at h;exact h
 |ok o =>
  rw[q] at h;cases o with
  |ret d|brk d|cont d|BZ d|Ed d ρ2=>exact h
  |next ρ'=>exact λ σ' H' P' t E'=>r2 P0 P' σ' H' Z ρ' E' (gS.tr h t)
theorem W3 (ha:DE X WX false e f):DS X WX (.Return (some e) pos) (λ ρ=>(f ρ).bind λ d=>.ok (.ret d)):=by
 obtain⟨ta,a1,a2⟩:=ha;refine⟨_,NZ a1,λ P0 P σ H Z ρ E h=>?_⟩;dsimp only at h;refine a2 P0 P σ H _ ρ E ?_;cases q:f ρ with
 |bad=>rw[q] at h;exact h
 |ex x=>rw[q] at h;exact λ H' s=>h H' P (E.tr s)
 |ok d=>rw[q] at h;exact λ v H' s hv=>h v H' P (E.tr s) hv
theorem B7 {c:Expr}{sa sb:List Stmt}(hc:DT X WX c ft)(ha:QS X WX sa g1)(hb:QS X WX sb g2):DS X WX (.If c sa sb pos) (λ ρ=>(ft ρ).bind λ k=>if k=true then g1 ρ else g2 ρ):=by
 obtain⟨tc,c1,c2⟩:=hc;obtain⟨ta,a1,a2⟩:=ha;obtain⟨tb,b1,b2⟩:=hb;refine⟨_,jI c1 a1 b1,λ P0 P σ H Z ρ E h=>?_⟩;dsimp only at h;refine c2 P0 P σ H _ ρ E ?_;cases q:ft ρ with
 |bad=>rw[q] at h;exact h
 |ex x=>rw[q] at h;exact λ H' s=>h H' P (E.tr s)
 |ok k =>
  rw[q] at h;intro H1 s1;cases k with
  |true =>
   simp only[M.A6,if_true] at h ⊢;exact a2 P0 P σ H1 Z ρ (E.same s1) (h.tr (E.tr s1))
  |false =>
   simp only[M.A6,zy,if_false] at h ⊢;exact b2 P0 P σ H1 Z ρ (E.same s1) (h.tr (E.tr s1))
theorem get_set {α:Type}{l:List α}{i j:Nat}{x y:α}(h:(l.set i x)[j]?=some y):(i=j/\i<l.length/\x=y)\/(i≠j/\l[j]?=some y):=by
 by_cases e:i=j
 ·subst e;rw[List.getElem?_set_self'] at h;cases q:l[i]? with
  |none=>rw[q] at h;cases h
  |some z =>
   rw[q] at h;exact .inl ⟨rfl,(zE.mp q).1,by simpa using h⟩
 ·rw[yq e] at h;exact .inr ⟨e,h⟩
theorem Ai.U1 {K:za}(E:Ai K P0 P H σ ρ){i:Nat}{v:V}{d:D}(hv:BB K (del H P) v d):Ai K P0 P H (σ.set i (some v)) (ρ.set i (some (.val d))):=by
 have gs:∀ {j:Nat},i≠j->(σ.set i (some v))[j]?=σ[j]? :=λ h=>yq h;refine⟨E.sub,E.C4,λ j e h=>?_,λ j c h io=>?_,λ j k c c' u u' fp ah h1 h2 h3 h4 h5 h6 ad=>?_,by rw[y2,y2];exact E.len,λ j c n h hp=>?_⟩
 rotate_left 3
 ·rcases get_set h with ⟨rfl,hl,e1⟩|⟨ad,h⟩
  ·cases e1;cases hp
  ·rw[gs ad];exact E.pin j c n h hp
 ·rcases get_set h with ⟨rfl,hl,e1⟩|⟨ad,h⟩
  ·cases e1;exact⟨v,zU (by rw[E.len];exact hl),hv⟩
  ·obtain⟨w,h1,h2⟩:=E.val j e h;exact⟨w,by rw[gs ad];exact h1,h2⟩
 ·rcases get_set h with ⟨rfl,hl,e1⟩|⟨ad,h⟩
  ·cases e1;cases io
  ·obtain⟨w,fp,h1,h2⟩:=E.ows j c h io;exact⟨w,fp,by rw[gs ad];exact h1,h2⟩
 ·rcases get_set h1 with ⟨rfl,hl,e1⟩|⟨bQ,h1⟩
  ·cases e1;exact h5.elim
  ·rcases get_set h2 with ⟨rfl,hl,e1⟩|⟨aD,h2⟩
   ·cases e1;exact h6.elim
   ·rw[gs bQ] at h3;rw[gs aD] at h4;exact E.apart j k c c' u u' fp ah h1 h2 h3 h4 h5 h6 ad
theorem Ai.Yq {K:za}(E:Ai K P0 P H σ ρ){P':Addr->Prop}{H':Hp}{i:Nat}{v:V}{c:Cl}{fp:List Addr}(hs:∀a,P a->P' a)(ht:∀a,P' a->Eb H' a)(sm:Ab (del H P) (del H' P'))
 (keep:∀(j:Nat) c' v' ah,i≠j->ρ[j]?=some (some c')->σ[j]?=some (some v')->Cm K H P c' v' ah->∀a∈ah,H' a=H a/\a∉fp)
 (new:Cm K H' P' c v fp) (hp:∀a∈fp,P' a/\¬ P0 a) (nd:fp.Nodup) (du:∀n,N7 c=some n->v=.ref (P0.g n):=by intro n z;cases z):Ai K P0 P' H' (σ.set i (some v)) (ρ.set i (some c)):=by
 have gs:∀ {j:Nat},i≠j->(σ.set i (some v))[j]?=σ[j]? :=λ h=>yq h;refine⟨λ a h=>hs a (E.sub a h),ht,λ j e h=>?_,λ j c' h io=>?_,λ j k c1 c2 u u' ay bP h1 h2 h3 h4 h5 h6 ad=>?_,by rw[y2,y2];exact E.len,λ j c' n h hp=>?_⟩
 rotate_left 3
 ·rcases get_set h with ⟨rfl,hl,e1⟩|⟨ad,h⟩
  ·cases e1;rw[zU (by rw[E.len];exact hl),du n hp]
  ·rw[gs ad];exact E.pin j c' n h hp
 ·rcases get_set h with ⟨rfl,hl,e1⟩|⟨ad,h⟩
  ·cases e1;exact new.elim
  ·obtain⟨w,h1,h2⟩:=E.val j e h;exact⟨w,by rw[gs ad];exact h1,h2.mono sm⟩
 ·rcases get_set h with ⟨rfl,hl,e1⟩|⟨ad,h⟩
  ·cases e1;exact⟨v,fp,zU (by rw[E.len];exact hl),new,hp,nd⟩
  ·obtain⟨w,fq,h1,h2,h3,h4⟩:=E.ows j c' h io;exact⟨w,fq,by rw[gs ad];exact h1,h2.move sm λ a ha=>(keep j c' w fq ad h h1 h2 a ha).1,λ a ha=>⟨hs a (h3 a ha).1,(h3 a ha).2⟩,h4⟩
 ·have back:∀(l:Nat) (d:Cl) (w:V) (fq:List Addr),i≠l->ρ[l]?=some (some d)->σ[l]?=some (some w)->Cm K H' P' d w fq->∃fr,Cm K H P d w fr/\fr=fq:=λ l d w fq hn hk sk ho=>by
   have io:Fl d=true:=by cases d<;>first|rfl|exact ho.elim
   obtain⟨w',bP,s2,o2,_⟩:=E.ows l d hk io;rw[sk] at s2;cases s2;exact⟨bP,o2,(o2.move sm λ a ha=>(keep l d w bP hn hk sk o2 a ha).1).BL ho⟩
  rcases get_set h1 with ⟨rfl,hl,e1⟩|⟨bQ,h1⟩
  ·cases e1;rw[zU (by rw[E.len];exact hl)] at h3;cases h3;rcases get_set h2 with ⟨e,_⟩|⟨aD,h2⟩
   ·exact (ad e).elim
   ·rw[gs aD] at h4;obtain⟨fr,o,rfl⟩:=back k c2 u' bP aD h2 h4 h6;intro a ha hb;rw[new.BL h5] at keep;exact (keep k c2 u' fr aD h2 h4 o a hb).2 ha
  ·rw[gs bQ] at h3;obtain⟨fr,o,rfl⟩:=back j c1 u ay bQ h1 h3 h5;rcases get_set h2 with ⟨rfl,hl,e1⟩|⟨aD,h2⟩
   ·cases e1;rw[zU (by rw[E.len];exact hl)] at h4;cases h4;intro a ha;rw[new.BL h6] at keep;exact (keep j c1 u fr bQ h1 h3 o a ha).2
   ·rw[gs aD] at h4;obtain⟨mt,o2,rfl⟩:=back k c2 u' bP aD h2 h4 h6;exact E.apart j k c1 c2 u u' fr mt h1 h2 h3 h4 o o2 ad
theorem Ai.kS {K:za}(E:Ai K P0 P H σ ρ){P':Addr->Prop}{H':Hp}{i:Nat}{v:V}{c:Cl}{fp:List Addr}(hs:∀a,P0 a->P' a)(ht:∀a,P' a->Eb H' a)(sm:Ab (del H P) (del H' P'))
 (keep:∀(j:Nat) c' v' ah,i≠j->ρ[j]?=some (some c')->σ[j]?=some (some v')->Cm K H P c' v' ah->∀a∈ah,H' a=H a/\a∉fp/\P' a)
 (new:Cm K H' P' c v fp) (hp:∀a∈fp,P' a/\¬ P0 a) (nd:fp.Nodup) (du:∀n,N7 c=some n->v=.ref (P0.g n):=by intro n z;cases z):Ai K P0 P' H' (σ.set i (some v)) (ρ.set i (some c)):=by
 have gs:∀ {j:Nat},i≠j->(σ.set i (some v))[j]?=σ[j]? :=λ h=>yq h;refine⟨hs,ht,λ j e h=>?_,λ j c' h io=>?_,λ j k c1 c2 u u' ay bP h1 h2 h3 h4 h5 h6 ad=>?_,by rw[y2,y2];exact E.len,λ j c' n h hp=>?_⟩
 rotate_left 3
 ·rcases get_set h with ⟨rfl,hl,e1⟩|⟨ad,h⟩
  ·cases e1;rw[zU (by rw[E.len];exact hl),du n hp]
  ·rw[gs ad];exact E.pin j c' n h hp
 ·rcases get_set h with ⟨rfl,hl,e1⟩|⟨ad,h⟩
  ·cases e1;exact new.elim
  ·obtain⟨w,h1,h2⟩:=E.val j e h;exact⟨w,by rw[gs ad];exact h1,h2.mono sm⟩
 ·rcases get_set h with ⟨rfl,hl,e1⟩|⟨ad,h⟩
  ·cases e1;exact⟨v,fp,zU (by rw[E.len];exact hl),new,hp,nd⟩
  ·obtain⟨w,fq,h1,h2,h3,h4⟩:=E.ows j c' h io;exact⟨w,fq,by rw[gs ad];exact h1,h2.move sm λ a ha=>(keep j c' w fq ad h h1 h2 a ha).1,λ a ha=>⟨(keep j c' w fq ad h h1 h2 a ha).2.2,(h3 a ha).2⟩,h4⟩
 ·have back:∀(l:Nat) (d:Cl) (w:V) (fq:List Addr),i≠l->ρ[l]?=some (some d)->σ[l]?=some (some w)->Cm K H' P' d w fq->∃fr,Cm K H P d w fr/\fr=fq:=λ l d w fq hn hk sk ho=>by
   have io:Fl d=true:=by cases d<;>first|rfl|exact ho.elim
   obtain⟨w',bP,s2,o2,_⟩:=E.ows l d hk io;rw[sk] at s2;cases s2;exact⟨bP,o2,(o2.move sm λ a ha=>(keep l d w bP hn hk sk o2 a ha).1).BL ho⟩
  rcases get_set h1 with ⟨rfl,hl,e1⟩|⟨bQ,h1⟩
  ·cases e1;rw[zU (by rw[E.len];exact hl)] at h3;cases h3;rcases get_set h2 with ⟨e,_⟩|⟨aD,h2⟩
   ·exact (ad e).elim
   ·rw[gs aD] at h4;obtain⟨fr,o,rfl⟩:=back k c2 u' bP aD h2 h4 h6;intro a ha hb;rw[new.BL h5] at keep;exact (keep k c2 u' fr aD h2 h4 o a hb).2.1 ha
  ·rw[gs bQ] at h3;obtain⟨fr,o,rfl⟩:=back j c1 u ay bQ h1 h3 h5;rcases get_set h2 with ⟨rfl,hl,e1⟩|⟨aD,h2⟩
   ·cases e1;rw[zU (by rw[E.len];exact hl)] at h4;cases h4;intro a ha;rw[new.BL h6] at keep;exact (keep j c1 u fr bQ h1 h3 o a ha).2.1
   ·rw[gs aD] at h4;obtain⟨mt,o2,rfl⟩:=back k c2 u' bP aD h2 h4 h6;exact E.apart j k c1 c2 u u' fr mt h1 h2 h3 h4 o o2 ad
theorem Lh {α:Type}:∀ {l:List α}{i:Nat}{x:α},l[i]?=some x->l.set i x=l
 |[],_,_,h=>by cases h
 |y::r,0,x,h=>by cases h;rfl
 |y::r,i+1,x,h=>by rw[zw,Lh (by simpa using h)]
theorem Ai.mut {K:za}(E:Ai K P0 P H σ ρ){i p:Nat}{xs:List V}{ds j4:List D}(ho:ρ[i]?=some (some (.own ds)))(hs:σ[i]?=some (some (.ref p)))(pP:P p)(j5:¬ P0 p)(hx:Ae K (del H P) xs j4):
 Ai K P0 P (upd H p (.lst xs)) σ (ρ.set i (some (.own j4)))/\Tr P0 P H P (upd H p (.lst xs)):=by
 have sd:del (upd H p (.lst xs)) P=del H P:=by
  funext b;by_cases hb:P b
  ·rw[Fj hb,Fj hb]
  ·rw[AA hb,AA hb,Al (λ z=>hb (by rw[z];exact pP))]
 have sm:Ab (del H P) (del (upd H p (.lst xs)) P):=by rw[sd];exact Ab.refl _
 obtain⟨v,fp,s1,o1,_⟩:=E.ows i _ ho rfl;rw[hs] at s1;cases s1;have key:=E.Yq (P':=P) (H':=upd H p (.lst xs)) (i:=i) (v:=.ref p) (c:=.own j4) (fp:=[p]) (λ a h=>h) (λ a h=>?_) sm (λ j c' v' ah ad h1 h2 h3 a ha=>?_) ⟨p,xs,rfl,rfl,Ax,by rw[sd];exact hx⟩ (λ a ha=>by rw[zu.mp ha];exact⟨pP,j5⟩) (by simp)
 ·rw[Lh hs] at key;exact⟨key,sm,λ a h=>by rw[Al (λ z=>j5 (by rw[<-z];exact h))]⟩
 ·by_cases ha:a=p
  ·subst ha;exact Eb.lst Ax
  ·unfold Eb;rw[Al ha];exact E.C4 a h
 ·obtain⟨p',dr,e,rfl,_⟩:=o1;cases e;have hn:a≠p:=λ z=>E.apart j i c' _ v' _ ah [p] h1 ho h2 hs h3 ⟨p,dr,rfl,rfl,by assumption⟩ (yd ad) a ha (by rw[z];exact zu.mpr rfl);exact⟨Al hn,λ z=>hn (zu.mp z)⟩
theorem Ai.grow {K:za}(E:Ai K P0 P H σ ρ){i p:Nat}{xs:List V}{ds:List D}{v:V}{d:D}(ho:ρ[i]?=some (some (.own ds)))(hs:σ[i]?=some (some (.ref p)))(hp:H p=some (.lst xs))(pP:P p)(j5:¬ P0 p)(hx:Ae K (del H P) xs ds)(hv:BB K (del H P) v d):
 Ai K P0 P (upd H p (.lst (xs++[v]))) σ (ρ.set i (some (.own (ds++[d]))))/\Tr P0 P H P (upd H p (.lst (xs++[v]))):=E.mut ho hs pP j5 (hx.snoc hv)
theorem AJ (i:Nat){x:Str}{pos':Pos}(hN:X.N.Nodup)(hi:X.N[i]?=some x)(hx:Loc X.env.scope x)(ha:DE X WX true e f)(hs:swapsWith e (some (.Name x pos')) pos.line X.env=pure false:=by rfl)(hf:X.fn x=true\/X.env.scope.names.lookup x=some .local:=by first | exact .inl rfl | exact .inr rfl | assumption):
 DS X WX (.Assign [.Name x pos'] e pos) (λ ρ=>(f ρ).bind λ d=>.ok (.next (ρ.set i (some (.val d))))):=by
 obtain⟨ta,a1,a2⟩:=ha;refine⟨_,QX hN hi hx a1 hs hf,λ P0 P σ H Z ρ E h=>?_⟩;dsimp only at h;refine a2 P0 P σ H _ ρ E ?_;cases q:f ρ with
 |bad=>rw[q] at h;exact h
 |ex x=>rw[q] at h;exact λ H' s=>h H' P (E.tr s)
 |ok d=>rw[q] at h;exact λ v H' s hv=>h _ H' P (E.tr s) ((E.same s).U1 hv)
noncomputable def U2 (i:Nat)(ρ:A9)(m:M D):M Out:=match ρ[i]? with
 |some (some (.own ds))=>m.bind λ d=>if ds.length<1000 then .ok (.next (ρ.set i (some (.own (ds++[d]))))) else .bad
 |_=>.bad
theorem Jr (i:Nat){x:Str}{p1 apos ag:Pos}(hv:PE X (.Name x p1) (Pb i))(ha:DE X WX true e f)(hs:starEach [e] X.env=[(false,eval e X.env)]:=by rfl)
 (bY:swapsWith (.Call (.Attribute (.Name x p1) "append" apos) [e] [] ag) none pos.line X.env=pure false:=by rfl)
 (a9:attributeBase (.Name x p1) "append" X.env (eval (.Name x p1) X.env)=eval (.Name x p1) X.env:=by rfl)
 (aW:((backTo ag (starEach [e] X.env)).all (λ x => !x.1)&&(backToKw ag (keywordEach [] X.env)).all (λ x=>x.1.isSome)&&decide (([e]:List Expr).length+([]:List Keyword).length+(if ([]:List Keyword).isEmpty then 0 else 1)<30))=true:=by rfl)
 (aA:(apos.endLine==ag.line)=true:=by rfl) (aq:(backTo ag (starEach [] X.env)).any (·.1)=false:=by rfl):
 DS X WX (.Expr (.Call (.Attribute (.Name x p1) "append" apos) [e] [] ag) pos) (λ ρ=>U2 i ρ (f ρ)):=by
 obtain⟨ta,a1,a2⟩:=ha;refine⟨_,IC (Sq PySem.F.plainAttrs_list PySem.F.slot_list_append PySem.F.type_list_append TL hv (Bl a1 Cs hs) a9 aW aA hs aq) bY,λ P0 P σ H Z ρ E h=>?_⟩;dsimp only at h;unfold U2 at h;split at h
 ·rename_i ds e1;obtain⟨p,xs,h1,h2,h3,h4,h5⟩:=E.own i ds e1;refine⟨_,h1,.inl ⟨rfl,xs,.of h2⟩,?_⟩;refine a2 P0 P σ H _ ρ E ?_;cases q:f ρ with
  |bad=>rw[q] at h;exact h
  |ex y=>rw[q] at h;exact λ H' s=>h H' P (E.tr s)
  |ok d =>
   rw[q] at h;simp only[M.A6] at h;by_cases hl:ds.length<1000
   ·rw[if_pos hl] at h;intro v H1 s1 hv;have E1:=E.same s1;have ik:H1 p=some (.lst xs):=s1 _ _ h2;refine⟨p,xs,v,rfl,rfl,ik,AF (by rw[h5.length];omega),?_⟩;obtain⟨E2,t2⟩:=E1.grow e1 h1 ik h3 h4 (h5.mono s1.del) hv;exact h _ _ _ ((E.tr s1).trans t2) E2
   ·rw[if_neg hl] at h;exact h.elim
 ·exact h.elim
end
def gG (K:za)(P0:Ea)(P:Addr->Prop)(H:Hp)(Q:St->Hp->Prop):M A9->Prop
 | .ok ρ=>∀σ',Ai K P0 P H σ' ρ->Q σ' H
 |_=>False
def DG (X:Cx)(tg:Expr)(gt:D->A9->M A9):Prop:=
 ∃g:TG,PG X tg g/\∀P0 P σ H Q ρ v d,Ai X.K P0 P H σ ρ->BB X.K (del H P) v d->gG X.K P0 P H Q (gt d ρ)->g v σ H Q
def mJ (X:Cx)(sG:List Expr)(gt:List D->A9->M A9):Prop:=
 ∃g:Zw,jJ X sG g/\∀P0 P σ H Q ρ v d,Ai X.K P0 P H σ ρ->Ae X.K (del H P) v d->gG X.K P0 P H Q (gt d ρ)->g v σ H Q
structure Yr (K:za)(J:It)(P:Addr->Prop)(H:Hp)(ds:List D):Prop where
 go:∀(i:Nat) P' H',Ab (del H P) (del H' P')->i<ds.length->J.go i H'
 stop:∀(i:Nat) P' H',Ab (del H P) (del H' P')->ds.length<=i->J.stop i H'
 Zx:∀(i:Nat) P' H' v dv d,Ab (del H P) (del H' P')->(∀a,P' a->Eb H' a)->ds[i]?=some d->J.Zx i H' v dv->Ab H' dv/\BB K (del dv P') v d
def DI (X:Cx)(WX:Str->Hp->Prop)(tg iter:Expr)(f:A9->M (List D)):Prop:=
 ∃wi,PI X tg iter wi/\∀P0 P σ H R ρ,Ai X.K P0 P H σ ρ->(match f ρ with | .ok ds=>∀J H',Ab H H'->Yr X.K J P H' ds->R J H' | .ex x=>∀H',Ab H H'->WX x H' | .bad=>False)->wi σ H R
noncomputable def forM (gt:D->A9->M A9)(body:A9->M Out):List D->A9->M Out
 |[],ρ=>.ok (.next ρ)
 |d::r,ρ=>match gt d ρ with
  | .ok ρ1=>(match body ρ1 with
   | .ok (.next ρ2)| .ok (.cont ρ2)=>forM gt body r ρ2
   | .ok (.brk ρ2)=>.ok (.next ρ2)
   |m=>m)
  |_=>.bad
section
variable {X:Cx}{WX:Str->Hp->Prop}{c:Bool}{P0:Ea}{P:Addr->Prop}{H:Hp}{σ:St}{ρ:A9}{a b e tg iter:Expr}{f g:A9->M D}{ft:A9->M Bool}{pos:Pos}{gt:D->A9->M A9}{im:List D->A9->M A9}{gb:A9->M Out}{fi:A9->M (List D)}
theorem B5 (i:Nat){x:Str}(hN:X.N.Nodup)(hi:X.N[i]?=some x)(hx:Loc X.env.scope x)(hf:X.fn x=true\/X.env.scope.names.lookup x=some .local:=by first | exact .inl rfl | exact .inr rfl | assumption):DG X (.Name x pos) (λ d ρ=>.ok (ρ.set i (some (.val d)))):=
 ⟨_,Sh hN hi hx hf,λ P0 P σ H Q ρ v d E hv h=>h _ (E.U1 hv)⟩
theorem Oh:mJ X [] (λ ds ρ=>match ds with | []=>.ok ρ | _=>.bad):=⟨_,XM,λ P0 P σ H Q ρ v d E hv h=>by
 cases hv with
 |nil=>exact⟨rfl,h σ E⟩
 |cons _ _=>exact h.elim⟩
theorem CQ {es:List Expr}(h1:DG X e gt)(h2:mJ X es im)(hs:(assignEach (e::es) X.env).map (·.2)=assign e X.env::(assignEach es X.env).map (·.2):=by rfl):
 mJ X (e::es) (λ ds ρ=>match ds with|d::r=>(gt d ρ).bind (im r)|[]=>.bad):=by
 obtain⟨t,a1,a2⟩:=h1;obtain⟨u,b1,b2⟩:=h2;refine⟨_,Vp a1 b1 hs,λ P0 P σ H Q ρ v d E hv h=>?_⟩;cases hv with
 |nil=>exact h.elim
 | @cons x d xs ds hx bN =>
  refine⟨x,xs,rfl,a2 P0 P σ H _ ρ x d E hx ?_⟩;dsimp only at h;cases q:gt d ρ with
  |bad|ex y=>rw[q] at h;exact h
  |ok ρ1=>rw[q] at h;exact λ σ' E'=>b2 P0 P σ' H Q ρ1 xs ds E' bN h
theorem Rq {es:List Expr}{k n:Nat}(hc:X.calm=true)(h:mJ X es im)(hn:(assignEach es X.env).length=n:=by rfl)(aU:(assignEach es X.env).findIdx? (·.1)=none:=by rfl):
 DG X (.Tuple es k pos) (λ d ρ=>match d with | .tup ds=>if ds.length=n then im ds ρ else .bad|_=>.bad):=by
 obtain⟨t,a1,a2⟩:=h;refine⟨_,dI hc a1 hn aU,λ P0 P σ H Q ρ v d E hv h=>?_⟩;cases hv with
 | @tup a xs ds hs hl =>
  dsimp only at h;by_cases hd:ds.length=n
  ·rw[if_pos hd] at h;exact⟨a,xs,rfl,El.of (Am hs).2,by rw[hl.length];exact hd,a2 P0 P σ H Q ρ xs ds E hl h⟩
  ·rw[if_neg hd] at h;exact h.elim
 |_=>exact h.elim
theorem AV (ha:DE X WX true e f):DI X WX tg e (λ ρ=>(f ρ).bind λ d=>match d with | .lst ds=>.ok ds | _=>.bad):=by
 obtain⟨ta,a1,a2⟩:=ha;refine⟨_,XN a1,λ P0 P σ H R ρ E h=>?_⟩;dsimp only at h;refine a2 P0 P σ H _ ρ E ?_;cases q:f ρ with
 |bad|ex x=>rw[q] at h;exact h
 |ok d =>
  rw[q] at h;cases d with
  |lst ds =>
   intro v H1 s1 hv;cases hv with
   | @lst a xs _ hs hl =>
    refine⟨a,rfl,⟨xs,hs.Bj⟩,h _ H1 s1 ⟨λ i P' H' s hi=>?_,λ i P' H' s hi=>?_,λ i P' H' v dv d s ht hd y=>?_⟩⟩
    ·obtain⟨x,hx,_⟩:=hl.get (zr hi);exact⟨xs,x,(s.seq hs).Bj,hx⟩
    ·exact⟨xs,(s.seq hs).Bj,by rw[hl.length];exact hi⟩
    ·obtain⟨rfl,y⟩:=y;obtain⟨x,hx,bT⟩:=hl.get hd;have e:=y xs (s.seq hs).Bj;rw[hx] at e;cases e;exact⟨Ab.refl _,bT.mono s⟩
  |_=>exact h.elim
noncomputable def C0 (lo:Int):Nat->List D
 |0=>[]
 |n+1=>.int lo::C0 (lo+1) n
theorem Cv (lo:Int):∀n:Nat,(C0 lo n).length=n:=by
 intro n;induction n generalizing lo with
 |zero=>rfl
 |succ n ih=>rw[C0,zo,ih]
theorem HP {lo:Int}{n i:Nat}{d:D}(h:(C0 lo n)[i]?=some d):d=.int (lo+i)/\i<n:=by
 have hi:i<n:=by
  have:=(zE.mp h).1;rw[Cv] at this;exact this
 refine⟨?_,hi⟩;induction n generalizing lo i with
 |zero=>omega
 |succ n ih =>
  cases i with
  |zero=>rw[C0] at h;simp at h;rw[<-h];simp
  |succ i =>
   rw[C0,zO] at h;rw[ih h (by omega)];congr 1;omega
theorem Rr {K:za}{P:Addr->Prop}{H:Hp}(lo:Int)(n:Nat):Yr K (mD lo n) P H (C0 lo n):=
 ⟨λ i P' H' _ hi=>by rw[Cv] at hi;exact hi,λ i P' H' _ hi=>by rw[Cv] at hi;exact hi,λ i P' H' v dv d _ _ hd y=>by
  obtain⟨rfl,rfl⟩:=y;obtain⟨rfl,_⟩:=HP hd;exact⟨Ab.refl _,.int _⟩⟩
noncomputable def U3:D->M (List D)
 | .int j=>@ite _ (-(2^62)<=j/\j<2^62) (xq _) (.ok (C0 0 j.toNat)) .bad
 |_=>.bad
theorem PD {j:Int}(h1 : -(2^62)<=j)(h2:j<2^62):U3 (.int j)=.ok (C0 0 j.toNat):=if_pos ⟨h1,h2⟩
theorem Li {n:Nat}(h:n<=1000):U3 (.int (n:Int))=.ok (C0 0 n):=by
 rw[PD (by omega) (by omega),yk]
theorem GX {p:Pos}(hg:Gl X "range")(hm:X.mg "range" = none)(ha:DE X WX c a f)(hs:starEach [a] X.env=[(false,eval a X.env)]:=by rfl):
 DI X WX tg (.Call (.Name "range" p) [a] [] pos) (λ ρ=>(f ρ).bind U3):=by
 obtain⟨ta,a1,a2⟩:=ha;refine⟨_,Tx hg hm (Bl a1 Cs hs) hs,λ P0 P σ H R ρ E h=>?_⟩;dsimp only at h;refine a2 P0 P σ H _ ρ E ?_;cases q:f ρ with
 |bad|ex x=>rw[q] at h;exact h
 |ok d =>
  rw[q] at h;cases d with
  |int j =>
   simp only[M.A6] at h;by_cases hj : -(2^62)<=j/\j<2^62
   ·rw[PD hj.1 hj.2] at h;exact λ v H1 s1 hv=>⟨j,by rw[hv.int_inv],hj.1,hj.2,h _ H1 s1 (Rr 0 _)⟩
   ·have e:U3 (.int j)=.bad:=if_neg hj;rw[e] at h;exact h.elim
  |_=>exact h.elim
noncomputable def K7 (k:Nat):List D->List D
 |[]=>[]
 |d::r=>.tup [.int k,d]::K7 (k+1) r
theorem Js (k:Nat)(ds:List D):(K7 k ds).length=ds.length:=by
 induction ds generalizing k with
 |nil=>rfl
 |cons d r ih=>rw[K7,zo,zo,ih]
theorem Nc {k i:Nat}{ds:List D}{e:D}(h:(K7 k ds)[i]?=some e):∃d,ds[i]?=some d/\e=.tup [.int ((k+i:Nat):Int),d]:=by
 induction ds generalizing k i with
 |nil=>rw[K7] at h;simp at h
 |cons d r ih =>
  cases i with
  |zero=>rw[K7] at h;simp at h;exact⟨d,rfl,by rw[<-h];rfl⟩
  |succ i =>
   rw[K7,zO] at h;obtain⟨d',h1,h2⟩:=ih h;refine⟨d',by simpa using h1,?_⟩;rw[h2];congr 3;omega
theorem Ys {bZ:List Expr}{x1}{bq p:Pos}(hg:Gl X "enumerate")(hm:X.mg "enumerate" = none)(ha:DE X WX true a f)(hb:bootBuiltins "enumerate" = some (.type "enumerate"):=by decide +kernel)(hs:starEach [a] X.env=[(false,eval a X.env)]:=by rfl):
 DI X WX (.Tuple bZ x1 bq) (.Call (.Name "enumerate" p) [a] [] pos) (λ ρ=>(f ρ).bind λ d=>match d with | .lst ds=>.ok (K7 0 ds)|_=>.bad):=by
 obtain⟨ta,a1,a2⟩:=ha;refine⟨_,Yl hg hm (Bl a1 Cs hs) hb hs,λ P0 P σ H R ρ E h=>?_⟩;dsimp only at h;refine a2 P0 P σ H _ ρ E ?_;cases q:f ρ with
 |bad|ex x=>rw[q] at h;exact h
 |ok d =>
  rw[q] at h;cases d with
  |lst ds =>
   intro v H1 s1 hv;cases hv with
   | @lst a xs _ hs hl =>
    refine⟨a,rfl,⟨xs,hs.Bj⟩,h _ H1 s1 ⟨λ i P' H' s hi=>?_,λ i P' H' s hi=>?_,λ i P' H' v dv d s ht hd y=>?_⟩⟩
    ·rw[Js] at hi;obtain⟨x,hx,_⟩:=hl.get (zr hi);exact⟨xs,x,(s.seq hs).Bj,hx⟩
    ·rw[Js] at hi;exact⟨xs,(s.seq hs).Bj,by rw[hl.length];exact hi⟩
    ·obtain⟨p,x,hn,rfl,y,rfl⟩:=y;obtain⟨d',gc,rfl⟩:=Nc hd;obtain⟨x',hx,bT⟩:=hl.get gc;have e:=y xs (s.seq hs).Bj;rw[hx] at e;cases e;refine⟨AG hn _,.tup (GV hn ht) (.cons ?_ (.cons ((bT.mono s).mono (AG hn _).del) .nil))⟩;rw[Nat.zero_add];exact .int _
  |_=>exact h.elim
theorem IK {α:Type}{l:List α}{i:Nat}(h:i<l.length):l.drop i=l[i]::l.drop (i+1):=List.drop_eq_getElem_cons h
theorem Cw {body:List Stmt}(hp:PassesOwn (model X.prog X.w) X.A X.env X.xe)(hc:X.calm=true)(hi:DI X WX tg iter fi)(hg:DG X tg gt)(hb:QS X WX body gb)(hs:∀x,foldedSetIterable iter X.env x=pure x:=by intro _;rfl):
 DS X WX (.For tg iter body [] pos) (λ ρ=>(fi ρ).bind λ ds=>forM gt gb ds ρ):=by
 obtain⟨wi,i1,i2⟩:=hi;obtain⟨t,a1,a2⟩:=hg;obtain⟨tb,b1,b2⟩:=hb;refine⟨_,dP hp hc i1 a1 b1 hs,λ P0 P σ H Z ρ E h=>?_⟩;dsimp only at h;refine i2 P0 P σ H _ ρ E ?_;cases q:fi ρ with
 |bad=>rw[q] at h;exact h
 |ex x=>rw[q] at h;exact λ H' s=>h H' P (E.tr s)
 |ok ds =>
  rw[q] at h;simp only[M.A6] at h;intro J H1 s1 ok;refine⟨λ i m σ' H'=>m=ds.length-i/\i<=ds.length/\∃P' ρ',Tr P0 P H1 P' H'/\Ai X.K P0 P' H' σ' ρ'/\gS X.K WX P0 P' H' Z (forM gt gb (ds.drop i) ρ'),
   ⟨ds.length,by simp,zW _,P,ρ,Tr.refl,E.same s1,by rw[List.drop_zero];exact h.tr (E.tr s1)⟩,?_⟩
  rintro i m σ' H' ⟨rfl,hi,P',ρ',t',E',g'⟩;by_cases ap:i<ds.length
  ·refine .inr ⟨ok.go i P' H' t'.1 ap,λ σ2 H2=>i+1<=ds.length/\∃P2 ρ2,Tr P0 P H1 P2 H2/\Ai X.K P0 P2 H2 σ2 ρ2/\gS X.K WX P0 P2 H2 Z (forM gt gb (ds.drop (i+1)) ρ2),λ σ2 H2 hq=>⟨ds.length-(i+1),by omega,rfl,hq.1,hq.2⟩,λ v H2 y=>?_⟩;obtain⟨s2,hv⟩:=ok.Zx i P' H' v H2 ds[i] t'.1 E'.C4 (zr ap) y;rw[IK ap,forM] at g';have E2:=E'.same s2;refine a2 P0 P' σ' H2 _ ρ' v ds[i] E2 hv ?_;cases q1:gt ds[i] ρ' with
   |bad=>rw[q1] at g';exact g'
   |ex x=>rw[q1] at g';exact g'.elim
   |ok ρ1 =>
    rw[q1] at g';dsimp only at g';intro σ3 E3;refine b2 P0 P' σ3 H2 _ ρ1 E3 ?_;have tt:Tr P0 P H1 P' H2:=t'.trans (E'.tr s2);cases q2:gb ρ1 with
    |bad=>rw[q2] at g';exact g'
    |ex x=>rw[q2] at g';exact gS.tr (m:=.ex x) g' (E'.tr s2)
    |ok o =>
     rw[q2] at g';cases o with
     |ret d=>exact gS.tr (m:=.ok (.ret d)) g' (E'.tr s2)
     |BZ d=>exact gS.tr (m:=.ok (.BZ d)) g' (E'.tr s2)
     |Ed d ρ2=>exact gS.tr (m:=.ok (.Ed d ρ2)) g' (E'.tr s2)
     |next ρ2|cont ρ2=>exact λ σ4 H4 P4 t4 E4=>⟨ap,P4,ρ2,tt.trans t4,E4,gS.tr g' ((E'.tr s2).trans t4)⟩
     |brk ρ2=>exact λ σ4 H4 P4 t4 E4=>g' σ4 H4 P4 ((E'.tr s2).trans t4) E4
  ·have e:i=ds.length:=by omega
   subst e;refine .inl ⟨ok.stop _ P' H' t'.1 (zv _),?_⟩;rw[List.drop_length,forM] at g';exact g' σ' H' P' Tr.refl E'
end
noncomputable def Rt (K:za)(n:Nat)(F:List D->M D):Sp:=λ vs H Q _=>vs.length=n/\∃P ds,(∀a,P a->Eb H a)/\Ae K (del H P) vs ds/\gV K (λ _ _=>False) P H Q (F ds)
noncomputable def AH (N:List Str)(ds:List D):A9:=ds.map (λ d=>some (.val d))++z0 (N.length-ds.length) none
noncomputable def oJ:Cl->M D
 | .val d=>.ok d
 | .own ds=>.ok (.lst ds)
 | .ow (.rows G4)=>.ok (.lst (G4.map D.lst))
 | .ow (.Kr _ _)=>.bad
 | .ow (.tree _ t)=>.ok (er t)
noncomputable def fin (m:M Out):M D:=match m with
 | .ok (.ret d)=>.ok d
 | .ok (.BZ c)=>oJ c
 | .ok (.next _)=>.ok .AD
 |_=>.bad
theorem Nd {K:za}{P:Addr->Prop}{H:Hp}{N:List Str}{vs:List V}{ds:List D}(ht:∀a,P a->Eb H a)(h:Ae K (del H P) vs ds):Ai K ⟨P,λ _=>0⟩ P H (start N vs) (AH N ds):=by
 have hl:=h.length;have key:∀(i:Nat) (c:Cl),(AH N ds)[i]?=some (some c)->∃d,ds[i]?=some d/\c=.val d:=λ i c e=>by
  unfold AH at e;by_cases hi:i<ds.length
  ·rw[yz (by simpa using hi),zB] at e;cases q:ds[i]? with
   |none=>rw[q] at e;cases e
   |some d=>rw[q] at e;cases e;exact⟨d,rfl,rfl⟩
  ·rw[xi (by simpa using hi),List.getElem?_replicate] at e;split at e<;>cases e
 refine⟨λ _ h=>h,ht,λ i d e=>?_,λ i es e io=>?_,λ i j c c' v v' fp ah e _ _ _ ho _ _=>?_,?_,λ i c n e hp=>?_⟩
 rotate_left 4
 ·obtain⟨d',q,z⟩:=key i _ e;cases z;cases hp
 ·obtain⟨d',q,z⟩:=key i _ e;cases z;obtain⟨v,hv,hd⟩:=h.get q;refine⟨v,?_,hd⟩;unfold start;rw[yz (by rw[ze];exact (zE.mp hv).1),zB,hv];rfl
 ·obtain⟨d',q,z⟩:=key i _ e;cases z;cases io
 ·obtain⟨d',q,z⟩:=key i _ e;cases z;exact ho.elim
 ·unfold start AH;simp[hl]
theorem D6 {P:Addr->Prop}{H H':Hp}{P':Addr->Prop}(t:Tr P P H P' H'):Ab H H':=λ b o e=>by
 by_cases hb:P b
 ·rw[t.2 b hb];exact e
 ·exact (Am (t.1 b o (by rw[AA hb];exact e))).2
theorem DC.fA {K:za}{H:Hp}{P P0:Addr->Prop}(hs:∀a,P0 a->P a):∀ {ps:List Addr}{G4:List (List D)},(∀a∈ps,¬ P0 a)->DC K H P ps G4->Ae K (del H P0) (ps.map V.ref) (G4.map D.lst)
 |_,_,_,.nil=>.nil
 |_,_,k,.cons h r t=>.cons (.lst (.of (show del H P0 _=_ by rw[AA (k _ zd)];exact h)) (r.mono (BH hs))) (DC.fA hs (λ a ha=>k a (zf _ ha)) t)
theorem Yt {K:za}{WX:Str->Hp->Prop}{P P2:Addr->Prop}{H H':Hp}{Q:VK}{c:Cl}{v:V}{fp:List Addr}(h:gV K WX P H Q (oJ c))(t':Tr P P H P2 H')(hs:∀a,P a->P2 a)(ht:∀a,P2 a->Eb H' a)(ho:Cm K H' P2 c v fp)(hp:∀a∈fp,P2 a/\¬ P a):Q v H':=by
 cases c with
 |val d=>exact ho.elim
 |own ds =>
  obtain⟨p,xs,rfl,rfl,h1,h2⟩:=ho;exact h _ H' (D6 t') (.lst (.of (show del H' P p=_ by rw[AA (hp p zd).2];exact h1)) (h2.mono (BH hs)))
 |ow o =>
  cases o with
  |rows G4 =>
   obtain⟨p,ps,rfl,rfl,h1,h2⟩:=ho;exact h _ H' (D6 t') (.lst (.of (show del H' P p=_ by rw[AA (hp p zd).2];exact h1)) (h2.fA hs λ a ha=>(hp a (zf _ ha)).2))
  |Kr p ds=>exact h.elim
  |tree p t=>exact h _ H' (D6 t') (BC.has hs (λ a ha=>(hp a ha).2) ho)
section
variable {P:Program}{w:World}{K:za}{mg:Str->Option Value}{base:Heap}
theorem kT {x qual:Str}{st:Stmt}{f:Addr}{fd:FuncData}{N ps:List Str}{k:Nat}(F:V9 K x qual st f fd)(S:Ag N ps (A3 st))(g:A9->M Out)
 (hb:∀(B1:Value) (A:Around) (outer:List Env) (s:Shared) (H:Hp) (E:XK),Bq k (A.deeper (envOfC qual (A3 st) s.heap.objs.size f B1))->QS (Kn Y8 P w K mg base N qual (A3 st) f B1 A outer s H E).jF (λ _ _=>False) (As st) g):
 CV P w K mg base Y8 (k+1) f fd ps (Rt K ps.length λ ds=>fin (g (AH N ds))):=by
 refine F.ok S (λ vs H Q E h=>h.1) λ B1 A outer s H vs Q E hr h=>?_;obtain⟨hl,P',ds,ht,hv,hq⟩:=h;obtain⟨t,h1,h2⟩:=hb B1 A outer s H E hr;refine⟨t,h1,h2 ⟨P',λ _=>0⟩ P' _ H _ _ (Nd ht hv) ?_⟩;dsimp only at hq;revert hq;cases g (AH N ds) with
 |bad|ex x=>exact λ h=>h.elim
 |ok o =>
  cases o with
  |ret d=>exact λ h v H' P2 t hv=>h v H' (D6 t) hv
  |next ρ=>exact λ h σ' H' P2 t E=>h .AD H' (D6 t) .AD
  |brk ρ|cont ρ=>exact λ h=>h.elim
  |BZ c=>exact λ h v fp H' P2 t hs ht ho hp nd=>Yt h t hs ht ho hp
  |Ed d ρ=>exact λ h=>h.elim
end
section
variable {X:Cx}{WX:Str->Hp->Prop}{c:Bool}{P0:Ea}{P:Addr->Prop}{H:Hp}{σ:St}{ρ:A9}{a b e tg iter:Expr}{f g:A9->M D}{ft:A9->M Bool}{pos:Pos}{gt:D->A9->M A9}{fi:A9->M (List D)}{es:List Expr}{fs:A9->M (List D)}
noncomputable def Bp (μ:List (Option Nat))(ρ:A9):A9:=μ.map λ o=>o.bind λ i=>match ρ[i]? with | some (some (.val d))=>some (.val d) | _=>none
theorem GY {μ:List (Option Nat)}{ρ:A9}{j:Nat}{cl:Cl}(h:(Bp μ ρ)[j]?=some (some cl)):∃i d,μ[j]?=some (some i)/\ρ[i]?=some (some (.val d))/\cl=.val d:=by
 unfold Bp at h;rw[zB] at h;cases q:μ[j]? with
 |none=>rw[q] at h;cases h
 |some o =>
  rw[q] at h;cases o with
  |none=>cases h
  |some i =>
   simp only[yf,Option.bind_some,Option.some.injEq] at h;split at h
   ·rename_i d e;cases h;exact⟨i,d,rfl,e,rfl⟩
   ·cases h
theorem Ai.block {K:za}(E:Ai K P0 P H σ ρ)(μ:List (Option Nat)):Ai K P0 P H (HJ μ σ) (Bp μ ρ):=by
 refine⟨E.sub,E.C4,λ j d h=>?_,λ j ds h io=>?_,λ j k c c' v v' fp ah h _ _ _ ho _ _=>?_,by unfold HJ Bp;simp,λ j c n h hp=>by obtain⟨i,d',h1,h2,h3⟩:=GY h;subst h3;cases hp⟩
 ·obtain⟨i,d',h1,h2,h3⟩:=GY h;cases h3;obtain⟨v,h4,h5⟩:=E.val i d h2;refine⟨v,?_,h5⟩;unfold HJ;rw[zB,h1];simp[h4]
 ·obtain⟨i,d',h1,h2,h3⟩:=GY h;cases h3;cases io
 ·obtain⟨i,d',h1,h2,h3⟩:=GY h;cases h3;exact ho.elim
noncomputable def B3 (gt:D->A9->M A9)(ft:A9->M Bool)(fe:A9->M D):List D->A9->M (List D)
 |[],_=>.ok []
 |d::r,ρ=>match gt d ρ with
  | .ok ρ1=>(match ft ρ1 with
   | .ok k=>if k=true then (match fe ρ1 with
    | .ok y=>(match B3 gt ft fe r ρ with | .ok ys=>.ok (y::ys)|_=>.bad)
    |_=>.bad) else B3 gt ft fe r ρ
   |_=>.bad)
  |_=>.bad
def oK (X:Cx)(scope:Scope)(NB:List Str)(μ:List (Option Nat))(tg:Expr)(gt:D->A9->M A9):Prop:=
 ∃g:TG,(∀s H C ex,PG (blockOf X s H scope C NB ex) tg g)/\Ld μ g/\∀P0 P σ H Q ρ v d,Ai X.K P0 P H σ ρ->BB X.K (del H P) v d->gG X.K P0 P H Q (gt d ρ)->g v σ H Q
theorem Bm {scope:Scope}{NB:List Str}{μ:List (Option Nat)}(i:Nat){x:Str}(hN:NB.Nodup)(hi:NB[i]?=some x)(hx:(relabel scope X.env).names.lookup x=some .local)(hm:μ[i]?=some none):oK X scope NB μ (.Name x pos) (λ d ρ=>.ok (ρ.set i (some (.val d)))):=
 ⟨Sg i,λ s H C ex=>Sh (X:=blockOf X s H scope C NB ex) hN hi (.inl hx) (.inr hx),Yi hm,λ P0 P σ H Q ρ v d E hv h=>h _ (E.U1 hv)⟩
def mK (X:Cx)(cs:List Expr)(f:A9->M Bool):Prop:=
 ∃t,iL X cs t/\∀P0 P σ H Q ρ,Ai X.K P0 P H σ ρ->gT (λ _ _=>False) H Q (f ρ)->t σ H Q
theorem Ef:mK X [] (λ _=>.ok true):=⟨_,Yg,λ P0 P σ H Q ρ E h=>h H (Ab.refl H)⟩
theorem IL (h:DT X (λ _ _=>False) a ft):mK X [a] ft:=let ⟨t,h1,h2⟩:=h;⟨_,Yh h1,h2⟩
noncomputable def Gh (m:M (List D)):M D:=match m with | .ok ys=>.ok (.lst ys) | _=>.bad
theorem fB {μ:List (Option Nat)}{wi:TI}{gg:TG}{tc:Shared->Hp->Addr->List Addr->TT}{te:Shared->Hp->Addr->List Addr->TE}{fe:A9->M D}
 (i2:∀P0 P σ H R ρ,Ai X.K P0 P H σ ρ->(match fi ρ with | .ok ds=>∀J H',Ab H H'->Yr X.K J P H' ds->R J H' | .ex x=>∀H',Ab H H'->WX x H' | .bad=>False)->wi σ H R)
 (g2:∀P0 P σ H Q ρ v d,Ai X.K P0 P H σ ρ->BB X.K (del H P) v d->gG X.K P0 P H Q (gt d ρ)->gg v σ H Q)
 (t2:∀s H' C ex P0 P σ H Q ρ,Ai X.K P0 P H σ ρ->gT (λ _ _=>False) H Q (ft ρ)->tc s H' C ex σ H Q)
 (e2:∀s H' C ex P0 P σ H Q ρ,Ai X.K P0 P H σ ρ->gV X.K (λ _ _=>False) (Lv c P0 P) H Q (fe ρ)->te s H' C ex σ H Q) {Q:VK}
 (E:Ai X.K P0 P H σ ρ) (h:gV X.K WX (Lv c P0 P) H Q ((fi ρ).bind λ ds=>if ds.length<=1000 then Gh (B3 gt ft fe ds (Bp μ ρ)) else .bad)):Sr wi μ gg tc te σ H Q:=by
 refine i2 P0 P σ H _ ρ E ?_;cases q:fi ρ with
 |bad|ex x=>rw[q] at h;exact h
 |ok ds =>
  rw[q] at h;simp only[M.A6] at h;by_cases hd:¬ ds.length<=1000
  ·rw[if_neg hd] at h;exact h.elim
  have hd:ds.length<=1000:=by omega
  rw[if_pos hd] at h;intro J H1 s1 ok s C ex;cases qc:B3 gt ft fe ds (Bp μ ρ) with
  |bad|ex x=>rw[qc] at h;exact h.elim
  |ok total =>
   rw[qc] at h;unfold Gh at h;dsimp only at h;have E1:=E.same s1;refine⟨λ i m ys H2=>m=ds.length-i/\i<=ds.length/\ys.length<=i/\Ab H1 H2/\∃es rest,Ae X.K (del H2 (Lv c P0 P)) ys es/\B3 gt ft fe (ds.drop i) (Bp μ ρ)=.ok rest/\es++rest=total,
    ⟨ds.length,by simp,zW _,zv _,Ab.refl _,[],total,.nil,by rw[List.drop_zero];exact qc,rfl⟩,?_⟩
   rintro i m ys H2 ⟨rfl,hi,hy,s2,es,rest,dw,aj,aZ⟩;by_cases ap:i<ds.length
   ·refine .inr ⟨ok.go i P H2 s2.del ap,Nat.lt_of_le_of_lt hy (AF (by omega)),λ bh H'=>i+1<=ds.length/\bh.length<=i+1/\Ab H1 H'/\∃es rest,Ae X.K (del H' (Lv c P0 P)) bh es/\B3 gt ft fe (ds.drop (i+1)) (Bp μ ρ)=.ok rest/\es++rest=total,λ bh H' hq=>⟨ds.length-(i+1),by omega,rfl,hq.1,hq.2.1,hq.2.2.1,hq.2.2.2⟩,λ v H3 y=>?_⟩;have E2:=E1.same s2;obtain⟨s3,hv⟩:=ok.Zx i P H2 v H3 ds[i] s2.del E2.C4 (zr ap) y;rw[IK ap,B3] at aj;have E3:=(E2.same s3).block μ;refine g2 P0 P _ H3 _ (Bp μ ρ) v ds[i] E3 hv ?_;cases q1:gt ds[i] (Bp μ ρ) with
    |bad|ex x=>rw[q1] at aj;cases aj
    |ok ρ1 =>
     rw[q1] at aj;dsimp only at aj;intro σ4 E4;refine t2 s H1 C ex P0 P σ4 H3 _ ρ1 E4 ?_;cases q2:ft ρ1 with
     |bad|ex x=>rw[q2] at aj;cases aj
     |ok k =>
      rw[q2] at aj;dsimp only at aj;intro H5 s5;cases k with
      |false =>
       simp only[zy,if_false] at aj ⊢;exact⟨ap,by omega,(s2.trans s3).trans s5,es,rest,(dw.mono s3.del).mono s5.del,aj,aZ⟩
      |true =>
       simp only[if_true] at aj ⊢;refine e2 s H1 C ex P0 P σ4 H5 _ ρ1 (E4.same s5) ?_;cases q3:fe ρ1 with
       |bad|ex x=>rw[q3] at aj;cases aj
       |ok y' =>
        rw[q3] at aj;dsimp only at aj;cases q4:B3 gt ft fe (ds.drop (i+1)) (Bp μ ρ) with
        |bad|ex x=>rw[q4] at aj;cases aj
        |ok mx =>
         rw[q4] at aj;cases aj;intro w H6 s6 hw;refine⟨ap,by rw[zT,xa];omega,((s2.trans s3).trans s5).trans s6,es++[y'],mx,(((dw.mono s3.del).mono s5.del).mono s6.del).snoc hw,rfl,?_⟩;rw[List.append_assoc];exact aZ
   ·have e:i=ds.length:=by omega
    subst e;rw[List.drop_length,B3] at aj;cases aj;rw[yc] at aZ;subst aZ;refine .inl ⟨ok.stop _ P H2 s2.del (zv _),λ D0 hn=>h _ _ ((s1.trans s2).trans (AG hn _)) (.lst (.of (GV hn λ a q=>(E1.same s2).kN c a q)) (dw.mono (AG hn _).del))⟩
theorem IM {scope:Scope}{NB:List Str}{ifs:List Expr}{elt:Expr}{fe:A9->M D}(i:Nat){x:Str}{px aE:Pos}(μ:List (Option Nat))(hN:X.N.Nodup)(mf:X.N[i]?=some x)(hx:Loc X.env.scope x)(hc:X.calm=true)(hi:DI X WX tg iter fi)(aB:Jk scope X.env.scope=true)(bK:Pq X.N NB scope μ=true)(hg:oK X scope NB μ tg gt)
 (ht:∀s H C ex,mK (blockOf X s H scope C NB ex) ifs ft) (he:∀s H C ex,DE (blockOf X s H scope C NB ex) (λ _ _=>False) true elt fe)
 (bY:swapsWith (.ListComp elt [⟨tg,iter,ifs,0⟩] scope pos) (some (.Name x px)) aE.line X.env=pure true:=by rfl) (hs:∀x,foldedSetIterable iter X.env x=pure x:=by intro _;rfl) (hf:X.fn x=true\/X.env.scope.names.lookup x=some .local:=by first|exact .inl rfl|exact .inr rfl|assumption):
 DS X WX (.Assign [.Name x px] (.ListComp elt [⟨tg,iter,ifs,0⟩] scope pos) aE) (λ ρ=>((fi ρ).bind λ ds=>if ds.length<=1000 then Gh (B3 gt ft fe ds (Bp μ ρ)) else .bad).bind λ d=>.ok (.next (ρ.set i (some (.val d))))):=by
 obtain⟨wi,i1,i2⟩:=hi;obtain⟨gg,g1,gk,g2⟩:=hg;refine⟨_,Yk hN mf hx hc i1 aB bK gk (λ s H C ex=>⟨g1 s H C ex,(zb (ht s H C ex)).1,(zb (he s H C ex)).1⟩) bY hs hf,λ P0 P σ H Z ρ E h=>?_⟩;refine fB (c:=true) i2 g2 (λ s H' C ex P0 P σ H Q ρ E h=>(zb (ht s H' C ex)).2 P0 P σ H Q ρ E h) (λ s H' C ex P0 P σ H Q ρ E h=>(zb (he s H' C ex)).2 P0 P σ H Q ρ E h) E ?_;dsimp only at h;revert h;cases ((fi ρ).bind λ ds=>if ds.length<=1000 then Gh (B3 gt ft fe ds (Bp μ ρ)) else .bad) with
 |bad=>exact λ h=>h
 |ex y=>exact λ h H' s=>h H' P (E.tr s)
 |ok d=>exact λ h v H' s hv=>h _ H' P (E.tr s) ((E.same s).U1 hv)
end
section
variable {X:Cx}{WX:Str->Hp->Prop}{c:Bool}{P0:Ea}{P:Addr->Prop}{H:Hp}{σ:St}{ρ:A9}{a b e k:Expr}{f g:A9->M D}{te tk:TE}{pos p2:Pos}
noncomputable def oM (K:za)(te tk:TE):TE:=λ σ H Q=>te σ H λ x H1=>tk σ H1 λ y H2=>∃a xs,x=.ref a/\y=.int (-1)/\D8 K H2 a xs/\∀p,H2 p=none->Q (.ref p) (upd H2 p (.lst xs.reverse))
theorem fC (he:PE X e te)(hk:PE X k tk):PE X (.Subscript e (.Slice none none (some k) p2) pos) (oM X.K te tk):=by
 intro pins s σ H Q I h;refine Subscript_ (B2 (he pins s σ H _ I h) λ v s1 ⟨x,H1,I1,r1,q1⟩=>?_);refine wpAny_Slice ?_;rw[evalPart_none];refine wpAny_pure ?_;refine wpAny_pure ?_;rw[evalPart_some];refine B2 (hk pins s1 σ H1 _ I1 q1) λ vk s3 ⟨y,H3,I3,r3,q3⟩=>?_;obtain⟨a,xs,rfl,rfl,hx,q⟩:=q3;cases r1;obtain⟨t,rfl⟩:=r3;have I4:Inv X pins σ H3 {s3 with heap:=s3.heap.push {cls:=.type "slice",data:=.fields #[.none,.none,.int (-1) t]} }:=I3.kept (t':=s3.toks) λ b ob q=>zh _ q;show wpAny (model X.prog X.w) X.A (subscriptTail e (.Slice none none (some k) p2) (.ref a) (.ref s3.heap.objs.size)) (EP X pins σ Q) X.xe {s3 with heap:=s3.heap.push {cls:=.type "slice",data:=.fields #[.none,.none,.int (-1) t]} };obtain⟨aa,r,ht,hz⟩:=I4.list hx;have hlen:=r.length;refine tail_any (ops:=[.ref a,.ref s3.heap.objs.size]) ht.isList.typeIs slot_list_getitem.lookup ?_ (by with_unfolding_all rfl);refine wpAny_getItem_list_slice ht.isList (Heap.IsSliceOf.new ..) .none .none (.int (-1) t) (by decide) ?_ (by rw[zj]<;>omega);rw[PySem.W.krv_pick];exact⟨.ref _,_,I4.laid (t':=s3.toks) (o:=.lst xs.reverse) (λ b ob q=>zh _ q) (zv _) ⟨by rw[List.length_reverse];exact hz,aa.reverse,0,r.reverse,zA _ rfl⟩,rfl,q _ (I4.Ao.fresh (zv _))⟩
noncomputable def fD (x y:D):M D:=match x,y with | .lst ds,.int i=>if i = -1 then .ok (.lst ds.reverse) else .bad | _,_=>.bad
theorem fE (ha:DE X WX c e f)(hb:DE X WX c k g):DE X WX c (.Subscript e (.Slice none none (some k) p2) pos) (λ ρ=>(f ρ).bind λ x=>(g ρ).bind λ y=>fD x y):=by
 obtain⟨ta,a1,a2⟩:=ha;obtain⟨tb,b1,b2⟩:=hb;refine⟨_,fC a1 b1,λ P0 P σ H Q ρ E h=>N8 (r:=λ x y H2 Q=>∃a xs,x=.ref a/\y=.int (-1)/\D8 X.K H2 a xs/\∀p,H2 p=none->Q (.ref p) (upd H2 p (.lst xs.reverse))) a2 b2 ?_ E h⟩;intro P H x y v w Q ht hx hy h;unfold fD at h;split at h
 ·rename_i ds i;by_cases hi:i = -1
  ·rw[if_pos hi] at h;subst hi;cases hx with
   |lst hs hl=>exact⟨_,_,rfl,hy.int_inv,hs.Bj,λ p hn=>h _ _ (AG hn _) (.lst (.of (GV hn ht)) (hl.reverse.mono (AG hn _).del))⟩
  ·rw[if_neg hi] at h;exact h.elim
 ·exact h.elim
noncomputable def C5:List D->Option (List Int)
 |[]=>some []
 | .int i::r=>(C5 r).map (i::·)
 |_=>none
noncomputable def W4:D->Option (List Int)
 | .tup ds=>C5 ds
 |_=>none
noncomputable def Gi:List D->Option (List (D×List Int))
 |[]=>some []
 |d::r=>(W4 d).bind λ k=>(Gi r).map ((d,k)::·)
noncomputable def Sx (l d:D):M D:=match l with
 | .lst ds=>(match Gi ds with|some ks=>.ok (match AM ks with|none=>d|some b=>b.1)|none=>.bad)
 |_=>.bad
theorem Jt {K:za}{H:Hp}:∀ {xs:List V}{ds:List D}{ns:List Int},Ae K H xs ds->C5 ds=some ns->xs=ns.map V.int
 |_,_,_,.nil,e=>by simp only[C5] at e;cases e;rfl
 |_,_,_,.cons (d:=d) h t,e=>by
  cases d with
  |int i =>
   simp only[C5] at e;cases q:C5 _ with
   |none=>rw[q] at e;cases e
   |some ns =>
    rw[q] at e;cases e;rw[h.int_inv,Jt t q];rfl
  |_=>simp[C5] at e
noncomputable abbrev Alike (K:za)(H:Hp):List (Addr×List Int)->List (D×List Int)->Prop:=Paired λ p q=>p.2=q.2/\BB K H (.ref p.1) q.1
theorem HQ {K:za}{H:Hp}:∀ {xs:List V}{ds:List D}{ks:List (D×List Int)},Ae K H xs ds->Gi ds=some ks->∃bs:List (Addr×List Int),xs=bs.map (λ b=>V.ref b.1)/\(∀b∈bs,El K H b.1 (b.2.map V.int))/\Alike K H bs ks
 |_,_,_,.nil,e=>by simp only[Gi] at e;cases e;exact⟨[],rfl,by simp,.nil⟩
 |_,_,_,.cons (d:=d) h t,e=>by
  simp only[Gi] at e;cases q:W4 d with
  |none=>rw[q] at e;cases e
  |some k =>
   rw[q] at e;simp only[Option.bind_some] at e;cases q2:Gi _ with
   |none=>rw[q2] at e;cases e
   |some ks =>
    rw[q2] at e;cases e;obtain⟨bs,h1,h2,h3⟩:=HQ t q2;cases d with
    |tup es =>
     have h':=h;cases h with
     | @tup a xs _ hs hl =>
      simp only[W4] at q;have e1:=Jt hl q;subst e1;refine⟨(a,k)::bs,by rw[h1];rfl,λ b hb=>?_,.cons ⟨rfl,h'⟩ h3⟩;rcases zp.mp hb with z|z
      ·subst z;exact El.of hs
      ·exact h2 b z
    |_=>simp[W4] at q
theorem Lj {K:za}{H:Hp}{bs:List (Addr×List Int)}{ks:List (D×List Int)}(h:Alike K H bs ks):(AM bs=none/\AM ks=none)\/∃b k,AM bs=some b/\AM ks=some k/\b.2=k.2/\BB K H (.ref b.1) k.1:=by
 unfold AM
 suffices z:∀(o:Option (Addr×List Int)) (o':Option (D×List Int)),((o=none/\o'=none)\/∃b k,o=some b/\o'=some k/\b.2=k.2/\BB K H (.ref b.1) k.1)->
  ((bs.foldl Bo o=none/\ks.foldl Bo o'=none) \/
   ∃b k,bs.foldl Bo o=some b/\ks.foldl Bo o'=some k/\b.2=k.2/\BB K H (.ref b.1) k.1) from z none none (.inl ⟨rfl,rfl⟩)
 induction h with
 |nil=>intro o o' h;exact h
 | @cons b k bs ks hh t ih =>
  intro o o' h;rw[ya,ya];refine ih _ _ ?_;rcases h with ⟨rfl,rfl⟩|⟨b',k',rfl,rfl,e1,e2⟩
  ·exact .inr ⟨b,k,rfl,rfl,hh⟩
  ·unfold Bo;dsimp only;rw[hh.1,e1];by_cases hl:HT.lexLt k.2 k'.2=true
   ·rw[if_pos hl,if_pos hl];exact .inr ⟨b,k,rfl,rfl,hh⟩
   ·rw[if_neg hl,if_neg hl];exact .inr ⟨b',k',rfl,rfl,e1,e2⟩
theorem Yu {p kp:Pos}{e2:Expr}(hc:X.calm=true)(hu:X.A.units+1<cLine)(hg:Gl X "min")(hm:X.mg "min" = none)(ha:DE X WX c e f)(hb:DE X WX c e2 g)
 (aU:starEach [e] X.env=[(false,eval e X.env)]:=by rfl) (bv:(backToKw pos (keywordEach [⟨some "default",e2,kp⟩] X.env)).all (·.1.isSome)=true:=by rfl) (mo:(backToKw pos (keywordEach [⟨some "default",e2,kp⟩] X.env)).filterMap (·.1)=([("default" : Str)]:List Str):=by rfl)
 (mq:(backToKw pos (keywordEach [⟨some "default",e2,kp⟩] X.env)).any (·.1.isNone)=false:=by rfl) (ii:backTo pos (starEach [e] X.env)=(false,eval e X.env)::backTo pos (starEach [] X.env):=by rfl) (az:(backTo pos (starEach [e] X.env)).any (·.1)=false:=by rfl):
 DE X WX c (.Call (.Name "min" p) [e] [⟨some "default",e2,kp⟩] pos) (λ ρ=>(f ρ).bind λ x=>(g ρ).bind λ y=>Sx x y):=by
 obtain⟨ta,a1,a2⟩:=ha;obtain⟨tb,b1,b2⟩:=hb;refine⟨_,Ym hc hu hg hm a1 b1 aU bv mo mq ii az,λ P0 P σ H Q ρ E h=>N8 (r:=λ x d H2 Q=>∃(a:Addr) (bs:List (Addr×List Int)),x=.ref a/\D8 X.K H2 a (bs.map λ b=>V.ref b.1)/\(∀b∈bs,El X.K H2 b.1 (b.2.map V.int))/\Q (match AM bs with|none=>d|some b=>.ref b.1) H2) a2 b2 ?_ E h⟩;intro P H x y v w Q ht hx hy h;unfold Sx at h;split at h
 ·rename_i ds;split at h
  ·rename_i ks e1;cases hx with
   | @lst a xs _ hs hl =>
    obtain⟨bs,rfl,h2,h3⟩:=HQ hl e1;refine⟨a,bs,rfl,hs.Bj,λ b hb=>(h2 b hb).Bj,?_⟩;rcases Lj h3 with ⟨q1,q2⟩|⟨b,k,q1,q2,_,q3⟩
    ·rw[q1];rw[q2] at h;exact h _ H (Ab.refl H) hy
    ·rw[q1];rw[q2] at h;exact h _ H (Ab.refl H) q3
  ·exact h.elim
 ·exact h.elim
end
theorem AW {A:Around}{k:Nat}(hr:Bq k A)(n:Nat)(hn:n<=64):A.units+n<cLine:=by have:=hr.units;omega
structure AX (K:za)(mg:Str->Option Value)(x:Str)(st:Stmt)(ps:List Str):Prop where
 ex:∃f fd,V9 K x x st f fd/\mg x=some (.ref f)/\Binds K fd ps []
theorem W5 (ds:List D)(n:Nat):ZG none (some (n:Int)) (.lst ds)=.ok (.lst (ds.take n)):=by
 unfold ZG;dsimp only;rw[HT.Ph,HT.Ky,List.drop_zero,Nat.sub_zero];congr 2;rw[Nat.min_def];split
 ·rfl
 ·rw[yu (zv _),yu (by omega)]
theorem Bi.there {P:Program}{w:World}{H:Hp}{h:Heap}{a:Addr}{o:HO}(x:Bi P w H h a o):∃ob,h.get? a=some ob:=by
 cases o with
 |lst xs=>obtain⟨_,_,_,_,e⟩:=x;exact⟨_,e⟩
 |tup xs=>obtain⟨_,_,_,o,e,_⟩:=x;exact⟨o,e⟩
 |dK kvs|dT kvs=>obtain⟨_,_,_,_,o,_,_,e,_⟩:=x;exact⟨_,e⟩
 |set S n=>obtain⟨o,_,_,_,e,_⟩:=x;exact⟨_,e⟩
 |ins C dx fs=>obtain⟨_,_,_,e,_⟩:=x;exact⟨_,e⟩
 |own y=>obtain⟨_,e⟩:=x;exact⟨_,e⟩
 |xd fs=>obtain⟨_,⟨_,_,_,e,_⟩,_⟩:=x;exact⟨_,e⟩
 |mB lo hi=>obtain⟨_,_,_,e⟩:=x;exact⟨_,e⟩
 |QV ob u=>obtain⟨e,_⟩:=x;exact⟨_,e⟩
 |Zs ps|met f y=>exact⟨_,(show h.get? a=some _ from x)⟩
 |ext φ=>obtain⟨_,⟨_,e⟩,_⟩:=x;exact⟨_,e⟩
theorem FR.gone {P:Program}{w:World}{H:Hp}{h:Heap}{a:Addr}(x:FR P w H h)(e:h.get? a=none):H a=none:=by
 cases q:H a with
 |none=>rfl
 |some o=>obtain⟨ob,z⟩:=(x a o q).there;rw[e] at z;cases z
structure fF (base g:Heap)(H:Hp)(l:List Env)(ea c:Addr)(h:Heap):Prop where
 uA:∃a0,Heap.FlyingW base l ea (.ref c) a0 h
 new:g.get? ea=none
 un:H ea=none
 tr:∀oe vs T,h.get? ea=some oe->oe.data=.fields vs->vs[1]?=some (.ref T)->H T=none/\g.get? T=none
noncomputable def Ru (P:Program)(w:World)(base:Heap):Si:=λ outer H s E ev s'=>∃(ea c:Addr) (H':Hp),ev=.ref ea/\s'.os=s.os/\AllBare s'.gens/\Un (K1 outer) [] H H' s.heap s'.heap/\FR P w H' s'.heap/\fF base s.heap H' outer ea c s'.heap/\E (.ref c) none H'
section
variable {P:Program}{w:World}{K:za}{mg:Str->Option Value}{base:Heap}{N:List Str}{qual:Str}{scope:Scope}{f:Addr}{cd:Value}{A:Around}{outer:List Env}{s:Shared}{H:Hp}{E:XK}
noncomputable abbrev Sy (P:Program)(w:World)(K:za)(mg:Str->Option Value)(base:Heap)(N:List Str)(qual:Str)(scope:Scope)(f:Addr)(cd:Value)(A:Around)(outer:List Env)(s:Shared)(H:Hp)(E:XK):Cx:=
 Kn (Ru P w base) P w K mg base N qual scope f cd A outer s H E
theorem ZH {pins:List (Addr×Obj)}{σ:St}{H1:Hp}{s1:Shared}{h' B:Heap}{ea c:Addr}{a0:Value}{hid:List Addr}(J:Inv (Sy P w K mg base N qual scope f cd A outer s H E) pins σ H1 s1)
 (hB:∀b o,s1.heap.get? b=some o->b∉K1 (envOfC qual scope s.heap.objs.size f cd::outer)->b∉hid->(H1 b≠none\/∃o',s.heap.get? b=some o')->B.get? b=some o) (sH:base.StaysIn B)
 (hh:∀b∈hid,H1 b=none/\s.heap.get? b=none) (hT:∀b,B.get? b=none->b∉K1 (envOfC qual scope s.heap.objs.size f cd::outer)->H1 b=none/\s.heap.get? b=none)
 (sI:s.heap.get? ea=none) (my:H1 ea=none) (F:Heap.FlyingW B outer ea (.ref c) a0 h') (cz:s1.heap.UpToSlots h') (q:E (.ref c) none H1):
 Ru P w base outer H s E (.ref ea) {s1 with heap:=h' }:=by
 have mz:∀b∈K1 outer,∃o,s1.heap.get? b=some o/\∀vs,o.data≠.fields vs:=λ b hb=>(J.Iz.mem hb).2;have ip:∀b o,s.heap.get? b=some o->b≠s.heap.objs.size:=λ b o e=>zI (zt e);have Zt:∀b,b∈K1 (envOfC qual scope s.heap.objs.size f cd::outer)->b=s.heap.objs.size\/b∈K1 outer:=λ b hb=>by
  have a6:b∈s.heap.objs.size::K1 outer:=hb;exact zp.mp a6
 have U:Un (K1 outer) [] H H1 s.heap s1.heap:=J.base;have cg:∀b o,s.heap.get? b=some o->b∉hid:=λ b o e hb=>by rw[(hh b hb).2] at e;cases e
 have iq:∀b o,H1 b≠none->s1.heap.get? b=some o->h'.get? b=some o:=λ b o hn e=>by
  refine F.1 b o (hB b o e (λ hb=>?_) (λ hb=>hn (hh b hb).1) (.inl hn));exact hn (J.NX b hb)
 refine⟨ea,c,H1,rfl,J.os,J.bare,⟨λ b o e n hb hx=>?_,λ b o e n hb hx=>?_,U.free,λ b o e hx=>?_,U.My,U.KY,U.Mz⟩,λ b ob e=>?_,⟨⟨a0,?_⟩,sI,my,λ oe vs T h1 h2 h3=>?_⟩,q⟩
 ·refine F.1 b o (hB b o (U.keep b o e n hb hx) (λ z=>?_) (cg b o e) (.inr ⟨o,e⟩));rcases Zt b z with z|z
  ·exact ip b o e z
  ·exact hb z
 ·obtain⟨sl,e1⟩:=U.slot b o e n hb hx;obtain⟨o2,e2,nf⟩:=mz b hb;rw[e1] at e2;obtain⟨jr,e3⟩:=cz b _ e1 (by cases e2;exact nf);exact⟨jr,e3⟩
 ·obtain⟨o',e1⟩:=U.there b o e hx;by_cases hb:b∈K1 outer
  ·obtain⟨o2,e2,nf⟩:=mz b hb;obtain⟨jr,e3⟩:=cz b _ e2 nf;exact⟨_,e3⟩
  ·refine⟨o',F.1 b o' (hB b o' e1 (λ z=>?_) (cg b o e) (.inr ⟨o,e⟩))⟩;rcases Zt b z with z|z
   ·exact ip b o e z
   ·exact hb z
 ·refine (J.Ao b ob e).NV (λ x v hx q=>iq x v ?_ q) (λ _ q=>q) λ _ _ q=>q;rcases hx with rfl|hx
  ·rw[e];intro z;cases z
  ·rw[hx];intro z;cases z
 ·exact PySem.W.flyingW_base sH F
 ·obtain⟨_,_,ff,u3,bR,T',oT,ts,k1,k2,k3,k4,k5,k6,k7,k8,k9⟩:=F;rw[show ({s1 with heap:=h' }:Shared).heap.get? ea=h'.get? ea from rfl,k1] at h1;cases h1;rw[k3] at h2;cases h2;rw[k4] at h3;cases h3;refine hT T k5 λ hb=>?_;rcases Zt T hb with z|z
  ·obtain⟨m,⟨oL,es,ep,cX,m8,_⟩,_⟩:=J.loc;obtain⟨sl,e3⟩:=cz s.heap.objs.size oL cX λ vs zz=>by rw[m8] at zz;cases zz
   rw[<-z,k7] at e3;cases e3;rw[show oL.data=_ from k8] at m8;cases m8
  ·obtain⟨o2,e2,nf⟩:=mz T z;obtain⟨sl,e3⟩:=cz T o2 e2 nf;rw[k7] at e3;cases e3;exact nf ts k8
theorem W6 {l:List Env}:∀env∈l,∀a,env.frame=some a->a∈K1 l:=λ env he a ha=>List.mem_filterMap.mpr ⟨env,he,ha⟩
theorem Yv {pins:List (Addr×Obj)}{σ:St}{H1:Hp}{s2:Shared}{h1:Heap}{ea C:Addr}{vs:List Value}(J:Inv (Sy P w K mg base N qual scope f cd A outer s H E) pins σ H1 s2)(hx:Heap.MadeExcOf s2.heap h1 ea (.ref C) vs)(q:E (.ref C) none H1):
 (Sy P w K mg base N qual scope f cd A outer s H E).xe (.ref ea) {s2 with heap:=h1}:=by
 have J1:Inv (Sy P w K mg base N qual scope f cd A outer s H E) pins σ H1 {s2 with heap:=h1}:=J.kept (t':=s2.toks) hx.keeps;have fr:=J.stack;have dz:=W6 (l:=envOfC qual scope s.heap.objs.size f cd::outer);refine wpAny_leaves_madeW (base:=PySem.W.hideAll s2.heap (K1 (envOfC qual scope s.heap.objs.size f cd::outer))) (outer:=outer) (L:=s.heap.objs.size) J.ok.frames rfl (λ b o e=>PySem.W.of_hideAll _ e) (PySem.W.funFrames_hide fr dz) hx λ h' t F ht u4 cz=>?_;have ci:∀b,s2.heap.get? b=none->H1 b=none/\s.heap.get? b=none:=λ b e=>by
  refine⟨J.Ao.gone e,?_⟩;cases q:s.heap.get? b with
  |none=>rfl
  |some o=>obtain⟨o',z⟩:=J.base.there b o q (by simp[Kn]);rw[e] at z;cases z
 refine ZH (B:=PySem.W.hideAll s2.heap (K1 (envOfC qual scope s.heap.objs.size f cd::outer))) (hid:=[]) J1 (λ b o e hb _ sJ=>?_) (λ b o e=>?_) (λ b z=>by cases z) (λ b e hb=>?_) (ci ea hx.new).2 (ci ea hx.new).1 F cz q
 ·have jw:∃o2,s2.heap.get? b=some o2:=by
   rcases sJ with z|⟨o',z⟩
   ·cases q2:H1 b with
    |none=>exact absurd q2 z
    |some u=>exact (J.Ao b u q2).there
   ·exact J.base.there b o' z (by simp[Kn])
  obtain⟨o2,e2⟩:=jw;have e3:=hx.keeps b o2 e2;rw[show ({s2 with heap:=h1}:Shared).heap.get? b=h1.get? b from rfl,e3] at e;cases e;exact y9 _ e2 hb
 ·refine y9 _ (J.bk b o e) λ hb=>?_;have z:base.get? b=none:=(fr.mem hb).1;rw[show base.get? b=some o from e] at z;cases z
 ·refine ci b ?_;cases q2:s2.heap.get? b with
  |none=>rfl
  |some o=>rw[y9 _ q2 hb] at e;cases e
theorem Yw:G8 (Ru P w base) (Sy P w K mg base N qual scope f cd A outer s H E) E:=by
 intro pins σ H0 s0 ev s1 I h;obtain⟨ea,c,H1,rfl,sK,sL,U,Ao,⟨⟨a0,F⟩,be,qM,sM⟩,q⟩:=h;have J:Inv (Sy P w K mg base N qual scope f cd A outer s H E) pins σ H1 s1:=I.Zu (ch:=[]) sK U Ao sL λ b hb=>by cases hb
 obtain⟨f1,f2,f3,oe,vs,T,oT,ts,k1,k2,k3,k4,k5,k6,k7,k8,k9⟩:=F;have hT:=sM oe vs T k1 k3 k4;have fr:=J.stack;have entry:∀b,s0.heap.get? b=none->s.heap.get? b=none:=λ b e=>by
  cases q:s.heap.get? b with
  |none=>rfl
  |some o=>obtain⟨o',z⟩:=I.base.there b o q (by simp[Kn]);rw[e] at z;cases z
 have dz:∀env∈(envOfC qual scope s.heap.objs.size f cd::outer),∀a,env.frame=some a->a∈K1 (envOfC qual scope s.heap.objs.size f cd::outer)++[ea,T]:=λ env he a ha=>zK _ (W6 env he a ha);have FB:Heap.FlyingW (PySem.W.hideAll s1.heap (K1 (envOfC qual scope s.heap.objs.size f cd::outer)++[ea,T])) (envOfC qual scope s.heap.objs.size f cd::outer) ea (.ref c) a0 s1.heap:=
  ⟨λ b o e=>PySem.W.of_hideAll _ e,PySem.W.hideAll_none _ (by simp),PySem.W.funFrames_hide fr dz,oe,vs,T,oT,ts,k1,k2,k3,k4,PySem.W.hideAll_none _ (by simp),k6,k7,k8,k9⟩
 refine wpAny_leaves_onW (outer:=outer) (L:=s.heap.objs.size) J.ok.frames rfl FB λ h' F' cz=>?_;have ir:∀b,s1.heap.get? b=none->H1 b=none/\s.heap.get? b=none:=λ b e=>by
  refine⟨J.Ao.gone e,?_⟩;cases q:s.heap.get? b with
  |none=>rfl
  |some o=>obtain⟨o',z⟩:=J.base.there b o q (by simp[Kn]);rw[e] at z;cases z
 have hid:∀b∈[ea,T],H1 b=none/\s.heap.get? b=none:=λ b hb=>by
  rcases zp.mp hb with z|z
  ·rw[z];exact⟨qM,entry ea be⟩
  ·rw[zu.mp z];exact⟨hT.1,entry T hT.2⟩
 refine ZH (hid:=[ea,T]) J (λ b o e hb j6 _=>y9 _ e λ z=>(zM.mp z).elim hb j6) (λ b o e=>?_) hid (λ b e hb=>?_) (entry ea be) qM F' cz q
 ·refine y9 _ (J.bk b o e) λ hb=>?_;rcases zM.mp hb with hb|hb
  ·have z:base.get? b=none:=(fr.mem hb).1;rw[show base.get? b=some o from e] at z;cases z
  ·rcases zp.mp hb with z|z
   ·rw[z] at e;rw[show base.get? ea=some o from e] at f2;cases f2
   ·rw[zu.mp z] at e;rw[show base.get? T=some o from e] at k5;cases k5
 ·by_cases j6:b∈[ea,T]
  ·exact hid b j6
  ·refine ir b ?_;cases q2:s1.heap.get? b with
   |none=>rfl
   |some o=>rw[y9 _ q2 λ z=>(zM.mp z).elim hb j6] at e;cases e
end
structure XCall (X:Cx)(E:XK):Prop where
 call:G8 (Ru X.prog X.w X.base) X E
 own:PassesOwn (model X.prog X.w) X.A X.env X.xe
structure mL (X:Cx)(E:XK):Prop extends XCall X E where
 made:∀pins σ H s h' ea C vs,Inv X pins σ H s->Heap.MadeExcOf s.heap h' ea (.ref C) vs->E (.ref C) none H->X.xe (.ref ea) {s with heap:=h' }
theorem Aa {P:Program}{w:World}{K:za}{mg:Str->Option Value}{base:Heap}{N:List Str}{qual:Str}{scope:Scope}{f:Addr}{cd:Value}{A:Around}{outer:List Env}{s:Shared}{H:Hp}{E:XK}:
 mL (Sy P w K mg base N qual scope f cd A outer s H E) E:=⟨⟨Yw,PassesOwn.leaving⟩,λ _ _ _ _ _ _ _ _ J hx q=>Yv J hx q⟩
theorem Fm {X:Cx}(h:X.xe=λ _ _=>False):mL X E0:=⟨⟨λ _ _ _ _ _ _ _ h=>by obtain⟨_,_,_,_,_,_,_,_,_,q⟩:=h;exact q.elim,by rw[h];exact PassesOwn.never⟩,λ _ _ _ _ _ _ _ _ _ _ q=>q.elim⟩
def CW (K:za)(E:XK):Str->Hp->Prop:=λ x H=>∃c,zc K mainGlobals x=some (some (.ref c))/\E (.ref c) none H
section
variable {X:Cx}{E:XK}{WX:Str->Hp->Prop}{c:Bool}{e:Expr}{es:List Expr}{fs:A9->M (List D)}{f:A9->M D}{ft:A9->M Bool}{pos:Pos}
theorem Yx {K:za}{h₀:Heap}{C:Addr}{qN:List Value}{newId:String}(X:K.In h₀)(q:yD K C qN newId=true):
 ∃bm N nm q bs hdct sn sub ab col dd k0 k1 k2 k3 k5 mN,h₀.get? C=some (excClassObj nm q C N bs bm hdct sn sub ab col dd k0 k1 k2 k3 k5 newId)/\h₀.Ns N mN/\mN "__init__" = none/\OwnTail h₀ qN bm:=by
 unfold yD at q;split at q
 ·rename_i dd cd sl ho;split at q
  ·rename_i C' bm k0 k1 k2 k3 n k5 hm hs;simp only[zV,beq_iff_eq,Bool.not_eq_true'] at q;obtain⟨⟨⟨⟨⟨rfl,rfl⟩,iu⟩,ht⟩,Ao⟩,j7⟩:=q;obtain⟨nm,bs,mro,ns,qn,hd,sn,sub,ab,col,del⟩:=cd;dsimp only at hm iu Ao j7;subst hm iu;have cz:sl=#[k0,k1,k2,k3,some (.builtin n),k5]:=by
    obtain⟨l⟩:=sl;simp only at hs;rw[hs]
   subst cz;exact⟨bm,ns,nm,qn,bs,hd,sn,sub,ab,col,dd,k0,k1,k2,k3,k5,_,X _ _ ho,.of_isNs (PySem.W.isNs_of_in X Ao),PySem.W.nsMap_none_of_in X Ao j7,PySem.W.tail_of_in X ht⟩
  ·cases q
 ·cases q
theorem W7 {x:Str}{np ag:Pos}{C:Addr}{B newId d0:String}{bm:List Value}(xo:mL X E)(hc:X.calm=true)(FB:ExcBaseFacts B newId d0 bm)(dh:zc X.K mainGlobals x=some (some (.ref C)))(hq:yD X.K C bm newId=true)(hg:Gl X x)(hm:X.mg x=some (.ref C))
 (ha:DE X (CW X.K E) c e f) (aT:(x==("__debug__" : Str))=false:=by decide) (he:starEach [e] X.env=[(false,eval e X.env)]:=by rfl) (aq:(backTo ag (starEach [e] X.env)).any (·.1)=false:=by rfl):
 DS X (CW X.K E) (.Raise (some (.Call (.Name x np) [e] [] ag)) none pos) (λ ρ=>(f ρ).bind λ _=>.ex x):=by
 obtain⟨ta,a1,a2⟩:=ha;refine⟨λ Z σ H=>ta σ H λ y H1=>(([y]:List V).length=1/\E (.ref C) none H1),?_,λ P0 P σ H Z ρ E h=>?_⟩
 ·intro pins s σ H D I h;obtain⟨tl,N,nm,q,bs,hdct,sn,sub,ab,col,dd,k0,k1,k2,k3,k5,mN,hC,hN,j7,T⟩:=Yx I.mod.Vi hq;refine wpAny_Raise_call_subT (C:=C) (nm:=nm) (q:=q) (N:=N) (bs:=bs) (bm:=tl) (hdct:=hdct) (sn:=sn) (sub:=sub) (ab:=ab) (col:=col) (dd:=dd) (k0:=k0) (k1:=k1) (k2:=k2) (k3:=k3) (k5:=k5)
   FB (mN:=mN) (T.hasType FB.hasBase) (I.ok.hd hc) aq j7 (NY I hg hm ⟨rfl,?_⟩ aT)
  rw[he];have pa:=(Bl a1 Cs he) ag pins s σ H (λ vs H1=>vs.length=1/\E (.ref C) none H1) I ?_
  ·rw[he] at pa;refine Calls.evalArgs_plain (B2 pa λ vs s2 ⟨xs,H2,I2,r2,q2⟩=>⟨rfl,?_,I2.bk _ _ hC,hN.keeps I2.bk,T.keeps I2.bk,λ h' ea hx=>xo.made pins σ H2 s2 h' ea C _ I2 hx q2.2⟩);rw[<-r2.length,q2.1];exact yj (AF (by decide))
  ·exact h
 ·dsimp only at h;refine a2 P0 P σ H _ ρ E ?_;cases q:f ρ with
  |bad=>rw[q] at h;exact h
  |ex x=>rw[q] at h;exact λ H' s=>h H' P (E.tr s)
  |ok d =>
   rw[q] at h;intro v H1 s1 hv;obtain⟨c',h1,h2⟩:=h H1 P (E.tr s1);rw[dh] at h1;cases h1;exact⟨rfl,h2⟩
end
section
variable {X:Cx}{WX:Str->Hp->Prop}{c:Bool}{a b e:Expr}{f g:A9->M D}{pos p:Pos}
noncomputable def qO (x y:D):M D:=match x,y with
 | .int i,.int j=>.ok (.int (i+j))
 | .lst ds,.lst es=>if ds.length+es.length<=1000 then .ok (.lst (ds++es)) else .bad
 |_,_=>.bad
noncomputable def mM (neg:Bool)(x y:D):M D:=match x,y with
 | .int i,.lst ds=>(match C5 ds with|some ns=>.ok (.bl (if neg then !ns.contains i else ns.contains i))|none=>.bad)
 |_,_=>.bad
theorem W8 (i:Int)(ns:List Int):mF (.int i) (ns.map V.int)=ns.contains i:=by
 unfold mF;induction ns with
 |nil=>rfl
 |cons n r ih =>
  rw[zg,xh,ih,List.contains_cons];congr 1;show (n==i)=(i==n);rw[yQ,beq_iff_eq,beq_iff_eq];exact eq_comm
theorem U4 (ns:List Int):(ns.map V.int).all IE=true:=by
 induction ns with
 |nil=>rfl
 |cons n r ih=>rw[zg,List.all_cons,ih];rfl
theorem Gj {neg:Bool}:Sv X.K WX (mG X.K neg) (mM neg):=by
 intro P H x y v w Q ht hx hy h;unfold mM at h;split at h
 ·rename_i i ds;split at h
  ·rename_i ns hn;cases hx;cases hy with
   |lst h1 h2 =>
    have e:=Jt h2 hn;subst e;refine⟨_,_,rfl,.inl h1.Bj,rfl,U4 ns,?_⟩;rw[W8];exact h _ H (Ab.refl H) (.bl _)
  ·exact h.elim
 ·exact h.elim
end
structure ClsAt (K:za)(mg:Str->Option Value)(x:Str):Prop where
 ex:∃C,zc K mainGlobals x=some (some (.ref C))/\mg x=some (.ref C)/\yD K C [.type "ValueError",.type "Exception",.type "BaseException",.type "object"] "ValueError.__new__" = true
noncomputable def one (x:Str)(b:Bool):Str->Option Bool:=λ y=>if y=x then some b else none
section
variable {X:Cx}{E:XK}{WX:Str->Hp->Prop}{c:Bool}{e:Expr}{f:A9->M D}{pos p:Pos}
theorem Ju {x:Str}{np ag:Pos}(T:ClsAt X.K X.mg x)(xo:mL X E)(hc:X.calm=true)(hg:Gl X x)(ha:DE X (CW X.K E) c e f)(aT:(x==("__debug__" : Str))=false:=by decide)(he:starEach [e] X.env=[(false,eval e X.env)]:=by rfl)(aq:(backTo ag (starEach [e] X.env)).any (·.1)=false:=by rfl):
 DS X (CW X.K E) (.Raise (some (.Call (.Name x np) [e] [] ag)) none pos) (λ ρ=>(f ρ).bind λ _=>.ex x):=by
 obtain⟨C,h1,h2,h3⟩:=T.ex;exact W7 xo hc PySem.F.excBase_ValueError h1 h3 hg h2 ha aT he aq
end
def PF (i j:Int):Prop:=(i.natAbs<2^1000/\j.natAbs<2^1000)\/Vu i j
instance (i j:Int):Decidable (PF i j):=by unfold PF;infer_instance
theorem Nf {i:Int}(h:i.natAbs<2^1000):ye i<=2^20:=by
 unfold ye;split
 ·exact zW _
 ·rename_i z;have h0:i.natAbs≠0:=λ q=>z (by rw[Int.natAbs_eq_zero.mp q];rfl);have:=(Nat.log2_lt h0).mpr h;have h3:(1000:Nat)<=2^20:=by decide
  exact yi this h3
theorem PF.ok {i j:Int}(h:PF i j):IntMulOk i j:=by
 rcases h with ⟨h1,h2⟩|h
 ·exact IntMulOk.of_bits (Nf h1) (Nf h2)
 ·exact h.ok
theorem IP {gt:D->A9->M A9}{ft:A9->M Bool}{fe:A9->M D}{ρ:A9}(p:D->Bool)(f:D->D):∀(ds:List D),(∀d∈ds,∃ρ1,gt d ρ=.ok ρ1/\ft ρ1=.ok (p d)/\(p d=true->fe ρ1=.ok (f d)))->B3 gt ft fe ds ρ=.ok ((ds.filter p).map f)
 |[],_=>rfl
 |d::r,h=>by
  obtain⟨ρ1,h1,h2,h3⟩:=h d zd;have ih:=IP p f r λ d hd=>h d (zf _ hd);rw[B3,h1];dsimp only;rw[h2];dsimp only;by_cases hp:p d=true
  ·rw[if_pos hp,h3 hp];dsimp only;rw[ih,List.filter_cons_of_pos hp];rfl
  ·rw[if_neg hp,ih,List.filter_cons_of_neg hp]
theorem HR (n:Nat):C0 0 n=(zD n).map λ i:Nat=>D.int (i:Int):=by
 apply List.ext_getElem?;intro i;rw[zB];by_cases h:i<n
 ·have hi:i<(C0 0 n).length:=by rw[Cv];exact h
  have e:=zr hi;obtain⟨h1,_⟩:=HP e;rw[e,h1,yB h,Int.zero_add];rfl
 ·rw[yG (by rw[Cv];omega),yG (by simp;omega)];rfl
theorem Dd (ns:List Int):C5 (ns.map D.int)=some ns:=by
 induction ns with
 |nil=>rfl
 |cons n r ih=>rw[zg,C5,ih];rfl
theorem W9 (ds:List D)(n:Nat):ZG (some (n:Int)) none (.lst ds)=.ok (.lst (ds.drop n)):=by
 unfold ZG;dsimp only;rw[HT.Ph,HT.Ky];congr 2;by_cases h:n<=ds.length
 ·rw[Nat.min_eq_left h,yu (by rw[xm];exact zv _)]
 ·rw[Nat.min_eq_right (by omega),List.drop_of_length_le (zv _),List.drop_of_length_le (by omega),List.take_nil]
def Pl (n:Nat)(d:D):Prop:=Iq d<=n/\Az d=true
theorem Oi {n:Nat}:∀ {ds:List D},(∀d∈ds,Iq d<=n)->Kq ds<=n
 |[],_=>by rw[Kq];exact zW _
 |d::r,h=>by
  rw[Kq];exact Nat.max_le.mpr ⟨h d zd,Oi λ d hd=>h d (zf _ hd)⟩
theorem Oj:∀ {ds:List D},(∀d∈ds,Az d=true)->Le ds=true
 |[],_=>by rw[Le]
 |d::r,h=>by
  rw[Le,h d zd,Oj λ d hd=>h d (zf _ hd)];rfl
theorem Fn {n:Nat}(i:Int):Pl n (.int i):=⟨by rw[Iq];exact zW _;all_goals simp,by rw[Az];all_goals simp⟩
theorem fG {n:Nat}:Pl n .AD:=⟨by rw[Iq];exact zW _;all_goals simp,by rw[Az];all_goals simp⟩
theorem Wa {n:Nat}{ds:List D}(h:∀d∈ds,Pl n d):Pl (n+1) (.tup ds):=
 ⟨by rw[Iq];exact Nat.succ_le_succ (Oi λ d hd=>(h d hd).1),by rw[Az];exact Oj λ d hd=>(h d hd).2⟩
theorem Wb {n:Nat}{ds:List D}(h:∀d∈ds,Pl n d):Pl (n+1) (.lst ds):=
 ⟨by rw[Iq];exact Nat.succ_le_succ (Oi λ d hd=>(h d hd).1),by rw[Az];exact Oj λ d hd=>(h d hd).2⟩
theorem Sz {n:Nat}(ns:List Int):Pl (n+1) (.lst (ns.map D.int)):=Wb λ d hd=>by
 obtain⟨i,_,rfl⟩:=zJ.mp hd;exact Fn i
theorem Wc {n:Nat}:∀d∈([]:List D),Pl n d:=λ d h=>by cases h
theorem KG {n:Nat}{d:D}{ds:List D}(h:Pl n d)(t:∀d∈ds,Pl n d):∀e∈d::ds,Pl n e:=λ e he=>by
 rcases zp.mp he with rfl|he
 ·exact h
 ·exact t e he
theorem Ol {n:Nat}{x y:D}(h:Pl n x)(k:Pl n y):Xz n x y=.ok (.bl (Ap x y)):=by
 unfold Xz;rw[if_pos ⟨h.1,h.2,k.2⟩]
theorem Rv {n:Nat}{x y:D}(h:Pl n x)(k:Pl n y):Yp n x y=.ok (.bl (!Ap x y)):=by
 unfold Yp;rw[if_pos ⟨h.1,h.2,k.2⟩]
theorem Wd {n:Nat}{x:D}(h:Pl n x):Xz n x x=.ok (.bl true):=by rw[Ol h h,Gd]
theorem We {n:Nat}{x:D}(h:Pl n x):Yp n x x=.ok (.bl false):=by rw[Rv h h,Gd];rfl
theorem Ng {gt:D->A9->M A9}{ft:A9->M Bool}{fe:A9->M D}{ρ:A9}(f:D->D)(ds:List D)(h:∀d∈ds,∃ρ1,gt d ρ=.ok ρ1/\ft ρ1=.ok true/\fe ρ1=.ok (f d)):B3 gt ft fe ds ρ=.ok (ds.map f):=by
 rw[IP (λ _=>true) f ds λ d hd=>by
  obtain⟨ρ1,h1,h2,h3⟩:=h d hd;exact⟨ρ1,h1,h2,λ _=>h3⟩]
 rw[List.filter_eq_self.mpr λ _ _=>rfl]
theorem Yy (ds:List D)(a b:Nat):ZG (some (a:Int)) (some (b:Int)) (.lst ds)=.ok (.lst ((ds.drop a).take (b-a))):=by
 unfold ZG;dsimp only;rw[HT.Ky,HT.Ky];congr 2;by_cases h:a<=ds.length
 ·rw[Nat.min_eq_left h];by_cases h2:b<=ds.length
  ·rw[Nat.min_eq_left h2]
  ·rw[Nat.min_eq_right (by omega),yu (by rw[xm];exact zv _),yu (by rw[xm];omega)]
 ·rw[Nat.min_eq_right (show ds.length<=a by omega),List.drop_of_length_le (zv _),List.drop_of_length_le (show ds.length<=a by omega),List.take_nil,List.take_nil]
section
variable {X:Cx}{WX:Str->Hp->Prop}{c:Bool}{P0:Ea}{P:Addr->Prop}{H:Hp}{σ:St}{ρ:A9}{a b e:Expr}{f g:A9->M D}{ft gt:A9->M Bool}{pos:Pos}{st:Stmt}{rest:List Stmt}{g1 g2:A9->M Out}
theorem PH {K:za}{H:Hp}{v:V}{d:D}(h:BB K H v d):∀n:Nat,Ae K H (z0 n v) (z0 n d)
 |0=>.nil
 |n+1=>by rw[yx,yx];exact .cons h (PH h n)
theorem PJ {K:za}{H:Hp}{v:V}{d:D}(h:BB K H v d):∀ {vs:List V}{ds:List D}(n:Nat),Ae K H vs ds->Ae K H (vs.set n v) (ds.set n d)
 |_,_,_,.nil=>.nil
 |_,_,0,.cons _ t=>.cons h t
 |_,_,n+1,.cons a t=>.cons a (PJ h n t)
noncomputable def sN (i:Nat)(ρ:A9)(d k:D):M Out:=match k with
 | .int j=>if 0<=j/\j.toNat<=1000 then .ok (.next (ρ.set i (some (.own (z0 j.toNat d))))) else .bad
 |_=>.bad
theorem Nh {α:Type}(v:α):∀n:Nat,(z0 n [v]).flatten=z0 n v
 |0=>rfl
 |n+1=>by rw[yx,List.flatten_cons,Nh v n];rfl
noncomputable def fH (i:Nat)(ρ:A9)(ds:List D)(d k:D):M Out:=match k with
 | .int j=>(match Xy ds.length j with|some n=>.ok (.next (ρ.set i (some (.own (ds.set n d)))))|none=>.bad)
 |_=>.bad
noncomputable def Yz (i:Nat)(ρ:A9)(m:M D)(d:D):M Out:=match ρ[i]? with
 |some (some (.own ds))=>m.bind (fH i ρ ds d)
 |_=>.bad
theorem Wf (i:Nat){x:Str}{p1 aE:Pos}(hv:PE X (.Name x p1) (Pb i))(ha:DE X WX true a f)(hk:DE X WX true b g)
 (hs:swapsWithSole [.Subscript (.Name x p1) b aE] a pos.line X.env=pure false:=by rfl) (hw:swappedStores [.Subscript (.Name x p1) b aE] a X.env=pure none:=by rfl) (h1:(assignEach [.Subscript (.Name x p1) b aE] X.env).map (·.2)=[assign (.Subscript (.Name x p1) b aE) X.env]:=by rfl)
 (m9:∀v,assign (.Subscript (.Name x p1) b aE) X.env v=(do
  let ov <-holding [v] (eval (.Name x p1) X.env);let iv <-holding [v,ov] (eval b X.env)
  standAt aE
  holding [v,ov,iv] (setItem ov iv v)
  release [v,ov,iv] []):=by intro _;rfl):
 DS X WX (.Assign [.Subscript (.Name x p1) b aE] a pos) (λ ρ=>(f ρ).bind (Yz i ρ (g ρ))):=by
 obtain⟨ta,a1,a2⟩:=ha;obtain⟨tb,b1,b2⟩:=hk;refine⟨_,dM a1 (dJ hv b1 set_list m9) hs hw h1,λ P0 P σ H Z ρ E h=>?_⟩;dsimp only at h;refine a2 P0 P σ H _ ρ E ?_;cases q:f ρ with
 |bad=>rw[q] at h;exact h
 |ex x=>rw[q] at h;exact λ H' s=>h H' P (E.tr s)
 |ok d =>
  rw[q] at h;simp only[M.A6] at h;intro v H1 s1 hv;have E1:=E.same s1;unfold Yz at h;split at h
  ·rename_i ds e1;obtain⟨p,xs,h1,h2,h3,h4,h5⟩:=E1.own i ds e1;refine⟨_,h1,b2 P0 P σ H1 _ ρ E1 ?_⟩;cases q2:g ρ with
   |bad=>rw[q2] at h;exact h.elim
   |ex x=>rw[q2] at h;exact λ H' s2=>h H' P ((E.tr s1).trans (E1.tr s2))
   |ok k =>
    rw[q2] at h;simp only[M.A6] at h;unfold fH at h;intro w H2 s2 hw;split at h
    ·rename_i j;cases hw;split at h
     ·rename_i n en;have E2:=E1.same s2;refine⟨p,xs,j,n,rfl,rfl,s2 _ _ h2,by rw[h5.length];exact en,?_⟩;obtain⟨E3,t3⟩:=E2.mut e1 h1 h3 h4 (PJ (hv.mono s2.del) n (h5.mono s2.del));exact h _ _ _ ((E.tr s1).trans ((E1.tr s2).trans t3)) E3
     ·exact h.elim
    ·exact h.elim
  ·exact h.elim
noncomputable def Aq (c:A9->M Bool)(b:A9->M Out):Nat->A9->M Out
 |0,_=>.bad
 |n+1,ρ=>match c ρ with
  | .ok true=>(match b ρ with
   | .ok (.next ρ')| .ok (.cont ρ')=>Aq c b n ρ'
   | .ok (.brk ρ')=>.ok (.next ρ')
   |r=>r)
  | .ok false=>.ok (.next ρ)
  | .ex x=>.ex x
  | .bad=>.bad
noncomputable def K8 (c:A9->M Bool)(b:A9->M Out)(ρ:A9):M Out:=
 @dite _ (∃n,Aq c b n ρ≠.bad) (xq _) (λ h=>Aq c b (zl h) ρ) (λ _=>.bad)
theorem C6 {c:A9->M Bool}{b:A9->M Out}:∀ {n:Nat}{ρ:A9},Aq c b n ρ≠.bad->∀m,Aq c b (n+m) ρ=Aq c b n ρ
 |0,ρ,h,m=>(h rfl).elim
 |n+1,ρ,h,m=>by
  rw[show n+1+m=(n+m)+1 by omega];rw[Aq] at h;rw[Aq,Aq];cases q:c ρ with
  |bad|ex x=>rfl
  |ok k =>
   rw[q] at h;cases k with
   |false=>rfl
   |true =>
    dsimp only at h ⊢;cases q2:b ρ with
    |bad|ex x=>rfl
    |ok o =>
     rw[q2] at h;cases o with
     |next ρ'=>dsimp only at h ⊢;exact C6 h m
     |cont ρ'=>dsimp only at h ⊢;exact C6 h m
     |brk ρ'=>rfl
     |ret d|BZ d|Ed d ρ2=>rfl
theorem Wg {c:A9->M Bool}{b:A9->M Out}{n:Nat}{ρ:A9}(h:Aq c b n ρ≠.bad):K8 c b ρ=Aq c b n ρ:=by
 unfold K8;have hx:∃n,Aq c b n ρ≠.bad:=⟨n,h⟩;rw[dif_pos hx];have hc:=zb hx;have e1:=C6 h (zl hx);have e2:=C6 hc n;rw[Nat.add_comm] at e2;rw[<-e1,e2]
theorem U5 {c:A9->M Bool}{b:A9->M Out}{ρ:A9}(h:K8 c b ρ≠.bad):∃n,Aq c b n ρ≠.bad/\K8 c b ρ=Aq c b n ρ:=by
 by_cases hx:∃n,Aq c b n ρ≠.bad
 ·obtain⟨n,hn⟩:=hx;exact⟨n,hn,Wg hn⟩
 ·exact (h (by unfold K8;rw[dif_neg hx])).elim
theorem kU {K:za}{Z:Ends}{m:M Out}(h:gS K WX P0 P H Z m):m≠.bad:=λ e=>by rw[e] at h;exact h
theorem Lk {body:List Stmt}(hp:PassesOwn (model X.prog X.w) X.A X.env X.xe)(hc:DT X WX a ft)(hb:QS X WX body g1):DS X WX (.While a body [] pos) (K8 ft g1):=by
 obtain⟨tc,c1,c2⟩:=hc;obtain⟨tb,b1,b2⟩:=hb;refine⟨_,Vq hp c1 b1,λ P0 P σ H Z ρ E h=>?_⟩;obtain⟨n,hn,en⟩:=U5 (kU h);rw[en] at h;refine⟨λ m σ' H'=>∃ρ' P',Ai X.K P0 P' H' σ' ρ'/\Tr P0 P H P' H'/\gS X.K WX P0 P' H' Z (Aq ft g1 m ρ'),⟨n,ρ,P,E,Tr.refl,h⟩,?_⟩;rintro m σ1 H1 ⟨ρ1,P1,E1,t1,h1⟩;cases m with
 |zero=>exact h1.elim
 |succ m =>
  rw[Aq] at h1;refine c2 P0 P1 σ1 H1 _ ρ1 E1 ?_;cases q:ft ρ1 with
  |bad=>rw[q] at h1;exact h1
  |ex x=>rw[q] at h1;exact λ H2 s2=>h1 H2 P1 (E1.tr s2)
  |ok k =>
   rw[q] at h1;intro H2 s2;have E2:=E1.same s2;cases k with
   |false =>
    rw[if_neg (by simp)];exact h1 σ1 H2 P1 (E1.tr s2) E2
   |true =>
    rw[if_pos rfl];dsimp only at h1;refine⟨λ σ' H'=>∃ρ' P',Ai X.K P0 P' H' σ' ρ'/\Tr P0 P H P' H'/\gS X.K WX P0 P' H' Z (Aq ft g1 m ρ'),λ σ' H' z=>⟨m,Nat.lt_succ_self m,z⟩,?_⟩;refine b2 P0 P1 σ1 H2 _ ρ1 E2 ?_;cases q2:g1 ρ1 with
    |bad=>rw[q2] at h1;exact h1
    |ex x=>rw[q2] at h1;exact λ H3 P3 t3=>h1 H3 P3 ((E1.tr s2).trans t3)
    |ok o =>
     rw[q2] at h1;have t2:=t1.trans (E1.tr s2);cases o with
     |next ρ'=>exact λ σ3 H3 P3 t3 E3=>⟨ρ',P3,E3,t2.trans t3,h1.tr ((E1.tr s2).trans t3)⟩
     |cont ρ'=>exact λ σ3 H3 P3 t3 E3=>⟨ρ',P3,E3,t2.trans t3,h1.tr ((E1.tr s2).trans t3)⟩
     |brk ρ'=>exact λ σ3 H3 P3 t3 E3=>h1 σ3 H3 P3 ((E1.tr s2).trans t3) E3
     |ret d=>exact λ v H3 P3 t3 hv=>h1 v H3 P3 ((E1.tr s2).trans t3) hv
     |BZ d=>exact λ v fp H3 P3 t3=>h1 v fp H3 P3 ((E1.tr s2).trans t3)
     |Ed d ρ2=>exact λ v fp σ3 H3 P3 t3=>h1 v fp σ3 H3 P3 ((E1.tr s2).trans t3)
noncomputable def qP (ds:List D):M D:=match ds with
 |[.int i]=>.ok (.int i)
 |[.bl b]=>.ok (.int (if b then 1 else 0))
 |_=>.bad
noncomputable def Gk:List D->Option (List Bool)
 |[]=>some []
 | .bl b::r=>(Gk r).map (b::·)
 |_=>none
theorem Ll (bs:List Bool):Gk (bs.map D.bl)=some bs:=by
 induction bs with
 |nil=>rfl
 |cons b r ih=>rw[zg,Gk,ih];rfl
theorem Lm:∀ {ds:List D}{bs:List Bool},Gk ds=some bs->ds=bs.map D.bl
 |[],bs,h=>by cases h;rfl
 | .bl b::r,bs,h=>by
  rw[Gk] at h;cases q:Gk r with
  |none=>rw[q] at h;cases h
  |some sO=>rw[q] at h;cases h;rw[Lm q];rfl
 | .AD::r,bs,h| .int _::r,bs,h| .str _::r,bs,h| .tup _::r,bs,h| .lst _::r,bs,h| .D9 _::r,bs,h| .B6 _ _ _::r,bs,h| .ins _ _ _::r,bs,h=>by cases h
theorem Ln {K:za}{H:Hp}:∀ {vs:List V}{bs:List Bool},Ae K H vs (bs.map D.bl)->vs=bs.map V.bl
 |_,[],.nil=>rfl
 |_,b::r,.cons h t=>by cases h;rw[Ln t];rfl
theorem Lo:∀ {bs:List Bool}{us:List Value},Vals (bs.map V.bl) us->LSm.BoolsAre us bs
 |[],_,.nil=>.nil
 |b::r,_,.cons h t=>by cases h;exact .cons b (Lo t)
theorem Lq (hc:X.calm=true):G7 X (.builtin "all") (λ xs H Q=>∃p bs,xs=[.ref p]/\D8 X.K H p (List.map V.bl bs)/\Q (.bl (bs.all id)) H):=by
 intro pins s σ H xs us Q I r h;obtain⟨p,bs,rfl,hq,q⟩:=h;obtain⟨u,rfl,rx⟩:=vals1 r;cases rx;obtain⟨aa,r',pl,hz⟩:=I.list hq;have hl:=pl.isList;have hb:=Lo r';have ap:p<s.heap.objs.size:=by obtain⟨_,e,_⟩:=hl;exact zt e
 refine call_all_walk (wpAny_pyIter_list hl ?_);refine⟨s.heap.objs.size,[s.heap.objs.size,p],[s.heap.objs.size],aa.toArray.size,_,_,λ i=>(bs[i]?).getD true,rfl,Walks.list (A:=X.A.in1) (I.ok.hd hc) _ p (zI ap) aa.toArray,
  ⟨⟨_,zA _ rfl,rfl,rfl⟩,hl.push _⟩,λ i v s' Q' E' hP hQ=>?_,λ h' tk hk=>?_⟩
 ·obtain⟨b,e,rfl⟩:=hb.get i v (by simpa using hP);simp only[e,Option.getD_some] at hQ;exact wpAny_truthy_bool hQ
 ·have e:((zD aa.toArray.size).all λ i=>(bs[i]?).getD true)=bs.all id:=by
   rw[zj,hb.length];exact LSm.range_all bs
  rw[e];exact⟨.bl _,H,I.kept (t':=tk) (LSm.kept_iter hk),rfl,q⟩
noncomputable def Wh (ds:List D):M D:=match ds with
 |[.lst xs]=>(match Gk xs with|some bs=>.ok (.bl (bs.all id))|none=>.bad)
 |_=>.bad
theorem fI:K6 X.K WX (λ xs H Q=>∃p bs,xs=[.ref p]/\D8 X.K H p (List.map V.bl bs)/\Q (.bl (bs.all id)) H) Wh:=by
 intro P H ds vs Q ht hl h;unfold Wh at h;split at h
 ·rename_i xs;obtain⟨v,rfl,hv⟩:=hl.one;split at h
  ·rename_i bs eb;have:=Lm eb;subst this;cases hv with
   |lst hs hh =>
    have:=Ln hh;subst this;exact⟨_,bs,rfl,hs.Bj,h _ H (Ab.refl H) (.bl _)⟩
  ·exact h.elim
 ·exact h.elim
theorem Rw {p:Pos}(hc:X.calm=true)(hg:Gl X "all")(hm:X.mg "all" = none)(ha:DE X WX c e f)(hb:bootBuiltins "all" = some (.builtin "all"):=by decide +kernel)(hs:starEach [e] X.env=[(false,eval e X.env)]:=by rfl):DE X WX c (.Call (.Name "all" p) [e] [] pos) (λ ρ=>((f ρ).bind λ d=>(M.ok []).bind λ ds=>.ok (d::ds)).bind Wh):=
 IH (Lq hc) fI hg hm hb (A2 ha A8 hs) (he:=hs)
end
def Sm (n:Int):Prop:=ye n<=2^20
theorem Wj:∀ {ns:List Int},W.WData.weightAll (ns.map W.WData.int)<=2^20->∀n∈ns,Sm n
 |m::r,h,n,hn=>by
  rw[zg,W.WData.weightAll,W.WData.weight] at h;rcases zp.mp hn with rfl|hn
  ·unfold Sm ye;omega
  ·exact Wj (by omega) n hn
theorem kW {ns:List Int}(h:W.WData.layableAll [W.WData.list (ns.map W.WData.int)]=true):∀n∈ns,Sm n:=by
 unfold W.WData.layableAll at h;rw[List.all_cons,zV] at h;have h1:=h.1;unfold W.WData.layable at h1;rw[zV,decide_eq_true_eq,W.WData.weight] at h1;exact Wj h1.2
end L2
namespace HT
open PySem PySem.W PyProof.Rows Spec Calls qw
theorem Ni {l:OpenLaw}{n:Nat}{q:Program}{loose:List Str}{XP:(Str->Option Value)->Heap->Prop}{YP:World->Heap->Prop}{d:DefRec}
 (hn:l.most=some n) (d7:d.params.defaults=[])
 (run:∀(w:World) (s₀ s₁:Shared) (mg mb:Str->Option Value) (fa:Addr) (o:Obj) (pm cd doc:Value) (a:Addr) (vs:List Value) (ns:List Int),(∀n∈ns,L2.Sm n)->
  Ground q loose [] XP w s₀ mg mb s₁.heap->YP w s₁.heap->s₁.heap.get? fa=some o->o.data=.func (docDef d.name d.params d.body d.scope pm cd doc)->s₁.heap.CodeRec cd d.name->mg d.name=some (.ref fa)->
  s₁.heap.get? a=some {cls:=.type "list",data:=.seq vs.toArray}->IntsAre vs ns->ns.length<=n->s₁.gens=#[]->
  codeAny (model l.prog w) callerA (.call (.ref fa) ⟨[.ref a],[]⟩) (λ r s'=>r=.ok (.ret (.bool true))/\OldK s₁.heap s'.heap/\s'.os=s₁.os/\AllBare s'.gens) s₁):
 WalkO q loose XP YP l.row.toRowW d [] (λ f vs=>PySem.call f vs):=by
 intro w s₀ s₁ mg mb G Y fa o pm cd doc dV kV ho hd bd hD d8 hg args vals as c8 na nb ly u5;obtain rfl:dV=.none:=Dflts.none hD d7;obtain rfl:kV=.none:=Dflts.noKw hD;obtain⟨a,vs,ns,rfl,rfl,cj,bf,hlen⟩:=TN hn c8 ly;refine enter_call (codeAny_mono (run w s₀ s₁ mg mb fa o pm cd doc a vs ns (L2.kW na) G Y ho (fd_plain hd) bd d8 cj bf hlen hg) λ r s' hq=>?_);obtain⟨rfl,h2,h3,h4⟩:=hq;exact⟨.inl ⟨.bool true,.bool true,[],rfl,λ _=>rfl,.bool true,TQ l _,λ _=>⟨List.Pairwise.nil,λ _ hm=>(nomatch hm)⟩⟩,h2,h3,h4⟩
end HT
namespace L2
open PySem PySem.Spec PyProof.Rows
theorem mO {l:PySem.W.OpenLaw}{n k:Nat}{q:Program}{loose:List Str}{XP:(Str->Option Value)->Heap->Prop}{YP:World->Heap->Prop}{d:DefRec}{K:Params->za}{CX:World->Si}{sp:World->Sp}{x:Str}
 (hn:l.most=some n) (aD:n<=sizeLine) (d7:d.params.defaults=[]) (hr:Bq k callerA) (hY:∀(w:World) (h:Heap),YP w h->(K w.params).In h)
 (F:∀(w:World) (mg:Str->Option Value) (fa:Addr) (h:Heap),(K w.params).In h->h.Ns mainGlobals mg->mg d.name=some (.ref fa)->∃fd:FuncData,(∀(s:Shared) (u:Value),BindsTo s fd ⟨[u],[]⟩ [(x,u)])/\
  ∀base:Heap,(K w.params).In base->base.Ns mainGlobals mg->CV l.prog w (K w.params) mg base (CX w) k fa fd [x] (sp w))
 (cv:∀(w:World) (H:Hp) (a:Addr) (ns:List Int),(∀n∈ns,Sm n)->ns.length<=n->Y7 H->D8 (K w.params) H a (ns.map V.int)->sp w [.ref a] H (λ v _=>v=.bl true) λ _ _ _=>False)
 (g9:∀(w:World) (H:Hp) (s:Shared) (e:Value) (s':Shared),CX w [] H s (λ _ _ _=>False) e s'->False):PySem.W.WalkO q loose XP YP l.row.toRowW d [] (λ f vs=>PySem.call f vs):=by
 refine HT.Ni hn d7 λ w s₀ s₁ mg mb fa o pm cd doc a vs ns cN G Y ho hd bd d8 cj bf hlen hg=>?_;have KX:=hY w _ Y;obtain⟨fd,hb,hF⟩:=F w mg fa _ KX G.T.g d8;exact Pm KX G.T.g G.T.b G.T.builtins G.T.nolimit hg cj bf (yi hlen aD) hr hF hb (λ H hO hS=>cv w H a ns cN hlen hO hS) λ H e s'=>g9 w H s₁ e s'
theorem YA {F:List D->M D}(h:∀ns:List Int,ns.length<=63->(∀n∈ns,Sm n)->F [.lst (ns.map D.int)]=.ok (.bl true))(K:za)(H:Hp)(a:Addr)(ns:List Int)(cN:∀n∈ns,Sm n)(hl:ns.length<=63)(hS:D8 K H a (ns.map V.int)):Rt K 1 F [.ref a] H (λ v _=>v=.bl true) λ _ _ _=>False:=by
 refine⟨rfl,λ _=>False,[.lst (ns.map D.int)],λ _ z=>z.elim,.cons (.lst ?_ (Ae.ints ns)) .nil,?_⟩
 ·have e:del H (λ _=>False)=H:=by funext b;exact AA (λ z=>z)
  rw[e];exact hS
 ·rw[h ns hl cN];exact λ v H' s hv=>hv.Jo
def Nj (i j:Int):Prop:=(ye i<=2^20+1/\ye j<=2^10)\/PF i j
theorem U6 {a b:Int}(h:ye a+ye b<=2^21):IntMulOk a b:=by
 have e:(2:Nat)^21=2097152:=by decide
 have h2:Builtin.Int.intTooBig (ye a+ye b)=false:=by
  unfold Builtin.Int.intTooBig bitsLine;exact decide_eq_false (by omega)
 unfold IntMulOk;rw[h2];simp
theorem Nj.ok {i j:Int}(h:Nj i j):IntMulOk i j:=by
 rcases h with ⟨h1,h2⟩|h
 ·exact U6 (by omega)
 ·exact h.ok
theorem YB {X:Cx}:GR X (binaryOp .Mult) (rI Nj λ i j=>.int (i*j)):=mE λ _ _ _ _ _ _ _ hc q=>mul_int q hc.ok
noncomputable instance (i j:Int):Decidable (Nj i j):=xq _
noncomputable def Lr:=B9 λ i j=>if Nj i j then .ok (.int (i*j)) else .bad
theorem IQ {i j:Int}(h:Nj i j):Lr (.int i) (.int j)=.ok (.int (i*j)):=by
 unfold Lr B9;dsimp only;rw[if_pos h]
theorem KH {X:Cx}{WX:Str->Hp->Prop}{c:Bool}{a b:Expr}{f g:A9->M D}{pos:Pos}(ha:DE X WX c a f)(hb:DE X WX c b g):DE X WX c (.BinOp a .Mult b pos) (λ ρ=>(f ρ).bind λ x=>(g ρ).bind λ y=>Lr x y):=N9 YB (O9 λ _ _ _ _=>.int _) ha hb
mutual
noncomputable def IR:D->Bool
 | .tup a=>IS a
 | .lst _| .D9 _| .B6 _ _ _| .ins _ _ _=>false
 |_=>true
noncomputable def IS:List D->Bool
 |[]=>true
 |a::r=>IR a&&IS r
end
theorem SA {H:Hp}{P0 P:Addr->Prop}{a:Addr}{xs:List V}(ht:∀a,P a->Eb H a)(h:del H P0 a=some (.tup xs)):del H P a=some (.tup xs):=by
 obtain⟨h1,h2⟩:=Am h;rw[AA λ z=>by
  obtain⟨o',q,r⟩:=ht a z;rw[h2] at q;cases q;exact (r xs).1 rfl]
 exact h2
mutual
theorem BB.IR {K:za}{H:Hp}{P0 P:Addr->Prop}(ht:∀a,P a->Eb H a):∀ {v:V}{d:D},IR d=true->BB K (del H P0) v d->BB K (del H P) v d
 |_,_,_,.AD=>.AD
 |_,_,_,.bl b=>.bl b
 |_,_,_,.int i=>.int i
 |_,_,_,.str x=>.str x
 |_,_,n,.tup h r=>.tup (SA ht h) (Ae.IR ht (by rw[L2.IR] at n;exact n) r)
 |_,_,n,.lst h r|_,_,n,.D9 h r|_,_,n,.Ip h r|_,_,n,.HL h r|_,_,n,.ins _ h r=>by rw[L2.IR] at n;cases n
theorem Ae.IR {K:za}{H:Hp}{P0 P:Addr->Prop}(ht:∀a,P a->Eb H a):∀ {vs:List V}{ds:List D},IS ds=true->Ae K (del H P0) vs ds->Ae K (del H P) vs ds
 |_,_,_,.nil=>.nil
 |_,_,n,.cons h t=>by
  rw[IS,zV] at n;exact .cons (BB.IR ht n.1 h) (Ae.IR ht n.2 t)
end
noncomputable def dp (m:M D):M D:=m.bind λ d=>if IR d=true then .ok d else .bad
theorem YC {X:Cx}{WX:Str->Hp->Prop}{e:Expr}{f:A9->M D}(h:DE X WX false e f):DE X WX true e (λ ρ=>dp (f ρ)):=by
 obtain⟨t,h1,h2⟩:=h;refine⟨t,h1,λ P0 P σ H Q ρ E g=>h2 P0 P σ H Q ρ E ?_⟩;unfold dp at g;dsimp only at g;cases e:f ρ with
 |ok d =>
  rw[e] at g;simp only[M.A6] at g;by_cases hf:IR d=true
  ·rw[if_pos hf] at g;exact λ v H' s hv=>g v H' s (hv.IR (E.same s).C4 hf)
  ·rw[if_neg hf] at g;exact g.elim
 |ex x|bad=>rw[e] at g;exact g
section
variable {α:Type}(lt:α->α->Prop)
def K9:List α->List α->Prop
 |y::ys,x::xs=>(lt y x/\ys.length=xs.length)\/(y=x/\K9 ys xs)
 |_,_=>False
theorem K9.len:∀ {ys xs:List α},K9 lt ys xs->ys.length=xs.length
 |y::ys,x::xs,h=>by
  rcases h with ⟨_,h⟩|⟨_,h⟩
  ·rw[zo,zo,h]
  ·rw[zo,zo,K9.len h]
 |[],[],h|[],_::_,h|_::_,[],h=>h.elim
theorem Wl (n:Nat)(ih:∀xs:List α,xs.length=n->Acc (K9 lt) xs){x:α}(hx:Acc lt x):∀ {xs:List α},xs.length=n->Acc (K9 lt) xs->Acc (K9 lt) (x::xs):=by
 induction hx with
 |intro x _ sP =>
  intro xs hl bN;induction bN with
  |intro xs _ nc =>
   refine .intro _ λ zs h=>?_;cases zs with
   |nil=>exact h.elim
   |cons y ys =>
    rcases h with ⟨h1,h2⟩|⟨h1,h2⟩
    ·exact sP y h1 (h2.trans hl) (ih ys (h2.trans hl))
    ·subst h1;exact nc ys h2 ((K9.len lt h2).trans hl)
theorem Ls (h:∀x,Acc lt x):∀(n:Nat) (xs:List α),xs.length=n->Acc (K9 lt) xs
 |0,[],_=>.intro _ λ zs h=>by cases zs<;>exact h.elim
 |n+1,x::xs,e=>Wl lt n (Ls h n) (h x) (by simpa using e) (Ls h n xs (by simpa using e))
theorem Om:∀ {xs:List α}{i:Nat}{y:α}{x:α},xs[i]?=some x->lt y x->K9 lt (xs.set i y) xs
 |[],_,_,_,h,_=>by cases h
 |z::zs,0,y,x,h,hl=>by
  cases h;exact .inl ⟨hl,rfl⟩
 |z::zs,i+1,y,x,h,hl=>.inr ⟨rfl,Om (by simpa using h) hl⟩
theorem K9.trans (ht:∀a b c,lt a b->lt b c->lt a c):∀ {xs ys zs:List α},K9 lt xs ys->K9 lt ys zs->K9 lt xs zs
 |x::xs,y::ys,z::zs,h1,h2=>by
  rcases h1 with ⟨a,b⟩|⟨rfl,b⟩
  ·rcases h2 with ⟨c,d⟩|⟨rfl,d⟩
   ·exact .inl ⟨ht _ _ _ a c,b.trans d⟩
   ·exact .inl ⟨a,b.trans (K9.len lt d)⟩
  ·rcases h2 with ⟨c,d⟩|⟨rfl,d⟩
   ·exact .inl ⟨c,(K9.len lt b).trans d⟩
   ·exact .inr ⟨rfl,K9.trans ht b d⟩
 |[],_,_,h,_|_::_,[],_,h,_|_::_,_::_,[],_,h=>by cases h
end
section
variable {X:Cx}{WX:Str->Hp->Prop}{c:Bool}{P0:Ea}{P:Addr->Prop}{H:Hp}{σ:St}{ρ:A9}{a b e:Expr}{f g g2:A9->M D}{pos:Pos}
theorem IT:∀ {ns:List Int}{us:List Value},Vals (ns.map V.int) us->IntsAre us ns
 |[],_,.nil=>.nil
 |n::r,_,.cons h t=>by obtain⟨tk,rfl⟩:=h;exact .cons _ _ (IT t)
theorem Cy:∀ {ds:List D}{ns:List Int},C5 ds=some ns->ds=ns.map D.int
 |[],ns,h=>by cases h;rfl
 | .int b::r,bs,h=>by
  rw[C5] at h;cases q:C5 r with
  |none=>rw[q] at h;cases h
  |some sO=>rw[q] at h;cases h;rw[Cy q];rfl
 | .AD::r,bs,h| .bl _::r,bs,h| .str _::r,bs,h| .tup _::r,bs,h| .lst _::r,bs,h| .D9 _::r,bs,h| .B6 _ _ _::r,bs,h| .ins _ _ _::r,bs,h=>by cases h
theorem Cz {K:za}{H:Hp}:∀ {vs:List V}{bs:List Int},Ae K H vs (bs.map D.int)->vs=bs.map V.int
 |_,[],.nil=>rfl
 |_,b::r,.cons h t=>by cases h;rw[Cz t];rfl
end
theorem fJ {P P2:Addr->Prop}{H H':Hp}(t:Tr P P H P2 H'){a:Addr}(h:P2 a)(hn:¬ P a):H a=none:=by
 cases q:H a with
 |none=>rfl
 |some o =>
  have:=t.1 a o (by rw[AA hn];exact q);exact ((Am this).1 h).elim
section
variable {X:Cx}{WX:Str->Hp->Prop}{c:Bool}{P0:Ea}{P:Addr->Prop}{H:Hp}{σ:St}{ρ:A9}{a b e:Expr}{f g:A9->M D}{pos:Pos}
def YD:V->List V->Hp->VK->Prop:=λ x vs H Q=>∃(l:Addr) (xs:List V) (k:Nat) (y:V),x=.ref l/\vs=[.int (k:Int),y]/\H l=some (.lst xs)/\k<=xs.length/\xs.length<sizeLine/\Q .AD (upd H l (.lst (xs.take k++y::xs.drop k)))
theorem PL:∀ {xs:List V}{us:List Value}{y:V}{w:Value},Vals xs us->∀k:Nat,RelV y w->Vals (xs.take k++y::xs.drop k) (us.take k++w::us.drop k)
 |_,_,_,_,r,0,h=>.cons h r
 |_,_,_,_,.nil,k+1,h=>.cons h .nil
 |_,_,_,_,.cons a t,k+1,h=>.cons a (PL t k h)
theorem Wm {prog:Program}{wd:World}{A:Around}{E:Value->Shared->Prop}{s:Shared}{Q:Value->Shared->Prop}{l:Addr}{items:Array Value}{n:Nat}(x:Int)(u:Tok)(y:Value)(hc:¬(!Builtin.List.listFitsIndex x)=true)(hs:items.size<=sizeLine)
 (e:s.heap.get? l=some {cls:=.type "list",data:=.seq items n})
 (h:Q .none {s with heap:=s.heap.update l (yr λ xs=>(xs.extract 0 (if x<0 then (x+(xs.size:Int)).toNat else min x.toNat xs.size)).push y++xs.extract (if x<0 then (x+(xs.size:Int)).toNat else min x.toNat xs.size)),toks:=s.toks}):wpAny (model prog wd) A (call (.builtin "list.insert") [.ref l,.int x u,y]) Q E s:=by
 have hm:=PySem.AutoSeq1.list_insert_list_int_val_1 l items n x u y hc hs;have ha:=PySem.F.args_list_insert_3 (.ref l) (.int x u) y;exact call_meets PySem.F.slot_list_insert ⟨_,e,rfl⟩ PySem.F.entry_list_insert ha hm ⟨e,h⟩
theorem U7:mH X "list.insert" YD:=by
 intro pins s σ H x vs v us Q I rx rv h;obtain⟨l,xs,k,y,rfl,rfl,hH,hk,hz,q⟩:=h;cases rx;obtain⟨u,w,rfl,ru,bu⟩:=rv.two;obtain⟨tk,rfl⟩:=ru;obtain⟨z,aa,n,r,hl,e⟩:=I.TJ hH;have hlen:=r.length;have u6:=Ji;have dg:¬ (!Builtin.List.listFitsIndex (k:Int))=true:=by
  unfold Builtin.List.listFitsIndex;simp;omega
 have hsz:aa.toArray.size<=sizeLine:=by rw[zj,<-hl];exact yj hz
 refine Wm (k:Int) tk w dg hsz e ?_;refine⟨.AD,_,I.Y4 (its':=aa.take k++w::aa.drop k) hH e ?_ ?_ ?_,rfl,q⟩
 ·have e1:¬ ((k:Int)<0):=by omega
  have e2:min (k:Int).toNat aa.toArray.size=k:=by rw[yk,zj];omega
  simp only[e1,if_false,e2];apply Array.toList_inj.mp;simp;rw[yu (by rw[xm];exact zv _)]
 ·exact PL r k bu
 ·rw[zT,zo,yF,xm];omega
noncomputable def U8 (i:Nat)(ρ:A9)(mk md:M D):M Out:=match ρ[i]? with
 |some (some (.own ds))=>mk.bind λ k=>md.bind λ d=>match k with
  | .int j=>if 0<=j/\j.toNat<=ds.length/\ds.length<1000 then .ok (.next (ρ.set i (some (.own (ds.take j.toNat++d::ds.drop j.toNat))))) else .bad
  |_=>.bad
 |_=>.bad
theorem Nk {K:za}{H:Hp}:∀ {vs:List V}{ds:List D}(n:Nat),Ae K H vs ds->Ae K H (vs.take n) (ds.take n)
 |_,_,0,_=>by rw[List.take_zero,List.take_zero];exact .nil
 |_,_,_+1,.nil=>.nil
 |_,_,n+1,.cons h t=>by rw[List.take_succ_cons,List.take_succ_cons];exact .cons h (Nk n t)
theorem Nl {K:za}{H:Hp}:∀ {vs:List V}{ds:List D}(n:Nat),Ae K H vs ds->Ae K H (vs.drop n) (ds.drop n)
 |_,_,0,h=>h
 |_,_,_+1,.nil=>.nil
 |_,_,n+1,.cons h t=>by rw[List.drop_succ_cons,List.drop_succ_cons];exact Nl n t
theorem PM {K:za}{H:Hp}:∀ {vs ws:List V}{ds es:List D},Ae K H vs ds->Ae K H ws es->Ae K H (vs++ws) (ds++es)
 |_,_,_,_,.nil,k=>k
 |_,_,_,_,.cons h t,k=>.cons h (PM t k)
theorem U9 (i:Nat){x:Str}{p1 apos ag:Pos}(hv:PE X (.Name x p1) (Pb i))(hk:DE X WX true a f)(hd:DE X WX true b g)(hs:starEach [a,b] X.env=(false,eval a X.env)::starEach [b] X.env:=by rfl)(aS:starEach [b] X.env=[(false,eval b X.env)]:=by rfl)
 (bY:swapsWith (.Call (.Attribute (.Name x p1) "insert" apos) [a,b] [] ag) none pos.line X.env=pure false:=by rfl)
 (a9:attributeBase (.Name x p1) "insert" X.env (eval (.Name x p1) X.env)=eval (.Name x p1) X.env:=by rfl)
 (aW:((backTo ag (starEach [a,b] X.env)).all (λ x => !x.1)&&(backToKw ag (keywordEach [] X.env)).all (λ x=>x.1.isSome)&&decide (([a,b]:List Expr).length+([]:List Keyword).length+(if ([]:List Keyword).isEmpty then 0 else 1)<30))=true:=by rfl)
 (aA:(apos.endLine==ag.line)=true:=by rfl) (aq:(backTo ag (starEach [b] X.env)).any (·.1)=false:=by rfl):
 DS X WX (.Expr (.Call (.Attribute (.Name x p1) "insert" apos) [a,b] [] ag) pos) (λ ρ=>U8 i ρ (f ρ) (g ρ)):=by
 obtain⟨ta,a1,a2⟩:=hk;obtain⟨tb,b1,b2⟩:=hd;refine⟨_,IC (Sq PySem.F.plainAttrs_list PySem.F.slot_list_insert PySem.F.type_list_insert U7 hv (Bl a1 (Bl b1 Cs aS) hs) a9 aW aA hs aq) bY,λ P0 P σ H Z ρ E h=>?_⟩;dsimp only at h;unfold U8 at h;split at h
 ·rename_i ds e1;obtain⟨p,xs,h1,h2,h3,h4,h5⟩:=E.own i ds e1;refine⟨_,h1,.inl ⟨rfl,xs,.of h2⟩,a2 P0 P σ H _ ρ E ?_⟩;cases q:f ρ with
  |bad=>rw[q] at h;exact h
  |ex y=>rw[q] at h;exact λ H' s=>h H' P (E.tr s)
  |ok k =>
   rw[q] at h;simp only[M.A6] at h;intro w H1 s1 hw;have E1:=E.same s1;refine b2 P0 P σ H1 _ ρ E1 ?_;cases q2:g ρ with
   |bad=>rw[q2] at h;exact h
   |ex y=>rw[q2] at h;exact λ H' s=>h H' P ((E.tr s1).trans (E1.tr s))
   |ok d =>
    rw[q2] at h;simp only[M.A6] at h;intro v H2 s2 sQ;have E2:=E1.same s2;have ng:=s1.trans s2;split at h
    ·rename_i j;cases hw;by_cases hj:0<=j/\j.toNat<=ds.length/\ds.length<1000
     ·rw[if_pos hj] at h;have sR:((j.toNat:Nat):Int)=j:=yT hj.1;have qQ:=h5.mono ng.del;refine⟨p,xs,j.toNat,v,rfl,by rw[sR],ng _ _ h2,by rw[h5.length];exact hj.2.1,AF (by rw[h5.length];exact yj hj.2.2),?_⟩;obtain⟨E3,t3⟩:=E2.mut e1 h1 h3 h4 (PM (Nk j.toNat qQ) (.cons sQ (Nl j.toNat qQ)));exact h _ _ _ ((E.tr ng).trans t3) E3
     ·rw[if_neg hj] at h;exact h.elim
    ·exact h.elim
 ·exact h.elim
noncomputable def kX (ds:List D):M D:=match ds with
 |[.lst xs]=>(match Gk xs with|some bs=>.ok (.bl (bs.any id))|none=>.bad)
 |_=>.bad
end
noncomputable def kids:OT->List OT
 | .sh _=>[]
 | .lst ts| .tup ts| .B6 _ _ ts| .ins _ _ ts=>ts
noncomputable def KI:OT->List OT->OT
 | .sh d,_=>.sh d
 | .lst _,ts=>.lst ts
 | .tup _,ts=>.tup ts
 | .B6 b ks _,ts=>.B6 b ks ts
 | .ins x ns _,ts=>.ins x ns ts
noncomputable def Jv:OT->List Nat->Option OT
 |t,[]=>some t
 |t,j::π=>match (kids t)[j]? with|some s=>Jv s π|none=>none
noncomputable def Er:OT->List Nat->OT->OT
 |_,[],u=>u
 |t,j::π,u=>match (kids t)[j]? with|some s=>KI t ((kids t).set j (Er s π u))|none=>t
@[simp] theorem Wn (t:OT):Jv t []=some t:=by unfold Jv;rfl
@[simp] theorem CS (t u:OT):Er t [] u=u:=by unfold Er;rfl
theorem Ua {t s:OT}{j:Nat}{π:List Nat}(h:(kids t)[j]?=some s):Jv t (j::π)=Jv s π:=by rw[Jv,h]
theorem Ub {t s u:OT}{j:Nat}{π:List Nat}(h:(kids t)[j]?=some s):Er t (j::π) u=KI t ((kids t).set j (Er s π u)):=by rw[Er,h]
section
variable {K:za}{H H':Hp}{P P':Addr->Prop}
def C7 (K:za)(H:Hp)(P:Addr->Prop)(v:V)(t:OT)(q:List Addr)(xs:List V):Prop:=match t with
 | .sh _=>False
 | .lst ts=>∃p,v=.ref p/\q=[p]/\H p=some (.lst xs)
 | .tup ts=>∃p,v=.ref p/\q=[]/\del H P p=some (.tup xs)
 | .B6 false ks ts=>∃p kvs,v=.ref p/\q=[p]/\H p=some (.dK kvs)/\ks=(kvs.map λ kv=>Eo kv.1)/\xs=kvs.map y8
 | .B6 true ks ts=>∃p kvs,v=.ref p/\q=[p]/\H p=some (.dT kvs)/\ks=(kvs.map λ kv=>.tup (kv.1.map Eo))/\xs=kvs.map y8
 | .ins x ns ts=>∃p C dx fs,v=.ref p/\q=[p]/\zc K mainGlobals x=some (some (.ref C))/\H p=some (.ins C dx fs)/\ns=fs.map zR/\xs=fs.map y8
theorem C7.own {v:V}{t:OT}{q:List Addr}{xs:List V}{fp:List Addr}(h:C7 K H P v t q xs)(r:AB K H P xs (kids t) fp):BC K H P v t (q++fp):=by
 cases t with
 |sh d=>exact h.elim
 |lst ts=>obtain⟨p,rfl,rfl,h⟩:=h;exact .lst h r
 |tup ts=>obtain⟨p,rfl,rfl,h⟩:=h;exact .tup h r
 |B6 b ks ts =>
  cases b with
  |false=>obtain⟨p,kvs,rfl,rfl,h,rfl,rfl⟩:=h;exact .dK h r
  |true=>obtain⟨p,kvs,rfl,rfl,h,rfl,rfl⟩:=h;exact .dT h r
 |ins x ns ts=>obtain⟨p,C,dx,fs,rfl,rfl,n,h,rfl,rfl⟩:=h;exact .ins n h r
theorem BC.node {v:V}{t:OT}{fp:List Addr}(h:BC K H P v t fp)(hk:kids t≠[]\/∀d,t≠.sh d):∃q xs fq,fp=q++fq/\C7 K H P v t q xs/\AB K H P xs (kids t) fq:=by
 cases h with
 |sh h=>rcases hk with hk|hk;exact (hk rfl).elim;exact (hk _ rfl).elim
 |lst h r=>exact⟨[_],_,_,rfl,⟨_,rfl,rfl,h⟩,r⟩
 |tup h r=>exact⟨[],_,_,rfl,⟨_,rfl,rfl,h⟩,r⟩
 |dK h r|dT h r=>exact⟨[_],_,_,rfl,⟨_,_,rfl,rfl,h,rfl,rfl⟩,r⟩
 |ins n h r=>exact⟨[_],_,_,rfl,⟨_,_,_,_,rfl,rfl,n,h,rfl,rfl⟩,r⟩
theorem C7.move (sm:Ab (del H P) (del H' P')){v:V}{t:OT}{q:List Addr}{xs:List V}(k:∀a∈q,H' a=H a)(h:C7 K H P v t q xs):C7 K H' P' v t q xs:=by
 cases t with
 |sh d=>exact h.elim
 |lst ts=>obtain⟨p,rfl,rfl,h⟩:=h;exact⟨p,rfl,rfl,(k p zd).trans h⟩
 |tup ts=>obtain⟨p,rfl,rfl,h⟩:=h;exact⟨p,rfl,rfl,sm _ _ h⟩
 |B6 b ks ts =>
  cases b with
  |false|true=>obtain⟨p,kvs,rfl,rfl,h,rfl,rfl⟩:=h;exact⟨p,kvs,rfl,rfl,(k p zd).trans h,rfl,rfl⟩
 |ins x ns ts=>obtain⟨p,C,dx,fs,rfl,rfl,n,h,rfl,rfl⟩:=h;exact⟨p,C,dx,fs,rfl,rfl,n,(k p zd).trans h,rfl,rfl⟩
theorem C7.kids {v:V}{t:OT}{q:List Addr}{xs:List V}(h:C7 K H P v t q xs)(ts:List OT):C7 K H P v (KI t ts) q xs:=by
 cases t with
 |sh d=>exact h.elim
 |lst us|tup us=>exact h
 |B6 b ks us=>cases b<;>exact h
 |ins x ns us=>exact h
theorem Oo {v:V}{t:OT}{q:List Addr}{xs:List V}(h:C7 K H P v t q xs)(ts:List OT):L2.kids (KI t ts)=ts:=by
 cases t with
 |sh d=>exact h.elim
 |lst us|tup us|B6 b ks us|ins x ns us=>rfl
theorem C7.inj {v:V}{t:OT}{q q':List Addr}{xs dr:List V}(h:C7 K H P v t q xs)(h':C7 K H P v t q' dr):q=q'/\xs=dr:=by
 cases t with
 |sh d=>exact h.elim
 |lst ts|tup ts=>obtain⟨p,rfl,rfl,h⟩:=h;obtain⟨p',e,rfl,h'⟩:=h';cases e;rw[h] at h';cases h';exact⟨rfl,rfl⟩
 |B6 b ks ts =>
  cases b with
  |false|true=>obtain⟨p,kvs,rfl,rfl,h,_,rfl⟩:=h;obtain⟨p',nh,e,rfl,h',_,rfl⟩:=h';cases e;rw[h] at h';cases h';exact⟨rfl,rfl⟩
 |ins x ns ts=>obtain⟨p,C,dx,fs,rfl,rfl,n,h,_,rfl⟩:=h;obtain⟨p',C',u7,bS,e,rfl,n',h',_,rfl⟩:=h';cases e;rw[h] at h';cases h';exact⟨rfl,rfl⟩
inductive IU (K:za) (H:Hp) (P:Addr->Prop):V->OT->List Nat->V->OT->Prop
 |nil {v t}:IU K H P v t [] v t
 |cons {v t q xs j x s π v1 t1}:C7 K H P v t q xs->xs[j]?=some x->(kids t)[j]?=some s->IU K H P x s π v1 t1->IU K H P v t (j::π) v1 t1
theorem IU.sub {v v1:V}{t t1:OT}{π:List Nat}(h:IU K H P v t π v1 t1):Jv t π=some t1:=by
 induction h with
 |nil=>exact Wn _
 |cons _ _ hs _ ih=>rw[Ua hs];exact ih
theorem AB.get:∀ {xs:List V}{ts:List OT}{fp:List Addr}{j:Nat}{x:V}{s:OT},AB K H P xs ts fp->xs[j]?=some x->ts[j]?=some s->∃pre fs post,fp=pre++fs++post/\BC K H P x s fs
 |_,_,_,_,_,_,.nil,e,_=>by simp at e
 |_,_,_,0,_,_,.cons h r,e,e'=>by
  simp at e e';subst e;subst e';exact⟨[],_,_,rfl,h⟩
 |_,_,_,j+1,_,_,.cons (fp:=f1) h r,e,e'=>by
  obtain⟨pre,fs,post,z,q⟩:=AB.get r (by simpa using e) (by simpa using e');exact⟨f1++pre,fs,post,by rw[z];simp,q⟩
theorem AB.len:∀ {xs:List V}{ts:List OT}{fp:List Addr},AB K H P xs ts fp->xs.length=ts.length
 |_,_,_,.nil=>rfl
 |_,_,_,.cons _ r=>by rw[zo,zo,r.len]
theorem BC.part {v v1:V}{t t1:OT}{π:List Nat}{fp:List Addr}(h:BC K H P v t fp)(s:IU K H P v t π v1 t1):∃ay,BC K H P v1 t1 ay/\(∀a∈ay,a∈fp)/\(fp.Nodup->ay.Nodup):=by
 induction s generalizing fp with
 |nil=>exact⟨fp,h,λ _ h=>h,λ h=>h⟩
 |cons n hx hs _ ih =>
  obtain⟨q,xs,fq,rfl,n',r⟩:=h.node (.inl λ z=>by rw[z] at hs;cases hs);obtain⟨rfl,rfl⟩:=n.inj n';obtain⟨pre,fs,post,rfl,o⟩:=r.get hx hs;obtain⟨ay,o1,k,kn⟩:=ih o;exact⟨ay,o1,λ a ha=>zm _ (zK _ (zm _ (k a ha))),λ nd=>kn (zS.mp (zS.mp (zS.mp nd).2.1).1).2.1⟩
theorem AB.put (sm:Ab (del H P) (del H' P')):∀ {xs:List V}{ts:List OT}{fp:List Addr}{j:Nat}{x:V}{s s':OT}{fs bS:List Addr},AB K H P xs ts fp->xs[j]?=some x->ts[j]?=some s->BC K H P x s fs->BC K H' P' x s' bS->(∀a∈fp,a∉fs->H' a=H a)->fp.Nodup->bS.Nodup->(∀a∈bS,a∈fp->a∈fs)->
 ∃ah,AB K H' P' xs (ts.set j s') ah/\ah.Nodup/\∀a∈ah,a∈bS\/(a∈fp/\a∉fs)
 |_,_,_,_,_,_,_,_,_,.nil,e,_,_,_,_,_,_,_=>by simp at e
 |_,_,_,0,x,s,s',fs,bS,.cons (fp:=f1) (fq:=f2) h r,e,e',o,o',k,nd,iw,dj=>by
  simp at e e';subst e;subst e';have:=h.BL o;subst this;have bg:=zS.mp nd;have k2:∀a∈f2,a∉f1:=λ a ha hb=>bg.2.2 a hb a ha rfl;refine⟨bS++f2,.cons o' (r.move sm λ a ha=>k a (zm _ ha) (k2 a ha)),zS.mpr ⟨iw,bg.2.1,λ a ha b hb z=>?_⟩,λ a ha=>?_⟩
  ·subst z;exact k2 a hb (dj a ha (zm _ hb))
  ·rcases zM.mp ha with ha|ha
   ·exact .inl ha
   ·exact .inr ⟨zm _ ha,k2 a ha⟩
 |_,_,_,j+1,x,s,s',fs,bS,.cons (vs:=qy) (ts:=sS) (fp:=f1) (fq:=f2) h r,e,e',o,o',k,nd,iw,dj=>by
  have bg:=zS.mp nd;have e2:qy[j]?=some x:=by simpa using e
  have e3:sS[j]?=some s:=by simpa using e'
  obtain⟨pre,fx,post,hf,ox⟩:=r.get e2 e3;have:=ox.BL o;subst this;have k1:∀a∈f1,a∉fx:=λ a ha hb=>bg.2.2 a ha a (by rw[hf];exact zK _ (zm _ hb)) rfl;obtain⟨ah,q1,q2,q3⟩:=AB.put sm r e2 e3 o o' (λ a ha hn=>k a (zm _ ha) hn) bg.2.1 iw (λ a ha hb=>dj a ha (zm _ hb));refine⟨f1++ah,.cons (h.move sm λ a ha=>k a (zK _ ha) (k1 a ha)) q1,zS.mpr ⟨bg.1,q2,λ a ha b hb z=>?_⟩,λ a ha=>?_⟩
  ·subst z;rcases q3 a hb with z|z
   ·exact k1 a ha (dj a z (zK _ ha))
   ·exact bg.2.2 a ha a z.1 rfl
  ·rcases zM.mp ha with ha|ha
   ·exact .inr ⟨zK _ ha,k1 a ha⟩
   ·rcases q3 a ha with z|z
    ·exact .inl z
    ·exact .inr ⟨zm _ z.1,z.2⟩
theorem BC.put (sm:Ab (del H P) (del H' P')){v v1:V}{t t1 u:OT}{π:List Nat}{fp ay fu:List Addr}(h:BC K H P v t fp)(s:IU K H P v t π v1 t1)(o:BC K H P v1 t1 ay)(o':BC K H' P' v1 u fu)(k:∀a∈fp,a∉ay->H' a=H a)(nd:fp.Nodup)(iw:fu.Nodup)(dj:∀a∈fu,a∈fp->a∈ay):
 ∃ah,BC K H' P' v (Er t π u) ah/\ah.Nodup/\∀a∈ah,a∈fu\/(a∈fp/\a∉ay):=by
 induction s generalizing fp with
 |nil =>
  rw[CS];exact⟨fu,o',iw,λ a ha=>.inl ha⟩
 | @cons v t q xs j x s π v1 t1 n hx hs s1 ih =>
  obtain⟨q',dr,fq,rfl,n',r⟩:=h.node (.inl λ z=>by rw[z] at hs;cases hs);obtain⟨rfl,rfl⟩:=n.inj n';have ix:=zS.mp nd;obtain⟨pre,fs,post,hf,ox⟩:=r.get hx hs;have sub:∀a∈fs,a∈fq:=λ a ha=>by rw[hf];exact zK _ (zm _ ha)
  have sT:fs.Nodup:=by
   have:=ix.2.1;rw[hf] at this;exact (zS.mp (zS.mp this).1).2.1
  obtain⟨fz,oz,kz,_⟩:=ox.part s1;have:=oz.BL o;subst this;obtain⟨bS,q1,q2,q3⟩:=ih ox o o' (λ a ha hn=>k a (zm _ (sub a ha)) hn) sT (λ a ha hb=>dj a ha (zm _ (sub a hb)));have qf:∀a∈q,a∉fs:=λ a ha hb=>ix.2.2 a ha a (sub a hb) rfl;have kq:∀a∈q,H' a=H a:=λ a ha=>k a (zK _ ha) λ z=>qf a ha (kz a z);obtain⟨ah,p1,p2,p3⟩:=r.put sm hx hs ox q1 (λ a ha hn=>k a (zm _ ha) λ z=>hn (kz a z)) ix.2.1 q2 (λ a ha hb=>by
   rcases q3 a ha with z|z
   ·exact kz a (dj a z (zm _ hb))
   ·exact z.1)
  rw[Ub hs];have n2:=(n.move sm kq).kids ((kids t).set j (Er s π u));have o2:=n2.own (fp:=ah) (by rw[Oo n];exact p1);refine⟨q++ah,o2,zS.mpr ⟨ix.1,p2,λ a ha b hb z=>?_⟩,λ a ha=>?_⟩
  ·subst z;rcases p3 a hb with z|z
   ·rcases q3 a z with y|y
    ·exact qf a ha (kz a (dj a y (zK _ ha)))
    ·exact qf a ha y.1
   ·exact ix.2.2 a ha a z.1 rfl
  ·rcases zM.mp ha with ha|ha
   ·exact .inr ⟨zK _ ha,λ z=>qf a ha (kz a z)⟩
   ·rcases p3 a ha with z|z
    ·rcases q3 a z with y|y
     ·exact .inl y
     ·exact .inr ⟨zm _ (sub a y.1),y.2⟩
    ·exact .inr ⟨zm _ z.1,λ y=>z.2 (kz a y)⟩
end
def PU (P:Addr->Prop)(fp:List Addr):Addr->Prop:=λ a=>P a\/a∈fp
theorem Jw {P:Addr->Prop}{fp:List Addr}:∀a,P a->PU P fp a:=λ a h=>.inl h
theorem CN {P:Addr->Prop}{fp:List Addr}{H H':Hp}(s:Ab H H')(hn:∀a∈fp,H a=none):Ab (del H P) (del H' (PU P fp)):=λ b o e=>by
 obtain⟨h1,h2⟩:=Am e;rw[AA λ z=>z.elim h1 λ w=>by rw[hn b w] at h2;cases h2];exact s b o h2
theorem Rx {P:Addr->Prop}{H:Hp}:del H (PU P [])=del H P:=by
 funext b;by_cases h:P b
 ·rw[Fj h,Fj (.inl h)]
 ·rw[AA h,AA λ z=>z.elim h λ w=>by cases w]
theorem Jx {P:Addr->Prop}{fp:List Addr}{K:za}{H':Hp}{Q:Addr->Prop}{v:V}{t:OT}(hP:∀a,P a->Eb H' a)(o:BC K H' Q v t fp):∀a,PU P fp a->Eb H' a:=λ a h=>h.elim (hP a) (o.C4 a)
theorem SD {P:Addr->Prop}{fp:List Addr}{K:za}{H':Hp}{Q:Addr->Prop}{v:List V}{t:List OT}(hP:∀a,P a->Eb H' a)(o:AB K H' Q v t fp):∀a,PU P fp a->Eb H' a:=λ a h=>h.elim (hP a) (o.C4 a)
theorem Ai.more {K:za}{P0:Ea}{P P':Addr->Prop}{H H':Hp}{σ:St}{ρ:A9}(E:Ai K P0 P H σ ρ)(e:Ab H H')(hs:∀a,P a->P' a)(ht:∀a,P' a->Eb H' a)(sm:Ab (del H P) (del H' P')):Ai K P0 P' H' σ ρ:=by
 have keep:∀(c:Cl) (v:V) (fp:List Addr),Cm K H P c v fp->∀a∈fp,H' a=H a:=λ c v fp o a ha=>by
  obtain⟨xs,q⟩:=o.at a ha;rw[q];exact e _ _ q
 exact⟨λ a h=>hs a (E.sub a h),ht,λ i d h=>let ⟨v,h1,h2⟩:=E.val i d h;⟨v,h1,h2.mono sm⟩,
  λ i c h io=>let ⟨v,fp,h1,h2,h3,h4⟩:=E.ows i c h io;⟨v,fp,h1,h2.move sm (keep c v fp h2),λ a ha=>⟨hs a (h3 a ha).1,(h3 a ha).2⟩,h4⟩,
  λ i j c c' v v' fp ah hi hj si sj h h' ad=>E.VR sm (λ v fp _ o a ha=>keep _ _ _ o a ha) (λ v fp _ o a ha=>keep _ _ _ o a ha) hi hj si sj h h' ad,E.len,E.pin⟩
def YE (K:za)(WX:Str->Hp->Prop)(P:Addr->Prop)(H:Hp)(Q:VK):M OT->Prop
 | .ok t=>∀v fp H',Ab H H'->(∀a∈fp,H a=none)->fp.Nodup->BC K H' (PU P fp) v t fp->Q v H'
 | .ex x=>∀H',Ab H H'->WX x H'
 | .bad=>False
def sU (K:za)(WX:Str->Hp->Prop)(P:Addr->Prop)(H:Hp)(Q:List V->Hp->Prop):M (List OT)->Prop
 | .ok t=>∀v fp H',Ab H H'->(∀a∈fp,H a=none)->fp.Nodup->AB K H' (PU P fp) v t fp->Q v H'
 | .ex x=>∀H',Ab H H'->WX x H'
 | .bad=>False
theorem GZ {H H':Hp}(s:Ab H H'){a:Addr}(h:H' a=none):H a=none:=by
 cases q:H a with
 |none=>rfl
 |some o=>rw[s a o q] at h;cases h
section
variable {K:za}{WX:Str->Hp->Prop}{P:Addr->Prop}{H H':Hp}
theorem YE.same {Q:VK}{m:M OT}(h:YE K WX P H Q m)(e:Ab H H'):YE K WX P H' Q m:=by
 cases m with
 |ok d=>exact λ v fp H2 q hn nd o=>h v fp H2 (e.trans q) (λ a ha=>GZ e (hn a ha)) nd o
 |ex x=>exact λ H2 q=>h H2 (e.trans q)
 |bad=>exact h
end
def DN (X:Cx)(WX:Str->Hp->Prop)(e:Expr)(f:A9->M OT):Prop:=
 ∃t,PE X e t/\∀P0 P σ H Q ρ,Ai X.K P0 P H σ ρ->YE X.K WX P H Q (f ρ)->t σ H Q
def kY (X:Cx)(WX:Str->Hp->Prop)(es:List Expr)(f:A9->M (List OT)):Prop:=
 ∃t,PA X es t/\(∀P0 P σ H Q ρ,Ai X.K P0 P H σ ρ->sU X.K WX P H Q (f ρ)->t σ H Q)/\∀ρ ts,f ρ=.ok ts->ts.length=es.length
noncomputable def ZI (d:D):M OT:=.ok (.sh d)
noncomputable def ZJ (t:OT):M D:=.ok (er t)
section
variable {X:Cx}{WX:Str->Hp->Prop}{c:Bool}{P0:Ea}{P:Addr->Prop}{H:Hp}{σ:St}{ρ:A9}{a b e:Expr}{f g:A9->M D}{fn:A9->M OT}{pos:Pos}{es:List Expr}
theorem AZ (h:DE X WX true e f):DN X WX e (λ ρ=>(f ρ).bind ZI):=by
 obtain⟨t,h1,h2⟩:=h;refine⟨t,h1,λ P0 P σ H Q ρ E g=>h2 P0 P σ H Q ρ E ?_⟩;dsimp only at g;cases q:f ρ with
 |bad|ex x=>rw[q] at g;exact g
 |ok d=>rw[q] at g;exact λ v H' s hv=>g v [] H' s (λ a ha=>by cases ha) yy (.sh (by rw[Rx];exact hv))
theorem Ar (h:DN X WX e fn):DE X WX c e (λ ρ=>(fn ρ).bind ZJ):=by
 suffices z:DE X WX true e (λ ρ=>(fn ρ).bind ZJ) by
  cases c with
  |true=>exact z
  |false=>exact Rm z
 obtain⟨t,h1,h2⟩:=h;refine⟨t,h1,λ P0 P σ H Q ρ E g=>h2 P0 P σ H Q ρ E ?_⟩;dsimp only at g;cases q:fn ρ with
 |bad|ex x=>rw[q] at g;exact g
 |ok d =>
  rw[q] at g;exact λ v fp H' s hn nd o=>g v H' s (o.has Jw λ a ha z=>(E.C4 a z).no (hn a ha))
theorem H9:kY X WX [] (λ _=>.ok []):=⟨_,Cs,λ P0 P σ H Q ρ E h=>h [] [] H (Ab.refl H) (λ a ha=>by cases ha) yy .nil,λ ρ ds h=>by cases h;rfl⟩
theorem PN {es:List Expr}{fs:A9->M (List OT)}(he:DN X WX e fn)(hr:kY X WX es fs)(hs:starEach (e::es) X.env=(false,eval e X.env)::starEach es X.env:=by rfl):
 kY X WX (e::es) (λ ρ=>(fn ρ).bind λ d=>(fs ρ).bind λ ds=>.ok (d::ds)):=by
 obtain⟨te,e1,e2⟩:=he;obtain⟨tr,r1,r2,r3⟩:=hr;refine⟨_,Bl e1 r1 hs,λ P0 P σ H Q ρ E h=>?_,λ ρ ds h=>?_⟩
 rotate_left
 ·dsimp only at h;cases q:fn ρ with
  |bad|ex x=>rw[q] at h;cases h
  |ok x =>
   rw[q] at h;cases q2:fs ρ with
   |bad|ex x=>rw[q2] at h;cases h
   |ok xs =>
    rw[q2] at h;cases h;rw[zo,zo,r3 ρ xs q2]
 dsimp only at h;refine e2 P0 P σ H _ ρ E ?_;cases q:fn ρ with
 |bad|ex x=>rw[q] at h;exact h
 |ok x =>
  rw[q] at h;intro v fp H1 s1 n1 d9 o1;have E1:Ai X.K P0 (PU P fp) H1 σ ρ:=E.more s1 Jw (Jx (E.same s1).C4 o1) (CN s1 n1);refine r2 P0 (PU P fp) σ H1 _ ρ E1 ?_;cases q2:fs ρ with
  |bad=>rw[q2] at h;exact h
  |ex y=>rw[q2] at h;exact λ H' s=>h H' (s1.trans s)
  |ok ds =>
   rw[q2] at h;intro vs fq H2 s2 n2 bg o2;have dj:∀a∈fp,a∉fq:=λ a ha hb=>(o1.C4 a ha).no (n2 a hb);have eP:PU (PU P fp) fq=PU P (fp++fq):=by
    funext a;simp only[PU,zM,or_assoc]
   have sm:Ab (del H1 (PU P fp)) (del H2 (PU P (fp++fq))):=by rw[<-eP];exact CN s2 n2
   refine h _ (fp++fq) H2 (s1.trans s2) (λ a ha=>?_) (zS.mpr ⟨d9,bg,λ a ha b hb z=>dj a ha (by rw[z];exact hb)⟩) (.cons (o1.move sm λ a ha=>?_) (by rw[<-eP];exact o2))
   ·rcases zM.mp ha with ha|ha
    ·exact n1 a ha
    ·exact GZ s1 (n2 a ha)
   ·obtain⟨o,z,_⟩:=o1.C4 a ha;rw[z];exact s2 _ _ z
theorem fK {P:Addr->Prop}{fp:List Addr}{p:Addr}{H:Hp}{o:HO}(hn:H p=none)(hP:∀a,PU P fp a->Eb H a):Ab (del H (PU P fp)) (del (upd H p o) (PU P (p::fp))):=λ b u e=>by
 obtain⟨h1,h2⟩:=Am e;have hb:b≠p:=Av h2 hn;rw[AA λ z=>z.elim (λ z=>h1 (.inl z)) λ w=>(zp.mp w).elim hb λ w=>h1 (.inr w),Al hb];exact h2
theorem Lu {fs:A9->M (List OT)}(ha:kY X WX es fs)(hz:es.length<=1000:=by decide):DN X WX (.List es pos) (λ ρ=>(fs ρ).bind λ ts=>.ok (.lst ts)):=by
 obtain⟨ta,a1,a2,a3⟩:=ha;refine⟨_,R9 a1,λ P0 P σ H Q ρ E h=>?_⟩;dsimp only at h;refine a2 P0 P σ H _ ρ E ?_;cases q:fs ρ with
 |bad|ex y=>rw[q] at h;exact h
 |ok ts =>
  rw[q] at h;simp only[M.A6] at h;intro vs fp H1 s1 n1 d9 o1;have hP:=SD (E.same s1).C4 o1;refine⟨yj (AF (by rw[o1.len,a3 ρ ts q];exact hz)),λ p hp=>?_⟩;have ad:∀a∈fp,a≠p:=λ a ha z=>(o1.C4 a ha).no (by rw[z];exact hp);exact h _ (p::fp) _ (s1.trans (AG hp _)) (λ a ha=>(zp.mp ha).elim (λ z=>by rw[z];exact GZ s1 hp) (n1 a)) (yA.mpr ⟨λ z=>ad p z rfl,d9⟩) (.lst Ax (o1.move (fK hp hP) λ a ha=>Al (ad a ha)))
theorem YF {P:Addr->Prop}{fp:List Addr}{p:Addr}{H:Hp}{o:HO}(hn:H p=none)(hP:∀a,PU P fp a->Eb H a):Ab (del H (PU P fp)) (del (upd H p o) (PU P fp)):=λ b u e=>by
 obtain⟨h1,h2⟩:=Am e;have hb:b≠p:=Av h2 hn;rw[AA h1,Al hb];exact h2
theorem fL {fs:A9->M (List OT)}{x1}(ha:kY X WX es fs)(hz:es.length<=1000:=by decide):DN X WX (.Tuple es x1 pos) (λ ρ=>(fs ρ).bind λ ts=>.ok (.tup ts)):=by
 obtain⟨ta,a1,a2,a3⟩:=ha;refine⟨_,Vz a1,λ P0 P σ H Q ρ E h=>?_⟩;dsimp only at h;refine a2 P0 P σ H _ ρ E ?_;cases q:fs ρ with
 |bad|ex y=>rw[q] at h;exact h
 |ok ts =>
  rw[q] at h;simp only[M.A6] at h;intro vs fp H1 s1 n1 d9 o1;have hP:=SD (E.same s1).C4 o1;refine⟨yj (AF (by rw[o1.len,a3 ρ ts q];exact hz)),λ p hp=>?_⟩;have ad:∀a∈fp,a≠p:=λ a ha z=>(o1.C4 a ha).no (by rw[z];exact hp);refine h _ fp _ (s1.trans (AG hp _)) n1 d9 (.tup ?_ (o1.move (YF hp hP) λ a ha=>Al (ad a ha)));rw[AA λ z=>(hP p z).no hp];exact Ax
theorem Ae.ows {K:za}{H:Hp}{P:Addr->Prop}:∀ {xs:List V}{ds:List D},Ae K (del H P) xs ds->AB K H P xs (ds.map .sh) []
 |_,_,.nil=>.nil
 |_,_,.cons h t=>.cons (.sh h) t.ows
theorem YE.Jy {K:za}{WX:Str->Hp->Prop}{P:Addr->Prop}{H H1:Hp}{Q:VK}{xs:List V}{ds:List D}(h:YE K WX P H Q (.ok (.lst (ds.map .sh))))(s1:Ab H H1)(hx:Ae K (del H1 P) xs ds):∀p,H1 p=none->Q (.ref p) (upd H1 p (.lst xs)):=λ p hp=>by
 have hn:∀a∈[p],H1 a=none:=λ a ha=>by rw[zu.mp ha];exact hp
 exact h _ [p] _ (s1.trans (AG hp _)) (λ a ha=>GZ s1 (hn a ha)) (by simp) (.lst Ax (hx.mono (CN (AG hp _) hn)).ows)
theorem AB.fM {K:za}{H:Hp}{P:Addr->Prop}:∀ {xs:List V}{ds:List D}{fp:List Addr},AB K H P xs (ds.map .sh) fp->fp=[]/\Ae K (del H P) xs ds
 |_,[],_,.nil=>⟨rfl,.nil⟩
 |_,d::ds,_,.cons (.sh h) r=>by
  obtain⟨rfl,q⟩:=AB.fM r;exact⟨rfl,.cons h q⟩
noncomputable def IV:Cl->Cl
 | .val d=>.val d
 | .own ds=>.val (.lst ds)
 | .ow (.rows G4)=>.val (.lst (G4.map D.lst))
 | .ow (.Kr _ ds)=>.val (.lst ds)
 | .ow (.tree _ t)=>.val (er t)
noncomputable def G1 (ρ:A9):A9:=ρ.map λ o=>o.map IV
@[simp] theorem EG:G1 []=[]:=rfl
@[simp] theorem De (ρ:A9):G1 (none::ρ)=none::G1 ρ:=rfl
@[simp] theorem Df (c:Cl) (ρ:A9):G1 (some c::ρ)=some (IV c)::G1 ρ:=rfl
theorem Ai.low {K:za}{P0:Ea}{P:Addr->Prop}{H:Hp}{σ:St}{ρ:A9}(E:Ai K P0 P H σ ρ):Ai K P0 P0 H σ (G1 ρ):=by
 have key:∀(i:Nat) (c:Cl),(G1 ρ)[i]?=some (some c)->∃c',ρ[i]?=some (some c')/\c=IV c':=λ i c h=>by
  unfold G1 at h;rw[zB] at h;cases q:ρ[i]? with
  |none=>rw[q] at h;cases h
  |some o =>
   rw[q] at h;cases o with
   |none=>cases h
   |some c'=>cases h;exact⟨c',rfl,rfl⟩
 have ni:∀c,Fl (IV c)=false:=λ c=>by
  cases c with
  |val d|own ds=>rfl
  |ow o=>cases o<;>rfl
 have iy:∀c,N7 (IV c)=none:=λ c=>by
  cases c with
  |val d|own ds=>rfl
  |ow o=>cases o<;>rfl
 have sV:∀c v fp,¬ Cm K H P0 (IV c) v fp:=λ c v fp h=>by
  cases c with
  |val d|own ds=>exact h
  |ow o=>cases o<;>exact h
 refine⟨λ _ h=>h,λ a h=>E.C4 a (E.sub a h),λ i d h=>?_,λ i c h io=>?_,λ i j c c' v v' fp ah hi hj si sj h h' ad=>?_,by unfold G1;rw[ze];exact E.len,λ i c n h hp=>by obtain⟨c',h1,rfl⟩:=key i _ h;rw[iy] at hp;cases hp⟩
 ·obtain⟨c,h1,h2⟩:=key i _ h;cases c with
  |val d' =>
   cases h2;obtain⟨v,q1,q2⟩:=E.val i d h1;exact⟨v,q1,q2.mono (BH E.sub)⟩
  |own ds =>
   cases h2;obtain⟨p,xs,q1,q2,q3,q4,q5⟩:=E.own i ds h1;exact⟨_,q1,.lst (.of (show del H P0 p=_ by rw[AA q4];exact q2)) (q5.mono (BH E.sub))⟩
  |ow o =>
   obtain⟨v,fp,q1,q2,q3,q4⟩:=E.ows i _ h1 rfl;cases o with
   |rows G4 =>
    cases h2;obtain⟨p,ps,rfl,rfl,q5,q6⟩:=q2;exact⟨_,q1,.lst (.of (show del H P0 p=_ by rw[AA (q3 p zd).2];exact q5)) (q6.fA E.sub λ a ha=>(q3 a (zf _ ha)).2)⟩
   |Kr p ds =>
    cases h2;obtain⟨p,xs,rfl,rfl,q5,q6⟩:=q2;exact⟨_,q1,.lst (.of (show del H P0 p=_ by rw[AA (q3 p zd).2];exact q5)) (q6.mono (BH E.sub))⟩
   |tree p t =>
    cases h2;exact⟨_,q1,BC.has E.sub (λ a ha=>(q3 a ha).2) q2⟩
 ·obtain⟨c',h1,rfl⟩:=key i _ h;rw[ni] at io;cases io
 ·obtain⟨c1,h1,rfl⟩:=key i _ hi;exact (sV _ _ _ h).elim
theorem fN {c:Bool}(h:DE X WX c e f):DE X WX false e (λ ρ=>f (G1 ρ)):=by
 obtain⟨t,h1,h2⟩:=h;refine⟨t,h1,λ P0 P σ H Q ρ E g=>h2 P0 P0 σ H Q (G1 ρ) E.low ?_⟩;have e:Lv c P0 P0=P0:=by cases c<;>rfl
 rw[e];exact g
theorem Jz {ft:A9->M Bool}(h:DT X WX e ft):DT X WX e (λ ρ=>ft (G1 ρ)):=by
 obtain⟨t,h1,h2⟩:=h;exact⟨t,h1,λ P0 P σ H Q ρ E g=>h2 P0 P0 σ H Q (G1 ρ) E.low g⟩
mutual
noncomputable def Hx:OT->Bool
 | .sh d=>IR d
 | .lst ts| .tup ts| .B6 _ _ ts| .ins _ _ ts=>FT ts
noncomputable def FT:List OT->Bool
 |[]=>true
 |t::r=>Hx t&&FT r
end
mutual
theorem BC.clean {K:za}{H:Hp}{P P':Addr->Prop}(ht:∀a,P' a->Eb H a):∀ {v:V}{t:OT}{fp:List Addr},Hx t=true->BC K H P v t fp->BC K H P' v t fp
 |_,_,_,n,.sh h=>.sh (h.IR ht (by rw[Hx] at n;exact n))
 |_,_,_,n,.lst h r=>.lst h (AB.clean ht (by rw[Hx] at n;exact n) r)
 |_,_,_,n,.tup h r=>.tup (SA ht h) (AB.clean ht (by rw[Hx] at n;exact n) r)
 |_,_,_,n,.dK h r=>.dK h (AB.clean ht (by rw[Hx] at n;exact n) r)
 |_,_,_,n,.dT h r=>.dT h (AB.clean ht (by rw[Hx] at n;exact n) r)
 |_,_,_,n,.ins x h r=>.ins x h (AB.clean ht (by rw[Hx] at n;exact n) r)
theorem AB.clean {K:za}{H:Hp}{P P':Addr->Prop}(ht:∀a,P' a->Eb H a):∀ {v:List V}{t:List OT}{fp:List Addr},FT t=true->AB K H P v t fp->AB K H P' v t fp
 |_,_,_,_,.nil=>.nil
 |_,_,_,n,.cons h r=>by
  rw[FT,zV] at n;exact .cons (BC.clean ht n.1 h) (AB.clean ht n.2 r)
end
noncomputable def Uc (m:M OT):M OT:=m.bind λ t=>if Hx t=true then .ok t else .bad
theorem HS (h:DN X WX e fn):DN X WX e (λ ρ=>Uc (fn (G1 ρ))):=by
 obtain⟨t,h1,h2⟩:=h;refine⟨t,h1,λ P0 P σ H Q ρ E g=>h2 P0 P0 σ H Q (G1 ρ) E.low ?_⟩;unfold Uc at g;dsimp only at g;cases q:fn (G1 ρ) with
 |bad|ex x=>rw[q] at g;exact g
 |ok t =>
  rw[q] at g;simp only[M.A6] at g;by_cases hf:Hx t=true
  ·rw[if_pos hf] at g;exact λ v fp H' s hn nd o=>g v fp H' s hn nd (o.clean (Jx (E.same s).C4 o) hf)
  ·rw[if_neg hf] at g;exact g.elim
noncomputable def Jy (d:D):M OT:=match d with
 | .lst ds| .tup ds=>.ok (.lst (ds.map .sh))
 |_=>.bad
theorem KJ {p:Pos}(hg:Gl X "list")(hm:X.mg "list" = none)(ha:DE X WX true e f)(hb:bootBuiltins "list" = some (.type "list"):=by decide +kernel)(aU:starEach [e] X.env=[(false,eval e X.env)]:=by rfl):
 DN X WX (.Call (.Name "list" p) [e] [] pos) (λ ρ=>(f ρ).bind Jy):=by
 obtain⟨ta,a1,a2⟩:=ha;refine⟨_,N1 O5 hg hm hb (Bl a1 Cs aU) (he:=aU),λ P0 P σ H Q ρ E h=>?_⟩;dsimp only at h;refine a2 P0 P σ H _ ρ E ?_;cases q:f ρ with
 |bad|ex x=>rw[q] at h;exact h
 |ok d =>
  rw[q] at h;simp only[M.A6] at h;intro v H1 s1 hv;unfold Jy at h;split at h
  ·cases hv with
   |lst hs hh=>exact⟨_,_,rfl,.inl hs.Bj,h.Jy s1 hh⟩
  ·cases hv with
   |tup hs hh=>exact⟨_,_,rfl,.inr (El.of (Am hs).2),h.Jy s1 hh⟩
  ·exact h.elim
end
noncomputable def spT (K:za)(n:Nat)(F:List D->M OT):Sp:=λ vs H Q E=>vs.length=n/\∃P ds,(∀a,P a->Eb H a)/\Ae K (del H P) vs ds/\YE K (CW K E) P H Q (F ds)
noncomputable def kZ:Cl->M OT
 | .val d=>.ok (.sh d)
 | .own ds=>.ok (.lst (ds.map .sh))
 | .ow (.rows G4)=>.ok (.lst (G4.map λ ds=>.lst (ds.map .sh)))
 | .ow (.Kr _ _)=>.bad
 | .ow (.tree none t)=>.ok t
 | .ow (.tree (some _) _)=>.bad
noncomputable def Ud (m:M Out):M OT:=match m with
 | .ok (.ret d)=>.ok (.sh d)
 | .ok (.BZ c)=>kZ c
 | .ok (.next _)=>.ok (.sh .AD)
 | .ex x=>.ex x
 |_=>.bad
theorem DC.ows {K:za}{H:Hp}{P:Addr->Prop}:∀ {ps:List Addr}{G4:List (List D)},DC K H P ps G4->AB K H P (ps.map V.ref) (G4.map λ ds=>.lst (ds.map .sh)) ps
 |_,_,.nil=>.nil
 |_,_,.cons h r t=>.cons (.lst h r.ows) t.ows
theorem Cm.tree {K:za}{H:Hp}{P:Addr->Prop}{c:Cl}{v:V}{fp:List Addr}{t:OT}(h:Cm K H P c v fp)(e:kZ c=.ok t):BC K H P v t fp:=by
 cases c with
 |val d=>exact h.elim
 |own ds =>
  cases e;obtain⟨p,xs,rfl,rfl,h1,h2⟩:=h;exact .lst h1 h2.ows
 |ow o =>
  cases o with
  |rows G4 =>
   cases e;obtain⟨p,ps,rfl,rfl,h1,h2⟩:=h;exact .lst h1 h2.ows
  |Kr p ds=>cases e
  |tree p t' =>
   cases p with
   |none=>cases e;exact h
   |some q=>cases e
section
variable {P:Program}{w:World}{K:za}{mg:Str->Option Value}{base:Heap}
theorem YG {WX:Str->Hp->Prop}{P P2:Addr->Prop}{H H':Hp}{Q:VK}{c:Cl}{v:V}{fp:List Addr}(h:YE K WX P H Q (kZ c))(t:Tr P P H P2 H')(hs:∀a,P a->P2 a)(ho:Cm K H' P2 c v fp)(hp:∀a∈fp,P2 a/\¬ P a)(nd:fp.Nodup):Q v H':=by
 cases q:kZ c with
 |bad=>rw[q] at h;exact h.elim
 |ex x=>cases c with
  |val d|own ds=>cases q
  |ow o =>
   cases o with
   |rows G4|Kr p ds=>cases q
   |tree p t'=>cases p<;>cases q
 |ok u =>
  rw[q] at h;have o:=ho.tree q;refine h v fp H' (D6 t) (λ a ha=>fJ t (hp a ha).1 (hp a ha).2) nd (o.move (BH λ a ha=>ha.elim (hs a) λ z=>(hp a z).1) λ _ _=>rfl)
theorem lA {x qual:Str}{st:Stmt}{f:Addr}{fd:FuncData}{N ps:List Str}{k:Nat}(F:V9 K x qual st f fd)(S:Ag N ps (A3 st))(g:A9->M Out)
 (hb:∀(B1:Value) (A:Around) (outer:List Env) (s:Shared) (H:Hp) (E:XK),Bq k (A.deeper (envOfC qual (A3 st) s.heap.objs.size f B1))->QS (Sy P w K mg base N qual (A3 st) f B1 A outer s H E) (CW K E) (As st) g):
 CV P w K mg base (Ru P w base) (k+1) f fd ps (spT K ps.length λ ds=>Ud (g (AH N ds))):=by
 obtain⟨oc,od,kV,doc,pm,an,B1,ct,QR,rfl,lk,bd⟩:=F.ex;refine Sk lk bd S (λ vs H Q E h=>h.1) λ A outer s H vs Q E hr h=>?_;obtain⟨hl,P',ds,ht,hv,hq⟩:=h;obtain⟨t,h1,h2⟩:=hb B1 A outer s H E hr;refine⟨t,h1,h2 ⟨P',λ _=>0⟩ P' _ H _ _ (Nd ht hv) ?_⟩;dsimp only at hq;revert hq;cases g (AH N ds) with
 |bad=>exact λ h=>h.elim
 |ex x=>exact λ h H' P2 t=>h H' (D6 t)
 |ok o =>
  cases o with
  |ret d=>exact λ h v H' P2 t hv=>h v [] H' (D6 t) (λ a ha=>by cases ha) yy (.sh (by rw[Rx];exact hv))
  |next ρ=>exact λ h σ' H' P2 t E=>h .AD [] H' (D6 t) (λ a ha=>by cases ha) yy (.sh .AD)
  |brk ρ|cont ρ=>exact λ h=>h.elim
  |BZ c=>exact λ h v fp H' P2 t hs ht ho hp nd=>YG h t hs ho hp nd
  |Ed d ρ=>exact λ h=>h.elim
end
structure CO (P:Program)(w:World)(K:za)(mg:Str->Option Value)(base:Heap)(x:Str)(k n:Nat)(F:List D->M OT):Prop where
 ex:∃fa fd ps,CV P w K mg base (Ru P w base) k fa fd ps (spT K n F)/\mg x=some (.ref fa)/\zN K (.ref fa)=true/\Binds K fd ps []
theorem AU {P:Program}{w:World}{K:za}{mg:Str->Option Value}{base:Heap}{x:Str}{st:Stmt}{N ps:List Str}{k n:Nat}(T:AX K mg x st ps)(S:Ag N ps (A3 st))(g:A9->M Out)
 (hb:∀(f:Addr) (B1:Value) (A:Around) (outer:List Env) (s:Shared) (H:Hp) (E:XK),Bq k (A.deeper (envOfC x (A3 st) s.heap.objs.size f B1))->QS (Sy P w K mg base N x (A3 st) f B1 A outer s H E) (CW K E) (As st) g) (hn:ps.length=n:=by rfl):
 CO P w K mg base x (k+1) n (λ ds=>Ud (g (AH N ds))):=by
 obtain⟨f,fd,F,hm,hB⟩:=T.ex;subst hn;exact⟨⟨f,fd,ps,lA F S g (hb f),hm,F.kp,hB⟩⟩
section
variable {X:Cx}{E:XK}{WX:Str->Hp->Prop}{c:Bool}{e:Expr}{es:List Expr}{fs:A9->M (List D)}{f:A9->M D}{fn:A9->M OT}{ft:A9->M Bool}{pos:Pos}
theorem Ak {k n:Nat}{F:List D->M OT}{x:Str}{p:Pos}(xo:XCall X E)(G:CO X.prog X.w X.K X.mg X.base x k n F)(hr:Bq k X.A)(hg:Gl X x)(ha:DA X (CW X.K E) true (e::es) fs)(hn:(e::es).length=n)
 (aT:(x==("__debug__" : Str))=false:=by decide) (he:starEach (e::es) X.env=(false,eval e X.env)::starEach es X.env:=by rfl) (az:(backTo pos (starEach es X.env)).any (·.1)=false:=by rfl):
 DN X (CW X.K E) (.Call (.Name x p) (e::es) [] pos) (λ ρ=>(fs ρ).bind F):=by
 obtain⟨fa,fd,ps,hF,hm,hk,hb⟩:=G.ex;obtain⟨ta,a1,a2,a3⟩:=ha;refine⟨_,Sj hF hr hg hm hk hb .nil xo.call a1 aT he az,λ P0 P σ H Q ρ E h=>?_⟩;dsimp only at h;refine a2 P0 P σ H _ ρ E ?_;cases q:fs ρ with
 |bad|ex x=>rw[q] at h;exact h
 |ok ds =>
  rw[q] at h;simp only[M.A6] at h;intro vs H1 s1 aM;rw[yc];exact⟨by rw[aM.length,a3 ρ ds q];exact hn,P,ds,(E.same s1).C4,aM,h.same s1⟩
theorem Gm (h:DN X WX e fn):DN X (λ _ _=>False) e fn:=by
 obtain⟨t,h1,h2⟩:=h;refine⟨t,h1,λ P0 P σ H Q ρ E g=>h2 P0 P σ H Q ρ E ?_⟩;cases q:fn ρ with
 |bad=>rw[q] at g;exact g
 |ex x=>rw[q] at g;exact (g H (Ab.refl H)).elim
 |ok t=>rw[q] at g;exact g
noncomputable def Ue (t:OT):M Out:=match t with
 | .sh d=>.ok (.ret d)
 |t=>.ok (.BZ (.ow (.tree none t)))
end
section
variable {X:Cx}{WX:Str->Hp->Prop}{c:Bool}{P0:Ea}{P:Addr->Prop}{H:Hp}{σ:St}{ρ:A9}{a b e:Expr}{f g:A9->M D}{fn:A9->M OT}{pos:Pos}
theorem Ai.mP {K:za}{H':Hp}{fp:List Addr}(E:Ai K P0 P H σ ρ)(s:Ab H H')(hn:∀a∈fp,H a=none):Tr P0 P H (PU P fp) H':=
 ⟨CN s hn,λ a ha=>by obtain⟨o,q,_⟩:=E.C4 a (E.sub a ha);rw[q];exact s _ _ q⟩
theorem An (ha:DN X WX e fn):DS X WX (.Return (some e) pos) (λ ρ=>(fn ρ).bind Ue):=by
 obtain⟨ta,a1,a2⟩:=ha;refine⟨_,NZ a1,λ P0 P σ H Z ρ E h=>?_⟩;dsimp only at h;refine a2 P0 P σ H _ ρ E ?_;cases q:fn ρ with
 |bad=>rw[q] at h;exact h
 |ex x=>rw[q] at h;exact λ H' s=>h H' P (E.tr s)
 |ok t =>
  rw[q] at h;simp only[M.A6] at h;intro v fp H' s hn nd o;have key:gS X.K WX P0 P H Z (.ok (.BZ (.ow (.tree none t))))->Z.rt v H':=λ h =>
   h v fp H' (PU P fp) (E.mP s hn) (λ a ha=>.inl (E.sub a ha)) (Jx (E.same s).C4 o) o (λ a ha=>⟨.inr ha,λ z=>(E.C4 a (E.sub a z)).no (hn a ha)⟩) nd
  cases t with
  |sh d =>
   cases o with
   |sh hv=>exact h v H' P (E.tr s) (hv.mono (BH λ a ha=>.inl (E.sub a ha)))
  |lst ts|tup ts|B6 b ks ts|ins x ns ts=>exact key h
noncomputable def DD:List OT->Option (List D)
 |[]=>some []
 | .sh d::r=>(DD r).map (d::·)
 |_::_=>none
theorem C8:∀ds:List D,DD (ds.map .sh)=some ds
 |[]=>rfl
 |d::r=>by rw[zg,DD,C8 r];rfl
theorem CB:∀ {ts:List OT}{ds:List D},DD ts=some ds->ts=ds.map .sh
 |[],ds,h=>by cases h;rfl
 | .sh d::r,ds,h=>by
  rw[DD] at h;cases q:DD r with
  |none=>rw[q] at h;cases h
  |some es=>rw[q] at h;cases h;rw[zg,<-CB q]
 | .lst _::r,ds,h| .tup _::r,ds,h| .B6 _ _ _::r,ds,h| .ins _ _ _::r,ds,h=>by cases h
noncomputable def toCl (p:Option Nat)(t:OT):Cl:=match t with
 | .lst ts=>(match DD ts with
  |some ds=>(match p with|none=>.own ds|some q=>.ow (.Kr q ds))
  |none=>.ow (.tree p (.lst ts)))
 |t=>.ow (.tree p t)
@[simp] theorem toCl_list (ds:List D):toCl none (.lst (ds.map .sh))=.own ds:=by unfold toCl;simp only[C8]
@[simp] theorem toCl_listP (q:Nat) (ds:List D):toCl (some q) (.lst (ds.map .sh))=.ow (.Kr q ds):=by unfold toCl;simp only[C8]
@[simp] theorem toCl_dct (p:Option Nat) (b:Bool) (ks:List D) (ts:List OT):toCl p (.B6 b ks ts)=.ow (.tree p (.B6 b ks ts)):=rfl
noncomputable def treeOf:Cl->Option (Option Nat×OT)
 | .own ds=>some (none,.lst (ds.map .sh))
 | .ow (.Kr p ds)=>some (some p,.lst (ds.map .sh))
 | .ow (.rows G4)=>some (none,.lst (G4.map λ ds=>.lst (ds.map .sh)))
 | .ow (.tree p t)=>some (p,t)
 | .val _=>none
theorem Cm.toT {K:za}{H:Hp}{P:Addr->Prop}{c:Cl}{v:V}{fp:List Addr}{p:Option Nat}{t:OT}(h:Cm K H P c v fp)(e:treeOf c=some (p,t)):BC K H P v t fp:=by
 cases c with
 |val d=>exact h.elim
 |own ds =>
  cases e;obtain⟨p,xs,rfl,rfl,h1,h2⟩:=h;exact .lst h1 h2.ows
 |ow o =>
  cases o with
  |rows G4 =>
   cases e;obtain⟨p,ps,rfl,rfl,h1,h2⟩:=h;exact .lst h1 h2.ows
  |Kr p ds =>
   cases e;obtain⟨p,xs,rfl,rfl,h1,h2⟩:=h;exact .lst h1 h2.ows
  |tree p t'=>cases e;exact h
theorem Cm.toCl {K:za}{H:Hp}{P:Addr->Prop}{v:V}{fp:List Addr}{p:Option Nat}{t:OT}(h:BC K H P v t fp):Cm K H P (toCl p t) v fp:=by
 unfold L2.toCl;split
 ·rename_i ts;cases q:DD ts with
  |none=>exact h
  |some ds =>
   have e:=CB q;subst e;cases h with
   |lst h1 h2 =>
    obtain⟨rfl,h3⟩:=h2.fM;cases p with
    |none|some q=>exact⟨_,_,rfl,rfl,h1,h3⟩
 ·exact h
theorem Fo (p:Option Nat)(t:OT):N7 (toCl p t)=p:=by
 unfold toCl;split
 ·rename_i ts;cases q:DD ts with
  |none|some ds=>cases p<;>rfl
 ·cases p<;>rfl
theorem HU {c:Cl}{p:Option Nat}{t:OT}(h:treeOf c=some (p,t)):N7 c=p:=by
 cases c with
 |val d=>cases h
 |own ds=>cases h;rfl
 |ow o =>
  cases o with
  |rows G4|Kr p ds=>cases h;rfl
  |tree p t=>cases h;cases p<;>rfl
noncomputable def PP (i:Nat)(ρ:A9)(t:OT):M Out:=match t with
 | .sh d=>.ok (.next (ρ.set i (some (.val d))))
 |t=>.ok (.next (ρ.set i (some (toCl none t))))
theorem lB {K:za}{i:Nat}{t:OT}{v:V}{fp:List Addr}{H':Hp}{Z:Ends}(E:Ai K P0 P H σ ρ)(s:Ab H H')(hn:∀a∈fp,H a=none)(nd:fp.Nodup)(o:BC K H' (PU P fp) v t fp)(h:gS K WX P0 P H Z (PP i ρ t)):Z.nx (σ.set i (some v)) H':=by
 have key:gS K WX P0 P H Z (.ok (.next (ρ.set i (some (toCl none t)))))->Z.nx (σ.set i (some v)) H':=λ h=>by
  refine h _ H' (PU P fp) (E.mP s hn) (E.Yq Jw (Jx (E.same s).C4 o) (CN s hn) (λ j c' v' ah ad g1 g2 g3 a ha=>?_) (Cm.toCl o) (λ a ha=>⟨.inr ha,λ z=>(E.C4 a (E.sub a z)).no (hn a ha)⟩) nd (λ n z=>by rw[Fo] at z;cases z));obtain⟨xs,z⟩:=g3.at a ha;exact⟨by rw[z];exact s _ _ z,λ w=>by rw[hn a w] at z;cases z⟩
 cases t with
 |sh d =>
  cases o with
  |sh hv=>exact h _ H' P (E.tr s) ((E.same s).U1 (by rw[Rx] at hv;exact hv))
 |lst ts|tup ts|B6 b ks ts|ins x ns ts=>exact key h
theorem BX (i:Nat){x:Str}{pos':Pos}(hN:X.N.Nodup)(hi:X.N[i]?=some x)(hx:Loc X.env.scope x)(ha:DN X WX e fn)(hs:swapsWith e (some (.Name x pos')) pos.line X.env=pure false:=by rfl)(hf:X.fn x=true\/X.env.scope.names.lookup x=some .local:=by first | exact .inl rfl | exact .inr rfl | assumption):
 DS X WX (.Assign [.Name x pos'] e pos) (λ ρ=>(fn ρ).bind (PP i ρ)):=by
 obtain⟨ta,a1,a2⟩:=ha;refine⟨_,QX hN hi hx a1 hs hf,λ P0 P σ H Z ρ E h=>?_⟩;dsimp only at h;refine a2 P0 P σ H _ ρ E ?_;cases q:fn ρ with
 |bad=>rw[q] at h;exact h
 |ex x=>rw[q] at h;exact λ H' s=>h H' P (E.tr s)
 |ok t =>
  rw[q] at h;exact λ v fp H' s hn nd o=>lB E s hn nd o h
noncomputable def Ry (i:Nat)(ρ:A9):M Out:=match ρ[i]? with
 |some (some (.val d))=>.ok (.ret d)
 |some (some c)=>.ok (.BZ c)
 |_=>.bad
theorem Eg (i:Nat){x:Str}{p1:Pos}(hv:PE X (.Name x p1) (Pb i)):DS X WX (.Return (some (.Name x p1)) pos) (Ry i):=by
 refine⟨_,NZ hv,λ P0 P σ H Z ρ E h=>?_⟩;unfold Ry at h;split at h
 ·rename_i d e1;obtain⟨v,h1,h2⟩:=E.val i d e1;exact⟨v,h1,h v H P Tr.refl (h2.mono (BH E.sub))⟩
 ·rename_i c hc e1;have io:Fl c=true:=by
   cases c with
   |val d=>exact (hc d rfl).elim
   |own ds|ow o=>rfl
  obtain⟨v,fp,h1,h2,h3,h4⟩:=E.ows i _ e1 io;exact⟨v,h1,h v fp H P Tr.refl E.sub E.C4 h2 h3 h4⟩
 ·exact h.elim
theorem HV:∀ds:List D,Pw (ds.map .sh)=ds
 |[]=>rfl
 |d::r=>by rw[zg,Pw,er,HV r]
theorem Ug {c:Cl}{p:Option Nat}{t:OT}(e:treeOf c=some (p,t)):IV c=.val (er t):=by
 cases c with
 |val d=>cases e
 |own ds=>cases e;rw[er,HV];rfl
 |ow o =>
  cases o with
  |rows G4 =>
   cases e;rw[er,Su,ym];have:(er ∘ λ ds:List D=>OT.lst (ds.map .sh))=D.lst:=by funext ds;rw[Function.comp,er,HV]
   rw[this];rfl
  |Kr p ds=>cases e;rw[er,HV];rfl
  |tree p t'=>cases e;rfl
theorem Rz {c:Cl}(h:Fl c=true):∃p t,treeOf c=some (p,t):=by
 cases c with
 |val d=>cases h
 |own ds=>exact⟨_,_,rfl⟩
 |ow o=>cases o<;>exact⟨_,_,rfl⟩
noncomputable def PQ (i:Nat)(ρ:A9):A9:=match ρ[i]? with
 |some (some c)=>ρ.set i (some (IV c))
 |_=>ρ
theorem Ai.QV {K:za}(E:Ai K P0 P H σ ρ)(i:Nat):∃P',(∀a,P' a->P a)/\Ai K P0 P' H σ (PQ i ρ):=by
 unfold PQ;split
 ·rename_i c e1;cases io:Fl c with
  |false =>
   cases c with
   |val d =>
    refine⟨P,λ _ h=>h,?_⟩;have:ρ.set i (some (IV (.val d)))=ρ:=Lh e1;rw[this];exact E
   |own ds|ow o=>cases io
  |true =>
   obtain⟨p,t,ht⟩:=Rz io;obtain⟨v,fp,h1,h2,h3,h4⟩:=E.ows i c e1 io;rw[Ug ht];have o:=h2.toT ht;let P':Addr->Prop:=λ a=>P a/\a∉fp;have dL:∀a,P' a->P a:=λ a h=>h.1;have sm:Ab (del H P) (del H P'):=BH dL;have dj:∀(j:Nat) c' v' ah,i≠j->ρ[j]?=some (some c')->σ[j]?=some (some v')->Cm K H P c' v' ah->∀a∈ah,a∉fp:=λ j c' v' ah ad g1 g2 g3=>E.apart j i c' c v' v ah fp g1 e1 g2 h1 g3 h2 (yd ad);have old:∀(j:Nat) (c':Cl) (v':V) (fq:List Addr),ρ[j]?=some (some c')->σ[j]?=some (some v')->Cm K H P' c' v' fq->Cm K H P c' v' fq:=λ j c' v' fq g1 g2 g3=>by
    have c3:Fl c'=true:=by cases c'<;>first|rfl|exact g3.elim
    obtain⟨w,fr,k1,k2,k3,k4⟩:=E.ows j c' g1 c3;rw[g2] at k1;cases k1;rw[g3.BL (k2.move sm λ _ _=>rfl)];exact k2
   refine⟨P',dL,⟨λ a h=>⟨E.sub a h,λ z=>(h3 a z).2 h⟩,λ a h=>E.C4 a h.1,λ j d h=>?_,λ j c' h c3=>?_,λ j k c1 c2 v1 v2 f1 f2 q1 q2 q3 q4 q5 q6 ad=>?_,by rw[y2];exact E.len,λ j c' n h hp=>?_⟩⟩
   rotate_left 3
   ·rcases get_set h with ⟨rfl,hl,z⟩|⟨ad,h⟩
    ·cases z;cases hp
    ·exact E.pin j c' n h hp
   ·rcases get_set h with ⟨rfl,hl,z⟩|⟨ad,h⟩
    ·cases z;exact⟨v,h1,o.has dL λ a ha z=>z.2 ha⟩
    ·obtain⟨w,k1,k2⟩:=E.val j d h;exact⟨w,k1,k2.mono sm⟩
   ·rcases get_set h with ⟨rfl,hl,z⟩|⟨ad,h⟩
    ·cases z;cases c3
    ·obtain⟨w,fq,k1,k2,k3,k4⟩:=E.ows j c' h c3;exact⟨w,fq,k1,k2.move sm λ _ _=>rfl,λ a ha=>⟨⟨(k3 a ha).1,dj j c' w fq ad h k1 k2 a ha⟩,(k3 a ha).2⟩,k4⟩
   ·rcases get_set q1 with ⟨rfl,hl,z⟩|⟨bQ,q1⟩
    ·cases z;exact q5.elim
    ·rcases get_set q2 with ⟨rfl,hl,z⟩|⟨aD,q2⟩
     ·cases z;exact q6.elim
     ·exact E.apart j k c1 c2 v1 v2 f1 f2 q1 q2 q3 q4 (old j c1 v1 f1 q1 q3 q5) (old k c2 v2 f2 q2 q4 q6) ad
 ·exact⟨P,λ _ h=>h,E⟩
theorem gS.less {K:za}{P':Addr->Prop}{Z:Ends}{m:M Out}(hs:∀a,P' a->P a)(h:gS K WX P0 P H Z m):gS K WX P0 P' H Z m:=by
 have tr:∀ {P2:Addr->Prop} {H2:Hp},Tr P0 P' H P2 H2->Tr P0 P H P2 H2:=λ t=>⟨(BH hs).trans t.1,t.2⟩;cases m with
 |bad=>exact h
 |ex x=>exact λ H2 P2 t2=>h H2 P2 (tr t2)
 |ok o =>
  cases o with
  |ret d=>exact λ v H2 P2 t2 hv=>h v H2 P2 (tr t2) hv
  |next ρ|brk ρ|cont ρ=>exact λ σ2 H2 P2 t2 hv=>h σ2 H2 P2 (tr t2) hv
  |BZ c=>exact λ v fp H2 P2 t2=>h v fp H2 P2 (tr t2)
  |Ed c ρ=>exact λ v fp σ2 H2 P2 t2=>h v fp σ2 H2 P2 (tr t2)
theorem fO (i:Nat){st:Stmt}{g1:A9->M Out}(h:DS X WX st g1):DS X WX st (λ ρ=>g1 (PQ i ρ)):=by
 obtain⟨t,h1,h2⟩:=h;refine⟨t,h1,λ P0 P σ H Z ρ E h=>?_⟩;obtain⟨P',hs,E'⟩:=E.QV i;exact h2 P0 P' σ H Z _ E' (h.less hs)
end
section
variable {K:za}{H H':Hp}{P P':Addr->Prop}
theorem C7.same {v:V}{t:OT}{q:List Addr}{xs:List V}(e:Ab H H')(h:C7 K H P v t q xs):C7 K H' P v t q xs:=by
 cases t with
 |sh d=>exact h.elim
 |lst ts=>obtain⟨p,rfl,rfl,h⟩:=h;exact⟨p,rfl,rfl,e _ _ h⟩
 |tup ts=>obtain⟨p,rfl,rfl,h⟩:=h;exact⟨p,rfl,rfl,e.del _ _ h⟩
 |B6 b ks ts =>
  cases b with
  |false|true=>obtain⟨p,kvs,rfl,rfl,h,rfl,rfl⟩:=h;exact⟨p,kvs,rfl,rfl,e _ _ h,rfl,rfl⟩
 |ins x ns ts=>obtain⟨p,C,dx,fs,rfl,rfl,n,h,rfl,rfl⟩:=h;exact⟨p,C,dx,fs,rfl,rfl,n,e _ _ h,rfl,rfl⟩
theorem IU.same {v v1:V}{t t1:OT}{π:List Nat}(e:Ab H H')(h:IU K H P v t π v1 t1):IU K H' P v t π v1 t1:=by
 induction h with
 |nil=>exact .nil
 |cons n hx hs _ ih=>exact .cons (n.same e) hx hs ih
theorem C7.more {v:V}{t:OT}{q:List Addr}{xs:List V}(sm:Ab (del H P) (del H' P'))(e:Ab H H')(h:C7 K H P v t q xs):C7 K H' P' v t q xs:=by
 cases t with
 |sh d=>exact h.elim
 |lst ts=>obtain⟨p,rfl,rfl,h⟩:=h;exact⟨p,rfl,rfl,e _ _ h⟩
 |tup ts=>obtain⟨p,rfl,rfl,h⟩:=h;exact⟨p,rfl,rfl,sm _ _ h⟩
 |B6 b ks ts =>
  cases b with
  |false|true=>obtain⟨p,kvs,rfl,rfl,h,rfl,rfl⟩:=h;exact⟨p,kvs,rfl,rfl,e _ _ h,rfl,rfl⟩
 |ins x ns ts=>obtain⟨p,C,dx,fs,rfl,rfl,n,h,rfl,rfl⟩:=h;exact⟨p,C,dx,fs,rfl,rfl,n,e _ _ h,rfl,rfl⟩
theorem IU.more {v v1:V}{t t1:OT}{π:List Nat}(sm:Ab (del H P) (del H' P'))(e:Ab H H')(h:IU K H P v t π v1 t1):IU K H' P' v t π v1 t1:=by
 induction h with
 |nil=>exact .nil
 |cons n hx hs _ ih=>exact .cons (n.more sm e) hx hs ih
end
noncomputable def SE (i:Nat)(ρ:A9)(π:List Nat):Option OT:=match ρ[i]? with
 |some (some c)=>(match treeOf c with|some (_,t)=>Jv t π|none=>none)
 |_=>none
structure Ba (K:za)(P:Addr->Prop)(H:Hp)(σ:St)(ρ:A9)(i:Nat)(π:List Nat)(v:V)(t1:OT):Prop where
 ex:∃v0 c p t,ρ[i]?=some (some c)/\treeOf c=some (p,t)/\σ[i]?=some (some v0)/\IU K H P v0 t π v t1
theorem Ba.at {K:za}{P:Addr->Prop}{H:Hp}{σ:St}{ρ:A9}{i:Nat}{π:List Nat}{v:V}{t1:OT}(h:Ba K P H σ ρ i π v t1):SE i ρ π=some t1:=by
 obtain⟨v0,c,p,t,h1,h2,h3,h4⟩:=h.ex;unfold SE;simp only[h1,h2];exact h4.sub
theorem Ba.same {K:za}{P:Addr->Prop}{H H':Hp}{σ:St}{ρ:A9}{i:Nat}{π:List Nat}{v:V}{t1:OT}(e:Ab H H')(h:Ba K P H σ ρ i π v t1):Ba K P H' σ ρ i π v t1:=by
 obtain⟨v0,c,p,t,h1,h2,h3,h4⟩:=h.ex;exact⟨v0,c,p,t,h1,h2,h3,h4.same e⟩
theorem Ba.more {K:za}{P P':Addr->Prop}{H H':Hp}{σ:St}{ρ:A9}{i:Nat}{π:List Nat}{v:V}{t1:OT}(sm:Ab (del H P) (del H' P'))(e:Ab H H')(h:Ba K P H σ ρ i π v t1):Ba K P' H' σ ρ i π v t1:=by
 obtain⟨v0,c,p,t,h1,h2,h3,h4⟩:=h.ex;exact⟨v0,c,p,t,h1,h2,h3,h4.more sm e⟩
theorem Ba.own {K:za}{P0:Ea}{P:Addr->Prop}{H:Hp}{σ:St}{ρ:A9}{i:Nat}{π:List Nat}{v:V}{t1:OT}(h:Ba K P H σ ρ i π v t1)(E:Ai K P0 P H σ ρ):∃ay,BC K H P v t1 ay/\(∀a∈ay,P a/\¬ P0 a)/\ay.Nodup:=by
 obtain⟨v0,c,p,t,h1,h2,h3,h4⟩:=h.ex;have io:Fl c=true:=by cases c<;>first|rfl|cases h2
 obtain⟨w,fp,k1,k2,k3,k4⟩:=E.ows i c h1 io;rw[h3] at k1;cases k1;obtain⟨ay,o1,hk,kn⟩:=(k2.toT h2).part h4;exact⟨ay,o1,λ a ha=>k3 a (hk a ha),kn k4⟩
def gP (K:za)(WX:Str->Hp->Prop)(P:Addr->Prop)(H:Hp)(σ:St)(ρ:A9)(i:Nat)(Q:VK):M (List Nat)->Prop
 | .ok π=>∀v t1 H',Ab H H'->Ba K P H' σ ρ i π v t1->Q v H'
 | .ex x=>∀H',Ab H H'->WX x H'
 | .bad=>False
def DP (X:Cx)(WX:Str->Hp->Prop)(e:Expr)(i:Nat)(f:A9->M (List Nat)):Prop:=
 ∃t,PE X e t/\∀P0 P σ H Q ρ,Ai X.K P0 P H σ ρ->gP X.K WX P H σ ρ i Q (f ρ)->t σ H Q
section
variable {X:Cx}{WX:Str->Hp->Prop}{c:Bool}{P0:Ea}{P:Addr->Prop}{H:Hp}{σ:St}{ρ:A9}{a b e:Expr}{f g:A9->M D}{fn:A9->M OT}{fp:A9->M (List Nat)}{pos:Pos}{i:Nat}
noncomputable def PR (i:Nat)(ρ:A9):M (List Nat):=match SE i ρ [] with | some _=>.ok [] | none=>.bad
theorem Br (i:Nat){x:Str}{p1:Pos}(hv:PE X (.Name x p1) (Pb i)):DP X WX (.Name x p1) i (PR i):=by
 refine⟨_,hv,λ P0 P σ H Q ρ E h=>?_⟩;unfold PR at h;split at h
 ·rename_i t e;unfold SE at e;split at e
  ·rename_i cl e1;split at e
   ·rename_i p t0 e2;have io:Fl cl=true:=by cases cl<;>first|rfl|cases e2
    obtain⟨v,fp,h1,h2,h3,h4⟩:=E.ows i cl e1 io;exact⟨v,h1,h v t0 H (Ab.refl H) ⟨v,cl,p,t0,e1,e2,h1,.nil⟩⟩
   ·cases e
  ·cases e
 ·exact h.elim
noncomputable def oN (i:Nat)(ρ:A9)(π:List Nat):M D:=match SE i ρ π with
 |some (.sh d)=>.ok d
 |_=>.bad
theorem Ai.lC {K:za}{P':Addr->Prop}{H':Hp}{π:List Nat}{v1:V}{t1 u:OT}{ay fu:List Addr}(E:Ai K P0 P H σ ρ)(pl:Ba K P H σ ρ i π v1 t1)(o:BC K H P v1 t1 ay)(hs:∀a,P a->P' a)(ht:∀a,P' a->Eb H' a)(sm:Ab (del H P) (del H' P'))(keep:∀a,P a->a∉ay->H' a=H a)
 (o':BC K H' P' v1 u fu) (nd:fu.Nodup) (hf:∀a∈fu,a∈ay\/(P' a/\¬ P0 a/\∀(j:Nat) c v fp,ρ[j]?=some (some c)->σ[j]?=some (some v)->Cm K H P c v fp->a∉fp)):
 ∃c p t,ρ[i]?=some (some c)/\treeOf c=some (p,t)/\Ai K P0 P' H' σ (ρ.set i (some (toCl p (Er t π u))))/\Tr P0 P H P' H':=by
 obtain⟨v0,c,p,t,h1,h2,h3,h4⟩:=pl.ex;have io:Fl c=true:=by cases c<;>first|rfl|cases h2
 obtain⟨w,fp,k1,k2,k3,k4⟩:=E.ows i c h1 io;rw[h3] at k1;cases k1;have ot:=k2.toT h2;obtain⟨fz,oz,kz,_⟩:=ot.part h4;have:=oz.BL o;subst this;obtain⟨ah,q1,q2,q3⟩:=ot.put sm h4 o o' (λ a ha hn=>keep a (k3 a ha).1 hn) k4 nd (λ a ha hb=>(hf a ha).elim id λ z=>(z.2.2 i c v0 fp h1 h3 k2 hb).elim);refine⟨c,p,t,h1,h2,?_,sm,λ a ha=>keep a (E.sub a ha) λ z=>(k3 a (kz a z)).2 ha⟩;have key:=E.Yq (P':=P') (H':=H') (i:=i) (v:=v0) (c:=toCl p (Er t π u)) (fp:=ah) hs ht sm (λ j c' v' fq ad g1 g2 g3 a ha=>?_) (Cm.toCl q1) (λ a ha=>?_) q2 (λ n z=>by rw[Fo] at z;subst z;have:=E.pin i c n h1 (HU h2);rw[h3] at this;cases this;rfl)
 ·rw[Lh h3] at key;exact key
 ·have nj:a∉fp:=E.apart j i c' c v' v0 fq fp g1 h1 g2 h3 g3 k2 (yd ad) a ha;have c3:Fl c'=true:=by cases c'<;>first|rfl|exact g3.elim
  obtain⟨w',fr,m1,m2,m3,m4⟩:=E.ows j c' g1 c3;rw[g2] at m1;cases m1;have:=m2.BL g3;subst this;refine⟨keep a (m3 a ha).1 λ z=>nj (kz a z),λ z=>?_⟩;rcases q3 a z with y|y
  ·rcases hf a y with x|x
   ·exact nj (kz a x)
   ·exact x.2.2 j c' v' fr g1 g2 g3 ha
  ·exact nj y.1
 ·rcases q3 a ha with y|y
  ·rcases hf a y with x|x
   ·exact⟨hs a (k3 a (kz a x)).1,(k3 a (kz a x)).2⟩
   ·exact⟨x.1,x.2.1⟩
  ·exact⟨hs a (k3 a y.1).1,(k3 a y.1).2⟩
theorem Ai.oO {K:za}{π:List Nat}{l:Addr}{xs ys:List V}{ts us:List OT}{fq fu:List Addr}(E:Ai K P0 P H σ ρ)(pl:Ba K P H σ ρ i π (.ref l) (.lst ts))(hH:H l=some (.lst xs))(o:AB K H P xs ts fq)(o':AB K H P ys us fu)(nd:fu.Nodup)(hl:l∉fu)
 (hf:∀a∈fu,a∈fq\/(P a/\¬ P0 a/\∀(j:Nat) c v fp,ρ[j]?=some (some c)->σ[j]?=some (some v)->Cm K H P c v fp->a∉fp)):
 ∃c p t,ρ[i]?=some (some c)/\treeOf c=some (p,t)/\Ai K P0 P (upd H l (.lst ys)) σ (ρ.set i (some (toCl p (Er t π (.lst us)))))/\Tr P0 P H P (upd H l (.lst ys)):=by
 have ot:BC K H P (.ref l) (.lst ts) (l::fq):=.lst hH o;obtain⟨ay,o1,hp,_⟩:=pl.own E;have:=o1.BL ot;subst this;have pP:P l:=(hp l zd).1;have sd:del (upd H l (.lst ys)) P=del H P:=by
  funext b;by_cases hb:P b
  ·rw[Fj hb,Fj hb]
  ·rw[AA hb,AA hb,Al (λ z=>hb (by rw[z];exact pP))]
 have sm:Ab (del H P) (del (upd H l (.lst ys)) P):=by rw[sd];exact Ab.refl _
 refine E.lC pl ot (λ _ h=>h) (λ a h=>?_) sm (λ a ha hn=>Al λ z=>hn (by rw[z];exact zd)) (.lst Ax (o'.move sm λ a ha=>Al λ z=>hl (by rw[<-z];exact ha))) (yA.mpr ⟨hl,nd⟩) (λ a ha=>?_)
 ·by_cases ha:a=l
  ·subst ha;exact Eb.lst Ax
  ·unfold Eb;rw[Al ha];exact E.C4 a h
 ·rcases zp.mp ha with z|z
  ·exact .inl (by rw[z];exact zd)
  ·rcases hf a z with y|y
   ·exact .inl (zf _ y)
   ·exact .inr y
end
noncomputable def kd:D->Option Key
 | .int i=>some (.inl i)
 | .str x=>some (.inr x)
 |_=>none
noncomputable def iN:List D->Option (List Key)
 |[]=>some []
 |d::r=>match kd d,iN r with|some k,some ks=>some (k::ks)|_,_=>none
theorem ZK {d:D}{k:Key}(h:kd d=some k):d=Eo k:=by
 cases d<;>simp[kd] at h<;>subst h<;>rfl
theorem Wo:∀ {ds:List D}{ks:List Key},iN ds=some ks->ds=ks.map Eo
 |[],ks,h=>by cases h;rfl
 |d::r,ks,h=>by
  rw[iN] at h;cases q:kd d with
  |none=>rw[q] at h;cases h
  |some k =>
   cases q2:iN r with
   |none=>rw[q,q2] at h;cases h
   |some iz =>
    rw[q,q2] at h;cases h;rw[zg,<-ZK q,<-Wo q2]
inductive YH:Bool->D->Prop
 |k (κ:Key):YH false (Eo κ)
 |t (κ:List Key):YH true (.tup (κ.map Eo))
noncomputable def keyOk (b:Bool)(d:D):Bool:=match b,d with
 |false,d=>(kd d).isSome
 |true,.tup ds=>(iN ds).isSome
 |_,_=>false
theorem IW {b:Bool}{d:D}(h:keyOk b d=true):YH b d:=by
 cases b with
 |false =>
  obtain⟨k,hk⟩:=y3.mp (show (kd d).isSome=true from h);rw[ZK hk];exact .k k
 |true =>
  cases d with
  |tup ds =>
   obtain⟨k,hk⟩:=y3.mp (show (iN ds).isSome=true from h);rw[Wo hk];exact .t k
  |_=>cases h
theorem Lw (a b:Key):Ap (Eo a) (Eo b)=decide (a=b):=by
 cases a with
 |inl i =>
  cases b with
  |inl j=>simp only[Eo,Ap];rw[yQ];simp
  |inr y=>simp[Eo,Ap]
 |inr x =>
  cases b with
  |inl j=>simp[Eo,Ap]
  |inr y=>simp only[Eo,Ap];rw[yQ];simp
theorem Oq:∀a b:List Key,BY (a.map Eo) (b.map Eo)=decide (a=b)
 |[],[]|[],_::_|_::_,[]=>by simp[BY]
 |a::r,b::t=>by
  rw[zg,zg,BY,Lw,Oq r t,yQ];simp
noncomputable def IX {α:Type}:List D->List α->D->Option α
 |k::ks,v::vs,y=>if Ap k y=true then some v else IX ks vs y
 |_,_,_=>none
noncomputable def HW {α:Type}:List D->List α->D->α->List α
 |k::ks,v::vs,y,z=>(if Ap k y=true then z else v)::HW ks vs y z
 |_,vs,_,_=>vs
noncomputable def Ks (ks:List D)(y:D):Bool:=ks.any λ k=>Ap k y
section
variable {κ:Type} [DecidableEq κ] {fk:κ->D}(hf:∀a b,Ap (fk a) (fk b)=decide (a=b))
include hf
theorem Lx {α:Type}:∀(kvs:List (κ×α)) (k:κ),IX (kvs.map λ kv=>fk kv.1) (kvs.map y8) (fk k)=(kvs.find? λ kv=>decide (kv.1=k)).map (·.2)
 |[],k=>rfl
 |p::r,k=>by
  rw[zg,zg,IX,hf,xc];by_cases e:p.1=k
  ·rw[decide_eq_true e];rfl
  ·rw[decide_eq_false e];simp only[zy,if_false];exact Lx r k
theorem PV {α:Type}(kvs:List (κ×α))(k:κ):Ks (kvs.map λ kv=>fk kv.1) (fk k)=kvs.any λ kv=>decide (kv.1=k):=by
 unfold Ks;rw[List.any_map];congr 1;funext kv;exact hf _ _
theorem Ly (k:κ)(v:V):∀(kvs:List (κ×V)),HW (kvs.map λ kv=>fk kv.1) (kvs.map y8) (fk k) v=(kvs.map λ kv=>if kv.1=k then (kv.1,v) else kv).map y8
 |[]=>rfl
 |p::r=>by
  rw[zg,zg,HW,hf,zg,zg,Ly k v r];by_cases e:p.1=k
  ·rw[decide_eq_true e,if_pos e];rfl
  ·rw[decide_eq_false e,if_neg e];rfl
theorem Lz (k:κ)(v:V):∀(kvs:List (κ×V)),(kvs.map λ kv=>if kv.1=k then (kv.1,v) else kv).map (λ kv=>fk kv.1)=kvs.map λ kv=>fk kv.1
 |[]=>rfl
 |p::r=>by
  rw[zg,zg,zg,Lz k v r];by_cases e:p.1=k
  ·rw[if_pos e]
  ·rw[if_neg e]
end
theorem PX {K:za}{H:Hp}:∀ {ks:List D}{xs:List V}{ds:List D}{y d:D},Ae K H xs ds->IX ks ds y=some d->∃x,IX ks xs y=some x/\BB K H x d
 |[],_,_,_,_,_,e|_::_,_,_,_,_,.nil,e=>by simp[IX] at e
 |k::ks,_,_,y,d,.cons h t,e=>by
  rw[IX] at e ⊢;by_cases q:Ap k y=true
  ·rw[if_pos q] at e ⊢;cases e;exact⟨_,rfl,h⟩
  ·rw[if_neg q] at e ⊢;exact PX t e
theorem Nm {α:Type}:∀ {ks:List D}{xs:List α}{y:D},xs.length=ks.length->Ks ks y=(IX ks xs y).isSome
 |[],[],y,_=>rfl
 |k::ks,x::xs,y,h=>by
  unfold Ks;rw[xh,IX];cases q:Ap k y with
  |true=>rfl
  |false =>
   simp only[Bool.false_or,zy,if_false];exact Nm (by simpa using h)
 |[],_::_,_,h|_::_,[],_,h=>by cases h
theorem LB {K:za}{H:Hp}{P:Addr->Prop}{y d:D}{v:V}(hv:BB K (del H P) v d):∀ {ks:List D}{xs:List V}{ds:List D},Ae K (del H P) xs ds->Ae K (del H P) (HW ks xs y v) (HW ks ds y d)
 |[],_,_,h=>by simp only[HW];exact h
 |_::_,_,_,.nil=>by simp only[HW];exact .nil
 |k::ks,_,_,.cons h t=>by
  rw[HW,HW];refine .cons ?_ (LB hv t);by_cases q:Ap k y=true
  ·rw[if_pos q,if_pos q];exact hv
  ·rw[if_neg q,if_neg q];exact h
section
variable {K:za}{H:Hp}{P:Addr->Prop}
theorem Ae.keys:∀ {xs:List V}(κ:List Key),Ae K H xs (κ.map Eo)->xs=κ.map kV
 |_,[],.nil=>rfl
 |_,k::r,.cons h t=>by
  rw[zg,<-Ae.keys r t];congr 1;cases k with
  |inl i=>exact h.int_inv
  |inr x=>cases h;rfl
theorem BB.fP {y:V}{κ:Key}(h:BB K H y (Eo κ)):y=kV κ:=by
 cases κ with
 |inl i=>exact h.int_inv
 |inr x=>cases h;rfl
theorem SF {v y:V}{b:Bool}{ks vs:List D}{k:D}(hv:BB K (del H P) v (.B6 b ks vs))(hy:BB K (del H P) y k)(hk:YH b k):∃a xs,v=.ref a/\Rj H a y (IX ks xs k)/\Ae K (del H P) xs vs/\xs.length=ks.length:=by
 cases hv with
 |Ip hh hl =>
  cases hk with
  |k κ =>
   refine⟨_,_,rfl,?_,hl,by simp⟩;rw[hy.fP,Lx Lw];exact .inl ⟨_,κ,hh.Bj,rfl,rfl⟩
 |HL hh hl =>
  cases hk with
  |t κ =>
   cases hy with
   |tup ht aQ =>
    have e:=Ae.keys κ aQ;subst e;refine⟨_,_,rfl,?_,hl,by simp⟩;rw[Lx (fk:=λ κ:List Key=>D.tup (κ.map Eo)) (λ a b=>by simp only[Ap];exact Oq a b)];exact .inr ⟨_,κ,_,hh.Bj,rfl,(Am ht).2,rfl⟩
end
section
variable {X:Cx}{WX:Str->Hp->Prop}{c:Bool}{P0:Ea}{P:Addr->Prop}{H:Hp}{σ:St}{ρ:A9}{a b e:Expr}{f g:A9->M D}{fn:A9->M OT}{fp:A9->M (List Nat)}{pos:Pos}{i:Nat}
noncomputable def lD:R2:=λ x y H Q=>∃a v,x=.ref a/\Rj H a y (some v)/\Q v H
theorem YI (hu:X.A.units+1<cLine):Y1 X lD:=by
 intro value slice pins s σ H x y v u Q I rx ry h hs;obtain⟨a,z,rfl,g,q⟩:=h;cases rx;have hT:=Po I g;have h₂:wpAny (model X.prog X.w) X.A (getItem (.ref a) u) (EP X pins σ Q) X.xe s:=TR hu I g ry λ w' s3 I3 bu=>⟨z,H,I3,bu,q⟩;unfold subscriptTail;refine wpAny_bind ?_;rw[getitemInPython_of_ne hT.not_modules];refine wpAny_bind (wpAny_specialOf hT PySem.F.slot_dict_getitem.lookup ?_);have fin:wpAny (model X.prog X.w) X.A (subscripted slice false (.ref a) u) (λ r s₃=>wpAny (model X.prog X.w) X.A (letTemporaryGo value (.ref a) r >>= λ _=>pure r) (EP X pins σ Q) X.xe s₃) X.xe s:=by
  rw[hs];exact wpAny_operating (wpAny_mono h₂ (λ r s₃ h₃=>wpAny_bind (wpAny_letTemporaryGo (wpAny_pure h₃))) λ _ _ x=>x)
 first
  |exact wpAny_pure (wpAny_bind fin)
  |exact wpAny_bind (wpAny_pure (wpAny_bind fin))
  |exact wpAny_bind fin
noncomputable def Bd (x y:D):M D:=match x with
 | .B6 b ks vs=>if keyOk b y=true then (match IX ks vs y with|some d=>.ok d|none=>.bad) else .bad
 |x=>iM x y
theorem YJ:Sv X.K WX (λ x y H Q=>(eI X.K x y H Q\/eJ X.K x y H Q)\/lD x y H Q) Bd:=by
 intro P H x y v w Q ht hx hy h;cases x with
 |B6 b ks vs =>
  simp only[Bd] at h;by_cases hk:keyOk b y=true
  ·rw[if_pos hk] at h;obtain⟨a,xs,rfl,g,hl,_⟩:=SF hx hy (IW hk);split at h
   ·rename_i d e;obtain⟨u,e1,e2⟩:=PX hl e;rw[e1] at g;exact .inr ⟨a,u,rfl,g,h _ H (Ab.refl H) e2⟩
   ·exact h.elim
  ·rw[if_neg hk] at h;exact h.elim
 |AD|bl b|int b|str b|tup b|lst b|D9 b|ins b _ _=>exact .inl (Gg P H _ y v w Q ht hx hy h)
theorem Ad {n:Nat}(hu:X.A.units+n<cLine)(ha:DE X WX c a f)(hb:DE X WX c b g)(hs:O1 b:=by exact λ _ _=>rfl)(hn:1<=n:=by decide):DE X WX c (.Subscript a b pos) (λ ρ=>(f ρ).bind λ x=>(g ρ).bind λ y=>Bd x y):=kP ((Y2.or eK).or (YI (by omega))) YJ ha hb hs
noncomputable def fQ (neg:Bool):R2:=λ y x H Q=>∃a o,x=.ref a/\Rj H a y o/\Q (.bl (if neg=true then !o.isSome else o.isSome)) H
theorem RB (hu:X.A.units+1<cLine):GR X (compareOp .In) (fQ false):=by
 intro pins s σ H x y v u Q I rx ry h;obtain⟨a,o,rfl,g,q⟩:=h;cases ry;exact oB hu I g rx λ s3 I3=>⟨.bl o.isSome,H,I3,rfl,q⟩
theorem MI (hu:X.A.units+1<cLine):GR X (compareOp .NotIn) (fQ true):=by
 intro pins s σ H x y v u Q I rx ry h;obtain⟨a,o,rfl,g,q⟩:=h;cases ry;exact Y9 hu I g rx λ s3 I3=>⟨.bl (!o.isSome),H,I3,rfl,q⟩
noncomputable def Kt (neg:Bool)(y x:D):M D:=match x with
 | .B6 b ks vs=>if keyOk b y=true then .ok (.bl (if neg=true then !Ks ks y else Ks ks y)) else .bad
 |x=>mM neg y x
theorem SG {neg:Bool}:Sv X.K WX (λ x y H Q=>mG X.K neg x y H Q\/fQ neg x y H Q) (Kt neg):=by
 intro P H x y v w Q ht hx hy h;cases y with
 |B6 b ks vs =>
  simp only[Kt] at h;by_cases hk:keyOk b x=true
  ·rw[if_pos hk] at h;obtain⟨a,xs,rfl,g,hl,hn⟩:=SF hy hx (IW hk);rw[Nm (xs:=xs) hn] at h;exact .inr ⟨a,_,rfl,g,h _ H (Ab.refl H) (.bl _)⟩
  ·rw[if_neg hk] at h;exact h.elim
 |AD|bl b|int b|str b|tup b|lst b|D9 b|ins b _ _=>exact .inl (Gj P H x _ v w Q ht hx hy h)
theorem LC {n:Nat}(hu:X.A.units+n<cLine)(ha:DE X WX c a f)(hb:DE X WX c b g)(hm:behindInMarks .In b=false:=by rfl)(hn:1<=n:=by decide):DT X WX (.Compare a [.In] [b] pos) (λ ρ=>((f ρ).bind λ x=>(g ρ).bind λ y=>Kt false x y).bind MH):=GW (TH.or (RB (by omega))) SG ha hb hm
theorem Ha {n:Nat}(hu:X.A.units+n<cLine)(ha:DE X WX c a f)(hb:DE X WX c b g)(hm:behindInMarks .NotIn b=false:=by rfl)(hn:1<=n:=by decide):DT X WX (.Compare a [.NotIn] [b] pos) (λ ρ=>((f ρ).bind λ x=>(g ρ).bind λ y=>Kt true x y).bind MH):=GW (O3.or (MI (by omega))) SG ha hb hm
noncomputable def DF:D->M Bool
 | .AD=>.ok false
 | .bl b=>.ok b
 | .int i=>.ok (i != 0)
 | .tup ds| .lst ds=>.ok (!ds.isEmpty)
 |_=>.bad
theorem IY {K:za}{H:Hp}{xs:List V}{ds:List D}(h:Ae K H xs ds):(!ds.isEmpty) = !xs.isEmpty:=by cases h<;>rfl
theorem Bs (h:DE X WX c e f)(he:∀whole,isTrue e X.env whole=(do let v <-whole;standAt e.pos;holding [v] (truthy v)):=by intro _;rfl):DT X WX e (λ ρ=>(f ρ).bind DF):=by
 obtain⟨t,h1,h2⟩:=h;refine⟨_,Vw h1 he,λ P0 P σ H Q ρ E h=>h2 P0 P σ H _ ρ E ?_⟩;dsimp only at h;cases q:f ρ with
 |bad|ex x=>rw[q] at h;exact h
 |ok d =>
  rw[q] at h;simp only[M.A6] at h;intro v H' s hv;cases hv with
  |AD=>exact⟨false,rfl,h H' s⟩
  |bl b=>exact⟨b,rfl,h H' s⟩
  |int i=>exact⟨_,rfl,h H' s⟩
  |tup hs hl=>exact⟨_,.inr (.inl ⟨_,El.of (Am hs).2,rfl⟩),by rw[<-IY hl];exact h H' s⟩
  |lst hs hl=>exact⟨_,.inl ⟨_,hs.Bj,rfl⟩,by rw[<-IY hl];exact h H' s⟩
  |_=>exact h.elim
end
noncomputable def IZ (m:M (List D)):M OT:=match m with | .ok ys=>.ok (.lst (ys.map .sh)) | _=>.bad
section
variable {X:Cx}{WX:Str->Hp->Prop}{c:Bool}{P0:Ea}{P:Addr->Prop}{H:Hp}{σ:St}{ρ:A9}{a b e tg iter:Expr}{f g:A9->M D}{ft:A9->M Bool}{pos:Pos}{gt:D->A9->M A9}{fi:A9->M (List D)}{es:List Expr}{fs:A9->M (List D)}
theorem fR {μ:List (Option Nat)}{wi:TI}{gg:TG}{tc:Shared->Hp->Addr->List Addr->TT}{te:Shared->Hp->Addr->List Addr->TE}{fe:A9->M D}
 (i2:∀P0 P σ H R ρ,Ai X.K P0 P H σ ρ->(match fi ρ with | .ok ds=>∀J H',Ab H H'->Yr X.K J P H' ds->R J H' | .ex x=>∀H',Ab H H'->WX x H' | .bad=>False)->wi σ H R)
 (g2:∀P0 P σ H Q ρ v d,Ai X.K P0 P H σ ρ->BB X.K (del H P) v d->gG X.K P0 P H Q (gt d ρ)->gg v σ H Q)
 (t2:∀s H' C ex P0 P σ H Q ρ,Ai X.K P0 P H σ ρ->gT (λ _ _=>False) H Q (ft ρ)->tc s H' C ex σ H Q)
 (e2:∀s H' C ex P0 P σ H Q ρ,Ai X.K P0 P H σ ρ->gV X.K (λ _ _=>False) (Lv true P0 P) H Q (fe ρ)->te s H' C ex σ H Q) {Q:VK}
 (E:Ai X.K P0 P H σ ρ) (h:YE X.K WX P H Q ((fi ρ).bind λ ds=>if ds.length<=1000 then IZ (B3 gt ft fe ds (Bp μ ρ)) else .bad)):Sr wi μ gg tc te σ H Q:=by
 refine i2 P0 P σ H _ ρ E ?_;cases q:fi ρ with
 |bad|ex x=>rw[q] at h;exact h
 |ok ds =>
  rw[q] at h;simp only[M.A6] at h;by_cases hd:¬ ds.length<=1000
  ·rw[if_neg hd] at h;exact h.elim
  have hd:ds.length<=1000:=by omega
  rw[if_pos hd] at h;intro J H1 s1 ok s C ex;cases qc:B3 gt ft fe ds (Bp μ ρ) with
  |bad|ex x=>rw[qc] at h;exact h.elim
  |ok total =>
   rw[qc] at h;unfold IZ at h;dsimp only at h;have E1:=E.same s1;refine⟨λ i m ys H2=>m=ds.length-i/\i<=ds.length/\ys.length<=i/\Ab H1 H2/\∃es rest,Ae X.K (del H2 P) ys es/\B3 gt ft fe (ds.drop i) (Bp μ ρ)=.ok rest/\es++rest=total,
    ⟨ds.length,by simp,zW _,zv _,Ab.refl _,[],total,.nil,by rw[List.drop_zero];exact qc,rfl⟩,?_⟩
   rintro i m ys H2 ⟨rfl,hi,hy,s2,es,rest,dw,aj,aZ⟩;by_cases ap:i<ds.length
   ·refine .inr ⟨ok.go i P H2 s2.del ap,Nat.lt_of_le_of_lt hy (AF (by omega)),λ bh H'=>i+1<=ds.length/\bh.length<=i+1/\Ab H1 H'/\∃es rest,Ae X.K (del H' P) bh es/\B3 gt ft fe (ds.drop (i+1)) (Bp μ ρ)=.ok rest/\es++rest=total,λ bh H' hq=>⟨ds.length-(i+1),by omega,rfl,hq.1,hq.2.1,hq.2.2.1,hq.2.2.2⟩,λ v H3 y=>?_⟩;have E2:=E1.same s2;obtain⟨s3,hv⟩:=ok.Zx i P H2 v H3 ds[i] s2.del E2.C4 (zr ap) y;rw[IK ap,B3] at aj;have E3:=(E2.same s3).block μ;refine g2 P0 P _ H3 _ (Bp μ ρ) v ds[i] E3 hv ?_;cases q1:gt ds[i] (Bp μ ρ) with
    |bad|ex x=>rw[q1] at aj;cases aj
    |ok ρ1 =>
     rw[q1] at aj;dsimp only at aj;intro σ4 E4;refine t2 s H1 C ex P0 P σ4 H3 _ ρ1 E4 ?_;cases q2:ft ρ1 with
     |bad|ex x=>rw[q2] at aj;cases aj
     |ok k =>
      rw[q2] at aj;dsimp only at aj;intro H5 s5;cases k with
      |false =>
       simp only[zy,if_false] at aj ⊢;exact⟨ap,by omega,(s2.trans s3).trans s5,es,rest,(dw.mono s3.del).mono s5.del,aj,aZ⟩
      |true =>
       simp only[if_true] at aj ⊢;refine e2 s H1 C ex P0 P σ4 H5 _ ρ1 (E4.same s5) ?_;cases q3:fe ρ1 with
       |bad|ex x=>rw[q3] at aj;cases aj
       |ok y' =>
        rw[q3] at aj;dsimp only at aj;cases q4:B3 gt ft fe (ds.drop (i+1)) (Bp μ ρ) with
        |bad|ex x=>rw[q4] at aj;cases aj
        |ok mx =>
         rw[q4] at aj;cases aj;intro w H6 s6 hw;refine⟨ap,by rw[zT,xa];omega,((s2.trans s3).trans s5).trans s6,es++[y'],mx,(((dw.mono s3.del).mono s5.del).mono s6.del).snoc hw,rfl,?_⟩;rw[List.append_assoc];exact aZ
   ·have e:i=ds.length:=by omega
    subst e;rw[List.drop_length,B3] at aj;cases aj;rw[yc] at aZ;subst aZ;exact .inl ⟨ok.stop _ P H2 s2.del (zv _),λ D0 hn=>h.Jy (s1.trans s2) dw D0 hn⟩
theorem Eh {scope:Scope}{NB:List Str}{ifs:List Expr}{elt:Expr}{fe:A9->M D}(μ:List (Option Nat))(hc:X.calm=true)(hi:DI X WX tg iter fi)(aB:Jk scope X.env.scope=true)(bK:Pq X.N NB scope μ=true)(hg:oK X scope NB μ tg gt)
 (ht:∀s H C ex,mK (blockOf X s H scope C NB ex) ifs ft) (he:∀s H C ex,DE (blockOf X s H scope C NB ex) (λ _ _=>False) true elt fe) (hs:∀x,foldedSetIterable iter X.env x=pure x:=by intro _;rfl):
 DN X WX (.ListComp elt [⟨tg,iter,ifs,0⟩] scope pos) (λ ρ=>(fi ρ).bind λ ds=>if ds.length<=1000 then IZ (B3 gt ft fe ds (Bp μ ρ)) else .bad):=by
 obtain⟨wi,i1,i2⟩:=hi;obtain⟨gg,g1,gk,g2⟩:=hg;refine⟨_,Yj hc i1 aB bK gk (λ s H C ex=>⟨g1 s H C ex,(zb (ht s H C ex)).1,(zb (he s H C ex)).1⟩) hs,λ P0 P σ H Q ρ E h=>?_⟩;exact fR i2 g2 (λ s H' C ex P0 P σ H Q ρ E h=>(zb (ht s H' C ex)).2 P0 P σ H Q ρ E h) (λ s H' C ex P0 P σ H Q ρ E h=>(zb (he s H' C ex)).2 P0 P σ H Q ρ E h) E h
end
def oP (K:za)(WX:Str->Hp->Prop)(P:Addr->Prop)(p:Addr)(fp:List Addr)(H:Hp)(Q:VK):M (OT×OT)->Prop
 | .ok (t,r)=>∀v H' P' ah fr,(∀a,P a->a∉fp->P' a/\H' a=H a)->(∀a,P' a->Eb H' a)->Ab (del H P) (del H' P')->BC K H' P' (.ref p) t ah->ah.Nodup->BC K H' P' v r fr->fr.Nodup->(∀a∈fr,a∉ah)->
  (∀a∈ah,P' a/\(P a->a∈fp))->(∀a∈fr,P' a/\(P a->a∈fp))->Q v H'
 | .ex _| .bad=>False
noncomputable def Nn (K:za)(n:Nat)(F:OT->List D->M (OT×OT)):Sp:=λ vs H Q E=>vs.length=n/\∃P p t fp rest av,vs=.ref p::rest/\(∀a,P a->Eb H a)/\(∀a∈fp,P a)/\fp.Nodup/\BC K H P (.ref p) t fp/\Ae K (del H P) rest av/\oP K (CW K E) P p fp H Q (F t av)
noncomputable def Cb (N:List Str)(t:OT)(av:List D):A9:=some (toCl (some 0) t)::(av.map (λ d=>some (.val d))++z0 (N.length-(av.length+1)) none)
noncomputable def Gn (ρ:A9):Option OT:=match ρ[0]? with
 |some (some c)=>(match treeOf c with|some (some 0,t)=>some t|_=>none)
 |_=>none
noncomputable def DH (m:M Out):M (OT×OT):=match m with
 | .ok (.next ρ)=>(match Gn ρ with|some t=>.ok (t,.sh .AD)|none=>.bad)
 | .ok (.Ed r ρ)=>(match Gn ρ with|some t=>.ok (t,r)|none=>.bad)
 |_=>.bad
theorem Uh (p:Option Nat)(t:OT):Fl (toCl p t)=true:=by
 unfold toCl;split
 ·rename_i ts;cases q:DD ts with
  |none=>rfl
  |some ds=>cases p<;>rfl
 ·rfl
theorem J0 {K:za}{P:Addr->Prop}{H:Hp}{N:List Str}{p:Addr}{t:OT}{fp:List Addr}{rest:List V}{av:List D}(ht:∀a,P a->Eb H a)(hp:∀a∈fp,P a)(nd:fp.Nodup)(o:BC K H P (.ref p) t fp)(h:Ae K (del H P) rest av):
 Ai K ⟨λ a=>P a/\a∉fp,λ _=>p⟩ P H (start N (.ref p::rest)) (Cb N t av):=by
 have hl:=h.length;have key:∀(i:Nat) (c:Cl),(av.map (λ d=>some (Cl.val d))++z0 (N.length-(av.length+1)) none)[i]?=some (some c)->∃d,av[i]?=some d/\c=.val d:=λ i c e=>by
  by_cases hi:i<av.length
  ·rw[yz (by simpa using hi),zB] at e;cases q:av[i]? with
   |none=>rw[q] at e;cases e
   |some d=>rw[q] at e;cases e;exact⟨d,rfl,rfl⟩
  ·rw[xi (by simpa using hi),List.getElem?_replicate] at e;split at e<;>cases e
 have qR:(start N (.ref p::rest))[0]?=some (some (.ref p)):=by unfold start;rfl
 refine⟨λ a h=>h.1,ht,λ i d e=>?_,λ i c e io=>?_,λ i j c c' v v' fp ah e1 e2 _ _ o1 o2 ad=>?_,?_,λ i c n e sW=>?_⟩
 rotate_left 4
 ·cases i with
  |zero=>exact qR
  |succ i =>
   obtain⟨d',q,z⟩:=key i _ (by unfold Cb at e;simpa using e);cases z;cases sW
 ·cases i with
  |zero =>
   have e':some (toCl (some 0) t)=some (.val d):=by simpa [Cb] using e
   have:=Uh (some 0) t;rw[zH e'] at this;cases this
  |succ i =>
   obtain⟨d',q,z⟩:=key i _ (by unfold Cb at e;simpa using e);cases z;obtain⟨v,hv,hd⟩:=h.get q;refine⟨v,?_,hd⟩;unfold start;rw[zg,xn,zO,yz (by rw[ze];exact (zE.mp hv).1),zB,hv];rfl
 ·cases i with
  |zero =>
   have e':toCl (some 0) t=c:=by simpa [Cb] using e
   subst e';exact⟨_,fp,qR,Cm.toCl o,λ a ha=>⟨hp a ha,λ z=>z.2 ha⟩,nd⟩
  |succ i =>
   obtain⟨d',q,z⟩:=key i _ (by unfold Cb at e;simpa using e);cases z;cases io
 ·cases i with
  |zero =>
   cases j with
   |zero=>exact (ad rfl).elim
   |succ j =>
    obtain⟨d',q,z⟩:=key j _ (by unfold Cb at e2;simpa using e2);cases z;exact o2.elim
  |succ i =>
   obtain⟨d',q,z⟩:=key i _ (by unfold Cb at e1;simpa using e1);cases z;exact o1.elim
 ·unfold start Cb;simp[hl]
section
variable {P:Program}{w:World}{K:za}{mg:Str->Option Value}{base:Heap}
theorem KL {P0:Ea}{P':Addr->Prop}{H':Hp}{σ':St}{ρ:A9}{t:OT}(E:Ai K P0 P' H' σ' ρ)(h:Gn ρ=some t):∃c ah,ρ[0]?=some (some c)/\σ'[0]?=some (some (.ref (P0.g 0)))/\Cm K H' P' c (.ref (P0.g 0)) ah/\BC K H' P' (.ref (P0.g 0)) t ah/\ah.Nodup/\∀a∈ah,P' a/\¬ P0 a:=by
 unfold Gn at h;split at h
 ·rename_i c e;split at h
  ·rename_i t' e2;cases h;have io:Fl c=true:=by cases c<;>first|rfl|cases e2
   obtain⟨v,fp,k1,k2,k3,k4⟩:=E.ows 0 c e io;have:=E.pin 0 c 0 e (HU e2);rw[k1] at this;cases this;exact⟨c,fp,e,k1,k2,k2.toT e2,k4,k3⟩
  ·cases h
 ·cases h
theorem fS {x qual:Str}{st:Stmt}{f:Addr}{fd:FuncData}{N ps:List Str}{k:Nat}(F:V9 K x qual st f fd)(S:Ag N ps (A3 st))(g:A9->M Out)
 (hb:∀(B1:Value) (A:Around) (outer:List Env) (s:Shared) (H:Hp) (E:XK),Bq k (A.deeper (envOfC qual (A3 st) s.heap.objs.size f B1))->QS (Sy P w K mg base N qual (A3 st) f B1 A outer s H E) (CW K E) (As st) g):
 CV P w K mg base (Ru P w base) (k+1) f fd ps (Nn K ps.length λ t av=>DH (g (Cb N t av))):=by
 obtain⟨oc,od,kV,doc,pm,an,B1,ct,QR,rfl,lk,bd⟩:=F.ex;refine Sk lk bd S (λ vs H Q E h=>h.1) λ A outer s H vs Q E hr h=>?_;obtain⟨hl,P',p,t,fp,rest,av,rfl,ht,hp,nd,ho,hv,hq⟩:=h;obtain⟨tt,h1,h2⟩:=hb B1 A outer s H E hr;refine⟨tt,h1,h2 ⟨λ a=>P' a/\a∉fp,λ _=>p⟩ P' _ H _ _ (J0 ht hp nd ho hv) ?_⟩;dsimp only at hq;revert hq;cases g (Cb N t av) with
 |bad|ex x=>exact λ h=>h.elim
 |ok o =>
  have sub:∀ {P2:Addr->Prop} {H2:Hp} {σ2:St} {ρ:A9},Ai K ⟨λ a=>P' a/\a∉fp,λ _=>p⟩ P2 H2 σ2 ρ->∀a,P2 a/\¬ (P' a/\a∉fp)->P2 a/\(P' a->a∈fp):=λ E a ha=>⟨ha.1,λ z=>Classical.byContradiction λ w=>ha.2 ⟨z,w⟩⟩;cases o with
  |ret d|BZ d=>exact λ h=>h.elim
  |next ρ =>
   intro hq σ' H' P2 t2 E2;unfold DH at hq;dsimp only at hq;split at hq
   ·rename_i t' e;obtain⟨c,ah,k1,k2,k3,k4,k5,k6⟩:=KL E2 e;exact hq .AD H' P2 ah [] (λ a ha hn=>⟨E2.sub a ⟨ha,hn⟩,t2.2 a ⟨ha,hn⟩⟩) E2.C4 t2.1 k4 k5 (.sh .AD) yy (λ a ha=>by cases ha) (λ a ha=>sub E2 a (k6 a ha)) (λ a ha=>by cases ha)
   ·exact hq.elim
  |Ed r ρ =>
   intro hq v fr σ' H' P2 t2 E2 o2 bg hf;unfold DH at hq;dsimp only at hq;split at hq
   ·rename_i t' e;obtain⟨c,ah,k1,k2,k3,k4,k5,k6⟩:=KL E2 e;exact hq v H' P2 ah fr (λ a ha hn=>⟨E2.sub a ⟨ha,hn⟩,t2.2 a ⟨ha,hn⟩⟩) E2.C4 t2.1 k4 k5 o2 bg (λ a ha=>(hf a ha).2.2 0 c _ ah k1 k2 k3) (λ a ha=>sub E2 a (k6 a ha)) (λ a ha=>sub E2 a ⟨(hf a ha).1,(hf a ha).2.1⟩)
   ·exact hq.elim
  |brk ρ|cont ρ=>exact λ h=>h.elim
end
structure Ka (P:Program)(w:World)(K:za)(mg:Str->Option Value)(base:Heap)(x:Str)(k n:Nat)(F:OT->List D->M (OT×OT)):Prop where
 ex:∃fa fd ps,CV P w K mg base (Ru P w base) k fa fd ps (Nn K n F)/\mg x=some (.ref fa)/\zN K (.ref fa)=true/\Binds K fd ps []
theorem LD {P:Program}{w:World}{K:za}{mg:Str->Option Value}{base:Heap}{x:Str}{st:Stmt}{N ps:List Str}{k n:Nat}(T:AX K mg x st ps)(S:Ag N ps (A3 st))(g:A9->M Out)
 (hb:∀(f:Addr) (B1:Value) (A:Around) (outer:List Env) (s:Shared) (H:Hp) (E:XK),Bq k (A.deeper (envOfC x (A3 st) s.heap.objs.size f B1))->QS (Sy P w K mg base N x (A3 st) f B1 A outer s H E) (CW K E) (As st) g) (hn:ps.length=n:=by rfl):
 Ka P w K mg base x (k+1) n (λ t av=>DH (g (Cb N t av))):=by
 obtain⟨f,fd,F,hm,hB⟩:=T.ex;subst hn;exact⟨⟨f,fd,ps,fS F S g (hb f),hm,F.kp,hB⟩⟩
section
variable {X:Cx}{WX:Str->Hp->Prop}{c:Bool}{P0:Ea}{P:Addr->Prop}{H:Hp}{σ:St}{ρ:A9}{a b e:Expr}{f g:A9->M D}{fn:A9->M OT}{fp:A9->M (List Nat)}{pos:Pos}{i:Nat}{es:List Expr}{fs:A9->M (List D)}
theorem Ai.new {K:za}{P':Addr->Prop}{H':Hp}(E:Ai K P0 P H σ ρ)(s:Ab H H')(sm:Ab (del H P) (del H' P')){a:Addr}(hn:H a=none):∀(j:Nat) c v fq,ρ[j]?=some (some c)->σ[j]?=some (some v)->Cm K H' P' c v fq->a∉fq:=λ j c v fq h1 h2 h3 ha=>by
 have io:Fl c=true:=by cases c<;>first|rfl|exact h3.elim
 obtain⟨w,fr,k1,k2,k3,k4⟩:=E.ows j c h1 io;rw[h2] at k1;cases k1;have m:=k2.move sm λ b hb=>by obtain⟨o,q⟩:=k2.at b hb;rw[q];exact s _ _ q
 rw[h3.BL m] at ha;obtain⟨o,q⟩:=k2.at a ha;rw[hn] at q;cases q
theorem SH (ha:DN X WX e fn):DS X WX (.Return (some e) pos) (λ ρ=>(fn ρ).bind λ t=>.ok (.Ed t ρ)):=by
 obtain⟨ta,a1,a2⟩:=ha;refine⟨_,NZ a1,λ P0 P σ H Z ρ E h=>?_⟩;dsimp only at h;refine a2 P0 P σ H _ ρ E ?_;cases q:fn ρ with
 |bad=>rw[q] at h;exact h
 |ex x=>rw[q] at h;exact λ H' s=>h H' P (E.tr s)
 |ok t =>
  rw[q] at h;simp only[M.A6] at h;intro v fp H' s hn nd o;exact h v fp σ H' (PU P fp) (E.mP s hn) (E.more s Jw (Jx (E.same s).C4 o) (CN s hn)) o nd λ a ha=>⟨.inr ha,λ z=>(E.C4 a (E.sub a z)).no (hn a ha),E.new s (CN s hn) (hn a ha)⟩
theorem Ai.lE {K:za}{P':Addr->Prop}{H':Hp}{π:List Nat}{v1 v2:V}{t1 u r:OT}{ay fu fr:List Addr}(E:Ai K P0 P H σ ρ)(pl:Ba K P H σ ρ i π v1 t1)(o:BC K H P v1 t1 ay)(hs:∀a,P a->a∉ay->P' a/\H' a=H a)(ht:∀a,P' a->Eb H' a)(sm:Ab (del H P) (del H' P'))
 (o':BC K H' P' v1 u fu) (nd:fu.Nodup) (hf:∀a∈fu,P' a/\(P a->a∈ay)) (or:BC K H' P' v2 r fr) (u8:fr.Nodup) (hr:∀a∈fr,P' a/\(P a->a∈ay)) (dj:∀a∈fr,a∉fu):
 ∃c p t,ρ[i]?=some (some c)/\treeOf c=some (p,t)/\Ai K P0 P' H' σ (ρ.set i (some (toCl p (Er t π u))))/\Tr P0 P H P' H'/\
  ∀a∈fr,P' a/\¬ P0 a/\∀(j:Nat) c' v fq,(ρ.set i (some (toCl p (Er t π u))))[j]?=some (some c')->σ[j]?=some (some v)->Cm K H' P' c' v fq->a∉fq:=by
 obtain⟨v0,c,p,t,h1,h2,h3,h4⟩:=pl.ex;have io:Fl c=true:=by cases c<;>first|rfl|cases h2
 obtain⟨w,fp,k1,k2,k3,k4⟩:=E.ows i c h1 io;rw[h3] at k1;cases k1;have ot:=k2.toT h2;obtain⟨fz,oz,kz,_⟩:=ot.part h4;have:=oz.BL o;subst this;obtain⟨ah,q1,q2,q3⟩:=ot.put sm h4 o o' (λ a ha hn=>(hs a (k3 a ha).1 hn).2) k4 nd (λ a ha hb=>(hf a ha).2 (k3 a hb).1);have qS:∀(j:Nat) c' v' fq,i≠j->ρ[j]?=some (some c')->σ[j]?=some (some v')->Cm K H P c' v' fq->∀a∈fq,P a/\a∉fp:=λ j c' v' fq ad g1 g2 g3 a ha=>by
  have c3:Fl c'=true:=by cases c'<;>first|rfl|exact g3.elim
  obtain⟨w',nk,m1,m2,m3,m4⟩:=E.ows j c' g1 c3;rw[g2] at m1;cases m1;have:=m2.BL g3;subst this;exact⟨(m3 a ha).1,E.apart j i c' c v' v0 nk fp g1 h1 g2 h3 g3 k2 (yd ad) a ha⟩
 have key:=E.kS (P':=P') (H':=H') (i:=i) (v:=v0) (c:=toCl p (Er t π u)) (fp:=ah) (λ a ha=>(hs a (E.sub a ha) λ z=>(k3 a (kz a z)).2 ha).1) ht sm (λ j c' v' fq ad g1 g2 g3 a ha=>?_) (Cm.toCl q1) (λ a ha=>?_) q2 (λ n z=>by rw[Fo] at z;subst z;have:=E.pin i c n h1 (HU h2);rw[h3] at this;cases this;rfl)
 ·rw[Lh h3] at key;refine⟨c,p,t,h1,h2,key,⟨sm,λ a ha=>(hs a (E.sub a ha) λ z=>(k3 a (kz a z)).2 ha).2⟩,λ a ha=>⟨(hr a ha).1,λ z=>(k3 a (kz a ((hr a ha).2 (E.sub a z)))).2 z,λ j c' v fq g1 g2 g3 hb=>?_⟩⟩;rcases get_set g1 with ⟨rfl,hl,z⟩|⟨ad,g1⟩
  ·cases z;rw[h3] at g2;cases g2;rw[g3.BL (Cm.toCl q1)] at hb;rcases q3 a hb with y|y
   ·exact dj a ha y
   ·exact y.2 ((hr a ha).2 (k3 a y.1).1)
  ·have c3:Fl c'=true:=by cases c'<;>first|rfl|exact g3.elim
   obtain⟨w',nk,m1,m2,m3,m4⟩:=E.ows j c' g1 c3;rw[g2] at m1;cases m1;have o2:=qS j c' v nk ad g1 g2 m2;have mv:=m2.move sm λ b a6=>(hs b (o2 b a6).1 λ z=>(o2 b a6).2 (kz b z)).2;rw[g3.BL mv] at hb;exact (o2 a hb).2 (kz a ((hr a ha).2 (o2 a hb).1))
 ·have o2:=qS j c' v' fq ad g1 g2 g3 a ha;have hk:=hs a o2.1 λ z=>o2.2 (kz a z);refine⟨hk.2,λ z=>?_,hk.1⟩;rcases q3 a z with y|y
  ·exact o2.2 (kz a ((hf a y).2 o2.1))
  ·exact o2.2 y.1
 ·rcases q3 a ha with y|y
  ·exact⟨(hf a y).1,λ z=>(k3 a (kz a ((hf a y).2 (E.sub a z)))).2 z⟩
  ·exact⟨(hs a (k3 a y.1).1 y.2).1,(k3 a y.1).2⟩
end
noncomputable def HX (i:Nat)(ρ:A9)(π:List Nat)(u:OT):M Out:=match ρ[i]? with
 |some (some c)=>(match treeOf c with|some (p,t)=>.ok (.next (ρ.set i (some (toCl p (Er t π u)))))|none=>.bad)
 |_=>.bad
noncomputable def Kb (i:Nat)(ρ:A9)(π:List Nat):M (List OT):=match SE i ρ π with | some (.lst ts)=>.ok ts | _=>.bad
theorem J2 {i:Nat}{ρ:A9}{π:List Nat}{u:OT}{c:Cl}{p:Option Nat}{t:OT}(h:ρ[i]?=some (some c))(ht:treeOf c=some (p,t)):HX i ρ π u=.ok (.next (ρ.set i (some (toCl p (Er t π u))))):=by
 unfold HX;simp only[h,ht]
section
variable {X:Cx}{WX:Str->Hp->Prop}{c:Bool}{P0:Ea}{P:Addr->Prop}{H:Hp}{σ:St}{ρ:A9}{a b e:Expr}{f g:A9->M D}{fn:A9->M OT}{fp:A9->M (List Nat)}{pos:Pos}{i:Nat}{es:List Expr}{fs:A9->M (List D)}
noncomputable def YK {α:Type}(o:Option α):M α:=match o with | some x=>.ok x | none=>.bad
noncomputable def QT (i:Nat)(ρ:A9)(π:List Nat):M (List D):=match SE i ρ π with | some (.lst ts)=>(match DD ts with | some ds=>.ok ds | none=>.bad) | _=>.bad
theorem Ba.shl {K:za}{π:List Nat}{v:V}{t1:OT}{ds:List D}(pl:Ba K P H σ ρ i π v t1)(E:Ai K P0 P H σ ρ)(h:QT i ρ π=.ok ds):t1=.lst (ds.map .sh)/\∃l xs,v=.ref l/\H l=some (.lst xs)/\Ae K (del H P) xs ds:=by
 unfold QT at h;rw[pl.at] at h;split at h
 ·rename_i qT e;split at h
  ·rename_i j4 e';cases e;cases h;have z:=CB e';subst z;obtain⟨ay,o1,hp,nd⟩:=pl.own E;cases o1 with
   |lst hh hr=>exact⟨rfl,_,_,rfl,hh,hr.fM.2⟩
  ·cases h
 ·cases h
theorem Wq {π:List Nat}{x:Str}(h:QT i ρ π=.ex x):False:=by
 unfold QT at h;split at h
 ·split at h<;>cases h
 ·cases h
theorem Ai.lF {K:za}{π:List Nat}{l:Addr}{xs ys:List V}{ds es:List D}(E:Ai K P0 P H σ ρ)(pl:Ba K P H σ ρ i π (.ref l) (.lst (ds.map .sh)))(hH:H l=some (.lst xs))(o:Ae K (del H P) xs ds)(o':Ae K (del H P) ys es):
 ∃c p t,ρ[i]?=some (some c)/\treeOf c=some (p,t)/\Ai K P0 P (upd H l (.lst ys)) σ (ρ.set i (some (toCl p (Er t π (.lst (es.map .sh))))))/\Tr P0 P H P (upd H l (.lst ys)):=
 E.oO pl hH o.ows o'.ows yy (λ z=>by cases z) (λ a ha=>by cases ha)
noncomputable def YL (t:OT):M (List D):=match t with | .lst us=>YK (DD us) | _=>.bad
theorem Wr (ha:DP X WX a i fp)(he:DN X WX e fn){apos ag:Pos}(hs:starEach [e] X.env=[(false,eval e X.env)]:=by rfl)
 (bY:swapsWith (.Call (.Attribute a "extend" apos) [e] [] ag) none pos.line X.env=pure false:=by rfl)
 (a9:attributeBase a "extend" X.env (eval a X.env)=eval a X.env:=by rfl)
 (aW:((backTo ag (starEach [e] X.env)).all (λ x => !x.1)&&(backToKw ag (keywordEach [] X.env)).all (λ x=>x.1.isSome)&&decide (([e]:List Expr).length+([]:List Keyword).length+(if ([]:List Keyword).isEmpty then 0 else 1)<30))=true:=by rfl)
 (aA:(apos.endLine==ag.line)=true:=by rfl) (aq:(backTo ag (starEach [] X.env)).any (·.1)=false:=by rfl):
 DS X WX (.Expr (.Call (.Attribute a "extend" apos) [e] [] ag) pos) (λ ρ=>(fp ρ).bind λ π=>(QT i ρ π).bind λ ds=>((fn ρ).bind YL).bind λ es=>if ds.length+es.length<=1000 then HX i ρ π (.lst ((ds++es).map .sh)) else .bad):=by
 obtain⟨ta,a1,a2⟩:=ha;obtain⟨te,e1,e2⟩:=he;refine⟨_,IC (Sq PySem.F.plainAttrs_list PySem.F.slot_list_extend PySem.F.type_list_extend TM a1 (Bl e1 Cs hs) a9 aW aA hs aq) bY,λ P0 P σ H Z ρ E h=>?_⟩;dsimp only at h;refine a2 P0 P σ H _ ρ E ?_;cases q:fp ρ with
 |bad=>rw[q] at h;exact h
 |ex x=>rw[q] at h;exact λ H' s=>h H' P (E.tr s)
 |ok π =>
  rw[q] at h;simp only[M.A6] at h;intro v t1 H1 s1 pl;have E1:=E.same s1;cases q1:QT i ρ π with
  |bad=>rw[q1] at h;exact h.elim
  |ex x=>exact (Wq q1).elim
  |ok ds =>
   rw[q1] at h;simp only[M.A6] at h;obtain⟨rfl,l,xs,rfl,hl,ol⟩:=pl.shl E1 q1;refine⟨.inl ⟨rfl,xs,.of hl⟩,e2 P0 P σ H1 _ ρ E1 ?_⟩;cases q2:fn ρ with
   |bad=>rw[q2] at h;exact h
   |ex y=>rw[q2] at h;exact λ H' s=>h H' P ((E.tr s1).trans (E1.tr s))
   |ok t =>
    rw[q2] at h;simp only[M.A6] at h;intro w fw H2 s2 n2 bg o2;have sm:=CN (P:=P) s2 n2;have E2:Ai X.K P0 (PU P fw) H2 σ ρ:=E1.more s2 Jw (Jx (E1.same s2).C4 o2) sm;cases t with
    |lst us =>
     simp only[YL] at h;cases q3:DD us with
     |none=>rw[q3] at h;exact h.elim
     |some es =>
      rw[q3] at h;simp only[YK,M.A6] at h;have z:=CB q3;subst z;cases o2 with
      |lst hb hr =>
       by_cases hz:ds.length+es.length<=1000
       ·rw[if_pos hz] at h;have he:=hr.fM.2;have i4:=ol.mono sm;have aQ:=s2 _ _ hl;obtain⟨c,p,t0,g1,g2,E3,t3⟩:=E2.lF (pl.more sm s2) aQ i4 (i4.append he);rw[J2 g1 g2] at h;exact⟨l,_,xs,_,rfl,rfl,aQ,hb,yj (AF (by rw[ol.length,he.length];exact hz)),h _ _ _ (((E.tr s1).trans (E1.mP s2 n2)).trans t3) E3⟩
       ·rw[if_neg hz] at h;exact h.elim
    |_=>exact h.elim
end
def gX (K:za)(WX:Str->Hp->Prop)(P0:Ea)(P:Addr->Prop)(H:Hp)(σ:St)(Q:VK):M (A9×OT)->Prop
 | .ok (ρ,t)=>∀v fp H' P',Tr P0 P H P' H'->Ai K P0 P' H' σ ρ->BC K H' P' v t fp->fp.Nodup->(∀a∈fp,P' a/\¬ P0 a/\∀(j:Nat) c v' fq,ρ[j]?=some (some c)->σ[j]?=some (some v')->Cm K H' P' c v' fq->a∉fq)->Q v H'
 | .ex x=>∀H' P',Tr P0 P H P' H'->WX x H'
 | .bad=>False
def DX (X:Cx)(WX:Str->Hp->Prop)(e:Expr)(f:A9->M (A9×OT)):Prop:=
 ∃t,PE X e t/\∀P0 P σ H Q ρ,Ai X.K P0 P H σ ρ->gX X.K WX P0 P H σ Q (f ρ)->t σ H Q
noncomputable def Ws:OT->Bool
 | .sh _=>false
 |_=>true
noncomputable def PY (i:Nat)(F:OT->List D->M (OT×OT))(ρ:A9)(π:List Nat)(av:List D):M (A9×OT):=match ρ[i]? with
 |some (some c)=>(match treeOf c with
  |some (p,t)=>(match Jv t π with
   |some t1=>if Ws t1=true then (match F t1 av with | .ok (t2,r)=>.ok (ρ.set i (some (toCl p (Er t π t2))),r)|_=>.bad) else .bad
   |none=>.bad)
  |none=>.bad)
 |_=>.bad
section
variable {X:Cx}{E:XK}{WX:Str->Hp->Prop}{c:Bool}{P0:Ea}{P:Addr->Prop}{H:Hp}{σ:St}{ρ:A9}{a b e:Expr}{f g:A9->M D}{fn:A9->M OT}{fx:A9->M (A9×OT)}{fp:A9->M (List Nat)}{pos:Pos}{i:Nat}{es:List Expr}{fs:A9->M (List D)}
theorem Wt {F:OT->List D->M (OT×OT)}{π:List Nat}{av:List D}{c:Cl}{p:Option Nat}{t t1 t2 r:OT}(h:ρ[i]?=some (some c))(ht:treeOf c=some (p,t))(hs:Jv t π=some t1)(hN:Ws t1=true)(hF:F t1 av=.ok (t2,r)):PY i F ρ π av=.ok (ρ.set i (some (toCl p (Er t π t2))),r):=by
 unfold PY;simp only[h,ht,hs,hN,if_true,hF]
theorem SI {k n:Nat}{F:OT->List D->M (OT×OT)}{x:Str}{p:Pos}(xo:XCall X E)(G:Ka X.prog X.w X.K X.mg X.base x k n F)(hr:Bq k X.A)(hg:Gl X x)(hp:DP X (CW X.K E) a i fp)(ha:DA X (CW X.K E) true es fs)(hn:es.length+1=n)
 (aT:(x==("__debug__" : Str))=false:=by decide) (he:starEach (a::es) X.env=(false,eval a X.env)::starEach es X.env:=by rfl) (az:(backTo pos (starEach es X.env)).any (·.1)=false:=by rfl):
 DX X (CW X.K E) (.Call (.Name x p) (a::es) [] pos) (λ ρ=>(fp ρ).bind λ π=>(fs ρ).bind λ av=>PY i F ρ π av):=by
 obtain⟨fa,fd,ps,hF,hm,hk,hb⟩:=G.ex;obtain⟨tp,p1,p2⟩:=hp;obtain⟨ta,a1,a2,a3⟩:=ha;refine⟨_,Sj hF hr hg hm hk hb .nil xo.call (Bl p1 a1 he) aT he az,λ P0 P σ H Q ρ Ev h=>?_⟩;dsimp only at h;refine p2 P0 P σ H _ ρ Ev ?_;cases q:fp ρ with
 |bad=>rw[q] at h;exact h
 |ex x=>rw[q] at h;exact λ H' s=>h H' P (Ev.tr s)
 |ok π =>
  rw[q] at h;simp only[M.A6] at h;intro v t1 H1 s1 pl;have E1:=Ev.same s1;refine a2 P0 P σ H1 _ ρ E1 ?_;cases q2:fs ρ with
  |bad=>rw[q2] at h;exact h
  |ex y=>rw[q2] at h;exact λ H' s=>h H' P ((Ev.tr s1).trans (E1.tr s))
  |ok av =>
   rw[q2] at h;simp only[M.A6] at h;intro vs H2 s2 aM;have E2:=E1.same s2;have cC:=pl.same s2;show Nn X.K n F ((v::vs)++[]) H2 Q E;rw[yc];obtain⟨v0,c,pp,t,g1,g2,g3,g4⟩:=cC.ex;unfold PY at h;simp only[g1,g2,g4.sub] at h;by_cases hx:Ws t1=true
   ·rw[if_pos hx] at h;obtain⟨ay,o1,sX,d9⟩:=cC.own E2;have i5:∃l,v=.ref l:=by
     cases o1 with
     |sh hv=>exact absurd hx (by simp[Ws])
     |lst _ _|tup _ _|dK _ _|dT _ _|ins _ _ _=>exact⟨_,rfl⟩
    obtain⟨l,rfl⟩:=i5;refine⟨by rw[zo,aM.length,a3 ρ av q2];exact hn,P,l,t1,ay,vs,av,rfl,E2.C4,λ b hb=>(sX b hb).1,d9,o1,aM,?_⟩;cases qF:F t1 av with
    |bad|ex x=>rw[qF] at h;exact h.elim
    |ok z =>
    obtain⟨t2,r⟩:=z;rw[qF] at h;intro w H' P' fu fr k1 k2 k3 k4 k5 k6 k7 k8 k9 qU;obtain⟨c',p',t',m1,m2,m3,m4,m5⟩:=E2.lE cC o1 k1 k2 k3 k4 k5 k9 k6 k7 qU k8;rw[g1] at m1;cases m1;rw[g2] at m2;cases m2;exact h w fr H' P' (((Ev.tr s1).trans (E1.tr s2)).trans m4) m3 k6 k7 m5
   ·rw[if_neg hx] at h;exact h.elim
theorem LF (he:DX X WX e fx)(hs:swapsWith e none pos.line X.env=pure false:=by rfl):DS X WX (.Expr e pos) (λ ρ=>(fx ρ).bind λ z=>.ok (.next z.1)):=by
 obtain⟨te,e1,e2⟩:=he;refine⟨_,IC e1 hs,λ P0 P σ H Z ρ E h=>?_⟩;dsimp only at h;refine e2 P0 P σ H _ ρ E ?_;cases q:fx ρ with
 |bad|ex x=>rw[q] at h;exact h
 |ok z=>rw[q] at h;exact λ v fp H' P' t E' o nd hf=>h σ H' P' t E'
theorem YM (j:Nat){x:Str}{pos':Pos}(hN:X.N.Nodup)(hi:X.N[j]?=some x)(hx:Loc X.env.scope x)(he:DX X WX e fx)(hs:swapsWith e (some (.Name x pos')) pos.line X.env=pure false:=by rfl)(hf:X.fn x=true\/X.env.scope.names.lookup x=some .local:=by first | exact .inl rfl | exact .inr rfl | assumption):
 DS X WX (.Assign [.Name x pos'] e pos) (λ ρ=>(fx ρ).bind λ z=>PP j z.1 z.2):=by
 obtain⟨te,e1,e2⟩:=he;refine⟨_,QX hN hi hx e1 hs hf,λ P0 P σ H Z ρ E h=>?_⟩;dsimp only at h;refine e2 P0 P σ H _ ρ E ?_;cases q:fx ρ with
 |bad|ex x=>rw[q] at h;exact h
 |ok z =>
  rw[q] at h;simp only[M.A6] at h;intro v fp H' P' tr E' o nd hf;have h':=h.tr tr;have key:gS X.K WX P0 P' H' Z (.ok (.next (z.1.set j (some (toCl none z.2)))))->Z.nx (σ.set j (some v)) H':=λ h=>by
   refine h _ H' P' Tr.refl (E'.Yq (λ _ h=>h) E'.C4 (Ab.refl _) (λ k c' v' ah ad g1 g2 g3 b hb=>⟨rfl,λ w=>(hf b w).2.2 k c' v' ah g1 g2 g3 hb⟩) (Cm.toCl o) (λ b hb=>⟨(hf b hb).1,(hf b hb).2.1⟩) nd (λ n z=>by rw[Fo] at z;cases z))
  obtain⟨ρ1,u⟩:=z;cases u with
  |sh d =>
   cases o with
   |sh hv=>exact h' _ H' P' Tr.refl (E'.U1 hv)
  |lst ts|tup ts|B6 b ks ts|ins x ns ts=>exact key h'
theorem lG {d:Expr}(he:DX X WX e fx)(hd:DE X WX true d f):DX X WX (.BoolOp .Or [e,d] pos) (λ ρ=>(fx ρ).bind λ z=>match z.2 with | .sh (.bl true)=>.ok (z.1,.sh (.bl true)) | .sh (.bl false)=>(f z.1).bind λ y=>.ok (z.1,.sh y) | _=>.bad):=by
 obtain⟨te,e1,e2⟩:=he;obtain⟨td,d1,d2⟩:=hd;refine⟨_,Zv e1 (Vn d1),λ P0 P σ H Q ρ E h=>?_⟩;dsimp only at h;refine e2 P0 P σ H _ ρ E ?_;cases q:fx ρ with
 |bad|ex x=>rw[q] at h;exact h
 |ok z =>
  rw[q] at h;simp only[M.A6] at h;obtain⟨ρ1,u⟩:=z;intro v fp H' P' tr E' o nd hf;dsimp only at h;cases u with
  |sh d' =>
   cases o with
   |sh hv =>
    cases d' with
    |bl k =>
     have:=hv.Jo;subst this;cases k with
     |true=>exact⟨true,rfl,by simp only[if_true];exact h _ [] H' P' tr E' (.sh (.bl true)) yy λ a ha=>by cases ha⟩
     |false =>
      refine⟨false,rfl,?_⟩;simp only[zy,if_false];refine d2 P0 P' σ H' _ ρ1 E' ?_;dsimp only at h;cases q2:f ρ1 with
      |bad=>rw[q2] at h;exact h
      |ex y=>rw[q2] at h;exact λ H2 s2=>h H2 P' (tr.trans (E'.tr s2))
      |ok y=>rw[q2] at h;exact λ w H2 s2 hw=>h w [] H2 P' (tr.trans (E'.tr s2)) (E'.same s2) (.sh hw) yy λ a ha=>by cases ha
    |_=>exact h.elim
  |_=>exact h.elim
end
noncomputable def FU (i:Nat)(ρ:A9)(π:List Nat):M (Bool×List D×List D):=match SE i ρ π with
 |some (.B6 b ks ts)=>(match DD ts with|some vs=>.ok (b,ks,vs)|none=>.bad)
 |_=>.bad
noncomputable def putD (ks vs:List D)(k v:D):List D×List D:=if Ks ks k=true then (ks,HW ks vs k v) else (ks++[k],vs++[v])
section
variable {X:Cx}{E:XK}{WX:Str->Hp->Prop}{c:Bool}{P0:Ea}{P:Addr->Prop}{H:Hp}{σ:St}{ρ:A9}{a b e:Expr}{f g:A9->M D}{fn:A9->M OT}{fx:A9->M (A9×OT)}{fp:A9->M (List Nat)}{pos:Pos}{i:Nat}{es:List Expr}{fs:A9->M (List D)}
theorem Ba.B6 {K:za}{π:List Nat}{v:V}{t1:OT}{bl:Bool}{ks vs:List D}(pl:Ba K P H σ ρ i π v t1)(E:Ai K P0 P H σ ρ)(h:FU i ρ π=.ok (bl,ks,vs)):t1=.B6 bl ks (vs.map .sh)/\∃l xs,v=.ref l/\P l/\Ae K (del H P) xs vs/\BC K H P (.ref l) (.B6 bl ks (vs.map .sh)) [l]/\
 ((bl=false/\∃kvs,H l=some (.dK kvs)/\ks=(kvs.map λ kv=>Eo kv.1)/\xs=kvs.map y8)\/(bl=true/\∃kvs,H l=some (.dT kvs)/\ks=(kvs.map λ kv=>.tup (kv.1.map Eo))/\xs=kvs.map y8)):=by
 unfold FU at h;rw[pl.at] at h;split at h
 ·rename_i b' iz qT e;split at h
  ·rename_i bR e';cases e;cases h;have z:=CB e';subst z;obtain⟨ay,o1,hp,nd⟩:=pl.own E;generalize ht:OT.B6 bl ks (vs.map .sh)=t at o1;cases o1 with
   |dK hh hr =>
    injection ht with h1 h2 h3
    subst h1 h2 h3;obtain⟨rfl,hs⟩:=hr.fM;exact⟨rfl,_,_,rfl,(hp _ zd).1,hs,.dK hh hr,.inl ⟨rfl,_,hh,rfl,rfl⟩⟩
   |dT hh hr =>
    injection ht with h1 h2 h3
    subst h1 h2 h3;obtain⟨rfl,hs⟩:=hr.fM;exact⟨rfl,_,_,rfl,(hp _ zd).1,hs,.dT hh hr,.inr ⟨rfl,_,hh,rfl,rfl⟩⟩
   |_=>cases ht
  ·cases h
 ·cases h
theorem Wu {π:List Nat}{x:Str}(h:FU i ρ π=.ex x):False:=by
 unfold FU at h;split at h
 ·split at h<;>cases h
 ·cases h
theorem Ai.fT {K:za}{π:List Nat}{l:Addr}{t1 u:OT}{o':HO}(E:Ai K P0 P H σ ρ)(pl:Ba K P H σ ρ i π (.ref l) t1)(ot:BC K H P (.ref l) t1 [l])(hn:∀xs,o'≠.tup xs/\∀z,o'≠.QV z (.tup xs))(new:Ab (del H P) (del (upd H l o') P)->BC K (upd H l o') P (.ref l) u [l]):
 ∃c p t,ρ[i]?=some (some c)/\treeOf c=some (p,t)/\Ai K P0 P (upd H l o') σ (ρ.set i (some (toCl p (Er t π u))))/\Tr P0 P H P (upd H l o'):=by
 obtain⟨ay,o1,hp,_⟩:=pl.own E;have:=o1.BL ot;subst this;have pP:P l:=(hp l zd).1;have sd:del (upd H l o') P=del H P:=by
  funext b;by_cases hb:P b
  ·rw[Fj hb,Fj hb]
  ·rw[AA hb,AA hb,Al (λ z=>hb (by rw[z];exact pP))]
 have sm:Ab (del H P) (del (upd H l o') P):=by rw[sd];exact Ab.refl _
 refine E.lC pl ot (λ _ h=>h) (λ a h=>?_) sm (λ a ha hn=>Al λ z=>hn (by rw[z];exact zd)) (new sm) (by simp) (λ a ha=>.inl ha);by_cases ha:a=l
 ·subst ha;exact⟨_,Ax,hn⟩
 ·unfold Eb;rw[Al ha];exact E.C4 a h
theorem KN {n:Nat}(hu:X.A.units+n<cLine)(ha:DP X WX a i fp)(hk:DE X WX true b g)(hv:DE X WX true e f){pos':Pos}(hs:swapsWith e (some (.Subscript a b pos')) pos.line X.env=pure false:=by rfl)(hn:1<=n:=by decide):
 DS X WX (.Assign [.Subscript a b pos'] e pos) (λ ρ=>(f ρ).bind λ v=>(fp ρ).bind λ π=>(g ρ).bind λ k=>(FU i ρ π).bind λ z=>if keyOk z.1 k=true/\z.2.1.length<1000 then HX i ρ π (.B6 z.1 (putD z.2.1 z.2.2 k v).1 ((putD z.2.1 z.2.2 k v).2.map .sh)) else .bad):=by
 obtain⟨ta,a1,a2⟩:=ha;obtain⟨tk,k1,k2⟩:=hk;obtain⟨tv,v1,v2⟩:=hv;refine⟨_,Yb (by omega) a1 k1 v1 hs,λ P0 P σ H Z ρ E h=>?_⟩;dsimp only at h;refine v2 P0 P σ H _ ρ E ?_;cases q0:f ρ with
 |bad=>rw[q0] at h;exact h
 |ex x=>rw[q0] at h;exact λ H' s=>h H' P (E.tr s)
 |ok d =>
  rw[q0] at h;simp only[M.A6] at h;intro w H0 s0 hw;have E0:=E.same s0;refine a2 P0 P σ H0 _ ρ E0 ?_;cases q:fp ρ with
  |bad=>rw[q] at h;exact h
  |ex x=>rw[q] at h;exact λ H' s=>h H' P ((E.tr s0).trans (E0.tr s))
  |ok π =>
   rw[q] at h;simp only[M.A6] at h;intro v t1 H1 s1 pl;have E1:=E0.same s1;refine k2 P0 P σ H1 _ ρ E1 ?_;cases q2:g ρ with
   |bad=>rw[q2] at h;exact h
   |ex y=>rw[q2] at h;exact λ H' s=>h H' P (((E.tr s0).trans (E0.tr s1)).trans (E1.tr s))
   |ok k =>
    rw[q2] at h;simp only[M.A6] at h;intro y H2 s2 hy;have E2:=E1.same s2;have cC:=pl.same s2;have j8:=(hw.mono s1.del).mono s2.del;have qV:=((E.tr s0).trans (E0.tr s1)).trans (E1.tr s2);cases q3:FU i ρ π with
    |bad=>rw[q3] at h;exact h.elim
    |ex x=>exact (Wu q3).elim
    |ok z =>
     obtain⟨bb,ks,vs⟩:=z;rw[q3] at h;simp only[M.A6] at h;by_cases hc:keyOk bb k=true/\ks.length<1000
     ·rw[if_pos hc] at h;obtain⟨rfl,l,xs,rfl,hP,bN,ot,i6⟩:=cC.B6 E2 q3;have hK:=IW hc.1;rcases i6 with ⟨rfl,kvs,hH,rfl,rfl⟩|⟨rfl,kvs,hH,rfl,rfl⟩
      ·cases hK with
       |k κ =>
        have ey:=hy.fP;refine⟨l,_,rfl,.inl ⟨kvs,κ,hH,ey,AF (by have:=hc.2;rw[ze] at this;omega),rfl⟩,?_⟩;have be:∃bR,(putD (kvs.map λ kv=>Eo kv.1) vs (Eo κ) d)=((putK kvs κ w).map (λ kv=>Eo kv.1),bR)/\Ae X.K (del H2 P) ((putK kvs κ w).map y8) bR:=by
         unfold putD putK;rw[PV Lw];by_cases hh:(kvs.any λ kv=>decide (kv.1=κ))=true
         ·rw[if_pos hh,if_pos hh];refine⟨_,by rw[Lz (fk:=Eo) Lw],?_⟩;rw[<-Ly (fk:=Eo) Lw];exact LB j8 bN
         ·rw[if_neg hh,if_neg hh];refine⟨_,by rw[yh];rfl,?_⟩;rw[yh];exact bN.snoc j8
        obtain⟨bR,e1,e2⟩:=be;obtain⟨c,p,t0,g1,g2,E3,t3⟩:=E2.fT (o':=.dK (putK kvs κ w)) (u:=.B6 false ((putK kvs κ w).map λ kv=>Eo kv.1) (bR.map .sh)) cC ot (λ _=>⟨λ z=>(by cases z),λ _ z=>by cases z⟩) (λ mv=>.dK Ax (e2.mono mv).ows);rw[e1,J2 g1 g2] at h;exact h _ _ _ (qV.trans t3) E3
      ·cases hK with
       |t κ =>
        cases hy with
        |tup ht aQ =>
         have ey:=Ae.keys κ aQ;subst ey;refine⟨l,_,rfl,.inr ⟨kvs,κ,_,hH,rfl,(Am ht).2,AF (by have:=hc.2;rw[ze] at this;omega),rfl⟩,?_⟩;have hf:∀a b:List Key,Ap (.tup (a.map Eo)) (.tup (b.map Eo))=decide (a=b):=λ a b=>by simp only[Ap];exact Oq a b
         have be:∃bR,(putD (kvs.map λ kv=>.tup (kv.1.map Eo)) vs (.tup (κ.map Eo)) d)=((putK kvs κ w).map (λ kv=>.tup (kv.1.map Eo)),bR)/\Ae X.K (del H2 P) ((putK kvs κ w).map y8) bR:=by
          unfold putD putK;rw[PV (fk:=λ κ:List Key=>D.tup (κ.map Eo)) hf];by_cases hh:(kvs.any λ kv=>decide (kv.1=κ))=true
          ·rw[if_pos hh,if_pos hh];refine⟨_,by rw[Lz (fk:=λ κ:List Key=>D.tup (κ.map Eo)) hf],?_⟩;rw[<-Ly (fk:=λ κ:List Key=>D.tup (κ.map Eo)) hf];exact LB j8 bN
          ·rw[if_neg hh,if_neg hh];refine⟨_,by rw[yh];rfl,?_⟩;rw[yh];exact bN.snoc j8
         obtain⟨bR,e1,e2⟩:=be;obtain⟨c,p,t0,g1,g2,E3,t3⟩:=E2.fT (o':=.dT (putK kvs κ w)) (u:=.B6 true ((putK kvs κ w).map λ kv=>.tup (kv.1.map Eo)) (bR.map .sh)) cC ot (λ _=>⟨λ z=>(by cases z),λ _ z=>by cases z⟩) (λ mv=>.dT Ax (e2.mono mv).ows);rw[e1,J2 g1 g2] at h;exact h _ _ _ (qV.trans t3) E3
     ·rw[if_neg hc] at h;exact h.elim
theorem PZ (tk:Bool):DN X WX (.Dict [] [] pos) (λ _=>.ok (.B6 tk [] [])):=by
 cases tk with
 |false =>
  refine⟨_,VL,λ P0 P σ H Q ρ E h p hp=>?_⟩;exact h _ [p] _ (AG hp _) (λ a ha=>by rw[zu.mp ha];exact hp) (by simp) (.dK (kvs:=[]) Ax .nil)
 |true =>
  refine⟨_,VM,λ P0 P σ H Q ρ E h p hp=>?_⟩;exact h _ [p] _ (AG hp _) (λ a ha=>by rw[zu.mp ha];exact hp) (by simp) (.dT (kvs:=[]) Ax .nil)
end
theorem HY {α:Type}(o:Option (α×List Int))(b:α×List Int):Bo o b≠none:=by
 unfold Bo;split
 ·intro z;cases z
 ·split<;>(intro z;cases z)
theorem LG {α:Type}:∀ {bs:List (α×List Int)},bs≠[]->AM bs≠none:=by
 intro bs h;unfold AM
 suffices z:∀(bs:List (α×List Int)) (o:Option (α×List Int)),o≠none->bs.foldl Bo o≠none by
  cases bs with
  |nil=>exact (h rfl).elim
  |cons b r=>rw[ya];exact z r _ (HY _ _)
 intro bs;induction bs with
 |nil=>intro o h;exact h
 |cons b r ih=>intro o h;rw[ya];exact ih _ (HY _ _)
section
variable {prog:Program}{w:World}{A:Around}{R:Result->Shared->Prop}
theorem Ui (bs:List (Addr×List Int))(nl:bs≠[])(tv:Addr->Array Value)(l I S:Addr)(hh:A.handled=none)(hu:A.in1.units<cLine)(cA:S≠I)(mn:l≠I)(ig:l≠S)(dm:∀b∈bs,b.1≠I/\b.1≠S)
 (hk:∀b∈bs,IntsAre (tv b.1).toList b.2):∀(k j:Nat) (s:Shared) (c:Nat),bs.length-j=k->j<=bs.length->s.heap.IsListIter I l j->s.heap.IsList l (bs.map λ b=>zX b.1).toArray->(∀b∈bs,IsTup s.heap b.1 (tv b.1))->
  s.heap.get? S=some {cls:=.type "list",dict:=none,data:=.seq (CP (bs.take j)) c,slots:=#[]} ->
  (∀h' tk,(∀b o,b≠I->b≠S->s.heap.get? b=some o->h'.get? b=some o)->R (.ok (.ret (match AM bs with|none=>.none|some b=>.ref b.1))) {s with heap:=h',toks:=tk})->
  codeAny (model prog w) A (.builtin "min.loop" ⟨[.ref I,.none,.ref S],[]⟩) R s:=by
 have a5:(toString "min" ++ toString ".loop" : String) = "min.loop" := by decide
 intro k;induction k with
 |zero =>
  intro j s c hr hj hit hl ht hS hR;have cB:j=bs.length:=by omega
  subst cB;rw[yo] at hS;refine codeAny_builtin PySem.F.entry_min_loop ?_;rw[yN zQ _];show wpAny _ A.in1 (seqItems? (.ref S) >>= _) _ _ s;refine wpAny_bind (wpAny_seqItems hS rfl ?_);show wpAny _ A.in1 (tryCatch (pyNext (.ref I)) _ >>= _) _ _ s;refine wpAny_bind (wpAny_tryCatch (wpAny_pyNext_list_end (A:=A.in1) hh hit hl (by simp) λ h' eb=>?_));have a8:h'.get? S=_:=eb S _ cA hS;unfold CP at a8;cases hb:AM bs with
  |none=>exact (LG nl hb).elim
  |some b =>
   rw[hb] at a8;unfold CP;rw[hb];show wpAny _ A.in1 (updateSeq S (λ _=>#[]) >>= _) _ _ _;refine wpAny_bind ?_;refine wpAny_updateSeq a8 rfl (wpAny_bind (wpAny_letGo (wpAny_pure ?_)));have q:=hR (h'.update S (yr λ _=>#[])) s.toks λ b o h1 h2 e=>(yY _ _ (yd h2)).trans (eb b o h1 e);rw[hb] at q;exact q
 |succ k ih =>
  intro j s c hr hj hit hl ht hS hR;have ap:j<bs.length:=by omega
  have ej:bs.take (j+1)=bs.take j++[bs[j]]:=by rw[yw,zr ap];rfl
  have mj:bs[j]∈bs:=List.getElem_mem ap;refine codeAny_builtin PySem.F.entry_min_loop ?_;rw[yN zQ _];show wpAny _ A.in1 (seqItems? (.ref S) >>= _) _ _ s;refine wpAny_bind (wpAny_seqItems hS rfl ?_);show wpAny _ A.in1 (tryCatch (pyNext (.ref I)) _ >>= _) _ _ s;refine wpAny_bind (wpAny_tryCatch (wpAny_pyNext_list_item (A:=A.in1) hit hl (x:=.ref bs[j].1) (by simp[ap]) λ h' aY sb=>?_));have bz:yR I s.heap h':=sb;have a8:h'.get? S=_:=(bz.2 S cA).trans hS;have bI:h'.IsList l (bs.map λ b=>zX b.1).toArray:=hl.at λ o e=>(bz.2 l mn).trans e;have ca:∀b∈bs,IsTup h' b.1 (tv b.1):=λ b hb=>by
   obtain⟨o,ho,r⟩:=ht b hb;exact⟨o,(bz.2 b.1 (dm b hb).1).trans ho,r⟩
  cases hb:AM (bs.take j) with
  |none =>
   unfold CP at a8 ⊢;rw[hb] at a8 ⊢;show wpAny _ A.in1 (updateSeq S (λ _=>#[.ref bs[j].1,.ref bs[j].1]) >>= _) _ _ _;refine wpAny_bind ?_;refine wpAny_updateSeq a8 rfl ?_;rw[a5];have s1:=yK h' S (yr λ _=>(#[.ref bs[j].1,.ref bs[j].1]:Array Value));refine wpAny_pure ⟨plainId_quiet zQ _,ih (j+1) _ (c+1) (by omega) ap (aY.at λ o e=>(s1.2 I (yd cA)).trans e) (bI.at λ o e=>(s1.2 l ig).trans e) (λ b hb=>?_) ?_ λ cb tk aR=>?_⟩
   ·obtain⟨o,ho,r⟩:=ca b hb;exact⟨o,(s1.2 b.1 (dm b hb).2).trans ho,r⟩
   ·refine (yH _ a8 rfl).trans ?_;unfold CP;rw[ej,Ct,hb];rfl
   ·exact hR cb tk λ b o h1 h2 e=>aR b o h1 h2 ((s1.2 b h2).trans ((bz.2 b h1).trans e))
  |some m =>
   have mm:m∈bs:=yp (Jl _ _ hb);unfold CP at a8 ⊢;rw[hb] at a8 ⊢;show wpAny _ A.in1 (tryCatch (holding [.ref bs[j].1,.ref bs[j].1] (richCompare .Lt (.ref bs[j].1) (.ref m.1) >>= _)) _ >>= _) _ _ _;refine wpAny_bind (wpAny_tryCatch (wpAny_holding (wpAny_bind (HT.HI (ca _ mj) (ca _ mm) (hk _ mj) (hk _ mm) hu ?_))));refine wpAny_bind (wpAny_holding (wpAny_truthy_bool ?_));refine wpAny_bind (wpAny_letGo (wpAny_pure ?_));cases hc:HT.lexLt bs[j].2 m.2 with
   |true =>
    simp only[if_true];have s1:=yK h' S (yr λ _=>(#[.ref bs[j].1,.ref bs[j].1]:Array Value));refine wpAny_bind ?_;refine wpAny_updateSeq a8 rfl (wpAny_bind (wpAny_letGo ?_));rw[a5];refine wpAny_pure ⟨plainId_quiet zQ _,ih (j+1) _ c (by omega) ap (aY.at λ o e=>(s1.2 I (yd cA)).trans e) (bI.at λ o e=>(s1.2 l ig).trans e) (λ b hb=>?_) ?_ λ cb tk aR=>?_⟩
    ·obtain⟨o,ho,r⟩:=ca b hb;exact⟨o,(s1.2 b.1 (dm b hb).2).trans ho,r⟩
    ·refine (yH _ a8 rfl).trans ?_;unfold CP;rw[ej,Ct,hb];simp only[hc,if_true];rfl
    ·exact hR cb tk λ b o h1 h2 e=>aR b o h1 h2 ((s1.2 b h2).trans ((bz.2 b h1).trans e))
   |false =>
    simp only[zy,if_false];refine wpAny_bind (wpAny_letGo ?_);rw[a5];refine wpAny_pure ⟨plainId_quiet zQ _,ih (j+1) _ c (by omega) ap aY bI ca ?_ λ cb tk aR=>?_⟩
    ·refine a8.trans ?_;unfold CP;rw[ej,Ct,hb];simp only[hc,zy,if_false]
    ·exact hR cb tk λ b o h1 h2 e=>aR b o h1 h2 ((bz.2 b h1).trans e)
theorem Ot {E:Value->Shared->Prop}{s:Shared}{Q:Value->Shared->Prop}(bs:List (Addr×List Int))(nl:bs≠[])(tv:Addr->Array Value)(l:Addr)(hh:A.handled=none)(hu:A.in1.units<cLine)
 (hl:s.heap.IsList l (bs.map λ b=>zX b.1).toArray) (ht:∀b∈bs,IsTup s.heap b.1 (tv b.1)) (hk:∀b∈bs,IntsAre (tv b.1).toList b.2)
 (hQ:∀h' tk,(∀b o,s.heap.get? b=some o->h'.get? b=some o)->Q (match AM bs with|none=>.none|some b=>.ref b.1) {s with heap:=h',toks:=tk}):
 wpAny (model prog w) A (call (.builtin "min") [.ref l]) Q E s:=by
 have a5:(toString "min" ++ toString ".loop" : String) = "min.loop" := by decide
 obtain⟨ol,dn,_⟩:=id hl;have sx:l<s.heap.objs.size:=zt dn;refine kmk_tree PySem.F.kind_min PySem.F.plain_min PySem.F.entry_min (by unfold argsOk;kernel_rfl) ?_;show wpAny _ A.in1 (yP "min" ["key","default"] 0 ⟨[],[]⟩ >>= _) _ _ s;refine wpAny_bind (wpAny_of_eq (show yP "min" ["key","default"] 0 ⟨[],[]⟩=pure [none,none] from rfl) ?_);refine wpAny_bind (wpAny_pure ?_);refine wpAny_bind (wpAny_pyIter_list hl ?_);refine wpAny_bind (wpAny_newList ?_ (zW _));rw[a5];have hS:(s.heap.push {cls:=.type "list_iterator",data:=.fields #[.ref l,.int 0 0]}).objs.size=s.heap.objs.size+1:=Heap.size_push ..;have old:∀b o,s.heap.get? b=some o->b≠s.heap.objs.size/\b≠(s.heap.push {cls:=.type "list_iterator",data:=.fields #[.ref l,.int 0 0]}).objs.size:=λ b o e=>⟨zI (zt e),by rw[hS];exact zI (Nat.lt_succ_of_lt (zt e))⟩;have grow:∀b o,s.heap.get? b=some o->((s.heap.push {cls:=.type "list_iterator",data:=.fields #[.ref l,.int 0 0]}).push {cls:=.type "list",data:=.seq #[]}).get? b=some o:=λ b o e=>zh _ (zh _ e);refine wpAny_pure ⟨plainId_quiet zQ _,?_⟩;refine Ui bs nl tv l s.heap.objs.size (s.heap.push {cls:=.type "list_iterator",data:=.fields #[.ref l,.int 0 0]}).objs.size hh hu (by rw[hS];exact Nat.succ_ne_self _) (old l ol dn).1 (old l ol dn).2 (λ b hb=>?_) hk _ 0 _ 0 rfl (zW _) ?_ ?_ (λ b hb=>?_) ?_ ?_
 ·obtain⟨o,ho,_⟩:=ht b hb;exact old b.1 o ho
 ·exact⟨_,zh _ (zA _ rfl),rfl,rfl⟩
 ·exact hl.at λ o e=>grow l o e
 ·obtain⟨o,ho,r⟩:=ht b hb;exact⟨o,grow b.1 o ho,r⟩
 ·exact zA _ rfl
 ·intro h' tk dq;exact hQ h' tk λ b o e=>dq b o (old b o e).1 (old b o e).2 (grow b o e)
end
section
variable {X:Cx}{WX:Str->Hp->Prop}{c:Bool}{e:Expr}{f:A9->M D}{pos:Pos}
def ZL (K:za):List V->Hp->VK->Prop:=λ xs H Q=>∃(a:Addr) (bs:List (Addr×List Int)) (b:Addr×List Int),xs=[.ref a]/\D8 K H a (bs.map λ b=>V.ref b.1)/\(∀b∈bs,El K H b.1 (b.2.map V.int))/\AM bs=some b/\Q (.ref b.1) H
theorem Uj (hc:X.calm=true)(hu:X.A.units+1<cLine):G7 X (.builtin "min") (ZL X.K):=by
 intro pins s σ H xs us Q I r h;obtain⟨a,bs,b0,rfl,hl,hb,he,q⟩:=h;obtain⟨ua,rfl,ra⟩:=r.one;cases ra;obtain⟨aa,rv,pl,hz⟩:=I.list hl;have ei:=Jm rv;subst ei;have tv:∀a:Addr,∃t:Array Value,∀b∈bs,b.1=a->IsTup s.heap a t/\IntsAre t.toList b.2:=λ a=>by
  by_cases cc:∃b∈bs,b.1=a
  ·obtain⟨b,cc,rfl⟩:=cc;obtain⟨ts,rt,pt,_⟩:=I.tuple (hb b cc);refine⟨ts.toArray,λ b' a6 e=>⟨pt,?_⟩⟩;have q2:=hb b' a6;rw[e] at q2;have e2:=I.EE q2 (hb b cc);rw[<-e2] at rt;simpa using intsAre_of rt
  ·exact⟨#[],λ b a6 e=>absurd ⟨b,a6,e⟩ cc⟩
 have ad:bs≠[]:=λ z=>by subst z;cases he
 refine Ot bs ad (λ b=>zl (tv b)) a (I.ok.hd hc) hu pl.isList (λ b a6=>(zb (tv b.1) b a6 rfl).1) (λ b a6=>(zb (tv b.1) b a6 rfl).2) λ h' tk hk=>?_;rw[he];exact⟨.ref b0.1,H,I.kept (t':=tk) hk,rfl,q⟩
noncomputable def SJ (ds:List D):M D:=match ds with
 |[.lst xs]=>(match Gi xs with|some ks=>(match AM ks with|some k=>.ok k.1|none=>.bad)|none=>.bad)
 |_=>.bad
theorem YN:K6 X.K WX (ZL X.K) SJ:=by
 intro P H ds vs Q ht hl h;unfold SJ at h;split at h
 ·rename_i xs;obtain⟨v,rfl,hv⟩:=hl.one;split at h
  ·rename_i ks e1;cases hv with
   |lst hs hh =>
    obtain⟨bs,rfl,h2,h3⟩:=HQ hh e1;split at h
    ·rename_i k e2;rcases Lj h3 with ⟨q1,q2⟩|⟨b,k',q1,q2,_,q3⟩
     ·rw[q2] at e2;cases e2
     ·rw[q2] at e2;cases e2;exact⟨_,bs,b,rfl,hs.Bj,λ b hb=>(h2 b hb).Bj,q1,h _ H (Ab.refl H) q3⟩
    ·exact h.elim
  ·exact h.elim
 ·exact h.elim
theorem YO {p:Pos}{n:Nat}(hc:X.calm=true)(hu:X.A.units+n<cLine)(hg:Gl X "min")(hm:X.mg "min" = none)(ha:DE X WX c e f)(hb:bootBuiltins "min" = some (.builtin "min"):=by decide +kernel)(hs:starEach [e] X.env=[(false,eval e X.env)]:=by rfl)(hn:1<=n:=by decide):DE X WX c (.Call (.Name "min" p) [e] [] pos) (λ ρ=>((f ρ).bind λ d=>(M.ok []).bind λ ds=>.ok (d::ds)).bind SJ):=
 IH (Uj hc (by omega)) YN hg hm hb (A2 ha A8 hs) (he:=hs)
end
section
variable {X:Cx}{E:XK}{WX:Str->Hp->Prop}{c:Bool}{P0:Ea}{P:Addr->Prop}{H:Hp}{σ:St}{ρ:A9}{a b e:Expr}{f g:A9->M D}{fn:A9->M OT}{fp:A9->M (List Nat)}{pos:Pos}{i:Nat}
def YQ:V->List V->Hp->VK->Prop:=λ x vs H Q=>∃(l:Addr) (ns:List Int) (k:Int),x=.ref l/\vs=[.int k]/\H l=some (.lst (ns.map V.int))/\k∈ns/\Q .AD (upd H l (.lst ((ns.erase k).map V.int)))
theorem Np {α β:Type}(f:α->β):∀(l:List α) (k:Nat),(l.eraseIdx k).map f=(l.map f).eraseIdx k
 |[],_|_::_,0=>rfl
 |x::r,k+1=>by rw[List.eraseIdx_cons_succ,zg,zg,List.eraseIdx_cons_succ,Np f r k]
noncomputable def RC (k:Int):Value->Bool
 | .int i _=>i==k
 |_=>false
theorem Uk:mH X "list.remove" YQ:=by
 intro pins s σ H x vs v us Q I rx rv h;obtain⟨l,ns,k,rfl,rfl,hH,hk,q⟩:=h;cases rx;obtain⟨u,rfl,ru⟩:=rv.one;obtain⟨tk,rfl⟩:=ru;obtain⟨z,aa,n,r,hl,e⟩:=I.TJ hH;have hlen:=r.length;have ee:ns.idxOf k<ns.length:=List.idxOf_lt_length_iff.mpr hk;have eg:∀m (hm:m<aa.toArray.size) (qW:m<ns.length),∃t,aa.toArray[m]=Value.int ns[m] t:=λ m hm qW=>by
  have hx:(ns.map V.int)[m]?=some (V.int ns[m]):=by rw[zB,zr qW];rfl
  obtain⟨w,hw,bu⟩:=r.get hx;obtain⟨t,rfl⟩:=bu;refine⟨t,?_⟩;have:aa[m]?=some aa[m]:=zr (by simpa using hm);rw[hw] at this;simpa using (zH this).symm
 have hsz:aa.toArray.size=ns.length:=by rw[zj,<-hlen,ze]
 have hm:=MeetsSeq.list_remove l aa.toArray n (.int k tk) (RC k) (λ y hy=>by
  obtain⟨m,hm,rfl⟩:=Array.mem_iff_getElem.mp hy;obtain⟨t,ht⟩:=eg m hm (by rw[<-hsz];exact hm);rw[ht];exact MeetsSeq.EqGives.int _ _ _ _) (ns.idxOf k) (by rw[hsz];exact ee) (by
  obtain⟨t,ht⟩:=eg (ns.idxOf k) (by rw[hsz];exact ee) ee;rw[ht];simp[RC]) (λ m hm ap=>by
  obtain⟨t,ht⟩:=eg m hm (by omega);rw[ht];have:=List.not_of_lt_findIdx (p:=(· == k)) (xs:=ns) (i:=m) ap;simpa [RC] using this) (by rw[zj];omega)
 refine call_meets F.slot_list_remove ⟨_,e,rfl⟩ F.entry_list_remove (F.args_list_remove_2 _ _) hm ⟨e,?_⟩;refine⟨.AD,_,I.Y4 (its':=aa.eraseIdx (ns.idxOf k)) hH e ?_ ?_ ?_,rfl,q⟩
 ·show aa.toArray.eraseIdxIfInBounds _=_;rw[List.eraseIdxIfInBounds_toArray]
 ·rw[show ns.erase k=ns.eraseIdx (ns.idxOf k) from List.erase_eq_eraseIdx_of_idxOf rfl,Np];exact r.eraseIdx _
 ·rw[ze];have:=List.length_erase_le (a:=k) (l:=ns);rw[ze] at z;omega
theorem Ul (ha:DP X WX a i fp)(he:DE X WX true e f){apos ag:Pos}(hs:starEach [e] X.env=[(false,eval e X.env)]:=by rfl)
 (bY:swapsWith (.Call (.Attribute a "remove" apos) [e] [] ag) none pos.line X.env=pure false:=by rfl)
 (a9:attributeBase a "remove" X.env (eval a X.env)=eval a X.env:=by rfl)
 (aW:((backTo ag (starEach [e] X.env)).all (λ x => !x.1)&&(backToKw ag (keywordEach [] X.env)).all (λ x=>x.1.isSome)&&decide (([e]:List Expr).length+([]:List Keyword).length+(if ([]:List Keyword).isEmpty then 0 else 1)<30))=true:=by rfl)
 (aA:(apos.endLine==ag.line)=true:=by rfl) (aq:(backTo ag (starEach [] X.env)).any (·.1)=false:=by rfl):
 DS X WX (.Expr (.Call (.Attribute a "remove" apos) [e] [] ag) pos) (λ ρ=>(fp ρ).bind λ π=>(QT i ρ π).bind λ ds=>(f ρ).bind λ d=>match d,C5 ds with
  | .int k,some ns=>if k∈ns then HX i ρ π (.lst (((ns.erase k).map D.int).map .sh)) else .bad
  |_,_=>.bad):=by
 obtain⟨ta,a1,a2⟩:=ha;obtain⟨te,e1,e2⟩:=he;refine⟨_,IC (Sq PySem.F.plainAttrs_list PySem.F.slot_list_remove PySem.F.type_list_remove Uk a1 (Bl e1 Cs hs) a9 aW aA hs aq) bY,λ P0 P σ H Z ρ E h=>?_⟩;dsimp only at h;refine a2 P0 P σ H _ ρ E ?_;cases q:fp ρ with
 |bad=>rw[q] at h;exact h
 |ex x=>rw[q] at h;exact λ H' s=>h H' P (E.tr s)
 |ok π =>
  rw[q] at h;simp only[M.A6] at h;intro v t1 H1 s1 pl;have E1:=E.same s1;cases q1:QT i ρ π with
  |bad=>rw[q1] at h;exact h.elim
  |ex x=>exact (Wq q1).elim
  |ok ds =>
   rw[q1] at h;simp only[M.A6] at h;obtain⟨rfl,l,xs,rfl,hl,ol⟩:=pl.shl E1 q1;refine⟨.inl ⟨rfl,xs,.of hl⟩,e2 P0 P σ H1 _ ρ E1 ?_⟩;cases q2:f ρ with
   |bad=>rw[q2] at h;exact h
   |ex y=>rw[q2] at h;exact λ H' s=>h H' P ((E.tr s1).trans (E1.tr s))
   |ok d =>
    rw[q2] at h;simp only[M.A6] at h;intro w H2 s2 hw;have E2:=E1.same s2;have cC:=pl.same s2;cases d with
    |int k =>
     cases q3:C5 ds with
     |none=>rw[q3] at h;exact h.elim
     |some ns =>
      rw[q3] at h;dsimp only at h;by_cases hk:k∈ns
      ·rw[if_pos hk] at h;have:=Cy q3;subst this;have i4:=ol.mono s2.del;have ex:=Cz i4;subst ex;have aQ:=s2 _ _ hl;obtain⟨c,p,t0,g1,g2,E3,t3⟩:=E2.lF (ys:=(ns.erase k).map V.int) (es:=(ns.erase k).map D.int) cC aQ i4 (Ae.ints _);rw[J2 g1 g2] at h;exact⟨l,ns,k,rfl,by rw[hw.int_inv],aQ,hk,h _ _ _ (((E.tr s1).trans (E1.tr s2)).trans t3) E3⟩
      ·rw[if_neg hk] at h;exact h.elim
    |_=>exact h.elim
end
section
variable {X:Cx}{WX:Str->Hp->Prop}{c:Bool}{P0:Ea}{P:Addr->Prop}{H:Hp}{σ:St}{ρ:A9}{a b e:Expr}{f g:A9->M D}{fn:A9->M OT}{pos:Pos}{te:TE}
theorem Um (hc:X.calm=true):G7 X (.builtin "sum") (λ xs H Q=>∃p ns,xs=[.ref p]/\D8 X.K H p (List.map V.int ns)/\Q (.int ns.sum) H):=by
 intro pins s σ H xs us Q I r h;obtain⟨p,ns,rfl,hq,q⟩:=h;obtain⟨u,rfl,rx⟩:=r.one;cases rx;obtain⟨aa,r',pl,hz⟩:=I.list hq;have hl:=pl.isList;have hi:=IT r';obtain⟨ys,e⟩:=hi.allInts.items;have dh:ns=ys.toList.map (·.1):=by rw[<-hi.numsOf,<-nums_intItems,<-e]
 rw[e] at hl;refine sum_intListG (I.ok.hd hc) hl λ h' tk t' hk=>?_;have e2:preSum (numAt ys) ys.size=ns.sum:=by rw[preSum_eq,yu (by simp),dh]
 rw[e2];exact⟨.int ns.sum,H,I.kept (t':=tk) hk,⟨t',rfl⟩,q⟩
noncomputable def Wv (ds:List D):M D:=match ds with
 |[.lst xs]=>(match C5 xs with|some ns=>.ok (.int ns.sum)|none=>.bad)
 |_=>.bad
theorem fU:K6 X.K WX (λ xs H Q=>∃p ns,xs=[.ref p]/\D8 X.K H p (List.map V.int ns)/\Q (.int ns.sum) H) Wv:=by
 intro P H ds vs Q ht hl h;unfold Wv at h;split at h
 ·rename_i xs;obtain⟨v,rfl,hv⟩:=hl.one;split at h
  ·rename_i ns eb;have:=Cy eb;subst this;cases hv with
   |lst hs hh =>
    have:=Cz hh;subst this;exact⟨_,ns,rfl,hs.Bj,h _ H (Ab.refl H) (.int _)⟩
  ·exact h.elim
 ·exact h.elim
theorem Ww {p:Pos}(hc:X.calm=true)(hg:Gl X "sum")(hm:X.mg "sum" = none)(ha:DE X WX c e f)(hb:bootBuiltins "sum" = some (.builtin "sum"):=by decide +kernel)(hs:starEach [e] X.env=[(false,eval e X.env)]:=by rfl):DE X WX c (.Call (.Name "sum" p) [e] [] pos) (λ ρ=>((f ρ).bind λ d=>(M.ok []).bind λ ds=>.ok (d::ds)).bind Wv):=
 IH (Um hc) fU hg hm hb (A2 ha A8 hs) (he:=hs)
noncomputable def oQ (te:TE):TE:=λ σ H Q=>te σ H λ x H1=>∃n:Nat,x=.int (n:Int)/\n<=1000/\∀r,H1 r=none->Q (.ref r) (upd H1 r (.lst ((zD n).map λ i:Nat=>V.int (i:Int))))
theorem Uo {acc:Array Value}{n:Nat}(h:ItemsOf (λ i v=>∃t,v=Value.int (0+(i:Int)*1) t) acc n):Vals ((zD n).map λ i:Nat=>V.int (i:Int)) acc.toList:=by
 obtain⟨h1,h2⟩:=h;have key:∀(l:List Value) (k:Nat),(∀i v,l[i]?=some v->∃t,v=Value.int ((k+i:Nat):Int) t)->Vals ((List.range' k l.length).map λ i:Nat=>V.int (i:Int)) l:=by
  intro l;induction l with
  |nil=>intro k _;exact .nil
  |cons v r ih =>
   intro k hk;rw[zo,List.range'_succ,zg];refine .cons (by obtain⟨t,e⟩:=hk 0 v rfl;exact⟨t,by simpa using e⟩) (ih (k+1) λ i w hw=>?_);obtain⟨t,e⟩:=hk (i+1) w (by simpa using hw);exact⟨t,by rw[e];congr 1;omega⟩
 have:=key acc.toList 0 (λ i v hv=>by
  obtain⟨t,e⟩:=h2 i v (by rw[<-Array.getElem?_toList];exact hv);exact⟨t,by rw[e];congr 1;omega⟩)
 rw[yv,h1] at this;rw[List.range_eq_range'];exact this
theorem Ou {p p2 b9:Pos}(hc:X.calm=true)(hg:Gl X "list")(hm:X.mg "list" = none)(il:Gl X "range")(b8:X.mg "range" = none)(he:PE X e te)
 (hv:bootBuiltins "list" = some (.type "list"):=by decide +kernel)
 (hs:starEach [.Call (.Name "range" p2) [e] [] b9] X.env=[(false,eval (.Call (.Name "range" p2) [e] [] b9) X.env)]:=by rfl) (aS:starEach [e] X.env=[(false,eval e X.env)]:=by rfl):
 PE X (.Call (.Name "list" p) [.Call (.Name "range" p2) [e] [] b9] [] pos) (oQ te):=by
 intro pins s σ H Q I h;refine wpAny_Call_Name_kw (Ek I hg hm hv ?_);refine y4 ?_ hs;rw[hs];refine Calls.spliced_cons ?_;refine wpAny_Call_Name_kw (Ek I il b8 boot_range ?_);refine y4 ?_ aS;rw[aS];refine Calls.spliced_cons (B2 (he pins s σ H _ I h) λ u s1 ⟨x,H1,I1,r1,q1⟩=>?_);obtain⟨n,rfl,hn,q⟩:=q1;obtain⟨t,rfl⟩:=r1;refine Calls.spliced_nil ?_;refine call_range_1 ?_;refine Calls.spliced_nil ?_;have h4:((n:Nat):Int)<2^62:=by omega
 refine call_list_range (n:=n) (I1.ok.hd hc) (IsRange.new ..) (small_one (by omega) (by omega) (by omega) h4) (by rw[rangeSize_one];split<;>omega) (by omega) λ h' tk nq c' hk a8 nr=>?_;have kp:∀b o,s1.heap.get? b=some o->h'.get? b=some o:=λ b o e=>hk b o (zh _ e);have rv:=Uo nr;have qX:∀o:Obj,s1.heap.objs.size<=(s1.heap.push o).objs.size:=λ o=>by simp[Heap.push]
 refine⟨.ref _,_,I1.laid (t':=tk) (o:=.lst ((zD n).map λ i:Nat=>V.int (i:Int))) kp (qX _) ⟨?_,nq.toList,c',rv,by simpa using a8⟩,rfl,q _ (I1.Ao.fresh (qX _))⟩;rw[ze,List.length_range];exact yj (AF hn)
noncomputable def mQ (d:D):M OT:=match d with
 | .int j=>@ite _ (0<=j/\j<=1000) (xq _) (.ok (.lst ((C0 0 j.toNat).map .sh))) .bad
 |_=>.bad
theorem KO {n:Nat}(h:n<=1000):mQ (.int (n:Int))=.ok (.lst (((zD n).map λ i:Nat=>D.int (i:Int)).map .sh)):=by
 unfold mQ;dsimp only;rw[if_pos ⟨by omega,by omega⟩,yk,HR]
theorem Fp {p p2 b9:Pos}(hc:X.calm=true)(hg:Gl X "list")(hm:X.mg "list" = none)(il:Gl X "range")(b8:X.mg "range" = none)(he:DE X WX true e f)
 (hv:bootBuiltins "list" = some (.type "list"):=by decide +kernel)
 (hs:starEach [.Call (.Name "range" p2) [e] [] b9] X.env=[(false,eval (.Call (.Name "range" p2) [e] [] b9) X.env)]:=by rfl) (aS:starEach [e] X.env=[(false,eval e X.env)]:=by rfl):
 DN X WX (.Call (.Name "list" p) [.Call (.Name "range" p2) [e] [] b9] [] pos) (λ ρ=>(f ρ).bind mQ):=by
 obtain⟨te,e1,e2⟩:=he;refine⟨_,Ou hc hg hm il b8 e1 hv hs aS,λ P0 P σ H Q ρ E h=>?_⟩;refine e2 P0 P σ H _ ρ E ?_;dsimp only at h;cases q:f ρ with
 |bad|ex x=>rw[q] at h;exact h
 |ok d =>
  rw[q] at h;simp only[M.A6] at h;intro v H1 s1 hv;cases d with
  |int j =>
   by_cases hj:0<=j/\j<=1000
   ·obtain⟨n,rfl⟩:∃n:Nat,j=n:=⟨j.toNat,by omega⟩;rw[KO (by omega)] at h;refine⟨n,hv.int_inv,by omega,λ r hr=>h.Jy s1 (xs:=(zD n).map λ i:Nat=>V.int (i:Int)) ?_ r hr⟩;have:∀l:List Nat,Ae X.K (del H1 P) (l.map λ i:Nat=>V.int (i:Int)) (l.map λ i:Nat=>D.int (i:Int)):=λ l=>by
     induction l with
     |nil=>exact .nil
     |cons x r ih=>exact .cons (.int _) ih
    exact this _
   ·have e:mQ (.int j)=.bad:=if_neg hj;rw[e] at h;exact h.elim
  |_=>exact h.elim
noncomputable def Wx (lo hi:Option Int)(d:D):M OT:=match d with
 | .lst ds=>.ok (.lst (((ds.drop (HT.L4 ds.length 0 lo)).take (HT.L4 ds.length ds.length hi-HT.L4 ds.length 0 lo)).map .sh))
 |_=>.bad
theorem J3 {lo hi:Option Expr}{nu fh:A9->M (Option Int)}{p2:Pos}(ha:DE X WX true e f)(hl:DO X WX true lo nu)(hh:DO X WX true hi fh):DN X WX (.Subscript e (.Slice lo hi none p2) pos) (λ ρ=>(f ρ).bind λ d=>(nu ρ).bind λ l=>(fh ρ).bind λ u=>Wx l u d):=by
 obtain⟨ta,a1,a2⟩:=ha;obtain⟨tl,l1,l2⟩:=hl;obtain⟨th,h1,h2⟩:=hh;refine⟨_,VD Y3 a1 l1 h1,λ P0 P σ H Q ρ E h=>?_⟩;dsimp only at h;refine a2 P0 P σ H _ ρ E ?_;cases q:f ρ with
 |bad|ex x=>rw[q] at h;exact h
 |ok d =>
  rw[q] at h;intro v H1 s1 hv;refine l2 P0 P σ H1 _ ρ (E.same s1) ?_;cases q2:nu ρ with
  |bad=>rw[q2] at h;exact h
  |ex y=>rw[q2] at h;exact λ H' s=>h H' (s1.trans s)
  |ok l =>
   rw[q2] at h;intro H2 s2;refine h2 P0 P σ H2 _ ρ ((E.same s1).same s2) ?_;cases q3:fh ρ with
   |bad=>rw[q3] at h;exact h
   |ex y=>rw[q3] at h;exact λ H' s=>h H' ((s1.trans s2).trans s)
   |ok u =>
    rw[q3] at h;simp only[M.A6] at h;intro H3 s3;unfold Wx at h;split at h
    ·cases hv with
     |lst hs hl =>
      refine⟨_,_,rfl,(s3.seq (s2.seq hs.Bj)),λ p hp=>h.Jy ((s1.trans s2).trans s3) ?_ p hp⟩;unfold VE;rw[hl.length];exact ((((hl.drop _).take _).mono s2.del).mono s3.del)
    ·exact h.elim
variable {im:List D->A9->M A9}{gt:D->A9->M A9}{es:List Expr}
end
def WP (m:M Out)(nx:A9->Prop)(rt:Out->Prop)(ex:Str->Prop):Prop:=match m with
 | .ok (.next ρ)=>nx ρ
 | .ok o=>rt o
 | .ex x=>ex x
 | .bad=>False
section
variable {nx:A9->Prop}{rt:Out->Prop}{ex:Str->Prop}{m:M Out}{k:A9->M Out}{ρ ρ':A9}
theorem Bv (h:m=.ok (.next ρ'))(hn:nx ρ'):WP m nx rt ex:=by rw[h];exact hn
theorem WP.mono {qY:A9->Prop}{qZ:Out->Prop}{lb:Str->Prop}(h:WP m nx rt ex)(h1:∀ρ,nx ρ->qY ρ)(h2:∀o,rt o->qZ o)(h3:∀x,ex x->lb x):WP m qY qZ lb:=by
 cases m with
 |bad=>exact h
 |ex x=>exact h3 x h
 |ok o =>
  cases o with
  |next ρ=>exact h1 ρ h
  |ret d|brk d|cont d|BZ d|Ed d ρ=>exact h2 _ h
theorem wp_seq (h:WP m (λ ρ=>WP (k ρ) nx rt ex) rt ex):WP (W2 m k) nx rt ex:=by
 cases m with
 |bad|ex x=>exact h
 |ok o =>
  cases o with
  |next ρ|ret d|brk d|cont d|BZ d|Ed d ρ=>exact h
theorem wp_step (h:m=.ok (.next ρ'))(hk:WP (k ρ') nx rt ex):WP (W2 m k) nx rt ex:=by rw[h];exact hk
theorem BP {I:A9->Prop}(h:WP m I rt ex)(hk:∀ρ,I ρ->WP (k ρ) nx rt ex):WP (W2 m k) nx rt ex:=wp_seq (h.mono hk (λ _ h=>h) λ _ h=>h)
def inLoop (I:A9->Prop)(nx:A9->Prop)(rt:Out->Prop)(o:Out):Prop:=match o with
 | .cont ρ=>I ρ
 | .brk ρ=>nx ρ
 |o=>rt o
theorem CC {gt:D->A9->M A9}{gb:A9->M Out}{ds:List D}(I:Nat->A9->Prop)(h0:I 0 ρ)
 (step:∀i d ρ,ds[i]?=some d->I i ρ->∃ρ1,gt d ρ=.ok ρ1/\WP (gb ρ1) (I (i+1)) (inLoop (I (i+1)) nx rt) ex) (done:∀ρ,I ds.length ρ->nx ρ):WP (forM gt gb ds ρ) nx rt ex:=by
 have key:∀(n i:Nat) (ρ:A9),i+n=ds.length->I i ρ->WP (forM gt gb (ds.drop i) ρ) nx rt ex:=by
  intro n;induction n with
  |zero =>
   intro i ρ hi h;have e:i=ds.length:=by omega
   subst e;rw[List.drop_length,forM];exact done ρ h
  |succ n ih =>
   intro i ρ hi h;have ap:i<ds.length:=by omega
   obtain⟨ρ1,h1,h2⟩:=step i ds[i] ρ (zr ap) h;rw[IK ap,forM,h1];dsimp only;cases q:gb ρ1 with
   |bad|ex x=>rw[q] at h2;exact h2
   |ok o =>
    rw[q] at h2;cases o with
    |next ρ2=>exact ih (i+1) ρ2 (by omega) h2
    |ret d|BZ d|Ed d ρ2=>exact h2
    |cont ρ2=>exact ih (i+1) ρ2 (by omega) h2
    |brk ρ2=>exact h2
 have:=key ds.length 0 ρ (by omega) h0;rw[List.drop_zero] at this;exact this
theorem LH {α:Type}{c:A9->M Bool}{b:A9->M Out}{lt:α->α->Prop}(J:α->A9->Prop){x:α}(hx:Acc lt x)(h0:J x ρ)
 (step:∀x ρ,J x ρ->(c ρ=.ok false/\nx ρ)\/(c ρ=.ok true/\WP (b ρ) (λ ρ2=>∃y,lt y x/\J y ρ2) (inLoop (λ ρ2=>∃y,lt y x/\J y ρ2) nx rt) ex)):WP (K8 c b ρ) nx rt ex:=by
 have key:∀x,Acc lt x->∀ρ,J x ρ->∃n,Aq c b n ρ≠.bad/\WP (Aq c b n ρ) nx rt ex:=by
  intro x hx;induction hx with
  |intro x _ ih =>
   intro ρ h;rcases step x ρ h with ⟨h1,h2⟩|⟨h1,h2⟩
   ·refine⟨1,?_,?_⟩
    ·rw[Aq,h1];intro z;cases z
    ·rw[Aq,h1];exact h2
   ·cases q:b ρ with
    |bad=>rw[q] at h2;exact h2.elim
    |ex y =>
     rw[q] at h2;refine⟨1,?_,?_⟩
     ·rw[Aq,h1];dsimp only;rw[q];intro z;cases z
     ·rw[Aq,h1];dsimp only;rw[q];exact h2
    |ok o =>
     rw[q] at h2;have go:∀ρ2,(∃y,lt y x/\J y ρ2)->(∀n,Aq c b (n+1) ρ=Aq c b n ρ2)->∃n,Aq c b n ρ≠.bad/\WP (Aq c b n ρ) nx rt ex:=by
      rintro ρ2 ⟨y,hy,hJ⟩ e;obtain⟨n,h3,h4⟩:=ih y hy ρ2 hJ;exact⟨n+1,by rw[e];exact h3,by rw[e];exact h4⟩
     cases o with
     |next ρ2|cont ρ2=>exact go ρ2 h2 λ n=>by rw[Aq,h1];dsimp only;rw[q]
     |brk ρ2 =>
      refine⟨1,?_,?_⟩
      ·rw[Aq,h1];dsimp only;rw[q];intro z;cases z
      ·rw[Aq,h1];dsimp only;rw[q];exact h2
     |ret d =>
      refine⟨1,?_,?_⟩
      ·rw[Aq,h1];dsimp only;rw[q];intro z;cases z
      ·rw[Aq,h1];dsimp only;rw[q];exact h2
     |BZ d =>
      refine⟨1,?_,?_⟩
      ·rw[Aq,h1];dsimp only;rw[q];intro z;cases z
      ·rw[Aq,h1];dsimp only;rw[q];exact h2
     |Ed d ρ2 =>
      refine⟨1,?_,?_⟩
      ·rw[Aq,h1];dsimp only;rw[q];intro z;cases z
      ·rw[Aq,h1];dsimp only;rw[q];exact h2
 obtain⟨n,h1,h2⟩:=key x hx ρ h0;unfold K8;have hx:∃n,Aq c b n ρ≠.bad:=⟨n,h1⟩;rw[dif_pos hx];have e:Aq c b (zl hx) ρ=Aq c b n ρ:=by
  have a:=C6 (zb hx) n;have b':=C6 h1 (zl hx);rw[Nat.add_comm] at b';rw[<-a,<-b']
 rw[e];exact h2
def rA (Q:OT->Prop)(o:Out):Prop:=match o with
 | .ret d=>Q (.sh d)
 | .BZ c=>∃t,kZ c=.ok t/\Q t
 |_=>False
theorem Q0 {Q:OT->Prop}(h:WP m (λ _=>Q (.sh .AD)) (rA Q) (λ _=>False)):∃t,Ud m=.ok t/\Q t:=by
 cases m with
 |bad|ex x=>exact h.elim
 |ok o =>
  cases o with
  |next ρ|ret d=>exact⟨_,rfl,h⟩
  |BZ c=>exact h
  |Ed c ρ|brk ρ|cont ρ=>exact h.elim
theorem BA {t:OT}(h:WP m (λ _=>OT.sh .AD=t) (rA (·=t)) (λ _=>False)):Ud m=.ok t:=by
 obtain⟨u,h1,h2⟩:=Q0 (Q:=(·=t)) h;rw[h1,h2]
def rB (Q:D->Prop)(o:Out):Prop:=match o with
 | .ret d=>Q d
 | .BZ c=>∃t,oJ c=.ok t/\Q t
 |_=>False
theorem lH {Q:D->Prop}(h:WP m (λ _=>Q .AD) (rB Q) (λ _=>False)):∃t,fin m=.ok t/\Q t:=by
 cases m with
 |bad|ex x=>exact h.elim
 |ok o =>
  cases o with
  |next ρ|ret d=>exact⟨_,rfl,h⟩
  |BZ c=>exact h
  |Ed c ρ|brk ρ|cont ρ=>exact h.elim
theorem lI {d:D}(h:WP m (λ _=>D.AD=d) (rB (·=d)) (λ _=>False)):fin m=.ok d:=by
 obtain⟨u,h1,h2⟩:=lH (Q:=(·=d)) h;rw[h1,h2]
end
section
variable {d:D}{ds es:List D}{ρ ρ':A9}{o:Option Cl}{i n:Nat}{p:Option Nat}{t u:OT}{π:List Nat}{b:Bool}{ks vs:List D}{ts:List OT}{m:M D}
theorem fV:rv 0 (some (.val d)::ρ)=.ok d:=rfl
theorem fW:rv (i+1) (o::ρ)=rv i ρ:=rfl
noncomputable def Q1 (f:A9->A9)(m:M Out):M Out:=match m with
 | .ok (.next ρ)=>.ok (.next (f ρ))
 |m=>m
theorem EH {f:A9->A9}:Q1 f (.ok (.next ρ))=.ok (.next (f ρ)):=rfl
theorem EI:PR 0 (some (.own ds)::ρ)=.ok []:=rfl
theorem EJ:PR 0 (some (.ow (.Kr n ds))::ρ)=.ok []:=rfl
theorem Dg:PR 0 (some (.ow (.tree p t))::ρ)=.ok []:=by unfold PR SE;simp[treeOf]
theorem Nq:PR (i+1) (o::ρ)=PR i ρ:=rfl
theorem SK:SE 0 (some (.own ds)::ρ) π=Jv (.lst (ds.map .sh)) π:=rfl
theorem SM:SE 0 (some (.ow (.Kr n ds))::ρ) π=Jv (.lst (ds.map .sh)) π:=rfl
theorem LI:SE 0 (some (.ow (.tree p t))::ρ) π=Jv t π:=rfl
theorem Hb:QT 0 (some (.own ds)::ρ) []=.ok ds:=by unfold QT;simp[SK,C8]
theorem Hc:QT 0 (some (.ow (.Kr n ds))::ρ) []=.ok ds:=by unfold QT;simp[SM,C8]
theorem EK:QT 0 (some (.ow (.tree p (.lst (ds.map .sh))))::ρ) []=.ok ds:=by unfold QT;simp[LI,C8]
theorem Up:QT (i+1) (o::ρ) π=QT i ρ π:=rfl
theorem Dh:Kb 0 (some (.own ds)::ρ) []=.ok (ds.map .sh):=by unfold Kb;simp[SK]
theorem Di:Kb 0 (some (.ow (.Kr n ds))::ρ) []=.ok (ds.map .sh):=by unfold Kb;simp[SM]
theorem CD:Kb 0 (some (.ow (.tree p (.lst ts)))::ρ) []=.ok ts:=by unfold Kb;simp[LI]
theorem JA:Kb (i+1) (o::ρ) π=Kb i ρ π:=rfl
theorem BD:FU 0 (some (.ow (.tree p (.B6 b ks (vs.map .sh))))::ρ) []=.ok (b,ks,vs):=by unfold FU;simp[LI,C8]
theorem JB:FU (i+1) (o::ρ) π=FU i ρ π:=rfl
theorem EL:HX 0 (some (.own ds)::ρ) [] u=.ok (.next (some (toCl none u)::ρ)):=by unfold HX;simp[treeOf]
theorem EM:HX 0 (some (.ow (.Kr n ds))::ρ) [] u=.ok (.next (some (toCl (some n) u)::ρ)):=by unfold HX;simp[treeOf]
theorem Dj:HX 0 (some (.ow (.tree p t))::ρ) π u=.ok (.next (some (toCl p (Er t π u))::ρ)):=by unfold HX;simp[treeOf]
theorem Nr:HX (i+1) (o::ρ) π u=Q1 (o::·) (HX i ρ π u):=by
 unfold HX Q1;simp only[zO,zw];split
 ·rename_i c e;split<;>simp_all
 ·simp_all
theorem EN:U2 0 (some (.own ds)::ρ) (.ok d)=if ds.length<1000 then .ok (.next (some (.own (ds++[d]))::ρ)) else .bad:=rfl
theorem Nt:U2 (i+1) (o::ρ) m=Q1 (o::·) (U2 i ρ m):=by
 unfold U2;rw[zO];cases q:ρ[i]? with
 |none=>rfl
 |some oo =>
  cases oo with
  |none=>rfl
  |some c =>
   cases c with
   |own ds =>
    cases m with
    |ok d =>
     simp only[M.A6,zw];by_cases h:ds.length<1000
     ·rw[if_pos h,if_pos h];rfl
     ·rw[if_neg h,if_neg h];rfl
    |ex x|bad=>rfl
   |val d|ow w=>rfl
theorem EO {j:Int}:U8 0 (some (.own ds)::ρ) (.ok (.int j)) (.ok d)=if 0<=j/\j.toNat<=ds.length/\ds.length<1000 then .ok (.next (some (.own (ds.take j.toNat++d::ds.drop j.toNat))::ρ)) else .bad:=rfl
theorem Nu {m2:M D}:U8 (i+1) (o::ρ) m m2=Q1 (o::·) (U8 i ρ m m2):=by
 unfold U8;rw[zO];cases q:ρ[i]? with
 |none=>rfl
 |some oo =>
  cases oo with
  |none=>rfl
  |some c =>
   cases c with
   |own ds =>
    cases m with
    |ok d =>
     cases m2 with
     |ok d2 =>
      simp only[M.A6,zw];cases d with
      |int j =>
       dsimp only;by_cases h:0<=j/\j.toNat<=ds.length/\ds.length<1000
       ·rw[if_pos h,if_pos h];rfl
       ·rw[if_neg h,if_neg h];rfl
      |_=>rfl
     |ex x|bad=>rfl
    |ex x|bad=>rfl
   |val d|ow w=>rfl
theorem EQ:Ry 0 (some (.val d)::ρ)=.ok (.ret d):=rfl
theorem ER:Ry 0 (some (.own ds)::ρ)=.ok (.BZ (.own ds)):=rfl
theorem Hd {w:Ow}:Ry 0 (some (.ow w)::ρ)=.ok (.BZ (.ow w)):=rfl
theorem Nv:Ry (i+1) (o::ρ)=Ry i ρ:=rfl
theorem rC:oN i ρ π=match SE i ρ π with | some (.sh d)=>.ok d | _=>.bad:=rfl
theorem Uq:PQ (i+1) (o::ρ)=o::PQ i ρ:=by
 unfold PQ;simp only[zO,zw];split<;>simp_all
theorem Ur {c:Cl}:PQ 0 (some c::ρ)=some (IV c)::ρ:=rfl
theorem ES:IV (.val d)=.val d:=rfl
theorem ET:IV (.own ds)=.val (.lst ds):=rfl
theorem EU:IV (.ow (.Kr n ds))=.val (.lst ds):=rfl
theorem He:IV (.ow (.tree p t))=.val (er t):=rfl
theorem Fq:er (.B6 b ks (vs.map .sh))=.B6 b ks vs:=by rw[er,HV]
theorem Gp:er (.lst (ds.map .sh))=.lst ds:=by rw[er,HV]
theorem Kc:er (.sh d)=d:=rfl
theorem iO {l:List (Option Nat)}:Bp (none::l) ρ=none::Bp l ρ:=rfl
theorem iP:Bp [] ρ=[]:=rfl
theorem Us {l:List (Option Nat)}:Bp (some i::l) ρ=(match ρ[i]? with | some (some (.val d))=>some (.val d) | _=>none)::Bp l ρ:=rfl
theorem Ut {α:Type}{x y:α}:(if ([]:List D).length<=1000 then x else y)=x:=if_pos (by show 0<=1000;decide)
theorem Uu {α:Type}{x y:α}{a:D}:(if [a].length<=1000 then x else y)=x:=if_pos (by show 1<=1000;decide)
theorem Uv {α:Type}{x y:α}{a b:D}:(if [a,b].length<=1000 then x else y)=x:=if_pos (by show 2<=1000;decide)
theorem Uw {α:Type}{x y:α}{a b c:D}:(if [a,b,c].length<=1000 then x else y)=x:=if_pos (by show 3<=1000;decide)
theorem Ux {α:Type}{x y:α}{a b c d:D}:(if [a,b,c,d].length<=1000 then x else y)=x:=if_pos (by show 4<=1000;decide)
theorem toCl_nil:toCl none (.lst [])=.own []:=rfl
theorem CF {α:Type}{gt:D->A9->M A9}{ft:A9->M Bool}{fe:A9->M D}{g:α->D}(p:α->Bool)(f:α->D):∀ {l:List α},(∀x∈l,∃ρ1,gt (g x) ρ=.ok ρ1/\ft ρ1=.ok (p x)/\(p x=true->fe ρ1=.ok (f x)))->B3 gt ft fe (l.map g) ρ=.ok ((l.filter p).map f)
 |[],_=>rfl
 |x::r,h=>by
  obtain⟨ρ1,h1,h2,h3⟩:=h x zd;have ih:=CF (gt:=gt) (ft:=ft) (fe:=fe) (g:=g) p f (l:=r) λ y hy=>h y (zf _ hy);rw[zg,B3,h1];dsimp only;rw[h2];dsimp only;rw[List.filter_cons];cases hp:p x with
  |true =>
   rw[if_pos rfl,h3 hp];dsimp only;rw[ih];simp
  |false=>simp[ih]
theorem DJ {α:Type}{gt:D->A9->M A9}{ft:A9->M Bool}{fe:A9->M D}{g:α->D}(f:α->D){l:List α}(h:∀x∈l,∃ρ1,gt (g x) ρ=.ok ρ1/\ft ρ1=.ok true/\fe ρ1=.ok (f x)):B3 gt ft fe (l.map g) ρ=.ok (l.map f):=by
 have:=CF (gt:=gt) (ft:=ft) (fe:=fe) (ρ:=ρ) (g:=g) (λ _=>true) f (l:=l) λ x hx=>by
  obtain⟨ρ1,h1,h2,h3⟩:=h x hx;exact⟨ρ1,h1,h2,λ _=>h3⟩
 rw[this,List.filter_eq_self.mpr (λ _ _=>rfl)]
theorem BS {α:Type}{g:α->D}{l:List α}{i:Nat}{d:D}(h:(l.map g)[i]?=some d):∃x,l[i]?=some x/\d=g x:=by
 rw[zB] at h;cases q:l[i]? with
 |none=>rw[q] at h;cases h
 |some x=>rw[q] at h;cases h;exact⟨x,rfl,rfl⟩
theorem JC:YL (.lst (ds.map .sh))=.ok ds:=by unfold YL;simp[C8,YK]
theorem Dk {α:Type}{x:α}:YK (some x)=.ok x:=rfl
theorem Hf:PP i ρ (.sh d)=.ok (.next (ρ.set i (some (.val d)))):=rfl
theorem EV:PP i ρ (.lst ts)=.ok (.next (ρ.set i (some (toCl none (.lst ts))))):=rfl
theorem EW:PP i ρ (.tup ts)=.ok (.next (ρ.set i (some (.ow (.tree none (.tup ts)))))):=rfl
theorem EX:PP i ρ (.B6 b ks ts)=.ok (.next (ρ.set i (some (.ow (.tree none (.B6 b ks ts)))))):=rfl
theorem EY {x:Str}{ns:List Str}:PP i ρ (.ins x ns ts)=.ok (.next (ρ.set i (some (.ow (.tree none (.ins x ns ts)))))):=rfl
theorem Hg:Ue (.sh d)=.ok (.ret d):=rfl
theorem EZ:Ue (.lst ts)=.ok (.BZ (.ow (.tree none (.lst ts)))):=rfl
theorem F0:Ue (.tup ts)=.ok (.BZ (.ow (.tree none (.tup ts)))):=rfl
theorem F1:Ue (.B6 b ks ts)=.ok (.BZ (.ow (.tree none (.B6 b ks ts)))):=rfl
theorem Q2 {α:Type}{f:α->D}(h:∀x,IR (f x)=true):∀l:List α,IS (l.map f)=true
 |[]=>by simp[IS]
 |x::r=>by rw[zg,IS,h x,Q2 h r];rfl
theorem Q3:∀ds:List D,FT (ds.map .sh)=IS ds
 |[]=>by simp[IS,FT]
 |d::r=>by rw[zg,FT,Hx,Q3 r,IS]
theorem fX (h:IR d=true):Uc (.ok (.sh d))=.ok (.sh d):=by unfold Uc;simp[Hx,h]
theorem YR (h:IS ds=true):Uc (.ok (.lst (ds.map .sh)))=.ok (.lst (ds.map .sh)):=by unfold Uc;simp[Hx,Q3,h]
theorem YS {i:Int}:IR (.int i)=true:=by simp[IR]
theorem Wy:DF (.lst ds)=.ok (!ds.isEmpty):=rfl
theorem fY {a s m:Int}(h0:0<=a)(h1:a<m)(s0:1<=s)(s1:s<m):(a+s)%m≠a:=by
 by_cases h:a+s<m
 ·rw[Int.emod_eq_of_lt (by omega) h];omega
 ·have e:(a+s)%m=(a+s-m)%m:=by rw[Int.sub_emod_right]
  rw[e,Int.emod_eq_of_lt (by omega) (by omega)];omega
theorem Hh {k:Nat}(i j:Int):Xz k (.int i) (.int j)=.ok (.bl (decide (i=j))):=by
 rw[Ol (Fn _) (Fn _)];simp only[Ap,Bool.beq_eq_decide_eq]
theorem Hi {k:Nat}(i j:Int):Yp k (.int i) (.int j)=.ok (.bl (!decide (i=j))):=by
 rw[Rv (Fn _) (Fn _)];simp only[Ap,Bool.beq_eq_decide_eq]
theorem F2 {i j:Int}:VT (.int i) (.int j)=.ok (.int (i+j)):=rfl
theorem F3 {i j:Int}:eU (.int i) (.int j)=.ok (.int (i-j)):=rfl
theorem Hj {i j:Int}:sD (.int i) (.int j)=.ok (.bl (decide (i<j))):=rfl
theorem Hk {i j:Int}:sE (.int i) (.int j)=.ok (.bl (decide (i<=j))):=rfl
theorem Hl {i j:Int}:qK (.int i) (.int j)=.ok (.bl (decide (j<i))):=rfl
theorem Hm {i j:Int}:sF (.int i) (.int j)=.ok (.bl (decide (j<=i))):=rfl
theorem Hn {i:Int}:qL (.int i)=.ok (some i):=rfl
theorem F4:U0 [.lst ds]=.ok (.int ds.length):=rfl
theorem F5:U0 [.tup ds]=.ok (.int ds.length):=rfl
theorem ite_tt {α:Type}{x y:α}:(if true=true then x else y)=x:=rfl
theorem ite_ff {α:Type}{x y:α}:(if false=true then x else y)=y:=rfl
theorem RD {lo hi:Option Int}{x:D}(h:ZG lo hi x=.ok (.lst ds)):Wx lo hi x=.ok (.lst (ds.map .sh)):=by
 unfold ZG at h;unfold Wx;cases x with
 |lst xs=>dsimp only at h ⊢;injection h with h;injection h with h;rw[h]
 |_=>cases h
theorem Q4 (xs:List D)(k:Nat):Wx none (some (k:Int)) (.lst xs)=.ok (.lst ((xs.take k).map .sh)):=RD (W5 xs k)
theorem Wz (xs:List D)(k:Nat):Wx (some (k:Int)) none (.lst xs)=.ok (.lst ((xs.drop k).map .sh)):=RD (W9 xs k)
theorem YT (xs:List D)(a b:Nat):Wx (some (a:Int)) (some (b:Int)) (.lst xs)=.ok (.lst (((xs.drop a).take (b-a)).map .sh)):=RD (Yy xs a b)
theorem F6:Jy (.lst ds)=.ok (.lst (ds.map .sh)):=rfl
theorem F7:Jy (.tup ds)=.ok (.lst (ds.map .sh)):=rfl
theorem Dl {ns:List Int}:Wv [.lst (ns.map D.int)]=.ok (.int ns.sum):=by unfold Wv;dsimp only;rw[Dd]
theorem Dm {T:String}:II T (.lst ds)=.ok (.bl (Ec T (.lst ds))):=rfl
theorem Dn {T:String}:II T (.tup ds)=.ok (.bl (Ec T (.tup ds))):=rfl
theorem Dp {T:String}{k:Int}:II T (.int k)=.ok (.bl (Ec T (.int k))):=rfl
theorem Dq {T:String}:II T .AD=.ok (.bl (Ec T .AD)):=rfl
theorem F8 {T:String}{k:Bool}:II T (.bl k)=.ok (.bl (Ec T (.bl k))):=rfl
theorem Dr {T:String}{k:Str}:II T (.str k)=.ok (.bl (Ec T (.str k))):=rfl
theorem Ds {T:String}:II T (.B6 b ks vs)=.ok (.bl (Ec T (.B6 b ks vs))):=rfl
theorem Nw:Ec "list" (.lst ds)=true:=rfl
theorem Nx:Ec "tuple" (.tup ds)=true:=rfl
theorem Ny {k:Int}:Ec "int" (.int k)=true:=rfl
theorem Nz {k:Int}:Ec "bool" (.int k)=false:=rfl
theorem NA:Ec "dict" (.B6 b ks vs)=true:=rfl
theorem Dt {neg:Bool}{k:Int}{ns:List Int}:Kt neg (.int k) (.lst (ns.map D.int))=.ok (.bl (if neg then !ns.contains k else ns.contains k)):=by
 unfold Kt mM;dsimp only;rw[Dd]
noncomputable def vO (s:Option D):Option Cl:=s.map .val
theorem Ho {s:Option D}:G1 (vO s::ρ)=vO s::G1 ρ:=by cases s<;>rfl
end
noncomputable def RE (x:Int):List Int->List Int
 |[]=>[x]
 |y::r=>if x<=y then x::y::r else y::RE x r
noncomputable def FV:List Int->List Int
 |[]=>[]
 |x::r=>RE x (FV r)
theorem JD (x:Int):∀l:List Int,(RE x l).Perm (x::l)
 |[]=>.refl _
 |y::r=>by
  unfold RE;split
  ·exact .refl _
  ·exact ((JD x r).cons y).trans (.swap x y r)
theorem DK:∀l:List Int,(FV l).Perm l
 |[]=>.refl _
 |x::r=>(JD x (FV r)).trans ((DK r).cons x)
theorem Kd (x:Int):∀l:List Int,l.Pairwise (·<=·)->(RE x l).Pairwise (·<=·)
 |[],_=>by simp[RE]
 |y::r,h=>by
  unfold RE;have hy:=yl.mp h;split
  ·rename_i bO;exact yl.mpr ⟨λ z hz=>by
    rcases zp.mp hz with rfl|hz
    ·exact bO
    ·exact Int.le_trans bO (hy.1 z hz),h⟩
  ·rename_i bO;exact yl.mpr ⟨λ z hz=>by
    rcases zp.mp ((JD x r).mem_iff.mp hz) with rfl|hz
    ·omega
    ·exact hy.1 z hz,Kd x r hy.2⟩
theorem Fs:∀l:List Int,(FV l).Pairwise (·<=·)
 |[]=>.nil
 |x::r=>Kd x _ (Fs r)
theorem Gq:∀ {a b:List Int},a.Perm b->a.Pairwise (·<=·)->b.Pairwise (·<=·)->a=b
 |[],b,hp,_,_=>(List.nil_perm.mp hp).symm
 |x::r,[],hp,_,_=>by have:=hp.length_eq;simp at this
 |x::r,y::t,hp,ha,hb=>by
  have i7:=yl.mp ha;have a6:=yl.mp hb;have e:x=y:=by
   have h1:x∈y::t:=hp.mem_iff.mp (zd ..);have h2:y∈x::r:=hp.mem_iff.mpr (zd ..);rcases zp.mp h1 with e|h1
   ·exact e
   rcases zp.mp h2 with e|h2
   ·exact e.symm
   have:=i7.1 _ h2;have:=a6.1 _ h1;omega
  subst e;rw[Gq (List.Perm.cons_inv hp) i7.2 a6.2]
theorem J4:∀ {us:List Value}{ns:List Int},IntsAre us ns->Vals (ns.map V.int) us
 |_,_,.nil=>.nil
 |_,_,.cons n t h=>.cons ⟨t,rfl⟩ (J4 h)
theorem LJ {K:za}{H:Hp}:∀l:List Int,Ae K H (l.map V.int) (l.map D.int)
 |[]=>.nil
 |x::r=>.cons (.int _) (LJ r)
section
variable {X:Cx}{WX:Str->Hp->Prop}{c:Bool}{P0:Ea}{P:Addr->Prop}{H:Hp}{σ:St}{ρ:A9}{a b e:Expr}{f g:A9->M D}{fn:A9->M OT}{pos:Pos}{te:TE}
noncomputable def oR (X:Cx)(te:TE):TE:=λ σ H Q=>te σ H λ x H1=>∃p ns,x=.ref p/\D8 X.K H1 p (List.map V.int ns)/\ns.length<64/\∀r,H1 r=none->Q (.ref r) (upd H1 r (.lst ((FV ns).map V.int)))
theorem Uy {p:Pos}(hc:X.calm=true)(hg:Gl X "sorted")(hm:X.mg "sorted" = none)(he:PE X e te)
 (hv:bootBuiltins "sorted" = some (.builtin "sorted"):=by decide +kernel)
 (hs:starEach [e] X.env=[(false,eval e X.env)]:=by rfl):
 PE X (.Call (.Name "sorted" p) [e] [] pos) (oR X te):=by
 intro pins s σ H Q I h;refine wpAny_Call_Name_kw (Ek I hg hm hv ?_);refine PyProof.Rows.callWith_builtin1 ?_ hs;rw[hs];refine Calls.spliced_cons (B2 (he pins s σ H _ I h) λ u s1 ⟨x,H1,I1,r1,q1⟩=>?_);obtain⟨q,ns,rfl,hq,nv,h⟩:=q1;cases r1;refine Calls.spliced_nil ?_;obtain⟨aa,r',pl,hz⟩:=I1.list hq;have hi:=intsAre_of r';have sY:=r'.length;rw[ze] at sY;refine sorted_ints pl.isList hi (by omega) λ out c7 b1 b2 b3=>?_;obtain⟨c',a8⟩:=sortedAll_at s1.heap aa out;have e:c7=FV ns:=Gq (b2.trans (DK ns).symm) b3 (Fs ns);subst e;refine⟨.ref _,_,I1.laid (t':=s1.toks) (o:=.lst ((FV ns).map V.int)) (λ b o e=>sortedAll_old e) (Nat.le_succ _) ⟨?_,out.toList,c',J4 b1,by simpa using a8⟩,rfl,h _ (I1.Ao.fresh (Nat.le_succ _))⟩;rw[ze,(DK ns).length_eq];exact yj (AF (by omega))
noncomputable def YU (d:D):M OT:=match d with
 | .lst xs=>(match C5 xs with|some ns=>if ns.length<64 then .ok (.lst (((FV ns).map .int).map .sh)) else .bad|none=>.bad)
 |_=>.bad
theorem Uz {ns:List Int}(h:ns.length<64):YU (.lst (ns.map .int))=.ok (.lst (((FV ns).map .int).map .sh)):=by
 unfold YU;dsimp only;rw[Dd];dsimp only;rw[if_pos h]
theorem UA {p:Pos}(hc:X.calm=true)(hg:Gl X "sorted")(hm:X.mg "sorted" = none)(he:DE X WX true e f)
 (hv:bootBuiltins "sorted" = some (.builtin "sorted"):=by decide +kernel)
 (hs:starEach [e] X.env=[(false,eval e X.env)]:=by rfl):
 DN X WX (.Call (.Name "sorted" p) [e] [] pos) (λ ρ=>(f ρ).bind YU):=by
 obtain⟨te,e1,e2⟩:=he;refine⟨_,Uy hc hg hm e1 hv hs,λ P0 P σ H Q ρ E h=>?_⟩;refine e2 P0 P σ H _ ρ E ?_;dsimp only at h;cases q:f ρ with
 |bad|ex x=>rw[q] at h;exact h
 |ok d =>
  rw[q] at h;simp only[M.A6] at h;intro v H1 s1 hv;unfold YU at h;split at h
  ·rename_i xs;split at h
   ·rename_i ns eb;have:=Cy eb;subst this;split at h
    ·rename_i hl;cases hv with
     |lst hs hh =>
      have:=Cz hh;subst this;exact⟨_,ns,rfl,hs.Bj,hl,h.Jy s1 (LJ _)⟩
    ·exact h.elim
   ·exact h.elim
  ·exact h.elim
noncomputable def YV (d k:D):M OT:=match k with
 | .int j=>if 0<=j/\j.toNat<=1000 then .ok (.lst ((z0 j.toNat d).map .sh)) else .bad
 |_=>.bad
theorem WA {d:D}{n:Nat}(h:n<=1000):YV d (.int (n:Int))=.ok (.lst ((z0 n d).map .sh)):=by
 unfold YV;dsimp only;rw[if_pos ⟨by omega,by omega⟩,yk]
theorem fZ {nw:Pos}(ha:DE X WX true a f)(hb:DE X WX true b g)(aU:starEach [a] X.env=[(false,eval a X.env)]:=by rfl):
 DN X WX (.BinOp (.List [a] nw) .Mult b pos) (λ ρ=>(f ρ).bind λ d=>(g ρ).bind λ k=>YV d k):=by
 obtain⟨ta,a1,a2⟩:=ha;obtain⟨tb,b1,b2⟩:=hb;refine⟨_,Zy eO (R9 (Bl a1 Cs aU)) b1,λ P0 P σ H Q ρ E h=>?_⟩;dsimp only at h;refine a2 P0 P σ H _ ρ E ?_;cases q:f ρ with
 |bad|ex x=>rw[q] at h;exact h
 |ok d =>
  rw[q] at h;simp only[M.A6] at h;intro v H1 s1 hv;have E1:=E.same s1;refine⟨yj (AF (by simp)),λ p hp=>?_⟩;have s2:Ab H1 (upd H1 p (.lst [v])):=AG hp _;have E2:=E1.same s2;refine b2 P0 P σ _ _ ρ E2 ?_;cases q2:g ρ with
  |bad=>rw[q2] at h;exact h
  |ex x=>rw[q2] at h;exact λ H' s3=>h H' ((s1.trans s2).trans s3)
  |ok k =>
   rw[q2] at h;simp only[M.A6] at h;unfold YV at h;intro w H3 s3 hw;cases k with
   |int j =>
    dsimp only at h;by_cases hj:0<=j/\j.toNat<=1000
    ·rw[if_pos hj] at h;cases hw;refine⟨p,j,[v],rfl,rfl,s3 _ _ Ax,by omega,by omega,yj (AF (by simp;omega)),?_⟩;rw[Nh];exact h.Jy ((s1.trans s2).trans s3) (PH ((hv.mono s2.del).mono s3.del) j.toNat)
    ·rw[if_neg hj] at h;exact h.elim
   |_=>exact h.elim
end
noncomputable def YW (f:Str):List Str->List D->Option D
 |n::ns,d::ds=>if f==n then some d else YW f ns ds
 |_,_=>none
theorem Q5 {K:za}{H:Hp}{f:Str}:∀ {fs:List (Str×V)}{ds:List D}{d:D},Ae K H (fs.map y8) ds->YW f (fs.map zR) ds=some d->∃v,fs.lookup f=some v/\BB K H v d
 |[],ds,d,_,h=>by simp[YW] at h
 |(n,v)::fs,_,d,.cons hv ht,h=>by
  rw[zg,YW] at h;rw[yU];cases q:f==n with
  |true=>rw[q,if_pos rfl] at h;cases h;exact⟨v,rfl,hv⟩
  |false=>rw[q,if_neg (by simp)] at h;exact Q5 ht h
theorem LK {K:za}{H:Hp}{f:Str}:∀ {fs:List (Str×V)}{ds:List D},Ae K H (fs.map y8) ds->YW f (fs.map zR) ds=none->fs.lookup f=none
 |[],ds,_,h=>rfl
 |(n,v)::fs,_,.cons hv ht,h=>by
  rw[zg,YW] at h;rw[yU];cases q:f==n with
  |true=>rw[q,if_pos rfl] at h;cases h
  |false=>rw[q,if_neg (by simp)] at h;exact LK ht h
structure HA (K:za)(x f:Str):Prop where
 ex:∃C,zc K mainGlobals x=some (some (.ref C))/\TC K C/\HH K C f
noncomputable def LL (cs:List Str)(f:Str)(d:D):M D:=match d with
 | .ins x ns ds=>if x∈cs then (match YW f ns ds with|some e=>.ok e|none=>.bad) else .bad
 |_=>.bad
section
variable {X:Cx}{E:XK}{WX:Str->Hp->Prop}{c:Bool}{P0:Ea}{P:Addr->Prop}{H:Hp}{σ:St}{ρ:A9}{a b e:Expr}{es:List Expr}{f g:A9->M D}{fs:A9->M (List D)}{fn:A9->M OT}{pos:Pos}{te:TE}
theorem DL (cs:List Str){fl:Str}(ge:∀x∈cs,HA X.K x fl)(ha:DE X WX c a f)(hb:attributeBase a fl X.env (eval a X.env)=eval a X.env:=by rfl):DE X WX c (.Attribute a fl pos) (λ ρ=>(f ρ).bind (LL cs fl)):=by
 obtain⟨ta,a1,a2⟩:=ha;refine⟨_,eB a1 hb,λ P0 P σ H Q ρ E h=>?_⟩;dsimp only at h;refine a2 P0 P σ H _ ρ E ?_;cases e:f ρ with
 |bad|ex x=>rw[e] at h;exact h
 |ok d =>
  rw[e] at h;simp only[M.A6] at h;intro v H1 s1 hv;unfold LL at h;split at h
  ·rename_i x ns ds;split at h
   ·rename_i hx;split at h
    ·rename_i d' el;cases hv with
     |ins hn ha hl =>
      obtain⟨C,cr,hc,i8⟩:=(ge x hx).ex;rw[hn] at cr;cases cr;obtain⟨v',l1,l2⟩:=Q5 hl el;exact⟨_,_,_,_,v',rfl,(Am ha).2,hc,i8,l1,h v' H1 s1 l2⟩
    ·exact h.elim
   ·exact h.elim
  ·exact h.elim
structure LM (K:za)(x m qual:Str)(st:Stmt)(ps:List Str):Prop where
 ex:∃C f fd,zc K mainGlobals x=some (some (.ref C))/\TC K C/\Meth K C m f/\V9 K m qual st f fd/\Binds K fd ps []
structure Gr (P:Program)(w:World)(K:za)(mg:Str->Option Value)(base:Heap)(x m:Str)(k n:Nat)(F:List D->M OT):Prop where
 ex:∃C fa fd ps,zc K mainGlobals x=some (some (.ref C))/\TC K C/\Meth K C m fa/\CV P w K mg base (Ru P w base) k fa fd ps (spT K n F)/\Binds K fd ps []
theorem J5 {P:Program}{w:World}{K:za}{mg:Str->Option Value}{base:Heap}{x m qual:Str}{st:Stmt}{N ps:List Str}{k n:Nat}(T:LM K x m qual st ps)(S:Ag N ps (A3 st))(g:A9->M Out)
 (hb:∀(f:Addr) (B1:Value) (A:Around) (outer:List Env) (s:Shared) (H:Hp) (E:XK),Bq k (A.deeper (envOfC qual (A3 st) s.heap.objs.size f B1))->QS (Sy P w K mg base N qual (A3 st) f B1 A outer s H E) (CW K E) (As st) g) (hn:ps.length=n:=by rfl):
 Gr P w K mg base x m (k+1) n (λ ds=>Ud (g (AH N ds))):=by
 obtain⟨C,f,fd,h1,h2,h3,F,hB⟩:=T.ex;subst hn;exact⟨⟨C,f,fd,ps,h1,h2,h3,lA F S g (hb f),hB⟩⟩
noncomputable def mR (x:Str):List (Str×(List D->M OT))->Option (List D->M OT)
 |[]=>none
 |(y,F)::r=>if x=y then some F else mR x r
theorem SN {x:Str}{F:List D->M OT}:∀ {ms:List (Str×(List D->M OT))},mR x ms=some F->(x,F)∈ms
 |[],h=>by cases h
 |(y,G)::r,h=>by
  unfold mR at h;split at h
  ·rename_i e;cases h;subst e;exact zd
  ·exact zf _ (SN h)
noncomputable def Ku (ms:List (Str×(List D->M OT)))(m:Str)(d:D):M (List D->M OT):=match d with
 | .ins x ns es=>(match mR x ms with
  |some F=>(match YW m ns es with|none=>.ok F|some _=>.bad)
  |none=>.bad)
 |_=>.bad
theorem Q6 {ms:List (Str×(List D->M OT))}{m:Str}{d:D}{F:List D->M OT}(h:Ku ms m d=.ok F):∃x ns es,d=.ins x ns es/\(x,F)∈ms/\YW m ns es=none:=by
 unfold Ku at h;split at h
 ·rename_i x ns es;split at h
  ·rename_i G e;split at h
   ·rename_i e2;cases h;exact⟨x,ns,es,rfl,SN e,e2⟩
   ·cases h
  ·cases h
 ·cases h
theorem NC {ms:List (Str×(List D->M OT))}{m:Str}{d:D}{x:Str}:Ku ms m d≠.ex x:=λ h=>by
 unfold Ku at h;split at h
 ·split at h
  ·split at h<;>cases h
  ·cases h
 ·cases h
noncomputable def WB (X:Cx)(m:Str)(k:Nat)(E:XK)(ta:TE)(t:TA):TE:=λ σ H Q=>ta σ H λ x H1=>∃a C dx fs f fd ps n F,x=.ref a/\H1 a=some (.ins C dx fs)/\fs.lookup m=none/\TC X.K C/\Meth X.K C m f/\CV X.prog X.w X.K X.mg X.base (Ru X.prog X.w X.base) k f fd ps (spT X.K n F)/\Binds X.K fd ps []/\
 t σ H1 λ vs H2=>spT X.K n F (x::vs) H2 Q E
theorem WC {pl:Sem Bool}{o:Expr}{m:Str}{k:Nat}{ta:TE}{t:TA}{apos:Pos}(he:PE X o ta)(hr:Bq k X.A)(hx:G8 (Ru X.prog X.w X.base) X E)(ha:PA X (e::es) t)
 (aU:starEach (e::es) X.env=(false,eval e X.env)::starEach es X.env:=by rfl) (az:(backTo pos (starEach es X.env)).any (·.1)=false:=by rfl)
 (ht:eval (.Call (.Attribute o m apos) (e::es) [] pos) X.env=(do
  let ov <-eval o X.env
  standAt apos.atName
  let (f,first) <-holding [ov] (getMethod ov m pl)
  callWith pos f first (backTo pos (starEach (e::es) X.env)) (backToKw pos (keywordEach [] X.env))):=by rfl):
 PE X (.Call (.Attribute o m apos) (e::es) [] pos) (WB X m k E ta t):=by
 intro pins s σ H Q I h;refine PySem.W.methodCall_KW (pl:=pl) (B2 (he pins s σ H _ I h) λ u s1 ⟨x,H1,I1,rx,a,C,dx,fs,f,fd,ps,n,F,ex,ea,l,c,hm,hF,hb,q⟩=>?_) ht;subst ex;obtain rfl:u=zX a:=rx;refine L0 I1 ea c hm l ?_;refine PySem.W.callWith_K (first:=[.ref a]) (h₀:=X.base) I.ok.mod.Vi hm.kp (B2 (ha pos pins s1 σ H1 _ I1 q) λ us s2 ⟨vs,H2,I2,r,q2⟩=>⟨I2.Mx,?_⟩) aU az;exact Rb (us:=.ref a::us) (vs:=.ref a::vs) hF hr hb .nil hx I2 (.cons rfl r) (by rw[yc];exact q2)
theorem UB {pl:Sem Bool}{o:Expr}{m:Str}{k:Nat}{ta:TE}{apos:Pos}(he:PE X o ta)(hr:Bq k X.A)(hx:G8 (Ru X.prog X.w X.base) X E)
 (ht:eval (.Call (.Attribute o m apos) [] [] pos) X.env=(do
  let ov <-eval o X.env
  standAt apos.atName
  let (f,first) <-holding [ov] (getMethod ov m pl)
  callWith pos f first (backTo pos (starEach [] X.env)) (backToKw pos (keywordEach [] X.env))):=by rfl):
 PE X (.Call (.Attribute o m apos) [] [] pos) (WB X m k E ta eE):=by
 intro pins s σ H Q I h;refine PySem.W.methodCall_KW (pl:=pl) (B2 (he pins s σ H _ I h) λ u s1 ⟨x,H1,I1,rx,a,C,dx,fs,f,fd,ps,n,F,ex,ea,l,c,hm,hF,hb,q⟩=>?_) ht;subst ex;obtain rfl:u=zX a:=rx;refine L0 I1 ea c hm l ?_;exact PySem.W.callWith_K0 (first:=[.ref a]) I1.Mx hm.kp (Rb (us:=[.ref a]) (vs:=[.ref a]) hF hr hb .nil hx I1 (.cons rfl .nil) q)
theorem SO {P:Program}{w:World}{K:za}{mg:Str->Option Value}{base:Heap}{CX:Si}{k k':Nat}{f:Addr}{fd:FuncData}{ps:List Str}{sp:Sp}(h:k<=k')(F:CV P w K mg base CX k f fd ps sp):CV P w K mg base CX k' f fd ps sp:=
 ⟨F.len,λ A stack s H args us vs Q E hr=>F.run A stack s H args us vs Q E (hr.mono h)⟩
theorem SQ {o:Expr}{fo:A9->M D}{m:Str}{k n:Nat}{apos:Pos}{pl:Sem Bool}(ms:List (Str×(List D->M OT)))(xo:XCall X E)(ny:∀p∈ms,∃k',k'<=k/\Gr X.prog X.w X.K X.mg X.base p.1 m k' n p.2)(hr:Bq k X.A)(ho:DE X (CW X.K E) true o fo)(ha:DA X (CW X.K E) true (e::es) fs)(bD:(e::es).length+1=n)
 (aU:starEach (e::es) X.env=(false,eval e X.env)::starEach es X.env:=by rfl) (az:(backTo pos (starEach es X.env)).any (·.1)=false:=by rfl)
 (ht:eval (.Call (.Attribute o m apos) (e::es) [] pos) X.env=(do
  let ov <-eval o X.env
  standAt apos.atName
  let (f,first) <-holding [ov] (getMethod ov m pl)
  callWith pos f first (backTo pos (starEach (e::es) X.env)) (backToKw pos (keywordEach [] X.env))):=by rfl):
 DN X (CW X.K E) (.Call (.Attribute o m apos) (e::es) [] pos) (λ ρ=>(fo ρ).bind λ d=>(Ku ms m d).bind λ F=>(fs ρ).bind λ ds=>F (d::ds)):=by
 obtain⟨ta,a1,a2⟩:=ho;obtain⟨tb,b1,b2,b3⟩:=ha;refine⟨_,WC (pl:=pl) a1 hr xo.call b1 aU az ht,λ P0 P σ H Q ρ Ev h=>?_⟩;dsimp only at h;refine a2 P0 P σ H _ ρ Ev ?_;cases q:fo ρ with
 |bad|ex x=>rw[q] at h;exact h
 |ok d =>
  rw[q] at h;simp only[M.A6] at h;intro v H1 s1 hv;cases q2:Ku ms m d with
  |bad=>rw[q2] at h;exact h.elim
  |ex y=>exact (NC q2).elim
  |ok F =>
   rw[q2] at h;simp only[M.A6] at h;obtain⟨x,ns,sZ,rfl,aN,gf⟩:=Q6 q2;obtain⟨k',dq,M0⟩:=ny _ aN;obtain⟨C,fa,fd,ps,h1,h2,h3,h4,h5⟩:=M0.ex;cases hv with
   |ins hn hH hl =>
    rw[hn] at h1;cases h1;refine⟨_,_,_,_,fa,fd,ps,n,F,rfl,(Am hH).2,LK hl gf,h2,h3,SO dq h4,h5,?_⟩;refine b2 P0 P σ H1 _ ρ (Ev.same s1) ?_;cases q3:fs ρ with
    |bad=>rw[q3] at h;exact h
    |ex y=>rw[q3] at h;exact λ H' s=>h H' (s1.trans s)
    |ok ds =>
     rw[q3] at h;simp only[M.A6] at h;intro vs H2 s2 aM;have i9:=(BB.ins hn hH hl).mono s2.del;exact⟨by rw[zo,aM.length,b3 ρ ds q3];exact bD,P,_,((Ev.same s1).same s2).C4,.cons i9 aM,h.same (s1.trans s2)⟩
theorem LN {o:Expr}{fo:A9->M D}{m:Str}{k:Nat}{apos:Pos}{pl:Sem Bool}(ms:List (Str×(List D->M OT)))(xo:XCall X E)(ny:∀p∈ms,∃k',k'<=k/\Gr X.prog X.w X.K X.mg X.base p.1 m k' 1 p.2)(hr:Bq k X.A)(ho:DE X (CW X.K E) true o fo)
 (ht:eval (.Call (.Attribute o m apos) [] [] pos) X.env=(do
  let ov <-eval o X.env
  standAt apos.atName
  let (f,first) <-holding [ov] (getMethod ov m pl)
  callWith pos f first (backTo pos (starEach [] X.env)) (backToKw pos (keywordEach [] X.env))):=by rfl):
 DN X (CW X.K E) (.Call (.Attribute o m apos) [] [] pos) (λ ρ=>(fo ρ).bind λ d=>(Ku ms m d).bind λ F=>F [d]):=by
 obtain⟨ta,a1,a2⟩:=ho;refine⟨_,UB (pl:=pl) a1 hr xo.call ht,λ P0 P σ H Q ρ Ev h=>?_⟩;dsimp only at h;refine a2 P0 P σ H _ ρ Ev ?_;cases q:fo ρ with
 |bad|ex x=>rw[q] at h;exact h
 |ok d =>
  rw[q] at h;simp only[M.A6] at h;intro v H1 s1 hv;cases q2:Ku ms m d with
  |bad=>rw[q2] at h;exact h.elim
  |ex y=>exact (NC q2).elim
  |ok F =>
   rw[q2] at h;simp only[M.A6] at h;obtain⟨x,ns,sZ,rfl,aN,gf⟩:=Q6 q2;obtain⟨k',dq,M0⟩:=ny _ aN;obtain⟨C,fa,fd,ps,h1,h2,h3,h4,h5⟩:=M0.ex;cases hv with
   |ins hn hH hl =>
    rw[hn] at h1;cases h1;refine⟨_,_,_,_,fa,fd,ps,1,F,rfl,(Am hH).2,LK hl gf,h2,h3,SO dq h4,h5,?_⟩;exact⟨rfl,P,_,(Ev.same s1).C4,.cons (BB.ins hn hH hl) .nil,h.same s1⟩
end
section
variable {X:Cx}{E:XK}{WX:Str->Hp->Prop}{c:Bool}{P0:Ea}{P:Addr->Prop}{H:Hp}{σ:St}{ρ:A9}{a b e:Expr}{es:List Expr}{f g:A9->M D}{fs:A9->M (List D)}{fn:A9->M OT}{pos:Pos}{te:TE}
structure gB (K:za)(mg:Str->Option Value)(x:Str)(C:Addr):Prop where
 ns:zc K mainGlobals x=some (some (.ref C))
 tD:mg x=some (.ref C)
theorem UC {p dx C:Addr}(hp:H p=none)(hd:H dx=none):Ab H (upd (upd H dx (.own p)) p (.ins C dx [])):=λ b u q=>by
 rw[Al (Av q hp),Al (Av q hd)];exact q
structure lJ (P:Program)(w:World)(K:za)(mg:Str->Option Value)(base:Heap)(x:Str)(k n:Nat)(F:OT->List D->M (OT×OT)):Prop where
 ex:∃C fa fd ps,gB K mg x C/\Mk K C fa/\CV P w K mg base (Ru P w base) k fa fd ps (Nn K n F)/\Binds K fd ps []
noncomputable def WD (m:M (OT×OT)):M OT:=match m with
 | .ok (t,.sh .AD)=>.ok t
 |_=>.bad
theorem YX {x:Str}{k n:Nat}{F:OT->List D->M (OT×OT)}{p:Pos}(xo:XCall X E)(G:lJ X.prog X.w X.K X.mg X.base x k n F)(hr:Bq (k+1) X.A)(hg:Gl X x)(ha:DA X (CW X.K E) true (e::es) fs)(bD:(e::es).length+1=n)
 (aT:(x==("__debug__" : Str))=false:=by decide) (he:starEach (e::es) X.env=(false,eval e X.env)::starEach es X.env:=by rfl) (az:(backTo pos (starEach es X.env)).any (·.1)=false:=by rfl):
 DN X (CW X.K E) (.Call (.Name x p) (e::es) [] pos) (λ ρ=>(fs ρ).bind λ ds=>WD (F (.ins x [] []) ds)):=by
 obtain⟨C,fa,fd,ps,hT,hM,hF,hb⟩:=G.ex;obtain⟨ta,a1,a2,a3⟩:=ha;refine⟨_,XW hM hF hr hg hT.tD hb .nil xo.call a1 aT he az,λ P0 P σ H Q ρ Ev h=>?_⟩;dsimp only at h;refine a2 P0 P σ H _ ρ Ev ?_;cases q:fs ρ with
 |bad|ex x=>rw[q] at h;exact h
 |ok ds =>
  rw[q] at h;simp only[M.A6] at h;intro vs H1 s1 aM y dx hy hd ad;rw[yc];have E1:=Ev.same s1;have sm:=UC (C:=C) hy hd;have bQ:∀a∈[y],H1 a=none:=λ a ha=>by rw[zu.mp ha];exact hy
  refine⟨by rw[zo,aM.length,a3 ρ ds q];exact bD,PU P [y],y,.ins x [] [],[y],vs,ds,rfl,λ a ha=>?_,λ a ha=>.inr ha,by simp,BC.ins (fs:=[]) hT.ns Ax .nil,aM.mono (CN sm bQ),?_⟩
  ·rcases ha with ha|ha
   ·exact (E1.C4 a ha).same sm
   ·rw[zu.mp ha];exact⟨_,Ax,λ xs=>⟨(λ z=>by cases z),(λ z w=>by cases w)⟩⟩
  ·cases q2:F (.ins x [] []) ds with
   |bad|ex z=>rw[q2] at h;exact h
   |ok tr =>
    obtain⟨t,r⟩:=tr;rw[q2] at h;simp only[WD] at h;intro v H' P' ah fr k1 k2 k3 k4 k5 k6 k7 k8 k9 qU;cases r with
    |sh d =>
     cases d with
     |AD =>
      cases k6 with
      |sh hv =>
       cases hv;refine⟨rfl,h _ ah H' ?_ ?_ k5 ?_⟩
       ·intro b u eb;have e1:=s1 b u eb;have gh:b≠y:=λ z=>by rw[z,hy] at e1;cases e1
        have e2:=sm b u e1;by_cases hP:P b
        ·exact (k1 b (.inl hP) (by simp[gh])).2.trans e2
        ·exact (Am (k3 b u (by rw[AA λ z=>z.elim hP λ w=>gh (zu.mp w)];exact e2))).2
       ·intro b rb;cases eb:H b with
        |none=>rfl
        |some u =>
         exfalso;have e1:=s1 b u eb;have gh:b≠y:=λ z=>by rw[z,hy] at e1;cases e1
         have e2:=sm b u e1;have hn:=λ z=>gh (zu.mp ((k9 b rb).2 z));exact (Am (k3 b u (by rw[AA hn];exact e2))).1 (k9 b rb).1
       ·refine k4.move (λ b u eb=>?_) λ _ _=>rfl;obtain⟨g1,g2⟩:=Am eb;rw[AA]
        ·exact g2
        ·rintro (z|z)
         ·have gh:b≠y:=λ w=>by
           obtain⟨o,e1,_⟩:=E1.C4 b z;rw[w,hy] at e1;cases e1
          exact g1 (k1 b (.inl z) (by simp[gh])).1
         ·exact g1 (k9 b z).1
     |_=>exact h.elim
    |_=>exact h.elim
end
noncomputable def ND (i:Nat)(ρ:A9)(π:List Nat):M (Str×List Str×List D):=match SE i ρ π with
 |some (.ins x ns ts)=>(match DD ts with|some vs=>.ok (x,ns,vs)|none=>.bad)
 |_=>.bad
theorem WE {i:Nat}{ρ:A9}{π:List Nat}{x:Str}(h:ND i ρ π=.ex x):False:=by
 unfold ND at h;split at h
 ·split at h<;>cases h
 ·cases h
noncomputable def WG (f:Str):List Str->List Str
 |[]=>[f]
 |g::r=>if g=f then g::r else g::WG f r
noncomputable def WH (f:Str)(d:D):List Str->List D->List D
 |[],_=>[d]
 |g::r,e::t=>if g=f then d::t else e::WH f d r t
 |_::_,[]=>[]
theorem Q7 (f:Str)(v:V):∀fs:List (Str×V),(Dx f v fs).map zR=WG f (fs.map zR)
 |[]=>rfl
 |(g,x)::r=>by
  rw[zg,WG,Dx];split
  ·rfl
  ·rw[zg,Q7 f v r]
theorem Q8 {K:za}{H:Hp}{f:Str}{v:V}{d:D}(hv:BB K H v d):∀ {fs:List (Str×V)}{ds:List D},Ae K H (fs.map y8) ds->Ae K H ((Dx f v fs).map y8) (WH f d (fs.map zR) ds)
 |[],_,.nil=>.cons hv .nil
 |(g,x)::r,_,.cons hx ht=>by
  rw[zg,WH,Dx];split
  ·exact .cons hv ht
  ·exact .cons hx (Q8 hv ht)
section
variable {X:Cx}{E:XK}{WX:Str->Hp->Prop}{c:Bool}{P0:Ea}{P:Addr->Prop}{H:Hp}{σ:St}{ρ:A9}{a b e:Expr}{f g:A9->M D}{fn:A9->M OT}{fp:A9->M (List Nat)}{pos:Pos}{i:Nat}{es:List Expr}{fs:A9->M (List D)}
theorem Ba.ins {K:za}{π:List Nat}{v:V}{t1:OT}{x:Str}{ns:List Str}{vs:List D}(pl:Ba K P H σ ρ i π v t1)(E:Ai K P0 P H σ ρ)(h:ND i ρ π=.ok (x,ns,vs)):
 t1=.ins x ns (vs.map .sh)/\∃l C dx fs,v=.ref l/\Ae K (del H P) (fs.map y8) vs/\BC K H P (.ref l) (.ins x ns (vs.map .sh)) [l]/\zc K mainGlobals x=some (some (.ref C))/\H l=some (.ins C dx fs)/\ns=fs.map zR:=by
 unfold ND at h;rw[pl.at] at h;split at h
 ·rename_i x' c7 qT e;split at h
  ·rename_i bR e';cases e;cases h;have z:=CB e';subst z;obtain⟨ay,o1,hp,nd⟩:=pl.own E;generalize ht:OT.ins x ns (vs.map .sh)=t at o1;cases o1 with
   |ins hn hh hr =>
    injection ht with h1 h2 h3
    subst h1 h2 h3;obtain⟨rfl,hs⟩:=hr.fM;exact⟨rfl,_,_,_,_,rfl,hs,.ins hn hh hr,hn,hh,rfl⟩
   |_=>cases ht
  ·cases h
 ·cases h
theorem KQ (cs:List Str){fl:Str}(ge:∀x∈cs,HA X.K x fl)(ha:DP X WX a i fp)(hv:DE X WX true e f){pos':Pos}(hs:swapsWith e (some (.Attribute a fl pos')) pos.line X.env=pure false:=by rfl):
 DS X WX (.Assign [.Attribute a fl pos'] e pos) (λ ρ=>(f ρ).bind λ v=>(fp ρ).bind λ π=>(ND i ρ π).bind λ z=>if z.1∈cs/\z.2.1.length<1000 then HX i ρ π (.ins z.1 (WG fl z.2.1) ((WH fl v z.2.1 z.2.2).map .sh)) else .bad):=by
 obtain⟨ta,a1,a2⟩:=ha;obtain⟨tv,v1,v2⟩:=hv;refine⟨_,eC a1 v1 hs,λ P0 P σ H Z ρ E h=>?_⟩;dsimp only at h;refine v2 P0 P σ H _ ρ E ?_;cases q0:f ρ with
 |bad=>rw[q0] at h;exact h
 |ex x=>rw[q0] at h;exact λ H' s=>h H' P (E.tr s)
 |ok d =>
  rw[q0] at h;simp only[M.A6] at h;intro w H0 s0 hw;have E0:=E.same s0;refine a2 P0 P σ H0 _ ρ E0 ?_;cases q:fp ρ with
  |bad=>rw[q] at h;exact h
  |ex x=>rw[q] at h;exact λ H' s=>h H' P ((E.tr s0).trans (E0.tr s))
  |ok π =>
   rw[q] at h;simp only[M.A6] at h;intro v t1 H1 s1 pl;have E1:=E0.same s1;have tj:=(E.tr s0).trans (E0.tr s1);cases q3:ND i ρ π with
   |bad=>rw[q3] at h;exact h.elim
   |ex x=>exact (WE q3).elim
   |ok z =>
    obtain⟨x,ns,vs⟩:=z;rw[q3] at h;simp only[M.A6] at h;by_cases hc:x∈cs/\ns.length<1000
    ·rw[if_pos hc] at h;obtain⟨rfl,l,C,dx,fs,rfl,bN,ot,hn,hH,rfl⟩:=pl.ins E1 q3;obtain⟨C',cr,cD,i8⟩:=(ge x hc.1).ex;rw[hn] at cr;cases cr;have tm:=hw.mono s1.del;obtain⟨c,p,t0,g1,g2,E3,t3⟩:=E1.fT (o':=.ins C dx (Dx fl w fs)) (u:=.ins x (WG fl (fs.map zR)) ((WH fl d (fs.map zR) vs).map .sh)) pl ot (λ _=>⟨λ z=>(by cases z),λ _ z=>by cases z⟩) (λ mv=>by
      have:=BC.ins (K:=X.K) (H:=upd H1 l (.ins C dx (Dx fl w fs))) (P:=P) (p:=l) (fs:=Dx fl w fs) (x:=x) hn Ax (((Q8 tm bN).mono mv).ows);rw[Q7] at this;exact this)
     rw[J2 g1 g2] at h;exact⟨l,C,dx,fs,rfl,hH,cD,i8,by have:=hc.2;rw[ze] at this;exact this,h _ _ _ (tj.trans t3) E3⟩
    ·rw[if_neg hc] at h;exact h.elim
end
theorem Bt {K:za}{f:Str}:∀y∈([]:List Str),HA K y f:=λ y h=>by cases h
theorem B4 {K:za}{f x:Str}{xs:List Str}(h:HA K x f)(t:∀y∈xs,HA K y f):∀y∈x::xs,HA K y f:=λ y hy=>by
 rcases zp.mp hy with rfl|hy
 ·exact h
 ·exact t y hy
theorem J6 {P:Program}{w:World}{K:za}{mg:Str->Option Value}{base:Heap}{m:Str}{k n:Nat}:∀p∈([]:List (Str×(List D->M OT))),∃k',k'<=k/\Gr P w K mg base p.1 m k' n p.2:=λ p h=>by cases h
theorem Gs {P:Program}{w:World}{K:za}{mg:Str->Option Value}{base:Heap}{m x:Str}{k k' n:Nat}{F:List D->M OT}{ms:List (Str×(List D->M OT))}(hk:k'<=k)(h:Gr P w K mg base x m k' n F)(t:∀p∈ms,∃k',k'<=k/\Gr P w K mg base p.1 m k' n p.2):
 ∀p∈(x,F)::ms,∃k',k'<=k/\Gr P w K mg base p.1 m k' n p.2:=λ p hp=>by
 rcases zp.mp hp with rfl|hp
 ·exact⟨k',hk,h⟩
 ·exact t p hp
end L2
set_option maxRecDepth 1000000
set_option maxHeartbeats 0
namespace L2
open PySem PySem.Spec PySem.Calls PyProof.Rows PySem.W PySem.Builtin PySem.Builtin.ObjectAttr
section
variable {prog:Program}{w:World}{A:Around}{E:Value->Shared->Prop}{s:Shared}
theorem call_meets {T id:String}{nm:Str}{B:Builtin}{self:Value}{rest:List Value}{Sp:PySem.Spec}{Q:Value->Shared->Prop}(SL:Slot T nm id)(hB:entryFor table id=some B)(ht:s.TypeIs self T)(ha:argsOk id ⟨self::rest,[]⟩)(m:Meets (B ⟨self::rest,[]⟩) Sp)
 (h:Sp A (λ r s'=>match r with | .ok (.ret v)=>Q v s' | .ok _=>False | .error e=>E e s') s):wpAny (model prog w) A (call (.builtin id) (self::rest)) Q E s:=
 wpAny_call (codeAny_call_builtin SL.plain hB (SL.check _ _ _ _ _ _ _ _ ht ha (m prog w A _ s h)))
end
open PySem PySem.Spec PyProof.Rows
section
variable {X:Cx}{WX:Str->Hp->Prop}{c:Bool}{P0:Ea}{P:Addr->Prop}{H:Hp}{σ:St}{ρ:A9}{a b e:Expr}{f g:A9->M D}{fn:A9->M OT}{pos:Pos}{te:TE}
noncomputable def WI (x y:D):M D:=match x,y with
 | .tup xs,.tup ys=>(match C5 xs,C5 ys with|some ns,some ms=>.ok (.bl (HT.lexLt ns ms))|_,_=>.bad)
 |_,_=>.bad
theorem SR:Sv X.K WX (kC X.K) WI:=by
 intro P H x y v w Q ht hx hy h;unfold WI at h;split at h
 ·rename_i xs ys;split at h
  ·rename_i ns ms e1 e2;have:=Cy e1;subst this;have:=Cy e2;subst this;cases hx with
   |tup h1 h2 =>
    cases hy with
    |tup h3 h4 =>
     have:=Cz h2;subst this;have:=Cz h4;subst this;exact⟨_,_,ns,ms,rfl,rfl,El.of (Am h1).2,El.of (Am h3).2,h _ H (Ab.refl H) (.bl _)⟩
  ·exact h.elim
 ·exact h.elim
theorem oS {n:Nat}(hu:X.A.units+n<cLine)(ha:DE X WX c a f)(hb:DE X WX c b g):DE X WX c (.Compare a [.Lt] [b] pos) (λ ρ=>(f ρ).bind λ x=>(g ρ).bind λ y=>WI x y):=VS (VF (by omega)) SR ha hb (Jh _)
theorem RF {n:Nat}(hu:X.A.units+n<cLine)(ha:DE X WX c a f)(hb:DE X WX c b g):DT X WX (.Compare a [.Lt] [b] pos) (λ ρ=>((f ρ).bind λ x=>(g ρ).bind λ y=>WI x y).bind MH):=GW (VF (by omega)) SR ha hb (Jh _)
theorem WJ (hk:DE X WX true a f)(hv:DE X WX true b g):DN X WX (.Dict [some a] [b] pos) (λ ρ=>(f ρ).bind λ k=>(g ρ).bind λ v=>if keyOk false k=true then .ok (.B6 false [k] [.sh v]) else .bad):=by
 obtain⟨tk,k1,k2⟩:=hk;obtain⟨tv,v1,v2⟩:=hv;refine⟨_,Yd (VN k1 v1 Yc) rfl rfl (by simp) (by simp),λ P0 P σ H Q ρ E h p hp=>?_⟩;dsimp only at h;have hn:∀a∈[p],H a=none:=λ a ha=>by rw[zu.mp ha];exact hp
 have s0:Ab H (upd H p (.dK [])):=AG hp _;have E1:Ai X.K P0 (PU P [p]) (upd H p (.dK [])) σ ρ:=E.more s0 Jw (λ a ha=>ha.elim (λ z=>(E.C4 a z).same s0) λ z=>by
  rw[zu.mp z];exact⟨_,Ax,λ _=>⟨λ z=>(by cases z),λ _ z=>by cases z⟩⟩) (CN s0 hn)
 refine k2 P0 (PU P [p]) σ _ _ ρ E1 ?_;cases q:f ρ with
 |bad=>rw[q] at h;exact h
 |ex x=>rw[q] at h;exact λ H' s=>h H' (s0.trans s)
 |ok k =>
  rw[q] at h;simp only[M.A6] at h;intro y H2 s2 hy;have E2:=E1.same s2;refine v2 P0 (PU P [p]) σ H2 _ ρ E2 ?_;cases q2:g ρ with
  |bad=>rw[q2] at h;exact h
  |ex x=>rw[q2] at h;exact λ H' s=>h H' ((s0.trans s2).trans s)
  |ok d =>
   rw[q2] at h;simp only[M.A6] at h;intro w H3 s3 hw;by_cases hc:keyOk false k=true
   ·rw[if_pos hc] at h;have hK:=IW hc;cases hK with
    |k κ =>
     have ey:=hy.fP;subst ey;refine⟨s3 _ _ (s2 _ _ Ax),[(κ,w)],rfl,by simp,?_⟩;have s4:Ab H (upd H3 p (.dK (Gb [] [(κ,w)]))):=λ a o ha=>by
      rw[Al (λ z=>by rw[z,hp] at ha;cases ha)];exact s3 _ _ (s2 _ _ (s0 _ _ ha))
     have s5:Ab (del H3 (PU P [p])) (del (upd H3 p (.dK (Gb [] [(κ,w)]))) (PU P [p])):=λ a o ha=>by
      obtain⟨n1,n2⟩:=Am ha;rw[AA n1,Al (λ z=>n1 (.inr (by rw[z];exact zu.mpr rfl)))];exact n2
     refine h _ [p] _ s4 hn (by simp) ?_;have e1:Gb [] [(κ,w)]=[(κ,w)]:=rfl;rw[e1] at s5 ⊢;exact .dK (kvs:=[(κ,w)]) Ax (.cons (.sh (hw.mono s5)) .nil)
   ·rw[if_neg hc] at h;exact h.elim
end
structure gC (K:za)(x qual:Str)(st:Stmt)(f:Addr)(fd:FuncData):Prop where
 ex:∃(oc:Value) (od:Option Addr) (dV kV doc pm:Value) (an:Option Addr) (B1 ct:Value) (QR:Array (Option Value)),
  fd=zP x qual (AI st) (As st) (A3 st) dV kV doc pm an B1 ct/\K.lookup f=some ⟨oc,od,.func fd,QR⟩/\yb K B1 qual=true
 kp:zN K (.ref f)=true
section
variable {P:Program}{w:World}{K:za}{mg:Str->Option Value}{base:Heap}
theorem YY {x qual:Str}{st:Stmt}{f:Addr}{fd:FuncData}{N ps:List Str}{k:Nat}(F:gC K x qual st f fd)(S:Ag N ps (A3 st))(g:A9->M Out)
 (hb:∀(B1:Value) (A:Around) (outer:List Env) (s:Shared) (H:Hp) (E:XK),Bq k (A.deeper (envOfC qual (A3 st) s.heap.objs.size f B1))->QS (Sy P w K mg base N qual (A3 st) f B1 A outer s H E) (CW K E) (As st) g):
 CV P w K mg base (Ru P w base) (k+1) f fd ps (Nn K ps.length λ t av=>DH (g (Cb N t av))):=by
 obtain⟨oc,od,dV,kV,doc,pm,an,B1,ct,QR,rfl,lk,bd⟩:=F.ex;refine Sk lk bd S (λ vs H Q E h=>h.1) λ A outer s H vs Q E hr h=>?_;obtain⟨hl,P',p,t,fp,rest,av,rfl,ht,hp,nd,ho,hv,hq⟩:=h;obtain⟨tt,h1,h2⟩:=hb B1 A outer s H E hr;refine⟨tt,h1,h2 ⟨λ a=>P' a/\a∉fp,λ _=>p⟩ P' _ H _ _ (J0 ht hp nd ho hv) ?_⟩;dsimp only at hq;revert hq;cases g (Cb N t av) with
 |bad|ex x=>exact λ h=>h.elim
 |ok o =>
  have sub:∀ {P2:Addr->Prop} {H2:Hp} {σ2:St} {ρ:A9},Ai K ⟨λ a=>P' a/\a∉fp,λ _=>p⟩ P2 H2 σ2 ρ->∀a,P2 a/\¬ (P' a/\a∉fp)->P2 a/\(P' a->a∈fp):=λ E a ha=>⟨ha.1,λ z=>Classical.byContradiction λ w=>ha.2 ⟨z,w⟩⟩;cases o with
  |ret d|BZ d=>exact λ h=>h.elim
  |next ρ =>
   intro hq σ' H' P2 t2 E2;unfold DH at hq;dsimp only at hq;split at hq
   ·rename_i t' e;obtain⟨c,ah,k1,k2,k3,k4,k5,k6⟩:=KL E2 e;exact hq .AD H' P2 ah [] (λ a ha hn=>⟨E2.sub a ⟨ha,hn⟩,t2.2 a ⟨ha,hn⟩⟩) E2.C4 t2.1 k4 k5 (.sh .AD) yy (λ a ha=>by cases ha) (λ a ha=>sub E2 a (k6 a ha)) (λ a ha=>by cases ha)
   ·exact hq.elim
  |Ed r ρ =>
   intro hq v fr σ' H' P2 t2 E2 o2 bg hf;unfold DH at hq;dsimp only at hq;split at hq
   ·rename_i t' e;obtain⟨c,ah,k1,k2,k3,k4,k5,k6⟩:=KL E2 e;exact hq v H' P2 ah fr (λ a ha hn=>⟨E2.sub a ⟨ha,hn⟩,t2.2 a ⟨ha,hn⟩⟩) E2.C4 t2.1 k4 k5 o2 bg (λ a ha=>(hf a ha).2.2 0 c _ ah k1 k2 k3) (λ a ha=>sub E2 a (k6 a ha)) (λ a ha=>sub E2 a ⟨(hf a ha).1,(hf a ha).2.1⟩)
   ·exact hq.elim
  |brk ρ|cont ρ=>exact λ h=>h.elim
end
theorem YZ {K:za}{x qual:Str}{st:Stmt}{f:Addr}{oc:Value}{od an:Option Addr}{QR:Array (Option Value)}{dV kV doc pm B1 ct:Value}(l:K.lookup f=some ⟨oc,od,.func (zP x qual (AI st) (As st) (A3 st) dV kV doc pm an B1 ct),QR⟩)
 (c:yb K B1 qual=true) (k:zN K (.ref f)=true):gC K x qual st f (zP x qual (AI st) (As st) (A3 st) dV kV doc pm an B1 ct):=⟨⟨oc,od,dV,kV,doc,pm,an,B1,ct,QR,rfl,l,c⟩,k⟩
structure Q9 (P:Program)(w:World)(K:za)(mg:Str->Option Value)(base:Heap)(x:Str)(k n:Nat)(F:OT->List D->M (OT×OT)):Prop where
 ex:∃C fa fd ps,gB K mg x C/\Mk K C fa/\CV P w K mg base (Ru P w base) k fa fd ps (Nn K n F)/\Binds K fd ps []/\Binds K fd ps [.none]
theorem Q9.tE {P:Program}{w:World}{K:za}{mg:Str->Option Value}{base:Heap}{x:Str}{k n:Nat}{F:OT->List D->M (OT×OT)}(G:Q9 P w K mg base x k n F):lJ P w K mg base x k n F:=by
 obtain⟨C,fa,fd,ps,h1,h2,h3,h4,_⟩:=G.ex;exact⟨⟨C,fa,fd,ps,h1,h2,h3,h4⟩⟩
structure RG (K:za)(mg:Str->Option Value)(x qual:Str)(st:Stmt)(ps:List Str):Prop where
 ex:∃C f fd,gB K mg x C/\Mk K C f/\gC K "__init__" qual st f fd/\Binds K fd ps []/\Binds K fd ps [.none]
theorem WK {P:Program}{w:World}{K:za}{mg:Str->Option Value}{base:Heap}{x qual:Str}{st:Stmt}{N ps:List Str}{k n:Nat}(T:RG K mg x qual st ps)(S:Ag N ps (A3 st))(g:A9->M Out)
 (hb:∀(f:Addr) (B1:Value) (A:Around) (outer:List Env) (s:Shared) (H:Hp) (E:XK),Bq k (A.deeper (envOfC qual (A3 st) s.heap.objs.size f B1))->QS (Sy P w K mg base N qual (A3 st) f B1 A outer s H E) (CW K E) (As st) g) (hn:ps.length=n:=by rfl):
 Q9 P w K mg base x (k+1) n (λ t av=>DH (g (Cb N t av))):=by
 obtain⟨C,f,fd,h1,h2,F,hB⟩:=T.ex;subst hn;exact⟨⟨C,f,fd,ps,h1,h2,YY F S g (hb f),hB⟩⟩
theorem Be {K:za}{mg:Str->Option Value}{h:Heap}{x:Str}{st:Stmt}{ps:List Str}(X:K.In h)(G:h.Ns mainGlobals mg)(p:FP K x st)(hb:∀(kV dc pm:Value) (an:Option Addr) (cd ct:Value) (us:List Value),us.length=ps.length->bindArgs (zP x x (AI st) (As st) (A3 st) .none kV dc pm an cd ct) ⟨us,[]⟩=pure (ps.zip us):=by first | exact (λ _ _ _ _ _ _ us hl=>match us,hl with | [_],_=>rfl) | exact (λ _ _ _ _ _ _ us hl=>match us,hl with | [_,_],_=>rfl) | exact (λ _ _ _ _ _ _ us hl=>match us,hl with | [_,_,_],_=>rfl) | exact (λ _ _ _ _ _ _ us hl=>match us,hl with | [_,_,_,_],_=>rfl)):AX K mg x st ps:=by
 obtain⟨f,oc,od,an,sl,kV,dc,pm,cd,ct,a,l,c,k⟩:=p.ex;have F:=Ri (st:=st) l c k;exact⟨⟨_,_,F,PySem.W.mg_of X G a,F.binds hb⟩⟩
theorem Qa {K:za}{C:Addr}{x m qual:Str}{st:Stmt}{ps:List Str}(aC:zc K mainGlobals x=some (some (.ref C)))(cl:TC K C)(p:MP K C m qual st)(hb:∀(kV dc pm:Value) (an:Option Addr) (cd ct:Value) (us:List Value),us.length=ps.length->bindArgs (zP m qual (AI st) (As st) (A3 st) .none kV dc pm an cd ct) ⟨us,[]⟩=pure (ps.zip us):=by first | exact (λ _ _ _ _ _ _ us hl=>match us,hl with | [_],_=>rfl) | exact (λ _ _ _ _ _ _ us hl=>match us,hl with | [_,_],_=>rfl) | exact (λ _ _ _ _ _ _ us hl=>match us,hl with | [_,_,_],_=>rfl) | exact (λ _ _ _ _ _ _ us hl=>match us,hl with | [_,_,_,_],_=>rfl)):LM K x m qual st ps:=by
 obtain⟨f,oc,od,an,sl,kV,dc,pm,cd,ct,a,i,l,c,k⟩:=p.ex;have F:=Ri (st:=st) l c k;exact⟨⟨_,_,_,aC,cl,⟨a,i,k⟩,F,F.binds hb⟩⟩
open PySem PySem.W PySem.Calls PyProof.Rows
noncomputable def R0:Rn:=⟨topRun,Heap.nsMap,importEnds,fenceModules?,PySem.start,treeTable⟩
theorem gD:R0=R1:=by
 unfold R0 R1;rw[PySem.W.Fast.te14082659384304107361,PySem.W.Fast.te8920871248978507458,PySem.W.Fast.te10274390034422433532,PySem.W.Fast.te14289696077712309145,PySem.W.Fast.te1435165496053646825,PySem.W.Fast.te14364793385576792824]
theorem SS (p:Program)(w:World)(N:Nat):openEnds treeTable p w N=KW R0 p w N:=by
 unfold openEnds fencedOpening KW;rfl
theorem LO {h:Heap}{a:Addr}{o:Obj}:∀ {as:List Addr},(lZ h as).lookup a=some o->h.get? a=some o
 |[],e=>by cases e
 |b::r,e=>by
  unfold lZ at e;rw[List.filterMap_cons] at e;cases q:h.get? b with
  |none=>rw[q] at e;exact LO (as:=r) e
  |some u =>
   rw[q] at e;dsimp only [yf] at e;rw[yU] at e;cases c:a==b with
   |true=>rw[c] at e;cases e;rw[eq_of_beq c];exact q
   |false=>rw[c] at e;exact LO (as:=r) e
def lK (h h':Heap):Prop:=∀(b:Addr) (o:Obj),h.get? b=some o->h'.get? b=some o
theorem gE {h h':Heap}{as:List Addr}(s:lK h h'):(lZ h as).In h':=λ a o e=>s a o (LO e)
theorem Z0 {p q:Program}{Xt:Shared->Bool}{N:Nat}(h:∀w:World,(openEnds treeTable p w N).map (λ s=>openSeen q [] (importedModules p.main.body) Xt true s)=some (openGood q [])):LeftO p q [] Xt (λ s=>s.heap) (λ w=>Ve R0 p w N) N:=λ w=>by
 have e:=h w;unfold Ve;dsimp only;rw[<-SS];cases q':openEnds treeTable p w N with
 |none=>rw[q'] at e;cases e
 |some s =>
  rw[q'] at e;rw[yf] at e ⊢;dsimp only;rw[zH e]
theorem Ov {α β γ:Type}{o:Option γ}{f:γ->α×β}{a:α×β}(h:o.map (λ s=>(f s).1)=some a.1)(k:o.map (λ s=>(f s).2)=some a.2):o.map f=some a:=by
 cases o with
 |none=>cases h
 |some s =>
  rw[yf] at h k ⊢;exact congrArg some (Prod.ext (zH h) (zH k))
theorem lL {l:PySem.W.OpenLaw}{n k:Nat}{q:Program}{loose:List Str}{XP:(Str->Option Value)->Heap->Prop}{YP:World->Heap->Prop}{d:DefRec}{K:World->za}{CX:World->Si}{sp:World->Sp}{x:Str}
 (hn:l.most=some n) (aD:n<=sizeLine) (d7:d.params.defaults=[]) (hr:Bq k callerA) (hY:∀(w:World) (h:Heap),YP w h->(K w).In h)
 (F:∀(w:World) (mg:Str->Option Value) (fa:Addr) (h:Heap),(K w).In h->h.Ns mainGlobals mg->mg d.name=some (.ref fa)->∃fd:FuncData,(∀(s:Shared) (u:Value),BindsTo s fd ⟨[u],[]⟩ [(x,u)])/\
  ∀base:Heap,(K w).In base->base.Ns mainGlobals mg->CV l.prog w (K w) mg base (CX w) k fa fd [x] (sp w))
 (cv:∀(w:World) (H:Hp) (a:Addr) (ns:List Int),(∀n∈ns,Sm n)->ns.length<=n->Y7 H->D8 (K w) H a (ns.map V.int)->sp w [.ref a] H (λ v _=>v=.bl true) λ _ _ _=>False)
 (g9:∀(w:World) (H:Hp) (s:Shared) (e:Value) (s':Shared),CX w [] H s (λ _ _ _=>False) e s'->False):PySem.W.WalkO q loose XP YP l.row.toRowW d [] (λ f vs=>PySem.call f vs):=by
 refine HT.Ni hn d7 λ w s₀ s₁ mg mb fa o pm cd doc a vs ns cN G Y ho hd bd d8 cj bf hlen hg=>?_;have KX:=hY w _ Y;obtain⟨fd,hb,hF⟩:=F w mg fa _ KX G.T.g d8;exact Pm KX G.T.g G.T.b G.T.builtins G.T.nolimit hg cj bf (yi hlen aD) hr hF hb (λ H hO hS=>cv w H a ns cN hlen hO hS) λ H e s'=>g9 w H s₁ e s'
noncomputable def cst:Option (Int×Int)->D
 |none=>.AD
 |some p=>.tup [.int p.1,.int p.2]
noncomputable def AN:Option (Int×Int)->Option (Int×Int)->Option (Int×Int)
 |some p,some q=>some (p.1+q.1,p.2+q.2)
 |_,_=>none
noncomputable def iQ (p q:Int×Int):Int×Int:=if p.1<q.1\/(p.1=q.1/\p.2<=q.2) then p else q
noncomputable def HB:Option (Int×Int)->Option (Int×Int)->Option (Int×Int)
 |none,b=>b
 |some p,none=>some p
 |some p,some q=>some (iQ p q)
noncomputable def LP (cs:List (Option (Int×Int))):Option (Int×Int):=cs.foldl HB none
theorem Ke (cs:List (Option (Int×Int))):B3 (λ d ρ=>.ok (ρ.set 0 (some (.val d)))) (λ ρ=>(rv 0 ρ).bind λ x=>.ok (!BN x)) (rv 0) (cs.map cst) [none]=.ok ((cs.filterMap id).map λ p=>cst (some p)):=by
 induction cs with
 |nil=>rfl
 |cons c r ih =>
  rw[zg,B3];cases c with
  |none =>
   show B3 _ _ _ (r.map cst) [none]=_;rw[ih];rfl
  |some p =>
   show (match B3 _ _ _ (r.map cst) [none] with | .ok ys=>M.ok (cst (some p)::ys)|_=>.bad)=_;rw[ih];rfl
theorem UD (ps:List (Int×Int)):Gi (ps.map λ p=>cst (some p))=some (ps.map λ p=>(cst (some p),[p.1,p.2])):=by
 induction ps with
 |nil=>rfl
 |cons p r ih=>rw[zg,Gi,ih];rfl
theorem WL (cs:List (Option (Int×Int))):AM ((cs.filterMap id).map λ p=>(cst (some p),[p.1,p.2]))=(LP cs).map λ p=>(cst (some p),[p.1,p.2]):=by
 have key:∀(cs:List (Option (Int×Int))) (z:Option (Int×Int)),((cs.filterMap id).map λ p=>(cst (some p),[p.1,p.2])).foldl Bo (z.map λ p=>(cst (some p),[p.1,p.2]))=(cs.foldl HB z).map λ p=>(cst (some p),[p.1,p.2]):=by
  intro cs;induction cs with
  |nil=>intro z;rfl
  |cons c r ih =>
   intro z;cases c with
   |none =>
    rw[show List.filterMap id (none::r)=List.filterMap id r from rfl,ya,ih z];cases z<;>rfl
   |some q =>
    rw[show List.filterMap id (some q::r)=q::List.filterMap id r from rfl,zg,ya,ya,<-ih (HB z (some q))];congr 1;cases z with
    |none=>rfl
    |some p =>
     simp only[yf,Bo,HT.Fh,HT.Em,HB,iQ];by_cases h1:q.1=p.1
     ·by_cases h2:q.2=p.2
      ·rw[if_pos (show p.1<q.1\/(p.1=q.1/\p.2<=q.2) by omega)];simp[h1,h2]
      ·by_cases h3:q.2<p.2
       ·rw[if_neg (show ¬ (p.1<q.1\/(p.1=q.1/\p.2<=q.2)) by omega)];simp[h1,h2,h3]
       ·rw[if_pos (show p.1<q.1\/(p.1=q.1/\p.2<=q.2) by omega)];simp[h1,h2,h3]
     ·by_cases h3:q.1<p.1
      ·rw[if_neg (show ¬ (p.1<q.1\/(p.1=q.1/\p.2<=q.2)) by omega)];simp[h1,h3]
      ·rw[if_pos (show p.1<q.1\/(p.1=q.1/\p.2<=q.2) by omega)];simp[h1,h3]
 exact key cs none
theorem Z1 (cs:List (Option (Int×Int))):Sx (.lst ((cs.filterMap id).map λ p=>cst (some p))) .AD=.ok (cst (LP cs)):=by
 simp only[Sx,UD,WL];cases LP cs<;>rfl
theorem WM (cs:List (Option (Int×Int))):Gh (B3 (λ d ρ=>.ok (ρ.set 0 (some (.val d)))) (λ ρ=>(rv 0 ρ).bind λ x=>.ok (!BN x)) (rv 0) (cs.map cst) [none])=.ok (.lst ((cs.filterMap id).map λ p=>cst (some p))):=by
 rw[Ke];rfl
noncomputable abbrev Co:=Option (Int×Int)
def Cc:Co->Co->Prop
 |_,none=>True
 |none,some _=>False
 |some p,some q=>p.1<q.1\/(p.1=q.1/\p.2<=q.2)
theorem Cd:∀a:Co,Cc a a
 |none=>trivial
 |some p=>.inr ⟨rfl,Int.le_refl _⟩
theorem AL:∀ {a b c:Co},Cc a b->Cc b c->Cc a c
 |_,_,none,_,_=>trivial
 |none,none,some _,_,h|some _,none,some _,_,h|none,some _,some _,h,_=>h.elim
 |some p,some q,some r,h1,h2=>by simp only[Cc] at *;omega
theorem LQ:∀ {a b:Co},Cc a b->Cc b a->a=b
 |none,none,_,_=>rfl
 |none,some _,h,_|some _,none,_,h=>h.elim
 |some p,some q,h1,h2=>by
  obtain⟨p1,p2⟩:=p;obtain⟨q1,q2⟩:=q;simp only[Cc] at h1 h2;have e1:p1=q1:=by omega
  have e2:p2=q2:=by omega
  rw[e1,e2]
theorem Du:∀a b:Co,(HB a b=a/\Cc a b)\/(HB a b=b/\Cc b a/\a≠b)
 |none,none=>.inl ⟨rfl,trivial⟩
 |none,some q=>.inr ⟨rfl,trivial,λ h=>by cases h⟩
 |some p,none=>.inl ⟨rfl,trivial⟩
 |some p,some q=>by
  unfold HB iQ;by_cases h:p.1<q.1\/(p.1=q.1/\p.2<=q.2)
  ·dsimp only;rw[if_pos h];exact .inl ⟨rfl,h⟩
  ·dsimp only;rw[if_neg h];refine .inr ⟨rfl,?_,λ e=>?_⟩
   ·simp only[Cc];omega
   ·cases e;exact h (.inr ⟨rfl,Int.le_refl _⟩)
theorem KR (a b:Co):Cc (HB a b) a:=by
 rcases Du a b with ⟨e,h⟩|⟨e,h,_⟩
 ·rw[e];exact Cd a
 ·rw[e];exact h
theorem KS (a b:Co):Cc (HB a b) b:=by
 rcases Du a b with ⟨e,h⟩|⟨e,h,_⟩
 ·rw[e];exact h
 ·rw[e];exact Cd b
theorem Qb (cs:List Co):∀z:Co,Cc (cs.foldl HB z) z/\(∀x∈cs,Cc (cs.foldl HB z) x)/\(cs.foldl HB z=z\/cs.foldl HB z∈cs):=by
 induction cs with
 |nil=>intro z;exact⟨Cd z,(λ x h=>by cases h),.inl rfl⟩
 |cons c r ih =>
  intro z;obtain⟨h1,h2,h3⟩:=ih (HB z c);rw[ya];refine⟨AL h1 (KR z c),λ x hx=>?_,?_⟩
  ·rcases zp.mp hx with rfl|hx
   ·exact AL h1 (KS z x)
   ·exact h2 x hx
  ·rcases h3 with h3|h3
   ·rw[h3];rcases Du z c with ⟨e,_⟩|⟨e,_⟩
    ·exact .inl e
    ·rw[e];exact .inr zd
   ·exact .inr (zf _ h3)
theorem SU {cs:List Co}{x:Co}(h:x∈cs):Cc (LP cs) x:=(Qb cs none).2.1 x h
theorem LR (cs:List Co):LP cs=none\/LP cs∈cs:=(Qb cs none).2.2
theorem Z2 {cs:List Co}{v:Co}(h1:∀x∈cs,Cc v x)(h2:v≠none->∃x∈cs,Cc x v):LP cs=v:=by
 refine LQ ?_ ?_
 ·cases v with
  |none=>cases LP cs<;>exact trivial
  |some p =>
   obtain⟨x,hx,hl⟩:=h2 (by intro z;cases z);exact AL (SU hx) hl
 ·rcases LR cs with h|h
  ·rw[h];cases v<;>exact trivial
  ·exact h1 _ h
theorem NE:∀a b:Co,AN a b=AN b a
 |none,none=>rfl
 |none,some _|some _,none=>rfl
 |some p,some q=>by simp only[AN];rw[Int.add_comm,Int.add_comm p.2]
theorem JE:∀ {a b:Co}(c:Co),Cc a b->Cc (AN a c) (AN b c)
 |_,none,c,_=>by cases c<;>exact trivial
 |none,some _,c,h=>h.elim
 |some p,some q,none,h=>trivial
 |some p,some q,some r,h=>by simp only[AN,Cc] at *;omega
def NN:Co->Prop
 |none=>True
 |some p=>0<=p.1/\0<=p.2
theorem WN:∀ {a b:Co},NN a->NN b->NN (AN a b)
 |none,none,_,_=>trivial
 |none,some _,_,_|some _,none,_,_=>trivial
 |some p,some q,h1,h2=>by simp only[AN,NN] at *;omega
theorem lM {a b:Co}(h1:NN a)(h2:NN b):NN (HB a b):=by
 rcases Du a b with ⟨e,_⟩|⟨e,_⟩
 ·rw[e];exact h1
 ·rw[e];exact h2
def ltN (a b:Co):Prop:=NN a/\Cc a b/\a≠b
theorem JF (a b c:Co)(h1:ltN a b)(h2:ltN b c):ltN a c:=
 ⟨h1.1,AL h1.2.1 h2.2.1,λ e=>by subst e;exact h1.2.2 (LQ h1.2.1 h2.2.1)⟩
noncomputable def rank:Co->Nat×Nat×Nat
 |none=>(1,0,0)
 |some p=>(0,p.1.toNat,p.2.toNat)
theorem gF:∀a:Co,NN a->Acc ltN a:=by
 have wf:WellFounded (InvImage (Prod.Lex (· < ·) (Prod.Lex (· < ·) (· < ·))) rank):=InvImage.wf rank (Prod.lex Nat.lt_wfRel (Prod.lex Nat.lt_wfRel Nat.lt_wfRel)).wf;intro a;induction a using wf.induction with
 |h a ih =>
  intro ha;refine .intro _ λ b ⟨hb,hl,ad⟩=>ih b ?_ hb;cases b with
  |none=>cases a with
   |none=>exact (ad rfl).elim
   |some p=>exact hl.elim
  |some q=>cases a with
   |none=>exact Prod.Lex.left _ _ (by decide)
   |some p =>
    obtain⟨p1,p2⟩:=p;obtain⟨q1,q2⟩:=q;simp only[Cc,NN] at hl ha hb;show Prod.Lex _ _ (0,q1.toNat,q2.toNat) (0,p1.toNat,p2.toNat);refine Prod.Lex.right _ ?_;by_cases h:q1<p1
    ·exact Prod.Lex.left _ _ (by omega)
    ·have e:q1=p1:=by omega
     subst e;have h2:q2≠p2:=λ e=>ad (by rw[e]);exact Prod.Lex.right _ (by omega)
theorem Z3 (a:Co):Acc ltN a:=.intro _ λ b h=>gF b h.1
theorem UE (cs:List Co):Acc (K9 ltN) cs:=Ls ltN Z3 cs.length cs rfl
structure Road where
 a:Int
 b:Int
 l:Option Int
 w:Int
noncomputable def Ft:Option Int->D
 |none=>.AD
 |some i=>.int i
noncomputable def FW (r:Road):D:=.tup [.int r.a,.int r.b,Ft r.l,.int r.w]
noncomputable def Ac (m:Int)(rs:List Road):D:=.tup [.int m,.lst (rs.map FW)]
noncomputable def CU (r:Road):Co:=match r.l with | none=>none | some l=>some (l,1)
structure Gu (m:Nat)(r:Road):Prop where
 a0:0<=r.a
 a1:r.a<m
 b0:0<=r.b
 b1:r.b<m
 l0:∀l,r.l=some l->0<=l
theorem ZM {m:Nat}{r:Road}(h:Gu m r):NN (CU r):=by
 unfold CU;split
 ·trivial
 ·rename_i l e;exact⟨h.l0 l e,by show (0:Int)<=1;decide⟩
noncomputable def atC (cs:List Co)(i:Int):Co:=cs.getD i.toNat none
theorem Fu {cs:List Co}{i:Int}(h0:0<=i)(h1:i<cs.length):cs[i.toNat]?=some (atC cs i):=by
 unfold atC;rw[zL,zr (show i.toNat<cs.length by omega)];rfl
theorem set_same {α:Type}:∀ {l:List α}{i:Nat}{x:α},l[i]?=some x->l.set i x=l
 |[],_,_,h=>by cases h
 |y::r,0,x,h=>by cases h;rfl
 |y::r,i+1,x,h=>by rw[zw,set_same (by simpa using h)]
noncomputable def CG (r:Road)(cs:List Co):List Co:=cs.set r.b.toNat (HB (atC cs r.b) (AN (atC cs r.a) (CU r)))
theorem SV {cs:List Co}{i j:Int}{v:Co}(hi:0<=i)(hj:0<=j)(h1:i<cs.length):atC (cs.set i.toNat v) j=if j=i then v else atC cs j:=by
 unfold atC;rw[zL,zL];by_cases h:j=i
 ·subst h;rw[if_pos rfl,zU (by omega)];rfl
 ·rw[if_neg h,yq (by omega)]
structure Good (m s:Nat)(rs:List Road)(cs:List Co):Prop where
 len:cs.length=m
 st:atC cs s=some (0,0)
 nn:∀c∈cs,NN c
 sup:∀p:Int,0<=p->p<m->p≠s->atC cs p≠none->∃r∈rs,r.b=p/\Cc (AN (atC cs r.a) (CU r)) (atC cs p)
theorem Good.ZN {m s:Nat}{rs:List Road}{cs:List Co}(g:Good m s rs cs){i:Int}(h0:0<=i)(h1:i<m):NN (atC cs i):=
 g.nn _ (zq (Fu h0 (by rw[g.len];exact h1)))
theorem UG {m s:Nat}{rs:List Road}{cs:List Co}{r:Road}(g:Good m s rs cs)(hr:r∈rs)(Ao:∀r∈rs,Gu m r):
 Good m s rs (CG r cs)/\(∀i:Int,0<=i->Cc (atC (CG r cs) i) (atC cs i))/\(HB (atC cs r.b) (AN (atC cs r.a) (CU r))=atC cs r.b->CG r cs=cs)/\
 (HB (atC cs r.b) (AN (atC cs r.a) (CU r))≠atC cs r.b->K9 ltN (CG r cs) cs):=by
 have ok:=Ao r hr;have gi:r.b<cs.length:=by rw[g.len];exact ok.b1
 have hx:NN (AN (atC cs r.a) (CU r)):=WN (g.ZN ok.a0 ok.a1) (ZM ok);have hv:NN (HB (atC cs r.b) (AN (atC cs r.a) (CU r))):=lM (g.ZN ok.b0 ok.b1) hx;have gj:∀i:Int,0<=i->atC (CG r cs) i=if i=r.b then HB (atC cs r.b) (AN (atC cs r.a) (CU r)) else atC cs i:=λ i hi=>SV ok.b0 hi gi
 have le:∀i:Int,0<=i->Cc (atC (CG r cs) i) (atC cs i):=λ i hi=>by
  rw[gj i hi];by_cases h:i=r.b
  ·rw[if_pos h,h];exact KR _ _
  ·rw[if_neg h];exact Cd _
 refine⟨⟨by unfold CG;rw[y2];exact g.len,?_,λ c hc=>?_,λ p h0 h1 hp hn=>?_⟩,le,λ h=>?_,λ h=>?_⟩
 ·rw[gj s (by omega)];by_cases h:(s:Int)=r.b
  ·rw[if_pos h,<-h,g.st];cases q:AN (atC cs r.a) (CU r) with
   |none=>rfl
   |some x =>
    rw[q] at hx;unfold HB iQ;dsimp only;rw[if_pos (by simp only[NN] at hx;omega)]
  ·rw[if_neg h];exact g.st
 ·unfold CG at hc;rcases List.mem_or_eq_of_mem_set hc with h|h
  ·exact g.nn c h
  ·rw[h];exact hv
 ·rw[gj p h0] at hn ⊢;by_cases h:p=r.b
  ·rw[if_pos h] at hn ⊢;rcases Du (atC cs r.b) (AN (atC cs r.a) (CU r)) with ⟨e,_⟩|⟨e,_⟩
   ·rw[e] at hn ⊢;subst h;obtain⟨r',h2,h3,h4⟩:=g.sup r.b h0 h1 hp hn;exact⟨r',h2,h3,AL (JE _ (le r'.a (Ao r' h2).a0)) h4⟩
   ·rw[e];exact⟨r,hr,h.symm,JE _ (le r.a ok.a0)⟩
  ·rw[if_neg h] at hn ⊢;obtain⟨r',h2,h3,h4⟩:=g.sup p h0 h1 hp hn;exact⟨r',h2,h3,AL (JE _ (le r'.a (Ao r' h2).a0)) h4⟩
 ·unfold CG;rw[h];exact set_same (Fu ok.b0 gi)
 ·unfold CG;exact Om ltN (Fu ok.b0 gi) ⟨hv,KR _ _,h⟩
def Right (m s:Nat)(rs:List Road)(cs:List Co):Prop:=
 cs.length=m/\atC cs s=some (0,0)/\(∀c∈cs,NN c)/\∀p:Int,0<=p->p<m->p≠s->atC cs p=LP ((rs.filter λ r=>decide (r.b=p)).map λ r=>AN (CU r) (atC cs r.a))
theorem right_of {m s:Nat}{rs:List Road}{cs:List Co}(g:Good m s rs cs)(h:∀r∈rs,HB (atC cs r.b) (AN (atC cs r.a) (CU r))=atC cs r.b):Right m s rs cs:=by
 refine⟨g.len,g.st,g.nn,λ p h0 h1 hp=>?_⟩;symm;refine Z2 (λ x hx=>?_) λ hn=>?_
 ·obtain⟨r,hr,rfl⟩:=zJ.mp hx;obtain⟨h2,h3⟩:=yn.mp hr;have e:r.b=p:=by simpa using h3
  have:=KS (atC cs r.b) (AN (atC cs r.a) (CU r));rw[h r h2,e] at this;rw[NE];exact this
 ·obtain⟨r,h2,h3,h4⟩:=g.sup p h0 h1 hp hn;refine⟨_,zJ.mpr ⟨r,yn.mpr ⟨h2,by simpa using h3⟩,rfl⟩,?_⟩;rw[NE];exact h4
theorem RH {m s:Nat}(rs:List Road)(h:s<m):Good m s rs ((z0 m none).set s (some (0,0))):=by
 have hl:(z0 m (none:Co)).length=m:=List.length_replicate;have gj:∀i:Int,0<=i->atC ((z0 m none).set s (some (0,0))) i=if i=s then some (0,0) else none:=λ i hi=>by
  have:=SV (cs:=z0 m none) (i:=(s:Int)) (j:=i) (v:=some (0,0)) (by omega) hi (by rw[hl];omega);rw[yk] at this;rw[this];by_cases h:i=s
  ·rw[if_pos h,if_pos h]
  ·rw[if_neg h,if_neg h];unfold atC;rw[zL,List.getElem?_replicate];split<;>rfl
 refine⟨by rw[y2,hl],?_,λ c hc=>?_,λ p h0 h1 hp hn=>?_⟩
 ·rw[gj s (by omega),if_pos rfl]
 ·rcases List.mem_or_eq_of_mem_set hc with h|h
  ·rw[List.eq_of_mem_replicate h];trivial
  ·rw[h];exact⟨Int.le_refl _,Int.le_refl _⟩
 ·rw[gj p h0,if_neg hp] at hn;exact (hn rfl).elim
theorem gH {α:Type}{l:List α}{n:Int}(h:0<=n/\n<l.length):Sl l n=l[n.toNat]? :=by
 unfold Sl Xy;obtain⟨h1,h2⟩:=h;simp[h1,h2]
theorem Z4 {n:Nat}{j:Int}(h:0<=j/\j<n):Xy n j=some j.toNat:=by
 unfold Xy;obtain⟨h1,h2⟩:=h;simp[h1,h2]
theorem SW {α:Type}{f:α->D}{l:List α}{n:Int}{x:α}(h0:0<=n)(h:l[n.toNat]?=some x):iM (.lst (l.map f)) (.int n)=.ok (f x):=by
 have h1:=(zE.mp h).1;unfold iM;dsimp only;rw[gH (by rw[ze];omega),zB,h];rfl
theorem LS {cs:List Co}{i:Int}(h0:0<=i)(h1:i<cs.length):iM (.lst (cs.map cst)) (.int i)=.ok (cst (atC cs i)):=SW h0 (Fu h0 h1)
theorem Ox {n:Nat}(c:Co):Pl (n+1) (cst c):=by
 cases c with
 |none=>exact fG
 |some p=>exact Wa (KG (Fn _) (KG (Fn _) Wc))
theorem SX (a b:Co):Ap (cst a) (cst b)=decide (a=b):=by
 rcases a with _|⟨a1,a2⟩<;>rcases b with _|⟨b1,b2⟩
 ·simp[cst,Ap]
 ·simp[cst,Ap]
 ·simp[cst,Ap]
 ·rw[yQ];simp[cst,Ap,BY]
theorem Z5 (a b:Co):Yp 16 (cst a) (cst b)=.ok (.bl (!decide (a=b))):=by rw[Rv (Ox (n:=15) a) (Ox (n:=15) b),SX]
theorem SY (a b:Co):Xz 16 (cst a) (cst b)=.ok (.bl (decide (a=b))):=by rw[Ol (Ox (n:=15) a) (Ox (n:=15) b),SX]
theorem Z6 (c:Co):IR (cst c)=true:=by
 cases c<;>simp[cst,IR,IS]
theorem JG (c:Co):dp (.ok (cst c))=.ok (cst c):=by
 unfold dp;rw[M.A6,if_pos (Z6 c)]
theorem Bw {a b:Int}(h:0<b):HM (.int a) (.int b)=.ok (.int (a%b)):=by
 unfold HM B9;dsimp only;rw[if_pos h]
theorem JH {a b:Int}(h:Pe a b):Na (.int a) (.int b)=.ok (.int (a / b)):=by
 unfold Na B9;dsimp only;rw[if_pos h]
inductive Wk (rs:List Road):Int->Int->Int×Int->Prop
 |nil (u:Int):Wk rs u u (0,0)
 |cons {r:Road} {l:Int} {w:Int} {c:Int×Int}:r∈rs->r.l=some l->Wk rs r.b w c->Wk rs r.a w (l+c.1,1+c.2)
theorem Wk.trans {rs:List Road}{u v w:Int}{c d:Int×Int}(h:Wk rs u v c)(k:Wk rs v w d):Wk rs u w (c.1+d.1,c.2+d.2):=by
 induction h with
 |nil u=>simpa using k
 |cons hr hl _ ih =>
  have:=Wk.cons hr hl (ih k);simpa [Int.add_assoc] using this
theorem Wk.one {rs:List Road}{r:Road}{l:Int}(hr:r∈rs)(hl:r.l=some l):Wk rs r.a r.b (l,1):=by
 have:=Wk.cons hr hl (Wk.nil (rs:=rs) r.b);simpa using this
def Kf (rs:List Road)(u w:Int)(x:Co):Prop:=(∀c,Wk rs u w c->Cc x (some c))/\∀p,x=some p->Wk rs u w p
theorem Kf.BL {rs:List Road}{u w:Int}{x y:Co}(h:Kf rs u w x)(k:Kf rs u w y):x=y:=by
 refine LQ ?_ ?_
 ·cases y with
  |none=>cases x<;>exact trivial
  |some q=>exact h.1 q (k.2 q rfl)
 ·cases x with
  |none=>cases y<;>exact trivial
  |some q=>exact k.1 q (h.2 q rfl)
theorem LU {r:Road}{c:Int×Int}(h:CU r=some c):∃l,r.l=some l/\c=(l,1):=by
 unfold CU at h;split at h
 ·cases h
 ·rename_i l e;cases h;exact⟨l,e,rfl⟩
theorem JI {a b:Co}{c:Int×Int}(h:AN a b=some c):∃p q,a=some p/\b=some q/\c=(p.1+q.1,p.2+q.2):=by
 cases a with
 |none=>cases h
 |some p=>cases b with
  |none=>cases h
  |some q=>cases h;exact⟨p,q,rfl,rfl,rfl⟩
theorem Right.min_le {m s:Nat}{rs:List Road}{cs:List Co}(h:Right m s rs cs){r:Road}(hr:r∈rs)(Ao:Gu m r):Cc (atC cs r.b) (AN (CU r) (atC cs r.a)):=by
 obtain⟨h1,h2,h3,h4⟩:=h;by_cases hs:r.b=s
 ·rw[hs,h2];have hn:NN (AN (CU r) (atC cs r.a)):=WN (ZM Ao) (h3 _ (zq (Fu Ao.a0 (by rw[h1];exact Ao.a1))));cases q:AN (CU r) (atC cs r.a) with
  |none=>exact trivial
  |some p=>rw[q] at hn;simp only[NN] at hn;simp only[Cc];omega
 ·rw[h4 r.b Ao.b0 Ao.b1 hs];exact SU (zJ.mpr ⟨r,yn.mpr ⟨hr,by simp⟩,rfl⟩)
theorem UH {m s:Nat}{rs:List Road}{cs:List Co}(h:Right m s rs cs)(Ao:∀r∈rs,Gu m r){u w:Int}{c:Int×Int}(k:Wk rs u w c):Cc (atC cs w) (AN (atC cs u) (some c)):=by
 induction k with
 |nil u =>
  cases atC cs u with
  |none=>exact trivial
  |some p=>simp only[AN,Cc];omega
 | @cons r l w c hr hl _ ih =>
  refine AL ih ?_;have h1:=h.min_le hr (Ao r hr);have e:CU r=some (l,1):=by unfold CU;rw[hl]
  rw[e] at h1;cases q:atC cs r.a with
  |none=>exact trivial
  |some p =>
   rw[q] at h1;cases q2:atC cs r.b with
   |none=>rw[q2] at h1;exact h1.elim
   |some p2=>rw[q2] at h1;simp only[AN,Cc] at *;omega
theorem UI {m s:Nat}{rs:List Road}{cs:List Co}(h:Right m s rs cs)(Ao:∀r∈rs,Gu m r):∀(n:Nat) (w:Int) (p:Int×Int),0<=w->w<m->atC cs w=some p->p.2.toNat=n->Wk rs s w p:=by
 obtain⟨h1,h2,h3,h4⟩:=h;intro n;induction n with
 |zero =>
  intro w p h0 hw hp hn;by_cases hs:w=s
  ·rw[hs,h2] at hp;cases hp;rw[hs];exact .nil _
  ·exfalso;have e:=h4 w h0 hw hs;rw[hp] at e;rcases LR ((rs.filter λ r=>decide (r.b=w)).map λ r=>AN (CU r) (atC cs r.a)) with z|z
   ·rw[z] at e;cases e
   ·rw[<-e] at z;obtain⟨r,hr,e2⟩:=zJ.mp z;have gl:=(yn.mp hr).1;obtain⟨p1,p2,e3,e4,e5⟩:=JI e2;obtain⟨l,hl,rfl⟩:=LU e3;have ok:=Ao r gl;have nn:=h3 _ (zq (Fu ok.a0 (by rw[h1];exact ok.a1)));rw[e4] at nn;simp only[NN] at nn;rw[e5] at hn;simp only at hn;omega
 |succ n ih =>
  intro w p h0 hw hp hn;by_cases hs:w=s
  ·rw[hs,h2] at hp;cases hp;rw[hs];exact .nil _
  ·have e:=h4 w h0 hw hs;rw[hp] at e;rcases LR ((rs.filter λ r=>decide (r.b=w)).map λ r=>AN (CU r) (atC cs r.a)) with z|z
   ·rw[z] at e;cases e
   ·rw[<-e] at z;obtain⟨r,hr,e2⟩:=zJ.mp z;obtain⟨gl,nz⟩:=yn.mp hr;have nz:r.b=w:=by simpa using nz
    obtain⟨p1,p2,e3,e4,e5⟩:=JI e2;obtain⟨l,hl,rfl⟩:=LU e3;have ok:=Ao r gl;have nn:=h3 _ (zq (Fu ok.a0 (by rw[h1];exact ok.a1)));rw[e4] at nn;simp only[NN] at nn;subst e5;simp only at hn;have w1:=ih r.a p2 ok.a0 ok.a1 e4 (by omega);have w2:=w1.trans (Wk.one gl hl);rw[nz] at w2;have e6:((l+p2.1,1+p2.2):Int×Int)=(p2.1+l,p2.2+1):=by rw[Int.add_comm l,Int.add_comm 1]
    show Wk rs s w (l+p2.1,1+p2.2);rw[e6];exact w2
theorem Right.lN {m s:Nat}{rs:List Road}{cs:List Co}(h:Right m s rs cs)(Ao:∀r∈rs,Gu m r){w:Int}(h0:0<=w)(hw:w<m):Kf rs s w (atC cs w):=by
 refine⟨λ c k=>?_,λ p hp=>UI h Ao _ w p h0 hw hp rfl⟩;have:=UH h Ao k;rw[h.2.1] at this;have e:AN (some (0,0)) (some c)=some c:=by simp[AN]
 rw[e] at this;exact this
noncomputable def hit (rs:List Road)(cs:List Co)(p:Nat)(k:Nat):Bool:=match rs[k]? with
 |some r=>decide (r.b=(p:Int))&&decide (AN (atC cs r.a) (CU r)≠none)&&decide (AN (atC cs r.a) (CU r)=atC cs (p:Int))
 |none=>false
theorem Wk.nn {m:Nat}{rs:List Road}(Ao:∀r∈rs,Gu m r){u w:Int}{c:Int×Int}(h:Wk rs u w c):0<=c.1/\0<=c.2:=by
 induction h with
 |nil=>exact⟨Int.le_refl _,Int.le_refl _⟩
 |cons hr hl _ ih =>
  have:=(Ao _ hr).l0 _ hl;simp only;omega
noncomputable def pD (p:Int×Int):D:=.tup [.int p.1,.int p.2]
theorem Oy (p q:Int×Int):Ap (pD p) (pD q)=decide (p=q):=by
 obtain⟨a,b⟩:=p;obtain⟨c,d⟩:=q;unfold pD;simp only[Ap,BY,Bool.and_true];rw[yQ];simp
theorem Qc (p:Int×Int):keyOk true (pD p)=true:=rfl
theorem T4 (B:List (Int×Int))(p:Int×Int):Ks (B.map pD) (pD p)=decide (p∈B):=by
 unfold Ks;rw[List.any_map,yQ];simp only[List.any_eq_true,Function.comp,Oy,decide_eq_true_eq];constructor
 ·rintro ⟨x,hx,rfl⟩;exact hx
 ·intro h;exact⟨p,h,rfl⟩
theorem Oz (B:List (Int×Int))(vs:List D)(neg:Bool)(a b:Int):Kt neg (.tup [.int a,.int b]) (.B6 true (B.map pD) vs)=.ok (.bl (if neg=true then !decide ((a,b)∈B) else decide ((a,b)∈B))):=by
 unfold Kt;dsimp only;have h1:keyOk true (D.tup [D.int a,D.int b])=true:=rfl;have h2:Ks (B.map pD) (D.tup [D.int a,D.int b])=decide ((a,b)∈B):=T4 B (a,b);rw[if_pos h1,h2]
noncomputable def JJ (B:List (Int×Int))(p:Int×Int):List (Int×Int):=if p∈B then B else B++[p]
noncomputable def Cq {α:Type}(B:List α):List D:=B.map λ _=>.bl true
theorem NF {α:Type}(f:α->D)(y:D):∀B:List α,HW (B.map f) (Cq B) y (.bl true)=Cq B
 |[]=>rfl
 |b::r=>by
  show HW (f b::r.map f) (.bl true::Cq r) y (.bl true)=.bl true::Cq r;rw[HW,NF f y r];split<;>rfl
theorem T5 (B:List (Int×Int))(p:Int×Int):putD (B.map pD) (Cq B) (pD p) (.bl true)=((JJ B p).map pD,Cq (JJ B p)):=by
 unfold putD JJ;rw[T4];by_cases h:p∈B
 ·rw[decide_eq_true h,if_pos rfl,if_pos h,NF]
 ·rw[decide_eq_false h,if_neg (by simp),if_neg h];unfold Cq;simp
theorem Qd {B:List (Int×Int)}{p q:Int×Int}:q∈JJ B p↔q∈B\/q=p:=by
 unfold JJ;split
 ·constructor
  ·exact .inl
  ·rintro (h|rfl)
   ·exact h
   ·assumption
 ·simp
theorem RI {B:List (Int×Int)}{p:Int×Int}(h:B.Nodup):(JJ B p).Nodup:=by
 unfold JJ;split
 ·exact h
 ·rename_i hn;exact zS.mpr ⟨h,by simp,λ a ha b hb z=>by simp at hb;subst hb;subst z;exact hn ha⟩
theorem Hq {α:Type}[DecidableEq α]:∀ {l u:List α},l.Nodup->(∀x∈l,x∈u)->l.length<=u.length
 |[],_,_,_=>zW _
 |x::r,u,nd,h=>by
  have bg:=yA.mp nd;have hx:=h x zd;have ih:=Hq (l:=r) (u:=u.erase x) bg.2 λ y hy=>(List.mem_erase_of_ne (λ z=>bg.1 (by rw[<-z];exact hy))).mpr (h y (zf _ hy));have e:=List.length_erase_of_mem hx;have:0<u.length:=List.length_pos_of_mem hx;rw[zo];omega
theorem WO (p:Int×Int):IR (pD p)=true:=by simp[pD,IR,IS]
noncomputable def Ay (m:Nat):List Int:=(zD m).map λ i:Nat=>(i:Int)
theorem LV (m:Nat):((zD m).map λ i:Nat=>D.int (i:Int))=(Ay m).map D.int:=by unfold Ay;rw[ym];rfl
theorem DM (m:Nat):(Ay m).length=m:=by unfold Ay;simp
theorem F9 {m:Nat}{p:Int}:p∈Ay m↔0<=p/\p<m:=by
 unfold Ay;constructor
 ·intro h;obtain⟨i,hi,rfl⟩:=zJ.mp h;have:=yX.mp hi;omega
 ·rintro ⟨h0,h1⟩;exact zJ.mpr ⟨p.toNat,yX.mpr (by omega),by omega⟩
noncomputable def AO (B:List (Int×Int))(L:List Int)(v:Int):List (Int×Int):=(L.filter λ u=>decide ((u,v)∈B)).flatMap λ u=>((L.filter λ w=>decide ((v,w)∈B)).filter λ w=>decide (u≠w) && !decide ((u,w)∈B)).map λ w=>(u,w)
def gI (B:List (Int×Int)):Prop:=∀x,(x,x)∉B
theorem UJ (B:List (Int×Int))(L:List Int)(v:Int):(AO B L v).length<=L.length*L.length:=by
 unfold AO;rw[List.length_flatMap];have key:∀l:List Int,(l.map λ u=>(((L.filter λ w=>decide ((v,w)∈B)).filter λ w=>decide (u≠w) && !decide ((u,w)∈B)).map λ w=>(u,w)).length).sum<=l.length*L.length:=by
  intro l;induction l with
  |nil=>simp
  |cons u r ih =>
   rw[zg,List.sum_cons,zo,Nat.succ_mul];have:(((L.filter λ w=>decide ((v,w)∈B)).filter λ w=>decide (u≠w) && !decide ((u,w)∈B)).map λ w=>(u,w)).length<=L.length:=by
    rw[ze];exact yi (xb _ _) (xb _ _)
   omega
 exact yi (key _) (Nat.mul_le_mul_right _ (xb _ _))
theorem NG {α:Type}(f:α->List Int):∀l:List α,Gi (l.map λ x=>D.tup ((f x).map D.int))=some (l.map λ x=>(D.tup ((f x).map D.int),f x))
 |[]=>rfl
 |x::r=>by
  rw[zg,Gi,NG f r];simp[W4,Dd]
theorem NH {B:List (Int×Int)}{L:List Int}{v:Int}{p:Int×Int}(h:p∈AO B L v):p.1∈L/\p.2∈L/\p.1≠p.2:=by
 unfold AO at h;obtain⟨u,hu,h⟩:=List.mem_flatMap.mp h;obtain⟨w,hw,rfl⟩:=zJ.mp h;have h1:=yn.mp hw;have h2:=yn.mp h1.1;have h3:=yn.mp hu;simp at h1;exact⟨h3.1,h2.1,h1.2.1⟩
noncomputable def BQ (B ps:List (Int×Int)):List (Int×Int):=ps.foldl JJ B
structure BR (m:Nat)(B:List (Int×Int)):Prop where
 nd:B.Nodup
 no:gI B
 rD:∀p∈B,(0<=p.1/\p.1<m)/\(0<=p.2/\p.2<m)
theorem BR.add {m:Nat}{B:List (Int×Int)}(h:BR m B){p:Int×Int}(hp:p.1≠p.2)(h1:0<=p.1/\p.1<m)(h2:0<=p.2/\p.2<m):BR m (JJ B p):=by
 refine⟨RI h.nd,λ x hx=>?_,λ q hq=>?_⟩
 ·rcases Qd.mp hx with z|z
  ·exact h.no x z
  ·subst z;exact hp rfl
 ·rcases Qd.mp hq with z|z
  ·exact h.rD q z
  ·subst z;exact⟨h1,h2⟩
theorem BR.BQ {m:Nat}{B:List (Int×Int)}(h:BR m B):∀ {ps:List (Int×Int)},(∀p∈ps,p.1≠p.2/\(0<=p.1/\p.1<m)/\(0<=p.2/\p.2<m))->BR m (L2.BQ B ps):=by
 intro ps;induction ps generalizing B with
 |nil=>intro _;exact h
 |cons p r ih =>
  intro hp;have:=hp p zd;exact ih (h.add this.1 this.2.1 this.2.2) λ q hq=>hp q (zf _ hq)
theorem BR.len {m:Nat}{B:List (Int×Int)}(h:BR m B)(hm:m<=20):B.length<1000:=by
 have key:=Hq (l:=B) (u:=(zD m).flatMap λ i:Nat=>(zD m).map λ j:Nat=>((i:Int),(j:Int))) h.nd λ p hp=>by
  obtain⟨h1,h2⟩:=h.rD p hp;refine List.mem_flatMap.mpr ⟨p.1.toNat,yX.mpr (by omega),zJ.mpr ⟨p.2.toNat,yX.mpr (by omega),?_⟩⟩;rw[yT h1.1,yT h2.1]
 have e:((zD m).flatMap λ i:Nat=>(zD m).map λ j:Nat=>((i:Int),(j:Int))).length=m*m:=by
  rw[List.length_flatMap];simp[List.map_const',List.sum_replicate_nat]
 rw[e] at key;have:m*m<=20*20:=Nat.mul_le_mul hm hm;omega
theorem Es (a b c d:Int):HT.lexLt [a,b] [c,d]=decide (a<c\/(a=c/\b<d)):=by
 rw[HT.Fh,HT.Fh,HT.Em,yQ];by_cases h1:a=c
 ·subst h1;by_cases h2:b=d
  ·subst h2;simp
  ·simp[h2]
 ·simp[h1]
theorem UK {α β:Type}(f:α->β):∀bs:List (α×List Int),AM (bs.map λ b=>(f b.1,b.2))=(AM bs).map λ b=>(f b.1,b.2):=by
 intro bs;unfold AM
 suffices z:∀o:Option (α×List Int),(bs.map λ b=>(f b.1,b.2)).foldl Bo (o.map λ b=>(f b.1,b.2))=(bs.foldl Bo o).map λ b=>(f b.1,b.2) from z none
 induction bs with
 |nil=>intro o;rfl
 |cons b r ih =>
  intro o;rw[zg,ya,ya,<-ih];congr 1;cases o with
  |none=>rfl
  |some c =>
   unfold Bo;dsimp only [yf];split<;>rfl
theorem WQ {α:Type}:∀(bs:List (α×List Int)) (o:Option (α×List Int)) (b:α×List Int),bs.foldl Bo o=some b->b∈bs\/o=some b:=by
 intro bs;induction bs with
 |nil=>intro o b h;exact .inr h
 |cons x r ih =>
  intro o b h;rw[ya] at h;rcases ih _ _ h with q|q
  ·exact .inl (zf _ q)
  ·cases o with
   |none=>cases q;exact .inl zd
   |some c =>
    unfold Bo at q;dsimp only at q;split at q
    ·cases q;exact .inl zd
    ·exact .inr q
theorem UL {α:Type}{bs:List (α×List Int)}(h2:∀b∈bs,∃x y:Int,b.2=[x,y]){b:α×List Int}(hb:AM bs=some b):∀c∈bs,HT.lexLt c.2 b.2=false:=by
 unfold AM at hb
 suffices z:∀(bs:List (α×List Int)) (o:Option (α×List Int)),(∀b∈bs,∃x y:Int,b.2=[x,y])->(∀b,o=some b->∃x y:Int,b.2=[x,y])->∀b,bs.foldl Bo o=some b->(∀c∈bs,HT.lexLt c.2 b.2=false)/\(∀c,o=some c->HT.lexLt c.2 b.2=false) from (z bs none h2 (λ b h=>by cases h) b hb).1
 intro bs;induction bs with
 |nil =>
  intro o _ ho b h;refine⟨λ c hc=>(by cases hc),λ c hc=>?_⟩;have e:o=some b:=h;rw[hc] at e;cases e;obtain⟨x,y,e⟩:=ho _ hc;rw[e,Es];simp
 |cons d r ih =>
  intro o h2 ho b h;rw[ya] at h;have hd:=h2 d zd;have aU:∀b,Bo o d=some b->∃x y:Int,b.2=[x,y]:=λ b hb=>by
   unfold Bo at hb;cases o with
   |none=>cases hb;exact hd
   |some c =>
    dsimp only at hb;split at hb
    ·cases hb;exact hd
    ·cases hb;exact ho _ rfl
  obtain⟨i1,i2⟩:=ih (Bo o d) (λ c hc=>h2 c (zf _ hc)) aU b h;have tq:=HY o d;obtain⟨k,hk⟩:∃k,Bo o d=some k:=by
   cases q:Bo o d with
   |none=>exact (tq q).elim
   |some k=>exact⟨k,rfl⟩
  have tu:=i2 k hk;obtain⟨kx,ky,ek⟩:=aU k hk;have fb:∃x y:Int,b.2=[x,y]:=by
   have:=WQ r (Bo o d) b h;rcases this with z|z
   ·exact h2 b (zf _ z)
   ·exact aU b z
  obtain⟨bx,u9,eb⟩:=fb;obtain⟨dx,dy,ed⟩:=hd;rw[ek,eb,Es,decide_eq_false_iff_not] at tu;have ck:HT.lexLt d.2 b.2=false/\∀c,o=some c->HT.lexLt c.2 b.2=false:=by
   unfold Bo at hk;cases o with
   |none =>
    cases hk;rw[ed] at ek;injection ek with e1 e2
    injection e2 with e2 _
    refine⟨?_,λ c hc=>by cases hc⟩;rw[ed,eb,Es,decide_eq_false_iff_not];omega
   |some c =>
    obtain⟨cx,cy,ec⟩:=ho c rfl;dsimp only at hk;rw[ed,ec,Es] at hk;by_cases hl:dx<cx\/(dx=cx/\dy<cy)
    ·rw[if_pos (decide_eq_true hl)] at hk;cases hk;rw[ed] at ek;injection ek with e1 e2
     injection e2 with e2 _
     refine⟨?_,λ c' cu=>?_⟩
     ·rw[ed,eb,Es,decide_eq_false_iff_not];omega
     ·cases cu;rw[ec,eb,Es,decide_eq_false_iff_not];omega
    ·rw[if_neg (by simpa using hl)] at hk;cases hk;rw[ec] at ek;injection ek with e1 e2
     injection e2 with e2 _
     refine⟨?_,λ c' cu=>?_⟩
     ·rw[ed,eb,Es,decide_eq_false_iff_not];omega
     ·cases cu;rw[ec,eb,Es,decide_eq_false_iff_not];omega
  refine⟨λ c hc=>?_,ck.2⟩;rcases zp.mp hc with z|z
  ·rw[z];exact ck.1
  ·exact i1 c z
noncomputable def B8 (B:List (Int×Int))(L:List Int):Int:=match AM (L.map λ p=>(p,[((AO B L p).length:Int),p])) with
 |some k=>k.1
 |none=>0
theorem NI {B:List (Int×Int)}{L:List Int}(h:L≠[]):B8 B L∈L/\∀p∈L,¬ (((AO B L p).length:Int)<(AO B L (B8 B L)).length\/(((AO B L p).length:Int)=(AO B L (B8 B L)).length/\p<B8 B L)):=by
 unfold B8;cases q:AM (L.map λ p=>(p,[((AO B L p).length:Int),p])) with
 |none=>exact (LG (λ z=>h (List.map_eq_nil_iff.mp z)) q).elim
 |some k =>
  obtain⟨p,hp,rfl⟩:=zJ.mp (Jl _ _ q);refine⟨hp,λ p' ie=>?_⟩;have:=UL (λ b hb=>by obtain⟨x,_,rfl⟩:=zJ.mp hb;exact⟨_,_,rfl⟩) q _ (zJ.mpr ⟨p',ie,rfl⟩);rw[Es,decide_eq_false_iff_not] at this;exact this
noncomputable def QU:Nat->List (Int×Int)->List Int->List Int
 |0,_,_=>[]
 |n+1,B,L=>if L=[] then [] else B8 B L::QU n (BQ B (AO B L (B8 B L))) (L.erase (B8 B L))
noncomputable def Bk (rs:List Road):List (Int×Int):=rs.foldl (λ B r=>match r.l with | none=>B | some _=>JJ B (r.a,r.b)) []
theorem Qe {m:Nat}:∀ {rs:List Road},(∀r∈rs,Gu m r/\r.a≠r.b)->BR m (Bk rs):=by
 intro rs
 suffices z:∀(rs:List Road) (B:List (Int×Int)),BR m B->(∀r∈rs,Gu m r/\r.a≠r.b)->BR m (rs.foldl (λ B r=>match r.l with|none=>B|some _=>JJ B (r.a,r.b)) B) from λ h=>z rs [] ⟨yy,λ x h=>(by cases h),λ p h=>(by cases h)⟩ h
 intro rs;induction rs with
 |nil=>intro B h _;exact h
 |cons r t ih =>
  intro B h hr;rw[ya];refine ih _ ?_ λ r' h'=>hr r' (zf _ h');have:=hr r zd;cases r.l with
  |none=>exact h
  |some l=>exact h.add this.2 ⟨this.1.a0,this.1.a1⟩ ⟨this.1.b0,this.1.b1⟩
theorem CH {f:Int->Int->M D}{a b:Int}:B9 f (.int a) (.int b)=f a b:=rfl
theorem Fb {bs:List Bool}:Wh [.lst (bs.map D.bl)]=.ok (.bl (bs.all id)):=by unfold Wh;dsimp only;rw[Ll]
theorem Fc {bs:List Bool}:kX [.lst (bs.map D.bl)]=.ok (.bl (bs.any id)):=by unfold kX;dsimp only;rw[Ll]
noncomputable def Jg (d:D)(n:Int):Bool:=match d with
 | .int j=>decide (0<=j)&&decide (j<n)
 |_=>false
noncomputable def Ei (m:Nat):D->Bool
 | .lst xs=>(match C5 xs with|some ns=>decide (FV ns=Ay m)|none=>false)
 |_=>false
def lO (d:D):Prop:=Sw d=false/\∀xs,d=.lst xs->xs.length<=1000/\∀e∈xs,Sw e=false
theorem Qf (m:Nat):(Ay m).Pairwise (·<=·):=by
 unfold Ay;rw[xg];exact (List.pairwise_lt_range (n:=m)).imp λ h=>by omega
theorem LW (m:Nat):(Ay m).Nodup:=by
 unfold Ay List.Nodup;rw[xg];exact (List.pairwise_lt_range (n:=m)).imp λ h=>by omega
theorem NJ {m:Nat}{L:List Int}:FV L=Ay m↔L.Perm (Ay m):=
 ⟨λ h=>by rw[<-h];exact (DK L).symm,λ h=>Gq ((DK L).trans h) (Fs L) (Qf m)⟩
theorem LX {m:Nat}{L:List Int}:Ei m (.lst (L.map D.int))=decide (FV L=Ay m):=by unfold Ei;dsimp only;rw[Dd]
theorem RJ {m:Nat}{L:List Int}(h:L.Perm (Ay m)):Ei m (.lst (L.map D.int))=true:=by rw[LX];exact decide_eq_true (NJ.mpr h)
theorem UM {m:Nat}{xs:List D}(h:Ei m (.lst xs)=true):∃L:List Int,xs=L.map D.int/\L.Perm (Ay m):=by
 unfold Ei at h;dsimp only at h;split at h
 ·rename_i ns e;exact⟨ns,Cy e,NJ.mp (of_decide_eq_true h)⟩
 ·cases h
theorem LY {m:Nat}{L:List Int}(h:L.Perm (Ay m)):L.length=m:=by rw[h.length_eq,DM]
theorem DQ {m:Nat}{L:List Int}(h:L.Perm (Ay m)){p:Int}:p∈L↔0<=p/\p<m:=by rw[h.mem_iff,F9]
theorem RK {m:Nat}{L:List Int}(h:L.Perm (Ay m)):L.Nodup:=h.nodup_iff.mpr (LW m)
theorem Qg {m:Nat}{xs:List D}(h:Ei m (.lst xs)=true):xs.length=m/\(xs.map λ e=>Jg e m).all id=true:=by
 obtain⟨L,rfl,hp⟩:=UM h;refine⟨by rw[ze,LY hp],?_⟩;rw[List.all_eq_true];intro b hb;rw[ym] at hb;obtain⟨j,hj,rfl⟩:=zJ.mp hb;have:=(DQ hp).mp hj;show (decide (0<=j)&&decide (j<m))=true;simp only[zV,decide_eq_true_eq];exact this
theorem T6 {m:Nat}:∀ {xs:List D},(xs.map λ e=>Jg e m).all id=true->∃L:List Int,xs=L.map D.int
 |[],_=>⟨[],rfl⟩
 |d::r,h=>by
  rw[zg,List.all_cons,zV] at h;obtain⟨L,rfl⟩:=T6 h.2;cases d with
  |int j=>exact⟨j::L,rfl⟩
  |_=>exact absurd h.1 (by simp[Jg])
theorem NK:∀ {a b:List Int},BY (a.map D.int) (b.map D.int)=decide (a=b)
 |[],[]=>by simp[BY]
 |[],y::t=>by simp[BY]
 |x::r,[]=>by simp[BY]
 |x::r,y::t=>by
  rw[zg,zg,BY,NK,Ap];by_cases h:x=y<;>by_cases k:r=t<;>simp[h,k]
theorem WR {a b:List Int}:Ap (.lst (a.map D.int)) (.lst (b.map D.int))=decide (a=b):=by rw[Ap];exact NK
theorem WS {a b:List Int}:Xz 16 (.lst (a.map D.int)) (.lst (b.map D.int))=.ok (.bl (decide (a=b))):=by rw[Ol (Sz (n:=15) a) (Sz (n:=15) b),WR]
theorem UN {i:Nat}{L:List Int}(h:L.Perm (Ay i))(n:Nat):(L.take n++(i:Int)::L.drop n).Perm (Ay (i+1)):=by
 have e:Ay (i+1)=Ay i++[(i:Int)]:=by unfold Ay;rw[List.range_succ,yh];rfl
 rw[e];refine List.perm_middle.trans ?_;rw[List.take_append_drop];exact ((h.cons _).trans (List.perm_append_singleton _ _).symm)
theorem Z7 {m:Nat}{xs:List D}(h:xs.length≠m):Ei m (.lst xs)=false:=by
 cases q:Ei m (.lst xs) with
 |false=>rfl
 |true=>exact (h (Qg q).1).elim
theorem T7 {i:Nat}{ρ:A9}{ds:List D}{d:D}{p:Int}(hi:ρ[i]?=some (some (.own ds)))(h0:0<=p)(h1:p<ds.length):Yz i ρ (.ok (.int p)) d=.ok (.next (ρ.set i (some (.own (ds.set p.toNat d))))):=by
 unfold Yz;rw[hi];dsimp only;rw[M.A6];unfold fH;dsimp only;rw[Z4 ⟨h0,h1⟩]
theorem UO {ρ:A9}:PQ 0 (none::ρ)=none::ρ:=rfl
theorem WT:∃T Q:Int,Py (.int 10) (.int 60)=.ok (.int T)/\Py (.int 982451653) (.int 7)=.ok (.int Q)/\1000000<T/\T.natAbs<2^200/\0<Q/\Q.natAbs<2^250:=⟨10^60,982451653^7,rfl,rfl,by decide,by decide,by decide,by decide⟩
noncomputable def P6:Int:=zl WT
theorem ZO:∃Q:Int,Py (.int 10) (.int 60)=.ok (.int P6)/\Py (.int 982451653) (.int 7)=.ok (.int Q)/\1000000<P6/\P6.natAbs<2^200/\0<Q/\Q.natAbs<2^250:=zb WT
theorem ZP:Py (.int 10) (.int 60)=.ok (.int P6):=(zb ZO).1
theorem gJ:1000000<P6:=(zb ZO).2.2.1
def cl:Nat->D->Prop
 |0,d=>Sw d=false
 |n+1,d=>Sw d=false/\∀ds,(d=.tup ds\/d=.lst ds)->∀e∈ds,cl n e
theorem cl.x {n:Nat}{d:D}(h:cl n d):Sw d=false:=by cases n with | zero=>exact h | succ n=>exact h.1
theorem WU {n:Nat}{ds:List D}(h:∀e∈ds,cl n e):cl (n+1) (.tup ds):=⟨rfl,λ es e x hx=>by rcases e with e | e<;>cases e;exact h x hx⟩
theorem gL {n:Nat}{ds:List D}(h:∀e∈ds,cl n e):cl (n+1) (.lst ds):=⟨rfl,λ es e x hx=>by rcases e with e | e<;>cases e;exact h x hx⟩
theorem T8 {n:Nat}{d:D}(h:Sw d=false)(h2:∀ds,d≠.tup ds)(h3:∀ds,d≠.lst ds):cl n d:=by
 cases n with
 |zero=>exact h
 |succ n=>exact⟨h,λ ds e=>by rcases e with e|e;exact (h2 ds e).elim;exact (h3 ds e).elim⟩
theorem LZ {n:Nat}{i:Int}:cl n (.int i):=T8 rfl (λ _ h=>by cases h) (λ _ h=>by cases h)
theorem gM {n:Nat}:cl n .AD:=T8 rfl (λ _ h=>by cases h) (λ _ h=>by cases h)
theorem gN {n:Nat}{l:Option Int}:cl n (Ft l):=by cases l;exact gM;exact LZ
theorem WV {n:Nat}:∀e∈([]:List D),cl n e:=λ e h=>by cases h
theorem Hr {n:Nat}{d:D}{ds:List D}(h:cl n d)(t:∀e∈ds,cl n e):∀e∈d::ds,cl n e:=λ e he=>by
 rcases zp.mp he with rfl|he
 ·exact h
 ·exact t e he
theorem lP {n:Nat}{r:Road}:cl (n+1) (FW r):=WU (Hr LZ (Hr LZ (Hr gN (Hr LZ WV))))
theorem gO {n:Nat}{rs:List Road}:∀e∈rs.map FW,cl (n+1) e:=λ e he=>by
 obtain⟨r,_,rfl⟩:=zJ.mp he;exact lP
noncomputable def Et (m:Int):D->Bool
 | .tup [a,b,l,w]=>Jg a m&&(Jg b m&&(!Ap a b&&((BN l||Jg l P6)&&Jg w P6)))
 |_=>false
noncomputable def D5:D->Bool
 | .tup [.int m,.lst rs]=>(Jg (.int m) 17 && !decide (m=0))&&(decide (rs.length<=60)&&(rs.map (Et m)).all id)
 |_=>false
theorem UP {n:D}:D5 (.tup [n])=false:=by cases n<;>rfl
theorem RL {n r z:D}{t:List D}:D5 (.tup (n::r::z::t))=false:=by cases n<;>cases r<;>rfl
structure Kv (m:Nat)(r:Road):Prop where
 a0:0<=r.a
 a1:r.a<m
 b0:0<=r.b
 b1:r.b<m
 ab:r.a≠r.b
 l0:∀l,r.l=some l->0<=l/\l<P6
 w0:0<=r.w
 w1:r.w<P6
theorem J7 {i n:Int}(h0:0<=i)(h1:i<n):Jg (.int i) n=true:=by unfold Jg;simp[h0,h1]
theorem UQ {m:Nat}{r:Road}(h:Kv m r):Et m (FW r)=true:=by
 unfold FW Et;dsimp only;rw[J7 h.a0 h.a1,J7 h.b0 h.b1,J7 h.w0 h.w1];have:Ap (.int r.a) (.int r.b)=false:=by rw[Ap];simp[h.ab]
 rw[this];cases hl:r.l with
 |none=>rfl
 |some l=>have:=h.l0 l hl;rw[show Ft (some l)=.int l from rfl,J7 this.1 this.2];rfl
theorem WW {m:Nat}{rs:List Road}(h1:1<=m)(h2:m<=16)(hl:rs.length<=60)(h:∀r∈rs,Kv m r):D5 (Ac m rs)=true:=by
 unfold Ac D5;dsimp only;rw[J7 (by omega) (by omega),ze,decide_eq_true hl,decide_eq_false (by omega)];have:(((rs.map FW).map (Et m)).all id)=true:=by
  rw[List.all_eq_true];intro b hb;rw[ym] at hb;obtain⟨r,hr,rfl⟩:=zJ.mp hb;exact UQ (h r hr)
 rw[this];rfl
theorem Z8 {a b:OT}:er (.tup [a,b])=.tup [er a,er b]:=by simp[er,Pw]
section
variable {α β:Type}{a b c d e f g:α}{x y:β}
theorem UR:(if [a,b,c,d,e].length<=1000 then x else y)=x:=rfl
theorem US:(if [a,b,c,d,e,f].length<=1000 then x else y)=x:=rfl
theorem UT:(if [a,b,c,d,e,f,g].length<=1000 then x else y)=x:=rfl
theorem Hs {t:Bool}:er (.B6 t [] [])=.B6 t [] []:=by simp[er,Pw]
end
structure rE (m:Nat)(rs:List Road)(rk:Int->Nat)(Af:Int->Int->Co):Prop where
 snd:∀x y c,Af x y=some c->Wk rs x y c/\x≠y/\(0<=x/\x<m)/\0<=y/\y<m
 road:∀r∈rs,Cc (Af r.a r.b) (CU r)
 uB:∀p x y,x≠y->rk p<rk x->rk p<rk y->Cc (Af x y) (AN (Af x p) (Af p y))
 inj:∀x y:Int,0<=x->x<m->0<=y->y<m->rk x=rk y->x=y
 nn:∀x y c,Wk rs x y c->0<=c.1/\0<=c.2
def oU (p q:Int×Int):Prop:=p.1<q.1\/(p.1=q.1/\p.2<=q.2)
theorem WY {a:Co}{q:Int×Int}(h:Cc a (some q)):∃p,a=some p/\oU p q:=by
 cases a with
 |none=>exact h.elim
 |some p=>exact⟨p,rfl,h⟩
section
variable {κ β:Type} [DecidableEq κ]
noncomputable def BE:List (κ×β)->κ->Option β
 |[],_=>none
 |(k,v)::r,x=>if k=x then some v else BE r x
noncomputable def Cn (A:List (κ×β))(k:κ)(v:β):List (κ×β):=if (BE A k).isSome=true then A.map λ kv=>if kv.1=k then (kv.1,v) else kv else A++[(k,v)]
theorem OA (k j:κ)(v:β):∀A:List (κ×β),BE (A.map λ kv=>if kv.1=k then (kv.1,v) else kv) j=if j=k then (BE A j).map λ _=>v else BE A j
 |[]=>by simp[BE]
 |(k',v')::r=>by
  rw[zg];by_cases h1:k'=k
  ·rw[if_pos h1];subst h1;simp only[BE];by_cases h2:k'=j
   ·subst h2;simp
   ·rw[if_neg h2,if_neg h2,OA k' j v r]
  ·rw[if_neg h1];simp only[BE];by_cases h2:k'=j
   ·subst h2;rw[if_pos rfl,if_pos rfl,if_neg h1]
   ·rw[if_neg h2,if_neg h2,OA k j v r]
theorem Qh (k j:κ)(v:β):∀A:List (κ×β),BE A k=none->BE (A++[(k,v)]) j=if j=k then some v else BE A j
 |[],_=>by
  simp only[List.nil_append,BE];by_cases h:k=j
  ·subst h;simp
  ·rw[if_neg h,if_neg (yd h)]
 |(k',v')::r,h=>by
  simp only[BE] at h;by_cases h1:k'=k
  ·rw[if_pos h1] at h;cases h
  ·rw[if_neg h1] at h;rw[xn];simp only[BE];rw[Qh k j v r h];by_cases h2:k'=j
   ·subst h2;rw[if_pos rfl,if_pos rfl,if_neg h1]
   ·rw[if_neg h2,if_neg h2]
theorem J8 (A:List (κ×β))(k j:κ)(v:β):BE (Cn A k v) j=if j=k then some v else BE A j:=by
 unfold Cn;by_cases h:(BE A k).isSome=true
 ·rw[if_pos h,OA];by_cases hj:j=k
  ·subst hj;rw[if_pos rfl,if_pos rfl];obtain⟨x,hx⟩:=y3.mp h;rw[hx];rfl
  ·rw[if_neg hj,if_neg hj]
 ·rw[if_neg h];exact Qh k j v A (by cases e:BE A k with|none=>rfl|some x=>rw[e] at h;exact (h rfl).elim)
theorem Fv:∀ {A:List (κ×β)}{k:κ},(BE A k).isSome=true↔k∈A.map zR
 |[],k=>by simp[BE]
 |(k',v')::r,k=>by
  simp only[BE,zg,zp];by_cases h:k'=k
  ·rw[if_pos h];simp[h]
  ·rw[if_neg h,Fv];simp[yd h]
theorem Qi (A:List (κ×β))(k:κ)(v:β):(Cn A k v).map zR=if (BE A k).isSome=true then A.map zR else A.map zR++[k]:=by
 unfold Cn;split
 ·rw[ym];refine List.map_congr_left λ kv _=>?_;dsimp only [Function.comp];split<;>rfl
 ·rw[yh];rfl
theorem JK {A:List (κ×β)}{k:κ}{v:β}(h:(A.map zR).Nodup):((Cn A k v).map zR).Nodup:=by
 rw[Qi];split
 ·exact h
 ·rename_i hn;rw[Fv] at hn;rw[zS];exact⟨h,by simp,λ x hx y hy=>by rw[zu.mp hy];exact λ e=>hn (e▸hx)⟩
theorem M1 {A:List (κ×β)}{k x:κ}{v:β}(h:x∈(Cn A k v).map zR):x∈A.map zR\/x=k:=by
 rw[Qi] at h;split at h
 ·exact .inl h
 ·rcases zM.mp h with h|h
  ·exact .inl h
  ·exact .inr (zu.mp h)
variable {kf:κ->D}{vf:β->D}(he:∀a b,Ap (kf a) (kf b)=decide (a=b))
include he
theorem M2 (A:List (κ×β))(k:κ):Ks (A.map λ kv=>kf kv.1) (kf k)=(BE A k).isSome:=by
 induction A with
 |nil=>rfl
 |cons kv r ih =>
  obtain⟨k',v'⟩:=kv;unfold Ks at ih ⊢;rw[zg,xh,ih,he];simp only[BE];by_cases h:k'=k
  ·rw[if_pos h,decide_eq_true h];rfl
  ·rw[if_neg h,decide_eq_false h];rfl
theorem Qj (A:List (κ×β))(k:κ):IX (A.map λ kv=>kf kv.1) (A.map λ kv=>vf kv.2) (kf k)=(BE A k).map vf:=by
 induction A with
 |nil=>rfl
 |cons kv r ih =>
  obtain⟨k',v'⟩:=kv;rw[zg,zg,IX,he,ih];simp only[BE];by_cases h:k'=k
  ·rw[decide_eq_true h,if_pos rfl,if_pos h];rfl
  ·rw[decide_eq_false h,if_neg zG,if_neg h]
theorem WZ (k:κ)(v:β)(A:List (κ×β)):HW (A.map λ kv=>kf kv.1) (A.map λ kv=>vf kv.2) (kf k) (vf v)=(A.map λ kv=>if kv.1=k then (kv.1,v) else kv).map λ kv=>vf kv.2:=by
 induction A with
 |nil=>rfl
 |cons kv r ih =>
  obtain⟨k',v'⟩:=kv;rw[zg,zg,HW,he,ih,zg,zg];by_cases h:k'=k
  ·rw[decide_eq_true h,if_pos rfl,if_pos h]
  ·rw[decide_eq_false h,if_neg zG,if_neg h]
theorem Qk (A:List (κ×β))(k:κ)(v:β):putD (A.map λ kv=>kf kv.1) (A.map λ kv=>vf kv.2) (kf k) (vf v)=((Cn A k v).map (λ kv=>kf kv.1),(Cn A k v).map λ kv=>vf kv.2):=by
 unfold putD Cn;rw[M2 he];by_cases h:(BE A k).isSome=true
 ·rw[if_pos h,if_pos h,WZ he];refine Prod.ext ?_ rfl;dsimp only;rw[ym];refine List.map_congr_left λ kv _=>?_;dsimp only [Function.comp];split<;>rfl
 ·rw[if_neg h,if_neg h,yh,yh];rfl
end
theorem M3 (a b:Int):Ap (.int a) (.int b)=decide (a=b):=by
 simp only[Ap];by_cases h:a=b
 ·subst h;simp
 ·simp[h]
noncomputable abbrev LA:=List ((Int×Int)×((Int×Int)×Option Int))
noncomputable def T9 (v:(Int×Int)×Option Int):D:=.tup [cst (some v.1),Ft v.2]
noncomputable def Ir (A:LA):D:=.B6 true (A.map λ kv=>pD kv.1) (A.map λ kv=>T9 kv.2)
noncomputable def Iv (A:LA):OT:=.B6 true (A.map λ kv=>pD kv.1) ((A.map λ kv=>T9 kv.2).map .sh)
noncomputable def Ah (A:LA)(p:Int×Int):Co:=(BE A p).map zR
noncomputable def layA (A:LA)(p:Int×Int)(c:Co)(mid:Option Int):LA:=match c with
 |none=>A
 |some c=>(match BE A p with
  |none=>Cn A p (c,mid)
  |some z=>if c.1<z.1.1\/(c.1=z.1.1/\c.2<z.1.2) then Cn A p (c,mid) else A)
theorem Gv (A:LA)(p q:Int×Int)(c:Co)(mid:Option Int):Ah (layA A p c mid) q=if q=p then HB (Ah A p) c else Ah A q:=by
 unfold layA Ah;cases c with
 |none =>
  by_cases h:q=p
  ·subst h;rw[if_pos rfl];cases BE A q<;>rfl
  ·rw[if_neg h]
 |some c =>
  cases e:BE A p with
  |none =>
   dsimp only;rw[J8];by_cases h:q=p
   ·rw[if_pos h,if_pos h];rfl
   ·rw[if_neg h,if_neg h]
  |some z =>
   dsimp only;by_cases hc:c.1<z.1.1\/(c.1=z.1.1/\c.2<z.1.2)
   ·rw[if_pos hc,J8];by_cases h:q=p
    ·rw[if_pos h,if_pos h];simp only[yf,HB,iQ];rw[if_neg (by omega)]
    ·rw[if_neg h,if_neg h]
   ·rw[if_neg hc];by_cases h:q=p
    ·subst h;rw[if_pos rfl,e];simp only[yf,HB,iQ];rw[if_pos (by omega)]
    ·rw[if_neg h]
theorem RM (A:LA)(p q:Int×Int)(c:Co)(mid:Option Int):Cc (Ah (layA A p c mid) q) (Ah A q):=by
 rw[Gv];split
 ·rename_i h;subst h;exact KR _ _
 ·exact Cd _
theorem X0 {A:LA}{p x:Int×Int}{c:Co}{mid:Option Int}(h:x∈(layA A p c mid).map zR):x∈A.map zR\/x=p:=by
 unfold layA at h;split at h
 ·exact .inl h
 ·split at h
  ·exact M1 h
  ·split at h
   ·exact M1 h
   ·exact .inl h
theorem UU {A:LA}{p:Int×Int}{c:Co}{mid:Option Int}(h:(A.map zR).Nodup):((layA A p c mid).map zR).Nodup:=by
 unfold layA;split
 ·exact h
 ·split
  ·exact JK h
  ·split
   ·exact JK h
   ·exact h
noncomputable def OB (p u:Int)(A:LA)(w:Int):LA:=if u=w then A else layA A (u,w) (AN (Ah A (u,p)) (Ah A (p,w))) (some p)
noncomputable def Z9 (p:Int)(H:List Int)(A:LA)(u:Int):LA:=H.foldl (OB p u) A
noncomputable def gQ (A:LA)(p:Int)(H:List Int):LA:=H.foldl (Z9 p H) A
noncomputable def RN:LA->List Int->LA
 |A,[]=>A
 |A,p::r=>RN (gQ A p r) r
noncomputable def lay0 (rs:List Road):LA:=rs.foldl (λ A r=>layA A (r.a,r.b) (CU r) none) []
noncomputable def Bx (rs:List Road)(L:List Int):LA:=RN (lay0 rs) L
structure Ee (m:Nat)(A:LA):Prop where
 nd:(A.map zR).Nodup
 rg:∀p∈A.map zR,p.1≠p.2/\(0<=p.1/\p.1<m)/\0<=p.2/\p.2<m
theorem Ee.lay {m:Nat}{A:LA}(h:Ee m A){p:Int×Int}{c:Co}{mid:Option Int}(hp:p.1≠p.2/\(0<=p.1/\p.1<m)/\0<=p.2/\p.2<m):Ee m (layA A p c mid):=
 ⟨UU h.nd,λ q hq=>(X0 hq).elim (h.rg q) λ e=>e▸hp⟩
theorem Ee.len {m:Nat}{A:LA}(h:Ee m A)(hm:m<=20):A.length<1000:=by
 have:=BR.len (B:=A.map zR) (m:=m) ⟨h.nd,λ x hx=>(h.rg _ hx).1 rfl,λ q hq=>⟨(h.rg q hq).2.1,(h.rg q hq).2.2⟩⟩ hm;rwa[ze] at this
theorem J9 {α β:Type}{f:β->α->β}(P:List α->β->Prop):∀ {L pre:List α}{b:β},P pre b->(∀a∈L,∀pre b,P pre b->P (pre++[a]) (f b a))->P (pre++L) (L.foldl f b)
 |[],pre,b,h,_=>by rw[yc];exact h
 |a::L,pre,b,h,hs=>by
  have:=J9 P (L:=L) (hs a zd pre b h) λ x hx=>hs x (zf _ hx);rw[List.append_assoc] at this;exact this
def Za (rs:List Road)(A:LA):Prop:=∀x y c,Ah A (x,y)=some c->Wk rs x y c
theorem Za.lay {rs:List Road}{A:LA}(h:Za rs A){x y:Int}{c:Co}{mid:Option Int}(hc:∀p,c=some p->Wk rs x y p):Za rs (layA A (x,y) c mid):=λ u w d hd=>by
 rw[Gv] at hd;split at hd
 ·rename_i e;cases e;rcases Du (Ah A (x,y)) c with ⟨e,_⟩|⟨e,_⟩
  ·rw[e] at hd;exact h _ _ _ hd
  ·rw[e] at hd;exact hc d hd
 ·exact h _ _ _ hd
structure Over (m:Nat)(rs:List Road)(p:Int)(H:List Int)(A0 A:LA):Prop where
 ok:Ee m A
 sd:Za rs A
 le:∀q,Cc (Ah A q) (Ah A0 q)
 sm:∀x y,(x∉H\/y∉H)->Ah A (x,y)=Ah A0 (x,y)
theorem UW {m:Nat}{rs:List Road}{p:Int}{H:List Int}{A0 A:LA}(hp:p∉H)(hH:∀x∈H,0<=x/\x<m)(h:Over m rs p H A0 A){u w:Int}(hu:u∈H)(hw:w∈H):Over m rs p H A0 (OB p u A w)/\(u≠w->Cc (Ah (OB p u A w) (u,w)) (AN (Ah A0 (u,p)) (Ah A0 (p,w)))):=by
 unfold OB;by_cases e:u=w
 ·rw[if_pos e];exact⟨h,λ z=>(z e).elim⟩
 ·rw[if_neg e];have e1:=h.sm u p (.inr hp);have e2:=h.sm p w (.inl hp);refine⟨⟨h.ok.lay ⟨e,hH u hu,hH w hw⟩,h.sd.lay λ c hc=>?_,λ q=>AL (RM _ _ _ _ _) (h.le q),λ x y bO=>?_⟩,λ _=>?_⟩
  ·obtain⟨a,b,ha,hb,rfl⟩:=JI hc;exact (h.sd _ _ _ ha).trans (h.sd _ _ _ hb)
  ·rw[Gv,if_neg (λ z=>by cases z;exact bO.elim (λ q=>q hu) λ q=>q hw)];exact h.sm x y bO
  ·rw[Gv,if_pos rfl,e1,e2];exact KS _ _
theorem ZQ {p u:Int}{A:LA}{w:Int}(q:Int×Int):Cc (Ah (OB p u A w) q) (Ah A q):=by
 unfold OB;split
 ·exact Cd _
 ·exact RM _ _ _ _ _
theorem ZR {p u:Int}(q:Int×Int):∀(H:List Int) (A:LA),Cc (Ah (H.foldl (OB p u) A) q) (Ah A q)
 |[],A=>Cd _
 |w::H,A=>AL (ZR q H (OB p u A w)) (ZQ q)
theorem gR {m:Nat}{rs:List Road}{p:Int}{H:List Int}{A0 A:LA}(hp:p∉H)(hH:∀x∈H,0<=x/\x<m)(h:Over m rs p H A0 A){u:Int}(hu:u∈H):Over m rs p H A0 (Z9 p H A u)/\∀w∈H,u≠w->Cc (Ah (Z9 p H A u) (u,w)) (AN (Ah A0 (u,p)) (Ah A0 (p,w))):=by
 unfold Z9;have:=J9 (L:=H) (pre:=[]) (f:=OB p u) (b:=A) (λ W A=>Over m rs p H A0 A/\∀w∈W,u≠w->Cc (Ah A (u,w)) (AN (Ah A0 (u,p)) (Ah A0 (p,w)))) ⟨h,λ w hw=>by cases hw⟩ λ w hw W B hB=>by
  obtain⟨b1,b2⟩:=hB;obtain⟨c1,c2⟩:=UW hp hH b1 hu hw;refine⟨c1,λ x hx ad=>?_⟩;rcases zM.mp hx with hx|hx
  ·exact AL (ZQ _) (b2 x hx ad)
  ·rw[zu.mp hx] at ad ⊢;exact c2 ad
 exact this
theorem X1 {m:Nat}{rs:List Road}{p:Int}{H:List Int}{A:LA}(hp:p∉H)(hH:∀x∈H,0<=x/\x<m)(h1:Ee m A)(h2:Za rs A):Over m rs p H A (gQ A p H)/\∀u∈H,∀w∈H,u≠w->Cc (Ah (gQ A p H) (u,w)) (AN (Ah A (u,p)) (Ah A (p,w))):=by
 unfold gQ;have:=J9 (L:=H) (pre:=[]) (f:=Z9 p H) (b:=A) (λ U B=>Over m rs p H A B/\∀u∈U,∀w∈H,u≠w->Cc (Ah B (u,w)) (AN (Ah A (u,p)) (Ah A (p,w)))) ⟨⟨h1,h2,λ q=>Cd _,λ x y _=>rfl⟩,λ u hu=>by cases hu⟩ λ u hu U B hB=>by
  obtain⟨b1,b2⟩:=hB;obtain⟨c1,c2⟩:=gR hp hH b1 hu;refine⟨c1,λ x hx w hw ad=>?_⟩;rcases zM.mp hx with hx|hx
  ·exact AL (ZR _ H B) (b2 x hx w hw ad)
  ·rw[zu.mp hx] at ad ⊢;exact c2 w hw ad
 exact this
theorem OC {m:Nat}{rs:List Road}(Ao:∀r∈rs,Gu m r/\r.a≠r.b):Ee m (lay0 rs)/\Za rs (lay0 rs)/\∀r∈rs,Cc (Ah (lay0 rs) (r.a,r.b)) (CU r):=by
 unfold lay0;have:=J9 (L:=rs) (pre:=[]) (f:=λ A r=>layA A (r.a,r.b) (CU r) none) (b:=[]) (λ W A=>Ee m A/\Za rs A/\∀r∈W,Cc (Ah A (r.a,r.b)) (CU r)) ⟨⟨by simp,λ p hp=>by cases hp⟩,⟨(λ _ _ _ h=>by cases h),λ r hr=>by cases hr⟩⟩ λ r hr W B hB=>by
  obtain⟨b1,b2,b3⟩:=hB;obtain⟨o1,o2⟩:=Ao r hr;refine⟨b1.lay ⟨o2,⟨o1.a0,o1.a1⟩,o1.b0,o1.b1⟩,b2.lay λ c hc=>?_,λ x hx=>?_⟩
  ·obtain⟨l,hl,rfl⟩:=LU hc;exact Wk.one hr hl
  ·rcases zM.mp hx with hx|hx
   ·exact AL (RM _ _ _ _ _) (b3 x hx)
   ·rw[zu.mp hx,Gv,if_pos rfl];exact KS _ _
 exact this
noncomputable def MJ:List Int->Int->Nat
 |[],_=>0
 |a::l,x=>if a=x then 0 else MJ l x+1
theorem X2:∀ {pre post:List Int}{p:Int},p∉pre->MJ (pre++p::post) p=pre.length
 |[],post,p,_=>by simp[MJ]
 |a::pre,post,p,h=>by
  rw[zp,not_or] at h;rw[xn,MJ,if_neg (yd h.1),X2 h.2];rfl
theorem X3:∀ {pre post:List Int}{x:Int},x∈pre->MJ (pre++post) x<pre.length
 |a::pre,post,x,h=>by
  rw[xn,MJ];by_cases e:a=x
  ·rw[if_pos e];simp
  ·rw[if_neg e,zo];have:=X3 (post:=post) ((zp.mp h).resolve_left (yd e));omega
theorem Ta:∀ {pre post:List Int}{x:Int},x∉pre->pre.length<=MJ (pre++post) x
 |[],post,x,_=>zW _
 |a::pre,post,x,h=>by
  rw[zp,not_or] at h;rw[xn,MJ,if_neg (yd h.1),zo];have:=Ta (post:=post) h.2;omega
theorem X4:∀ {L:List Int}{x y:Int},x∈L->y∈L->MJ L x=MJ L y->x=y
 |a::l,x,y,hx,hy,e=>by
  rw[MJ,MJ] at e;by_cases h1:a=x
  ·by_cases h2:a=y
   ·rw[<-h1,<-h2]
   ·rw[if_pos h1,if_neg h2] at e;omega
  ·by_cases h2:a=y
   ·rw[if_neg h1,if_pos h2] at e;omega
   ·rw[if_neg h1,if_neg h2] at e;exact X4 ((zp.mp hx).resolve_left (yd h1)) ((zp.mp hy).resolve_left (yd h2)) (by omega)
theorem gU {L:List Int}{x:Int}(h:MJ L x<L.length):x∈L:=by
 refine Classical.byContradiction λ hn=>?_;have:=Ta (pre:=L) (post:=[]) hn;rw[yc] at this;omega
theorem ZS:∀(L:List Int) (x:Int),MJ L x<=L.length
 |[],_=>zv _
 |a::l,x=>by
  rw[MJ,zo];split
  ·omega
  ·have:=ZS l x;omega
theorem Kg:∀ {L:List Int}{p:Int},p∈L->∃pre post,L=pre++p::post/\p∉pre
 |a::l,p,h=>by
  by_cases ha:a=p
  ·subst ha;exact⟨[],l,rfl,by simp⟩
  ·obtain⟨pre,post,e2,hn⟩:=Kg ((zp.mp h).resolve_left (yd ha));exact⟨a::pre,post,by rw[xn,<-e2],by simp[yd ha,hn]⟩
theorem X5 {L:List Int}{p:Int}(h:MJ L p<L.length):∃pre post,L=pre++p::post/\p∉pre/\∀x,MJ L p<MJ L x->x∈L->x∈post:=by
 obtain⟨pre,post,e,hn⟩:=Kg (gU h);refine⟨pre,post,e,hn,λ x hr hx=>?_⟩;subst e;rw[X2 hn] at hr;rcases zM.mp hx with hx|hx
 ·have:=X3 (post:=p::post) hx;omega
 ·rcases zp.mp hx with rfl|hx
  ·rw[X2 hn] at hr;omega
  ·exact hx
theorem gW {m:Nat}{rs:List Road}{L:List Int}(hL:L.Nodup)(hr:∀x∈L,0<=x/\x<m):∀(post pre:List Int) (A:LA),L=pre++post->Ee m A->Za rs A->(∀r∈rs,Cc (Ah A (r.a,r.b)) (CU r))->
 (∀pa p pb,L=pa++p::pb->pa.length<pre.length->∀x∈pb,∀y∈pb,x≠y->Cc (Ah A (x,y)) (AN (Ah A (x,p)) (Ah A (p,y))))->
 Ee m (RN A post)/\Za rs (RN A post)/\(∀r∈rs,Cc (Ah (RN A post) (r.a,r.b)) (CU r))/\∀pa p pb,L=pa++p::pb->∀x∈pb,∀y∈pb,x≠y->Cc (Ah (RN A post) (x,y)) (AN (Ah (RN A post) (x,p)) (Ah (RN A post) (p,y))):=by
 intro post;induction post with
 |nil =>
  intro pre A e h1 h2 h3 h4;rw[yc] at e;refine⟨h1,h2,h3,λ pa p pb e2=>h4 pa p pb e2 ?_⟩;rw[<-e,e2,zT,zo];omega
 |cons p post ih =>
  intro pre A e h1 h2 h3 h4;rw[RN];have hn:(pre++p::post).Nodup:=e▸hL;rw[zS,yA] at hn;have cB:∀x∈post,0<=x/\x<m:=λ x hx=>hr x (by rw[e];simp[hx]);obtain⟨o,ov⟩:=X1 (p:=p) hn.2.1.1 cB h1 h2;refine ih (pre++[p]) (gQ A p post) (by rw[e];simp) o.ok o.sd (λ r bA=>AL (o.le _) (h3 r bA)) λ pa q pb e2 ap x hx y hy ad=>?_;rw[zT,xa] at ap;by_cases hq:pa.length<pre.length
  ·-- an j9 one
   have rc:q∉post:=λ df=>by
    have e3:pre++p::post=pa++q::pb:=by rw[<-e,e2]
    have q1:q∈pre:=by
     have:=congrArg (λ l=>l[pa.length]?) e3;rw[yz hq,xi (zv _),Nat.sub_self] at this;exact zq this
    exact hn.2.2 q q1 q (zf _ df) rfl
   rw[o.sm x q (.inr rc),o.sm q y (.inl rc)];exact AL (o.le _) (h4 pa q pb e2 hq x hx y hy ad)
  ·have az:pa.length=pre.length:=by omega
   have e3:pa++q::pb=pre++p::post:=by rw[<-e2,e]
   obtain⟨rfl,e4⟩:=List.append_inj e3 az;cases e4;rw[o.sm x p (.inr hn.2.1.1),o.sm p y (.inl hn.2.1.1)];exact ov x hx y hy ad
theorem M4 {m:Nat}{rs:List Road}{L:List Int}(hL:L.Perm (Ay m))(Ao:∀r∈rs,Gu m r/\r.a≠r.b):Ee m (Bx rs L)/\rE m rs (MJ L) (λ x y=>Ah (Bx rs L) (x,y)):=by
 have i5:L.Nodup:=RK hL;obtain⟨a1,a2,a3⟩:=OC Ao;obtain⟨b1,b2,b3,b4⟩:=gW i5 (λ x hx=>(DQ hL).mp hx) L [] (lay0 rs) rfl a1 a2 a3 (λ pa p pb _ h=>by simp at h);refine⟨b1,λ x y c h=>?_,b3,λ p x y ad h1 h2=>?_,λ x y x0 x1 y0 y1 e=>X4 ((DQ hL).mpr ⟨x0,x1⟩) ((DQ hL).mpr ⟨y0,y1⟩) e,λ x y c h=>Wk.nn (λ r hr=>(Ao r hr).1) h⟩
 ·have hm:(x,y)∈(RN (lay0 rs) L).map zR:=by
   rw[<-Fv];unfold Ah at h;cases q:BE (Bx rs L) (x,y) with
   |none=>rw[q] at h;cases h
   |some z=>unfold Bx at q;rw[q];rfl
  have:=b1.rg _ hm;exact⟨b2 _ _ _ h,this.1,this.2.1,this.2.2⟩
 ·have aN:∀ {x y:Int} {c:Int×Int},Ah (Bx rs L) (x,y)=some c->x∈L/\y∈L:=fun {x y c} h=>by
   have hm:(x,y)∈(RN (lay0 rs) L).map zR:=by
    rw[<-Fv];unfold Ah at h;cases q:BE (Bx rs L) (x,y) with
    |none=>rw[q] at h;cases h
    |some z=>unfold Bx at q;rw[q];rfl
   have:=b1.rg _ hm;exact⟨(DQ hL).mpr this.2.1,(DQ hL).mpr this.2.2⟩
  have az:MJ L p<L.length:=zC h1 (ZS L x);obtain⟨pre,post,e,hn,cO⟩:=X5 az;cases q1:Ah (Bx rs L) (x,p) with
  |none=>cases Ah (Bx rs L) (x,y)<;>exact trivial
  |some c1 =>
   cases q2:Ah (Bx rs L) (p,y) with
   |none=>cases Ah (Bx rs L) (x,y)<;>exact trivial
   |some c2 =>
    have r:=b4 pre p post e x (cO x h1 (aN q1).1) y (cO y h2 (aN q2).2) ad;rw[<-q1,<-q2];exact r
noncomputable abbrev CA:=List ((Int×Int)×(Int×Int))
noncomputable def tF (C:CA):D:=.B6 true (C.map λ kv=>pD kv.1) (C.map λ kv=>cst (some kv.2))
noncomputable def tG (C:CA):OT:=.B6 true (C.map λ kv=>pD kv.1) ((C.map λ kv=>cst (some kv.2)).map .sh)
noncomputable abbrev RA:=List (Int×(Int×Int))
noncomputable def OD (R:RA):D:=.B6 false (R.map λ kv=>D.int kv.1) (R.map λ kv=>cst (some kv.2))
noncomputable def M5 (R:RA):OT:=.B6 false (R.map λ kv=>D.int kv.1) ((R.map λ kv=>cst (some kv.2)).map .sh)
theorem JL (A:LA):er (Iv A)=Ir A:=Fq
theorem JM (C:CA):er (tG C)=tF C:=Fq
theorem JN (R:RA):er (M5 R)=OD R:=Fq
theorem NL (i:Int):keyOk false (.int i)=true:=rfl
theorem OE (A:LA)(p:Int×Int)(neg:Bool):Kt neg (pD p) (Ir A)=.ok (.bl (if neg=true then !(BE A p).isSome else (BE A p).isSome)):=by
 unfold Ir Kt;dsimp only;rw[if_pos (Qc p),M2 Oy]
theorem OF {A:LA}{p:Int×Int}{v:(Int×Int)×Option Int}(h:BE A p=some v):Bd (Ir A) (pD p)=.ok (T9 v):=by
 unfold Ir Bd;dsimp only;rw[if_pos (Qc p),Qj Oy,h];rfl
theorem RO (R:RA)(p:Int)(neg:Bool):Kt neg (.int p) (OD R)=.ok (.bl (if neg=true then !(BE R p).isSome else (BE R p).isSome)):=by
 unfold OD Kt;dsimp only;rw[if_pos (NL p),M2 (kf:=D.int) M3]
theorem RP {R:RA}{p:Int}{c:Int×Int}(h:BE R p=some c):Bd (OD R) (.int p)=.ok (cst (some c)):=by
 unfold OD Bd;dsimp only;rw[if_pos (NL p),Qj (kf:=D.int) (vf:=λ c=>cst (some c)) M3,h];rfl
theorem X6 (A:LA)(p:Int×Int)(v:(Int×Int)×Option Int):putD (A.map λ kv=>pD kv.1) (A.map λ kv=>T9 kv.2) (pD p) (T9 v)=((Cn A p v).map (λ kv=>pD kv.1),(Cn A p v).map λ kv=>T9 kv.2):=Qk Oy A p v
theorem X7 (R:RA)(p:Int)(c:Int×Int):putD (R.map λ kv=>D.int kv.1) (R.map λ kv=>cst (some kv.2)) (.int p) (cst (some c))=((Cn R p c).map (λ kv=>D.int kv.1),(Cn R p c).map λ kv=>cst (some kv.2)):=Qk (kf:=D.int) (vf:=λ c=>cst (some c)) M3 R p c
noncomputable def Bg (m:Nat)(rs:List Road)(L:List Int)(A:LA)(K:List (Int×Int)):D:=.ins "Ladder" ["own_map","own_order","laid","kept_ones"] [Ac m rs,.lst (L.map D.int),Ir A,.lst (K.map pD)]
structure Fd (m:Nat)(rs:List Road)(L:List Int)(A:LA)(K:List (Int×Int)):Prop where
 m1:1<=m
 m2:m<=16
 rl:rs.length<=60
 ok:∀r∈rs,Gu m r/\r.a≠r.b
 pm:L.Perm (Ay m)
 la:A=Bx rs L
 kn:K.Nodup
 km:∀p,p∈K↔∃c,Ah A p=some c/\Kf rs p.1 p.2 (some c)
theorem Fd.oV {m:Nat}{rs:List Road}{L:List Int}{A:LA}{K:List (Int×Int)}(h:Fd m rs L A K):Ee m A:=by
 rw[h.la];exact (M4 h.pm h.ok).1
theorem Fd.tH {m:Nat}{rs:List Road}{L:List Int}{A:LA}{K:List (Int×Int)}(h:Fd m rs L A K):rE m rs (MJ L) (λ x y=>Ah A (x,y)):=by
 rw[h.la];exact (M4 h.pm h.ok).2
theorem BU {A:LA}{p:Int×Int}{c:Int×Int}(h:Ah A p=some c):p∈A.map zR:=by
 rw[<-Fv];unfold Ah at h;cases q:BE A p with
 |none=>rw[q] at h;cases h
 |some z=>rfl
theorem Fd.Vi {m:Nat}{rs:List Road}{L:List Int}{A:LA}{K:List (Int×Int)}(h:Fd m rs L A K){p:Int×Int}(hp:p∈K):p.1≠p.2/\(0<=p.1/\p.1<m)/\0<=p.2/\p.2<m:=by
 obtain⟨c,hc,_⟩:=(h.km p).mp hp;exact h.oV.rg p (BU hc)
theorem Fd.kl {m:Nat}{rs:List Road}{L:List Int}{A:LA}{K:List (Int×Int)}(h:Fd m rs L A K):K.length<1000:=
 BR.len (m:=m) ⟨h.kn,λ x hx=>(h.Vi hx).1 rfl,λ q hq=>⟨(h.Vi hq).2.1,(h.Vi hq).2.2⟩⟩ (by have:=h.m2;omega)
theorem gY (p q:Int×Int):WI (cst (some p)) (cst (some q))=.ok (.bl (decide (p.1<q.1\/(p.1=q.1/\p.2<q.2)))):=by
 rw[<-Es];rfl
theorem OG {m:M Out}{t r:OT}(h:WP m (λ ρ=>Gn ρ=some t/\OT.sh .AD=r) (λ o=>match o with | .Ed r' ρ=>Gn ρ=some t/\r'=r | _=>False) (λ _=>False)):DH m=.ok (t,r):=by
 cases m with
 |bad|ex x=>exact h.elim
 |ok o =>
  cases o with
  |next ρ=>obtain⟨h1,h2⟩:=(show Gn ρ=some t/\OT.sh .AD=r from h);unfold DH;dsimp only;rw[h1,<-h2]
  |Ed r' ρ=>obtain⟨h1,h2⟩:=(show Gn ρ=some t/\r'=r from h);unfold DH;dsimp only;rw[h1,<-h2]
  |ret d|BZ d|brk d|cont d=>exact h.elim
theorem Fe {F:OT->List D->M (OT×OT)}{ρ:A9}{p:Option Nat}{t t2 r:OT}{av:List D}{i:Nat}(h:ρ[i]?=some (some (.ow (.tree p t))))(hN:Ws t=true)(hF:F t av=.ok (t2,r)):PY i F ρ [] av=.ok (ρ.set i (some (toCl p t2)),r):=by
 rw[Wt h rfl rfl hN hF,CS]
theorem C9 {A:LA}{p:Option Nat}{ρ:A9}:FU 0 (some (.ow (.tree p (Iv A)))::ρ) []=.ok (true,A.map (λ kv=>pD kv.1),A.map λ kv=>T9 kv.2):=BD
theorem Dv {R:RA}{p:Option Nat}{ρ:A9}:FU 0 (some (.ow (.tree p (M5 R)))::ρ) []=.ok (false,R.map (λ kv=>D.int kv.1),R.map λ kv=>cst (some kv.2)):=BD
theorem Ee.ov {m:Nat}{A:LA}(h:Ee m A){p u w:Int}(hu:0<=u/\u<m)(hw:0<=w/\w<m):Ee m (OB p u A w):=by
 unfold OB;split
 ·exact h
 ·rename_i e;exact h.lay ⟨e,hu,hw⟩
theorem Ee.ou {m:Nat}{p u:Int}(hu:0<=u/\u<m):∀ {H:List Int}{A:LA},Ee m A->(∀x∈H,0<=x/\x<m)->Ee m (H.foldl (OB p u) A)
 |[],A,h,_=>h
 |w::H,A,h,hH=>by
  have r:=Ee.ou (A:=OB p u A w) (H:=H) (p:=p) hu (h.ov hu (hH w zd)) λ x hx=>hH x (zf _ hx);exact r
theorem DR {α β:Type}{f:β->α->β}{l:List α}{i:Nat}{x:α}{b:β}(h:l[i]?=some x):(l.take (i+1)).foldl f b=f ((l.take i).foldl f b) x:=by
 rw[yw,h,Option.toList_some,List.foldl_append];rfl
theorem Ee.lo {m:Nat}{p:Int}{H0:List Int}(h0:∀x∈H0,0<=x/\x<m):∀ {H:List Int}{A:LA},Ee m A->(∀x∈H,0<=x/\x<m)->Ee m (H.foldl (Z9 p H0) A)
 |[],A,h,_=>h
 |w::H,A,h,hH=>by
  have r:=Ee.lo (p:=p) (A:=Z9 p H0 A w) (H:=H) h0 (Ee.ou (hH w zd) h h0) λ x hx=>hH x (zf _ hx);exact r
theorem Ht (c:Co):Uc (.ok (.sh (cst c)))=.ok (.sh (cst c)):=by
 cases c<;>rfl
def mS (a b:List Co×Bool):Prop:=b.2=true/\(a.2=false\/(a.2=true/\K9 ltN a.1 b.1))
theorem gZ (x:List Co):Acc mS (x,false):=.intro _ λ y h=>by cases h.1
theorem X8 (x:List Co):Acc mS (x,true):=by
 have:=UE x;induction this with
 |intro x _ ih =>
  refine .intro _ λ y h=>?_;obtain⟨y,b⟩:=y;rcases h.2 with e|⟨e,h2⟩
  ·dsimp only at e;subst e;exact gZ y
  ·dsimp only at e;subst e;exact ih y h2
theorem RQ (n:Nat):C0 0 n=(Ay n).map D.int:=by rw[HR,LV]
theorem Kv.rF {m:Nat}{r:Road}(h:Kv m r):Gu m r/\r.a≠r.b:=⟨⟨h.a0,h.a1,h.b0,h.b1,λ l hl=>(h.l0 l hl).1⟩,h.ab⟩
def KP (rs:List Road)(A:LA)(p:Int×Int):Prop:=∃c,Ah A p=some c/\Kf rs p.1 p.2 (some c)
noncomputable def lQ (A:LA)(cs:List Co)(u w:Int):Bool:=match Ah A (u,w) with
 |none=>false
 |some c=>decide (some c=atC cs w)
theorem X9 {m s:Nat}{rs:List Road}{cs:List Co}{A:LA}(hR:Right m s rs cs)(Ao:∀r∈rs,Gu m r){w:Int}(h0:0<=w)(h1:w<m):lQ A cs s w=true↔KP rs A (s,w):=by
 have hm:=hR.lN Ao h0 h1;unfold lQ KP;cases q:Ah A ((s:Int),w) with
 |none=>simp
 |some c =>
  dsimp only;constructor
  ·intro h;have e:=of_decide_eq_true h;exact⟨c,rfl,e▸hm⟩
  ·rintro ⟨c',e,h⟩;cases e;exact decide_eq_true (h.BL hm)
theorem hU {m:Nat}{rs:List Road}{A:LA}{K:List (Int×Int)}(hA:Ee m A)(hm:m<=20)(hn:K.Nodup)(hK:∀p∈K,KP rs A p):K.length<1000:=by
 have hr:∀p∈K,p.1≠p.2/\(0<=p.1/\p.1<m)/\0<=p.2/\p.2<m:=λ p hp=>by
  obtain⟨c,hc,_⟩:=hK p hp;exact hA.rg p (BU hc)
 exact BR.len (m:=m) ⟨hn,λ x hx=>(hr _ hx).1 rfl,λ q hq=>⟨(hr q hq).2.1,(hr q hq).2.2⟩⟩ hm
theorem JO:∀ds:List D,(∀d∈ds,IR d=true)->FT (ds.map .sh)=true
 |[],_=>rfl
 |d::ds,h=>by
  rw[zg,FT,Hx,h d zd,JO ds λ x hx=>h x (zf _ hx)];rfl
theorem Ql {ds:List D}(h:∀d∈ds,IR d=true):Uc (.ok (.lst (ds.map .sh)))=.ok (.lst (ds.map .sh)):=by
 unfold Uc;simp only[M.A6];rw[Hx,JO ds h];rfl
theorem Xa (L:List Int):Uc (.ok (.lst ((L.map D.int).map .sh)))=.ok (.lst ((L.map D.int).map .sh)):=Ql λ d hd=>by
 obtain⟨x,_,rfl⟩:=zJ.mp hd;rfl
theorem Zb (K:List (Int×Int)):Uc (.ok (.lst ((K.map pD).map .sh)))=.ok (.lst ((K.map pD).map .sh)):=Ql λ d hd=>by
 obtain⟨x,_,rfl⟩:=zJ.mp hd;exact WO x
theorem hV (v:(Int×Int)×Option Int):IR (T9 v)=true:=by
 obtain⟨c,l⟩:=v;cases l<;>rfl
theorem Zc (A:LA):Uc (.ok (Iv A))=.ok (Iv A):=by
 unfold Uc Iv;simp only[M.A6];rw[Hx,JO _ λ d hd=>by
  obtain⟨x,_,rfl⟩:=zJ.mp hd;exact hV x.2]
 rfl
inductive Wi (rs:List Road) (s:Int) (W:List Int):Int->Int×Int->Prop
 |nil:Wi rs s W s (0,0)
 |snoc {x:Int} {c:Int×Int} {r:Road} {l:Int}:Wi rs s W x c->r∈rs->r.a=x->r.l=some l->(x=s\/x∈W)->Wi rs s W r.b (c.1+l,c.2+1)
theorem UX {α:Type}{a b c d e f g h:D}{x y:α}:(if [a,b,c,d,e,f,g,h].length<=1000 then x else y)=x:=if_pos (by simp)
theorem NM (r:Road):dp (.ok (FW r))=.ok (FW r):=by
 obtain⟨a,b,l,w⟩:=r;cases l<;>rfl
theorem JP (i:Int):dp (.ok (.int i))=.ok (.int i):=rfl
theorem Qm:∀(n:Nat) (B:List (Int×Int)) (L:List Int),L.length=n->(QU n B L).Perm L
 |0,B,L,h=>by rw[List.length_eq_zero_iff.mp h];exact .refl _
 |n+1,B,L,h=>by
  have ad:L≠[]:=λ e=>by rw[e] at h;cases h
  have hm:=(NI (B:=B) ad).1;rw[QU,if_neg ad];refine List.Perm.trans ?_ (List.perm_cons_erase hm).symm;exact (Qm n _ _ (by rw[List.length_erase_of_mem hm,h];rfl)).cons _
section
variable {X:Cx}{WX:Str->Hp->Prop}{c:Bool}{P0:Ea}{P:Addr->Prop}{H:Hp}{σ:St}{ρ:A9}{a b e tg iter:Expr}{f g:A9->M D}{ft:A9->M Bool}{pos:Pos}{gt:D->A9->M A9}{fi:A9->M (List D)}
theorem hX (ha:DE X WX true e f):DI X WX tg e (λ ρ=>(f ρ).bind λ d=>match d with | .tup ds=>.ok ds | _=>.bad):=by
 obtain⟨ta,a1,a2⟩:=ha;refine⟨_,dO a1,λ P0 P σ H R ρ E h=>?_⟩;dsimp only at h;refine a2 P0 P σ H _ ρ E ?_;cases q:f ρ with
 |bad|ex x=>rw[q] at h;exact h
 |ok d =>
  rw[q] at h;cases d with
  |tup ds =>
   intro v H1 s1 hv;cases hv with
   | @tup a xs _ hh hl =>
    have at':∀ {P':Addr->Prop} {H':Hp},Ab (del H1 P) (del H' P')->El X.K H' a xs:=λ s=>.inl (.inl (Am (s a _ hh)).2);refine⟨a,rfl,⟨xs,.inl (.inl (Am hh).2)⟩,h _ H1 s1 ⟨λ i P' H' s hi=>?_,λ i P' H' s hi=>?_,λ i P' H' v dv d s ht hd y=>?_⟩⟩
    ·obtain⟨x,hx,_⟩:=hl.get (zr hi);exact⟨xs,x,at' s,hx⟩
    ·exact⟨xs,at' s,by rw[hl.length];exact hi⟩
    ·obtain⟨rfl,y⟩:=y;obtain⟨x,hx,bT⟩:=hl.get hd;have e:=y xs (at' s);rw[hx] at e;cases e;exact⟨Ab.refl _,bT.mono s⟩
  |_=>exact h.elim
end
theorem Zd (m:Nat)(rs:List Road):er (.tup [.sh (.int m),.lst ((rs.map FW).map .sh)])=Ac m rs:=by
 rw[er,Pw,Kc,Pw,Gp,Pw];rfl
structure Ja (h:Heap)(d:Addr)(es:Array DictEntry)(ep:Nat):Prop where
 at':∃o,h.get? d=some o/\o.ExactDict/\o.data=.dict es ep
section
variable {prog:Program}{w:World}{A:Around}{E:Value->Shared->Prop}{s:Shared}{d it:Addr}{es:Array DictEntry}{ep i:Nat}
theorem Ja.ty (x:Ja s.heap d es ep):s.TypeIs (.ref d) "dict" := let ⟨o,h,c,_⟩:=x.at';⟨o,h,c.1⟩
theorem Ze {Q:Value->Shared->Prop}(hs:(d==sysModules)=false)(x:Ja s.heap d es ep)
 (q:Q (.ref s.heap.objs.size) {s with heap:=s.heap.push {cls:=.type "dict_keyiterator",data:=.fields #[.ref d,.int 0 0,.int es.size 0,.int ep 0]} }):wpAny (model prog w) A (pyIter (.ref d)) Q E s:=by
 have t:=x.ty;obtain⟨o,h1,h2,h3⟩:=x.at';apply wpAny_pyIter_slot t F.slot_dict_iter;apply wpAny_call_entry F.slot_dict_iter t F.entry_dict_iter _ (F.args_dict_iter_1 _);rw[Builtin.«dict.__iter__»];apply wpAny_bind;rw[Builtin.Dict.dictSlotNone];apply wpAny_bind;apply wpAny_notOrdered_dict t;refine wpAny_pure (a:=zX d) ?_;refine wpAny_bind (m:=Builtin.Dict.showsAll d) ?_;rw[Builtin.Dict.showsAll,hs];refine wpAny_pure ?_;apply wpAny_bind;apply wpAny_dictEntries h1 h3;apply wpAny_bind;apply wpAny_dictEpoch h1 h3;apply wpAny_bind;refine wpAny_newObj_type (wpAny_pure ⟨_,rfl,"dict_keyiterator",_,⟨_,zA _ rfl,rfl⟩,F.slot_dict_keyiterator_next.lookup,?_⟩);simpa [rawInt] using q
theorem Qn {Q:Option Value->Shared->Prop}(hh:A.handled=none)(hit:s.heap.IsKeyIter it d i es.size ep)(x:Ja s.heap d es ep)
 (go:∀(hi:i<es.size) (h':Heap),h'.IsKeyIter it d (i+1) es.size ep->yR it s.heap h'->Q (some es[i].key) {s with heap:=h' })
 (no:es.size<=i->∀h',Heap.ExtBut it s.heap h'->Q none {s with heap:=h' }):wpAny (model prog w) A (pyNext (.ref it)) Q E s:=by
 obtain⟨io,g1,g2,g3⟩:=id hit;obtain⟨o,h1,h2,h3⟩:=x.at';have t:=hit.typeIs;rw[pyNext];apply wpAny_bind;apply wpAny_attempt;apply wpAny_callSpecial?_slot (name:=Str.ofString "__next__") t F.slot_dict_keyiterator_next;apply wpAny_call_entry F.slot_dict_keyiterator_next t F.entry_dict_keyiterator_next _ (F.args_dict_keyiterator_next_1 _);apply wpAny_bind;refine wpAny_pure ?_;apply wpAny_bind;apply wpAny_bind;apply wpAny_bind;apply wpAny_typeNameOfWhole_keyiter t;refine wpAny_pure ?_;apply wpAny_bind;apply wpAny_fieldsOf g1 g3;rw[show Builtin.Dict_items.ownsTuple "dict_keyiterator" = false from by decide];show wpAny _ _ (ite ((zX d==yE)=true) _ _) _ _ s;have nn:¬ (zX d==yE)=true:=nofun;rw[if_neg nn];apply wpAny_bind;refine wpAny_pure (a:=d) ?_;apply wpAny_bind;apply wpAny_dictEntries h1 h3;rw[if_neg (by simp)];apply wpAny_bind;refine wpAny_pure (a:=d) ?_;apply wpAny_bind;apply wpAny_dictEpoch h1 h3;rw[if_neg (by simp)];refine wpAny_pure ?_;have i0:¬ (i:Int)<0:=by omega
 by_cases hi:i<es.size
 ·simp only[i0,if_false,yk,yJ hi];apply wpAny_bind;apply wpAny_bind;apply wpAny_typeNameOfWhole_keyiter t;refine wpAny_pure ?_;apply wpAny_bind;apply wpAny_isOneOf_keyiter t;refine wpAny_bind (m:=setField (.ref it) 1 (rawInt ((i:Int)+1))) ?_;apply wpAny_setField g1 g3 (by simp);have st:(s.heap.update it (Obj.mapFields (·.setIfInBounds 1 (rawInt ((i:Int)+1))))).IsKeyIter it d (i+1) es.size ep:=
   ⟨_,yH _ g1 (Obj.isFreed_of_fields (Obj.data_mapFields g3 _)),(Obj.cls_mapFields ..).trans g2,by rw[Obj.data_mapFields g3];simp[rawInt]⟩
  apply wpAny_bind;apply wpAny_holding;apply wpAny_bind;apply wpAny_isOneOf_keyiter st.typeIs;refine wpAny_pure (a:=es[i].key) ?_;exact wpAny_pure ⟨_,rfl,wpAny_pure (go hi _ st (yK ..))⟩
 ·have ja:es.size<=i:=by omega
  simp only[i0,if_false,yk,Array.getElem?_eq_none ja];apply wpAny_bind;apply wpAny_bind;apply wpAny_typeNameOfWhole_keyiter t;refine wpAny_pure ?_;refine wpAny_bind (m:=setField (.ref it) 0 .none) ?_;apply wpAny_setField g1 g3 (by simp);apply wpAny_bind;rw[newExc];apply wpAny_bind;rw[newTuple];refine wpAny_newObj_type ?_ (by size_fits);apply wpAny_bind;refine wpAny_of_eq (a:=yE) (by simp only[firstArgMember];rfl) ?_;refine wpAny_newObj_type ?_ (by size_fits);simp only[raiseNew];apply wpAny_bind;apply wpAny_handled;rw[show A.in1.handled=none from hh];refine wpAny_bind (wpAny_pure (wpAny_throw ?_));refine wpAny_bind (wpAny_isInstance (T := "StopIteration") (b:=true) ⟨_,zA _ rfl,rfl⟩ isSubtype_stop ?_);exact wpAny_pure (no ja _ (((yK ..).extBut.push _).push _))
end
section
variable {X:Cx}{pins:List (Addr×Obj)}{σ:St}{H:Hp}{s:Shared}{a:Addr}{o:Obj}{kvs:List (List Key×V)}
noncomputable abbrev lR (H:Hp)(kvs:List (List Key×V))(xs:List (List Key×Addr×Value)):Prop:=Paired (λ(p:List Key×V) (q:List Key×Addr×Value)=>p.1=q.1/\H q.2.1=some (.tup (p.1.map kV))/\RelV p.2 q.2.2) kvs xs
theorem lR.get:∀ {kvs:List (List Key×V)}{xs:List (List Key×Addr×Value)},lR H kvs xs->∀ {i:Nat}{q:List Key×Addr×Value},xs[i]?=some q->∃p,kvs[i]?=some p/\H q.2.1=some (.tup (p.1.map kV))
 |_,_,.nil,i,q,e=>by cases e
 |_,_,.cons h t,0,q,e=>by cases e;exact⟨_,rfl,h.2.1⟩
 |_,_,.cons h t,i+1,q,e=>lR.get t (i:=i) e
end
noncomputable def CI (m:Nat)(R:RA):List Co:=(zD m).map λ i:Nat=>BE R (i:Int)
noncomputable def bt (R:RA)(y:Int)(v:Int×Int):Bool:=match BE R y with
 |none=>true
 |some z=>decide (v.1<z.1\/(v.1=z.1/\v.2<z.2))
theorem lS {R:RA}{y:Int}{v:Int×Int}(h:bt R y v=true):Cc (some v) (BE R y)/\some v≠BE R y:=by
 unfold bt at h;cases q:BE R y with
 |none=>exact⟨trivial,λ z=>by cases z⟩
 |some z =>
  rw[q] at h;have h':v.1<z.1\/(v.1=z.1/\v.2<z.2):=by simpa using h
  refine⟨by simp only[Cc];omega,λ e=>?_⟩;cases e;omega
theorem ZT {R:RA}{y:Int}{v:Int×Int}(h:bt R y v=false):Cc (BE R y) (some v):=by
 unfold bt at h;cases q:BE R y with
 |none=>rw[q] at h;cases h
 |some z =>
  rw[q] at h;have h':¬ (v.1<z.1\/(v.1=z.1/\v.2<z.2)):=by simpa using h
  simp only[Cc];omega
theorem RS {m:Nat}{R:RA}{y:Int}{v:Int×Int}(h0:0<=y):CI m (Cn R y v)=(CI m R).set y.toNat (some v):=by
 unfold CI;apply List.ext_getElem?;intro i;rw[List.getElem?_set,zB,zB,ze,List.length_range];by_cases hi:i<m
 ·rw[yB hi,yf,yf,J8];by_cases e:y.toNat=i
  ·rw[if_pos e,if_pos (by omega),if_pos (by omega)]
  ·rw[if_neg e,if_neg (by omega)]
 ·rw[yG (by rw[List.length_range];omega)];by_cases e:y.toNat=i
  ·rw[if_pos e,if_neg (by omega)];rfl
  ·rw[if_neg e];rfl
theorem UY {m:Nat}{R:RA}{y:Int}(h0:0<=y)(h1:y<m):(CI m R)[y.toNat]?=some (BE R y):=by
 unfold CI;rw[zB,yB (by omega),yf,yT h0]
structure XA (m:Nat)(rs:List Road)(s:Int)(W:List Int)(R:RA):Prop where
 nd:(R.map zR).Nodup
 rg:∀k∈R.map zR,0<=k/\k<(m:Int)
 sd:∀y c,BE R y=some c->Wi rs s W y c
 st:Cc (BE R s) (some (0,0))
def mU (rs:List Road)(s:Int)(W:List Int)(R:RA):Prop:=∀r∈rs,∀l c,r.l=some l->BE R r.a=some c->(r.a=s\/r.a∈W)->Cc (BE R r.b) (some (c.1+l,c.2+1))
section
variable {m:Nat}{rs:List Road}{s:Int}{W:List Int}{R:RA}
theorem XA.start (h0:0<=s)(h1:s<m):XA m rs s W [(s,(0,0))]:=by
 have e:∀y,BE ([(s,(0,0))]:RA) y=if s=y then some (0,0) else none:=λ y=>rfl
 refine⟨by simp,λ k hk=>by simp at hk;omega,λ y c h=>?_,?_⟩
 ·rw[e] at h;by_cases q:s=y
  ·rw[if_pos q] at h;cases h;subst q;exact .nil
  ·rw[if_neg q] at h;cases h
 ·rw[e,if_pos rfl];exact Cd _
theorem Wi.nn (Ao:∀r∈rs,Gu m r){y:Int}{c:Int×Int}(h:Wi rs s W y c):0<=c.1/\0<=c.2:=by
 induction h with
 |nil=>exact⟨Int.le_refl _,Int.le_refl _⟩
 | @snoc x c r l _ h1 h2 h3 h4 ih =>
  have:=(Ao r h1).l0 l h3;exact⟨by dsimp only;omega,by dsimp only;omega⟩
theorem XA.put (h:XA m rs s W R)(Ao:∀r∈rs,Gu m r){r:Road}{l:Int}{c:Int×Int}(hr:r∈rs)(hl:r.l=some l)(hc:BE R r.a=some c)(hi:r.a=s\/r.a∈W)(hb:bt R r.b (c.1+l,c.2+1)=true):
 XA m rs s W (Cn R r.b (c.1+l,c.2+1))/\K9 ltN (CI m (Cn R r.b (c.1+l,c.2+1))) (CI m R):=by
 have ok:=Ao r hr;have wi:Wi rs s W r.b (c.1+l,c.2+1):=.snoc (h.sd _ _ hc) hr rfl hl hi;obtain⟨b1,b2⟩:=lS hb;refine⟨⟨JK h.nd,λ k hk=>?_,λ y d hd=>?_,?_⟩,?_⟩
 ·rcases M1 hk with hk|hk
  ·exact h.rg k hk
  ·rw[hk];exact⟨ok.b0,ok.b1⟩
 ·rw[J8] at hd;by_cases e:y=r.b
  ·rw[if_pos e] at hd;cases hd;rw[e];exact wi
  ·rw[if_neg e] at hd;exact h.sd y d hd
 ·rw[J8];by_cases e:s=r.b
  ·rw[if_pos e];rw[<-e] at b1;exact AL b1 h.st
  ·rw[if_neg e];exact h.st
 ·rw[RS ok.b0];exact Om ltN (UY ok.b0 ok.b1) ⟨by have:=wi.nn Ao;simp only[NN];omega,b1,b2⟩
structure Zf (m:Nat)(rs:List Road)(s:Int)(W:List Int)(R:RA):Prop where
 nd:(R.map zR).Nodup
 rg:∀k∈R.map zR,0<=k/\k<(m:Int)
 sd:∀y c,BE R y=some c->Wi rs s W y c
 le:∀y c,Wi rs s W y c->Cc (BE R y) (some c)
theorem XA.fin (h:XA m rs s W R)(hc:mU rs s W R):Zf m rs s W R:=by
 refine⟨h.nd,h.rg,h.sd,λ y c hw=>?_⟩;induction hw with
 |nil=>exact h.st
 | @snoc x c r l _ h1 h2 h3 h4 ih =>
  obtain⟨d,hd,hle⟩:=WY ih;rw[<-h2] at hd h4;refine AL (hc r h1 l d h3 hd h4) ?_;simp only[Cc,oU] at *;omega
end
theorem lT {n:Nat}(p:Int×Int):Pl (n+1) (pD p):=Wa (KG (Fn _) (KG (Fn _) Wc))
section
variable {P:Program}{w:World}{A:Around}{E:Value->Shared->Prop}{s:Shared}{a b:Addr}
noncomputable abbrev TK (P:Program)(w:World):=tupleKind (Bc P w)
structure tI (P:Program)(w:World)(h:Heap)(d:Addr)(es:Array DictEntry)(ep:Nat)(xs:List (List Key×Addr×Value)):Prop where
 ob:Ja h d es ep
 en:es.toList=xs.map (entryOfKey (TK P w))
 is:∀x∈xs,(TK P w).is h x.1 x.2.1
 nd:(xs.map (·.1)).Nodup
end
section
variable {X:Cx}{WX:Str->Hp->Prop}{c:Bool}{P0:Ea}{P:Addr->Prop}{H:Hp}{σ:St}{ρ:A9}{a b e:Expr}{f g:A9->M D}{pos p:Pos}
theorem hZ {s:Shared}{pins:List (Addr×Obj)}{l:Addr}{ka:List (List Key×V)}(I:Inv X pins σ H s)(h:Rd H l (.dT ka)):(l==sysModules)=false/\∃es ep xs,lR H ka xs/\tI X.prog X.w s.heap l es ep xs:=by
 obtain⟨z,y,xs,r,o,es,ep,h1,h2,h3,h4,h5⟩:=(show Bi X.prog X.w H s.heap l (.dT ka) from VH I.Ao h);obtain⟨_,_,bM,r2,o2,tw,tx,g1,g2,g3,g4,g5,g6⟩:=L8 I.Ao h;exact⟨y,tw,tx,bM,r2,⟨⟨o2,g1,g2,g3⟩,g4,g5,g6⟩⟩
open Classical in
theorem Tb:∀ {ks iz:List Key},ks.map Eo=iz.map Eo->ks=iz
 |[],[],_=>rfl
 |[],_::_,h|_::_,[],h=>by cases h
 |k::ks,k'::iz,h=>by
  rw[zg,zg] at h;injection h with h1 h2
  have e:k=k':=by
   cases k<;>cases k'<;>first|(cases h1;rfl)|cases h1
  rw[e,Tb h2]
end
section
variable {P:Program}{w:World}{A:Around}{d it:Addr}{es:Array DictEntry}{ep:Nat}
theorem Ja.keep {h h':Heap}(x:Ja h d es ep)(k:∀o,h.get? d=some o->h'.get? d=some o):Ja h' d es ep:=let ⟨o,a,b⟩:=x.at';⟨o,k o a,b⟩
theorem Xb (hh:A.handled=none)(ad:d≠it):Walks P w A it [it,d] [it] es.size (λ i v=>∃hi:i<es.size,v=es[i].key) (λ i h=>h.IsKeyIter it d i es.size ep/\Ja h d es ep) where
 sub:=λ b hb=>by simp at hb;simp[hb]
 frame:=λ _ _ _ st hk=>⟨st.1.at λ o e=>hk it (by simp) o e,st.2.keep λ o e=>hk d (by simp) o e⟩
 item:=λ i s Q E hi st hQ=>Qn hh st.1 st.2 (λ hi h' aY sb=>hQ _ h' s.toks ⟨hi,rfl⟩ ⟨aY,st.2.keep λ o e=>sb.extBut d o ad e⟩ λ b o hb e=>sb.extBut b o (λ z=>hb (by simp[z])) e) λ z=>absurd z (by omega)
 done:=λ s Q E st hQ=>Qn hh st.1 st.2 (λ hi=>absurd hi (by omega)) λ _ h' eb=>hQ h' s.toks λ b o hb e=>eb b o (λ z=>hb (by simp[z])) e
 self:=λ _ _ _ _ st hQ=>wpAny_pyIter_keyiter st.1 hQ
theorem Ja.lt {h:Heap}(x:Ja h d es ep):d<h.objs.size:=let ⟨_,a,_⟩:=x.at';zt a
theorem iA (lo:(d==sysModules)=false):PySem.W.KdlSrc P w "dict" d d es.size (λ i v=>∃hi:i<es.size,v=es[i].key) (λ h=>Ja h d es ep) where
 type:=λ _ x=>x.ty
 there:=λ _ x=>⟨x.lt,x.lt⟩
 keep:=λ _ _ x hk=>x.keep λ o e=>hk d (.inl rfl) o e
 notList:=by decide
 notTuple:=by decide
 hint:=λ _ _ _ _ x hq=>PySem.W.kdl_hint_dict x.ty hq
 iter:=λ _ _ hh x=>⟨_,_,(λ _ _ hq=>Ze lo x hq),Xb hh (zI x.lt),⟨⟨_,zA _ rfl,rfl,rfl⟩,x.keep λ o e=>zh _ e⟩⟩
end
open PySem PySem.Spec PyProof.Rows PySem.W
def Tc {α:Type}(c:Nat->Nat->Bool)(n:Nat):KasT α->(α->Prop)->Prop
 | .ret a,Q=>Q a
 | .ask i j k,Q=>i<n/\j<n/\Tc c n (k (c i j)) Q
section
variable {c:Nat->Nat->Bool}{n:Nat}
theorem Ff {α β:Type}{f:α->KasT β}{Q:β->Prop}:∀t:KasT α,Tc c n t (λ a=>Tc c n (f a) Q)->Tc c n (t.bind f) Q
 | .ret a,h=>h
 | .ask i j k,h=>⟨h.1,h.2.1,Ff (k (c i j)) h.2.2⟩
theorem CT {α:Type}{Q Q':α->Prop}(hq:∀a,Q a->Q' a):∀t:KasT α,Tc c n t Q->Tc c n t Q'
 | .ret a,h=>hq a h
 | .ask i j k,h=>⟨h.1,h.2.1,CT hq (k (c i j)) h.2.2⟩
theorem Xc {α:Type}{cmp:Nat->Nat->(Bool->Shared->Prop)->Shared->Prop}{s:Shared}(hc:∀i j C,i<n->j<n->C (c i j) s->cmp i j C s){Q:α->Prop}{G:α->Shared->Prop}(hG:∀a,Q a->G a s):∀t:KasT α,Tc c n t Q->t.kasWp cmp G s
 | .ret a,h=>hG a h
 | .ask i j k,h=>hc i j _ h.1 h.2.1 (Xc hc hG (k (c i j)) h.2.2)
end
section
variable {f:Nat->Int}{n:Nat}
noncomputable def gK (f:Nat->Int)(p:Array Nat)(i:Nat):Int:=f (p.getD i 0)
noncomputable def cK (f:Nat->Int)(i j:Nat):Bool:=decide (f i<f j)
structure Iw (n:Nat)(p:Array Nat):Prop where
 pm:p.toList.Perm (zD n)
def Inj (f:Nat->Int)(n:Nat):Prop:=∀i j,i<n->j<n->f i=f j->i=j
theorem Iw.size {p:Array Nat}(h:Iw n p):p.size=n:=by
 have:=h.pm.length_eq;simpa using this
theorem iB {p:Array Nat}{i:Nat}{x:Nat}(h:p[i]?=some x):p.getD i 0=x:=by
 rw[yg,h];rfl
theorem Iw.at' {p:Array Nat}(h:Iw n p){i:Nat}(hi:i<n):p[i]?=some (p.getD i 0):=by
 have hs:i<p.size:=by rw[h.size];exact hi
 rw[yJ hs,iB (yJ hs)]
theorem Iw.lt {p:Array Nat}(h:Iw n p)(hn:0<n)(i:Nat):p.getD i 0<n:=by
 by_cases hi:i<n
 ·have:=Array.mem_of_getElem? (h.at' hi);have:=h.pm.mem_iff.mp (Array.mem_toList_iff.mpr this);simpa using this
 ·rw[yg,Array.getElem?_eq_none (by rw[h.size];omega)];exact hn
theorem Iw.ne {p:Array Nat}(h:Iw n p)(hf:Inj f n){i j:Nat}(hi:i<n)(hj:j<n)(ad:i≠j):gK f p i≠gK f p j:=λ e=>by
 have e2:=hf _ _ (h.lt (by omega) i) (h.lt (by omega) j) e;have i5:p.toList.Nodup:=h.pm.nodup_iff.mpr List.nodup_range;have a1:=h.at' hi;have a2:=h.at' hj;rw[e2] at a1;rw[<-Array.getElem?_toList] at a1 a2;have tz:i<p.toList.length:=by rw[yv,h.size];exact hi
 exact ad ((List.getElem?_inj tz i5).mp (a1.trans a2.symm))
theorem Iw.tJ {p:Array Nat}(h:Iw n p)(s d:Nat):Iw n (bubble p s d):=⟨(Array.perm_iff_toList_perm.mp (bubble_perm p s d)).trans h.pm⟩
theorem Iw.tK {p:Array Nat}(h:Iw n p)(i j d:Nat):Iw n (mirror p i j d):=⟨(Array.perm_iff_toList_perm.mp (mirror_perm p i j d)).trans h.pm⟩
def Vb (f:Nat->Int)(p:Array Nat)(k:Nat):Prop:=∀i j,i<j->j<k->gK f p i<gK f p j
def mV (f:Nat->Int)(p:Array Nat)(k:Nat):Prop:=∀i j,i<j->j<k->gK f p j<gK f p i
theorem RT {p:Array Nat}(h:Iw n p)(hf:Inj f n):∀(u m:Nat),1<=m->m+u<=n->Vb f p m->Tc (cK f) n (kas_asc p u m) λ m'=>m<=m'/\m'<=m+u/\Vb f p m'/\(m'<m+u->gK f p m'<gK f p (m'-1))
 |0,m,h1,h2,hs=>⟨zv _,zv _,hs,λ z=>absurd z (Nat.lt_irrefl _)⟩
 |u+1,m,h1,h2,hs=>by
  refine⟨h.lt (by omega) _,h.lt (by omega) _,?_⟩;by_cases e:gK f p m<gK f p (m-1)
  ·rw[show cK f (p.getD m 0) (p.getD (m-1) 0)=true from decide_eq_true e];dsimp only;rw[if_pos rfl];exact⟨zv _,by omega,hs,λ _=>e⟩
  ·rw[show cK f (p.getD m 0) (p.getD (m-1) 0)=false from decide_eq_false e];dsimp only;rw[if_neg zG];have ne:=h.ne hf (i:=m) (j:=m-1) (by omega) (by omega) (by omega);have aS:Vb f p (m+1):=λ i j c4 hj=>by
    by_cases ej:j=m
    ·subst ej;by_cases ei:i=j-1
     ·subst ei;omega
     ·have:=hs i (j-1) (by omega) (by omega);omega
    ·exact hs i j c4 (by omega)
   refine CT (λ m' hm=>⟨by omega,by omega,hm.2.2.1,λ z=>hm.2.2.2 (by omega)⟩) _ (RT h hf u (m+1) (by omega) (by omega) aS)
theorem Td {p:Array Nat}(h:Iw n p)(hf:Inj f n):∀(u m:Nat),1<=m->m+u<=n->mV f p m->Tc (cK f) n (kas_desc u p m 0) λ r=>r.1=p/\r.2.2=0/\m<=r.2.1/\r.2.1<=m+u/\mV f p r.2.1
 |0,m,h1,h2,hs=>⟨rfl,rfl,zv _,zv _,hs⟩
 |u+1,m,h1,h2,hs=>by
  refine⟨h.lt (by omega) _,h.lt (by omega) _,?_⟩;by_cases e:gK f p m<gK f p (m-1)
  ·rw[show cK f (p.getD m 0) (p.getD (m-1) 0)=true from decide_eq_true e];dsimp only;rw[if_pos rfl,if_neg (by omega)];have aS:mV f p (m+1):=λ i j c4 hj=>by
    by_cases ej:j=m
    ·subst ej;by_cases ei:i=j-1
     ·subst ei;exact e
     ·have:=hs i (j-1) (by omega) (by omega);omega
    ·exact hs i j c4 (by omega)
   exact CT (λ r hm=>⟨hm.1,hm.2.1,by omega,by omega,hm.2.2.2.2⟩) _ (Td h hf u (m+1) (by omega) (by omega) aS)
  ·rw[show cK f (p.getD m 0) (p.getD (m-1) 0)=false from decide_eq_false e];dsimp only;rw[if_neg zG];have ne:=h.ne hf (i:=m) (j:=m-1) (by omega) (by omega) (by omega);have e2:gK f p (m-1)<gK f p m:=by omega
   refine⟨h.lt (by omega) _,h.lt (by omega) _,?_⟩;rw[show cK f (p.getD (m-1) 0) (p.getD m 0)=true from decide_eq_true e2];dsimp only;rw[if_pos rfl];exact⟨rfl,rfl,zv _,Nat.le_add_right _ _,hs⟩
theorem Te {p:Array Nat}(h:Iw n p){m:Nat}(hm:m<=n){k:Nat}(hk:k<m):gK f (kas_rev p 0 m) k=gK f p (m-1-k):=by
 unfold gK kas_rev;have:=getElem?_mirror_all (xs:=p) (i:=0) (j:=m) (by rw[h.size];exact hm) k;rw[if_pos ⟨zW _,hk⟩,Nat.zero_add] at this;rw[yg,this,<-yg]
theorem Zg {p:Array Nat}(h:Iw n p)(hf:Inj f n){m:Nat}(h1:1<=m)(h2:m<=n)(hs:mV f p m):Tc (cK f) n (kas_tail3 m n p) λ r=>Iw n r.2/\1<=r.1/\r.1<=n/\Vb f r.2 r.1:=by
 unfold kas_tail3;have hp:Iw n (kas_rev p 0 m):=h.tK _ _ _;have aS:Vb f (kas_rev p 0 m) m:=λ i j c4 hj=>by
  rw[Te h h2 (by omega),Te h h2 hj];exact hs _ _ (by omega) (by omega)
 refine Ff _ (CT (λ m' hm=>?_) _ (RT hp hf (n-m) m h1 (by omega) aS));exact⟨hp,by omega,by omega,hm.2.2.1⟩
theorem Xd {p:Array Nat}(h:Iw n p)(hf:Inj f n)(h2:2<=n):Tc (cK f) n (kas_count n p) λ r=>Iw n r.2/\1<=r.1/\r.1<=n/\Vb f r.2 r.1:=by
 unfold kas_count;refine Ff _ (CT (λ m hm=>?_) _ (RT h hf (n-1) 1 (zv _) (by omega) λ i j c4 hj=>by omega));by_cases e:m=n
 ·rw[if_pos (by simp[e])];exact⟨h,by omega,by omega,hm.2.2.1⟩
 ·rw[if_neg (by simp[e])];by_cases e1:m > 1
  ·rw[if_pos e1];refine⟨h.lt (by omega) _,h.lt (by omega) _,?_⟩;rw[show cK f (p.getD 0 0) (p.getD (m-1) 0)=true from decide_eq_true (hm.2.2.1 0 (m-1) (by omega) (by omega))];dsimp only;rw[if_pos rfl];exact⟨h,by omega,by omega,hm.2.2.1⟩
  ·rw[if_neg e1];have em:m=1:=by omega
   subst em;have hd:gK f p 1<gK f p 0:=hm.2.2.2 (by omega);unfold kas_descPart;refine Ff _ (CT (λ r hr=>?_) _ (Td h hf (n-(1+1)) (1+1) (by omega) (by omega) λ i j c4 hj=>?_))
   ·obtain⟨r1,r2,r3,r4,r5⟩:=hr;rw[if_neg (by omega),r1];exact Zg h hf (by omega) (by omega) r5
   ·have ei:i=0:=by omega
    have ej:j=1:=by omega
    subst ei ej;exact hd
theorem M6 {p:Array Nat}(h:Iw n p){k:Nat}(hk:k<n)(hs:Vb f p k):∀(u l r:Nat),l<=r->r<=k->r-l<=u->(∀i,i<l->¬ gK f p k<gK f p i)->(∀i,r<=i->i<k->gK f p k<gK f p i)->
 Tc (cK f) n (kas_place p k u l r) λ l'=>l'<=k/\(∀i,i<l'->¬ gK f p k<gK f p i)/\∀i,l'<=i->i<k->gK f p k<gK f p i
 |0,l,r,h1,h2,h3,ha,hb=>by
  have:l=r:=by omega
  subst this;exact⟨h2,ha,hb⟩
 |u+1,l,r,h1,h2,h3,ha,hb=>by
  unfold kas_place;by_cases e:l >= r
  ·rw[if_pos e];have:l=r:=by omega
   subst this;exact⟨h2,ha,hb⟩
  ·rw[if_neg e];have cm:l<=(l+r) / 2:=by omega
   have b8:(l+r) / 2<r:=by omega
   refine⟨h.lt (by omega) _,h.lt (by omega) _,?_⟩;by_cases q:gK f p k<gK f p ((l+r) / 2)
   ·rw[show cK f (p.getD k 0) (p.getD ((l+r) / 2) 0)=true from decide_eq_true q];dsimp only;rw[if_pos rfl];refine M6 h hk hs u l _ cm (by omega) (by omega) ha λ i uC ja=>?_;by_cases ei:i=(l+r) / 2
    ·subst ei;exact q
    ·have:=hs ((l+r) / 2) i (by omega) ja;omega
   ·rw[show cK f (p.getD k 0) (p.getD ((l+r) / 2) 0)=false from decide_eq_false q];dsimp only;rw[if_neg zG];refine M6 h hk hs u _ r (by omega) h2 (by omega) (λ i hi=>?_) hb;by_cases ei:i=(l+r) / 2
    ·subst ei;exact q
    ·have:=hs i ((l+r) / 2) (by omega) (by omega);omega
theorem Tf {p:Array Nat}(h:Iw n p){k l:Nat}(hk:k<n)(hl:l<=k)(i:Nat):gK f (bubble p k (k-l)) i=if i=l then gK f p k else if l<i/\i<=k then gK f p (i-1) else gK f p i:=by
 unfold gK;have:=getElem?_bubble (xs:=p) (src:=k) (by rw[h.size];exact hk) (k-l) (by omega) i;have e:k-(k-l)=l:=by omega
 rw[e] at this;rw[yg,this];split
 ·rw[<-yg]
 ·split<;>rw[<-yg]
theorem Xe (hf:Inj f n):∀(u k:Nat){p:Array Nat},k+u=n->Iw n p->Vb f p k->Tc (cK f) n (kas_bin u p k) λ p'=>Iw n p'/\Vb f p' n
 |0,k,p,e,h,hs=>by
  have:k=n:=by omega
  subst this;exact⟨h,hs⟩
 |u+1,k,p,e,h,hs=>by
  unfold kas_bin;refine Ff _ (CT (λ l hl=>?_) _ (M6 h (by omega) hs k 0 k (zW _) (zv _) (by omega) (λ i hi=>absurd hi (by omega)) λ i h1 h2=>absurd h2 (by omega)));obtain⟨gf,ha,hb⟩:=hl;refine Xe hf u (k+1) (by omega) (h.tJ _ _) λ i j c4 hj=>?_;rw[Tf h (by omega) gf,Tf h (by omega) gf];have lo:∀i,i<l->gK f p i<gK f p k:=λ i hi=>by
   have:=ha i hi;have:=h.ne hf (i:=i) (j:=k) (by omega) (by omega) (by omega);omega
  by_cases ei:i=l
  ·rw[if_pos ei,if_neg (by omega),if_pos (by omega)];exact hb _ (by omega) (by omega)
  ·rw[if_neg ei];by_cases ej:j=l
   ·rw[if_pos ej,if_neg (by omega)];exact lo i (by omega)
   ·rw[if_neg ej];by_cases bi:l<i/\i<=k
    ·rw[if_pos bi,if_pos (by omega)];exact hs _ _ (by omega) (by omega)
    ·rw[if_neg bi];by_cases bj:l<j/\j<=k
     ·rw[if_pos bj];exact hs _ _ (by omega) (by omega)
     ·rw[if_neg bj];exact hs _ _ c4 (by omega)
theorem Zh (hf:Inj f n)(h2:2<=n):Tc (cK f) n (kas_sort n) λ p'=>Iw n p'/\Vb f p' n:=by
 unfold kas_sort;have h0:Iw n (List.toArray (zD n)):=⟨by simp⟩;refine Ff _ (CT (λ r hr=>?_) _ (Xd h0 hf h2));obtain⟨r1,r2,r3,r4⟩:=hr;by_cases e:r.1<n
 ·rw[if_pos e];have em:max r.1 1=r.1:=by omega
  rw[em];exact Xe hf (n-r.1) r.1 (by omega) r1 r4
 ·rw[if_neg e];have en:r.1=n:=by omega
  rw[en] at r4;exact⟨r1,r4⟩
end
structure CY (h:Heap)(v:Value)(q:Int×Int):Prop where
 at':∃a o t u n,v=.ref a/\h.get? a=some o/\o.cls=.type "tuple" /\ o.data=.seq #[.int q.1 t,.int q.2 u] n
theorem CY.keep {h h':Heap}{v:Value}{q:Int×Int}(x:CY h v q)(k:∀b o,h.get? b=some o->h'.get? b=some o):CY h' v q:=by
 obtain⟨a,o,t,u,n,e,ho,r⟩:=x.at';exact⟨a,o,t,u,n,e,k _ _ ho,r⟩
noncomputable def Zi (p q:Int×Int):Bool:=decide (p.1<q.1\/(p.1=q.1/\p.2<q.2))
section
variable {P:Program}{w:World}{A:Around}{E:Value->Shared->Prop}{s:Shared}
theorem Zj {v v':Value}{p q:Int×Int}{C:Bool->Shared->Prop}(hv:CY s.heap v p)(ln:CY s.heap v' q)(h:C (Zi p q) s):wpAny (model P w) A (keyLt' (tuples' true) v v') C E s:=by
 obtain⟨a,o,t,u,n,rfl,ho,_,hd⟩:=hv.at';obtain⟨b,o',t',u',n',rfl,bH,_,bT⟩:=ln.at';refine kat_lt ho hd bH bT ?_;refine kat_cons (SeqAt.EqAt.int_int p.1 t q.1 t' _ _ _ _ ?_);refine kat_go (λ e=>kat_yes (kat_cons (SeqAt.EqAt.int_int p.2 u q.2 u' _ _ _ _ (kat_go (λ e2=>kat_yes (kat_nil ?_)) λ e2=>kat_no ?_)))) λ e=>kat_no ?_
 ·have e1:p.1=q.1:=by simpa using e
  have e3:p.2=q.2:=by simpa using e2
  have:Zi p q=false:=by unfold Zi;rw[e1,e3];simp
  rw[this] at h;exact h
 ·have e1:p.1=q.1:=by simpa using e
  have:Zi p q=decide (p.2<q.2):=by unfold Zi;rw[e1];simp
  rw[this] at h;show wpAny _ _ (oneLt' false (.int p.2 u) (.int q.2 u')) _ _ _;exact kat_one _ _ (lt_int h)
 ·have e1:p.1≠q.1:=by simpa using e
  have:Zi p q=decide (p.1<q.1):=by unfold Zi;simp[e1]
  rw[this] at h;show wpAny _ _ (oneLt' true (.int p.1 t) (.int q.1 t')) _ _ _;exact oneLt_int h
theorem UZ {vs:List Value}{Q:SortKind->Shared->Prop}(ad:0<vs.length)(hv:∀v∈vs,∃q,CY s.heap v q)(h:Q (tuples' true) s):wpAny (model P w) A (keyKind' vs.toArray) Q E s:=by
 have key:∀l:List Value,(∀v∈l,∃q,CY s.heap v q)->∃fs,KatTups s.heap l fs/\fs.length=l.length/\∀f∈fs,∃i t,f=Value.int i t:=by
  intro l;induction l with
  |nil=>exact λ _=>⟨[],.nil,rfl,λ f hf=>by cases hf⟩
  |cons v r ih =>
   intro hl;obtain⟨q,hq⟩:=hl v zd;obtain⟨a,o,t,u,n,rfl,ho,hc,hd⟩:=hq.at';obtain⟨fs,k1,k2,k3⟩:=ih λ v hv=>hl v (zf _ hv);refine⟨.int q.1 t::fs,.cons ho hc hd rfl k1,by rw[zo,zo,k2],λ f hf=>?_⟩;rcases zp.mp hf with rfl|hf
   ·exact⟨_,_,rfl⟩
   ·exact k3 f hf
 obtain⟨fs,k1,k2,k3⟩:=key vs hv;refine kat_kind (T:=.type "int") k1 (by omega) (λ f hf=>?_) rfl h;obtain⟨i,t,rfl⟩:=k3 f hf;exact .of_pure rfl
noncomputable def Gw (q:Int×Int):Int:=q.1*1000+q.2
theorem iC {p q:Int×Int}(hp:0<=p.2/\p.2<1000)(hq:0<=q.2/\q.2<1000):Zi p q=decide (Gw p<Gw q):=by
 unfold Zi Gw;congr 1;apply propext;constructor<;>intro h<;>omega
theorem Tg {p q:Int×Int}(hp:0<=p.2/\p.2<1000)(hq:0<=q.2/\q.2<1000)(h:Gw p=Gw q):p=q:=by
 unfold Gw at h;exact Prod.ext (by omega) (by omega)
theorem RU {a:Addr}{vs:List Value}{ps:List (Int×Int)}{n:Nat}{Q:PySem.Fin->Shared->Prop}(ho:s.heap.get? a=some (seqObj "list" vs.toArray n))(re:vs.length<64)(hl:ps.length=vs.length)(hv:∀(i:Nat) v q,vs[i]?=some v->ps[i]?=some q->CY s.heap v q)(hb:∀q∈ps,0<=q.2/\q.2<1000)(hn:ps.Nodup)
 (h:∀(I:List Nat),I.Perm (zD vs.length)->(I.map λ i=>ps.getD i (0,0)).Pairwise (λ p q=>Gw p<Gw q)->Q (.done (.ret .none)) {s with heap:=sortedHeap s.heap a vs (I.map λ i=>vs.getD i yE).toArray}):
 wpAny (model P w) A (Builtin.«list.sort» ⟨[.ref a],[]⟩) Q E s:=by
 rw[list_sort_plain];have ha:a<s.heap.objs.size:=zt ho;apply wpAny_bind;apply listItems_at ho rfl;apply wpAny_bind;refine listUpdate_at ho rfl ?_ (by rw[zj,sizeLine_eq];omega) (zW _);obtain⟨e1,rf⟩:∃e1,(s.heap.update a (yr λ _=>(#[]:Array Value))).get? a=some (seqObj "list" #[] e1):=⟨_,get?_update_seq ho λ _=>#[]⟩;apply wpAny_bind;apply seqEpoch_at rf rfl;apply wpAny_bind;refine wpAny_newTuple ?_ (by show vs.length<=_;rw[sizeLine_eq];omega);apply wpAny_bind;refine wpAny_newList ?_ (zW _);apply wpAny_holding;have jb:(((s.heap.update a (yr λ _=>(#[]:Array Value))).push (seqObj "tuple" vs.toArray 0)).push (seqObj "list" #[] 0)).get? a=some (seqObj "list" #[] e1):=zh _ (zh _ rf);show wpAny (model P w) A _ Q E {s with heap:=((s.heap.update a (yr λ _=>(#[]:Array Value))).push (seqObj "tuple" vs.toArray 0)).push (seqObj "list" #[] 0)};dsimp only;obtain⟨h6,n4⟩:∃h6,h6=((s.heap.update a (yr λ _=>(#[]:Array Value))).push (seqObj "tuple" vs.toArray 0)).push (seqObj "list" #[] 0):=⟨_,rfl⟩;have fin:∀(I:List Nat),I.Perm (zD vs.length)->(I.map λ i=>ps.getD i (0,0)).Pairwise (λ p q=>Gw p<Gw q)->∀(z:Array Value),z=(I.map λ i=>vs.getD i yE).toArray->Q (.done (.ret .none)) {s with heap:=h6.update a (yr λ _=>z)}:=λ I i1 i2 z hz=>by
  rw[hz,n4];exact h I i1 i2
 rw[<-n4] at jb ⊢;have kp:∀b o,b≠a->s.heap.get? b=some o->h6.get? b=some o:=λ b o hb e=>by
  rw[n4];exact zh _ (zh _ ((Heap.get?_update_ne _ _ _ _ hb).trans e))
 have t5:∀(i:Nat) v q,vs[i]?=some v->ps[i]?=some q->CY h6 v q:=λ i v q hi hq=>by
  obtain⟨b,o,t,u,k,e,g1,g2,g3⟩:=(hv i v q hi hq).at';refine⟨b,o,t,u,k,e,kp b o (λ z=>?_) g1,g2,g3⟩;rw[z,ho] at g1;cases g1;injection g2 with g2
  exact absurd g2 (by decide)
 by_cases h2:vs.toArray.size<2
 ·rw[if_pos h2,if_pos h2];refine wpAny_bind (wpAny_pure ?_);rw[StateT.run_pure];refine wpAny_bind (wpAny_pure ?_);dsimp only;have ez:(arrOf (SortSt.mk' general' (vs.toArray.zip vs.toArray) #[] 7 none)).map (·.2)=((zD vs.length).map λ i=>vs.getD i yE).toArray:=by
   show (vs.toArray.zip vs.toArray).map (·.2)=_;apply Array.ext_getElem?;intro i;simp only[Array.getElem?_map,List.getElem?_toArray,zB];by_cases hi:i<vs.length
   ·rw[yB hi];simp[Array.getElem?_zip_eq_some,hi,zL]
   ·rw[yG (by simp;omega),Array.getElem?_eq_none (by simp;omega)];rfl
  apply wpAny_bind;apply seqEpoch_at jb rfl;apply wpAny_bind;refine listUpdate_at jb rfl ?_ (zW _) (by rw[ez];simp;rw[sizeLine_eq];omega);simp only[bne_self_eq_false,zy,if_false];refine wpAny_pure (fin _ (.refl _) ?_ _ ez);rw[zj] at h2;have aQ:((zD vs.length).map λ i=>ps.getD i (0,0)).length<2:=by simpa using h2
  match hq:(zD vs.length).map λ i=>ps.getD i (0,0),aQ with
  |[],_=>exact .nil
  |[x],_=>exact List.pairwise_singleton _ _
  |x::y::r,z=>exact absurd z (by simp only[zo];omega)
 ·rw[if_neg h2,if_neg h2];rw[zj] at h2;have f0:∀i,i<vs.length->∃v q,vs[i]?=some v/\ps[i]?=some q/\vs.getD i yE=v/\ps.getD i (0,0)=q/\CY h6 v q/\0<=q.2/\q.2<1000:=λ i hi=>by
   have a1:vs[i]?=some vs[i]:=zr hi;have a2:ps[i]?=some (ps[i]'(by omega)):=zr _;exact⟨_,_,a1,a2,by rw[zL,a1];rfl,by rw[zL,a2];rfl,t5 i _ _ a1 a2,hb _ (zq a2)⟩
  apply wpAny_bind;refine UZ (s:={s with heap:=h6}) (by omega) (λ v hv=>?_) ?_
  ·obtain⟨i,hi⟩:=List.mem_iff_getElem?.mp hv;obtain⟨v',q,b1,_,_,_,b5,_⟩:=f0 i (zE.mp hi).1;rw[hi] at b1;cases b1;exact⟨q,b5⟩
  have n5:Inj (λ i=>Gw (ps.getD i (0,0))) vs.length:=λ i j hi hj e=>by
   obtain⟨_,q,_,b2,_,b4,_,b6⟩:=f0 i hi;obtain⟨_,q',_,d2,_,d4,_,d6⟩:=f0 j hj;dsimp only at e;rw[b4,d4] at e;have:=Tg b6 d6 e;subst this;exact (List.getElem?_inj (by omega) hn).mp (b2.trans d2.symm)
  have n6:∀(i j:Nat) (C:Bool->Shared->Prop),i<vs.length->j<vs.length->C (cK (λ i=>Gw (ps.getD i (0,0))) i j) {s with heap:=h6}->kas_ask P w A (tuples' true) vs i j C {s with heap:=h6}:=λ i j C hi hj hC=>by
   obtain⟨v,q,_,_,b3,b4,b5,b6⟩:=f0 i hi;obtain⟨v',q',_,_,d3,d4,d5,d6⟩:=f0 j hj;unfold kas_ask;rw[b3,d3];refine Zj (s:={s with heap:=h6}) b5 d5 ?_;subst b4 d4;rw[iC b6 d6];exact hC
  refine wpAny_bind (wpAny_mono (kat_run (ks:=vs) (vs:=vs) (κ:=tuples' true) (s:={s with heap:=h6}) (Q:=λ bo s'=>∃p:Array Nat,arrOf bo=p.map (kas_item (vs.toArray.zip vs.toArray))/\failedOf bo=none/\Iw vs.length p/\Vb (λ i=>Gw (ps.getD i (0,0))) p vs.length/\s'={s with heap:=h6}) (G:=λ p s'=>Iw vs.length p/\Vb (λ i=>Gw (ps.getD i (0,0))) p vs.length/\s'={s with heap:=h6})
   rfl (by omega) re (λ p bo s' _ a2 a3 a4=>⟨p,a2,a3,a4⟩) (Xc n6 (λ p hp=>⟨hp.1,hp.2,rfl⟩) _ (Zh n5 (by omega)))) ?_ λ _ _ e=>e)
  rintro ⟨⟨⟩,bo⟩ s' ⟨p,n9,hf,hp,t6,rfl⟩;dsimp only;have jc:=kat_snds rfl n9;apply wpAny_bind;apply seqEpoch_at jb rfl;apply wpAny_bind;refine listUpdate_at jb rfl ?_ (zW _) (by rw[jc];simp;rw[hp.size,sizeLine_eq];omega);rw[hf];simp only[bne_self_eq_false,zy,if_false];refine wpAny_pure (fin p.toList hp.pm ?_ _ jc);rw[xg,List.pairwise_iff_getElem];intro i j hi hj c4;rw[yv,hp.size] at hi hj;have:=t6 i j c4 hj;unfold gK at this;have g1:=hp.at' hi;have g2:=hp.at' hj;rw[<-Array.getElem?_toList,zE] at g1 g2;obtain⟨_,g1⟩:=g1;obtain⟨_,g2⟩:=g2;rw[g1,g2];exact this
end
section
variable {P:Program}{w:World}{A:Around}{E:Value->Shared->Prop}{s:Shared}{d:Addr}{es:Array DictEntry}{ep:Nat}
theorem RV {R:List Value->Shared->Prop}(hh:A.handled=none)(lo:(d==sysModules)=false)(x:Ja s.heap d es ep)(hz:es.size<=sizeLine)
 (q:∀(h':Heap) (tk:Nat) (acc:Array Value),(∀b o,s.heap.get? b=some o->h'.get? b=some o)->s.heap.objs.size<h'.objs.size->ItemsOf (λ i v=>∃hi:i<es.size,v=es[i].key) acc es.size->R acc.toList {s with heap:=h',toks:=tk}):wpAny (model P w) A (collect (.ref d)) R E s:=by
 rw[collect];apply wpAny_bind;apply wpAny_runValue;apply codeAny_builtin entry_proto_collect';rw[yN PySem.F.plain_proto_collect _];refine wpAny_bind (m:=newList []) ?_;refine wpAny_newObj_type (wpAny_pure ⟨plainId_quiet PySem.F.plain_list_iadd _,codeAny_builtin entry_list_iadd' ?_⟩);rw[yN PySem.F.plain_list_iadd _];have g0:(s.heap.push {cls:=.type "list",data:=.seq ([]:List Value).toArray}).get? s.heap.objs.size=some {cls:=.type "list",data:=.seq #[]}:=zA _ rfl;have key:=kdl_extend (prog:=P) (w:=w) (A:=A) (s:={s with heap:=s.heap.push {cls:=.type "list",data:=.seq ([]:List Value).toArray} })
  (R:=λ r s'=>∃h' tk acc c,r=.ok (.ret (.ref s.heap.objs.size))/\s'={s with heap:=h',toks:=tk}/\(∀b o,s.heap.get? b=some o->h'.get? b=some o)/\h'.get? s.heap.objs.size=some {cls:=.type "list",dict:=none,data:=.seq acc c,slots:=#[]}/\ItemsOf (λ i v=>∃hi:i<es.size,v=es[i].key) acc es.size)
  (iA lo) hh (x.keep λ o e=>zh _ e) s.heap.objs.size (Nat.ne_of_gt x.lt) (Nat.ne_of_gt x.lt) (.ref s.heap.objs.size) 0 g0
  (λ h' tk acc c kp gS hi=>⟨h',tk,acc,c,rfl,rfl,λ b o e=>kp b o (zI (zt e)) (zh _ e),gS,hi⟩) hz
 have last:∀ {h':Heap} {tk:Nat} {acc:Array Value} {c:Nat},(∀b o,s.heap.get? b=some o->h'.get? b=some o)->h'.get? s.heap.objs.size=some {cls:=.type "list",dict:=none,data:=.seq acc c,slots:=#[]}->ItemsOf (λ i v=>∃hi:i<es.size,v=es[i].key) acc es.size->
  wpAny (model P w) A (load s.heap.objs.size >>= λ o=>match o.data with | .seq xs _=>pure xs.toList|_=>unsupported "internal:collect") R E {s with heap:=h',toks:=tk}:=λ kp gS hi =>
  wpAny_bind (wpAny_load gS (wpAny_pure (q _ _ _ kp (zt gS) hi)))
 refine wpAny_mono key (λ fin s' z=>?_) λ e s' z=>?_
 ·cases fin with
  |done f =>
   obtain⟨h',tk,acc,c,e,rfl,kp,gS,hi⟩:=z;cases e;exact last kp gS hi
  |again c1 =>
   refine⟨z.1,codeAny_mono z.2 λ r s2 y=>?_⟩;obtain⟨h',tk,acc,c,rfl,rfl,kp,gS,hi⟩:=y;exact last kp gS hi
 ·obtain⟨_,_,_,_,e',_⟩:=z;cases e'
theorem V0 {ps:List (Int×Int)}{Q:Value->Shared->Prop}(hh:A.handled=none)(lo:(d==sysModules)=false)(x:Ja s.heap d es ep)(re:es.size<64)(hl:ps.length=es.size)(hv:∀(i:Nat) (hi:i<es.size) q,ps[i]?=some q->CY s.heap es[i].key q)(hb:∀q∈ps,0<=q.2/\q.2<1000)(hn:ps.Nodup)
 (h:∀(h':Heap) (tk:Nat) (D:Addr) (c:Nat) (I:List Nat) (vs:List Value),(∀b o,s.heap.get? b=some o->h'.get? b=some o)->s.heap.objs.size<=D->vs.length=es.size->(∀(i:Nat) (hi:i<es.size),vs[i]?=some es[i].key)->h'.get? D=some (seqObj "list" (I.map λ i=>vs.getD i yE).toArray c)->I.Perm (zD es.size)->(I.map λ i=>ps.getD i (0,0)).Pairwise (λ p q=>Gw p<Gw q)->Q (.ref D) {s with heap:=h',toks:=tk}):
 wpAny (model P w) A (call (.builtin "sorted") [.ref d]) Q E s:=by
 apply Calls.call_function_entry kind_sorted plain_sorted entry_sorted (args_sorted1 _);rw[Builtin.«sorted»];refine wpAny_bind (m:=checkCount "sorted" 1 1 _) (wpAny_pure ?_);apply wpAny_bind;refine RV hh lo x (by rw[sizeLine_eq];omega) λ h1 tk acc kp rh hi=>?_;have hsz:acc.size=es.size:=hi.1;have aM:∀(i:Nat) (hi:i<es.size),acc.toList[i]?=some es[i].key:=λ i ja=>by
  have e:acc[i]?=some (acc[i]'(by omega)):=yJ _;obtain⟨_,e2⟩:=hi.2 i _ e;rw[Array.getElem?_toList,e,e2]
 apply wpAny_bind;refine wpAny_newList ?_ (by rw[yv,hsz,sizeLine_eq];omega);have cX:(h1.push (seqObj "list" acc.toList.toArray 0)).get? h1.objs.size=some (seqObj "list" acc.toList.toArray 0):=zA _ rfl;have oa:∀b o,s.heap.get? b=some o->(h1.push (seqObj "list" acc.toList.toArray 0)).get? b=some o:=λ b o e=>zh _ (kp b o e);show wpAny _ _ _ _ _ {s with heap:=h1.push (seqObj "list" acc.toList.toArray 0),toks:=tk};refine wpAny_bind (wpAny_holding (wpAny_call_entry slot_list_sort ⟨_,cX,rfl⟩ entry_list_sort ?_ (args_list_sort _)));have hlen:acc.toList.length=es.size:=by rw[yv,hsz]
 refine RU (s:={s with heap:=h1.push (seqObj "list" acc.toList.toArray 0),toks:=tk}) (ps:=ps) cX (by omega) (by omega) (λ i v q hi hq=>?_) hb hn λ I i1 i2=>⟨_,rfl,wpAny_pure ⟨_,rfl,?_⟩⟩
 ·have ap:i<es.size:=by rw[<-hlen];exact (zE.mp hi).1
  rw[aM i ap] at hi;cases hi;exact (hv i ap q hq).keep oa
 ·obtain⟨c,hc⟩:=sortedHeap_at (out:=(I.map λ i=>acc.toList.getD i yE).toArray) cX;refine h _ tk _ c I acc.toList (λ b o e=>?_) (yj rh) hlen aM hc (by rw[<-hlen];exact i1) i2;have ap:b<s.heap.objs.size:=zt e;exact (sortedHeap_old (zI (Nat.lt_trans ap rh)) (zt (oa b o e))).trans (oa b o e)
end
noncomputable def Xf (p:Int×Int):List Key:=[.inl p.1,.inl p.2]
noncomputable def V1 (x:Int×Int):List (Int×Int)->List (Int×Int)
 |[]=>[x]
 |y::r=>if Gw x<Gw y then x::y::r else y::V1 x r
noncomputable def Kh:List (Int×Int)->List (Int×Int)
 |[]=>[]
 |x::r=>V1 x (Kh r)
theorem JQ (x:Int×Int):∀l,(V1 x l).Perm (x::l)
 |[]=>.refl _
 |y::r=>by
  unfold V1;split
  ·exact .refl _
  ·exact ((JQ x r).cons y).trans (.swap x y r)
theorem CJ:∀l,(Kh l).Perm l
 |[]=>.refl _
 |x::r=>(JQ x (Kh r)).trans ((CJ r).cons x)
theorem Th {x:Int×Int}:∀ {l:List (Int×Int)},(∀y∈l,Gw x≠Gw y)->l.Pairwise (λ p q=>Gw p<Gw q)->(V1 x l).Pairwise λ p q=>Gw p<Gw q
 |[],_,_=>List.pairwise_singleton _ _
 |y::r,hx,h=>by
  unfold V1;have hy:=yl.mp h;split
  ·rename_i bO;exact yl.mpr ⟨λ z hz=>by
    rcases zp.mp hz with rfl|hz
    ·exact bO
    ·have:=hy.1 z hz;omega,h⟩
  ·rename_i bO;have:=hx y zd;exact yl.mpr ⟨λ z hz=>by
    rcases zp.mp ((JQ x r).mem_iff.mp hz) with rfl|hz
    ·omega
    ·exact hy.1 z hz,Th (λ z hz=>hx z (zf _ hz)) hy.2⟩
theorem M7:∀ {l:List (Int×Int)},(∀q∈l,0<=q.2/\q.2<1000)->l.Nodup->(Kh l).Pairwise λ p q=>Gw p<Gw q
 |[],_,_=>.nil
 |x::r,hb,hn=>by
  have cr:=yA.mp hn;refine Th (λ y hy e=>?_) (M7 (λ q hq=>hb q (zf _ hq)) cr.2);have rj:=(CJ r).mem_iff.mp hy;have:=Tg (hb x zd) (hb y (zf _ rj)) e;subst this;exact cr.1 rj
theorem OH:∀ {a b:List (Int×Int)},a.Perm b->a.Pairwise (λ p q=>Gw p<Gw q)->b.Pairwise (λ p q=>Gw p<Gw q)->a=b
 |[],b,hp,_,_=>(List.nil_perm.mp hp).symm
 |x::r,[],hp,_,_=>by have:=hp.length_eq;simp at this
 |x::r,y::t,hp,ha,hb=>by
  have i7:=yl.mp ha;have a6:=yl.mp hb;have e:x=y:=by
   have h1:x∈y::t:=hp.mem_iff.mp zd;have h2:y∈x::r:=hp.mem_iff.mpr zd;rcases zp.mp h1 with e|h1
   ·exact e
   rcases zp.mp h2 with e|h2
   ·exact e.symm
   have:=i7.1 _ h2;have:=a6.1 _ h1;omega
  subst e;rw[OH (List.Perm.cons_inv hp) i7.2 a6.2]
section
variable {X:Cx}{WX:Str->Hp->Prop}{c:Bool}{P0:Ea}{P:Addr->Prop}{H:Hp}{σ:St}{ρ:A9}{a b e:Expr}{f g:A9->M D}{fn:A9->M OT}{pos:Pos}{te:TE}
noncomputable def lU (te:TE):TE:=λ σ H Q=>te σ H λ x H1=>∃a kvs ps,x=.ref a/\Rd H1 a (.dT kvs)/\kvs.map zR=ps.map Xf/\(∀q∈ps,0<=q.2/\q.2<1000)/\ps.Nodup/\ps.length<64/\
 ∀ts:List Addr,ts.length=ps.length->(∀(i:Nat) t q,ts[i]?=some t->(Kh ps)[i]?=some q->H1 t=some (.tup ((Xf q).map kV)))->∀r,H1 r=none->Q (.ref r) (upd H1 r (.lst (ts.map V.ref)))
theorem Zk {s:Shared}{pins:List (Addr×Obj)}(I:Inv X pins σ H s){t:Addr}{q:Int×Int}(h:H t=some (.tup ((Xf q).map kV))):CY s.heap (.ref t) q:=by
 obtain⟨_,aa,r,o,h1,h2,n,h3⟩:=(show Bi X.prog X.w H s.heap t (.tup ((Xf q).map kV)) from I.Ao t _ h);have r':Vals [V.int q.1,V.int q.2] aa:=r;obtain⟨v1,r1,rfl,e1,r2⟩:∃v1 r1,aa=v1::r1/\RelV (.int q.1) v1/\Vals [V.int q.2] r1:=by
  cases r' with
  |cons a b=>exact⟨_,_,rfl,a,b⟩
 obtain⟨v2,r3,rfl,e2,r4⟩:∃v2 r3,r1=v2::r3/\RelV (.int q.2) v2/\Vals [] r3:=by
  cases r2 with
  |cons a b=>exact⟨_,_,rfl,a,b⟩
 cases r4;obtain⟨t1,rfl⟩:=e1;obtain⟨t2,rfl⟩:=e2;exact⟨t,o,t1,t2,n,rfl,h1,h2,h3⟩
theorem Qo:∀l:List Addr,Vals (l.map V.ref) (l.map zX)
 |[]=>.nil
 |t::r=>.cons rfl (Qo r)
theorem Ti:∀ {kvs:List (List Key×V)}{ps:List (Int×Int)},(kvs.map λ kv=>D.tup (kv.1.map Eo))=ps.map pD->kvs.map zR=ps.map Xf
 |[],[],_=>rfl
 |[],_::_,h|_::_,[],h=>by cases h
 |kv::kvs,q::ps,h=>by
  rw[zg,zg] at h;injection h with h1 h2
  injection h1 with h1
  have e:kv.1=Xf q:=Tb (h1.trans rfl);rw[zg,zg,Ti h2,e]
theorem RW {p:Pos}(hc:X.calm=true)(hg:Gl X "sorted")(hm:X.mg "sorted" = none)(he:PE X e te)
 (hv:bootBuiltins "sorted" = some (.builtin "sorted"):=by decide +kernel) (hs:starEach [e] X.env=[(false,eval e X.env)]:=by rfl):
 PE X (.Call (.Name "sorted" p) [e] [] pos) (lU te):=by
 intro pins s σ H Q I h;refine wpAny_Call_Name_kw (Ek I hg hm hv ?_);refine PyProof.Rows.callWith_builtin1 ?_ hs;rw[hs];refine Calls.spliced_cons (B2 (he pins s σ H _ I h) λ u s1 ⟨x,H1,I1,r1,q1⟩=>?_);obtain⟨l,kvs,ps,rfl,ha,hk,hb,hn,nv,h⟩:=q1;cases r1;refine Calls.spliced_nil ?_;obtain⟨n1,es,ep,xs,r,da⟩:=hZ I1 ha;have zs:=size_of_entries da.en;have zk:kvs.length=ps.length:=by have:=congrArg List.length hk;rwa[ze,ze] at this
 have zx:kvs.length=xs.length:=Paired.length r;have cn:∀(i:Nat) (hi:i<es.size),∃t q,es[i].key=.ref t/\ps[i]?=some q/\H1 t=some (.tup ((Xf q).map kV)):=λ i hi=>by
  obtain⟨y,hy⟩:∃y,xs[i]?=some y:=⟨xs[i]'(by omega),zr _⟩;have ex:=entry_at da.en i;rw[yJ hi,hy] at ex;obtain⟨kv,g1,g2⟩:=lR.get r hy;obtain⟨q,hq⟩:∃q,ps[i]?=some q:=⟨ps[i]'(by omega),zr _⟩;have e:=congrArg (λ l=>l[i]?) hk;rw[zB,zB,g1,hq] at e;have e2:kv.1=Xf q:=zH e;rw[e2] at g2;exact⟨y.2.1,q,by rw[zH ex];rfl,hq,g2⟩
 refine V0 (I1.ok.hd hc) n1 da.ob (by omega) (by omega) (λ i hi q hq=>?_) hb hn λ h' tk D c I vs kp hD uD aM hl i1 i2=>?_
 ·obtain⟨t,q',k1,k2,k3⟩:=cn i hi;rw[hq] at k2;cases k2;rw[k1];exact Zk I1 k3
 ·obtain⟨tf,rm⟩:∃tf:Nat->Addr,∀i,i<es.size->∃q,vs[i]?=some (.ref (tf i))/\ps[i]?=some q/\H1 (tf i)=some (.tup ((Xf q).map kV)):=⟨λ i=>if hi:i<es.size then zl (cn i hi) else 0,λ i hi=>by
   dsimp only;rw[dif_pos hi];obtain⟨q,k1,k2,k3⟩:=zb (cn i hi);exact⟨q,(aM i hi).trans (congrArg some k1),k2,k3⟩⟩
  have hI:∀i∈I,i<es.size:=λ i hi=>by simpa using i1.mem_iff.mp hi
  have eo:(I.map λ i=>ps.getD i (0,0))=Kh ps:=by
   refine OH (List.Perm.trans ?_ (CJ ps).symm) i2 (M7 hb hn);refine (i1.map _).trans (.of_eq ?_);apply List.ext_getElem?;intro i;rw[zB];by_cases hi:i<es.size
   ·rw[yB hi];obtain⟨q,hq⟩:∃q,ps[i]?=some q:=⟨ps[i]'(by omega),zr _⟩;rw[yf,zL,hq];rfl
   ·rw[yG (by simp;omega),yG (by omega)];rfl
  have ev:(I.map λ i=>vs.getD i yE)=(I.map tf).map zX:=by
   rw[ym];refine List.map_congr_left λ i hi=>?_;obtain⟨q,k1,_,_⟩:=rm i (hI i hi);rw[zL,k1];rfl
  rw[ev] at hl;have uE:I.length=es.size:=by have:=i1.length_eq;simpa using this
  refine⟨.ref D,_,I1.laid (t':=tk) (o:=.lst ((I.map tf).map V.ref)) kp hD ⟨?_,(I.map tf).map zX,c,Qo _,hl⟩,rfl,h (I.map tf) (by rw[ze];omega) (λ i t q ht hq=>?_) D (I1.Ao.fresh hD)⟩
  ·rw[ze,ze];exact yj (AF (by omega))
  ·rw[<-eo] at hq;rw[zB] at ht hq;cases qi:I[i]? with
   |none=>rw[qi] at ht;cases ht
   |some j =>
    rw[qi] at ht hq;cases ht;have hj:=hI j (zq qi);obtain⟨q',_,k2,k3⟩:=rm j hj;have:q=q':=by
     have:ps.getD j (0,0)=q:=zH hq;rw[zL,k2] at this;exact this.symm
    subst this;exact k3
noncomputable def Xg:D->Option (Int×Int)
 | .tup [.int x,.int y]=>some (x,y)
 |_=>none
theorem Xh {k:D}{q:Int×Int}(h:Xg k=some q):k=pD q:=by
 unfold Xg at h;split at h
 ·cases h;rfl
 ·cases h
noncomputable def iD:List D->Option (List (Int×Int))
 |[]=>some []
 |k::r=>(match Xg k,iD r with|some q,some ps=>some (q::ps)|_,_=>none)
theorem Tj:∀ps:List (Int×Int),iD (ps.map pD)=some ps
 |[]=>rfl
 |p::r=>by
  have e:Xg (pD p)=some p:=rfl;rw[zg,iD,e,Tj r]
theorem Tn:∀ {ks:List D}{ps:List (Int×Int)},iD ks=some ps->ks=ps.map pD
 |[],ps,h=>by cases h;rfl
 |k::r,ps,h=>by
  rw[iD] at h;cases q1:Xg k with
  |none=>rw[q1] at h;cases h
  |some q =>
   cases q2:iD r with
   |none=>rw[q1,q2] at h;cases h
   |some sy =>
    rw[q1,q2] at h;cases h;rw[zg,Xh q1,Tn q2]
noncomputable def Zl (d:D):M OT:=match d with
 | .B6 true ks _=>(match iD ks with|some ps=>if (∀q∈ps,0<=q.2/\q.2<1000)/\ps.Nodup/\ps.length<64 then .ok (.lst (((Kh ps).map pD).map .sh)) else .bad|none=>.bad)
 |_=>.bad
theorem Qp {K:za}{H:Hp}{P:Addr->Prop}(ht:∀a,P a->Eb H a):∀ {ts:List Addr}{ps:List (Int×Int)},ts.length=ps.length->(∀(i:Nat) t q,ts[i]?=some t->ps[i]?=some q->H t=some (.tup ((Xf q).map kV)))->Ae K (del H P) (ts.map V.ref) (ps.map pD)
 |[],[],_,_=>.nil
 |[],_::_,h,_|_::_,[],h,_=>by cases h
 |t::ts,q::ps,h,hh=>by
  have h0:=hh 0 t q rfl rfl;have nt:¬ P t:=λ z=>by
   obtain⟨ob,z1,z2⟩:=ht t z;rw[h0] at z1;cases z1;exact (z2 _).1 rfl
  refine .cons ?_ (Qp ht (by simpa using h) λ i t' q' h1 h2=>hh (i+1) t' q' h1 h2);exact .tup (xs:=(Xf q).map kV) (by rw[AA nt];exact h0) (.cons (.int _) (.cons (.int _) .nil))
theorem RX {p:Pos}(hc:X.calm=true)(hg:Gl X "sorted")(hm:X.mg "sorted" = none)(he:DE X WX true e f)
 (hv:bootBuiltins "sorted" = some (.builtin "sorted"):=by decide +kernel) (hs:starEach [e] X.env=[(false,eval e X.env)]:=by rfl):
 DN X WX (.Call (.Name "sorted" p) [e] [] pos) (λ ρ=>(f ρ).bind Zl):=by
 obtain⟨te,e1,e2⟩:=he;refine⟨_,RW hc hg hm e1 hv hs,λ P0 P σ H Q ρ E h=>?_⟩;refine e2 P0 P σ H _ ρ E ?_;dsimp only at h;cases q:f ρ with
 |bad|ex x=>rw[q] at h;exact h
 |ok d =>
  rw[q] at h;simp only[M.A6] at h;intro v H1 s1 hv;unfold Zl at h;split at h
  ·rename_i ks vs;split at h
   ·rename_i ps eb;have ek:=Tn eb;split at h
    ·rename_i hl;cases hv with
     | @HL a kvs _ hh aQ =>
      have tk:=(E.same s1).C4;exact⟨a,kvs,ps,rfl,hh.Bj,Ti ek,hl.1,hl.2.1,hl.2.2,λ ts h1 h2 r hr=>h.Jy s1 (Qp tk (by rw[(CJ ps).length_eq];exact h1) h2) r hr⟩
    ·exact h.elim
   ·exact h.elim
  ·exact h.elim
end
def Lp (p q:Int×Int):Prop:=p.1<q.1\/(p.1=q.1/\p.2<q.2)
theorem M8 {K:List (Int×Int)}(h:K.Pairwise Lp):K.Nodup:=h.imp fun {p q} kb e=>by
 subst e;unfold Lp at kb;omega
theorem iE {K:List (Int×Int)}{W:List Int}{i:Int}(h:K.Pairwise Lp)(hk:∀p∈K,p.1<i)(hw:W.Pairwise (· < ·)):(K++W.map λ w=>(i,w)).Pairwise Lp:=by
 rw[List.pairwise_append];refine⟨h,xg.mpr (hw.imp fun {a b} gm=>.inr ⟨rfl,gm⟩),λ p hp q hq=>?_⟩;obtain⟨w,_,rfl⟩:=zJ.mp hq;exact .inl (hk p hp)
theorem Zm (m:Nat):(Ay m).Pairwise (· < ·):=by
 unfold Ay;exact xg.mpr (List.pairwise_lt_range.imp fun {a b} gm=>by show (a:Int)<b;omega)
theorem lV {K:List (Int×Int)}(hb:∀q∈K,0<=q.2/\q.2<1000)(h:K.Pairwise Lp):K.Pairwise λ p q=>Gw p<Gw q:=by
 refine List.Pairwise.imp_of_mem (fun {p q} hp hq kb=>?_) h;have b1:=hb p hp;have b2:=hb q hq;unfold Lp at kb;unfold Gw;omega
theorem Wi.wk {rs:List Road}{s y:Int}{W:List Int}{c:Int×Int}(h:Wi rs s W y c):Wk rs s y c:=by
 induction h with
 |nil=>exact .nil s
 | @snoc x c r l _ h1 h2 h3 _ ih =>
  subst h2;exact ih.trans (Wk.one h1 h3)
theorem Xi {m:Nat}{rs:List Road}(Ao:∀r∈rs,Gu m r){s u y:Int}{c:Int×Int}(h:Wk rs u y c):∀ {c0:Int×Int},Wi rs s (Ay m) u c0->Wi rs s (Ay m) y (c0.1+c.1,c0.2+c.2):=by
 induction h with
 |nil u=>intro c0 h;simpa using h
 | @cons r l w c hr hl _ ih =>
  intro c0 h;have:=ih (Wi.snoc h hr rfl hl (.inr (F9.mpr ⟨(Ao r hr).a0,(Ao r hr).a1⟩)));simpa [Int.add_assoc] using this
theorem Zf.min {m:Nat}{rs:List Road}{s:Int}{R:RA}(Ao:∀r∈rs,Gu m r)(h:Zf m rs s (Ay m) R)(y:Int):Kf rs s y (BE R y):=
 ⟨λ c hc=>h.le y c (by simpa using Xi Ao hc (.nil (rs:=rs) (s:=s) (W:=Ay m))),λ p hp=>(h.sd y p hp).wk⟩
noncomputable def NO (A:LA):List (Int×Int):=Kh (A.map zR)
noncomputable def Qq (A:LA)(Rf:Int->RA)(p:Int×Int):Bool:=decide (Ah A p=BE (Rf p.1) p.2)
theorem To {A:LA}{p:Int×Int}:p∈NO A↔(BE A p).isSome=true:=by
 unfold NO;rw[(CJ _).mem_iff,Fv]
theorem Zn {m:Nat}{rs:List Road}{L:List Int}{A:LA}{K:List (Int×Int)}{Rf:Int->RA}(ok:Fd m rs L A K)(hK:K.Pairwise Lp)(hR:∀u:Int,0<=u->u<m->Zf m rs u (Ay m) (Rf u)):(NO A).filter (Qq A Rf)=K:=by
 have hA:=ok.oV;have hb:∀q∈A.map zR,0<=q.2/\q.2<1000:=λ q hq=>by have:=(hA.rg q hq).2.2;have:=ok.m2;omega
 have aN:∀p,p∈(NO A).filter (Qq A Rf)↔p∈K:=λ p=>by
  rw[yn,To,ok.km];constructor
  ·rintro ⟨h1,h2⟩;have h2:Ah A p=BE (Rf p.1) p.2:=by simpa [Qq] using h2
   obtain⟨z,hz⟩:=y3.mp h1;have hc:Ah A p=some z.1:=by unfold Ah;rw[hz];rfl
   have hr:=(hA.rg p (BU hc)).2.1;have:=(hR p.1 hr.1 hr.2).min (λ r hr=>(ok.ok r hr).1) p.2;rw[<-h2,hc] at this;exact⟨z.1,hc,this⟩
  ·rintro ⟨c,hc,hm⟩;have hr:=(hA.rg p (BU hc)).2.1;refine⟨by rw[Fv];exact BU hc,?_⟩;have:=(hR p.1 hr.1 hr.2).min (λ r hr=>(ok.ok r hr).1) p.2;have e:=Kf.BL hm this;unfold Qq;rw[hc,e];simp
 have t7:(NO A).Pairwise λ p q=>Gw p<Gw q:=M7 hb hA.nd;have jd:=t7.filter (Qq A Rf);refine OH ((List.perm_ext_iff_of_nodup ?_ (M8 hK)).mpr aN) jd (lV (λ q hq=>?_) hK)
 ·exact jd.imp fun {p q} kb e=>by subst e;omega
 ·have:=(ok.Vi hq).2.2;have:=ok.m2;omega
theorem Ee.lW {m:Nat}{A:LA}(h:Ee m A)(hm:m<=7):(A.map zR).length<64:=by
 have key:=Hq (l:=A.map zR) (u:=(zD m).flatMap λ i:Nat=>(zD m).map λ j:Nat=>((i:Int),(j:Int))) h.nd λ p hp=>by
  obtain⟨_,h1,h2⟩:=h.rg p hp;refine List.mem_flatMap.mpr ⟨p.1.toNat,yX.mpr (by omega),zJ.mpr ⟨p.2.toNat,yX.mpr (by omega),?_⟩⟩;rw[yT h1.1,yT h2.1]
 have e:((zD m).flatMap λ i:Nat=>(zD m).map λ j:Nat=>((i:Int),(j:Int))).length=m*m:=by
  rw[List.length_flatMap];simp[List.map_const',List.sum_replicate_nat]
 rw[e] at key;have:m*m<=7*7:=Nat.mul_le_mul hm hm;omega
theorem iF {m:Nat}{A:LA}(hA:Ee m A)(hm:m<=7):Zl (Ir A)=.ok (.lst (((NO A).map pD).map .sh)):=by
 have e:Ir A=.B6 true ((A.map zR).map pD) (A.map λ kv=>T9 kv.2):=by unfold Ir;rw[ym];rfl
 rw[e];unfold Zl;dsimp only;rw[Tj];dsimp only;rw[if_pos ⟨λ q hq=>by have:=(hA.rg q hq).2.2;omega,hA.nd,hA.lW hm⟩];rfl
end L2
set_option maxHeartbeats 4000000
namespace c5
open PySem L2
noncomputable def top (i:Nat):Stmt:=PySem.Challenge.pw_nodeladder_k33_kept_are_least.main.body.getD i (.Pass ⟨0,0,0,0⟩)
noncomputable abbrev CK:Stmt:=top 7
theorem Jb:Ag ["thing","bound"] ["thing","bound"] (A3 CK):=⟨rfl,rfl,rfl,by decide +kernel,rfl,by decide +kernel,by decide +kernel⟩
noncomputable abbrev Fw:Stmt:=top 8
theorem MK:Ag ["thing"] ["thing"] (A3 Fw):=⟨rfl,rfl,rfl,by decide +kernel,rfl,by decide +kernel,by decide +kernel⟩
noncomputable abbrev JR:Stmt:=top 9
theorem RY:Ag ["thing","many"] ["thing","many"] (A3 JR):=⟨rfl,rfl,rfl,by decide +kernel,rfl,by decide +kernel,by decide +kernel⟩
noncomputable abbrev M9:Stmt:=top 10
theorem JS:Ag ["thing","many","roads"] ["thing"] (A3 M9):=⟨rfl,rfl,rfl,by decide +kernel,rfl,by decide +kernel,by decide +kernel⟩
noncomputable abbrev JT:Stmt:=top 11
theorem RZ:Ag ["thing"] ["thing"] (A3 JT):=⟨rfl,rfl,rfl,by decide +kernel,rfl,by decide +kernel,by decide +kernel⟩
noncomputable abbrev OI:Stmt:=top 12
theorem Xj:Ag ["one","other"] ["one","other"] (A3 OI):=⟨rfl,rfl,rfl,by decide +kernel,rfl,by decide +kernel,by decide +kernel⟩
noncomputable abbrev OJ:Stmt:=top 13
theorem Xk:Ag ["some"] ["some"] (A3 OJ):=⟨rfl,rfl,rfl,by decide +kernel,rfl,by decide +kernel,by decide +kernel⟩
noncomputable abbrev Gx:Stmt:=top 14
theorem OK:Ag ["road"] ["road"] (A3 Gx):=⟨rfl,rfl,rfl,by decide +kernel,rfl,by decide +kernel,by decide +kernel⟩
noncomputable abbrev Eu:Stmt:=top 16
theorem Ma:Ag ["laid","pair"] ["laid","pair"] (A3 Eu):=⟨rfl,rfl,rfl,by decide +kernel,rfl,by decide +kernel,by decide +kernel⟩
noncomputable abbrev Xl:Stmt:=top 17
theorem iG:Ag ["laid","pair","cost","middle"] ["laid","pair","cost","middle"] (A3 Xl):=⟨rfl,rfl,rfl,by decide +kernel,rfl,by decide +kernel,by decide +kernel⟩
noncomputable abbrev HZ:Stmt:=top 18
theorem Ej:Ag ["laid","place","higher","u","w","cost"] ["laid","place","higher"] (A3 HZ):=⟨rfl,rfl,rfl,by decide +kernel,rfl,by decide +kernel,by decide +kernel⟩
noncomputable abbrev Gy:Stmt:=top 19
theorem Ce:Ag ["net","order","laid","road","rank","place"] ["net","order"] (A3 Gy):=⟨rfl,rfl,rfl,by decide +kernel,rfl,by decide +kernel,by decide +kernel⟩
noncomputable abbrev I0:Stmt:=top 21
theorem Qr:Ag ["net","thing"] ["net","thing"] (A3 I0):=⟨rfl,rfl,rfl,by decide +kernel,rfl,by decide +kernel,by decide +kernel⟩
noncomputable abbrev CZ:Stmt:=top 22
theorem JU:Ag ["net","thing"] ["net","thing"] (A3 CZ):=⟨rfl,rfl,rfl,by decide +kernel,rfl,by decide +kernel,by decide +kernel⟩
noncomputable abbrev Fx:Stmt:=top 23
theorem Ew:Ag ["net","bows","road"] ["net"] (A3 Fx):=⟨rfl,rfl,rfl,by decide +kernel,rfl,by decide +kernel,by decide +kernel⟩
noncomputable abbrev DU:Stmt:=top 24
theorem By:Ag ["bows","left","place","ahead","behind","missing","u"] ["bows","left","place"] (A3 DU):=⟨rfl,rfl,rfl,by decide +kernel,rfl,by decide +kernel,by decide +kernel⟩
noncomputable abbrev I9:Stmt:=top 25
theorem Qs:Ag ["bows","left"] ["bows","left"] (A3 I9):=⟨rfl,rfl,rfl,by decide +kernel,rfl,by decide +kernel,by decide +kernel⟩
noncomputable abbrev Mb:Stmt:=top 26
theorem Dw:Ag ["net","bows","left","order","place","bow"] ["net"] (A3 Mb):=⟨rfl,rfl,rfl,by decide +kernel,rfl,by decide +kernel,by decide +kernel⟩
noncomputable abbrev Fy:Stmt:=top 28
theorem Bh:Ag ["net","start","costs","changed","road","cost"] ["net","start"] (A3 Fy):=⟨rfl,rfl,rfl,by decide +kernel,rfl,by decide +kernel,by decide +kernel⟩
noncomputable abbrev Cf:Stmt:=top 30
theorem Ia:Ag ["net","order"] ["net","order"] (A3 Cf):=⟨rfl,rfl,rfl,by decide +kernel,rfl,by decide +kernel,by decide +kernel⟩
noncomputable abbrev Gz:Stmt:=top 31
theorem D7:Ag ["net","laid","kept","u","costs"] ["net","laid"] (A3 Gz):=⟨rfl,rfl,rfl,by decide +kernel,rfl,by decide +kernel,by decide +kernel⟩
noncomputable abbrev Aj:Stmt:=inClass (top 32) 0
theorem Ib:Ag ["self","net","order"] ["self","net","order"] (A3 Aj):=⟨rfl,rfl,rfl,by decide +kernel,rfl,by decide +kernel,by decide +kernel⟩
noncomputable abbrev DV:Stmt:=inClass (top 32) 2
theorem Kw:Ag ["self"] ["self"] (A3 DV):=⟨rfl,rfl,rfl,by decide +kernel,rfl,by decide +kernel,by decide +kernel⟩
noncomputable abbrev Ex:Stmt:=inClass (top 32) 3
theorem Mc:Ag ["self"] ["self"] (A3 Ex):=⟨rfl,rfl,rfl,by decide +kernel,rfl,by decide +kernel,by decide +kernel⟩
noncomputable abbrev BF:Stmt:=inClass (top 32) 4
theorem Cr:Ag ["self","u","w","many"] ["self","u","w"] (A3 BF):=⟨rfl,rfl,rfl,by decide +kernel,rfl,by decide +kernel,by decide +kernel⟩
noncomputable abbrev Ey:Stmt:=inClass (top 32) 5
theorem Md:Ag ["self","u","w"] ["self","u","w"] (A3 Ey):=⟨rfl,rfl,rfl,by decide +kernel,rfl,by decide +kernel,by decide +kernel⟩
noncomputable abbrev Ez:Stmt:=inClass (top 32) 8
theorem Me:Ag ["self"] ["self"] (A3 Ez):=⟨rfl,rfl,rfl,by decide +kernel,rfl,by decide +kernel,by decide +kernel⟩
noncomputable abbrev GA:Stmt:=top 34
theorem Fz:Ag ["_law_cell","_law_k","_law_number"] ["_law_cell","_law_k"] (A3 GA):=⟨rfl,rfl,rfl,by decide +kernel,rfl,by decide +kernel,by decide +kernel⟩
noncomputable abbrev Ic:Stmt:=top 35
theorem Bf:Ag ["_law_cell","_law_many","_law_mixed_here","_law_one","_law_other","_law_way","_law_length"] ["_law_cell","_law_many"] (A3 Ic):=⟨rfl,rfl,rfl,by decide +kernel,rfl,by decide +kernel,by decide +kernel⟩
noncomputable abbrev JV:Stmt:=top 36
theorem DY:Ag ["_law_cells","_law_most","_law_head","_law_many","_law_roads"] ["_law_cells","_law_most"] (A3 JV):=⟨rfl,rfl,rfl,by decide +kernel,rfl,by decide +kernel,by decide +kernel⟩
noncomputable abbrev GB:Stmt:=top 37
theorem FA:Ag ["_law_many","_law_cell","_law_order_here","_law_k"] ["_law_many","_law_cell"] (A3 GB):=⟨rfl,rfl,rfl,by decide +kernel,rfl,by decide +kernel,by decide +kernel⟩
noncomputable abbrev GC:Stmt:=top 38
theorem OL:Ag ["_law_found","_law_place","_law_cost_here"] ["_law_found","_law_place","_law_cost_here"] (A3 GC):=⟨rfl,rfl,rfl,by decide +kernel,rfl,by decide +kernel,by decide +kernel⟩
noncomputable abbrev GD:Stmt:=top 39
theorem AQ:Ag ["_law_land","_law_start","_law_inner","_law_found","_law_better","_law_one","_law_other","_law_length","_law_width","_law_cost_here"] ["_law_land","_law_start","_law_inner"] (A3 GD):=⟨rfl,rfl,rfl,by decide +kernel,rfl,by decide +kernel,by decide +kernel⟩
noncomputable abbrev Ie:Stmt:=top 40
theorem Qt:Ag ["_law_found"] ["_law_found"] (A3 Ie):=⟨rfl,rfl,rfl,by decide +kernel,rfl,by decide +kernel,by decide +kernel⟩
noncomputable abbrev GF:Stmt:=top 41
theorem Bu:Ag ["_law_ladder","_law_land","_law_costs_here","_law_due","_law_u","_law_w","_law_kept","_law_cost_here"] ["_law_ladder","_law_land"] (A3 GF):=⟨rfl,rfl,rfl,by decide +kernel,rfl,by decide +kernel,by decide +kernel⟩
noncomputable abbrev FX:Stmt:=top 42
theorem Mf:Ag ["_law_script","_law_cells","_law_land","_law_order_here","_law_line"] ["_law_script"] (A3 FX):=⟨rfl,rfl,rfl,by decide +kernel,rfl,by decide +kernel,by decide +kernel⟩
structure Txt (K:za)(mg:Str->Option Value):Prop where
 JW:AX K mg "is_whole_below" CK ["thing","bound"]
 OM:AX K mg "is_measure" Fw ["thing"]
 V2:AX K mg "is_road" JR ["thing","many"]
 Xm:AX K mg "is_map" M9 ["thing"]
 V3:AX K mg "checked" JT ["thing"]
 Zo:AX K mg "added" OI ["one","other"]
 Zp:AX K mg "least" OJ ["some"]
 Qu:AX K mg "road_cost" Gx ["road"]
 ML:AX K mg "cost_so_far" Eu ["laid","pair"]
 lX:AX K mg "lay" Xl ["laid","pair","cost","middle"]
 S0:AX K mg "lay_over" HZ ["laid","place","higher"]
 Qv:AX K mg "laid_arcs" Gy ["net","order"]
 S1:AX K mg "is_order" I0 ["net","thing"]
 Kx:AX K mg "checked_order" CZ ["net","thing"]
 ON:AX K mg "first_bows" Fx ["net"]
 Mg:AX K mg "missing_bows" DU ["bows","left","place"]
 S2:AX K mg "lightest" I9 ["bows","left"]
 Xn:AX K mg "ranked" Mb ["net"]
 OO:AX K mg "costs_from" Fy ["net","start"]
 Jc:AX K mg "order_or_ranked" Cf ["net","order"]
 Qw:AX K mg "kept_arcs" Gz ["net","laid"]
 Jd:RG K mg "Ladder" "Ladder.__init__" Aj ["self","net","order"]
 Mh:LM K "Ladder" "order" "Ladder.order" DV ["self"]
 MM:LM K "Ladder" "arcs" "Ladder.arcs" Ex ["self"]
 GG:LM K "Ladder" "checked_arc" "Ladder.checked_arc" BF ["self","u","w"]
 MN:LM K "Ladder" "cost" "Ladder.cost" Ey ["self","u","w"]
 MO:LM K "Ladder" "kept" "Ladder.kept" Ez ["self"]
 Qx:AX K mg "_law_mixed" GA ["_law_cell","_law_k"]
 S3:AX K mg "_law_road" Ic ["_law_cell","_law_many"]
 V4:AX K mg "_law_map" JV ["_law_cells","_law_most"]
 Qy:AX K mg "_law_order" GB ["_law_many","_law_cell"]
 Qz:AX K mg "_law_least" GC ["_law_found","_law_place","_law_cost_here"]
 QA:AX K mg "_law_costs" GD ["_law_land","_law_start","_law_inner"]
 S4:AX K mg "_law_cost" Ie ["_law_found"]
 QB:AX K mg "_law_right" GF ["_law_ladder","_law_land"]
 rG:AX K mg "law" FX ["_law_script"]
 Xo:mg "all" = none
 Xp:mg "bool" = none
 QC:mg "enumerate" = none
 ZU:mg "int" = none
 AR:mg "isinstance" = none
 NP:mg "len" = none
 EA:mg "list" = none
 ZV:mg "min" = none
 FC:mg "range" = none
 QD:mg "sorted" = none
 ZW:mg "sum" = none
 KU:mg "tuple" = none
 Zq:ClsAt K mg "NoArc"
 Zr:ClsAt K mg "NoMap"
 V5:ClsAt K mg "NoOrder"
 DZ:HA K "Ladder" "kept_ones"
 BV:HA K "Ladder" "laid"
 Bn:HA K "Ladder" "own_map"
 C1:HA K "Ladder" "own_order"
local macro_rules | `(tactic| simp_arith [$xs,*])=>`(tactic| simp only [fV,fW,Ho,List.set_cons_zero,List.set_cons_succ,M.A6,Df,De,EG,ES,ET,EU,He,Fq,Gp,Kc,EI,EJ,Dg,Nq,Hb,Hc,EK,Up,Dh,Di,CD,JA,BD,JB,EL,EM,Dj,Nr,EH,CS,toCl_list,toCl_listP,toCl_dct,Hf,EV,EW,EX,EY,Hg,EZ,F0,F1,ZJ,ZI,EN,Nt,EO,Nu,EQ,ER,Hd,Nv,iO,iP,Us,Ut,Uu,Uv,Uw,Ux,toCl_nil,Gh,IZ,MH,JC,Dk,Hh,Hi,F2,F3,Hj,Hk,Hl,Hm,Hn,F4,F5,F6,F7,Dl,Dm,Dn,Dp,Dq,F8,Dr,Ds,Nw,Nx,Ny,Nz,NA,Dt,ite_tt,ite_ff,Bool.not_true,Bool.not_false,List.getElem?_cons_zero,List.getElem?_cons_succ,CH,Fb,Fc,Ur,UO,Uq,UR,US,UT,Hs,JL,JM,JN,C9,Dv,Ht,JG,UX,NM,JP,$xs,*])
variable {P:Program}{w:World}{K:za}{mg:Str->Option Value}{base:Heap}
theorem Cg:∃F:List D->M OT,(∀ {P w K mg base},Txt K mg->CO P w K mg base "is_whole_below" 1 2 F)/\(∀(d:D) (n:Int),Sw d=false->F [d,.int n]=.ok (.sh (.bl (Jg d n)))):=by
 refine⟨_,λ T=>AU (k:=0) T.JW Jb _ (λ f B1 A outer s H E hr=>(A7 (An (AZ (Of (Ep (PB _) rfl T.AR rfl T.ZU (by decide +kernel) (A1 0 (pv 0))) (Of (VW (Ep (Nb _) rfl T.AR rfl T.Xp (by decide +kernel) (A1 0 (pv 0)))) (Oe (TY jT jS A5 (A1 0 (pv 0)) (A1 1 (pv 1)))))))))),?_⟩;intro d n hx;have e0:AH ["thing","bound"] [d,.int n]=[some (.val d),some (.val (.int n))]:=rfl;rw[e0];refine BA ?_;simp_arith[Pz hx];cases d with
 |int j =>
  simp_arith[];unfold Jg;by_cases h1:0<=j<;>by_cases h2:j<n<;>simp[h1,h2,DF,CH]<;>rfl
 |D9 x|ins x n d=>cases hx
 |_=>rfl
noncomputable def FY:List D->M OT:=zl Cg
theorem AK:Txt K mg->CO P w K mg base "is_whole_below" 1 2 FY:=(zb Cg).1
theorem AE:∀(d:D) (n:Int),Sw d=false->FY [d,.int n]=.ok (.sh (.bl (Jg d n))):=(zb Cg).2
theorem EB:∃F:List D->M OT,(∀ {P w K mg base},Txt K mg->CO P w K mg base "is_measure" 2 1 F)/\(∀d:D,Sw d=false->F [d]=.ok (.sh (.bl (Jg d P6)))):=by
 refine⟨_,λ T=>AU (k:=1) T.OM MK _ (λ f B1 A outer s H E hr=>(A7 (An (Ak Aa.toXCall (AK T) (hr.mono (by decide)) rfl (A2 (A1 0 (pv 0)) (A2 (Ob A5 A5) A8)) rfl)))),?_⟩;intro d hx;have e0:AH ["thing"] [d]=[some (.val d)]:=rfl;rw[e0];have h1:=AE d P6 hx;refine BA ?_;simp_arith[ZP,h1];rfl
noncomputable def Ki:List D->M OT:=zl EB
theorem HC:Txt K mg->CO P w K mg base "is_measure" 2 1 Ki:=(zb EB).1
theorem HD:∀d:D,Sw d=false->Ki [d]=.ok (.sh (.bl (Jg d P6))):=(zb EB).2
theorem Ig:∃F:List D->M OT,(∀ {P w K mg base},Txt K mg->CO P w K mg base "is_road" 3 2 F)/\(∀(d:D) (m:Int),cl 1 d->F [d,.int m]=.ok (.sh (.bl (Et m d)))):=by
 refine⟨_,λ T=>AU (k:=2) T.V2 RY _ (λ f B1 A outer s H E hr=>(A4 (B7 (DW.dt (D4 (BO (Bs (c:=true) (Ep (HN _) rfl T.AR rfl T.KU (by decide +kernel) (A1 0 (pv 0))))) (Ca (K5 (c:=true) (AW hr 16 (by decide)) (Jp rfl T.NP (A1 0 (pv 0))) A5)))) (A7 (An (AZ BK))) Au) (A4 (B7 (DW.dt (D4 (BO (Bs (c:=true) (Ar (Ak Aa.toXCall (AK T) (hr.mono (by decide)) rfl (A2 (Ad (AW hr 16 (by decide)) (A1 0 (pv 0)) A5) (A2 (A1 1 (pv 1)) A8)) rfl)))) (Ca (BO (Bs (c:=true) (Ar (Ak Aa.toXCall (AK T) (hr.mono (by decide)) rfl (A2 (Ad (AW hr 16 (by decide)) (A1 0 (pv 0)) A5) (A2 (A1 1 (pv 1)) A8)) rfl))))))) (A7 (An (AZ BK))) Au) (A4 (B7 (K4 (c:=true) (AW hr 16 (by decide)) (Ad (AW hr 16 (by decide)) (A1 0 (pv 0)) A5) (Ad (AW hr 16 (by decide)) (A1 0 (pv 0)) A5)) (A7 (An (AZ BK))) Au) (A7 (An (AZ (Of (kR (eX (Ad (AW hr 16 (by decide)) (A1 0 (pv 0)) A5)) (Oe (Ar (Ak Aa.toXCall (HC T) (hr.mono (by decide)) rfl (A2 (Ad (AW hr 16 (by decide)) (A1 0 (pv 0)) A5) A8) rfl)))) (Oe (Ar (Ak Aa.toXCall (HC T) (hr.mono (by decide)) rfl (A2 (Ad (AW hr 16 (by decide)) (A1 0 (pv 0)) A5) A8) rfl))))))))))),?_⟩;intro d m hc;have e0:AH ["thing","many"] [d,.int m]=[some (.val d),some (.val (.int m))]:=rfl;rw[e0];have hx:=hc.x;refine BA ?_;cases d with
 |tup ds =>
  have cD:∀e∈ds,Sw e=false:=λ e he=>(hc.2 ds (.inl rfl) e he).x;rcases ds with _|⟨a,_|⟨b,_|⟨l,_|⟨w,_|⟨z,r⟩⟩⟩⟩⟩
  ·rfl
  ·rfl
  ·rfl
  ·rfl
  ·have i0:Bd (.tup [a,b,l,w]) (.int 0)=.ok a:=rfl;have i1:Bd (.tup [a,b,l,w]) (.int 1)=.ok b:=rfl;have i2:Bd (.tup [a,b,l,w]) (.int 2)=.ok l:=rfl;have i3:Bd (.tup [a,b,l,w]) (.int 3)=.ok w:=rfl;have ha:=AE a m (cD a (by simp));have hb:=AE b m (cD b (by simp));have hl:=HD l (cD l (by simp));have hw:=HD w (cD w (by simp));apply wp_step
   ·rfl
   unfold Et;dsimp only;cases qa:Jg a m with
   |false=>simp_arith[i0,ha,qa,DF];rfl
   |true =>
    cases qb:Jg b m with
    |false=>simp_arith[i0,i1,ha,hb,qa,qb,DF];rfl
    |true =>
     apply wp_step
     ·simp_arith[i0,i1,ha,hb,qa,qb,DF];rfl
     cases a with
     |int x =>
      cases b with
      |int y =>
       have he:Ap (.int x) (.int y)=decide (x=y):=by rw[Ap];by_cases h:x=y<;>simp[h]
       rw[he];by_cases bO:x=y
       ·simp_arith[i0,i1,decide_eq_true bO];rfl
       ·apply wp_step
        ·simp_arith[i0,i1,decide_eq_false bO];rfl
        rw[decide_eq_false bO];simp_arith[i2,i3,hl,hw];cases BN l<;>cases Jg l P6<;>cases Jg w P6<;>rfl
      |_=>cases qb
     |_=>cases qa
  ·have ad:¬ (((a::b::l::w::z::r).length:Nat):Int)=4:=by simp only[zo];omega
   simp_arith[decide_eq_false ad];rfl
 |D9 x|ins x n d=>cases hx
 |_=>rfl
noncomputable def QE:List D->M OT:=zl Ig
theorem S5:Txt K mg->CO P w K mg base "is_road" 3 2 QE:=(zb Ig).1
theorem S6:∀(d:D) (m:Int),cl 1 d->QE [d,.int m]=.ok (.sh (.bl (Et m d))):=(zb Ig).2
theorem JX:∃F:List D->M OT,(∀ {P w K mg base},Txt K mg->CO P w K mg base "is_map" 4 1 F)/\(∀d:D,cl 3 d->F [d]=.ok (.sh (.bl (D5 d)))):=by
 refine⟨_,λ T=>AU (k:=3) T.Xm JS _ (λ f B1 A outer s H E hr=>(A4 (B7 (DW.dt (D4 (BO (Bs (c:=true) (Ep (HN _) rfl T.AR rfl T.KU (by decide +kernel) (A1 0 (pv 0))))) (Ca (K5 (c:=true) (AW hr 16 (by decide)) (Jp rfl T.NP (A1 0 (pv 0))) A5)))) (A7 (An (AZ BK))) Au) (A4 (AJ 1 JS.nd rfl (Or.inr rfl) (Ad (AW hr 16 (by decide)) (A1 0 (pv 0)) A5)) (A4 (AJ 2 JS.nd rfl (zY rfl) (Ad (AW hr 16 (by decide)) (A1 0 (pv 0)) A5)) (A4 (B7 (DW.dt (D4 (BO (Bs (c:=true) (Ar (Ak Aa.toXCall (AK T) (hr.mono (by decide)) rfl (A2 (A1 1 (pv 1)) (A2 A5 A8)) rfl)))) (Ca (K4 (c:=true) (AW hr 16 (by decide)) (A1 1 (pv 1)) A5)))) (A7 (An (AZ BK))) Au) (A4 (B7 (DW.dt (D4 (BO (Bs (c:=true) (Ep (Jq _) rfl T.AR rfl T.EA (by decide +kernel) (A1 2 (pv 2))))) (Ca (ZE (c:=true) (Jp rfl T.NP (A1 2 (pv 2))) A5)))) (A7 (An (AZ BK))) Au) (A7 (An (AZ (Rw rfl rfl T.Xo (Ar (Eh (NB:=["road","many"]) [none,some 1] rfl (AV (A1 2 (pv 2))) rfl rfl (Bm 0 (by decide) rfl rfl rfl) (λ _ _ _ _=>Ef) (λ _ _ _ _=>(Ar (Gm (Ak (Fm rfl).toXCall (S5 T) (hr.mono (by decide)) rfl (A2 (A1 0 (pv 0)) (A2 (A1 1 (pv 1)) A8)) rfl)))))))))))))))),?_⟩;intro d hc;have e0:AH ["thing","many","roads"] [d]=[some (.val d),none,none]:=rfl;rw[e0];have hx:=hc.x;refine BA ?_;cases d with
 |tup ds =>
  have cD:∀e∈ds,cl 2 e:=λ e he=>hc.2 ds (.inl rfl) e he;rcases ds with _|⟨n,_|⟨r,_|⟨z,t⟩⟩⟩
  ·rfl
  ·rw[UP];rfl
  ·have i0:Bd (.tup [n,r]) (.int 0)=.ok n:=rfl;have i1:Bd (.tup [n,r]) (.int 1)=.ok r:=rfl;have hn:=AE n 17 (cD n (by simp)).x;have hr:=cD r (by simp);have rn:=hr.x;apply wp_step
   ·rfl
   apply wp_step
   ·simp_arith[i0];rfl
   apply wp_step
   ·simp_arith[i1];rfl
   cases qn:Jg n 17 with
   |false =>
    have e1:D5 (.tup [n,r])=false:=by
     cases n with
     |int m=>cases r with
      |lst rs=>unfold D5;dsimp only;rw[qn];rfl
      |_=>rfl
     |_=>rfl
    rw[e1];simp_arith[hn,qn,DF];rfl
   |true =>
    cases n with
    |int m =>
     by_cases hm:m=0
     ·have e1:D5 (.tup [.int m,r])=false:=by
       cases r with
       |lst rs=>unfold D5;dsimp only;rw[decide_eq_true hm];simp
       |_=>rfl
      rw[e1];simp_arith[hn,qn,DF,decide_eq_true hm];rfl
     ·apply wp_step
      ·simp_arith[hn,qn,DF,decide_eq_false hm];rfl
      cases r with
      |lst rs =>
       by_cases hl:rs.length<=60
       ·have bI:¬ (60:Int)<(rs.length:Int):=by omega
        have aQ:rs.length<=1000:=by omega
        apply wp_step
        ·simp_arith[decide_eq_false bI];rfl
        simp_arith[if_pos aQ];rw[Ng (λ d=>.bl (Et m d)) rs]
        ·have e2:(rs.map λ d=>D.bl (Et m d))=(rs.map (Et m)).map D.bl:=by rw[ym];rfl
         rw[e2];unfold D5;dsimp only;rw[qn,decide_eq_true hl,decide_eq_false hm];simp_arith[Bool.true_and];rfl
        ·intro d hd;have:=S6 d m (hr.2 rs (.inr rfl) d hd);exact⟨_,rfl,rfl,by simp_arith[this]⟩
       ·have bI:(60:Int)<(rs.length:Int):=by omega
        unfold D5;dsimp only;rw[decide_eq_false hl];simp_arith[decide_eq_true bI,Bool.false_and,Bool.and_false];rfl
      |D9 x|ins x n d=>cases rn
      |_=>rfl
    |_=>cases qn
  ·have ad:¬ (((n::r::z::t).length:Nat):Int)=2:=by simp only[zo];omega
   rw[RL];simp_arith[decide_eq_false ad];rfl
 |D9 x|ins x n d=>cases hx
 |_=>rfl
noncomputable def Tp:List D->M OT:=zl JX
theorem V6:Txt K mg->CO P w K mg base "is_map" 4 1 Tp:=(zb JX).1
theorem NQ:∀d:D,cl 3 d->Tp [d]=.ok (.sh (.bl (D5 d))):=(zb JX).2
theorem Ih:∃F:List D->M OT,(∀ {P w K mg base},Txt K mg->CO P w K mg base "checked" 5 1 F)/\((∀(m:Nat) (rs:List Road),D5 (Ac m rs)=true->rs.length<=60->F [Ac m rs]=.ok (.tup [.sh (.int m),.lst ((rs.map FW).map .sh)]))/\(∀d:D,cl 3 d->D5 d=false->F [d]=.ex "NoMap")):=by
 refine⟨_,λ T=>AU (k:=4) T.V3 RZ _ (λ f B1 A outer s H E hr=>(A4 (B7 (BO (Bs (c:=true) (Ar (Ak Aa.toXCall (V6 T) (hr.mono (by decide)) rfl (A2 (A1 0 (pv 0)) A8) rfl)))) (A7 (Ju (c:=true) T.Zr Aa rfl rfl Ro)) Au) (A7 (An (fL (PN (AZ (Ad (AW hr 16 (by decide)) (A1 0 (pv 0)) A5)) (PN (Eh (NB:=["road"]) [none] rfl (AV (Ad (AW hr 16 (by decide)) (A1 0 (pv 0)) A5)) rfl rfl (Bm 0 (by decide) rfl rfl rfl) (λ _ _ _ _=>Ef) (λ _ _ _ _=>(VZ rfl T.KU (A1 0 (pv 0))))) H9))))))),?_⟩;refine⟨λ m rs hm hl=>?_,λ d hc ho=>?_⟩
 ·have e0:AH ["thing"] [Ac m rs]=[some (.val (Ac m rs))]:=rfl;rw[e0];have h1:=NQ (Ac m rs) (WU (Hr LZ (Hr (gL gO) WV)));rw[hm] at h1;have n0:Bd (Ac m rs) (.int 0)=.ok (.int m):=rfl;have n1:Bd (Ac m rs) (.int 1)=.ok (.lst (rs.map FW)):=rfl;have aQ:(rs.map FW).length<=1000:=by rw[ze];omega
  refine BA ?_;apply wp_step
  ·simp_arith[h1,DF];rfl
  simp_arith[n0,n1,if_pos aQ];rw[DJ FW (λ r hr=>⟨_,rfl,rfl,rfl⟩)];simp_arith[];exact⟨_,rfl,rfl⟩
 ·have e0:AH ["thing"] [d]=[some (.val d)]:=rfl;rw[e0];have h1:=NQ d hc;rw[ho] at h1;simp_arith[h1,DF];rfl
noncomputable def Mi:List D->M OT:=zl Ih
theorem S7:Txt K mg->CO P w K mg base "checked" 5 1 Mi:=(zb Ih).1
theorem S8:(∀(m:Nat) (rs:List Road),D5 (Ac m rs)=true->rs.length<=60->Mi [Ac m rs]=.ok (.tup [.sh (.int m),.lst ((rs.map FW).map .sh)]))/\(∀d:D,cl 3 d->D5 d=false->Mi [d]=.ex "NoMap"):=(zb Ih).2
theorem Mj:∃F:List D->M OT,(∀ {P w K mg base},Txt K mg->CO P w K mg base "added" 1 2 F)/\(∀a b:Co,F [cst a,cst b]=.ok (.sh (cst (AN a b)))):=by
 refine⟨_,λ T=>AU (k:=0) T.Zo Xj _ (λ f B1 A outer s H E hr=>(A4 (B7 (DW.dt (D4 (Od (c:=true) (A1 0 (pv 0))) (Ca (Od (c:=true) (A1 1 (pv 1)))))) (A7 (An (AZ Gf))) Au) (A7 (An (AZ (AS (A2 (Cu (Ad (AW hr 16 (by decide)) (A1 0 (pv 0)) A5) (Ad (AW hr 16 (by decide)) (A1 1 (pv 1)) A5)) (A2 (Cu (Ad (AW hr 16 (by decide)) (A1 0 (pv 0)) A5) (Ad (AW hr 16 (by decide)) (A1 1 (pv 1)) A5)) A8)))))))),?_⟩;intro a b;rcases a with _|⟨a1,a2⟩<;>rcases b with _|⟨b1,b2⟩<;>rfl
noncomputable def Xq:List D->M OT:=zl Mj
theorem QF:Txt K mg->CO P w K mg base "added" 1 2 Xq:=(zb Mj).1
theorem QG:∀a b:Co,Xq [cst a,cst b]=.ok (.sh (cst (AN a b))):=(zb Mj).2
theorem Ml:∃F:List D->M OT,(∀ {P w K mg base},Txt K mg->CO P w K mg base "least" 1 1 F)/\(∀cs:List Co,cs.length<=1000->F [.lst (cs.map cst)]=.ok (.sh (cst (LP cs)))):=by
 refine⟨_,λ T=>AU (k:=0) T.Zp Xk _ (λ f B1 A outer s H E hr=>(A7 (An (AZ (Yu rfl (AW hr 1 (by decide)) rfl T.ZV (Ar (Eh (NB:=["cost"]) [none] rfl (AV (A1 0 (pv 0))) rfl rfl (Bm 0 (by decide) rfl rfl rfl) (λ _ _ _ _=>IL (KC (c:=true) (A1 0 (pv 0)))) (λ _ _ _ _=>(A1 0 (pv 0))))) Gf))))),?_⟩;intro cs hc;have e0:∀x:D,AH ["some"] [x]=[some (.val x)]:=λ x=>rfl;rw[e0];refine BA ?_;have hl:(cs.map cst).length<=1000:=by rw[ze];exact hc
 have rp:=WM cs;have t8:=Z1 cs;simp_arith[if_pos hl];rw[Ke];simp_arith[t8];rfl
noncomputable def S9:List D->M OT:=zl Ml
theorem Xr:Txt K mg->CO P w K mg base "least" 1 1 S9:=(zb Ml).1
theorem Xs:∀cs:List Co,cs.length<=1000->S9 [.lst (cs.map cst)]=.ok (.sh (cst (LP cs))):=(zb Ml).2
theorem FD:∃F:List D->M OT,(∀ {P w K mg base},Txt K mg->CO P w K mg base "road_cost" 1 1 F)/\(∀r:Road,F [FW r]=.ok (.sh (cst (CU r)))):=by
 refine⟨_,λ T=>AU (k:=0) T.Qu OK _ (λ f B1 A outer s H E hr=>(A4 (B7 (Od (c:=true) (Ad (AW hr 16 (by decide)) (A1 0 (pv 0)) A5)) (A7 (An (AZ Gf))) Au) (A7 (An (AZ (AS (A2 (Ad (AW hr 16 (by decide)) (A1 0 (pv 0)) A5) (A2 A5 A8)))))))),?_⟩;intro r;obtain⟨a,b,l,w⟩:=r;cases l<;>rfl
noncomputable def Mm:List D->M OT:=zl FD
theorem FE:Txt K mg->CO P w K mg base "road_cost" 1 1 Mm:=(zb FD).1
theorem FF:∀r:Road,Mm [FW r]=.ok (.sh (cst (CU r))):=(zb FD).2
theorem E5:∃F:List D->M OT,(∀ {P w K mg base},Txt K mg->CO P w K mg base "cost_so_far" 1 2 F)/\(∀(A:LA) (p:Int×Int),F [Ir A,pD p]=.ok (.sh (cst (Ah A p)))):=by
 refine⟨_,λ T=>AU (k:=0) T.ML Ma _ (λ f B1 A outer s H E hr=>(A4 (B7 (Ha (c:=true) (AW hr 16 (by decide)) (A1 1 (pv 1)) (A1 0 (pv 0))) (A7 (An (AZ Gf))) Au) (A7 (An (AZ (Ad (AW hr 16 (by decide)) (Ad (AW hr 16 (by decide)) (A1 0 (pv 0)) (A1 1 (pv 1))) A5)))))),?_⟩;intro A p;have e0:AH ["laid","pair"] [Ir A,pD p]=[some (.val (Ir A)),some (.val (pD p))]:=rfl;rw[e0];refine BA ?_;have hm:=OE A p true;unfold Ah;cases q:BE A p with
 |none =>
  rw[q] at hm;simp_arith[hm,DF];rfl
 |some v =>
  rw[q] at hm;have hi:=OF q;have h0:Bd (T9 v) (.int 0)=.ok (cst (some v.1)):=rfl;apply wp_step
  ·simp_arith[hm,DF];rfl
  simp_arith[hi,h0];rfl
noncomputable def Je:List D->M OT:=zl E5
theorem GH:Txt K mg->CO P w K mg base "cost_so_far" 1 2 Je:=(zb E5).1
theorem GI:∀(A:LA) (p:Int×Int),Je [Ir A,pD p]=.ok (.sh (cst (Ah A p))):=(zb E5).2
theorem Sa:∃F:OT->List D->M (OT×OT),(∀ {P w K mg base},Txt K mg->Ka P w K mg base "lay" 1 4 F)/\(∀(A:LA) (p:Int×Int) (c:Co) (mid:Option Int),A.length<1000->F (Iv A) [pD p,cst c,Ft mid]=.ok (Iv (layA A p c mid),.sh .AD)):=by
 refine⟨_,λ T=>LD (k:=0) T.lX iG _ (λ f B1 A outer s H E hr=>(A7 (B7 (Jz (DW.dt (Lg (KC (c:=true) (A1 2 (pv 2))) (KD (DW.dt (D4 (Ha (c:=true) (AW hr 16 (by decide)) (A1 1 (pv 1)) (A1 0 (pv 0))) (Ca (RF (c:=true) (AW hr 16 (by decide)) (A1 2 (pv 2)) (Ad (AW hr 16 (by decide)) (Ad (AW hr 16 (by decide)) (A1 0 (pv 0)) (A1 1 (pv 1))) A5))))))))) (A7 (KN (AW hr 16 (by decide)) (Br 0 (pv 0)) (A1 1 (pv 1)) (AS (A2 (A1 2 (pv 2)) (A2 (A1 3 (pv 3)) A8))))) Au))),?_⟩;intro A p c mid hA;have e0:Cb ["laid","pair","cost","middle"] (Iv A) [pD p,cst c,Ft mid]=[some (.ow (.tree (some 0) (Iv A))),some (.val (pD p)),some (.val (cst c)),some (.val (Ft mid))]:=rfl;rw[e0];refine OG ?_;have hm:=OE A p true;have rq:∀c:Int×Int,D.tup [cst (some c),Ft mid]=T9 (c,mid):=λ c=>rfl;have hl:(A.map λ kv=>pD kv.1).length<1000:=by rw[ze];exact hA
 have eh:keyOk true (pD p)=true:=rfl;have ap:∀v,(List.map (λ kv=>pD kv.1) (Cn A p v))=(List.map (λ kv=>pD kv.1) (Cn A p v)):=λ _=>rfl;cases c with
 |none =>
  refine Bv (ρ':=_) (by simp_arith[cst,BN];rfl) ⟨rfl,rfl⟩
 |some c =>
  have bD:BN (cst (some c))=false:=rfl;cases q:BE A p with
  |none =>
   rw[q] at hm;have el:layA A p (some c) mid=Cn A p (c,mid):=by unfold layA;dsimp only;rw[q]
   rw[el];refine Bv (ρ':=[some (.ow (.tree (some 0) (Iv (Cn A p (c,mid))))),some (.val (pD p)),some (.val (cst (some c))),some (.val (Ft mid))]) (by
    simp_arith[bD,hm,DF,C9,rq,if_pos (And.intro eh hl),X6,eh,hl,and_self,if_true];rfl) ⟨rfl,rfl⟩
  |some z =>
   rw[q] at hm;have hi:=OF q;have h0:Bd (T9 z) (.int 0)=.ok (cst (some z.1)):=rfl;have hx:=gY c z.1;by_cases hc:c.1<z.1.1\/(c.1=z.1.1/\c.2<z.1.2)
   ·have el:layA A p (some c) mid=Cn A p (c,mid):=by unfold layA;dsimp only;rw[q];dsimp only;rw[if_pos hc]
    rw[decide_eq_true hc] at hx;rw[el];refine Bv (ρ':=[some (.ow (.tree (some 0) (Iv (Cn A p (c,mid))))),some (.val (pD p)),some (.val (cst (some c))),some (.val (Ft mid))]) (by
     simp_arith[bD,hm,hi,h0,hx,DF,C9,rq,if_pos (And.intro eh hl),X6,eh,hl,and_self,if_true];rfl) ⟨rfl,rfl⟩
   ·have el:layA A p (some c) mid=A:=by unfold layA;dsimp only;rw[q];dsimp only;rw[if_neg hc]
    rw[decide_eq_false hc] at hx;rw[el];refine Bv (ρ':=_) (by simp_arith[bD,hm,hi,h0,hx,DF];rfl) ⟨rfl,rfl⟩
noncomputable def lY:OT->List D->M (OT×OT):=zl Sa
theorem Xu:Txt K mg->Ka P w K mg base "lay" 1 4 lY:=(zb Sa).1
theorem Xv:∀(A:LA) (p:Int×Int) (c:Co) (mid:Option Int),A.length<1000->lY (Iv A) [pD p,cst c,Ft mid]=.ok (Iv (layA A p c mid),.sh .AD):=(zb Sa).2
theorem GJ:∃F:OT->List D->M (OT×OT),(∀ {P w K mg base},Txt K mg->Ka P w K mg base "lay_over" 2 3 F)/\(∀(m:Nat) (A:LA) (p:Int) (H:List Int),m<=20->Ee m A->(∀x∈H,0<=x/\x<m)->F (Iv A) [.int p,.lst (H.map D.int)]=.ok (Iv (gQ A p H),.sh .AD)):=by
 refine⟨_,λ T=>LD (k:=1) T.S0 Ej _ (λ f B1 A outer s H E hr=>(A7 (Cw Aa.toXCall.own rfl (AV (A1 2 (pv 2))) (B5 3 Ej.nd rfl (zY rfl)) (A7 (Cw Aa.toXCall.own rfl (AV (A1 2 (pv 2))) (B5 4 Ej.nd rfl (zY rfl)) (A7 (B7 (K5 (c:=true) (AW hr 16 (by decide)) (A1 3 (pv 3)) (A1 4 (pv 4))) (A4 (AJ 5 Ej.nd rfl (zY rfl) (Ar (HS (Ak Aa.toXCall (QF T) (hr.mono (by decide)) rfl (A2 (Ar (Ak Aa.toXCall (GH T) (hr.mono (by decide)) rfl (A2 (A1 0 (pv 0)) (A2 (AS (A2 (A1 3 (pv 3)) (A2 (A1 1 (pv 1)) A8))) A8)) rfl)) (A2 (Ar (Ak Aa.toXCall (GH T) (hr.mono (by decide)) rfl (A2 (A1 0 (pv 0)) (A2 (AS (A2 (A1 1 (pv 1)) (A2 (A1 4 (pv 4)) A8))) A8)) rfl)) A8)) rfl)))) (A7 (LF (SI Aa.toXCall (Xu T) (hr.mono (by decide)) rfl (Br 0 (pv 0)) (A2 (AS (A2 (A1 3 (pv 3)) (A2 (A1 4 (pv 4)) A8))) (A2 (A1 5 (pv 5)) (A2 (A1 1 (pv 1)) A8))) rfl)))) Au))))))),?_⟩;intro m A p H hm hA hH;have e0:Cb ["laid","place","higher","u","w","cost"] (Iv A) [.int p,.lst (H.map D.int)]=[some (.ow (.tree (some 0) (Iv A))),some (.val (.int p)),some (.val (.lst (H.map D.int))),none,none,none]:=rfl;rw[e0];refine OG ?_;simp_arith[];refine CC (λ i ρ=>∃s3 s4 s5:Option Cl,ρ=[some (.ow (.tree (some 0) (Iv ((H.take i).foldl (Z9 p H) A)))),some (.val (.int p)),some (.val (.lst (H.map D.int))),s3,s4,s5]) ⟨none,none,none,rfl⟩ ?_ ?_
 ·rintro i d ρ hd ⟨s3,s4,s5,rfl⟩;obtain⟨u,hu,rfl⟩:=BS hd;have kc:=hH u (zq hu);refine⟨_,rfl,?_⟩;obtain⟨B,hB⟩:∃B,B=(H.take i).foldl (Z9 p H) A:=⟨_,rfl⟩;have e7:Ee m B:=by rw[hB];exact Ee.lo hH hA λ x hx=>hH x (yp hx)
  rw[<-hB,DR hu,<-hB];simp_arith[];refine CC (λ j ρ=>∃s4 s5:Option Cl,ρ=[some (.ow (.tree (some 0) (Iv ((H.take j).foldl (OB p u) B)))),some (.val (.int p)),some (.val (.lst (H.map D.int))),some (.val (.int u)),s4,s5]) ⟨s4,s5,rfl⟩ ?_ ?_
  ·rintro j d ρ hd ⟨s4,s5,rfl⟩;obtain⟨w,hw,rfl⟩:=BS hd;have uF:=hH w (zq hw);refine⟨_,rfl,?_⟩;obtain⟨C,hC⟩:∃C,C=(H.take j).foldl (OB p u) B:=⟨_,rfl⟩;have og:Ee m C:=by rw[hC];exact Ee.ou kc e7 λ x hx=>hH x (yp hx)
   rw[DR hw,<-hC];by_cases e:u=w
   ·have ev:OB p u C w=C:=by unfold OB;rw[if_pos e]
    rw[ev];refine Bv (ρ':=_) (by simp_arith[decide_eq_true e];rfl) ⟨_,_,rfl⟩
   ·have ev:OB p u C w=layA C (u,w) (AN (Ah C (u,p)) (Ah C (p,w))) (some p):=by unfold OB;rw[if_neg e]
    rw[ev];have h1:=GI C (u,p);have h2:=GI C (p,w);have h3:=QG (Ah C (u,p)) (Ah C (p,w));have h4:=Xv C (u,w) (AN (Ah C (u,p)) (Ah C (p,w))) (some p) (og.len hm);have t1:∀a b:Int,D.tup [.int a,.int b]=pD (a,b):=λ a b=>rfl;have t2:Ft (some p)=.int p:=rfl;rw[t2] at h4;have h5:=Fe (ρ:=[some (.ow (.tree (some 0) (Iv C))),some (.val (.int p)),some (.val (.lst (H.map D.int))),some (.val (.int u)),some (.val (.int w)),some (.val (cst (AN (Ah C (u,p)) (Ah C (p,w)))))]) (i:=0) rfl rfl h4;simp_arith[decide_eq_false e,if_true];apply wp_step
    ·simp_arith[t1,h1,h2,h3];rfl
    refine Bv (ρ':=_) (by simp_arith[t1,h5];rfl) ⟨_,_,rfl⟩
  ·rintro ρ ⟨s4,s5,rfl⟩;rw[ze,yo];exact⟨_,s4,s5,rfl⟩
 ·rintro ρ ⟨s3,s4,s5,rfl⟩;rw[ze,yo];exact⟨rfl,trivial⟩
noncomputable def NR:OT->List D->M (OT×OT):=zl GJ
theorem QH:Txt K mg->Ka P w K mg base "lay_over" 2 3 NR:=(zb GJ).1
theorem QI:∀(m:Nat) (A:LA) (p:Int) (H:List Int),m<=20->Ee m A->(∀x∈H,0<=x/\x<m)->NR (Iv A) [.int p,.lst (H.map D.int)]=.ok (Iv (gQ A p H),.sh .AD):=(zb GJ).2
theorem FG:∃F:List D->M OT,(∀ {P w K mg base},Txt K mg->CO P w K mg base "laid_arcs" 3 2 F)/\(∀(m:Nat) (rs:List Road) (L:List Int),m<=20->L.Perm (Ay m)->(∀r∈rs,Gu m r/\r.a≠r.b)->F [Ac m rs,.lst (L.map D.int)]=.ok (Iv (Bx rs L))):=by
 refine⟨_,λ T=>AU (k:=2) T.Qv Ce _ (λ f B1 A outer s H E hr=>(A4 (BX 2 Ce.nd rfl (zY rfl) (PZ true)) (A4 (Cw Aa.toXCall.own rfl (AV (Ad (AW hr 16 (by decide)) (A1 0 (pv 0)) A5)) (B5 3 Ce.nd rfl (zY rfl)) (A7 (LF (SI Aa.toXCall (Xu T) (hr.mono (by decide)) rfl (Br 2 (pv 2)) (A2 (AS (A2 (Ad (AW hr 16 (by decide)) (A1 3 (pv 3)) A5) (A2 (Ad (AW hr 16 (by decide)) (A1 3 (pv 3)) A5) A8))) (A2 (Ar (Ak Aa.toXCall (FE T) (hr.mono (by decide)) rfl (A2 (A1 3 (pv 3)) A8) rfl)) (A2 Gf A8))) rfl)))) (A4 (Cw Aa.toXCall.own rfl (Ys rfl T.QC (A1 1 (pv 1))) (Rq (n:=2) rfl (CQ (B5 4 Ce.nd rfl (zY rfl)) (CQ (B5 5 Ce.nd rfl (zY rfl)) Oh))) (A7 (LF (SI Aa.toXCall (QH T) (hr.mono (by decide)) rfl (Br 2 (pv 2)) (A2 (A1 5 (pv 5)) (A2 (Ar (J3 (A1 1 (pv 1)) (IJ (Cu (A1 4 (pv 4)) A5)) Og)) A8)) rfl)))) (A7 (Eg 2 (pv 2))))))),?_⟩;intro m rs L hm hL Ao;have e0:AH ["net","order","laid","road","rank","place"] [Ac m rs,.lst (L.map D.int)]=[some (.val (Ac m rs)),some (.val (.lst (L.map D.int))),none,none,none,none]:=rfl;rw[e0];refine BA ?_;have n1:Bd (Ac m rs) (.int 1)=.ok (.lst (rs.map FW)):=rfl;apply wp_step
 ·rfl
 try simp only[zF,zw]
 have e8:∀i,i<=rs.length->Ee m ((rs.take i).foldl (λ A r=>layA A (r.a,r.b) (CU r) none) []):=λ i hi=>by
  have:=(OC (m:=m) (rs:=rs.take i) λ r hr=>Ao r (yp hr)).1;exact this
 refine BP (I:=λ ρ=>∃s3 s4 s5:Option Cl,ρ=[some (.val (Ac m rs)),some (.val (.lst (L.map D.int))),some (.ow (.tree none (Iv (lay0 rs)))),s3,s4,s5]) ?_ ?_
 ·simp_arith[n1];refine CC (λ i ρ=>i<=rs.length/\∃s3 s4 s5:Option Cl,ρ=[some (.val (Ac m rs)),some (.val (.lst (L.map D.int))),some (.ow (.tree none (Iv ((rs.take i).foldl (λ A r=>layA A (r.a,r.b) (CU r) none) [])))),s3,s4,s5]) ⟨zW _,none,none,none,rfl⟩ ?_ ?_
  ·rintro i d ρ hd ⟨hi,s3,s4,s5,rfl⟩;obtain⟨r,hr,rfl⟩:=BS hd;have ap:=(zE.mp hr).1;refine⟨_,rfl,?_⟩;rw[DR hr];obtain⟨B,hB⟩:∃B,B=(rs.take i).foldl (λ A r=>layA A (r.a,r.b) (CU r) none) []:=⟨_,rfl⟩;have e7:Ee m B:=by rw[hB];exact e8 i hi
   rw[<-hB];have i0:Bd (FW r) (.int 0)=.ok (.int r.a):=rfl;have i1:Bd (FW r) (.int 1)=.ok (.int r.b):=rfl;have h1:=FF r;have h2:=Xv B (r.a,r.b) (CU r) none (e7.len hm);have t1:∀a b:Int,D.tup [.int a,.int b]=pD (a,b):=λ a b=>rfl;have t2:Ft none=.AD:=rfl;rw[t2] at h2;have h5:=Fe (ρ:=[some (.val (Ac m rs)),some (.val (.lst (L.map D.int))),some (.ow (.tree none (Iv B))),some (.val (FW r)),s4,s5]) (i:=2) rfl rfl h2;refine Bv (ρ':=_) (by simp_arith[i0,i1,h1,t1,h5];rfl) ⟨ap,_,_,_,rfl⟩
  ·rintro ρ ⟨_,s3,s4,s5,rfl⟩;rw[ze,yo];exact⟨s3,s4,s5,rfl⟩
 ·rintro ρ ⟨s3,s4,s5,rfl⟩;have oh:=OC Ao;refine BP (I:=λ ρ=>∃s3 s4 s5:Option Cl,ρ=[some (.val (Ac m rs)),some (.val (.lst (L.map D.int))),some (.ow (.tree none (Iv (Bx rs L)))),s3,s4,s5]) ?_ ?_
  ·simp_arith[];refine CC (λ i ρ=>i<=L.length/\∃(G:LA) (s3 s4 s5:Option Cl),ρ=[some (.val (Ac m rs)),some (.val (.lst (L.map D.int))),some (.ow (.tree none (Iv G))),s3,s4,s5]/\Ee m G/\RN G (L.drop i)=RN (lay0 rs) L) ⟨zW _,lay0 rs,s3,s4,s5,rfl,oh.1,rfl⟩ ?_ ?_
   ·rintro i d ρ hd ⟨hi,G,s3,s4,s5,rfl,hG,je⟩;obtain⟨d',gc,rfl⟩:=Nc hd;obtain⟨p,hp,rfl⟩:=BS gc;have ap:=(zE.mp hp).1;rw[Nat.zero_add];refine⟨_,rfl,?_⟩;have cB:∀x∈L.drop (i+1),0<=x/\x<m:=λ x hx=>(DQ hL).mp (List.mem_of_mem_drop hx);have ed:L.drop i=p::L.drop (i+1):=by
     rw[List.drop_eq_getElem_cons ap];rw[zr ap] at hp;rw[zH hp]
    rw[ed,RN] at je;have h2:=QI m G p (L.drop (i+1)) hm hG cB;have sl:Wx (some ((i:Int)+1)) none (.lst (L.map D.int))=.ok (.lst (((L.drop (i+1)).map D.int).map .sh)):=by rw[List.map_drop];exact Wz _ (i+1)
    have h5:=Fe (ρ:=[some (.val (Ac m rs)),some (.val (.lst (L.map D.int))),some (.ow (.tree none (Iv G))),s3,some (.val (.int i)),some (.val (.int p))]) (i:=2) rfl rfl h2;refine Bv (ρ':=_) (by simp_arith[sl,h5];rfl) ⟨ap,_,_,_,_,rfl,Ee.lo cB hG cB,je⟩
   ·rintro ρ ⟨_,G,s3,s4,s5,rfl,hG,je⟩;rw[Js,ze,List.drop_length,RN] at je;exact⟨s3,s4,s5,by rw[je];rfl⟩
  ·rintro ρ ⟨s3,s4,s5,rfl⟩;exact⟨_,rfl,rfl⟩
noncomputable def Mn:List D->M OT:=zl FG
theorem OP:Txt K mg->CO P w K mg base "laid_arcs" 3 2 Mn:=(zb FG).1
theorem OQ:∀(m:Nat) (rs:List Road) (L:List Int),m<=20->L.Perm (Ay m)->(∀r∈rs,Gu m r/\r.a≠r.b)->Mn [Ac m rs,.lst (L.map D.int)]=.ok (Iv (Bx rs L)):=(zb FG).2
theorem GK:∃F:List D->M OT,(∀ {P w K mg base},Txt K mg->CO P w K mg base "is_order" 2 2 F)/\(∀(m:Nat) (x d:D),m<=60->lO d->F [.tup [.int m,x],d]=.ok (.sh (.bl (Ei m d)))):=by
 refine⟨_,λ T=>AU (k:=1) T.S1 Qr _ (λ f B1 A outer s H E hr=>(A4 (B7 (DW.dt (D4 (BO (Bs (c:=true) (Ep (Jq _) rfl T.AR rfl T.EA (by decide +kernel) (A1 1 (pv 1))))) (Ca (K5 (c:=true) (AW hr 16 (by decide)) (Jp rfl T.NP (A1 1 (pv 1))) (Ad (AW hr 16 (by decide)) (A1 0 (pv 0)) A5))))) (A7 (An (AZ BK))) Au) (A4 (B7 (BO (Bs (c:=true) (Rw rfl rfl T.Xo (Ar (Eh (NB:=["place","net"]) [none,some 0] rfl (AV (A1 1 (pv 1))) rfl rfl (Bm 0 (by decide) rfl rfl rfl) (λ _ _ _ _=>Ef) (λ _ _ _ _=>(Ar (Gm (Ak (Fm rfl).toXCall (AK T) (hr.mono (by decide)) rfl (A2 (A1 0 (pv 0)) (A2 (Ad (AW hr 16 (by decide)) (A1 1 (pv 1)) A5) A8)) rfl))))))))) (A7 (An (AZ BK))) Au) (A7 (An (AZ (ZD (AW hr 16 (by decide)) (Ar (UA rfl rfl T.QD (A1 1 (pv 1)))) (Ar (Fp rfl rfl T.EA rfl T.FC (Ad (AW hr 16 (by decide)) (A1 0 (pv 0)) A5)))))))))),?_⟩;intro m x d hm ⟨hx,Ao⟩;have e0:AH ["net","thing"] [.tup [.int m,x],d]=[some (.val (.tup [.int m,x])),some (.val d)]:=rfl;rw[e0];have n0:Bd (.tup [.int m,x]) (.int 0)=.ok (.int m):=rfl;refine BA ?_;cases d with
 |lst xs =>
  obtain⟨hl,bN⟩:=Ao xs rfl;by_cases h1:xs.length=m
  ·have cM:(xs.length:Int)=(m:Int):=by omega
   apply wp_step
   ·simp_arith[n0,decide_eq_true cM];rfl
   have aj:∀ {gt:D->A9->M A9} {ft:A9->M Bool} {fe:A9->M D} {ρ:A9},(∀d∈xs,∃ρ1,gt d ρ=.ok ρ1/\ft ρ1=.ok true/\fe ρ1=.ok (.bl (Jg d m)))->B3 gt ft fe xs ρ=.ok ((xs.map λ e=>Jg e m).map D.bl):=λ h=>by
    rw[Ng (λ d=>.bl (Jg d m)) xs h,ym];rfl
   cases h2:(xs.map λ e=>Jg e m).all id with
   |false =>
    have hf:Ei m (.lst xs)=false:=by
     cases q:Ei m (.lst xs) with
     |false=>rfl
     |true=>have:=(Qg q).2;rw[h2] at this;cases this
    rw[hf];simp_arith[if_pos hl];rw[aj]
    ·simp_arith[h2];rfl
    ·intro d hd;have:=AE d m (bN d hd);exact⟨_,rfl,rfl,by simp_arith[n0,this]⟩
   |true =>
    obtain⟨L,rfl⟩:=T6 h2;rw[ze] at h1;have hs:=Uz (ns:=L) (by omega);have h3:=KO (n:=m) (by omega);rw[LV] at h3;apply wp_step
    ·simp_arith[if_pos hl];rw[aj]
     ·simp_arith[h2];rfl
     ·intro d hd;have:=AE d m (bN d hd);exact⟨_,rfl,rfl,by simp_arith[n0,this]⟩
    simp_arith[n0,hs,h3,WS];rw[LX];rfl
  ·have cM:¬ (xs.length:Int)=(m:Int):=by omega
   rw[Z7 h1];simp_arith[n0,decide_eq_false cM];rfl
 |D9 x|ins x n d=>cases hx
 |_=>rfl
noncomputable def NS:List D->M OT:=zl GK
theorem QJ:Txt K mg->CO P w K mg base "is_order" 2 2 NS:=(zb GK).1
theorem Kj:∀(m:Nat) (x d:D),m<=60->lO d->NS [.tup [.int m,x],d]=.ok (.sh (.bl (Ei m d))):=(zb GK).2
theorem CL:∃F:List D->M OT,(∀ {P w K mg base},Txt K mg->CO P w K mg base "checked_order" 3 2 F)/\((∀(m:Nat) (x:D) (L:List Int),m<=60->L.Perm (Ay m)->F [.tup [.int m,x],.lst (L.map .int)]=.ok (.lst ((L.map D.int).map .sh)))/\(∀(m:Nat) (x d:D),m<=60->lO d->Ei m d=false->F [.tup [.int m,x],d]=.ex "NoOrder")):=by
 refine⟨_,λ T=>AU (k:=2) T.Kx JU _ (λ f B1 A outer s H E hr=>(A4 (B7 (BO (Bs (c:=true) (Ar (Ak Aa.toXCall (QJ T) (hr.mono (by decide)) rfl (A2 (A1 0 (pv 0)) (A2 (A1 1 (pv 1)) A8)) rfl)))) (A7 (Ju (c:=true) T.V5 Aa rfl rfl Ro)) Au) (A7 (An (KJ rfl T.EA (A1 1 (pv 1))))))),?_⟩;refine⟨λ m x L hm hL=>?_,λ m x d hm hd ho=>?_⟩
 ·have e0:AH ["net","thing"] [.tup [.int m,x],.lst (L.map .int)]=[some (.val (.tup [.int m,x])),some (.val (.lst (L.map .int)))]:=rfl;rw[e0];have hd:lO (.lst (L.map D.int)):=⟨rfl,λ xs e=>by
   cases e;exact⟨by rw[ze,LY hL];omega,λ e he=>by obtain⟨j,_,rfl⟩:=zJ.mp he;rfl⟩⟩
  have h1:=Kj m x _ hm hd;rw[RJ hL] at h1;refine BA ?_;apply wp_step
  ·simp_arith[h1];rfl
  simp_arith[];exact⟨_,rfl,rfl⟩
 ·have e0:AH ["net","thing"] [.tup [.int m,x],d]=[some (.val (.tup [.int m,x])),some (.val d)]:=rfl;rw[e0];have h1:=Kj m x _ hm hd;rw[ho] at h1;simp_arith[h1];rfl
noncomputable def Ci:List D->M OT:=zl CL
theorem JY:Txt K mg->CO P w K mg base "checked_order" 3 2 Ci:=(zb CL).1
theorem JZ:(∀(m:Nat) (x:D) (L:List Int),m<=60->L.Perm (Ay m)->Ci [.tup [.int m,x],.lst (L.map .int)]=.ok (.lst ((L.map D.int).map .sh)))/\(∀(m:Nat) (x d:D),m<=60->lO d->Ei m d=false->Ci [.tup [.int m,x],d]=.ex "NoOrder"):=(zb CL).2
theorem EC:∃F:List D->M OT,(∀ {P w K mg base},Txt K mg->CO P w K mg base "first_bows" 2 1 F)/\(∀(m:Nat) (rs:List Road),m<=20->(∀r∈rs,Gu m r/\r.a≠r.b)->F [Ac m rs]=.ok (.B6 true ((Bk rs).map pD) ((Cq (Bk rs)).map .sh))):=by
 refine⟨_,λ T=>AU (k:=1) T.ON Ew _ (λ f B1 A outer s H E hr=>(A4 (BX 1 Ew.nd rfl (zY rfl) (PZ true)) (A4 (Cw Aa.toXCall.own rfl (AV (Ad (AW hr 16 (by decide)) (A1 0 (pv 0)) A5)) (B5 2 Ew.nd rfl (zY rfl)) (A7 (B7 (KC (c:=true) (Ar (Ak Aa.toXCall (FE T) (hr.mono (by decide)) rfl (A2 (A1 2 (pv 2)) A8) rfl))) (A7 (KN (AW hr 16 (by decide)) (Br 1 (pv 1)) (AS (A2 (Ad (AW hr 16 (by decide)) (A1 2 (pv 2)) A5) (A2 (Ad (AW hr 16 (by decide)) (A1 2 (pv 2)) A5) A8))) BK)) Au))) (A7 (Eg 1 (pv 1)))))),?_⟩;intro m rs hm Ao;have e0:AH ["net","bows","road"] [Ac m rs]=[some (.val (Ac m rs)),none,none]:=rfl;rw[e0];refine BA ?_;apply wp_step
 ·rfl
 have n1:Bd (Ac m rs) (.int 1)=.ok (.lst (rs.map FW)):=rfl;refine BP (I:=λ ρ=>∃s2,ρ=[some (.val (Ac m rs)),some (.ow (.tree none (.B6 true ((Bk rs).map pD) ((Cq (Bk rs)).map .sh)))),s2]) ?_ ?_
 ·simp_arith[n1];refine CC (λ i ρ=>∃s2,ρ=[some (.val (Ac m rs)),some (.ow (.tree none (.B6 true ((Bk (rs.take i)).map pD) ((Cq (Bk (rs.take i))).map .sh)))),s2]) ⟨none,rfl⟩ ?_ ?_
  ·rintro i d ρ hd ⟨s2,rfl⟩;rw[zB] at hd;cases hq:rs[i]? with
   |none=>rw[hq] at hd;cases hd
   |some r =>
    rw[hq] at hd;cases hd;have hr:=zq hq;have et:rs.take (i+1)=rs.take i++[r]:=by rw[yw,hq];rfl
    have eb:Bk (rs.take (i+1))=(match r.l with|none=>Bk (rs.take i)|some _=>JJ (Bk (rs.take i)) (r.a,r.b)):=by
     unfold Bk;rw[et,List.foldl_append];rfl
    have t9:=Qe (m:=m) (rs:=rs.take i) λ r' h'=>Ao r' (yp h');have hlen:=t9.len hm;have h1:=FF r;refine⟨_,rfl,?_⟩;cases hl:r.l with
    |none =>
     have e1:CU r=none:=by unfold CU;rw[hl]
     rw[hl] at eb;rw[e1] at h1;simp_arith[h1,cst,BN];exact⟨_,by rw[eb]⟩
    |some l =>
     have e1:CU r=some (l,1):=by unfold CU;rw[hl]
     rw[hl] at eb;rw[e1] at h1;have i0:Bd (FW r) (.int 0)=.ok (.int r.a):=rfl;have i1:Bd (FW r) (.int 1)=.ok (.int r.b):=rfl;have kk:keyOk true (D.tup [.int r.a,.int r.b])=true/\((Bk (rs.take i)).map pD).length<1000:=⟨rfl,by rw[ze];exact hlen⟩;have pp:putD ((Bk (rs.take i)).map pD) (Cq (Bk (rs.take i))) (D.tup [.int r.a,.int r.b]) (.bl true)=_:=T5 (Bk (rs.take i)) (r.a,r.b);simp_arith[h1,cst,BN,Bool.not_false,if_true,i0,i1,if_pos kk,pp];exact⟨_,by rw[eb]⟩
  ·rintro ρ ⟨s2,rfl⟩;rw[ze,yo];exact⟨s2,rfl⟩
 ·rintro ρ ⟨s2,rfl⟩;exact⟨_,rfl,rfl⟩
noncomputable def Kk:List D->M OT:=zl EC
theorem MQ:Txt K mg->CO P w K mg base "first_bows" 2 1 Kk:=(zb EC).1
theorem MR:∀(m:Nat) (rs:List Road),m<=20->(∀r∈rs,Gu m r/\r.a≠r.b)->Kk [Ac m rs]=.ok (.B6 true ((Bk rs).map pD) ((Cq (Bk rs)).map .sh)):=(zb EC).2
theorem D1:∃F:List D->M OT,(∀ {P w K mg base},Txt K mg->CO P w K mg base "missing_bows" 1 3 F)/\(∀(B:List (Int×Int)) (vs:List D) (L:List Int) (v:Int),L.length<=30->F [.B6 true (B.map pD) vs,.lst (L.map .int),.int v]=.ok (.lst (((AO B L v).map pD).map .sh))):=by
 refine⟨_,λ T=>AU (k:=0) T.Mg By _ (λ f B1 A outer s H E hr=>(A4 (IM (NB:=["u","bows","place"]) 3 [none,some 0,some 2] By.nd rfl (zY rfl) rfl (AV (A1 1 (pv 1))) rfl rfl (Bm 0 (by decide) rfl rfl rfl) (λ _ _ _ _=>IL (LC (c:=true) (AW hr 16 (by decide)) (AS (A2 (A1 0 (pv 0)) (A2 (A1 2 (pv 2)) A8))) (A1 1 (pv 1)))) (λ _ _ _ _=>(A1 0 (pv 0)))) (A4 (IM (NB:=["w","bows","place"]) 4 [none,some 0,some 2] By.nd rfl (zY rfl) rfl (AV (A1 1 (pv 1))) rfl rfl (Bm 0 (by decide) rfl rfl rfl) (λ _ _ _ _=>IL (LC (c:=true) (AW hr 16 (by decide)) (AS (A2 (A1 2 (pv 2)) (A2 (A1 0 (pv 0)) A8))) (A1 1 (pv 1)))) (λ _ _ _ _=>(A1 0 (pv 0)))) (A4 (BX 5 By.nd rfl (zY rfl) (Lu H9)) (A4 (Cw Aa.toXCall.own rfl (AV (A1 3 (pv 3))) (B5 6 By.nd rfl (Or.inr rfl)) (A7 (Wr (Br 5 (pv 5)) (by exact (Eh (NB:=["w","u","bows"]) [none,some 6,some 0] rfl (AV (A1 4 (pv 4))) rfl rfl (Bm 0 (by decide) rfl rfl rfl) (λ _ _ _ _=>IL (DW.dt (Lg (K5 (c:=true) (AW hr 16 (by decide)) (A1 1 (pv 1)) (A1 0 (pv 0))) (KD (Ha (c:=true) (AW hr 16 (by decide)) (AS (A2 (A1 1 (pv 1)) (A2 (A1 0 (pv 0)) A8))) (A1 2 (pv 2))))))) (λ _ _ _ _=>(AS (A2 (A1 1 (pv 1)) (A2 (A1 0 (pv 0)) A8))))))))) (A7 (Eg 5 (pv 5)))))))),?_⟩;intro B vs L v hl;have e0:AH ["bows","left","place","ahead","behind","missing","u"] [.B6 true (B.map pD) vs,.lst (L.map .int),.int v]=[some (.val (.B6 true (B.map pD) vs)),some (.val (.lst (L.map .int))),some (.val (.int v)),none,none,none,none]:=rfl;rw[e0];refine BA ?_;have hL:(L.map D.int).length<=1000:=by rw[ze];omega
 apply wp_step
 ·simp_arith[if_pos hL];rw[CF (λ u=>decide ((u,v)∈B)) D.int (λ u hu=>⟨_,rfl,by simp[fV,fW,Ho,zF,zw,M.A6,Df,De,EG,ES,ET,EU,He,Fq,Gp,Kc,EI,EJ,Dg,Nq,Hb,Hc,EK,Up,Dh,Di,CD,JA,BD,JB,EL,EM,Dj,Nr,EH,CS,toCl_list,toCl_listP,toCl_dct,Hf,EV,EW,EX,EY,Hg,EZ,F0,F1,ZJ,ZI,EN,Nt,EO,Nu,EQ,ER,Hd,Nv,iO,iP,Us,Ut,Uu,Uv,Uw,Ux,toCl_nil,Gh,IZ,MH,JC,Dk,Hh,Hi,F2,F3,Hj,Hk,Hl,Hm,Hn,F4,F5,F6,F7,Dl,Dm,Dn,Dp,Dq,F8,Dr,Ds,Nw,Nx,Ny,Nz,NA,Dt,ite_tt,ite_ff,Bool.not_true,Bool.not_false,yS,zO,CH,Fb,Fc,Ur,UO,Uq,UR,US,UT,Hs,JL,JM,JN,C9,Dv,Ht,JG,UX,NM,JP,Oz],λ _=>by simp_arith[]⟩)];simp_arith[];rfl
 apply wp_step
 ·simp_arith[if_pos hL];rw[CF (λ w=>decide ((v,w)∈B)) D.int (λ u hu=>⟨_,rfl,by simp[fV,fW,Ho,zF,zw,M.A6,Df,De,EG,ES,ET,EU,He,Fq,Gp,Kc,EI,EJ,Dg,Nq,Hb,Hc,EK,Up,Dh,Di,CD,JA,BD,JB,EL,EM,Dj,Nr,EH,CS,toCl_list,toCl_listP,toCl_dct,Hf,EV,EW,EX,EY,Hg,EZ,F0,F1,ZJ,ZI,EN,Nt,EO,Nu,EQ,ER,Hd,Nv,iO,iP,Us,Ut,Uu,Uv,Uw,Ux,toCl_nil,Gh,IZ,MH,JC,Dk,Hh,Hi,F2,F3,Hj,Hk,Hl,Hm,Hn,F4,F5,F6,F7,Dl,Dm,Dn,Dp,Dq,F8,Dr,Ds,Nw,Nx,Ny,Nz,NA,Dt,ite_tt,ite_ff,Bool.not_true,Bool.not_false,yS,zO,CH,Fb,Fc,Ur,UO,Uq,UR,US,UT,Hs,JL,JM,JN,C9,Dv,Ht,JG,UX,NM,JP,Oz],λ _=>by simp_arith[]⟩)];simp_arith[];rfl
 apply wp_step
 ·rfl
 try simp only[zF,zw]
 have ke:((L.filter λ w=>decide ((v,w)∈B)).map D.int).length<=1000:=by rw[ze];exact yi (xb _ _) (by omega)
 have hlen:=UJ B L v;have uG:L.length*L.length<=30*30:=Nat.mul_le_mul hl hl;generalize hA:L.filter (λ u=>decide ((u,v)∈B))=A;generalize hW:L.filter (λ w=>decide ((v,w)∈B))=W at ke ⊢;obtain⟨G,hG⟩:∃G:Int->List (Int×Int),G=λ u=>((W.filter λ w=>decide (u≠w) && !decide ((u,w)∈B)).map λ w=>(u,w)):=⟨_,rfl⟩;have cP:AO B L v=A.flatMap G:=by unfold AO;rw[hA,hW,hG]
 refine BP (I:=λ ρ=>∃s6,ρ=[some (.val (.B6 true (B.map pD) vs)),some (.val (.lst (L.map .int))),some (.val (.int v)),some (.val (.lst (A.map .int))),some (.val (.lst (W.map .int))),some (.own ((A.flatMap G).map pD)),s6]) ?_ ?_
 ·simp_arith[];refine CC (λ i ρ=>∃s6,ρ=[some (.val (.B6 true (B.map pD) vs)),some (.val (.lst (L.map .int))),some (.val (.int v)),some (.val (.lst (A.map .int))),some (.val (.lst (W.map .int))),some (.own (((A.take i).flatMap G).map pD)),s6]) ⟨none,rfl⟩ ?_ ?_
  ·rintro i d ρ hd ⟨s6,rfl⟩;obtain⟨u,hu,rfl⟩:=BS hd;have et:A.take (i+1)=A.take i++[u]:=by rw[yw,hu];rfl
   refine⟨_,rfl,?_⟩;have hb:(((A.take i).flatMap G).map pD).length+((G u).map pD).length<=1000:=by
    have h1:((A.take (i+1)).flatMap G).length<=(A.flatMap G).length:=by
     conv=>rhs;rw[<-List.take_append_drop (i+1) A,List.flatMap_append,zT]
     omega
    rw[et,List.flatMap_append,zT] at h1;rw[cP] at hlen;simp only[List.flatMap_cons,List.flatMap_nil,yc] at h1;rw[ze,ze];omega
   have js:(((W.filter λ w=>decide (u≠w) && !decide ((u,w)∈B)).map λ w=>(u,w)).map pD)=(W.filter λ w=>decide (u≠w) && !decide ((u,w)∈B)).map λ w=>D.tup [.int u,.int w]:=by rw[ym];rfl
   refine Bv (ρ':=[some (.val (.B6 true (B.map pD) vs)),some (.val (.lst (L.map .int))),some (.val (.int v)),some (.val (.lst (A.map .int))),some (.val (.lst (W.map .int))),some (.own (((A.take (i+1)).flatMap G).map pD)),some (.val (.int u))]) ?_ ⟨_,rfl⟩;simp_arith[if_pos ke];rw[CF (λ w=>decide (u≠w) && !decide ((u,w)∈B)) (λ w=>D.tup [.int u,.int w]) (λ w hw=>⟨_,rfl,by
    simp[fV,fW,Ho,zF,zw,M.A6,Df,De,EG,ES,ET,EU,He,Fq,Gp,Kc,EI,EJ,Dg,Nq,Hb,Hc,EK,Up,Dh,Di,CD,JA,BD,JB,EL,EM,Dj,Nr,EH,CS,toCl_list,toCl_listP,toCl_dct,Hf,EV,EW,EX,EY,Hg,EZ,F0,F1,ZJ,ZI,EN,Nt,EO,Nu,EQ,ER,Hd,Nv,iO,iP,Us,Ut,Uu,Uv,Uw,Ux,toCl_nil,Gh,IZ,MH,JC,Dk,Hh,Hi,F2,F3,Hj,Hk,Hl,Hm,Hn,F4,F5,F6,F7,Dl,Dm,Dn,Dp,Dq,F8,Dr,Ds,Nw,Nx,Ny,Nz,NA,Dt,ite_tt,ite_ff,Bool.not_true,Bool.not_false,yS,zO,CH,Fb,Fc,Ur,UO,Uq,UR,US,UT,Hs,JL,JM,JN,C9,Dv,Ht,JG,UX,NM,JP,Oz,Yp,Iq,Az,Ap];by_cases h:u=w<;>simp[h],λ _=>by simp_arith[]⟩)]
   rw[<-js];have tL:((W.filter λ w=>decide (u≠w) && !decide ((u,w)∈B)).map λ w=>(u,w))=G u:=by rw[hG]
   rw[tL];simp_arith[if_pos hb];rw[et,List.flatMap_append,List.flatMap_cons,List.flatMap_nil,yc,<-yh]
  ·rintro ρ ⟨s6,rfl⟩;rw[ze,yo];exact⟨s6,rfl⟩
 ·rintro ρ ⟨s6,rfl⟩;rw[cP];exact⟨_,rfl,rfl⟩
noncomputable def HE:List D->M OT:=zl D1
theorem FZ:Txt K mg->CO P w K mg base "missing_bows" 1 3 HE:=(zb D1).1
theorem G0:∀(B:List (Int×Int)) (vs:List D) (L:List Int) (v:Int),L.length<=30->HE [.B6 true (B.map pD) vs,.lst (L.map .int),.int v]=.ok (.lst (((AO B L v).map pD).map .sh)):=(zb D1).2
theorem GL:∃F:List D->M OT,(∀ {P w K mg base},Txt K mg->CO P w K mg base "lightest" 2 2 F)/\(∀(B:List (Int×Int)) (vs:List D) (L:List Int),L≠[]->L.length<=30->F [.B6 true (B.map pD) vs,.lst (L.map .int)]=.ok (.sh (.int (B8 B L)))):=by
 refine⟨_,λ T=>AU (k:=1) T.S2 Qs _ (λ f B1 A outer s H E hr=>(A7 (An (AZ (Ad (AW hr 16 (by decide)) (YO rfl (AW hr 16 (by decide)) rfl T.ZV (Ar (Eh (NB:=["place","bows","left"]) [none,some 0,some 1] rfl (AV (A1 1 (pv 1))) rfl rfl (Bm 0 (by decide) rfl rfl rfl) (λ _ _ _ _=>Ef) (λ _ _ _ _=>(AS (A2 (Jp rfl T.NP (Ar (Gm (Ak (Fm rfl).toXCall (FZ T) (hr.mono (by decide)) rfl (A2 (A1 1 (pv 1)) (A2 (A1 2 (pv 2)) (A2 (A1 0 (pv 0)) A8))) rfl)))) (A2 (A1 0 (pv 0)) A8))))))) A5))))),?_⟩;intro B vs L ad hl;have e0:AH ["bows","left"] [.B6 true (B.map pD) vs,.lst (L.map .int)]=[some (.val (.B6 true (B.map pD) vs)),some (.val (.lst (L.map .int)))]:=rfl;rw[e0];refine BA ?_;have hL:(L.map D.int).length<=1000:=by rw[ze];omega
 simp_arith[if_pos hL];rw[DJ (λ p=>D.tup ([((AO B L p).length:Int),p].map D.int)) (λ p hp=>⟨_,rfl,rfl,by
  have h1:=G0 B vs L p hl;simp_arith[h1,U0,ze,zg,List.map_nil]⟩)]
 simp_arith[SJ];rw[NG];have hb:=UK (λ p=>D.tup ([((AO B L p).length:Int),p].map D.int)) (L.map λ p=>(p,[((AO B L p).length:Int),p]));rw[ym] at hb;have e2:((λ b:Int×List Int=>(D.tup ([((AO B L b.1).length:Int),b.1].map D.int),b.2)) ∘ λ p=>(p,[((AO B L p).length:Int),p]))=λ p=>(D.tup ([((AO B L p).length:Int),p].map D.int),[((AO B L p).length:Int),p]):=rfl;rw[e2] at hb;dsimp only;rw[hb];unfold B8;cases q:AM (L.map λ p=>(p,[((AO B L p).length:Int),p])) with
 |none=>exact (LG (λ z=>ad (List.map_eq_nil_iff.mp z)) q).elim
 |some k =>
  simp only[yf,M.A6];rfl
noncomputable def NT:List D->M OT:=zl GL
theorem QK:Txt K mg->CO P w K mg base "lightest" 2 2 NT:=(zb GL).1
theorem QL:∀(B:List (Int×Int)) (vs:List D) (L:List Int),L≠[]->L.length<=30->NT [.B6 true (B.map pD) vs,.lst (L.map .int)]=.ok (.sh (.int (B8 B L))):=(zb GL).2
theorem K0:∃F:List D->M OT,(∀ {P w K mg base},Txt K mg->CO P w K mg base "ranked" 3 1 F)/\(∀(m:Nat) (rs:List Road),m<=20->(∀r∈rs,Gu m r/\r.a≠r.b)->F [Ac m rs]=.ok (.lst (((QU m (Bk rs) (Ay m)).map D.int).map .sh))):=by
 refine⟨_,λ T=>AU (k:=2) T.Xn Dw _ (λ f B1 A outer s H E hr=>(A4 (BX 1 Dw.nd rfl (zY rfl) (Ak Aa.toXCall (MQ T) (hr.mono (by decide)) rfl (A2 (A1 0 (pv 0)) A8) rfl)) (A4 (BX 2 Dw.nd rfl (zY rfl) (Fp rfl rfl T.EA rfl T.FC (Ad (AW hr 16 (by decide)) (A1 0 (pv 0)) A5))) (A4 (BX 3 Dw.nd rfl (zY rfl) (Lu H9)) (A4 (Lk Aa.toXCall.own (Jz (Bs (c:=true) (A1 2 (pv 2)))) (A4 (AJ 4 Dw.nd rfl (zY rfl) (Ar (HS (Ak Aa.toXCall (QK T) (hr.mono (by decide)) rfl (A2 (A1 1 (pv 1)) (A2 (A1 2 (pv 2)) A8)) rfl)))) (A4 (Cw Aa.toXCall.own rfl (AV (Ar (HS (Ak Aa.toXCall (FZ T) (hr.mono (by decide)) rfl (A2 (A1 1 (pv 1)) (A2 (A1 2 (pv 2)) (A2 (A1 4 (pv 4)) A8))) rfl)))) (B5 5 Dw.nd rfl (zY rfl)) (A7 (KN (AW hr 16 (by decide)) (Br 1 (pv 1)) (A1 5 (pv 5)) BK))) (A4 (Ul (Br 2 (pv 2)) (A1 4 (pv 4))) (A7 (Jr 3 (pv 3) (A1 4 (pv 4)))))))) (A7 (Eg 3 (pv 3)))))))),?_⟩;intro m rs hm Ao;have e0:AH ["net","bows","left","order","place","bow"] [Ac m rs]=[some (.val (Ac m rs)),none,none,none,none,none]:=rfl;rw[e0];refine BA ?_;have h1:=MR m rs hm Ao;have n0:Bd (Ac m rs) (.int 0)=.ok (.int m):=rfl;have h2:=KO (n:=m) (by omega);rw[LV] at h2;apply wp_step
 ·simp_arith[h1];rfl
 apply wp_step
 ·simp_arith[n0,h2];rfl
 apply wp_step
 ·rfl
 try simp only[zF,zw]
 refine BP (I:=λ ρ=>∃s1 s2 s4 s5,ρ=[some (.val (Ac m rs)),s1,s2,some (.own ((QU m (Bk rs) (Ay m)).map D.int)),s4,s5]) ?_ ?_
 ·refine LH (lt:=λ a b:Nat=>a<b) (λ n ρ=>∃(B:List (Int×Int)) (L O:List Int) (s4 s5:Option Cl),ρ=[some (.val (Ac m rs)),some (.ow (.tree none (.B6 true (B.map pD) ((Cq B).map .sh)))),some (.own (L.map D.int)),some (.own (O.map D.int)),s4,s5]/\L.length=n/\n+O.length=m/\BR m B/\(∀p∈L,0<=p/\p<(m:Int))/\O++QU n B L=QU m (Bk rs) (Ay m)) (Nat.lt_wfRel.wf.apply m) ⟨Bk rs,Ay m,[],none,none,rfl,DM m,by simp,Qe Ao,λ p hp=>F9.mp hp,rfl⟩ ?_;rintro n ρ ⟨B,L,O,s4,s5,rfl,hn,hO,hB,hL,cE⟩;by_cases jf:L=[]
  ·subst jf;left;have:n=0:=by simpa using hn.symm
   subst this;rw[QU,yc] at cE;exact⟨rfl,⟨_,_,_,_,by rw[cE]⟩⟩
  ·right;have jg:L.length<=30:=by omega
   have q1:=QL B (Cq B) L jf jg;have q2:=G0 B (Cq B) L (B8 B L) jg;obtain⟨aN,_⟩:=NI (B:=B) jf;have tM:0<L.length:=List.length_pos_of_mem aN;obtain⟨n',rfl⟩:∃n',n=n'+1:=⟨n-1,by omega⟩;rw[QU,if_neg jf] at cE;constructor
   ·simp_arith[Wy];cases L with
    |nil=>exact (jf rfl).elim
    |cons x r=>rfl
   apply wp_step
   ·simp_arith[q1,fX YS];rfl
   try simp only[zF,zw]
   have i8:IS ((AO B L (B8 B L)).map pD)=true:=Q2 WO _;refine BP (I:=λ ρ=>∃s5,ρ=[some (.val (Ac m rs)),some (.ow (.tree none (.B6 true ((BQ B (AO B L (B8 B L))).map pD) ((Cq (BQ B (AO B L (B8 B L)))).map .sh)))),some (.own (L.map D.int)),some (.own (O.map D.int)),some (.val (.int (B8 B L))),s5]) ?_ ?_
   ·simp_arith[q2,YR i8];refine CC (λ i ρ=>∃s5,ρ=[some (.val (Ac m rs)),some (.ow (.tree none (.B6 true ((BQ B ((AO B L (B8 B L)).take i)).map pD) ((Cq (BQ B ((AO B L (B8 B L)).take i))).map .sh)))),some (.own (L.map D.int)),some (.own (O.map D.int)),some (.val (.int (B8 B L))),s5]) ⟨s5,rfl⟩ ?_ ?_
    ·rintro i d ρ hd ⟨s5,rfl⟩;obtain⟨p,hp,rfl⟩:=BS hd;refine⟨_,rfl,?_⟩;have tN:BR m (BQ B ((AO B L (B8 B L)).take i)):=hB.BQ λ q hq=>by
      have:=NH (yp hq);exact⟨this.2.2,hL _ this.1,hL _ this.2.1⟩
     have kk:keyOk true (pD p)=true/\((BQ B ((AO B L (B8 B L)).take i)).map pD).length<1000:=⟨rfl,by rw[ze];exact tN.len hm⟩;have et:(AO B L (B8 B L)).take (i+1)=(AO B L (B8 B L)).take i++[p]:=by rw[yw,hp];rfl
     have ea:BQ B ((AO B L (B8 B L)).take (i+1))=JJ (BQ B ((AO B L (B8 B L)).take i)) p:=by
      unfold BQ;rw[et,List.foldl_append];rfl
     simp_arith[if_pos kk,T5];exact⟨_,by rw[ea]⟩
    ·rintro ρ ⟨s5,rfl⟩;rw[ze,yo];exact⟨s5,rfl⟩
   ·rintro ρ ⟨s5,rfl⟩;have tO:(O.map D.int).length<1000:=by rw[ze];omega
    apply wp_step
    ·simp_arith[Dd,if_pos aN];rfl
    refine Bv (ρ':=[some (.val (Ac m rs)),some (.ow (.tree none (.B6 true ((BQ B (AO B L (B8 B L))).map pD) ((Cq (BQ B (AO B L (B8 B L)))).map .sh)))),some (.own ((L.erase (B8 B L)).map D.int)),some (.own ((O++[B8 B L]).map D.int)),some (.val (.int (B8 B L))),s5]) ?_ ?_
    ·simp_arith[if_pos tO,yh,zg,List.map_nil]
    ·have hlen:=List.length_erase_of_mem aN;refine⟨n',by omega,_,_,_,_,_,rfl,by omega,by rw[zT];simp;omega,hB.BQ λ q hq=>?_,λ p hp=>hL p (List.mem_of_mem_erase hp),?_⟩
     ·have:=NH hq;exact⟨this.2.2,hL _ this.1,hL _ this.2.1⟩
     ·rw[List.append_assoc];exact cE
 ·rintro ρ ⟨s1,s2,s4,s5,rfl⟩;exact⟨_,rfl,rfl⟩
noncomputable def Tq:List D->M OT:=zl K0
theorem V7:Txt K mg->CO P w K mg base "ranked" 3 1 Tq:=(zb K0).1
theorem V8:∀(m:Nat) (rs:List Road),m<=20->(∀r∈rs,Gu m r/\r.a≠r.b)->Tq [Ac m rs]=.ok (.lst (((QU m (Bk rs) (Ay m)).map D.int).map .sh)):=(zb K0).2
theorem ED:∃F:List D->M OT,(∀ {P w K mg base},Txt K mg->CO P w K mg base "costs_from" 2 2 F)/\(∀(m s:Nat) (rs:List Road),s<m->m<=900->(∀r∈rs,Gu m r)->∃cs:List Co,Right m s rs cs/\F [Ac m rs,.int s]=.ok (.lst ((cs.map cst).map .sh))):=by
 refine⟨_,λ T=>AU (k:=1) T.OO Bh _ (λ f B1 A outer s H E hr=>(A4 (BX 2 Bh.nd rfl (zY rfl) (fZ Gf (Ad (AW hr 16 (by decide)) (A1 0 (pv 0)) A5))) (A4 (Wf 2 (pv 2) (AS (A2 A5 (A2 A5 A8))) (A1 1 (pv 1))) (A4 (AJ 3 Bh.nd rfl (zY rfl) BK) (A4 (Lk Aa.toXCall.own (Bs (c:=true) (A1 3 (pv 3))) (A4 (AJ 3 Bh.nd rfl (zY rfl) BK) (A7 (Cw Aa.toXCall.own rfl (AV (Ad (AW hr 16 (by decide)) (A1 0 (pv 0)) A5)) (B5 4 Bh.nd rfl (zY rfl)) (A4 (AJ 5 Bh.nd rfl (zY rfl) (Ar (HS (Ak Aa.toXCall (Xr T) (hr.mono (by decide)) rfl (A2 (Oc (A2 (Ad (AW hr 16 (by decide)) (A1 2 (pv 2)) (Ad (AW hr 16 (by decide)) (A1 4 (pv 4)) A5)) (A2 (Ar (Ak Aa.toXCall (QF T) (hr.mono (by decide)) rfl (A2 (Ad (AW hr 16 (by decide)) (A1 2 (pv 2)) (Ad (AW hr 16 (by decide)) (A1 4 (pv 4)) A5)) (A2 (Ar (Ak Aa.toXCall (FE T) (hr.mono (by decide)) rfl (A2 (A1 4 (pv 4)) A8) rfl)) A8)) rfl)) A8))) A8) rfl)))) (A7 (B7 (Jz (K5 (c:=true) (AW hr 16 (by decide)) (A1 5 (pv 5)) (Ad (AW hr 16 (by decide)) (A1 2 (pv 2)) (Ad (AW hr 16 (by decide)) (A1 4 (pv 4)) A5)))) (A4 (Wf 2 (pv 2) (A1 5 (pv 5)) (Ad (AW hr 16 (by decide)) (A1 4 (pv 4)) A5)) (A7 (AJ 3 Bh.nd rfl (zY rfl) BK))) Au))))))) (A7 (Eg 2 (pv 2)))))))),?_⟩;intro m s rs hs hm Ao;have e0:AH ["net","start","costs","changed","road","cost"] [Ac m rs,.int s]=[some (.val (Ac m rs)),some (.val (.int s)),none,none,none,none]:=rfl;rw[e0];refine (λ h:∃t,_/\∃cs:List Co,Right m s rs cs/\t=.lst ((cs.map cst).map .sh)=>by
  obtain⟨t,h1,cs,h2,rfl⟩:=h;exact⟨cs,h2,h1⟩) (Q0 ?_)
 have n0:Bd (Ac m rs) (.int 0)=.ok (.int m):=rfl;have n1:Bd (Ac m rs) (.int 1)=.ok (.lst (rs.map FW)):=rfl;have jh:=WA (d:=.AD) (n:=m) (by omega);have oi:z0 m D.AD=(z0 m (none:Co)).map cst:=by rw[List.map_replicate];rfl
 rw[oi] at jh;apply wp_step
 ·simp_arith[n0,jh];rfl
 try simp only[zF,zw]
 have cp:=T7 (i:=2) (ρ:=[some (.val (Ac m rs)),some (.val (.int s)),some (.own ((z0 m (none:Co)).map cst)),none,none,none]) (d:=.tup [.int 0,.int 0]) (p:=(s:Int)) rfl (by omega) (by rw[ze,List.length_replicate];omega);have e9:((z0 m (none:Co)).map cst).set (s:Int).toNat (.tup [.int 0,.int 0])=((z0 m none).set s (some (0,0))).map cst:=by rw[yk,List.map_set];rfl
 rw[e9] at cp;apply wp_step
 ·simp_arith[cp];rfl
 try simp only[zF,zw]
 apply wp_step
 ·rfl
 try simp only[zF,zw]
 refine BP (I:=λ ρ=>∃(cs:List Co) (s3 s4 s5:Option Cl),ρ=[some (.val (Ac m rs)),some (.val (.int s)),some (.own (cs.map cst)),s3,s4,s5]/\Right m s rs cs) ?_ ?_
 ·refine LH (lt:=mS) (λ z ρ=>∃(s4 s5:Option Cl),ρ=[some (.val (Ac m rs)),some (.val (.int s)),some (.own (z.1.map cst)),some (.val (.bl z.2)),s4,s5]/\Good m s rs z.1/\(z.2=false->Right m s rs z.1)) (X8 _) ⟨none,none,rfl,RH rs hs,λ e=>by cases e⟩ ?_;rintro ⟨cs,b⟩ ρ ⟨s4,s5,rfl,g,hR⟩;cases b with
  |false=>exact .inl ⟨rfl,cs,_,s4,s5,rfl,hR rfl⟩
  |true =>
   refine .inr ⟨rfl,?_⟩;apply wp_step
   ·rfl
   try simp only[zF,zw]
   simp_arith[n1];refine CC (λ i ρ=>∃(aw:List Co) (ch:Bool) (s4 s5:Option Cl),ρ=[some (.val (Ac m rs)),some (.val (.int s)),some (.own (aw.map cst)),some (.val (.bl ch)),s4,s5]/\Good m s rs aw/\(ch=true->K9 ltN aw cs)/\(ch=false->aw=cs/\∀r∈rs.take i,HB (atC cs r.b) (AN (atC cs r.a) (CU r))=atC cs r.b)) ⟨cs,false,s4,s5,rfl,g,(λ h=>by cases h),λ _=>⟨rfl,λ r hr=>by rw[List.take_zero] at hr;cases hr⟩⟩ ?_ ?_
   ·rintro i d ρ hd ⟨aw,ch,s4,s5,rfl,g1,h1,h2⟩;obtain⟨r,hq,rfl⟩:=BS hd;have hr:=zq hq;have ok:=Ao r hr;obtain⟨g2,_,g4,g5⟩:=UG g1 hr Ao;have gi:r.b<aw.length:=by rw[g1.len];exact ok.b1
    have tP:r.a<aw.length:=by rw[g1.len];exact ok.a1
    have r0:Bd (FW r) (.int 0)=.ok (.int r.a):=rfl;have r1:Bd (FW r) (.int 1)=.ok (.int r.b):=rfl;have x0:Bd (.lst (aw.map cst)) (.int r.a)=.ok (cst (atC aw r.a)):=LS ok.a0 tP;have x1:Bd (.lst (aw.map cst)) (.int r.b)=.ok (cst (atC aw r.b)):=LS ok.b0 gi;have tQ:=FF r;have tR:=QG (atC aw r.a) (CU r);have hle:S9 [.lst [cst (atC aw r.b),cst (AN (atC aw r.a) (CU r))]]=.ok (.sh (cst (HB (atC aw r.b) (AN (atC aw r.a) (CU r))))):=Xs [atC aw r.b,AN (atC aw r.a) (CU r)] (by simp);have ad:=Z5 (HB (atC aw r.b) (AN (atC aw r.a) (CU r))) (atC aw r.b);refine⟨_,rfl,?_⟩;apply wp_step
    ·simp_arith[r0,r1,x0,x1,tQ,tR,hle];rfl
    try simp only[zF,zw]
    by_cases hc:HB (atC aw r.b) (AN (atC aw r.a) (CU r))=atC aw r.b
    ·rw[decide_eq_true hc] at ad;refine Bv (ρ':=_) (by simp_arith[r1,x1,ad];rfl) ⟨aw,ch,_,_,rfl,g1,h1,λ hf=>?_⟩;obtain⟨e1,e2⟩:=h2 hf;subst e1;refine⟨rfl,λ r' bA=>?_⟩;rw[yw,hq] at bA;rcases zM.mp bA with bA|bA
     ·exact e2 r' bA
     ·have:r'=r:=by simpa using bA
      rw[this];exact hc
    ·rw[decide_eq_false hc] at ad;have cp:=T7 (i:=2) (ρ:=[some (.val (Ac m rs)),some (.val (.int s)),some (.own (aw.map cst)),some (.val (.bl ch)),some (.val (FW r)),some (.val (cst (HB (atC aw r.b) (AN (atC aw r.a) (CU r)))))]) (d:=cst (HB (atC aw r.b) (AN (atC aw r.a) (CU r)))) (p:=r.b) rfl ok.b0 (by rw[ze];exact gi);have e9:(aw.map cst).set r.b.toNat (cst (HB (atC aw r.b) (AN (atC aw r.a) (CU r))))=(CG r aw).map cst:=by unfold CG;rw[List.map_set]
     rw[e9] at cp;simp_arith[r1,x1,ad,if_true];apply wp_step
     ·simp_arith[r1,cp];rfl
     refine Bv (ρ':=_) rfl ⟨CG r aw,true,_,_,rfl,g2,λ _=>?_,λ hf=>by cases hf⟩;cases ch with
     |false=>obtain⟨e1,_⟩:=h2 rfl;subst e1;exact g5 hc
     |true=>exact K9.trans ltN JF (g5 hc) (h1 rfl)
   ·rintro ρ' ⟨aw,ch,s4,s5,rfl,g1,h1,h2⟩;cases ch with
    |true=>exact⟨(aw,true),⟨rfl,.inr ⟨rfl,h1 rfl⟩⟩,s4,s5,rfl,g1,λ e=>by cases e⟩
    |false =>
     obtain⟨e1,e2⟩:=h2 rfl;subst e1;rw[ze,yo] at e2;exact⟨(aw,false),⟨rfl,.inl rfl⟩,s4,s5,rfl,g1,λ _=>right_of g1 e2⟩
 ·rintro ρ' ⟨cs,s3,s4,s5,rfl,hR⟩;exact⟨_,rfl,cs,hR,rfl⟩
noncomputable def Kl:List D->M OT:=zl ED
theorem MS:Txt K mg->CO P w K mg base "costs_from" 2 2 Kl:=(zb ED).1
theorem MT:∀(m s:Nat) (rs:List Road),s<m->m<=900->(∀r∈rs,Gu m r)->∃cs:List Co,Right m s rs cs/\Kl [Ac m rs,.int s]=.ok (.lst ((cs.map cst).map .sh)):=(zb ED).2
theorem C2:∃F:List D->M OT,(∀ {P w K mg base},Txt K mg->CO P w K mg base "order_or_ranked" 4 2 F)/\(∀(m:Nat) (rs:List Road),m<=20->(∀r∈rs,Gu m r/\r.a≠r.b)->(∀L:List Int,L.Perm (Ay m)->F [Ac m rs,.lst (L.map .int)]=.ok (.lst ((L.map D.int).map .sh)))/\F [Ac m rs,.AD]=.ok (.lst (((QU m (Bk rs) (Ay m)).map D.int).map .sh))):=by
 refine⟨_,λ T=>AU (k:=3) T.Jc Ia _ (λ f B1 A outer s H E hr=>(A4 (B7 (Od (c:=true) (A1 1 (pv 1))) (A7 (An (Ak Aa.toXCall (V7 T) (hr.mono (by decide)) rfl (A2 (A1 0 (pv 0)) A8) rfl))) Au) (A7 (An (Ak Aa.toXCall (JY T) (hr.mono (by decide)) rfl (A2 (A1 0 (pv 0)) (A2 (A1 1 (pv 1)) A8)) rfl))))),?_⟩;intro m rs hm Ao;have h1:=V8 m rs hm Ao;refine⟨λ L hL=>?_,?_⟩
 ·have h2:Ci [Ac m rs,.lst (L.map .int)]=.ok (.lst ((L.map D.int).map .sh)):=JZ.1 m (.lst (rs.map FW)) L (by omega) hL;have e0:AH ["net","order"] [Ac m rs,.lst (L.map .int)]=[some (.val (Ac m rs)),some (.val (.lst (L.map .int)))]:=rfl;rw[e0];refine BA ?_;apply wp_step
  ·rfl
  simp_arith[h2];exact⟨_,rfl,rfl⟩
 ·have e0:AH ["net","order"] [Ac m rs,.AD]=[some (.val (Ac m rs)),some (.val .AD)]:=rfl;rw[e0];refine BA ?_;simp_arith[BN,h1];exact⟨_,rfl,rfl⟩
noncomputable def BI:List D->M OT:=zl C2
theorem Ii:Txt K mg->CO P w K mg base "order_or_ranked" 4 2 BI:=(zb C2).1
theorem E6:∀(m:Nat) (rs:List Road),m<=20->(∀r∈rs,Gu m r/\r.a≠r.b)->(∀L:List Int,L.Perm (Ay m)->BI [Ac m rs,.lst (L.map .int)]=.ok (.lst ((L.map D.int).map .sh)))/\BI [Ac m rs,.AD]=.ok (.lst (((QU m (Bk rs) (Ay m)).map D.int).map .sh)):=(zb C2).2
theorem FH:∃F:List D->M OT,(∀ {P w K mg base},Txt K mg->CO P w K mg base "kept_arcs" 3 2 F)/\(∀(m:Nat) (rs:List Road) (A:LA),m<=20->(∀r∈rs,Gu m r)->Ee m A->∃K:List (Int×Int),F [Ac m rs,Ir A]=.ok (.lst ((K.map pD).map .sh))/\K.Pairwise Lp/\∀p,p∈K↔KP rs A p):=by
 refine⟨_,λ T=>AU (k:=2) T.Qw D7 _ (λ f B1 A outer s H E hr=>(A4 (BX 2 D7.nd rfl (zY rfl) (Lu H9)) (A4 (Cw Aa.toXCall.own rfl (GX (c:=true) rfl T.FC (Ad (AW hr 16 (by decide)) (A1 0 (pv 0)) A5)) (B5 3 D7.nd rfl (Or.inr rfl)) (A4 (AJ 4 D7.nd rfl (Or.inr rfl) (Ar (Ak Aa.toXCall (MS T) (hr.mono (by decide)) rfl (A2 (A1 0 (pv 0)) (A2 (A1 3 (pv 3)) A8)) rfl))) (A7 (Wr (Br 2 (pv 2)) (by exact (Eh (NB:=["w","u","laid","costs"]) [none,some 3,some 1,some 4] rfl (GX (c:=true) rfl T.FC (Ad (AW hr 16 (by decide)) (A1 0 (pv 0)) A5)) rfl rfl (Bm 0 (by decide) rfl rfl rfl) (λ _ _ _ _=>IL (DW.dt (Lg (LC (c:=true) (AW hr 16 (by decide)) (AS (A2 (A1 1 (pv 1)) (A2 (A1 0 (pv 0)) A8))) (A1 2 (pv 2))) (KD (K4 (c:=true) (AW hr 16 (by decide)) (Ad (AW hr 16 (by decide)) (Ad (AW hr 16 (by decide)) (A1 2 (pv 2)) (AS (A2 (A1 1 (pv 1)) (A2 (A1 0 (pv 0)) A8)))) A5) (Ad (AW hr 16 (by decide)) (A1 3 (pv 3)) (A1 0 (pv 0)))))))) (λ _ _ _ _=>(AS (A2 (A1 1 (pv 1)) (A2 (A1 0 (pv 0)) A8)))))))))) (A7 (Eg 2 (pv 2)))))),?_⟩;intro m rs A hm Ao hA;have e0:AH ["net","laid","kept","u","costs"] [Ac m rs,Ir A]=[some (.val (Ac m rs)),some (.val (Ir A)),none,none,none]:=rfl;rw[e0];refine (λ h:∃t,_/\∃K:List (Int×Int),t=.lst ((K.map pD).map .sh)/\K.Pairwise Lp/\∀p,p∈K↔KP rs A p=>by
  obtain⟨t,h1,K,rfl,h2⟩:=h;exact⟨K,h1,h2⟩) (Q0 ?_)
 have n0:Bd (Ac m rs) (.int 0)=.ok (.int m):=rfl;have hr:U3 (.int (m:Int))=.ok ((Ay m).map D.int):=by rw[Li (by omega),RQ]
 have hl:((Ay m).map D.int).length<=1000:=by rw[ze,DM];omega
 apply wp_step
 ·rfl
 try simp only[zF,zw]
 refine BP (I:=λ ρ=>∃(K:List (Int×Int)) (s3 s4:Option Cl),ρ=[some (.val (Ac m rs)),some (.val (Ir A)),some (.own (K.map pD)),s3,s4]/\K.Pairwise Lp/\∀p,p∈K↔KP rs A p) ?_ ?_
 ·simp_arith[n0,hr];refine CC (λ i ρ=>i<=m/\∃(K:List (Int×Int)) (s3 s4:Option Cl),ρ=[some (.val (Ac m rs)),some (.val (Ir A)),some (.own (K.map pD)),s3,s4]/\K.Pairwise Lp/\∀p,p∈K↔(p.1<i/\KP rs A p)) ⟨zW _,[],none,none,rfl,.nil,λ p=>⟨(λ h=>by cases h),λ h=>by
   obtain⟨c,hc,_⟩:=h.2;have:=(hA.rg p (BU hc)).2.1;omega⟩⟩ ?_ ?_
  ·rintro i d ρ hd ⟨hi,K,s3,s4,rfl,hn,hK⟩;obtain⟨u,hu,rfl⟩:=BS hd;have ap:i<m:=by have:=(zE.mp hu).1;rw[DM] at this;exact this
   have eu:u=(i:Int):=by
    unfold Ay at hu;rw[zB,yB ap] at hu;exact (zH hu).symm
   subst eu;obtain⟨cs,hR,hF⟩:=MT m i rs ap (by omega) Ao;refine⟨_,rfl,?_⟩;apply wp_step
   ·simp_arith[hF];rfl
   try simp only[zF,zw]
   obtain⟨W,hW⟩:∃W,W=(Ay m).filter λ w=>lQ A cs i w:=⟨_,rfl⟩;have rz:∀w,w∈W↔KP rs A ((i:Int),w):=λ w=>by
    rw[hW,yn,F9];constructor
    ·rintro ⟨hw,h⟩;exact (X9 hR Ao hw.1 hw.2).mp h
    ·intro h;obtain⟨c,hc,_⟩:=id h;have:=(hA.rg _ (BU hc)).2.2;exact⟨this,(X9 hR Ao this.1 this.2).mpr h⟩
   have tS:W.Nodup:=by rw[hW];exact (LW m).filter _
   have aD:(K++W.map λ w=>((i:Int),w)).Nodup:=by
    rw[zS];refine⟨M8 hn,xg.mpr (tS.imp fun {a b} gm e=>gm (by cases e;rfl)),λ x hx y hy e=>?_⟩;subst e;obtain⟨w,_,rfl⟩:=zJ.mp hy;have:=(hK _).mp hx;simp at this
   have r6:∀p,p∈K++W.map (λ w=>((i:Int),w))↔(p.1<((i+1:Nat):Int)/\KP rs A p):=λ p=>by
    rw[zM,hK];constructor
    ·rintro (h|h)
     ·exact⟨by have:=h.1;omega,h.2⟩
     ·obtain⟨w,hw,rfl⟩:=zJ.mp h;exact⟨by dsimp only;omega,(rz w).mp hw⟩
    ·rintro ⟨h1,h2⟩;by_cases e:p.1<(i:Int)
     ·exact .inl ⟨e,h2⟩
     ·have e2:p.1=(i:Int):=by omega
      obtain⟨p1,p2⟩:=p;dsimp only at e2;subst e2;exact .inr (zJ.mpr ⟨p2,(rz p2).mpr h2,rfl⟩)
   have tT:(K++W.map λ w=>((i:Int),w)).Pairwise Lp:=iE hn (λ p hp=>((hK p).mp hp).1) (by rw[hW];exact (Zm m).filter _);have hlen:=hU hA hm aD λ p hp=>((r6 p).mp hp).2;have hb:(K.map pD).length+((W.map λ w=>((i:Int),w)).map pD).length<=1000:=by
    rw[zT] at hlen;rw[ze,ze];omega
   refine Bv (ρ':=[some (.val (Ac m rs)),some (.val (Ir A)),some (.own ((K++W.map λ w=>((i:Int),w)).map pD)),some (.val (.int i)),some (.val (.lst (cs.map cst)))]) ?_ ⟨ap,_,_,_,rfl,tT,r6⟩;have t1:∀a b:Int,D.tup [.int a,.int b]=pD (a,b):=λ a b=>rfl;simp_arith[n0,hr,if_pos hl];rw[CF (λ w=>lQ A cs i w) (λ w=>pD ((i:Int),w)) (λ w hw=>⟨_,rfl,by
    have r9:=F9.mp hw;have x1:Bd (.lst (cs.map cst)) (.int w)=.ok (cst (atC cs w)):=LS r9.1 (by rw[hR.1];exact r9.2);have bE:=OE A ((i:Int),w) false;unfold lQ Ah;cases q:BE A ((i:Int),w) with
    |none =>
     rw[q] at bE;simp_arith[t1,bE];rfl
    |some v =>
     rw[q] at bE;have hit:=OF q;have h0:Bd (T9 v) (.int 0)=.ok (cst (some v.1)):=rfl;have he:=SY (some v.1) (atC cs w);simp_arith[t1,bE,hit,h0,x1,he];rfl,λ _=>by simp_arith[t1]⟩)]
   rw[<-hW];have ew:W.map (λ w=>pD ((i:Int),w))=(W.map λ w=>((i:Int),w)).map pD:=by rw[ym];rfl
   rw[ew];simp_arith[if_pos hb];rw[<-yh]
  ·rintro ρ ⟨_,K,s3,s4,rfl,hn,hK⟩;refine⟨K,s3,s4,rfl,hn,λ p=>(hK p).trans ⟨λ h=>h.2,λ h=>⟨?_,h⟩⟩⟩;obtain⟨c,hc,_⟩:=h;have:=(hA.rg p (BU hc)).2.1;rw[ze,DM];omega
 ·rintro ρ ⟨K,s3,s4,rfl,hn,hK⟩;exact⟨_,rfl,K,rfl,hn,hK⟩
noncomputable def Mo:List D->M OT:=zl FH
theorem OR:Txt K mg->CO P w K mg base "kept_arcs" 3 2 Mo:=(zb FH).1
theorem OS:∀(m:Nat) (rs:List Road) (A:LA),m<=20->(∀r∈rs,Gu m r)->Ee m A->∃K:List (Int×Int),Mo [Ac m rs,Ir A]=.ok (.lst ((K.map pD).map .sh))/\K.Pairwise Lp/\∀p,p∈K↔KP rs A p:=(zb FH).2
theorem C3:∃F:OT->List D->M (OT×OT),(∀ {P w K mg base},Txt K mg->Q9 P w K mg base "Ladder" 6 3 F)/\(∀(m:Nat) (rs:List Road) (o:D) (L:List Int),1<=m->m<=16->rs.length<=60->(∀r∈rs,Kv m r)->L.Perm (Ay m)->(o=.lst (L.map D.int)\/(o=.AD/\L=QU m (Bk rs) (Ay m)))->∃(A:LA) (K:List (Int×Int)),Fd m rs L A K/\K.Pairwise Lp/\∃t,F (.ins "Ladder" [] []) [Ac m rs,o]=.ok (t,.sh .AD)/\er t=Bg m rs L A K):=by
 refine⟨_,λ T=>WK (k:=5) T.Jd Ib _ (λ f B1 A outer s H E hr=>(A4 (KQ ["Ladder"] (B4 T.Bn Bt) (Br 0 (pv 0)) (Ar (Ak Aa.toXCall (S7 T) (hr.mono (by decide)) rfl (A2 (A1 1 (pv 1)) A8) rfl))) (A4 (KQ ["Ladder"] (B4 T.C1 Bt) (Br 0 (pv 0)) (Ar (HS (Ak Aa.toXCall (Ii T) (hr.mono (by decide)) rfl (A2 (DL ["Ladder"] (B4 T.Bn Bt) (A1 0 (pv 0))) (A2 (A1 2 (pv 2)) A8)) rfl)))) (A4 (KQ ["Ladder"] (B4 T.BV Bt) (Br 0 (pv 0)) (Ar (HS (Ak Aa.toXCall (OP T) (hr.mono (by decide)) rfl (A2 (DL ["Ladder"] (B4 T.Bn Bt) (A1 0 (pv 0))) (A2 (DL ["Ladder"] (B4 T.C1 Bt) (A1 0 (pv 0))) A8)) rfl)))) (A7 (KQ ["Ladder"] (B4 T.DZ Bt) (Br 0 (pv 0)) (Ar (HS (Ak Aa.toXCall (OR T) (hr.mono (by decide)) rfl (A2 (DL ["Ladder"] (B4 T.Bn Bt) (A1 0 (pv 0))) (A2 (DL ["Ladder"] (B4 T.BV Bt) (A1 0 (pv 0))) A8)) rfl))))))))),?_⟩;intro m rs o L cm b8 fc nb hL ho;have Ao:∀r∈rs,Gu m r/\r.a≠r.b:=λ r hr=>(nb r hr).rF;have oj:=WW cm b8 fc nb;have h1:=S8.1 m rs oj fc;have h2:BI [Ac m rs,o]=.ok (.lst ((L.map D.int).map .sh)):=by
  rcases ho with rfl|⟨rfl,rfl⟩
  ·exact (E6 m rs (by omega) Ao).1 L hL
  ·exact (E6 m rs (by omega) Ao).2
 have h3:=OQ m rs L (by omega) hL Ao;have hA:=(M4 hL Ao).1;obtain⟨K,h4,hn,hK⟩:=OS m rs (Bx rs L) (by omega) (λ r hr=>(Ao r hr).1) hA;refine⟨Bx rs L,K,⟨cm,b8,fc,Ao,hL,rfl,M8 hn,hK⟩,hn,.ins "Ladder" ["own_map","own_order","laid","kept_ones"] [.sh (Ac m rs),.sh (.lst (L.map D.int)),.sh (Ir (Bx rs L)),.sh (.lst (K.map pD))],?_,rfl⟩;have e0:Cb ["self","net","order"] (.ins "Ladder" [] []) [Ac m rs,o]=[some (.ow (.tree (some 0) (.ins "Ladder" [] []))),some (.val (Ac m rs)),some (.val o)]:=rfl;rw[e0];refine OG ?_;have e1:er (.tup [.sh (.int m),.lst ((rs.map FW).map .sh)])=Ac m rs:=by rw[Z8,Kc,Gp];rfl
 have T:∀(ns:List Str) (ds:List D),er (.ins "Ladder" ns (ds.map .sh))=.ins "Ladder" ns ds:=λ ns ds=>by rw[er,HV]
 have T1:=T ["own_map"] [Ac m rs];have T2:=T ["own_map","own_order"] [Ac m rs,.lst (L.map D.int)];have T3:=T ["own_map","own_order","laid"] [Ac m rs,.lst (L.map D.int),Ir (Bx rs L)];simp only[zg,List.map_nil] at T1 T2 T3;have d1:=Xa L;have d2:=Zc (Bx rs L);have d3:=Zb K;have f1:LL ["Ladder"] "own_map" (.ins "Ladder" ["own_map"] [Ac m rs])=.ok (Ac m rs):=rfl;have f2:LL ["Ladder"] "own_map" (.ins "Ladder" ["own_map","own_order"] [Ac m rs,.lst (L.map D.int)])=.ok (Ac m rs):=rfl;have f3:LL ["Ladder"] "own_order" (.ins "Ladder" ["own_map","own_order"] [Ac m rs,.lst (L.map D.int)])=.ok (.lst (L.map D.int)):=rfl;have f4:LL ["Ladder"] "own_map" (.ins "Ladder" ["own_map","own_order","laid"] [Ac m rs,.lst (L.map D.int),Ir (Bx rs L)])=.ok (Ac m rs):=rfl;have f5:LL ["Ladder"] "laid" (.ins "Ladder" ["own_map","own_order","laid"] [Ac m rs,.lst (L.map D.int),Ir (Bx rs L)])=.ok (Ir (Bx rs L)):=rfl;refine wp_step (ρ':=[some (.ow (.tree (some 0) (.ins "Ladder" ["own_map"] [.sh (Ac m rs)]))),some (.val (Ac m rs)),some (.val o)]) (by simp_arith[h1,e1];rfl) ?_;refine wp_step (ρ':=[some (.ow (.tree (some 0) (.ins "Ladder" ["own_map","own_order"] [.sh (Ac m rs),.sh (.lst (L.map D.int))]))),some (.val (Ac m rs)),some (.val o)]) (by simp_arith[T1,f1,h2,d1];rfl) ?_;refine wp_step (ρ':=[some (.ow (.tree (some 0) (.ins "Ladder" ["own_map","own_order","laid"] [.sh (Ac m rs),.sh (.lst (L.map D.int)),.sh (Ir (Bx rs L))]))),some (.val (Ac m rs)),some (.val o)]) (by simp_arith[T2,f2,f3,h3,d2];rfl) ?_;refine Bv (ρ':=[some (.ow (.tree (some 0) (.ins "Ladder" ["own_map","own_order","laid","kept_ones"] [.sh (Ac m rs),.sh (.lst (L.map D.int)),.sh (Ir (Bx rs L)),.sh (.lst (K.map pD))]))),some (.val (Ac m rs)),some (.val o)]) (by simp_arith[T3,f4,f5,h4,d3];rfl) ⟨rfl,rfl⟩
noncomputable def CM:OT->List D->M (OT×OT):=zl C3
theorem Ij:Txt K mg->Q9 P w K mg base "Ladder" 6 3 CM:=(zb C3).1
theorem Ik:∀(m:Nat) (rs:List Road) (o:D) (L:List Int),1<=m->m<=16->rs.length<=60->(∀r∈rs,Kv m r)->L.Perm (Ay m)->(o=.lst (L.map D.int)\/(o=.AD/\L=QU m (Bk rs) (Ay m)))->∃(A:LA) (K:List (Int×Int)),Fd m rs L A K/\K.Pairwise Lp/\∃t,CM (.ins "Ladder" [] []) [Ac m rs,o]=.ok (t,.sh .AD)/\er t=Bg m rs L A K:=(zb C3).2
theorem D2:∃F:List D->M OT,(∀ {P w K mg base},Txt K mg->Gr P w K mg base "Ladder" "order" 1 1 F)/\(∀(m:Nat) (rs:List Road) (L:List Int) (A:LA) (K:List (Int×Int)),F [Bg m rs L A K]=.ok (.lst ((L.map D.int).map .sh))):=by
 refine⟨_,λ T=>J5 (k:=0) T.Mh Kw _ (λ f B1 A outer s H E hr=>(A7 (An (KJ rfl T.EA (DL ["Ladder"] (B4 T.C1 Bt) (A1 0 (pv 0))))))),?_⟩;intro m rs L A K;rfl
noncomputable def HF:List D->M OT:=zl D2
theorem Vc:Txt K mg->Gr P w K mg base "Ladder" "order" 1 1 HF:=(zb D2).1
theorem Vd:∀(m:Nat) (rs:List Road) (L:List Int) (A:LA) (K:List (Int×Int)),HF [Bg m rs L A K]=.ok (.lst ((L.map D.int).map .sh)):=(zb D2).2
theorem E7:∃F:List D->M OT,(∀ {P w K mg base},Txt K mg->Gr P w K mg base "Ladder" "arcs" 1 1 F)/\(∀(m:Nat) (rs:List Road) (L:List Int) (A:LA) (K:List (Int×Int)),Ee m A->m<=7->F [Bg m rs L A K]=.ok (.lst (((NO A).map pD).map .sh))):=by
 refine⟨_,λ T=>J5 (k:=0) T.MM Mc _ (λ f B1 A outer s H E hr=>(A7 (An (RX rfl rfl T.QD (DL ["Ladder"] (B4 T.BV Bt) (A1 0 (pv 0))))))),?_⟩;intro m rs L A K hA hm;have e0:AH ["self"] [Bg m rs L A K]=[some (.val (Bg m rs L A K))]:=rfl;rw[e0];refine BA ?_;have f2:LL ["Ladder"] "laid" (Bg m rs L A K)=.ok (Ir A):=rfl;have hs:=iF hA hm;simp_arith[f2,hs];exact⟨_,rfl,rfl⟩
noncomputable def Cj:List D->M OT:=zl E7
theorem Mp:Txt K mg->Gr P w K mg base "Ladder" "arcs" 1 1 Cj:=(zb E7).1
theorem Mq:∀(m:Nat) (rs:List Road) (L:List Int) (A:LA) (K:List (Int×Int)),Ee m A->m<=7->Cj [Bg m rs L A K]=.ok (.lst (((NO A).map pD).map .sh)):=(zb E7).2
theorem Bz:∃F:List D->M OT,(∀ {P w K mg base},Txt K mg->Gr P w K mg base "Ladder" "checked_arc" 2 3 F)/\(∀(m:Nat) (rs:List Road) (L:List Int) (A:LA) (K:List (Int×Int)) (u w:Int),0<=u->u<m->0<=w->w<m->(BE A (u,w)).isSome=true->F [Bg m rs L A K,.int u,.int w]=.ok (.sh (pD (u,w)))):=by
 refine⟨_,λ T=>J5 (k:=1) T.GG Cr _ (λ f B1 A outer s H E hr=>(A4 (AJ 3 Cr.nd rfl (zY rfl) (Ad (AW hr 16 (by decide)) (DL ["Ladder"] (B4 T.Bn Bt) (A1 0 (pv 0))) A5)) (A4 (B7 (DW.dt (D4 (BO (Bs (c:=true) (Ar (Ak Aa.toXCall (AK T) (hr.mono (by decide)) rfl (A2 (A1 1 (pv 1)) (A2 (A1 3 (pv 3)) A8)) rfl)))) (D4 (BO (Bs (c:=true) (Ar (Ak Aa.toXCall (AK T) (hr.mono (by decide)) rfl (A2 (A1 2 (pv 2)) (A2 (A1 3 (pv 3)) A8)) rfl)))) (Ca (Ha (c:=true) (AW hr 16 (by decide)) (AS (A2 (A1 1 (pv 1)) (A2 (A1 2 (pv 2)) A8))) (DL ["Ladder"] (B4 T.BV Bt) (A1 0 (pv 0)))))))) (A7 (Ju (c:=true) T.Zq Aa rfl rfl Ro)) Au) (A7 (An (AZ (AS (A2 (A1 1 (pv 1)) (A2 (A1 2 (pv 2)) A8))))))))),?_⟩;intro m rs L A K u w u0 u1 w0 w1 hf;have e0:AH ["self","u","w","many"] [Bg m rs L A K,.int u,.int w]=[some (.val (Bg m rs L A K)),some (.val (.int u)),some (.val (.int w)),none]:=rfl;rw[e0];refine BA ?_;have f1:LL ["Ladder"] "own_map" (Bg m rs L A K)=.ok (Ac m rs):=rfl;have f2:LL ["Ladder"] "laid" (Bg m rs L A K)=.ok (Ir A):=rfl;have n0:Bd (Ac m rs) (.int 0)=.ok (.int m):=rfl;have h1:=AE (.int u) m rfl;have h2:=AE (.int w) m rfl;have g1:Jg (.int u) m=true:=by simp[Jg,u0,u1]
 have g2:Jg (.int w) m=true:=by simp[Jg,w0,w1]
 rw[g1] at h1;rw[g2] at h2;have hp:D.tup [.int u,.int w]=pD (u,w):=rfl;have hm:=OE A (u,w) true;rw[hf] at hm;apply wp_step
 ·simp_arith[f1,n0];rfl
 apply wp_step
 ·simp_arith[h1,h2,f2,hp,hm,DF];rfl
 rfl
noncomputable def B0:List D->M OT:=zl Bz
theorem G2:Txt K mg->Gr P w K mg base "Ladder" "checked_arc" 2 3 B0:=(zb Bz).1
theorem G3:∀(m:Nat) (rs:List Road) (L:List Int) (A:LA) (K:List (Int×Int)) (u w:Int),0<=u->u<m->0<=w->w<m->(BE A (u,w)).isSome=true->B0 [Bg m rs L A K,.int u,.int w]=.ok (.sh (pD (u,w))):=(zb Bz).2
theorem E8:∃F:List D->M OT,(∀ {P w K mg base},Txt K mg->Gr P w K mg base "Ladder" "cost" 3 3 F)/\(∀(m:Nat) (rs:List Road) (L:List Int) (A:LA) (K:List (Int×Int)) (u w:Int) (c:Int×Int),Ee m A->Ah A (u,w)=some c->F [Bg m rs L A K,.int u,.int w]=.ok (.sh (cst (some c)))):=by
 refine⟨_,λ T=>J5 (k:=2) T.MN Md _ (λ f B1 A outer s H E hr=>(A7 (An (AZ (Ad (AW hr 16 (by decide)) (Ad (AW hr 16 (by decide)) (DL ["Ladder"] (B4 T.BV Bt) (A1 0 (pv 0))) (Ar (SQ (k:=2) [("Ladder",B0)] Aa.toXCall (Gs (by decide) (G2 T) J6) (hr.mono (by decide)) (A1 0 (pv 0)) (A2 (A1 1 (pv 1)) (A2 (A1 2 (pv 2)) A8)) rfl))) A5))))),?_⟩;intro m rs L A K u w c hA hc;have e0:AH ["self","u","w"] [Bg m rs L A K,.int u,.int w]=[some (.val (Bg m rs L A K)),some (.val (.int u)),some (.val (.int w))]:=rfl;rw[e0];refine BA ?_;have f2:LL ["Ladder"] "laid" (Bg m rs L A K)=.ok (Ir A):=rfl;have hk:=hA.rg _ (BU hc);obtain⟨v,hv⟩:∃v,BE A (u,w)=some (c,v):=by
  unfold Ah at hc;cases q:BE A (u,w) with
  |none=>rw[q] at hc;cases hc
  |some z=>rw[q] at hc;obtain⟨z1,z2⟩:=z;cases hc;exact⟨z2,rfl⟩
 have h1:=G3 m rs L A K u w hk.2.1.1 hk.2.1.2 hk.2.2.1 hk.2.2.2 (by rw[hv];rfl);have hi:=OF hv;have h0:Bd (T9 (c,v)) (.int 0)=.ok (cst (some c)):=rfl;have hs:Ku [("Ladder",B0)] "checked_arc" (Bg m rs L A K)=.ok B0:=rfl;simp_arith[f2,hs,h1,hi,h0];rfl
noncomputable def Ck:List D->M OT:=zl E8
theorem Mr:Txt K mg->Gr P w K mg base "Ladder" "cost" 3 3 Ck:=(zb E8).1
theorem Ms:∀(m:Nat) (rs:List Road) (L:List Int) (A:LA) (K:List (Int×Int)) (u w:Int) (c:Int×Int),Ee m A->Ah A (u,w)=some c->Ck [Bg m rs L A K,.int u,.int w]=.ok (.sh (cst (some c))):=(zb E8).2
theorem E9:∃F:List D->M OT,(∀ {P w K mg base},Txt K mg->Gr P w K mg base "Ladder" "kept" 1 1 F)/\(∀(m:Nat) (rs:List Road) (L:List Int) (A:LA) (K:List (Int×Int)),F [Bg m rs L A K]=.ok (.lst ((K.map pD).map .sh))):=by
 refine⟨_,λ T=>J5 (k:=0) T.MO Me _ (λ f B1 A outer s H E hr=>(A7 (An (KJ rfl T.EA (DL ["Ladder"] (B4 T.DZ Bt) (A1 0 (pv 0))))))),?_⟩;intro m rs L A K;rfl
noncomputable def BJ:List D->M OT:=zl E9
theorem GN:Txt K mg->Gr P w K mg base "Ladder" "kept" 1 1 BJ:=(zb E9).1
theorem Mt:∀(m:Nat) (rs:List Road) (L:List Int) (A:LA) (K:List (Int×Int)),BJ [Bg m rs L A K]=.ok (.lst ((K.map pD).map .sh)):=(zb E9).2
theorem FI:∃F:List D->M OT,(∀ {P w K mg base},Txt K mg->CO P w K mg base "_law_mixed" 1 2 F)/\(∀c k:Int,0<=k->k<=1000->∃v:Int,0<=v/\F [.int c,.int k]=.ok (.sh (.int v))):=by
 refine⟨_,λ T=>AU (k:=0) T.Qx Fz _ (λ f B1 A outer s H E hr=>(A4 (AJ 2 Fz.nd rfl (zY rfl) (BM (Cu (BM (A1 0 (pv 0)) A5) (KH A5 (Cu (A1 1 (pv 1)) A5))) A5)) (A4 (AJ 2 Fz.nd rfl (zY rfl) (BM (Cu (Cu (KH (A1 2 (pv 2)) (A1 2 (pv 2))) (KH A5 (A1 1 (pv 1)))) A5) A5)) (A7 (An (AZ (BM (KH (A1 2 (pv 2)) (A1 2 (pv 2))) A5))))))),?_⟩;intro c k h0 h1;have e0:AH ["_law_cell","_law_k","_law_number"] [.int c,.int k]=[some (.val (.int c)),some (.val (.int k)),none]:=rfl;rw[e0];have m1:Lr (.int 48271) (.int (k+1))=.ok (.int (48271*(k+1))):=IQ (.inr (.inr (.inr ⟨by omega,by omega⟩)));obtain⟨x,hx⟩:∃x,x=(c%2147483629+48271*(k+1))%2147483647:=⟨_,rfl⟩;have x0:0<=x:=by omega
 have x1:x<2147483647:=by omega
 have m2:Lr (.int x) (.int x)=.ok (.int (x*x)):=IQ (.inr (.inr (.inr ⟨by omega,by omega⟩)));have m3:Lr (.int 69621) (.int k)=.ok (.int (69621*k)):=IQ (.inr (.inr (.inr ⟨by omega,by omega⟩)));obtain⟨y,hy⟩:∃y,y=(x*x+69621*k+7)%2147483587:=⟨_,rfl⟩;have y0:0<=y:=by rw[hy];exact yC _ (by decide)
 have y1:y<2147483587:=by rw[hy];exact yI _ (by decide)
 have m4:Lr (.int y) (.int y)=.ok (.int (y*y)):=IQ (.inr (.inr (.inr ⟨by omega,by omega⟩)));refine⟨y*y%2147483579,yC _ (by decide),?_⟩;simp[fV,fW,m1,VT,HM,B9,<-hx,m2,m3,<-hy,m4,Ud,W2,ZI,Ue]
noncomputable def Mu:List D->M OT:=zl FI
theorem FJ:Txt K mg->CO P w K mg base "_law_mixed" 1 2 Mu:=(zb FI).1
theorem FK:∀c k:Int,0<=k->k<=1000->∃v:Int,0<=v/\Mu [.int c,.int k]=.ok (.sh (.int v)):=(zb FI).2
theorem GO:∃F:List D->M OT,(∀ {P w K mg base},Txt K mg->CO P w K mg base "_law_road" 2 2 F)/\(∀(c:Int) (m:Nat),2<=m->m<=20->0<=c->∃r:Road,Kv m r/\F [.int c,.int m]=.ok (.sh (FW r))):=by
 refine⟨_,λ T=>AU (k:=1) T.S3 Bf _ (λ f B1 A outer s H E hr=>(A4 (AJ 2 Bf.nd rfl (zY rfl) (Ar (Ak Aa.toXCall (FJ T) (hr.mono (by decide)) rfl (A2 (A1 0 (pv 0)) (A2 A5 A8)) rfl))) (A4 (AJ 3 Bf.nd rfl (zY rfl) (BM (A1 2 (pv 2)) (A1 1 (pv 1)))) (A4 (AJ 4 Bf.nd rfl (zY rfl) (BM (Cu (Cu (A1 3 (pv 3)) A5) (BM (KA (A1 2 (pv 2)) A5) (eV (A1 1 (pv 1)) A5))) (A1 1 (pv 1)))) (A4 (AJ 5 Bf.nd rfl (zY rfl) (BM (KA (A1 2 (pv 2)) A5) A5)) (A4 (AJ 6 Bf.nd rfl (zY rfl) (BM (KA (A1 2 (pv 2)) A5) A5)) (A4 (B7 (K4 (c:=true) (AW hr 16 (by decide)) (A1 5 (pv 5)) A5) (A7 (AJ 6 Bf.nd rfl (zY rfl) Gf)) Au) (A4 (B7 (K4 (c:=true) (AW hr 16 (by decide)) (A1 5 (pv 5)) A5) (A7 (AJ 6 Bf.nd rfl (zY rfl) (BM (A1 0 (pv 0)) (Ob A5 A5)))) Au) (A4 (B7 (K4 (c:=true) (AW hr 16 (by decide)) (A1 5 (pv 5)) A5) (A7 (AJ 6 Bf.nd rfl (zY rfl) (BM (KA (A1 2 (pv 2)) A5) A5))) Au) (A7 (An (AZ (AS (A2 (A1 3 (pv 3)) (A2 (A1 4 (pv 4)) (A2 (A1 6 (pv 6)) (A2 (BM (Ar (Ak Aa.toXCall (FJ T) (hr.mono (by decide)) rfl (A2 (A1 0 (pv 0)) (A2 A5 A8)) rfl)) (Ad (AW hr 16 (by decide)) (Oc (A2 A5 (A2 (Ob A5 A5) A8))) (BM (A1 0 (pv 0)) A5))) A8))))))))))))))))),?_⟩;intro c m b8 hm hc;have e0:AH ["_law_cell","_law_many","_law_mixed_here","_law_one","_law_other","_law_way","_law_length"] [.int c,.int m]=[some (.val (.int c)),some (.val (.int m)),none,none,none,none,none]:=rfl;rw[e0];obtain⟨x,x0,hx⟩:=FK c 1 (by omega) (by omega);obtain⟨y,y0,hy⟩:=FK c 2 (by omega) (by omega);have kg:(0:Int)<(m:Int):=by omega
 have ji:(0:Int)<(m:Int)-1:=by omega
 obtain⟨a,ha⟩:∃a,a=x%(m:Int):=⟨_,rfl⟩;have a0:0<=a:=by rw[ha];exact yC _ (by omega)
 have a1:a<m:=by rw[ha];exact yI _ kg
 obtain⟨s,hs⟩:∃s,s=x / 16%((m:Int)-1):=⟨_,rfl⟩;have s0:0<=s:=by rw[hs];exact yC _ (by omega)
 have s1:s<(m:Int)-1:=by rw[hs];exact yI _ ji
 obtain⟨b,hb⟩:∃b,b=(a+1+s)%(m:Int):=⟨_,rfl⟩;have b0:0<=b:=by rw[hb];exact yC _ (by omega)
 have b1:b<m:=by rw[hb];exact yI _ kg
 have gm:a≠b:=by
  have:=fY (a:=a) (s:=1+s) (m:=m) a0 a1 (by omega) (by omega);rw[hb,Int.add_assoc];exact λ z=>this z.symm
 have tU:Na (.int x) (.int 16)=.ok (.int (x / 16)):=JH (by unfold Pe;omega);have om:Na (.int x) (.int 256)=.ok (.int (x / 256)):=JH (by unfold Pe;omega);have cQ:Na (.int x) (.int 1536)=.ok (.int (x / 1536)):=JH (by unfold Pe;omega);have ma:HM (.int x) (.int (m:Int))=.ok (.int a):=by rw[ha];exact Bw kg
 have sb:eU (.int (m:Int)) (.int 1)=.ok (.int ((m:Int)-1)):=rfl;have ms:HM (.int (x / 16)) (.int ((m:Int)-1))=.ok (.int s):=by rw[hs];exact Bw ji
 have tV:VT (.int a) (.int 1)=.ok (.int (a+1)):=rfl;have tW:VT (.int (a+1)) (.int s)=.ok (.int (a+1+s)):=rfl;have mb:HM (.int (a+1+s)) (.int (m:Int))=.ok (.int b):=by rw[hb];exact Bw kg
 have m6:HM (.int (x / 256)) (.int 6)=.ok (.int (x / 256%6)):=Bw (by decide);have m4:HM (.int (x / 1536)) (.int 4)=.ok (.int (x / 1536%4)):=Bw (by decide);have on:HM (.int (x / 1536)) (.int 101)=.ok (.int (x / 1536%101)):=Bw (by decide);have m2:HM (.int c) (.int 2)=.ok (.int (c%2)):=Bw (by decide);have tX:=gJ;obtain⟨T,tY,jj,hT⟩:∃T:Int,T=P6/\0<T/\Py (.int 10) (.int 60)=.ok (.int T):=⟨P6,rfl,by omega,ZP⟩;have mT:HM (.int c) (.int T)=.ok (.int (c%T)):=Bw jj;obtain⟨w,w0,hw⟩:∃w,(0<w/\w<=T)/\Bd (.lst [.int 5,.int T]) (.int (c%2))=.ok (.int w):=by
  have h:c%2=0\/c%2=1:=by omega
  rcases h with h|h
  ·rw[h];exact⟨5,⟨by decide,by omega⟩,rfl⟩
  ·rw[h];exact⟨T,⟨jj,by omega⟩,rfl⟩
 have mw:HM (.int y) (.int w)=.ok (.int (y%w)):=Bw w0.1;obtain⟨k,hk⟩:∃k,k=x / 256%6:=⟨_,rfl⟩;obtain⟨l,oh,hl⟩:∃l:Option Int,(∀z,l=some z->0<=z/\z<P6)/\l=(if k=2 then some (x / 1536%101) else if k=1 then some (c%T) else if k=0 then none else some (x / 1536%4)):=by
  refine⟨_,λ z hz=>?_,rfl⟩;split at hz
  ·cases hz;omega
  ·split at hz
   ·cases hz;exact⟨yC _ (by omega),by rw[<-tY];exact yI _ jj⟩
   ·split at hz
    ·cases hz
    ·cases hz;omega
 refine⟨⟨a,b,l,y%w⟩,⟨a0,a1,b0,b1,gm,oh,yC _ (by omega),by have:=yI y w0.1;show y%w<P6;omega⟩,BA ?_⟩;rw[<-hk] at m6;apply wp_step
 ·simp_arith[hx];rfl
 apply wp_step
 ·simp_arith[ma];rfl
 apply wp_step
 ·simp_arith[tV,tU,sb,ms,tW,mb];rfl
 apply wp_step
 ·simp_arith[om,m6];rfl
 apply wp_step
 ·simp_arith[cQ,m4];rfl
 refine BP (I:=λ ρ=>ρ=[some (.val (.int c)),some (.val (.int m)),some (.val (.int x)),some (.val (.int a)),some (.val (.int b)),some (.val (.int k)),some (.val (Ft (if k=0 then none else some (x / 1536%4))))]) ?_ ?_
 ·simp_arith[];by_cases h:k=0
  ·simp only[h,decide_true,if_true];rfl
  ·simp only[h,decide_false,zy,if_false];rfl
 rintro ρ rfl;refine BP (I:=λ ρ=>ρ=[some (.val (.int c)),some (.val (.int m)),some (.val (.int x)),some (.val (.int a)),some (.val (.int b)),some (.val (.int k)),some (.val (Ft (if k=1 then some (c%T) else if k=0 then none else some (x / 1536%4))))]) ?_ ?_
 ·simp_arith[];by_cases h:k=1
  ·simp only[h,decide_true,if_true,fV,fW,Ho,zF,zw,M.A6,Df,De,EG,ES,ET,EU,He,Fq,Gp,Kc,EI,EJ,Dg,Nq,Hb,Hc,EK,Up,Dh,Di,CD,JA,BD,JB,EL,EM,Dj,Nr,EH,CS,toCl_list,toCl_listP,toCl_dct,Hf,EV,EW,EX,EY,Hg,EZ,F0,F1,ZJ,ZI,EN,Nt,EO,Nu,EQ,ER,Hd,Nv,iO,iP,Us,Ut,Uu,Uv,Uw,Ux,toCl_nil,Gh,IZ,MH,JC,Dk,Hh,Hi,F2,F3,Hj,Hk,Hl,Hm,Hn,F4,F5,F6,F7,Dl,Dm,Dn,Dp,Dq,F8,Dr,Ds,Nw,Nx,Ny,Nz,NA,Dt,ite_tt,ite_ff,Bool.not_true,Bool.not_false,yS,zO,CH,Fb,Fc,Ur,UO,Uq,UR,US,UT,Hs,JL,JM,JN,C9,Dv,Ht,JG,UX,NM,JP,hT,mT];rfl
  ·simp only[h,decide_false,zy,if_false];rfl
 rintro ρ rfl;refine BP (I:=λ ρ=>ρ=[some (.val (.int c)),some (.val (.int m)),some (.val (.int x)),some (.val (.int a)),some (.val (.int b)),some (.val (.int k)),some (.val (Ft l))]) ?_ ?_
 ·rw[hl];simp_arith[];by_cases h:k=2
  ·simp only[h,decide_true,if_true,fV,fW,Ho,zF,zw,M.A6,Df,De,EG,ES,ET,EU,He,Fq,Gp,Kc,EI,EJ,Dg,Nq,Hb,Hc,EK,Up,Dh,Di,CD,JA,BD,JB,EL,EM,Dj,Nr,EH,CS,toCl_list,toCl_listP,toCl_dct,Hf,EV,EW,EX,EY,Hg,EZ,F0,F1,ZJ,ZI,EN,Nt,EO,Nu,EQ,ER,Hd,Nv,iO,iP,Us,Ut,Uu,Uv,Uw,Ux,toCl_nil,Gh,IZ,MH,JC,Dk,Hh,Hi,F2,F3,Hj,Hk,Hl,Hm,Hn,F4,F5,F6,F7,Dl,Dm,Dn,Dp,Dq,F8,Dr,Ds,Nw,Nx,Ny,Nz,NA,Dt,ite_tt,ite_ff,Bool.not_true,Bool.not_false,yS,zO,CH,Fb,Fc,Ur,UO,Uq,UR,US,UT,Hs,JL,JM,JN,C9,Dv,Ht,JG,UX,NM,JP,cQ,on];rfl
  ·simp only[h,decide_false,zy,if_false];rfl
 rintro ρ rfl;simp_arith[hy,hT,m2,hw,mw];rfl
noncomputable def Hu:List D->M OT:=zl GO
theorem QM:Txt K mg->CO P w K mg base "_law_road" 2 2 Hu:=(zb GO).1
theorem QN:∀(c:Int) (m:Nat),2<=m->m<=20->0<=c->∃r:Road,Kv m r/\Hu [.int c,.int m]=.ok (.sh (FW r)):=(zb GO).2
theorem Il:∃F:List D->M OT,(∀ {P w K mg base},Txt K mg->CO P w K mg base "_law_map" 3 2 F)/\(∀(cs:List Int),cs.length<=25->(∀c∈cs,0<=c)->∃(m:Nat) (rs:List Road),1<=m/\m<=7/\rs.length<=24/\(∀r∈rs,Kv m r)/\F [.lst (cs.map .int),.int 7]=.ok (.sh (Ac m rs))):=by
 refine⟨_,λ T=>AU (k:=2) T.V4 DY _ (λ f B1 A outer s H E hr=>(A4 (AJ 2 DY.nd rfl (zY rfl) (Ww rfl rfl T.ZW (Ar (J3 (A1 0 (pv 0)) Og (IJ A5))))) (A4 (AJ 3 DY.nd rfl (Or.inr rfl) (Cu A5 (BM (A1 2 (pv 2)) (A1 1 (pv 1))))) (A4 (AJ 4 DY.nd rfl (zY rfl) (Oc A8)) (A4 (B7 (ZE (c:=true) (A1 3 (pv 3)) A5) (A7 (IM (NB:=["_law_cell","_law_many"]) 4 [none,some 3] DY.nd rfl (zY rfl) rfl (AV (Ar (J3 (A1 0 (pv 0)) (IJ A5) (IJ A5)))) rfl rfl (Bm 0 (by decide) rfl rfl rfl) (λ _ _ _ _=>Ef) (λ _ _ _ _=>(Ar (Gm (Ak (Fm rfl).toXCall (QM T) (hr.mono (by decide)) rfl (A2 (A1 0 (pv 0)) (A2 (A1 1 (pv 1)) A8)) rfl)))))) Au) (A7 (An (AZ (AS (A2 (A1 3 (pv 3)) (A2 (A1 4 (pv 4)) A8))))))))))),?_⟩;intro cs hl hc;have e0:AH ["_law_cells","_law_most","_law_head","_law_many","_law_roads"] [.lst (cs.map .int),.int 7]=[some (.val (.lst (cs.map .int))),some (.val (.int 7)),none,none,none]:=rfl;rw[e0];obtain⟨h,hh⟩:∃h:Int,h=(cs.take 1).sum:=⟨_,rfl⟩;obtain⟨m,hm⟩:∃m:Nat,(m:Int)=1+h%7:=⟨(1+h%7).toNat,by omega⟩;have cm:1<=m:=by omega
 have b8:m<=7:=by omega
 have s1:Wx none (some 1) (.lst (cs.map D.int))=.ok (.lst (((cs.take 1).map D.int).map .sh)):=by rw[List.map_take];exact Q4 _ 1
 have s2:Wx (some 1) (some 25) (.lst (cs.map D.int))=.ok (.lst ((((cs.drop 1).take 24).map D.int).map .sh)):=by rw[List.map_take,List.map_drop];exact YT _ 1 25
 have m7:HM (.int h) (.int 7)=.ok (.int (h%7)):=Bw (by decide);have hlen:((((cs.drop 1).take 24).map D.int)).length<=1000:=by rw[ze,yF];omega
 by_cases uH:1<m
 ·obtain⟨g,hg⟩:∃g:Int->Road,∀c,0<=c->(Kv m (g c)/\Hu [.int c,.int m]=.ok (.sh (FW (g c)))):=by
   have this:∀c:Int,∃r:Road,0<=c->(Kv m r/\Hu [.int c,.int m]=.ok (.sh (FW r))):=λ c=>by
    by_cases rH:0<=c
    ·obtain⟨r,hr⟩:=QN c m (by omega) (by omega) rH;exact⟨r,λ _=>hr⟩
    ·exact⟨⟨0,0,none,0⟩,λ z=>(rH z).elim⟩
   exact⟨λ c=>zl (this c),λ c=>zb (this c)⟩
  have rJ:∀c∈(cs.drop 1).take 24,0<=c:=λ c aj=>hc c (List.mem_of_mem_drop (yp aj));refine⟨m,((cs.drop 1).take 24).map g,cm,b8,by rw[ze,yF];omega,λ r hr=>?_,BA ?_⟩
  ·obtain⟨c,aj,rfl⟩:=zJ.mp hr;exact (hg c (rJ c aj)).1
  apply wp_step
  ·simp_arith[s1];rfl
  rw[<-hh];apply wp_step
  ·simp_arith[m7,<-hm];rfl
  apply wp_step
  ·rfl
  refine BP (I:=λ ρ=>ρ=[some (.val (.lst (cs.map .int))),some (.val (.int 7)),some (.val (.int h)),some (.val (.int m)),some (.val (.lst ((((cs.drop 1).take 24).map g).map FW)))]) ?_ ?_
  ·have oq:(1:Int)<(m:Int):=by omega
   simp_arith[decide_eq_true oq,s2,if_pos hlen];rw[DJ (λ c=>FW (g c)) (λ c aj=>⟨_,rfl,rfl,by
    have:=(hg c (rJ c aj)).2;simp_arith[this]⟩)]
   simp_arith[];show _=_;rw[ym];rfl
  rintro ρ rfl;simp_arith[];rfl
 ·refine⟨m,[],cm,b8,by simp,(λ r hr=>by cases hr),BA ?_⟩;apply wp_step
  ·simp_arith[s1];rfl
  rw[<-hh];apply wp_step
  ·simp_arith[m7,<-hm];rfl
  apply wp_step
  ·rfl
  have oq:¬ (1:Int)<(m:Int):=by omega
  apply wp_step
  ·simp_arith[decide_eq_false oq];rfl
  simp_arith[];rfl
noncomputable def QO:List D->M OT:=zl Il
theorem Sb:Txt K mg->CO P w K mg base "_law_map" 3 2 QO:=(zb Il).1
theorem Sd:∀(cs:List Int),cs.length<=25->(∀c∈cs,0<=c)->∃(m:Nat) (rs:List Road),1<=m/\m<=7/\rs.length<=24/\(∀r∈rs,Kv m r)/\QO [.lst (cs.map .int),.int 7]=.ok (.sh (Ac m rs)):=(zb Il).2
theorem FL:∃F:List D->M OT,(∀ {P w K mg base},Txt K mg->CO P w K mg base "_law_order" 2 2 F)/\(∀(m:Nat) (c:Int),m<=60->∃L:List Int,L.Perm (Ay m)/\F [.int m,.int c]=.ok (.lst ((L.map D.int).map .sh))):=by
 refine⟨_,λ T=>AU (k:=1) T.Qy FA _ (λ f B1 A outer s H E hr=>(A4 (BX 2 FA.nd rfl (zY rfl) (Lu H9)) (A4 (Cw Aa.toXCall.own rfl (GX (c:=true) rfl T.FC (A1 0 (pv 0))) (B5 3 FA.nd rfl (zY rfl)) (A7 (U9 2 (pv 2) (BM (Ar (Ak Aa.toXCall (FJ T) (hr.mono (by decide)) rfl (A2 (A1 1 (pv 1)) (A2 (A1 3 (pv 3)) A8)) rfl)) (Cu (A1 3 (pv 3)) A5)) (A1 3 (pv 3))))) (A7 (Eg 2 (pv 2)))))),?_⟩;intro m c hm;have e0:AH ["_law_many","_law_cell","_law_order_here","_law_k"] [.int m,.int c]=[some (.val (.int m)),some (.val (.int c)),none,none]:=rfl;rw[e0];refine (λ h:∃t,_/\∃L:List Int,t=OT.lst ((L.map D.int).map .sh)/\L.Perm (Ay m)=>by
  obtain⟨t,h1,L,rfl,h2⟩:=h;exact⟨L,h2,h1⟩) (Q0 ?_)
 have hr:=Li (n:=m) (by omega);apply wp_step
 ·rfl
 try simp only[zF,zw]
 refine BP (I:=λ ρ=>∃(L:List Int) (s3:Option Cl),ρ=[some (.val (.int m)),some (.val (.int c)),some (.own (L.map D.int)),s3]/\L.Perm (Ay m)) ?_ ?_
 ·simp_arith[hr];refine CC (λ i ρ=>i<=m/\∃(L:List Int) (s3:Option Cl),ρ=[some (.val (.int m)),some (.val (.int c)),some (.own (L.map D.int)),s3]/\L.Perm (Ay i)) ⟨zW _,[],none,rfl,.refl _⟩ ?_ ?_
  ·rintro i d ρ hd ⟨_,L,s3,rfl,hL⟩;obtain⟨gc,hi⟩:=HP hd;rw[Int.zero_add] at gc;subst gc;have hlen:=LY hL;refine⟨_,rfl,?_⟩;obtain⟨v,v0,hv⟩:=FK c i (by omega) (by omega);have cm:HM (.int v) (.int ((i:Int)+1))=.ok (.int (v%((i:Int)+1))):=Bw (by omega);have b0:0<=v%((i:Int)+1):=yC _ (by omega);have b1:v%((i:Int)+1)<(i:Int)+1:=yI _ (by omega);refine Bv (ρ':=[some (.val (.int m)),some (.val (.int c)),some (.own ((L.take (v%((i:Int)+1)).toNat++(i:Int)::L.drop (v%((i:Int)+1)).toNat).map D.int)),some (.val (.int i))]) ?_ ⟨by omega,_,_,rfl,UN hL _⟩;simp_arith[hv,cm];rw[if_pos ⟨b0,by rw[ze];omega,by rw[ze];omega⟩];simp only[yh,zg,List.map_take,List.map_drop];rfl
  ·rintro ρ ⟨_,L,s3,rfl,hL⟩;exact⟨L,s3,rfl,by rw[Cv] at hL;exact hL⟩
 ·rintro ρ ⟨L,s3,rfl,hL⟩;exact⟨_,rfl,L,rfl,hL⟩
noncomputable def Mv:List D->M OT:=zl FL
theorem OU:Txt K mg->CO P w K mg base "_law_order" 2 2 Mv:=(zb FL).1
theorem OV:∀(m:Nat) (c:Int),m<=60->∃L:List Int,L.Perm (Ay m)/\Mv [.int m,.int c]=.ok (.lst ((L.map D.int).map .sh)):=(zb FL).2
theorem FN:∃F:OT->List D->M (OT×OT),(∀ {P w K mg base},Txt K mg->Ka P w K mg base "_law_least" 1 3 F)/\(∀(R:RA) (y:Int) (v:Int×Int),R.length<1000->F (M5 R) [.int y,cst (some v)]=.ok (M5 (if bt R y v=true then Cn R y v else R),.sh (.bl (bt R y v)))):=by
 refine⟨_,λ T=>LD (k:=0) T.Qz OL _ (λ f B1 A outer s H E hr=>(A4 (B7 (Jz (DW.dt (D4 (Ha (c:=true) (AW hr 16 (by decide)) (A1 1 (pv 1)) (A1 0 (pv 0))) (Ca (RF (c:=true) (AW hr 16 (by decide)) (A1 2 (pv 2)) (Ad (AW hr 16 (by decide)) (A1 0 (pv 0)) (A1 1 (pv 1)))))))) (A4 (KN (AW hr 16 (by decide)) (Br 0 (pv 0)) (A1 1 (pv 1)) (A1 2 (pv 2))) (A7 (SH (AZ BK)))) Au) (A7 (SH (AZ BK))))),?_⟩;intro R y v hR;have e0:Cb ["_law_found","_law_place","_law_cost_here"] (M5 R) [.int y,cst (some v)]=[some (.ow (.tree (some 0) (M5 R))),some (.val (.int y)),some (.val (cst (some v)))]:=rfl;rw[e0];refine OG ?_;have hm:=RO R y true;have hl:(R.map λ kv=>D.int kv.1).length<1000:=by rw[ze];exact hR
 have eh:keyOk false (.int y)=true:=rfl;cases q:BE R y with
 |none =>
  have hb:bt R y v=true:=by unfold bt;rw[q]
  rw[q] at hm;rw[hb,if_pos rfl];simp_arith[hm,hl,eh,and_self,if_true,X7,Option.isSome_none,DF];exact⟨rfl,rfl⟩
 |some z =>
  have hx:=gY v z;have hi:=RP q;rw[q] at hm;by_cases hc:v.1<z.1\/(v.1=z.1/\v.2<z.2)
  ·have hb:bt R y v=true:=by unfold bt;rw[q];exact decide_eq_true hc
   rw[decide_eq_true hc] at hx;rw[hb,if_pos rfl];simp_arith[hm,hi,hx,hl,eh,and_self,if_true,X7,yW,DF];exact⟨rfl,rfl⟩
  ·have hb:bt R y v=false:=by unfold bt;rw[q];exact decide_eq_false hc
   rw[decide_eq_false hc] at hx;rw[hb,if_neg zG];simp_arith[hm,hi,hx,if_true,yW,DF];exact⟨rfl,rfl⟩
noncomputable def Mw:OT->List D->M (OT×OT):=zl FN
theorem OW:Txt K mg->Ka P w K mg base "_law_least" 1 3 Mw:=(zb FN).1
theorem OX:∀(R:RA) (y:Int) (v:Int×Int),R.length<1000->Mw (M5 R) [.int y,cst (some v)]=.ok (M5 (if bt R y v=true then Cn R y v else R),.sh (.bl (bt R y v))):=(zb FN).2
theorem FO:∃F:List D->M OT,(∀ {P w K mg base},Txt K mg->CO P w K mg base "_law_costs" 2 3 F)/\(∀(m:Nat) (rs:List Road) (s:Int) (W:List Int),m<=20->(∀r∈rs,Gu m r)->0<=s->s<m->∃R:RA,F [Ac m rs,.int s,.lst (W.map D.int)]=.ok (M5 R)/\Zf m rs s W R):=by
 refine⟨_,λ T=>AU (k:=1) T.QA AQ _ (λ f B1 A outer s H E hr=>(A4 (BX 3 AQ.nd rfl (zY rfl) (WJ (A1 1 (pv 1)) (AS (A2 A5 (A2 A5 A8))))) (A4 (AJ 4 AQ.nd rfl (zY rfl) BK) (A4 (Lk Aa.toXCall.own (Bs (c:=true) (A1 4 (pv 4))) (A4 (AJ 4 AQ.nd rfl (zY rfl) BK) (A7 (Cw Aa.toXCall.own rfl (AV (Ad (AW hr 16 (by decide)) (A1 0 (pv 0)) A5)) (Rq (n:=4) rfl (CQ (B5 5 AQ.nd rfl (zY rfl)) (CQ (B5 6 AQ.nd rfl (zY rfl)) (CQ (B5 7 AQ.nd rfl (zY rfl)) (CQ (B5 8 AQ.nd rfl (zY rfl)) Oh))))) (A7 (B7 (Jz (DW.dt (Lg (KC (c:=true) (A1 7 (pv 7))) (Lg (LC (c:=true) (AW hr 16 (by decide)) (A1 5 (pv 5)) (A1 3 (pv 3))) (KD (DW.dt (D4 (K4 (c:=true) (AW hr 16 (by decide)) (A1 5 (pv 5)) (A1 1 (pv 1))) (Ca (LC (c:=true) (AW hr 16 (by decide)) (A1 5 (pv 5)) (A1 2 (pv 2))))))))))) (A4 (AJ 9 AQ.nd rfl (zY rfl) (YC (fN (c:=true) (AS (A2 (Cu (Ad (AW hr 16 (by decide)) (Ad (AW hr 16 (by decide)) (A1 3 (pv 3)) (A1 5 (pv 5))) A5) (A1 7 (pv 7))) (A2 (Cu (Ad (AW hr 16 (by decide)) (Ad (AW hr 16 (by decide)) (A1 3 (pv 3)) (A1 5 (pv 5))) A5) A5) A8)))))) (A7 (YM 4 AQ.nd rfl (zY rfl) (lG (SI Aa.toXCall (OW T) (hr.mono (by decide)) rfl (Br 3 (pv 3)) (A2 (A1 6 (pv 6)) (A2 (A1 9 (pv 9)) A8)) rfl) (A1 4 (pv 4)))))) Au)))))) (A7 (Eg 3 (pv 3))))))),?_⟩;intro m rs s W hm Ao h0 h1;have e0:AH ["_law_land","_law_start","_law_inner","_law_found","_law_better","_law_one","_law_other","_law_length","_law_width","_law_cost_here"] [Ac m rs,.int s,.lst (W.map D.int)]=[some (.val (Ac m rs)),some (.val (.int s)),some (.val (.lst (W.map D.int))),none,none,none,none,none,none,none]:=rfl;rw[e0];refine (λ h:∃t,_/\∃R:RA,t=M5 R/\Zf m rs s W R=>by
  obtain⟨t,h1,R,rfl,h2⟩:=h;exact⟨R,h1,h2⟩) (Q0 ?_)
 have n1:Bd (Ac m rs) (.int 1)=.ok (.lst (rs.map FW)):=rfl;refine wp_step (ρ':=[some (.val (Ac m rs)),some (.val (.int s)),some (.val (.lst (W.map D.int))),some (.ow (.tree none (M5 [(s,(0,0))]))),none,none,none,none,none,none]) (by rfl) ?_;refine wp_step (ρ':=[some (.val (Ac m rs)),some (.val (.int s)),some (.val (.lst (W.map D.int))),some (.ow (.tree none (M5 [(s,(0,0))]))),some (.val (.bl true)),none,none,none,none,none]) (by rfl) ?_;refine BP (I:=λ ρ=>∃(R:RA) (s4 s5 s6 s7 s8 s9:Option Cl),ρ=[some (.val (Ac m rs)),some (.val (.int s)),some (.val (.lst (W.map D.int))),some (.ow (.tree none (M5 R))),s4,s5,s6,s7,s8,s9]/\Zf m rs s W R) ?_ ?_
 ·refine LH (lt:=mS) (λ z ρ=>∃(R:RA) (s5 s6 s7 s8:Option Cl) (o9:Option D),ρ=[some (.val (Ac m rs)),some (.val (.int s)),some (.val (.lst (W.map D.int))),some (.ow (.tree none (M5 R))),some (.val (.bl z.2)),s5,s6,s7,s8,vO o9]/\z.1=CI m R/\XA m rs s W R/\(z.2=false->mU rs s W R)) (X8 (CI m [(s,(0,0))])) ⟨_,none,none,none,none,none,rfl,rfl,XA.start h0 h1,λ e=>by cases e⟩ ?_;rintro ⟨cs,b⟩ ρ ⟨R0,s5,s6,s7,s8,o9,rfl,ge,g,hR⟩;dsimp only at ge;cases b with
  |false=>exact .inl ⟨rfl,R0,_,s5,s6,s7,s8,_,rfl,g.fin (hR rfl)⟩
  |true =>
   refine .inr ⟨rfl,?_⟩;apply wp_step
   ·rfl
   try simp only[zF,zw]
   simp_arith[n1];refine CC (λ i ρ=>∃(R:RA) (ch:Bool) (s5 s6 s7 s8:Option Cl) (o9:Option D),ρ=[some (.val (Ac m rs)),some (.val (.int s)),some (.val (.lst (W.map D.int))),some (.ow (.tree none (M5 R))),some (.val (.bl ch)),s5,s6,s7,s8,vO o9]/\XA m rs s W R/\(ch=true->K9 ltN (CI m R) (CI m R0))/\(ch=false->R=R0/\mU (rs.take i) s W R0)) ⟨R0,false,s5,s6,s7,s8,o9,rfl,g,(λ h=>by cases h),λ _=>⟨rfl,λ r hr=>by rw[List.take_zero] at hr;cases hr⟩⟩ ?_ ?_
   ·rintro i d ρ hd ⟨R,ch,s5,s6,s7,s8,o9,rfl,g1,k1,k2⟩;obtain⟨r,hq,rfl⟩:=BS hd;have hr:=zq hq;have ok:=Ao r hr;have et:rs.take (i+1)=rs.take i++[r]:=by rw[yw,hq];rfl
    refine⟨_,rfl,?_⟩;have skip:(∀l c,r.l=some l->BE R r.a=some c->(r.a=s\/r.a∈W)->Cc (BE R r.b) (some (c.1+l,c.2+1)))->ch=false->R=R0/\mU (rs.take (i+1)) s W R0:=λ hs hf=>by
     obtain⟨e1,e2⟩:=k2 hf;subst e1;refine⟨rfl,λ r' bA=>?_⟩;rw[et] at bA;rcases zM.mp bA with bA|bA
     ·exact e2 r' bA
     ·rw[zu.mp bA];exact hs
    cases ql:r.l with
    |none =>
     have bD:BN (Ft none)=true:=rfl;refine Bv (ρ':=_) (by simp_arith[ql,bD];rfl) ⟨R,ch,_,_,_,_,_,rfl,g1,k1,skip λ l c e=>by rw[ql] at e;cases e⟩
    |some l =>
     have bD:BN (Ft (some l))=false:=rfl;have bE:=RO R r.a false;cases qa:BE R r.a with
     |none =>
      rw[qa] at bE;refine Bv (ρ':=_) (by simp_arith[ql,bD,bE];rfl) ⟨R,ch,_,_,_,_,_,rfl,g1,k1,skip λ l c _ e=>by rw[qa] at e;cases e⟩
     |some c0 =>
      rw[qa] at bE;have i1:=RP qa;have j0:Bd (cst (some c0)) (.int 0)=.ok (.int c0.1):=rfl;have j1:Bd (cst (some c0)) (.int 1)=.ok (.int c0.2):=rfl;have ll:Ft (some l)=.int l:=rfl;have tt:D.tup [.int (c0.1+l),.int (c0.2+1)]=cst (some (c0.1+l,c0.2+1)):=rfl;have hlen:R.length<1000:=by
       have:=Hq g1.nd (u:=Ay m) λ k hk=>F9.mpr (g1.rg k hk);rw[ze,DM] at this;omega
      have h5:=OX R r.b (c0.1+l,c0.2+1) hlen;by_cases hi:r.a=s\/r.a∈W
      ·by_cases e1:r.a=s
       ·simp_arith[ql,bD,bE,decide_eq_true e1,yW,zy,if_false,if_true];apply wp_step
        ·simp_arith[i1,j0,j1,ll];rfl
        try simp only[zF,zw]
        have h6:=Fe (ρ:=[some (.val (Ac m rs)),some (.val (.int s)),some (.val (.lst (W.map D.int))),some (.ow (.tree none (M5 R))),some (.val (.bl ch)),some (.val (.int r.a)),some (.val (.int r.b)),some (.val (.int l)),some (.val (.int r.w)),some (.val (cst (some (c0.1+l,c0.2+1))))]) (i:=3) rfl rfl h5;cases hb:bt R r.b (c0.1+l,c0.2+1) with
        |true =>
         rw[hb,if_pos rfl] at h6;obtain⟨g2,g3⟩:=g1.put Ao hr ql qa hi hb;refine Bv (ρ':=[some (.val (Ac m rs)),some (.val (.int s)),some (.val (.lst (W.map D.int))),some (.ow (.tree none (M5 (Cn R r.b (c0.1+l,c0.2+1))))),some (.val (.bl true)),some (.val (.int r.a)),some (.val (.int r.b)),some (.val (.int l)),some (.val (.int r.w)),vO (some (cst (some (c0.1+l,c0.2+1))))]) (by
          simp_arith[ll,tt];rw[h6];rfl) ⟨_,true,_,_,_,_,_,rfl,g2,λ _=>?_,λ hf=>by cases hf⟩
         cases ch with
         |false=>obtain⟨e1,_⟩:=k2 rfl;subst e1;exact g3
         |true=>exact K9.trans ltN JF g3 (k1 rfl)
        |false =>
         rw[hb,if_neg zG] at h6;refine Bv (ρ':=[some (.val (Ac m rs)),some (.val (.int s)),some (.val (.lst (W.map D.int))),some (.ow (.tree none (M5 R))),some (.val (.bl ch)),some (.val (.int r.a)),some (.val (.int r.b)),some (.val (.int l)),some (.val (.int r.w)),vO (some (cst (some (c0.1+l,c0.2+1))))]) (by
          simp_arith[ll,tt];rw[h6];rfl) ⟨R,ch,_,_,_,_,_,rfl,g1,k1,skip λ l' c' q1 q2 _=>by rw[ql] at q1;cases q1;rw[qa] at q2;cases q2;exact ZT hb⟩
       ·have e2:W.contains r.a=true:=by simpa using hi.resolve_left e1
        simp_arith[ql,bD,bE,decide_eq_false e1,e2,yW,zy,if_false,if_true];apply wp_step
        ·simp_arith[i1,j0,j1,ll];rfl
        try simp only[zF,zw]
        have h6:=Fe (ρ:=[some (.val (Ac m rs)),some (.val (.int s)),some (.val (.lst (W.map D.int))),some (.ow (.tree none (M5 R))),some (.val (.bl ch)),some (.val (.int r.a)),some (.val (.int r.b)),some (.val (.int l)),some (.val (.int r.w)),some (.val (cst (some (c0.1+l,c0.2+1))))]) (i:=3) rfl rfl h5;cases hb:bt R r.b (c0.1+l,c0.2+1) with
        |true =>
         rw[hb,if_pos rfl] at h6;obtain⟨g2,g3⟩:=g1.put Ao hr ql qa hi hb;refine Bv (ρ':=[some (.val (Ac m rs)),some (.val (.int s)),some (.val (.lst (W.map D.int))),some (.ow (.tree none (M5 (Cn R r.b (c0.1+l,c0.2+1))))),some (.val (.bl true)),some (.val (.int r.a)),some (.val (.int r.b)),some (.val (.int l)),some (.val (.int r.w)),vO (some (cst (some (c0.1+l,c0.2+1))))]) (by
          simp_arith[ll,tt];rw[h6];rfl) ⟨_,true,_,_,_,_,_,rfl,g2,λ _=>?_,λ hf=>by cases hf⟩
         cases ch with
         |false=>obtain⟨e1,_⟩:=k2 rfl;subst e1;exact g3
         |true=>exact K9.trans ltN JF g3 (k1 rfl)
        |false =>
         rw[hb,if_neg zG] at h6;refine Bv (ρ':=[some (.val (Ac m rs)),some (.val (.int s)),some (.val (.lst (W.map D.int))),some (.ow (.tree none (M5 R))),some (.val (.bl ch)),some (.val (.int r.a)),some (.val (.int r.b)),some (.val (.int l)),some (.val (.int r.w)),vO (some (cst (some (c0.1+l,c0.2+1))))]) (by
          simp_arith[ll,tt];rw[h6];rfl) ⟨R,ch,_,_,_,_,_,rfl,g1,k1,skip λ l' c' q1 q2 _=>by rw[ql] at q1;cases q1;rw[qa] at q2;cases q2;exact ZT hb⟩
      ·have e1:¬ r.a=s:=λ e=>hi (.inl e);have e2:W.contains r.a=false:=by simpa using λ e=>hi (.inr e)
       refine Bv (ρ':=_) (by simp_arith[ql,bD,bE,decide_eq_false e1,e2];rfl) ⟨R,ch,_,_,_,_,_,rfl,g1,k1,skip λ l c _ _ e=>(hi e).elim⟩
   ·rintro ρ ⟨R,ch,s5,s6,s7,s8,o9,rfl,g1,k1,k2⟩;cases ch with
    |true=>exact⟨(CI m R,true),⟨rfl,.inr ⟨rfl,by rw[ge];exact k1 rfl⟩⟩,R,s5,s6,s7,s8,o9,rfl,rfl,g1,λ e=>by cases e⟩
    |false =>
     obtain⟨e1,e2⟩:=k2 rfl;subst e1;rw[ze,yo] at e2;exact⟨(CI m R,false),⟨rfl,.inl rfl⟩,R,s5,s6,s7,s8,o9,rfl,rfl,g1,λ _=>e2⟩
 ·rintro ρ ⟨R,s4,s5,s6,s7,s8,s9,rfl,hR⟩;exact⟨_,rfl,R,rfl,hR⟩
noncomputable def Im:List D->M OT:=zl FO
theorem OY:Txt K mg->CO P w K mg base "_law_costs" 2 3 Im:=(zb FO).1
theorem Jf:∀(m:Nat) (rs:List Road) (s:Int) (W:List Int),m<=20->(∀r∈rs,Gu m r)->0<=s->s<m->∃R:RA,Im [Ac m rs,.int s,.lst (W.map D.int)]=.ok (M5 R)/\Zf m rs s W R:=(zb FO).2
theorem GP:∃F:List D->M OT,(∀ {P w K mg base},Txt K mg->CO P w K mg base "_law_cost" 1 1 F)/\(∀c:Int×Int,F [cst (some c)]=.ok (.sh (.bl true))):=by
 refine⟨_,λ T=>AU (k:=0) T.S4 Qt _ (λ f B1 A outer s H E hr=>(A4 (B7 (DW.dt (D4 (BO (Bs (c:=true) (Ep (HN _) rfl T.AR rfl T.KU (by decide +kernel) (A1 0 (pv 0))))) (Ca (K5 (c:=true) (AW hr 16 (by decide)) (Jp rfl T.NP (A1 0 (pv 0))) A5)))) (A7 (An (AZ BK))) Au) (A7 (An (AZ (Rw rfl rfl T.Xo (Ar (Eh (NB:=["_law_part"]) [none] rfl (hX (A1 0 (pv 0))) rfl rfl (Bm 0 (by decide) rfl rfl rfl) (λ _ _ _ _=>Ef) (λ _ _ _ _=>(Of (Ep (PB _) rfl T.AR rfl T.ZU (by decide +kernel) (A1 0 (pv 0))) (Oe (VW (Ep (Nb _) rfl T.AR rfl T.Xp (by decide +kernel) (A1 0 (pv 0))))))))))))))),?_⟩;intro c;have e0:AH ["_law_found"] [cst (some c)]=[some (.val (cst (some c)))]:=rfl;rw[e0];refine BA ?_;have ht:cst (some c)=.tup [.int c.1,.int c.2]:=rfl;apply wp_step
 ·simp_arith[ht];rfl
 simp_arith[ht];rfl
noncomputable def NU:List D->M OT:=zl GP
theorem QP:Txt K mg->CO P w K mg base "_law_cost" 1 1 NU:=(zb GP).1
theorem QQ:∀c:Int×Int,NU [cst (some c)]=.ok (.sh (.bl true)):=(zb GP).2
theorem FQ:∃F:List D->M OT,(∀ {P w K mg base},Txt K mg->CO P w K mg base "_law_right" 4 2 F)/\(∀(m:Nat) (rs:List Road) (L:List Int) (A:LA) (K:List (Int×Int)),Fd m rs L A K->K.Pairwise Lp->m<=7->F [Bg m rs L A K,Ac m rs]=.ok (.sh (.bl true))):=by
 refine⟨_,λ T=>AU (k:=3) T.QB Bu _ (λ f B1 A outer s H E hr=>(A4 (IM (NB:=["_law_u","_law_land"]) 2 [none,some 1] Bu.nd rfl (zY rfl) rfl (GX (c:=true) rfl T.FC (Ad (AW hr 16 (by decide)) (A1 1 (pv 1)) A5)) rfl rfl (Bm 0 (by decide) rfl rfl rfl) (λ _ _ _ _=>Ef) (λ _ _ _ _=>(Ar (Gm (Ak (Fm rfl).toXCall (OY T) (hr.mono (by decide)) rfl (A2 (A1 1 (pv 1)) (A2 (A1 0 (pv 0)) (A2 (Ar (Fp rfl rfl T.EA rfl T.FC (Ad (AW hr 16 (by decide)) (A1 1 (pv 1)) A5))) A8))) rfl))))) (A4 (BX 3 Bu.nd rfl (zY rfl) (Lu H9)) (A4 (Cw Aa.toXCall.own rfl (AV (Ar (LN (k:=1) [("Ladder",Cj)] Aa.toXCall (Gs (by decide) (Mp T) J6) (hr.mono (by decide)) (A1 0 (pv 0))))) (Rq (n:=2) rfl (CQ (B5 4 Bu.nd rfl (zY rfl)) (CQ (B5 5 Bu.nd rfl (zY rfl)) Oh))) (A4 (AJ 7 Bu.nd rfl (zY rfl) (Ar (SQ (k:=3) [("Ladder",Ck)] Aa.toXCall (Gs (by decide) (Mr T) J6) (hr.mono (by decide)) (A1 0 (pv 0)) (A2 (A1 4 (pv 4)) (A2 (A1 5 (pv 5)) A8)) rfl))) (A4 (B7 (DW.dt (D4 (Ha (c:=true) (AW hr 16 (by decide)) (A1 5 (pv 5)) (Ad (AW hr 16 (by decide)) (A1 2 (pv 2)) (A1 4 (pv 4)))) (D4 (BO (Bs (c:=true) (Ar (Ak Aa.toXCall (QP T) (hr.mono (by decide)) rfl (A2 (A1 7 (pv 7)) A8) rfl)))) (Ca (RF (c:=true) (AW hr 16 (by decide)) (A1 7 (pv 7)) (Ad (AW hr 16 (by decide)) (Ad (AW hr 16 (by decide)) (A1 2 (pv 2)) (A1 4 (pv 4))) (A1 5 (pv 5)))))))) (A7 (An (AZ BK))) Au) (A7 (B7 (K4 (c:=true) (AW hr 16 (by decide)) (A1 7 (pv 7)) (Ad (AW hr 16 (by decide)) (Ad (AW hr 16 (by decide)) (A1 2 (pv 2)) (A1 4 (pv 4))) (A1 5 (pv 5)))) (A7 (Jr 3 (pv 3) (AS (A2 (A1 4 (pv 4)) (A2 (A1 5 (pv 5)) A8))))) Au))))) (A4 (BX 6 Bu.nd rfl (zY rfl) (LN (k:=1) [("Ladder",BJ)] Aa.toXCall (Gs (by decide) (GN T) J6) (hr.mono (by decide)) (A1 0 (pv 0)))) (A4 (B7 (Jz (DW.dt (D4 (BO (Bs (c:=true) (Ep (Jq _) rfl T.AR rfl T.EA (by decide +kernel) (A1 6 (pv 6))))) (Ca (K5 (c:=true) (AW hr 16 (by decide)) (A1 6 (pv 6)) (A1 3 (pv 3))))))) (A7 (An (AZ BK))) Au) (A4 (Jr 6 (pv 6) (AS (A2 A5 (A2 A5 A8)))) (A7 (fO 3 (An (AZ (ZD (AW hr 16 (by decide)) (Ar (LN (k:=1) [("Ladder",BJ)] Aa.toXCall (Gs (by decide) (GN T) J6) (hr.mono (by decide)) (A1 0 (pv 0)))) (A1 3 (pv 3)))))))))))))),?_⟩;intro m rs L A K ok oy hm;have Ao:∀r∈rs,Gu m r:=λ r hr=>(ok.ok r hr).1;have hA:=ok.oV;have e0:AH ["_law_ladder","_law_land","_law_costs_here","_law_due","_law_u","_law_w","_law_kept","_law_cost_here"] [Bg m rs L A K,Ac m rs]=[some (.val (Bg m rs L A K)),some (.val (Ac m rs)),none,none,none,none,none,none]:=rfl;rw[e0];refine BA ?_;have n0:Bd (Ac m rs) (.int 0)=.ok (.int m):=rfl;have gl:U3 (.int (m:Int))=.ok (C0 0 m):=Li (by omega);have tZ:((zD m).map λ i:Nat=>D.int (i:Int))=(Ay m).map D.int:=by unfold Ay;rw[ym];rfl
 have fc:=KO (n:=m) (by omega);rw[tZ] at fc;obtain⟨Rf,o0⟩:∃Rf:Nat->RA,∀i:Nat,i<m->Im [Ac m rs,.int i,.lst ((Ay m).map D.int)]=.ok (M5 (Rf i))/\Zf m rs i (Ay m) (Rf i):=⟨λ i=>if h:i<m then zl (Jf m rs i (Ay m) (by omega) Ao (by omega) (by omega)) else [],λ i hi=>by
  dsimp only;rw[dif_pos hi];exact zb (Jf m rs i (Ay m) (by omega) Ao (by omega) (by omega))⟩
 have aQ:((zD m).map λ j:Nat=>D.int (j:Int)).length<=1000:=by rw[ze,List.length_range];omega
 refine wp_step (ρ':=[some (.val (Bg m rs L A K)),some (.val (Ac m rs)),some (.val (.lst ((zD m).map λ i=>OD (Rf i)))),none,none,none,none,none]) (by
  simp_arith[n0,gl,HR,if_pos aQ];rw[DJ (λ i:Nat=>OD (Rf i)) (λ i hi=>⟨_,rfl,rfl,by
   have h1:=(o0 i (yX.mp hi)).1;simp_arith[n0,fc,h1];try rfl⟩)]
  try rfl) ?_
 have hs:Ku [("Ladder",BJ)] "kept" (Bg m rs L A K)=.ok BJ:=rfl;have aS:Ku [("Ladder",Ck)] "cost" (Bg m rs L A K)=.ok Ck:=rfl;have ub:Ku [("Ladder",Cj)] "arcs" (Bg m rs L A K)=.ok Cj:=rfl;have hk:=Mt m rs L A K;have n9:=Mq m rs L A K hA hm;obtain⟨Rg,rK⟩:∃Rg:Int->RA,∀i:Nat,Rg i=Rf i:=⟨λ u=>Rf u.toNat,λ i=>by dsimp only;rw[yk]⟩;have uc:(NO A).filter (Qq A Rg)=K:=Zn ok oy λ u h0 h1=>by
  obtain⟨i,rfl⟩:∃i:Nat,u=(i:Int):=⟨u.toNat,by omega⟩;rw[rK];exact (o0 i (by omega)).2
 have ue:=ok.kl;refine wp_step (ρ':=[some (.val (Bg m rs L A K)),some (.val (Ac m rs)),some (.val (.lst ((zD m).map λ i=>OD (Rf i)))),some (.own []),none,none,none,none]) (by simp_arith[];try rfl) ?_;refine BP (I:=λ ρ=>∃o4 o5 o7:Option D,ρ=[some (.val (Bg m rs L A K)),some (.val (Ac m rs)),some (.val (.lst ((zD m).map λ i=>OD (Rf i)))),some (.own (K.map pD)),vO o4,vO o5,none,vO o7]) ?_ ?_
 ·simp_arith[ub,n9];refine CC (λ i ρ=>∃o4 o5 o7:Option D,ρ=[some (.val (Bg m rs L A K)),some (.val (Ac m rs)),some (.val (.lst ((zD m).map λ i=>OD (Rf i)))),some (.own ((((NO A).take i).filter (Qq A Rg)).map pD)),vO o4,vO o5,none,vO o7]) ⟨none,none,none,rfl⟩ ?_ ?_
  ·rintro i d ρ hd ⟨o4,o5,o7,rfl⟩;obtain⟨p,hp,rfl⟩:=BS hd;have uf:=To.mp (zq hp);obtain⟨z,hz⟩:=y3.mp uf;have hc:Ah A p=some z.1:=by unfold Ah;rw[hz];rfl
   obtain⟨_,hu,hw⟩:=hA.rg p (BU hc);have h1:=Ms m rs L A K p.1 p.2 z.1 hA hc;obtain⟨u,o6⟩:∃u:Nat,p.1=(u:Int):=⟨p.1.toNat,by omega⟩;have kc:u<m:=by omega
   have o8:Bd (.lst ((zD m).map λ i=>OD (Rf i))) (.int p.1)=.ok (OD (Rf u)):=by rw[o6];exact SW (by omega) (by rw[yk,yB kc])
   have oW:=(o0 u kc).2.min Ao p.2;have jk:=((ok.tH).snd p.1 p.2 z.1 hc).1;rw[o6] at jk;have hle:=oW.1 z.1 jk;obtain⟨c',cu,oX⟩:=WY hle;have bE:=RO (Rf u) p.2 true;rw[cu] at bE;have i1:=RP cu;have rp:=QQ z.1;have rL:=gY z.1 c';have ug:decide (z.1.1<c'.1\/(z.1.1=c'.1/\z.1.2<c'.2))=false:=decide_eq_false (by simp only[oU] at oX;omega);rw[ug] at rL;have kh:=SY (some z.1) (some c');have ko:Qq A Rg p=decide (some z.1=some c'):=by unfold Qq;rw[hc,o6,rK,cu]
   have et:(NO A).take (i+1)=(NO A).take i++[p]:=by rw[yw,hp];rfl
   have jl:((((NO A).take i).filter (Qq A Rg)).map pD).length<1000:=by
    have h7:=hA.lW hm;have h8:((NO A).take i).length<=(A.map zR).length:=by
     rw[yF];unfold NO;rw[(CJ _).length_eq];omega
    have:=xb (Qq A Rg) ((NO A).take i);rw[ze];omega
   refine⟨_,rfl,?_⟩;rw[et,List.filter_append];refine wp_step (ρ':=[some (.val (Bg m rs L A K)),some (.val (Ac m rs)),some (.val (.lst ((zD m).map λ i=>OD (Rf i)))),some (.own ((((NO A).take i).filter (Qq A Rg)).map pD)),some (.val (.int p.1)),some (.val (.int p.2)),none,some (.val (cst (some z.1)))]) (by simp_arith[aS,h1];try rfl) ?_;refine wp_step (ρ':=[some (.val (Bg m rs L A K)),some (.val (Ac m rs)),some (.val (.lst ((zD m).map λ i=>OD (Rf i)))),some (.own ((((NO A).take i).filter (Qq A Rg)).map pD)),some (.val (.int p.1)),some (.val (.int p.2)),none,some (.val (cst (some z.1)))]) (by simp_arith[o8,bE,i1,rp,rL,DF,yW,if_true];try rfl) ?_;by_cases e:some z.1=some c'
   ·rw[decide_eq_true e] at kh ko;have ef:[p].filter (Qq A Rg)=[p]:=by rw[List.filter_cons,if_pos ko];rfl
    rw[ef,yh];refine Bv (ρ':=[some (.val (Bg m rs L A K)),some (.val (Ac m rs)),some (.val (.lst ((zD m).map λ i=>OD (Rf i)))),some (.own ((((NO A).take i).filter (Qq A Rg)).map pD++[p].map pD)),vO (some (.int p.1)),vO (some (.int p.2)),none,vO (some (cst (some z.1)))]) (by
     simp_arith[o8,i1,kh,if_pos jl];rfl) ⟨_,_,_,rfl⟩
   ·rw[decide_eq_false e] at kh ko;have ef:[p].filter (Qq A Rg)=[]:=by rw[List.filter_cons,if_neg (by rw[ko];exact zG)];rfl
    rw[ef,yc];refine Bv (ρ':=[some (.val (Bg m rs L A K)),some (.val (Ac m rs)),some (.val (.lst ((zD m).map λ i=>OD (Rf i)))),some (.own ((((NO A).take i).filter (Qq A Rg)).map pD)),vO (some (.int p.1)),vO (some (.int p.2)),none,vO (some (cst (some z.1)))]) (by
     simp_arith[o8,i1,kh];try rfl) ⟨_,_,_,rfl⟩
  ·rintro ρ ⟨o4,o5,o7,rfl⟩;rw[ze,yo,uc];exact⟨o4,o5,o7,rfl⟩
 ·rintro ρ ⟨o4,o5,o7,rfl⟩;have az:Pl 16 (.lst (K.map pD)):=Wb (n:=15) λ d hd=>by
   obtain⟨p,_,rfl⟩:=zJ.mp hd;exact lT (n:=14) p
  have ad:=We az;have ii:=Wd az;have uh:(K.map pD).length<1000:=by rw[ze];exact ue
  refine wp_step (ρ':=[some (.val (Bg m rs L A K)),some (.val (Ac m rs)),some (.val (.lst ((zD m).map λ i=>OD (Rf i)))),some (.own (K.map pD)),vO o4,vO o5,some (.own (K.map pD)),vO o7]) (by simp_arith[hs,hk];try rfl) ?_;refine wp_step (ρ':=[some (.val (Bg m rs L A K)),some (.val (Ac m rs)),some (.val (.lst ((zD m).map λ i=>OD (Rf i)))),some (.own (K.map pD)),vO o4,vO o5,some (.own (K.map pD)),vO o7]) (by simp_arith[ad,DF];try rfl) ?_;refine wp_step (ρ':=[some (.val (Bg m rs L A K)),some (.val (Ac m rs)),some (.val (.lst ((zD m).map λ i=>OD (Rf i)))),some (.own (K.map pD)),vO o4,vO o5,some (.own (K.map pD++[pD (0,0)])),vO o7]) (by simp_arith[if_pos uh];try rfl) ?_;simp_arith[hs,hk,ii];rfl
noncomputable def Io:List D->M OT:=zl FQ
theorem OZ:Txt K mg->CO P w K mg base "_law_right" 4 2 Io:=(zb FQ).1
theorem P5:∀(m:Nat) (rs:List Road) (L:List Int) (A:LA) (K:List (Int×Int)),Fd m rs L A K->K.Pairwise Lp->m<=7->Io [Bg m rs L A K,Ac m rs]=.ok (.sh (.bl true)):=(zb FQ).2
theorem Se:∃F:List D->M D,(∀ {P w K mg base f fd},Txt K mg->V9 K "law" "law" FX f fd->CV P w K mg base Y8 8 f fd ["_law_script"] (Rt K 1 F))/\(∀ns:List Int,ns.length<=63->(∀n∈ns,Sm n)->F [.lst (ns.map D.int)]=.ok (.bl true)):=by
 refine⟨_,fun {P w K mg base f fd} T F=>kT (k:=7) F Mf _ (λ B1 A outer s H E hr=>(A4 (IM (NB:=["_law_cell"]) 1 [none] Mf.nd rfl (zY rfl) rfl (AV (Ar (J3 (A1 0 (pv 0)) Og (IJ A5)))) rfl rfl (Bm 0 (by decide) rfl rfl rfl) (λ _ _ _ _=>Ef) (λ _ _ _ _=>(BM (A1 0 (pv 0)) (Ob A5 A5)))) (A4 (AJ 2 Mf.nd rfl (zY rfl) (Ar (Gm (Ak (Fm rfl).toXCall (Sb T) (hr.mono (by decide)) rfl (A2 (A1 1 (pv 1)) (A2 A5 A8)) rfl)))) (A4 (AJ 3 Mf.nd rfl (zY rfl) (Ar (Gm (Ak (Fm rfl).toXCall (OU T) (hr.mono (by decide)) rfl (A2 (Ad (AW hr 16 (by decide)) (A1 2 (pv 2)) A5) (A2 (Ww rfl rfl T.ZW (A1 1 (pv 1))) A8)) rfl)))) (A4 (Cw PassesOwn.never rfl (AV (Oc (A2 (A1 3 (pv 3)) (A2 (fE (A1 3 (pv 3)) (eY A5)) (A2 Gf A8))))) (B5 4 Mf.nd rfl (zY rfl)) (A7 (B7 (BO (Bs (c:=true) (Ar (Gm (Ak (Fm rfl).toXCall (OZ T) (hr.mono (by decide)) rfl (A2 (Ar (YX (Fm rfl).toXCall (Ij T).tE (hr.mono (by decide)) rfl (A2 (AS (A2 (Ad (AW hr 16 (by decide)) (A1 2 (pv 2)) A5) (A2 (Ar (KJ rfl T.EA (Ad (AW hr 16 (by decide)) (A1 2 (pv 2)) A5))) A8))) (A2 (A1 4 (pv 4)) A8)) rfl)) (A2 (A1 2 (pv 2)) A8)) rfl))))) (A7 (W3 (Rm BK))) Au))) (A7 (W3 (Rm BK)))))))),?_⟩;intro ns dh cN;have e0:AH ["_law_script","_law_cells","_law_land","_law_order_here","_law_line"] [.lst (ns.map D.int)]=[some (.val (.lst (ns.map D.int))),none,none,none,none]:=rfl;rw[e0];refine lI ?_;obtain⟨T,jj,hT⟩:∃T:Int,0<T/\Py (.int 10) (.int 60)=.ok (.int T):=⟨10^60,by decide,rfl⟩;have s1:Wx none (some 25) (.lst (ns.map D.int))=.ok (.lst (((ns.take 25).map D.int).map .sh)):=by rw[List.map_take];exact Q4 _ 25
 have ui:((ns.take 25).map D.int).length<=1000:=by rw[ze,yF];omega
 obtain⟨m,rs,cm,b8,fc,Ao,hF⟩:=Sd ((ns.take 25).map λ c=>c%T) (by rw[ze,yF];omega) (λ c hc=>by obtain⟨x,_,rfl⟩:=zJ.mp hc;exact yC _ (by omega));apply wp_step
 ·simp_arith[s1,if_pos ui];rw[DJ (λ c=>D.int (c%T)) (λ c hc=>⟨_,rfl,rfl,by simp_arith[hT,Bw jj]⟩)];simp_arith[];rfl
 have e1:((ns.take 25).map λ c=>D.int (c%T))=((ns.take 25).map λ c=>c%T).map D.int:=by rw[ym];rfl
 rw[e1];apply wp_step
 ·simp_arith[hF];rfl
 have n0:Bd (Ac m rs) (.int 0)=.ok (.int m):=rfl;obtain⟨L,hL,uj⟩:=OV m ((ns.take 25).map λ c=>c%T).sum (by omega);have ke:L.reverse.Perm (Ay m):=(List.reverse_perm L).trans hL;have uk:∀r∈rs,Gu m r/\r.a≠r.b:=λ r hr=>(Ao r hr).rF;have ul:fD (.lst (L.map D.int)) (.int (-1))=.ok (.lst (L.reverse.map D.int)):=by rw[List.map_reverse];rfl
 have n1:Bd (Ac m rs) (.int 1)=.ok (.lst (rs.map FW)):=rfl;have um:=Zd m rs;have nd:D.tup [.int m,.lst (rs.map FW)]=Ac m rs:=rfl;have go:∀(o:D) (M:List Int),M.Perm (Ay m)->(o=.lst (M.map D.int)\/(o=.AD/\M=QU m (Bk rs) (Ay m)))->∃(A:LA) (K:List (Int×Int)) (t:OT),WD (CM (.ins "Ladder" [] []) [Ac m rs,o])=.ok t/\er t=Bg m rs M A K/\Io [Bg m rs M A K,Ac m rs]=.ok (.sh (.bl true)):=λ o M hM ho=>by
  obtain⟨A,K,ok,oy,t,hI,hE⟩:=Ik m rs o M cm (by omega) (by omega) Ao hM ho;exact⟨A,K,t,by rw[hI];rfl,hE,P5 m rs M A K ok oy b8⟩
 apply wp_step
 ·simp_arith[n0,uj];rfl
 try simp only[zF,zw]
 refine BP (I:=λ ρ=>∃s4,ρ=[some (.val (.lst (ns.map D.int))),some (.val (.lst (((ns.take 25).map λ c=>c%T).map D.int))),some (.val (Ac m rs)),some (.val (.lst (L.map D.int))),s4]) ?_ ?_
 ·simp_arith[ul];refine CC (λ i ρ=>∃s4,ρ=[some (.val (.lst (ns.map D.int))),some (.val (.lst (((ns.take 25).map λ c=>c%T).map D.int))),some (.val (Ac m rs)),some (.val (.lst (L.map D.int))),s4]) ⟨none,rfl⟩ ?_ ?_
  ·rintro i d ρ hd ⟨s4,rfl⟩;obtain⟨M,hM,ho⟩:∃M:List Int,M.Perm (Ay m)/\(d=.lst (M.map D.int)\/(d=.AD/\M=QU m (Bk rs) (Ay m))):=by
    rcases i with _|_|_|i
    ·cases hd;exact⟨L,hL,.inl rfl⟩
    ·cases hd;exact⟨L.reverse,ke,.inl rfl⟩
    ·cases hd;exact⟨_,Qm m _ _ (DM m),.inr ⟨rfl,rfl⟩⟩
    ·cases hd
   obtain⟨A,K,t,g1,g2,g3⟩:=go d M hM ho;refine⟨_,rfl,?_⟩;refine Bv (ρ':=[some (.val (.lst (ns.map D.int))),some (.val (.lst (((ns.take 25).map λ c=>c%T).map D.int))),some (.val (Ac m rs)),some (.val (.lst (L.map D.int))),some (.val d)]) (by simp_arith[n0,n1,nd,um,g1,g2,g3,DF];try rfl) ⟨_,rfl⟩
  ·rintro ρ ⟨s4,rfl⟩;exact⟨s4,rfl⟩
 ·rintro ρ ⟨s4,rfl⟩;rfl
noncomputable def Xw:List D->M D:=zl Se
theorem iH {P w K mg base f fd}:Txt K mg->V9 K "law" "law" FX f fd->CV P w K mg base Y8 8 f fd ["_law_script"] (Rt K 1 Xw):=(zb Se).1
theorem iI:∀ns:List Int,ns.length<=63->(∀n∈ns,Sm n)->Xw [.lst (ns.map D.int)]=.ok (.bl true):=(zb Se).2
theorem all_mk {l:PySem.W.OpenLaw}{w:World}{K:za}{h:Heap}{mg:Str->Option Value}{fa:Addr}(X:K.In h)(G:h.Ns mainGlobals mg)(uo:mg "law" = some (.ref fa))
 {ac:Addr} {kr:Addr} {oY fg:Option Addr} {oZ:Array (Option Value)} {pc fj fm fv cF f6:Value} {cG:Addr} {to22:Value} {pd:Option Addr} {pe:Nat} {pf:Array (Option Value)} {ph:Addr} {pi jm:Option Addr} {pj:Array (Option Value)} {pk jn jo jp f7 jq:Value} {bF:Addr} {bG:Addr} {aV:Addr}
 (ae:zc K mainGlobals "Ladder" = some (some (.ref ac))) (aF:xj K ac Str.empty=true) (aG:PySem.W.hasDictIn K ac=true) (aH:PySem.W.plainOver K ac=true) (aI:zi K (.ref ac) "__setattr__" = some (some (.builtin "object.__setattr__"))) (aJ:PySem.W.makesIn K ac=true) (aK:zN K (.ref ac)=true)
 (p1:FP K "is_whole_below" CK)
 (p2:FP K "is_measure" Fw)
 (p3:FP K "is_road" JR)
 (p4:FP K "is_map" M9)
 (p5:FP K "checked" JT)
 (p6:FP K "added" OI)
 (p7:FP K "least" OJ)
 (p8:FP K "road_cost" Gx)
 (p9:FP K "cost_so_far" Eu)
 (pq:FP K "lay" Xl)
 (pw:FP K "lay_over" HZ)
 (pz:FP K "laid_arcs" Gy)
 (p0:FP K "is_order" I0)
 (pA:FP K "checked_order" CZ)
 (pB:FP K "first_bows" Fx)
 (pC:FP K "missing_bows" DU)
 (pE:FP K "lightest" I9)
 (pF:FP K "ranked" Mb)
 (pG:FP K "costs_from" Fy)
 (pH:FP K "order_or_ranked" Cf)
 (pI:FP K "kept_arcs" Gz)
 (pJ:MP K ac "order" "Ladder.order" DV)
 (pK:MP K ac "arcs" "Ladder.arcs" Ex)
 (pL:MP K ac "checked_arc" "Ladder.checked_arc" BF)
 (pM:MP K ac "cost" "Ladder.cost" Ey)
 (pN:MP K ac "kept" "Ladder.kept" Ez)
 (pO:FP K "_law_mixed" GA)
 (pQ:FP K "_law_road" Ic)
 (pR:FP K "_law_map" JV)
 (pS:FP K "_law_order" GB)
 (pT:FP K "_law_least" GC)
 (pU:FP K "_law_costs" GD)
 (pV:FP K "_law_cost" Ie)
 (pW:FP K "_law_right" GF)
 (pX:zi K (.ref ac) "__init__" = some (some (.ref kr))) (pY:xk K (.ref kr)=true)
 (pZ:K.lookup kr=some ⟨pc,oY,.func (zP "__init__" "Ladder.__init__" (AI Aj) (As Aj) (A3 Aj) (.ref cG) fj fm fv fg cF f6),oZ⟩) (qd:yb K cF "Ladder.__init__" = true) (qe:zN K (.ref kr)=true)
 (cH:K.lookup cG=some ⟨to22,pd,.seq #[.none] pe,pf⟩)
 (kt:zc K mainGlobals "law" = some (some (.ref ph)))
 (qg:K.lookup ph=some ⟨pk,pi,.func (zP "law" "law" (AI FX) (As FX) (A3 FX) .none jn jo jp jm f7 jq),pj⟩) (qh:yb K f7 "law" = true) (qj:zN K (.ref ph)=true)
 (z1:zc K mainGlobals "all" = some none)
 (z2:zc K mainGlobals "bool" = some none)
 (z3:zc K mainGlobals "enumerate" = some none)
 (z4:zc K mainGlobals "int" = some none)
 (z5:zc K mainGlobals "isinstance" = some none)
 (z6:zc K mainGlobals "len" = some none)
 (z7:zc K mainGlobals "list" = some none)
 (z8:zc K mainGlobals "min" = some none)
 (z9:zc K mainGlobals "range" = some none)
 (qk:zc K mainGlobals "sorted" = some none)
 (qm:zc K mainGlobals "sum" = some none)
 (qo:zc K mainGlobals "tuple" = some none)
 (aO:zc K mainGlobals "NoArc" = some (some (.ref bF)))
 (aP:zc K mainGlobals "NoMap" = some (some (.ref bG)))
 (a7:zc K mainGlobals "NoOrder" = some (some (.ref aV)))
 (ba:yD K bF [.type "ValueError",.type "Exception",.type "BaseException",.type "object"] "ValueError.__new__" = true)
 (bc:yD K bG [.type "ValueError",.type "Exception",.type "BaseException",.type "object"] "ValueError.__new__" = true)
 (aL:yD K aV [.type "ValueError",.type "Exception",.type "BaseException",.type "object"] "ValueError.__new__" = true)
 (ak:zi K (.ref ac) "kept_ones" = some none)
 (ar:zi K (.ref ac) "laid" = some none)
 (ao:zi K (.ref ac) "own_map" = some none)
 (al:zi K (.ref ac) "own_order" = some none):
 ∃fd:FuncData,(∀(s:Shared) (v:Value),BindsTo s fd ⟨[v],[]⟩ [("_law_script",v)])/\∀base:Heap,K.In base->base.Ns mainGlobals mg->CV l.prog w K mg base Y8 8 fa fd ["_law_script"] (Rt K 1 Xw):=by
 have e:=uo.symm.trans (PySem.W.mg_of X G kt);cases e;have ai:TC K ac:=⟨aF,aG,aH,aI⟩;have up:=YZ (st:=Aj) pZ qd qe;have uq:Binds K (zP "__init__" "Ladder.__init__" (AI Aj) (As Aj) (A3 Aj) (.ref cG) fj fm fv fg cF f6) ["self","net","order"] []:=λ s us hK hl=>by
  have aQ:us.length=3:=by simpa using hl
  match us,aQ with
  |[_,_,_],_=>exact PySem.W.binds_K hK rfl cH rfl rfl rfl
 have ur:Binds K (zP "__init__" "Ladder.__init__" (AI Aj) (As Aj) (A3 Aj) (.ref cG) fj fm fv fg cF f6) ["self","net","order"] [.none]:=λ s us hK hl=>by
  have aQ:us.length=2:=by simpa using hl
  match us,aQ with
  |[_,_],_=>exact PySem.W.binds_K hK rfl cH rfl rfl rfl
 have ut:RG K mg "Ladder" "Ladder.__init__" Aj ["self","net","order"]:=⟨_,_,_,⟨ae,PySem.W.mg_of X G ae⟩,⟨aJ,pX,pY,aK⟩,up,uq,ur⟩;have qp:=Ri (st:=FX) qg qh qj;have uu:AX K mg "law" FX ["_law_script"]:=⟨_,_,qp,PySem.W.mg_of X G kt,qp.binds λ _ _ _ _ _ _ us hl=>match us,hl with|[_],_=>rfl⟩;have T:Txt K mg:=⟨Be X G p1,Be X G p2,Be X G p3,Be X G p4,Be X G p5,Be X G p6,Be X G p7,Be X G p8,Be X G p9,Be X G pq,Be X G pw,Be X G pz,Be X G p0,Be X G pA,Be X G pB,Be X G pC,Be X G pE,Be X G pF,Be X G pG,Be X G pH,Be X G pI,ut,Qa ae ai pJ,Qa ae ai pK,Qa ae ai pL,Qa ae ai pM,Qa ae ai pN,Be X G pO,Be X G pQ,Be X G pR,Be X G pS,Be X G pT,Be X G pU,Be X G pV,Be X G pW,uu,zZ X G z1,zZ X G z2,zZ X G z3,zZ X G z4,zZ X G z5,zZ X G z6,zZ X G z7,zZ X G z8,zZ X G z9,zZ X G qk,zZ X G qm,zZ X G qo,⟨_,aO,PySem.W.mg_of X G aO,ba⟩,⟨_,aP,PySem.W.mg_of X G aP,bc⟩,⟨_,a7,PySem.W.mg_of X G a7,aL⟩,⟨_,ae,ai,ak⟩,⟨_,ae,ai,ar⟩,⟨_,ae,ai,ao⟩,⟨_,ae,ai,al⟩⟩;refine⟨zP "law" "law" (AI FX) (As FX) (A3 FX) .none jn jo jp jm f7 jq,λ s v=>.of_eq rfl,λ base _ _=>?_⟩;exact iH T qp
set_option maxHeartbeats 0 in
set_option maxHeartbeats 0 in
set_option maxHeartbeats 0 in
set_option maxHeartbeats 0 in
theorem left (w:World):(PySem.W.openEnds treeTable PySem.Challenge.pw_nodeladder_k33_kept_are_least w 6100).map (λ s=>PySem.W.openSeen (Cp PySem.Challenge.pw_nodeladder_k33_kept_are_least) [] (importedModules PySem.Challenge.pw_nodeladder_k33_kept_are_least.main.body) (λ s=>PySem.W.xlAt (Cp PySem.Challenge.pw_nodeladder_k33_kept_are_least) [] s&&PySem.W.recOk [] s) true s)=some (PySem.W.openGood (Cp PySem.Challenge.pw_nodeladder_k33_kept_are_least) []):=by
 rw[SS,gD,PySem.W.Fast.te4187177175401517315,PySem.W.Fast.te5923862056798008813,PySem.W.Fast.te15378293248588618353];exact Ov (iT w) (Ov (iU w) (Ov (iV w) (iW w)))
set_option maxHeartbeats 0 in
theorem iJ (w:World):Vf (Kp R0 PySem.Challenge.pw_nodeladder_k33_kept_are_least w) PySem.Challenge.pw_nodeladder_k33_kept_are_least:=by
 rw[gD,PySem.W.Fast.te15378293248588618353];exact XB w
set_option maxHeartbeats 0 in
theorem iK (w:World):Vg (Kp R0 PySem.Challenge.pw_nodeladder_k33_kept_are_least w) PySem.Challenge.pw_nodeladder_k33_kept_are_least:=by
 rw[gD,PySem.W.Fast.te15378293248588618353];exact XC w
theorem walk {l:PySem.W.OpenLaw}{q:Program}{loose:List Str}{XP:(Str->Option Value)->Heap->Prop}{YP:World->Heap->Prop}{d:DefRec}{K:World->za}(hn:l.most=some 63)(d7:d.params.defaults=[])
 (hY:∀(w:World) (h:Heap),YP w h->(K w).In h)
 (F:∀(w:World) (mg:Str->Option Value) (fa:Addr) (h:Heap),(K w).In h->h.Ns mainGlobals mg->mg d.name=some (.ref fa)->
  ∃fd:FuncData,(∀(s:Shared) (u:Value),BindsTo s fd ⟨[u],[]⟩ [("_law_script",u)])/\∀base:Heap,(K w).In base->base.Ns mainGlobals mg->CV l.prog w (K w) mg base Y8 8 fa fd ["_law_script"] (Rt (K w) 1 Xw)):
 PySem.W.WalkO q loose XP YP l.row.toRowW d [] (λ f vs=>PySem.call f vs):=
 L2.lL (n:=63) (k:=8) (x := "_law_script") (CX:=λ _=>Y8) (sp:=λ w=>Rt (K w) 1 Xw) hn (by decide) d7 ⟨rfl,by decide,by decide⟩ hY F (λ w H a ns cN hl _ hS=>YA iI (K w) H a ns cN hl hS) λ _ _ _ _ _ z=>z
end c5
open PySem PySem.W PyProof.Rows L2
set_option maxRecDepth 100000 in
set_option maxHeartbeats 0 in
theorem PySem.Challenge.cw_nodeladder_k33_kept_are_least_holds : PySem.Challenge.rw_nodeladder_k33_kept_are_least.Holds := by
 w_on;o_law
 refine holds_open (q:=Cp PySem.Challenge.pw_nodeladder_k33_kept_are_least) (loose:=[]) (Xt:=λ s=>xlAt (Cp PySem.Challenge.pw_nodeladder_k33_kept_are_least) [] s&&recOk [] s) (XP:=XL (Cp PySem.Challenge.pw_nodeladder_k33_kept_are_least) []) (Yf:=λ s=>s.heap) (Ya:=λ w=>Ve R0 PySem.Challenge.pw_nodeladder_k33_kept_are_least w 6100) (YP:=λ w h=>lK (Ve R0 PySem.Challenge.pw_nodeladder_k33_kept_are_least w 6100) h) (N:=6100) (Z0 c5.left) (λ w s e b o q=>by rw[<-e] at q;exact q) (λ w h h' a b c o q=>b c o (a c o q)) (λ s e=>xl_of s (Bool.and_eq_true_iff.mp e).1) XL.keeps (by rfl) (by rfl) (by rfl) (λ s e=>recFacts_of (Bool.and_eq_true_iff.mp e).2) (by rfl) (by first|assumption|decide +kernel) (by decide +kernel) ⟨rfl,rfl,rfl,rfl,rfl,by decide +kernel⟩ ?hw ?hc;case hw=>w_witness2
 case hc =>
  refine c5.walk (l:=PySem.Challenge.rw_nodeladder_k33_kept_are_least) (K:=c5.Kp R0 PySem.Challenge.pw_nodeladder_k33_kept_are_least) rfl rfl (λ w h Y=>gE Y) ?F;intro w mg fa h KX G d8;obtain⟨ae,aF,aG,aH,aI,aJ,aK,p1,p2,p3,p4,p5,p6,p7,p8,p9,pq,pw,pz,p0,pA,pB,pC,pE,pF,pG,pH,pI,pJ,pK,pL,pM,pN,pO,pQ,pR,pS⟩:=c5.iJ w;obtain⟨pT,pU,pV,pW,pX,pY,pZ,qd,qe,cH,kt,qg,qh,qj,z1,z2,z3,z4,z5,z6,z7,z8,z9,qk,qm,qo,aO,aP,a7,ba,bc,aL,ak,ar,ao,al⟩:=c5.iK w;exact c5.all_mk KX G d8 ae aF aG aH aI aJ aK p1 p2 p3 p4 p5 p6 p7 p8 p9 pq pw pz p0 pA pB pC pE pF pG pH pI pJ pK pL pM pN pO pQ pR pS pT pU pV pW pX pY pZ qd qe cH kt qg qh qj z1 z2 z3 z4 z5 z6 z7 z8 z9 qk qm qo aO aP a7 ba bc aL ak ar ao al
