import PyProof.Rows.All
import Wide.All
import OpenK.AllK
import Wide.FinOn
import Lean
import PyProof.EqAt
import PyProof.EqKinds
import PyProof.TupleCall
import PyProof.NeKinds
import KE.KRevSl
import KE.KIsAll
import PyProof.ExcArgsOwn
import PyProof.ExcAttrAll.ValueError
import PyProof.ExcBaseAll.ValueError
import PyProof.FitsBits
import KE.LcSums
import KE.KRevIter
import PyProof.ListRange
import PyProof.Rows.SumAny
import PyProof.Rows.SortWalk
import PyProof.AttrMissHeap
import KE.KDictOf
import PyProof.ZipIter
import PyProof.DictWalks
import KE.KDictList
import KE.KFind
import KE.KDictSum
import KE.KSortTup
import PySem.Challenge.RW_nodeladder_k31_ladder_told
set_option Elab.async false
set_option linter.all false
set_option maxRecDepth 1000000
open PySem.W renaming Frag→za,nsIn→zd,findIn→zl,fnOf→zT,keepIn→zV,mg_none_of→yb,codeIn→yh,emptyDict→yy,hideAll_get→yK,excIn→yO,kia_one→yX,instObj→yY,plainGet→xv,isFn→xw
open Classical renaming choose_spec→zb,choose→zo,propDecidable→yE
open List renaming mem_cons_self→zc,length_map→ze,mem_cons_of_mem→zf,getElem?_eq_getElem→zg,map_cons→zh,size_toArray→zj,mem_append_right→zm,length_cons→zp,mem_cons→zq,mem_of_getElem?→zr,mem_singleton→zu,getElem?_map→zw,set_cons_succ→zy,getD_eq_getElem?_getD→zC,replicate→zD,getElem?_eq_some_iff→zE,set_cons_zero→zH,mem_map→zJ,mem_append→zL,length_append→zM,nodup_append→zN,mem_append_left→zO,getElem?_cons_succ→zP,range→zR,foldl_cons→zU,append_nil→zX,getElem?_set_self→zZ,map_append→ya,nodup_cons→yf,getElem?_eq_none→yg,map_map→yj,append_assoc→yn,pairwise_cons→yo,mem_filter→yv,mem_of_mem_take→yw,getElem?_set_ne→yx,take_of_length_le→y6,replicate_succ→y8,nodup_nil→yA,getElem?_append_left→yB,length_singleton→yC,take_length→yF,getElem?_cons_zero→yJ,length_set→yL,getElem?_range→yM,drop_length→yP,cons_append→yQ,take_add_one→xb,lookup_cons→xh,length_take→xi,all_eq_true→xj,mem_range→xk,drop_zero→xl,find?_cons→xp,any_cons→xr,all_cons→xt,getElem?_append_right→xu,length_drop→xy
open PySem.Heap renaming get?_push_of_some→zi,lt_size→zt,get?_push_size→zA,get?_update_self→yT,SameBut→xg,get?_update_other→xm
open Nat renaming le_refl→zv,ne_of_lt→zB,lt_of_lt_of_le→zG,zero_le→zQ,le_of_lt→yd,le_trans→yk
open Option.some renaming inj→z0
open Bool renaming false_eq_true→zF,false_ne_true→zI,and_eq_true→zW,eq_iff_iff→xf
open PySem.Value renaming ref→zK,none→y7
open Prod renaming fst→zS,snd→yz
open PySem.F renaming plain_min_loop→zY,plainAttrs_list→yG
open Ne renaming symm→yc
open Or renaming inl→ye
open Array renaming getElem?_eq_getElem→yi,getD_eq_getD_getElem?→ym,length_toList→yp,getElem?_toList→yS
open PySem.Builtin.Int renaming intBits→yl
open PyProof.Rows renaming callWith_type1→yq,callWith_builtin1→yU
open PySem.Obj renaming mapSeq→yr
open Option renaming map_some→yt,isSome_iff_exists→yZ
open PySem.Around renaming under_plainId→yu
open Int renaming toNat_natCast→y9,emod_nonneg→yN,emod_lt_of_pos→yV
open False renaming elim→yD
open PySem.W.Fast renaming tw5923862056798008813→yH,tw4187177175401517315→yI
open PySem.Calls renaming spliced_cons→yR,spliced_nil→xa
open PySem.Heap.SameBut renaming update→yW
open PySem.Builtin.Builtins renaming bindParams→xc
open PySem.NameKind renaming free→xn
open PySem.Builtin.List renaming listTooLong→xq
open PySem renaming mem_of_lookup→xx
open ForInStep renaming yield→x3
section
set_option maxHeartbeats 0
namespace L2
open PySem PySem.Spec PyProof.Rows PySem.W PySem.Calls
noncomputable def inClass (s:Stmt)(j:Nat):Stmt:=match s with
 | .ClassDef _ _ _ body _ _ _ _ _ _ _=>body.getD j (.Pass ⟨0,0,0,0⟩)
 |_=>.Pass ⟨0,0,0,0⟩
noncomputable def AL (s:Stmt):Arguments:=match s with
 | .FunctionDef _ a _ _ _ _ _ _ _ _=>a
 |_=>{posonlyargs:=[],args:=[],vararg:=none,kwonlyargs:=[],kw_defaults:=[],kwarg:=none,defaults:=[]}
noncomputable def Az (s:Stmt):List Stmt:=match s with
 | .FunctionDef _ _ b _ _ _ _ _ _ _=>b
 |_=>[]
noncomputable def A5 (s:Stmt):Scope:=match s with
 | .FunctionDef _ _ _ _ _ _ sc _ _ _=>sc
 |_=>{kind:=.function,names:=[],isGenerator:=false,isCoroutine:=false}
structure FP (K:za)(x:Str)(st:Stmt):Prop where
 ex:∃(f:Addr) (oc:Value) (od an:Option Addr) (sl:Array (Option Value)) (kV dc pm cd ct:Value),zd K mainGlobals x=some (some (.ref f))/\K.lookup f=some ⟨oc,od,.func (zT x x (AL st) (Az st) (A5 st) .none kV dc pm an cd ct),sl⟩/\yh K cd x=true/\zV K (.ref f)=true
theorem kS {K:za}{x:Str}{st:Stmt}{f:Addr}{oc:Value}{od an:Option Addr}{sl:Array (Option Value)}{kV dc pm cd ct:Value}(a:zd K mainGlobals x=some (some (.ref f)))(l:K.lookup f=some ⟨oc,od,.func (zT x x (AL st) (Az st) (A5 st) .none kV dc pm an cd ct),sl⟩)(c:yh K cd x=true)(k:zV K (.ref f)=true):FP K x st:=⟨⟨f,oc,od,an,sl,kV,dc,pm,cd,ct,a,l,c,k⟩⟩
structure MP (K:za)(C:Addr)(m qual:Str)(st:Stmt):Prop where
 ex:∃(f:Addr) (oc:Value) (od an:Option Addr) (sl:Array (Option Value)) (kV dc pm cd ct:Value),zl K (.ref C) m=some (some (.ref f))/\xw K (.ref f)=true/\K.lookup f=some ⟨oc,od,.func (zT m qual (AL st) (Az st) (A5 st) .none kV dc pm an cd ct),sl⟩/\yh K cd qual=true/\zV K (.ref f)=true
theorem kT {K:za}{C:Addr}{m qual:Str}{st:Stmt}{f:Addr}{oc:Value}{od an:Option Addr}{sl:Array (Option Value)}{kV dc pm cd ct:Value}(a:zl K (.ref C) m=some (some (.ref f)))(i:xw K (.ref f)=true)(l:K.lookup f=some ⟨oc,od,.func (zT m qual (AL st) (Az st) (A5 st) .none kV dc pm an cd ct),sl⟩)(c:yh K cd qual=true)(k:zV K (.ref f)=true):MP K C m qual st:=⟨⟨f,oc,od,an,sl,kV,dc,pm,cd,ct,a,i,l,c,k⟩⟩
noncomputable def CH (p:Program):Program:={p with main:={p.main with body:=p.main.body.filter λ s=>match s with | .FunctionDef .. =>true | .ClassDef .. =>true | _=>false} }
structure Rn where
 run:(String->Option Builtin)->Program->World->Nat->Option Value->Nat->Shared->Thread->Option Shared
 ns:Heap->Addr->Str->Option Value
 imp:(String->Option Builtin)->Program->World->Nat->Shared->Thread->Option Shared
 uA:Program->Shared->Option Shared
 st:Program->Shared×Thread
 tb:String->Option Builtin
noncomputable def Lx (R:Rn)(p:Program)(w:World)(N:Nat):Option Shared:=
 ((R.imp R.tb (opening p) w N (R.st (opening p)).fst (R.st (opening p)).snd).bind (R.uA p)).bind λ s₀ =>
 match s₀.heap.isNs mainGlobals&&s₀.gens.size==0 with
 |true=>(R.run R.tb p w s₀.heap.objs.size (R.ns s₀.heap mainGlobals (Str.ofString "__annotations__")) N s₀ (topStub p)).bind λ s₁ =>
  match staticsOk (importedModules p.main.body) s₀.heap s₁.heap&&namesBound p s₁.heap&&gensDone s₁&&laidKept s₀.heap s₁.heap with
  |true=>some s₁
  |false=>none
 |false=>none
noncomputable def R1:Rn:=⟨PySem.W.Fast.tw14082659384304107361,PySem.W.Fast.tw8920871248978507458,PySem.W.Fast.tw10274390034422433532,PySem.W.Fast.tw14289696077712309145,PySem.W.Fast.tw1435165496053646825,PySem.W.Fast.tw14364793385576792824⟩
noncomputable def Wa (R:Rn)(p:Program)(w:World)(N:Nat):Heap:=match Lx R p w N with | some s=>s.heap | none=>⟨#[],default⟩
noncomputable def oR (h:Heap)(as:List Addr):za:=as.filterMap λ a=>(h.get? a).map λ o=>(a,o)
noncomputable def B1 (v:Option (Option Value)):Addr:=match v with | some (some (.ref f))=>f | _=>0
noncomputable def Dp (K:za)(f:Addr):Obj:=(K.lookup f).getD ⟨.none,none,.plain,#[]⟩
noncomputable def Hj (d:Data)(st:Stmt):FuncData:=match d with | .func fd=>fd | _=>zT Str.empty Str.empty (AL st) [] (A5 st) .none .none .none .none none .none .none
noncomputable def Uw (v:Value):Addr:=match v with | .ref a=>a | _=>0
noncomputable def pJ (d:Data):Nat:=match d with | .seq _ n=>n | _=>0
theorem AF {K:za}{x:Str}{st:Stmt}(a:zd K mainGlobals x=some (some (.ref (B1 (zd K mainGlobals x)))):=by kernel_rfl)
 (l:K.lookup (B1 (zd K mainGlobals x))=some ⟨(Dp K (B1 (zd K mainGlobals x))).cls,(Dp K (B1 (zd K mainGlobals x))).dict,.func (zT x x (AL st) (Az st) (A5 st) .none (Hj (Dp K (B1 (zd K mainGlobals x))).data st).kwdefaults (Hj (Dp K (B1 (zd K mainGlobals x))).data st).doc (Hj (Dp K (B1 (zd K mainGlobals x))).data st).pyModule (Hj (Dp K (B1 (zd K mainGlobals x))).data st).annotations (Hj (Dp K (B1 (zd K mainGlobals x))).data st).code (Hj (Dp K (B1 (zd K mainGlobals x))).data st).closureTuple),(Dp K (B1 (zd K mainGlobals x))).slots⟩:=by kernel_rfl)
 (c:yh K (Hj (Dp K (B1 (zd K mainGlobals x))).data st).code x=true:=by kernel_rfl) (k:zV K (.ref (B1 (zd K mainGlobals x)))=true:=by kernel_rfl):FP K x st:=kS a l c k
theorem Hk {K:za}{C:Addr}{m qual:Str}{st:Stmt}(a:zl K (.ref C) m=some (some (.ref (B1 (zl K (.ref C) m)))):=by kernel_rfl)(i:xw K (.ref (B1 (zl K (.ref C) m)))=true:=by kernel_rfl)
 (l:K.lookup (B1 (zl K (.ref C) m))=some ⟨(Dp K (B1 (zl K (.ref C) m))).cls,(Dp K (B1 (zl K (.ref C) m))).dict,.func (zT m qual (AL st) (Az st) (A5 st) .none (Hj (Dp K (B1 (zl K (.ref C) m))).data st).kwdefaults (Hj (Dp K (B1 (zl K (.ref C) m))).data st).doc (Hj (Dp K (B1 (zl K (.ref C) m))).data st).pyModule (Hj (Dp K (B1 (zl K (.ref C) m))).data st).annotations (Hj (Dp K (B1 (zl K (.ref C) m))).data st).code (Hj (Dp K (B1 (zl K (.ref C) m))).data st).closureTuple),(Dp K (B1 (zl K (.ref C) m))).slots⟩:=by kernel_rfl)
 (c:yh K (Hj (Dp K (B1 (zl K (.ref C) m))).data st).code qual=true:=by kernel_rfl) (k:zV K (.ref (B1 (zl K (.ref C) m)))=true:=by kernel_rfl):MP K C m qual st:=kT a i l c k
end L2
namespace cE
open PySem L2
theorem prim:(PySem.W.chainsOk PySem.Challenge.pw_nodeladder_k31_ladder_told||true)=true:=by k_qdec
theorem kU (w:World):(Lx R1 PySem.W.Fast.tw4444772185895850038 w 6100).map (λ s=>(yI (CH PySem.W.Fast.tw4444772185895850038) [] (yH PySem.W.Fast.tw4444772185895850038.main.body) (λ s=>PySem.W.xlAt (CH PySem.W.Fast.tw4444772185895850038) [] s&&PySem.W.recOk [] s) true s).1)=some (PySem.W.openGood (CH PySem.W.Fast.tw4444772185895850038) []).1:=by kernel_rfl
theorem kW (w:World):(Lx R1 PySem.W.Fast.tw4444772185895850038 w 6100).map (λ s=>(yI (CH PySem.W.Fast.tw4444772185895850038) [] (yH PySem.W.Fast.tw4444772185895850038.main.body) (λ s=>PySem.W.xlAt (CH PySem.W.Fast.tw4444772185895850038) [] s&&PySem.W.recOk [] s) true s).2.1)=some (PySem.W.openGood (CH PySem.W.Fast.tw4444772185895850038) []).2.1:=by kernel_rfl
theorem kX (w:World):(Lx R1 PySem.W.Fast.tw4444772185895850038 w 6100).map (λ s=>(yI (CH PySem.W.Fast.tw4444772185895850038) [] (yH PySem.W.Fast.tw4444772185895850038.main.body) (λ s=>PySem.W.xlAt (CH PySem.W.Fast.tw4444772185895850038) [] s&&PySem.W.recOk [] s) true s).2.2.1)=some (PySem.W.openGood (CH PySem.W.Fast.tw4444772185895850038) []).2.2.1:=by kernel_rfl
theorem kY (w:World):(Lx R1 PySem.W.Fast.tw4444772185895850038 w 6100).map (λ s=>(yI (CH PySem.W.Fast.tw4444772185895850038) [] (yH PySem.W.Fast.tw4444772185895850038.main.body) (λ s=>PySem.W.xlAt (CH PySem.W.Fast.tw4444772185895850038) [] s&&PySem.W.recOk [] s) true s).2.2.2)=some (PySem.W.openGood (CH PySem.W.Fast.tw4444772185895850038) []).2.2.2:=by kernel_rfl
noncomputable def topP (p:Program)(i:Nat):Stmt:=p.main.body.getD i (.Pass ⟨0,0,0,0⟩)
noncomputable def Kp (R:Rn)(p:Program)(w:World):za:=oR (Wa R p w 6100) (zR 440)
def Wb (K:za)(p:Program):Prop:=
 (zd K mainGlobals "Ladder" = some (some (.ref (B1 (zd K mainGlobals "Ladder")))))/\
 (xv K (B1 (zd K mainGlobals "Ladder")) Str.empty=true)/\
 (PySem.W.hasDictIn K (B1 (zd K mainGlobals "Ladder"))=true)/\
 (PySem.W.plainOver K (B1 (zd K mainGlobals "Ladder"))=true)/\
 (zl K (.ref (B1 (zd K mainGlobals "Ladder"))) "__setattr__" = some (some (.builtin "object.__setattr__")))/\
 (PySem.W.makesIn K (B1 (zd K mainGlobals "Ladder"))=true)/\
 (zV K (.ref (B1 (zd K mainGlobals "Ladder")))=true)/\
 (FP K "is_whole_below" (topP p 7))/\
 (FP K "is_measure" (topP p 8))/\
 (FP K "is_road" (topP p 9))/\
 (FP K "is_map" (topP p 10))/\
 (FP K "checked" (topP p 11))/\
 (FP K "added" (topP p 12))/\
 (FP K "least" (topP p 13))/\
 (FP K "road_cost" (topP p 14))/\
 (FP K "cost_so_far" (topP p 16))/\
 (FP K "lay" (topP p 17))/\
 (FP K "lay_over" (topP p 18))/\
 (FP K "laid_arcs" (topP p 19))/\
 (FP K "arc_costs" (topP p 20))/\
 (FP K "middles" (topP p 21))/\
 (FP K "is_order" (topP p 23))/\
 (FP K "checked_order" (topP p 24))/\
 (FP K "first_bows" (topP p 25))/\
 (FP K "missing_bows" (topP p 26))/\
 (FP K "lightest" (topP p 27))/\
 (FP K "ranked" (topP p 28))/\
 (FP K "costs_from" (topP p 30))/\
 (FP K "order_or_ranked" (topP p 32))/\
 (FP K "kept_arcs" (topP p 33))/\
 (MP K (B1 (zd K mainGlobals "Ladder")) "told_map" "Ladder.told_map" (inClass (topP p 34) 1))/\
 (MP K (B1 (zd K mainGlobals "Ladder")) "order" "Ladder.order" (inClass (topP p 34) 2))/\
 (MP K (B1 (zd K mainGlobals "Ladder")) "arcs" "Ladder.arcs" (inClass (topP p 34) 3))/\
 (MP K (B1 (zd K mainGlobals "Ladder")) "checked_arc" "Ladder.checked_arc" (inClass (topP p 34) 4))/\
 (MP K (B1 (zd K mainGlobals "Ladder")) "cost" "Ladder.cost" (inClass (topP p 34) 5))/\
 (MP K (B1 (zd K mainGlobals "Ladder")) "middle" "Ladder.middle" (inClass (topP p 34) 6))/\
 (FP K "_law_mixed" (topP p 36))
theorem YH (w:World):Wb (Kp R1 PySem.W.Fast.tw4444772185895850038 w) PySem.W.Fast.tw4444772185895850038:=
 ⟨by kernel_rfl,by kernel_rfl,by kernel_rfl,by kernel_rfl,by kernel_rfl,by kernel_rfl,by kernel_rfl,AF,AF,AF,AF,AF,AF,AF,AF,AF,AF,AF,AF,AF,AF,AF,AF,AF,AF,AF,AF,AF,AF,AF,Hk,Hk,Hk,Hk,Hk,Hk,AF⟩
def Wc (K:za)(p:Program):Prop:=
 (FP K "_law_road" (topP p 37))/\
 (FP K "_law_map" (topP p 38))/\
 (FP K "_law_order" (topP p 39))/\
 (FP K "_law_told" (topP p 40))/\
 (zl K (.ref (B1 (zd K mainGlobals "Ladder"))) "__init__" = some (some (.ref (B1 (zl K (.ref (B1 (zd K mainGlobals "Ladder"))) "__init__")))))/\
 (xw K (.ref (B1 (zl K (.ref (B1 (zd K mainGlobals "Ladder"))) "__init__")))=true)/\
 (K.lookup (B1 (zl K (.ref (B1 (zd K mainGlobals "Ladder"))) "__init__"))=some ⟨(Dp K (B1 (zl K (.ref (B1 (zd K mainGlobals "Ladder"))) "__init__"))).cls,(Dp K (B1 (zl K (.ref (B1 (zd K mainGlobals "Ladder"))) "__init__"))).dict,.func (zT "__init__" "Ladder.__init__" (AL (inClass (topP p 34) 0)) (Az (inClass (topP p 34) 0)) (A5 (inClass (topP p 34) 0)) (.ref (Uw (Hj (Dp K (B1 (zl K (.ref (B1 (zd K mainGlobals "Ladder"))) "__init__"))).data (inClass (topP p 34) 0)).defaults)) (Hj (Dp K (B1 (zl K (.ref (B1 (zd K mainGlobals "Ladder"))) "__init__"))).data (inClass (topP p 34) 0)).kwdefaults (Hj (Dp K (B1 (zl K (.ref (B1 (zd K mainGlobals "Ladder"))) "__init__"))).data (inClass (topP p 34) 0)).doc (Hj (Dp K (B1 (zl K (.ref (B1 (zd K mainGlobals "Ladder"))) "__init__"))).data (inClass (topP p 34) 0)).pyModule (Hj (Dp K (B1 (zl K (.ref (B1 (zd K mainGlobals "Ladder"))) "__init__"))).data (inClass (topP p 34) 0)).annotations (Hj (Dp K (B1 (zl K (.ref (B1 (zd K mainGlobals "Ladder"))) "__init__"))).data (inClass (topP p 34) 0)).code (Hj (Dp K (B1 (zl K (.ref (B1 (zd K mainGlobals "Ladder"))) "__init__"))).data (inClass (topP p 34) 0)).closureTuple),(Dp K (B1 (zl K (.ref (B1 (zd K mainGlobals "Ladder"))) "__init__"))).slots⟩)/\
 (yh K (Hj (Dp K (B1 (zl K (.ref (B1 (zd K mainGlobals "Ladder"))) "__init__"))).data (inClass (topP p 34) 0)).code "Ladder.__init__" = true)/\
 (zV K (.ref (B1 (zl K (.ref (B1 (zd K mainGlobals "Ladder"))) "__init__")))=true)/\
 (K.lookup (Uw (Hj (Dp K (B1 (zl K (.ref (B1 (zd K mainGlobals "Ladder"))) "__init__"))).data (inClass (topP p 34) 0)).defaults)=some ⟨(Dp K (Uw (Hj (Dp K (B1 (zl K (.ref (B1 (zd K mainGlobals "Ladder"))) "__init__"))).data (inClass (topP p 34) 0)).defaults)).cls,(Dp K (Uw (Hj (Dp K (B1 (zl K (.ref (B1 (zd K mainGlobals "Ladder"))) "__init__"))).data (inClass (topP p 34) 0)).defaults)).dict,.seq #[.none] (pJ (Dp K (Uw (Hj (Dp K (B1 (zl K (.ref (B1 (zd K mainGlobals "Ladder"))) "__init__"))).data (inClass (topP p 34) 0)).defaults)).data),(Dp K (Uw (Hj (Dp K (B1 (zl K (.ref (B1 (zd K mainGlobals "Ladder"))) "__init__"))).data (inClass (topP p 34) 0)).defaults)).slots⟩)/\
 (zd K mainGlobals "law" = some (some (.ref (B1 (zd K mainGlobals "law")))))/\
 (K.lookup (B1 (zd K mainGlobals "law"))=some ⟨(Dp K (B1 (zd K mainGlobals "law"))).cls,(Dp K (B1 (zd K mainGlobals "law"))).dict,.func (zT "law" "law" (AL (topP p 41)) (Az (topP p 41)) (A5 (topP p 41)) .none (Hj (Dp K (B1 (zd K mainGlobals "law"))).data (topP p 41)).kwdefaults (Hj (Dp K (B1 (zd K mainGlobals "law"))).data (topP p 41)).doc (Hj (Dp K (B1 (zd K mainGlobals "law"))).data (topP p 41)).pyModule (Hj (Dp K (B1 (zd K mainGlobals "law"))).data (topP p 41)).annotations (Hj (Dp K (B1 (zd K mainGlobals "law"))).data (topP p 41)).code (Hj (Dp K (B1 (zd K mainGlobals "law"))).data (topP p 41)).closureTuple),(Dp K (B1 (zd K mainGlobals "law"))).slots⟩)/\
 (yh K (Hj (Dp K (B1 (zd K mainGlobals "law"))).data (topP p 41)).code "law" = true)/\
 (zV K (.ref (B1 (zd K mainGlobals "law")))=true)/\
 (zd K mainGlobals "all" = some none)/\
 (zd K mainGlobals "bool" = some none)/\
 (zd K mainGlobals "dict" = some none)/\
 (zd K mainGlobals "enumerate" = some none)/\
 (zd K mainGlobals "int" = some none)/\
 (zd K mainGlobals "isinstance" = some none)/\
 (zd K mainGlobals "len" = some none)/\
 (zd K mainGlobals "list" = some none)/\
 (zd K mainGlobals "min" = some none)/\
 (zd K mainGlobals "range" = some none)/\
 (zd K mainGlobals "sorted" = some none)/\
 (zd K mainGlobals "sum" = some none)/\
 (zd K mainGlobals "tuple" = some none)/\
 (zd K mainGlobals "NoArc" = some (some (.ref (B1 (zd K mainGlobals "NoArc")))))/\
 (zd K mainGlobals "NoMap" = some (some (.ref (B1 (zd K mainGlobals "NoMap")))))/\
 (zd K mainGlobals "NoOrder" = some (some (.ref (B1 (zd K mainGlobals "NoOrder")))))/\
 (yO K (B1 (zd K mainGlobals "NoArc")) [.type "ValueError",.type "Exception",.type "BaseException",.type "object"] "ValueError.__new__" = true)/\
 (yO K (B1 (zd K mainGlobals "NoMap")) [.type "ValueError",.type "Exception",.type "BaseException",.type "object"] "ValueError.__new__" = true)/\
 (yO K (B1 (zd K mainGlobals "NoOrder")) [.type "ValueError",.type "Exception",.type "BaseException",.type "object"] "ValueError.__new__" = true)/\
 (zl K (.ref (B1 (zd K mainGlobals "Ladder"))) "kept_ones" = some none)/\
 (zl K (.ref (B1 (zd K mainGlobals "Ladder"))) "laid" = some none)/\
 (zl K (.ref (B1 (zd K mainGlobals "Ladder"))) "own_map" = some none)/\
 (zl K (.ref (B1 (zd K mainGlobals "Ladder"))) "own_order" = some none)
theorem YI (w:World):Wc (Kp R1 PySem.W.Fast.tw4444772185895850038 w) PySem.W.Fast.tw4444772185895850038:=
 ⟨AF,AF,AF,AF,by kernel_rfl,by kernel_rfl,by kernel_rfl,by kernel_rfl,by kernel_rfl,by kernel_rfl,by kernel_rfl,by kernel_rfl,by kernel_rfl,by kernel_rfl,by kernel_rfl,by kernel_rfl,by kernel_rfl,by kernel_rfl,by kernel_rfl,by kernel_rfl,by kernel_rfl,by kernel_rfl,by kernel_rfl,by kernel_rfl,by kernel_rfl,by kernel_rfl,by kernel_rfl,by kernel_rfl,by kernel_rfl,by kernel_rfl,by kernel_rfl,by kernel_rfl,by kernel_rfl,by kernel_rfl,by kernel_rfl,by kernel_rfl,by kernel_rfl⟩
end cE
end
set_option Elab.async false
set_option linter.all false
set_option maxRecDepth 100000
namespace L2
open PySem PySem.Spec PyProof.Rows
noncomputable abbrev Key:=Sum Int Str
noncomputable def Ny:Key->Value->Bool
 | .inl k,v=>Value.isInt k v
 | .inr x,v=>Value.isStrOf x v
noncomputable def pK (w:World):Key->Int
 | .inl k=>hashInt k
 | .inr x=>hashStr w x
theorem Bh:∀ {k:Key}{v:Value},Ny k v=true->(∃i t,k=Sum.inl i/\v=Value.int i t)\/(∃x t,k=Sum.inr x/\v=Value.str x t)
 | .inl i,v,h=>by
  obtain⟨t,e⟩:=Value.isInt_shape (k:=i) (v:=v) h;exact .inl ⟨i,t,rfl,e⟩
 | .inr x,v,h=>by
  obtain⟨t,e⟩:=Value.isStrOf_shape (x:=x) (v:=v) h;exact .inr ⟨x,t,rfl,e⟩
theorem Ux (i:Int)(t:Tok):Ny (.inl i) (.int i t)=true:=by simp[Ny,Value.isInt]
theorem Uy (x:Str)(t:Tok):Ny (.inr x) (.str x t)=true:=by simp[Ny,Value.isStrOf]
theorem eS (a b:Int):decide ((Sum.inl a:Key)=Sum.inl b)=(a==b):=by
 by_cases e:a=b
 ·subst e;simp
 ·have h:¬ (Sum.inl a:Key)=Sum.inl b:=λ q=>e (Sum.inl.inj q);rw[decide_eq_false h];exact (beq_eq_false_iff_ne.mpr e).symm
theorem eT (a b:Str):decide ((Sum.inr a:Key)=Sum.inr b)=decide (a=b):=by
 by_cases e:a=b
 ·subst e;simp
 ·have h:¬ (Sum.inr a:Key)=Sum.inr b:=λ q=>e (Sum.inr.inj q);rw[decide_eq_false h,decide_eq_false e]
theorem eU (a:Int)(b:Str):decide ((Sum.inl a:Key)=Sum.inr b)=false:=decide_eq_false (λ q=>nomatch q)
theorem eV (a:Str)(b:Int):decide ((Sum.inr a:Key)=Sum.inl b)=false:=decide_eq_false (λ q=>nomatch q)
noncomputable def Bi (prog:Program)(w:World):PySem.KeyKind prog w Key where
 is:=Ny
 hash:=pK w
 inj:=λ v a b ha hb=>by
  rcases Bh ha with ⟨i,t,rfl,rfl⟩|⟨x,t,rfl,rfl⟩
  ·rcases Bh hb with ⟨j,u,rfl,e⟩|⟨y,u,rfl,e⟩
   ·injection e with e1 _;rw[e1]
   ·exact nomatch e
  ·rcases Bh hb with ⟨j,u,rfl,e⟩|⟨y,u,rfl,e⟩
   ·exact nomatch e
   ·injection e with e1 _;rw[e1]
 byValue:=λ k v h=>by
  rcases Bh h with ⟨i,t,rfl,rfl⟩|⟨x,t,rfl,rfl⟩<;>rfl
 pyHash:=λ hv h=>by
  rcases Bh hv with ⟨i,t,rfl,rfl⟩|⟨x,t,rfl,rfl⟩
  ·exact wpAny_pyHash_int h
  ·exact wpAny_pyHash_str h
 eqBool:=λ hu hv h=>by
  rcases Bh hu with ⟨i,t,rfl,rfl⟩|⟨x,t,rfl,rfl⟩
  ·rcases Bh hv with ⟨j,u,rfl,rfl⟩|⟨y,u,rfl,rfl⟩
   ·rw[eS] at h;exact wpAny_eqBool_int h
   ·rw[eU] at h;exact SeqAt.EqAt.int_str i t y u _ _ _ _ h
  ·rcases Bh hv with ⟨j,u,rfl,rfl⟩|⟨y,u,rfl,rfl⟩
   ·rw[eV] at h;exact SeqAt.EqAt.str_int x t j u _ _ _ _ h
   ·rw[eT] at h;exact wpAny_eqBool_str h
 «strs»:=λ k x t v h=>by
  rcases Bh h with ⟨i,u,rfl,e⟩|⟨y,u,rfl,e⟩
  ·exact nomatch e
  ·injection e with e1 _
   subst e1;cases v<;>rfl
theorem PX (prog:Program)(w:World)(i:Int)(t:Tok):(Bi prog w).is (.inl i) (.int i t)=true:=Ux i t
theorem PY (prog:Program)(w:World)(x:Str)(t:Tok):(Bi prog w).is (.inr x) (.str x t)=true:=Uy x t
inductive V where
 |Ay|bl (b:Bool)|int (i:Int)|str (x:Str)|eW (b:Array UInt8)|kZ (b:UInt64)|ref (a:Addr)|ty (n:String)
 deriving DecidableEq
def RelV:V->Value->Prop
 | .Ay,u=>u=y7
 | .bl b,u=>u=Value.bool b
 | .int i,u=>∃t,u=Value.int i t
 | .str x,u=>∃t,u=Value.str x t
 | .eW b,u=>∃t,u=Value.bytes b t
 | .kZ b,u=>∃t,u=Value.float b t
 | .ref a,u=>u=zK a
 | .ty n,u=>u=Value.type n
noncomputable abbrev Vals:List V->List Value->Prop:=Paired RelV
theorem Vals.length {xs:List V}{us:List Value}(r:Vals xs us):xs.length=us.length:=Paired.length r
theorem Vals.get:∀ {xs:List V}{us:List Value}{i:Nat}{x:V},Vals xs us->xs[i]?=some x->∃u,us[i]?=some u/\RelV x u
 |_,_,_,_,.nil,e=>by simp at e
 |_,_,0,_,.cons r _,e=>by simp at e;subst e;exact⟨_,rfl,r⟩
 |_,_,i+1,x,.cons _ t,e=>by
  obtain⟨u,h1,h2⟩:=Vals.get (i:=i) (x:=x) t (by simpa using e);exact⟨u,by simpa using h1,h2⟩
theorem Vals.set {x:V}{u:Value}(r:RelV x u):∀ {xs:List V}{us:List Value}(i:Nat),Vals xs us->Vals (xs.set i x) (us.set i u)
 |_,_,_,.nil=>.nil
 |_,_,0,.cons _ t=>.cons r t
 |_,_,i+1,.cons q t=>.cons q (Vals.set r i t)
theorem Vals.append:∀ {xs ys:List V}{us ws:List Value},Vals xs us->Vals ys ws->Vals (xs++ys) (us++ws)
 |_,_,_,_,.nil,s=>s
 |_,_,_,_,.cons r t,s=>.cons r (Vals.append t s)
theorem Vals.take:∀ {xs:List V}{us:List Value}(n:Nat),Vals xs us->Vals (xs.take n) (us.take n)
 |_,_,0,_|_,_,_+1,.nil=>.nil
 |_,_,n+1,.cons r t=>.cons r (Vals.take n t)
theorem Vals.drop:∀ {xs:List V}{us:List Value}(n:Nat),Vals xs us->Vals (xs.drop n) (us.drop n)
 |_,_,0,r=>r
 |_,_,_+1,.nil=>.nil
 |_,_,n+1,.cons _ t=>Vals.drop n t
def HS:Option V->Option Value->Prop
 |some v,some u=>RelV v u
 |none,none=>True
 |_,_=>False
def KV {κ:Type}:List (κ×V)->List (κ×Value)->Prop:=Paired λ(p:κ×V) (q:κ×Value)=>p.1=q.1/\RelV p.2 q.2
noncomputable def kV:Key->V
 | .inl i=>.int i
 | .inr x=>.str x
inductive HO where
 |lst (xs:List V)
 |tup (xs:List V)
 |dK (kvs:List (Key×V))|dT (kvs:List (List Key×V))
 |set (S:Int->Bool) (n:Nat)
 |ins (C dx:Addr) (fs:List (Str×V))
 |own (x:Addr)
 |xd (fs:List (Str×V))
 |met (f x:Addr)
 |oS (lo hi:Int)
 |FJ (o:Obj) (u:HO)
 |dI (ps:Array Value)
 |ext (φ:Heap->Prop)
noncomputable abbrev Hp:=Addr->Option HO
noncomputable def upd (H:Hp)(a:Addr)(o:HO):Hp:=λ b=>if b=a then some o else H b
theorem Al {H:Hp}{a:Addr}{o:HO}:upd H a o a=some o:=by unfold upd;rw[if_pos rfl]
theorem Ab {H:Hp}{a b:Addr}{o:HO}(h:b≠a):upd H a o b=H b:=by unfold upd;rw[if_neg h]
theorem lA {H:Hp}{a b:Addr}{o u:HO}(h:H a=some o)(h':H b=some u)(d:o≠u):a≠b:=by
 intro e;subst e;rw[h] at h';exact d (z0 h')
theorem AE {H:Hp}{a b:Addr}{o:HO}(h:H a=some o)(h':H b=none):a≠b:=by
 intro e;subst e;rw[h] at h';cases h'
section
variable (P:Program) (w:World)
def AV (H:Hp)(h:Heap)(a:Addr):HO->Prop
 | .lst xs=>xs.length<=sizeLine/\∃(aa:List Value) (n:Nat),Vals xs aa/\h.get? a=some {cls:=.type "list",data:=.seq aa.toArray n}
 | .tup xs=>xs.length<=sizeLine/\∃aa:List Value,Vals xs aa/\IsTup h a aa.toArray
 | .dK kvs=>kvs.length<=sizeLine/\(a==sysModules)=false/\∃vs,KV kvs vs/\h.DictOf (Bi P w) a vs
 | .dT kvs=>kvs.length<=sizeLine/\(a==sysModules)=false/\∃xs:List (List Key×Addr×Value),
  Paired (λ(p:List Key×V) (q:List Key×Addr×Value)=>p.1=q.1/\H q.2.1=some (.tup (p.1.map kV))/\RelV p.2 q.2.2) kvs xs/\
  ∃o es ep,h.get? a=some o/\o.ExactDict/\o.data=.dict es ep/\es.toList=xs.map (entryOfKey (tupleKind (Bi P w)))/\(xs.map (·.1)).Nodup
 | .set S n=>h.SetOf (intKind P w) a S n
 | .ins C dx fs=>H dx=some (.own a)/\fs.length<=1000/\dx≠a/\h.get? a=some (yY C dx)/\
  ∃mA,h.Ns1 dx mA/\(∀f,HS (fs.lookup f) (mA f))/\PySem.Within mA (fs.map (·.1))
 | .own _=>∃o,h.get? a=some o
 | .xd fs=>∃mA,h.Ns1 a mA/\∀f,HS (fs.lookup f) (mA f)
 | .oS lo hi=>∃t u v,h.get? a=some {cls:=.type "range",data:=.fields #[.int lo t,.int hi u,.int 1 v]}
 | .FJ o u=>h.get? a=some o/\AV H h a u
 | .dI ps=>h.get? a=some {cls:=.none,data:=.fields ps}
 | .met f x=>h.get? a=some (PySem.W.methodObj (.ref f) (.ref x))
 | .ext φ=>φ h/\(∃o,h.get? a=some o)/\∀h1 h2:Heap,φ h1->(∀o,h1.get? a=some o->h2.get? a=some o)->φ h2
def FK (H:Hp)(h:Heap):Prop:=∀a o,H a=some o->AV P w H h a o
end
section
variable {P:Program}{w:World}{H H':Hp}{h h':Heap}{a:Addr}{o:HO}
theorem AV.lt (x:AV P w H h a o):a<h.objs.size:=by
 cases o with
 |lst xs=>obtain⟨_,_,_,_,e⟩:=x;exact zt e
 |tup xs=>obtain⟨_,_,_,p⟩:=x;exact p.lt
 |dK kvs|dT kvs=>obtain⟨_,_,_,_,o,_,_,e,_⟩:=x;exact zt e
 |set S n=>obtain⟨o,_,_,_,e,_⟩:=x;exact zt e
 |ins C dx fs=>obtain⟨_,_,_,e,_⟩:=x;exact zt e
 |own y=>obtain⟨_,e⟩:=x;exact zt e
 |xd fs=>obtain⟨_,⟨_,_,_,e,_⟩,_⟩:=x;exact zt e
 |oS lo hi=>obtain⟨_,_,_,e⟩:=x;exact zt e
 |FJ ob u=>obtain⟨e,_⟩:=x;exact zt e
 |dI ps|met f y=>exact zt (show h.get? a=some _ from x)
 |ext φ=>obtain⟨_,⟨_,e⟩,_⟩:=x;exact zt e
theorem Paired.YJ {α β:Type}{F G:α->β->Prop}:∀ {l₁:List α}{l₂:List β},Paired F l₁ l₂->(∀a b,F a b->G a b)->Paired G l₁ l₂
 |_,_,.nil,_=>.nil
 |_,_,.cons r t,f=>.cons (f _ _ r) (Paired.YJ t f)
theorem AV.Ly (x:AV P w H h a o)(k:∀b u,(b=a\/H b=some (.own a))->h.get? b=some u->h'.get? b=some u)
 (ho:∀b,H b=some (.own a)->H' b=some (.own a)) (ht:∀b xs,H b=some (.tup xs)->H' b=some (.tup xs)):AV P w H' h' a o:=by
 induction o with
 |lst xs=>obtain⟨z,aa,n,r,e⟩:=x;exact⟨z,aa,n,r,k _ _ (.inl rfl) e⟩
 |tup xs=>obtain⟨z,aa,r,ob,e,c⟩:=x;exact⟨z,aa,r,ob,k _ _ (.inl rfl) e,c⟩
 |dK kvs=>obtain⟨z,y,vs,r,ob,es,ep,e,c⟩:=x;exact⟨z,y,vs,r,ob,es,ep,k _ _ (.inl rfl) e,c⟩
 |dT kvs =>
  obtain⟨z,y,xs,r,ob,es,ep,e,c⟩:=x;exact⟨z,y,xs,Paired.YJ r λ p q z=>⟨z.1,ht _ _ z.2.1,z.2.2⟩,ob,es,ep,k _ _ (.inl rfl) e,c⟩
 |set S n=>obtain⟨ob,es,ep,t,e,c⟩:=x;exact⟨ob,es,ep,t,k _ _ (.inl rfl) e,c⟩
 |ins C dx fs =>
  obtain⟨d,z,ne,e,mA,⟨od,es,ep,e2,c⟩,r⟩:=x;exact⟨ho _ d,z,ne,k _ _ (.inl rfl) e,mA,⟨od,es,ep,k _ _ (.inr d) e2,c⟩,r⟩
 |own y=>obtain⟨ob,e⟩:=x;exact⟨ob,k _ _ (.inl rfl) e⟩
 |xd fs=>obtain⟨mA,⟨od,es,ep,e,c⟩,r⟩:=x;exact⟨mA,⟨od,es,ep,k _ _ (.inl rfl) e,c⟩,r⟩
 |oS lo hi=>obtain⟨t,u,v,e⟩:=x;exact⟨t,u,v,k _ _ (.inl rfl) e⟩
 |FJ ob u ih=>obtain⟨e,q⟩:=x;exact⟨k _ _ (.inl rfl) e,ih q⟩
 |dI ps =>
  have e:h.get? a=some {cls:=.none,data:=.fields ps}:=x;show h'.get? a=some {cls:=.none,data:=.fields ps};exact k a _ (.inl rfl) e
 |met f y =>
  have e:h.get? a=some (PySem.W.methodObj (.ref f) (.ref y)):=x;show h'.get? a=some (PySem.W.methodObj (.ref f) (.ref y));exact k a _ (.inl rfl) e
 |ext φ=>obtain⟨p,⟨o,e⟩,st⟩:=x;exact⟨st _ _ p λ o q=>k _ _ (.inl rfl) q,⟨o,k _ _ (.inl rfl) e⟩,st⟩
theorem FK.lt (x:FK P w H h)(e:H a=some o):a<h.objs.size:=(x a o e).lt
theorem FK.fresh (x:FK P w H h)(e:h.objs.size<=a):H a=none:=by
 cases q:H a with
 |none=>rfl
 |some u=>exact absurd (zG (x.lt q) e) (Nat.lt_irrefl _)
theorem FK.kept (x:FK P w H h)(k:∀b u,h.get? b=some u->h'.get? b=some u):FK P w H h':=λ a o e =>
 (x a o e).Ly (λ b u _ q=>k b u q) (λ _ q=>q) λ _ _ q=>q
theorem FK.laid (x:FK P w H h)(k:∀b u,h.get? b=some u->h'.get? b=some u)(hp:h.objs.size<=a)(new:AV P w (upd H a o) h' a o):FK P w (upd H a o) h':=λ b u e=>by
 have hn:=x.fresh hp;by_cases hb:b=a
 ·subst hb;rw[Al] at e;cases e;exact new
 ·rw[Ab hb] at e;exact (x b u e).Ly (λ c v _ q=>k c v q) (λ c q=>by rw[Ab (AE q hn)];exact q) λ c xs q=>by rw[Ab (AE q hn)];exact q
end
def Rd (H:Hp)(a:Addr)(u:HO):Prop:=H a=some u\/∃o,H a=some (.FJ o u)
theorem Rd.ok {P:Program}{w:World}{H:Hp}{h:Heap}{a:Addr}{u:HO}(r:Rd H a u)(x:FK P w H h):AV P w H h a u:=by
 rcases r with r|⟨o,r⟩
 ·exact x a u r
 ·obtain⟨_,q⟩:=x a _ r;exact q
def lB:Option HO->Prop
 |some (.lst _)|some (.dK _)|some (.dT _)|some (.set _ _)|some (.ins _ _ _)|some (.ext _)=>True
 |_=>False
section
variable {P:Program}{w:World}{H:Hp}{h h':Heap}{x e:Addr}{o':HO}
theorem FK.write (ok:FK P w H h)(mu:lB (H x))(he:e=x\/H e=some (.own x))(k:∀b u,b≠e->h.get? b=some u->h'.get? b=some u)(dn:∃u,h'.get? e=some u)
 (new:AV P w (upd H x o') h' x o'):FK P w (upd H x o') h':=λ b u q=>by
 have ii:∀c y,H c=some (.own y)->c≠x:=λ c y r z=>by subst z;rw[r] at mu;exact mu
 have l5:∀c xs,H c=some (.tup xs)->c≠x:=λ c xs r z=>by subst z;rw[r] at mu;exact mu
 by_cases hb:b=x
 ·subst hb;rw[Al] at q;cases q;exact new
 ·rw[Ab hb] at q;by_cases e7:b=e
  ·have q':H b=some (.own x):=by
    rcases he with z|z
    ·exact absurd (e7.trans z) hb
    ·rw[e7];exact z
   rw[q] at q';cases q';obtain⟨v,hv⟩:=dn;exact⟨v,by rw[e7];exact hv⟩
  ·refine (ok b u q).Ly (λ c v hc r=>k c v ?_ r) (λ c r=>by rw[Ab (ii c b r)];exact r) λ c xs r=>by rw[Ab (l5 c xs r)];exact r
   rcases hc with rfl|hc
   ·exact e7
   ·rintro rfl;rcases he with z|z
    ·exact ii c b hc z
    ·rw[hc] at z;cases z;exact hb rfl
end
structure Un (fs ex:List Addr)(H H':Hp)(h h':Heap):Prop where
 keep:∀b o,h.get? b=some o->H b=none->b∉fs->b∉ex->h'.get? b=some o
 slot:∀b o,h.get? b=some o->H b=none->b∈fs->b∉ex->∃sl,h'.get? b=some {o with slots:=sl}
 free:∀b o,h.get? b=some o->H b=none->b∉ex->H' b=none
 there:∀b o,h.get? b=some o->b∉ex->∃o',h'.get? b=some o'
 Lz:∀b xs,H b=some (.tup xs)->H' b=some (.tup xs)
 JR:∀b o u,H b=some (.FJ o u)->H' b=some (.FJ o u)
 LB:∀b ps,H b=some (.dI ps)->∃more,H' b=some (.dI (ps++more))
section
variable {fs bZ ex l6:List Addr}{H H1 H2:Hp}{h h1 h2 h':Heap}{a x e:Addr}{o:HO}
theorem Un.any (u:Un fs ex H H1 h h1){b:Addr}{ob:Obj}(q:h.get? b=some ob)(n:H b=none)(hx:b∉ex):∃sl,h1.get? b=some {ob with slots:=sl}:=by
 by_cases hb:b∈fs
 ·exact u.slot b ob q n hb hx
 ·exact⟨ob.slots,u.keep b ob q n hb hx⟩
theorem Un.kept (k:∀b u,h.get? b=some u->h'.get? b=some u):Un fs ex H H h h':=
 ⟨λ b ob q _ _ _=>k b ob q,λ b ob q _ _ _=>⟨ob.slots,k b ob q⟩,λ _ _ _ n _=>n,λ b ob q _=>⟨ob,k b ob q⟩,λ _ _ q=>q,λ _ _ _ q=>q,λ _ ps q=>⟨#[],by rw[q];simp⟩⟩
theorem Un.refl:Un fs ex H H h h:=Un.kept λ _ _ q=>q
theorem Un.laid (k:∀b u,h.get? b=some u->h'.get? b=some u)(hp:h.objs.size<=a)(hn:H a=none):Un fs ex H (upd H a o) h h' where
 keep:=λ b u q _ _ _=>k b u q
 slot:=λ b u q _ _ _=>⟨u.slots,k b u q⟩
 free:=λ b u q n _=>by rw[Ab (zB (zG (zt q) hp))];exact n
 there:=λ b u q _=>⟨u,k b u q⟩
 Lz:=λ b xs q=>by rw[Ab (AE q hn)];exact q
 JR:=λ b u xs q=>by rw[Ab (AE q hn)];exact q
 LB:=λ b ps q=>⟨#[],by rw[Ab (AE q hn),q];simp⟩
theorem Un.write (mu:lB (H x))(he:e=x\/H e=some (.own x))(k:∀b u,b≠e->h.get? b=some u->h'.get? b=some u)(dn:∃u,h'.get? e=some u):Un fs ex H (upd H x o) h h':=by
 have hx:∀b,H b=none->b≠x:=λ b n z=>by subst z;rw[n] at mu;exact mu
 have hb:∀b,H b=none->b≠e:=λ b n z=>by
  subst z;rcases he with r|r
  ·exact hx b n r
  ·rw[n] at r;cases r
 have hm:∀b u,H b=some u->¬ lB (some u)->b≠x:=λ b u q nm z=>by subst z;rw[q] at mu;exact nm mu
 refine⟨λ b u q n _ _=>k b u (hb b n) q,λ b u q n _ _=>⟨u.slots,k b u (hb b n) q⟩,λ b u q n _=>by rw[Ab (hx b n)];exact n,λ b u q _=>?_,
  λ b xs q=>by rw[Ab (hm b _ q λ z=>z)];exact q,λ b u xs q=>by rw[Ab (hm b _ q λ z=>z)];exact q,λ b ps q=>⟨#[],by rw[Ab (hm b _ q λ z=>z),q];simp⟩⟩
 by_cases e7:b=e
 ·subst e7;exact dn
 ·exact⟨u,k b u e7 q⟩
end
noncomputable def BG (h:Heap)(H:Hp):List Addr:=(zR h.objs.size).filter λ a=>(H a).isSome
noncomputable def OH (h:Heap)(H:Hp):Heap:=PySem.W.hideAll h (BG h H)
theorem Uz (h:Heap)(H:Hp):(OH h H).objs.size=h.objs.size:=PySem.W.hideAll_size _ _
theorem Wd {h:Heap}{H:Hp}{b:Addr}{o:Obj}(e:h.get? b=some o)(n:H b=none):(OH h H).get? b=some o:=
 yK _ e λ hm=>by
  have q:(H b).isSome=true:=(yv.mp hm).2;rw[n] at q;simp at q
theorem YK {h:Heap}{H:Hp}{b:Addr}{o:Obj}(e:(OH h H).get? b=some o):h.get? b=some o/\H b=none:=by
 have e':h.get? b=some o:=PySem.W.of_hideAll (BG h H) e;refine⟨e',?_⟩;cases q:H b with
 |none=>rfl
 |some x =>
  have hm:b∈BG h H:=yv.mpr ⟨xk.mpr (zt e'),by simp[q]⟩;have z:(OH h H).get? b=none:=PySem.W.hideAll_none (BG h H) hm;rw[z] at e;cases e
noncomputable def YL (g h:Heap)(L:Addr):List (Addr×Obj):=(zR h.objs.size).filterMap λ a=>if a=L\/(g.get? a).isSome=true then none else (h.get? a).map λ o=>(a,o)
noncomputable def rest (g h:Heap)(L d:Addr):List (Addr×Obj):=(YL g h L).filter λ p=>decide (p.1≠d)
structure Mod (K:za)(mg:Str->Option Value)(base:Heap):Prop where
 eX:K.In base
 glob:base.Ns mainGlobals mg
 blt:∃mb,base.Ns builtinsNs mb/\∀x:Str,x ≠ "__name__" -> mb x=bootBuiltins x
 nolimit:base.NoLimit
structure Cx where
 prog:Program
 w:World
 K:za
 mg:Str->Option Value
 base:Heap
 A:Around
 N:List Str
 s₀:Shared
 H₀:Hp
 env:Env
 outer:List Env
 stack:List Env
 ex:List Addr
 fn:Str->Bool
 calm:Bool
 pn:List (Addr×Obj)
 xe:Value->Shared->Prop
noncomputable def KG (l:List Env):List Addr:=l.filterMap (·.frame)
noncomputable abbrev Cx.fs (X:Cx):List Addr:=KG X.outer
def pL (sc:Scope)(x:Str):Prop:=sc.names.lookup x=some .local\/sc.names.lookup x=some .cell\/sc.names.lookup x=some .free
def Loc (sc:Scope)(x:Str):Prop:=sc.names.lookup x=some .local\/sc.names.lookup x=some .cell
def Look (env:Env)(h:Heap)(m:Str->Option Value)(x:Str)(u:Value):Prop:=
 (env.kindOf x=some .local/\m x=some u)\/((env.kindOf x=some .cell\/env.kindOf x=some .free)/\∃c,env.cells.lookup x=some c/\h.IsCell c (some u))
structure Cx.Ok (X:Cx):Prop where
 mod:Mod X.K X.mg X.base
 kind:X.env.scope.kind=.function
 glob:X.env.globals=mainGlobals
 blt:X.env.builtins=builtinsNs
 above:X.s₀.heap.objs.size<=X.env.locals
 inj:∀x y c,X.env.cells.lookup x=some c->X.env.cells.lookup y=some c->x=y
 has:∀x,(X.env.kindOf x=some .cell\/X.env.kindOf x=some .free)->∃c,X.env.cells.lookup x=some c
 lC:∀x c,X.fn x=true->X.env.cells.lookup x=some c->X.s₀.heap.objs.size<=c
 hd:X.calm=true->X.A.handled=none
 frames:X.A.frames=some X.stack
 dJ:X.stack=X.outer\/(X.stack=X.env::X.outer/\X.env.frame=some X.env.locals)
 oU:∀b∈X.ex,b≠X.env.locals/\∀x c,X.env.cells.lookup x=some c->c≠b
 bs:∀b o,X.base.get? b=some o->X.s₀.heap.get? b=some o/\X.H₀ b=none
 YM:X.base.objs.size<=X.s₀.heap.objs.size
 We:∀b o,X.base.get? b=some o->b∉X.ex
 Wf:∀b∈X.ex,b∉X.fs
 J5:X.s₀.heap.FunFrames X.base X.outer
 eY:∀b∈X.fs,X.H₀ b=none
structure Inv (X:Cx)(pins:List (Addr×Obj))(σ:List (Option V))(H:Hp)(s:Shared):Prop where
 ok:X.Ok
 os:s.os=X.s₀.os
 bare:AllBare s.gens
 base:Un X.fs X.ex X.H₀ H X.s₀.heap s.heap
 loc:∃m,s.heap.Ns X.env.locals m/\∀(i:Nat) (x:Str) (v:V),X.N[i]?=some x->σ[i]?=some (some v)->pL X.env.scope x->∃u,RelV v u/\Look X.env s.heap m x u
 cell:∀x c,X.env.cells.lookup x=some c->∃v,s.heap.IsCell c v
 free:H X.env.locals=none
 F4:∀x c,X.env.cells.lookup x=some c->H c=none
 pin:∀p∈X.pn++pins,s.heap.get? p.1=some p.2/\H p.1=none/\p.1≠X.env.locals/\p.1∉X.fs/\∀v,p.2.data≠.cell v
 Ar:FK X.prog X.w H s.heap
 len:σ.length=X.N.length
section
variable {X:Cx}{pins:List (Addr×Obj)}{σ:List (Option V)}{H H':Hp}{s:Shared}{h':Heap}
theorem Cx.Ok.pM (ok:X.Ok){b:Addr}{o:Obj}(e:X.base.get? b=some o):b∉X.fs:=λ hb=>by
 have:=(ok.J5.mem hb).1;rw[e] at this;cases this
theorem Inv.bs (I:Inv X pins σ H s):∀b o,X.base.get? b=some o->s.heap.get? b=some o/\H b=none:=λ b o e =>
 ⟨I.base.keep b o (I.ok.bs b o e).1 (I.ok.bs b o e).2 (I.ok.pM e) (I.ok.We b o e),I.base.free b o (I.ok.bs b o e).1 (I.ok.bs b o e).2 (I.ok.We b o e)⟩
theorem Inv.bk (I:Inv X pins σ H s):∀b o,X.base.get? b=some o->s.heap.get? b=some o:=λ b o e=>(I.bs b o e).1
theorem Inv.mod (I:Inv X pins σ H s):Mod X.K X.mg X.base:=I.ok.mod
theorem Inv.L3 (I:Inv X pins σ H s):X.K.In s.heap:=I.ok.mod.eX.keeps I.bk
theorem Inv.fr (I:Inv X pins σ H s):∃m,Fr X.base X.env.locals s.heap m:=
 let ⟨m,hn,_⟩:=I.loc
 ⟨m,hn,I.bk,yk I.ok.YM I.ok.above⟩
theorem Inv.lt (I:Inv X pins σ H s):X.env.locals<s.heap.objs.size:=let ⟨_,hn,_⟩:=I.loc;hn.lt
theorem Inv.sz (I:Inv X pins σ H s):X.s₀.heap.objs.size<=s.heap.objs.size:=yk I.ok.above (yd I.lt)
theorem Inv.pN (I:Inv X pins σ H s){a:Addr}(h:s.heap.objs.size<=a):a∉X.fs:=λ hb=>by
 obtain⟨_,o,ho,_⟩:=I.ok.J5.mem hb;exact absurd (zG (zt ho) (yk I.sz h)) (Nat.lt_irrefl _)
theorem Inv.eZ (I:Inv X pins σ H s):∀x c,X.env.cells.lookup x=some c->c≠X.env.locals:=λ x c e z=>by
 obtain⟨v,o,ho,hd⟩:=I.cell x c e;obtain⟨m,⟨o',es,ep,bO,ca,_⟩,_⟩:=I.loc;rw[z,bO] at ho;cases ho;rw[ca] at hd;cases hd
theorem Inv.J5 (I:Inv X pins σ H s):s.heap.FunFrames X.base X.outer:=by
 have all:∀(l:List Env),(∀b∈KG l,b∈X.fs)->X.s₀.heap.FunFrames X.base l->s.heap.FunFrames X.base l:=by
  intro l;induction l with
  |nil=>intro _ _;trivial
  |cons env r ih =>
   intro hs hl;obtain⟨hk,⟨L,o,hf,hn,ho,hd⟩,hr⟩:=hl;have hL:L∈X.fs:=hs L (by unfold KG;rw[List.filterMap_cons,hf];exact zc);obtain⟨sl,e⟩:=I.base.slot L o ho (I.ok.eY L hL) hL λ z=>I.ok.Wf L z hL;exact⟨hk,⟨L,_,hf,hn,e,hd⟩,ih (λ b hb=>hs b (by unfold KG;rw[List.filterMap_cons,hf];exact zf _ hb)) hr⟩
 exact all X.outer (λ _ hb=>hb) I.ok.J5
theorem Inv.stack (I:Inv X pins σ H s):s.heap.FunFrames X.base X.stack:=by
 rcases I.ok.dJ with e|⟨e,hf⟩
 ·rw[e];exact I.J5
 ·rw[e];obtain⟨m,hn,_⟩:=I.loc;refine .cons (by rw[I.ok.kind];decide) hf hn ?_ I.J5;exact Heap.get?_none_of_le (yk I.ok.YM I.ok.above)
theorem Inv.RD (I:Inv X pins σ H s):∀b∈KG X.stack,b∈X.env.locals::X.fs:=λ b hb=>by
 rcases I.ok.dJ with e|⟨e,hf⟩
 ·rw[e] at hb;exact zf _ hb
 ·rw[e] at hb;unfold KG at hb;rw[List.filterMap_cons,hf] at hb;exact hb
theorem Inv.OI (I:Inv X pins σ H s):∀b∈KG X.stack,H b=none:=λ b hb=>by
 rcases zq.mp (I.RD b hb) with e|hb
 ·rw[e];exact I.free
 ·obtain⟨_,o,ho,_⟩:=I.ok.J5.mem hb;exact I.base.free b o ho (I.ok.eY b hb) λ z=>I.ok.Wf b z hb
theorem Inv.step {g':Array GenState}{t':Nat}{d':Drawn}{ch:List Addr}(I:Inv X pins σ H s)
 (c8:∀b∈ch,(b∈X.ex\/X.s₀.heap.objs.size<=b)/\b≠X.env.locals/\(∀x c,X.env.cells.lookup x=some c->c≠b)/\∀p∈X.pn++pins,p.1≠b)
 (keep:∀b o,b≠X.env.locals->b∉X.fs->b∉ch->s.heap.get? b=some o->H b=none->h'.get? b=some o)
 (slot:∀b o,b≠X.env.locals->b∈X.fs->b∉ch->s.heap.get? b=some o->H b=none->∃sl,h'.get? b=some {o with slots:=sl}) (free:∀b o,b∉ch->s.heap.get? b=some o->H b=none->H' b=none)
 (there:∀b o,b∉ch->s.heap.get? b=some o->∃o',h'.get? b=some o')
 (Lz:∀b xs,H b=some (.tup xs)->H' b=some (.tup xs)) (JR:∀b o u,H b=some (.FJ o u)->H' b=some (.FJ o u)) (LB:∀b ps,H b=some (.dI ps)->∃more,H' b=some (.dI (ps++more)))
 (ns:∀m,s.heap.Ns X.env.locals m->h'.Ns X.env.locals m) (Ar:FK X.prog X.w H' h') (hg:AllBare g'):
 Inv X pins σ H' {s with heap:=h',gens:=g',drawn:=d',toks:=t' }:=by
 have e8:∀b o,X.s₀.heap.get? b=some o->b≠X.env.locals:=λ b o e=>zB (zG (zt e) I.ok.above);have g8:∀b o,X.s₀.heap.get? b=some o->b∉X.ex->b∉ch:=λ b o e hx hb=>by
  rcases (c8 b hb).1 with z|z
  ·exact hx z
  ·exact absurd (zG (zt e) z) (Nat.lt_irrefl _)
 have cellK:∀x c,X.env.cells.lookup x=some c->∀v,s.heap.IsCell c v->h'.IsCell c v:=λ x c e v ⟨o,ho,hd⟩=>by
  have ij:c∉ch:=λ z=>(c8 c z).2.2.1 x c e rfl;by_cases hc:c∈X.fs
  ·obtain⟨sl,q⟩:=slot c o (I.eZ x c e) hc ij ho (I.F4 x c e);exact⟨_,q,hd⟩
  ·exact⟨o,keep c o (I.eZ x c e) hc ij ho (I.F4 x c e),hd⟩
 refine⟨I.ok,I.os,hg,⟨λ b o e n hb hx=>?_,λ b o e n hb hx=>?_,λ b o e n hx=>?_,λ b o e hx=>?_,λ b xs e=>Lz b xs (I.base.Lz b xs e),λ b o xs e=>JR b o xs (I.base.JR b o xs e),λ b ps e=>?_⟩,?_,λ x c e=>?_,?_,λ x c e=>?_,λ p hp=>?_,Ar,I.len⟩
 ·exact keep b o (e8 b o e) hb (g8 b o e hx) (I.base.keep b o e n hb hx) (I.base.free b o e n hx)
 ·obtain⟨sl,e1⟩:=I.base.slot b o e n hb hx;obtain⟨j9,e2⟩:=slot b _ (e8 b o e) hb (g8 b o e hx) e1 (I.base.free b o e n hx);exact⟨j9,e2⟩
 ·obtain⟨o',e1⟩:=I.base.there b o e hx;exact free b o' (g8 b o e hx) e1 (I.base.free b o e n hx)
 ·obtain⟨o',e1⟩:=I.base.there b o e hx;exact there b o' (g8 b o e hx) e1
 ·obtain⟨m1,e1⟩:=I.base.LB b ps e;obtain⟨m2,e2⟩:=LB b _ e1;exact⟨m1++m2,by rw[e2,Array.append_assoc]⟩
 ·obtain⟨m,hn,hl⟩:=I.loc;refine⟨m,ns m hn,λ i x v e1 e2 e3=>?_⟩;obtain⟨u,r,l⟩:=hl i x v e1 e2 e3;refine⟨u,r,?_⟩;rcases l with l|⟨k,c,e,z⟩
  ·exact .inl l
  ·exact .inr ⟨k,c,e,cellK x c e _ z⟩
 ·obtain⟨v,z⟩:=I.cell x c e;exact⟨v,cellK x c e v z⟩
 ·obtain⟨m,⟨o,_,_,ho,_⟩,_⟩:=I.loc;exact free _ o (λ z=>(c8 _ z).2.1 rfl) ho I.free
 ·obtain⟨v,o,ho,hd⟩:=I.cell x c e;exact free c o (λ z=>(c8 c z).2.2.1 x c e rfl) ho (I.F4 x c e)
 ·obtain⟨e,n,ne,nf,d⟩:=I.pin p hp;have ij:p.1∉ch:=λ z=>(c8 p.1 z).2.2.2 p hp rfl;exact⟨keep p.1 p.2 ne nf ij e n,free p.1 p.2 ij e n,ne,nf,d⟩
theorem Inv.un {t':Nat}(I:Inv X pins σ H s)(u:Un X.fs [] H H' s.heap h')(Ar:FK X.prog X.w H' h'):Inv X pins σ H' {s with heap:=h',toks:=t' }:=by
 obtain⟨m,⟨o,es,ep,ho,r⟩,_⟩:=id I.loc;obtain⟨sl,hL⟩:=u.any ho I.free (by simp);exact I.step (g':=s.gens) (d':=s.drawn) (ch:=[]) (λ _ z=>nomatch z) (λ b o _ hb _ e n=>u.keep b o e n hb (by simp)) (λ b o _ hb _ e n=>u.slot b o e n hb (by simp)) (λ b o _ e n=>u.free b o e n (by simp)) (λ b o _ e=>u.there b o e (by simp)) u.Lz u.JR u.LB (λ m' hm=>by
  obtain⟨o',l7,l8,bO,r'⟩:=hm;rw[ho] at bO;cases bO;exact⟨_,l7,l8,hL,r'⟩) Ar I.bare
theorem Inv.call {g':Array GenState}{t':Nat}{d':Drawn}{ch:List Addr}(I:Inv X pins σ H s)(u:Un (KG X.stack) ch H H' s.heap h')(Ar:FK X.prog X.w H' h')(hg:AllBare g')
 (c8:∀b∈ch,(b∈X.ex\/X.s₀.heap.objs.size<=b)/\b≠X.env.locals/\(∀x c,X.env.cells.lookup x=some c->c≠b)/\∀p∈X.pn++pins,p.1≠b):
 Inv X pins σ H' {s with heap:=h',gens:=g',drawn:=d',toks:=t' }:=by
 obtain⟨m,⟨o,es,ep,ho,r⟩,_⟩:=id I.loc;obtain⟨sl,hL⟩:=u.any ho I.free λ z=>(c8 _ z).2.1 rfl;exact I.step (ch:=ch) c8 (λ b o hL hb hc e n=>u.keep b o e n (λ z=>(zq.mp (I.RD b z)).elim hL hb) hc) (λ b o _ _ hc e n=>u.any e n hc) (λ b o hc e n=>u.free b o e n hc) (λ b o hc e=>u.there b o e hc) u.Lz u.JR u.LB (λ m' hm=>by
  obtain⟨o',l7,l8,bO,r'⟩:=hm;rw[ho] at bO;cases bO;exact⟨_,l7,l8,hL,r'⟩) Ar hg
theorem Inv.turned {t':Nat}{it:Addr}(I:Inv X pins σ H s)(k:∀b o,b≠it->s.heap.get? b=some o->h'.get? b=some o)(hn:H it=none)(hL:it≠X.env.locals)
 (h1:it∈X.ex\/X.s₀.heap.objs.size<=it) (h2:∀x c,X.env.cells.lookup x=some c->c≠it) (h3:∀p∈X.pn++pins,p.1≠it):Inv X pins σ H {s with heap:=h',toks:=t' }:=by
 have sI:∀b u,H b=some u->b≠it:=λ b u e z=>by rw[z,hn] at e;cases e
 refine I.step (g':=s.gens) (d':=s.drawn) (ch:=[it]) (λ b hb=>?_) (λ b o _ _ hc e _=>k b o (λ z=>hc (by simp[z])) e) (λ b o _ _ hc e _=>⟨o.slots,k b o (λ z=>hc (by simp[z])) e⟩) (λ _ _ _ _ n=>n)
  (λ b o hc e=>⟨o,k b o (λ z=>hc (by simp[z])) e⟩) (λ _ _ e=>e) (λ _ _ _ e=>e) (λ b ps e=>⟨#[],by rw[e];simp⟩) (λ m hm=>?_) (λ b u e=>?_) I.bare
 ·have e:b=it:=by simpa using hb
  subst e;exact⟨h1,hL,h2,h3⟩
 ·obtain⟨o,es,ep,ho,r⟩:=hm;exact⟨o,es,ep,k _ o (yc hL) ho,r⟩
 ·refine (I.Ar b u e).Ly (λ c v hc q=>k c v ?_ q) (λ _ q=>q) λ _ _ q=>q;rcases hc with z|z
  ·rw[z];exact sI b u e
  ·exact sI c _ z
theorem Inv.tok (I:Inv X pins σ H s)(t:Nat):Inv X pins σ H {s with toks:=t}:=I.un (h':=s.heap) (t':=t) Un.refl I.Ar
theorem Inv.kept {t':Nat}(I:Inv X pins σ H s)(k:∀b u,s.heap.get? b=some u->h'.get? b=some u):Inv X pins σ H {s with heap:=h',toks:=t' }:=I.un (Un.kept k) (I.Ar.kept k)
theorem Inv.laid {a:Addr}{o:HO}{t':Nat}(I:Inv X pins σ H s)(k:∀b u,s.heap.get? b=some u->h'.get? b=some u)(hp:s.heap.objs.size<=a)(new:AV X.prog X.w (upd H a o) h' a o):
 Inv X pins σ (upd H a o) {s with heap:=h',toks:=t' }:=I.un (Un.laid k hp (I.Ar.fresh hp)) (I.Ar.laid k hp new)
theorem Inv.write {x e:Addr}{o:HO}{t':Nat}(I:Inv X pins σ H s)(mu:lB (H x))(he:e=x\/H e=some (.own x))(k:∀b u,b≠e->s.heap.get? b=some u->h'.get? b=some u)(dn:∃u,h'.get? e=some u)
 (new:AV X.prog X.w (upd H x o) h' x o):Inv X pins σ (upd H x o) {s with heap:=h',toks:=t' }:=I.un (Un.write mu he k dn) (I.Ar.write mu he k dn new)
theorem Inv.weak {σ':List (Option V)}(I:Inv X pins σ H s)(hl:σ'.length=σ.length)(w:∀(i:Nat) v,σ'[i]?=some (some v)->σ[i]?=some (some v)):Inv X pins σ' H s:=
 ⟨I.ok,I.os,I.bare,I.base,let ⟨m,hn,bz⟩:=I.loc;⟨m,hn,λ i x v e1 e2 e3=>bz i x v e1 (w i v e2) e3⟩,I.cell,I.free,I.F4,I.pin,I.Ar,hl.trans I.len⟩
theorem Inv.J6 {dq:List (Addr×Obj)}(I:Inv X pins σ H s)(h:∀p∈dq,s.heap.get? p.1=some p.2/\H p.1=none/\p.1≠X.env.locals/\p.1∉X.fs/\∀v,p.2.data≠.cell v):Inv X dq σ H s:=
 ⟨I.ok,I.os,I.bare,I.base,I.loc,I.cell,I.free,I.F4,λ p hp=>(zL.mp hp).elim (λ z=>I.pin p (zO _ z)) (h p),I.Ar,I.len⟩
theorem PZ {N:List Str}(hN:N.Nodup){i j:Nat}{x:Str}(a:N[i]?=some x)(b:N[j]?=some x):i=j:=by
 obtain⟨h1,e1⟩:=zE.mp a;obtain⟨h2,e2⟩:=zE.mp b;exact (List.getElem_inj hN).mp (e1.trans e2.symm)
theorem Nz {M:Model}{A:Around}{E:Value->Shared->Prop}{i:Nat}{x:Str}{v:V}{u:Value}{Q:Unit->Shared->Prop}(I:Inv X pins σ H s)(hN:X.N.Nodup)(hi:X.N[i]?=some x)(hx:Loc X.env.scope x)(r:RelV v u)
 (h:∀s',Inv X pins (σ.set i (some v)) H s'->(∃a,xg a s.heap s'.heap/\(a=X.env.locals\/X.env.cells.lookup x=some a))->Q () s') (hf:X.fn x=true\/X.env.scope.names.lookup x=some .local:=by first|exact .inl rfl|exact .inr rfl|assumption):wpAny M A (storeName X.env x u) Q E s:=by
 obtain⟨m,hn,hl⟩:=id I.loc;have l9:(X.env.scope.kind==.class||(X.env.scope.kind==.module&&X.env.locals != X.env.globals))=false:=by rw[I.ok.kind];rfl
 have hiσ:i<σ.length:=by rw[I.len];exact (zE.mp hi).1
 have eZ:=I.eZ;have tracked:∀ {a:Addr} {h':Heap},(∃o,s.heap.get? a=some o/\H a=none)->xg a s.heap h'->FK X.prog X.w H h':=fun {a h'} ha hs b ob e=>by
  obtain⟨_,_,dr⟩:=ha;refine (I.Ar b ob e).Ly (λ c w' hc q=>(hs.2 c ?_).trans q) (λ _ q=>q) λ _ _ q=>q;rintro rfl;rcases hc with rfl|hc
  ·rw[dr] at e;cases e
  ·rw[dr] at hc;cases hc
 rcases hx with hk|hk
 ·refine wpAny_storeName_local hk hn (λ h' bP hs=>?_) l9;obtain⟨oL,_,_,cb,_⟩:=id hn;refine h _ ⟨I.ok,I.os,I.bare,⟨λ b o e n hb hx=>?_,λ b o e n hb hx=>?_,I.base.free,λ b o e hx=>?_,I.base.Lz,I.base.JR,I.base.LB⟩,⟨_,bP,λ j y v' e1 e2 e3=>?_⟩,λ y c e=>?_,I.free,I.F4,λ p hp=>?_,tracked ⟨oL,cb,I.free⟩ hs,by simpa using I.len⟩ ⟨_,hs,.inl rfl⟩
  ·exact (hs.2 b (zB (zG (zt e) I.ok.above))).trans (I.base.keep b o e n hb hx)
  ·obtain⟨sl,e1⟩:=I.base.slot b o e n hb hx;exact⟨sl,(hs.2 b (zB (zG (zt e) I.ok.above))).trans e1⟩
  ·obtain⟨o',e1⟩:=I.base.there b o e hx;exact⟨o',(hs.2 b (zB (zG (zt e) I.ok.above))).trans e1⟩
  ·by_cases hj:j=i
   ·subst hj;rw[hi] at e1;cases e1;rw[zZ hiσ] at e2;cases e2;exact⟨u,r,.inl ⟨hk,by simp⟩⟩
   ·rw[yx (yc hj)] at e2;obtain⟨u',r',q⟩:=hl j y v' e1 e2 e3;refine⟨u',r',?_⟩;rcases q with ⟨k,e⟩|⟨k,c,e,z⟩
    ·refine .inl ⟨k,?_⟩;have:y≠x:=λ e=>hj (PZ hN e1 (e▸hi));simp[this,e]
    ·exact .inr ⟨k,c,e,z.sameBut hs (eZ y c e)⟩
  ·obtain⟨w',z⟩:=I.cell y c e;exact⟨w',z.sameBut hs (eZ y c e)⟩
  ·obtain⟨e,n,ne,nf,d⟩:=I.pin p hp;exact⟨(hs.2 p.1 ne).trans e,n,ne,nf,d⟩
 ·have me:X.fn x=true:=by
   rcases hf with z|z
   ·exact z
   ·rw[z] at hk;cases hk
  obtain⟨c,hc⟩:=I.ok.has x (.inl hk);obtain⟨w',z⟩:=I.cell x c hc;refine wpAny_storeName_cell I.ok.kind hk hc z (λ h' g9 hs=>?_);obtain⟨oc,sJ,mf⟩:=id z;refine h {s with heap:=h' } ⟨I.ok,I.os,I.bare,⟨λ b o e n hb hx=>?_,λ b o e n hb hx=>?_,I.base.free,λ b o e hx=>?_,I.base.Lz,I.base.JR,I.base.LB⟩,⟨m,hn.sameBut hs (yc (eZ x c hc)),λ j y v' e1 e2 e3=>?_⟩,λ y c' e=>?_,I.free,I.F4,λ p hp=>?_,tracked ⟨oc,sJ,I.F4 x c hc⟩ hs,by simpa using I.len⟩ ⟨c,hs,.inr hc⟩
  ·exact (hs.2 b (zB (zG (zt e) (I.ok.lC x c me hc)))).trans (I.base.keep b o e n hb hx)
  ·obtain⟨sl,e1⟩:=I.base.slot b o e n hb hx;exact⟨sl,(hs.2 b (zB (zG (zt e) (I.ok.lC x c me hc)))).trans e1⟩
  ·obtain⟨o',e1⟩:=I.base.there b o e hx;exact⟨o',(hs.2 b (zB (zG (zt e) (I.ok.lC x c me hc)))).trans e1⟩
  ·by_cases hj:j=i
   ·subst hj;rw[hi] at e1;cases e1;rw[zZ hiσ] at e2;cases e2;exact⟨u,r,.inr ⟨.inl hk,c,hc,g9⟩⟩
   ·rw[yx (yc hj)] at e2;obtain⟨u',r',q⟩:=hl j y v' e1 e2 e3;refine⟨u',r',?_⟩;rcases q with q|⟨k,c',e,z'⟩
    ·exact .inl q
    ·refine .inr ⟨k,c',e,z'.sameBut hs ?_⟩;rintro rfl;exact hj (PZ hN e1 (I.ok.inj _ _ _ e hc▸hi))
  ·by_cases h7:c'=c
   ·subst h7;exact⟨_,g9⟩
   ·obtain⟨w2,z2⟩:=I.cell y c' e;exact⟨w2,z2.sameBut hs h7⟩
  ·obtain⟨e,n,ne,nf,d⟩:=I.pin p hp;refine⟨(hs.2 p.1 ?_).trans e,n,ne,nf,d⟩;intro q;rw[q,sJ] at e;have q':oc=p.2:=z0 e;exact d w' (by rw[<-q'];exact mf)
theorem Q1 {M:Model}{A:Around}{E:Value->Shared->Prop}{i:Nat}{x:Str}{v:V}{u:Value}{Q:Unit->Shared->Prop}(I:Inv X pins σ H s)(hN:X.N.Nodup)(hi:X.N[i]?=some x)(hx:Loc X.env.scope x)(r:RelV v u)
 (h:∀s',Inv X pins (σ.set i (some v)) H s'->Q () s') (hf:X.fn x=true\/X.env.scope.names.lookup x=some .local:=by first|exact .inl rfl|exact .inr rfl|assumption):wpAny M A (storeName X.env x u) Q E s:=
 Nz I hN hi hx r (λ s' I' _=>h s' I') hf
theorem Inv.dM {s':Shared}{ch:List Addr}(I:Inv X pins σ H s)(ho:s'.os=s.os)(u:Un (KG X.stack) ch H H' s.heap s'.heap)(Ar:FK X.prog X.w H' s'.heap)(hg:AllBare s'.gens)
 (c8:∀b∈ch,(b∈X.ex\/X.s₀.heap.objs.size<=b)/\b≠X.env.locals/\(∀x c,X.env.cells.lookup x=some c->c≠b)/\∀p∈X.pn++pins,p.1≠b):Inv X pins σ H' s':=by
 obtain⟨h',g',d',t',o'⟩:=s';have e:o'=s.os:=ho;subst e;exact I.call (g':=g') (t':=t') (d':=d') u Ar hg c8
end
noncomputable abbrev XK:=Value->Option Addr->Hp->Prop
noncomputable abbrev St:=List (Option V)
noncomputable abbrev VK:=V->Hp->Prop
noncomputable abbrev TE:=St->Hp->VK->Prop
noncomputable abbrev TT:=St->Hp->(Bool->Hp->Prop)->Prop
noncomputable abbrev TA:=St->Hp->(List V->Hp->Prop)->Prop
structure Ends where
 nx:St->Hp->Prop
 rt:VK
 bk:St->Hp->Prop:=λ _ _=>False
 ct:St->Hp->Prop:=λ _ _=>False
noncomputable abbrev TS:=Ends->St->Hp->Prop
def EP (X:Cx)(pins:List (Addr×Obj))(σ:St)(Q:VK)(u:Value)(s':Shared):Prop:=∃v H',Inv X pins σ H' s'/\RelV v u/\Q v H'
def TP (X:Cx)(pins:List (Addr×Obj))(σ:St)(Q:Bool->Hp->Prop)(b:Bool)(s':Shared):Prop:=∃H',Inv X pins σ H' s'/\Q b H'
def AP (X:Cx)(pins:List (Addr×Obj))(σ:St)(Q:List V->Hp->Prop)(us:List Value)(s':Shared):Prop:=∃vs H',Inv X pins σ H' s'/\Vals vs us/\Q vs H'
def SP (X:Cx)(pins:List (Addr×Obj))(D:Ends)(f:Flow)(s':Shared):Prop:=
 match f with
 | .next=>∃σ' H',Inv X pins σ' H' s'/\D.nx σ' H'
 | .brk=>∃σ' H',Inv X pins σ' H' s'/\D.bk σ' H'
 | .cont=>∃σ' H',Inv X pins σ' H' s'/\D.ct σ' H'
 | .ret u=>∃v σ' H',Inv X pins σ' H' s'/\RelV v u/\D.rt v H'
def PE (X:Cx)(e:Expr)(t:TE):Prop:=
 ∀(pins:List (Addr×Obj)) (s:Shared) (σ:St) (H:Hp) (Q:VK),Inv X pins σ H s->t σ H Q->wpAny (model X.prog X.w) X.A (eval e X.env) (EP X pins σ Q) X.xe s
def PT (X:Cx)(e:Expr)(t:TT):Prop:=
 ∀(pins:List (Addr×Obj)) (s:Shared) (σ:St) (H:Hp) (Q:Bool->Hp->Prop),Inv X pins σ H s->t σ H Q->wpAny (model X.prog X.w) X.A (isTrue e X.env (eval e X.env)) (TP X pins σ Q) X.xe s
def PW (X:Cx)(e:Expr)(t:TT):Prop:=
 ∀(whole:Sem Value) (pins:List (Addr×Obj)) (s:Shared) (σ:St) (H:Hp) (Q:Bool->Hp->Prop),Inv X pins σ H s->t σ H Q->wpAny (model X.prog X.w) X.A (isTrue e X.env whole) (TP X pins σ Q) X.xe s
theorem PW.pt {X:Cx}{e:Expr}{t:TT}(h:PW X e t):PT X e t:=h _
def PA (X:Cx)(es:List Expr)(t:TA):Prop:=
 ∀(pos:Pos) (pins:List (Addr×Obj)) (s:Shared) (σ:St) (H:Hp) (Q:List V->Hp->Prop),Inv X pins σ H s->t σ H Q->wpAny (model X.prog X.w) X.A (spliced (backTo pos (starEach es X.env))) (AP X pins σ Q) X.xe s
def PS (X:Cx)(st:Stmt)(t:TS):Prop:=
 ∀(pins:List (Addr×Obj)) (s:Shared) (σ:St) (H:Hp) (D:Ends),Inv X pins σ H s->t D σ H->wpAny (model X.prog X.w) X.A (exec st X.env) (SP X pins D) X.xe s
def Te (X:Cx)(st:List Stmt)(t:TS):Prop:=
 ∀(pins:List (Addr×Obj)) (s:Shared) (σ:St) (H:Hp) (D:Ends),Inv X pins σ H s->t D σ H->wpAny (model X.prog X.w) X.A (execs st X.env) (SP X pins D) X.xe s
theorem Bb {α:Type}{t:Sem α}{Q Q':α->Shared->Prop}{M:Model}{A:Around}{E:Value->Shared->Prop}{s:Shared}(h:wpAny M A t Q E s)(hQ:∀a s,Q a s->Q' a s):wpAny M A t Q' E s:=wpAny_mono h hQ λ _ _ x=>x
section
variable {X:Cx}
theorem bin {a b:Expr}{ta tb:TE}(ha:PE X a ta)(hb:PE X b tb){pins:List (Addr×Obj)}{s:Shared}{σ:St}{H:Hp}{R:V->V->Hp->Prop}(I:Inv X pins σ H s)(h:ta σ H λ x H1=>tb σ H1 λ y H2=>R x y H2)
 {α:Type} {Q:α->Shared->Prop} {f:Value->Value->Sem α}
 (hf:∀v u s2 x y H2,Inv X pins σ H2 s2->RelV x v->RelV y u->R x y H2->wpAny (model X.prog X.w) X.A (f v u) Q X.xe s2):
 wpAny (model X.prog X.w) X.A (eval a X.env) (λ v s₁=>wpAny (model X.prog X.w) X.A (eval b X.env) (λ u s₂=>wpAny (model X.prog X.w) X.A (f v u) Q X.xe s₂) X.xe s₁) X.xe s:=by
 refine Bb (ha pins s σ H _ I h) λ v s1 ⟨x,H1,I1,r1,q1⟩=>?_;refine Bb (hb pins s1 σ H1 _ I1 q1) λ u s2 ⟨y,H2,I2,r2,q2⟩=>?_;exact hf v u s2 x y H2 I2 r1 r2 q2
noncomputable def OJ (i:Nat):TE:=λ σ H Q=>∃v,σ[i]?=some (some v)/\Q v H
noncomputable def tC (v:V):TE:=λ _ H Q=>Q v H
theorem fA {i:Nat}{x:Str}{pos:Pos}(hN:X.N[i]?=some x)(hv:pL X.env.scope x)(hd:(x==("__debug__" : Str))=false:=by decide)(bv:(x==("__classdict__" : Str))=false:=by decide):PE X (.Name x pos) (OJ i):=by
 intro pins s σ H Q I h;obtain⟨v,e,h⟩:=h;obtain⟨m,hn,hl⟩:=I.loc;obtain⟨u,r,l⟩:=hl i x v hN e hv;have fin:EP X pins σ Q u s:=⟨v,H,I,r,h⟩;rcases l with ⟨hk,hm⟩|⟨hk,c,hc,bK⟩
 ·exact wpAny_Name (wpAny_loadName_local I.ok.kind hk hn hm fin) hd
 ·rcases hk with hk|hk
  ·exact wpAny_Name (wpAny_loadName_cell I.ok.kind hk hc bK fin) hd
  ·exact wpAny_Name (wpAny_loadName_free I.ok.kind hk hc bK fin bv) hd
theorem fB {i j pos}:PE X (.Constant (.int i) j pos) (tC (.int i)):=λ _ _ _ H _ I h=>wpAny_Constant_int ⟨.int i,H,I.tok _,⟨_,rfl⟩,h⟩
theorem lD {b j pos}:PE X (.Constant (.bool b) j pos) (tC (.bl b)):=λ _ _ _ H _ I h=>Constant_bool ⟨.bl b,H,I,rfl,h⟩
theorem fC {j pos}:PE X (.Constant .none j pos) (tC .Ay):=λ _ _ _ H _ I h=>Constant_none ⟨.Ay,H,I,rfl,h⟩
theorem fD {x j pos}:PE X (.Constant (.str x) j pos) (tC (.str x)):=λ _ _ _ H _ I h=>Calls.Constant_str ⟨.str x,H,I.tok _,⟨_,rfl⟩,h⟩
def Gl (X:Cx)(x:Str):Prop:=X.env.kindOf x=some .globalImplicit
theorem Lf {E:Value->Shared->Prop}{pins:List (Addr×Obj)}{s:Shared}{σ:St}{H:Hp}{x:Str}{u:Value}{pos:Pos}{Q:Value->Shared->Prop}(I:Inv X pins σ H s)(hg:Gl X x)(hm:X.mg x=some u)(h:Q u s)
 (hd:(x==("__debug__" : Str))=false:=by decide):wpAny (model X.prog X.w) X.A (eval (.Name x pos) X.env) Q E s:=
 Calls.Name_function_global I.ok.kind hg (Calls.loadGlobal_global (by rw[I.ok.glob];exact I.mod.glob.keeps I.bk) hm h) hd
theorem Dh {E:Value->Shared->Prop}{pins:List (Addr×Obj)}{s:Shared}{σ:St}{H:Hp}{x:Str}{u:Value}{pos:Pos}{Q:Value->Shared->Prop}(I:Inv X pins σ H s)(hg:Gl X x)(hm:X.mg x=none)(hv:bootBuiltins x=some u)(h:Q u s)
 (hn:x ≠ "__name__" := by decide) (hd:(x==("__debug__" : Str))=false:=by decide):wpAny (model X.prog X.w) X.A (eval (.Name x pos) X.env) Q E s:=by
 obtain⟨mb,h1,h2⟩:=I.mod.blt;exact Calls.Name_function_global I.ok.kind hg (Calls.loadGlobal_builtin (by rw[I.ok.glob];exact I.mod.glob.keeps I.bk) hm (by rw[I.ok.blt];exact h1.keeps I.bk) ((h2 x hn).trans hv) h) hd
theorem YN {x:Str}{v:V}{u:Value}{pos:Pos}(hg:Gl X x)(hm:X.mg x=none)(hv:bootBuiltins x=some u)(r:RelV v u)(hn:x ≠ "__name__" := by decide)(hd:(x==("__debug__" : Str))=false:=by decide):PE X (.Name x pos) (tC v):=
 λ _ _ _ H _ I h=>Dh I hg hm hv ⟨v,H,I,r,h⟩ hn hd
variable {a b:Expr}{ta tb:TE}{pos:Pos}
def PC (X:Cx)(op:CmpOp)(a b:Expr)(t:TE):Prop:=
 ∀(pins:List (Addr×Obj)) (s:Shared) (σ:St) (H:Hp) (Q:VK),Inv X pins σ H s->t σ H Q->
  wpAny (model X.prog X.w) X.A (eval a X.env) (λ v s₁=>wpAny (model X.prog X.w) X.A (eval b X.env) (λ u s₂=>wpAny (model X.prog X.w) X.A (compareOp op v u) (EP X pins σ Q) X.xe s₂) X.xe s₁) X.xe s
theorem Q2 (b:Expr){op:CmpOp}(h:op≠.In)(h2:op≠.NotIn):behindInMarks op b=false:=by
 have e1:(op==CmpOp.In)=false:=by cases op<;>first|rfl|exact absurd rfl h
 have e2:(op==CmpOp.NotIn)=false:=by cases op<;>first|rfl|exact absurd rfl h2
 cases b<;>simp[behindInMarks,e1,e2]
noncomputable def pO (ta:TE):TE:=λ σ H Q=>ta σ H λ x H1=>Q (.bl (decide (x=.Ay))) H1
noncomputable def lE (ta:TE):TE:=λ σ H Q=>ta σ H λ x H1=>Q (.bl (!decide (x=.Ay))) H1
theorem RelV.Q3 {x:V}{v:Value}(r:RelV x v):(v==y7)=decide (x=.Ay):=by
 cases x with
 |Ay|bl _=>cases r;rfl
 |int _|str _|eW _|kZ _=>obtain⟨t,rfl⟩:=r;rfl
 |ref _|ty _=>cases r;rfl
theorem Wg {j pos'}(ha:PE X a ta):PC X .Is a (.Constant .none j pos') (pO ta):=by
 intro pins s σ H Q I h;refine Bb (ha pins s σ H _ I h) λ v s1 ⟨x,H1,I1,r1,q1⟩=>?_;exact Constant_none (is_none_gen ⟨.bl _,H1,I1,by rw[r1.Q3];rfl,q1⟩)
theorem YO {j pos'}(ha:PE X a ta):PC X .IsNot a (.Constant .none j pos') (lE ta):=by
 intro pins s σ H Q I h;refine Bb (ha pins s σ H _ I h) λ v s1 ⟨x,H1,I1,r1,q1⟩=>?_;exact Constant_none (isnot_none_gen ⟨.bl _,H1,I1,by rw[r1.Q3];rfl,q1⟩)
noncomputable def tB (t:TE):TT:=λ σ H Q=>t σ H λ x H1=>∃c,x=.bl c/\Q c H1
theorem fE {op:CmpOp}{t:TE}(h:PC X op a b t)(h1:behindInMarks op b=false:=by first | exact Q2 _ (by decide) (by decide) | rfl):PE X (.Compare a [op] [b] pos) t:=λ pins s σ H Q I hw=>wpAny_Compare1 (h pins s σ H Q I hw) h1
theorem Wh {op:CmpOp}{t:TE}(h:PC X op a b t)(h1:behindInMarks op b=false:=by first | exact Q2 _ (by decide) (by decide) | rfl):PT X (.Compare a [op] [b] pos) (tB t):=by
 intro pins s σ H Q I hw;refine wpAny_isTrue_Compare1 (Bb (h pins s σ H _ I hw) λ v s1 h1=>Bb h1 λ u s2 h2=>Bb h2 λ c s3 ⟨x,H1,I1,r1,q1⟩=>?_) h1;obtain⟨d,rfl,q⟩:=q1;cases r1;exact wpAny_truthy_bool ⟨H1,I1,q⟩
variable {tA kb:TT}{rest:List Expr}
noncomputable def pQ (t u:TT):TT:=λ σ H Q=>t σ H λ c H1=>if c=true then u σ H1 Q else Q false H1
noncomputable def uB (t u:TT):TT:=λ σ H Q=>t σ H λ c H1=>if c=true then Q true H1 else u σ H1 Q
noncomputable def pR (t:TT):TT:=λ σ H Q=>t σ H λ c H1=>Q (!c) H1
theorem pw_and1 (ha:PT X a tA):PW X (.BoolOp .And [a] pos) tA:=by
 intro wh pins s σ H Q I h;refine isTrue_and (Bb (ha pins s σ H Q I h) λ c s1 e=>?_);cases c with
 |true=>exact isTrue_and_nil e
 |false=>exact e
theorem pw_or1 (ha:PT X a tA):PW X (.BoolOp .Or [a] pos) tA:=by
 intro wh pins s σ H Q I h;refine isTrue_or (Bb (ha pins s σ H Q I h) λ c s1 e=>?_);cases c with
 |false=>exact isTrue_or_nil e
 |true=>exact e
theorem pw_and (ha:PT X a tA)(hb:PW X (.BoolOp .And (b::rest) pos) kb):PW X (.BoolOp .And (a::b::rest) pos) (pQ tA kb):=by
 intro wh pins s σ H Q I h;refine isTrue_and (Bb (ha pins s σ H _ I h) λ c s1 ⟨H1,I1,q1⟩=>?_);cases c with
 |true=>exact hb wh pins s1 σ H1 Q I1 q1
 |false=>exact⟨H1,I1,q1⟩
theorem pw_or (ha:PT X a tA)(hb:PW X (.BoolOp .Or (b::rest) pos) kb):PW X (.BoolOp .Or (a::b::rest) pos) (uB tA kb):=by
 intro wh pins s σ H Q I h;refine isTrue_or (Bb (ha pins s σ H _ I h) λ c s1 ⟨H1,I1,q1⟩=>?_);cases c with
 |true=>exact⟨H1,I1,q1⟩
 |false=>exact hb wh pins s1 σ H1 Q I1 q1
theorem fF (ha:PT X a tA):PT X (.UnaryOp .Not a pos) (pR tA):=by
 intro pins s σ H Q I h;exact isTrue_not (ha pins s σ H (λ c H1=>Q (!c) H1) I h)
noncomputable def lF (ta tb:TE):TE:=λ σ H Q=>ta σ H λ x H1=>∃c,x=.bl c/\if c=true then tb σ H1 Q else Q (.bl false) H1
noncomputable def pS (ta tb:TE):TE:=λ σ H Q=>ta σ H λ x H1=>∃c,x=.bl c/\if c=true then Q (.bl true) H1 else tb σ H1 Q
noncomputable def lG (ta:TE):TE:=λ σ H Q=>ta σ H λ x H1=>∃c,x=.bl c/\Q (.bl (!c)) H1
theorem fG {op}{t:TE}(h:PE X a t):PE X (.BoolOp op [a] pos) t:=λ pins s σ H Q I hw=>BoolOp_one (h pins s σ H Q I hw)
theorem fH (ha:PE X a ta)(hb:PE X (.BoolOp .And (b::rest) pos) tb):PE X (.BoolOp .And (a::b::rest) pos) (lF ta tb):=by
 intro pins s σ H Q I h;refine BoolOp_and (Bb (ha pins s σ H _ I h) λ v s1 ⟨x,H1,I1,r1,q1⟩=>?_);obtain⟨c,rfl,q1⟩:=q1;cases r1;refine wpAny_truthy_bool ?_;cases c with
 |true=>exact hb pins s1 σ H1 Q I1 q1
 |false=>exact⟨.bl false,H1,I1,rfl,q1⟩
theorem lH (ha:PE X a ta)(hb:PE X (.BoolOp .Or (b::rest) pos) tb):PE X (.BoolOp .Or (a::b::rest) pos) (pS ta tb):=by
 intro pins s σ H Q I h;refine BoolOp_or (Bb (ha pins s σ H _ I h) λ v s1 ⟨x,H1,I1,r1,q1⟩=>?_);obtain⟨c,rfl,q1⟩:=q1;cases r1;refine wpAny_truthy_bool ?_;cases c with
 |false=>exact hb pins s1 σ H1 Q I1 q1
 |true=>exact⟨.bl true,H1,I1,rfl,q1⟩
theorem fI (ha:PE X a ta):PE X (.UnaryOp .Not a pos) (lG ta):=by
 intro pins s σ H Q I h;refine UnaryOp_ (Bb (ha pins s σ H _ I h) λ v s1 ⟨x,H1,I1,r1,q1⟩=>?_);obtain⟨c,rfl,q1⟩:=q1;cases r1;exact not_of (wpAny_truthy_bool ⟨.bl (!c),H1,I1,rfl,q1⟩)
end
def Dt (K:za)(H:Hp)(a:Addr)(xs:List V):Prop:=
 Rd H a (.lst xs) \/
  ∃(o:Obj) (aa:Array Value) (n:Nat),K.lookup a=some o/\o.cls=.type "list" /\ o.dict=none/\o.data=.seq aa n/\aa.size<=sizeLine/\Vals xs aa.toList
def Gk (K:za)(H:Hp)(a:Addr)(xs:List V):Prop:=
 Rd H a (.tup xs) \/
  ∃(o:Obj) (aa:Array Value) (n:Nat),K.lookup a=some o/\o.cls=.type "tuple" /\ o.data=.seq aa n/\aa.size<=sizeLine/\Vals xs aa.toList
noncomputable def pT:Value->Option V
 | .none=>some .Ay
 | .bool b=>some (.bl b)
 | .int i _=>some (.int i)
 | .str x _=>some (.str x)
 | .bytes b _=>some (.eW b)
 | .float b _=>some (.kZ b)
 | .ref a=>some (.ref a)
 | .type n=>some (.ty n)
 |_=>none
theorem RelV.abs {x:V}{u:Value}(r:RelV x u):pT u=some x:=by
 cases x with
 |Ay|bl _=>cases r;rfl
 |int _|str _|eW _|kZ _=>obtain⟨t,rfl⟩:=r;rfl
 |ref _|ty _=>cases r;rfl
theorem RelV.inj {x y:V}{u:Value}(r:RelV x u)(q:RelV y u):x=y:=z0 (r.abs.symm.trans q.abs)
theorem Vals.inj:∀ {xs ys:List V}{us:List Value},Vals xs us->Vals ys us->xs=ys
 |_,_,_,.nil,.nil=>rfl
 |_,_,_,.cons r t,.cons r' t'=>by rw[r.inj r',Vals.inj t t']
section
variable {X:Cx}{pins:List (Addr×Obj)}{σ:St}{H:Hp}{s:Shared}{a:Addr}{xs ys:List V}
theorem Dt.of {K:za}(h:H a=some (.lst xs)):Dt K H a xs:=.inl (.inl h)
theorem Gk.of {K:za}(h:H a=some (.tup xs)):Gk K H a xs:=.inl (.inl h)
theorem Inv.list (I:Inv X pins σ H s)(h:Dt X.K H a xs):∃aa:List Value,Vals xs aa/\PlainL s.heap a aa.toArray/\xs.length<=sizeLine:=by
 rcases h with h|⟨o,aa,n,hk,hc,hd,hs,hz,r⟩
 ·obtain⟨z,aa,n,r,e⟩:=h.ok I.Ar;exact⟨aa,r,⟨_,n,e,rfl,rfl,rfl⟩,z⟩
 ·refine⟨aa.toList,r,⟨o,n,I.L3 a o hk,hc,hd,by simpa using hs⟩,?_⟩;have e:=r.length;simp only[yp] at e;omega
theorem Inv.tuple (I:Inv X pins σ H s)(h:Gk X.K H a xs):∃aa:List Value,Vals xs aa/\IsTup s.heap a aa.toArray/\xs.length<=sizeLine:=by
 rcases h with h|⟨o,aa,n,hk,hc,hs,hz,r⟩
 ·obtain⟨z,aa,r,p⟩:=h.ok I.Ar;exact⟨aa,r,p,z⟩
 ·refine⟨aa.toList,r,⟨o,I.L3 a o hk,hc,n,by simpa using hs⟩,?_⟩;have e:=r.length;simp only[yp] at e;omega
theorem Inv.J7 (I:Inv X pins σ H s)(h:Dt X.K H a xs)(h':Dt X.K H a ys):xs=ys:=by
 obtain⟨aa,r,⟨o,n,e,_,_,d⟩,_⟩:=I.list h;obtain⟨its',r',⟨o',n',e',_,_,d'⟩,_⟩:=I.list h';rw[e] at e';cases e';rw[d] at d';injection d' with d1 _
 have:aa=its':=by simpa using congrArg Array.toList d1
 subst this;exact r.inj r'
theorem Inv.Hl (I:Inv X pins σ H s)(h:Gk X.K H a xs)(h':Gk X.K H a ys):xs=ys:=by
 obtain⟨aa,r,⟨o,e,_,n,d⟩,_⟩:=I.tuple h;obtain⟨its',r',⟨o',e',_,n',d'⟩,_⟩:=I.tuple h';rw[e] at e';cases e';rw[d] at d';injection d' with d1 _
 have:aa=its':=by simpa using congrArg Array.toList d1
 subst this;exact r.inj r'
end
noncomputable abbrev Cx.Na (X:Cx)(E:Value->Shared->Prop):Cx:={X with xe:=E}
noncomputable abbrev Cx.lI (X:Cx):Cx:=X.Na λ _ _=>False
theorem Cx.Ok.Na {X:Cx}(ok:X.Ok)(E:Value->Shared->Prop):(X.Na E).Ok:=
 ⟨ok.mod,ok.kind,ok.glob,ok.blt,ok.above,ok.inj,ok.has,ok.lC,ok.hd,ok.frames,ok.dJ,ok.oU,ok.bs,ok.YM,ok.We,ok.Wf,ok.J5,ok.eY⟩
theorem Cx.Ok.Gz {X:Cx}{E:Value->Shared->Prop}(ok:(X.Na E).Ok):X.Ok:=
 ⟨ok.mod,ok.kind,ok.glob,ok.blt,ok.above,ok.inj,ok.has,ok.lC,ok.hd,ok.frames,ok.dJ,ok.oU,ok.bs,ok.YM,ok.We,ok.Wf,ok.J5,ok.eY⟩
section
variable {X:Cx}{pins:List (Addr×Obj)}{σ:St}{H:Hp}{s:Shared}{E:Value->Shared->Prop}
theorem Inv.Na (I:Inv X pins σ H s)(E:Value->Shared->Prop):Inv (X.Na E) pins σ H s:=⟨I.ok.Na E,I.os,I.bare,I.base,I.loc,I.cell,I.free,I.F4,I.pin,I.Ar,I.len⟩
theorem Inv.Gz (I:Inv (X.Na E) pins σ H s):Inv X pins σ H s:=⟨I.ok.Gz,I.os,I.bare,I.base,I.loc,I.cell,I.free,I.F4,I.pin,I.Ar,I.len⟩
theorem SP.Gz {D:Ends}{f:Flow}{s':Shared}(h:SP (X.Na E) pins D f s'):SP X pins D f s':=by
 cases f with
 |next|brk|cont=>obtain⟨σ',H',I,q⟩:=h;exact⟨σ',H',I.Gz,q⟩
 |ret u=>obtain⟨v,σ',H',I,r,q⟩:=h;exact⟨v,σ',H',I.Gz,r,q⟩
theorem Te.lI {st:List Stmt}{t:TS}(h:Te X.lI st t):Te X st t:=λ pins s σ H D I hw =>
 wpAny_mono (h pins s σ H D (I.Na _) hw) (λ _ _ q=>q.Gz) λ _ _ z=>yD z
end
section
variable {X:Cx}{st:Stmt}{rest:List Stmt}{t u:TS}{e:Expr}{te:TE}{pos:Pos}
noncomputable def lJ:TS:=λ D σ H=>D.nx σ H
noncomputable def pU (t u:TS):TS:=λ D σ H=>t {D with nx:=u D} σ H
theorem YQ:Te X [] lJ:=λ _ _ σ H _ I h=>wpAny_execs_nil ⟨σ,H,I,h⟩
theorem Wi (h1:PS X st t)(h2:Te X rest u):Te X (st::rest) (pU t u):=by
 intro pins s σ H D I h;refine wpAny_execs_cons (Bb (h1 pins s σ H {D with nx:=u D} I h) λ f s1 q=>?_);cases f with
 |next =>
  obtain⟨σ',H',I',q⟩:=q;exact h2 pins s1 σ' H' D I' q
 |ret v|brk|cont=>exact q
theorem YR (h1:PS X st t):Te X [st] t:=by
 intro pins s σ H D I h;refine wpAny_execs_cons (Bb (h1 pins s σ H D I h) λ f s1 q=>?_);cases f with
 |next=>exact wpAny_execs_nil q
 |ret v|brk|cont=>exact q
theorem Inv.quiet {pins:List (Addr×Obj)}{σ:St}{H:Hp}{s:Shared}(I:Inv X pins σ H s):interactive X.env=false:=by simp[interactive,I.ok.kind]
noncomputable def lK (te:TE):TS:=λ D σ H=>te σ H λ _ H1=>D.nx σ H1
theorem FL (he:PE X e te)(hs:swapsWith e none pos.line X.env=pure false:=by rfl):PS X (.Expr e pos) (lK te):=by
 intro pins s σ H D I h;exact wpAny_Expr_any (Bb (he pins s σ H _ I h) λ v s1 ⟨x,H1,I1,r1,q1⟩=>⟨σ,H1,I1,q1⟩) I.quiet hs
noncomputable def pV (te:TE):TS:=λ D σ H=>te σ H D.rt
theorem RE (he:PE X e te):PS X (.Return (some e) pos) (pV te):=by
 intro pins s σ H D I h;exact wpAny_Return_some (Bb (he pins s σ H _ I h) λ v s1 ⟨x,H1,I1,r1,q1⟩=>⟨x,σ,H1,I1,r1,q1⟩)
noncomputable def pW (c:TT)(t u:TS):TS:=λ D σ H=>c σ H λ b H1=>if b=true then t D σ H1 else u D σ H1
theorem lL {c:Expr}{a b:List Stmt}{tc:TT}(hc:PT X c tc)(ha:Te X a t)(hb:Te X b u):PS X (.If c a b pos) (pW tc t u):=by
 intro pins s σ H D I h;refine wpAny_If (Bb (hc pins s σ H _ I h) λ d s1 ⟨H1,I1,q1⟩=>?_);cases d with
 |true=>exact ha pins s1 σ H1 D I1 q1
 |false=>exact hb pins s1 σ H1 D I1 q1
end
noncomputable abbrev TG:=V->St->Hp->(St->Hp->Prop)->Prop
noncomputable abbrev dN:=List V->St->Hp->(St->Hp->Prop)->Prop
def PG (X:Cx)(target:Expr)(t:TG):Prop:=
 ∀(pins:List (Addr×Obj)) (s:Shared) (σ:St) (H:Hp) (v:V) (u:Value) (Q:St->Hp->Prop),Inv X pins σ H s->RelV v u->t v σ H Q->
  wpAny (model X.prog X.w) X.A (assign target X.env u) (λ _ s'=>∃σ' H',Inv X pins σ' H' s'/\Q σ' H') X.xe s
def lM (X:Cx)(ts:List Expr)(t:dN):Prop:=
 ∀(pins:List (Addr×Obj)) (s:Shared) (σ:St) (H:Hp) (vs:List V) (us:List Value) (Q:St->Hp->Prop),Inv X pins σ H s->Vals vs us->t vs σ H Q->
  wpAny (model X.prog X.w) X.A (assignInOrder ((assignEach ts X.env).map (·.2)) us) (λ _ s'=>∃σ' H',Inv X pins σ' H' s'/\Q σ' H') X.xe s
noncomputable abbrev fJ:=V->V->V->Hp->(Hp->Prop)->Prop
def lN (X:Cx)(t:fJ):Prop:=
 ∀(pins:List (Addr×Obj)) (s:Shared) (σ:St) (H:Hp) (o i v:V) (ov iv u:Value) (Q:Hp->Prop),Inv X pins σ H s->RelV o ov->RelV i iv->RelV v u->t o i v H Q->
  wpAny (model X.prog X.w) X.A (setItem ov iv u) (λ _ s'=>∃H',Inv X pins σ H' s'/\Q H') X.xe s
section
variable {X:Cx}{pos:Pos}
noncomputable def Tf (i:Nat):TG:=λ v σ H Q=>Q (σ.set i (some v)) H
theorem Tg {i:Nat}{x:Str}(hN:X.N.Nodup)(hi:X.N[i]?=some x)(hx:Loc X.env.scope x)(hf:X.fn x=true\/X.env.scope.names.lookup x=some .local:=by first | exact .inl rfl | exact .inr rfl | assumption):PG X (.Name x pos) (Tf i):=by
 intro pins s σ H v u Q I r h;exact wpAny_assign_Name (Q1 I hN hi hx r (λ s' I'=>⟨_,H,I',h⟩) hf)
noncomputable def pX:dN:=λ vs σ H Q=>vs=[]/\Q σ H
noncomputable def lO (t:TG)(u:dN):dN:=λ vs σ H Q=>∃v r,vs=v::r/\t v σ H λ σ' H'=>u r σ' H' Q
theorem YS:lM X [] pX:=by
 intro pins s σ H vs us Q I r h;obtain⟨e,h⟩:=h;subst e;cases r;exact assignInOrder_nil ⟨σ,H,I,h⟩
theorem Wj {e:Expr}{es:List Expr}{t:TG}{u:dN}(h1:PG X e t)(h2:lM X es u)
 (hs:(assignEach (e::es) X.env).map (·.2)=assign e X.env::(assignEach es X.env).map (·.2):=by rfl):lM X (e::es) (lO t u):=by
 intro pins s σ H vs us Q I r h;obtain⟨v,vr,e1,h⟩:=h;subst e1;cases r with
 |cons r rr =>
  rw[hs];refine assignInOrder_cons (Bb (h1 pins s σ H _ _ _ I r h) λ _ s1 ⟨σ1,H1,I1,q1⟩=>?_);exact h2 pins s1 σ1 H1 _ _ Q I1 rr q1
noncomputable def pY (K:za)(n:Nat)(t:dN):TG:=λ v σ H Q=>∃a xs,v=.ref a/\Gk K H a xs/\xs.length=n/\t xs σ H Q
theorem fK {es:List Expr}{k:Nat}{t:dN}{n:Nat}(hc:X.calm=true)(h:lM X es t)
 (hn:(assignEach es X.env).length=n:=by rfl) (bc:(assignEach es X.env).findIdx? (·.1)=none:=by rfl):PG X (.Tuple es k pos) (pY X.K n t):=by
 intro pins s σ H v u Q I r hw;obtain⟨a,xs,e1,hq,hl,hw⟩:=hw;subst e1;cases r;obtain⟨aa,rv,ht,hz⟩:=I.tuple hq;refine assign_Tuple_tuple (I.ok.hd hc) ht (by simp[hn,<-hl,rv.length]) bc λ h' hx=>?_;have I1:Inv X pins σ H {s with heap:=h' }:=I.kept (t':=s.toks) λ b o e=>hx b o (zB (zt e)) e;exact h pins _ σ H xs _ Q I1 (by simpa using rv) hw
noncomputable def pZ (to ti:TE)(t:fJ):TG:=λ v σ H Q=>to σ H λ o H1=>ti σ H1 λ i H2=>t o i v H2 λ H3=>Q σ H3
theorem fL {o i:Expr}{to ti:TE}{t:fJ}(ho:PE X o to)(hi:PE X i ti)(hs:lN X t)
 (ha:∀v,assign (.Subscript o i pos) X.env v=(do
  let ov <-holding [v] (eval o X.env);let iv <-holding [v,ov] (eval i X.env)
  standAt pos
  holding [v,ov,iv] (setItem ov iv v)
  release [v,ov,iv] []):=by intro _;rfl):PG X (.Subscript o i pos) (pZ to ti t):=by
 intro pins s σ H v u Q I r h;rw[ha];refine wpAny_bind (wpAny_holding (Bb (ho pins s σ H _ I h) λ ov s1 ⟨x,H1,I1,r1,q1⟩=>?_));refine wpAny_bind (wpAny_holding (Bb (hi pins s1 σ H1 _ I1 q1) λ iv s2 ⟨y,H2,I2,r2,q2⟩=>?_));refine wpAny_bind (wpAny_standAt (wpAny_bind (wpAny_holding (Bb (hs pins s2 σ H2 x y v ov iv u _ I2 r1 r2 r q2) λ _ s3 ⟨H3,I3,q3⟩=>?_))));exact wpAny_release ⟨σ,H3,I3,q3⟩
noncomputable def lP (te:TE)(g:TG):TS:=λ D σ H=>te σ H λ x H1=>g x σ H1 D.nx
theorem fM {tg e:Expr}{te:TE}{g:TG}(he:PE X e te)(hg:PG X tg g)(hs:swapsWithSole [tg] e pos.line X.env=pure false:=by rfl)(hw:swappedStores [tg] e X.env=pure none:=by rfl)
 (h1:(assignEach [tg] X.env).map (·.2)=[assign tg X.env]:=by rfl):PS X (.Assign [tg] e pos) (lP te g):=by
 intro pins s σ H D I h;refine wpAny_Assign_stores (Bb (he pins s σ H _ I h) λ v s1 ⟨x,H1,I1,r1,q1⟩=>?_) hs hw;rw[h1];exact Bb (hg pins s1 σ H1 x v _ I1 r1 q1) λ _ s2 q=>q
theorem Wl {i:Nat}{x:Str}{e:Expr}{te:TE}{pos':Pos}(hN:X.N.Nodup)(hi:X.N[i]?=some x)(hx:Loc X.env.scope x)(he:PE X e te)(hs:swapsWith e (some (.Name x pos')) pos.line X.env=pure false:=by rfl)(hf:X.fn x=true\/X.env.scope.names.lookup x=some .local:=by first | exact .inl rfl | exact .inr rfl | assumption):
 PS X (.Assign [.Name x pos'] e pos) (lP te (Tf i)):=by
 intro pins s σ H D I h;refine wpAny_Assign_Name (Bb (he pins s σ H _ I h) λ v s1 ⟨y,H1,I1,r1,q1⟩=>?_) hs;exact Q1 I1 hN hi hx r1 (λ s2 I2=>⟨_,H1,I2,q1⟩) hf
end
section
variable {X:Cx}{pos:Pos}
noncomputable def fN (c:TT)(tb:TS):TS:=λ D σ H=>∃W:Nat->St->Hp->Prop,(∃m,W m σ H)/\∀m σ H,W m σ H->
 c σ H λ b H1=>if b=true then ∃N:St->Hp->Prop,(∀σ' H',N σ' H'->∃m',m'<m/\W m' σ' H')/\tb {D with nx:=N,ct:=N,bk:=D.nx} σ H1 else D.nx σ H1
theorem Wm {c:Expr}{body:List Stmt}{tc:TT}{tb:TS}(hp:PassesOwn (model X.prog X.w) X.A X.env X.xe)(hc:PT X c tc)(hb:Te X body tb):PS X (.While c body [] pos) (fN tc tb):=by
 intro pins s σ H D I h;obtain⟨W,⟨m0,w0⟩,turn⟩:=h;refine wpAny_While (codeAny_whileLoop (λ n s'=>∃σ' H',Inv X pins σ' H' s'/\W n σ' H') ?_ m0 ⟨σ,H,I,w0⟩);rintro n s1 ⟨σ1,H1,I1,w1⟩;refine wpAny_passesOwn hp (Bb (hc pins s1 σ1 H1 _ I1 (turn n σ1 H1 w1)) λ b s2 ⟨H2,I2,q2⟩=>?_);cases b with
 |true =>
  obtain⟨N,hN,q2⟩:=q2;rw[if_pos rfl];refine wpAny_passesOwn hp (Bb (hb pins s2 σ1 H2 _ I2 q2) λ f s3 q3=>?_);cases f with
  |next =>
   obtain⟨σ3,H3,I3,n3⟩:=q3;obtain⟨m',hm,w3⟩:=hN σ3 H3 n3;exact⟨m',hm,σ3,H3,I3,w3⟩
  |cont =>
   obtain⟨σ3,H3,I3,n3⟩:=q3;obtain⟨m',hm,w3⟩:=hN σ3 H3 n3;exact⟨m',hm,σ3,H3,I3,w3⟩
  |brk|ret v=>exact q3
 |false =>
  rw[if_neg zI];exact wpAny_execs_nil ⟨σ1,H2,I2,q2⟩
end
structure It where
 go:Nat->Hp->Prop
 YT:Nat->Hp->V->Hp->Prop
 stop:Nat->Hp->Prop
def L4 (X:Cx)(pins:List (Addr×Obj))(H:Hp)(b:Addr):Prop:=
 H b=none/\b≠X.env.locals/\b∉X.fs/\(b∈X.ex\/X.s₀.heap.objs.size<=b)/\(∀x c,X.env.cells.lookup x=some c->c≠b)/\∀p∈X.pn++pins,p.1≠b
theorem Inv.Wn {X:Cx}{pins:List (Addr×Obj)}{σ:St}{H H':Hp}{s:Shared}{b:Addr}(I:Inv X pins σ H s)(hb:s.heap.objs.size<=b)(hn:H' b=none):L4 X pins H' b:=by
 refine⟨hn,Nat.ne_of_gt (zG I.lt hb),I.pN hb,.inr (yk I.sz hb),λ x c e z=>?_,λ p hp z=>?_⟩
 ·obtain⟨v,q⟩:=I.cell x c e;exact absurd (zG q.lt (by rw[z];exact hb)) (Nat.lt_irrefl _)
 ·exact absurd (zG (zt (I.pin p hp).1) (by rw[z];exact hb)) (Nat.lt_irrefl _)
structure Turn (P:Program)(w:World)(K:za)(tg:Expr)(J:It)(fp:List Addr)(it:Addr)(tn:Nat->Heap->Prop):Prop where
 mem:it∈fp
 obj:∀i h,tn i h->∀b∈fp,∃o,h.get? b=some o/\∀v,o.data≠.cell v
 keep:∀i h h',tn i h->(∀b∈fp,∀o,h.get? b=some o->h'.get? b=some o)->tn i h'
 item:∀(X:Cx),X.prog=P->X.w=w->X.K=K->X.calm=true->∀(i:Nat) (pins:List (Addr×Obj)) (s:Shared) (σ:St) (H:Hp) (E:Value->Shared->Prop),Inv X pins σ H s->(∀b∈fp,L4 X pins H b)->tn i s.heap->J.go i H->
  wpAny (model P w) X.A (pyNext (.ref it)) (λ r s1=>∃u,r=some u/\
   wpAny (model P w) X.A (letOwnedTupleGo tg (.ref it) u) (λ _ s2=>∃x H',Inv X pins σ H' s2/\RelV x u/\J.YT i H x H'/\tn (i+1) s2.heap/\∀b∈fp,H' b=none) E s1) E s
 done:∀(X:Cx),X.prog=P->X.w=w->X.K=K->X.calm=true->∀(i:Nat) (pins:List (Addr×Obj)) (s:Shared) (σ:St) (H:Hp) (E:Value->Shared->Prop),Inv X pins σ H s->(∀b∈fp,L4 X pins H b)->tn i s.heap->J.stop i H->
  wpAny (model P w) X.A (pyNext (.ref it)) (λ r s1=>r=none/\Inv X pins σ H s1) E s
 self:∀(A:Around) (i:Nat) (s:Shared) (Q:Value->Shared->Prop) (E:Value->Shared->Prop),tn i s.heap->Q (.ref it) s->wpAny (model P w) A (pyIter (.ref it)) Q E s
noncomputable abbrev TI:=St->Hp->(It->Hp->Prop)->Prop
def qA (X:Cx)(pins:List (Addr×Obj))(σ:St)(tg:Expr)(R:It->Hp->Prop)(kc:Value)(s2:Shared):Prop:=
 ∃(it:Addr) (fp:List Addr) (tn:Nat->Heap->Prop) (J:It) (H':Hp),kc=.ref it/\Inv X pins σ H' s2/\Turn X.prog X.w X.K tg J fp it tn/\tn 0 s2.heap/\(∀b∈fp,L4 X pins H' b)/\R J H'
def PI (X:Cx)(tg iter:Expr)(wi:TI):Prop:=
 ∀(pins:List (Addr×Obj)) (s:Shared) (σ:St) (H:Hp) (R:It->Hp->Prop),Inv X pins σ H s->wi σ H R->
  wpAny (model X.prog X.w) X.A (eval iter X.env) (λ v s1=>wpAny (model X.prog X.w) X.A (pyIter v) (qA X pins σ tg R) X.xe s1) X.xe s
theorem Wo {M:Model}{A:Around}{E:Value->Shared->Prop}{s:Shared}{tg:Expr}{it:Addr}{u:Value}{o:Obj}{n:String}{vs:Array Value}{Q:Unit->Shared->Prop}(ho:s.heap.get? it=some o)(hc:o.cls=.type n)(hd:o.data=.fields vs)
 (hn:["enumerate","zip","dict_itemiterator","dict_reverseitemiterator","odict_iterator","itertools.zip_longest","itertools.pairwise"].contains n=false) (hQ:Q () s):wpAny M A (letOwnedTupleGo tg (.ref it) u) Q E s:=by
 unfold letOwnedTupleGo;cases tg<;>first
  |exact wpAny_pure hQ
  |(cases u<;>first
   |exact wpAny_pure hQ
   |(
    refine wpAny_bind (wpAny_load ho ?_);rw[hc,hd];show wpAny M A (if (["enumerate","zip","dict_itemiterator","dict_reverseitemiterator","odict_iterator","itertools.zip_longest","itertools.pairwise"].contains n&&vs[0]?== some (rawInt _))=true then _ else _) Q E s;rw[if_neg (by intro h;rw[hn,Bool.false_and] at h;cases h)];exact wpAny_pure hQ))
noncomputable def sL (K:za)(a:Addr):It:=
 ⟨λ i H=>∃xs x,Dt K H a xs/\xs[i]?=some x,λ i H x H'=>H'=H/\∀xs,Dt K H a xs->xs[i]?=some x,λ i H=>∃xs,Dt K H a xs/\xs.length<=i⟩
noncomputable def oV (lo:Int)(n:Nat):It:=⟨λ i _=>i<n,λ i H x H'=>H'=H/\x=.int (lo+i),λ i _=>n<=i⟩
theorem UA {P:Program}{w:World}{K:za}{tg:Expr}(a it:Addr):Turn P w K tg (sL K a) [it] it (λ i h=>h.IsListIter it a i) where
 mem:=by simp
 obj:=λ i h st b hb=>by
  have e:b=it:=by simpa using hb
  subst e;obtain⟨o,e,c,d⟩:=st;exact⟨o,e,λ v z=>by rw[d] at z;cases z⟩
 keep:=λ i h h' st k=>st.at λ o e=>k it (by simp) o e
 item:=by
  intro X hP hw hK hc i pins s σ H E I hf st hg;subst hP hw hK;obtain⟨xs,x,hq,hx⟩:=hg;obtain⟨aa,rv,p,hz⟩:=I.list hq;obtain⟨u,hu,ru⟩:=rv.get hx;obtain⟨f0,f1,f2,f3,f4,f5⟩:=hf it (by simp);refine wpAny_pyNext_list_item st p.isList (x:=u) (by simpa using hu) λ h' bY sb=>?_;have I1:Inv X pins σ H {s with heap:=h' }:=I.turned (t':=s.toks) (λ b o hb e=>(sb.2 b hb).trans e) f0 f1 f3 f4 f5;obtain⟨o,e,c,d⟩:=id bY;exact⟨u,rfl,Wo (s:={s with heap:=h' }) e c d (by decide) ⟨x,H,I1,ru,⟨rfl,λ ys hy=>by rw[I.J7 hy hq];exact hx⟩,bY,λ b hb=>(hf b hb).1⟩⟩
 done:=by
  intro X hP hw hK hc i pins s σ H E I hf st hg;subst hP hw hK;obtain⟨xs,hq,hx⟩:=hg;obtain⟨aa,rv,p,hz⟩:=I.list hq;obtain⟨f0,f1,f2,f3,f4,f5⟩:=hf it (by simp);have hl:=rv.length;exact wpAny_pyNext_list_end (I.ok.hd hc) st p.isList (by simp;omega) λ h' eb=>⟨rfl,I.turned (t':=s.toks) (λ b o hb e=>eb b o hb e) f0 f1 f3 f4 f5⟩
 self:=λ _ _ _ _ _ st h=>wpAny_pyIter_listiter st h
theorem RF {P:Program}{w:World}{K:za}{tg:Expr}(it:Addr)(lo:Int)(n:Nat):Turn P w K tg (oV lo n) [it] it (λ i h=>IsRangeIter h it (lo+(i:Nat)*1) ((n:Int)-(i:Nat)) 1) where
 mem:=by simp
 obj:=λ i h st b hb=>by
  have e:b=it:=by simpa using hb
  subst e;exact⟨_,st,λ v z=>by
   have z':Data.fields _=Data.cell v:=z;cases z'⟩
 keep:=λ i h h' st k=>k it (by simp) _ st
 item:=by
  intro X hP hw hK hc i pins s σ H E I hf st hg;subst hP hw hK;obtain⟨f0,f1,f2,f3,f4,f5⟩:=hf it (by simp);have W:=Walks.range (prog:=X.prog) (w:=X.w) (I.ok.hd hc) it lo 1 n;refine W.item i s _ _ hg st λ v h' tk hv bY kk=>?_;obtain⟨t,rfl⟩:=hv;have I1:Inv X pins σ H {s with heap:=h',toks:=tk}:=I.turned (λ b o hb e=>kk b o (by simpa using hb) e) f0 f1 f3 f4 f5;refine⟨_,rfl,Wo (s:={s with heap:=h',toks:=tk}) (n := "range_iterator") bY rfl rfl (by decide) ⟨.int (lo+i),H,I1,⟨t,?_⟩,⟨rfl,rfl⟩,bY,λ b hb=>(hf b hb).1⟩⟩;rw[Int.mul_one]
 done:=by
  intro X hP hw hK hc i pins s σ H E I hf st hg;subst hP hw hK;obtain⟨f0,f1,f2,f3,f4,f5⟩:=hf it (by simp);exact wpAny_pyNext_range_end (I.ok.hd hc) st (by have:n<=i:=hg;omega) λ h' eb=>⟨rfl,I.turned (t':=s.toks) (λ b o hb e=>eb b o hb e) f0 f1 f3 f4 f5⟩
 self:=λ _ _ _ _ _ st h=>wpAny_pyIter_rangeiter st h
section
variable {X:Cx}{tg:Expr}
noncomputable def lQ (K:za)(tl:TE):TI:=λ σ H R=>tl σ H λ x H1=>∃a,x=.ref a/\(∃xs,Dt K H1 a xs)/\R (sL K a) H1
theorem Th {l:Expr}{tl:TE}(hl:PE X l tl):PI X tg l (lQ X.K tl):=by
 intro pins s σ H R I h;refine Bb (hl pins s σ H _ I h) λ v s1 ⟨x,H1,I1,r1,q1⟩=>?_;obtain⟨a,e,⟨xs,hq⟩,q⟩:=q1;subst e;cases r1;obtain⟨aa,rv,p,hz⟩:=I1.list hq;refine wpAny_pyIter_list p.isList ?_;refine⟨s1.heap.objs.size,[s1.heap.objs.size],_,_,H1,rfl,I1.kept (t':=s1.toks) λ b o e=>zi _ e,UA a _,⟨_,zA _ rfl,rfl,rfl⟩,λ b hb=>?_,q⟩;have e:b=s1.heap.objs.size:=by simpa using hb
 subst e;exact I1.Wn (zv _) (I1.Ar.fresh (zv _))
theorem Wq {pins:List (Addr×Obj)}{σ:St}{H:Hp}{s:Shared}{R:It->Hp->Prop}{E:Value->Shared->Prop}{lo hi:Int}{t u v:Tok}{tk:Nat}(I:Inv X pins σ H s)(h1 : -(2^62)<=lo)(h2:lo<2^62)(h3 : -(2^62)<=hi)(h4:hi<2^62)
 (q:R (oV lo (hi-lo).toNat) H):wpAny (model X.prog X.w) X.A (pyIter (.ref s.heap.objs.size)) (qA X pins σ tg R) E {s with heap:=s.heap.push {cls:=.type "range",data:=.fields #[.int lo t,.int hi u,.int 1 v]},toks:=tk}:=by
 refine wpAny_pyIter_range (IsRange.new ..) (small_one h1 h2 h3 h4) ?_;have I1:Inv X pins σ H {s with heap:=s.heap.push {cls:=.type "range",data:=.fields #[.int lo t,.int hi u,.int 1 v]},toks:=tk}:=I.kept λ b o e=>zi _ e;refine⟨(s.heap.push {cls:=.type "range",data:=.fields #[.int lo t,.int hi u,.int 1 v]}).objs.size,[(s.heap.push {cls:=.type "range",data:=.fields #[.int lo t,.int hi u,.int 1 v]}).objs.size],_,_,H,rfl,
  I1.kept (t':=tk) λ b o e=>zi _ e,RF _ lo (hi-lo).toNat,?_,λ b hb=>?_,q⟩
 ·have e1:lo+((0:Nat):Int)*1=lo:=by simp
  have e2:(((hi-lo).toNat:Nat):Int)-((0:Nat):Int)=Builtin.Range.rangeSize lo hi 1:=by rw[rangeSize_one];split<;>omega
  show IsRangeIter _ _ (lo+((0:Nat):Int)*1) ((((hi-lo).toNat:Nat):Int)-((0:Nat):Int)) 1;rw[e1,e2];exact zA _ rfl
 ·have e:b=(s.heap.push {cls:=.type "range",data:=.fields #[.int lo t,.int hi u,.int 1 v]}).objs.size:=by simpa using hb
  subst e;exact I1.Wn (zv _) (I1.Ar.fresh (zv _))
noncomputable def lR (ta:TA):TI:=λ σ H R=>ta σ H λ vs H1=>∃j:Int,vs=[.int j]/\-(2^62)<=j/\j<2^62/\R (oV 0 j.toNat) H1
theorem UB {a:Expr}{ta:TA}{p pos:Pos}(hg:Gl X "range")(hm:X.mg "range" = none)(ha:PA X [a] ta)(hs:starEach [a] X.env=[(false,eval a X.env)]:=by rfl):PI X tg (.Call (.Name "range" p) [a] [] pos) (lR ta):=by
 intro pins s σ H R I h;refine Call_ (Dh I hg hm boot_range (yq (Bb (ha pos pins s σ H _ I h) λ us s1 ⟨vs,H1,I1,r1,q1⟩=>?_) hs rfl));obtain⟨j,e,q1,q2,q⟩:=q1;subst e;cases r1 with
 |cons r rr =>
  cases rr;obtain⟨t,rfl⟩:=r;exact call_range_1 (Wq I1 (by omega) (by omega) q1 q2 (by simpa using q))
noncomputable def qB (wi:TI)(g:TG)(tb:TS):TS:=λ D σ H=>wi σ H λ J H1=>∃W:Nat->Nat->St->Hp->Prop,(∃m,W 0 m σ H1)/\∀i m σ H,W i m σ H->
 (J.stop i H/\D.nx σ H)\/(J.go i H/\∃N:St->Hp->Prop,(∀σ' H',N σ' H'->∃m',m'<m/\W (i+1) m' σ' H')/\∀x H',J.YT i H x H'->g x σ H' λ σ2 H2=>tb {D with nx:=N,ct:=N,bk:=D.nx} σ2 H2)
noncomputable def Im (fp:List Addr)(h:Heap):List (Addr×Obj):=fp.filterMap λ b=>(h.get? b).map λ o=>(b,o)
theorem FN {fp:List Addr}{h:Heap}{b:Addr}{o:Obj}(hb:b∈fp)(e:h.get? b=some o):(b,o)∈Im fp h:=List.mem_filterMap.mpr ⟨b,hb,by rw[e];rfl⟩
theorem NA {fp:List Addr}{h:Heap}{p:Addr×Obj}(hp:p∈Im fp h):p.1∈fp/\h.get? p.1=some p.2:=by
 obtain⟨b,hb,e⟩:=List.mem_filterMap.mp hp;cases q:h.get? b with
 |none=>rw[q] at e;cases e
 |some o =>
  rw[q] at e;have e':(b,o)=p:=z0 e;subst e';exact⟨hb,q⟩
theorem Inv.pinned {pins:List (Addr×Obj)}{σ:St}{H:Hp}{s:Shared}{fp:List Addr}(I:Inv X pins σ H s)(hf:∀b∈fp,L4 X pins H b)(ho:∀b∈fp,∃o,s.heap.get? b=some o/\∀v,o.data≠.cell v):Inv X (pins++Im fp s.heap) σ H s:=
 I.J6 λ p hp=>(zL.mp hp).elim (λ z=>I.pin p (zm _ z)) λ z=>by
  obtain⟨hb,e⟩:=NA z;obtain⟨f0,f1,f2,_⟩:=hf p.1 hb;obtain⟨o,e',d⟩:=ho p.1 hb;rw[e] at e';cases e';exact⟨e,f0,f1,f2,d⟩
theorem Inv.J8 {pins pl:List (Addr×Obj)}{σ:St}{H:Hp}{s:Shared}(I:Inv X (pins++pl) σ H s):Inv X pins σ H s:=I.J6 λ p hp=>I.pin p (zm _ (zO _ hp))
theorem Wr {iter:Expr}{body:List Stmt}{wi:TI}{g:TG}{tb:TS}{pos:Pos}(hp:PassesOwn (model X.prog X.w) X.A X.env X.xe)(hc:X.calm=true)(hi:PI X tg iter wi)(hg:PG X tg g)(hb:Te X body tb)
 (hs:∀x,foldedSetIterable iter X.env x=pure x:=by intro _;rfl):PS X (.For tg iter body [] pos) (qB wi g tb):=by
 intro pins s σ H D I h;refine wpAny_For (Bb (hi pins s σ H _ I h) λ v s1 h1=>Bb h1 λ kc s2 h2=>?_) hs;obtain⟨it,fp,tn,J,H2,e,I2,T,cF,f2,W,⟨m0,w0⟩,turn⟩:=h2;subst e;have bC:∀ {H':Hp},(∀b∈fp,H' b=none)->∀b∈fp,L4 X pins H' b:=λ hn b hb=>⟨hn b hb,(f2 b hb).2⟩;refine codeAny_forLoop_any (λ n s'=>∃i σ' H',Inv X pins σ' H' s'/\tn i s'.heap/\(∀b∈fp,H' b=none)/\W i n σ' H') ?_ m0 ⟨0,σ,H2,I2,cF,λ b hb=>(f2 b hb).1,w0⟩;rintro n s3 ⟨i,σ3,H3,I3,ik,il,w3⟩;rcases turn i n σ3 H3 w3 with ⟨stop,qn⟩|⟨go,N,hN,step⟩
 ·refine wpAny_passesOwn hp (Bb (T.done X rfl rfl rfl hc i pins s3 σ3 H3 X.xe I3 (bC il) ik stop) λ r s4 ⟨hr,I4⟩=>?_);subst hr;exact wpAny_execs_nil ⟨σ3,H3,I4,qn⟩
 ·refine wpAny_passesOwn hp (Bb (T.item X rfl rfl rfl hc i pins s3 σ3 H3 X.xe I3 (bC il) ik go) λ r s4 ⟨u,hr,h4⟩=>?_);subst hr;refine wpAny_passesOwn hp (Bb h4 λ _ s5 ⟨x,H5,I5,r5,y5,e9,mh⟩=>?_);have mi:=I5.pinned (bC mh) (T.obj _ _ e9);refine wpAny_passesOwn hp (Bb (hg _ s5 σ3 H5 x u _ mi r5 (step x H5 y5)) λ _ s6 ⟨σ6,H6,I6,q6⟩=>?_);refine wpAny_passesOwn hp (Bb (hb _ s6 σ6 H6 _ I6 q6) λ f s7 q7=>?_);have again:∀ {σ7:St} {H7:Hp},Inv X (pins++Im fp s5.heap) σ7 H7 s7->N σ7 H7->∃m,m<n/\∃i σ' H',Inv X pins σ' H' s7/\tn i s7.heap/\(∀b∈fp,H' b=none)/\W i m σ' H':=fun {σ7 H7} I7 n7=>by
   obtain⟨m',hm,w7⟩:=hN σ7 H7 n7;refine⟨m',hm,i+1,σ7,H7,I7.J8,T.keep _ _ _ e9 λ b hb o e=>(I7.pin (b,o) (zm _ (zm _ (FN hb e)))).1,λ b hb=>?_,w7⟩;obtain⟨o,e,d⟩:=T.obj _ _ e9 b hb;exact (I7.pin (b,o) (zm _ (zm _ (FN hb e)))).2.1
  cases f with
  |next|cont=>obtain⟨σ7,H7,I7,n7⟩:=q7;exact again I7 n7
  |brk=>obtain⟨σ7,H7,I7,q7⟩:=q7;exact⟨σ7,H7,I7.J8,q7⟩
  |ret v=>obtain⟨x7,σ7,H7,I7,r7,q7⟩:=q7;exact⟨x7,σ7,H7,I7.J8,r7,q7⟩
end
noncomputable abbrev R2:=V->V->Hp->VK->Prop
def Hm (X:Cx)(f:Value->Value->Sem Value)(r:R2):Prop:=
 ∀(pins:List (Addr×Obj)) (s:Shared) (σ:St) (H:Hp) (x y:V) (v u:Value) (Q:VK),Inv X pins σ H s->RelV x v->RelV y u->r x y H Q->
  wpAny (model X.prog X.w) X.A (f v u) (EP X pins σ Q) X.xe s
def qC (X:Cx)(f:Value->Sem Value)(r:V->Hp->VK->Prop):Prop:=
 ∀(pins:List (Addr×Obj)) (s:Shared) (σ:St) (H:Hp) (x:V) (v:Value) (Q:VK),Inv X pins σ H s->RelV x v->r x H Q->
  wpAny (model X.prog X.w) X.A (f v) (EP X pins σ Q) X.xe s
def Gm (X:Cx)(f:Value)(r:List V->Hp->VK->Prop):Prop:=
 ∀(pins:List (Addr×Obj)) (s:Shared) (σ:St) (H:Hp) (xs:List V) (us:List Value) (Q:VK),Inv X pins σ H s->Vals xs us->r xs H Q->
  wpAny (model X.prog X.w) X.A (call f us) (EP X pins σ Q) X.xe s
def qD (X:Cx)(r:V->Hp->(Bool->Hp->Prop)->Prop):Prop:=
 ∀(pins:List (Addr×Obj)) (s:Shared) (σ:St) (H:Hp) (x:V) (v:Value) (Q:Bool->Hp->Prop),Inv X pins σ H s->RelV x v->r x H Q->
  wpAny (model X.prog X.w) X.A (truthy v) (TP X pins σ Q) X.xe s
noncomputable def lS (r:R2)(ta tb:TE):TE:=λ σ H Q=>ta σ H λ x H1=>tb σ H1 λ y H2=>r x y H2 Q
noncomputable def uC (r:V->Hp->VK->Prop)(ta:TE):TE:=λ σ H Q=>ta σ H λ x H1=>r x H1 Q
noncomputable def rI (C:Int->Int->Prop)(g:Int->Int->V):R2:=λ x y H Q=>∃i j,x=.int i/\y=.int j/\C i j/\Q (g i j) H
noncomputable def YF (g:Int->Int->V):R2:=λ x y H Q=>∃i j,x=.int i/\y=.int j/\Q (g i j) H
def rU (g:Int->V):V->Hp->VK->Prop:=λ x H Q=>∃i,x=.int i/\Q (g i) H
section
variable {X:Cx}{a b c:Expr}{ta tb tc:TE}{pos:Pos}
theorem fO (ha:PE X a ta)(hb:PE X b tb){pins:List (Addr×Obj)}{s:Shared}{σ:St}{H:Hp}{R:V->V->Hp->Prop}(I:Inv X pins σ H s)
 (h:ta σ H λ x H1=>tb σ H1 λ y H2=>R x y H2) {Q:Value->Shared->Prop} {f:Value->Value->Sem Value}
 (hf:∀v u s2 x y H2,Inv X pins σ H2 s2->RelV x v->RelV y u->R x y H2->wpAny (model X.prog X.w) X.A (f v u) Q X.xe s2):
 wpAny (model X.prog X.w) X.A (eval a X.env) (λ v s₁=>wpAny (model X.prog X.w) X.A (eval b X.env) (λ u s₂=>wpAny (model X.prog X.w) X.A (f v u) Q X.xe s₂) X.xe s₁) X.xe s:=by
 refine Bb (ha pins s σ H _ I h) λ v s1 ⟨x,H1,I1,r1,q1⟩=>?_;refine Bb (hb pins s1 σ H1 _ I1 q1) λ u s2 ⟨y,H2,I2,r2,q2⟩=>?_;exact hf v u s2 x y H2 I2 r1 r2 q2
theorem dO {op:Operator}{r:R2}(ho:Hm X (binaryOp op) r)(ha:PE X a ta)(hb:PE X b tb):PE X (.BinOp a op b pos) (lS r ta tb):=by
 intro pins s σ H Q I h;exact wpAny_BinOp (fO ha hb I h λ v u s2 x y H2 I2 rx ry q=>ho pins s2 σ H2 x y v u Q I2 rx ry q)
theorem lT {op:UnaryOp}{r:V->Hp->VK->Prop}(ho:qC X (unaryOp op) r)(ha:PE X a ta):PE X (.UnaryOp op a pos) (uC r ta):=by
 intro pins s σ H Q I h;exact UnaryOp_ (Bb (ha pins s σ H _ I h) λ v s1 ⟨x,H1,I1,r1,q1⟩=>ho pins s1 σ H1 x v Q I1 r1 q1)
theorem oW {f:Value->Value->Sem Value}{C:Int->Int->Prop}{g:Int->Int->Int}
 (rule:∀(i j:Int) (t u:Tok) (s:Shared) (Q:Value->Shared->Prop) (E:Value->Shared->Prop),C i j->Q (.int (g i j) s.toks) {s with toks:=s.toks+1}->wpAny (model X.prog X.w) X.A (f (.int i t) (.int j u)) Q E s):
 Hm X f (rI C λ i j=>.int (g i j)):=by
 intro pins s σ H x y v u Q I rx ry h;obtain⟨i,j,rfl,rfl,hc,q⟩:=h;obtain⟨t,rfl⟩:=rx;obtain⟨t',rfl⟩:=ry;exact rule i j t t' s _ _ hc ⟨.int (g i j),H,I.tok _,⟨_,rfl⟩,q⟩
theorem lU {f:Value->Value->Sem Value}{g:Int->Int->Int}
 (rule:∀(i j:Int) (t u:Tok) (s:Shared) (Q:Value->Shared->Prop) (E:Value->Shared->Prop),Q (.int (g i j) s.toks) {s with toks:=s.toks+1}->wpAny (model X.prog X.w) X.A (f (.int i t) (.int j u)) Q E s):
 Hm X f (YF λ i j=>.int (g i j)):=by
 intro pins s σ H x y v u Q I rx ry h;obtain⟨i,j,rfl,rfl,q⟩:=h;obtain⟨t,rfl⟩:=rx;obtain⟨t',rfl⟩:=ry;exact rule i j t t' s _ _ ⟨.int (g i j),H,I.tok _,⟨_,rfl⟩,q⟩
theorem fP {f:Value->Value->Sem Value}{g:Int->Int->Bool}
 (rule:∀(i j:Int) (t u:Tok) (s:Shared) (Q:Value->Shared->Prop) (E:Value->Shared->Prop),Q (.bool (g i j)) s->wpAny (model X.prog X.w) X.A (f (.int i t) (.int j u)) Q E s):
 Hm X f (YF λ i j=>.bl (g i j)):=by
 intro pins s σ H x y v u Q I rx ry h;obtain⟨i,j,rfl,rfl,q⟩:=h;obtain⟨t,rfl⟩:=rx;obtain⟨t',rfl⟩:=ry;exact rule i j t t' s _ _ ⟨.bl (g i j),H,I,rfl,q⟩
def OK (i j:Int):Prop:=0<j/\j<1073741824
def YU (i j:Int):Prop:=0<=j/\j<=1000000/\i.natAbs<2^64
def Ws (i j:Int):Prop:=(-(2^64)<i/\i<2^64)\/(-(2^64)<j/\j<2^64)
theorem Ws.ok {i j:Int}(h:Ws i j):IntMulOk i j:=by
 rcases h with ⟨h1,h2⟩|⟨h1,h2⟩
 ·exact .of_left (intBits_le_64 h1 h2)
 ·exact .of_right (intBits_le_64 h1 h2)
theorem fQ:Hm X (binaryOp .Add) (YF λ i j=>.int (i+j)):=lU λ _ _ _ _ _ _ _ q=>add_int q
theorem fR:Hm X (binaryOp .Sub) (YF λ i j=>.int (i-j)):=lU λ _ _ _ _ _ _ _ q=>sub_int q
theorem YV:Hm X (binaryOp .FloorDiv) (rI OK λ i j=>.int (i / j)):=oW λ i j _ _ _ _ _ hc q=>by
 have h1:(0:Int)<j:=hc.1;have h2:j<1073741824:=hc.2;exact floordiv_int (by omega) (by rw[Int.fdiv_eq_ediv_of_nonneg i (by omega)];exact q) (.inl (PyProof.noPylong_small (by omega)))
theorem fS:Hm X (binaryOp .Mod) (rI (λ _ j=>0<j) λ i j=>.int (i%j)):=oW λ i j _ _ _ _ _ hc q=>by
 have h1:(0:Int)<j:=hc;exact mod_int' (by omega) (by rw[Int.fmod_eq_emod_of_nonneg i (by omega)];exact q)
theorem fT:Hm X (binaryOp .Pow) (rI YU λ i j=>.int (i^j.toNat)):=oW λ _ _ _ _ _ _ _ hc q=>pow_int_small hc.1 hc.2.1 hc.2.2 q
theorem uD {f:Value->Sem Value}{g:Int->Int}
 (rule:∀(i:Int) (t:Tok) (s:Shared) (Q:Value->Shared->Prop) (E:Value->Shared->Prop),Q (.int (g i) s.toks) {s with toks:=s.toks+1}->wpAny (model X.prog X.w) X.A (f (.int i t)) Q E s):
 qC X f (rU λ i=>.int (g i)):=by
 intro pins s σ H x v Q I rx h;obtain⟨i,rfl,q⟩:=h;obtain⟨t,rfl⟩:=rx;exact rule i t s _ _ ⟨.int (g i),H,I.tok _,⟨_,rfl⟩,q⟩
theorem fU:qC X (unaryOp .USub) (rU λ i=>.int (-i)):=uD λ _ _ _ _ _ q=>neg_int q
end
section
variable {X:Cx}{a b c:Expr}{ta tb tc:TE}{pos:Pos}
theorem lV:Hm X (compareOp .Lt) (YF λ i j=>.bl (decide (i<j))):=fP λ _ _ _ _ _ _ _ q=>lt_int q
theorem lW:Hm X (compareOp .LtE) (YF λ i j=>.bl (decide (i<=j))):=fP λ _ _ _ _ _ _ _ q=>le_int q
theorem lX:Hm X (compareOp .Gt) (YF λ i j=>.bl (decide (j<i))):=fP λ _ _ _ _ _ _ _ q=>gt_int q
theorem Hm.or {f:Value->Value->Sem Value}{r r':R2}(h:Hm X f r)(h':Hm X f r'):Hm X f (λ x y H Q=>r x y H Q\/r' x y H Q):=by
 intro pins s σ H x y v u Q I rx ry q;rcases q with q|q
 ·exact h pins s σ H x y v u Q I rx ry q
 ·exact h' pins s σ H x y v u Q I rx ry q
theorem JS (b:Expr){op:CmpOp}(h:op≠.In:=by decide)(h2:op≠.NotIn:=by decide):behindInMarks op b=false:=by
 have e1:(op==CmpOp.In)=false:=by cases op<;>first|rfl|exact absurd rfl h
 have e2:(op==CmpOp.NotIn)=false:=by cases op<;>first|rfl|exact absurd rfl h2
 cases b<;>simp[behindInMarks,e1,e2]
theorem YW {op:CmpOp}{r:R2}(ho:Hm X (compareOp op) r)(ha:PE X a ta)(hb:PE X b tb)(hm:behindInMarks op b=false):PE X (.Compare a [op] [b] pos) (lS r ta tb):=by
 intro pins s σ H Q I h;exact wpAny_Compare1 (fO ha hb I h λ v u s2 x y H2 I2 rx ry q=>ho pins s2 σ H2 x y v u Q I2 rx ry q) hm
noncomputable def lY (t:TE):TT:=λ σ H Q=>t σ H λ x H'=>∃k,x=.bl k/\Q k H'
theorem YX {op:CmpOp}{r:R2}(ho:Hm X (compareOp op) r)(ha:PE X a ta)(hb:PE X b tb)(hm:behindInMarks op b=false):PT X (.Compare a [op] [b] pos) (lY (lS r ta tb)):=by
 intro pins s σ H Q I h;refine wpAny_isTrue_Compare1 (Bb (ha pins s σ H _ I h) λ v s1 ⟨x,H1,I1,r1,q1⟩=>Bb (hb pins s1 σ H1 _ I1 q1) λ u s2 ⟨y,H2,I2,r2,q2⟩ =>
  Bb (ho pins s2 σ H2 x y v u _ I2 r1 r2 q2) λ c s3 ⟨z,H3,I3,r3,k,e,q3⟩=>?_) hm
 subst e;cases r3;exact wpAny_truthy_bool ⟨H3,I3,q3⟩
noncomputable def fV (r r':R2)(ta tb tc:TE):TE:=λ σ H Q=>ta σ H λ x H1=>tb σ H1 λ y H2=>r x y H2 λ z H3=>∃k,z=.bl k/\
 (if k=true then tc σ H3 λ w' H4=>r' y w' H4 Q else Q (.bl false) H3)
theorem Wt {op fc:CmpOp}{r r':R2}(ho:Hm X (compareOp op) r)(bO:Hm X (compareOp fc) r')(ha:PE X a ta)(hb:PE X b tb)(hc:PE X c tc)
 (hm:lastMarks [op,fc] [b,c]=false:=by with_unfolding_all rfl):PE X (.Compare a [op,fc] [b,c] pos) (fV r r' ta tb tc):=by
 intro pins s σ H Q I h;refine Compare_chain (Bb (ha pins s σ H _ I h) λ v s1 ⟨x,H1,I1,r1,q1⟩=>chain_link (Bb (hb pins s1 σ H1 _ I1 q1) λ u s2 ⟨y,H2,I2,r2,q2⟩ =>
  Bb (ho pins s2 σ H2 x y v u _ I2 r1 r2 q2) λ d s3 ⟨z,H3,I3,r3,k,e,q3⟩=>?_)) hm
 subst e;cases r3;refine wpAny_truthy_bool ?_;cases k with
 |false=>exact ite_ff ⟨.bl false,H3,I3,rfl,q3⟩
 |true=>exact ite_tt (chain_last (Bb (hc pins s3 σ H3 _ I3 q3) λ w' s4 ⟨z',H4,I4,r4,q4⟩=>bO pins s4 σ H4 y z' u w' Q I4 r2 r4 q4))
def lZ (K:za)(x:V)(H:Hp)(k:Bool):Prop:=
 match x with
 | .Ay=>k=false
 | .bl b=>k=b
 | .int i=>k=(i != 0)
 | .str y=>y.length<=sizeLine/\k=((y.length:Int) != 0)
 | .eW y=>y.size<=sizeLine/\k=((y.size:Int) != 0)
 | .ref p=>(∃xs,Dt K H p xs/\k = !xs.isEmpty)\/(∃xs,Gk K H p xs/\k = !xs.isEmpty)\/∃kvs,H p=some (.dK kvs)/\k = !kvs.isEmpty
 |_=>False
theorem RG {κ:Type}{kvs:List (κ×V)}{vs:List (κ×Value)}(r:KV kvs vs):(!vs.isEmpty) = !kvs.isEmpty:=by
 cases r<;>rfl
theorem LC {xs:List V}{aa:List Value}(r:Vals xs aa):(!aa.toArray.isEmpty) = !xs.isEmpty:=by
 cases r<;>simp
theorem JT:(sizeLine:Nat)<2^63:=by rw[sizeLine_eq];decide
theorem fW:qD X (λ x H Q=>∃k,lZ X.K x H k/\Q k H):=by
 intro pins s σ H x v Q I rx h;obtain⟨k,e,q⟩:=h;have hl:=JT;have hs:sizeLine=16777216:=sizeLine_eq;cases x with
 |Ay =>
  cases rx;have e':k=false:=e;subst e';exact truthy_none ⟨H,I,q⟩
 |bl b =>
  cases rx;have e':k=b:=e;subst e';exact wpAny_truthy_bool ⟨H,I,q⟩
 |int i =>
  obtain⟨t,rfl⟩:=rx;have e':k=(i != 0):=e;subst e';exact PySem.P.truthy_int ⟨H,I,q⟩
 |str y =>
  obtain⟨t,rfl⟩:=rx;obtain⟨hy,e'⟩:y.length<=sizeLine/\k=((y.length:Int) != 0):=e;subst e';exact PySem.P.truthy_str (by omega) ⟨H,I.tok _,q⟩
 |eW y =>
  obtain⟨t,rfl⟩:=rx;obtain⟨hy,e'⟩:y.size<=sizeLine/\k=((y.size:Int) != 0):=e;subst e';exact PySem.W.truthy_bytes (by omega) ⟨H,I.tok _,q⟩
 |ref p =>
  cases rx;have e':(∃xs,Dt X.K H p xs/\k = !xs.isEmpty)\/(∃xs,Gk X.K H p xs/\k = !xs.isEmpty)\/∃kvs,H p=some (.dK kvs)/\k = !kvs.isEmpty:=e;rcases e' with ⟨xs,hx,e'⟩|⟨xs,hx,e'⟩|⟨kvs,hx,e'⟩
  ·subst e';obtain⟨aa,r,pl,hz⟩:=I.list hx;have hlen:=r.length;exact wpAny_truthy_list pl.isList (by simp only[zj];omega) ⟨H,I.tok _,by rw[LC r];exact q⟩
  ·subst e';obtain⟨aa,r,pl,hz⟩:=I.tuple hx;have hlen:=r.length;exact truthy_tuple pl (by simp only[zj];omega) ⟨H,I.tok _,by rw[LC r];exact q⟩
  ·subst e';obtain⟨hz,hS,vs,r,m⟩:kvs.length<=sizeLine/\(p==sysModules)=false/\∃vs,KV kvs vs/\s.heap.DictOf (Bi X.prog X.w) p vs:=I.Ar p _ hx;have hlen:kvs.length=vs.length:=Paired.length r;exact wpAny_truthy_dict hS m (by omega) ⟨H,I.tok _,by rw[RG r];exact q⟩
 |_=>exact (show False from e).elim
theorem Wu (ha:PE X a ta)(he:∀whole,isTrue a X.env whole=(do let v <-whole;standAt a.pos;holding [v] (truthy v))):
 PT X a (λ σ H Q=>ta σ H λ x H'=>∃k,lZ X.K x H' k/\Q k H'):=by
 intro pins s σ H Q I h;exact isTrue_plain (Bb (ha pins s σ H _ I h) λ v s1 ⟨x,H1,I1,r1,q1⟩=>fW pins s1 σ H1 x v Q I1 r1 q1) (he _)
theorem vals1 {x:V}{us:List Value}(r:Vals [x] us):∃u,us=[u]/\RelV x u:=by
 cases r with
 |cons r1 r2=>cases r2;exact⟨_,rfl,r1⟩
end
structure RH (h:Heap)(x dx C:Addr)(mA:Str->Option Value):Prop where
 obj:h.get? x=some (yY C dx)
 ns:h.Ns1 dx mA
 ne:dx≠x
theorem UC {h:Heap}{dx:Addr}{mA:Str->Option Value}(n:h.Ns1 dx mA):∃od,h.get? dx=some od/\∀name,PySem.W.lookIn name od=some (mA name):=by
 obtain⟨o,es,ep,ho,hd,hk,_,hm⟩:=n;refine⟨o,ho,λ name=>?_⟩;have e:=hm name;unfold nsFind findBy at e;rw[<-Array.find?_toList] at e;unfold PySem.W.lookIn;rw[hd];dsimp only;split
 ·rename_i y q;rw[q] at e;exact congrArg some e
 ·rename_i q;rw[q] at e;have a:es.toList.any (·.refKey)=false:=by
   rw[List.any_eq_false];intro y hy;obtain⟨z,t,ml⟩:=hk y (Array.mem_toList_iff.mp hy);simp[DictEntry.refKey,ml]
  have a':¬ es.toList.any (·.refKey)=true:=by rw[a];exact zI
  rw[if_neg a'];exact congrArg some e
theorem RH.look {h:Heap}{x dx C:Addr}{mA:Str->Option Value}(I:RH h x dx C mA):∃od,PySem.W.InstAt h x (yY C dx) C (some od)/\∀name,PySem.W.lookIn name od=some (mA name):=
 let ⟨od,ho,hl⟩:=UC I.ns
 ⟨od,⟨I.obj,rfl,rfl,ho⟩,hl⟩
section
variable {prog:Program}{w:World}{A:Around}{E:Value->Shared->Prop}{s:Shared}{K:za}{x dx C f:Addr}{mA:Str->Option Value}{name:Str}{v:Value}
theorem get_map {expr:Bool}{Q:Value->Shared->Prop}(X:K.In s.heap)(I:RH s.heap x dx C mA)(hg:xv K C name=true)(hh:PySem.W.hasDictIn K C=true)
 (ha:zl K (.ref C) name=some none) (hv:mA name=some v) (mn:PySem.W.handedIn v=true) (h:Q v {s with toks:=s.toks+1}):
 wpAny (model prog w) A (getAttr (.ref x) name expr) Q E s:=by
 obtain⟨od,J,hl⟩:=I.look;exact PySem.W.get_value X J (PySem.W.plainGet_of hg).1 (PySem.W.findObj_own hh ha rfl (by rw[hl,hv])) mn h
theorem Wv {pl:Sem Bool}{Q:Value×List Value->Shared->Prop}(X:K.In s.heap)(I:RH s.heap x dx C mA)(hg:xv K C name=true)
 (hf:zl K (.ref C) name=some (some (.ref f))) (ht:xw K (.ref f)=true) (hv:mA name=none) (h:Q (.ref f,[.ref x]) s):
 wpAny (model prog w) A (getMethod (.ref x) name pl) Q E s:=by
 obtain⟨od,J,hl⟩:=I.look;exact PySem.W.method_fn X J (PySem.W.plainGet_of hg).1 (PySem.W.plainGet_of hg).2 hf (beq_iff_eq.mp ht) (by show (PySem.W.lookIn name od).map (·.isSome)=some false;rw[hl,hv];rfl) h
theorem YY {ns:List Str}{Q:Unit->Shared->Prop}(X:K.In s.heap)(I:RH s.heap x dx C mA)
 (hs:zl K (.ref C) "__setattr__" = some (some (.builtin "object.__setattr__"))) (hp:PySem.W.plainOver K C=true) (ht:PySem.W.takerIn K C name=some none) (hh:PySem.W.hasDictIn K C=true)
 (hw:PySem.Within mA ns) (hsz:ns.length<=sizeLine)
 (h:∀h',RH h' x dx C (λ y=>if y=name then some v else mA y)->xg dx s.heap h'->Q () {s with heap:=h',toks:=s.toks+2}):
 wpAny (model prog w) A (setAttr (.ref x) name v) Q E s:=by
 obtain⟨od,J,hl⟩:=I.look;refine PySem.W.set_plain X J hs (PySem.W.osa_open (s:={s with toks:=s.toks+1}) (r:=none) X J hp ht λ b=>?_);obtain⟨cd,hc,ca⟩:=PySem.W.any_some hh;have hx:s.heap.get? x=some ⟨.ref C,some dx,.plain,#[]⟩:=I.obj;refine wpAny_bind (wpAny_pure (wpAny_bind (wpAny_bind (wpAny_loadPart hx (wpAny_bind (PySem.W.Looks.here (s:={s with toks:=s.toks+1}) (PySem.W.looks_clsIn X hc) ?_))))));rw[ca];refine wpAny_pure (a:=some dx) (wpAny_bind (wpAny_pure (wpAny_bind ?_)));refine wpAny_nsSet1 (s:={s with toks:=s.toks+1}) I.ns λ h' aI aY=>?_;obtain⟨oD,w6,w9,ul,um,uo⟩:=aI.count (PySem.Within.cons name v hw);refine wpAny_bind (wpAny_lookBehind ul (by rw[um];exact pastItsLine_dict (yk uo (by rw[zp];omega))) ?_);exact wpAny_pure (h _ ⟨(aY.2 _ (yc I.ne)).trans I.obj,aI,I.ne⟩ aY)
theorem Q4 {R:Result->Shared->Prop}{vs:List Value}{kw:List (Str×Value)}(X:K.In s.heap)(hm:PySem.W.makesIn K C=true)
 (hi:zl K (.ref C) "__init__" = some (some (.ref f))) (hf:PySem.W.typeIn K (.ref f)=some (.type "function"))
 (h:codeAny (model prog w) (A.under (.builtin "type.__call__" ⟨.ref C::vs,kw⟩)) (.call (.ref f) ⟨.ref (s.heap.objs.size+1)::vs,kw⟩) (PySem.W.InitBack (s.heap.objs.size+1) R)
  {s with heap:=(s.heap.push yy).push (yY C s.heap.objs.size)}):
 codeAny (model prog w) A (.call (.ref C) ⟨vs,kw⟩) R s:=by
 obtain⟨hh,g,d,t,os⟩:=s;exact PySem.W.make_core (PySem.W.makes_of X hm) (PySem.W.looks_findIn X hi) (λ self=>PySem.W.bind_fn X self hf) (.inl rfl) h
end
noncomputable def Ec (f:Str)(v:V):List (Str×V)->List (Str×V)
 |[]=>[(f,v)]
 |(g,x)::r=>if g=f then (g,v)::r else (g,x)::Ec f v r
theorem KH (f g:Str)(v:V):∀fs:List (Str×V),(Ec f v fs).lookup g=if g=f then some v else fs.lookup g
 |[]=>by
  show List.lookup g [(f,v)]=_;by_cases h:g=f
  ·have hb:(g==f)=true:=beq_iff_eq.mpr h;simp only[List.lookup,hb,if_pos h]
  ·have hb:(g==f)=false:=beq_eq_false_iff_ne.mpr h;simp only[List.lookup,hb,if_neg h]
 |(k,x)::r=>by
  have ih:=KH f g v r;rw[show Ec f v ((k,x)::r)=(if k=f then (k,v)::r else (k,x)::Ec f v r) from rfl];by_cases hk:k=f
  ·rw[if_pos hk];by_cases h:g=k
   ·have hb:(g==k)=true:=beq_iff_eq.mpr h;simp only[List.lookup,hb,if_pos (h.trans hk)]
   ·have hb:(g==k)=false:=beq_eq_false_iff_ne.mpr h;simp only[List.lookup,hb,if_neg (λ e:g=f=>h (e.trans hk.symm))]
  ·rw[if_neg hk];by_cases h:g=k
   ·have hb:(g==k)=true:=beq_iff_eq.mpr h;simp only[List.lookup,hb,if_neg (λ e:g=f=>hk (h.symm.trans e))]
   ·have hb:(g==k)=false:=beq_eq_false_iff_ne.mpr h;simp only[List.lookup,hb];exact ih
theorem JU (f:Str)(v:V):∀fs:List (Str×V),f∈(Ec f v fs).map (·.1)/\∀g,g∈fs.map (·.1)->g∈(Ec f v fs).map (·.1)
 |[]=>⟨by simp[Ec],λ g h=>by simp at h⟩
 |(k,x)::r=>by
  obtain⟨i1,i2⟩:=JU f v r;rw[show Ec f v ((k,x)::r)=(if k=f then (k,v)::r else (k,x)::Ec f v r) from rfl];by_cases hk:k=f
  ·rw[if_pos hk];subst hk;exact⟨by simp,λ g h=>by simpa using h⟩
  ·rw[if_neg hk];refine⟨?_,λ g h=>?_⟩
   ·rw[zh];exact zf _ i1
   ·rw[zh] at h ⊢;rcases zq.mp h with e|e
    ·exact zq.mpr (.inl e)
    ·exact zf _ (i2 g e)
theorem KI (f:Str)(v:V):∀fs:List (Str×V),(Ec f v fs).length<=fs.length+1
 |[]=>by simp[Ec]
 |(k,x)::r=>by
  have ih:=KI f v r;rw[show Ec f v ((k,x)::r)=(if k=f then (k,v)::r else (k,x)::Ec f v r) from rfl];by_cases hk:k=f
  ·rw[if_pos hk,zp,zp];omega
  ·rw[if_neg hk,zp,zp];omega
theorem HS.some_of {v:V}{o:Option Value}(r:HS (some v) o):∃u,o=some u/\RelV v u:=by
 cases o with
 |none=>exact (show False from r).elim
 |some u=>exact⟨u,rfl,r⟩
theorem HS.none_of {o:Option Value}(r:HS none o):o=none:=by
 cases o with
 |none=>rfl
 |some u=>exact (show False from r).elim
theorem UD {v:V}{u:Value}(r:RelV v u):PySem.W.handedIn u=true:=by
 cases v with
 |Ay=>cases (show u=y7 from r);rfl
 |bl b=>cases (show u=Value.bool b from r);rfl
 |int i=>obtain⟨t,e⟩:=(show ∃t,u=Value.int i t from r);cases e;rfl
 |str x=>obtain⟨t,e⟩:=(show ∃t,u=Value.str x t from r);cases e;rfl
 |eW b=>obtain⟨t,e⟩:=(show ∃t,u=Value.bytes b t from r);cases e;rfl
 |kZ b=>obtain⟨t,e⟩:=(show ∃t,u=Value.float b t from r);cases e;rfl
 |ref a=>cases (show u=zK a from r);rfl
 |ty n=>cases (show u=Value.type n from r);rfl
section
variable {P:Program}{w:World}{H H':Hp}{h h':Heap}{a C dx:Addr}{fs bZ:List (Str×V)}
theorem OL (Ar:FK P w H h)(e:H a=some (.ins C dx fs)):∃mA,RH h a dx C mA/\(∀f,HS (fs.lookup f) (mA f))/\PySem.Within mA (fs.map (·.1))/\fs.length<=1000/\H dx=some (.own a):=by
 obtain⟨d,z,ne,ob,mA,n,r,q⟩:=(show AV P w H h a (.ins C dx fs) from Ar a _ e);exact⟨mA,⟨ob,n,ne⟩,r,q,z,d⟩
end
structure UE (K:za)(C:Addr):Prop where
 pg:xv K C Str.empty=true
 hd:PySem.W.hasDictIn K C=true
 po:PySem.W.plainOver K C=true
 sa:zl K (.ref C) "__setattr__" = some (some (.builtin "object.__setattr__"))
theorem UE.get {K:za}{C:Addr}(c:UE K C)(f:Str):xv K C f=true:=c.pg
def Io (K:za)(C:Addr)(f:Str):Prop:=zl K (.ref C) f=some none
theorem Io.mB {K:za}{C:Addr}{f:Str}(n:Io K C f):PySem.W.takerIn K C f=some none:=by
 unfold PySem.W.takerIn;rw[show zl K (.ref C) f=some none from n];rfl
structure Meth (K:za)(C:Addr)(m:Str)(f:Addr):Prop where
 at_:zl K (.ref C) m=some (some (.ref f))
 fn:xw K (.ref f)=true
 kp:zV K (.ref f)=true
section
variable {X:Cx}{pins:List (Addr×Obj)}{σ:St}{H:Hp}{s:Shared}{a C dx:Addr}{fs:List (Str×V)}{f:Str}{v:V}{A:Around}{E:Value->Shared->Prop}
theorem RI {b:Bool}{Q:Value->Shared->Prop}(I:Inv X pins σ H s)(e:H a=some (.ins C dx fs))(c:UE X.K C)(n:Io X.K C f)(l:fs.lookup f=some v)
 (h:∀u s',Inv X pins σ H s'->RelV v u->Q u s'):wpAny (model X.prog X.w) A (getAttr (.ref a) f b) Q E s:=by
 obtain⟨mA,O,r,_,_,_⟩:=OL I.Ar e;obtain⟨u,hu,ru⟩:=HS.some_of (v:=v) (o:=mA f) (by rw[<-l];exact r f);exact get_map I.L3 O (c.get f) c.hd n hu (UD ru) (h u _ (I.tok _) ru)
theorem LD {m:Str}{g:Addr}{pl:Sem Bool}{Q:Value×List Value->Shared->Prop}(I:Inv X pins σ H s)(e:H a=some (.ins C dx fs))(c:UE X.K C)(k:Meth X.K C m g)(l:fs.lookup m=none)
 (h:Q (.ref g,[.ref a]) s):wpAny (model X.prog X.w) A (getMethod (.ref a) m pl) Q E s:=by
 obtain⟨mA,O,r,_,_,_⟩:=OL I.Ar e;have hn:mA m=none:=HS.none_of (by rw[<-l];exact r m);exact Wv I.L3 O (c.get m) k.at_ k.fn hn h
theorem RJ {y:V}{u:Value}{Q:Unit->Shared->Prop}(I:Inv X pins σ H s)(e:H a=some (.ins C dx fs))(c:UE X.K C)(n:Io X.K C f)(hl:fs.length<1000)(ry:RelV y u)
 (h:∀s',Inv X pins σ (upd H a (.ins C dx (Ec f y fs))) s'->Q () s'):wpAny (model X.prog X.w) A (setAttr (.ref a) f u) Q E s:=by
 obtain⟨mA,O,r,wi,_,ho⟩:=OL I.Ar e;have hz:(fs.map (·.1)).length<=sizeLine:=by rw[ze,sizeLine_eq];omega
 refine YY I.L3 O c.sa c.po n.mB c.hd wi hz λ h' O' sb=>h _ ?_;have hd:∃o,h'.get? dx=some o:=let ⟨o,_,_,e',_⟩:=O'.ns;⟨o,e'⟩;refine I.write (x:=a) (e:=dx) (by rw[e];exact True.intro) (.inr ho) (λ b q hb z=>(sb.2 b hb).trans z) hd ?_;refine⟨by rw[Ab O.ne];exact ho,?_,O.ne,O'.obj,_,O'.ns,λ g=>?_,λ g hg=>?_⟩
 ·have:=KI f y fs;omega
 ·show HS ((Ec f y fs).lookup g) (if g=f then some u else mA g);rw[KH];by_cases q:g=f
  ·rw[if_pos q,if_pos q];exact ry
  ·rw[if_neg q,if_neg q];exact r g
 ·by_cases q:g=f
  ·rw[q];exact (JU f y fs).1
  ·refine (JU f y fs).2 g (wi g λ z=>hg ?_);show (if g=f then some u else mA g)=none;rw[if_neg q];exact z
theorem Inv.made (I:Inv X pins σ H s):Inv X pins σ (upd (upd H s.heap.objs.size (.own (s.heap.objs.size+1))) (s.heap.objs.size+1) (.ins C s.heap.objs.size []))
 {s with heap:=(s.heap.push yy).push (yY C s.heap.objs.size)}:=by
 have e1:(s.heap.push yy).get? s.heap.objs.size=some yy:=zA s.heap rfl;have e2:((s.heap.push yy).push (yY C s.heap.objs.size)).get? (s.heap.objs.size+1)=some (yY C s.heap.objs.size):=by
  have:=zA (s.heap.push yy) (o:=yY C s.heap.objs.size) rfl;rwa[Heap.size_push] at this
 have e3:(s.heap.push yy).Ns s.heap.objs.size (λ _=>none):=⟨yy,#[],_,e1,rfl,(λ e he=>absurd he (by simp)),λ _=>rfl⟩;have I1:=I.laid (a:=s.heap.objs.size) (o:=.own (s.heap.objs.size+1)) (h':=s.heap.push yy) (t':=s.toks) (λ b u q=>zi _ q) (zv _) ⟨_,e1⟩;refine I1.laid (a:=s.heap.objs.size+1) (o:=.ins C s.heap.objs.size []) (t':=s.toks) (λ b u q=>zi _ q) (Nat.le_of_eq (Heap.size_push _ _)) ?_;have ne:s.heap.objs.size≠s.heap.objs.size+1:=zB (Nat.lt_succ_self _);refine⟨by rw[Ab ne,Al],zQ _,ne,e2,λ _=>none,(Heap.Ns1.of_empty e3).at λ o q=>zi _ q,λ _=>True.intro,λ y hy=>absurd rfl hy⟩
theorem YZ {prog:Program}{w:World}{env:Env}{e:Expr}{f:Str}{pos:Pos}{s:Shared}{Q:Value->Shared->Prop}(hb:attributeBase e f env (eval e env)=eval e env)
 (h:wpAny (model prog w) A (eval e env) (λ o s₁=>wpAny (model prog w) A (getAttr o f true) Q E s₁) E s):wpAny (model prog w) A (eval (.Attribute e f pos) env) Q E s:=
 Attribute_any_ h (by rw[arm_eval_Attribute,hb])
end
noncomputable def qE (K:za)(ta:TE)(f:Str):TE:=λ σ H Q=>ta σ H λ x H1=>∃a C dx fs v,x=.ref a/\H1 a=some (.ins C dx fs)/\UE K C/\Io K C f/\fs.lookup f=some v/\Q v H1
noncomputable def qG (K:za)(ta tv:TE)(f:Str):TS:=λ D σ H=>tv σ H λ y H1=>ta σ H1 λ x H2=>∃a C dx fs,x=.ref a/\H2 a=some (.ins C dx fs)/\UE K C/\Io K C f/\fs.length<1000/\
 D.nx σ (upd H2 a (.ins C dx (Ec f y fs)))
section
variable {X:Cx}{o e value:Expr}{f:Str}{pos pos' bD:Pos}{ta tv:TE}
theorem fX (he:PE X e ta)(hb:attributeBase e f X.env (eval e X.env)=eval e X.env):PE X (.Attribute e f pos) (qE X.K ta f):=by
 intro pins s σ H Q I h;refine YZ hb (Bb (he pins s σ H _ I h) λ u s1 ⟨x,H1,I1,rx,a,C,dx,fs,v,ex,ea,c,n,l,q⟩=>?_);subst ex;obtain rfl:u=zK a:=rx;exact RI I1 ea c n l λ u' s2 I2 ru=>⟨v,H1,I2,ru,q⟩
theorem fY (ha:PE X o ta)(hv:PE X value tv)(hs:swapsWith value (some (.Attribute o f pos')) pos.line X.env=pure false):PS X (.Assign [.Attribute o f pos'] value pos) (qG X.K ta tv f):=by
 intro pins s σ H D I h;refine plainObj_wpAny_Assign_Attribute (Bb (hv pins s σ H _ I h) λ u s1 ⟨y,H1,I1,ry,q⟩=>Bb (ha pins s1 σ H1 _ I1 q) λ ov s2 ⟨x,H2,I2,rx,a,C,dx,fs,ex,ea,c,n,l,q2⟩=>?_) hs;subst ex;obtain rfl:ov=zK a:=rx;exact RJ I2 ea c n l ry λ s3 I3=>⟨σ,_,I3,q2⟩
end
structure Bn (k:Nat)(A:Around):Prop where
 hd:A.handled=none
 dp:A.depth+3*k+5<recursionLimit
 un:A.units+16*k+200<cLine
theorem Bn.mono {j k:Nat}{A:Around}(r:Bn k A)(h:j<=k):Bn j A:=⟨r.hd,by have:=r.dp;omega,by have:=r.un;omega⟩
theorem Bn.deeper {k:Nat}{A:Around}(r:Bn (k+1) A)(env:Env):Bn k (A.deeper env):=
 ⟨r.hd,by have:=r.dp;show A.depth+1+3*k+5<_;omega,by have:=r.un;show A.units+3+16*k+200<_;omega⟩
theorem RK {A:Around}{C:Addr}{us:List Value}{kw:List (Str×Value)}:(A.under (.builtin "type.__call__" ⟨.ref C::us,kw⟩)).depth=A.depth+1:=by
 first|rfl|simp[Around.under,Code.weight,Code.isCreation,Code.isGuard,Code.isCaller,Code.frames,Code.isFrame,guardIds]
theorem RL {A:Around}{C:Addr}{us:List Value}{kw:List (Str×Value)}:(A.under (.builtin "type.__call__" ⟨.ref C::us,kw⟩)).units=A.units+1:=by
 first|rfl|simp[Around.under,Code.cUnits,Code.frames,Code.isFrame]
theorem Bn.make {k:Nat}{A:Around}(r:Bn (k+1) A)(C:Addr)(us:List Value)(kw:List (Str×Value)):Bn k (A.under (.builtin "type.__call__" ⟨.ref C::us,kw⟩)):=
 ⟨r.hd,by have:=r.dp;rw[RK];omega,by have:=r.un;rw[RL];omega⟩
theorem Bn.depth {k:Nat}{A:Around}(r:Bn k A):A.depth<recursionLimit:=by have:=r.dp;omega
theorem Bn.units {k:Nat}{A:Around}(r:Bn k A):A.units+64<cLine:=by have:=r.un;omega
noncomputable def fZ:TA:=λ _ H Q=>Q [] H
noncomputable def dP (ta:TE)(tr:TA):TA:=λ σ H Q=>ta σ H λ x H1=>tr σ H1 λ xs H2=>Q (x::xs) H2
section
variable {X:Cx}{e:Expr}{es:List Expr}{te:TE}{t:TA}{pos:Pos}
theorem C4:PA X [] fZ:=λ _ _ _ _ H Q I h=>xa ⟨[],H,I,.nil,h⟩
theorem Bc (ha:PE X e te)(hr:PA X es t)(hs:starEach (e::es) X.env=(false,eval e X.env)::starEach es X.env:=by rfl):PA X (e::es) (dP te t):=by
 intro pos pins s σ H Q I h;rw[hs];show wpAny _ _ (spliced ((false,eval e X.env)::backTo pos (starEach es X.env))) _ _ s;refine yR (Bb (ha pins s σ H _ I h) λ u s1 ⟨x,H1,I1,r1,q1⟩=>?_);exact Bb (hr pos pins s1 σ H1 _ I1 q1) λ us s2 ⟨xs,H2,I2,r2,q2⟩=>⟨x::xs,H2,I2,.cons r1 r2,q2⟩
noncomputable def qH (t:TA):TE:=λ σ H Q=>t σ H λ xs H1=>xs.length<=sizeLine/\∀p,H1 p=none->Q (.ref p) (upd H1 p (.tup xs))
noncomputable def qI (t:TA):TE:=λ σ H Q=>t σ H λ xs H1=>xs.length<=sizeLine/\∀p,H1 p=none->Q (.ref p) (upd H1 p (.lst xs))
theorem Ww {x1}(h:PA X es t):PE X (.Tuple es x1 pos) (qH t):=by
 intro pins s σ H Q I hq;refine wpAny_Tuple_spliced (Bb (h pos pins s σ H _ I hq) λ us s1 ⟨xs,H1,I1,r,z,q⟩=>⟨by rw[<-r.length];exact z,?_⟩);have hf:H1 s1.heap.objs.size=none:=I1.Ar.fresh (zv _);refine⟨.ref s1.heap.objs.size,upd H1 s1.heap.objs.size (.tup xs),I1.laid (t':=s1.toks) (λ b u e=>zi _ e) (zv _) ?_,rfl,q _ hf⟩;exact⟨z,us,r,⟨_,zA _ rfl,rfl,_,rfl⟩⟩
theorem RM (h:PA X es t):PE X (.List es pos) (qI t):=by
 intro pins s σ H Q I hq;refine wpAny_List_spliced (Bb (h pos pins s σ H _ I hq) λ us s1 ⟨xs,H1,I1,r,z,q⟩=>⟨by rw[<-r.length];exact z,?_⟩);have hf:H1 s1.heap.objs.size=none:=I1.Ar.fresh (zv _);refine⟨.ref s1.heap.objs.size,upd H1 s1.heap.objs.size (.lst xs),I1.laid (t':=s1.toks) (λ b u e=>zi _ e) (zv _) ?_,rfl,q _ hf⟩;exact⟨z,us,0,r,zA _ rfl⟩
end
noncomputable abbrev Sp:=List V->Hp->VK->XK->Prop
noncomputable abbrev RN:=List Env->Hp->Shared->XK->Value->Shared->Prop
structure RO (P:Program)(w:World)(K:za)(mg:Str->Option Value)(base:Heap)(A:Around)(outer:List Env)(s:Shared)(H:Hp):Prop where
 frames:A.frames=some outer
 mod:Mod K mg base
 bs:∀b o,base.get? b=some o->s.heap.get? b=some o/\H b=none
 YM:base.objs.size<=s.heap.objs.size
 J5:s.heap.FunFrames base outer
 eY:∀b∈KG outer,H b=none
 Ar:FK P w H s.heap
 bare:AllBare s.gens
def CE (outer:List Env)(P:Program)(w:World)(H:Hp)(s:Shared)(Q:VK)(u:Value)(s':Shared):Prop:=
 ∃v H',s'.os=s.os/\AllBare s'.gens/\Un (KG outer) [] H H' s.heap s'.heap/\FK P w H' s'.heap/\RelV v u/\Q v H'
def CR (CX:RN)(outer:List Env)(P:Program)(w:World)(H:Hp)(s:Shared)(Q:VK)(E:XK)(r:Result)(s':Shared):Prop:=
 match r with
 | .ok (.ret u)=>CE outer P w H s Q u s'
 | .ok _=>False
 | .error e=>CX outer H s E e s'
structure CG (P:Program)(w:World)(K:za)(mg:Str->Option Value)(base:Heap)(CX:RN)(k:Nat)(f:Addr)(fd:FuncData)(ps:List Str)(sp:Sp):Prop where
 len:∀vs H Q E,sp vs H Q E->vs.length=ps.length
 run:∀(A:Around) (outer:List Env) (s:Shared) (H:Hp) (args:Args) (us:List Value) (vs:List V) (Q:VK) (E:XK),Bn k A->RO P w K mg base A outer s H->BindsTo s fd args (ps.zip us)->Vals vs us->sp vs H Q E->
  codeAny (model P w) A (.call (.ref f) args) (CR CX outer P w H s Q E) s
theorem RO.make {P:Program}{w:World}{K:za}{mg:Str->Option Value}{base:Heap}{A:Around}{outer:List Env}{s:Shared}{H:Hp}(e:RO P w K mg base A outer s H)(C:Addr)(us:List Value)(kw:List (Str×Value)):
 RO P w K mg base (A.under (.builtin "type.__call__" ⟨.ref C::us,kw⟩)) outer s H:=⟨by first|exact e.frames|(simpa [Around.under,Code.envs,Code.isFrame,pushEnvs] using e.frames),e.mod,e.bs,e.YM,e.J5,e.eY,e.Ar,e.bare⟩
section
variable {X:Cx}{pins:List (Addr×Obj)}{σ:St}{H:Hp}{s s':Shared}
theorem Inv.gB (I:Inv X pins σ H s):RO X.prog X.w X.K X.mg X.base X.A X.stack s H:=
 ⟨I.ok.frames,I.ok.mod,I.bs,yk I.ok.YM I.sz,I.stack,I.OI,I.Ar,I.bare⟩
theorem Inv.after {Q:VK}{u:Value}(I:Inv X pins σ H s)(h:CE X.stack X.prog X.w H s Q u s'):EP X pins σ Q u s':=by
 obtain⟨v,H',os,bare,un,Ar,r,q⟩:=h;obtain⟨hh,g,d,t,up⟩:=s';obtain rfl:up=s.os:=os;exact⟨v,H',I.call (h':=hh) (g':=g) (d':=d) (t':=t) (ch:=[]) un Ar bare (λ b z=>absurd z (by simp)),r,q⟩
end
noncomputable def mC (sp:Sp)(bE:List V)(E:XK)(t:TA):TE:=λ σ H Q=>t σ H λ vs H1=>sp (vs++bE) H1 Q E
noncomputable def mD (C:Addr)(sp:Sp)(bE:List V)(E:XK)(t:TA):TE:=λ σ H Q=>t σ H λ vs H1=>∀x dx,H1 x=none->H1 dx=none->dx≠x->
 sp (.ref x::(vs++bE)) (upd (upd H1 dx (.own x)) x (.ins C dx [])) (λ v H2=>v=.Ay/\Q (.ref x) H2) E
def Binds (K:za)(fd:FuncData)(ps:List Str)(ds:List Value):Prop:=
 ∀(s:Shared) (us:List Value),K.In s.heap->(us++ds).length=ps.length->BindsTo s fd ⟨us,[]⟩ (ps.zip (us++ds))
theorem Binds.all {K:za}{fd:FuncData}{ps:List Str}(h:∀us:List Value,us.length=ps.length->bindArgs fd ⟨us,[]⟩=pure (ps.zip us)):Binds K fd ps []:=λ s us _ hl=>by
 rw[zX] at hl ⊢;exact .of_eq (h us hl)
def EQ (CX:RN)(X:Cx)(E:XK):Prop:=∀(pins:List (Addr×Obj)) (σ:St) (H:Hp) (s:Shared) (e:Value) (s':Shared),Inv X pins σ H s->CX X.stack H s E e s'->X.xe e s'
section
variable {X:Cx}{CX:RN}{k:Nat}{f C:Addr}{fd:FuncData}{ps:List Str}{sp:Sp}{bE:List V}{ds:List Value}{E:XK}{x m:Str}{p pos apos:Pos}{e o:Expr}{es:List Expr}{ta:TE}{t:TA}
theorem RP {pins:List (Addr×Obj)}{σ:St}{H:Hp}{s:Shared}{Q:VK}{us:List Value}{vs:List V}(F:CG X.prog X.w X.K X.mg X.base CX k f fd ps sp)(hr:Bn k X.A)(hb:Binds X.K fd ps ds)(hd:Vals bE ds)(hx:EQ CX X E)
 (I:Inv X pins σ H s) (r:Vals vs us) (h:sp (vs++bE) H Q E):wpAny (model X.prog X.w) X.A (call (.ref f) us) (EP X pins σ Q) X.xe s:=by
 have r2:Vals (vs++bE) (us++ds):=r.append hd;have hl:(us++ds).length=ps.length:=by rw[<-r2.length];exact F.len _ _ _ _ h
 refine wpAny_call (codeAny_mono (F.run X.A X.stack s H ⟨us,[]⟩ (us++ds) (vs++bE) Q E hr I.gB (hb s us I.L3 hl) r2 h) λ r s' hq=>?_);cases r with
 |error e=>exact hx pins σ H s e s' I hq
 |ok fl =>
  cases fl with
  |ret u=>exact I.after hq
  |next|brk|cont=>exact yD hq
theorem Ti (F:CG X.prog X.w X.K X.mg X.base CX k f fd ps sp)(hr:Bn k X.A)(hg:Gl X x)(hm:X.mg x=some (.ref f))(hk:zV X.K (.ref f)=true)(hb:Binds X.K fd ps ds)(hd:Vals bE ds)(hx:EQ CX X E)
 (ha:PA X (e::es) t) (aJ:(x==("__debug__" : Str))=false:=by decide) (he:starEach (e::es) X.env=(false,eval e X.env)::starEach es X.env:=by rfl) (a5:(backTo pos (starEach es X.env)).any (·.1)=false:=by rfl):
 PE X (.Call (.Name x p) (e::es) [] pos) (mC sp bE E t):=by
 intro pins s σ H Q I h;refine wpAny_Call_Name_kw (Lf I hg hm ?_ aJ);refine PySem.W.callWith_K (h₀:=X.base) I.ok.mod.eX hk (Bb (ha pos pins s σ H _ I h) λ us s1 ⟨vs,H1,I1,r,q⟩=>⟨I1.L3,?_⟩) he a5;exact RP F hr hb hd hx I1 r q
structure Mk (K:za)(C f:Addr):Prop where
 makes:PySem.W.makesIn K C=true
 init:zl K (.ref C) "__init__" = some (some (.ref f))
 fn:xw K (.ref f)=true
 kp:zV K (.ref C)=true
theorem Wx {pins:List (Addr×Obj)}{σ:St}{H:Hp}{s:Shared}{Q:VK}{us:List Value}{vs:List V}(M:Mk X.K C f)(F:CG X.prog X.w X.K X.mg X.base CX k f fd ps sp)(hr:Bn (k+1) X.A)(hb:Binds X.K fd ps ds)(hd:Vals bE ds)
 (hx:EQ CX X E) (I:Inv X pins σ H s) (r:Vals vs us)
 (h:∀x dx,H x=none->H dx=none->dx≠x->sp (.ref x::(vs++bE)) (upd (upd H dx (.own x)) x (.ins C dx [])) (λ v H2=>v=.Ay/\Q (.ref x) H2) E):
 wpAny (model X.prog X.w) X.A (call (.ref C) us) (EP X pins σ Q) X.xe s:=by
 have hq:=h (s.heap.objs.size+1) s.heap.objs.size (I.Ar.fresh (Nat.le_succ _)) (I.Ar.fresh (zv _)) (zB (Nat.lt_succ_self _));have I2:=Inv.made (C:=C) I;have r2:Vals (V.ref (s.heap.objs.size+1)::(vs++bE)) (zK (s.heap.objs.size+1)::(us++ds)):=.cons rfl (r.append hd);have hl:(zK (s.heap.objs.size+1)::us++ds).length=ps.length:=by
  have e:=r2.length;rw[F.len _ _ _ _ hq] at e;exact e.symm
 refine wpAny_call (Q4 (f:=f) I.L3 M.makes M.init (beq_iff_eq.mp M.fn) (codeAny_mono (F.run _ X.stack _ _ ⟨zK (s.heap.objs.size+1)::us,[]⟩ (zK (s.heap.objs.size+1)::(us++ds)) _ _ E (hr.make C us [])
  (I2.gB.make C us []) (hb _ (zK (s.heap.objs.size+1)::us) I2.L3 hl) r2 hq) λ r s' b7=>?_))
 cases r with
 |error e=>exact hx pins σ _ _ e s' I2 b7
 |ok fl =>
  cases fl with
  |ret u =>
   obtain⟨v,H',I3,rv,ev,q3⟩:=I2.after b7;subst ev;exact⟨rv,⟨V.ref (s.heap.objs.size+1),H',I3,rfl,q3⟩⟩
  |next|brk|cont=>exact yD b7
theorem Tj (M:Mk X.K C f)(F:CG X.prog X.w X.K X.mg X.base CX k f fd ps sp)(hr:Bn (k+1) X.A)(hg:Gl X x)(hm:X.mg x=some (.ref C))(hb:Binds X.K fd ps ds)(hd:Vals bE ds)(hx:EQ CX X E)
 (ha:PA X (e::es) t) (aJ:(x==("__debug__" : Str))=false:=by decide) (he:starEach (e::es) X.env=(false,eval e X.env)::starEach es X.env:=by rfl) (a5:(backTo pos (starEach es X.env)).any (·.1)=false:=by rfl):
 PE X (.Call (.Name x p) (e::es) [] pos) (mD C sp bE E t):=by
 intro pins s σ H Q I h;refine wpAny_Call_Name_kw (Lf I hg hm ?_ aJ);refine PySem.W.callWith_K (h₀:=X.base) I.ok.mod.eX M.kp (Bb (ha pos pins s σ H _ I h) λ us s1 ⟨vs,H1,I1,r,q⟩=>⟨I1.L3,?_⟩) he a5;exact Wx M F hr hb hd hx I1 r q
end
def PK (X:Cx)(im:List Keyword)(t:TA):Prop:=
 ∀(pos:Pos) (pins:List (Addr×Obj)) (s:Shared) (σ:St) (H:Hp) (Q:List V->Hp->Prop),Inv X pins σ H s->t σ H Q->wpAny (model X.prog X.w) X.A (evalAll ((backToKw pos (keywordEach im X.env)).map (·.2))) (AP X pins σ Q) X.xe s
section
variable {X:Cx}{CX:RN}{k:Nat}{f C:Addr}{fd:FuncData}{ps ks:List Str}{sp:Sp}{E:XK}{x m:Str}{p pos apos aU:Pos}{e o:Expr}{es:List Expr}{im:List Keyword}{te ta:TE}{t tk:TA}{nm:Option Str}
theorem gC:PK X [] fZ:=λ _ _ _ _ H Q I h=>wpAny_evalAll_nil ⟨[],H,I,.nil,h⟩
theorem Z0 (ha:PE X e te)(hr:PK X im t):PK X (⟨nm,e,aU⟩::im) (dP te t):=by
 intro pos pins s σ H Q I h;show wpAny _ _ (evalAll ((do let v <-eval e X.env;standAt pos;pure v)::(backToKw pos (keywordEach im X.env)).map (·.2))) _ _ s;refine wpAny_evalAll_cons (wpAny_bind (Bb (ha pins s σ H _ I h) λ u s1 ⟨x,H1,I1,r1,q1⟩=>wpAny_bind (wpAny_standAt (wpAny_pure ?_))));exact Bb (hr pos pins s1 σ H1 _ I1 q1) λ us s2 ⟨xs,H2,I2,r2,q2⟩=>⟨x::xs,H2,I2,.cons r1 r2,q2⟩
variable {g:List Value->List Value->List Value}{gV:List V->List V->List V}
end
structure Am (N P:List Str)(sc:Scope):Prop where
 kind:sc.kind=.function
 co:sc.isCoroutine=false
 gen:sc.isGenerator=false
 nd:N.Nodup
 pre:N.take P.length=P
 sM:∀x∈P,sc.names.lookup x=some .local\/sc.names.lookup x=some .cell
 gD:∀y∈sc.names,y.2≠.free
theorem NC {kindOf:Str->Option NameKind}{x:Str}:∀ {binds:List (Str×Value)}{m:Str->Option Value},(∀v,(x,v)∉binds)->bindL kindOf binds m x=m x
 |[],_,_=>rfl
 |(n,v)::r,m,h=>by
  unfold bindL;rw[NC λ w hw=>h w (zf _ hw)];split
  ·have:x≠n:=by rintro rfl;exact h v zc
   simp[this]
  ·rfl
theorem ND {kindOf:Str->Option NameKind}{x:Str}:∀ {binds:List (Str×Value)}{m:Str->Option Value},(∀v,(x,v)∉binds)->bindC kindOf binds m x=m x
 |[],_,_=>rfl
 |(n,v)::r,m,h=>by
  unfold bindC;rw[ND λ w hw=>h w (zf _ hw)];split
  ·rfl
  ·have:x≠n:=by rintro rfl;exact h v zc
   simp[this]
theorem NE {kindOf:Str->Option NameKind}{x:Str}{v:Value}:∀ {P:List Str}{vs:List Value}{i:Nat}{m:Str->Option Value},P.Nodup->P[i]?=some x->vs[i]?=some v->kindOf x=some .local->
 bindL kindOf (P.zip vs) m x=some v
 |[],_,_,_,_,h,_,_|_::_,[],_,_,_,_,h,_=>by simp at h
 |p::P,w::vs,0,m,nd,h1,h2,hk=>by
  simp at h1 h2;subst h1;subst h2;show bindL kindOf ((p,w)::P.zip vs) m p=_;unfold bindL;rw[NC λ v hv=>(yf.mp nd).1 (List.of_mem_zip hv).1,if_pos hk];simp
 |p::P,w::vs,i+1,m,nd,h1,h2,hk=>by
  show bindL kindOf ((p,w)::P.zip vs) m x=_;unfold bindL;exact NE (i:=i) (yf.mp nd).2 (by simpa using h1) (by simpa using h2) hk
theorem NF {kindOf:Str->Option NameKind}{x:Str}{v:Value}:∀ {P:List Str}{vs:List Value}{i:Nat}{m:Str->Option Value},P.Nodup->P[i]?=some x->vs[i]?=some v->kindOf x≠some .local->
 bindC kindOf (P.zip vs) m x=some v
 |[],_,_,_,_,h,_,_|_::_,[],_,_,_,_,h,_=>by simp at h
 |p::P,w::vs,0,m,nd,h1,h2,hk=>by
  simp at h1 h2;subst h1;subst h2;show bindC kindOf ((p,w)::P.zip vs) m p=_;unfold bindC;rw[ND λ v hv=>(yf.mp nd).1 (List.of_mem_zip hv).1,if_neg hk];simp
 |p::P,w::vs,i+1,m,nd,h1,h2,hk=>by
  show bindC kindOf ((p,w)::P.zip vs) m x=_;unfold bindC;exact NF (i:=i) (yf.mp nd).2 (by simpa using h1) (by simpa using h2) hk
noncomputable def start (N:List Str)(vs:List V):St:=vs.map some++zD (N.length-vs.length) none
noncomputable def L5 (CX:RN)(P:Program)(w:World)(K:za)(mg:Str->Option Value)(base:Heap)(N:List Str)(qual:Str)(scope:Scope)(f:Addr)(cd:Value)(A:Around)(outer:List Env)(s:Shared)(H:Hp)(E:XK):Cx where
 prog:=P
 w:=w
 K:=K
 mg:=mg
 base:=base
 A:=A.deeper (envOfC qual scope s.heap.objs.size f cd)
 N:=N
 s₀:=s
 H₀:=H
 env:=envOfC qual scope s.heap.objs.size f cd
 outer:=outer
 stack:=envOfC qual scope s.heap.objs.size f cd::outer
 ex:=[]
 calm:=true
 fn:=λ _=>true
 pn:=[]
 xe:=λ e s'=>wpAny (model P w) (A.deeper (envOfC qual scope s.heap.objs.size f cd)) (leaving (envOfC qual scope s.heap.objs.size f cd) e) (λ _ ip=>CX outer H s E e ip) (λ e' ip=>CX outer H s E e' ip) s'
theorem Q5 {sc:Scope}{n:Nat}{x:Str}(h:sc.names.lookup x=some .cell):∃c,(cellsFrom n sc.names []).lookup x=some c:=by
 have q:=PySem.W.cellsFrom_some sc.names n [] (.inl h);exact yZ.mp q
theorem UG {CX:RN}{P:Program}{w:World}{K:za}{mg:Str->Option Value}{base:Heap}{N ps:List Str}{qual:Str}{scope:Scope}{f:Addr}{cd:Value}{A:Around}{outer:List Env}{s s1:Shared}{H:Hp}{E:XK}{us:List Value}{vs:List V}
 (S:Am N ps scope) (hd:A.handled=none) (e0:RO P w K mg base A outer s H) (hl:vs.length=ps.length) (r:Vals vs us)
 (x:InCallC s s.heap.objs.size (bindL (envOfC qual scope s.heap.objs.size f cd).kindOf (ps.zip us) λ _=>none) (cellsFrom (s.heap.objs.size+1) scope.names []) (bindC (envOfC qual scope s.heap.objs.size f cd).kindOf (ps.zip us) λ _=>none) s1):
 Inv (L5 CX P w K mg base N qual scope f cd A outer s H E) [] (start N vs) H s1:=by
 have a5:ps.length<=N.length:=by have:=congrArg List.length S.pre;rw[xi] at this;omega
 obtain⟨h1,tk,rfl,hk⟩:=x.done;have iq:∀b:Addr,b∉(L5 CX P w K mg base N qual scope f cd A outer s H E).ex:=λ b z=>absurd (show b∈([]:List Addr) from z) (by simp);refine⟨⟨e0.mod,S.kind,rfl,rfl,zv _,λ y z c h1 h2=>?_,λ y hy=>?_,λ y c _ h=>?_,λ _=>hd,Around.frames_deeper e0.frames,.inr ⟨rfl,rfl⟩,λ b z=>absurd z (iq b),e0.bs,e0.YM,λ b _ _=>iq b,λ b z=>absurd z (iq b),e0.J5,e0.eY⟩,
  rfl,e0.bare,Un.kept hk,⟨_,x.toInCall.ns,λ i y v h1 h2 h3=>?_⟩,λ y c h=>⟨_,x.cell y c h⟩,e0.Ar.fresh (zv _),λ y c h=>?_,λ p hp=>absurd (show p∈([]:List (Addr×Obj)) from hp) (by simp),e0.Ar.kept hk,?_⟩
 ·exact name_of_addr x.apart (xx h1) (xx h2)
 ·have hy:scope.names.lookup y=some .cell\/scope.names.lookup y=some .free:=hy;rcases hy with hy|hy
  ·exact Q5 hy
  ·exact absurd rfl (S.gD _ (xx hy))
 ·exact yd (x.above y c (xx h))
 ·have hi:i<vs.length:=by
   unfold start at h2;by_cases hi:i<vs.length
   ·exact hi
   ·rw[xu (by simpa using hi)] at h2;rw[List.getElem?_replicate] at h2;split at h2<;>cases h2
  have ha:vs[i]?=some v:=by
   unfold start at h2;rw[yB (by simpa using hi),zw] at h2;cases e:vs[i]? with
   |none=>rw[e] at h2;cases h2
   |some a=>rw[e] at h2;cases h2;rfl
  obtain⟨u,hu,rv⟩:=r.get ha;have hp:ps[i]?=some y:=by
   rw[<-S.pre,List.getElem?_take_of_lt (by omega)];exact h1
  have sK:ps.Nodup:=by rw[<-S.pre];exact S.nd.sublist (List.take_sublist _ _)
  refine⟨u,rv,?_⟩;rcases S.sM y (zr hp) with k|k
  ·exact .inl ⟨k,NE sK hp hu k⟩
  ·obtain⟨c,e⟩:=Q5 (n:=s.heap.objs.size+1) k;refine .inr ⟨.inl k,c,e,?_⟩;have q:=x.cell y c e;rw[NF sK hp hu (by show scope.names.lookup y≠_;rw[k];decide)] at q;exact q
 ·exact e0.Ar.fresh (yd (x.above y c (xx h)))
 ·unfold start;show _=N.length;rw[zM,ze,List.length_replicate];omega
theorem Tn {CX:RN}{P:Program}{w:World}{K:za}{mg:Str->Option Value}{base:Heap}{k:Nat}{f:Addr}{name qual:Str}{params:Arguments}{body:List Stmt}{scope:Scope}{dV kV doc pm B7 ct oc:Value}{an od:Option Addr}
 {Ry:Array (Option Value)} {N ps:List Str} {sp:Sp} (lk:K.lookup f=some ⟨oc,od,.func (zT name qual params body scope dV kV doc pm an B7 ct),Ry⟩) (bv:yh K B7 qual=true) (S:Am N ps scope)
 (len:∀vs H Q E,sp vs H Q E->vs.length=ps.length)
 (cc:∀(A:Around) (outer:List Env) (s:Shared) (H:Hp) (vs:List V) (Q:VK) (E:XK),Bn k (A.deeper (envOfC qual scope s.heap.objs.size f B7))->sp vs H Q E->
  ∃t,Te (L5 CX P w K mg base N qual scope f B7 A outer s H E) body t/\t {nx:=λ _ H'=>Q .Ay H',rt:=Q} (start N vs) H):
 CG P w K mg base CX (k+1) f (zT name qual params body scope dV kV doc pm an B7 ct) ps sp:=by
 refine⟨len,λ A outer s H args us vs Q E hr e0 hb r c9=>?_⟩;have hl:=len _ _ _ _ c9;have KX:K.In s.heap:=e0.mod.eX.keeps λ b o e=>(e0.bs b o e).1;have lim:s.heap.NoLimit:=e0.mod.nolimit.keeps λ b o e=>(e0.bs b o e).1;have ir:∀y∈ps.zip us,scope.names.lookup y.1=some .local\/(scope.names.lookup y.1=some .cell/\((cellsFrom (s.heap.objs.size+1) scope.names []).lookup y.1).isSome=true):=λ⟨n,v⟩ hy=>by
  rcases S.sM n (List.of_mem_zip hy).1 with q|q
  ·exact .inl q
  ·exact .inr ⟨q,PySem.W.cellsFrom_some _ _ _ (.inl q)⟩
 refine codeAny_call_function hr.depth (KX _ _ lk) rfl S.co S.gen rfl (PySem.W.codeRec_of KX bv) (hb _ _ _ _ ?_);refine wpAny_newFunctionEnv_cells S.kind ir λ env he s1 x=>?_;subst he;refine⟨lim.keeps x.toInCall.keep,codeAny_func ?_⟩;obtain⟨t,ht,hq⟩:=cc A outer s H vs Q E (hr.deeper _) c9;have I:Inv (L5 CX P w K mg base N qual scope f B7 A outer s H E) [] (start N vs) H s1:=UG S hr.hd e0 hl r x;refine wpAny_mono (ht [] s1 (start N vs) H _ I hq) (λ fl s' hs=>?_) λ e s' hs=>hs;have fin:∀ {σ':St} {H':Hp} {v:V} {u:Value},Inv (L5 CX P w K mg base N qual scope f B7 A outer s H E) [] σ' H' s'->RelV v u->Q v H'->CE outer P w H s Q u s':=
  fun {σ' H' v u} J rv q=>⟨v,H',J.os,J.bare,J.base,J.Ar,rv,q⟩
 cases fl with
 |ret u =>
  obtain⟨v,σ',H',J,rv,q⟩:=hs;exact fin J rv q
 |next =>
  obtain⟨σ',H',J,q⟩:=hs;exact fin (v:=V.Ay) (u:=y7) J rfl q
 |brk =>
  obtain⟨_,_,_,q⟩:=hs;exact yD q
 |cont =>
  obtain⟨_,_,_,q⟩:=hs;exact yD q
section
variable {X:Cx}{x:Str}{p pos:Pos}{e:Expr}{es:List Expr}{t:TA}{id T:String}{r:List V->Hp->VK->Prop}
noncomputable def qJ (r:List V->Hp->VK->Prop)(t:TA):TE:=λ σ H Q=>t σ H λ vs H1=>r vs H1 Q
theorem Q6 (hc:Gm X (.builtin id) r)(hg:Gl X x)(hm:X.mg x=none)(hv:bootBuiltins x=some (.builtin id))(ha:PA X (e::es) t)(hn:x ≠ "__name__" := by decide)(aJ:(x==("__debug__" : Str))=false:=by decide)
 (he:starEach (e::es) X.env=(false,eval e X.env)::starEach es X.env:=by rfl) (a5:(backTo pos (starEach es X.env)).any (·.1)=false:=by rfl):PE X (.Call (.Name x p) (e::es) [] pos) (qJ r t):=by
 intro pins s σ H Q I h;refine wpAny_Call_Name_kw (Dh I hg hm hv ?_ hn aJ);exact yU (Bb (ha pos pins s σ H _ I h) λ us s1 ⟨vs,H1,I1,r1,q1⟩=>hc pins s1 σ H1 vs us Q I1 r1 q1) he a5
theorem JV (hc:Gm X (.type T) r)(hg:Gl X x)(hm:X.mg x=none)(hv:bootBuiltins x=some (.type T))(ha:PA X (e::es) t)(hn:x ≠ "__name__" := by decide)(aJ:(x==("__debug__" : Str))=false:=by decide)
 (he:starEach (e::es) X.env=(false,eval e X.env)::starEach es X.env:=by rfl) (a5:(backTo pos (starEach es X.env)).any (·.1)=false:=by rfl):PE X (.Call (.Name x p) (e::es) [] pos) (qJ r t):=by
 intro pins s σ H Q I h;refine wpAny_Call_Name_kw (Dh I hg hm hv ?_ hn aJ);exact yq (Bb (ha pos pins s σ H _ I h) λ us s1 ⟨vs,H1,I1,r1,q1⟩=>hc pins s1 σ H1 vs us Q I1 r1 q1) he a5
end
end L2
namespace HT
open PySem PyProof.Rows
noncomputable def lexLt:List Int->List Int->Bool
 |[],[]=>false
 |[],_::_=>true
 |_::_,[]=>false
 |x::xs,y::ys=>if x=y then lexLt xs ys else decide (x<y)
theorem FO (x y:Int)(xs ys:List Int):lexLt (x::xs) (y::ys)=if x=y then lexLt xs ys else decide (x<y):=rfl
theorem ER:lexLt [] []=false:=rfl
theorem LF (y:Int)(ys:List Int):lexLt [] (y::ys)=true:=rfl
theorem LG (x:Int)(xs:List Int):lexLt (x::xs) []=false:=rfl
theorem Wy (A:Around)(s:Shared)(a:Int)(t:Tok)(c:Int)(u:Tok):∃e,SeqAt.EqAt A s (.int a t) (.int c u) e/\(e=true↔a=c):=
 ⟨(a==c),SeqAt.EqAt.int_int a t c u,by simp⟩
theorem Wz (A:Around)(s:Shared)(a:Int)(t:Tok)(c:Int)(u:Tok)(prog:Program)(w:World)(E:Value->Shared->Prop)(Q:Value->Shared->Prop)(h:Q (.bool (decide (a<c))) s):
 wpAny (model prog w) A (richCompare .Lt (.int a t) (.int c u)) Q E s:=
 (PyProof.Rows.lt_int h:wpAny (model prog w) A (compareOp .Lt (.int a t) (.int c u)) Q E s)
section
open PySem.SeqAt
open PySem.AutoSeq1 (wpAny_loadPart')
open PySem.MeetsSeq PySem.MeetsSeq2 PySem.MeetsSeq3
theorem Nb (l b:Addr)(items ay:Array Value)(n n2:Nat)(dd mo:Option Addr)(sl mq:Array (Option Value))(ns ms:List Int)(hi:IntsAre items.toList ns)(hj:IntsAre ay.toList ms):
 Meets (Builtin.«tuple.__lt__» ⟨[.ref l,.ref b],[]⟩)
  (λ _ R s=>s.heap.get? l=some {cls:=.type "tuple",dict:=dd,data:=.seq items n,slots:=sl}/\s.heap.get? b=some {cls:=.type "tuple",dict:=mo,data:=.seq ay n2,slots:=mq}/\
   R (.ok (.ret (.bool (lexLt ns ms)))) s):=
 .of_wp λ prog w A R s h=>by
  obtain⟨hp,g,d,tk,os⟩:=s;obtain⟨hl,hb,h⟩:=h;have f2:=AutoSeq1.sub_tuple_tuple;have z1:items.size=ns.length:=by rw[<-hi.length];simp
  have z2:ay.size=ms.length:=by rw[<-hj.length];simp
  wp_walk using wpAny_loadPart' hl,wpAny_loadPart' hb,wpAny_forIn_list _ (λ rest b s'=>b.1=none/\s'=⟨hp,g,d,tk,os⟩/\∃(vs ws:List Value) (cG h8:List Int),rest=vs.zip ws/\
   IntsAre vs cG/\IntsAre ws h8/\cG.length+ay.size=h8.length+items.size/\R (.ok (.ret (.bool (lexLt cG h8)))) ⟨hp,g,d,tk,os⟩) _
  case turn =>
   rintro ⟨y,x⟩ rest b s' ⟨a9,rfl,vs,ws,cG,h8,hz,mr,ke,hlen,hR⟩;cases mr with
   |nil=>rw[List.zip_nil_left] at hz;cases hz
   |cons a t mt =>
    cases ke with
    |nil=>rw[List.zip_nil_right] at hz;cases hz
    |cons c u mx =>
     rw[List.zip_cons_cons] at hz;injection hz with uq iu
     injection uq with hy hx
     subst hy hx;rw[FO] at hR;simp only[zp] at hlen;obtain⟨e,he,iw⟩:=Wy A.in1 ⟨hp,g,d,tk,os⟩ a t c u;refine wpAny_bind (he prog w _ _ ?_);cases e with
     |true =>
      rw[if_pos (iw.mp rfl)] at hR
      wp_walk
      exact⟨rfl,rfl,_,_,_,_,iu,mt,mx,by omega,hR⟩
     |false =>
      rw[if_neg (λ q=>absurd (iw.mpr q) zI)] at hR;have ur:=Wz A.in1 ⟨hp,g,d,tk,os⟩ a t c u prog w
      wp_walk using ur
      exact⟨_,rfl,by simpa using hR⟩
  case fin =>
   rintro ⟨b1,b2⟩ s' ⟨a9,rfl,vs,ws,cG,h8,hz,mr,ke,hlen,hR⟩;simp only at a9;subst a9;have hv:lexLt cG h8=decide (items.size<ay.size):=by
    cases mr with
    |nil =>
     cases ke with
     |nil =>
      simp only[List.length_nil] at hlen;rw[ER];exact (decide_eq_false (by omega)).symm
     |cons c u hw =>
      simp only[List.length_nil,zp] at hlen;rw[LF];exact (decide_eq_true (by omega)).symm
    |cons a t hv =>
     cases ke with
     |nil =>
      simp only[List.length_nil,zp] at hlen;rw[LG];exact (decide_eq_false (by omega)).symm
     |cons c u hw =>
      rw[List.zip_cons_cons] at hz;cases hz
   rw[hv] at hR
   wp_walk
   exact⟨_,rfl,by simpa [Builtin.Tuple.tupleCompareSizes] using hR⟩
  case h =>
   exact⟨rfl,rfl,items.toList,ay.toList,ns,ms,rfl,hi,hj,by omega,h⟩
end
section
variable {prog:Program}{w:World}{A:Around}{E:Value->Shared->Prop}{s:Shared}
theorem Ip {l b:Addr}{items ay:Array Value}{ns ms:List Int}{Q:Value->Shared->Prop}(hl:IsTup s.heap l items)(hb:IsTup s.heap b ay)(hi:IntsAre items.toList ns)(hj:IntsAre ay.toList ms)
 (hu:A.units<cLine) (h:Q (.bool (lexLt ns ms)) s):wpAny (model prog w) A (compareOp .Lt (.ref l) (.ref b)) Q E s:=by
 obtain⟨⟨cls,dd,data,sl⟩,ho,hc,n,hd⟩:=id hl;obtain⟨⟨ut,mo,data2,mq⟩,kg,sN,n2,hd2⟩:=id hb;simp only at hc hd sN hd2;subst hc hd sN hd2;exact richCompare_meets_room (op:=.Lt) ⟨_,ho,rfl⟩ ⟨_,kg,rfl⟩ PySem.F.slot_tuple_lt PySem.F.entry_tuple_lt (PySem.F.args_tuple_lt_2 _ _) (Nb l b items ay n n2 dd mo sl mq ns ms hi hj)
  ⟨ho,kg,show Value.bool (lexLt ns ms)≠Value.notImplemented/\Q (.bool (lexLt ns ms)) s from ⟨(λ x=>nomatch x),h⟩⟩ hu
noncomputable def LH (n d:Nat):Option Int->Nat
 |none=>d
 |some v=>if v<0 then (v+(n:Int)).toNat else min v.toNat n
theorem Q7 (n d:Nat):LH n d none=d:=rfl
theorem Lg (n d k:Nat):LH n d (some (k:Int))=min k n:=by
 show (if (k:Int)<0 then ((k:Int)+(n:Int)).toNat else min (k:Int).toNat n)=min k n;rw[if_neg (by omega),y9]
end
end HT
namespace L2
open PySem PySem.Spec PyProof.Rows
noncomputable abbrev TO:=St->Hp->(Option Int->Hp->Prop)->Prop
def PO (X:Cx)(e:Option Expr)(t:TO):Prop:=
 ∀(pins:List (Addr×Obj)) (s:Shared) (σ:St) (H:Hp) (Q:Option Int->Hp->Prop),Inv X pins σ H s->t σ H Q->
  wpAny (model X.prog X.w) X.A (evalPart e X.env) (λ u s'=>∃o H',Inv X pins σ H' s'/\IsPart u o/\Q o H') X.xe s
noncomputable def Z1:TO:=λ _ H Q=>Q none H
noncomputable def mE (t:TE):TO:=λ σ H Q=>t σ H λ x H1=>∃i,x=.int i/\Q (some i) H1
theorem intsAre_of {ns:List Int}:∀ {us:List Value},Vals (ns.map V.int) us->IntsAre us ns:=by
 induction ns with
 |nil=>intro us r;rw[List.map_nil] at r;cases r;exact .nil
 |cons n ns ih =>
  intro us r;rw[zh] at r;cases r with
  |cons r1 r2 =>
   obtain⟨t,e⟩:=r1;subst e;exact .cons n t (ih r2)
section
variable {X:Cx}{e:Expr}{te:TE}{lo hi:Option Expr}{tl th:TO}{pos p2:Pos}
theorem Z2:PO X none Z1:=by
 intro pins s σ H Q I h;rw[evalPart_none];exact wpAny_pure ⟨none,H,I,.none,h⟩
theorem Z3 (h:PE X e te):PO X (some e) (mE te):=by
 intro pins s σ H Q I hw;rw[evalPart_some];refine Bb (h pins s σ H _ I hw) λ u s1 ⟨x,H1,I1,r1,q1⟩=>?_;obtain⟨i,rfl,q⟩:=q1;obtain⟨t,rfl⟩:=r1;exact⟨some i,H1,I1,.int i t,q⟩
def sO (X:Cx)(r:V->Option Int->Option Int->Hp->VK->Prop):Prop:=
 ∀(pins:List (Addr×Obj)) (s:Shared) (σ:St) (H:Hp) (x:V) (v vl vu:Value) (lo hi:Option Int) (sl:Addr) (Q:VK),Inv X pins σ H s->RelV x v->s.heap.IsSliceOf sl vl vu .none->IsPart vl lo->IsPart vu hi->r x lo hi H Q->
  ∃T id,typeLookup (.type T) "__getitem__" = pure (some (.builtin id))/\s.TypeIs v T/\wpAny (model X.prog X.w) X.A (getItem v (.ref sl)) (EP X pins σ Q) X.xe s
noncomputable def uE (r:V->Option Int->Option Int->Hp->VK->Prop)(te:TE)(tl th:TO):TE:=λ σ H Q=>te σ H λ x H1=>tl σ H1 λ l H2=>th σ H2 λ u H3=>r x l u H3 Q
theorem WA {r:V->Option Int->Option Int->Hp->VK->Prop}(hr:sO X r)(he:PE X e te)(hl:PO X lo tl)(hu:PO X hi th):PE X (.Subscript e (.Slice lo hi none p2) pos) (uE r te tl th):=by
 intro pins s σ H Q I h;refine Subscript_ (Bb (he pins s σ H _ I h) λ v s1 ⟨x,H1,I1,r1,q1⟩=>?_);refine wpAny_Slice (Bb (hl pins s1 σ H1 _ I1 q1) λ vl s2 ⟨l,H2,I2,pl,q2⟩=>Bb (hu pins s2 σ H2 _ I2 q2) λ vu s3 ⟨u,H3,I3,pu,q3⟩=>?_);rw[evalPart_none];refine wpAny_pure ?_;have I4:Inv X pins σ H3 {s3 with heap:=s3.heap.push {cls:=.type "slice",data:=.fields #[vl,vu,.none]} }:=I3.kept (t':=s3.toks) λ b ob q=>zi _ q;obtain⟨T,id,hT,ht,hg⟩:=hr pins {s3 with heap:=s3.heap.push {cls:=.type "slice",data:=.fields #[vl,vu,.none]} } σ H3 x v vl vu l u s3.heap.objs.size Q I4 r1 (Heap.IsSliceOf.new ..) pl pu q3;show wpAny (model X.prog X.w) X.A (subscriptTail e (.Slice lo hi none p2) v (.ref s3.heap.objs.size)) (EP X pins σ Q) X.xe {s3 with heap:=s3.heap.push {cls:=.type "slice",data:=.fields #[vl,vu,.none]} };exact tail_any (ops:=[.ref s3.heap.objs.size,v]) ht hT hg (by with_unfolding_all rfl)
noncomputable def WB (xs:List V)(lo hi:Option Int):List V:=(xs.drop (HT.LH xs.length 0 lo)).take (HT.LH xs.length xs.length hi-HT.LH xs.length 0 lo)
theorem Q8 (xs:List V)(lo hi:Option Int):(WB xs lo hi).length<=xs.length:=by
 unfold WB;rw[xi,xy];omega
noncomputable def mF (K:za):R2:=λ x y H Q=>∃a b ns ms,x=.ref a/\y=.ref b/\Gk K H a (ns.map V.int)/\Gk K H b (ms.map V.int)/\Q (.bl (HT.lexLt ns ms)) H
theorem WC (hu:X.A.units<cLine):Hm X (compareOp .Lt) (mF X.K):=by
 intro pins s σ H x y v u Q I rx ry h;obtain⟨a,b,ns,ms,rfl,rfl,ha,hb,q⟩:=h;cases rx;cases ry;obtain⟨aa,r1,p1,_⟩:=I.tuple ha;obtain⟨bQ,r2,p2,_⟩:=I.tuple hb;have i1:IntsAre aa.toArray.toList ns:=intsAre_of r1;have i2:IntsAre bQ.toArray.toList ms:=intsAre_of r2;exact HT.Ip p1 p2 i1 i2 hu ⟨.bl (HT.lexLt ns ms),H,I,rfl,q⟩
end
noncomputable def RQ (n:Nat)(i:Int):Option Nat:=if 0<=i then (if i<n then some i.toNat else none) else if -(n:Int)<=i then some (i+n).toNat else none
noncomputable def Rz {α:Type}(xs:List α)(i:Int):Option α:=(RQ xs.length i).bind λ j=>xs[j]?
theorem To {n:Nat}{i:Int}{j:Nat}(h:RQ n i=some j):seqIndex? i n=some j/\j<n/\-(n:Int)<=i/\i<n:=by
 unfold RQ at h;by_cases h0:0<=i
 ·rw[if_pos h0] at h;by_cases h1:i<n
  ·rw[if_pos h1] at h;have e:i.toNat=j:=z0 h;exact⟨by rw[seqIndex_of h0 h1,e],by omega,by omega,h1⟩
  ·rw[if_neg h1] at h;cases h
 ·rw[if_neg h0] at h;by_cases h1 : -(n:Int)<=i
  ·rw[if_pos h1] at h;have e:(i+n).toNat=j:=z0 h;exact⟨by rw[seqIndex_neg (by omega) h1,e],by omega,h1,by omega⟩
  ·rw[if_neg h1] at h;cases h
theorem Tp {α:Type}{xs:List α}{i:Int}{v:α}(h:Rz xs i=some v):∃j,seqIndex? i xs.length=some j/\xs[j]?=some v/\j<xs.length/\-(xs.length:Int)<=i/\i<xs.length:=by
 unfold Rz at h;cases e:RQ xs.length i with
 |none=>rw[e] at h;cases h
 |some j =>
  rw[e] at h;obtain⟨h1,h2,h3,h4⟩:=To e;exact⟨j,h1,h,h2,h3,h4⟩
def Lh (b:Expr):Prop:=∀o i,subscripted b false o i=operate [o,i] (getItem o i)
def Z4 (X:Cx)(r:R2):Prop:=
 ∀(value slice:Expr) (pins:List (Addr×Obj)) (s:Shared) (σ:St) (H:Hp) (x y:V) (v u:Value) (Q:VK),Inv X pins σ H s->RelV x v->RelV y u->r x y H Q->
  subscripted slice false v u=operate [v,u] (getItem v u)->wpAny (model X.prog X.w) X.A (subscriptTail value slice v u) (EP X pins σ Q) X.xe s
def sP (X:Cx)(id:String)(r:V->List V->Hp->VK->Prop):Prop:=
 ∀(pins:List (Addr×Obj)) (s:Shared) (σ:St) (H:Hp) (x:V) (xs:List V) (v:Value) (us:List Value) (Q:VK),Inv X pins σ H s->RelV x v->Vals xs us->r x xs H Q->
  wpAny (model X.prog X.w) X.A (call (.builtin id) (v::us)) (EP X pins σ Q) X.xe s
section
variable {X:Cx}{a b:Expr}{ta tb:TE}{pos:Pos}
theorem Z4.or {r r':R2}(h:Z4 X r)(h':Z4 X r'):Z4 X (λ x y H Q=>r x y H Q\/r' x y H Q):=by
 intro value slice pins s σ H x y v u Q I rx ry q hs;rcases q with q|q
 ·exact h value slice pins s σ H x y v u Q I rx ry q hs
 ·exact h' value slice pins s σ H x y v u Q I rx ry q hs
theorem dQ {r:R2}(hr:Z4 X r)(ha:PE X a ta)(hb:PE X b tb)(hs:Lh b):PE X (.Subscript a b pos) (lS r ta tb):=by
 intro pins s σ H Q I h;exact Subscript_ (fO ha hb I h λ v u s2 x y H2 I2 rx ry q=>hr a b pins s2 σ H2 x y v u Q I2 rx ry q (hs _ _))
noncomputable def gE (K:za):R2:=λ x y H Q=>∃p xs i v,x=.ref p/\y=.int i/\Dt K H p xs/\Rz xs i=some v/\Q v H
noncomputable def gF (K:za):R2:=λ x y H Q=>∃p xs i v,x=.ref p/\y=.int i/\Gk K H p xs/\Rz xs i=some v/\Q v H
theorem Tq:Z4 X (gE X.K):=by
 intro value slice pins s σ H x y v u Q I rx ry h hs;obtain⟨p,xs,i,z,rfl,rfl,hq,he,q⟩:=h;cases rx;obtain⟨t,rfl⟩:=ry;obtain⟨aa,r,pl,hz⟩:=I.list hq;obtain⟨j,h1,h2,h3,h4,h5⟩:=Tp he;obtain⟨w,ew,bF⟩:=r.get h2;have hl:=r.length;have hn:=JT;have fin:EP X pins σ Q w s:=⟨z,H,I,bF,q⟩;by_cases h0:0<=i
 ·have hj:i.toNat=j:=by
   rw[seqIndex_of h0 h5] at h1;exact z0 h1
  exact item_listR pl.isList h0 (by omega) (by rw[hj];simpa using ew) fin hs
 ·have hj:(i+(aa.toArray.size:Int)).toNat=j:=by
   rw[seqIndex_neg (by omega) h4] at h1;rw[zj,<-hl];exact z0 h1
  exact subscriptTail_builtinR (x:=w) pl.isList.typeIs slot_list_getitem.lookup
   (wpAny_getItem_list_neg (Q:=λ r s'=>r=w/\EP X pins σ Q r s') pl.isList (by omega) (by rw[zj]<;>omega) (by omega) (by rw[hj];simpa using ew) ⟨rfl,fin⟩) hs
theorem WD:Z4 X (gF X.K):=by
 intro value slice pins s σ H x y v u Q I rx ry h hs;obtain⟨p,xs,i,z,rfl,rfl,hq,he,q⟩:=h;cases rx;obtain⟨t,rfl⟩:=ry;obtain⟨aa,r,pl,hz⟩:=I.tuple hq;obtain⟨j,h1,h2,h3,h4,h5⟩:=Tp he;obtain⟨w,ew,bF⟩:=r.get h2;have hl:=r.length;have hn:=JT;have fin:EP X pins σ Q w s:=⟨z,H,I,bF,q⟩;exact subscriptTail_builtinR (x:=w) pl.typeIs slot_tuple_getitem.lookup
  (getItem_tuple (j:=j) (Q:=λ r s'=>r=w/\EP X pins σ Q r s') pl (by omega) (by omega) (by rw[zj,<-hl];exact h1) (by simpa using ew) ⟨rfl,fin⟩) hs
theorem RS (aa:List Value)(n j:Nat)(u:Value):yr (·.setIfInBounds j u) {cls:=.type "list",data:=.seq aa.toArray n}={cls:=.type "list",data:=.seq (aa.set j u).toArray n}:=by
 simp[yr]
theorem Inv.lst {pins:List (Addr×Obj)}{σ:St}{H:Hp}{s:Shared}{p:Addr}{xs:List V}(I:Inv X pins σ H s)(h:H p=some (.lst xs)):
 ∃(aa:List Value) (n:Nat),Vals xs aa/\s.heap.get? p=some {cls:=.type "list",data:=.seq aa.toArray n}/\xs.length<=sizeLine:=by
 obtain⟨z,aa,n,r,e⟩:=I.Ar p _ h;exact⟨aa,n,r,e,z⟩
theorem Inv.gH {pins:List (Addr×Obj)}{σ:St}{H:Hp}{s:Shared}{p:Addr}{xs ys:List V}{aa its':List Value}{n n':Nat}{f:Obj->Obj}(I:Inv X pins σ H s)(h:H p=some (.lst xs))
 (ho:s.heap.get? p=some {cls:=.type "list",data:=.seq aa.toArray n}) (hf:f {cls:=.type "list",data:=.seq aa.toArray n}={cls:=.type "list",data:=.seq its'.toArray n' }) (r:Vals ys its') (hz:ys.length<=sizeLine) (t:Nat):
 Inv X pins σ (upd H p (.lst ys)) {s with heap:=s.heap.update p f,toks:=t}:=by
 have e:(s.heap.update p f).get? p=some {cls:=.type "list",data:=.seq its'.toArray n' }:=by
  rw[yT f ho (by rw[hf]<;>rfl),hf]
 refine I.write (x:=p) (e:=p) (by rw[h];trivial) (.inl rfl) (λ b u hb q=>(xm _ _ (yc hb)).trans q) ⟨_,e⟩ ?_;exact⟨hz,its',n',r,e⟩
def mG:V->V->V->Hp->(Hp->Prop)->Prop:=λ o i v H Q=>∃p xs k j,o=.ref p/\i=.int k/\H p=some (.lst xs)/\RQ xs.length k=some j/\Q (upd H p (.lst (xs.set j v)))
theorem set_list:lN X mG:=by
 intro pins s σ H o i v ov iv u Q I ro ri rv h;obtain⟨p,xs,k,j,rfl,rfl,hp,hj,q⟩:=h;cases ro;obtain⟨t,rfl⟩:=ri;obtain⟨aa,n,r,ho,hz⟩:=I.lst hp;obtain⟨h1,h2,h3,h4⟩:=To hj;have hl:=r.length;have hn:=JT;have I':Inv X pins σ (upd H p (.lst (xs.set j v))) {s with heap:=s.heap.update p (yr (·.setIfInBounds j u))}:=
  I.gH hp ho (RS aa n j u) (r.set rv j) (by rw[yL];exact hz) s.toks
 by_cases h0:0<=k
 ·have hk:k.toNat=j:=by
   rw[seqIndex_of h0 h4] at h1;exact z0 h1
  exact PySem.W.ki_setAt ho h0 (by omega) (by rw[zj,<-hl];exact h4) (by rw[hk];exact⟨_,I',q⟩)
 ·have hk:(k+(aa.toArray.size:Int)).toNat=j:=by
   rw[seqIndex_neg (by omega) h3] at h1;rw[zj,<-hl];exact z0 h1
  exact PySem.W.ki_setBack ho (by omega) (by rw[zj,<-hl];exact h3) (by omega) (by rw[hk];exact⟨_,I',q⟩)
theorem OM (lo hi:Option Int)(n:Nat):(sliceBounds lo hi none n).1=((HT.LH n 0 lo:Nat):Int)/\(sliceBounds lo hi none n).2.1=((HT.LH n n hi:Nat):Int)/\(sliceBounds lo hi none n).2.2=1:=by
 refine⟨?_,?_,rfl⟩
 ·cases lo with
  |none=>simp[sliceBounds,HT.LH]
  |some i =>
   simp only[sliceBounds,HT.LH,Option.getD_none,show (1:Int) > 0 by decide,if_true];by_cases h:i<0
   ·simp only[h,if_true]<;>omega
   ·simp only[h,if_false]<;>omega
 ·cases hi with
  |none=>simp[sliceBounds,HT.LH]
  |some i =>
   simp only[sliceBounds,HT.LH,Option.getD_none,show (1:Int) > 0 by decide,if_true];by_cases h:i<0
   ·simp only[h,if_true]<;>omega
   ·simp only[h,if_false]<;>omega
theorem Nc (aa:List Value)(lo hi:Option Int):slicePick aa.toArray lo hi none=((aa.drop (HT.LH aa.length 0 lo)).take (HT.LH aa.length aa.length hi-HT.LH aa.length 0 lo)).toArray:=by
 obtain⟨h1,h2,h3⟩:=OM lo hi aa.toArray.size;unfold slicePick;rw[h1,h2,h3];simp only[sliceRange_one,pick_run,zj]<;>rfl
def qK (K:za):V->Option Int->Option Int->Hp->VK->Prop:=λ x lo hi H Q=>∃a xs,x=.ref a/\Dt K H a xs/\∀p,H p=none->Q (.ref p) (upd H p (.lst (WB xs lo hi)))
theorem Z5:sO X (qK X.K):=by
 intro pins s σ H x v vl vu lo hi sl Q I rx hs pl pu h;obtain⟨a,xs,rfl,hx,q⟩:=h;cases rx;obtain⟨aa,r,ht,hz⟩:=I.list hx;have hlen:=r.length;refine⟨"list",_,slot_list_getitem.lookup,ht.isList.typeIs,?_⟩;refine wpAny_getItem_list_slice ht.isList hs pl pu .none (by simp) ?_ (by rw[zj]<;>omega);rw[Nc,<-hlen];refine⟨.ref s.heap.objs.size,_,I.laid (t':=s.toks) (o:=.lst (WB xs lo hi)) (λ b ob q=>zi _ q) (zv _) ?_,rfl,q _ (I.Ar.fresh (zv _))⟩;exact⟨yk (Q8 xs lo hi) hz,_,0,(r.drop (HT.LH xs.length 0 lo)).take (HT.LH xs.length xs.length hi-HT.LH xs.length 0 lo),zA _ rfl⟩
noncomputable def J9:V->Bool
 | .Ay| .bl _| .int _| .str _=>true
 |_=>false
noncomputable def dR:V->V->Bool
 | .Ay,.Ay=>true
 | .bl a,.bl b=>a==b
 | .bl a,.int b=>(if a then 1 else 0)==b
 | .int a,.bl b=>a==(if b then 1 else 0)
 | .int a,.int b| .str a,.str b=>a==b
 |_,_=>false
theorem gI {A:Around}{s:Shared}{y x:V}{u v:Value}(ry:RelV y u)(rx:RelV x v)(fy:J9 y=true)(fx:J9 x=true):SeqAt.EqAt A s u v (dR y x):=by
 cases y with
 |Ay =>
  cases ry;cases x with
  |Ay=>cases rx;exact SeqAt.EqAt.same _
  |bl b=>cases rx;exact SeqAt.EqAt.none_bool b
  |int b=>obtain⟨t,rfl⟩:=rx;exact SeqAt.EqAt.none_int b t
  |str b=>obtain⟨t,rfl⟩:=rx;exact SeqAt.EqAt.none_str b t
  |_=>exact absurd (show false=true from fx) zI
 |bl a =>
  cases ry;cases x with
  |Ay=>cases rx;exact SeqAt.EqAt.bool_none a
  |bl b=>cases rx;exact SeqAt.EqAt.bool_bool a b
  |int b=>obtain⟨t,rfl⟩:=rx;exact SeqAt.EqAt.bool_int a b t
  |str b=>obtain⟨t,rfl⟩:=rx;exact SeqAt.EqAt.bool_str a b t
  |_=>exact absurd (show false=true from fx) zI
 |int a =>
  obtain⟨t',rfl⟩:=ry;cases x with
  |Ay=>cases rx;exact SeqAt.EqAt.int_none a t'
  |bl b=>cases rx;exact SeqAt.EqAt.int_bool a t' b
  |int b=>obtain⟨t,rfl⟩:=rx;exact SeqAt.EqAt.int_int a t' b t
  |str b=>obtain⟨t,rfl⟩:=rx;exact SeqAt.EqAt.int_str a t' b t
  |_=>exact absurd (show false=true from fx) zI
 |str a =>
  obtain⟨t',rfl⟩:=ry;cases x with
  |Ay=>cases rx;exact SeqAt.EqAt.str_none a t'
  |bl b=>cases rx;exact SeqAt.EqAt.str_bool a t' b
  |int b=>obtain⟨t,rfl⟩:=rx;exact SeqAt.EqAt.str_int a t' b t
  |str b=>obtain⟨t,rfl⟩:=rx;exact SeqAt.EqAt.str_str a t' b t
  |_=>exact absurd (show false=true from fx) zI
 |_=>exact absurd (show false=true from fy) zI
noncomputable def RT (x:V)(u:Value):Bool:=match u with
 | .none=>dR .Ay x
 | .bool b=>dR (.bl b) x
 | .int i _=>dR (.int i) x
 | .str z _=>dR (.str z) x
 |_=>false
theorem WE {x y:V}{u:Value}(r:RelV y u)(f:J9 y=true):RT x u=dR y x:=by
 cases y with
 |Ay|bl b=>cases r;rfl
 |int i|str z=>obtain⟨t,rfl⟩:=r;rfl
 |_=>exact absurd (show false=true from f) zI
theorem Ja {x:V}:∀ {xs:List V}{us:List Value},Vals xs us->xs.all J9=true->us.any (RT x)=xs.any λ y=>dR y x
 |_,_,.nil,_=>rfl
 |y::xs,u::us,.cons r t,f=>by
  rw[xt,zW] at f;rw[xr,xr,WE r f.1,Ja t f.2]
theorem GA {A:Around}{s:Shared}{x:V}{v:Value}(rx:RelV x v)(fx:J9 x=true):∀ {xs:List V}{us:List Value},Vals xs us->xs.all J9=true->∀u∈us,SeqAt.EqAt A s u v (RT x u)
 |_,_,.nil,_=>λ u hu=>by cases hu
 |y::xs,u::us,.cons r t,f=>λ u' hu=>by
  rw[xt,zW] at f;rcases zq.mp hu with rfl|hu
  ·rw[WE r f.1];exact gI r rx f.1 fx
  ·exact GA rx fx t f.2 u' hu
noncomputable def oX (x:V)(xs:List V):Bool:=xs.any λ y=>dR y x
noncomputable def oY (K:za)(neg:Bool):R2:=λ x y H Q=>∃p xs,y=.ref p/\(Dt K H p xs\/Gk K H p xs)/\J9 x=true/\xs.all J9=true/\Q (.bl (if neg then !oX x xs else oX x xs)) H
theorem UH:Hm X (compareOp .In) (oY X.K false):=by
 intro pins s σ H x y v u Q I rx ry h;obtain⟨p,xs,rfl,hq,fx,fs,q⟩:=h;cases ry;rcases hq with hq|hq
 ·obtain⟨aa,r,pl,hz⟩:=I.list hq;refine SeqAt.in_listAt (RT x) pl.isList (λ w hw=>GA rx fx r fs w (by simpa using hw)) ⟨.bl _,H,I,rfl,?_⟩;rw[show aa.toArray.any (RT x)=aa.any (RT x) by simp,Ja r fs];exact q
 ·obtain⟨aa,r,pl,hz⟩:=I.tuple hq;refine SeqAt.in_tupleAt (RT x) pl (λ w hw=>GA rx fx r fs w (by simpa using hw)) ⟨.bl _,H,I,rfl,?_⟩;rw[show aa.toArray.any (RT x)=aa.any (RT x) by simp,Ja r fs];exact q
theorem ON:Hm X (compareOp .NotIn) (oY X.K true):=by
 intro pins s σ H x y v u Q I rx ry h;obtain⟨p,xs,rfl,hq,fx,fs,q⟩:=h;cases ry;rcases hq with hq|hq
 ·obtain⟨aa,r,pl,hz⟩:=I.list hq;refine SeqAt.notIn_listAt (RT x) pl.isList (λ w hw=>GA rx fx r fs w (by simpa using hw)) ⟨.bl _,H,I,rfl,?_⟩;rw[show aa.toArray.any (RT x)=aa.any (RT x) by simp,Ja r fs];exact q
 ·obtain⟨aa,r,pl,hz⟩:=I.tuple hq;refine SeqAt.notIn_tupleAt (RT x) pl (λ w hw=>GA rx fx r fs w (by simpa using hw)) ⟨.bl _,H,I,rfl,?_⟩;rw[show aa.toArray.any (RT x)=aa.any (RT x) by simp,Ja r fs];exact q
theorem OO:Gm X (.builtin "len") (λ xs H Q=>∃p ys,xs=[.ref p]/\(Dt X.K H p ys\/Gk X.K H p ys)/\Q (.int ys.length) H):=by
 intro pins s σ H xs us Q I r h;obtain⟨p,ys,rfl,hq,q⟩:=h;obtain⟨u,rfl,rx⟩:=vals1 r;cases rx;have hn:=JT;rcases hq with hq|hq
 ·obtain⟨aa,r',pl,hz⟩:=I.list hq;have hlen:=r'.length;exact Calls.call_len_list pl.isList (by simp only[zj]<;>omega) ⟨.int ys.length,H,I.tok _,⟨s.toks+1,by rw[zj,hlen]⟩,q⟩
 ·obtain⟨aa,r',pl,hz⟩:=I.tuple hq;have hlen:=r'.length;exact len_tuple pl (by simp only[zj]<;>omega) ⟨.int ys.length,H,I.tok _,⟨s.toks+1,by rw[zj,hlen]⟩,q⟩
theorem OP:Gm X (.type "list") (λ xs H Q=>∃p ys,xs=[.ref p]/\(Dt X.K H p ys\/Gk X.K H p ys)/\∀l,H l=none->Q (.ref l) (upd H l (.lst ys))):=by
 intro pins s σ H xs us Q I r h;obtain⟨p,ys,rfl,hq,q⟩:=h;obtain⟨u,rfl,rx⟩:=vals1 r;cases rx;have fin:∀(aa:List Value),Vals ys aa->ys.length<=sizeLine->∀(h':Heap) (c':Nat),(∀b o',s.heap.get? b=some o'->h'.get? b=some o')->
  h'.get? s.heap.objs.size=some {cls:=.type "list",dict:=none,data:=.seq aa.toArray c',slots:=#[]}->EP X pins σ Q (.ref s.heap.objs.size) {s with heap:=h' }:=λ aa r' hz h' c' kp e =>
  ⟨.ref s.heap.objs.size,_,I.laid (t':=s.toks) kp (zv _) (show AV X.prog X.w _ h' _ (.lst ys) from ⟨hz,aa,c',r',e⟩),rfl,q _ (I.Ar.fresh (zv _))⟩
 rcases hq with hq|hq
 ·obtain⟨aa,r',pl,hz⟩:=I.list hq;have hlen:=r'.length;obtain⟨o,ho,hc,n,hd⟩:=pl.isList;exact call_list_seq p (.inl rfl) ho hc hd (λ h' c' kp e=>fin aa r' hz h' c' kp e) (by simp only[zj]<;>omega)
 ·obtain⟨aa,r',pl,hz⟩:=I.tuple hq;have hlen:=r'.length;obtain⟨o,ho,hc,n,hd⟩:=pl;exact call_list_seq p (.inr rfl) ho hc hd (λ h' c' kp e=>fin aa r' hz h' c' kp e) (by simp only[zj]<;>omega)
theorem Nd:Gm X (.type "tuple") (λ xs H Q=>∃p ys,xs=[.ref p]/\((Dt X.K H p ys/\∀l,H l=none->Q (.ref l) (upd H l (.tup ys)))\/(Gk X.K H p ys/\Q (.ref p) H))):=by
 intro pins s σ H xs us Q I r h;obtain⟨p,ys,rfl,h⟩:=h;obtain⟨u,rfl,rx⟩:=vals1 r;cases rx;rcases h with ⟨hq,q⟩|⟨hq,q⟩
 ·obtain⟨aa,r',pl,hz⟩:=I.list hq;have hlen:=r'.length;refine call_tuple_list pl.isList (λ h' kp=>?_) (by simp only[zj]<;>omega);have I1:Inv X pins σ H {s with heap:=h' }:=I.kept (t':=s.toks) kp;have I2:Inv X pins σ (upd H h'.objs.size (.tup ys)) {s with heap:=h'.push {cls:=.type "tuple",data:=.seq aa.toArray} }:=
   I1.laid (t':=s.toks) (λ b o e=>zi _ e) (zv _) (show AV X.prog X.w _ _ _ (.tup ys) from ⟨hz,aa,r',IsTup.new _ _⟩)
  exact⟨.ref h'.objs.size,_,I2,rfl,q _ (I1.Ar.fresh (zv _))⟩
 ·obtain⟨aa,r',pl,hz⟩:=I.tuple hq;exact call_tuple_same pl ⟨.ref p,H,I,rfl,q⟩
def qL (K:za)(T:String)(x:V)(H:Hp):Prop:=match x with
 | .str _=>T = "str"
 | .int _=>T = "int"
 | .ref p=>(T = "list" /\ ∃xs,Dt K H p xs)\/(T = "tuple" /\ ∃o,K.lookup p=some o/\o.cls=.type "tuple" /\ o.dict=none) \/
  (T = "dict" /\ ((∃kvs,H p=some (.dK kvs))\/∃kvs,H p=some (.dT kvs)))\/(T = "set" /\ ∃S n,H p=some (.set S n))
 |_=>False
theorem WG {pins:List (Addr×Obj)}{σ:St}{H:Hp}{s:Shared}{T:String}{x:V}{v:Value}(I:Inv X pins σ H s)(r:RelV x v)(ty:qL X.K T x H):
 s.TypeIs v T/\∀a,v=.ref a->∃ob,s.heap.get? a=some ob/\ob.dict=none:=by
 cases x with
 |str z =>
  obtain⟨t,rfl⟩:=r;cases (show T = "str" from ty);exact⟨typeIs_str s z t,λ _ e=>nomatch e⟩
 |int i =>
  obtain⟨t,rfl⟩:=r;cases (show T = "int" from ty);exact⟨typeIs_int s i t,λ _ e=>nomatch e⟩
 |ref p =>
  cases r;rcases ty with ⟨rfl,xs,hq⟩|⟨rfl,o,hk,hc,hd⟩|⟨rfl,hk⟩|⟨rfl,S,n,hk⟩
  ·obtain⟨aa,_,pl,_⟩:=I.list hq;refine⟨pl.isList.typeIs,λ a e=>?_⟩;cases e;obtain⟨o,n,e,c,hd,_⟩:=pl;exact⟨o,e,hd⟩
  ·refine⟨⟨o,I.L3 p o hk,hc⟩,λ a e=>?_⟩;cases e;exact⟨o,I.L3 _ o hk,hd⟩
  ·have z:∃o,s.heap.get? p=some o/\o.ExactDict:=by
    rcases hk with ⟨kvs,hk⟩|⟨kvs,hk⟩
    ·obtain⟨_,_,_,_,o,_,_,e,ex,_⟩:=I.Ar p _ hk;exact⟨o,e,ex⟩
    ·obtain⟨_,_,_,_,o,_,_,e,ex,_⟩:=I.Ar p _ hk;exact⟨o,e,ex⟩
   obtain⟨o,e,ex⟩:=z;refine⟨⟨o,e,ex.1⟩,λ a e2=>?_⟩;cases e2;exact⟨o,e,ex.2.1⟩
  ·obtain⟨o,_,_,_,e,ex,_⟩:=I.Ar p _ hk;refine⟨⟨o,e,ex.1⟩,λ a e2=>?_⟩;cases e2;exact⟨o,e,ex.2.1⟩
 |_=>exact yD ty
noncomputable def qM (K:za)(T:String)(r:V->List V->Hp->VK->Prop)(to:TE):TE:=λ σ H Q=>to σ H λ x H1=>qL K T x H1/\r x [] H1 Q
noncomputable def uF (K:za)(T:String)(r:V->List V->Hp->VK->Prop)(to:TE)(t:TA):TE:=λ σ H Q=>to σ H λ x H1=>qL K T x H1/\t σ H1 λ xs H2=>r x xs H2 Q
variable {o e:Expr}{es:List Expr}{to:TE}{t:TA}{name:Str}{apos ac:Pos}{T id:String}{r:V->List V->Hp->VK->Prop}
theorem gJ (pa:PlainAttrs T)(slot:Slot T name id)(ix:typeOf (.builtin id)=pure (.type "method_descriptor"))(hm:sP X id r)(ho:PE X o to)
 (ar:attributeBase o name X.env (eval o X.env)=eval o X.env:=by rfl) (au:(apos.endLine==ac.line)=true:=by rfl):PE X (.Call (.Attribute o name apos) [] [] ac) (qM X.K T r to):=by
 intro pins s σ H Q I h;refine wpAny_Call_method0_late ar au (Bb (ho pins s σ H _ I h) λ v s1 ⟨x,H1,I1,r1,ty,q1⟩=>?_);obtain⟨h1,h2⟩:=WG I1 r1 ty;exact⟨T,id,pa,slot,ix,h1,h2,Calls.callWith_builtin rfl (PySem.evalArgs_none (hm pins s1 σ H1 x [] v [] Q I1 r1 .nil q1))⟩
theorem Q9 (pa:PlainAttrs T)(slot:Slot T name id)(ix:typeOf (.builtin id)=pure (.type "method_descriptor"))(hm:sP X id r)(ho:PE X o to)(ha:PA X (e::es) t)
 (ar:attributeBase o name X.env (eval o X.env)=eval o X.env:=by rfl)
 (aV:((backTo ac (starEach (e::es) X.env)).all (λ x => !x.1)&&(backToKw ac (keywordEach [] X.env)).all (λ x=>x.1.isSome)
  && decide ((e::es).length+([]:List Keyword).length+(if ([]:List Keyword).isEmpty then 0 else 1)<30))=true:=by rfl)
 (au:(apos.endLine==ac.line)=true:=by rfl) (hs:starEach (e::es) X.env=(false,eval e X.env)::starEach es X.env:=by rfl) (aq:(backTo ac (starEach es X.env)).any (·.1)=false:=by rfl):
 PE X (.Call (.Attribute o name apos) (e::es) [] ac) (uF X.K T r to t):=by
 intro pins s σ H Q I h;refine wpAny_Call_method_late ar aV au rfl (Bb (ho pins s σ H _ I h) λ v s1 ⟨x,H1,I1,r1,ty,q1⟩=>?_);obtain⟨h1,h2⟩:=WG I1 r1 ty;refine⟨T,id,pa,slot,ix,h1,h2,?_⟩;have hA:=ha ac pins s1 σ H1 _ I1 q1;rw[hs] at hA ⊢;refine Calls.callWith_builtin (by show (false||(backTo ac (starEach es X.env)).any (·.1))=false;rw[aq]<;>rfl) (Calls.evalArgs_plain ?_);exact Bb hA λ us s2 ⟨vs,H2,I2,r2,q2⟩=>hm pins s2 σ H2 x vs v us Q I2 r1 r2 q2
end
def dS (X:Cx)(id:String)(r:V->List V->Hp->VK->Prop):Prop:=
 ∀(pins:List (Addr×Obj)) (s:Shared) (σ:St) (H:Hp) (x:V) (xs:List V) (v:Value) (us:List Value) (Q:VK),Inv X pins σ H s->RelV x v->Vals xs us->r x xs H Q->
  wpAny (model X.prog X.w) X.A (call (.builtin id) (v::us)) (EP X pins σ Q) X.xe s
theorem Vals.one:∀ {x:V}{us:List Value},Vals [x] us->∃u,us=[u]/\RelV x u
 |_,_,.cons r .nil=>⟨_,rfl,r⟩
theorem Vals.two:∀ {x y:V}{us:List Value},Vals [x,y] us->∃u v,us=[u,v]/\RelV x u/\RelV y v
 |_,_,_,.cons r (.cons q .nil)=>⟨_,_,rfl,r,q⟩
theorem Vals.zero:∀ {us:List Value},Vals [] us->us=[]
 |_,.nil=>rfl
theorem Vals.dropLast {xs:List V}{us:List Value}(h:Vals xs us):Vals xs.dropLast us.dropLast:=by
 induction h with
 |nil=>exact .nil
 |cons r t ih =>
  cases t with
  |nil=>exact .nil
  |cons q t'=>exact .cons r ih
theorem Vals.eraseIdx:∀ {xs:List V}{us:List Value}(i:Nat),Vals xs us->Vals (xs.eraseIdx i) (us.eraseIdx i)
 |_,_,_,.nil=>.nil
 |_,_,0,.cons _ t=>t
 |_,_,i+1,.cons r t=>.cons r (Vals.eraseIdx i t)
theorem Vals.reverse {xs:List V}{us:List Value}(h:Vals xs us):Vals xs.reverse us.reverse:=by
 induction h with
 |nil=>exact .nil
 |cons r t ih=>rw[List.reverse_cons,List.reverse_cons];exact Vals.append ih (.cons r .nil)
theorem Vals.rep {xs:List V}{us:List Value}(h:Vals xs us):∀k:Nat,Vals (zD k xs).flatten (zD k us).flatten
 |0=>.nil
 |k+1=>by
  rw[y8,y8,List.flatten_cons,List.flatten_cons];exact Vals.append h (Vals.rep h k)
theorem RU {α:Type}(l:List α):l.eraseIdx (l.length-1)=l.dropLast:=by
 induction l with
 |nil=>rfl
 |cons a r ih =>
  cases r with
  |nil=>rfl
  |cons b r =>
   have e:(a::b::r).length-1=((b::r).length-1)+1:=by
    have h1:(a::b::r).length=r.length+2:=rfl;have h2:(b::r).length=r.length+1:=rfl;omega
   rw[e,List.eraseIdx_cons_succ,ih];all_goals rfl
theorem foldl_rep (aa:List Value):∀(k:Nat) (acc:List Value),
 List.foldl (λ x1 x2=>x1++x2) acc.toArray (zD k aa.toArray)=(acc++(zD k aa).flatten).toArray
 |0,acc=>by simp
 |k+1,acc=>by
  have e:acc.toArray++aa.toArray=(acc++aa).toArray:=by simp
  have e2:(acc++aa)++(zD k aa).flatten=acc++(zD (k+1) aa).flatten:=by
   rw[y8,List.flatten_cons,yn]
  rw[<-e2,<-foldl_rep aa k (acc++aa),<-e,y8,zU]
section
variable {X:Cx}{pins:List (Addr×Obj)}{σ:St}{H:Hp}{s:Shared}{l b:Addr}{xs ys zs:List V}
theorem Inv.RV {aa its':List Value}{n:Nat}{f:Array Value->Array Value}{t':Nat}(I:Inv X pins σ H s)(hH:H l=some (.lst xs))
 (e:s.heap.get? l=some {cls:=.type "list",data:=.seq aa.toArray n}) (hf:f aa.toArray=its'.toArray) (hv:Vals ys its') (hz:ys.length<=sizeLine):
 Inv X pins σ (upd H l (.lst ys)) {s with heap:=s.heap.update l (yr f),toks:=t' }:=by
 have q:=PySem.IsL.update e f;rw[hf] at q;refine I.write (x:=l) (e:=l) (by rw[hH];exact trivial) (.inl rfl) (λ b' u hb hu=>(xm s.heap (yr f) (yc hb)).trans hu) ⟨_,q⟩ ?_;exact⟨hz,its',_,hv,q⟩
theorem Inv.qN {aa:List Value}{t':Nat}(I:Inv X pins σ H s)(hv:Vals ys aa)(hz:ys.length<=sizeLine):
 Inv X pins σ (upd H s.heap.objs.size (.lst ys)) {s with heap:=s.heap.push {cls:=.type "list",data:=.seq aa.toArray},toks:=t' }:=
 I.laid (λ _ _ q=>zi _ q) (zv _) ⟨hz,aa,0,hv,zA _ rfl⟩
theorem Inv.fresh (I:Inv X pins σ H s):H s.heap.objs.size=none:=I.Ar.fresh (zv _)
theorem Inv.OQ (I:Inv X pins σ H s)(hH:H l=some (.lst xs)):xs.length<=sizeLine/\∃(aa:List Value) (n:Nat),Vals xs aa/\xs.length=aa.length/\s.heap.get? l=some {cls:=.type "list",data:=.seq aa.toArray n}:=by
 obtain⟨z,aa,n,r,e⟩:=I.Ar l _ hH;exact⟨z,aa,n,r,r.length,e⟩
theorem Qa {n:Nat}(h:n<=sizeLine):xq n=false:=by
 unfold xq;exact decide_eq_false (by omega)
end
section
variable {X:Cx}
def Z6:V->List V->Hp->VK->Prop:=λ x vs H Q=>∃l xs y,x=.ref l/\vs=[y]/\H l=some (.lst xs)/\xs.length<sizeLine/\Q .Ay (upd H l (.lst (xs++[y])))
theorem NG:dS X "list.append" Z6:=by
 intro pins s σ H x vs v us Q I rx rv h;obtain⟨l,xs,y,rfl,rfl,hH,hz,q⟩:=h;cases rx;obtain⟨u,rfl,ru⟩:=rv.one;obtain⟨z,aa,n,r,hl,e⟩:=I.OQ hH;refine call_meets F.slot_list_append ⟨_,e,rfl⟩ F.entry_list_append (F.args_list_append_2 _ _) (PySem.list_append l aa.toArray n u (by rw[zj];omega)) ⟨e,?_⟩;refine⟨.Ay,_,I.RV (its':=aa++[u]) hH e (by simp) (r.append (.cons ru .nil)) ?_,rfl,q⟩;rw[zM,yC];omega
def Z7:V->List V->Hp->VK->Prop:=λ x vs H Q=>∃l b xs zs,x=.ref l/\vs=[.ref b]/\H l=some (.lst xs)/\H b=some (.lst zs)/\xs.length+zs.length<=sizeLine/\Q .Ay (upd H l (.lst (xs++zs)))
theorem UI:dS X "list.extend" Z7:=by
 intro pins s σ H x vs v us Q I rx rv h;obtain⟨l,b,xs,zs,rfl,rfl,hH,hB,hz,q⟩:=h;cases rx;obtain⟨u,rfl,ru⟩:=rv.one;cases ru;obtain⟨z,aa,n,r,hl,e⟩:=I.OQ hH;obtain⟨z2,bQ,n2,r2,aB,e2⟩:=I.OQ hB;have hsz:aa.toArray.size+bQ.toArray.size<=sizeLine:=by rw[zj,zj];omega
 have ce:¬ (!aa.toArray.isEmpty&&xq (aa.toArray.size+bQ.toArray.size))=true:=by
  rw[Qa hsz,Bool.and_false];exact zI
 refine call_meets F.slot_list_extend ⟨_,e,rfl⟩ F.entry_list_extend (F.args_list_extend_2 _ _)
  (AutoSeq1.list_extend_list_list_0 l aa.toArray n b bQ.toArray n2 ce (by rw[zj];omega) (by omega)) ⟨e,e2,?_⟩
 refine⟨.Ay,_,I.RV (its':=aa++bQ) hH e (by simp) (r.append r2) ?_,rfl,q⟩;rw[zM];omega
def qO:V->List V->Hp->VK->Prop:=λ x vs H Q=>∃l xs y,x=.ref l/\vs=[]/\H l=some (.lst xs)/\xs[xs.length-1]?=some y/\Q y (upd H l (.lst xs.dropLast))
theorem qP:dS X "list.pop" qO:=by
 intro pins s σ H x vs v us Q I rx rv h;obtain⟨l,xs,y,rfl,rfl,hH,hy,q⟩:=h;cases rx;have iy:=rv.zero;subst iy;obtain⟨z,aa,n,r,hl,e⟩:=I.OQ hH;obtain⟨u,hu,ru⟩:=r.get hy;have kh:aa.toArray[aa.toArray.size-1]?=some u:=by
  show aa.toArray[aa.length-1]?=some u;rw[<-yS,<-hl];exact hu
 refine call_meets F.slot_list_pop ⟨_,e,rfl⟩ F.entry_list_pop (F.args_list_pop_1 _) (MeetsSeq.list_pop_last l aa.toArray n u kh (by rw[zj];omega)) ⟨e,?_⟩;refine⟨y,_,I.RV (its':=aa.dropLast) hH e ?_ r.dropLast ?_,ru,q⟩
 ·show aa.toArray.eraseIdxIfInBounds (aa.toArray.size-1)=aa.dropLast.toArray;rw[zj,List.eraseIdxIfInBounds_toArray,RU]
 ·rw[List.length_dropLast];omega
def WH:V->List V->Hp->VK->Prop:=λ x vs H Q=>∃l xs,x=.ref l/\vs=[]/\H l=some (.lst xs)/\Q .Ay (upd H l (.lst xs.reverse))
theorem RW:dS X "list.reverse" WH:=by
 intro pins s σ H x vs v us Q I rx rv h;obtain⟨l,xs,rfl,rfl,hH,q⟩:=h;cases rx;have iy:=rv.zero;subst iy;obtain⟨z,aa,n,r,hl,e⟩:=I.OQ hH;refine call_meets F.slot_list_reverse ⟨_,e,rfl⟩ F.entry_list_reverse (F.args_list_reverse_1 _) (AutoSeq1.list_reverse_list_0 l aa.toArray n (by rw[zj];omega)) ⟨e,?_⟩;refine⟨.Ay,_,I.RV (its':=aa.reverse) hH e (by simp) r.reverse ?_,rfl,q⟩;rw[List.length_reverse];omega
def gL:V->List V->Hp->VK->Prop:=λ x vs H Q=>∃l xs,x=.ref l/\vs=[]/\H l=some (.lst xs)/\Q .Ay (upd H l (.lst []))
theorem WI:dS X "list.clear" gL:=by
 intro pins s σ H x vs v us Q I rx rv h;obtain⟨l,xs,rfl,rfl,hH,q⟩:=h;cases rx;have iy:=rv.zero;subst iy;obtain⟨z,aa,n,r,hl,e⟩:=I.OQ hH;refine call_meets F.slot_list_clear ⟨_,e,rfl⟩ F.entry_list_clear (F.args_list_clear_1 _) (AutoSeq1.list_clear_list_0 l aa.toArray n (by rw[zj];omega)) ⟨e,?_⟩;exact⟨.Ay,_,I.RV (its':=[]) (ys:=[]) hH e rfl .nil (zQ _),rfl,q⟩
noncomputable def qQ:R2:=λ x y H Q=>∃l k xs,x=.ref l/\y=.int k/\H l=some (.lst xs)/\-(2^63)<=k/\k<2^63/\xs.length*k.toNat<=sizeLine/\
 ∀p,H p=none->Q (.ref p) (upd H p (.lst (zD k.toNat xs).flatten))
theorem len_rep {α:Type}(xs:List α)(k:Nat):(zD k xs).flatten.length=k*xs.length:=by
 induction k with
 |zero=>simp
 |succ k ih=>rw[y8,List.flatten_cons,zM,ih,Nat.succ_mul,Nat.add_comm]
theorem gM:Hm X (binaryOp .Mult) qQ:=by
 intro pins s σ H x y v u Q I rx ry h;obtain⟨l,k,xs,rfl,rfl,hH,h1,h2,hz,q⟩:=h;cases rx;obtain⟨t,rfl⟩:=ry;obtain⟨z,aa,n,r,hl,e⟩:=I.OQ hH;have hlen:aa.toArray.size*k.toNat<=sizeLine:=by rw[zj,<-hl];exact hz
 have my:¬ aa.toArray.size*k.toNat > (2^63-1) / 8:=by
  have:(sizeLine:Nat)<=(2^63-1) / 8:=by decide
  omega
 have fg:¬ (!Builtin.List.listFitsIndex k)=true:=by
  rw[fitsIndex_both h1 h2];exact zI
 have ce:¬ xq (aa.toArray.size*k.toNat)=true:=by
  rw[Qa hlen];exact zI
 have aZ:List.foldl (λ x1 x2=>x1++x2) #[] (zD (if aa.toArray.isEmpty=true then 0 else k.toNat) aa.toArray)=(zD k.toNat aa).flatten.toArray:=by
  have f0:∀m:Nat,List.foldl (λ x1 x2=>x1++x2) #[] (zD m aa.toArray)=(zD m aa).flatten.toArray:=λ m=>by
   have:=foldl_rep aa m [];rw[List.nil_append] at this;exact this
  rw[f0];cases aa with
  |nil=>simp
  |cons a r'=>rw[if_neg (by simp)]
 refine wpAny_binaryOp_repeat_ref (T := "list") (U := "int") (by decide) ⟨_,e,rfl⟩ (λ s'=>typeIs_int s' k t) noFill_list_mul F.fills_int_mul F.slot_int_rmul repeat_list F.slot_int_index.lookup
  (call_meets F.slot_int_rmul (typeIs_int s k t) F.entry_int_rmul (F.args_int_rmul_2 _ _) (int___rmul___int_list k t l aa.toArray n)
   ⟨e,rfl,⟨_,e,rfl⟩,call_meets F.slot_list_mul ⟨_,e,rfl⟩ F.entry_list_mul (F.args_list_mul_2 _ _) (AutoListH.list___mul___list_int_3 l aa.toArray n k t fg my ce) ⟨e,?_⟩⟩)
 rw[aZ];exact⟨.ref _,_,I.qN (t':=s.toks) (r.rep k.toNat) (by rw[len_rep,Nat.mul_comm];exact hz),rfl,q _ I.fresh⟩
end
end L2
namespace sQ
open PySem PySem.W PySem.Calls PyProof.Rows
theorem L6 {P:Params}{h:Heap}:∀(ns:List Int) (vs:List Value),WellAll P h vs (ns.map WData.int)->IntsAre vs ns:=by
 intro ns;induction ns with
 |nil =>
  intro vs w;rw[List.map_nil] at w;cases w;exact .nil
 |cons n ns ih =>
  intro vs w;rw[zh] at w;cases w with
  |cons a b =>
   cases a;exact .cons _ _ (ih _ b)
theorem UJ {l:OpenLaw}{n:Nat}(hn:l.most=some n){P:Params}{h:Heap}{args:List WData}{vals:List Value}
 (cH:l.row.toRowW.claim.pre args=true) (mz:WellAll P h vals args):
 ∃a vs ns,vals=[zK a]/\args=[WData.list (ns.map WData.int)]/\h.get? a=some {cls:=.type "list",data:=.seq vs.toArray}/\IntsAre vs ns/\ns.length<=n:=by
 have uu:WShape.hasAll [] args [.list .int]=true:=(pre_splitW cH).1;have hc:l.pre.holds [] {args:=args}=true:=(pre_splitW cH).2;obtain⟨d,r,rfl,h1,h2⟩:=hasAllW_cons uu;obtain rfl:=hasAllW_nil h2;obtain⟨xs,rfl,h3⟩:=hasW_list h1;obtain⟨ns,rfl⟩:=items_int h3;have hlen:ns.length<=n:=by
  unfold OpenLaw.pre at hc;have h4:(WTm.not (.lt (.lit (.int (n:Int))) (.len (.arg 0)))).holds [] {args:=[.list (ns.map .int)]}=true:=by
   have h4:=(holds_andW hc).1;rw[hn] at h4;exact h4
  have h5:=condW_of h4 (w_not (w_lt w_lit (w_len_list (w_arg rfl))));rw[ze] at h5;refine Nat.le_of_not_lt λ q=>?_;have q':(n:Int)<((ns.length:Nat):Int):=by omega
  first
   |(rw[decide_eq_true q'] at h5;exact absurd h5 (by decide))
   |(simp at h5;omega)
 cases mz with
 |cons w1 w2 =>
  cases w2;cases w1 with
  |list ho bn=>exact⟨_,_,ns,rfl,rfl,ho,L6 ns _ bn,hlen⟩
theorem UK (l:OpenLaw)(args:List WData):l.row.toRowW.claim.post args (.bool true) args=true:=
 postW_of (r:=l.row.toRowW) (X:=(true==true))
  (show WShape.has [] (.bool true) .bool=true by first|rfl|decide|simp[WShape.has,WShape.arms,WShape.armsAll])
  (show (WTm.eq .res (.lit (.bool true))).value [] {args:=args,res:=some (.bool true),after:=args}=some (.bool (true==true)) from w_eq_bool (w_res rfl) w_lit) rfl
end sQ
namespace L2
open PySem PySem.Spec PyProof.Rows
theorem NH:∀ {vs:List Value}{ns:List Int},IntsAre vs ns->Vals (ns.map V.int) vs
 |_,_,.nil=>.nil
 |_,_,.cons n t h=>.cons ⟨t,rfl⟩ (NH h)
def Z8 (H:Hp):Prop:=∀b,H b=none\/∃o xs,H b=some (.FJ o (.lst xs))
theorem Qb {P:Program}{w:World}{K:za}{mg mb:Str->Option Value}{CX:RN}{k:Nat}{fa a:Addr}{fd:FuncData}{x:Str}{sp:Sp}{s₁:Shared}{vs:List Value}{ns:List Int}
 (KX:K.In s₁.heap) (fj:s₁.heap.Ns mainGlobals mg) (hb:s₁.heap.Ns builtinsNs mb) (uv:∀x:Str,x ≠ "__name__" -> mb x=bootBuiltins x) (m8:s₁.heap.NoLimit) (hg:s₁.gens=#[])
 (ha:s₁.heap.get? a=some {cls:=.type "list",data:=.seq vs.toArray}) (hi:IntsAre vs ns) (hl:ns.length<=sizeLine) (hr:Bn k callerA)
 (F:∀base:Heap,K.In base->base.Ns mainGlobals mg->CG P w K mg base CX k fa fd [x] sp) (iz:∀(s:Shared) (u:Value),BindsTo s fd ⟨[u],[]⟩ [(x,u)])
 (c9:∀H:Hp,Z8 H->Dt K H a (ns.map V.int)->sp [.ref a] H (λ v _=>v=.bl true) λ _ _ _=>False)
 (i4:∀H e s',CX [] H s₁ (λ _ _ _=>False) e s'->False):
 codeAny (model P w) callerA (.call (.ref fa) ⟨[.ref a],[]⟩) (λ r s'=>r=.ok (.ret (.bool true))/\OldK s₁.heap s'.heap/\s'.os=s₁.os/\AllBare s'.gens) s₁:=by
 have rv:=NH hi;have m9:=hi.length;have core:∀H:Hp,Z8 H->Dt K H a (ns.map V.int)->FK P w H s₁.heap->(∀b,H b≠none->b=a)->(H a≠none->K.lookup a=none)->
  codeAny (model P w) callerA (.call (.ref fa) ⟨[.ref a],[]⟩) (λ r s'=>r=.ok (.ret (.bool true))/\OldK s₁.heap s'.heap/\s'.os=s₁.os/\AllBare s'.gens) s₁:=by
  intro H hO hS Ar hA hK;have bL:∀ {b:Addr} {o:Obj},s₁.heap.get? b=some o->H b=none->(OH s₁.heap H).get? b=some o:=λ e n=>Wd e n;have iq:∀ {b:Addr} {o:Obj} {es:Array DictEntry} {ep:Nat},s₁.heap.get? b=some o->o.data=.dict es ep->H b=none:=fun {b o es ep} e d=>by
   cases q:H b with
   |none=>rfl
   |some u =>
    have e':b=a:=hA b (by rw[q];simp);subst e';rw[ha] at e;cases e;have d':Data.seq vs.toArray _=Data.dict es ep:=d;cases d'
  have kl:∀ {b:Addr} {m:Str->Option Value},s₁.heap.Ns b m->(OH s₁.heap H).Ns b m:=fun {b m} ⟨o,es,ep,e,d,r⟩=>⟨o,es,ep,bL e (iq e d),d,r⟩;have sR:K.In (OH s₁.heap H):=λ b o e=>bL (KX b o e) (by
   cases q:H b with
   |none=>rfl
   |some u =>
    have e':b=a:=hA b (by rw[q];simp);subst e';rw[hK (by rw[q];simp)] at e;cases e)
  have hM:Mod K mg (OH s₁.heap H):=⟨sR,kl fj,⟨mb,kl hb,uv⟩,let ⟨mc,h1,h2⟩:=m8;⟨mc,kl h1,h2⟩⟩;have e0:RO P w K mg (OH s₁.heap H) callerA [] s₁ H:=⟨rfl,hM,λ b o e=>YK e,Nat.le_of_eq (Uz _ _),trivial,λ b hb=>absurd (show b∈([]:List Addr) from hb) (by simp),Ar,.of_eq hg⟩;refine codeAny_mono ((F _ sR (kl fj)).run callerA [] s₁ H ⟨[.ref a],[]⟩ [.ref a] [.ref a] _ _ hr e0 (iz s₁ (.ref a)) (.cons rfl .nil) (c9 H hO hS)) λ r s' h=>?_;cases r with
  |error e=>exact (i4 H e s' h).elim
  |ok fl =>
   cases fl with
   |next|brk|cont=>exact yD h
   |ret u =>
    obtain⟨v,H',os,bare,un,fm,r',q⟩:=h;have q':v=.bl true:=q;subst q';obtain rfl:u=Value.bool true:=r';refine⟨rfl,OldK.of_keep λ b o e=>?_,os,bare⟩;cases q:H b with
    |none=>exact un.keep b o e q (by intro z;exact absurd (show b∈([]:List Addr) from z) (by simp)) (by simp)
    |some u =>
     rcases hO b with z|⟨ob,xs,z⟩
     ·rw[q] at z;cases z
     ·have z2:=un.JR b ob _ z;obtain⟨e1,_⟩:=Ar b _ z;obtain⟨e2,_⟩:=fm b _ z2;rw[e] at e1;cases e1;exact e2
 cases hk:K.lookup a with
 |some o =>
  have e:=KX a o hk;rw[ha] at e;cases e;refine core (λ _=>none) (λ _=>.inl rfl) (.inr ⟨_,vs.toArray,_,hk,rfl,rfl,rfl,by rw[zj,m9];exact hl,by simpa using rv⟩) (λ b u z=>by have z':(none:Option HO)=some u:=z;cases z') (λ b z=>absurd rfl z) λ z=>absurd rfl z
 |none =>
  refine core (λ b=>if b=a then some (.FJ {cls:=.type "list",data:=.seq vs.toArray} (.lst (ns.map V.int))) else none) (λ b=>?_) (.inl (.inr ⟨{cls:=.type "list",data:=.seq vs.toArray},if_pos rfl⟩)) (λ b u z=>?_) (λ b z=>?_) λ _=>hk
  ·by_cases hb:b=a
   ·exact .inr ⟨_,_,if_pos hb⟩
   ·exact .inl (if_neg hb)
  ·by_cases hb:b=a
   ·have z':=(if_pos hb).symm.trans z;cases z';subst hb;exact⟨ha,by rw[ze];exact hl,vs,_,rv,ha⟩
   ·have z':=(if_neg hb).symm.trans z;cases z'
  ·by_cases hb:b=a
   ·exact hb
   ·exact absurd (if_neg hb) z
noncomputable abbrev Z9:RN:=λ _ _ _ _ _ _=>False
noncomputable abbrev E0:XK:=λ _ _ _=>False
structure W6 (K:za)(x qual:Str)(st:Stmt)(f:Addr)(fd:FuncData):Prop where
 ex:∃(oc:Value) (od:Option Addr) (kV doc pm:Value) (an:Option Addr) (B7 ct:Value) (Ry:Array (Option Value)),
  fd=zT x qual (AL st) (Az st) (A5 st) .none kV doc pm an B7 ct/\K.lookup f=some ⟨oc,od,.func fd,Ry⟩/\yh K B7 qual=true
 kp:zV K (.ref f)=true
section
variable {P:Program}{w:World}{K:za}{mg:Str->Option Value}{base:Heap}
theorem W6.ok {x qual:Str}{st:Stmt}{f:Addr}{fd:FuncData}{N ps:List Str}{k:Nat}{sp:Sp}(F:W6 K x qual st f fd)(S:Am N ps (A5 st))(len:∀vs H Q E,sp vs H Q E->vs.length=ps.length)
 (cc:∀(B7:Value) (A:Around) (outer:List Env) (s:Shared) (H:Hp) (vs:List V) (Q:VK) (E:XK),Bn k (A.deeper (envOfC qual (A5 st) s.heap.objs.size f B7))->sp vs H Q E->
  ∃t,Te (L5 Z9 P w K mg base N qual (A5 st) f B7 A outer s H E).lI (Az st) t/\t {nx:=λ _ H'=>Q .Ay H',rt:=Q} (start N vs) H):CG P w K mg base Z9 (k+1) f fd ps sp:=by
 obtain⟨oc,od,kV,doc,pm,an,B7,ct,Ry,rfl,lk,bv⟩:=F.ex;refine Tn lk bv S len λ A outer s H vs Q E hr c9=>?_;obtain⟨t,h,q⟩:=cc B7 A outer s H vs Q E hr c9;exact⟨t,h.lI,q⟩
theorem W6.binds {x qual:Str}{st:Stmt}{f:Addr}{fd:FuncData}{ps:List Str}(F:W6 K x qual st f fd)
 (h:∀(kV doc pm:Value) (an:Option Addr) (B7 ct:Value) (us:List Value),us.length=ps.length->bindArgs (zT x qual (AL st) (Az st) (A5 st) .none kV doc pm an B7 ct) ⟨us,[]⟩=pure (ps.zip us)):Binds K fd ps []:=by
 obtain⟨oc,od,kV,doc,pm,an,B7,ct,Ry,rfl,lk,bv⟩:=F.ex;exact .all (h kV doc pm an B7 ct)
theorem RX {x qual:Str}{st:Stmt}{f:Addr}{oc:Value}{od an:Option Addr}{Ry:Array (Option Value)}{kV doc pm B7 ct:Value}(l:K.lookup f=some ⟨oc,od,.func (zT x qual (AL st) (Az st) (A5 st) .none kV doc pm an B7 ct),Ry⟩)
 (c:yh K B7 qual=true) (k:zV K (.ref f)=true):W6 K x qual st f (zT x qual (AL st) (Az st) (A5 st) .none kV doc pm an B7 ct):=⟨⟨oc,od,kV,doc,pm,an,B7,ct,Ry,rfl,l,c⟩,k⟩
end
theorem AA {n:Nat}(h:n<=1000):n<sizeLine:=Nat.lt_of_le_of_lt h (by decide)
section
variable {X:Cx}
theorem pv (i:Nat){x:Str}{pos:Pos}(hN:X.N[i]?=some x:=by rfl)(hv:pL X.env.scope x:=by first | exact ye rfl | exact Or.inr (ye rfl) | exact Or.inr (Or.inr rfl))(hd:(x==("__debug__" : Str))=false:=by decide)
 (bv:(x==("__classdict__" : Str))=false:=by decide):PE X (.Name x pos) (OJ i):=fA hN hv hd bv
end
def Ad (H H':Hp):Prop:=∀b o,H b=some o->H' b=some o
theorem Ad.refl (H:Hp):Ad H H:=λ _ _ h=>h
theorem Ad.trans {H H1 H2:Hp}(a:Ad H H1)(b:Ad H1 H2):Ad H H2:=λ c o h=>b c o (a c o h)
theorem Ad.seq {K:za}{H H':Hp}{a:Addr}{xs:List V}(e:Ad H H')(h:Dt K H a xs):Dt K H' a xs:=by
 rcases h with (h|⟨o,h⟩)|h
 ·exact .inl (.inl (e _ _ h))
 ·exact .inl (.inr ⟨o,e _ _ h⟩)
 ·exact .inr h
section
variable {κ:Type} [DecidableEq κ]
noncomputable def Nf (kvs:List (κ×V))(k:κ):Option V:=(kvs.find? λ kv=>decide (kv.1=k)).map (·.2)
noncomputable def putK (kvs:List (κ×V))(k:κ)(v:V):List (κ×V):=
 if (kvs.any λ kv=>decide (kv.1=k))=true then kvs.map (λ kv=>if kv.1=k then (kv.1,v) else kv) else kvs++[(k,v)]
theorem LI {p:κ×V}{r:List (κ×V)}{k:κ}(e:p.1=k):Nf (p::r) k=some p.2:=by simp[Nf,xp,e]
theorem LJ {p:κ×V}{r:List (κ×V)}{k:κ}(e:¬ p.1=k):Nf (p::r) k=Nf r k:=by simp[Nf,xp,e]
theorem Qc (k:κ):∀kvs:List (κ×V),(kvs.any λ kv=>decide (kv.1=k))=(Nf kvs k).isSome
 |[]=>rfl
 |p::r=>by
  rw[xr];by_cases e:p.1=k
  ·simp only[LI e,decide_eq_true e,Bool.true_or,Option.isSome_some]
  ·rw[LJ e,decide_eq_false e,Bool.false_or];exact Qc k r
theorem GB (kvs:List (κ×V))(k:κ)(v:V):(putK kvs k v).length<=kvs.length+1:=by
 unfold putK;split
 ·rw[ze];omega
 ·rw[zM,zp,List.length_nil];omega
theorem HS.F5 {o:Option V}{u:Option Value}(r:HS o u):o.isSome=u.isSome:=by
 cases o with
 |none=>cases u with
  |none=>rfl
  |some _=>exact (show False from r).elim
 |some _=>cases u with
  |none=>exact (show False from r).elim
  |some _=>rfl
theorem KV.val {kvs:List (κ×V)}{vs:List (κ×Value)}(r:KV kvs vs)(k:κ):HS (Nf kvs k) (valueAt vs k):=by
 unfold KV at r;induction r with
 |nil=>exact True.intro
 | @cons p q ps qs h t ih =>
  obtain⟨h1,h2⟩:=h;by_cases e:p.1=k
  ·have e':q.1=k:=h1.symm.trans e;have b:valueAt (q::qs) k=some q.2:=by simp[valueAt,xp,e']
   rw[LI e,b];exact h2
  ·have e':¬ q.1=k:=λ z=>e (h1.trans z);have b:valueAt (q::qs) k=valueAt qs k:=by simp[valueAt,xp,e']
   rw[LJ e,b];exact ih
theorem KV.any {kvs:List (κ×V)}{vs:List (κ×Value)}(r:KV kvs vs)(k:κ):(kvs.any λ kv=>decide (kv.1=k))=vs.any λ kv=>decide (kv.1=k):=by
 unfold KV at r;induction r with
 |nil=>rfl
 |cons h t ih=>rw[xr,xr,ih,h.1]
theorem KV.gN {kvs:List (κ×V)}{vs:List (κ×Value)}(r:KV kvs vs)(k:κ){y:V}{u:Value}(ry:RelV y u):
 KV (kvs.map λ kv=>if kv.1=k then (kv.1,y) else kv) (vs.map λ kv=>if kv.1=k then (kv.1,u) else kv):=by
 unfold KV at r ⊢;induction r with
 |nil=>exact .nil
 | @cons p q ps qs h t ih =>
  rw[zh,zh];refine .cons ?_ ih;obtain⟨h1,h2⟩:=h;by_cases e:p.1=k
  ·rw[if_pos e,if_pos (h1.symm.trans e)];exact⟨h1,ry⟩
  ·rw[if_neg e,if_neg (λ z=>e (h1.trans z))];exact⟨h1,h2⟩
theorem KV.put {kvs:List (κ×V)}{vs:List (κ×Value)}(r:KV kvs vs)(k:κ){y:V}{u:Value}(ry:RelV y u):KV (putK kvs k y) (stored vs k u):=by
 unfold putK stored;rw[r.any k];by_cases e:(vs.any λ kv=>decide (kv.1=k))=true
 ·rw[if_pos e,if_pos e];exact r.gN k ry
 ·rw[if_neg e,if_neg e];exact Paired.snoc r ⟨rfl,ry⟩
theorem KV.length {kvs:List (κ×V)}{vs:List (κ×Value)}(r:KV kvs vs):kvs.length=vs.length:=Paired.length r
end
theorem Qd {P:Program}{w:World}{k:Key}{u:Value}(r:RelV (kV k) u):(Bi P w).is k u=true:=by
 cases k with
 |inl i=>obtain⟨t,e⟩:=(show ∃t,u=Value.int i t from r);subst e;exact PX P w i t
 |inr x=>obtain⟨t,e⟩:=(show ∃t,u=Value.str x t from r);subst e;exact PY P w x t
theorem NI {P:Program}{w:World}:∀ {ks:List Key}{us:List Value},Vals (ks.map kV) us->ItemsAre (Bi P w) ks us
 |[],_,r=>by rw[List.map_nil] at r;cases r;exact .nil
 |k::ks,_,r=>by
  rw[zh] at r;cases r with
  |cons h t=>exact .cons (Qd h) (NI t)
noncomputable abbrev KT (H:Hp):List (List Key×V)->List (List Key×Addr×Value)->Prop:=Paired λ p q=>p.1=q.1/\H q.2.1=some (.tup (p.1.map kV))/\RelV p.2 q.2.2
theorem KT.val {H:Hp}{kvs:List (List Key×V)}{xs:List (List Key×Addr×Value)}(r:KT H kvs xs)(k:List Key):HS (Nf kvs k) ((atKey xs k).map (·.2)):=by
 induction r with
 |nil=>exact True.intro
 | @cons p q ps qs h t ih =>
  obtain⟨h1,_,h2⟩:=h;by_cases e:p.1=k
  ·have e':q.1=k:=h1.symm.trans e;have b:atKey (q::qs) k=some q.2:=by simp[atKey,xp,e']
   rw[LI e,b];exact h2
  ·have e':¬ q.1=k:=λ z=>e (h1.trans z);have b:atKey (q::qs) k=atKey qs k:=by simp[atKey,xp,e']
   rw[LJ e,b];exact ih
theorem KT.gN {H:Hp}{kvs:List (List Key×V)}{xs:List (List Key×Addr×Value)}(r:KT H kvs xs)(k:List Key){y:V}{u:Value}(ry:RelV y u):
 KT H (kvs.map λ kv=>if kv.1=k then (kv.1,y) else kv) (xs.map (putAt k u)):=by
 induction r with
 |nil=>exact .nil
 | @cons p q ps qs h t ih =>
  rw[zh,zh];refine .cons ?_ ih;obtain⟨h1,h2,h3⟩:=h;unfold putAt;by_cases e:p.1=k
  ·rw[if_pos e,if_pos (h1.symm.trans e)];exact⟨h1,h2,ry⟩
  ·rw[if_neg e,if_neg (λ z=>e (h1.trans z))];exact⟨h1,h2,h3⟩
theorem KT.put {H:Hp}{kvs:List (List Key×V)}{xs:List (List Key×Addr×Value)}(r:KT H kvs xs)(k:List Key){b:Addr}{y:V}{u:Value}(hb:H b=some (.tup (k.map kV)))(ry:RelV y u):
 KT H (putK kvs k y) (storedH xs k b u):=by
 have e:(kvs.any λ kv=>decide (kv.1=k))=(atKey xs k).isSome:=by
  rw[Qc,(r.val k).F5,Option.isSome_map]
 unfold putK storedH;rw[e];by_cases q:(atKey xs k).isSome=true
 ·rw[if_pos q,if_pos q];exact r.gN k ry
 ·rw[if_neg q,if_neg q];exact Paired.snoc r ⟨rfl,hb,ry⟩
theorem KT.keeps {H H':Hp}{kvs:List (List Key×V)}{xs:List (List Key×Addr×Value)}(r:KT H kvs xs)(ht:∀b ys,H b=some (.tup ys)->H' b=some (.tup ys)):KT H' kvs xs:=
 Paired.YJ r λ _ _ z=>⟨z.1,ht _ _ z.2.1,z.2.2⟩
section
variable {P:Program}{w:World}{H:Hp}{h:Heap}{a:Addr}
theorem WJ {u:HO}(ok:FK P w H h)(e:Rd H a u):AV P w H h a u:=e.ok ok
theorem NJ {kvs:List (Key×V)}(ok:FK P w H h)(e:Rd H a (.dK kvs)):kvs.length<=sizeLine/\(a==sysModules)=false/\∃vs,KV kvs vs/\h.DictOf (Bi P w) a vs:=
 show AV P w H h a (.dK kvs) from WJ ok e
theorem mH {kvs:List (Key×V)}(ok:FK P w H h)(e:H a=some (.dK kvs)):kvs.length<=sizeLine/\(a==sysModules)=false/\∃vs,KV kvs vs/\h.DictOf (Bi P w) a vs:=NJ ok (.inl e)
theorem JW {ks:List Key}(ok:FK P w H h)(e:H a=some (.tup (ks.map kV))):(tupleKind (Bi P w)).is h ks a:=by
 obtain⟨_,aa,r,o,h1,h2,n,h3⟩:=(show AV P w H h a (.tup (ks.map kV)) from ok a _ e);exact⟨o,aa.toArray,n,h1,h2,h3,by simpa using NI r⟩
theorem LK {kvs:List (List Key×V)}(ok:FK P w H h)(e:Rd H a (.dT kvs)):kvs.length<=sizeLine/\(a==sysModules)=false/\
 ∃xs,KT H kvs xs/\h.DictOfH (tupleKind (Bi P w)) a xs:=by
 obtain⟨z,y,xs,r,o,es,ep,h1,h2,h3,h4,h5⟩:=(show AV P w H h a (.dT kvs) from WJ ok e);refine⟨z,y,xs,r,o,es,ep,h1,h2,h3,h4,λ x hx=>?_,h5⟩;have all:∀ {l:List (List Key×V)} {m:List (List Key×Addr×Value)},KT H l m->∀x∈m,(tupleKind (Bi P w)).is h x.1 x.2.1:=by
  intro l m q;induction q with
  |nil=>intro x hx;exact nomatch hx
  | @cons p q ps qs hq t ih =>
   intro x hx;rcases zq.mp hx with e|hx
   ·subst e;exact JW ok (by rw[<-hq.1];exact hq.2.1)
   ·exact ih x hx
 exact all r x hx
theorem mI {kvs:List (List Key×V)}(ok:FK P w H h)(e:H a=some (.dT kvs)):kvs.length<=sizeLine/\(a==sysModules)=false/\
 ∃xs,KT H kvs xs/\h.DictOfH (tupleKind (Bi P w)) a xs:=LK ok (.inl e)
end
def RY (H:Hp)(a:Addr)(y:V)(r:Option V):Prop:=
 (∃kvs k,Rd H a (.dK kvs)/\y=kV k/\r=Nf kvs k)\/∃kvs k b,Rd H a (.dT kvs)/\y=.ref b/\H b=some (.tup (k.map kV))/\r=Nf kvs k
def mJ (H:Hp)(a:Addr)(y v:V)(H':Hp):Prop:=
 (∃kvs k,H a=some (.dK kvs)/\y=kV k/\kvs.length<sizeLine/\H'=upd H a (.dK (putK kvs k v))) \/
 ∃kvs k b,H a=some (.dT kvs)/\y=.ref b/\H b=some (.tup (k.map kV))/\kvs.length<sizeLine/\H'=upd H a (.dT (putK kvs k v))
section
variable {X:Cx}{pins:List (Addr×Obj)}{σ:St}{H:Hp}{s:Shared}{a:Addr}{y v:V}{u r:Value}{o:Option V}{A:Around}{E:Value->Shared->Prop}
theorem Inv.big (I:Inv X pins σ H s):sysModules<s.heap.objs.size:=by
 have h:mainGlobals<s.heap.objs.size:=(I.mod.glob.keeps I.bk).lt;exact Nat.lt_trans (by decide) h
theorem UL {Q:Value->Shared->Prop}(hu:A.units+1<cLine)(I:Inv X pins σ H s)(g:RY H a y (some v))(ry:RelV y u)(h:∀w' s',Inv X pins σ H s'->RelV v w'->Q w' s'):
 wpAny (model X.prog X.w) A (getItem (.ref a) u) Q E s:=by
 rcases g with ⟨kvs,k,e,ey,l⟩|⟨kvs,k,b,e,ey,eb,l⟩
 ·subst ey;obtain⟨z,hd,vs,rel,dd⟩:=NJ I.Ar e;obtain⟨w',hw,bF⟩:=HS.some_of (v:=v) (o:=valueAt vs k) (by rw[l];exact rel.val k);exact wpAny_getItem_of (Qd ry) dd.mapOf hw (h w' _ (I.tok _) bF)
 ·subst ey;cases (show u=zK b from ry);obtain⟨z,hd,xs,rel,dd⟩:=LK I.Ar e;obtain⟨w',hw,bF⟩:=HS.some_of (v:=v) (o:=(atKey xs k).map (·.2)) (by rw[l];exact rel.val k);obtain⟨p,hp,uw⟩:=Option.map_eq_some_iff.mp hw;refine wpAny_getItem_heap (tupleKind_room_in1 hu) (JW I.Ar eb) dd hp ?_;rw[uw];exact h w' _ (I.tok _) bF
theorem qR {Q:Value->Shared->Prop}(hu:A.units+1<cLine)(I:Inv X pins σ H s)(g:RY H a y o)(ry:RelV y u)(h:∀s',Inv X pins σ H s'->Q (.bool o.isSome) s'):
 wpAny (model X.prog X.w) A (compareOp .In u (.ref a)) Q E s:=by
 rcases g with ⟨kvs,k,e,ey,l⟩|⟨kvs,k,b,e,ey,eb,l⟩
 ·subst ey;obtain⟨z,hd,vs,rel,dd⟩:=NJ I.Ar e;refine wpAny_in_of (Qd ry) hd dd.mapOf ?_;rw[<-(rel.val k).F5,<-l];exact h _ (I.tok _)
 ·subst ey;cases (show u=zK b from ry);obtain⟨z,hd,xs,rel,dd⟩:=LK I.Ar e;refine wpAny_in_heap (tupleKind_room_in1 hu) (JW I.Ar eb) hd dd ?_;have q:=(rel.val k).F5;rw[Option.isSome_map] at q;rw[<-q,<-l];exact h _ (I.tok _)
theorem Za {Q:Value->Shared->Prop}(hu:A.units+1<cLine)(I:Inv X pins σ H s)(g:RY H a y o)(ry:RelV y u)(h:∀s',Inv X pins σ H s'->Q (.bool (!o.isSome)) s'):
 wpAny (model X.prog X.w) A (compareOp .NotIn u (.ref a)) Q E s:=by
 rcases g with ⟨kvs,k,e,ey,l⟩|⟨kvs,k,b,e,ey,eb,l⟩
 ·subst ey;obtain⟨z,hd,vs,rel,dd⟩:=NJ I.Ar e;refine wpAny_notIn_of (Qd ry) hd dd.mapOf ?_;rw[<-(rel.val k).F5,<-l];exact h _ (I.tok _)
 ·subst ey;cases (show u=zK b from ry);obtain⟨z,hd,xs,rel,dd⟩:=LK I.Ar e;refine wpAny_notIn_heap (tupleKind_room_in1 hu) (JW I.Ar eb) hd dd ?_;have q:=(rel.val k).F5;rw[Option.isSome_map] at q;rw[<-q,<-l];exact h _ (I.tok _)
theorem Ts {h':Heap}{t':Nat}{ob:HO}(I:Inv X pins σ H s)(mu:lB (H a))(hs:xg a s.heap h')(he:∃q,h'.get? a=some q)(new:AV X.prog X.w (upd H a ob) h' a ob):
 Inv X pins σ (upd H a ob) {s with heap:=h',toks:=t' }:=
 I.write (x:=a) (e:=a) mu (.inl rfl) (λ b q hb z=>(hs.2 b hb).trans z) he new
theorem gO {P:Program}{w:World}{H':Hp}{h':Heap}{kvs:List (Key×V)}{vs:List (Key×Value)}(z:kvs.length<=sizeLine)(hd:(a==sysModules)=false)(rel:KV kvs vs)(dd:h'.DictOf (Bi P w) a vs):
 AV P w H' h' a (.dK kvs):=⟨z,hd,vs,rel,dd⟩
theorem UM {H':Hp}{Q:Unit->Shared->Prop}(hu:A.units+1<cLine)(I:Inv X pins σ H s)(g:mJ H a y v H')(ry:RelV y u)(rv:RelV v r)(h:∀s',Inv X pins σ H' s'->Q () s'):
 wpAny (model X.prog X.w) A (setItem (.ref a) u r) Q E s:=by
 rcases g with ⟨kvs,k,e,ey,l,eH⟩|⟨kvs,k,b,e,ey,eb,l,eH⟩
 ·subst ey eH;obtain⟨z,hd,vs,rel,dd⟩:=mH I.Ar e;have hz:vs.length<=sizeLine:=by rw[<-rel.length];exact z
  have hl:(putK kvs k v).length<=sizeLine:=by have:=GB kvs k v;omega
  refine wpAny_setItem_pairs (hsz:=hz) (Qd ry) dd λ h' ko hs=>h _ ?_;have he:∃q,h'.get? a=some q:=let ⟨q,_,_,hq,_⟩:=ko;⟨q,hq⟩;exact Ts I (by rw[e];exact True.intro) hs he (gO hl hd (rel.put k rv) ko)
 ·subst ey eH;cases (show u=zK b from ry);obtain⟨z,hd,xs,rel,dd⟩:=mI I.Ar e;have hz:xs.length<=sizeLine:=by rw[<-Paired.length rel];exact z
  have hl:(putK kvs k v).length<=sizeLine:=by have:=GB kvs k v;omega
  refine wpAny_setItem_heap (hsz:=hz) (tupleKind_room_in1 hu) (JW I.Ar eb) dd λ h' ko hs=>h _ ?_;obtain⟨q,es,ep,hq,h2,h3,h4,_,h5⟩:=ko;refine Ts I (by rw[e];exact True.intro) hs ⟨q,hq⟩ ⟨hl,hd,_,(rel.put k eb rv).keeps λ c ys ec=>?_,q,es,ep,hq,h2,h3,h4,h5⟩;rw[Ab (lA ec e (λ z=>nomatch z))];exact ec
end
theorem Qe {X:Cx}{pins:List (Addr×Obj)}{σ:St}{H:Hp}{s:Shared}{a:Addr}{y:V}{o:Option V}(I:Inv X pins σ H s)(g:RY H a y o):s.TypeIs (.ref a) "dict" := by
 rcases g with ⟨kvs,k,e,_,_⟩|⟨kvs,k,b,e,_,_,_⟩
 ·obtain⟨_,_,vs,_,dd⟩:=NJ I.Ar e;exact dd.typeIs
 ·obtain⟨_,_,xs,_,dd⟩:=LK I.Ar e;exact dd.typeIs
noncomputable def mK (td ty tv:TE):TS:=λ D σ H=>tv σ H λ v H1=>td σ H1 λ x H2=>ty σ H2 λ y H3=>∃a H4,x=.ref a/\mJ H3 a y v H4/\D.nx σ H4
section
variable {X:Cx}{o i e value:Expr}{pos pos' bD:Pos}{td ty tv:TE}
theorem Zb (hu:X.A.units+1<cLine)(ho:PE X o td)(hi:PE X i ty)(hv:PE X value tv)(hs:swapsWith value (some (.Subscript o i pos')) pos.line X.env=pure false):
 PS X (.Assign [.Subscript o i pos'] value pos) (mK td ty tv):=by
 intro pins s σ H D I h;refine wpAny_Assign_Subscript (Bb (hv pins s σ H _ I h) λ r s1 ⟨v,H1,I1,rv,q1⟩=>Bb (ho pins s1 σ H1 _ I1 q1) λ u s2 ⟨x,H2,I2,rx,q2⟩=>Bb (hi pins s2 σ H2 _ I2 q2) λ iv s3 ⟨y,H3,I3,ry,a,H4,ex,g,q3⟩=>?_) hs;subst ex;obtain rfl:u=zK a:=rx;exact UM hu I3 g ry rv λ s4 I4=>⟨σ,H4,I4,q3⟩
end
theorem WK {P:Program}{w:World}{H:Hp}(h:Heap)(hb:sysModules<h.objs.size):AV P w H (h.push {cls:=.type "dict",data:=.dict #[]}) h.objs.size (.dK []):=
 ⟨zQ _,beq_eq_false_iff_ne.mpr (yc (zB hb)),[],.nil,Heap.DictOf.new h⟩
theorem WL {P:Program}{w:World}{H:Hp}(h:Heap)(hb:sysModules<h.objs.size):AV P w H (h.push {cls:=.type "dict",data:=.dict #[]}) h.objs.size (.dT []):=
 ⟨zQ _,beq_eq_false_iff_ne.mpr (yc (zB hb)),[],.nil,_,#[],0,zA _ rfl,⟨rfl,rfl,rfl⟩,rfl,rfl,yA⟩
noncomputable def gQ:TE:=λ _ H Q=>∀p,H p=none->Q (.ref p) (upd H p (.dK []))
noncomputable def gR:TE:=λ _ H Q=>∀p,H p=none->Q (.ref p) (upd H p (.dT []))
section
variable {X:Cx}{pos:Pos}
theorem WM:PE X (.Dict [] [] pos) gQ:=λ pins s σ H Q I h =>
 wpAny_Dict_empty ⟨.ref s.heap.objs.size,_,I.laid (a:=s.heap.objs.size) (o:=.dK []) (t':=s.toks) (λ _ _ q=>zi _ q) (zv _) (WK s.heap I.big),rfl,h _ (I.Ar.fresh (zv _))⟩
theorem WN:PE X (.Dict [] [] pos) gR:=λ pins s σ H Q I h =>
 wpAny_Dict_empty ⟨.ref s.heap.objs.size,_,I.laid (a:=s.heap.objs.size) (o:=.dT []) (t':=s.toks) (λ _ _ q=>zi _ q) (zv _) (WL s.heap I.big),rfl,h _ (I.Ar.fresh (zv _))⟩
end
def uG (H:Hp)(a:Addr):Prop:=(∃kvs,Rd H a (.dK kvs))\/∃kvs,Rd H a (.dT kvs)
theorem WO {X:Cx}{pins:List (Addr×Obj)}{σ:St}{H:Hp}{s:Shared}{a:Addr}(I:Inv X pins σ H s)(d:uG H a):
 s.TypeIs (.ref a) "dict" /\ (∀b,zK a=.ref b->∃ob,s.heap.get? b=some ob/\ob.dict=none)/\(a==sysModules)=false:=by
 rcases d with ⟨kvs,e⟩|⟨kvs,e⟩
 ·obtain⟨_,hd,vs,_,dd⟩:=NJ I.Ar e;refine⟨dd.typeIs,λ b q=>?_,hd⟩;cases q;obtain⟨ob,_,_,h1,h2,_⟩:=dd;exact⟨ob,h1,h2.2.1⟩
 ·obtain⟨_,hd,xs,_,dd⟩:=LK I.Ar e;refine⟨dd.typeIs,λ b q=>?_,hd⟩;cases q;obtain⟨ob,_,_,h1,h2,_⟩:=dd;exact⟨ob,h1,h2.2.1⟩
noncomputable def Jb (sc outer:Scope):Bool:=
 decide (sc.kind=.function)&&sc.names.all λ y=>decide (y.2≠.cell)&&(decide (y.2≠.free)||decide (outer.names.lookup y.1=some .cell)||decide (outer.names.lookup y.1=some .free))&&(decide (y.2≠.local)||decide (sc.names.lookup y.1=some .local))
noncomputable def OR (N NB:List Str)(sc:Scope)(μ:List (Option Nat)):Bool:=
 decide (NB.length=μ.length)&&(NB.zip μ).all λ p=>match p.2 with
  |none=>true
  |some i=>decide (N[i]?=some p.1)&&decide (sc.names.lookup p.1=some .free)
noncomputable def Iq (μ:List (Option Nat))(σ:St):St:=μ.map λ o=>o.bind λ i=>(σ[i]?).join
noncomputable def HU (cells:List (Str×Addr)):List (Str×NameKind)->List (Str×Addr)->List (Str×Addr)
 |[],cs=>cs
 |(n,k)::r,cs=>HU cells r (if (k==.free)=true then (n,(cells.lookup n).getD 0)::cs else cs)
theorem I0 {scope:Scope}{env:Env}(h:∀y∈scope.names,y.2=.free->∃c,env.cells.lookup y.1=some c):closureFor scope env=pure (HU env.cells scope.names []):=by
 unfold closureFor;have key:∀(names:List (Str×NameKind)) (cs:List (Str×Addr)),(∀y∈names,y.2=.free->∃c,env.cells.lookup y.1=some c)->
  (forIn names cs λ(x:Str×NameKind) r=>match x with
   |(name,kind)=>if (kind==xn)=true then do
    let __do_lift <-cellOf env name
    pure (x3 ((name,__do_lift)::r))
    else pure (x3 r):Sem _)=pure (HU env.cells names cs):=by
  intro names;induction names with
  |nil=>intro cs _;rfl
  |cons y r ih =>
   intro cs hy;obtain⟨n,k⟩:=y;rw[List.forIn_cons];by_cases hk:k=.free
   ·subst hk;obtain⟨c,hc⟩:=hy (n,.free) zc rfl;have e:cellOf env n=pure c:=by unfold cellOf;rw[show env.cells.lookup n=some c from hc]
    simp only[e,beq_self_eq_true,if_true,pure_bind];rw[ih _ λ z hz=>hy z (zf _ hz)];simp only[HU,beq_self_eq_true,if_true];rw[show env.cells.lookup n=some c from hc];rfl
   ·have hb:(k==xn)=false:=by simpa using hk
    simp only[hb,zF,if_false,pure_bind];rw[ih _ λ z hz=>hy z (zf _ hz)];simp only[HU,hb,zF,if_false]
 have q:=key scope.names [] h;simp only[bind_pure];exact q
theorem Qf {cells:List (Str×Addr)}:∀ {names:List (Str×NameKind)}{cs:List (Str×Addr)}{x:Str}{c:Addr},(x,c)∈HU cells names cs->(x,c)∈cs\/((x,.free)∈names/\c=(cells.lookup x).getD 0)
 |[],cs,x,c,h=>.inl h
 |(n,k)::r,cs,x,c,h=>by
  rcases Qf (names:=r) h with q|⟨q,e⟩
  ·by_cases hk:k=.free
   ·subst hk;simp only[beq_self_eq_true,if_true] at q;rcases zq.mp q with z|z
    ·cases z;exact .inr ⟨zc,rfl⟩
    ·exact .inl z
   ·have hb:(k==xn)=false:=by simpa using hk
    simp only[hb,zF,if_false] at q;exact .inl q
  ·exact .inr ⟨zf _ q,e⟩
theorem LL {cells:List (Str×Addr)}:∀ {names:List (Str×NameKind)}{cs:List (Str×Addr)}{p:Str×Addr},p∈cs->p∈HU cells names cs
 |[],_,_,h=>h
 |(n,k)::r,cs,p,h=>by
  show p∈HU cells r _;refine LL ?_;by_cases hk:(k==xn)=true
  ·rw[if_pos hk];exact zf _ h
  ·rw[if_neg hk];exact h
theorem LM {cells:List (Str×Addr)}:∀ {names:List (Str×NameKind)}{cs:List (Str×Addr)}{x:Str},(x,.free)∈names->∃c,(x,c)∈HU cells names cs
 |(n,k)::r,cs,x,h=>by
  rcases zq.mp h with z|z
  ·cases z;refine⟨(cells.lookup n).getD 0,?_⟩;show _∈HU cells r (if (xn==xn)=true then _ else _);exact LL (by rw[if_pos (beq_self_eq_true _)];exact zc)
  ·exact LM (names:=r) z
theorem ES {x:Str}{c:Addr}:∀ {l:List (Str×Addr)},(x,c)∈l->∃c',l.lookup x=some c'
 |(y,d)::r,h=>by
  rw[xh];by_cases e:(x==y)=true
  ·rw[e];exact⟨d,rfl⟩
  ·rw[Bool.eq_false_iff.mpr e];rcases zq.mp h with z|z
   ·cases z;exact absurd (beq_self_eq_true x) e
   ·exact ES z
theorem Jc {scope:Scope}{env:Env}{x:Str}{k:NameKind}(h:(relabel scope env).names.lookup x=some k):∃k',scope.names.lookup x=some k'/\(k=k'\/(k'=.free/\k=.cell)):=by
 unfold relabel at h;dsimp only at h;revert h;induction scope.names with
 |nil=>intro h;cases h
 |cons y r ih =>
  obtain⟨n,k'⟩:=y;intro h;rw[zh,xh] at h;rw[xh];by_cases hc:(k'==xn&&env.scope.kind==.function&&env.kindOf n==some .cell)=true
  ·dsimp only at h;rw[if_pos hc] at h;dsimp only at h;cases e:x==n with
   |true =>
    rw[e] at h;have hf:k'=.free:=by
     have:=hc;simp only[zW] at this;simpa using this.1.1
    exact⟨k',rfl,.inr ⟨hf,(z0 h).symm⟩⟩
   |false=>rw[e] at h;exact ih h
  ·dsimp only at h;rw[if_neg hc] at h;dsimp only at h;cases e:x==n with
   |true=>rw[e] at h;exact⟨k',rfl,.inl (z0 h).symm⟩
   |false=>rw[e] at h;exact ih h
theorem lookup_mem {α:Type}{x:Str}{k:α}:∀ {l:List (Str×α)},l.lookup x=some k->(x,k)∈l
 |(y,d)::r,h=>by
  rw[xh] at h;cases e:x==y with
  |true =>
   rw[e] at h;cases h;have:x=y:=by simpa using e
   subst this;exact zc
  |false=>rw[e] at h;exact zf _ (lookup_mem h)
noncomputable def blockOf (X:Cx)(s:Shared)(H:Hp)(scope:Scope)(C:Addr)(NB:List Str)(ex:List Addr):Cx:=
 {X with N:=NB,s₀:=s,H₀:=H,env:=compEnvC scope (HU X.env.cells scope.names []) C X.env,outer:=X.stack,stack:=X.stack,ex:=ex,fn:=λ _=>false,pn:=[],xe:=λ _ _=>False}
section
variable {X:Cx}{pins:List (Addr×Obj)}{σ:St}{H:Hp}{s s4:Shared}{scope:Scope}{NB:List Str}{μ:List (Option Nat)}{fp:List Addr}{C:Addr}
theorem Hn (h:Jb scope X.env.scope=true):scope.kind=.function:=by
 unfold Jb at h;simp only[zW,decide_eq_true_eq] at h;exact h.1
theorem Ho {sc outer:Scope}(h:Jb sc outer=true){y:Str×NameKind}(hy:y∈sc.names):y.2≠.cell/\(y.2=.free->outer.names.lookup y.1=some .cell\/outer.names.lookup y.1=some .free)/\(y.2=.local->sc.names.lookup y.1=some .local):=by
 unfold Jb at h;simp only[zW,decide_eq_true_eq,xj,Bool.or_eq_true] at h;obtain⟨⟨h1,h2⟩,h3⟩:=h.2 y hy;exact⟨h1,λ e=>by
  rcases h2 with (q|q)|q
  ·exact absurd e q
  ·exact .inl q
  ·exact .inr q,λ e=>h3.elim (λ q=>absurd e q) id⟩
theorem Ir (I:Inv X pins σ H s)(h:Jb scope X.env.scope=true){x:Str}(hx:(x,.free)∈scope.names):∃c,X.env.cells.lookup x=some c:=I.ok.has x ((Ho h hx).2.1 rfl)
theorem Ed (I:Inv X pins σ H s)(h:Jb scope X.env.scope=true){x:Str}{c:Addr}(e:(HU X.env.cells scope.names []).lookup x=some c):X.env.cells.lookup x=some c:=by
 rcases Qf (lookup_mem e) with q|⟨q,r⟩
 ·cases q
 ·obtain⟨c',e'⟩:=Ir I h q;rw[e'] at r;rw[e',r];rfl
theorem LN {env:Env}(h:Jb scope env.scope=true){x:Str}{k:NameKind}(hk:(relabel scope env).names.lookup x=some k)(hc:k=.cell\/k=.free):(x,.free)∈scope.names:=by
 obtain⟨k',e,q⟩:=Jc hk;have m:=lookup_mem e;have n:=(Ho h m).1;rcases q with q|⟨q,_⟩
 ·subst q;rcases hc with z|z
  ·exact absurd z n
  ·subst z;exact m
 ·subst q;exact m
theorem Zc (h:OR X.N NB scope μ=true):NB.length=μ.length/\∀(j i:Nat),μ[j]?=some (some i)->∃x,NB[j]?=some x/\X.N[i]?=some x/\scope.names.lookup x=some .free:=by
 unfold OR at h;simp only[zW,decide_eq_true_eq,xj] at h;refine⟨h.1,λ j i e=>?_⟩;have hj:j<NB.length:=by rw[h.1];exact (zE.mp e).1
 have m:(NB[j],some i)∈NB.zip μ:=by
  refine List.mem_iff_getElem?.mpr ⟨j,?_⟩;rw[List.getElem?_zip_eq_some];exact⟨zg hj,e⟩
 have q:=h.2 _ m;dsimp only at q;simp only[zW,decide_eq_true_eq] at q;exact⟨NB[j],zg hj,q.1,q.2⟩
theorem Qg (I:Inv X pins σ H s)(aD:Jb scope X.env.scope=true)(bG:OR X.N NB scope μ=true)(h9:∀b∈fp,L4 X pins H b)(kr:∀b∈fp,∃o,s.heap.get? b=some o)
 (hC:s.heap.objs.size<=C) {h4:Heap} {t4:Nat} (ns:h4.Ns C λ _=>none) (k:∀b o,s.heap.get? b=some o->h4.get? b=some o):
 Inv (blockOf X s H scope C NB fp) [] (Iq μ σ) H {s with heap:=h4,toks:=t4}:=by
 obtain⟨hlen,bG⟩:=Zc bG;have sS:∀b o,s.heap.get? b=some o->b≠C:=λ b o e=>zB (zG (zt e) hC);have kt:∀x c,X.env.cells.lookup x=some c->c≠C:=λ x c e=>by
  obtain⟨v,o,ho,_⟩:=I.cell x c e;exact sS c o ho
 refine⟨⟨I.ok.mod,(show scope.kind=_ from Hn aD),I.ok.glob,I.ok.blt,hC,λ x y c h1 h2=>I.ok.inj x y c (Ed I aD h1) (Ed I aD h2),λ x hx=>?_,λ x c h _=>(by cases h),I.ok.hd,I.ok.frames,.inl rfl,λ b hb=>?_,I.bs,yk I.ok.YM I.sz,λ b o e hb=>?_,λ b hb hz=>?_,I.stack,I.OI⟩,
  rfl,I.bare,Un.kept k,⟨_,ns,λ j x v e1 e2 e3=>?_⟩,λ x c e=>?_,I.Ar.fresh hC,λ x c e=>I.F4 x c (Ed I aD e),λ p hp=>(by cases hp),I.Ar.kept k,?_⟩
 ·have q:(x,xn)∈scope.names:=by
   rcases hx with hx|hx
   ·exact LN aD hx (.inl rfl)
   ·exact LN aD hx (.inr rfl)
  obtain⟨c,m⟩:=LM (cells:=X.env.cells) (cs:=[]) q;exact ES m
 ·obtain⟨o,ho⟩:=kr b hb;refine⟨sS b o ho,λ x c e z=>?_⟩;exact (h9 b hb).2.2.2.2.1 x c (Ed I aD e) z
 ·rcases (h9 b hb).2.2.2.1 with z|z
  ·exact I.ok.We b o e z
  ·exact absurd (zG (zt (I.ok.bs b o e).1) z) (Nat.lt_irrefl _)
 ·rcases zq.mp (I.RD b hz) with e|e
  ·exact (h9 b hb).2.1 e
  ·exact (h9 b hb).2.2.1 e
 ·have i5:(μ[j]?).map (λ o=>o.bind λ i=>(σ[i]?).join)=some (some v):=by
   rw[<-zw];exact e2
  cases q:μ[j]? with
  |none=>rw[q] at i5;cases i5
  |some o =>
   rw[q] at i5;cases o with
   |none=>cases i5
   |some i =>
    have e4:(σ[i]?).join=some v:=by simpa using i5
    have e5:σ[i]?=some (some v):=by
     cases z:σ[i]? with
     |none=>rw[z] at e4;cases e4
     |some w=>rw[z] at e4;simp at e4;rw[e4]
    obtain⟨x',n1,n2,n3⟩:=bG j i q;have ex:x'=x:=z0 (n1.symm.trans e1);subst ex;have m:=lookup_mem n3;have ov:=(Ho aD m).2.1 rfl;obtain⟨mm,hn,hl⟩:=I.loc;obtain⟨u,r,l⟩:=hl i x' v n2 e5 (ov.elim (λ z=>.inr (.inl z)) λ z=>.inr (.inr z));refine⟨u,r,.inr ⟨?_,?_⟩⟩
    ·rcases e3 with z|z|z
     ·obtain⟨k',z1,z2⟩:=Jc (k:=.local) z;rw[n3] at z1;cases z1;rcases z2 with z2|⟨_,z2⟩<;>cases z2
     ·exact .inl z
     ·exact .inr z
    ·rcases l with ⟨l,_⟩|⟨_,c,l1,l2⟩
     ·rcases ov with z|z<;>(rw[show X.env.kindOf x'=_ from z] at l;cases l)
     ·obtain⟨c',m'⟩:=LM (cells:=X.env.cells) (cs:=[]) m;obtain⟨wA,l3⟩:=ES m';have l4:=Ed I aD l3;rw[l1] at l4;cases l4;refine⟨c,l3,?_⟩;obtain⟨o,ho,hd⟩:=l2;exact⟨o,k _ _ ho,hd⟩
 ·obtain⟨v,o,ho,hd⟩:=I.cell x c (Ed I aD e);exact⟨v,o,k _ _ ho,hd⟩
 ·show (Iq μ σ).length=NB.length;unfold Iq;rw[ze,hlen]
theorem FK.adopt {P:Program}{w:World}{H:Hp}{h:Heap}{a:Addr}{o:HO}(x:FK P w H h)(hn:H a=none)(new:AV P w (upd H a o) h a o):FK P w (upd H a o) h:=λ b u e=>by
 by_cases hb:b=a
 ·subst hb;rw[Al] at e;cases e;exact new
 ·rw[Ab hb] at e;exact (x b u e).Ly (λ c v _ q=>q) (λ c q=>by rw[Ab (AE q hn)];exact q) λ c xs q=>by rw[Ab (AE q hn)];exact q
theorem UN {H':Hp}{s':Shared}{h':Heap}{D:Addr}{pl:List (Addr×Obj)}{σ':St}{aa:List Value}{ys:List V}{n:Nat}(I:Inv X pins σ H s)(h9:∀b∈fp,L4 X pins H b)(J:Inv (blockOf X s H scope C NB fp) pl σ' H' s')
 (hC:s.heap.objs.size<=C) (hD:s.heap.objs.size<=D) (cA:D≠C) (eD:s'.heap.get? D=some {cls:=.type "list",data:=.seq aa.toArray n}) (nD:H' D=none) (r:Vals ys aa) (hz:ys.length<=sizeLine)
 (sb:xg C s'.heap h'):Inv X pins σ (upd H' D (.lst ys)) {s' with heap:=h' }:=by
 have fv:∀b o,s.heap.get? b=some o->b≠C:=λ b o e=>zB (zG (zt e) hC);have na:∀b o,s.heap.get? b=some o->b≠D:=λ b o e=>zB (zG (zt e) hD);have freshD:H D=none:=I.Ar.fresh hD;have nC:H' C=none:=J.free;have u:Un (KG X.stack) fp H H' s.heap s'.heap:=J.base;have fm:FK X.prog X.w H' h':=λ b ob e=>(J.Ar b ob e).Ly (λ c v hc q=>(sb.2 c (by
  intro z;subst z;rcases hc with rfl|hc
  ·rw[nC] at e;cases e
  ·rw[nC] at hc;cases hc)).trans q) (λ _ q=>q) λ _ _ q=>q
 refine I.dM (ch:=fp) J.os ⟨λ b o e n hb hx=>?_,λ b o e n hb hx=>?_,λ b o e n hx=>?_,λ b o e hx=>?_,λ b xs e=>?_,λ b o u' e=>?_,λ b ps e=>?_⟩ (fm.adopt nD ⟨hz,aa,n,r,(sb.2 D cA).trans eD⟩) J.bare λ b hb=>?_
 ·exact (sb.2 b (fv b o e)).trans (u.keep b o e n hb hx)
 ·obtain⟨sl,q⟩:=u.slot b o e n hb hx;exact⟨sl,(sb.2 b (fv b o e)).trans q⟩
 ·rw[Ab (na b o e)];exact u.free b o e n hx
 ·obtain⟨o',q⟩:=u.there b o e hx;exact⟨o',(sb.2 b (fv b o e)).trans q⟩
 ·rw[Ab (AE e freshD)];exact u.Lz b xs e
 ·rw[Ab (AE e freshD)];exact u.JR b o u' e
 ·rw[Ab (AE e freshD)];exact u.LB b ps e
 ·obtain⟨_,f1,_,f3,f4,f5⟩:=h9 b hb;exact⟨f3,f1,f4,f5⟩
end
theorem OS {prog:Program}{w:World}{A:Around}{R:Result->Shared->Prop}{s:Shared}{elt target iter:Expr}{ifs:List Expr}{scope:Scope}{pos:Pos}{it acc:Value}{env:Env}(I:Nat->Shared->Prop)
 (turn:∀n s,I n s->wpAny (model prog w) A (pyNext it) (λ r s₁=>match r with
  |none=>R (.ok .next) s₁
  |some v=>wpAny (model prog w) A (letOwnedTupleGo target it v) (λ _ s₁'=>wpAny (model prog w) A (assign target env v) (λ _ s₂ =>
   wpAny (model prog w) A (forIn ifs true λ c r=>if r=true then do let ok <-isTrue c env (eval c env);pure (x3 ok) else pure (x3 r)) (λ ok s₃ =>
    if ok=true then wpAny (model prog w) A (eval elt env) (λ x s₄ =>
     wpAny (model prog w) A (call (.builtin "list.append") [acc,x]) (λ _ s₅=>∃m,m<n/\I m s₅) (λ _ _=>False) s₄) (λ _ _=>False) s₃
    else ∃m,m<n/\I m s₃) (λ _ _=>False) s₂) (λ _ _=>False) s₁') (λ _ _=>False) s₁) (λ _ _=>False) s)
 (n:Nat) (h:I n s):
 codeAny (model prog w) A (.compLoop (.ListComp elt [⟨target,iter,ifs,0⟩] scope pos) 0 it acc env) R s:=by
 refine codeAny_loop rfl I (λ n s hI=>?_) n h;show wpAny _ A ((compTurn (.ListComp elt [⟨target,iter,ifs,0⟩] scope pos) 0 it acc env).onRaise (λ x=>do noteFrame x env;theTreesLotGoes x)) _ _ s;refine wpAny_noted ?_;rw[compTurn_list];refine wpAny_bind (wpAny_standAt (wpAny_bind (wpAny_mono (turn n s hI) (λ r s₁ h₁=>?_) λ _ _ h'=>h'.elim)));cases r with
 |none=>exact wpAny_pure h₁
 |some v =>
  refine wpAny_bind (wpAny_mono h₁ (λ _ s₁' h₁'=>?_) λ _ _ h'=>h'.elim);refine wpAny_bind (wpAny_mono h₁' (λ _ s₂ h₂=>wpAny_bind (wpAny_mono h₂ (λ ok s₃ h₃=>?_) λ _ _ h'=>h'.elim)) λ _ _ h'=>h'.elim);cases ok with
  |false=>exact wpAny_pure ⟨rfl,h₃⟩
  |true =>
   exact wpAny_bind (wpAny_bind (wpAny_mono h₃ (λ x s₄ h₄=>wpAny_bind (wpAny_mono h₄ (λ _ s₅ h₅=>wpAny_pure (wpAny_pure ⟨rfl,h₅⟩)) λ _ _ h'=>h'.elim)) λ _ _ h'=>h'.elim))
def kI (X:Cx)(cs:List Expr)(t:TT):Prop:=
 ∀(pins:List (Addr×Obj)) (s:Shared) (σ:St) (H:Hp) (Q:Bool->Hp->Prop),Inv X pins σ H s->t σ H Q->
  wpAny (model X.prog X.w) X.A (forIn cs true λ c r=>if r=true then do let ok <-isTrue c X.env (eval c X.env);pure (x3 ok) else pure (x3 r)) (TP X pins σ Q) X.xe s
noncomputable def qS:TT:=λ _ H Q=>Q true H
theorem Zd {X:Cx}:kI X [] qS:=λ _ _ _ H _ I h=>wpAny_tests_nil ⟨H,I,h⟩
theorem Ze {X:Cx}{c:Expr}{t:TT}(h:PT X c t):kI X [c] t:=λ pins s σ H Q I q=>wpAny_tests_one (h pins s σ H Q I q)
def LO (μ:List (Option Nat))(g:TG):Prop:=∀σ x H Q,g x (Iq μ σ) H Q->g x (Iq μ σ) H λ σ' H'=>Q σ' H'/\∀(j:Nat) v,(Iq μ σ)[j]?=some (some v)->σ'[j]?=some (some v)
theorem Zf {μ:List (Option Nat)}{i:Nat}(h:μ[i]?=some none):LO μ (Tf i):=λ σ x H Q q=>by
 refine⟨q,λ j v e=>?_⟩;have ae:j≠i:=λ z=>by
  subst z;unfold Iq at e;rw[zw,h] at e;cases e
 rw[yx (yc ae)];exact e
def sT (J:It)(H1:Hp)(Q:VK)(st:V->Hp->(St->Hp->Prop)->Prop)(tc:TT)(te:TE):Prop:=
 ∃W:Nat->Nat->List V->Hp->Prop,(∃m,W 0 m [] H1)/\∀i m ys H2,W i m ys H2->
  (J.stop i H2/\∀D,H2 D=none->Q (.ref D) (upd H2 D (.lst ys))) \/
  (J.go i H2/\ys.length<sizeLine/\∃N:List V->Hp->Prop,(∀bd H',N bd H'->∃m',m'<m/\W (i+1) m' bd H')/\∀x H3,J.YT i H2 x H3->st x H3 λ σ4 H4=>tc σ4 H4 λ b H5=>if b=true then te σ4 H5 λ y H6=>N (ys++[y]) H6 else N ys H5)
noncomputable def Qh (wi:TI)(μ:List (Option Nat))(g:TG)(tc:Shared->Hp->Addr->List Addr->TT)(te:Shared->Hp->Addr->List Addr->TE):TE:=λ σ H Q=>wi σ H λ J H1=>∀s C ex,sT J H1 Q (λ x H K=>g x (Iq μ σ) H K) (tc s H1 C ex) (te s H1 C ex)
section
variable {X:Cx}{pins:List (Addr×Obj)}{σ:St}{H2:Hp}{s2:Shared}{tg elt iter:Expr}{ifs:List Expr}{scope:Scope}{pos:Pos}{NB:List Str}{μ:List (Option Nat)}{g:TG}{tc:Shared->Hp->Addr->List Addr->TT}{te:Shared->Hp->Addr->List Addr->TE}{fp:List Addr}{it:Addr}{tn:Nat->Heap->Prop}{J:It}{Q:VK}
theorem NK (hc:X.calm=true)(I2:Inv X pins σ H2 s2)(T:Turn X.prog X.w X.K tg J fp it tn)(cF:tn 0 s2.heap)(f2:∀b∈fp,L4 X pins H2 b)
 (aD:Jb scope X.env.scope=true) (bG:OR X.N NB scope μ=true) (i6:LO μ g)
 (hb:∀(s:Shared) (H:Hp) (C:Addr) (ex:List Addr),PG (blockOf X s H scope C NB ex) tg g/\kI (blockOf X s H scope C NB ex) ifs (tc s H C ex)/\PE (blockOf X s H scope C NB ex) elt (te s H C ex))
 (q:∀C,sT J H2 Q (λ x H K=>g x (Iq μ σ) H K) (tc s2 H2 C fp) (te s2 H2 C fp)) {RR:Value->Addr->Result->Shared->Prop} {E:Value->Shared->Prop}
 (fin:∀(D C:Addr) (s':Shared) (H':Hp) (ys:List V) (m:Str->Option Value),s2.heap.objs.size<=D->s2.heap.objs.size<=C->D≠C->s'.heap.Ns C m->H' C=none->(∀h',xg C s'.heap h'->Inv X pins σ (upd H' D (.lst ys)) {s' with heap:=h' })->Q (.ref D) (upd H' D (.lst ys))->RR (.ref D) C (.ok .next) s'):
 wpAny (model X.prog X.w) X.A (newList []) (λ acc s₃=>wpAny (model X.prog X.w) X.A (newFunctionEnv scope X.env.globals (HU X.env.cells scope.names []) [] X.env.qual none .none (some X.env)) (λ i7 s₄ =>
  codeAny (model X.prog X.w) X.A (.compStart (.ListComp elt [⟨tg,iter,ifs,0⟩] scope pos) 0 (.ref it) acc {i7 with scope:=relabel scope X.env}) (RR acc i7.locals) s₄) E s₃) E s2:=by
 have bK:∀y∈scope.names,y.2≠.cell:=λ y hy=>(Ho aD hy).1;refine wpAny_newObj_type (wpAny_newFunctionEnv bK (by intro y hy;simp at hy) (λ h₁ hns₁ hsb₁=>?_) (Hn aD));dsimp only at hns₁ hsb₁ ⊢;generalize nb:s2.heap.push {cls:=.type "list",dict:=none,data:=.seq ([]:List Value).toArray}=ku at hns₁ hsb₁ ⊢;have hC:ku.objs.size=s2.heap.objs.size+1:=by rw[<-nb,Heap.size_push]
 have cA:s2.heap.objs.size≠ku.objs.size:=by rw[hC];exact zB (Nat.lt_succ_self _)
 have i8:s2.heap.objs.size<=ku.objs.size:=by rw[hC];exact Nat.le_succ _
 have old:∀b o,s2.heap.get? b=some o->h₁.get? b=some o:=λ b o e=>hsb₁.extBut b o (by rw[hC];exact zB (Nat.lt_succ_of_lt (zt e))) (zi _ (nb▸zi _ e));have eD:h₁.get? s2.heap.objs.size=some {cls:=.type "list",data:=.seq ([]:List Value).toArray}:=hsb₁.extBut _ _ cA (zi _ (nb▸zA _ rfl));have kr:∀b∈fp,∃o,s2.heap.get? b=some o:=λ b hb=>let ⟨o,e,_⟩:=T.obj _ _ cF b hb;⟨o,e⟩;have nc:∀b∈fp,b≠s2.heap.objs.size:=λ b hb=>let ⟨o,e⟩:=kr b hb;zB (zt e);generalize sU:s2.heap.objs.size=D at i8 cA eD nc ⊢;generalize wB:ku.objs.size=C at *;have bR:s2.heap.objs.size<=D:=by rw[sU];exact zv _
 have cf:s2.heap.objs.size<=C:=by rw[sU];exact i8
 have I4:Inv (blockOf X s2 H2 scope C NB fp) [] (Iq μ σ) H2 {s2 with heap:=h₁,toks:=s2.toks+([]:List (Str×Value)).length}:=Qg I2 aD bG f2 kr cf (by simpa using hns₁) old;have bC:∀ {H':Hp} {pl:List (Addr×Obj)},(∀b∈fp,H' b=none)->(∀p∈pl,p.1=D)->∀b∈fp,L4 (blockOf X s2 H2 scope C NB fp) pl H' b:=fun {H' pl} hn hp b hb=>by
  refine⟨hn b hb,(I4.ok.oU b hb).1,I4.ok.Wf b hb,.inl hb,λ x c e z=>(I4.ok.oU b hb).2 x c e z,λ p du z=>?_⟩;have ng:p∈pl:=by simpa [blockOf] using du
  exact nc b hb (z▸hp p ng)
 have ux:D∉(blockOf X s2 H2 scope C NB fp).fs:=λ z=>by
  obtain⟨_,o,ho,_⟩:=I4.ok.J5.mem z;exact absurd (zt ho) (Nat.not_lt.mpr bR)
 obtain⟨W,⟨m0,w0⟩,turn⟩:=q C;have loop:∀s₃:Shared,s₃={s2 with heap:=h₁,toks:=s2.toks+([]:List (Str×Value)).length} ->
  codeAny (model X.prog X.w) X.A (.compLoop (.ListComp elt [⟨tg,iter,ifs,0⟩] scope pos) 0 (.ref it) (.ref D) (compEnvC scope (HU X.env.cells scope.names []) C X.env)) (RR (.ref D) C) s₃:=by
  rintro s₃ rfl;refine OS (λ n s'=>∃i ys aa k H',Inv (blockOf X s2 H2 scope C NB fp) [(D,{cls:=.type "list",data:=.seq aa k})] (Iq μ σ) H' s'/\tn i s'.heap/\(∀b∈fp,H' b=none)/\Vals ys aa.toList/\ys.length<=sizeLine/\W i n ys H') ?_ m0
   ⟨0,[],#[],0,H2,I4.J6 λ p hp=>?_,T.keep _ _ _ cF λ b hb o e=>old b o e,λ b hb=>(f2 b hb).1,.nil,zQ _,w0⟩
  rotate_left
  ·have e:=zu.mp hp;subst e;exact⟨eD,I2.Ar.fresh bR,cA,ux,λ v=>by simp⟩
  rintro n s3 ⟨i,ys,aa,k,H3,I3,ik,il,rv,hz,w3⟩;rcases turn i n ys H3 w3 with ⟨stop,qn⟩|⟨go,aj,N,hN,step⟩
  ·refine wpAny_mono (T.done (blockOf X s2 H2 scope C NB fp) rfl rfl rfl hc i _ s3 _ H3 (λ _ _=>False) I3 (bC il (by simp)) ik stop) (λ r s4 ⟨hr,lb⟩=>?_) λ _ _ e=>e;subst hr;obtain⟨p1,p2,p3,p4,p5⟩:=lb.pin _ (zm _ zc);obtain⟨m,hn,_⟩:=id lb.loc;have e1:s4.heap.get? D=some {cls:=.type "list",data:=.seq aa.toList.toArray k}:=by simpa using p1
   exact fin D C s4 H3 ys m bR cf cA hn lb.free (λ h' sb=>UN I2 f2 lb cf bR cA e1 p2 rv hz sb) (qn D p2)
  ·refine wpAny_mono (T.item (blockOf X s2 H2 scope C NB fp) rfl rfl rfl hc i _ s3 _ H3 (λ _ _=>False) I3 (bC il (by simp)) ik go) (λ r s4 ⟨u,hr,h4⟩=>?_) λ _ _ e=>e;subst hr;refine Bb h4 λ _ s5 ⟨x,H5,I5,r5,y5,e9,mh⟩=>?_;have mi:=I5.pinned (bC mh (by simp)) (T.obj _ _ e9);have bY:=i6 σ x H5 _ (step x H5 y5);obtain⟨hg,ht,he⟩:=hb s2 H2 C fp;refine Bb (hg _ s5 _ H5 x u _ mi r5 bY) λ _ s6 ⟨σ6,H6,I6,q6,k6⟩=>?_;refine Bb (ht _ s6 σ6 H6 _ I6 q6) λ ok s7 ⟨H7,I7,q7⟩=>?_;have again:∀ {H8:Hp} {s8:Shared} {its':Array Value} {k':Nat} {bd:List V},Inv (blockOf X s2 H2 scope C NB fp) ([(D,{cls:=.type "list",data:=.seq its' k' })]++Im fp s5.heap) σ6 H8 s8->Vals bd its'.toList->bd.length<=sizeLine->(∃m,m<n/\W (i+1) m bd H8)->
    ∃m,m<n/\∃i ys aa k H',Inv (blockOf X s2 H2 scope C NB fp) [(D,{cls:=.type "list",data:=.seq aa k})] (Iq μ σ) H' s8/\tn i s8.heap/\(∀b∈fp,H' b=none)/\Vals ys aa.toList/\ys.length<=sizeLine/\W i m ys H':=fun {H8 s8 its' k' bd} I8 bo uz n8=>by
    obtain⟨m',hm,w8⟩:=n8;refine⟨m',hm,i+1,bd,its',k',H8,(I8.J8.weak ?_ k6),T.keep _ _ _ e9 λ b hb o e=>(I8.pin (b,o) (zm _ (zm _ (FN hb e)))).1,λ b hb=>?_,bo,uz,w8⟩
    ·rw[I8.len];exact I4.len
    ·obtain⟨o,e,d⟩:=T.obj _ _ e9 b hb;exact (I8.pin (b,o) (zm _ (zm _ (FN hb e)))).2.1
   cases ok with
   |false =>
    simp only[zF,if_false] at q7 ⊢;exact again I7 rv hz (hN _ _ q7)
   |true =>
    simp only[if_true] at q7 ⊢;refine Bb (he _ s7 σ6 H7 _ I7 q7) λ uy s8 ⟨y,H8,I8,r8,q8⟩=>?_;obtain⟨p1,p2,p3,p4,p5⟩:=I8.pin (D,_) (zm _ (zO _ zc));have e1:s8.heap.get? D=some {cls:=.type "list",data:=.seq aa k}:=p1;have hsz:aa.size=ys.length:=by rw[<-yp];exact rv.length.symm
    refine call_meets F.slot_list_append ⟨_,e1,rfl⟩ F.entry_list_append (F.args_list_append_2 _ _) (PySem.list_append D aa k uy (by rw[hsz];omega)) ⟨e1,?_⟩;have nh:=PySem.IsL.update e1 (·.push uy);have Iu:Inv (blockOf X s2 H2 scope C NB fp) (Im fp s5.heap) σ6 H8 s8:=I8.J6 λ p hp=>I8.pin p (zm _ (zm _ hp));have It:=Iu.turned (it:=D) (h':=s8.heap.update D (yr (·.push uy))) (t':=s8.toks) (λ b o hb e=>(xm _ _ (yc hb)).trans e) p2 p3 (.inr bR) (λ x c e z=>?_) (λ p hp z=>?_)
    ·refine again (its':=aa.push uy) (k':=if (aa.push uy).size==aa.size then k else k+1) (It.J6 λ p hp=>?_) (by simpa using rv.append (.cons r8 .nil)) (by rw[zM,yC];omega) (hN _ _ q8);rcases zL.mp hp with hp|hp
     ·have e:=zu.mp hp;subst e;exact⟨nh,p2,p3,p4,λ v=>by simp⟩
     ·exact It.pin p (zm _ hp)
    ·have e':=Ed I2 aD e;obtain⟨v,o,ho,_⟩:=I2.cell x c e';exact absurd (zt ho) (by rw[z];exact Nat.not_lt.mpr bR)
    ·have du:p∈Im fp s5.heap:=by simpa [blockOf] using hp
     exact nc p.1 (NA du).1 z
 exact codeAny_compStart_list (loop _ rfl) (T.self _ 0 _ _ _ (T.keep _ _ _ cF λ b hb o e=>old b o e) (loop _ rfl))
theorem Tt {wi:TI}(hc:X.calm=true)(hi:PI X tg iter wi)(aD:Jb scope X.env.scope=true)(bG:OR X.N NB scope μ=true)(i6:LO μ g)
 (hb:∀(s:Shared) (H:Hp) (C:Addr) (ex:List Addr),PG (blockOf X s H scope C NB ex) tg g/\kI (blockOf X s H scope C NB ex) ifs (tc s H C ex)/\PE (blockOf X s H scope C NB ex) elt (te s H C ex))
 (hs:∀x,foldedSetIterable iter X.env x=pure x:=by intro _;rfl):PE X (.ListComp elt [⟨tg,iter,ifs,0⟩] scope pos) (Qh wi μ g tc te):=by
 intro pins s σ H Q I h;have bH:∀y∈scope.names,y.2=.local->scope.names.lookup y.1=some .local:=λ y hy=>(Ho aD hy).2.2;have cg:closureFor scope X.env=pure (HU X.env.cells scope.names []):=I0 λ y hy e=>Ir I aD (x:=y.1) (by rw[<-e];exact hy);rw[eval_ListComp];refine wpAny_comprehension_free (use:=none) rfl hs cg (Hn aD) bH (Bb (hi pins s σ H _ I h) λ v s1 h1=>Bb h1 λ kc s2 h2=>?_);obtain⟨it,fp,tn,J,H2,e,I2,T,cF,f2,q⟩:=h2;subst e;refine NK (RR:=λ acc C=>compPost (model X.prog X.w) X.A X.xe none (EP X pins σ Q) acc C) hc I2 T cF f2 aD bG i6 hb (λ C=>q s2 C fp) ?_;intro D C s' H' ys m hD hC cA hn nC hI hq;exact⟨m,hn,λ h' sb=>⟨.ref D,_,hI h' sb,rfl,hq⟩⟩
noncomputable def mL (i:Nat)(te:TE):TS:=λ D σ H=>te σ H λ x H1=>D.nx (σ.set i (some x)) H1
theorem Zg {wi:TI}{i:Nat}{y:Str}{py aK:Pos}(hN:X.N.Nodup)(ni:X.N[i]?=some y)(hy:Loc X.env.scope y)(hc:X.calm=true)(hi:PI X tg iter wi)(aD:Jb scope X.env.scope=true)(bG:OR X.N NB scope μ=true)(i6:LO μ g)
 (hb:∀(s:Shared) (H:Hp) (C:Addr) (ex:List Addr),PG (blockOf X s H scope C NB ex) tg g/\kI (blockOf X s H scope C NB ex) ifs (tc s H C ex)/\PE (blockOf X s H scope C NB ex) elt (te s H C ex))
 (bp:swapsWith (.ListComp elt [⟨tg,iter,ifs,0⟩] scope pos) (some (.Name y py)) aK.line X.env=pure true:=by rfl)
 (hs:∀x,foldedSetIterable iter X.env x=pure x:=by intro _;rfl) (hf:X.fn y=true\/X.env.scope.names.lookup y=some .local:=by first|exact .inl rfl|exact .inr rfl|assumption):
 PS X (.Assign [.Name y py] (.ListComp elt [⟨tg,iter,ifs,0⟩] scope pos) aK) (mL i (Qh wi μ g tc te)):=by
 intro pins s σ H D' I h;have bH:∀y∈scope.names,y.2=.local->scope.names.lookup y.1=some .local:=λ y hy=>(Ho aD hy).2.2;have cg:closureFor scope X.env=pure (HU X.env.cells scope.names []):=I0 λ y hy e=>Ir I aD (x:=y.1) (by rw[<-e];exact hy);rw[exec_Assign_Name_used _ _ _ _ bp];refine wpAny_bind (wpAny_standAt (wpAny_bind ?_));show wpAny _ X.A (do let _ <-comprehension (.ListComp elt [⟨tg,iter,ifs,0⟩] scope pos) scope X.env _ (newList []) false (eval iter X.env) (some (assign (.Name y py) X.env))) _ _ s;refine wpAny_bind (wpAny_mono (wpAny_comprehension_free (use:=some (assign (.Name y py) X.env)) (Q:=λ _ s'=>SP X pins D' .next s') rfl hs cg (Hn aD) bH (Bb (hi pins s σ H _ I h) λ v s1 h1=>Bb h1 λ kc s2 h2=>?_)) (λ _ s' hq=>wpAny_pure (wpAny_pure hq)) λ _ _ e=>e);obtain⟨it,fp,tn,J,H2,e,I2,T,cF,f2,q⟩:=h2;subst e;refine NK (RR:=λ acc C=>compPost (model X.prog X.w) X.A X.xe (some (assign (.Name y py) X.env)) (λ _ s'=>SP X pins D' .next s') acc C) hc I2 T cF f2 aD bG i6 hb (λ C=>q s2 C fp) ?_;intro D C s' H' ys m hD hC cA hn nC hI hq;have I':=hI s'.heap (.refl ..);show wpAny _ X.A (assign (.Name y py) X.env (.ref D)) _ _ _;refine wpAny_assign_Name (Nz (i:=i) (v:=.ref D) I' hN ni hy rfl (λ ip u3 nj=>?_) hf);obtain⟨a,sb,ha⟩:=nj;have g8:a≠C:=by
  rcases ha with z|z
  ·rw[z];exact zB (zG I2.lt hC)
  ·obtain⟨v,o,ho,_⟩:=I2.cell y a z;exact zB (zG (zt ho) hC)
 refine⟨m,hn.sameBut sb (yc g8),λ h' bI=>?_⟩;refine⟨_,_,u3.turned (it:=C) (t':=ip.toks) (λ b o hb e=>(bI.2 b hb).trans e) (by rw[Ab (yc cA)];exact nC) (Nat.ne_of_gt (zG I2.lt hC)) (.inr (yk I2.sz hC)) (λ x c e z=>?_) (λ p hp z=>?_),hq⟩
 ·obtain⟨v,o,ho,_⟩:=I2.cell x c e;exact absurd (zt ho) (by rw[z];exact Nat.not_lt.mpr hC)
 ·exact absurd (zt (I2.pin p hp).1) (by rw[z];exact Nat.not_lt.mpr hC)
end
noncomputable def sV (K:za)(a:Addr):It:=
 ⟨λ i H=>∃xs x,Dt K H a xs/\xs[i]?=some x,λ i H v H'=>∃p x,H p=none/\v=.ref p/\(∀xs,Dt K H a xs->xs[i]?=some x)/\H'=upd H p (.tup [.int i,x]),λ i H=>∃xs,Dt K H a xs/\xs.length<=i⟩
theorem RZ {X:Cx}{pins:List (Addr×Obj)}{σ:St}{H:Hp}{s:Shared}{h':Heap}{t':Nat}{e it:Addr}(I:Inv X pins σ H s)(he:L4 X pins H e)(hi:L4 X pins H it)(k:∀b o,b≠e->b≠it->s.heap.get? b=some o->h'.get? b=some o):Inv X pins σ H {s with heap:=h',toks:=t' }:=by
 obtain⟨e0,e1,e2,e3,e4,e5⟩:=he;obtain⟨f0,f1,f2,f3,f4,f5⟩:=hi;have ne:∀b u,H b=some u->b≠e/\b≠it:=λ b u q=>⟨λ z=>(by rw[z,e0] at q;cases q),λ z=>(by rw[z,f0] at q;cases q)⟩;refine I.step (g':=s.gens) (d':=s.drawn) (ch:=[e,it]) (λ b hb=>?_) (λ b o _ _ hc q _=>k b o (λ z=>hc (by simp[z])) (λ z=>hc (by simp[z])) q) (λ b o _ _ hc q _=>⟨o.slots,k b o (λ z=>hc (by simp[z])) (λ z=>hc (by simp[z])) q⟩) (λ _ _ _ _ n=>n)
  (λ b o hc q=>⟨o,k b o (λ z=>hc (by simp[z])) (λ z=>hc (by simp[z])) q⟩) (λ _ _ q=>q) (λ _ _ _ q=>q) (λ b ps q=>⟨#[],by rw[q];simp⟩) (λ m hm=>?_) (λ b u q=>?_) I.bare
 ·rcases zq.mp hb with z|z
  ·subst z;exact⟨e3,e1,e4,e5⟩
  ·have z:=zu.mp z;subst z;exact⟨f3,f1,f4,f5⟩
 ·obtain⟨o,es,ep,ho,r⟩:=hm;exact⟨o,es,ep,k _ o (yc e1) (yc f1) ho,r⟩
 ·refine (I.Ar b u q).Ly (λ c v hc z=>k c v ?_ ?_ z) (λ _ z=>z) λ _ _ z=>z
  ·rcases hc with z|z
   ·rw[z];exact (ne b u q).1
   ·exact (ne c _ z).1
  ·rcases hc with z|z
   ·rw[z];exact (ne b u q).2
   ·exact (ne c _ z).2
theorem UO {P:Program}{w:World}{K:za}{ci:List Expr}{x1}{bD:Pos}(a e it:Addr)(ae:e≠it):
 Turn P w K (.Tuple ci x1 bD) (sV K a) [e,it] e (λ i h=>(∃old,IsEnum h e it i old)/\h.IsListIter it a i) where
 mem:=by simp
 obj:=λ i h st b hb=>by
  obtain⟨⟨old,h1⟩,o,h2,c,d⟩:=st;rcases zq.mp hb with z|z
  ·subst z;exact⟨_,h1,λ v z=>by cases z⟩
  ·have z:=zu.mp z;subst z;exact⟨o,h2,λ v z=>by rw[d] at z;cases z⟩
 keep:=λ i h h' st k=>⟨let ⟨old,h1⟩:=st.1;⟨old,k e (by simp) _ h1⟩,st.2.at λ o e=>k it (by simp) o e⟩
 item:=by
  intro X hP hw hK hc i pins s σ H E I hf st hg;subst hP hw hK;obtain⟨xs,x,hq,hx⟩:=hg;obtain⟨⟨old,he⟩,hit⟩:=st;obtain⟨aa,rv,p,hz⟩:=I.list hq;obtain⟨u,hu,ru⟩:=rv.get hx;have fe:=hf e (by simp);have fi:=hf it (by simp);refine wpAny_pyNext_enum_item he hit p.isList (x:=u) (by simpa using hu) ae λ h1 dn nk ht hsz hk=>?_;refine⟨_,rfl,wpAny_letOwnedTupleGo_enum (s:={s with heap:=h1,toks:=s.toks+1}) dn λ h2 u4 aY=>?_⟩;have bJ:xg e h1 h2:=aY;have nt:s.heap.objs.size≠e:=Nat.ne_of_gt (zt he);have u5:s.heap.objs.size≠it:=by
   obtain⟨o,ho,_⟩:=hit;exact Nat.ne_of_gt (zt ho)
  have I1:Inv X pins σ H {s with heap:=h2,toks:=s.toks+1}:=RZ I fe fi λ b o hb a9 q=>(bJ.2 b hb).trans (hk b o hb a9 q);have tup:h2.get? s.heap.objs.size=some {cls:=.type "tuple",data:=.seq #[.int i s.toks,u]}:=(bJ.2 _ nt).trans ht;have nH:H s.heap.objs.size=none:=I.Ar.fresh (zv _);have vv:Vals [.int i,x] [.int i s.toks,u]:=.cons ⟨_,rfl⟩ (.cons ru .nil);have nq:FK X.prog X.w (upd H s.heap.objs.size (.tup [.int i,x])) h2:=I1.Ar.adopt nH ⟨by show 2<=sizeLine;decide,_,vv,⟨_,tup,rfl,_,rfl⟩⟩;have I2:Inv X pins σ (upd H s.heap.objs.size (.tup [.int i,x])) {s with heap:=h2,toks:=s.toks+1}:=by
   refine I.step (g':=s.gens) (d':=s.drawn) (ch:=[e,it]) (λ b hb=>?_) (λ b o _ _ hc q _=>(bJ.2 b (λ z=>hc (by simp[z]))).trans (hk b o (λ z=>hc (by simp[z])) (λ z=>hc (by simp[z])) q)) (λ b o _ _ hc q _=>⟨o.slots,(bJ.2 b (λ z=>hc (by simp[z]))).trans (hk b o (λ z=>hc (by simp[z])) (λ z=>hc (by simp[z])) q)⟩)
    (λ b o hc q n=>by rw[Ab (zB (zt q))];exact n) (λ b o hc q=>⟨o,(bJ.2 b (λ z=>hc (by simp[z]))).trans (hk b o (λ z=>hc (by simp[z])) (λ z=>hc (by simp[z])) q)⟩)
    (λ b xs q=>by rw[Ab (AE q nH)];exact q) (λ b o u q=>by rw[Ab (AE q nH)];exact q) (λ b ps q=>⟨#[],by rw[Ab (AE q nH),q];simp⟩) (λ m hm=>?_) nq I.bare
   ·rcases zq.mp hb with z|z
    ·subst z;exact⟨fe.2.2.2.1,fe.2.1,fe.2.2.2.2.1,fe.2.2.2.2.2⟩
    ·have z:=zu.mp z;subst z;exact⟨fi.2.2.2.1,fi.2.1,fi.2.2.2.2.1,fi.2.2.2.2.2⟩
   ·obtain⟨o,es,ep,ho,r⟩:=hm;exact⟨o,es,ep,(bJ.2 _ (yc fe.2.1)).trans (hk _ o (yc fe.2.1) (yc fi.2.1) ho),r⟩
  refine⟨.ref s.heap.objs.size,_,I2,rfl,⟨_,x,nH,rfl,λ ys hy=>by rw[I.J7 hy hq];exact hx,rfl⟩,⟨⟨u,u4⟩,nk.at λ o q=>(bJ.2 it (yc ae)).trans q⟩,λ b hb=>?_⟩;have a9:b≠s.heap.objs.size:=by
   rcases zq.mp hb with z|z
   ·rw[z];exact yc nt
   ·rw[zu.mp z];exact yc u5
  rw[Ab a9];exact (hf b hb).1
 done:=by
  intro X hP hw hK hc i pins s σ H E I hf st hg;subst hP hw hK;obtain⟨xs,hq,hx⟩:=hg;obtain⟨⟨old,he⟩,hit⟩:=st;obtain⟨aa,rv,p,hz⟩:=I.list hq;have hl:=rv.length;obtain⟨f0,f1,f2,f3,f4,f5⟩:=hf it (by simp);exact wpAny_pyNext_enum_end (I.ok.hd hc) he hit p.isList (by simp;omega) λ h' eb=>⟨rfl,I.turned (t':=s.toks) (λ b o hb e=>eb b o hb e) f0 f1 f3 f4 f5⟩
 self:=λ _ _ _ _ _ st h=>let ⟨_,he⟩:=st.1;wpAny_pyIter_enum he h
section
variable {X:Cx}
noncomputable def mM (K:za)(ta:TA):TI:=λ σ H R=>ta σ H λ vs H1=>∃a,vs=[.ref a]/\(∃xs,Dt K H1 a xs)/\R (sV K a) H1
theorem Zh {ci:List Expr}{x1}{bD:Pos}{a:Expr}{ta:TA}{p pos:Pos}(hg:Gl X "enumerate")(hm:X.mg "enumerate" = none)(ha:PA X [a] ta)(hb:bootBuiltins "enumerate" = some (.type "enumerate"):=by decide +kernel)(hs:starEach [a] X.env=[(false,eval a X.env)]:=by rfl):
 PI X (.Tuple ci x1 bD) (.Call (.Name "enumerate" p) [a] [] pos) (mM X.K ta):=by
 intro pins s σ H R I h;refine Call_ (Dh I hg hm hb (yq (Bb (ha pos pins s σ H _ I h) λ us s1 ⟨vs,H1,I1,r1,q1⟩=>?_) hs rfl));obtain⟨j,e,⟨xs,hq⟩,q⟩:=q1;subst e;cases r1 with
 |cons r rr =>
  cases rr;cases r;obtain⟨aa,rv,p,hz⟩:=I1.list hq;refine call_enumerate_list p.isList λ h' he hit hsz hk=>?_;refine wpAny_pyIter_enum (s:={s1 with heap:=h' }) he ?_;have I2:Inv X pins σ H1 {s1 with heap:=h' }:=I1.kept (t':=s1.toks) hk;refine⟨_,[s1.heap.objs.size+1,s1.heap.objs.size],_,_,H1,rfl,I2,UO j _ _ (Nat.succ_ne_self _),⟨⟨_,he⟩,hit⟩,λ b hb=>?_,q⟩;rcases zq.mp hb with z|z
  ·rw[z];exact I1.Wn (Nat.le_succ _) (I1.Ar.fresh (Nat.le_succ _))
  ·rw[zu.mp z];exact I1.Wn (zv _) (I1.Ar.fresh (zv _))
end
noncomputable def By {α:Type}(o:Option (α×List Int))(b:α×List Int):Option (α×List Int):=match o with | none=>some b | some c=>if HT.lexLt b.2 c.2=true then some b else some c
noncomputable def AQ {α:Type}(bs:List (α×List Int)):Option (α×List Int):=bs.foldl By none
noncomputable def D7 (bs:List (Addr×List Int)):Array Value:=match AQ bs with | none=>#[] | some b=>#[.ref b.1,.ref b.1]
theorem CN {α:Type}(bs:List (α×List Int))(b:α×List Int):AQ (bs++[b])=match AQ bs with | none=>some b | some c=>if HT.lexLt b.2 c.2=true then some b else some c:=by
 unfold AQ;rw[List.foldl_append];rfl
theorem JX {α:Type}:∀(bs:List (α×List Int)) (b:α×List Int),AQ bs=some b->b∈bs:=by
 intro bs
 suffices h:∀(bs:List (α×List Int)) (o:Option (α×List Int)) (b:α×List Int),bs.foldl By o=some b->b∈bs\/o=some b by
  intro b hb;rcases h bs none b hb with q|q
  ·exact q
  ·cases q
 intro bs;induction bs with
 |nil=>intro o b h;exact .inr h
 |cons x r ih =>
  intro o b h;rw[zU] at h;rcases ih _ _ h with q|q
  ·exact .inl (zf _ q)
  ·cases o with
   |none=>cases q;exact .inl zc
   |some c =>
    unfold By at q;dsimp only at q;split at q
    ·cases q;exact .inl zc
    ·exact .inr q
theorem Ng (a v:Value):argsOk "min" ⟨[a],[(Str.ofString "default",v)]⟩:=by unfold argsOk;kernel_rfl
section
variable {prog:Program}{w:World}{A:Around}{R:Result->Shared->Prop}
theorem WQ (bs:List (Addr×List Int))(tv:Addr->Array Value)(l I S:Addr)(d:Value)(hh:A.handled=none)(hu:A.in1.units<cLine)(cI:S≠I)(ia:l≠I)(i9:l≠S)(f6:∀b∈bs,b.1≠I/\b.1≠S)
 (hk:∀b∈bs,IntsAre (tv b.1).toList b.2):∀(k j:Nat) (s:Shared) (c:Nat),bs.length-j=k->j<=bs.length->s.heap.IsListIter I l j->s.heap.IsList l (bs.map λ b=>zK b.1).toArray->(∀b∈bs,IsTup s.heap b.1 (tv b.1))->
  s.heap.get? S=some {cls:=.type "list",dict:=none,data:=.seq (D7 (bs.take j)) c,slots:=#[]} ->
  (∀h' tk,(∀b o,b≠I->b≠S->s.heap.get? b=some o->h'.get? b=some o)->R (.ok (.ret (match AQ bs with|none=>d|some b=>.ref b.1))) {s with heap:=h',toks:=tk})->
  codeAny (model prog w) A (.builtin "min.loop" ⟨[.ref I,.none,.ref S],[(Str.ofString "default",d)]⟩) R s:=by
 have a8:(toString "min" ++ toString ".loop" : String) = "min.loop" := by decide
 intro k;induction k with
 |zero =>
  intro j s c hr hj hit hl ht hS hR;have cj:j=bs.length:=by omega
  subst cj;rw[yF] at hS;refine codeAny_builtin PySem.F.entry_min_loop ?_;rw[yu zY _];show wpAny _ A.in1 (seqItems? (.ref S) >>= _) _ _ s;refine wpAny_bind (wpAny_seqItems hS rfl ?_);show wpAny _ A.in1 (tryCatch (pyNext (.ref I)) _ >>= _) _ _ s;refine wpAny_bind (wpAny_tryCatch (wpAny_pyNext_list_end (A:=A.in1) hh hit hl (by simp) λ h' eb=>?_));have aF:h'.get? S=_:=eb S _ cI hS;unfold D7 at aF;cases hb:AQ bs with
  |none =>
   unfold D7;rw[hb];show wpAny _ A.in1 (rule _ >>= _) _ _ _;refine wpAny_bind (wpAny_rule (wpAny_pure ?_));have q:=hR h' s.toks λ b o h1 h2 e=>eb b o h1 e;rw[hb] at q;exact q
  |some b =>
   rw[hb] at aF;unfold D7;rw[hb];show wpAny _ A.in1 (updateSeq S (λ _=>#[]) >>= _) _ _ _;refine wpAny_bind ?_;refine wpAny_updateSeq aF rfl (wpAny_bind (wpAny_letGo (wpAny_pure ?_)));have q:=hR (h'.update S (yr λ _=>#[])) s.toks λ b o h1 h2 e=>(xm _ _ (yc h2)).trans (eb b o h1 e);rw[hb] at q;exact q
 |succ k ih =>
  intro j s c hr hj hit hl ht hS hR;have aj:j<bs.length:=by omega
  have ej:bs.take (j+1)=bs.take j++[bs[j]]:=by rw[xb,zg aj];rfl
  have mj:bs[j]∈bs:=List.getElem_mem aj;refine codeAny_builtin PySem.F.entry_min_loop ?_;rw[yu zY _];show wpAny _ A.in1 (seqItems? (.ref S) >>= _) _ _ s;refine wpAny_bind (wpAny_seqItems hS rfl ?_);show wpAny _ A.in1 (tryCatch (pyNext (.ref I)) _ >>= _) _ _ s;refine wpAny_bind (wpAny_tryCatch (wpAny_pyNext_list_item (A:=A.in1) hit hl (x:=.ref bs[j].1) (by simp[aj]) λ h' aG sb=>?_));have bI:xg I s.heap h':=sb;have aF:h'.get? S=_:=(bI.2 S cI).trans hS;have bz:h'.IsList l (bs.map λ b=>zK b.1).toArray:=hl.at λ o e=>(bI.2 l ia).trans e;have bS:∀b∈bs,IsTup h' b.1 (tv b.1):=λ b hb=>by
   obtain⟨o,ho,r⟩:=ht b hb;exact⟨o,(bI.2 b.1 (f6 b hb).1).trans ho,r⟩
  cases hb:AQ (bs.take j) with
  |none =>
   unfold D7 at aF ⊢;rw[hb] at aF ⊢;show wpAny _ A.in1 (updateSeq S (λ _=>#[.ref bs[j].1,.ref bs[j].1]) >>= _) _ _ _;refine wpAny_bind ?_;refine wpAny_updateSeq aF rfl ?_;rw[a8];have s1:=yW h' S (yr λ _=>(#[.ref bs[j].1,.ref bs[j].1]:Array Value));refine wpAny_pure ⟨plainId_quiet zY _,ih (j+1) _ (c+1) (by omega) aj (aG.at λ o e=>(s1.2 I (yc cI)).trans e) (bz.at λ o e=>(s1.2 l i9).trans e) (λ b hb=>?_) ?_ λ ck tk aW=>?_⟩
   ·obtain⟨o,ho,r⟩:=bS b hb;exact⟨o,(s1.2 b.1 (f6 b hb).2).trans ho,r⟩
   ·refine (yT _ aF rfl).trans ?_;unfold D7;rw[ej,CN,hb];rfl
   ·exact hR ck tk λ b o h1 h2 e=>aW b o h1 h2 ((s1.2 b h2).trans ((bI.2 b h1).trans e))
  |some m =>
   have mm:m∈bs:=yw (JX _ _ hb);unfold D7 at aF ⊢;rw[hb] at aF ⊢;show wpAny _ A.in1 (tryCatch (holding [.ref bs[j].1,.ref bs[j].1] (richCompare .Lt (.ref bs[j].1) (.ref m.1) >>= _)) _ >>= _) _ _ _;refine wpAny_bind (wpAny_tryCatch (wpAny_holding (wpAny_bind (HT.Ip (bS _ mj) (bS _ mm) (hk _ mj) (hk _ mm) hu ?_))));refine wpAny_bind (wpAny_holding (wpAny_truthy_bool ?_));refine wpAny_bind (wpAny_letGo (wpAny_pure ?_));cases hc:HT.lexLt bs[j].2 m.2 with
   |true =>
    simp only[if_true];have s1:=yW h' S (yr λ _=>(#[.ref bs[j].1,.ref bs[j].1]:Array Value));refine wpAny_bind ?_;refine wpAny_updateSeq aF rfl (wpAny_bind (wpAny_letGo ?_));rw[a8];refine wpAny_pure ⟨plainId_quiet zY _,ih (j+1) _ c (by omega) aj (aG.at λ o e=>(s1.2 I (yc cI)).trans e) (bz.at λ o e=>(s1.2 l i9).trans e) (λ b hb=>?_) ?_ λ ck tk aW=>?_⟩
    ·obtain⟨o,ho,r⟩:=bS b hb;exact⟨o,(s1.2 b.1 (f6 b hb).2).trans ho,r⟩
    ·refine (yT _ aF rfl).trans ?_;unfold D7;rw[ej,CN,hb];simp only[hc,if_true];rfl
    ·exact hR ck tk λ b o h1 h2 e=>aW b o h1 h2 ((s1.2 b h2).trans ((bI.2 b h1).trans e))
   |false =>
    simp only[zF,if_false];refine wpAny_bind (wpAny_letGo ?_);rw[a8];refine wpAny_pure ⟨plainId_quiet zY _,ih (j+1) _ c (by omega) aj aG bz bS ?_ λ ck tk aW=>?_⟩
    ·refine aF.trans ?_;unfold D7;rw[ej,CN,hb];simp only[hc,zF,if_false]
    ·exact hR ck tk λ b o h1 h2 e=>aW b o h1 h2 ((bI.2 b h1).trans e)
theorem Nh {E:Value->Shared->Prop}{s:Shared}{Q:Value->Shared->Prop}(bs:List (Addr×List Int))(tv:Addr->Array Value)(l:Addr)(d:Value)(hh:A.handled=none)(hu:A.in1.units<cLine)
 (hl:s.heap.IsList l (bs.map λ b=>zK b.1).toArray) (ht:∀b∈bs,IsTup s.heap b.1 (tv b.1)) (hk:∀b∈bs,IntsAre (tv b.1).toList b.2)
 (hQ:∀h' tk,(∀b o,s.heap.get? b=some o->h'.get? b=some o)->Q (match AQ bs with|none=>d|some b=>.ref b.1) {s with heap:=h',toks:=tk}):
 wpAny (model prog w) A (call (.builtin "min") [.ref l] [(Str.ofString "default",d)]) Q E s:=by
 have a8:(toString "min" ++ toString ".loop" : String) = "min.loop" := by decide
 obtain⟨ol,f7,_⟩:=id hl;have u6:l<s.heap.objs.size:=zt f7;refine kmk_tree PySem.F.kind_min PySem.F.plain_min PySem.F.entry_min (Ng _ _) ?_;show wpAny _ A.in1 (xc "min" ["key","default"] 0 ⟨[],[(Str.ofString "default",d)]⟩ >>= _) _ _ s;refine wpAny_bind (wpAny_of_eq (show xc "min" ["key","default"] 0 ⟨[],[(Str.ofString "default",d)]⟩=pure [none,some d] from rfl) ?_);refine wpAny_bind (wpAny_pure ?_);refine wpAny_bind (wpAny_pyIter_list hl ?_);refine wpAny_bind (wpAny_newList ?_ (zQ _));rw[a8];have hS:(s.heap.push {cls:=.type "list_iterator",data:=.fields #[.ref l,.int 0 0]}).objs.size=s.heap.objs.size+1:=Heap.size_push ..;have old:∀b o,s.heap.get? b=some o->b≠s.heap.objs.size/\b≠(s.heap.push {cls:=.type "list_iterator",data:=.fields #[.ref l,.int 0 0]}).objs.size:=λ b o e=>⟨zB (zt e),by rw[hS];exact zB (Nat.lt_succ_of_lt (zt e))⟩;have grow:∀b o,s.heap.get? b=some o->((s.heap.push {cls:=.type "list_iterator",data:=.fields #[.ref l,.int 0 0]}).push {cls:=.type "list",data:=.seq #[]}).get? b=some o:=λ b o e=>zi _ (zi _ e);refine wpAny_pure ⟨plainId_quiet zY _,?_⟩;refine WQ bs tv l s.heap.objs.size (s.heap.push {cls:=.type "list_iterator",data:=.fields #[.ref l,.int 0 0]}).objs.size d hh hu (by rw[hS];exact Nat.succ_ne_self _) (old l ol f7).1 (old l ol f7).2 (λ b hb=>?_) hk _ 0 _ 0 rfl (zQ _) ?_ ?_ (λ b hb=>?_) ?_ ?_
 ·obtain⟨o,ho,_⟩:=ht b hb;exact old b.1 o ho
 ·exact⟨_,zi _ (zA _ rfl),rfl,rfl⟩
 ·exact hl.at λ o e=>grow l o e
 ·obtain⟨o,ho,r⟩:=ht b hb;exact⟨o,grow b.1 o ho,r⟩
 ·exact zA _ rfl
 ·intro h' tk cJ;exact hQ h' tk λ b o e=>cJ b o (old b o e).1 (old b o e).2 (grow b o e)
end
section
variable {X:Cx}{e e2:Expr}{te td:TE}{p pos kp:Pos}
noncomputable def mO (K:za)(te td:TE):TE:=λ σ H Q=>te σ H λ x H1=>td σ H1 λ d H2=>∃(a:Addr) (bs:List (Addr×List Int)),x=.ref a/\Dt K H2 a (bs.map λ b=>V.ref b.1)/\(∀b∈bs,Gk K H2 b.1 (b.2.map V.int))/\Q (match AQ bs with | none=>d | some b=>.ref b.1) H2
theorem JY:∀ {bs:List (Addr×List Int)}{us:List Value},Vals (bs.map λ b=>V.ref b.1) us->us=bs.map λ b=>zK b.1
 |[],_,.nil=>rfl
 |b::r,_,.cons h t=>by cases h;rw[JY t];rfl
theorem Zi (hc:X.calm=true)(hu:X.A.units+1<cLine)(hg:Gl X "min")(hm:X.mg "min" = none)(he:PE X e te)(hd:PE X e2 td)
 (bc:starEach [e] X.env=[(false,eval e X.env)]:=by rfl) (bn:(backToKw pos (keywordEach [⟨some "default",e2,kp⟩] X.env)).all (·.1.isSome)=true:=by rfl) (f8:(backToKw pos (keywordEach [⟨some "default",e2,kp⟩] X.env)).filterMap (·.1)=([("default" : Str)]:List Str):=by rfl)
 (nr:(backToKw pos (keywordEach [⟨some "default",e2,kp⟩] X.env)).any (·.1.isNone)=false:=by rfl) (f9:backTo pos (starEach [e] X.env)=(false,eval e X.env)::backTo pos (starEach [] X.env):=by rfl) (a5:(backTo pos (starEach [e] X.env)).any (·.1)=false:=by rfl):
 PE X (.Call (.Name "min" p) [e] [⟨some "default",e2,kp⟩] pos) (mO X.K te td):=by
 intro pins s σ H Q I h;refine wpAny_Call_Name_kw (Dh I hg hm boot_min ?_ (by decide) (by decide));refine callWith_kw (Bb ((Bc he C4 (hs:=bc)) pos pins s σ H (λ vs H1=>match vs with|[x]=>td σ H1 λ d H2=>∃(a:Addr) (bs:List (Addr×List Int)),x=.ref a/\Dt X.K H2 a (bs.map λ b=>V.ref b.1)/\(∀b∈bs,Gk X.K H2 b.1 (b.2.map V.int))/\Q (match AQ bs with|none=>d|some b=>.ref b.1) H2|_=>False) I h) λ us s1 ⟨vs,H1,I1,r1,q1⟩=>?_) f9 a5 bn nr;obtain⟨x,rfl⟩:∃x,vs=[x]:=by
  match vs,q1 with
  |[x],_=>exact⟨x,rfl⟩
 refine Bb ((Z0 hd gC) pos pins s1 σ H1 (λ zs H2=>match zs with|[d]=>∃(a:Addr) (bs:List (Addr×List Int)),x=.ref a/\Dt X.K H2 a (bs.map λ b=>V.ref b.1)/\(∀b∈bs,Gk X.K H2 b.1 (b.2.map V.int))/\Q (match AQ bs with|none=>d|some b=>.ref b.1) H2|_=>False) I1 q1) λ ws s2 ⟨zs,H2,I2,r2,q2⟩=>?_;obtain⟨d,rfl⟩:∃d,zs=[d]:=by
  match zs,q2 with
  |[d],_=>exact⟨d,rfl⟩
 obtain⟨a,bs,rfl,hl,hb,q⟩:=q2;obtain⟨ua,rfl,ra⟩:=r1.one;obtain⟨ud,rfl,rd⟩:=r2.one;cases ra;rw[f8];obtain⟨aa,rv,pl,hz⟩:=I2.list hl;have ei:=JY rv;subst ei;have tv:∀a:Addr,∃t:Array Value,∀b∈bs,b.1=a->IsTup s2.heap a t/\IntsAre t.toList b.2:=λ a=>by
  by_cases cm:∃b∈bs,b.1=a
  ·obtain⟨b,cm,rfl⟩:=cm;obtain⟨ts,rt,pt,_⟩:=I2.tuple (hb b cm);refine⟨ts.toArray,λ b' a9 e=>⟨pt,?_⟩⟩;have q2:=hb b' a9;rw[e] at q2;have e2:=I2.Hl q2 (hb b cm);rw[<-e2] at rt;simpa using intsAre_of rt
  ·exact⟨#[],λ b a9 e=>absurd ⟨b,a9,e⟩ cm⟩
 refine Nh bs (λ b=>zo (tv b)) a ud (I2.ok.hd hc) hu pl.isList (λ b a9=>(zb (tv b.1) b a9 rfl).1) (λ b a9=>(zb (tv b.1) b a9 rfl).2) λ h' tk hk=>?_;refine⟨match AQ bs with|none=>d|some b=>.ref b.1,H2,I2.kept (t':=tk) hk,?_,q⟩;cases AQ bs with
 |none=>exact rd
 |some b=>rfl
end
inductive D where
 |Ay|bl (b:Bool)|int (i:Int)|str (x:Str)|tup (ds:List D)|lst (ds:List D)|Dq (x:Str)|B8 (t:Bool) (ks vs:List D)|ins (x:Str) (ns:List Str) (ds:List D)
noncomputable def Cn:Key->D
 | .inl i=>.int i
 | .inr x=>.str x
def qT (a c:Addr)(h:Heap):Prop:=∃o,h.get? a=some o/\o.cls=.ref c/\PySem.W.notCls o=true
theorem Rd.same {H H':Hp}{a:Addr}{u:HO}(r:Rd H a u)(e:Ad H H'):Rd H' a u:=r.elim (λ h=>.inl (e _ _ h)) λ⟨o,h⟩=>.inr ⟨o,e _ _ h⟩
mutual
inductive Bw (K:za) (H:Hp):V->D->Prop
 |Ay:Bw K H .Ay .Ay
 |bl (b):Bw K H (.bl b) (.bl b)
 |int (i):Bw K H (.int i) (.int i)
 |str (x):Bw K H (.str x) (.str x)
 |tup {a xs ds}:H a=some (.tup xs)->Ag K H xs ds->Bw K H (.ref a) (.tup ds)
 |lst {a xs ds}:Dt K H a xs->Ag K H xs ds->Bw K H (.ref a) (.lst ds)
 |HV {a kvs ds}:Rd H a (.dK kvs)->Ag K H (kvs.map yz) ds->Bw K H (.ref a) (.B8 false (kvs.map λ kv=>Cn kv.1) ds)
 |GC {a kvs ds}:Rd H a (.dT kvs)->Ag K H (kvs.map yz) ds->Bw K H (.ref a) (.B8 true (kvs.map λ kv=>.tup (kv.1.map Cn)) ds)
 |ins {a C dx fs x ds}:zd K mainGlobals x=some (some (.ref C))->H a=some (.ins C dx fs)->Ag K H (fs.map yz) ds->Bw K H (.ref a) (.ins x (fs.map zS) ds)
 |Dq {a c x}:zd K mainGlobals x=some (some (.ref c))->H a=some (.ext (qT a c))->Bw K H (.ref a) (.Dq x)
inductive Ag (K:za) (H:Hp):List V->List D->Prop
 |nil:Ag K H [] []
 |cons {x d xs ds}:Bw K H x d->Ag K H xs ds->Ag K H (x::xs) (d::ds)
end
theorem Ag.length {K:za}{H:Hp}:∀ {xs:List V}{ds:List D},Ag K H xs ds->xs.length=ds.length
 |_,_,.nil=>rfl
 |_,_,.cons _ t=>by rw[zp,zp,Ag.length t]
theorem Ag.get {K:za}{H:Hp}:∀ {xs:List V}{ds:List D}{i:Nat}{d:D},Ag K H xs ds->ds[i]?=some d->∃x,xs[i]?=some x/\Bw K H x d
 |_,_,_,_,.nil,e=>by simp at e
 |_,_,0,_,.cons r _,e=>by simp at e;subst e;exact⟨_,rfl,r⟩
 |_,_,i+1,d,.cons _ t,e=>by
  obtain⟨u,h1,h2⟩:=Ag.get (i:=i) (d:=d) t (by simpa using e);exact⟨u,by simpa using h1,h2⟩
theorem Ag.JZ {K:za}{H:Hp}:∀ {xs:List V}{ds:List D}{i:Nat}{x:V},Ag K H xs ds->xs[i]?=some x->∃d,ds[i]?=some d/\Bw K H x d
 |_,_,_,_,.nil,e=>by simp at e
 |_,_,0,_,.cons r _,e=>by simp at e;subst e;exact⟨_,rfl,r⟩
 |_,_,i+1,d,.cons _ t,e=>by
  obtain⟨u,h1,h2⟩:=Ag.JZ (i:=i) (x:=d) t (by simpa using e);exact⟨u,by simpa using h1,h2⟩
theorem Ag.append {K:za}{H:Hp}:∀ {xs ys:List V}{ds es:List D},Ag K H xs ds->Ag K H ys es->Ag K H (xs++ys) (ds++es)
 |_,_,_,_,.nil,h=>h
 |_,_,_,_,.cons r t,h=>.cons r (Ag.append t h)
theorem Ag.snoc {K:za}{H:Hp}{xs:List V}{ds:List D}{x:V}{d:D}(h:Ag K H xs ds)(r:Bw K H x d):Ag K H (xs++[x]) (ds++[d]):=h.append (.cons r .nil)
theorem Ag.take {K:za}{H:Hp}:∀ {xs:List V}{ds:List D}(n:Nat),Ag K H xs ds->Ag K H (xs.take n) (ds.take n)
 |_,_,0,_|_,_,_+1,.nil=>.nil
 |_,_,n+1,.cons r t=>.cons r (Ag.take n t)
theorem Ag.drop {K:za}{H:Hp}:∀ {xs:List V}{ds:List D}(n:Nat),Ag K H xs ds->Ag K H (xs.drop n) (ds.drop n)
 |_,_,0,r=>r
 |_,_,_+1,.nil=>.nil
 |_,_,n+1,.cons _ t=>Ag.drop n t
theorem Ag.reverse {K:za}{H:Hp}:∀ {xs:List V}{ds:List D},Ag K H xs ds->Ag K H xs.reverse ds.reverse
 |_,_,.nil=>.nil
 |_,_,.cons r t=>by rw[List.reverse_cons,List.reverse_cons];exact (Ag.reverse t).snoc r
theorem Ag.ints {K:za}{H:Hp}:∀(ns:List Int),Ag K H (ns.map V.int) (ns.map D.int)
 |[]=>.nil
 |n::r=>.cons (.int n) (Ag.ints r)
theorem Ad.qU {K:za}{H H':Hp}{a:Addr}{xs:List V}(e:Ad H H')(h:Gk K H a xs):Gk K H' a xs:=by
 rcases h with (h|⟨o,h⟩)|h
 ·exact .inl (.inl (e _ _ h))
 ·exact .inl (.inr ⟨o,e _ _ h⟩)
 ·exact .inr h
mutual
theorem Bw.mono {K:za}{H H':Hp}(e:Ad H H'):∀ {v:V}{d:D},Bw K H v d->Bw K H' v d
 |_,_,.Ay=>.Ay
 |_,_,.bl b=>.bl b
 |_,_,.int i=>.int i
 |_,_,.str x=>.str x
 |_,_,.tup h r=>.tup (e _ _ h) (Ag.mono e r)
 |_,_,.lst h r=>.lst (e.seq h) (Ag.mono e r)
 |_,_,.HV h r=>.HV (h.same e) (Ag.mono e r)
 |_,_,.GC h r=>.GC (h.same e) (Ag.mono e r)
 |_,_,.ins n h r=>.ins n (e _ _ h) (Ag.mono e r)
 |_,_,.Dq h r=>.Dq h (e _ _ r)
theorem Ag.mono {K:za}{H H':Hp}(e:Ad H H'):∀ {vs:List V}{ds:List D},Ag K H vs ds->Ag K H' vs ds
 |_,_,.nil=>.nil
 |_,_,.cons h t=>.cons (Bw.mono e h) (Ag.mono e t)
end
theorem AK {H:Hp}{p:Addr}(h:H p=none)(o:HO):Ad H (upd H p o):=λ b u q=>by rw[Ab (AE q h)];exact q
mutual
noncomputable def Av:D->D->Bool
 | .Ay,.Ay=>true
 | .bl a,.bl b| .int a,.int b| .str a,.str b=>a==b
 | .bl a,.int b=>(if a then 1 else 0)==b
 | .int a,.bl b=>a==(if b then 1 else 0)
 | .tup a,.tup b| .lst a,.lst b=>C5 a b
 | .Dq a,.Dq b=>a==b
 | .B8 s a b,.B8 t c d=>(s==t)&&(C5 a c&&C5 b d)
 | .ins x n a,.ins y m b=>(x==y)&&((n==m)&&C5 a b)
 |_,_=>false
noncomputable def C5:List D->List D->Bool
 |[],[]=>true
 |a::r,b::t=>Av a b&&C5 r t
 |_,_=>false
end
mutual
theorem Jd:∀d:D,Av d d=true
 | .Ay=>by simp[Av]
 | .bl b| .int b| .str b=>by simp[Av]
 | .tup b| .lst b=>by simp only[Av];exact DC b
 | .Dq b=>by simp[Av]
 | .B8 s a b=>by simp only[Av];rw[DC a,DC b];simp
 | .ins x n a=>by simp only[Av];rw[DC a];simp
theorem DC:∀d:List D,C5 d d=true
 |[]=>by simp[C5]
 |a::r=>by simp only[C5,Jd a,DC r,Bool.and_true]
end
mutual
noncomputable def AG:D->Bool
 | .tup a| .lst a=>LP a
 | .Dq _| .B8 _ _ _| .ins _ _ _=>false
 |_=>true
noncomputable def LP:List D->Bool
 |[]=>true
 |a::r=>AG a&&LP r
end
theorem BR:∀ {ds:List D}{d:D},d∈ds->LP ds=true->AG d=true
 |a::r,d,h,q=>by
  rw[LP,zW] at q;rcases zq.mp h with z|z
  ·subst z;exact q.1
  ·exact BR z q.2
mutual
noncomputable def J2:D->Nat
 | .tup a| .lst a=>L7 a+1
 |_=>0
noncomputable def L7:List D->Nat
 |[]=>0
 |a::r=>max (J2 a) (L7 r)
end
theorem FQ:∀ {ds:List D}{d:D},d∈ds->J2 d<=L7 ds
 |a::r,d,h=>by
  rw[L7];rcases zq.mp h with z|z
  ·subst z;exact Nat.le_max_left _ _
  ·exact yk (FQ z) (Nat.le_max_right _ _)
theorem Qi:∀ {a b:List D},C5 a b=true->a.length=b.length
 |[],[],_=>rfl
 |[],_::_,h|_::_,[],h=>by simp[C5] at h
 |a::r,b::t,h=>by
  simp only[C5,zW] at h;rw[zp,zp,Qi h.2]
theorem Ee:∀(a b:List D),a.length=b.length->(zR a.length).all (λ j=>Av (a.getD j .Ay) (b.getD j .Ay))=C5 a b
 |[],[],_=>by simp[C5]
 |a::r,b::t,h=>by
  have ih:=Ee r t (by simpa using h);rw[zp,List.range_succ_eq_map,xt,List.all_map,C5,<-ih];simp[Function.comp_def]
 |[],_::_,h|_::_,[],h=>by cases h
theorem Li {a b:List D}(h:a.length≠b.length):C5 a b=false:=by
 cases e:C5 a b with
 |false=>rfl
 |true=>exact absurd (Qi e) h
theorem LQ (a b:List D):((zR (min a.length b.length)).all (λ j=>Av (a.getD j .Ay) (b.getD j .Ay))&&(a.length==b.length))=C5 a b:=by
 by_cases h:a.length=b.length
 ·rw[<-Ee a b h,h];simp
 ·rw[Li h,beq_false_of_ne h,Bool.and_false]
section
variable {X:Cx}{pins:List (Addr×Obj)}{σ:St}{H:Hp}{s:Shared}
theorem Tu (I:Inv X pins σ H s){a:Addr}{xs ys:List V}(h:Dt X.K H a xs)(h':Gk X.K H a ys):False:=by
 obtain⟨aa,_,⟨o,n,e,c,_,_⟩,_⟩:=I.list h;obtain⟨its',_,⟨o',e',c',_⟩,_⟩:=I.tuple h';rw[e] at e';cases e';rw[c] at c';revert c';decide
mutual
theorem Zj (I:Inv X pins σ H s):∀ {v:V}{d d':D},AG d=true->AG d'=true->Bw X.K H v d->Bw X.K H v d'->d=d'
 |_,_,_,_,_,.Ay,.Ay|_,_,_,_,_,.bl _,.bl _|_,_,_,_,_,.int _,.int _|_,_,_,_,_,.str _,.str _=>rfl
 |_,_,_,n1,n2,.tup h r,.tup h' r'=>by
  have e:=I.Hl (.of h) (.of h');subst e;rw[GD I (by rw[AG] at n1;exact n1) (by rw[AG] at n2;exact n2) r r']
 |_,_,_,n1,n2,.lst h r,.lst h' r'=>by
  have e:=I.J7 h h';subst e;rw[GD I (by rw[AG] at n1;exact n1) (by rw[AG] at n2;exact n2) r r']
 |_,_,_,_,_,.tup h _,.lst h' _=>(Tu I h' (.of h)).elim
 |_,_,_,_,_,.lst h _,.tup h' _=>(Tu I h (.of h')).elim
 |_,_,_,n1,_,.Dq _ _,_|_,_,_,n1,_,.HV _ _,_|_,_,_,n1,_,.GC _ _,_|_,_,_,n1,_,.ins _ _ _,_=>by rw[AG] at n1;cases n1
 |_,_,_,_,n2,_,.Dq _ _|_,_,_,_,n2,_,.HV _ _|_,_,_,_,n2,_,.GC _ _|_,_,_,_,n2,_,.ins _ _ _=>by rw[AG] at n2;cases n2
theorem GD (I:Inv X pins σ H s):∀ {v:List V}{d d':List D},LP d=true->LP d'=true->Ag X.K H v d->Ag X.K H v d'->d=d'
 |_,_,_,_,_,.nil,.nil=>rfl
 |_,_,_,n1,n2,.cons h r,.cons h' r'=>by
  rw[LP,zW] at n1 n2;rw[Zj I n1.1 n2.1 h h',GD I n1.2 n2.2 r r']
end
theorem W7 {xs:List V}{aa:List Value}(r:Vals xs aa)(j:Nat)(h:j<aa.toArray.size):∃x,xs[j]?=some x/\RelV x aa.toArray[j]:=by
 have h':j<aa.length:=by simpa using h
 have hx:j<xs.length:=by rw[r.length];exact h'
 obtain⟨u,hu,ru⟩:=r.get (zg hx);rw[zg h'] at hu;refine⟨xs[j],zg hx,?_⟩;have e:aa.toArray[j]=u:=by simpa using hu
 rw[e];exact ru
theorem C3 {ds:List D}{j:Nat}{d:D}(h:ds[j]?=some d):ds.getD j .Ay=d:=by rw[zC,h];rfl
theorem OU (I:Inv X pins σ H s):∀(n:Nat) (A:Around) (d e:D) (v w:V) (u1 u2:Value),J2 d<=n->AG d=true->AG e=true->A.units+n<cLine->Bw X.K H v d->Bw X.K H w e->RelV v u1->RelV w u2->SeqAt.EqAt A s u1 u2 (Av d e):=by
 intro n;induction n with
 |zero =>
  intro A d e v w u1 u2 hd a6 ah hu h1 h2 r1 r2;have ao:A.units<cLine:=by omega
  cases h1 with
  |Dq _ _|HV _ _|GC _ _|ins _ _ _=>simp[AG] at a6
  |Ay =>
   cases r1;cases h2 with
   |Dq _ _|HV _ _|GC _ _|ins _ _ _=>simp[AG] at ah
   |Ay=>cases r2;simp only[Av];exact .same _
   |bl b=>cases r2;simp only[Av];exact .none_bool _
   |int b=>obtain⟨t,rfl⟩:=r2;simp only[Av];exact .none_int _ _
   |str b=>obtain⟨t,rfl⟩:=r2;simp only[Av];exact .none_str _ _
   |tup h r=>cases r2;simp only[Av];obtain⟨_,_,p,_⟩:=I.tuple (.of h);exact .none_tuple p ao
   |lst h r=>cases r2;simp only[Av];obtain⟨_,_,p,_⟩:=I.list h;exact .none_list p.isList ao
  |bl a =>
   cases r1;cases h2 with
   |Dq _ _|HV _ _|GC _ _|ins _ _ _=>simp[AG] at ah
   |Ay=>cases r2;simp only[Av];exact .bool_none _
   |bl b=>cases r2;simp only[Av];exact .bool_bool _ _
   |int b=>obtain⟨t,rfl⟩:=r2;simp only[Av];exact .bool_int _ _ _
   |str b=>obtain⟨t,rfl⟩:=r2;simp only[Av];exact .bool_str _ _ _
   |tup h r=>cases r2;simp only[Av];obtain⟨_,_,p,_⟩:=I.tuple (.of h);exact .bool_tuple _ p ao
   |lst h r=>cases r2;simp only[Av];obtain⟨_,_,p,_⟩:=I.list h;exact .bool_list _ p.isList ao
  |int a =>
   obtain⟨t',rfl⟩:=r1;cases h2 with
   |Dq _ _|HV _ _|GC _ _|ins _ _ _=>simp[AG] at ah
   |Ay=>cases r2;simp only[Av];exact .int_none _ _
   |bl b=>cases r2;simp only[Av];exact .int_bool _ _ _
   |int b=>obtain⟨t,rfl⟩:=r2;simp only[Av];exact .int_int _ _ _ _
   |str b=>obtain⟨t,rfl⟩:=r2;simp only[Av];exact .int_str _ _ _ _
   |tup h r=>cases r2;simp only[Av];obtain⟨_,_,p,_⟩:=I.tuple (.of h);exact .int_tuple _ _ p ao
   |lst h r=>cases r2;simp only[Av];obtain⟨_,_,p,_⟩:=I.list h;exact .int_list _ _ p.isList ao
  |str a =>
   obtain⟨t',rfl⟩:=r1;cases h2 with
   |Dq _ _|HV _ _|GC _ _|ins _ _ _=>simp[AG] at ah
   |Ay=>cases r2;simp only[Av];exact .str_none _ _
   |bl b=>cases r2;simp only[Av];exact .str_bool _ _ _
   |int b=>obtain⟨t,rfl⟩:=r2;simp only[Av];exact .str_int _ _ _ _
   |str b=>obtain⟨t,rfl⟩:=r2;simp only[Av];exact .str_str _ _ _ _
   |tup h r=>cases r2;simp only[Av];obtain⟨_,_,p,_⟩:=I.tuple (.of h);exact .str_tuple _ _ p ao
   |lst h r=>cases r2;simp only[Av];obtain⟨_,_,p,_⟩:=I.list h;exact .str_list _ _ p.isList ao
  |tup h r|lst h r=>rw[J2] at hd;omega
 |succ n ih =>
  intro A d e v w u1 u2 hd a6 ah hu h1 h2 r1 r2;have ao:A.units<cLine:=by omega
  have sW:A.in1.units+n<cLine:=by show A.units+1+n<cLine;omega
  by_cases ja:J2 d<=n
  ·exact ih A d e v w u1 u2 ja a6 ah (by omega) h1 h2 r1 r2
  cases h1 with
  |Dq _ _|HV _ _|GC _ _|ins _ _ _=>simp[AG] at a6
  |Ay|bl _|int _|str _=>exact absurd (by simp[J2]) ja
  | @tup a xs ds h r =>
   cases r1;obtain⟨aa,rv,p,_⟩:=I.tuple (.of h);cases h2 with
   |Dq _ _|HV _ _|GC _ _|ins _ _ _=>simp[AG] at ah
   |Ay=>cases r2;simp only[Av];exact .tuple_none p ao
   |bl b=>cases r2;simp only[Av];exact .tuple_bool _ p ao
   |int b=>obtain⟨t,rfl⟩:=r2;simp only[Av];exact .tuple_int _ _ p ao
   |str b=>obtain⟨t,rfl⟩:=r2;simp only[Av];exact .tuple_str _ _ p ao
   | @lst a2 bT es h' r'=>cases r2;simp only[Av];obtain⟨_,_,p',_⟩:=I.list h';exact .tuple_list p p'.isList ao
   | @tup a2 bT es h' r' =>
    cases r2;by_cases ha:a=a2
    ·subst ha;have e':=I.Hl (.of h) (.of h');subst e';have e2:=GD I (by rw[AG] at a6;exact a6) (by rw[AG] at ah;exact ah) r r';subst e2;rw[Jd];exact .same _
    ·obtain⟨its',bo,p',_⟩:=I.tuple (.of h');refine .of_refs ha ?_;have q:=SeqAt.RcAt.tuples (A:=A) (e:=λ j=>Av (ds.getD j .Ay) (es.getD j .Ay)) p p' ao λ j h1 h2=>?_
     ·have z1:aa.toArray.size=ds.length:=by rw[zj,<-rv.length,r.length]
      have z2:its'.toArray.size=es.length:=by rw[zj,<-bo.length,r'.length]
      rw[z1,z2,LQ] at q;simp only[Av];exact q
     ·obtain⟨x,hx,rx⟩:=W7 rv j h1;obtain⟨y,hy,ry⟩:=W7 bo j h2;obtain⟨dx,ex,cn⟩:=r.JZ hx;obtain⟨dy,ey,cp⟩:=r'.JZ hy;rw[C3 ex,C3 ey];refine ih A.in1 dx dy x y _ _ ?_ (BR (zr ex) (by rw[AG] at a6;exact a6)) (BR (zr ey) (by rw[AG] at ah;exact ah)) sW cn cp rx ry;rw[J2] at hd;have:=FQ (zr ex);omega
  | @lst a xs ds h r =>
   cases r1;obtain⟨aa,rv,p,_⟩:=I.list h;cases h2 with
   |Dq _ _|HV _ _|GC _ _|ins _ _ _=>simp[AG] at ah
   |Ay=>cases r2;simp only[Av];exact .list_none p.isList ao
   |bl b=>cases r2;simp only[Av];exact .list_bool _ p.isList ao
   |int b=>obtain⟨t,rfl⟩:=r2;simp only[Av];exact .list_int _ _ p.isList ao
   |str b=>obtain⟨t,rfl⟩:=r2;simp only[Av];exact .list_str _ _ p.isList ao
   | @tup a2 bT es h' r'=>cases r2;simp only[Av];obtain⟨_,_,p',_⟩:=I.tuple (.of h');exact .list_tuple p.isList p' ao
   | @lst a2 bT es h' r' =>
    cases r2;by_cases ha:a=a2
    ·subst ha;have e':=I.J7 h h';subst e';have e2:=GD I (by rw[AG] at a6;exact a6) (by rw[AG] at ah;exact ah) r r';subst e2;rw[Jd];exact .same _
    ·obtain⟨its',bo,p',_⟩:=I.list h';refine .of_refs ha ?_;have z1:aa.toArray.size=ds.length:=by rw[zj,<-rv.length,r.length]
     have z2:its'.toArray.size=es.length:=by rw[zj,<-bo.length,r'.length]
     by_cases hz:aa.toArray.size=its'.toArray.size
     ·have q:=SeqAt.RcAt.lists (A:=A) (e:=λ j=>Av (ds.getD j .Ay) (es.getD j .Ay)) p.isList p'.isList hz ao λ j h1 h2=>?_
      ·rw[z1,Ee ds es (by rw[<-z1,<-z2,hz])] at q;simp only[Av];exact q
      ·obtain⟨x,hx,rx⟩:=W7 rv j h1;obtain⟨y,hy,ry⟩:=W7 bo j h2;obtain⟨dx,ex,cn⟩:=r.JZ hx;obtain⟨dy,ey,cp⟩:=r'.JZ hy;rw[C3 ex,C3 ey];refine ih A.in1 dx dy x y _ _ ?_ (BR (zr ex) (by rw[AG] at a6;exact a6)) (BR (zr ey) (by rw[AG] at ah;exact ah)) sW cn cp rx ry;rw[J2] at hd;have:=FQ (zr ex);omega
     ·have q:=SeqAt.RcAt.lists_lengths (A:=A) p.isList p'.isList (by simpa using hz) ao;simp only[Av];rw[Li (by rw[<-z1,<-z2];exact hz)];exact q
theorem qV (I:Inv X pins σ H s)(A:Around)(d e:D)(v w:V)(u1 u2:Value)(hd:A.units+J2 d<cLine)(a6:AG d=true)(ah:AG e=true)(h1:Bw X.K H v d)(h2:Bw X.K H w e)(r1:RelV v u1)(r2:RelV w u2):SeqAt.RcAt A s u1 u2 (Av d e):=by
 have ao:A.units<cLine:=by omega
 cases h1 with
 |Dq _ _|HV _ _|GC _ _|ins _ _ _=>simp[AG] at a6
 |Ay =>
  cases r1;cases h2 with
  |Dq _ _|HV _ _|GC _ _|ins _ _ _=>simp[AG] at ah
  |Ay=>cases r2;simp only[Av];exact .none_none
  |bl b=>cases r2;simp only[Av];exact .none_bool _
  |int b=>obtain⟨t,rfl⟩:=r2;simp only[Av];exact .none_int _ _
  |str b=>obtain⟨t,rfl⟩:=r2;simp only[Av];exact .none_str _ _
  |tup h r=>cases r2;simp only[Av];obtain⟨_,_,p,_⟩:=I.tuple (.of h);exact .none_tuple  p ao
  |lst h r=>cases r2;simp only[Av];obtain⟨_,_,p,_⟩:=I.list h;exact .none_list  p.isList ao
 |bl a =>
  cases r1;cases h2 with
  |Dq _ _|HV _ _|GC _ _|ins _ _ _=>simp[AG] at ah
  |Ay=>cases r2;simp only[Av];exact .bool_none _
  |bl b=>cases r2;simp only[Av];exact .bool_bool _ _
  |int b=>obtain⟨t,rfl⟩:=r2;simp only[Av];exact .bool_int _ _ _
  |str b=>obtain⟨t,rfl⟩:=r2;simp only[Av];exact .bool_str _ _ _
  |tup h r=>cases r2;simp only[Av];obtain⟨_,_,p,_⟩:=I.tuple (.of h);exact .bool_tuple _ p ao
  |lst h r=>cases r2;simp only[Av];obtain⟨_,_,p,_⟩:=I.list h;exact .bool_list _ p.isList ao
 |int a =>
  obtain⟨t',rfl⟩:=r1;cases h2 with
  |Dq _ _|HV _ _|GC _ _|ins _ _ _=>simp[AG] at ah
  |Ay=>cases r2;simp only[Av];exact .int_none _ _
  |bl b=>cases r2;simp only[Av];exact .int_bool _ _ _
  |int b=>obtain⟨t,rfl⟩:=r2;simp only[Av];exact .int_int _ _ _ _
  |str b=>obtain⟨t,rfl⟩:=r2;simp only[Av];exact .int_str _ _ _ _
  |tup h r=>cases r2;simp only[Av];obtain⟨_,_,p,_⟩:=I.tuple (.of h);exact .int_tuple _ _ p ao
  |lst h r=>cases r2;simp only[Av];obtain⟨_,_,p,_⟩:=I.list h;exact .int_list _ _ p.isList ao
 |str a =>
  obtain⟨t',rfl⟩:=r1;cases h2 with
  |Dq _ _|HV _ _|GC _ _|ins _ _ _=>simp[AG] at ah
  |Ay=>cases r2;simp only[Av];exact .str_none _ _
  |bl b=>cases r2;simp only[Av];exact .str_bool _ _ _
  |int b=>obtain⟨t,rfl⟩:=r2;simp only[Av];exact .str_int _ _ _ _
  |str b=>obtain⟨t,rfl⟩:=r2;simp only[Av];exact .str_str _ _ _ _
  |tup h r=>cases r2;simp only[Av];obtain⟨_,_,p,_⟩:=I.tuple (.of h);exact .str_tuple _ _ p ao
  |lst h r=>cases r2;simp only[Av];obtain⟨_,_,p,_⟩:=I.list h;exact .str_list _ _ p.isList ao
 | @tup a xs ds h r =>
  cases r1;obtain⟨aa,rv,p,_⟩:=I.tuple (.of h);cases h2 with
  |Dq _ _|HV _ _|GC _ _|ins _ _ _=>simp[AG] at ah
  |Ay=>cases r2;simp only[Av];exact .tuple_none  p ao
  |bl b=>cases r2;simp only[Av];exact .tuple_bool _ p ao
  |int b=>obtain⟨t,rfl⟩:=r2;simp only[Av];exact .tuple_int _ _ p ao
  |str b=>obtain⟨t,rfl⟩:=r2;simp only[Av];exact .tuple_str _ _ p ao
  | @lst a2 bT es h' r'=>cases r2;simp only[Av];obtain⟨_,_,p',_⟩:=I.list h';exact .tuple_list p p'.isList ao
  | @tup a2 bT es h' r' =>
   cases r2;obtain⟨its',bo,p',_⟩:=I.tuple (.of h');have z1:aa.toArray.size=ds.length:=by rw[zj,<-rv.length,r.length]
   have z2:its'.toArray.size=es.length:=by rw[zj,<-bo.length,r'.length]
   have q:=SeqAt.RcAt.tuples (A:=A) (e:=λ j=>Av (ds.getD j .Ay) (es.getD j .Ay)) p p' ao λ j h1 h2=>?_
   ·rw[z1,z2,LQ] at q;simp only[Av];exact q
   ·obtain⟨x,hx,rx⟩:=W7 rv j h1;obtain⟨y,hy,ry⟩:=W7 bo j h2;obtain⟨dx,ex,cn⟩:=r.JZ hx;obtain⟨dy,ey,cp⟩:=r'.JZ hy;rw[C3 ex,C3 ey];rw[J2] at hd;have:=FQ (zr ex);exact OU I (L7 ds) A.in1 dx dy x y _ _ this (BR (zr ex) (by rw[AG] at a6;exact a6)) (BR (zr ey) (by rw[AG] at ah;exact ah)) (by show A.units+1+_<cLine;omega) cn cp rx ry
 | @lst a xs ds h r =>
  cases r1;obtain⟨aa,rv,p,_⟩:=I.list h;cases h2 with
  |Dq _ _|HV _ _|GC _ _|ins _ _ _=>simp[AG] at ah
  |Ay=>cases r2;simp only[Av];exact .list_none  p.isList ao
  |bl b=>cases r2;simp only[Av];exact .list_bool _ p.isList ao
  |int b=>obtain⟨t,rfl⟩:=r2;simp only[Av];exact .list_int _ _ p.isList ao
  |str b=>obtain⟨t,rfl⟩:=r2;simp only[Av];exact .list_str _ _ p.isList ao
  | @tup a2 bT es h' r'=>cases r2;simp only[Av];obtain⟨_,_,p',_⟩:=I.tuple (.of h');exact .list_tuple p.isList p' ao
  | @lst a2 bT es h' r' =>
   cases r2;obtain⟨its',bo,p',_⟩:=I.list h';have z1:aa.toArray.size=ds.length:=by rw[zj,<-rv.length,r.length]
   have z2:its'.toArray.size=es.length:=by rw[zj,<-bo.length,r'.length]
   by_cases hz:aa.toArray.size=its'.toArray.size
   ·have q:=SeqAt.RcAt.lists (A:=A) (e:=λ j=>Av (ds.getD j .Ay) (es.getD j .Ay)) p.isList p'.isList hz ao λ j h1 h2=>?_
    ·rw[z1,Ee ds es (by rw[<-z1,<-z2,hz])] at q;simp only[Av];exact q
    ·obtain⟨x,hx,rx⟩:=W7 rv j h1;obtain⟨y,hy,ry⟩:=W7 bo j h2;obtain⟨dx,ex,cn⟩:=r.JZ hx;obtain⟨dy,ey,cp⟩:=r'.JZ hy;rw[C3 ex,C3 ey];rw[J2] at hd;have:=FQ (zr ex);exact OU I (L7 ds) A.in1 dx dy x y _ _ this (BR (zr ex) (by rw[AG] at a6;exact a6)) (BR (zr ey) (by rw[AG] at ah;exact ah)) (by show A.units+1+_<cLine;omega) cn cp rx ry
   ·have q:=SeqAt.RcAt.lists_lengths (A:=A) p.isList p'.isList (by simpa using hz) ao;simp only[Av];rw[Li (by rw[<-z1,<-z2];exact hz)];exact q
theorem mP (I:Inv X pins σ H s)(A:Around)(d e:D)(v w:V)(u1 u2:Value)(hd:A.units+J2 d<cLine)(a6:AG d=true)(ah:AG e=true)(h1:Bw X.K H v d)(h2:Bw X.K H w e)(r1:RelV v u1)(r2:RelV w u2):SeqAt.RcNeAt A s u1 u2 (!Av d e):=by
 have ao:A.units<cLine:=by omega
 cases h1 with
 |Dq _ _|HV _ _|GC _ _|ins _ _ _=>simp[AG] at a6
 |Ay =>
  cases r1;cases h2 with
  |Dq _ _|HV _ _|GC _ _|ins _ _ _=>simp[AG] at ah
  |Ay=>cases r2;simp only[Av];exact .none_none
  |bl b=>cases r2;simp only[Av];exact .none_bool _
  |int b=>obtain⟨t,rfl⟩:=r2;simp only[Av];exact .none_int _ _
  |str b=>obtain⟨t,rfl⟩:=r2;simp only[Av];exact .none_str _ _
  |tup h r=>cases r2;simp only[Av];obtain⟨_,_,p,_⟩:=I.tuple (.of h);exact .none_tuple  p ao
  |lst h r=>cases r2;simp only[Av];obtain⟨_,_,p,_⟩:=I.list h;exact .none_list  p.isList ao
 |bl a =>
  cases r1;cases h2 with
  |Dq _ _|HV _ _|GC _ _|ins _ _ _=>simp[AG] at ah
  |Ay=>cases r2;simp only[Av];exact .bool_none _
  |bl b=>cases r2;simp only[Av];exact .bool_bool _ _
  |int b=>obtain⟨t,rfl⟩:=r2;simp only[Av];exact .bool_int _ _ _
  |str b=>obtain⟨t,rfl⟩:=r2;simp only[Av];exact .bool_str _ _ _
  |tup h r=>cases r2;simp only[Av];obtain⟨_,_,p,_⟩:=I.tuple (.of h);exact .bool_tuple _ p ao
  |lst h r=>cases r2;simp only[Av];obtain⟨_,_,p,_⟩:=I.list h;exact .bool_list _ p.isList ao
 |int a =>
  obtain⟨t',rfl⟩:=r1;cases h2 with
  |Dq _ _|HV _ _|GC _ _|ins _ _ _=>simp[AG] at ah
  |Ay=>cases r2;simp only[Av];exact .int_none _ _
  |bl b=>cases r2;simp only[Av];exact .int_bool _ _ _
  |int b=>obtain⟨t,rfl⟩:=r2;simp only[Av];exact .int_int _ _ _ _
  |str b=>obtain⟨t,rfl⟩:=r2;simp only[Av];exact .int_str _ _ _ _
  |tup h r=>cases r2;simp only[Av];obtain⟨_,_,p,_⟩:=I.tuple (.of h);exact .int_tuple _ _ p ao
  |lst h r=>cases r2;simp only[Av];obtain⟨_,_,p,_⟩:=I.list h;exact .int_list _ _ p.isList ao
 |str a =>
  obtain⟨t',rfl⟩:=r1;cases h2 with
  |Dq _ _|HV _ _|GC _ _|ins _ _ _=>simp[AG] at ah
  |Ay=>cases r2;simp only[Av];exact .str_none _ _
  |bl b=>cases r2;simp only[Av];exact .str_bool _ _ _
  |int b=>obtain⟨t,rfl⟩:=r2;simp only[Av];exact .str_int _ _ _ _
  |str b=>obtain⟨t,rfl⟩:=r2;simp only[Av];exact .str_str _ _ _ _
  |tup h r=>cases r2;simp only[Av];obtain⟨_,_,p,_⟩:=I.tuple (.of h);exact .str_tuple _ _ p ao
  |lst h r=>cases r2;simp only[Av];obtain⟨_,_,p,_⟩:=I.list h;exact .str_list _ _ p.isList ao
 | @tup a xs ds h r =>
  cases r1;obtain⟨aa,rv,p,_⟩:=I.tuple (.of h);cases h2 with
  |Dq _ _|HV _ _|GC _ _|ins _ _ _=>simp[AG] at ah
  |Ay=>cases r2;simp only[Av];exact .tuple_none  p ao
  |bl b=>cases r2;simp only[Av];exact .tuple_bool _ p ao
  |int b=>obtain⟨t,rfl⟩:=r2;simp only[Av];exact .tuple_int _ _ p ao
  |str b=>obtain⟨t,rfl⟩:=r2;simp only[Av];exact .tuple_str _ _ p ao
  | @lst a2 bT es h' r'=>cases r2;simp only[Av];obtain⟨_,_,p',_⟩:=I.list h';exact .tuple_list p p'.isList ao
  | @tup a2 bT es h' r' =>
   cases r2;obtain⟨its',bo,p',_⟩:=I.tuple (.of h');have z1:aa.toArray.size=ds.length:=by rw[zj,<-rv.length,r.length]
   have z2:its'.toArray.size=es.length:=by rw[zj,<-bo.length,r'.length]
   have q:=SeqAt.RcNeAt.tuples (A:=A) (e:=λ j=>Av (ds.getD j .Ay) (es.getD j .Ay)) p p' ao λ j h1 h2=>?_
   ·rw[z1,z2,LQ] at q;simp only[Av];exact q
   ·obtain⟨x,hx,rx⟩:=W7 rv j h1;obtain⟨y,hy,ry⟩:=W7 bo j h2;obtain⟨dx,ex,cn⟩:=r.JZ hx;obtain⟨dy,ey,cp⟩:=r'.JZ hy;rw[C3 ex,C3 ey];rw[J2] at hd;have:=FQ (zr ex);exact OU I (L7 ds) A.in1 dx dy x y _ _ this (BR (zr ex) (by rw[AG] at a6;exact a6)) (BR (zr ey) (by rw[AG] at ah;exact ah)) (by show A.units+1+_<cLine;omega) cn cp rx ry
 | @lst a xs ds h r =>
  cases r1;obtain⟨aa,rv,p,_⟩:=I.list h;cases h2 with
  |Dq _ _|HV _ _|GC _ _|ins _ _ _=>simp[AG] at ah
  |Ay=>cases r2;simp only[Av];exact .list_none  p.isList ao
  |bl b=>cases r2;simp only[Av];exact .list_bool _ p.isList ao
  |int b=>obtain⟨t,rfl⟩:=r2;simp only[Av];exact .list_int _ _ p.isList ao
  |str b=>obtain⟨t,rfl⟩:=r2;simp only[Av];exact .list_str _ _ p.isList ao
  | @tup a2 bT es h' r'=>cases r2;simp only[Av];obtain⟨_,_,p',_⟩:=I.tuple (.of h');exact .list_tuple p.isList p' ao
  | @lst a2 bT es h' r' =>
   cases r2;obtain⟨its',bo,p',_⟩:=I.list h';have z1:aa.toArray.size=ds.length:=by rw[zj,<-rv.length,r.length]
   have z2:its'.toArray.size=es.length:=by rw[zj,<-bo.length,r'.length]
   by_cases hz:aa.toArray.size=its'.toArray.size
   ·have q:=SeqAt.RcNeAt.lists (A:=A) (e:=λ j=>Av (ds.getD j .Ay) (es.getD j .Ay)) p.isList p'.isList hz ao λ j h1 h2=>?_
    ·rw[z1,Ee ds es (by rw[<-z1,<-z2,hz])] at q;simp only[Av];exact q
    ·obtain⟨x,hx,rx⟩:=W7 rv j h1;obtain⟨y,hy,ry⟩:=W7 bo j h2;obtain⟨dx,ex,cn⟩:=r.JZ hx;obtain⟨dy,ey,cp⟩:=r'.JZ hy;rw[C3 ex,C3 ey];rw[J2] at hd;have:=FQ (zr ex);exact OU I (L7 ds) A.in1 dx dy x y _ _ this (BR (zr ex) (by rw[AG] at a6;exact a6)) (BR (zr ey) (by rw[AG] at ah;exact ah)) (by show A.units+1+_<cLine;omega) cn cp rx ry
   ·have q:=SeqAt.RcNeAt.lists_lengths (A:=A) p.isList p'.isList (by simpa using hz) ao;simp only[Av];rw[Li (by rw[<-z1,<-z2];exact hz)];exact q
noncomputable def Zk (K:za)(A:Around)(neg:Bool):R2:=λ x y H Q=>∃d e,Bw K H x d/\Bw K H y e/\A.units+J2 d<cLine/\AG d=true/\AG e=true/\Q (.bl (if neg=true then !Av d e else Av d e)) H
theorem WR:Hm X (compareOp .Eq) (Zk X.K X.A false):=by
 intro pins s σ H x y v u Q I rx ry h;obtain⟨d,e,hd,he,hu,n1,n2,q⟩:=h;exact qV I X.A d e x y v u hu n1 n2 hd he rx ry X.prog X.w X.xe _ ⟨.bl _,H,I,rfl,q⟩
theorem gU:Hm X (compareOp .NotEq) (Zk X.K X.A true):=by
 intro pins s σ H x y v u Q I rx ry h;obtain⟨d,e,hd,he,hu,n1,n2,q⟩:=h;exact mP I X.A d e x y v u hu n1 n2 hd he rx ry X.prog X.w X.xe _ ⟨.bl _,H,I,rfl,q⟩
end
inductive OT where
 |sh (d:D)|lst (ts:List OT)|tup (ts:List OT)|B8 (t:Bool) (ks:List D) (ts:List OT)|ins (x:Str) (ns:List Str) (ts:List OT)
inductive Ow where
 |rows (FR:List (List D))
 |HW (p:Nat) (ds:List D)
 |tree (p:Option Nat) (t:OT)
inductive Cl where
 |val (d:D)|own (ds:List D)|ow (o:Ow)
noncomputable abbrev Aa:=List (Option Cl)
inductive M (α:Type) where
 |ok (a:α)|ex (c:Str)|bad
noncomputable def M.bind {α β:Type}(m:M α)(k:α->M β):M β:=match m with
 | .ok a=>k a
 | .ex c=>.ex c
 | .bad=>.bad
@[simp] theorem M.A6 {α β:Type}(a:α) (k:α->M β):(M.ok a).bind k=k a:=rfl
noncomputable def del (H:Hp)(P:Addr->Prop):Hp:=λ a=>open Classical in if P a then none else H a
theorem Aq {H:Hp}{P:Addr->Prop}{a:Addr}(h:¬ P a):del H P a=H a:=by unfold del;rw[if_neg h]
theorem Ef {H:Hp}{P:Addr->Prop}{a:Addr}(h:P a):del H P a=none:=by unfold del;rw[if_pos h]
theorem Aj {H:Hp}{P:Addr->Prop}{a:Addr}{o:HO}(h:del H P a=some o):¬ P a/\H a=some o:=by
 by_cases hp:P a
 ·rw[Ef hp] at h;cases h
 ·rw[Aq hp] at h;exact⟨hp,h⟩
theorem Rd.Bj {H:Hp}{P:Addr->Prop}{a:Addr}{u:HO}(r:Rd (del H P) a u):Rd H a u:=r.elim (λ h=>.inl (Aj h).2) λ⟨o,h⟩=>.inr ⟨o,(Aj h).2⟩
theorem Ad.del {H H':Hp}{P:Addr->Prop}(e:Ad H H'):Ad (del H P) (del H' P):=λ b o h=>by
 obtain⟨h1,h2⟩:=Aj h;rw[Aq h1];exact e b o h2
theorem Cp {H:Hp}{P P':Addr->Prop}(h:∀a,P' a->P a):Ad (L2.del H P) (L2.del H P'):=λ b o e=>by
 obtain⟨h1,h2⟩:=Aj e;rw[Aq λ z=>h1 (h b z)];exact h2
theorem Eg {H:Hp}{P:Addr->Prop}:Ad (L2.del H P) H:=λ b o e=>(Aj e).2
def EH (H:Hp)(a:Addr):Prop:=∃o,H a=some o/\∀xs,o≠.tup xs/\∀z,o≠.FJ z (.tup xs)
theorem EH.same {H H':Hp}{a:Addr}(h:EH H a)(e:Ad H H'):EH H' a:=let ⟨o,q,r⟩:=h;⟨o,e a o q,r⟩
theorem EH.no {H:Hp}{a:Addr}(h:EH H a)(e:H a=none):False:=by
 obtain⟨o,q,r⟩:=h;rw[e] at q;cases q
theorem EH.lst {H:Hp}{a:Addr}{xs:List V}(h:H a=some (.lst xs)):EH H a:=⟨_,h,λ _=>⟨λ z=>(by cases z),λ _ z=>by cases z⟩⟩
mutual
inductive Bx (K:za) (H:Hp) (P:Addr->Prop):V->OT->List Addr->Prop
 |sh {v d}:Bw K (del H P) v d->Bx K H P v (.sh d) []
 |lst {p xs ts fp}:H p=some (.lst xs)->Au K H P xs ts fp->Bx K H P (.ref p) (.lst ts) (p::fp)
 |tup {p xs ts fp}:del H P p=some (.tup xs)->Au K H P xs ts fp->Bx K H P (.ref p) (.tup ts) fp
 |dK {p kvs ts fp}:H p=some (.dK kvs)->Au K H P (kvs.map yz) ts fp->Bx K H P (.ref p) (.B8 false (kvs.map λ kv=>Cn kv.1) ts) (p::fp)
 |dT {p kvs ts fp}:H p=some (.dT kvs)->Au K H P (kvs.map yz) ts fp->Bx K H P (.ref p) (.B8 true (kvs.map λ kv=>.tup (kv.1.map Cn)) ts) (p::fp)
 |ins {p C dx fs ts fp x}:zd K mainGlobals x=some (some (.ref C))->H p=some (.ins C dx fs)->Au K H P (fs.map yz) ts fp->Bx K H P (.ref p) (.ins x (fs.map zS) ts) (p::fp)
inductive Au (K:za) (H:Hp) (P:Addr->Prop):List V->List OT->List Addr->Prop
 |nil:Au K H P [] [] []
 |cons {v t fp vs ts fq}:Bx K H P v t fp->Au K H P vs ts fq->Au K H P (v::vs) (t::ts) (fp++fq)
end
mutual
noncomputable def er:OT->D
 | .sh d=>d
 | .lst ts=>.lst (I9 ts)
 | .tup ts=>.tup (I9 ts)
 | .B8 t ks ts=>.B8 t ks (I9 ts)
 | .ins x ns ts=>.ins x ns (I9 ts)
noncomputable def I9:List OT->List D
 |[]=>[]
 |t::r=>er t::I9 r
end
mutual
theorem Bx.move {K:za}{H H':Hp}{P P':Addr->Prop}(sm:Ad (del H P) (del H' P')):∀ {v:V}{t:OT}{fp:List Addr},(∀a∈fp,H' a=H a)->Bx K H P v t fp->Bx K H' P' v t fp
 |_,_,_,_,.sh h=>.sh (h.mono sm)
 |_,_,_,k,.lst h r=>.lst ((k _ zc).trans h) (Au.move sm (λ a ha=>k a (zf _ ha)) r)
 |_,_,_,k,.tup h r=>.tup (sm _ _ h) (Au.move sm k r)
 |_,_,_,k,.dK h r=>.dK ((k _ zc).trans h) (Au.move sm (λ a ha=>k a (zf _ ha)) r)
 |_,_,_,k,.dT h r=>.dT ((k _ zc).trans h) (Au.move sm (λ a ha=>k a (zf _ ha)) r)
 |_,_,_,k,.ins n h r=>.ins n ((k _ zc).trans h) (Au.move sm (λ a ha=>k a (zf _ ha)) r)
theorem Au.move {K:za}{H H':Hp}{P P':Addr->Prop}(sm:Ad (del H P) (del H' P')):∀ {v:List V}{t:List OT}{fp:List Addr},(∀a∈fp,H' a=H a)->Au K H P v t fp->Au K H' P' v t fp
 |_,_,_,_,.nil=>.nil
 |_,_,_,k,.cons h r=>.cons (Bx.move sm (λ a ha=>k a (zO _ ha)) h) (Au.move sm (λ a ha=>k a (zm _ ha)) r)
end
mutual
theorem Bx.BG {K:za}{H:Hp}{P:Addr->Prop}:∀ {v:V}{t:OT}{fp:List Addr},Bx K H P v t fp->∀a∈fp,EH H a
 |_,_,_,.sh h,a,ha=>by cases ha
 |_,_,_,.lst h r,a,ha=>by
  rcases zq.mp ha with rfl|ha
  ·exact .lst h
  ·exact Au.BG r a ha
 |_,_,_,.tup h r,a,ha=>Au.BG r a ha
 |_,_,_,.dK h r,a,ha=>by
  rcases zq.mp ha with rfl|ha
  ·exact⟨_,h,λ _=>⟨λ z=>(by cases z),λ _ z=>by cases z⟩⟩
  ·exact Au.BG r a ha
 |_,_,_,.dT h r,a,ha=>by
  rcases zq.mp ha with rfl|ha
  ·exact⟨_,h,λ _=>⟨λ z=>(by cases z),λ _ z=>by cases z⟩⟩
  ·exact Au.BG r a ha
 |_,_,_,.ins n h r,a,ha=>by
  rcases zq.mp ha with rfl|ha
  ·exact⟨_,h,λ _=>⟨λ z=>(by cases z),λ _ z=>by cases z⟩⟩
  ·exact Au.BG r a ha
theorem Au.BG {K:za}{H:Hp}{P:Addr->Prop}:∀ {v:List V}{t:List OT}{fp:List Addr},Au K H P v t fp->∀a∈fp,EH H a
 |_,_,_,.nil,a,ha=>by cases ha
 |_,_,_,.cons h r,a,ha=>by
  rcases zL.mp ha with ha|ha
  ·exact Bx.BG h a ha
  ·exact Au.BG r a ha
end
mutual
theorem Bx.BS {K:za}{H:Hp}{P P':Addr->Prop}:∀ {v:V}{t:OT}{fp ak:List Addr},Bx K H P v t fp->Bx K H P' v t ak->fp=ak
 |_,_,_,_,.sh _,.sh _=>rfl
 |_,_,_,_,.lst h r,.lst h' r'=>by
  rw[h] at h';cases h';rw[Au.BS r r']
 |_,_,_,_,.tup h r,.tup h' r'=>by
  have e:=(Aj h).2.symm.trans (Aj h').2;cases e;exact Au.BS r r'
 |_,_,_,_,.dK (kvs:=kvs) (ts:=ts) h r,x=>by
  generalize ht:OT.B8 false (kvs.map λ kv=>Cn kv.1) ts=t at x;cases x with
  |dK h' r' =>
   rw[h] at h';cases h';injection ht with _ _ e
   subst e;rw[Au.BS r r']
  |dT h' r'=>rw[h] at h';cases h'
  |_=>cases ht
 |_,_,_,_,.dT (kvs:=kvs) (ts:=ts) h r,x=>by
  generalize ht:OT.B8 true (kvs.map λ kv=>D.tup (kv.1.map Cn)) ts=t at x;cases x with
  |dT h' r' =>
   rw[h] at h';cases h';injection ht with _ _ e
   subst e;rw[Au.BS r r']
  |dK h' r'=>rw[h] at h';cases h'
  |_=>cases ht
 |_,_,_,_,.ins (fs:=fs) (ts:=ts) (x:=y) n h r,x=>by
  generalize ht:OT.ins y (fs.map zS) ts=t at x;cases x with
  |ins n' h' r' =>
   rw[h] at h';cases h';injection ht with _ _ e
   subst e;rw[Au.BS r r']
  |_=>cases ht
theorem Au.BS {K:za}{H:Hp}{P P':Addr->Prop}:∀ {v:List V}{t:List OT}{fp ak:List Addr},Au K H P v t fp->Au K H P' v t ak->fp=ak
 |_,_,_,_,.nil,.nil=>rfl
 |_,_,_,_,.cons h r,.cons h' r'=>by rw[Bx.BS h h',Au.BS r r']
end
mutual
theorem Bx.has {K:za}{H:Hp}{P P0:Addr->Prop}(hs:∀a,P0 a->P a):∀ {v:V}{t:OT}{fp:List Addr},(∀a∈fp,¬ P0 a)->Bx K H P v t fp->Bw K (del H P0) v (er t)
 |_,_,_,_,.sh h=>by rw[er];exact h.mono (Cp hs)
 |_,_,_,k,.lst h r=>by rw[er];exact .lst (.of (show del H P0 _=_ by rw[Aq (k _ zc)];exact h)) (Au.has hs (λ a ha=>k a (zf _ ha)) r)
 |_,_,_,k,.tup h r=>by rw[er];exact .tup (Cp hs _ _ h) (Au.has hs k r)
 |_,_,_,k,.dK h r=>by rw[er];exact .HV (.inl (show del H P0 _=_ by rw[Aq (k _ zc)];exact h)) (Au.has hs (λ a ha=>k a (zf _ ha)) r)
 |_,_,_,k,.dT h r=>by rw[er];exact .GC (.inl (show del H P0 _=_ by rw[Aq (k _ zc)];exact h)) (Au.has hs (λ a ha=>k a (zf _ ha)) r)
 |_,_,_,k,.ins n h r=>by rw[er];exact .ins n (show del H P0 _=_ by rw[Aq (k _ zc)];exact h) (Au.has hs (λ a ha=>k a (zf _ ha)) r)
theorem Au.has {K:za}{H:Hp}{P P0:Addr->Prop}(hs:∀a,P0 a->P a):∀ {v:List V}{t:List OT}{fp:List Addr},(∀a∈fp,¬ P0 a)->Au K H P v t fp->Ag K (del H P0) v (I9 t)
 |_,_,_,_,.nil=>by rw[I9];exact .nil
 |_,_,_,k,.cons h r=>by rw[I9];exact .cons (Bx.has hs (λ a ha=>k a (zO _ ha)) h) (Au.has hs (λ a ha=>k a (zm _ ha)) r)
end
inductive Cq (K:za) (H:Hp) (P:Addr->Prop):List Addr->List (List D)->Prop
 |nil:Cq K H P [] []
 |cons {q:Addr} {xs:List V} {ds:List D} {ps:List Addr} {FR:List (List D)}:H q=some (.lst xs)->Ag K (del H P) xs ds->Cq K H P ps FR->Cq K H P (q::ps) (ds::FR)
def Ck (K:za)(H:Hp)(P:Addr->Prop):Cl->V->List Addr->Prop
 | .own ds,v,fp=>∃p xs,v=.ref p/\fp=[p]/\H p=some (.lst xs)/\Ag K (del H P) xs ds
 | .ow (.rows FR),v,fp=>∃p ps,v=.ref p/\fp=p::ps/\H p=some (.lst (ps.map V.ref))/\Cq K H P ps FR
 | .ow (.HW _ ds),v,fp=>∃p xs,v=.ref p/\fp=[p]/\H p=some (.lst xs)/\Ag K (del H P) xs ds
 | .ow (.tree _ t),v,fp=>Bx K H P v t fp
 | .val _,_,_=>False
noncomputable def Gx:Cl->Bool
 | .val _=>false
 |_=>true
theorem Cq.move {K:za}{H H':Hp}{P P':Addr->Prop}(sm:Ad (del H P) (del H' P')):∀ {ps:List Addr}{FR:List (List D)},(∀a∈ps,H' a=H a)->Cq K H P ps FR->Cq K H' P' ps FR
 |_,_,_,.nil=>.nil
 |_,_,k,.cons h r t=>.cons ((k _ zc).trans h) (r.mono sm) (Cq.move sm (λ a ha=>k a (zf _ ha)) t)
theorem Cq.at {K:za}{H:Hp}{P:Addr->Prop}:∀ {ps:List Addr}{FR:List (List D)},Cq K H P ps FR->∀a∈ps,∃xs,H a=some (.lst xs)
 |_,_,.nil,a,h=>by cases h
 |_,_,.cons h r t,a,ha=>by
  rcases zq.mp ha with rfl|ha
  ·exact⟨_,h⟩
  ·exact t.at a ha
theorem Qj:∀ {ps qs:List Addr},ps.map V.ref=qs.map V.ref->ps=qs
 |[],[],_=>rfl
 |[],_::_,h|_::_,[],h=>by cases h
 |p::ps,q::qs,h=>by
  rw[zh,zh] at h;injection h with h1 h2
  injection h1 with h1
  rw[h1,Qj h2]
theorem Ck.move {K:za}{H H':Hp}{P P':Addr->Prop}(sm:Ad (del H P) (del H' P')){c:Cl}{v:V}{fp:List Addr}(k:∀a∈fp,H' a=H a)(h:Ck K H P c v fp):Ck K H' P' c v fp:=by
 cases c with
 |val d=>exact h
 |own ds =>
  obtain⟨p,xs,rfl,rfl,h1,h2⟩:=h;exact⟨p,xs,rfl,rfl,(k p zc).trans h1,h2.mono sm⟩
 |ow o =>
  cases o with
  |rows FR =>
   obtain⟨p,ps,rfl,rfl,h1,h2⟩:=h;exact⟨p,ps,rfl,rfl,(k p zc).trans h1,h2.move sm λ a ha=>k a (zf _ ha)⟩
  |HW p ds =>
   obtain⟨p,xs,rfl,rfl,h1,h2⟩:=h;exact⟨p,xs,rfl,rfl,(k p zc).trans h1,h2.mono sm⟩
  |tree p t=>exact Bx.move sm k h
theorem Ck.at {K:za}{H:Hp}{P:Addr->Prop}{c:Cl}{v:V}{fp:List Addr}(h:Ck K H P c v fp):∀a∈fp,∃o,H a=some o:=by
 cases c with
 |val d=>exact h.elim
 |own ds =>
  obtain⟨p,xs,rfl,rfl,h1,h2⟩:=h;exact λ a ha=>⟨.lst xs,by rw[zu.mp ha];exact h1⟩
 |ow o =>
  cases o with
  |rows FR =>
   obtain⟨p,ps,rfl,rfl,h1,h2⟩:=h;intro a ha;rcases zq.mp ha with rfl|ha
   ·exact⟨_,h1⟩
   ·obtain⟨xs,q⟩:=h2.at a ha;exact⟨_,q⟩
  |HW p ds =>
   obtain⟨p,xs,rfl,rfl,h1,h2⟩:=h;exact λ a ha=>⟨.lst xs,by rw[zu.mp ha];exact h1⟩
  |tree p t =>
   intro a ha;obtain⟨o,q,_⟩:=Bx.BG h a ha;exact⟨o,q⟩
theorem Ck.same {K:za}{H H':Hp}{P:Addr->Prop}(e:Ad H H'){c:Cl}{v:V}{fp:List Addr}(h:Ck K H P c v fp):Ck K H' P c v fp:=
 h.move e.del λ a ha=>by obtain⟨xs,q⟩:=h.at a ha;rw[q];exact e _ _ q
theorem Ck.BS {K:za}{H:Hp}{P P':Addr->Prop}{c:Cl}{v:V}{fp ak:List Addr}(h:Ck K H P c v fp)(h':Ck K H P' c v ak):fp=ak:=by
 cases c with
 |val d=>exact h.elim
 |own ds =>
  obtain⟨p,xs,rfl,rfl,h1,h2⟩:=h;obtain⟨p',dv,e,rfl,dw,ib⟩:=h';cases e;rfl
 |ow o =>
  cases o with
  |rows FR =>
   obtain⟨p,ps,rfl,rfl,h1,h2⟩:=h;obtain⟨p',u7,e,rfl,dw,ib⟩:=h';cases e;rw[h1] at dw;injection dw with e
   injection e with e
   rw[Qj e]
  |HW p ds =>
   obtain⟨p,xs,rfl,rfl,h1,h2⟩:=h;obtain⟨p',dv,e,rfl,dw,ib⟩:=h';cases e;rfl
  |tree p t=>exact Bx.BS h h'
structure Df where
 pr:Addr->Prop
 g:Nat->Addr
instance:CoeFun Df (λ _=>Addr->Prop):=⟨Df.pr⟩
instance:Coe Df (Addr->Prop):=⟨Df.pr⟩
noncomputable def Ia:Cl->Option Nat
 | .ow (.HW n _)=>some n
 | .ow (.tree (some n) _)=>some n
 |_=>none
structure Ai (K:za)(P0:Df)(P:Addr->Prop)(H:Hp)(σ:St)(ρ:Aa):Prop where
 sub:∀a,P0 a->P a
 BG:∀a,P a->EH H a
 val:∀(i:Nat) d,ρ[i]?=some (some (.val d))->∃v,σ[i]?=some (some v)/\Bw K (del H P) v d
 ows:∀(i:Nat) c,ρ[i]?=some (some c)->Gx c=true->∃v fp,σ[i]?=some (some v)/\Ck K H P c v fp/\(∀a∈fp,P a/\¬ P0 a)/\fp.Nodup
 apart:∀(i j:Nat) c c' v v' fp ak,ρ[i]?=some (some c)->ρ[j]?=some (some c')->σ[i]?=some (some v)->σ[j]?=some (some v')->Ck K H P c v fp->Ck K H P c' v' ak->i≠j->∀a∈fp,a∉ak
 len:σ.length=ρ.length
 pin:∀(i:Nat) c n,ρ[i]?=some (some c)->Ia c=some n->σ[i]?=some (some (.ref (P0.g n)))
theorem Ai.own {K:za}{P0:Df}{P:Addr->Prop}{H:Hp}{σ:St}{ρ:Aa}(E:Ai K P0 P H σ ρ)(i:Nat)(ds:List D)(h:ρ[i]?=some (some (.own ds))):
 ∃p xs,σ[i]?=some (some (.ref p))/\H p=some (.lst xs)/\P p/\¬ P0 p/\Ag K (del H P) xs ds:=by
 obtain⟨v,fp,h1,⟨p,xs,rfl,rfl,h2,h3⟩,h4,_⟩:=E.ows i _ h rfl;exact⟨p,xs,h1,h2,(h4 p zc).1,(h4 p zc).2,h3⟩
theorem Ai.WS {K:za}{P0:Df}{P P':Addr->Prop}{H H':Hp}{σ:St}{ρ:Aa}(E:Ai K P0 P H σ ρ)(sm:Ad (del H P) (del H' P')){i j:Nat}{c c':Cl}{v v':V}{fp ak:List Addr}
 (ki:∀v fp,σ[i]?=some (some v)->Ck K H P c v fp->∀a∈fp,H' a=H a) (kj:∀v fp,σ[j]?=some (some v)->Ck K H P c' v fp->∀a∈fp,H' a=H a)
 (hi:ρ[i]?=some (some c)) (hj:ρ[j]?=some (some c')) (si:σ[i]?=some (some v)) (sj:σ[j]?=some (some v')) (h:Ck K H' P' c v fp) (h':Ck K H' P' c' v' ak) (ae:i≠j):∀a∈fp,a∉ak:=by
 have key:∀(k:Nat) (d:Cl) (w:V) (fq:List Addr),ρ[k]?=some (some d)->σ[k]?=some (some w)->(∀v fp,σ[k]?=some (some v)->Ck K H P d v fp->∀a∈fp,H' a=H a)->Ck K H' P' d w fq->Ck K H P d w fq:=λ k d w fq hk sk kk ho=>by
  have io:Gx d=true:=by cases d<;>first|rfl|exact ho.elim
  obtain⟨w',bU,s2,o2,_⟩:=E.ows k d hk io;rw[sk] at s2;cases s2;have o3:=o2.move sm (kk _ _ sk o2);rw[ho.BS o3];exact o2
 exact E.apart i j c c' v v' fp ak hi hj si sj (key i c v fp hi si ki h) (key j c' v' ak hj sj kj h') ae
theorem Ai.same {K:za}{P0:Df}{P:Addr->Prop}{H H':Hp}{σ:St}{ρ:Aa}(E:Ai K P0 P H σ ρ)(e:Ad H H'):Ai K P0 P H' σ ρ:=
 ⟨E.sub,λ a h=>(E.BG a h).same e,λ i d h=>let ⟨v,h1,h2⟩:=E.val i d h;⟨v,h1,h2.mono e.del⟩,
  λ i c h io=>let ⟨v,fp,h1,h2,h3,h4⟩:=E.ows i c h io;⟨v,fp,h1,h2.same e,h3,h4⟩,
  λ i j c c' v v' fp ak hi hj si sj h h' ae=>E.WS e.del (λ v fp _ o a ha=>by obtain⟨xs,q⟩:=o.at a ha;rw[q];exact e _ _ q) (λ v fp _ o a ha=>by obtain⟨xs,q⟩:=o.at a ha;rw[q];exact e _ _ q) hi hj si sj h h' ae,E.len,E.pin⟩
def gV (K:za)(WX:Str->Hp->Prop)(P:Addr->Prop)(H:Hp)(Q:VK):M D->Prop
 | .ok d=>∀v H',Ad H H'->Bw K (del H' P) v d->Q v H'
 | .ex x=>∀H',Ad H H'->WX x H'
 | .bad=>False
def gA (K:za)(WX:Str->Hp->Prop)(P:Addr->Prop)(H:Hp)(Q:List V->Hp->Prop):M (List D)->Prop
 | .ok d=>∀v H',Ad H H'->Ag K (del H' P) v d->Q v H'
 | .ex x=>∀H',Ad H H'->WX x H'
 | .bad=>False
def gT (WX:Str->Hp->Prop)(H:Hp)(Q:Bool->Hp->Prop):M Bool->Prop
 | .ok b=>∀H',Ad H H'->Q b H'
 | .ex x=>∀H',Ad H H'->WX x H'
 | .bad=>False
section
variable {K:za}{WX:Str->Hp->Prop}{P:Addr->Prop}{H H':Hp}
theorem gV.same {Q:VK}{m:M D}(h:gV K WX P H Q m)(e:Ad H H'):gV K WX P H' Q m:=by
 cases m with
 |ok d=>exact λ v H2 q hv=>h v H2 (e.trans q) hv
 |ex x=>exact λ H2 q=>h H2 (e.trans q)
 |bad=>exact h
theorem gA.same {Q:List V->Hp->Prop}{m:M (List D)}(h:gA K WX P H Q m)(e:Ad H H'):gA K WX P H' Q m:=by
 cases m with
 |ok d=>exact λ v H2 q hv=>h v H2 (e.trans q) hv
 |ex x=>exact λ H2 q=>h H2 (e.trans q)
 |bad=>exact h
theorem gT.same {Q:Bool->Hp->Prop}{m:M Bool}(h:gT WX H Q m)(e:Ad H H'):gT WX H' Q m:=by
 cases m with
 |ok d|ex x=>exact λ H2 q=>h H2 (e.trans q)
 |bad=>exact h
end
def Lv (c:Bool)(P0:Df)(P:Addr->Prop):Addr->Prop:=if c=true then P else P0.pr
def DE (X:Cx)(WX:Str->Hp->Prop)(c:Bool)(e:Expr)(f:Aa->M D):Prop:=
 ∃t,PE X e t/\∀P0 P σ H Q ρ,Ai X.K P0 P H σ ρ->gV X.K WX (Lv c P0 P) H Q (f ρ)->t σ H Q
def DA (X:Cx)(WX:Str->Hp->Prop)(c:Bool)(es:List Expr)(f:Aa->M (List D)):Prop:=
 ∃t,PA X es t/\(∀P0 P σ H Q ρ,Ai X.K P0 P H σ ρ->gA X.K WX (Lv c P0 P) H Q (f ρ)->t σ H Q)/\∀ρ ds,f ρ=.ok ds->ds.length=es.length
def DT (X:Cx)(WX:Str->Hp->Prop)(e:Expr)(f:Aa->M Bool):Prop:=
 ∃t,PT X e t/\∀P0 P σ H Q ρ,Ai X.K P0 P H σ ρ->gT WX H Q (f ρ)->t σ H Q
def DW (X:Cx)(WX:Str->Hp->Prop)(e:Expr)(f:Aa->M Bool):Prop:=
 ∃t,PW X e t/\∀P0 P σ H Q ρ,Ai X.K P0 P H σ ρ->gT WX H Q (f ρ)->t σ H Q
theorem DW.dt {X:Cx}{WX:Str->Hp->Prop}{e:Expr}{f:Aa->M Bool}(h:DW X WX e f):DT X WX e f:=let ⟨t,h1,h2⟩:=h;⟨t,h1.pt,h2⟩
section
variable {X:Cx}{WX:Str->Hp->Prop}{c:Bool}{P0:Df}{P:Addr->Prop}{H:Hp}{σ:St}{ρ:Aa}
theorem Ai.lv (E:Ai X.K P0 P H σ ρ)(c:Bool):∀a,Lv c P0 P a->P a:=λ a h=>by
 cases c with
 |true=>exact h
 |false=>exact E.sub a h
theorem Ai.mQ (E:Ai X.K P0 P H σ ρ)(c:Bool):∀a,Lv c P0 P a->EH H a:=λ a h=>E.BG a (E.lv c a h)
theorem OV {e:Expr}{f:Aa->M D}(h:DE X WX true e f):DE X WX false e f:=by
 obtain⟨t,h1,h2⟩:=h;refine⟨t,h1,λ P0 P σ H Q ρ E g=>h2 P0 P σ H Q ρ E ?_⟩;cases e:f ρ with
 |ok d=>rw[e] at g;exact λ v H' s hv=>g v H' s (hv.mono (Cp E.sub))
 |ex x|bad=>rw[e] at g;exact g
noncomputable def mR:D->Bool
 | .tup _ | .lst _ | .Dq _ | .B8 _ _ _ | .ins _ _ _=>false
 |_=>true
noncomputable def fl (m:M D):M D:=m.bind λ d=>if mR d=true then .ok d else .bad
noncomputable def rv (i:Nat)(ρ:Aa):M D:=match ρ[i]? with | some (some (.val d))=>.ok d | _=>.bad
noncomputable def ra (i:Nat)(ρ:Aa):M D:=match ρ[i]? with | some (some (.val d))=>.ok d | some (some (.own ds))=>.ok (.lst ds) | some (some (.ow (.rows FR)))=>.ok (.lst (FR.map D.lst)) | some (some (.ow (.HW _ ds)))=>.ok (.lst ds) | some (some (.ow (.tree _ t)))=>.ok (er t) | _=>.bad
theorem A1 (i:Nat){x:Str}{pos:Pos}(h:PE X (.Name x pos) (OJ i)):DE X WX true (.Name x pos) (rv i):=by
 refine⟨_,h,λ P0 P σ H Q ρ E g=>?_⟩;unfold rv at g;split at g
 ·rename_i d e;obtain⟨v,h1,h2⟩:=E.val i d e;exact⟨v,h1,g v H (Ad.refl H) h2⟩
 ·exact g.elim
theorem A7 {i j pos}:DE X WX c (.Constant (.int i) j pos) (λ _=>.ok (.int i)):=⟨_,fB,λ P0 P σ H Q ρ E g=>g _ H (Ad.refl H) (.int i)⟩
theorem BY {b j pos}:DE X WX c (.Constant (.bool b) j pos) (λ _=>.ok (.bl b)):=⟨_,lD,λ P0 P σ H Q ρ E g=>g _ H (Ad.refl H) (.bl b)⟩
theorem GF {j pos}:DE X WX c (.Constant .none j pos) (λ _=>.ok .Ay):=⟨_,fC,λ P0 P σ H Q ρ E g=>g _ H (Ad.refl H) .Ay⟩
theorem S0 {x j pos}:DE X WX c (.Constant (.str x) j pos) (λ _=>.ok (.str x)):=⟨_,fD,λ P0 P σ H Q ρ E g=>g _ H (Ad.refl H) (.str x)⟩
def Tv (K:za)(WX:Str->Hp->Prop)(r:R2)(b8:D->D->M D):Prop:=
 ∀(P:Addr->Prop) (H:Hp) (x y:D) (v w:V) (Q:VK),(∀a,P a->EH H a)->Bw K (del H P) v x->Bw K (del H P) w y->gV K WX P H Q (b8 x y)->r v w H Q
variable {a b:Expr}{f g:Aa->M D}{pos:Pos}
theorem Qk {ta tb:TE}{r:R2}{b8:D->D->M D}(ha:∀P0 P σ H Q ρ,Ai X.K P0 P H σ ρ->gV X.K WX (Lv c P0 P) H Q (f ρ)->ta σ H Q)(hb:∀P0 P σ H Q ρ,Ai X.K P0 P H σ ρ->gV X.K WX (Lv c P0 P) H Q (g ρ)->tb σ H Q)
 (hr:Tv X.K WX r b8) {Q:VK} (E:Ai X.K P0 P H σ ρ) (h:gV X.K WX (Lv c P0 P) H Q ((f ρ).bind λ x=>(g ρ).bind λ y=>b8 x y)):lS r ta tb σ H Q:=by
 refine ha P0 P σ H _ ρ E ?_;cases e:f ρ with
 |bad|ex x=>rw[e] at h;exact h
 |ok x =>
  rw[e] at h;intro v H1 s1 hv;refine hb P0 P σ H1 _ ρ (E.same s1) ?_;cases e2:g ρ with
  |bad=>rw[e2] at h;exact h
  |ex y=>rw[e2] at h;exact gV.same (m:=.ex y) h s1
  |ok y =>
   rw[e2] at h;intro w H2 s2 hw;exact hr _ H2 x y v w Q (λ a q=>((E.same s1).same s2).mQ c a q) (hv.mono s2.del) hw ((gV.same h s1).same s2)
theorem NL {op:Operator}{r:R2}{b8:D->D->M D}(ho:Hm X (binaryOp op) r)(hr:Tv X.K WX r b8)(ha:DE X WX c a f)(hb:DE X WX c b g):DE X WX c (.BinOp a op b pos) (λ ρ=>(f ρ).bind λ x=>(g ρ).bind λ y=>b8 x y):=by
 obtain⟨ta,a1,a2⟩:=ha;obtain⟨tb,b1,b2⟩:=hb;exact⟨_,dO ho a1 b1,λ P0 P σ H Q ρ E h=>Qk a2 b2 hr E h⟩
theorem WT {op:CmpOp}{r:R2}{b8:D->D->M D}(ho:Hm X (compareOp op) r)(hr:Tv X.K WX r b8)(ha:DE X WX c a f)(hb:DE X WX c b g)(hm:behindInMarks op b=false):DE X WX c (.Compare a [op] [b] pos) (λ ρ=>(f ρ).bind λ x=>(g ρ).bind λ y=>b8 x y):=by
 obtain⟨ta,a1,a2⟩:=ha;obtain⟨tb,b1,b2⟩:=hb;exact⟨_,YW ho a1 b1 hm,λ P0 P σ H Q ρ E h=>Qk a2 b2 hr E h⟩
theorem mS {r:R2}{b8:D->D->M D}(ho:Z4 X r)(hr:Tv X.K WX r b8)(ha:DE X WX c a f)(hb:DE X WX c b g)(hs:Lh b):DE X WX c (.Subscript a b pos) (λ ρ=>(f ρ).bind λ x=>(g ρ).bind λ y=>b8 x y):=by
 obtain⟨ta,a1,a2⟩:=ha;obtain⟨tb,b1,b2⟩:=hb;exact⟨_,dQ ho a1 b1 hs,λ P0 P σ H Q ρ E h=>Qk a2 b2 hr E h⟩
noncomputable def Bg (k:Int->Int->M D)(x y:D):M D:=match x,y with | .int i,.int j=>k i j | _,_=>.bad
theorem Bw.int_inv {K:za}{H:Hp}{v:V}{i:Int}(h:Bw K H v (.int i)):v=.int i:=by cases h;rfl
theorem Bw.LR {K:za}{H:Hp}{v:V}{i:Bool}(h:Bw K H v (.bl i)):v=.bl i:=by cases h;rfl
theorem OW {C:Int->Int->Prop}{gv:Int->Int->V}{gd:Int->Int->D}[∀i j,Decidable (C i j)](hg:∀i j K H,Bw K H (gv i j) (gd i j)):Tv X.K WX (rI C gv) (Bg λ i j=>if C i j then .ok (gd i j) else .bad):=by
 intro P H x y v w Q ht hx hy h;unfold Bg at h;split at h
 ·rename_i i j;rw[hx.int_inv,hy.int_inv];dsimp only at h;by_cases hc:C i j
  ·rw[if_pos hc] at h;exact⟨i,j,rfl,rfl,hc,h _ H (Ad.refl H) (hg i j _ _)⟩
  ·rw[if_neg hc] at h;exact h.elim
 ·exact h.elim
theorem OX {gv:Int->Int->V}{gd:Int->Int->D}(hg:∀i j K H,Bw K H (gv i j) (gd i j)):Tv X.K WX (YF gv) (Bg λ i j=>.ok (gd i j)):=by
 intro P H x y v w Q ht hx hy h;unfold Bg at h;split at h
 ·rename_i i j;rw[hx.int_inv,hy.int_inv];exact⟨i,j,rfl,rfl,h _ H (Ad.refl H) (hg i j _ _)⟩
 ·exact h.elim
instance (i j:Int):Decidable (OK i j):=by unfold OK;infer_instance
instance (i j:Int):Decidable (YU i j):=by unfold YU;infer_instance
instance (i j:Int):Decidable (Ws i j):=by unfold Ws;infer_instance
noncomputable def WU:=Bg λ i j=>.ok (.int (i+j))
noncomputable def gW:=Bg λ i j=>.ok (.int (i-j))
noncomputable def GG:=Bg λ i j=>if 0<j then .ok (.int (i%j)) else .bad
noncomputable def LS:=Bg λ i j=>if OK i j then .ok (.int (i / j)) else .bad
noncomputable def Ql:=Bg λ i j=>if YU i j then .ok (.int (i^j.toNat)) else .bad
noncomputable def uH:=Bg λ i j=>.ok (.bl (decide (i<j)))
noncomputable def uI:=Bg λ i j=>.ok (.bl (decide (i<=j)))
noncomputable def sX:=Bg λ i j=>.ok (.bl (decide (j<i)))
noncomputable def uJ:=Bg λ i j=>.ok (.bl (decide (j<=i)))
theorem CO (ha:DE X WX c a f)(hb:DE X WX c b g):DE X WX c (.BinOp a .Add b pos) (λ ρ=>(f ρ).bind λ x=>(g ρ).bind λ y=>WU x y):=NL fQ (OX λ _ _ _ _=>.int _) ha hb
theorem gY (ha:DE X WX c a f)(hb:DE X WX c b g):DE X WX c (.BinOp a .Sub b pos) (λ ρ=>(f ρ).bind λ x=>(g ρ).bind λ y=>gW x y):=NL fR (OX λ _ _ _ _=>.int _) ha hb
theorem BA (ha:DE X WX c a f)(hb:DE X WX c b g):DE X WX c (.BinOp a .Mod b pos) (λ ρ=>(f ρ).bind λ x=>(g ρ).bind λ y=>GG x y):=NL fS (OW λ _ _ _ _=>.int _) ha hb
theorem Je (ha:DE X WX c a f)(hb:DE X WX c b g):DE X WX c (.BinOp a .FloorDiv b pos) (λ ρ=>(f ρ).bind λ x=>(g ρ).bind λ y=>LS x y):=NL YV (OW λ _ _ _ _=>.int _) ha hb
theorem OY (ha:DE X WX c a f)(hb:DE X WX c b g):DE X WX c (.BinOp a .Pow b pos) (λ ρ=>(f ρ).bind λ x=>(g ρ).bind λ y=>Ql x y):=NL fT (OW λ _ _ _ _=>.int _) ha hb
noncomputable def Zl (n:Nat)(x y:D):M D:=if J2 x<=n/\AG x=true/\AG y=true then .ok (.bl (Av x y)) else .bad
noncomputable def WV (n:Nat)(x y:D):M D:=if J2 x<=n/\AG x=true/\AG y=true then .ok (.bl (!Av x y)) else .bad
theorem WW {n:Nat}(hu:X.A.units+n<cLine):Tv X.K WX (Zk X.K X.A false) (Zl n):=by
 intro P H x y v w Q ht hx hy h;unfold Zl at h;by_cases hd:J2 x<=n/\AG x=true/\AG y=true
 ·rw[if_pos hd] at h;exact⟨x,y,hx.mono Eg,hy.mono Eg,by omega,hd.2.1,hd.2.2,h _ H (Ad.refl H) (.bl _)⟩
 ·rw[if_neg hd] at h;exact h.elim
theorem gZ {n:Nat}(hu:X.A.units+n<cLine):Tv X.K WX (Zk X.K X.A true) (WV n):=by
 intro P H x y v w Q ht hx hy h;unfold WV at h;by_cases hd:J2 x<=n/\AG x=true/\AG y=true
 ·rw[if_pos hd] at h;exact⟨x,y,hx.mono Eg,hy.mono Eg,by omega,hd.2.1,hd.2.2,h _ H (Ad.refl H) (.bl _)⟩
 ·rw[if_neg hd] at h;exact h.elim
theorem dU {n:Nat}(hu:X.A.units+n<cLine)(ha:DE X WX c a f)(hb:DE X WX c b g):DE X WX c (.Compare a [.Eq] [b] pos) (λ ρ=>(f ρ).bind λ x=>(g ρ).bind λ y=>Zl n x y):=WT WR (WW hu) ha hb (JS _)
noncomputable def Cr:D->Bool
 | .Ay=>true
 |_=>false
theorem Bw.qW {K:za}{H:Hp}{v:V}{d:D}(h:Bw K H v d):decide (v=.Ay)=Cr d:=by
 cases h<;>simp[Cr]
theorem hE {j pos'}(ha:DE X WX c a f):DE X WX c (.Compare a [.Is] [.Constant .none j pos'] pos) (λ ρ=>(f ρ).bind λ x=>.ok (.bl (Cr x))):=by
 obtain⟨ta,a1,a2⟩:=ha;refine⟨_,fE (Wg a1),λ P0 P σ H Q ρ E h=>?_⟩;dsimp only at h;refine a2 P0 P σ H _ ρ E ?_;cases e:f ρ with
 |bad|ex x=>rw[e] at h;exact h
 |ok x=>rw[e] at h;exact λ v H1 s1 hv=>h _ H1 s1 (by rw[hv.qW];exact .bl _)
noncomputable def kJ (x y:D):M D:=match x,y with
 | .tup ds,.int i| .lst ds,.int i=>(match Rz ds i with|some d=>.ok d|none=>.bad)
 |_,_=>.bad
theorem Ag.Rz {K:za}{H:Hp}{xs:List V}{ds:List D}{i:Int}{d:D}(h:Ag K H xs ds)(e:L2.Rz ds i=some d):∃v,L2.Rz xs i=some v/\Bw K H v d:=by
 unfold L2.Rz at e ⊢;rw[<-h.length] at e;cases q:RQ xs.length i with
 |none=>rw[q] at e;cases e
 |some j =>
  rw[q] at e;exact h.get e
theorem Dt.Bj {K:za}{H:Hp}{P:Addr->Prop}{a:Addr}{xs:List V}(h:Dt K (del H P) a xs):Dt K H a xs:=Eg.seq h
theorem Gk.Bj {K:za}{H:Hp}{P:Addr->Prop}{a:Addr}{xs:List V}(h:Gk K (del H P) a xs):Gk K H a xs:=Eg.qU h
theorem GH:Tv X.K WX (λ x y H Q=>gE X.K x y H Q\/gF X.K x y H Q) kJ:=by
 intro P H x y v w Q ht hx hy h;unfold kJ at h;split at h
 ·rename_i ds i;split at h
  ·rename_i d e;cases hy;cases hx with
   |tup hs hl =>
    obtain⟨u,h1,h2⟩:=hl.Rz e;exact .inr ⟨_,_,i,u,rfl,rfl,Gk.of (Aj hs).2,h1,h _ H (Ad.refl H) h2⟩
  ·exact h.elim
 ·rename_i ds i;split at h
  ·rename_i d e;cases hy;cases hx with
   |lst hs hl =>
    obtain⟨u,h1,h2⟩:=hl.Rz e;exact .inl ⟨_,_,i,u,rfl,rfl,hs.Bj,h1,h _ H (Ad.refl H) h2⟩
  ·exact h.elim
 ·exact h.elim
theorem A9:DA X WX c [] (λ _=>.ok []):=⟨_,C4,λ P0 P σ H Q ρ E h=>h [] H (Ad.refl H) .nil,λ ρ ds h=>by cases h;rfl⟩
theorem A3 {e:Expr}{es:List Expr}{f:Aa->M D}{fs:Aa->M (List D)}(he:DE X WX c e f)(hr:DA X WX c es fs)(hs:starEach (e::es) X.env=(false,eval e X.env)::starEach es X.env:=by rfl):
 DA X WX c (e::es) (λ ρ=>(f ρ).bind λ d=>(fs ρ).bind λ ds=>.ok (d::ds)):=by
 obtain⟨te,e1,e2⟩:=he;obtain⟨tr,r1,r2,r3⟩:=hr;refine⟨_,Bc e1 r1 hs,λ P0 P σ H Q ρ E h=>?_,λ ρ ds h=>?_⟩
 rotate_left
 ·dsimp only at h;cases q:f ρ with
  |bad|ex x=>rw[q] at h;cases h
  |ok x =>
   rw[q] at h;cases q2:fs ρ with
   |bad|ex x=>rw[q2] at h;cases h
   |ok xs =>
    rw[q2] at h;cases h;rw[zp,zp,r3 ρ xs q2]
 dsimp only at h;refine e2 P0 P σ H _ ρ E ?_;cases q:f ρ with
 |bad|ex x=>rw[q] at h;exact h
 |ok x =>
  rw[q] at h;intro v H1 s1 hv;refine r2 P0 P σ H1 _ ρ (E.same s1) ?_;cases q2:fs ρ with
  |bad=>rw[q2] at h;exact h
  |ex y=>rw[q2] at h;exact gA.same (m:=.ex y) h s1
  |ok ds =>
   rw[q2] at h;exact λ vs H2 s2 aE=>h _ H2 (s1.trans s2) (.cons (hv.mono s2.del) aE)
theorem Jf {H:Hp}{P:Addr->Prop}{p:Addr}{o:HO}(hn:H p=none)(ht:∀a,P a->EH H a):del (upd H p o) P p=some o:=by
 rw[Aq λ z=>(ht p z).no hn];exact Al
theorem AR {es:List Expr}{fs:Aa->M (List D)}{x1}(ha:DA X WX c es fs)(hz:es.length<=1000:=by decide):DE X WX c (.Tuple es x1 pos) (λ ρ=>(fs ρ).bind λ ds=>if ds.length<=1000 then .ok (.tup ds) else .bad):=by
 obtain⟨ta,a1,a2,a3⟩:=ha;refine⟨_,Ww a1,λ P0 P σ H Q ρ E h=>?_⟩;dsimp only at h;refine a2 P0 P σ H _ ρ E ?_;cases q:fs ρ with
 |bad|ex y=>rw[q] at h;exact h
 |ok ds =>
  rw[q] at h;simp only[M.A6] at h;by_cases hd:ds.length<=1000
  ·rw[if_pos hd] at h;intro vs H1 s1 aE;refine⟨yd (AA (by rw[aE.length];exact hd)),λ p hp=>h _ _ (s1.trans (AK hp _)) (.tup (Jf hp λ a q=>(E.same s1).mQ c a q) (aE.mono (AK hp _).del))⟩
  ·rw[if_neg hd] at h;exact h.elim
theorem OZ {es:List Expr}{fs:Aa->M (List D)}(ha:DA X WX c es fs):DE X WX c (.List es pos) (λ ρ=>(fs ρ).bind λ ds=>if ds.length<=1000 then .ok (.lst ds) else .bad):=by
 obtain⟨ta,a1,a2,a3⟩:=ha;refine⟨_,RM a1,λ P0 P σ H Q ρ E h=>?_⟩;dsimp only at h;refine a2 P0 P σ H _ ρ E ?_;cases q:fs ρ with
 |bad|ex y=>rw[q] at h;exact h
 |ok ds =>
  rw[q] at h;simp only[M.A6] at h;by_cases hd:ds.length<=1000
  ·rw[if_pos hd] at h;intro vs H1 s1 aE;refine⟨yd (AA (by rw[aE.length];exact hd)),λ p hp=>h _ _ (s1.trans (AK hp _)) (.lst (.of (Jf hp λ a q=>(E.same s1).mQ c a q)) (aE.mono (AK hp _).del))⟩
  ·rw[if_neg hd] at h;exact h.elim
end
noncomputable def Ni (d:D):M Bool:=match d with | .bl b=>.ok b | _=>.bad
section
variable {X:Cx}{WX:Str->Hp->Prop}{c:Bool}{P0:Df}{P:Addr->Prop}{H:Hp}{σ:St}{ρ:Aa}{a b e:Expr}{f g:Aa->M D}{ft gt:Aa->M Bool}{pos:Pos}
theorem mU {WX:Str->Hp->Prop}{P:Addr->Prop}{K:za}{H:Hp}{Q:Bool->Hp->Prop}{m:M D}(h:gT WX H Q (m.bind Ni)):gV K WX P H (λ x H'=>∃k,x=.bl k/\Q k H') m:=by
 cases m with
 |bad|ex x=>exact h
 |ok d =>
  intro v H' s hv;simp only[M.A6] at h;unfold Ni at h;split at h
  ·rename_i b;exact⟨b,hv.LR,h H' s⟩
  ·exact h.elim
theorem Hq {op:CmpOp}{r:R2}{b8:D->D->M D}(ho:Hm X (compareOp op) r)(hr:Tv X.K WX r b8)(ha:DE X WX c a f)(hb:DE X WX c b g)(hm:behindInMarks op b=false):DT X WX (.Compare a [op] [b] pos) (λ ρ=>((f ρ).bind λ x=>(g ρ).bind λ y=>b8 x y).bind Ni):=by
 obtain⟨ta,a1,a2⟩:=ha;obtain⟨tb,b1,b2⟩:=hb;exact⟨_,YX ho a1 b1 hm,λ P0 P σ H Q ρ E h=>Qk a2 b2 hr E (mU h)⟩
theorem dW (ha:DE X WX c a f)(hb:DE X WX c b g):DT X WX (.Compare a [.Gt] [b] pos) (λ ρ=>((f ρ).bind λ x=>(g ρ).bind λ y=>sX x y).bind Ni):=Hq lX (OX λ _ _ _ _=>.bl _) ha hb (JS _)
theorem NM {n:Nat}(hu:X.A.units+n<cLine)(ha:DE X WX c a f)(hb:DE X WX c b g):DT X WX (.Compare a [.Eq] [b] pos) (λ ρ=>((f ρ).bind λ x=>(g ρ).bind λ y=>Zl n x y).bind Ni):=Hq WR (WW hu) ha hb (JS _)
theorem EJ {n:Nat}(hu:X.A.units+n<cLine)(ha:DE X WX c a f)(hb:DE X WX c b g):DT X WX (.Compare a [.NotEq] [b] pos) (λ ρ=>((f ρ).bind λ x=>(g ρ).bind λ y=>WV n x y).bind Ni):=Hq gU (gZ hu) ha hb (JS _)
theorem P5 {j pos'}(ha:DE X WX c a f):DT X WX (.Compare a [.Is] [.Constant .none j pos'] pos) (λ ρ=>(f ρ).bind λ x=>.ok (Cr x)):=by
 obtain⟨ta,a1,a2⟩:=ha;refine⟨_,Wh (Wg a1),λ P0 P σ H Q ρ E h=>?_⟩;dsimp only at h;refine a2 P0 P σ H _ ρ E ?_;cases e:f ρ with
 |bad|ex x=>rw[e] at h;exact h
 |ok x=>rw[e] at h;exact λ v H1 s1 hv=>⟨_,rfl,by rw[hv.qW];exact h H1 s1⟩
theorem P6 {j pos'}(ha:DE X WX c a f):DT X WX (.Compare a [.IsNot] [.Constant .none j pos'] pos) (λ ρ=>(f ρ).bind λ x=>.ok (!Cr x)):=by
 obtain⟨ta,a1,a2⟩:=ha;refine⟨_,Wh (YO a1),λ P0 P σ H Q ρ E h=>?_⟩;dsimp only at h;refine a2 P0 P σ H _ ρ E ?_;cases e:f ρ with
 |bad|ex x=>rw[e] at h;exact h
 |ok x=>rw[e] at h;exact λ v H1 s1 hv=>⟨_,rfl,by rw[hv.qW];exact h H1 s1⟩
theorem BM (ha:DT X WX a ft):DT X WX (.UnaryOp .Not a pos) (λ ρ=>(ft ρ).bind λ b=>.ok (!b)):=by
 obtain⟨ta,a1,a2⟩:=ha;refine⟨_,fF a1,λ P0 P σ H Q ρ E h=>?_⟩;dsimp only at h;refine a2 P0 P σ H _ ρ E ?_;cases e:ft ρ with
 |bad|ex x=>rw[e] at h;exact h
 |ok x=>rw[e] at h;exact λ H1 s1=>h H1 s1
theorem Lj (ha:DT X WX a ft):DW X WX (.BoolOp .And [a] pos) ft:=let ⟨ta,a1,a2⟩:=ha;⟨_,pw_and1 a1,a2⟩
theorem Cs (ha:DT X WX a ft):DW X WX (.BoolOp .Or [a] pos) ft:=let ⟨ta,a1,a2⟩:=ha;⟨_,pw_or1 a1,a2⟩
theorem P7 {rest:List Expr}(ha:DT X WX a ft)(hb:DW X WX (.BoolOp .And (b::rest) pos) gt):DW X WX (.BoolOp .And (a::b::rest) pos) (λ ρ=>(ft ρ).bind λ k=>if k=true then gt ρ else .ok false):=by
 obtain⟨ta,a1,a2⟩:=ha;obtain⟨tb,b1,b2⟩:=hb;refine⟨_,pw_and a1 b1,λ P0 P σ H Q ρ E h=>?_⟩;dsimp only at h;refine a2 P0 P σ H _ ρ E ?_;cases e:ft ρ with
 |bad|ex x=>rw[e] at h;exact h
 |ok k =>
  rw[e] at h;intro H1 s1;cases k with
  |true =>
   simp only[M.A6,if_true] at h ⊢;exact b2 P0 P σ H1 _ ρ (E.same s1) (h.same s1)
  |false =>
   simp only[M.A6,zF,if_false] at h ⊢;exact h H1 s1
theorem Dr {rest:List Expr}(ha:DT X WX a ft)(hb:DW X WX (.BoolOp .Or (b::rest) pos) gt):DW X WX (.BoolOp .Or (a::b::rest) pos) (λ ρ=>(ft ρ).bind λ k=>if k=true then .ok true else gt ρ):=by
 obtain⟨ta,a1,a2⟩:=ha;obtain⟨tb,b1,b2⟩:=hb;refine⟨_,pw_or a1 b1,λ P0 P σ H Q ρ E h=>?_⟩;dsimp only at h;refine a2 P0 P σ H _ ρ E ?_;cases e:ft ρ with
 |bad|ex x=>rw[e] at h;exact h
 |ok k =>
  rw[e] at h;intro H1 s1;cases k with
  |true =>
   simp only[M.A6,if_true] at h ⊢;exact h H1 s1
  |false =>
   simp only[M.A6,zF,if_false] at h ⊢;exact b2 P0 P σ H1 _ ρ (E.same s1) (h.same s1)
theorem S1 {op}(ha:DE X WX c a f):DE X WX c (.BoolOp op [a] pos) f:=let ⟨ta,a1,a2⟩:=ha;⟨_,fG a1,a2⟩
theorem S2 {rest:List Expr}(ha:DE X WX c a f)(hb:DE X WX c (.BoolOp .And (b::rest) pos) g):DE X WX c (.BoolOp .And (a::b::rest) pos) (λ ρ=>((f ρ).bind Ni).bind λ k=>if k=true then g ρ else .ok (.bl false)):=by
 obtain⟨ta,a1,a2⟩:=ha;obtain⟨tb,b1,b2⟩:=hb;refine⟨_,fH a1 b1,λ P0 P σ H Q ρ E h=>?_⟩;dsimp only at h;refine a2 P0 P σ H _ ρ E ?_;cases e:f ρ with
 |bad|ex x=>rw[e] at h;exact h
 |ok d =>
  rw[e] at h;simp only[M.A6] at h;unfold Ni at h;split at h
  ·rename_i k;intro v H1 s1 hv;refine⟨k,hv.LR,?_⟩;cases k with
   |true =>
    simp only[M.A6,if_true] at h ⊢;exact b2 P0 P σ H1 _ ρ (E.same s1) (h.same s1)
   |false =>
    simp only[M.A6,zF,if_false] at h ⊢;exact h _ H1 s1 (.bl _)
  ·exact h.elim
theorem mV {rest:List Expr}(ha:DE X WX c a f)(hb:DE X WX c (.BoolOp .Or (b::rest) pos) g):DE X WX c (.BoolOp .Or (a::b::rest) pos) (λ ρ=>((f ρ).bind Ni).bind λ k=>if k=true then .ok (.bl true) else g ρ):=by
 obtain⟨ta,a1,a2⟩:=ha;obtain⟨tb,b1,b2⟩:=hb;refine⟨_,lH a1 b1,λ P0 P σ H Q ρ E h=>?_⟩;dsimp only at h;refine a2 P0 P σ H _ ρ E ?_;cases e:f ρ with
 |bad|ex x=>rw[e] at h;exact h
 |ok d =>
  rw[e] at h;simp only[M.A6] at h;unfold Ni at h;split at h
  ·rename_i k;intro v H1 s1 hv;refine⟨k,hv.LR,?_⟩;cases k with
   |true =>
    simp only[M.A6,if_true] at h ⊢;exact h _ H1 s1 (.bl _)
   |false =>
    simp only[M.A6,zF,if_false] at h ⊢;exact b2 P0 P σ H1 _ ρ (E.same s1) (h.same s1)
  ·exact h.elim
theorem hU (ha:DE X WX c a f):DE X WX c (.UnaryOp .Not a pos) (λ ρ=>((f ρ).bind Ni).bind λ k=>.ok (.bl (!k))):=by
 obtain⟨ta,a1,a2⟩:=ha;refine⟨_,fI a1,λ P0 P σ H Q ρ E h=>?_⟩;dsimp only at h;refine a2 P0 P σ H _ ρ E ?_;cases e:f ρ with
 |bad|ex x=>rw[e] at h;exact h
 |ok d =>
  rw[e] at h;simp only[M.A6] at h;unfold Ni at h;split at h
  ·rename_i k;exact λ v H1 s1 hv=>⟨k,hv.LR,h _ H1 s1 (.bl _)⟩
  ·exact h.elim
theorem qX (ha:DE X WX c a f):DE X WX c (.UnaryOp .USub a pos) (λ ρ=>(f ρ).bind λ d=>match d with | .int i=>.ok (.int (-i)) | _=>.bad):=by
 obtain⟨ta,a1,a2⟩:=ha;refine⟨_,lT fU a1,λ P0 P σ H Q ρ E h=>?_⟩;dsimp only at h;refine a2 P0 P σ H _ ρ E ?_;cases e:f ρ with
 |bad|ex x=>rw[e] at h;exact h
 |ok d =>
  rw[e] at h;simp only[M.A6] at h;split at h
  ·rename_i i;exact λ v H1 s1 hv=>⟨i,hv.int_inv,h _ H1 s1 (.int _)⟩
  ·exact h.elim
theorem UP {d:Expr}{h:Aa->M D}{op fc:CmpOp}{p q:Int->Int->Bool}(ho:Hm X (compareOp op) (YF λ i j=>.bl (p i j)))(bO:Hm X (compareOp fc) (YF λ i j=>.bl (q i j)))(ha:DE X WX c a f)(hb:DE X WX c b g)(hd:DE X WX c d h)
 (hm:lastMarks [op,fc] [b,d]=false:=by with_unfolding_all rfl):DE X WX c (.Compare a [op,fc] [b,d] pos) (λ ρ=>(f ρ).bind λ x=>(g ρ).bind λ y=>Bg (λ i j=>if p i j=true then (h ρ).bind λ z=>Bg (λ _ k=>.ok (.bl (q j k))) (.int 0) z else .ok (.bl false)) x y):=by
 obtain⟨ta,a1,a2⟩:=ha;obtain⟨tb,b1,b2⟩:=hb;obtain⟨td,d1,d2⟩:=hd;refine⟨_,Wt ho bO a1 b1 d1 hm,λ P0 P σ H Q ρ E hh=>?_⟩;dsimp only at hh;refine a2 P0 P σ H _ ρ E ?_;cases e:f ρ with
 |bad|ex x=>rw[e] at hh;exact hh
 |ok x =>
  rw[e] at hh;intro v H1 s1 hv;refine b2 P0 P σ H1 _ ρ (E.same s1) ?_;cases e2:g ρ with
  |bad=>rw[e2] at hh;exact hh
  |ex y=>rw[e2] at hh;exact gV.same (m:=.ex y) hh s1
  |ok y =>
   rw[e2] at hh;simp only[M.A6] at hh;unfold Bg at hh;split at hh
   ·rename_i i j;intro w H2 s2 hw;refine⟨i,j,hv.int_inv,hw.int_inv,p i j,rfl,?_⟩;dsimp only at hh;by_cases hp:p i j=true
    ·rw[if_pos hp] at hh ⊢;refine d2 P0 P σ H2 _ ρ ((E.same s1).same s2) ?_;cases e3:h ρ with
     |bad=>rw[e3] at hh;exact hh
     |ex z=>rw[e3] at hh;exact gV.same (gV.same (m:=.ex z) hh s1) s2
     |ok z =>
      rw[e3] at hh;simp only[M.A6] at hh;cases z with
      |int k=>exact λ u H3 s3 hu=>⟨j,k,hw.int_inv,hu.int_inv,hh _ H3 ((s1.trans s2).trans s3) (.bl _)⟩
      |_=>exact hh.elim
    ·rw[if_neg hp] at hh ⊢;exact hh _ H2 (s1.trans s2) (.bl _)
   ·exact hh.elim
def KJ (K:za)(WX:Str->Hp->Prop)(r:List V->Hp->VK->Prop)(dF:List D->M D):Prop:=
 ∀(P:Addr->Prop) (H:Hp) (ds:List D) (vs:List V) (Q:VK),(∀a,P a->EH H a)->Ag K (del H P) vs ds->gV K WX P H Q (dF ds)->r vs H Q
variable {x:Str}{p:Pos}{es:List Expr}{fs:Aa->M (List D)}{id T:String}{r:List V->Hp->VK->Prop}{dF:List D->M D}
theorem WY {ta:TA}(ha:∀P0 P σ H Q ρ,Ai X.K P0 P H σ ρ->gA X.K WX (Lv c P0 P) H Q (fs ρ)->ta σ H Q)(hr:KJ X.K WX r dF){Q:VK}(E:Ai X.K P0 P H σ ρ)(h:gV X.K WX (Lv c P0 P) H Q ((fs ρ).bind dF)):qJ r ta σ H Q:=by
 refine ha P0 P σ H _ ρ E ?_;cases e:fs ρ with
 |bad|ex x=>rw[e] at h;exact h
 |ok ds =>
  rw[e] at h;exact λ vs H1 s1 aE=>hr _ H1 ds vs Q (λ a q=>(E.same s1).mQ c a q) aE (h.same s1)
theorem Jg (hc:Gm X (.builtin id) r)(hr:KJ X.K WX r dF)(hg:Gl X x)(hm:X.mg x=none)(hv:bootBuiltins x=some (.builtin id))(ha:DA X WX c (e::es) fs)(hn:x ≠ "__name__" := by decide)(aJ:(x==("__debug__" : Str))=false:=by decide)
 (he:starEach (e::es) X.env=(false,eval e X.env)::starEach es X.env:=by rfl) (a5:(backTo pos (starEach es X.env)).any (·.1)=false:=by rfl):DE X WX c (.Call (.Name x p) (e::es) [] pos) (λ ρ=>(fs ρ).bind dF):=by
 obtain⟨ta,a1,a2,a3⟩:=ha;exact⟨_,Q6 hc hg hm hv a1 hn aJ he a5,λ P0 P σ H Q ρ E h=>WY a2 hr E h⟩
theorem UQ (hc:Gm X (.type T) r)(hr:KJ X.K WX r dF)(hg:Gl X x)(hm:X.mg x=none)(hv:bootBuiltins x=some (.type T))(ha:DA X WX c (e::es) fs)(hn:x ≠ "__name__" := by decide)(aJ:(x==("__debug__" : Str))=false:=by decide)
 (he:starEach (e::es) X.env=(false,eval e X.env)::starEach es X.env:=by rfl) (a5:(backTo pos (starEach es X.env)).any (·.1)=false:=by rfl):DE X WX c (.Call (.Name x p) (e::es) [] pos) (λ ρ=>(fs ρ).bind dF):=by
 obtain⟨ta,a1,a2,a3⟩:=ha;exact⟨_,JV hc hg hm hv a1 hn aJ he a5,λ P0 P σ H Q ρ E h=>WY a2 hr E h⟩
noncomputable def UR (ds:List D):M D:=match ds with
 |[.lst xs]|[.tup xs]=>.ok (.int xs.length)
 |_=>.bad
theorem Ag.one {K:za}{H:Hp}{vs:List V}{d:D}(h:Ag K H vs [d]):∃v,vs=[v]/\Bw K H v d:=by
 cases h with
 |cons h t=>cases t;exact⟨_,rfl,h⟩
theorem Ag.two {K:za}{H:Hp}{vs:List V}{d e:D}(h:Ag K H vs [d,e]):∃v w,vs=[v,w]/\Bw K H v d/\Bw K H w e:=by
 cases h with
 |cons h t =>
  obtain⟨w,rfl,hw⟩:=t.one;exact⟨_,w,rfl,h,hw⟩
theorem hV:KJ X.K WX (λ xs H Q=>∃p ys,xs=[.ref p]/\(Dt X.K H p ys\/Gk X.K H p ys)/\Q (.int ys.length) H) UR:=by
 intro P H ds vs Q ht hl h;unfold UR at h;split at h
 ·obtain⟨v,rfl,hv⟩:=hl.one;cases hv with
  |lst hs hh=>exact⟨_,_,rfl,.inl hs.Bj,by rw[hh.length];exact h _ H (Ad.refl H) (.int _)⟩
 ·obtain⟨v,rfl,hv⟩:=hl.one;cases hv with
  |tup hs hh=>exact⟨_,_,rfl,.inr (Gk.of (Aj hs).2),by rw[hh.length];exact h _ H (Ad.refl H) (.int _)⟩
 ·exact h.elim
theorem LU (hg:Gl X "len")(hm:X.mg "len" = none)(ha:DE X WX c e f)(hs:starEach [e] X.env=[(false,eval e X.env)]:=by rfl):DE X WX c (.Call (.Name "len" p) [e] [] pos) (λ ρ=>((f ρ).bind λ d=>(M.ok []).bind λ ds=>.ok (d::ds)).bind UR):=
 Jg OO hV hg hm PySem.boot_len (A3 ha A9 hs) (he:=hs)
noncomputable def S3 (ds:List D):M D:=match ds with
 |[.lst xs]|[.tup xs]=>.ok (.tup xs)
 |_=>.bad
theorem WZ:KJ X.K WX (λ xs H Q=>∃p ys,xs=[.ref p]/\((Dt X.K H p ys/\∀l,H l=none->Q (.ref l) (upd H l (.tup ys)))\/(Gk X.K H p ys/\Q (.ref p) H))) S3:=by
 intro P H ds vs Q ht hl h;unfold S3 at h;split at h
 ·obtain⟨v,rfl,hv⟩:=hl.one;cases hv with
  |lst hs hh=>exact⟨_,_,rfl,.inl ⟨hs.Bj,λ l hn=>h _ _ (AK hn _) (.tup (Jf hn ht) (hh.mono (AK hn _).del))⟩⟩
 ·obtain⟨v,rfl,hv⟩:=hl.one;cases hv with
  |tup hs hh=>exact⟨_,_,rfl,.inr ⟨Gk.of (Aj hs).2,h _ H (Ad.refl H) (.tup hs hh)⟩⟩
 ·exact h.elim
theorem X0 (hg:Gl X "tuple")(hm:X.mg "tuple" = none)(ha:DE X WX c e f)(hb:bootBuiltins "tuple" = some (.type "tuple"):=by decide +kernel)(hs:starEach [e] X.env=[(false,eval e X.env)]:=by rfl):DE X WX c (.Call (.Name "tuple" p) [e] [] pos) (λ ρ=>((f ρ).bind λ d=>(M.ok []).bind λ ds=>.ok (d::ds)).bind S3):=
 UQ Nd WZ hg hm hb (A3 ha A9 hs) (he:=hs)
noncomputable def dX:D->String
 | .Ay => "NoneType"
 | .bl _ => "bool"
 | .int _ => "int"
 | .str _ => "str"
 | .tup _ => "tuple"
 | .lst _ => "list"
 | .Dq _ => "NoneType"
 | .B8 _ _ _ => "dict"
 | .ins _ _ _ => "NoneType"
noncomputable def EI (T:String)(d:D):Bool:=(dX d==T)||(dX d == "bool" && T == "int")
noncomputable def Jh (T:String)(d:D):M D:=match d with
 | .Dq _| .ins _ _ _=>.bad
 |d=>.ok (.bl (EI T d))
noncomputable def Tw:D->Bool
 | .Dq _| .ins _ _ _=>true
 |_=>false
theorem Qm {T:String}{d:D}(h:Tw d=false):Jh T d=.ok (.bl (EI T d)):=by cases d<;>first | rfl | cases h
def qY (K:za)(T:String):List V->Hp->VK->Prop:=λ xs H Q=>∃x d,xs=[x,.ty T]/\Bw K H x d/\Tw d=false/\Q (.bl (EI T d)) H
theorem X1 {T:String}(hk:∀d:D,PySem.W.kitOne X.K (.type (dX d)) (.type T)=some (EI T d)):Gm X (.builtin "isinstance") (qY X.K T):=by
 intro pins s σ H xs us Q I r h;obtain⟨x,d,rfl,hd,hx,q⟩:=h;obtain⟨u,w,rfl,rx,bF⟩:=r.two;cases bF;have fin:∀tk,EP X pins σ Q (.bool (EI T d)) {s with toks:=tk}:=λ tk=>⟨.bl _,H,I.tok tk,rfl,q⟩;have e:=hk d;cases hd with
 |Dq _ _|ins _ _ _=>cases hx
 |HV hs hl =>
  cases rx;obtain⟨⟨o,h1,h2⟩,_,_⟩:=WO I (.inl ⟨_,hs⟩);exact yX PySem.W.kitx_dict I.L3 ⟨o,h1,h2⟩ e (λ z=>nomatch z) fin
 |GC hs hl =>
  cases rx;obtain⟨⟨o,h1,h2⟩,_,_⟩:=WO I (.inr ⟨_,hs⟩);exact yX PySem.W.kitx_dict I.L3 ⟨o,h1,h2⟩ e (λ z=>nomatch z) fin
 |Ay=>cases rx;exact yX PySem.W.kitx_none I.L3 True.intro e (λ z=>nomatch z) fin
 |bl b=>cases rx;exact yX PySem.W.kitx_bool I.L3 True.intro e (λ z=>nomatch z) fin
 |int b=>obtain⟨t,rfl⟩:=rx;exact yX PySem.W.kitx_int I.L3 True.intro e (λ z=>nomatch z) fin
 |str b=>obtain⟨t,rfl⟩:=rx;exact yX PySem.W.kitx_str I.L3 True.intro e (λ z=>nomatch z) fin
 |tup hs hl =>
  cases rx;obtain⟨_,_,⟨o,h1,h2,_⟩,_⟩:=I.tuple (.of hs);exact yX PySem.W.kitx_tuple I.L3 ⟨o,h1,h2⟩ e (λ z=>nomatch z) fin
 |lst hs hl =>
  cases rx;obtain⟨_,_,⟨o,n,h1,h2,_⟩,_⟩:=I.list hs;exact yX PySem.W.kitx_list I.L3 ⟨o,h1,h2⟩ e (λ z=>nomatch z) fin
theorem ET {T:String}{x2:Str}{p2:Pos}(hk:∀d:D,PySem.W.kitOne X.K (.type (dX d)) (.type T)=some (EI T d))(hg:Gl X "isinstance")(hm:X.mg "isinstance" = none)(ga:Gl X x2)(be:X.mg x2=none)(nu:bootBuiltins x2=some (.type T))(ha:DE X WX c e f)
 (hb:bootBuiltins "isinstance" = some (.builtin "isinstance"):=by decide +kernel) (aI:x2 ≠ "__name__" := by decide) (nv:(x2==("__debug__" : Str))=false:=by decide) (hs:starEach [e,.Name x2 p2] X.env=(false,eval e X.env)::starEach [.Name x2 p2] X.env:=by rfl) (aY:starEach [.Name x2 p2] X.env=[(false,eval (.Name x2 p2) X.env)]:=by rfl)
 (a5:(backTo pos (starEach [.Name x2 p2] X.env)).any (·.1)=false:=by rfl):
 DE X WX c (.Call (.Name "isinstance" p) [e,.Name x2 p2] [] pos) (λ ρ=>(f ρ).bind λ d=>Jh T d):=by
 obtain⟨ta,a1,a2⟩:=ha;refine⟨_,Q6 (X1 hk) hg hm hb (Bc a1 (Bc (YN (v:=.ty T) ga be nu rfl aI nv) C4 aY) hs) (by decide) (by decide) hs a5,λ P0 P σ H Q ρ E h=>?_⟩;dsimp only at h;refine a2 P0 P σ H _ ρ E ?_;cases q:f ρ with
 |bad|ex x=>rw[q] at h;exact h
 |ok d =>
  rw[q] at h;simp only[M.A6] at h;cases hx:Tw d with
  |true=>cases d<;>first|exact h.elim|cases hx
  |false =>
   rw[Qm hx] at h;exact λ v H1 s1 hv=>⟨v,d,rfl,hv.mono Eg,hx,h _ H1 s1 (.bl _)⟩
theorem Iv (K:za)(d:D):PySem.W.kitOne K (.type (dX d)) (.type "tuple")=some (EI "tuple" d):=by cases d<;>rfl
theorem F6 (K:za)(d:D):PySem.W.kitOne K (.type (dX d)) (.type "list")=some (EI "list" d):=by cases d<;>rfl
theorem US (K:za)(d:D):PySem.W.kitOne K (.type (dX d)) (.type "bool")=some (EI "bool" d):=by cases d<;>rfl
theorem X2 (K:za)(d:D):PySem.W.kitOne K (.type (dX d)) (.type "int")=some (EI "int" d):=by cases d<;>rfl
noncomputable def dY (lo hi:Option Int)(d:D):M D:=match d with
 | .lst ds=>.ok (.lst ((ds.drop (HT.LH ds.length 0 lo)).take (HT.LH ds.length ds.length hi-HT.LH ds.length 0 lo)))
 |_=>.bad
def DO (X:Cx)(WX:Str->Hp->Prop)(c:Bool)(e:Option Expr)(f:Aa->M (Option Int)):Prop:=
 ∃t,PO X e t/\∀P0 P σ H Q ρ,Ai X.K P0 P H σ ρ->(match f ρ with | .ok o=>∀H',Ad H H'->Q o H' | .ex x=>∀H',Ad H H'->WX x H' | .bad=>False)->t σ H Q
theorem P8:DO X WX c none (λ _=>.ok none):=⟨_,Z2,λ P0 P σ H Q ρ E h=>h H (Ad.refl H)⟩
noncomputable def sY (d:D):M (Option Int):=match d with | .int i=>.ok (some i) | _=>.bad
theorem Ji (ha:DE X WX c e f):DO X WX c (some e) (λ ρ=>(f ρ).bind sY):=by
 obtain⟨ta,a1,a2⟩:=ha;refine⟨_,Z3 a1,λ P0 P σ H Q ρ E h=>?_⟩;dsimp only at h;refine a2 P0 P σ H _ ρ E ?_;cases q:f ρ with
 |bad|ex x=>rw[q] at h;exact h
 |ok d =>
  rw[q] at h;cases d with
  |int i=>exact λ v H1 s1 hv=>⟨i,hv.int_inv,h H1 s1⟩
  |_=>exact h.elim
end
inductive Out where
 |ret (d:D)|next (ρ:Aa)|brk (ρ:Aa)|cont (ρ:Aa)|BL (c:Cl)|Eh (t:OT) (ρ:Aa)
def Tr (P0 P:Addr->Prop)(H:Hp)(P':Addr->Prop)(H':Hp):Prop:=Ad (del H P) (del H' P')/\∀a,P0 a->H' a=H a
theorem Tr.refl {P0 P:Addr->Prop}{H:Hp}:Tr P0 P H P H:=⟨Ad.refl _,λ _ _=>rfl⟩
theorem Tr.trans {P0 P P1 P2:Addr->Prop}{H H1 H2:Hp}(a:Tr P0 P H P1 H1)(b:Tr P0 P1 H1 P2 H2):Tr P0 P H P2 H2:=⟨a.1.trans b.1,λ x h=>(b.2 x h).trans (a.2 x h)⟩
theorem Ai.tr {K:za}{P0:Df}{P:Addr->Prop}{H H':Hp}{σ:St}{ρ:Aa}(E:Ai K P0 P H σ ρ)(e:Ad H H'):Tr P0 P H P H':=
 ⟨e.del,λ a h=>by obtain⟨o,q,_⟩:=E.BG a (E.sub a h);rw[e a o q,q]⟩
def gS (K:za)(WX:Str->Hp->Prop)(P0:Df)(P:Addr->Prop)(H:Hp)(Z:Ends):M Out->Prop
 | .ok (.ret d)=>∀v H' P',Tr P0 P H P' H'->Bw K (del H' P0) v d->Z.rt v H'
 | .ok (.next ρ)=>∀σ' H' P',Tr P0 P H P' H'->Ai K P0 P' H' σ' ρ->Z.nx σ' H'
 | .ok (.brk ρ)=>∀σ' H' P',Tr P0 P H P' H'->Ai K P0 P' H' σ' ρ->Z.bk σ' H'
 | .ok (.cont ρ)=>∀σ' H' P',Tr P0 P H P' H'->Ai K P0 P' H' σ' ρ->Z.ct σ' H'
 | .ok (.BL c)=>∀v fp H' P',Tr P0 P H P' H'->(∀a,P0 a->P' a)->(∀a,P' a->EH H' a)->Ck K H' P' c v fp->(∀a∈fp,P' a/\¬ P0 a)->fp.Nodup->Z.rt v H'
 | .ok (.Eh t ρ)=>∀v fp σ' H' P',Tr P0 P H P' H'->Ai K P0 P' H' σ' ρ->Bx K H' P' v t fp->fp.Nodup->(∀a∈fp,P' a/\¬ P0 a/\∀(j:Nat) c v' fq,ρ[j]?=some (some c)->σ'[j]?=some (some v')->Ck K H' P' c v' fq->a∉fq)->Z.rt v H'
 | .ex x=>∀H' P',Tr P0 P H P' H'->WX x H'
 | .bad=>False
theorem gS.tr {K:za}{WX:Str->Hp->Prop}{P0:Df}{P P':Addr->Prop}{H H':Hp}{Z:Ends}{m:M Out}(h:gS K WX P0 P H Z m)(t:Tr P0 P H P' H'):gS K WX P0 P' H' Z m:=by
 cases m with
 |bad=>exact h
 |ex x=>exact λ H2 P2 t2=>h H2 P2 (t.trans t2)
 |ok o =>
  cases o with
  |ret d=>exact λ v H2 P2 t2 hv=>h v H2 P2 (t.trans t2) hv
  |next ρ|brk ρ|cont ρ=>exact λ σ2 H2 P2 t2 hv=>h σ2 H2 P2 (t.trans t2) hv
  |BL c=>exact λ v fp H2 P2 t2=>h v fp H2 P2 (t.trans t2)
  |Eh c ρ=>exact λ v fp σ2 H2 P2 t2=>h v fp σ2 H2 P2 (t.trans t2)
def DS (X:Cx)(WX:Str->Hp->Prop)(st:Stmt)(g:Aa->M Out):Prop:=
 ∃t,PS X st t/\∀P0 P σ H Z ρ,Ai X.K P0 P H σ ρ->gS X.K WX P0 P H Z (g ρ)->t Z σ H
def Qn (X:Cx)(WX:Str->Hp->Prop)(st:List Stmt)(g:Aa->M Out):Prop:=
 ∃t,Te X st t/\∀P0 P σ H Z ρ,Ai X.K P0 P H σ ρ->gS X.K WX P0 P H Z (g ρ)->t Z σ H
noncomputable def X3 (m:M Out)(k:Aa->M Out):M Out:=match m with
 | .ok (.next ρ)=>k ρ
 |m=>m
section
variable {X:Cx}{WX:Str->Hp->Prop}{c:Bool}{P0:Df}{P:Addr->Prop}{H:Hp}{σ:St}{ρ:Aa}{a b e:Expr}{f g:Aa->M D}{ft gt:Aa->M Bool}{pos:Pos}{st:Stmt}{rest:List Stmt}{g1 g2:Aa->M Out}
theorem AB:Qn X WX [] (λ ρ=>.ok (.next ρ)):=⟨_,YQ,λ P0 P σ H Z ρ E h=>h σ H P Tr.refl E⟩
theorem A8 (h:DS X WX st g1):Qn X WX [st] g1:=let ⟨t,h1,h2⟩:=h;⟨_,YR h1,h2⟩
theorem A4 (h:DS X WX st g1)(hr:Qn X WX rest g2):Qn X WX (st::rest) (λ ρ=>X3 (g1 ρ) g2):=by
 obtain⟨t,h1,h2⟩:=h;obtain⟨u,r1,r2⟩:=hr;refine⟨_,Wi h1 r1,λ P0 P σ H Z ρ E h=>?_⟩;dsimp only at h;refine h2 P0 P σ H {Z with nx:=u Z} ρ E ?_;cases q:g1 ρ with
 |bad|ex x=>rw[q] at h;exact h
 |ok o =>
  rw[q] at h;cases o with
  |ret d|brk d|cont d|BL d|Eh d ρ2=>exact h
  |next ρ'=>exact λ σ' H' P' t E'=>r2 P0 P' σ' H' Z ρ' E' (gS.tr h t)
theorem S4 (ha:DE X WX false e f):DS X WX (.Return (some e) pos) (λ ρ=>(f ρ).bind λ d=>.ok (.ret d)):=by
 obtain⟨ta,a1,a2⟩:=ha;refine⟨_,RE a1,λ P0 P σ H Z ρ E h=>?_⟩;dsimp only at h;refine a2 P0 P σ H _ ρ E ?_;cases q:f ρ with
 |bad=>rw[q] at h;exact h
 |ex x=>rw[q] at h;exact λ H' s=>h H' P (E.tr s)
 |ok d=>rw[q] at h;exact λ v H' s hv=>h v H' P (E.tr s) hv
theorem Be {c:Expr}{sa sb:List Stmt}(hc:DT X WX c ft)(ha:Qn X WX sa g1)(hb:Qn X WX sb g2):DS X WX (.If c sa sb pos) (λ ρ=>(ft ρ).bind λ k=>if k=true then g1 ρ else g2 ρ):=by
 obtain⟨tc,c1,c2⟩:=hc;obtain⟨ta,a1,a2⟩:=ha;obtain⟨tb,b1,b2⟩:=hb;refine⟨_,lL c1 a1 b1,λ P0 P σ H Z ρ E h=>?_⟩;dsimp only at h;refine c2 P0 P σ H _ ρ E ?_;cases q:ft ρ with
 |bad=>rw[q] at h;exact h
 |ex x=>rw[q] at h;exact λ H' s=>h H' P (E.tr s)
 |ok k =>
  rw[q] at h;intro H1 s1;cases k with
  |true =>
   simp only[M.A6,if_true] at h ⊢;exact a2 P0 P σ H1 Z ρ (E.same s1) (h.tr (E.tr s1))
  |false =>
   simp only[M.A6,zF,if_false] at h ⊢;exact b2 P0 P σ H1 Z ρ (E.same s1) (h.tr (E.tr s1))
theorem get_set {α:Type}{l:List α}{i j:Nat}{x y:α}(h:(l.set i x)[j]?=some y):(i=j/\i<l.length/\x=y)\/(i≠j/\l[j]?=some y):=by
 by_cases e:i=j
 ·subst e;rw[List.getElem?_set_self'] at h;cases q:l[i]? with
  |none=>rw[q] at h;cases h
  |some z =>
   rw[q] at h;exact .inl ⟨rfl,(zE.mp q).1,by simpa using h⟩
 ·rw[yx e] at h;exact .inr ⟨e,h⟩
theorem Ai.X4 {K:za}(E:Ai K P0 P H σ ρ){i:Nat}{v:V}{d:D}(hv:Bw K (del H P) v d):Ai K P0 P H (σ.set i (some v)) (ρ.set i (some (.val d))):=by
 have gs:∀ {j:Nat},i≠j->(σ.set i (some v))[j]?=σ[j]? :=λ h=>yx h;refine⟨E.sub,E.BG,λ j e h=>?_,λ j c h io=>?_,λ j k c c' u u' fp ak h1 h2 h3 h4 h5 h6 ae=>?_,by rw[yL,yL];exact E.len,λ j c n h hp=>?_⟩
 rotate_left 3
 ·rcases get_set h with ⟨rfl,hl,e1⟩|⟨ae,h⟩
  ·cases e1;cases hp
  ·rw[gs ae];exact E.pin j c n h hp
 ·rcases get_set h with ⟨rfl,hl,e1⟩|⟨ae,h⟩
  ·cases e1;exact⟨v,zZ (by rw[E.len];exact hl),hv⟩
  ·obtain⟨w,h1,h2⟩:=E.val j e h;exact⟨w,by rw[gs ae];exact h1,h2⟩
 ·rcases get_set h with ⟨rfl,hl,e1⟩|⟨ae,h⟩
  ·cases e1;cases io
  ·obtain⟨w,fp,h1,h2⟩:=E.ows j c h io;exact⟨w,fp,by rw[gs ae];exact h1,h2⟩
 ·rcases get_set h1 with ⟨rfl,hl,e1⟩|⟨b9,h1⟩
  ·cases e1;exact h5.elim
  ·rcases get_set h2 with ⟨rfl,hl,e1⟩|⟨aI,h2⟩
   ·cases e1;exact h6.elim
   ·rw[gs b9] at h3;rw[gs aI] at h4;exact E.apart j k c c' u u' fp ak h1 h2 h3 h4 h5 h6 ae
theorem Ai.X5 {K:za}(E:Ai K P0 P H σ ρ){P':Addr->Prop}{H':Hp}{i:Nat}{v:V}{c:Cl}{fp:List Addr}(hs:∀a,P a->P' a)(ht:∀a,P' a->EH H' a)(sm:Ad (del H P) (del H' P'))
 (keep:∀(j:Nat) c' v' ak,i≠j->ρ[j]?=some (some c')->σ[j]?=some (some v')->Ck K H P c' v' ak->∀a∈ak,H' a=H a/\a∉fp)
 (new:Ck K H' P' c v fp) (hp:∀a∈fp,P' a/\¬ P0 a) (nd:fp.Nodup) (gc:∀n,Ia c=some n->v=.ref (P0.g n):=by intro n z;cases z):Ai K P0 P' H' (σ.set i (some v)) (ρ.set i (some c)):=by
 have gs:∀ {j:Nat},i≠j->(σ.set i (some v))[j]?=σ[j]? :=λ h=>yx h;refine⟨λ a h=>hs a (E.sub a h),ht,λ j e h=>?_,λ j c' h io=>?_,λ j k c1 c2 u u' ax bU h1 h2 h3 h4 h5 h6 ae=>?_,by rw[yL,yL];exact E.len,λ j c' n h hp=>?_⟩
 rotate_left 3
 ·rcases get_set h with ⟨rfl,hl,e1⟩|⟨ae,h⟩
  ·cases e1;rw[zZ (by rw[E.len];exact hl),gc n hp]
  ·rw[gs ae];exact E.pin j c' n h hp
 ·rcases get_set h with ⟨rfl,hl,e1⟩|⟨ae,h⟩
  ·cases e1;exact new.elim
  ·obtain⟨w,h1,h2⟩:=E.val j e h;exact⟨w,by rw[gs ae];exact h1,h2.mono sm⟩
 ·rcases get_set h with ⟨rfl,hl,e1⟩|⟨ae,h⟩
  ·cases e1;exact⟨v,fp,zZ (by rw[E.len];exact hl),new,hp,nd⟩
  ·obtain⟨w,fq,h1,h2,h3,h4⟩:=E.ows j c' h io;exact⟨w,fq,by rw[gs ae];exact h1,h2.move sm λ a ha=>(keep j c' w fq ae h h1 h2 a ha).1,λ a ha=>⟨hs a (h3 a ha).1,(h3 a ha).2⟩,h4⟩
 ·have back:∀(l:Nat) (d:Cl) (w:V) (fq:List Addr),i≠l->ρ[l]?=some (some d)->σ[l]?=some (some w)->Ck K H' P' d w fq->∃fr,Ck K H P d w fr/\fr=fq:=λ l d w fq hn hk sk ho=>by
   have io:Gx d=true:=by cases d<;>first|rfl|exact ho.elim
   obtain⟨w',bU,s2,o2,_⟩:=E.ows l d hk io;rw[sk] at s2;cases s2;exact⟨bU,o2,(o2.move sm λ a ha=>(keep l d w bU hn hk sk o2 a ha).1).BS ho⟩
  rcases get_set h1 with ⟨rfl,hl,e1⟩|⟨b9,h1⟩
  ·cases e1;rw[zZ (by rw[E.len];exact hl)] at h3;cases h3;rcases get_set h2 with ⟨e,_⟩|⟨aI,h2⟩
   ·exact (ae e).elim
   ·rw[gs aI] at h4;obtain⟨fr,o,rfl⟩:=back k c2 u' bU aI h2 h4 h6;intro a ha hb;rw[new.BS h5] at keep;exact (keep k c2 u' fr aI h2 h4 o a hb).2 ha
  ·rw[gs b9] at h3;obtain⟨fr,o,rfl⟩:=back j c1 u ax b9 h1 h3 h5;rcases get_set h2 with ⟨rfl,hl,e1⟩|⟨aI,h2⟩
   ·cases e1;rw[zZ (by rw[E.len];exact hl)] at h4;cases h4;intro a ha;rw[new.BS h6] at keep;exact (keep j c1 u fr b9 h1 h3 o a ha).2
   ·rw[gs aI] at h4;obtain⟨ny,o2,rfl⟩:=back k c2 u' bU aI h2 h4 h6;exact E.apart j k c1 c2 u u' fr ny h1 h2 h3 h4 o o2 ae
theorem Ai.mW {K:za}(E:Ai K P0 P H σ ρ){P':Addr->Prop}{H':Hp}{i:Nat}{v:V}{c:Cl}{fp:List Addr}(hs:∀a,P0 a->P' a)(ht:∀a,P' a->EH H' a)(sm:Ad (del H P) (del H' P'))
 (keep:∀(j:Nat) c' v' ak,i≠j->ρ[j]?=some (some c')->σ[j]?=some (some v')->Ck K H P c' v' ak->∀a∈ak,H' a=H a/\a∉fp/\P' a)
 (new:Ck K H' P' c v fp) (hp:∀a∈fp,P' a/\¬ P0 a) (nd:fp.Nodup) (gc:∀n,Ia c=some n->v=.ref (P0.g n):=by intro n z;cases z):Ai K P0 P' H' (σ.set i (some v)) (ρ.set i (some c)):=by
 have gs:∀ {j:Nat},i≠j->(σ.set i (some v))[j]?=σ[j]? :=λ h=>yx h;refine⟨hs,ht,λ j e h=>?_,λ j c' h io=>?_,λ j k c1 c2 u u' ax bU h1 h2 h3 h4 h5 h6 ae=>?_,by rw[yL,yL];exact E.len,λ j c' n h hp=>?_⟩
 rotate_left 3
 ·rcases get_set h with ⟨rfl,hl,e1⟩|⟨ae,h⟩
  ·cases e1;rw[zZ (by rw[E.len];exact hl),gc n hp]
  ·rw[gs ae];exact E.pin j c' n h hp
 ·rcases get_set h with ⟨rfl,hl,e1⟩|⟨ae,h⟩
  ·cases e1;exact new.elim
  ·obtain⟨w,h1,h2⟩:=E.val j e h;exact⟨w,by rw[gs ae];exact h1,h2.mono sm⟩
 ·rcases get_set h with ⟨rfl,hl,e1⟩|⟨ae,h⟩
  ·cases e1;exact⟨v,fp,zZ (by rw[E.len];exact hl),new,hp,nd⟩
  ·obtain⟨w,fq,h1,h2,h3,h4⟩:=E.ows j c' h io;exact⟨w,fq,by rw[gs ae];exact h1,h2.move sm λ a ha=>(keep j c' w fq ae h h1 h2 a ha).1,λ a ha=>⟨(keep j c' w fq ae h h1 h2 a ha).2.2,(h3 a ha).2⟩,h4⟩
 ·have back:∀(l:Nat) (d:Cl) (w:V) (fq:List Addr),i≠l->ρ[l]?=some (some d)->σ[l]?=some (some w)->Ck K H' P' d w fq->∃fr,Ck K H P d w fr/\fr=fq:=λ l d w fq hn hk sk ho=>by
   have io:Gx d=true:=by cases d<;>first|rfl|exact ho.elim
   obtain⟨w',bU,s2,o2,_⟩:=E.ows l d hk io;rw[sk] at s2;cases s2;exact⟨bU,o2,(o2.move sm λ a ha=>(keep l d w bU hn hk sk o2 a ha).1).BS ho⟩
  rcases get_set h1 with ⟨rfl,hl,e1⟩|⟨b9,h1⟩
  ·cases e1;rw[zZ (by rw[E.len];exact hl)] at h3;cases h3;rcases get_set h2 with ⟨e,_⟩|⟨aI,h2⟩
   ·exact (ae e).elim
   ·rw[gs aI] at h4;obtain⟨fr,o,rfl⟩:=back k c2 u' bU aI h2 h4 h6;intro a ha hb;rw[new.BS h5] at keep;exact (keep k c2 u' fr aI h2 h4 o a hb).2.1 ha
  ·rw[gs b9] at h3;obtain⟨fr,o,rfl⟩:=back j c1 u ax b9 h1 h3 h5;rcases get_set h2 with ⟨rfl,hl,e1⟩|⟨aI,h2⟩
   ·cases e1;rw[zZ (by rw[E.len];exact hl)] at h4;cases h4;intro a ha;rw[new.BS h6] at keep;exact (keep j c1 u fr b9 h1 h3 o a ha).2.1
   ·rw[gs aI] at h4;obtain⟨ny,o2,rfl⟩:=back k c2 u' bU aI h2 h4 h6;exact E.apart j k c1 c2 u u' fr ny h1 h2 h3 h4 o o2 ae
theorem K0 {α:Type}:∀ {l:List α}{i:Nat}{x:α},l[i]?=some x->l.set i x=l
 |[],_,_,h=>by cases h
 |y::r,0,x,h=>by cases h;rfl
 |y::r,i+1,x,h=>by rw[zy,K0 (by simpa using h)]
theorem Ai.mut {K:za}(E:Ai K P0 P H σ ρ){i p:Nat}{xs:List V}{ds lc:List D}(ho:ρ[i]?=some (some (.own ds)))(hs:σ[i]?=some (some (.ref p)))(pP:P p)(lf:¬ P0 p)(hx:Ag K (del H P) xs lc):
 Ai K P0 P (upd H p (.lst xs)) σ (ρ.set i (some (.own lc)))/\Tr P0 P H P (upd H p (.lst xs)):=by
 have sd:del (upd H p (.lst xs)) P=del H P:=by
  funext b;by_cases hb:P b
  ·rw[Ef hb,Ef hb]
  ·rw[Aq hb,Aq hb,Ab (λ z=>hb (by rw[z];exact pP))]
 have sm:Ad (del H P) (del (upd H p (.lst xs)) P):=by rw[sd];exact Ad.refl _
 obtain⟨v,fp,s1,o1,_⟩:=E.ows i _ ho rfl;rw[hs] at s1;cases s1;have key:=E.X5 (P':=P) (H':=upd H p (.lst xs)) (i:=i) (v:=.ref p) (c:=.own lc) (fp:=[p]) (λ a h=>h) (λ a h=>?_) sm (λ j c' v' ak ae h1 h2 h3 a ha=>?_) ⟨p,xs,rfl,rfl,Al,by rw[sd];exact hx⟩ (λ a ha=>by rw[zu.mp ha];exact⟨pP,lf⟩) (by simp)
 ·rw[K0 hs] at key;exact⟨key,sm,λ a h=>by rw[Ab (λ z=>lf (by rw[<-z];exact h))]⟩
 ·by_cases ha:a=p
  ·subst ha;exact EH.lst Al
  ·unfold EH;rw[Ab ha];exact E.BG a h
 ·obtain⟨p',dv,e,rfl,_⟩:=o1;cases e;have hn:a≠p:=λ z=>E.apart j i c' _ v' _ ak [p] h1 ho h2 hs h3 ⟨p,dv,rfl,rfl,by assumption⟩ (yc ae) a ha (by rw[z];exact zu.mpr rfl);exact⟨Ab hn,λ z=>hn (zu.mp z)⟩
theorem Ai.grow {K:za}(E:Ai K P0 P H σ ρ){i p:Nat}{xs:List V}{ds:List D}{v:V}{d:D}(ho:ρ[i]?=some (some (.own ds)))(hs:σ[i]?=some (some (.ref p)))(hp:H p=some (.lst xs))(pP:P p)(lf:¬ P0 p)(hx:Ag K (del H P) xs ds)(hv:Bw K (del H P) v d):
 Ai K P0 P (upd H p (.lst (xs++[v]))) σ (ρ.set i (some (.own (ds++[d]))))/\Tr P0 P H P (upd H p (.lst (xs++[v]))):=E.mut ho hs pP lf (hx.snoc hv)
theorem AJ (i:Nat){x:Str}{pos':Pos}(hN:X.N.Nodup)(hi:X.N[i]?=some x)(hx:Loc X.env.scope x)(ha:DE X WX true e f)(hs:swapsWith e (some (.Name x pos')) pos.line X.env=pure false:=by rfl)(hf:X.fn x=true\/X.env.scope.names.lookup x=some .local:=by first | exact .inl rfl | exact .inr rfl | assumption):
 DS X WX (.Assign [.Name x pos'] e pos) (λ ρ=>(f ρ).bind λ d=>.ok (.next (ρ.set i (some (.val d))))):=by
 obtain⟨ta,a1,a2⟩:=ha;refine⟨_,Wl hN hi hx a1 hs hf,λ P0 P σ H Z ρ E h=>?_⟩;dsimp only at h;refine a2 P0 P σ H _ ρ E ?_;cases q:f ρ with
 |bad=>rw[q] at h;exact h
 |ex x=>rw[q] at h;exact λ H' s=>h H' P (E.tr s)
 |ok d=>rw[q] at h;exact λ v H' s hv=>h _ H' P (E.tr s) ((E.same s).X4 hv)
noncomputable def UT (i:Nat)(ρ:Aa)(m:M D):M Out:=match ρ[i]? with
 |some (some (.own ds))=>m.bind λ d=>if ds.length<1000 then .ok (.next (ρ.set i (some (.own (ds++[d]))))) else .bad
 |_=>.bad
theorem UU (i:Nat){x:Str}{p1 apos ac:Pos}(hv:PE X (.Name x p1) (OJ i))(ha:DE X WX true e f)(hs:starEach [e] X.env=[(false,eval e X.env)]:=by rfl)
 (bp:swapsWith (.Call (.Attribute (.Name x p1) "append" apos) [e] [] ac) none pos.line X.env=pure false:=by rfl)
 (ar:attributeBase (.Name x p1) "append" X.env (eval (.Name x p1) X.env)=eval (.Name x p1) X.env:=by rfl)
 (aV:((backTo ac (starEach [e] X.env)).all (λ x => !x.1)&&(backToKw ac (keywordEach [] X.env)).all (λ x=>x.1.isSome)&&decide (([e]:List Expr).length+([]:List Keyword).length+(if ([]:List Keyword).isEmpty then 0 else 1)<30))=true:=by rfl)
 (au:(apos.endLine==ac.line)=true:=by rfl) (aq:(backTo ac (starEach [] X.env)).any (·.1)=false:=by rfl):
 DS X WX (.Expr (.Call (.Attribute (.Name x p1) "append" apos) [e] [] ac) pos) (λ ρ=>UT i ρ (f ρ)):=by
 obtain⟨ta,a1,a2⟩:=ha;refine⟨_,FL (Q9 yG PySem.F.slot_list_append PySem.F.type_list_append NG hv (Bc a1 C4 hs) ar aV au hs aq) bp,λ P0 P σ H Z ρ E h=>?_⟩;dsimp only at h;unfold UT at h;split at h
 ·rename_i ds e1;obtain⟨p,xs,h1,h2,h3,h4,h5⟩:=E.own i ds e1;refine⟨_,h1,.inl ⟨rfl,xs,.of h2⟩,?_⟩;refine a2 P0 P σ H _ ρ E ?_;cases q:f ρ with
  |bad=>rw[q] at h;exact h
  |ex y=>rw[q] at h;exact λ H' s=>h H' P (E.tr s)
  |ok d =>
   rw[q] at h;simp only[M.A6] at h;by_cases hl:ds.length<1000
   ·rw[if_pos hl] at h;intro v H1 s1 hv;have E1:=E.same s1;have ib:H1 p=some (.lst xs):=s1 _ _ h2;refine⟨p,xs,v,rfl,rfl,ib,AA (by rw[h5.length];omega),?_⟩;obtain⟨E2,t2⟩:=E1.grow e1 h1 ib h3 h4 (h5.mono s1.del) hv;exact h _ _ _ ((E.tr s1).trans t2) E2
   ·rw[if_neg hl] at h;exact h.elim
 ·exact h.elim
end
def gG (K:za)(P0:Df)(P:Addr->Prop)(H:Hp)(Q:St->Hp->Prop):M Aa->Prop
 | .ok ρ=>∀σ',Ai K P0 P H σ' ρ->Q σ' H
 |_=>False
def DG (X:Cx)(tg:Expr)(gt:D->Aa->M Aa):Prop:=
 ∃g:TG,PG X tg g/\∀P0 P σ H Q ρ v d,Ai X.K P0 P H σ ρ->Bw X.K (del H P) v d->gG X.K P0 P H Q (gt d ρ)->g v σ H Q
def oZ (X:Cx)(u8:List Expr)(gt:List D->Aa->M Aa):Prop:=
 ∃g:dN,lM X u8 g/\∀P0 P σ H Q ρ v d,Ai X.K P0 P H σ ρ->Ag X.K (del H P) v d->gG X.K P0 P H Q (gt d ρ)->g v σ H Q
structure S5 (K:za)(J:It)(P:Addr->Prop)(H:Hp)(ds:List D):Prop where
 go:∀(i:Nat) P' H',Ad (del H P) (del H' P')->i<ds.length->J.go i H'
 stop:∀(i:Nat) P' H',Ad (del H P) (del H' P')->ds.length<=i->J.stop i H'
 YT:∀(i:Nat) P' H' v ge d,Ad (del H P) (del H' P')->(∀a,P' a->EH H' a)->ds[i]?=some d->J.YT i H' v ge->Ad H' ge/\Bw K (del ge P') v d
def DI (X:Cx)(WX:Str->Hp->Prop)(tg iter:Expr)(f:Aa->M (List D)):Prop:=
 ∃wi,PI X tg iter wi/\∀P0 P σ H R ρ,Ai X.K P0 P H σ ρ->(match f ρ with | .ok ds=>∀J H',Ad H H'->S5 X.K J P H' ds->R J H' | .ex x=>∀H',Ad H H'->WX x H' | .bad=>False)->wi σ H R
noncomputable def forM (gt:D->Aa->M Aa)(body:Aa->M Out):List D->Aa->M Out
 |[],ρ=>.ok (.next ρ)
 |d::r,ρ=>match gt d ρ with
  | .ok ρ1=>(match body ρ1 with
   | .ok (.next ρ2)| .ok (.cont ρ2)=>forM gt body r ρ2
   | .ok (.brk ρ2)=>.ok (.next ρ2)
   |m=>m)
  |_=>.bad
section
variable {X:Cx}{WX:Str->Hp->Prop}{c:Bool}{P0:Df}{P:Addr->Prop}{H:Hp}{σ:St}{ρ:Aa}{a b e tg iter:Expr}{f g:Aa->M D}{ft:Aa->M Bool}{pos:Pos}{gt:D->Aa->M Aa}{jb:List D->Aa->M Aa}{gb:Aa->M Out}{fi:Aa->M (List D)}
theorem BH (i:Nat){x:Str}(hN:X.N.Nodup)(hi:X.N[i]?=some x)(hx:Loc X.env.scope x)(hf:X.fn x=true\/X.env.scope.names.lookup x=some .local:=by first | exact .inl rfl | exact .inr rfl | assumption):DG X (.Name x pos) (λ d ρ=>.ok (ρ.set i (some (.val d)))):=
 ⟨_,Tg hN hi hx hf,λ P0 P σ H Q ρ v d E hv h=>h _ (E.X4 hv)⟩
theorem Tx:oZ X [] (λ ds ρ=>match ds with | []=>.ok ρ | _=>.bad):=⟨_,YS,λ P0 P σ H Q ρ v d E hv h=>by
 cases hv with
 |nil=>exact⟨rfl,h σ E⟩
 |cons _ _=>exact h.elim⟩
theorem Jj {es:List Expr}(h1:DG X e gt)(h2:oZ X es jb)(hs:(assignEach (e::es) X.env).map (·.2)=assign e X.env::(assignEach es X.env).map (·.2):=by rfl):
 oZ X (e::es) (λ ds ρ=>match ds with|d::r=>(gt d ρ).bind (jb r)|[]=>.bad):=by
 obtain⟨t,a1,a2⟩:=h1;obtain⟨u,b1,b2⟩:=h2;refine⟨_,Wj a1 b1 hs,λ P0 P σ H Q ρ v d E hv h=>?_⟩;cases hv with
 |nil=>exact h.elim
 | @cons x d xs ds hx bV =>
  refine⟨x,xs,rfl,a2 P0 P σ H _ ρ x d E hx ?_⟩;dsimp only at h;cases q:gt d ρ with
  |bad|ex y=>rw[q] at h;exact h
  |ok ρ1=>rw[q] at h;exact λ σ' E'=>b2 P0 P σ' H Q ρ1 xs ds E' bV h
theorem X6 {es:List Expr}{k n:Nat}(hc:X.calm=true)(h:oZ X es jb)(hn:(assignEach es X.env).length=n:=by rfl)(bc:(assignEach es X.env).findIdx? (·.1)=none:=by rfl):
 DG X (.Tuple es k pos) (λ d ρ=>match d with | .tup ds=>if ds.length=n then jb ds ρ else .bad|_=>.bad):=by
 obtain⟨t,a1,a2⟩:=h;refine⟨_,fK hc a1 hn bc,λ P0 P σ H Q ρ v d E hv h=>?_⟩;cases hv with
 | @tup a xs ds hs hl =>
  dsimp only at h;by_cases hd:ds.length=n
  ·rw[if_pos hd] at h;exact⟨a,xs,rfl,Gk.of (Aj hs).2,by rw[hl.length];exact hd,a2 P0 P σ H Q ρ xs ds E hl h⟩
  ·rw[if_neg hd] at h;exact h.elim
 |_=>exact h.elim
theorem Bk (ha:DE X WX true e f):DI X WX tg e (λ ρ=>(f ρ).bind λ d=>match d with | .lst ds=>.ok ds | _=>.bad):=by
 obtain⟨ta,a1,a2⟩:=ha;refine⟨_,Th a1,λ P0 P σ H R ρ E h=>?_⟩;dsimp only at h;refine a2 P0 P σ H _ ρ E ?_;cases q:f ρ with
 |bad|ex x=>rw[q] at h;exact h
 |ok d =>
  rw[q] at h;cases d with
  |lst ds =>
   intro v H1 s1 hv;cases hv with
   | @lst a xs _ hs hl =>
    refine⟨a,rfl,⟨xs,hs.Bj⟩,h _ H1 s1 ⟨λ i P' H' s hi=>?_,λ i P' H' s hi=>?_,λ i P' H' v ge d s ht hd y=>?_⟩⟩
    ·obtain⟨x,hx,_⟩:=hl.get (zg hi);exact⟨xs,x,(s.seq hs).Bj,hx⟩
    ·exact⟨xs,(s.seq hs).Bj,by rw[hl.length];exact hi⟩
    ·obtain⟨rfl,y⟩:=y;obtain⟨x,hx,ca⟩:=hl.get hd;have e:=y xs (s.seq hs).Bj;rw[hx] at e;cases e;exact⟨Ad.refl _,ca.mono s⟩
  |_=>exact h.elim
noncomputable def C6 (lo:Int):Nat->List D
 |0=>[]
 |n+1=>.int lo::C6 (lo+1) n
theorem CP (lo:Int):∀n:Nat,(C6 lo n).length=n:=by
 intro n;induction n generalizing lo with
 |zero=>rfl
 |succ n ih=>rw[C6,zp,ih]
theorem FT {lo:Int}{n i:Nat}{d:D}(h:(C6 lo n)[i]?=some d):d=.int (lo+i)/\i<n:=by
 have hi:i<n:=by
  have:=(zE.mp h).1;rw[CP] at this;exact this
 refine⟨?_,hi⟩;induction n generalizing lo i with
 |zero=>omega
 |succ n ih =>
  cases i with
  |zero=>rw[C6] at h;simp at h;rw[<-h];simp
  |succ i =>
   rw[C6,zP] at h;rw[ih h (by omega)];congr 1;omega
theorem S6 {K:za}{P:Addr->Prop}{H:Hp}(lo:Int)(n:Nat):S5 K (oV lo n) P H (C6 lo n):=
 ⟨λ i P' H' _ hi=>by rw[CP] at hi;exact hi,λ i P' H' _ hi=>by rw[CP] at hi;exact hi,λ i P' H' v ge d _ _ hd y=>by
  obtain⟨rfl,rfl⟩:=y;obtain⟨rfl,_⟩:=FT hd;exact⟨Ad.refl _,.int _⟩⟩
noncomputable def UW:D->M (List D)
 | .int j=>@ite _ (-(2^62)<=j/\j<2^62) (yE _) (.ok (C6 0 j.toNat)) .bad
 |_=>.bad
theorem Qo {j:Int}(h1 : -(2^62)<=j)(h2:j<2^62):UW (.int j)=.ok (C6 0 j.toNat):=if_pos ⟨h1,h2⟩
theorem LV {n:Nat}(h:n<=1000):UW (.int (n:Int))=.ok (C6 0 n):=by
 rw[Qo (by omega) (by omega),y9]
theorem Hr {p:Pos}(hg:Gl X "range")(hm:X.mg "range" = none)(ha:DE X WX c a f)(hs:starEach [a] X.env=[(false,eval a X.env)]:=by rfl):
 DI X WX tg (.Call (.Name "range" p) [a] [] pos) (λ ρ=>(f ρ).bind UW):=by
 obtain⟨ta,a1,a2⟩:=ha;refine⟨_,UB hg hm (Bc a1 C4 hs) hs,λ P0 P σ H R ρ E h=>?_⟩;dsimp only at h;refine a2 P0 P σ H _ ρ E ?_;cases q:f ρ with
 |bad|ex x=>rw[q] at h;exact h
 |ok d =>
  rw[q] at h;cases d with
  |int j =>
   simp only[M.A6] at h;by_cases hj : -(2^62)<=j/\j<2^62
   ·rw[Qo hj.1 hj.2] at h;exact λ v H1 s1 hv=>⟨j,by rw[hv.int_inv],hj.1,hj.2,h _ H1 s1 (S6 0 _)⟩
   ·have e:UW (.int j)=.bad:=if_neg hj;rw[e] at h;exact h.elim
  |_=>exact h.elim
noncomputable def KL (k:Nat):List D->List D
 |[]=>[]
 |d::r=>.tup [.int k,d]::KL (k+1) r
theorem K1 (k:Nat)(ds:List D):(KL k ds).length=ds.length:=by
 induction ds generalizing k with
 |nil=>rfl
 |cons d r ih=>rw[KL,zp,zp,ih]
theorem NO {k i:Nat}{ds:List D}{e:D}(h:(KL k ds)[i]?=some e):∃d,ds[i]?=some d/\e=.tup [.int ((k+i:Nat):Int),d]:=by
 induction ds generalizing k i with
 |nil=>rw[KL] at h;simp at h
 |cons d r ih =>
  cases i with
  |zero=>rw[KL] at h;simp at h;exact⟨d,rfl,by rw[<-h];rfl⟩
  |succ i =>
   rw[KL,zP] at h;obtain⟨d',h1,h2⟩:=ih h;refine⟨d',by simpa using h1,?_⟩;rw[h2];congr 3;omega
theorem Zm {ci:List Expr}{x1}{bD p:Pos}(hg:Gl X "enumerate")(hm:X.mg "enumerate" = none)(ha:DE X WX true a f)(hb:bootBuiltins "enumerate" = some (.type "enumerate"):=by decide +kernel)(hs:starEach [a] X.env=[(false,eval a X.env)]:=by rfl):
 DI X WX (.Tuple ci x1 bD) (.Call (.Name "enumerate" p) [a] [] pos) (λ ρ=>(f ρ).bind λ d=>match d with | .lst ds=>.ok (KL 0 ds)|_=>.bad):=by
 obtain⟨ta,a1,a2⟩:=ha;refine⟨_,Zh hg hm (Bc a1 C4 hs) hb hs,λ P0 P σ H R ρ E h=>?_⟩;dsimp only at h;refine a2 P0 P σ H _ ρ E ?_;cases q:f ρ with
 |bad|ex x=>rw[q] at h;exact h
 |ok d =>
  rw[q] at h;cases d with
  |lst ds =>
   intro v H1 s1 hv;cases hv with
   | @lst a xs _ hs hl =>
    refine⟨a,rfl,⟨xs,hs.Bj⟩,h _ H1 s1 ⟨λ i P' H' s hi=>?_,λ i P' H' s hi=>?_,λ i P' H' v ge d s ht hd y=>?_⟩⟩
    ·rw[K1] at hi;obtain⟨x,hx,_⟩:=hl.get (zg hi);exact⟨xs,x,(s.seq hs).Bj,hx⟩
    ·rw[K1] at hi;exact⟨xs,(s.seq hs).Bj,by rw[hl.length];exact hi⟩
    ·obtain⟨p,x,hn,rfl,y,rfl⟩:=y;obtain⟨d',cL,rfl⟩:=NO hd;obtain⟨x',hx,ca⟩:=hl.get cL;have e:=y xs (s.seq hs).Bj;rw[hx] at e;cases e;refine⟨AK hn _,.tup (Jf hn ht) (.cons ?_ (.cons ((ca.mono s).mono (AK hn _).del) .nil))⟩;rw[Nat.zero_add];exact .int _
  |_=>exact h.elim
theorem Ei {α:Type}{l:List α}{i:Nat}(h:i<l.length):l.drop i=l[i]::l.drop (i+1):=List.drop_eq_getElem_cons h
theorem Ej {body:List Stmt}(hp:PassesOwn (model X.prog X.w) X.A X.env X.xe)(hc:X.calm=true)(hi:DI X WX tg iter fi)(hg:DG X tg gt)(hb:Qn X WX body gb)(hs:∀x,foldedSetIterable iter X.env x=pure x:=by intro _;rfl):
 DS X WX (.For tg iter body [] pos) (λ ρ=>(fi ρ).bind λ ds=>forM gt gb ds ρ):=by
 obtain⟨wi,i1,i2⟩:=hi;obtain⟨t,a1,a2⟩:=hg;obtain⟨tb,b1,b2⟩:=hb;refine⟨_,Wr hp hc i1 a1 b1 hs,λ P0 P σ H Z ρ E h=>?_⟩;dsimp only at h;refine i2 P0 P σ H _ ρ E ?_;cases q:fi ρ with
 |bad=>rw[q] at h;exact h
 |ex x=>rw[q] at h;exact λ H' s=>h H' P (E.tr s)
 |ok ds =>
  rw[q] at h;simp only[M.A6] at h;intro J H1 s1 ok;refine⟨λ i m σ' H'=>m=ds.length-i/\i<=ds.length/\∃P' ρ',Tr P0 P H1 P' H'/\Ai X.K P0 P' H' σ' ρ'/\gS X.K WX P0 P' H' Z (forM gt gb (ds.drop i) ρ'),
   ⟨ds.length,by simp,zQ _,P,ρ,Tr.refl,E.same s1,by rw[xl];exact h.tr (E.tr s1)⟩,?_⟩
  rintro i m σ' H' ⟨rfl,hi,P',ρ',t',E',g'⟩;by_cases aj:i<ds.length
  ·refine .inr ⟨ok.go i P' H' t'.1 aj,λ σ2 H2=>i+1<=ds.length/\∃P2 ρ2,Tr P0 P H1 P2 H2/\Ai X.K P0 P2 H2 σ2 ρ2/\gS X.K WX P0 P2 H2 Z (forM gt gb (ds.drop (i+1)) ρ2),λ σ2 H2 hq=>⟨ds.length-(i+1),by omega,rfl,hq.1,hq.2⟩,λ v H2 y=>?_⟩;obtain⟨s2,hv⟩:=ok.YT i P' H' v H2 ds[i] t'.1 E'.BG (zg aj) y;rw[Ei aj,forM] at g';have E2:=E'.same s2;refine a2 P0 P' σ' H2 _ ρ' v ds[i] E2 hv ?_;cases q1:gt ds[i] ρ' with
   |bad=>rw[q1] at g';exact g'
   |ex x=>rw[q1] at g';exact g'.elim
   |ok ρ1 =>
    rw[q1] at g';dsimp only at g';intro σ3 E3;refine b2 P0 P' σ3 H2 _ ρ1 E3 ?_;have tt:Tr P0 P H1 P' H2:=t'.trans (E'.tr s2);cases q2:gb ρ1 with
    |bad=>rw[q2] at g';exact g'
    |ex x=>rw[q2] at g';exact gS.tr (m:=.ex x) g' (E'.tr s2)
    |ok o =>
     rw[q2] at g';cases o with
     |ret d=>exact gS.tr (m:=.ok (.ret d)) g' (E'.tr s2)
     |BL d=>exact gS.tr (m:=.ok (.BL d)) g' (E'.tr s2)
     |Eh d ρ2=>exact gS.tr (m:=.ok (.Eh d ρ2)) g' (E'.tr s2)
     |next ρ2|cont ρ2=>exact λ σ4 H4 P4 t4 E4=>⟨aj,P4,ρ2,tt.trans t4,E4,gS.tr g' ((E'.tr s2).trans t4)⟩
     |brk ρ2=>exact λ σ4 H4 P4 t4 E4=>g' σ4 H4 P4 ((E'.tr s2).trans t4) E4
  ·have e:i=ds.length:=by omega
   subst e;refine .inl ⟨ok.stop _ P' H' t'.1 (zv _),?_⟩;rw[yP,forM] at g';exact g' σ' H' P' Tr.refl E'
end
noncomputable def S7 (K:za)(n:Nat)(F:List D->M D):Sp:=λ vs H Q _=>vs.length=n/\∃P ds,(∀a,P a->EH H a)/\Ag K (del H P) vs ds/\gV K (λ _ _=>False) P H Q (F ds)
noncomputable def AI (N:List Str)(ds:List D):Aa:=ds.map (λ d=>some (.val d))++zD (N.length-ds.length) none
noncomputable def qZ:Cl->M D
 | .val d=>.ok d
 | .own ds=>.ok (.lst ds)
 | .ow (.rows FR)=>.ok (.lst (FR.map D.lst))
 | .ow (.HW _ _)=>.bad
 | .ow (.tree _ t)=>.ok (er t)
noncomputable def fin (m:M Out):M D:=match m with
 | .ok (.ret d)=>.ok d
 | .ok (.BL c)=>qZ c
 | .ok (.next _)=>.ok .Ay
 |_=>.bad
theorem NP {K:za}{P:Addr->Prop}{H:Hp}{N:List Str}{vs:List V}{ds:List D}(ht:∀a,P a->EH H a)(h:Ag K (del H P) vs ds):Ai K ⟨P,λ _=>0⟩ P H (start N vs) (AI N ds):=by
 have hl:=h.length;have key:∀(i:Nat) (c:Cl),(AI N ds)[i]?=some (some c)->∃d,ds[i]?=some d/\c=.val d:=λ i c e=>by
  unfold AI at e;by_cases hi:i<ds.length
  ·rw[yB (by simpa using hi),zw] at e;cases q:ds[i]? with
   |none=>rw[q] at e;cases e
   |some d=>rw[q] at e;cases e;exact⟨d,rfl,rfl⟩
  ·rw[xu (by simpa using hi),List.getElem?_replicate] at e;split at e<;>cases e
 refine⟨λ _ h=>h,ht,λ i d e=>?_,λ i es e io=>?_,λ i j c c' v v' fp ak e _ _ _ ho _ _=>?_,?_,λ i c n e hp=>?_⟩
 rotate_left 4
 ·obtain⟨d',q,z⟩:=key i _ e;cases z;cases hp
 ·obtain⟨d',q,z⟩:=key i _ e;cases z;obtain⟨v,hv,hd⟩:=h.get q;refine⟨v,?_,hd⟩;unfold start;rw[yB (by rw[ze];exact (zE.mp hv).1),zw,hv];rfl
 ·obtain⟨d',q,z⟩:=key i _ e;cases z;cases io
 ·obtain⟨d',q,z⟩:=key i _ e;cases z;exact ho.elim
 ·unfold start AI;simp[hl]
theorem Du {P:Addr->Prop}{H H':Hp}{P':Addr->Prop}(t:Tr P P H P' H'):Ad H H':=λ b o e=>by
 by_cases hb:P b
 ·rw[t.2 b hb];exact e
 ·exact (Aj (t.1 b o (by rw[Aq hb];exact e))).2
theorem Cq.hX {K:za}{H:Hp}{P P0:Addr->Prop}(hs:∀a,P0 a->P a):∀ {ps:List Addr}{FR:List (List D)},(∀a∈ps,¬ P0 a)->Cq K H P ps FR->Ag K (del H P0) (ps.map V.ref) (FR.map D.lst)
 |_,_,_,.nil=>.nil
 |_,_,k,.cons h r t=>.cons (.lst (.of (show del H P0 _=_ by rw[Aq (k _ zc)];exact h)) (r.mono (Cp hs))) (Cq.hX hs (λ a ha=>k a (zf _ ha)) t)
theorem Zn {K:za}{WX:Str->Hp->Prop}{P P2:Addr->Prop}{H H':Hp}{Q:VK}{c:Cl}{v:V}{fp:List Addr}(h:gV K WX P H Q (qZ c))(t':Tr P P H P2 H')(hs:∀a,P a->P2 a)(ht:∀a,P2 a->EH H' a)(ho:Ck K H' P2 c v fp)(hp:∀a∈fp,P2 a/\¬ P a):Q v H':=by
 cases c with
 |val d=>exact ho.elim
 |own ds =>
  obtain⟨p,xs,rfl,rfl,h1,h2⟩:=ho;exact h _ H' (Du t') (.lst (.of (show del H' P p=_ by rw[Aq (hp p zc).2];exact h1)) (h2.mono (Cp hs)))
 |ow o =>
  cases o with
  |rows FR =>
   obtain⟨p,ps,rfl,rfl,h1,h2⟩:=ho;exact h _ H' (Du t') (.lst (.of (show del H' P p=_ by rw[Aq (hp p zc).2];exact h1)) (h2.hX hs λ a ha=>(hp a (zf _ ha)).2))
  |HW p ds=>exact h.elim
  |tree p t=>exact h _ H' (Du t') (Bx.has hs (λ a ha=>(hp a ha).2) ho)
section
variable {P:Program}{w:World}{K:za}{mg:Str->Option Value}{base:Heap}
theorem mX {x qual:Str}{st:Stmt}{f:Addr}{fd:FuncData}{N ps:List Str}{k:Nat}(F:W6 K x qual st f fd)(S:Am N ps (A5 st))(g:Aa->M Out)
 (hb:∀(B7:Value) (A:Around) (outer:List Env) (s:Shared) (H:Hp) (E:XK),Bn k (A.deeper (envOfC qual (A5 st) s.heap.objs.size f B7))->Qn (L5 Z9 P w K mg base N qual (A5 st) f B7 A outer s H E).lI (λ _ _=>False) (Az st) g):
 CG P w K mg base Z9 (k+1) f fd ps (S7 K ps.length λ ds=>fin (g (AI N ds))):=by
 refine F.ok S (λ vs H Q E h=>h.1) λ B7 A outer s H vs Q E hr h=>?_;obtain⟨hl,P',ds,ht,hv,hq⟩:=h;obtain⟨t,h1,h2⟩:=hb B7 A outer s H E hr;refine⟨t,h1,h2 ⟨P',λ _=>0⟩ P' _ H _ _ (NP ht hv) ?_⟩;dsimp only at hq;revert hq;cases g (AI N ds) with
 |bad|ex x=>exact λ h=>h.elim
 |ok o =>
  cases o with
  |ret d=>exact λ h v H' P2 t hv=>h v H' (Du t) hv
  |next ρ=>exact λ h σ' H' P2 t E=>h .Ay H' (Du t) .Ay
  |brk ρ|cont ρ=>exact λ h=>h.elim
  |BL c=>exact λ h v fp H' P2 t hs ht ho hp nd=>Zn h t hs ht ho hp
  |Eh d ρ=>exact λ h=>h.elim
end
section
variable {X:Cx}{WX:Str->Hp->Prop}{c:Bool}{P0:Df}{P:Addr->Prop}{H:Hp}{σ:St}{ρ:Aa}{a b e tg iter:Expr}{f g:Aa->M D}{ft:Aa->M Bool}{pos:Pos}{gt:D->Aa->M Aa}{fi:Aa->M (List D)}{es:List Expr}{fs:Aa->M (List D)}
noncomputable def B2 (μ:List (Option Nat))(ρ:Aa):Aa:=μ.map λ o=>o.bind λ i=>match ρ[i]? with | some (some (.val d))=>some (.val d) | _=>none
theorem Hs {μ:List (Option Nat)}{ρ:Aa}{j:Nat}{cl:Cl}(h:(B2 μ ρ)[j]?=some (some cl)):∃i d,μ[j]?=some (some i)/\ρ[i]?=some (some (.val d))/\cl=.val d:=by
 unfold B2 at h;rw[zw] at h;cases q:μ[j]? with
 |none=>rw[q] at h;cases h
 |some o =>
  rw[q] at h;cases o with
  |none=>cases h
  |some i =>
   simp only[yt,Option.bind_some,Option.some.injEq] at h;split at h
   ·rename_i d e;cases h;exact⟨i,d,rfl,e,rfl⟩
   ·cases h
theorem Ai.block {K:za}(E:Ai K P0 P H σ ρ)(μ:List (Option Nat)):Ai K P0 P H (Iq μ σ) (B2 μ ρ):=by
 refine⟨E.sub,E.BG,λ j d h=>?_,λ j ds h io=>?_,λ j k c c' v v' fp ak h _ _ _ ho _ _=>?_,by unfold Iq B2;simp,λ j c n h hp=>by obtain⟨i,d',h1,h2,h3⟩:=Hs h;subst h3;cases hp⟩
 ·obtain⟨i,d',h1,h2,h3⟩:=Hs h;cases h3;obtain⟨v,h4,h5⟩:=E.val i d h2;refine⟨v,?_,h5⟩;unfold Iq;rw[zw,h1];simp[h4]
 ·obtain⟨i,d',h1,h2,h3⟩:=Hs h;cases h3;cases io
 ·obtain⟨i,d',h1,h2,h3⟩:=Hs h;cases h3;exact ho.elim
noncomputable def AM (gt:D->Aa->M Aa)(ft:Aa->M Bool)(fe:Aa->M D):List D->Aa->M (List D)
 |[],_=>.ok []
 |d::r,ρ=>match gt d ρ with
  | .ok ρ1=>(match ft ρ1 with
   | .ok k=>if k=true then (match fe ρ1 with
    | .ok y=>(match AM gt ft fe r ρ with | .ok ys=>.ok (y::ys)|_=>.bad)
    |_=>.bad) else AM gt ft fe r ρ
   |_=>.bad)
  |_=>.bad
def pA (X:Cx)(scope:Scope)(NB:List Str)(μ:List (Option Nat))(tg:Expr)(gt:D->Aa->M Aa):Prop:=
 ∃g:TG,(∀s H C ex,PG (blockOf X s H scope C NB ex) tg g)/\LO μ g/\∀P0 P σ H Q ρ v d,Ai X.K P0 P H σ ρ->Bw X.K (del H P) v d->gG X.K P0 P H Q (gt d ρ)->g v σ H Q
theorem Br {scope:Scope}{NB:List Str}{μ:List (Option Nat)}(i:Nat){x:Str}(hN:NB.Nodup)(hi:NB[i]?=some x)(hx:(relabel scope X.env).names.lookup x=some .local)(hm:μ[i]?=some none):pA X scope NB μ (.Name x pos) (λ d ρ=>.ok (ρ.set i (some (.val d)))):=
 ⟨Tf i,λ s H C ex=>Tg (X:=blockOf X s H scope C NB ex) hN hi (.inl hx) (.inr hx),Zf hm,λ P0 P σ H Q ρ v d E hv h=>h _ (E.X4 hv)⟩
def mY (X:Cx)(cs:List Expr)(f:Aa->M Bool):Prop:=
 ∃t,kI X cs t/\∀P0 P σ H Q ρ,Ai X.K P0 P H σ ρ->gT (λ _ _=>False) H Q (f ρ)->t σ H Q
theorem EK:mY X [] (λ _=>.ok true):=⟨_,Zd,λ P0 P σ H Q ρ E h=>h H (Ad.refl H)⟩
theorem Jk (h:DT X (λ _ _=>False) a ft):mY X [a] ft:=let ⟨t,h1,h2⟩:=h;⟨_,Ze h1,h2⟩
noncomputable def GI (m:M (List D)):M D:=match m with | .ok ys=>.ok (.lst ys) | _=>.bad
theorem hZ {μ:List (Option Nat)}{wi:TI}{gg:TG}{tc:Shared->Hp->Addr->List Addr->TT}{te:Shared->Hp->Addr->List Addr->TE}{fe:Aa->M D}
 (i2:∀P0 P σ H R ρ,Ai X.K P0 P H σ ρ->(match fi ρ with | .ok ds=>∀J H',Ad H H'->S5 X.K J P H' ds->R J H' | .ex x=>∀H',Ad H H'->WX x H' | .bad=>False)->wi σ H R)
 (g2:∀P0 P σ H Q ρ v d,Ai X.K P0 P H σ ρ->Bw X.K (del H P) v d->gG X.K P0 P H Q (gt d ρ)->gg v σ H Q)
 (t2:∀s H' C ex P0 P σ H Q ρ,Ai X.K P0 P H σ ρ->gT (λ _ _=>False) H Q (ft ρ)->tc s H' C ex σ H Q)
 (e2:∀s H' C ex P0 P σ H Q ρ,Ai X.K P0 P H σ ρ->gV X.K (λ _ _=>False) (Lv c P0 P) H Q (fe ρ)->te s H' C ex σ H Q) {Q:VK}
 (E:Ai X.K P0 P H σ ρ) (h:gV X.K WX (Lv c P0 P) H Q ((fi ρ).bind λ ds=>if ds.length<=1000 then GI (AM gt ft fe ds (B2 μ ρ)) else .bad)):Qh wi μ gg tc te σ H Q:=by
 refine i2 P0 P σ H _ ρ E ?_;cases q:fi ρ with
 |bad|ex x=>rw[q] at h;exact h
 |ok ds =>
  rw[q] at h;simp only[M.A6] at h;by_cases hd:¬ ds.length<=1000
  ·rw[if_neg hd] at h;exact h.elim
  have hd:ds.length<=1000:=by omega
  rw[if_pos hd] at h;intro J H1 s1 ok s C ex;cases qc:AM gt ft fe ds (B2 μ ρ) with
  |bad|ex x=>rw[qc] at h;exact h.elim
  |ok total =>
   rw[qc] at h;unfold GI at h;dsimp only at h;have E1:=E.same s1;refine⟨λ i m ys H2=>m=ds.length-i/\i<=ds.length/\ys.length<=i/\Ad H1 H2/\∃es rest,Ag X.K (del H2 (Lv c P0 P)) ys es/\AM gt ft fe (ds.drop i) (B2 μ ρ)=.ok rest/\es++rest=total,
    ⟨ds.length,by simp,zQ _,zv _,Ad.refl _,[],total,.nil,by rw[xl];exact qc,rfl⟩,?_⟩
   rintro i m ys H2 ⟨rfl,hi,hy,s2,es,rest,bA,ag,aH⟩;by_cases aj:i<ds.length
   ·refine .inr ⟨ok.go i P H2 s2.del aj,Nat.lt_of_le_of_lt hy (AA (by omega)),λ bd H'=>i+1<=ds.length/\bd.length<=i+1/\Ad H1 H'/\∃es rest,Ag X.K (del H' (Lv c P0 P)) bd es/\AM gt ft fe (ds.drop (i+1)) (B2 μ ρ)=.ok rest/\es++rest=total,λ bd H' hq=>⟨ds.length-(i+1),by omega,rfl,hq.1,hq.2.1,hq.2.2.1,hq.2.2.2⟩,λ v H3 y=>?_⟩;have E2:=E1.same s2;obtain⟨s3,hv⟩:=ok.YT i P H2 v H3 ds[i] s2.del E2.BG (zg aj) y;rw[Ei aj,AM] at ag;have E3:=(E2.same s3).block μ;refine g2 P0 P _ H3 _ (B2 μ ρ) v ds[i] E3 hv ?_;cases q1:gt ds[i] (B2 μ ρ) with
    |bad|ex x=>rw[q1] at ag;cases ag
    |ok ρ1 =>
     rw[q1] at ag;dsimp only at ag;intro σ4 E4;refine t2 s H1 C ex P0 P σ4 H3 _ ρ1 E4 ?_;cases q2:ft ρ1 with
     |bad|ex x=>rw[q2] at ag;cases ag
     |ok k =>
      rw[q2] at ag;dsimp only at ag;intro H5 s5;cases k with
      |false =>
       simp only[zF,if_false] at ag ⊢;exact⟨aj,by omega,(s2.trans s3).trans s5,es,rest,(bA.mono s3.del).mono s5.del,ag,aH⟩
      |true =>
       simp only[if_true] at ag ⊢;refine e2 s H1 C ex P0 P σ4 H5 _ ρ1 (E4.same s5) ?_;cases q3:fe ρ1 with
       |bad|ex x=>rw[q3] at ag;cases ag
       |ok y' =>
        rw[q3] at ag;dsimp only at ag;cases q4:AM gt ft fe (ds.drop (i+1)) (B2 μ ρ) with
        |bad|ex x=>rw[q4] at ag;cases ag
        |ok jc =>
         rw[q4] at ag;cases ag;intro w H6 s6 hw;refine⟨aj,by rw[zM,yC];omega,((s2.trans s3).trans s5).trans s6,es++[y'],jc,(((bA.mono s3.del).mono s5.del).mono s6.del).snoc hw,rfl,?_⟩;rw[yn];exact aH
   ·have e:i=ds.length:=by omega
    subst e;rw[yP,AM] at ag;cases ag;rw[zX] at aH;subst aH;refine .inl ⟨ok.stop _ P H2 s2.del (zv _),λ D0 hn=>h _ _ ((s1.trans s2).trans (AK hn _)) (.lst (.of (Jf hn λ a q=>(E1.same s2).mQ c a q)) (bA.mono (AK hn _).del))⟩
theorem Lk {scope:Scope}{NB:List Str}{ifs:List Expr}{elt:Expr}{fe:Aa->M D}(i:Nat){x:Str}{px aK:Pos}(μ:List (Option Nat))(hN:X.N.Nodup)(ni:X.N[i]?=some x)(hx:Loc X.env.scope x)(hc:X.calm=true)(hi:DI X WX tg iter fi)(aD:Jb scope X.env.scope=true)(bG:OR X.N NB scope μ=true)(hg:pA X scope NB μ tg gt)
 (ht:∀s H C ex,mY (blockOf X s H scope C NB ex) ifs ft) (he:∀s H C ex,DE (blockOf X s H scope C NB ex) (λ _ _=>False) true elt fe)
 (bp:swapsWith (.ListComp elt [⟨tg,iter,ifs,0⟩] scope pos) (some (.Name x px)) aK.line X.env=pure true:=by rfl) (hs:∀x,foldedSetIterable iter X.env x=pure x:=by intro _;rfl) (hf:X.fn x=true\/X.env.scope.names.lookup x=some .local:=by first|exact .inl rfl|exact .inr rfl|assumption):
 DS X WX (.Assign [.Name x px] (.ListComp elt [⟨tg,iter,ifs,0⟩] scope pos) aK) (λ ρ=>((fi ρ).bind λ ds=>if ds.length<=1000 then GI (AM gt ft fe ds (B2 μ ρ)) else .bad).bind λ d=>.ok (.next (ρ.set i (some (.val d))))):=by
 obtain⟨wi,i1,i2⟩:=hi;obtain⟨gg,g1,gk,g2⟩:=hg;refine⟨_,Zg hN ni hx hc i1 aD bG gk (λ s H C ex=>⟨g1 s H C ex,(zb (ht s H C ex)).1,(zb (he s H C ex)).1⟩) bp hs hf,λ P0 P σ H Z ρ E h=>?_⟩;refine hZ (c:=true) i2 g2 (λ s H' C ex P0 P σ H Q ρ E h=>(zb (ht s H' C ex)).2 P0 P σ H Q ρ E h) (λ s H' C ex P0 P σ H Q ρ E h=>(zb (he s H' C ex)).2 P0 P σ H Q ρ E h) E ?_;dsimp only at h;revert h;cases ((fi ρ).bind λ ds=>if ds.length<=1000 then GI (AM gt ft fe ds (B2 μ ρ)) else .bad) with
 |bad=>exact λ h=>h
 |ex y=>exact λ h H' s=>h H' P (E.tr s)
 |ok d=>exact λ h v H' s hv=>h _ H' P (E.tr s) ((E.same s).X4 hv)
end
section
variable {X:Cx}{WX:Str->Hp->Prop}{c:Bool}{P0:Df}{P:Addr->Prop}{H:Hp}{σ:St}{ρ:Aa}{a b e k:Expr}{f g:Aa->M D}{te tk:TE}{pos p2:Pos}
noncomputable def uK (x y:D):M D:=match x,y with | .lst ds,.int i=>if i = -1 then .ok (.lst ds.reverse) else .bad | _,_=>.bad
noncomputable def Cg:List D->Option (List Int)
 |[]=>some []
 | .int i::r=>(Cg r).map (i::·)
 |_=>none
noncomputable def X7:D->Option (List Int)
 | .tup ds=>Cg ds
 |_=>none
noncomputable def GJ:List D->Option (List (D×List Int))
 |[]=>some []
 |d::r=>(X7 d).bind λ k=>(GJ r).map ((d,k)::·)
noncomputable def Tz (l d:D):M D:=match l with
 | .lst ds=>(match GJ ds with|some ks=>.ok (match AQ ks with|none=>d|some b=>b.1)|none=>.bad)
 |_=>.bad
theorem K3 {K:za}{H:Hp}:∀ {xs:List V}{ds:List D}{ns:List Int},Ag K H xs ds->Cg ds=some ns->xs=ns.map V.int
 |_,_,_,.nil,e=>by simp only[Cg] at e;cases e;rfl
 |_,_,_,.cons (d:=d) h t,e=>by
  cases d with
  |int i =>
   simp only[Cg] at e;cases q:Cg _ with
   |none=>rw[q] at e;cases e
   |some ns =>
    rw[q] at e;cases e;rw[h.int_inv,K3 t q];rfl
  |_=>simp[Cg] at e
noncomputable abbrev Alike (K:za)(H:Hp):List (Addr×List Int)->List (D×List Int)->Prop:=Paired λ p q=>p.2=q.2/\Bw K H (.ref p.1) q.1
theorem Iw {K:za}{H:Hp}:∀ {xs:List V}{ds:List D}{ks:List (D×List Int)},Ag K H xs ds->GJ ds=some ks->∃bs:List (Addr×List Int),xs=bs.map (λ b=>V.ref b.1)/\(∀b∈bs,Gk K H b.1 (b.2.map V.int))/\Alike K H bs ks
 |_,_,_,.nil,e=>by simp only[GJ] at e;cases e;exact⟨[],rfl,by simp,.nil⟩
 |_,_,_,.cons (d:=d) h t,e=>by
  simp only[GJ] at e;cases q:X7 d with
  |none=>rw[q] at e;cases e
  |some k =>
   rw[q] at e;simp only[Option.bind_some] at e;cases q2:GJ _ with
   |none=>rw[q2] at e;cases e
   |some ks =>
    rw[q2] at e;cases e;obtain⟨bs,h1,h2,h3⟩:=Iw t q2;cases d with
    |tup es =>
     have h':=h;cases h with
     | @tup a xs _ hs hl =>
      simp only[X7] at q;have e1:=K3 hl q;subst e1;refine⟨(a,k)::bs,by rw[h1];rfl,λ b hb=>?_,.cons ⟨rfl,h'⟩ h3⟩;rcases zq.mp hb with z|z
      ·subst z;exact Gk.of hs
      ·exact h2 b z
    |_=>simp[X7] at q
theorem LW {K:za}{H:Hp}{bs:List (Addr×List Int)}{ks:List (D×List Int)}(h:Alike K H bs ks):(AQ bs=none/\AQ ks=none)\/∃b k,AQ bs=some b/\AQ ks=some k/\b.2=k.2/\Bw K H (.ref b.1) k.1:=by
 unfold AQ
 suffices z:∀(o:Option (Addr×List Int)) (o':Option (D×List Int)),((o=none/\o'=none)\/∃b k,o=some b/\o'=some k/\b.2=k.2/\Bw K H (.ref b.1) k.1)->
  ((bs.foldl By o=none/\ks.foldl By o'=none) \/
   ∃b k,bs.foldl By o=some b/\ks.foldl By o'=some k/\b.2=k.2/\Bw K H (.ref b.1) k.1) from z none none (.inl ⟨rfl,rfl⟩)
 induction h with
 |nil=>intro o o' h;exact h
 | @cons b k bs ks hh t ih =>
  intro o o' h;rw[zU,zU];refine ih _ _ ?_;rcases h with ⟨rfl,rfl⟩|⟨b',k',rfl,rfl,e1,e2⟩
  ·exact .inr ⟨b,k,rfl,rfl,hh⟩
  ·unfold By;dsimp only;rw[hh.1,e1];by_cases hl:HT.lexLt k.2 k'.2=true
   ·rw[if_pos hl,if_pos hl];exact .inr ⟨b,k,rfl,rfl,hh⟩
   ·rw[if_neg hl,if_neg hl];exact .inr ⟨b',k',rfl,rfl,e1,e2⟩
theorem Zo {p kp:Pos}{e2:Expr}(hc:X.calm=true)(hu:X.A.units+1<cLine)(hg:Gl X "min")(hm:X.mg "min" = none)(ha:DE X WX c e f)(hb:DE X WX c e2 g)
 (bc:starEach [e] X.env=[(false,eval e X.env)]:=by rfl) (bn:(backToKw pos (keywordEach [⟨some "default",e2,kp⟩] X.env)).all (·.1.isSome)=true:=by rfl) (f8:(backToKw pos (keywordEach [⟨some "default",e2,kp⟩] X.env)).filterMap (·.1)=([("default" : Str)]:List Str):=by rfl)
 (nr:(backToKw pos (keywordEach [⟨some "default",e2,kp⟩] X.env)).any (·.1.isNone)=false:=by rfl) (f9:backTo pos (starEach [e] X.env)=(false,eval e X.env)::backTo pos (starEach [] X.env):=by rfl) (a5:(backTo pos (starEach [e] X.env)).any (·.1)=false:=by rfl):
 DE X WX c (.Call (.Name "min" p) [e] [⟨some "default",e2,kp⟩] pos) (λ ρ=>(f ρ).bind λ x=>(g ρ).bind λ y=>Tz x y):=by
 obtain⟨ta,a1,a2⟩:=ha;obtain⟨tb,b1,b2⟩:=hb;refine⟨_,Zi hc hu hg hm a1 b1 bc bn f8 nr f9 a5,λ P0 P σ H Q ρ E h=>Qk (r:=λ x d H2 Q=>∃(a:Addr) (bs:List (Addr×List Int)),x=.ref a/\Dt X.K H2 a (bs.map λ b=>V.ref b.1)/\(∀b∈bs,Gk X.K H2 b.1 (b.2.map V.int))/\Q (match AQ bs with|none=>d|some b=>.ref b.1) H2) a2 b2 ?_ E h⟩;intro P H x y v w Q ht hx hy h;unfold Tz at h;split at h
 ·rename_i ds;split at h
  ·rename_i ks e1;cases hx with
   | @lst a xs _ hs hl =>
    obtain⟨bs,rfl,h2,h3⟩:=Iw hl e1;refine⟨a,bs,rfl,hs.Bj,λ b hb=>(h2 b hb).Bj,?_⟩;rcases LW h3 with ⟨q1,q2⟩|⟨b,k,q1,q2,_,q3⟩
    ·rw[q1];rw[q2] at h;exact h _ H (Ad.refl H) hy
    ·rw[q1];rw[q2] at h;exact h _ H (Ad.refl H) q3
  ·exact h.elim
 ·exact h.elim
end
theorem AY {A:Around}{k:Nat}(hr:Bn k A)(n:Nat)(hn:n<=64):A.units+n<cLine:=by have:=hr.units;omega
structure B4 (K:za)(mg:Str->Option Value)(x:Str)(st:Stmt)(ps:List Str):Prop where
 ex:∃f fd,W6 K x x st f fd/\mg x=some (.ref f)/\Binds K fd ps []
theorem X8 (ds:List D)(n:Nat):dY none (some (n:Int)) (.lst ds)=.ok (.lst (ds.take n)):=by
 unfold dY;dsimp only;rw[HT.Q7,HT.Lg,xl,Nat.sub_zero];congr 2;rw[Nat.min_def];split
 ·rfl
 ·rw[y6 (zv _),y6 (by omega)]
theorem AV.there {P:Program}{w:World}{H:Hp}{h:Heap}{a:Addr}{o:HO}(x:AV P w H h a o):∃ob,h.get? a=some ob:=by
 cases o with
 |lst xs=>obtain⟨_,_,_,_,e⟩:=x;exact⟨_,e⟩
 |tup xs=>obtain⟨_,_,_,o,e,_⟩:=x;exact⟨o,e⟩
 |dK kvs|dT kvs=>obtain⟨_,_,_,_,o,_,_,e,_⟩:=x;exact⟨_,e⟩
 |set S n=>obtain⟨o,_,_,_,e,_⟩:=x;exact⟨_,e⟩
 |ins C dx fs=>obtain⟨_,_,_,e,_⟩:=x;exact⟨_,e⟩
 |own y=>obtain⟨_,e⟩:=x;exact⟨_,e⟩
 |xd fs=>obtain⟨_,⟨_,_,_,e,_⟩,_⟩:=x;exact⟨_,e⟩
 |oS lo hi=>obtain⟨_,_,_,e⟩:=x;exact⟨_,e⟩
 |FJ ob u=>obtain⟨e,_⟩:=x;exact⟨_,e⟩
 |dI ps|met f y=>exact⟨_,(show h.get? a=some _ from x)⟩
 |ext φ=>obtain⟨_,⟨_,e⟩,_⟩:=x;exact⟨_,e⟩
theorem FK.gone {P:Program}{w:World}{H:Hp}{h:Heap}{a:Addr}(x:FK P w H h)(e:h.get? a=none):H a=none:=by
 cases q:H a with
 |none=>rfl
 |some o=>obtain⟨ob,z⟩:=(x a o q).there;rw[e] at z;cases z
structure iA (base g:Heap)(H:Hp)(l:List Env)(ea c:Addr)(h:Heap):Prop where
 wC:∃a0,Heap.FlyingW base l ea (.ref c) a0 h
 new:g.get? ea=none
 un:H ea=none
 tr:∀oe vs T,h.get? ea=some oe->oe.data=.fields vs->vs[1]?=some (.ref T)->H T=none/\g.get? T=none
noncomputable def RB (P:Program)(w:World)(base:Heap):RN:=λ outer H s E ev s'=>∃(ea c:Addr) (H':Hp),ev=.ref ea/\s'.os=s.os/\AllBare s'.gens/\Un (KG outer) [] H H' s.heap s'.heap/\FK P w H' s'.heap/\iA base s.heap H' outer ea c s'.heap/\E (.ref c) none H'
section
variable {P:Program}{w:World}{K:za}{mg:Str->Option Value}{base:Heap}{N:List Str}{qual:Str}{scope:Scope}{f:Addr}{cd:Value}{A:Around}{outer:List Env}{s:Shared}{H:Hp}{E:XK}
noncomputable abbrev TB (P:Program)(w:World)(K:za)(mg:Str->Option Value)(base:Heap)(N:List Str)(qual:Str)(scope:Scope)(f:Addr)(cd:Value)(A:Around)(outer:List Env)(s:Shared)(H:Hp)(E:XK):Cx:=
 L5 (RB P w base) P w K mg base N qual scope f cd A outer s H E
theorem dZ {pins:List (Addr×Obj)}{σ:St}{H1:Hp}{s1:Shared}{h' B:Heap}{ea c:Addr}{a0:Value}{hid:List Addr}(J:Inv (TB P w K mg base N qual scope f cd A outer s H E) pins σ H1 s1)
 (hB:∀b o,s1.heap.get? b=some o->b∉KG (envOfC qual scope s.heap.objs.size f cd::outer)->b∉hid->(H1 b≠none\/∃o',s.heap.get? b=some o')->B.get? b=some o) (u9:base.StaysIn B)
 (hh:∀b∈hid,H1 b=none/\s.heap.get? b=none) (hT:∀b,B.get? b=none->b∉KG (envOfC qual scope s.heap.objs.size f cd::outer)->H1 b=none/\s.heap.get? b=none)
 (uL:s.heap.get? ea=none) (nz:H1 ea=none) (F:Heap.FlyingW B outer ea (.ref c) a0 h') (cB:s1.heap.UpToSlots h') (q:E (.ref c) none H1):
 RB P w base outer H s E (.ref ea) {s1 with heap:=h' }:=by
 have n4:∀b∈KG outer,∃o,s1.heap.get? b=some o/\∀vs,o.data≠.fields vs:=λ b hb=>(J.J5.mem hb).2;have jd:∀b o,s.heap.get? b=some o->b≠s.heap.objs.size:=λ b o e=>zB (zt e);have dJ:∀b,b∈KG (envOfC qual scope s.heap.objs.size f cd::outer)->b=s.heap.objs.size\/b∈KG outer:=λ b hb=>by
  have a9:b∈s.heap.objs.size::KG outer:=hb;exact zq.mp a9
 have U:Un (KG outer) [] H H1 s.heap s1.heap:=J.base;have cq:∀b o,s.heap.get? b=some o->b∉hid:=λ b o e hb=>by rw[(hh b hb).2] at e;cases e
 have je:∀b o,H1 b≠none->s1.heap.get? b=some o->h'.get? b=some o:=λ b o hn e=>by
  refine F.1 b o (hB b o e (λ hb=>?_) (λ hb=>hn (hh b hb).1) (.inl hn));exact hn (J.OI b hb)
 refine⟨ea,c,H1,rfl,J.os,J.bare,⟨λ b o e n hb hx=>?_,λ b o e n hb hx=>?_,U.free,λ b o e hx=>?_,U.Lz,U.JR,U.LB⟩,λ b ob e=>?_,⟨⟨a0,?_⟩,uL,nz,λ oe vs T h1 h2 h3=>?_⟩,q⟩
 ·refine F.1 b o (hB b o (U.keep b o e n hb hx) (λ z=>?_) (cq b o e) (.inr ⟨o,e⟩));rcases dJ b z with z|z
  ·exact jd b o e z
  ·exact hb z
 ·obtain⟨sl,e1⟩:=U.slot b o e n hb hx;obtain⟨o2,e2,nf⟩:=n4 b hb;rw[e1] at e2;obtain⟨j9,e3⟩:=cB b _ e1 (by cases e2;exact nf);exact⟨j9,e3⟩
 ·obtain⟨o',e1⟩:=U.there b o e hx;by_cases hb:b∈KG outer
  ·obtain⟨o2,e2,nf⟩:=n4 b hb;obtain⟨j9,e3⟩:=cB b _ e2 nf;exact⟨_,e3⟩
  ·refine⟨o',F.1 b o' (hB b o' e1 (λ z=>?_) (cq b o e) (.inr ⟨o,e⟩))⟩;rcases dJ b z with z|z
   ·exact jd b o e z
   ·exact hb z
 ·refine (J.Ar b ob e).Ly (λ x v hx q=>je x v ?_ q) (λ _ q=>q) λ _ _ q=>q;rcases hx with rfl|hx
  ·rw[e];intro z;cases z
  ·rw[hx];intro z;cases z
 ·exact PySem.W.flyingW_base u9 F
 ·obtain⟨_,_,ff,wD,bq,T',oT,ts,k1,k2,k3,k4,k5,k6,k7,k8,k9⟩:=F;rw[show ({s1 with heap:=h' }:Shared).heap.get? ea=h'.get? ea from rfl,k1] at h1;cases h1;rw[k3] at h2;cases h2;rw[k4] at h3;cases h3;refine hT T k5 λ hb=>?_;rcases dJ T hb with z|z
  ·obtain⟨m,⟨oL,es,ep,cb,n5,_⟩,_⟩:=J.loc;obtain⟨sl,e3⟩:=cB s.heap.objs.size oL cb λ vs zz=>by rw[n5] at zz;cases zz
   rw[<-z,k7] at e3;cases e3;rw[show oL.data=_ from k8] at n5;cases n5
  ·obtain⟨o2,e2,nf⟩:=n4 T z;obtain⟨sl,e3⟩:=cB T o2 e2 nf;rw[k7] at e3;cases e3;exact nf ts k8
theorem X9 {l:List Env}:∀env∈l,∀a,env.frame=some a->a∈KG l:=λ env he a ha=>List.mem_filterMap.mpr ⟨env,he,ha⟩
theorem Zp {pins:List (Addr×Obj)}{σ:St}{H1:Hp}{s2:Shared}{h1:Heap}{ea C:Addr}{vs:List Value}(J:Inv (TB P w K mg base N qual scope f cd A outer s H E) pins σ H1 s2)(hx:Heap.MadeExcOf s2.heap h1 ea (.ref C) vs)(q:E (.ref C) none H1):
 (TB P w K mg base N qual scope f cd A outer s H E).xe (.ref ea) {s2 with heap:=h1}:=by
 have J1:Inv (TB P w K mg base N qual scope f cd A outer s H E) pins σ H1 {s2 with heap:=h1}:=J.kept (t':=s2.toks) hx.keeps;have fr:=J.stack;have gf:=X9 (l:=envOfC qual scope s.heap.objs.size f cd::outer);refine wpAny_leaves_madeW (base:=PySem.W.hideAll s2.heap (KG (envOfC qual scope s.heap.objs.size f cd::outer))) (outer:=outer) (L:=s.heap.objs.size) J.ok.frames rfl (λ b o e=>PySem.W.of_hideAll _ e) (PySem.W.funFrames_hide fr gf) hx λ h' t F ht wE cB=>?_;have cr:∀b,s2.heap.get? b=none->H1 b=none/\s.heap.get? b=none:=λ b e=>by
  refine⟨J.Ar.gone e,?_⟩;cases q:s.heap.get? b with
  |none=>rfl
  |some o=>obtain⟨o',z⟩:=J.base.there b o q (by simp[L5]);rw[e] at z;cases z
 refine dZ (B:=PySem.W.hideAll s2.heap (KG (envOfC qual scope s.heap.objs.size f cd::outer))) (hid:=[]) J1 (λ b o e hb _ uM=>?_) (λ b o e=>?_) (λ b z=>by cases z) (λ b e hb=>?_) (cr ea hx.new).2 (cr ea hx.new).1 F cB q
 ·have kg:∃o2,s2.heap.get? b=some o2:=by
   rcases uM with z|⟨o',z⟩
   ·cases q2:H1 b with
    |none=>exact absurd q2 z
    |some u=>exact (J.Ar b u q2).there
   ·exact J.base.there b o' z (by simp[L5])
  obtain⟨o2,e2⟩:=kg;have e3:=hx.keeps b o2 e2;rw[show ({s2 with heap:=h1}:Shared).heap.get? b=h1.get? b from rfl,e3] at e;cases e;exact yK _ e2 hb
 ·refine yK _ (J.bk b o e) λ hb=>?_;have z:base.get? b=none:=(fr.mem hb).1;rw[show base.get? b=some o from e] at z;cases z
 ·refine cr b ?_;cases q2:s2.heap.get? b with
  |none=>rfl
  |some o=>rw[yK _ q2 hb] at e;cases e
theorem Zq:EQ (RB P w base) (TB P w K mg base N qual scope f cd A outer s H E) E:=by
 intro pins σ H0 s0 ev s1 I h;obtain⟨ea,c,H1,rfl,uN,uO,U,Ar,⟨⟨a0,F⟩,aZ,sZ,uP⟩,q⟩:=h;have J:Inv (TB P w K mg base N qual scope f cd A outer s H E) pins σ H1 s1:=I.dM (ch:=[]) uN U Ar uO λ b hb=>by cases hb
 obtain⟨f1,f2,f3,oe,vs,T,oT,ts,k1,k2,k3,k4,k5,k6,k7,k8,k9⟩:=F;have hT:=uP oe vs T k1 k3 k4;have fr:=J.stack;have entry:∀b,s0.heap.get? b=none->s.heap.get? b=none:=λ b e=>by
  cases q:s.heap.get? b with
  |none=>rfl
  |some o=>obtain⟨o',z⟩:=I.base.there b o q (by simp[L5]);rw[e] at z;cases z
 have gf:∀env∈(envOfC qual scope s.heap.objs.size f cd::outer),∀a,env.frame=some a->a∈KG (envOfC qual scope s.heap.objs.size f cd::outer)++[ea,T]:=λ env he a ha=>zO _ (X9 env he a ha);have FB:Heap.FlyingW (PySem.W.hideAll s1.heap (KG (envOfC qual scope s.heap.objs.size f cd::outer)++[ea,T])) (envOfC qual scope s.heap.objs.size f cd::outer) ea (.ref c) a0 s1.heap:=
  ⟨λ b o e=>PySem.W.of_hideAll _ e,PySem.W.hideAll_none _ (by simp),PySem.W.funFrames_hide fr gf,oe,vs,T,oT,ts,k1,k2,k3,k4,PySem.W.hideAll_none _ (by simp),k6,k7,k8,k9⟩
 refine wpAny_leaves_onW (outer:=outer) (L:=s.heap.objs.size) J.ok.frames rfl FB λ h' F' cB=>?_;have jf:∀b,s1.heap.get? b=none->H1 b=none/\s.heap.get? b=none:=λ b e=>by
  refine⟨J.Ar.gone e,?_⟩;cases q:s.heap.get? b with
  |none=>rfl
  |some o=>obtain⟨o',z⟩:=J.base.there b o q (by simp[L5]);rw[e] at z;cases z
 have hid:∀b∈[ea,T],H1 b=none/\s.heap.get? b=none:=λ b hb=>by
  rcases zq.mp hb with z|z
  ·rw[z];exact⟨sZ,entry ea aZ⟩
  ·rw[zu.mp z];exact⟨hT.1,entry T hT.2⟩
 refine dZ (hid:=[ea,T]) J (λ b o e hb lg _=>yK _ e λ z=>(zL.mp z).elim hb lg) (λ b o e=>?_) hid (λ b e hb=>?_) (entry ea aZ) sZ F' cB q
 ·refine yK _ (J.bk b o e) λ hb=>?_;rcases zL.mp hb with hb|hb
  ·have z:base.get? b=none:=(fr.mem hb).1;rw[show base.get? b=some o from e] at z;cases z
  ·rcases zq.mp hb with z|z
   ·rw[z] at e;rw[show base.get? ea=some o from e] at f2;cases f2
   ·rw[zu.mp z] at e;rw[show base.get? T=some o from e] at k5;cases k5
 ·by_cases lg:b∈[ea,T]
  ·exact hid b lg
  ·refine jf b ?_;cases q2:s1.heap.get? b with
   |none=>rfl
   |some o=>rw[yK _ q2 λ z=>(zL.mp z).elim hb lg] at e;cases e
end
structure XCall (X:Cx)(E:XK):Prop where
 call:EQ (RB X.prog X.w X.base) X E
 own:PassesOwn (model X.prog X.w) X.A X.env X.xe
structure pB (X:Cx)(E:XK):Prop extends XCall X E where
 made:∀pins σ H s h' ea C vs,Inv X pins σ H s->Heap.MadeExcOf s.heap h' ea (.ref C) vs->E (.ref C) none H->X.xe (.ref ea) {s with heap:=h' }
theorem Ac {P:Program}{w:World}{K:za}{mg:Str->Option Value}{base:Heap}{N:List Str}{qual:Str}{scope:Scope}{f:Addr}{cd:Value}{A:Around}{outer:List Env}{s:Shared}{H:Hp}{E:XK}:
 pB (TB P w K mg base N qual scope f cd A outer s H E) E:=⟨⟨Zq,PassesOwn.leaving⟩,λ _ _ _ _ _ _ _ _ J hx q=>Zp J hx q⟩
theorem Ek {X:Cx}(h:X.xe=λ _ _=>False):pB X E0:=⟨⟨λ _ _ _ _ _ _ _ h=>by obtain⟨_,_,_,_,_,_,_,_,_,q⟩:=h;exact q.elim,by rw[h];exact PassesOwn.never⟩,λ _ _ _ _ _ _ _ _ _ _ q=>q.elim⟩
def Cm (K:za)(E:XK):Str->Hp->Prop:=λ x H=>∃c,zd K mainGlobals x=some (some (.ref c))/\E (.ref c) none H
section
variable {X:Cx}{E:XK}{WX:Str->Hp->Prop}{c:Bool}{e:Expr}{es:List Expr}{fs:Aa->M (List D)}{f:Aa->M D}{ft:Aa->M Bool}{pos:Pos}
theorem Zr {K:za}{h₀:Heap}{C:Addr}{tj:List Value}{newId:String}(X:K.In h₀)(q:yO K C tj newId=true):
 ∃bm N nm q bs hdct sn sub ab col dd k0 k1 k2 k3 k5 mN,h₀.get? C=some (excClassObj nm q C N bs bm hdct sn sub ab col dd k0 k1 k2 k3 k5 newId)/\h₀.Ns N mN/\mN "__init__" = none/\OwnTail h₀ tj bm:=by
 unfold yO at q;split at q
 ·rename_i dd cd sl ho;split at q
  ·rename_i C' bm k0 k1 k2 k3 n k5 hm hs;simp only[zW,beq_iff_eq,Bool.not_eq_true'] at q;obtain⟨⟨⟨⟨⟨rfl,rfl⟩,jg⟩,ht⟩,Ar⟩,lh⟩:=q;obtain⟨nm,bs,mro,ns,qn,hd,sn,sub,ab,col,del⟩:=cd;dsimp only at hm jg Ar lh;subst hm jg;have cB:sl=#[k0,k1,k2,k3,some (.builtin n),k5]:=by
    obtain⟨l⟩:=sl;simp only at hs;rw[hs]
   subst cB;exact⟨bm,ns,nm,qn,bs,hd,sn,sub,ab,col,dd,k0,k1,k2,k3,k5,_,X _ _ ho,.of_isNs (PySem.W.isNs_of_in X Ar),PySem.W.nsMap_none_of_in X Ar lh,PySem.W.tail_of_in X ht⟩
  ·cases q
 ·cases q
theorem Xa {x:Str}{np ac:Pos}{C:Addr}{B newId gh:String}{bm:List Value}(xo:pB X E)(hc:X.calm=true)(FB:ExcBaseFacts B newId gh bm)(fj:zd X.K mainGlobals x=some (some (.ref C)))(hq:yO X.K C bm newId=true)(hg:Gl X x)(hm:X.mg x=some (.ref C))
 (ha:DE X (Cm X.K E) c e f) (aJ:(x==("__debug__" : Str))=false:=by decide) (he:starEach [e] X.env=[(false,eval e X.env)]:=by rfl) (aq:(backTo ac (starEach [e] X.env)).any (·.1)=false:=by rfl):
 DS X (Cm X.K E) (.Raise (some (.Call (.Name x np) [e] [] ac)) none pos) (λ ρ=>(f ρ).bind λ _=>.ex x):=by
 obtain⟨ta,a1,a2⟩:=ha;refine⟨λ Z σ H=>ta σ H λ y H1=>(([y]:List V).length=1/\E (.ref C) none H1),?_,λ P0 P σ H Z ρ E h=>?_⟩
 ·intro pins s σ H D I h;obtain⟨tl,N,nm,q,bs,hdct,sn,sub,ab,col,dd,k0,k1,k2,k3,k5,mN,hC,hN,lh,T⟩:=Zr I.mod.eX hq;refine wpAny_Raise_call_subT (C:=C) (nm:=nm) (q:=q) (N:=N) (bs:=bs) (bm:=tl) (hdct:=hdct) (sn:=sn) (sub:=sub) (ab:=ab) (col:=col) (dd:=dd) (k0:=k0) (k1:=k1) (k2:=k2) (k3:=k3) (k5:=k5)
   FB (mN:=mN) (T.hasType FB.hasBase) (I.ok.hd hc) aq lh (Lf I hg hm ⟨rfl,?_⟩ aJ)
  rw[he];have pa:=(Bc a1 C4 he) ac pins s σ H (λ vs H1=>vs.length=1/\E (.ref C) none H1) I ?_
  ·rw[he] at pa;refine Calls.evalArgs_plain (Bb pa λ vs s2 ⟨xs,H2,I2,r2,q2⟩=>⟨rfl,?_,I2.bk _ _ hC,hN.keeps I2.bk,T.keeps I2.bk,λ h' ea hx=>xo.made pins σ H2 s2 h' ea C _ I2 hx q2.2⟩);rw[<-r2.length,q2.1];exact yd (AA (by decide))
  ·exact h
 ·dsimp only at h;refine a2 P0 P σ H _ ρ E ?_;cases q:f ρ with
  |bad=>rw[q] at h;exact h
  |ex x=>rw[q] at h;exact λ H' s=>h H' P (E.tr s)
  |ok d =>
   rw[q] at h;intro v H1 s1 hv;obtain⟨c',h1,h2⟩:=h H1 P (E.tr s1);rw[fj] at h1;cases h1;exact⟨rfl,h2⟩
end
section
variable {X:Cx}{WX:Str->Hp->Prop}{c:Bool}{a b e:Expr}{f g:Aa->M D}{pos p:Pos}
noncomputable def tD (x y:D):M D:=match x,y with
 | .int i,.int j=>.ok (.int (i+j))
 | .lst ds,.lst es=>if ds.length+es.length<=1000 then .ok (.lst (ds++es)) else .bad
 |_,_=>.bad
noncomputable def pC (neg:Bool)(x y:D):M D:=match x,y with
 | .int i,.lst ds=>(match Cg ds with|some ns=>.ok (.bl (if neg then !ns.contains i else ns.contains i))|none=>.bad)
 |_,_=>.bad
theorem Xb (i:Int)(ns:List Int):oX (.int i) (ns.map V.int)=ns.contains i:=by
 unfold oX;induction ns with
 |nil=>rfl
 |cons n r ih =>
  rw[zh,xr,ih,List.contains_cons];congr 1;show (n==i)=(i==n);rw[xf,beq_iff_eq,beq_iff_eq];exact eq_comm
theorem UX (ns:List Int):(ns.map V.int).all J9=true:=by
 induction ns with
 |nil=>rfl
 |cons n r ih=>rw[zh,xt,ih];rfl
theorem GK {neg:Bool}:Tv X.K WX (oY X.K neg) (pC neg):=by
 intro P H x y v w Q ht hx hy h;unfold pC at h;split at h
 ·rename_i i ds;split at h
  ·rename_i ns hn;cases hx;cases hy with
   |lst h1 h2 =>
    have e:=K3 h2 hn;subst e;refine⟨_,_,rfl,.inl h1.Bj,rfl,UX ns,?_⟩;rw[Xb];exact h _ H (Ad.refl H) (.bl _)
  ·exact h.elim
 ·exact h.elim
end
structure ClsAt (K:za)(mg:Str->Option Value)(x:Str):Prop where
 ex:∃C,zd K mainGlobals x=some (some (.ref C))/\mg x=some (.ref C)/\yO K C [.type "ValueError",.type "Exception",.type "BaseException",.type "object"] "ValueError.__new__" = true
noncomputable def one (x:Str)(b:Bool):Str->Option Bool:=λ y=>if y=x then some b else none
section
variable {X:Cx}{E:XK}{WX:Str->Hp->Prop}{c:Bool}{e:Expr}{f:Aa->M D}{pos p:Pos}
theorem K4 {x:Str}{np ac:Pos}(T:ClsAt X.K X.mg x)(xo:pB X E)(hc:X.calm=true)(hg:Gl X x)(ha:DE X (Cm X.K E) c e f)(aJ:(x==("__debug__" : Str))=false:=by decide)(he:starEach [e] X.env=[(false,eval e X.env)]:=by rfl)(aq:(backTo ac (starEach [e] X.env)).any (·.1)=false:=by rfl):
 DS X (Cm X.K E) (.Raise (some (.Call (.Name x np) [e] [] ac)) none pos) (λ ρ=>(f ρ).bind λ _=>.ex x):=by
 obtain⟨C,h1,h2,h3⟩:=T.ex;exact Xa xo hc PySem.F.excBase_ValueError h1 h3 hg h2 ha aJ he aq
end
def Qp (i j:Int):Prop:=(i.natAbs<2^1000/\j.natAbs<2^1000)\/Ws i j
instance (i j:Int):Decidable (Qp i j):=by unfold Qp;infer_instance
theorem NQ {i:Int}(h:i.natAbs<2^1000):yl i<=2^20:=by
 unfold yl;split
 ·exact zQ _
 ·rename_i z;have h0:i.natAbs≠0:=λ q=>z (by rw[Int.natAbs_eq_zero.mp q];rfl);have:=(Nat.log2_lt h0).mpr h;have h3:(1000:Nat)<=2^20:=by decide
  exact yk this h3
theorem Qp.ok {i j:Int}(h:Qp i j):IntMulOk i j:=by
 rcases h with ⟨h1,h2⟩|h
 ·exact IntMulOk.of_bits (NQ h1) (NQ h2)
 ·exact h.ok
theorem Jl {gt:D->Aa->M Aa}{ft:Aa->M Bool}{fe:Aa->M D}{ρ:Aa}(p:D->Bool)(f:D->D):∀(ds:List D),(∀d∈ds,∃ρ1,gt d ρ=.ok ρ1/\ft ρ1=.ok (p d)/\(p d=true->fe ρ1=.ok (f d)))->AM gt ft fe ds ρ=.ok ((ds.filter p).map f)
 |[],_=>rfl
 |d::r,h=>by
  obtain⟨ρ1,h1,h2,h3⟩:=h d zc;have ih:=Jl p f r λ d hd=>h d (zf _ hd);rw[AM,h1];dsimp only;rw[h2];dsimp only;by_cases hp:p d=true
  ·rw[if_pos hp,h3 hp];dsimp only;rw[ih,List.filter_cons_of_pos hp];rfl
  ·rw[if_neg hp,ih,List.filter_cons_of_neg hp]
theorem LX (n:Nat):C6 0 n=(zR n).map λ i:Nat=>D.int (i:Int):=by
 apply List.ext_getElem?;intro i;rw[zw];by_cases h:i<n
 ·have hi:i<(C6 0 n).length:=by rw[CP];exact h
  have e:=zg hi;obtain⟨h1,_⟩:=FT e;rw[e,h1,yM h,Int.zero_add];rfl
 ·rw[yg (by rw[CP];omega),yg (by simp;omega)];rfl
theorem DD (ns:List Int):Cg (ns.map D.int)=some ns:=by
 induction ns with
 |nil=>rfl
 |cons n r ih=>rw[zh,Cg,ih];rfl
theorem Xc (ds:List D)(n:Nat):dY (some (n:Int)) none (.lst ds)=.ok (.lst (ds.drop n)):=by
 unfold dY;dsimp only;rw[HT.Q7,HT.Lg];congr 2;by_cases h:n<=ds.length
 ·rw[Nat.min_eq_left h,y6 (by rw[xy];exact zv _)]
 ·rw[Nat.min_eq_right (by omega),List.drop_of_length_le (zv _),List.drop_of_length_le (by omega),List.take_nil]
def Pl (n:Nat)(d:D):Prop:=J2 d<=n/\AG d=true
theorem P9 {n:Nat}:∀ {ds:List D},(∀d∈ds,J2 d<=n)->L7 ds<=n
 |[],_=>by rw[L7];exact zQ _
 |d::r,h=>by
  rw[L7];exact Nat.max_le.mpr ⟨h d zc,P9 λ d hd=>h d (zf _ hd)⟩
theorem Pa:∀ {ds:List D},(∀d∈ds,AG d=true)->LP ds=true
 |[],_=>by rw[LP]
 |d::r,h=>by
  rw[LP,h d zc,Pa λ d hd=>h d (zf _ hd)];rfl
theorem C7 {n:Nat}(i:Int):Pl n (.int i):=⟨by rw[J2];exact zQ _;all_goals simp,by rw[AG];all_goals simp⟩
theorem S8 {n:Nat}:Pl n .Ay:=⟨by rw[J2];exact zQ _;all_goals simp,by rw[AG];all_goals simp⟩
theorem Pb {n:Nat}{ds:List D}(h:∀d∈ds,Pl n d):Pl (n+1) (.tup ds):=
 ⟨by rw[J2];exact Nat.succ_le_succ (P9 λ d hd=>(h d hd).1),by rw[AG];exact Pa λ d hd=>(h d hd).2⟩
theorem S9 {n:Nat}{ds:List D}(h:∀d∈ds,Pl n d):Pl (n+1) (.lst ds):=
 ⟨by rw[J2];exact Nat.succ_le_succ (P9 λ d hd=>(h d hd).1),by rw[AG];exact Pa λ d hd=>(h d hd).2⟩
theorem Ll {n:Nat}(ns:List Int):Pl (n+1) (.lst (ns.map D.int)):=S9 λ d hd=>by
 obtain⟨i,_,rfl⟩:=zJ.mp hd;exact C7 i
theorem Pl.le {n m:Nat}{d:D}(h:Pl n d)(k:n<=m):Pl m d:=⟨yk h.1 k,h.2⟩
theorem Pc {n:Nat}:∀d∈([]:List D),Pl n d:=λ d h=>by cases h
theorem D5 {n:Nat}{d:D}{ds:List D}(h:Pl n d)(t:∀d∈ds,Pl n d):∀e∈d::ds,Pl n e:=λ e he=>by
 rcases zq.mp he with rfl|he
 ·exact h
 ·exact t e he
theorem Sa {n:Nat}{x y:D}(h:Pl n x)(k:Pl n y):Zl n x y=.ok (.bl (Av x y)):=by
 unfold Zl;rw[if_pos ⟨h.1,h.2,k.2⟩]
theorem Sb {n:Nat}{x y:D}(h:Pl n x)(k:Pl n y):WV n x y=.ok (.bl (!Av x y)):=by
 unfold WV;rw[if_pos ⟨h.1,h.2,k.2⟩]
theorem El {n:Nat}{x:D}(h:Pl n x):WV n x x=.ok (.bl false):=by rw[Sb h h,Jd];rfl
theorem NR {gt:D->Aa->M Aa}{ft:Aa->M Bool}{fe:Aa->M D}{ρ:Aa}(f:D->D)(ds:List D)(h:∀d∈ds,∃ρ1,gt d ρ=.ok ρ1/\ft ρ1=.ok true/\fe ρ1=.ok (f d)):AM gt ft fe ds ρ=.ok (ds.map f):=by
 rw[Jl (λ _=>true) f ds λ d hd=>by
  obtain⟨ρ1,h1,h2,h3⟩:=h d hd;exact⟨ρ1,h1,h2,λ _=>h3⟩]
 rw[List.filter_eq_self.mpr λ _ _=>rfl]
theorem Zs (ds:List D)(a b:Nat):dY (some (a:Int)) (some (b:Int)) (.lst ds)=.ok (.lst ((ds.drop a).take (b-a))):=by
 unfold dY;dsimp only;rw[HT.Lg,HT.Lg];congr 2;by_cases h:a<=ds.length
 ·rw[Nat.min_eq_left h];by_cases h2:b<=ds.length
  ·rw[Nat.min_eq_left h2]
  ·rw[Nat.min_eq_right (by omega),y6 (by rw[xy];exact zv _),y6 (by rw[xy];omega)]
 ·rw[Nat.min_eq_right (show ds.length<=a by omega),List.drop_of_length_le (zv _),List.drop_of_length_le (show ds.length<=a by omega),List.take_nil,List.take_nil]
section
variable {X:Cx}{WX:Str->Hp->Prop}{c:Bool}{P0:Df}{P:Addr->Prop}{H:Hp}{σ:St}{ρ:Aa}{a b e:Expr}{f g:Aa->M D}{ft gt:Aa->M Bool}{pos:Pos}{st:Stmt}{rest:List Stmt}{g1 g2:Aa->M Out}
theorem Qq {K:za}{H:Hp}{v:V}{d:D}(h:Bw K H v d):∀n:Nat,Ag K H (zD n v) (zD n d)
 |0=>.nil
 |n+1=>by rw[y8,y8];exact .cons h (Qq h n)
theorem Qr {K:za}{H:Hp}{v:V}{d:D}(h:Bw K H v d):∀ {vs:List V}{ds:List D}(n:Nat),Ag K H vs ds->Ag K H (vs.set n v) (ds.set n d)
 |_,_,_,.nil=>.nil
 |_,_,0,.cons _ t=>.cons h t
 |_,_,n+1,.cons a t=>.cons a (Qr h n t)
noncomputable def uQ (i:Nat)(ρ:Aa)(d k:D):M Out:=match k with
 | .int j=>if 0<=j/\j.toNat<=1000 then .ok (.next (ρ.set i (some (.own (zD j.toNat d))))) else .bad
 |_=>.bad
theorem NS {α:Type}(v:α):∀n:Nat,(zD n [v]).flatten=zD n v
 |0=>rfl
 |n+1=>by rw[y8,List.flatten_cons,NS v n];rfl
noncomputable def iB (i:Nat)(ρ:Aa)(ds:List D)(d k:D):M Out:=match k with
 | .int j=>(match RQ ds.length j with|some n=>.ok (.next (ρ.set i (some (.own (ds.set n d)))))|none=>.bad)
 |_=>.bad
noncomputable def Zt (i:Nat)(ρ:Aa)(m:M D)(d:D):M Out:=match ρ[i]? with
 |some (some (.own ds))=>m.bind (iB i ρ ds d)
 |_=>.bad
theorem Xd (i:Nat){x:Str}{p1 aK:Pos}(hv:PE X (.Name x p1) (OJ i))(ha:DE X WX true a f)(hk:DE X WX true b g)
 (hs:swapsWithSole [.Subscript (.Name x p1) b aK] a pos.line X.env=pure false:=by rfl) (hw:swappedStores [.Subscript (.Name x p1) b aK] a X.env=pure none:=by rfl) (h1:(assignEach [.Subscript (.Name x p1) b aK] X.env).map (·.2)=[assign (.Subscript (.Name x p1) b aK) X.env]:=by rfl)
 (n6:∀v,assign (.Subscript (.Name x p1) b aK) X.env v=(do
  let ov <-holding [v] (eval (.Name x p1) X.env);let iv <-holding [v,ov] (eval b X.env)
  standAt aK
  holding [v,ov,iv] (setItem ov iv v)
  release [v,ov,iv] []):=by intro _;rfl):
 DS X WX (.Assign [.Subscript (.Name x p1) b aK] a pos) (λ ρ=>(f ρ).bind (Zt i ρ (g ρ))):=by
 obtain⟨ta,a1,a2⟩:=ha;obtain⟨tb,b1,b2⟩:=hk;refine⟨_,fM a1 (fL hv b1 set_list n6) hs hw h1,λ P0 P σ H Z ρ E h=>?_⟩;dsimp only at h;refine a2 P0 P σ H _ ρ E ?_;cases q:f ρ with
 |bad=>rw[q] at h;exact h
 |ex x=>rw[q] at h;exact λ H' s=>h H' P (E.tr s)
 |ok d =>
  rw[q] at h;simp only[M.A6] at h;intro v H1 s1 hv;have E1:=E.same s1;unfold Zt at h;split at h
  ·rename_i ds e1;obtain⟨p,xs,h1,h2,h3,h4,h5⟩:=E1.own i ds e1;refine⟨_,h1,b2 P0 P σ H1 _ ρ E1 ?_⟩;cases q2:g ρ with
   |bad=>rw[q2] at h;exact h.elim
   |ex x=>rw[q2] at h;exact λ H' s2=>h H' P ((E.tr s1).trans (E1.tr s2))
   |ok k =>
    rw[q2] at h;simp only[M.A6] at h;unfold iB at h;intro w H2 s2 hw;split at h
    ·rename_i j;cases hw;split at h
     ·rename_i n en;have E2:=E1.same s2;refine⟨p,xs,j,n,rfl,rfl,s2 _ _ h2,by rw[h5.length];exact en,?_⟩;obtain⟨E3,t3⟩:=E2.mut e1 h1 h3 h4 (Qr (hv.mono s2.del) n (h5.mono s2.del));exact h _ _ _ ((E.tr s1).trans ((E1.tr s2).trans t3)) E3
     ·exact h.elim
    ·exact h.elim
  ·exact h.elim
noncomputable def Aw (c:Aa->M Bool)(b:Aa->M Out):Nat->Aa->M Out
 |0,_=>.bad
 |n+1,ρ=>match c ρ with
  | .ok true=>(match b ρ with
   | .ok (.next ρ')| .ok (.cont ρ')=>Aw c b n ρ'
   | .ok (.brk ρ')=>.ok (.next ρ')
   |r=>r)
  | .ok false=>.ok (.next ρ)
  | .ex x=>.ex x
  | .bad=>.bad
noncomputable def KN (c:Aa->M Bool)(b:Aa->M Out)(ρ:Aa):M Out:=
 @dite _ (∃n,Aw c b n ρ≠.bad) (yE _) (λ h=>Aw c b (zo h) ρ) (λ _=>.bad)
theorem Ci {c:Aa->M Bool}{b:Aa->M Out}:∀ {n:Nat}{ρ:Aa},Aw c b n ρ≠.bad->∀m,Aw c b (n+m) ρ=Aw c b n ρ
 |0,ρ,h,m=>(h rfl).elim
 |n+1,ρ,h,m=>by
  rw[show n+1+m=(n+m)+1 by omega];rw[Aw] at h;rw[Aw,Aw];cases q:c ρ with
  |bad|ex x=>rfl
  |ok k =>
   rw[q] at h;cases k with
   |false=>rfl
   |true =>
    dsimp only at h ⊢;cases q2:b ρ with
    |bad|ex x=>rfl
    |ok o =>
     rw[q2] at h;cases o with
     |next ρ'=>dsimp only at h ⊢;exact Ci h m
     |cont ρ'=>dsimp only at h ⊢;exact Ci h m
     |brk ρ'=>rfl
     |ret d|BL d|Eh d ρ2=>rfl
theorem Xe {c:Aa->M Bool}{b:Aa->M Out}{n:Nat}{ρ:Aa}(h:Aw c b n ρ≠.bad):KN c b ρ=Aw c b n ρ:=by
 unfold KN;have hx:∃n,Aw c b n ρ≠.bad:=⟨n,h⟩;rw[dif_pos hx];have hc:=zb hx;have e1:=Ci h (zo hx);have e2:=Ci hc n;rw[Nat.add_comm] at e2;rw[<-e1,e2]
theorem UY {c:Aa->M Bool}{b:Aa->M Out}{ρ:Aa}(h:KN c b ρ≠.bad):∃n,Aw c b n ρ≠.bad/\KN c b ρ=Aw c b n ρ:=by
 by_cases hx:∃n,Aw c b n ρ≠.bad
 ·obtain⟨n,hn⟩:=hx;exact⟨n,hn,Xe hn⟩
 ·exact (h (by unfold KN;rw[dif_neg hx])).elim
theorem mZ {K:za}{Z:Ends}{m:M Out}(h:gS K WX P0 P H Z m):m≠.bad:=λ e=>by rw[e] at h;exact h
theorem Qs {body:List Stmt}(hp:PassesOwn (model X.prog X.w) X.A X.env X.xe)(hc:DT X WX a ft)(hb:Qn X WX body g1):DS X WX (.While a body [] pos) (KN ft g1):=by
 obtain⟨tc,c1,c2⟩:=hc;obtain⟨tb,b1,b2⟩:=hb;refine⟨_,Wm hp c1 b1,λ P0 P σ H Z ρ E h=>?_⟩;obtain⟨n,hn,en⟩:=UY (mZ h);rw[en] at h;refine⟨λ m σ' H'=>∃ρ' P',Ai X.K P0 P' H' σ' ρ'/\Tr P0 P H P' H'/\gS X.K WX P0 P' H' Z (Aw ft g1 m ρ'),⟨n,ρ,P,E,Tr.refl,h⟩,?_⟩;rintro m σ1 H1 ⟨ρ1,P1,E1,t1,h1⟩;cases m with
 |zero=>exact h1.elim
 |succ m =>
  rw[Aw] at h1;refine c2 P0 P1 σ1 H1 _ ρ1 E1 ?_;cases q:ft ρ1 with
  |bad=>rw[q] at h1;exact h1
  |ex x=>rw[q] at h1;exact λ H2 s2=>h1 H2 P1 (E1.tr s2)
  |ok k =>
   rw[q] at h1;intro H2 s2;have E2:=E1.same s2;cases k with
   |false =>
    rw[if_neg (by simp)];exact h1 σ1 H2 P1 (E1.tr s2) E2
   |true =>
    rw[if_pos rfl];dsimp only at h1;refine⟨λ σ' H'=>∃ρ' P',Ai X.K P0 P' H' σ' ρ'/\Tr P0 P H P' H'/\gS X.K WX P0 P' H' Z (Aw ft g1 m ρ'),λ σ' H' z=>⟨m,Nat.lt_succ_self m,z⟩,?_⟩;refine b2 P0 P1 σ1 H2 _ ρ1 E2 ?_;cases q2:g1 ρ1 with
    |bad=>rw[q2] at h1;exact h1
    |ex x=>rw[q2] at h1;exact λ H3 P3 t3=>h1 H3 P3 ((E1.tr s2).trans t3)
    |ok o =>
     rw[q2] at h1;have t2:=t1.trans (E1.tr s2);cases o with
     |next ρ'=>exact λ σ3 H3 P3 t3 E3=>⟨ρ',P3,E3,t2.trans t3,h1.tr ((E1.tr s2).trans t3)⟩
     |cont ρ'=>exact λ σ3 H3 P3 t3 E3=>⟨ρ',P3,E3,t2.trans t3,h1.tr ((E1.tr s2).trans t3)⟩
     |brk ρ'=>exact λ σ3 H3 P3 t3 E3=>h1 σ3 H3 P3 ((E1.tr s2).trans t3) E3
     |ret d=>exact λ v H3 P3 t3 hv=>h1 v H3 P3 ((E1.tr s2).trans t3) hv
     |BL d=>exact λ v fp H3 P3 t3=>h1 v fp H3 P3 ((E1.tr s2).trans t3)
     |Eh d ρ2=>exact λ v fp σ3 H3 P3 t3=>h1 v fp σ3 H3 P3 ((E1.tr s2).trans t3)
noncomputable def tE (ds:List D):M D:=match ds with
 |[.int i]=>.ok (.int i)
 |[.bl b]=>.ok (.int (if b then 1 else 0))
 |_=>.bad
noncomputable def GL:List D->Option (List Bool)
 |[]=>some []
 | .bl b::r=>(GL r).map (b::·)
 |_=>none
theorem LY (bs:List Bool):GL (bs.map D.bl)=some bs:=by
 induction bs with
 |nil=>rfl
 |cons b r ih=>rw[zh,GL,ih];rfl
theorem LZ:∀ {ds:List D}{bs:List Bool},GL ds=some bs->ds=bs.map D.bl
 |[],bs,h=>by cases h;rfl
 | .bl b::r,bs,h=>by
  rw[GL] at h;cases q:GL r with
  |none=>rw[q] at h;cases h
  |some uR=>rw[q] at h;cases h;rw[LZ q];rfl
 | .Ay::r,bs,h| .int _::r,bs,h| .str _::r,bs,h| .tup _::r,bs,h| .lst _::r,bs,h| .Dq _::r,bs,h| .B8 _ _ _::r,bs,h| .ins _ _ _::r,bs,h=>by cases h
theorem M1 {K:za}{H:Hp}:∀ {vs:List V}{bs:List Bool},Ag K H vs (bs.map D.bl)->vs=bs.map V.bl
 |_,[],.nil=>rfl
 |_,b::r,.cons h t=>by cases h;rw[M1 t];rfl
theorem M2:∀ {bs:List Bool}{us:List Value},Vals (bs.map V.bl) us->LSm.BoolsAre us bs
 |[],_,.nil=>.nil
 |b::r,_,.cons h t=>by cases h;exact .cons b (M2 t)
theorem M3 (hc:X.calm=true):Gm X (.builtin "all") (λ xs H Q=>∃p bs,xs=[.ref p]/\Dt X.K H p (List.map V.bl bs)/\Q (.bl (bs.all id)) H):=by
 intro pins s σ H xs us Q I r h;obtain⟨p,bs,rfl,hq,q⟩:=h;obtain⟨u,rfl,rx⟩:=vals1 r;cases rx;obtain⟨aa,r',pl,hz⟩:=I.list hq;have hl:=pl.isList;have hb:=M2 r';have aj:p<s.heap.objs.size:=by obtain⟨_,e,_⟩:=hl;exact zt e
 refine call_all_walk (wpAny_pyIter_list hl ?_);refine⟨s.heap.objs.size,[s.heap.objs.size,p],[s.heap.objs.size],aa.toArray.size,_,_,λ i=>(bs[i]?).getD true,rfl,Walks.list (A:=X.A.in1) (I.ok.hd hc) _ p (zB aj) aa.toArray,
  ⟨⟨_,zA _ rfl,rfl,rfl⟩,hl.push _⟩,λ i v s' Q' E' hP hQ=>?_,λ h' tk hk=>?_⟩
 ·obtain⟨b,e,rfl⟩:=hb.get i v (by simpa using hP);simp only[e,Option.getD_some] at hQ;exact wpAny_truthy_bool hQ
 ·have e:((zR aa.toArray.size).all λ i=>(bs[i]?).getD true)=bs.all id:=by
   rw[zj,hb.length];exact LSm.range_all bs
  rw[e];exact⟨.bl _,H,I.kept (t':=tk) (LSm.kept_iter hk),rfl,q⟩
noncomputable def Xf (ds:List D):M D:=match ds with
 |[.lst xs]=>(match GL xs with|some bs=>.ok (.bl (bs.all id))|none=>.bad)
 |_=>.bad
theorem iC:KJ X.K WX (λ xs H Q=>∃p bs,xs=[.ref p]/\Dt X.K H p (List.map V.bl bs)/\Q (.bl (bs.all id)) H) Xf:=by
 intro P H ds vs Q ht hl h;unfold Xf at h;split at h
 ·rename_i xs;obtain⟨v,rfl,hv⟩:=hl.one;split at h
  ·rename_i bs eb;have:=LZ eb;subst this;cases hv with
   |lst hs hh =>
    have:=M1 hh;subst this;exact⟨_,bs,rfl,hs.Bj,h _ H (Ad.refl H) (.bl _)⟩
  ·exact h.elim
 ·exact h.elim
theorem Xg {p:Pos}(hc:X.calm=true)(hg:Gl X "all")(hm:X.mg "all" = none)(ha:DE X WX c e f)(hb:bootBuiltins "all" = some (.builtin "all"):=by decide +kernel)(hs:starEach [e] X.env=[(false,eval e X.env)]:=by rfl):DE X WX c (.Call (.Name "all" p) [e] [] pos) (λ ρ=>((f ρ).bind λ d=>(M.ok []).bind λ ds=>.ok (d::ds)).bind Xf):=
 Jg (M3 hc) iC hg hm hb (A3 ha A9 hs) (he:=hs)
end
def Sm (n:Int):Prop:=yl n<=2^20
theorem Xh:∀ {ns:List Int},W.WData.weightAll (ns.map W.WData.int)<=2^20->∀n∈ns,Sm n
 |m::r,h,n,hn=>by
  rw[zh,W.WData.weightAll,W.WData.weight] at h;rcases zq.mp hn with rfl|hn
  ·unfold Sm yl;omega
  ·exact Xh (by omega) n hn
theorem nA {ns:List Int}(h:W.WData.layableAll [W.WData.list (ns.map W.WData.int)]=true):∀n∈ns,Sm n:=by
 unfold W.WData.layableAll at h;rw[xt,zW] at h;have h1:=h.1;unfold W.WData.layable at h1;rw[zW,decide_eq_true_eq,W.WData.weight] at h1;exact Xh h1.2
end L2
namespace HT
open PySem PySem.W PyProof.Rows Spec Calls sQ
theorem NT {l:OpenLaw}{n:Nat}{q:Program}{loose:List Str}{XP:(Str->Option Value)->Heap->Prop}{YP:World->Heap->Prop}{d:DefRec}
 (hn:l.most=some n) (gi:d.params.defaults=[])
 (run:∀(w:World) (s₀ s₁:Shared) (mg mb:Str->Option Value) (fa:Addr) (o:Obj) (pm cd doc:Value) (a:Addr) (vs:List Value) (ns:List Int),(∀n∈ns,L2.Sm n)->
  Ground q loose [] XP w s₀ mg mb s₁.heap->YP w s₁.heap->s₁.heap.get? fa=some o->o.data=.func (docDef d.name d.params d.body d.scope pm cd doc)->s₁.heap.CodeRec cd d.name->mg d.name=some (.ref fa)->
  s₁.heap.get? a=some {cls:=.type "list",data:=.seq vs.toArray}->IntsAre vs ns->ns.length<=n->s₁.gens=#[]->
  codeAny (model l.prog w) callerA (.call (.ref fa) ⟨[.ref a],[]⟩) (λ r s'=>r=.ok (.ret (.bool true))/\OldK s₁.heap s'.heap/\s'.os=s₁.os/\AllBare s'.gens) s₁):
 WalkO q loose XP YP l.row.toRowW d [] (λ f vs=>PySem.call f vs):=by
 intro w s₀ s₁ mg mb G Y fa o pm cd doc dV kV ho hd bv hD gj hg args vals as cH n9 gl mz wF;obtain rfl:dV=.none:=Dflts.none hD gi;obtain rfl:kV=.none:=Dflts.noKw hD;obtain⟨a,vs,ns,rfl,rfl,cu,bw,hlen⟩:=UJ hn cH mz;refine enter_call (codeAny_mono (run w s₀ s₁ mg mb fa o pm cd doc a vs ns (L2.nA n9) G Y ho (fd_plain hd) bv gj cu bw hlen hg) λ r s' hq=>?_);obtain⟨rfl,h2,h3,h4⟩:=hq;exact⟨.inl ⟨.bool true,.bool true,[],rfl,λ _=>rfl,.bool true,UK l _,λ _=>⟨List.Pairwise.nil,λ _ hm=>(nomatch hm)⟩⟩,h2,h3,h4⟩
end HT
namespace L2
open PySem PySem.Spec PyProof.Rows
theorem pE {l:PySem.W.OpenLaw}{n k:Nat}{q:Program}{loose:List Str}{XP:(Str->Option Value)->Heap->Prop}{YP:World->Heap->Prop}{d:DefRec}{K:Params->za}{CX:World->RN}{sp:World->Sp}{x:Str}
 (hn:l.most=some n) (aI:n<=sizeLine) (gi:d.params.defaults=[]) (hr:Bn k callerA) (hY:∀(w:World) (h:Heap),YP w h->(K w.params).In h)
 (F:∀(w:World) (mg:Str->Option Value) (fa:Addr) (h:Heap),(K w.params).In h->h.Ns mainGlobals mg->mg d.name=some (.ref fa)->∃fd:FuncData,(∀(s:Shared) (u:Value),BindsTo s fd ⟨[u],[]⟩ [(x,u)])/\
  ∀base:Heap,(K w.params).In base->base.Ns mainGlobals mg->CG l.prog w (K w.params) mg base (CX w) k fa fd [x] (sp w))
 (c9:∀(w:World) (H:Hp) (a:Addr) (ns:List Int),(∀n∈ns,Sm n)->ns.length<=n->Z8 H->Dt (K w.params) H a (ns.map V.int)->sp w [.ref a] H (λ v _=>v=.bl true) λ _ _ _=>False)
 (i4:∀(w:World) (H:Hp) (s:Shared) (e:Value) (s':Shared),CX w [] H s (λ _ _ _=>False) e s'->False):PySem.W.WalkO q loose XP YP l.row.toRowW d [] (λ f vs=>PySem.call f vs):=by
 refine HT.NT hn gi λ w s₀ s₁ mg mb fa o pm cd doc a vs ns dz G Y ho hd bv gj cu bw hlen hg=>?_;have KX:=hY w _ Y;obtain⟨fd,hb,hF⟩:=F w mg fa _ KX G.T.g gj;exact Qb KX G.T.g G.T.b G.T.builtins G.T.nolimit hg cu bw (yk hlen aI) hr hF hb (λ H hO hS=>c9 w H a ns dz hlen hO hS) λ H e s'=>i4 w H s₁ e s'
theorem Zu {F:List D->M D}(h:∀ns:List Int,ns.length<=63->(∀n∈ns,Sm n)->F [.lst (ns.map D.int)]=.ok (.bl true))(K:za)(H:Hp)(a:Addr)(ns:List Int)(dz:∀n∈ns,Sm n)(hl:ns.length<=63)(hS:Dt K H a (ns.map V.int)):S7 K 1 F [.ref a] H (λ v _=>v=.bl true) λ _ _ _=>False:=by
 refine⟨rfl,λ _=>False,[.lst (ns.map D.int)],λ _ z=>z.elim,.cons (.lst ?_ (Ag.ints ns)) .nil,?_⟩
 ·have e:del H (λ _=>False)=H:=by funext b;exact Aq (λ z=>z)
  rw[e];exact hS
 ·rw[h ns hl dz];exact λ v H' s hv=>hv.LR
def NU (i j:Int):Prop:=(yl i<=2^20+1/\yl j<=2^10)\/Qp i j
theorem UZ {a b:Int}(h:yl a+yl b<=2^21):IntMulOk a b:=by
 have e:(2:Nat)^21=2097152:=by decide
 have h2:Builtin.Int.intTooBig (yl a+yl b)=false:=by
  unfold Builtin.Int.intTooBig bitsLine;exact decide_eq_false (by omega)
 unfold IntMulOk;rw[h2];simp
theorem NU.ok {i j:Int}(h:NU i j):IntMulOk i j:=by
 rcases h with ⟨h1,h2⟩|h
 ·exact UZ (by omega)
 ·exact h.ok
theorem Zv {X:Cx}:Hm X (binaryOp .Mult) (rI NU λ i j=>.int (i*j)):=oW λ _ _ _ _ _ _ _ hc q=>mul_int q hc.ok
noncomputable instance (i j:Int):Decidable (NU i j):=yE _
noncomputable def M4:=Bg λ i j=>if NU i j then .ok (.int (i*j)) else .bad
theorem Jm {i j:Int}(h:NU i j):M4 (.int i) (.int j)=.ok (.int (i*j)):=by
 unfold M4 Bg;dsimp only;rw[if_pos h]
theorem Lm {X:Cx}{WX:Str->Hp->Prop}{c:Bool}{a b:Expr}{f g:Aa->M D}{pos:Pos}(ha:DE X WX c a f)(hb:DE X WX c b g):DE X WX c (.BinOp a .Mult b pos) (λ ρ=>(f ρ).bind λ x=>(g ρ).bind λ y=>M4 x y):=NL Zv (OW λ _ _ _ _=>.int _) ha hb
mutual
noncomputable def JP:D->Bool
 | .tup a=>Jn a
 | .lst _| .Dq _| .B8 _ _ _| .ins _ _ _=>false
 |_=>true
noncomputable def Jn:List D->Bool
 |[]=>true
 |a::r=>JP a&&Jn r
end
theorem TC {H:Hp}{P0 P:Addr->Prop}{a:Addr}{xs:List V}(ht:∀a,P a->EH H a)(h:del H P0 a=some (.tup xs)):del H P a=some (.tup xs):=by
 obtain⟨h1,h2⟩:=Aj h;rw[Aq λ z=>by
  obtain⟨o',q,r⟩:=ht a z;rw[h2] at q;cases q;exact (r xs).1 rfl]
 exact h2
mutual
theorem Bw.JP {K:za}{H:Hp}{P0 P:Addr->Prop}(ht:∀a,P a->EH H a):∀ {v:V}{d:D},JP d=true->Bw K (del H P0) v d->Bw K (del H P) v d
 |_,_,_,.Ay=>.Ay
 |_,_,_,.bl b=>.bl b
 |_,_,_,.int i=>.int i
 |_,_,_,.str x=>.str x
 |_,_,n,.tup h r=>.tup (TC ht h) (Ag.JP ht (by rw[L2.JP] at n;exact n) r)
 |_,_,n,.lst h r|_,_,n,.Dq h r|_,_,n,.HV h r|_,_,n,.GC h r|_,_,n,.ins _ h r=>by rw[L2.JP] at n;cases n
theorem Ag.JP {K:za}{H:Hp}{P0 P:Addr->Prop}(ht:∀a,P a->EH H a):∀ {vs:List V}{ds:List D},Jn ds=true->Ag K (del H P0) vs ds->Ag K (del H P) vs ds
 |_,_,_,.nil=>.nil
 |_,_,n,.cons h t=>by
  rw[Jn,zW] at n;exact .cons (Bw.JP ht n.1 h) (Ag.JP ht n.2 t)
end
noncomputable def dp (m:M D):M D:=m.bind λ d=>if JP d=true then .ok d else .bad
section
variable {α:Type}(lt:α->α->Prop)
def N8:List α->List α->Prop
 |y::ys,x::xs=>(lt y x/\ys.length=xs.length)\/(y=x/\N8 ys xs)
 |_,_=>False
theorem N8.len:∀ {ys xs:List α},N8 lt ys xs->ys.length=xs.length
 |y::ys,x::xs,h=>by
  rcases h with ⟨_,h⟩|⟨_,h⟩
  ·rw[zp,zp,h]
  ·rw[zp,zp,N8.len h]
 |[],[],h|[],_::_,h|_::_,[],h=>h.elim
theorem Xi (n:Nat)(ih:∀xs:List α,xs.length=n->Acc (N8 lt) xs){x:α}(hx:Acc lt x):∀ {xs:List α},xs.length=n->Acc (N8 lt) xs->Acc (N8 lt) (x::xs):=by
 induction hx with
 |intro x _ uS =>
  intro xs hl bV;induction bV with
  |intro xs _ oa =>
   refine .intro _ λ zs h=>?_;cases zs with
   |nil=>exact h.elim
   |cons y ys =>
    rcases h with ⟨h1,h2⟩|⟨h1,h2⟩
    ·exact uS y h1 (h2.trans hl) (ih ys (h2.trans hl))
    ·subst h1;exact oa ys h2 ((N8.len lt h2).trans hl)
theorem M5 (h:∀x,Acc lt x):∀(n:Nat) (xs:List α),xs.length=n->Acc (N8 lt) xs
 |0,[],_=>.intro _ λ zs h=>by cases zs<;>exact h.elim
 |n+1,x::xs,e=>Xi lt n (M5 h n) (h x) (by simpa using e) (M5 h n xs (by simpa using e))
theorem TF:∀ {xs:List α}{i:Nat}{y:α}{x:α},xs[i]?=some x->lt y x->N8 lt (xs.set i y) xs
 |[],_,_,_,h,_=>by cases h
 |z::zs,0,y,x,h,hl=>by
  cases h;exact .inl ⟨hl,rfl⟩
 |z::zs,i+1,y,x,h,hl=>.inr ⟨rfl,TF (by simpa using h) hl⟩
theorem N8.trans (ht:∀a b c,lt a b->lt b c->lt a c):∀ {xs ys zs:List α},N8 lt xs ys->N8 lt ys zs->N8 lt xs zs
 |x::xs,y::ys,z::zs,h1,h2=>by
  rcases h1 with ⟨a,b⟩|⟨rfl,b⟩
  ·rcases h2 with ⟨c,d⟩|⟨rfl,d⟩
   ·exact .inl ⟨ht _ _ _ a c,b.trans d⟩
   ·exact .inl ⟨a,b.trans (N8.len lt d)⟩
  ·rcases h2 with ⟨c,d⟩|⟨rfl,d⟩
   ·exact .inl ⟨c,(N8.len lt b).trans d⟩
   ·exact .inr ⟨rfl,N8.trans ht b d⟩
 |[],_,_,h,_|_::_,[],_,h,_|_::_,_::_,[],_,h=>by cases h
end
section
variable {X:Cx}{WX:Str->Hp->Prop}{c:Bool}{P0:Df}{P:Addr->Prop}{H:Hp}{σ:St}{ρ:Aa}{a b e:Expr}{f g g2:Aa->M D}{pos:Pos}
theorem Xj {m:Nat}{k:Int}{n:Nat}(h:RQ m k=some n):n<m:=by
 unfold RQ at h;split at h
 ·split at h
  ·cases h;omega
  ·cases h
 ·split at h
  ·cases h;omega
  ·cases h
end
section
variable {X:Cx}{WX:Str->Hp->Prop}{c:Bool}{P0:Df}{P:Addr->Prop}{H:Hp}{σ:St}{ρ:Aa}{a b e:Expr}{f g g2:Aa->M D}{pos:Pos}
theorem Jo:∀ {ns:List Int}{us:List Value},Vals (ns.map V.int) us->IntsAre us ns
 |[],_,.nil=>.nil
 |n::r,_,.cons h t=>by obtain⟨tk,rfl⟩:=h;exact .cons _ _ (Jo t)
theorem CQ:∀ {ds:List D}{ns:List Int},Cg ds=some ns->ds=ns.map D.int
 |[],ns,h=>by cases h;rfl
 | .int b::r,bs,h=>by
  rw[Cg] at h;cases q:Cg r with
  |none=>rw[q] at h;cases h
  |some uR=>rw[q] at h;cases h;rw[CQ q];rfl
 | .Ay::r,bs,h| .bl _::r,bs,h| .str _::r,bs,h| .tup _::r,bs,h| .lst _::r,bs,h| .Dq _::r,bs,h| .B8 _ _ _::r,bs,h| .ins _ _ _::r,bs,h=>by cases h
theorem CS {K:za}{H:Hp}:∀ {vs:List V}{bs:List Int},Ag K H vs (bs.map D.int)->vs=bs.map V.int
 |_,[],.nil=>rfl
 |_,b::r,.cons h t=>by cases h;rw[CS t];rfl
end
theorem iD {P P2:Addr->Prop}{H H':Hp}(t:Tr P P H P2 H'){a:Addr}(h:P2 a)(hn:¬ P a):H a=none:=by
 cases q:H a with
 |none=>rfl
 |some o =>
  have:=t.1 a o (by rw[Aq hn];exact q);exact ((Aj this).1 h).elim
section
variable {X:Cx}{WX:Str->Hp->Prop}{c:Bool}{P0:Df}{P:Addr->Prop}{H:Hp}{σ:St}{ρ:Aa}{a b e:Expr}{f g:Aa->M D}{pos:Pos}
def Zw:V->List V->Hp->VK->Prop:=λ x vs H Q=>∃(l:Addr) (xs:List V) (k:Nat) (y:V),x=.ref l/\vs=[.int (k:Int),y]/\H l=some (.lst xs)/\k<=xs.length/\xs.length<sizeLine/\Q .Ay (upd H l (.lst (xs.take k++y::xs.drop k)))
theorem Qt:∀ {xs:List V}{us:List Value}{y:V}{w:Value},Vals xs us->∀k:Nat,RelV y w->Vals (xs.take k++y::xs.drop k) (us.take k++w::us.drop k)
 |_,_,_,_,r,0,h=>.cons h r
 |_,_,_,_,.nil,k+1,h=>.cons h .nil
 |_,_,_,_,.cons a t,k+1,h=>.cons a (Qt t k h)
theorem Xk {prog:Program}{wd:World}{A:Around}{E:Value->Shared->Prop}{s:Shared}{Q:Value->Shared->Prop}{l:Addr}{items:Array Value}{n:Nat}(x:Int)(u:Tok)(y:Value)(hc:¬(!Builtin.List.listFitsIndex x)=true)(hs:items.size<=sizeLine)
 (e:s.heap.get? l=some {cls:=.type "list",data:=.seq items n})
 (h:Q .none {s with heap:=s.heap.update l (yr λ xs=>(xs.extract 0 (if x<0 then (x+(xs.size:Int)).toNat else min x.toNat xs.size)).push y++xs.extract (if x<0 then (x+(xs.size:Int)).toNat else min x.toNat xs.size)),toks:=s.toks}):wpAny (model prog wd) A (call (.builtin "list.insert") [.ref l,.int x u,y]) Q E s:=by
 have hm:=PySem.AutoSeq1.list_insert_list_int_val_1 l items n x u y hc hs;have ha:=PySem.F.args_list_insert_3 (.ref l) (.int x u) y;exact call_meets PySem.F.slot_list_insert ⟨_,e,rfl⟩ PySem.F.entry_list_insert ha hm ⟨e,h⟩
theorem V0:dS X "list.insert" Zw:=by
 intro pins s σ H x vs v us Q I rx rv h;obtain⟨l,xs,k,y,rfl,rfl,hH,hk,hz,q⟩:=h;cases rx;obtain⟨u,w,rfl,ru,bF⟩:=rv.two;obtain⟨tk,rfl⟩:=ru;obtain⟨z,aa,n,r,hl,e⟩:=I.OQ hH;have hlen:=r.length;have wG:=JT;have fg:¬ (!Builtin.List.listFitsIndex (k:Int))=true:=by
  unfold Builtin.List.listFitsIndex;simp;omega
 have hsz:aa.toArray.size<=sizeLine:=by rw[zj,<-hl];exact yd hz
 refine Xk (k:Int) tk w fg hsz e ?_;refine⟨.Ay,_,I.RV (its':=aa.take k++w::aa.drop k) hH e ?_ ?_ ?_,rfl,q⟩
 ·have e1:¬ ((k:Int)<0):=by omega
  have e2:min (k:Int).toNat aa.toArray.size=k:=by rw[y9,zj];omega
  simp only[e1,if_false,e2];apply Array.toList_inj.mp;simp;rw[y6 (by rw[xy];exact zv _)]
 ·exact Qt r k bF
 ·rw[zM,zp,xi,xy];omega
noncomputable def V1 (i:Nat)(ρ:Aa)(mk md:M D):M Out:=match ρ[i]? with
 |some (some (.own ds))=>mk.bind λ k=>md.bind λ d=>match k with
  | .int j=>if 0<=j/\j.toNat<=ds.length/\ds.length<1000 then .ok (.next (ρ.set i (some (.own (ds.take j.toNat++d::ds.drop j.toNat))))) else .bad
  |_=>.bad
 |_=>.bad
theorem NV {K:za}{H:Hp}:∀ {vs:List V}{ds:List D}(n:Nat),Ag K H vs ds->Ag K H (vs.take n) (ds.take n)
 |_,_,0,_=>by rw[List.take_zero,List.take_zero];exact .nil
 |_,_,_+1,.nil=>.nil
 |_,_,n+1,.cons h t=>by rw[List.take_succ_cons,List.take_succ_cons];exact .cons h (NV n t)
theorem NW {K:za}{H:Hp}:∀ {vs:List V}{ds:List D}(n:Nat),Ag K H vs ds->Ag K H (vs.drop n) (ds.drop n)
 |_,_,0,h=>h
 |_,_,_+1,.nil=>.nil
 |_,_,n+1,.cons h t=>by rw[List.drop_succ_cons,List.drop_succ_cons];exact NW n t
theorem Qu {K:za}{H:Hp}:∀ {vs ws:List V}{ds es:List D},Ag K H vs ds->Ag K H ws es->Ag K H (vs++ws) (ds++es)
 |_,_,_,_,.nil,k=>k
 |_,_,_,_,.cons h t,k=>.cons h (Qu t k)
theorem V2 (i:Nat){x:Str}{p1 apos ac:Pos}(hv:PE X (.Name x p1) (OJ i))(hk:DE X WX true a f)(hd:DE X WX true b g)(hs:starEach [a,b] X.env=(false,eval a X.env)::starEach [b] X.env:=by rfl)(aY:starEach [b] X.env=[(false,eval b X.env)]:=by rfl)
 (bp:swapsWith (.Call (.Attribute (.Name x p1) "insert" apos) [a,b] [] ac) none pos.line X.env=pure false:=by rfl)
 (ar:attributeBase (.Name x p1) "insert" X.env (eval (.Name x p1) X.env)=eval (.Name x p1) X.env:=by rfl)
 (aV:((backTo ac (starEach [a,b] X.env)).all (λ x => !x.1)&&(backToKw ac (keywordEach [] X.env)).all (λ x=>x.1.isSome)&&decide (([a,b]:List Expr).length+([]:List Keyword).length+(if ([]:List Keyword).isEmpty then 0 else 1)<30))=true:=by rfl)
 (au:(apos.endLine==ac.line)=true:=by rfl) (aq:(backTo ac (starEach [b] X.env)).any (·.1)=false:=by rfl):
 DS X WX (.Expr (.Call (.Attribute (.Name x p1) "insert" apos) [a,b] [] ac) pos) (λ ρ=>V1 i ρ (f ρ) (g ρ)):=by
 obtain⟨ta,a1,a2⟩:=hk;obtain⟨tb,b1,b2⟩:=hd;refine⟨_,FL (Q9 yG PySem.F.slot_list_insert PySem.F.type_list_insert V0 hv (Bc a1 (Bc b1 C4 aY) hs) ar aV au hs aq) bp,λ P0 P σ H Z ρ E h=>?_⟩;dsimp only at h;unfold V1 at h;split at h
 ·rename_i ds e1;obtain⟨p,xs,h1,h2,h3,h4,h5⟩:=E.own i ds e1;refine⟨_,h1,.inl ⟨rfl,xs,.of h2⟩,a2 P0 P σ H _ ρ E ?_⟩;cases q:f ρ with
  |bad=>rw[q] at h;exact h
  |ex y=>rw[q] at h;exact λ H' s=>h H' P (E.tr s)
  |ok k =>
   rw[q] at h;simp only[M.A6] at h;intro w H1 s1 hw;have E1:=E.same s1;refine b2 P0 P σ H1 _ ρ E1 ?_;cases q2:g ρ with
   |bad=>rw[q2] at h;exact h
   |ex y=>rw[q2] at h;exact λ H' s=>h H' P ((E.tr s1).trans (E1.tr s))
   |ok d =>
    rw[q2] at h;simp only[M.A6] at h;intro v H2 s2 uT;have E2:=E1.same s2;have og:=s1.trans s2;split at h
    ·rename_i j;cases hw;by_cases hj:0<=j/\j.toNat<=ds.length/\ds.length<1000
     ·rw[if_pos hj] at h;have uU:((j.toNat:Nat):Int)=j:=Int.toNat_of_nonneg hj.1;have tm:=h5.mono og.del;refine⟨p,xs,j.toNat,v,rfl,by rw[uU],og _ _ h2,by rw[h5.length];exact hj.2.1,AA (by rw[h5.length];exact yd hj.2.2),?_⟩;obtain⟨E3,t3⟩:=E2.mut e1 h1 h3 h4 (Qu (NV j.toNat tm) (.cons uT (NW j.toNat tm)));exact h _ _ _ ((E.tr og).trans t3) E3
     ·rw[if_neg hj] at h;exact h.elim
    ·exact h.elim
 ·exact h.elim
noncomputable def nB (ds:List D):M D:=match ds with
 |[.lst xs]=>(match GL xs with|some bs=>.ok (.bl (bs.any id))|none=>.bad)
 |_=>.bad
end
noncomputable def kids:OT->List OT
 | .sh _=>[]
 | .lst ts| .tup ts| .B8 _ _ ts| .ins _ _ ts=>ts
noncomputable def Ht:OT->List OT->OT
 | .sh d,_=>.sh d
 | .lst _,ts=>.lst ts
 | .tup _,ts=>.tup ts
 | .B8 b ks _,ts=>.B8 b ks ts
 | .ins x ns _,ts=>.ins x ns ts
noncomputable def GN:OT->List Nat->Option OT
 |t,[]=>some t
 |t,j::π=>match (kids t)[j]? with|some s=>GN s π|none=>none
noncomputable def Dv:OT->List Nat->OT->OT
 |_,[],u=>u
 |t,j::π,u=>match (kids t)[j]? with|some s=>Ht t ((kids t).set j (Dv s π u))|none=>t
@[simp] theorem Xl (t:OT):GN t []=some t:=by unfold GN;rfl
@[simp] theorem D8 (t u:OT):Dv t [] u=u:=by unfold Dv;rfl
theorem V3 {t s:OT}{j:Nat}{π:List Nat}(h:(kids t)[j]?=some s):GN t (j::π)=GN s π:=by rw[GN,h]
theorem V4 {t s u:OT}{j:Nat}{π:List Nat}(h:(kids t)[j]?=some s):Dv t (j::π) u=Ht t ((kids t).set j (Dv s π u)):=by rw[Dv,h]
section
variable {K:za}{H H':Hp}{P P':Addr->Prop}
def C1 (K:za)(H:Hp)(P:Addr->Prop)(v:V)(t:OT)(q:List Addr)(xs:List V):Prop:=match t with
 | .sh _=>False
 | .lst ts=>∃p,v=.ref p/\q=[p]/\H p=some (.lst xs)
 | .tup ts=>∃p,v=.ref p/\q=[]/\del H P p=some (.tup xs)
 | .B8 false ks ts=>∃p kvs,v=.ref p/\q=[p]/\H p=some (.dK kvs)/\ks=(kvs.map λ kv=>Cn kv.1)/\xs=kvs.map yz
 | .B8 true ks ts=>∃p kvs,v=.ref p/\q=[p]/\H p=some (.dT kvs)/\ks=(kvs.map λ kv=>.tup (kv.1.map Cn))/\xs=kvs.map yz
 | .ins x ns ts=>∃p C dx fs,v=.ref p/\q=[p]/\zd K mainGlobals x=some (some (.ref C))/\H p=some (.ins C dx fs)/\ns=fs.map zS/\xs=fs.map yz
theorem C1.own {v:V}{t:OT}{q:List Addr}{xs:List V}{fp:List Addr}(h:C1 K H P v t q xs)(r:Au K H P xs (kids t) fp):Bx K H P v t (q++fp):=by
 cases t with
 |sh d=>exact h.elim
 |lst ts=>obtain⟨p,rfl,rfl,h⟩:=h;exact .lst h r
 |tup ts=>obtain⟨p,rfl,rfl,h⟩:=h;exact .tup h r
 |B8 b ks ts =>
  cases b with
  |false=>obtain⟨p,kvs,rfl,rfl,h,rfl,rfl⟩:=h;exact .dK h r
  |true=>obtain⟨p,kvs,rfl,rfl,h,rfl,rfl⟩:=h;exact .dT h r
 |ins x ns ts=>obtain⟨p,C,dx,fs,rfl,rfl,n,h,rfl,rfl⟩:=h;exact .ins n h r
theorem Bx.node {v:V}{t:OT}{fp:List Addr}(h:Bx K H P v t fp)(hk:kids t≠[]\/∀d,t≠.sh d):∃q xs fq,fp=q++fq/\C1 K H P v t q xs/\Au K H P xs (kids t) fq:=by
 cases h with
 |sh h=>rcases hk with hk|hk;exact (hk rfl).elim;exact (hk _ rfl).elim
 |lst h r=>exact⟨[_],_,_,rfl,⟨_,rfl,rfl,h⟩,r⟩
 |tup h r=>exact⟨[],_,_,rfl,⟨_,rfl,rfl,h⟩,r⟩
 |dK h r|dT h r=>exact⟨[_],_,_,rfl,⟨_,_,rfl,rfl,h,rfl,rfl⟩,r⟩
 |ins n h r=>exact⟨[_],_,_,rfl,⟨_,_,_,_,rfl,rfl,n,h,rfl,rfl⟩,r⟩
theorem C1.move (sm:Ad (del H P) (del H' P')){v:V}{t:OT}{q:List Addr}{xs:List V}(k:∀a∈q,H' a=H a)(h:C1 K H P v t q xs):C1 K H' P' v t q xs:=by
 cases t with
 |sh d=>exact h.elim
 |lst ts=>obtain⟨p,rfl,rfl,h⟩:=h;exact⟨p,rfl,rfl,(k p zc).trans h⟩
 |tup ts=>obtain⟨p,rfl,rfl,h⟩:=h;exact⟨p,rfl,rfl,sm _ _ h⟩
 |B8 b ks ts =>
  cases b with
  |false|true=>obtain⟨p,kvs,rfl,rfl,h,rfl,rfl⟩:=h;exact⟨p,kvs,rfl,rfl,(k p zc).trans h,rfl,rfl⟩
 |ins x ns ts=>obtain⟨p,C,dx,fs,rfl,rfl,n,h,rfl,rfl⟩:=h;exact⟨p,C,dx,fs,rfl,rfl,n,(k p zc).trans h,rfl,rfl⟩
theorem C1.kids {v:V}{t:OT}{q:List Addr}{xs:List V}(h:C1 K H P v t q xs)(ts:List OT):C1 K H P v (Ht t ts) q xs:=by
 cases t with
 |sh d=>exact h.elim
 |lst us|tup us=>exact h
 |B8 b ks us=>cases b<;>exact h
 |ins x ns us=>exact h
theorem Pd {v:V}{t:OT}{q:List Addr}{xs:List V}(h:C1 K H P v t q xs)(ts:List OT):L2.kids (Ht t ts)=ts:=by
 cases t with
 |sh d=>exact h.elim
 |lst us|tup us|B8 b ks us|ins x ns us=>rfl
theorem C1.inj {v:V}{t:OT}{q q':List Addr}{xs dv:List V}(h:C1 K H P v t q xs)(h':C1 K H P v t q' dv):q=q'/\xs=dv:=by
 cases t with
 |sh d=>exact h.elim
 |lst ts|tup ts=>obtain⟨p,rfl,rfl,h⟩:=h;obtain⟨p',e,rfl,h'⟩:=h';cases e;rw[h] at h';cases h';exact⟨rfl,rfl⟩
 |B8 b ks ts =>
  cases b with
  |false|true=>obtain⟨p,kvs,rfl,rfl,h,_,rfl⟩:=h;obtain⟨p',oh,e,rfl,h',_,rfl⟩:=h';cases e;rw[h] at h';cases h';exact⟨rfl,rfl⟩
 |ins x ns ts=>obtain⟨p,C,dx,fs,rfl,rfl,n,h,_,rfl⟩:=h;obtain⟨p',C',wH,bZ,e,rfl,n',h',_,rfl⟩:=h';cases e;rw[h] at h';cases h';exact⟨rfl,rfl⟩
inductive GO (K:za) (H:Hp) (P:Addr->Prop):V->OT->List Nat->V->OT->Prop
 |nil {v t}:GO K H P v t [] v t
 |cons {v t q xs j x s π v1 t1}:C1 K H P v t q xs->xs[j]?=some x->(kids t)[j]?=some s->GO K H P x s π v1 t1->GO K H P v t (j::π) v1 t1
theorem GO.sub {v v1:V}{t t1:OT}{π:List Nat}(h:GO K H P v t π v1 t1):GN t π=some t1:=by
 induction h with
 |nil=>exact Xl _
 |cons _ _ hs _ ih=>rw[V3 hs];exact ih
theorem GO.snoc {v v1 x:V}{t t1 s:OT}{π:List Nat}{q:List Addr}{xs:List V}{j:Nat}(h:GO K H P v t π v1 t1)(n:C1 K H P v1 t1 q xs)(hx:xs[j]?=some x)(hs:(kids t1)[j]?=some s):GO K H P v t (π++[j]) x s:=by
 induction h with
 |nil=>exact .cons n hx hs .nil
 |cons n' uV uW _ ih=>exact .cons n' uV uW (ih n hs)
theorem Au.get:∀ {xs:List V}{ts:List OT}{fp:List Addr}{j:Nat}{x:V}{s:OT},Au K H P xs ts fp->xs[j]?=some x->ts[j]?=some s->∃pre fs post,fp=pre++fs++post/\Bx K H P x s fs
 |_,_,_,_,_,_,.nil,e,_=>by simp at e
 |_,_,_,0,_,_,.cons h r,e,e'=>by
  simp at e e';subst e;subst e';exact⟨[],_,_,rfl,h⟩
 |_,_,_,j+1,_,_,.cons (fp:=f1) h r,e,e'=>by
  obtain⟨pre,fs,post,z,q⟩:=Au.get r (by simpa using e) (by simpa using e');exact⟨f1++pre,fs,post,by rw[z];simp,q⟩
theorem Au.len:∀ {xs:List V}{ts:List OT}{fp:List Addr},Au K H P xs ts fp->xs.length=ts.length
 |_,_,_,.nil=>rfl
 |_,_,_,.cons _ r=>by rw[zp,zp,r.len]
theorem Au.tF:∀ {xs:List V}{ts:List OT}{fp:List Addr}{j:Nat}{s:OT},Au K H P xs ts fp->ts[j]?=some s->∃x,xs[j]?=some x:=fun {xs ts fp j s} h e=>by
 have hl:j<xs.length:=by rw[h.len];exact (zE.mp e).1
 exact⟨_,zg hl⟩
theorem Bx.part {v v1:V}{t t1:OT}{π:List Nat}{fp:List Addr}(h:Bx K H P v t fp)(s:GO K H P v t π v1 t1):∃ax,Bx K H P v1 t1 ax/\(∀a∈ax,a∈fp)/\(fp.Nodup->ax.Nodup):=by
 induction s generalizing fp with
 |nil=>exact⟨fp,h,λ _ h=>h,λ h=>h⟩
 |cons n hx hs _ ih =>
  obtain⟨q,xs,fq,rfl,n',r⟩:=h.node (.inl λ z=>by rw[z] at hs;cases hs);obtain⟨rfl,rfl⟩:=n.inj n';obtain⟨pre,fs,post,rfl,o⟩:=r.get hx hs;obtain⟨ax,o1,k,kn⟩:=ih o;exact⟨ax,o1,λ a ha=>zm _ (zO _ (zm _ (k a ha))),λ nd=>kn (zN.mp (zN.mp (zN.mp nd).2.1).1).2.1⟩
theorem Au.put (sm:Ad (del H P) (del H' P')):∀ {xs:List V}{ts:List OT}{fp:List Addr}{j:Nat}{x:V}{s s':OT}{fs bZ:List Addr},Au K H P xs ts fp->xs[j]?=some x->ts[j]?=some s->Bx K H P x s fs->Bx K H' P' x s' bZ->(∀a∈fp,a∉fs->H' a=H a)->fp.Nodup->bZ.Nodup->(∀a∈bZ,a∈fp->a∈fs)->
 ∃ak,Au K H' P' xs (ts.set j s') ak/\ak.Nodup/\∀a∈ak,a∈bZ\/(a∈fp/\a∉fs)
 |_,_,_,_,_,_,_,_,_,.nil,e,_,_,_,_,_,_,_=>by simp at e
 |_,_,_,0,x,s,s',fs,bZ,.cons (fp:=f1) (fq:=f2) h r,e,e',o,o',k,nd,jh,dj=>by
  simp at e e';subst e;subst e';have:=h.BS o;subst this;have br:=zN.mp nd;have k2:∀a∈f2,a∉f1:=λ a ha hb=>br.2.2 a hb a ha rfl;refine⟨bZ++f2,.cons o' (r.move sm λ a ha=>k a (zm _ ha) (k2 a ha)),zN.mpr ⟨jh,br.2.1,λ a ha b hb z=>?_⟩,λ a ha=>?_⟩
  ·subst z;exact k2 a hb (dj a ha (zm _ hb))
  ·rcases zL.mp ha with ha|ha
   ·exact .inl ha
   ·exact .inr ⟨zm _ ha,k2 a ha⟩
 |_,_,_,j+1,x,s,s',fs,bZ,.cons (vs:=uX) (ts:=uY) (fp:=f1) (fq:=f2) h r,e,e',o,o',k,nd,jh,dj=>by
  have br:=zN.mp nd;have e2:uX[j]?=some x:=by simpa using e
  have e3:uY[j]?=some s:=by simpa using e'
  obtain⟨pre,fx,post,hf,ox⟩:=r.get e2 e3;have:=ox.BS o;subst this;have k1:∀a∈f1,a∉fx:=λ a ha hb=>br.2.2 a ha a (by rw[hf];exact zO _ (zm _ hb)) rfl;obtain⟨ak,q1,q2,q3⟩:=Au.put sm r e2 e3 o o' (λ a ha hn=>k a (zm _ ha) hn) br.2.1 jh (λ a ha hb=>dj a ha (zm _ hb));refine⟨f1++ak,.cons (h.move sm λ a ha=>k a (zO _ ha) (k1 a ha)) q1,zN.mpr ⟨br.1,q2,λ a ha b hb z=>?_⟩,λ a ha=>?_⟩
  ·subst z;rcases q3 a hb with z|z
   ·exact k1 a ha (dj a z (zO _ ha))
   ·exact br.2.2 a ha a z.1 rfl
  ·rcases zL.mp ha with ha|ha
   ·exact .inr ⟨zO _ ha,k1 a ha⟩
   ·rcases q3 a ha with z|z
    ·exact .inl z
    ·exact .inr ⟨zm _ z.1,z.2⟩
theorem Bx.put (sm:Ad (del H P) (del H' P')){v v1:V}{t t1 u:OT}{π:List Nat}{fp ax fu:List Addr}(h:Bx K H P v t fp)(s:GO K H P v t π v1 t1)(o:Bx K H P v1 t1 ax)(o':Bx K H' P' v1 u fu)(k:∀a∈fp,a∉ax->H' a=H a)(nd:fp.Nodup)(jh:fu.Nodup)(dj:∀a∈fu,a∈fp->a∈ax):
 ∃ak,Bx K H' P' v (Dv t π u) ak/\ak.Nodup/\∀a∈ak,a∈fu\/(a∈fp/\a∉ax):=by
 induction s generalizing fp with
 |nil =>
  rw[D8];exact⟨fu,o',jh,λ a ha=>.inl ha⟩
 | @cons v t q xs j x s π v1 t1 n hx hs s1 ih =>
  obtain⟨q',dv,fq,rfl,n',r⟩:=h.node (.inl λ z=>by rw[z] at hs;cases hs);obtain⟨rfl,rfl⟩:=n.inj n';have gm:=zN.mp nd;obtain⟨pre,fs,post,hf,ox⟩:=r.get hx hs;have sub:∀a∈fs,a∈fq:=λ a ha=>by rw[hf];exact zO _ (zm _ ha)
  have uZ:fs.Nodup:=by
   have:=gm.2.1;rw[hf] at this;exact (zN.mp (zN.mp this).1).2.1
  obtain⟨fz,oz,kz,_⟩:=ox.part s1;have:=oz.BS o;subst this;obtain⟨bZ,q1,q2,q3⟩:=ih ox o o' (λ a ha hn=>k a (zm _ (sub a ha)) hn) uZ (λ a ha hb=>dj a ha (zm _ (sub a hb)));have qf:∀a∈q,a∉fs:=λ a ha hb=>gm.2.2 a ha a (sub a hb) rfl;have kq:∀a∈q,H' a=H a:=λ a ha=>k a (zO _ ha) λ z=>qf a ha (kz a z);obtain⟨ak,p1,p2,p3⟩:=r.put sm hx hs ox q1 (λ a ha hn=>k a (zm _ ha) λ z=>hn (kz a z)) gm.2.1 q2 (λ a ha hb=>by
   rcases q3 a ha with z|z
   ·exact kz a (dj a z (zm _ hb))
   ·exact z.1)
  rw[V4 hs];have n2:=(n.move sm kq).kids ((kids t).set j (Dv s π u));have o2:=n2.own (fp:=ak) (by rw[Pd n];exact p1);refine⟨q++ak,o2,zN.mpr ⟨gm.1,p2,λ a ha b hb z=>?_⟩,λ a ha=>?_⟩
  ·subst z;rcases p3 a hb with z|z
   ·rcases q3 a z with y|y
    ·exact qf a ha (kz a (dj a y (zO _ ha)))
    ·exact qf a ha y.1
   ·exact gm.2.2 a ha a z.1 rfl
  ·rcases zL.mp ha with ha|ha
   ·exact .inr ⟨zO _ ha,λ z=>qf a ha (kz a z)⟩
   ·rcases p3 a ha with z|z
    ·rcases q3 a z with y|y
     ·exact .inl y
     ·exact .inr ⟨zm _ (sub a y.1),y.2⟩
    ·exact .inr ⟨zm _ z.1,λ y=>z.2 (kz a y)⟩
end
def PU (P:Addr->Prop)(fp:List Addr):Addr->Prop:=λ a=>P a\/a∈fp
theorem K5 {P:Addr->Prop}{fp:List Addr}:∀a,P a->PU P fp a:=λ a h=>.inl h
theorem BU {P:Addr->Prop}{fp:List Addr}{H H':Hp}(s:Ad H H')(hn:∀a∈fp,H a=none):Ad (del H P) (del H' (PU P fp)):=λ b o e=>by
 obtain⟨h1,h2⟩:=Aj e;rw[Aq λ z=>z.elim h1 λ w=>by rw[hn b w] at h2;cases h2];exact s b o h2
theorem Sd {P:Addr->Prop}{H:Hp}:del H (PU P [])=del H P:=by
 funext b;by_cases h:P b
 ·rw[Ef h,Ef (.inl h)]
 ·rw[Aq h,Aq λ z=>z.elim h λ w=>by cases w]
theorem Iy {P:Addr->Prop}{fp:List Addr}{K:za}{H':Hp}{Q:Addr->Prop}{v:V}{t:OT}(hP:∀a,P a->EH H' a)(o:Bx K H' Q v t fp):∀a,PU P fp a->EH H' a:=λ a h=>h.elim (hP a) (o.BG a)
theorem TH {P:Addr->Prop}{fp:List Addr}{K:za}{H':Hp}{Q:Addr->Prop}{v:List V}{t:List OT}(hP:∀a,P a->EH H' a)(o:Au K H' Q v t fp):∀a,PU P fp a->EH H' a:=λ a h=>h.elim (hP a) (o.BG a)
theorem Ai.more {K:za}{P0:Df}{P P':Addr->Prop}{H H':Hp}{σ:St}{ρ:Aa}(E:Ai K P0 P H σ ρ)(e:Ad H H')(hs:∀a,P a->P' a)(ht:∀a,P' a->EH H' a)(sm:Ad (del H P) (del H' P')):Ai K P0 P' H' σ ρ:=by
 have keep:∀(c:Cl) (v:V) (fp:List Addr),Ck K H P c v fp->∀a∈fp,H' a=H a:=λ c v fp o a ha=>by
  obtain⟨xs,q⟩:=o.at a ha;rw[q];exact e _ _ q
 exact⟨λ a h=>hs a (E.sub a h),ht,λ i d h=>let ⟨v,h1,h2⟩:=E.val i d h;⟨v,h1,h2.mono sm⟩,
  λ i c h io=>let ⟨v,fp,h1,h2,h3,h4⟩:=E.ows i c h io;⟨v,fp,h1,h2.move sm (keep c v fp h2),λ a ha=>⟨hs a (h3 a ha).1,(h3 a ha).2⟩,h4⟩,
  λ i j c c' v v' fp ak hi hj si sj h h' ae=>E.WS sm (λ v fp _ o a ha=>keep _ _ _ o a ha) (λ v fp _ o a ha=>keep _ _ _ o a ha) hi hj si sj h h' ae,E.len,E.pin⟩
def YG (K:za)(WX:Str->Hp->Prop)(P:Addr->Prop)(H:Hp)(Q:VK):M OT->Prop
 | .ok t=>∀v fp H',Ad H H'->(∀a∈fp,H a=none)->fp.Nodup->Bx K H' (PU P fp) v t fp->Q v H'
 | .ex x=>∀H',Ad H H'->WX x H'
 | .bad=>False
def vA (K:za)(WX:Str->Hp->Prop)(P:Addr->Prop)(H:Hp)(Q:List V->Hp->Prop):M (List OT)->Prop
 | .ok t=>∀v fp H',Ad H H'->(∀a∈fp,H a=none)->fp.Nodup->Au K H' (PU P fp) v t fp->Q v H'
 | .ex x=>∀H',Ad H H'->WX x H'
 | .bad=>False
theorem F7 {H H':Hp}(s:Ad H H'){a:Addr}(h:H' a=none):H a=none:=by
 cases q:H a with
 |none=>rfl
 |some o=>rw[s a o q] at h;cases h
section
variable {K:za}{WX:Str->Hp->Prop}{P:Addr->Prop}{H H':Hp}
theorem YG.same {Q:VK}{m:M OT}(h:YG K WX P H Q m)(e:Ad H H'):YG K WX P H' Q m:=by
 cases m with
 |ok d=>exact λ v fp H2 q hn nd o=>h v fp H2 (e.trans q) (λ a ha=>F7 e (hn a ha)) nd o
 |ex x=>exact λ H2 q=>h H2 (e.trans q)
 |bad=>exact h
end
def DN (X:Cx)(WX:Str->Hp->Prop)(e:Expr)(f:Aa->M OT):Prop:=
 ∃t,PE X e t/\∀P0 P σ H Q ρ,Ai X.K P0 P H σ ρ->YG X.K WX P H Q (f ρ)->t σ H Q
def nE (X:Cx)(WX:Str->Hp->Prop)(es:List Expr)(f:Aa->M (List OT)):Prop:=
 ∃t,PA X es t/\(∀P0 P σ H Q ρ,Ai X.K P0 P H σ ρ->vA X.K WX P H Q (f ρ)->t σ H Q)/\∀ρ ts,f ρ=.ok ts->ts.length=es.length
noncomputable def Zx (d:D):M OT:=.ok (.sh d)
noncomputable def eA (t:OT):M D:=.ok (er t)
section
variable {X:Cx}{WX:Str->Hp->Prop}{c:Bool}{P0:Df}{P:Addr->Prop}{H:Hp}{σ:St}{ρ:Aa}{a b e:Expr}{f g:Aa->M D}{fn:Aa->M OT}{pos:Pos}{es:List Expr}
theorem AZ (h:DE X WX true e f):DN X WX e (λ ρ=>(f ρ).bind Zx):=by
 obtain⟨t,h1,h2⟩:=h;refine⟨t,h1,λ P0 P σ H Q ρ E g=>h2 P0 P σ H Q ρ E ?_⟩;dsimp only at g;cases q:f ρ with
 |bad|ex x=>rw[q] at g;exact g
 |ok d=>rw[q] at g;exact λ v H' s hv=>g v [] H' s (λ a ha=>by cases ha) yA (.sh (by rw[Sd];exact hv))
theorem As (h:DN X WX e fn):DE X WX c e (λ ρ=>(fn ρ).bind eA):=by
 suffices z:DE X WX true e (λ ρ=>(fn ρ).bind eA) by
  cases c with
  |true=>exact z
  |false=>exact OV z
 obtain⟨t,h1,h2⟩:=h;refine⟨t,h1,λ P0 P σ H Q ρ E g=>h2 P0 P σ H Q ρ E ?_⟩;dsimp only at g;cases q:fn ρ with
 |bad|ex x=>rw[q] at g;exact g
 |ok d =>
  rw[q] at g;exact λ v fp H' s hn nd o=>g v H' s (o.has K5 λ a ha z=>(E.BG a z).no (hn a ha))
theorem FU:nE X WX [] (λ _=>.ok []):=⟨_,C4,λ P0 P σ H Q ρ E h=>h [] [] H (Ad.refl H) (λ a ha=>by cases ha) yA .nil,λ ρ ds h=>by cases h;rfl⟩
theorem Em {es:List Expr}{fs:Aa->M (List OT)}(he:DN X WX e fn)(hr:nE X WX es fs)(hs:starEach (e::es) X.env=(false,eval e X.env)::starEach es X.env:=by rfl):
 nE X WX (e::es) (λ ρ=>(fn ρ).bind λ d=>(fs ρ).bind λ ds=>.ok (d::ds)):=by
 obtain⟨te,e1,e2⟩:=he;obtain⟨tr,r1,r2,r3⟩:=hr;refine⟨_,Bc e1 r1 hs,λ P0 P σ H Q ρ E h=>?_,λ ρ ds h=>?_⟩
 rotate_left
 ·dsimp only at h;cases q:fn ρ with
  |bad|ex x=>rw[q] at h;cases h
  |ok x =>
   rw[q] at h;cases q2:fs ρ with
   |bad|ex x=>rw[q2] at h;cases h
   |ok xs =>
    rw[q2] at h;cases h;rw[zp,zp,r3 ρ xs q2]
 dsimp only at h;refine e2 P0 P σ H _ ρ E ?_;cases q:fn ρ with
 |bad|ex x=>rw[q] at h;exact h
 |ok x =>
  rw[q] at h;intro v fp H1 s1 n1 gp o1;have E1:Ai X.K P0 (PU P fp) H1 σ ρ:=E.more s1 K5 (Iy (E.same s1).BG o1) (BU s1 n1);refine r2 P0 (PU P fp) σ H1 _ ρ E1 ?_;cases q2:fs ρ with
  |bad=>rw[q2] at h;exact h
  |ex y=>rw[q2] at h;exact λ H' s=>h H' (s1.trans s)
  |ok ds =>
   rw[q2] at h;intro vs fq H2 s2 n2 br o2;have dj:∀a∈fp,a∉fq:=λ a ha hb=>(o1.BG a ha).no (n2 a hb);have eP:PU (PU P fp) fq=PU P (fp++fq):=by
    funext a;simp only[PU,zL,or_assoc]
   have sm:Ad (del H1 (PU P fp)) (del H2 (PU P (fp++fq))):=by rw[<-eP];exact BU s2 n2
   refine h _ (fp++fq) H2 (s1.trans s2) (λ a ha=>?_) (zN.mpr ⟨gp,br,λ a ha b hb z=>dj a ha (by rw[z];exact hb)⟩) (.cons (o1.move sm λ a ha=>?_) (by rw[<-eP];exact o2))
   ·rcases zL.mp ha with ha|ha
    ·exact n1 a ha
    ·exact F7 s1 (n2 a ha)
   ·obtain⟨o,z,_⟩:=o1.BG a ha;rw[z];exact s2 _ _ z
theorem iE {P:Addr->Prop}{fp:List Addr}{p:Addr}{H:Hp}{o:HO}(hn:H p=none)(hP:∀a,PU P fp a->EH H a):Ad (del H (PU P fp)) (del (upd H p o) (PU P (p::fp))):=λ b u e=>by
 obtain⟨h1,h2⟩:=Aj e;have hb:b≠p:=AE h2 hn;rw[Aq λ z=>z.elim (λ z=>h1 (.inl z)) λ w=>(zq.mp w).elim hb λ w=>h1 (.inr w),Ab hb];exact h2
theorem M6 {fs:Aa->M (List OT)}(ha:nE X WX es fs)(hz:es.length<=1000:=by decide):DN X WX (.List es pos) (λ ρ=>(fs ρ).bind λ ts=>.ok (.lst ts)):=by
 obtain⟨ta,a1,a2,a3⟩:=ha;refine⟨_,RM a1,λ P0 P σ H Q ρ E h=>?_⟩;dsimp only at h;refine a2 P0 P σ H _ ρ E ?_;cases q:fs ρ with
 |bad|ex y=>rw[q] at h;exact h
 |ok ts =>
  rw[q] at h;simp only[M.A6] at h;intro vs fp H1 s1 n1 gp o1;have hP:=TH (E.same s1).BG o1;refine⟨yd (AA (by rw[o1.len,a3 ρ ts q];exact hz)),λ p hp=>?_⟩;have ae:∀a∈fp,a≠p:=λ a ha z=>(o1.BG a ha).no (by rw[z];exact hp);exact h _ (p::fp) _ (s1.trans (AK hp _)) (λ a ha=>(zq.mp ha).elim (λ z=>by rw[z];exact F7 s1 hp) (n1 a)) (yf.mpr ⟨λ z=>ae p z rfl,gp⟩) (.lst Al (o1.move (iE hp hP) λ a ha=>Ab (ae a ha)))
theorem Zy {P:Addr->Prop}{fp:List Addr}{p:Addr}{H:Hp}{o:HO}(hn:H p=none)(hP:∀a,PU P fp a->EH H a):Ad (del H (PU P fp)) (del (upd H p o) (PU P fp)):=λ b u e=>by
 obtain⟨h1,h2⟩:=Aj e;have hb:b≠p:=AE h2 hn;rw[Aq h1,Ab hb];exact h2
theorem Xm {fs:Aa->M (List OT)}{x1}(ha:nE X WX es fs)(hz:es.length<=1000:=by decide):DN X WX (.Tuple es x1 pos) (λ ρ=>(fs ρ).bind λ ts=>.ok (.tup ts)):=by
 obtain⟨ta,a1,a2,a3⟩:=ha;refine⟨_,Ww a1,λ P0 P σ H Q ρ E h=>?_⟩;dsimp only at h;refine a2 P0 P σ H _ ρ E ?_;cases q:fs ρ with
 |bad|ex y=>rw[q] at h;exact h
 |ok ts =>
  rw[q] at h;simp only[M.A6] at h;intro vs fp H1 s1 n1 gp o1;have hP:=TH (E.same s1).BG o1;refine⟨yd (AA (by rw[o1.len,a3 ρ ts q];exact hz)),λ p hp=>?_⟩;have ae:∀a∈fp,a≠p:=λ a ha z=>(o1.BG a ha).no (by rw[z];exact hp);refine h _ fp _ (s1.trans (AK hp _)) n1 gp (.tup ?_ (o1.move (Zy hp hP) λ a ha=>Ab (ae a ha)));rw[Aq λ z=>(hP p z).no hp];exact Al
theorem Ag.ows {K:za}{H:Hp}{P:Addr->Prop}:∀ {xs:List V}{ds:List D},Ag K (del H P) xs ds->Au K H P xs (ds.map .sh) []
 |_,_,.nil=>.nil
 |_,_,.cons h t=>.cons (.sh h) t.ows
theorem YG.HX {K:za}{WX:Str->Hp->Prop}{P:Addr->Prop}{H H1:Hp}{Q:VK}{xs:List V}{ds:List D}(h:YG K WX P H Q (.ok (.lst (ds.map .sh))))(s1:Ad H H1)(hx:Ag K (del H1 P) xs ds):∀p,H1 p=none->Q (.ref p) (upd H1 p (.lst xs)):=λ p hp=>by
 have hn:∀a∈[p],H1 a=none:=λ a ha=>by rw[zu.mp ha];exact hp
 exact h _ [p] _ (s1.trans (AK hp _)) (λ a ha=>F7 s1 (hn a ha)) (by simp) (.lst Al (hx.mono (BU (AK hp _) hn)).ows)
theorem Au.kK {K:za}{H:Hp}{P:Addr->Prop}:∀ {xs:List V}{ds:List D}{fp:List Addr},Au K H P xs (ds.map .sh) fp->fp=[]/\Ag K (del H P) xs ds
 |_,[],_,.nil=>⟨rfl,.nil⟩
 |_,d::ds,_,.cons (.sh h) r=>by
  obtain⟨rfl,q⟩:=Au.kK r;exact⟨rfl,.cons h q⟩
noncomputable def L8:Cl->Cl
 | .val d=>.val d
 | .own ds=>.val (.lst ds)
 | .ow (.rows FR)=>.val (.lst (FR.map D.lst))
 | .ow (.HW _ ds)=>.val (.lst ds)
 | .ow (.tree _ t)=>.val (er t)
noncomputable def HY (ρ:Aa):Aa:=ρ.map λ o=>o.map L8
@[simp] theorem F8:HY []=[]:=rfl
@[simp] theorem DF (ρ:Aa):HY (none::ρ)=none::HY ρ:=rfl
@[simp] theorem DH (c:Cl) (ρ:Aa):HY (some c::ρ)=some (L8 c)::HY ρ:=rfl
theorem Ai.low {K:za}{P0:Df}{P:Addr->Prop}{H:Hp}{σ:St}{ρ:Aa}(E:Ai K P0 P H σ ρ):Ai K P0 P0 H σ (HY ρ):=by
 have key:∀(i:Nat) (c:Cl),(HY ρ)[i]?=some (some c)->∃c',ρ[i]?=some (some c')/\c=L8 c':=λ i c h=>by
  unfold HY at h;rw[zw] at h;cases q:ρ[i]? with
  |none=>rw[q] at h;cases h
  |some o =>
   rw[q] at h;cases o with
   |none=>cases h
   |some c'=>cases h;exact⟨c',rfl,rfl⟩
 have oj:∀c,Gx (L8 c)=false:=λ c=>by
  cases c with
  |val d|own ds=>rfl
  |ow o=>cases o<;>rfl
 have ji:∀c,Ia (L8 c)=none:=λ c=>by
  cases c with
  |val d|own ds=>rfl
  |ow o=>cases o<;>rfl
 have va:∀c v fp,¬ Ck K H P0 (L8 c) v fp:=λ c v fp h=>by
  cases c with
  |val d|own ds=>exact h
  |ow o=>cases o<;>exact h
 refine⟨λ _ h=>h,λ a h=>E.BG a (E.sub a h),λ i d h=>?_,λ i c h io=>?_,λ i j c c' v v' fp ak hi hj si sj h h' ae=>?_,by unfold HY;rw[ze];exact E.len,λ i c n h hp=>by obtain⟨c',h1,rfl⟩:=key i _ h;rw[ji] at hp;cases hp⟩
 ·obtain⟨c,h1,h2⟩:=key i _ h;cases c with
  |val d' =>
   cases h2;obtain⟨v,q1,q2⟩:=E.val i d h1;exact⟨v,q1,q2.mono (Cp E.sub)⟩
  |own ds =>
   cases h2;obtain⟨p,xs,q1,q2,q3,q4,q5⟩:=E.own i ds h1;exact⟨_,q1,.lst (.of (show del H P0 p=_ by rw[Aq q4];exact q2)) (q5.mono (Cp E.sub))⟩
  |ow o =>
   obtain⟨v,fp,q1,q2,q3,q4⟩:=E.ows i _ h1 rfl;cases o with
   |rows FR =>
    cases h2;obtain⟨p,ps,rfl,rfl,q5,q6⟩:=q2;exact⟨_,q1,.lst (.of (show del H P0 p=_ by rw[Aq (q3 p zc).2];exact q5)) (q6.hX E.sub λ a ha=>(q3 a (zf _ ha)).2)⟩
   |HW p ds =>
    cases h2;obtain⟨p,xs,rfl,rfl,q5,q6⟩:=q2;exact⟨_,q1,.lst (.of (show del H P0 p=_ by rw[Aq (q3 p zc).2];exact q5)) (q6.mono (Cp E.sub))⟩
   |tree p t =>
    cases h2;exact⟨_,q1,Bx.has E.sub (λ a ha=>(q3 a ha).2) q2⟩
 ·obtain⟨c',h1,rfl⟩:=key i _ h;rw[oj] at io;cases io
 ·obtain⟨c1,h1,rfl⟩:=key i _ hi;exact (va _ _ _ h).elim
theorem Iz {ft:Aa->M Bool}(h:DT X WX e ft):DT X WX e (λ ρ=>ft (HY ρ)):=by
 obtain⟨t,h1,h2⟩:=h;exact⟨t,h1,λ P0 P σ H Q ρ E g=>h2 P0 P0 σ H Q (HY ρ) E.low g⟩
mutual
noncomputable def Ct:OT->Bool
 | .sh d=>JP d
 | .lst ts| .tup ts| .B8 _ _ ts| .ins _ _ ts=>BI ts
noncomputable def BI:List OT->Bool
 |[]=>true
 |t::r=>Ct t&&BI r
end
mutual
theorem Bx.clean {K:za}{H:Hp}{P P':Addr->Prop}(ht:∀a,P' a->EH H a):∀ {v:V}{t:OT}{fp:List Addr},Ct t=true->Bx K H P v t fp->Bx K H P' v t fp
 |_,_,_,n,.sh h=>.sh (h.JP ht (by rw[Ct] at n;exact n))
 |_,_,_,n,.lst h r=>.lst h (Au.clean ht (by rw[Ct] at n;exact n) r)
 |_,_,_,n,.tup h r=>.tup (TC ht h) (Au.clean ht (by rw[Ct] at n;exact n) r)
 |_,_,_,n,.dK h r=>.dK h (Au.clean ht (by rw[Ct] at n;exact n) r)
 |_,_,_,n,.dT h r=>.dT h (Au.clean ht (by rw[Ct] at n;exact n) r)
 |_,_,_,n,.ins x h r=>.ins x h (Au.clean ht (by rw[Ct] at n;exact n) r)
theorem Au.clean {K:za}{H:Hp}{P P':Addr->Prop}(ht:∀a,P' a->EH H a):∀ {v:List V}{t:List OT}{fp:List Addr},BI t=true->Au K H P v t fp->Au K H P' v t fp
 |_,_,_,_,.nil=>.nil
 |_,_,_,n,.cons h r=>by
  rw[BI,zW] at n;exact .cons (Bx.clean ht n.1 h) (Au.clean ht n.2 r)
end
noncomputable def Se (m:M OT):M OT:=m.bind λ t=>if Ct t=true then .ok t else .bad
theorem GP (h:DN X WX e fn):DN X WX e (λ ρ=>Se (fn (HY ρ))):=by
 obtain⟨t,h1,h2⟩:=h;refine⟨t,h1,λ P0 P σ H Q ρ E g=>h2 P0 P0 σ H Q (HY ρ) E.low ?_⟩;unfold Se at g;dsimp only at g;cases q:fn (HY ρ) with
 |bad|ex x=>rw[q] at g;exact g
 |ok t =>
  rw[q] at g;simp only[M.A6] at g;by_cases hf:Ct t=true
  ·rw[if_pos hf] at g;exact λ v fp H' s hn nd o=>g v fp H' s hn nd (o.clean (Iy (E.same s).BG o) hf)
  ·rw[if_neg hf] at g;exact g.elim
noncomputable def HX (d:D):M OT:=match d with
 | .lst ds| .tup ds=>.ok (.lst (ds.map .sh))
 |_=>.bad
theorem Dw {p:Pos}(hg:Gl X "list")(hm:X.mg "list" = none)(ha:DE X WX true e f)(hb:bootBuiltins "list" = some (.type "list"):=by decide +kernel)(bc:starEach [e] X.env=[(false,eval e X.env)]:=by rfl):
 DN X WX (.Call (.Name "list" p) [e] [] pos) (λ ρ=>(f ρ).bind HX):=by
 obtain⟨ta,a1,a2⟩:=ha;refine⟨_,JV OP hg hm hb (Bc a1 C4 bc) (he:=bc),λ P0 P σ H Q ρ E h=>?_⟩;dsimp only at h;refine a2 P0 P σ H _ ρ E ?_;cases q:f ρ with
 |bad|ex x=>rw[q] at h;exact h
 |ok d =>
  rw[q] at h;simp only[M.A6] at h;intro v H1 s1 hv;unfold HX at h;split at h
  ·cases hv with
   |lst hs hh=>exact⟨_,_,rfl,.inl hs.Bj,h.HX s1 hh⟩
  ·cases hv with
   |tup hs hh=>exact⟨_,_,rfl,.inr (Gk.of (Aj hs).2),h.HX s1 hh⟩
  ·exact h.elim
end
noncomputable def spT (K:za)(n:Nat)(F:List D->M OT):Sp:=λ vs H Q E=>vs.length=n/\∃P ds,(∀a,P a->EH H a)/\Ag K (del H P) vs ds/\YG K (Cm K E) P H Q (F ds)
noncomputable def nF:Cl->M OT
 | .val d=>.ok (.sh d)
 | .own ds=>.ok (.lst (ds.map .sh))
 | .ow (.rows FR)=>.ok (.lst (FR.map λ ds=>.lst (ds.map .sh)))
 | .ow (.HW _ _)=>.bad
 | .ow (.tree none t)=>.ok t
 | .ow (.tree (some _) _)=>.bad
noncomputable def V5 (m:M Out):M OT:=match m with
 | .ok (.ret d)=>.ok (.sh d)
 | .ok (.BL c)=>nF c
 | .ok (.next _)=>.ok (.sh .Ay)
 | .ex x=>.ex x
 |_=>.bad
theorem Cq.ows {K:za}{H:Hp}{P:Addr->Prop}:∀ {ps:List Addr}{FR:List (List D)},Cq K H P ps FR->Au K H P (ps.map V.ref) (FR.map λ ds=>.lst (ds.map .sh)) ps
 |_,_,.nil=>.nil
 |_,_,.cons h r t=>.cons (.lst h r.ows) t.ows
theorem Ck.tree {K:za}{H:Hp}{P:Addr->Prop}{c:Cl}{v:V}{fp:List Addr}{t:OT}(h:Ck K H P c v fp)(e:nF c=.ok t):Bx K H P v t fp:=by
 cases c with
 |val d=>exact h.elim
 |own ds =>
  cases e;obtain⟨p,xs,rfl,rfl,h1,h2⟩:=h;exact .lst h1 h2.ows
 |ow o =>
  cases o with
  |rows FR =>
   cases e;obtain⟨p,ps,rfl,rfl,h1,h2⟩:=h;exact .lst h1 h2.ows
  |HW p ds=>cases e
  |tree p t' =>
   cases p with
   |none=>cases e;exact h
   |some q=>cases e
section
variable {P:Program}{w:World}{K:za}{mg:Str->Option Value}{base:Heap}
theorem Zz {WX:Str->Hp->Prop}{P P2:Addr->Prop}{H H':Hp}{Q:VK}{c:Cl}{v:V}{fp:List Addr}(h:YG K WX P H Q (nF c))(t:Tr P P H P2 H')(hs:∀a,P a->P2 a)(ho:Ck K H' P2 c v fp)(hp:∀a∈fp,P2 a/\¬ P a)(nd:fp.Nodup):Q v H':=by
 cases q:nF c with
 |bad=>rw[q] at h;exact h.elim
 |ex x=>cases c with
  |val d|own ds=>cases q
  |ow o =>
   cases o with
   |rows FR|HW p ds=>cases q
   |tree p t'=>cases p<;>cases q
 |ok u =>
  rw[q] at h;have o:=ho.tree q;refine h v fp H' (Du t) (λ a ha=>iD t (hp a ha).1 (hp a ha).2) nd (o.move (Cp λ a ha=>ha.elim (hs a) λ z=>(hp a z).1) λ _ _=>rfl)
theorem nG {x qual:Str}{st:Stmt}{f:Addr}{fd:FuncData}{N ps:List Str}{k:Nat}(F:W6 K x qual st f fd)(S:Am N ps (A5 st))(g:Aa->M Out)
 (hb:∀(B7:Value) (A:Around) (outer:List Env) (s:Shared) (H:Hp) (E:XK),Bn k (A.deeper (envOfC qual (A5 st) s.heap.objs.size f B7))->Qn (TB P w K mg base N qual (A5 st) f B7 A outer s H E) (Cm K E) (Az st) g):
 CG P w K mg base (RB P w base) (k+1) f fd ps (spT K ps.length λ ds=>V5 (g (AI N ds))):=by
 obtain⟨oc,od,kV,doc,pm,an,B7,ct,Ry,rfl,lk,bv⟩:=F.ex;refine Tn lk bv S (λ vs H Q E h=>h.1) λ A outer s H vs Q E hr h=>?_;obtain⟨hl,P',ds,ht,hv,hq⟩:=h;obtain⟨t,h1,h2⟩:=hb B7 A outer s H E hr;refine⟨t,h1,h2 ⟨P',λ _=>0⟩ P' _ H _ _ (NP ht hv) ?_⟩;dsimp only at hq;revert hq;cases g (AI N ds) with
 |bad=>exact λ h=>h.elim
 |ex x=>exact λ h H' P2 t=>h H' (Du t)
 |ok o =>
  cases o with
  |ret d=>exact λ h v H' P2 t hv=>h v [] H' (Du t) (λ a ha=>by cases ha) yA (.sh (by rw[Sd];exact hv))
  |next ρ=>exact λ h σ' H' P2 t E=>h .Ay [] H' (Du t) (λ a ha=>by cases ha) yA (.sh .Ay)
  |brk ρ|cont ρ=>exact λ h=>h.elim
  |BL c=>exact λ h v fp H' P2 t hs ht ho hp nd=>Zz h t hs ho hp nd
  |Eh d ρ=>exact λ h=>h.elim
end
structure D6 (P:Program)(w:World)(K:za)(mg:Str->Option Value)(base:Heap)(x:Str)(k n:Nat)(F:List D->M OT):Prop where
 ex:∃fa fd ps,CG P w K mg base (RB P w base) k fa fd ps (spT K n F)/\mg x=some (.ref fa)/\zV K (.ref fa)=true/\Binds K fd ps []
theorem B0 {P:Program}{w:World}{K:za}{mg:Str->Option Value}{base:Heap}{x:Str}{st:Stmt}{N ps:List Str}{k n:Nat}(T:B4 K mg x st ps)(S:Am N ps (A5 st))(g:Aa->M Out)
 (hb:∀(f:Addr) (B7:Value) (A:Around) (outer:List Env) (s:Shared) (H:Hp) (E:XK),Bn k (A.deeper (envOfC x (A5 st) s.heap.objs.size f B7))->Qn (TB P w K mg base N x (A5 st) f B7 A outer s H E) (Cm K E) (Az st) g) (hn:ps.length=n:=by rfl):
 D6 P w K mg base x (k+1) n (λ ds=>V5 (g (AI N ds))):=by
 obtain⟨f,fd,F,hm,hB⟩:=T.ex;subst hn;exact⟨⟨f,fd,ps,nG F S g (hb f),hm,F.kp,hB⟩⟩
section
variable {X:Cx}{E:XK}{WX:Str->Hp->Prop}{c:Bool}{e:Expr}{es:List Expr}{fs:Aa->M (List D)}{f:Aa->M D}{fn:Aa->M OT}{ft:Aa->M Bool}{pos:Pos}
theorem Ao {k n:Nat}{F:List D->M OT}{x:Str}{p:Pos}(xo:XCall X E)(G:D6 X.prog X.w X.K X.mg X.base x k n F)(hr:Bn k X.A)(hg:Gl X x)(ha:DA X (Cm X.K E) true (e::es) fs)(hn:(e::es).length=n)
 (aJ:(x==("__debug__" : Str))=false:=by decide) (he:starEach (e::es) X.env=(false,eval e X.env)::starEach es X.env:=by rfl) (a5:(backTo pos (starEach es X.env)).any (·.1)=false:=by rfl):
 DN X (Cm X.K E) (.Call (.Name x p) (e::es) [] pos) (λ ρ=>(fs ρ).bind F):=by
 obtain⟨fa,fd,ps,hF,hm,hk,hb⟩:=G.ex;obtain⟨ta,a1,a2,a3⟩:=ha;refine⟨_,Ti hF hr hg hm hk hb .nil xo.call a1 aJ he a5,λ P0 P σ H Q ρ E h=>?_⟩;dsimp only at h;refine a2 P0 P σ H _ ρ E ?_;cases q:fs ρ with
 |bad|ex x=>rw[q] at h;exact h
 |ok ds =>
  rw[q] at h;simp only[M.A6] at h;intro vs H1 s1 aE;rw[zX];exact⟨by rw[aE.length,a3 ρ ds q];exact hn,P,ds,(E.same s1).BG,aE,h.same s1⟩
theorem En (h:DN X WX e fn):DN X (λ _ _=>False) e fn:=by
 obtain⟨t,h1,h2⟩:=h;refine⟨t,h1,λ P0 P σ H Q ρ E g=>h2 P0 P σ H Q ρ E ?_⟩;cases q:fn ρ with
 |bad=>rw[q] at g;exact g
 |ex x=>rw[q] at g;exact (g H (Ad.refl H)).elim
 |ok t=>rw[q] at g;exact g
noncomputable def V6 (t:OT):M Out:=match t with
 | .sh d=>.ok (.ret d)
 |t=>.ok (.BL (.ow (.tree none t)))
end
section
variable {X:Cx}{WX:Str->Hp->Prop}{c:Bool}{P0:Df}{P:Addr->Prop}{H:Hp}{σ:St}{ρ:Aa}{a b e:Expr}{f g:Aa->M D}{fn:Aa->M OT}{pos:Pos}
theorem Ai.kL {K:za}{H':Hp}{fp:List Addr}(E:Ai K P0 P H σ ρ)(s:Ad H H')(hn:∀a∈fp,H a=none):Tr P0 P H (PU P fp) H':=
 ⟨BU s hn,λ a ha=>by obtain⟨o,q,_⟩:=E.BG a (E.sub a ha);rw[q];exact s _ _ q⟩
theorem Ap (ha:DN X WX e fn):DS X WX (.Return (some e) pos) (λ ρ=>(fn ρ).bind V6):=by
 obtain⟨ta,a1,a2⟩:=ha;refine⟨_,RE a1,λ P0 P σ H Z ρ E h=>?_⟩;dsimp only at h;refine a2 P0 P σ H _ ρ E ?_;cases q:fn ρ with
 |bad=>rw[q] at h;exact h
 |ex x=>rw[q] at h;exact λ H' s=>h H' P (E.tr s)
 |ok t =>
  rw[q] at h;simp only[M.A6] at h;intro v fp H' s hn nd o;have key:gS X.K WX P0 P H Z (.ok (.BL (.ow (.tree none t))))->Z.rt v H':=λ h =>
   h v fp H' (PU P fp) (E.kL s hn) (λ a ha=>.inl (E.sub a ha)) (Iy (E.same s).BG o) o (λ a ha=>⟨.inr ha,λ z=>(E.BG a (E.sub a z)).no (hn a ha)⟩) nd
  cases t with
  |sh d =>
   cases o with
   |sh hv=>exact h v H' P (E.tr s) (hv.mono (Cp λ a ha=>.inl (E.sub a ha)))
  |lst ts|tup ts|B8 b ks ts|ins x ns ts=>exact key h
noncomputable def EL:List OT->Option (List D)
 |[]=>some []
 | .sh d::r=>(EL r).map (d::·)
 |_::_=>none
theorem BV:∀ds:List D,EL (ds.map .sh)=some ds
 |[]=>rfl
 |d::r=>by rw[zh,EL,BV r];rfl
theorem Eo:∀ {ts:List OT}{ds:List D},EL ts=some ds->ts=ds.map .sh
 |[],ds,h=>by cases h;rfl
 | .sh d::r,ds,h=>by
  rw[EL] at h;cases q:EL r with
  |none=>rw[q] at h;cases h
  |some es=>rw[q] at h;cases h;rw[zh,<-Eo q]
 | .lst _::r,ds,h| .tup _::r,ds,h| .B8 _ _ _::r,ds,h| .ins _ _ _::r,ds,h=>by cases h
noncomputable def toCl (p:Option Nat)(t:OT):Cl:=match t with
 | .lst ts=>(match EL ts with
  |some ds=>(match p with|none=>.own ds|some q=>.ow (.HW q ds))
  |none=>.ow (.tree p (.lst ts)))
 |t=>.ow (.tree p t)
@[simp] theorem toCl_list (ds:List D):toCl none (.lst (ds.map .sh))=.own ds:=by unfold toCl;simp only[BV]
@[simp] theorem toCl_listP (q:Nat) (ds:List D):toCl (some q) (.lst (ds.map .sh))=.ow (.HW q ds):=by unfold toCl;simp only[BV]
@[simp] theorem toCl_dct (p:Option Nat) (b:Bool) (ks:List D) (ts:List OT):toCl p (.B8 b ks ts)=.ow (.tree p (.B8 b ks ts)):=rfl
noncomputable def treeOf:Cl->Option (Option Nat×OT)
 | .own ds=>some (none,.lst (ds.map .sh))
 | .ow (.HW p ds)=>some (some p,.lst (ds.map .sh))
 | .ow (.rows FR)=>some (none,.lst (FR.map λ ds=>.lst (ds.map .sh)))
 | .ow (.tree p t)=>some (p,t)
 | .val _=>none
theorem Ck.toT {K:za}{H:Hp}{P:Addr->Prop}{c:Cl}{v:V}{fp:List Addr}{p:Option Nat}{t:OT}(h:Ck K H P c v fp)(e:treeOf c=some (p,t)):Bx K H P v t fp:=by
 cases c with
 |val d=>exact h.elim
 |own ds =>
  cases e;obtain⟨p,xs,rfl,rfl,h1,h2⟩:=h;exact .lst h1 h2.ows
 |ow o =>
  cases o with
  |rows FR =>
   cases e;obtain⟨p,ps,rfl,rfl,h1,h2⟩:=h;exact .lst h1 h2.ows
  |HW p ds =>
   cases e;obtain⟨p,xs,rfl,rfl,h1,h2⟩:=h;exact .lst h1 h2.ows
  |tree p t'=>cases e;exact h
theorem Ck.toCl {K:za}{H:Hp}{P:Addr->Prop}{v:V}{fp:List Addr}{p:Option Nat}{t:OT}(h:Bx K H P v t fp):Ck K H P (toCl p t) v fp:=by
 unfold L2.toCl;split
 ·rename_i ts;cases q:EL ts with
  |none=>exact h
  |some ds =>
   have e:=Eo q;subst e;cases h with
   |lst h1 h2 =>
    obtain⟨rfl,h3⟩:=h2.kK;cases p with
    |none|some q=>exact⟨_,_,rfl,rfl,h1,h3⟩
 ·exact h
theorem IA (p:Option Nat)(t:OT):Ia (toCl p t)=p:=by
 unfold toCl;split
 ·rename_i ts;cases q:EL ts with
  |none|some ds=>cases p<;>rfl
 ·cases p<;>rfl
theorem IB {c:Cl}{p:Option Nat}{t:OT}(h:treeOf c=some (p,t)):Ia c=p:=by
 cases c with
 |val d=>cases h
 |own ds=>cases h;rfl
 |ow o =>
  cases o with
  |rows FR|HW p ds=>cases h;rfl
  |tree p t=>cases h;cases p<;>rfl
noncomputable def Sf (i:Nat)(ρ:Aa)(t:OT):M Out:=match t with
 | .sh d=>.ok (.next (ρ.set i (some (.val d))))
 |t=>.ok (.next (ρ.set i (some (toCl none t))))
theorem nI {K:za}{i:Nat}{t:OT}{v:V}{fp:List Addr}{H':Hp}{Z:Ends}(E:Ai K P0 P H σ ρ)(s:Ad H H')(hn:∀a∈fp,H a=none)(nd:fp.Nodup)(o:Bx K H' (PU P fp) v t fp)(h:gS K WX P0 P H Z (Sf i ρ t)):Z.nx (σ.set i (some v)) H':=by
 have key:gS K WX P0 P H Z (.ok (.next (ρ.set i (some (toCl none t)))))->Z.nx (σ.set i (some v)) H':=λ h=>by
  refine h _ H' (PU P fp) (E.kL s hn) (E.X5 K5 (Iy (E.same s).BG o) (BU s hn) (λ j c' v' ak ae g1 g2 g3 a ha=>?_) (Ck.toCl o) (λ a ha=>⟨.inr ha,λ z=>(E.BG a (E.sub a z)).no (hn a ha)⟩) nd (λ n z=>by rw[IA] at z;cases z));obtain⟨xs,z⟩:=g3.at a ha;exact⟨by rw[z];exact s _ _ z,λ w=>by rw[hn a w] at z;cases z⟩
 cases t with
 |sh d =>
  cases o with
  |sh hv=>exact h _ H' P (E.tr s) ((E.same s).X4 (by rw[Sd] at hv;exact hv))
 |lst ts|tup ts|B8 b ks ts|ins x ns ts=>exact key h
theorem BJ (i:Nat){x:Str}{pos':Pos}(hN:X.N.Nodup)(hi:X.N[i]?=some x)(hx:Loc X.env.scope x)(ha:DN X WX e fn)(hs:swapsWith e (some (.Name x pos')) pos.line X.env=pure false:=by rfl)(hf:X.fn x=true\/X.env.scope.names.lookup x=some .local:=by first | exact .inl rfl | exact .inr rfl | assumption):
 DS X WX (.Assign [.Name x pos'] e pos) (λ ρ=>(fn ρ).bind (Sf i ρ)):=by
 obtain⟨ta,a1,a2⟩:=ha;refine⟨_,Wl hN hi hx a1 hs hf,λ P0 P σ H Z ρ E h=>?_⟩;dsimp only at h;refine a2 P0 P σ H _ ρ E ?_;cases q:fn ρ with
 |bad=>rw[q] at h;exact h
 |ex x=>rw[q] at h;exact λ H' s=>h H' P (E.tr s)
 |ok t =>
  rw[q] at h;exact λ v fp H' s hn nd o=>nI E s hn nd o h
noncomputable def Sg (i:Nat)(ρ:Aa):M Out:=match ρ[i]? with
 |some (some (.val d))=>.ok (.ret d)
 |some (some c)=>.ok (.BL c)
 |_=>.bad
theorem FV (i:Nat){x:Str}{p1:Pos}(hv:PE X (.Name x p1) (OJ i)):DS X WX (.Return (some (.Name x p1)) pos) (Sg i):=by
 refine⟨_,RE hv,λ P0 P σ H Z ρ E h=>?_⟩;unfold Sg at h;split at h
 ·rename_i d e1;obtain⟨v,h1,h2⟩:=E.val i d e1;exact⟨v,h1,h v H P Tr.refl (h2.mono (Cp E.sub))⟩
 ·rename_i c hc e1;have io:Gx c=true:=by
   cases c with
   |val d=>exact (hc d rfl).elim
   |own ds|ow o=>rfl
  obtain⟨v,fp,h1,h2,h3,h4⟩:=E.ows i _ e1 io;exact⟨v,h1,h v fp H P Tr.refl E.sub E.BG h2 h3 h4⟩
 ·exact h.elim
theorem Sh:∀ds:List D,I9 (ds.map .sh)=ds
 |[]=>rfl
 |d::r=>by rw[zh,I9,er,Sh r]
noncomputable def Xn (i:Nat)(ρ:Aa):Aa:=match ρ[i]? with
 |some (some c)=>ρ.set i (some (L8 c))
 |_=>ρ
end
section
variable {K:za}{H H':Hp}{P P':Addr->Prop}
theorem C1.same {v:V}{t:OT}{q:List Addr}{xs:List V}(e:Ad H H')(h:C1 K H P v t q xs):C1 K H' P v t q xs:=by
 cases t with
 |sh d=>exact h.elim
 |lst ts=>obtain⟨p,rfl,rfl,h⟩:=h;exact⟨p,rfl,rfl,e _ _ h⟩
 |tup ts=>obtain⟨p,rfl,rfl,h⟩:=h;exact⟨p,rfl,rfl,e.del _ _ h⟩
 |B8 b ks ts =>
  cases b with
  |false|true=>obtain⟨p,kvs,rfl,rfl,h,rfl,rfl⟩:=h;exact⟨p,kvs,rfl,rfl,e _ _ h,rfl,rfl⟩
 |ins x ns ts=>obtain⟨p,C,dx,fs,rfl,rfl,n,h,rfl,rfl⟩:=h;exact⟨p,C,dx,fs,rfl,rfl,n,e _ _ h,rfl,rfl⟩
theorem GO.same {v v1:V}{t t1:OT}{π:List Nat}(e:Ad H H')(h:GO K H P v t π v1 t1):GO K H' P v t π v1 t1:=by
 induction h with
 |nil=>exact .nil
 |cons n hx hs _ ih=>exact .cons (n.same e) hx hs ih
theorem C1.more {v:V}{t:OT}{q:List Addr}{xs:List V}(sm:Ad (del H P) (del H' P'))(e:Ad H H')(h:C1 K H P v t q xs):C1 K H' P' v t q xs:=by
 cases t with
 |sh d=>exact h.elim
 |lst ts=>obtain⟨p,rfl,rfl,h⟩:=h;exact⟨p,rfl,rfl,e _ _ h⟩
 |tup ts=>obtain⟨p,rfl,rfl,h⟩:=h;exact⟨p,rfl,rfl,sm _ _ h⟩
 |B8 b ks ts =>
  cases b with
  |false|true=>obtain⟨p,kvs,rfl,rfl,h,rfl,rfl⟩:=h;exact⟨p,kvs,rfl,rfl,e _ _ h,rfl,rfl⟩
 |ins x ns ts=>obtain⟨p,C,dx,fs,rfl,rfl,n,h,rfl,rfl⟩:=h;exact⟨p,C,dx,fs,rfl,rfl,n,e _ _ h,rfl,rfl⟩
theorem GO.more {v v1:V}{t t1:OT}{π:List Nat}(sm:Ad (del H P) (del H' P'))(e:Ad H H')(h:GO K H P v t π v1 t1):GO K H' P' v t π v1 t1:=by
 induction h with
 |nil=>exact .nil
 |cons n hx hs _ ih=>exact .cons (n.more sm e) hx hs ih
end
noncomputable def Pe (i:Nat)(ρ:Aa)(π:List Nat):Option OT:=match ρ[i]? with
 |some (some c)=>(match treeOf c with|some (_,t)=>GN t π|none=>none)
 |_=>none
structure AU (K:za)(P:Addr->Prop)(H:Hp)(σ:St)(ρ:Aa)(i:Nat)(π:List Nat)(v:V)(t1:OT):Prop where
 ex:∃v0 c p t,ρ[i]?=some (some c)/\treeOf c=some (p,t)/\σ[i]?=some (some v0)/\GO K H P v0 t π v t1
theorem AU.at {K:za}{P:Addr->Prop}{H:Hp}{σ:St}{ρ:Aa}{i:Nat}{π:List Nat}{v:V}{t1:OT}(h:AU K P H σ ρ i π v t1):Pe i ρ π=some t1:=by
 obtain⟨v0,c,p,t,h1,h2,h3,h4⟩:=h.ex;unfold Pe;simp only[h1,h2];exact h4.sub
theorem AU.same {K:za}{P:Addr->Prop}{H H':Hp}{σ:St}{ρ:Aa}{i:Nat}{π:List Nat}{v:V}{t1:OT}(e:Ad H H')(h:AU K P H σ ρ i π v t1):AU K P H' σ ρ i π v t1:=by
 obtain⟨v0,c,p,t,h1,h2,h3,h4⟩:=h.ex;exact⟨v0,c,p,t,h1,h2,h3,h4.same e⟩
theorem AU.more {K:za}{P P':Addr->Prop}{H H':Hp}{σ:St}{ρ:Aa}{i:Nat}{π:List Nat}{v:V}{t1:OT}(sm:Ad (del H P) (del H' P'))(e:Ad H H')(h:AU K P H σ ρ i π v t1):AU K P' H' σ ρ i π v t1:=by
 obtain⟨v0,c,p,t,h1,h2,h3,h4⟩:=h.ex;exact⟨v0,c,p,t,h1,h2,h3,h4.more sm e⟩
theorem AU.own {K:za}{P0:Df}{P:Addr->Prop}{H:Hp}{σ:St}{ρ:Aa}{i:Nat}{π:List Nat}{v:V}{t1:OT}(h:AU K P H σ ρ i π v t1)(E:Ai K P0 P H σ ρ):∃ax,Bx K H P v t1 ax/\(∀a∈ax,P a/\¬ P0 a)/\ax.Nodup:=by
 obtain⟨v0,c,p,t,h1,h2,h3,h4⟩:=h.ex;have io:Gx c=true:=by cases c<;>first|rfl|cases h2
 obtain⟨w,fp,k1,k2,k3,k4⟩:=E.ows i c h1 io;rw[h3] at k1;cases k1;obtain⟨ax,o1,hk,kn⟩:=(k2.toT h2).part h4;exact⟨ax,o1,λ a ha=>k3 a (hk a ha),kn k4⟩
def gP (K:za)(WX:Str->Hp->Prop)(P:Addr->Prop)(H:Hp)(σ:St)(ρ:Aa)(i:Nat)(Q:VK):M (List Nat)->Prop
 | .ok π=>∀v t1 H',Ad H H'->AU K P H' σ ρ i π v t1->Q v H'
 | .ex x=>∀H',Ad H H'->WX x H'
 | .bad=>False
def DP (X:Cx)(WX:Str->Hp->Prop)(e:Expr)(i:Nat)(f:Aa->M (List Nat)):Prop:=
 ∃t,PE X e t/\∀P0 P σ H Q ρ,Ai X.K P0 P H σ ρ->gP X.K WX P H σ ρ i Q (f ρ)->t σ H Q
section
variable {X:Cx}{WX:Str->Hp->Prop}{c:Bool}{P0:Df}{P:Addr->Prop}{H:Hp}{σ:St}{ρ:Aa}{a b e:Expr}{f g:Aa->M D}{fn:Aa->M OT}{fp:Aa->M (List Nat)}{pos:Pos}{i:Nat}
noncomputable def M7 (i:Nat)(ρ:Aa):M (List Nat):=match Pe i ρ [] with | some _=>.ok [] | none=>.bad
theorem Bd (i:Nat){x:Str}{p1:Pos}(hv:PE X (.Name x p1) (OJ i)):DP X WX (.Name x p1) i (M7 i):=by
 refine⟨_,hv,λ P0 P σ H Q ρ E h=>?_⟩;unfold M7 at h;split at h
 ·rename_i t e;unfold Pe at e;split at e
  ·rename_i cl e1;split at e
   ·rename_i p t0 e2;have io:Gx cl=true:=by cases cl<;>first|rfl|cases e2
    obtain⟨v,fp,h1,h2,h3,h4⟩:=E.ows i cl e1 io;exact⟨v,h1,h v t0 H (Ad.refl H) ⟨v,cl,p,t0,e1,e2,h1,.nil⟩⟩
   ·cases e
  ·cases e
 ·exact h.elim
noncomputable def Xo (i:Nat)(ρ:Aa)(π:List Nat)(d:D):M (List Nat):=match Pe i ρ π,d with
 |some (.lst ts),.int j|some (.tup ts),.int j=>(match RQ ts.length j with|some k=>.ok (π++[k])|none=>.bad)
 |_,_=>.bad
theorem TJ (ha:DP X WX a i fp)(hb:DE X WX true b g)(hs:Lh b:=by exact λ _ _=>rfl):DP X WX (.Subscript a b pos) i (λ ρ=>(fp ρ).bind λ π=>(g ρ).bind (Xo i ρ π)):=by
 obtain⟨ta,a1,a2⟩:=ha;obtain⟨tb,b1,b2⟩:=hb;refine⟨_,dQ (Tq.or WD) a1 b1 hs,λ P0 P σ H Q ρ E h=>?_⟩;dsimp only at h;refine a2 P0 P σ H _ ρ E ?_;cases q:fp ρ with
 |bad|ex x=>rw[q] at h;exact h
 |ok π =>
  rw[q] at h;simp only[M.A6] at h;intro v t1 H1 s1 pl;refine b2 P0 P σ H1 _ ρ (E.same s1) ?_;cases q2:g ρ with
  |bad=>rw[q2] at h;exact h
  |ex y=>rw[q2] at h;exact λ H' s=>h H' (s1.trans s)
  |ok d =>
   rw[q2] at h;simp only[M.A6] at h;intro w H2 s2 hw;have E2:=(E.same s1).same s2;have bW:=pl.same s2;obtain⟨ax,o1,_⟩:=bW.own E2;unfold Xo at h;rw[bW.at] at h;obtain⟨v0,c,p,t,k1,k2,k3,k4⟩:=bW.ex;split at h
   ·rename_i ts j e;cases e;split at h
    ·rename_i k hk;cases o1 with
     |lst hh hr =>
      have hx:∃s,ts[k]?=some s:=⟨_,zg (Xj hk)⟩;obtain⟨s,hs⟩:=hx;obtain⟨x,hx⟩:=hr.tF hs;refine .inl ⟨_,_,j,x,rfl,hw.int_inv,.of hh,?_,h x s H2 (s1.trans s2) ⟨v0,c,p,t,k1,k2,k3,k4.snoc (q:=[_]) (xs:=_) ⟨_,rfl,rfl,hh⟩ hx hs⟩⟩;unfold Rz;rw[hr.len,hk];exact hx
    ·exact h.elim
   ·rename_i ts j e;cases e;split at h
    ·rename_i k hk;cases o1 with
     |tup hh hr =>
      have hx:∃s,ts[k]?=some s:=⟨_,zg (Xj hk)⟩;obtain⟨s,hs⟩:=hx;obtain⟨x,hx⟩:=hr.tF hs;refine .inr ⟨_,_,j,x,rfl,hw.int_inv,.of (Aj hh).2,?_,h x s H2 (s1.trans s2) ⟨v0,c,p,t,k1,k2,k3,k4.snoc (q:=[]) (xs:=_) ⟨_,rfl,rfl,hh⟩ hx hs⟩⟩;unfold Rz;rw[hr.len,hk];exact hx
    ·exact h.elim
   ·exact h.elim
noncomputable def rA (i:Nat)(ρ:Aa)(π:List Nat):M D:=match Pe i ρ π with
 |some (.sh d)=>.ok d
 |_=>.bad
theorem Ai.iF {K:za}{P':Addr->Prop}{H':Hp}{π:List Nat}{v1:V}{t1 u:OT}{ax fu:List Addr}(E:Ai K P0 P H σ ρ)(pl:AU K P H σ ρ i π v1 t1)(o:Bx K H P v1 t1 ax)(hs:∀a,P a->P' a)(ht:∀a,P' a->EH H' a)(sm:Ad (del H P) (del H' P'))(keep:∀a,P a->a∉ax->H' a=H a)
 (o':Bx K H' P' v1 u fu) (nd:fu.Nodup) (hf:∀a∈fu,a∈ax\/(P' a/\¬ P0 a/\∀(j:Nat) c v fp,ρ[j]?=some (some c)->σ[j]?=some (some v)->Ck K H P c v fp->a∉fp)):
 ∃c p t,ρ[i]?=some (some c)/\treeOf c=some (p,t)/\Ai K P0 P' H' σ (ρ.set i (some (toCl p (Dv t π u))))/\Tr P0 P H P' H':=by
 obtain⟨v0,c,p,t,h1,h2,h3,h4⟩:=pl.ex;have io:Gx c=true:=by cases c<;>first|rfl|cases h2
 obtain⟨w,fp,k1,k2,k3,k4⟩:=E.ows i c h1 io;rw[h3] at k1;cases k1;have ot:=k2.toT h2;obtain⟨fz,oz,kz,_⟩:=ot.part h4;have:=oz.BS o;subst this;obtain⟨ak,q1,q2,q3⟩:=ot.put sm h4 o o' (λ a ha hn=>keep a (k3 a ha).1 hn) k4 nd (λ a ha hb=>(hf a ha).elim id λ z=>(z.2.2 i c v0 fp h1 h3 k2 hb).elim);refine⟨c,p,t,h1,h2,?_,sm,λ a ha=>keep a (E.sub a ha) λ z=>(k3 a (kz a z)).2 ha⟩;have key:=E.X5 (P':=P') (H':=H') (i:=i) (v:=v0) (c:=toCl p (Dv t π u)) (fp:=ak) hs ht sm (λ j c' v' fq ae g1 g2 g3 a ha=>?_) (Ck.toCl q1) (λ a ha=>?_) q2 (λ n z=>by rw[IA] at z;subst z;have:=E.pin i c n h1 (IB h2);rw[h3] at this;cases this;rfl)
 ·rw[K0 h3] at key;exact key
 ·have om:a∉fp:=E.apart j i c' c v' v0 fq fp g1 h1 g2 h3 g3 k2 (yc ae) a ha;have jj:Gx c'=true:=by cases c'<;>first|rfl|exact g3.elim
  obtain⟨w',fr,m1,m2,m3,m4⟩:=E.ows j c' g1 jj;rw[g2] at m1;cases m1;have:=m2.BS g3;subst this;refine⟨keep a (m3 a ha).1 λ z=>om (kz a z),λ z=>?_⟩;rcases q3 a z with y|y
  ·rcases hf a y with x|x
   ·exact om (kz a x)
   ·exact x.2.2 j c' v' fr g1 g2 g3 ha
  ·exact om y.1
 ·rcases q3 a ha with y|y
  ·rcases hf a y with x|x
   ·exact⟨hs a (k3 a (kz a x)).1,(k3 a (kz a x)).2⟩
   ·exact⟨x.1,x.2.1⟩
  ·exact⟨hs a (k3 a y.1).1,(k3 a y.1).2⟩
theorem Ai.nJ {K:za}{π:List Nat}{l:Addr}{xs ys:List V}{ts us:List OT}{fq fu:List Addr}(E:Ai K P0 P H σ ρ)(pl:AU K P H σ ρ i π (.ref l) (.lst ts))(hH:H l=some (.lst xs))(o:Au K H P xs ts fq)(o':Au K H P ys us fu)(nd:fu.Nodup)(hl:l∉fu)
 (hf:∀a∈fu,a∈fq\/(P a/\¬ P0 a/\∀(j:Nat) c v fp,ρ[j]?=some (some c)->σ[j]?=some (some v)->Ck K H P c v fp->a∉fp)):
 ∃c p t,ρ[i]?=some (some c)/\treeOf c=some (p,t)/\Ai K P0 P (upd H l (.lst ys)) σ (ρ.set i (some (toCl p (Dv t π (.lst us)))))/\Tr P0 P H P (upd H l (.lst ys)):=by
 have ot:Bx K H P (.ref l) (.lst ts) (l::fq):=.lst hH o;obtain⟨ax,o1,hp,_⟩:=pl.own E;have:=o1.BS ot;subst this;have pP:P l:=(hp l zc).1;have sd:del (upd H l (.lst ys)) P=del H P:=by
  funext b;by_cases hb:P b
  ·rw[Ef hb,Ef hb]
  ·rw[Aq hb,Aq hb,Ab (λ z=>hb (by rw[z];exact pP))]
 have sm:Ad (del H P) (del (upd H l (.lst ys)) P):=by rw[sd];exact Ad.refl _
 refine E.iF pl ot (λ _ h=>h) (λ a h=>?_) sm (λ a ha hn=>Ab λ z=>hn (by rw[z];exact zc)) (.lst Al (o'.move sm λ a ha=>Ab λ z=>hl (by rw[<-z];exact ha))) (yf.mpr ⟨hl,nd⟩) (λ a ha=>?_)
 ·by_cases ha:a=l
  ·subst ha;exact EH.lst Al
  ·unfold EH;rw[Ab ha];exact E.BG a h
 ·rcases zq.mp ha with z|z
  ·exact .inl (by rw[z];exact zc)
  ·rcases hf a z with y|y
   ·exact .inl (zf _ y)
   ·exact .inr y
end
noncomputable def kd:D->Option Key
 | .int i=>some (.inl i)
 | .str x=>some (.inr x)
 |_=>none
noncomputable def kM:List D->Option (List Key)
 |[]=>some []
 |d::r=>match kd d,kM r with|some k,some ks=>some (k::ks)|_,_=>none
theorem eB {d:D}{k:Key}(h:kd d=some k):d=Cn k:=by
 cases d<;>simp[kd] at h<;>subst h<;>rfl
theorem Xp:∀ {ds:List D}{ks:List Key},kM ds=some ks->ds=ks.map Cn
 |[],ks,h=>by cases h;rfl
 |d::r,ks,h=>by
  rw[kM] at h;cases q:kd d with
  |none=>rw[q] at h;cases h
  |some k =>
   cases q2:kM r with
   |none=>rw[q,q2] at h;cases h
   |some jk =>
    rw[q,q2] at h;cases h;rw[zh,<-eB q,<-Xp q2]
inductive ZA:Bool->D->Prop
 |k (κ:Key):ZA false (Cn κ)
 |t (κ:List Key):ZA true (.tup (κ.map Cn))
noncomputable def keyOk (b:Bool)(d:D):Bool:=match b,d with
 |false,d=>(kd d).isSome
 |true,.tup ds=>(kM ds).isSome
 |_,_=>false
theorem Jp {b:Bool}{d:D}(h:keyOk b d=true):ZA b d:=by
 cases b with
 |false =>
  obtain⟨k,hk⟩:=yZ.mp (show (kd d).isSome=true from h);rw[eB hk];exact .k k
 |true =>
  cases d with
  |tup ds =>
   obtain⟨k,hk⟩:=yZ.mp (show (kM ds).isSome=true from h);rw[Xp hk];exact .t k
  |_=>cases h
theorem M8 (a b:Key):Av (Cn a) (Cn b)=decide (a=b):=by
 cases a with
 |inl i =>
  cases b with
  |inl j=>simp only[Cn,Av];rw[xf];simp
  |inr y=>simp[Cn,Av]
 |inr x =>
  cases b with
  |inl j=>simp[Cn,Av]
  |inr y=>simp only[Cn,Av];rw[xf];simp
theorem Ln:∀a b:List Key,C5 (a.map Cn) (b.map Cn)=decide (a=b)
 |[],[]|[],_::_|_::_,[]=>by simp[C5]
 |a::r,b::t=>by
  rw[zh,zh,C5,M8,Ln r t,xf];simp
noncomputable def Jq {α:Type}:List D->List α->D->Option α
 |k::ks,v::vs,y=>if Av k y=true then some v else Jq ks vs y
 |_,_,_=>none
noncomputable def IC {α:Type}:List D->List α->D->α->List α
 |k::ks,v::vs,y,z=>(if Av k y=true then z else v)::IC ks vs y z
 |_,vs,_,_=>vs
noncomputable def L9 (ks:List D)(y:D):Bool:=ks.any λ k=>Av k y
section
variable {κ:Type} [DecidableEq κ] {fk:κ->D}(hf:∀a b,Av (fk a) (fk b)=decide (a=b))
include hf
theorem M9 {α:Type}:∀(kvs:List (κ×α)) (k:κ),Jq (kvs.map λ kv=>fk kv.1) (kvs.map yz) (fk k)=(kvs.find? λ kv=>decide (kv.1=k)).map (·.2)
 |[],k=>rfl
 |p::r,k=>by
  rw[zh,zh,Jq,hf,xp];by_cases e:p.1=k
  ·rw[decide_eq_true e];rfl
  ·rw[decide_eq_false e];simp only[zF,if_false];exact M9 r k
theorem Ma {α:Type}(kvs:List (κ×α))(k:κ):L9 (kvs.map λ kv=>fk kv.1) (fk k)=kvs.any λ kv=>decide (kv.1=k):=by
 unfold L9;rw[List.any_map];congr 1;funext kv;exact hf _ _
theorem Jr (k:κ)(v:V):∀(kvs:List (κ×V)),IC (kvs.map λ kv=>fk kv.1) (kvs.map yz) (fk k) v=(kvs.map λ kv=>if kv.1=k then (kv.1,v) else kv).map yz
 |[]=>rfl
 |p::r=>by
  rw[zh,zh,IC,hf,zh,zh,Jr k v r];by_cases e:p.1=k
  ·rw[decide_eq_true e,if_pos e];rfl
  ·rw[decide_eq_false e,if_neg e];rfl
theorem Js (k:κ)(v:V):∀(kvs:List (κ×V)),(kvs.map λ kv=>if kv.1=k then (kv.1,v) else kv).map (λ kv=>fk kv.1)=kvs.map λ kv=>fk kv.1
 |[]=>rfl
 |p::r=>by
  rw[zh,zh,zh,Js k v r];by_cases e:p.1=k
  ·rw[if_pos e]
  ·rw[if_neg e]
end
theorem Qv {K:za}{H:Hp}:∀ {ks:List D}{xs:List V}{ds:List D}{y d:D},Ag K H xs ds->Jq ks ds y=some d->∃x,Jq ks xs y=some x/\Bw K H x d
 |[],_,_,_,_,_,e|_::_,_,_,_,_,.nil,e=>by simp[Jq] at e
 |k::ks,_,_,y,d,.cons h t,e=>by
  rw[Jq] at e ⊢;by_cases q:Av k y=true
  ·rw[if_pos q] at e ⊢;cases e;exact⟨_,rfl,h⟩
  ·rw[if_neg q] at e ⊢;exact Qv t e
theorem NX {α:Type}:∀ {ks:List D}{xs:List α}{y:D},xs.length=ks.length->L9 ks y=(Jq ks xs y).isSome
 |[],[],y,_=>rfl
 |k::ks,x::xs,y,h=>by
  unfold L9;rw[xr,Jq];cases q:Av k y with
  |true=>rfl
  |false =>
   simp only[Bool.false_or,zF,if_false];exact NX (by simpa using h)
 |[],_::_,_,h|_::_,[],_,h=>by cases h
theorem Jt {K:za}{H:Hp}{P:Addr->Prop}{y d:D}{v:V}(hv:Bw K (del H P) v d):∀ {ks:List D}{xs:List V}{ds:List D},Ag K (del H P) xs ds->Ag K (del H P) (IC ks xs y v) (IC ks ds y d)
 |[],_,_,h=>by simp only[IC];exact h
 |_::_,_,_,.nil=>by simp only[IC];exact .nil
 |k::ks,_,_,.cons h t=>by
  rw[IC,IC];refine .cons ?_ (Jt hv t);by_cases q:Av k y=true
  ·rw[if_pos q,if_pos q];exact hv
  ·rw[if_neg q,if_neg q];exact h
section
variable {K:za}{H:Hp}{P:Addr->Prop}
theorem Ag.keys:∀ {xs:List V}(κ:List Key),Ag K H xs (κ.map Cn)->xs=κ.map kV
 |_,[],.nil=>rfl
 |_,k::r,.cons h t=>by
  rw[zh,<-Ag.keys r t];congr 1;cases k with
  |inl i=>exact h.int_inv
  |inr x=>cases h;rfl
theorem Bw.nK {y:V}{κ:Key}(h:Bw K H y (Cn κ)):y=kV κ:=by
 cases κ with
 |inl i=>exact h.int_inv
 |inr x=>cases h;rfl
theorem TM {v y:V}{b:Bool}{ks vs:List D}{k:D}(hv:Bw K (del H P) v (.B8 b ks vs))(hy:Bw K (del H P) y k)(hk:ZA b k):∃a xs,v=.ref a/\RY H a y (Jq ks xs k)/\Ag K (del H P) xs vs/\xs.length=ks.length:=by
 cases hv with
 |HV hh hl =>
  cases hk with
  |k κ =>
   refine⟨_,_,rfl,?_,hl,by simp⟩;rw[hy.nK,M9 M8];exact .inl ⟨_,κ,hh.Bj,rfl,rfl⟩
 |GC hh hl =>
  cases hk with
  |t κ =>
   cases hy with
   |tup ht aB =>
    have e:=Ag.keys κ aB;subst e;refine⟨_,_,rfl,?_,hl,by simp⟩;rw[M9 (fk:=λ κ:List Key=>D.tup (κ.map Cn)) (λ a b=>by simp only[Av];exact Ln a b)];exact .inr ⟨_,κ,_,hh.Bj,rfl,(Aj ht).2,rfl⟩
end
section
variable {X:Cx}{WX:Str->Hp->Prop}{c:Bool}{P0:Df}{P:Addr->Prop}{H:Hp}{σ:St}{ρ:Aa}{a b e:Expr}{f g:Aa->M D}{fn:Aa->M OT}{fp:Aa->M (List Nat)}{pos:Pos}{i:Nat}
noncomputable def nL:R2:=λ x y H Q=>∃a v,x=.ref a/\RY H a y (some v)/\Q v H
theorem ZC (hu:X.A.units+1<cLine):Z4 X nL:=by
 intro value slice pins s σ H x y v u Q I rx ry h hs;obtain⟨a,z,rfl,g,q⟩:=h;cases rx;have hT:=Qe I g;have h₂:wpAny (model X.prog X.w) X.A (getItem (.ref a) u) (EP X pins σ Q) X.xe s:=UL hu I g ry λ w' s3 I3 bF=>⟨z,H,I3,bF,q⟩;unfold subscriptTail;refine wpAny_bind ?_;rw[getitemInPython_of_ne hT.not_modules];refine wpAny_bind (wpAny_specialOf hT PySem.F.slot_dict_getitem.lookup ?_);have fin:wpAny (model X.prog X.w) X.A (subscripted slice false (.ref a) u) (λ r s₃=>wpAny (model X.prog X.w) X.A (letTemporaryGo value (.ref a) r >>= λ _=>pure r) (EP X pins σ Q) X.xe s₃) X.xe s:=by
  rw[hs];exact wpAny_operating (wpAny_mono h₂ (λ r s₃ h₃=>wpAny_bind (wpAny_letTemporaryGo (wpAny_pure h₃))) λ _ _ x=>x)
 first
  |exact wpAny_pure (wpAny_bind fin)
  |exact wpAny_bind (wpAny_pure (wpAny_bind fin))
  |exact wpAny_bind fin
noncomputable def B9 (x y:D):M D:=match x with
 | .B8 b ks vs=>if keyOk b y=true then (match Jq ks vs y with|some d=>.ok d|none=>.bad) else .bad
 |x=>kJ x y
theorem ZD:Tv X.K WX (λ x y H Q=>(gE X.K x y H Q\/gF X.K x y H Q)\/nL x y H Q) B9:=by
 intro P H x y v w Q ht hx hy h;cases x with
 |B8 b ks vs =>
  simp only[B9] at h;by_cases hk:keyOk b y=true
  ·rw[if_pos hk] at h;obtain⟨a,xs,rfl,g,hl,_⟩:=TM hx hy (Jp hk);split at h
   ·rename_i d e;obtain⟨u,e1,e2⟩:=Qv hl e;rw[e1] at g;exact .inr ⟨a,u,rfl,g,h _ H (Ad.refl H) e2⟩
   ·exact h.elim
  ·rw[if_neg hk] at h;exact h.elim
 |Ay|bl b|int b|str b|tup b|lst b|Dq b|ins b _ _=>exact .inl (GH P H _ y v w Q ht hx hy h)
theorem Ah {n:Nat}(hu:X.A.units+n<cLine)(ha:DE X WX c a f)(hb:DE X WX c b g)(hs:Lh b:=by exact λ _ _=>rfl)(hn:1<=n:=by decide):DE X WX c (.Subscript a b pos) (λ ρ=>(f ρ).bind λ x=>(g ρ).bind λ y=>B9 x y):=mS ((Tq.or WD).or (ZC (by omega))) ZD ha hb hs
noncomputable def iG (neg:Bool):R2:=λ y x H Q=>∃a o,x=.ref a/\RY H a y o/\Q (.bl (if neg=true then !o.isSome else o.isSome)) H
theorem Si (hu:X.A.units+1<cLine):Hm X (compareOp .In) (iG false):=by
 intro pins s σ H x y v u Q I rx ry h;obtain⟨a,o,rfl,g,q⟩:=h;cases ry;exact qR hu I g rx λ s3 I3=>⟨.bl o.isSome,H,I3,rfl,q⟩
theorem Nj (hu:X.A.units+1<cLine):Hm X (compareOp .NotIn) (iG true):=by
 intro pins s σ H x y v u Q I rx ry h;obtain⟨a,o,rfl,g,q⟩:=h;cases ry;exact Za hu I g rx λ s3 I3=>⟨.bl (!o.isSome),H,I3,rfl,q⟩
noncomputable def Nk (neg:Bool)(y x:D):M D:=match x with
 | .B8 b ks vs=>if keyOk b y=true then .ok (.bl (if neg=true then !L9 ks y else L9 ks y)) else .bad
 |x=>pC neg y x
theorem TN {neg:Bool}:Tv X.K WX (λ x y H Q=>oY X.K neg x y H Q\/iG neg x y H Q) (Nk neg):=by
 intro P H x y v w Q ht hx hy h;cases y with
 |B8 b ks vs =>
  simp only[Nk] at h;by_cases hk:keyOk b x=true
  ·rw[if_pos hk] at h;obtain⟨a,xs,rfl,g,hl,hn⟩:=TM hy hx (Jp hk);rw[NX (xs:=xs) hn] at h;exact .inr ⟨a,_,rfl,g,h _ H (Ad.refl H) (.bl _)⟩
  ·rw[if_neg hk] at h;exact h.elim
 |Ay|bl b|int b|str b|tup b|lst b|Dq b|ins b _ _=>exact .inl (GK P H x _ v w Q ht hx hy h)
theorem Sj {n:Nat}(hu:X.A.units+n<cLine)(ha:DE X WX c a f)(hb:DE X WX c b g)(hm:behindInMarks .In b=false:=by rfl)(hn:1<=n:=by decide):DT X WX (.Compare a [.In] [b] pos) (λ ρ=>((f ρ).bind λ x=>(g ρ).bind λ y=>Nk false x y).bind Ni):=Hq (UH.or (Si (by omega))) TN ha hb hm
theorem Lo {n:Nat}(hu:X.A.units+n<cLine)(ha:DE X WX c a f)(hb:DE X WX c b g)(hm:behindInMarks .NotIn b=false:=by rfl)(hn:1<=n:=by decide):DT X WX (.Compare a [.NotIn] [b] pos) (λ ρ=>((f ρ).bind λ x=>(g ρ).bind λ y=>Nk true x y).bind Ni):=Hq (ON.or (Nj (by omega))) TN ha hb hm
noncomputable def Dx:D->M Bool
 | .Ay=>.ok false
 | .bl b=>.ok b
 | .int i=>.ok (i != 0)
 | .tup ds| .lst ds=>.ok (!ds.isEmpty)
 |_=>.bad
theorem Ju {K:za}{H:Hp}{xs:List V}{ds:List D}(h:Ag K H xs ds):(!ds.isEmpty) = !xs.isEmpty:=by cases h<;>rfl
theorem Bs (h:DE X WX c e f)(he:∀whole,isTrue e X.env whole=(do let v <-whole;standAt e.pos;holding [v] (truthy v)):=by intro _;rfl):DT X WX e (λ ρ=>(f ρ).bind Dx):=by
 obtain⟨t,h1,h2⟩:=h;refine⟨_,Wu h1 he,λ P0 P σ H Q ρ E h=>h2 P0 P σ H _ ρ E ?_⟩;dsimp only at h;cases q:f ρ with
 |bad|ex x=>rw[q] at h;exact h
 |ok d =>
  rw[q] at h;simp only[M.A6] at h;intro v H' s hv;cases hv with
  |Ay=>exact⟨false,rfl,h H' s⟩
  |bl b=>exact⟨b,rfl,h H' s⟩
  |int i=>exact⟨_,rfl,h H' s⟩
  |tup hs hl=>exact⟨_,.inr (.inl ⟨_,Gk.of (Aj hs).2,rfl⟩),by rw[<-Ju hl];exact h H' s⟩
  |lst hs hl=>exact⟨_,.inl ⟨_,hs.Bj,rfl⟩,by rw[<-Ju hl];exact h H' s⟩
  |_=>exact h.elim
end
noncomputable def Gn (m:M (List D)):M OT:=match m with | .ok ys=>.ok (.lst (ys.map .sh)) | _=>.bad
section
variable {X:Cx}{WX:Str->Hp->Prop}{c:Bool}{P0:Df}{P:Addr->Prop}{H:Hp}{σ:St}{ρ:Aa}{a b e tg iter:Expr}{f g:Aa->M D}{ft:Aa->M Bool}{pos:Pos}{gt:D->Aa->M Aa}{fi:Aa->M (List D)}{es:List Expr}{fs:Aa->M (List D)}
theorem iH {μ:List (Option Nat)}{wi:TI}{gg:TG}{tc:Shared->Hp->Addr->List Addr->TT}{te:Shared->Hp->Addr->List Addr->TE}{fe:Aa->M D}
 (i2:∀P0 P σ H R ρ,Ai X.K P0 P H σ ρ->(match fi ρ with | .ok ds=>∀J H',Ad H H'->S5 X.K J P H' ds->R J H' | .ex x=>∀H',Ad H H'->WX x H' | .bad=>False)->wi σ H R)
 (g2:∀P0 P σ H Q ρ v d,Ai X.K P0 P H σ ρ->Bw X.K (del H P) v d->gG X.K P0 P H Q (gt d ρ)->gg v σ H Q)
 (t2:∀s H' C ex P0 P σ H Q ρ,Ai X.K P0 P H σ ρ->gT (λ _ _=>False) H Q (ft ρ)->tc s H' C ex σ H Q)
 (e2:∀s H' C ex P0 P σ H Q ρ,Ai X.K P0 P H σ ρ->gV X.K (λ _ _=>False) (Lv true P0 P) H Q (fe ρ)->te s H' C ex σ H Q) {Q:VK}
 (E:Ai X.K P0 P H σ ρ) (h:YG X.K WX P H Q ((fi ρ).bind λ ds=>if ds.length<=1000 then Gn (AM gt ft fe ds (B2 μ ρ)) else .bad)):Qh wi μ gg tc te σ H Q:=by
 refine i2 P0 P σ H _ ρ E ?_;cases q:fi ρ with
 |bad|ex x=>rw[q] at h;exact h
 |ok ds =>
  rw[q] at h;simp only[M.A6] at h;by_cases hd:¬ ds.length<=1000
  ·rw[if_neg hd] at h;exact h.elim
  have hd:ds.length<=1000:=by omega
  rw[if_pos hd] at h;intro J H1 s1 ok s C ex;cases qc:AM gt ft fe ds (B2 μ ρ) with
  |bad|ex x=>rw[qc] at h;exact h.elim
  |ok total =>
   rw[qc] at h;unfold Gn at h;dsimp only at h;have E1:=E.same s1;refine⟨λ i m ys H2=>m=ds.length-i/\i<=ds.length/\ys.length<=i/\Ad H1 H2/\∃es rest,Ag X.K (del H2 P) ys es/\AM gt ft fe (ds.drop i) (B2 μ ρ)=.ok rest/\es++rest=total,
    ⟨ds.length,by simp,zQ _,zv _,Ad.refl _,[],total,.nil,by rw[xl];exact qc,rfl⟩,?_⟩
   rintro i m ys H2 ⟨rfl,hi,hy,s2,es,rest,bA,ag,aH⟩;by_cases aj:i<ds.length
   ·refine .inr ⟨ok.go i P H2 s2.del aj,Nat.lt_of_le_of_lt hy (AA (by omega)),λ bd H'=>i+1<=ds.length/\bd.length<=i+1/\Ad H1 H'/\∃es rest,Ag X.K (del H' P) bd es/\AM gt ft fe (ds.drop (i+1)) (B2 μ ρ)=.ok rest/\es++rest=total,λ bd H' hq=>⟨ds.length-(i+1),by omega,rfl,hq.1,hq.2.1,hq.2.2.1,hq.2.2.2⟩,λ v H3 y=>?_⟩;have E2:=E1.same s2;obtain⟨s3,hv⟩:=ok.YT i P H2 v H3 ds[i] s2.del E2.BG (zg aj) y;rw[Ei aj,AM] at ag;have E3:=(E2.same s3).block μ;refine g2 P0 P _ H3 _ (B2 μ ρ) v ds[i] E3 hv ?_;cases q1:gt ds[i] (B2 μ ρ) with
    |bad|ex x=>rw[q1] at ag;cases ag
    |ok ρ1 =>
     rw[q1] at ag;dsimp only at ag;intro σ4 E4;refine t2 s H1 C ex P0 P σ4 H3 _ ρ1 E4 ?_;cases q2:ft ρ1 with
     |bad|ex x=>rw[q2] at ag;cases ag
     |ok k =>
      rw[q2] at ag;dsimp only at ag;intro H5 s5;cases k with
      |false =>
       simp only[zF,if_false] at ag ⊢;exact⟨aj,by omega,(s2.trans s3).trans s5,es,rest,(bA.mono s3.del).mono s5.del,ag,aH⟩
      |true =>
       simp only[if_true] at ag ⊢;refine e2 s H1 C ex P0 P σ4 H5 _ ρ1 (E4.same s5) ?_;cases q3:fe ρ1 with
       |bad|ex x=>rw[q3] at ag;cases ag
       |ok y' =>
        rw[q3] at ag;dsimp only at ag;cases q4:AM gt ft fe (ds.drop (i+1)) (B2 μ ρ) with
        |bad|ex x=>rw[q4] at ag;cases ag
        |ok jc =>
         rw[q4] at ag;cases ag;intro w H6 s6 hw;refine⟨aj,by rw[zM,yC];omega,((s2.trans s3).trans s5).trans s6,es++[y'],jc,(((bA.mono s3.del).mono s5.del).mono s6.del).snoc hw,rfl,?_⟩;rw[yn];exact aH
   ·have e:i=ds.length:=by omega
    subst e;rw[yP,AM] at ag;cases ag;rw[zX] at aH;subst aH;exact .inl ⟨ok.stop _ P H2 s2.del (zv _),λ D0 hn=>h.HX (s1.trans s2) bA D0 hn⟩
theorem FW {scope:Scope}{NB:List Str}{ifs:List Expr}{elt:Expr}{fe:Aa->M D}(μ:List (Option Nat))(hc:X.calm=true)(hi:DI X WX tg iter fi)(aD:Jb scope X.env.scope=true)(bG:OR X.N NB scope μ=true)(hg:pA X scope NB μ tg gt)
 (ht:∀s H C ex,mY (blockOf X s H scope C NB ex) ifs ft) (he:∀s H C ex,DE (blockOf X s H scope C NB ex) (λ _ _=>False) true elt fe) (hs:∀x,foldedSetIterable iter X.env x=pure x:=by intro _;rfl):
 DN X WX (.ListComp elt [⟨tg,iter,ifs,0⟩] scope pos) (λ ρ=>(fi ρ).bind λ ds=>if ds.length<=1000 then Gn (AM gt ft fe ds (B2 μ ρ)) else .bad):=by
 obtain⟨wi,i1,i2⟩:=hi;obtain⟨gg,g1,gk,g2⟩:=hg;refine⟨_,Tt hc i1 aD bG gk (λ s H C ex=>⟨g1 s H C ex,(zb (ht s H C ex)).1,(zb (he s H C ex)).1⟩) hs,λ P0 P σ H Q ρ E h=>?_⟩;exact iH i2 g2 (λ s H' C ex P0 P σ H Q ρ E h=>(zb (ht s H' C ex)).2 P0 P σ H Q ρ E h) (λ s H' C ex P0 P σ H Q ρ E h=>(zb (he s H' C ex)).2 P0 P σ H Q ρ E h) E h
end
def rB (K:za)(WX:Str->Hp->Prop)(P:Addr->Prop)(p:Addr)(fp:List Addr)(H:Hp)(Q:VK):M (OT×OT)->Prop
 | .ok (t,r)=>∀v H' P' ak fr,(∀a,P a->a∉fp->P' a/\H' a=H a)->(∀a,P' a->EH H' a)->Ad (del H P) (del H' P')->Bx K H' P' (.ref p) t ak->ak.Nodup->Bx K H' P' v r fr->fr.Nodup->(∀a∈fr,a∉ak)->
  (∀a∈ak,P' a/\(P a->a∈fp))->(∀a∈fr,P' a/\(P a->a∈fp))->Q v H'
 | .ex _| .bad=>False
noncomputable def Mb (K:za)(n:Nat)(F:OT->List D->M (OT×OT)):Sp:=λ vs H Q E=>vs.length=n/\∃P p t fp rest az,vs=.ref p::rest/\(∀a,P a->EH H a)/\(∀a∈fp,P a)/\fp.Nodup/\Bx K H P (.ref p) t fp/\Ag K (del H P) rest az/\rB K (Cm K E) P p fp H Q (F t az)
noncomputable def CI (N:List Str)(t:OT)(az:List D):Aa:=some (toCl (some 0) t)::(az.map (λ d=>some (.val d))++zD (N.length-(az.length+1)) none)
noncomputable def GQ (ρ:Aa):Option OT:=match ρ[0]? with
 |some (some c)=>(match treeOf c with|some (some 0,t)=>some t|_=>none)
 |_=>none
noncomputable def Ep (m:M Out):M (OT×OT):=match m with
 | .ok (.next ρ)=>(match GQ ρ with|some t=>.ok (t,.sh .Ay)|none=>.bad)
 | .ok (.Eh r ρ)=>(match GQ ρ with|some t=>.ok (t,r)|none=>.bad)
 |_=>.bad
theorem V7 (p:Option Nat)(t:OT):Gx (toCl p t)=true:=by
 unfold toCl;split
 ·rename_i ts;cases q:EL ts with
  |none=>rfl
  |some ds=>cases p<;>rfl
 ·rfl
theorem Jv {K:za}{P:Addr->Prop}{H:Hp}{N:List Str}{p:Addr}{t:OT}{fp:List Addr}{rest:List V}{az:List D}(ht:∀a,P a->EH H a)(hp:∀a∈fp,P a)(nd:fp.Nodup)(o:Bx K H P (.ref p) t fp)(h:Ag K (del H P) rest az):
 Ai K ⟨λ a=>P a/\a∉fp,λ _=>p⟩ P H (start N (.ref p::rest)) (CI N t az):=by
 have hl:=h.length;have key:∀(i:Nat) (c:Cl),(az.map (λ d=>some (Cl.val d))++zD (N.length-(az.length+1)) none)[i]?=some (some c)->∃d,az[i]?=some d/\c=.val d:=λ i c e=>by
  by_cases hi:i<az.length
  ·rw[yB (by simpa using hi),zw] at e;cases q:az[i]? with
   |none=>rw[q] at e;cases e
   |some d=>rw[q] at e;cases e;exact⟨d,rfl,rfl⟩
  ·rw[xu (by simpa using hi),List.getElem?_replicate] at e;split at e<;>cases e
 have tq:(start N (.ref p::rest))[0]?=some (some (.ref p)):=by unfold start;rfl
 refine⟨λ a h=>h.1,ht,λ i d e=>?_,λ i c e io=>?_,λ i j c c' v v' fp ak e1 e2 _ _ o1 o2 ae=>?_,?_,λ i c n e jl=>?_⟩
 rotate_left 4
 ·cases i with
  |zero=>exact tq
  |succ i =>
   obtain⟨d',q,z⟩:=key i _ (by unfold CI at e;simpa using e);cases z;cases jl
 ·cases i with
  |zero =>
   have e':some (toCl (some 0) t)=some (.val d):=by simpa [CI] using e
   have:=V7 (some 0) t;rw[z0 e'] at this;cases this
  |succ i =>
   obtain⟨d',q,z⟩:=key i _ (by unfold CI at e;simpa using e);cases z;obtain⟨v,hv,hd⟩:=h.get q;refine⟨v,?_,hd⟩;unfold start;rw[zh,yQ,zP,yB (by rw[ze];exact (zE.mp hv).1),zw,hv];rfl
 ·cases i with
  |zero =>
   have e':toCl (some 0) t=c:=by simpa [CI] using e
   subst e';exact⟨_,fp,tq,Ck.toCl o,λ a ha=>⟨hp a ha,λ z=>z.2 ha⟩,nd⟩
  |succ i =>
   obtain⟨d',q,z⟩:=key i _ (by unfold CI at e;simpa using e);cases z;cases io
 ·cases i with
  |zero =>
   cases j with
   |zero=>exact (ae rfl).elim
   |succ j =>
    obtain⟨d',q,z⟩:=key j _ (by unfold CI at e2;simpa using e2);cases z;exact o2.elim
  |succ i =>
   obtain⟨d',q,z⟩:=key i _ (by unfold CI at e1;simpa using e1);cases z;exact o1.elim
 ·unfold start CI;simp[hl]
section
variable {P:Program}{w:World}{K:za}{mg:Str->Option Value}{base:Heap}
theorem Lp {P0:Df}{P':Addr->Prop}{H':Hp}{σ':St}{ρ:Aa}{t:OT}(E:Ai K P0 P' H' σ' ρ)(h:GQ ρ=some t):∃c ak,ρ[0]?=some (some c)/\σ'[0]?=some (some (.ref (P0.g 0)))/\Ck K H' P' c (.ref (P0.g 0)) ak/\Bx K H' P' (.ref (P0.g 0)) t ak/\ak.Nodup/\∀a∈ak,P' a/\¬ P0 a:=by
 unfold GQ at h;split at h
 ·rename_i c e;split at h
  ·rename_i t' e2;cases h;have io:Gx c=true:=by cases c<;>first|rfl|cases e2
   obtain⟨v,fp,k1,k2,k3,k4⟩:=E.ows 0 c e io;have:=E.pin 0 c 0 e (IB e2);rw[k1] at this;cases this;exact⟨c,fp,e,k1,k2,k2.toT e2,k4,k3⟩
  ·cases h
 ·cases h
theorem iI {x qual:Str}{st:Stmt}{f:Addr}{fd:FuncData}{N ps:List Str}{k:Nat}(F:W6 K x qual st f fd)(S:Am N ps (A5 st))(g:Aa->M Out)
 (hb:∀(B7:Value) (A:Around) (outer:List Env) (s:Shared) (H:Hp) (E:XK),Bn k (A.deeper (envOfC qual (A5 st) s.heap.objs.size f B7))->Qn (TB P w K mg base N qual (A5 st) f B7 A outer s H E) (Cm K E) (Az st) g):
 CG P w K mg base (RB P w base) (k+1) f fd ps (Mb K ps.length λ t az=>Ep (g (CI N t az))):=by
 obtain⟨oc,od,kV,doc,pm,an,B7,ct,Ry,rfl,lk,bv⟩:=F.ex;refine Tn lk bv S (λ vs H Q E h=>h.1) λ A outer s H vs Q E hr h=>?_;obtain⟨hl,P',p,t,fp,rest,az,rfl,ht,hp,nd,ho,hv,hq⟩:=h;obtain⟨tt,h1,h2⟩:=hb B7 A outer s H E hr;refine⟨tt,h1,h2 ⟨λ a=>P' a/\a∉fp,λ _=>p⟩ P' _ H _ _ (Jv ht hp nd ho hv) ?_⟩;dsimp only at hq;revert hq;cases g (CI N t az) with
 |bad|ex x=>exact λ h=>h.elim
 |ok o =>
  have sub:∀ {P2:Addr->Prop} {H2:Hp} {σ2:St} {ρ:Aa},Ai K ⟨λ a=>P' a/\a∉fp,λ _=>p⟩ P2 H2 σ2 ρ->∀a,P2 a/\¬ (P' a/\a∉fp)->P2 a/\(P' a->a∈fp):=λ E a ha=>⟨ha.1,λ z=>Classical.byContradiction λ w=>ha.2 ⟨z,w⟩⟩;cases o with
  |ret d|BL d=>exact λ h=>h.elim
  |next ρ =>
   intro hq σ' H' P2 t2 E2;unfold Ep at hq;dsimp only at hq;split at hq
   ·rename_i t' e;obtain⟨c,ak,k1,k2,k3,k4,k5,k6⟩:=Lp E2 e;exact hq .Ay H' P2 ak [] (λ a ha hn=>⟨E2.sub a ⟨ha,hn⟩,t2.2 a ⟨ha,hn⟩⟩) E2.BG t2.1 k4 k5 (.sh .Ay) yA (λ a ha=>by cases ha) (λ a ha=>sub E2 a (k6 a ha)) (λ a ha=>by cases ha)
   ·exact hq.elim
  |Eh r ρ =>
   intro hq v fr σ' H' P2 t2 E2 o2 br hf;unfold Ep at hq;dsimp only at hq;split at hq
   ·rename_i t' e;obtain⟨c,ak,k1,k2,k3,k4,k5,k6⟩:=Lp E2 e;exact hq v H' P2 ak fr (λ a ha hn=>⟨E2.sub a ⟨ha,hn⟩,t2.2 a ⟨ha,hn⟩⟩) E2.BG t2.1 k4 k5 o2 br (λ a ha=>(hf a ha).2.2 0 c _ ak k1 k2 k3) (λ a ha=>sub E2 a (k6 a ha)) (λ a ha=>sub E2 a ⟨(hf a ha).1,(hf a ha).2.1⟩)
   ·exact hq.elim
  |brk ρ|cont ρ=>exact λ h=>h.elim
end
structure NY (P:Program)(w:World)(K:za)(mg:Str->Option Value)(base:Heap)(x:Str)(k n:Nat)(F:OT->List D->M (OT×OT)):Prop where
 ex:∃fa fd ps,CG P w K mg base (RB P w base) k fa fd ps (Mb K n F)/\mg x=some (.ref fa)/\zV K (.ref fa)=true/\Binds K fd ps []
theorem Qw {P:Program}{w:World}{K:za}{mg:Str->Option Value}{base:Heap}{x:Str}{st:Stmt}{N ps:List Str}{k n:Nat}(T:B4 K mg x st ps)(S:Am N ps (A5 st))(g:Aa->M Out)
 (hb:∀(f:Addr) (B7:Value) (A:Around) (outer:List Env) (s:Shared) (H:Hp) (E:XK),Bn k (A.deeper (envOfC x (A5 st) s.heap.objs.size f B7))->Qn (TB P w K mg base N x (A5 st) f B7 A outer s H E) (Cm K E) (Az st) g) (hn:ps.length=n:=by rfl):
 NY P w K mg base x (k+1) n (λ t az=>Ep (g (CI N t az))):=by
 obtain⟨f,fd,F,hm,hB⟩:=T.ex;subst hn;exact⟨⟨f,fd,ps,iI F S g (hb f),hm,F.kp,hB⟩⟩
section
variable {X:Cx}{WX:Str->Hp->Prop}{c:Bool}{P0:Df}{P:Addr->Prop}{H:Hp}{σ:St}{ρ:Aa}{a b e:Expr}{f g:Aa->M D}{fn:Aa->M OT}{fp:Aa->M (List Nat)}{pos:Pos}{i:Nat}{es:List Expr}{fs:Aa->M (List D)}
theorem Ai.new {K:za}{P':Addr->Prop}{H':Hp}(E:Ai K P0 P H σ ρ)(s:Ad H H')(sm:Ad (del H P) (del H' P')){a:Addr}(hn:H a=none):∀(j:Nat) c v fq,ρ[j]?=some (some c)->σ[j]?=some (some v)->Ck K H' P' c v fq->a∉fq:=λ j c v fq h1 h2 h3 ha=>by
 have io:Gx c=true:=by cases c<;>first|rfl|exact h3.elim
 obtain⟨w,fr,k1,k2,k3,k4⟩:=E.ows j c h1 io;rw[h2] at k1;cases k1;have m:=k2.move sm λ b hb=>by obtain⟨o,q⟩:=k2.at b hb;rw[q];exact s _ _ q
 rw[h3.BS m] at ha;obtain⟨o,q⟩:=k2.at a ha;rw[hn] at q;cases q
theorem Ai.nM {K:za}{P':Addr->Prop}{H':Hp}{π:List Nat}{v1 v2:V}{t1 u r:OT}{ax fu fr:List Addr}(E:Ai K P0 P H σ ρ)(pl:AU K P H σ ρ i π v1 t1)(o:Bx K H P v1 t1 ax)(hs:∀a,P a->a∉ax->P' a/\H' a=H a)(ht:∀a,P' a->EH H' a)(sm:Ad (del H P) (del H' P'))
 (o':Bx K H' P' v1 u fu) (nd:fu.Nodup) (hf:∀a∈fu,P' a/\(P a->a∈ax)) (or:Bx K H' P' v2 r fr) (wI:fr.Nodup) (hr:∀a∈fr,P' a/\(P a->a∈ax)) (dj:∀a∈fr,a∉fu):
 ∃c p t,ρ[i]?=some (some c)/\treeOf c=some (p,t)/\Ai K P0 P' H' σ (ρ.set i (some (toCl p (Dv t π u))))/\Tr P0 P H P' H'/\
  ∀a∈fr,P' a/\¬ P0 a/\∀(j:Nat) c' v fq,(ρ.set i (some (toCl p (Dv t π u))))[j]?=some (some c')->σ[j]?=some (some v)->Ck K H' P' c' v fq->a∉fq:=by
 obtain⟨v0,c,p,t,h1,h2,h3,h4⟩:=pl.ex;have io:Gx c=true:=by cases c<;>first|rfl|cases h2
 obtain⟨w,fp,k1,k2,k3,k4⟩:=E.ows i c h1 io;rw[h3] at k1;cases k1;have ot:=k2.toT h2;obtain⟨fz,oz,kz,_⟩:=ot.part h4;have:=oz.BS o;subst this;obtain⟨ak,q1,q2,q3⟩:=ot.put sm h4 o o' (λ a ha hn=>(hs a (k3 a ha).1 hn).2) k4 nd (λ a ha hb=>(hf a ha).2 (k3 a hb).1);have tu:∀(j:Nat) c' v' fq,i≠j->ρ[j]?=some (some c')->σ[j]?=some (some v')->Ck K H P c' v' fq->∀a∈fq,P a/\a∉fp:=λ j c' v' fq ae g1 g2 g3 a ha=>by
  have jj:Gx c'=true:=by cases c'<;>first|rfl|exact g3.elim
  obtain⟨w',on,m1,m2,m3,m4⟩:=E.ows j c' g1 jj;rw[g2] at m1;cases m1;have:=m2.BS g3;subst this;exact⟨(m3 a ha).1,E.apart j i c' c v' v0 on fp g1 h1 g2 h3 g3 k2 (yc ae) a ha⟩
 have key:=E.mW (P':=P') (H':=H') (i:=i) (v:=v0) (c:=toCl p (Dv t π u)) (fp:=ak) (λ a ha=>(hs a (E.sub a ha) λ z=>(k3 a (kz a z)).2 ha).1) ht sm (λ j c' v' fq ae g1 g2 g3 a ha=>?_) (Ck.toCl q1) (λ a ha=>?_) q2 (λ n z=>by rw[IA] at z;subst z;have:=E.pin i c n h1 (IB h2);rw[h3] at this;cases this;rfl)
 ·rw[K0 h3] at key;refine⟨c,p,t,h1,h2,key,⟨sm,λ a ha=>(hs a (E.sub a ha) λ z=>(k3 a (kz a z)).2 ha).2⟩,λ a ha=>⟨(hr a ha).1,λ z=>(k3 a (kz a ((hr a ha).2 (E.sub a z)))).2 z,λ j c' v fq g1 g2 g3 hb=>?_⟩⟩;rcases get_set g1 with ⟨rfl,hl,z⟩|⟨ae,g1⟩
  ·cases z;rw[h3] at g2;cases g2;rw[g3.BS (Ck.toCl q1)] at hb;rcases q3 a hb with y|y
   ·exact dj a ha y
   ·exact y.2 ((hr a ha).2 (k3 a y.1).1)
  ·have jj:Gx c'=true:=by cases c'<;>first|rfl|exact g3.elim
   obtain⟨w',on,m1,m2,m3,m4⟩:=E.ows j c' g1 jj;rw[g2] at m1;cases m1;have o2:=tu j c' v on ae g1 g2 m2;have mv:=m2.move sm λ b a9=>(hs b (o2 b a9).1 λ z=>(o2 b a9).2 (kz b z)).2;rw[g3.BS mv] at hb;exact (o2 a hb).2 (kz a ((hr a ha).2 (o2 a hb).1))
 ·have o2:=tu j c' v' fq ae g1 g2 g3 a ha;have hk:=hs a o2.1 λ z=>o2.2 (kz a z);refine⟨hk.2,λ z=>?_,hk.1⟩;rcases q3 a z with y|y
  ·exact o2.2 (kz a ((hf a y).2 o2.1))
  ·exact o2.2 y.1
 ·rcases q3 a ha with y|y
  ·exact⟨(hf a y).1,λ z=>(k3 a (kz a ((hf a y).2 (E.sub a z)))).2 z⟩
  ·exact⟨(hs a (k3 a y.1).1 y.2).1,(k3 a y.1).2⟩
end
noncomputable def EU (i:Nat)(ρ:Aa)(π:List Nat)(u:OT):M Out:=match ρ[i]? with
 |some (some c)=>(match treeOf c with|some (p,t)=>.ok (.next (ρ.set i (some (toCl p (Dv t π u)))))|none=>.bad)
 |_=>.bad
noncomputable def Er (i:Nat)(ρ:Aa)(π:List Nat):M (List OT):=match Pe i ρ π with | some (.lst ts)=>.ok ts | _=>.bad
theorem Dy {i:Nat}{ρ:Aa}{π:List Nat}{u:OT}{c:Cl}{p:Option Nat}{t:OT}(h:ρ[i]?=some (some c))(ht:treeOf c=some (p,t)):EU i ρ π u=.ok (.next (ρ.set i (some (toCl p (Dv t π u))))):=by
 unfold EU;simp only[h,ht]
theorem Au.append {K:za}{H:Hp}{P:Addr->Prop}:∀ {xs ys:List V}{ts us:List OT}{fp fq:List Addr},Au K H P xs ts fp->Au K H P ys us fq->Au K H P (xs++ys) (ts++us) (fp++fq)
 |_,_,_,_,_,_,.nil,h=>h
 |_,_,_,_,_,_,.cons a t,h=>by rw[yn];exact .cons a (t.append h)
section
variable {X:Cx}{WX:Str->Hp->Prop}{c:Bool}{P0:Df}{P:Addr->Prop}{H:Hp}{σ:St}{ρ:Aa}{a b e:Expr}{f g:Aa->M D}{fn:Aa->M OT}{fp:Aa->M (List Nat)}{pos:Pos}{i:Nat}{es:List Expr}{fs:Aa->M (List D)}
theorem AU.lst {K:za}{π:List Nat}{v:V}{t1:OT}{ts:List OT}(pl:AU K P H σ ρ i π v t1)(E:Ai K P0 P H σ ρ)(h:Er i ρ π=.ok ts):t1=.lst ts/\∃l xs fq,v=.ref l/\H l=some (.lst xs)/\Au K H P xs ts fq/\l∉fq/\fq.Nodup:=by
 unfold Er at h;rw[pl.at] at h;split at h
 ·rename_i d7 e;cases e;cases h;obtain⟨ax,o1,hp,nd⟩:=pl.own E;cases o1 with
  |lst hh hr=>exact⟨rfl,_,_,_,rfl,hh,hr,(yf.mp nd).1,(yf.mp nd).2⟩
 ·cases h
theorem iJ (ha:DP X WX a i fp)(he:DN X WX e fn){apos ac:Pos}(hs:starEach [e] X.env=[(false,eval e X.env)]:=by rfl)
 (bp:swapsWith (.Call (.Attribute a "append" apos) [e] [] ac) none pos.line X.env=pure false:=by rfl)
 (ar:attributeBase a "append" X.env (eval a X.env)=eval a X.env:=by rfl)
 (aV:((backTo ac (starEach [e] X.env)).all (λ x => !x.1)&&(backToKw ac (keywordEach [] X.env)).all (λ x=>x.1.isSome)&&decide (([e]:List Expr).length+([]:List Keyword).length+(if ([]:List Keyword).isEmpty then 0 else 1)<30))=true:=by rfl)
 (au:(apos.endLine==ac.line)=true:=by rfl) (aq:(backTo ac (starEach [] X.env)).any (·.1)=false:=by rfl):
 DS X WX (.Expr (.Call (.Attribute a "append" apos) [e] [] ac) pos) (λ ρ=>(fp ρ).bind λ π=>(Er i ρ π).bind λ ts=>(fn ρ).bind λ t=>if ts.length<1000 then EU i ρ π (.lst (ts++[t])) else .bad):=by
 obtain⟨ta,a1,a2⟩:=ha;obtain⟨te,e1,e2⟩:=he;refine⟨_,FL (Q9 yG PySem.F.slot_list_append PySem.F.type_list_append NG a1 (Bc e1 C4 hs) ar aV au hs aq) bp,λ P0 P σ H Z ρ E h=>?_⟩;dsimp only at h;refine a2 P0 P σ H _ ρ E ?_;cases q:fp ρ with
 |bad=>rw[q] at h;exact h
 |ex x=>rw[q] at h;exact λ H' s=>h H' P (E.tr s)
 |ok π =>
  rw[q] at h;simp only[M.A6] at h;intro v t1 H1 s1 pl;have E1:=E.same s1;cases q1:Er i ρ π with
  |bad=>rw[q1] at h;exact h.elim
  |ex x=>unfold Er at q1;split at q1<;>cases q1
  |ok ts =>
   rw[q1] at h;simp only[M.A6] at h;obtain⟨rfl,l,xs,fq,rfl,hl,ol,nl,vb⟩:=pl.lst E1 q1;refine⟨.inl ⟨rfl,xs,.of hl⟩,e2 P0 P σ H1 _ ρ E1 ?_⟩;cases q2:fn ρ with
   |bad=>rw[q2] at h;exact h
   |ex y=>rw[q2] at h;exact λ H' s=>h H' P ((E.tr s1).trans (E1.tr s))
   |ok t =>
    rw[q2] at h;simp only[M.A6] at h;by_cases hz:ts.length<1000
    ·rw[if_pos hz] at h;intro w fw H2 s2 n2 br o2;have sm:=BU (P:=P) s2 n2;have E2:Ai X.K P0 (PU P fw) H2 σ ρ:=E1.more s2 K5 (Iy (E1.same s2).BG o2) sm;have keep:∀b∈fq,H2 b=H1 b:=λ b hb=>by obtain⟨o,z,_⟩:=ol.BG b hb;rw[z];exact s2 _ _ z
     have d8:=ol.move sm keep;have aB:=s2 _ _ hl;have dj:∀b∈fq,b∉fw:=λ b hb hc=>(ol.BG b hb).no (n2 b hc);obtain⟨c,p,t0,g1,g2,E3,t3⟩:=E2.nJ (pl.more sm s2) aB d8 (us:=ts++[t]) (ys:=xs++[w]) (d8.append (.cons o2 .nil)) (by rw[zX];exact zN.mpr ⟨vb,br,λ b hb d hd z=>dj b hb (by rw[z];exact hd)⟩) (by
      rw[zX];intro z;rcases zL.mp z with z|z
      ·exact nl z
      ·rw[n2 l z] at hl;cases hl) (by
      intro b hb;rw[zX] at hb;rcases zL.mp hb with z|z
      ·exact .inl z
      ·exact .inr ⟨.inr z,λ y=>(E1.BG b (E1.sub b y)).no (n2 b z),E1.new s2 sm (n2 b z)⟩)
     rw[Dy g1 g2] at h;exact⟨l,xs,w,rfl,rfl,aB,AA (by rw[ol.len];exact yd hz),h _ _ _ (((E.tr s1).trans (E1.kL s2 n2)).trans t3) E3⟩
    ·rw[if_neg hz] at h;exact h.elim
noncomputable def Nl {α:Type}(o:Option α):M α:=match o with | some x=>.ok x | none=>.bad
noncomputable def N9 (i:Nat)(ρ:Aa)(π:List Nat):M (List D):=match Pe i ρ π with | some (.lst ts)=>(match EL ts with | some ds=>.ok ds | none=>.bad) | _=>.bad
theorem AU.shl {K:za}{π:List Nat}{v:V}{t1:OT}{ds:List D}(pl:AU K P H σ ρ i π v t1)(E:Ai K P0 P H σ ρ)(h:N9 i ρ π=.ok ds):t1=.lst (ds.map .sh)/\∃l xs,v=.ref l/\H l=some (.lst xs)/\Ag K (del H P) xs ds:=by
 unfold N9 at h;rw[pl.at] at h;split at h
 ·rename_i d7 e;split at h
  ·rename_i lc e';cases e;cases h;have z:=Eo e';subst z;obtain⟨ax,o1,hp,nd⟩:=pl.own E;cases o1 with
   |lst hh hr=>exact⟨rfl,_,_,rfl,hh,hr.kK.2⟩
  ·cases h
 ·cases h
theorem Sk {π:List Nat}{x:Str}(h:N9 i ρ π=.ex x):False:=by
 unfold N9 at h;split at h
 ·split at h<;>cases h
 ·cases h
theorem Ai.iK {K:za}{π:List Nat}{l:Addr}{xs ys:List V}{ds es:List D}(E:Ai K P0 P H σ ρ)(pl:AU K P H σ ρ i π (.ref l) (.lst (ds.map .sh)))(hH:H l=some (.lst xs))(o:Ag K (del H P) xs ds)(o':Ag K (del H P) ys es):
 ∃c p t,ρ[i]?=some (some c)/\treeOf c=some (p,t)/\Ai K P0 P (upd H l (.lst ys)) σ (ρ.set i (some (toCl p (Dv t π (.lst (es.map .sh))))))/\Tr P0 P H P (upd H l (.lst ys)):=
 E.nJ pl hH o.ows o'.ows yA (λ z=>by cases z) (λ a ha=>by cases ha)
theorem Xq {nm:Str}{id:String}{r:V->List V->Hp->VK->Prop}{dm:List D->Option (List D)}(ha:DP X WX a i fp)(slot:Slot "list" nm id)(ix:typeOf (.builtin id)=pure (.type "method_descriptor"))(hm:dS X id r)
 (hr:∀(P:Addr->Prop) (H:Hp) (l:Addr) (xs:List V) (ds us:List D) (Q:VK),H l=some (.lst xs)->Ag X.K (del H P) xs ds->dm ds=some us->(∀ys v,Ag X.K (del H P) ys us->Q v (upd H l (.lst ys)))->r (.ref l) [] H Q) {apos ac:Pos}
 (bp:swapsWith (.Call (.Attribute a nm apos) [] [] ac) none pos.line X.env=pure false:=by rfl)
 (ar:attributeBase a nm X.env (eval a X.env)=eval a X.env:=by rfl) (au:(apos.endLine==ac.line)=true:=by rfl):
 DS X WX (.Expr (.Call (.Attribute a nm apos) [] [] ac) pos) (λ ρ=>(fp ρ).bind λ π=>(N9 i ρ π).bind λ ds=>(Nl (dm ds)).bind λ us=>EU i ρ π (.lst (us.map .sh))):=by
 obtain⟨ta,a1,a2⟩:=ha;refine⟨_,FL (gJ yG slot ix hm a1 ar au) bp,λ P0 P σ H Z ρ E h=>?_⟩;dsimp only at h;refine a2 P0 P σ H _ ρ E ?_;cases q:fp ρ with
 |bad=>rw[q] at h;exact h
 |ex x=>rw[q] at h;exact λ H' s=>h H' P (E.tr s)
 |ok π =>
  rw[q] at h;simp only[M.A6] at h;intro v t1 H1 s1 pl;have E1:=E.same s1;cases q1:N9 i ρ π with
  |bad=>rw[q1] at h;exact h.elim
  |ex x=>exact (Sk q1).elim
  |ok ds =>
   rw[q1] at h;simp only[M.A6] at h;obtain⟨rfl,l,xs,rfl,hl,ol⟩:=pl.shl E1 q1;cases q2:dm ds with
   |none=>rw[q2] at h;exact h.elim
   |some us =>
    rw[q2] at h;simp only[Nl,M.A6] at h;refine⟨.inl ⟨rfl,xs,.of hl⟩,hr P H1 l xs ds us _ hl ol q2 λ ys w hy=>?_⟩;obtain⟨c,p,t0,g1,g2,E3,t3⟩:=E1.iK pl hl ol hy;rw[Dy g1 g2] at h;exact h _ _ _ ((E.tr s1).trans t3) E3
theorem Qx (ha:DP X WX a i fp){apos ac:Pos}(bp:swapsWith (.Call (.Attribute a "clear" apos) [] [] ac) none pos.line X.env=pure false:=by rfl)
 (ar:attributeBase a "clear" X.env (eval a X.env)=eval a X.env:=by rfl) (au:(apos.endLine==ac.line)=true:=by rfl):
 DS X WX (.Expr (.Call (.Attribute a "clear" apos) [] [] ac) pos) (λ ρ=>(fp ρ).bind λ π=>(N9 i ρ π).bind λ ds=>(Nl (some [])).bind λ us=>EU i ρ π (.lst (us.map .sh))):=
 Xq (dm:=λ _=>some []) ha PySem.F.slot_list_clear PySem.F.type_list_clear WI (λ P H l xs ds us Q h1 h2 h3 h4=>by cases h3;exact⟨l,xs,rfl,rfl,h1,h4 [] _ .nil⟩) bp ar au
theorem Mc (ha:DP X WX a i fp){apos ac:Pos}(bp:swapsWith (.Call (.Attribute a "reverse" apos) [] [] ac) none pos.line X.env=pure false:=by rfl)
 (ar:attributeBase a "reverse" X.env (eval a X.env)=eval a X.env:=by rfl) (au:(apos.endLine==ac.line)=true:=by rfl):
 DS X WX (.Expr (.Call (.Attribute a "reverse" apos) [] [] ac) pos) (λ ρ=>(fp ρ).bind λ π=>(N9 i ρ π).bind λ ds=>(Nl (some ds.reverse)).bind λ us=>EU i ρ π (.lst (us.map .sh))):=
 Xq (dm:=λ ds=>some ds.reverse) ha PySem.F.slot_list_reverse PySem.F.type_list_reverse RW (λ P H l xs ds us Q h1 h2 h3 h4=>by cases h3;exact⟨l,xs,rfl,rfl,h1,h4 _ _ h2.reverse⟩) bp ar au
noncomputable def ZE (t:OT):M (List D):=match t with | .lst us=>Nl (EL us) | _=>.bad
theorem Xr (ha:DP X WX a i fp)(he:DN X WX e fn){apos ac:Pos}(hs:starEach [e] X.env=[(false,eval e X.env)]:=by rfl)
 (bp:swapsWith (.Call (.Attribute a "extend" apos) [e] [] ac) none pos.line X.env=pure false:=by rfl)
 (ar:attributeBase a "extend" X.env (eval a X.env)=eval a X.env:=by rfl)
 (aV:((backTo ac (starEach [e] X.env)).all (λ x => !x.1)&&(backToKw ac (keywordEach [] X.env)).all (λ x=>x.1.isSome)&&decide (([e]:List Expr).length+([]:List Keyword).length+(if ([]:List Keyword).isEmpty then 0 else 1)<30))=true:=by rfl)
 (au:(apos.endLine==ac.line)=true:=by rfl) (aq:(backTo ac (starEach [] X.env)).any (·.1)=false:=by rfl):
 DS X WX (.Expr (.Call (.Attribute a "extend" apos) [e] [] ac) pos) (λ ρ=>(fp ρ).bind λ π=>(N9 i ρ π).bind λ ds=>((fn ρ).bind ZE).bind λ es=>if ds.length+es.length<=1000 then EU i ρ π (.lst ((ds++es).map .sh)) else .bad):=by
 obtain⟨ta,a1,a2⟩:=ha;obtain⟨te,e1,e2⟩:=he;refine⟨_,FL (Q9 yG PySem.F.slot_list_extend PySem.F.type_list_extend UI a1 (Bc e1 C4 hs) ar aV au hs aq) bp,λ P0 P σ H Z ρ E h=>?_⟩;dsimp only at h;refine a2 P0 P σ H _ ρ E ?_;cases q:fp ρ with
 |bad=>rw[q] at h;exact h
 |ex x=>rw[q] at h;exact λ H' s=>h H' P (E.tr s)
 |ok π =>
  rw[q] at h;simp only[M.A6] at h;intro v t1 H1 s1 pl;have E1:=E.same s1;cases q1:N9 i ρ π with
  |bad=>rw[q1] at h;exact h.elim
  |ex x=>exact (Sk q1).elim
  |ok ds =>
   rw[q1] at h;simp only[M.A6] at h;obtain⟨rfl,l,xs,rfl,hl,ol⟩:=pl.shl E1 q1;refine⟨.inl ⟨rfl,xs,.of hl⟩,e2 P0 P σ H1 _ ρ E1 ?_⟩;cases q2:fn ρ with
   |bad=>rw[q2] at h;exact h
   |ex y=>rw[q2] at h;exact λ H' s=>h H' P ((E.tr s1).trans (E1.tr s))
   |ok t =>
    rw[q2] at h;simp only[M.A6] at h;intro w fw H2 s2 n2 br o2;have sm:=BU (P:=P) s2 n2;have E2:Ai X.K P0 (PU P fw) H2 σ ρ:=E1.more s2 K5 (Iy (E1.same s2).BG o2) sm;cases t with
    |lst us =>
     simp only[ZE] at h;cases q3:EL us with
     |none=>rw[q3] at h;exact h.elim
     |some es =>
      rw[q3] at h;simp only[Nl,M.A6] at h;have z:=Eo q3;subst z;cases o2 with
      |lst hb hr =>
       by_cases hz:ds.length+es.length<=1000
       ·rw[if_pos hz] at h;have he:=hr.kK.2;have d8:=ol.mono sm;have aB:=s2 _ _ hl;obtain⟨c,p,t0,g1,g2,E3,t3⟩:=E2.iK (pl.more sm s2) aB d8 (d8.append he);rw[Dy g1 g2] at h;exact⟨l,_,xs,_,rfl,rfl,aB,hb,yd (AA (by rw[ol.length,he.length];exact hz)),h _ _ _ (((E.tr s1).trans (E1.kL s2 n2)).trans t3) E3⟩
       ·rw[if_neg hz] at h;exact h.elim
    |_=>exact h.elim
end
def gX (K:za)(WX:Str->Hp->Prop)(P0:Df)(P:Addr->Prop)(H:Hp)(σ:St)(Q:VK):M (Aa×OT)->Prop
 | .ok (ρ,t)=>∀v fp H' P',Tr P0 P H P' H'->Ai K P0 P' H' σ ρ->Bx K H' P' v t fp->fp.Nodup->(∀a∈fp,P' a/\¬ P0 a/\∀(j:Nat) c v' fq,ρ[j]?=some (some c)->σ[j]?=some (some v')->Ck K H' P' c v' fq->a∉fq)->Q v H'
 | .ex x=>∀H' P',Tr P0 P H P' H'->WX x H'
 | .bad=>False
def DX (X:Cx)(WX:Str->Hp->Prop)(e:Expr)(f:Aa->M (Aa×OT)):Prop:=
 ∃t,PE X e t/\∀P0 P σ H Q ρ,Ai X.K P0 P H σ ρ->gX X.K WX P0 P H σ Q (f ρ)->t σ H Q
noncomputable def Xs:OT->Bool
 | .sh _=>false
 |_=>true
noncomputable def Qy (i:Nat)(F:OT->List D->M (OT×OT))(ρ:Aa)(π:List Nat)(az:List D):M (Aa×OT):=match ρ[i]? with
 |some (some c)=>(match treeOf c with
  |some (p,t)=>(match GN t π with
   |some t1=>if Xs t1=true then (match F t1 az with | .ok (t2,r)=>.ok (ρ.set i (some (toCl p (Dv t π t2))),r)|_=>.bad) else .bad
   |none=>.bad)
  |none=>.bad)
 |_=>.bad
section
variable {X:Cx}{E:XK}{WX:Str->Hp->Prop}{c:Bool}{P0:Df}{P:Addr->Prop}{H:Hp}{σ:St}{ρ:Aa}{a b e:Expr}{f g:Aa->M D}{fn:Aa->M OT}{fx:Aa->M (Aa×OT)}{fp:Aa->M (List Nat)}{pos:Pos}{i:Nat}{es:List Expr}{fs:Aa->M (List D)}
theorem Xu {F:OT->List D->M (OT×OT)}{π:List Nat}{az:List D}{c:Cl}{p:Option Nat}{t t1 t2 r:OT}(h:ρ[i]?=some (some c))(ht:treeOf c=some (p,t))(hs:GN t π=some t1)(hN:Xs t1=true)(hF:F t1 az=.ok (t2,r)):Qy i F ρ π az=.ok (ρ.set i (some (toCl p (Dv t π t2))),r):=by
 unfold Qy;simp only[h,ht,hs,hN,if_true,hF]
theorem Xv {k n:Nat}{F:OT->List D->M (OT×OT)}{x:Str}{p:Pos}(xo:XCall X E)(G:NY X.prog X.w X.K X.mg X.base x k n F)(hr:Bn k X.A)(hg:Gl X x)(hp:DP X (Cm X.K E) a i fp)(ha:DA X (Cm X.K E) true es fs)(hn:es.length+1=n)
 (aJ:(x==("__debug__" : Str))=false:=by decide) (he:starEach (a::es) X.env=(false,eval a X.env)::starEach es X.env:=by rfl) (a5:(backTo pos (starEach es X.env)).any (·.1)=false:=by rfl):
 DX X (Cm X.K E) (.Call (.Name x p) (a::es) [] pos) (λ ρ=>(fp ρ).bind λ π=>(fs ρ).bind λ az=>Qy i F ρ π az):=by
 obtain⟨fa,fd,ps,hF,hm,hk,hb⟩:=G.ex;obtain⟨tp,p1,p2⟩:=hp;obtain⟨ta,a1,a2,a3⟩:=ha;refine⟨_,Ti hF hr hg hm hk hb .nil xo.call (Bc p1 a1 he) aJ he a5,λ P0 P σ H Q ρ Ev h=>?_⟩;dsimp only at h;refine p2 P0 P σ H _ ρ Ev ?_;cases q:fp ρ with
 |bad=>rw[q] at h;exact h
 |ex x=>rw[q] at h;exact λ H' s=>h H' P (Ev.tr s)
 |ok π =>
  rw[q] at h;simp only[M.A6] at h;intro v t1 H1 s1 pl;have E1:=Ev.same s1;refine a2 P0 P σ H1 _ ρ E1 ?_;cases q2:fs ρ with
  |bad=>rw[q2] at h;exact h
  |ex y=>rw[q2] at h;exact λ H' s=>h H' P ((Ev.tr s1).trans (E1.tr s))
  |ok az =>
   rw[q2] at h;simp only[M.A6] at h;intro vs H2 s2 aE;have E2:=E1.same s2;have bW:=pl.same s2;show Mb X.K n F ((v::vs)++[]) H2 Q E;rw[zX];obtain⟨v0,c,pp,t,g1,g2,g3,g4⟩:=bW.ex;unfold Qy at h;simp only[g1,g2,g4.sub] at h;by_cases hx:Xs t1=true
   ·rw[if_pos hx] at h;obtain⟨ax,o1,vc,gp⟩:=bW.own E2;have jm:∃l,v=.ref l:=by
     cases o1 with
     |sh hv=>exact absurd hx (by simp[Xs])
     |lst _ _|tup _ _|dK _ _|dT _ _|ins _ _ _=>exact⟨_,rfl⟩
    obtain⟨l,rfl⟩:=jm;refine⟨by rw[zp,aE.length,a3 ρ az q2];exact hn,P,l,t1,ax,vs,az,rfl,E2.BG,λ b hb=>(vc b hb).1,gp,o1,aE,?_⟩;cases qF:F t1 az with
    |bad|ex x=>rw[qF] at h;exact h.elim
    |ok z =>
    obtain⟨t2,r⟩:=z;rw[qF] at h;intro w H' P' fu fr k1 k2 k3 k4 k5 k6 k7 k8 k9 li;obtain⟨c',p',t',m1,m2,m3,m4,m5⟩:=E2.nM bW o1 k1 k2 k3 k4 k5 k9 k6 k7 li k8;rw[g1] at m1;cases m1;rw[g2] at m2;cases m2;exact h w fr H' P' (((Ev.tr s1).trans (E1.tr s2)).trans m4) m3 k6 k7 m5
   ·rw[if_neg hx] at h;exact h.elim
theorem Md (he:DX X WX e fx)(hs:swapsWith e none pos.line X.env=pure false:=by rfl):DS X WX (.Expr e pos) (λ ρ=>(fx ρ).bind λ z=>.ok (.next z.1)):=by
 obtain⟨te,e1,e2⟩:=he;refine⟨_,FL e1 hs,λ P0 P σ H Z ρ E h=>?_⟩;dsimp only at h;refine e2 P0 P σ H _ ρ E ?_;cases q:fx ρ with
 |bad|ex x=>rw[q] at h;exact h
 |ok z=>rw[q] at h;exact λ v fp H' P' t E' o nd hf=>h σ H' P' t E'
end
noncomputable def Gp (i:Nat)(ρ:Aa)(π:List Nat):M (Bool×List D×List D):=match Pe i ρ π with
 |some (.B8 b ks ts)=>(match EL ts with|some vs=>.ok (b,ks,vs)|none=>.bad)
 |_=>.bad
noncomputable def putD (ks vs:List D)(k v:D):List D×List D:=if L9 ks k=true then (ks,IC ks vs k v) else (ks++[k],vs++[v])
section
variable {X:Cx}{E:XK}{WX:Str->Hp->Prop}{c:Bool}{P0:Df}{P:Addr->Prop}{H:Hp}{σ:St}{ρ:Aa}{a b e:Expr}{f g:Aa->M D}{fn:Aa->M OT}{fx:Aa->M (Aa×OT)}{fp:Aa->M (List Nat)}{pos:Pos}{i:Nat}{es:List Expr}{fs:Aa->M (List D)}
theorem AU.B8 {K:za}{π:List Nat}{v:V}{t1:OT}{bl:Bool}{ks vs:List D}(pl:AU K P H σ ρ i π v t1)(E:Ai K P0 P H σ ρ)(h:Gp i ρ π=.ok (bl,ks,vs)):t1=.B8 bl ks (vs.map .sh)/\∃l xs,v=.ref l/\P l/\Ag K (del H P) xs vs/\Bx K H P (.ref l) (.B8 bl ks (vs.map .sh)) [l]/\
 ((bl=false/\∃kvs,H l=some (.dK kvs)/\ks=(kvs.map λ kv=>Cn kv.1)/\xs=kvs.map yz)\/(bl=true/\∃kvs,H l=some (.dT kvs)/\ks=(kvs.map λ kv=>.tup (kv.1.map Cn))/\xs=kvs.map yz)):=by
 unfold Gp at h;rw[pl.at] at h;split at h
 ·rename_i b' jk d7 e;split at h
  ·rename_i bq e';cases e;cases h;have z:=Eo e';subst z;obtain⟨ax,o1,hp,nd⟩:=pl.own E;generalize ht:OT.B8 bl ks (vs.map .sh)=t at o1;cases o1 with
   |dK hh hr =>
    injection ht with h1 h2 h3
    subst h1 h2 h3;obtain⟨rfl,hs⟩:=hr.kK;exact⟨rfl,_,_,rfl,(hp _ zc).1,hs,.dK hh hr,.inl ⟨rfl,_,hh,rfl,rfl⟩⟩
   |dT hh hr =>
    injection ht with h1 h2 h3
    subst h1 h2 h3;obtain⟨rfl,hs⟩:=hr.kK;exact⟨rfl,_,_,rfl,(hp _ zc).1,hs,.dT hh hr,.inr ⟨rfl,_,hh,rfl,rfl⟩⟩
   |_=>cases ht
  ·cases h
 ·cases h
theorem Xw {π:List Nat}{x:Str}(h:Gp i ρ π=.ex x):False:=by
 unfold Gp at h;split at h
 ·split at h<;>cases h
 ·cases h
theorem Ai.nN {K:za}{π:List Nat}{l:Addr}{t1 u:OT}{o':HO}(E:Ai K P0 P H σ ρ)(pl:AU K P H σ ρ i π (.ref l) t1)(ot:Bx K H P (.ref l) t1 [l])(hn:∀xs,o'≠.tup xs/\∀z,o'≠.FJ z (.tup xs))(new:Ad (del H P) (del (upd H l o') P)->Bx K (upd H l o') P (.ref l) u [l]):
 ∃c p t,ρ[i]?=some (some c)/\treeOf c=some (p,t)/\Ai K P0 P (upd H l o') σ (ρ.set i (some (toCl p (Dv t π u))))/\Tr P0 P H P (upd H l o'):=by
 obtain⟨ax,o1,hp,_⟩:=pl.own E;have:=o1.BS ot;subst this;have pP:P l:=(hp l zc).1;have sd:del (upd H l o') P=del H P:=by
  funext b;by_cases hb:P b
  ·rw[Ef hb,Ef hb]
  ·rw[Aq hb,Aq hb,Ab (λ z=>hb (by rw[z];exact pP))]
 have sm:Ad (del H P) (del (upd H l o') P):=by rw[sd];exact Ad.refl _
 refine E.iF pl ot (λ _ h=>h) (λ a h=>?_) sm (λ a ha hn=>Ab λ z=>hn (by rw[z];exact zc)) (new sm) (by simp) (λ a ha=>.inl ha);by_cases ha:a=l
 ·subst ha;exact⟨_,Al,hn⟩
 ·unfold EH;rw[Ab ha];exact E.BG a h
theorem Pf {n:Nat}(hu:X.A.units+n<cLine)(ha:DP X WX a i fp)(hk:DE X WX true b g)(hv:DE X WX true e f){pos':Pos}(hs:swapsWith e (some (.Subscript a b pos')) pos.line X.env=pure false:=by rfl)(hn:1<=n:=by decide):
 DS X WX (.Assign [.Subscript a b pos'] e pos) (λ ρ=>(f ρ).bind λ v=>(fp ρ).bind λ π=>(g ρ).bind λ k=>(Gp i ρ π).bind λ z=>if keyOk z.1 k=true/\z.2.1.length<1000 then EU i ρ π (.B8 z.1 (putD z.2.1 z.2.2 k v).1 ((putD z.2.1 z.2.2 k v).2.map .sh)) else .bad):=by
 obtain⟨ta,a1,a2⟩:=ha;obtain⟨tk,k1,k2⟩:=hk;obtain⟨tv,v1,v2⟩:=hv;refine⟨_,Zb (by omega) a1 k1 v1 hs,λ P0 P σ H Z ρ E h=>?_⟩;dsimp only at h;refine v2 P0 P σ H _ ρ E ?_;cases q0:f ρ with
 |bad=>rw[q0] at h;exact h
 |ex x=>rw[q0] at h;exact λ H' s=>h H' P (E.tr s)
 |ok d =>
  rw[q0] at h;simp only[M.A6] at h;intro w H0 s0 hw;have E0:=E.same s0;refine a2 P0 P σ H0 _ ρ E0 ?_;cases q:fp ρ with
  |bad=>rw[q] at h;exact h
  |ex x=>rw[q] at h;exact λ H' s=>h H' P ((E.tr s0).trans (E0.tr s))
  |ok π =>
   rw[q] at h;simp only[M.A6] at h;intro v t1 H1 s1 pl;have E1:=E0.same s1;refine k2 P0 P σ H1 _ ρ E1 ?_;cases q2:g ρ with
   |bad=>rw[q2] at h;exact h
   |ex y=>rw[q2] at h;exact λ H' s=>h H' P (((E.tr s0).trans (E0.tr s1)).trans (E1.tr s))
   |ok k =>
    rw[q2] at h;simp only[M.A6] at h;intro y H2 s2 hy;have E2:=E1.same s2;have bW:=pl.same s2;have lj:=(hw.mono s1.del).mono s2.del;have tw:=((E.tr s0).trans (E0.tr s1)).trans (E1.tr s2);cases q3:Gp i ρ π with
    |bad=>rw[q3] at h;exact h.elim
    |ex x=>exact (Xw q3).elim
    |ok z =>
     obtain⟨bb,ks,vs⟩:=z;rw[q3] at h;simp only[M.A6] at h;by_cases hc:keyOk bb k=true/\ks.length<1000
     ·rw[if_pos hc] at h;obtain⟨rfl,l,xs,rfl,hP,bV,ot,jn⟩:=bW.B8 E2 q3;have hK:=Jp hc.1;rcases jn with ⟨rfl,kvs,hH,rfl,rfl⟩|⟨rfl,kvs,hH,rfl,rfl⟩
      ·cases hK with
       |k κ =>
        have ey:=hy.nK;refine⟨l,_,rfl,.inl ⟨kvs,κ,hH,ey,AA (by have:=hc.2;rw[ze] at this;omega),rfl⟩,?_⟩;have aZ:∃bq,(putD (kvs.map λ kv=>Cn kv.1) vs (Cn κ) d)=((putK kvs κ w).map (λ kv=>Cn kv.1),bq)/\Ag X.K (del H2 P) ((putK kvs κ w).map yz) bq:=by
         unfold putD putK;rw[Ma M8];by_cases hh:(kvs.any λ kv=>decide (kv.1=κ))=true
         ·rw[if_pos hh,if_pos hh];refine⟨_,by rw[Js (fk:=Cn) M8],?_⟩;rw[<-Jr (fk:=Cn) M8];exact Jt lj bV
         ·rw[if_neg hh,if_neg hh];refine⟨_,by rw[ya];rfl,?_⟩;rw[ya];exact bV.snoc lj
        obtain⟨bq,e1,e2⟩:=aZ;obtain⟨c,p,t0,g1,g2,E3,t3⟩:=E2.nN (o':=.dK (putK kvs κ w)) (u:=.B8 false ((putK kvs κ w).map λ kv=>Cn kv.1) (bq.map .sh)) bW ot (λ _=>⟨λ z=>(by cases z),λ _ z=>by cases z⟩) (λ mv=>.dK Al (e2.mono mv).ows);rw[e1,Dy g1 g2] at h;exact h _ _ _ (tw.trans t3) E3
      ·cases hK with
       |t κ =>
        cases hy with
        |tup ht aB =>
         have ey:=Ag.keys κ aB;subst ey;refine⟨l,_,rfl,.inr ⟨kvs,κ,_,hH,rfl,(Aj ht).2,AA (by have:=hc.2;rw[ze] at this;omega),rfl⟩,?_⟩;have hf:∀a b:List Key,Av (.tup (a.map Cn)) (.tup (b.map Cn))=decide (a=b):=λ a b=>by simp only[Av];exact Ln a b
         have aZ:∃bq,(putD (kvs.map λ kv=>.tup (kv.1.map Cn)) vs (.tup (κ.map Cn)) d)=((putK kvs κ w).map (λ kv=>.tup (kv.1.map Cn)),bq)/\Ag X.K (del H2 P) ((putK kvs κ w).map yz) bq:=by
          unfold putD putK;rw[Ma (fk:=λ κ:List Key=>D.tup (κ.map Cn)) hf];by_cases hh:(kvs.any λ kv=>decide (kv.1=κ))=true
          ·rw[if_pos hh,if_pos hh];refine⟨_,by rw[Js (fk:=λ κ:List Key=>D.tup (κ.map Cn)) hf],?_⟩;rw[<-Jr (fk:=λ κ:List Key=>D.tup (κ.map Cn)) hf];exact Jt lj bV
          ·rw[if_neg hh,if_neg hh];refine⟨_,by rw[ya];rfl,?_⟩;rw[ya];exact bV.snoc lj
         obtain⟨bq,e1,e2⟩:=aZ;obtain⟨c,p,t0,g1,g2,E3,t3⟩:=E2.nN (o':=.dT (putK kvs κ w)) (u:=.B8 true ((putK kvs κ w).map λ kv=>.tup (kv.1.map Cn)) (bq.map .sh)) bW ot (λ _=>⟨λ z=>(by cases z),λ _ z=>by cases z⟩) (λ mv=>.dT Al (e2.mono mv).ows);rw[e1,Dy g1 g2] at h;exact h _ _ _ (tw.trans t3) E3
     ·rw[if_neg hc] at h;exact h.elim
theorem Qz (tk:Bool):DN X WX (.Dict [] [] pos) (λ _=>.ok (.B8 tk [] [])):=by
 cases tk with
 |false =>
  refine⟨_,WM,λ P0 P σ H Q ρ E h p hp=>?_⟩;exact h _ [p] _ (AK hp _) (λ a ha=>by rw[zu.mp ha];exact hp) (by simp) (.dK (kvs:=[]) Al .nil)
 |true =>
  refine⟨_,WN,λ P0 P σ H Q ρ E h p hp=>?_⟩;exact h _ [p] _ (AK hp _) (λ a ha=>by rw[zu.mp ha];exact hp) (by simp) (.dT (kvs:=[]) Al .nil)
end
theorem ID {α:Type}(o:Option (α×List Int))(b:α×List Int):By o b≠none:=by
 unfold By;split
 ·intro z;cases z
 ·split<;>(intro z;cases z)
theorem Me {α:Type}:∀ {bs:List (α×List Int)},bs≠[]->AQ bs≠none:=by
 intro bs h;unfold AQ
 suffices z:∀(bs:List (α×List Int)) (o:Option (α×List Int)),o≠none->bs.foldl By o≠none by
  cases bs with
  |nil=>exact (h rfl).elim
  |cons b r=>rw[zU];exact z r _ (ID _ _)
 intro bs;induction bs with
 |nil=>intro o h;exact h
 |cons b r ih=>intro o h;rw[zU];exact ih _ (ID _ _)
section
variable {prog:Program}{w:World}{A:Around}{R:Result->Shared->Prop}
theorem V8 (bs:List (Addr×List Int))(oq:bs≠[])(tv:Addr->Array Value)(l I S:Addr)(hh:A.handled=none)(hu:A.in1.units<cLine)(cI:S≠I)(ia:l≠I)(i9:l≠S)(f6:∀b∈bs,b.1≠I/\b.1≠S)
 (hk:∀b∈bs,IntsAre (tv b.1).toList b.2):∀(k j:Nat) (s:Shared) (c:Nat),bs.length-j=k->j<=bs.length->s.heap.IsListIter I l j->s.heap.IsList l (bs.map λ b=>zK b.1).toArray->(∀b∈bs,IsTup s.heap b.1 (tv b.1))->
  s.heap.get? S=some {cls:=.type "list",dict:=none,data:=.seq (D7 (bs.take j)) c,slots:=#[]} ->
  (∀h' tk,(∀b o,b≠I->b≠S->s.heap.get? b=some o->h'.get? b=some o)->R (.ok (.ret (match AQ bs with|none=>.none|some b=>.ref b.1))) {s with heap:=h',toks:=tk})->
  codeAny (model prog w) A (.builtin "min.loop" ⟨[.ref I,.none,.ref S],[]⟩) R s:=by
 have a8:(toString "min" ++ toString ".loop" : String) = "min.loop" := by decide
 intro k;induction k with
 |zero =>
  intro j s c hr hj hit hl ht hS hR;have cj:j=bs.length:=by omega
  subst cj;rw[yF] at hS;refine codeAny_builtin PySem.F.entry_min_loop ?_;rw[yu zY _];show wpAny _ A.in1 (seqItems? (.ref S) >>= _) _ _ s;refine wpAny_bind (wpAny_seqItems hS rfl ?_);show wpAny _ A.in1 (tryCatch (pyNext (.ref I)) _ >>= _) _ _ s;refine wpAny_bind (wpAny_tryCatch (wpAny_pyNext_list_end (A:=A.in1) hh hit hl (by simp) λ h' eb=>?_));have aF:h'.get? S=_:=eb S _ cI hS;unfold D7 at aF;cases hb:AQ bs with
  |none=>exact (Me oq hb).elim
  |some b =>
   rw[hb] at aF;unfold D7;rw[hb];show wpAny _ A.in1 (updateSeq S (λ _=>#[]) >>= _) _ _ _;refine wpAny_bind ?_;refine wpAny_updateSeq aF rfl (wpAny_bind (wpAny_letGo (wpAny_pure ?_)));have q:=hR (h'.update S (yr λ _=>#[])) s.toks λ b o h1 h2 e=>(xm _ _ (yc h2)).trans (eb b o h1 e);rw[hb] at q;exact q
 |succ k ih =>
  intro j s c hr hj hit hl ht hS hR;have aj:j<bs.length:=by omega
  have ej:bs.take (j+1)=bs.take j++[bs[j]]:=by rw[xb,zg aj];rfl
  have mj:bs[j]∈bs:=List.getElem_mem aj;refine codeAny_builtin PySem.F.entry_min_loop ?_;rw[yu zY _];show wpAny _ A.in1 (seqItems? (.ref S) >>= _) _ _ s;refine wpAny_bind (wpAny_seqItems hS rfl ?_);show wpAny _ A.in1 (tryCatch (pyNext (.ref I)) _ >>= _) _ _ s;refine wpAny_bind (wpAny_tryCatch (wpAny_pyNext_list_item (A:=A.in1) hit hl (x:=.ref bs[j].1) (by simp[aj]) λ h' aG sb=>?_));have bI:xg I s.heap h':=sb;have aF:h'.get? S=_:=(bI.2 S cI).trans hS;have bz:h'.IsList l (bs.map λ b=>zK b.1).toArray:=hl.at λ o e=>(bI.2 l ia).trans e;have bS:∀b∈bs,IsTup h' b.1 (tv b.1):=λ b hb=>by
   obtain⟨o,ho,r⟩:=ht b hb;exact⟨o,(bI.2 b.1 (f6 b hb).1).trans ho,r⟩
  cases hb:AQ (bs.take j) with
  |none =>
   unfold D7 at aF ⊢;rw[hb] at aF ⊢;show wpAny _ A.in1 (updateSeq S (λ _=>#[.ref bs[j].1,.ref bs[j].1]) >>= _) _ _ _;refine wpAny_bind ?_;refine wpAny_updateSeq aF rfl ?_;rw[a8];have s1:=yW h' S (yr λ _=>(#[.ref bs[j].1,.ref bs[j].1]:Array Value));refine wpAny_pure ⟨plainId_quiet zY _,ih (j+1) _ (c+1) (by omega) aj (aG.at λ o e=>(s1.2 I (yc cI)).trans e) (bz.at λ o e=>(s1.2 l i9).trans e) (λ b hb=>?_) ?_ λ ck tk aW=>?_⟩
   ·obtain⟨o,ho,r⟩:=bS b hb;exact⟨o,(s1.2 b.1 (f6 b hb).2).trans ho,r⟩
   ·refine (yT _ aF rfl).trans ?_;unfold D7;rw[ej,CN,hb];rfl
   ·exact hR ck tk λ b o h1 h2 e=>aW b o h1 h2 ((s1.2 b h2).trans ((bI.2 b h1).trans e))
  |some m =>
   have mm:m∈bs:=yw (JX _ _ hb);unfold D7 at aF ⊢;rw[hb] at aF ⊢;show wpAny _ A.in1 (tryCatch (holding [.ref bs[j].1,.ref bs[j].1] (richCompare .Lt (.ref bs[j].1) (.ref m.1) >>= _)) _ >>= _) _ _ _;refine wpAny_bind (wpAny_tryCatch (wpAny_holding (wpAny_bind (HT.Ip (bS _ mj) (bS _ mm) (hk _ mj) (hk _ mm) hu ?_))));refine wpAny_bind (wpAny_holding (wpAny_truthy_bool ?_));refine wpAny_bind (wpAny_letGo (wpAny_pure ?_));cases hc:HT.lexLt bs[j].2 m.2 with
   |true =>
    simp only[if_true];have s1:=yW h' S (yr λ _=>(#[.ref bs[j].1,.ref bs[j].1]:Array Value));refine wpAny_bind ?_;refine wpAny_updateSeq aF rfl (wpAny_bind (wpAny_letGo ?_));rw[a8];refine wpAny_pure ⟨plainId_quiet zY _,ih (j+1) _ c (by omega) aj (aG.at λ o e=>(s1.2 I (yc cI)).trans e) (bz.at λ o e=>(s1.2 l i9).trans e) (λ b hb=>?_) ?_ λ ck tk aW=>?_⟩
    ·obtain⟨o,ho,r⟩:=bS b hb;exact⟨o,(s1.2 b.1 (f6 b hb).2).trans ho,r⟩
    ·refine (yT _ aF rfl).trans ?_;unfold D7;rw[ej,CN,hb];simp only[hc,if_true];rfl
    ·exact hR ck tk λ b o h1 h2 e=>aW b o h1 h2 ((s1.2 b h2).trans ((bI.2 b h1).trans e))
   |false =>
    simp only[zF,if_false];refine wpAny_bind (wpAny_letGo ?_);rw[a8];refine wpAny_pure ⟨plainId_quiet zY _,ih (j+1) _ c (by omega) aj aG bz bS ?_ λ ck tk aW=>?_⟩
    ·refine aF.trans ?_;unfold D7;rw[ej,CN,hb];simp only[hc,zF,if_false]
    ·exact hR ck tk λ b o h1 h2 e=>aW b o h1 h2 ((bI.2 b h1).trans e)
theorem Pg {E:Value->Shared->Prop}{s:Shared}{Q:Value->Shared->Prop}(bs:List (Addr×List Int))(oq:bs≠[])(tv:Addr->Array Value)(l:Addr)(hh:A.handled=none)(hu:A.in1.units<cLine)
 (hl:s.heap.IsList l (bs.map λ b=>zK b.1).toArray) (ht:∀b∈bs,IsTup s.heap b.1 (tv b.1)) (hk:∀b∈bs,IntsAre (tv b.1).toList b.2)
 (hQ:∀h' tk,(∀b o,s.heap.get? b=some o->h'.get? b=some o)->Q (match AQ bs with|none=>.none|some b=>.ref b.1) {s with heap:=h',toks:=tk}):
 wpAny (model prog w) A (call (.builtin "min") [.ref l]) Q E s:=by
 have a8:(toString "min" ++ toString ".loop" : String) = "min.loop" := by decide
 obtain⟨ol,f7,_⟩:=id hl;have u6:l<s.heap.objs.size:=zt f7;refine kmk_tree PySem.F.kind_min PySem.F.plain_min PySem.F.entry_min (by unfold argsOk;kernel_rfl) ?_;show wpAny _ A.in1 (xc "min" ["key","default"] 0 ⟨[],[]⟩ >>= _) _ _ s;refine wpAny_bind (wpAny_of_eq (show xc "min" ["key","default"] 0 ⟨[],[]⟩=pure [none,none] from rfl) ?_);refine wpAny_bind (wpAny_pure ?_);refine wpAny_bind (wpAny_pyIter_list hl ?_);refine wpAny_bind (wpAny_newList ?_ (zQ _));rw[a8];have hS:(s.heap.push {cls:=.type "list_iterator",data:=.fields #[.ref l,.int 0 0]}).objs.size=s.heap.objs.size+1:=Heap.size_push ..;have old:∀b o,s.heap.get? b=some o->b≠s.heap.objs.size/\b≠(s.heap.push {cls:=.type "list_iterator",data:=.fields #[.ref l,.int 0 0]}).objs.size:=λ b o e=>⟨zB (zt e),by rw[hS];exact zB (Nat.lt_succ_of_lt (zt e))⟩;have grow:∀b o,s.heap.get? b=some o->((s.heap.push {cls:=.type "list_iterator",data:=.fields #[.ref l,.int 0 0]}).push {cls:=.type "list",data:=.seq #[]}).get? b=some o:=λ b o e=>zi _ (zi _ e);refine wpAny_pure ⟨plainId_quiet zY _,?_⟩;refine V8 bs oq tv l s.heap.objs.size (s.heap.push {cls:=.type "list_iterator",data:=.fields #[.ref l,.int 0 0]}).objs.size hh hu (by rw[hS];exact Nat.succ_ne_self _) (old l ol f7).1 (old l ol f7).2 (λ b hb=>?_) hk _ 0 _ 0 rfl (zQ _) ?_ ?_ (λ b hb=>?_) ?_ ?_
 ·obtain⟨o,ho,_⟩:=ht b hb;exact old b.1 o ho
 ·exact⟨_,zi _ (zA _ rfl),rfl,rfl⟩
 ·exact hl.at λ o e=>grow l o e
 ·obtain⟨o,ho,r⟩:=ht b hb;exact⟨o,grow b.1 o ho,r⟩
 ·exact zA _ rfl
 ·intro h' tk cJ;exact hQ h' tk λ b o e=>cJ b o (old b o e).1 (old b o e).2 (grow b o e)
end
section
variable {X:Cx}{WX:Str->Hp->Prop}{c:Bool}{e:Expr}{f:Aa->M D}{pos:Pos}
def eC (K:za):List V->Hp->VK->Prop:=λ xs H Q=>∃(a:Addr) (bs:List (Addr×List Int)) (b:Addr×List Int),xs=[.ref a]/\Dt K H a (bs.map λ b=>V.ref b.1)/\(∀b∈bs,Gk K H b.1 (b.2.map V.int))/\AQ bs=some b/\Q (.ref b.1) H
theorem V9 (hc:X.calm=true)(hu:X.A.units+1<cLine):Gm X (.builtin "min") (eC X.K):=by
 intro pins s σ H xs us Q I r h;obtain⟨a,bs,b0,rfl,hl,hb,he,q⟩:=h;obtain⟨ua,rfl,ra⟩:=r.one;cases ra;obtain⟨aa,rv,pl,hz⟩:=I.list hl;have ei:=JY rv;subst ei;have tv:∀a:Addr,∃t:Array Value,∀b∈bs,b.1=a->IsTup s.heap a t/\IntsAre t.toList b.2:=λ a=>by
  by_cases cm:∃b∈bs,b.1=a
  ·obtain⟨b,cm,rfl⟩:=cm;obtain⟨ts,rt,pt,_⟩:=I.tuple (hb b cm);refine⟨ts.toArray,λ b' a9 e=>⟨pt,?_⟩⟩;have q2:=hb b' a9;rw[e] at q2;have e2:=I.Hl q2 (hb b cm);rw[<-e2] at rt;simpa using intsAre_of rt
  ·exact⟨#[],λ b a9 e=>absurd ⟨b,a9,e⟩ cm⟩
 have ae:bs≠[]:=λ z=>by subst z;cases he
 refine Pg bs ae (λ b=>zo (tv b)) a (I.ok.hd hc) hu pl.isList (λ b a9=>(zb (tv b.1) b a9 rfl).1) (λ b a9=>(zb (tv b.1) b a9 rfl).2) λ h' tk hk=>?_;rw[he];exact⟨.ref b0.1,H,I.kept (t':=tk) hk,rfl,q⟩
noncomputable def TQ (ds:List D):M D:=match ds with
 |[.lst xs]=>(match GJ xs with|some ks=>(match AQ ks with|some k=>.ok k.1|none=>.bad)|none=>.bad)
 |_=>.bad
theorem ZF:KJ X.K WX (eC X.K) TQ:=by
 intro P H ds vs Q ht hl h;unfold TQ at h;split at h
 ·rename_i xs;obtain⟨v,rfl,hv⟩:=hl.one;split at h
  ·rename_i ks e1;cases hv with
   |lst hs hh =>
    obtain⟨bs,rfl,h2,h3⟩:=Iw hh e1;split at h
    ·rename_i k e2;rcases LW h3 with ⟨q1,q2⟩|⟨b,k',q1,q2,_,q3⟩
     ·rw[q2] at e2;cases e2
     ·rw[q2] at e2;cases e2;exact⟨_,bs,b,rfl,hs.Bj,λ b hb=>(h2 b hb).Bj,q1,h _ H (Ad.refl H) q3⟩
    ·exact h.elim
  ·exact h.elim
 ·exact h.elim
theorem ZG {p:Pos}{n:Nat}(hc:X.calm=true)(hu:X.A.units+n<cLine)(hg:Gl X "min")(hm:X.mg "min" = none)(ha:DE X WX c e f)(hb:bootBuiltins "min" = some (.builtin "min"):=by decide +kernel)(hs:starEach [e] X.env=[(false,eval e X.env)]:=by rfl)(hn:1<=n:=by decide):DE X WX c (.Call (.Name "min" p) [e] [] pos) (λ ρ=>((f ρ).bind λ d=>(M.ok []).bind λ ds=>.ok (d::ds)).bind TQ):=
 Jg (V9 hc (by omega)) ZF hg hm hb (A3 ha A9 hs) (he:=hs)
end
section
variable {X:Cx}{E:XK}{WX:Str->Hp->Prop}{c:Bool}{P0:Df}{P:Addr->Prop}{H:Hp}{σ:St}{ρ:Aa}{a b e:Expr}{f g:Aa->M D}{fn:Aa->M OT}{fp:Aa->M (List Nat)}{pos:Pos}{i:Nat}
def ZH:V->List V->Hp->VK->Prop:=λ x vs H Q=>∃(l:Addr) (ns:List Int) (k:Int),x=.ref l/\vs=[.int k]/\H l=some (.lst (ns.map V.int))/\k∈ns/\Q .Ay (upd H l (.lst ((ns.erase k).map V.int)))
theorem NZ {α β:Type}(f:α->β):∀(l:List α) (k:Nat),(l.eraseIdx k).map f=(l.map f).eraseIdx k
 |[],_|_::_,0=>rfl
 |x::r,k+1=>by rw[List.eraseIdx_cons_succ,zh,zh,List.eraseIdx_cons_succ,NZ f r k]
noncomputable def Sl (k:Int):Value->Bool
 | .int i _=>i==k
 |_=>false
theorem Va:dS X "list.remove" ZH:=by
 intro pins s σ H x vs v us Q I rx rv h;obtain⟨l,ns,k,rfl,rfl,hH,hk,q⟩:=h;cases rx;obtain⟨u,rfl,ru⟩:=rv.one;obtain⟨tk,rfl⟩:=ru;obtain⟨z,aa,n,r,hl,e⟩:=I.OQ hH;have hlen:=r.length;have gq:ns.idxOf k<ns.length:=List.idxOf_lt_length_iff.mpr hk;have gr:∀m (hm:m<aa.toArray.size) (tx:m<ns.length),∃t,aa.toArray[m]=Value.int ns[m] t:=λ m hm tx=>by
  have hx:(ns.map V.int)[m]?=some (V.int ns[m]):=by rw[zw,zg tx];rfl
  obtain⟨w,hw,bF⟩:=r.get hx;obtain⟨t,rfl⟩:=bF;refine⟨t,?_⟩;have:aa[m]?=some aa[m]:=zg (by simpa using hm);rw[hw] at this;simpa using (z0 this).symm
 have hsz:aa.toArray.size=ns.length:=by rw[zj,<-hlen,ze]
 have hm:=MeetsSeq.list_remove l aa.toArray n (.int k tk) (Sl k) (λ y hy=>by
  obtain⟨m,hm,rfl⟩:=Array.mem_iff_getElem.mp hy;obtain⟨t,ht⟩:=gr m hm (by rw[<-hsz];exact hm);rw[ht];exact MeetsSeq.EqGives.int _ _ _ _) (ns.idxOf k) (by rw[hsz];exact gq) (by
  obtain⟨t,ht⟩:=gr (ns.idxOf k) (by rw[hsz];exact gq) gq;rw[ht];simp[Sl]) (λ m hm aj=>by
  obtain⟨t,ht⟩:=gr m hm (by omega);rw[ht];have:=List.not_of_lt_findIdx (p:=(· == k)) (xs:=ns) (i:=m) aj;simpa [Sl] using this) (by rw[zj];omega)
 refine call_meets F.slot_list_remove ⟨_,e,rfl⟩ F.entry_list_remove (F.args_list_remove_2 _ _) hm ⟨e,?_⟩;refine⟨.Ay,_,I.RV (its':=aa.eraseIdx (ns.idxOf k)) hH e ?_ ?_ ?_,rfl,q⟩
 ·show aa.toArray.eraseIdxIfInBounds _=_;rw[List.eraseIdxIfInBounds_toArray]
 ·rw[show ns.erase k=ns.eraseIdx (ns.idxOf k) from List.erase_eq_eraseIdx_of_idxOf rfl,NZ];exact r.eraseIdx _
 ·rw[ze];have:=List.length_erase_le (a:=k) (l:=ns);rw[ze] at z;omega
theorem Vb (ha:DP X WX a i fp)(he:DE X WX true e f){apos ac:Pos}(hs:starEach [e] X.env=[(false,eval e X.env)]:=by rfl)
 (bp:swapsWith (.Call (.Attribute a "remove" apos) [e] [] ac) none pos.line X.env=pure false:=by rfl)
 (ar:attributeBase a "remove" X.env (eval a X.env)=eval a X.env:=by rfl)
 (aV:((backTo ac (starEach [e] X.env)).all (λ x => !x.1)&&(backToKw ac (keywordEach [] X.env)).all (λ x=>x.1.isSome)&&decide (([e]:List Expr).length+([]:List Keyword).length+(if ([]:List Keyword).isEmpty then 0 else 1)<30))=true:=by rfl)
 (au:(apos.endLine==ac.line)=true:=by rfl) (aq:(backTo ac (starEach [] X.env)).any (·.1)=false:=by rfl):
 DS X WX (.Expr (.Call (.Attribute a "remove" apos) [e] [] ac) pos) (λ ρ=>(fp ρ).bind λ π=>(N9 i ρ π).bind λ ds=>(f ρ).bind λ d=>match d,Cg ds with
  | .int k,some ns=>if k∈ns then EU i ρ π (.lst (((ns.erase k).map D.int).map .sh)) else .bad
  |_,_=>.bad):=by
 obtain⟨ta,a1,a2⟩:=ha;obtain⟨te,e1,e2⟩:=he;refine⟨_,FL (Q9 yG PySem.F.slot_list_remove PySem.F.type_list_remove Va a1 (Bc e1 C4 hs) ar aV au hs aq) bp,λ P0 P σ H Z ρ E h=>?_⟩;dsimp only at h;refine a2 P0 P σ H _ ρ E ?_;cases q:fp ρ with
 |bad=>rw[q] at h;exact h
 |ex x=>rw[q] at h;exact λ H' s=>h H' P (E.tr s)
 |ok π =>
  rw[q] at h;simp only[M.A6] at h;intro v t1 H1 s1 pl;have E1:=E.same s1;cases q1:N9 i ρ π with
  |bad=>rw[q1] at h;exact h.elim
  |ex x=>exact (Sk q1).elim
  |ok ds =>
   rw[q1] at h;simp only[M.A6] at h;obtain⟨rfl,l,xs,rfl,hl,ol⟩:=pl.shl E1 q1;refine⟨.inl ⟨rfl,xs,.of hl⟩,e2 P0 P σ H1 _ ρ E1 ?_⟩;cases q2:f ρ with
   |bad=>rw[q2] at h;exact h
   |ex y=>rw[q2] at h;exact λ H' s=>h H' P ((E.tr s1).trans (E1.tr s))
   |ok d =>
    rw[q2] at h;simp only[M.A6] at h;intro w H2 s2 hw;have E2:=E1.same s2;have bW:=pl.same s2;cases d with
    |int k =>
     cases q3:Cg ds with
     |none=>rw[q3] at h;exact h.elim
     |some ns =>
      rw[q3] at h;dsimp only at h;by_cases hk:k∈ns
      ·rw[if_pos hk] at h;have:=CQ q3;subst this;have d8:=ol.mono s2.del;have ex:=CS d8;subst ex;have aB:=s2 _ _ hl;obtain⟨c,p,t0,g1,g2,E3,t3⟩:=E2.iK (ys:=(ns.erase k).map V.int) (es:=(ns.erase k).map D.int) bW aB d8 (Ag.ints _);rw[Dy g1 g2] at h;exact⟨l,ns,k,rfl,by rw[hw.int_inv],aB,hk,h _ _ _ (((E.tr s1).trans (E1.tr s2)).trans t3) E3⟩
      ·rw[if_neg hk] at h;exact h.elim
    |_=>exact h.elim
end
noncomputable def BK (n:Nat)(ρ:Aa):Bool:=ρ.all λ o=>match o with | some c => !(Ia c==some n) | none=>true
def GR (i n:Nat)(ds:List D)(ρ:Aa):Prop:=ρ[i]?=some (some (.ow (.HW n ds)))
noncomputable def Sn (i n:Nat)(ds:List D)(gt:D->Aa->M Aa)(d:D)(ρ:Aa):M Aa:=@ite _ (GR i n ds ρ) (yE _) (gt d ρ) .bad
noncomputable def Mf (i n:Nat)(ds:List D)(m:M Out):M Out:=match m with
 | .ok (.next ρ)=>@ite _ (GR i n ds ρ/\BK n (ρ.set i (some (.own ds)))=true) (yE _) (.ok (.next (ρ.set i (some (.own ds))))) .bad
 | .ok (.ret d)=>.ok (.ret d)
 | .ok (.BL c)=>.ok (.BL c)
 | .ok (.Eh _ _)| .ok (.brk _)| .ok (.cont _)=>.bad
 | .ex x=>.ex x
 | .bad=>.bad
noncomputable def Ph (i n:Nat)(gt:D->Aa->M Aa)(gb:Aa->M Out)(ρ:Aa):M Out:=match ρ[i]? with
 |some (some (.own ds))=>if BK n ρ=true then Mf i n ds (forM (Sn i n ds gt) gb ds (ρ.set i (some (.ow (.HW n ds))))) else .bad
 |_=>.bad
theorem QA {n:Nat}{ρ:Aa}(h:BK n ρ=true){j:Nat}{c:Cl}(e:ρ[j]?=some (some c)):Ia c≠some n:=λ z=>by
 have:=xj.mp h (some c) (zr e);simp[z] at this
section
variable {X:Cx}{E:XK}{WX:Str->Hp->Prop}{c:Bool}{P0:Df}{P:Addr->Prop}{H:Hp}{σ:St}{ρ:Aa}{a b e tg:Expr}{f g:Aa->M D}{gt:D->Aa->M Aa}{gb:Aa->M Out}{pos:Pos}{i n:Nat}
theorem Ai.tok {K:za}{G:Nat->Addr}(E:Ai K P0 P H σ ρ)(h:∀(j:Nat) c m,ρ[j]?=some (some c)->Ia c=some m->G m=P0.g m):Ai K ⟨P0.pr,G⟩ P H σ ρ:=
 ⟨E.sub,E.BG,E.val,E.ows,E.apart,E.len,λ j c m h1 h2=>by rw[E.pin j c m h1 h2,<-h j c m h1 h2]⟩
theorem Ai.nO {K:za}{p:Addr}{ds:List D}(E:Ai K P0 P H σ ρ)(h:ρ[i]?=some (some (.own ds)))(hs:σ[i]?=some (some (.ref p)))(hn:BK n ρ=true):Ai K ⟨P0.pr,λ m=>if m=n then p else P0.g m⟩ P H σ (ρ.set i (some (.ow (.HW n ds)))):=by
 have E1:Ai K ⟨P0.pr,λ m=>if m=n then p else P0.g m⟩ P H σ ρ:=E.tok λ j c m h1 h2=>if_neg λ z=>QA hn h1 (by rw[h2,z]);obtain⟨v,fp,k1,k2,k3,k4⟩:=E.ows i _ h rfl;rw[hs] at k1;cases k1;have key:=E1.X5 (P':=P) (H':=H) (i:=i) (v:=.ref p) (c:=.ow (.HW n ds)) (fp:=fp) (λ _ h=>h) E.BG (Ad.refl _) (λ j c' v' ak ae g1 g2 g3 b hb=>⟨rfl,E.apart j i c' _ v' _ ak fp g1 h g2 hs g3 k2 (yc ae) b hb⟩) k2 k3 k4 (λ m z=>by cases z;simp);rw[K0 hs] at key;exact key
theorem Ai.TR {K:za}{G:Nat->Addr}{ds:List D}(E:Ai K ⟨P0.pr,G⟩ P H σ ρ)(hG:∀m,m≠n->G m=P0.g m)(h:GR i n ds ρ)(hn:BK n (ρ.set i (some (.own ds)))=true):Ai K P0 P H σ (ρ.set i (some (.own ds))):=by
 obtain⟨v,fp,k1,k2,k3,k4⟩:=E.ows i _ h rfl;have key:=E.X5 (P':=P) (H':=H) (i:=i) (v:=v) (c:=.own ds) (fp:=fp) (λ _ h=>h) E.BG (Ad.refl _) (λ j c' v' ak ae g1 g2 g3 b hb=>⟨rfl,E.apart j i c' _ v' _ ak fp g1 h g2 k1 g3 k2 (yc ae) b hb⟩) k2 k3 k4;rw[K0 k1] at key;exact key.tok (P0:=⟨P0.pr,G⟩) (G:=P0.g) λ j c m h1 h2=>(hG m λ z=>QA hn h1 (by rw[h2,z])).symm
theorem Vc (i n:Nat){x:Str}{p1:Pos}{body:List Stmt}(hp:PassesOwn (model X.prog X.w) X.A X.env X.xe)(hc:X.calm=true)(hv:PE X (.Name x p1) (OJ i))(hg:DG X tg gt)(hb:Qn X WX body gb)(hs:∀y,foldedSetIterable (.Name x p1) X.env y=pure y:=by intro _;rfl):
 DS X WX (.For tg (.Name x p1) body [] pos) (Ph i n gt gb):=by
 obtain⟨t,a1,a2⟩:=hg;obtain⟨tb,b1,b2⟩:=hb;refine⟨_,Wr hp hc (Th hv) a1 b1 hs,λ P0 P σ H Z ρ E h=>?_⟩;unfold Ph at h;split at h
 rotate_left
 ·exact h.elim
 rename_i ds e1;by_cases hn:BK n ρ=true
 rotate_left
 ·rw[if_neg hn] at h;exact h.elim
 rw[if_pos hn] at h;obtain⟨p,vd,h1,h2,h3,h4,h5⟩:=E.own i ds e1;let Q0:Df:=⟨P0.pr,λ m=>if m=n then p else P0.g m⟩;have gn:Q0.g n=p:=if_pos rfl;have hG:∀m,m≠n->Q0.g m=P0.g m:=λ m hm=>if_neg hm;refine⟨_,h1,p,rfl,⟨vd,.of h2⟩,?_⟩;have look:∀ {P':Addr->Prop} {H':Hp} {σ':St} {ρ':Aa},Ai X.K Q0 P' H' σ' ρ'->GR i n ds ρ'->∃xs,H' p=some (.lst xs)/\Ag X.K (del H' P') xs ds:=λ E' du=>by
  obtain⟨v,fp,k1,⟨q,xs,rfl,rfl,k2,k5⟩,k3,k4⟩:=E'.ows i _ du rfl;have:=E'.pin i _ n du rfl;rw[k1] at this;cases this;rw[gn] at k2;exact⟨xs,k2,k5⟩
 refine⟨λ k m σ' H'=>m=ds.length-k/\k<=ds.length/\∃P' ρ',Tr P0 P H P' H'/\Ai X.K Q0 P' H' σ' ρ'/\gS X.K WX P0 P' H' Z (Mf i n ds (forM (Sn i n ds gt) gb (ds.drop k) ρ')),
  ⟨ds.length,by simp,zQ _,P,_,Tr.refl,E.nO e1 h1 hn,by rw[xl];exact h⟩,?_⟩
 rintro k m σ' H' ⟨rfl,hk,P',ρ',t',E',g'⟩;by_cases aj:k<ds.length
 ·rw[Ei aj,forM] at g';by_cases jl:GR i n ds ρ'
  rotate_left
  ·have e:Sn i n ds gt ds[k] ρ'=.bad:=if_neg jl;rw[e] at g';exact g'.elim
  have e:Sn i n ds gt ds[k] ρ'=gt ds[k] ρ':=if_pos jl;rw[e] at g';obtain⟨xs,k2,k5⟩:=look E' jl;obtain⟨x0,lm,ve⟩:=k5.get (zg aj);refine .inr ⟨⟨xs,x0,.of k2,lm⟩,λ σ2 H2=>k+1<=ds.length/\∃P2 ρ2,Tr P0 P H P2 H2/\Ai X.K Q0 P2 H2 σ2 ρ2/\gS X.K WX P0 P2 H2 Z (Mf i n ds (forM (Sn i n ds gt) gb (ds.drop (k+1)) ρ2)),λ σ2 H2 hq=>⟨ds.length-(k+1),by omega,rfl,hq.1,hq.2⟩,λ v H2 y=>?_⟩;obtain⟨rfl,y⟩:=y;have ev:=y xs (.of k2);rw[lm] at ev;cases ev;refine a2 Q0 P' σ' H2 _ ρ' x0 ds[k] E' ve ?_;cases q1:gt ds[k] ρ' with
  |bad=>rw[q1] at g';exact g'
  |ex x=>rw[q1] at g';exact g'.elim
  |ok ρ1 =>
   rw[q1] at g';dsimp only at g';intro σ3 E3;refine b2 Q0 P' σ3 H2 _ ρ1 E3 ?_;cases q2:gb ρ1 with
   |bad|ex x=>rw[q2] at g';exact g'
   |ok o =>
    rw[q2] at g';cases o with
    |ret d|BL d=>exact g'
    |Eh d ρ2=>exact g'.elim
    |next ρ2|cont ρ2=>exact λ σ4 H4 P4 t4 E4=>⟨aj,P4,ρ2,t'.trans t4,E4,gS.tr g' t4⟩
    |brk ρ2 =>
     intro σ4 H4 P4 t4 E4;dsimp only [Mf] at g';by_cases hz:GR i n ds ρ2/\BK n (ρ2.set i (some (.own ds)))=true
     ·rw[if_pos hz] at g';exact g' σ4 H4 P4 t4 (E4.TR hG hz.1 hz.2)
     ·rw[if_neg hz] at g';exact g'.elim
 ·have e:k=ds.length:=by omega
  subst e;rw[yP,forM] at g';dsimp only [Mf] at g';by_cases hz:GR i n ds ρ'/\BK n (ρ'.set i (some (.own ds)))=true
  ·rw[if_pos hz] at g';obtain⟨xs,k2,k5⟩:=look E' hz.1;exact .inl ⟨⟨xs,.of k2,by rw[k5.length];exact zv _⟩,g' σ' H' P' Tr.refl (E'.TR hG hz.1 hz.2)⟩
  ·rw[if_neg hz] at g';exact g'.elim
end
section
variable {X:Cx}{WX:Str->Hp->Prop}{c:Bool}{P0:Df}{P:Addr->Prop}{H:Hp}{σ:St}{ρ:Aa}{a b e:Expr}{f g:Aa->M D}{fn:Aa->M OT}{pos:Pos}{te:TE}
theorem Vd (hc:X.calm=true):Gm X (.builtin "sum") (λ xs H Q=>∃p ns,xs=[.ref p]/\Dt X.K H p (List.map V.int ns)/\Q (.int ns.sum) H):=by
 intro pins s σ H xs us Q I r h;obtain⟨p,ns,rfl,hq,q⟩:=h;obtain⟨u,rfl,rx⟩:=r.one;cases rx;obtain⟨aa,r',pl,hz⟩:=I.list hq;have hl:=pl.isList;have hi:=Jo r';obtain⟨ys,e⟩:=hi.allInts.items;have fj:ns=ys.toList.map (·.1):=by rw[<-hi.numsOf,<-nums_intItems,<-e]
 rw[e] at hl;refine sum_intListG (I.ok.hd hc) hl λ h' tk t' hk=>?_;have e2:preSum (numAt ys) ys.size=ns.sum:=by rw[preSum_eq,y6 (by simp),fj]
 rw[e2];exact⟨.int ns.sum,H,I.kept (t':=tk) hk,⟨t',rfl⟩,q⟩
noncomputable def Xx (ds:List D):M D:=match ds with
 |[.lst xs]=>(match Cg xs with|some ns=>.ok (.int ns.sum)|none=>.bad)
 |_=>.bad
theorem iL:KJ X.K WX (λ xs H Q=>∃p ns,xs=[.ref p]/\Dt X.K H p (List.map V.int ns)/\Q (.int ns.sum) H) Xx:=by
 intro P H ds vs Q ht hl h;unfold Xx at h;split at h
 ·rename_i xs;obtain⟨v,rfl,hv⟩:=hl.one;split at h
  ·rename_i ns eb;have:=CQ eb;subst this;cases hv with
   |lst hs hh =>
    have:=CS hh;subst this;exact⟨_,ns,rfl,hs.Bj,h _ H (Ad.refl H) (.int _)⟩
  ·exact h.elim
 ·exact h.elim
theorem So {p:Pos}(hc:X.calm=true)(hg:Gl X "sum")(hm:X.mg "sum" = none)(ha:DE X WX c e f)(hb:bootBuiltins "sum" = some (.builtin "sum"):=by decide +kernel)(hs:starEach [e] X.env=[(false,eval e X.env)]:=by rfl):DE X WX c (.Call (.Name "sum" p) [e] [] pos) (λ ρ=>((f ρ).bind λ d=>(M.ok []).bind λ ds=>.ok (d::ds)).bind Xx):=
 Jg (Vd hc) iL hg hm hb (A3 ha A9 hs) (he:=hs)
noncomputable def rC (te:TE):TE:=λ σ H Q=>te σ H λ x H1=>∃n:Nat,x=.int (n:Int)/\n<=1000/\∀r,H1 r=none->Q (.ref r) (upd H1 r (.lst ((zR n).map λ i:Nat=>V.int (i:Int))))
theorem Ve {acc:Array Value}{n:Nat}(h:ItemsOf (λ i v=>∃t,v=Value.int (0+(i:Int)*1) t) acc n):Vals ((zR n).map λ i:Nat=>V.int (i:Int)) acc.toList:=by
 obtain⟨h1,h2⟩:=h;have key:∀(l:List Value) (k:Nat),(∀i v,l[i]?=some v->∃t,v=Value.int ((k+i:Nat):Int) t)->Vals ((List.range' k l.length).map λ i:Nat=>V.int (i:Int)) l:=by
  intro l;induction l with
  |nil=>intro k _;exact .nil
  |cons v r ih =>
   intro k hk;rw[zp,List.range'_succ,zh];refine .cons (by obtain⟨t,e⟩:=hk 0 v rfl;exact⟨t,by simpa using e⟩) (ih (k+1) λ i w hw=>?_);obtain⟨t,e⟩:=hk (i+1) w (by simpa using hw);exact⟨t,by rw[e];congr 1;omega⟩
 have:=key acc.toList 0 (λ i v hv=>by
  obtain⟨t,e⟩:=h2 i v (by rw[<-yS];exact hv);exact⟨t,by rw[e];congr 1;omega⟩)
 rw[yp,h1] at this;rw[List.range_eq_range'];exact this
theorem Pj {p p2 aX:Pos}(hc:X.calm=true)(hg:Gl X "list")(hm:X.mg "list" = none)(ga:Gl X "range")(be:X.mg "range" = none)(he:PE X e te)
 (hv:bootBuiltins "list" = some (.type "list"):=by decide +kernel)
 (hs:starEach [.Call (.Name "range" p2) [e] [] aX] X.env=[(false,eval (.Call (.Name "range" p2) [e] [] aX) X.env)]:=by rfl) (aY:starEach [e] X.env=[(false,eval e X.env)]:=by rfl):
 PE X (.Call (.Name "list" p) [.Call (.Name "range" p2) [e] [] aX] [] pos) (rC te):=by
 intro pins s σ H Q I h;refine wpAny_Call_Name_kw (Dh I hg hm hv ?_);refine yq ?_ hs;rw[hs];refine yR ?_;refine wpAny_Call_Name_kw (Dh I ga be boot_range ?_);refine yq ?_ aY;rw[aY];refine yR (Bb (he pins s σ H _ I h) λ u s1 ⟨x,H1,I1,r1,q1⟩=>?_);obtain⟨n,rfl,hn,q⟩:=q1;obtain⟨t,rfl⟩:=r1;refine xa ?_;refine call_range_1 ?_;refine xa ?_;have h4:((n:Nat):Int)<2^62:=by omega
 refine call_list_range (n:=n) (I1.ok.hd hc) (IsRange.new ..) (small_one (by omega) (by omega) (by omega) h4) (by rw[rangeSize_one];split<;>omega) (by omega) λ h' tk oy c' hk aF cv=>?_;have kp:∀b o,s1.heap.get? b=some o->h'.get? b=some o:=λ b o e=>hk b o (zi _ e);have rv:=Ve cv;have jo:∀o:Obj,s1.heap.objs.size<=(s1.heap.push o).objs.size:=λ o=>by simp[Heap.push]
 refine⟨.ref _,_,I1.laid (t':=tk) (o:=.lst ((zR n).map λ i:Nat=>V.int (i:Int))) kp (jo _) ⟨?_,oy.toList,c',rv,by simpa using aF⟩,rfl,q _ (I1.Ar.fresh (jo _))⟩;rw[ze,List.length_range];exact yd (AA hn)
noncomputable def pF (d:D):M OT:=match d with
 | .int j=>@ite _ (0<=j/\j<=1000) (yE _) (.ok (.lst ((C6 0 j.toNat).map .sh))) .bad
 |_=>.bad
theorem Pk {n:Nat}(h:n<=1000):pF (.int (n:Int))=.ok (.lst (((zR n).map λ i:Nat=>D.int (i:Int)).map .sh)):=by
 unfold pF;dsimp only;rw[if_pos ⟨by omega,by omega⟩,y9,LX]
theorem Jw {p p2 aX:Pos}(hc:X.calm=true)(hg:Gl X "list")(hm:X.mg "list" = none)(ga:Gl X "range")(be:X.mg "range" = none)(he:DE X WX true e f)
 (hv:bootBuiltins "list" = some (.type "list"):=by decide +kernel)
 (hs:starEach [.Call (.Name "range" p2) [e] [] aX] X.env=[(false,eval (.Call (.Name "range" p2) [e] [] aX) X.env)]:=by rfl) (aY:starEach [e] X.env=[(false,eval e X.env)]:=by rfl):
 DN X WX (.Call (.Name "list" p) [.Call (.Name "range" p2) [e] [] aX] [] pos) (λ ρ=>(f ρ).bind pF):=by
 obtain⟨te,e1,e2⟩:=he;refine⟨_,Pj hc hg hm ga be e1 hv hs aY,λ P0 P σ H Q ρ E h=>?_⟩;refine e2 P0 P σ H _ ρ E ?_;dsimp only at h;cases q:f ρ with
 |bad|ex x=>rw[q] at h;exact h
 |ok d =>
  rw[q] at h;simp only[M.A6] at h;intro v H1 s1 hv;cases d with
  |int j =>
   by_cases hj:0<=j/\j<=1000
   ·obtain⟨n,rfl⟩:∃n:Nat,j=n:=⟨j.toNat,by omega⟩;rw[Pk (by omega)] at h;refine⟨n,hv.int_inv,by omega,λ r hr=>h.HX s1 (xs:=(zR n).map λ i:Nat=>V.int (i:Int)) ?_ r hr⟩;have:∀l:List Nat,Ag X.K (del H1 P) (l.map λ i:Nat=>V.int (i:Int)) (l.map λ i:Nat=>D.int (i:Int)):=λ l=>by
     induction l with
     |nil=>exact .nil
     |cons x r ih=>exact .cons (.int _) ih
    exact this _
   ·have e:pF (.int j)=.bad:=if_neg hj;rw[e] at h;exact h.elim
  |_=>exact h.elim
noncomputable def Xy (lo hi:Option Int)(d:D):M OT:=match d with
 | .lst ds=>.ok (.lst (((ds.drop (HT.LH ds.length 0 lo)).take (HT.LH ds.length ds.length hi-HT.LH ds.length 0 lo)).map .sh))
 |_=>.bad
theorem Jx {lo hi:Option Expr}{o5 fh:Aa->M (Option Int)}{p2:Pos}(ha:DE X WX true e f)(hl:DO X WX true lo o5)(hh:DO X WX true hi fh):DN X WX (.Subscript e (.Slice lo hi none p2) pos) (λ ρ=>(f ρ).bind λ d=>(o5 ρ).bind λ l=>(fh ρ).bind λ u=>Xy l u d):=by
 obtain⟨ta,a1,a2⟩:=ha;obtain⟨tl,l1,l2⟩:=hl;obtain⟨th,h1,h2⟩:=hh;refine⟨_,WA Z5 a1 l1 h1,λ P0 P σ H Q ρ E h=>?_⟩;dsimp only at h;refine a2 P0 P σ H _ ρ E ?_;cases q:f ρ with
 |bad|ex x=>rw[q] at h;exact h
 |ok d =>
  rw[q] at h;intro v H1 s1 hv;refine l2 P0 P σ H1 _ ρ (E.same s1) ?_;cases q2:o5 ρ with
  |bad=>rw[q2] at h;exact h
  |ex y=>rw[q2] at h;exact λ H' s=>h H' (s1.trans s)
  |ok l =>
   rw[q2] at h;intro H2 s2;refine h2 P0 P σ H2 _ ρ ((E.same s1).same s2) ?_;cases q3:fh ρ with
   |bad=>rw[q3] at h;exact h
   |ex y=>rw[q3] at h;exact λ H' s=>h H' ((s1.trans s2).trans s)
   |ok u =>
    rw[q3] at h;simp only[M.A6] at h;intro H3 s3;unfold Xy at h;split at h
    ·cases hv with
     |lst hs hl =>
      refine⟨_,_,rfl,(s3.seq (s2.seq hs.Bj)),λ p hp=>h.HX ((s1.trans s2).trans s3) ?_ p hp⟩;unfold WB;rw[hl.length];exact ((((hl.drop _).take _).mono s2.del).mono s3.del)
    ·exact h.elim
variable {jb:List D->Aa->M Aa}{gt:D->Aa->M Aa}{es:List Expr}
end
def WP (m:M Out)(nx:Aa->Prop)(rt:Out->Prop)(ex:Str->Prop):Prop:=match m with
 | .ok (.next ρ)=>nx ρ
 | .ok o=>rt o
 | .ex x=>ex x
 | .bad=>False
section
variable {nx:Aa->Prop}{rt:Out->Prop}{ex:Str->Prop}{m:M Out}{k:Aa->M Out}{ρ ρ':Aa}
theorem D9 (h:m=.ok (.next ρ'))(hn:nx ρ'):WP m nx rt ex:=by rw[h];exact hn
theorem WP.mono {tz:Aa->Prop}{t5:Out->Prop}{l6:Str->Prop}(h:WP m nx rt ex)(h1:∀ρ,nx ρ->tz ρ)(h2:∀o,rt o->t5 o)(h3:∀x,ex x->l6 x):WP m tz t5 l6:=by
 cases m with
 |bad=>exact h
 |ex x=>exact h3 x h
 |ok o =>
  cases o with
  |next ρ=>exact h1 ρ h
  |ret d|brk d|cont d|BL d|Eh d ρ=>exact h2 _ h
theorem wp_seq (h:WP m (λ ρ=>WP (k ρ) nx rt ex) rt ex):WP (X3 m k) nx rt ex:=by
 cases m with
 |bad|ex x=>exact h
 |ok o =>
  cases o with
  |next ρ|ret d|brk d|cont d|BL d|Eh d ρ=>exact h
theorem wp_step (h:m=.ok (.next ρ'))(hk:WP (k ρ') nx rt ex):WP (X3 m k) nx rt ex:=by rw[h];exact hk
theorem C8 {I:Aa->Prop}(h:WP m I rt ex)(hk:∀ρ,I ρ->WP (k ρ) nx rt ex):WP (X3 m k) nx rt ex:=wp_seq (h.mono hk (λ _ h=>h) λ _ h=>h)
def inLoop (I:Aa->Prop)(nx:Aa->Prop)(rt:Out->Prop)(o:Out):Prop:=match o with
 | .cont ρ=>I ρ
 | .brk ρ=>nx ρ
 |o=>rt o
theorem Es {gt:D->Aa->M Aa}{gb:Aa->M Out}{ds:List D}(I:Nat->Aa->Prop)(h0:I 0 ρ)
 (step:∀i d ρ,ds[i]?=some d->I i ρ->∃ρ1,gt d ρ=.ok ρ1/\WP (gb ρ1) (I (i+1)) (inLoop (I (i+1)) nx rt) ex) (done:∀ρ,I ds.length ρ->nx ρ):WP (forM gt gb ds ρ) nx rt ex:=by
 have key:∀(n i:Nat) (ρ:Aa),i+n=ds.length->I i ρ->WP (forM gt gb (ds.drop i) ρ) nx rt ex:=by
  intro n;induction n with
  |zero =>
   intro i ρ hi h;have e:i=ds.length:=by omega
   subst e;rw[yP,forM];exact done ρ h
  |succ n ih =>
   intro i ρ hi h;have aj:i<ds.length:=by omega
   obtain⟨ρ1,h1,h2⟩:=step i ds[i] ρ (zg aj) h;rw[Ei aj,forM,h1];dsimp only;cases q:gb ρ1 with
   |bad|ex x=>rw[q] at h2;exact h2
   |ok o =>
    rw[q] at h2;cases o with
    |next ρ2=>exact ih (i+1) ρ2 (by omega) h2
    |ret d|BL d|Eh d ρ2=>exact h2
    |cont ρ2=>exact ih (i+1) ρ2 (by omega) h2
    |brk ρ2=>exact h2
 have:=key ds.length 0 ρ (by omega) h0;rw[xl] at this;exact this
theorem QB {α:Type}{c:Aa->M Bool}{b:Aa->M Out}{lt:α->α->Prop}(J:α->Aa->Prop){x:α}(hx:Acc lt x)(h0:J x ρ)
 (step:∀x ρ,J x ρ->(c ρ=.ok false/\nx ρ)\/(c ρ=.ok true/\WP (b ρ) (λ ρ2=>∃y,lt y x/\J y ρ2) (inLoop (λ ρ2=>∃y,lt y x/\J y ρ2) nx rt) ex)):WP (KN c b ρ) nx rt ex:=by
 have key:∀x,Acc lt x->∀ρ,J x ρ->∃n,Aw c b n ρ≠.bad/\WP (Aw c b n ρ) nx rt ex:=by
  intro x hx;induction hx with
  |intro x _ ih =>
   intro ρ h;rcases step x ρ h with ⟨h1,h2⟩|⟨h1,h2⟩
   ·refine⟨1,?_,?_⟩
    ·rw[Aw,h1];intro z;cases z
    ·rw[Aw,h1];exact h2
   ·cases q:b ρ with
    |bad=>rw[q] at h2;exact h2.elim
    |ex y =>
     rw[q] at h2;refine⟨1,?_,?_⟩
     ·rw[Aw,h1];dsimp only;rw[q];intro z;cases z
     ·rw[Aw,h1];dsimp only;rw[q];exact h2
    |ok o =>
     rw[q] at h2;have go:∀ρ2,(∃y,lt y x/\J y ρ2)->(∀n,Aw c b (n+1) ρ=Aw c b n ρ2)->∃n,Aw c b n ρ≠.bad/\WP (Aw c b n ρ) nx rt ex:=by
      rintro ρ2 ⟨y,hy,hJ⟩ e;obtain⟨n,h3,h4⟩:=ih y hy ρ2 hJ;exact⟨n+1,by rw[e];exact h3,by rw[e];exact h4⟩
     cases o with
     |next ρ2|cont ρ2=>exact go ρ2 h2 λ n=>by rw[Aw,h1];dsimp only;rw[q]
     |brk ρ2 =>
      refine⟨1,?_,?_⟩
      ·rw[Aw,h1];dsimp only;rw[q];intro z;cases z
      ·rw[Aw,h1];dsimp only;rw[q];exact h2
     |ret d =>
      refine⟨1,?_,?_⟩
      ·rw[Aw,h1];dsimp only;rw[q];intro z;cases z
      ·rw[Aw,h1];dsimp only;rw[q];exact h2
     |BL d =>
      refine⟨1,?_,?_⟩
      ·rw[Aw,h1];dsimp only;rw[q];intro z;cases z
      ·rw[Aw,h1];dsimp only;rw[q];exact h2
     |Eh d ρ2 =>
      refine⟨1,?_,?_⟩
      ·rw[Aw,h1];dsimp only;rw[q];intro z;cases z
      ·rw[Aw,h1];dsimp only;rw[q];exact h2
 obtain⟨n,h1,h2⟩:=key x hx ρ h0;unfold KN;have hx:∃n,Aw c b n ρ≠.bad:=⟨n,h1⟩;rw[dif_pos hx];have e:Aw c b (zo hx) ρ=Aw c b n ρ:=by
  have a:=Ci (zb hx) n;have b':=Ci h1 (zo hx);rw[Nat.add_comm] at b';rw[<-a,<-b']
 rw[e];exact h2
def tG (Q:OT->Prop)(o:Out):Prop:=match o with
 | .ret d=>Q (.sh d)
 | .BL c=>∃t,nF c=.ok t/\Q t
 |_=>False
theorem TU {Q:OT->Prop}(h:WP m (λ _=>Q (.sh .Ay)) (tG Q) (λ _=>False)):∃t,V5 m=.ok t/\Q t:=by
 cases m with
 |bad|ex x=>exact h.elim
 |ok o =>
  cases o with
  |next ρ|ret d=>exact⟨_,rfl,h⟩
  |BL c=>exact h
  |Eh c ρ|brk ρ|cont ρ=>exact h.elim
theorem Bt {t:OT}(h:WP m (λ _=>OT.sh .Ay=t) (tG (·=t)) (λ _=>False)):V5 m=.ok t:=by
 obtain⟨u,h1,h2⟩:=TU (Q:=(·=t)) h;rw[h1,h2]
def tH (Q:D->Prop)(o:Out):Prop:=match o with
 | .ret d=>Q d
 | .BL c=>∃t,qZ c=.ok t/\Q t
 |_=>False
theorem nQ {Q:D->Prop}(h:WP m (λ _=>Q .Ay) (tH Q) (λ _=>False)):∃t,fin m=.ok t/\Q t:=by
 cases m with
 |bad|ex x=>exact h.elim
 |ok o =>
  cases o with
  |next ρ|ret d=>exact⟨_,rfl,h⟩
  |BL c=>exact h
  |Eh c ρ|brk ρ|cont ρ=>exact h.elim
theorem nR {d:D}(h:WP m (λ _=>D.Ay=d) (tH (·=d)) (λ _=>False)):fin m=.ok d:=by
 obtain⟨u,h1,h2⟩:=nQ (Q:=(·=d)) h;rw[h1,h2]
end
section
variable {d:D}{ds es:List D}{ρ ρ':Aa}{o:Option Cl}{i n:Nat}{p:Option Nat}{t u:OT}{π:List Nat}{b:Bool}{ks vs:List D}{ts:List OT}{m:M D}
theorem iM:rv 0 (some (.val d)::ρ)=.ok d:=rfl
theorem iN:rv (i+1) (o::ρ)=rv i ρ:=rfl
noncomputable def QC (f:Aa->Aa)(m:M Out):M Out:=match m with
 | .ok (.next ρ)=>.ok (.next (f ρ))
 |m=>m
theorem F9 {f:Aa->Aa}:QC f (.ok (.next ρ))=.ok (.next (f ρ)):=rfl
theorem Fb:M7 0 (some (.own ds)::ρ)=.ok []:=rfl
theorem Fc:M7 0 (some (.ow (.HW n ds))::ρ)=.ok []:=rfl
theorem DJ:M7 0 (some (.ow (.tree p t))::ρ)=.ok []:=by unfold M7 Pe;simp[treeOf]
theorem O0:M7 (i+1) (o::ρ)=M7 i ρ:=rfl
theorem TV:Pe 0 (some (.own ds)::ρ) π=GN (.lst (ds.map .sh)) π:=rfl
theorem TX:Pe 0 (some (.ow (.HW n ds))::ρ) π=GN (.lst (ds.map .sh)) π:=rfl
theorem Mg:Pe 0 (some (.ow (.tree p t))::ρ) π=GN t π:=rfl
theorem Hu:N9 0 (some (.own ds)::ρ) []=.ok ds:=by unfold N9;simp[TV,BV]
theorem Hv:N9 0 (some (.ow (.HW n ds))::ρ) []=.ok ds:=by unfold N9;simp[TX,BV]
theorem Fd:N9 0 (some (.ow (.tree p (.lst (ds.map .sh))))::ρ) []=.ok ds:=by unfold N9;simp[Mg,BV]
theorem Vf:N9 (i+1) (o::ρ) π=N9 i ρ π:=rfl
theorem DK:Er 0 (some (.own ds)::ρ) []=.ok (ds.map .sh):=by unfold Er;simp[TV]
theorem DL:Er 0 (some (.ow (.HW n ds))::ρ) []=.ok (ds.map .sh):=by unfold Er;simp[TX]
theorem CT:Er 0 (some (.ow (.tree p (.lst ts)))::ρ) []=.ok ts:=by unfold Er;simp[Mg]
theorem K6:Er (i+1) (o::ρ) π=Er i ρ π:=rfl
theorem BN:Gp 0 (some (.ow (.tree p (.B8 b ks (vs.map .sh))))::ρ) []=.ok (b,ks,vs):=by unfold Gp;simp[Mg,BV]
theorem K7:Gp (i+1) (o::ρ) π=Gp i ρ π:=rfl
theorem Fe:EU 0 (some (.own ds)::ρ) [] u=.ok (.next (some (toCl none u)::ρ)):=by unfold EU;simp[treeOf]
theorem Ff:EU 0 (some (.ow (.HW n ds))::ρ) [] u=.ok (.next (some (toCl (some n) u)::ρ)):=by unfold EU;simp[treeOf]
theorem DM:EU 0 (some (.ow (.tree p t))::ρ) π u=.ok (.next (some (toCl p (Dv t π u))::ρ)):=by unfold EU;simp[treeOf]
theorem O1:EU (i+1) (o::ρ) π u=QC (o::·) (EU i ρ π u):=by
 unfold EU QC;simp only[zP,zy];split
 ·rename_i c e;split<;>simp_all
 ·simp_all
theorem Fg:UT 0 (some (.own ds)::ρ) (.ok d)=if ds.length<1000 then .ok (.next (some (.own (ds++[d]))::ρ)) else .bad:=rfl
theorem O2:UT (i+1) (o::ρ) m=QC (o::·) (UT i ρ m):=by
 unfold UT;rw[zP];cases q:ρ[i]? with
 |none=>rfl
 |some oo =>
  cases oo with
  |none=>rfl
  |some c =>
   cases c with
   |own ds =>
    cases m with
    |ok d =>
     simp only[M.A6,zy];by_cases h:ds.length<1000
     ·rw[if_pos h,if_pos h];rfl
     ·rw[if_neg h,if_neg h];rfl
    |ex x|bad=>rfl
   |val d|ow w=>rfl
theorem Fh {j:Int}:V1 0 (some (.own ds)::ρ) (.ok (.int j)) (.ok d)=if 0<=j/\j.toNat<=ds.length/\ds.length<1000 then .ok (.next (some (.own (ds.take j.toNat++d::ds.drop j.toNat))::ρ)) else .bad:=rfl
theorem O3 {m2:M D}:V1 (i+1) (o::ρ) m m2=QC (o::·) (V1 i ρ m m2):=by
 unfold V1;rw[zP];cases q:ρ[i]? with
 |none=>rfl
 |some oo =>
  cases oo with
  |none=>rfl
  |some c =>
   cases c with
   |own ds =>
    cases m with
    |ok d =>
     cases m2 with
     |ok d2 =>
      simp only[M.A6,zy];cases d with
      |int j =>
       dsimp only;by_cases h:0<=j/\j.toNat<=ds.length/\ds.length<1000
       ·rw[if_pos h,if_pos h];rfl
       ·rw[if_neg h,if_neg h];rfl
      |_=>rfl
     |ex x|bad=>rfl
    |ex x|bad=>rfl
   |val d|ow w=>rfl
theorem Fi:Sg 0 (some (.val d)::ρ)=.ok (.ret d):=rfl
theorem Fj:Sg 0 (some (.own ds)::ρ)=.ok (.BL (.own ds)):=rfl
theorem Hw {w:Ow}:Sg 0 (some (.ow w)::ρ)=.ok (.BL (.ow w)):=rfl
theorem O4:Sg (i+1) (o::ρ)=Sg i ρ:=rfl
theorem tI:rA i ρ π=match Pe i ρ π with | some (.sh d)=>.ok d | _=>.bad:=rfl
theorem Vg:Xn (i+1) (o::ρ)=o::Xn i ρ:=by
 unfold Xn;simp only[zP,zy];split<;>simp_all
theorem Vh {c:Cl}:Xn 0 (some c::ρ)=some (L8 c)::ρ:=rfl
theorem Fl:L8 (.val d)=.val d:=rfl
theorem Fm:L8 (.own ds)=.val (.lst ds):=rfl
theorem Fn:L8 (.ow (.HW n ds))=.val (.lst ds):=rfl
theorem Hx:L8 (.ow (.tree p t))=.val (er t):=rfl
theorem Di:er (.B8 b ks (vs.map .sh))=.B8 b ks vs:=by rw[er,Sh]
theorem Et:er (.lst (ds.map .sh))=.lst ds:=by rw[er,Sh]
theorem Mh:er (.sh d)=d:=rfl
theorem kN {l:List (Option Nat)}:B2 (none::l) ρ=none::B2 l ρ:=rfl
theorem kO:B2 [] ρ=[]:=rfl
theorem Vi {l:List (Option Nat)}:B2 (some i::l) ρ=(match ρ[i]? with | some (some (.val d))=>some (.val d) | _=>none)::B2 l ρ:=rfl
theorem Vj {nx:Aa->Prop}{rt:Out->Prop}{ex:Str->Prop}{gt:D->Aa->M Aa}{gb:Aa->M Out}(h:ρ[i]?=some (some (.own ds)))(hn:BK n ρ=true)(I:Nat->Aa->Prop)(h0:I 0 (ρ.set i (some (.ow (.HW n ds)))))(hI:∀k ρ,I k ρ->GR i n ds ρ)
 (step:∀k d ρ,ds[k]?=some d->I k ρ->∃ρ1,gt d ρ=.ok ρ1/\WP (gb ρ1) (I (k+1)) (λ o=>match o with | .cont ρ=>I (k+1) ρ | .ret d=>rt (.ret d) | .BL c=>rt (.BL c)|_=>False) ex)
 (done:∀ρ,I ds.length ρ->BK n (ρ.set i (some (.own ds)))=true/\nx (ρ.set i (some (.own ds)))):WP (Ph i n gt gb ρ) nx rt ex:=by
 unfold Ph;simp only[h,if_pos hn];have key:∀(r k:Nat) (ρ:Aa),k+r=ds.length->I k ρ->WP (Mf i n ds (forM (Sn i n ds gt) gb (ds.drop k) ρ)) nx rt ex:=by
  intro r;induction r with
  |zero =>
   intro k ρ hk hi;have e:k=ds.length:=by omega
   subst e;rw[yP,forM];have hd:=done ρ hi;have e2:Mf i n ds (.ok (.next ρ))=.ok (.next (ρ.set i (some (.own ds)))):=if_pos ⟨hI _ _ hi,hd.1⟩;rw[e2];exact hd.2
  |succ r ih =>
   intro k ρ hk hi;have aj:k<ds.length:=by omega
   obtain⟨ρ1,h1,h2⟩:=step k ds[k] ρ (zg aj) hi;have e2:Sn i n ds gt ds[k] ρ=.ok ρ1:=(if_pos (hI _ _ hi)).trans h1;rw[Ei aj,forM,e2];dsimp only;cases q:gb ρ1 with
   |bad|ex x=>rw[q] at h2;exact h2
   |ok oo =>
    rw[q] at h2;cases oo with
    |next ρ2|cont ρ2=>exact ih (k+1) ρ2 (by omega) h2
    |ret d|BL c=>exact h2
    |Eh _ _|brk _=>exact h2.elim
 have:=key ds.length 0 _ (by omega) h0;rw[xl] at this;exact this
theorem Vk {α:Type}{x y:α}:(if ([]:List D).length<=1000 then x else y)=x:=if_pos (by show 0<=1000;decide)
theorem Vl {α:Type}{x y:α}{a:D}:(if [a].length<=1000 then x else y)=x:=if_pos (by show 1<=1000;decide)
theorem Vm {α:Type}{x y:α}{a b:D}:(if [a,b].length<=1000 then x else y)=x:=if_pos (by show 2<=1000;decide)
theorem Vn {α:Type}{x y:α}{a b c:D}:(if [a,b,c].length<=1000 then x else y)=x:=if_pos (by show 3<=1000;decide)
theorem Vo {α:Type}{x y:α}{a b c d:D}:(if [a,b,c,d].length<=1000 then x else y)=x:=if_pos (by show 4<=1000;decide)
theorem toCl_nil:toCl none (.lst [])=.own []:=rfl
theorem CU {α:Type}{gt:D->Aa->M Aa}{ft:Aa->M Bool}{fe:Aa->M D}{g:α->D}(p:α->Bool)(f:α->D):∀ {l:List α},(∀x∈l,∃ρ1,gt (g x) ρ=.ok ρ1/\ft ρ1=.ok (p x)/\(p x=true->fe ρ1=.ok (f x)))->AM gt ft fe (l.map g) ρ=.ok ((l.filter p).map f)
 |[],_=>rfl
 |x::r,h=>by
  obtain⟨ρ1,h1,h2,h3⟩:=h x zc;have ih:=CU (gt:=gt) (ft:=ft) (fe:=fe) (g:=g) p f (l:=r) λ y hy=>h y (zf _ hy);rw[zh,AM,h1];dsimp only;rw[h2];dsimp only;rw[List.filter_cons];cases hp:p x with
  |true =>
   rw[if_pos rfl,h3 hp];dsimp only;rw[ih];simp
  |false=>simp[ih]
theorem CV {α:Type}{gt:D->Aa->M Aa}{ft:Aa->M Bool}{fe:Aa->M D}{g:α->D}(f:α->D){l:List α}(h:∀x∈l,∃ρ1,gt (g x) ρ=.ok ρ1/\ft ρ1=.ok true/\fe ρ1=.ok (f x)):AM gt ft fe (l.map g) ρ=.ok (l.map f):=by
 have:=CU (gt:=gt) (ft:=ft) (fe:=fe) (ρ:=ρ) (g:=g) (λ _=>true) f (l:=l) λ x hx=>by
  obtain⟨ρ1,h1,h2,h3⟩:=h x hx;exact⟨ρ1,h1,h2,λ _=>h3⟩
 rw[this,List.filter_eq_self.mpr (λ _ _=>rfl)]
theorem Cu {α:Type}{g:α->D}{l:List α}{i:Nat}{d:D}(h:(l.map g)[i]?=some d):∃x,l[i]?=some x/\d=g x:=by
 rw[zw] at h;cases q:l[i]? with
 |none=>rw[q] at h;cases h
 |some x=>rw[q] at h;cases h;exact⟨x,rfl,rfl⟩
theorem K8:ZE (.lst (ds.map .sh))=.ok ds:=by unfold ZE;simp[BV,Nl]
theorem DQ {α:Type}{x:α}:Nl (some x)=.ok x:=rfl
theorem Hy:Sf i ρ (.sh d)=.ok (.next (ρ.set i (some (.val d)))):=rfl
theorem Fo:Sf i ρ (.lst ts)=.ok (.next (ρ.set i (some (toCl none (.lst ts))))):=rfl
theorem Fp:Sf i ρ (.tup ts)=.ok (.next (ρ.set i (some (.ow (.tree none (.tup ts)))))):=rfl
theorem Fq:Sf i ρ (.B8 b ks ts)=.ok (.next (ρ.set i (some (.ow (.tree none (.B8 b ks ts)))))):=rfl
theorem Fs {x:Str}{ns:List Str}:Sf i ρ (.ins x ns ts)=.ok (.next (ρ.set i (some (.ow (.tree none (.ins x ns ts)))))):=rfl
theorem Hz:V6 (.sh d)=.ok (.ret d):=rfl
theorem Ft:V6 (.lst ts)=.ok (.BL (.ow (.tree none (.lst ts)))):=rfl
theorem Fu:V6 (.tup ts)=.ok (.BL (.ow (.tree none (.tup ts)))):=rfl
theorem Fv:V6 (.B8 b ks ts)=.ok (.BL (.ow (.tree none (.B8 b ks ts)))):=rfl
theorem QD {α:Type}{f:α->D}(h:∀x,JP (f x)=true):∀l:List α,Jn (l.map f)=true
 |[]=>by simp[Jn]
 |x::r=>by rw[zh,Jn,h x,QD h r];rfl
theorem QE:∀ds:List D,BI (ds.map .sh)=Jn ds
 |[]=>by simp[Jn,BI]
 |d::r=>by rw[zh,BI,Ct,QE r,Jn]
theorem iO (h:JP d=true):Se (.ok (.sh d))=.ok (.sh d):=by unfold Se;simp[Ct,h]
theorem ZI (h:Jn ds=true):Se (.ok (.lst (ds.map .sh)))=.ok (.lst (ds.map .sh)):=by unfold Se;simp[Ct,QE,h]
theorem ZJ {i:Int}:JP (.int i)=true:=by simp[JP]
theorem Xz:Dx (.lst ds)=.ok (!ds.isEmpty):=rfl
theorem iP {a s m:Int}(h0:0<=a)(h1:a<m)(s0:1<=s)(s1:s<m):(a+s)%m≠a:=by
 by_cases h:a+s<m
 ·rw[Int.emod_eq_of_lt (by omega) h];omega
 ·have e:(a+s)%m=(a+s-m)%m:=by rw[Int.sub_emod_right]
  rw[e,Int.emod_eq_of_lt (by omega) (by omega)];omega
theorem HA {k:Nat}(i j:Int):Zl k (.int i) (.int j)=.ok (.bl (decide (i=j))):=by
 rw[Sa (C7 _) (C7 _)];simp only[Av,Bool.beq_eq_decide_eq]
theorem HB {k:Nat}(i j:Int):WV k (.int i) (.int j)=.ok (.bl (!decide (i=j))):=by
 rw[Sb (C7 _) (C7 _)];simp only[Av,Bool.beq_eq_decide_eq]
theorem Fw {i j:Int}:WU (.int i) (.int j)=.ok (.int (i+j)):=rfl
theorem Fx {i j:Int}:gW (.int i) (.int j)=.ok (.int (i-j)):=rfl
theorem HC {i j:Int}:uH (.int i) (.int j)=.ok (.bl (decide (i<j))):=rfl
theorem HD {i j:Int}:uI (.int i) (.int j)=.ok (.bl (decide (i<=j))):=rfl
theorem HE {i j:Int}:sX (.int i) (.int j)=.ok (.bl (decide (j<i))):=rfl
theorem HF {i j:Int}:uJ (.int i) (.int j)=.ok (.bl (decide (j<=i))):=rfl
theorem HG {i:Int}:sY (.int i)=.ok (some i):=rfl
theorem Fy:UR [.lst ds]=.ok (.int ds.length):=rfl
theorem Fz:UR [.tup ds]=.ok (.int ds.length):=rfl
theorem ite_tt {α:Type}{x y:α}:(if true=true then x else y)=x:=rfl
theorem ite_ff {α:Type}{x y:α}:(if false=true then x else y)=y:=rfl
theorem Sq {lo hi:Option Int}{x:D}(h:dY lo hi x=.ok (.lst ds)):Xy lo hi x=.ok (.lst (ds.map .sh)):=by
 unfold dY at h;unfold Xy;cases x with
 |lst xs=>dsimp only at h ⊢;injection h with h;injection h with h;rw[h]
 |_=>cases h
theorem QF (xs:List D)(k:Nat):Xy none (some (k:Int)) (.lst xs)=.ok (.lst ((xs.take k).map .sh)):=Sq (X8 xs k)
theorem XA (xs:List D)(k:Nat):Xy (some (k:Int)) none (.lst xs)=.ok (.lst ((xs.drop k).map .sh)):=Sq (Xc xs k)
theorem ZK (xs:List D)(a b:Nat):Xy (some (a:Int)) (some (b:Int)) (.lst xs)=.ok (.lst (((xs.drop a).take (b-a)).map .sh)):=Sq (Zs xs a b)
theorem FA:HX (.lst ds)=.ok (.lst (ds.map .sh)):=rfl
theorem FC:HX (.tup ds)=.ok (.lst (ds.map .sh)):=rfl
theorem DR {ns:List Int}:Xx [.lst (ns.map D.int)]=.ok (.int ns.sum):=by unfold Xx;dsimp only;rw[DD]
theorem DU {T:String}:Jh T (.lst ds)=.ok (.bl (EI T (.lst ds))):=rfl
theorem DV {T:String}:Jh T (.tup ds)=.ok (.bl (EI T (.tup ds))):=rfl
theorem DY {T:String}{k:Int}:Jh T (.int k)=.ok (.bl (EI T (.int k))):=rfl
theorem DZ {T:String}:Jh T .Ay=.ok (.bl (EI T .Ay)):=rfl
theorem FD {T:String}{k:Bool}:Jh T (.bl k)=.ok (.bl (EI T (.bl k))):=rfl
theorem E5 {T:String}{k:Str}:Jh T (.str k)=.ok (.bl (EI T (.str k))):=rfl
theorem E6 {T:String}:Jh T (.B8 b ks vs)=.ok (.bl (EI T (.B8 b ks vs))):=rfl
theorem O5:EI "list" (.lst ds)=true:=rfl
theorem O6:EI "tuple" (.tup ds)=true:=rfl
theorem O7 {k:Int}:EI "int" (.int k)=true:=rfl
theorem O8 {k:Int}:EI "bool" (.int k)=false:=rfl
theorem O9:EI "dict" (.B8 b ks vs)=true:=rfl
theorem E7 {neg:Bool}{k:Int}{ns:List Int}:Nk neg (.int k) (.lst (ns.map D.int))=.ok (.bl (if neg then !ns.contains k else ns.contains k)):=by
 unfold Nk pC;dsimp only;rw[DD]
noncomputable def vO (s:Option D):Option Cl:=s.map .val
theorem Oa:BK n []=true:=rfl
theorem Mi:BK n (none::ρ)=BK n ρ:=rfl
theorem Ob:BK n (some (.val d)::ρ)=BK n ρ:=rfl
theorem Oc:BK n (some (.own ds)::ρ)=BK n ρ:=rfl
theorem Mj:BK n (some (.ow (.tree none t))::ρ)=BK n ρ:=rfl
theorem HH {k:Nat}(h:k≠n):BK n (some (.ow (.HW k ds))::ρ)=BK n ρ:=by
 unfold BK;rw[xt];simp[Ia,h]
theorem QG {s:Option D}:BK n (vO s::ρ)=BK n ρ:=by cases s<;>rfl
theorem HI {s:Option D}:HY (vO s::ρ)=vO s::HY ρ:=by cases s<;>rfl
end
noncomputable def Sr (x:Int):List Int->List Int
 |[]=>[x]
 |y::r=>if x<=y then x::y::r else y::Sr x r
noncomputable def Gq:List Int->List Int
 |[]=>[]
 |x::r=>Sr x (Gq r)
theorem K9 (x:Int):∀l:List Int,(Sr x l).Perm (x::l)
 |[]=>.refl _
 |y::r=>by
  unfold Sr;split
  ·exact .refl _
  ·exact ((K9 x r).cons y).trans (.swap x y r)
theorem Eu:∀l:List Int,(Gq l).Perm l
 |[]=>.refl _
 |x::r=>(K9 x (Gq r)).trans ((Eu r).cons x)
theorem KO (x:Int):∀l:List Int,l.Pairwise (·<=·)->(Sr x l).Pairwise (·<=·)
 |[],_=>by simp[Sr]
 |y::r,h=>by
  unfold Sr;have hy:=yo.mp h;split
  ·rename_i bX;exact yo.mpr ⟨λ z hz=>by
    rcases zq.mp hz with rfl|hz
    ·exact bX
    ·exact Int.le_trans bX (hy.1 z hz),h⟩
  ·rename_i bX;exact yo.mpr ⟨λ z hz=>by
    rcases zq.mp ((K9 x r).mem_iff.mp hz) with rfl|hz
    ·omega
    ·exact hy.1 z hz,KO x r hy.2⟩
theorem FX:∀l:List Int,(Gq l).Pairwise (·<=·)
 |[]=>.nil
 |x::r=>KO x _ (FX r)
theorem GS:∀ {a b:List Int},a.Perm b->a.Pairwise (·<=·)->b.Pairwise (·<=·)->a=b
 |[],b,hp,_,_=>(List.nil_perm.mp hp).symm
 |x::r,[],hp,_,_=>by have:=hp.length_eq;simp at this
 |x::r,y::t,hp,ha,hb=>by
  have jp:=yo.mp ha;have a9:=yo.mp hb;have e:x=y:=by
   have h1:x∈y::t:=hp.mem_iff.mp (zc ..);have h2:y∈x::r:=hp.mem_iff.mpr (zc ..);rcases zq.mp h1 with e|h1
   ·exact e
   rcases zq.mp h2 with e|h2
   ·exact e.symm
   have:=jp.1 _ h2;have:=a9.1 _ h1;omega
  subst e;rw[GS (List.Perm.cons_inv hp) jp.2 a9.2]
theorem Jy:∀ {us:List Value}{ns:List Int},IntsAre us ns->Vals (ns.map V.int) us
 |_,_,.nil=>.nil
 |_,_,.cons n t h=>.cons ⟨t,rfl⟩ (Jy h)
theorem Ml {K:za}{H:Hp}:∀l:List Int,Ag K H (l.map V.int) (l.map D.int)
 |[]=>.nil
 |x::r=>.cons (.int _) (Ml r)
section
variable {X:Cx}{WX:Str->Hp->Prop}{c:Bool}{P0:Df}{P:Addr->Prop}{H:Hp}{σ:St}{ρ:Aa}{a b e:Expr}{f g:Aa->M D}{fn:Aa->M OT}{pos:Pos}{te:TE}
noncomputable def rD (X:Cx)(te:TE):TE:=λ σ H Q=>te σ H λ x H1=>∃p ns,x=.ref p/\Dt X.K H1 p (List.map V.int ns)/\ns.length<64/\∀r,H1 r=none->Q (.ref r) (upd H1 r (.lst ((Gq ns).map V.int)))
theorem Vp {p:Pos}(hc:X.calm=true)(hg:Gl X "sorted")(hm:X.mg "sorted" = none)(he:PE X e te)
 (hv:bootBuiltins "sorted" = some (.builtin "sorted"):=by decide +kernel)
 (hs:starEach [e] X.env=[(false,eval e X.env)]:=by rfl):
 PE X (.Call (.Name "sorted" p) [e] [] pos) (rD X te):=by
 intro pins s σ H Q I h;refine wpAny_Call_Name_kw (Dh I hg hm hv ?_);refine yU ?_ hs;rw[hs];refine yR (Bb (he pins s σ H _ I h) λ u s1 ⟨x,H1,I1,r1,q1⟩=>?_);obtain⟨q,ns,rfl,hq,jq,h⟩:=q1;cases r1;refine xa ?_;obtain⟨aa,r',pl,hz⟩:=I1.list hq;have hi:=intsAre_of r';have o6:=r'.length;rw[ze] at o6;refine sorted_ints pl.isList hi (by omega) λ out cG b1 b2 b3=>?_;obtain⟨c',aF⟩:=sortedAll_at s1.heap aa out;have e:cG=Gq ns:=GS (b2.trans (Eu ns).symm) b3 (FX ns);subst e;refine⟨.ref _,_,I1.laid (t':=s1.toks) (o:=.lst ((Gq ns).map V.int)) (λ b o e=>sortedAll_old e) (Nat.le_succ _) ⟨?_,out.toList,c',Jy b1,by simpa using aF⟩,rfl,h _ (I1.Ar.fresh (Nat.le_succ _))⟩;rw[ze,(Eu ns).length_eq];exact yd (AA (by omega))
noncomputable def ZL (d:D):M OT:=match d with
 | .lst xs=>(match Cg xs with|some ns=>if ns.length<64 then .ok (.lst (((Gq ns).map .int).map .sh)) else .bad|none=>.bad)
 |_=>.bad
theorem Vq {ns:List Int}(h:ns.length<64):ZL (.lst (ns.map .int))=.ok (.lst (((Gq ns).map .int).map .sh)):=by
 unfold ZL;dsimp only;rw[DD];dsimp only;rw[if_pos h]
theorem Vr {p:Pos}(hc:X.calm=true)(hg:Gl X "sorted")(hm:X.mg "sorted" = none)(he:DE X WX true e f)
 (hv:bootBuiltins "sorted" = some (.builtin "sorted"):=by decide +kernel)
 (hs:starEach [e] X.env=[(false,eval e X.env)]:=by rfl):
 DN X WX (.Call (.Name "sorted" p) [e] [] pos) (λ ρ=>(f ρ).bind ZL):=by
 obtain⟨te,e1,e2⟩:=he;refine⟨_,Vp hc hg hm e1 hv hs,λ P0 P σ H Q ρ E h=>?_⟩;refine e2 P0 P σ H _ ρ E ?_;dsimp only at h;cases q:f ρ with
 |bad|ex x=>rw[q] at h;exact h
 |ok d =>
  rw[q] at h;simp only[M.A6] at h;intro v H1 s1 hv;unfold ZL at h;split at h
  ·rename_i xs;split at h
   ·rename_i ns eb;have:=CQ eb;subst this;split at h
    ·rename_i hl;cases hv with
     |lst hs hh =>
      have:=CS hh;subst this;exact⟨_,ns,rfl,hs.Bj,hl,h.HX s1 (Ml _)⟩
    ·exact h.elim
   ·exact h.elim
  ·exact h.elim
noncomputable def ZM (d k:D):M OT:=match k with
 | .int j=>if 0<=j/\j.toNat<=1000 then .ok (.lst ((zD j.toNat d).map .sh)) else .bad
 |_=>.bad
theorem XB {d:D}{n:Nat}(h:n<=1000):ZM d (.int (n:Int))=.ok (.lst ((zD n d).map .sh)):=by
 unfold ZM;dsimp only;rw[if_pos ⟨by omega,by omega⟩,y9]
theorem iQ {o9:Pos}(ha:DE X WX true a f)(hb:DE X WX true b g)(bc:starEach [a] X.env=[(false,eval a X.env)]:=by rfl):
 DN X WX (.BinOp (.List [a] o9) .Mult b pos) (λ ρ=>(f ρ).bind λ d=>(g ρ).bind λ k=>ZM d k):=by
 obtain⟨ta,a1,a2⟩:=ha;obtain⟨tb,b1,b2⟩:=hb;refine⟨_,dO gM (RM (Bc a1 C4 bc)) b1,λ P0 P σ H Q ρ E h=>?_⟩;dsimp only at h;refine a2 P0 P σ H _ ρ E ?_;cases q:f ρ with
 |bad|ex x=>rw[q] at h;exact h
 |ok d =>
  rw[q] at h;simp only[M.A6] at h;intro v H1 s1 hv;have E1:=E.same s1;refine⟨yd (AA (by simp)),λ p hp=>?_⟩;have s2:Ad H1 (upd H1 p (.lst [v])):=AK hp _;have E2:=E1.same s2;refine b2 P0 P σ _ _ ρ E2 ?_;cases q2:g ρ with
  |bad=>rw[q2] at h;exact h
  |ex x=>rw[q2] at h;exact λ H' s3=>h H' ((s1.trans s2).trans s3)
  |ok k =>
   rw[q2] at h;simp only[M.A6] at h;unfold ZM at h;intro w H3 s3 hw;cases k with
   |int j =>
    dsimp only at h;by_cases hj:0<=j/\j.toNat<=1000
    ·rw[if_pos hj] at h;cases hw;refine⟨p,j,[v],rfl,rfl,s3 _ _ Al,by omega,by omega,yd (AA (by simp;omega)),?_⟩;rw[NS];exact h.HX ((s1.trans s2).trans s3) (Qq ((hv.mono s2.del).mono s3.del) j.toNat)
    ·rw[if_neg hj] at h;exact h.elim
   |_=>exact h.elim
end
noncomputable def ZN (f:Str):List Str->List D->Option D
 |n::ns,d::ds=>if f==n then some d else ZN f ns ds
 |_,_=>none
theorem QH {K:za}{H:Hp}{f:Str}:∀ {fs:List (Str×V)}{ds:List D}{d:D},Ag K H (fs.map yz) ds->ZN f (fs.map zS) ds=some d->∃v,fs.lookup f=some v/\Bw K H v d
 |[],ds,d,_,h=>by simp[ZN] at h
 |(n,v)::fs,_,d,.cons hv ht,h=>by
  rw[zh,ZN] at h;rw[xh];cases q:f==n with
  |true=>rw[q,if_pos rfl] at h;cases h;exact⟨v,rfl,hv⟩
  |false=>rw[q,if_neg (by simp)] at h;exact QH ht h
theorem Mm {K:za}{H:Hp}{f:Str}:∀ {fs:List (Str×V)}{ds:List D},Ag K H (fs.map yz) ds->ZN f (fs.map zS) ds=none->fs.lookup f=none
 |[],ds,_,h=>rfl
 |(n,v)::fs,_,.cons hv ht,h=>by
  rw[zh,ZN] at h;rw[xh];cases q:f==n with
  |true=>rw[q,if_pos rfl] at h;cases h
  |false=>rw[q,if_neg (by simp)] at h;exact Mm ht h
structure Ib (K:za)(x f:Str):Prop where
 ex:∃C,zd K mainGlobals x=some (some (.ref C))/\UE K C/\Io K C f
noncomputable def Ka (cs:List Str)(f:Str)(d:D):M D:=match d with
 | .ins x ns ds=>if x∈cs then (match ZN f ns ds with|some e=>.ok e|none=>.bad) else .bad
 |_=>.bad
section
variable {X:Cx}{E:XK}{WX:Str->Hp->Prop}{c:Bool}{P0:Df}{P:Addr->Prop}{H:Hp}{σ:St}{ρ:Aa}{a b e:Expr}{es:List Expr}{f g:Aa->M D}{fs:Aa->M (List D)}{fn:Aa->M OT}{pos:Pos}{te:TE}
theorem Dj (cs:List Str){fl:Str}(pc:∀x∈cs,Ib X.K x fl)(ha:DE X WX c a f)(hb:attributeBase a fl X.env (eval a X.env)=eval a X.env:=by rfl):DE X WX c (.Attribute a fl pos) (λ ρ=>(f ρ).bind (Ka cs fl)):=by
 obtain⟨ta,a1,a2⟩:=ha;refine⟨_,fX a1 hb,λ P0 P σ H Q ρ E h=>?_⟩;dsimp only at h;refine a2 P0 P σ H _ ρ E ?_;cases e:f ρ with
 |bad|ex x=>rw[e] at h;exact h
 |ok d =>
  rw[e] at h;simp only[M.A6] at h;intro v H1 s1 hv;unfold Ka at h;split at h
  ·rename_i x ns ds;split at h
   ·rename_i hx;split at h
    ·rename_i d' el;cases hv with
     |ins hn ha hl =>
      obtain⟨C,bP,hc,jr⟩:=(pc x hx).ex;rw[hn] at bP;cases bP;obtain⟨v',l1,l2⟩:=QH hl el;exact⟨_,_,_,_,v',rfl,(Aj ha).2,hc,jr,l1,h v' H1 s1 l2⟩
    ·exact h.elim
   ·exact h.elim
  ·exact h.elim
structure KQ (K:za)(x m qual:Str)(st:Stmt)(ps:List Str):Prop where
 ex:∃C f fd,zd K mainGlobals x=some (some (.ref C))/\UE K C/\Meth K C m f/\W6 K m qual st f fd/\Binds K fd ps []
structure FY (P:Program)(w:World)(K:za)(mg:Str->Option Value)(base:Heap)(x m:Str)(k n:Nat)(F:List D->M OT):Prop where
 ex:∃C fa fd ps,zd K mainGlobals x=some (some (.ref C))/\UE K C/\Meth K C m fa/\CG P w K mg base (RB P w base) k fa fd ps (spT K n F)/\Binds K fd ps []
theorem HJ {P:Program}{w:World}{K:za}{mg:Str->Option Value}{base:Heap}{x m qual:Str}{st:Stmt}{N ps:List Str}{k n:Nat}(T:KQ K x m qual st ps)(S:Am N ps (A5 st))(g:Aa->M Out)
 (hb:∀(f:Addr) (B7:Value) (A:Around) (outer:List Env) (s:Shared) (H:Hp) (E:XK),Bn k (A.deeper (envOfC qual (A5 st) s.heap.objs.size f B7))->Qn (TB P w K mg base N qual (A5 st) f B7 A outer s H E) (Cm K E) (Az st) g) (hn:ps.length=n:=by rfl):
 FY P w K mg base x m (k+1) n (λ ds=>V5 (g (AI N ds))):=by
 obtain⟨C,f,fd,h1,h2,h3,F,hB⟩:=T.ex;subst hn;exact⟨⟨C,f,fd,ps,h1,h2,h3,nG F S g (hb f),hB⟩⟩
noncomputable def pG (x:Str):List (Str×(List D->M OT))->Option (List D->M OT)
 |[]=>none
 |(y,F)::r=>if x=y then some F else pG x r
theorem TY {x:Str}{F:List D->M OT}:∀ {ms:List (Str×(List D->M OT))},pG x ms=some F->(x,F)∈ms
 |[],h=>by cases h
 |(y,G)::r,h=>by
  unfold pG at h;split at h
  ·rename_i e;cases h;subst e;exact zc
  ·exact zf _ (TY h)
noncomputable def IE (ms:List (Str×(List D->M OT)))(m:Str)(d:D):M (List D->M OT):=match d with
 | .ins x ns es=>(match pG x ms with
  |some F=>(match ZN m ns es with|none=>.ok F|some _=>.bad)
  |none=>.bad)
 |_=>.bad
theorem QI {ms:List (Str×(List D->M OT))}{m:Str}{d:D}{F:List D->M OT}(h:IE ms m d=.ok F):∃x ns es,d=.ins x ns es/\(x,F)∈ms/\ZN m ns es=none:=by
 unfold IE at h;split at h
 ·rename_i x ns es;split at h
  ·rename_i G e;split at h
   ·rename_i e2;cases h;exact⟨x,ns,es,rfl,TY e,e2⟩
   ·cases h
  ·cases h
 ·cases h
theorem Od {ms:List (Str×(List D->M OT))}{m:Str}{d:D}{x:Str}:IE ms m d≠.ex x:=λ h=>by
 unfold IE at h;split at h
 ·split at h
  ·split at h<;>cases h
  ·cases h
 ·cases h
noncomputable def XC (X:Cx)(m:Str)(k:Nat)(E:XK)(ta:TE)(t:TA):TE:=λ σ H Q=>ta σ H λ x H1=>∃a C dx fs f fd ps n F,x=.ref a/\H1 a=some (.ins C dx fs)/\fs.lookup m=none/\UE X.K C/\Meth X.K C m f/\CG X.prog X.w X.K X.mg X.base (RB X.prog X.w X.base) k f fd ps (spT X.K n F)/\Binds X.K fd ps []/\
 t σ H1 λ vs H2=>spT X.K n F (x::vs) H2 Q E
theorem XD {pl:Sem Bool}{o:Expr}{m:Str}{k:Nat}{ta:TE}{t:TA}{apos:Pos}(he:PE X o ta)(hr:Bn k X.A)(hx:EQ (RB X.prog X.w X.base) X E)(ha:PA X (e::es) t)
 (bc:starEach (e::es) X.env=(false,eval e X.env)::starEach es X.env:=by rfl) (a5:(backTo pos (starEach es X.env)).any (·.1)=false:=by rfl)
 (ht:eval (.Call (.Attribute o m apos) (e::es) [] pos) X.env=(do
  let ov <-eval o X.env
  standAt apos.atName
  let (f,first) <-holding [ov] (getMethod ov m pl)
  callWith pos f first (backTo pos (starEach (e::es) X.env)) (backToKw pos (keywordEach [] X.env))):=by rfl):
 PE X (.Call (.Attribute o m apos) (e::es) [] pos) (XC X m k E ta t):=by
 intro pins s σ H Q I h;refine PySem.W.methodCall_KW (pl:=pl) (Bb (he pins s σ H _ I h) λ u s1 ⟨x,H1,I1,rx,a,C,dx,fs,f,fd,ps,n,F,ex,ea,l,c,hm,hF,hb,q⟩=>?_) ht;subst ex;obtain rfl:u=zK a:=rx;refine LD I1 ea c hm l ?_;refine PySem.W.callWith_K (first:=[.ref a]) (h₀:=X.base) I.ok.mod.eX hm.kp (Bb (ha pos pins s1 σ H1 _ I1 q) λ us s2 ⟨vs,H2,I2,r,q2⟩=>⟨I2.L3,?_⟩) bc a5;exact RP (us:=.ref a::us) (vs:=.ref a::vs) hF hr hb .nil hx I2 (.cons rfl r) (by rw[zX];exact q2)
theorem Vs {pl:Sem Bool}{o:Expr}{m:Str}{k:Nat}{ta:TE}{apos:Pos}(he:PE X o ta)(hr:Bn k X.A)(hx:EQ (RB X.prog X.w X.base) X E)
 (ht:eval (.Call (.Attribute o m apos) [] [] pos) X.env=(do
  let ov <-eval o X.env
  standAt apos.atName
  let (f,first) <-holding [ov] (getMethod ov m pl)
  callWith pos f first (backTo pos (starEach [] X.env)) (backToKw pos (keywordEach [] X.env))):=by rfl):
 PE X (.Call (.Attribute o m apos) [] [] pos) (XC X m k E ta fZ):=by
 intro pins s σ H Q I h;refine PySem.W.methodCall_KW (pl:=pl) (Bb (he pins s σ H _ I h) λ u s1 ⟨x,H1,I1,rx,a,C,dx,fs,f,fd,ps,n,F,ex,ea,l,c,hm,hF,hb,q⟩=>?_) ht;subst ex;obtain rfl:u=zK a:=rx;refine LD I1 ea c hm l ?_;exact PySem.W.callWith_K0 (first:=[.ref a]) I1.L3 hm.kp (RP (us:=[.ref a]) (vs:=[.ref a]) hF hr hb .nil hx I1 (.cons rfl .nil) q)
theorem TZ {P:Program}{w:World}{K:za}{mg:Str->Option Value}{base:Heap}{CX:RN}{k k':Nat}{f:Addr}{fd:FuncData}{ps:List Str}{sp:Sp}(h:k<=k')(F:CG P w K mg base CX k f fd ps sp):CG P w K mg base CX k' f fd ps sp:=
 ⟨F.len,λ A stack s H args us vs Q E hr=>F.run A stack s H args us vs Q E (hr.mono h)⟩
theorem Lq {o:Expr}{fo:Aa->M D}{m:Str}{k n:Nat}{apos:Pos}{pl:Sem Bool}(ms:List (Str×(List D->M OT)))(xo:XCall X E)(pd:∀p∈ms,∃k',k'<=k/\FY X.prog X.w X.K X.mg X.base p.1 m k' n p.2)(hr:Bn k X.A)(ho:DE X (Cm X.K E) true o fo)(ha:DA X (Cm X.K E) true (e::es) fs)(cw:(e::es).length+1=n)
 (bc:starEach (e::es) X.env=(false,eval e X.env)::starEach es X.env:=by rfl) (a5:(backTo pos (starEach es X.env)).any (·.1)=false:=by rfl)
 (ht:eval (.Call (.Attribute o m apos) (e::es) [] pos) X.env=(do
  let ov <-eval o X.env
  standAt apos.atName
  let (f,first) <-holding [ov] (getMethod ov m pl)
  callWith pos f first (backTo pos (starEach (e::es) X.env)) (backToKw pos (keywordEach [] X.env))):=by rfl):
 DN X (Cm X.K E) (.Call (.Attribute o m apos) (e::es) [] pos) (λ ρ=>(fo ρ).bind λ d=>(IE ms m d).bind λ F=>(fs ρ).bind λ ds=>F (d::ds)):=by
 obtain⟨ta,a1,a2⟩:=ho;obtain⟨tb,b1,b2,b3⟩:=ha;refine⟨_,XD (pl:=pl) a1 hr xo.call b1 bc a5 ht,λ P0 P σ H Q ρ Ev h=>?_⟩;dsimp only at h;refine a2 P0 P σ H _ ρ Ev ?_;cases q:fo ρ with
 |bad|ex x=>rw[q] at h;exact h
 |ok d =>
  rw[q] at h;simp only[M.A6] at h;intro v H1 s1 hv;cases q2:IE ms m d with
  |bad=>rw[q2] at h;exact h.elim
  |ex y=>exact (Od q2).elim
  |ok F =>
   rw[q2] at h;simp only[M.A6] at h;obtain⟨x,ns,vg,rfl,ba,ic⟩:=QI q2;obtain⟨k',cJ,M0⟩:=pd _ ba;obtain⟨C,fa,fd,ps,h1,h2,h3,h4,h5⟩:=M0.ex;cases hv with
   |ins hn hH hl =>
    rw[hn] at h1;cases h1;refine⟨_,_,_,_,fa,fd,ps,n,F,rfl,(Aj hH).2,Mm hl ic,h2,h3,TZ cJ h4,h5,?_⟩;refine b2 P0 P σ H1 _ ρ (Ev.same s1) ?_;cases q3:fs ρ with
    |bad=>rw[q3] at h;exact h
    |ex y=>rw[q3] at h;exact λ H' s=>h H' (s1.trans s)
    |ok ds =>
     rw[q3] at h;simp only[M.A6] at h;intro vs H2 s2 aE;have js:=(Bw.ins hn hH hl).mono s2.del;exact⟨by rw[zp,aE.length,b3 ρ ds q3];exact cw,P,_,((Ev.same s1).same s2).BG,.cons js aE,h.same (s1.trans s2)⟩
theorem Jz {o:Expr}{fo:Aa->M D}{m:Str}{k:Nat}{apos:Pos}{pl:Sem Bool}(ms:List (Str×(List D->M OT)))(xo:XCall X E)(pd:∀p∈ms,∃k',k'<=k/\FY X.prog X.w X.K X.mg X.base p.1 m k' 1 p.2)(hr:Bn k X.A)(ho:DE X (Cm X.K E) true o fo)
 (ht:eval (.Call (.Attribute o m apos) [] [] pos) X.env=(do
  let ov <-eval o X.env
  standAt apos.atName
  let (f,first) <-holding [ov] (getMethod ov m pl)
  callWith pos f first (backTo pos (starEach [] X.env)) (backToKw pos (keywordEach [] X.env))):=by rfl):
 DN X (Cm X.K E) (.Call (.Attribute o m apos) [] [] pos) (λ ρ=>(fo ρ).bind λ d=>(IE ms m d).bind λ F=>F [d]):=by
 obtain⟨ta,a1,a2⟩:=ho;refine⟨_,Vs (pl:=pl) a1 hr xo.call ht,λ P0 P σ H Q ρ Ev h=>?_⟩;dsimp only at h;refine a2 P0 P σ H _ ρ Ev ?_;cases q:fo ρ with
 |bad|ex x=>rw[q] at h;exact h
 |ok d =>
  rw[q] at h;simp only[M.A6] at h;intro v H1 s1 hv;cases q2:IE ms m d with
  |bad=>rw[q2] at h;exact h.elim
  |ex y=>exact (Od q2).elim
  |ok F =>
   rw[q2] at h;simp only[M.A6] at h;obtain⟨x,ns,vg,rfl,ba,ic⟩:=QI q2;obtain⟨k',cJ,M0⟩:=pd _ ba;obtain⟨C,fa,fd,ps,h1,h2,h3,h4,h5⟩:=M0.ex;cases hv with
   |ins hn hH hl =>
    rw[hn] at h1;cases h1;refine⟨_,_,_,_,fa,fd,ps,1,F,rfl,(Aj hH).2,Mm hl ic,h2,h3,TZ cJ h4,h5,?_⟩;exact⟨rfl,P,_,(Ev.same s1).BG,.cons (Bw.ins hn hH hl) .nil,h.same s1⟩
end
section
variable {X:Cx}{E:XK}{WX:Str->Hp->Prop}{c:Bool}{P0:Df}{P:Addr->Prop}{H:Hp}{σ:St}{ρ:Aa}{a b e:Expr}{es:List Expr}{f g:Aa->M D}{fs:Aa->M (List D)}{fn:Aa->M OT}{pos:Pos}{te:TE}
structure ZO (K:za)(mg:Str->Option Value)(x:Str)(C:Addr):Prop where
 ns:zd K mainGlobals x=some (some (.ref C))
 rE:mg x=some (.ref C)
theorem Kb {p dx C:Addr}(hp:H p=none)(hd:H dx=none):Ad H (upd (upd H dx (.own p)) p (.ins C dx [])):=λ b u q=>by
 rw[Ab (AE q hp),Ab (AE q hd)];exact q
structure nS (P:Program)(w:World)(K:za)(mg:Str->Option Value)(base:Heap)(x:Str)(k n:Nat)(F:OT->List D->M (OT×OT)):Prop where
 ex:∃C fa fd ps,ZO K mg x C/\Mk K C fa/\CG P w K mg base (RB P w base) k fa fd ps (Mb K n F)/\Binds K fd ps []
noncomputable def KR (m:M (OT×OT)):M OT:=match m with
 | .ok (t,.sh .Ay)=>.ok t
 |_=>.bad
theorem ZP {x:Str}{k n:Nat}{F:OT->List D->M (OT×OT)}{p:Pos}(xo:XCall X E)(G:nS X.prog X.w X.K X.mg X.base x k n F)(hr:Bn (k+1) X.A)(hg:Gl X x)(ha:DA X (Cm X.K E) true (e::es) fs)(cw:(e::es).length+1=n)
 (aJ:(x==("__debug__" : Str))=false:=by decide) (he:starEach (e::es) X.env=(false,eval e X.env)::starEach es X.env:=by rfl) (a5:(backTo pos (starEach es X.env)).any (·.1)=false:=by rfl):
 DN X (Cm X.K E) (.Call (.Name x p) (e::es) [] pos) (λ ρ=>(fs ρ).bind λ ds=>KR (F (.ins x [] []) ds)):=by
 obtain⟨C,fa,fd,ps,hT,hM,hF,hb⟩:=G.ex;obtain⟨ta,a1,a2,a3⟩:=ha;refine⟨_,Tj hM hF hr hg hT.rE hb .nil xo.call a1 aJ he a5,λ P0 P σ H Q ρ Ev h=>?_⟩;dsimp only at h;refine a2 P0 P σ H _ ρ Ev ?_;cases q:fs ρ with
 |bad|ex x=>rw[q] at h;exact h
 |ok ds =>
  rw[q] at h;simp only[M.A6] at h;intro vs H1 s1 aE y dx hy hd ae;rw[zX];have E1:=Ev.same s1;have sm:=Kb (C:=C) hy hd;have b9:∀a∈[y],H1 a=none:=λ a ha=>by rw[zu.mp ha];exact hy
  refine⟨by rw[zp,aE.length,a3 ρ ds q];exact cw,PU P [y],y,.ins x [] [],[y],vs,ds,rfl,λ a ha=>?_,λ a ha=>.inr ha,by simp,Bx.ins (fs:=[]) hT.ns Al .nil,aE.mono (BU sm b9),?_⟩
  ·rcases ha with ha|ha
   ·exact (E1.BG a ha).same sm
   ·rw[zu.mp ha];exact⟨_,Al,λ xs=>⟨(λ z=>by cases z),(λ z w=>by cases w)⟩⟩
  ·cases q2:F (.ins x [] []) ds with
   |bad|ex z=>rw[q2] at h;exact h
   |ok tr =>
    obtain⟨t,r⟩:=tr;rw[q2] at h;simp only[KR] at h;intro v H' P' ak fr k1 k2 k3 k4 k5 k6 k7 k8 k9 li;cases r with
    |sh d =>
     cases d with
     |Ay =>
      cases k6 with
      |sh hv =>
       cases hv;refine⟨rfl,h _ ak H' ?_ ?_ k5 ?_⟩
       ·intro b u eb;have e1:=s1 b u eb;have bf:b≠y:=λ z=>by rw[z,hy] at e1;cases e1
        have e2:=sm b u e1;by_cases hP:P b
        ·exact (k1 b (.inl hP) (by simp[bf])).2.trans e2
        ·exact (Aj (k3 b u (by rw[Aq λ z=>z.elim hP λ w=>bf (zu.mp w)];exact e2))).2
       ·intro b d9;cases eb:H b with
        |none=>rfl
        |some u =>
         exfalso;have e1:=s1 b u eb;have bf:b≠y:=λ z=>by rw[z,hy] at e1;cases e1
         have e2:=sm b u e1;have hn:=λ z=>bf (zu.mp ((k9 b d9).2 z));exact (Aj (k3 b u (by rw[Aq hn];exact e2))).1 (k9 b d9).1
       ·refine k4.move (λ b u eb=>?_) λ _ _=>rfl;obtain⟨g1,g2⟩:=Aj eb;rw[Aq]
        ·exact g2
        ·rintro (z|z)
         ·have bf:b≠y:=λ w=>by
           obtain⟨o,e1,_⟩:=E1.BG b z;rw[w,hy] at e1;cases e1
          exact g1 (k1 b (.inl z) (by simp[bf])).1
         ·exact g1 (k9 b z).1
     |_=>exact h.elim
    |_=>exact h.elim
end
theorem Bq {K:za}{f:Str}:∀y∈([]:List Str),Ib K y f:=λ y h=>by cases h
theorem B5 {K:za}{f x:Str}{xs:List Str}(h:Ib K x f)(t:∀y∈xs,Ib K y f):∀y∈x::xs,Ib K y f:=λ y hy=>by
 rcases zq.mp hy with rfl|hy
 ·exact h
 ·exact t y hy
theorem EM {P:Program}{w:World}{K:za}{mg:Str->Option Value}{base:Heap}{m:Str}{k n:Nat}:∀p∈([]:List (Str×(List D->M OT))),∃k',k'<=k/\FY P w K mg base p.1 m k' n p.2:=λ p h=>by cases h
theorem Dc {P:Program}{w:World}{K:za}{mg:Str->Option Value}{base:Heap}{m x:Str}{k k' n:Nat}{F:List D->M OT}{ms:List (Str×(List D->M OT))}(hk:k'<=k)(h:FY P w K mg base x m k' n F)(t:∀p∈ms,∃k',k'<=k/\FY P w K mg base p.1 m k' n p.2):
 ∀p∈(x,F)::ms,∃k',k'<=k/\FY P w K mg base p.1 m k' n p.2:=λ p hp=>by
 rcases zq.mp hp with rfl|hp
 ·exact⟨k',hk,h⟩
 ·exact t p hp
end L2
set_option maxRecDepth 1000000
set_option maxHeartbeats 0
namespace L2
open PySem
theorem Oe:entryFor table "dict.update.loop" = some Builtin.«dict.update.loop»:=by unfold entryFor;rfl
open PySem PySem.Spec PySem.Calls PyProof.Rows PySem.W PySem.Builtin PySem.Builtin.ObjectAttr
section
variable {prog:Program}{w:World}{A:Around}{E:Value->Shared->Prop}{s:Shared}
theorem call_meets {T id:String}{nm:Str}{B:Builtin}{self:Value}{rest:List Value}{Sp:PySem.Spec}{Q:Value->Shared->Prop}(SL:Slot T nm id)(hB:entryFor table id=some B)(ht:s.TypeIs self T)(ha:argsOk id ⟨self::rest,[]⟩)(m:Meets (B ⟨self::rest,[]⟩) Sp)
 (h:Sp A (λ r s'=>match r with | .ok (.ret v)=>Q v s' | .ok _=>False | .error e=>E e s') s):wpAny (model prog w) A (call (.builtin id) (self::rest)) Q E s:=
 wpAny_call (codeAny_call_builtin SL.plain hB (SL.check _ _ _ _ _ _ _ _ ht ha (m prog w A _ s h)))
theorem QJ {l:Addr}{xs:Array Value}{k:Nat}{sl:Array (Option Value)}{Q:Option Value->Shared->Prop}(hh:A.handled=none)(hl:s.heap.get? l=some {cls:=.type "list",data:=.seq xs k,slots:=sl})
 (h:∀h' tk,(∀b o,s.heap.get? b=some o->h'.get? b=some o)->Q none {s with heap:=h',toks:=tk}):wpAny (model prog w) A (getAttr? (.ref l) "keys") Q E s:=by
 have miss:typeLookup (.type "list") "keys" = pure none:=am_miss_of_fast (by decide +kernel);have T0:∀hp:Heap,hp.get? l=some {cls:=.type "list",data:=.seq xs k,slots:=sl}->Looks (model prog w) hp (typeOf (.ref l)) (.type "list"):=λ hp e=>(Looks.ld e).andThen .now;have SL:=PySem.F.slot_list_getattribute;have a6:(onTheHeap (Value.type "list")&&Value.builtin "list.__getattribute__" == Value.builtin "object.__getattribute__")=false:=rfl;have lm:(false&&onTheHeap (Value.builtin "list.__getattribute__"))=false:=rfl;unfold getAttr? getAttrBy?;refine wpAny_bind (wpAny_mkText (wpAny_bind (wpAny_attempt ?_)));unfold getAttrBy;refine wpAny_holding (wpAny_bind ((T0 _ hl).at (wpAny_bind ?_)));rw[SL.lookup];refine wpAny_pure ?_;dsimp only;rw[a6,if_neg zI];unfold getAttrByItsOwn hookBefore;rw[if_neg (show ¬ onTheHeap (Value.type "list")=true from zI)];refine wpAny_bind (wpAny_pure (wpAny_bind (wpAny_attempt (wpAny_holding ?_))));unfold callGetattribute;rw[lm,if_neg zI];unfold boundAndCalled;rw[SL.bind];refine wpAny_bind (wpAny_pure ?_);dsimp only;refine call_meets SL am_entry_list_getattribute ⟨_,hl,rfl⟩ (PySem.F.args_list_getattribute_2 _ _) (meets_getattribute_miss_list l xs k sl "keys" s.toks miss rfl (by decide)) ⟨hl,hh,λ h' tk e ne=>?_⟩;dsimp only;obtain⟨kp,nw,t,u,he⟩:=ne;have T1:Looks (model prog w) h' (typeOf (.ref e)) (.type "AttributeError"):=(Looks.ld he).andThen .now;unfold getattributeRaised isInstance;refine wpAny_bind (wpAny_bind (T1.at ?_));rw[sub_AttributeError];refine wpAny_pure ?_;rw[if_pos rfl];unfold hookBehind;rw[if_neg (show ¬ onTheHeap (Value.type "list")=true from zI),am_list_getattr_none];refine wpAny_bind (wpAny_pure ?_);unfold hookOrError attributeErrorLeaves;dsimp only;rw[if_pos (show (!false)=true from rfl)];refine wpAny_bind (wpAny_throw ?_);refine wpAny_bind (wpAny_bind (T1.at ?_));rw[sub_AttributeError];refine wpAny_pure ?_;rw[if_pos rfl];exact wpAny_pure (h h' tk kp)
theorem Vt {t:Addr}{aa:Array Value}{Q:List Value->Shared->Prop}(ht:IsTup s.heap t aa)(h:Q aa.toList s):wpAny (model prog w) A (Dict.pairItems (.ref t)) Q E s:=by
 obtain⟨o,h1,h2,n,h3⟩:=ht;have T0:Looks (model prog w) s.heap (typeOf (.ref t)) (.type "tuple"):=h2▸(Looks.ld h1).andThen .now;unfold Dict.pairItems;refine wpAny_bind (T0.at ?_);have hx:(Value.type "tuple" == Value.type "list" || Value.type "tuple" == Value.type "tuple")=true:=by decide
 rw[if_pos hx];exact wpAny_bind (wpAny_seqItems h1 h3 (wpAny_pure h))
theorem HK:plainId "dict.update.loop" = true:=by decide +kernel
theorem Mn {K:Type}[DecidableEq K]{knd:KeyKind prog w K}{h h':Heap}{d I l:Addr}{i:Nat}{xs:List (List K×Addr×Value)}(hd:h.DictOfH (tupleKind knd) d xs)(hit:h.IsListIter I l i)(sb:∀b o,b≠I->h.get? b=some o->h'.get? b=some o):
 h'.DictOfH (tupleKind knd) d xs:=by
 obtain⟨o,es,ep,h1,h2,h3,h4,h5,h6⟩:=hd;obtain⟨oi,i1,i2,i3⟩:=hit;refine⟨o,es,ep,sb d o (λ z=>?_) h1,h2,h3,h4,λ x hx=>?_,h6⟩
 ·subst z;rw[i1] at h1;cases h1;rw[i3] at h3;cases h3
 ·obtain⟨ok,aa,n,k1,k2,k3,k4⟩:=h5 x hx;refine⟨ok,aa,n,sb _ _ (λ z=>?_) k1,k2,k3,k4⟩;rw[z,i1] at k1;cases k1;rw[i3] at k3;cases k3
theorem Ss {K:Type}[DecidableEq K]{knd:KeyKind prog w K}{R:Result->Shared->Prop}{d I l:Addr}{items:Array Value}{h0:Heap}(ps:List (List K×Addr×Value))(hh:A.handled=none)(dL:A.in1.units<cLine)(ia:l≠I)(vh:d≠I)(t6:l≠d)
 (t7:ps.length=items.size) (hsz:items.size+1<=sizeLine) (hl:h0.IsList l items)
 (hp:∀(j:Nat) p,ps[j]?=some p->(p.2.1≠d/\p.2.1≠I/\(tupleKind knd).is h0 p.1 p.2.1)/\∃t,items[j]?=some (.ref t)/\t≠d/\t≠I/\IsTup h0 t #[.ref p.2.1,p.2.2]):
 ∀(m i:Nat) (xs:List (List K×Addr×Value)) (s:Shared),items.size-i=m->i<=items.size->xs.length<=i->s.heap.IsListIter I l i->s.heap.DictOfH (tupleKind knd) d xs->(∀b o,b≠d->b≠I->h0.get? b=some o->s.heap.get? b=some o)->
  (∀h' tk,h'.DictOfH (tupleKind knd) d ((ps.drop i).foldl (λ acc p=>storedH acc p.1 p.2.1 p.2.2) xs)->(∀b o,b≠d->b≠I->h0.get? b=some o->h'.get? b=some o)->R (.ok (.ret .none)) {s with heap:=h',toks:=tk})->
  codeAny (model prog w) A (.builtin "dict.update.loop" ⟨[.ref d,.ref I,rawInt i,.none],[]⟩) R s:=by
 intro m;induction m with
 |zero =>
  intro i xs s hm hi vi hit hd hf h;have cj:i=items.size:=by omega
  refine codeAny_builtin Oe ?_;rw[yu HK _];show wpAny _ A.in1 (pyNext (.ref I) >>= _) _ _ s;refine wpAny_bind (wpAny_pyNext_list_end (A:=A.in1) hh hit (hl.at λ o e=>hf l o t6 ia e) (by simp[cj]) λ h' eb=>?_);have hd2:=Mn hd hit λ b o hb e=>eb b o hb e;show wpAny _ A.in1 (Dict.addKeywords d [] >>= _) _ _ _;unfold Dict.addKeywords;refine wpAny_bind (wpAny_bind ?_);refine wpAny_pure (wpAny_pure (wpAny_pure ?_));have ed:ps.drop i=[]:=by rw[List.drop_eq_nil_iff];omega
  rw[ed] at h;exact h h' s.toks hd2 λ b o h1 h2 e=>eb b o h2 (hf b o h1 h2 e)
 |succ m ih =>
  intro i xs s hm hi vi hit hd hf h;have aj:i<items.size:=by omega
  obtain⟨p,pe⟩:∃p,ps[i]?=some p:=⟨ps[i]'(by omega),zg _⟩;obtain⟨⟨p1,p2,p3⟩,t,ht,t1,t2,t3⟩:=hp i p pe;refine codeAny_builtin Oe ?_;rw[yu HK _];show wpAny _ A.in1 (pyNext (.ref I) >>= _) _ _ s;refine wpAny_bind (wpAny_pyNext_list_item (A:=A.in1) hit (hl.at λ o e=>hf l o t6 ia e) ht λ h' aG sb=>?_);have hd2:h'.DictOfH (tupleKind knd) d xs:=Mn hd hit λ b o hb e=>(sb.2 b hb).trans e;have pf:∀b o,b≠d->b≠I->h0.get? b=some o->h'.get? b=some o:=λ b o h1 h2 e=>(sb.2 b h2).trans (hf b o h1 h2 e);have t4:IsTup h' t #[.ref p.2.1,p.2.2]:=by
   obtain⟨o,e1,e2⟩:=t3;exact⟨o,pf t o t1 t2 e1,e2⟩
  have p4:(tupleKind knd).is h' p.1 p.2.1:=by
   obtain⟨o,aa,n,e1,e2⟩:=p3;exact⟨o,aa,n,pf _ o p1 p2 e1,e2⟩
  dsimp only;refine wpAny_bind (wpAny_holding (wpAny_bind (wpAny_tryCatch (Vt t4 ?_))));show wpAny _ A.in1 (holding [.ref p.2.1,p.2.2] (dictSet d (.ref p.2.1) p.2.2)) _ _ _;refine wpAny_holding (wpAny_dictSet_heap (knd:=tupleKind knd) (hsz:=by omega) dL p4 hd2 λ h3 ph t8=>?_);refine wpAny_pure ⟨plainId_quiet HK _,?_⟩;have pi:h3.IsListIter I l (i+1):=by
   obtain⟨o,e1,e2⟩:=aG;exact⟨o,(t8.2 I (yc vh)).trans e1,e2⟩
  have ed:ps.drop i=p::ps.drop (i+1):=by
   rw[List.drop_eq_getElem_cons (by omega:i<ps.length)];rw[zg (by omega:i<ps.length)] at pe;rw[z0 pe]
  rw[ed,zU] at h;have o6:(storedH xs p.1 p.2.1 p.2.2).length<=i+1:=by
   unfold storedH;split
   ·rw[ze];omega
   ·rw[zM,yC];omega
  have q:=ih (i+1) (storedH xs p.1 p.2.1 p.2.2) {s with heap:=h3,toks:=s.toks+(tupleKind knd).draws p.1} (by omega) (by omega) o6 pi ph (λ b o h1 h2 e=>(t8.2 b h1).trans (pf b o h1 h2 e)) h;exact q
theorem La {K:Type}[DecidableEq K]{knd:KeyKind prog w K}{Q:Value->Shared->Prop}{l:Addr}{items:Array Value}{n:Nat}{sl:Array (Option Value)}(ps:List (List K×Addr×Value))(hh:A.handled=none)(dL:A.units+2<cLine)
 (t7:ps.length=items.size) (hsz:items.size+1<=sizeLine) (hl:s.heap.get? l=some {cls:=.type "list",data:=.seq items n,slots:=sl})
 (hp:∀(j:Nat) p,ps[j]?=some p->(tupleKind knd).is s.heap p.1 p.2.1/\∃t,items[j]?=some (.ref t)/\IsTup s.heap t #[.ref p.2.1,p.2.2])
 (h:∀h' tk,h'.DictOfH (tupleKind knd) s.heap.objs.size (ps.foldl (λ acc p=>storedH acc p.1 p.2.1 p.2.2) [])->(∀b o,s.heap.get? b=some o->h'.get? b=some o)->Q (.ref s.heap.objs.size) {s with heap:=h',toks:=tk}):
 wpAny (model prog w) A (call (.type "dict") [.ref l]) Q E s:=by
 refine callType_codes (Q₁:=λ obj s₁=>obj=.ref s.heap.objs.size/\s₁={s with heap:=s.heap.push {cls:=.type "dict",data:=.dict #[]} }) PySem.F.kt_called_dict (PySem.F.kt_typeCall_dict_1 _) PySem.F.entry_dict_init
  (kt_code_dict_new _ ⟨rfl,rfl⟩) λ obj s₁ h₁=>?_
 obtain⟨rfl,rfl⟩:=h₁;have hS:(s.heap.push {cls:=.type "dict",data:=.dict #[]}).get? s.heap.objs.size=some {cls:=.type "dict",data:=.dict #[]}:=zA _ rfl;have ll:l<s.heap.objs.size:=zt hl;have jt:(s.heap.push {cls:=.type "dict",data:=.dict #[]}).get? l=some {cls:=.type "list",data:=.seq items n,slots:=sl}:=zi _ hl;refine⟨⟨_,hS,rfl⟩,PySem.F.args_dict_init_2 _ _,?_⟩;have TD:Looks (model prog w) (s.heap.push {cls:=.type "dict",data:=.dict #[]}) (typeOf (.ref s.heap.objs.size)) (.type "dict"):=(Looks.ld hS).andThen .now;have TL:Looks (model prog w) (s.heap.push {cls:=.type "dict",data:=.dict #[]}) (typeOf (.ref l)) (.type "list"):=(Looks.ld jt).andThen .now;unfold Builtin.«dict.__init__» Dict.selfAndRest Dict.notOrdered;dsimp only;rw[if_pos (by decide)];refine wpAny_bind (wpAny_bind (wpAny_bind (TD.at ?_)));rw[if_neg (by decide)];refine wpAny_pure ?_;unfold Dict.addrOf;refine wpAny_bind (wpAny_pure (wpAny_pure ?_));unfold Dict.updateCommon Dict.updateFrom;dsimp only;refine wpAny_bind (TL.at ?_);rw[if_pos (by decide)];refine wpAny_bind (QJ (A:=A.in1.in1) hh jt λ h2 wJ cz=>?_);rw[if_pos (show (none:Option Value).isNone=true from rfl)];refine wpAny_bind (wpAny_rule ?_);have aB:h2.IsList l items:=⟨_,cz _ _ jt,rfl,n,rfl⟩;have t9:=cz _ _ hS;refine wpAny_bind (wpAny_pyIter_list aB ?_);refine wpAny_pure ⟨plainId_quiet HK _,?_⟩;have lz:s.heap.objs.size<h2.objs.size:=zt t9;have vj:∀b o,s.heap.get? b=some o->(h2.push {cls:=.type "list_iterator",data:=.fields #[.ref l,.int 0 0]}).get? b=some o:=λ b o e=>zi _ (cz _ _ (zi _ e));have ph:(h2.push {cls:=.type "list_iterator",data:=.fields #[.ref l,.int 0 0]}).DictOfH (tupleKind knd) s.heap.objs.size []:=
  ⟨_,#[],0,zi _ t9,⟨rfl,rfl,rfl⟩,rfl,rfl,λ x hx=>absurd hx List.not_mem_nil,yA⟩
 have aj:∀b o,s.heap.get? b=some o->b≠s.heap.objs.size/\b≠h2.objs.size:=λ b o e=>by
  have:=zt e;exact⟨zB this,zB (Nat.lt_trans this lz)⟩
 refine Ss (A:=A.in1) (knd:=knd) (l:=l) (h0:=s.heap) ps hh dL (zB (Nat.lt_trans ll lz)) (zB lz) (zB ll) t7 hsz ⟨_,hl,rfl,n,rfl⟩ (λ j p hj=>?_) items.size 0 [] _ (by omega) (by omega) (by simp) ⟨_,zA _ rfl,rfl,rfl⟩ ph (λ b o h1 ib e=>vj b o e) λ h' tk ca vk=>?_
 ·obtain⟨q1,t,q2,q3⟩:=hp j p hj;obtain⟨o1,_,_,e1,_⟩:=id q1;obtain⟨o2,e2,_⟩:=id q3;exact⟨⟨(aj _ _ e1).1,(aj _ _ e1).2,q1⟩,t,q2,(aj _ _ e2).1,(aj _ _ e2).2,q3⟩
 ·exact⟨rfl,h h' tk ca λ b o e=>vk b o (aj _ _ e).1 (aj _ _ e).2 e⟩
end
structure Vu where
 (t:Addr) (κ:List Key) (b:Addr) (v:V)
def ZQ (H:Hp)(p:Vu):Prop:=H p.t=some (.tup [.ref p.b,p.v])/\H p.b=some (.tup (p.κ.map kV))
noncomputable def pH (ps:List Vu):List (List Key×V):=ps.foldl (λ acc p=>putK acc p.κ p.v) []
noncomputable def vB (X:Cx)(te:TE):TE:=λ σ H Q=>te σ H λ x H1=>∃(l:Addr) (ps:List Vu),x=.ref l/\Dt X.K H1 l (ps.map λ p=>V.ref p.t)/\(∀p∈ps,ZQ H1 p)/\ps.length<=1000/\∀r,H1 r=none->Q (.ref r) (upd H1 r (.dT (pH ps)))
theorem QK:∀ {ps:List Vu}{us:List Value},Vals (ps.map λ p=>V.ref p.t) us->us=ps.map λ p=>zK p.t
 |[],_,.nil=>rfl
 |p::ps,_,.cons h t=>by
  cases h;rw[zh,<-QK t]
theorem eE {H:Hp}:∀ {ps:List Vu}{qs:List (List Key×Addr×Value)}{kvs:List (List Key×V)}{xs:List (List Key×Addr×Value)},(∀p∈ps,ZQ H p)->Paired (λ(p:Vu) (q:List Key×Addr×Value)=>p.κ=q.1/\p.b=q.2.1/\RelV p.v q.2.2) ps qs->KT H kvs xs->KT H (ps.foldl (λ acc p=>putK acc p.κ p.v) kvs) (qs.foldl (λ acc p=>storedH acc p.1 p.2.1 p.2.2) xs)
 |[],_,_,_,_,.nil,h=>h
 |p::ps,_,_,_,ho,.cons (b:=q) hq t,h=>by
  obtain⟨q1,q2,q3⟩:=q;obtain⟨e1,e2,e3⟩:=hq;dsimp only at e1 e2 e3;subst e1 e2;have r:=eE (ps:=ps) (λ p' hp=>ho p' (zf _ hp)) t (h.put p.κ (ho p zc).2 e3);exact r
theorem XE:∀(ps:List Vu) (kvs:List (List Key×V)),(ps.foldl (λ acc p=>putK acc p.κ p.v) kvs).length<=kvs.length+ps.length
 |[],kvs=>zv _
 |p::ps,kvs=>by
  have h1:=XE ps (putK kvs p.κ p.v);have h2:=GB kvs p.κ p.v;rw[zU,zp];omega
theorem U0 {h:Heap}{H:Hp}{P:Program}{w:World}(ok:FK P w H h):∀ {ps:List Vu},(∀p∈ps,ZQ H p)->∃qs:List (List Key×Addr×Value),Paired (λ(p:Vu) (q:List Key×Addr×Value)=>p.κ=q.1/\p.b=q.2.1/\RelV p.v q.2.2) ps qs/\
 ∀(j:Nat) q,qs[j]?=some q->(tupleKind (Bi P w)).is h q.1 q.2.1/\∃t,(ps.map λ p=>zK p.t)[j]?=some (.ref t)/\IsTup h t #[.ref q.2.1,q.2.2]
 |[],_=>⟨[],.nil,λ j q e=>by simp at e⟩
 |p::ps,ho=>by
  obtain⟨qs,h1,h2⟩:=U0 ok λ p hp=>ho p (zf _ hp);obtain⟨o1,o2⟩:=ho p zc;obtain⟨_,aa,r,it⟩:=(show AV P w H h p.t (.tup [.ref p.b,p.v]) from ok p.t _ o1);obtain⟨u,v,rfl,ru,rv⟩:=r.two;cases ru;refine⟨(p.κ,p.b,v)::qs,.cons ⟨rfl,rfl,rv⟩ h1,λ j q e=>?_⟩;cases j with
  |zero =>
   rw[yJ] at e;cases e;exact⟨JW ok o2,p.t,by simp,it⟩
  |succ j =>
   rw[zP] at e;obtain⟨a1,t,a2,a3⟩:=h2 j q e;exact⟨a1,t,by simpa using a2,a3⟩
section
variable {X:Cx}{WX:Str->Hp->Prop}{c:Bool}{P0:Df}{P:Addr->Prop}{H:Hp}{σ:St}{ρ:Aa}{a b e:Expr}{f g:Aa->M D}{fn:Aa->M OT}{pos:Pos}{te:TE}
theorem XF {p:Pos}{n:Nat}(hc:X.calm=true)(hu:X.A.units+n<cLine)(hg:Gl X "dict")(hm:X.mg "dict" = none)(he:PE X e te)
 (hv:bootBuiltins "dict" = some (.type "dict"):=by decide +kernel)
 (hs:starEach [e] X.env=[(false,eval e X.env)]:=by rfl) (hn:2<=n:=by decide):
 PE X (.Call (.Name "dict" p) [e] [] pos) (vB X te):=by
 intro pins s σ H Q I h;refine wpAny_Call_Name_kw (Dh I hg hm hv ?_);refine yq ?_ hs;rw[hs];refine yR (Bb (he pins s σ H _ I h) λ u s1 ⟨x,H1,I1,r1,q1⟩=>?_);obtain⟨l,ps,rfl,hq,ho,hlen,q⟩:=q1;cases r1;refine xa ?_;obtain⟨aa,r',pl,hz⟩:=I1.list hq;have hits:=QK r';subst hits;obtain⟨⟨vm,tJ,tK,pj⟩,n0,o1,o2,o3,o4⟩:=pl;dsimp only at o2 o3 o4;subst o2 o3 o4;obtain⟨qs,h1,h2⟩:=U0 I1.Ar ho;refine La (knd:=Bi X.prog X.w) qs (I1.ok.hd hc) (by omega) (by rw[zj,ze,<-h1.length]) (AA (by rw[zj,ze];omega)) o1 (λ j p hj=>?_) λ h' tk hd kp=>?_
 ·obtain⟨a1,t,a2,a3⟩:=h2 j p hj;exact⟨a1,t,by rw[List.getElem?_toArray];exact a2,a3⟩
 ·have vn:=eE ho h1 (show KT H1 [] [] from .nil);have jo:s1.heap.objs.size<=s1.heap.objs.size:=zv _;have ee:=I1.Ar.fresh jo;have vo:=XE ps [];obtain⟨o,es,ep,g1,g2,g3,g4,g5,g6⟩:=hd;refine⟨.ref _,_,I1.laid (t':=tk) (o:=.dT (pH ps)) kp jo ⟨yd (AA (by unfold pH;simp at vo;omega)),beq_eq_false_iff_ne.mpr (yc (zB I1.big)),_,vn.keeps (λ b ys eb=>by rw[Ab (λ z=>by rw[z,ee] at eb;cases eb)];exact eb),o,es,ep,g1,g2,g3,g4,g6⟩,rfl,q _ ee⟩
noncomputable def Vv:List D->Option (List (D×D))
 |[]=>some []
 | .tup [k,v]::r=>(Vv r).map ((k,v)::·)
 |_=>none
noncomputable def nT (l:List (D×D)):List D×List D:=l.foldl (λ z kv=>putD z.1 z.2 kv.1 kv.2) ([],[])
noncomputable def Vw (d:D):M OT:=match d with
 | .lst xs=>(match Vv xs with|some l=>if l.length<=1000/\(l.all λ kv=>keyOk true kv.1)=true then .ok (.B8 true (nT l).1 ((nT l).2.map .sh)) else .bad|none=>.bad)
 |_=>.bad
theorem U1 {K:za}{H:Hp}{P:Addr->Prop}:∀ {xs:List V}{ds:List D}{l:List (D×D)},Ag K (del H P) xs ds->Vv ds=some l->(l.all λ kv=>keyOk true kv.1)=true->
 ∃ps:List Vu,xs=ps.map (λ p=>V.ref p.t)/\(∀p∈ps,ZQ H p)/\Paired (λ(p:Vu) (kv:D×D)=>kv.1=.tup (p.κ.map Cn)/\Bw K (del H P) p.v kv.2) ps l
 |_,[],l,.nil,e,_=>by cases e;exact⟨[],rfl,λ p hp=>(by cases hp),.nil⟩
 |_,d::ds,l,.cons hd ht,e,hk=>by
  unfold Vv at e;split at e
  ·rename_i f9;cases f9
  ·rename_i k v r f9;cases f9;obtain⟨l',e1,e2⟩:=Option.map_eq_some_iff.mp e;subst e2;rw[xt,zW] at hk;obtain⟨ps,q1,q2,q3⟩:=U1 ht e1 hk.2;have hK:=Jp hk.1;cases hK with
   |t κ =>
    cases hd with
    |tup h1 h2 =>
     obtain⟨x,y,rfl,hx,hy⟩:=h2.two;cases hx with
     |tup g1 g2 =>
      rename_i tt bb dv;have ey:=Ag.keys κ g2;subst ey;refine⟨⟨tt,κ,bb,y⟩::ps,by rw[zh,q1],λ p hp=>?_,.cons ⟨rfl,hy⟩ q3⟩;rcases zq.mp hp with rfl|hp
      ·exact⟨(Aj h1).2,(Aj g1).2⟩
      ·exact q2 p hp
  ·cases e
theorem XG {K:za}{H:Hp}{P:Addr->Prop}:∀ {ps:List Vu}{l:List (D×D)}{kvs:List (List Key×V)}{vs:List D},Paired (λ(p:Vu) (kv:D×D)=>kv.1=.tup (p.κ.map Cn)/\Bw K (del H P) p.v kv.2) ps l->Ag K (del H P) (kvs.map yz) vs->
 ∃bq,l.foldl (λ z kv=>putD z.1 z.2 kv.1 kv.2) (kvs.map (λ kv=>D.tup (kv.1.map Cn)),vs)=((ps.foldl (λ acc p=>putK acc p.κ p.v) kvs).map (λ kv=>D.tup (kv.1.map Cn)),bq)/\Ag K (del H P) ((ps.foldl (λ acc p=>putK acc p.κ p.v) kvs).map yz) bq
 |[],_,kvs,vs,.nil,h=>⟨vs,rfl,h⟩
 |p::ps,_,kvs,vs,.cons (b:=kv) hq t,h=>by
  obtain⟨k,d⟩:=kv;obtain⟨e1,e2⟩:=hq;dsimp only at e1 e2;subst e1;have hf:∀a b:List Key,Av (.tup (a.map Cn)) (.tup (b.map Cn))=decide (a=b):=λ a b=>by simp only[Av];exact Ln a b
  have aZ:∃bq,(putD (kvs.map λ kv=>.tup (kv.1.map Cn)) vs (.tup (p.κ.map Cn)) d)=((putK kvs p.κ p.v).map (λ kv=>.tup (kv.1.map Cn)),bq)/\Ag K (del H P) ((putK kvs p.κ p.v).map yz) bq:=by
   unfold putD putK;rw[Ma (fk:=λ κ:List Key=>D.tup (κ.map Cn)) hf];by_cases hh:(kvs.any λ kv=>decide (kv.1=p.κ))=true
   ·rw[if_pos hh,if_pos hh];refine⟨_,by rw[Js (fk:=λ κ:List Key=>D.tup (κ.map Cn)) hf],?_⟩;rw[<-Jr (fk:=λ κ:List Key=>D.tup (κ.map Cn)) hf];exact Jt e2 h
   ·rw[if_neg hh,if_neg hh];refine⟨_,by rw[ya];rfl,?_⟩;rw[ya];exact h.snoc e2
  obtain⟨wK,g1,g2⟩:=aZ;obtain⟨vp,g3,g4⟩:=XG t g2;refine⟨vp,?_,g4⟩;rw[zU];dsimp only;rw[g1];exact g3
theorem QL {p:Pos}{n:Nat}(hc:X.calm=true)(hu:X.A.units+n<cLine)(hg:Gl X "dict")(hm:X.mg "dict" = none)(he:DE X WX true e f)
 (hv:bootBuiltins "dict" = some (.type "dict"):=by decide +kernel)
 (hs:starEach [e] X.env=[(false,eval e X.env)]:=by rfl) (hn:2<=n:=by decide):
 DN X WX (.Call (.Name "dict" p) [e] [] pos) (λ ρ=>(f ρ).bind Vw):=by
 obtain⟨te,e1,e2⟩:=he;refine⟨_,XF hc hu hg hm e1 hv hs hn,λ P0 P σ H Q ρ E h=>?_⟩;refine e2 P0 P σ H _ ρ E ?_;dsimp only at h;cases q:f ρ with
 |bad|ex x=>rw[q] at h;exact h
 |ok d =>
  rw[q] at h;simp only[M.A6] at h;intro v H1 s1 hv;unfold Vw at h;split at h
  ·rename_i xs;split at h
   ·rename_i l eb;split at h
    ·rename_i hl;cases hv with
     |lst hs hh =>
      obtain⟨ps,q1,q2,q3⟩:=U1 hh eb hl.2;subst q1;obtain⟨bq,g1,g2⟩:=XG (kvs:=[]) q3 .nil;refine⟨_,ps,rfl,hs.Bj,q2,by rw[q3.length];exact hl.1,λ r hr=>?_⟩;have e3:nT l=((pH ps).map (λ kv=>D.tup (kv.1.map Cn)),bq):=g1;rw[e3] at h;have bP:∀a∈[r],H1 a=none:=λ a ha=>by rw[zu.mp ha];exact hr
      exact h _ [r] _ (s1.trans (AK hr _)) (λ a ha=>F7 s1 (bP a ha)) (by simp) (.dT Al (g2.mono (BU (AK hr _) bP)).ows)
    ·exact h.elim
   ·exact h.elim
  ·exact h.elim
end
open PySem PySem.Spec PyProof.Rows
section
variable {X:Cx}{WX:Str->Hp->Prop}{c:Bool}{P0:Df}{P:Addr->Prop}{H:Hp}{σ:St}{ρ:Aa}{a b e:Expr}{f g:Aa->M D}{fn:Aa->M OT}{pos:Pos}{te:TE}
noncomputable def XH (x y:D):M D:=match x,y with
 | .tup xs,.tup ys=>(match Cg xs,Cg ys with|some ns,some ms=>.ok (.bl (HT.lexLt ns ms))|_,_=>.bad)
 |_,_=>.bad
theorem U2:Tv X.K WX (mF X.K) XH:=by
 intro P H x y v w Q ht hx hy h;unfold XH at h;split at h
 ·rename_i xs ys;split at h
  ·rename_i ns ms e1 e2;have:=CQ e1;subst this;have:=CQ e2;subst this;cases hx with
   |tup h1 h2 =>
    cases hy with
    |tup h3 h4 =>
     have:=CS h2;subst this;have:=CS h4;subst this;exact⟨_,_,ns,ms,rfl,rfl,Gk.of (Aj h1).2,Gk.of (Aj h3).2,h _ H (Ad.refl H) (.bl _)⟩
  ·exact h.elim
 ·exact h.elim
theorem rF {n:Nat}(hu:X.A.units+n<cLine)(ha:DE X WX c a f)(hb:DE X WX c b g):DE X WX c (.Compare a [.Lt] [b] pos) (λ ρ=>(f ρ).bind λ x=>(g ρ).bind λ y=>XH x y):=WT (WC (by omega)) U2 ha hb (JS _)
theorem iR {n:Nat}(hu:X.A.units+n<cLine)(ha:DE X WX c a f)(hb:DE X WX c b g):DT X WX (.Compare a [.Lt] [b] pos) (λ ρ=>((f ρ).bind λ x=>(g ρ).bind λ y=>XH x y).bind Ni):=Hq (WC (by omega)) U2 ha hb (JS _)
end
structure iS (K:za)(x qual:Str)(st:Stmt)(f:Addr)(fd:FuncData):Prop where
 ex:∃(oc:Value) (od:Option Addr) (dV kV doc pm:Value) (an:Option Addr) (B7 ct:Value) (Ry:Array (Option Value)),
  fd=zT x qual (AL st) (Az st) (A5 st) dV kV doc pm an B7 ct/\K.lookup f=some ⟨oc,od,.func fd,Ry⟩/\yh K B7 qual=true
 kp:zV K (.ref f)=true
section
variable {P:Program}{w:World}{K:za}{mg:Str->Option Value}{base:Heap}
theorem ZR {x qual:Str}{st:Stmt}{f:Addr}{fd:FuncData}{N ps:List Str}{k:Nat}(F:iS K x qual st f fd)(S:Am N ps (A5 st))(g:Aa->M Out)
 (hb:∀(B7:Value) (A:Around) (outer:List Env) (s:Shared) (H:Hp) (E:XK),Bn k (A.deeper (envOfC qual (A5 st) s.heap.objs.size f B7))->Qn (TB P w K mg base N qual (A5 st) f B7 A outer s H E) (Cm K E) (Az st) g):
 CG P w K mg base (RB P w base) (k+1) f fd ps (Mb K ps.length λ t az=>Ep (g (CI N t az))):=by
 obtain⟨oc,od,dV,kV,doc,pm,an,B7,ct,Ry,rfl,lk,bv⟩:=F.ex;refine Tn lk bv S (λ vs H Q E h=>h.1) λ A outer s H vs Q E hr h=>?_;obtain⟨hl,P',p,t,fp,rest,az,rfl,ht,hp,nd,ho,hv,hq⟩:=h;obtain⟨tt,h1,h2⟩:=hb B7 A outer s H E hr;refine⟨tt,h1,h2 ⟨λ a=>P' a/\a∉fp,λ _=>p⟩ P' _ H _ _ (Jv ht hp nd ho hv) ?_⟩;dsimp only at hq;revert hq;cases g (CI N t az) with
 |bad|ex x=>exact λ h=>h.elim
 |ok o =>
  have sub:∀ {P2:Addr->Prop} {H2:Hp} {σ2:St} {ρ:Aa},Ai K ⟨λ a=>P' a/\a∉fp,λ _=>p⟩ P2 H2 σ2 ρ->∀a,P2 a/\¬ (P' a/\a∉fp)->P2 a/\(P' a->a∈fp):=λ E a ha=>⟨ha.1,λ z=>Classical.byContradiction λ w=>ha.2 ⟨z,w⟩⟩;cases o with
  |ret d|BL d=>exact λ h=>h.elim
  |next ρ =>
   intro hq σ' H' P2 t2 E2;unfold Ep at hq;dsimp only at hq;split at hq
   ·rename_i t' e;obtain⟨c,ak,k1,k2,k3,k4,k5,k6⟩:=Lp E2 e;exact hq .Ay H' P2 ak [] (λ a ha hn=>⟨E2.sub a ⟨ha,hn⟩,t2.2 a ⟨ha,hn⟩⟩) E2.BG t2.1 k4 k5 (.sh .Ay) yA (λ a ha=>by cases ha) (λ a ha=>sub E2 a (k6 a ha)) (λ a ha=>by cases ha)
   ·exact hq.elim
  |Eh r ρ =>
   intro hq v fr σ' H' P2 t2 E2 o2 br hf;unfold Ep at hq;dsimp only at hq;split at hq
   ·rename_i t' e;obtain⟨c,ak,k1,k2,k3,k4,k5,k6⟩:=Lp E2 e;exact hq v H' P2 ak fr (λ a ha hn=>⟨E2.sub a ⟨ha,hn⟩,t2.2 a ⟨ha,hn⟩⟩) E2.BG t2.1 k4 k5 o2 br (λ a ha=>(hf a ha).2.2 0 c _ ak k1 k2 k3) (λ a ha=>sub E2 a (k6 a ha)) (λ a ha=>sub E2 a ⟨(hf a ha).1,(hf a ha).2.1⟩)
   ·exact hq.elim
  |brk ρ|cont ρ=>exact λ h=>h.elim
end
theorem ZS {K:za}{x qual:Str}{st:Stmt}{f:Addr}{oc:Value}{od an:Option Addr}{Ry:Array (Option Value)}{dV kV doc pm B7 ct:Value}(l:K.lookup f=some ⟨oc,od,.func (zT x qual (AL st) (Az st) (A5 st) dV kV doc pm an B7 ct),Ry⟩)
 (c:yh K B7 qual=true) (k:zV K (.ref f)=true):iS K x qual st f (zT x qual (AL st) (Az st) (A5 st) dV kV doc pm an B7 ct):=⟨⟨oc,od,dV,kV,doc,pm,an,B7,ct,Ry,rfl,l,c⟩,k⟩
structure U3 (P:Program)(w:World)(K:za)(mg:Str->Option Value)(base:Heap)(x:Str)(k n:Nat)(F:OT->List D->M (OT×OT)):Prop where
 ex:∃C fa fd ps,ZO K mg x C/\Mk K C fa/\CG P w K mg base (RB P w base) k fa fd ps (Mb K n F)/\Binds K fd ps []/\Binds K fd ps [.none]
theorem U3.vC {P:Program}{w:World}{K:za}{mg:Str->Option Value}{base:Heap}{x:Str}{k n:Nat}{F:OT->List D->M (OT×OT)}(G:U3 P w K mg base x k n F):nS P w K mg base x k n F:=by
 obtain⟨C,fa,fd,ps,h1,h2,h3,h4,_⟩:=G.ex;exact⟨⟨C,fa,fd,ps,h1,h2,h3,h4⟩⟩
section
variable {X:Cx}{E:XK}{WX:Str->Hp->Prop}{c:Bool}{e:Expr}{es:List Expr}{fs:Aa->M (List D)}{pos:Pos}{H:Hp}
theorem XI {x:Str}{k n:Nat}{F:OT->List D->M (OT×OT)}{p:Pos}(xo:XCall X E)(G:U3 X.prog X.w X.K X.mg X.base x k n F)(hr:Bn (k+1) X.A)(hg:Gl X x)(ha:DA X (Cm X.K E) true (e::es) fs)(cw:(e::es).length+2=n)
 (aJ:(x==("__debug__" : Str))=false:=by decide) (he:starEach (e::es) X.env=(false,eval e X.env)::starEach es X.env:=by rfl) (a5:(backTo pos (starEach es X.env)).any (·.1)=false:=by rfl):
 DN X (Cm X.K E) (.Call (.Name x p) (e::es) [] pos) (λ ρ=>(fs ρ).bind λ ds=>KR (F (.ins x [] []) (ds++[.Ay]))):=by
 obtain⟨C,fa,fd,ps,hT,hM,hF,_,hb⟩:=G.ex;obtain⟨ta,a1,a2,a3⟩:=ha;refine⟨_,Tj hM hF hr hg hT.rE hb (show Vals [.Ay] [.none] from .cons (show RelV .Ay .none from rfl) .nil) xo.call a1 aJ he a5,λ P0 P σ H Q ρ Ev h=>?_⟩;dsimp only at h;refine a2 P0 P σ H _ ρ Ev ?_;cases q:fs ρ with
 |bad|ex x=>rw[q] at h;exact h
 |ok ds =>
  rw[q] at h;simp only[M.A6] at h;intro vs H1 s1 aE y dx hy hd ae;have E1:=Ev.same s1;have sm:=Kb (C:=C) hy hd;have b9:∀a∈[y],H1 a=none:=λ a ha=>by rw[zu.mp ha];exact hy
  refine⟨by rw[zp,zM,aE.length,a3 ρ ds q];exact cw,PU P [y],y,.ins x [] [],[y],vs++[.Ay],ds++[.Ay],rfl,λ a ha=>?_,λ a ha=>.inr ha,by simp,Bx.ins (fs:=[]) hT.ns Al .nil,(aE.mono (BU sm b9)).append (.cons .Ay .nil),?_⟩
  ·rcases ha with ha|ha
   ·exact (E1.BG a ha).same sm
   ·rw[zu.mp ha];exact⟨_,Al,λ xs=>⟨(λ z=>by cases z),(λ z w=>by cases w)⟩⟩
  ·cases q2:F (.ins x [] []) (ds++[.Ay]) with
   |bad|ex z=>rw[q2] at h;exact h
   |ok tr =>
    obtain⟨t,r⟩:=tr;rw[q2] at h;simp only[KR] at h;intro v H' P' ak fr k1 k2 k3 k4 k5 k6 k7 k8 k9 li;cases r with
    |sh d =>
     cases d with
     |Ay =>
      cases k6 with
      |sh hv =>
       cases hv;refine⟨rfl,h _ ak H' ?_ ?_ k5 ?_⟩
       ·intro b u eb;have e1:=s1 b u eb;have bf:b≠y:=λ z=>by rw[z,hy] at e1;cases e1
        have e2:=sm b u e1;by_cases hP:P b
        ·exact (k1 b (.inl hP) (by simp[bf])).2.trans e2
        ·exact (Aj (k3 b u (by rw[Aq λ z=>z.elim hP λ w=>bf (zu.mp w)];exact e2))).2
       ·intro b d9;cases eb:H b with
        |none=>rfl
        |some u =>
         exfalso;have e1:=s1 b u eb;have bf:b≠y:=λ z=>by rw[z,hy] at e1;cases e1
         have e2:=sm b u e1;have hn:=λ z=>bf (zu.mp ((k9 b d9).2 z));exact (Aj (k3 b u (by rw[Aq hn];exact e2))).1 (k9 b d9).1
       ·refine k4.move (λ b u eb=>?_) λ _ _=>rfl;obtain⟨g1,g2⟩:=Aj eb;rw[Aq]
        ·exact g2
        ·rintro (z|z)
         ·have bf:b≠y:=λ w=>by
           obtain⟨o,e1,_⟩:=E1.BG b z;rw[w,hy] at e1;cases e1
          exact g1 (k1 b (.inl z) (by simp[bf])).1
         ·exact g1 (k9 b z).1
     |_=>exact h.elim
    |_=>exact h.elim
end
theorem Bp {K:za}{mg:Str->Option Value}{h:Heap}{x:Str}{st:Stmt}{ps:List Str}(X:K.In h)(G:h.Ns mainGlobals mg)(p:FP K x st)(hb:∀(kV dc pm:Value) (an:Option Addr) (cd ct:Value) (us:List Value),us.length=ps.length->bindArgs (zT x x (AL st) (Az st) (A5 st) .none kV dc pm an cd ct) ⟨us,[]⟩=pure (ps.zip us):=by first | exact (λ _ _ _ _ _ _ us hl=>match us,hl with | [_],_=>rfl) | exact (λ _ _ _ _ _ _ us hl=>match us,hl with | [_,_],_=>rfl) | exact (λ _ _ _ _ _ _ us hl=>match us,hl with | [_,_,_],_=>rfl) | exact (λ _ _ _ _ _ _ us hl=>match us,hl with | [_,_,_,_],_=>rfl)):B4 K mg x st ps:=by
 obtain⟨f,oc,od,an,sl,kV,dc,pm,cd,ct,a,l,c,k⟩:=p.ex;have F:=RX (st:=st) l c k;exact⟨⟨_,_,F,PySem.W.mg_of X G a,F.binds hb⟩⟩
theorem Of {K:za}{C:Addr}{x m qual:Str}{st:Stmt}{ps:List Str}(aC:zd K mainGlobals x=some (some (.ref C)))(cl:UE K C)(p:MP K C m qual st)(hb:∀(kV dc pm:Value) (an:Option Addr) (cd ct:Value) (us:List Value),us.length=ps.length->bindArgs (zT m qual (AL st) (Az st) (A5 st) .none kV dc pm an cd ct) ⟨us,[]⟩=pure (ps.zip us):=by first | exact (λ _ _ _ _ _ _ us hl=>match us,hl with | [_],_=>rfl) | exact (λ _ _ _ _ _ _ us hl=>match us,hl with | [_,_],_=>rfl) | exact (λ _ _ _ _ _ _ us hl=>match us,hl with | [_,_,_],_=>rfl) | exact (λ _ _ _ _ _ _ us hl=>match us,hl with | [_,_,_,_],_=>rfl)):KQ K x m qual st ps:=by
 obtain⟨f,oc,od,an,sl,kV,dc,pm,cd,ct,a,i,l,c,k⟩:=p.ex;have F:=RX (st:=st) l c k;exact⟨⟨_,_,_,aC,cl,⟨a,i,k⟩,F,F.binds hb⟩⟩
open PySem PySem.W PySem.Calls PyProof.Rows
noncomputable def R0:Rn:=⟨topRun,Heap.nsMap,importEnds,fenceModules?,PySem.start,treeTable⟩
theorem iT:R0=R1:=by
 unfold R0 R1;rw[PySem.W.Fast.te14082659384304107361,PySem.W.Fast.te8920871248978507458,PySem.W.Fast.te10274390034422433532,PySem.W.Fast.te14289696077712309145,PySem.W.Fast.te1435165496053646825,PySem.W.Fast.te14364793385576792824]
theorem U4 (p:Program)(w:World)(N:Nat):openEnds treeTable p w N=Lx R0 p w N:=by
 unfold openEnds fencedOpening Lx;rfl
theorem Mo {h:Heap}{a:Addr}{o:Obj}:∀ {as:List Addr},(oR h as).lookup a=some o->h.get? a=some o
 |[],e=>by cases e
 |b::r,e=>by
  unfold oR at e;rw[List.filterMap_cons] at e;cases q:h.get? b with
  |none=>rw[q] at e;exact Mo (as:=r) e
  |some u =>
   rw[q] at e;dsimp only [yt] at e;rw[xh] at e;cases c:a==b with
   |true=>rw[c] at e;cases e;rw[eq_of_beq c];exact q
   |false=>rw[c] at e;exact Mo (as:=r) e
def nU (h h':Heap):Prop:=∀(b:Addr) (o:Obj),h.get? b=some o->h'.get? b=some o
theorem iU {h h':Heap}{as:List Addr}(s:nU h h'):(oR h as).In h':=λ a o e=>s a o (Mo e)
theorem ZT {p q:Program}{Xt:Shared->Bool}{N:Nat}(h:∀w:World,(openEnds treeTable p w N).map (λ s=>openSeen q [] (importedModules p.main.body) Xt true s)=some (openGood q [])):LeftO p q [] Xt (λ s=>s.heap) (λ w=>Wa R0 p w N) N:=λ w=>by
 have e:=h w;unfold Wa;dsimp only;rw[<-U4];cases q':openEnds treeTable p w N with
 |none=>rw[q'] at e;cases e
 |some s =>
  rw[q'] at e;rw[yt] at e ⊢;dsimp only;rw[z0 e]
theorem Pm {α β γ:Type}{o:Option γ}{f:γ->α×β}{a:α×β}(h:o.map (λ s=>(f s).1)=some a.1)(k:o.map (λ s=>(f s).2)=some a.2):o.map f=some a:=by
 cases o with
 |none=>cases h
 |some s =>
  rw[yt] at h k ⊢;exact congrArg some (Prod.ext (z0 h) (z0 k))
theorem nV {l:PySem.W.OpenLaw}{n k:Nat}{q:Program}{loose:List Str}{XP:(Str->Option Value)->Heap->Prop}{YP:World->Heap->Prop}{d:DefRec}{K:World->za}{CX:World->RN}{sp:World->Sp}{x:Str}
 (hn:l.most=some n) (aI:n<=sizeLine) (gi:d.params.defaults=[]) (hr:Bn k callerA) (hY:∀(w:World) (h:Heap),YP w h->(K w).In h)
 (F:∀(w:World) (mg:Str->Option Value) (fa:Addr) (h:Heap),(K w).In h->h.Ns mainGlobals mg->mg d.name=some (.ref fa)->∃fd:FuncData,(∀(s:Shared) (u:Value),BindsTo s fd ⟨[u],[]⟩ [(x,u)])/\
  ∀base:Heap,(K w).In base->base.Ns mainGlobals mg->CG l.prog w (K w) mg base (CX w) k fa fd [x] (sp w))
 (c9:∀(w:World) (H:Hp) (a:Addr) (ns:List Int),(∀n∈ns,Sm n)->ns.length<=n->Z8 H->Dt (K w) H a (ns.map V.int)->sp w [.ref a] H (λ v _=>v=.bl true) λ _ _ _=>False)
 (i4:∀(w:World) (H:Hp) (s:Shared) (e:Value) (s':Shared),CX w [] H s (λ _ _ _=>False) e s'->False):PySem.W.WalkO q loose XP YP l.row.toRowW d [] (λ f vs=>PySem.call f vs):=by
 refine HT.NT hn gi λ w s₀ s₁ mg mb fa o pm cd doc a vs ns dz G Y ho hd bv gj cu bw hlen hg=>?_;have KX:=hY w _ Y;obtain⟨fd,hb,hF⟩:=F w mg fa _ KX G.T.g gj;exact Qb KX G.T.g G.T.b G.T.builtins G.T.nolimit hg cu bw (yk hlen aI) hr hF hb (λ H hO hS=>c9 w H a ns dz hlen hO hS) λ H e s'=>i4 w H s₁ e s'
noncomputable def cst:Option (Int×Int)->D
 |none=>.Ay
 |some p=>.tup [.int p.1,.int p.2]
noncomputable def AS:Option (Int×Int)->Option (Int×Int)->Option (Int×Int)
 |some p,some q=>some (p.1+q.1,p.2+q.2)
 |_,_=>none
noncomputable def kQ (p q:Int×Int):Int×Int:=if p.1<q.1\/(p.1=q.1/\p.2<=q.2) then p else q
noncomputable def Ic:Option (Int×Int)->Option (Int×Int)->Option (Int×Int)
 |none,b=>b
 |some p,none=>some p
 |some p,some q=>some (kQ p q)
noncomputable def Mp (cs:List (Option (Int×Int))):Option (Int×Int):=cs.foldl Ic none
theorem KS (cs:List (Option (Int×Int))):AM (λ d ρ=>.ok (ρ.set 0 (some (.val d)))) (λ ρ=>(rv 0 ρ).bind λ x=>.ok (!Cr x)) (rv 0) (cs.map cst) [none]=.ok ((cs.filterMap id).map λ p=>cst (some p)):=by
 induction cs with
 |nil=>rfl
 |cons c r ih =>
  rw[zh,AM];cases c with
  |none =>
   show AM _ _ _ (r.map cst) [none]=_;rw[ih];rfl
  |some p =>
   show (match AM _ _ _ (r.map cst) [none] with | .ok ys=>M.ok (cst (some p)::ys)|_=>.bad)=_;rw[ih];rfl
theorem Vx (ps:List (Int×Int)):GJ (ps.map λ p=>cst (some p))=some (ps.map λ p=>(cst (some p),[p.1,p.2])):=by
 induction ps with
 |nil=>rfl
 |cons p r ih=>rw[zh,GJ,ih];rfl
theorem XJ (cs:List (Option (Int×Int))):AQ ((cs.filterMap id).map λ p=>(cst (some p),[p.1,p.2]))=(Mp cs).map λ p=>(cst (some p),[p.1,p.2]):=by
 have key:∀(cs:List (Option (Int×Int))) (z:Option (Int×Int)),((cs.filterMap id).map λ p=>(cst (some p),[p.1,p.2])).foldl By (z.map λ p=>(cst (some p),[p.1,p.2]))=(cs.foldl Ic z).map λ p=>(cst (some p),[p.1,p.2]):=by
  intro cs;induction cs with
  |nil=>intro z;rfl
  |cons c r ih =>
   intro z;cases c with
   |none =>
    rw[show List.filterMap id (none::r)=List.filterMap id r from rfl,zU,ih z];cases z<;>rfl
   |some q =>
    rw[show List.filterMap id (some q::r)=q::List.filterMap id r from rfl,zh,zU,zU,<-ih (Ic z (some q))];congr 1;cases z with
    |none=>rfl
    |some p =>
     simp only[yt,By,HT.FO,HT.ER,Ic,kQ];by_cases h1:q.1=p.1
     ·by_cases h2:q.2=p.2
      ·rw[if_pos (show p.1<q.1\/(p.1=q.1/\p.2<=q.2) by omega)];simp[h1,h2]
      ·by_cases h3:q.2<p.2
       ·rw[if_neg (show ¬ (p.1<q.1\/(p.1=q.1/\p.2<=q.2)) by omega)];simp[h1,h2,h3]
       ·rw[if_pos (show p.1<q.1\/(p.1=q.1/\p.2<=q.2) by omega)];simp[h1,h2,h3]
     ·by_cases h3:q.1<p.1
      ·rw[if_neg (show ¬ (p.1<q.1\/(p.1=q.1/\p.2<=q.2)) by omega)];simp[h1,h3]
      ·rw[if_pos (show p.1<q.1\/(p.1=q.1/\p.2<=q.2) by omega)];simp[h1,h3]
 exact key cs none
theorem ZU (cs:List (Option (Int×Int))):Tz (.lst ((cs.filterMap id).map λ p=>cst (some p))) .Ay=.ok (cst (Mp cs)):=by
 simp only[Tz,Vx,XJ];cases Mp cs<;>rfl
theorem XM (cs:List (Option (Int×Int))):GI (AM (λ d ρ=>.ok (ρ.set 0 (some (.val d)))) (λ ρ=>(rv 0 ρ).bind λ x=>.ok (!Cr x)) (rv 0) (cs.map cst) [none])=.ok (.lst ((cs.filterMap id).map λ p=>cst (some p))):=by
 rw[KS];rfl
noncomputable abbrev Co:=Option (Int×Int)
def Dz:Co->Co->Prop
 |_,none=>True
 |none,some _=>False
 |some p,some q=>p.1<q.1\/(p.1=q.1/\p.2<=q.2)
theorem Dd:∀a:Co,Dz a a
 |none=>trivial
 |some p=>.inr ⟨rfl,Int.le_refl _⟩
theorem B3:∀ {a b c:Co},Dz a b->Dz b c->Dz a c
 |_,_,none,_,_=>trivial
 |none,none,some _,_,h|some _,none,some _,_,h|none,some _,some _,h,_=>h.elim
 |some p,some q,some r,h1,h2=>by simp only[Dz] at *;omega
theorem Mq:∀ {a b:Co},Dz a b->Dz b a->a=b
 |none,none,_,_=>rfl
 |none,some _,h,_|some _,none,_,h=>h.elim
 |some p,some q,h1,h2=>by
  obtain⟨p1,p2⟩:=p;obtain⟨q1,q2⟩:=q;simp only[Dz] at h1 h2;have e1:p1=q1:=by omega
  have e2:p2=q2:=by omega
  rw[e1,e2]
theorem E8:∀a b:Co,(Ic a b=a/\Dz a b)\/(Ic a b=b/\Dz b a/\a≠b)
 |none,none=>.inl ⟨rfl,trivial⟩
 |none,some q=>.inr ⟨rfl,trivial,λ h=>by cases h⟩
 |some p,none=>.inl ⟨rfl,trivial⟩
 |some p,some q=>by
  unfold Ic kQ;by_cases h:p.1<q.1\/(p.1=q.1/\p.2<=q.2)
  ·dsimp only;rw[if_pos h];exact .inl ⟨rfl,h⟩
  ·dsimp only;rw[if_neg h];refine .inr ⟨rfl,?_,λ e=>?_⟩
   ·simp only[Dz];omega
   ·cases e;exact h (.inr ⟨rfl,Int.le_refl _⟩)
theorem Lr (a b:Co):Dz (Ic a b) a:=by
 rcases E8 a b with ⟨e,h⟩|⟨e,h,_⟩
 ·rw[e];exact Dd a
 ·rw[e];exact h
theorem Ls (a b:Co):Dz (Ic a b) b:=by
 rcases E8 a b with ⟨e,h⟩|⟨e,h,_⟩
 ·rw[e];exact h
 ·rw[e];exact Dd b
theorem QM (cs:List Co):∀z:Co,Dz (cs.foldl Ic z) z/\(∀x∈cs,Dz (cs.foldl Ic z) x)/\(cs.foldl Ic z=z\/cs.foldl Ic z∈cs):=by
 induction cs with
 |nil=>intro z;exact⟨Dd z,(λ x h=>by cases h),.inl rfl⟩
 |cons c r ih =>
  intro z;obtain⟨h1,h2,h3⟩:=ih (Ic z c);rw[zU];refine⟨B3 h1 (Lr z c),λ x hx=>?_,?_⟩
  ·rcases zq.mp hx with rfl|hx
   ·exact B3 h1 (Ls z x)
   ·exact h2 x hx
  ·rcases h3 with h3|h3
   ·rw[h3];rcases E8 z c with ⟨e,_⟩|⟨e,_⟩
    ·exact .inl e
    ·rw[e];exact .inr zc
   ·exact .inr (zf _ h3)
theorem U5 {cs:List Co}{x:Co}(h:x∈cs):Dz (Mp cs) x:=(QM cs none).2.1 x h
theorem Mr (cs:List Co):Mp cs=none\/Mp cs∈cs:=(QM cs none).2.2
theorem ZV {cs:List Co}{v:Co}(h1:∀x∈cs,Dz v x)(h2:v≠none->∃x∈cs,Dz x v):Mp cs=v:=by
 refine Mq ?_ ?_
 ·cases v with
  |none=>cases Mp cs<;>exact trivial
  |some p =>
   obtain⟨x,hx,hl⟩:=h2 (by intro z;cases z);exact B3 (U5 hx) hl
 ·rcases Mr cs with h|h
  ·rw[h];cases v<;>exact trivial
  ·exact h1 _ h
theorem Og:∀a b:Co,AS a b=AS b a
 |none,none=>rfl
 |none,some _|some _,none=>rfl
 |some p,some q=>by simp only[AS];rw[Int.add_comm,Int.add_comm p.2]
theorem Kc:∀ {a b:Co}(c:Co),Dz a b->Dz (AS a c) (AS b c)
 |_,none,c,_=>by cases c<;>exact trivial
 |none,some _,c,h=>h.elim
 |some p,some q,none,h=>trivial
 |some p,some q,some r,h=>by simp only[AS,Dz] at *;omega
def NN:Co->Prop
 |none=>True
 |some p=>0<=p.1/\0<=p.2
theorem XN:∀ {a b:Co},NN a->NN b->NN (AS a b)
 |none,none,_,_=>trivial
 |none,some _,_,_|some _,none,_,_=>trivial
 |some p,some q,h1,h2=>by simp only[AS,NN] at *;omega
theorem nW {a b:Co}(h1:NN a)(h2:NN b):NN (Ic a b):=by
 rcases E8 a b with ⟨e,_⟩|⟨e,_⟩
 ·rw[e];exact h1
 ·rw[e];exact h2
def ltN (a b:Co):Prop:=NN a/\Dz a b/\a≠b
theorem Vy (a b c:Co)(h1:ltN a b)(h2:ltN b c):ltN a c:=
 ⟨h1.1,B3 h1.2.1 h2.2.1,λ e=>by subst e;exact h1.2.2 (Mq h1.2.1 h2.2.1)⟩
noncomputable def rank:Co->Nat×Nat×Nat
 |none=>(1,0,0)
 |some p=>(0,p.1.toNat,p.2.toNat)
theorem iV:∀a:Co,NN a->Acc ltN a:=by
 have wf:WellFounded (InvImage (Prod.Lex (· < ·) (Prod.Lex (· < ·) (· < ·))) rank):=InvImage.wf rank (Prod.lex Nat.lt_wfRel (Prod.lex Nat.lt_wfRel Nat.lt_wfRel)).wf;intro a;induction a using wf.induction with
 |h a ih =>
  intro ha;refine .intro _ λ b ⟨hb,hl,ae⟩=>ih b ?_ hb;cases b with
  |none=>cases a with
   |none=>exact (ae rfl).elim
   |some p=>exact hl.elim
  |some q=>cases a with
   |none=>exact Prod.Lex.left _ _ (by decide)
   |some p =>
    obtain⟨p1,p2⟩:=p;obtain⟨q1,q2⟩:=q;simp only[Dz,NN] at hl ha hb;show Prod.Lex _ _ (0,q1.toNat,q2.toNat) (0,p1.toNat,p2.toNat);refine Prod.Lex.right _ ?_;by_cases h:q1<p1
    ·exact Prod.Lex.left _ _ (by omega)
    ·have e:q1=p1:=by omega
     subst e;have h2:q2≠p2:=λ e=>ae (by rw[e]);exact Prod.Lex.right _ (by omega)
theorem ZW (a:Co):Acc ltN a:=.intro _ λ b h=>iV b h.1
theorem Vz (cs:List Co):Acc (N8 ltN) cs:=M5 ltN ZW cs.length cs rfl
structure Road where
 a:Int
 b:Int
 l:Option Int
 w:Int
noncomputable def BE:Option Int->D
 |none=>.Ay
 |some i=>.int i
noncomputable def C2 (r:Road):D:=.tup [.int r.a,.int r.b,BE r.l,.int r.w]
noncomputable def Ae (m:Int)(rs:List Road):D:=.tup [.int m,.lst (rs.map C2)]
noncomputable def Dg (r:Road):Co:=match r.l with | none=>none | some l=>some (l,1)
structure Ie (m:Nat)(r:Road):Prop where
 a0:0<=r.a
 a1:r.a<m
 b0:0<=r.b
 b1:r.b<m
 l0:∀l,r.l=some l->0<=l
theorem eF {m:Nat}{r:Road}(h:Ie m r):NN (Dg r):=by
 unfold Dg;split
 ·trivial
 ·rename_i l e;exact⟨h.l0 l e,by show (0:Int)<=1;decide⟩
noncomputable def atC (cs:List Co)(i:Int):Co:=cs.getD i.toNat none
theorem FZ {cs:List Co}{i:Int}(h0:0<=i)(h1:i<cs.length):cs[i.toNat]?=some (atC cs i):=by
 unfold atC;rw[zC,zg (show i.toNat<cs.length by omega)];rfl
theorem set_same {α:Type}:∀ {l:List α}{i:Nat}{x:α},l[i]?=some x->l.set i x=l
 |[],_,_,h=>by cases h
 |y::r,0,x,h=>by cases h;rfl
 |y::r,i+1,x,h=>by rw[zy,set_same (by simpa using h)]
noncomputable def CW (r:Road)(cs:List Co):List Co:=cs.set r.b.toNat (Ic (atC cs r.b) (AS (atC cs r.a) (Dg r)))
theorem U6 {cs:List Co}{i j:Int}{v:Co}(hi:0<=i)(hj:0<=j)(h1:i<cs.length):atC (cs.set i.toNat v) j=if j=i then v else atC cs j:=by
 unfold atC;rw[zC,zC];by_cases h:j=i
 ·subst h;rw[if_pos rfl,zZ (by omega)];rfl
 ·rw[if_neg h,yx (by omega)]
structure Good (m s:Nat)(rs:List Road)(cs:List Co):Prop where
 len:cs.length=m
 st:atC cs s=some (0,0)
 nn:∀c∈cs,NN c
 sup:∀p:Int,0<=p->p<m->p≠s->atC cs p≠none->∃r∈rs,r.b=p/\Dz (AS (atC cs r.a) (Dg r)) (atC cs p)
theorem Good.eG {m s:Nat}{rs:List Road}{cs:List Co}(g:Good m s rs cs){i:Int}(h0:0<=i)(h1:i<m):NN (atC cs i):=
 g.nn _ (zr (FZ h0 (by rw[g.len];exact h1)))
theorem VA {m s:Nat}{rs:List Road}{cs:List Co}{r:Road}(g:Good m s rs cs)(hr:r∈rs)(Ar:∀r∈rs,Ie m r):
 Good m s rs (CW r cs)/\(∀i:Int,0<=i->Dz (atC (CW r cs) i) (atC cs i))/\(Ic (atC cs r.b) (AS (atC cs r.a) (Dg r))=atC cs r.b->CW r cs=cs)/\
 (Ic (atC cs r.b) (AS (atC cs r.a) (Dg r))≠atC cs r.b->N8 ltN (CW r cs) cs):=by
 have ok:=Ar r hr;have ie:r.b<cs.length:=by rw[g.len];exact ok.b1
 have hx:NN (AS (atC cs r.a) (Dg r)):=XN (g.eG ok.a0 ok.a1) (eF ok);have hv:NN (Ic (atC cs r.b) (AS (atC cs r.a) (Dg r))):=nW (g.eG ok.b0 ok.b1) hx;have ig:∀i:Int,0<=i->atC (CW r cs) i=if i=r.b then Ic (atC cs r.b) (AS (atC cs r.a) (Dg r)) else atC cs i:=λ i hi=>U6 ok.b0 hi ie
 have le:∀i:Int,0<=i->Dz (atC (CW r cs) i) (atC cs i):=λ i hi=>by
  rw[ig i hi];by_cases h:i=r.b
  ·rw[if_pos h,h];exact Lr _ _
  ·rw[if_neg h];exact Dd _
 refine⟨⟨by unfold CW;rw[yL];exact g.len,?_,λ c hc=>?_,λ p h0 h1 hp hn=>?_⟩,le,λ h=>?_,λ h=>?_⟩
 ·rw[ig s (by omega)];by_cases h:(s:Int)=r.b
  ·rw[if_pos h,<-h,g.st];cases q:AS (atC cs r.a) (Dg r) with
   |none=>rfl
   |some x =>
    rw[q] at hx;unfold Ic kQ;dsimp only;rw[if_pos (by simp only[NN] at hx;omega)]
  ·rw[if_neg h];exact g.st
 ·unfold CW at hc;rcases List.mem_or_eq_of_mem_set hc with h|h
  ·exact g.nn c h
  ·rw[h];exact hv
 ·rw[ig p h0] at hn ⊢;by_cases h:p=r.b
  ·rw[if_pos h] at hn ⊢;rcases E8 (atC cs r.b) (AS (atC cs r.a) (Dg r)) with ⟨e,_⟩|⟨e,_⟩
   ·rw[e] at hn ⊢;subst h;obtain⟨r',h2,h3,h4⟩:=g.sup r.b h0 h1 hp hn;exact⟨r',h2,h3,B3 (Kc _ (le r'.a (Ar r' h2).a0)) h4⟩
   ·rw[e];exact⟨r,hr,h.symm,Kc _ (le r.a ok.a0)⟩
  ·rw[if_neg h] at hn ⊢;obtain⟨r',h2,h3,h4⟩:=g.sup p h0 h1 hp hn;exact⟨r',h2,h3,B3 (Kc _ (le r'.a (Ar r' h2).a0)) h4⟩
 ·unfold CW;rw[h];exact set_same (FZ ok.b0 ie)
 ·unfold CW;exact TF ltN (FZ ok.b0 ie) ⟨hv,Lr _ _,h⟩
def Right (m s:Nat)(rs:List Road)(cs:List Co):Prop:=
 cs.length=m/\atC cs s=some (0,0)/\(∀c∈cs,NN c)/\∀p:Int,0<=p->p<m->p≠s->atC cs p=Mp ((rs.filter λ r=>decide (r.b=p)).map λ r=>AS (Dg r) (atC cs r.a))
theorem right_of {m s:Nat}{rs:List Road}{cs:List Co}(g:Good m s rs cs)(h:∀r∈rs,Ic (atC cs r.b) (AS (atC cs r.a) (Dg r))=atC cs r.b):Right m s rs cs:=by
 refine⟨g.len,g.st,g.nn,λ p h0 h1 hp=>?_⟩;symm;refine ZV (λ x hx=>?_) λ hn=>?_
 ·obtain⟨r,hr,rfl⟩:=zJ.mp hx;obtain⟨h2,h3⟩:=yv.mp hr;have e:r.b=p:=by simpa using h3
  have:=Ls (atC cs r.b) (AS (atC cs r.a) (Dg r));rw[h r h2,e] at this;rw[Og];exact this
 ·obtain⟨r,h2,h3,h4⟩:=g.sup p h0 h1 hp hn;refine⟨_,zJ.mpr ⟨r,yv.mpr ⟨h2,by simpa using h3⟩,rfl⟩,?_⟩;rw[Og];exact h4
theorem Su {m s:Nat}(rs:List Road)(h:s<m):Good m s rs ((zD m none).set s (some (0,0))):=by
 have hl:(zD m (none:Co)).length=m:=List.length_replicate;have ig:∀i:Int,0<=i->atC ((zD m none).set s (some (0,0))) i=if i=s then some (0,0) else none:=λ i hi=>by
  have:=U6 (cs:=zD m none) (i:=(s:Int)) (j:=i) (v:=some (0,0)) (by omega) hi (by rw[hl];omega);rw[y9] at this;rw[this];by_cases h:i=s
  ·rw[if_pos h,if_pos h]
  ·rw[if_neg h,if_neg h];unfold atC;rw[zC,List.getElem?_replicate];split<;>rfl
 refine⟨by rw[yL,hl],?_,λ c hc=>?_,λ p h0 h1 hp hn=>?_⟩
 ·rw[ig s (by omega),if_pos rfl]
 ·rcases List.mem_or_eq_of_mem_set hc with h|h
  ·rw[List.eq_of_mem_replicate h];trivial
  ·rw[h];exact⟨Int.le_refl _,Int.le_refl _⟩
 ·rw[ig p h0,if_neg hp] at hn;exact (hn rfl).elim
theorem iW {α:Type}{l:List α}{n:Int}(h:0<=n/\n<l.length):Rz l n=l[n.toNat]? :=by
 unfold Rz RQ;obtain⟨h1,h2⟩:=h;simp[h1,h2]
theorem ZX {n:Nat}{j:Int}(h:0<=j/\j<n):RQ n j=some j.toNat:=by
 unfold RQ;obtain⟨h1,h2⟩:=h;simp[h1,h2]
theorem ZY {α:Type}{f:α->D}{l:List α}{n:Int}{x:α}(h0:0<=n)(h:l[n.toNat]?=some x):kJ (.lst (l.map f)) (.int n)=.ok (f x):=by
 have h1:=(zE.mp h).1;unfold kJ;dsimp only;rw[iW (by rw[ze];omega),zw,h];rfl
theorem Ms {cs:List Co}{i:Int}(h0:0<=i)(h1:i<cs.length):kJ (.lst (cs.map cst)) (.int i)=.ok (cst (atC cs i)):=ZY h0 (FZ h0 h1)
theorem Mt {n:Nat}(c:Co):Pl (n+1) (cst c):=by
 cases c with
 |none=>exact S8
 |some p=>exact Pb (D5 (C7 _) (D5 (C7 _) Pc))
theorem U7 (a b:Co):Av (cst a) (cst b)=decide (a=b):=by
 rcases a with _|⟨a1,a2⟩<;>rcases b with _|⟨b1,b2⟩
 ·simp[cst,Av]
 ·simp[cst,Av]
 ·simp[cst,Av]
 ·rw[xf];simp[cst,Av,C5]
theorem ZZ (a b:Co):WV 16 (cst a) (cst b)=.ok (.bl (!decide (a=b))):=by rw[Sb (Mt (n:=15) a) (Mt (n:=15) b),U7]
theorem cM (a b:Co):Zl 16 (cst a) (cst b)=.ok (.bl (decide (a=b))):=by rw[Sa (Mt (n:=15) a) (Mt (n:=15) b),U7]
theorem cN (c:Co):JP (cst c)=true:=by
 cases c<;>simp[cst,JP,Jn]
theorem Kd (c:Co):dp (.ok (cst c))=.ok (cst c):=by
 unfold dp;rw[M.A6,if_pos (cN c)]
theorem iX {n:Nat}(l:Option Int):Pl n (BE l):=by
 cases l with
 |none=>exact S8
 |some i=>exact C7 i
theorem nX (r:Road):Pl 1 (C2 r):=Pb (D5 (C7 _) (D5 (C7 _) (D5 (iX r.l) (D5 (C7 _) Pc))))
theorem XO (m:Int)(rs:List Road):Pl 3 (Ae m rs):=Pb (D5 (C7 _) (D5 (S9 λ d hd=>by
 obtain⟨r,_,rfl⟩:=zJ.mp hd;exact nX r) Pc))
theorem Bl {a b:Int}(h:0<b):GG (.int a) (.int b)=.ok (.int (a%b)):=by
 unfold GG Bg;dsimp only;rw[if_pos h]
theorem HL {a b:Int}(h:OK a b):LS (.int a) (.int b)=.ok (.int (a / b)):=by
 unfold LS Bg;dsimp only;rw[if_pos h]
inductive Wk (rs:List Road):Int->Int->Int×Int->Prop
 |nil (u:Int):Wk rs u u (0,0)
 |cons {r:Road} {l:Int} {w:Int} {c:Int×Int}:r∈rs->r.l=some l->Wk rs r.b w c->Wk rs r.a w (l+c.1,1+c.2)
theorem Wk.trans {rs:List Road}{u v w:Int}{c d:Int×Int}(h:Wk rs u v c)(k:Wk rs v w d):Wk rs u w (c.1+d.1,c.2+d.2):=by
 induction h with
 |nil u=>simpa using k
 |cons hr hl _ ih =>
  have:=Wk.cons hr hl (ih k);simpa [Int.add_assoc] using this
theorem Wk.one {rs:List Road}{r:Road}{l:Int}(hr:r∈rs)(hl:r.l=some l):Wk rs r.a r.b (l,1):=by
 have:=Wk.cons hr hl (Wk.nil (rs:=rs) r.b);simpa using this
def Oh (rs:List Road)(u w:Int)(x:Co):Prop:=(∀c,Wk rs u w c->Dz x (some c))/\∀p,x=some p->Wk rs u w p
theorem Oh.BS {rs:List Road}{u w:Int}{x y:Co}(h:Oh rs u w x)(k:Oh rs u w y):x=y:=by
 refine Mq ?_ ?_
 ·cases y with
  |none=>cases x<;>exact trivial
  |some q=>exact h.1 q (k.2 q rfl)
 ·cases x with
  |none=>cases y<;>exact trivial
  |some q=>exact k.1 q (h.2 q rfl)
theorem Mu {r:Road}{c:Int×Int}(h:Dg r=some c):∃l,r.l=some l/\c=(l,1):=by
 unfold Dg at h;split at h
 ·cases h
 ·rename_i l e;cases h;exact⟨l,e,rfl⟩
theorem Ke {a b:Co}{c:Int×Int}(h:AS a b=some c):∃p q,a=some p/\b=some q/\c=(p.1+q.1,p.2+q.2):=by
 cases a with
 |none=>cases h
 |some p=>cases b with
  |none=>cases h
  |some q=>cases h;exact⟨p,q,rfl,rfl,rfl⟩
theorem Right.min_le {m s:Nat}{rs:List Road}{cs:List Co}(h:Right m s rs cs){r:Road}(hr:r∈rs)(Ar:Ie m r):Dz (atC cs r.b) (AS (Dg r) (atC cs r.a)):=by
 obtain⟨h1,h2,h3,h4⟩:=h;by_cases hs:r.b=s
 ·rw[hs,h2];have hn:NN (AS (Dg r) (atC cs r.a)):=XN (eF Ar) (h3 _ (zr (FZ Ar.a0 (by rw[h1];exact Ar.a1))));cases q:AS (Dg r) (atC cs r.a) with
  |none=>exact trivial
  |some p=>rw[q] at hn;simp only[NN] at hn;simp only[Dz];omega
 ·rw[h4 r.b Ar.b0 Ar.b1 hs];exact U5 (zJ.mpr ⟨r,yv.mpr ⟨hr,by simp⟩,rfl⟩)
theorem VB {m s:Nat}{rs:List Road}{cs:List Co}(h:Right m s rs cs)(Ar:∀r∈rs,Ie m r){u w:Int}{c:Int×Int}(k:Wk rs u w c):Dz (atC cs w) (AS (atC cs u) (some c)):=by
 induction k with
 |nil u =>
  cases atC cs u with
  |none=>exact trivial
  |some p=>simp only[AS,Dz];omega
 | @cons r l w c hr hl _ ih =>
  refine B3 ih ?_;have h1:=h.min_le hr (Ar r hr);have e:Dg r=some (l,1):=by unfold Dg;rw[hl]
  rw[e] at h1;cases q:atC cs r.a with
  |none=>exact trivial
  |some p =>
   rw[q] at h1;cases q2:atC cs r.b with
   |none=>rw[q2] at h1;exact h1.elim
   |some p2=>rw[q2] at h1;simp only[AS,Dz] at *;omega
theorem VC {m s:Nat}{rs:List Road}{cs:List Co}(h:Right m s rs cs)(Ar:∀r∈rs,Ie m r):∀(n:Nat) (w:Int) (p:Int×Int),0<=w->w<m->atC cs w=some p->p.2.toNat=n->Wk rs s w p:=by
 obtain⟨h1,h2,h3,h4⟩:=h;intro n;induction n with
 |zero =>
  intro w p h0 hw hp hn;by_cases hs:w=s
  ·rw[hs,h2] at hp;cases hp;rw[hs];exact .nil _
  ·exfalso;have e:=h4 w h0 hw hs;rw[hp] at e;rcases Mr ((rs.filter λ r=>decide (r.b=w)).map λ r=>AS (Dg r) (atC cs r.a)) with z|z
   ·rw[z] at e;cases e
   ·rw[<-e] at z;obtain⟨r,hr,e2⟩:=zJ.mp z;have dL:=(yv.mp hr).1;obtain⟨p1,p2,e3,e4,e5⟩:=Ke e2;obtain⟨l,hl,rfl⟩:=Mu e3;have ok:=Ar r dL;have nn:=h3 _ (zr (FZ ok.a0 (by rw[h1];exact ok.a1)));rw[e4] at nn;simp only[NN] at nn;rw[e5] at hn;simp only at hn;omega
 |succ n ih =>
  intro w p h0 hw hp hn;by_cases hs:w=s
  ·rw[hs,h2] at hp;cases hp;rw[hs];exact .nil _
  ·have e:=h4 w h0 hw hs;rw[hp] at e;rcases Mr ((rs.filter λ r=>decide (r.b=w)).map λ r=>AS (Dg r) (atC cs r.a)) with z|z
   ·rw[z] at e;cases e
   ·rw[<-e] at z;obtain⟨r,hr,e2⟩:=zJ.mp z;obtain⟨dL,pk⟩:=yv.mp hr;have pk:r.b=w:=by simpa using pk
    obtain⟨p1,p2,e3,e4,e5⟩:=Ke e2;obtain⟨l,hl,rfl⟩:=Mu e3;have ok:=Ar r dL;have nn:=h3 _ (zr (FZ ok.a0 (by rw[h1];exact ok.a1)));rw[e4] at nn;simp only[NN] at nn;subst e5;simp only at hn;have w1:=ih r.a p2 ok.a0 ok.a1 e4 (by omega);have w2:=w1.trans (Wk.one dL hl);rw[pk] at w2;have e6:((l+p2.1,1+p2.2):Int×Int)=(p2.1+l,p2.2+1):=by rw[Int.add_comm l,Int.add_comm 1]
    show Wk rs s w (l+p2.1,1+p2.2);rw[e6];exact w2
theorem Right.nY {m s:Nat}{rs:List Road}{cs:List Co}(h:Right m s rs cs)(Ar:∀r∈rs,Ie m r){w:Int}(h0:0<=w)(hw:w<m):Oh rs s w (atC cs w):=by
 refine⟨λ c k=>?_,λ p hp=>VC h Ar _ w p h0 hw hp rfl⟩;have:=VB h Ar k;rw[h.2.1] at this;have e:AS (some (0,0)) (some c)=some c:=by simp[AS]
 rw[e] at this;exact this
noncomputable def hit (rs:List Road)(cs:List Co)(p:Nat)(k:Nat):Bool:=match rs[k]? with
 |some r=>decide (r.b=(p:Int))&&decide (AS (atC cs r.a) (Dg r)≠none)&&decide (AS (atC cs r.a) (Dg r)=atC cs (p:Int))
 |none=>false
theorem Wk.nn {m:Nat}{rs:List Road}(Ar:∀r∈rs,Ie m r){u w:Int}{c:Int×Int}(h:Wk rs u w c):0<=c.1/\0<=c.2:=by
 induction h with
 |nil=>exact⟨Int.le_refl _,Int.le_refl _⟩
 |cons hr hl _ ih =>
  have:=(Ar _ hr).l0 _ hl;simp only;omega
noncomputable def pD (p:Int×Int):D:=.tup [.int p.1,.int p.2]
theorem GU (p q:Int×Int):Av (pD p) (pD q)=decide (p=q):=by
 obtain⟨a,b⟩:=p;obtain⟨c,d⟩:=q;unfold pD;simp only[Av,C5,Bool.and_true];rw[xf];simp
theorem JA (p:Int×Int):keyOk true (pD p)=true:=rfl
theorem U8 (B:List (Int×Int))(p:Int×Int):L9 (B.map pD) (pD p)=decide (p∈B):=by
 unfold L9;rw[List.any_map,xf];simp only[List.any_eq_true,Function.comp,GU,decide_eq_true_eq];constructor
 ·rintro ⟨x,hx,rfl⟩;exact hx
 ·intro h;exact⟨p,h,rfl⟩
theorem Pn (B:List (Int×Int))(vs:List D)(neg:Bool)(a b:Int):Nk neg (.tup [.int a,.int b]) (.B8 true (B.map pD) vs)=.ok (.bl (if neg=true then !decide ((a,b)∈B) else decide ((a,b)∈B))):=by
 unfold Nk;dsimp only;have h1:keyOk true (D.tup [D.int a,D.int b])=true:=rfl;have h2:L9 (B.map pD) (D.tup [D.int a,D.int b])=decide ((a,b)∈B):=U8 B (a,b);rw[if_pos h1,h2]
noncomputable def Kf (B:List (Int×Int))(p:Int×Int):List (Int×Int):=if p∈B then B else B++[p]
noncomputable def CJ {α:Type}(B:List α):List D:=B.map λ _=>.bl true
theorem Oi {α:Type}(f:α->D)(y:D):∀B:List α,IC (B.map f) (CJ B) y (.bl true)=CJ B
 |[]=>rfl
 |b::r=>by
  show IC (f b::r.map f) (.bl true::CJ r) y (.bl true)=.bl true::CJ r;rw[IC,Oi f y r];split<;>rfl
theorem U9 (B:List (Int×Int))(p:Int×Int):putD (B.map pD) (CJ B) (pD p) (.bl true)=((Kf B p).map pD,CJ (Kf B p)):=by
 unfold putD Kf;rw[U8];by_cases h:p∈B
 ·rw[decide_eq_true h,if_pos rfl,if_pos h,Oi]
 ·rw[decide_eq_false h,if_neg (by simp),if_neg h];unfold CJ;simp
theorem QN {B:List (Int×Int)}{p q:Int×Int}:q∈Kf B p↔q∈B\/q=p:=by
 unfold Kf;split
 ·constructor
  ·exact .inl
  ·rintro (h|rfl)
   ·exact h
   ·assumption
 ·simp
theorem Sv {B:List (Int×Int)}{p:Int×Int}(h:B.Nodup):(Kf B p).Nodup:=by
 unfold Kf;split
 ·exact h
 ·rename_i hn;exact zN.mpr ⟨h,by simp,λ a ha b hb z=>by simp at hb;subst hb;subst z;exact hn ha⟩
theorem Kg {α:Type}[DecidableEq α]:∀ {l u:List α},l.Nodup->(∀x∈l,x∈u)->l.length<=u.length
 |[],_,_,_=>zQ _
 |x::r,u,nd,h=>by
  have br:=yf.mp nd;have hx:=h x zc;have ih:=Kg (l:=r) (u:=u.erase x) br.2 λ y hy=>(List.mem_erase_of_ne (λ z=>br.1 (by rw[<-z];exact hy))).mpr (h y (zf _ hy));have e:=List.length_erase_of_mem hx;have:0<u.length:=List.length_pos_of_mem hx;rw[zp];omega
theorem Sw (p:Int×Int):JP (pD p)=true:=by simp[pD,JP,Jn]
noncomputable def AN (m:Nat):List Int:=(zR m).map λ i:Nat=>(i:Int)
theorem Mv (m:Nat):((zR m).map λ i:Nat=>D.int (i:Int))=(AN m).map D.int:=by unfold AN;rw[yj];rfl
theorem FE (m:Nat):(AN m).length=m:=by unfold AN;simp
theorem JB {m:Nat}{p:Int}:p∈AN m↔0<=p/\p<m:=by
 unfold AN;constructor
 ·intro h;obtain⟨i,hi,rfl⟩:=zJ.mp h;have:=xk.mp hi;omega
 ·rintro ⟨h0,h1⟩;exact zJ.mpr ⟨p.toNat,xk.mpr (by omega),by omega⟩
noncomputable def AW (B:List (Int×Int))(L:List Int)(v:Int):List (Int×Int):=(L.filter λ u=>decide ((u,v)∈B)).flatMap λ u=>((L.filter λ w=>decide ((v,w)∈B)).filter λ w=>decide (u≠w) && !decide ((u,w)∈B)).map λ w=>(u,w)
def iY (B:List (Int×Int)):Prop:=∀x,(x,x)∉B
theorem VD (B:List (Int×Int))(L:List Int)(v:Int):(AW B L v).length<=L.length*L.length:=by
 unfold AW;rw[List.length_flatMap];have key:∀l:List Int,(l.map λ u=>(((L.filter λ w=>decide ((v,w)∈B)).filter λ w=>decide (u≠w) && !decide ((u,w)∈B)).map λ w=>(u,w)).length).sum<=l.length*L.length:=by
  intro l;induction l with
  |nil=>simp
  |cons u r ih =>
   rw[zh,List.sum_cons,zp,Nat.succ_mul];have:(((L.filter λ w=>decide ((v,w)∈B)).filter λ w=>decide (u≠w) && !decide ((u,w)∈B)).map λ w=>(u,w)).length<=L.length:=by
    rw[ze];exact yk (List.length_filter_le _ _) (List.length_filter_le _ _)
   omega
 exact yk (key _) (Nat.mul_le_mul_right _ (List.length_filter_le _ _))
theorem Oj {α:Type}(f:α->List Int):∀l:List α,GJ (l.map λ x=>D.tup ((f x).map D.int))=some (l.map λ x=>(D.tup ((f x).map D.int),f x))
 |[]=>rfl
 |x::r=>by
  rw[zh,GJ,Oj f r];simp[X7,DD]
theorem Ol {B:List (Int×Int)}{L:List Int}{v:Int}{p:Int×Int}(h:p∈AW B L v):p.1∈L/\p.2∈L/\p.1≠p.2:=by
 unfold AW at h;obtain⟨u,hu,h⟩:=List.mem_flatMap.mp h;obtain⟨w,hw,rfl⟩:=zJ.mp h;have h1:=yv.mp hw;have h2:=yv.mp h1.1;have h3:=yv.mp hu;simp at h1;exact⟨h3.1,h2.1,h1.2.1⟩
noncomputable def BZ (B ps:List (Int×Int)):List (Int×Int):=ps.foldl Kf B
structure C9 (m:Nat)(B:List (Int×Int)):Prop where
 nd:B.Nodup
 no:iY B
 tL:∀p∈B,(0<=p.1/\p.1<m)/\(0<=p.2/\p.2<m)
theorem C9.add {m:Nat}{B:List (Int×Int)}(h:C9 m B){p:Int×Int}(hp:p.1≠p.2)(h1:0<=p.1/\p.1<m)(h2:0<=p.2/\p.2<m):C9 m (Kf B p):=by
 refine⟨Sv h.nd,λ x hx=>?_,λ q hq=>?_⟩
 ·rcases QN.mp hx with z|z
  ·exact h.no x z
  ·subst z;exact hp rfl
 ·rcases QN.mp hq with z|z
  ·exact h.tL q z
  ·subst z;exact⟨h1,h2⟩
theorem C9.BZ {m:Nat}{B:List (Int×Int)}(h:C9 m B):∀ {ps:List (Int×Int)},(∀p∈ps,p.1≠p.2/\(0<=p.1/\p.1<m)/\(0<=p.2/\p.2<m))->C9 m (L2.BZ B ps):=by
 intro ps;induction ps generalizing B with
 |nil=>intro _;exact h
 |cons p r ih =>
  intro hp;have:=hp p zc;exact ih (h.add this.1 this.2.1 this.2.2) λ q hq=>hp q (zf _ hq)
theorem C9.len {m:Nat}{B:List (Int×Int)}(h:C9 m B)(hm:m<=20):B.length<1000:=by
 have key:=Kg (l:=B) (u:=(zR m).flatMap λ i:Nat=>(zR m).map λ j:Nat=>((i:Int),(j:Int))) h.nd λ p hp=>by
  obtain⟨h1,h2⟩:=h.tL p hp;refine List.mem_flatMap.mpr ⟨p.1.toNat,xk.mpr (by omega),zJ.mpr ⟨p.2.toNat,xk.mpr (by omega),?_⟩⟩;rw[Int.toNat_of_nonneg h1.1,Int.toNat_of_nonneg h2.1]
 have e:((zR m).flatMap λ i:Nat=>(zR m).map λ j:Nat=>((i:Int),(j:Int))).length=m*m:=by
  rw[List.length_flatMap];simp[List.map_const',List.sum_replicate_nat]
 rw[e] at key;have:m*m<=20*20:=Nat.mul_le_mul hm hm;omega
theorem EV (a b c d:Int):HT.lexLt [a,b] [c,d]=decide (a<c\/(a=c/\b<d)):=by
 rw[HT.FO,HT.FO,HT.ER,xf];by_cases h1:a=c
 ·subst h1;by_cases h2:b=d
  ·subst h2;simp
  ·simp[h2]
 ·simp[h1]
theorem VE {α β:Type}(f:α->β):∀bs:List (α×List Int),AQ (bs.map λ b=>(f b.1,b.2))=(AQ bs).map λ b=>(f b.1,b.2):=by
 intro bs;unfold AQ
 suffices z:∀o:Option (α×List Int),(bs.map λ b=>(f b.1,b.2)).foldl By (o.map λ b=>(f b.1,b.2))=(bs.foldl By o).map λ b=>(f b.1,b.2) from z none
 induction bs with
 |nil=>intro o;rfl
 |cons b r ih =>
  intro o;rw[zh,zU,zU,<-ih];congr 1;cases o with
  |none=>rfl
  |some c =>
   unfold By;dsimp only [yt];split<;>rfl
theorem XQ {α:Type}:∀(bs:List (α×List Int)) (o:Option (α×List Int)) (b:α×List Int),bs.foldl By o=some b->b∈bs\/o=some b:=by
 intro bs;induction bs with
 |nil=>intro o b h;exact .inr h
 |cons x r ih =>
  intro o b h;rw[zU] at h;rcases ih _ _ h with q|q
  ·exact .inl (zf _ q)
  ·cases o with
   |none=>cases q;exact .inl zc
   |some c =>
    unfold By at q;dsimp only at q;split at q
    ·cases q;exact .inl zc
    ·exact .inr q
theorem VF {α:Type}{bs:List (α×List Int)}(h2:∀b∈bs,∃x y:Int,b.2=[x,y]){b:α×List Int}(hb:AQ bs=some b):∀c∈bs,HT.lexLt c.2 b.2=false:=by
 unfold AQ at hb
 suffices z:∀(bs:List (α×List Int)) (o:Option (α×List Int)),(∀b∈bs,∃x y:Int,b.2=[x,y])->(∀b,o=some b->∃x y:Int,b.2=[x,y])->∀b,bs.foldl By o=some b->(∀c∈bs,HT.lexLt c.2 b.2=false)/\(∀c,o=some c->HT.lexLt c.2 b.2=false) from (z bs none h2 (λ b h=>by cases h) b hb).1
 intro bs;induction bs with
 |nil =>
  intro o _ ho b h;refine⟨λ c hc=>(by cases hc),λ c hc=>?_⟩;have e:o=some b:=h;rw[hc] at e;cases e;obtain⟨x,y,e⟩:=ho _ hc;rw[e,EV];simp
 |cons d r ih =>
  intro o h2 ho b h;rw[zU] at h;have hd:=h2 d zc;have bc:∀b,By o d=some b->∃x y:Int,b.2=[x,y]:=λ b hb=>by
   unfold By at hb;cases o with
   |none=>cases hb;exact hd
   |some c =>
    dsimp only at hb;split at hb
    ·cases hb;exact hd
    ·cases hb;exact ho _ rfl
  obtain⟨i1,i2⟩:=ih (By o d) (λ c hc=>h2 c (zf _ hc)) bc b h;have vq:=ID o d;obtain⟨k,hk⟩:∃k,By o d=some k:=by
   cases q:By o d with
   |none=>exact (vq q).elim
   |some k=>exact⟨k,rfl⟩
  have vt:=i2 k hk;obtain⟨kx,ky,ek⟩:=bc k hk;have fb:∃x y:Int,b.2=[x,y]:=by
   have:=XQ r (By o d) b h;rcases this with z|z
   ·exact h2 b (zf _ z)
   ·exact bc b z
  obtain⟨bx,wL,eb⟩:=fb;obtain⟨dx,dy,ed⟩:=hd;rw[ek,eb,EV,decide_eq_false_iff_not] at vt;have c3:HT.lexLt d.2 b.2=false/\∀c,o=some c->HT.lexLt c.2 b.2=false:=by
   unfold By at hk;cases o with
   |none =>
    cases hk;rw[ed] at ek;injection ek with e1 e2
    injection e2 with e2 _
    refine⟨?_,λ c hc=>by cases hc⟩;rw[ed,eb,EV,decide_eq_false_iff_not];omega
   |some c =>
    obtain⟨cx,cy,ec⟩:=ho c rfl;dsimp only at hk;rw[ed,ec,EV] at hk;by_cases hl:dx<cx\/(dx=cx/\dy<cy)
    ·rw[if_pos (decide_eq_true hl)] at hk;cases hk;rw[ed] at ek;injection ek with e1 e2
     injection e2 with e2 _
     refine⟨?_,λ c' g9=>?_⟩
     ·rw[ed,eb,EV,decide_eq_false_iff_not];omega
     ·cases g9;rw[ec,eb,EV,decide_eq_false_iff_not];omega
    ·rw[if_neg (by simpa using hl)] at hk;cases hk;rw[ec] at ek;injection ek with e1 e2
     injection e2 with e2 _
     refine⟨?_,λ c' g9=>?_⟩
     ·rw[ed,eb,EV,decide_eq_false_iff_not];omega
     ·cases g9;rw[ec,eb,EV,decide_eq_false_iff_not];omega
  refine⟨λ c hc=>?_,c3.2⟩;rcases zq.mp hc with z|z
  ·rw[z];exact c3.1
  ·exact i1 c z
noncomputable def Bf (B:List (Int×Int))(L:List Int):Int:=match AQ (L.map λ p=>(p,[((AW B L p).length:Int),p])) with
 |some k=>k.1
 |none=>0
theorem Om {B:List (Int×Int)}{L:List Int}(h:L≠[]):Bf B L∈L/\∀p∈L,¬ (((AW B L p).length:Int)<(AW B L (Bf B L)).length\/(((AW B L p).length:Int)=(AW B L (Bf B L)).length/\p<Bf B L)):=by
 unfold Bf;cases q:AQ (L.map λ p=>(p,[((AW B L p).length:Int),p])) with
 |none=>exact (Me (λ z=>h (List.map_eq_nil_iff.mp z)) q).elim
 |some k =>
  obtain⟨p,hp,rfl⟩:=zJ.mp (JX _ _ q);refine⟨hp,λ p' du=>?_⟩;have:=VF (λ b hb=>by obtain⟨x,_,rfl⟩:=zJ.mp hb;exact⟨_,_,rfl⟩) q _ (zJ.mpr ⟨p',du,rfl⟩);rw[EV,decide_eq_false_iff_not] at this;exact this
noncomputable def Sx:Nat->List (Int×Int)->List Int->List Int
 |0,_,_=>[]
 |n+1,B,L=>if L=[] then [] else Bf B L::Sx n (BZ B (AW B L (Bf B L))) (L.erase (Bf B L))
noncomputable def Bu (rs:List Road):List (Int×Int):=rs.foldl (λ B r=>match r.l with | none=>B | some _=>Kf B (r.a,r.b)) []
theorem QO {m:Nat}:∀ {rs:List Road},(∀r∈rs,Ie m r/\r.a≠r.b)->C9 m (Bu rs):=by
 intro rs
 suffices z:∀(rs:List Road) (B:List (Int×Int)),C9 m B->(∀r∈rs,Ie m r/\r.a≠r.b)->C9 m (rs.foldl (λ B r=>match r.l with|none=>B|some _=>Kf B (r.a,r.b)) B) from λ h=>z rs [] ⟨yA,λ x h=>(by cases h),λ p h=>(by cases h)⟩ h
 intro rs;induction rs with
 |nil=>intro B h _;exact h
 |cons r t ih =>
  intro B h hr;rw[zU];refine ih _ ?_ λ r' h'=>hr r' (zf _ h');have:=hr r zc;cases r.l with
  |none=>exact h
  |some l=>exact h.add this.2 ⟨this.1.a0,this.1.a1⟩ ⟨this.1.b0,this.1.b1⟩
theorem CY {f:Int->Int->M D}{a b:Int}:Bg f (.int a) (.int b)=f a b:=rfl
theorem FF {bs:List Bool}:Xf [.lst (bs.map D.bl)]=.ok (.bl (bs.all id)):=by unfold Xf;dsimp only;rw[LY]
theorem FG {bs:List Bool}:nB [.lst (bs.map D.bl)]=.ok (.bl (bs.any id)):=by unfold nB;dsimp only;rw[LY]
noncomputable def JQ (d:D)(n:Int):Bool:=match d with
 | .int j=>decide (0<=j)&&decide (j<n)
 |_=>false
noncomputable def EN (m:Nat):D->Bool
 | .lst xs=>(match Cg xs with|some ns=>decide (Gq ns=AN m)|none=>false)
 |_=>false
def nZ (d:D):Prop:=Tw d=false/\∀xs,d=.lst xs->xs.length<=1000/\∀e∈xs,Tw e=false
theorem QP (m:Nat):(AN m).Pairwise (·<=·):=by
 unfold AN;rw[List.pairwise_map];exact (List.pairwise_lt_range (n:=m)).imp λ h=>by omega
theorem Mw (m:Nat):(AN m).Nodup:=by
 unfold AN List.Nodup;rw[List.pairwise_map];exact (List.pairwise_lt_range (n:=m)).imp λ h=>by omega
theorem Oo {m:Nat}{L:List Int}:Gq L=AN m↔L.Perm (AN m):=
 ⟨λ h=>by rw[<-h];exact (Eu L).symm,λ h=>GS ((Eu L).trans h) (FX L) (QP m)⟩
theorem Mx {m:Nat}{L:List Int}:EN m (.lst (L.map D.int))=decide (Gq L=AN m):=by unfold EN;dsimp only;rw[DD]
theorem Sy {m:Nat}{L:List Int}(h:L.Perm (AN m)):EN m (.lst (L.map D.int))=true:=by rw[Mx];exact decide_eq_true (Oo.mpr h)
theorem VG {m:Nat}{xs:List D}(h:EN m (.lst xs)=true):∃L:List Int,xs=L.map D.int/\L.Perm (AN m):=by
 unfold EN at h;dsimp only at h;split at h
 ·rename_i ns e;exact⟨ns,CQ e,Oo.mp (of_decide_eq_true h)⟩
 ·cases h
theorem My {m:Nat}{L:List Int}(h:L.Perm (AN m)):L.length=m:=by rw[h.length_eq,FE]
theorem Ew {m:Nat}{L:List Int}(h:L.Perm (AN m)){p:Int}:p∈L↔0<=p/\p<m:=by rw[h.mem_iff,JB]
theorem Sz {m:Nat}{L:List Int}(h:L.Perm (AN m)):L.Nodup:=h.nodup_iff.mpr (Mw m)
theorem QQ {m:Nat}{xs:List D}(h:EN m (.lst xs)=true):xs.length=m/\(xs.map λ e=>JQ e m).all id=true:=by
 obtain⟨L,rfl,hp⟩:=VG h;refine⟨by rw[ze,My hp],?_⟩;rw[xj];intro b hb;rw[yj] at hb;obtain⟨j,hj,rfl⟩:=zJ.mp hb;have:=(Ew hp).mp hj;show (decide (0<=j)&&decide (j<m))=true;simp only[zW,decide_eq_true_eq];exact this
theorem Ua {m:Nat}:∀ {xs:List D},(xs.map λ e=>JQ e m).all id=true->∃L:List Int,xs=L.map D.int
 |[],_=>⟨[],rfl⟩
 |d::r,h=>by
  rw[zh,xt,zW] at h;obtain⟨L,rfl⟩:=Ua h.2;cases d with
  |int j=>exact⟨j::L,rfl⟩
  |_=>exact absurd h.1 (by simp[JQ])
theorem Oq:∀ {a b:List Int},C5 (a.map D.int) (b.map D.int)=decide (a=b)
 |[],[]=>by simp[C5]
 |[],y::t=>by simp[C5]
 |x::r,[]=>by simp[C5]
 |x::r,y::t=>by
  rw[zh,zh,C5,Oq,Av];by_cases h:x=y<;>by_cases k:r=t<;>simp[h,k]
theorem XR {a b:List Int}:Av (.lst (a.map D.int)) (.lst (b.map D.int))=decide (a=b):=by rw[Av];exact Oq
theorem XS {a b:List Int}:Zl 16 (.lst (a.map D.int)) (.lst (b.map D.int))=.ok (.bl (decide (a=b))):=by rw[Sa (Ll (n:=15) a) (Ll (n:=15) b),XR]
theorem VH {i:Nat}{L:List Int}(h:L.Perm (AN i))(n:Nat):(L.take n++(i:Int)::L.drop n).Perm (AN (i+1)):=by
 have e:AN (i+1)=AN i++[(i:Int)]:=by unfold AN;rw[List.range_succ,ya];rfl
 rw[e];refine List.perm_middle.trans ?_;rw[List.take_append_drop];exact ((h.cons _).trans (List.perm_append_singleton _ _).symm)
theorem cO {m:Nat}{xs:List D}(h:xs.length≠m):EN m (.lst xs)=false:=by
 cases q:EN m (.lst xs) with
 |false=>rfl
 |true=>exact (h (QQ q).1).elim
theorem Ub {i:Nat}{ρ:Aa}{ds:List D}{d:D}{p:Int}(hi:ρ[i]?=some (some (.own ds)))(h0:0<=p)(h1:p<ds.length):Zt i ρ (.ok (.int p)) d=.ok (.next (ρ.set i (some (.own (ds.set p.toNat d))))):=by
 unfold Zt;rw[hi];dsimp only;rw[M.A6];unfold iB;dsimp only;rw[ZX ⟨h0,h1⟩]
theorem VI {ρ:Aa}:Xn 0 (none::ρ)=none::ρ:=rfl
theorem XT:∃T Q:Int,Ql (.int 10) (.int 60)=.ok (.int T)/\Ql (.int 982451653) (.int 7)=.ok (.int Q)/\1000000<T/\T.natAbs<2^200/\0<Q/\Q.natAbs<2^250:=⟨10^60,982451653^7,rfl,rfl,by decide,by decide,by decide,by decide⟩
noncomputable def PV:Int:=zo XT
theorem eI:∃Q:Int,Ql (.int 10) (.int 60)=.ok (.int PV)/\Ql (.int 982451653) (.int 7)=.ok (.int Q)/\1000000<PV/\PV.natAbs<2^200/\0<Q/\Q.natAbs<2^250:=zb XT
theorem eJ:Ql (.int 10) (.int 60)=.ok (.int PV):=(zb eI).1
theorem iZ:1000000<PV:=(zb eI).2.2.1
def cl:Nat->D->Prop
 |0,d=>Tw d=false
 |n+1,d=>Tw d=false/\∀ds,(d=.tup ds\/d=.lst ds)->∀e∈ds,cl n e
theorem cl.x {n:Nat}{d:D}(h:cl n d):Tw d=false:=by cases n with | zero=>exact h | succ n=>exact h.1
theorem XU {n:Nat}{ds:List D}(h:∀e∈ds,cl n e):cl (n+1) (.tup ds):=⟨rfl,λ es e x hx=>by rcases e with e | e<;>cases e;exact h x hx⟩
theorem jA {n:Nat}{ds:List D}(h:∀e∈ds,cl n e):cl (n+1) (.lst ds):=⟨rfl,λ es e x hx=>by rcases e with e | e<;>cases e;exact h x hx⟩
theorem Uc {n:Nat}{d:D}(h:Tw d=false)(h2:∀ds,d≠.tup ds)(h3:∀ds,d≠.lst ds):cl n d:=by
 cases n with
 |zero=>exact h
 |succ n=>exact⟨h,λ ds e=>by rcases e with e|e;exact (h2 ds e).elim;exact (h3 ds e).elim⟩
theorem Mz {n:Nat}{i:Int}:cl n (.int i):=Uc rfl (λ _ h=>by cases h) (λ _ h=>by cases h)
theorem jB {n:Nat}:cl n .Ay:=Uc rfl (λ _ h=>by cases h) (λ _ h=>by cases h)
theorem jC {n:Nat}{l:Option Int}:cl n (BE l):=by cases l;exact jB;exact Mz
theorem XW {n:Nat}:∀e∈([]:List D),cl n e:=λ e h=>by cases h
theorem HM {n:Nat}{d:D}{ds:List D}(h:cl n d)(t:∀e∈ds,cl n e):∀e∈d::ds,cl n e:=λ e he=>by
 rcases zq.mp he with rfl|he
 ·exact h
 ·exact t e he
theorem oA {n:Nat}{r:Road}:cl (n+1) (C2 r):=XU (HM Mz (HM Mz (HM jC (HM Mz XW))))
theorem jD {n:Nat}{rs:List Road}:∀e∈rs.map C2,cl (n+1) e:=λ e he=>by
 obtain⟨r,_,rfl⟩:=zJ.mp he;exact oA
noncomputable def EW (m:Int):D->Bool
 | .tup [a,b,l,w]=>JQ a m&&(JQ b m&&(!Av a b&&((Cr l||JQ l PV)&&JQ w PV)))
 |_=>false
noncomputable def Ds:D->Bool
 | .tup [.int m,.lst rs]=>(JQ (.int m) 17 && !decide (m=0))&&(decide (rs.length<=60)&&(rs.map (EW m)).all id)
 |_=>false
theorem VJ {n:D}:Ds (.tup [n])=false:=by cases n<;>rfl
theorem SA {n r z:D}{t:List D}:Ds (.tup (n::r::z::t))=false:=by cases n<;>cases r<;>rfl
structure HZ (m:Nat)(r:Road):Prop where
 a0:0<=r.a
 a1:r.a<m
 b0:0<=r.b
 b1:r.b<m
 ab:r.a≠r.b
 l0:∀l,r.l=some l->0<=l/\l<PV
 w0:0<=r.w
 w1:r.w<PV
theorem JC {i n:Int}(h0:0<=i)(h1:i<n):JQ (.int i) n=true:=by unfold JQ;simp[h0,h1]
theorem VL {m:Nat}{r:Road}(h:HZ m r):EW m (C2 r)=true:=by
 unfold C2 EW;dsimp only;rw[JC h.a0 h.a1,JC h.b0 h.b1,JC h.w0 h.w1];have:Av (.int r.a) (.int r.b)=false:=by rw[Av];simp[h.ab]
 rw[this];cases hl:r.l with
 |none=>rfl
 |some l=>have:=h.l0 l hl;rw[show BE (some l)=.int l from rfl,JC this.1 this.2];rfl
theorem QR {m:Nat}{rs:List Road}(h1:1<=m)(h2:m<=16)(hl:rs.length<=60)(h:∀r∈rs,HZ m r):Ds (Ae m rs)=true:=by
 unfold Ae Ds;dsimp only;rw[JC (by omega) (by omega),ze,decide_eq_true hl,decide_eq_false (by omega)];have:(((rs.map C2).map (EW m)).all id)=true:=by
  rw[xj];intro b hb;rw[yj] at hb;obtain⟨r,hr,rfl⟩:=zJ.mp hb;exact VL (h r hr)
 rw[this];rfl
section
variable {α β:Type}{a b c d e f g:α}{x y:β}
theorem VM:(if [a,b,c,d,e].length<=1000 then x else y)=x:=rfl
theorem VN:(if [a,b,c,d,e,f].length<=1000 then x else y)=x:=rfl
theorem VO:(if [a,b,c,d,e,f,g].length<=1000 then x else y)=x:=rfl
theorem HN {t:Bool}:er (.B8 t [] [])=.B8 t [] []:=by simp[er,I9]
end
theorem oB {i:Nat}{ρ:Aa}{a u:OT}{ts:List OT}(h:ρ[i]?=some (some (.ow (.tree none (.tup [a,.lst ts]))))):
 M7 i ρ=.ok []/\Xo i ρ [] (.int 1)=.ok [1]/\Er i ρ [1]=.ok ts/\EU i ρ [1] (.lst (ts++[u]))=.ok (.next (ρ.set i (some (.ow (.tree none (.tup [a,.lst (ts++[u])])))))):=by
 refine⟨?_,?_,?_,?_⟩
 ·simp[M7,Pe,h,treeOf,GN,kids]
 ·simp[Xo,Pe,h,treeOf,GN,kids,RQ]
 ·simp[Er,Pe,h,treeOf,GN,kids]
 ·rw[Dy h rfl];simp[Dv,kids,Ht,toCl]
structure vD (m:Nat)(rs:List Road)(rk:Int->Nat)(Af:Int->Int->Co):Prop where
 snd:∀x y c,Af x y=some c->Wk rs x y c/\x≠y/\(0<=x/\x<m)/\0<=y/\y<m
 road:∀r∈rs,Dz (Af r.a r.b) (Dg r)
 wM:∀p x y,x≠y->rk p<rk x->rk p<rk y->Dz (Af x y) (AS (Af x p) (Af p y))
 inj:∀x y:Int,0<=x->x<m->0<=y->y<m->rk x=rk y->x=y
 nn:∀x y c,Wk rs x y c->0<=c.1/\0<=c.2
section
variable {κ β:Type} [DecidableEq κ]
noncomputable def CF:List (κ×β)->κ->Option β
 |[],_=>none
 |(k,v)::r,x=>if k=x then some v else CF r x
noncomputable def Ex (A:List (κ×β))(k:κ)(v:β):List (κ×β):=if (CF A k).isSome=true then A.map λ kv=>if kv.1=k then (kv.1,v) else kv else A++[(k,v)]
theorem Po (k j:κ)(v:β):∀A:List (κ×β),CF (A.map λ kv=>if kv.1=k then (kv.1,v) else kv) j=if j=k then (CF A j).map λ _=>v else CF A j
 |[]=>by simp[CF]
 |(k',v')::r=>by
  rw[zh];by_cases h1:k'=k
  ·rw[if_pos h1];subst h1;simp only[CF];by_cases h2:k'=j
   ·subst h2;simp
   ·rw[if_neg h2,if_neg h2,Po k' j v r]
  ·rw[if_neg h1];simp only[CF];by_cases h2:k'=j
   ·subst h2;rw[if_pos rfl,if_pos rfl,if_neg h1]
   ·rw[if_neg h2,if_neg h2,Po k j v r]
theorem QS (k j:κ)(v:β):∀A:List (κ×β),CF A k=none->CF (A++[(k,v)]) j=if j=k then some v else CF A j
 |[],_=>by
  simp only[List.nil_append,CF];by_cases h:k=j
  ·subst h;simp
  ·rw[if_neg h,if_neg (yc h)]
 |(k',v')::r,h=>by
  simp only[CF] at h;by_cases h1:k'=k
  ·rw[if_pos h1] at h;cases h
  ·rw[if_neg h1] at h;rw[yQ];simp only[CF];rw[QS k j v r h];by_cases h2:k'=j
   ·subst h2;rw[if_pos rfl,if_pos rfl,if_neg h1]
   ·rw[if_neg h2,if_neg h2]
theorem Ud (A:List (κ×β))(k j:κ)(v:β):CF (Ex A k v) j=if j=k then some v else CF A j:=by
 unfold Ex;by_cases h:(CF A k).isSome=true
 ·rw[if_pos h,Po];by_cases hj:j=k
  ·subst hj;rw[if_pos rfl,if_pos rfl];obtain⟨x,hx⟩:=yZ.mp h;rw[hx];rfl
  ·rw[if_neg hj,if_neg hj]
 ·rw[if_neg h];exact QS k j v A (by cases e:CF A k with|none=>rfl|some x=>rw[e] at h;exact (h rfl).elim)
theorem G0:∀ {A:List (κ×β)}{k:κ},(CF A k).isSome=true↔k∈A.map zS
 |[],k=>by simp[CF]
 |(k',v')::r,k=>by
  simp only[CF,zh,zq];by_cases h:k'=k
  ·rw[if_pos h];simp[h]
  ·rw[if_neg h,G0];simp[yc h]
theorem QT {A:List (κ×β)}{k:κ}:CF A k=none↔k∉A.map zS:=by
 rw[<-G0];cases CF A k<;>simp
theorem QU (A:List (κ×β))(k:κ)(v:β):(Ex A k v).map zS=if (CF A k).isSome=true then A.map zS else A.map zS++[k]:=by
 unfold Ex;split
 ·rw[yj];refine List.map_congr_left λ kv _=>?_;dsimp only [Function.comp];split<;>rfl
 ·rw[ya];rfl
theorem Ot {A:List (κ×β)}{k:κ}{v:β}(h:(A.map zS).Nodup):((Ex A k v).map zS).Nodup:=by
 rw[QU];split
 ·exact h
 ·rename_i hn;rw[G0] at hn;rw[zN];exact⟨h,by simp,λ x hx y hy=>by rw[zu.mp hy];exact λ e=>hn (e▸hx)⟩
theorem QV {A:List (κ×β)}{k x:κ}{v:β}(h:x∈(Ex A k v).map zS):x∈A.map zS\/x=k:=by
 rw[QU] at h;split at h
 ·exact .inl h
 ·rcases zL.mp h with h|h
  ·exact .inl h
  ·exact .inr (zu.mp h)
theorem SD:∀ {A:List (κ×β)}{k:κ}{v:β},(A.map zS).Nodup->(k,v)∈A->CF A k=some v
 |(k',v')::r,k,v,hn,h=>by
  rw[zh,yf] at hn;simp only[CF];rcases zq.mp h with e|h
  ·cases e;rw[if_pos rfl]
  ·have:k'≠k:=λ e=>hn.1 (e▸zJ.mpr ⟨_,h,rfl⟩);rw[if_neg this];exact SD hn.2 h
variable {kf:κ->D}{vf:β->D}(he:∀a b,Av (kf a) (kf b)=decide (a=b))
include he
theorem QW (A:List (κ×β))(k:κ):L9 (A.map λ kv=>kf kv.1) (kf k)=(CF A k).isSome:=by
 induction A with
 |nil=>rfl
 |cons kv r ih =>
  obtain⟨k',v'⟩:=kv;unfold L9 at ih ⊢;rw[zh,xr,ih,he];simp only[CF];by_cases h:k'=k
  ·rw[if_pos h,decide_eq_true h];rfl
  ·rw[if_neg h,decide_eq_false h];rfl
theorem MA (A:List (κ×β))(k:κ):Jq (A.map λ kv=>kf kv.1) (A.map λ kv=>vf kv.2) (kf k)=(CF A k).map vf:=by
 induction A with
 |nil=>rfl
 |cons kv r ih =>
  obtain⟨k',v'⟩:=kv;rw[zh,zh,Jq,he,ih];simp only[CF];by_cases h:k'=k
  ·rw[decide_eq_true h,if_pos rfl,if_pos h];rfl
  ·rw[decide_eq_false h,if_neg zI,if_neg h]
theorem XX (k:κ)(v:β)(A:List (κ×β)):IC (A.map λ kv=>kf kv.1) (A.map λ kv=>vf kv.2) (kf k) (vf v)=(A.map λ kv=>if kv.1=k then (kv.1,v) else kv).map λ kv=>vf kv.2:=by
 induction A with
 |nil=>rfl
 |cons kv r ih =>
  obtain⟨k',v'⟩:=kv;rw[zh,zh,IC,he,ih,zh,zh];by_cases h:k'=k
  ·rw[decide_eq_true h,if_pos rfl,if_pos h]
  ·rw[decide_eq_false h,if_neg zI,if_neg h]
theorem MB (A:List (κ×β))(k:κ)(v:β):putD (A.map λ kv=>kf kv.1) (A.map λ kv=>vf kv.2) (kf k) (vf v)=((Ex A k v).map (λ kv=>kf kv.1),(Ex A k v).map λ kv=>vf kv.2):=by
 unfold putD Ex;rw[QW he];by_cases h:(CF A k).isSome=true
 ·rw[if_pos h,if_pos h,XX he];refine Prod.ext ?_ rfl;dsimp only;rw[yj];refine List.map_congr_left λ kv _=>?_;dsimp only [Function.comp];split<;>rfl
 ·rw[if_neg h,if_neg h,ya,ya];rfl
end
noncomputable abbrev LA:=List ((Int×Int)×((Int×Int)×Option Int))
noncomputable def QX (v:(Int×Int)×Option Int):D:=.tup [cst (some v.1),BE v.2]
noncomputable def J3 (A:LA):D:=.B8 true (A.map λ kv=>pD kv.1) (A.map λ kv=>QX kv.2)
noncomputable def Gy (A:LA):OT:=.B8 true (A.map λ kv=>pD kv.1) ((A.map λ kv=>QX kv.2).map .sh)
noncomputable def An (A:LA)(p:Int×Int):Co:=(CF A p).map zS
noncomputable def layA (A:LA)(p:Int×Int)(c:Co)(mid:Option Int):LA:=match c with
 |none=>A
 |some c=>(match CF A p with
  |none=>Ex A p (c,mid)
  |some z=>if c.1<z.1.1\/(c.1=z.1.1/\c.2<z.1.2) then Ex A p (c,mid) else A)
theorem GV (A:LA)(p q:Int×Int)(c:Co)(mid:Option Int):An (layA A p c mid) q=if q=p then Ic (An A p) c else An A q:=by
 unfold layA An;cases c with
 |none =>
  by_cases h:q=p
  ·subst h;rw[if_pos rfl];cases CF A q<;>rfl
  ·rw[if_neg h]
 |some c =>
  cases e:CF A p with
  |none =>
   dsimp only;rw[Ud];by_cases h:q=p
   ·rw[if_pos h,if_pos h];rfl
   ·rw[if_neg h,if_neg h]
  |some z =>
   dsimp only;by_cases hc:c.1<z.1.1\/(c.1=z.1.1/\c.2<z.1.2)
   ·rw[if_pos hc,Ud];by_cases h:q=p
    ·rw[if_pos h,if_pos h];simp only[yt,Ic,kQ];rw[if_neg (by omega)]
    ·rw[if_neg h,if_neg h]
   ·rw[if_neg hc];by_cases h:q=p
    ·subst h;rw[if_pos rfl,e];simp only[yt,Ic,kQ];rw[if_pos (by omega)]
    ·rw[if_neg h]
theorem SE (A:LA)(p q:Int×Int)(c:Co)(mid:Option Int):Dz (An (layA A p c mid) q) (An A q):=by
 rw[GV];split
 ·rename_i h;subst h;exact Lr _ _
 ·exact Dd _
theorem XY {A:LA}{p x:Int×Int}{c:Co}{mid:Option Int}(h:x∈(layA A p c mid).map zS):x∈A.map zS\/x=p:=by
 unfold layA at h;split at h
 ·exact .inl h
 ·split at h
  ·exact QV h
  ·split at h
   ·exact QV h
   ·exact .inl h
theorem VP {A:LA}{p:Int×Int}{c:Co}{mid:Option Int}(h:(A.map zS).Nodup):((layA A p c mid).map zS).Nodup:=by
 unfold layA;split
 ·exact h
 ·split
  ·exact Ot h
  ·split
   ·exact Ot h
   ·exact h
noncomputable def Pp (p u:Int)(A:LA)(w:Int):LA:=if u=w then A else layA A (u,w) (AS (An A (u,p)) (An A (p,w))) (some p)
noncomputable def cP (p:Int)(H:List Int)(A:LA)(u:Int):LA:=H.foldl (Pp p u) A
noncomputable def jE (A:LA)(p:Int)(H:List Int):LA:=H.foldl (cP p H) A
noncomputable def SF:LA->List Int->LA
 |A,[]=>A
 |A,p::r=>SF (jE A p r) r
noncomputable def lay0 (rs:List Road):LA:=rs.foldl (λ A r=>layA A (r.a,r.b) (Dg r) none) []
noncomputable def B6 (rs:List Road)(L:List Int):LA:=SF (lay0 rs) L
structure E9 (m:Nat)(A:LA):Prop where
 nd:(A.map zS).Nodup
 rg:∀p∈A.map zS,p.1≠p.2/\(0<=p.1/\p.1<m)/\0<=p.2/\p.2<m
theorem E9.lay {m:Nat}{A:LA}(h:E9 m A){p:Int×Int}{c:Co}{mid:Option Int}(hp:p.1≠p.2/\(0<=p.1/\p.1<m)/\0<=p.2/\p.2<m):E9 m (layA A p c mid):=
 ⟨VP h.nd,λ q hq=>(XY hq).elim (h.rg q) λ e=>e▸hp⟩
theorem E9.len {m:Nat}{A:LA}(h:E9 m A)(hm:m<=20):A.length<1000:=by
 have:=C9.len (B:=A.map zS) (m:=m) ⟨h.nd,λ x hx=>(h.rg _ hx).1 rfl,λ q hq=>⟨(h.rg q hq).2.1,(h.rg q hq).2.2⟩⟩ hm;rwa[ze] at this
theorem JD {α β:Type}{f:β->α->β}(P:List α->β->Prop):∀ {L pre:List α}{b:β},P pre b->(∀a∈L,∀pre b,P pre b->P (pre++[a]) (f b a))->P (pre++L) (L.foldl f b)
 |[],pre,b,h,_=>by rw[zX];exact h
 |a::L,pre,b,h,hs=>by
  have:=JD P (L:=L) (hs a zc pre b h) λ x hx=>hs x (zf _ hx);rw[yn] at this;exact this
def cQ (rs:List Road)(A:LA):Prop:=∀x y c,An A (x,y)=some c->Wk rs x y c
theorem cQ.lay {rs:List Road}{A:LA}(h:cQ rs A){x y:Int}{c:Co}{mid:Option Int}(hc:∀p,c=some p->Wk rs x y p):cQ rs (layA A (x,y) c mid):=λ u w d hd=>by
 rw[GV] at hd;split at hd
 ·rename_i e;cases e;rcases E8 (An A (x,y)) c with ⟨e,_⟩|⟨e,_⟩
  ·rw[e] at hd;exact h _ _ _ hd
  ·rw[e] at hd;exact hc d hd
 ·exact h _ _ _ hd
structure Over (m:Nat)(rs:List Road)(p:Int)(H:List Int)(A0 A:LA):Prop where
 ok:E9 m A
 sd:cQ rs A
 le:∀q,Dz (An A q) (An A0 q)
 sm:∀x y,(x∉H\/y∉H)->An A (x,y)=An A0 (x,y)
theorem VQ {m:Nat}{rs:List Road}{p:Int}{H:List Int}{A0 A:LA}(hp:p∉H)(hH:∀x∈H,0<=x/\x<m)(h:Over m rs p H A0 A){u w:Int}(hu:u∈H)(hw:w∈H):Over m rs p H A0 (Pp p u A w)/\(u≠w->Dz (An (Pp p u A w) (u,w)) (AS (An A0 (u,p)) (An A0 (p,w)))):=by
 unfold Pp;by_cases e:u=w
 ·rw[if_pos e];exact⟨h,λ z=>(z e).elim⟩
 ·rw[if_neg e];have e1:=h.sm u p (.inr hp);have e2:=h.sm p w (.inl hp);refine⟨⟨h.ok.lay ⟨e,hH u hu,hH w hw⟩,h.sd.lay λ c hc=>?_,λ q=>B3 (SE _ _ _ _ _) (h.le q),λ x y bX=>?_⟩,λ _=>?_⟩
  ·obtain⟨a,b,ha,hb,rfl⟩:=Ke hc;exact (h.sd _ _ _ ha).trans (h.sd _ _ _ hb)
  ·rw[GV,if_neg (λ z=>by cases z;exact bX.elim (λ q=>q hu) λ q=>q hw)];exact h.sm x y bX
  ·rw[GV,if_pos rfl,e1,e2];exact Ls _ _
theorem eK {p u:Int}{A:LA}{w:Int}(q:Int×Int):Dz (An (Pp p u A w) q) (An A q):=by
 unfold Pp;split
 ·exact Dd _
 ·exact SE _ _ _ _ _
theorem eL {p u:Int}(q:Int×Int):∀(H:List Int) (A:LA),Dz (An (H.foldl (Pp p u) A) q) (An A q)
 |[],A=>Dd _
 |w::H,A=>B3 (eL q H (Pp p u A w)) (eK q)
theorem jF {m:Nat}{rs:List Road}{p:Int}{H:List Int}{A0 A:LA}(hp:p∉H)(hH:∀x∈H,0<=x/\x<m)(h:Over m rs p H A0 A){u:Int}(hu:u∈H):Over m rs p H A0 (cP p H A u)/\∀w∈H,u≠w->Dz (An (cP p H A u) (u,w)) (AS (An A0 (u,p)) (An A0 (p,w))):=by
 unfold cP;have:=JD (L:=H) (pre:=[]) (f:=Pp p u) (b:=A) (λ W A=>Over m rs p H A0 A/\∀w∈W,u≠w->Dz (An A (u,w)) (AS (An A0 (u,p)) (An A0 (p,w)))) ⟨h,λ w hw=>by cases hw⟩ λ w hw W B hB=>by
  obtain⟨b1,b2⟩:=hB;obtain⟨c1,c2⟩:=VQ hp hH b1 hu hw;refine⟨c1,λ x hx ae=>?_⟩;rcases zL.mp hx with hx|hx
  ·exact B3 (eK _) (b2 x hx ae)
  ·rw[zu.mp hx] at ae ⊢;exact c2 ae
 exact this
theorem XZ {m:Nat}{rs:List Road}{p:Int}{H:List Int}{A:LA}(hp:p∉H)(hH:∀x∈H,0<=x/\x<m)(h1:E9 m A)(h2:cQ rs A):Over m rs p H A (jE A p H)/\∀u∈H,∀w∈H,u≠w->Dz (An (jE A p H) (u,w)) (AS (An A (u,p)) (An A (p,w))):=by
 unfold jE;have:=JD (L:=H) (pre:=[]) (f:=cP p H) (b:=A) (λ U B=>Over m rs p H A B/\∀u∈U,∀w∈H,u≠w->Dz (An B (u,w)) (AS (An A (u,p)) (An A (p,w)))) ⟨⟨h1,h2,λ q=>Dd _,λ x y _=>rfl⟩,λ u hu=>by cases hu⟩ λ u hu U B hB=>by
  obtain⟨b1,b2⟩:=hB;obtain⟨c1,c2⟩:=jF hp hH b1 hu;refine⟨c1,λ x hx w hw ae=>?_⟩;rcases zL.mp hx with hx|hx
  ·exact B3 (eL _ H B) (b2 x hx w hw ae)
  ·rw[zu.mp hx] at ae ⊢;exact c2 w hw ae
 exact this
theorem Pq {m:Nat}{rs:List Road}(Ar:∀r∈rs,Ie m r/\r.a≠r.b):E9 m (lay0 rs)/\cQ rs (lay0 rs)/\∀r∈rs,Dz (An (lay0 rs) (r.a,r.b)) (Dg r):=by
 unfold lay0;have:=JD (L:=rs) (pre:=[]) (f:=λ A r=>layA A (r.a,r.b) (Dg r) none) (b:=[]) (λ W A=>E9 m A/\cQ rs A/\∀r∈W,Dz (An A (r.a,r.b)) (Dg r)) ⟨⟨by simp,λ p hp=>by cases hp⟩,⟨(λ _ _ _ h=>by cases h),λ r hr=>by cases hr⟩⟩ λ r hr W B hB=>by
  obtain⟨b1,b2,b3⟩:=hB;obtain⟨o1,o2⟩:=Ar r hr;refine⟨b1.lay ⟨o2,⟨o1.a0,o1.a1⟩,o1.b0,o1.b1⟩,b2.lay λ c hc=>?_,λ x hx=>?_⟩
  ·obtain⟨l,hl,rfl⟩:=Mu hc;exact Wk.one hr hl
  ·rcases zL.mp hx with hx|hx
   ·exact B3 (SE _ _ _ _ _) (b3 x hx)
   ·rw[zu.mp hx,GV,if_pos rfl];exact Ls _ _
 exact this
noncomputable def Ou:List Int->Int->Nat
 |[],_=>0
 |a::l,x=>if a=x then 0 else Ou l x+1
theorem Y0:∀ {pre post:List Int}{p:Int},p∉pre->Ou (pre++p::post) p=pre.length
 |[],post,p,_=>by simp[Ou]
 |a::pre,post,p,h=>by
  rw[zq,not_or] at h;rw[yQ,Ou,if_neg (yc h.1),Y0 h.2];rfl
theorem Y1:∀ {pre post:List Int}{x:Int},x∈pre->Ou (pre++post) x<pre.length
 |a::pre,post,x,h=>by
  rw[yQ,Ou];by_cases e:a=x
  ·rw[if_pos e];simp
  ·rw[if_neg e,zp];have:=Y1 (post:=post) ((zq.mp h).resolve_left (yc e));omega
theorem Ue:∀ {pre post:List Int}{x:Int},x∉pre->pre.length<=Ou (pre++post) x
 |[],post,x,_=>zQ _
 |a::pre,post,x,h=>by
  rw[zq,not_or] at h;rw[yQ,Ou,if_neg (yc h.1),zp];have:=Ue (post:=post) h.2;omega
theorem Y2:∀ {L:List Int}{x y:Int},x∈L->y∈L->Ou L x=Ou L y->x=y
 |a::l,x,y,hx,hy,e=>by
  rw[Ou,Ou] at e;by_cases h1:a=x
  ·by_cases h2:a=y
   ·rw[<-h1,<-h2]
   ·rw[if_pos h1,if_neg h2] at e;omega
  ·by_cases h2:a=y
   ·rw[if_neg h1,if_pos h2] at e;omega
   ·rw[if_neg h1,if_neg h2] at e;exact Y2 ((zq.mp hx).resolve_left (yc h1)) ((zq.mp hy).resolve_left (yc h2)) (by omega)
theorem jG {L:List Int}{x:Int}(h:Ou L x<L.length):x∈L:=by
 refine Classical.byContradiction λ hn=>?_;have:=Ue (pre:=L) (post:=[]) hn;rw[zX] at this;omega
theorem eM:∀(L:List Int) (x:Int),Ou L x<=L.length
 |[],_=>zv _
 |a::l,x=>by
  rw[Ou,zp];split
  ·omega
  ·have:=eM l x;omega
theorem KU:∀ {L:List Int}{p:Int},p∈L->∃pre post,L=pre++p::post/\p∉pre
 |a::l,p,h=>by
  by_cases ha:a=p
  ·subst ha;exact⟨[],l,rfl,by simp⟩
  ·obtain⟨pre,post,e2,hn⟩:=KU ((zq.mp h).resolve_left (yc ha));exact⟨a::pre,post,by rw[yQ,<-e2],by simp[yc ha,hn]⟩
theorem Y3 {L:List Int}{p:Int}(h:Ou L p<L.length):∃pre post,L=pre++p::post/\p∉pre/\∀x,Ou L p<Ou L x->x∈L->x∈post:=by
 obtain⟨pre,post,e,hn⟩:=KU (jG h);refine⟨pre,post,e,hn,λ x hr hx=>?_⟩;subst e;rw[Y0 hn] at hr;rcases zL.mp hx with hx|hx
 ·have:=Y1 (post:=p::post) hx;omega
 ·rcases zq.mp hx with rfl|hx
  ·rw[Y0 hn] at hr;omega
  ·exact hx
theorem jH {m:Nat}{rs:List Road}{L:List Int}(hL:L.Nodup)(hr:∀x∈L,0<=x/\x<m):∀(post pre:List Int) (A:LA),L=pre++post->E9 m A->cQ rs A->(∀r∈rs,Dz (An A (r.a,r.b)) (Dg r))->
 (∀pa p pb,L=pa++p::pb->pa.length<pre.length->∀x∈pb,∀y∈pb,x≠y->Dz (An A (x,y)) (AS (An A (x,p)) (An A (p,y))))->
 E9 m (SF A post)/\cQ rs (SF A post)/\(∀r∈rs,Dz (An (SF A post) (r.a,r.b)) (Dg r))/\∀pa p pb,L=pa++p::pb->∀x∈pb,∀y∈pb,x≠y->Dz (An (SF A post) (x,y)) (AS (An (SF A post) (x,p)) (An (SF A post) (p,y))):=by
 intro post;induction post with
 |nil =>
  intro pre A e h1 h2 h3 h4;rw[zX] at e;refine⟨h1,h2,h3,λ pa p pb e2=>h4 pa p pb e2 ?_⟩;rw[<-e,e2,zM,zp];omega
 |cons p post ih =>
  intro pre A e h1 h2 h3 h4;rw[SF];have hn:(pre++p::post).Nodup:=e▸hL;rw[zN,yf] at hn;have cj:∀x∈post,0<=x/\x<m:=λ x hx=>hr x (by rw[e];simp[hx]);obtain⟨o,ov⟩:=XZ (p:=p) hn.2.1.1 cj h1 h2;refine ih (pre++[p]) (jE A p post) (by rw[e];simp) o.ok o.sd (λ r cC=>B3 (o.le _) (h3 r cC)) λ pa q pb e2 aj x hx y hy ae=>?_;rw[zM,yC] at aj;by_cases hq:pa.length<pre.length
  ·-- an ln one
   have tM:q∉post:=λ b7=>by
    have e3:pre++p::post=pa++q::pb:=by rw[<-e,e2]
    have q1:q∈pre:=by
     have:=congrArg (λ l=>l[pa.length]?) e3;rw[yB hq,xu (zv _),Nat.sub_self] at this;exact zr this
    exact hn.2.2 q q1 q (zf _ b7) rfl
   rw[o.sm x q (.inr tM),o.sm q y (.inl tM)];exact B3 (o.le _) (h4 pa q pb e2 hq x hx y hy ae)
  ·have a5:pa.length=pre.length:=by omega
   have e3:pa++q::pb=pre++p::post:=by rw[<-e2,e]
   obtain⟨rfl,e4⟩:=List.append_inj e3 a5;cases e4;rw[o.sm x p (.inr hn.2.1.1),o.sm p y (.inl hn.2.1.1)];exact ov x hx y hy ae
theorem JE {m:Nat}{rs:List Road}{L:List Int}(hL:L.Perm (AN m))(Ar:∀r∈rs,Ie m r/\r.a≠r.b):E9 m (B6 rs L)/\vD m rs (Ou L) (λ x y=>An (B6 rs L) (x,y)):=by
 have jm:L.Nodup:=Sz hL;obtain⟨a1,a2,a3⟩:=Pq Ar;obtain⟨b1,b2,b3,b4⟩:=jH jm (λ x hx=>(Ew hL).mp hx) L [] (lay0 rs) rfl a1 a2 a3 (λ pa p pb _ h=>by simp at h);refine⟨b1,λ x y c h=>?_,b3,λ p x y ae h1 h2=>?_,λ x y x0 x1 y0 y1 e=>Y2 ((Ew hL).mpr ⟨x0,x1⟩) ((Ew hL).mpr ⟨y0,y1⟩) e,λ x y c h=>Wk.nn (λ r hr=>(Ar r hr).1) h⟩
 ·have hm:(x,y)∈(SF (lay0 rs) L).map zS:=by
   rw[<-G0];unfold An at h;cases q:CF (B6 rs L) (x,y) with
   |none=>rw[q] at h;cases h
   |some z=>unfold B6 at q;rw[q];rfl
  have:=b1.rg _ hm;exact⟨b2 _ _ _ h,this.1,this.2.1,this.2.2⟩
 ·have ba:∀ {x y:Int} {c:Int×Int},An (B6 rs L) (x,y)=some c->x∈L/\y∈L:=fun {x y c} h=>by
   have hm:(x,y)∈(SF (lay0 rs) L).map zS:=by
    rw[<-G0];unfold An at h;cases q:CF (B6 rs L) (x,y) with
    |none=>rw[q] at h;cases h
    |some z=>unfold B6 at q;rw[q];rfl
   have:=b1.rg _ hm;exact⟨(Ew hL).mpr this.2.1,(Ew hL).mpr this.2.2⟩
  have a5:Ou L p<L.length:=zG h1 (eM L x);obtain⟨pre,post,e,hn,ef⟩:=Y3 a5;cases q1:An (B6 rs L) (x,p) with
  |none=>cases An (B6 rs L) (x,y)<;>exact trivial
  |some c1 =>
   cases q2:An (B6 rs L) (p,y) with
   |none=>cases An (B6 rs L) (x,y)<;>exact trivial
   |some c2 =>
    have r:=b4 pre p post e x (ef x h1 (ba q1).1) y (ef y h2 (ba q2).2) ae;rw[<-q1,<-q2];exact r
noncomputable abbrev CA:=List ((Int×Int)×(Int×Int))
noncomputable def Nm (C:CA):D:=.B8 true (C.map λ kv=>pD kv.1) (C.map λ kv=>cst (some kv.2))
noncomputable def oC (C:CA):OT:=.B8 true (C.map λ kv=>pD kv.1) ((C.map λ kv=>cst (some kv.2)).map .sh)
noncomputable abbrev RA:=List (Int×(Int×Int))
noncomputable def vE (R:RA):D:=.B8 false (R.map λ kv=>D.int kv.1) (R.map λ kv=>cst (some kv.2))
noncomputable def tN (R:RA):OT:=.B8 false (R.map λ kv=>D.int kv.1) ((R.map λ kv=>cst (some kv.2)).map .sh)
theorem Kh (A:LA):er (Gy A)=J3 A:=Di
theorem IF (C:CA):er (oC C)=Nm C:=Di
theorem Ki (R:RA):er (tN R)=vE R:=Di
theorem Pr (A:LA)(p:Int×Int)(neg:Bool):Nk neg (pD p) (J3 A)=.ok (.bl (if neg=true then !(CF A p).isSome else (CF A p).isSome)):=by
 unfold J3 Nk;dsimp only;rw[if_pos (JA p),QW GU]
theorem IG {A:LA}{p:Int×Int}{v:(Int×Int)×Option Int}(h:CF A p=some v):B9 (J3 A) (pD p)=.ok (QX v):=by
 unfold J3 B9;dsimp only;rw[if_pos (JA p),MA GU,h];rfl
theorem jI {C:CA}{p:Int×Int}{c:Int×Int}(h:CF C p=some c):B9 (Nm C) (pD p)=.ok (cst (some c)):=by
 unfold Nm B9;dsimp only;rw[if_pos (JA p),MA (vf:=λ c=>cst (some c)) GU,h];rfl
theorem Y4 (A:LA)(p:Int×Int)(v:(Int×Int)×Option Int):putD (A.map λ kv=>pD kv.1) (A.map λ kv=>QX kv.2) (pD p) (QX v)=((Ex A p v).map (λ kv=>pD kv.1),(Ex A p v).map λ kv=>QX kv.2):=MB GU A p v
theorem Pt {α:Type}(k v:α->D):∀l:List α,Vv (l.map λ x=>.tup [k x,v x])=some (l.map λ x=>(k x,v x))
 |[]=>rfl
 |x::l=>by rw[zh,Vv,Pt k v l];rfl
theorem eN:∀(C C0:CA),((C0++C).map zS).Nodup->(C.map λ kv=>(pD kv.1,cst (some kv.2))).foldl (λ z kv=>putD z.1 z.2 kv.1 kv.2) (C0.map (λ kv=>pD kv.1),C0.map λ kv=>cst (some kv.2))=((C0++C).map (λ kv=>pD kv.1),(C0++C).map λ kv=>cst (some kv.2))
 |[],C0,_=>by simp
 |kv::C,C0,hn=>by
  obtain⟨p,c⟩:=kv;rw[zh,zU];dsimp only;have h0:CF C0 p=none:=by
   rw[QT];intro hm;rw[ya,zN] at hn;exact hn.2.2 p hm p (by simp) rfl
  have e:Ex C0 p c=C0++[(p,c)]:=by unfold Ex;rw[h0];rfl
  rw[MB (vf:=λ c=>cst (some c)) GU,e,eN C (C0++[(p,c)]) (by rw[yn];exact hn),yn];rfl
theorem jJ {C:CA}(hn:(C.map zS).Nodup)(hl:C.length<=1000):Vw (.lst (C.map λ kv=>.tup [pD kv.1,cst (some kv.2)]))=.ok (oC C):=by
 unfold Vw;dsimp only;rw[Pt (λ kv:(Int×Int)×(Int×Int)=>pD kv.1) (λ kv=>cst (some kv.2))];dsimp only;have e:=eN C [] hn;rw[if_pos ⟨by rw[ze];exact hl,by rw[List.all_map];exact xj.mpr λ x _=>rfl⟩];have e2:nT (C.map λ kv=>(pD kv.1,cst (some kv.2)))=(C.map (λ kv=>pD kv.1),C.map λ kv=>cst (some kv.2)):=e;rw[e2];rfl
noncomputable def Ax (m:Nat)(rs:List Road)(L:List Int)(A:LA)(K:List (Int×Int)):D:=.ins "Ladder" ["own_map","own_order","laid","kept_ones"] [Ae m rs,.lst (L.map D.int),J3 A,.lst (K.map pD)]
structure Ov (m:Nat)(rs:List Road)(L:List Int)(A:LA)(K:List (Int×Int)):Prop where
 m1:1<=m
 m2:m<=16
 rl:rs.length<=60
 ok:∀r∈rs,Ie m r/\r.a≠r.b
 pm:L.Perm (AN m)
 la:A=B6 rs L
 kn:K.Nodup
 km:∀p,p∈K↔∃c,An A p=some c/\Oh rs p.1 p.2 (some c)
theorem Ov.vF {m:Nat}{rs:List Road}{L:List Int}{A:LA}{K:List (Int×Int)}(h:Ov m rs L A K):E9 m A:=by
 rw[h.la];exact (JE h.pm h.ok).1
theorem FH {A:LA}{p:Int×Int}{c:Int×Int}(h:An A p=some c):p∈A.map zS:=by
 rw[<-G0];unfold An at h;cases q:CF A p with
 |none=>rw[q] at h;cases h
 |some z=>rfl
theorem rG (p q:Int×Int):XH (cst (some p)) (cst (some q))=.ok (.bl (decide (p.1<q.1\/(p.1=q.1/\p.2<q.2)))):=by
 rw[<-EV];rfl
theorem SG {m:M Out}{t r:OT}(h:WP m (λ ρ=>GQ ρ=some t/\OT.sh .Ay=r) (λ o=>match o with | .Eh r' ρ=>GQ ρ=some t/\r'=r | _=>False) (λ _=>False)):Ep m=.ok (t,r):=by
 cases m with
 |bad|ex x=>exact h.elim
 |ok o =>
  cases o with
  |next ρ=>obtain⟨h1,h2⟩:=(show GQ ρ=some t/\OT.sh .Ay=r from h);unfold Ep;dsimp only;rw[h1,<-h2]
  |Eh r' ρ=>obtain⟨h1,h2⟩:=(show GQ ρ=some t/\r'=r from h);unfold Ep;dsimp only;rw[h1,<-h2]
  |ret d|BL d|brk d|cont d=>exact h.elim
theorem Kj {F:OT->List D->M (OT×OT)}{ρ:Aa}{p:Option Nat}{t t2 r:OT}{az:List D}{i:Nat}(h:ρ[i]?=some (some (.ow (.tree p t))))(hN:Xs t=true)(hF:F t az=.ok (t2,r)):Qy i F ρ [] az=.ok (ρ.set i (some (toCl p t2)),r):=by
 rw[Xu h rfl rfl hN hF,D8]
theorem Cj {A:LA}{p:Option Nat}{ρ:Aa}:Gp 0 (some (.ow (.tree p (Gy A)))::ρ) []=.ok (true,A.map (λ kv=>pD kv.1),A.map λ kv=>QX kv.2):=BN
theorem Ea {R:RA}{p:Option Nat}{ρ:Aa}:Gp 0 (some (.ow (.tree p (tN R)))::ρ) []=.ok (false,R.map (λ kv=>D.int kv.1),R.map λ kv=>cst (some kv.2)):=BN
theorem E9.ov {m:Nat}{A:LA}(h:E9 m A){p u w:Int}(hu:0<=u/\u<m)(hw:0<=w/\w<m):E9 m (Pp p u A w):=by
 unfold Pp;split
 ·exact h
 ·rename_i e;exact h.lay ⟨e,hu,hw⟩
theorem E9.ou {m:Nat}{p u:Int}(hu:0<=u/\u<m):∀ {H:List Int}{A:LA},E9 m A->(∀x∈H,0<=x/\x<m)->E9 m (H.foldl (Pp p u) A)
 |[],A,h,_=>h
 |w::H,A,h,hH=>by
  have r:=E9.ou (A:=Pp p u A w) (H:=H) (p:=p) hu (h.ov hu (hH w zc)) λ x hx=>hH x (zf _ hx);exact r
theorem Ey {α β:Type}{f:β->α->β}{l:List α}{i:Nat}{x:α}{b:β}(h:l[i]?=some x):(l.take (i+1)).foldl f b=f ((l.take i).foldl f b) x:=by
 rw[xb,h,Option.toList_some,List.foldl_append];rfl
theorem E9.lo {m:Nat}{p:Int}{H0:List Int}(h0:∀x∈H0,0<=x/\x<m):∀ {H:List Int}{A:LA},E9 m A->(∀x∈H,0<=x/\x<m)->E9 m (H.foldl (cP p H0) A)
 |[],A,h,_=>h
 |w::H,A,h,hH=>by
  have r:=E9.lo (p:=p) (A:=cP p H0 A w) (H:=H) h0 (E9.ou (hH w zc) h h0) λ x hx=>hH x (zf _ hx);exact r
theorem HP (c:Co):Se (.ok (.sh (cst c)))=.ok (.sh (cst c)):=by
 cases c<;>rfl
def rH (a b:List Co×Bool):Prop:=b.2=true/\(a.2=false\/(a.2=true/\N8 ltN a.1 b.1))
theorem jK (x:List Co):Acc rH (x,false):=.intro _ λ y h=>by cases h.1
theorem jL (x:List Co):Acc rH (x,true):=by
 have:=Vz x;induction this with
 |intro x _ ih =>
  refine .intro _ λ y h=>?_;obtain⟨y,b⟩:=y;rcases h.2 with e|⟨e,h2⟩
  ·dsimp only at e;subst e;exact jK y
  ·dsimp only at e;subst e;exact ih y h2
theorem SH (n:Nat):C6 0 n=(AN n).map D.int:=by rw[LX,Mv]
theorem HZ.tO {m:Nat}{r:Road}(h:HZ m r):Ie m r/\r.a≠r.b:=⟨⟨h.a0,h.a1,h.b0,h.b1,λ l hl=>(h.l0 l hl).1⟩,h.ab⟩
def KP (rs:List Road)(A:LA)(p:Int×Int):Prop:=∃c,An A p=some c/\Oh rs p.1 p.2 (some c)
noncomputable def oE (A:LA)(cs:List Co)(u w:Int):Bool:=match An A (u,w) with
 |none=>false
 |some c=>decide (some c=atC cs w)
theorem Y5 {m s:Nat}{rs:List Road}{cs:List Co}{A:LA}(hR:Right m s rs cs)(Ar:∀r∈rs,Ie m r){w:Int}(h0:0<=w)(h1:w<m):oE A cs s w=true↔KP rs A (s,w):=by
 have hm:=hR.nY Ar h0 h1;unfold oE KP;cases q:An A ((s:Int),w) with
 |none=>simp
 |some c =>
  dsimp only;constructor
  ·intro h;have e:=of_decide_eq_true h;exact⟨c,rfl,e▸hm⟩
  ·rintro ⟨c',e,h⟩;cases e;exact decide_eq_true (h.BS hm)
theorem jM {m:Nat}{rs:List Road}{A:LA}{K:List (Int×Int)}(hA:E9 m A)(hm:m<=20)(hn:K.Nodup)(hK:∀p∈K,KP rs A p):K.length<1000:=by
 have hr:∀p∈K,p.1≠p.2/\(0<=p.1/\p.1<m)/\0<=p.2/\p.2<m:=λ p hp=>by
  obtain⟨c,hc,_⟩:=hK p hp;exact hA.rg p (FH hc)
 exact C9.len (m:=m) ⟨hn,λ x hx=>(hr _ hx).1 rfl,λ q hq=>⟨(hr q hq).2.1,(hr q hq).2.2⟩⟩ hm
theorem CZ:∀ds:List D,(∀d∈ds,JP d=true)->BI (ds.map .sh)=true
 |[],_=>rfl
 |d::ds,h=>by
  rw[zh,BI,Ct,h d zc,CZ ds λ x hx=>h x (zf _ hx)];rfl
theorem QY {ds:List D}(h:∀d∈ds,JP d=true):Se (.ok (.lst (ds.map .sh)))=.ok (.lst (ds.map .sh)):=by
 unfold Se;simp only[M.A6];rw[Ct,CZ ds h];rfl
theorem Y6 (L:List Int):Se (.ok (.lst ((L.map D.int).map .sh)))=.ok (.lst ((L.map D.int).map .sh)):=QY λ d hd=>by
 obtain⟨x,_,rfl⟩:=zJ.mp hd;rfl
theorem cR (K:List (Int×Int)):Se (.ok (.lst ((K.map pD).map .sh)))=.ok (.lst ((K.map pD).map .sh)):=QY λ d hd=>by
 obtain⟨x,_,rfl⟩:=zJ.mp hd;exact Sw x
theorem Y7 (v:(Int×Int)×Option Int):JP (QX v)=true:=by
 obtain⟨c,l⟩:=v;cases l<;>rfl
theorem cS (A:LA):Se (.ok (Gy A))=.ok (Gy A):=by
 unfold Se Gy;simp only[M.A6];rw[Ct,CZ _ λ d hd=>by
  obtain⟨x,_,rfl⟩:=zJ.mp hd;exact Y7 x.2]
 rfl
theorem VR {α:Type}{a b c d e f g h:D}{x y:α}:(if [a,b,c,d,e,f,g,h].length<=1000 then x else y)=x:=if_pos (by simp)
theorem Ox (r:Road):dp (.ok (C2 r))=.ok (C2 r):=by
 obtain⟨a,b,l,w⟩:=r;cases l<;>rfl
theorem Kk (i:Int):dp (.ok (.int i))=.ok (.int i):=rfl
theorem QZ:∀(n:Nat) (B:List (Int×Int)) (L:List Int),L.length=n->(Sx n B L).Perm L
 |0,B,L,h=>by rw[List.length_eq_zero_iff.mp h];exact .refl _
 |n+1,B,L,h=>by
  have ae:L≠[]:=λ e=>by rw[e] at h;cases h
  have hm:=(Om (B:=B) ae).1;rw[Sx,if_neg ae];refine List.Perm.trans ?_ (List.perm_cons_erase hm).symm;exact (QZ n _ _ (by rw[List.length_erase_of_mem hm,h];rfl)).cons _
theorem cT {K:za}{H:Hp}:∀k:Key,Bw K H (kV k) (Cn k)
 | .inl i=>.int i
 | .inr x=>.str x
theorem Lu (m:Nat)(rs:List Road):er (.tup [.sh (.int m),.lst ((rs.map C2).map .sh)])=Ae m rs:=by
 rw[er,I9,Mh,I9,Et,I9];rfl
structure JF (h:Heap)(d:Addr)(es:Array DictEntry)(ep:Nat):Prop where
 at':∃o,h.get? d=some o/\o.ExactDict/\o.data=.dict es ep
section
variable {prog:Program}{w:World}{A:Around}{E:Value->Shared->Prop}{s:Shared}{d it:Addr}{es:Array DictEntry}{ep i:Nat}
theorem JF.ty (x:JF s.heap d es ep):s.TypeIs (.ref d) "dict" := let ⟨o,h,c,_⟩:=x.at';⟨o,h,c.1⟩
theorem Ug {Q:Value->Shared->Prop}(hs:(d==sysModules)=false)(x:JF s.heap d es ep)
 (q:Q (.ref s.heap.objs.size) {s with heap:=s.heap.push {cls:=.type "dict_keyiterator",data:=.fields #[.ref d,.int 0 0,.int es.size 0,.int ep 0]} }):wpAny (model prog w) A (pyIter (.ref d)) Q E s:=by
 have t:=x.ty;obtain⟨o,h1,h2,h3⟩:=x.at';apply wpAny_pyIter_slot t F.slot_dict_iter;apply wpAny_call_entry F.slot_dict_iter t F.entry_dict_iter _ (F.args_dict_iter_1 _);rw[Builtin.«dict.__iter__»];apply wpAny_bind;rw[Builtin.Dict.dictSlotNone];apply wpAny_bind;apply wpAny_notOrdered_dict t;refine wpAny_pure (a:=zK d) ?_;refine wpAny_bind (m:=Builtin.Dict.showsAll d) ?_;rw[Builtin.Dict.showsAll,hs];refine wpAny_pure ?_;apply wpAny_bind;apply wpAny_dictEntries h1 h3;apply wpAny_bind;apply wpAny_dictEpoch h1 h3;apply wpAny_bind;refine wpAny_newObj_type (wpAny_pure ⟨_,rfl,"dict_keyiterator",_,⟨_,zA _ rfl,rfl⟩,F.slot_dict_keyiterator_next.lookup,?_⟩);simpa [rawInt] using q
theorem JG {Q:Option Value->Shared->Prop}(hh:A.handled=none)(hit:s.heap.IsKeyIter it d i es.size ep)(x:JF s.heap d es ep)
 (go:∀(hi:i<es.size) (h':Heap),h'.IsKeyIter it d (i+1) es.size ep->xg it s.heap h'->Q (some es[i].key) {s with heap:=h' })
 (no:es.size<=i->∀h',Heap.ExtBut it s.heap h'->Q none {s with heap:=h' }):wpAny (model prog w) A (pyNext (.ref it)) Q E s:=by
 obtain⟨io,g1,g2,g3⟩:=id hit;obtain⟨o,h1,h2,h3⟩:=x.at';have t:=hit.typeIs;rw[pyNext];apply wpAny_bind;apply wpAny_attempt;apply wpAny_callSpecial?_slot (name:=Str.ofString "__next__") t F.slot_dict_keyiterator_next;apply wpAny_call_entry F.slot_dict_keyiterator_next t F.entry_dict_keyiterator_next _ (F.args_dict_keyiterator_next_1 _);apply wpAny_bind;refine wpAny_pure ?_;apply wpAny_bind;apply wpAny_bind;apply wpAny_bind;apply wpAny_typeNameOfWhole_keyiter t;refine wpAny_pure ?_;apply wpAny_bind;apply wpAny_fieldsOf g1 g3;rw[show Builtin.Dict_items.ownsTuple "dict_keyiterator" = false from by decide];show wpAny _ _ (ite ((zK d==y7)=true) _ _) _ _ s;have nn:¬ (zK d==y7)=true:=nofun;rw[if_neg nn];apply wpAny_bind;refine wpAny_pure (a:=d) ?_;apply wpAny_bind;apply wpAny_dictEntries h1 h3;rw[if_neg (by simp)];apply wpAny_bind;refine wpAny_pure (a:=d) ?_;apply wpAny_bind;apply wpAny_dictEpoch h1 h3;rw[if_neg (by simp)];refine wpAny_pure ?_;have i0:¬ (i:Int)<0:=by omega
 by_cases hi:i<es.size
 ·simp only[i0,if_false,y9,yi hi];apply wpAny_bind;apply wpAny_bind;apply wpAny_typeNameOfWhole_keyiter t;refine wpAny_pure ?_;apply wpAny_bind;apply wpAny_isOneOf_keyiter t;refine wpAny_bind (m:=setField (.ref it) 1 (rawInt ((i:Int)+1))) ?_;apply wpAny_setField g1 g3 (by simp);have st:(s.heap.update it (Obj.mapFields (·.setIfInBounds 1 (rawInt ((i:Int)+1))))).IsKeyIter it d (i+1) es.size ep:=
   ⟨_,yT _ g1 (Obj.isFreed_of_fields (Obj.data_mapFields g3 _)),(Obj.cls_mapFields ..).trans g2,by rw[Obj.data_mapFields g3];simp[rawInt]⟩
  apply wpAny_bind;apply wpAny_holding;apply wpAny_bind;apply wpAny_isOneOf_keyiter st.typeIs;refine wpAny_pure (a:=es[i].key) ?_;exact wpAny_pure ⟨_,rfl,wpAny_pure (go hi _ st (yW ..))⟩
 ·have cU:es.size<=i:=by omega
  simp only[i0,if_false,y9,Array.getElem?_eq_none cU];apply wpAny_bind;apply wpAny_bind;apply wpAny_typeNameOfWhole_keyiter t;refine wpAny_pure ?_;refine wpAny_bind (m:=setField (.ref it) 0 .none) ?_;apply wpAny_setField g1 g3 (by simp);apply wpAny_bind;rw[newExc];apply wpAny_bind;rw[newTuple];refine wpAny_newObj_type ?_ (by size_fits);apply wpAny_bind;refine wpAny_of_eq (a:=y7) (by simp only[firstArgMember];rfl) ?_;refine wpAny_newObj_type ?_ (by size_fits);simp only[raiseNew];apply wpAny_bind;apply wpAny_handled;rw[show A.in1.handled=none from hh];refine wpAny_bind (wpAny_pure (wpAny_throw ?_));refine wpAny_bind (wpAny_isInstance (T := "StopIteration") (b:=true) ⟨_,zA _ rfl,rfl⟩ isSubtype_stop ?_);exact wpAny_pure (no cU _ (((yW ..).extBut.push _).push _))
end
section
variable {X:Cx}{pins:List (Addr×Obj)}{σ:St}{H:Hp}{s:Shared}{a:Addr}{o:Obj}{kvs:List (List Key×V)}
noncomputable abbrev W8 (H:Hp)(kvs:List (List Key×V))(xs:List (List Key×Addr×Value)):Prop:=Paired (λ(p:List Key×V) (q:List Key×Addr×Value)=>p.1=q.1/\H q.2.1=some (.tup (p.1.map kV))/\RelV p.2 q.2.2) kvs xs
theorem W8.put {xs:List (List Key×Addr×Value)}{u v:HO}(r:W8 H kvs xs)(e:H a=some u)(hu:∀l,u≠.tup l):W8 (upd H a v) kvs xs:=
 Paired.YJ r λ p q h=>⟨h.1,by rw[Ab (λ z=>by have:=h.2.1;rw[z,e] at this;exact hu _ (z0 this))];exact h.2.1,h.2.2⟩
theorem W8.get:∀ {kvs:List (List Key×V)}{xs:List (List Key×Addr×Value)},W8 H kvs xs->∀ {i:Nat}{q:List Key×Addr×Value},xs[i]?=some q->∃p,kvs[i]?=some p/\H q.2.1=some (.tup (p.1.map kV))
 |_,_,.nil,i,q,e=>by cases e
 |_,_,.cons h t,0,q,e=>by cases e;exact⟨_,rfl,h.2.1⟩
 |_,_,.cons h t,i+1,q,e=>W8.get t (i:=i) e
theorem Inv.cV (I:Inv X pins σ H s)(e:H a=some (.dT kvs)):∃o,s.heap.get? a=some o/\Inv X pins σ (upd H a (.FJ o (.dT kvs))) s:=by
 obtain⟨z,y,xs,r,o,es,ep,ho,c⟩:=(show AV X.prog X.w H s.heap a (.dT kvs) from I.Ar a _ e);have ne:∀b u,H b=some u->u≠.dT kvs->b≠a:=λ b u q n hb=>n (by rw[hb,e] at q;exact (z0 q).symm);have Ar:FK X.prog X.w (upd H a (.FJ o (.dT kvs))) s.heap:=λ b u q=>by
  by_cases hb:b=a
  ·subst hb;rw[Al] at q;cases q;exact⟨ho,z,y,xs,W8.put r e (λ l z=>by cases z),o,es,ep,ho,c⟩
  ·rw[Ab hb] at q;exact (I.Ar b u q).Ly (λ _ _ _ w=>w) (λ d w=>by rw[Ab (ne d _ w (λ z=>by cases z))];exact w) λ d xs w=>by rw[Ab (ne d _ w (λ z=>by cases z))];exact w
 refine⟨o,ho,?_⟩;exact I.step (g':=s.gens) (d':=s.drawn) (t':=s.toks) (ch:=[]) (h':=s.heap) (H':=upd H a (.FJ o (.dT kvs))) (λ b hb=>by cases hb) (λ _ _ _ _ _ q _=>q) (λ b o _ _ _ q _=>⟨o.slots,q⟩) (λ b o _ _ n=>by rw[Ab (λ z=>by rw[z,e] at n;cases n)];exact n)
  (λ b o _ q=>⟨o,q⟩) (λ b xs q=>by rw[Ab (ne b _ q (λ z=>by cases z))];exact q) (λ b o u q=>by rw[Ab (ne b _ q (λ z=>by cases z))];exact q) (λ b ps q=>⟨#[],by rw[Ab (ne b _ q (λ z=>by cases z)),q];simp⟩) (λ _ q=>q) Ar I.bare
theorem Inv.jN (I:Inv X pins σ H s)(e:H a=some (.dT kvs)):∀o u,X.H₀ a≠some (.FJ o u):=λ o u q=>by
 rw[I.base.JR a o u q] at e;cases e
theorem Inv.VS (I:Inv X pins σ H s)(e:H a=some (.FJ o (.dT kvs)))(n0:∀o u,X.H₀ a≠some (.FJ o u)):Inv X pins σ (upd H a (.dT kvs)) s:=by
 have ne:∀b u,H b=some u->u≠.FJ o (.dT kvs)->b≠a:=λ b u q n hb=>n (by rw[hb,e] at q;exact (z0 q).symm);have nn:∀b,H b=none->b≠a:=λ b q hb=>by rw[hb,e] at q;cases q
 refine⟨I.ok,I.os,I.bare,⟨I.base.keep,I.base.slot,λ b ob q n hx=>?_,I.base.there,λ b xs q=>?_,λ b ob u q=>?_,λ b ps q=>?_⟩,I.loc,I.cell,?_,λ x c h=>?_,λ p hp=>?_,λ b u q=>?_,I.len⟩
 ·have:=I.base.free b ob q n hx;rw[Ab (nn b this)];exact this
 ·have:=I.base.Lz b xs q;rw[Ab (ne b _ this (λ z=>by cases z))];exact this
 ·by_cases hb:b=a
  ·subst hb;exact absurd q (n0 ob u)
  ·rw[Ab hb];exact I.base.JR b ob u q
 ·obtain⟨m,h⟩:=I.base.LB b ps q;exact⟨m,by rw[Ab (ne b _ h (λ z=>by cases z))];exact h⟩
 ·rw[Ab (nn _ I.free)];exact I.free
 ·rw[Ab (nn _ (I.F4 x c h))];exact I.F4 x c h
 ·obtain⟨h1,h2,h3⟩:=I.pin p hp;exact⟨h1,by rw[Ab (nn _ h2)];exact h2,h3⟩
 ·by_cases hb:b=a
  ·subst hb;rw[Al] at q;cases q;obtain⟨h1,z,y,xs,r,c⟩:=(show AV X.prog X.w H s.heap b (.FJ o (.dT kvs)) from I.Ar b _ e);exact⟨z,y,xs,W8.put r e (λ l z=>by cases z),c⟩
  ·rw[Ab hb] at q;exact (I.Ar b u q).Ly (λ _ _ _ w=>w) (λ d w=>by rw[Ab (ne d _ w (λ z=>by cases z))];exact w) λ d xs w=>by rw[Ab (ne d _ w (λ z=>by cases z))];exact w
end
noncomputable def Y8 (a:Addr)(o:Obj)(kvs:List (List Key×V)):It:=
 ⟨λ i H=>H a=some (.FJ o (.dT kvs))/\i<kvs.length,λ i H v H'=>H'=H/\∃kv t,kvs[i]?=some kv/\v=.ref t/\H t=some (.tup (kv.1.map kV)),λ i H=>H a=some (.FJ o (.dT kvs))/\kvs.length<=i⟩
theorem SI {P:Program}{w:World}{K:za}{tg:Expr}(a it:Addr)(o:Obj)(kvs:List (List Key×V))(es:Array DictEntry)(ep:Nat)(hx:o.ExactDict)(gu:o.data=.dict es ep)(hl:es.size=kvs.length):
 Turn P w K tg (Y8 a o kvs) [it] it (λ i h=>i<=kvs.length/\h.IsKeyIter it a i es.size ep) where
 mem:=by simp
 obj:=λ i h st b hb=>by
  have e:b=it:=by simpa using hb
  subst e;obtain⟨_,o,e,c,d⟩:=st;exact⟨o,e,λ v z=>by rw[d] at z;cases z⟩
 keep:=λ i h h' st k=>⟨st.1,st.2.at λ o e=>k it (by simp) o e⟩
 item:=by
  intro X hP hw hK hc i pins s σ H E I hf st hg;subst hP hw hK;obtain⟨he,hi⟩:=hg;obtain⟨gw,z,y,xs,r,ob,tP,tQ,ho,_,hd,bA,hn⟩:=(show AV X.prog X.w H s.heap a (.FJ o (.dT kvs)) from I.Ar a _ he);have eo:o=ob:=z0 (gw.symm.trans ho);subst eo;rw[gu] at hd;cases hd;obtain⟨f0,f1,f2,f3,f4,f5⟩:=hf it (by simp);refine JG (I.ok.hd hc) st.2 ⟨o,gw,hx,gu⟩ (λ cU h' aG sb=>?_) (λ z=>absurd z (by omega));have hq:=entry_at bA i;rw[yi cU] at hq;cases qx:xs[i]? with
  |none=>rw[qx] at hq;cases hq
  |some x =>
   rw[qx] at hq;have ek:es[i].key=.ref x.2.1:=by rw[z0 hq];rfl
   obtain⟨p,hp,ht⟩:=W8.get r qx;have I1:Inv X pins σ H {s with heap:=h',toks:=s.toks}:=I.turned (t':=s.toks) (λ b o hb e=>sb.extBut b o hb e) f0 f1 f3 f4 f5;obtain⟨io,e,c,d⟩:=id aG;refine⟨_,rfl,?_⟩;rw[ek];exact Wo (s:={s with heap:=h',toks:=s.toks}) e c d (by decide) ⟨.ref x.2.1,H,I1,rfl,⟨rfl,p,x.2.1,hp,rfl,ht⟩,⟨hi,aG⟩,λ b hb=>(hf b hb).1⟩
 done:=by
  intro X hP hw hK hc i pins s σ H E I hf st hg;subst hP hw hK;obtain⟨he,hi⟩:=hg;have gw:s.heap.get? a=some o:=(show AV X.prog X.w H s.heap a (.FJ o (.dT kvs)) from I.Ar a _ he).1;obtain⟨f0,f1,f2,f3,f4,f5⟩:=hf it (by simp);exact JG (I.ok.hd hc) st.2 ⟨o,gw,hx,gu⟩ (λ cU=>absurd cU (by omega)) λ _ h' eb=>⟨rfl,I.turned (t':=s.toks) (λ b o hb e=>eb b o hb e) f0 f1 f3 f4 f5⟩
 self:=λ _ _ _ _ _ st h=>wpAny_pyIter_keyiter st.2 h
section
variable {X:Cx}{WX:Str->Hp->Prop}{tg e:Expr}{f g:Aa->M D}{pos p:Pos}{te:TE}
noncomputable def jO (H0:Hp)(te:TE):TI:=λ σ H R=>te σ H λ v H1=>∃a kvs,v=.ref a/\((H1 a=some (.dT kvs)/\∀o,(∀o u,H0 a≠some (.FJ o u))->R (Y8 a o kvs) (upd H1 a (.FJ o (.dT kvs))))\/∃o,H1 a=some (.FJ o (.dT kvs))/\R (Y8 a o kvs) H1)
theorem Y9 (ha:PE X e te):PI X tg e (jO X.H₀ te):=by
 intro pins s σ H R I h;refine Bb (ha pins s σ H _ I h) λ v s1 ⟨x,H1,I1,r1,q1⟩=>?_;obtain⟨a,kvs,rfl,q⟩:=q1;cases r1;have fin:∀(H2:Hp) (o:Obj),Inv X pins σ H2 s1->H2 a=some (.FJ o (.dT kvs))->R (Y8 a o kvs) H2->wpAny (model X.prog X.w) X.A (pyIter (.ref a)) (qA X pins σ tg R) X.xe s1:=λ H2 o I2 e2 q2=>by
  obtain⟨gw,z,y,xs,r,ob,es,ep,ho,hx,hd,bA,hn⟩:=(show AV X.prog X.w H2 s1.heap a (.FJ o (.dT kvs)) from I2.Ar a _ e2);have eo:o=ob:=z0 (gw.symm.trans ho);subst eo;have hl:es.size=kvs.length:=by rw[size_of_entries bA];exact (Paired.length r).symm
  refine Ug y ⟨o,gw,hx,hd⟩ ?_;refine⟨s1.heap.objs.size,[s1.heap.objs.size],_,_,H2,rfl,I2.kept (t':=s1.toks) λ b o e=>zi _ e,SI a _ o kvs es ep hx hd hl,⟨zQ _,_,zA _ rfl,rfl,rfl⟩,λ b hb=>?_,q2⟩;have e:b=s1.heap.objs.size:=by simpa using hb
  subst e;exact I2.Wn (zv _) (I2.Ar.fresh (zv _))
 rcases q with ⟨e1,q⟩|⟨o,e1,q⟩
 ·obtain⟨o,ho,I2⟩:=I1.cV e1;exact fin _ o I2 Al (q o (I1.jN e1))
 ·exact fin H1 o I1 e1 q
end
def Nn (H H':Hp):Prop:=∀b u,H b=some u->H' b=some u\/(∃o kvs,u=.FJ o (.dT kvs)/\H' b=some (.dT kvs))\/∃o kvs,u=.dT kvs/\H' b=some (.FJ o (.dT kvs))
theorem Nn.tup {H H':Hp}(e:Nn H H'){a:Addr}{xs:List V}(h:H a=some (.tup xs)):H' a=some (.tup xs):=by
 rcases e _ _ h with q|⟨o,k,q,_⟩|⟨o,k,q,_⟩
 ·exact q
 ·cases q
 ·cases q
theorem Nn.dK {H H':Hp}(e:Nn H H'){a:Addr}{kvs:List (Key×V)}(h:Rd H a (.dK kvs)):Rd H' a (.dK kvs):=by
 rcases h with h|⟨o,h⟩
 ·rcases e _ _ h with q|⟨o,k,q,_⟩|⟨o,k,q,_⟩
  ·exact .inl q
  ·cases q
  ·cases q
 ·rcases e _ _ h with q|⟨o,k,q,_⟩|⟨o,k,q,_⟩
  ·exact .inr ⟨_,q⟩
  ·cases q
  ·cases q
theorem Nn.dT {H H':Hp}(e:Nn H H'){a:Addr}{kvs:List (List Key×V)}(h:Rd H a (.dT kvs)):Rd H' a (.dT kvs):=by
 rcases h with h|⟨o,h⟩
 ·rcases e _ _ h with q|⟨o,k,q,_⟩|⟨o,k,q,r⟩
  ·exact .inl q
  ·cases q
  ·cases q;exact .inr ⟨_,r⟩
 ·rcases e _ _ h with q|⟨o,k,q,r⟩|⟨o,k,q,_⟩
  ·exact .inr ⟨_,q⟩
  ·cases q;exact .inl r
  ·cases q
theorem Nn.ins {H H':Hp}(e:Nn H H'){a C dx:Addr}{fs:List (Str×V)}(h:H a=some (.ins C dx fs)):H' a=some (.ins C dx fs):=by
 rcases e _ _ h with q|⟨o,k,q,_⟩|⟨o,k,q,_⟩
 ·exact q
 ·cases q
 ·cases q
theorem Nn.ext {H H':Hp}(e:Nn H H'){a:Addr}{φ:Heap->Prop}(h:H a=some (.ext φ)):H' a=some (.ext φ):=by
 rcases e _ _ h with q|⟨o,k,q,_⟩|⟨o,k,q,_⟩
 ·exact q
 ·cases q
 ·cases q
theorem Nn.seq {K:za}{H H':Hp}(e:Nn H H'){a:Addr}{xs:List V}(h:Dt K H a xs):Dt K H' a xs:=by
 rcases h with (h|⟨o,h⟩)|h
 ·rcases e _ _ h with q|⟨o,k,q,_⟩|⟨o,k,q,_⟩
  ·exact .inl (.inl q)
  ·cases q
  ·cases q
 ·rcases e _ _ h with q|⟨o,k,q,_⟩|⟨o,k,q,_⟩
  ·exact .inl (.inr ⟨_,q⟩)
  ·cases q
  ·cases q
 ·exact .inr h
mutual
theorem Bw.Ig {K:za}{H H':Hp}(e:Nn H H'):∀ {v:V}{d:D},Bw K H v d->Bw K H' v d
 |_,_,.Ay=>.Ay
 |_,_,.bl b=>.bl b
 |_,_,.int i=>.int i
 |_,_,.str x=>.str x
 |_,_,.tup h r=>.tup (e.tup h) (Ag.Ig e r)
 |_,_,.lst h r=>.lst (e.seq h) (Ag.Ig e r)
 |_,_,.HV h r=>.HV (e.dK h) (Ag.Ig e r)
 |_,_,.GC h r=>.GC (e.dT h) (Ag.Ig e r)
 |_,_,.ins n h r=>.ins n (e.ins h) (Ag.Ig e r)
 |_,_,.Dq h r=>.Dq h (e.ext r)
theorem Ag.Ig {K:za}{H H':Hp}(e:Nn H H'):∀ {vs:List V}{ds:List D},Ag K H vs ds->Ag K H' vs ds
 |_,_,.nil=>.nil
 |_,_,.cons h t=>.cons (Bw.Ig e h) (Ag.Ig e t)
end
mutual
theorem Bx.Ig {K:za}{H H':Hp}{P P':Addr->Prop}(sm:Nn (del H P) (del H' P')):∀ {v:V}{t:OT}{fp:List Addr},(∀a∈fp,H' a=H a)->Bx K H P v t fp->Bx K H' P' v t fp
 |_,_,_,_,.sh h=>.sh (h.Ig sm)
 |_,_,_,k,.lst h r=>.lst ((k _ zc).trans h) (Au.Ig sm (λ a ha=>k a (zf _ ha)) r)
 |_,_,_,k,.tup h r=>.tup (sm.tup h) (Au.Ig sm k r)
 |_,_,_,k,.dT h r=>.dT ((k _ zc).trans h) (Au.Ig sm (λ a ha=>k a (zf _ ha)) r)
 |_,_,_,k,.dK h r=>.dK ((k _ zc).trans h) (Au.Ig sm (λ a ha=>k a (zf _ ha)) r)
 |_,_,_,k,.ins n h r=>.ins n ((k _ zc).trans h) (Au.Ig sm (λ a ha=>k a (zf _ ha)) r)
theorem Au.Ig {K:za}{H H':Hp}{P P':Addr->Prop}(sm:Nn (del H P) (del H' P')):∀ {v:List V}{t:List OT}{fp:List Addr},(∀a∈fp,H' a=H a)->Au K H P v t fp->Au K H' P' v t fp
 |_,_,_,_,.nil=>.nil
 |_,_,_,k,.cons h r=>.cons (Bx.Ig sm (λ a ha=>k a (zO _ ha)) h) (Au.Ig sm (λ a ha=>k a (zm _ ha)) r)
end
theorem Cq.Ig {K:za}{H H':Hp}{P P':Addr->Prop}(sm:Nn (del H P) (del H' P')):∀ {ps:List Addr}{FR:List (List D)},(∀a∈ps,H' a=H a)->Cq K H P ps FR->Cq K H' P' ps FR
 |_,_,_,.nil=>.nil
 |_,_,k,.cons h r t=>.cons ((k _ zc).trans h) (r.Ig sm) (Cq.Ig sm (λ a ha=>k a (zf _ ha)) t)
theorem Ck.Ig {K:za}{H H':Hp}{P P':Addr->Prop}(sm:Nn (del H P) (del H' P')){c:Cl}{v:V}{fp:List Addr}(k:∀a∈fp,H' a=H a)(h:Ck K H P c v fp):Ck K H' P' c v fp:=by
 cases c with
 |val d=>exact h
 |own ds =>
  obtain⟨p,xs,rfl,rfl,h1,h2⟩:=h;exact⟨p,xs,rfl,rfl,(k p zc).trans h1,h2.Ig sm⟩
 |ow o =>
  cases o with
  |rows FR =>
   obtain⟨p,ps,rfl,rfl,h1,h2⟩:=h;exact⟨p,ps,rfl,rfl,(k p zc).trans h1,h2.Ig sm λ a ha=>k a (zf _ ha)⟩
  |HW p ds =>
   obtain⟨p,xs,rfl,rfl,h1,h2⟩:=h;exact⟨p,xs,rfl,rfl,(k p zc).trans h1,h2.Ig sm⟩
  |tree p t=>exact Bx.Ig sm k h
theorem Ai.Ig {K:za}{P0:Df}{P:Addr->Prop}{H H':Hp}{σ:St}{ρ:Aa}(E:Ai K P0 P H σ ρ)(k:∀a,P a->H' a=H a)(sm:Nn (del H P) (del H' P)):Ai K P0 P H' σ ρ:=by
 have key:∀(j:Nat) (d:Cl) (w:V) (fq:List Addr),ρ[j]?=some (some d)->σ[j]?=some (some w)->Ck K H' P d w fq->Ck K H P d w fq:=λ j d w fq hk sk ho=>by
  have io:Gx d=true:=by cases d<;>first|rfl|exact ho.elim
  obtain⟨w',bU,s2,o2,h3,_⟩:=E.ows j d hk io;rw[sk] at s2;cases s2;have o3:=o2.Ig sm λ a ha=>k a (h3 a ha).1;rw[ho.BS o3];exact o2
 exact⟨E.sub,λ a h=>by obtain⟨o,z,y⟩:=E.BG a h;exact⟨o,(k a h).trans z,y⟩,λ i d h=>let ⟨v,h1,h2⟩:=E.val i d h;⟨v,h1,h2.Ig sm⟩,
  λ i c h io=>let ⟨v,fp,h1,h2,h3,h4⟩:=E.ows i c h io;⟨v,fp,h1,h2.Ig sm λ a ha=>k a (h3 a ha).1,h3,h4⟩,
  λ i j c c' v v' fp ak hi hj si sj h h' ae=>E.apart i j c c' v v' fp ak hi hj si sj (key i c v fp hi si h) (key j c' v' ak hj sj h') ae,E.len,E.pin⟩
def tR (H0:Hp)(H H':Hp):Prop:=H'=H\/∃a o kvs,H a=some (.dT kvs)/\H'=upd H a (.FJ o (.dT kvs))/\∀o u,H0 a≠some (.FJ o u)
def tS (H0:Hp)(H H':Hp):Prop:=H'=H\/∃a o kvs,H a=some (.FJ o (.dT kvs))/\H'=upd H a (.dT kvs)/\∀o u,H0 a≠some (.FJ o u)
theorem Inv.vG {X:Cx}{pins:List (Addr×Obj)}{σ:St}{H H':Hp}{s:Shared}(I:Inv X pins σ H s)(u:tS X.H₀ H H'):Inv X pins σ H' s:=by
 rcases u with rfl|⟨a,o,kvs,e,rfl,n0⟩
 ·exact I
 ·exact I.VS e n0
noncomputable def jP (H0:Hp)(t:TE):TE:=λ σ H Q=>t σ H λ v H2=>∃H3,tS H0 H2 H3/\Q v H3
theorem jQ {X:Cx}{e:Expr}{t:TE}(h:PE X e t):PE X e (jP X.H₀ t):=by
 intro pins s σ H Q I q;refine Bb (h pins s σ H _ I q) λ v s1 ⟨x,H1,I1,r1,q1⟩=>?_;obtain⟨H3,u,q⟩:=q1;exact⟨x,H3,I1.vG u,r1,q⟩
def oF (X:Cx)(WX:Str->Hp->Prop)(tg iter:Expr)(f:Aa->M (List D)):Prop:=
 ∃wi,PI X tg iter wi/\∀P0 P σ H R ρ,Ai X.K P0 P H σ ρ->(match f ρ with | .ok ds=>∀J H1 H',Ad H H1->tR X.H₀ H1 H'->(∀b,P b->H' b=H1 b)->Nn (del H1 P) (del H' P)->S5 X.K J P H' ds->R J H' | .ex x=>∀H',Ad H H'->WX x H' | .bad=>False)->wi σ H R
noncomputable def Yb (d:D):M (List D):=match d with | .B8 true ks _=>.ok ks | _=>.bad
theorem MC {K:za}{H:Hp}:∀ks:List Key,Ag K H (ks.map kV) (ks.map Cn)
 |[]=>.nil
 |k::ks=>.cons (cT k) (MC ks)
theorem Uh {K:za}{P:Addr->Prop}{H:Hp}{a:Addr}{o:Obj}{kvs:List (List Key×V)}(nP:¬ P a)(e:H a=some (.FJ o (.dT kvs))):S5 K (Y8 a o kvs) P H (kvs.map λ kv=>.tup (kv.1.map Cn)):=by
 have at':∀ {P':Addr->Prop} {H':Hp},Ad (del H P) (del H' P')->H' a=some (.FJ o (.dT kvs)):=λ s=>(Aj (s a _ (by rw[Aq nP];exact e))).2;refine⟨λ i P' H' s hi=>⟨at' s,by rw[ze] at hi;exact hi⟩,λ i P' H' s hi=>⟨at' s,by rw[ze] at hi;exact hi⟩,λ i P' H' v ge d s ht hd y=>?_⟩;obtain⟨rfl,kv,t,hk,rfl,tT⟩:=y;rw[zw,hk] at hd;cases hd;have nt:¬ P' t:=λ z=>by
  obtain⟨ob,z1,z2⟩:=ht t z;rw[tT] at z1;cases z1;exact (z2 _).1 rfl
 exact⟨Ad.refl _,.tup (by rw[Aq nt];exact tT) (MC _)⟩
section
variable {X:Cx}{WX:Str->Hp->Prop}{c:Bool}{P0:Df}{P:Addr->Prop}{H:Hp}{σ:St}{ρ:Aa}{a b e tg iter:Expr}{f g:Aa->M D}{ft:Aa->M Bool}{pos:Pos}{gt:D->Aa->M Aa}{fi:Aa->M (List D)}{es:List Expr}{fs:Aa->M (List D)}
theorem R3 (ha:DE X WX true e f):oF X WX tg e (λ ρ=>(f ρ).bind Yb):=by
 obtain⟨ta,a1,a2⟩:=ha;refine⟨_,Y9 a1,λ P0 P σ H R ρ E h=>?_⟩;dsimp only at h;refine a2 P0 P σ H _ ρ E ?_;cases q:f ρ with
 |bad|ex x=>rw[q] at h;exact h
 |ok d =>
  rw[q] at h;simp only[M.A6] at h;unfold Yb at h;cases d with
  |B8 t ks vs =>
   intro v H1 s1 hv;cases hv with
   | @GC a kvs _ hh hl =>
    rcases hh with hh|⟨o,hh⟩
    ·obtain⟨nP,ea⟩:=Aj hh;refine⟨a,kvs,rfl,.inl ⟨ea,λ o n0=>h _ H1 _ s1 (.inr ⟨a,o,kvs,ea,rfl,n0⟩) (λ b hb=>Ab λ z=>nP (by rw[<-z];exact hb)) (λ b u q=>?_) (Uh nP Al)⟩⟩;obtain⟨n,q'⟩:=Aj q;by_cases hb:b=a
     ·subst hb;rw[ea] at q';cases q';exact .inr (.inr ⟨o,kvs,rfl,by rw[Aq n];exact Al⟩)
     ·exact .inl (by rw[Aq n,Ab hb];exact q')
    ·obtain⟨nP,ea⟩:=Aj hh;exact⟨a,kvs,rfl,.inr ⟨o,ea,h _ H1 H1 s1 (.inl rfl) (λ _ _=>rfl) (λ _ _ q=>.inl q) (Uh nP ea)⟩⟩
   |HV _ _=>exact h.elim
  |_=>exact h.elim
theorem Yc {μ:List (Option Nat)}{wi:TI}{gg:TG}{tc:Shared->Hp->Addr->List Addr->TT}{te:Shared->Hp->Addr->List Addr->TE}{fe:Aa->M D}
 (i2:∀P0 P σ H R ρ,Ai X.K P0 P H σ ρ->(match fi ρ with | .ok ds=>∀J H1 H',Ad H H1->tR X.H₀ H1 H'->(∀b,P b->H' b=H1 b)->Nn (del H1 P) (del H' P)->S5 X.K J P H' ds->R J H' | .ex x=>∀H',Ad H H'->WX x H' | .bad=>False)->wi σ H R)
 (g2:∀P0 P σ H Q ρ v d,Ai X.K P0 P H σ ρ->Bw X.K (del H P) v d->gG X.K P0 P H Q (gt d ρ)->gg v σ H Q)
 (t2:∀s H' C ex P0 P σ H Q ρ,Ai X.K P0 P H σ ρ->gT (λ _ _=>False) H Q (ft ρ)->tc s H' C ex σ H Q)
 (e2:∀s H' C ex P0 P σ H Q ρ,Ai X.K P0 P H σ ρ->gV X.K (λ _ _=>False) (Lv true P0 P) H Q (fe ρ)->te s H' C ex σ H Q) {Q:VK}
 (E:Ai X.K P0 P H σ ρ) (h:YG X.K WX P H Q ((fi ρ).bind λ ds=>if ds.length<=1000 then Gn (AM gt ft fe ds (B2 μ ρ)) else .bad)):jP X.H₀ (Qh wi μ gg tc te) σ H Q:=by
 unfold jP;refine i2 P0 P σ H _ ρ E ?_;cases q:fi ρ with
 |bad|ex x=>rw[q] at h;exact h
 |ok ds =>
  rw[q] at h;simp only[M.A6] at h;by_cases hd:¬ ds.length<=1000
  ·rw[if_neg hd] at h;exact h.elim
  have hd:ds.length<=1000:=by omega
  rw[if_pos hd] at h;intro J H0 H1 s0 fz kP rz ok s C ex;cases qc:AM gt ft fe ds (B2 μ ρ) with
  |bad|ex x=>rw[qc] at h;exact h.elim
  |ok total =>
   rw[qc] at h;unfold Gn at h;dsimp only at h;have E1:Ai X.K P0 P H1 σ ρ:=(E.same s0).Ig kP rz;refine⟨λ i m ys H2=>m=ds.length-i/\i<=ds.length/\ys.length<=i/\Ad H1 H2/\∃es rest,Ag X.K (del H2 P) ys es/\AM gt ft fe (ds.drop i) (B2 μ ρ)=.ok rest/\es++rest=total,
    ⟨ds.length,by simp,zQ _,zv _,Ad.refl _,[],total,.nil,by rw[xl];exact qc,rfl⟩,?_⟩
   rintro i m ys H2 ⟨rfl,hi,hy,s2,es,rest,bA,ag,aH⟩;by_cases aj:i<ds.length
   ·refine .inr ⟨ok.go i P H2 s2.del aj,Nat.lt_of_le_of_lt hy (AA (by omega)),λ bd H'=>i+1<=ds.length/\bd.length<=i+1/\Ad H1 H'/\∃es rest,Ag X.K (del H' P) bd es/\AM gt ft fe (ds.drop (i+1)) (B2 μ ρ)=.ok rest/\es++rest=total,λ bd H' hq=>⟨ds.length-(i+1),by omega,rfl,hq.1,hq.2.1,hq.2.2.1,hq.2.2.2⟩,λ v H3 y=>?_⟩;have E2:=E1.same s2;obtain⟨s3,hv⟩:=ok.YT i P H2 v H3 ds[i] s2.del E2.BG (zg aj) y;rw[Ei aj,AM] at ag;have E3:=(E2.same s3).block μ;refine g2 P0 P _ H3 _ (B2 μ ρ) v ds[i] E3 hv ?_;cases q1:gt ds[i] (B2 μ ρ) with
    |bad|ex x=>rw[q1] at ag;cases ag
    |ok ρ1 =>
     rw[q1] at ag;dsimp only at ag;intro σ4 E4;refine t2 s H1 C ex P0 P σ4 H3 _ ρ1 E4 ?_;cases q2:ft ρ1 with
     |bad|ex x=>rw[q2] at ag;cases ag
     |ok k =>
      rw[q2] at ag;dsimp only at ag;intro H5 s5;cases k with
      |false =>
       simp only[zF,if_false] at ag ⊢;exact⟨aj,by omega,(s2.trans s3).trans s5,es,rest,(bA.mono s3.del).mono s5.del,ag,aH⟩
      |true =>
       simp only[if_true] at ag ⊢;refine e2 s H1 C ex P0 P σ4 H5 _ ρ1 (E4.same s5) ?_;cases q3:fe ρ1 with
       |bad|ex x=>rw[q3] at ag;cases ag
       |ok y' =>
        rw[q3] at ag;dsimp only at ag;cases q4:AM gt ft fe (ds.drop (i+1)) (B2 μ ρ) with
        |bad|ex x=>rw[q4] at ag;cases ag
        |ok jc =>
         rw[q4] at ag;cases ag;intro w H6 s6 hw;refine⟨aj,by rw[zM,yC];omega,((s2.trans s3).trans s5).trans s6,es++[y'],jc,(((bA.mono s3.del).mono s5.del).mono s6.del).snoc hw,rfl,?_⟩;rw[yn];exact aH
   ·have e:i=ds.length:=by omega
    subst e;rw[yP,AM] at ag;cases ag;rw[zX] at aH;subst aH;refine .inl ⟨ok.stop _ P H2 s2.del (zv _),λ D0 hn=>?_⟩;rcases fz with rfl|⟨a,o,kvs,ea,rfl,n0⟩
    ·exact⟨_,.inl rfl,h.HX (s0.trans s2) bA D0 hn⟩
    ·have e2:H2 a=some (.FJ o (.dT kvs)):=s2 a _ Al;have nP:¬ P a:=λ z=>by
      have:=kP a z;rw[Al,ea] at this;cases this
     have ae:a≠D0:=λ z=>by rw[<-z,e2] at hn;cases hn
     have ec:upd (upd H2 D0 (.lst ys)) a (.dT kvs)=upd (upd H2 a (.dT kvs)) D0 (.lst ys):=by
      funext b;by_cases hb:b=a
      ·subst hb;rw[Al,Ab ae,Al]
      ·rw[Ab hb];by_cases hd:b=D0
       ·subst hd;rw[Al,Al]
       ·rw[Ab hd,Ab hd,Ab hb]
     refine⟨upd (upd H2 D0 (.lst ys)) a (.dT kvs),.inr ⟨a,o,kvs,by rw[Ab ae];exact e2,rfl,n0⟩,?_⟩;rw[ec];have su:Ad H (upd H2 a (.dT kvs)):=s0.trans λ b u q=>by
      by_cases hb:b=a
      ·subst hb;rw[ea] at q;cases q;exact Al
      ·rw[Ab hb];exact s2 b u (by rw[Ab hb];exact q)
     refine h.HX su (bA.Ig λ b u q=>?_) D0 (by rw[Ab (yc ae)];exact hn);by_cases hb:b=a
     ·subst hb;rw[Aq nP,e2] at q;cases q;exact .inr (.inl ⟨o,kvs,rfl,by rw[Aq nP];exact Al⟩)
     ·refine .inl ?_;obtain⟨n,q'⟩:=Aj q;rw[Aq n,Ab hb];exact q'
theorem Oy {scope:Scope}{NB:List Str}{ifs:List Expr}{elt:Expr}{fe:Aa->M D}(μ:List (Option Nat))(hc:X.calm=true)(hi:oF X WX tg iter fi)(aD:Jb scope X.env.scope=true)(bG:OR X.N NB scope μ=true)(hg:pA X scope NB μ tg gt)
 (ht:∀s H C ex,mY (blockOf X s H scope C NB ex) ifs ft) (he:∀s H C ex,DE (blockOf X s H scope C NB ex) (λ _ _=>False) true elt fe) (hs:∀x,foldedSetIterable iter X.env x=pure x:=by intro _;rfl):
 DN X WX (.ListComp elt [⟨tg,iter,ifs,0⟩] scope pos) (λ ρ=>(fi ρ).bind λ ds=>if ds.length<=1000 then Gn (AM gt ft fe ds (B2 μ ρ)) else .bad):=by
 obtain⟨wi,i1,i2⟩:=hi;obtain⟨gg,g1,gk,g2⟩:=hg;refine⟨_,jQ (Tt hc i1 aD bG gk (λ s H C ex=>⟨g1 s H C ex,(zb (ht s H C ex)).1,(zb (he s H C ex)).1⟩) hs),λ P0 P σ H Q ρ E h=>?_⟩;exact Yc i2 g2 (λ s H' C ex P0 P σ H Q ρ E h=>(zb (ht s H' C ex)).2 P0 P σ H Q ρ E h) (λ s H' C ex P0 P σ H Q ρ E h=>(zb (he s H' C ex)).2 P0 P σ H Q ρ E h) E h
end
noncomputable def R4 (A:LA):D:=.B8 true (A.map λ kv=>pD kv.1) (A.map λ kv=>BE kv.2.2)
noncomputable def oG (A:LA):OT:=.B8 true (A.map λ kv=>pD kv.1) ((A.map λ kv=>BE kv.2.2).map .sh)
theorem oH {n:Nat}(p:Int×Int):Pl (n+1) (pD p):=Pb (D5 (C7 _) (D5 (C7 _) Pc))
theorem eO:∀(C C0:LA),((C0++C).map zS).Nodup->(C.map λ kv=>(pD kv.1,BE kv.2.2)).foldl (λ z kv=>putD z.1 z.2 kv.1 kv.2) (C0.map (λ kv=>pD kv.1),C0.map λ kv=>BE kv.2.2)=((C0++C).map (λ kv=>pD kv.1),(C0++C).map λ kv=>BE kv.2.2)
 |[],C0,_=>by simp
 |kv::C,C0,hn=>by
  obtain⟨p,c⟩:=kv;rw[zh,zU];dsimp only;have h0:CF C0 p=none:=by
   rw[QT];intro hm;rw[ya,zN] at hn;exact hn.2.2 p hm p (by simp) rfl
  have e:Ex C0 p c=C0++[(p,c)]:=by unfold Ex;rw[h0];rfl
  rw[MB (vf:=λ c:(Int×Int)×Option Int=>BE c.2) GU,e,eO C (C0++[(p,c)]) (by rw[yn];exact hn),yn];rfl
theorem jR {A:LA}(hn:(A.map zS).Nodup)(hl:A.length<=1000):Vw (.lst (A.map λ kv=>.tup [pD kv.1,BE kv.2.2]))=.ok (oG A):=by
 unfold Vw;dsimp only;rw[Pt (λ kv:(Int×Int)×((Int×Int)×Option Int)=>pD kv.1) (λ kv=>BE kv.2.2)];dsimp only;have e:=eO A [] hn;rw[if_pos ⟨by rw[ze];exact hl,by rw[List.all_map];exact xj.mpr λ x _=>rfl⟩];have e2:nT (A.map λ kv=>(pD kv.1,BE kv.2.2))=(A.map (λ kv=>pD kv.1),A.map λ kv=>BE kv.2.2):=e;rw[e2];rfl
theorem jS (A:LA):er (oG A)=R4 A:=Di
theorem jT {A:LA}{p:Int×Int}{v:(Int×Int)×Option Int}(h:CF A p=some v):B9 (R4 A) (pD p)=.ok (BE v.2):=by
 unfold R4 B9;dsimp only;rw[if_pos (JA p),MA (vf:=λ v:(Int×Int)×Option Int=>BE v.2) GU,h];rfl
theorem Yd (A:LA):Yb (J3 A)=.ok (A.map λ kv=>pD kv.1):=rfl
section
variable {P:Program}{w:World}{A:Around}{E:Value->Shared->Prop}{s:Shared}{a b:Addr}
noncomputable abbrev TK (P:Program)(w:World):=tupleKind (Bi P w)
structure vH (P:Program)(w:World)(h:Heap)(d:Addr)(es:Array DictEntry)(ep:Nat)(xs:List (List Key×Addr×Value)):Prop where
 ob:JF h d es ep
 en:es.toList=xs.map (entryOfKey (TK P w))
 is:∀x∈xs,(TK P w).is h x.1 x.2.1
 nd:(xs.map (·.1)).Nodup
end
section
variable {X:Cx}{WX:Str->Hp->Prop}{c:Bool}{P0:Df}{P:Addr->Prop}{H:Hp}{σ:St}{ρ:Aa}{a b e:Expr}{f g:Aa->M D}{pos p:Pos}
theorem Ye {s:Shared}{pins:List (Addr×Obj)}{l:Addr}{ka:List (List Key×V)}(I:Inv X pins σ H s)(h:Rd H l (.dT ka)):(l==sysModules)=false/\∃es ep xs,W8 H ka xs/\vH X.prog X.w s.heap l es ep xs:=by
 obtain⟨z,y,xs,r,o,es,ep,h1,h2,h3,h4,h5⟩:=(show AV X.prog X.w H s.heap l (.dT ka) from WJ I.Ar h);obtain⟨_,_,bT,r2,o2,tP,tQ,g1,g2,g3,g4,g5,g6⟩:=LK I.Ar h;exact⟨y,tP,tQ,bT,r2,⟨⟨o2,g1,g2,g3⟩,g4,g5,g6⟩⟩
open Classical in
theorem Ui:∀ {ks jk:List Key},ks.map Cn=jk.map Cn->ks=jk
 |[],[],_=>rfl
 |[],_::_,h|_::_,[],h=>by cases h
 |k::ks,k'::jk,h=>by
  rw[zh,zh] at h;injection h with h1 h2
  have e:k=k':=by
   cases k<;>cases k'<;>first|(cases h1;rfl)|cases h1
  rw[e,Ui h2]
end
noncomputable def IH (A:LA):CA:=A.map λ kv=>(kv.1,kv.2.1)
theorem R5 (A:LA):(IH A).map zS=A.map zS:=by unfold IH;rw[yj];rfl
theorem Uj (p:Int×Int):∀A:LA,CF (IH A) p=An A p
 |[]=>rfl
 |(q,v)::A=>by
  have ih:=Uj p A;unfold An at ih ⊢;show (if q=p then some v.1 else CF (IH A) p)=(if q=p then some v else CF A p).map zS;by_cases e:q=p
  ·rw[if_pos e,if_pos e];rfl
  ·rw[if_neg e,if_neg e];exact ih
section
variable {P:Program}{w:World}{A:Around}{d it:Addr}{es:Array DictEntry}{ep:Nat}
theorem JF.keep {h h':Heap}(x:JF h d es ep)(k:∀o,h.get? d=some o->h'.get? d=some o):JF h' d es ep:=let ⟨o,a,b⟩:=x.at';⟨o,k o a,b⟩
theorem Yg (hh:A.handled=none)(ae:d≠it):Walks P w A it [it,d] [it] es.size (λ i v=>∃hi:i<es.size,v=es[i].key) (λ i h=>h.IsKeyIter it d i es.size ep/\JF h d es ep) where
 sub:=λ b hb=>by simp at hb;simp[hb]
 frame:=λ _ _ _ st hk=>⟨st.1.at λ o e=>hk it (by simp) o e,st.2.keep λ o e=>hk d (by simp) o e⟩
 item:=λ i s Q E hi st hQ=>JG hh st.1 st.2 (λ hi h' aG sb=>hQ _ h' s.toks ⟨hi,rfl⟩ ⟨aG,st.2.keep λ o e=>sb.extBut d o ae e⟩ λ b o hb e=>sb.extBut b o (λ z=>hb (by simp[z])) e) λ z=>absurd z (by omega)
 done:=λ s Q E st hQ=>JG hh st.1 st.2 (λ hi=>absurd hi (by omega)) λ _ h' eb=>hQ h' s.toks λ b o hb e=>eb b o (λ z=>hb (by simp[z])) e
 self:=λ _ _ _ _ st hQ=>wpAny_pyIter_keyiter st.1 hQ
theorem JF.lt {h:Heap}(x:JF h d es ep):d<h.objs.size:=let ⟨_,a,_⟩:=x.at';zt a
theorem Yh (lo:(d==sysModules)=false):PySem.W.KdlSrc P w "dict" d d es.size (λ i v=>∃hi:i<es.size,v=es[i].key) (λ h=>JF h d es ep) where
 type:=λ _ x=>x.ty
 there:=λ _ x=>⟨x.lt,x.lt⟩
 keep:=λ _ _ x hk=>x.keep λ o e=>hk d (.inl rfl) o e
 notList:=by decide
 notTuple:=by decide
 hint:=λ _ _ _ _ x hq=>PySem.W.kdl_hint_dict x.ty hq
 iter:=λ _ _ hh x=>⟨_,_,(λ _ _ hq=>Ug lo x hq),Yg hh (zB x.lt),⟨⟨_,zA _ rfl,rfl,rfl⟩,x.keep λ o e=>zi _ e⟩⟩
end
open PySem PySem.Spec PyProof.Rows PySem.W
def Uk {α:Type}(c:Nat->Nat->Bool)(n:Nat):KasT α->(α->Prop)->Prop
 | .ret a,Q=>Q a
 | .ask i j k,Q=>i<n/\j<n/\Uk c n (k (c i j)) Q
section
variable {c:Nat->Nat->Bool}{n:Nat}
theorem FI {α β:Type}{f:α->KasT β}{Q:β->Prop}:∀t:KasT α,Uk c n t (λ a=>Uk c n (f a) Q)->Uk c n (t.bind f) Q
 | .ret a,h=>h
 | .ask i j k,h=>⟨h.1,h.2.1,FI (k (c i j)) h.2.2⟩
theorem De {α:Type}{Q Q':α->Prop}(hq:∀a,Q a->Q' a):∀t:KasT α,Uk c n t Q->Uk c n t Q'
 | .ret a,h=>hq a h
 | .ask i j k,h=>⟨h.1,h.2.1,De hq (k (c i j)) h.2.2⟩
theorem Yi {α:Type}{cmp:Nat->Nat->(Bool->Shared->Prop)->Shared->Prop}{s:Shared}(hc:∀i j C,i<n->j<n->C (c i j) s->cmp i j C s){Q:α->Prop}{G:α->Shared->Prop}(hG:∀a,Q a->G a s):∀t:KasT α,Uk c n t Q->t.kasWp cmp G s
 | .ret a,h=>hG a h
 | .ask i j k,h=>hc i j _ h.1 h.2.1 (Yi hc hG (k (c i j)) h.2.2)
end
section
variable {f:Nat->Int}{n:Nat}
noncomputable def gK (f:Nat->Int)(p:Array Nat)(i:Nat):Int:=f (p.getD i 0)
noncomputable def cK (f:Nat->Int)(i j:Nat):Bool:=decide (f i<f j)
structure J4 (n:Nat)(p:Array Nat):Prop where
 pm:p.toList.Perm (zR n)
def Inj (f:Nat->Int)(n:Nat):Prop:=∀i j,i<n->j<n->f i=f j->i=j
theorem J4.size {p:Array Nat}(h:J4 n p):p.size=n:=by
 have:=h.pm.length_eq;simpa using this
theorem jU {p:Array Nat}{i:Nat}{x:Nat}(h:p[i]?=some x):p.getD i 0=x:=by
 rw[ym,h];rfl
theorem J4.at' {p:Array Nat}(h:J4 n p){i:Nat}(hi:i<n):p[i]?=some (p.getD i 0):=by
 have hs:i<p.size:=by rw[h.size];exact hi
 rw[yi hs,jU (yi hs)]
theorem J4.lt {p:Array Nat}(h:J4 n p)(hn:0<n)(i:Nat):p.getD i 0<n:=by
 by_cases hi:i<n
 ·have:=Array.mem_of_getElem? (h.at' hi);have:=h.pm.mem_iff.mp (Array.mem_toList_iff.mpr this);simpa using this
 ·rw[ym,Array.getElem?_eq_none (by rw[h.size];omega)];exact hn
theorem J4.ne {p:Array Nat}(h:J4 n p)(hf:Inj f n){i j:Nat}(hi:i<n)(hj:j<n)(ae:i≠j):gK f p i≠gK f p j:=λ e=>by
 have e2:=hf _ _ (h.lt (by omega) i) (h.lt (by omega) j) e;have jm:p.toList.Nodup:=h.pm.nodup_iff.mpr List.nodup_range;have a1:=h.at' hi;have a2:=h.at' hj;rw[e2] at a1;rw[<-yS] at a1 a2;have vw:i<p.toList.length:=by rw[yp,h.size];exact hi
 exact ae ((List.getElem?_inj vw jm).mp (a1.trans a2.symm))
theorem J4.vI {p:Array Nat}(h:J4 n p)(s d:Nat):J4 n (bubble p s d):=⟨(Array.perm_iff_toList_perm.mp (bubble_perm p s d)).trans h.pm⟩
theorem J4.vJ {p:Array Nat}(h:J4 n p)(i j d:Nat):J4 n (mirror p i j d):=⟨(Array.perm_iff_toList_perm.mp (mirror_perm p i j d)).trans h.pm⟩
def W9 (f:Nat->Int)(p:Array Nat)(k:Nat):Prop:=∀i j,i<j->j<k->gK f p i<gK f p j
def pI (f:Nat->Int)(p:Array Nat)(k:Nat):Prop:=∀i j,i<j->j<k->gK f p j<gK f p i
theorem SJ {p:Array Nat}(h:J4 n p)(hf:Inj f n):∀(u m:Nat),1<=m->m+u<=n->W9 f p m->Uk (cK f) n (kas_asc p u m) λ m'=>m<=m'/\m'<=m+u/\W9 f p m'/\(m'<m+u->gK f p m'<gK f p (m'-1))
 |0,m,h1,h2,hs=>⟨zv _,zv _,hs,λ z=>absurd z (Nat.lt_irrefl _)⟩
 |u+1,m,h1,h2,hs=>by
  refine⟨h.lt (by omega) _,h.lt (by omega) _,?_⟩;by_cases e:gK f p m<gK f p (m-1)
  ·rw[show cK f (p.getD m 0) (p.getD (m-1) 0)=true from decide_eq_true e];dsimp only;rw[if_pos rfl];exact⟨zv _,by omega,hs,λ _=>e⟩
  ·rw[show cK f (p.getD m 0) (p.getD (m-1) 0)=false from decide_eq_false e];dsimp only;rw[if_neg zI];have ne:=h.ne hf (i:=m) (j:=m-1) (by omega) (by omega) (by omega);have aY:W9 f p (m+1):=λ i j cD hj=>by
    by_cases ej:j=m
    ·subst ej;by_cases ei:i=j-1
     ·subst ei;omega
     ·have:=hs i (j-1) (by omega) (by omega);omega
    ·exact hs i j cD (by omega)
   refine De (λ m' hm=>⟨by omega,by omega,hm.2.2.1,λ z=>hm.2.2.2 (by omega)⟩) _ (SJ h hf u (m+1) (by omega) (by omega) aY)
theorem Ul {p:Array Nat}(h:J4 n p)(hf:Inj f n):∀(u m:Nat),1<=m->m+u<=n->pI f p m->Uk (cK f) n (kas_desc u p m 0) λ r=>r.1=p/\r.2.2=0/\m<=r.2.1/\r.2.1<=m+u/\pI f p r.2.1
 |0,m,h1,h2,hs=>⟨rfl,rfl,zv _,zv _,hs⟩
 |u+1,m,h1,h2,hs=>by
  refine⟨h.lt (by omega) _,h.lt (by omega) _,?_⟩;by_cases e:gK f p m<gK f p (m-1)
  ·rw[show cK f (p.getD m 0) (p.getD (m-1) 0)=true from decide_eq_true e];dsimp only;rw[if_pos rfl,if_neg (by omega)];have aY:pI f p (m+1):=λ i j cD hj=>by
    by_cases ej:j=m
    ·subst ej;by_cases ei:i=j-1
     ·subst ei;exact e
     ·have:=hs i (j-1) (by omega) (by omega);omega
    ·exact hs i j cD (by omega)
   exact De (λ r hm=>⟨hm.1,hm.2.1,by omega,by omega,hm.2.2.2.2⟩) _ (Ul h hf u (m+1) (by omega) (by omega) aY)
  ·rw[show cK f (p.getD m 0) (p.getD (m-1) 0)=false from decide_eq_false e];dsimp only;rw[if_neg zI];have ne:=h.ne hf (i:=m) (j:=m-1) (by omega) (by omega) (by omega);have e2:gK f p (m-1)<gK f p m:=by omega
   refine⟨h.lt (by omega) _,h.lt (by omega) _,?_⟩;rw[show cK f (p.getD (m-1) 0) (p.getD m 0)=true from decide_eq_true e2];dsimp only;rw[if_pos rfl];exact⟨rfl,rfl,zv _,Nat.le_add_right _ _,hs⟩
theorem Um {p:Array Nat}(h:J4 n p){m:Nat}(hm:m<=n){k:Nat}(hk:k<m):gK f (kas_rev p 0 m) k=gK f p (m-1-k):=by
 unfold gK kas_rev;have:=getElem?_mirror_all (xs:=p) (i:=0) (j:=m) (by rw[h.size];exact hm) k;rw[if_pos ⟨zQ _,hk⟩,Nat.zero_add] at this;rw[ym,this,<-ym]
theorem cW {p:Array Nat}(h:J4 n p)(hf:Inj f n){m:Nat}(h1:1<=m)(h2:m<=n)(hs:pI f p m):Uk (cK f) n (kas_tail3 m n p) λ r=>J4 n r.2/\1<=r.1/\r.1<=n/\W9 f r.2 r.1:=by
 unfold kas_tail3;have hp:J4 n (kas_rev p 0 m):=h.vJ _ _ _;have aY:W9 f (kas_rev p 0 m) m:=λ i j cD hj=>by
  rw[Um h h2 (by omega),Um h h2 hj];exact hs _ _ (by omega) (by omega)
 refine FI _ (De (λ m' hm=>?_) _ (SJ hp hf (n-m) m h1 (by omega) aY));exact⟨hp,by omega,by omega,hm.2.2.1⟩
theorem Yj {p:Array Nat}(h:J4 n p)(hf:Inj f n)(h2:2<=n):Uk (cK f) n (kas_count n p) λ r=>J4 n r.2/\1<=r.1/\r.1<=n/\W9 f r.2 r.1:=by
 unfold kas_count;refine FI _ (De (λ m hm=>?_) _ (SJ h hf (n-1) 1 (zv _) (by omega) λ i j cD hj=>by omega));by_cases e:m=n
 ·rw[if_pos (by simp[e])];exact⟨h,by omega,by omega,hm.2.2.1⟩
 ·rw[if_neg (by simp[e])];by_cases e1:m > 1
  ·rw[if_pos e1];refine⟨h.lt (by omega) _,h.lt (by omega) _,?_⟩;rw[show cK f (p.getD 0 0) (p.getD (m-1) 0)=true from decide_eq_true (hm.2.2.1 0 (m-1) (by omega) (by omega))];dsimp only;rw[if_pos rfl];exact⟨h,by omega,by omega,hm.2.2.1⟩
  ·rw[if_neg e1];have em:m=1:=by omega
   subst em;have hd:gK f p 1<gK f p 0:=hm.2.2.2 (by omega);unfold kas_descPart;refine FI _ (De (λ r hr=>?_) _ (Ul h hf (n-(1+1)) (1+1) (by omega) (by omega) λ i j cD hj=>?_))
   ·obtain⟨r1,r2,r3,r4,r5⟩:=hr;rw[if_neg (by omega),r1];exact cW h hf (by omega) (by omega) r5
   ·have ei:i=0:=by omega
    have ej:j=1:=by omega
    subst ei ej;exact hd
theorem MD {p:Array Nat}(h:J4 n p){k:Nat}(hk:k<n)(hs:W9 f p k):∀(u l r:Nat),l<=r->r<=k->r-l<=u->(∀i,i<l->¬ gK f p k<gK f p i)->(∀i,r<=i->i<k->gK f p k<gK f p i)->
 Uk (cK f) n (kas_place p k u l r) λ l'=>l'<=k/\(∀i,i<l'->¬ gK f p k<gK f p i)/\∀i,l'<=i->i<k->gK f p k<gK f p i
 |0,l,r,h1,h2,h3,ha,hb=>by
  have:l=r:=by omega
  subst this;exact⟨h2,ha,hb⟩
 |u+1,l,r,h1,h2,h3,ha,hb=>by
  unfold kas_place;by_cases e:l >= r
  ·rw[if_pos e];have:l=r:=by omega
   subst this;exact⟨h2,ha,hb⟩
  ·rw[if_neg e];have bB:l<=(l+r) / 2:=by omega
   have be:(l+r) / 2<r:=by omega
   refine⟨h.lt (by omega) _,h.lt (by omega) _,?_⟩;by_cases q:gK f p k<gK f p ((l+r) / 2)
   ·rw[show cK f (p.getD k 0) (p.getD ((l+r) / 2) 0)=true from decide_eq_true q];dsimp only;rw[if_pos rfl];refine MD h hk hs u l _ bB (by omega) (by omega) ha λ i wN cU=>?_;by_cases ei:i=(l+r) / 2
    ·subst ei;exact q
    ·have:=hs ((l+r) / 2) i (by omega) cU;omega
   ·rw[show cK f (p.getD k 0) (p.getD ((l+r) / 2) 0)=false from decide_eq_false q];dsimp only;rw[if_neg zI];refine MD h hk hs u _ r (by omega) h2 (by omega) (λ i hi=>?_) hb;by_cases ei:i=(l+r) / 2
    ·subst ei;exact q
    ·have:=hs i ((l+r) / 2) (by omega) (by omega);omega
theorem Uo {p:Array Nat}(h:J4 n p){k l:Nat}(hk:k<n)(hl:l<=k)(i:Nat):gK f (bubble p k (k-l)) i=if i=l then gK f p k else if l<i/\i<=k then gK f p (i-1) else gK f p i:=by
 unfold gK;have:=getElem?_bubble (xs:=p) (src:=k) (by rw[h.size];exact hk) (k-l) (by omega) i;have e:k-(k-l)=l:=by omega
 rw[e] at this;rw[ym,this];split
 ·rw[<-ym]
 ·split<;>rw[<-ym]
theorem Yk (hf:Inj f n):∀(u k:Nat){p:Array Nat},k+u=n->J4 n p->W9 f p k->Uk (cK f) n (kas_bin u p k) λ p'=>J4 n p'/\W9 f p' n
 |0,k,p,e,h,hs=>by
  have:k=n:=by omega
  subst this;exact⟨h,hs⟩
 |u+1,k,p,e,h,hs=>by
  unfold kas_bin;refine FI _ (De (λ l hl=>?_) _ (MD h (by omega) hs k 0 k (zQ _) (zv _) (by omega) (λ i hi=>absurd hi (by omega)) λ i h1 h2=>absurd h2 (by omega)));obtain⟨ic,ha,hb⟩:=hl;refine Yk hf u (k+1) (by omega) (h.vI _ _) λ i j cD hj=>?_;rw[Uo h (by omega) ic,Uo h (by omega) ic];have lo:∀i,i<l->gK f p i<gK f p k:=λ i hi=>by
   have:=ha i hi;have:=h.ne hf (i:=i) (j:=k) (by omega) (by omega) (by omega);omega
  by_cases ei:i=l
  ·rw[if_pos ei,if_neg (by omega),if_pos (by omega)];exact hb _ (by omega) (by omega)
  ·rw[if_neg ei];by_cases ej:j=l
   ·rw[if_pos ej,if_neg (by omega)];exact lo i (by omega)
   ·rw[if_neg ej];by_cases bi:l<i/\i<=k
    ·rw[if_pos bi,if_pos (by omega)];exact hs _ _ (by omega) (by omega)
    ·rw[if_neg bi];by_cases bj:l<j/\j<=k
     ·rw[if_pos bj];exact hs _ _ (by omega) (by omega)
     ·rw[if_neg bj];exact hs _ _ cD (by omega)
theorem cX (hf:Inj f n)(h2:2<=n):Uk (cK f) n (kas_sort n) λ p'=>J4 n p'/\W9 f p' n:=by
 unfold kas_sort;have h0:J4 n (List.toArray (zR n)):=⟨by simp⟩;refine FI _ (De (λ r hr=>?_) _ (Yj h0 hf h2));obtain⟨r1,r2,r3,r4⟩:=hr;by_cases e:r.1<n
 ·rw[if_pos e];have em:max r.1 1=r.1:=by omega
  rw[em];exact Yk hf (n-r.1) r.1 (by omega) r1 r4
 ·rw[if_neg e];have en:r.1=n:=by omega
  rw[en] at r4;exact⟨r1,r4⟩
end
structure D1 (h:Heap)(v:Value)(q:Int×Int):Prop where
 at':∃a o t u n,v=.ref a/\h.get? a=some o/\o.cls=.type "tuple" /\ o.data=.seq #[.int q.1 t,.int q.2 u] n
theorem D1.keep {h h':Heap}{v:Value}{q:Int×Int}(x:D1 h v q)(k:∀b o,h.get? b=some o->h'.get? b=some o):D1 h' v q:=by
 obtain⟨a,o,t,u,n,e,ho,r⟩:=x.at';exact⟨a,o,t,u,n,e,k _ _ ho,r⟩
noncomputable def cY (p q:Int×Int):Bool:=decide (p.1<q.1\/(p.1=q.1/\p.2<q.2))
section
variable {P:Program}{w:World}{A:Around}{E:Value->Shared->Prop}{s:Shared}
theorem cZ {v v':Value}{p q:Int×Int}{C:Bool->Shared->Prop}(hv:D1 s.heap v p)(mn:D1 s.heap v' q)(h:C (cY p q) s):wpAny (model P w) A (keyLt' (tuples' true) v v') C E s:=by
 obtain⟨a,o,t,u,n,rfl,ho,_,hd⟩:=hv.at';obtain⟨b,o',t',u',n',rfl,bO,_,ca⟩:=mn.at';refine kat_lt ho hd bO ca ?_;refine kat_cons (SeqAt.EqAt.int_int p.1 t q.1 t' _ _ _ _ ?_);refine kat_go (λ e=>kat_yes (kat_cons (SeqAt.EqAt.int_int p.2 u q.2 u' _ _ _ _ (kat_go (λ e2=>kat_yes (kat_nil ?_)) λ e2=>kat_no ?_)))) λ e=>kat_no ?_
 ·have e1:p.1=q.1:=by simpa using e
  have e3:p.2=q.2:=by simpa using e2
  have:cY p q=false:=by unfold cY;rw[e1,e3];simp
  rw[this] at h;exact h
 ·have e1:p.1=q.1:=by simpa using e
  have:cY p q=decide (p.2<q.2):=by unfold cY;rw[e1];simp
  rw[this] at h;show wpAny _ _ (oneLt' false (.int p.2 u) (.int q.2 u')) _ _ _;exact kat_one _ _ (lt_int h)
 ·have e1:p.1≠q.1:=by simpa using e
  have:cY p q=decide (p.1<q.1):=by unfold cY;simp[e1]
  rw[this] at h;show wpAny _ _ (oneLt' true (.int p.1 t) (.int q.1 t')) _ _ _;exact oneLt_int h
theorem VT {vs:List Value}{Q:SortKind->Shared->Prop}(ae:0<vs.length)(hv:∀v∈vs,∃q,D1 s.heap v q)(h:Q (tuples' true) s):wpAny (model P w) A (keyKind' vs.toArray) Q E s:=by
 have key:∀l:List Value,(∀v∈l,∃q,D1 s.heap v q)->∃fs,KatTups s.heap l fs/\fs.length=l.length/\∀f∈fs,∃i t,f=Value.int i t:=by
  intro l;induction l with
  |nil=>exact λ _=>⟨[],.nil,rfl,λ f hf=>by cases hf⟩
  |cons v r ih =>
   intro hl;obtain⟨q,hq⟩:=hl v zc;obtain⟨a,o,t,u,n,rfl,ho,hc,hd⟩:=hq.at';obtain⟨fs,k1,k2,k3⟩:=ih λ v hv=>hl v (zf _ hv);refine⟨.int q.1 t::fs,.cons ho hc hd rfl k1,by rw[zp,zp,k2],λ f hf=>?_⟩;rcases zq.mp hf with rfl|hf
   ·exact⟨_,_,rfl⟩
   ·exact k3 f hf
 obtain⟨fs,k1,k2,k3⟩:=key vs hv;refine kat_kind (T:=.type "int") k1 (by omega) (λ f hf=>?_) rfl h;obtain⟨i,t,rfl⟩:=k3 f hf;exact .of_pure rfl
noncomputable def Ih (q:Int×Int):Int:=q.1*1000+q.2
theorem jV {p q:Int×Int}(hp:0<=p.2/\p.2<1000)(hq:0<=q.2/\q.2<1000):cY p q=decide (Ih p<Ih q):=by
 unfold cY Ih;congr 1;apply propext;constructor<;>intro h<;>omega
theorem Up {p q:Int×Int}(hp:0<=p.2/\p.2<1000)(hq:0<=q.2/\q.2<1000)(h:Ih p=Ih q):p=q:=by
 unfold Ih at h;exact Prod.ext (by omega) (by omega)
theorem ME {a:Addr}{vs:List Value}{ps:List (Int×Int)}{n:Nat}{Q:PySem.Fin->Shared->Prop}(ho:s.heap.get? a=some (seqObj "list" vs.toArray n))(lp:vs.length<64)(hl:ps.length=vs.length)(hv:∀(i:Nat) v q,vs[i]?=some v->ps[i]?=some q->D1 s.heap v q)(hb:∀q∈ps,0<=q.2/\q.2<1000)(hn:ps.Nodup)
 (h:∀(I:List Nat),I.Perm (zR vs.length)->(I.map λ i=>ps.getD i (0,0)).Pairwise (λ p q=>Ih p<Ih q)->Q (.done (.ret .none)) {s with heap:=sortedHeap s.heap a vs (I.map λ i=>vs.getD i y7).toArray}):
 wpAny (model P w) A (Builtin.«list.sort» ⟨[.ref a],[]⟩) Q E s:=by
 rw[list_sort_plain];have ha:a<s.heap.objs.size:=zt ho;apply wpAny_bind;apply listItems_at ho rfl;apply wpAny_bind;refine listUpdate_at ho rfl ?_ (by rw[zj,sizeLine_eq];omega) (zQ _);obtain⟨e1,tU⟩:∃e1,(s.heap.update a (yr λ _=>(#[]:Array Value))).get? a=some (seqObj "list" #[] e1):=⟨_,get?_update_seq ho λ _=>#[]⟩;apply wpAny_bind;apply seqEpoch_at tU rfl;apply wpAny_bind;refine wpAny_newTuple ?_ (by show vs.length<=_;rw[sizeLine_eq];omega);apply wpAny_bind;refine wpAny_newList ?_ (zQ _);apply wpAny_holding;have ju:(((s.heap.update a (yr λ _=>(#[]:Array Value))).push (seqObj "tuple" vs.toArray 0)).push (seqObj "list" #[] 0)).get? a=some (seqObj "list" #[] e1):=zi _ (zi _ tU);show wpAny (model P w) A _ Q E {s with heap:=((s.heap.update a (yr λ _=>(#[]:Array Value))).push (seqObj "tuple" vs.toArray 0)).push (seqObj "list" #[] 0)};dsimp only;obtain⟨h6,pq⟩:∃h6,h6=((s.heap.update a (yr λ _=>(#[]:Array Value))).push (seqObj "tuple" vs.toArray 0)).push (seqObj "list" #[] 0):=⟨_,rfl⟩;have fin:∀(I:List Nat),I.Perm (zR vs.length)->(I.map λ i=>ps.getD i (0,0)).Pairwise (λ p q=>Ih p<Ih q)->∀(z:Array Value),z=(I.map λ i=>vs.getD i y7).toArray->Q (.done (.ret .none)) {s with heap:=h6.update a (yr λ _=>z)}:=λ I i1 i2 z hz=>by
  rw[hz,pq];exact h I i1 i2
 rw[<-pq] at ju ⊢;have kp:∀b o,b≠a->s.heap.get? b=some o->h6.get? b=some o:=λ b o hb e=>by
  rw[pq];exact zi _ (zi _ ((Heap.get?_update_ne _ _ _ _ hb).trans e))
 have vx:∀(i:Nat) v q,vs[i]?=some v->ps[i]?=some q->D1 h6 v q:=λ i v q hi hq=>by
  obtain⟨b,o,t,u,k,e,g1,g2,g3⟩:=(hv i v q hi hq).at';refine⟨b,o,t,u,k,e,kp b o (λ z=>?_) g1,g2,g3⟩;rw[z,ho] at g1;cases g1;injection g2 with g2
  exact absurd g2 (by decide)
 by_cases h2:vs.toArray.size<2
 ·rw[if_pos h2,if_pos h2];refine wpAny_bind (wpAny_pure ?_);rw[StateT.run_pure];refine wpAny_bind (wpAny_pure ?_);dsimp only;have ez:(arrOf (SortSt.mk' general' (vs.toArray.zip vs.toArray) #[] 7 none)).map (·.2)=((zR vs.length).map λ i=>vs.getD i y7).toArray:=by
   show (vs.toArray.zip vs.toArray).map (·.2)=_;apply Array.ext_getElem?;intro i;simp only[Array.getElem?_map,List.getElem?_toArray,zw];by_cases hi:i<vs.length
   ·rw[yM hi];simp[Array.getElem?_zip_eq_some,hi,zC]
   ·rw[yg (by simp;omega),Array.getElem?_eq_none (by simp;omega)];rfl
  apply wpAny_bind;apply seqEpoch_at ju rfl;apply wpAny_bind;refine listUpdate_at ju rfl ?_ (zQ _) (by rw[ez];simp;rw[sizeLine_eq];omega);simp only[bne_self_eq_false,zF,if_false];refine wpAny_pure (fin _ (.refl _) ?_ _ ez);rw[zj] at h2;have aB:((zR vs.length).map λ i=>ps.getD i (0,0)).length<2:=by simpa using h2
  match hq:(zR vs.length).map λ i=>ps.getD i (0,0),aB with
  |[],_=>exact .nil
  |[x],_=>exact List.pairwise_singleton _ _
  |x::y::r,z=>exact absurd z (by simp only[zp];omega)
 ·rw[if_neg h2,if_neg h2];rw[zj] at h2;have f0:∀i,i<vs.length->∃v q,vs[i]?=some v/\ps[i]?=some q/\vs.getD i y7=v/\ps.getD i (0,0)=q/\D1 h6 v q/\0<=q.2/\q.2<1000:=λ i hi=>by
   have a1:vs[i]?=some vs[i]:=zg hi;have a2:ps[i]?=some (ps[i]'(by omega)):=zg _;exact⟨_,_,a1,a2,by rw[zC,a1];rfl,by rw[zC,a2];rfl,vx i _ _ a1 a2,hb _ (zr a2)⟩
  apply wpAny_bind;refine VT (s:={s with heap:=h6}) (by omega) (λ v hv=>?_) ?_
  ·obtain⟨i,hi⟩:=List.mem_iff_getElem?.mp hv;obtain⟨v',q,b1,_,_,_,b5,_⟩:=f0 i (zE.mp hi).1;rw[hi] at b1;cases b1;exact⟨q,b5⟩
  have pw:Inj (λ i=>Ih (ps.getD i (0,0))) vs.length:=λ i j hi hj e=>by
   obtain⟨_,q,_,b2,_,b4,_,b6⟩:=f0 i hi;obtain⟨_,q',_,d2,_,d4,_,d6⟩:=f0 j hj;dsimp only at e;rw[b4,d4] at e;have:=Up b6 d6 e;subst this;exact (List.getElem?_inj (by omega) hn).mp (b2.trans d2.symm)
  have pz:∀(i j:Nat) (C:Bool->Shared->Prop),i<vs.length->j<vs.length->C (cK (λ i=>Ih (ps.getD i (0,0))) i j) {s with heap:=h6}->kas_ask P w A (tuples' true) vs i j C {s with heap:=h6}:=λ i j C hi hj hC=>by
   obtain⟨v,q,_,_,b3,b4,b5,b6⟩:=f0 i hi;obtain⟨v',q',_,_,d3,d4,d5,d6⟩:=f0 j hj;unfold kas_ask;rw[b3,d3];refine cZ (s:={s with heap:=h6}) b5 d5 ?_;subst b4 d4;rw[jV b6 d6];exact hC
  refine wpAny_bind (wpAny_mono (kat_run (ks:=vs) (vs:=vs) (κ:=tuples' true) (s:={s with heap:=h6}) (Q:=λ bY s'=>∃p:Array Nat,arrOf bY=p.map (kas_item (vs.toArray.zip vs.toArray))/\failedOf bY=none/\J4 vs.length p/\W9 (λ i=>Ih (ps.getD i (0,0))) p vs.length/\s'={s with heap:=h6}) (G:=λ p s'=>J4 vs.length p/\W9 (λ i=>Ih (ps.getD i (0,0))) p vs.length/\s'={s with heap:=h6})
   rfl (by omega) lp (λ p bY s' _ a2 a3 a4=>⟨p,a2,a3,a4⟩) (Yi pz (λ p hp=>⟨hp.1,hp.2,rfl⟩) _ (cX pw (by omega)))) ?_ λ _ _ e=>e)
  rintro ⟨⟨⟩,bY⟩ s' ⟨p,p0,hf,hp,vy,rfl⟩;dsimp only;have jv:=kat_snds rfl p0;apply wpAny_bind;apply seqEpoch_at ju rfl;apply wpAny_bind;refine listUpdate_at ju rfl ?_ (zQ _) (by rw[jv];simp;rw[hp.size,sizeLine_eq];omega);rw[hf];simp only[bne_self_eq_false,zF,if_false];refine wpAny_pure (fin p.toList hp.pm ?_ _ jv);rw[List.pairwise_map,List.pairwise_iff_getElem];intro i j hi hj cD;rw[yp,hp.size] at hi hj;have:=vy i j cD hj;unfold gK at this;have g1:=hp.at' hi;have g2:=hp.at' hj;rw[<-yS,zE] at g1 g2;obtain⟨_,g1⟩:=g1;obtain⟨_,g2⟩:=g2;rw[g1,g2];exact this
end
section
variable {P:Program}{w:World}{A:Around}{E:Value->Shared->Prop}{s:Shared}{d:Addr}{es:Array DictEntry}{ep:Nat}
theorem SK {R:List Value->Shared->Prop}(hh:A.handled=none)(lo:(d==sysModules)=false)(x:JF s.heap d es ep)(hz:es.size<=sizeLine)
 (q:∀(h':Heap) (tk:Nat) (acc:Array Value),(∀b o,s.heap.get? b=some o->h'.get? b=some o)->s.heap.objs.size<h'.objs.size->ItemsOf (λ i v=>∃hi:i<es.size,v=es[i].key) acc es.size->R acc.toList {s with heap:=h',toks:=tk}):wpAny (model P w) A (collect (.ref d)) R E s:=by
 rw[collect];apply wpAny_bind;apply wpAny_runValue;apply codeAny_builtin entry_proto_collect';rw[yu PySem.F.plain_proto_collect _];refine wpAny_bind (m:=newList []) ?_;refine wpAny_newObj_type (wpAny_pure ⟨plainId_quiet PySem.F.plain_list_iadd _,codeAny_builtin entry_list_iadd' ?_⟩);rw[yu PySem.F.plain_list_iadd _];have g0:(s.heap.push {cls:=.type "list",data:=.seq ([]:List Value).toArray}).get? s.heap.objs.size=some {cls:=.type "list",data:=.seq #[]}:=zA _ rfl;have key:=kdl_extend (prog:=P) (w:=w) (A:=A) (s:={s with heap:=s.heap.push {cls:=.type "list",data:=.seq ([]:List Value).toArray} })
  (R:=λ r s'=>∃h' tk acc c,r=.ok (.ret (.ref s.heap.objs.size))/\s'={s with heap:=h',toks:=tk}/\(∀b o,s.heap.get? b=some o->h'.get? b=some o)/\h'.get? s.heap.objs.size=some {cls:=.type "list",dict:=none,data:=.seq acc c,slots:=#[]}/\ItemsOf (λ i v=>∃hi:i<es.size,v=es[i].key) acc es.size)
  (Yh lo) hh (x.keep λ o e=>zi _ e) s.heap.objs.size (Nat.ne_of_gt x.lt) (Nat.ne_of_gt x.lt) (.ref s.heap.objs.size) 0 g0
  (λ h' tk acc c kp gS hi=>⟨h',tk,acc,c,rfl,rfl,λ b o e=>kp b o (zB (zt e)) (zi _ e),gS,hi⟩) hz
 have last:∀ {h':Heap} {tk:Nat} {acc:Array Value} {c:Nat},(∀b o,s.heap.get? b=some o->h'.get? b=some o)->h'.get? s.heap.objs.size=some {cls:=.type "list",dict:=none,data:=.seq acc c,slots:=#[]}->ItemsOf (λ i v=>∃hi:i<es.size,v=es[i].key) acc es.size->
  wpAny (model P w) A (load s.heap.objs.size >>= λ o=>match o.data with | .seq xs _=>pure xs.toList|_=>unsupported "internal:collect") R E {s with heap:=h',toks:=tk}:=λ kp gS hi =>
  wpAny_bind (wpAny_load gS (wpAny_pure (q _ _ _ kp (zt gS) hi)))
 refine wpAny_mono key (λ fin s' z=>?_) λ e s' z=>?_
 ·cases fin with
  |done f =>
   obtain⟨h',tk,acc,c,e,rfl,kp,gS,hi⟩:=z;cases e;exact last kp gS hi
  |again c1 =>
   refine⟨z.1,codeAny_mono z.2 λ r s2 y=>?_⟩;obtain⟨h',tk,acc,c,rfl,rfl,kp,gS,hi⟩:=y;exact last kp gS hi
 ·obtain⟨_,_,_,_,e',_⟩:=z;cases e'
theorem VU {ps:List (Int×Int)}{Q:Value->Shared->Prop}(hh:A.handled=none)(lo:(d==sysModules)=false)(x:JF s.heap d es ep)(lp:es.size<64)(hl:ps.length=es.size)(hv:∀(i:Nat) (hi:i<es.size) q,ps[i]?=some q->D1 s.heap es[i].key q)(hb:∀q∈ps,0<=q.2/\q.2<1000)(hn:ps.Nodup)
 (h:∀(h':Heap) (tk:Nat) (D:Addr) (c:Nat) (I:List Nat) (vs:List Value),(∀b o,s.heap.get? b=some o->h'.get? b=some o)->s.heap.objs.size<=D->vs.length=es.size->(∀(i:Nat) (hi:i<es.size),vs[i]?=some es[i].key)->h'.get? D=some (seqObj "list" (I.map λ i=>vs.getD i y7).toArray c)->I.Perm (zR es.size)->(I.map λ i=>ps.getD i (0,0)).Pairwise (λ p q=>Ih p<Ih q)->Q (.ref D) {s with heap:=h',toks:=tk}):
 wpAny (model P w) A (call (.builtin "sorted") [.ref d]) Q E s:=by
 apply Calls.call_function_entry kind_sorted plain_sorted entry_sorted (args_sorted1 _);rw[Builtin.«sorted»];refine wpAny_bind (m:=checkCount "sorted" 1 1 _) (wpAny_pure ?_);apply wpAny_bind;refine SK hh lo x (by rw[sizeLine_eq];omega) λ h1 tk acc kp tV hi=>?_;have hsz:acc.size=es.size:=hi.1;have aE:∀(i:Nat) (hi:i<es.size),acc.toList[i]?=some es[i].key:=λ i cU=>by
  have e:acc[i]?=some (acc[i]'(by omega)):=yi _;obtain⟨_,e2⟩:=hi.2 i _ e;rw[yS,e,e2]
 apply wpAny_bind;refine wpAny_newList ?_ (by rw[yp,hsz,sizeLine_eq];omega);have cb:(h1.push (seqObj "list" acc.toList.toArray 0)).get? h1.objs.size=some (seqObj "list" acc.toList.toArray 0):=zA _ rfl;have cz:∀b o,s.heap.get? b=some o->(h1.push (seqObj "list" acc.toList.toArray 0)).get? b=some o:=λ b o e=>zi _ (kp b o e);show wpAny _ _ _ _ _ {s with heap:=h1.push (seqObj "list" acc.toList.toArray 0),toks:=tk};refine wpAny_bind (wpAny_holding (wpAny_call_entry slot_list_sort ⟨_,cb,rfl⟩ entry_list_sort ?_ (args_list_sort _)));have hlen:acc.toList.length=es.size:=by rw[yp,hsz]
 refine ME (s:={s with heap:=h1.push (seqObj "list" acc.toList.toArray 0),toks:=tk}) (ps:=ps) cb (by omega) (by omega) (λ i v q hi hq=>?_) hb hn λ I i1 i2=>⟨_,rfl,wpAny_pure ⟨_,rfl,?_⟩⟩
 ·have aj:i<es.size:=by rw[<-hlen];exact (zE.mp hi).1
  rw[aE i aj] at hi;cases hi;exact (hv i aj q hq).keep cz
 ·obtain⟨c,hc⟩:=sortedHeap_at (out:=(I.map λ i=>acc.toList.getD i y7).toArray) cb;refine h _ tk _ c I acc.toList (λ b o e=>?_) (yd tV) hlen aE hc (by rw[<-hlen];exact i1) i2;have aj:b<s.heap.objs.size:=zt e;exact (sortedHeap_old (zB (Nat.lt_trans aj tV)) (zt (cz b o e))).trans (cz b o e)
end
noncomputable def RC (p:Int×Int):List Key:=[.inl p.1,.inl p.2]
noncomputable def VV (x:Int×Int):List (Int×Int)->List (Int×Int)
 |[]=>[x]
 |y::r=>if Ih x<Ih y then x::y::r else y::VV x r
noncomputable def Ii:List (Int×Int)->List (Int×Int)
 |[]=>[]
 |x::r=>VV x (Ii r)
theorem Kl (x:Int×Int):∀l,(VV x l).Perm (x::l)
 |[]=>.refl _
 |y::r=>by
  unfold VV;split
  ·exact .refl _
  ·exact ((Kl x r).cons y).trans (.swap x y r)
theorem Ca:∀l,(Ii l).Perm l
 |[]=>.refl _
 |x::r=>(Kl x (Ii r)).trans ((Ca r).cons x)
theorem Uq {x:Int×Int}:∀ {l:List (Int×Int)},(∀y∈l,Ih x≠Ih y)->l.Pairwise (λ p q=>Ih p<Ih q)->(VV x l).Pairwise λ p q=>Ih p<Ih q
 |[],_,_=>List.pairwise_singleton _ _
 |y::r,hx,h=>by
  unfold VV;have hy:=yo.mp h;split
  ·rename_i bX;exact yo.mpr ⟨λ z hz=>by
    rcases zq.mp hz with rfl|hz
    ·exact bX
    ·have:=hy.1 z hz;omega,h⟩
  ·rename_i bX;have:=hx y zc;exact yo.mpr ⟨λ z hz=>by
    rcases zq.mp ((Kl x r).mem_iff.mp hz) with rfl|hz
    ·omega
    ·exact hy.1 z hz,Uq (λ z hz=>hx z (zf _ hz)) hy.2⟩
theorem MF:∀ {l:List (Int×Int)},(∀q∈l,0<=q.2/\q.2<1000)->l.Nodup->(Ii l).Pairwise λ p q=>Ih p<Ih q
 |[],_,_=>.nil
 |x::r,hb,hn=>by
  have bP:=yf.mp hn;refine Uq (λ y hy e=>?_) (MF (λ q hq=>hb q (zf _ hq)) bP.2);have kh:=(Ca r).mem_iff.mp hy;have:=Up (hb x zc) (hb y (zf _ kh)) e;subst this;exact bP.1 kh
theorem Pu:∀ {a b:List (Int×Int)},a.Perm b->a.Pairwise (λ p q=>Ih p<Ih q)->b.Pairwise (λ p q=>Ih p<Ih q)->a=b
 |[],b,hp,_,_=>(List.nil_perm.mp hp).symm
 |x::r,[],hp,_,_=>by have:=hp.length_eq;simp at this
 |x::r,y::t,hp,ha,hb=>by
  have jp:=yo.mp ha;have a9:=yo.mp hb;have e:x=y:=by
   have h1:x∈y::t:=hp.mem_iff.mp zc;have h2:y∈x::r:=hp.mem_iff.mpr zc;rcases zq.mp h1 with e|h1
   ·exact e
   rcases zq.mp h2 with e|h2
   ·exact e.symm
   have:=jp.1 _ h2;have:=a9.1 _ h1;omega
  subst e;rw[Pu (List.Perm.cons_inv hp) jp.2 a9.2]
section
variable {X:Cx}{WX:Str->Hp->Prop}{c:Bool}{P0:Df}{P:Addr->Prop}{H:Hp}{σ:St}{ρ:Aa}{a b e:Expr}{f g:Aa->M D}{fn:Aa->M OT}{pos:Pos}{te:TE}
noncomputable def oI (te:TE):TE:=λ σ H Q=>te σ H λ x H1=>∃a kvs ps,x=.ref a/\Rd H1 a (.dT kvs)/\kvs.map zS=ps.map RC/\(∀q∈ps,0<=q.2/\q.2<1000)/\ps.Nodup/\ps.length<64/\
 ∀ts:List Addr,ts.length=ps.length->(∀(i:Nat) t q,ts[i]?=some t->(Ii ps)[i]?=some q->H1 t=some (.tup ((RC q).map kV)))->∀r,H1 r=none->Q (.ref r) (upd H1 r (.lst (ts.map V.ref)))
theorem Ur {s:Shared}{pins:List (Addr×Obj)}(I:Inv X pins σ H s){t:Addr}{q:Int×Int}(h:H t=some (.tup ((RC q).map kV))):D1 s.heap (.ref t) q:=by
 obtain⟨_,aa,r,o,h1,h2,n,h3⟩:=(show AV X.prog X.w H s.heap t (.tup ((RC q).map kV)) from I.Ar t _ h);have r':Vals [V.int q.1,V.int q.2] aa:=r;obtain⟨v1,r1,rfl,e1,r2⟩:∃v1 r1,aa=v1::r1/\RelV (.int q.1) v1/\Vals [V.int q.2] r1:=by
  cases r' with
  |cons a b=>exact⟨_,_,rfl,a,b⟩
 obtain⟨v2,r3,rfl,e2,r4⟩:∃v2 r3,r1=v2::r3/\RelV (.int q.2) v2/\Vals [] r3:=by
  cases r2 with
  |cons a b=>exact⟨_,_,rfl,a,b⟩
 cases r4;obtain⟨t1,rfl⟩:=e1;obtain⟨t2,rfl⟩:=e2;exact⟨t,o,t1,t2,n,rfl,h1,h2,h3⟩
theorem JH:∀l:List Addr,Vals (l.map V.ref) (l.map zK)
 |[]=>.nil
 |t::r=>.cons rfl (JH r)
theorem Pw:∀ {kvs:List (List Key×V)}{ps:List (Int×Int)},(kvs.map λ kv=>D.tup (kv.1.map Cn))=ps.map pD->kvs.map zS=ps.map RC
 |[],[],_=>rfl
 |[],_::_,h|_::_,[],h=>by cases h
 |kv::kvs,q::ps,h=>by
  rw[zh,zh] at h;injection h with h1 h2
  injection h1 with h1
  have e:kv.1=RC q:=Ui (h1.trans rfl);rw[zh,zh,Pw h2,e]
theorem SM {p:Pos}(hc:X.calm=true)(hg:Gl X "sorted")(hm:X.mg "sorted" = none)(he:PE X e te)
 (hv:bootBuiltins "sorted" = some (.builtin "sorted"):=by decide +kernel) (hs:starEach [e] X.env=[(false,eval e X.env)]:=by rfl):
 PE X (.Call (.Name "sorted" p) [e] [] pos) (oI te):=by
 intro pins s σ H Q I h;refine wpAny_Call_Name_kw (Dh I hg hm hv ?_);refine yU ?_ hs;rw[hs];refine yR (Bb (he pins s σ H _ I h) λ u s1 ⟨x,H1,I1,r1,q1⟩=>?_);obtain⟨l,kvs,ps,rfl,ha,hk,hb,hn,jq,h⟩:=q1;cases r1;refine xa ?_;obtain⟨n1,es,ep,xs,r,da⟩:=Ye I1 ha;have zs:=size_of_entries da.en;have zk:kvs.length=ps.length:=by have:=congrArg List.length hk;rwa[ze,ze] at this
 have zx:kvs.length=xs.length:=Paired.length r;have bg:∀(i:Nat) (hi:i<es.size),∃t q,es[i].key=.ref t/\ps[i]?=some q/\H1 t=some (.tup ((RC q).map kV)):=λ i hi=>by
  obtain⟨y,hy⟩:∃y,xs[i]?=some y:=⟨xs[i]'(by omega),zg _⟩;have ex:=entry_at da.en i;rw[yi hi,hy] at ex;obtain⟨kv,g1,g2⟩:=W8.get r hy;obtain⟨q,hq⟩:∃q,ps[i]?=some q:=⟨ps[i]'(by omega),zg _⟩;have e:=congrArg (λ l=>l[i]?) hk;rw[zw,zw,g1,hq] at e;have e2:kv.1=RC q:=z0 e;rw[e2] at g2;exact⟨y.2.1,q,by rw[z0 ex];rfl,hq,g2⟩
 refine VU (I1.ok.hd hc) n1 da.ob (by omega) (by omega) (λ i hi q hq=>?_) hb hn λ h' tk D c I vs kp hD wO aE hl i1 i2=>?_
 ·obtain⟨t,q',k1,k2,k3⟩:=bg i hi;rw[hq] at k2;cases k2;rw[k1];exact Ur I1 k3
 ·obtain⟨tf,jw⟩:∃tf:Nat->Addr,∀i,i<es.size->∃q,vs[i]?=some (.ref (tf i))/\ps[i]?=some q/\H1 (tf i)=some (.tup ((RC q).map kV)):=⟨λ i=>if hi:i<es.size then zo (bg i hi) else 0,λ i hi=>by
   dsimp only;rw[dif_pos hi];obtain⟨q,k1,k2,k3⟩:=zb (bg i hi);exact⟨q,(aE i hi).trans (congrArg some k1),k2,k3⟩⟩
  have hI:∀i∈I,i<es.size:=λ i hi=>by simpa using i1.mem_iff.mp hi
  have eo:(I.map λ i=>ps.getD i (0,0))=Ii ps:=by
   refine Pu (List.Perm.trans ?_ (Ca ps).symm) i2 (MF hb hn);refine (i1.map _).trans (.of_eq ?_);apply List.ext_getElem?;intro i;rw[zw];by_cases hi:i<es.size
   ·rw[yM hi];obtain⟨q,hq⟩:∃q,ps[i]?=some q:=⟨ps[i]'(by omega),zg _⟩;rw[yt,zC,hq];rfl
   ·rw[yg (by simp;omega),yg (by omega)];rfl
  have ev:(I.map λ i=>vs.getD i y7)=(I.map tf).map zK:=by
   rw[yj];refine List.map_congr_left λ i hi=>?_;obtain⟨q,k1,_,_⟩:=jw i (hI i hi);rw[zC,k1];rfl
  rw[ev] at hl;have vz:I.length=es.size:=by have:=i1.length_eq;simpa using this
  refine⟨.ref D,_,I1.laid (t':=tk) (o:=.lst ((I.map tf).map V.ref)) kp hD ⟨?_,(I.map tf).map zK,c,JH _,hl⟩,rfl,h (I.map tf) (by rw[ze];omega) (λ i t q ht hq=>?_) D (I1.Ar.fresh hD)⟩
  ·rw[ze,ze];exact yd (AA (by omega))
  ·rw[<-eo] at hq;rw[zw] at ht hq;cases qi:I[i]? with
   |none=>rw[qi] at ht;cases ht
   |some j =>
    rw[qi] at ht hq;cases ht;have hj:=hI j (zr qi);obtain⟨q',_,k2,k3⟩:=jw j hj;have:q=q':=by
     have:ps.getD j (0,0)=q:=z0 hq;rw[zC,k2] at this;exact this.symm
    subst this;exact k3
noncomputable def Yl:D->Option (Int×Int)
 | .tup [.int x,.int y]=>some (x,y)
 |_=>none
theorem Ym {k:D}{q:Int×Int}(h:Yl k=some q):k=pD q:=by
 unfold Yl at h;split at h
 ·cases h;rfl
 ·cases h
noncomputable def jW:List D->Option (List (Int×Int))
 |[]=>some []
 |k::r=>(match Yl k,jW r with|some q,some ps=>some (q::ps)|_,_=>none)
theorem Px:∀ps:List (Int×Int),jW (ps.map pD)=some ps
 |[]=>rfl
 |p::r=>by
  have e:Yl (pD p)=some p:=rfl;rw[zh,jW,e,Px r]
theorem Py:∀ {ks:List D}{ps:List (Int×Int)},jW ks=some ps->ks=ps.map pD
 |[],ps,h=>by cases h;rfl
 |k::r,ps,h=>by
  rw[jW] at h;cases q1:Yl k with
  |none=>rw[q1] at h;cases h
  |some q =>
   cases q2:jW r with
   |none=>rw[q1,q2] at h;cases h
   |some u7 =>
    rw[q1,q2] at h;cases h;rw[zh,Ym q1,Py q2]
noncomputable def R6 (d:D):M OT:=match d with
 | .B8 true ks _=>(match jW ks with|some ps=>if (∀q∈ps,0<=q.2/\q.2<1000)/\ps.Nodup/\ps.length<64 then .ok (.lst (((Ii ps).map pD).map .sh)) else .bad|none=>.bad)
 |_=>.bad
theorem MG {K:za}{H:Hp}{P:Addr->Prop}(ht:∀a,P a->EH H a):∀ {ts:List Addr}{ps:List (Int×Int)},ts.length=ps.length->(∀(i:Nat) t q,ts[i]?=some t->ps[i]?=some q->H t=some (.tup ((RC q).map kV)))->Ag K (del H P) (ts.map V.ref) (ps.map pD)
 |[],[],_,_=>.nil
 |[],_::_,h,_|_::_,[],h,_=>by cases h
 |t::ts,q::ps,h,hh=>by
  have h0:=hh 0 t q rfl rfl;have nt:¬ P t:=λ z=>by
   obtain⟨ob,z1,z2⟩:=ht t z;rw[h0] at z1;cases z1;exact (z2 _).1 rfl
  refine .cons ?_ (MG ht (by simpa using h) λ i t' q' h1 h2=>hh (i+1) t' q' h1 h2);exact .tup (xs:=(RC q).map kV) (by rw[Aq nt];exact h0) (.cons (.int _) (.cons (.int _) .nil))
theorem SN {p:Pos}(hc:X.calm=true)(hg:Gl X "sorted")(hm:X.mg "sorted" = none)(he:DE X WX true e f)
 (hv:bootBuiltins "sorted" = some (.builtin "sorted"):=by decide +kernel) (hs:starEach [e] X.env=[(false,eval e X.env)]:=by rfl):
 DN X WX (.Call (.Name "sorted" p) [e] [] pos) (λ ρ=>(f ρ).bind R6):=by
 obtain⟨te,e1,e2⟩:=he;refine⟨_,SM hc hg hm e1 hv hs,λ P0 P σ H Q ρ E h=>?_⟩;refine e2 P0 P σ H _ ρ E ?_;dsimp only at h;cases q:f ρ with
 |bad|ex x=>rw[q] at h;exact h
 |ok d =>
  rw[q] at h;simp only[M.A6] at h;intro v H1 s1 hv;unfold R6 at h;split at h
  ·rename_i ks vs;split at h
   ·rename_i ps eb;have ek:=Py eb;split at h
    ·rename_i hl;cases hv with
     | @GC a kvs _ hh aB =>
      have tk:=(E.same s1).BG;exact⟨a,kvs,ps,rfl,hh.Bj,Pw ek,hl.1,hl.2.1,hl.2.2,λ ts h1 h2 r hr=>h.HX s1 (MG tk (by rw[(Ca ps).length_eq];exact h1) h2) r hr⟩
    ·exact h.elim
   ·exact h.elim
  ·exact h.elim
end
noncomputable def VW (A:LA):List (Int×Int):=Ii (A.map zS)
theorem dA {A:LA}{p:Int×Int}:p∈VW A↔(CF A p).isSome=true:=by
 unfold VW;rw[(Ca _).mem_iff,G0]
theorem E9.oJ {m:Nat}{A:LA}(h:E9 m A)(hm:m<=7):(A.map zS).length<64:=by
 have key:=Kg (l:=A.map zS) (u:=(zR m).flatMap λ i:Nat=>(zR m).map λ j:Nat=>((i:Int),(j:Int))) h.nd λ p hp=>by
  obtain⟨_,h1,h2⟩:=h.rg p hp;refine List.mem_flatMap.mpr ⟨p.1.toNat,xk.mpr (by omega),zJ.mpr ⟨p.2.toNat,xk.mpr (by omega),?_⟩⟩;rw[Int.toNat_of_nonneg h1.1,Int.toNat_of_nonneg h2.1]
 have e:((zR m).flatMap λ i:Nat=>(zR m).map λ j:Nat=>((i:Int),(j:Int))).length=m*m:=by
  rw[List.length_flatMap];simp[List.map_const',List.sum_replicate_nat]
 rw[e] at key;have:m*m<=7*7:=Nat.mul_le_mul hm hm;omega
theorem jX {m:Nat}{A:LA}(hA:E9 m A)(hm:m<=7):R6 (J3 A)=.ok (.lst (((VW A).map pD).map .sh)):=by
 have e:J3 A=.B8 true ((A.map zS).map pD) (A.map λ kv=>QX kv.2):=by unfold J3;rw[yj];rfl
 rw[e];unfold R6;dsimp only;rw[Px];dsimp only;rw[if_pos ⟨λ q hq=>by have:=(hA.rg q hq).2.2;omega,hA.nd,hA.oJ hm⟩];rfl
def oK (K:za)(fd:FuncData)(ps:List Str)(key:Str):Prop:=∀(s:Shared) (us:List Value) (w:Value),K.In s.heap->us.length+1=ps.length->BindsTo s fd ⟨us,[(key,w)]⟩ (ps.zip (us++[w]))
structure Oz (P:Program)(w:World)(K:za)(mg:Str->Option Value)(base:Heap)(x:Str)(k n:Nat)(F:OT->List D->M (OT×OT)):Prop where
 ex:∃C fa fd ps,ZO K mg x C/\Mk K C fa/\CG P w K mg base (RB P w base) k fa fd ps (Mb K n F)/\(Binds K fd ps []/\Binds K fd ps [.none])/\oK K fd ps "order"
theorem Oz.v {P:Program}{w:World}{K:za}{mg:Str->Option Value}{base:Heap}{x:Str}{k n:Nat}{F:OT->List D->M (OT×OT)}(G:Oz P w K mg base x k n F):U3 P w K mg base x k n F:=by
 obtain⟨C,fa,fd,ps,h1,h2,h3,h4,_⟩:=G.ex;exact⟨⟨C,fa,fd,ps,h1,h2,h3,h4⟩⟩
structure SO (K:za)(mg:Str->Option Value)(x qual:Str)(st:Stmt)(ps:List Str):Prop where
 ex:∃C f fd,ZO K mg x C/\Mk K C f/\iS K "__init__" qual st f fd/\(Binds K fd ps []/\Binds K fd ps [.none])/\oK K fd ps "order"
theorem Yn {P:Program}{w:World}{K:za}{mg:Str->Option Value}{base:Heap}{x qual:Str}{st:Stmt}{N ps:List Str}{k n:Nat}(T:SO K mg x qual st ps)(S:Am N ps (A5 st))(g:Aa->M Out)
 (hb:∀(f:Addr) (B7:Value) (A:Around) (outer:List Env) (s:Shared) (H:Hp) (E:XK),Bn k (A.deeper (envOfC qual (A5 st) s.heap.objs.size f B7))->Qn (TB P w K mg base N qual (A5 st) f B7 A outer s H E) (Cm K E) (Az st) g) (hn:ps.length=n:=by rfl):
 Oz P w K mg base x (k+1) n (λ t az=>Ep (g (CI N t az))):=by
 obtain⟨C,f,fd,h1,h2,F,hB⟩:=T.ex;subst hn;exact⟨⟨C,f,fd,ps,h1,h2,ZR F S g (hb f),hB⟩⟩
section
variable {X:Cx}{CX:RN}{k:Nat}{f C:Addr}{fd:FuncData}{ps:List Str}{key:Str}{sp:Sp}{E:XK}{x:Str}{p pos aU:Pos}{e ek:Expr}{es:List Expr}{te:TE}{t:TA}
noncomputable def jY (C:Addr)(sp:Sp)(E:XK)(t:TA)(tk:TE):TE:=λ σ H Q=>t σ H λ vs H1=>tk σ H1 λ v H2=>∀x dx,H2 x=none->H2 dx=none->dx≠x->sp (.ref x::(vs++[v])) (upd (upd H2 dx (.own x)) x (.ins C dx [])) (λ v H2=>v=.Ay/\Q (.ref x) H2) E
theorem VX {pins:List (Addr×Obj)}{σ:St}{H:Hp}{s:Shared}{Q:VK}{us:List Value}{vs:List V}{u:Value}{v:V}(M:Mk X.K C f)(F:CG X.prog X.w X.K X.mg X.base CX k f fd ps sp)(hr:Bn (k+1) X.A)(hb:oK X.K fd ps key)
 (hx:EQ CX X E) (I:Inv X pins σ H s) (r:Vals vs us) (rv:RelV v u)
 (h:∀x dx,H x=none->H dx=none->dx≠x->sp (.ref x::(vs++[v])) (upd (upd H dx (.own x)) x (.ins C dx [])) (λ v H2=>v=.Ay/\Q (.ref x) H2) E):
 wpAny (model X.prog X.w) X.A (call (.ref C) us [(key,u)]) (EP X pins σ Q) X.xe s:=by
 have hq:=h (s.heap.objs.size+1) s.heap.objs.size (I.Ar.fresh (Nat.le_succ _)) (I.Ar.fresh (zv _)) (zB (Nat.lt_succ_self _));have I2:=Inv.made (C:=C) I;have r2:Vals (V.ref (s.heap.objs.size+1)::(vs++[v])) (zK (s.heap.objs.size+1)::(us++[u])):=.cons rfl (r.append (.cons rv .nil));have hl:(zK (s.heap.objs.size+1)::us).length+1=ps.length:=by
  have e:=r2.length;rw[F.len _ _ _ _ hq] at e;rw[e];simp
 refine wpAny_call (Q4 (f:=f) (kw:=[(key,u)]) I.L3 M.makes M.init (beq_iff_eq.mp M.fn) (codeAny_mono (F.run _ X.stack _ _ ⟨zK (s.heap.objs.size+1)::us,[(key,u)]⟩ (zK (s.heap.objs.size+1)::(us++[u])) _ _ E (hr.make C us [(key,u)])
  (I2.gB.make C us [(key,u)]) (hb _ (zK (s.heap.objs.size+1)::us) u I2.L3 hl) r2 hq) λ r s' b7=>?_))
 cases r with
 |error e=>exact hx pins σ _ _ e s' I2 b7
 |ok fl =>
  cases fl with
  |ret u =>
   obtain⟨v,H',I3,rv,ev,q3⟩:=I2.after b7;subst ev;exact⟨rv,⟨V.ref (s.heap.objs.size+1),H',I3,rfl,q3⟩⟩
  |next|brk|cont=>exact yD b7
theorem Yo (M:Mk X.K C f)(F:CG X.prog X.w X.K X.mg X.base CX k f fd ps sp)(hr:Bn (k+1) X.A)(hg:Gl X x)(hm:X.mg x=some (.ref C))(hb:oK X.K fd ps key)(hx:EQ CX X E)
 (ha:PA X (e::es) t) (hk:PE X ek te) (bn:(backToKw pos (keywordEach [⟨some key,ek,aU⟩] X.env)).all (·.1.isSome)=true:=by rfl) (f8:(backToKw pos (keywordEach [⟨some key,ek,aU⟩] X.env)).filterMap (·.1)=[key]:=by rfl)
 (aJ:(x==("__debug__" : Str))=false:=by decide) (he:starEach (e::es) X.env=(false,eval e X.env)::starEach es X.env:=by rfl)
 (a5:((backTo pos (starEach (e::es) X.env)).any (·.1)||(backToKw pos (keywordEach [⟨some key,ek,aU⟩] X.env)).any (·.1.isNone))=false:=by rfl):
 PE X (.Call (.Name x p) (e::es) [⟨some key,ek,aU⟩] pos) (jY C sp E t te):=by
 intro pins s σ H Q I h;refine wpAny_Call_Name_kw (Lf I hg hm ?_ aJ);refine PySem.W.callWith_KW (h₀:=X.base) I.ok.mod.eX M.kp bn (Bb (ha pos pins s σ H _ I h) λ us s1 ⟨vs,H1,I1,r,q⟩=>?_) a5 he;show wpAny _ _ (evalAll [(do let v <-eval ek X.env;standAt pos;pure v)]) _ _ s1;refine wpAny_evalAll_cons (wpAny_bind (Bb (hk pins s1 σ H1 _ I1 q) λ u s2 ⟨v,H2,I2,rv,q2⟩=>wpAny_bind (wpAny_standAt (wpAny_pure (wpAny_evalAll_nil ⟨I2.L3,?_⟩)))));rw[f8];exact VX M F hr hb hx I2 r rv q2
end
section
variable {X:Cx}{E:XK}{WX:Str->Hp->Prop}{c:Bool}{e ek:Expr}{es:List Expr}{fs:Aa->M (List D)}{fk:Aa->M D}{pos aU:Pos}{H:Hp}
theorem Yp {x:Str}{k n:Nat}{F:OT->List D->M (OT×OT)}{p:Pos}(xo:XCall X E)(G:Oz X.prog X.w X.K X.mg X.base x k n F)(hr:Bn (k+1) X.A)(hg:Gl X x)(ha:DA X (Cm X.K E) true (e::es) fs)(hk:DE X (Cm X.K E) true ek fk)(cw:(e::es).length+2=n)
 (bn:(backToKw pos (keywordEach [⟨some "order",ek,aU⟩] X.env)).all (·.1.isSome)=true:=by rfl) (f8:(backToKw pos (keywordEach [⟨some "order",ek,aU⟩] X.env)).filterMap (·.1)=[("order" : Str)]:=by rfl)
 (aJ:(x==("__debug__" : Str))=false:=by decide) (he:starEach (e::es) X.env=(false,eval e X.env)::starEach es X.env:=by rfl)
 (a5:((backTo pos (starEach (e::es) X.env)).any (·.1)||(backToKw pos (keywordEach [⟨some "order",ek,aU⟩] X.env)).any (·.1.isNone))=false:=by rfl):
 DN X (Cm X.K E) (.Call (.Name x p) (e::es) [⟨some "order",ek,aU⟩] pos) (λ ρ=>(fs ρ).bind λ ds=>(fk ρ).bind λ d=>KR (F (.ins x [] []) (ds++[d]))):=by
 obtain⟨C,fa,fd,ps,hT,hM,hF,_,hb⟩:=G.ex;obtain⟨ta,a1,a2,a3⟩:=ha;obtain⟨tk,v3,v4⟩:=hk;refine⟨_,Yo hM hF hr hg hT.rE hb xo.call a1 v3 bn f8 aJ he a5,λ P0 P σ H Q ρ Ev h=>?_⟩;dsimp only at h;refine a2 P0 P σ H _ ρ Ev ?_;cases q:fs ρ with
 |bad|ex x=>rw[q] at h;exact h
 |ok ds =>
  rw[q] at h;simp only[M.A6] at h;intro vs H1 s1 aE;refine v4 P0 P σ H1 _ ρ (Ev.same s1) ?_;cases qk:fk ρ with
  |bad=>rw[qk] at h;exact h
  |ex x=>rw[qk] at h;exact λ H' s'=>h H' (s1.trans s')
  |ok d0 =>
   rw[qk] at h;simp only[M.A6] at h;intro v0 H2 s2 v5 y dx hy hd ae;have E1:=(Ev.same s1).same s2;have sm:=Kb (C:=C) hy hd;have b9:∀a∈[y],H2 a=none:=λ a ha=>by rw[zu.mp ha];exact hy
   refine⟨by rw[zp,zM,aE.length,a3 ρ ds q];exact cw,PU P [y],y,.ins x [] [],[y],vs++[v0],ds++[d0],rfl,λ a ha=>?_,λ a ha=>.inr ha,by simp,Bx.ins (fs:=[]) hT.ns Al .nil,((aE.mono s2.del).mono (BU sm b9)).append (.cons (v5.mono (BU sm b9)) .nil),?_⟩
   ·rcases ha with ha|ha
    ·exact (E1.BG a ha).same sm
    ·rw[zu.mp ha];exact⟨_,Al,λ xs=>⟨(λ z=>by cases z),(λ z w=>by cases w)⟩⟩
   ·cases q2:F (.ins x [] []) (ds++[d0]) with
    |bad|ex z=>rw[q2] at h;exact h
    |ok tr =>
     obtain⟨t,r⟩:=tr;rw[q2] at h;simp only[KR] at h;intro v H' P' ak fr k1 k2 k3 k4 k5 k6 k7 k8 k9 li;cases r with
     |sh d =>
      cases d with
      |Ay =>
       cases k6 with
       |sh hv =>
        cases hv;refine⟨rfl,h _ ak H' ?_ ?_ k5 ?_⟩
        ·intro b u eb;have e1:=(s1.trans s2) b u eb;have bf:b≠y:=λ z=>by rw[z,hy] at e1;cases e1
         have e2:=sm b u e1;by_cases hP:P b
         ·exact (k1 b (.inl hP) (by simp[bf])).2.trans e2
         ·exact (Aj (k3 b u (by rw[Aq λ z=>z.elim hP λ w=>bf (zu.mp w)];exact e2))).2
        ·intro b d9;cases eb:H b with
         |none=>rfl
         |some u =>
          exfalso;have e1:=(s1.trans s2) b u eb;have bf:b≠y:=λ z=>by rw[z,hy] at e1;cases e1
          have e2:=sm b u e1;have hn:=λ z=>bf (zu.mp ((k9 b d9).2 z));exact (Aj (k3 b u (by rw[Aq hn];exact e2))).1 (k9 b d9).1
        ·refine k4.move (λ b u eb=>?_) λ _ _=>rfl;obtain⟨g1,g2⟩:=Aj eb;rw[Aq]
         ·exact g2
         ·rintro (z|z)
          ·have bf:b≠y:=λ w=>by
            obtain⟨o,e1,_⟩:=E1.BG b z;rw[w,hy] at e1;cases e1
           exact g1 (k1 b (.inl z) (by simp[bf])).1
          ·exact g1 (k9 b z).1
      |_=>exact h.elim
     |_=>exact h.elim
end
section
variable {P:Program}{w:World}{A:Around}{E:Value->Shared->Prop}{s:Shared}
theorem VY {l:Addr}{vs:List Value}{ps:List (Int×Int)}{Q:Value->Shared->Prop}(x:s.heap.IsList l vs.toArray)(lp:vs.length<64)(hl:ps.length=vs.length)(hv:∀(i:Nat) v q,vs[i]?=some v->ps[i]?=some q->D1 s.heap v q)(hb:∀q∈ps,0<=q.2/\q.2<1000)(hn:ps.Nodup)
 (h:∀(h':Heap) (D:Addr) (c:Nat) (I:List Nat),(∀b o,s.heap.get? b=some o->h'.get? b=some o)->s.heap.objs.size<=D->h'.get? D=some (seqObj "list" (I.map λ i=>vs.getD i y7).toArray c)->I.Perm (zR vs.length)->(I.map λ i=>ps.getD i (0,0)).Pairwise (λ p q=>Ih p<Ih q)->Q (.ref D) {s with heap:=h' }):
 wpAny (model P w) A (call (.builtin "sorted") [.ref l]) Q E s:=by
 apply Calls.call_function_entry kind_sorted plain_sorted entry_sorted (args_sorted1 _);rw[Builtin.«sorted»];refine wpAny_bind (m:=checkCount "sorted" 1 1 _) (wpAny_pure ?_);apply wpAny_bind;refine collect_list x ?_ (by rw[sizeLine_eq];omega);obtain⟨h1,e1⟩:∃h1,h1=(s.heap.push (seqObj "list" #[] 0)).update s.heap.objs.size (yr λ x=>x++vs.toArray):=⟨_,rfl⟩;have kp:∀b o,s.heap.get? b=some o->h1.get? b=some o:=λ b o e=>by
  have aj:b<s.heap.objs.size:=zt e;rw[e1,Heap.get?_update_ne _ _ _ _ (zB aj)];exact zi _ e
 have hsz:s.heap.objs.size<=h1.objs.size:=by
  rw[e1,Heap.size_update,Heap.size_push];omega
 rw[<-e1];apply wpAny_bind;refine wpAny_newList ?_ (by rw[sizeLine_eq];omega);have cb:(h1.push (seqObj "list" vs.toArray 0)).get? h1.objs.size=some (seqObj "list" vs.toArray 0):=zA _ rfl;have cz:∀b o,s.heap.get? b=some o->(h1.push (seqObj "list" vs.toArray 0)).get? b=some o:=λ b o e=>zi _ (kp b o e);show wpAny _ _ _ _ _ {s with heap:=h1.push (seqObj "list" vs.toArray 0)};refine wpAny_bind (wpAny_holding (wpAny_call_entry slot_list_sort ⟨_,cb,rfl⟩ entry_list_sort ?_ (args_list_sort _)));refine ME (s:={s with heap:=h1.push (seqObj "list" vs.toArray 0)}) (ps:=ps) cb lp hl (λ i v q hi hq=>(hv i v q hi hq).keep cz) hb hn λ I i1 i2=>⟨_,rfl,wpAny_pure ⟨_,rfl,?_⟩⟩;obtain⟨c,hc⟩:=sortedHeap_at (out:=(I.map λ i=>vs.getD i y7).toArray) cb;refine h _ _ c I (λ b o e=>?_) hsz hc i1 i2;have aj:b<s.heap.objs.size:=zt e;exact (sortedHeap_old (zB (zG aj hsz)) (zt (cz b o e))).trans (cz b o e)
end
section
variable {X:Cx}{WX:Str->Hp->Prop}{c:Bool}{P0:Df}{P:Addr->Prop}{H:Hp}{σ:St}{ρ:Aa}{e:Expr}{f:Aa->M D}{pos p2 aX:Pos}{te:TE}
def kR (H:Hp)(ts:List Addr)(ps:List (Int×Int)):Prop:=∀(i:Nat) t q,ts[i]?=some t->ps[i]?=some q->H t=some (.tup ((RC q).map kV))
theorem SQ:Gm X (.type "list") (λ xs H Q=>∃a kvs ps,xs=[.ref a]/\Rd H a (.dT kvs)/\kvs.map zS=ps.map RC/\X.calm=true/\ps.length<=900/\∀ts:List Addr,ts.length=ps.length->kR H ts ps->∀r,H r=none->Q (.ref r) (upd H r (.lst (ts.map V.ref)))):=by
 intro pins s σ H xs us Q I r h;obtain⟨a,kvs,ps,rfl,ha,hk,hc,wP,q⟩:=h;obtain⟨u,rfl,rx⟩:=vals1 r;cases rx;obtain⟨n1,es,ep,xs,r,da⟩:=Ye I ha;have zs:=size_of_entries da.en;have zk:kvs.length=ps.length:=by have:=congrArg List.length hk;rwa[ze,ze] at this
 have zx:kvs.length=xs.length:=Paired.length r;have bg:∀(i:Nat) (hi:i<es.size),∃t q,es[i].key=.ref t/\ps[i]?=some q/\H t=some (.tup ((RC q).map kV)):=λ i hi=>by
  obtain⟨y,hy⟩:∃y,xs[i]?=some y:=⟨xs[i]'(by omega),zg _⟩;have ex:=entry_at da.en i;rw[yi hi,hy] at ex;obtain⟨kv,g1,g2⟩:=W8.get r hy;obtain⟨q,hq⟩:∃q,ps[i]?=some q:=⟨ps[i]'(by omega),zg _⟩;have e:=congrArg (λ l=>l[i]?) hk;rw[zw,zw,g1,hq] at e;have e2:kv.1=RC q:=z0 e;rw[e2] at g2;exact⟨y.2.1,q,by rw[z0 ex];rfl,hq,g2⟩
 refine PySem.W.kdl_call (Yh n1) (I.ok.hd hc) da.ob (by rw[sizeLine_eq];omega) λ h' tk acc c' cJ hS cv=>?_;obtain⟨tf,jw⟩:∃tf:Nat->Addr,∀i,i<es.size->∃q,acc.toList[i]?=some (.ref (tf i))/\ps[i]?=some q/\H (tf i)=some (.tup ((RC q).map kV)):=⟨λ i=>if hi:i<es.size then zo (bg i hi) else 0,λ i hi=>by
  dsimp only;rw[dif_pos hi];obtain⟨q,k1,k2,k3⟩:=zb (bg i hi);refine⟨q,?_,k2,k3⟩;have hsz:acc.size=es.size:=cv.1;have e:acc[i]?=some (acc[i]'(by omega)):=yi _;obtain⟨_,e2⟩:=cv.2 i _ e;exact (yS ..).trans (e.trans (congrArg some (e2.trans k1)))⟩
 have ev:acc.toList=((zR es.size).map tf).map zK:=by
  apply List.ext_getElem?;intro i;rw[zw,zw];by_cases hi:i<es.size
  ·obtain⟨q,k1,_⟩:=jw i hi;rw[k1,yM hi];rfl
  ·have hsz:acc.size=es.size:=cv.1;rw[yg (by rw[yp];omega),yg (by simp;omega)];rfl
 refine⟨.ref s.heap.objs.size,_,I.laid (t':=tk) cJ (zv _) (show AV X.prog X.w _ h' _ (.lst (((zR es.size).map tf).map V.ref)) from ⟨?_,((zR es.size).map tf).map zK,c',JH _,by rw[<-ev,Array.toArray_toList];exact hS⟩),rfl,q _ (by rw[ze,List.length_range];omega) (λ i t q ht hq=>?_) _ (I.Ar.fresh (zv _))⟩
 ·rw[ze,ze,List.length_range,sizeLine_eq];omega
 ·rw[zw] at ht;by_cases hi:i<es.size
  ·rw[yM hi] at ht;cases ht;obtain⟨q',_,k2,k3⟩:=jw i hi;rw[hq] at k2;cases k2;exact k3
  ·rw[yg (by rw[List.length_range];omega)] at ht;cases ht
noncomputable def oM (te:TE):TE:=λ σ H Q=>te σ H λ x H1=>∃l ts ps,x=.ref l/\H1 l=some (.lst (ts.map V.ref))/\ts.length=ps.length/\kR H1 ts ps/\(∀q∈ps,0<=q.2/\q.2<1000)/\ps.Nodup/\ps.length<64/\
 ∀d7:List Addr,d7.length=ps.length->kR H1 d7 (Ii ps)->∀r,H1 r=none->Q (.ref r) (upd H1 r (.lst (d7.map V.ref)))
theorem Us:∀ {ts:List Addr}{us:List Value},Vals (ts.map V.ref) us->us=ts.map zK
 |[],_,h=>by cases h;rfl
 |t::ts,_,h=>by
  cases h with
  |cons a b=>cases a;rw[Us b];rfl
theorem SR {p:Pos}(hg:Gl X "sorted")(hm:X.mg "sorted" = none)(he:PE X e te)
 (hv:bootBuiltins "sorted" = some (.builtin "sorted"):=by decide +kernel) (hs:starEach [e] X.env=[(false,eval e X.env)]:=by rfl):
 PE X (.Call (.Name "sorted" p) [e] [] pos) (oM te):=by
 intro pins s σ H Q I h;refine wpAny_Call_Name_kw (Dh I hg hm hv ?_);refine yU ?_ hs;rw[hs];refine yR (Bb (he pins s σ H _ I h) λ u s1 ⟨x,H1,I1,r1,q1⟩=>?_);obtain⟨l,ts,ps,rfl,ha,hl,hk,hb,hn,jq,h⟩:=q1;cases r1;refine xa ?_;obtain⟨_,aa,c0,r',pl⟩:=(show AV X.prog X.w H1 s1.heap l (.lst (ts.map V.ref)) from I1.Ar l _ ha);have:=Us r';subst this;have v6:(ts.map zK).length=ts.length:=ze ..;refine VY (l:=l) (vs:=ts.map zK) (ps:=ps) ⟨_,pl,rfl,_,rfl⟩ (by omega) (by omega) (λ i v q hi hq=>?_) hb hn λ h' D c I kp hD bz i1 i2=>?_
 ·rw[zw] at hi;cases qt:ts[i]? with
  |none=>rw[qt] at hi;cases hi
  |some t =>
   rw[qt] at hi;cases hi;exact Ur I1 (hk i t q qt hq)
 ·have hI:∀i∈I,i<ts.length:=λ i hi=>by rw[<-v6];exact xk.mp (i1.mem_iff.mp hi)
  have eo:(I.map λ i=>ps.getD i (0,0))=Ii ps:=by
   refine Pu (List.Perm.trans ?_ (Ca ps).symm) i2 (MF hb hn);refine (i1.map _).trans (.of_eq ?_);apply List.ext_getElem?;intro i;rw[zw];by_cases hi:i<(ts.map zK).length
   ·rw[yM hi];obtain⟨q,hq⟩:∃q,ps[i]?=some q:=⟨ps[i]'(by omega),zg _⟩;rw[yt,zC,hq];rfl
   ·rw[yg (by simp;omega),yg (by omega)];rfl
  have ev:(I.map λ i=>(ts.map zK).getD i y7)=(I.map λ i=>ts.getD i 0).map zK:=by
   rw[yj];refine List.map_congr_left λ i hi=>?_;have:=hI i hi;rw[zC,zw,zg this];show _=zK (ts.getD i 0);rw[zC,zg this];rfl
  rw[ev] at bz;have vz:I.length=ts.length:=by have:=i1.length_eq;simpa using this
  refine⟨.ref D,_,I1.laid (t':=s1.toks) (o:=.lst ((I.map λ i=>ts.getD i 0).map V.ref)) kp hD ⟨?_,(I.map λ i=>ts.getD i 0).map zK,c,JH _,bz⟩,rfl,h (I.map λ i=>ts.getD i 0) (by rw[ze];omega) (λ i t q ht hq=>?_) D (I1.Ar.fresh hD)⟩
  ·rw[ze,ze];exact yd (AA (by omega))
  ·rw[<-eo] at hq;rw[zw] at ht hq;cases qi:I[i]? with
   |none=>rw[qi] at ht;cases ht
   |some j =>
    rw[qi] at ht hq;have hj:=hI j (zr qi);have bS:ts[j]?=some t:=by
     have:ts.getD j 0=t:=z0 ht;rw[zC,zg hj] at this;rw[zg hj];exact congrArg some this
    obtain⟨q',b7⟩:∃q',ps[j]?=some q':=⟨ps[j]'(by omega),zg _⟩;have:q=q':=by
     have:ps.getD j (0,0)=q:=z0 hq;rw[zC,b7] at this;exact this.symm
    subst this;exact hk j t q bS b7
theorem kR.same {H H1:Hp}{ts:List Addr}{ps:List (Int×Int)}(h:kR H ts ps)(s:Ad H H1):kR H1 ts ps:=λ i t q a b=>s t _ (h i t q a b)
theorem R7 {p:Pos}(hc:X.calm=true)(hg:Gl X "sorted")(hm:X.mg "sorted" = none)(ga:Gl X "list")(be:X.mg "list" = none)(he:DE X WX true e f)
 (hv:bootBuiltins "sorted" = some (.builtin "sorted"):=by decide +kernel) (nu:bootBuiltins "list" = some (.type "list"):=by decide +kernel) (hs:starEach [e] X.env=[(false,eval e X.env)]:=by rfl)
 (aY:starEach [.Call (.Name "list" p2) [e] [] aX] X.env=[(false,eval (.Call (.Name "list" p2) [e] [] aX) X.env)]:=by rfl):
 DN X WX (.Call (.Name "sorted" p) [.Call (.Name "list" p2) [e] [] aX] [] pos) (λ ρ=>(f ρ).bind R6):=by
 obtain⟨te,e1,e2⟩:=he;refine⟨_,SR hg hm (JV SQ ga be nu (Bc e1 C4 hs) (he:=hs)) hv aY,λ P0 P σ H Q ρ E h=>?_⟩;dsimp only at h;refine e2 P0 P σ H _ ρ E ?_;cases q:f ρ with
 |bad|ex x=>rw[q] at h;exact h
 |ok d =>
  rw[q] at h;simp only[M.A6] at h;intro v H1 s1 hv;unfold R6 at h;split at h
  ·rename_i ks vs;split at h
   ·rename_i ps eb;have ek:=Py eb;split at h
    ·rename_i hl;cases hv with
     | @GC a kvs _ hh aB =>
      refine⟨a,kvs,ps,rfl,hh.Bj,Pw ek,hc,by omega,λ ts h1 h2 r hr=>?_⟩;have sp:Ad H1 (upd H1 r (.lst (ts.map V.ref))):=AK hr _;refine⟨r,ts,ps,rfl,Al,h1,h2.same sp,hl.1,hl.2.1,hl.2.2,λ d7 g1 g2 r' cC=>?_⟩;have tk:=((E.same s1).same sp).BG;exact h.HX (s1.trans sp) (MG tk (by rw[(Ca ps).length_eq];exact g1) g2) r' cC
    ·exact h.elim
   ·exact h.elim
  ·exact h.elim
end
noncomputable def OA (i:Nat)(ρ:Aa)(π:List Nat):M (Str×List Str×List OT):=match Pe i ρ π with
 |some (.ins x ns ts)=>.ok (x,ns,ts)
 |_=>.bad
theorem Yq {i:Nat}{ρ:Aa}{π:List Nat}{x:Str}(h:OA i ρ π=.ex x):False:=by
 unfold OA at h;split at h<;>cases h
theorem MH {f:Str}{v:V}:∀ {fs:List (Str×V)},f∉fs.map zS->Ec f v fs=fs++[(f,v)]
 |[],_=>rfl
 |(g,x)::r,h=>by
  rw[zh,zq,not_or] at h;rw[Ec,if_neg (λ z=>h.1 z.symm),MH h.2,yQ]
section
variable {X:Cx}{E:XK}{WX:Str->Hp->Prop}{c:Bool}{P0:Df}{P:Addr->Prop}{H:Hp}{σ:St}{ρ:Aa}{a b e:Expr}{f g:Aa->M D}{fn:Aa->M OT}{fp:Aa->M (List Nat)}{pos:Pos}{i:Nat}{es:List Expr}{fs:Aa->M (List D)}
theorem AU.rJ {K:za}{π:List Nat}{v:V}{t1:OT}{x:Str}{ns:List Str}{ts:List OT}(pl:AU K P H σ ρ i π v t1)(E:Ai K P0 P H σ ρ)(h:OA i ρ π=.ok (x,ns,ts)):
 t1=.ins x ns ts/\∃l C dx fs fq,v=.ref l/\Au K H P (fs.map yz) ts fq/\Bx K H P (.ref l) (.ins x ns ts) (l::fq)/\zd K mainGlobals x=some (some (.ref C))/\H l=some (.ins C dx fs)/\ns=fs.map zS/\l∉fq/\fq.Nodup:=by
 unfold OA at h;rw[pl.at] at h;split at h
 ·rename_i x' cG d7 e;cases e;cases h;obtain⟨ax,o1,hp,nd⟩:=pl.own E;generalize ht:OT.ins x ns ts=t at o1;cases o1 with
  |ins hn hh hr =>
   injection ht with h1 h2 h3
   subst h1 h2 h3;exact⟨rfl,_,_,_,_,_,rfl,hr,.ins hn hh hr,hn,hh,rfl,(yf.mp nd).1,(yf.mp nd).2⟩
  |_=>cases ht
 ·cases h
theorem AU.vK {K:za}{π:List Nat}{v:V}{t1:OT}{ax:List Addr}(pl:AU K P H σ ρ i π v t1)(E:Ai K P0 P H σ ρ)(o:Bx K H P v t1 ax):∃c v fp,ρ[i]?=some (some c)/\σ[i]?=some (some v)/\Ck K H P c v fp/\∀a∈ax,a∈fp:=by
 obtain⟨v0,c,p,t,h1,h2,h3,h4⟩:=pl.ex;have io:Gx c=true:=by cases c<;>first|rfl|cases h2
 obtain⟨w,fp,k1,k2,k3,k4⟩:=E.ows i c h1 io;rw[h3] at k1;cases k1;have ot:=k2.toT h2;obtain⟨fz,oz,kz,_⟩:=ot.part h4;have:=oz.BS o;subst this;exact⟨c,v0,fp,h1,h3,k2,kz⟩
theorem Ai.rK {K:za}{π:List Nat}{l:Addr}{t1 u:OT}{o':HO}{fq fu:List Addr}(E:Ai K P0 P H σ ρ)(pl:AU K P H σ ρ i π (.ref l) t1)(ot:Bx K H P (.ref l) t1 (l::fq))(hn:∀xs,o'≠.tup xs/\∀z,o'≠.FJ z (.tup xs))(new:Ad (del H P) (del (upd H l o') P)->Bx K (upd H l o') P (.ref l) u (l::fu))(nd:fu.Nodup)(hl:l∉fu)
 (hf:∀a∈fu,a∈fq\/(P a/\¬ P0 a/\∀(j:Nat) c v fp,ρ[j]?=some (some c)->σ[j]?=some (some v)->Ck K H P c v fp->a∉fp)):
 ∃c p t,ρ[i]?=some (some c)/\treeOf c=some (p,t)/\Ai K P0 P (upd H l o') σ (ρ.set i (some (toCl p (Dv t π u))))/\Tr P0 P H P (upd H l o'):=by
 obtain⟨ax,o1,hp,_⟩:=pl.own E;have:=o1.BS ot;subst this;have pP:P l:=(hp l zc).1;have sd:del (upd H l o') P=del H P:=by
  funext b;by_cases hb:P b
  ·rw[Ef hb,Ef hb]
  ·rw[Aq hb,Aq hb,Ab (λ z=>hb (by rw[z];exact pP))]
 have sm:Ad (del H P) (del (upd H l o') P):=by rw[sd];exact Ad.refl _
 refine E.iF pl ot (λ _ h=>h) (λ a h=>?_) sm (λ a ha hn=>Ab λ z=>hn (by rw[z];exact zc)) (new sm) (yf.mpr ⟨hl,nd⟩) (λ a ha=>?_)
 ·by_cases ha:a=l
  ·subst ha;exact⟨_,Al,hn⟩
  ·unfold EH;rw[Ab ha];exact E.BG a h
 ·rcases zq.mp ha with rfl|ha
  ·exact .inl zc
  ·exact (hf a ha).imp (zf _) id
theorem JI (cs:List Str){fl:Str}(pc:∀x∈cs,Ib X.K x fl)(ha:DP X WX a i fp)(he:DN X WX e fn){pos':Pos}(hs:swapsWith e (some (.Attribute a fl pos')) pos.line X.env=pure false:=by rfl):
 DS X WX (.Assign [.Attribute a fl pos'] e pos) (λ ρ=>(fn ρ).bind λ t=>(fp ρ).bind λ π=>(OA i ρ π).bind λ z=>if z.1∈cs/\fl∉z.2.1/\z.2.1.length<1000 then EU i ρ π (.ins z.1 (z.2.1++[fl]) (z.2.2++[t])) else .bad):=by
 obtain⟨ta,a1,a2⟩:=ha;obtain⟨te,e1,e2⟩:=he;refine⟨_,fY a1 e1 hs,λ P0 P σ H Z ρ E h=>?_⟩;dsimp only at h;refine e2 P0 P σ H _ ρ E ?_;cases q0:fn ρ with
 |bad=>rw[q0] at h;exact h
 |ex x=>rw[q0] at h;exact λ H' s=>h H' P (E.tr s)
 |ok t =>
  rw[q0] at h;simp only[M.A6] at h;intro w fw H0 s0 n0 v7 o0;have sm:=BU (P:=P) s0 n0;have E0:Ai X.K P0 (PU P fw) H0 σ ρ:=E.more s0 K5 (Iy (E.same s0).BG o0) sm;refine a2 P0 (PU P fw) σ H0 _ ρ E0 ?_;cases q:fp ρ with
  |bad=>rw[q] at h;exact h
  |ex x=>rw[q] at h;exact λ H' s=>h H' _ ((E.kL s0 n0).trans (E0.tr s))
  |ok π =>
   rw[q] at h;simp only[M.A6] at h;intro v t1 H1 s1 pl;have E1:=E0.same s1;have v8:=(E.kL s0 n0).trans (E0.tr s1);cases q3:OA i ρ π with
   |bad=>rw[q3] at h;exact h.elim
   |ex x=>exact (Yq q3).elim
   |ok z =>
    obtain⟨x,ns,ts⟩:=z;rw[q3] at h;simp only[M.A6] at h;by_cases hc:x∈cs/\fl∉ns/\ns.length<1000
    ·rw[if_pos hc] at h;obtain⟨rfl,l,C,dx,fs,fq,rfl,bV,ot,hn,hH,rfl,nl,gm⟩:=pl.rJ E1 q3;obtain⟨C',bP,db,jr⟩:=(pc x hc.1).ex;rw[hn] at bP;cases bP;have o1:Bx X.K H1 (PU P fw) w t fw:=o0.move s1.del λ a ha=>by
      obtain⟨o,z,_⟩:=o0.BG a ha;rw[z];exact s1 _ _ z
     have jx:∀b∈fw,∀(j:Nat) c v fp,ρ[j]?=some (some c)->σ[j]?=some (some v)->Ck X.K H1 (PU P fw) c v fp->b∉fp:=λ b hb=>E.new (s0.trans s1) (λ b o z=>s1.del b o (sm b o z)) (n0 b hb);obtain⟨c1,v1,ax,y1,y2,y3,y4⟩:=pl.vK E1 ot;have tW:∀b∈l::fq,b∉fw:=λ b hb h7=>jx b h7 i c1 v1 ax y1 y2 y3 (y4 b hb);have tX:l∉fw:=tW l zc;have dj:∀b∈fq,b∉fw:=λ b hb=>tW b (zf _ hb);obtain⟨c,p,t0,g1,g2,E3,t3⟩:=E1.rK (o':=.ins C dx (Ec fl w fs)) (u:=.ins x (fs.map zS++[fl]) (ts++[t])) (fu:=fq++fw) pl ot (λ _=>⟨λ z=>(by cases z),λ _ z=>by cases z⟩) (λ mv=>by
      have ap:=(bV.append (.cons o1 .nil)).move mv (λ a ha=>Ab λ z=>by
       rw[zX] at ha;rcases zL.mp ha with y|y
       ·exact nl (z▸y)
       ·exact tX (z▸y))
      have e:(Ec fl w fs).map yz=fs.map yz++[w]:=by rw[MH hc.2.1,ya];rfl
      have:=Bx.ins (K:=X.K) (H:=upd H1 l (.ins C dx (Ec fl w fs))) (P:=PU P fw) (p:=l) (fs:=Ec fl w fs) (x:=x) (ts:=ts++[t]) (fp:=fq++(fw++[])) hn Al (by rw[e];exact ap);have e2:(Ec fl w fs).map zS=fs.map zS++[fl]:=by rw[MH hc.2.1,ya];rfl
      rw[e2,zX] at this;exact this) (zN.mpr ⟨gm,v7,λ b hb d hd z=>dj b hb (by rw[z];exact hd)⟩) (λ z=>(zL.mp z).elim nl tX) (λ b hb=>by
       rcases zL.mp hb with z|z
       ·exact .inl z
       ·exact .inr ⟨.inr z,λ y=>(E.BG b (E.sub b y)).no (n0 b z),jx b z⟩)
     rw[Dy g1 g2] at h;exact⟨l,C,dx,fs,rfl,hH,db,jr,by have:=hc.2.2;rw[ze] at this;exact this,h _ _ _ (v8.trans t3) E3⟩
    ·rw[if_neg hc] at h;exact h.elim
end
theorem jZ {m:Nat}{A:LA}(hA:E9 m A)(hm:m<=7):R6 (Nm (IH A))=.ok (.lst (((VW A).map pD).map .sh)):=by
 have e:Nm (IH A)=.B8 true ((A.map zS).map pD) ((IH A).map λ kv=>cst (some kv.2)):=by unfold Nm;rw[<-R5,yj];rfl
 rw[e];unfold R6;dsimp only;rw[Px];dsimp only;rw[if_pos ⟨λ q hq=>by have:=(hA.rg q hq).2.2;omega,hA.nd,hA.oJ hm⟩];rfl
theorem rL {i:Nat}{ρ:Aa}{a:OT}{ds:List D}(h:ρ[i]?=some (some (.ow (.tree none (.tup [a,.lst (ds.map .sh)]))))):
 M7 i ρ=.ok []/\Xo i ρ [] (.int 1)=.ok [1]/\N9 i ρ [1]=.ok ds/\EU i ρ [1] (.lst (([]:List D).map .sh))=.ok (.next (ρ.set i (some (.ow (.tree none (.tup [a,.lst []])))))):=by
 have g:=oB (u:=.sh .Ay) h;refine⟨g.1,g.2.1,?_,?_⟩
 ·unfold N9;simp[Pe,h,treeOf,GN,kids,BV,Nl]
 ·rw[Dy h rfl];simp[Dv,kids,Ht,toCl]
theorem dB (a b c:OT):er (.lst [a,b,c])=.lst [er a,er b,er c]:=by rw[er,I9,I9,I9,I9]
theorem kA (K:List (Int×Int)):Pl 16 (.lst (K.map pD)):=S9 (n:=15) λ d hd=>by
 obtain⟨p,_,rfl⟩:=zJ.mp hd;exact oH (n:=14) p
noncomputable def MI (m:Nat)(rs:List Road)(L:List Int)(A:LA)(K:List (Int×Int)):OT:=.ins "Ladder" ["own_map","own_order","laid","kept_ones"] [.tup [.sh (.int m),.lst ((rs.map C2).map .sh)],.lst ((L.map D.int).map .sh),Gy A,.lst ((K.map pD).map .sh)]
theorem Ut (m:Nat)(rs:List Road)(L:List Int)(A:LA)(K:List (Int×Int)):er (MI m rs L A K)=Ax m rs L A K:=by
 unfold MI;rw[er,I9,I9,I9,I9,I9,Lu,Et,Et];unfold Gy;rw[Di];rfl
theorem kB (r:Road):JP (C2 r)=true:=by
 obtain⟨a,b,l,w⟩:=r;cases l<;>rfl
theorem Yr (m:Nat)(rs:List Road):Ct (.tup [.sh (.int m),.lst ((rs.map C2).map .sh)])=true:=by
 rw[Ct,BI,BI,BI,Ct,Ct,CZ _ λ d hd=>by obtain⟨x,_,rfl⟩:=zJ.mp hd;exact kB x];rfl
theorem Km (m:Nat)(rs:List Road)(L:List Int)(A:LA)(K:List (Int×Int)):Ct (MI m rs L A K)=true:=by
 unfold MI Gy;rw[Ct,BI,BI,BI,BI,BI,Yr,Ct,Ct,Ct,
  CZ _ λ d hd=>by obtain⟨x,_,rfl⟩:=zJ.mp hd;rfl,
  CZ _ λ d hd=>by obtain⟨x,_,rfl⟩:=zJ.mp hd;exact Y7 x.2,
  CZ _ λ d hd=>by obtain⟨x,_,rfl⟩:=zJ.mp hd;exact Sw x]
 rfl
theorem oN {a b c:OT}(h1:Ct a=true)(h2:Ct b=true)(h3:Ct c=true):Se (.ok (.lst [a,b,c]))=.ok (.lst [a,b,c]):=by
 unfold Se;simp only[M.A6];rw[Ct,BI,BI,BI,BI,h1,h2,h3];rfl
theorem dC (v:Option Int):Pl 16 (BE v):=by
 cases v with
 |none=>exact S8 (n:=16)
 |some q=>exact C7 (n:=16) q
end L2
set_option maxHeartbeats 4000000
namespace cE
open PySem L2
noncomputable def top (i:Nat):Stmt:=PySem.Challenge.pw_nodeladder_k31_ladder_told.main.body.getD i (.Pass ⟨0,0,0,0⟩)
noncomputable abbrev D2:Stmt:=top 7
theorem JJ:Am ["thing","bound"] ["thing","bound"] (A5 D2):=⟨rfl,rfl,rfl,by decide +kernel,rfl,by decide +kernel,by decide +kernel⟩
noncomputable abbrev G1:Stmt:=top 8
theorem Np:Am ["thing"] ["thing"] (A5 G1):=⟨rfl,rfl,rfl,by decide +kernel,rfl,by decide +kernel,by decide +kernel⟩
noncomputable abbrev Kn:Stmt:=top 9
theorem SS:Am ["thing","many"] ["thing","many"] (A5 Kn):=⟨rfl,rfl,rfl,by decide +kernel,rfl,by decide +kernel,by decide +kernel⟩
noncomputable abbrev MJ:Stmt:=top 10
theorem Ko:Am ["thing","many","roads"] ["thing"] (A5 MJ):=⟨rfl,rfl,rfl,by decide +kernel,rfl,by decide +kernel,by decide +kernel⟩
noncomputable abbrev Kq:Stmt:=top 11
theorem SU:Am ["thing"] ["thing"] (A5 Kq):=⟨rfl,rfl,rfl,by decide +kernel,rfl,by decide +kernel,by decide +kernel⟩
noncomputable abbrev Pz:Stmt:=top 12
theorem Ys:Am ["one","other"] ["one","other"] (A5 Pz):=⟨rfl,rfl,rfl,by decide +kernel,rfl,by decide +kernel,by decide +kernel⟩
noncomputable abbrev PB:Stmt:=top 13
theorem Yt:Am ["some"] ["some"] (A5 PB):=⟨rfl,rfl,rfl,by decide +kernel,rfl,by decide +kernel,by decide +kernel⟩
noncomputable abbrev GW:Stmt:=top 14
theorem PD:Am ["road"] ["road"] (A5 GW):=⟨rfl,rfl,rfl,by decide +kernel,rfl,by decide +kernel,by decide +kernel⟩
noncomputable abbrev EX:Stmt:=top 16
theorem MK:Am ["laid","pair"] ["laid","pair"] (A5 EX):=⟨rfl,rfl,rfl,by decide +kernel,rfl,by decide +kernel,by decide +kernel⟩
noncomputable abbrev Yu:Stmt:=top 17
theorem kC:Am ["laid","pair","cost","middle"] ["laid","pair","cost","middle"] (A5 Yu):=⟨rfl,rfl,rfl,by decide +kernel,rfl,by decide +kernel,by decide +kernel⟩
noncomputable abbrev II:Stmt:=top 18
theorem EO:Am ["laid","place","higher","u","w","cost"] ["laid","place","higher"] (A5 II):=⟨rfl,rfl,rfl,by decide +kernel,rfl,by decide +kernel,by decide +kernel⟩
noncomputable abbrev GX:Stmt:=top 19
theorem Cv:Am ["net","order","laid","road","rank","place"] ["net","order"] (A5 GX):=⟨rfl,rfl,rfl,by decide +kernel,rfl,by decide +kernel,by decide +kernel⟩
noncomputable abbrev GY:Stmt:=top 20
theorem JK:Am ["net","order","laid"] ["net","order"] (A5 GY):=⟨rfl,rfl,rfl,by decide +kernel,rfl,by decide +kernel,by decide +kernel⟩
noncomputable abbrev Kr:Stmt:=top 21
theorem ML:Am ["net","order","laid"] ["net","order"] (A5 Kr):=⟨rfl,rfl,rfl,by decide +kernel,rfl,by decide +kernel,by decide +kernel⟩
noncomputable abbrev IJ:Stmt:=top 23
theorem R8:Am ["net","thing"] ["net","thing"] (A5 IJ):=⟨rfl,rfl,rfl,by decide +kernel,rfl,by decide +kernel,by decide +kernel⟩
noncomputable abbrev Dk:Stmt:=top 24
theorem Ks:Am ["net","thing"] ["net","thing"] (A5 Dk):=⟨rfl,rfl,rfl,by decide +kernel,rfl,by decide +kernel,by decide +kernel⟩
noncomputable abbrev G2:Stmt:=top 25
theorem EY:Am ["net","bows","road"] ["net"] (A5 G2):=⟨rfl,rfl,rfl,by decide +kernel,rfl,by decide +kernel,by decide +kernel⟩
noncomputable abbrev Ez:Stmt:=top 26
theorem BB:Am ["bows","left","place","ahead","behind","missing","u"] ["bows","left","place"] (A5 Ez):=⟨rfl,rfl,rfl,by decide +kernel,rfl,by decide +kernel,by decide +kernel⟩
noncomputable abbrev IK:Stmt:=top 27
theorem R9:Am ["bows","left"] ["bows","left"] (A5 IK):=⟨rfl,rfl,rfl,by decide +kernel,rfl,by decide +kernel,by decide +kernel⟩
noncomputable abbrev MM:Stmt:=top 28
theorem Eb:Am ["net","bows","left","order","place","bow"] ["net"] (A5 MM):=⟨rfl,rfl,rfl,by decide +kernel,rfl,by decide +kernel,by decide +kernel⟩
noncomputable abbrev G3:Stmt:=top 30
theorem Bo:Am ["net","start","costs","changed","road","cost"] ["net","start"] (A5 G3):=⟨rfl,rfl,rfl,by decide +kernel,rfl,by decide +kernel,by decide +kernel⟩
noncomputable abbrev Cw:Stmt:=top 32
theorem IL:Am ["net","order"] ["net","order"] (A5 Cw):=⟨rfl,rfl,rfl,by decide +kernel,rfl,by decide +kernel,by decide +kernel⟩
noncomputable abbrev GZ:Stmt:=top 33
theorem DB:Am ["net","laid","kept","u","costs"] ["net","laid"] (A5 GZ):=⟨rfl,rfl,rfl,by decide +kernel,rfl,by decide +kernel,by decide +kernel⟩
noncomputable abbrev Ak:Stmt:=inClass (top 34) 0
theorem IM:Am ["self","net","order"] ["self","net","order"] (A5 Ak):=⟨rfl,rfl,rfl,by decide +kernel,rfl,by decide +kernel,by decide +kernel⟩
noncomputable abbrev Cy:Stmt:=inClass (top 34) 1
theorem IP:Am ["self"] ["self"] (A5 Cy):=⟨rfl,rfl,rfl,by decide +kernel,rfl,by decide +kernel,by decide +kernel⟩
noncomputable abbrev EA:Stmt:=inClass (top 34) 2
theorem Lb:Am ["self"] ["self"] (A5 EA):=⟨rfl,rfl,rfl,by decide +kernel,rfl,by decide +kernel,by decide +kernel⟩
noncomputable abbrev EZ:Stmt:=inClass (top 34) 3
theorem MN:Am ["self"] ["self"] (A5 EZ):=⟨rfl,rfl,rfl,by decide +kernel,rfl,by decide +kernel,by decide +kernel⟩
noncomputable abbrev BO:Stmt:=inClass (top 34) 4
theorem CK:Am ["self","u","w","many"] ["self","u","w"] (A5 BO):=⟨rfl,rfl,rfl,by decide +kernel,rfl,by decide +kernel,by decide +kernel⟩
noncomputable abbrev F0:Stmt:=inClass (top 34) 5
theorem MO:Am ["self","u","w"] ["self","u","w"] (A5 F0):=⟨rfl,rfl,rfl,by decide +kernel,rfl,by decide +kernel,by decide +kernel⟩
noncomputable abbrev Dl:Stmt:=inClass (top 34) 6
theorem Kt:Am ["self","u","w"] ["self","u","w"] (A5 Dl):=⟨rfl,rfl,rfl,by decide +kernel,rfl,by decide +kernel,by decide +kernel⟩
noncomputable abbrev H9:Stmt:=top 36
theorem G4:Am ["_law_cell","_law_k","_law_number"] ["_law_cell","_law_k"] (A5 H9):=⟨rfl,rfl,rfl,by decide +kernel,rfl,by decide +kernel,by decide +kernel⟩
noncomputable abbrev IQ:Stmt:=top 37
theorem Bm:Am ["_law_cell","_law_many","_law_mixed_here","_law_one","_law_other","_law_way","_law_length"] ["_law_cell","_law_many"] (A5 IQ):=⟨rfl,rfl,rfl,by decide +kernel,rfl,by decide +kernel,by decide +kernel⟩
noncomputable abbrev Ku:Stmt:=top 38
theorem EB:Am ["_law_cells","_law_most","_law_head","_law_many","_law_roads"] ["_law_cells","_law_most"] (A5 Ku):=⟨rfl,rfl,rfl,by decide +kernel,rfl,by decide +kernel,by decide +kernel⟩
noncomputable abbrev Ha:Stmt:=top 39
theorem G5:Am ["_law_many","_law_cell","_law_low_first","_law_k"] ["_law_many","_law_cell"] (A5 Ha):=⟨rfl,rfl,rfl,by decide +kernel,rfl,by decide +kernel,by decide +kernel⟩
noncomputable abbrev IR:Stmt:=top 40
theorem Bz:Am ["_law_ladder","_law_land","_law_low_first","_law_early","_law_costs","_law_inner","_law_found","_law_u","_law_w","_law_told_here"] ["_law_ladder","_law_land","_law_low_first","_law_early"] (A5 IR):=⟨rfl,rfl,rfl,by decide +kernel,rfl,by decide +kernel,by decide +kernel⟩
noncomputable abbrev Gr:Stmt:=top 41
theorem G6:Am ["_law_script","_law_cells","_law_land","_law_low_first","_law_best","_law_handed","_law_line","_law_ladders","_law_k"] ["_law_script"] (A5 Gr):=⟨rfl,rfl,rfl,by decide +kernel,rfl,by decide +kernel,by decide +kernel⟩
structure Txt (K:za)(mg:Str->Option Value):Prop where
 Kv:B4 K mg "is_whole_below" D2 ["thing","bound"]
 PF:B4 K mg "is_measure" G1 ["thing"]
 VZ:B4 K mg "is_road" Kn ["thing","many"]
 Yv:B4 K mg "is_map" MJ ["thing"]
 W0:B4 K mg "checked" Kq ["thing"]
 dD:B4 K mg "added" Pz ["one","other"]
 dE:B4 K mg "least" PB ["some"]
 Ra:B4 K mg "road_cost" GW ["road"]
 Nq:B4 K mg "cost_so_far" EX ["laid","pair"]
 oO:B4 K mg "lay" Yu ["laid","pair","cost","middle"]
 SV:B4 K mg "lay_over" II ["laid","place","higher"]
 Rb:B4 K mg "laid_arcs" GX ["net","order"]
 Rc:B4 K mg "arc_costs" GY ["net","order"]
 W2:B4 K mg "middles" Kr ["net","order"]
 SW:B4 K mg "is_order" IJ ["net","thing"]
 Lc:B4 K mg "checked_order" Dk ["net","thing"]
 PH:B4 K mg "first_bows" G2 ["net"]
 MQ:B4 K mg "missing_bows" Ez ["bows","left","place"]
 SX:B4 K mg "lightest" IK ["bows","left"]
 Yw:B4 K mg "ranked" MM ["net"]
 PJ:B4 K mg "costs_from" G3 ["net","start"]
 JL:B4 K mg "order_or_ranked" Cw ["net","order"]
 Rf:B4 K mg "kept_arcs" GZ ["net","laid"]
 JM:SO K mg "Ladder" "Ladder.__init__" Ak ["self","net","order"]
 JN:KQ K "Ladder" "told_map" "Ladder.told_map" Cy ["self"]
 MR:KQ K "Ladder" "order" "Ladder.order" EA ["self"]
 Nr:KQ K "Ladder" "arcs" "Ladder.arcs" EZ ["self"]
 Hb:KQ K "Ladder" "checked_arc" "Ladder.checked_arc" BO ["self","u","w"]
 Nt:KQ K "Ladder" "cost" "Ladder.cost" F0 ["self","u","w"]
 Ld:KQ K "Ladder" "middle" "Ladder.middle" Dl ["self","u","w"]
 Rg:B4 K mg "_law_mixed" H9 ["_law_cell","_law_k"]
 SY:B4 K mg "_law_road" IQ ["_law_cell","_law_many"]
 W3:B4 K mg "_law_map" Ku ["_law_cells","_law_most"]
 Rh:B4 K mg "_law_order" Ha ["_law_many","_law_cell"]
 T4:B4 K mg "_law_told" IR ["_law_ladder","_law_land","_law_low_first","_law_early"]
 tY:B4 K mg "law" Gr ["_law_script"]
 eQ:mg "all" = none
 kD:mg "bool" = none
 Yx:mg "dict" = none
 Ri:mg "enumerate" = none
 oP:mg "int" = none
 AX:mg "isinstance" = none
 Rj:mg "len" = none
 BP:mg "list" = none
 eR:mg "min" = none
 HQ:mg "range" = none
 MS:mg "sorted" = none
 Yy:mg "sum" = none
 Lw:mg "tuple" = none
 dG:ClsAt K mg "NoArc"
 dH:ClsAt K mg "NoMap"
 W4:ClsAt K mg "NoOrder"
 IS:Ib K "Ladder" "kept_ones"
 BC:Ib K "Ladder" "laid"
 Ba:Ib K "Ladder" "own_map"
 Cb:Ib K "Ladder" "own_order"
local macro_rules | `(tactic| simp_arith [$xs,*])=>`(tactic| simp only [iM,iN,HI,List.set_cons_zero,List.set_cons_succ,M.A6,DH,DF,F8,Fl,Fm,Fn,Hx,Di,Et,Mh,Fb,Fc,DJ,O0,Hu,Hv,Fd,Vf,DK,DL,CT,K6,BN,K7,Fe,Ff,DM,O1,F9,D8,toCl_list,toCl_listP,toCl_dct,Hy,Fo,Fp,Fq,Fs,Hz,Ft,Fu,Fv,eA,Zx,Fg,O2,Fh,O3,Fi,Fj,Hw,O4,kN,kO,Vi,Vk,Vl,Vm,Vn,Vo,toCl_nil,GI,Gn,Ni,K8,DQ,HA,HB,Fw,Fx,HC,HD,HE,HF,HG,Fy,Fz,FA,FC,DR,DU,DV,DY,DZ,FD,E5,E6,O5,O6,O7,O8,O9,E7,ite_tt,ite_ff,Bool.not_true,Bool.not_false,List.getElem?_cons_zero,List.getElem?_cons_succ,CY,FF,FG,Vh,VI,Vg,VM,VN,VO,HN,Kh,IF,Ki,Cj,Ea,HP,Kd,VR,Ox,Kk,$xs,*])
variable {P:Program}{w:World}{K:za}{mg:Str->Option Value}{base:Heap}
theorem Cz:∃F:List D->M OT,(∀ {P w K mg base},Txt K mg->D6 P w K mg base "is_whole_below" 1 2 F)/\(∀(d:D) (n:Int),Tw d=false->F [d,.int n]=.ok (.sh (.bl (JQ d n)))):=by
 refine⟨_,λ T=>B0 (k:=0) T.Kv JJ _ (λ f B7 A outer s H E hr=>(A8 (Ap (AZ (S2 (ET (X2 _) rfl T.AX rfl T.oP (by decide +kernel) (A1 0 (pv 0))) (S2 (hU (ET (US _) rfl T.AX rfl T.kD (by decide +kernel) (A1 0 (pv 0)))) (S1 (UP lW lV A7 (A1 0 (pv 0)) (A1 1 (pv 1)))))))))),?_⟩;intro d n hx;have e0:AI ["thing","bound"] [d,.int n]=[some (.val d),some (.val (.int n))]:=rfl;rw[e0];refine Bt ?_;simp_arith[Qm hx];cases d with
 |int j =>
  simp_arith[];unfold JQ;by_cases h1:0<=j<;>by_cases h2:j<n<;>simp[h1,h2,Dx,CY]<;>rfl
 |Dq x|ins x n d=>cases hx
 |_=>rfl
noncomputable def Gs:List D->M OT:=zo Cz
theorem AO:Txt K mg->D6 P w K mg base "is_whole_below" 1 2 Gs:=(zb Cz).1
theorem AH:∀(d:D) (n:Int),Tw d=false->Gs [d,.int n]=.ok (.sh (.bl (JQ d n))):=(zb Cz).2
theorem F1:∃F:List D->M OT,(∀ {P w K mg base},Txt K mg->D6 P w K mg base "is_measure" 2 1 F)/\(∀d:D,Tw d=false->F [d]=.ok (.sh (.bl (JQ d PV)))):=by
 refine⟨_,λ T=>B0 (k:=1) T.PF Np _ (λ f B7 A outer s H E hr=>(A8 (Ap (Ao Ac.toXCall (AO T) (hr.mono (by decide)) rfl (A3 (A1 0 (pv 0)) (A3 (OY A7 A7) A9)) rfl)))),?_⟩;intro d hx;have e0:AI ["thing"] [d]=[some (.val d)]:=rfl;rw[e0];have h1:=AH d PV hx;refine Bt ?_;simp_arith[eJ,h1];rfl
noncomputable def KW:List D->M OT:=zo F1
theorem Ij:Txt K mg->D6 P w K mg base "is_measure" 2 1 KW:=(zb F1).1
theorem Ik:∀d:D,Tw d=false->KW [d]=.ok (.sh (.bl (JQ d PV))):=(zb F1).2
theorem IT:∃F:List D->M OT,(∀ {P w K mg base},Txt K mg->D6 P w K mg base "is_road" 3 2 F)/\(∀(d:D) (m:Int),cl 1 d->F [d,.int m]=.ok (.sh (.bl (EW m d)))):=by
 refine⟨_,λ T=>B0 (k:=2) T.VZ SS _ (λ f B7 A outer s H E hr=>(A4 (Be (DW.dt (Dr (BM (Bs (c:=true) (ET (Iv _) rfl T.AX rfl T.Lw (by decide +kernel) (A1 0 (pv 0))))) (Cs (EJ (c:=true) (AY hr 16 (by decide)) (LU rfl T.Rj (A1 0 (pv 0))) A7)))) (A8 (Ap (AZ BY))) AB) (A4 (Be (DW.dt (Dr (BM (Bs (c:=true) (As (Ao Ac.toXCall (AO T) (hr.mono (by decide)) rfl (A3 (Ah (AY hr 16 (by decide)) (A1 0 (pv 0)) A7) (A3 (A1 1 (pv 1)) A9)) rfl)))) (Cs (BM (Bs (c:=true) (As (Ao Ac.toXCall (AO T) (hr.mono (by decide)) rfl (A3 (Ah (AY hr 16 (by decide)) (A1 0 (pv 0)) A7) (A3 (A1 1 (pv 1)) A9)) rfl))))))) (A8 (Ap (AZ BY))) AB) (A4 (Be (NM (c:=true) (AY hr 16 (by decide)) (Ah (AY hr 16 (by decide)) (A1 0 (pv 0)) A7) (Ah (AY hr 16 (by decide)) (A1 0 (pv 0)) A7)) (A8 (Ap (AZ BY))) AB) (A8 (Ap (AZ (S2 (mV (hE (Ah (AY hr 16 (by decide)) (A1 0 (pv 0)) A7)) (S1 (As (Ao Ac.toXCall (Ij T) (hr.mono (by decide)) rfl (A3 (Ah (AY hr 16 (by decide)) (A1 0 (pv 0)) A7) A9) rfl)))) (S1 (As (Ao Ac.toXCall (Ij T) (hr.mono (by decide)) rfl (A3 (Ah (AY hr 16 (by decide)) (A1 0 (pv 0)) A7) A9) rfl))))))))))),?_⟩;intro d m hc;have e0:AI ["thing","many"] [d,.int m]=[some (.val d),some (.val (.int m))]:=rfl;rw[e0];have hx:=hc.x;refine Bt ?_;cases d with
 |tup ds =>
  have db:∀e∈ds,Tw e=false:=λ e he=>(hc.2 ds (.inl rfl) e he).x;rcases ds with _|⟨a,_|⟨b,_|⟨l,_|⟨w,_|⟨z,r⟩⟩⟩⟩⟩
  ·rfl
  ·rfl
  ·rfl
  ·rfl
  ·have i0:B9 (.tup [a,b,l,w]) (.int 0)=.ok a:=rfl;have i1:B9 (.tup [a,b,l,w]) (.int 1)=.ok b:=rfl;have i2:B9 (.tup [a,b,l,w]) (.int 2)=.ok l:=rfl;have i3:B9 (.tup [a,b,l,w]) (.int 3)=.ok w:=rfl;have ha:=AH a m (db a (by simp));have hb:=AH b m (db b (by simp));have hl:=Ik l (db l (by simp));have hw:=Ik w (db w (by simp));apply wp_step
   ·rfl
   unfold EW;dsimp only;cases qa:JQ a m with
   |false=>simp_arith[i0,ha,qa,Dx];rfl
   |true =>
    cases qb:JQ b m with
    |false=>simp_arith[i0,i1,ha,hb,qa,qb,Dx];rfl
    |true =>
     apply wp_step
     ·simp_arith[i0,i1,ha,hb,qa,qb,Dx];rfl
     cases a with
     |int x =>
      cases b with
      |int y =>
       have he:Av (.int x) (.int y)=decide (x=y):=by rw[Av];by_cases h:x=y<;>simp[h]
       rw[he];by_cases bX:x=y
       ·simp_arith[i0,i1,decide_eq_true bX];rfl
       ·apply wp_step
        ·simp_arith[i0,i1,decide_eq_false bX];rfl
        rw[decide_eq_false bX];simp_arith[i2,i3,hl,hw];cases Cr l<;>cases JQ l PV<;>cases JQ w PV<;>rfl
      |_=>cases qb
     |_=>cases qa
  ·have ae:¬ (((a::b::l::w::z::r).length:Nat):Int)=4:=by simp only[zp];omega
   simp_arith[decide_eq_false ae];rfl
 |Dq x|ins x n d=>cases hx
 |_=>rfl
noncomputable def Rk:List D->M OT:=zo IT
theorem T5:Txt K mg->D6 P w K mg base "is_road" 3 2 Rk:=(zb IT).1
theorem T6:∀(d:D) (m:Int),cl 1 d->Rk [d,.int m]=.ok (.sh (.bl (EW m d))):=(zb IT).2
theorem Kw:∃F:List D->M OT,(∀ {P w K mg base},Txt K mg->D6 P w K mg base "is_map" 4 1 F)/\(∀d:D,cl 3 d->F [d]=.ok (.sh (.bl (Ds d)))):=by
 refine⟨_,λ T=>B0 (k:=3) T.Yv Ko _ (λ f B7 A outer s H E hr=>(A4 (Be (DW.dt (Dr (BM (Bs (c:=true) (ET (Iv _) rfl T.AX rfl T.Lw (by decide +kernel) (A1 0 (pv 0))))) (Cs (EJ (c:=true) (AY hr 16 (by decide)) (LU rfl T.Rj (A1 0 (pv 0))) A7)))) (A8 (Ap (AZ BY))) AB) (A4 (AJ 1 Ko.nd rfl (Or.inr rfl) (Ah (AY hr 16 (by decide)) (A1 0 (pv 0)) A7)) (A4 (AJ 2 Ko.nd rfl (ye rfl) (Ah (AY hr 16 (by decide)) (A1 0 (pv 0)) A7)) (A4 (Be (DW.dt (Dr (BM (Bs (c:=true) (As (Ao Ac.toXCall (AO T) (hr.mono (by decide)) rfl (A3 (A1 1 (pv 1)) (A3 A7 A9)) rfl)))) (Cs (NM (c:=true) (AY hr 16 (by decide)) (A1 1 (pv 1)) A7)))) (A8 (Ap (AZ BY))) AB) (A4 (Be (DW.dt (Dr (BM (Bs (c:=true) (ET (F6 _) rfl T.AX rfl T.BP (by decide +kernel) (A1 2 (pv 2))))) (Cs (dW (c:=true) (LU rfl T.Rj (A1 2 (pv 2))) A7)))) (A8 (Ap (AZ BY))) AB) (A8 (Ap (AZ (Xg rfl rfl T.eQ (As (FW (NB:=["road","many"]) [none,some 1] rfl (Bk (A1 2 (pv 2))) rfl rfl (Br 0 (by decide) rfl rfl rfl) (λ _ _ _ _=>EK) (λ _ _ _ _=>(As (En (Ao (Ek rfl).toXCall (T5 T) (hr.mono (by decide)) rfl (A3 (A1 0 (pv 0)) (A3 (A1 1 (pv 1)) A9)) rfl)))))))))))))))),?_⟩;intro d hc;have e0:AI ["thing","many","roads"] [d]=[some (.val d),none,none]:=rfl;rw[e0];have hx:=hc.x;refine Bt ?_;cases d with
 |tup ds =>
  have db:∀e∈ds,cl 2 e:=λ e he=>hc.2 ds (.inl rfl) e he;rcases ds with _|⟨n,_|⟨r,_|⟨z,t⟩⟩⟩
  ·rfl
  ·rw[VJ];rfl
  ·have i0:B9 (.tup [n,r]) (.int 0)=.ok n:=rfl;have i1:B9 (.tup [n,r]) (.int 1)=.ok r:=rfl;have hn:=AH n 17 (db n (by simp)).x;have hr:=db r (by simp);have tZ:=hr.x;apply wp_step
   ·rfl
   apply wp_step
   ·simp_arith[i0];rfl
   apply wp_step
   ·simp_arith[i1];rfl
   cases qn:JQ n 17 with
   |false =>
    have e1:Ds (.tup [n,r])=false:=by
     cases n with
     |int m=>cases r with
      |lst rs=>unfold Ds;dsimp only;rw[qn];rfl
      |_=>rfl
     |_=>rfl
    rw[e1];simp_arith[hn,qn,Dx];rfl
   |true =>
    cases n with
    |int m =>
     by_cases hm:m=0
     ·have e1:Ds (.tup [.int m,r])=false:=by
       cases r with
       |lst rs=>unfold Ds;dsimp only;rw[decide_eq_true hm];simp
       |_=>rfl
      rw[e1];simp_arith[hn,qn,Dx,decide_eq_true hm];rfl
     ·apply wp_step
      ·simp_arith[hn,qn,Dx,decide_eq_false hm];rfl
      cases r with
      |lst rs =>
       by_cases hl:rs.length<=60
       ·have bz:¬ (60:Int)<(rs.length:Int):=by omega
        have aB:rs.length<=1000:=by omega
        apply wp_step
        ·simp_arith[decide_eq_false bz];rfl
        simp_arith[if_pos aB];rw[NR (λ d=>.bl (EW m d)) rs]
        ·have e2:(rs.map λ d=>D.bl (EW m d))=(rs.map (EW m)).map D.bl:=by rw[yj];rfl
         rw[e2];unfold Ds;dsimp only;rw[qn,decide_eq_true hl,decide_eq_false hm];simp_arith[Bool.true_and];rfl
        ·intro d hd;have:=T6 d m (hr.2 rs (.inr rfl) d hd);exact⟨_,rfl,rfl,by simp_arith[this]⟩
       ·have bz:(60:Int)<(rs.length:Int):=by omega
        unfold Ds;dsimp only;rw[decide_eq_false hl];simp_arith[decide_eq_true bz,Bool.false_and,Bool.and_false];rfl
      |Dq x|ins x n d=>cases tZ
      |_=>rfl
    |_=>cases qn
  ·have ae:¬ (((n::r::z::t).length:Nat):Int)=2:=by simp only[zp];omega
   rw[SA];simp_arith[decide_eq_false ae];rfl
 |Dq x|ins x n d=>cases hx
 |_=>rfl
noncomputable def Uu:List D->M OT:=zo Kw
theorem W5:Txt K mg->D6 P w K mg base "is_map" 4 1 Uu:=(zb Kw).1
theorem OB:∀d:D,cl 3 d->Uu [d]=.ok (.sh (.bl (Ds d))):=(zb Kw).2
theorem IU:∃F:List D->M OT,(∀ {P w K mg base},Txt K mg->D6 P w K mg base "checked" 5 1 F)/\((∀(m:Nat) (rs:List Road),Ds (Ae m rs)=true->rs.length<=60->F [Ae m rs]=.ok (.tup [.sh (.int m),.lst ((rs.map C2).map .sh)]))/\(∀d:D,cl 3 d->Ds d=false->F [d]=.ex "NoMap")):=by
 refine⟨_,λ T=>B0 (k:=4) T.W0 SU _ (λ f B7 A outer s H E hr=>(A4 (Be (BM (Bs (c:=true) (As (Ao Ac.toXCall (W5 T) (hr.mono (by decide)) rfl (A3 (A1 0 (pv 0)) A9) rfl)))) (A8 (K4 (c:=true) T.dH Ac rfl rfl S0)) AB) (A8 (Ap (Xm (Em (AZ (Ah (AY hr 16 (by decide)) (A1 0 (pv 0)) A7)) (Em (FW (NB:=["road"]) [none] rfl (Bk (Ah (AY hr 16 (by decide)) (A1 0 (pv 0)) A7)) rfl rfl (Br 0 (by decide) rfl rfl rfl) (λ _ _ _ _=>EK) (λ _ _ _ _=>(X0 rfl T.Lw (A1 0 (pv 0))))) FU))))))),?_⟩;refine⟨λ m rs hm hl=>?_,λ d hc ho=>?_⟩
 ·have e0:AI ["thing"] [Ae m rs]=[some (.val (Ae m rs))]:=rfl;rw[e0];have h1:=OB (Ae m rs) (XU (HM Mz (HM (jA jD) XW)));rw[hm] at h1;have n0:B9 (Ae m rs) (.int 0)=.ok (.int m):=rfl;have n1:B9 (Ae m rs) (.int 1)=.ok (.lst (rs.map C2)):=rfl;have aB:(rs.map C2).length<=1000:=by rw[ze];omega
  refine Bt ?_;apply wp_step
  ·simp_arith[h1,Dx];rfl
  simp_arith[n0,n1,if_pos aB];rw[CV C2 (λ r hr=>⟨_,rfl,rfl,rfl⟩)];simp_arith[];exact⟨_,rfl,rfl⟩
 ·have e0:AI ["thing"] [d]=[some (.val d)]:=rfl;rw[e0];have h1:=OB d hc;rw[ho] at h1;simp_arith[h1,Dx];rfl
noncomputable def MT:List D->M OT:=zo IU
theorem MU:Txt K mg->D6 P w K mg base "checked" 5 1 MT:=(zb IU).1
theorem MV:(∀(m:Nat) (rs:List Road),Ds (Ae m rs)=true->rs.length<=60->MT [Ae m rs]=.ok (.tup [.sh (.int m),.lst ((rs.map C2).map .sh)]))/\(∀d:D,cl 3 d->Ds d=false->MT [d]=.ex "NoMap"):=(zb IU).2
theorem MW:∃F:List D->M OT,(∀ {P w K mg base},Txt K mg->D6 P w K mg base "added" 1 2 F)/\(∀a b:Co,F [cst a,cst b]=.ok (.sh (cst (AS a b)))):=by
 refine⟨_,λ T=>B0 (k:=0) T.dD Ys _ (λ f B7 A outer s H E hr=>(A4 (Be (DW.dt (Dr (P5 (c:=true) (A1 0 (pv 0))) (Cs (P5 (c:=true) (A1 1 (pv 1)))))) (A8 (Ap (AZ GF))) AB) (A8 (Ap (AZ (AR (A3 (CO (Ah (AY hr 16 (by decide)) (A1 0 (pv 0)) A7) (Ah (AY hr 16 (by decide)) (A1 1 (pv 1)) A7)) (A3 (CO (Ah (AY hr 16 (by decide)) (A1 0 (pv 0)) A7) (Ah (AY hr 16 (by decide)) (A1 1 (pv 1)) A7)) A9)))))))),?_⟩;intro a b;rcases a with _|⟨a1,a2⟩<;>rcases b with _|⟨b1,b2⟩<;>rfl
noncomputable def Yz:List D->M OT:=zo MW
theorem Rl:Txt K mg->D6 P w K mg base "added" 1 2 Yz:=(zb MW).1
theorem Rm:∀a b:Co,Yz [cst a,cst b]=.ok (.sh (cst (AS a b))):=(zb MW).2
theorem MX:∃F:List D->M OT,(∀ {P w K mg base},Txt K mg->D6 P w K mg base "least" 1 1 F)/\(∀cs:List Co,cs.length<=1000->F [.lst (cs.map cst)]=.ok (.sh (cst (Mp cs)))):=by
 refine⟨_,λ T=>B0 (k:=0) T.dE Yt _ (λ f B7 A outer s H E hr=>(A8 (Ap (AZ (Zo rfl (AY hr 1 (by decide)) rfl T.eR (As (FW (NB:=["cost"]) [none] rfl (Bk (A1 0 (pv 0))) rfl rfl (Br 0 (by decide) rfl rfl rfl) (λ _ _ _ _=>Jk (P6 (c:=true) (A1 0 (pv 0)))) (λ _ _ _ _=>(A1 0 (pv 0))))) GF))))),?_⟩;intro cs hc;have e0:∀x:D,AI ["some"] [x]=[some (.val x)]:=λ x=>rfl;rw[e0];refine Bt ?_;have hl:(cs.map cst).length<=1000:=by rw[ze];exact hc
 have wQ:=XM cs;have v9:=ZU cs;simp_arith[if_pos hl];rw[KS];simp_arith[v9];rfl
noncomputable def T7:List D->M OT:=zo MX
theorem YA:Txt K mg->D6 P w K mg base "least" 1 1 T7:=(zb MX).1
theorem YB:∀cs:List Co,cs.length<=1000->T7 [.lst (cs.map cst)]=.ok (.sh (cst (Mp cs))):=(zb MX).2
theorem G7:∃F:List D->M OT,(∀ {P w K mg base},Txt K mg->D6 P w K mg base "road_cost" 1 1 F)/\(∀r:Road,F [C2 r]=.ok (.sh (cst (Dg r)))):=by
 refine⟨_,λ T=>B0 (k:=0) T.Ra PD _ (λ f B7 A outer s H E hr=>(A4 (Be (P5 (c:=true) (Ah (AY hr 16 (by decide)) (A1 0 (pv 0)) A7)) (A8 (Ap (AZ GF))) AB) (A8 (Ap (AZ (AR (A3 (Ah (AY hr 16 (by decide)) (A1 0 (pv 0)) A7) (A3 A7 A9)))))))),?_⟩;intro r;obtain⟨a,b,l,w⟩:=r;cases l<;>rfl
noncomputable def MY:List D->M OT:=zo G7
theorem G8:Txt K mg->D6 P w K mg base "road_cost" 1 1 MY:=(zb G7).1
theorem G9:∀r:Road,MY [C2 r]=.ok (.sh (cst (Dg r))):=(zb G7).2
theorem EC:∃F:List D->M OT,(∀ {P w K mg base},Txt K mg->D6 P w K mg base "cost_so_far" 1 2 F)/\(∀(A:LA) (p:Int×Int),F [J3 A,pD p]=.ok (.sh (cst (An A p)))):=by
 refine⟨_,λ T=>B0 (k:=0) T.Nq MK _ (λ f B7 A outer s H E hr=>(A4 (Be (Lo (c:=true) (AY hr 16 (by decide)) (A1 1 (pv 1)) (A1 0 (pv 0))) (A8 (Ap (AZ GF))) AB) (A8 (Ap (AZ (Ah (AY hr 16 (by decide)) (Ah (AY hr 16 (by decide)) (A1 0 (pv 0)) (A1 1 (pv 1))) A7)))))),?_⟩;intro A p;have e0:AI ["laid","pair"] [J3 A,pD p]=[some (.val (J3 A)),some (.val (pD p))]:=rfl;rw[e0];refine Bt ?_;have hm:=Pr A p true;unfold An;cases q:CF A p with
 |none =>
  rw[q] at hm;simp_arith[hm,Dx];rfl
 |some v =>
  rw[q] at hm;have hi:=IG q;have h0:B9 (QX v) (.int 0)=.ok (cst (some v.1)):=rfl;apply wp_step
  ·simp_arith[hm,Dx];rfl
  simp_arith[hi,h0];rfl
noncomputable def JO:List D->M OT:=zo EC
theorem Hc:Txt K mg->D6 P w K mg base "cost_so_far" 1 2 JO:=(zb EC).1
theorem Hd:∀(A:LA) (p:Int×Int),JO [J3 A,pD p]=.ok (.sh (cst (An A p))):=(zb EC).2
theorem T8:∃F:OT->List D->M (OT×OT),(∀ {P w K mg base},Txt K mg->NY P w K mg base "lay" 1 4 F)/\(∀(A:LA) (p:Int×Int) (c:Co) (mid:Option Int),A.length<1000->F (Gy A) [pD p,cst c,BE mid]=.ok (Gy (layA A p c mid),.sh .Ay)):=by
 refine⟨_,λ T=>Qw (k:=0) T.oO kC _ (λ f B7 A outer s H E hr=>(A8 (Be (Iz (DW.dt (P7 (P6 (c:=true) (A1 2 (pv 2))) (Lj (DW.dt (Dr (Lo (c:=true) (AY hr 16 (by decide)) (A1 1 (pv 1)) (A1 0 (pv 0))) (Cs (iR (c:=true) (AY hr 16 (by decide)) (A1 2 (pv 2)) (Ah (AY hr 16 (by decide)) (Ah (AY hr 16 (by decide)) (A1 0 (pv 0)) (A1 1 (pv 1))) A7))))))))) (A8 (Pf (AY hr 16 (by decide)) (Bd 0 (pv 0)) (A1 1 (pv 1)) (AR (A3 (A1 2 (pv 2)) (A3 (A1 3 (pv 3)) A9))))) AB))),?_⟩;intro A p c mid hA;have e0:CI ["laid","pair","cost","middle"] (Gy A) [pD p,cst c,BE mid]=[some (.ow (.tree (some 0) (Gy A))),some (.val (pD p)),some (.val (cst c)),some (.val (BE mid))]:=rfl;rw[e0];refine SG ?_;have hm:=Pr A p true;have ub:∀c:Int×Int,D.tup [cst (some c),BE mid]=QX (c,mid):=λ c=>rfl;have hl:(A.map λ kv=>pD kv.1).length<1000:=by rw[ze];exact hA
 have lq:keyOk true (pD p)=true:=rfl;have aj:∀v,(List.map (λ kv=>pD kv.1) (Ex A p v))=(List.map (λ kv=>pD kv.1) (Ex A p v)):=λ _=>rfl;cases c with
 |none =>
  refine D9 (ρ':=_) (by simp_arith[cst,Cr];rfl) ⟨rfl,rfl⟩
 |some c =>
  have cw:Cr (cst (some c))=false:=rfl;cases q:CF A p with
  |none =>
   rw[q] at hm;have el:layA A p (some c) mid=Ex A p (c,mid):=by unfold layA;dsimp only;rw[q]
   rw[el];refine D9 (ρ':=[some (.ow (.tree (some 0) (Gy (Ex A p (c,mid))))),some (.val (pD p)),some (.val (cst (some c))),some (.val (BE mid))]) (by
    simp_arith[cw,hm,Dx,Cj,ub,if_pos (And.intro lq hl),Y4,lq,hl,and_self,if_true];rfl) ⟨rfl,rfl⟩
  |some z =>
   rw[q] at hm;have hi:=IG q;have h0:B9 (QX z) (.int 0)=.ok (cst (some z.1)):=rfl;have hx:=rG c z.1;by_cases hc:c.1<z.1.1\/(c.1=z.1.1/\c.2<z.1.2)
   ·have el:layA A p (some c) mid=Ex A p (c,mid):=by unfold layA;dsimp only;rw[q];dsimp only;rw[if_pos hc]
    rw[decide_eq_true hc] at hx;rw[el];refine D9 (ρ':=[some (.ow (.tree (some 0) (Gy (Ex A p (c,mid))))),some (.val (pD p)),some (.val (cst (some c))),some (.val (BE mid))]) (by
     simp_arith[cw,hm,hi,h0,hx,Dx,Cj,ub,if_pos (And.intro lq hl),Y4,lq,hl,and_self,if_true];rfl) ⟨rfl,rfl⟩
   ·have el:layA A p (some c) mid=A:=by unfold layA;dsimp only;rw[q];dsimp only;rw[if_neg hc]
    rw[decide_eq_false hc] at hx;rw[el];refine D9 (ρ':=_) (by simp_arith[cw,hm,hi,h0,hx,Dx];rfl) ⟨rfl,rfl⟩
noncomputable def oQ:OT->List D->M (OT×OT):=zo T8
theorem YC:Txt K mg->NY P w K mg base "lay" 1 4 oQ:=(zb T8).1
theorem YD:∀(A:LA) (p:Int×Int) (c:Co) (mid:Option Int),A.length<1000->oQ (Gy A) [pD p,cst c,BE mid]=.ok (Gy (layA A p c mid),.sh .Ay):=(zb T8).2
theorem He:∃F:OT->List D->M (OT×OT),(∀ {P w K mg base},Txt K mg->NY P w K mg base "lay_over" 2 3 F)/\(∀(m:Nat) (A:LA) (p:Int) (H:List Int),m<=20->E9 m A->(∀x∈H,0<=x/\x<m)->F (Gy A) [.int p,.lst (H.map D.int)]=.ok (Gy (jE A p H),.sh .Ay)):=by
 refine⟨_,λ T=>Qw (k:=1) T.SV EO _ (λ f B7 A outer s H E hr=>(A8 (Ej Ac.toXCall.own rfl (Bk (A1 2 (pv 2))) (BH 3 EO.nd rfl (ye rfl)) (A8 (Ej Ac.toXCall.own rfl (Bk (A1 2 (pv 2))) (BH 4 EO.nd rfl (ye rfl)) (A8 (Be (EJ (c:=true) (AY hr 16 (by decide)) (A1 3 (pv 3)) (A1 4 (pv 4))) (A4 (AJ 5 EO.nd rfl (ye rfl) (As (GP (Ao Ac.toXCall (Rl T) (hr.mono (by decide)) rfl (A3 (As (Ao Ac.toXCall (Hc T) (hr.mono (by decide)) rfl (A3 (A1 0 (pv 0)) (A3 (AR (A3 (A1 3 (pv 3)) (A3 (A1 1 (pv 1)) A9))) A9)) rfl)) (A3 (As (Ao Ac.toXCall (Hc T) (hr.mono (by decide)) rfl (A3 (A1 0 (pv 0)) (A3 (AR (A3 (A1 1 (pv 1)) (A3 (A1 4 (pv 4)) A9))) A9)) rfl)) A9)) rfl)))) (A8 (Md (Xv Ac.toXCall (YC T) (hr.mono (by decide)) rfl (Bd 0 (pv 0)) (A3 (AR (A3 (A1 3 (pv 3)) (A3 (A1 4 (pv 4)) A9))) (A3 (A1 5 (pv 5)) (A3 (A1 1 (pv 1)) A9))) rfl)))) AB))))))),?_⟩;intro m A p H hm hA hH;have e0:CI ["laid","place","higher","u","w","cost"] (Gy A) [.int p,.lst (H.map D.int)]=[some (.ow (.tree (some 0) (Gy A))),some (.val (.int p)),some (.val (.lst (H.map D.int))),none,none,none]:=rfl;rw[e0];refine SG ?_;simp_arith[];refine Es (λ i ρ=>∃s3 s4 s5:Option Cl,ρ=[some (.ow (.tree (some 0) (Gy ((H.take i).foldl (cP p H) A)))),some (.val (.int p)),some (.val (.lst (H.map D.int))),s3,s4,s5]) ⟨none,none,none,rfl⟩ ?_ ?_
 ·rintro i d ρ hd ⟨s3,s4,s5,rfl⟩;obtain⟨u,hu,rfl⟩:=Cu hd;have vL:=hH u (zr hu);refine⟨_,rfl,?_⟩;obtain⟨B,hB⟩:∃B,B=(H.take i).foldl (cP p H) A:=⟨_,rfl⟩;have gx:E9 m B:=by rw[hB];exact E9.lo hH hA λ x hx=>hH x (yw hx)
  rw[<-hB,Ey hu,<-hB];simp_arith[];refine Es (λ j ρ=>∃s4 s5:Option Cl,ρ=[some (.ow (.tree (some 0) (Gy ((H.take j).foldl (Pp p u) B)))),some (.val (.int p)),some (.val (.lst (H.map D.int))),some (.val (.int u)),s4,s5]) ⟨s4,s5,rfl⟩ ?_ ?_
  ·rintro j d ρ hd ⟨s4,s5,rfl⟩;obtain⟨w,hw,rfl⟩:=Cu hd;have wR:=hH w (zr hw);refine⟨_,rfl,?_⟩;obtain⟨C,hC⟩:∃C,C=(H.take j).foldl (Pp p u) B:=⟨_,rfl⟩;have qd:E9 m C:=by rw[hC];exact E9.ou vL gx λ x hx=>hH x (yw hx)
   rw[Ey hw,<-hC];by_cases e:u=w
   ·have ev:Pp p u C w=C:=by unfold Pp;rw[if_pos e]
    rw[ev];refine D9 (ρ':=_) (by simp_arith[decide_eq_true e];rfl) ⟨_,_,rfl⟩
   ·have ev:Pp p u C w=layA C (u,w) (AS (An C (u,p)) (An C (p,w))) (some p):=by unfold Pp;rw[if_neg e]
    rw[ev];have h1:=Hd C (u,p);have h2:=Hd C (p,w);have h3:=Rm (An C (u,p)) (An C (p,w));have h4:=YD C (u,w) (AS (An C (u,p)) (An C (p,w))) (some p) (qd.len hm);have t1:∀a b:Int,D.tup [.int a,.int b]=pD (a,b):=λ a b=>rfl;have t2:BE (some p)=.int p:=rfl;rw[t2] at h4;have h5:=Kj (ρ:=[some (.ow (.tree (some 0) (Gy C))),some (.val (.int p)),some (.val (.lst (H.map D.int))),some (.val (.int u)),some (.val (.int w)),some (.val (cst (AS (An C (u,p)) (An C (p,w)))))]) (i:=0) rfl rfl h4;simp_arith[decide_eq_false e,if_true];apply wp_step
    ·simp_arith[t1,h1,h2,h3];rfl
    refine D9 (ρ':=_) (by simp_arith[t1,h5];rfl) ⟨_,_,rfl⟩
  ·rintro ρ ⟨s4,s5,rfl⟩;rw[ze,yF];exact⟨_,s4,s5,rfl⟩
 ·rintro ρ ⟨s3,s4,s5,rfl⟩;rw[ze,yF];exact⟨rfl,trivial⟩
noncomputable def OC:OT->List D->M (OT×OT):=zo He
theorem Ro:Txt K mg->NY P w K mg base "lay_over" 2 3 OC:=(zb He).1
theorem Rp:∀(m:Nat) (A:LA) (p:Int) (H:List Int),m<=20->E9 m A->(∀x∈H,0<=x/\x<m)->OC (Gy A) [.int p,.lst (H.map D.int)]=.ok (Gy (jE A p H),.sh .Ay):=(zb He).2
theorem Ga:∃F:List D->M OT,(∀ {P w K mg base},Txt K mg->D6 P w K mg base "laid_arcs" 3 2 F)/\(∀(m:Nat) (rs:List Road) (L:List Int),m<=20->L.Perm (AN m)->(∀r∈rs,Ie m r/\r.a≠r.b)->F [Ae m rs,.lst (L.map D.int)]=.ok (Gy (B6 rs L))):=by
 refine⟨_,λ T=>B0 (k:=2) T.Rb Cv _ (λ f B7 A outer s H E hr=>(A4 (BJ 2 Cv.nd rfl (ye rfl) (Qz true)) (A4 (Ej Ac.toXCall.own rfl (Bk (Ah (AY hr 16 (by decide)) (A1 0 (pv 0)) A7)) (BH 3 Cv.nd rfl (ye rfl)) (A8 (Md (Xv Ac.toXCall (YC T) (hr.mono (by decide)) rfl (Bd 2 (pv 2)) (A3 (AR (A3 (Ah (AY hr 16 (by decide)) (A1 3 (pv 3)) A7) (A3 (Ah (AY hr 16 (by decide)) (A1 3 (pv 3)) A7) A9))) (A3 (As (Ao Ac.toXCall (G8 T) (hr.mono (by decide)) rfl (A3 (A1 3 (pv 3)) A9) rfl)) (A3 GF A9))) rfl)))) (A4 (Ej Ac.toXCall.own rfl (Zm rfl T.Ri (A1 1 (pv 1))) (X6 (n:=2) rfl (Jj (BH 4 Cv.nd rfl (ye rfl)) (Jj (BH 5 Cv.nd rfl (ye rfl)) Tx))) (A8 (Md (Xv Ac.toXCall (Ro T) (hr.mono (by decide)) rfl (Bd 2 (pv 2)) (A3 (A1 5 (pv 5)) (A3 (As (Jx (A1 1 (pv 1)) (Ji (CO (A1 4 (pv 4)) A7)) P8)) A9)) rfl)))) (A8 (FV 2 (pv 2))))))),?_⟩;intro m rs L hm hL Ar;have e0:AI ["net","order","laid","road","rank","place"] [Ae m rs,.lst (L.map D.int)]=[some (.val (Ae m rs)),some (.val (.lst (L.map D.int))),none,none,none,none]:=rfl;rw[e0];refine Bt ?_;have n1:B9 (Ae m rs) (.int 1)=.ok (.lst (rs.map C2)):=rfl;apply wp_step
 ·rfl
 try simp only[zH,zy]
 have gy:∀i,i<=rs.length->E9 m ((rs.take i).foldl (λ A r=>layA A (r.a,r.b) (Dg r) none) []):=λ i hi=>by
  have:=(Pq (m:=m) (rs:=rs.take i) λ r hr=>Ar r (yw hr)).1;exact this
 refine C8 (I:=λ ρ=>∃s3 s4 s5:Option Cl,ρ=[some (.val (Ae m rs)),some (.val (.lst (L.map D.int))),some (.ow (.tree none (Gy (lay0 rs)))),s3,s4,s5]) ?_ ?_
 ·simp_arith[n1];refine Es (λ i ρ=>i<=rs.length/\∃s3 s4 s5:Option Cl,ρ=[some (.val (Ae m rs)),some (.val (.lst (L.map D.int))),some (.ow (.tree none (Gy ((rs.take i).foldl (λ A r=>layA A (r.a,r.b) (Dg r) none) [])))),s3,s4,s5]) ⟨zQ _,none,none,none,rfl⟩ ?_ ?_
  ·rintro i d ρ hd ⟨hi,s3,s4,s5,rfl⟩;obtain⟨r,hr,rfl⟩:=Cu hd;have aj:=(zE.mp hr).1;refine⟨_,rfl,?_⟩;rw[Ey hr];obtain⟨B,hB⟩:∃B,B=(rs.take i).foldl (λ A r=>layA A (r.a,r.b) (Dg r) none) []:=⟨_,rfl⟩;have gx:E9 m B:=by rw[hB];exact gy i hi
   rw[<-hB];have i0:B9 (C2 r) (.int 0)=.ok (.int r.a):=rfl;have i1:B9 (C2 r) (.int 1)=.ok (.int r.b):=rfl;have h1:=G9 r;have h2:=YD B (r.a,r.b) (Dg r) none (gx.len hm);have t1:∀a b:Int,D.tup [.int a,.int b]=pD (a,b):=λ a b=>rfl;have t2:BE none=.Ay:=rfl;rw[t2] at h2;have h5:=Kj (ρ:=[some (.val (Ae m rs)),some (.val (.lst (L.map D.int))),some (.ow (.tree none (Gy B))),some (.val (C2 r)),s4,s5]) (i:=2) rfl rfl h2;refine D9 (ρ':=_) (by simp_arith[i0,i1,h1,t1,h5];rfl) ⟨aj,_,_,_,rfl⟩
  ·rintro ρ ⟨_,s3,s4,s5,rfl⟩;rw[ze,yF];exact⟨s3,s4,s5,rfl⟩
 ·rintro ρ ⟨s3,s4,s5,rfl⟩;have qe:=Pq Ar;refine C8 (I:=λ ρ=>∃s3 s4 s5:Option Cl,ρ=[some (.val (Ae m rs)),some (.val (.lst (L.map D.int))),some (.ow (.tree none (Gy (B6 rs L)))),s3,s4,s5]) ?_ ?_
  ·simp_arith[];refine Es (λ i ρ=>i<=L.length/\∃(G:LA) (s3 s4 s5:Option Cl),ρ=[some (.val (Ae m rs)),some (.val (.lst (L.map D.int))),some (.ow (.tree none (Gy G))),s3,s4,s5]/\E9 m G/\SF G (L.drop i)=SF (lay0 rs) L) ⟨zQ _,lay0 rs,s3,s4,s5,rfl,qe.1,rfl⟩ ?_ ?_
   ·rintro i d ρ hd ⟨hi,G,s3,s4,s5,rfl,hG,jy⟩;obtain⟨d',cL,rfl⟩:=NO hd;obtain⟨p,hp,rfl⟩:=Cu cL;have aj:=(zE.mp hp).1;rw[Nat.zero_add];refine⟨_,rfl,?_⟩;have cj:∀x∈L.drop (i+1),0<=x/\x<m:=λ x hx=>(Ew hL).mp (List.mem_of_mem_drop hx);have ed:L.drop i=p::L.drop (i+1):=by
     rw[List.drop_eq_getElem_cons aj];rw[zg aj] at hp;rw[z0 hp]
    rw[ed,SF] at jy;have h2:=Rp m G p (L.drop (i+1)) hm hG cj;have sl:Xy (some ((i:Int)+1)) none (.lst (L.map D.int))=.ok (.lst (((L.drop (i+1)).map D.int).map .sh)):=by rw[List.map_drop];exact XA _ (i+1)
    have h5:=Kj (ρ:=[some (.val (Ae m rs)),some (.val (.lst (L.map D.int))),some (.ow (.tree none (Gy G))),s3,some (.val (.int i)),some (.val (.int p))]) (i:=2) rfl rfl h2;refine D9 (ρ':=_) (by simp_arith[sl,h5];rfl) ⟨aj,_,_,_,_,rfl,E9.lo cj hG cj,jy⟩
   ·rintro ρ ⟨_,G,s3,s4,s5,rfl,hG,jy⟩;rw[K1,ze,yP,SF] at jy;exact⟨s3,s4,s5,by rw[jy];rfl⟩
  ·rintro ρ ⟨s3,s4,s5,rfl⟩;exact⟨_,rfl,rfl⟩
noncomputable def MZ:List D->M OT:=zo Ga
theorem Gb:Txt K mg->D6 P w K mg base "laid_arcs" 3 2 MZ:=(zb Ga).1
theorem Gd:∀(m:Nat) (rs:List Road) (L:List Int),m<=20->L.Perm (AN m)->(∀r∈rs,Ie m r/\r.a≠r.b)->MZ [Ae m rs,.lst (L.map D.int)]=.ok (Gy (B6 rs L)):=(zb Ga).2
theorem Ge:∃F:List D->M OT,(∀ {P w K mg base},Txt K mg->D6 P w K mg base "arc_costs" 4 2 F)/\(∀(m:Nat) (rs:List Road) (L:List Int),m<=20->L.Perm (AN m)->(∀r∈rs,Ie m r/\r.a≠r.b)->F [Ae m rs,.lst (L.map D.int)]=.ok (oC (IH (B6 rs L)))):=by
 refine⟨_,λ T=>B0 (k:=3) T.Rc JK _ (λ f B7 A outer s H E hr=>(A4 (AJ 2 JK.nd rfl (Or.inr rfl) (As (Ao Ac.toXCall (Gb T) (hr.mono (by decide)) rfl (A3 (A1 0 (pv 0)) (A3 (A1 1 (pv 1)) A9)) rfl))) (A8 (Ap (QL rfl (AY hr 16 (by decide)) rfl T.Yx (As (Oy (NB:=["pair","laid"]) [none,some 2] rfl (R3 (A1 2 (pv 2))) rfl rfl (Br 0 (by decide) rfl rfl rfl) (λ _ _ _ _=>EK) (λ _ _ _ _=>(AR (A3 (A1 0 (pv 0)) (A3 (Ah (AY hr 16 (by decide)) (Ah (AY hr 16 (by decide)) (A1 1 (pv 1)) (A1 0 (pv 0))) A7) A9))))))))))),?_⟩;intro m rs L hm hL Ar;have e0:AI ["net","order","laid"] [Ae m rs,.lst (L.map D.int)]=[some (.val (Ae m rs)),some (.val (.lst (L.map D.int))),none]:=rfl;rw[e0];refine Bt ?_;have h1:=Gd m rs L hm hL Ar;have hA:=(JE hL Ar).1;have hl:=hA.len hm;obtain⟨A,qg⟩:∃A,A=B6 rs L:=⟨_,rfl⟩;rw[<-qg] at h1 hA hl ⊢;apply wp_step
 ·simp_arith[h1];rfl
 try simp only[zH,zy]
 have aB:(A.map λ kv=>pD kv.1).length<=1000:=by rw[ze];omega
 have hd:=jJ (C:=IH A) (by rw[R5];exact hA.nd) (by unfold IH;rw[ze];omega);have hq:(IH A).map (λ kv=>D.tup [pD kv.1,cst (some kv.2)])=A.map λ kv=>D.tup [pD kv.1,cst (some kv.2.1)]:=by unfold IH;rw[yj];rfl
 rw[hq] at hd;simp_arith[Yd,if_pos aB];rw[CV (λ kv:(Int×Int)×((Int×Int)×Option Int)=>D.tup [pD kv.1,cst (some kv.2.1)]) (λ kv qh=>⟨_,rfl,rfl,by
  have i1:=IG (SD hA.nd qh);have i2:B9 (QX kv.2) (.int 0)=.ok (cst (some kv.2.1)):=rfl;simp_arith[i1,i2];try rfl⟩)]
 simp_arith[hd];exact⟨_,rfl,rfl⟩
noncomputable def IV:List D->M OT:=zo Ge
theorem PL:Txt K mg->D6 P w K mg base "arc_costs" 4 2 IV:=(zb Ge).1
theorem PM:∀(m:Nat) (rs:List Road) (L:List Int),m<=20->L.Perm (AN m)->(∀r∈rs,Ie m r/\r.a≠r.b)->IV [Ae m rs,.lst (L.map D.int)]=.ok (oC (IH (B6 rs L))):=(zb Ge).2
theorem IW:∃F:List D->M OT,(∀ {P w K mg base},Txt K mg->D6 P w K mg base "middles" 4 2 F)/\(∀(m:Nat) (rs:List Road) (L:List Int),m<=20->L.Perm (AN m)->(∀r∈rs,Ie m r/\r.a≠r.b)->F [Ae m rs,.lst (L.map D.int)]=.ok (oG (B6 rs L))):=by
 refine⟨_,λ T=>B0 (k:=3) T.W2 ML _ (λ f B7 A outer s H E hr=>(A4 (AJ 2 ML.nd rfl (Or.inr rfl) (As (Ao Ac.toXCall (Gb T) (hr.mono (by decide)) rfl (A3 (A1 0 (pv 0)) (A3 (A1 1 (pv 1)) A9)) rfl))) (A8 (Ap (QL rfl (AY hr 16 (by decide)) rfl T.Yx (As (Oy (NB:=["pair","laid"]) [none,some 2] rfl (R3 (A1 2 (pv 2))) rfl rfl (Br 0 (by decide) rfl rfl rfl) (λ _ _ _ _=>EK) (λ _ _ _ _=>(AR (A3 (A1 0 (pv 0)) (A3 (Ah (AY hr 16 (by decide)) (Ah (AY hr 16 (by decide)) (A1 1 (pv 1)) (A1 0 (pv 0))) A7) A9))))))))))),?_⟩;intro m rs L hm hL Ar;have e0:AI ["net","order","laid"] [Ae m rs,.lst (L.map D.int)]=[some (.val (Ae m rs)),some (.val (.lst (L.map D.int))),none]:=rfl;rw[e0];refine Bt ?_;have h1:=Gd m rs L hm hL Ar;have hA:=(JE hL Ar).1;have hl:=hA.len hm;obtain⟨A,qg⟩:∃A,A=B6 rs L:=⟨_,rfl⟩;rw[<-qg] at h1 hA hl ⊢;apply wp_step
 ·simp_arith[h1];rfl
 try simp only[zH,zy]
 have aB:(A.map λ kv=>pD kv.1).length<=1000:=by rw[ze];omega
 have hd:=jR hA.nd (by omega);simp_arith[Yd,if_pos aB];rw[CV (λ kv:(Int×Int)×((Int×Int)×Option Int)=>D.tup [pD kv.1,BE kv.2.2]) (λ kv qh=>⟨_,rfl,rfl,by
  have i1:=IG (SD hA.nd qh);have i2:B9 (QX kv.2) (.int 1)=.ok (BE kv.2.2):=rfl;simp_arith[i1,i2];try rfl⟩)]
 simp_arith[hd];exact⟨_,rfl,rfl⟩
noncomputable def N0:List D->M OT:=zo IW
theorem T9:Txt K mg->D6 P w K mg base "middles" 4 2 N0:=(zb IW).1
theorem Ta:∀(m:Nat) (rs:List Road) (L:List Int),m<=20->L.Perm (AN m)->(∀r∈rs,Ie m r/\r.a≠r.b)->N0 [Ae m rs,.lst (L.map D.int)]=.ok (oG (B6 rs L)):=(zb IW).2
theorem Hf:∃F:List D->M OT,(∀ {P w K mg base},Txt K mg->D6 P w K mg base "is_order" 2 2 F)/\(∀(m:Nat) (x d:D),m<=60->nZ d->F [.tup [.int m,x],d]=.ok (.sh (.bl (EN m d)))):=by
 refine⟨_,λ T=>B0 (k:=1) T.SW R8 _ (λ f B7 A outer s H E hr=>(A4 (Be (DW.dt (Dr (BM (Bs (c:=true) (ET (F6 _) rfl T.AX rfl T.BP (by decide +kernel) (A1 1 (pv 1))))) (Cs (EJ (c:=true) (AY hr 16 (by decide)) (LU rfl T.Rj (A1 1 (pv 1))) (Ah (AY hr 16 (by decide)) (A1 0 (pv 0)) A7))))) (A8 (Ap (AZ BY))) AB) (A4 (Be (BM (Bs (c:=true) (Xg rfl rfl T.eQ (As (FW (NB:=["place","net"]) [none,some 0] rfl (Bk (A1 1 (pv 1))) rfl rfl (Br 0 (by decide) rfl rfl rfl) (λ _ _ _ _=>EK) (λ _ _ _ _=>(As (En (Ao (Ek rfl).toXCall (AO T) (hr.mono (by decide)) rfl (A3 (A1 0 (pv 0)) (A3 (Ah (AY hr 16 (by decide)) (A1 1 (pv 1)) A7) A9)) rfl))))))))) (A8 (Ap (AZ BY))) AB) (A8 (Ap (AZ (dU (AY hr 16 (by decide)) (As (Vr rfl rfl T.MS (A1 1 (pv 1)))) (As (Jw rfl rfl T.BP rfl T.HQ (Ah (AY hr 16 (by decide)) (A1 0 (pv 0)) A7)))))))))),?_⟩;intro m x d hm ⟨hx,Ar⟩;have e0:AI ["net","thing"] [.tup [.int m,x],d]=[some (.val (.tup [.int m,x])),some (.val d)]:=rfl;rw[e0];have n0:B9 (.tup [.int m,x]) (.int 0)=.ok (.int m):=rfl;refine Bt ?_;cases d with
 |lst xs =>
  obtain⟨hl,bV⟩:=Ar xs rfl;by_cases h1:xs.length=m
  ·have dw:(xs.length:Int)=(m:Int):=by omega
   apply wp_step
   ·simp_arith[n0,decide_eq_true dw];rfl
   have ag:∀ {gt:D->Aa->M Aa} {ft:Aa->M Bool} {fe:Aa->M D} {ρ:Aa},(∀d∈xs,∃ρ1,gt d ρ=.ok ρ1/\ft ρ1=.ok true/\fe ρ1=.ok (.bl (JQ d m)))->AM gt ft fe xs ρ=.ok ((xs.map λ e=>JQ e m).map D.bl):=λ h=>by
    rw[NR (λ d=>.bl (JQ d m)) xs h,yj];rfl
   cases h2:(xs.map λ e=>JQ e m).all id with
   |false =>
    have hf:EN m (.lst xs)=false:=by
     cases q:EN m (.lst xs) with
     |false=>rfl
     |true=>have:=(QQ q).2;rw[h2] at this;cases this
    rw[hf];simp_arith[if_pos hl];rw[ag]
    ·simp_arith[h2];rfl
    ·intro d hd;have:=AH d m (bV d hd);exact⟨_,rfl,rfl,by simp_arith[n0,this]⟩
   |true =>
    obtain⟨L,rfl⟩:=Ua h2;rw[ze] at h1;have hs:=Vq (ns:=L) (by omega);have h3:=Pk (n:=m) (by omega);rw[Mv] at h3;apply wp_step
    ·simp_arith[if_pos hl];rw[ag]
     ·simp_arith[h2];rfl
     ·intro d hd;have:=AH d m (bV d hd);exact⟨_,rfl,rfl,by simp_arith[n0,this]⟩
    simp_arith[n0,hs,h3,XS];rw[Mx];rfl
  ·have dw:¬ (xs.length:Int)=(m:Int):=by omega
   rw[cO h1];simp_arith[n0,decide_eq_false dw];rfl
 |Dq x|ins x n d=>cases hx
 |_=>rfl
noncomputable def OD:List D->M OT:=zo Hf
theorem Rq:Txt K mg->D6 P w K mg base "is_order" 2 2 OD:=(zb Hf).1
theorem KY:∀(m:Nat) (x d:D),m<=60->nZ d->OD [.tup [.int m,x],d]=.ok (.sh (.bl (EN m d))):=(zb Hf).2
theorem D3:∃F:List D->M OT,(∀ {P w K mg base},Txt K mg->D6 P w K mg base "checked_order" 3 2 F)/\((∀(m:Nat) (x:D) (L:List Int),m<=60->L.Perm (AN m)->F [.tup [.int m,x],.lst (L.map .int)]=.ok (.lst ((L.map D.int).map .sh)))/\(∀(m:Nat) (x d:D),m<=60->nZ d->EN m d=false->F [.tup [.int m,x],d]=.ex "NoOrder")):=by
 refine⟨_,λ T=>B0 (k:=2) T.Lc Ks _ (λ f B7 A outer s H E hr=>(A4 (Be (BM (Bs (c:=true) (As (Ao Ac.toXCall (Rq T) (hr.mono (by decide)) rfl (A3 (A1 0 (pv 0)) (A3 (A1 1 (pv 1)) A9)) rfl)))) (A8 (K4 (c:=true) T.W4 Ac rfl rfl S0)) AB) (A8 (Ap (Dw rfl T.BP (A1 1 (pv 1))))))),?_⟩;refine⟨λ m x L hm hL=>?_,λ m x d hm hd ho=>?_⟩
 ·have e0:AI ["net","thing"] [.tup [.int m,x],.lst (L.map .int)]=[some (.val (.tup [.int m,x])),some (.val (.lst (L.map .int)))]:=rfl;rw[e0];have hd:nZ (.lst (L.map D.int)):=⟨rfl,λ xs e=>by
   cases e;exact⟨by rw[ze,My hL];omega,λ e he=>by obtain⟨j,_,rfl⟩:=zJ.mp he;rfl⟩⟩
  have h1:=KY m x _ hm hd;rw[Sy hL] at h1;refine Bt ?_;apply wp_step
  ·simp_arith[h1];rfl
  simp_arith[];exact⟨_,rfl,rfl⟩
 ·have e0:AI ["net","thing"] [.tup [.int m,x],d]=[some (.val (.tup [.int m,x])),some (.val d)]:=rfl;rw[e0];have h1:=KY m x _ hm hd;rw[ho] at h1;simp_arith[h1];rfl
noncomputable def CB:List D->M OT:=zo D3
theorem Kx:Txt K mg->D6 P w K mg base "checked_order" 3 2 CB:=(zb D3).1
theorem Ky:(∀(m:Nat) (x:D) (L:List Int),m<=60->L.Perm (AN m)->CB [.tup [.int m,x],.lst (L.map .int)]=.ok (.lst ((L.map D.int).map .sh)))/\(∀(m:Nat) (x d:D),m<=60->nZ d->EN m d=false->CB [.tup [.int m,x],d]=.ex "NoOrder"):=(zb D3).2
theorem F2:∃F:List D->M OT,(∀ {P w K mg base},Txt K mg->D6 P w K mg base "first_bows" 2 1 F)/\(∀(m:Nat) (rs:List Road),m<=20->(∀r∈rs,Ie m r/\r.a≠r.b)->F [Ae m rs]=.ok (.B8 true ((Bu rs).map pD) ((CJ (Bu rs)).map .sh))):=by
 refine⟨_,λ T=>B0 (k:=1) T.PH EY _ (λ f B7 A outer s H E hr=>(A4 (BJ 1 EY.nd rfl (ye rfl) (Qz true)) (A4 (Ej Ac.toXCall.own rfl (Bk (Ah (AY hr 16 (by decide)) (A1 0 (pv 0)) A7)) (BH 2 EY.nd rfl (ye rfl)) (A8 (Be (P6 (c:=true) (As (Ao Ac.toXCall (G8 T) (hr.mono (by decide)) rfl (A3 (A1 2 (pv 2)) A9) rfl))) (A8 (Pf (AY hr 16 (by decide)) (Bd 1 (pv 1)) (AR (A3 (Ah (AY hr 16 (by decide)) (A1 2 (pv 2)) A7) (A3 (Ah (AY hr 16 (by decide)) (A1 2 (pv 2)) A7) A9))) BY)) AB))) (A8 (FV 1 (pv 1)))))),?_⟩;intro m rs hm Ar;have e0:AI ["net","bows","road"] [Ae m rs]=[some (.val (Ae m rs)),none,none]:=rfl;rw[e0];refine Bt ?_;apply wp_step
 ·rfl
 have n1:B9 (Ae m rs) (.int 1)=.ok (.lst (rs.map C2)):=rfl;refine C8 (I:=λ ρ=>∃s2,ρ=[some (.val (Ae m rs)),some (.ow (.tree none (.B8 true ((Bu rs).map pD) ((CJ (Bu rs)).map .sh)))),s2]) ?_ ?_
 ·simp_arith[n1];refine Es (λ i ρ=>∃s2,ρ=[some (.val (Ae m rs)),some (.ow (.tree none (.B8 true ((Bu (rs.take i)).map pD) ((CJ (Bu (rs.take i))).map .sh)))),s2]) ⟨none,rfl⟩ ?_ ?_
  ·rintro i d ρ hd ⟨s2,rfl⟩;rw[zw] at hd;cases hq:rs[i]? with
   |none=>rw[hq] at hd;cases hd
   |some r =>
    rw[hq] at hd;cases hd;have hr:=zr hq;have et:rs.take (i+1)=rs.take i++[r]:=by rw[xb,hq];rfl
    have eb:Bu (rs.take (i+1))=(match r.l with|none=>Bu (rs.take i)|some _=>Kf (Bu (rs.take i)) (r.a,r.b)):=by
     unfold Bu;rw[et,List.foldl_append];rfl
    have vM:=QO (m:=m) (rs:=rs.take i) λ r' h'=>Ar r' (yw h');have hlen:=vM.len hm;have h1:=G9 r;refine⟨_,rfl,?_⟩;cases hl:r.l with
    |none =>
     have e1:Dg r=none:=by unfold Dg;rw[hl]
     rw[hl] at eb;rw[e1] at h1;simp_arith[h1,cst,Cr];exact⟨_,by rw[eb]⟩
    |some l =>
     have e1:Dg r=some (l,1):=by unfold Dg;rw[hl]
     rw[hl] at eb;rw[e1] at h1;have i0:B9 (C2 r) (.int 0)=.ok (.int r.a):=rfl;have i1:B9 (C2 r) (.int 1)=.ok (.int r.b):=rfl;have kk:keyOk true (D.tup [.int r.a,.int r.b])=true/\((Bu (rs.take i)).map pD).length<1000:=⟨rfl,by rw[ze];exact hlen⟩;have pp:putD ((Bu (rs.take i)).map pD) (CJ (Bu (rs.take i))) (D.tup [.int r.a,.int r.b]) (.bl true)=_:=U9 (Bu (rs.take i)) (r.a,r.b);simp_arith[h1,cst,Cr,Bool.not_false,if_true,i0,i1,if_pos kk,pp];exact⟨_,by rw[eb]⟩
  ·rintro ρ ⟨s2,rfl⟩;rw[ze,yF];exact⟨s2,rfl⟩
 ·rintro ρ ⟨s2,rfl⟩;exact⟨_,rfl,rfl⟩
noncomputable def KZ:List D->M OT:=zo F2
theorem Nu:Txt K mg->D6 P w K mg base "first_bows" 2 1 KZ:=(zb F2).1
theorem Nv:∀(m:Nat) (rs:List Road),m<=20->(∀r∈rs,Ie m r/\r.a≠r.b)->KZ [Ae m rs]=.ok (.B8 true ((Bu rs).map pD) ((CJ (Bu rs)).map .sh)):=(zb F2).2
theorem Dm:∃F:List D->M OT,(∀ {P w K mg base},Txt K mg->D6 P w K mg base "missing_bows" 1 3 F)/\(∀(B:List (Int×Int)) (vs:List D) (L:List Int) (v:Int),L.length<=30->F [.B8 true (B.map pD) vs,.lst (L.map .int),.int v]=.ok (.lst (((AW B L v).map pD).map .sh))):=by
 refine⟨_,λ T=>B0 (k:=0) T.MQ BB _ (λ f B7 A outer s H E hr=>(A4 (Lk (NB:=["u","bows","place"]) 3 [none,some 0,some 2] BB.nd rfl (ye rfl) rfl (Bk (A1 1 (pv 1))) rfl rfl (Br 0 (by decide) rfl rfl rfl) (λ _ _ _ _=>Jk (Sj (c:=true) (AY hr 16 (by decide)) (AR (A3 (A1 0 (pv 0)) (A3 (A1 2 (pv 2)) A9))) (A1 1 (pv 1)))) (λ _ _ _ _=>(A1 0 (pv 0)))) (A4 (Lk (NB:=["w","bows","place"]) 4 [none,some 0,some 2] BB.nd rfl (ye rfl) rfl (Bk (A1 1 (pv 1))) rfl rfl (Br 0 (by decide) rfl rfl rfl) (λ _ _ _ _=>Jk (Sj (c:=true) (AY hr 16 (by decide)) (AR (A3 (A1 2 (pv 2)) (A3 (A1 0 (pv 0)) A9))) (A1 1 (pv 1)))) (λ _ _ _ _=>(A1 0 (pv 0)))) (A4 (BJ 5 BB.nd rfl (ye rfl) (M6 FU)) (A4 (Ej Ac.toXCall.own rfl (Bk (A1 3 (pv 3))) (BH 6 BB.nd rfl (Or.inr rfl)) (A8 (Xr (Bd 5 (pv 5)) (by exact (FW (NB:=["w","u","bows"]) [none,some 6,some 0] rfl (Bk (A1 4 (pv 4))) rfl rfl (Br 0 (by decide) rfl rfl rfl) (λ _ _ _ _=>Jk (DW.dt (P7 (EJ (c:=true) (AY hr 16 (by decide)) (A1 1 (pv 1)) (A1 0 (pv 0))) (Lj (Lo (c:=true) (AY hr 16 (by decide)) (AR (A3 (A1 1 (pv 1)) (A3 (A1 0 (pv 0)) A9))) (A1 2 (pv 2))))))) (λ _ _ _ _=>(AR (A3 (A1 1 (pv 1)) (A3 (A1 0 (pv 0)) A9))))))))) (A8 (FV 5 (pv 5)))))))),?_⟩;intro B vs L v hl;have e0:AI ["bows","left","place","ahead","behind","missing","u"] [.B8 true (B.map pD) vs,.lst (L.map .int),.int v]=[some (.val (.B8 true (B.map pD) vs)),some (.val (.lst (L.map .int))),some (.val (.int v)),none,none,none,none]:=rfl;rw[e0];refine Bt ?_;have hL:(L.map D.int).length<=1000:=by rw[ze];omega
 apply wp_step
 ·simp_arith[if_pos hL];rw[CU (λ u=>decide ((u,v)∈B)) D.int (λ u hu=>⟨_,rfl,by simp[iM,iN,HI,zH,zy,M.A6,DH,DF,F8,Fl,Fm,Fn,Hx,Di,Et,Mh,Fb,Fc,DJ,O0,Hu,Hv,Fd,Vf,DK,DL,CT,K6,BN,K7,Fe,Ff,DM,O1,F9,D8,toCl_list,toCl_listP,toCl_dct,Hy,Fo,Fp,Fq,Fs,Hz,Ft,Fu,Fv,eA,Zx,Fg,O2,Fh,O3,Fi,Fj,Hw,O4,kN,kO,Vi,Vk,Vl,Vm,Vn,Vo,toCl_nil,GI,Gn,Ni,K8,DQ,HA,HB,Fw,Fx,HC,HD,HE,HF,HG,Fy,Fz,FA,FC,DR,DU,DV,DY,DZ,FD,E5,E6,O5,O6,O7,O8,O9,E7,ite_tt,ite_ff,Bool.not_true,Bool.not_false,yJ,zP,CY,FF,FG,Vh,VI,Vg,VM,VN,VO,HN,Kh,IF,Ki,Cj,Ea,HP,Kd,VR,Ox,Kk,Pn],λ _=>by simp_arith[]⟩)];simp_arith[];rfl
 apply wp_step
 ·simp_arith[if_pos hL];rw[CU (λ w=>decide ((v,w)∈B)) D.int (λ u hu=>⟨_,rfl,by simp[iM,iN,HI,zH,zy,M.A6,DH,DF,F8,Fl,Fm,Fn,Hx,Di,Et,Mh,Fb,Fc,DJ,O0,Hu,Hv,Fd,Vf,DK,DL,CT,K6,BN,K7,Fe,Ff,DM,O1,F9,D8,toCl_list,toCl_listP,toCl_dct,Hy,Fo,Fp,Fq,Fs,Hz,Ft,Fu,Fv,eA,Zx,Fg,O2,Fh,O3,Fi,Fj,Hw,O4,kN,kO,Vi,Vk,Vl,Vm,Vn,Vo,toCl_nil,GI,Gn,Ni,K8,DQ,HA,HB,Fw,Fx,HC,HD,HE,HF,HG,Fy,Fz,FA,FC,DR,DU,DV,DY,DZ,FD,E5,E6,O5,O6,O7,O8,O9,E7,ite_tt,ite_ff,Bool.not_true,Bool.not_false,yJ,zP,CY,FF,FG,Vh,VI,Vg,VM,VN,VO,HN,Kh,IF,Ki,Cj,Ea,HP,Kd,VR,Ox,Kk,Pn],λ _=>by simp_arith[]⟩)];simp_arith[];rfl
 apply wp_step
 ·rfl
 try simp only[zH,zy]
 have uc:((L.filter λ w=>decide ((v,w)∈B)).map D.int).length<=1000:=by rw[ze];exact yk (List.length_filter_le _ _) (by omega)
 have hlen:=VD B L v;have wS:L.length*L.length<=30*30:=Nat.mul_le_mul hl hl;generalize hA:L.filter (λ u=>decide ((u,v)∈B))=A;generalize hW:L.filter (λ w=>decide ((v,w)∈B))=W at uc ⊢;obtain⟨G,hG⟩:∃G:Int->List (Int×Int),G=λ u=>((W.filter λ w=>decide (u≠w) && !decide ((u,w)∈B)).map λ w=>(u,w)):=⟨_,rfl⟩;have eg:AW B L v=A.flatMap G:=by unfold AW;rw[hA,hW,hG]
 refine C8 (I:=λ ρ=>∃s6,ρ=[some (.val (.B8 true (B.map pD) vs)),some (.val (.lst (L.map .int))),some (.val (.int v)),some (.val (.lst (A.map .int))),some (.val (.lst (W.map .int))),some (.own ((A.flatMap G).map pD)),s6]) ?_ ?_
 ·simp_arith[];refine Es (λ i ρ=>∃s6,ρ=[some (.val (.B8 true (B.map pD) vs)),some (.val (.lst (L.map .int))),some (.val (.int v)),some (.val (.lst (A.map .int))),some (.val (.lst (W.map .int))),some (.own (((A.take i).flatMap G).map pD)),s6]) ⟨none,rfl⟩ ?_ ?_
  ·rintro i d ρ hd ⟨s6,rfl⟩;obtain⟨u,hu,rfl⟩:=Cu hd;have et:A.take (i+1)=A.take i++[u]:=by rw[xb,hu];rfl
   refine⟨_,rfl,?_⟩;have hb:(((A.take i).flatMap G).map pD).length+((G u).map pD).length<=1000:=by
    have h1:((A.take (i+1)).flatMap G).length<=(A.flatMap G).length:=by
     conv=>rhs;rw[<-List.take_append_drop (i+1) A,List.flatMap_append,zM]
     omega
    rw[et,List.flatMap_append,zM] at h1;rw[eg] at hlen;simp only[List.flatMap_cons,List.flatMap_nil,zX] at h1;rw[ze,ze];omega
   have h7:(((W.filter λ w=>decide (u≠w) && !decide ((u,w)∈B)).map λ w=>(u,w)).map pD)=(W.filter λ w=>decide (u≠w) && !decide ((u,w)∈B)).map λ w=>D.tup [.int u,.int w]:=by rw[yj];rfl
   refine D9 (ρ':=[some (.val (.B8 true (B.map pD) vs)),some (.val (.lst (L.map .int))),some (.val (.int v)),some (.val (.lst (A.map .int))),some (.val (.lst (W.map .int))),some (.own (((A.take (i+1)).flatMap G).map pD)),some (.val (.int u))]) ?_ ⟨_,rfl⟩;simp_arith[if_pos uc];rw[CU (λ w=>decide (u≠w) && !decide ((u,w)∈B)) (λ w=>D.tup [.int u,.int w]) (λ w hw=>⟨_,rfl,by
    simp[iM,iN,HI,zH,zy,M.A6,DH,DF,F8,Fl,Fm,Fn,Hx,Di,Et,Mh,Fb,Fc,DJ,O0,Hu,Hv,Fd,Vf,DK,DL,CT,K6,BN,K7,Fe,Ff,DM,O1,F9,D8,toCl_list,toCl_listP,toCl_dct,Hy,Fo,Fp,Fq,Fs,Hz,Ft,Fu,Fv,eA,Zx,Fg,O2,Fh,O3,Fi,Fj,Hw,O4,kN,kO,Vi,Vk,Vl,Vm,Vn,Vo,toCl_nil,GI,Gn,Ni,K8,DQ,HA,HB,Fw,Fx,HC,HD,HE,HF,HG,Fy,Fz,FA,FC,DR,DU,DV,DY,DZ,FD,E5,E6,O5,O6,O7,O8,O9,E7,ite_tt,ite_ff,Bool.not_true,Bool.not_false,yJ,zP,CY,FF,FG,Vh,VI,Vg,VM,VN,VO,HN,Kh,IF,Ki,Cj,Ea,HP,Kd,VR,Ox,Kk,Pn,WV,J2,AG,Av];by_cases h:u=w<;>simp[h],λ _=>by simp_arith[]⟩)]
   rw[<-h7];have vN:((W.filter λ w=>decide (u≠w) && !decide ((u,w)∈B)).map λ w=>(u,w))=G u:=by rw[hG]
   rw[vN];simp_arith[if_pos hb];rw[et,List.flatMap_append,List.flatMap_cons,List.flatMap_nil,zX,<-ya]
  ·rintro ρ ⟨s6,rfl⟩;rw[ze,yF];exact⟨s6,rfl⟩
 ·rintro ρ ⟨s6,rfl⟩;rw[eg];exact⟨_,rfl,rfl⟩
noncomputable def Il:List D->M OT:=zo Dm
theorem Gu:Txt K mg->D6 P w K mg base "missing_bows" 1 3 Il:=(zb Dm).1
theorem Gv:∀(B:List (Int×Int)) (vs:List D) (L:List Int) (v:Int),L.length<=30->Il [.B8 true (B.map pD) vs,.lst (L.map .int),.int v]=.ok (.lst (((AW B L v).map pD).map .sh)):=(zb Dm).2
theorem Hg:∃F:List D->M OT,(∀ {P w K mg base},Txt K mg->D6 P w K mg base "lightest" 2 2 F)/\(∀(B:List (Int×Int)) (vs:List D) (L:List Int),L≠[]->L.length<=30->F [.B8 true (B.map pD) vs,.lst (L.map .int)]=.ok (.sh (.int (Bf B L)))):=by
 refine⟨_,λ T=>B0 (k:=1) T.SX R9 _ (λ f B7 A outer s H E hr=>(A8 (Ap (AZ (Ah (AY hr 16 (by decide)) (ZG rfl (AY hr 16 (by decide)) rfl T.eR (As (FW (NB:=["place","bows","left"]) [none,some 0,some 1] rfl (Bk (A1 1 (pv 1))) rfl rfl (Br 0 (by decide) rfl rfl rfl) (λ _ _ _ _=>EK) (λ _ _ _ _=>(AR (A3 (LU rfl T.Rj (As (En (Ao (Ek rfl).toXCall (Gu T) (hr.mono (by decide)) rfl (A3 (A1 1 (pv 1)) (A3 (A1 2 (pv 2)) (A3 (A1 0 (pv 0)) A9))) rfl)))) (A3 (A1 0 (pv 0)) A9))))))) A7))))),?_⟩;intro B vs L ae hl;have e0:AI ["bows","left"] [.B8 true (B.map pD) vs,.lst (L.map .int)]=[some (.val (.B8 true (B.map pD) vs)),some (.val (.lst (L.map .int)))]:=rfl;rw[e0];refine Bt ?_;have hL:(L.map D.int).length<=1000:=by rw[ze];omega
 simp_arith[if_pos hL];rw[CV (λ p=>D.tup ([((AW B L p).length:Int),p].map D.int)) (λ p hp=>⟨_,rfl,rfl,by
  have h1:=Gv B vs L p hl;simp_arith[h1,UR,ze,zh,List.map_nil]⟩)]
 simp_arith[TQ];rw[Oj];have hb:=VE (λ p=>D.tup ([((AW B L p).length:Int),p].map D.int)) (L.map λ p=>(p,[((AW B L p).length:Int),p]));rw[yj] at hb;have e2:((λ b:Int×List Int=>(D.tup ([((AW B L b.1).length:Int),b.1].map D.int),b.2)) ∘ λ p=>(p,[((AW B L p).length:Int),p]))=λ p=>(D.tup ([((AW B L p).length:Int),p].map D.int),[((AW B L p).length:Int),p]):=rfl;rw[e2] at hb;dsimp only;rw[hb];unfold Bf;cases q:AQ (L.map λ p=>(p,[((AW B L p).length:Int),p])) with
 |none=>exact (Me (λ z=>ae (List.map_eq_nil_iff.mp z)) q).elim
 |some k =>
  simp only[yt,M.A6];rfl
noncomputable def OE:List D->M OT:=zo Hg
theorem Rr:Txt K mg->D6 P w K mg base "lightest" 2 2 OE:=(zb Hg).1
theorem Rt:∀(B:List (Int×Int)) (vs:List D) (L:List Int),L≠[]->L.length<=30->OE [.B8 true (B.map pD) vs,.lst (L.map .int)]=.ok (.sh (.int (Bf B L))):=(zb Hg).2
theorem Kz:∃F:List D->M OT,(∀ {P w K mg base},Txt K mg->D6 P w K mg base "ranked" 3 1 F)/\(∀(m:Nat) (rs:List Road),m<=20->(∀r∈rs,Ie m r/\r.a≠r.b)->F [Ae m rs]=.ok (.lst (((Sx m (Bu rs) (AN m)).map D.int).map .sh))):=by
 refine⟨_,λ T=>B0 (k:=2) T.Yw Eb _ (λ f B7 A outer s H E hr=>(A4 (BJ 1 Eb.nd rfl (ye rfl) (Ao Ac.toXCall (Nu T) (hr.mono (by decide)) rfl (A3 (A1 0 (pv 0)) A9) rfl)) (A4 (BJ 2 Eb.nd rfl (ye rfl) (Jw rfl rfl T.BP rfl T.HQ (Ah (AY hr 16 (by decide)) (A1 0 (pv 0)) A7))) (A4 (BJ 3 Eb.nd rfl (ye rfl) (M6 FU)) (A4 (Qs Ac.toXCall.own (Iz (Bs (c:=true) (A1 2 (pv 2)))) (A4 (AJ 4 Eb.nd rfl (ye rfl) (As (GP (Ao Ac.toXCall (Rr T) (hr.mono (by decide)) rfl (A3 (A1 1 (pv 1)) (A3 (A1 2 (pv 2)) A9)) rfl)))) (A4 (Ej Ac.toXCall.own rfl (Bk (As (GP (Ao Ac.toXCall (Gu T) (hr.mono (by decide)) rfl (A3 (A1 1 (pv 1)) (A3 (A1 2 (pv 2)) (A3 (A1 4 (pv 4)) A9))) rfl)))) (BH 5 Eb.nd rfl (ye rfl)) (A8 (Pf (AY hr 16 (by decide)) (Bd 1 (pv 1)) (A1 5 (pv 5)) BY))) (A4 (Vb (Bd 2 (pv 2)) (A1 4 (pv 4))) (A8 (UU 3 (pv 3) (A1 4 (pv 4)))))))) (A8 (FV 3 (pv 3)))))))),?_⟩;intro m rs hm Ar;have e0:AI ["net","bows","left","order","place","bow"] [Ae m rs]=[some (.val (Ae m rs)),none,none,none,none,none]:=rfl;rw[e0];refine Bt ?_;have h1:=Nv m rs hm Ar;have n0:B9 (Ae m rs) (.int 0)=.ok (.int m):=rfl;have h2:=Pk (n:=m) (by omega);rw[Mv] at h2;apply wp_step
 ·simp_arith[h1];rfl
 apply wp_step
 ·simp_arith[n0,h2];rfl
 apply wp_step
 ·rfl
 try simp only[zH,zy]
 refine C8 (I:=λ ρ=>∃s1 s2 s4 s5,ρ=[some (.val (Ae m rs)),s1,s2,some (.own ((Sx m (Bu rs) (AN m)).map D.int)),s4,s5]) ?_ ?_
 ·refine QB (lt:=λ a b:Nat=>a<b) (λ n ρ=>∃(B:List (Int×Int)) (L O:List Int) (s4 s5:Option Cl),ρ=[some (.val (Ae m rs)),some (.ow (.tree none (.B8 true (B.map pD) ((CJ B).map .sh)))),some (.own (L.map D.int)),some (.own (O.map D.int)),s4,s5]/\L.length=n/\n+O.length=m/\C9 m B/\(∀p∈L,0<=p/\p<(m:Int))/\O++Sx n B L=Sx m (Bu rs) (AN m)) (Nat.lt_wfRel.wf.apply m) ⟨Bu rs,AN m,[],none,none,rfl,FE m,by simp,QO Ar,λ p hp=>JB.mp hp,rfl⟩ ?_;rintro n ρ ⟨B,L,O,s4,s5,rfl,hn,hO,hB,hL,de⟩;by_cases jz:L=[]
  ·subst jz;left;have:n=0:=by simpa using hn.symm
   subst this;rw[Sx,zX] at de;exact⟨rfl,⟨_,_,_,_,by rw[de]⟩⟩
  ·right;have j0:L.length<=30:=by omega
   have q1:=Rt B (CJ B) L jz j0;have q2:=Gv B (CJ B) L (Bf B L) j0;obtain⟨ba,_⟩:=Om (B:=B) jz;have vP:0<L.length:=List.length_pos_of_mem ba;obtain⟨n',rfl⟩:∃n',n=n'+1:=⟨n-1,by omega⟩;rw[Sx,if_neg jz] at de;constructor
   ·simp_arith[Xz];cases L with
    |nil=>exact (jz rfl).elim
    |cons x r=>rfl
   apply wp_step
   ·simp_arith[q1,iO ZJ];rfl
   try simp only[zH,zy]
   have jr:Jn ((AW B L (Bf B L)).map pD)=true:=QD Sw _;refine C8 (I:=λ ρ=>∃s5,ρ=[some (.val (Ae m rs)),some (.ow (.tree none (.B8 true ((BZ B (AW B L (Bf B L))).map pD) ((CJ (BZ B (AW B L (Bf B L)))).map .sh)))),some (.own (L.map D.int)),some (.own (O.map D.int)),some (.val (.int (Bf B L))),s5]) ?_ ?_
   ·simp_arith[q2,ZI jr];refine Es (λ i ρ=>∃s5,ρ=[some (.val (Ae m rs)),some (.ow (.tree none (.B8 true ((BZ B ((AW B L (Bf B L)).take i)).map pD) ((CJ (BZ B ((AW B L (Bf B L)).take i))).map .sh)))),some (.own (L.map D.int)),some (.own (O.map D.int)),some (.val (.int (Bf B L))),s5]) ⟨s5,rfl⟩ ?_ ?_
    ·rintro i d ρ hd ⟨s5,rfl⟩;obtain⟨p,hp,rfl⟩:=Cu hd;refine⟨_,rfl,?_⟩;have vQ:C9 m (BZ B ((AW B L (Bf B L)).take i)):=hB.BZ λ q hq=>by
      have:=Ol (yw hq);exact⟨this.2.2,hL _ this.1,hL _ this.2.1⟩
     have kk:keyOk true (pD p)=true/\((BZ B ((AW B L (Bf B L)).take i)).map pD).length<1000:=⟨rfl,by rw[ze];exact vQ.len hm⟩;have et:(AW B L (Bf B L)).take (i+1)=(AW B L (Bf B L)).take i++[p]:=by rw[xb,hp];rfl
     have ea:BZ B ((AW B L (Bf B L)).take (i+1))=Kf (BZ B ((AW B L (Bf B L)).take i)) p:=by
      unfold BZ;rw[et,List.foldl_append];rfl
     simp_arith[if_pos kk,U9];exact⟨_,by rw[ea]⟩
    ·rintro ρ ⟨s5,rfl⟩;rw[ze,yF];exact⟨s5,rfl⟩
   ·rintro ρ ⟨s5,rfl⟩;have vR:(O.map D.int).length<1000:=by rw[ze];omega
    apply wp_step
    ·simp_arith[DD,if_pos ba];rfl
    refine D9 (ρ':=[some (.val (Ae m rs)),some (.ow (.tree none (.B8 true ((BZ B (AW B L (Bf B L))).map pD) ((CJ (BZ B (AW B L (Bf B L)))).map .sh)))),some (.own ((L.erase (Bf B L)).map D.int)),some (.own ((O++[Bf B L]).map D.int)),some (.val (.int (Bf B L))),s5]) ?_ ?_
    ·simp_arith[if_pos vR,ya,zh,List.map_nil]
    ·have hlen:=List.length_erase_of_mem ba;refine⟨n',by omega,_,_,_,_,_,rfl,by omega,by rw[zM];simp;omega,hB.BZ λ q hq=>?_,λ p hp=>hL p (List.mem_of_mem_erase hp),?_⟩
     ·have:=Ol hq;exact⟨this.2.2,hL _ this.1,hL _ this.2.1⟩
     ·rw[yn];exact de
 ·rintro ρ ⟨s1,s2,s4,s5,rfl⟩;exact⟨_,rfl,rfl⟩
noncomputable def Uv:List D->M OT:=zo Kz
theorem OF:Txt K mg->D6 P w K mg base "ranked" 3 1 Uv:=(zb Kz).1
theorem OG:∀(m:Nat) (rs:List Road),m<=20->(∀r∈rs,Ie m r/\r.a≠r.b)->Uv [Ae m rs]=.ok (.lst (((Sx m (Bu rs) (AN m)).map D.int).map .sh)):=(zb Kz).2
theorem F3:∃F:List D->M OT,(∀ {P w K mg base},Txt K mg->D6 P w K mg base "costs_from" 2 2 F)/\(∀(m s:Nat) (rs:List Road),s<m->m<=900->(∀r∈rs,Ie m r)->∃cs:List Co,Right m s rs cs/\F [Ae m rs,.int s]=.ok (.lst ((cs.map cst).map .sh))):=by
 refine⟨_,λ T=>B0 (k:=1) T.PJ Bo _ (λ f B7 A outer s H E hr=>(A4 (BJ 2 Bo.nd rfl (ye rfl) (iQ GF (Ah (AY hr 16 (by decide)) (A1 0 (pv 0)) A7))) (A4 (Xd 2 (pv 2) (AR (A3 A7 (A3 A7 A9))) (A1 1 (pv 1))) (A4 (AJ 3 Bo.nd rfl (ye rfl) BY) (A4 (Qs Ac.toXCall.own (Bs (c:=true) (A1 3 (pv 3))) (A4 (AJ 3 Bo.nd rfl (ye rfl) BY) (A8 (Ej Ac.toXCall.own rfl (Bk (Ah (AY hr 16 (by decide)) (A1 0 (pv 0)) A7)) (BH 4 Bo.nd rfl (ye rfl)) (A4 (AJ 5 Bo.nd rfl (ye rfl) (As (GP (Ao Ac.toXCall (YA T) (hr.mono (by decide)) rfl (A3 (OZ (A3 (Ah (AY hr 16 (by decide)) (A1 2 (pv 2)) (Ah (AY hr 16 (by decide)) (A1 4 (pv 4)) A7)) (A3 (As (Ao Ac.toXCall (Rl T) (hr.mono (by decide)) rfl (A3 (Ah (AY hr 16 (by decide)) (A1 2 (pv 2)) (Ah (AY hr 16 (by decide)) (A1 4 (pv 4)) A7)) (A3 (As (Ao Ac.toXCall (G8 T) (hr.mono (by decide)) rfl (A3 (A1 4 (pv 4)) A9) rfl)) A9)) rfl)) A9))) A9) rfl)))) (A8 (Be (Iz (EJ (c:=true) (AY hr 16 (by decide)) (A1 5 (pv 5)) (Ah (AY hr 16 (by decide)) (A1 2 (pv 2)) (Ah (AY hr 16 (by decide)) (A1 4 (pv 4)) A7)))) (A4 (Xd 2 (pv 2) (A1 5 (pv 5)) (Ah (AY hr 16 (by decide)) (A1 4 (pv 4)) A7)) (A8 (AJ 3 Bo.nd rfl (ye rfl) BY))) AB))))))) (A8 (FV 2 (pv 2)))))))),?_⟩;intro m s rs hs hm Ar;have e0:AI ["net","start","costs","changed","road","cost"] [Ae m rs,.int s]=[some (.val (Ae m rs)),some (.val (.int s)),none,none,none,none]:=rfl;rw[e0];refine (λ h:∃t,_/\∃cs:List Co,Right m s rs cs/\t=.lst ((cs.map cst).map .sh)=>by
  obtain⟨t,h1,cs,h2,rfl⟩:=h;exact⟨cs,h2,h1⟩) (TU ?_)
 have n0:B9 (Ae m rs) (.int 0)=.ok (.int m):=rfl;have n1:B9 (Ae m rs) (.int 1)=.ok (.lst (rs.map C2)):=rfl;have j1:=XB (d:=.Ay) (n:=m) (by omega);have qj:zD m D.Ay=(zD m (none:Co)).map cst:=by rw[List.map_replicate];rfl
 rw[qj] at j1;apply wp_step
 ·simp_arith[n0,j1];rfl
 try simp only[zH,zy]
 have c4:=Ub (i:=2) (ρ:=[some (.val (Ae m rs)),some (.val (.int s)),some (.own ((zD m (none:Co)).map cst)),none,none,none]) (d:=.tup [.int 0,.int 0]) (p:=(s:Int)) rfl (by omega) (by rw[ze,List.length_replicate];omega);have gz:((zD m (none:Co)).map cst).set (s:Int).toNat (.tup [.int 0,.int 0])=((zD m none).set s (some (0,0))).map cst:=by rw[y9,List.map_set];rfl
 rw[gz] at c4;apply wp_step
 ·simp_arith[c4];rfl
 try simp only[zH,zy]
 apply wp_step
 ·rfl
 try simp only[zH,zy]
 refine C8 (I:=λ ρ=>∃(cs:List Co) (s3 s4 s5:Option Cl),ρ=[some (.val (Ae m rs)),some (.val (.int s)),some (.own (cs.map cst)),s3,s4,s5]/\Right m s rs cs) ?_ ?_
 ·refine QB (lt:=rH) (λ z ρ=>∃(s4 s5:Option Cl),ρ=[some (.val (Ae m rs)),some (.val (.int s)),some (.own (z.1.map cst)),some (.val (.bl z.2)),s4,s5]/\Good m s rs z.1/\(z.2=false->Right m s rs z.1)) (jL _) ⟨none,none,rfl,Su rs hs,λ e=>by cases e⟩ ?_;rintro ⟨cs,b⟩ ρ ⟨s4,s5,rfl,g,hR⟩;cases b with
  |false=>exact .inl ⟨rfl,cs,_,s4,s5,rfl,hR rfl⟩
  |true =>
   refine .inr ⟨rfl,?_⟩;apply wp_step
   ·rfl
   try simp only[zH,zy]
   simp_arith[n1];refine Es (λ i ρ=>∃(a7:List Co) (ch:Bool) (s4 s5:Option Cl),ρ=[some (.val (Ae m rs)),some (.val (.int s)),some (.own (a7.map cst)),some (.val (.bl ch)),s4,s5]/\Good m s rs a7/\(ch=true->N8 ltN a7 cs)/\(ch=false->a7=cs/\∀r∈rs.take i,Ic (atC cs r.b) (AS (atC cs r.a) (Dg r))=atC cs r.b)) ⟨cs,false,s4,s5,rfl,g,(λ h=>by cases h),λ _=>⟨rfl,λ r hr=>by rw[List.take_zero] at hr;cases hr⟩⟩ ?_ ?_
   ·rintro i d ρ hd ⟨a7,ch,s4,s5,rfl,g1,h1,h2⟩;obtain⟨r,hq,rfl⟩:=Cu hd;have hr:=zr hq;have ok:=Ar r hr;obtain⟨g2,_,g4,g5⟩:=VA g1 hr Ar;have ie:r.b<a7.length:=by rw[g1.len];exact ok.b1
    have vS:r.a<a7.length:=by rw[g1.len];exact ok.a1
    have r0:B9 (C2 r) (.int 0)=.ok (.int r.a):=rfl;have r1:B9 (C2 r) (.int 1)=.ok (.int r.b):=rfl;have x0:B9 (.lst (a7.map cst)) (.int r.a)=.ok (cst (atC a7 r.a)):=Ms ok.a0 vS;have x1:B9 (.lst (a7.map cst)) (.int r.b)=.ok (cst (atC a7 r.b)):=Ms ok.b0 ie;have vT:=G9 r;have vU:=Rm (atC a7 r.a) (Dg r);have hle:T7 [.lst [cst (atC a7 r.b),cst (AS (atC a7 r.a) (Dg r))]]=.ok (.sh (cst (Ic (atC a7 r.b) (AS (atC a7 r.a) (Dg r))))):=YB [atC a7 r.b,AS (atC a7 r.a) (Dg r)] (by simp);have ae:=ZZ (Ic (atC a7 r.b) (AS (atC a7 r.a) (Dg r))) (atC a7 r.b);refine⟨_,rfl,?_⟩;apply wp_step
    ·simp_arith[r0,r1,x0,x1,vT,vU,hle];rfl
    try simp only[zH,zy]
    by_cases hc:Ic (atC a7 r.b) (AS (atC a7 r.a) (Dg r))=atC a7 r.b
    ·rw[decide_eq_true hc] at ae;refine D9 (ρ':=_) (by simp_arith[r1,x1,ae];rfl) ⟨a7,ch,_,_,rfl,g1,h1,λ hf=>?_⟩;obtain⟨e1,e2⟩:=h2 hf;subst e1;refine⟨rfl,λ r' cC=>?_⟩;rw[xb,hq] at cC;rcases zL.mp cC with cC|cC
     ·exact e2 r' cC
     ·have:r'=r:=by simpa using cC
      rw[this];exact hc
    ·rw[decide_eq_false hc] at ae;have c4:=Ub (i:=2) (ρ:=[some (.val (Ae m rs)),some (.val (.int s)),some (.own (a7.map cst)),some (.val (.bl ch)),some (.val (C2 r)),some (.val (cst (Ic (atC a7 r.b) (AS (atC a7 r.a) (Dg r)))))]) (d:=cst (Ic (atC a7 r.b) (AS (atC a7 r.a) (Dg r)))) (p:=r.b) rfl ok.b0 (by rw[ze];exact ie);have gz:(a7.map cst).set r.b.toNat (cst (Ic (atC a7 r.b) (AS (atC a7 r.a) (Dg r))))=(CW r a7).map cst:=by unfold CW;rw[List.map_set]
     rw[gz] at c4;simp_arith[r1,x1,ae,if_true];apply wp_step
     ·simp_arith[r1,c4];rfl
     refine D9 (ρ':=_) rfl ⟨CW r a7,true,_,_,rfl,g2,λ _=>?_,λ hf=>by cases hf⟩;cases ch with
     |false=>obtain⟨e1,_⟩:=h2 rfl;subst e1;exact g5 hc
     |true=>exact N8.trans ltN Vy (g5 hc) (h1 rfl)
   ·rintro ρ' ⟨a7,ch,s4,s5,rfl,g1,h1,h2⟩;cases ch with
    |true=>exact⟨(a7,true),⟨rfl,.inr ⟨rfl,h1 rfl⟩⟩,s4,s5,rfl,g1,λ e=>by cases e⟩
    |false =>
     obtain⟨e1,e2⟩:=h2 rfl;subst e1;rw[ze,yF] at e2;exact⟨(a7,false),⟨rfl,.inl rfl⟩,s4,s5,rfl,g1,λ _=>right_of g1 e2⟩
 ·rintro ρ' ⟨cs,s3,s4,s5,rfl,hR⟩;exact⟨_,rfl,cs,hR,rfl⟩
noncomputable def L0:List D->M OT:=zo F3
theorem Nw:Txt K mg->D6 P w K mg base "costs_from" 2 2 L0:=(zb F3).1
theorem Nx:∀(m s:Nat) (rs:List Road),s<m->m<=900->(∀r∈rs,Ie m r)->∃cs:List Co,Right m s rs cs/\L0 [Ae m rs,.int s]=.ok (.lst ((cs.map cst).map .sh)):=(zb F3).2
theorem Cc:∃F:List D->M OT,(∀ {P w K mg base},Txt K mg->D6 P w K mg base "order_or_ranked" 4 2 F)/\(∀(m:Nat) (rs:List Road),m<=20->(∀r∈rs,Ie m r/\r.a≠r.b)->(∀L:List Int,L.Perm (AN m)->F [Ae m rs,.lst (L.map .int)]=.ok (.lst ((L.map D.int).map .sh)))/\F [Ae m rs,.Ay]=.ok (.lst (((Sx m (Bu rs) (AN m)).map D.int).map .sh))):=by
 refine⟨_,λ T=>B0 (k:=3) T.JL IL _ (λ f B7 A outer s H E hr=>(A4 (Be (P5 (c:=true) (A1 1 (pv 1))) (A8 (Ap (Ao Ac.toXCall (OF T) (hr.mono (by decide)) rfl (A3 (A1 0 (pv 0)) A9) rfl))) AB) (A8 (Ap (Ao Ac.toXCall (Kx T) (hr.mono (by decide)) rfl (A3 (A1 0 (pv 0)) (A3 (A1 1 (pv 1)) A9)) rfl))))),?_⟩;intro m rs hm Ar;have h1:=OG m rs hm Ar;refine⟨λ L hL=>?_,?_⟩
 ·have h2:CB [Ae m rs,.lst (L.map .int)]=.ok (.lst ((L.map D.int).map .sh)):=Ky.1 m (.lst (rs.map C2)) L (by omega) hL;have e0:AI ["net","order"] [Ae m rs,.lst (L.map .int)]=[some (.val (Ae m rs)),some (.val (.lst (L.map .int)))]:=rfl;rw[e0];refine Bt ?_;apply wp_step
  ·rfl
  simp_arith[h2];exact⟨_,rfl,rfl⟩
 ·have e0:AI ["net","order"] [Ae m rs,.Ay]=[some (.val (Ae m rs)),some (.val .Ay)]:=rfl;rw[e0];refine Bt ?_;simp_arith[Cr,h1];exact⟨_,rfl,rfl⟩
noncomputable def BW:List D->M OT:=zo Cc
theorem IX:Txt K mg->D6 P w K mg base "order_or_ranked" 4 2 BW:=(zb Cc).1
theorem ED:∀(m:Nat) (rs:List Road),m<=20->(∀r∈rs,Ie m r/\r.a≠r.b)->(∀L:List Int,L.Perm (AN m)->BW [Ae m rs,.lst (L.map .int)]=.ok (.lst ((L.map D.int).map .sh)))/\BW [Ae m rs,.Ay]=.ok (.lst (((Sx m (Bu rs) (AN m)).map D.int).map .sh)):=(zb Cc).2
theorem Gf:∃F:List D->M OT,(∀ {P w K mg base},Txt K mg->D6 P w K mg base "kept_arcs" 3 2 F)/\(∀(m:Nat) (rs:List Road) (A:LA),m<=20->(∀r∈rs,Ie m r)->E9 m A->∃K:List (Int×Int),F [Ae m rs,J3 A]=.ok (.lst ((K.map pD).map .sh))/\K.Nodup/\∀p,p∈K↔KP rs A p):=by
 refine⟨_,λ T=>B0 (k:=2) T.Rf DB _ (λ f B7 A outer s H E hr=>(A4 (BJ 2 DB.nd rfl (ye rfl) (M6 FU)) (A4 (Ej Ac.toXCall.own rfl (Hr (c:=true) rfl T.HQ (Ah (AY hr 16 (by decide)) (A1 0 (pv 0)) A7)) (BH 3 DB.nd rfl (Or.inr rfl)) (A4 (AJ 4 DB.nd rfl (Or.inr rfl) (As (Ao Ac.toXCall (Nw T) (hr.mono (by decide)) rfl (A3 (A1 0 (pv 0)) (A3 (A1 3 (pv 3)) A9)) rfl))) (A8 (Xr (Bd 2 (pv 2)) (by exact (FW (NB:=["w","u","laid","costs"]) [none,some 3,some 1,some 4] rfl (Hr (c:=true) rfl T.HQ (Ah (AY hr 16 (by decide)) (A1 0 (pv 0)) A7)) rfl rfl (Br 0 (by decide) rfl rfl rfl) (λ _ _ _ _=>Jk (DW.dt (P7 (Sj (c:=true) (AY hr 16 (by decide)) (AR (A3 (A1 1 (pv 1)) (A3 (A1 0 (pv 0)) A9))) (A1 2 (pv 2))) (Lj (NM (c:=true) (AY hr 16 (by decide)) (Ah (AY hr 16 (by decide)) (Ah (AY hr 16 (by decide)) (A1 2 (pv 2)) (AR (A3 (A1 1 (pv 1)) (A3 (A1 0 (pv 0)) A9)))) A7) (Ah (AY hr 16 (by decide)) (A1 3 (pv 3)) (A1 0 (pv 0)))))))) (λ _ _ _ _=>(AR (A3 (A1 1 (pv 1)) (A3 (A1 0 (pv 0)) A9)))))))))) (A8 (FV 2 (pv 2)))))),?_⟩;intro m rs A hm Ar hA;have e0:AI ["net","laid","kept","u","costs"] [Ae m rs,J3 A]=[some (.val (Ae m rs)),some (.val (J3 A)),none,none,none]:=rfl;rw[e0];refine (λ h:∃t,_/\∃K:List (Int×Int),t=.lst ((K.map pD).map .sh)/\K.Nodup/\∀p,p∈K↔KP rs A p=>by
  obtain⟨t,h1,K,rfl,h2⟩:=h;exact⟨K,h1,h2⟩) (TU ?_)
 have n0:B9 (Ae m rs) (.int 0)=.ok (.int m):=rfl;have hr:UW (.int (m:Int))=.ok ((AN m).map D.int):=by rw[LV (by omega),SH]
 have hl:((AN m).map D.int).length<=1000:=by rw[ze,FE];omega
 apply wp_step
 ·rfl
 try simp only[zH,zy]
 refine C8 (I:=λ ρ=>∃(K:List (Int×Int)) (s3 s4:Option Cl),ρ=[some (.val (Ae m rs)),some (.val (J3 A)),some (.own (K.map pD)),s3,s4]/\K.Nodup/\∀p,p∈K↔KP rs A p) ?_ ?_
 ·simp_arith[n0,hr];refine Es (λ i ρ=>i<=m/\∃(K:List (Int×Int)) (s3 s4:Option Cl),ρ=[some (.val (Ae m rs)),some (.val (J3 A)),some (.own (K.map pD)),s3,s4]/\K.Nodup/\∀p,p∈K↔(p.1<i/\KP rs A p)) ⟨zQ _,[],none,none,rfl,yA,λ p=>⟨(λ h=>by cases h),λ h=>by
   obtain⟨c,hc,_⟩:=h.2;have:=(hA.rg p (FH hc)).2.1;omega⟩⟩ ?_ ?_
  ·rintro i d ρ hd ⟨hi,K,s3,s4,rfl,hn,hK⟩;obtain⟨u,hu,rfl⟩:=Cu hd;have aj:i<m:=by have:=(zE.mp hu).1;rw[FE] at this;exact this
   have eu:u=(i:Int):=by
    unfold AN at hu;rw[zw,yM aj] at hu;exact (z0 hu).symm
   subst eu;obtain⟨cs,hR,hF⟩:=Nx m i rs aj (by omega) Ar;refine⟨_,rfl,?_⟩;apply wp_step
   ·simp_arith[hF];rfl
   try simp only[zH,zy]
   obtain⟨W,hW⟩:∃W,W=(AN m).filter λ w=>oE A cs i w:=⟨_,rfl⟩;have ue:∀w,w∈W↔KP rs A ((i:Int),w):=λ w=>by
    rw[hW,yv,JB];constructor
    ·rintro ⟨hw,h⟩;exact (Y5 hR Ar hw.1 hw.2).mp h
    ·intro h;obtain⟨c,hc,_⟩:=id h;have:=(hA.rg _ (FH hc)).2.2;exact⟨this,(Y5 hR Ar this.1 this.2).mpr h⟩
   have vV:W.Nodup:=by rw[hW];exact (Mw m).filter _
   have aI:(K++W.map λ w=>((i:Int),w)).Nodup:=by
    rw[zN];refine⟨hn,List.pairwise_map.mpr (vV.imp fun {a b} ql e=>ql (by cases e;rfl)),λ x hx y hy e=>?_⟩;subst e;obtain⟨w,_,rfl⟩:=zJ.mp hy;have:=(hK _).mp hx;simp at this
   have uf:∀p,p∈K++W.map (λ w=>((i:Int),w))↔(p.1<((i+1:Nat):Int)/\KP rs A p):=λ p=>by
    rw[zL,hK];constructor
    ·rintro (h|h)
     ·exact⟨by have:=h.1;omega,h.2⟩
     ·obtain⟨w,hw,rfl⟩:=zJ.mp h;exact⟨by dsimp only;omega,(ue w).mp hw⟩
    ·rintro ⟨h1,h2⟩;by_cases e:p.1<(i:Int)
     ·exact .inl ⟨e,h2⟩
     ·have e2:p.1=(i:Int):=by omega
      obtain⟨p1,p2⟩:=p;dsimp only at e2;subst e2;exact .inr (zJ.mpr ⟨p2,(ue p2).mpr h2,rfl⟩)
   have hlen:=jM hA hm aI λ p hp=>((uf p).mp hp).2;have hb:(K.map pD).length+((W.map λ w=>((i:Int),w)).map pD).length<=1000:=by
    rw[zM] at hlen;rw[ze,ze];omega
   refine D9 (ρ':=[some (.val (Ae m rs)),some (.val (J3 A)),some (.own ((K++W.map λ w=>((i:Int),w)).map pD)),some (.val (.int i)),some (.val (.lst (cs.map cst)))]) ?_ ⟨aj,_,_,_,rfl,aI,uf⟩;have t1:∀a b:Int,D.tup [.int a,.int b]=pD (a,b):=λ a b=>rfl;simp_arith[n0,hr,if_pos hl];rw[CU (λ w=>oE A cs i w) (λ w=>pD ((i:Int),w)) (λ w hw=>⟨_,rfl,by
    have ug:=JB.mp hw;have x1:B9 (.lst (cs.map cst)) (.int w)=.ok (cst (atC cs w)):=Ms ug.1 (by rw[hR.1];exact ug.2);have lr:=Pr A ((i:Int),w) false;unfold oE An;cases q:CF A ((i:Int),w) with
    |none =>
     rw[q] at lr;simp_arith[t1,lr];rfl
    |some v =>
     rw[q] at lr;have hit:=IG q;have h0:B9 (QX v) (.int 0)=.ok (cst (some v.1)):=rfl;have he:=cM (some v.1) (atC cs w);simp_arith[t1,lr,hit,h0,x1,he];rfl,λ _=>by simp_arith[t1]⟩)]
   rw[<-hW];have ew:W.map (λ w=>pD ((i:Int),w))=(W.map λ w=>((i:Int),w)).map pD:=by rw[yj];rfl
   rw[ew];simp_arith[if_pos hb];rw[<-ya]
  ·rintro ρ ⟨_,K,s3,s4,rfl,hn,hK⟩;refine⟨K,s3,s4,rfl,hn,λ p=>(hK p).trans ⟨λ h=>h.2,λ h=>⟨?_,h⟩⟩⟩;obtain⟨c,hc,_⟩:=h;have:=(hA.rg p (FH hc)).2.1;rw[ze,FE];omega
 ·rintro ρ ⟨K,s3,s4,rfl,hn,hK⟩;exact⟨_,rfl,K,rfl,hn,hK⟩
noncomputable def N1:List D->M OT:=zo Gf
theorem PN:Txt K mg->D6 P w K mg base "kept_arcs" 3 2 N1:=(zb Gf).1
theorem PP:∀(m:Nat) (rs:List Road) (A:LA),m<=20->(∀r∈rs,Ie m r)->E9 m A->∃K:List (Int×Int),N1 [Ae m rs,J3 A]=.ok (.lst ((K.map pD).map .sh))/\K.Nodup/\∀p,p∈K↔KP rs A p:=(zb Gf).2
theorem Cd:∃F:OT->List D->M (OT×OT),(∀ {P w K mg base},Txt K mg->Oz P w K mg base "Ladder" 6 3 F)/\(∀(m:Nat) (rs:List Road) (o:D) (L:List Int),1<=m->m<=16->rs.length<=60->(∀r∈rs,HZ m r)->L.Perm (AN m)->(o=.lst (L.map D.int)\/(o=.Ay/\L=Sx m (Bu rs) (AN m)))->∃(A:LA) (K:List (Int×Int)),Ov m rs L A K/\F (.ins "Ladder" [] []) [Ae m rs,o]=.ok (MI m rs L A K,.sh .Ay)):=by
 refine⟨_,λ T=>Yn (k:=5) T.JM IM _ (λ f B7 A outer s H E hr=>(A4 (JI ["Ladder"] (B5 T.Ba Bq) (Bd 0 (pv 0)) (Ao Ac.toXCall (MU T) (hr.mono (by decide)) rfl (A3 (A1 1 (pv 1)) A9) rfl)) (A4 (JI ["Ladder"] (B5 T.Cb Bq) (Bd 0 (pv 0)) (GP (Ao Ac.toXCall (IX T) (hr.mono (by decide)) rfl (A3 (Dj ["Ladder"] (B5 T.Ba Bq) (A1 0 (pv 0))) (A3 (A1 2 (pv 2)) A9)) rfl))) (A4 (JI ["Ladder"] (B5 T.BC Bq) (Bd 0 (pv 0)) (GP (Ao Ac.toXCall (Gb T) (hr.mono (by decide)) rfl (A3 (Dj ["Ladder"] (B5 T.Ba Bq) (A1 0 (pv 0))) (A3 (Dj ["Ladder"] (B5 T.Cb Bq) (A1 0 (pv 0))) A9)) rfl))) (A8 (JI ["Ladder"] (B5 T.IS Bq) (Bd 0 (pv 0)) (GP (Ao Ac.toXCall (PN T) (hr.mono (by decide)) rfl (A3 (Dj ["Ladder"] (B5 T.Ba Bq) (A1 0 (pv 0))) (A3 (Dj ["Ladder"] (B5 T.BC Bq) (A1 0 (pv 0))) A9)) rfl)))))))),?_⟩;intro m rs o L bB be df gl hL ho;have Ar:∀r∈rs,Ie m r/\r.a≠r.b:=λ r hr=>(gl r hr).tO;have qm:=QR bB be df gl;have h1:=MV.1 m rs qm df;have h2:BW [Ae m rs,o]=.ok (.lst ((L.map D.int).map .sh)):=by
  rcases ho with rfl|⟨rfl,rfl⟩
  ·exact (ED m rs (by omega) Ar).1 L hL
  ·exact (ED m rs (by omega) Ar).2
 have h3:=Gd m rs L (by omega) hL Ar;have hA:=(JE hL Ar).1;obtain⟨K,h4,hn,hK⟩:=PP m rs (B6 rs L) (by omega) (λ r hr=>(Ar r hr).1) hA;refine⟨B6 rs L,K,⟨bB,be,df,Ar,hL,rfl,hn,hK⟩,?_⟩;have e0:CI ["self","net","order"] (.ins "Ladder" [] []) [Ae m rs,o]=[some (.ow (.tree (some 0) (.ins "Ladder" [] []))),some (.val (Ae m rs)),some (.val o)]:=rfl;rw[e0];refine SG ?_;have ec:=Lu m rs;have T1:er (.ins "Ladder" ["own_map"] [.tup [.sh (.int m),.lst ((rs.map C2).map .sh)]])=.ins "Ladder" ["own_map"] [Ae m rs]:=by rw[er,I9,I9,ec]
 have T2:er (.ins "Ladder" ["own_map","own_order"] [.tup [.sh (.int m),.lst ((rs.map C2).map .sh)],.lst ((L.map D.int).map .sh)])=.ins "Ladder" ["own_map","own_order"] [Ae m rs,.lst (L.map D.int)]:=by rw[er,I9,I9,I9,ec,Et]
 have el:er (Gy (B6 rs L))=J3 (B6 rs L):=Di;have T3:er (.ins "Ladder" ["own_map","own_order","laid"] [.tup [.sh (.int m),.lst ((rs.map C2).map .sh)],.lst ((L.map D.int).map .sh),Gy (B6 rs L)])=.ins "Ladder" ["own_map","own_order","laid"] [Ae m rs,.lst (L.map D.int),J3 (B6 rs L)]:=by rw[er,I9,I9,I9,I9,ec,Et,el]
 have d1:=Y6 L;have d2:=cS (B6 rs L);have d3:=cR K;have f1:Ka ["Ladder"] "own_map" (.ins "Ladder" ["own_map"] [Ae m rs])=.ok (Ae m rs):=rfl;have f2:Ka ["Ladder"] "own_map" (.ins "Ladder" ["own_map","own_order"] [Ae m rs,.lst (L.map D.int)])=.ok (Ae m rs):=rfl;have f3:Ka ["Ladder"] "own_order" (.ins "Ladder" ["own_map","own_order"] [Ae m rs,.lst (L.map D.int)])=.ok (.lst (L.map D.int)):=rfl;have f4:Ka ["Ladder"] "own_map" (.ins "Ladder" ["own_map","own_order","laid"] [Ae m rs,.lst (L.map D.int),J3 (B6 rs L)])=.ok (Ae m rs):=rfl;have f5:Ka ["Ladder"] "laid" (.ins "Ladder" ["own_map","own_order","laid"] [Ae m rs,.lst (L.map D.int),J3 (B6 rs L)])=.ok (J3 (B6 rs L)):=rfl;refine wp_step (ρ':=[some (.ow (.tree (some 0) (.ins "Ladder" ["own_map"] [.tup [.sh (.int m),.lst ((rs.map C2).map .sh)]]))),some (.val (Ae m rs)),some (.val o)]) (by simp_arith[h1];rfl) ?_;refine wp_step (ρ':=[some (.ow (.tree (some 0) (.ins "Ladder" ["own_map","own_order"] [.tup [.sh (.int m),.lst ((rs.map C2).map .sh)],.lst ((L.map D.int).map .sh)]))),some (.val (Ae m rs)),some (.val o)]) (by simp_arith[T1,f1,h2,d1];rfl) ?_;refine wp_step (ρ':=[some (.ow (.tree (some 0) (.ins "Ladder" ["own_map","own_order","laid"] [.tup [.sh (.int m),.lst ((rs.map C2).map .sh)],.lst ((L.map D.int).map .sh),Gy (B6 rs L)]))),some (.val (Ae m rs)),some (.val o)]) (by simp_arith[T2,f2,f3,h3,d2];rfl) ?_;refine D9 (ρ':=[some (.ow (.tree (some 0) (.ins "Ladder" ["own_map","own_order","laid","kept_ones"] [.tup [.sh (.int m),.lst ((rs.map C2).map .sh)],.lst ((L.map D.int).map .sh),Gy (B6 rs L),.lst ((K.map pD).map .sh)]))),some (.val (Ae m rs)),some (.val o)]) (by simp_arith[T3,f4,f5,h4,d3];rfl) ⟨rfl,rfl⟩
noncomputable def BX:OT->List D->M (OT×OT):=zo Cd
theorem Ce:Txt K mg->Oz P w K mg base "Ladder" 6 3 BX:=(zb Cd).1
theorem EE:∀(m:Nat) (rs:List Road) (o:D) (L:List Int),1<=m->m<=16->rs.length<=60->(∀r∈rs,HZ m r)->L.Perm (AN m)->(o=.lst (L.map D.int)\/(o=.Ay/\L=Sx m (Bu rs) (AN m)))->∃(A:LA) (K:List (Int×Int)),Ov m rs L A K/\BX (.ins "Ladder" [] []) [Ae m rs,o]=.ok (MI m rs L A K,.sh .Ay):=(zb Cd).2
theorem Cf:∃F:List D->M OT,(∀ {P w K mg base},Txt K mg->FY P w K mg base "Ladder" "told_map" 6 1 F)/\(∀(m:Nat) (rs:List Road) (L:List Int) (A:LA) (K:List (Int×Int)),1<=m->m<=16->rs.length<=60->(∀r∈rs,HZ m r)->F [Ax m rs L A K]=.ok (.tup [.sh (.int m),.lst ((rs.map C2).map .sh)])):=by
 refine⟨_,λ T=>HJ (k:=5) T.JN IP _ (λ f B7 A outer s H E hr=>(A8 (Ap (Ao Ac.toXCall (MU T) (hr.mono (by decide)) rfl (A3 (Dj ["Ladder"] (B5 T.Ba Bq) (A1 0 (pv 0))) A9) rfl)))),?_⟩;intro m rs L A K bB be df gl;have e0:AI ["self"] [Ax m rs L A K]=[some (.val (Ax m rs L A K))]:=rfl;rw[e0];refine Bt ?_;have f1:Ka ["Ladder"] "own_map" (Ax m rs L A K)=.ok (Ae m rs):=rfl;have h1:=MV.1 m rs (QR bB be df gl) df;simp_arith[f1,h1];exact⟨_,rfl,rfl⟩
noncomputable def Bv:List D->M OT:=zo Cf
theorem IY:Txt K mg->FY P w K mg base "Ladder" "told_map" 6 1 Bv:=(zb Cf).1
theorem IZ:∀(m:Nat) (rs:List Road) (L:List Int) (A:LA) (K:List (Int×Int)),1<=m->m<=16->rs.length<=60->(∀r∈rs,HZ m r)->Bv [Ax m rs L A K]=.ok (.tup [.sh (.int m),.lst ((rs.map C2).map .sh)]):=(zb Cf).2
theorem Dn:∃F:List D->M OT,(∀ {P w K mg base},Txt K mg->FY P w K mg base "Ladder" "order" 1 1 F)/\(∀(m:Nat) (rs:List Road) (L:List Int) (A:LA) (K:List (Int×Int)),F [Ax m rs L A K]=.ok (.lst ((L.map D.int).map .sh))):=by
 refine⟨_,λ T=>HJ (k:=0) T.MR Lb _ (λ f B7 A outer s H E hr=>(A8 (Ap (Dw rfl T.BP (Dj ["Ladder"] (B5 T.Cb Bq) (A1 0 (pv 0))))))),?_⟩;intro m rs L A K;rfl
noncomputable def BD:List D->M OT:=zo Dn
theorem Gw:Txt K mg->FY P w K mg base "Ladder" "order" 1 1 BD:=(zb Dn).1
theorem Le:∀(m:Nat) (rs:List Road) (L:List Int) (A:LA) (K:List (Int×Int)),BD [Ax m rs L A K]=.ok (.lst ((L.map D.int).map .sh)):=(zb Dn).2
theorem EF:∃F:List D->M OT,(∀ {P w K mg base},Txt K mg->FY P w K mg base "Ladder" "arcs" 1 1 F)/\(∀(m:Nat) (rs:List Road) (L:List Int) (A:LA) (K:List (Int×Int)),E9 m A->m<=7->F [Ax m rs L A K]=.ok (.lst (((VW A).map pD).map .sh))):=by
 refine⟨_,λ T=>HJ (k:=0) T.Nr MN _ (λ f B7 A outer s H E hr=>(A8 (Ap (SN rfl rfl T.MS (Dj ["Ladder"] (B5 T.BC Bq) (A1 0 (pv 0))))))),?_⟩;intro m rs L A K hA hm;have e0:AI ["self"] [Ax m rs L A K]=[some (.val (Ax m rs L A K))]:=rfl;rw[e0];refine Bt ?_;have f2:Ka ["Ladder"] "laid" (Ax m rs L A K)=.ok (J3 A):=rfl;have hs:=jX hA hm;simp_arith[f2,hs];exact⟨_,rfl,rfl⟩
noncomputable def CC:List D->M OT:=zo EF
theorem N2:Txt K mg->FY P w K mg base "Ladder" "arcs" 1 1 CC:=(zb EF).1
theorem N3:∀(m:Nat) (rs:List Road) (L:List Int) (A:LA) (K:List (Int×Int)),E9 m A->m<=7->CC [Ax m rs L A K]=.ok (.lst (((VW A).map pD).map .sh)):=(zb EF).2
theorem BF:∃F:List D->M OT,(∀ {P w K mg base},Txt K mg->FY P w K mg base "Ladder" "checked_arc" 2 3 F)/\(∀(m:Nat) (rs:List Road) (L:List Int) (A:LA) (K:List (Int×Int)) (u w:Int),0<=u->u<m->0<=w->w<m->(CF A (u,w)).isSome=true->F [Ax m rs L A K,.int u,.int w]=.ok (.sh (pD (u,w)))):=by
 refine⟨_,λ T=>HJ (k:=1) T.Hb CK _ (λ f B7 A outer s H E hr=>(A4 (AJ 3 CK.nd rfl (ye rfl) (Ah (AY hr 16 (by decide)) (Dj ["Ladder"] (B5 T.Ba Bq) (A1 0 (pv 0))) A7)) (A4 (Be (DW.dt (Dr (BM (Bs (c:=true) (As (Ao Ac.toXCall (AO T) (hr.mono (by decide)) rfl (A3 (A1 1 (pv 1)) (A3 (A1 3 (pv 3)) A9)) rfl)))) (Dr (BM (Bs (c:=true) (As (Ao Ac.toXCall (AO T) (hr.mono (by decide)) rfl (A3 (A1 2 (pv 2)) (A3 (A1 3 (pv 3)) A9)) rfl)))) (Cs (Lo (c:=true) (AY hr 16 (by decide)) (AR (A3 (A1 1 (pv 1)) (A3 (A1 2 (pv 2)) A9))) (Dj ["Ladder"] (B5 T.BC Bq) (A1 0 (pv 0)))))))) (A8 (K4 (c:=true) T.dG Ac rfl rfl S0)) AB) (A8 (Ap (AZ (AR (A3 (A1 1 (pv 1)) (A3 (A1 2 (pv 2)) A9))))))))),?_⟩;intro m rs L A K u w u0 u1 w0 w1 hf;have e0:AI ["self","u","w","many"] [Ax m rs L A K,.int u,.int w]=[some (.val (Ax m rs L A K)),some (.val (.int u)),some (.val (.int w)),none]:=rfl;rw[e0];refine Bt ?_;have f1:Ka ["Ladder"] "own_map" (Ax m rs L A K)=.ok (Ae m rs):=rfl;have f2:Ka ["Ladder"] "laid" (Ax m rs L A K)=.ok (J3 A):=rfl;have n0:B9 (Ae m rs) (.int 0)=.ok (.int m):=rfl;have h1:=AH (.int u) m rfl;have h2:=AH (.int w) m rfl;have g1:JQ (.int u) m=true:=by simp[JQ,u0,u1]
 have g2:JQ (.int w) m=true:=by simp[JQ,w0,w1]
 rw[g1] at h1;rw[g2] at h2;have hp:D.tup [.int u,.int w]=pD (u,w):=rfl;have hm:=Pr A (u,w) true;rw[hf] at hm;apply wp_step
 ·simp_arith[f1,n0];rfl
 apply wp_step
 ·simp_arith[h1,h2,f2,hp,hm,Dx];rfl
 rfl
noncomputable def AD:List D->M OT:=zo BF
theorem CL:Txt K mg->FY P w K mg base "Ladder" "checked_arc" 2 3 AD:=(zb BF).1
theorem CM:∀(m:Nat) (rs:List Road) (L:List Int) (A:LA) (K:List (Int×Int)) (u w:Int),0<=u->u<m->0<=w->w<m->(CF A (u,w)).isSome=true->AD [Ax m rs L A K,.int u,.int w]=.ok (.sh (pD (u,w))):=(zb BF).2
theorem EG:∃F:List D->M OT,(∀ {P w K mg base},Txt K mg->FY P w K mg base "Ladder" "cost" 3 3 F)/\(∀(m:Nat) (rs:List Road) (L:List Int) (A:LA) (K:List (Int×Int)) (u w:Int) (c:Int×Int),E9 m A->An A (u,w)=some c->F [Ax m rs L A K,.int u,.int w]=.ok (.sh (cst (some c)))):=by
 refine⟨_,λ T=>HJ (k:=2) T.Nt MO _ (λ f B7 A outer s H E hr=>(A8 (Ap (AZ (Ah (AY hr 16 (by decide)) (Ah (AY hr 16 (by decide)) (Dj ["Ladder"] (B5 T.BC Bq) (A1 0 (pv 0))) (As (Lq (k:=2) [("Ladder",AD)] Ac.toXCall (Dc (by decide) (CL T) EM) (hr.mono (by decide)) (A1 0 (pv 0)) (A3 (A1 1 (pv 1)) (A3 (A1 2 (pv 2)) A9)) rfl))) A7))))),?_⟩;intro m rs L A K u w c hA hc;have e0:AI ["self","u","w"] [Ax m rs L A K,.int u,.int w]=[some (.val (Ax m rs L A K)),some (.val (.int u)),some (.val (.int w))]:=rfl;rw[e0];refine Bt ?_;have f2:Ka ["Ladder"] "laid" (Ax m rs L A K)=.ok (J3 A):=rfl;have hk:=hA.rg _ (FH hc);obtain⟨v,hv⟩:∃v,CF A (u,w)=some (c,v):=by
  unfold An at hc;cases q:CF A (u,w) with
  |none=>rw[q] at hc;cases hc
  |some z=>rw[q] at hc;obtain⟨z1,z2⟩:=z;cases hc;exact⟨z2,rfl⟩
 have h1:=CM m rs L A K u w hk.2.1.1 hk.2.1.2 hk.2.2.1 hk.2.2.2 (by rw[hv];rfl);have hi:=IG hv;have h0:B9 (QX (c,v)) (.int 0)=.ok (cst (some c)):=rfl;have hs:IE [("Ladder",AD)] "checked_arc" (Ax m rs L A K)=.ok AD:=rfl;simp_arith[f2,hs,h1,hi,h0];rfl
noncomputable def CD:List D->M OT:=zo EG
theorem N4:Txt K mg->FY P w K mg base "Ladder" "cost" 3 3 CD:=(zb EG).1
theorem N5:∀(m:Nat) (rs:List Road) (L:List Int) (A:LA) (K:List (Int×Int)) (u w:Int) (c:Int×Int),E9 m A->An A (u,w)=some c->CD [Ax m rs L A K,.int u,.int w]=.ok (.sh (cst (some c))):=(zb EG).2
theorem D4:∃F:List D->M OT,(∀ {P w K mg base},Txt K mg->FY P w K mg base "Ladder" "middle" 3 3 F)/\(∀(m:Nat) (rs:List Road) (L:List Int) (A:LA) (K:List (Int×Int)) (u w:Int) (c:Int×Int) (v:Option Int),E9 m A->CF A (u,w)=some (c,v)->F [Ax m rs L A K,.int u,.int w]=.ok (.sh (BE v))):=by
 refine⟨_,λ T=>HJ (k:=2) T.Ld Kt _ (λ f B7 A outer s H E hr=>(A8 (Ap (AZ (Ah (AY hr 16 (by decide)) (Ah (AY hr 16 (by decide)) (Dj ["Ladder"] (B5 T.BC Bq) (A1 0 (pv 0))) (As (Lq (k:=2) [("Ladder",AD)] Ac.toXCall (Dc (by decide) (CL T) EM) (hr.mono (by decide)) (A1 0 (pv 0)) (A3 (A1 1 (pv 1)) (A3 (A1 2 (pv 2)) A9)) rfl))) A7))))),?_⟩;intro m rs L A K u w c v hA hv;have e0:AI ["self","u","w"] [Ax m rs L A K,.int u,.int w]=[some (.val (Ax m rs L A K)),some (.val (.int u)),some (.val (.int w))]:=rfl;rw[e0];refine Bt ?_;have f2:Ka ["Ladder"] "laid" (Ax m rs L A K)=.ok (J3 A):=rfl;have hc:An A (u,w)=some c:=by unfold An;rw[hv];rfl
 have hk:=hA.rg _ (FH hc);have h1:=CM m rs L A K u w hk.2.1.1 hk.2.1.2 hk.2.2.1 hk.2.2.2 (by rw[hv];rfl);have hi:=IG hv;have h0:B9 (QX (c,v)) (.int 1)=.ok (BE v):=rfl;have hs:IE [("Ladder",AD)] "checked_arc" (Ax m rs L A K)=.ok AD:=rfl;simp_arith[f2,hs,h1,hi,h0];rfl
noncomputable def BQ:List D->M OT:=zo D4
theorem KA:Txt K mg->FY P w K mg base "Ladder" "middle" 3 3 BQ:=(zb D4).1
theorem KC:∀(m:Nat) (rs:List Road) (L:List Int) (A:LA) (K:List (Int×Int)) (u w:Int) (c:Int×Int) (v:Option Int),E9 m A->CF A (u,w)=some (c,v)->BQ [Ax m rs L A K,.int u,.int w]=.ok (.sh (BE v)):=(zb D4).2
theorem Gg:∃F:List D->M OT,(∀ {P w K mg base},Txt K mg->D6 P w K mg base "_law_mixed" 1 2 F)/\(∀c k:Int,0<=k->k<=1000->∃v:Int,0<=v/\F [.int c,.int k]=.ok (.sh (.int v))):=by
 refine⟨_,λ T=>B0 (k:=0) T.Rg G4 _ (λ f B7 A outer s H E hr=>(A4 (AJ 2 G4.nd rfl (ye rfl) (BA (CO (BA (A1 0 (pv 0)) A7) (Lm A7 (CO (A1 1 (pv 1)) A7))) A7)) (A4 (AJ 2 G4.nd rfl (ye rfl) (BA (CO (CO (Lm (A1 2 (pv 2)) (A1 2 (pv 2))) (Lm A7 (A1 1 (pv 1)))) A7) A7)) (A8 (Ap (AZ (BA (Lm (A1 2 (pv 2)) (A1 2 (pv 2))) A7))))))),?_⟩;intro c k h0 h1;have e0:AI ["_law_cell","_law_k","_law_number"] [.int c,.int k]=[some (.val (.int c)),some (.val (.int k)),none]:=rfl;rw[e0];have m1:M4 (.int 48271) (.int (k+1))=.ok (.int (48271*(k+1))):=Jm (.inr (.inr (.inr ⟨by omega,by omega⟩)));obtain⟨x,hx⟩:∃x,x=(c%2147483629+48271*(k+1))%2147483647:=⟨_,rfl⟩;have x0:0<=x:=by omega
 have x1:x<2147483647:=by omega
 have m2:M4 (.int x) (.int x)=.ok (.int (x*x)):=Jm (.inr (.inr (.inr ⟨by omega,by omega⟩)));have m3:M4 (.int 69621) (.int k)=.ok (.int (69621*k)):=Jm (.inr (.inr (.inr ⟨by omega,by omega⟩)));obtain⟨y,hy⟩:∃y,y=(x*x+69621*k+7)%2147483587:=⟨_,rfl⟩;have y0:0<=y:=by rw[hy];exact yN _ (by decide)
 have y1:y<2147483587:=by rw[hy];exact yV _ (by decide)
 have m4:M4 (.int y) (.int y)=.ok (.int (y*y)):=Jm (.inr (.inr (.inr ⟨by omega,by omega⟩)));refine⟨y*y%2147483579,yN _ (by decide),?_⟩;simp[iM,iN,m1,WU,GG,Bg,<-hx,m2,m3,<-hy,m4,V5,X3,Zx,V6]
noncomputable def N6:List D->M OT:=zo Gg
theorem Gh:Txt K mg->D6 P w K mg base "_law_mixed" 1 2 N6:=(zb Gg).1
theorem Gi:∀c k:Int,0<=k->k<=1000->∃v:Int,0<=v/\N6 [.int c,.int k]=.ok (.sh (.int v)):=(zb Gg).2
theorem Hh:∃F:List D->M OT,(∀ {P w K mg base},Txt K mg->D6 P w K mg base "_law_road" 2 2 F)/\(∀(c:Int) (m:Nat),2<=m->m<=20->0<=c->∃r:Road,HZ m r/\F [.int c,.int m]=.ok (.sh (C2 r))):=by
 refine⟨_,λ T=>B0 (k:=1) T.SY Bm _ (λ f B7 A outer s H E hr=>(A4 (AJ 2 Bm.nd rfl (ye rfl) (As (Ao Ac.toXCall (Gh T) (hr.mono (by decide)) rfl (A3 (A1 0 (pv 0)) (A3 A7 A9)) rfl))) (A4 (AJ 3 Bm.nd rfl (ye rfl) (BA (A1 2 (pv 2)) (A1 1 (pv 1)))) (A4 (AJ 4 Bm.nd rfl (ye rfl) (BA (CO (CO (A1 3 (pv 3)) A7) (BA (Je (A1 2 (pv 2)) A7) (gY (A1 1 (pv 1)) A7))) (A1 1 (pv 1)))) (A4 (AJ 5 Bm.nd rfl (ye rfl) (BA (Je (A1 2 (pv 2)) A7) A7)) (A4 (AJ 6 Bm.nd rfl (ye rfl) (BA (Je (A1 2 (pv 2)) A7) A7)) (A4 (Be (NM (c:=true) (AY hr 16 (by decide)) (A1 5 (pv 5)) A7) (A8 (AJ 6 Bm.nd rfl (ye rfl) GF)) AB) (A4 (Be (NM (c:=true) (AY hr 16 (by decide)) (A1 5 (pv 5)) A7) (A8 (AJ 6 Bm.nd rfl (ye rfl) (BA (A1 0 (pv 0)) (OY A7 A7)))) AB) (A4 (Be (NM (c:=true) (AY hr 16 (by decide)) (A1 5 (pv 5)) A7) (A8 (AJ 6 Bm.nd rfl (ye rfl) (BA (Je (A1 2 (pv 2)) A7) A7))) AB) (A8 (Ap (AZ (AR (A3 (A1 3 (pv 3)) (A3 (A1 4 (pv 4)) (A3 (A1 6 (pv 6)) (A3 (BA (As (Ao Ac.toXCall (Gh T) (hr.mono (by decide)) rfl (A3 (A1 0 (pv 0)) (A3 A7 A9)) rfl)) (Ah (AY hr 16 (by decide)) (OZ (A3 A7 (A3 (OY A7 A7) A9))) (BA (A1 0 (pv 0)) A7))) A9))))))))))))))))),?_⟩;intro c m be hm hc;have e0:AI ["_law_cell","_law_many","_law_mixed_here","_law_one","_law_other","_law_way","_law_length"] [.int c,.int m]=[some (.val (.int c)),some (.val (.int m)),none,none,none,none,none]:=rfl;rw[e0];obtain⟨x,x0,hx⟩:=Gi c 1 (by omega) (by omega);obtain⟨y,y0,hy⟩:=Gi c 2 (by omega) (by omega);have ls:(0:Int)<(m:Int):=by omega
 have j2:(0:Int)<(m:Int)-1:=by omega
 obtain⟨a,ha⟩:∃a,a=x%(m:Int):=⟨_,rfl⟩;have a0:0<=a:=by rw[ha];exact yN _ (by omega)
 have a1:a<m:=by rw[ha];exact yV _ ls
 obtain⟨s,hs⟩:∃s,s=x / 16%((m:Int)-1):=⟨_,rfl⟩;have s0:0<=s:=by rw[hs];exact yN _ (by omega)
 have s1:s<(m:Int)-1:=by rw[hs];exact yV _ j2
 obtain⟨b,hb⟩:∃b,b=(a+1+s)%(m:Int):=⟨_,rfl⟩;have b0:0<=b:=by rw[hb];exact yN _ (by omega)
 have b1:b<m:=by rw[hb];exact yV _ ls
 have ql:a≠b:=by
  have:=iP (a:=a) (s:=1+s) (m:=m) a0 a1 (by omega) (by omega);rw[hb,Int.add_assoc];exact λ z=>this z.symm
 have vW:LS (.int x) (.int 16)=.ok (.int (x / 16)):=HL (by unfold OK;omega);have qo:LS (.int x) (.int 256)=.ok (.int (x / 256)):=HL (by unfold OK;omega);have eh:LS (.int x) (.int 1536)=.ok (.int (x / 1536)):=HL (by unfold OK;omega);have ma:GG (.int x) (.int (m:Int))=.ok (.int a):=by rw[ha];exact Bl ls
 have sb:gW (.int (m:Int)) (.int 1)=.ok (.int ((m:Int)-1)):=rfl;have ms:GG (.int (x / 16)) (.int ((m:Int)-1))=.ok (.int s):=by rw[hs];exact Bl j2
 have vX:WU (.int a) (.int 1)=.ok (.int (a+1)):=rfl;have vY:WU (.int (a+1)) (.int s)=.ok (.int (a+1+s)):=rfl;have mb:GG (.int (a+1+s)) (.int (m:Int))=.ok (.int b):=by rw[hb];exact Bl ls
 have m6:GG (.int (x / 256)) (.int 6)=.ok (.int (x / 256%6)):=Bl (by decide);have m4:GG (.int (x / 1536)) (.int 4)=.ok (.int (x / 1536%4)):=Bl (by decide);have qp:GG (.int (x / 1536)) (.int 101)=.ok (.int (x / 1536%101)):=Bl (by decide);have m2:GG (.int c) (.int 2)=.ok (.int (c%2)):=Bl (by decide);have vZ:=iZ;obtain⟨T,wa,j3,hT⟩:∃T:Int,T=PV/\0<T/\Ql (.int 10) (.int 60)=.ok (.int T):=⟨PV,rfl,by omega,eJ⟩;have mT:GG (.int c) (.int T)=.ok (.int (c%T)):=Bl j3;obtain⟨w,w0,hw⟩:∃w,(0<w/\w<=T)/\B9 (.lst [.int 5,.int T]) (.int (c%2))=.ok (.int w):=by
  have h:c%2=0\/c%2=1:=by omega
  rcases h with h|h
  ·rw[h];exact⟨5,⟨by decide,by omega⟩,rfl⟩
  ·rw[h];exact⟨T,⟨j3,by omega⟩,rfl⟩
 have mw:GG (.int y) (.int w)=.ok (.int (y%w)):=Bl w0.1;obtain⟨k,hk⟩:∃k,k=x / 256%6:=⟨_,rfl⟩;obtain⟨l,qe,hl⟩:∃l:Option Int,(∀z,l=some z->0<=z/\z<PV)/\l=(if k=2 then some (x / 1536%101) else if k=1 then some (c%T) else if k=0 then none else some (x / 1536%4)):=by
  refine⟨_,λ z hz=>?_,rfl⟩;split at hz
  ·cases hz;omega
  ·split at hz
   ·cases hz;exact⟨yN _ (by omega),by rw[<-wa];exact yV _ j3⟩
   ·split at hz
    ·cases hz
    ·cases hz;omega
 refine⟨⟨a,b,l,y%w⟩,⟨a0,a1,b0,b1,ql,qe,yN _ (by omega),by have:=yV y w0.1;show y%w<PV;omega⟩,Bt ?_⟩;rw[<-hk] at m6;apply wp_step
 ·simp_arith[hx];rfl
 apply wp_step
 ·simp_arith[ma];rfl
 apply wp_step
 ·simp_arith[vX,vW,sb,ms,vY,mb];rfl
 apply wp_step
 ·simp_arith[qo,m6];rfl
 apply wp_step
 ·simp_arith[eh,m4];rfl
 refine C8 (I:=λ ρ=>ρ=[some (.val (.int c)),some (.val (.int m)),some (.val (.int x)),some (.val (.int a)),some (.val (.int b)),some (.val (.int k)),some (.val (BE (if k=0 then none else some (x / 1536%4))))]) ?_ ?_
 ·simp_arith[];by_cases h:k=0
  ·simp only[h,decide_true,if_true];rfl
  ·simp only[h,decide_false,zF,if_false];rfl
 rintro ρ rfl;refine C8 (I:=λ ρ=>ρ=[some (.val (.int c)),some (.val (.int m)),some (.val (.int x)),some (.val (.int a)),some (.val (.int b)),some (.val (.int k)),some (.val (BE (if k=1 then some (c%T) else if k=0 then none else some (x / 1536%4))))]) ?_ ?_
 ·simp_arith[];by_cases h:k=1
  ·simp only[h,decide_true,if_true,iM,iN,HI,zH,zy,M.A6,DH,DF,F8,Fl,Fm,Fn,Hx,Di,Et,Mh,Fb,Fc,DJ,O0,Hu,Hv,Fd,Vf,DK,DL,CT,K6,BN,K7,Fe,Ff,DM,O1,F9,D8,toCl_list,toCl_listP,toCl_dct,Hy,Fo,Fp,Fq,Fs,Hz,Ft,Fu,Fv,eA,Zx,Fg,O2,Fh,O3,Fi,Fj,Hw,O4,kN,kO,Vi,Vk,Vl,Vm,Vn,Vo,toCl_nil,GI,Gn,Ni,K8,DQ,HA,HB,Fw,Fx,HC,HD,HE,HF,HG,Fy,Fz,FA,FC,DR,DU,DV,DY,DZ,FD,E5,E6,O5,O6,O7,O8,O9,E7,ite_tt,ite_ff,Bool.not_true,Bool.not_false,yJ,zP,CY,FF,FG,Vh,VI,Vg,VM,VN,VO,HN,Kh,IF,Ki,Cj,Ea,HP,Kd,VR,Ox,Kk,hT,mT];rfl
  ·simp only[h,decide_false,zF,if_false];rfl
 rintro ρ rfl;refine C8 (I:=λ ρ=>ρ=[some (.val (.int c)),some (.val (.int m)),some (.val (.int x)),some (.val (.int a)),some (.val (.int b)),some (.val (.int k)),some (.val (BE l))]) ?_ ?_
 ·rw[hl];simp_arith[];by_cases h:k=2
  ·simp only[h,decide_true,if_true,iM,iN,HI,zH,zy,M.A6,DH,DF,F8,Fl,Fm,Fn,Hx,Di,Et,Mh,Fb,Fc,DJ,O0,Hu,Hv,Fd,Vf,DK,DL,CT,K6,BN,K7,Fe,Ff,DM,O1,F9,D8,toCl_list,toCl_listP,toCl_dct,Hy,Fo,Fp,Fq,Fs,Hz,Ft,Fu,Fv,eA,Zx,Fg,O2,Fh,O3,Fi,Fj,Hw,O4,kN,kO,Vi,Vk,Vl,Vm,Vn,Vo,toCl_nil,GI,Gn,Ni,K8,DQ,HA,HB,Fw,Fx,HC,HD,HE,HF,HG,Fy,Fz,FA,FC,DR,DU,DV,DY,DZ,FD,E5,E6,O5,O6,O7,O8,O9,E7,ite_tt,ite_ff,Bool.not_true,Bool.not_false,yJ,zP,CY,FF,FG,Vh,VI,Vg,VM,VN,VO,HN,Kh,IF,Ki,Cj,Ea,HP,Kd,VR,Ox,Kk,eh,qp];rfl
  ·simp only[h,decide_false,zF,if_false];rfl
 rintro ρ rfl;simp_arith[hy,hT,m2,hw,mw];rfl
noncomputable def HR:List D->M OT:=zo Hh
theorem Ru:Txt K mg->D6 P w K mg base "_law_road" 2 2 HR:=(zb Hh).1
theorem Rv:∀(c:Int) (m:Nat),2<=m->m<=20->0<=c->∃r:Road,HZ m r/\HR [.int c,.int m]=.ok (.sh (C2 r)):=(zb Hh).2
theorem J0:∃F:List D->M OT,(∀ {P w K mg base},Txt K mg->D6 P w K mg base "_law_map" 3 2 F)/\(∀(cs:List Int),cs.length<=25->(∀c∈cs,0<=c)->∃(m:Nat) (rs:List Road),1<=m/\m<=7/\rs.length<=24/\(∀r∈rs,HZ m r)/\F [.lst (cs.map .int),.int 7]=.ok (.sh (Ae m rs))):=by
 refine⟨_,λ T=>B0 (k:=2) T.W3 EB _ (λ f B7 A outer s H E hr=>(A4 (AJ 2 EB.nd rfl (ye rfl) (So rfl rfl T.Yy (As (Jx (A1 0 (pv 0)) P8 (Ji A7))))) (A4 (AJ 3 EB.nd rfl (Or.inr rfl) (CO A7 (BA (A1 2 (pv 2)) (A1 1 (pv 1))))) (A4 (AJ 4 EB.nd rfl (ye rfl) (OZ A9)) (A4 (Be (dW (c:=true) (A1 3 (pv 3)) A7) (A8 (Lk (NB:=["_law_cell","_law_many"]) 4 [none,some 3] EB.nd rfl (ye rfl) rfl (Bk (As (Jx (A1 0 (pv 0)) (Ji A7) (Ji A7)))) rfl rfl (Br 0 (by decide) rfl rfl rfl) (λ _ _ _ _=>EK) (λ _ _ _ _=>(As (En (Ao (Ek rfl).toXCall (Ru T) (hr.mono (by decide)) rfl (A3 (A1 0 (pv 0)) (A3 (A1 1 (pv 1)) A9)) rfl)))))) AB) (A8 (Ap (AZ (AR (A3 (A1 3 (pv 3)) (A3 (A1 4 (pv 4)) A9))))))))))),?_⟩;intro cs hl hc;have e0:AI ["_law_cells","_law_most","_law_head","_law_many","_law_roads"] [.lst (cs.map .int),.int 7]=[some (.val (.lst (cs.map .int))),some (.val (.int 7)),none,none,none]:=rfl;rw[e0];obtain⟨h,hh⟩:∃h:Int,h=(cs.take 1).sum:=⟨_,rfl⟩;obtain⟨m,hm⟩:∃m:Nat,(m:Int)=1+h%7:=⟨(1+h%7).toNat,by omega⟩;have bB:1<=m:=by omega
 have be:m<=7:=by omega
 have s1:Xy none (some 1) (.lst (cs.map D.int))=.ok (.lst (((cs.take 1).map D.int).map .sh)):=by rw[List.map_take];exact QF _ 1
 have s2:Xy (some 1) (some 25) (.lst (cs.map D.int))=.ok (.lst ((((cs.drop 1).take 24).map D.int).map .sh)):=by rw[List.map_take,List.map_drop];exact ZK _ 1 25
 have m7:GG (.int h) (.int 7)=.ok (.int (h%7)):=Bl (by decide);have hlen:((((cs.drop 1).take 24).map D.int)).length<=1000:=by rw[ze,xi];omega
 by_cases wT:1<m
 ·obtain⟨g,hg⟩:∃g:Int->Road,∀c,0<=c->(HZ m (g c)/\HR [.int c,.int m]=.ok (.sh (C2 (g c)))):=by
   have this:∀c:Int,∃r:Road,0<=c->(HZ m r/\HR [.int c,.int m]=.ok (.sh (C2 r))):=λ c=>by
    by_cases uh:0<=c
    ·obtain⟨r,hr⟩:=Rv c m (by omega) (by omega) uh;exact⟨r,λ _=>hr⟩
    ·exact⟨⟨0,0,none,0⟩,λ z=>(uh z).elim⟩
   exact⟨λ c=>zo (this c),λ c=>zb (this c)⟩
  have ui:∀c∈(cs.drop 1).take 24,0<=c:=λ c ag=>hc c (List.mem_of_mem_drop (yw ag));refine⟨m,((cs.drop 1).take 24).map g,bB,be,by rw[ze,xi];omega,λ r hr=>?_,Bt ?_⟩
  ·obtain⟨c,ag,rfl⟩:=zJ.mp hr;exact (hg c (ui c ag)).1
  apply wp_step
  ·simp_arith[s1];rfl
  rw[<-hh];apply wp_step
  ·simp_arith[m7,<-hm];rfl
  apply wp_step
  ·rfl
  refine C8 (I:=λ ρ=>ρ=[some (.val (.lst (cs.map .int))),some (.val (.int 7)),some (.val (.int h)),some (.val (.int m)),some (.val (.lst ((((cs.drop 1).take 24).map g).map C2)))]) ?_ ?_
  ·have qq:(1:Int)<(m:Int):=by omega
   simp_arith[decide_eq_true qq,s2,if_pos hlen];rw[CV (λ c=>C2 (g c)) (λ c ag=>⟨_,rfl,rfl,by
    have:=(hg c (ui c ag)).2;simp_arith[this]⟩)]
   simp_arith[];show _=_;rw[yj];rfl
  rintro ρ rfl;simp_arith[];rfl
 ·refine⟨m,[],bB,be,by simp,(λ r hr=>by cases hr),Bt ?_⟩;apply wp_step
  ·simp_arith[s1];rfl
  rw[<-hh];apply wp_step
  ·simp_arith[m7,<-hm];rfl
  apply wp_step
  ·rfl
  have qq:¬ (1:Int)<(m:Int):=by omega
  apply wp_step
  ·simp_arith[decide_eq_false qq];rfl
  simp_arith[];rfl
noncomputable def Rw:List D->M OT:=zo J0
theorem Tb:Txt K mg->D6 P w K mg base "_law_map" 3 2 Rw:=(zb J0).1
theorem Tc:∀(cs:List Int),cs.length<=25->(∀c∈cs,0<=c)->∃(m:Nat) (rs:List Road),1<=m/\m<=7/\rs.length<=24/\(∀r∈rs,HZ m r)/\Rw [.lst (cs.map .int),.int 7]=.ok (.sh (Ae m rs)):=(zb J0).2
theorem Gj:∃F:List D->M OT,(∀ {P w K mg base},Txt K mg->D6 P w K mg base "_law_order" 2 2 F)/\(∀(m:Nat) (c:Int),m<=60->∃L:List Int,L.Perm (AN m)/\F [.int m,.int c]=.ok (.lst ((L.map D.int).map .sh))):=by
 refine⟨_,λ T=>B0 (k:=1) T.Rh G5 _ (λ f B7 A outer s H E hr=>(A4 (BJ 2 G5.nd rfl (ye rfl) (M6 FU)) (A4 (Ej Ac.toXCall.own rfl (Hr (c:=true) rfl T.HQ (A1 0 (pv 0))) (BH 3 G5.nd rfl (ye rfl)) (A8 (V2 2 (pv 2) (BA (As (Ao Ac.toXCall (Gh T) (hr.mono (by decide)) rfl (A3 (A1 1 (pv 1)) (A3 (A1 3 (pv 3)) A9)) rfl)) (CO (A1 3 (pv 3)) A7)) (A1 3 (pv 3))))) (A8 (FV 2 (pv 2)))))),?_⟩;intro m c hm;have e0:AI ["_law_many","_law_cell","_law_low_first","_law_k"] [.int m,.int c]=[some (.val (.int m)),some (.val (.int c)),none,none]:=rfl;rw[e0];refine (λ h:∃t,_/\∃L:List Int,t=OT.lst ((L.map D.int).map .sh)/\L.Perm (AN m)=>by
  obtain⟨t,h1,L,rfl,h2⟩:=h;exact⟨L,h2,h1⟩) (TU ?_)
 have hr:=LV (n:=m) (by omega);apply wp_step
 ·rfl
 try simp only[zH,zy]
 refine C8 (I:=λ ρ=>∃(L:List Int) (s3:Option Cl),ρ=[some (.val (.int m)),some (.val (.int c)),some (.own (L.map D.int)),s3]/\L.Perm (AN m)) ?_ ?_
 ·simp_arith[hr];refine Es (λ i ρ=>i<=m/\∃(L:List Int) (s3:Option Cl),ρ=[some (.val (.int m)),some (.val (.int c)),some (.own (L.map D.int)),s3]/\L.Perm (AN i)) ⟨zQ _,[],none,rfl,.refl _⟩ ?_ ?_
  ·rintro i d ρ hd ⟨_,L,s3,rfl,hL⟩;obtain⟨cL,hi⟩:=FT hd;rw[Int.zero_add] at cL;subst cL;have hlen:=My hL;refine⟨_,rfl,?_⟩;obtain⟨v,v0,hv⟩:=Gi c i (by omega) (by omega);have bB:GG (.int v) (.int ((i:Int)+1))=.ok (.int (v%((i:Int)+1))):=Bl (by omega);have b0:0<=v%((i:Int)+1):=yN _ (by omega);have b1:v%((i:Int)+1)<(i:Int)+1:=yV _ (by omega);refine D9 (ρ':=[some (.val (.int m)),some (.val (.int c)),some (.own ((L.take (v%((i:Int)+1)).toNat++(i:Int)::L.drop (v%((i:Int)+1)).toNat).map D.int)),some (.val (.int i))]) ?_ ⟨by omega,_,_,rfl,VH hL _⟩;simp_arith[hv,bB];rw[if_pos ⟨b0,by rw[ze];omega,by rw[ze];omega⟩];simp only[ya,zh,List.map_take,List.map_drop];rfl
  ·rintro ρ ⟨_,L,s3,rfl,hL⟩;exact⟨L,s3,rfl,by rw[CP] at hL;exact hL⟩
 ·rintro ρ ⟨L,s3,rfl,hL⟩;exact⟨_,rfl,L,rfl,hL⟩
noncomputable def N7:List D->M OT:=zo Gj
theorem PQ:Txt K mg->D6 P w K mg base "_law_order" 2 2 N7:=(zb Gj).1
theorem PR:∀(m:Nat) (c:Int),m<=60->∃L:List Int,L.Perm (AN m)/\N7 [.int m,.int c]=.ok (.lst ((L.map D.int).map .sh)):=(zb Gj).2
theorem Hi:∃F:List D->M OT,(∀ {P w K mg base},Txt K mg->D6 P w K mg base "_law_told" 7 4 F)/\(∀(m:Nat) (rs:List Road) (L:List Int) (A:LA) (K:List (Int×Int)) (b:Bool),Ov m rs L A K->m<=7->(∀r∈rs,HZ m r)->F [Ax m rs L A K,Ae m rs,.lst (L.map D.int),.bl b]=.ok (.sh (.bl true))):=by
 refine⟨_,λ T=>B0 (k:=6) T.T4 Bz _ (λ f B7 A outer s H E hr=>(A4 (Be (DW.dt (P7 (Bs (c:=true) (A1 3 (pv 3))) (Lj (EJ (c:=true) (AY hr 16 (by decide)) (As (Jz (k:=1) [("Ladder",BD)] Ac.toXCall (Dc (by decide) (Gw T) EM) (hr.mono (by decide)) (A1 0 (pv 0)))) (A1 2 (pv 2)))))) (A8 (Ap (AZ BY))) AB) (A4 (AJ 4 Bz.nd rfl (ye rfl) (As (Ao Ac.toXCall (PL T) (hr.mono (by decide)) rfl (A3 (AR (A3 (Ah (AY hr 16 (by decide)) (A1 1 (pv 1)) A7) (A3 (As (Dw rfl T.BP (Ah (AY hr 16 (by decide)) (A1 1 (pv 1)) A7))) A9))) (A3 (As (Dw rfl T.BP (A1 2 (pv 2)))) A9)) rfl))) (A4 (AJ 5 Bz.nd rfl (ye rfl) (As (Ao Ac.toXCall (T9 T) (hr.mono (by decide)) rfl (A3 (AR (A3 (Ah (AY hr 16 (by decide)) (A1 1 (pv 1)) A7) (A3 (As (Dw rfl T.BP (Ah (AY hr 16 (by decide)) (A1 1 (pv 1)) A7))) A9))) (A3 (As (Dw rfl T.BP (A1 2 (pv 2)))) A9)) rfl))) (A4 (BJ 6 Bz.nd rfl (ye rfl) (Jz (k:=1) [("Ladder",CC)] Ac.toXCall (Dc (by decide) (N2 T) EM) (hr.mono (by decide)) (A1 0 (pv 0)))) (A4 (Be (Iz (DW.dt (Dr (BM (Bs (c:=true) (ET (F6 _) rfl T.AX rfl T.BP (by decide +kernel) (A1 6 (pv 6))))) (Cs (EJ (c:=true) (AY hr 16 (by decide)) (A1 6 (pv 6)) (As (R7 rfl rfl T.MS rfl T.BP (A1 4 (pv 4))))))))) (A8 (Ap (AZ BY))) AB) (A4 (Vc 6 1 Ac.toXCall.own rfl (pv 6) (X6 (n:=2) rfl (Jj (BH 7 Bz.nd rfl (ye rfl)) (Jj (BH 8 Bz.nd rfl (ye rfl)) Tx))) (A8 (Be (DW.dt (Dr (EJ (c:=true) (AY hr 16 (by decide)) (As (Lq (k:=3) [("Ladder",CD)] Ac.toXCall (Dc (by decide) (N4 T) EM) (hr.mono (by decide)) (A1 0 (pv 0)) (A3 (A1 7 (pv 7)) (A3 (A1 8 (pv 8)) A9)) rfl)) (Ah (AY hr 16 (by decide)) (A1 4 (pv 4)) (AR (A3 (A1 7 (pv 7)) (A3 (A1 8 (pv 8)) A9))))) (Cs (EJ (c:=true) (AY hr 16 (by decide)) (As (Lq (k:=3) [("Ladder",BQ)] Ac.toXCall (Dc (by decide) (KA T) EM) (hr.mono (by decide)) (A1 0 (pv 0)) (A3 (A1 7 (pv 7)) (A3 (A1 8 (pv 8)) A9)) rfl)) (Ah (AY hr 16 (by decide)) (A1 5 (pv 5)) (AR (A3 (A1 7 (pv 7)) (A3 (A1 8 (pv 8)) A9)))))))) (A8 (Ap (AZ BY))) AB))) (A4 (Qx (Bd 6 (pv 6))) (A4 (BJ 9 Bz.nd rfl (ye rfl) (Jz (k:=6) [("Ladder",Bv)] Ac.toXCall (Dc (by decide) (IY T) EM) (hr.mono (by decide)) (A1 0 (pv 0)))) (A4 (Be (Iz (DW.dt (Dr (BM (Bs (c:=true) (ET (Iv _) rfl T.AX rfl T.Lw (by decide +kernel) (A1 9 (pv 9))))) (Dr (EJ (c:=true) (AY hr 16 (by decide)) (A1 9 (pv 9)) (A1 1 (pv 1))) (Cs (BM (Bs (c:=true) (ET (F6 _) rfl T.AX rfl T.BP (by decide +kernel) (Ah (AY hr 16 (by decide)) (A1 9 (pv 9)) A7))))))))) (A8 (Ap (AZ BY))) AB) (A4 (iJ (TJ (Bd 9 (pv 9)) A7) (AZ GF)) (A4 (BJ 6 Bz.nd rfl (ye rfl) (Jz (k:=1) [("Ladder",BD)] Ac.toXCall (Dc (by decide) (Gw T) EM) (hr.mono (by decide)) (A1 0 (pv 0)))) (A4 (Be (Iz (DW.dt (Dr (BM (Bs (c:=true) (ET (F6 _) rfl T.AX rfl T.BP (by decide +kernel) (A1 6 (pv 6))))) (Cs (EJ (c:=true) (AY hr 16 (by decide)) (A1 6 (pv 6)) (A1 2 (pv 2))))))) (A8 (Ap (AZ BY))) AB) (A4 (Mc (Bd 6 (pv 6))) (A8 (Ap (AZ BY))))))))))))))))),?_⟩;intro m rs L A K b ok hm gl;have e0:AI ["_law_ladder","_law_land","_law_low_first","_law_early","_law_costs","_law_inner","_law_found","_law_u","_law_w","_law_told_here"] [Ax m rs L A K,Ae m rs,.lst (L.map D.int),.bl b]=[some (.val (Ax m rs L A K)),some (.val (Ae m rs)),some (.val (.lst (L.map D.int))),some (.val (.bl b)),none,none,none,none,none,none]:=rfl;rw[e0];refine Bt ?_;have hA:=ok.vF;have df:=ok.rl;have bB:=ok.m1;have n0:B9 (Ae m rs) (.int 0)=.ok (.int m):=rfl;have n1:B9 (Ae m rs) (.int 1)=.ok (.lst (rs.map C2)):=rfl;have nd:D.tup [.int m,.lst (rs.map C2)]=Ae m rs:=rfl;have lu:=Lu m rs;have wb:=IF (IH A);have wc:=jS A;have s1:IE [("Ladder",BD)] "order" (Ax m rs L A K)=.ok BD:=rfl;have s2:IE [("Ladder",CC)] "arcs" (Ax m rs L A K)=.ok CC:=rfl;have s3:IE [("Ladder",CD)] "cost" (Ax m rs L A K)=.ok CD:=rfl;have s4:IE [("Ladder",BQ)] "middle" (Ax m rs L A K)=.ok BQ:=rfl;have s5:IE [("Ladder",Bv)] "told_map" (Ax m rs L A K)=.ok Bv:=rfl;have ho:=Le m rs L A K;have p0:=N3 m rs L A K hA hm;have we:=IZ m rs L A K bB (by omega) df gl;have wg:IV [Ae m rs,.lst (L.map D.int)]=.ok (oC (IH A)):=by rw[ok.la];exact PM m rs L (by omega) ok.pm ok.ok
 have wj:N0 [Ae m rs,.lst (L.map D.int)]=.ok (oG A):=by rw[ok.la];exact Ta m rs L (by omega) ok.pm ok.ok
 have e8:=El (Ll (n:=15) L);have wk:=El (kA (VW A));have qr:=El ((XO m rs).le (show 3<=16 by omega));have aD:=jZ hA hm;refine wp_step (ρ':=[some (.val (Ax m rs L A K)),some (.val (Ae m rs)),some (.val (.lst (L.map D.int))),some (.val (.bl b)),none,none,none,none,none,none]) (by cases b<;>simp_arith[s1,ho,e8,Dx]<;>try rfl) ?_;refine wp_step (ρ':=[some (.val (Ax m rs L A K)),some (.val (Ae m rs)),some (.val (.lst (L.map D.int))),some (.val (.bl b)),some (.val (Nm (IH A))),none,none,none,none,none]) (by simp_arith[n0,n1,nd,wg,wb];try rfl) ?_;refine wp_step (ρ':=[some (.val (Ax m rs L A K)),some (.val (Ae m rs)),some (.val (.lst (L.map D.int))),some (.val (.bl b)),some (.val (Nm (IH A))),some (.val (R4 A)),none,none,none,none]) (by simp_arith[n0,n1,nd,wj,wc];try rfl) ?_;refine wp_step (ρ':=[some (.val (Ax m rs L A K)),some (.val (Ae m rs)),some (.val (.lst (L.map D.int))),some (.val (.bl b)),some (.val (Nm (IH A))),some (.val (R4 A)),some (.own ((VW A).map pD)),none,none,none]) (by simp_arith[s2,p0];try rfl) ?_;refine wp_step (ρ':=[some (.val (Ax m rs L A K)),some (.val (Ae m rs)),some (.val (.lst (L.map D.int))),some (.val (.bl b)),some (.val (Nm (IH A))),some (.val (R4 A)),some (.own ((VW A).map pD)),none,none,none]) (by simp_arith[aD,wk,Dx];try rfl) ?_;refine C8 (I:=λ ρ=>∃o7 o8:Option D,ρ=[some (.val (Ax m rs L A K)),some (.val (Ae m rs)),some (.val (.lst (L.map D.int))),some (.val (.bl b)),some (.val (Nm (IH A))),some (.val (R4 A)),some (.own ((VW A).map pD)),vO o7,vO o8,none]) ?_ ?_
 ·refine Vj (ds:=(VW A).map pD) rfl (by simp only[Oa,Mi,Ob,Oc,Mj,QG,HH (show (1:Nat)≠2 by decide),HH (show (2:Nat)≠1 by decide),zH,zy]) (λ k ρ=>∃o7 o8:Option D,ρ=[some (.val (Ax m rs L A K)),some (.val (Ae m rs)),some (.val (.lst (L.map D.int))),some (.val (.bl b)),some (.val (Nm (IH A))),some (.val (R4 A)),some (.ow (.HW 1 ((VW A).map pD))),vO o7,vO o8,none]) ⟨none,none,rfl⟩ ?_ ?_ ?_
  ·rintro k ρ ⟨o7,o8,rfl⟩;rfl
  ·rintro k d ρ hd ⟨o7,o8,rfl⟩;obtain⟨p,hp,rfl⟩:=Cu hd;have wl:=dA.mp (zr hp);obtain⟨z,hz⟩:=yZ.mp wl;have hc:An A p=some z.1:=by unfold An;rw[hz];rfl
   have h1:=N5 m rs L A K p.1 p.2 z.1 hA hc;have h2:=KC m rs L A K p.1 p.2 z.1 z.2 hA hz;have t1:D.tup [.int p.1,.int p.2]=pD p:=rfl;have i1:=jI (C:=IH A) (p:=p) (c:=z.1) (by rw[Uj];exact hc);have i2:=jT hz;have qu:WV 16 (cst (some z.1)) (cst (some z.1))=.ok (.bl false):=El (Mt (n:=15) _);have qv:WV 16 (BE z.2) (BE z.2)=.ok (.bl false):=El (dC _);refine⟨_,rfl,?_⟩;refine D9 (ρ':=[some (.val (Ax m rs L A K)),some (.val (Ae m rs)),some (.val (.lst (L.map D.int))),some (.val (.bl b)),some (.val (Nm (IH A))),some (.val (R4 A)),some (.ow (.HW 1 ((VW A).map pD))),vO (some (.int p.1)),vO (some (.int p.2)),none]) (by simp_arith[s3,s4,h1,h2,t1,i1,i2,qu,qv,Dx];try rfl) ⟨_,_,rfl⟩
  ·rintro ρ ⟨o7,o8,rfl⟩;exact⟨by simp only[Oa,Mi,Ob,Oc,Mj,QG,HH (show (1:Nat)≠2 by decide),HH (show (2:Nat)≠1 by decide),zH,zy],o7,o8,rfl⟩
 rintro ρ ⟨o7,o8,rfl⟩;refine wp_step (ρ':=[some (.val (Ax m rs L A K)),some (.val (Ae m rs)),some (.val (.lst (L.map D.int))),some (.val (.bl b)),some (.val (Nm (IH A))),some (.val (R4 A)),some (.own []),vO o7,vO o8,none]) (by simp_arith[];try rfl) ?_;refine wp_step (ρ':=[some (.val (Ax m rs L A K)),some (.val (Ae m rs)),some (.val (.lst (L.map D.int))),some (.val (.bl b)),some (.val (Nm (IH A))),some (.val (R4 A)),some (.own []),vO o7,vO o8,some (.ow (.tree none (.tup [.sh (.int m),.lst ((rs.map C2).map .sh)])))]) (by simp_arith[s5,we];try rfl) ?_;refine wp_step (ρ':=[some (.val (Ax m rs L A K)),some (.val (Ae m rs)),some (.val (.lst (L.map D.int))),some (.val (.bl b)),some (.val (Nm (IH A))),some (.val (R4 A)),some (.own []),vO o7,vO o8,some (.ow (.tree none (.tup [.sh (.int m),.lst ((rs.map C2).map .sh)])))]) (by simp_arith[lu,n1,nd,qr,Dx];try rfl) ?_;have aj:((rs.map C2).map OT.sh).length<1000:=by rw[ze,ze];omega
 obtain⟨p1,p2,p3,p4⟩:=oB (i:=9) (ρ:=[some (.val (Ax m rs L A K)),some (.val (Ae m rs)),some (.val (.lst (L.map D.int))),some (.val (.bl b)),some (.val (Nm (IH A))),some (.val (R4 A)),some (.own []),vO o7,vO o8,some (.ow (.tree none (.tup [.sh (.int m),.lst ((rs.map C2).map .sh)])))]) (u:=.sh .Ay) rfl;refine wp_step (ρ':=[some (.val (Ax m rs L A K)),some (.val (Ae m rs)),some (.val (.lst (L.map D.int))),some (.val (.bl b)),some (.val (Nm (IH A))),some (.val (R4 A)),some (.own []),vO o7,vO o8,some (.ow (.tree none (.tup [.sh (.int m),.lst ((rs.map C2).map .sh++[.sh .Ay])])))]) (by
  simp only[M.A6,p1,p2,p3,Zx,if_pos aj,p4];rfl) ?_
 refine wp_step (ρ':=[some (.val (Ax m rs L A K)),some (.val (Ae m rs)),some (.val (.lst (L.map D.int))),some (.val (.bl b)),some (.val (Nm (IH A))),some (.val (R4 A)),some (.own (L.map D.int)),vO o7,vO o8,some (.ow (.tree none (.tup [.sh (.int m),.lst ((rs.map C2).map .sh++[.sh .Ay])])))]) (by simp_arith[s1,ho];try rfl) ?_;refine wp_step (ρ':=[some (.val (Ax m rs L A K)),some (.val (Ae m rs)),some (.val (.lst (L.map D.int))),some (.val (.bl b)),some (.val (Nm (IH A))),some (.val (R4 A)),some (.own (L.map D.int)),vO o7,vO o8,some (.ow (.tree none (.tup [.sh (.int m),.lst ((rs.map C2).map .sh++[.sh .Ay])])))]) (by simp_arith[e8,Dx];try rfl) ?_;refine wp_step (ρ':=[some (.val (Ax m rs L A K)),some (.val (Ae m rs)),some (.val (.lst (L.map D.int))),some (.val (.bl b)),some (.val (Nm (IH A))),some (.val (R4 A)),some (.own (L.map D.int).reverse),vO o7,vO o8,some (.ow (.tree none (.tup [.sh (.int m),.lst ((rs.map C2).map .sh++[.sh .Ay])])))]) (by simp_arith[];try rfl) ?_;rfl
noncomputable def KD:List D->M OT:=zo Hi
theorem Rx:Txt K mg->D6 P w K mg base "_law_told" 7 4 KD:=(zb Hi).1
theorem L1:∀(m:Nat) (rs:List Road) (L:List Int) (A:LA) (K:List (Int×Int)) (b:Bool),Ov m rs L A K->m<=7->(∀r∈rs,HZ m r)->KD [Ax m rs L A K,Ae m rs,.lst (L.map D.int),.bl b]=.ok (.sh (.bl true)):=(zb Hi).2
theorem Td:∃F:List D->M D,(∀ {P w K mg base f fd},Txt K mg->W6 K "law" "law" Gr f fd->CG P w K mg base Z9 8 f fd ["_law_script"] (S7 K 1 F))/\(∀ns:List Int,ns.length<=63->(∀n∈ns,Sm n)->F [.lst (ns.map D.int)]=.ok (.bl true)):=by
 refine⟨_,fun {P w K mg base f fd} T F=>mX (k:=7) F G6 _ (λ B7 A outer s H E hr=>(A4 (Lk (NB:=["_law_cell"]) 1 [none] G6.nd rfl (ye rfl) rfl (Bk (As (Jx (A1 0 (pv 0)) P8 (Ji A7)))) rfl rfl (Br 0 (by decide) rfl rfl rfl) (λ _ _ _ _=>EK) (λ _ _ _ _=>(BA (A1 0 (pv 0)) (OY A7 A7)))) (A4 (AJ 2 G6.nd rfl (ye rfl) (As (En (Ao (Ek rfl).toXCall (Tb T) (hr.mono (by decide)) rfl (A3 (A1 1 (pv 1)) (A3 A7 A9)) rfl)))) (A4 (AJ 3 G6.nd rfl (ye rfl) (As (En (Ao (Ek rfl).toXCall (PQ T) (hr.mono (by decide)) rfl (A3 (Ah (AY hr 16 (by decide)) (A1 2 (pv 2)) A7) (A3 (So rfl rfl T.Yy (A1 1 (pv 1))) A9)) rfl)))) (A4 (AJ 4 G6.nd rfl (ye rfl) (As (En (Ao (Ek rfl).toXCall (OF T) (hr.mono (by decide)) rfl (A3 (AR (A3 (Ah (AY hr 16 (by decide)) (A1 2 (pv 2)) A7) (A3 (As (Dw rfl T.BP (Ah (AY hr 16 (by decide)) (A1 2 (pv 2)) A7))) A9))) A9) rfl)))) (A4 (BJ 5 G6.nd rfl (ye rfl) (Xm (Em (AZ (Ah (AY hr 16 (by decide)) (A1 2 (pv 2)) A7)) (Em (Dw rfl T.BP (Ah (AY hr 16 (by decide)) (A1 2 (pv 2)) A7)) FU)))) (A4 (BJ 6 G6.nd rfl (ye rfl) (Dw rfl T.BP (A1 3 (pv 3)))) (A4 (AJ 7 G6.nd rfl (ye rfl) (As (GP (M6 (Em (En (ZP (Ek rfl).toXCall (Ce T).v.vC (hr.mono (by decide)) rfl (A3 (A1 5 (pv 5)) (A3 (A1 6 (pv 6)) A9)) rfl)) (Em (En (XI (Ek rfl).toXCall (Ce T).v (hr.mono (by decide)) rfl (A3 (A1 5 (pv 5)) A9) rfl)) (Em (En (Yp (Ek rfl).toXCall (Ce T) (hr.mono (by decide)) rfl (A3 (A1 5 (pv 5)) A9) (A1 6 (pv 6)) rfl)) FU))))))) (A4 (Be (Iz (DW.dt (Dr (EJ (c:=true) (AY hr 16 (by decide)) (A1 5 (pv 5)) (A1 2 (pv 2))) (Cs (EJ (c:=true) (AY hr 16 (by decide)) (A1 6 (pv 6)) (A1 3 (pv 3))))))) (A8 (S4 (OV BY))) AB) (A4 (Qx (TJ (Bd 5 (pv 5)) A7)) (A4 (Mc (Bd 6 (pv 6))) (A4 (Ej PassesOwn.never rfl (Hr (c:=true) rfl T.HQ A7) (BH 8 G6.nd rfl (ye rfl)) (A8 (Be (BM (Bs (c:=true) (As (En (Ao (Ek rfl).toXCall (Rx T) (hr.mono (by decide)) rfl (A3 (Ah (AY hr 16 (by decide)) (A1 7 (pv 7)) (BA (A1 8 (pv 8)) A7)) (A3 (A1 2 (pv 2)) (A3 (Ah (AY hr 16 (by decide)) (OZ (A3 (A1 3 (pv 3)) (A3 (A1 4 (pv 4)) (A3 (A1 3 (pv 3)) A9)))) (BA (A1 8 (pv 8)) A7)) (A3 (dU (AY hr 16 (by decide)) (BA (CO (CO (So rfl rfl T.Yy (A1 1 (pv 1))) (Je (A1 8 (pv 8)) A7)) (A1 8 (pv 8))) A7) A7) A9)))) rfl))))) (A8 (S4 (OV BY))) AB))) (A8 (S4 (OV BY))))))))))))))),?_⟩;intro ns fj dz;have e0:AI ["_law_script","_law_cells","_law_land","_law_low_first","_law_best","_law_handed","_law_line","_law_ladders","_law_k"] [.lst (ns.map D.int)]=[some (.val (.lst (ns.map D.int))),none,none,none,none,none,none,none,none]:=rfl;rw[e0];refine nR ?_;obtain⟨T,j3,hT⟩:∃T:Int,0<T/\Ql (.int 10) (.int 60)=.ok (.int T):=⟨10^60,by decide,rfl⟩;have s1:Xy none (some 25) (.lst (ns.map D.int))=.ok (.lst (((ns.take 25).map D.int).map .sh)):=by rw[List.map_take];exact QF _ 25
 have jt:((ns.take 25).map D.int).length<=1000:=by rw[ze,xi];omega
 obtain⟨m,rs,bB,be,df,Ar,hF⟩:=Tc ((ns.take 25).map λ c=>c%T) (by rw[ze,xi];omega) (λ c hc=>by obtain⟨x,_,rfl⟩:=zJ.mp hc;exact yN _ (by omega));apply wp_step
 ·simp_arith[s1,if_pos jt];rw[CV (λ c=>D.int (c%T)) (λ c hc=>⟨_,rfl,rfl,by simp_arith[hT,Bl j3]⟩)];simp_arith[];rfl
 have e1:((ns.take 25).map λ c=>D.int (c%T))=((ns.take 25).map λ c=>c%T).map D.int:=by rw[yj];rfl
 rw[e1];apply wp_step
 ·simp_arith[hF];rfl
 have n0:B9 (Ae m rs) (.int 0)=.ok (.int m):=rfl;obtain⟨L,hL,wm⟩:=PR m ((ns.take 25).map λ c=>c%T).sum (by omega);have qw:∀r∈rs,Ie m r/\r.a≠r.b:=λ r hr=>(Ar r hr).tO;have n1:B9 (Ae m rs) (.int 1)=.ok (.lst (rs.map C2)):=rfl;have lu:=Lu m rs;have nd:D.tup [.int m,.lst (rs.map C2)]=Ae m rs:=rfl;have uj:=OG m rs (by omega) qw;obtain⟨B,hB⟩:∃B,B=Sx m (Bu rs) (AN m):=⟨_,rfl⟩;have wn:B.Perm (AN m):=by rw[hB];exact QZ m _ _ (FE m)
 rw[<-hB] at uj;obtain⟨A,K,ok,hI⟩:=EE m rs (.lst (L.map D.int)) L bB (by omega) (by omega) Ar hL (.inl rfl);obtain⟨A2,K2,wo,wp⟩:=EE m rs .Ay B bB (by omega) (by omega) Ar wn (.inr ⟨rfl,hB⟩);have uk:=λ b=>L1 m rs L A K b ok be Ar;have wq:=λ b=>L1 m rs B A2 K2 b wo be Ar;have g1:KR (BX (.ins "Ladder" [] []) [Ae m rs,.lst (L.map D.int)])=.ok (MI m rs L A K):=by rw[hI];rfl
 have g2:KR (BX (.ins "Ladder" [] []) [Ae m rs,.Ay])=.ok (MI m rs B A2 K2):=by rw[wp];rfl
 have e8:=El (Ll (n:=15) L);have qr:=El ((XO m rs).le (show 3<=16 by omega));have e3:=dB (MI m rs L A K) (MI m rs B A2 K2) (MI m rs L A K);rw[Ut,Ut] at e3;have wr:=oN (Km m rs L A K) (Km m rs B A2 K2) (Km m rs L A K);apply wp_step
 ·simp_arith[n0,wm];rfl
 try simp only[zH,zy]
 refine wp_step (ρ':=[some (.val (.lst (ns.map D.int))),some (.val (.lst (((ns.take 25).map λ c=>c%T).map D.int))),some (.val (Ae m rs)),some (.val (.lst (L.map D.int))),some (.val (.lst (B.map D.int))),none,none,none,none]) (by simp_arith[n0,n1,nd,uj];try rfl) ?_;refine wp_step (ρ':=[some (.val (.lst (ns.map D.int))),some (.val (.lst (((ns.take 25).map λ c=>c%T).map D.int))),some (.val (Ae m rs)),some (.val (.lst (L.map D.int))),some (.val (.lst (B.map D.int))),some (.ow (.tree none (.tup [.sh (.int m),.lst ((rs.map C2).map .sh)]))),none,none,none]) (by simp_arith[n0,n1];try rfl) ?_;refine wp_step (ρ':=[some (.val (.lst (ns.map D.int))),some (.val (.lst (((ns.take 25).map λ c=>c%T).map D.int))),some (.val (Ae m rs)),some (.val (.lst (L.map D.int))),some (.val (.lst (B.map D.int))),some (.ow (.tree none (.tup [.sh (.int m),.lst ((rs.map C2).map .sh)]))),some (.own (L.map D.int)),none,none]) (by simp_arith[];try rfl) ?_;refine wp_step (ρ':=[some (.val (.lst (ns.map D.int))),some (.val (.lst (((ns.take 25).map λ c=>c%T).map D.int))),some (.val (Ae m rs)),some (.val (.lst (L.map D.int))),some (.val (.lst (B.map D.int))),some (.ow (.tree none (.tup [.sh (.int m),.lst ((rs.map C2).map .sh)]))),some (.own (L.map D.int)),some (.val (.lst [Ax m rs L A K,Ax m rs B A2 K2,Ax m rs L A K])),none]) (by simp_arith[lu,yQ,List.nil_append,g1,g2,wr,e3];try rfl) ?_;refine wp_step (ρ':=[some (.val (.lst (ns.map D.int))),some (.val (.lst (((ns.take 25).map λ c=>c%T).map D.int))),some (.val (Ae m rs)),some (.val (.lst (L.map D.int))),some (.val (.lst (B.map D.int))),some (.ow (.tree none (.tup [.sh (.int m),.lst ((rs.map C2).map .sh)]))),some (.own (L.map D.int)),some (.val (.lst [Ax m rs L A K,Ax m rs B A2 K2,Ax m rs L A K])),none]) (by simp_arith[lu,qr,e8,Dx];try rfl) ?_;obtain⟨p1,p2,p3,p4⟩:=rL (i:=5) (ρ:=[some (.val (.lst (ns.map D.int))),some (.val (.lst (((ns.take 25).map λ c=>c%T).map D.int))),some (.val (Ae m rs)),some (.val (.lst (L.map D.int))),some (.val (.lst (B.map D.int))),some (.ow (.tree none (.tup [.sh (.int m),.lst ((rs.map C2).map .sh)]))),some (.own (L.map D.int)),some (.val (.lst [Ax m rs L A K,Ax m rs B A2 K2,Ax m rs L A K])),none]) (ds:=rs.map C2) rfl;refine wp_step (ρ':=[some (.val (.lst (ns.map D.int))),some (.val (.lst (((ns.take 25).map λ c=>c%T).map D.int))),some (.val (Ae m rs)),some (.val (.lst (L.map D.int))),some (.val (.lst (B.map D.int))),some (.ow (.tree none (.tup [.sh (.int m),.lst []]))),some (.own (L.map D.int)),some (.val (.lst [Ax m rs L A K,Ax m rs B A2 K2,Ax m rs L A K])),none]) (by
  simp only[M.A6,p1,p2,p3,Nl,p4];rfl) ?_
 refine wp_step (ρ':=[some (.val (.lst (ns.map D.int))),some (.val (.lst (((ns.take 25).map λ c=>c%T).map D.int))),some (.val (Ae m rs)),some (.val (.lst (L.map D.int))),some (.val (.lst (B.map D.int))),some (.ow (.tree none (.tup [.sh (.int m),.lst []]))),some (.own (L.map D.int).reverse),some (.val (.lst [Ax m rs L A K,Ax m rs B A2 K2,Ax m rs L A K])),none]) (by simp_arith[];try rfl) ?_;have wt:UW (.int 6)=.ok (C6 0 6):=LV (n:=6) (by omega);refine C8 (I:=λ ρ=>∃s8,ρ=[some (.val (.lst (ns.map D.int))),some (.val (.lst (((ns.take 25).map λ c=>c%T).map D.int))),some (.val (Ae m rs)),some (.val (.lst (L.map D.int))),some (.val (.lst (B.map D.int))),some (.ow (.tree none (.tup [.sh (.int m),.lst []]))),some (.own (L.map D.int).reverse),some (.val (.lst [Ax m rs L A K,Ax m rs B A2 K2,Ax m rs L A K])),s8]) ?_ ?_
 ·simp_arith[wt];refine Es (λ i ρ=>∃s8,ρ=[some (.val (.lst (ns.map D.int))),some (.val (.lst (((ns.take 25).map λ c=>c%T).map D.int))),some (.val (Ae m rs)),some (.val (.lst (L.map D.int))),some (.val (.lst (B.map D.int))),some (.ow (.tree none (.tup [.sh (.int m),.lst []]))),some (.own (L.map D.int).reverse),some (.val (.lst [Ax m rs L A K,Ax m rs B A2 K2,Ax m rs L A K])),s8]) ⟨none,rfl⟩ ?_ ?_
  ·rintro i d ρ hd ⟨s8,rfl⟩;obtain⟨cL,hi⟩:=FT hd;rw[Int.zero_add] at cL;subst cL;obtain⟨lx,M,x1,x2,wu⟩:∃(lx:D) (M:List Int),B9 (.lst [Ax m rs L A K,Ax m rs B A2 K2,Ax m rs L A K]) (.int ((i:Int)%3))=.ok lx/\B9 (.lst [.lst (L.map D.int),.lst (B.map D.int),.lst (L.map D.int)]) (.int ((i:Int)%3))=.ok (.lst (M.map D.int))/\∀b,KD [lx,Ae m rs,.lst (M.map D.int),.bl b]=.ok (.sh (.bl true)):=by
    have e:((i:Int)%3)=((i%3:Nat):Int):=by omega
    have h3:i%3=0\/i%3=1\/i%3=2:=by omega
    rw[e];rcases h3 with h|h|h<;>rw[h]
    ·exact⟨_,L,rfl,rfl,uk⟩
    ·exact⟨_,B,rfl,rfl,wq⟩
    ·exact⟨_,L,rfl,rfl,uk⟩
   have m3:GG (.int (i:Int)) (.int 3)=.ok (.int ((i:Int)%3)):=Bl (by decide);have f3:LS (.int (i:Int)) (.int 3)=.ok (.int ((i:Int) / 3)):=HL (by unfold OK;omega);have m4:∀x:Int,GG (.int x) (.int 4)=.ok (.int (x%4)):=λ x=>Bl (by decide);refine⟨_,rfl,?_⟩;refine D9 (ρ':=[some (.val (.lst (ns.map D.int))),some (.val (.lst (((ns.take 25).map λ c=>c%T).map D.int))),some (.val (Ae m rs)),some (.val (.lst (L.map D.int))),some (.val (.lst (B.map D.int))),some (.ow (.tree none (.tup [.sh (.int m),.lst []]))),some (.own (L.map D.int).reverse),some (.val (.lst [Ax m rs L A K,Ax m rs B A2 K2,Ax m rs L A K])),some (.val (.int (i:Int)))]) (by simp_arith[m3,f3,m4,x1,x2,wu,Dx];try rfl) ⟨_,rfl⟩
  ·rintro ρ ⟨s8,rfl⟩;exact⟨s8,rfl⟩
 ·rintro ρ ⟨s8,rfl⟩;rfl
noncomputable def YE:List D->M D:=zo Td
theorem kE {P w K mg base f fd}:Txt K mg->W6 K "law" "law" Gr f fd->CG P w K mg base Z9 8 f fd ["_law_script"] (S7 K 1 YE):=(zb Td).1
theorem kF:∀ns:List Int,ns.length<=63->(∀n∈ns,Sm n)->YE [.lst (ns.map D.int)]=.ok (.bl true):=(zb Td).2
theorem all_mk {l:PySem.W.OpenLaw}{w:World}{K:za}{h:Heap}{mg:Str->Option Value}{fa:Addr}(X:K.In h)(G:h.Ns mainGlobals mg)(wv:mg "law" = some (.ref fa))
 {ad:Addr} {lw:Addr} {qy dg:Option Addr} {qz:Array (Option Value)} {q9 dh di dk c5 dl:Value} {c6:Addr} {to24:Value} {rb:Option Addr} {rc:Nat} {re:Array (Option Value)} {rf:Addr} {rh j4:Option Addr} {rj:Array (Option Value)} {rm j5 j6 j7 g7 j8:Value} {bM:Addr} {bN:Addr} {bh:Addr}
 (af:zd K mainGlobals "Ladder" = some (some (.ref ad))) (aL:xv K ad Str.empty=true) (aM:PySem.W.hasDictIn K ad=true) (aN:PySem.W.plainOver K ad=true) (aO:zl K (.ref ad) "__setattr__" = some (some (.builtin "object.__setattr__"))) (aP:PySem.W.makesIn K ad=true) (aQ:zV K (.ref ad)=true)
 (p1:FP K "is_whole_below" D2)
 (p2:FP K "is_measure" G1)
 (p3:FP K "is_road" Kn)
 (p4:FP K "is_map" MJ)
 (p5:FP K "checked" Kq)
 (p6:FP K "added" Pz)
 (p7:FP K "least" PB)
 (p8:FP K "road_cost" GW)
 (p9:FP K "cost_so_far" EX)
 (rn:FP K "lay" Yu)
 (rp:FP K "lay_over" II)
 (rq:FP K "laid_arcs" GX)
 (r6:FP K "arc_costs" GY)
 (r9:FP K "middles" Kr)
 (rM:FP K "is_order" IJ)
 (rN:FP K "checked_order" Dk)
 (rO:FP K "first_bows" G2)
 (rP:FP K "missing_bows" Ez)
 (rQ:FP K "lightest" IK)
 (rR:FP K "ranked" MM)
 (rS:FP K "costs_from" G3)
 (rT:FP K "order_or_ranked" Cw)
 (rV:FP K "kept_arcs" GZ)
 (rW:MP K ad "told_map" "Ladder.told_map" Cy)
 (rX:MP K ad "order" "Ladder.order" EA)
 (rY:MP K ad "arcs" "Ladder.arcs" EZ)
 (rZ:MP K ad "checked_arc" "Ladder.checked_arc" BO)
 (se:MP K ad "cost" "Ladder.cost" F0)
 (sf:MP K ad "middle" "Ladder.middle" Dl)
 (sg:FP K "_law_mixed" H9)
 (so:FP K "_law_road" IQ)
 (sq:FP K "_law_map" Ku)
 (sr:FP K "_law_order" Ha)
 (ss:FP K "_law_told" IR)
 (sv:zl K (.ref ad) "__init__" = some (some (.ref lw))) (sw:xw K (.ref lw)=true)
 (sx:K.lookup lw=some ⟨q9,qy,.func (zT "__init__" "Ladder.__init__" (AL Ak) (Az Ak) (A5 Ak) (.ref c6) dh di dk dg c5 dl),qz⟩) (sy:yh K c5 "Ladder.__init__" = true) (s9:zV K (.ref lw)=true)
 (c7:K.lookup c6=some ⟨to24,rb,.seq #[.none] rc,re⟩)
 (ly:zd K mainGlobals "law" = some (some (.ref rf)))
 (sA:K.lookup rf=some ⟨rm,rh,.func (zT "law" "law" (AL Gr) (Az Gr) (A5 Gr) .none j5 j6 j7 j4 g7 j8),rj⟩) (sB:yh K g7 "law" = true) (sC:zV K (.ref rf)=true)
 (z1:zd K mainGlobals "all" = some none)
 (z2:zd K mainGlobals "bool" = some none)
 (z3:zd K mainGlobals "dict" = some none)
 (z4:zd K mainGlobals "enumerate" = some none)
 (z5:zd K mainGlobals "int" = some none)
 (z6:zd K mainGlobals "isinstance" = some none)
 (z7:zd K mainGlobals "len" = some none)
 (z8:zd K mainGlobals "list" = some none)
 (z9:zd K mainGlobals "min" = some none)
 (sD:zd K mainGlobals "range" = some none)
 (sE:zd K mainGlobals "sorted" = some none)
 (sF:zd K mainGlobals "sum" = some none)
 (sG:zd K mainGlobals "tuple" = some none)
 (aS:zd K mainGlobals "NoArc" = some (some (.ref bM)))
 (aT:zd K mainGlobals "NoMap" = some (some (.ref bN)))
 (aA:zd K mainGlobals "NoOrder" = some (some (.ref bh)))
 (bt:yO K bM [.type "ValueError",.type "Exception",.type "BaseException",.type "object"] "ValueError.__new__" = true)
 (bu:yO K bN [.type "ValueError",.type "Exception",.type "BaseException",.type "object"] "ValueError.__new__" = true)
 (aR:yO K bh [.type "ValueError",.type "Exception",.type "BaseException",.type "object"] "ValueError.__new__" = true)
 (al:zl K (.ref ad) "kept_ones" = some none)
 (aw:zl K (.ref ad) "laid" = some none)
 (av:zl K (.ref ad) "own_map" = some none)
 (am:zl K (.ref ad) "own_order" = some none):
 ∃fd:FuncData,(∀(s:Shared) (v:Value),BindsTo s fd ⟨[v],[]⟩ [("_law_script",v)])/\∀base:Heap,K.In base->base.Ns mainGlobals mg->CG l.prog w K mg base Z9 8 fa fd ["_law_script"] (S7 K 1 YE):=by
 have e:=wv.symm.trans (PySem.W.mg_of X G ly);cases e;have ai:UE K ad:=⟨aL,aM,aN,aO⟩;have ww:=ZS (st:=Ak) sx sy s9;have wx:Binds K (zT "__init__" "Ladder.__init__" (AL Ak) (Az Ak) (A5 Ak) (.ref c6) dh di dk dg c5 dl) ["self","net","order"] []:=λ s us hK hl=>by
  have aB:us.length=3:=by simpa using hl
  match us,aB with
  |[_,_,_],_=>exact PySem.W.binds_K hK rfl c7 rfl rfl rfl
 have wy:Binds K (zT "__init__" "Ladder.__init__" (AL Ak) (Az Ak) (A5 Ak) (.ref c6) dh di dk dg c5 dl) ["self","net","order"] [.none]:=λ s us hK hl=>by
  have aB:us.length=2:=by simpa using hl
  match us,aB with
  |[_,_],_=>exact PySem.W.binds_K hK rfl c7 rfl rfl rfl
 have wz:oK K (zT "__init__" "Ladder.__init__" (AL Ak) (Az Ak) (A5 Ak) (.ref c6) dh di dk dg c5 dl) ["self","net","order"] "order" := λ s us u hK hl=>by
  have aB:us.length=2:=by simpa using hl
  match us,aB with
  |[_,_],_=>exact PySem.W.binds_K hK rfl c7 rfl rfl rfl
 have w4:SO K mg "Ladder" "Ladder.__init__" Ak ["self","net","order"]:=⟨_,_,_,⟨af,PySem.W.mg_of X G af⟩,⟨aP,sv,sw,aQ⟩,ww,⟨wx,wy⟩,wz⟩;have sH:=RX (st:=Gr) sA sB sC;have w5:B4 K mg "law" Gr ["_law_script"]:=⟨_,_,sH,PySem.W.mg_of X G ly,sH.binds λ _ _ _ _ _ _ us hl=>match us,hl with|[_],_=>rfl⟩;have T:Txt K mg:=⟨Bp X G p1,Bp X G p2,Bp X G p3,Bp X G p4,Bp X G p5,Bp X G p6,Bp X G p7,Bp X G p8,Bp X G p9,Bp X G rn,Bp X G rp,Bp X G rq,Bp X G r6,Bp X G r9,Bp X G rM,Bp X G rN,Bp X G rO,Bp X G rP,Bp X G rQ,Bp X G rR,Bp X G rS,Bp X G rT,Bp X G rV,w4,Of af ai rW,Of af ai rX,Of af ai rY,Of af ai rZ,Of af ai se,Of af ai sf,Bp X G sg,Bp X G so,Bp X G sq,Bp X G sr,Bp X G ss,w5,yb X G z1,yb X G z2,yb X G z3,yb X G z4,yb X G z5,yb X G z6,yb X G z7,yb X G z8,yb X G z9,yb X G sD,yb X G sE,yb X G sF,yb X G sG,⟨_,aS,PySem.W.mg_of X G aS,bt⟩,⟨_,aT,PySem.W.mg_of X G aT,bu⟩,⟨_,aA,PySem.W.mg_of X G aA,aR⟩,⟨_,af,ai,al⟩,⟨_,af,ai,aw⟩,⟨_,af,ai,av⟩,⟨_,af,ai,am⟩⟩;refine⟨zT "law" "law" (AL Gr) (Az Gr) (A5 Gr) .none j5 j6 j7 j4 g7 j8,λ s v=>.of_eq rfl,λ base _ _=>?_⟩;exact kE T sH
set_option maxHeartbeats 0 in
set_option maxHeartbeats 0 in
set_option maxHeartbeats 0 in
set_option maxHeartbeats 0 in
theorem left (w:World):(PySem.W.openEnds treeTable PySem.Challenge.pw_nodeladder_k31_ladder_told w 6100).map (λ s=>PySem.W.openSeen (CH PySem.Challenge.pw_nodeladder_k31_ladder_told) [] (importedModules PySem.Challenge.pw_nodeladder_k31_ladder_told.main.body) (λ s=>PySem.W.xlAt (CH PySem.Challenge.pw_nodeladder_k31_ladder_told) [] s&&PySem.W.recOk [] s) true s)=some (PySem.W.openGood (CH PySem.Challenge.pw_nodeladder_k31_ladder_told) []):=by
 rw[U4,iT,PySem.W.Fast.te4187177175401517315,PySem.W.Fast.te5923862056798008813,PySem.W.Fast.te4444772185895850038];exact Pm (kU w) (Pm (kW w) (Pm (kX w) (kY w)))
set_option maxHeartbeats 0 in
theorem kG (w:World):Wb (Kp R0 PySem.Challenge.pw_nodeladder_k31_ladder_told w) PySem.Challenge.pw_nodeladder_k31_ladder_told:=by
 rw[iT,PySem.W.Fast.te4444772185895850038];exact YH w
set_option maxHeartbeats 0 in
theorem kH (w:World):Wc (Kp R0 PySem.Challenge.pw_nodeladder_k31_ladder_told w) PySem.Challenge.pw_nodeladder_k31_ladder_told:=by
 rw[iT,PySem.W.Fast.te4444772185895850038];exact YI w
theorem walk {l:PySem.W.OpenLaw}{q:Program}{loose:List Str}{XP:(Str->Option Value)->Heap->Prop}{YP:World->Heap->Prop}{d:DefRec}{K:World->za}(hn:l.most=some 63)(gi:d.params.defaults=[])
 (hY:∀(w:World) (h:Heap),YP w h->(K w).In h)
 (F:∀(w:World) (mg:Str->Option Value) (fa:Addr) (h:Heap),(K w).In h->h.Ns mainGlobals mg->mg d.name=some (.ref fa)->
  ∃fd:FuncData,(∀(s:Shared) (u:Value),BindsTo s fd ⟨[u],[]⟩ [("_law_script",u)])/\∀base:Heap,(K w).In base->base.Ns mainGlobals mg->CG l.prog w (K w) mg base Z9 8 fa fd ["_law_script"] (S7 (K w) 1 YE)):
 PySem.W.WalkO q loose XP YP l.row.toRowW d [] (λ f vs=>PySem.call f vs):=
 L2.nV (n:=63) (k:=8) (x := "_law_script") (CX:=λ _=>Z9) (sp:=λ w=>S7 (K w) 1 YE) hn (by decide) gi ⟨rfl,by decide,by decide⟩ hY F (λ w H a ns dz hl _ hS=>Zu kF (K w) H a ns dz hl hS) λ _ _ _ _ _ z=>z
end cE
open PySem PySem.W PyProof.Rows L2
set_option maxRecDepth 100000 in
set_option maxHeartbeats 0 in
theorem PySem.Challenge.cw_nodeladder_k31_ladder_told_holds : PySem.Challenge.rw_nodeladder_k31_ladder_told.Holds := by
 w_on;o_law
 refine holds_open (q:=CH PySem.Challenge.pw_nodeladder_k31_ladder_told) (loose:=[]) (Xt:=λ s=>xlAt (CH PySem.Challenge.pw_nodeladder_k31_ladder_told) [] s&&recOk [] s) (XP:=XL (CH PySem.Challenge.pw_nodeladder_k31_ladder_told) []) (Yf:=λ s=>s.heap) (Ya:=λ w=>Wa R0 PySem.Challenge.pw_nodeladder_k31_ladder_told w 6100) (YP:=λ w h=>nU (Wa R0 PySem.Challenge.pw_nodeladder_k31_ladder_told w 6100) h) (N:=6100) (ZT cE.left) (λ w s e b o q=>by rw[<-e] at q;exact q) (λ w h h' a b c o q=>b c o (a c o q)) (λ s e=>xl_of s (Bool.and_eq_true_iff.mp e).1) XL.keeps (by rfl) (by rfl) (by rfl) (λ s e=>recFacts_of (Bool.and_eq_true_iff.mp e).2) (by rfl) (by first|assumption|decide +kernel) (by decide +kernel) ⟨rfl,rfl,rfl,rfl,rfl,by decide +kernel⟩ ?hw ?hc;case hw=>w_witness2
 case hc =>
  refine cE.walk (l:=PySem.Challenge.rw_nodeladder_k31_ladder_told) (K:=cE.Kp R0 PySem.Challenge.pw_nodeladder_k31_ladder_told) rfl rfl (λ w h Y=>iU Y) ?F;intro w mg fa h KX G gj;obtain⟨af,aL,aM,aN,aO,aP,aQ,p1,p2,p3,p4,p5,p6,p7,p8,p9,rn,rp,rq,r6,r9,rM,rN,rO,rP,rQ,rR,rS,rT,rV,rW,rX,rY,rZ,se,sf,sg⟩:=cE.kG w;obtain⟨so,sq,sr,ss,sv,sw,sx,sy,s9,c7,ly,sA,sB,sC,z1,z2,z3,z4,z5,z6,z7,z8,z9,sD,sE,sF,sG,aS,aT,aA,bt,bu,aR,al,aw,av,am⟩:=cE.kH w;exact cE.all_mk KX G gj af aL aM aN aO aP aQ p1 p2 p3 p4 p5 p6 p7 p8 p9 rn rp rq r6 r9 rM rN rO rP rQ rR rS rT rV rW rX rY rZ se sf sg so sq sr ss sv sw sx sy s9 c7 ly sA sB sC z1 z2 z3 z4 z5 z6 z7 z8 z9 sD sE sF sG aS aT aA bt bu aR al aw av am
