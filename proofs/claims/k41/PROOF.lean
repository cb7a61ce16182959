import PyProof.Rows.All
import Wide.All
import OpenK.AllK
import Wide.FinOn
import Lean
import PyProof.EqAt
import PyProof.EqKinds
import PyProof.TupleCall
import PyProof.NeKinds
import KE.KRevSl
import KE.KIsAll
import PyProof.ExcArgsOwn
import PyProof.ExcAttrAll.ValueError
import PyProof.ExcBaseAll.ValueError
import PyProof.FitsBits
import KE.LcSums
import KE.KRevIter
import PyProof.ListRange
import PyProof.Rows.SumAny
import PyProof.Rows.SortWalk
import PyProof.AttrMissHeap
import KE.KDictOf
import PyProof.ZipIter
import PyProof.DictWalks
import KE.KDictList
import KE.KFind
import PySem.Challenge.RW_nodeladder_k41_climbed
set_option Elab.async false
set_option linter.all false
set_option maxRecDepth 1000000
open PySem.W renaming Frag→za,nsIn→zd,findIn→zi,keepIn→zO,fnOf→zR,mg_none_of→ya,codeIn→yc,emptyDict→yo,hideAll_get→y6,excIn→yA,kia_one→yE,instObj→yF,kitOne→yW,plainGet→yY,isFn→yZ
open Classical renaming choose_spec→zb,choose→zh,propDecidable→xn
open List renaming mem_cons_self→zc,length_map→ze,mem_cons_of_mem→zf,map_cons→zg,getElem?_eq_getElem→zj,size_toArray→zk,mem_append_right→zl,mem_of_getElem?→zo,length_cons→zp,mem_singleton→zq,mem_cons→zr,set_cons_succ→zu,getElem?_eq_some_iff→zv,set_cons_zero→zx,replicate→zy,mem_append→zC,nodup_append→zH,getElem?_map→zI,mem_append_left→zJ,length_append→zK,mem_map→zM,foldl_cons→zN,getElem?_cons_succ→zQ,getElem?_set_self→zU,map_append→zW,append_nil→zX,range→yf,mem_filter→yg,take_length→yh,getElem?_set_ne→yi,map_map→yj,take_add_one→yl,nodup_cons→ym,mem_of_mem_take→yn,getD_eq_getElem?_getD→yq,replicate_succ→yr,nodup_nil→yu,getElem?_append_left→yv,take_append_drop→yw,getElem?_cons_zero→y4,append_assoc→y7,length_set→y9,length_take→yB,length_singleton→yC,length_filter_le→yD,lookup_cons→yM,find?_cons→yQ,any_cons→yV,getElem?_append_right→yX,mem_range→xf,drop_eq_getElem_cons→xg,length_drop→xj,drop_length→xk,cons_append→xl
open PySem.Heap renaming get?_push_of_some→zm,lt_size→zt,get?_push_size→zF,get?_update_other→yN,get?_update_self→yR,SameBut→yS
open Nat renaming le_refl→zw,lt_of_lt_of_le→zA,ne_of_lt→zD,zero_le→zS,le_trans→zY,le_of_lt→yd
open Bool renaming false_eq_true→zB,false_ne_true→zL,and_eq_true→zP,eq_iff_iff→yK
open Option.some renaming inj→zE
open Prod renaming fst→zG,snd→yp
open PySem.F renaming plain_min_loop→zT,plainAttrs_list→yz
open Or renaming inl→zV
open PySem.Value renaming ref→zZ
open Ne renaming symm→yb
open PySem.Builtin.Int renaming intBits→ye
open PyProof.Rows renaming callWith_type1→yk
open Option renaming map_some→yt,isSome_iff_exists→xi
open Int renaming emod_nonneg→yx,emod_lt_of_pos→yy,toNat_natCast→y8
open PySem.W.Fast renaming tw5923862056798008813→y2,tw4187177175401517315→y3
open PySem.Around renaming under_plainId→yG
open False renaming elim→yH
open True renaming intro→yI
open PySem.Builtin.Builtins renaming bindParams→yJ
open PySem.Obj renaming mapSeq→yL
open PySem.Calls renaming spliced_cons→yO,spliced_nil→yT
open PySem.NameKind renaming free→yP
open PySem.Builtin.List renaming listTooLong→yU
open PySem renaming mem_of_lookup→xh
open ForInStep renaming yield→xm
section
set_option maxHeartbeats 0
namespace L2
open PySem PySem.Spec PyProof.Rows PySem.W PySem.Calls
noncomputable def inClass (s:Stmt)(j:Nat):Stmt:=match s with
 | .ClassDef _ _ _ body _ _ _ _ _ _ _=>body.getD j (.Pass ⟨0,0,0,0⟩)
 |_=>.Pass ⟨0,0,0,0⟩
noncomputable def AS (s:Stmt):Arguments:=match s with
 | .FunctionDef _ a _ _ _ _ _ _ _ _=>a
 |_=>{posonlyargs:=[],args:=[],vararg:=none,kwonlyargs:=[],kw_defaults:=[],kwarg:=none,defaults:=[]}
noncomputable def Az (s:Stmt):List Stmt:=match s with
 | .FunctionDef _ _ b _ _ _ _ _ _ _=>b
 |_=>[]
noncomputable def A3 (s:Stmt):Scope:=match s with
 | .FunctionDef _ _ _ _ _ _ sc _ _ _=>sc
 |_=>{kind:=.function,names:=[],isGenerator:=false,isCoroutine:=false}
structure FP (K:za)(x:Str)(st:Stmt):Prop where
 ex:∃(f:Addr) (oc:Value) (od an:Option Addr) (sl:Array (Option Value)) (kV dc pm cd ct:Value),zd K mainGlobals x=some (some (.ref f))/\K.lookup f=some ⟨oc,od,.func (zR x x (AS st) (Az st) (A3 st) .none kV dc pm an cd ct),sl⟩/\yc K cd x=true/\zO K (.ref f)=true
def lM {K:za}{x:Str}{st:Stmt}{f:Addr}{oc:Value}{od an:Option Addr}{sl:Array (Option Value)}{kV dc pm cd ct:Value}(a:zd K mainGlobals x=some (some (.ref f)))(l:K.lookup f=some ⟨oc,od,.func (zR x x (AS st) (Az st) (A3 st) .none kV dc pm an cd ct),sl⟩)(c:yc K cd x=true)(k:zO K (.ref f)=true):FP K x st:=⟨⟨f,oc,od,an,sl,kV,dc,pm,cd,ct,a,l,c,k⟩⟩
structure MP (K:za)(C:Addr)(m qual:Str)(st:Stmt):Prop where
 ex:∃(f:Addr) (oc:Value) (od an:Option Addr) (sl:Array (Option Value)) (kV dc pm cd ct:Value),zi K (.ref C) m=some (some (.ref f))/\yZ K (.ref f)=true/\K.lookup f=some ⟨oc,od,.func (zR m qual (AS st) (Az st) (A3 st) .none kV dc pm an cd ct),sl⟩/\yc K cd qual=true/\zO K (.ref f)=true
def lN {K:za}{C:Addr}{m qual:Str}{st:Stmt}{f:Addr}{oc:Value}{od an:Option Addr}{sl:Array (Option Value)}{kV dc pm cd ct:Value}(a:zi K (.ref C) m=some (some (.ref f)))(i:yZ K (.ref f)=true)(l:K.lookup f=some ⟨oc,od,.func (zR m qual (AS st) (Az st) (A3 st) .none kV dc pm an cd ct),sl⟩)(c:yc K cd qual=true)(k:zO K (.ref f)=true):MP K C m qual st:=⟨⟨f,oc,od,an,sl,kV,dc,pm,cd,ct,a,i,l,c,k⟩⟩
noncomputable def CM (p:Program):Program:={p with main:={p.main with body:=p.main.body.filter λ s=>match s with | .FunctionDef .. =>true | .ClassDef .. =>true | _=>false} }
structure Rn where
 run:(String->Option Builtin)->Program->World->Nat->Option Value->Nat->Shared->Thread->Option Shared
 ns:Heap->Addr->Str->Option Value
 imp:(String->Option Builtin)->Program->World->Nat->Shared->Thread->Option Shared
 uD:Program->Shared->Option Shared
 st:Program->Shared×Thread
 tb:String->Option Builtin
noncomputable def LW (R:Rn)(p:Program)(w:World)(N:Nat):Option Shared:=
 ((R.imp R.tb (opening p) w N (R.st (opening p)).fst (R.st (opening p)).snd).bind (R.uD p)).bind λ s₀ =>
 match s₀.heap.isNs mainGlobals&&s₀.gens.size==0 with
 |true=>(R.run R.tb p w s₀.heap.objs.size (R.ns s₀.heap mainGlobals (Str.ofString "__annotations__")) N s₀ (topStub p)).bind λ s₁ =>
  match staticsOk (importedModules p.main.body) s₀.heap s₁.heap&&namesBound p s₁.heap&&gensDone s₁&&laidKept s₀.heap s₁.heap with
  |true=>some s₁
  |false=>none
 |false=>none
noncomputable def R1:Rn:=⟨PySem.W.Fast.tw14082659384304107361,PySem.W.Fast.tw8920871248978507458,PySem.W.Fast.tw10274390034422433532,PySem.W.Fast.tw14289696077712309145,PySem.W.Fast.tw1435165496053646825,PySem.W.Fast.tw14364793385576792824⟩
noncomputable def Ws (R:Rn)(p:Program)(w:World)(N:Nat):Heap:=match LW R p w N with | some s=>s.heap | none=>⟨#[],default⟩
noncomputable def pK (h:Heap)(as:List Addr):za:=as.filterMap λ a=>(h.get? a).map λ o=>(a,o)
noncomputable def B7 (v:Option (Option Value)):Addr:=match v with | some (some (.ref f))=>f | _=>0
noncomputable def Dm (K:za)(f:Addr):Obj:=(K.lookup f).getD ⟨.none,none,.plain,#[]⟩
noncomputable def He (d:Data)(st:Stmt):FuncData:=match d with | .func fd=>fd | _=>zR Str.empty Str.empty (AS st) [] (A3 st) .none .none .none .none none .none .none
noncomputable def US (v:Value):Addr:=match v with | .ref a=>a | _=>0
noncomputable def qK (d:Data):Nat:=match d with | .seq _ n=>n | _=>0
def Aq {K:za}{x:Str}{st:Stmt}(a:zd K mainGlobals x=some (some (.ref (B7 (zd K mainGlobals x)))):=by kernel_rfl)
 (l:K.lookup (B7 (zd K mainGlobals x))=some ⟨(Dm K (B7 (zd K mainGlobals x))).cls,(Dm K (B7 (zd K mainGlobals x))).dict,.func (zR x x (AS st) (Az st) (A3 st) .none (He (Dm K (B7 (zd K mainGlobals x))).data st).kwdefaults (He (Dm K (B7 (zd K mainGlobals x))).data st).doc (He (Dm K (B7 (zd K mainGlobals x))).data st).pyModule (He (Dm K (B7 (zd K mainGlobals x))).data st).annotations (He (Dm K (B7 (zd K mainGlobals x))).data st).code (He (Dm K (B7 (zd K mainGlobals x))).data st).closureTuple),(Dm K (B7 (zd K mainGlobals x))).slots⟩:=by kernel_rfl)
 (c:yc K (He (Dm K (B7 (zd K mainGlobals x))).data st).code x=true:=by kernel_rfl) (k:zO K (.ref (B7 (zd K mainGlobals x)))=true:=by kernel_rfl):FP K x st:=lM a l c k
def Lm {K:za}{C:Addr}{m qual:Str}{st:Stmt}(a:zi K (.ref C) m=some (some (.ref (B7 (zi K (.ref C) m)))):=by kernel_rfl)(i:yZ K (.ref (B7 (zi K (.ref C) m)))=true:=by kernel_rfl)
 (l:K.lookup (B7 (zi K (.ref C) m))=some ⟨(Dm K (B7 (zi K (.ref C) m))).cls,(Dm K (B7 (zi K (.ref C) m))).dict,.func (zR m qual (AS st) (Az st) (A3 st) .none (He (Dm K (B7 (zi K (.ref C) m))).data st).kwdefaults (He (Dm K (B7 (zi K (.ref C) m))).data st).doc (He (Dm K (B7 (zi K (.ref C) m))).data st).pyModule (He (Dm K (B7 (zi K (.ref C) m))).data st).annotations (He (Dm K (B7 (zi K (.ref C) m))).data st).code (He (Dm K (B7 (zi K (.ref C) m))).data st).closureTuple),(Dm K (B7 (zi K (.ref C) m))).slots⟩:=by kernel_rfl)
 (c:yc K (He (Dm K (B7 (zi K (.ref C) m))).data st).code qual=true:=by kernel_rfl) (k:zO K (.ref (B7 (zi K (.ref C) m)))=true:=by kernel_rfl):MP K C m qual st:=lN a i l c k
end L2
namespace c3
open PySem L2
def prim:(PySem.W.chainsOk PySem.Challenge.pw_nodeladder_k41_climbed||true)=true:=by k_qdec
def lO (w:World):(LW R1 PySem.W.Fast.tw11556603219560317063 w 6100).map (λ s=>(y3 (CM PySem.W.Fast.tw11556603219560317063) [] (y2 PySem.W.Fast.tw11556603219560317063.main.body) (λ s=>PySem.W.xlAt (CM PySem.W.Fast.tw11556603219560317063) [] s&&PySem.W.recOk [] s) true s).1)=some (PySem.W.openGood (CM PySem.W.Fast.tw11556603219560317063) []).1:=by kernel_rfl
def lP (w:World):(LW R1 PySem.W.Fast.tw11556603219560317063 w 6100).map (λ s=>(y3 (CM PySem.W.Fast.tw11556603219560317063) [] (y2 PySem.W.Fast.tw11556603219560317063.main.body) (λ s=>PySem.W.xlAt (CM PySem.W.Fast.tw11556603219560317063) [] s&&PySem.W.recOk [] s) true s).2.1)=some (PySem.W.openGood (CM PySem.W.Fast.tw11556603219560317063) []).2.1:=by kernel_rfl
def lQ (w:World):(LW R1 PySem.W.Fast.tw11556603219560317063 w 6100).map (λ s=>(y3 (CM PySem.W.Fast.tw11556603219560317063) [] (y2 PySem.W.Fast.tw11556603219560317063.main.body) (λ s=>PySem.W.xlAt (CM PySem.W.Fast.tw11556603219560317063) [] s&&PySem.W.recOk [] s) true s).2.2.1)=some (PySem.W.openGood (CM PySem.W.Fast.tw11556603219560317063) []).2.2.1:=by kernel_rfl
def lR (w:World):(LW R1 PySem.W.Fast.tw11556603219560317063 w 6100).map (λ s=>(y3 (CM PySem.W.Fast.tw11556603219560317063) [] (y2 PySem.W.Fast.tw11556603219560317063.main.body) (λ s=>PySem.W.xlAt (CM PySem.W.Fast.tw11556603219560317063) [] s&&PySem.W.recOk [] s) true s).2.2.2)=some (PySem.W.openGood (CM PySem.W.Fast.tw11556603219560317063) []).2.2.2:=by kernel_rfl
noncomputable def topP (p:Program)(i:Nat):Stmt:=p.main.body.getD i (.Pass ⟨0,0,0,0⟩)
noncomputable def Kp (R:Rn)(p:Program)(w:World):za:=pK (Ws R p w 6100) (yf 440)
def Wt (K:za)(p:Program):Prop:=
 (zd K mainGlobals "Ladder" = some (some (.ref (B7 (zd K mainGlobals "Ladder")))))/\
 (yY K (B7 (zd K mainGlobals "Ladder")) Str.empty=true)/\
 (PySem.W.hasDictIn K (B7 (zd K mainGlobals "Ladder"))=true)/\
 (PySem.W.plainOver K (B7 (zd K mainGlobals "Ladder"))=true)/\
 (zi K (.ref (B7 (zd K mainGlobals "Ladder"))) "__setattr__" = some (some (.builtin "object.__setattr__")))/\
 (PySem.W.makesIn K (B7 (zd K mainGlobals "Ladder"))=true)/\
 (zO K (.ref (B7 (zd K mainGlobals "Ladder")))=true)/\
 (FP K "is_whole_below" (topP p 7))/\
 (FP K "is_measure" (topP p 8))/\
 (FP K "is_road" (topP p 9))/\
 (FP K "is_map" (topP p 10))/\
 (FP K "checked" (topP p 11))/\
 (FP K "added" (topP p 12))/\
 (FP K "least" (topP p 13))/\
 (FP K "road_cost" (topP p 14))/\
 (FP K "kept_costs" (topP p 16))/\
 (FP K "kept_costs_turned" (topP p 17))/\
 (FP K "climbed" (topP p 18))/\
 (FP K "climbed_from" (topP p 19))/\
 (FP K "climbing_to" (topP p 20))/\
 (FP K "cost_so_far" (topP p 22))/\
 (FP K "lay" (topP p 23))/\
 (FP K "lay_over" (topP p 24))/\
 (FP K "laid_arcs" (topP p 25))/\
 (FP K "is_order" (topP p 27))/\
 (FP K "checked_order" (topP p 28))/\
 (FP K "first_bows" (topP p 29))/\
 (FP K "missing_bows" (topP p 30))/\
 (FP K "lightest" (topP p 31))/\
 (FP K "ranked" (topP p 32))/\
 (FP K "costs_from" (topP p 34))/\
 (FP K "order_or_ranked" (topP p 36))/\
 (FP K "kept_arcs" (topP p 37))/\
 (MP K (B7 (zd K mainGlobals "Ladder")) "order" "Ladder.order" (inClass (topP p 38) 2))/\
 (MP K (B7 (zd K mainGlobals "Ladder")) "checked_arc" "Ladder.checked_arc" (inClass (topP p 38) 4))/\
 (MP K (B7 (zd K mainGlobals "Ladder")) "cost" "Ladder.cost" (inClass (topP p 38) 5))/\
 (MP K (B7 (zd K mainGlobals "Ladder")) "kept" "Ladder.kept" (inClass (topP p 38) 8))/\
 (FP K "_law_cell_at" (topP p 40))/\
 (FP K "_law_mixed" (topP p 41))/\
 (FP K "_law_road" (topP p 42))/\
 (FP K "_law_map" (topP p 43))
def YQ (w:World):Wt (Kp R1 PySem.W.Fast.tw11556603219560317063 w) PySem.W.Fast.tw11556603219560317063:=
 ⟨by kernel_rfl,by kernel_rfl,by kernel_rfl,by kernel_rfl,by kernel_rfl,by kernel_rfl,by kernel_rfl,Aq,Aq,Aq,Aq,Aq,Aq,Aq,Aq,Aq,Aq,Aq,Aq,Aq,Aq,Aq,Aq,Aq,Aq,Aq,Aq,Aq,Aq,Aq,Aq,Aq,Aq,Lm,Lm,Lm,Lm,Aq,Aq,Aq,Aq⟩
def Wu (K:za)(p:Program):Prop:=
 (FP K "_law_order" (topP p 44))/\
 (FP K "_law_plus" (topP p 45))/\
 (FP K "_law_least" (topP p 46))/\
 (FP K "_law_cost" (topP p 47))/\
 (FP K "_law_copy" (topP p 48))/\
 (FP K "_law_steps" (topP p 49))/\
 (FP K "_law_over" (topP p 50))/\
 (FP K "_law_same" (topP p 51))/\
 (zi K (.ref (B7 (zd K mainGlobals "Ladder"))) "__init__" = some (some (.ref (B7 (zi K (.ref (B7 (zd K mainGlobals "Ladder"))) "__init__")))))/\
 (yZ K (.ref (B7 (zi K (.ref (B7 (zd K mainGlobals "Ladder"))) "__init__")))=true)/\
 (K.lookup (B7 (zi K (.ref (B7 (zd K mainGlobals "Ladder"))) "__init__"))=some ⟨(Dm K (B7 (zi K (.ref (B7 (zd K mainGlobals "Ladder"))) "__init__"))).cls,(Dm K (B7 (zi K (.ref (B7 (zd K mainGlobals "Ladder"))) "__init__"))).dict,.func (zR "__init__" "Ladder.__init__" (AS (inClass (topP p 38) 0)) (Az (inClass (topP p 38) 0)) (A3 (inClass (topP p 38) 0)) (.ref (US (He (Dm K (B7 (zi K (.ref (B7 (zd K mainGlobals "Ladder"))) "__init__"))).data (inClass (topP p 38) 0)).defaults)) (He (Dm K (B7 (zi K (.ref (B7 (zd K mainGlobals "Ladder"))) "__init__"))).data (inClass (topP p 38) 0)).kwdefaults (He (Dm K (B7 (zi K (.ref (B7 (zd K mainGlobals "Ladder"))) "__init__"))).data (inClass (topP p 38) 0)).doc (He (Dm K (B7 (zi K (.ref (B7 (zd K mainGlobals "Ladder"))) "__init__"))).data (inClass (topP p 38) 0)).pyModule (He (Dm K (B7 (zi K (.ref (B7 (zd K mainGlobals "Ladder"))) "__init__"))).data (inClass (topP p 38) 0)).annotations (He (Dm K (B7 (zi K (.ref (B7 (zd K mainGlobals "Ladder"))) "__init__"))).data (inClass (topP p 38) 0)).code (He (Dm K (B7 (zi K (.ref (B7 (zd K mainGlobals "Ladder"))) "__init__"))).data (inClass (topP p 38) 0)).closureTuple),(Dm K (B7 (zi K (.ref (B7 (zd K mainGlobals "Ladder"))) "__init__"))).slots⟩)/\
 (yc K (He (Dm K (B7 (zi K (.ref (B7 (zd K mainGlobals "Ladder"))) "__init__"))).data (inClass (topP p 38) 0)).code "Ladder.__init__" = true)/\
 (zO K (.ref (B7 (zi K (.ref (B7 (zd K mainGlobals "Ladder"))) "__init__")))=true)/\
 (K.lookup (US (He (Dm K (B7 (zi K (.ref (B7 (zd K mainGlobals "Ladder"))) "__init__"))).data (inClass (topP p 38) 0)).defaults)=some ⟨(Dm K (US (He (Dm K (B7 (zi K (.ref (B7 (zd K mainGlobals "Ladder"))) "__init__"))).data (inClass (topP p 38) 0)).defaults)).cls,(Dm K (US (He (Dm K (B7 (zi K (.ref (B7 (zd K mainGlobals "Ladder"))) "__init__"))).data (inClass (topP p 38) 0)).defaults)).dict,.seq #[.none] (qK (Dm K (US (He (Dm K (B7 (zi K (.ref (B7 (zd K mainGlobals "Ladder"))) "__init__"))).data (inClass (topP p 38) 0)).defaults)).data),(Dm K (US (He (Dm K (B7 (zi K (.ref (B7 (zd K mainGlobals "Ladder"))) "__init__"))).data (inClass (topP p 38) 0)).defaults)).slots⟩)/\
 (zd K mainGlobals "law" = some (some (.ref (B7 (zd K mainGlobals "law")))))/\
 (K.lookup (B7 (zd K mainGlobals "law"))=some ⟨(Dm K (B7 (zd K mainGlobals "law"))).cls,(Dm K (B7 (zd K mainGlobals "law"))).dict,.func (zR "law" "law" (AS (topP p 52)) (Az (topP p 52)) (A3 (topP p 52)) .none (He (Dm K (B7 (zd K mainGlobals "law"))).data (topP p 52)).kwdefaults (He (Dm K (B7 (zd K mainGlobals "law"))).data (topP p 52)).doc (He (Dm K (B7 (zd K mainGlobals "law"))).data (topP p 52)).pyModule (He (Dm K (B7 (zd K mainGlobals "law"))).data (topP p 52)).annotations (He (Dm K (B7 (zd K mainGlobals "law"))).data (topP p 52)).code (He (Dm K (B7 (zd K mainGlobals "law"))).data (topP p 52)).closureTuple),(Dm K (B7 (zd K mainGlobals "law"))).slots⟩)/\
 (yc K (He (Dm K (B7 (zd K mainGlobals "law"))).data (topP p 52)).code "law" = true)/\
 (zO K (.ref (B7 (zd K mainGlobals "law")))=true)/\
 (zd K mainGlobals "all" = some none)/\
 (zd K mainGlobals "bool" = some none)/\
 (zd K mainGlobals "dict" = some none)/\
 (zd K mainGlobals "enumerate" = some none)/\
 (zd K mainGlobals "int" = some none)/\
 (zd K mainGlobals "isinstance" = some none)/\
 (zd K mainGlobals "len" = some none)/\
 (zd K mainGlobals "list" = some none)/\
 (zd K mainGlobals "min" = some none)/\
 (zd K mainGlobals "range" = some none)/\
 (zd K mainGlobals "sorted" = some none)/\
 (zd K mainGlobals "tuple" = some none)/\
 (zd K mainGlobals "NoArc" = some (some (.ref (B7 (zd K mainGlobals "NoArc")))))/\
 (zd K mainGlobals "NoMap" = some (some (.ref (B7 (zd K mainGlobals "NoMap")))))/\
 (zd K mainGlobals "NoOrder" = some (some (.ref (B7 (zd K mainGlobals "NoOrder")))))/\
 (yA K (B7 (zd K mainGlobals "NoArc")) [.type "ValueError",.type "Exception",.type "BaseException",.type "object"] "ValueError.__new__" = true)/\
 (yA K (B7 (zd K mainGlobals "NoMap")) [.type "ValueError",.type "Exception",.type "BaseException",.type "object"] "ValueError.__new__" = true)/\
 (yA K (B7 (zd K mainGlobals "NoOrder")) [.type "ValueError",.type "Exception",.type "BaseException",.type "object"] "ValueError.__new__" = true)/\
 (zi K (.ref (B7 (zd K mainGlobals "Ladder"))) "kept_ones" = some none)/\
 (zi K (.ref (B7 (zd K mainGlobals "Ladder"))) "laid" = some none)/\
 (zi K (.ref (B7 (zd K mainGlobals "Ladder"))) "own_map" = some none)/\
 (zi K (.ref (B7 (zd K mainGlobals "Ladder"))) "own_order" = some none)
def YR (w:World):Wu (Kp R1 PySem.W.Fast.tw11556603219560317063 w) PySem.W.Fast.tw11556603219560317063:=
 ⟨Aq,Aq,Aq,Aq,Aq,Aq,Aq,Aq,by kernel_rfl,by kernel_rfl,by kernel_rfl,by kernel_rfl,by kernel_rfl,by kernel_rfl,by kernel_rfl,by kernel_rfl,by kernel_rfl,by kernel_rfl,by kernel_rfl,by kernel_rfl,by kernel_rfl,by kernel_rfl,by kernel_rfl,by kernel_rfl,by kernel_rfl,by kernel_rfl,by kernel_rfl,by kernel_rfl,by kernel_rfl,by kernel_rfl,by kernel_rfl,by kernel_rfl,by kernel_rfl,by kernel_rfl,by kernel_rfl,by kernel_rfl,by kernel_rfl,by kernel_rfl,by kernel_rfl,by kernel_rfl⟩
end c3
end
set_option Elab.async false
set_option linter.all false
set_option maxRecDepth 100000
namespace L2
open PySem PySem.Spec PyProof.Rows
noncomputable abbrev Key:=Sum Int Str
noncomputable def LX:Key->Value->Bool
 | .inl k,v=>Value.isInt k v
 | .inr x,v=>Value.isStrOf x v
noncomputable def qL (w:World):Key->Int
 | .inl k=>hashInt k
 | .inr x=>hashStr w x
def Bp:∀ {k:Key}{v:Value},LX k v=true->(∃i t,k=Sum.inl i/\v=Value.int i t)\/(∃x t,k=Sum.inr x/\v=Value.str x t)
 | .inl i,v,h=>by
  obtain⟨t,e⟩:=Value.isInt_shape (k:=i) (v:=v) h;exact .inl ⟨i,t,rfl,e⟩
 | .inr x,v,h=>by
  obtain⟨t,e⟩:=Value.isStrOf_shape (x:=x) (v:=v) h;exact .inr ⟨x,t,rfl,e⟩
def UT (i:Int)(t:Tok):LX (.inl i) (.int i t)=true:=by simp[LX,Value.isInt]
def UU (x:Str)(t:Tok):LX (.inr x) (.str x t)=true:=by simp[LX,Value.isStrOf]
def fV (a b:Int):decide ((Sum.inl a:Key)=Sum.inl b)=(a==b):=by
 by_cases e:a=b
 ·subst e;simp
 ·have h:¬ (Sum.inl a:Key)=Sum.inl b:=λ q=>e (Sum.inl.inj q);rw[decide_eq_false h];exact (beq_eq_false_iff_ne.mpr e).symm
def fW (a b:Str):decide ((Sum.inr a:Key)=Sum.inr b)=decide (a=b):=by
 by_cases e:a=b
 ·subst e;simp
 ·have h:¬ (Sum.inr a:Key)=Sum.inr b:=λ q=>e (Sum.inr.inj q);rw[decide_eq_false h,decide_eq_false e]
def fX (a:Int)(b:Str):decide ((Sum.inl a:Key)=Sum.inr b)=false:=decide_eq_false (λ q=>nomatch q)
def fY (a:Str)(b:Int):decide ((Sum.inr a:Key)=Sum.inl b)=false:=decide_eq_false (λ q=>nomatch q)
noncomputable def AM (prog:Program)(w:World):PySem.KeyKind prog w Key where
 is:=LX
 hash:=qL w
 inj:=λ v a b ha hb=>by
  rcases Bp ha with ⟨i,t,rfl,rfl⟩|⟨x,t,rfl,rfl⟩
  ·rcases Bp hb with ⟨j,u,rfl,e⟩|⟨y,u,rfl,e⟩
   ·injection e with e1 _;rw[e1]
   ·exact nomatch e
  ·rcases Bp hb with ⟨j,u,rfl,e⟩|⟨y,u,rfl,e⟩
   ·exact nomatch e
   ·injection e with e1 _;rw[e1]
 byValue:=λ k v h=>by
  rcases Bp h with ⟨i,t,rfl,rfl⟩|⟨x,t,rfl,rfl⟩<;>rfl
 pyHash:=λ hv h=>by
  rcases Bp hv with ⟨i,t,rfl,rfl⟩|⟨x,t,rfl,rfl⟩
  ·exact wpAny_pyHash_int h
  ·exact wpAny_pyHash_str h
 eqBool:=λ hu hv h=>by
  rcases Bp hu with ⟨i,t,rfl,rfl⟩|⟨x,t,rfl,rfl⟩
  ·rcases Bp hv with ⟨j,u,rfl,rfl⟩|⟨y,u,rfl,rfl⟩
   ·rw[fV] at h;exact wpAny_eqBool_int h
   ·rw[fX] at h;exact SeqAt.EqAt.int_str i t y u _ _ _ _ h
  ·rcases Bp hv with ⟨j,u,rfl,rfl⟩|⟨y,u,rfl,rfl⟩
   ·rw[fY] at h;exact SeqAt.EqAt.str_int x t j u _ _ _ _ h
   ·rw[fW] at h;exact wpAny_eqBool_str h
 «strs»:=λ k x t v h=>by
  rcases Bp h with ⟨i,u,rfl,e⟩|⟨y,u,rfl,e⟩
  ·exact nomatch e
  ·injection e with e1 _
   subst e1;cases v<;>rfl
def Qd (prog:Program)(w:World)(i:Int)(t:Tok):(AM prog w).is (.inl i) (.int i t)=true:=UT i t
def Qe (prog:Program)(w:World)(x:Str)(t:Tok):(AM prog w).is (.inr x) (.str x t)=true:=UU x t
inductive V where
 |AD|bl (b:Bool)|int (i:Int)|str (x:Str)|fZ (b:Array UInt8)|lS (b:UInt64)|ref (a:Addr)|ty (n:String)
 deriving DecidableEq
def RelV:V->Value->Prop
 | .AD,u=>u=Value.none
 | .bl b,u=>u=Value.bool b
 | .int i,u=>∃t,u=Value.int i t
 | .str x,u=>∃t,u=Value.str x t
 | .fZ b,u=>∃t,u=Value.bytes b t
 | .lS b,u=>∃t,u=Value.float b t
 | .ref a,u=>u=zZ a
 | .ty n,u=>u=Value.type n
noncomputable abbrev Vals:List V->List Value->Prop:=Paired RelV
def Vals.length {xs:List V}{us:List Value}(r:Vals xs us):xs.length=us.length:=Paired.length r
def Vals.get:∀ {xs:List V}{us:List Value}{i:Nat}{x:V},Vals xs us->xs[i]?=some x->∃u,us[i]?=some u/\RelV x u
 |_,_,_,_,.nil,e=>by simp at e
 |_,_,0,_,.cons r _,e=>by simp at e;subst e;exact⟨_,rfl,r⟩
 |_,_,i+1,x,.cons _ t,e=>by
  obtain⟨u,h1,h2⟩:=Vals.get (i:=i) (x:=x) t (by simpa using e);exact⟨u,by simpa using h1,h2⟩
def Vals.set {x:V}{u:Value}(r:RelV x u):∀ {xs:List V}{us:List Value}(i:Nat),Vals xs us->Vals (xs.set i x) (us.set i u)
 |_,_,_,.nil=>.nil
 |_,_,0,.cons _ t=>.cons r t
 |_,_,i+1,.cons q t=>.cons q (Vals.set r i t)
def Vals.append:∀ {xs ys:List V}{us ws:List Value},Vals xs us->Vals ys ws->Vals (xs++ys) (us++ws)
 |_,_,_,_,.nil,s=>s
 |_,_,_,_,.cons r t,s=>.cons r (Vals.append t s)
def Vals.take:∀ {xs:List V}{us:List Value}(n:Nat),Vals xs us->Vals (xs.take n) (us.take n)
 |_,_,0,_=>.nil
 |_,_,_+1,.nil=>.nil
 |_,_,n+1,.cons r t=>.cons r (Vals.take n t)
def Vals.drop:∀ {xs:List V}{us:List Value}(n:Nat),Vals xs us->Vals (xs.drop n) (us.drop n)
 |_,_,0,r=>r
 |_,_,_+1,.nil=>.nil
 |_,_,n+1,.cons _ t=>Vals.drop n t
def G0:Option V->Option Value->Prop
 |some v,some u=>RelV v u
 |none,none=>True
 |_,_=>False
def KV {κ:Type}:List (κ×V)->List (κ×Value)->Prop:=Paired λ(p:κ×V) (q:κ×Value)=>p.1=q.1/\RelV p.2 q.2
noncomputable def kV:Key->V
 | .inl i=>.int i
 | .inr x=>.str x
inductive HO where
 |lst (xs:List V)
 |tup (xs:List V)
 |dK (kvs:List (Key×V))|dT (kvs:List (List Key×V))
 |set (S:Int->Bool) (n:Nat)
 |ins (C dx:Addr) (fs:List (Str×V))
 |own (x:Addr)
 |xd (fs:List (Str×V))
 |met (f x:Addr)
 |pL (lo hi:Int)
 |EW (o:Obj) (u:HO)
 |eV (ps:Array Value)
 |ext (φ:Heap->Prop)
noncomputable abbrev Hp:=Addr->Option HO
noncomputable def upd (H:Hp)(a:Addr)(o:HO):Hp:=λ b=>if b=a then some o else H b
def Ao {H:Hp}{a:Addr}{o:HO}:upd H a o a=some o:=by unfold upd;rw[if_pos rfl]
def Ab {H:Hp}{a b:Addr}{o:HO}(h:b≠a):upd H a o b=H b:=by unfold upd;rw[if_neg h]
def lT {H:Hp}{a b:Addr}{o u:HO}(h:H a=some o)(h':H b=some u)(d:o≠u):a≠b:=by
 intro e;subst e;rw[h] at h';exact d (zE h')
def AB {H:Hp}{a b:Addr}{o:HO}(h:H a=some o)(h':H b=none):a≠b:=by
 intro e;subst e;rw[h] at h';cases h'
section
variable (P:Program) (w:World)
def Bf (H:Hp)(h:Heap)(a:Addr):HO->Prop
 | .lst xs=>xs.length<=sizeLine/\∃(aa:List Value) (n:Nat),Vals xs aa/\h.get? a=some {cls:=.type "list",data:=.seq aa.toArray n}
 | .tup xs=>xs.length<=sizeLine/\∃aa:List Value,Vals xs aa/\IsTup h a aa.toArray
 | .dK kvs=>kvs.length<=sizeLine/\(a==sysModules)=false/\∃vs,KV kvs vs/\h.DictOf (AM P w) a vs
 | .dT kvs=>kvs.length<=sizeLine/\(a==sysModules)=false/\∃xs:List (List Key×Addr×Value),
  Paired (λ(p:List Key×V) (q:List Key×Addr×Value)=>p.1=q.1/\H q.2.1=some (.tup (p.1.map kV))/\RelV p.2 q.2.2) kvs xs/\
  ∃o es ep,h.get? a=some o/\o.ExactDict/\o.data=.dict es ep/\es.toList=xs.map (entryOfKey (tupleKind (AM P w)))/\(xs.map (·.1)).Nodup
 | .set S n=>h.SetOf (intKind P w) a S n
 | .ins C dx fs=>H dx=some (.own a)/\fs.length<=1000/\dx≠a/\h.get? a=some (yF C dx)/\
  ∃mA,h.Ns1 dx mA/\(∀f,G0 (fs.lookup f) (mA f))/\PySem.Within mA (fs.map (·.1))
 | .own _=>∃o,h.get? a=some o
 | .xd fs=>∃mA,h.Ns1 a mA/\∀f,G0 (fs.lookup f) (mA f)
 | .pL lo hi=>∃t u v,h.get? a=some {cls:=.type "range",data:=.fields #[.int lo t,.int hi u,.int 1 v]}
 | .EW o u=>h.get? a=some o/\Bf H h a u
 | .eV ps=>h.get? a=some {cls:=.none,data:=.fields ps}
 | .met f x=>h.get? a=some (PySem.W.methodObj (.ref f) (.ref x))
 | .ext φ=>φ h/\(∃o,h.get? a=some o)/\∀h1 h2:Heap,φ h1->(∀o,h1.get? a=some o->h2.get? a=some o)->φ h2
def F7 (H:Hp)(h:Heap):Prop:=∀a o,H a=some o->Bf P w H h a o
end
section
variable {P:Program}{w:World}{H H':Hp}{h h':Heap}{a:Addr}{o:HO}
def Bf.lt (x:Bf P w H h a o):a<h.objs.size:=by
 cases o with
 |lst xs=>obtain⟨_,_,_,_,e⟩:=x;exact zt e
 |tup xs=>obtain⟨_,_,_,p⟩:=x;exact p.lt
 |dK kvs=>obtain⟨_,_,_,_,o,_,_,e,_⟩:=x;exact zt e
 |dT kvs=>obtain⟨_,_,_,_,o,_,_,e,_⟩:=x;exact zt e
 |set S n=>obtain⟨o,_,_,_,e,_⟩:=x;exact zt e
 |ins C dx fs=>obtain⟨_,_,_,e,_⟩:=x;exact zt e
 |own y=>obtain⟨_,e⟩:=x;exact zt e
 |xd fs=>obtain⟨_,⟨_,_,_,e,_⟩,_⟩:=x;exact zt e
 |pL lo hi=>obtain⟨_,_,_,e⟩:=x;exact zt e
 |EW ob u=>obtain⟨e,_⟩:=x;exact zt e
 |eV ps=>exact zt (show h.get? a=some _ from x)
 |met f y=>exact zt (show h.get? a=some _ from x)
 |ext φ=>obtain⟨_,⟨_,e⟩,_⟩:=x;exact zt e
def Paired.gB {α β:Type}{F G:α->β->Prop}:∀ {l₁:List α}{l₂:List β},Paired F l₁ l₂->(∀a b,F a b->G a b)->Paired G l₁ l₂
 |_,_,.nil,_=>.nil
 |_,_,.cons r t,f=>.cons (f _ _ r) (Paired.gB t f)
def Bf.LY (x:Bf P w H h a o)(k:∀b u,(b=a\/H b=some (.own a))->h.get? b=some u->h'.get? b=some u)
 (ho:∀b,H b=some (.own a)->H' b=some (.own a)) (ht:∀b xs,H b=some (.tup xs)->H' b=some (.tup xs)):Bf P w H' h' a o:=by
 induction o with
 |lst xs=>obtain⟨z,aa,n,r,e⟩:=x;exact⟨z,aa,n,r,k _ _ (.inl rfl) e⟩
 |tup xs=>obtain⟨z,aa,r,ob,e,c⟩:=x;exact⟨z,aa,r,ob,k _ _ (.inl rfl) e,c⟩
 |dK kvs=>obtain⟨z,y,vs,r,ob,es,ep,e,c⟩:=x;exact⟨z,y,vs,r,ob,es,ep,k _ _ (.inl rfl) e,c⟩
 |dT kvs =>
  obtain⟨z,y,xs,r,ob,es,ep,e,c⟩:=x;exact⟨z,y,xs,Paired.gB r λ p q z=>⟨z.1,ht _ _ z.2.1,z.2.2⟩,ob,es,ep,k _ _ (.inl rfl) e,c⟩
 |set S n=>obtain⟨ob,es,ep,t,e,c⟩:=x;exact⟨ob,es,ep,t,k _ _ (.inl rfl) e,c⟩
 |ins C dx fs =>
  obtain⟨d,z,ne,e,mA,⟨od,es,ep,e2,c⟩,r⟩:=x;exact⟨ho _ d,z,ne,k _ _ (.inl rfl) e,mA,⟨od,es,ep,k _ _ (.inr d) e2,c⟩,r⟩
 |own y=>obtain⟨ob,e⟩:=x;exact⟨ob,k _ _ (.inl rfl) e⟩
 |xd fs=>obtain⟨mA,⟨od,es,ep,e,c⟩,r⟩:=x;exact⟨mA,⟨od,es,ep,k _ _ (.inl rfl) e,c⟩,r⟩
 |pL lo hi=>obtain⟨t,u,v,e⟩:=x;exact⟨t,u,v,k _ _ (.inl rfl) e⟩
 |EW ob u ih=>obtain⟨e,q⟩:=x;exact⟨k _ _ (.inl rfl) e,ih q⟩
 |eV ps =>
  have e:h.get? a=some {cls:=.none,data:=.fields ps}:=x;show h'.get? a=some {cls:=.none,data:=.fields ps};exact k a _ (.inl rfl) e
 |met f y =>
  have e:h.get? a=some (PySem.W.methodObj (.ref f) (.ref y)):=x;show h'.get? a=some (PySem.W.methodObj (.ref f) (.ref y));exact k a _ (.inl rfl) e
 |ext φ=>obtain⟨p,⟨o,e⟩,st⟩:=x;exact⟨st _ _ p λ o q=>k _ _ (.inl rfl) q,⟨o,k _ _ (.inl rfl) e⟩,st⟩
def F7.lt (x:F7 P w H h)(e:H a=some o):a<h.objs.size:=(x a o e).lt
def F7.fresh (x:F7 P w H h)(e:h.objs.size<=a):H a=none:=by
 cases q:H a with
 |none=>rfl
 |some u=>exact absurd (zA (x.lt q) e) (Nat.lt_irrefl _)
def F7.kept (x:F7 P w H h)(k:∀b u,h.get? b=some u->h'.get? b=some u):F7 P w H h':=λ a o e =>
 (x a o e).LY (λ b u _ q=>k b u q) (λ _ q=>q) λ _ _ q=>q
def F7.laid (x:F7 P w H h)(k:∀b u,h.get? b=some u->h'.get? b=some u)(hp:h.objs.size<=a)(new:Bf P w (upd H a o) h' a o):F7 P w (upd H a o) h':=λ b u e=>by
 have hn:=x.fresh hp;by_cases hb:b=a
 ·subst hb;rw[Ao] at e;cases e;exact new
 ·rw[Ab hb] at e;exact (x b u e).LY (λ c v _ q=>k c v q) (λ c q=>by rw[Ab (AB q hn)];exact q) λ c xs q=>by rw[Ab (AB q hn)];exact q
end
def Rd (H:Hp)(a:Addr)(u:HO):Prop:=H a=some u\/∃o,H a=some (.EW o u)
def Rd.ok {P:Program}{w:World}{H:Hp}{h:Heap}{a:Addr}{u:HO}(r:Rd H a u)(x:F7 P w H h):Bf P w H h a u:=by
 rcases r with r|⟨o,r⟩
 ·exact x a u r
 ·obtain⟨_,q⟩:=x a _ r;exact q
def lU:Option HO->Prop
 |some (.lst _)=>True
 |some (.dK _)=>True
 |some (.dT _)=>True
 |some (.set _ _)=>True
 |some (.ins _ _ _)=>True
 |some (.ext _)=>True
 |_=>False
section
variable {P:Program}{w:World}{H:Hp}{h h':Heap}{x e:Addr}{o':HO}
def F7.write (ok:F7 P w H h)(mu:lU (H x))(he:e=x\/H e=some (.own x))(k:∀b u,b≠e->h.get? b=some u->h'.get? b=some u)(dh:∃u,h'.get? e=some u)
 (new:Bf P w (upd H x o') h' x o'):F7 P w (upd H x o') h':=λ b u q=>by
 have ie:∀c y,H c=some (.own y)->c≠x:=λ c y r z=>by subst z;rw[r] at mu;exact mu
 have lj:∀c xs,H c=some (.tup xs)->c≠x:=λ c xs r z=>by subst z;rw[r] at mu;exact mu
 by_cases hb:b=x
 ·subst hb;rw[Ao] at q;cases q;exact new
 ·rw[Ab hb] at q;by_cases d8:b=e
  ·have q':H b=some (.own x):=by
    rcases he with z|z
    ·exact absurd (d8.trans z) hb
    ·rw[d8];exact z
   rw[q] at q';cases q';obtain⟨v,hv⟩:=dh;exact⟨v,by rw[d8];exact hv⟩
  ·refine (ok b u q).LY (λ c v hc r=>k c v ?_ r) (λ c r=>by rw[Ab (ie c b r)];exact r) λ c xs r=>by rw[Ab (lj c xs r)];exact r
   rcases hc with rfl|hc
   ·exact d8
   ·rintro rfl;rcases he with z|z
    ·exact ie c b hc z
    ·rw[hc] at z;cases z;exact hb rfl
end
structure Un (fs ex:List Addr)(H H':Hp)(h h':Heap):Prop where
 keep:∀b o,h.get? b=some o->H b=none->b∉fs->b∉ex->h'.get? b=some o
 slot:∀b o,h.get? b=some o->H b=none->b∈fs->b∉ex->∃sl,h'.get? b=some {o with slots:=sl}
 free:∀b o,h.get? b=some o->H b=none->b∉ex->H' b=none
 there:∀b o,h.get? b=some o->b∉ex->∃o',h'.get? b=some o'
 LZ:∀b xs,H b=some (.tup xs)->H' b=some (.tup xs)
 K7:∀b o u,H b=some (.EW o u)->H' b=some (.EW o u)
 M2:∀b ps,H b=some (.eV ps)->∃more,H' b=some (.eV (ps++more))
section
variable {fs bO ex lm:List Addr}{H H1 H2:Hp}{h h1 h2 h':Heap}{a x e:Addr}{o:HO}
def Un.any (u:Un fs ex H H1 h h1){b:Addr}{ob:Obj}(q:h.get? b=some ob)(n:H b=none)(hx:b∉ex):∃sl,h1.get? b=some {ob with slots:=sl}:=by
 by_cases hb:b∈fs
 ·exact u.slot b ob q n hb hx
 ·exact⟨ob.slots,u.keep b ob q n hb hx⟩
def Un.kept (k:∀b u,h.get? b=some u->h'.get? b=some u):Un fs ex H H h h':=
 ⟨λ b ob q _ _ _=>k b ob q,λ b ob q _ _ _=>⟨ob.slots,k b ob q⟩,λ _ _ _ n _=>n,λ b ob q _=>⟨ob,k b ob q⟩,λ _ _ q=>q,λ _ _ _ q=>q,λ _ ps q=>⟨#[],by rw[q];simp⟩⟩
def Un.refl:Un fs ex H H h h:=Un.kept λ _ _ q=>q
def Un.laid (k:∀b u,h.get? b=some u->h'.get? b=some u)(hp:h.objs.size<=a)(hn:H a=none):Un fs ex H (upd H a o) h h' where
 keep:=λ b u q _ _ _=>k b u q
 slot:=λ b u q _ _ _=>⟨u.slots,k b u q⟩
 free:=λ b u q n _=>by rw[Ab (zD (zA (zt q) hp))];exact n
 there:=λ b u q _=>⟨u,k b u q⟩
 LZ:=λ b xs q=>by rw[Ab (AB q hn)];exact q
 K7:=λ b u xs q=>by rw[Ab (AB q hn)];exact q
 M2:=λ b ps q=>⟨#[],by rw[Ab (AB q hn),q];simp⟩
def Un.write (mu:lU (H x))(he:e=x\/H e=some (.own x))(k:∀b u,b≠e->h.get? b=some u->h'.get? b=some u)(dh:∃u,h'.get? e=some u):Un fs ex H (upd H x o) h h':=by
 have hx:∀b,H b=none->b≠x:=λ b n z=>by subst z;rw[n] at mu;exact mu
 have hb:∀b,H b=none->b≠e:=λ b n z=>by
  subst z;rcases he with r|r
  ·exact hx b n r
  ·rw[n] at r;cases r
 have hm:∀b u,H b=some u->¬ lU (some u)->b≠x:=λ b u q nm z=>by subst z;rw[q] at mu;exact nm mu
 refine⟨λ b u q n _ _=>k b u (hb b n) q,λ b u q n _ _=>⟨u.slots,k b u (hb b n) q⟩,λ b u q n _=>by rw[Ab (hx b n)];exact n,λ b u q _=>?_,
  λ b xs q=>by rw[Ab (hm b _ q λ z=>z)];exact q,λ b u xs q=>by rw[Ab (hm b _ q λ z=>z)];exact q,λ b ps q=>⟨#[],by rw[Ab (hm b _ q λ z=>z),q];simp⟩⟩
 by_cases d8:b=e
 ·subst d8;exact dh
 ·exact⟨u,k b u d8 q⟩
end
noncomputable def Cg (h:Heap)(H:Hp):List Addr:=(yf h.objs.size).filter λ a=>(H a).isSome
noncomputable def OM (h:Heap)(H:Hp):Heap:=PySem.W.hideAll h (Cg h H)
def UW (h:Heap)(H:Hp):(OM h H).objs.size=h.objs.size:=PySem.W.hideAll_size _ _
def Wv {h:Heap}{H:Hp}{b:Addr}{o:Obj}(e:h.get? b=some o)(n:H b=none):(OM h H).get? b=some o:=
 y6 _ e λ hm=>by
  have q:(H b).isSome=true:=(yg.mp hm).2;rw[n] at q;simp at q
def YS {h:Heap}{H:Hp}{b:Addr}{o:Obj}(e:(OM h H).get? b=some o):h.get? b=some o/\H b=none:=by
 have e':h.get? b=some o:=PySem.W.of_hideAll (Cg h H) e;refine⟨e',?_⟩;cases q:H b with
 |none=>rfl
 |some x =>
  have hm:b∈Cg h H:=yg.mpr ⟨xf.mpr (zt e'),by simp[q]⟩;have z:(OM h H).get? b=none:=PySem.W.hideAll_none (Cg h H) hm;rw[z] at e;cases e
noncomputable def YT (g h:Heap)(L:Addr):List (Addr×Obj):=(yf h.objs.size).filterMap λ a=>if a=L\/(g.get? a).isSome=true then none else (h.get? a).map λ o=>(a,o)
noncomputable def rest (g h:Heap)(L d:Addr):List (Addr×Obj):=(YT g h L).filter λ p=>decide (p.1≠d)
structure Mod (K:za)(mg:Str->Option Value)(base:Heap):Prop where
 TB:K.In base
 glob:base.Ns mainGlobals mg
 blt:∃mb,base.Ns builtinsNs mb/\∀x:Str,x ≠ "__name__" -> mb x=bootBuiltins x
 nolimit:base.NoLimit
structure Cx where
 prog:Program
 w:World
 K:za
 mg:Str->Option Value
 base:Heap
 A:Around
 N:List Str
 s₀:Shared
 H₀:Hp
 env:Env
 outer:List Env
 stack:List Env
 ex:List Addr
 fn:Str->Bool
 calm:Bool
 pn:List (Addr×Obj)
 xe:Value->Shared->Prop
noncomputable def KJ (l:List Env):List Addr:=l.filterMap (·.frame)
noncomputable abbrev Cx.fs (X:Cx):List Addr:=KJ X.outer
def qM (sc:Scope)(x:Str):Prop:=sc.names.lookup x=some .local\/sc.names.lookup x=some .cell\/sc.names.lookup x=some .free
def Loc (sc:Scope)(x:Str):Prop:=sc.names.lookup x=some .local\/sc.names.lookup x=some .cell
def Look (env:Env)(h:Heap)(m:Str->Option Value)(x:Str)(u:Value):Prop:=
 (env.kindOf x=some .local/\m x=some u)\/((env.kindOf x=some .cell\/env.kindOf x=some .free)/\∃c,env.cells.lookup x=some c/\h.IsCell c (some u))
structure Cx.Ok (X:Cx):Prop where
 mod:Mod X.K X.mg X.base
 kind:X.env.scope.kind=.function
 glob:X.env.globals=mainGlobals
 blt:X.env.builtins=builtinsNs
 above:X.s₀.heap.objs.size<=X.env.locals
 inj:∀x y c,X.env.cells.lookup x=some c->X.env.cells.lookup y=some c->x=y
 has:∀x,(X.env.kindOf x=some .cell\/X.env.kindOf x=some .free)->∃c,X.env.cells.lookup x=some c
 lV:∀x c,X.fn x=true->X.env.cells.lookup x=some c->X.s₀.heap.objs.size<=c
 hd:X.calm=true->X.A.handled=none
 frames:X.A.frames=some X.stack
 eW:X.stack=X.outer\/(X.stack=X.env::X.outer/\X.env.frame=some X.env.locals)
 pM:∀b∈X.ex,b≠X.env.locals/\∀x c,X.env.cells.lookup x=some c->c≠b
 bs:∀b o,X.base.get? b=some o->X.s₀.heap.get? b=some o/\X.H₀ b=none
 YU:X.base.objs.size<=X.s₀.heap.objs.size
 Ww:∀b o,X.base.get? b=some o->b∉X.ex
 Wx:∀b∈X.ex,b∉X.fs
 IU:X.s₀.heap.FunFrames X.base X.outer
 gC:∀b∈X.fs,X.H₀ b=none
structure Inv (X:Cx)(pins:List (Addr×Obj))(σ:List (Option V))(H:Hp)(s:Shared):Prop where
 ok:X.Ok
 os:s.os=X.s₀.os
 bare:AllBare s.gens
 base:Un X.fs X.ex X.H₀ H X.s₀.heap s.heap
 loc:∃m,s.heap.Ns X.env.locals m/\∀(i:Nat) (x:Str) (v:V),X.N[i]?=some x->σ[i]?=some (some v)->qM X.env.scope x->∃u,RelV v u/\Look X.env s.heap m x u
 cell:∀x c,X.env.cells.lookup x=some c->∃v,s.heap.IsCell c v
 free:H X.env.locals=none
 EX:∀x c,X.env.cells.lookup x=some c->H c=none
 pin:∀p∈X.pn++pins,s.heap.get? p.1=some p.2/\H p.1=none/\p.1≠X.env.locals/\p.1∉X.fs/\∀v,p.2.data≠.cell v
 Ax:F7 X.prog X.w H s.heap
 len:σ.length=X.N.length
section
variable {X:Cx}{pins:List (Addr×Obj)}{σ:List (Option V)}{H H':Hp}{s:Shared}{h':Heap}
def Cx.Ok.qN (ok:X.Ok){b:Addr}{o:Obj}(e:X.base.get? b=some o):b∉X.fs:=λ hb=>by
 have:=(ok.IU.mem hb).1;rw[e] at this;cases this
def Inv.bs (I:Inv X pins σ H s):∀b o,X.base.get? b=some o->s.heap.get? b=some o/\H b=none:=λ b o e =>
 ⟨I.base.keep b o (I.ok.bs b o e).1 (I.ok.bs b o e).2 (I.ok.qN e) (I.ok.Ww b o e),I.base.free b o (I.ok.bs b o e).1 (I.ok.bs b o e).2 (I.ok.Ww b o e)⟩
def Inv.bk (I:Inv X pins σ H s):∀b o,X.base.get? b=some o->s.heap.get? b=some o:=λ b o e=>(I.bs b o e).1
def Inv.mod (I:Inv X pins σ H s):Mod X.K X.mg X.base:=I.ok.mod
def Inv.Nn (I:Inv X pins σ H s):X.K.In s.heap:=I.ok.mod.TB.keeps I.bk
def Inv.fr (I:Inv X pins σ H s):∃m,Fr X.base X.env.locals s.heap m:=
 let ⟨m,hn,_⟩:=I.loc
 ⟨m,hn,I.bk,zY I.ok.YU I.ok.above⟩
def Inv.lt (I:Inv X pins σ H s):X.env.locals<s.heap.objs.size:=let ⟨_,hn,_⟩:=I.loc;hn.lt
def Inv.sz (I:Inv X pins σ H s):X.s₀.heap.objs.size<=s.heap.objs.size:=zY I.ok.above (yd I.lt)
def Inv.qO (I:Inv X pins σ H s){a:Addr}(h:s.heap.objs.size<=a):a∉X.fs:=λ hb=>by
 obtain⟨_,o,ho,_⟩:=I.ok.IU.mem hb;exact absurd (zA (zt ho) (zY I.sz h)) (Nat.lt_irrefl _)
def Inv.gD (I:Inv X pins σ H s):∀x c,X.env.cells.lookup x=some c->c≠X.env.locals:=λ x c e z=>by
 obtain⟨v,o,ho,hd⟩:=I.cell x c e;obtain⟨m,⟨o',es,ep,bp,bP,_⟩,_⟩:=I.loc;rw[z,bp] at ho;cases ho;rw[bP] at hd;cases hd
def Inv.IU (I:Inv X pins σ H s):s.heap.FunFrames X.base X.outer:=by
 have all:∀(l:List Env),(∀b∈KJ l,b∈X.fs)->X.s₀.heap.FunFrames X.base l->s.heap.FunFrames X.base l:=by
  intro l;induction l with
  |nil=>intro _ _;trivial
  |cons env r ih =>
   intro hs hl;obtain⟨hk,⟨L,o,hf,hn,ho,hd⟩,hr⟩:=hl;have hL:L∈X.fs:=hs L (by unfold KJ;rw[List.filterMap_cons,hf];exact zc);obtain⟨sl,e⟩:=I.base.slot L o ho (I.ok.gC L hL) hL λ z=>I.ok.Wx L z hL;exact⟨hk,⟨L,_,hf,hn,e,hd⟩,ih (λ b hb=>hs b (by unfold KJ;rw[List.filterMap_cons,hf];exact zf _ hb)) hr⟩
 exact all X.outer (λ _ hb=>hb) I.ok.IU
def Inv.stack (I:Inv X pins σ H s):s.heap.FunFrames X.base X.stack:=by
 rcases I.ok.eW with e|⟨e,hf⟩
 ·rw[e];exact I.IU
 ·rw[e];obtain⟨m,hn,_⟩:=I.loc;refine .cons (by rw[I.ok.kind];decide) hf hn ?_ I.IU;exact Heap.get?_none_of_le (zY I.ok.YU I.ok.above)
def Inv.S1 (I:Inv X pins σ H s):∀b∈KJ X.stack,b∈X.env.locals::X.fs:=λ b hb=>by
 rcases I.ok.eW with e|⟨e,hf⟩
 ·rw[e] at hb;exact zf _ hb
 ·rw[e] at hb;unfold KJ at hb;rw[List.filterMap_cons,hf] at hb;exact hb
def Inv.ON (I:Inv X pins σ H s):∀b∈KJ X.stack,H b=none:=λ b hb=>by
 rcases zr.mp (I.S1 b hb) with e|hb
 ·rw[e];exact I.free
 ·obtain⟨_,o,ho,_⟩:=I.ok.IU.mem hb;exact I.base.free b o ho (I.ok.gC b hb) λ z=>I.ok.Wx b z hb
def Inv.step {g':Array GenState}{t':Nat}{d':Drawn}{ch:List Addr}(I:Inv X pins σ H s)
 (cm:∀b∈ch,(b∈X.ex\/X.s₀.heap.objs.size<=b)/\b≠X.env.locals/\(∀x c,X.env.cells.lookup x=some c->c≠b)/\∀p∈X.pn++pins,p.1≠b)
 (keep:∀b o,b≠X.env.locals->b∉X.fs->b∉ch->s.heap.get? b=some o->H b=none->h'.get? b=some o)
 (slot:∀b o,b≠X.env.locals->b∈X.fs->b∉ch->s.heap.get? b=some o->H b=none->∃sl,h'.get? b=some {o with slots:=sl}) (free:∀b o,b∉ch->s.heap.get? b=some o->H b=none->H' b=none)
 (there:∀b o,b∉ch->s.heap.get? b=some o->∃o',h'.get? b=some o')
 (LZ:∀b xs,H b=some (.tup xs)->H' b=some (.tup xs)) (K7:∀b o u,H b=some (.EW o u)->H' b=some (.EW o u)) (M2:∀b ps,H b=some (.eV ps)->∃more,H' b=some (.eV (ps++more)))
 (ns:∀m,s.heap.Ns X.env.locals m->h'.Ns X.env.locals m) (Ax:F7 X.prog X.w H' h') (hg:AllBare g'):
 Inv X pins σ H' {s with heap:=h',gens:=g',drawn:=d',toks:=t' }:=by
 have sT:∀b o,X.s₀.heap.get? b=some o->b≠X.env.locals:=λ b o e=>zD (zA (zt e) I.ok.above);have gw:∀b o,X.s₀.heap.get? b=some o->b∉X.ex->b∉ch:=λ b o e hx hb=>by
  rcases (cm b hb).1 with z|z
  ·exact hx z
  ·exact absurd (zA (zt e) z) (Nat.lt_irrefl _)
 have cellK:∀x c,X.env.cells.lookup x=some c->∀v,s.heap.IsCell c v->h'.IsCell c v:=λ x c e v ⟨o,ho,hd⟩=>by
  have ig:c∉ch:=λ z=>(cm c z).2.2.1 x c e rfl;by_cases hc:c∈X.fs
  ·obtain⟨sl,q⟩:=slot c o (I.gD x c e) hc ig ho (I.EX x c e);exact⟨_,q,hd⟩
  ·exact⟨o,keep c o (I.gD x c e) hc ig ho (I.EX x c e),hd⟩
 refine⟨I.ok,I.os,hg,⟨λ b o e n hb hx=>?_,λ b o e n hb hx=>?_,λ b o e n hx=>?_,λ b o e hx=>?_,λ b xs e=>LZ b xs (I.base.LZ b xs e),λ b o xs e=>K7 b o xs (I.base.K7 b o xs e),λ b ps e=>?_⟩,?_,λ x c e=>?_,?_,λ x c e=>?_,λ p hp=>?_,Ax,I.len⟩
 ·exact keep b o (sT b o e) hb (gw b o e hx) (I.base.keep b o e n hb hx) (I.base.free b o e n hx)
 ·obtain⟨sl,e1⟩:=I.base.slot b o e n hb hx;obtain⟨j4,e2⟩:=slot b _ (sT b o e) hb (gw b o e hx) e1 (I.base.free b o e n hx);exact⟨j4,e2⟩
 ·obtain⟨o',e1⟩:=I.base.there b o e hx;exact free b o' (gw b o e hx) e1 (I.base.free b o e n hx)
 ·obtain⟨o',e1⟩:=I.base.there b o e hx;exact there b o' (gw b o e hx) e1
 ·obtain⟨m1,e1⟩:=I.base.M2 b ps e;obtain⟨m2,e2⟩:=M2 b _ e1;exact⟨m1++m2,by rw[e2,Array.append_assoc]⟩
 ·obtain⟨m,hn,hl⟩:=I.loc;refine⟨m,ns m hn,λ i x v e1 e2 e3=>?_⟩;obtain⟨u,r,l⟩:=hl i x v e1 e2 e3;refine⟨u,r,?_⟩;rcases l with l|⟨k,c,e,z⟩
  ·exact .inl l
  ·exact .inr ⟨k,c,e,cellK x c e _ z⟩
 ·obtain⟨v,z⟩:=I.cell x c e;exact⟨v,cellK x c e v z⟩
 ·obtain⟨m,⟨o,_,_,ho,_⟩,_⟩:=I.loc;exact free _ o (λ z=>(cm _ z).2.1 rfl) ho I.free
 ·obtain⟨v,o,ho,hd⟩:=I.cell x c e;exact free c o (λ z=>(cm c z).2.2.1 x c e rfl) ho (I.EX x c e)
 ·obtain⟨e,n,ne,nf,d⟩:=I.pin p hp;have ig:p.1∉ch:=λ z=>(cm p.1 z).2.2.2 p hp rfl;exact⟨keep p.1 p.2 ne nf ig e n,free p.1 p.2 ig e n,ne,nf,d⟩
def Inv.un {t':Nat}(I:Inv X pins σ H s)(u:Un X.fs [] H H' s.heap h')(Ax:F7 X.prog X.w H' h'):Inv X pins σ H' {s with heap:=h',toks:=t' }:=by
 obtain⟨m,⟨o,es,ep,ho,r⟩,_⟩:=id I.loc;obtain⟨sl,hL⟩:=u.any ho I.free (by simp);exact I.step (g':=s.gens) (d':=s.drawn) (ch:=[]) (λ _ z=>nomatch z) (λ b o _ hb _ e n=>u.keep b o e n hb (by simp)) (λ b o _ hb _ e n=>u.slot b o e n hb (by simp)) (λ b o _ e n=>u.free b o e n (by simp)) (λ b o _ e=>u.there b o e (by simp)) u.LZ u.K7 u.M2 (λ m' hm=>by
  obtain⟨o',lp,lq,bp,r'⟩:=hm;rw[ho] at bp;cases bp;exact⟨_,lp,lq,hL,r'⟩) Ax I.bare
def Inv.call {g':Array GenState}{t':Nat}{d':Drawn}{ch:List Addr}(I:Inv X pins σ H s)(u:Un (KJ X.stack) ch H H' s.heap h')(Ax:F7 X.prog X.w H' h')(hg:AllBare g')
 (cm:∀b∈ch,(b∈X.ex\/X.s₀.heap.objs.size<=b)/\b≠X.env.locals/\(∀x c,X.env.cells.lookup x=some c->c≠b)/\∀p∈X.pn++pins,p.1≠b):
 Inv X pins σ H' {s with heap:=h',gens:=g',drawn:=d',toks:=t' }:=by
 obtain⟨m,⟨o,es,ep,ho,r⟩,_⟩:=id I.loc;obtain⟨sl,hL⟩:=u.any ho I.free λ z=>(cm _ z).2.1 rfl;exact I.step (ch:=ch) cm (λ b o hL hb hc e n=>u.keep b o e n (λ z=>(zr.mp (I.S1 b z)).elim hL hb) hc) (λ b o _ _ hc e n=>u.any e n hc) (λ b o hc e n=>u.free b o e n hc) (λ b o hc e=>u.there b o e hc) u.LZ u.K7 u.M2 (λ m' hm=>by
  obtain⟨o',lp,lq,bp,r'⟩:=hm;rw[ho] at bp;cases bp;exact⟨_,lp,lq,hL,r'⟩) Ax hg
def Inv.turned {t':Nat}{it:Addr}(I:Inv X pins σ H s)(k:∀b o,b≠it->s.heap.get? b=some o->h'.get? b=some o)(hn:H it=none)(hL:it≠X.env.locals)
 (h1:it∈X.ex\/X.s₀.heap.objs.size<=it) (h2:∀x c,X.env.cells.lookup x=some c->c≠it) (h3:∀p∈X.pn++pins,p.1≠it):Inv X pins σ H {s with heap:=h',toks:=t' }:=by
 have sU:∀b u,H b=some u->b≠it:=λ b u e z=>by rw[z,hn] at e;cases e
 refine I.step (g':=s.gens) (d':=s.drawn) (ch:=[it]) (λ b hb=>?_) (λ b o _ _ hc e _=>k b o (λ z=>hc (by simp[z])) e) (λ b o _ _ hc e _=>⟨o.slots,k b o (λ z=>hc (by simp[z])) e⟩) (λ _ _ _ _ n=>n)
  (λ b o hc e=>⟨o,k b o (λ z=>hc (by simp[z])) e⟩) (λ _ _ e=>e) (λ _ _ _ e=>e) (λ b ps e=>⟨#[],by rw[e];simp⟩) (λ m hm=>?_) (λ b u e=>?_) I.bare
 ·have e:b=it:=by simpa using hb
  subst e;exact⟨h1,hL,h2,h3⟩
 ·obtain⟨o,es,ep,ho,r⟩:=hm;exact⟨o,es,ep,k _ o (yb hL) ho,r⟩
 ·refine (I.Ax b u e).LY (λ c v hc q=>k c v ?_ q) (λ _ q=>q) λ _ _ q=>q;rcases hc with z|z
  ·rw[z];exact sU b u e
  ·exact sU c _ z
def Inv.tok (I:Inv X pins σ H s)(t:Nat):Inv X pins σ H {s with toks:=t}:=I.un (h':=s.heap) (t':=t) Un.refl I.Ax
def Inv.kept {t':Nat}(I:Inv X pins σ H s)(k:∀b u,s.heap.get? b=some u->h'.get? b=some u):Inv X pins σ H {s with heap:=h',toks:=t' }:=I.un (Un.kept k) (I.Ax.kept k)
def Inv.laid {a:Addr}{o:HO}{t':Nat}(I:Inv X pins σ H s)(k:∀b u,s.heap.get? b=some u->h'.get? b=some u)(hp:s.heap.objs.size<=a)(new:Bf X.prog X.w (upd H a o) h' a o):
 Inv X pins σ (upd H a o) {s with heap:=h',toks:=t' }:=I.un (Un.laid k hp (I.Ax.fresh hp)) (I.Ax.laid k hp new)
def Inv.write {x e:Addr}{o:HO}{t':Nat}(I:Inv X pins σ H s)(mu:lU (H x))(he:e=x\/H e=some (.own x))(k:∀b u,b≠e->s.heap.get? b=some u->h'.get? b=some u)(dh:∃u,h'.get? e=some u)
 (new:Bf X.prog X.w (upd H x o) h' x o):Inv X pins σ (upd H x o) {s with heap:=h',toks:=t' }:=I.un (Un.write mu he k dh) (I.Ax.write mu he k dh new)
def Inv.weak {σ':List (Option V)}(I:Inv X pins σ H s)(hl:σ'.length=σ.length)(w:∀(i:Nat) v,σ'[i]?=some (some v)->σ[i]?=some (some v)):Inv X pins σ' H s:=
 ⟨I.ok,I.os,I.bare,I.base,let ⟨m,hn,bF⟩:=I.loc;⟨m,hn,λ i x v e1 e2 e3=>bF i x v e1 (w i v e2) e3⟩,I.cell,I.free,I.EX,I.pin,I.Ax,hl.trans I.len⟩
def Inv.IV {di:List (Addr×Obj)}(I:Inv X pins σ H s)(h:∀p∈di,s.heap.get? p.1=some p.2/\H p.1=none/\p.1≠X.env.locals/\p.1∉X.fs/\∀v,p.2.data≠.cell v):Inv X di σ H s:=
 ⟨I.ok,I.os,I.bare,I.base,I.loc,I.cell,I.free,I.EX,λ p hp=>(zC.mp hp).elim (λ z=>I.pin p (zJ _ z)) (h p),I.Ax,I.len⟩
def Qf {N:List Str}(hN:N.Nodup){i j:Nat}{x:Str}(a:N[i]?=some x)(b:N[j]?=some x):i=j:=by
 obtain⟨h1,e1⟩:=zv.mp a;obtain⟨h2,e2⟩:=zv.mp b;exact (List.getElem_inj hN).mp (e1.trans e2.symm)
def NQ {M:Model}{A:Around}{E:Value->Shared->Prop}{i:Nat}{x:Str}{v:V}{u:Value}{Q:Unit->Shared->Prop}(I:Inv X pins σ H s)(hN:X.N.Nodup)(hi:X.N[i]?=some x)(hx:Loc X.env.scope x)(r:RelV v u)
 (h:∀s',Inv X pins (σ.set i (some v)) H s'->(∃a,yS a s.heap s'.heap/\(a=X.env.locals\/X.env.cells.lookup x=some a))->Q () s') (hf:X.fn x=true\/X.env.scope.names.lookup x=some .local:=by first|exact .inl rfl|exact .inr rfl|assumption):wpAny M A (storeName X.env x u) Q E s:=by
 obtain⟨m,hn,hl⟩:=id I.loc;have lr:(X.env.scope.kind==.class||(X.env.scope.kind==.module&&X.env.locals != X.env.globals))=false:=by rw[I.ok.kind];rfl
 have hiσ:i<σ.length:=by rw[I.len];exact (zv.mp hi).1
 have gD:=I.gD;have tracked:∀ {a:Addr} {h':Heap},(∃o,s.heap.get? a=some o/\H a=none)->yS a s.heap h'->F7 X.prog X.w H h':=fun {a h'} ha hs b ob e=>by
  obtain⟨_,_,dk⟩:=ha;refine (I.Ax b ob e).LY (λ c w' hc q=>(hs.2 c ?_).trans q) (λ _ q=>q) λ _ _ q=>q;rintro rfl;rcases hc with rfl|hc
  ·rw[dk] at e;cases e
  ·rw[dk] at hc;cases hc
 rcases hx with hk|hk
 ·refine wpAny_storeName_local hk hn (λ h' bG hs=>?_) lr;obtain⟨oL,_,_,ls,_⟩:=id hn;refine h _ ⟨I.ok,I.os,I.bare,⟨λ b o e n hb hx=>?_,λ b o e n hb hx=>?_,I.base.free,λ b o e hx=>?_,I.base.LZ,I.base.K7,I.base.M2⟩,⟨_,bG,λ j y v' e1 e2 e3=>?_⟩,λ y c e=>?_,I.free,I.EX,λ p hp=>?_,tracked ⟨oL,ls,I.free⟩ hs,by simpa using I.len⟩ ⟨_,hs,.inl rfl⟩
  ·exact (hs.2 b (zD (zA (zt e) I.ok.above))).trans (I.base.keep b o e n hb hx)
  ·obtain⟨sl,e1⟩:=I.base.slot b o e n hb hx;exact⟨sl,(hs.2 b (zD (zA (zt e) I.ok.above))).trans e1⟩
  ·obtain⟨o',e1⟩:=I.base.there b o e hx;exact⟨o',(hs.2 b (zD (zA (zt e) I.ok.above))).trans e1⟩
  ·by_cases hj:j=i
   ·subst hj;rw[hi] at e1;cases e1;rw[zU hiσ] at e2;cases e2;exact⟨u,r,.inl ⟨hk,by simp⟩⟩
   ·rw[yi (yb hj)] at e2;obtain⟨u',r',q⟩:=hl j y v' e1 e2 e3;refine⟨u',r',?_⟩;rcases q with ⟨k,e⟩|⟨k,c,e,z⟩
    ·refine .inl ⟨k,?_⟩;have:y≠x:=λ e=>hj (Qf hN e1 (e▸hi));simp[this,e]
    ·exact .inr ⟨k,c,e,z.sameBut hs (gD y c e)⟩
  ·obtain⟨w',z⟩:=I.cell y c e;exact⟨w',z.sameBut hs (gD y c e)⟩
  ·obtain⟨e,n,ne,nf,d⟩:=I.pin p hp;exact⟨(hs.2 p.1 ne).trans e,n,ne,nf,d⟩
 ·have lu:X.fn x=true:=by
   rcases hf with z|z
   ·exact z
   ·rw[z] at hk;cases hk
  obtain⟨c,hc⟩:=I.ok.has x (.inl hk);obtain⟨w',z⟩:=I.cell x c hc;refine wpAny_storeName_cell I.ok.kind hk hc z (λ h' gx hs=>?_);obtain⟨oc,sV,lw⟩:=id z;refine h {s with heap:=h' } ⟨I.ok,I.os,I.bare,⟨λ b o e n hb hx=>?_,λ b o e n hb hx=>?_,I.base.free,λ b o e hx=>?_,I.base.LZ,I.base.K7,I.base.M2⟩,⟨m,hn.sameBut hs (yb (gD x c hc)),λ j y v' e1 e2 e3=>?_⟩,λ y c' e=>?_,I.free,I.EX,λ p hp=>?_,tracked ⟨oc,sV,I.EX x c hc⟩ hs,by simpa using I.len⟩ ⟨c,hs,.inr hc⟩
  ·exact (hs.2 b (zD (zA (zt e) (I.ok.lV x c lu hc)))).trans (I.base.keep b o e n hb hx)
  ·obtain⟨sl,e1⟩:=I.base.slot b o e n hb hx;exact⟨sl,(hs.2 b (zD (zA (zt e) (I.ok.lV x c lu hc)))).trans e1⟩
  ·obtain⟨o',e1⟩:=I.base.there b o e hx;exact⟨o',(hs.2 b (zD (zA (zt e) (I.ok.lV x c lu hc)))).trans e1⟩
  ·by_cases hj:j=i
   ·subst hj;rw[hi] at e1;cases e1;rw[zU hiσ] at e2;cases e2;exact⟨u,r,.inr ⟨.inl hk,c,hc,gx⟩⟩
   ·rw[yi (yb hj)] at e2;obtain⟨u',r',q⟩:=hl j y v' e1 e2 e3;refine⟨u',r',?_⟩;rcases q with q|⟨k,c',e,z'⟩
    ·exact .inl q
    ·refine .inr ⟨k,c',e,z'.sameBut hs ?_⟩;rintro rfl;exact hj (Qf hN e1 (I.ok.inj _ _ _ e hc▸hi))
  ·by_cases j5:c'=c
   ·subst j5;exact⟨_,gx⟩
   ·obtain⟨w2,z2⟩:=I.cell y c' e;exact⟨w2,z2.sameBut hs j5⟩
  ·obtain⟨e,n,ne,nf,d⟩:=I.pin p hp;refine⟨(hs.2 p.1 ?_).trans e,n,ne,nf,d⟩;intro q;rw[q,sV] at e;have q':oc=p.2:=zE e;exact d w' (by rw[<-q'];exact lw)
def Qg {M:Model}{A:Around}{E:Value->Shared->Prop}{i:Nat}{x:Str}{v:V}{u:Value}{Q:Unit->Shared->Prop}(I:Inv X pins σ H s)(hN:X.N.Nodup)(hi:X.N[i]?=some x)(hx:Loc X.env.scope x)(r:RelV v u)
 (h:∀s',Inv X pins (σ.set i (some v)) H s'->Q () s') (hf:X.fn x=true\/X.env.scope.names.lookup x=some .local:=by first|exact .inl rfl|exact .inr rfl|assumption):wpAny M A (storeName X.env x u) Q E s:=
 NQ I hN hi hx r (λ s' I' _=>h s' I') hf
def Inv.eX {s':Shared}{ch:List Addr}(I:Inv X pins σ H s)(ho:s'.os=s.os)(u:Un (KJ X.stack) ch H H' s.heap s'.heap)(Ax:F7 X.prog X.w H' s'.heap)(hg:AllBare s'.gens)
 (cm:∀b∈ch,(b∈X.ex\/X.s₀.heap.objs.size<=b)/\b≠X.env.locals/\(∀x c,X.env.cells.lookup x=some c->c≠b)/\∀p∈X.pn++pins,p.1≠b):Inv X pins σ H' s':=by
 obtain⟨h',g',d',t',o'⟩:=s';have e:o'=s.os:=ho;subst e;exact I.call (g':=g') (t':=t') (d':=d') u Ax hg cm
end
noncomputable abbrev XK:=Value->Option Addr->Hp->Prop
noncomputable abbrev St:=List (Option V)
noncomputable abbrev VK:=V->Hp->Prop
noncomputable abbrev TE:=St->Hp->VK->Prop
noncomputable abbrev TT:=St->Hp->(Bool->Hp->Prop)->Prop
noncomputable abbrev TA:=St->Hp->(List V->Hp->Prop)->Prop
structure Ends where
 nx:St->Hp->Prop
 rt:VK
 bk:St->Hp->Prop:=λ _ _=>False
 ct:St->Hp->Prop:=λ _ _=>False
noncomputable abbrev TS:=Ends->St->Hp->Prop
def EP (X:Cx)(pins:List (Addr×Obj))(σ:St)(Q:VK)(u:Value)(s':Shared):Prop:=∃v H',Inv X pins σ H' s'/\RelV v u/\Q v H'
def TP (X:Cx)(pins:List (Addr×Obj))(σ:St)(Q:Bool->Hp->Prop)(b:Bool)(s':Shared):Prop:=∃H',Inv X pins σ H' s'/\Q b H'
def AP (X:Cx)(pins:List (Addr×Obj))(σ:St)(Q:List V->Hp->Prop)(us:List Value)(s':Shared):Prop:=∃vs H',Inv X pins σ H' s'/\Vals vs us/\Q vs H'
def SP (X:Cx)(pins:List (Addr×Obj))(D:Ends)(f:Flow)(s':Shared):Prop:=
 match f with
 | .next=>∃σ' H',Inv X pins σ' H' s'/\D.nx σ' H'
 | .brk=>∃σ' H',Inv X pins σ' H' s'/\D.bk σ' H'
 | .cont=>∃σ' H',Inv X pins σ' H' s'/\D.ct σ' H'
 | .ret u=>∃v σ' H',Inv X pins σ' H' s'/\RelV v u/\D.rt v H'
def PE (X:Cx)(e:Expr)(t:TE):Prop:=
 ∀(pins:List (Addr×Obj)) (s:Shared) (σ:St) (H:Hp) (Q:VK),Inv X pins σ H s->t σ H Q->wpAny (model X.prog X.w) X.A (eval e X.env) (EP X pins σ Q) X.xe s
def PT (X:Cx)(e:Expr)(t:TT):Prop:=
 ∀(pins:List (Addr×Obj)) (s:Shared) (σ:St) (H:Hp) (Q:Bool->Hp->Prop),Inv X pins σ H s->t σ H Q->wpAny (model X.prog X.w) X.A (isTrue e X.env (eval e X.env)) (TP X pins σ Q) X.xe s
def PW (X:Cx)(e:Expr)(t:TT):Prop:=
 ∀(whole:Sem Value) (pins:List (Addr×Obj)) (s:Shared) (σ:St) (H:Hp) (Q:Bool->Hp->Prop),Inv X pins σ H s->t σ H Q->wpAny (model X.prog X.w) X.A (isTrue e X.env whole) (TP X pins σ Q) X.xe s
def PW.pt {X:Cx}{e:Expr}{t:TT}(h:PW X e t):PT X e t:=h _
def PA (X:Cx)(es:List Expr)(t:TA):Prop:=
 ∀(pos:Pos) (pins:List (Addr×Obj)) (s:Shared) (σ:St) (H:Hp) (Q:List V->Hp->Prop),Inv X pins σ H s->t σ H Q->wpAny (model X.prog X.w) X.A (spliced (backTo pos (starEach es X.env))) (AP X pins σ Q) X.xe s
def PS (X:Cx)(st:Stmt)(t:TS):Prop:=
 ∀(pins:List (Addr×Obj)) (s:Shared) (σ:St) (H:Hp) (D:Ends),Inv X pins σ H s->t D σ H->wpAny (model X.prog X.w) X.A (exec st X.env) (SP X pins D) X.xe s
def TC (X:Cx)(st:List Stmt)(t:TS):Prop:=
 ∀(pins:List (Addr×Obj)) (s:Shared) (σ:St) (H:Hp) (D:Ends),Inv X pins σ H s->t D σ H->wpAny (model X.prog X.w) X.A (execs st X.env) (SP X pins D) X.xe s
def Bh {α:Type}{t:Sem α}{Q Q':α->Shared->Prop}{M:Model}{A:Around}{E:Value->Shared->Prop}{s:Shared}(h:wpAny M A t Q E s)(hQ:∀a s,Q a s->Q' a s):wpAny M A t Q' E s:=wpAny_mono h hQ λ _ _ x=>x
section
variable {X:Cx}
def bin {a b:Expr}{ta tb:TE}(ha:PE X a ta)(hb:PE X b tb){pins:List (Addr×Obj)}{s:Shared}{σ:St}{H:Hp}{R:V->V->Hp->Prop}(I:Inv X pins σ H s)(h:ta σ H λ x H1=>tb σ H1 λ y H2=>R x y H2)
 {α:Type} {Q:α->Shared->Prop} {f:Value->Value->Sem α}
 (hf:∀v u s2 x y H2,Inv X pins σ H2 s2->RelV x v->RelV y u->R x y H2->wpAny (model X.prog X.w) X.A (f v u) Q X.xe s2):
 wpAny (model X.prog X.w) X.A (eval a X.env) (λ v s₁=>wpAny (model X.prog X.w) X.A (eval b X.env) (λ u s₂=>wpAny (model X.prog X.w) X.A (f v u) Q X.xe s₂) X.xe s₁) X.xe s:=by
 refine Bh (ha pins s σ H _ I h) λ v s1 ⟨x,H1,I1,r1,q1⟩=>?_;refine Bh (hb pins s1 σ H1 _ I1 q1) λ u s2 ⟨y,H2,I2,r2,q2⟩=>?_;exact hf v u s2 x y H2 I2 r1 r2 q2
noncomputable def Qh (i:Nat):TE:=λ σ H Q=>∃v,σ[i]?=some (some v)/\Q v H
noncomputable def tC (v:V):TE:=λ _ H Q=>Q v H
def gE {i:Nat}{x:Str}{pos:Pos}(hN:X.N[i]?=some x)(hv:qM X.env.scope x)(hd:(x==("__debug__" : Str))=false:=by decide)(bh:(x==("__classdict__" : Str))=false:=by decide):PE X (.Name x pos) (Qh i):=by
 intro pins s σ H Q I h;obtain⟨v,e,h⟩:=h;obtain⟨m,hn,hl⟩:=I.loc;obtain⟨u,r,l⟩:=hl i x v hN e hv;have fin:EP X pins σ Q u s:=⟨v,H,I,r,h⟩;rcases l with ⟨hk,hm⟩|⟨hk,c,hc,b9⟩
 ·exact wpAny_Name (wpAny_loadName_local I.ok.kind hk hn hm fin) hd
 ·rcases hk with hk|hk
  ·exact wpAny_Name (wpAny_loadName_cell I.ok.kind hk hc b9 fin) hd
  ·exact wpAny_Name (wpAny_loadName_free I.ok.kind hk hc b9 fin bh) hd
def gF {i j pos}:PE X (.Constant (.int i) j pos) (tC (.int i)):=λ _ _ _ H _ I h=>wpAny_Constant_int ⟨.int i,H,I.tok _,⟨_,rfl⟩,h⟩
def lW {b j pos}:PE X (.Constant (.bool b) j pos) (tC (.bl b)):=λ _ _ _ H _ I h=>Constant_bool ⟨.bl b,H,I,rfl,h⟩
def gH {j pos}:PE X (.Constant .none j pos) (tC .AD):=λ _ _ _ H _ I h=>Constant_none ⟨.AD,H,I,rfl,h⟩
def gI {x j pos}:PE X (.Constant (.str x) j pos) (tC (.str x)):=λ _ _ _ H _ I h=>Calls.Constant_str ⟨.str x,H,I.tok _,⟨_,rfl⟩,h⟩
def Gl (X:Cx)(x:Str):Prop:=X.env.kindOf x=some .globalImplicit
def OO {E:Value->Shared->Prop}{pins:List (Addr×Obj)}{s:Shared}{σ:St}{H:Hp}{x:Str}{u:Value}{pos:Pos}{Q:Value->Shared->Prop}(I:Inv X pins σ H s)(hg:Gl X x)(hm:X.mg x=some u)(h:Q u s)
 (hd:(x==("__debug__" : Str))=false:=by decide):wpAny (model X.prog X.w) X.A (eval (.Name x pos) X.env) Q E s:=
 Calls.Name_function_global I.ok.kind hg (Calls.loadGlobal_global (by rw[I.ok.glob];exact I.mod.glob.keeps I.bk) hm h) hd
def Ez {E:Value->Shared->Prop}{pins:List (Addr×Obj)}{s:Shared}{σ:St}{H:Hp}{x:Str}{u:Value}{pos:Pos}{Q:Value->Shared->Prop}(I:Inv X pins σ H s)(hg:Gl X x)(hm:X.mg x=none)(hv:bootBuiltins x=some u)(h:Q u s)
 (hn:x ≠ "__name__" := by decide) (hd:(x==("__debug__" : Str))=false:=by decide):wpAny (model X.prog X.w) X.A (eval (.Name x pos) X.env) Q E s:=by
 obtain⟨mb,h1,h2⟩:=I.mod.blt;exact Calls.Name_function_global I.ok.kind hg (Calls.loadGlobal_builtin (by rw[I.ok.glob];exact I.mod.glob.keeps I.bk) hm (by rw[I.ok.blt];exact h1.keeps I.bk) ((h2 x hn).trans hv) h) hd
def YV {x:Str}{v:V}{u:Value}{pos:Pos}(hg:Gl X x)(hm:X.mg x=none)(hv:bootBuiltins x=some u)(r:RelV v u)(hn:x ≠ "__name__" := by decide)(hd:(x==("__debug__" : Str))=false:=by decide):PE X (.Name x pos) (tC v):=
 λ _ _ _ H _ I h=>Ez I hg hm hv ⟨v,H,I,r,h⟩ hn hd
variable {a b:Expr}{ta tb:TE}{pos:Pos}
def PC (X:Cx)(op:CmpOp)(a b:Expr)(t:TE):Prop:=
 ∀(pins:List (Addr×Obj)) (s:Shared) (σ:St) (H:Hp) (Q:VK),Inv X pins σ H s->t σ H Q->
  wpAny (model X.prog X.w) X.A (eval a X.env) (λ v s₁=>wpAny (model X.prog X.w) X.A (eval b X.env) (λ u s₂=>wpAny (model X.prog X.w) X.A (compareOp op v u) (EP X pins σ Q) X.xe s₂) X.xe s₁) X.xe s
def Qi (b:Expr){op:CmpOp}(h:op≠.In)(h2:op≠.NotIn):behindInMarks op b=false:=by
 have e1:(op==CmpOp.In)=false:=by cases op<;>first|rfl|exact absurd rfl h
 have e2:(op==CmpOp.NotIn)=false:=by cases op<;>first|rfl|exact absurd rfl h2
 cases b<;>simp[behindInMarks,e1,e2]
noncomputable def qP (ta:TE):TE:=λ σ H Q=>ta σ H λ x H1=>Q (.bl (decide (x=.AD))) H1
noncomputable def lX (ta:TE):TE:=λ σ H Q=>ta σ H λ x H1=>Q (.bl (!decide (x=.AD))) H1
def RelV.Qj {x:V}{v:Value}(r:RelV x v):(v==Value.none)=decide (x=.AD):=by
 cases x with
 |AD=>cases r;rfl
 |bl _=>cases r;rfl
 |int _=>obtain⟨t,rfl⟩:=r;rfl
 |str _=>obtain⟨t,rfl⟩:=r;rfl
 |fZ _=>obtain⟨t,rfl⟩:=r;rfl
 |lS _=>obtain⟨t,rfl⟩:=r;rfl
 |ref _=>cases r;rfl
 |ty _=>cases r;rfl
def Wy {j pos'}(ha:PE X a ta):PC X .Is a (.Constant .none j pos') (qP ta):=by
 intro pins s σ H Q I h;refine Bh (ha pins s σ H _ I h) λ v s1 ⟨x,H1,I1,r1,q1⟩=>?_;exact Constant_none (is_none_gen ⟨.bl _,H1,I1,by rw[r1.Qj];rfl,q1⟩)
def YW {j pos'}(ha:PE X a ta):PC X .IsNot a (.Constant .none j pos') (lX ta):=by
 intro pins s σ H Q I h;refine Bh (ha pins s σ H _ I h) λ v s1 ⟨x,H1,I1,r1,q1⟩=>?_;exact Constant_none (isnot_none_gen ⟨.bl _,H1,I1,by rw[r1.Qj];rfl,q1⟩)
noncomputable def tB (t:TE):TT:=λ σ H Q=>t σ H λ x H1=>∃c,x=.bl c/\Q c H1
def gJ {op:CmpOp}{t:TE}(h:PC X op a b t)(h1:behindInMarks op b=false:=by first | exact Qi _ (by decide) (by decide) | rfl):PE X (.Compare a [op] [b] pos) t:=λ pins s σ H Q I hw=>wpAny_Compare1 (h pins s σ H Q I hw) h1
def Wz {op:CmpOp}{t:TE}(h:PC X op a b t)(h1:behindInMarks op b=false:=by first | exact Qi _ (by decide) (by decide) | rfl):PT X (.Compare a [op] [b] pos) (tB t):=by
 intro pins s σ H Q I hw;refine wpAny_isTrue_Compare1 (Bh (h pins s σ H _ I hw) λ v s1 h1=>Bh h1 λ u s2 h2=>Bh h2 λ c s3 ⟨x,H1,I1,r1,q1⟩=>?_) h1;obtain⟨d,rfl,q⟩:=q1;cases r1;exact wpAny_truthy_bool ⟨H1,I1,q⟩
variable {tA j6:TT}{rest:List Expr}
noncomputable def qQ (t u:TT):TT:=λ σ H Q=>t σ H λ c H1=>if c=true then u σ H1 Q else Q false H1
noncomputable def uE (t u:TT):TT:=λ σ H Q=>t σ H λ c H1=>if c=true then Q true H1 else u σ H1 Q
noncomputable def qR (t:TT):TT:=λ σ H Q=>t σ H λ c H1=>Q (!c) H1
def pw_and1 (ha:PT X a tA):PW X (.BoolOp .And [a] pos) tA:=by
 intro wh pins s σ H Q I h;refine isTrue_and (Bh (ha pins s σ H Q I h) λ c s1 e=>?_);cases c with
 |true=>exact isTrue_and_nil e
 |false=>exact e
def pw_or1 (ha:PT X a tA):PW X (.BoolOp .Or [a] pos) tA:=by
 intro wh pins s σ H Q I h;refine isTrue_or (Bh (ha pins s σ H Q I h) λ c s1 e=>?_);cases c with
 |false=>exact isTrue_or_nil e
 |true=>exact e
def pw_and (ha:PT X a tA)(hb:PW X (.BoolOp .And (b::rest) pos) j6):PW X (.BoolOp .And (a::b::rest) pos) (qQ tA j6):=by
 intro wh pins s σ H Q I h;refine isTrue_and (Bh (ha pins s σ H _ I h) λ c s1 ⟨H1,I1,q1⟩=>?_);cases c with
 |true=>exact hb wh pins s1 σ H1 Q I1 q1
 |false=>exact⟨H1,I1,q1⟩
def pw_or (ha:PT X a tA)(hb:PW X (.BoolOp .Or (b::rest) pos) j6):PW X (.BoolOp .Or (a::b::rest) pos) (uE tA j6):=by
 intro wh pins s σ H Q I h;refine isTrue_or (Bh (ha pins s σ H _ I h) λ c s1 ⟨H1,I1,q1⟩=>?_);cases c with
 |true=>exact⟨H1,I1,q1⟩
 |false=>exact hb wh pins s1 σ H1 Q I1 q1
def gK (ha:PT X a tA):PT X (.UnaryOp .Not a pos) (qR tA):=by
 intro pins s σ H Q I h;exact isTrue_not (ha pins s σ H (λ c H1=>Q (!c) H1) I h)
noncomputable def lY (ta tb:TE):TE:=λ σ H Q=>ta σ H λ x H1=>∃c,x=.bl c/\if c=true then tb σ H1 Q else Q (.bl false) H1
noncomputable def qS (ta tb:TE):TE:=λ σ H Q=>ta σ H λ x H1=>∃c,x=.bl c/\if c=true then Q (.bl true) H1 else tb σ H1 Q
noncomputable def lZ (ta:TE):TE:=λ σ H Q=>ta σ H λ x H1=>∃c,x=.bl c/\Q (.bl (!c)) H1
def gL {op}{t:TE}(h:PE X a t):PE X (.BoolOp op [a] pos) t:=λ pins s σ H Q I hw=>BoolOp_one (h pins s σ H Q I hw)
def gM (ha:PE X a ta)(hb:PE X (.BoolOp .And (b::rest) pos) tb):PE X (.BoolOp .And (a::b::rest) pos) (lY ta tb):=by
 intro pins s σ H Q I h;refine BoolOp_and (Bh (ha pins s σ H _ I h) λ v s1 ⟨x,H1,I1,r1,q1⟩=>?_);obtain⟨c,rfl,q1⟩:=q1;cases r1;refine wpAny_truthy_bool ?_;cases c with
 |true=>exact hb pins s1 σ H1 Q I1 q1
 |false=>exact⟨.bl false,H1,I1,rfl,q1⟩
def mB (ha:PE X a ta)(hb:PE X (.BoolOp .Or (b::rest) pos) tb):PE X (.BoolOp .Or (a::b::rest) pos) (qS ta tb):=by
 intro pins s σ H Q I h;refine BoolOp_or (Bh (ha pins s σ H _ I h) λ v s1 ⟨x,H1,I1,r1,q1⟩=>?_);obtain⟨c,rfl,q1⟩:=q1;cases r1;refine wpAny_truthy_bool ?_;cases c with
 |false=>exact hb pins s1 σ H1 Q I1 q1
 |true=>exact⟨.bl true,H1,I1,rfl,q1⟩
def gN (ha:PE X a ta):PE X (.UnaryOp .Not a pos) (lZ ta):=by
 intro pins s σ H Q I h;refine UnaryOp_ (Bh (ha pins s σ H _ I h) λ v s1 ⟨x,H1,I1,r1,q1⟩=>?_);obtain⟨c,rfl,q1⟩:=q1;cases r1;exact not_of (wpAny_truthy_bool ⟨.bl (!c),H1,I1,rfl,q1⟩)
end
def Dn (K:za)(H:Hp)(a:Addr)(xs:List V):Prop:=
 Rd H a (.lst xs) \/
  ∃(o:Obj) (aa:Array Value) (n:Nat),K.lookup a=some o/\o.cls=.type "list" /\ o.dict=none/\o.data=.seq aa n/\aa.size<=sizeLine/\Vals xs aa.toList
def Er (K:za)(H:Hp)(a:Addr)(xs:List V):Prop:=
 Rd H a (.tup xs) \/
  ∃(o:Obj) (aa:Array Value) (n:Nat),K.lookup a=some o/\o.cls=.type "tuple" /\ o.data=.seq aa n/\aa.size<=sizeLine/\Vals xs aa.toList
noncomputable def qT:Value->Option V
 | .none=>some .AD
 | .bool b=>some (.bl b)
 | .int i _=>some (.int i)
 | .str x _=>some (.str x)
 | .bytes b _=>some (.fZ b)
 | .float b _=>some (.lS b)
 | .ref a=>some (.ref a)
 | .type n=>some (.ty n)
 |_=>none
def RelV.abs {x:V}{u:Value}(r:RelV x u):qT u=some x:=by
 cases x with
 |AD=>cases r;rfl
 |bl _=>cases r;rfl
 |int _=>obtain⟨t,rfl⟩:=r;rfl
 |str _=>obtain⟨t,rfl⟩:=r;rfl
 |fZ _=>obtain⟨t,rfl⟩:=r;rfl
 |lS _=>obtain⟨t,rfl⟩:=r;rfl
 |ref _=>cases r;rfl
 |ty _=>cases r;rfl
def RelV.inj {x y:V}{u:Value}(r:RelV x u)(q:RelV y u):x=y:=zE (r.abs.symm.trans q.abs)
def Vals.inj:∀ {xs ys:List V}{us:List Value},Vals xs us->Vals ys us->xs=ys
 |_,_,_,.nil,.nil=>rfl
 |_,_,_,.cons r t,.cons r' t'=>by rw[r.inj r',Vals.inj t t']
section
variable {X:Cx}{pins:List (Addr×Obj)}{σ:St}{H:Hp}{s:Shared}{a:Addr}{xs ys:List V}
def Dn.of {K:za}(h:H a=some (.lst xs)):Dn K H a xs:=.inl (.inl h)
def Er.of {K:za}(h:H a=some (.tup xs)):Er K H a xs:=.inl (.inl h)
def Inv.list (I:Inv X pins σ H s)(h:Dn X.K H a xs):∃aa:List Value,Vals xs aa/\PlainL s.heap a aa.toArray/\xs.length<=sizeLine:=by
 rcases h with h|⟨o,aa,n,hk,hc,hd,hs,hz,r⟩
 ·obtain⟨z,aa,n,r,e⟩:=h.ok I.Ax;exact⟨aa,r,⟨_,n,e,rfl,rfl,rfl⟩,z⟩
 ·refine⟨aa.toList,r,⟨o,n,I.Nn a o hk,hc,hd,by simpa using hs⟩,?_⟩;have e:=r.length;simp only[Array.length_toList] at e;omega
def Inv.tuple (I:Inv X pins σ H s)(h:Er X.K H a xs):∃aa:List Value,Vals xs aa/\IsTup s.heap a aa.toArray/\xs.length<=sizeLine:=by
 rcases h with h|⟨o,aa,n,hk,hc,hs,hz,r⟩
 ·obtain⟨z,aa,r,p⟩:=h.ok I.Ax;exact⟨aa,r,p,z⟩
 ·refine⟨aa.toList,r,⟨o,I.Nn a o hk,hc,n,by simpa using hs⟩,?_⟩;have e:=r.length;simp only[Array.length_toList] at e;omega
def Inv.IW (I:Inv X pins σ H s)(h:Dn X.K H a xs)(h':Dn X.K H a ys):xs=ys:=by
 obtain⟨aa,r,⟨o,n,e,_,_,d⟩,_⟩:=I.list h;obtain⟨its',r',⟨o',n',e',_,_,d'⟩,_⟩:=I.list h';rw[e] at e';cases e';rw[d] at d';injection d' with d1 _
 have:aa=its':=by simpa using congrArg Array.toList d1
 subst this;exact r.inj r'
def Inv.EY (I:Inv X pins σ H s)(h:Er X.K H a xs)(h':Er X.K H a ys):xs=ys:=by
 obtain⟨aa,r,⟨o,e,_,n,d⟩,_⟩:=I.tuple h;obtain⟨its',r',⟨o',e',_,n',d'⟩,_⟩:=I.tuple h';rw[e] at e';cases e';rw[d] at d';injection d' with d1 _
 have:aa=its':=by simpa using congrArg Array.toList d1
 subst this;exact r.inj r'
end
noncomputable abbrev Cx.Nq (X:Cx)(E:Value->Shared->Prop):Cx:={X with xe:=E}
noncomputable abbrev Cx.mC (X:Cx):Cx:=X.Nq λ _ _=>False
def Cx.Ok.Nq {X:Cx}(ok:X.Ok)(E:Value->Shared->Prop):(X.Nq E).Ok:=
 ⟨ok.mod,ok.kind,ok.glob,ok.blt,ok.above,ok.inj,ok.has,ok.lV,ok.hd,ok.frames,ok.eW,ok.pM,ok.bs,ok.YU,ok.Ww,ok.Wx,ok.IU,ok.gC⟩
def Cx.Ok.G4 {X:Cx}{E:Value->Shared->Prop}(ok:(X.Nq E).Ok):X.Ok:=
 ⟨ok.mod,ok.kind,ok.glob,ok.blt,ok.above,ok.inj,ok.has,ok.lV,ok.hd,ok.frames,ok.eW,ok.pM,ok.bs,ok.YU,ok.Ww,ok.Wx,ok.IU,ok.gC⟩
section
variable {X:Cx}{pins:List (Addr×Obj)}{σ:St}{H:Hp}{s:Shared}{E:Value->Shared->Prop}
def Inv.Nq (I:Inv X pins σ H s)(E:Value->Shared->Prop):Inv (X.Nq E) pins σ H s:=⟨I.ok.Nq E,I.os,I.bare,I.base,I.loc,I.cell,I.free,I.EX,I.pin,I.Ax,I.len⟩
def Inv.G4 (I:Inv (X.Nq E) pins σ H s):Inv X pins σ H s:=⟨I.ok.G4,I.os,I.bare,I.base,I.loc,I.cell,I.free,I.EX,I.pin,I.Ax,I.len⟩
def SP.G4 {D:Ends}{f:Flow}{s':Shared}(h:SP (X.Nq E) pins D f s'):SP X pins D f s':=by
 cases f with
 |next=>obtain⟨σ',H',I,q⟩:=h;exact⟨σ',H',I.G4,q⟩
 |brk=>obtain⟨σ',H',I,q⟩:=h;exact⟨σ',H',I.G4,q⟩
 |cont=>obtain⟨σ',H',I,q⟩:=h;exact⟨σ',H',I.G4,q⟩
 |ret u=>obtain⟨v,σ',H',I,r,q⟩:=h;exact⟨v,σ',H',I.G4,r,q⟩
def TC.mC {st:List Stmt}{t:TS}(h:TC X.mC st t):TC X st t:=λ pins s σ H D I hw =>
 wpAny_mono (h pins s σ H D (I.Nq _) hw) (λ _ _ q=>q.G4) λ _ _ z=>yH z
end
section
variable {X:Cx}{st:Stmt}{rest:List Stmt}{t u:TS}{e:Expr}{te:TE}{pos:Pos}
noncomputable def mD:TS:=λ D σ H=>D.nx σ H
noncomputable def qU (t u:TS):TS:=λ D σ H=>t {D with nx:=u D} σ H
def YX:TC X [] mD:=λ _ _ σ H _ I h=>wpAny_execs_nil ⟨σ,H,I,h⟩
def WA (h1:PS X st t)(h2:TC X rest u):TC X (st::rest) (qU t u):=by
 intro pins s σ H D I h;refine wpAny_execs_cons (Bh (h1 pins s σ H {D with nx:=u D} I h) λ f s1 q=>?_);cases f with
 |next =>
  obtain⟨σ',H',I',q⟩:=q;exact h2 pins s1 σ' H' D I' q
 |ret v=>exact q
 |brk=>exact q
 |cont=>exact q
def YY (h1:PS X st t):TC X [st] t:=by
 intro pins s σ H D I h;refine wpAny_execs_cons (Bh (h1 pins s σ H D I h) λ f s1 q=>?_);cases f with
 |next=>exact wpAny_execs_nil q
 |ret v=>exact q
 |brk=>exact q
 |cont=>exact q
def Inv.quiet {pins:List (Addr×Obj)}{σ:St}{H:Hp}{s:Shared}(I:Inv X pins σ H s):interactive X.env=false:=by simp[interactive,I.ok.kind]
noncomputable def mE (te:TE):TS:=λ D σ H=>te σ H λ _ H1=>D.nx σ H1
def F9 (he:PE X e te)(hs:swapsWith e none pos.line X.env=pure false:=by rfl):PS X (.Expr e pos) (mE te):=by
 intro pins s σ H D I h;exact wpAny_Expr_any (Bh (he pins s σ H _ I h) λ v s1 ⟨x,H1,I1,r1,q1⟩=>⟨σ,H1,I1,q1⟩) I.quiet hs
noncomputable def qV (te:TE):TS:=λ D σ H=>te σ H D.rt
def S2 (he:PE X e te):PS X (.Return (some e) pos) (qV te):=by
 intro pins s σ H D I h;exact wpAny_Return_some (Bh (he pins s σ H _ I h) λ v s1 ⟨x,H1,I1,r1,q1⟩=>⟨x,σ,H1,I1,r1,q1⟩)
noncomputable def qW (c:TT)(t u:TS):TS:=λ D σ H=>c σ H λ b H1=>if b=true then t D σ H1 else u D σ H1
def mF {c:Expr}{a b:List Stmt}{tc:TT}(hc:PT X c tc)(ha:TC X a t)(hb:TC X b u):PS X (.If c a b pos) (qW tc t u):=by
 intro pins s σ H D I h;refine wpAny_If (Bh (hc pins s σ H _ I h) λ d s1 ⟨H1,I1,q1⟩=>?_);cases d with
 |true=>exact ha pins s1 σ H1 D I1 q1
 |false=>exact hb pins s1 σ H1 D I1 q1
end
noncomputable abbrev TG:=V->St->Hp->(St->Hp->Prop)->Prop
noncomputable abbrev Wn:=List V->St->Hp->(St->Hp->Prop)->Prop
def PG (X:Cx)(target:Expr)(t:TG):Prop:=
 ∀(pins:List (Addr×Obj)) (s:Shared) (σ:St) (H:Hp) (v:V) (u:Value) (Q:St->Hp->Prop),Inv X pins σ H s->RelV v u->t v σ H Q->
  wpAny (model X.prog X.w) X.A (assign target X.env u) (λ _ s'=>∃σ' H',Inv X pins σ' H' s'/\Q σ' H') X.xe s
def lC (X:Cx)(ts:List Expr)(t:Wn):Prop:=
 ∀(pins:List (Addr×Obj)) (s:Shared) (σ:St) (H:Hp) (vs:List V) (us:List Value) (Q:St->Hp->Prop),Inv X pins σ H s->Vals vs us->t vs σ H Q->
  wpAny (model X.prog X.w) X.A (assignInOrder ((assignEach ts X.env).map (·.2)) us) (λ _ s'=>∃σ' H',Inv X pins σ' H' s'/\Q σ' H') X.xe s
noncomputable abbrev gO:=V->V->V->Hp->(Hp->Prop)->Prop
def mG (X:Cx)(t:gO):Prop:=
 ∀(pins:List (Addr×Obj)) (s:Shared) (σ:St) (H:Hp) (o i v:V) (ov iv u:Value) (Q:Hp->Prop),Inv X pins σ H s->RelV o ov->RelV i iv->RelV v u->t o i v H Q->
  wpAny (model X.prog X.w) X.A (setItem ov iv u) (λ _ s'=>∃H',Inv X pins σ H' s'/\Q H') X.xe s
section
variable {X:Cx}{pos:Pos}
noncomputable def NR (i:Nat):TG:=λ v σ H Q=>Q (σ.set i (some v)) H
def OP {i:Nat}{x:Str}(hN:X.N.Nodup)(hi:X.N[i]?=some x)(hx:Loc X.env.scope x)(hf:X.fn x=true\/X.env.scope.names.lookup x=some .local:=by first | exact .inl rfl | exact .inr rfl | assumption):PG X (.Name x pos) (NR i):=by
 intro pins s σ H v u Q I r h;exact wpAny_assign_Name (Qg I hN hi hx r (λ s' I'=>⟨_,H,I',h⟩) hf)
noncomputable def gQ:Wn:=λ vs σ H Q=>vs=[]/\Q σ H
noncomputable def WB (t:TG)(u:Wn):Wn:=λ vs σ H Q=>∃v r,vs=v::r/\t v σ H λ σ' H'=>u r σ' H' Q
def TF:lC X [] gQ:=by
 intro pins s σ H vs us Q I r h;obtain⟨e,h⟩:=h;subst e;cases r;exact assignInOrder_nil ⟨σ,H,I,h⟩
def Qk {e:Expr}{es:List Expr}{t:TG}{u:Wn}(h1:PG X e t)(h2:lC X es u)
 (hs:(assignEach (e::es) X.env).map (·.2)=assign e X.env::(assignEach es X.env).map (·.2):=by rfl):lC X (e::es) (WB t u):=by
 intro pins s σ H vs us Q I r h;obtain⟨v,vr,e1,h⟩:=h;subst e1;cases r with
 |cons r rr =>
  rw[hs];refine assignInOrder_cons (Bh (h1 pins s σ H _ _ _ I r h) λ _ s1 ⟨σ1,H1,I1,q1⟩=>?_);exact h2 pins s1 σ1 H1 _ _ Q I1 rr q1
noncomputable def gR (K:za)(n:Nat)(t:Wn):TG:=λ v σ H Q=>∃a xs,v=.ref a/\Er K H a xs/\xs.length=n/\t xs σ H Q
def WC {es:List Expr}{k:Nat}{t:Wn}{n:Nat}(hc:X.calm=true)(h:lC X es t)
 (hn:(assignEach es X.env).length=n:=by rfl) (aN:(assignEach es X.env).findIdx? (·.1)=none:=by rfl):PG X (.Tuple es k pos) (gR X.K n t):=by
 intro pins s σ H v u Q I r hw;obtain⟨a,xs,e1,hq,hl,hw⟩:=hw;subst e1;cases r;obtain⟨aa,rv,ht,hz⟩:=I.tuple hq;refine assign_Tuple_tuple (I.ok.hd hc) ht (by simp[hn,<-hl,rv.length]) aN λ h' hx=>?_;have I1:Inv X pins σ H {s with heap:=h' }:=I.kept (t':=s.toks) λ b o e=>hx b o (zD (zt e)) e;exact h pins _ σ H xs _ Q I1 (by simpa using rv) hw
noncomputable def qX (to ti:TE)(t:gO):TG:=λ v σ H Q=>to σ H λ o H1=>ti σ H1 λ i H2=>t o i v H2 λ H3=>Q σ H3
def gU {o i:Expr}{to ti:TE}{t:gO}(ho:PE X o to)(hi:PE X i ti)(hs:mG X t)
 (ha:∀v,assign (.Subscript o i pos) X.env v=(do
  let ov <-holding [v] (eval o X.env);let iv <-holding [v,ov] (eval i X.env)
  standAt pos
  holding [v,ov,iv] (setItem ov iv v)
  release [v,ov,iv] []):=by intro _;rfl):PG X (.Subscript o i pos) (qX to ti t):=by
 intro pins s σ H v u Q I r h;rw[ha];refine wpAny_bind (wpAny_holding (Bh (ho pins s σ H _ I h) λ ov s1 ⟨x,H1,I1,r1,q1⟩=>?_));refine wpAny_bind (wpAny_holding (Bh (hi pins s1 σ H1 _ I1 q1) λ iv s2 ⟨y,H2,I2,r2,q2⟩=>?_));refine wpAny_bind (wpAny_standAt (wpAny_bind (wpAny_holding (Bh (hs pins s2 σ H2 x y v ov iv u _ I2 r1 r2 r q2) λ _ s3 ⟨H3,I3,q3⟩=>?_))));exact wpAny_release ⟨σ,H3,I3,q3⟩
noncomputable def mH (te:TE)(g:TG):TS:=λ D σ H=>te σ H λ x H1=>g x σ H1 D.nx
def gW {tg e:Expr}{te:TE}{g:TG}(he:PE X e te)(hg:PG X tg g)(hs:swapsWithSole [tg] e pos.line X.env=pure false:=by rfl)(hw:swappedStores [tg] e X.env=pure none:=by rfl)
 (h1:(assignEach [tg] X.env).map (·.2)=[assign tg X.env]:=by rfl):PS X (.Assign [tg] e pos) (mH te g):=by
 intro pins s σ H D I h;refine wpAny_Assign_stores (Bh (he pins s σ H _ I h) λ v s1 ⟨x,H1,I1,r1,q1⟩=>?_) hs hw;rw[h1];exact Bh (hg pins s1 σ H1 x v _ I1 r1 q1) λ _ s2 q=>q
def WD {i:Nat}{x:Str}{e:Expr}{te:TE}{pos':Pos}(hN:X.N.Nodup)(hi:X.N[i]?=some x)(hx:Loc X.env.scope x)(he:PE X e te)(hs:swapsWith e (some (.Name x pos')) pos.line X.env=pure false:=by rfl)(hf:X.fn x=true\/X.env.scope.names.lookup x=some .local:=by first | exact .inl rfl | exact .inr rfl | assumption):
 PS X (.Assign [.Name x pos'] e pos) (mH te (NR i)):=by
 intro pins s σ H D I h;refine wpAny_Assign_Name (Bh (he pins s σ H _ I h) λ v s1 ⟨y,H1,I1,r1,q1⟩=>?_) hs;exact Qg I1 hN hi hx r1 (λ s2 I2=>⟨_,H1,I2,q1⟩) hf
end
section
variable {X:Cx}{pos:Pos}
noncomputable def gY (c:TT)(tb:TS):TS:=λ D σ H=>∃W:Nat->St->Hp->Prop,(∃m,W m σ H)/\∀m σ H,W m σ H->
 c σ H λ b H1=>if b=true then ∃N:St->Hp->Prop,(∀σ' H',N σ' H'->∃m',m'<m/\W m' σ' H')/\tb {D with nx:=N,ct:=N,bk:=D.nx} σ H1 else D.nx σ H1
def WE {c:Expr}{body:List Stmt}{tc:TT}{tb:TS}(hp:PassesOwn (model X.prog X.w) X.A X.env X.xe)(hc:PT X c tc)(hb:TC X body tb):PS X (.While c body [] pos) (gY tc tb):=by
 intro pins s σ H D I h;obtain⟨W,⟨m0,w0⟩,turn⟩:=h;refine wpAny_While (codeAny_whileLoop (λ n s'=>∃σ' H',Inv X pins σ' H' s'/\W n σ' H') ?_ m0 ⟨σ,H,I,w0⟩);rintro n s1 ⟨σ1,H1,I1,w1⟩;refine wpAny_passesOwn hp (Bh (hc pins s1 σ1 H1 _ I1 (turn n σ1 H1 w1)) λ b s2 ⟨H2,I2,q2⟩=>?_);cases b with
 |true =>
  obtain⟨N,hN,q2⟩:=q2;rw[if_pos rfl];refine wpAny_passesOwn hp (Bh (hb pins s2 σ1 H2 _ I2 q2) λ f s3 q3=>?_);cases f with
  |next =>
   obtain⟨σ3,H3,I3,n3⟩:=q3;obtain⟨m',hm,w3⟩:=hN σ3 H3 n3;exact⟨m',hm,σ3,H3,I3,w3⟩
  |cont =>
   obtain⟨σ3,H3,I3,n3⟩:=q3;obtain⟨m',hm,w3⟩:=hN σ3 H3 n3;exact⟨m',hm,σ3,H3,I3,w3⟩
  |brk=>exact q3
  |ret v=>exact q3
 |false =>
  rw[if_neg zL];exact wpAny_execs_nil ⟨σ1,H2,I2,q2⟩
end
structure It where
 go:Nat->Hp->Prop
 YZ:Nat->Hp->V->Hp->Prop
 stop:Nat->Hp->Prop
def L9 (X:Cx)(pins:List (Addr×Obj))(H:Hp)(b:Addr):Prop:=
 H b=none/\b≠X.env.locals/\b∉X.fs/\(b∈X.ex\/X.s₀.heap.objs.size<=b)/\(∀x c,X.env.cells.lookup x=some c->c≠b)/\∀p∈X.pn++pins,p.1≠b
def Inv.UX {X:Cx}{pins:List (Addr×Obj)}{σ:St}{H H':Hp}{s:Shared}{b:Addr}(I:Inv X pins σ H s)(hb:s.heap.objs.size<=b)(hn:H' b=none):L9 X pins H' b:=by
 refine⟨hn,Nat.ne_of_gt (zA I.lt hb),I.qO hb,.inr (zY I.sz hb),λ x c e z=>?_,λ p hp z=>?_⟩
 ·obtain⟨v,q⟩:=I.cell x c e;exact absurd (zA q.lt (by rw[z];exact hb)) (Nat.lt_irrefl _)
 ·exact absurd (zA (zt (I.pin p hp).1) (by rw[z];exact hb)) (Nat.lt_irrefl _)
structure Turn (P:Program)(w:World)(K:za)(tg:Expr)(J:It)(fp:List Addr)(it:Addr)(tn:Nat->Heap->Prop):Prop where
 mem:it∈fp
 obj:∀i h,tn i h->∀b∈fp,∃o,h.get? b=some o/\∀v,o.data≠.cell v
 keep:∀i h h',tn i h->(∀b∈fp,∀o,h.get? b=some o->h'.get? b=some o)->tn i h'
 item:∀(X:Cx),X.prog=P->X.w=w->X.K=K->X.calm=true->∀(i:Nat) (pins:List (Addr×Obj)) (s:Shared) (σ:St) (H:Hp) (E:Value->Shared->Prop),Inv X pins σ H s->(∀b∈fp,L9 X pins H b)->tn i s.heap->J.go i H->
  wpAny (model P w) X.A (pyNext (.ref it)) (λ r s1=>∃u,r=some u/\
   wpAny (model P w) X.A (letOwnedTupleGo tg (.ref it) u) (λ _ s2=>∃x H',Inv X pins σ H' s2/\RelV x u/\J.YZ i H x H'/\tn (i+1) s2.heap/\∀b∈fp,H' b=none) E s1) E s
 done:∀(X:Cx),X.prog=P->X.w=w->X.K=K->X.calm=true->∀(i:Nat) (pins:List (Addr×Obj)) (s:Shared) (σ:St) (H:Hp) (E:Value->Shared->Prop),Inv X pins σ H s->(∀b∈fp,L9 X pins H b)->tn i s.heap->J.stop i H->
  wpAny (model P w) X.A (pyNext (.ref it)) (λ r s1=>r=none/\Inv X pins σ H s1) E s
 self:∀(A:Around) (i:Nat) (s:Shared) (Q:Value->Shared->Prop) (E:Value->Shared->Prop),tn i s.heap->Q (.ref it) s->wpAny (model P w) A (pyIter (.ref it)) Q E s
noncomputable abbrev TI:=St->Hp->(It->Hp->Prop)->Prop
def qY (X:Cx)(pins:List (Addr×Obj))(σ:St)(tg:Expr)(R:It->Hp->Prop)(j7:Value)(s2:Shared):Prop:=
 ∃(it:Addr) (fp:List Addr) (tn:Nat->Heap->Prop) (J:It) (H':Hp),j7=.ref it/\Inv X pins σ H' s2/\Turn X.prog X.w X.K tg J fp it tn/\tn 0 s2.heap/\(∀b∈fp,L9 X pins H' b)/\R J H'
def PI (X:Cx)(tg iter:Expr)(wi:TI):Prop:=
 ∀(pins:List (Addr×Obj)) (s:Shared) (σ:St) (H:Hp) (R:It->Hp->Prop),Inv X pins σ H s->wi σ H R->
  wpAny (model X.prog X.w) X.A (eval iter X.env) (λ v s1=>wpAny (model X.prog X.w) X.A (pyIter v) (qY X pins σ tg R) X.xe s1) X.xe s
def TH {M:Model}{A:Around}{E:Value->Shared->Prop}{s:Shared}{tg:Expr}{it:Addr}{u:Value}{o:Obj}{n:String}{vs:Array Value}{Q:Unit->Shared->Prop}(ho:s.heap.get? it=some o)(hc:o.cls=.type n)(hd:o.data=.fields vs)
 (hn:["enumerate","zip","dict_itemiterator","dict_reverseitemiterator","odict_iterator","itertools.zip_longest","itertools.pairwise"].contains n=false) (hQ:Q () s):wpAny M A (letOwnedTupleGo tg (.ref it) u) Q E s:=by
 unfold letOwnedTupleGo;cases tg<;>first
  |exact wpAny_pure hQ
  |(cases u<;>first
   |exact wpAny_pure hQ
   |(
    refine wpAny_bind (wpAny_load ho ?_);rw[hc,hd];show wpAny M A (if (["enumerate","zip","dict_itemiterator","dict_reverseitemiterator","odict_iterator","itertools.zip_longest","itertools.pairwise"].contains n&&vs[0]?== some (rawInt _))=true then _ else _) Q E s;rw[if_neg (by intro h;rw[hn,Bool.false_and] at h;cases h)];exact wpAny_pure hQ))
noncomputable def sW (K:za)(a:Addr):It:=
 ⟨λ i H=>∃xs x,Dn K H a xs/\xs[i]?=some x,λ i H x H'=>H'=H/\∀xs,Dn K H a xs->xs[i]?=some x,λ i H=>∃xs,Dn K H a xs/\xs.length<=i⟩
noncomputable def sX (K:za)(a:Addr):It:=
 ⟨λ i H=>∃xs x,Er K H a xs/\xs[i]?=some x,λ i H x H'=>H'=H/\∀xs,Er K H a xs->xs[i]?=some x,λ i H=>∃xs,Er K H a xs/\xs.length<=i⟩
noncomputable def pN (lo:Int)(n:Nat):It:=⟨λ i _=>i<n,λ i H x H'=>H'=H/\x=.int (lo+i),λ i _=>n<=i⟩
def UY {P:Program}{w:World}{K:za}{tg:Expr}(a it:Addr):Turn P w K tg (sW K a) [it] it (λ i h=>h.IsListIter it a i) where
 mem:=by simp
 obj:=λ i h st b hb=>by
  have e:b=it:=by simpa using hb
  subst e;obtain⟨o,e,c,d⟩:=st;exact⟨o,e,λ v z=>by rw[d] at z;cases z⟩
 keep:=λ i h h' st k=>st.at λ o e=>k it (by simp) o e
 item:=by
  intro X hP hw hK hc i pins s σ H E I hf st hg;subst hP hw hK;obtain⟨xs,x,hq,hx⟩:=hg;obtain⟨aa,rv,p,hz⟩:=I.list hq;obtain⟨u,hu,ru⟩:=rv.get hx;obtain⟨f0,f1,f2,f3,f4,f5⟩:=hf it (by simp);refine wpAny_pyNext_list_item st p.isList (x:=u) (by simpa using hu) λ h' bH sb=>?_;have I1:Inv X pins σ H {s with heap:=h' }:=I.turned (t':=s.toks) (λ b o hb e=>(sb.2 b hb).trans e) f0 f1 f3 f4 f5;obtain⟨o,e,c,d⟩:=id bH;exact⟨u,rfl,TH (s:={s with heap:=h' }) e c d (by decide) ⟨x,H,I1,ru,⟨rfl,λ ys hy=>by rw[I.IW hy hq];exact hx⟩,bH,λ b hb=>(hf b hb).1⟩⟩
 done:=by
  intro X hP hw hK hc i pins s σ H E I hf st hg;subst hP hw hK;obtain⟨xs,hq,hx⟩:=hg;obtain⟨aa,rv,p,hz⟩:=I.list hq;obtain⟨f0,f1,f2,f3,f4,f5⟩:=hf it (by simp);have hl:=rv.length;exact wpAny_pyNext_list_end (I.ok.hd hc) st p.isList (by simp;omega) λ h' eb=>⟨rfl,I.turned (t':=s.toks) (λ b o hb e=>eb b o hb e) f0 f1 f3 f4 f5⟩
 self:=λ _ _ _ _ _ st h=>wpAny_pyIter_listiter st h
def S3 {P:Program}{w:World}{K:za}{tg:Expr}(a it:Addr):Turn P w K tg (sX K a) [it] it (λ i h=>h.IsTupleIter it a i) where
 mem:=by simp
 obj:=λ i h st b hb=>by
  have e:b=it:=by simpa using hb
  subst e;obtain⟨o,e,c,d⟩:=st;exact⟨o,e,λ v z=>by rw[d] at z;cases z⟩
 keep:=λ i h h' st k=>st.at λ o e=>k it (by simp) o e
 item:=by
  intro X hP hw hK hc i pins s σ H E I hf st hg;subst hP hw hK;obtain⟨xs,x,hq,hx⟩:=hg;obtain⟨aa,rv,p,hz⟩:=I.tuple hq;obtain⟨u,hu,ru⟩:=rv.get hx;obtain⟨f0,f1,f2,f3,f4,f5⟩:=hf it (by simp);refine wpAny_pyNext_tuple_item st (show s.heap.IsTuple a aa.toArray from p) (x:=u) (by simpa using hu) λ h' bH sb=>?_;have I1:Inv X pins σ H {s with heap:=h' }:=I.turned (t':=s.toks) (λ b o hb e=>(sb.2 b hb).trans e) f0 f1 f3 f4 f5;obtain⟨o,e,c,d⟩:=id bH;exact⟨u,rfl,TH (s:={s with heap:=h' }) e c d (by decide) ⟨x,H,I1,ru,⟨rfl,λ ys hy=>by rw[I.EY hy hq];exact hx⟩,bH,λ b hb=>(hf b hb).1⟩⟩
 done:=by
  intro X hP hw hK hc i pins s σ H E I hf st hg;subst hP hw hK;obtain⟨xs,hq,hx⟩:=hg;obtain⟨aa,rv,p,hz⟩:=I.tuple hq;obtain⟨f0,f1,f2,f3,f4,f5⟩:=hf it (by simp);have hl:=rv.length;exact wpAny_pyNext_tuple_end (I.ok.hd hc) st (show s.heap.IsTuple a aa.toArray from p) (by simp;omega) λ h' eb=>⟨rfl,I.turned (t':=s.toks) (λ b o hb e=>eb b o hb e) f0 f1 f3 f4 f5⟩
 self:=λ _ _ _ _ _ st h=>wpAny_pyIter_tupleiter st h
def S4 {P:Program}{w:World}{K:za}{tg:Expr}(it:Addr)(lo:Int)(n:Nat):Turn P w K tg (pN lo n) [it] it (λ i h=>IsRangeIter h it (lo+(i:Nat)*1) ((n:Int)-(i:Nat)) 1) where
 mem:=by simp
 obj:=λ i h st b hb=>by
  have e:b=it:=by simpa using hb
  subst e;exact⟨_,st,λ v z=>by
   have z':Data.fields _=Data.cell v:=z;cases z'⟩
 keep:=λ i h h' st k=>k it (by simp) _ st
 item:=by
  intro X hP hw hK hc i pins s σ H E I hf st hg;subst hP hw hK;obtain⟨f0,f1,f2,f3,f4,f5⟩:=hf it (by simp);have W:=Walks.range (prog:=X.prog) (w:=X.w) (I.ok.hd hc) it lo 1 n;refine W.item i s _ _ hg st λ v h' tk hv bH kk=>?_;obtain⟨t,rfl⟩:=hv;have I1:Inv X pins σ H {s with heap:=h',toks:=tk}:=I.turned (λ b o hb e=>kk b o (by simpa using hb) e) f0 f1 f3 f4 f5;refine⟨_,rfl,TH (s:={s with heap:=h',toks:=tk}) (n := "range_iterator") bH rfl rfl (by decide) ⟨.int (lo+i),H,I1,⟨t,?_⟩,⟨rfl,rfl⟩,bH,λ b hb=>(hf b hb).1⟩⟩;rw[Int.mul_one]
 done:=by
  intro X hP hw hK hc i pins s σ H E I hf st hg;subst hP hw hK;obtain⟨f0,f1,f2,f3,f4,f5⟩:=hf it (by simp);exact wpAny_pyNext_range_end (I.ok.hd hc) st (by have:n<=i:=hg;omega) λ h' eb=>⟨rfl,I.turned (t':=s.toks) (λ b o hb e=>eb b o hb e) f0 f1 f3 f4 f5⟩
 self:=λ _ _ _ _ _ st h=>wpAny_pyIter_rangeiter st h
section
variable {X:Cx}{tg:Expr}
noncomputable def mI (K:za)(tl:TE):TI:=λ σ H R=>tl σ H λ x H1=>∃a,x=.ref a/\(∃xs,Dn K H1 a xs)/\R (sW K a) H1
noncomputable def qZ (K:za)(tl:TE):TI:=λ σ H R=>tl σ H λ x H1=>∃a,x=.ref a/\(∃xs,Er K H1 a xs)/\R (sX K a) H1
def Z0 {l:Expr}{tl:TE}(hl:PE X l tl):PI X tg l (mI X.K tl):=by
 intro pins s σ H R I h;refine Bh (hl pins s σ H _ I h) λ v s1 ⟨x,H1,I1,r1,q1⟩=>?_;obtain⟨a,e,⟨xs,hq⟩,q⟩:=q1;subst e;cases r1;obtain⟨aa,rv,p,hz⟩:=I1.list hq;refine wpAny_pyIter_list p.isList ?_;refine⟨s1.heap.objs.size,[s1.heap.objs.size],_,_,H1,rfl,I1.kept (t':=s1.toks) λ b o e=>zm _ e,UY a _,⟨_,zF _ rfl,rfl,rfl⟩,λ b hb=>?_,q⟩;have e:b=s1.heap.objs.size:=by simpa using hb
 subst e;exact I1.UX (zw _) (I1.Ax.fresh (zw _))
def gZ {l:Expr}{tl:TE}(hl:PE X l tl):PI X tg l (qZ X.K tl):=by
 intro pins s σ H R I h;refine Bh (hl pins s σ H _ I h) λ v s1 ⟨x,H1,I1,r1,q1⟩=>?_;obtain⟨a,e,⟨xs,hq⟩,q⟩:=q1;subst e;cases r1;obtain⟨aa,rv,p,hz⟩:=I1.tuple hq;refine wpAny_pyIter_tuple (show s1.heap.IsTuple a aa.toArray from p) ?_;refine⟨s1.heap.objs.size,[s1.heap.objs.size],_,_,H1,rfl,I1.kept (t':=s1.toks) λ b o e=>zm _ e,S3 a _,⟨_,zF _ rfl,rfl,rfl⟩,λ b hb=>?_,q⟩;have e:b=s1.heap.objs.size:=by simpa using hb
 subst e;exact I1.UX (zw _) (I1.Ax.fresh (zw _))
def WG {pins:List (Addr×Obj)}{σ:St}{H:Hp}{s:Shared}{R:It->Hp->Prop}{E:Value->Shared->Prop}{lo hi:Int}{t u v:Tok}{tk:Nat}(I:Inv X pins σ H s)(h1 : -(2^62)<=lo)(h2:lo<2^62)(h3 : -(2^62)<=hi)(h4:hi<2^62)
 (q:R (pN lo (hi-lo).toNat) H):wpAny (model X.prog X.w) X.A (pyIter (.ref s.heap.objs.size)) (qY X pins σ tg R) E {s with heap:=s.heap.push {cls:=.type "range",data:=.fields #[.int lo t,.int hi u,.int 1 v]},toks:=tk}:=by
 refine wpAny_pyIter_range (IsRange.new ..) (small_one h1 h2 h3 h4) ?_;have I1:Inv X pins σ H {s with heap:=s.heap.push {cls:=.type "range",data:=.fields #[.int lo t,.int hi u,.int 1 v]},toks:=tk}:=I.kept λ b o e=>zm _ e;refine⟨(s.heap.push {cls:=.type "range",data:=.fields #[.int lo t,.int hi u,.int 1 v]}).objs.size,[(s.heap.push {cls:=.type "range",data:=.fields #[.int lo t,.int hi u,.int 1 v]}).objs.size],_,_,H,rfl,
  I1.kept (t':=tk) λ b o e=>zm _ e,S4 _ lo (hi-lo).toNat,?_,λ b hb=>?_,q⟩
 ·have e1:lo+((0:Nat):Int)*1=lo:=by simp
  have e2:(((hi-lo).toNat:Nat):Int)-((0:Nat):Int)=Builtin.Range.rangeSize lo hi 1:=by rw[rangeSize_one];split<;>omega
  show IsRangeIter _ _ (lo+((0:Nat):Int)*1) ((((hi-lo).toNat:Nat):Int)-((0:Nat):Int)) 1;rw[e1,e2];exact zF _ rfl
 ·have e:b=(s.heap.push {cls:=.type "range",data:=.fields #[.int lo t,.int hi u,.int 1 v]}).objs.size:=by simpa using hb
  subst e;exact I1.UX (zw _) (I1.Ax.fresh (zw _))
noncomputable def mJ (ta:TA):TI:=λ σ H R=>ta σ H λ vs H1=>∃j:Int,vs=[.int j]/\-(2^62)<=j/\j<2^62/\R (pN 0 j.toNat) H1
def UZ {a:Expr}{ta:TA}{p pos:Pos}(hg:Gl X "range")(hm:X.mg "range" = none)(ha:PA X [a] ta)(hs:starEach [a] X.env=[(false,eval a X.env)]:=by rfl):PI X tg (.Call (.Name "range" p) [a] [] pos) (mJ ta):=by
 intro pins s σ H R I h;refine Call_ (Ez I hg hm boot_range (yk (Bh (ha pos pins s σ H _ I h) λ us s1 ⟨vs,H1,I1,r1,q1⟩=>?_) hs rfl));obtain⟨j,e,q1,q2,q⟩:=q1;subst e;cases r1 with
 |cons r rr =>
  cases rr;obtain⟨t,rfl⟩:=r;exact call_range_1 (WG I1 (by omega) (by omega) q1 q2 (by simpa using q))
noncomputable def rA (wi:TI)(g:TG)(tb:TS):TS:=λ D σ H=>wi σ H λ J H1=>∃W:Nat->Nat->St->Hp->Prop,(∃m,W 0 m σ H1)/\∀i m σ H,W i m σ H->
 (J.stop i H/\D.nx σ H)\/(J.go i H/\∃N:St->Hp->Prop,(∀σ' H',N σ' H'->∃m',m'<m/\W (i+1) m' σ' H')/\∀x H',J.YZ i H x H'->g x σ H' λ σ2 H2=>tb {D with nx:=N,ct:=N,bk:=D.nx} σ2 H2)
noncomputable def Ia (fp:List Addr)(h:Heap):List (Addr×Obj):=fp.filterMap λ b=>(h.get? b).map λ o=>(b,o)
def Fb {fp:List Addr}{h:Heap}{b:Addr}{o:Obj}(hb:b∈fp)(e:h.get? b=some o):(b,o)∈Ia fp h:=List.mem_filterMap.mpr ⟨b,hb,by rw[e];rfl⟩
def NS {fp:List Addr}{h:Heap}{p:Addr×Obj}(hp:p∈Ia fp h):p.1∈fp/\h.get? p.1=some p.2:=by
 obtain⟨b,hb,e⟩:=List.mem_filterMap.mp hp;cases q:h.get? b with
 |none=>rw[q] at e;cases e
 |some o =>
  rw[q] at e;have e':(b,o)=p:=zE e;subst e';exact⟨hb,q⟩
def Inv.pinned {pins:List (Addr×Obj)}{σ:St}{H:Hp}{s:Shared}{fp:List Addr}(I:Inv X pins σ H s)(hf:∀b∈fp,L9 X pins H b)(ho:∀b∈fp,∃o,s.heap.get? b=some o/\∀v,o.data≠.cell v):Inv X (pins++Ia fp s.heap) σ H s:=
 I.IV λ p hp=>(zC.mp hp).elim (λ z=>I.pin p (zl _ z)) λ z=>by
  obtain⟨hb,e⟩:=NS z;obtain⟨f0,f1,f2,_⟩:=hf p.1 hb;obtain⟨o,e',d⟩:=ho p.1 hb;rw[e] at e';cases e';exact⟨e,f0,f1,f2,d⟩
def Inv.IX {pins pl:List (Addr×Obj)}{σ:St}{H:Hp}{s:Shared}(I:Inv X (pins++pl) σ H s):Inv X pins σ H s:=I.IV λ p hp=>I.pin p (zl _ (zJ _ hp))
def WH {iter:Expr}{body:List Stmt}{wi:TI}{g:TG}{tb:TS}{pos:Pos}(hp:PassesOwn (model X.prog X.w) X.A X.env X.xe)(hc:X.calm=true)(hi:PI X tg iter wi)(hg:PG X tg g)(hb:TC X body tb)
 (hs:∀x,foldedSetIterable iter X.env x=pure x:=by intro _;rfl):PS X (.For tg iter body [] pos) (rA wi g tb):=by
 intro pins s σ H D I h;refine wpAny_For (Bh (hi pins s σ H _ I h) λ v s1 h1=>Bh h1 λ j7 s2 h2=>?_) hs;obtain⟨it,fp,tn,J,H2,e,I2,T,c4,f2,W,⟨m0,w0⟩,turn⟩:=h2;subst e;have bt:∀ {H':Hp},(∀b∈fp,H' b=none)->∀b∈fp,L9 X pins H' b:=λ hn b hb=>⟨hn b hb,(f2 b hb).2⟩;refine codeAny_forLoop_any (λ n s'=>∃i σ' H',Inv X pins σ' H' s'/\tn i s'.heap/\(∀b∈fp,H' b=none)/\W i n σ' H') ?_ m0 ⟨0,σ,H2,I2,c4,λ b hb=>(f2 b hb).1,w0⟩;rintro n s3 ⟨i,σ3,H3,I3,ii,ij,w3⟩;rcases turn i n σ3 H3 w3 with ⟨stop,qn⟩|⟨go,N,hN,step⟩
 ·refine wpAny_passesOwn hp (Bh (T.done X rfl rfl rfl hc i pins s3 σ3 H3 X.xe I3 (bt ij) ii stop) λ r s4 ⟨hr,I4⟩=>?_);subst hr;exact wpAny_execs_nil ⟨σ3,H3,I4,qn⟩
 ·refine wpAny_passesOwn hp (Bh (T.item X rfl rfl rfl hc i pins s3 σ3 H3 X.xe I3 (bt ij) ii go) λ r s4 ⟨u,hr,h4⟩=>?_);subst hr;refine wpAny_passesOwn hp (Bh h4 λ _ s5 ⟨x,H5,I5,r5,y5,d9,lx⟩=>?_);have ly:=I5.pinned (bt lx) (T.obj _ _ d9);refine wpAny_passesOwn hp (Bh (hg _ s5 σ3 H5 x u _ ly r5 (step x H5 y5)) λ _ s6 ⟨σ6,H6,I6,q6⟩=>?_);refine wpAny_passesOwn hp (Bh (hb _ s6 σ6 H6 _ I6 q6) λ f s7 q7=>?_);have again:∀ {σ7:St} {H7:Hp},Inv X (pins++Ia fp s5.heap) σ7 H7 s7->N σ7 H7->∃m,m<n/\∃i σ' H',Inv X pins σ' H' s7/\tn i s7.heap/\(∀b∈fp,H' b=none)/\W i m σ' H':=fun {σ7 H7} I7 n7=>by
   obtain⟨m',hm,w7⟩:=hN σ7 H7 n7;refine⟨m',hm,i+1,σ7,H7,I7.IX,T.keep _ _ _ d9 λ b hb o e=>(I7.pin (b,o) (zl _ (zl _ (Fb hb e)))).1,λ b hb=>?_,w7⟩;obtain⟨o,e,d⟩:=T.obj _ _ d9 b hb;exact (I7.pin (b,o) (zl _ (zl _ (Fb hb e)))).2.1
  cases f with
  |next=>obtain⟨σ7,H7,I7,n7⟩:=q7;exact again I7 n7
  |cont=>obtain⟨σ7,H7,I7,n7⟩:=q7;exact again I7 n7
  |brk=>obtain⟨σ7,H7,I7,q7⟩:=q7;exact⟨σ7,H7,I7.IX,q7⟩
  |ret v=>obtain⟨x7,σ7,H7,I7,r7,q7⟩:=q7;exact⟨x7,σ7,H7,I7.IX,r7,q7⟩
end
noncomputable abbrev R2:=V->V->Hp->VK->Prop
def G5 (X:Cx)(f:Value->Value->Sem Value)(r:R2):Prop:=
 ∀(pins:List (Addr×Obj)) (s:Shared) (σ:St) (H:Hp) (x y:V) (v u:Value) (Q:VK),Inv X pins σ H s->RelV x v->RelV y u->r x y H Q->
  wpAny (model X.prog X.w) X.A (f v u) (EP X pins σ Q) X.xe s
def rB (X:Cx)(f:Value->Sem Value)(r:V->Hp->VK->Prop):Prop:=
 ∀(pins:List (Addr×Obj)) (s:Shared) (σ:St) (H:Hp) (x:V) (v:Value) (Q:VK),Inv X pins σ H s->RelV x v->r x H Q->
  wpAny (model X.prog X.w) X.A (f v) (EP X pins σ Q) X.xe s
def FN (X:Cx)(f:Value)(r:List V->Hp->VK->Prop):Prop:=
 ∀(pins:List (Addr×Obj)) (s:Shared) (σ:St) (H:Hp) (xs:List V) (us:List Value) (Q:VK),Inv X pins σ H s->Vals xs us->r xs H Q->
  wpAny (model X.prog X.w) X.A (call f us) (EP X pins σ Q) X.xe s
def rC (X:Cx)(r:V->Hp->(Bool->Hp->Prop)->Prop):Prop:=
 ∀(pins:List (Addr×Obj)) (s:Shared) (σ:St) (H:Hp) (x:V) (v:Value) (Q:Bool->Hp->Prop),Inv X pins σ H s->RelV x v->r x H Q->
  wpAny (model X.prog X.w) X.A (truthy v) (TP X pins σ Q) X.xe s
noncomputable def lD (r:R2)(ta tb:TE):TE:=λ σ H Q=>ta σ H λ x H1=>tb σ H1 λ y H2=>r x y H2 Q
noncomputable def uF (r:V->Hp->VK->Prop)(ta:TE):TE:=λ σ H Q=>ta σ H λ x H1=>r x H1 Q
noncomputable def rI (C:Int->Int->Prop)(g:Int->Int->V):R2:=λ x y H Q=>∃i j,x=.int i/\y=.int j/\C i j/\Q (g i j) H
noncomputable def YO (g:Int->Int->V):R2:=λ x y H Q=>∃i j,x=.int i/\y=.int j/\Q (g i j) H
def rU (g:Int->V):V->Hp->VK->Prop:=λ x H Q=>∃i,x=.int i/\Q (g i) H
section
variable {X:Cx}{a b c:Expr}{ta tb tc:TE}{pos:Pos}
def hU (ha:PE X a ta)(hb:PE X b tb){pins:List (Addr×Obj)}{s:Shared}{σ:St}{H:Hp}{R:V->V->Hp->Prop}(I:Inv X pins σ H s)
 (h:ta σ H λ x H1=>tb σ H1 λ y H2=>R x y H2) {Q:Value->Shared->Prop} {f:Value->Value->Sem Value}
 (hf:∀v u s2 x y H2,Inv X pins σ H2 s2->RelV x v->RelV y u->R x y H2->wpAny (model X.prog X.w) X.A (f v u) Q X.xe s2):
 wpAny (model X.prog X.w) X.A (eval a X.env) (λ v s₁=>wpAny (model X.prog X.w) X.A (eval b X.env) (λ u s₂=>wpAny (model X.prog X.w) X.A (f v u) Q X.xe s₂) X.xe s₁) X.xe s:=by
 refine Bh (ha pins s σ H _ I h) λ v s1 ⟨x,H1,I1,r1,q1⟩=>?_;refine Bh (hb pins s1 σ H1 _ I1 q1) λ u s2 ⟨y,H2,I2,r2,q2⟩=>?_;exact hf v u s2 x y H2 I2 r1 r2 q2
def WI {op:Operator}{r:R2}(ho:G5 X (binaryOp op) r)(ha:PE X a ta)(hb:PE X b tb):PE X (.BinOp a op b pos) (lD r ta tb):=by
 intro pins s σ H Q I h;exact wpAny_BinOp (hU ha hb I h λ v u s2 x y H2 I2 rx ry q=>ho pins s2 σ H2 x y v u Q I2 rx ry q)
def mK {op:UnaryOp}{r:V->Hp->VK->Prop}(ho:rB X (unaryOp op) r)(ha:PE X a ta):PE X (.UnaryOp op a pos) (uF r ta):=by
 intro pins s σ H Q I h;exact UnaryOp_ (Bh (ha pins s σ H _ I h) λ v s1 ⟨x,H1,I1,r1,q1⟩=>ho pins s1 σ H1 x v Q I1 r1 q1)
def pO {f:Value->Value->Sem Value}{C:Int->Int->Prop}{g:Int->Int->Int}
 (rule:∀(i j:Int) (t u:Tok) (s:Shared) (Q:Value->Shared->Prop) (E:Value->Shared->Prop),C i j->Q (.int (g i j) s.toks) {s with toks:=s.toks+1}->wpAny (model X.prog X.w) X.A (f (.int i t) (.int j u)) Q E s):
 G5 X f (rI C λ i j=>.int (g i j)):=by
 intro pins s σ H x y v u Q I rx ry h;obtain⟨i,j,rfl,rfl,hc,q⟩:=h;obtain⟨t,rfl⟩:=rx;obtain⟨t',rfl⟩:=ry;exact rule i j t t' s _ _ hc ⟨.int (g i j),H,I.tok _,⟨_,rfl⟩,q⟩
def mL {f:Value->Value->Sem Value}{g:Int->Int->Int}
 (rule:∀(i j:Int) (t u:Tok) (s:Shared) (Q:Value->Shared->Prop) (E:Value->Shared->Prop),Q (.int (g i j) s.toks) {s with toks:=s.toks+1}->wpAny (model X.prog X.w) X.A (f (.int i t) (.int j u)) Q E s):
 G5 X f (YO λ i j=>.int (g i j)):=by
 intro pins s σ H x y v u Q I rx ry h;obtain⟨i,j,rfl,rfl,q⟩:=h;obtain⟨t,rfl⟩:=rx;obtain⟨t',rfl⟩:=ry;exact rule i j t t' s _ _ ⟨.int (g i j),H,I.tok _,⟨_,rfl⟩,q⟩
def hV {f:Value->Value->Sem Value}{g:Int->Int->Bool}
 (rule:∀(i j:Int) (t u:Tok) (s:Shared) (Q:Value->Shared->Prop) (E:Value->Shared->Prop),Q (.bool (g i j)) s->wpAny (model X.prog X.w) X.A (f (.int i t) (.int j u)) Q E s):
 G5 X f (YO λ i j=>.bl (g i j)):=by
 intro pins s σ H x y v u Q I rx ry h;obtain⟨i,j,rfl,rfl,q⟩:=h;obtain⟨t,rfl⟩:=rx;obtain⟨t',rfl⟩:=ry;exact rule i j t t' s _ _ ⟨.bl (g i j),H,I,rfl,q⟩
def WJ (i j:Int):Prop:=0<j/\j<1073741824
def Z1 (i j:Int):Prop:=0<=j/\j<=1000000/\i.natAbs<2^64
def WK (i j:Int):Prop:=(-(2^64)<i/\i<2^64)\/(-(2^64)<j/\j<2^64)
def WK.ok {i j:Int}(h:WK i j):IntMulOk i j:=by
 rcases h with ⟨h1,h2⟩|⟨h1,h2⟩
 ·exact .of_left (intBits_le_64 h1 h2)
 ·exact .of_right (intBits_le_64 h1 h2)
def hX:G5 X (binaryOp .Add) (YO λ i j=>.int (i+j)):=mL λ _ _ _ _ _ _ _ q=>add_int q
def iA:G5 X (binaryOp .Sub) (YO λ i j=>.int (i-j)):=mL λ _ _ _ _ _ _ _ q=>sub_int q
def Z2:G5 X (binaryOp .FloorDiv) (rI WJ λ i j=>.int (i / j)):=pO λ i j _ _ _ _ _ hc q=>by
 have h1:(0:Int)<j:=hc.1;have h2:j<1073741824:=hc.2;exact floordiv_int (by omega) (by rw[Int.fdiv_eq_ediv_of_nonneg i (by omega)];exact q) (.inl (PyProof.noPylong_small (by omega)))
def iB:G5 X (binaryOp .Mod) (rI (λ _ j=>0<j) λ i j=>.int (i%j)):=pO λ i j _ _ _ _ _ hc q=>by
 have h1:(0:Int)<j:=hc;exact mod_int' (by omega) (by rw[Int.fmod_eq_emod_of_nonneg i (by omega)];exact q)
def iC:G5 X (binaryOp .Pow) (rI Z1 λ i j=>.int (i^j.toNat)):=pO λ _ _ _ _ _ _ _ hc q=>pow_int_small hc.1 hc.2.1 hc.2.2 q
def uG {f:Value->Sem Value}{g:Int->Int}
 (rule:∀(i:Int) (t:Tok) (s:Shared) (Q:Value->Shared->Prop) (E:Value->Shared->Prop),Q (.int (g i) s.toks) {s with toks:=s.toks+1}->wpAny (model X.prog X.w) X.A (f (.int i t)) Q E s):
 rB X f (rU λ i=>.int (g i)):=by
 intro pins s σ H x v Q I rx h;obtain⟨i,rfl,q⟩:=h;obtain⟨t,rfl⟩:=rx;exact rule i t s _ _ ⟨.int (g i),H,I.tok _,⟨_,rfl⟩,q⟩
def iD:rB X (unaryOp .USub) (rU λ i=>.int (-i)):=uG λ _ _ _ _ _ q=>neg_int q
end
section
variable {X:Cx}{a b c:Expr}{ta tb tc:TE}{pos:Pos}
def eY:G5 X (compareOp .Lt) (YO λ i j=>.bl (decide (i<j))):=hV λ _ _ _ _ _ _ _ q=>lt_int q
def mM:G5 X (compareOp .LtE) (YO λ i j=>.bl (decide (i<=j))):=hV λ _ _ _ _ _ _ _ q=>le_int q
def mO:G5 X (compareOp .Gt) (YO λ i j=>.bl (decide (j<i))):=hV λ _ _ _ _ _ _ _ q=>gt_int q
def G5.or {f:Value->Value->Sem Value}{r r':R2}(h:G5 X f r)(h':G5 X f r'):G5 X f (λ x y H Q=>r x y H Q\/r' x y H Q):=by
 intro pins s σ H x y v u Q I rx ry q;rcases q with q|q
 ·exact h pins s σ H x y v u Q I rx ry q
 ·exact h' pins s σ H x y v u Q I rx ry q
def Ib (b:Expr){op:CmpOp}(h:op≠.In:=by decide)(h2:op≠.NotIn:=by decide):behindInMarks op b=false:=by
 have e1:(op==CmpOp.In)=false:=by cases op<;>first|rfl|exact absurd rfl h
 have e2:(op==CmpOp.NotIn)=false:=by cases op<;>first|rfl|exact absurd rfl h2
 cases b<;>simp[behindInMarks,e1,e2]
def Z3 {op:CmpOp}{r:R2}(ho:G5 X (compareOp op) r)(ha:PE X a ta)(hb:PE X b tb)(hm:behindInMarks op b=false):PE X (.Compare a [op] [b] pos) (lD r ta tb):=by
 intro pins s σ H Q I h;exact wpAny_Compare1 (hU ha hb I h λ v u s2 x y H2 I2 rx ry q=>ho pins s2 σ H2 x y v u Q I2 rx ry q) hm
noncomputable def mP (t:TE):TT:=λ σ H Q=>t σ H λ x H'=>∃k,x=.bl k/\Q k H'
def Z4 {op:CmpOp}{r:R2}(ho:G5 X (compareOp op) r)(ha:PE X a ta)(hb:PE X b tb)(hm:behindInMarks op b=false):PT X (.Compare a [op] [b] pos) (mP (lD r ta tb)):=by
 intro pins s σ H Q I h;refine wpAny_isTrue_Compare1 (Bh (ha pins s σ H _ I h) λ v s1 ⟨x,H1,I1,r1,q1⟩=>Bh (hb pins s1 σ H1 _ I1 q1) λ u s2 ⟨y,H2,I2,r2,q2⟩ =>
  Bh (ho pins s2 σ H2 x y v u _ I2 r1 r2 q2) λ c s3 ⟨z,H3,I3,r3,k,e,q3⟩=>?_) hm
 subst e;cases r3;exact wpAny_truthy_bool ⟨H3,I3,q3⟩
noncomputable def iE (r r':R2)(ta tb tc:TE):TE:=λ σ H Q=>ta σ H λ x H1=>tb σ H1 λ y H2=>r x y H2 λ z H3=>∃k,z=.bl k/\
 (if k=true then tc σ H3 λ w' H4=>r' y w' H4 Q else Q (.bl false) H3)
def WL {op dL:CmpOp}{r r':R2}(ho:G5 X (compareOp op) r)(bp:G5 X (compareOp dL) r')(ha:PE X a ta)(hb:PE X b tb)(hc:PE X c tc)
 (hm:lastMarks [op,dL] [b,c]=false:=by with_unfolding_all rfl):PE X (.Compare a [op,dL] [b,c] pos) (iE r r' ta tb tc):=by
 intro pins s σ H Q I h;refine Compare_chain (Bh (ha pins s σ H _ I h) λ v s1 ⟨x,H1,I1,r1,q1⟩=>chain_link (Bh (hb pins s1 σ H1 _ I1 q1) λ u s2 ⟨y,H2,I2,r2,q2⟩ =>
  Bh (ho pins s2 σ H2 x y v u _ I2 r1 r2 q2) λ d s3 ⟨z,H3,I3,r3,k,e,q3⟩=>?_)) hm
 subst e;cases r3;refine wpAny_truthy_bool ?_;cases k with
 |false=>exact ite_ff ⟨.bl false,H3,I3,rfl,q3⟩
 |true=>exact ite_tt (chain_last (Bh (hc pins s3 σ H3 _ I3 q3) λ w' s4 ⟨z',H4,I4,r4,q4⟩=>bp pins s4 σ H4 y z' u w' Q I4 r2 r4 q4))
def mQ (K:za)(x:V)(H:Hp)(k:Bool):Prop:=
 match x with
 | .AD=>k=false
 | .bl b=>k=b
 | .int i=>k=(i != 0)
 | .str y=>y.length<=sizeLine/\k=((y.length:Int) != 0)
 | .fZ y=>y.size<=sizeLine/\k=((y.size:Int) != 0)
 | .ref p=>(∃xs,Dn K H p xs/\k = !xs.isEmpty)\/(∃xs,Er K H p xs/\k = !xs.isEmpty)\/∃kvs,H p=some (.dK kvs)/\k = !kvs.isEmpty
 |_=>False
def S5 {κ:Type}{kvs:List (κ×V)}{vs:List (κ×Value)}(r:KV kvs vs):(!vs.isEmpty) = !kvs.isEmpty:=by
 cases r<;>rfl
def M3 {xs:List V}{aa:List Value}(r:Vals xs aa):(!aa.toArray.isEmpty) = !xs.isEmpty:=by
 cases r<;>simp
def K8:(sizeLine:Nat)<2^63:=by rw[sizeLine_eq];decide
def iF:rC X (λ x H Q=>∃k,mQ X.K x H k/\Q k H):=by
 intro pins s σ H x v Q I rx h;obtain⟨k,e,q⟩:=h;have hl:=K8;have hs:sizeLine=16777216:=sizeLine_eq;cases x with
 |AD =>
  cases rx;have e':k=false:=e;subst e';exact truthy_none ⟨H,I,q⟩
 |bl b =>
  cases rx;have e':k=b:=e;subst e';exact wpAny_truthy_bool ⟨H,I,q⟩
 |int i =>
  obtain⟨t,rfl⟩:=rx;have e':k=(i != 0):=e;subst e';exact PySem.P.truthy_int ⟨H,I,q⟩
 |str y =>
  obtain⟨t,rfl⟩:=rx;obtain⟨hy,e'⟩:y.length<=sizeLine/\k=((y.length:Int) != 0):=e;subst e';exact PySem.P.truthy_str (by omega) ⟨H,I.tok _,q⟩
 |fZ y =>
  obtain⟨t,rfl⟩:=rx;obtain⟨hy,e'⟩:y.size<=sizeLine/\k=((y.size:Int) != 0):=e;subst e';exact PySem.W.truthy_bytes (by omega) ⟨H,I.tok _,q⟩
 |ref p =>
  cases rx;have e':(∃xs,Dn X.K H p xs/\k = !xs.isEmpty)\/(∃xs,Er X.K H p xs/\k = !xs.isEmpty)\/∃kvs,H p=some (.dK kvs)/\k = !kvs.isEmpty:=e;rcases e' with ⟨xs,hx,e'⟩|⟨xs,hx,e'⟩|⟨kvs,hx,e'⟩
  ·subst e';obtain⟨aa,r,pl,hz⟩:=I.list hx;have hlen:=r.length;exact wpAny_truthy_list pl.isList (by simp only[zk];omega) ⟨H,I.tok _,by rw[M3 r];exact q⟩
  ·subst e';obtain⟨aa,r,pl,hz⟩:=I.tuple hx;have hlen:=r.length;exact truthy_tuple pl (by simp only[zk];omega) ⟨H,I.tok _,by rw[M3 r];exact q⟩
  ·subst e';obtain⟨hz,hS,vs,r,m⟩:kvs.length<=sizeLine/\(p==sysModules)=false/\∃vs,KV kvs vs/\s.heap.DictOf (AM X.prog X.w) p vs:=I.Ax p _ hx;have hlen:kvs.length=vs.length:=Paired.length r;exact wpAny_truthy_dict hS m (by omega) ⟨H,I.tok _,by rw[S5 r];exact q⟩
 |_=>exact (show False from e).elim
def WM (ha:PE X a ta)(he:∀whole,isTrue a X.env whole=(do let v <-whole;standAt a.pos;holding [v] (truthy v))):
 PT X a (λ σ H Q=>ta σ H λ x H'=>∃k,mQ X.K x H' k/\Q k H'):=by
 intro pins s σ H Q I h;exact isTrue_plain (Bh (ha pins s σ H _ I h) λ v s1 ⟨x,H1,I1,r1,q1⟩=>iF pins s1 σ H1 x v Q I1 r1 q1) (he _)
def vals1 {x:V}{us:List Value}(r:Vals [x] us):∃u,us=[u]/\RelV x u:=by
 cases r with
 |cons r1 r2=>cases r2;exact⟨_,rfl,r1⟩
def vals2 {x y:V}{us:List Value}(r:Vals [x,y] us):∃u w',us=[u,w']/\RelV x u/\RelV y w':=by
 cases r with
 |cons r1 r2 =>
  cases r2 with
  |cons r3 r4=>cases r4;exact⟨_,_,rfl,r1,r3⟩
def V0 (hc:X.calm=true):FN X (.builtin "min") (λ xs H Q=>∃i j,xs=[.int i,.int j]/\Q (.int (if j<i then j else i)) H):=by
 intro pins s σ H xs us Q I r h;obtain⟨i,j,rfl,q⟩:=h;obtain⟨u,w',rfl,⟨t,rfl⟩,⟨t',rfl⟩⟩:=vals2 r;refine min_two_ints (I.ok.hd hc) λ h' tk k=>⟨_,H,I.kept k,?_,q⟩;by_cases hj:j<i
 ·rw[if_pos hj,if_pos hj];exact⟨_,rfl⟩
 ·rw[if_neg hj,if_neg hj];exact⟨_,rfl⟩
end
structure S6 (h:Heap)(x dx C:Addr)(mA:Str->Option Value):Prop where
 obj:h.get? x=some (yF C dx)
 ns:h.Ns1 dx mA
 ne:dx≠x
def V1 {h:Heap}{dx:Addr}{mA:Str->Option Value}(n:h.Ns1 dx mA):∃od,h.get? dx=some od/\∀name,PySem.W.lookIn name od=some (mA name):=by
 obtain⟨o,es,ep,ho,hd,hk,_,hm⟩:=n;refine⟨o,ho,λ name=>?_⟩;have e:=hm name;unfold nsFind findBy at e;rw[<-Array.find?_toList] at e;unfold PySem.W.lookIn;rw[hd];dsimp only;split
 ·rename_i y q;rw[q] at e;exact congrArg some e
 ·rename_i q;rw[q] at e;have a:es.toList.any (·.refKey)=false:=by
   rw[List.any_eq_false];intro y hy;obtain⟨z,t,l5⟩:=hk y (Array.mem_toList_iff.mp hy);simp[DictEntry.refKey,l5]
  have a':¬ es.toList.any (·.refKey)=true:=by rw[a];exact zL
  rw[if_neg a'];exact congrArg some e
def S6.look {h:Heap}{x dx C:Addr}{mA:Str->Option Value}(I:S6 h x dx C mA):∃od,PySem.W.InstAt h x (yF C dx) C (some od)/\∀name,PySem.W.lookIn name od=some (mA name):=
 let ⟨od,ho,hl⟩:=V1 I.ns
 ⟨od,⟨I.obj,rfl,rfl,ho⟩,hl⟩
section
variable {prog:Program}{w:World}{A:Around}{E:Value->Shared->Prop}{s:Shared}{K:za}{x dx C f:Addr}{mA:Str->Option Value}{name:Str}{v:Value}
def get_map {expr:Bool}{Q:Value->Shared->Prop}(X:K.In s.heap)(I:S6 s.heap x dx C mA)(hg:yY K C name=true)(hh:PySem.W.hasDictIn K C=true)
 (ha:zi K (.ref C) name=some none) (hv:mA name=some v) (l6:PySem.W.handedIn v=true) (h:Q v {s with toks:=s.toks+1}):
 wpAny (model prog w) A (getAttr (.ref x) name expr) Q E s:=by
 obtain⟨od,J,hl⟩:=I.look;exact PySem.W.get_value X J (PySem.W.plainGet_of hg).1 (PySem.W.findObj_own hh ha rfl (by rw[hl,hv])) l6 h
def WN {pl:Sem Bool}{Q:Value×List Value->Shared->Prop}(X:K.In s.heap)(I:S6 s.heap x dx C mA)(hg:yY K C name=true)
 (hf:zi K (.ref C) name=some (some (.ref f))) (ht:yZ K (.ref f)=true) (hv:mA name=none) (h:Q (.ref f,[.ref x]) s):
 wpAny (model prog w) A (getMethod (.ref x) name pl) Q E s:=by
 obtain⟨od,J,hl⟩:=I.look;exact PySem.W.method_fn X J (PySem.W.plainGet_of hg).1 (PySem.W.plainGet_of hg).2 hf (beq_iff_eq.mp ht) (by show (PySem.W.lookIn name od).map (·.isSome)=some false;rw[hl,hv];rfl) h
def Z5 {ns:List Str}{Q:Unit->Shared->Prop}(X:K.In s.heap)(I:S6 s.heap x dx C mA)
 (hs:zi K (.ref C) "__setattr__" = some (some (.builtin "object.__setattr__"))) (hp:PySem.W.plainOver K C=true) (ht:PySem.W.takerIn K C name=some none) (hh:PySem.W.hasDictIn K C=true)
 (hw:PySem.Within mA ns) (hsz:ns.length<=sizeLine)
 (h:∀h',S6 h' x dx C (λ y=>if y=name then some v else mA y)->yS dx s.heap h'->Q () {s with heap:=h',toks:=s.toks+2}):
 wpAny (model prog w) A (setAttr (.ref x) name v) Q E s:=by
 obtain⟨od,J,hl⟩:=I.look;refine PySem.W.set_plain X J hs (PySem.W.osa_open (s:={s with toks:=s.toks+1}) (r:=none) X J hp ht λ b=>?_);obtain⟨cd,hc,bP⟩:=PySem.W.any_some hh;have hx:s.heap.get? x=some ⟨.ref C,some dx,.plain,#[]⟩:=I.obj;refine wpAny_bind (wpAny_pure (wpAny_bind (wpAny_bind (wpAny_loadPart hx (wpAny_bind (PySem.W.Looks.here (s:={s with toks:=s.toks+1}) (PySem.W.looks_clsIn X hc) ?_))))));rw[bP];refine wpAny_pure (a:=some dx) (wpAny_bind (wpAny_pure (wpAny_bind ?_)));refine wpAny_nsSet1 (s:={s with toks:=s.toks+1}) I.ns λ h' a7 aR=>?_;obtain⟨oD,wK,wL,u4,u5,u6⟩:=a7.count (PySem.Within.cons name v hw);refine wpAny_bind (wpAny_lookBehind u4 (by rw[u5];exact pastItsLine_dict (zY u6 (by rw[zp];omega))) ?_);exact wpAny_pure (h _ ⟨(aR.2 _ (yb I.ne)).trans I.obj,a7,I.ne⟩ aR)
def WO {R:Result->Shared->Prop}{vs:List Value}{kw:List (Str×Value)}(X:K.In s.heap)(hm:PySem.W.makesIn K C=true)
 (hi:zi K (.ref C) "__init__" = some (some (.ref f))) (hf:PySem.W.typeIn K (.ref f)=some (.type "function"))
 (h:codeAny (model prog w) (A.under (.builtin "type.__call__" ⟨.ref C::vs,kw⟩)) (.call (.ref f) ⟨.ref (s.heap.objs.size+1)::vs,kw⟩) (PySem.W.InitBack (s.heap.objs.size+1) R)
  {s with heap:=(s.heap.push yo).push (yF C s.heap.objs.size)}):
 codeAny (model prog w) A (.call (.ref C) ⟨vs,kw⟩) R s:=by
 obtain⟨hh,g,d,t,os⟩:=s;exact PySem.W.make_core (PySem.W.makes_of X hm) (PySem.W.looks_findIn X hi) (λ self=>PySem.W.bind_fn X self hf) (.inl rfl) h
end
noncomputable def DJ (f:Str)(v:V):List (Str×V)->List (Str×V)
 |[]=>[(f,v)]
 |(g,x)::r=>if g=f then (g,v)::r else (g,x)::DJ f v r
def KL (f g:Str)(v:V):∀fs:List (Str×V),(DJ f v fs).lookup g=if g=f then some v else fs.lookup g
 |[]=>by
  show List.lookup g [(f,v)]=_;by_cases h:g=f
  ·have hb:(g==f)=true:=beq_iff_eq.mpr h;simp only[List.lookup,hb,if_pos h]
  ·have hb:(g==f)=false:=beq_eq_false_iff_ne.mpr h;simp only[List.lookup,hb,if_neg h]
 |(k,x)::r=>by
  have ih:=KL f g v r;rw[show DJ f v ((k,x)::r)=(if k=f then (k,v)::r else (k,x)::DJ f v r) from rfl];by_cases hk:k=f
  ·rw[if_pos hk];by_cases h:g=k
   ·have hb:(g==k)=true:=beq_iff_eq.mpr h;simp only[List.lookup,hb,if_pos (h.trans hk)]
   ·have hb:(g==k)=false:=beq_eq_false_iff_ne.mpr h;simp only[List.lookup,hb,if_neg (λ e:g=f=>h (e.trans hk.symm))]
  ·rw[if_neg hk];by_cases h:g=k
   ·have hb:(g==k)=true:=beq_iff_eq.mpr h;simp only[List.lookup,hb,if_neg (λ e:g=f=>hk (h.symm.trans e))]
   ·have hb:(g==k)=false:=beq_eq_false_iff_ne.mpr h;simp only[List.lookup,hb];exact ih
def K9 (f:Str)(v:V):∀fs:List (Str×V),f∈(DJ f v fs).map (·.1)/\∀g,g∈fs.map (·.1)->g∈(DJ f v fs).map (·.1)
 |[]=>⟨by simp[DJ],λ g h=>by simp at h⟩
 |(k,x)::r=>by
  obtain⟨i1,i2⟩:=K9 f v r;rw[show DJ f v ((k,x)::r)=(if k=f then (k,v)::r else (k,x)::DJ f v r) from rfl];by_cases hk:k=f
  ·rw[if_pos hk];subst hk;exact⟨by simp,λ g h=>by simpa using h⟩
  ·rw[if_neg hk];refine⟨?_,λ g h=>?_⟩
   ·rw[zg];exact zf _ i1
   ·rw[zg] at h ⊢;rcases zr.mp h with e|e
    ·exact zr.mpr (.inl e)
    ·exact zf _ (i2 g e)
def KN (f:Str)(v:V):∀fs:List (Str×V),(DJ f v fs).length<=fs.length+1
 |[]=>by simp[DJ]
 |(k,x)::r=>by
  have ih:=KN f v r;rw[show DJ f v ((k,x)::r)=(if k=f then (k,v)::r else (k,x)::DJ f v r) from rfl];by_cases hk:k=f
  ·rw[if_pos hk,zp,zp];omega
  ·rw[if_neg hk,zp,zp];omega
def G0.some_of {v:V}{o:Option Value}(r:G0 (some v) o):∃u,o=some u/\RelV v u:=by
 cases o with
 |none=>exact (show False from r).elim
 |some u=>exact⟨u,rfl,r⟩
def G0.none_of {o:Option Value}(r:G0 none o):o=none:=by
 cases o with
 |none=>rfl
 |some u=>exact (show False from r).elim
def V2 {v:V}{u:Value}(r:RelV v u):PySem.W.handedIn u=true:=by
 cases v with
 |AD=>cases (show u=Value.none from r);rfl
 |bl b=>cases (show u=Value.bool b from r);rfl
 |int i=>obtain⟨t,e⟩:=(show ∃t,u=Value.int i t from r);cases e;rfl
 |str x=>obtain⟨t,e⟩:=(show ∃t,u=Value.str x t from r);cases e;rfl
 |fZ b=>obtain⟨t,e⟩:=(show ∃t,u=Value.bytes b t from r);cases e;rfl
 |lS b=>obtain⟨t,e⟩:=(show ∃t,u=Value.float b t from r);cases e;rfl
 |ref a=>cases (show u=zZ a from r);rfl
 |ty n=>cases (show u=Value.type n from r);rfl
section
variable {P:Program}{w:World}{H H':Hp}{h h':Heap}{a C dx:Addr}{fs bO:List (Str×V)}
def OQ (Ax:F7 P w H h)(e:H a=some (.ins C dx fs)):∃mA,S6 h a dx C mA/\(∀f,G0 (fs.lookup f) (mA f))/\PySem.Within mA (fs.map (·.1))/\fs.length<=1000/\H dx=some (.own a):=by
 obtain⟨d,z,ne,ob,mA,n,r,q⟩:=(show Bf P w H h a (.ins C dx fs) from Ax a _ e);exact⟨mA,⟨ob,n,ne⟩,r,q,z,d⟩
end
structure V3 (K:za)(C:Addr):Prop where
 pg:yY K C Str.empty=true
 hd:PySem.W.hasDictIn K C=true
 po:PySem.W.plainOver K C=true
 sa:zi K (.ref C) "__setattr__" = some (some (.builtin "object.__setattr__"))
def V3.get {K:za}{C:Addr}(c:V3 K C)(f:Str):yY K C f=true:=c.pg
def Ic (K:za)(C:Addr)(f:Str):Prop:=zi K (.ref C) f=some none
def Ic.mR {K:za}{C:Addr}{f:Str}(n:Ic K C f):PySem.W.takerIn K C f=some none:=by
 unfold PySem.W.takerIn;rw[show zi K (.ref C) f=some none from n];rfl
structure Meth (K:za)(C:Addr)(m:Str)(f:Addr):Prop where
 at_:zi K (.ref C) m=some (some (.ref f))
 fn:yZ K (.ref f)=true
 kp:zO K (.ref f)=true
section
variable {X:Cx}{pins:List (Addr×Obj)}{σ:St}{H:Hp}{s:Shared}{a C dx:Addr}{fs:List (Str×V)}{f:Str}{v:V}{A:Around}{E:Value->Shared->Prop}
def S7 {b:Bool}{Q:Value->Shared->Prop}(I:Inv X pins σ H s)(e:H a=some (.ins C dx fs))(c:V3 X.K C)(n:Ic X.K C f)(l:fs.lookup f=some v)
 (h:∀u s',Inv X pins σ H s'->RelV v u->Q u s'):wpAny (model X.prog X.w) A (getAttr (.ref a) f b) Q E s:=by
 obtain⟨mA,O,r,_,_,_⟩:=OQ I.Ax e;obtain⟨u,hu,ru⟩:=G0.some_of (v:=v) (o:=mA f) (by rw[<-l];exact r f);exact get_map I.Nn O (c.get f) c.hd n hu (V2 ru) (h u _ (I.tok _) ru)
def M4 {m:Str}{g:Addr}{pl:Sem Bool}{Q:Value×List Value->Shared->Prop}(I:Inv X pins σ H s)(e:H a=some (.ins C dx fs))(c:V3 X.K C)(k:Meth X.K C m g)(l:fs.lookup m=none)
 (h:Q (.ref g,[.ref a]) s):wpAny (model X.prog X.w) A (getMethod (.ref a) m pl) Q E s:=by
 obtain⟨mA,O,r,_,_,_⟩:=OQ I.Ax e;have hn:mA m=none:=G0.none_of (by rw[<-l];exact r m);exact WN I.Nn O (c.get m) k.at_ k.fn hn h
def S8 {y:V}{u:Value}{Q:Unit->Shared->Prop}(I:Inv X pins σ H s)(e:H a=some (.ins C dx fs))(c:V3 X.K C)(n:Ic X.K C f)(hl:fs.length<1000)(ry:RelV y u)
 (h:∀s',Inv X pins σ (upd H a (.ins C dx (DJ f y fs))) s'->Q () s'):wpAny (model X.prog X.w) A (setAttr (.ref a) f u) Q E s:=by
 obtain⟨mA,O,r,wi,_,ho⟩:=OQ I.Ax e;have hz:(fs.map (·.1)).length<=sizeLine:=by rw[ze,sizeLine_eq];omega
 refine Z5 I.Nn O c.sa c.po n.mR c.hd wi hz λ h' O' sb=>h _ ?_;have hd:∃o,h'.get? dx=some o:=let ⟨o,_,_,e',_⟩:=O'.ns;⟨o,e'⟩;refine I.write (x:=a) (e:=dx) (by rw[e];exact yI) (.inr ho) (λ b q hb z=>(sb.2 b hb).trans z) hd ?_;refine⟨by rw[Ab O.ne];exact ho,?_,O.ne,O'.obj,_,O'.ns,λ g=>?_,λ g hg=>?_⟩
 ·have:=KN f y fs;omega
 ·show G0 ((DJ f y fs).lookup g) (if g=f then some u else mA g);rw[KL];by_cases q:g=f
  ·rw[if_pos q,if_pos q];exact ry
  ·rw[if_neg q,if_neg q];exact r g
 ·by_cases q:g=f
  ·rw[q];exact (K9 f y fs).1
  ·refine (K9 f y fs).2 g (wi g λ z=>hg ?_);show (if g=f then some u else mA g)=none;rw[if_neg q];exact z
def Inv.made (I:Inv X pins σ H s):Inv X pins σ (upd (upd H s.heap.objs.size (.own (s.heap.objs.size+1))) (s.heap.objs.size+1) (.ins C s.heap.objs.size []))
 {s with heap:=(s.heap.push yo).push (yF C s.heap.objs.size)}:=by
 have e1:(s.heap.push yo).get? s.heap.objs.size=some yo:=zF s.heap rfl;have e2:((s.heap.push yo).push (yF C s.heap.objs.size)).get? (s.heap.objs.size+1)=some (yF C s.heap.objs.size):=by
  have:=zF (s.heap.push yo) (o:=yF C s.heap.objs.size) rfl;rwa[Heap.size_push] at this
 have e3:(s.heap.push yo).Ns s.heap.objs.size (λ _=>none):=⟨yo,#[],_,e1,rfl,(λ e he=>absurd he (by simp)),λ _=>rfl⟩;have I1:=I.laid (a:=s.heap.objs.size) (o:=.own (s.heap.objs.size+1)) (h':=s.heap.push yo) (t':=s.toks) (λ b u q=>zm _ q) (zw _) ⟨_,e1⟩;refine I1.laid (a:=s.heap.objs.size+1) (o:=.ins C s.heap.objs.size []) (t':=s.toks) (λ b u q=>zm _ q) (Nat.le_of_eq (Heap.size_push _ _)) ?_;have ne:s.heap.objs.size≠s.heap.objs.size+1:=zD (Nat.lt_succ_self _);refine⟨by rw[Ab ne,Ao],zS _,ne,e2,λ _=>none,(Heap.Ns1.of_empty e3).at λ o q=>zm _ q,λ _=>yI,λ y hy=>absurd rfl hy⟩
def Z6 {prog:Program}{w:World}{env:Env}{e:Expr}{f:Str}{pos:Pos}{s:Shared}{Q:Value->Shared->Prop}(hb:attributeBase e f env (eval e env)=eval e env)
 (h:wpAny (model prog w) A (eval e env) (λ o s₁=>wpAny (model prog w) A (getAttr o f true) Q E s₁) E s):wpAny (model prog w) A (eval (.Attribute e f pos) env) Q E s:=
 Attribute_any_ h (by rw[arm_eval_Attribute,hb])
end
noncomputable def rD (K:za)(ta:TE)(f:Str):TE:=λ σ H Q=>ta σ H λ x H1=>∃a C dx fs v,x=.ref a/\H1 a=some (.ins C dx fs)/\V3 K C/\Ic K C f/\fs.lookup f=some v/\Q v H1
noncomputable def rE (K:za)(ta tv:TE)(f:Str):TS:=λ D σ H=>tv σ H λ y H1=>ta σ H1 λ x H2=>∃a C dx fs,x=.ref a/\H2 a=some (.ins C dx fs)/\V3 K C/\Ic K C f/\fs.length<1000/\
 D.nx σ (upd H2 a (.ins C dx (DJ f y fs)))
section
variable {X:Cx}{o e value:Expr}{f:Str}{pos pos' bu:Pos}{ta tv:TE}
def iG (he:PE X e ta)(hb:attributeBase e f X.env (eval e X.env)=eval e X.env):PE X (.Attribute e f pos) (rD X.K ta f):=by
 intro pins s σ H Q I h;refine Z6 hb (Bh (he pins s σ H _ I h) λ u s1 ⟨x,H1,I1,rx,a,C,dx,fs,v,ex,ea,c,n,l,q⟩=>?_);subst ex;obtain rfl:u=zZ a:=rx;exact S7 I1 ea c n l λ u' s2 I2 ru=>⟨v,H1,I2,ru,q⟩
def iH (ha:PE X o ta)(hv:PE X value tv)(hs:swapsWith value (some (.Attribute o f pos')) pos.line X.env=pure false):PS X (.Assign [.Attribute o f pos'] value pos) (rE X.K ta tv f):=by
 intro pins s σ H D I h;refine plainObj_wpAny_Assign_Attribute (Bh (hv pins s σ H _ I h) λ u s1 ⟨y,H1,I1,ry,q⟩=>Bh (ha pins s1 σ H1 _ I1 q) λ ov s2 ⟨x,H2,I2,rx,a,C,dx,fs,ex,ea,c,n,l,q2⟩=>?_) hs;subst ex;obtain rfl:ov=zZ a:=rx;exact S8 I2 ea c n l ry λ s3 I3=>⟨σ,_,I3,q2⟩
end
structure BD (k:Nat)(A:Around):Prop where
 hd:A.handled=none
 dp:A.depth+3*k+5<recursionLimit
 un:A.units+16*k+200<cLine
def BD.mono {j k:Nat}{A:Around}(r:BD k A)(h:j<=k):BD j A:=⟨r.hd,by have:=r.dp;omega,by have:=r.un;omega⟩
def BD.deeper {k:Nat}{A:Around}(r:BD (k+1) A)(env:Env):BD k (A.deeper env):=
 ⟨r.hd,by have:=r.dp;show A.depth+1+3*k+5<_;omega,by have:=r.un;show A.units+3+16*k+200<_;omega⟩
def S9 {A:Around}{C:Addr}{us:List Value}{kw:List (Str×Value)}:(A.under (.builtin "type.__call__" ⟨.ref C::us,kw⟩)).depth=A.depth+1:=by
 first|rfl|simp[Around.under,Code.weight,Code.isCreation,Code.isGuard,Code.isCaller,Code.frames,Code.isFrame,guardIds]
def Sa {A:Around}{C:Addr}{us:List Value}{kw:List (Str×Value)}:(A.under (.builtin "type.__call__" ⟨.ref C::us,kw⟩)).units=A.units+1:=by
 first|rfl|simp[Around.under,Code.cUnits,Code.frames,Code.isFrame]
def BD.make {k:Nat}{A:Around}(r:BD (k+1) A)(C:Addr)(us:List Value)(kw:List (Str×Value)):BD k (A.under (.builtin "type.__call__" ⟨.ref C::us,kw⟩)):=
 ⟨r.hd,by have:=r.dp;rw[S9];omega,by have:=r.un;rw[Sa];omega⟩
def BD.depth {k:Nat}{A:Around}(r:BD k A):A.depth<recursionLimit:=by have:=r.dp;omega
def BD.units {k:Nat}{A:Around}(r:BD k A):A.units+64<cLine:=by have:=r.un;omega
noncomputable def iI:TA:=λ _ H Q=>Q [] H
noncomputable def eZ (ta:TE)(tr:TA):TA:=λ σ H Q=>ta σ H λ x H1=>tr σ H1 λ xs H2=>Q (x::xs) H2
section
variable {X:Cx}{e:Expr}{es:List Expr}{te:TE}{t:TA}{pos:Pos}
def Ci:PA X [] iI:=λ _ _ _ _ H Q I h=>yT ⟨[],H,I,.nil,h⟩
def Bk (ha:PE X e te)(hr:PA X es t)(hs:starEach (e::es) X.env=(false,eval e X.env)::starEach es X.env:=by rfl):PA X (e::es) (eZ te t):=by
 intro pos pins s σ H Q I h;rw[hs];show wpAny _ _ (spliced ((false,eval e X.env)::backTo pos (starEach es X.env))) _ _ s;refine yO (Bh (ha pins s σ H _ I h) λ u s1 ⟨x,H1,I1,r1,q1⟩=>?_);exact Bh (hr pos pins s1 σ H1 _ I1 q1) λ us s2 ⟨xs,H2,I2,r2,q2⟩=>⟨x::xs,H2,I2,.cons r1 r2,q2⟩
noncomputable def rF (t:TA):TE:=λ σ H Q=>t σ H λ xs H1=>xs.length<=sizeLine/\∀p,H1 p=none->Q (.ref p) (upd H1 p (.tup xs))
noncomputable def rG (t:TA):TE:=λ σ H Q=>t σ H λ xs H1=>xs.length<=sizeLine/\∀p,H1 p=none->Q (.ref p) (upd H1 p (.lst xs))
def WQ {x1}(h:PA X es t):PE X (.Tuple es x1 pos) (rF t):=by
 intro pins s σ H Q I hq;refine wpAny_Tuple_spliced (Bh (h pos pins s σ H _ I hq) λ us s1 ⟨xs,H1,I1,r,z,q⟩=>⟨by rw[<-r.length];exact z,?_⟩);have hf:H1 s1.heap.objs.size=none:=I1.Ax.fresh (zw _);refine⟨.ref s1.heap.objs.size,upd H1 s1.heap.objs.size (.tup xs),I1.laid (t':=s1.toks) (λ b u e=>zm _ e) (zw _) ?_,rfl,q _ hf⟩;exact⟨z,us,r,⟨_,zF _ rfl,rfl,_,rfl⟩⟩
def Sb (h:PA X es t):PE X (.List es pos) (rG t):=by
 intro pins s σ H Q I hq;refine wpAny_List_spliced (Bh (h pos pins s σ H _ I hq) λ us s1 ⟨xs,H1,I1,r,z,q⟩=>⟨by rw[<-r.length];exact z,?_⟩);have hf:H1 s1.heap.objs.size=none:=I1.Ax.fresh (zw _);refine⟨.ref s1.heap.objs.size,upd H1 s1.heap.objs.size (.lst xs),I1.laid (t':=s1.toks) (λ b u e=>zm _ e) (zw _) ?_,rfl,q _ hf⟩;exact⟨z,us,0,r,zF _ rfl⟩
end
noncomputable abbrev Sp:=List V->Hp->VK->XK->Prop
noncomputable abbrev TJ:=List Env->Hp->Shared->XK->Value->Shared->Prop
structure Sd (P:Program)(w:World)(K:za)(mg:Str->Option Value)(base:Heap)(A:Around)(outer:List Env)(s:Shared)(H:Hp):Prop where
 frames:A.frames=some outer
 mod:Mod K mg base
 bs:∀b o,base.get? b=some o->s.heap.get? b=some o/\H b=none
 YU:base.objs.size<=s.heap.objs.size
 IU:s.heap.FunFrames base outer
 gC:∀b∈KJ outer,H b=none
 Ax:F7 P w H s.heap
 bare:AllBare s.gens
def CE (outer:List Env)(P:Program)(w:World)(H:Hp)(s:Shared)(Q:VK)(u:Value)(s':Shared):Prop:=
 ∃v H',s'.os=s.os/\AllBare s'.gens/\Un (KJ outer) [] H H' s.heap s'.heap/\F7 P w H' s'.heap/\RelV v u/\Q v H'
def CR (CX:TJ)(outer:List Env)(P:Program)(w:World)(H:Hp)(s:Shared)(Q:VK)(E:XK)(r:Result)(s':Shared):Prop:=
 match r with
 | .ok (.ret u)=>CE outer P w H s Q u s'
 | .ok _=>False
 | .error e=>CX outer H s E e s'
structure Df (P:Program)(w:World)(K:za)(mg:Str->Option Value)(base:Heap)(CX:TJ)(k:Nat)(f:Addr)(fd:FuncData)(ps:List Str)(sp:Sp):Prop where
 len:∀vs H Q E,sp vs H Q E->vs.length=ps.length
 run:∀(A:Around) (outer:List Env) (s:Shared) (H:Hp) (args:Args) (us:List Value) (vs:List V) (Q:VK) (E:XK),BD k A->Sd P w K mg base A outer s H->BindsTo s fd args (ps.zip us)->Vals vs us->sp vs H Q E->
  codeAny (model P w) A (.call (.ref f) args) (CR CX outer P w H s Q E) s
def Sd.make {P:Program}{w:World}{K:za}{mg:Str->Option Value}{base:Heap}{A:Around}{outer:List Env}{s:Shared}{H:Hp}(e:Sd P w K mg base A outer s H)(C:Addr)(us:List Value)(kw:List (Str×Value)):
 Sd P w K mg base (A.under (.builtin "type.__call__" ⟨.ref C::us,kw⟩)) outer s H:=⟨by first|exact e.frames|(simpa [Around.under,Code.envs,Code.isFrame,pushEnvs] using e.frames),e.mod,e.bs,e.YU,e.IU,e.gC,e.Ax,e.bare⟩
section
variable {X:Cx}{pins:List (Addr×Obj)}{σ:St}{H:Hp}{s s':Shared}
def Inv.mS (I:Inv X pins σ H s):Sd X.prog X.w X.K X.mg X.base X.A X.stack s H:=
 ⟨I.ok.frames,I.ok.mod,I.bs,zY I.ok.YU I.sz,I.stack,I.ON,I.Ax,I.bare⟩
def Inv.after {Q:VK}{u:Value}(I:Inv X pins σ H s)(h:CE X.stack X.prog X.w H s Q u s'):EP X pins σ Q u s':=by
 obtain⟨v,H',os,bare,un,Ax,r,q⟩:=h;obtain⟨hh,g,d,t,u7⟩:=s';obtain rfl:u7=s.os:=os;exact⟨v,H',I.call (h':=hh) (g':=g) (d':=d) (t':=t) (ch:=[]) un Ax bare (λ b z=>absurd z (by simp)),r,q⟩
end
noncomputable def mT (sp:Sp)(bv:List V)(E:XK)(t:TA):TE:=λ σ H Q=>t σ H λ vs H1=>sp (vs++bv) H1 Q E
noncomputable def mU (C:Addr)(sp:Sp)(bv:List V)(E:XK)(t:TA):TE:=λ σ H Q=>t σ H λ vs H1=>∀x dx,H1 x=none->H1 dx=none->dx≠x->
 sp (.ref x::(vs++bv)) (upd (upd H1 dx (.own x)) x (.ins C dx [])) (λ v H2=>v=.AD/\Q (.ref x) H2) E
def Binds (K:za)(fd:FuncData)(ps:List Str)(ds:List Value):Prop:=
 ∀(s:Shared) (us:List Value),K.In s.heap->(us++ds).length=ps.length->BindsTo s fd ⟨us,[]⟩ (ps.zip (us++ds))
def Binds.all {K:za}{fd:FuncData}{ps:List Str}(h:∀us:List Value,us.length=ps.length->bindArgs fd ⟨us,[]⟩=pure (ps.zip us)):Binds K fd ps []:=λ s us _ hl=>by
 rw[zX] at hl ⊢;exact .of_eq (h us hl)
def G6 (CX:TJ)(X:Cx)(E:XK):Prop:=∀(pins:List (Addr×Obj)) (σ:St) (H:Hp) (s:Shared) (e:Value) (s':Shared),Inv X pins σ H s->CX X.stack H s E e s'->X.xe e s'
section
variable {X:Cx}{CX:TJ}{k:Nat}{f C:Addr}{fd:FuncData}{ps:List Str}{sp:Sp}{bv:List V}{ds:List Value}{E:XK}{x m:Str}{p pos apos:Pos}{e o:Expr}{es:List Expr}{ta:TE}{t:TA}
def Se {pins:List (Addr×Obj)}{σ:St}{H:Hp}{s:Shared}{Q:VK}{us:List Value}{vs:List V}(F:Df X.prog X.w X.K X.mg X.base CX k f fd ps sp)(hr:BD k X.A)(hb:Binds X.K fd ps ds)(hd:Vals bv ds)(hx:G6 CX X E)
 (I:Inv X pins σ H s) (r:Vals vs us) (h:sp (vs++bv) H Q E):wpAny (model X.prog X.w) X.A (call (.ref f) us) (EP X pins σ Q) X.xe s:=by
 have r2:Vals (vs++bv) (us++ds):=r.append hd;have hl:(us++ds).length=ps.length:=by rw[<-r2.length];exact F.len _ _ _ _ h
 refine wpAny_call (codeAny_mono (F.run X.A X.stack s H ⟨us,[]⟩ (us++ds) (vs++bv) Q E hr I.mS (hb s us I.Nn hl) r2 h) λ r s' hq=>?_);cases r with
 |error e=>exact hx pins σ H s e s' I hq
 |ok fl =>
  cases fl with
  |ret u=>exact I.after hq
  |next=>exact yH hq
  |brk=>exact yH hq
  |cont=>exact yH hq
def TK (F:Df X.prog X.w X.K X.mg X.base CX k f fd ps sp)(hr:BD k X.A)(hg:Gl X x)(hm:X.mg x=some (.ref f))(hk:zO X.K (.ref f)=true)(hb:Binds X.K fd ps ds)(hd:Vals bv ds)(hx:G6 CX X E)
 (ha:PA X (e::es) t) (aS:(x==("__debug__" : Str))=false:=by decide) (he:starEach (e::es) X.env=(false,eval e X.env)::starEach es X.env:=by rfl) (hpl:(backTo pos (starEach es X.env)).any (·.1)=false:=by rfl):
 PE X (.Call (.Name x p) (e::es) [] pos) (mT sp bv E t):=by
 intro pins s σ H Q I h;refine wpAny_Call_Name_kw (OO I hg hm ?_ aS);refine PySem.W.callWith_K (h₀:=X.base) I.ok.mod.TB hk (Bh (ha pos pins s σ H _ I h) λ us s1 ⟨vs,H1,I1,r,q⟩=>⟨I1.Nn,?_⟩) he hpl;exact Se F hr hb hd hx I1 r q
structure Mk (K:za)(C f:Addr):Prop where
 makes:PySem.W.makesIn K C=true
 init:zi K (.ref C) "__init__" = some (some (.ref f))
 fn:yZ K (.ref f)=true
 kp:zO K (.ref C)=true
def WR {pins:List (Addr×Obj)}{σ:St}{H:Hp}{s:Shared}{Q:VK}{us:List Value}{vs:List V}(M:Mk X.K C f)(F:Df X.prog X.w X.K X.mg X.base CX k f fd ps sp)(hr:BD (k+1) X.A)(hb:Binds X.K fd ps ds)(hd:Vals bv ds)
 (hx:G6 CX X E) (I:Inv X pins σ H s) (r:Vals vs us)
 (h:∀x dx,H x=none->H dx=none->dx≠x->sp (.ref x::(vs++bv)) (upd (upd H dx (.own x)) x (.ins C dx [])) (λ v H2=>v=.AD/\Q (.ref x) H2) E):
 wpAny (model X.prog X.w) X.A (call (.ref C) us) (EP X pins σ Q) X.xe s:=by
 have hq:=h (s.heap.objs.size+1) s.heap.objs.size (I.Ax.fresh (Nat.le_succ _)) (I.Ax.fresh (zw _)) (zD (Nat.lt_succ_self _));have I2:=Inv.made (C:=C) I;have r2:Vals (V.ref (s.heap.objs.size+1)::(vs++bv)) (zZ (s.heap.objs.size+1)::(us++ds)):=.cons rfl (r.append hd);have hl:(zZ (s.heap.objs.size+1)::us++ds).length=ps.length:=by
  have e:=r2.length;rw[F.len _ _ _ _ hq] at e;exact e.symm
 refine wpAny_call (WO (f:=f) I.Nn M.makes M.init (beq_iff_eq.mp M.fn) (codeAny_mono (F.run _ X.stack _ _ ⟨zZ (s.heap.objs.size+1)::us,[]⟩ (zZ (s.heap.objs.size+1)::(us++ds)) _ _ E (hr.make C us [])
  (I2.mS.make C us []) (hb _ (zZ (s.heap.objs.size+1)::us) I2.Nn hl) r2 hq) λ r s' ee=>?_))
 cases r with
 |error e=>exact hx pins σ _ _ e s' I2 ee
 |ok fl =>
  cases fl with
  |ret u =>
   obtain⟨v,H',I3,rv,ev,q3⟩:=I2.after ee;subst ev;exact⟨rv,⟨V.ref (s.heap.objs.size+1),H',I3,rfl,q3⟩⟩
  |next=>exact yH ee
  |brk=>exact yH ee
  |cont=>exact yH ee
def Z7 (M:Mk X.K C f)(F:Df X.prog X.w X.K X.mg X.base CX k f fd ps sp)(hr:BD (k+1) X.A)(hg:Gl X x)(hm:X.mg x=some (.ref C))(hb:Binds X.K fd ps ds)(hd:Vals bv ds)(hx:G6 CX X E)
 (ha:PA X (e::es) t) (aS:(x==("__debug__" : Str))=false:=by decide) (he:starEach (e::es) X.env=(false,eval e X.env)::starEach es X.env:=by rfl) (hpl:(backTo pos (starEach es X.env)).any (·.1)=false:=by rfl):
 PE X (.Call (.Name x p) (e::es) [] pos) (mU C sp bv E t):=by
 intro pins s σ H Q I h;refine wpAny_Call_Name_kw (OO I hg hm ?_ aS);refine PySem.W.callWith_K (h₀:=X.base) I.ok.mod.TB M.kp (Bh (ha pos pins s σ H _ I h) λ us s1 ⟨vs,H1,I1,r,q⟩=>⟨I1.Nn,?_⟩) he hpl;exact WR M F hr hb hd hx I1 r q
end
def PK (X:Cx)(ik:List Keyword)(t:TA):Prop:=
 ∀(pos:Pos) (pins:List (Addr×Obj)) (s:Shared) (σ:St) (H:Hp) (Q:List V->Hp->Prop),Inv X pins σ H s->t σ H Q->wpAny (model X.prog X.w) X.A (evalAll ((backToKw pos (keywordEach ik X.env)).map (·.2))) (AP X pins σ Q) X.xe s
section
variable {X:Cx}{CX:TJ}{k:Nat}{f C:Addr}{fd:FuncData}{ps ks:List Str}{sp:Sp}{E:XK}{x m:Str}{p pos apos l7:Pos}{e o:Expr}{es:List Expr}{ik:List Keyword}{te ta:TE}{t tk:TA}{nm:Option Str}
def iJ:PK X [] iI:=λ _ _ _ _ H Q I h=>wpAny_evalAll_nil ⟨[],H,I,.nil,h⟩
def Z8 (ha:PE X e te)(hr:PK X ik t):PK X (⟨nm,e,l7⟩::ik) (eZ te t):=by
 intro pos pins s σ H Q I h;show wpAny _ _ (evalAll ((do let v <-eval e X.env;standAt pos;pure v)::(backToKw pos (keywordEach ik X.env)).map (·.2))) _ _ s;refine wpAny_evalAll_cons (wpAny_bind (Bh (ha pins s σ H _ I h) λ u s1 ⟨x,H1,I1,r1,q1⟩=>wpAny_bind (wpAny_standAt (wpAny_pure ?_))));exact Bh (hr pos pins s1 σ H1 _ I1 q1) λ us s2 ⟨xs,H2,I2,r2,q2⟩=>⟨x::xs,H2,I2,.cons r1 r2,q2⟩
variable {g:List Value->List Value->List Value}{gV:List V->List V->List V}
end
structure Ah (N P:List Str)(sc:Scope):Prop where
 kind:sc.kind=.function
 co:sc.isCoroutine=false
 gen:sc.isGenerator=false
 nd:N.Nodup
 pre:N.take P.length=P
 sY:∀x∈P,sc.names.lookup x=some .local\/sc.names.lookup x=some .cell
 iK:∀y∈sc.names,y.2≠.free
def NT {kindOf:Str->Option NameKind}{x:Str}:∀ {binds:List (Str×Value)}{m:Str->Option Value},(∀v,(x,v)∉binds)->bindL kindOf binds m x=m x
 |[],_,_=>rfl
 |(n,v)::r,m,h=>by
  unfold bindL;rw[NT λ w hw=>h w (zf _ hw)];split
  ·have:x≠n:=by rintro rfl;exact h v zc
   simp[this]
  ·rfl
def NU {kindOf:Str->Option NameKind}{x:Str}:∀ {binds:List (Str×Value)}{m:Str->Option Value},(∀v,(x,v)∉binds)->bindC kindOf binds m x=m x
 |[],_,_=>rfl
 |(n,v)::r,m,h=>by
  unfold bindC;rw[NU λ w hw=>h w (zf _ hw)];split
  ·rfl
  ·have:x≠n:=by rintro rfl;exact h v zc
   simp[this]
def NV {kindOf:Str->Option NameKind}{x:Str}{v:Value}:∀ {P:List Str}{vs:List Value}{i:Nat}{m:Str->Option Value},P.Nodup->P[i]?=some x->vs[i]?=some v->kindOf x=some .local->
 bindL kindOf (P.zip vs) m x=some v
 |[],_,_,_,_,h,_,_=>by simp at h
 |_::_,[],_,_,_,_,h,_=>by simp at h
 |p::P,w::vs,0,m,nd,h1,h2,hk=>by
  simp at h1 h2;subst h1;subst h2;show bindL kindOf ((p,w)::P.zip vs) m p=_;unfold bindL;rw[NT λ v hv=>(ym.mp nd).1 (List.of_mem_zip hv).1,if_pos hk];simp
 |p::P,w::vs,i+1,m,nd,h1,h2,hk=>by
  show bindL kindOf ((p,w)::P.zip vs) m x=_;unfold bindL;exact NV (i:=i) (ym.mp nd).2 (by simpa using h1) (by simpa using h2) hk
def NW {kindOf:Str->Option NameKind}{x:Str}{v:Value}:∀ {P:List Str}{vs:List Value}{i:Nat}{m:Str->Option Value},P.Nodup->P[i]?=some x->vs[i]?=some v->kindOf x≠some .local->
 bindC kindOf (P.zip vs) m x=some v
 |[],_,_,_,_,h,_,_=>by simp at h
 |_::_,[],_,_,_,_,h,_=>by simp at h
 |p::P,w::vs,0,m,nd,h1,h2,hk=>by
  simp at h1 h2;subst h1;subst h2;show bindC kindOf ((p,w)::P.zip vs) m p=_;unfold bindC;rw[NU λ v hv=>(ym.mp nd).1 (List.of_mem_zip hv).1,if_neg hk];simp
 |p::P,w::vs,i+1,m,nd,h1,h2,hk=>by
  show bindC kindOf ((p,w)::P.zip vs) m x=_;unfold bindC;exact NW (i:=i) (ym.mp nd).2 (by simpa using h1) (by simpa using h2) hk
noncomputable def start (N:List Str)(vs:List V):St:=vs.map some++zy (N.length-vs.length) none
noncomputable def La (CX:TJ)(P:Program)(w:World)(K:za)(mg:Str->Option Value)(base:Heap)(N:List Str)(qual:Str)(scope:Scope)(f:Addr)(cd:Value)(A:Around)(outer:List Env)(s:Shared)(H:Hp)(E:XK):Cx where
 prog:=P
 w:=w
 K:=K
 mg:=mg
 base:=base
 A:=A.deeper (envOfC qual scope s.heap.objs.size f cd)
 N:=N
 s₀:=s
 H₀:=H
 env:=envOfC qual scope s.heap.objs.size f cd
 outer:=outer
 stack:=envOfC qual scope s.heap.objs.size f cd::outer
 ex:=[]
 calm:=true
 fn:=λ _=>true
 pn:=[]
 xe:=λ e s'=>wpAny (model P w) (A.deeper (envOfC qual scope s.heap.objs.size f cd)) (leaving (envOfC qual scope s.heap.objs.size f cd) e) (λ _ il=>CX outer H s E e il) (λ e' il=>CX outer H s E e' il) s'
def Ql {sc:Scope}{n:Nat}{x:Str}(h:sc.names.lookup x=some .cell):∃c,(cellsFrom n sc.names []).lookup x=some c:=by
 have q:=PySem.W.cellsFrom_some sc.names n [] (.inl h);exact xi.mp q
def V4 {CX:TJ}{P:Program}{w:World}{K:za}{mg:Str->Option Value}{base:Heap}{N ps:List Str}{qual:Str}{scope:Scope}{f:Addr}{cd:Value}{A:Around}{outer:List Env}{s s1:Shared}{H:Hp}{E:XK}{us:List Value}{vs:List V}
 (S:Ah N ps scope) (hd:A.handled=none) (e0:Sd P w K mg base A outer s H) (hl:vs.length=ps.length) (r:Vals vs us)
 (x:InCallC s s.heap.objs.size (bindL (envOfC qual scope s.heap.objs.size f cd).kindOf (ps.zip us) λ _=>none) (cellsFrom (s.heap.objs.size+1) scope.names []) (bindC (envOfC qual scope s.heap.objs.size f cd).kindOf (ps.zip us) λ _=>none) s1):
 Inv (La CX P w K mg base N qual scope f cd A outer s H E) [] (start N vs) H s1:=by
 have hpl:ps.length<=N.length:=by have:=congrArg List.length S.pre;rw[yB] at this;omega
 obtain⟨h1,tk,rfl,hk⟩:=x.done;have im:∀b:Addr,b∉(La CX P w K mg base N qual scope f cd A outer s H E).ex:=λ b z=>absurd (show b∈([]:List Addr) from z) (by simp);refine⟨⟨e0.mod,S.kind,rfl,rfl,zw _,λ y z c h1 h2=>?_,λ y hy=>?_,λ y c _ h=>?_,λ _=>hd,Around.frames_deeper e0.frames,.inr ⟨rfl,rfl⟩,λ b z=>absurd z (im b),e0.bs,e0.YU,λ b _ _=>im b,λ b z=>absurd z (im b),e0.IU,e0.gC⟩,
  rfl,e0.bare,Un.kept hk,⟨_,x.toInCall.ns,λ i y v h1 h2 h3=>?_⟩,λ y c h=>⟨_,x.cell y c h⟩,e0.Ax.fresh (zw _),λ y c h=>?_,λ p hp=>absurd (show p∈([]:List (Addr×Obj)) from hp) (by simp),e0.Ax.kept hk,?_⟩
 ·exact name_of_addr x.apart (xh h1) (xh h2)
 ·have hy:scope.names.lookup y=some .cell\/scope.names.lookup y=some .free:=hy;rcases hy with hy|hy
  ·exact Ql hy
  ·exact absurd rfl (S.iK _ (xh hy))
 ·exact yd (x.above y c (xh h))
 ·have hi:i<vs.length:=by
   unfold start at h2;by_cases hi:i<vs.length
   ·exact hi
   ·rw[yX (by simpa using hi)] at h2;rw[List.getElem?_replicate] at h2;split at h2<;>cases h2
  have ha:vs[i]?=some v:=by
   unfold start at h2;rw[yv (by simpa using hi),zI] at h2;cases e:vs[i]? with
   |none=>rw[e] at h2;cases h2
   |some a=>rw[e] at h2;cases h2;rfl
  obtain⟨u,hu,rv⟩:=r.get ha;have hp:ps[i]?=some y:=by
   rw[<-S.pre,List.getElem?_take_of_lt (by omega)];exact h1
  have sZ:ps.Nodup:=by rw[<-S.pre];exact S.nd.sublist (List.take_sublist _ _)
  refine⟨u,rv,?_⟩;rcases S.sY y (zo hp) with k|k
  ·exact .inl ⟨k,NV sZ hp hu k⟩
  ·obtain⟨c,e⟩:=Ql (n:=s.heap.objs.size+1) k;refine .inr ⟨.inl k,c,e,?_⟩;have q:=x.cell y c e;rw[NW sZ hp hu (by show scope.names.lookup y≠_;rw[k];decide)] at q;exact q
 ·exact e0.Ax.fresh (yd (x.above y c (xh h)))
 ·unfold start;show _=N.length;rw[zK,ze,List.length_replicate];omega
def TM {CX:TJ}{P:Program}{w:World}{K:za}{mg:Str->Option Value}{base:Heap}{k:Nat}{f:Addr}{name qual:Str}{params:Arguments}{body:List Stmt}{scope:Scope}{dV kV doc pm B4 ct oc:Value}{an od:Option Addr}
 {Qc:Array (Option Value)} {N ps:List Str} {sp:Sp} (lk:K.lookup f=some ⟨oc,od,.func (zR name qual params body scope dV kV doc pm an B4 ct),Qc⟩) (bh:yc K B4 qual=true) (S:Ah N ps scope)
 (len:∀vs H Q E,sp vs H Q E->vs.length=ps.length)
 (bQ:∀(A:Around) (outer:List Env) (s:Shared) (H:Hp) (vs:List V) (Q:VK) (E:XK),BD k (A.deeper (envOfC qual scope s.heap.objs.size f B4))->sp vs H Q E->
  ∃t,TC (La CX P w K mg base N qual scope f B4 A outer s H E) body t/\t {nx:=λ _ H'=>Q .AD H',rt:=Q} (start N vs) H):
 Df P w K mg base CX (k+1) f (zR name qual params body scope dV kV doc pm an B4 ct) ps sp:=by
 refine⟨len,λ A outer s H args us vs Q E hr e0 hb r bI=>?_⟩;have hl:=len _ _ _ _ bI;have KX:K.In s.heap:=e0.mod.TB.keeps λ b o e=>(e0.bs b o e).1;have lim:s.heap.NoLimit:=e0.mod.nolimit.keeps λ b o e=>(e0.bs b o e).1;have ip:∀y∈ps.zip us,scope.names.lookup y.1=some .local\/(scope.names.lookup y.1=some .cell/\((cellsFrom (s.heap.objs.size+1) scope.names []).lookup y.1).isSome=true):=λ⟨n,v⟩ hy=>by
  rcases S.sY n (List.of_mem_zip hy).1 with q|q
  ·exact .inl q
  ·exact .inr ⟨q,PySem.W.cellsFrom_some _ _ _ (.inl q)⟩
 refine codeAny_call_function hr.depth (KX _ _ lk) rfl S.co S.gen rfl (PySem.W.codeRec_of KX bh) (hb _ _ _ _ ?_);refine wpAny_newFunctionEnv_cells S.kind ip λ env he s1 x=>?_;subst he;refine⟨lim.keeps x.toInCall.keep,codeAny_func ?_⟩;obtain⟨t,ht,hq⟩:=bQ A outer s H vs Q E (hr.deeper _) bI;have I:Inv (La CX P w K mg base N qual scope f B4 A outer s H E) [] (start N vs) H s1:=V4 S hr.hd e0 hl r x;refine wpAny_mono (ht [] s1 (start N vs) H _ I hq) (λ fl s' hs=>?_) λ e s' hs=>hs;have fin:∀ {σ':St} {H':Hp} {v:V} {u:Value},Inv (La CX P w K mg base N qual scope f B4 A outer s H E) [] σ' H' s'->RelV v u->Q v H'->CE outer P w H s Q u s':=
  fun {σ' H' v u} J rv q=>⟨v,H',J.os,J.bare,J.base,J.Ax,rv,q⟩
 cases fl with
 |ret u =>
  obtain⟨v,σ',H',J,rv,q⟩:=hs;exact fin J rv q
 |next =>
  obtain⟨σ',H',J,q⟩:=hs;exact fin (v:=V.AD) (u:=Value.none) J rfl q
 |brk =>
  obtain⟨_,_,_,q⟩:=hs;exact yH q
 |cont =>
  obtain⟨_,_,_,q⟩:=hs;exact yH q
section
variable {X:Cx}{x:Str}{p pos:Pos}{e:Expr}{es:List Expr}{t:TA}{id T:String}{r:List V->Hp->VK->Prop}
noncomputable def rH (r:List V->Hp->VK->Prop)(t:TA):TE:=λ σ H Q=>t σ H λ vs H1=>r vs H1 Q
def Qm (hc:FN X (.builtin id) r)(hg:Gl X x)(hm:X.mg x=none)(hv:bootBuiltins x=some (.builtin id))(ha:PA X (e::es) t)(hn:x ≠ "__name__" := by decide)(aS:(x==("__debug__" : Str))=false:=by decide)
 (he:starEach (e::es) X.env=(false,eval e X.env)::starEach es X.env:=by rfl) (hpl:(backTo pos (starEach es X.env)).any (·.1)=false:=by rfl):PE X (.Call (.Name x p) (e::es) [] pos) (rH r t):=by
 intro pins s σ H Q I h;refine wpAny_Call_Name_kw (Ez I hg hm hv ?_ hn aS);exact PyProof.Rows.callWith_builtin1 (Bh (ha pos pins s σ H _ I h) λ us s1 ⟨vs,H1,I1,r1,q1⟩=>hc pins s1 σ H1 vs us Q I1 r1 q1) he hpl
def NX (hc:FN X (.type T) r)(hg:Gl X x)(hm:X.mg x=none)(hv:bootBuiltins x=some (.type T))(ha:PA X (e::es) t)(hn:x ≠ "__name__" := by decide)(aS:(x==("__debug__" : Str))=false:=by decide)
 (he:starEach (e::es) X.env=(false,eval e X.env)::starEach es X.env:=by rfl) (hpl:(backTo pos (starEach es X.env)).any (·.1)=false:=by rfl):PE X (.Call (.Name x p) (e::es) [] pos) (rH r t):=by
 intro pins s σ H Q I h;refine wpAny_Call_Name_kw (Ez I hg hm hv ?_ hn aS);exact yk (Bh (ha pos pins s σ H _ I h) λ us s1 ⟨vs,H1,I1,r1,q1⟩=>hc pins s1 σ H1 vs us Q I1 r1 q1) he hpl
end
end L2
namespace HT
open PySem PyProof.Rows
noncomputable def lexLt:List Int->List Int->Bool
 |[],[]=>false
 |[],_::_=>true
 |_::_,[]=>false
 |x::xs,y::ys=>if x=y then lexLt xs ys else decide (x<y)
theorem Fc (x y:Int)(xs ys:List Int):lexLt (x::xs) (y::ys)=if x=y then lexLt xs ys else decide (x<y):=rfl
theorem EA:lexLt [] []=false:=rfl
theorem M5 (y:Int)(ys:List Int):lexLt [] (y::ys)=true:=rfl
theorem M6 (x:Int)(xs:List Int):lexLt (x::xs) []=false:=rfl
def WS (A:Around)(s:Shared)(a:Int)(t:Tok)(c:Int)(u:Tok):∃e,SeqAt.EqAt A s (.int a t) (.int c u) e/\(e=true↔a=c):=
 ⟨(a==c),SeqAt.EqAt.int_int a t c u,by simp⟩
def WT (A:Around)(s:Shared)(a:Int)(t:Tok)(c:Int)(u:Tok)(prog:Program)(w:World)(E:Value->Shared->Prop)(Q:Value->Shared->Prop)(h:Q (.bool (decide (a<c))) s):
 wpAny (model prog w) A (richCompare .Lt (.int a t) (.int c u)) Q E s:=
 (PyProof.Rows.lt_int h:wpAny (model prog w) A (compareOp .Lt (.int a t) (.int c u)) Q E s)
section
open PySem.SeqAt
open PySem.AutoSeq1 (wpAny_loadPart')
open PySem.MeetsSeq PySem.MeetsSeq2 PySem.MeetsSeq3
def Nr (l b:Addr)(items aw:Array Value)(n n2:Nat)(dd l8:Option Addr)(sl iq:Array (Option Value))(ns ms:List Int)(hi:IntsAre items.toList ns)(hj:IntsAre aw.toList ms):
 Meets (Builtin.«tuple.__lt__» ⟨[.ref l,.ref b],[]⟩)
  (λ _ R s=>s.heap.get? l=some {cls:=.type "tuple",dict:=dd,data:=.seq items n,slots:=sl}/\s.heap.get? b=some {cls:=.type "tuple",dict:=l8,data:=.seq aw n2,slots:=iq}/\
   R (.ok (.ret (.bool (lexLt ns ms)))) s):=
 .of_wp λ prog w A R s h=>by
  obtain⟨hp,g,d,tk,os⟩:=s;obtain⟨hl,hb,h⟩:=h;have f2:=AutoSeq1.sub_tuple_tuple;have z1:items.size=ns.length:=by rw[<-hi.length];simp
  have z2:aw.size=ms.length:=by rw[<-hj.length];simp
  wp_walk using wpAny_loadPart' hl,wpAny_loadPart' hb,wpAny_forIn_list _ (λ rest b s'=>b.1=none/\s'=⟨hp,g,d,tk,os⟩/\∃(vs ws:List Value) (c5 gy:List Int),rest=vs.zip ws/\
   IntsAre vs c5/\IntsAre ws gy/\c5.length+aw.size=gy.length+items.size/\R (.ok (.ret (.bool (lexLt c5 gy)))) ⟨hp,g,d,tk,os⟩) _
  case turn =>
   rintro ⟨y,x⟩ rest b s' ⟨a8,rfl,vs,ws,c5,gy,hz,l9,j8,hlen,hR⟩;cases l9 with
   |nil=>rw[List.zip_nil_left] at hz;cases hz
   |cons a t ma =>
    cases j8 with
    |nil=>rw[List.zip_nil_right] at hz;cases hz
    |cons c u me =>
     rw[List.zip_cons_cons] at hz;injection hz with u8 ir
     injection u8 with hy hx
     subst hy hx;rw[Fc] at hR;simp only[zp] at hlen;obtain⟨e,he,iu⟩:=WS A.in1 ⟨hp,g,d,tk,os⟩ a t c u;refine wpAny_bind (he prog w _ _ ?_);cases e with
     |true =>
      rw[if_pos (iu.mp rfl)] at hR
      wp_walk
      exact⟨rfl,rfl,_,_,_,_,ir,ma,me,by omega,hR⟩
     |false =>
      rw[if_neg (λ q=>absurd (iu.mpr q) zL)] at hR;have u9:=WT A.in1 ⟨hp,g,d,tk,os⟩ a t c u prog w
      wp_walk using u9
      exact⟨_,rfl,by simpa using hR⟩
  case fin =>
   rintro ⟨b1,b2⟩ s' ⟨a8,rfl,vs,ws,c5,gy,hz,l9,j8,hlen,hR⟩;simp only at a8;subst a8;have hv:lexLt c5 gy=decide (items.size<aw.size):=by
    cases l9 with
    |nil =>
     cases j8 with
     |nil =>
      simp only[List.length_nil] at hlen;rw[EA];exact (decide_eq_false (by omega)).symm
     |cons c u hw =>
      simp only[List.length_nil,zp] at hlen;rw[M5];exact (decide_eq_true (by omega)).symm
    |cons a t hv =>
     cases j8 with
     |nil =>
      simp only[List.length_nil,zp] at hlen;rw[M6];exact (decide_eq_false (by omega)).symm
     |cons c u hw =>
      rw[List.zip_cons_cons] at hz;cases hz
   rw[hv] at hR
   wp_walk
   exact⟨_,rfl,by simpa [Builtin.Tuple.tupleCompareSizes] using hR⟩
  case h =>
   exact⟨rfl,rfl,items.toList,aw.toList,ns,ms,rfl,hi,hj,by omega,h⟩
end
section
variable {prog:Program}{w:World}{A:Around}{E:Value->Shared->Prop}{s:Shared}
def Ie {l b:Addr}{items aw:Array Value}{ns ms:List Int}{Q:Value->Shared->Prop}(hl:IsTup s.heap l items)(hb:IsTup s.heap b aw)(hi:IntsAre items.toList ns)(hj:IntsAre aw.toList ms)
 (hu:A.units<cLine) (h:Q (.bool (lexLt ns ms)) s):wpAny (model prog w) A (compareOp .Lt (.ref l) (.ref b)) Q E s:=by
 obtain⟨⟨cls,dd,data,sl⟩,ho,hc,n,hd⟩:=id hl;obtain⟨⟨uH,l8,data2,iq⟩,j9,tf,n2,hd2⟩:=id hb;simp only at hc hd tf hd2;subst hc hd tf hd2;exact richCompare_meets_room (op:=.Lt) ⟨_,ho,rfl⟩ ⟨_,j9,rfl⟩ PySem.F.slot_tuple_lt PySem.F.entry_tuple_lt (PySem.F.args_tuple_lt_2 _ _) (Nr l b items aw n n2 dd l8 sl iq ns ms hi hj)
  ⟨ho,j9,show Value.bool (lexLt ns ms)≠Value.notImplemented/\Q (.bool (lexLt ns ms)) s from ⟨(λ x=>nomatch x),h⟩⟩ hu
noncomputable def M7 (n d:Nat):Option Int->Nat
 |none=>d
 |some v=>if v<0 then (v+(n:Int)).toNat else min v.toNat n
theorem WU (n d:Nat):M7 n d none=d:=rfl
def OR (n d k:Nat):M7 n d (some (k:Int))=min k n:=by
 show (if (k:Int)<0 then ((k:Int)+(n:Int)).toNat else min (k:Int).toNat n)=min k n;rw[if_neg (by omega),y8]
end
end HT
namespace L2
open PySem PySem.Spec PyProof.Rows
noncomputable abbrev TO:=St->Hp->(Option Int->Hp->Prop)->Prop
def PO (X:Cx)(e:Option Expr)(t:TO):Prop:=
 ∀(pins:List (Addr×Obj)) (s:Shared) (σ:St) (H:Hp) (Q:Option Int->Hp->Prop),Inv X pins σ H s->t σ H Q->
  wpAny (model X.prog X.w) X.A (evalPart e X.env) (λ u s'=>∃o H',Inv X pins σ H' s'/\IsPart u o/\Q o H') X.xe s
noncomputable def Z9:TO:=λ _ H Q=>Q none H
noncomputable def mV (t:TE):TO:=λ σ H Q=>t σ H λ x H1=>∃i,x=.int i/\Q (some i) H1
def intsAre_of {ns:List Int}:∀ {us:List Value},Vals (ns.map V.int) us->IntsAre us ns:=by
 induction ns with
 |nil=>intro us r;rw[List.map_nil] at r;cases r;exact .nil
 |cons n ns ih =>
  intro us r;rw[zg] at r;cases r with
  |cons r1 r2 =>
   obtain⟨t,e⟩:=r1;subst e;exact .cons n t (ih r2)
section
variable {X:Cx}{e:Expr}{te:TE}{lo hi:Option Expr}{tl th:TO}{pos p2:Pos}
def Za:PO X none Z9:=by
 intro pins s σ H Q I h;rw[evalPart_none];exact wpAny_pure ⟨none,H,I,.none,h⟩
def Zb (h:PE X e te):PO X (some e) (mV te):=by
 intro pins s σ H Q I hw;rw[evalPart_some];refine Bh (h pins s σ H _ I hw) λ u s1 ⟨x,H1,I1,r1,q1⟩=>?_;obtain⟨i,rfl,q⟩:=q1;obtain⟨t,rfl⟩:=r1;exact⟨some i,H1,I1,.int i t,q⟩
def tD (X:Cx)(r:V->Option Int->Option Int->Hp->VK->Prop):Prop:=
 ∀(pins:List (Addr×Obj)) (s:Shared) (σ:St) (H:Hp) (x:V) (v vl vu:Value) (lo hi:Option Int) (sl:Addr) (Q:VK),Inv X pins σ H s->RelV x v->s.heap.IsSliceOf sl vl vu .none->IsPart vl lo->IsPart vu hi->r x lo hi H Q->
  ∃T id,typeLookup (.type T) "__getitem__" = pure (some (.builtin id))/\s.TypeIs v T/\wpAny (model X.prog X.w) X.A (getItem v (.ref sl)) (EP X pins σ Q) X.xe s
noncomputable def uI (r:V->Option Int->Option Int->Hp->VK->Prop)(te:TE)(tl th:TO):TE:=λ σ H Q=>te σ H λ x H1=>tl σ H1 λ l H2=>th σ H2 λ u H3=>r x l u H3 Q
def WV {r:V->Option Int->Option Int->Hp->VK->Prop}(hr:tD X r)(he:PE X e te)(hl:PO X lo tl)(hu:PO X hi th):PE X (.Subscript e (.Slice lo hi none p2) pos) (uI r te tl th):=by
 intro pins s σ H Q I h;refine Subscript_ (Bh (he pins s σ H _ I h) λ v s1 ⟨x,H1,I1,r1,q1⟩=>?_);refine wpAny_Slice (Bh (hl pins s1 σ H1 _ I1 q1) λ vl s2 ⟨l,H2,I2,pl,q2⟩=>Bh (hu pins s2 σ H2 _ I2 q2) λ vu s3 ⟨u,H3,I3,pu,q3⟩=>?_);rw[evalPart_none];refine wpAny_pure ?_;have I4:Inv X pins σ H3 {s3 with heap:=s3.heap.push {cls:=.type "slice",data:=.fields #[vl,vu,.none]} }:=I3.kept (t':=s3.toks) λ b ob q=>zm _ q;obtain⟨T,id,hT,ht,hg⟩:=hr pins {s3 with heap:=s3.heap.push {cls:=.type "slice",data:=.fields #[vl,vu,.none]} } σ H3 x v vl vu l u s3.heap.objs.size Q I4 r1 (Heap.IsSliceOf.new ..) pl pu q3;show wpAny (model X.prog X.w) X.A (subscriptTail e (.Slice lo hi none p2) v (.ref s3.heap.objs.size)) (EP X pins σ Q) X.xe {s3 with heap:=s3.heap.push {cls:=.type "slice",data:=.fields #[vl,vu,.none]} };exact tail_any (ops:=[.ref s3.heap.objs.size,v]) ht hT hg (by with_unfolding_all rfl)
noncomputable def WW (xs:List V)(lo hi:Option Int):List V:=(xs.drop (HT.M7 xs.length 0 lo)).take (HT.M7 xs.length xs.length hi-HT.M7 xs.length 0 lo)
def Qn (xs:List V)(lo hi:Option Int):(WW xs lo hi).length<=xs.length:=by
 unfold WW;rw[yB,xj];omega
noncomputable def mW (K:za):R2:=λ x y H Q=>∃a b ns ms,x=.ref a/\y=.ref b/\Er K H a (ns.map V.int)/\Er K H b (ms.map V.int)/\Q (.bl (HT.lexLt ns ms)) H
def WY (hu:X.A.units<cLine):G5 X (compareOp .Lt) (mW X.K):=by
 intro pins s σ H x y v u Q I rx ry h;obtain⟨a,b,ns,ms,rfl,rfl,ha,hb,q⟩:=h;cases rx;cases ry;obtain⟨aa,r1,p1,_⟩:=I.tuple ha;obtain⟨aT,r2,p2,_⟩:=I.tuple hb;have i1:IntsAre aa.toArray.toList ns:=intsAre_of r1;have i2:IntsAre aT.toArray.toList ms:=intsAre_of r2;exact HT.Ie p1 p2 i1 i2 hu ⟨.bl (HT.lexLt ns ms),H,I,rfl,q⟩
end
noncomputable def TN (n:Nat)(i:Int):Option Nat:=if 0<=i then (if i<n then some i.toNat else none) else if -(n:Int)<=i then some (i+n).toNat else none
noncomputable def RZ {α:Type}(xs:List α)(i:Int):Option α:=(TN xs.length i).bind λ j=>xs[j]?
def TQ {n:Nat}{i:Int}{j:Nat}(h:TN n i=some j):seqIndex? i n=some j/\j<n/\-(n:Int)<=i/\i<n:=by
 unfold TN at h;by_cases h0:0<=i
 ·rw[if_pos h0] at h;by_cases h1:i<n
  ·rw[if_pos h1] at h;have e:i.toNat=j:=zE h;exact⟨by rw[seqIndex_of h0 h1,e],by omega,by omega,h1⟩
  ·rw[if_neg h1] at h;cases h
 ·rw[if_neg h0] at h;by_cases h1 : -(n:Int)<=i
  ·rw[if_pos h1] at h;have e:(i+n).toNat=j:=zE h;exact⟨by rw[seqIndex_neg (by omega) h1,e],by omega,h1,by omega⟩
  ·rw[if_neg h1] at h;cases h
def TR {α:Type}{xs:List α}{i:Int}{v:α}(h:RZ xs i=some v):∃j,seqIndex? i xs.length=some j/\xs[j]?=some v/\j<xs.length/\-(xs.length:Int)<=i/\i<xs.length:=by
 unfold RZ at h;cases e:TN xs.length i with
 |none=>rw[e] at h;cases h
 |some j =>
  rw[e] at h;obtain⟨h1,h2,h3,h4⟩:=TQ e;exact⟨j,h1,h,h2,h3,h4⟩
def Ln (b:Expr):Prop:=∀o i,subscripted b false o i=operate [o,i] (getItem o i)
def Zc (X:Cx)(r:R2):Prop:=
 ∀(value slice:Expr) (pins:List (Addr×Obj)) (s:Shared) (σ:St) (H:Hp) (x y:V) (v u:Value) (Q:VK),Inv X pins σ H s->RelV x v->RelV y u->r x y H Q->
  subscripted slice false v u=operate [v,u] (getItem v u)->wpAny (model X.prog X.w) X.A (subscriptTail value slice v u) (EP X pins σ Q) X.xe s
def pQ (X:Cx)(id:String)(r:V->List V->Hp->VK->Prop):Prop:=
 ∀(pins:List (Addr×Obj)) (s:Shared) (σ:St) (H:Hp) (x:V) (xs:List V) (v:Value) (us:List Value) (Q:VK),Inv X pins σ H s->RelV x v->Vals xs us->r x xs H Q->
  wpAny (model X.prog X.w) X.A (call (.builtin id) (v::us)) (EP X pins σ Q) X.xe s
section
variable {X:Cx}{a b:Expr}{ta tb:TE}{pos:Pos}
def Zc.or {r r':R2}(h:Zc X r)(h':Zc X r'):Zc X (λ x y H Q=>r x y H Q\/r' x y H Q):=by
 intro value slice pins s σ H x y v u Q I rx ry q hs;rcases q with q|q
 ·exact h value slice pins s σ H x y v u Q I rx ry q hs
 ·exact h' value slice pins s σ H x y v u Q I rx ry q hs
def fA {r:R2}(hr:Zc X r)(ha:PE X a ta)(hb:PE X b tb)(hs:Ln b):PE X (.Subscript a b pos) (lD r ta tb):=by
 intro pins s σ H Q I h;exact Subscript_ (hU ha hb I h λ v u s2 x y H2 I2 rx ry q=>hr a b pins s2 σ H2 x y v u Q I2 rx ry q (hs _ _))
noncomputable def iL (K:za):R2:=λ x y H Q=>∃p xs i v,x=.ref p/\y=.int i/\Dn K H p xs/\RZ xs i=some v/\Q v H
noncomputable def iM (K:za):R2:=λ x y H Q=>∃p xs i v,x=.ref p/\y=.int i/\Er K H p xs/\RZ xs i=some v/\Q v H
def TU:Zc X (iL X.K):=by
 intro value slice pins s σ H x y v u Q I rx ry h hs;obtain⟨p,xs,i,z,rfl,rfl,hq,he,q⟩:=h;cases rx;obtain⟨t,rfl⟩:=ry;obtain⟨aa,r,pl,hz⟩:=I.list hq;obtain⟨j,h1,h2,h3,h4,h5⟩:=TR he;obtain⟨w,ew,bi⟩:=r.get h2;have hl:=r.length;have hn:=K8;have fin:EP X pins σ Q w s:=⟨z,H,I,bi,q⟩;by_cases h0:0<=i
 ·have hj:i.toNat=j:=by
   rw[seqIndex_of h0 h5] at h1;exact zE h1
  exact item_listR pl.isList h0 (by omega) (by rw[hj];simpa using ew) fin hs
 ·have hj:(i+(aa.toArray.size:Int)).toNat=j:=by
   rw[seqIndex_neg (by omega) h4] at h1;rw[zk,<-hl];exact zE h1
  exact subscriptTail_builtinR (x:=w) pl.isList.typeIs slot_list_getitem.lookup
   (wpAny_getItem_list_neg (Q:=λ r s'=>r=w/\EP X pins σ Q r s') pl.isList (by omega) (by rw[zk]<;>omega) (by omega) (by rw[hj];simpa using ew) ⟨rfl,fin⟩) hs
def WZ:Zc X (iM X.K):=by
 intro value slice pins s σ H x y v u Q I rx ry h hs;obtain⟨p,xs,i,z,rfl,rfl,hq,he,q⟩:=h;cases rx;obtain⟨t,rfl⟩:=ry;obtain⟨aa,r,pl,hz⟩:=I.tuple hq;obtain⟨j,h1,h2,h3,h4,h5⟩:=TR he;obtain⟨w,ew,bi⟩:=r.get h2;have hl:=r.length;have hn:=K8;have fin:EP X pins σ Q w s:=⟨z,H,I,bi,q⟩;exact subscriptTail_builtinR (x:=w) pl.typeIs slot_tuple_getitem.lookup
  (getItem_tuple (j:=j) (Q:=λ r s'=>r=w/\EP X pins σ Q r s') pl (by omega) (by omega) (by rw[zk,<-hl];exact h1) (by simpa using ew) ⟨rfl,fin⟩) hs
def Sf (aa:List Value)(n j:Nat)(u:Value):yL (·.setIfInBounds j u) {cls:=.type "list",data:=.seq aa.toArray n}={cls:=.type "list",data:=.seq (aa.set j u).toArray n}:=by
 simp[yL]
def Inv.lst {pins:List (Addr×Obj)}{σ:St}{H:Hp}{s:Shared}{p:Addr}{xs:List V}(I:Inv X pins σ H s)(h:H p=some (.lst xs)):
 ∃(aa:List Value) (n:Nat),Vals xs aa/\s.heap.get? p=some {cls:=.type "list",data:=.seq aa.toArray n}/\xs.length<=sizeLine:=by
 obtain⟨z,aa,n,r,e⟩:=I.Ax p _ h;exact⟨aa,n,r,e,z⟩
def Inv.iN {pins:List (Addr×Obj)}{σ:St}{H:Hp}{s:Shared}{p:Addr}{xs ys:List V}{aa its':List Value}{n n':Nat}{f:Obj->Obj}(I:Inv X pins σ H s)(h:H p=some (.lst xs))
 (ho:s.heap.get? p=some {cls:=.type "list",data:=.seq aa.toArray n}) (hf:f {cls:=.type "list",data:=.seq aa.toArray n}={cls:=.type "list",data:=.seq its'.toArray n' }) (r:Vals ys its') (hz:ys.length<=sizeLine) (t:Nat):
 Inv X pins σ (upd H p (.lst ys)) {s with heap:=s.heap.update p f,toks:=t}:=by
 have e:(s.heap.update p f).get? p=some {cls:=.type "list",data:=.seq its'.toArray n' }:=by
  rw[yR f ho (by rw[hf]<;>rfl),hf]
 refine I.write (x:=p) (e:=p) (by rw[h];trivial) (.inl rfl) (λ b u hb q=>(yN _ _ (yb hb)).trans q) ⟨_,e⟩ ?_;exact⟨hz,its',n',r,e⟩
def mX:V->V->V->Hp->(Hp->Prop)->Prop:=λ o i v H Q=>∃p xs k j,o=.ref p/\i=.int k/\H p=some (.lst xs)/\TN xs.length k=some j/\Q (upd H p (.lst (xs.set j v)))
def set_list:mG X mX:=by
 intro pins s σ H o i v ov iv u Q I ro ri rv h;obtain⟨p,xs,k,j,rfl,rfl,hp,hj,q⟩:=h;cases ro;obtain⟨t,rfl⟩:=ri;obtain⟨aa,n,r,ho,hz⟩:=I.lst hp;obtain⟨h1,h2,h3,h4⟩:=TQ hj;have hl:=r.length;have hn:=K8;have I':Inv X pins σ (upd H p (.lst (xs.set j v))) {s with heap:=s.heap.update p (yL (·.setIfInBounds j u))}:=
  I.iN hp ho (Sf aa n j u) (r.set rv j) (by rw[y9];exact hz) s.toks
 by_cases h0:0<=k
 ·have hk:k.toNat=j:=by
   rw[seqIndex_of h0 h4] at h1;exact zE h1
  exact PySem.W.ki_setAt ho h0 (by omega) (by rw[zk,<-hl];exact h4) (by rw[hk];exact⟨_,I',q⟩)
 ·have hk:(k+(aa.toArray.size:Int)).toNat=j:=by
   rw[seqIndex_neg (by omega) h3] at h1;rw[zk,<-hl];exact zE h1
  exact PySem.W.ki_setBack ho (by omega) (by rw[zk,<-hl];exact h3) (by omega) (by rw[hk];exact⟨_,I',q⟩)
def OS (lo hi:Option Int)(n:Nat):(sliceBounds lo hi none n).1=((HT.M7 n 0 lo:Nat):Int)/\(sliceBounds lo hi none n).2.1=((HT.M7 n n hi:Nat):Int)/\(sliceBounds lo hi none n).2.2=1:=by
 refine⟨?_,?_,rfl⟩
 ·cases lo with
  |none=>simp[sliceBounds,HT.M7]
  |some i =>
   simp only[sliceBounds,HT.M7,Option.getD_none,show (1:Int) > 0 by decide,if_true];by_cases h:i<0
   ·simp only[h,if_true]<;>omega
   ·simp only[h,if_false]<;>omega
 ·cases hi with
  |none=>simp[sliceBounds,HT.M7]
  |some i =>
   simp only[sliceBounds,HT.M7,Option.getD_none,show (1:Int) > 0 by decide,if_true];by_cases h:i<0
   ·simp only[h,if_true]<;>omega
   ·simp only[h,if_false]<;>omega
def Nt (aa:List Value)(lo hi:Option Int):slicePick aa.toArray lo hi none=((aa.drop (HT.M7 aa.length 0 lo)).take (HT.M7 aa.length aa.length hi-HT.M7 aa.length 0 lo)).toArray:=by
 obtain⟨h1,h2,h3⟩:=OS lo hi aa.toArray.size;unfold slicePick;rw[h1,h2,h3];simp only[sliceRange_one,pick_run,zk]<;>rfl
def rJ (K:za):V->Option Int->Option Int->Hp->VK->Prop:=λ x lo hi H Q=>∃a xs,x=.ref a/\Dn K H a xs/\∀p,H p=none->Q (.ref p) (upd H p (.lst (WW xs lo hi)))
def Zd:tD X (rJ X.K):=by
 intro pins s σ H x v vl vu lo hi sl Q I rx hs pl pu h;obtain⟨a,xs,rfl,hx,q⟩:=h;cases rx;obtain⟨aa,r,ht,hz⟩:=I.list hx;have hlen:=r.length;refine⟨"list",_,slot_list_getitem.lookup,ht.isList.typeIs,?_⟩;refine wpAny_getItem_list_slice ht.isList hs pl pu .none (by simp) ?_ (by rw[zk]<;>omega);rw[Nt,<-hlen];refine⟨.ref s.heap.objs.size,_,I.laid (t':=s.toks) (o:=.lst (WW xs lo hi)) (λ b ob q=>zm _ q) (zw _) ?_,rfl,q _ (I.Ax.fresh (zw _))⟩;exact⟨zY (Qn xs lo hi) hz,_,0,(r.drop (HT.M7 xs.length 0 lo)).take (HT.M7 xs.length xs.length hi-HT.M7 xs.length 0 lo),zF _ rfl⟩
noncomputable def IY:V->Bool
 | .AD=>true
 | .bl _=>true
 | .int _=>true
 | .str _=>true
 |_=>false
noncomputable def fB:V->V->Bool
 | .AD,.AD=>true
 | .bl a,.bl b=>a==b
 | .bl a,.int b=>(if a then 1 else 0)==b
 | .int a,.bl b=>a==(if b then 1 else 0)
 | .int a,.int b=>a==b
 | .str a,.str b=>a==b
 |_,_=>false
def iO {A:Around}{s:Shared}{y x:V}{u v:Value}(ry:RelV y u)(rx:RelV x v)(fy:IY y=true)(fx:IY x=true):SeqAt.EqAt A s u v (fB y x):=by
 cases y with
 |AD =>
  cases ry;cases x with
  |AD=>cases rx;exact SeqAt.EqAt.same _
  |bl b=>cases rx;exact SeqAt.EqAt.none_bool b
  |int b=>obtain⟨t,rfl⟩:=rx;exact SeqAt.EqAt.none_int b t
  |str b=>obtain⟨t,rfl⟩:=rx;exact SeqAt.EqAt.none_str b t
  |_=>exact absurd (show false=true from fx) zL
 |bl a =>
  cases ry;cases x with
  |AD=>cases rx;exact SeqAt.EqAt.bool_none a
  |bl b=>cases rx;exact SeqAt.EqAt.bool_bool a b
  |int b=>obtain⟨t,rfl⟩:=rx;exact SeqAt.EqAt.bool_int a b t
  |str b=>obtain⟨t,rfl⟩:=rx;exact SeqAt.EqAt.bool_str a b t
  |_=>exact absurd (show false=true from fx) zL
 |int a =>
  obtain⟨t',rfl⟩:=ry;cases x with
  |AD=>cases rx;exact SeqAt.EqAt.int_none a t'
  |bl b=>cases rx;exact SeqAt.EqAt.int_bool a t' b
  |int b=>obtain⟨t,rfl⟩:=rx;exact SeqAt.EqAt.int_int a t' b t
  |str b=>obtain⟨t,rfl⟩:=rx;exact SeqAt.EqAt.int_str a t' b t
  |_=>exact absurd (show false=true from fx) zL
 |str a =>
  obtain⟨t',rfl⟩:=ry;cases x with
  |AD=>cases rx;exact SeqAt.EqAt.str_none a t'
  |bl b=>cases rx;exact SeqAt.EqAt.str_bool a t' b
  |int b=>obtain⟨t,rfl⟩:=rx;exact SeqAt.EqAt.str_int a t' b t
  |str b=>obtain⟨t,rfl⟩:=rx;exact SeqAt.EqAt.str_str a t' b t
  |_=>exact absurd (show false=true from fx) zL
 |_=>exact absurd (show false=true from fy) zL
noncomputable def Sg (x:V)(u:Value):Bool:=match u with
 | .none=>fB .AD x
 | .bool b=>fB (.bl b) x
 | .int i _=>fB (.int i) x
 | .str z _=>fB (.str z) x
 |_=>false
def X0 {x y:V}{u:Value}(r:RelV y u)(f:IY y=true):Sg x u=fB y x:=by
 cases y with
 |AD=>cases r;rfl
 |bl b=>cases r;rfl
 |int i=>obtain⟨t,rfl⟩:=r;rfl
 |str z=>obtain⟨t,rfl⟩:=r;rfl
 |_=>exact absurd (show false=true from f) zL
def IZ {x:V}:∀ {xs:List V}{us:List Value},Vals xs us->xs.all IY=true->us.any (Sg x)=xs.any λ y=>fB y x
 |_,_,.nil,_=>rfl
 |y::xs,u::us,.cons r t,f=>by
  rw[List.all_cons,zP] at f;rw[yV,yV,X0 r f.1,IZ t f.2]
def G7 {A:Around}{s:Shared}{x:V}{v:Value}(rx:RelV x v)(fx:IY x=true):∀ {xs:List V}{us:List Value},Vals xs us->xs.all IY=true->∀u∈us,SeqAt.EqAt A s u v (Sg x u)
 |_,_,.nil,_=>λ u hu=>by cases hu
 |y::xs,u::us,.cons r t,f=>λ u' hu=>by
  rw[List.all_cons,zP] at f;rcases zr.mp hu with rfl|hu
  ·rw[X0 r f.1];exact iO r rx f.1 fx
  ·exact G7 rx fx t f.2 u' hu
noncomputable def pR (x:V)(xs:List V):Bool:=xs.any λ y=>fB y x
noncomputable def pS (K:za)(neg:Bool):R2:=λ x y H Q=>∃p xs,y=.ref p/\(Dn K H p xs\/Er K H p xs)/\IY x=true/\xs.all IY=true/\Q (.bl (if neg then !pR x xs else pR x xs)) H
def V5:G5 X (compareOp .In) (pS X.K false):=by
 intro pins s σ H x y v u Q I rx ry h;obtain⟨p,xs,rfl,hq,fx,fs,q⟩:=h;cases ry;rcases hq with hq|hq
 ·obtain⟨aa,r,pl,hz⟩:=I.list hq;refine SeqAt.in_listAt (Sg x) pl.isList (λ w hw=>G7 rx fx r fs w (by simpa using hw)) ⟨.bl _,H,I,rfl,?_⟩;rw[show aa.toArray.any (Sg x)=aa.any (Sg x) by simp,IZ r fs];exact q
 ·obtain⟨aa,r,pl,hz⟩:=I.tuple hq;refine SeqAt.in_tupleAt (Sg x) pl (λ w hw=>G7 rx fx r fs w (by simpa using hw)) ⟨.bl _,H,I,rfl,?_⟩;rw[show aa.toArray.any (Sg x)=aa.any (Sg x) by simp,IZ r fs];exact q
def OU:G5 X (compareOp .NotIn) (pS X.K true):=by
 intro pins s σ H x y v u Q I rx ry h;obtain⟨p,xs,rfl,hq,fx,fs,q⟩:=h;cases ry;rcases hq with hq|hq
 ·obtain⟨aa,r,pl,hz⟩:=I.list hq;refine SeqAt.notIn_listAt (Sg x) pl.isList (λ w hw=>G7 rx fx r fs w (by simpa using hw)) ⟨.bl _,H,I,rfl,?_⟩;rw[show aa.toArray.any (Sg x)=aa.any (Sg x) by simp,IZ r fs];exact q
 ·obtain⟨aa,r,pl,hz⟩:=I.tuple hq;refine SeqAt.notIn_tupleAt (Sg x) pl (λ w hw=>G7 rx fx r fs w (by simpa using hw)) ⟨.bl _,H,I,rfl,?_⟩;rw[show aa.toArray.any (Sg x)=aa.any (Sg x) by simp,IZ r fs];exact q
def OV:FN X (.builtin "len") (λ xs H Q=>∃p ys,xs=[.ref p]/\(Dn X.K H p ys\/Er X.K H p ys)/\Q (.int ys.length) H):=by
 intro pins s σ H xs us Q I r h;obtain⟨p,ys,rfl,hq,q⟩:=h;obtain⟨u,rfl,rx⟩:=vals1 r;cases rx;have hn:=K8;rcases hq with hq|hq
 ·obtain⟨aa,r',pl,hz⟩:=I.list hq;have hlen:=r'.length;exact Calls.call_len_list pl.isList (by simp only[zk]<;>omega) ⟨.int ys.length,H,I.tok _,⟨s.toks+1,by rw[zk,hlen]⟩,q⟩
 ·obtain⟨aa,r',pl,hz⟩:=I.tuple hq;have hlen:=r'.length;exact len_tuple pl (by simp only[zk]<;>omega) ⟨.int ys.length,H,I.tok _,⟨s.toks+1,by rw[zk,hlen]⟩,q⟩
def OW:FN X (.type "list") (λ xs H Q=>∃p ys,xs=[.ref p]/\(Dn X.K H p ys\/Er X.K H p ys)/\∀l,H l=none->Q (.ref l) (upd H l (.lst ys))):=by
 intro pins s σ H xs us Q I r h;obtain⟨p,ys,rfl,hq,q⟩:=h;obtain⟨u,rfl,rx⟩:=vals1 r;cases rx;have fin:∀(aa:List Value),Vals ys aa->ys.length<=sizeLine->∀(h':Heap) (c':Nat),(∀b o',s.heap.get? b=some o'->h'.get? b=some o')->
  h'.get? s.heap.objs.size=some {cls:=.type "list",dict:=none,data:=.seq aa.toArray c',slots:=#[]}->EP X pins σ Q (.ref s.heap.objs.size) {s with heap:=h' }:=λ aa r' hz h' c' kp e =>
  ⟨.ref s.heap.objs.size,_,I.laid (t':=s.toks) kp (zw _) (show Bf X.prog X.w _ h' _ (.lst ys) from ⟨hz,aa,c',r',e⟩),rfl,q _ (I.Ax.fresh (zw _))⟩
 rcases hq with hq|hq
 ·obtain⟨aa,r',pl,hz⟩:=I.list hq;have hlen:=r'.length;obtain⟨o,ho,hc,n,hd⟩:=pl.isList;exact call_list_seq p (.inl rfl) ho hc hd (λ h' c' kp e=>fin aa r' hz h' c' kp e) (by simp only[zk]<;>omega)
 ·obtain⟨aa,r',pl,hz⟩:=I.tuple hq;have hlen:=r'.length;obtain⟨o,ho,hc,n,hd⟩:=pl;exact call_list_seq p (.inr rfl) ho hc hd (λ h' c' kp e=>fin aa r' hz h' c' kp e) (by simp only[zk]<;>omega)
def Nu:FN X (.type "tuple") (λ xs H Q=>∃p ys,xs=[.ref p]/\((Dn X.K H p ys/\∀l,H l=none->Q (.ref l) (upd H l (.tup ys)))\/(Er X.K H p ys/\Q (.ref p) H))):=by
 intro pins s σ H xs us Q I r h;obtain⟨p,ys,rfl,h⟩:=h;obtain⟨u,rfl,rx⟩:=vals1 r;cases rx;rcases h with ⟨hq,q⟩|⟨hq,q⟩
 ·obtain⟨aa,r',pl,hz⟩:=I.list hq;have hlen:=r'.length;refine call_tuple_list pl.isList (λ h' kp=>?_) (by simp only[zk]<;>omega);have I1:Inv X pins σ H {s with heap:=h' }:=I.kept (t':=s.toks) kp;have I2:Inv X pins σ (upd H h'.objs.size (.tup ys)) {s with heap:=h'.push {cls:=.type "tuple",data:=.seq aa.toArray} }:=
   I1.laid (t':=s.toks) (λ b o e=>zm _ e) (zw _) (show Bf X.prog X.w _ _ _ (.tup ys) from ⟨hz,aa,r',IsTup.new _ _⟩)
  exact⟨.ref h'.objs.size,_,I2,rfl,q _ (I1.Ax.fresh (zw _))⟩
 ·obtain⟨aa,r',pl,hz⟩:=I.tuple hq;exact call_tuple_same pl ⟨.ref p,H,I,rfl,q⟩
def rK (K:za)(T:String)(x:V)(H:Hp):Prop:=match x with
 | .str _=>T = "str"
 | .int _=>T = "int"
 | .ref p=>(T = "list" /\ ∃xs,Dn K H p xs)\/(T = "tuple" /\ ∃o,K.lookup p=some o/\o.cls=.type "tuple" /\ o.dict=none) \/
  (T = "dict" /\ ((∃kvs,H p=some (.dK kvs))\/∃kvs,H p=some (.dT kvs)))\/(T = "set" /\ ∃S n,H p=some (.set S n))
 |_=>False
def X1 {pins:List (Addr×Obj)}{σ:St}{H:Hp}{s:Shared}{T:String}{x:V}{v:Value}(I:Inv X pins σ H s)(r:RelV x v)(ty:rK X.K T x H):
 s.TypeIs v T/\∀a,v=.ref a->∃ob,s.heap.get? a=some ob/\ob.dict=none:=by
 cases x with
 |str z =>
  obtain⟨t,rfl⟩:=r;cases (show T = "str" from ty);exact⟨typeIs_str s z t,λ _ e=>nomatch e⟩
 |int i =>
  obtain⟨t,rfl⟩:=r;cases (show T = "int" from ty);exact⟨typeIs_int s i t,λ _ e=>nomatch e⟩
 |ref p =>
  cases r;rcases ty with ⟨rfl,xs,hq⟩|⟨rfl,o,hk,hc,hd⟩|⟨rfl,hk⟩|⟨rfl,S,n,hk⟩
  ·obtain⟨aa,_,pl,_⟩:=I.list hq;refine⟨pl.isList.typeIs,λ a e=>?_⟩;cases e;obtain⟨o,n,e,c,hd,_⟩:=pl;exact⟨o,e,hd⟩
  ·refine⟨⟨o,I.Nn p o hk,hc⟩,λ a e=>?_⟩;cases e;exact⟨o,I.Nn _ o hk,hd⟩
  ·have z:∃o,s.heap.get? p=some o/\o.ExactDict:=by
    rcases hk with ⟨kvs,hk⟩|⟨kvs,hk⟩
    ·obtain⟨_,_,_,_,o,_,_,e,ex,_⟩:=I.Ax p _ hk;exact⟨o,e,ex⟩
    ·obtain⟨_,_,_,_,o,_,_,e,ex,_⟩:=I.Ax p _ hk;exact⟨o,e,ex⟩
   obtain⟨o,e,ex⟩:=z;refine⟨⟨o,e,ex.1⟩,λ a e2=>?_⟩;cases e2;exact⟨o,e,ex.2.1⟩
  ·obtain⟨o,_,_,_,e,ex,_⟩:=I.Ax p _ hk;refine⟨⟨o,e,ex.1⟩,λ a e2=>?_⟩;cases e2;exact⟨o,e,ex.2.1⟩
 |_=>exact yH ty
noncomputable def rL (K:za)(T:String)(r:V->List V->Hp->VK->Prop)(to:TE):TE:=λ σ H Q=>to σ H λ x H1=>rK K T x H1/\r x [] H1 Q
noncomputable def uJ (K:za)(T:String)(r:V->List V->Hp->VK->Prop)(to:TE)(t:TA):TE:=λ σ H Q=>to σ H λ x H1=>rK K T x H1/\t σ H1 λ xs H2=>r x xs H2 Q
variable {o e:Expr}{es:List Expr}{to:TE}{t:TA}{name:Str}{apos ac:Pos}{T id:String}{r:V->List V->Hp->VK->Prop}
def iP (pa:PlainAttrs T)(slot:Slot T name id)(iw:typeOf (.builtin id)=pure (.type "method_descriptor"))(hm:pQ X id r)(ho:PE X o to)
 (ar:attributeBase o name X.env (eval o X.env)=eval o X.env:=by rfl) (au:(apos.endLine==ac.line)=true:=by rfl):PE X (.Call (.Attribute o name apos) [] [] ac) (rL X.K T r to):=by
 intro pins s σ H Q I h;refine wpAny_Call_method0_late ar au (Bh (ho pins s σ H _ I h) λ v s1 ⟨x,H1,I1,r1,ty,q1⟩=>?_);obtain⟨h1,h2⟩:=X1 I1 r1 ty;exact⟨T,id,pa,slot,iw,h1,h2,Calls.callWith_builtin rfl (PySem.evalArgs_none (hm pins s1 σ H1 x [] v [] Q I1 r1 .nil q1))⟩
def NY (pa:PlainAttrs T)(slot:Slot T name id)(iw:typeOf (.builtin id)=pure (.type "method_descriptor"))(hm:pQ X id r)(ho:PE X o to)(ha:PA X (e::es) t)
 (ar:attributeBase o name X.env (eval o X.env)=eval o X.env:=by rfl)
 (aB:((backTo ac (starEach (e::es) X.env)).all (λ x => !x.1)&&(backToKw ac (keywordEach [] X.env)).all (λ x=>x.1.isSome)
  && decide ((e::es).length+([]:List Keyword).length+(if ([]:List Keyword).isEmpty then 0 else 1)<30))=true:=by rfl)
 (au:(apos.endLine==ac.line)=true:=by rfl) (hs:starEach (e::es) X.env=(false,eval e X.env)::starEach es X.env:=by rfl) (ap:(backTo ac (starEach es X.env)).any (·.1)=false:=by rfl):
 PE X (.Call (.Attribute o name apos) (e::es) [] ac) (uJ X.K T r to t):=by
 intro pins s σ H Q I h;refine wpAny_Call_method_late ar aB au rfl (Bh (ho pins s σ H _ I h) λ v s1 ⟨x,H1,I1,r1,ty,q1⟩=>?_);obtain⟨h1,h2⟩:=X1 I1 r1 ty;refine⟨T,id,pa,slot,iw,h1,h2,?_⟩;have hA:=ha ac pins s1 σ H1 _ I1 q1;rw[hs] at hA ⊢;refine Calls.callWith_builtin (by show (false||(backTo ac (starEach es X.env)).any (·.1))=false;rw[ap]<;>rfl) (Calls.evalArgs_plain ?_);exact Bh hA λ us s2 ⟨vs,H2,I2,r2,q2⟩=>hm pins s2 σ H2 x vs v us Q I2 r1 r2 q2
end
def pT (X:Cx)(id:String)(r:V->List V->Hp->VK->Prop):Prop:=
 ∀(pins:List (Addr×Obj)) (s:Shared) (σ:St) (H:Hp) (x:V) (xs:List V) (v:Value) (us:List Value) (Q:VK),Inv X pins σ H s->RelV x v->Vals xs us->r x xs H Q->
  wpAny (model X.prog X.w) X.A (call (.builtin id) (v::us)) (EP X pins σ Q) X.xe s
def Vals.one:∀ {x:V}{us:List Value},Vals [x] us->∃u,us=[u]/\RelV x u
 |_,_,.cons r .nil=>⟨_,rfl,r⟩
def Vals.two:∀ {x y:V}{us:List Value},Vals [x,y] us->∃u v,us=[u,v]/\RelV x u/\RelV y v
 |_,_,_,.cons r (.cons q .nil)=>⟨_,_,rfl,r,q⟩
def Vals.zero:∀ {us:List Value},Vals [] us->us=[]
 |_,.nil=>rfl
def Vals.dropLast {xs:List V}{us:List Value}(h:Vals xs us):Vals xs.dropLast us.dropLast:=by
 induction h with
 |nil=>exact .nil
 |cons r t ih =>
  cases t with
  |nil=>exact .nil
  |cons q t'=>exact .cons r ih
def Vals.eraseIdx:∀ {xs:List V}{us:List Value}(i:Nat),Vals xs us->Vals (xs.eraseIdx i) (us.eraseIdx i)
 |_,_,_,.nil=>.nil
 |_,_,0,.cons _ t=>t
 |_,_,i+1,.cons r t=>.cons r (Vals.eraseIdx i t)
def Vals.rep {xs:List V}{us:List Value}(h:Vals xs us):∀k:Nat,Vals (zy k xs).flatten (zy k us).flatten
 |0=>.nil
 |k+1=>by
  rw[yr,yr,List.flatten_cons,List.flatten_cons];exact Vals.append h (Vals.rep h k)
def foldl_rep (aa:List Value):∀(k:Nat) (acc:List Value),
 List.foldl (λ x1 x2=>x1++x2) acc.toArray (zy k aa.toArray)=(acc++(zy k aa).flatten).toArray
 |0,acc=>by simp
 |k+1,acc=>by
  have e:acc.toArray++aa.toArray=(acc++aa).toArray:=by simp
  have e2:(acc++aa)++(zy k aa).flatten=acc++(zy (k+1) aa).flatten:=by
   rw[yr,List.flatten_cons,y7]
  rw[<-e2,<-foldl_rep aa k (acc++aa),<-e,yr,zN]
section
variable {X:Cx}{pins:List (Addr×Obj)}{σ:St}{H:Hp}{s:Shared}{l b:Addr}{xs ys zs:List V}
def Inv.Ze {aa its':List Value}{n:Nat}{f:Array Value->Array Value}{t':Nat}(I:Inv X pins σ H s)(hH:H l=some (.lst xs))
 (e:s.heap.get? l=some {cls:=.type "list",data:=.seq aa.toArray n}) (hf:f aa.toArray=its'.toArray) (hv:Vals ys its') (hz:ys.length<=sizeLine):
 Inv X pins σ (upd H l (.lst ys)) {s with heap:=s.heap.update l (yL f),toks:=t' }:=by
 have q:=PySem.IsL.update e f;rw[hf] at q;refine I.write (x:=l) (e:=l) (by rw[hH];exact trivial) (.inl rfl) (λ b' u hb hu=>(yN s.heap (yL f) (yb hb)).trans hu) ⟨_,q⟩ ?_;exact⟨hz,its',_,hv,q⟩
def Inv.mY {aa:List Value}{t':Nat}(I:Inv X pins σ H s)(hv:Vals ys aa)(hz:ys.length<=sizeLine):
 Inv X pins σ (upd H s.heap.objs.size (.lst ys)) {s with heap:=s.heap.push {cls:=.type "list",data:=.seq aa.toArray},toks:=t' }:=
 I.laid (λ _ _ q=>zm _ q) (zw _) ⟨hz,aa,0,hv,zF _ rfl⟩
def Inv.fresh (I:Inv X pins σ H s):H s.heap.objs.size=none:=I.Ax.fresh (zw _)
def Inv.V6 (I:Inv X pins σ H s)(hH:H l=some (.lst xs)):xs.length<=sizeLine/\∃(aa:List Value) (n:Nat),Vals xs aa/\xs.length=aa.length/\s.heap.get? l=some {cls:=.type "list",data:=.seq aa.toArray n}:=by
 obtain⟨z,aa,n,r,e⟩:=I.Ax l _ hH;exact⟨z,aa,n,r,r.length,e⟩
def Qo {n:Nat}(h:n<=sizeLine):yU n=false:=by
 unfold yU;exact decide_eq_false (by omega)
end
section
variable {X:Cx}
def Zf:V->List V->Hp->VK->Prop:=λ x vs H Q=>∃l xs y,x=.ref l/\vs=[y]/\H l=some (.lst xs)/\xs.length<sizeLine/\Q .AD (upd H l (.lst (xs++[y])))
def NZ:pT X "list.append" Zf:=by
 intro pins s σ H x vs v us Q I rx rv h;obtain⟨l,xs,y,rfl,rfl,hH,hz,q⟩:=h;cases rx;obtain⟨u,rfl,ru⟩:=rv.one;obtain⟨z,aa,n,r,hl,e⟩:=I.V6 hH;refine call_meets F.slot_list_append ⟨_,e,rfl⟩ F.entry_list_append (F.args_list_append_2 _ _) (PySem.list_append l aa.toArray n u (by rw[zk];omega)) ⟨e,?_⟩;refine⟨.AD,_,I.Ze (its':=aa++[u]) hH e (by simp) (r.append (.cons ru .nil)) ?_,rfl,q⟩;rw[zK,yC];omega
def Zg:V->List V->Hp->VK->Prop:=λ x vs H Q=>∃l b xs zs,x=.ref l/\vs=[.ref b]/\H l=some (.lst xs)/\H b=some (.lst zs)/\xs.length+zs.length<=sizeLine/\Q .AD (upd H l (.lst (xs++zs)))
def V7:pT X "list.extend" Zg:=by
 intro pins s σ H x vs v us Q I rx rv h;obtain⟨l,b,xs,zs,rfl,rfl,hH,hB,hz,q⟩:=h;cases rx;obtain⟨u,rfl,ru⟩:=rv.one;cases ru;obtain⟨z,aa,n,r,hl,e⟩:=I.V6 hH;obtain⟨z2,aT,n2,r2,aM,e2⟩:=I.V6 hB;have hsz:aa.toArray.size+aT.toArray.size<=sizeLine:=by rw[zk,zk];omega
 have bR:¬ (!aa.toArray.isEmpty&&yU (aa.toArray.size+aT.toArray.size))=true:=by
  rw[Qo hsz,Bool.and_false];exact zL
 refine call_meets F.slot_list_extend ⟨_,e,rfl⟩ F.entry_list_extend (F.args_list_extend_2 _ _)
  (AutoSeq1.list_extend_list_list_0 l aa.toArray n b aT.toArray n2 bR (by rw[zk];omega) (by omega)) ⟨e,e2,?_⟩
 refine⟨.AD,_,I.Ze (its':=aa++aT) hH e (by simp) (r.append r2) ?_,rfl,q⟩;rw[zK];omega
noncomputable def rM:R2:=λ x y H Q=>∃l k xs,x=.ref l/\y=.int k/\H l=some (.lst xs)/\-(2^63)<=k/\k<2^63/\xs.length*k.toNat<=sizeLine/\
 ∀p,H p=none->Q (.ref p) (upd H p (.lst (zy k.toNat xs).flatten))
def len_rep {α:Type}(xs:List α)(k:Nat):(zy k xs).flatten.length=k*xs.length:=by
 induction k with
 |zero=>simp
 |succ k ih=>rw[yr,List.flatten_cons,zK,ih,Nat.succ_mul,Nat.add_comm]
def iQ:G5 X (binaryOp .Mult) rM:=by
 intro pins s σ H x y v u Q I rx ry h;obtain⟨l,k,xs,rfl,rfl,hH,h1,h2,hz,q⟩:=h;cases rx;obtain⟨t,rfl⟩:=ry;obtain⟨z,aa,n,r,hl,e⟩:=I.V6 hH;have hlen:aa.toArray.size*k.toNat<=sizeLine:=by rw[zk,<-hl];exact hz
 have mf:¬ aa.toArray.size*k.toNat > (2^63-1) / 8:=by
  have:(sizeLine:Nat)<=(2^63-1) / 8:=by decide
  omega
 have ef:¬ (!Builtin.List.listFitsIndex k)=true:=by
  rw[fitsIndex_both h1 h2];exact zL
 have bR:¬ yU (aa.toArray.size*k.toNat)=true:=by
  rw[Qo hlen];exact zL
 have aU:List.foldl (λ x1 x2=>x1++x2) #[] (zy (if aa.toArray.isEmpty=true then 0 else k.toNat) aa.toArray)=(zy k.toNat aa).flatten.toArray:=by
  have f0:∀m:Nat,List.foldl (λ x1 x2=>x1++x2) #[] (zy m aa.toArray)=(zy m aa).flatten.toArray:=λ m=>by
   have:=foldl_rep aa m [];rw[List.nil_append] at this;exact this
  rw[f0];cases aa with
  |nil=>simp
  |cons a r'=>rw[if_neg (by simp)]
 refine wpAny_binaryOp_repeat_ref (T := "list") (U := "int") (by decide) ⟨_,e,rfl⟩ (λ s'=>typeIs_int s' k t) noFill_list_mul F.fills_int_mul F.slot_int_rmul repeat_list F.slot_int_index.lookup
  (call_meets F.slot_int_rmul (typeIs_int s k t) F.entry_int_rmul (F.args_int_rmul_2 _ _) (int___rmul___int_list k t l aa.toArray n)
   ⟨e,rfl,⟨_,e,rfl⟩,call_meets F.slot_list_mul ⟨_,e,rfl⟩ F.entry_list_mul (F.args_list_mul_2 _ _) (AutoListH.list___mul___list_int_3 l aa.toArray n k t ef mf bR) ⟨e,?_⟩⟩)
 rw[aU];exact⟨.ref _,_,I.mY (t':=s.toks) (r.rep k.toNat) (by rw[len_rep,Nat.mul_comm];exact hz),rfl,q _ I.fresh⟩
end
end L2
namespace tj
open PySem PySem.W PySem.Calls PyProof.Rows
def Lb {P:Params}{h:Heap}:∀(ns:List Int) (vs:List Value),WellAll P h vs (ns.map WData.int)->IntsAre vs ns:=by
 intro ns;induction ns with
 |nil =>
  intro vs w;rw[List.map_nil] at w;cases w;exact .nil
 |cons n ns ih =>
  intro vs w;rw[zg] at w;cases w with
  |cons a b =>
   cases a;exact .cons _ _ (ih _ b)
def V8 {l:OpenLaw}{n:Nat}(hn:l.most=some n){P:Params}{h:Heap}{args:List WData}{vals:List Value}
 (c6:l.row.toRowW.claim.pre args=true) (mh:WellAll P h vals args):
 ∃a vs ns,vals=[zZ a]/\args=[WData.list (ns.map WData.int)]/\h.get? a=some {cls:=.type "list",data:=.seq vs.toArray}/\IntsAre vs ns/\ns.length<=n:=by
 have uK:WShape.hasAll [] args [.list .int]=true:=(pre_splitW c6).1;have hc:l.pre.holds [] {args:=args}=true:=(pre_splitW c6).2;obtain⟨d,r,rfl,h1,h2⟩:=hasAllW_cons uK;obtain rfl:=hasAllW_nil h2;obtain⟨xs,rfl,h3⟩:=hasW_list h1;obtain⟨ns,rfl⟩:=items_int h3;have hlen:ns.length<=n:=by
  unfold OpenLaw.pre at hc;have h4:(WTm.not (.lt (.lit (.int (n:Int))) (.len (.arg 0)))).holds [] {args:=[.list (ns.map .int)]}=true:=by
   have h4:=(holds_andW hc).1;rw[hn] at h4;exact h4
  have h5:=condW_of h4 (w_not (w_lt w_lit (w_len_list (w_arg rfl))));rw[ze] at h5;refine Nat.le_of_not_lt λ q=>?_;have q':(n:Int)<((ns.length:Nat):Int):=by omega
  first
   |(rw[decide_eq_true q'] at h5;exact absurd h5 (by decide))
   |(simp at h5;omega)
 cases mh with
 |cons w1 w2 =>
  cases w2;cases w1 with
  |list ho bw=>exact⟨_,_,ns,rfl,rfl,ho,Lb ns _ bw,hlen⟩
def V9 (l:OpenLaw)(args:List WData):l.row.toRowW.claim.post args (.bool true) args=true:=
 postW_of (r:=l.row.toRowW) (X:=(true==true))
  (show WShape.has [] (.bool true) .bool=true by first|rfl|decide|simp[WShape.has,WShape.arms,WShape.armsAll])
  (show (WTm.eq .res (.lit (.bool true))).value [] {args:=args,res:=some (.bool true),after:=args}=some (.bool (true==true)) from w_eq_bool (w_res rfl) w_lit) rfl
end tj
namespace L2
open PySem PySem.Spec PyProof.Rows
def O0:∀ {vs:List Value}{ns:List Int},IntsAre vs ns->Vals (ns.map V.int) vs
 |_,_,.nil=>.nil
 |_,_,.cons n t h=>.cons ⟨t,rfl⟩ (O0 h)
def Zh (H:Hp):Prop:=∀b,H b=none\/∃o xs,H b=some (.EW o (.lst xs))
def Qp {P:Program}{w:World}{K:za}{mg mb:Str->Option Value}{CX:TJ}{k:Nat}{fa a:Addr}{fd:FuncData}{x:Str}{sp:Sp}{s₁:Shared}{vs:List Value}{ns:List Int}
 (KX:K.In s₁.heap) (c7:s₁.heap.Ns mainGlobals mg) (hb:s₁.heap.Ns builtinsNs mb) (uL:∀x:Str,x ≠ "__name__" -> mb x=bootBuiltins x) (mi:s₁.heap.NoLimit) (hg:s₁.gens=#[])
 (ha:s₁.heap.get? a=some {cls:=.type "list",data:=.seq vs.toArray}) (hi:IntsAre vs ns) (hl:ns.length<=sizeLine) (hr:BD k callerA)
 (F:∀base:Heap,K.In base->base.Ns mainGlobals mg->Df P w K mg base CX k fa fd [x] sp) (ix:∀(s:Shared) (u:Value),BindsTo s fd ⟨[u],[]⟩ [(x,u)])
 (bI:∀H:Hp,Zh H->Dn K H a (ns.map V.int)->sp [.ref a] H (λ v _=>v=.bl true) λ _ _ _=>False)
 (iy:∀H e s',CX [] H s₁ (λ _ _ _=>False) e s'->False):
 codeAny (model P w) callerA (.call (.ref fa) ⟨[.ref a],[]⟩) (λ r s'=>r=.ok (.ret (.bool true))/\OldK s₁.heap s'.heap/\s'.os=s₁.os/\AllBare s'.gens) s₁:=by
 have rv:=O0 hi;have ml:=hi.length;have core:∀H:Hp,Zh H->Dn K H a (ns.map V.int)->F7 P w H s₁.heap->(∀b,H b≠none->b=a)->(H a≠none->K.lookup a=none)->
  codeAny (model P w) callerA (.call (.ref fa) ⟨[.ref a],[]⟩) (λ r s'=>r=.ok (.ret (.bool true))/\OldK s₁.heap s'.heap/\s'.os=s₁.os/\AllBare s'.gens) s₁:=by
  intro H hO hS Ax hA hK;have bA:∀ {b:Addr} {o:Obj},s₁.heap.get? b=some o->H b=none->(OM s₁.heap H).get? b=some o:=λ e n=>Wv e n;have im:∀ {b:Addr} {o:Obj} {es:Array DictEntry} {ep:Nat},s₁.heap.get? b=some o->o.data=.dict es ep->H b=none:=fun {b o es ep} e d=>by
   cases q:H b with
   |none=>rfl
   |some u =>
    have e':b=a:=hA b (by rw[q];simp);subst e';rw[ha] at e;cases e;have d':Data.seq vs.toArray _=Data.dict es ep:=d;cases d'
  have ka:∀ {b:Addr} {m:Str->Option Value},s₁.heap.Ns b m->(OM s₁.heap H).Ns b m:=fun {b m} ⟨o,es,ep,e,d,r⟩=>⟨o,es,ep,bA e (im e d),d,r⟩;have tq:K.In (OM s₁.heap H):=λ b o e=>bA (KX b o e) (by
   cases q:H b with
   |none=>rfl
   |some u =>
    have e':b=a:=hA b (by rw[q];simp);subst e';rw[hK (by rw[q];simp)] at e;cases e)
  have hM:Mod K mg (OM s₁.heap H):=⟨tq,ka c7,⟨mb,ka hb,uL⟩,let ⟨mc,h1,h2⟩:=mi;⟨mc,ka h1,h2⟩⟩;have e0:Sd P w K mg (OM s₁.heap H) callerA [] s₁ H:=⟨rfl,hM,λ b o e=>YS e,Nat.le_of_eq (UW _ _),trivial,λ b hb=>absurd (show b∈([]:List Addr) from hb) (by simp),Ax,.of_eq hg⟩;refine codeAny_mono ((F _ tq (ka c7)).run callerA [] s₁ H ⟨[.ref a],[]⟩ [.ref a] [.ref a] _ _ hr e0 (ix s₁ (.ref a)) (.cons rfl .nil) (bI H hO hS)) λ r s' h=>?_;cases r with
  |error e=>exact (iy H e s' h).elim
  |ok fl =>
   cases fl with
   |next=>exact yH h
   |brk=>exact yH h
   |cont=>exact yH h
   |ret u =>
    obtain⟨v,H',os,bare,un,eh,r',q⟩:=h;have q':v=.bl true:=q;subst q';obtain rfl:u=Value.bool true:=r';refine⟨rfl,OldK.of_keep λ b o e=>?_,os,bare⟩;cases q:H b with
    |none=>exact un.keep b o e q (by intro z;exact absurd (show b∈([]:List Addr) from z) (by simp)) (by simp)
    |some u =>
     rcases hO b with z|⟨ob,xs,z⟩
     ·rw[q] at z;cases z
     ·have z2:=un.K7 b ob _ z;obtain⟨e1,_⟩:=Ax b _ z;obtain⟨e2,_⟩:=eh b _ z2;rw[e] at e1;cases e1;exact e2
 cases hk:K.lookup a with
 |some o =>
  have e:=KX a o hk;rw[ha] at e;cases e;refine core (λ _=>none) (λ _=>.inl rfl) (.inr ⟨_,vs.toArray,_,hk,rfl,rfl,rfl,by rw[zk,ml];exact hl,by simpa using rv⟩) (λ b u z=>by have z':(none:Option HO)=some u:=z;cases z') (λ b z=>absurd rfl z) λ z=>absurd rfl z
 |none =>
  refine core (λ b=>if b=a then some (.EW {cls:=.type "list",data:=.seq vs.toArray} (.lst (ns.map V.int))) else none) (λ b=>?_) (.inl (.inr ⟨{cls:=.type "list",data:=.seq vs.toArray},if_pos rfl⟩)) (λ b u z=>?_) (λ b z=>?_) λ _=>hk
  ·by_cases hb:b=a
   ·exact .inr ⟨_,_,if_pos hb⟩
   ·exact .inl (if_neg hb)
  ·by_cases hb:b=a
   ·have z':=(if_pos hb).symm.trans z;cases z';subst hb;exact⟨ha,by rw[ze];exact hl,vs,_,rv,ha⟩
   ·have z':=(if_neg hb).symm.trans z;cases z'
  ·by_cases hb:b=a
   ·exact hb
   ·exact absurd (if_neg hb) z
noncomputable abbrev Zi:TJ:=λ _ _ _ _ _ _=>False
noncomputable abbrev E0:XK:=λ _ _ _=>False
structure Wo (K:za)(x qual:Str)(st:Stmt)(f:Addr)(fd:FuncData):Prop where
 ex:∃(oc:Value) (od:Option Addr) (kV doc pm:Value) (an:Option Addr) (B4 ct:Value) (Qc:Array (Option Value)),
  fd=zR x qual (AS st) (Az st) (A3 st) .none kV doc pm an B4 ct/\K.lookup f=some ⟨oc,od,.func fd,Qc⟩/\yc K B4 qual=true
 kp:zO K (.ref f)=true
section
variable {P:Program}{w:World}{K:za}{mg:Str->Option Value}{base:Heap}
def Wo.ok {x qual:Str}{st:Stmt}{f:Addr}{fd:FuncData}{N ps:List Str}{k:Nat}{sp:Sp}(F:Wo K x qual st f fd)(S:Ah N ps (A3 st))(len:∀vs H Q E,sp vs H Q E->vs.length=ps.length)
 (bQ:∀(B4:Value) (A:Around) (outer:List Env) (s:Shared) (H:Hp) (vs:List V) (Q:VK) (E:XK),BD k (A.deeper (envOfC qual (A3 st) s.heap.objs.size f B4))->sp vs H Q E->
  ∃t,TC (La Zi P w K mg base N qual (A3 st) f B4 A outer s H E).mC (Az st) t/\t {nx:=λ _ H'=>Q .AD H',rt:=Q} (start N vs) H):Df P w K mg base Zi (k+1) f fd ps sp:=by
 obtain⟨oc,od,kV,doc,pm,an,B4,ct,Qc,rfl,lk,bh⟩:=F.ex;refine TM lk bh S len λ A outer s H vs Q E hr bI=>?_;obtain⟨t,h,q⟩:=bQ B4 A outer s H vs Q E hr bI;exact⟨t,h.mC,q⟩
def Wo.binds {x qual:Str}{st:Stmt}{f:Addr}{fd:FuncData}{ps:List Str}(F:Wo K x qual st f fd)
 (h:∀(kV doc pm:Value) (an:Option Addr) (B4 ct:Value) (us:List Value),us.length=ps.length->bindArgs (zR x qual (AS st) (Az st) (A3 st) .none kV doc pm an B4 ct) ⟨us,[]⟩=pure (ps.zip us)):Binds K fd ps []:=by
 obtain⟨oc,od,kV,doc,pm,an,B4,ct,Qc,rfl,lk,bh⟩:=F.ex;exact .all (h kV doc pm an B4 ct)
def Sh {x qual:Str}{st:Stmt}{f:Addr}{oc:Value}{od an:Option Addr}{Qc:Array (Option Value)}{kV doc pm B4 ct:Value}(l:K.lookup f=some ⟨oc,od,.func (zR x qual (AS st) (Az st) (A3 st) .none kV doc pm an B4 ct),Qc⟩)
 (c:yc K B4 qual=true) (k:zO K (.ref f)=true):Wo K x qual st f (zR x qual (AS st) (Az st) (A3 st) .none kV doc pm an B4 ct):=⟨⟨oc,od,kV,doc,pm,an,B4,ct,Qc,rfl,l,c⟩,k⟩
end
def AG {n:Nat}(h:n<=1000):n<sizeLine:=Nat.lt_of_le_of_lt h (by decide)
section
variable {X:Cx}
def pv (i:Nat){x:Str}{pos:Pos}(hN:X.N[i]?=some x:=by rfl)(hv:qM X.env.scope x:=by first | exact zV rfl | exact Or.inr (zV rfl) | exact Or.inr (Or.inr rfl))(hd:(x==("__debug__" : Str))=false:=by decide)
 (bh:(x==("__classdict__" : Str))=false:=by decide):PE X (.Name x pos) (Qh i):=gE hN hv hd bh
end
def Ae (H H':Hp):Prop:=∀b o,H b=some o->H' b=some o
def Ae.refl (H:Hp):Ae H H:=λ _ _ h=>h
def Ae.trans {H H1 H2:Hp}(a:Ae H H1)(b:Ae H1 H2):Ae H H2:=λ c o h=>b c o (a c o h)
def Ae.seq {K:za}{H H':Hp}{a:Addr}{xs:List V}(e:Ae H H')(h:Dn K H a xs):Dn K H' a xs:=by
 rcases h with (h|⟨o,h⟩)|h
 ·exact .inl (.inl (e _ _ h))
 ·exact .inl (.inr ⟨o,e _ _ h⟩)
 ·exact .inr h
section
variable {κ:Type} [DecidableEq κ]
noncomputable def Nv (kvs:List (κ×V))(k:κ):Option V:=(kvs.find? λ kv=>decide (kv.1=k)).map (·.2)
noncomputable def putK (kvs:List (κ×V))(k:κ)(v:V):List (κ×V):=
 if (kvs.any λ kv=>decide (kv.1=k))=true then kvs.map (λ kv=>if kv.1=k then (kv.1,v) else kv) else kvs++[(k,v)]
def M8 {p:κ×V}{r:List (κ×V)}{k:κ}(e:p.1=k):Nv (p::r) k=some p.2:=by simp[Nv,yQ,e]
def M9 {p:κ×V}{r:List (κ×V)}{k:κ}(e:¬ p.1=k):Nv (p::r) k=Nv r k:=by simp[Nv,yQ,e]
def Qq (k:κ):∀kvs:List (κ×V),(kvs.any λ kv=>decide (kv.1=k))=(Nv kvs k).isSome
 |[]=>rfl
 |p::r=>by
  rw[yV];by_cases e:p.1=k
  ·simp only[M8 e,decide_eq_true e,Bool.true_or,Option.isSome_some]
  ·rw[M9 e,decide_eq_false e,Bool.false_or];exact Qq k r
def Es (kvs:List (κ×V))(k:κ)(v:V):(putK kvs k v).length<=kvs.length+1:=by
 unfold putK;split
 ·rw[ze];omega
 ·rw[zK,zp,List.length_nil];omega
def G0.EZ {o:Option V}{u:Option Value}(r:G0 o u):o.isSome=u.isSome:=by
 cases o with
 |none=>cases u with
  |none=>rfl
  |some _=>exact (show False from r).elim
 |some _=>cases u with
  |none=>exact (show False from r).elim
  |some _=>rfl
def G0.getD {o:Option V}{u:Option Value}{d:V}{d':Value}(r:G0 o u)(rd:RelV d d'):RelV (o.getD d) (u.getD d'):=by
 cases o with
 |none=>cases u with
  |none=>exact rd
  |some _=>exact (show False from r).elim
 |some _=>cases u with
  |none=>exact (show False from r).elim
  |some _=>exact r
def KV.val {kvs:List (κ×V)}{vs:List (κ×Value)}(r:KV kvs vs)(k:κ):G0 (Nv kvs k) (valueAt vs k):=by
 unfold KV at r;induction r with
 |nil=>exact yI
 | @cons p q ps qs h t ih =>
  obtain⟨h1,h2⟩:=h;by_cases e:p.1=k
  ·have e':q.1=k:=h1.symm.trans e;have b:valueAt (q::qs) k=some q.2:=by simp[valueAt,yQ,e']
   rw[M8 e,b];exact h2
  ·have e':¬ q.1=k:=λ z=>e (h1.trans z);have b:valueAt (q::qs) k=valueAt qs k:=by simp[valueAt,yQ,e']
   rw[M9 e,b];exact ih
def KV.any {kvs:List (κ×V)}{vs:List (κ×Value)}(r:KV kvs vs)(k:κ):(kvs.any λ kv=>decide (kv.1=k))=vs.any λ kv=>decide (kv.1=k):=by
 unfold KV at r;induction r with
 |nil=>rfl
 |cons h t ih=>rw[yV,yV,ih,h.1]
def KV.iR {kvs:List (κ×V)}{vs:List (κ×Value)}(r:KV kvs vs)(k:κ){y:V}{u:Value}(ry:RelV y u):
 KV (kvs.map λ kv=>if kv.1=k then (kv.1,y) else kv) (vs.map λ kv=>if kv.1=k then (kv.1,u) else kv):=by
 unfold KV at r ⊢;induction r with
 |nil=>exact .nil
 | @cons p q ps qs h t ih =>
  rw[zg,zg];refine .cons ?_ ih;obtain⟨h1,h2⟩:=h;by_cases e:p.1=k
  ·rw[if_pos e,if_pos (h1.symm.trans e)];exact⟨h1,ry⟩
  ·rw[if_neg e,if_neg (λ z=>e (h1.trans z))];exact⟨h1,h2⟩
def KV.put {kvs:List (κ×V)}{vs:List (κ×Value)}(r:KV kvs vs)(k:κ){y:V}{u:Value}(ry:RelV y u):KV (putK kvs k y) (stored vs k u):=by
 unfold putK stored;rw[r.any k];by_cases e:(vs.any λ kv=>decide (kv.1=k))=true
 ·rw[if_pos e,if_pos e];exact r.iR k ry
 ·rw[if_neg e,if_neg e];exact Paired.snoc r ⟨rfl,ry⟩
def KV.length {kvs:List (κ×V)}{vs:List (κ×Value)}(r:KV kvs vs):kvs.length=vs.length:=Paired.length r
end
def Ma {P:Program}{w:World}{k:Key}{u:Value}(r:RelV (kV k) u):(AM P w).is k u=true:=by
 cases k with
 |inl i=>obtain⟨t,e⟩:=(show ∃t,u=Value.int i t from r);subst e;exact Qd P w i t
 |inr x=>obtain⟨t,e⟩:=(show ∃t,u=Value.str x t from r);subst e;exact Qe P w x t
def O1 {P:Program}{w:World}:∀ {ks:List Key}{us:List Value},Vals (ks.map kV) us->ItemsAre (AM P w) ks us
 |[],_,r=>by rw[List.map_nil] at r;cases r;exact .nil
 |k::ks,_,r=>by
  rw[zg] at r;cases r with
  |cons h t=>exact .cons (Ma h) (O1 t)
noncomputable abbrev KT (H:Hp):List (List Key×V)->List (List Key×Addr×Value)->Prop:=Paired λ p q=>p.1=q.1/\H q.2.1=some (.tup (p.1.map kV))/\RelV p.2 q.2.2
def KT.val {H:Hp}{kvs:List (List Key×V)}{xs:List (List Key×Addr×Value)}(r:KT H kvs xs)(k:List Key):G0 (Nv kvs k) ((atKey xs k).map (·.2)):=by
 induction r with
 |nil=>exact yI
 | @cons p q ps qs h t ih =>
  obtain⟨h1,_,h2⟩:=h;by_cases e:p.1=k
  ·have e':q.1=k:=h1.symm.trans e;have b:atKey (q::qs) k=some q.2:=by simp[atKey,yQ,e']
   rw[M8 e,b];exact h2
  ·have e':¬ q.1=k:=λ z=>e (h1.trans z);have b:atKey (q::qs) k=atKey qs k:=by simp[atKey,yQ,e']
   rw[M9 e,b];exact ih
def KT.iR {H:Hp}{kvs:List (List Key×V)}{xs:List (List Key×Addr×Value)}(r:KT H kvs xs)(k:List Key){y:V}{u:Value}(ry:RelV y u):
 KT H (kvs.map λ kv=>if kv.1=k then (kv.1,y) else kv) (xs.map (putAt k u)):=by
 induction r with
 |nil=>exact .nil
 | @cons p q ps qs h t ih =>
  rw[zg,zg];refine .cons ?_ ih;obtain⟨h1,h2,h3⟩:=h;unfold putAt;by_cases e:p.1=k
  ·rw[if_pos e,if_pos (h1.symm.trans e)];exact⟨h1,h2,ry⟩
  ·rw[if_neg e,if_neg (λ z=>e (h1.trans z))];exact⟨h1,h2,h3⟩
def KT.put {H:Hp}{kvs:List (List Key×V)}{xs:List (List Key×Addr×Value)}(r:KT H kvs xs)(k:List Key){b:Addr}{y:V}{u:Value}(hb:H b=some (.tup (k.map kV)))(ry:RelV y u):
 KT H (putK kvs k y) (storedH xs k b u):=by
 have e:(kvs.any λ kv=>decide (kv.1=k))=(atKey xs k).isSome:=by
  rw[Qq,(r.val k).EZ,Option.isSome_map]
 unfold putK storedH;rw[e];by_cases q:(atKey xs k).isSome=true
 ·rw[if_pos q,if_pos q];exact r.iR k ry
 ·rw[if_neg q,if_neg q];exact Paired.snoc r ⟨rfl,hb,ry⟩
def KT.keeps {H H':Hp}{kvs:List (List Key×V)}{xs:List (List Key×Addr×Value)}(r:KT H kvs xs)(ht:∀b ys,H b=some (.tup ys)->H' b=some (.tup ys)):KT H' kvs xs:=
 Paired.gB r λ _ _ z=>⟨z.1,ht _ _ z.2.1,z.2.2⟩
section
variable {P:Program}{w:World}{H:Hp}{h:Heap}{a:Addr}
def fC {u:HO}(ok:F7 P w H h)(e:Rd H a u):Bf P w H h a u:=e.ok ok
def KO {kvs:List (Key×V)}(ok:F7 P w H h)(e:Rd H a (.dK kvs)):kvs.length<=sizeLine/\(a==sysModules)=false/\∃vs,KV kvs vs/\h.DictOf (AM P w) a vs:=
 show Bf P w H h a (.dK kvs) from fC ok e
def X2 {kvs:List (Key×V)}(ok:F7 P w H h)(e:H a=some (.dK kvs)):kvs.length<=sizeLine/\(a==sysModules)=false/\∃vs,KV kvs vs/\h.DictOf (AM P w) a vs:=KO ok (.inl e)
def Ig {ks:List Key}(ok:F7 P w H h)(e:H a=some (.tup (ks.map kV))):(tupleKind (AM P w)).is h ks a:=by
 obtain⟨_,aa,r,o,h1,h2,n,h3⟩:=(show Bf P w H h a (.tup (ks.map kV)) from ok a _ e);exact⟨o,aa.toArray,n,h1,h2,h3,by simpa using O1 r⟩
def Mb {kvs:List (List Key×V)}(ok:F7 P w H h)(e:Rd H a (.dT kvs)):kvs.length<=sizeLine/\(a==sysModules)=false/\
 ∃xs,KT H kvs xs/\h.DictOfH (tupleKind (AM P w)) a xs:=by
 obtain⟨z,y,xs,r,o,es,ep,h1,h2,h3,h4,h5⟩:=(show Bf P w H h a (.dT kvs) from fC ok e);refine⟨z,y,xs,r,o,es,ep,h1,h2,h3,h4,λ x hx=>?_,h5⟩;have all:∀ {l:List (List Key×V)} {m:List (List Key×Addr×Value)},KT H l m->∀x∈m,(tupleKind (AM P w)).is h x.1 x.2.1:=by
  intro l m q;induction q with
  |nil=>intro x hx;exact nomatch hx
  | @cons p q ps qs hq t ih =>
   intro x hx;rcases zr.mp hx with e|hx
   ·subst e;exact Ig ok (by rw[<-hq.1];exact hq.2.1)
   ·exact ih x hx
 exact all r x hx
def mZ {kvs:List (List Key×V)}(ok:F7 P w H h)(e:H a=some (.dT kvs)):kvs.length<=sizeLine/\(a==sysModules)=false/\
 ∃xs,KT H kvs xs/\h.DictOfH (tupleKind (AM P w)) a xs:=Mb ok (.inl e)
end
def OX (H:Hp)(a:Addr)(y:V)(r:Option V):Prop:=
 (∃kvs k,Rd H a (.dK kvs)/\y=kV k/\r=Nv kvs k)\/∃kvs k b,Rd H a (.dT kvs)/\y=.ref b/\H b=some (.tup (k.map kV))/\r=Nv kvs k
def nA (H:Hp)(a:Addr)(y v:V)(H':Hp):Prop:=
 (∃kvs k,H a=some (.dK kvs)/\y=kV k/\kvs.length<sizeLine/\H'=upd H a (.dK (putK kvs k v))) \/
 ∃kvs k b,H a=some (.dT kvs)/\y=.ref b/\H b=some (.tup (k.map kV))/\kvs.length<sizeLine/\H'=upd H a (.dT (putK kvs k v))
section
variable {X:Cx}{pins:List (Addr×Obj)}{σ:St}{H:Hp}{s:Shared}{a:Addr}{y v:V}{u r:Value}{o:Option V}{A:Around}{E:Value->Shared->Prop}
def Inv.big (I:Inv X pins σ H s):sysModules<s.heap.objs.size:=by
 have h:mainGlobals<s.heap.objs.size:=(I.mod.glob.keeps I.bk).lt;exact Nat.lt_trans (by decide) h
def Va {Q:Value->Shared->Prop}(hu:A.units+1<cLine)(I:Inv X pins σ H s)(g:OX H a y (some v))(ry:RelV y u)(h:∀w' s',Inv X pins σ H s'->RelV v w'->Q w' s'):
 wpAny (model X.prog X.w) A (getItem (.ref a) u) Q E s:=by
 rcases g with ⟨kvs,k,e,ey,l⟩|⟨kvs,k,b,e,ey,eb,l⟩
 ·subst ey;obtain⟨z,hd,vs,rel,dd⟩:=KO I.Ax e;obtain⟨w',hw,bi⟩:=G0.some_of (v:=v) (o:=valueAt vs k) (by rw[l];exact rel.val k);exact wpAny_getItem_of (Ma ry) dd.mapOf hw (h w' _ (I.tok _) bi)
 ·subst ey;cases (show u=zZ b from ry);obtain⟨z,hd,xs,rel,dd⟩:=Mb I.Ax e;obtain⟨w',hw,bi⟩:=G0.some_of (v:=v) (o:=(atKey xs k).map (·.2)) (by rw[l];exact rel.val k);obtain⟨p,hp,uM⟩:=Option.map_eq_some_iff.mp hw;refine wpAny_getItem_heap (tupleKind_room_in1 hu) (Ig I.Ax eb) dd hp ?_;rw[uM];exact h w' _ (I.tok _) bi
def rN {Q:Value->Shared->Prop}(hu:A.units+1<cLine)(I:Inv X pins σ H s)(g:OX H a y o)(ry:RelV y u)(h:∀s',Inv X pins σ H s'->Q (.bool o.isSome) s'):
 wpAny (model X.prog X.w) A (compareOp .In u (.ref a)) Q E s:=by
 rcases g with ⟨kvs,k,e,ey,l⟩|⟨kvs,k,b,e,ey,eb,l⟩
 ·subst ey;obtain⟨z,hd,vs,rel,dd⟩:=KO I.Ax e;refine wpAny_in_of (Ma ry) hd dd.mapOf ?_;rw[<-(rel.val k).EZ,<-l];exact h _ (I.tok _)
 ·subst ey;cases (show u=zZ b from ry);obtain⟨z,hd,xs,rel,dd⟩:=Mb I.Ax e;refine wpAny_in_heap (tupleKind_room_in1 hu) (Ig I.Ax eb) hd dd ?_;have q:=(rel.val k).EZ;rw[Option.isSome_map] at q;rw[<-q,<-l];exact h _ (I.tok _)
def Zj {Q:Value->Shared->Prop}(hu:A.units+1<cLine)(I:Inv X pins σ H s)(g:OX H a y o)(ry:RelV y u)(h:∀s',Inv X pins σ H s'->Q (.bool (!o.isSome)) s'):
 wpAny (model X.prog X.w) A (compareOp .NotIn u (.ref a)) Q E s:=by
 rcases g with ⟨kvs,k,e,ey,l⟩|⟨kvs,k,b,e,ey,eb,l⟩
 ·subst ey;obtain⟨z,hd,vs,rel,dd⟩:=KO I.Ax e;refine wpAny_notIn_of (Ma ry) hd dd.mapOf ?_;rw[<-(rel.val k).EZ,<-l];exact h _ (I.tok _)
 ·subst ey;cases (show u=zZ b from ry);obtain⟨z,hd,xs,rel,dd⟩:=Mb I.Ax e;refine wpAny_notIn_heap (tupleKind_room_in1 hu) (Ig I.Ax eb) hd dd ?_;have q:=(rel.val k).EZ;rw[Option.isSome_map] at q;rw[<-q,<-l];exact h _ (I.tok _)
def Lo {h':Heap}{t':Nat}{ob:HO}(I:Inv X pins σ H s)(mu:lU (H a))(hs:yS a s.heap h')(he:∃q,h'.get? a=some q)(new:Bf X.prog X.w (upd H a ob) h' a ob):
 Inv X pins σ (upd H a ob) {s with heap:=h',toks:=t' }:=
 I.write (x:=a) (e:=a) mu (.inl rfl) (λ b q hb z=>(hs.2 b hb).trans z) he new
def Si {P:Program}{w:World}{H':Hp}{h':Heap}{kvs:List (Key×V)}{vs:List (Key×Value)}(z:kvs.length<=sizeLine)(hd:(a==sysModules)=false)(rel:KV kvs vs)(dd:h'.DictOf (AM P w) a vs):
 Bf P w H' h' a (.dK kvs):=⟨z,hd,vs,rel,dd⟩
def Vb {H':Hp}{Q:Unit->Shared->Prop}(hu:A.units+1<cLine)(I:Inv X pins σ H s)(g:nA H a y v H')(ry:RelV y u)(rv:RelV v r)(h:∀s',Inv X pins σ H' s'->Q () s'):
 wpAny (model X.prog X.w) A (setItem (.ref a) u r) Q E s:=by
 rcases g with ⟨kvs,k,e,ey,l,eH⟩|⟨kvs,k,b,e,ey,eb,l,eH⟩
 ·subst ey eH;obtain⟨z,hd,vs,rel,dd⟩:=X2 I.Ax e;have hz:vs.length<=sizeLine:=by rw[<-rel.length];exact z
  have hl:(putK kvs k v).length<=sizeLine:=by have:=Es kvs k v;omega
  refine wpAny_setItem_pairs (hsz:=hz) (Ma ry) dd λ h' cn hs=>h _ ?_;have he:∃q,h'.get? a=some q:=let ⟨q,_,_,hq,_⟩:=cn;⟨q,hq⟩;exact Lo I (by rw[e];exact yI) hs he (Si hl hd (rel.put k rv) cn)
 ·subst ey eH;cases (show u=zZ b from ry);obtain⟨z,hd,xs,rel,dd⟩:=mZ I.Ax e;have hz:xs.length<=sizeLine:=by rw[<-Paired.length rel];exact z
  have hl:(putK kvs k v).length<=sizeLine:=by have:=Es kvs k v;omega
  refine wpAny_setItem_heap (hsz:=hz) (tupleKind_room_in1 hu) (Ig I.Ax eb) dd λ h' cn hs=>h _ ?_;obtain⟨q,es,ep,hq,h2,h3,h4,_,h5⟩:=cn;refine Lo I (by rw[e];exact yI) hs ⟨q,hq⟩ ⟨hl,hd,_,(rel.put k eb rv).keeps λ c ys ec=>?_,q,es,ep,hq,h2,h3,h4,h5⟩;rw[Ab (lT ec e (λ z=>nomatch z))];exact ec
end
section
variable {X:Cx}{pins:List (Addr×Obj)}{σ:St}{H:Hp}{s:Shared}{a:Addr}{kvs:List (Key×V)}{k:Key}{u:Value}{A:Around}{E:Value->Shared->Prop}
def Zk {Q:Value->Shared->Prop}(I:Inv X pins σ H s)(e:H a=some (.dK kvs))(h:∀s',Inv X pins σ (upd H a (.dK [])) s'->Q .none s'):wpAny (model X.prog X.w) A (call (.builtin "dict.clear") [.ref a]) Q E s:=by
 obtain⟨z,hd,vs,rel,dd⟩:=X2 I.Ax e;refine call_meetsIn PySem.F.slot_dict_clear dd.typeIs PySem.F.entry_dict_clear (PySem.F.args_dict_clear_1 _) (meets_dict_clear (AM X.prog X.w) a) ⟨vs,dd,by rw[<-rel.length];exact z,λ h' cn hs=>h _ ?_⟩;have he:∃q,h'.get? a=some q:=let ⟨q,_,_,hq,_⟩:=cn;⟨q,hq⟩;exact Lo (t':=s.toks) I (by rw[e];exact yI) hs he (Si (zS _) hd .nil cn)
def nB {Q:Value->Shared->Prop}(I:Inv X pins σ H s)(e:Rd H a (.dK kvs))(h:∀t s',Inv X pins σ H s'->Q (.int kvs.length t) s'):wpAny (model X.prog X.w) A (call (.builtin "len") [.ref a]) Q E s:=by
 obtain⟨z,hd,vs,rel,dd⟩:=KO I.Ax e;refine call_len_dict hd dd (by rw[<-rel.length];rw[sizeLine_eq] at z;omega) ?_;rw[<-rel.length];exact h _ _ (I.tok _)
end
def Qr {X:Cx}{pins:List (Addr×Obj)}{σ:St}{H:Hp}{s:Shared}{a:Addr}{y:V}{o:Option V}(I:Inv X pins σ H s)(g:OX H a y o):s.TypeIs (.ref a) "dict" := by
 rcases g with ⟨kvs,k,e,_,_⟩|⟨kvs,k,b,e,_,_,_⟩
 ·obtain⟨_,_,vs,_,dd⟩:=KO I.Ax e;exact dd.typeIs
 ·obtain⟨_,_,xs,_,dd⟩:=Mb I.Ax e;exact dd.typeIs
noncomputable def nE (td ty tv:TE):TS:=λ D σ H=>tv σ H λ v H1=>td σ H1 λ x H2=>ty σ H2 λ y H3=>∃a H4,x=.ref a/\nA H3 a y v H4/\D.nx σ H4
section
variable {X:Cx}{o i e value:Expr}{pos pos' bu:Pos}{td ty tv:TE}
def Zl (hu:X.A.units+1<cLine)(ho:PE X o td)(hi:PE X i ty)(hv:PE X value tv)(hs:swapsWith value (some (.Subscript o i pos')) pos.line X.env=pure false):
 PS X (.Assign [.Subscript o i pos'] value pos) (nE td ty tv):=by
 intro pins s σ H D I h;refine wpAny_Assign_Subscript (Bh (hv pins s σ H _ I h) λ r s1 ⟨v,H1,I1,rv,q1⟩=>Bh (ho pins s1 σ H1 _ I1 q1) λ u s2 ⟨x,H2,I2,rx,q2⟩=>Bh (hi pins s2 σ H2 _ I2 q2) λ iv s3 ⟨y,H3,I3,ry,a,H4,ex,g,q3⟩=>?_) hs;subst ex;obtain rfl:u=zZ a:=rx;exact Vb hu I3 g ry rv λ s4 I4=>⟨σ,H4,I4,q3⟩
end
def Qs {P:Program}{w:World}{H:Hp}(h:Heap)(hb:sysModules<h.objs.size):Bf P w H (h.push {cls:=.type "dict",data:=.dict #[]}) h.objs.size (.dK []):=
 ⟨zS _,beq_eq_false_iff_ne.mpr (yb (zD hb)),[],.nil,Heap.DictOf.new h⟩
def X3 {P:Program}{w:World}{H:Hp}(h:Heap)(hb:sysModules<h.objs.size):Bf P w H (h.push {cls:=.type "dict",data:=.dict #[]}) h.objs.size (.dT []):=
 ⟨zS _,beq_eq_false_iff_ne.mpr (yb (zD hb)),[],.nil,_,#[],0,zF _ rfl,⟨rfl,rfl,rfl⟩,rfl,rfl,yu⟩
noncomputable def iS:TE:=λ _ H Q=>∀p,H p=none->Q (.ref p) (upd H p (.dK []))
noncomputable def iT:TE:=λ _ H Q=>∀p,H p=none->Q (.ref p) (upd H p (.dT []))
section
variable {X:Cx}{pos:Pos}
def X4:PE X (.Dict [] [] pos) iS:=λ pins s σ H Q I h =>
 wpAny_Dict_empty ⟨.ref s.heap.objs.size,_,I.laid (a:=s.heap.objs.size) (o:=.dK []) (t':=s.toks) (λ _ _ q=>zm _ q) (zw _) (Qs s.heap I.big),rfl,h _ (I.Ax.fresh (zw _))⟩
def X5:PE X (.Dict [] [] pos) iT:=λ pins s σ H Q I h =>
 wpAny_Dict_empty ⟨.ref s.heap.objs.size,_,I.laid (a:=s.heap.objs.size) (o:=.dT []) (t':=s.toks) (λ _ _ q=>zm _ q) (zw _) (X3 s.heap I.big),rfl,h _ (I.Ax.fresh (zw _))⟩
end
def Sj:List (TE×TE)->St->Hp->(List (V×V)->Hp->Prop)->Prop
 |[],_,H,Q=>Q [] H
 |(tk,tv)::r,σ,H,Q=>tk σ H λ x H1=>tv σ H1 λ y H2=>Sj r σ H2 λ ps H3=>Q ((x,y)::ps) H3
noncomputable abbrev VV:List (V×V)->List (Value×Value)->Prop:=Paired λ p q=>RelV p.1 q.1/\RelV p.2 q.2
def pU (X:Cx)(pos:Pos)(keys:List (Option Expr))(values:List Expr)(c8:List (TE×TE)):Prop:=
 ∀(pins:List (Addr×Obj)) (s:Shared) (σ:St) (H:Hp) (Q:List (V×V)->Hp->Prop),Inv X pins σ H s->Sj c8 σ H Q->
  wpAny (model X.prog X.w) X.A (evalPairs (pairTrees keys values X.env pos)) (λ vs s'=>∃ps H',Inv X pins σ H' s'/\VV ps vs/\Q ps H') X.xe s
def Zm {X:Cx}{pos:Pos}:pU X pos [] [] []:=λ pins s σ H Q I h=>pairTrees_nil_walk ⟨[],H,I,.nil,h⟩
def X6 {X:Cx}{pos:Pos}{k v:Expr}{ks:List (Option Expr)}{vs:List Expr}{tk tv:TE}{c8:List (TE×TE)}(hk:PE X k tk)(hv:PE X v tv)(hr:pU X pos ks vs c8):
 pU X pos (some k::ks) (v::vs) ((tk,tv)::c8):=λ pins s σ H Q I h =>
 pairTrees_cons_walk (Bh (hk pins s σ H _ I h) λ u s1 ⟨x,H1,I1,rx,q1⟩=>Bh (hv pins s1 σ H1 _ I1 q1) λ w2 s2 ⟨y,H2,I2,ry,q2⟩ =>
  Bh (hr pins s2 σ H2 _ I2 q2) λ ws s3 ⟨ps,H3,I3,rel,q3⟩=>⟨(x,y)::ps,H3,I3,.cons ⟨rx,ry⟩ rel,q3⟩)
noncomputable def G8 (kvs more:List (Key×V)):List (Key×V):=more.foldl (λ acc kv=>putK acc kv.1 kv.2) kvs
def KV.merge:∀ {more:List (Key×V)}{rs:List (Key×Value)}{kvs:List (Key×V)}{vs:List (Key×Value)},KV more rs->KV kvs vs->KV (G8 kvs more) (merged vs rs):=by
 intro more rs kvs vs r;unfold KV at r;induction r generalizing kvs vs with
 |nil=>intro q;exact q
 | @cons p q ps qs h t ih =>
  intro r0;have e:KV (putK kvs p.1 p.2) (stored vs q.1 q.2):=by
   have:=r0.put p.1 h.2;rw[<-h.1];exact this
  exact ih e
def HS:∀(more kvs:List (Key×V)),(G8 kvs more).length<=kvs.length+more.length
 |[],kvs=>by show kvs.length<=kvs.length+0;omega
 |p::r,kvs=>by
  have h1:=HS r (putK kvs p.1 p.2);have h2:=Es kvs p.1 p.2;show (G8 (putK kvs p.1 p.2) r).length<=_;rw[zp];omega
def Mc {P:Program}{w:World}:∀ {kvs:List (Key×V)}{ws:List (Value×Value)},VV (kvs.map λ kv=>(kV kv.1,kv.2)) ws->∃rs,Carries (AM P w) ws rs/\KV kvs rs
 |[],_,r=>by rw[List.map_nil] at r;cases r;exact⟨[],yI,.nil⟩
 |p::kvs,_,r=>by
  rw[zg] at r;cases r with
  | @cons a b as bs h t =>
   obtain⟨rs,c,q⟩:=Mc (P:=P) (w:=w) t;obtain⟨b1,b2⟩:=b;exact⟨(p.1,b2)::rs,⟨Ma h.1,rfl,c⟩,.cons ⟨rfl,h.2⟩ q⟩
noncomputable def nF (c8:List (TE×TE)):TE:=λ σ H Q=>∀p,H p=none->Sj c8 σ (upd H p (.dK [])) λ ps H2=>H2 p=some (.dK [])/\∃kvs:List (Key×V),ps=kvs.map (λ kv=>(kV kv.1,kv.2))/\kvs.length<=15/\Q (.ref p) (upd H2 p (.dK (G8 [] kvs)))
def Zn {X:Cx}{pos:Pos}{keys:List (Option Expr)}{values:List Expr}{c8:List (TE×TE)}(h:pU X pos keys values c8)(bw:keys.all (·.isSome)=true)(hl:keys.length=values.length)(h0:keys≠[])
 (uN:keys.length<=15):PE X (.Dict keys values pos) (nF c8):=by
 intro pins s σ H Q I q;have hn:=I.Ax.fresh (zw s.heap.objs.size);have I1:=I.laid (a:=s.heap.objs.size) (o:=.dK []) (h':=s.heap.push {cls:=.type "dict",data:=.dict #[]}) (t':=s.toks) (λ _ _ q=>zm _ q) (zw _) (Qs s.heap I.big);refine wpAny_Dict_walk (knd:=AM X.prog X.w) bw hl h0 uN (Bh (h pins _ σ _ _ I1 (q _ hn)) λ ws s2 ⟨ps,H2,I2,rel,e,kvs,ep,lk,q2⟩=>?_);subst ep;obtain⟨rs,c,rk⟩:=Mc (P:=X.prog) (w:=X.w) rel;obtain⟨z,hd,tu,r0,dd⟩:=X2 I2.Ax e;cases r0;refine⟨rs,c,dd,λ h' cn hs=>⟨.ref s.heap.objs.size,_,?_,rfl,q2⟩⟩;have hz:(G8 [] kvs).length<=sizeLine:=by
  have h1:=HS kvs [];rw[List.length_nil] at h1;rw[sizeLine_eq];omega
 have he:∃q,h'.get? s.heap.objs.size=some q:=let ⟨q,_,_,hq,_⟩:=cn;⟨q,hq⟩;exact Lo I2 (by rw[e];exact yI) hs he (Si hz hd (rk.merge .nil) cn)
structure M1 (X:Cx)(o:Expr)(m:Str)(apos:Pos)(e:Expr)(ac:Pos):Prop where
 base:attributeBase o m X.env (eval o X.env)=eval o X.env
 uO:((backTo ac (starEach [e] X.env)).all (λ x => !x.1)&&(backToKw ac (keywordEach [] X.env)).all (λ x=>x.1.isSome)
  && decide (([e]:List Expr).length+([]:List Keyword).length+(if ([]:List Keyword).isEmpty then 0 else 1)<30))=true
 line:(apos.endLine==ac.line)=true
 nG:backTo ac (starEach [e] X.env)=[(false,eval e X.env)]
def rO (H:Hp)(a:Addr):Prop:=(∃kvs,Rd H a (.dK kvs))\/∃kvs,Rd H a (.dT kvs)
def Sk {X:Cx}{pins:List (Addr×Obj)}{σ:St}{H:Hp}{s:Shared}{a:Addr}(I:Inv X pins σ H s)(d:rO H a):
 s.TypeIs (.ref a) "dict" /\ (∀b,zZ a=.ref b->∃ob,s.heap.get? b=some ob/\ob.dict=none)/\(a==sysModules)=false:=by
 rcases d with ⟨kvs,e⟩|⟨kvs,e⟩
 ·obtain⟨_,hd,vs,_,dd⟩:=KO I.Ax e;refine⟨dd.typeIs,λ b q=>?_,hd⟩;cases q;obtain⟨ob,_,_,h1,h2,_⟩:=dd;exact⟨ob,h1,h2.2.1⟩
 ·obtain⟨_,hd,xs,_,dd⟩:=Mb I.Ax e;refine⟨dd.typeIs,λ b q=>?_,hd⟩;cases q;obtain⟨ob,_,_,h1,h2,_⟩:=dd;exact⟨ob,h1,h2.2.1⟩
section
variable {X:Cx}{pins:List (Addr×Obj)}{σ:St}{H:Hp}{s:Shared}{a:Addr}{y d:V}{u r:Value}{o:Option V}{A:Around}{E:Value->Shared->Prop}
def iU {Q:Value->Shared->Prop}(hu:A.units+1<cLine)(I:Inv X pins σ H s)(g:OX H a y o)(ry:RelV y u)(h:∀w' s',Inv X pins σ H s'->RelV (o.getD .AD) w'->Q w' s'):
 wpAny (model X.prog X.w) A (call (.builtin "dict.get") [.ref a,u]) Q E s:=by
 rcases g with ⟨kvs,k,e,ey,l⟩|⟨kvs,k,b,e,ey,eb,l⟩
 ·subst ey;obtain⟨z,hd,vs,rel,dd⟩:=KO I.Ax e;refine call_meetsIn PySem.F.slot_dict_get dd.typeIs PySem.F.entry_dict_get (PySem.F.args_dict_get_2 _ _) (meets_dict_get (AM X.prog X.w) a (Ma ry) hd) ⟨_,dd.mapOf,h _ _ (I.tok _) ?_⟩;rw[l];exact (rel.val k).getD rfl
 ·subst ey;cases (show u=zZ b from ry);obtain⟨z,hd,xs,rel,dd⟩:=Mb I.Ax e;refine call_meetsIn PySem.F.slot_dict_get dd.typeIs PySem.F.entry_dict_get (PySem.F.args_dict_get_2 _ _) (meetsH_dict_get (tupleKind (AM X.prog X.w)) a b hd) ⟨tupleKind_room_in1 hu,k,xs,Ig I.Ax eb,dd,h _ _ (I.tok _) ?_⟩;rw[l];exact (rel.val k).getD rfl
end
noncomputable def iV (td ty:TE):TE:=λ σ H Q=>td σ H λ x H1=>∃a,x=.ref a/\rO H1 a/\ty σ H1 λ y H2=>∃o,OX H2 a y o/\Q (o.getD .AD) H2
section
variable {X:Cx}{o e f:Expr}{apos ac:Pos}{td ty tx:TE}
def X7 (hu:X.A.units+1<cLine)(ho:PE X o td)(he:PE X e ty)(m:M1 X o "get" apos e ac):PE X (.Call (.Attribute o "get" apos) [e] [] ac) (iV td ty):=by
 intro pins s σ H Q I h;refine wpAny_Call_method m.base m.uO m.line PySem.F.plainAttrs_dict PySem.F.slot_dict_get PySem.F.type_dict_get (Bh (ho pins s σ H _ I h) λ u s1 ⟨x,H1,I1,rx,a,ex,d,q1⟩=>?_);subst ex;obtain rfl:u=zZ a:=rx;obtain⟨t1,t2,_⟩:=Sk I1 d;refine⟨t1,t2,?_⟩;rw[m.nG];refine Calls.callWith_builtin rfl (Calls.evalArgs_plain (yO (Bh (he pins s1 σ H1 _ I1 q1) λ iv s2 ⟨y,H2,I2,ry,ov,g,q2⟩=>yT ?_)));exact iU hu I2 g ry λ w' s3 I3 bi=>⟨_,H2,I3,bi,q2⟩
end
noncomputable def Ka (sc outer:Scope):Bool:=
 decide (sc.kind=.function)&&sc.names.all λ y=>decide (y.2≠.cell)&&(decide (y.2≠.free)||decide (outer.names.lookup y.1=some .cell)||decide (outer.names.lookup y.1=some .free))&&(decide (y.2≠.local)||decide (sc.names.lookup y.1=some .local))
noncomputable def Qt (N NB:List Str)(sc:Scope)(μ:List (Option Nat)):Bool:=
 decide (NB.length=μ.length)&&(NB.zip μ).all λ p=>match p.2 with
  |none=>true
  |some i=>decide (N[i]?=some p.1)&&decide (sc.names.lookup p.1=some .free)
noncomputable def EB (μ:List (Option Nat))(σ:St):St:=μ.map λ o=>o.bind λ i=>(σ[i]?).join
noncomputable def HM (cells:List (Str×Addr)):List (Str×NameKind)->List (Str×Addr)->List (Str×Addr)
 |[],cs=>cs
 |(n,k)::r,cs=>HM cells r (if (k==.free)=true then (n,(cells.lookup n).getD 0)::cs else cs)
def HU {scope:Scope}{env:Env}(h:∀y∈scope.names,y.2=.free->∃c,env.cells.lookup y.1=some c):closureFor scope env=pure (HM env.cells scope.names []):=by
 unfold closureFor;have key:∀(names:List (Str×NameKind)) (cs:List (Str×Addr)),(∀y∈names,y.2=.free->∃c,env.cells.lookup y.1=some c)->
  (forIn names cs λ(x:Str×NameKind) r=>match x with
   |(name,kind)=>if (kind==yP)=true then do
    let __do_lift <-cellOf env name
    pure (xm ((name,__do_lift)::r))
    else pure (xm r):Sem _)=pure (HM env.cells names cs):=by
  intro names;induction names with
  |nil=>intro cs _;rfl
  |cons y r ih =>
   intro cs hy;obtain⟨n,k⟩:=y;rw[List.forIn_cons];by_cases hk:k=.free
   ·subst hk;obtain⟨c,hc⟩:=hy (n,.free) zc rfl;have e:cellOf env n=pure c:=by unfold cellOf;rw[show env.cells.lookup n=some c from hc]
    simp only[e,beq_self_eq_true,if_true,pure_bind];rw[ih _ λ z hz=>hy z (zf _ hz)];simp only[HM,beq_self_eq_true,if_true];rw[show env.cells.lookup n=some c from hc];rfl
   ·have hb:(k==yP)=false:=by simpa using hk
    simp only[hb,zB,if_false,pure_bind];rw[ih _ λ z hz=>hy z (zf _ hz)];simp only[HM,hb,zB,if_false]
 have q:=key scope.names [] h;simp only[bind_pure];exact q
def Qu {cells:List (Str×Addr)}:∀ {names:List (Str×NameKind)}{cs:List (Str×Addr)}{x:Str}{c:Addr},(x,c)∈HM cells names cs->(x,c)∈cs\/((x,.free)∈names/\c=(cells.lookup x).getD 0)
 |[],cs,x,c,h=>.inl h
 |(n,k)::r,cs,x,c,h=>by
  rcases Qu (names:=r) h with q|⟨q,e⟩
  ·by_cases hk:k=.free
   ·subst hk;simp only[beq_self_eq_true,if_true] at q;rcases zr.mp q with z|z
    ·cases z;exact .inr ⟨zc,rfl⟩
    ·exact .inl z
   ·have hb:(k==yP)=false:=by simpa using hk
    simp only[hb,zB,if_false] at q;exact .inl q
  ·exact .inr ⟨zf _ q,e⟩
def Md {cells:List (Str×Addr)}:∀ {names:List (Str×NameKind)}{cs:List (Str×Addr)}{p:Str×Addr},p∈cs->p∈HM cells names cs
 |[],_,_,h=>h
 |(n,k)::r,cs,p,h=>by
  show p∈HM cells r _;refine Md ?_;by_cases hk:(k==yP)=true
  ·rw[if_pos hk];exact zf _ h
  ·rw[if_neg hk];exact h
def Me {cells:List (Str×Addr)}:∀ {names:List (Str×NameKind)}{cs:List (Str×Addr)}{x:Str},(x,.free)∈names->∃c,(x,c)∈HM cells names cs
 |(n,k)::r,cs,x,h=>by
  rcases zr.mp h with z|z
  ·cases z;refine⟨(cells.lookup n).getD 0,?_⟩;show _∈HM cells r (if (yP==yP)=true then _ else _);exact Md (by rw[if_pos (beq_self_eq_true _)];exact zc)
  ·exact Me (names:=r) z
def EC {x:Str}{c:Addr}:∀ {l:List (Str×Addr)},(x,c)∈l->∃c',l.lookup x=some c'
 |(y,d)::r,h=>by
  rw[yM];by_cases e:(x==y)=true
  ·rw[e];exact⟨d,rfl⟩
  ·rw[Bool.eq_false_iff.mpr e];rcases zr.mp h with z|z
   ·cases z;exact absurd (beq_self_eq_true x) e
   ·exact EC z
def J0 {scope:Scope}{env:Env}{x:Str}{k:NameKind}(h:(relabel scope env).names.lookup x=some k):∃k',scope.names.lookup x=some k'/\(k=k'\/(k'=.free/\k=.cell)):=by
 unfold relabel at h;dsimp only at h;revert h;induction scope.names with
 |nil=>intro h;cases h
 |cons y r ih =>
  obtain⟨n,k'⟩:=y;intro h;rw[zg,yM] at h;rw[yM];by_cases hc:(k'==yP&&env.scope.kind==.function&&env.kindOf n==some .cell)=true
  ·dsimp only at h;rw[if_pos hc] at h;dsimp only at h;cases e:x==n with
   |true =>
    rw[e] at h;have hf:k'=.free:=by
     have:=hc;simp only[zP] at this;simpa using this.1.1
    exact⟨k',rfl,.inr ⟨hf,(zE h).symm⟩⟩
   |false=>rw[e] at h;exact ih h
  ·dsimp only at h;rw[if_neg hc] at h;dsimp only at h;cases e:x==n with
   |true=>rw[e] at h;exact⟨k',rfl,.inl (zE h).symm⟩
   |false=>rw[e] at h;exact ih h
def lookup_mem {α:Type}{x:Str}{k:α}:∀ {l:List (Str×α)},l.lookup x=some k->(x,k)∈l
 |(y,d)::r,h=>by
  rw[yM] at h;cases e:x==y with
  |true =>
   rw[e] at h;cases h;have:x=y:=by simpa using e
   subst this;exact zc
  |false=>rw[e] at h;exact zf _ (lookup_mem h)
noncomputable def blockOf (X:Cx)(s:Shared)(H:Hp)(scope:Scope)(C:Addr)(NB:List Str)(ex:List Addr):Cx:=
 {X with N:=NB,s₀:=s,H₀:=H,env:=compEnvC scope (HM X.env.cells scope.names []) C X.env,outer:=X.stack,stack:=X.stack,ex:=ex,fn:=λ _=>false,pn:=[],xe:=λ _ _=>False}
section
variable {X:Cx}{pins:List (Addr×Obj)}{σ:St}{H:Hp}{s s4:Shared}{scope:Scope}{NB:List Str}{μ:List (Option Nat)}{fp:List Addr}{C:Addr}
def Hf (h:Ka scope X.env.scope=true):scope.kind=.function:=by
 unfold Ka at h;simp only[zP,decide_eq_true_eq] at h;exact h.1
def Hg {sc outer:Scope}(h:Ka sc outer=true){y:Str×NameKind}(hy:y∈sc.names):y.2≠.cell/\(y.2=.free->outer.names.lookup y.1=some .cell\/outer.names.lookup y.1=some .free)/\(y.2=.local->sc.names.lookup y.1=some .local):=by
 unfold Ka at h;simp only[zP,decide_eq_true_eq,List.all_eq_true,Bool.or_eq_true] at h;obtain⟨⟨h1,h2⟩,h3⟩:=h.2 y hy;exact⟨h1,λ e=>by
  rcases h2 with (q|q)|q
  ·exact absurd e q
  ·exact .inl q
  ·exact .inr q,λ e=>h3.elim (λ q=>absurd e q) id⟩
def Ih (I:Inv X pins σ H s)(h:Ka scope X.env.scope=true){x:Str}(hx:(x,.free)∈scope.names):∃c,X.env.cells.lookup x=some c:=I.ok.has x ((Hg h hx).2.1 rfl)
def DK (I:Inv X pins σ H s)(h:Ka scope X.env.scope=true){x:Str}{c:Addr}(e:(HM X.env.cells scope.names []).lookup x=some c):X.env.cells.lookup x=some c:=by
 rcases Qu (lookup_mem e) with q|⟨q,r⟩
 ·cases q
 ·obtain⟨c',e'⟩:=Ih I h q;rw[e'] at r;rw[e',r];rfl
def Mf {env:Env}(h:Ka scope env.scope=true){x:Str}{k:NameKind}(hk:(relabel scope env).names.lookup x=some k)(hc:k=.cell\/k=.free):(x,.free)∈scope.names:=by
 obtain⟨k',e,q⟩:=J0 hk;have m:=lookup_mem e;have n:=(Hg h m).1;rcases q with q|⟨q,_⟩
 ·subst q;rcases hc with z|z
  ·exact absurd z n
  ·subst z;exact m
 ·subst q;exact m
def Zo (h:Qt X.N NB scope μ=true):NB.length=μ.length/\∀(j i:Nat),μ[j]?=some (some i)->∃x,NB[j]?=some x/\X.N[i]?=some x/\scope.names.lookup x=some .free:=by
 unfold Qt at h;simp only[zP,decide_eq_true_eq,List.all_eq_true] at h;refine⟨h.1,λ j i e=>?_⟩;have hj:j<NB.length:=by rw[h.1];exact (zv.mp e).1
 have m:(NB[j],some i)∈NB.zip μ:=by
  refine List.mem_iff_getElem?.mpr ⟨j,?_⟩;rw[List.getElem?_zip_eq_some];exact⟨zj hj,e⟩
 have q:=h.2 _ m;dsimp only at q;simp only[zP,decide_eq_true_eq] at q;exact⟨NB[j],zj hj,q.1,q.2⟩
def Qv (I:Inv X pins σ H s)(aA:Ka scope X.env.scope=true)(bJ:Qt X.N NB scope μ=true)(gz:∀b∈fp,L9 X pins H b)(kb:∀b∈fp,∃o,s.heap.get? b=some o)
 (hC:s.heap.objs.size<=C) {h4:Heap} {t4:Nat} (ns:h4.Ns C λ _=>none) (k:∀b o,s.heap.get? b=some o->h4.get? b=some o):
 Inv (blockOf X s H scope C NB fp) [] (EB μ σ) H {s with heap:=h4,toks:=t4}:=by
 obtain⟨hlen,bJ⟩:=Zo bJ;have tw:∀b o,s.heap.get? b=some o->b≠C:=λ b o e=>zD (zA (zt e) hC);have kc:∀x c,X.env.cells.lookup x=some c->c≠C:=λ x c e=>by
  obtain⟨v,o,ho,_⟩:=I.cell x c e;exact tw c o ho
 refine⟨⟨I.ok.mod,(show scope.kind=_ from Hf aA),I.ok.glob,I.ok.blt,hC,λ x y c h1 h2=>I.ok.inj x y c (DK I aA h1) (DK I aA h2),λ x hx=>?_,λ x c h _=>(by cases h),I.ok.hd,I.ok.frames,.inl rfl,λ b hb=>?_,I.bs,zY I.ok.YU I.sz,λ b o e hb=>?_,λ b hb hz=>?_,I.stack,I.ON⟩,
  rfl,I.bare,Un.kept k,⟨_,ns,λ j x v e1 e2 e3=>?_⟩,λ x c e=>?_,I.Ax.fresh hC,λ x c e=>I.EX x c (DK I aA e),λ p hp=>(by cases hp),I.Ax.kept k,?_⟩
 ·have q:(x,yP)∈scope.names:=by
   rcases hx with hx|hx
   ·exact Mf aA hx (.inl rfl)
   ·exact Mf aA hx (.inr rfl)
  obtain⟨c,m⟩:=Me (cells:=X.env.cells) (cs:=[]) q;exact EC m
 ·obtain⟨o,ho⟩:=kb b hb;refine⟨tw b o ho,λ x c e z=>?_⟩;exact (gz b hb).2.2.2.2.1 x c (DK I aA e) z
 ·rcases (gz b hb).2.2.2.1 with z|z
  ·exact I.ok.Ww b o e z
  ·exact absurd (zA (zt (I.ok.bs b o e).1) z) (Nat.lt_irrefl _)
 ·rcases zr.mp (I.S1 b hz) with e|e
  ·exact (gz b hb).2.1 e
  ·exact (gz b hb).2.2.1 e
 ·have iz:(μ[j]?).map (λ o=>o.bind λ i=>(σ[i]?).join)=some (some v):=by
   rw[<-zI];exact e2
  cases q:μ[j]? with
  |none=>rw[q] at iz;cases iz
  |some o =>
   rw[q] at iz;cases o with
   |none=>cases iz
   |some i =>
    have e4:(σ[i]?).join=some v:=by simpa using iz
    have e5:σ[i]?=some (some v):=by
     cases z:σ[i]? with
     |none=>rw[z] at e4;cases e4
     |some w=>rw[z] at e4;simp at e4;rw[e4]
    obtain⟨x',n1,n2,n3⟩:=bJ j i q;have ex:x'=x:=zE (n1.symm.trans e1);subst ex;have m:=lookup_mem n3;have ov:=(Hg aA m).2.1 rfl;obtain⟨mm,hn,hl⟩:=I.loc;obtain⟨u,r,l⟩:=hl i x' v n2 e5 (ov.elim (λ z=>.inr (.inl z)) λ z=>.inr (.inr z));refine⟨u,r,.inr ⟨?_,?_⟩⟩
    ·rcases e3 with z|z|z
     ·obtain⟨k',z1,z2⟩:=J0 (k:=.local) z;rw[n3] at z1;cases z1;rcases z2 with z2|⟨_,z2⟩<;>cases z2
     ·exact .inl z
     ·exact .inr z
    ·rcases l with ⟨l,_⟩|⟨_,c,l1,l2⟩
     ·rcases ov with z|z<;>(rw[show X.env.kindOf x'=_ from z] at l;cases l)
     ·obtain⟨c',m'⟩:=Me (cells:=X.env.cells) (cs:=[]) m;obtain⟨wM,l3⟩:=EC m';have l4:=DK I aA l3;rw[l1] at l4;cases l4;refine⟨c,l3,?_⟩;obtain⟨o,ho,hd⟩:=l2;exact⟨o,k _ _ ho,hd⟩
 ·obtain⟨v,o,ho,hd⟩:=I.cell x c (DK I aA e);exact⟨v,o,k _ _ ho,hd⟩
 ·show (EB μ σ).length=NB.length;unfold EB;rw[ze,hlen]
def F7.adopt {P:Program}{w:World}{H:Hp}{h:Heap}{a:Addr}{o:HO}(x:F7 P w H h)(hn:H a=none)(new:Bf P w (upd H a o) h a o):F7 P w (upd H a o) h:=λ b u e=>by
 by_cases hb:b=a
 ·subst hb;rw[Ao] at e;cases e;exact new
 ·rw[Ab hb] at e;exact (x b u e).LY (λ c v _ q=>q) (λ c q=>by rw[Ab (AB q hn)];exact q) λ c xs q=>by rw[Ab (AB q hn)];exact q
def Vc {H':Hp}{s':Shared}{h':Heap}{D:Addr}{pl:List (Addr×Obj)}{σ':St}{aa:List Value}{ys:List V}{n:Nat}(I:Inv X pins σ H s)(gz:∀b∈fp,L9 X pins H b)(J:Inv (blockOf X s H scope C NB fp) pl σ' H' s')
 (hC:s.heap.objs.size<=C) (hD:s.heap.objs.size<=D) (cp:D≠C) (eD:s'.heap.get? D=some {cls:=.type "list",data:=.seq aa.toArray n}) (nD:H' D=none) (r:Vals ys aa) (hz:ys.length<=sizeLine)
 (sb:yS C s'.heap h'):Inv X pins σ (upd H' D (.lst ys)) {s' with heap:=h' }:=by
 have em:∀b o,s.heap.get? b=some o->b≠C:=λ b o e=>zD (zA (zt e) hC);have mn:∀b o,s.heap.get? b=some o->b≠D:=λ b o e=>zD (zA (zt e) hD);have freshD:H D=none:=I.Ax.fresh hD;have nC:H' C=none:=J.free;have u:Un (KJ X.stack) fp H H' s.heap s'.heap:=J.base;have eh:F7 X.prog X.w H' h':=λ b ob e=>(J.Ax b ob e).LY (λ c v hc q=>(sb.2 c (by
  intro z;subst z;rcases hc with rfl|hc
  ·rw[nC] at e;cases e
  ·rw[nC] at hc;cases hc)).trans q) (λ _ q=>q) λ _ _ q=>q
 refine I.eX (ch:=fp) J.os ⟨λ b o e n hb hx=>?_,λ b o e n hb hx=>?_,λ b o e n hx=>?_,λ b o e hx=>?_,λ b xs e=>?_,λ b o u' e=>?_,λ b ps e=>?_⟩ (eh.adopt nD ⟨hz,aa,n,r,(sb.2 D cp).trans eD⟩) J.bare λ b hb=>?_
 ·exact (sb.2 b (em b o e)).trans (u.keep b o e n hb hx)
 ·obtain⟨sl,q⟩:=u.slot b o e n hb hx;exact⟨sl,(sb.2 b (em b o e)).trans q⟩
 ·rw[Ab (mn b o e)];exact u.free b o e n hx
 ·obtain⟨o',q⟩:=u.there b o e hx;exact⟨o',(sb.2 b (em b o e)).trans q⟩
 ·rw[Ab (AB e freshD)];exact u.LZ b xs e
 ·rw[Ab (AB e freshD)];exact u.K7 b o u' e
 ·rw[Ab (AB e freshD)];exact u.M2 b ps e
 ·obtain⟨_,f1,_,f3,f4,f5⟩:=gz b hb;exact⟨f3,f1,f4,f5⟩
end
def OY {prog:Program}{w:World}{A:Around}{R:Result->Shared->Prop}{s:Shared}{elt target iter:Expr}{ifs:List Expr}{scope:Scope}{pos:Pos}{it acc:Value}{env:Env}(I:Nat->Shared->Prop)
 (turn:∀n s,I n s->wpAny (model prog w) A (pyNext it) (λ r s₁=>match r with
  |none=>R (.ok .next) s₁
  |some v=>wpAny (model prog w) A (letOwnedTupleGo target it v) (λ _ s₁'=>wpAny (model prog w) A (assign target env v) (λ _ s₂ =>
   wpAny (model prog w) A (forIn ifs true λ c r=>if r=true then do let ok <-isTrue c env (eval c env);pure (xm ok) else pure (xm r)) (λ ok s₃ =>
    if ok=true then wpAny (model prog w) A (eval elt env) (λ x s₄ =>
     wpAny (model prog w) A (call (.builtin "list.append") [acc,x]) (λ _ s₅=>∃m,m<n/\I m s₅) (λ _ _=>False) s₄) (λ _ _=>False) s₃
    else ∃m,m<n/\I m s₃) (λ _ _=>False) s₂) (λ _ _=>False) s₁') (λ _ _=>False) s₁) (λ _ _=>False) s)
 (n:Nat) (h:I n s):
 codeAny (model prog w) A (.compLoop (.ListComp elt [⟨target,iter,ifs,0⟩] scope pos) 0 it acc env) R s:=by
 refine codeAny_loop rfl I (λ n s hI=>?_) n h;show wpAny _ A ((compTurn (.ListComp elt [⟨target,iter,ifs,0⟩] scope pos) 0 it acc env).onRaise (λ x=>do noteFrame x env;theTreesLotGoes x)) _ _ s;refine wpAny_noted ?_;rw[compTurn_list];refine wpAny_bind (wpAny_standAt (wpAny_bind (wpAny_mono (turn n s hI) (λ r s₁ h₁=>?_) λ _ _ h'=>h'.elim)));cases r with
 |none=>exact wpAny_pure h₁
 |some v =>
  refine wpAny_bind (wpAny_mono h₁ (λ _ s₁' h₁'=>?_) λ _ _ h'=>h'.elim);refine wpAny_bind (wpAny_mono h₁' (λ _ s₂ h₂=>wpAny_bind (wpAny_mono h₂ (λ ok s₃ h₃=>?_) λ _ _ h'=>h'.elim)) λ _ _ h'=>h'.elim);cases ok with
  |false=>exact wpAny_pure ⟨rfl,h₃⟩
  |true =>
   exact wpAny_bind (wpAny_bind (wpAny_mono h₃ (λ x s₄ h₄=>wpAny_bind (wpAny_mono h₄ (λ _ s₅ h₅=>wpAny_pure (wpAny_pure ⟨rfl,h₅⟩)) λ _ _ h'=>h'.elim)) λ _ _ h'=>h'.elim))
def lE (X:Cx)(cs:List Expr)(t:TT):Prop:=
 ∀(pins:List (Addr×Obj)) (s:Shared) (σ:St) (H:Hp) (Q:Bool->Hp->Prop),Inv X pins σ H s->t σ H Q->
  wpAny (model X.prog X.w) X.A (forIn cs true λ c r=>if r=true then do let ok <-isTrue c X.env (eval c X.env);pure (xm ok) else pure (xm r)) (TP X pins σ Q) X.xe s
noncomputable def rP:TT:=λ _ H Q=>Q true H
def Zp {X:Cx}:lE X [] rP:=λ _ _ _ H _ I h=>wpAny_tests_nil ⟨H,I,h⟩
def Zq {X:Cx}{c:Expr}{t:TT}(h:PT X c t):lE X [c] t:=λ pins s σ H Q I q=>wpAny_tests_one (h pins s σ H Q I q)
def Kb (μ:List (Option Nat))(g:TG):Prop:=∀σ x H Q,g x (EB μ σ) H Q->g x (EB μ σ) H λ σ' H'=>Q σ' H'/\∀(j:Nat) v,(EB μ σ)[j]?=some (some v)->σ'[j]?=some (some v)
def Zr {μ:List (Option Nat)}{i:Nat}(h:μ[i]?=some none):Kb μ (NR i):=λ σ x H Q q=>by
 refine⟨q,λ j v e=>?_⟩;have ae:j≠i:=λ z=>by
  subst z;unfold EB at e;rw[zI,h] at e;cases e
 rw[yi (yb ae)];exact e
def tE (J:It)(H1:Hp)(Q:VK)(st:V->Hp->(St->Hp->Prop)->Prop)(tc:TT)(te:TE):Prop:=
 ∃W:Nat->Nat->List V->Hp->Prop,(∃m,W 0 m [] H1)/\∀i m ys H2,W i m ys H2->
  (J.stop i H2/\∀D,H2 D=none->Q (.ref D) (upd H2 D (.lst ys))) \/
  (J.go i H2/\ys.length<sizeLine/\∃N:List V->Hp->Prop,(∀bq H',N bq H'->∃m',m'<m/\W (i+1) m' bq H')/\∀x H3,J.YZ i H2 x H3->st x H3 λ σ4 H4=>tc σ4 H4 λ b H5=>if b=true then te σ4 H5 λ y H6=>N (ys++[y]) H6 else N ys H5)
noncomputable def TV (wi:TI)(μ:List (Option Nat))(g:TG)(tc:Shared->Hp->Addr->List Addr->TT)(te:Shared->Hp->Addr->List Addr->TE):TE:=λ σ H Q=>wi σ H λ J H1=>∀s C ex,tE J H1 Q (λ x H K=>g x (EB μ σ) H K) (tc s H1 C ex) (te s H1 C ex)
section
variable {X:Cx}{pins:List (Addr×Obj)}{σ:St}{H2:Hp}{s2:Shared}{tg elt iter:Expr}{ifs:List Expr}{scope:Scope}{pos:Pos}{NB:List Str}{μ:List (Option Nat)}{g:TG}{tc:Shared->Hp->Addr->List Addr->TT}{te:Shared->Hp->Addr->List Addr->TE}{fp:List Addr}{it:Addr}{tn:Nat->Heap->Prop}{J:It}{Q:VK}
def O2 (hc:X.calm=true)(I2:Inv X pins σ H2 s2)(T:Turn X.prog X.w X.K tg J fp it tn)(c4:tn 0 s2.heap)(f2:∀b∈fp,L9 X pins H2 b)
 (aA:Ka scope X.env.scope=true) (bJ:Qt X.N NB scope μ=true) (i4:Kb μ g)
 (hb:∀(s:Shared) (H:Hp) (C:Addr) (ex:List Addr),PG (blockOf X s H scope C NB ex) tg g/\lE (blockOf X s H scope C NB ex) ifs (tc s H C ex)/\PE (blockOf X s H scope C NB ex) elt (te s H C ex))
 (q:∀C,tE J H2 Q (λ x H K=>g x (EB μ σ) H K) (tc s2 H2 C fp) (te s2 H2 C fp)) {RR:Value->Addr->Result->Shared->Prop} {E:Value->Shared->Prop}
 (fin:∀(D C:Addr) (s':Shared) (H':Hp) (ys:List V) (m:Str->Option Value),s2.heap.objs.size<=D->s2.heap.objs.size<=C->D≠C->s'.heap.Ns C m->H' C=none->(∀h',yS C s'.heap h'->Inv X pins σ (upd H' D (.lst ys)) {s' with heap:=h' })->Q (.ref D) (upd H' D (.lst ys))->RR (.ref D) C (.ok .next) s'):
 wpAny (model X.prog X.w) X.A (newList []) (λ acc s₃=>wpAny (model X.prog X.w) X.A (newFunctionEnv scope X.env.globals (HM X.env.cells scope.names []) [] X.env.qual none .none (some X.env)) (λ i5 s₄ =>
  codeAny (model X.prog X.w) X.A (.compStart (.ListComp elt [⟨tg,iter,ifs,0⟩] scope pos) 0 (.ref it) acc {i5 with scope:=relabel scope X.env}) (RR acc i5.locals) s₄) E s₃) E s2:=by
 have b9:∀y∈scope.names,y.2≠.cell:=λ y hy=>(Hg aA hy).1;refine wpAny_newObj_type (wpAny_newFunctionEnv b9 (by intro y hy;simp at hy) (λ h₁ hns₁ hsb₁=>?_) (Hf aA));dsimp only at hns₁ hsb₁ ⊢;generalize mq:s2.heap.push {cls:=.type "list",dict:=none,data:=.seq ([]:List Value).toArray}=ke at hns₁ hsb₁ ⊢;have hC:ke.objs.size=s2.heap.objs.size+1:=by rw[<-mq,Heap.size_push]
 have cp:s2.heap.objs.size≠ke.objs.size:=by rw[hC];exact zD (Nat.lt_succ_self _)
 have i6:s2.heap.objs.size<=ke.objs.size:=by rw[hC];exact Nat.le_succ _
 have old:∀b o,s2.heap.get? b=some o->h₁.get? b=some o:=λ b o e=>hsb₁.extBut b o (by rw[hC];exact zD (Nat.lt_succ_of_lt (zt e))) (zm _ (mq▸zm _ e));have eD:h₁.get? s2.heap.objs.size=some {cls:=.type "list",data:=.seq ([]:List Value).toArray}:=hsb₁.extBut _ _ cp (zm _ (mq▸zF _ rfl));have kb:∀b∈fp,∃o,s2.heap.get? b=some o:=λ b hb=>let ⟨o,e,_⟩:=T.obj _ _ c4 b hb;⟨o,e⟩;have mr:∀b∈fp,b≠s2.heap.objs.size:=λ b hb=>let ⟨o,e⟩:=kb b hb;zD (zt e);generalize tz:s2.heap.objs.size=D at i6 cp eD mr ⊢;generalize wN:ke.objs.size=C at *;have bK:s2.heap.objs.size<=D:=by rw[tz];exact zw _
 have bS:s2.heap.objs.size<=C:=by rw[tz];exact i6
 have I4:Inv (blockOf X s2 H2 scope C NB fp) [] (EB μ σ) H2 {s2 with heap:=h₁,toks:=s2.toks+([]:List (Str×Value)).length}:=Qv I2 aA bJ f2 kb bS (by simpa using hns₁) old;have bt:∀ {H':Hp} {pl:List (Addr×Obj)},(∀b∈fp,H' b=none)->(∀p∈pl,p.1=D)->∀b∈fp,L9 (blockOf X s2 H2 scope C NB fp) pl H' b:=fun {H' pl} hn hp b hb=>by
  refine⟨hn b hb,(I4.ok.pM b hb).1,I4.ok.Wx b hb,.inl hb,λ x c e z=>(I4.ok.pM b hb).2 x c e z,λ p i7 z=>?_⟩;have mt:p∈pl:=by simpa [blockOf] using i7
  exact mr b hb (z▸hp p mt)
 have uP:D∉(blockOf X s2 H2 scope C NB fp).fs:=λ z=>by
  obtain⟨_,o,ho,_⟩:=I4.ok.IU.mem z;exact absurd (zt ho) (Nat.not_lt.mpr bK)
 obtain⟨W,⟨m0,w0⟩,turn⟩:=q C;have loop:∀s₃:Shared,s₃={s2 with heap:=h₁,toks:=s2.toks+([]:List (Str×Value)).length} ->
  codeAny (model X.prog X.w) X.A (.compLoop (.ListComp elt [⟨tg,iter,ifs,0⟩] scope pos) 0 (.ref it) (.ref D) (compEnvC scope (HM X.env.cells scope.names []) C X.env)) (RR (.ref D) C) s₃:=by
  rintro s₃ rfl;refine OY (λ n s'=>∃i ys aa k H',Inv (blockOf X s2 H2 scope C NB fp) [(D,{cls:=.type "list",data:=.seq aa k})] (EB μ σ) H' s'/\tn i s'.heap/\(∀b∈fp,H' b=none)/\Vals ys aa.toList/\ys.length<=sizeLine/\W i n ys H') ?_ m0
   ⟨0,[],#[],0,H2,I4.IV λ p hp=>?_,T.keep _ _ _ c4 λ b hb o e=>old b o e,λ b hb=>(f2 b hb).1,.nil,zS _,w0⟩
  rotate_left
  ·have e:=zq.mp hp;subst e;exact⟨eD,I2.Ax.fresh bK,cp,uP,λ v=>by simp⟩
  rintro n s3 ⟨i,ys,aa,k,H3,I3,ii,ij,rv,hz,w3⟩;rcases turn i n ys H3 w3 with ⟨stop,qn⟩|⟨go,ah,N,hN,step⟩
  ·refine wpAny_mono (T.done (blockOf X s2 H2 scope C NB fp) rfl rfl rfl hc i _ s3 _ H3 (λ _ _=>False) I3 (bt ij (by simp)) ii stop) (λ r s4 ⟨hr,kg⟩=>?_) λ _ _ e=>e;subst hr;obtain⟨p1,p2,p3,p4,p5⟩:=kg.pin _ (zl _ zc);obtain⟨m,hn,_⟩:=id kg.loc;have e1:s4.heap.get? D=some {cls:=.type "list",data:=.seq aa.toList.toArray k}:=by simpa using p1
   exact fin D C s4 H3 ys m bK bS cp hn kg.free (λ h' sb=>Vc I2 f2 kg bS bK cp e1 p2 rv hz sb) (qn D p2)
  ·refine wpAny_mono (T.item (blockOf X s2 H2 scope C NB fp) rfl rfl rfl hc i _ s3 _ H3 (λ _ _=>False) I3 (bt ij (by simp)) ii go) (λ r s4 ⟨u,hr,h4⟩=>?_) λ _ _ e=>e;subst hr;refine Bh h4 λ _ s5 ⟨x,H5,I5,r5,y5,d9,lx⟩=>?_;have ly:=I5.pinned (bt lx (by simp)) (T.obj _ _ d9);have bH:=i4 σ x H5 _ (step x H5 y5);obtain⟨hg,ht,he⟩:=hb s2 H2 C fp;refine Bh (hg _ s5 _ H5 x u _ ly r5 bH) λ _ s6 ⟨σ6,H6,I6,q6,k6⟩=>?_;refine Bh (ht _ s6 σ6 H6 _ I6 q6) λ ok s7 ⟨H7,I7,q7⟩=>?_;have again:∀ {H8:Hp} {s8:Shared} {its':Array Value} {k':Nat} {bq:List V},Inv (blockOf X s2 H2 scope C NB fp) ([(D,{cls:=.type "list",data:=.seq its' k' })]++Ia fp s5.heap) σ6 H8 s8->Vals bq its'.toList->bq.length<=sizeLine->(∃m,m<n/\W (i+1) m bq H8)->
    ∃m,m<n/\∃i ys aa k H',Inv (blockOf X s2 H2 scope C NB fp) [(D,{cls:=.type "list",data:=.seq aa k})] (EB μ σ) H' s8/\tn i s8.heap/\(∀b∈fp,H' b=none)/\Vals ys aa.toList/\ys.length<=sizeLine/\W i m ys H':=fun {H8 s8 its' k' bq} I8 aZ uQ n8=>by
    obtain⟨m',hm,w8⟩:=n8;refine⟨m',hm,i+1,bq,its',k',H8,(I8.IX.weak ?_ k6),T.keep _ _ _ d9 λ b hb o e=>(I8.pin (b,o) (zl _ (zl _ (Fb hb e)))).1,λ b hb=>?_,aZ,uQ,w8⟩
    ·rw[I8.len];exact I4.len
    ·obtain⟨o,e,d⟩:=T.obj _ _ d9 b hb;exact (I8.pin (b,o) (zl _ (zl _ (Fb hb e)))).2.1
   cases ok with
   |false =>
    simp only[zB,if_false] at q7 ⊢;exact again I7 rv hz (hN _ _ q7)
   |true =>
    simp only[if_true] at q7 ⊢;refine Bh (he _ s7 σ6 H7 _ I7 q7) λ uy s8 ⟨y,H8,I8,r8,q8⟩=>?_;obtain⟨p1,p2,p3,p4,p5⟩:=I8.pin (D,_) (zl _ (zJ _ zc));have e1:s8.heap.get? D=some {cls:=.type "list",data:=.seq aa k}:=p1;have hsz:aa.size=ys.length:=by rw[<-Array.length_toList];exact rv.length.symm
    refine call_meets F.slot_list_append ⟨_,e1,rfl⟩ F.entry_list_append (F.args_list_append_2 _ _) (PySem.list_append D aa k uy (by rw[hsz];omega)) ⟨e1,?_⟩;have mw:=PySem.IsL.update e1 (·.push uy);have Iu:Inv (blockOf X s2 H2 scope C NB fp) (Ia fp s5.heap) σ6 H8 s8:=I8.IV λ p hp=>I8.pin p (zl _ (zl _ hp));have It:=Iu.turned (it:=D) (h':=s8.heap.update D (yL (·.push uy))) (t':=s8.toks) (λ b o hb e=>(yN _ _ (yb hb)).trans e) p2 p3 (.inr bK) (λ x c e z=>?_) (λ p hp z=>?_)
    ·refine again (its':=aa.push uy) (k':=if (aa.push uy).size==aa.size then k else k+1) (It.IV λ p hp=>?_) (by simpa using rv.append (.cons r8 .nil)) (by rw[zK,yC];omega) (hN _ _ q8);rcases zC.mp hp with hp|hp
     ·have e:=zq.mp hp;subst e;exact⟨mw,p2,p3,p4,λ v=>by simp⟩
     ·exact It.pin p (zl _ hp)
    ·have e':=DK I2 aA e;obtain⟨v,o,ho,_⟩:=I2.cell x c e';exact absurd (zt ho) (by rw[z];exact Nat.not_lt.mpr bK)
    ·have i7:p∈Ia fp s5.heap:=by simpa [blockOf] using hp
     exact mr p.1 (NS i7).1 z
 exact codeAny_compStart_list (loop _ rfl) (T.self _ 0 _ _ _ (T.keep _ _ _ c4 λ b hb o e=>old b o e) (loop _ rfl))
def Zs {wi:TI}(hc:X.calm=true)(hi:PI X tg iter wi)(aA:Ka scope X.env.scope=true)(bJ:Qt X.N NB scope μ=true)(i4:Kb μ g)
 (hb:∀(s:Shared) (H:Hp) (C:Addr) (ex:List Addr),PG (blockOf X s H scope C NB ex) tg g/\lE (blockOf X s H scope C NB ex) ifs (tc s H C ex)/\PE (blockOf X s H scope C NB ex) elt (te s H C ex))
 (hs:∀x,foldedSetIterable iter X.env x=pure x:=by intro _;rfl):PE X (.ListComp elt [⟨tg,iter,ifs,0⟩] scope pos) (TV wi μ g tc te):=by
 intro pins s σ H Q I h;have bz:∀y∈scope.names,y.2=.local->scope.names.lookup y.1=some .local:=λ y hy=>(Hg aA hy).2.2;have bT:closureFor scope X.env=pure (HM X.env.cells scope.names []):=HU λ y hy e=>Ih I aA (x:=y.1) (by rw[<-e];exact hy);rw[eval_ListComp];refine wpAny_comprehension_free (use:=none) rfl hs bT (Hf aA) bz (Bh (hi pins s σ H _ I h) λ v s1 h1=>Bh h1 λ j7 s2 h2=>?_);obtain⟨it,fp,tn,J,H2,e,I2,T,c4,f2,q⟩:=h2;subst e;refine O2 (RR:=λ acc C=>compPost (model X.prog X.w) X.A X.xe none (EP X pins σ Q) acc C) hc I2 T c4 f2 aA bJ i4 hb (λ C=>q s2 C fp) ?_;intro D C s' H' ys m hD hC cp hn nC hI hq;exact⟨m,hn,λ h' sb=>⟨.ref D,_,hI h' sb,rfl,hq⟩⟩
noncomputable def nI (i:Nat)(te:TE):TS:=λ D σ H=>te σ H λ x H1=>D.nx (σ.set i (some x)) H1
def Zt {wi:TI}{i:Nat}{y:Str}{py aD:Pos}(hN:X.N.Nodup)(mx:X.N[i]?=some y)(hy:Loc X.env.scope y)(hc:X.calm=true)(hi:PI X tg iter wi)(aA:Ka scope X.env.scope=true)(bJ:Qt X.N NB scope μ=true)(i4:Kb μ g)
 (hb:∀(s:Shared) (H:Hp) (C:Addr) (ex:List Addr),PG (blockOf X s H scope C NB ex) tg g/\lE (blockOf X s H scope C NB ex) ifs (tc s H C ex)/\PE (blockOf X s H scope C NB ex) elt (te s H C ex))
 (b5:swapsWith (.ListComp elt [⟨tg,iter,ifs,0⟩] scope pos) (some (.Name y py)) aD.line X.env=pure true:=by rfl)
 (hs:∀x,foldedSetIterable iter X.env x=pure x:=by intro _;rfl) (hf:X.fn y=true\/X.env.scope.names.lookup y=some .local:=by first|exact .inl rfl|exact .inr rfl|assumption):
 PS X (.Assign [.Name y py] (.ListComp elt [⟨tg,iter,ifs,0⟩] scope pos) aD) (nI i (TV wi μ g tc te)):=by
 intro pins s σ H D' I h;have bz:∀y∈scope.names,y.2=.local->scope.names.lookup y.1=some .local:=λ y hy=>(Hg aA hy).2.2;have bT:closureFor scope X.env=pure (HM X.env.cells scope.names []):=HU λ y hy e=>Ih I aA (x:=y.1) (by rw[<-e];exact hy);rw[exec_Assign_Name_used _ _ _ _ b5];refine wpAny_bind (wpAny_standAt (wpAny_bind ?_));show wpAny _ X.A (do let _ <-comprehension (.ListComp elt [⟨tg,iter,ifs,0⟩] scope pos) scope X.env _ (newList []) false (eval iter X.env) (some (assign (.Name y py) X.env))) _ _ s;refine wpAny_bind (wpAny_mono (wpAny_comprehension_free (use:=some (assign (.Name y py) X.env)) (Q:=λ _ s'=>SP X pins D' .next s') rfl hs bT (Hf aA) bz (Bh (hi pins s σ H _ I h) λ v s1 h1=>Bh h1 λ j7 s2 h2=>?_)) (λ _ s' hq=>wpAny_pure (wpAny_pure hq)) λ _ _ e=>e);obtain⟨it,fp,tn,J,H2,e,I2,T,c4,f2,q⟩:=h2;subst e;refine O2 (RR:=λ acc C=>compPost (model X.prog X.w) X.A X.xe (some (assign (.Name y py) X.env)) (λ _ s'=>SP X pins D' .next s') acc C) hc I2 T c4 f2 aA bJ i4 hb (λ C=>q s2 C fp) ?_;intro D C s' H' ys m hD hC cp hn nC hI hq;have I':=hI s'.heap (.refl ..);show wpAny _ X.A (assign (.Name y py) X.env (.ref D)) _ _ _;refine wpAny_assign_Name (NQ (i:=i) (v:=.ref D) I' hN mx hy rfl (λ il uR my=>?_) hf);obtain⟨a,sb,ha⟩:=my;have gw:a≠C:=by
  rcases ha with z|z
  ·rw[z];exact zD (zA I2.lt hC)
  ·obtain⟨v,o,ho,_⟩:=I2.cell y a z;exact zD (zA (zt ho) hC)
 refine⟨m,hn.sameBut sb (yb gw),λ h' b6=>?_⟩;refine⟨_,_,uR.turned (it:=C) (t':=il.toks) (λ b o hb e=>(b6.2 b hb).trans e) (by rw[Ab (yb cp)];exact nC) (Nat.ne_of_gt (zA I2.lt hC)) (.inr (zY I2.sz hC)) (λ x c e z=>?_) (λ p hp z=>?_),hq⟩
 ·obtain⟨v,o,ho,_⟩:=I2.cell x c e;exact absurd (zt ho) (by rw[z];exact Nat.not_lt.mpr hC)
 ·exact absurd (zt (I2.pin p hp).1) (by rw[z];exact Nat.not_lt.mpr hC)
end
noncomputable def tF (K:za)(a:Addr):It:=
 ⟨λ i H=>∃xs x,Dn K H a xs/\xs[i]?=some x,λ i H v H'=>∃p x,H p=none/\v=.ref p/\(∀xs,Dn K H a xs->xs[i]?=some x)/\H'=upd H p (.tup [.int i,x]),λ i H=>∃xs,Dn K H a xs/\xs.length<=i⟩
def Sl {X:Cx}{pins:List (Addr×Obj)}{σ:St}{H:Hp}{s:Shared}{h':Heap}{t':Nat}{e it:Addr}(I:Inv X pins σ H s)(he:L9 X pins H e)(hi:L9 X pins H it)(k:∀b o,b≠e->b≠it->s.heap.get? b=some o->h'.get? b=some o):Inv X pins σ H {s with heap:=h',toks:=t' }:=by
 obtain⟨e0,e1,e2,e3,e4,e5⟩:=he;obtain⟨f0,f1,f2,f3,f4,f5⟩:=hi;have ne:∀b u,H b=some u->b≠e/\b≠it:=λ b u q=>⟨λ z=>(by rw[z,e0] at q;cases q),λ z=>(by rw[z,f0] at q;cases q)⟩;refine I.step (g':=s.gens) (d':=s.drawn) (ch:=[e,it]) (λ b hb=>?_) (λ b o _ _ hc q _=>k b o (λ z=>hc (by simp[z])) (λ z=>hc (by simp[z])) q) (λ b o _ _ hc q _=>⟨o.slots,k b o (λ z=>hc (by simp[z])) (λ z=>hc (by simp[z])) q⟩) (λ _ _ _ _ n=>n)
  (λ b o hc q=>⟨o,k b o (λ z=>hc (by simp[z])) (λ z=>hc (by simp[z])) q⟩) (λ _ _ q=>q) (λ _ _ _ q=>q) (λ b ps q=>⟨#[],by rw[q];simp⟩) (λ m hm=>?_) (λ b u q=>?_) I.bare
 ·rcases zr.mp hb with z|z
  ·subst z;exact⟨e3,e1,e4,e5⟩
  ·have z:=zq.mp z;subst z;exact⟨f3,f1,f4,f5⟩
 ·obtain⟨o,es,ep,ho,r⟩:=hm;exact⟨o,es,ep,k _ o (yb e1) (yb f1) ho,r⟩
 ·refine (I.Ax b u q).LY (λ c v hc z=>k c v ?_ ?_ z) (λ _ z=>z) λ _ _ z=>z
  ·rcases hc with z|z
   ·rw[z];exact (ne b u q).1
   ·exact (ne c _ z).1
  ·rcases hc with z|z
   ·rw[z];exact (ne b u q).2
   ·exact (ne c _ z).2
def Vd {P:Program}{w:World}{K:za}{bU:List Expr}{x1}{bu:Pos}(a e it:Addr)(ae:e≠it):
 Turn P w K (.Tuple bU x1 bu) (tF K a) [e,it] e (λ i h=>(∃old,IsEnum h e it i old)/\h.IsListIter it a i) where
 mem:=by simp
 obj:=λ i h st b hb=>by
  obtain⟨⟨old,h1⟩,o,h2,c,d⟩:=st;rcases zr.mp hb with z|z
  ·subst z;exact⟨_,h1,λ v z=>by cases z⟩
  ·have z:=zq.mp z;subst z;exact⟨o,h2,λ v z=>by rw[d] at z;cases z⟩
 keep:=λ i h h' st k=>⟨let ⟨old,h1⟩:=st.1;⟨old,k e (by simp) _ h1⟩,st.2.at λ o e=>k it (by simp) o e⟩
 item:=by
  intro X hP hw hK hc i pins s σ H E I hf st hg;subst hP hw hK;obtain⟨xs,x,hq,hx⟩:=hg;obtain⟨⟨old,he⟩,hit⟩:=st;obtain⟨aa,rv,p,hz⟩:=I.list hq;obtain⟨u,hu,ru⟩:=rv.get hx;have fe:=hf e (by simp);have fi:=hf it (by simp);refine wpAny_pyNext_enum_item he hit p.isList (x:=u) (by simpa using hu) ae λ h1 dh mz ht hsz hk=>?_;refine⟨_,rfl,wpAny_letOwnedTupleGo_enum (s:={s with heap:=h1,toks:=s.toks+1}) dh λ h2 uS aR=>?_⟩;have b7:yS e h1 h2:=aR;have nt:s.heap.objs.size≠e:=Nat.ne_of_gt (zt he);have uT:s.heap.objs.size≠it:=by
   obtain⟨o,ho,_⟩:=hit;exact Nat.ne_of_gt (zt ho)
  have I1:Inv X pins σ H {s with heap:=h2,toks:=s.toks+1}:=Sl I fe fi λ b o hb a8 q=>(b7.2 b hb).trans (hk b o hb a8 q);have tup:h2.get? s.heap.objs.size=some {cls:=.type "tuple",data:=.seq #[.int i s.toks,u]}:=(b7.2 _ nt).trans ht;have nH:H s.heap.objs.size=none:=I.Ax.fresh (zw _);have vv:Vals [.int i,x] [.int i s.toks,u]:=.cons ⟨_,rfl⟩ (.cons ru .nil);have m6:F7 X.prog X.w (upd H s.heap.objs.size (.tup [.int i,x])) h2:=I1.Ax.adopt nH ⟨by show 2<=sizeLine;decide,_,vv,⟨_,tup,rfl,_,rfl⟩⟩;have I2:Inv X pins σ (upd H s.heap.objs.size (.tup [.int i,x])) {s with heap:=h2,toks:=s.toks+1}:=by
   refine I.step (g':=s.gens) (d':=s.drawn) (ch:=[e,it]) (λ b hb=>?_) (λ b o _ _ hc q _=>(b7.2 b (λ z=>hc (by simp[z]))).trans (hk b o (λ z=>hc (by simp[z])) (λ z=>hc (by simp[z])) q)) (λ b o _ _ hc q _=>⟨o.slots,(b7.2 b (λ z=>hc (by simp[z]))).trans (hk b o (λ z=>hc (by simp[z])) (λ z=>hc (by simp[z])) q)⟩)
    (λ b o hc q n=>by rw[Ab (zD (zt q))];exact n) (λ b o hc q=>⟨o,(b7.2 b (λ z=>hc (by simp[z]))).trans (hk b o (λ z=>hc (by simp[z])) (λ z=>hc (by simp[z])) q)⟩)
    (λ b xs q=>by rw[Ab (AB q nH)];exact q) (λ b o u q=>by rw[Ab (AB q nH)];exact q) (λ b ps q=>⟨#[],by rw[Ab (AB q nH),q];simp⟩) (λ m hm=>?_) m6 I.bare
   ·rcases zr.mp hb with z|z
    ·subst z;exact⟨fe.2.2.2.1,fe.2.1,fe.2.2.2.2.1,fe.2.2.2.2.2⟩
    ·have z:=zq.mp z;subst z;exact⟨fi.2.2.2.1,fi.2.1,fi.2.2.2.2.1,fi.2.2.2.2.2⟩
   ·obtain⟨o,es,ep,ho,r⟩:=hm;exact⟨o,es,ep,(b7.2 _ (yb fe.2.1)).trans (hk _ o (yb fe.2.1) (yb fi.2.1) ho),r⟩
  refine⟨.ref s.heap.objs.size,_,I2,rfl,⟨_,x,nH,rfl,λ ys hy=>by rw[I.IW hy hq];exact hx,rfl⟩,⟨⟨u,uS⟩,mz.at λ o q=>(b7.2 it (yb ae)).trans q⟩,λ b hb=>?_⟩;have a8:b≠s.heap.objs.size:=by
   rcases zr.mp hb with z|z
   ·rw[z];exact yb nt
   ·rw[zq.mp z];exact yb uT
  rw[Ab a8];exact (hf b hb).1
 done:=by
  intro X hP hw hK hc i pins s σ H E I hf st hg;subst hP hw hK;obtain⟨xs,hq,hx⟩:=hg;obtain⟨⟨old,he⟩,hit⟩:=st;obtain⟨aa,rv,p,hz⟩:=I.list hq;have hl:=rv.length;obtain⟨f0,f1,f2,f3,f4,f5⟩:=hf it (by simp);exact wpAny_pyNext_enum_end (I.ok.hd hc) he hit p.isList (by simp;omega) λ h' eb=>⟨rfl,I.turned (t':=s.toks) (λ b o hb e=>eb b o hb e) f0 f1 f3 f4 f5⟩
 self:=λ _ _ _ _ _ st h=>let ⟨_,he⟩:=st.1;wpAny_pyIter_enum he h
section
variable {X:Cx}
noncomputable def nJ (K:za)(ta:TA):TI:=λ σ H R=>ta σ H λ vs H1=>∃a,vs=[.ref a]/\(∃xs,Dn K H1 a xs)/\R (tF K a) H1
def Zu {bU:List Expr}{x1}{bu:Pos}{a:Expr}{ta:TA}{p pos:Pos}(hg:Gl X "enumerate")(hm:X.mg "enumerate" = none)(ha:PA X [a] ta)(hb:bootBuiltins "enumerate" = some (.type "enumerate"):=by decide +kernel)(hs:starEach [a] X.env=[(false,eval a X.env)]:=by rfl):
 PI X (.Tuple bU x1 bu) (.Call (.Name "enumerate" p) [a] [] pos) (nJ X.K ta):=by
 intro pins s σ H R I h;refine Call_ (Ez I hg hm hb (yk (Bh (ha pos pins s σ H _ I h) λ us s1 ⟨vs,H1,I1,r1,q1⟩=>?_) hs rfl));obtain⟨j,e,⟨xs,hq⟩,q⟩:=q1;subst e;cases r1 with
 |cons r rr =>
  cases rr;cases r;obtain⟨aa,rv,p,hz⟩:=I1.list hq;refine call_enumerate_list p.isList λ h' he hit hsz hk=>?_;refine wpAny_pyIter_enum (s:={s1 with heap:=h' }) he ?_;have I2:Inv X pins σ H1 {s1 with heap:=h' }:=I1.kept (t':=s1.toks) hk;refine⟨_,[s1.heap.objs.size+1,s1.heap.objs.size],_,_,H1,rfl,I2,Vd j _ _ (Nat.succ_ne_self _),⟨⟨_,he⟩,hit⟩,λ b hb=>?_,q⟩;rcases zr.mp hb with z|z
  ·rw[z];exact I1.UX (Nat.le_succ _) (I1.Ax.fresh (Nat.le_succ _))
  ·rw[zq.mp z];exact I1.UX (zw _) (I1.Ax.fresh (zw _))
end
noncomputable def BA {α:Type}(o:Option (α×List Int))(b:α×List Int):Option (α×List Int):=match o with | none=>some b | some c=>if HT.lexLt b.2 c.2=true then some b else some c
noncomputable def AX {α:Type}(bs:List (α×List Int)):Option (α×List Int):=bs.foldl BA none
noncomputable def Dc (bs:List (Addr×List Int)):Array Value:=match AX bs with | none=>#[] | some b=>#[.ref b.1,.ref b.1]
def CS {α:Type}(bs:List (α×List Int))(b:α×List Int):AX (bs++[b])=match AX bs with | none=>some b | some c=>if HT.lexLt b.2 c.2=true then some b else some c:=by
 unfold AX;rw[List.foldl_append];rfl
def Kc {α:Type}:∀(bs:List (α×List Int)) (b:α×List Int),AX bs=some b->b∈bs:=by
 intro bs
 suffices h:∀(bs:List (α×List Int)) (o:Option (α×List Int)) (b:α×List Int),bs.foldl BA o=some b->b∈bs\/o=some b by
  intro b hb;rcases h bs none b hb with q|q
  ·exact q
  ·cases q
 intro bs;induction bs with
 |nil=>intro o b h;exact .inr h
 |cons x r ih =>
  intro o b h;rw[zN] at h;rcases ih _ _ h with q|q
  ·exact .inl (zf _ q)
  ·cases o with
   |none=>cases q;exact .inl zc
   |some c =>
    unfold BA at q;dsimp only at q;split at q
    ·cases q;exact .inl zc
    ·exact .inr q
def Nw (a v:Value):argsOk "min" ⟨[a],[(Str.ofString "default",v)]⟩:=by unfold argsOk;kernel_rfl
section
variable {prog:Program}{w:World}{A:Around}{R:Result->Shared->Prop}
def X8 (bs:List (Addr×List Int))(tv:Addr->Array Value)(l I S:Addr)(d:Value)(hh:A.handled=none)(hu:A.in1.units<cLine)(c9:S≠I)(g7:l≠I)(i8:l≠S)(ez:∀b∈bs,b.1≠I/\b.1≠S)
 (hk:∀b∈bs,IntsAre (tv b.1).toList b.2):∀(k j:Nat) (s:Shared) (c:Nat),bs.length-j=k->j<=bs.length->s.heap.IsListIter I l j->s.heap.IsList l (bs.map λ b=>zZ b.1).toArray->(∀b∈bs,IsTup s.heap b.1 (tv b.1))->
  s.heap.get? S=some {cls:=.type "list",dict:=none,data:=.seq (Dc (bs.take j)) c,slots:=#[]} ->
  (∀h' tk,(∀b o,b≠I->b≠S->s.heap.get? b=some o->h'.get? b=some o)->R (.ok (.ret (match AX bs with|none=>d|some b=>.ref b.1))) {s with heap:=h',toks:=tk})->
  codeAny (model prog w) A (.builtin "min.loop" ⟨[.ref I,.none,.ref S],[(Str.ofString "default",d)]⟩) R s:=by
 have a5:(toString "min" ++ toString ".loop" : String) = "min.loop" := by decide
 intro k;induction k with
 |zero =>
  intro j s c hr hj hit hl ht hS hR;have br:j=bs.length:=by omega
  subst br;rw[yh] at hS;refine codeAny_builtin PySem.F.entry_min_loop ?_;rw[yG zT _];show wpAny _ A.in1 (seqItems? (.ref S) >>= _) _ _ s;refine wpAny_bind (wpAny_seqItems hS rfl ?_);show wpAny _ A.in1 (tryCatch (pyNext (.ref I)) _ >>= _) _ _ s;refine wpAny_bind (wpAny_tryCatch (wpAny_pyNext_list_end (A:=A.in1) hh hit hl (by simp) λ h' eb=>?_));have a9:h'.get? S=_:=eb S _ c9 hS;unfold Dc at a9;cases hb:AX bs with
  |none =>
   unfold Dc;rw[hb];show wpAny _ A.in1 (rule _ >>= _) _ _ _;refine wpAny_bind (wpAny_rule (wpAny_pure ?_));have q:=hR h' s.toks λ b o h1 h2 e=>eb b o h1 e;rw[hb] at q;exact q
  |some b =>
   rw[hb] at a9;unfold Dc;rw[hb];show wpAny _ A.in1 (updateSeq S (λ _=>#[]) >>= _) _ _ _;refine wpAny_bind ?_;refine wpAny_updateSeq a9 rfl (wpAny_bind (wpAny_letGo (wpAny_pure ?_)));have q:=hR (h'.update S (yL λ _=>#[])) s.toks λ b o h1 h2 e=>(yN _ _ (yb h2)).trans (eb b o h1 e);rw[hb] at q;exact q
 |succ k ih =>
  intro j s c hr hj hit hl ht hS hR;have ah:j<bs.length:=by omega
  have ej:bs.take (j+1)=bs.take j++[bs[j]]:=by rw[yl,zj ah];rfl
  have mj:bs[j]∈bs:=List.getElem_mem ah;refine codeAny_builtin PySem.F.entry_min_loop ?_;rw[yG zT _];show wpAny _ A.in1 (seqItems? (.ref S) >>= _) _ _ s;refine wpAny_bind (wpAny_seqItems hS rfl ?_);show wpAny _ A.in1 (tryCatch (pyNext (.ref I)) _ >>= _) _ _ s;refine wpAny_bind (wpAny_tryCatch (wpAny_pyNext_list_item (A:=A.in1) hit hl (x:=.ref bs[j].1) (by simp[ah]) λ h' ba sb=>?_));have b6:yS I s.heap h':=sb;have a9:h'.get? S=_:=(b6.2 S c9).trans hS;have bF:h'.IsList l (bs.map λ b=>zZ b.1).toArray:=hl.at λ o e=>(b6.2 l g7).trans e;have bV:∀b∈bs,IsTup h' b.1 (tv b.1):=λ b hb=>by
   obtain⟨o,ho,r⟩:=ht b hb;exact⟨o,(b6.2 b.1 (ez b hb).1).trans ho,r⟩
  cases hb:AX (bs.take j) with
  |none =>
   unfold Dc at a9 ⊢;rw[hb] at a9 ⊢;show wpAny _ A.in1 (updateSeq S (λ _=>#[.ref bs[j].1,.ref bs[j].1]) >>= _) _ _ _;refine wpAny_bind ?_;refine wpAny_updateSeq a9 rfl ?_;rw[a5];have s1:=Heap.SameBut.update h' S (yL λ _=>(#[.ref bs[j].1,.ref bs[j].1]:Array Value));refine wpAny_pure ⟨plainId_quiet zT _,ih (j+1) _ (c+1) (by omega) ah (ba.at λ o e=>(s1.2 I (yb c9)).trans e) (bF.at λ o e=>(s1.2 l i8).trans e) (λ b hb=>?_) ?_ λ bW tk aQ=>?_⟩
   ·obtain⟨o,ho,r⟩:=bV b hb;exact⟨o,(s1.2 b.1 (ez b hb).2).trans ho,r⟩
   ·refine (yR _ a9 rfl).trans ?_;unfold Dc;rw[ej,CS,hb];rfl
   ·exact hR bW tk λ b o h1 h2 e=>aQ b o h1 h2 ((s1.2 b h2).trans ((b6.2 b h1).trans e))
  |some m =>
   have mm:m∈bs:=yn (Kc _ _ hb);unfold Dc at a9 ⊢;rw[hb] at a9 ⊢;show wpAny _ A.in1 (tryCatch (holding [.ref bs[j].1,.ref bs[j].1] (richCompare .Lt (.ref bs[j].1) (.ref m.1) >>= _)) _ >>= _) _ _ _;refine wpAny_bind (wpAny_tryCatch (wpAny_holding (wpAny_bind (HT.Ie (bV _ mj) (bV _ mm) (hk _ mj) (hk _ mm) hu ?_))));refine wpAny_bind (wpAny_holding (wpAny_truthy_bool ?_));refine wpAny_bind (wpAny_letGo (wpAny_pure ?_));cases hc:HT.lexLt bs[j].2 m.2 with
   |true =>
    simp only[if_true];have s1:=Heap.SameBut.update h' S (yL λ _=>(#[.ref bs[j].1,.ref bs[j].1]:Array Value));refine wpAny_bind ?_;refine wpAny_updateSeq a9 rfl (wpAny_bind (wpAny_letGo ?_));rw[a5];refine wpAny_pure ⟨plainId_quiet zT _,ih (j+1) _ c (by omega) ah (ba.at λ o e=>(s1.2 I (yb c9)).trans e) (bF.at λ o e=>(s1.2 l i8).trans e) (λ b hb=>?_) ?_ λ bW tk aQ=>?_⟩
    ·obtain⟨o,ho,r⟩:=bV b hb;exact⟨o,(s1.2 b.1 (ez b hb).2).trans ho,r⟩
    ·refine (yR _ a9 rfl).trans ?_;unfold Dc;rw[ej,CS,hb];simp only[hc,if_true];rfl
    ·exact hR bW tk λ b o h1 h2 e=>aQ b o h1 h2 ((s1.2 b h2).trans ((b6.2 b h1).trans e))
   |false =>
    simp only[zB,if_false];refine wpAny_bind (wpAny_letGo ?_);rw[a5];refine wpAny_pure ⟨plainId_quiet zT _,ih (j+1) _ c (by omega) ah ba bF bV ?_ λ bW tk aQ=>?_⟩
    ·refine a9.trans ?_;unfold Dc;rw[ej,CS,hb];simp only[hc,zB,if_false]
    ·exact hR bW tk λ b o h1 h2 e=>aQ b o h1 h2 ((b6.2 b h1).trans e)
def Nx {E:Value->Shared->Prop}{s:Shared}{Q:Value->Shared->Prop}(bs:List (Addr×List Int))(tv:Addr->Array Value)(l:Addr)(d:Value)(hh:A.handled=none)(hu:A.in1.units<cLine)
 (hl:s.heap.IsList l (bs.map λ b=>zZ b.1).toArray) (ht:∀b∈bs,IsTup s.heap b.1 (tv b.1)) (hk:∀b∈bs,IntsAre (tv b.1).toList b.2)
 (hQ:∀h' tk,(∀b o,s.heap.get? b=some o->h'.get? b=some o)->Q (match AX bs with|none=>d|some b=>.ref b.1) {s with heap:=h',toks:=tk}):
 wpAny (model prog w) A (call (.builtin "min") [.ref l] [(Str.ofString "default",d)]) Q E s:=by
 have a5:(toString "min" ++ toString ".loop" : String) = "min.loop" := by decide
 obtain⟨ol,e7,_⟩:=id hl;have uU:l<s.heap.objs.size:=zt e7;refine kmk_tree PySem.F.kind_min PySem.F.plain_min PySem.F.entry_min (Nw _ _) ?_;show wpAny _ A.in1 (yJ "min" ["key","default"] 0 ⟨[],[(Str.ofString "default",d)]⟩ >>= _) _ _ s;refine wpAny_bind (wpAny_of_eq (show yJ "min" ["key","default"] 0 ⟨[],[(Str.ofString "default",d)]⟩=pure [none,some d] from rfl) ?_);refine wpAny_bind (wpAny_pure ?_);refine wpAny_bind (wpAny_pyIter_list hl ?_);refine wpAny_bind (wpAny_newList ?_ (zS _));rw[a5];have hS:(s.heap.push {cls:=.type "list_iterator",data:=.fields #[.ref l,.int 0 0]}).objs.size=s.heap.objs.size+1:=Heap.size_push ..;have old:∀b o,s.heap.get? b=some o->b≠s.heap.objs.size/\b≠(s.heap.push {cls:=.type "list_iterator",data:=.fields #[.ref l,.int 0 0]}).objs.size:=λ b o e=>⟨zD (zt e),by rw[hS];exact zD (Nat.lt_succ_of_lt (zt e))⟩;have grow:∀b o,s.heap.get? b=some o->((s.heap.push {cls:=.type "list_iterator",data:=.fields #[.ref l,.int 0 0]}).push {cls:=.type "list",data:=.seq #[]}).get? b=some o:=λ b o e=>zm _ (zm _ e);refine wpAny_pure ⟨plainId_quiet zT _,?_⟩;refine X8 bs tv l s.heap.objs.size (s.heap.push {cls:=.type "list_iterator",data:=.fields #[.ref l,.int 0 0]}).objs.size d hh hu (by rw[hS];exact Nat.succ_ne_self _) (old l ol e7).1 (old l ol e7).2 (λ b hb=>?_) hk _ 0 _ 0 rfl (zS _) ?_ ?_ (λ b hb=>?_) ?_ ?_
 ·obtain⟨o,ho,_⟩:=ht b hb;exact old b.1 o ho
 ·exact⟨_,zm _ (zF _ rfl),rfl,rfl⟩
 ·exact hl.at λ o e=>grow l o e
 ·obtain⟨o,ho,r⟩:=ht b hb;exact⟨o,grow b.1 o ho,r⟩
 ·exact zF _ rfl
 ·intro h' tk e8;exact hQ h' tk λ b o e=>e8 b o (old b o e).1 (old b o e).2 (grow b o e)
end
section
variable {X:Cx}{e e2:Expr}{te td:TE}{p pos kp:Pos}
noncomputable def nK (K:za)(te td:TE):TE:=λ σ H Q=>te σ H λ x H1=>td σ H1 λ d H2=>∃(a:Addr) (bs:List (Addr×List Int)),x=.ref a/\Dn K H2 a (bs.map λ b=>V.ref b.1)/\(∀b∈bs,Er K H2 b.1 (b.2.map V.int))/\Q (match AX bs with | none=>d | some b=>.ref b.1) H2
def Kd:∀ {bs:List (Addr×List Int)}{us:List Value},Vals (bs.map λ b=>V.ref b.1) us->us=bs.map λ b=>zZ b.1
 |[],_,.nil=>rfl
 |b::r,_,.cons h t=>by cases h;rw[Kd t];rfl
def Zv (hc:X.calm=true)(hu:X.A.units+1<cLine)(hg:Gl X "min")(hm:X.mg "min" = none)(he:PE X e te)(hd:PE X e2 td)
 (aN:starEach [e] X.env=[(false,eval e X.env)]:=by rfl) (bw:(backToKw pos (keywordEach [⟨some "default",e2,kp⟩] X.env)).all (·.1.isSome)=true:=by rfl) (m7:(backToKw pos (keywordEach [⟨some "default",e2,kp⟩] X.env)).filterMap (·.1)=([("default" : Str)]:List Str):=by rfl)
 (m8:(backToKw pos (keywordEach [⟨some "default",e2,kp⟩] X.env)).any (·.1.isNone)=false:=by rfl) (e9:backTo pos (starEach [e] X.env)=(false,eval e X.env)::backTo pos (starEach [] X.env):=by rfl) (hpl:(backTo pos (starEach [e] X.env)).any (·.1)=false:=by rfl):
 PE X (.Call (.Name "min" p) [e] [⟨some "default",e2,kp⟩] pos) (nK X.K te td):=by
 intro pins s σ H Q I h;refine wpAny_Call_Name_kw (Ez I hg hm boot_min ?_ (by decide) (by decide));refine callWith_kw (Bh ((Bk he Ci (hs:=aN)) pos pins s σ H (λ vs H1=>match vs with|[x]=>td σ H1 λ d H2=>∃(a:Addr) (bs:List (Addr×List Int)),x=.ref a/\Dn X.K H2 a (bs.map λ b=>V.ref b.1)/\(∀b∈bs,Er X.K H2 b.1 (b.2.map V.int))/\Q (match AX bs with|none=>d|some b=>.ref b.1) H2|_=>False) I h) λ us s1 ⟨vs,H1,I1,r1,q1⟩=>?_) e9 hpl bw m8;obtain⟨x,rfl⟩:∃x,vs=[x]:=by
  match vs,q1 with
  |[x],_=>exact⟨x,rfl⟩
 refine Bh ((Z8 hd iJ) pos pins s1 σ H1 (λ zs H2=>match zs with|[d]=>∃(a:Addr) (bs:List (Addr×List Int)),x=.ref a/\Dn X.K H2 a (bs.map λ b=>V.ref b.1)/\(∀b∈bs,Er X.K H2 b.1 (b.2.map V.int))/\Q (match AX bs with|none=>d|some b=>.ref b.1) H2|_=>False) I1 q1) λ ws s2 ⟨zs,H2,I2,r2,q2⟩=>?_;obtain⟨d,rfl⟩:∃d,zs=[d]:=by
  match zs,q2 with
  |[d],_=>exact⟨d,rfl⟩
 obtain⟨a,bs,rfl,hl,hb,q⟩:=q2;obtain⟨ua,rfl,ra⟩:=r1.one;obtain⟨ud,rfl,rd⟩:=r2.one;cases ra;rw[m7];obtain⟨aa,rv,pl,hz⟩:=I2.list hl;have ei:=Kd rv;subst ei;have tv:∀a:Addr,∃t:Array Value,∀b∈bs,b.1=a->IsTup s2.heap a t/\IntsAre t.toList b.2:=λ a=>by
  by_cases bX:∃b∈bs,b.1=a
  ·obtain⟨b,bX,rfl⟩:=bX;obtain⟨ts,rt,pt,_⟩:=I2.tuple (hb b bX);refine⟨ts.toArray,λ b' a8 e=>⟨pt,?_⟩⟩;have q2:=hb b' a8;rw[e] at q2;have e2:=I2.EY q2 (hb b bX);rw[<-e2] at rt;simpa using intsAre_of rt
  ·exact⟨#[],λ b a8 e=>absurd ⟨b,a8,e⟩ bX⟩
 refine Nx bs (λ b=>zh (tv b)) a ud (I2.ok.hd hc) hu pl.isList (λ b a8=>(zb (tv b.1) b a8 rfl).1) (λ b a8=>(zb (tv b.1) b a8 rfl).2) λ h' tk hk=>?_;refine⟨match AX bs with|none=>d|some b=>.ref b.1,H2,I2.kept (t':=tk) hk,?_,q⟩;cases AX bs with
 |none=>exact rd
 |some b=>rfl
end
inductive D where
 |AD|bl (b:Bool)|int (i:Int)|str (x:Str)|tup (ds:List D)|lst (ds:List D)|Dp (x:Str)|Ba (t:Bool) (ks vs:List D)|ins (x:Str) (ns:List Str) (ds:List D)
noncomputable def CT:Key->D
 | .inl i=>.int i
 | .inr x=>.str x
def rQ (a c:Addr)(h:Heap):Prop:=∃o,h.get? a=some o/\o.cls=.ref c/\PySem.W.notCls o=true
def Rd.same {H H':Hp}{a:Addr}{u:HO}(r:Rd H a u)(e:Ae H H'):Rd H' a u:=r.elim (λ h=>.inl (e _ _ h)) λ⟨o,h⟩=>.inr ⟨o,e _ _ h⟩
mutual
inductive Bu (K:za) (H:Hp):V->D->Prop
 |AD:Bu K H .AD .AD
 |bl (b):Bu K H (.bl b) (.bl b)
 |int (i):Bu K H (.int i) (.int i)
 |str (x):Bu K H (.str x) (.str x)
 |tup {a xs ds}:H a=some (.tup xs)->Ag K H xs ds->Bu K H (.ref a) (.tup ds)
 |lst {a xs ds}:Dn K H a xs->Ag K H xs ds->Bu K H (.ref a) (.lst ds)
 |G9 {a kvs ds}:Rd H a (.dK kvs)->Ag K H (kvs.map yp) ds->Bu K H (.ref a) (.Ba false (kvs.map λ kv=>CT kv.1) ds)
 |Hh {a kvs ds}:Rd H a (.dT kvs)->Ag K H (kvs.map yp) ds->Bu K H (.ref a) (.Ba true (kvs.map λ kv=>.tup (kv.1.map CT)) ds)
 |ins {a C dx fs x ds}:zd K mainGlobals x=some (some (.ref C))->H a=some (.ins C dx fs)->Ag K H (fs.map yp) ds->Bu K H (.ref a) (.ins x (fs.map zG) ds)
 |Dp {a c x}:zd K mainGlobals x=some (some (.ref c))->H a=some (.ext (rQ a c))->Bu K H (.ref a) (.Dp x)
inductive Ag (K:za) (H:Hp):List V->List D->Prop
 |nil:Ag K H [] []
 |cons {x d xs ds}:Bu K H x d->Ag K H xs ds->Ag K H (x::xs) (d::ds)
end
def Ag.length {K:za}{H:Hp}:∀ {xs:List V}{ds:List D},Ag K H xs ds->xs.length=ds.length
 |_,_,.nil=>rfl
 |_,_,.cons _ t=>by rw[zp,zp,Ag.length t]
def Ag.get {K:za}{H:Hp}:∀ {xs:List V}{ds:List D}{i:Nat}{d:D},Ag K H xs ds->ds[i]?=some d->∃x,xs[i]?=some x/\Bu K H x d
 |_,_,_,_,.nil,e=>by simp at e
 |_,_,0,_,.cons r _,e=>by simp at e;subst e;exact⟨_,rfl,r⟩
 |_,_,i+1,d,.cons _ t,e=>by
  obtain⟨u,h1,h2⟩:=Ag.get (i:=i) (d:=d) t (by simpa using e);exact⟨u,by simpa using h1,h2⟩
def Ag.Ke {K:za}{H:Hp}:∀ {xs:List V}{ds:List D}{i:Nat}{x:V},Ag K H xs ds->xs[i]?=some x->∃d,ds[i]?=some d/\Bu K H x d
 |_,_,_,_,.nil,e=>by simp at e
 |_,_,0,_,.cons r _,e=>by simp at e;subst e;exact⟨_,rfl,r⟩
 |_,_,i+1,d,.cons _ t,e=>by
  obtain⟨u,h1,h2⟩:=Ag.Ke (i:=i) (x:=d) t (by simpa using e);exact⟨u,by simpa using h1,h2⟩
def Ag.append {K:za}{H:Hp}:∀ {xs ys:List V}{ds es:List D},Ag K H xs ds->Ag K H ys es->Ag K H (xs++ys) (ds++es)
 |_,_,_,_,.nil,h=>h
 |_,_,_,_,.cons r t,h=>.cons r (Ag.append t h)
def Ag.snoc {K:za}{H:Hp}{xs:List V}{ds:List D}{x:V}{d:D}(h:Ag K H xs ds)(r:Bu K H x d):Ag K H (xs++[x]) (ds++[d]):=h.append (.cons r .nil)
def Ag.take {K:za}{H:Hp}:∀ {xs:List V}{ds:List D}(n:Nat),Ag K H xs ds->Ag K H (xs.take n) (ds.take n)
 |_,_,0,_=>.nil
 |_,_,_+1,.nil=>.nil
 |_,_,n+1,.cons r t=>.cons r (Ag.take n t)
def Ag.drop {K:za}{H:Hp}:∀ {xs:List V}{ds:List D}(n:Nat),Ag K H xs ds->Ag K H (xs.drop n) (ds.drop n)
 |_,_,0,r=>r
 |_,_,_+1,.nil=>.nil
 |_,_,n+1,.cons _ t=>Ag.drop n t
def Ag.ints {K:za}{H:Hp}:∀(ns:List Int),Ag K H (ns.map V.int) (ns.map D.int)
 |[]=>.nil
 |n::r=>.cons (.int n) (Ag.ints r)
def Ae.rR {K:za}{H H':Hp}{a:Addr}{xs:List V}(e:Ae H H')(h:Er K H a xs):Er K H' a xs:=by
 rcases h with (h|⟨o,h⟩)|h
 ·exact .inl (.inl (e _ _ h))
 ·exact .inl (.inr ⟨o,e _ _ h⟩)
 ·exact .inr h
mutual
def Bu.mono {K:za}{H H':Hp}(e:Ae H H'):∀ {v:V}{d:D},Bu K H v d->Bu K H' v d
 |_,_,.AD=>.AD
 |_,_,.bl b=>.bl b
 |_,_,.int i=>.int i
 |_,_,.str x=>.str x
 |_,_,.tup h r=>.tup (e _ _ h) (Ag.mono e r)
 |_,_,.lst h r=>.lst (e.seq h) (Ag.mono e r)
 |_,_,.G9 h r=>.G9 (h.same e) (Ag.mono e r)
 |_,_,.Hh h r=>.Hh (h.same e) (Ag.mono e r)
 |_,_,.ins n h r=>.ins n (e _ _ h) (Ag.mono e r)
 |_,_,.Dp h r=>.Dp h (e _ _ r)
def Ag.mono {K:za}{H H':Hp}(e:Ae H H'):∀ {vs:List V}{ds:List D},Ag K H vs ds->Ag K H' vs ds
 |_,_,.nil=>.nil
 |_,_,.cons h t=>.cons (Bu.mono e h) (Ag.mono e t)
end
def AR {H:Hp}{p:Addr}(h:H p=none)(o:HO):Ae H (upd H p o):=λ b u q=>by rw[Ab (AB q h)];exact q
mutual
noncomputable def As:D->D->Bool
 | .AD,.AD=>true
 | .bl a,.bl b=>a==b
 | .int a,.int b=>a==b
 | .str a,.str b=>a==b
 | .bl a,.int b=>(if a then 1 else 0)==b
 | .int a,.bl b=>a==(if b then 1 else 0)
 | .tup a,.tup b=>C7 a b
 | .lst a,.lst b=>C7 a b
 | .Dp a,.Dp b=>a==b
 | .Ba s a b,.Ba t c d=>(s==t)&&(C7 a c&&C7 b d)
 | .ins x n a,.ins y m b=>(x==y)&&((n==m)&&C7 a b)
 |_,_=>false
noncomputable def C7:List D->List D->Bool
 |[],[]=>true
 |a::r,b::t=>As a b&&C7 r t
 |_,_=>false
end
mutual
def Mg:∀d:D,As d d=true
 | .AD=>by simp[As]
 | .bl b=>by simp[As]
 | .int b=>by simp[As]
 | .str b=>by simp[As]
 | .tup b=>by simp only[As];exact Dx b
 | .lst b=>by simp only[As];exact Dx b
 | .Dp b=>by simp[As]
 | .Ba s a b=>by simp only[As];rw[Dx a,Dx b];simp
 | .ins x n a=>by simp only[As];rw[Dx a];simp
def Dx:∀d:List D,C7 d d=true
 |[]=>by simp[C7]
 |a::r=>by simp only[C7,Mg a,Dx r,Bool.and_true]
end
mutual
noncomputable def AH:D->Bool
 | .tup a=>Mh a
 | .lst a=>Mh a
 | .Dp _=>false
 | .Ba _ _ _=>false
 | .ins _ _ _=>false
 |_=>true
noncomputable def Mh:List D->Bool
 |[]=>true
 |a::r=>AH a&&Mh r
end
def BX:∀ {ds:List D}{d:D},d∈ds->Mh ds=true->AH d=true
 |a::r,d,h,q=>by
  rw[Mh,zP] at q;rcases zr.mp h with z|z
  ·subst z;exact q.1
  ·exact BX z q.2
mutual
noncomputable def IS:D->Nat
 | .tup a=>Lc a+1
 | .lst a=>Lc a+1
 |_=>0
noncomputable def Lc:List D->Nat
 |[]=>0
 |a::r=>max (IS a) (Lc r)
end
def Fd:∀ {ds:List D}{d:D},d∈ds->IS d<=Lc ds
 |a::r,d,h=>by
  rw[Lc];rcases zr.mp h with z|z
  ·subst z;exact Nat.le_max_left _ _
  ·exact zY (Fd z) (Nat.le_max_right _ _)
def Qw:∀ {a b:List D},C7 a b=true->a.length=b.length
 |[],[],_=>rfl
 |[],_::_,h=>by simp[C7] at h
 |_::_,[],h=>by simp[C7] at h
 |a::r,b::t,h=>by
  simp only[C7,zP] at h;rw[zp,zp,Qw h.2]
def DL:∀(a b:List D),a.length=b.length->(yf a.length).all (λ j=>As (a.getD j .AD) (b.getD j .AD))=C7 a b
 |[],[],_=>by simp[C7]
 |a::r,b::t,h=>by
  have ih:=DL r t (by simpa using h);rw[zp,List.range_succ_eq_map,List.all_cons,List.all_map,C7,<-ih];simp[Function.comp_def]
 |[],_::_,h=>by cases h
 |_::_,[],h=>by cases h
def Lp {a b:List D}(h:a.length≠b.length):C7 a b=false:=by
 cases e:C7 a b with
 |false=>rfl
 |true=>exact absurd (Qw e) h
def Mi (a b:List D):((yf (min a.length b.length)).all (λ j=>As (a.getD j .AD) (b.getD j .AD))&&(a.length==b.length))=C7 a b:=by
 by_cases h:a.length=b.length
 ·rw[<-DL a b h,h];simp
 ·rw[Lp h,beq_false_of_ne h,Bool.and_false]
section
variable {X:Cx}{pins:List (Addr×Obj)}{σ:St}{H:Hp}{s:Shared}
def TX (I:Inv X pins σ H s){a:Addr}{xs ys:List V}(h:Dn X.K H a xs)(h':Er X.K H a ys):False:=by
 obtain⟨aa,_,⟨o,n,e,c,_,_⟩,_⟩:=I.list h;obtain⟨its',_,⟨o',e',c',_⟩,_⟩:=I.tuple h';rw[e] at e';cases e';rw[c] at c';revert c';decide
mutual
def Zw (I:Inv X pins σ H s):∀ {v:V}{d d':D},AH d=true->AH d'=true->Bu X.K H v d->Bu X.K H v d'->d=d'
 |_,_,_,_,_,.AD,.AD=>rfl
 |_,_,_,_,_,.bl _,.bl _=>rfl
 |_,_,_,_,_,.int _,.int _=>rfl
 |_,_,_,_,_,.str _,.str _=>rfl
 |_,_,_,n1,n2,.tup h r,.tup h' r'=>by
  have e:=I.EY (.of h) (.of h');subst e;rw[Ga I (by rw[AH] at n1;exact n1) (by rw[AH] at n2;exact n2) r r']
 |_,_,_,n1,n2,.lst h r,.lst h' r'=>by
  have e:=I.IW h h';subst e;rw[Ga I (by rw[AH] at n1;exact n1) (by rw[AH] at n2;exact n2) r r']
 |_,_,_,_,_,.tup h _,.lst h' _=>(TX I h' (.of h)).elim
 |_,_,_,_,_,.lst h _,.tup h' _=>(TX I h (.of h')).elim
 |_,_,_,n1,_,.Dp _ _,_=>by rw[AH] at n1;cases n1
 |_,_,_,n1,_,.G9 _ _,_=>by rw[AH] at n1;cases n1
 |_,_,_,n1,_,.Hh _ _,_=>by rw[AH] at n1;cases n1
 |_,_,_,n1,_,.ins _ _ _,_=>by rw[AH] at n1;cases n1
 |_,_,_,_,n2,_,.Dp _ _=>by rw[AH] at n2;cases n2
 |_,_,_,_,n2,_,.G9 _ _=>by rw[AH] at n2;cases n2
 |_,_,_,_,n2,_,.Hh _ _=>by rw[AH] at n2;cases n2
 |_,_,_,_,n2,_,.ins _ _ _=>by rw[AH] at n2;cases n2
def Ga (I:Inv X pins σ H s):∀ {v:List V}{d d':List D},Mh d=true->Mh d'=true->Ag X.K H v d->Ag X.K H v d'->d=d'
 |_,_,_,_,_,.nil,.nil=>rfl
 |_,_,_,n1,n2,.cons h r,.cons h' r'=>by
  rw[Mh,zP] at n1 n2;rw[Zw I n1.1 n2.1 h h',Ga I n1.2 n2.2 r r']
end
def Wq {xs:List V}{aa:List Value}(r:Vals xs aa)(j:Nat)(h:j<aa.toArray.size):∃x,xs[j]?=some x/\RelV x aa.toArray[j]:=by
 have h':j<aa.length:=by simpa using h
 have hx:j<xs.length:=by rw[r.length];exact h'
 obtain⟨u,hu,ru⟩:=r.get (zj hx);rw[zj h'] at hu;refine⟨xs[j],zj hx,?_⟩;have e:aa.toArray[j]=u:=by simpa using hu
 rw[e];exact ru
def Ce {ds:List D}{j:Nat}{d:D}(h:ds[j]?=some d):ds.getD j .AD=d:=by rw[yq,h];rfl
def OZ (I:Inv X pins σ H s):∀(n:Nat) (A:Around) (d e:D) (v w:V) (u1 u2:Value),IS d<=n->AH d=true->AH e=true->A.units+n<cLine->Bu X.K H v d->Bu X.K H w e->RelV v u1->RelV w u2->SeqAt.EqAt A s u1 u2 (As d e):=by
 intro n;induction n with
 |zero =>
  intro A d e v w u1 u2 hd ax af hu h1 h2 r1 r2;have am:A.units<cLine:=by omega
  cases h1 with
  |Dp _ _=>simp[AH] at ax
  |G9 _ _=>simp[AH] at ax
  |Hh _ _=>simp[AH] at ax
  |ins _ _ _=>simp[AH] at ax
  |AD =>
   cases r1;cases h2 with
   |Dp _ _=>simp[AH] at af
   |G9 _ _=>simp[AH] at af
   |Hh _ _=>simp[AH] at af
   |ins _ _ _=>simp[AH] at af
   |AD=>cases r2;simp only[As];exact .same _
   |bl b=>cases r2;simp only[As];exact .none_bool _
   |int b=>obtain⟨t,rfl⟩:=r2;simp only[As];exact .none_int _ _
   |str b=>obtain⟨t,rfl⟩:=r2;simp only[As];exact .none_str _ _
   |tup h r=>cases r2;simp only[As];obtain⟨_,_,p,_⟩:=I.tuple (.of h);exact .none_tuple p am
   |lst h r=>cases r2;simp only[As];obtain⟨_,_,p,_⟩:=I.list h;exact .none_list p.isList am
  |bl a =>
   cases r1;cases h2 with
   |Dp _ _=>simp[AH] at af
   |G9 _ _=>simp[AH] at af
   |Hh _ _=>simp[AH] at af
   |ins _ _ _=>simp[AH] at af
   |AD=>cases r2;simp only[As];exact .bool_none _
   |bl b=>cases r2;simp only[As];exact .bool_bool _ _
   |int b=>obtain⟨t,rfl⟩:=r2;simp only[As];exact .bool_int _ _ _
   |str b=>obtain⟨t,rfl⟩:=r2;simp only[As];exact .bool_str _ _ _
   |tup h r=>cases r2;simp only[As];obtain⟨_,_,p,_⟩:=I.tuple (.of h);exact .bool_tuple _ p am
   |lst h r=>cases r2;simp only[As];obtain⟨_,_,p,_⟩:=I.list h;exact .bool_list _ p.isList am
  |int a =>
   obtain⟨t',rfl⟩:=r1;cases h2 with
   |Dp _ _=>simp[AH] at af
   |G9 _ _=>simp[AH] at af
   |Hh _ _=>simp[AH] at af
   |ins _ _ _=>simp[AH] at af
   |AD=>cases r2;simp only[As];exact .int_none _ _
   |bl b=>cases r2;simp only[As];exact .int_bool _ _ _
   |int b=>obtain⟨t,rfl⟩:=r2;simp only[As];exact .int_int _ _ _ _
   |str b=>obtain⟨t,rfl⟩:=r2;simp only[As];exact .int_str _ _ _ _
   |tup h r=>cases r2;simp only[As];obtain⟨_,_,p,_⟩:=I.tuple (.of h);exact .int_tuple _ _ p am
   |lst h r=>cases r2;simp only[As];obtain⟨_,_,p,_⟩:=I.list h;exact .int_list _ _ p.isList am
  |str a =>
   obtain⟨t',rfl⟩:=r1;cases h2 with
   |Dp _ _=>simp[AH] at af
   |G9 _ _=>simp[AH] at af
   |Hh _ _=>simp[AH] at af
   |ins _ _ _=>simp[AH] at af
   |AD=>cases r2;simp only[As];exact .str_none _ _
   |bl b=>cases r2;simp only[As];exact .str_bool _ _ _
   |int b=>obtain⟨t,rfl⟩:=r2;simp only[As];exact .str_int _ _ _ _
   |str b=>obtain⟨t,rfl⟩:=r2;simp only[As];exact .str_str _ _ _ _
   |tup h r=>cases r2;simp only[As];obtain⟨_,_,p,_⟩:=I.tuple (.of h);exact .str_tuple _ _ p am
   |lst h r=>cases r2;simp only[As];obtain⟨_,_,p,_⟩:=I.list h;exact .str_list _ _ p.isList am
  |tup h r=>rw[IS] at hd;omega
  |lst h r=>rw[IS] at hd;omega
 |succ n ih =>
  intro A d e v w u1 u2 hd ax af hu h1 h2 r1 r2;have am:A.units<cLine:=by omega
  have t5:A.in1.units+n<cLine:=by show A.units+1+n<cLine;omega
  by_cases i9:IS d<=n
  ·exact ih A d e v w u1 u2 i9 ax af (by omega) h1 h2 r1 r2
  cases h1 with
  |Dp _ _=>simp[AH] at ax
  |G9 _ _=>simp[AH] at ax
  |Hh _ _=>simp[AH] at ax
  |ins _ _ _=>simp[AH] at ax
  |AD=>exact absurd (by simp[IS]) i9
  |bl _=>exact absurd (by simp[IS]) i9
  |int _=>exact absurd (by simp[IS]) i9
  |str _=>exact absurd (by simp[IS]) i9
  | @tup a xs ds h r =>
   cases r1;obtain⟨aa,rv,p,_⟩:=I.tuple (.of h);cases h2 with
   |Dp _ _=>simp[AH] at af
   |G9 _ _=>simp[AH] at af
   |Hh _ _=>simp[AH] at af
   |ins _ _ _=>simp[AH] at af
   |AD=>cases r2;simp only[As];exact .tuple_none p am
   |bl b=>cases r2;simp only[As];exact .tuple_bool _ p am
   |int b=>obtain⟨t,rfl⟩:=r2;simp only[As];exact .tuple_int _ _ p am
   |str b=>obtain⟨t,rfl⟩:=r2;simp only[As];exact .tuple_str _ _ p am
   | @lst a2 bY es h' r'=>cases r2;simp only[As];obtain⟨_,_,p',_⟩:=I.list h';exact .tuple_list p p'.isList am
   | @tup a2 bY es h' r' =>
    cases r2;by_cases ha:a=a2
    ·subst ha;have e':=I.EY (.of h) (.of h');subst e';have e2:=Ga I (by rw[AH] at ax;exact ax) (by rw[AH] at af;exact af) r r';subst e2;rw[Mg];exact .same _
    ·obtain⟨its',aZ,p',_⟩:=I.tuple (.of h');refine .of_refs ha ?_;have q:=SeqAt.RcAt.tuples (A:=A) (e:=λ j=>As (ds.getD j .AD) (es.getD j .AD)) p p' am λ j h1 h2=>?_
     ·have z1:aa.toArray.size=ds.length:=by rw[zk,<-rv.length,r.length]
      have z2:its'.toArray.size=es.length:=by rw[zk,<-aZ.length,r'.length]
      rw[z1,z2,Mi] at q;simp only[As];exact q
     ·obtain⟨x,hx,rx⟩:=Wq rv j h1;obtain⟨y,hy,ry⟩:=Wq aZ j h2;obtain⟨dx,ex,bZ⟩:=r.Ke hx;obtain⟨dy,ey,ca⟩:=r'.Ke hy;rw[Ce ex,Ce ey];refine ih A.in1 dx dy x y _ _ ?_ (BX (zo ex) (by rw[AH] at ax;exact ax)) (BX (zo ey) (by rw[AH] at af;exact af)) t5 bZ ca rx ry;rw[IS] at hd;have:=Fd (zo ex);omega
  | @lst a xs ds h r =>
   cases r1;obtain⟨aa,rv,p,_⟩:=I.list h;cases h2 with
   |Dp _ _=>simp[AH] at af
   |G9 _ _=>simp[AH] at af
   |Hh _ _=>simp[AH] at af
   |ins _ _ _=>simp[AH] at af
   |AD=>cases r2;simp only[As];exact .list_none p.isList am
   |bl b=>cases r2;simp only[As];exact .list_bool _ p.isList am
   |int b=>obtain⟨t,rfl⟩:=r2;simp only[As];exact .list_int _ _ p.isList am
   |str b=>obtain⟨t,rfl⟩:=r2;simp only[As];exact .list_str _ _ p.isList am
   | @tup a2 bY es h' r'=>cases r2;simp only[As];obtain⟨_,_,p',_⟩:=I.tuple (.of h');exact .list_tuple p.isList p' am
   | @lst a2 bY es h' r' =>
    cases r2;by_cases ha:a=a2
    ·subst ha;have e':=I.IW h h';subst e';have e2:=Ga I (by rw[AH] at ax;exact ax) (by rw[AH] at af;exact af) r r';subst e2;rw[Mg];exact .same _
    ·obtain⟨its',aZ,p',_⟩:=I.list h';refine .of_refs ha ?_;have z1:aa.toArray.size=ds.length:=by rw[zk,<-rv.length,r.length]
     have z2:its'.toArray.size=es.length:=by rw[zk,<-aZ.length,r'.length]
     by_cases hz:aa.toArray.size=its'.toArray.size
     ·have q:=SeqAt.RcAt.lists (A:=A) (e:=λ j=>As (ds.getD j .AD) (es.getD j .AD)) p.isList p'.isList hz am λ j h1 h2=>?_
      ·rw[z1,DL ds es (by rw[<-z1,<-z2,hz])] at q;simp only[As];exact q
      ·obtain⟨x,hx,rx⟩:=Wq rv j h1;obtain⟨y,hy,ry⟩:=Wq aZ j h2;obtain⟨dx,ex,bZ⟩:=r.Ke hx;obtain⟨dy,ey,ca⟩:=r'.Ke hy;rw[Ce ex,Ce ey];refine ih A.in1 dx dy x y _ _ ?_ (BX (zo ex) (by rw[AH] at ax;exact ax)) (BX (zo ey) (by rw[AH] at af;exact af)) t5 bZ ca rx ry;rw[IS] at hd;have:=Fd (zo ex);omega
     ·have q:=SeqAt.RcAt.lists_lengths (A:=A) p.isList p'.isList (by simpa using hz) am;simp only[As];rw[Lp (by rw[<-z1,<-z2];exact hz)];exact q
def rS (I:Inv X pins σ H s)(A:Around)(d e:D)(v w:V)(u1 u2:Value)(hd:A.units+IS d<cLine)(ax:AH d=true)(af:AH e=true)(h1:Bu X.K H v d)(h2:Bu X.K H w e)(r1:RelV v u1)(r2:RelV w u2):SeqAt.RcAt A s u1 u2 (As d e):=by
 have am:A.units<cLine:=by omega
 cases h1 with
 |Dp _ _=>simp[AH] at ax
 |G9 _ _=>simp[AH] at ax
 |Hh _ _=>simp[AH] at ax
 |ins _ _ _=>simp[AH] at ax
 |AD =>
  cases r1;cases h2 with
  |Dp _ _=>simp[AH] at af
  |G9 _ _=>simp[AH] at af
  |Hh _ _=>simp[AH] at af
  |ins _ _ _=>simp[AH] at af
  |AD=>cases r2;simp only[As];exact .none_none
  |bl b=>cases r2;simp only[As];exact .none_bool _
  |int b=>obtain⟨t,rfl⟩:=r2;simp only[As];exact .none_int _ _
  |str b=>obtain⟨t,rfl⟩:=r2;simp only[As];exact .none_str _ _
  |tup h r=>cases r2;simp only[As];obtain⟨_,_,p,_⟩:=I.tuple (.of h);exact .none_tuple  p am
  |lst h r=>cases r2;simp only[As];obtain⟨_,_,p,_⟩:=I.list h;exact .none_list  p.isList am
 |bl a =>
  cases r1;cases h2 with
  |Dp _ _=>simp[AH] at af
  |G9 _ _=>simp[AH] at af
  |Hh _ _=>simp[AH] at af
  |ins _ _ _=>simp[AH] at af
  |AD=>cases r2;simp only[As];exact .bool_none _
  |bl b=>cases r2;simp only[As];exact .bool_bool _ _
  |int b=>obtain⟨t,rfl⟩:=r2;simp only[As];exact .bool_int _ _ _
  |str b=>obtain⟨t,rfl⟩:=r2;simp only[As];exact .bool_str _ _ _
  |tup h r=>cases r2;simp only[As];obtain⟨_,_,p,_⟩:=I.tuple (.of h);exact .bool_tuple _ p am
  |lst h r=>cases r2;simp only[As];obtain⟨_,_,p,_⟩:=I.list h;exact .bool_list _ p.isList am
 |int a =>
  obtain⟨t',rfl⟩:=r1;cases h2 with
  |Dp _ _=>simp[AH] at af
  |G9 _ _=>simp[AH] at af
  |Hh _ _=>simp[AH] at af
  |ins _ _ _=>simp[AH] at af
  |AD=>cases r2;simp only[As];exact .int_none _ _
  |bl b=>cases r2;simp only[As];exact .int_bool _ _ _
  |int b=>obtain⟨t,rfl⟩:=r2;simp only[As];exact .int_int _ _ _ _
  |str b=>obtain⟨t,rfl⟩:=r2;simp only[As];exact .int_str _ _ _ _
  |tup h r=>cases r2;simp only[As];obtain⟨_,_,p,_⟩:=I.tuple (.of h);exact .int_tuple _ _ p am
  |lst h r=>cases r2;simp only[As];obtain⟨_,_,p,_⟩:=I.list h;exact .int_list _ _ p.isList am
 |str a =>
  obtain⟨t',rfl⟩:=r1;cases h2 with
  |Dp _ _=>simp[AH] at af
  |G9 _ _=>simp[AH] at af
  |Hh _ _=>simp[AH] at af
  |ins _ _ _=>simp[AH] at af
  |AD=>cases r2;simp only[As];exact .str_none _ _
  |bl b=>cases r2;simp only[As];exact .str_bool _ _ _
  |int b=>obtain⟨t,rfl⟩:=r2;simp only[As];exact .str_int _ _ _ _
  |str b=>obtain⟨t,rfl⟩:=r2;simp only[As];exact .str_str _ _ _ _
  |tup h r=>cases r2;simp only[As];obtain⟨_,_,p,_⟩:=I.tuple (.of h);exact .str_tuple _ _ p am
  |lst h r=>cases r2;simp only[As];obtain⟨_,_,p,_⟩:=I.list h;exact .str_list _ _ p.isList am
 | @tup a xs ds h r =>
  cases r1;obtain⟨aa,rv,p,_⟩:=I.tuple (.of h);cases h2 with
  |Dp _ _=>simp[AH] at af
  |G9 _ _=>simp[AH] at af
  |Hh _ _=>simp[AH] at af
  |ins _ _ _=>simp[AH] at af
  |AD=>cases r2;simp only[As];exact .tuple_none  p am
  |bl b=>cases r2;simp only[As];exact .tuple_bool _ p am
  |int b=>obtain⟨t,rfl⟩:=r2;simp only[As];exact .tuple_int _ _ p am
  |str b=>obtain⟨t,rfl⟩:=r2;simp only[As];exact .tuple_str _ _ p am
  | @lst a2 bY es h' r'=>cases r2;simp only[As];obtain⟨_,_,p',_⟩:=I.list h';exact .tuple_list p p'.isList am
  | @tup a2 bY es h' r' =>
   cases r2;obtain⟨its',aZ,p',_⟩:=I.tuple (.of h');have z1:aa.toArray.size=ds.length:=by rw[zk,<-rv.length,r.length]
   have z2:its'.toArray.size=es.length:=by rw[zk,<-aZ.length,r'.length]
   have q:=SeqAt.RcAt.tuples (A:=A) (e:=λ j=>As (ds.getD j .AD) (es.getD j .AD)) p p' am λ j h1 h2=>?_
   ·rw[z1,z2,Mi] at q;simp only[As];exact q
   ·obtain⟨x,hx,rx⟩:=Wq rv j h1;obtain⟨y,hy,ry⟩:=Wq aZ j h2;obtain⟨dx,ex,bZ⟩:=r.Ke hx;obtain⟨dy,ey,ca⟩:=r'.Ke hy;rw[Ce ex,Ce ey];rw[IS] at hd;have:=Fd (zo ex);exact OZ I (Lc ds) A.in1 dx dy x y _ _ this (BX (zo ex) (by rw[AH] at ax;exact ax)) (BX (zo ey) (by rw[AH] at af;exact af)) (by show A.units+1+_<cLine;omega) bZ ca rx ry
 | @lst a xs ds h r =>
  cases r1;obtain⟨aa,rv,p,_⟩:=I.list h;cases h2 with
  |Dp _ _=>simp[AH] at af
  |G9 _ _=>simp[AH] at af
  |Hh _ _=>simp[AH] at af
  |ins _ _ _=>simp[AH] at af
  |AD=>cases r2;simp only[As];exact .list_none  p.isList am
  |bl b=>cases r2;simp only[As];exact .list_bool _ p.isList am
  |int b=>obtain⟨t,rfl⟩:=r2;simp only[As];exact .list_int _ _ p.isList am
  |str b=>obtain⟨t,rfl⟩:=r2;simp only[As];exact .list_str _ _ p.isList am
  | @tup a2 bY es h' r'=>cases r2;simp only[As];obtain⟨_,_,p',_⟩:=I.tuple (.of h');exact .list_tuple p.isList p' am
  | @lst a2 bY es h' r' =>
   cases r2;obtain⟨its',aZ,p',_⟩:=I.list h';have z1:aa.toArray.size=ds.length:=by rw[zk,<-rv.length,r.length]
   have z2:its'.toArray.size=es.length:=by rw[zk,<-aZ.length,r'.length]
   by_cases hz:aa.toArray.size=its'.toArray.size
   ·have q:=SeqAt.RcAt.lists (A:=A) (e:=λ j=>As (ds.getD j .AD) (es.getD j .AD)) p.isList p'.isList hz am λ j h1 h2=>?_
    ·rw[z1,DL ds es (by rw[<-z1,<-z2,hz])] at q;simp only[As];exact q
    ·obtain⟨x,hx,rx⟩:=Wq rv j h1;obtain⟨y,hy,ry⟩:=Wq aZ j h2;obtain⟨dx,ex,bZ⟩:=r.Ke hx;obtain⟨dy,ey,ca⟩:=r'.Ke hy;rw[Ce ex,Ce ey];rw[IS] at hd;have:=Fd (zo ex);exact OZ I (Lc ds) A.in1 dx dy x y _ _ this (BX (zo ex) (by rw[AH] at ax;exact ax)) (BX (zo ey) (by rw[AH] at af;exact af)) (by show A.units+1+_<cLine;omega) bZ ca rx ry
   ·have q:=SeqAt.RcAt.lists_lengths (A:=A) p.isList p'.isList (by simpa using hz) am;simp only[As];rw[Lp (by rw[<-z1,<-z2];exact hz)];exact q
def nL (I:Inv X pins σ H s)(A:Around)(d e:D)(v w:V)(u1 u2:Value)(hd:A.units+IS d<cLine)(ax:AH d=true)(af:AH e=true)(h1:Bu X.K H v d)(h2:Bu X.K H w e)(r1:RelV v u1)(r2:RelV w u2):SeqAt.RcNeAt A s u1 u2 (!As d e):=by
 have am:A.units<cLine:=by omega
 cases h1 with
 |Dp _ _=>simp[AH] at ax
 |G9 _ _=>simp[AH] at ax
 |Hh _ _=>simp[AH] at ax
 |ins _ _ _=>simp[AH] at ax
 |AD =>
  cases r1;cases h2 with
  |Dp _ _=>simp[AH] at af
  |G9 _ _=>simp[AH] at af
  |Hh _ _=>simp[AH] at af
  |ins _ _ _=>simp[AH] at af
  |AD=>cases r2;simp only[As];exact .none_none
  |bl b=>cases r2;simp only[As];exact .none_bool _
  |int b=>obtain⟨t,rfl⟩:=r2;simp only[As];exact .none_int _ _
  |str b=>obtain⟨t,rfl⟩:=r2;simp only[As];exact .none_str _ _
  |tup h r=>cases r2;simp only[As];obtain⟨_,_,p,_⟩:=I.tuple (.of h);exact .none_tuple  p am
  |lst h r=>cases r2;simp only[As];obtain⟨_,_,p,_⟩:=I.list h;exact .none_list  p.isList am
 |bl a =>
  cases r1;cases h2 with
  |Dp _ _=>simp[AH] at af
  |G9 _ _=>simp[AH] at af
  |Hh _ _=>simp[AH] at af
  |ins _ _ _=>simp[AH] at af
  |AD=>cases r2;simp only[As];exact .bool_none _
  |bl b=>cases r2;simp only[As];exact .bool_bool _ _
  |int b=>obtain⟨t,rfl⟩:=r2;simp only[As];exact .bool_int _ _ _
  |str b=>obtain⟨t,rfl⟩:=r2;simp only[As];exact .bool_str _ _ _
  |tup h r=>cases r2;simp only[As];obtain⟨_,_,p,_⟩:=I.tuple (.of h);exact .bool_tuple _ p am
  |lst h r=>cases r2;simp only[As];obtain⟨_,_,p,_⟩:=I.list h;exact .bool_list _ p.isList am
 |int a =>
  obtain⟨t',rfl⟩:=r1;cases h2 with
  |Dp _ _=>simp[AH] at af
  |G9 _ _=>simp[AH] at af
  |Hh _ _=>simp[AH] at af
  |ins _ _ _=>simp[AH] at af
  |AD=>cases r2;simp only[As];exact .int_none _ _
  |bl b=>cases r2;simp only[As];exact .int_bool _ _ _
  |int b=>obtain⟨t,rfl⟩:=r2;simp only[As];exact .int_int _ _ _ _
  |str b=>obtain⟨t,rfl⟩:=r2;simp only[As];exact .int_str _ _ _ _
  |tup h r=>cases r2;simp only[As];obtain⟨_,_,p,_⟩:=I.tuple (.of h);exact .int_tuple _ _ p am
  |lst h r=>cases r2;simp only[As];obtain⟨_,_,p,_⟩:=I.list h;exact .int_list _ _ p.isList am
 |str a =>
  obtain⟨t',rfl⟩:=r1;cases h2 with
  |Dp _ _=>simp[AH] at af
  |G9 _ _=>simp[AH] at af
  |Hh _ _=>simp[AH] at af
  |ins _ _ _=>simp[AH] at af
  |AD=>cases r2;simp only[As];exact .str_none _ _
  |bl b=>cases r2;simp only[As];exact .str_bool _ _ _
  |int b=>obtain⟨t,rfl⟩:=r2;simp only[As];exact .str_int _ _ _ _
  |str b=>obtain⟨t,rfl⟩:=r2;simp only[As];exact .str_str _ _ _ _
  |tup h r=>cases r2;simp only[As];obtain⟨_,_,p,_⟩:=I.tuple (.of h);exact .str_tuple _ _ p am
  |lst h r=>cases r2;simp only[As];obtain⟨_,_,p,_⟩:=I.list h;exact .str_list _ _ p.isList am
 | @tup a xs ds h r =>
  cases r1;obtain⟨aa,rv,p,_⟩:=I.tuple (.of h);cases h2 with
  |Dp _ _=>simp[AH] at af
  |G9 _ _=>simp[AH] at af
  |Hh _ _=>simp[AH] at af
  |ins _ _ _=>simp[AH] at af
  |AD=>cases r2;simp only[As];exact .tuple_none  p am
  |bl b=>cases r2;simp only[As];exact .tuple_bool _ p am
  |int b=>obtain⟨t,rfl⟩:=r2;simp only[As];exact .tuple_int _ _ p am
  |str b=>obtain⟨t,rfl⟩:=r2;simp only[As];exact .tuple_str _ _ p am
  | @lst a2 bY es h' r'=>cases r2;simp only[As];obtain⟨_,_,p',_⟩:=I.list h';exact .tuple_list p p'.isList am
  | @tup a2 bY es h' r' =>
   cases r2;obtain⟨its',aZ,p',_⟩:=I.tuple (.of h');have z1:aa.toArray.size=ds.length:=by rw[zk,<-rv.length,r.length]
   have z2:its'.toArray.size=es.length:=by rw[zk,<-aZ.length,r'.length]
   have q:=SeqAt.RcNeAt.tuples (A:=A) (e:=λ j=>As (ds.getD j .AD) (es.getD j .AD)) p p' am λ j h1 h2=>?_
   ·rw[z1,z2,Mi] at q;simp only[As];exact q
   ·obtain⟨x,hx,rx⟩:=Wq rv j h1;obtain⟨y,hy,ry⟩:=Wq aZ j h2;obtain⟨dx,ex,bZ⟩:=r.Ke hx;obtain⟨dy,ey,ca⟩:=r'.Ke hy;rw[Ce ex,Ce ey];rw[IS] at hd;have:=Fd (zo ex);exact OZ I (Lc ds) A.in1 dx dy x y _ _ this (BX (zo ex) (by rw[AH] at ax;exact ax)) (BX (zo ey) (by rw[AH] at af;exact af)) (by show A.units+1+_<cLine;omega) bZ ca rx ry
 | @lst a xs ds h r =>
  cases r1;obtain⟨aa,rv,p,_⟩:=I.list h;cases h2 with
  |Dp _ _=>simp[AH] at af
  |G9 _ _=>simp[AH] at af
  |Hh _ _=>simp[AH] at af
  |ins _ _ _=>simp[AH] at af
  |AD=>cases r2;simp only[As];exact .list_none  p.isList am
  |bl b=>cases r2;simp only[As];exact .list_bool _ p.isList am
  |int b=>obtain⟨t,rfl⟩:=r2;simp only[As];exact .list_int _ _ p.isList am
  |str b=>obtain⟨t,rfl⟩:=r2;simp only[As];exact .list_str _ _ p.isList am
  | @tup a2 bY es h' r'=>cases r2;simp only[As];obtain⟨_,_,p',_⟩:=I.tuple (.of h');exact .list_tuple p.isList p' am
  | @lst a2 bY es h' r' =>
   cases r2;obtain⟨its',aZ,p',_⟩:=I.list h';have z1:aa.toArray.size=ds.length:=by rw[zk,<-rv.length,r.length]
   have z2:its'.toArray.size=es.length:=by rw[zk,<-aZ.length,r'.length]
   by_cases hz:aa.toArray.size=its'.toArray.size
   ·have q:=SeqAt.RcNeAt.lists (A:=A) (e:=λ j=>As (ds.getD j .AD) (es.getD j .AD)) p.isList p'.isList hz am λ j h1 h2=>?_
    ·rw[z1,DL ds es (by rw[<-z1,<-z2,hz])] at q;simp only[As];exact q
    ·obtain⟨x,hx,rx⟩:=Wq rv j h1;obtain⟨y,hy,ry⟩:=Wq aZ j h2;obtain⟨dx,ex,bZ⟩:=r.Ke hx;obtain⟨dy,ey,ca⟩:=r'.Ke hy;rw[Ce ex,Ce ey];rw[IS] at hd;have:=Fd (zo ex);exact OZ I (Lc ds) A.in1 dx dy x y _ _ this (BX (zo ex) (by rw[AH] at ax;exact ax)) (BX (zo ey) (by rw[AH] at af;exact af)) (by show A.units+1+_<cLine;omega) bZ ca rx ry
   ·have q:=SeqAt.RcNeAt.lists_lengths (A:=A) p.isList p'.isList (by simpa using hz) am;simp only[As];rw[Lp (by rw[<-z1,<-z2];exact hz)];exact q
noncomputable def Zx (K:za)(A:Around)(neg:Bool):R2:=λ x y H Q=>∃d e,Bu K H x d/\Bu K H y e/\A.units+IS d<cLine/\AH d=true/\AH e=true/\Q (.bl (if neg=true then !As d e else As d e)) H
def X9:G5 X (compareOp .Eq) (Zx X.K X.A false):=by
 intro pins s σ H x y v u Q I rx ry h;obtain⟨d,e,hd,he,hu,n1,n2,q⟩:=h;exact rS I X.A d e x y v u hu n1 n2 hd he rx ry X.prog X.w X.xe _ ⟨.bl _,H,I,rfl,q⟩
def iW:G5 X (compareOp .NotEq) (Zx X.K X.A true):=by
 intro pins s σ H x y v u Q I rx ry h;obtain⟨d,e,hd,he,hu,n1,n2,q⟩:=h;exact nL I X.A d e x y v u hu n1 n2 hd he rx ry X.prog X.w X.xe _ ⟨.bl _,H,I,rfl,q⟩
end
inductive OT where
 |sh (d:D)|lst (ts:List OT)|tup (ts:List OT)|Ba (t:Bool) (ks:List D) (ts:List OT)|ins (x:Str) (ns:List Str) (ts:List OT)
inductive Ow where
 |rows (Fe:List (List D))
 |Ld (p:Nat) (ds:List D)
 |tree (p:Option Nat) (t:OT)
inductive Cl where
 |val (d:D)|own (ds:List D)|ow (o:Ow)
noncomputable abbrev Aa:=List (Option Cl)
inductive M (α:Type) where
 |ok (a:α)|ex (c:Str)|bad
noncomputable def M.bind {α β:Type}(m:M α)(k:α->M β):M β:=match m with
 | .ok a=>k a
 | .ex c=>.ex c
 | .bad=>.bad
@[simp] theorem M.A7 {α β:Type}(a:α) (k:α->M β):(M.ok a).bind k=k a:=rfl
noncomputable def del (H:Hp)(P:Addr->Prop):Hp:=λ a=>open Classical in if P a then none else H a
def Ar {H:Hp}{P:Addr->Prop}{a:Addr}(h:¬ P a):del H P a=H a:=by unfold del;rw[if_neg h]
def Ff {H:Hp}{P:Addr->Prop}{a:Addr}(h:P a):del H P a=none:=by unfold del;rw[if_pos h]
def Ai {H:Hp}{P:Addr->Prop}{a:Addr}{o:HO}(h:del H P a=some o):¬ P a/\H a=some o:=by
 by_cases hp:P a
 ·rw[Ff hp] at h;cases h
 ·rw[Ar hp] at h;exact⟨hp,h⟩
def Rd.B8 {H:Hp}{P:Addr->Prop}{a:Addr}{u:HO}(r:Rd (del H P) a u):Rd H a u:=r.elim (λ h=>.inl (Ai h).2) λ⟨o,h⟩=>.inr ⟨o,(Ai h).2⟩
def Ae.del {H H':Hp}{P:Addr->Prop}(e:Ae H H'):Ae (del H P) (del H' P):=λ b o h=>by
 obtain⟨h1,h2⟩:=Ai h;rw[Ar h1];exact e b o h2
def Cv {H:Hp}{P P':Addr->Prop}(h:∀a,P' a->P a):Ae (L2.del H P) (L2.del H P'):=λ b o e=>by
 obtain⟨h1,h2⟩:=Ai e;rw[Ar λ z=>h1 (h b z)];exact h2
def DM {H:Hp}{P:Addr->Prop}:Ae (L2.del H P) H:=λ b o e=>(Ai e).2
def Eo (H:Hp)(a:Addr):Prop:=∃o,H a=some o/\∀xs,o≠.tup xs/\∀z,o≠.EW z (.tup xs)
def Eo.same {H H':Hp}{a:Addr}(h:Eo H a)(e:Ae H H'):Eo H' a:=let ⟨o,q,r⟩:=h;⟨o,e a o q,r⟩
def Eo.no {H:Hp}{a:Addr}(h:Eo H a)(e:H a=none):False:=by
 obtain⟨o,q,r⟩:=h;rw[e] at q;cases q
def Eo.lst {H:Hp}{a:Addr}{xs:List V}(h:H a=some (.lst xs)):Eo H a:=⟨_,h,λ _=>⟨λ z=>(by cases z),λ _ z=>by cases z⟩⟩
mutual
inductive BI (K:za) (H:Hp) (P:Addr->Prop):V->OT->List Addr->Prop
 |sh {v d}:Bu K (del H P) v d->BI K H P v (.sh d) []
 |lst {p xs ts fp}:H p=some (.lst xs)->Au K H P xs ts fp->BI K H P (.ref p) (.lst ts) (p::fp)
 |tup {p xs ts fp}:del H P p=some (.tup xs)->Au K H P xs ts fp->BI K H P (.ref p) (.tup ts) fp
 |dK {p kvs ts fp}:H p=some (.dK kvs)->Au K H P (kvs.map yp) ts fp->BI K H P (.ref p) (.Ba false (kvs.map λ kv=>CT kv.1) ts) (p::fp)
 |dT {p kvs ts fp}:H p=some (.dT kvs)->Au K H P (kvs.map yp) ts fp->BI K H P (.ref p) (.Ba true (kvs.map λ kv=>.tup (kv.1.map CT)) ts) (p::fp)
 |ins {p C dx fs ts fp x}:zd K mainGlobals x=some (some (.ref C))->H p=some (.ins C dx fs)->Au K H P (fs.map yp) ts fp->BI K H P (.ref p) (.ins x (fs.map zG) ts) (p::fp)
inductive Au (K:za) (H:Hp) (P:Addr->Prop):List V->List OT->List Addr->Prop
 |nil:Au K H P [] [] []
 |cons {v t fp vs ts fq}:BI K H P v t fp->Au K H P vs ts fq->Au K H P (v::vs) (t::ts) (fp++fq)
end
mutual
noncomputable def er:OT->D
 | .sh d=>d
 | .lst ts=>.lst (Qx ts)
 | .tup ts=>.tup (Qx ts)
 | .Ba t ks ts=>.Ba t ks (Qx ts)
 | .ins x ns ts=>.ins x ns (Qx ts)
noncomputable def Qx:List OT->List D
 |[]=>[]
 |t::r=>er t::Qx r
end
def TY:∀ts:List OT,Qx ts=ts.map er
 |[]=>rfl
 |t::r=>by rw[Qx,TY r,zg]
mutual
def BI.move {K:za}{H H':Hp}{P P':Addr->Prop}(sm:Ae (del H P) (del H' P')):∀ {v:V}{t:OT}{fp:List Addr},(∀a∈fp,H' a=H a)->BI K H P v t fp->BI K H' P' v t fp
 |_,_,_,_,.sh h=>.sh (h.mono sm)
 |_,_,_,k,.lst h r=>.lst ((k _ zc).trans h) (Au.move sm (λ a ha=>k a (zf _ ha)) r)
 |_,_,_,k,.tup h r=>.tup (sm _ _ h) (Au.move sm k r)
 |_,_,_,k,.dK h r=>.dK ((k _ zc).trans h) (Au.move sm (λ a ha=>k a (zf _ ha)) r)
 |_,_,_,k,.dT h r=>.dT ((k _ zc).trans h) (Au.move sm (λ a ha=>k a (zf _ ha)) r)
 |_,_,_,k,.ins n h r=>.ins n ((k _ zc).trans h) (Au.move sm (λ a ha=>k a (zf _ ha)) r)
def Au.move {K:za}{H H':Hp}{P P':Addr->Prop}(sm:Ae (del H P) (del H' P')):∀ {v:List V}{t:List OT}{fp:List Addr},(∀a∈fp,H' a=H a)->Au K H P v t fp->Au K H' P' v t fp
 |_,_,_,_,.nil=>.nil
 |_,_,_,k,.cons h r=>.cons (BI.move sm (λ a ha=>k a (zJ _ ha)) h) (Au.move sm (λ a ha=>k a (zl _ ha)) r)
end
mutual
def BI.Cg {K:za}{H:Hp}{P:Addr->Prop}:∀ {v:V}{t:OT}{fp:List Addr},BI K H P v t fp->∀a∈fp,Eo H a
 |_,_,_,.sh h,a,ha=>by cases ha
 |_,_,_,.lst h r,a,ha=>by
  rcases zr.mp ha with rfl|ha
  ·exact .lst h
  ·exact Au.Cg r a ha
 |_,_,_,.tup h r,a,ha=>Au.Cg r a ha
 |_,_,_,.dK h r,a,ha=>by
  rcases zr.mp ha with rfl|ha
  ·exact⟨_,h,λ _=>⟨λ z=>(by cases z),λ _ z=>by cases z⟩⟩
  ·exact Au.Cg r a ha
 |_,_,_,.dT h r,a,ha=>by
  rcases zr.mp ha with rfl|ha
  ·exact⟨_,h,λ _=>⟨λ z=>(by cases z),λ _ z=>by cases z⟩⟩
  ·exact Au.Cg r a ha
 |_,_,_,.ins n h r,a,ha=>by
  rcases zr.mp ha with rfl|ha
  ·exact⟨_,h,λ _=>⟨λ z=>(by cases z),λ _ z=>by cases z⟩⟩
  ·exact Au.Cg r a ha
def Au.Cg {K:za}{H:Hp}{P:Addr->Prop}:∀ {v:List V}{t:List OT}{fp:List Addr},Au K H P v t fp->∀a∈fp,Eo H a
 |_,_,_,.nil,a,ha=>by cases ha
 |_,_,_,.cons h r,a,ha=>by
  rcases zC.mp ha with ha|ha
  ·exact BI.Cg h a ha
  ·exact Au.Cg r a ha
end
mutual
def BI.C8 {K:za}{H:Hp}{P P':Addr->Prop}:∀ {v:V}{t:OT}{fp ai:List Addr},BI K H P v t fp->BI K H P' v t ai->fp=ai
 |_,_,_,_,.sh _,.sh _=>rfl
 |_,_,_,_,.lst h r,.lst h' r'=>by
  rw[h] at h';cases h';rw[Au.C8 r r']
 |_,_,_,_,.tup h r,.tup h' r'=>by
  have e:=(Ai h).2.symm.trans (Ai h').2;cases e;exact Au.C8 r r'
 |_,_,_,_,.dK (kvs:=kvs) (ts:=ts) h r,x=>by
  generalize ht:OT.Ba false (kvs.map λ kv=>CT kv.1) ts=t at x;cases x with
  |dK h' r' =>
   rw[h] at h';cases h';injection ht with _ _ e
   subst e;rw[Au.C8 r r']
  |dT h' r'=>rw[h] at h';cases h'
  |_=>cases ht
 |_,_,_,_,.dT (kvs:=kvs) (ts:=ts) h r,x=>by
  generalize ht:OT.Ba true (kvs.map λ kv=>D.tup (kv.1.map CT)) ts=t at x;cases x with
  |dT h' r' =>
   rw[h] at h';cases h';injection ht with _ _ e
   subst e;rw[Au.C8 r r']
  |dK h' r'=>rw[h] at h';cases h'
  |_=>cases ht
 |_,_,_,_,.ins (fs:=fs) (ts:=ts) (x:=y) n h r,x=>by
  generalize ht:OT.ins y (fs.map zG) ts=t at x;cases x with
  |ins n' h' r' =>
   rw[h] at h';cases h';injection ht with _ _ e
   subst e;rw[Au.C8 r r']
  |_=>cases ht
def Au.C8 {K:za}{H:Hp}{P P':Addr->Prop}:∀ {v:List V}{t:List OT}{fp ai:List Addr},Au K H P v t fp->Au K H P' v t ai->fp=ai
 |_,_,_,_,.nil,.nil=>rfl
 |_,_,_,_,.cons h r,.cons h' r'=>by rw[BI.C8 h h',Au.C8 r r']
end
mutual
def BI.has {K:za}{H:Hp}{P P0:Addr->Prop}(hs:∀a,P0 a->P a):∀ {v:V}{t:OT}{fp:List Addr},(∀a∈fp,¬ P0 a)->BI K H P v t fp->Bu K (del H P0) v (er t)
 |_,_,_,_,.sh h=>by rw[er];exact h.mono (Cv hs)
 |_,_,_,k,.lst h r=>by rw[er];exact .lst (.of (show del H P0 _=_ by rw[Ar (k _ zc)];exact h)) (Au.has hs (λ a ha=>k a (zf _ ha)) r)
 |_,_,_,k,.tup h r=>by rw[er];exact .tup (Cv hs _ _ h) (Au.has hs k r)
 |_,_,_,k,.dK h r=>by rw[er];exact .G9 (.inl (show del H P0 _=_ by rw[Ar (k _ zc)];exact h)) (Au.has hs (λ a ha=>k a (zf _ ha)) r)
 |_,_,_,k,.dT h r=>by rw[er];exact .Hh (.inl (show del H P0 _=_ by rw[Ar (k _ zc)];exact h)) (Au.has hs (λ a ha=>k a (zf _ ha)) r)
 |_,_,_,k,.ins n h r=>by rw[er];exact .ins n (show del H P0 _=_ by rw[Ar (k _ zc)];exact h) (Au.has hs (λ a ha=>k a (zf _ ha)) r)
def Au.has {K:za}{H:Hp}{P P0:Addr->Prop}(hs:∀a,P0 a->P a):∀ {v:List V}{t:List OT}{fp:List Addr},(∀a∈fp,¬ P0 a)->Au K H P v t fp->Ag K (del H P0) v (Qx t)
 |_,_,_,_,.nil=>by rw[Qx];exact .nil
 |_,_,_,k,.cons h r=>by rw[Qx];exact .cons (BI.has hs (λ a ha=>k a (zJ _ ha)) h) (Au.has hs (λ a ha=>k a (zl _ ha)) r)
end
inductive Cw (K:za) (H:Hp) (P:Addr->Prop):List Addr->List (List D)->Prop
 |nil:Cw K H P [] []
 |cons {q:Addr} {xs:List V} {ds:List D} {ps:List Addr} {Fe:List (List D)}:H q=some (.lst xs)->Ag K (del H P) xs ds->Cw K H P ps Fe->Cw K H P (q::ps) (ds::Fe)
def CK (K:za)(H:Hp)(P:Addr->Prop):Cl->V->List Addr->Prop
 | .own ds,v,fp=>∃p xs,v=.ref p/\fp=[p]/\H p=some (.lst xs)/\Ag K (del H P) xs ds
 | .ow (.rows Fe),v,fp=>∃p ps,v=.ref p/\fp=p::ps/\H p=some (.lst (ps.map V.ref))/\Cw K H P ps Fe
 | .ow (.Ld _ ds),v,fp=>∃p xs,v=.ref p/\fp=[p]/\H p=some (.lst xs)/\Ag K (del H P) xs ds
 | .ow (.tree _ t),v,fp=>BI K H P v t fp
 | .val _,_,_=>False
noncomputable def Gb:Cl->Bool
 | .val _=>false
 |_=>true
def Cw.move {K:za}{H H':Hp}{P P':Addr->Prop}(sm:Ae (del H P) (del H' P')):∀ {ps:List Addr}{Fe:List (List D)},(∀a∈ps,H' a=H a)->Cw K H P ps Fe->Cw K H' P' ps Fe
 |_,_,_,.nil=>.nil
 |_,_,k,.cons h r t=>.cons ((k _ zc).trans h) (r.mono sm) (Cw.move sm (λ a ha=>k a (zf _ ha)) t)
def Cw.at {K:za}{H:Hp}{P:Addr->Prop}:∀ {ps:List Addr}{Fe:List (List D)},Cw K H P ps Fe->∀a∈ps,∃xs,H a=some (.lst xs)
 |_,_,.nil,a,h=>by cases h
 |_,_,.cons h r t,a,ha=>by
  rcases zr.mp ha with rfl|ha
  ·exact⟨_,h⟩
  ·exact t.at a ha
def Qy:∀ {ps qs:List Addr},ps.map V.ref=qs.map V.ref->ps=qs
 |[],[],_=>rfl
 |[],_::_,h=>by cases h
 |_::_,[],h=>by cases h
 |p::ps,q::qs,h=>by
  rw[zg,zg] at h;injection h with h1 h2
  injection h1 with h1
  rw[h1,Qy h2]
def CK.move {K:za}{H H':Hp}{P P':Addr->Prop}(sm:Ae (del H P) (del H' P')){c:Cl}{v:V}{fp:List Addr}(k:∀a∈fp,H' a=H a)(h:CK K H P c v fp):CK K H' P' c v fp:=by
 cases c with
 |val d=>exact h
 |own ds =>
  obtain⟨p,xs,rfl,rfl,h1,h2⟩:=h;exact⟨p,xs,rfl,rfl,(k p zc).trans h1,h2.mono sm⟩
 |ow o =>
  cases o with
  |rows Fe =>
   obtain⟨p,ps,rfl,rfl,h1,h2⟩:=h;exact⟨p,ps,rfl,rfl,(k p zc).trans h1,h2.move sm λ a ha=>k a (zf _ ha)⟩
  |Ld p ds =>
   obtain⟨p,xs,rfl,rfl,h1,h2⟩:=h;exact⟨p,xs,rfl,rfl,(k p zc).trans h1,h2.mono sm⟩
  |tree p t=>exact BI.move sm k h
def CK.at {K:za}{H:Hp}{P:Addr->Prop}{c:Cl}{v:V}{fp:List Addr}(h:CK K H P c v fp):∀a∈fp,∃o,H a=some o:=by
 cases c with
 |val d=>exact h.elim
 |own ds =>
  obtain⟨p,xs,rfl,rfl,h1,h2⟩:=h;exact λ a ha=>⟨.lst xs,by rw[zq.mp ha];exact h1⟩
 |ow o =>
  cases o with
  |rows Fe =>
   obtain⟨p,ps,rfl,rfl,h1,h2⟩:=h;intro a ha;rcases zr.mp ha with rfl|ha
   ·exact⟨_,h1⟩
   ·obtain⟨xs,q⟩:=h2.at a ha;exact⟨_,q⟩
  |Ld p ds =>
   obtain⟨p,xs,rfl,rfl,h1,h2⟩:=h;exact λ a ha=>⟨.lst xs,by rw[zq.mp ha];exact h1⟩
  |tree p t =>
   intro a ha;obtain⟨o,q,_⟩:=BI.Cg h a ha;exact⟨o,q⟩
def CK.same {K:za}{H H':Hp}{P:Addr->Prop}(e:Ae H H'){c:Cl}{v:V}{fp:List Addr}(h:CK K H P c v fp):CK K H' P c v fp:=
 h.move e.del λ a ha=>by obtain⟨xs,q⟩:=h.at a ha;rw[q];exact e _ _ q
def CK.C8 {K:za}{H:Hp}{P P':Addr->Prop}{c:Cl}{v:V}{fp ai:List Addr}(h:CK K H P c v fp)(h':CK K H P' c v ai):fp=ai:=by
 cases c with
 |val d=>exact h.elim
 |own ds =>
  obtain⟨p,xs,rfl,rfl,h1,h2⟩:=h;obtain⟨p',dl,e,rfl,dm,g8⟩:=h';cases e;rfl
 |ow o =>
  cases o with
  |rows Fe =>
   obtain⟨p,ps,rfl,rfl,h1,h2⟩:=h;obtain⟨p',wO,e,rfl,dm,g8⟩:=h';cases e;rw[h1] at dm;injection dm with e
   injection e with e
   rw[Qy e]
  |Ld p ds =>
   obtain⟨p,xs,rfl,rfl,h1,h2⟩:=h;obtain⟨p',dl,e,rfl,dm,g8⟩:=h';cases e;rfl
  |tree p t=>exact BI.C8 h h'
structure Dg where
 pr:Addr->Prop
 g:Nat->Addr
instance:CoeFun Dg (λ _=>Addr->Prop):=⟨Dg.pr⟩
instance:Coe Dg (Addr->Prop):=⟨Dg.pr⟩
noncomputable def O3:Cl->Option Nat
 | .ow (.Ld n _)=>some n
 | .ow (.tree (some n) _)=>some n
 |_=>none
structure Ak (K:za)(P0:Dg)(P:Addr->Prop)(H:Hp)(σ:St)(ρ:Aa):Prop where
 sub:∀a,P0 a->P a
 Cg:∀a,P a->Eo H a
 val:∀(i:Nat) d,ρ[i]?=some (some (.val d))->∃v,σ[i]?=some (some v)/\Bu K (del H P) v d
 ows:∀(i:Nat) c,ρ[i]?=some (some c)->Gb c=true->∃v fp,σ[i]?=some (some v)/\CK K H P c v fp/\(∀a∈fp,P a/\¬ P0 a)/\fp.Nodup
 apart:∀(i j:Nat) c c' v v' fp ai,ρ[i]?=some (some c)->ρ[j]?=some (some c')->σ[i]?=some (some v)->σ[j]?=some (some v')->CK K H P c v fp->CK K H P c' v' ai->i≠j->∀a∈fp,a∉ai
 len:σ.length=ρ.length
 pin:∀(i:Nat) c n,ρ[i]?=some (some c)->O3 c=some n->σ[i]?=some (some (.ref (P0.g n)))
def Ak.own {K:za}{P0:Dg}{P:Addr->Prop}{H:Hp}{σ:St}{ρ:Aa}(E:Ak K P0 P H σ ρ)(i:Nat)(ds:List D)(h:ρ[i]?=some (some (.own ds))):
 ∃p xs,σ[i]?=some (some (.ref p))/\H p=some (.lst xs)/\P p/\¬ P0 p/\Ag K (del H P) xs ds:=by
 obtain⟨v,fp,h1,⟨p,xs,rfl,rfl,h2,h3⟩,h4,_⟩:=E.ows i _ h rfl;exact⟨p,xs,h1,h2,(h4 p zc).1,(h4 p zc).2,h3⟩
def Ak.Xa {K:za}{P0:Dg}{P P':Addr->Prop}{H H':Hp}{σ:St}{ρ:Aa}(E:Ak K P0 P H σ ρ)(sm:Ae (del H P) (del H' P')){i j:Nat}{c c':Cl}{v v':V}{fp ai:List Addr}
 (ki:∀v fp,σ[i]?=some (some v)->CK K H P c v fp->∀a∈fp,H' a=H a) (kj:∀v fp,σ[j]?=some (some v)->CK K H P c' v fp->∀a∈fp,H' a=H a)
 (hi:ρ[i]?=some (some c)) (hj:ρ[j]?=some (some c')) (si:σ[i]?=some (some v)) (sj:σ[j]?=some (some v')) (h:CK K H' P' c v fp) (h':CK K H' P' c' v' ai) (ae:i≠j):∀a∈fp,a∉ai:=by
 have key:∀(k:Nat) (d:Cl) (w:V) (fq:List Addr),ρ[k]?=some (some d)->σ[k]?=some (some w)->(∀v fp,σ[k]?=some (some v)->CK K H P d v fp->∀a∈fp,H' a=H a)->CK K H' P' d w fq->CK K H P d w fq:=λ k d w fq hk sk kk ho=>by
  have io:Gb d=true:=by cases d<;>first|rfl|exact ho.elim
  obtain⟨w',bL,s2,o2,_⟩:=E.ows k d hk io;rw[sk] at s2;cases s2;have o3:=o2.move sm (kk _ _ sk o2);rw[ho.C8 o3];exact o2
 exact E.apart i j c c' v v' fp ai hi hj si sj (key i c v fp hi si ki h) (key j c' v' ai hj sj kj h') ae
def Ak.same {K:za}{P0:Dg}{P:Addr->Prop}{H H':Hp}{σ:St}{ρ:Aa}(E:Ak K P0 P H σ ρ)(e:Ae H H'):Ak K P0 P H' σ ρ:=
 ⟨E.sub,λ a h=>(E.Cg a h).same e,λ i d h=>let ⟨v,h1,h2⟩:=E.val i d h;⟨v,h1,h2.mono e.del⟩,
  λ i c h io=>let ⟨v,fp,h1,h2,h3,h4⟩:=E.ows i c h io;⟨v,fp,h1,h2.same e,h3,h4⟩,
  λ i j c c' v v' fp ai hi hj si sj h h' ae=>E.Xa e.del (λ v fp _ o a ha=>by obtain⟨xs,q⟩:=o.at a ha;rw[q];exact e _ _ q) (λ v fp _ o a ha=>by obtain⟨xs,q⟩:=o.at a ha;rw[q];exact e _ _ q) hi hj si sj h h' ae,E.len,E.pin⟩
def gV (K:za)(WX:Str->Hp->Prop)(P:Addr->Prop)(H:Hp)(Q:VK):M D->Prop
 | .ok d=>∀v H',Ae H H'->Bu K (del H' P) v d->Q v H'
 | .ex x=>∀H',Ae H H'->WX x H'
 | .bad=>False
def gA (K:za)(WX:Str->Hp->Prop)(P:Addr->Prop)(H:Hp)(Q:List V->Hp->Prop):M (List D)->Prop
 | .ok d=>∀v H',Ae H H'->Ag K (del H' P) v d->Q v H'
 | .ex x=>∀H',Ae H H'->WX x H'
 | .bad=>False
def gT (WX:Str->Hp->Prop)(H:Hp)(Q:Bool->Hp->Prop):M Bool->Prop
 | .ok b=>∀H',Ae H H'->Q b H'
 | .ex x=>∀H',Ae H H'->WX x H'
 | .bad=>False
section
variable {K:za}{WX:Str->Hp->Prop}{P:Addr->Prop}{H H':Hp}
def gV.same {Q:VK}{m:M D}(h:gV K WX P H Q m)(e:Ae H H'):gV K WX P H' Q m:=by
 cases m with
 |ok d=>exact λ v H2 q hv=>h v H2 (e.trans q) hv
 |ex x=>exact λ H2 q=>h H2 (e.trans q)
 |bad=>exact h
def gA.same {Q:List V->Hp->Prop}{m:M (List D)}(h:gA K WX P H Q m)(e:Ae H H'):gA K WX P H' Q m:=by
 cases m with
 |ok d=>exact λ v H2 q hv=>h v H2 (e.trans q) hv
 |ex x=>exact λ H2 q=>h H2 (e.trans q)
 |bad=>exact h
def gT.same {Q:Bool->Hp->Prop}{m:M Bool}(h:gT WX H Q m)(e:Ae H H'):gT WX H' Q m:=by
 cases m with
 |ok d=>exact λ H2 q=>h H2 (e.trans q)
 |ex x=>exact λ H2 q=>h H2 (e.trans q)
 |bad=>exact h
end
def Lv (c:Bool)(P0:Dg)(P:Addr->Prop):Addr->Prop:=if c=true then P else P0.pr
def DE (X:Cx)(WX:Str->Hp->Prop)(c:Bool)(e:Expr)(f:Aa->M D):Prop:=
 ∃t,PE X e t/\∀P0 P σ H Q ρ,Ak X.K P0 P H σ ρ->gV X.K WX (Lv c P0 P) H Q (f ρ)->t σ H Q
def DA (X:Cx)(WX:Str->Hp->Prop)(c:Bool)(es:List Expr)(f:Aa->M (List D)):Prop:=
 ∃t,PA X es t/\(∀P0 P σ H Q ρ,Ak X.K P0 P H σ ρ->gA X.K WX (Lv c P0 P) H Q (f ρ)->t σ H Q)/\∀ρ ds,f ρ=.ok ds->ds.length=es.length
def DT (X:Cx)(WX:Str->Hp->Prop)(e:Expr)(f:Aa->M Bool):Prop:=
 ∃t,PT X e t/\∀P0 P σ H Q ρ,Ak X.K P0 P H σ ρ->gT WX H Q (f ρ)->t σ H Q
def DW (X:Cx)(WX:Str->Hp->Prop)(e:Expr)(f:Aa->M Bool):Prop:=
 ∃t,PW X e t/\∀P0 P σ H Q ρ,Ak X.K P0 P H σ ρ->gT WX H Q (f ρ)->t σ H Q
def DW.dt {X:Cx}{WX:Str->Hp->Prop}{e:Expr}{f:Aa->M Bool}(h:DW X WX e f):DT X WX e f:=let ⟨t,h1,h2⟩:=h;⟨t,h1.pt,h2⟩
section
variable {X:Cx}{WX:Str->Hp->Prop}{c:Bool}{P0:Dg}{P:Addr->Prop}{H:Hp}{σ:St}{ρ:Aa}
def Ak.lv (E:Ak X.K P0 P H σ ρ)(c:Bool):∀a,Lv c P0 P a->P a:=λ a h=>by
 cases c with
 |true=>exact h
 |false=>exact E.sub a h
def Ak.nM (E:Ak X.K P0 P H σ ρ)(c:Bool):∀a,Lv c P0 P a->Eo H a:=λ a h=>E.Cg a (E.lv c a h)
def P5 {e:Expr}{f:Aa->M D}(h:DE X WX true e f):DE X WX false e f:=by
 obtain⟨t,h1,h2⟩:=h;refine⟨t,h1,λ P0 P σ H Q ρ E g=>h2 P0 P σ H Q ρ E ?_⟩;cases e:f ρ with
 |ok d=>rw[e] at g;exact λ v H' s hv=>g v H' s (hv.mono (Cv E.sub))
 |ex x=>rw[e] at g;exact g
 |bad=>rw[e] at g;exact g
noncomputable def nN:D->Bool
 | .tup _ | .lst _ | .Dp _ | .Ba _ _ _ | .ins _ _ _=>false
 |_=>true
noncomputable def fl (m:M D):M D:=m.bind λ d=>if nN d=true then .ok d else .bad
noncomputable def rv (i:Nat)(ρ:Aa):M D:=match ρ[i]? with | some (some (.val d))=>.ok d | _=>.bad
noncomputable def ra (i:Nat)(ρ:Aa):M D:=match ρ[i]? with | some (some (.val d))=>.ok d | some (some (.own ds))=>.ok (.lst ds) | some (some (.ow (.rows Fe)))=>.ok (.lst (Fe.map D.lst)) | some (some (.ow (.Ld _ ds)))=>.ok (.lst ds) | some (some (.ow (.tree _ t)))=>.ok (er t) | _=>.bad
def A1 (i:Nat){x:Str}{pos:Pos}(h:PE X (.Name x pos) (Qh i)):DE X WX true (.Name x pos) (rv i):=by
 refine⟨_,h,λ P0 P σ H Q ρ E g=>?_⟩;unfold rv at g;split at g
 ·rename_i d e;obtain⟨v,h1,h2⟩:=E.val i d e;exact⟨v,h1,g v H (Ae.refl H) h2⟩
 ·exact g.elim
def A6 {i j pos}:DE X WX c (.Constant (.int i) j pos) (λ _=>.ok (.int i)):=⟨_,gF,λ P0 P σ H Q ρ E g=>g _ H (Ae.refl H) (.int i)⟩
def C9 {b j pos}:DE X WX c (.Constant (.bool b) j pos) (λ _=>.ok (.bl b)):=⟨_,lW,λ P0 P σ H Q ρ E g=>g _ H (Ae.refl H) (.bl b)⟩
def Gd {j pos}:DE X WX c (.Constant .none j pos) (λ _=>.ok .AD):=⟨_,gH,λ P0 P σ H Q ρ E g=>g _ H (Ae.refl H) .AD⟩
def Sn {x j pos}:DE X WX c (.Constant (.str x) j pos) (λ _=>.ok (.str x)):=⟨_,gI,λ P0 P σ H Q ρ E g=>g _ H (Ae.refl H) (.str x)⟩
def TZ (K:za)(WX:Str->Hp->Prop)(r:R2)(aV:D->D->M D):Prop:=
 ∀(P:Addr->Prop) (H:Hp) (x y:D) (v w:V) (Q:VK),(∀a,P a->Eo H a)->Bu K (del H P) v x->Bu K (del H P) w y->gV K WX P H Q (aV x y)->r v w H Q
variable {a b:Expr}{f g:Aa->M D}{pos:Pos}
def Qz {ta tb:TE}{r:R2}{aV:D->D->M D}(ha:∀P0 P σ H Q ρ,Ak X.K P0 P H σ ρ->gV X.K WX (Lv c P0 P) H Q (f ρ)->ta σ H Q)(hb:∀P0 P σ H Q ρ,Ak X.K P0 P H σ ρ->gV X.K WX (Lv c P0 P) H Q (g ρ)->tb σ H Q)
 (hr:TZ X.K WX r aV) {Q:VK} (E:Ak X.K P0 P H σ ρ) (h:gV X.K WX (Lv c P0 P) H Q ((f ρ).bind λ x=>(g ρ).bind λ y=>aV x y)):lD r ta tb σ H Q:=by
 refine ha P0 P σ H _ ρ E ?_;cases e:f ρ with
 |bad=>rw[e] at h;exact h
 |ex x=>rw[e] at h;exact h
 |ok x =>
  rw[e] at h;intro v H1 s1 hv;refine hb P0 P σ H1 _ ρ (E.same s1) ?_;cases e2:g ρ with
  |bad=>rw[e2] at h;exact h
  |ex y=>rw[e2] at h;exact gV.same (m:=.ex y) h s1
  |ok y =>
   rw[e2] at h;intro w H2 s2 hw;exact hr _ H2 x y v w Q (λ a q=>((E.same s1).same s2).nM c a q) (hv.mono s2.del) hw ((gV.same h s1).same s2)
def O4 {op:Operator}{r:R2}{aV:D->D->M D}(ho:G5 X (binaryOp op) r)(hr:TZ X.K WX r aV)(ha:DE X WX c a f)(hb:DE X WX c b g):DE X WX c (.BinOp a op b pos) (λ ρ=>(f ρ).bind λ x=>(g ρ).bind λ y=>aV x y):=by
 obtain⟨ta,a1,a2⟩:=ha;obtain⟨tb,b1,b2⟩:=hb;exact⟨_,WI ho a1 b1,λ P0 P σ H Q ρ E h=>Qz a2 b2 hr E h⟩
def Xb {op:CmpOp}{r:R2}{aV:D->D->M D}(ho:G5 X (compareOp op) r)(hr:TZ X.K WX r aV)(ha:DE X WX c a f)(hb:DE X WX c b g)(hm:behindInMarks op b=false):DE X WX c (.Compare a [op] [b] pos) (λ ρ=>(f ρ).bind λ x=>(g ρ).bind λ y=>aV x y):=by
 obtain⟨ta,a1,a2⟩:=ha;obtain⟨tb,b1,b2⟩:=hb;exact⟨_,Z3 ho a1 b1 hm,λ P0 P σ H Q ρ E h=>Qz a2 b2 hr E h⟩
def nO {r:R2}{aV:D->D->M D}(ho:Zc X r)(hr:TZ X.K WX r aV)(ha:DE X WX c a f)(hb:DE X WX c b g)(hs:Ln b):DE X WX c (.Subscript a b pos) (λ ρ=>(f ρ).bind λ x=>(g ρ).bind λ y=>aV x y):=by
 obtain⟨ta,a1,a2⟩:=ha;obtain⟨tb,b1,b2⟩:=hb;exact⟨_,fA ho a1 b1 hs,λ P0 P σ H Q ρ E h=>Qz a2 b2 hr E h⟩
noncomputable def Bn (k:Int->Int->M D)(x y:D):M D:=match x,y with | .int i,.int j=>k i j | _,_=>.bad
def Bu.int_inv {K:za}{H:Hp}{v:V}{i:Int}(h:Bu K H v (.int i)):v=.int i:=by cases h;rfl
def Bu.Mj {K:za}{H:Hp}{v:V}{i:Bool}(h:Bu K H v (.bl i)):v=.bl i:=by cases h;rfl
def P6 {C:Int->Int->Prop}{gv:Int->Int->V}{gd:Int->Int->D}[∀i j,Decidable (C i j)](hg:∀i j K H,Bu K H (gv i j) (gd i j)):TZ X.K WX (rI C gv) (Bn λ i j=>if C i j then .ok (gd i j) else .bad):=by
 intro P H x y v w Q ht hx hy h;unfold Bn at h;split at h
 ·rename_i i j;rw[hx.int_inv,hy.int_inv];dsimp only at h;by_cases hc:C i j
  ·rw[if_pos hc] at h;exact⟨i,j,rfl,rfl,hc,h _ H (Ae.refl H) (hg i j _ _)⟩
  ·rw[if_neg hc] at h;exact h.elim
 ·exact h.elim
def Lq {gv:Int->Int->V}{gd:Int->Int->D}(hg:∀i j K H,Bu K H (gv i j) (gd i j)):TZ X.K WX (YO gv) (Bn λ i j=>.ok (gd i j)):=by
 intro P H x y v w Q ht hx hy h;unfold Bn at h;split at h
 ·rename_i i j;rw[hx.int_inv,hy.int_inv];exact⟨i,j,rfl,rfl,h _ H (Ae.refl H) (hg i j _ _)⟩
 ·exact h.elim
instance (i j:Int):Decidable (WJ i j):=by unfold WJ;infer_instance
instance (i j:Int):Decidable (Z1 i j):=by unfold Z1;infer_instance
instance (i j:Int):Decidable (WK i j):=by unfold WK;infer_instance
noncomputable def iX:=Bn λ i j=>.ok (.int (i+j))
noncomputable def nQ:=Bn λ i j=>.ok (.int (i-j))
noncomputable def Ge:=Bn λ i j=>if 0<j then .ok (.int (i%j)) else .bad
noncomputable def FO:=Bn λ i j=>if WJ i j then .ok (.int (i / j)) else .bad
noncomputable def Ve:=Bn λ i j=>if Z1 i j then .ok (.int (i^j.toNat)) else .bad
noncomputable def tG:=Bn λ i j=>.ok (.bl (decide (i<j)))
noncomputable def uV:=Bn λ i j=>.ok (.bl (decide (i<=j)))
noncomputable def tH:=Bn λ i j=>.ok (.bl (decide (j<i)))
noncomputable def uW:=Bn λ i j=>.ok (.bl (decide (j<=i)))
def BR (ha:DE X WX c a f)(hb:DE X WX c b g):DE X WX c (.BinOp a .Add b pos) (λ ρ=>(f ρ).bind λ x=>(g ρ).bind λ y=>iX x y):=O4 hX (Lq λ _ _ _ _=>.int _) ha hb
def iY (ha:DE X WX c a f)(hb:DE X WX c b g):DE X WX c (.BinOp a .Sub b pos) (λ ρ=>(f ρ).bind λ x=>(g ρ).bind λ y=>nQ x y):=O4 iA (Lq λ _ _ _ _=>.int _) ha hb
def BJ (ha:DE X WX c a f)(hb:DE X WX c b g):DE X WX c (.BinOp a .Mod b pos) (λ ρ=>(f ρ).bind λ x=>(g ρ).bind λ y=>Ge x y):=O4 iB (P6 λ _ _ _ _=>.int _) ha hb
def Cy (ha:DE X WX c a f)(hb:DE X WX c b g):DE X WX c (.BinOp a .FloorDiv b pos) (λ ρ=>(f ρ).bind λ x=>(g ρ).bind λ y=>FO x y):=O4 Z2 (P6 λ _ _ _ _=>.int _) ha hb
def Xc (ha:DE X WX c a f)(hb:DE X WX c b g):DE X WX c (.BinOp a .Pow b pos) (λ ρ=>(f ρ).bind λ x=>(g ρ).bind λ y=>Ve x y):=O4 iC (P6 λ _ _ _ _=>.int _) ha hb
noncomputable def Zy (n:Nat)(x y:D):M D:=if IS x<=n/\AH x=true/\AH y=true then .ok (.bl (As x y)) else .bad
noncomputable def Zz (n:Nat)(x y:D):M D:=if IS x<=n/\AH x=true/\AH y=true then .ok (.bl (!As x y)) else .bad
def Xd {n:Nat}(hu:X.A.units+n<cLine):TZ X.K WX (Zx X.K X.A false) (Zy n):=by
 intro P H x y v w Q ht hx hy h;unfold Zy at h;by_cases hd:IS x<=n/\AH x=true/\AH y=true
 ·rw[if_pos hd] at h;exact⟨x,y,hx.mono DM,hy.mono DM,by omega,hd.2.1,hd.2.2,h _ H (Ae.refl H) (.bl _)⟩
 ·rw[if_neg hd] at h;exact h.elim
def iZ {n:Nat}(hu:X.A.units+n<cLine):TZ X.K WX (Zx X.K X.A true) (Zz n):=by
 intro P H x y v w Q ht hx hy h;unfold Zz at h;by_cases hd:IS x<=n/\AH x=true/\AH y=true
 ·rw[if_pos hd] at h;exact⟨x,y,hx.mono DM,hy.mono DM,by omega,hd.2.1,hd.2.2,h _ H (Ae.refl H) (.bl _)⟩
 ·rw[if_neg hd] at h;exact h.elim
def fD {n:Nat}(hu:X.A.units+n<cLine)(ha:DE X WX c a f)(hb:DE X WX c b g):DE X WX c (.Compare a [.Eq] [b] pos) (λ ρ=>(f ρ).bind λ x=>(g ρ).bind λ y=>Zy n x y):=Xb X9 (Xd hu) ha hb (Ib _)
noncomputable def BE:D->Bool
 | .AD=>true
 |_=>false
def Bu.rT {K:za}{H:Hp}{v:V}{d:D}(h:Bu K H v d):decide (v=.AD)=BE d:=by
 cases h<;>simp[BE]
def Xe {j pos'}(ha:DE X WX c a f):DE X WX c (.Compare a [.Is] [.Constant .none j pos'] pos) (λ ρ=>(f ρ).bind λ x=>.ok (.bl (BE x))):=by
 obtain⟨ta,a1,a2⟩:=ha;refine⟨_,gJ (Wy a1),λ P0 P σ H Q ρ E h=>?_⟩;dsimp only at h;refine a2 P0 P σ H _ ρ E ?_;cases e:f ρ with
 |bad=>rw[e] at h;exact h
 |ex x=>rw[e] at h;exact h
 |ok x=>rw[e] at h;exact λ v H1 s1 hv=>h _ H1 s1 (by rw[hv.rT];exact .bl _)
noncomputable def lF (x y:D):M D:=match x,y with
 | .tup ds,.int i=>(match RZ ds i with|some d=>.ok d|none=>.bad)
 | .lst ds,.int i=>(match RZ ds i with|some d=>.ok d|none=>.bad)
 |_,_=>.bad
def Ag.RZ {K:za}{H:Hp}{xs:List V}{ds:List D}{i:Int}{d:D}(h:Ag K H xs ds)(e:L2.RZ ds i=some d):∃v,L2.RZ xs i=some v/\Bu K H v d:=by
 unfold L2.RZ at e ⊢;rw[<-h.length] at e;cases q:TN xs.length i with
 |none=>rw[q] at e;cases e
 |some j =>
  rw[q] at e;exact h.get e
def Dn.B8 {K:za}{H:Hp}{P:Addr->Prop}{a:Addr}{xs:List V}(h:Dn K (del H P) a xs):Dn K H a xs:=DM.seq h
def Er.B8 {K:za}{H:Hp}{P:Addr->Prop}{a:Addr}{xs:List V}(h:Er K (del H P) a xs):Er K H a xs:=DM.rR h
def Gf:TZ X.K WX (λ x y H Q=>iL X.K x y H Q\/iM X.K x y H Q) lF:=by
 intro P H x y v w Q ht hx hy h;unfold lF at h;split at h
 ·rename_i ds i;split at h
  ·rename_i d e;cases hy;cases hx with
   |tup hs hl =>
    obtain⟨u,h1,h2⟩:=hl.RZ e;exact .inr ⟨_,_,i,u,rfl,rfl,Er.of (Ai hs).2,h1,h _ H (Ae.refl H) h2⟩
  ·exact h.elim
 ·rename_i ds i;split at h
  ·rename_i d e;cases hy;cases hx with
   |lst hs hl =>
    obtain⟨u,h1,h2⟩:=hl.RZ e;exact .inl ⟨_,_,i,u,rfl,rfl,hs.B8,h1,h _ H (Ae.refl H) h2⟩
  ·exact h.elim
 ·exact h.elim
def A8:DA X WX c [] (λ _=>.ok []):=⟨_,Ci,λ P0 P σ H Q ρ E h=>h [] H (Ae.refl H) .nil,λ ρ ds h=>by cases h;rfl⟩
def A2 {e:Expr}{es:List Expr}{f:Aa->M D}{fs:Aa->M (List D)}(he:DE X WX c e f)(hr:DA X WX c es fs)(hs:starEach (e::es) X.env=(false,eval e X.env)::starEach es X.env:=by rfl):
 DA X WX c (e::es) (λ ρ=>(f ρ).bind λ d=>(fs ρ).bind λ ds=>.ok (d::ds)):=by
 obtain⟨te,e1,e2⟩:=he;obtain⟨tr,r1,r2,r3⟩:=hr;refine⟨_,Bk e1 r1 hs,λ P0 P σ H Q ρ E h=>?_,λ ρ ds h=>?_⟩
 rotate_left
 ·dsimp only at h;cases q:f ρ with
  |bad=>rw[q] at h;cases h
  |ex x=>rw[q] at h;cases h
  |ok x =>
   rw[q] at h;cases q2:fs ρ with
   |bad=>rw[q2] at h;cases h
   |ex x=>rw[q2] at h;cases h
   |ok xs =>
    rw[q2] at h;cases h;rw[zp,zp,r3 ρ xs q2]
 dsimp only at h;refine e2 P0 P σ H _ ρ E ?_;cases q:f ρ with
 |bad=>rw[q] at h;exact h
 |ex x=>rw[q] at h;exact h
 |ok x =>
  rw[q] at h;intro v H1 s1 hv;refine r2 P0 P σ H1 _ ρ (E.same s1) ?_;cases q2:fs ρ with
  |bad=>rw[q2] at h;exact h
  |ex y=>rw[q2] at h;exact gA.same (m:=.ex y) h s1
  |ok ds =>
   rw[q2] at h;exact λ vs H2 s2 aW=>h _ H2 (s1.trans s2) (.cons (hv.mono s2.del) aW)
def J2 {H:Hp}{P:Addr->Prop}{p:Addr}{o:HO}(hn:H p=none)(ht:∀a,P a->Eo H a):del (upd H p o) P p=some o:=by
 rw[Ar λ z=>(ht p z).no hn];exact Ao
def AJ {es:List Expr}{fs:Aa->M (List D)}{x1}(ha:DA X WX c es fs)(hz:es.length<=1000:=by decide):DE X WX c (.Tuple es x1 pos) (λ ρ=>(fs ρ).bind λ ds=>if ds.length<=1000 then .ok (.tup ds) else .bad):=by
 obtain⟨ta,a1,a2,a3⟩:=ha;refine⟨_,WQ a1,λ P0 P σ H Q ρ E h=>?_⟩;dsimp only at h;refine a2 P0 P σ H _ ρ E ?_;cases q:fs ρ with
 |bad=>rw[q] at h;exact h
 |ex y=>rw[q] at h;exact h
 |ok ds =>
  rw[q] at h;simp only[M.A7] at h;by_cases hd:ds.length<=1000
  ·rw[if_pos hd] at h;intro vs H1 s1 aW;refine⟨yd (AG (by rw[aW.length];exact hd)),λ p hp=>h _ _ (s1.trans (AR hp _)) (.tup (J2 hp λ a q=>(E.same s1).nM c a q) (aW.mono (AR hp _).del))⟩
  ·rw[if_neg hd] at h;exact h.elim
def Ii {es:List Expr}{fs:Aa->M (List D)}(ha:DA X WX c es fs):DE X WX c (.List es pos) (λ ρ=>(fs ρ).bind λ ds=>if ds.length<=1000 then .ok (.lst ds) else .bad):=by
 obtain⟨ta,a1,a2,a3⟩:=ha;refine⟨_,Sb a1,λ P0 P σ H Q ρ E h=>?_⟩;dsimp only at h;refine a2 P0 P σ H _ ρ E ?_;cases q:fs ρ with
 |bad=>rw[q] at h;exact h
 |ex y=>rw[q] at h;exact h
 |ok ds =>
  rw[q] at h;simp only[M.A7] at h;by_cases hd:ds.length<=1000
  ·rw[if_pos hd] at h;intro vs H1 s1 aW;refine⟨yd (AG (by rw[aW.length];exact hd)),λ p hp=>h _ _ (s1.trans (AR hp _)) (.lst (.of (J2 hp λ a q=>(E.same s1).nM c a q)) (aW.mono (AR hp _).del))⟩
  ·rw[if_neg hd] at h;exact h.elim
end
noncomputable def O5 (d:D):M Bool:=match d with | .bl b=>.ok b | _=>.bad
section
variable {X:Cx}{WX:Str->Hp->Prop}{c:Bool}{P0:Dg}{P:Addr->Prop}{H:Hp}{σ:St}{ρ:Aa}{a b e:Expr}{f g:Aa->M D}{ft gt:Aa->M Bool}{pos:Pos}
def nR {WX:Str->Hp->Prop}{P:Addr->Prop}{K:za}{H:Hp}{Q:Bool->Hp->Prop}{m:M D}(h:gT WX H Q (m.bind O5)):gV K WX P H (λ x H'=>∃k,x=.bl k/\Q k H') m:=by
 cases m with
 |bad=>exact h
 |ex x=>exact h
 |ok d =>
  intro v H' s hv;simp only[M.A7] at h;unfold O5 at h;split at h
  ·rename_i b;exact⟨b,hv.Mj,h H' s⟩
  ·exact h.elim
def Fg {op:CmpOp}{r:R2}{aV:D->D->M D}(ho:G5 X (compareOp op) r)(hr:TZ X.K WX r aV)(ha:DE X WX c a f)(hb:DE X WX c b g)(hm:behindInMarks op b=false):DT X WX (.Compare a [op] [b] pos) (λ ρ=>((f ρ).bind λ x=>(g ρ).bind λ y=>aV x y).bind O5):=by
 obtain⟨ta,a1,a2⟩:=ha;obtain⟨tb,b1,b2⟩:=hb;exact⟨_,Z4 ho a1 b1 hm,λ P0 P σ H Q ρ E h=>Qz a2 b2 hr E (nR h)⟩
def fE (ha:DE X WX c a f)(hb:DE X WX c b g):DT X WX (.Compare a [.Lt] [b] pos) (λ ρ=>((f ρ).bind λ x=>(g ρ).bind λ y=>tG x y).bind O5):=Fg eY (Lq λ _ _ _ _=>.bl _) ha hb (Ib _)
def nS (ha:DE X WX c a f)(hb:DE X WX c b g):DT X WX (.Compare a [.Gt] [b] pos) (λ ρ=>((f ρ).bind λ x=>(g ρ).bind λ y=>tH x y).bind O5):=Fg mO (Lq λ _ _ _ _=>.bl _) ha hb (Ib _)
def QA {n:Nat}(hu:X.A.units+n<cLine)(ha:DE X WX c a f)(hb:DE X WX c b g):DT X WX (.Compare a [.Eq] [b] pos) (λ ρ=>((f ρ).bind λ x=>(g ρ).bind λ y=>Zy n x y).bind O5):=Fg X9 (Xd hu) ha hb (Ib _)
def J3 {n:Nat}(hu:X.A.units+n<cLine)(ha:DE X WX c a f)(hb:DE X WX c b g):DT X WX (.Compare a [.NotEq] [b] pos) (λ ρ=>((f ρ).bind λ x=>(g ρ).bind λ y=>Zz n x y).bind O5):=Fg iW (iZ hu) ha hb (Ib _)
def Gg {j pos'}(ha:DE X WX c a f):DT X WX (.Compare a [.Is] [.Constant .none j pos'] pos) (λ ρ=>(f ρ).bind λ x=>.ok (BE x)):=by
 obtain⟨ta,a1,a2⟩:=ha;refine⟨_,Wz (Wy a1),λ P0 P σ H Q ρ E h=>?_⟩;dsimp only at h;refine a2 P0 P σ H _ ρ E ?_;cases e:f ρ with
 |bad=>rw[e] at h;exact h
 |ex x=>rw[e] at h;exact h
 |ok x=>rw[e] at h;exact λ v H1 s1 hv=>⟨_,rfl,by rw[hv.rT];exact h H1 s1⟩
def Lr {j pos'}(ha:DE X WX c a f):DT X WX (.Compare a [.IsNot] [.Constant .none j pos'] pos) (λ ρ=>(f ρ).bind λ x=>.ok (!BE x)):=by
 obtain⟨ta,a1,a2⟩:=ha;refine⟨_,Wz (YW a1),λ P0 P σ H Q ρ E h=>?_⟩;dsimp only at h;refine a2 P0 P σ H _ ρ E ?_;cases e:f ρ with
 |bad=>rw[e] at h;exact h
 |ex x=>rw[e] at h;exact h
 |ok x=>rw[e] at h;exact λ v H1 s1 hv=>⟨_,rfl,by rw[hv.rT];exact h H1 s1⟩
def Bv (ha:DT X WX a ft):DT X WX (.UnaryOp .Not a pos) (λ ρ=>(ft ρ).bind λ b=>.ok (!b)):=by
 obtain⟨ta,a1,a2⟩:=ha;refine⟨_,gK a1,λ P0 P σ H Q ρ E h=>?_⟩;dsimp only at h;refine a2 P0 P σ H _ ρ E ?_;cases e:ft ρ with
 |bad=>rw[e] at h;exact h
 |ex x=>rw[e] at h;exact h
 |ok x=>rw[e] at h;exact λ H1 s1=>h H1 s1
def J4 (ha:DT X WX a ft):DW X WX (.BoolOp .And [a] pos) ft:=let ⟨ta,a1,a2⟩:=ha;⟨_,pw_and1 a1,a2⟩
def BS (ha:DT X WX a ft):DW X WX (.BoolOp .Or [a] pos) ft:=let ⟨ta,a1,a2⟩:=ha;⟨_,pw_or1 a1,a2⟩
def Ml {rest:List Expr}(ha:DT X WX a ft)(hb:DW X WX (.BoolOp .And (b::rest) pos) gt):DW X WX (.BoolOp .And (a::b::rest) pos) (λ ρ=>(ft ρ).bind λ k=>if k=true then gt ρ else .ok false):=by
 obtain⟨ta,a1,a2⟩:=ha;obtain⟨tb,b1,b2⟩:=hb;refine⟨_,pw_and a1 b1,λ P0 P σ H Q ρ E h=>?_⟩;dsimp only at h;refine a2 P0 P σ H _ ρ E ?_;cases e:ft ρ with
 |bad=>rw[e] at h;exact h
 |ex x=>rw[e] at h;exact h
 |ok k =>
  rw[e] at h;intro H1 s1;cases k with
  |true =>
   simp only[M.A7,if_true] at h ⊢;exact b2 P0 P σ H1 _ ρ (E.same s1) (h.same s1)
  |false =>
   simp only[M.A7,zB,if_false] at h ⊢;exact h H1 s1
def CN {rest:List Expr}(ha:DT X WX a ft)(hb:DW X WX (.BoolOp .Or (b::rest) pos) gt):DW X WX (.BoolOp .Or (a::b::rest) pos) (λ ρ=>(ft ρ).bind λ k=>if k=true then .ok true else gt ρ):=by
 obtain⟨ta,a1,a2⟩:=ha;obtain⟨tb,b1,b2⟩:=hb;refine⟨_,pw_or a1 b1,λ P0 P σ H Q ρ E h=>?_⟩;dsimp only at h;refine a2 P0 P σ H _ ρ E ?_;cases e:ft ρ with
 |bad=>rw[e] at h;exact h
 |ex x=>rw[e] at h;exact h
 |ok k =>
  rw[e] at h;intro H1 s1;cases k with
  |true =>
   simp only[M.A7,if_true] at h ⊢;exact h H1 s1
  |false =>
   simp only[M.A7,zB,if_false] at h ⊢;exact b2 P0 P σ H1 _ ρ (E.same s1) (h.same s1)
def So {op}(ha:DE X WX c a f):DE X WX c (.BoolOp op [a] pos) f:=let ⟨ta,a1,a2⟩:=ha;⟨_,gL a1,a2⟩
def Sq {rest:List Expr}(ha:DE X WX c a f)(hb:DE X WX c (.BoolOp .And (b::rest) pos) g):DE X WX c (.BoolOp .And (a::b::rest) pos) (λ ρ=>((f ρ).bind O5).bind λ k=>if k=true then g ρ else .ok (.bl false)):=by
 obtain⟨ta,a1,a2⟩:=ha;obtain⟨tb,b1,b2⟩:=hb;refine⟨_,gM a1 b1,λ P0 P σ H Q ρ E h=>?_⟩;dsimp only at h;refine a2 P0 P σ H _ ρ E ?_;cases e:f ρ with
 |bad=>rw[e] at h;exact h
 |ex x=>rw[e] at h;exact h
 |ok d =>
  rw[e] at h;simp only[M.A7] at h;unfold O5 at h;split at h
  ·rename_i k;intro v H1 s1 hv;refine⟨k,hv.Mj,?_⟩;cases k with
   |true =>
    simp only[M.A7,if_true] at h ⊢;exact b2 P0 P σ H1 _ ρ (E.same s1) (h.same s1)
   |false =>
    simp only[M.A7,zB,if_false] at h ⊢;exact h _ H1 s1 (.bl _)
  ·exact h.elim
def nT {rest:List Expr}(ha:DE X WX c a f)(hb:DE X WX c (.BoolOp .Or (b::rest) pos) g):DE X WX c (.BoolOp .Or (a::b::rest) pos) (λ ρ=>((f ρ).bind O5).bind λ k=>if k=true then .ok (.bl true) else g ρ):=by
 obtain⟨ta,a1,a2⟩:=ha;obtain⟨tb,b1,b2⟩:=hb;refine⟨_,mB a1 b1,λ P0 P σ H Q ρ E h=>?_⟩;dsimp only at h;refine a2 P0 P σ H _ ρ E ?_;cases e:f ρ with
 |bad=>rw[e] at h;exact h
 |ex x=>rw[e] at h;exact h
 |ok d =>
  rw[e] at h;simp only[M.A7] at h;unfold O5 at h;split at h
  ·rename_i k;intro v H1 s1 hv;refine⟨k,hv.Mj,?_⟩;cases k with
   |true =>
    simp only[M.A7,if_true] at h ⊢;exact h _ H1 s1 (.bl _)
   |false =>
    simp only[M.A7,zB,if_false] at h ⊢;exact b2 P0 P σ H1 _ ρ (E.same s1) (h.same s1)
  ·exact h.elim
def jA (ha:DE X WX c a f):DE X WX c (.UnaryOp .Not a pos) (λ ρ=>((f ρ).bind O5).bind λ k=>.ok (.bl (!k))):=by
 obtain⟨ta,a1,a2⟩:=ha;refine⟨_,gN a1,λ P0 P σ H Q ρ E h=>?_⟩;dsimp only at h;refine a2 P0 P σ H _ ρ E ?_;cases e:f ρ with
 |bad=>rw[e] at h;exact h
 |ex x=>rw[e] at h;exact h
 |ok d =>
  rw[e] at h;simp only[M.A7] at h;unfold O5 at h;split at h
  ·rename_i k;exact λ v H1 s1 hv=>⟨k,hv.Mj,h _ H1 s1 (.bl _)⟩
  ·exact h.elim
def rV (ha:DE X WX c a f):DE X WX c (.UnaryOp .USub a pos) (λ ρ=>(f ρ).bind λ d=>match d with | .int i=>.ok (.int (-i)) | _=>.bad):=by
 obtain⟨ta,a1,a2⟩:=ha;refine⟨_,mK iD a1,λ P0 P σ H Q ρ E h=>?_⟩;dsimp only at h;refine a2 P0 P σ H _ ρ E ?_;cases e:f ρ with
 |bad=>rw[e] at h;exact h
 |ex x=>rw[e] at h;exact h
 |ok d =>
  rw[e] at h;simp only[M.A7] at h;split at h
  ·rename_i i;exact λ v H1 s1 hv=>⟨i,hv.int_inv,h _ H1 s1 (.int _)⟩
  ·exact h.elim
def Vf {d:Expr}{h:Aa->M D}{op dL:CmpOp}{p q:Int->Int->Bool}(ho:G5 X (compareOp op) (YO λ i j=>.bl (p i j)))(bp:G5 X (compareOp dL) (YO λ i j=>.bl (q i j)))(ha:DE X WX c a f)(hb:DE X WX c b g)(hd:DE X WX c d h)
 (hm:lastMarks [op,dL] [b,d]=false:=by with_unfolding_all rfl):DE X WX c (.Compare a [op,dL] [b,d] pos) (λ ρ=>(f ρ).bind λ x=>(g ρ).bind λ y=>Bn (λ i j=>if p i j=true then (h ρ).bind λ z=>Bn (λ _ k=>.ok (.bl (q j k))) (.int 0) z else .ok (.bl false)) x y):=by
 obtain⟨ta,a1,a2⟩:=ha;obtain⟨tb,b1,b2⟩:=hb;obtain⟨td,d1,d2⟩:=hd;refine⟨_,WL ho bp a1 b1 d1 hm,λ P0 P σ H Q ρ E hh=>?_⟩;dsimp only at hh;refine a2 P0 P σ H _ ρ E ?_;cases e:f ρ with
 |bad=>rw[e] at hh;exact hh
 |ex x=>rw[e] at hh;exact hh
 |ok x =>
  rw[e] at hh;intro v H1 s1 hv;refine b2 P0 P σ H1 _ ρ (E.same s1) ?_;cases e2:g ρ with
  |bad=>rw[e2] at hh;exact hh
  |ex y=>rw[e2] at hh;exact gV.same (m:=.ex y) hh s1
  |ok y =>
   rw[e2] at hh;simp only[M.A7] at hh;unfold Bn at hh;split at hh
   ·rename_i i j;intro w H2 s2 hw;refine⟨i,j,hv.int_inv,hw.int_inv,p i j,rfl,?_⟩;dsimp only at hh;by_cases hp:p i j=true
    ·rw[if_pos hp] at hh ⊢;refine d2 P0 P σ H2 _ ρ ((E.same s1).same s2) ?_;cases e3:h ρ with
     |bad=>rw[e3] at hh;exact hh
     |ex z=>rw[e3] at hh;exact gV.same (gV.same (m:=.ex z) hh s1) s2
     |ok z =>
      rw[e3] at hh;simp only[M.A7] at hh;cases z with
      |int k=>exact λ u H3 s3 hu=>⟨j,k,hw.int_inv,hu.int_inv,hh _ H3 ((s1.trans s2).trans s3) (.bl _)⟩
      |_=>exact hh.elim
    ·rw[if_neg hp] at hh ⊢;exact hh _ H2 (s1.trans s2) (.bl _)
   ·exact hh.elim
def J5 (K:za)(WX:Str->Hp->Prop)(r:List V->Hp->VK->Prop)(dF:List D->M D):Prop:=
 ∀(P:Addr->Prop) (H:Hp) (ds:List D) (vs:List V) (Q:VK),(∀a,P a->Eo H a)->Ag K (del H P) vs ds->gV K WX P H Q (dF ds)->r vs H Q
variable {x:Str}{p:Pos}{es:List Expr}{fs:Aa->M (List D)}{id T:String}{r:List V->Hp->VK->Prop}{dF:List D->M D}
def Xf {ta:TA}(ha:∀P0 P σ H Q ρ,Ak X.K P0 P H σ ρ->gA X.K WX (Lv c P0 P) H Q (fs ρ)->ta σ H Q)(hr:J5 X.K WX r dF){Q:VK}(E:Ak X.K P0 P H σ ρ)(h:gV X.K WX (Lv c P0 P) H Q ((fs ρ).bind dF)):rH r ta σ H Q:=by
 refine ha P0 P σ H _ ρ E ?_;cases e:fs ρ with
 |bad=>rw[e] at h;exact h
 |ex x=>rw[e] at h;exact h
 |ok ds =>
  rw[e] at h;exact λ vs H1 s1 aW=>hr _ H1 ds vs Q (λ a q=>(E.same s1).nM c a q) aW (h.same s1)
def Gh (hc:FN X (.builtin id) r)(hr:J5 X.K WX r dF)(hg:Gl X x)(hm:X.mg x=none)(hv:bootBuiltins x=some (.builtin id))(ha:DA X WX c (e::es) fs)(hn:x ≠ "__name__" := by decide)(aS:(x==("__debug__" : Str))=false:=by decide)
 (he:starEach (e::es) X.env=(false,eval e X.env)::starEach es X.env:=by rfl) (hpl:(backTo pos (starEach es X.env)).any (·.1)=false:=by rfl):DE X WX c (.Call (.Name x p) (e::es) [] pos) (λ ρ=>(fs ρ).bind dF):=by
 obtain⟨ta,a1,a2,a3⟩:=ha;exact⟨_,Qm hc hg hm hv a1 hn aS he hpl,λ P0 P σ H Q ρ E h=>Xf a2 hr E h⟩
def Vg (hc:FN X (.type T) r)(hr:J5 X.K WX r dF)(hg:Gl X x)(hm:X.mg x=none)(hv:bootBuiltins x=some (.type T))(ha:DA X WX c (e::es) fs)(hn:x ≠ "__name__" := by decide)(aS:(x==("__debug__" : Str))=false:=by decide)
 (he:starEach (e::es) X.env=(false,eval e X.env)::starEach es X.env:=by rfl) (hpl:(backTo pos (starEach es X.env)).any (·.1)=false:=by rfl):DE X WX c (.Call (.Name x p) (e::es) [] pos) (λ ρ=>(fs ρ).bind dF):=by
 obtain⟨ta,a1,a2,a3⟩:=ha;exact⟨_,NX hc hg hm hv a1 hn aS he hpl,λ P0 P σ H Q ρ E h=>Xf a2 hr E h⟩
noncomputable def Vh (ds:List D):M D:=match ds with
 |[.lst xs]=>.ok (.int xs.length)
 |[.tup xs]=>.ok (.int xs.length)
 |_=>.bad
def Ag.one {K:za}{H:Hp}{vs:List V}{d:D}(h:Ag K H vs [d]):∃v,vs=[v]/\Bu K H v d:=by
 cases h with
 |cons h t=>cases t;exact⟨_,rfl,h⟩
def Ag.two {K:za}{H:Hp}{vs:List V}{d e:D}(h:Ag K H vs [d,e]):∃v w,vs=[v,w]/\Bu K H v d/\Bu K H w e:=by
 cases h with
 |cons h t =>
  obtain⟨w,rfl,hw⟩:=t.one;exact⟨_,w,rfl,h,hw⟩
def jB:J5 X.K WX (λ xs H Q=>∃p ys,xs=[.ref p]/\(Dn X.K H p ys\/Er X.K H p ys)/\Q (.int ys.length) H) Vh:=by
 intro P H ds vs Q ht hl h;unfold Vh at h;split at h
 ·obtain⟨v,rfl,hv⟩:=hl.one;cases hv with
  |lst hs hh=>exact⟨_,_,rfl,.inl hs.B8,by rw[hh.length];exact h _ H (Ae.refl H) (.int _)⟩
 ·obtain⟨v,rfl,hv⟩:=hl.one;cases hv with
  |tup hs hh=>exact⟨_,_,rfl,.inr (Er.of (Ai hs).2),by rw[hh.length];exact h _ H (Ae.refl H) (.int _)⟩
 ·exact h.elim
def Fh (hg:Gl X "len")(hm:X.mg "len" = none)(ha:DE X WX c e f)(hs:starEach [e] X.env=[(false,eval e X.env)]:=by rfl):DE X WX c (.Call (.Name "len" p) [e] [] pos) (λ ρ=>((f ρ).bind λ d=>(M.ok []).bind λ ds=>.ok (d::ds)).bind Vh):=
 Gh OV jB hg hm PySem.boot_len (A2 ha A8 hs) (he:=hs)
noncomputable def Sr (ds:List D):M D:=match ds with
 |[.lst xs]=>.ok (.tup xs)
 |[.tup xs]=>.ok (.tup xs)
 |_=>.bad
def Xg:J5 X.K WX (λ xs H Q=>∃p ys,xs=[.ref p]/\((Dn X.K H p ys/\∀l,H l=none->Q (.ref l) (upd H l (.tup ys)))\/(Er X.K H p ys/\Q (.ref p) H))) Sr:=by
 intro P H ds vs Q ht hl h;unfold Sr at h;split at h
 ·obtain⟨v,rfl,hv⟩:=hl.one;cases hv with
  |lst hs hh=>exact⟨_,_,rfl,.inl ⟨hs.B8,λ l hn=>h _ _ (AR hn _) (.tup (J2 hn ht) (hh.mono (AR hn _).del))⟩⟩
 ·obtain⟨v,rfl,hv⟩:=hl.one;cases hv with
  |tup hs hh=>exact⟨_,_,rfl,.inr ⟨Er.of (Ai hs).2,h _ H (Ae.refl H) (.tup hs hh)⟩⟩
 ·exact h.elim
def Xh (hg:Gl X "tuple")(hm:X.mg "tuple" = none)(ha:DE X WX c e f)(hb:bootBuiltins "tuple" = some (.type "tuple"):=by decide +kernel)(hs:starEach [e] X.env=[(false,eval e X.env)]:=by rfl):DE X WX c (.Call (.Name "tuple" p) [e] [] pos) (λ ρ=>((f ρ).bind λ d=>(M.ok []).bind λ ds=>.ok (d::ds)).bind Sr):=
 Vg Nu Xg hg hm hb (A2 ha A8 hs) (he:=hs)
noncomputable def ZA:D->String
 | .AD => "NoneType"
 | .bl _ => "bool"
 | .int _ => "int"
 | .str _ => "str"
 | .tup _ => "tuple"
 | .lst _ => "list"
 | .Dp _ => "NoneType"
 | .Ba _ _ _ => "dict"
 | .ins _ _ _ => "NoneType"
noncomputable def DQ (T:String)(d:D):Bool:=(ZA d==T)||(ZA d == "bool" && T == "int")
noncomputable def HV (T:String)(d:D):M D:=match d with
 | .Dp _=>.bad
 | .ins _ _ _=>.bad
 |d=>.ok (.bl (DQ T d))
noncomputable def U0:D->Bool
 | .Dp _=>true
 | .ins _ _ _=>true
 |_=>false
def QB {T:String}{d:D}(h:U0 d=false):HV T d=.ok (.bl (DQ T d)):=by cases d<;>first | rfl | cases h
def rW (K:za)(T:String):List V->Hp->VK->Prop:=λ xs H Q=>∃x d,xs=[x,.ty T]/\Bu K H x d/\U0 d=false/\Q (.bl (DQ T d)) H
def Xi {T:String}(hk:∀d:D,yW X.K (.type (ZA d)) (.type T)=some (DQ T d)):FN X (.builtin "isinstance") (rW X.K T):=by
 intro pins s σ H xs us Q I r h;obtain⟨x,d,rfl,hd,hx,q⟩:=h;obtain⟨u,w,rfl,rx,bi⟩:=r.two;cases bi;have fin:∀tk,EP X pins σ Q (.bool (DQ T d)) {s with toks:=tk}:=λ tk=>⟨.bl _,H,I.tok tk,rfl,q⟩;have e:=hk d;cases hd with
 |Dp _ _=>cases hx
 |ins _ _ _=>cases hx
 |G9 hs hl =>
  cases rx;obtain⟨⟨o,h1,h2⟩,_,_⟩:=Sk I (.inl ⟨_,hs⟩);exact yE PySem.W.kitx_dict I.Nn ⟨o,h1,h2⟩ e (λ z=>nomatch z) fin
 |Hh hs hl =>
  cases rx;obtain⟨⟨o,h1,h2⟩,_,_⟩:=Sk I (.inr ⟨_,hs⟩);exact yE PySem.W.kitx_dict I.Nn ⟨o,h1,h2⟩ e (λ z=>nomatch z) fin
 |AD=>cases rx;exact yE PySem.W.kitx_none I.Nn yI e (λ z=>nomatch z) fin
 |bl b=>cases rx;exact yE PySem.W.kitx_bool I.Nn yI e (λ z=>nomatch z) fin
 |int b=>obtain⟨t,rfl⟩:=rx;exact yE PySem.W.kitx_int I.Nn yI e (λ z=>nomatch z) fin
 |str b=>obtain⟨t,rfl⟩:=rx;exact yE PySem.W.kitx_str I.Nn yI e (λ z=>nomatch z) fin
 |tup hs hl =>
  cases rx;obtain⟨_,_,⟨o,h1,h2,_⟩,_⟩:=I.tuple (.of hs);exact yE PySem.W.kitx_tuple I.Nn ⟨o,h1,h2⟩ e (λ z=>nomatch z) fin
 |lst hs hl =>
  cases rx;obtain⟨_,_,⟨o,n,h1,h2,_⟩,_⟩:=I.list hs;exact yE PySem.W.kitx_list I.Nn ⟨o,h1,h2⟩ e (λ z=>nomatch z) fin
def ED {T:String}{x2:Str}{p2:Pos}(hk:∀d:D,yW X.K (.type (ZA d)) (.type T)=some (DQ T d))(hg:Gl X "isinstance")(hm:X.mg "isinstance" = none)(ja:Gl X x2)(cq:X.mg x2=none)(uX:bootBuiltins x2=some (.type T))(ha:DE X WX c e f)
 (hb:bootBuiltins "isinstance" = some (.builtin "isinstance"):=by decide +kernel) (a7:x2 ≠ "__name__" := by decide) (m9:(x2==("__debug__" : Str))=false:=by decide) (hs:starEach [e,.Name x2 p2] X.env=(false,eval e X.env)::starEach [.Name x2 p2] X.env:=by rfl) (aR:starEach [.Name x2 p2] X.env=[(false,eval (.Name x2 p2) X.env)]:=by rfl)
 (hpl:(backTo pos (starEach [.Name x2 p2] X.env)).any (·.1)=false:=by rfl):
 DE X WX c (.Call (.Name "isinstance" p) [e,.Name x2 p2] [] pos) (λ ρ=>(f ρ).bind λ d=>HV T d):=by
 obtain⟨ta,a1,a2⟩:=ha;refine⟨_,Qm (Xi hk) hg hm hb (Bk a1 (Bk (YV (v:=.ty T) ja cq uX rfl a7 m9) Ci aR) hs) (by decide) (by decide) hs hpl,λ P0 P σ H Q ρ E h=>?_⟩;dsimp only at h;refine a2 P0 P σ H _ ρ E ?_;cases q:f ρ with
 |bad=>rw[q] at h;exact h
 |ex x=>rw[q] at h;exact h
 |ok d =>
  rw[q] at h;simp only[M.A7] at h;cases hx:U0 d with
  |true=>cases d<;>first|exact h.elim|cases hx
  |false =>
   rw[QB hx] at h;exact λ v H1 s1 hv=>⟨v,d,rfl,hv.mono DM,hx,h _ H1 s1 (.bl _)⟩
def Ij (K:za)(d:D):yW K (.type (ZA d)) (.type "tuple")=some (DQ "tuple" d):=by cases d<;>rfl
def O6 (K:za)(d:D):yW K (.type (ZA d)) (.type "list")=some (DQ "list" d):=by cases d<;>rfl
def O7 (K:za)(d:D):yW K (.type (ZA d)) (.type "bool")=some (DQ "bool" d):=by cases d<;>rfl
def QC (K:za)(d:D):yW K (.type (ZA d)) (.type "int")=some (DQ "int" d):=by cases d<;>rfl
noncomputable def lG (lo hi:Option Int)(d:D):M D:=match d with
 | .lst ds=>.ok (.lst ((ds.drop (HT.M7 ds.length 0 lo)).take (HT.M7 ds.length ds.length hi-HT.M7 ds.length 0 lo)))
 |_=>.bad
def DO (X:Cx)(WX:Str->Hp->Prop)(c:Bool)(e:Option Expr)(f:Aa->M (Option Int)):Prop:=
 ∃t,PO X e t/\∀P0 P σ H Q ρ,Ak X.K P0 P H σ ρ->(match f ρ with | .ok o=>∀H',Ae H H'->Q o H' | .ex x=>∀H',Ae H H'->WX x H' | .bad=>False)->t σ H Q
def U1:DO X WX c none (λ _=>.ok none):=⟨_,Za,λ P0 P σ H Q ρ E h=>h H (Ae.refl H)⟩
noncomputable def tI (d:D):M (Option Int):=match d with | .int i=>.ok (some i) | _=>.bad
def Ls (ha:DE X WX c e f):DO X WX c (some e) (λ ρ=>(f ρ).bind tI):=by
 obtain⟨ta,a1,a2⟩:=ha;refine⟨_,Zb a1,λ P0 P σ H Q ρ E h=>?_⟩;dsimp only at h;refine a2 P0 P σ H _ ρ E ?_;cases q:f ρ with
 |bad=>rw[q] at h;exact h
 |ex x=>rw[q] at h;exact h
 |ok d =>
  rw[q] at h;cases d with
  |int i=>exact λ v H1 s1 hv=>⟨i,hv.int_inv,h H1 s1⟩
  |_=>exact h.elim
end
inductive Out where
 |ret (d:D)|next (ρ:Aa)|brk (ρ:Aa)|cont (ρ:Aa)|Ca (c:Cl)|Ep (t:OT) (ρ:Aa)
def Tr (P0 P:Addr->Prop)(H:Hp)(P':Addr->Prop)(H':Hp):Prop:=Ae (del H P) (del H' P')/\∀a,P0 a->H' a=H a
def Tr.refl {P0 P:Addr->Prop}{H:Hp}:Tr P0 P H P H:=⟨Ae.refl _,λ _ _=>rfl⟩
def Tr.trans {P0 P P1 P2:Addr->Prop}{H H1 H2:Hp}(a:Tr P0 P H P1 H1)(b:Tr P0 P1 H1 P2 H2):Tr P0 P H P2 H2:=⟨a.1.trans b.1,λ x h=>(b.2 x h).trans (a.2 x h)⟩
def Ak.tr {K:za}{P0:Dg}{P:Addr->Prop}{H H':Hp}{σ:St}{ρ:Aa}(E:Ak K P0 P H σ ρ)(e:Ae H H'):Tr P0 P H P H':=
 ⟨e.del,λ a h=>by obtain⟨o,q,_⟩:=E.Cg a (E.sub a h);rw[e a o q,q]⟩
def gS (K:za)(WX:Str->Hp->Prop)(P0:Dg)(P:Addr->Prop)(H:Hp)(Z:Ends):M Out->Prop
 | .ok (.ret d)=>∀v H' P',Tr P0 P H P' H'->Bu K (del H' P0) v d->Z.rt v H'
 | .ok (.next ρ)=>∀σ' H' P',Tr P0 P H P' H'->Ak K P0 P' H' σ' ρ->Z.nx σ' H'
 | .ok (.brk ρ)=>∀σ' H' P',Tr P0 P H P' H'->Ak K P0 P' H' σ' ρ->Z.bk σ' H'
 | .ok (.cont ρ)=>∀σ' H' P',Tr P0 P H P' H'->Ak K P0 P' H' σ' ρ->Z.ct σ' H'
 | .ok (.Ca c)=>∀v fp H' P',Tr P0 P H P' H'->(∀a,P0 a->P' a)->(∀a,P' a->Eo H' a)->CK K H' P' c v fp->(∀a∈fp,P' a/\¬ P0 a)->fp.Nodup->Z.rt v H'
 | .ok (.Ep t ρ)=>∀v fp σ' H' P',Tr P0 P H P' H'->Ak K P0 P' H' σ' ρ->BI K H' P' v t fp->fp.Nodup->(∀a∈fp,P' a/\¬ P0 a/\∀(j:Nat) c v' fq,ρ[j]?=some (some c)->σ'[j]?=some (some v')->CK K H' P' c v' fq->a∉fq)->Z.rt v H'
 | .ex x=>∀H' P',Tr P0 P H P' H'->WX x H'
 | .bad=>False
def gS.tr {K:za}{WX:Str->Hp->Prop}{P0:Dg}{P P':Addr->Prop}{H H':Hp}{Z:Ends}{m:M Out}(h:gS K WX P0 P H Z m)(t:Tr P0 P H P' H'):gS K WX P0 P' H' Z m:=by
 cases m with
 |bad=>exact h
 |ex x=>exact λ H2 P2 t2=>h H2 P2 (t.trans t2)
 |ok o =>
  cases o with
  |ret d=>exact λ v H2 P2 t2 hv=>h v H2 P2 (t.trans t2) hv
  |next ρ=>exact λ σ2 H2 P2 t2 hv=>h σ2 H2 P2 (t.trans t2) hv
  |brk ρ=>exact λ σ2 H2 P2 t2 hv=>h σ2 H2 P2 (t.trans t2) hv
  |cont ρ=>exact λ σ2 H2 P2 t2 hv=>h σ2 H2 P2 (t.trans t2) hv
  |Ca c=>exact λ v fp H2 P2 t2=>h v fp H2 P2 (t.trans t2)
  |Ep c ρ=>exact λ v fp σ2 H2 P2 t2=>h v fp σ2 H2 P2 (t.trans t2)
def DS (X:Cx)(WX:Str->Hp->Prop)(st:Stmt)(g:Aa->M Out):Prop:=
 ∃t,PS X st t/\∀P0 P σ H Z ρ,Ak X.K P0 P H σ ρ->gS X.K WX P0 P H Z (g ρ)->t Z σ H
def QD (X:Cx)(WX:Str->Hp->Prop)(st:List Stmt)(g:Aa->M Out):Prop:=
 ∃t,TC X st t/\∀P0 P σ H Z ρ,Ak X.K P0 P H σ ρ->gS X.K WX P0 P H Z (g ρ)->t Z σ H
noncomputable def Xj (m:M Out)(k:Aa->M Out):M Out:=match m with
 | .ok (.next ρ)=>k ρ
 |m=>m
section
variable {X:Cx}{WX:Str->Hp->Prop}{c:Bool}{P0:Dg}{P:Addr->Prop}{H:Hp}{σ:St}{ρ:Aa}{a b e:Expr}{f g:Aa->M D}{ft gt:Aa->M Bool}{pos:Pos}{st:Stmt}{rest:List Stmt}{g1 g2:Aa->M Out}
def Av:QD X WX [] (λ ρ=>.ok (.next ρ)):=⟨_,YX,λ P0 P σ H Z ρ E h=>h σ H P Tr.refl E⟩
def A5 (h:DS X WX st g1):QD X WX [st] g1:=let ⟨t,h1,h2⟩:=h;⟨_,YY h1,h2⟩
def A4 (h:DS X WX st g1)(hr:QD X WX rest g2):QD X WX (st::rest) (λ ρ=>Xj (g1 ρ) g2):=by
 obtain⟨t,h1,h2⟩:=h;obtain⟨u,r1,r2⟩:=hr;refine⟨_,WA h1 r1,λ P0 P σ H Z ρ E h=>?_⟩;dsimp only at h;refine h2 P0 P σ H {Z with nx:=u Z} ρ E ?_;cases q:g1 ρ with
 |bad=>rw[q] at h;exact h
 |ex x=>rw[q] at h;exact h
 |ok o =>
  rw[q] at h;cases o with
  |ret d=>exact h
  |brk d=>exact h
  |cont d=>exact h
  |Ca d=>exact h
  |Ep d ρ2=>exact h
  |next ρ'=>exact λ σ' H' P' t E'=>r2 P0 P' σ' H' Z ρ' E' (gS.tr h t)
def Ss (ha:DE X WX false e f):DS X WX (.Return (some e) pos) (λ ρ=>(f ρ).bind λ d=>.ok (.ret d)):=by
 obtain⟨ta,a1,a2⟩:=ha;refine⟨_,S2 a1,λ P0 P σ H Z ρ E h=>?_⟩;dsimp only at h;refine a2 P0 P σ H _ ρ E ?_;cases q:f ρ with
 |bad=>rw[q] at h;exact h
 |ex x=>rw[q] at h;exact λ H' s=>h H' P (E.tr s)
 |ok d=>rw[q] at h;exact λ v H' s hv=>h v H' P (E.tr s) hv
def B5 {c:Expr}{sa sb:List Stmt}(hc:DT X WX c ft)(ha:QD X WX sa g1)(hb:QD X WX sb g2):DS X WX (.If c sa sb pos) (λ ρ=>(ft ρ).bind λ k=>if k=true then g1 ρ else g2 ρ):=by
 obtain⟨tc,c1,c2⟩:=hc;obtain⟨ta,a1,a2⟩:=ha;obtain⟨tb,b1,b2⟩:=hb;refine⟨_,mF c1 a1 b1,λ P0 P σ H Z ρ E h=>?_⟩;dsimp only at h;refine c2 P0 P σ H _ ρ E ?_;cases q:ft ρ with
 |bad=>rw[q] at h;exact h
 |ex x=>rw[q] at h;exact λ H' s=>h H' P (E.tr s)
 |ok k =>
  rw[q] at h;intro H1 s1;cases k with
  |true =>
   simp only[M.A7,if_true] at h ⊢;exact a2 P0 P σ H1 Z ρ (E.same s1) (h.tr (E.tr s1))
  |false =>
   simp only[M.A7,zB,if_false] at h ⊢;exact b2 P0 P σ H1 Z ρ (E.same s1) (h.tr (E.tr s1))
def get_set {α:Type}{l:List α}{i j:Nat}{x y:α}(h:(l.set i x)[j]?=some y):(i=j/\i<l.length/\x=y)\/(i≠j/\l[j]?=some y):=by
 by_cases e:i=j
 ·subst e;rw[List.getElem?_set_self'] at h;cases q:l[i]? with
  |none=>rw[q] at h;cases h
  |some z =>
   rw[q] at h;exact .inl ⟨rfl,(zv.mp q).1,by simpa using h⟩
 ·rw[yi e] at h;exact .inr ⟨e,h⟩
def Ak.Vi {K:za}(E:Ak K P0 P H σ ρ){i:Nat}{v:V}{d:D}(hv:Bu K (del H P) v d):Ak K P0 P H (σ.set i (some v)) (ρ.set i (some (.val d))):=by
 have gs:∀ {j:Nat},i≠j->(σ.set i (some v))[j]?=σ[j]? :=λ h=>yi h;refine⟨E.sub,E.Cg,λ j e h=>?_,λ j c h io=>?_,λ j k c c' u u' fp ai h1 h2 h3 h4 h5 h6 ae=>?_,by rw[y9,y9];exact E.len,λ j c n h hp=>?_⟩
 rotate_left 3
 ·rcases get_set h with ⟨rfl,hl,e1⟩|⟨ae,h⟩
  ·cases e1;cases hp
  ·rw[gs ae];exact E.pin j c n h hp
 ·rcases get_set h with ⟨rfl,hl,e1⟩|⟨ae,h⟩
  ·cases e1;exact⟨v,zU (by rw[E.len];exact hl),hv⟩
  ·obtain⟨w,h1,h2⟩:=E.val j e h;exact⟨w,by rw[gs ae];exact h1,h2⟩
 ·rcases get_set h with ⟨rfl,hl,e1⟩|⟨ae,h⟩
  ·cases e1;cases io
  ·obtain⟨w,fp,h1,h2⟩:=E.ows j c h io;exact⟨w,fp,by rw[gs ae];exact h1,h2⟩
 ·rcases get_set h1 with ⟨rfl,hl,e1⟩|⟨cb,h1⟩
  ·cases e1;exact h5.elim
  ·rcases get_set h2 with ⟨rfl,hl,e1⟩|⟨a7,h2⟩
   ·cases e1;exact h6.elim
   ·rw[gs cb] at h3;rw[gs a7] at h4;exact E.apart j k c c' u u' fp ai h1 h2 h3 h4 h5 h6 ae
def Ak.jC {K:za}(E:Ak K P0 P H σ ρ){P':Addr->Prop}{H':Hp}{i:Nat}{v:V}{c:Cl}{fp:List Addr}(hs:∀a,P a->P' a)(ht:∀a,P' a->Eo H' a)(sm:Ae (del H P) (del H' P'))
 (keep:∀(j:Nat) c' v' ai,i≠j->ρ[j]?=some (some c')->σ[j]?=some (some v')->CK K H P c' v' ai->∀a∈ai,H' a=H a/\a∉fp)
 (new:CK K H' P' c v fp) (hp:∀a∈fp,P' a/\¬ P0 a) (nd:fp.Nodup) (fc:∀n,O3 c=some n->v=.ref (P0.g n):=by intro n z;cases z):Ak K P0 P' H' (σ.set i (some v)) (ρ.set i (some c)):=by
 have gs:∀ {j:Nat},i≠j->(σ.set i (some v))[j]?=σ[j]? :=λ h=>yi h;refine⟨λ a h=>hs a (E.sub a h),ht,λ j e h=>?_,λ j c' h io=>?_,λ j k c1 c2 u u' az bL h1 h2 h3 h4 h5 h6 ae=>?_,by rw[y9,y9];exact E.len,λ j c' n h hp=>?_⟩
 rotate_left 3
 ·rcases get_set h with ⟨rfl,hl,e1⟩|⟨ae,h⟩
  ·cases e1;rw[zU (by rw[E.len];exact hl),fc n hp]
  ·rw[gs ae];exact E.pin j c' n h hp
 ·rcases get_set h with ⟨rfl,hl,e1⟩|⟨ae,h⟩
  ·cases e1;exact new.elim
  ·obtain⟨w,h1,h2⟩:=E.val j e h;exact⟨w,by rw[gs ae];exact h1,h2.mono sm⟩
 ·rcases get_set h with ⟨rfl,hl,e1⟩|⟨ae,h⟩
  ·cases e1;exact⟨v,fp,zU (by rw[E.len];exact hl),new,hp,nd⟩
  ·obtain⟨w,fq,h1,h2,h3,h4⟩:=E.ows j c' h io;exact⟨w,fq,by rw[gs ae];exact h1,h2.move sm λ a ha=>(keep j c' w fq ae h h1 h2 a ha).1,λ a ha=>⟨hs a (h3 a ha).1,(h3 a ha).2⟩,h4⟩
 ·have back:∀(l:Nat) (d:Cl) (w:V) (fq:List Addr),i≠l->ρ[l]?=some (some d)->σ[l]?=some (some w)->CK K H' P' d w fq->∃fr,CK K H P d w fr/\fr=fq:=λ l d w fq hn hk sk ho=>by
   have io:Gb d=true:=by cases d<;>first|rfl|exact ho.elim
   obtain⟨w',bL,s2,o2,_⟩:=E.ows l d hk io;rw[sk] at s2;cases s2;exact⟨bL,o2,(o2.move sm λ a ha=>(keep l d w bL hn hk sk o2 a ha).1).C8 ho⟩
  rcases get_set h1 with ⟨rfl,hl,e1⟩|⟨cb,h1⟩
  ·cases e1;rw[zU (by rw[E.len];exact hl)] at h3;cases h3;rcases get_set h2 with ⟨e,_⟩|⟨a7,h2⟩
   ·exact (ae e).elim
   ·rw[gs a7] at h4;obtain⟨fr,o,rfl⟩:=back k c2 u' bL a7 h2 h4 h6;intro a ha hb;rw[new.C8 h5] at keep;exact (keep k c2 u' fr a7 h2 h4 o a hb).2 ha
  ·rw[gs cb] at h3;obtain⟨fr,o,rfl⟩:=back j c1 u az cb h1 h3 h5;rcases get_set h2 with ⟨rfl,hl,e1⟩|⟨a7,h2⟩
   ·cases e1;rw[zU (by rw[E.len];exact hl)] at h4;cases h4;intro a ha;rw[new.C8 h6] at keep;exact (keep j c1 u fr cb h1 h3 o a ha).2
   ·rw[gs a7] at h4;obtain⟨na,o2,rfl⟩:=back k c2 u' bL a7 h2 h4 h6;exact E.apart j k c1 c2 u u' fr na h1 h2 h3 h4 o o2 ae
def Ak.nU {K:za}(E:Ak K P0 P H σ ρ){P':Addr->Prop}{H':Hp}{i:Nat}{v:V}{c:Cl}{fp:List Addr}(hs:∀a,P0 a->P' a)(ht:∀a,P' a->Eo H' a)(sm:Ae (del H P) (del H' P'))
 (keep:∀(j:Nat) c' v' ai,i≠j->ρ[j]?=some (some c')->σ[j]?=some (some v')->CK K H P c' v' ai->∀a∈ai,H' a=H a/\a∉fp/\P' a)
 (new:CK K H' P' c v fp) (hp:∀a∈fp,P' a/\¬ P0 a) (nd:fp.Nodup) (fc:∀n,O3 c=some n->v=.ref (P0.g n):=by intro n z;cases z):Ak K P0 P' H' (σ.set i (some v)) (ρ.set i (some c)):=by
 have gs:∀ {j:Nat},i≠j->(σ.set i (some v))[j]?=σ[j]? :=λ h=>yi h;refine⟨hs,ht,λ j e h=>?_,λ j c' h io=>?_,λ j k c1 c2 u u' az bL h1 h2 h3 h4 h5 h6 ae=>?_,by rw[y9,y9];exact E.len,λ j c' n h hp=>?_⟩
 rotate_left 3
 ·rcases get_set h with ⟨rfl,hl,e1⟩|⟨ae,h⟩
  ·cases e1;rw[zU (by rw[E.len];exact hl),fc n hp]
  ·rw[gs ae];exact E.pin j c' n h hp
 ·rcases get_set h with ⟨rfl,hl,e1⟩|⟨ae,h⟩
  ·cases e1;exact new.elim
  ·obtain⟨w,h1,h2⟩:=E.val j e h;exact⟨w,by rw[gs ae];exact h1,h2.mono sm⟩
 ·rcases get_set h with ⟨rfl,hl,e1⟩|⟨ae,h⟩
  ·cases e1;exact⟨v,fp,zU (by rw[E.len];exact hl),new,hp,nd⟩
  ·obtain⟨w,fq,h1,h2,h3,h4⟩:=E.ows j c' h io;exact⟨w,fq,by rw[gs ae];exact h1,h2.move sm λ a ha=>(keep j c' w fq ae h h1 h2 a ha).1,λ a ha=>⟨(keep j c' w fq ae h h1 h2 a ha).2.2,(h3 a ha).2⟩,h4⟩
 ·have back:∀(l:Nat) (d:Cl) (w:V) (fq:List Addr),i≠l->ρ[l]?=some (some d)->σ[l]?=some (some w)->CK K H' P' d w fq->∃fr,CK K H P d w fr/\fr=fq:=λ l d w fq hn hk sk ho=>by
   have io:Gb d=true:=by cases d<;>first|rfl|exact ho.elim
   obtain⟨w',bL,s2,o2,_⟩:=E.ows l d hk io;rw[sk] at s2;cases s2;exact⟨bL,o2,(o2.move sm λ a ha=>(keep l d w bL hn hk sk o2 a ha).1).C8 ho⟩
  rcases get_set h1 with ⟨rfl,hl,e1⟩|⟨cb,h1⟩
  ·cases e1;rw[zU (by rw[E.len];exact hl)] at h3;cases h3;rcases get_set h2 with ⟨e,_⟩|⟨a7,h2⟩
   ·exact (ae e).elim
   ·rw[gs a7] at h4;obtain⟨fr,o,rfl⟩:=back k c2 u' bL a7 h2 h4 h6;intro a ha hb;rw[new.C8 h5] at keep;exact (keep k c2 u' fr a7 h2 h4 o a hb).2.1 ha
  ·rw[gs cb] at h3;obtain⟨fr,o,rfl⟩:=back j c1 u az cb h1 h3 h5;rcases get_set h2 with ⟨rfl,hl,e1⟩|⟨a7,h2⟩
   ·cases e1;rw[zU (by rw[E.len];exact hl)] at h4;cases h4;intro a ha;rw[new.C8 h6] at keep;exact (keep j c1 u fr cb h1 h3 o a ha).2.1
   ·rw[gs a7] at h4;obtain⟨na,o2,rfl⟩:=back k c2 u' bL a7 h2 h4 h6;exact E.apart j k c1 c2 u u' fr na h1 h2 h3 h4 o o2 ae
def P7 {α:Type}:∀ {l:List α}{i:Nat}{x:α},l[i]?=some x->l.set i x=l
 |[],_,_,h=>by cases h
 |y::r,0,x,h=>by cases h;rfl
 |y::r,i+1,x,h=>by rw[zu,P7 (by simpa using h)]
def Ak.mut {K:za}(E:Ak K P0 P H σ ρ){i p:Nat}{xs:List V}{ds kh:List D}(ho:ρ[i]?=some (some (.own ds)))(hs:σ[i]?=some (some (.ref p)))(pP:P p)(ko:¬ P0 p)(hx:Ag K (del H P) xs kh):
 Ak K P0 P (upd H p (.lst xs)) σ (ρ.set i (some (.own kh)))/\Tr P0 P H P (upd H p (.lst xs)):=by
 have sd:del (upd H p (.lst xs)) P=del H P:=by
  funext b;by_cases hb:P b
  ·rw[Ff hb,Ff hb]
  ·rw[Ar hb,Ar hb,Ab (λ z=>hb (by rw[z];exact pP))]
 have sm:Ae (del H P) (del (upd H p (.lst xs)) P):=by rw[sd];exact Ae.refl _
 obtain⟨v,fp,s1,o1,_⟩:=E.ows i _ ho rfl;rw[hs] at s1;cases s1;have key:=E.jC (P':=P) (H':=upd H p (.lst xs)) (i:=i) (v:=.ref p) (c:=.own kh) (fp:=[p]) (λ a h=>h) (λ a h=>?_) sm (λ j c' v' ai ae h1 h2 h3 a ha=>?_) ⟨p,xs,rfl,rfl,Ao,by rw[sd];exact hx⟩ (λ a ha=>by rw[zq.mp ha];exact⟨pP,ko⟩) (by simp)
 ·rw[P7 hs] at key;exact⟨key,sm,λ a h=>by rw[Ab (λ z=>ko (by rw[<-z];exact h))]⟩
 ·by_cases ha:a=p
  ·subst ha;exact Eo.lst Ao
  ·unfold Eo;rw[Ab ha];exact E.Cg a h
 ·obtain⟨p',dl,e,rfl,_⟩:=o1;cases e;have hn:a≠p:=λ z=>E.apart j i c' _ v' _ ai [p] h1 ho h2 hs h3 ⟨p,dl,rfl,rfl,by assumption⟩ (yb ae) a ha (by rw[z];exact zq.mpr rfl);exact⟨Ab hn,λ z=>hn (zq.mp z)⟩
def Ak.grow {K:za}(E:Ak K P0 P H σ ρ){i p:Nat}{xs:List V}{ds:List D}{v:V}{d:D}(ho:ρ[i]?=some (some (.own ds)))(hs:σ[i]?=some (some (.ref p)))(hp:H p=some (.lst xs))(pP:P p)(ko:¬ P0 p)(hx:Ag K (del H P) xs ds)(hv:Bu K (del H P) v d):
 Ak K P0 P (upd H p (.lst (xs++[v]))) σ (ρ.set i (some (.own (ds++[d]))))/\Tr P0 P H P (upd H p (.lst (xs++[v]))):=E.mut ho hs pP ko (hx.snoc hv)
def B1 (i:Nat){x:Str}{pos':Pos}(hN:X.N.Nodup)(hi:X.N[i]?=some x)(hx:Loc X.env.scope x)(ha:DE X WX true e f)(hs:swapsWith e (some (.Name x pos')) pos.line X.env=pure false:=by rfl)(hf:X.fn x=true\/X.env.scope.names.lookup x=some .local:=by first | exact .inl rfl | exact .inr rfl | assumption):
 DS X WX (.Assign [.Name x pos'] e pos) (λ ρ=>(f ρ).bind λ d=>.ok (.next (ρ.set i (some (.val d))))):=by
 obtain⟨ta,a1,a2⟩:=ha;refine⟨_,WD hN hi hx a1 hs hf,λ P0 P σ H Z ρ E h=>?_⟩;dsimp only at h;refine a2 P0 P σ H _ ρ E ?_;cases q:f ρ with
 |bad=>rw[q] at h;exact h
 |ex x=>rw[q] at h;exact λ H' s=>h H' P (E.tr s)
 |ok d=>rw[q] at h;exact λ v H' s hv=>h _ H' P (E.tr s) ((E.same s).Vi hv)
noncomputable def Vj (i:Nat)(ρ:Aa)(m:M D):M Out:=match ρ[i]? with
 |some (some (.own ds))=>m.bind λ d=>if ds.length<1000 then .ok (.next (ρ.set i (some (.own (ds++[d]))))) else .bad
 |_=>.bad
def Vk (i:Nat){x:Str}{p1 apos ac:Pos}(hv:PE X (.Name x p1) (Qh i))(ha:DE X WX true e f)(hs:starEach [e] X.env=[(false,eval e X.env)]:=by rfl)
 (b5:swapsWith (.Call (.Attribute (.Name x p1) "append" apos) [e] [] ac) none pos.line X.env=pure false:=by rfl)
 (ar:attributeBase (.Name x p1) "append" X.env (eval (.Name x p1) X.env)=eval (.Name x p1) X.env:=by rfl)
 (aB:((backTo ac (starEach [e] X.env)).all (λ x => !x.1)&&(backToKw ac (keywordEach [] X.env)).all (λ x=>x.1.isSome)&&decide (([e]:List Expr).length+([]:List Keyword).length+(if ([]:List Keyword).isEmpty then 0 else 1)<30))=true:=by rfl)
 (au:(apos.endLine==ac.line)=true:=by rfl) (ap:(backTo ac (starEach [] X.env)).any (·.1)=false:=by rfl):
 DS X WX (.Expr (.Call (.Attribute (.Name x p1) "append" apos) [e] [] ac) pos) (λ ρ=>Vj i ρ (f ρ)):=by
 obtain⟨ta,a1,a2⟩:=ha;refine⟨_,F9 (NY yz PySem.F.slot_list_append PySem.F.type_list_append NZ hv (Bk a1 Ci hs) ar aB au hs ap) b5,λ P0 P σ H Z ρ E h=>?_⟩;dsimp only at h;unfold Vj at h;split at h
 ·rename_i ds e1;obtain⟨p,xs,h1,h2,h3,h4,h5⟩:=E.own i ds e1;refine⟨_,h1,.inl ⟨rfl,xs,.of h2⟩,?_⟩;refine a2 P0 P σ H _ ρ E ?_;cases q:f ρ with
  |bad=>rw[q] at h;exact h
  |ex y=>rw[q] at h;exact λ H' s=>h H' P (E.tr s)
  |ok d =>
   rw[q] at h;simp only[M.A7] at h;by_cases hl:ds.length<1000
   ·rw[if_pos hl] at h;intro v H1 s1 hv;have E1:=E.same s1;have g8:H1 p=some (.lst xs):=s1 _ _ h2;refine⟨p,xs,v,rfl,rfl,g8,AG (by rw[h5.length];omega),?_⟩;obtain⟨E2,t2⟩:=E1.grow e1 h1 g8 h3 h4 (h5.mono s1.del) hv;exact h _ _ _ ((E.tr s1).trans t2) E2
   ·rw[if_neg hl] at h;exact h.elim
 ·exact h.elim
end
def gG (K:za)(P0:Dg)(P:Addr->Prop)(H:Hp)(Q:St->Hp->Prop):M Aa->Prop
 | .ok ρ=>∀σ',Ak K P0 P H σ' ρ->Q σ' H
 |_=>False
def DG (X:Cx)(tg:Expr)(gt:D->Aa->M Aa):Prop:=
 ∃g:TG,PG X tg g/\∀P0 P σ H Q ρ v d,Ak X.K P0 P H σ ρ->Bu X.K (del H P) v d->gG X.K P0 P H Q (gt d ρ)->g v σ H Q
def pV (X:Cx)(uY:List Expr)(gt:List D->Aa->M Aa):Prop:=
 ∃g:Wn,lC X uY g/\∀P0 P σ H Q ρ v d,Ak X.K P0 P H σ ρ->Ag X.K (del H P) v d->gG X.K P0 P H Q (gt d ρ)->g v σ H Q
structure Vl (K:za)(J:It)(P:Addr->Prop)(H:Hp)(ds:List D):Prop where
 go:∀(i:Nat) P' H',Ae (del H P) (del H' P')->i<ds.length->J.go i H'
 stop:∀(i:Nat) P' H',Ae (del H P) (del H' P')->ds.length<=i->J.stop i H'
 YZ:∀(i:Nat) P' H' v dq d,Ae (del H P) (del H' P')->(∀a,P' a->Eo H' a)->ds[i]?=some d->J.YZ i H' v dq->Ae H' dq/\Bu K (del dq P') v d
def DI (X:Cx)(WX:Str->Hp->Prop)(tg iter:Expr)(f:Aa->M (List D)):Prop:=
 ∃wi,PI X tg iter wi/\∀P0 P σ H R ρ,Ak X.K P0 P H σ ρ->(match f ρ with | .ok ds=>∀J H',Ae H H'->Vl X.K J P H' ds->R J H' | .ex x=>∀H',Ae H H'->WX x H' | .bad=>False)->wi σ H R
noncomputable def forM (gt:D->Aa->M Aa)(body:Aa->M Out):List D->Aa->M Out
 |[],ρ=>.ok (.next ρ)
 |d::r,ρ=>match gt d ρ with
  | .ok ρ1=>(match body ρ1 with
   | .ok (.next ρ2)=>forM gt body r ρ2
   | .ok (.cont ρ2)=>forM gt body r ρ2
   | .ok (.brk ρ2)=>.ok (.next ρ2)
   |m=>m)
  |_=>.bad
section
variable {X:Cx}{WX:Str->Hp->Prop}{c:Bool}{P0:Dg}{P:Addr->Prop}{H:Hp}{σ:St}{ρ:Aa}{a b e tg iter:Expr}{f g:Aa->M D}{ft:Aa->M Bool}{pos:Pos}{gt:D->Aa->M Aa}{cA:List D->Aa->M Aa}{gb:Aa->M Out}{fi:Aa->M (List D)}
def AU (i:Nat){x:Str}(hN:X.N.Nodup)(hi:X.N[i]?=some x)(hx:Loc X.env.scope x)(hf:X.fn x=true\/X.env.scope.names.lookup x=some .local:=by first | exact .inl rfl | exact .inr rfl | assumption):DG X (.Name x pos) (λ d ρ=>.ok (ρ.set i (some (.val d)))):=
 ⟨_,OP hN hi hx hf,λ P0 P σ H Q ρ v d E hv h=>h _ (E.Vi hv)⟩
def Lu:pV X [] (λ ds ρ=>match ds with | []=>.ok ρ | _=>.bad):=⟨_,TF,λ P0 P σ H Q ρ v d E hv h=>by
 cases hv with
 |nil=>exact⟨rfl,h σ E⟩
 |cons _ _=>exact h.elim⟩
def Cz {es:List Expr}(h1:DG X e gt)(h2:pV X es cA)(hs:(assignEach (e::es) X.env).map (·.2)=assign e X.env::(assignEach es X.env).map (·.2):=by rfl):
 pV X (e::es) (λ ds ρ=>match ds with|d::r=>(gt d ρ).bind (cA r)|[]=>.bad):=by
 obtain⟨t,a1,a2⟩:=h1;obtain⟨u,b1,b2⟩:=h2;refine⟨_,Qk a1 b1 hs,λ P0 P σ H Q ρ v d E hv h=>?_⟩;cases hv with
 |nil=>exact h.elim
 | @cons x d xs ds hx bB =>
  refine⟨x,xs,rfl,a2 P0 P σ H _ ρ x d E hx ?_⟩;dsimp only at h;cases q:gt d ρ with
  |bad=>rw[q] at h;exact h
  |ex y=>rw[q] at h;exact h
  |ok ρ1=>rw[q] at h;exact λ σ' E'=>b2 P0 P σ' H Q ρ1 xs ds E' bB h
def P8 {es:List Expr}{k n:Nat}(hc:X.calm=true)(h:pV X es cA)(hn:(assignEach es X.env).length=n:=by rfl)(aN:(assignEach es X.env).findIdx? (·.1)=none:=by rfl):
 DG X (.Tuple es k pos) (λ d ρ=>match d with | .tup ds=>if ds.length=n then cA ds ρ else .bad|_=>.bad):=by
 obtain⟨t,a1,a2⟩:=h;refine⟨_,WC hc a1 hn aN,λ P0 P σ H Q ρ v d E hv h=>?_⟩;cases hv with
 | @tup a xs ds hs hl =>
  dsimp only at h;by_cases hd:ds.length=n
  ·rw[if_pos hd] at h;exact⟨a,xs,rfl,Er.of (Ai hs).2,by rw[hl.length];exact hd,a2 P0 P σ H Q ρ xs ds E hl h⟩
  ·rw[if_neg hd] at h;exact h.elim
 |_=>exact h.elim
def B6 (ha:DE X WX true e f):DI X WX tg e (λ ρ=>(f ρ).bind λ d=>match d with | .lst ds=>.ok ds | _=>.bad):=by
 obtain⟨ta,a1,a2⟩:=ha;refine⟨_,Z0 a1,λ P0 P σ H R ρ E h=>?_⟩;dsimp only at h;refine a2 P0 P σ H _ ρ E ?_;cases q:f ρ with
 |bad=>rw[q] at h;exact h
 |ex x=>rw[q] at h;exact h
 |ok d =>
  rw[q] at h;cases d with
  |lst ds =>
   intro v H1 s1 hv;cases hv with
   | @lst a xs _ hs hl =>
    refine⟨a,rfl,⟨xs,hs.B8⟩,h _ H1 s1 ⟨λ i P' H' s hi=>?_,λ i P' H' s hi=>?_,λ i P' H' v dq d s ht hd y=>?_⟩⟩
    ·obtain⟨x,hx,_⟩:=hl.get (zj hi);exact⟨xs,x,(s.seq hs).B8,hx⟩
    ·exact⟨xs,(s.seq hs).B8,by rw[hl.length];exact hi⟩
    ·obtain⟨rfl,y⟩:=y;obtain⟨x,hx,bP⟩:=hl.get hd;have e:=y xs (s.seq hs).B8;rw[hx] at e;cases e;exact⟨Ae.refl _,bP.mono s⟩
  |_=>exact h.elim
noncomputable def Cj (lo:Int):Nat->List D
 |0=>[]
 |n+1=>.int lo::Cj (lo+1) n
def Ck (lo:Int):∀n:Nat,(Cj lo n).length=n:=by
 intro n;induction n generalizing lo with
 |zero=>rfl
 |succ n ih=>rw[Cj,zp,ih]
def DR {lo:Int}{n i:Nat}{d:D}(h:(Cj lo n)[i]?=some d):d=.int (lo+i)/\i<n:=by
 have hi:i<n:=by
  have:=(zv.mp h).1;rw[Ck] at this;exact this
 refine⟨?_,hi⟩;induction n generalizing lo i with
 |zero=>omega
 |succ n ih =>
  cases i with
  |zero=>rw[Cj] at h;simp at h;rw[<-h];simp
  |succ i =>
   rw[Cj,zQ] at h;rw[ih h (by omega)];congr 1;omega
def Su {K:za}{P:Addr->Prop}{H:Hp}(lo:Int)(n:Nat):Vl K (pN lo n) P H (Cj lo n):=
 ⟨λ i P' H' _ hi=>by rw[Ck] at hi;exact hi,λ i P' H' _ hi=>by rw[Ck] at hi;exact hi,λ i P' H' v dq d _ _ hd y=>by
  obtain⟨rfl,rfl⟩:=y;obtain⟨rfl,_⟩:=DR hd;exact⟨Ae.refl _,.int _⟩⟩
noncomputable def Vm:D->M (List D)
 | .int j=>@ite _ (-(2^62)<=j/\j<2^62) (xn _) (.ok (Cj 0 j.toNat)) .bad
 |_=>.bad
def QE {j:Int}(h1 : -(2^62)<=j)(h2:j<2^62):Vm (.int j)=.ok (Cj 0 j.toNat):=if_pos ⟨h1,h2⟩
def J6 {n:Nat}(h:n<=1000):Vm (.int (n:Int))=.ok (Cj 0 n):=by
 rw[QE (by omega) (by omega),y8]
def F0 {p:Pos}(hg:Gl X "range")(hm:X.mg "range" = none)(ha:DE X WX c a f)(hs:starEach [a] X.env=[(false,eval a X.env)]:=by rfl):
 DI X WX tg (.Call (.Name "range" p) [a] [] pos) (λ ρ=>(f ρ).bind Vm):=by
 obtain⟨ta,a1,a2⟩:=ha;refine⟨_,UZ hg hm (Bk a1 Ci hs) hs,λ P0 P σ H R ρ E h=>?_⟩;dsimp only at h;refine a2 P0 P σ H _ ρ E ?_;cases q:f ρ with
 |bad=>rw[q] at h;exact h
 |ex x=>rw[q] at h;exact h
 |ok d =>
  rw[q] at h;cases d with
  |int j =>
   simp only[M.A7] at h;by_cases hj : -(2^62)<=j/\j<2^62
   ·rw[QE hj.1 hj.2] at h;exact λ v H1 s1 hv=>⟨j,by rw[hv.int_inv],hj.1,hj.2,h _ H1 s1 (Su 0 _)⟩
   ·have e:Vm (.int j)=.bad:=if_neg hj;rw[e] at h;exact h.elim
  |_=>exact h.elim
noncomputable def HW (k:Nat):List D->List D
 |[]=>[]
 |d::r=>.tup [.int k,d]::HW (k+1) r
def Dy (k:Nat)(ds:List D):(HW k ds).length=ds.length:=by
 induction ds generalizing k with
 |nil=>rfl
 |cons d r ih=>rw[HW,zp,zp,ih]
def Hi {k i:Nat}{ds:List D}{e:D}(h:(HW k ds)[i]?=some e):∃d,ds[i]?=some d/\e=.tup [.int ((k+i:Nat):Int),d]:=by
 induction ds generalizing k i with
 |nil=>rw[HW] at h;simp at h
 |cons d r ih =>
  cases i with
  |zero=>rw[HW] at h;simp at h;exact⟨d,rfl,by rw[<-h];rfl⟩
  |succ i =>
   rw[HW,zQ] at h;obtain⟨d',h1,h2⟩:=ih h;refine⟨d',by simpa using h1,?_⟩;rw[h2];congr 3;omega
def P9 {bU:List Expr}{x1}{bu p:Pos}(hg:Gl X "enumerate")(hm:X.mg "enumerate" = none)(ha:DE X WX true a f)(hb:bootBuiltins "enumerate" = some (.type "enumerate"):=by decide +kernel)(hs:starEach [a] X.env=[(false,eval a X.env)]:=by rfl):
 DI X WX (.Tuple bU x1 bu) (.Call (.Name "enumerate" p) [a] [] pos) (λ ρ=>(f ρ).bind λ d=>match d with | .lst ds=>.ok (HW 0 ds)|_=>.bad):=by
 obtain⟨ta,a1,a2⟩:=ha;refine⟨_,Zu hg hm (Bk a1 Ci hs) hb hs,λ P0 P σ H R ρ E h=>?_⟩;dsimp only at h;refine a2 P0 P σ H _ ρ E ?_;cases q:f ρ with
 |bad=>rw[q] at h;exact h
 |ex x=>rw[q] at h;exact h
 |ok d =>
  rw[q] at h;cases d with
  |lst ds =>
   intro v H1 s1 hv;cases hv with
   | @lst a xs _ hs hl =>
    refine⟨a,rfl,⟨xs,hs.B8⟩,h _ H1 s1 ⟨λ i P' H' s hi=>?_,λ i P' H' s hi=>?_,λ i P' H' v dq d s ht hd y=>?_⟩⟩
    ·rw[Dy] at hi;obtain⟨x,hx,_⟩:=hl.get (zj hi);exact⟨xs,x,(s.seq hs).B8,hx⟩
    ·rw[Dy] at hi;exact⟨xs,(s.seq hs).B8,by rw[hl.length];exact hi⟩
    ·obtain⟨p,x,hn,rfl,y,rfl⟩:=y;obtain⟨d',bj,rfl⟩:=Hi hd;obtain⟨x',hx,bP⟩:=hl.get bj;have e:=y xs (s.seq hs).B8;rw[hx] at e;cases e;refine⟨AR hn _,.tup (J2 hn ht) (.cons ?_ (.cons ((bP.mono s).mono (AR hn _).del) .nil))⟩;rw[Nat.zero_add];exact .int _
  |_=>exact h.elim
def Gi {α:Type}{l:List α}{i:Nat}(h:i<l.length):l.drop i=l[i]::l.drop (i+1):=xg h
def BU {body:List Stmt}(hp:PassesOwn (model X.prog X.w) X.A X.env X.xe)(hc:X.calm=true)(hi:DI X WX tg iter fi)(hg:DG X tg gt)(hb:QD X WX body gb)(hs:∀x,foldedSetIterable iter X.env x=pure x:=by intro _;rfl):
 DS X WX (.For tg iter body [] pos) (λ ρ=>(fi ρ).bind λ ds=>forM gt gb ds ρ):=by
 obtain⟨wi,i1,i2⟩:=hi;obtain⟨t,a1,a2⟩:=hg;obtain⟨tb,b1,b2⟩:=hb;refine⟨_,WH hp hc i1 a1 b1 hs,λ P0 P σ H Z ρ E h=>?_⟩;dsimp only at h;refine i2 P0 P σ H _ ρ E ?_;cases q:fi ρ with
 |bad=>rw[q] at h;exact h
 |ex x=>rw[q] at h;exact λ H' s=>h H' P (E.tr s)
 |ok ds =>
  rw[q] at h;simp only[M.A7] at h;intro J H1 s1 ok;refine⟨λ i m σ' H'=>m=ds.length-i/\i<=ds.length/\∃P' ρ',Tr P0 P H1 P' H'/\Ak X.K P0 P' H' σ' ρ'/\gS X.K WX P0 P' H' Z (forM gt gb (ds.drop i) ρ'),
   ⟨ds.length,by simp,zS _,P,ρ,Tr.refl,E.same s1,by rw[List.drop_zero];exact h.tr (E.tr s1)⟩,?_⟩
  rintro i m σ' H' ⟨rfl,hi,P',ρ',t',E',g'⟩;by_cases ah:i<ds.length
  ·refine .inr ⟨ok.go i P' H' t'.1 ah,λ σ2 H2=>i+1<=ds.length/\∃P2 ρ2,Tr P0 P H1 P2 H2/\Ak X.K P0 P2 H2 σ2 ρ2/\gS X.K WX P0 P2 H2 Z (forM gt gb (ds.drop (i+1)) ρ2),λ σ2 H2 hq=>⟨ds.length-(i+1),by omega,rfl,hq.1,hq.2⟩,λ v H2 y=>?_⟩;obtain⟨s2,hv⟩:=ok.YZ i P' H' v H2 ds[i] t'.1 E'.Cg (zj ah) y;rw[Gi ah,forM] at g';have E2:=E'.same s2;refine a2 P0 P' σ' H2 _ ρ' v ds[i] E2 hv ?_;cases q1:gt ds[i] ρ' with
   |bad=>rw[q1] at g';exact g'
   |ex x=>rw[q1] at g';exact g'.elim
   |ok ρ1 =>
    rw[q1] at g';dsimp only at g';intro σ3 E3;refine b2 P0 P' σ3 H2 _ ρ1 E3 ?_;have tt:Tr P0 P H1 P' H2:=t'.trans (E'.tr s2);cases q2:gb ρ1 with
    |bad=>rw[q2] at g';exact g'
    |ex x=>rw[q2] at g';exact gS.tr (m:=.ex x) g' (E'.tr s2)
    |ok o =>
     rw[q2] at g';cases o with
     |ret d=>exact gS.tr (m:=.ok (.ret d)) g' (E'.tr s2)
     |Ca d=>exact gS.tr (m:=.ok (.Ca d)) g' (E'.tr s2)
     |Ep d ρ2=>exact gS.tr (m:=.ok (.Ep d ρ2)) g' (E'.tr s2)
     |next ρ2=>exact λ σ4 H4 P4 t4 E4=>⟨ah,P4,ρ2,tt.trans t4,E4,gS.tr g' ((E'.tr s2).trans t4)⟩
     |cont ρ2=>exact λ σ4 H4 P4 t4 E4=>⟨ah,P4,ρ2,tt.trans t4,E4,gS.tr g' ((E'.tr s2).trans t4)⟩
     |brk ρ2=>exact λ σ4 H4 P4 t4 E4=>g' σ4 H4 P4 ((E'.tr s2).trans t4) E4
  ·have e:i=ds.length:=by omega
   subst e;refine .inl ⟨ok.stop _ P' H' t'.1 (zw _),?_⟩;rw[xk,forM] at g';exact g' σ' H' P' Tr.refl E'
end
noncomputable def Sv (K:za)(n:Nat)(F:List D->M D):Sp:=λ vs H Q _=>vs.length=n/\∃P ds,(∀a,P a->Eo H a)/\Ag K (del H P) vs ds/\gV K (λ _ _=>False) P H Q (F ds)
noncomputable def AE (N:List Str)(ds:List D):Aa:=ds.map (λ d=>some (.val d))++zy (N.length-ds.length) none
noncomputable def rX:Cl->M D
 | .val d=>.ok d
 | .own ds=>.ok (.lst ds)
 | .ow (.rows Fe)=>.ok (.lst (Fe.map D.lst))
 | .ow (.Ld _ _)=>.bad
 | .ow (.tree _ t)=>.ok (er t)
noncomputable def fin (m:M Out):M D:=match m with
 | .ok (.ret d)=>.ok d
 | .ok (.Ca c)=>rX c
 | .ok (.next _)=>.ok .AD
 |_=>.bad
def O8 {K:za}{P:Addr->Prop}{H:Hp}{N:List Str}{vs:List V}{ds:List D}(ht:∀a,P a->Eo H a)(h:Ag K (del H P) vs ds):Ak K ⟨P,λ _=>0⟩ P H (start N vs) (AE N ds):=by
 have hl:=h.length;have key:∀(i:Nat) (c:Cl),(AE N ds)[i]?=some (some c)->∃d,ds[i]?=some d/\c=.val d:=λ i c e=>by
  unfold AE at e;by_cases hi:i<ds.length
  ·rw[yv (by simpa using hi),zI] at e;cases q:ds[i]? with
   |none=>rw[q] at e;cases e
   |some d=>rw[q] at e;cases e;exact⟨d,rfl,rfl⟩
  ·rw[yX (by simpa using hi),List.getElem?_replicate] at e;split at e<;>cases e
 refine⟨λ _ h=>h,ht,λ i d e=>?_,λ i es e io=>?_,λ i j c c' v v' fp ai e _ _ _ ho _ _=>?_,?_,λ i c n e hp=>?_⟩
 rotate_left 4
 ·obtain⟨d',q,z⟩:=key i _ e;cases z;cases hp
 ·obtain⟨d',q,z⟩:=key i _ e;cases z;obtain⟨v,hv,hd⟩:=h.get q;refine⟨v,?_,hd⟩;unfold start;rw[yv (by rw[ze];exact (zv.mp hv).1),zI,hv];rfl
 ·obtain⟨d',q,z⟩:=key i _ e;cases z;cases io
 ·obtain⟨d',q,z⟩:=key i _ e;cases z;exact ho.elim
 ·unfold start AE;simp[hl]
def Dr {P:Addr->Prop}{H H':Hp}{P':Addr->Prop}(t:Tr P P H P' H'):Ae H H':=λ b o e=>by
 by_cases hb:P b
 ·rw[t.2 b hb];exact e
 ·exact (Ai (t.1 b o (by rw[Ar hb];exact e))).2
def Cw.jD {K:za}{H:Hp}{P P0:Addr->Prop}(hs:∀a,P0 a->P a):∀ {ps:List Addr}{Fe:List (List D)},(∀a∈ps,¬ P0 a)->Cw K H P ps Fe->Ag K (del H P0) (ps.map V.ref) (Fe.map D.lst)
 |_,_,_,.nil=>.nil
 |_,_,k,.cons h r t=>.cons (.lst (.of (show del H P0 _=_ by rw[Ar (k _ zc)];exact h)) (r.mono (Cv hs))) (Cw.jD hs (λ a ha=>k a (zf _ ha)) t)
def ZC {K:za}{WX:Str->Hp->Prop}{P P2:Addr->Prop}{H H':Hp}{Q:VK}{c:Cl}{v:V}{fp:List Addr}(h:gV K WX P H Q (rX c))(t':Tr P P H P2 H')(hs:∀a,P a->P2 a)(ht:∀a,P2 a->Eo H' a)(ho:CK K H' P2 c v fp)(hp:∀a∈fp,P2 a/\¬ P a):Q v H':=by
 cases c with
 |val d=>exact ho.elim
 |own ds =>
  obtain⟨p,xs,rfl,rfl,h1,h2⟩:=ho;exact h _ H' (Dr t') (.lst (.of (show del H' P p=_ by rw[Ar (hp p zc).2];exact h1)) (h2.mono (Cv hs)))
 |ow o =>
  cases o with
  |rows Fe =>
   obtain⟨p,ps,rfl,rfl,h1,h2⟩:=ho;exact h _ H' (Dr t') (.lst (.of (show del H' P p=_ by rw[Ar (hp p zc).2];exact h1)) (h2.jD hs λ a ha=>(hp a (zf _ ha)).2))
  |Ld p ds=>exact h.elim
  |tree p t=>exact h _ H' (Dr t') (BI.has hs (λ a ha=>(hp a ha).2) ho)
section
variable {P:Program}{w:World}{K:za}{mg:Str->Option Value}{base:Heap}
def nV {x qual:Str}{st:Stmt}{f:Addr}{fd:FuncData}{N ps:List Str}{k:Nat}(F:Wo K x qual st f fd)(S:Ah N ps (A3 st))(g:Aa->M Out)
 (hb:∀(B4:Value) (A:Around) (outer:List Env) (s:Shared) (H:Hp) (E:XK),BD k (A.deeper (envOfC qual (A3 st) s.heap.objs.size f B4))->QD (La Zi P w K mg base N qual (A3 st) f B4 A outer s H E).mC (λ _ _=>False) (Az st) g):
 Df P w K mg base Zi (k+1) f fd ps (Sv K ps.length λ ds=>fin (g (AE N ds))):=by
 refine F.ok S (λ vs H Q E h=>h.1) λ B4 A outer s H vs Q E hr h=>?_;obtain⟨hl,P',ds,ht,hv,hq⟩:=h;obtain⟨t,h1,h2⟩:=hb B4 A outer s H E hr;refine⟨t,h1,h2 ⟨P',λ _=>0⟩ P' _ H _ _ (O8 ht hv) ?_⟩;dsimp only at hq;revert hq;cases g (AE N ds) with
 |bad=>exact λ h=>h.elim
 |ex x=>exact λ h=>h.elim
 |ok o =>
  cases o with
  |ret d=>exact λ h v H' P2 t hv=>h v H' (Dr t) hv
  |next ρ=>exact λ h σ' H' P2 t E=>h .AD H' (Dr t) .AD
  |brk ρ=>exact λ h=>h.elim
  |cont ρ=>exact λ h=>h.elim
  |Ca c=>exact λ h v fp H' P2 t hs ht ho hp nd=>ZC h t hs ht ho hp
  |Ep d ρ=>exact λ h=>h.elim
end
section
variable {X:Cx}{WX:Str->Hp->Prop}{c:Bool}{P0:Dg}{P:Addr->Prop}{H:Hp}{σ:St}{ρ:Aa}{a b e tg iter:Expr}{f g:Aa->M D}{ft:Aa->M Bool}{pos:Pos}{gt:D->Aa->M Aa}{fi:Aa->M (List D)}{es:List Expr}{fs:Aa->M (List D)}
noncomputable def BB (μ:List (Option Nat))(ρ:Aa):Aa:=μ.map λ o=>o.bind λ i=>match ρ[i]? with | some (some (.val d))=>some (.val d) | _=>none
def Hj {μ:List (Option Nat)}{ρ:Aa}{j:Nat}{cl:Cl}(h:(BB μ ρ)[j]?=some (some cl)):∃i d,μ[j]?=some (some i)/\ρ[i]?=some (some (.val d))/\cl=.val d:=by
 unfold BB at h;rw[zI] at h;cases q:μ[j]? with
 |none=>rw[q] at h;cases h
 |some o =>
  rw[q] at h;cases o with
  |none=>cases h
  |some i =>
   simp only[yt,Option.bind_some,Option.some.injEq] at h;split at h
   ·rename_i d e;cases h;exact⟨i,d,rfl,e,rfl⟩
   ·cases h
def Ak.block {K:za}(E:Ak K P0 P H σ ρ)(μ:List (Option Nat)):Ak K P0 P H (EB μ σ) (BB μ ρ):=by
 refine⟨E.sub,E.Cg,λ j d h=>?_,λ j ds h io=>?_,λ j k c c' v v' fp ai h _ _ _ ho _ _=>?_,by unfold EB BB;simp,λ j c n h hp=>by obtain⟨i,d',h1,h2,h3⟩:=Hj h;subst h3;cases hp⟩
 ·obtain⟨i,d',h1,h2,h3⟩:=Hj h;cases h3;obtain⟨v,h4,h5⟩:=E.val i d h2;refine⟨v,?_,h5⟩;unfold EB;rw[zI,h1];simp[h4]
 ·obtain⟨i,d',h1,h2,h3⟩:=Hj h;cases h3;cases io
 ·obtain⟨i,d',h1,h2,h3⟩:=Hj h;cases h3;exact ho.elim
noncomputable def Bi (gt:D->Aa->M Aa)(ft:Aa->M Bool)(fe:Aa->M D):List D->Aa->M (List D)
 |[],_=>.ok []
 |d::r,ρ=>match gt d ρ with
  | .ok ρ1=>(match ft ρ1 with
   | .ok k=>if k=true then (match fe ρ1 with
    | .ok y=>(match Bi gt ft fe r ρ with | .ok ys=>.ok (y::ys)|_=>.bad)
    |_=>.bad) else Bi gt ft fe r ρ
   |_=>.bad)
  |_=>.bad
def pW (X:Cx)(scope:Scope)(NB:List Str)(μ:List (Option Nat))(tg:Expr)(gt:D->Aa->M Aa):Prop:=
 ∃g:TG,(∀s H C ex,PG (blockOf X s H scope C NB ex) tg g)/\Kb μ g/\∀P0 P σ H Q ρ v d,Ak X.K P0 P H σ ρ->Bu X.K (del H P) v d->gG X.K P0 P H Q (gt d ρ)->g v σ H Q
def CB {scope:Scope}{NB:List Str}{μ:List (Option Nat)}(i:Nat){x:Str}(hN:NB.Nodup)(hi:NB[i]?=some x)(hx:(relabel scope X.env).names.lookup x=some .local)(hm:μ[i]?=some none):pW X scope NB μ (.Name x pos) (λ d ρ=>.ok (ρ.set i (some (.val d)))):=
 ⟨NR i,λ s H C ex=>OP (X:=blockOf X s H scope C NB ex) hN hi (.inl hx) (.inr hx),Zr hm,λ P0 P σ H Q ρ v d E hv h=>h _ (E.Vi hv)⟩
def pX (X:Cx)(cs:List Expr)(f:Aa->M Bool):Prop:=
 ∃t,lE X cs t/\∀P0 P σ H Q ρ,Ak X.K P0 P H σ ρ->gT (λ _ _=>False) H Q (f ρ)->t σ H Q
def Fi:pX X [] (λ _=>.ok true):=⟨_,Zp,λ P0 P σ H Q ρ E h=>h H (Ae.refl H)⟩
def J7 (h:DT X (λ _ _=>False) a ft):pX X [a] ft:=let ⟨t,h1,h2⟩:=h;⟨_,Zq h1,h2⟩
noncomputable def J8 (m:M (List D)):M D:=match m with | .ok ys=>.ok (.lst ys) | _=>.bad
def jE {μ:List (Option Nat)}{wi:TI}{gg:TG}{tc:Shared->Hp->Addr->List Addr->TT}{te:Shared->Hp->Addr->List Addr->TE}{fe:Aa->M D}
 (i2:∀P0 P σ H R ρ,Ak X.K P0 P H σ ρ->(match fi ρ with | .ok ds=>∀J H',Ae H H'->Vl X.K J P H' ds->R J H' | .ex x=>∀H',Ae H H'->WX x H' | .bad=>False)->wi σ H R)
 (g2:∀P0 P σ H Q ρ v d,Ak X.K P0 P H σ ρ->Bu X.K (del H P) v d->gG X.K P0 P H Q (gt d ρ)->gg v σ H Q)
 (t2:∀s H' C ex P0 P σ H Q ρ,Ak X.K P0 P H σ ρ->gT (λ _ _=>False) H Q (ft ρ)->tc s H' C ex σ H Q)
 (e2:∀s H' C ex P0 P σ H Q ρ,Ak X.K P0 P H σ ρ->gV X.K (λ _ _=>False) (Lv c P0 P) H Q (fe ρ)->te s H' C ex σ H Q) {Q:VK}
 (E:Ak X.K P0 P H σ ρ) (h:gV X.K WX (Lv c P0 P) H Q ((fi ρ).bind λ ds=>if ds.length<=1000 then J8 (Bi gt ft fe ds (BB μ ρ)) else .bad)):TV wi μ gg tc te σ H Q:=by
 refine i2 P0 P σ H _ ρ E ?_;cases q:fi ρ with
 |bad=>rw[q] at h;exact h
 |ex x=>rw[q] at h;exact h
 |ok ds =>
  rw[q] at h;simp only[M.A7] at h;by_cases hd:¬ ds.length<=1000
  ·rw[if_neg hd] at h;exact h.elim
  have hd:ds.length<=1000:=by omega
  rw[if_pos hd] at h;intro J H1 s1 ok s C ex;cases qc:Bi gt ft fe ds (BB μ ρ) with
  |bad=>rw[qc] at h;exact h.elim
  |ex x=>rw[qc] at h;exact h.elim
  |ok total =>
   rw[qc] at h;unfold J8 at h;dsimp only at h;have E1:=E.same s1;refine⟨λ i m ys H2=>m=ds.length-i/\i<=ds.length/\ys.length<=i/\Ae H1 H2/\∃es rest,Ag X.K (del H2 (Lv c P0 P)) ys es/\Bi gt ft fe (ds.drop i) (BB μ ρ)=.ok rest/\es++rest=total,
    ⟨ds.length,by simp,zS _,zw _,Ae.refl _,[],total,.nil,by rw[List.drop_zero];exact qc,rfl⟩,?_⟩
   rintro i m ys H2 ⟨rfl,hi,hy,s2,es,rest,fg,ao,bc⟩;by_cases ah:i<ds.length
   ·refine .inr ⟨ok.go i P H2 s2.del ah,Nat.lt_of_le_of_lt hy (AG (by omega)),λ bq H'=>i+1<=ds.length/\bq.length<=i+1/\Ae H1 H'/\∃es rest,Ag X.K (del H' (Lv c P0 P)) bq es/\Bi gt ft fe (ds.drop (i+1)) (BB μ ρ)=.ok rest/\es++rest=total,λ bq H' hq=>⟨ds.length-(i+1),by omega,rfl,hq.1,hq.2.1,hq.2.2.1,hq.2.2.2⟩,λ v H3 y=>?_⟩;have E2:=E1.same s2;obtain⟨s3,hv⟩:=ok.YZ i P H2 v H3 ds[i] s2.del E2.Cg (zj ah) y;rw[Gi ah,Bi] at ao;have E3:=(E2.same s3).block μ;refine g2 P0 P _ H3 _ (BB μ ρ) v ds[i] E3 hv ?_;cases q1:gt ds[i] (BB μ ρ) with
    |bad=>rw[q1] at ao;cases ao
    |ex x=>rw[q1] at ao;cases ao
    |ok ρ1 =>
     rw[q1] at ao;dsimp only at ao;intro σ4 E4;refine t2 s H1 C ex P0 P σ4 H3 _ ρ1 E4 ?_;cases q2:ft ρ1 with
     |bad=>rw[q2] at ao;cases ao
     |ex x=>rw[q2] at ao;cases ao
     |ok k =>
      rw[q2] at ao;dsimp only at ao;intro H5 s5;cases k with
      |false =>
       simp only[zB,if_false] at ao ⊢;exact⟨ah,by omega,(s2.trans s3).trans s5,es,rest,(fg.mono s3.del).mono s5.del,ao,bc⟩
      |true =>
       simp only[if_true] at ao ⊢;refine e2 s H1 C ex P0 P σ4 H5 _ ρ1 (E4.same s5) ?_;cases q3:fe ρ1 with
       |bad=>rw[q3] at ao;cases ao
       |ex x=>rw[q3] at ao;cases ao
       |ok y' =>
        rw[q3] at ao;dsimp only at ao;cases q4:Bi gt ft fe (ds.drop (i+1)) (BB μ ρ) with
        |bad=>rw[q4] at ao;cases ao
        |ex x=>rw[q4] at ao;cases ao
        |ok nc =>
         rw[q4] at ao;cases ao;intro w H6 s6 hw;refine⟨ah,by rw[zK,yC];omega,((s2.trans s3).trans s5).trans s6,es++[y'],nc,(((fg.mono s3.del).mono s5.del).mono s6.del).snoc hw,rfl,?_⟩;rw[y7];exact bc
   ·have e:i=ds.length:=by omega
    subst e;rw[xk,Bi] at ao;cases ao;rw[zX] at bc;subst bc;refine .inl ⟨ok.stop _ P H2 s2.del (zw _),λ D0 hn=>h _ _ ((s1.trans s2).trans (AR hn _)) (.lst (.of (J2 hn λ a q=>(E1.same s2).nM c a q)) (fg.mono (AR hn _).del))⟩
def Pa {scope:Scope}{NB:List Str}{ifs:List Expr}{elt:Expr}{fe:Aa->M D}(i:Nat){x:Str}{px aD:Pos}(μ:List (Option Nat))(hN:X.N.Nodup)(mx:X.N[i]?=some x)(hx:Loc X.env.scope x)(hc:X.calm=true)(hi:DI X WX tg iter fi)(aA:Ka scope X.env.scope=true)(bJ:Qt X.N NB scope μ=true)(hg:pW X scope NB μ tg gt)
 (ht:∀s H C ex,pX (blockOf X s H scope C NB ex) ifs ft) (he:∀s H C ex,DE (blockOf X s H scope C NB ex) (λ _ _=>False) true elt fe)
 (b5:swapsWith (.ListComp elt [⟨tg,iter,ifs,0⟩] scope pos) (some (.Name x px)) aD.line X.env=pure true:=by rfl) (hs:∀x,foldedSetIterable iter X.env x=pure x:=by intro _;rfl) (hf:X.fn x=true\/X.env.scope.names.lookup x=some .local:=by first|exact .inl rfl|exact .inr rfl|assumption):
 DS X WX (.Assign [.Name x px] (.ListComp elt [⟨tg,iter,ifs,0⟩] scope pos) aD) (λ ρ=>((fi ρ).bind λ ds=>if ds.length<=1000 then J8 (Bi gt ft fe ds (BB μ ρ)) else .bad).bind λ d=>.ok (.next (ρ.set i (some (.val d))))):=by
 obtain⟨wi,i1,i2⟩:=hi;obtain⟨gg,g1,gk,g2⟩:=hg;refine⟨_,Zt hN mx hx hc i1 aA bJ gk (λ s H C ex=>⟨g1 s H C ex,(zb (ht s H C ex)).1,(zb (he s H C ex)).1⟩) b5 hs hf,λ P0 P σ H Z ρ E h=>?_⟩;refine jE (c:=true) i2 g2 (λ s H' C ex P0 P σ H Q ρ E h=>(zb (ht s H' C ex)).2 P0 P σ H Q ρ E h) (λ s H' C ex P0 P σ H Q ρ E h=>(zb (he s H' C ex)).2 P0 P σ H Q ρ E h) E ?_;dsimp only at h;revert h;cases ((fi ρ).bind λ ds=>if ds.length<=1000 then J8 (Bi gt ft fe ds (BB μ ρ)) else .bad) with
 |bad=>exact λ h=>h
 |ex y=>exact λ h H' s=>h H' P (E.tr s)
 |ok d=>exact λ h v H' s hv=>h _ H' P (E.tr s) ((E.same s).Vi hv)
end
section
variable {X:Cx}{WX:Str->Hp->Prop}{c:Bool}{P0:Dg}{P:Addr->Prop}{H:Hp}{σ:St}{ρ:Aa}{a b e k:Expr}{f g:Aa->M D}{te tk:TE}{pos p2:Pos}
noncomputable def uZ (x y:D):M D:=match x,y with | .lst ds,.int i=>if i = -1 then .ok (.lst ds.reverse) else .bad | _,_=>.bad
noncomputable def Cb:List D->Option (List Int)
 |[]=>some []
 | .int i::r=>(Cb r).map (i::·)
 |_=>none
noncomputable def Xk:D->Option (List Int)
 | .tup ds=>Cb ds
 |_=>none
noncomputable def Gj:List D->Option (List (D×List Int))
 |[]=>some []
 |d::r=>(Xk d).bind λ k=>(Gj r).map ((d,k)::·)
noncomputable def U2 (l d:D):M D:=match l with
 | .lst ds=>(match Gj ds with|some ks=>.ok (match AX ks with|none=>d|some b=>b.1)|none=>.bad)
 |_=>.bad
def Hk {K:za}{H:Hp}:∀ {xs:List V}{ds:List D}{ns:List Int},Ag K H xs ds->Cb ds=some ns->xs=ns.map V.int
 |_,_,_,.nil,e=>by simp only[Cb] at e;cases e;rfl
 |_,_,_,.cons (d:=d) h t,e=>by
  cases d with
  |int i =>
   simp only[Cb] at e;cases q:Cb _ with
   |none=>rw[q] at e;cases e
   |some ns =>
    rw[q] at e;cases e;rw[h.int_inv,Hk t q];rfl
  |_=>simp[Cb] at e
noncomputable abbrev Alike (K:za)(H:Hp):List (Addr×List Int)->List (D×List Int)->Prop:=Paired λ p q=>p.2=q.2/\Bu K H (.ref p.1) q.1
def Ik {K:za}{H:Hp}:∀ {xs:List V}{ds:List D}{ks:List (D×List Int)},Ag K H xs ds->Gj ds=some ks->∃bs:List (Addr×List Int),xs=bs.map (λ b=>V.ref b.1)/\(∀b∈bs,Er K H b.1 (b.2.map V.int))/\Alike K H bs ks
 |_,_,_,.nil,e=>by simp only[Gj] at e;cases e;exact⟨[],rfl,by simp,.nil⟩
 |_,_,_,.cons (d:=d) h t,e=>by
  simp only[Gj] at e;cases q:Xk d with
  |none=>rw[q] at e;cases e
  |some k =>
   rw[q] at e;simp only[Option.bind_some] at e;cases q2:Gj _ with
   |none=>rw[q2] at e;cases e
   |some ks =>
    rw[q2] at e;cases e;obtain⟨bs,h1,h2,h3⟩:=Ik t q2;cases d with
    |tup es =>
     have h':=h;cases h with
     | @tup a xs _ hs hl =>
      simp only[Xk] at q;have e1:=Hk hl q;subst e1;refine⟨(a,k)::bs,by rw[h1];rfl,λ b hb=>?_,.cons ⟨rfl,h'⟩ h3⟩;rcases zr.mp hb with z|z
      ·subst z;exact Er.of hs
      ·exact h2 b z
    |_=>simp[Xk] at q
def Mm {K:za}{H:Hp}{bs:List (Addr×List Int)}{ks:List (D×List Int)}(h:Alike K H bs ks):(AX bs=none/\AX ks=none)\/∃b k,AX bs=some b/\AX ks=some k/\b.2=k.2/\Bu K H (.ref b.1) k.1:=by
 unfold AX
 suffices z:∀(o:Option (Addr×List Int)) (o':Option (D×List Int)),((o=none/\o'=none)\/∃b k,o=some b/\o'=some k/\b.2=k.2/\Bu K H (.ref b.1) k.1)->
  ((bs.foldl BA o=none/\ks.foldl BA o'=none) \/
   ∃b k,bs.foldl BA o=some b/\ks.foldl BA o'=some k/\b.2=k.2/\Bu K H (.ref b.1) k.1) from z none none (.inl ⟨rfl,rfl⟩)
 induction h with
 |nil=>intro o o' h;exact h
 | @cons b k bs ks hh t ih =>
  intro o o' h;rw[zN,zN];refine ih _ _ ?_;rcases h with ⟨rfl,rfl⟩|⟨b',k',rfl,rfl,e1,e2⟩
  ·exact .inr ⟨b,k,rfl,rfl,hh⟩
  ·unfold BA;dsimp only;rw[hh.1,e1];by_cases hl:HT.lexLt k.2 k'.2=true
   ·rw[if_pos hl,if_pos hl];exact .inr ⟨b,k,rfl,rfl,hh⟩
   ·rw[if_neg hl,if_neg hl];exact .inr ⟨b',k',rfl,rfl,e1,e2⟩
def ZD {p kp:Pos}{e2:Expr}(hc:X.calm=true)(hu:X.A.units+1<cLine)(hg:Gl X "min")(hm:X.mg "min" = none)(ha:DE X WX c e f)(hb:DE X WX c e2 g)
 (aN:starEach [e] X.env=[(false,eval e X.env)]:=by rfl) (bw:(backToKw pos (keywordEach [⟨some "default",e2,kp⟩] X.env)).all (·.1.isSome)=true:=by rfl) (m7:(backToKw pos (keywordEach [⟨some "default",e2,kp⟩] X.env)).filterMap (·.1)=([("default" : Str)]:List Str):=by rfl)
 (m8:(backToKw pos (keywordEach [⟨some "default",e2,kp⟩] X.env)).any (·.1.isNone)=false:=by rfl) (e9:backTo pos (starEach [e] X.env)=(false,eval e X.env)::backTo pos (starEach [] X.env):=by rfl) (hpl:(backTo pos (starEach [e] X.env)).any (·.1)=false:=by rfl):
 DE X WX c (.Call (.Name "min" p) [e] [⟨some "default",e2,kp⟩] pos) (λ ρ=>(f ρ).bind λ x=>(g ρ).bind λ y=>U2 x y):=by
 obtain⟨ta,a1,a2⟩:=ha;obtain⟨tb,b1,b2⟩:=hb;refine⟨_,Zv hc hu hg hm a1 b1 aN bw m7 m8 e9 hpl,λ P0 P σ H Q ρ E h=>Qz (r:=λ x d H2 Q=>∃(a:Addr) (bs:List (Addr×List Int)),x=.ref a/\Dn X.K H2 a (bs.map λ b=>V.ref b.1)/\(∀b∈bs,Er X.K H2 b.1 (b.2.map V.int))/\Q (match AX bs with|none=>d|some b=>.ref b.1) H2) a2 b2 ?_ E h⟩;intro P H x y v w Q ht hx hy h;unfold U2 at h;split at h
 ·rename_i ds;split at h
  ·rename_i ks e1;cases hx with
   | @lst a xs _ hs hl =>
    obtain⟨bs,rfl,h2,h3⟩:=Ik hl e1;refine⟨a,bs,rfl,hs.B8,λ b hb=>(h2 b hb).B8,?_⟩;rcases Mm h3 with ⟨q1,q2⟩|⟨b,k,q1,q2,_,q3⟩
    ·rw[q1];rw[q2] at h;exact h _ H (Ae.refl H) hy
    ·rw[q1];rw[q2] at h;exact h _ H (Ae.refl H) q3
  ·exact h.elim
 ·exact h.elim
end
def B0 {A:Around}{k:Nat}(hr:BD k A)(n:Nat)(hn:n<=64):A.units+n<cLine:=by have:=hr.units;omega
structure AK (K:za)(mg:Str->Option Value)(x:Str)(st:Stmt)(ps:List Str):Prop where
 ex:∃f fd,Wo K x x st f fd/\mg x=some (.ref f)/\Binds K fd ps []
def Bf.there {P:Program}{w:World}{H:Hp}{h:Heap}{a:Addr}{o:HO}(x:Bf P w H h a o):∃ob,h.get? a=some ob:=by
 cases o with
 |lst xs=>obtain⟨_,_,_,_,e⟩:=x;exact⟨_,e⟩
 |tup xs=>obtain⟨_,_,_,o,e,_⟩:=x;exact⟨o,e⟩
 |dK kvs=>obtain⟨_,_,_,_,o,_,_,e,_⟩:=x;exact⟨_,e⟩
 |dT kvs=>obtain⟨_,_,_,_,o,_,_,e,_⟩:=x;exact⟨_,e⟩
 |set S n=>obtain⟨o,_,_,_,e,_⟩:=x;exact⟨_,e⟩
 |ins C dx fs=>obtain⟨_,_,_,e,_⟩:=x;exact⟨_,e⟩
 |own y=>obtain⟨_,e⟩:=x;exact⟨_,e⟩
 |xd fs=>obtain⟨_,⟨_,_,_,e,_⟩,_⟩:=x;exact⟨_,e⟩
 |pL lo hi=>obtain⟨_,_,_,e⟩:=x;exact⟨_,e⟩
 |EW ob u=>obtain⟨e,_⟩:=x;exact⟨_,e⟩
 |eV ps=>exact⟨_,(show h.get? a=some _ from x)⟩
 |met f y=>exact⟨_,(show h.get? a=some _ from x)⟩
 |ext φ=>obtain⟨_,⟨_,e⟩,_⟩:=x;exact⟨_,e⟩
def F7.gone {P:Program}{w:World}{H:Hp}{h:Heap}{a:Addr}(x:F7 P w H h)(e:h.get? a=none):H a=none:=by
 cases q:H a with
 |none=>rfl
 |some o=>obtain⟨ob,z⟩:=(x a o q).there;rw[e] at z;cases z
structure jF (base g:Heap)(H:Hp)(l:List Env)(ea c:Addr)(h:Heap):Prop where
 wQ:∃a0,Heap.FlyingW base l ea (.ref c) a0 h
 new:g.get? ea=none
 un:H ea=none
 tr:∀oe vs T,h.get? ea=some oe->oe.data=.fields vs->vs[1]?=some (.ref T)->H T=none/\g.get? T=none
noncomputable def Sw (P:Program)(w:World)(base:Heap):TJ:=λ outer H s E ev s'=>∃(ea c:Addr) (H':Hp),ev=.ref ea/\s'.os=s.os/\AllBare s'.gens/\Un (KJ outer) [] H H' s.heap s'.heap/\F7 P w H' s'.heap/\jF base s.heap H' outer ea c s'.heap/\E (.ref c) none H'
section
variable {P:Program}{w:World}{K:za}{mg:Str->Option Value}{base:Heap}{N:List Str}{qual:Str}{scope:Scope}{f:Addr}{cd:Value}{A:Around}{outer:List Env}{s:Shared}{H:Hp}{E:XK}
noncomputable abbrev U3 (P:Program)(w:World)(K:za)(mg:Str->Option Value)(base:Heap)(N:List Str)(qual:Str)(scope:Scope)(f:Addr)(cd:Value)(A:Around)(outer:List Env)(s:Shared)(H:Hp)(E:XK):Cx:=
 La (Sw P w base) P w K mg base N qual scope f cd A outer s H E
def fF {pins:List (Addr×Obj)}{σ:St}{H1:Hp}{s1:Shared}{h' B:Heap}{ea c:Addr}{a0:Value}{hid:List Addr}(J:Inv (U3 P w K mg base N qual scope f cd A outer s H E) pins σ H1 s1)
 (hB:∀b o,s1.heap.get? b=some o->b∉KJ (envOfC qual scope s.heap.objs.size f cd::outer)->b∉hid->(H1 b≠none\/∃o',s.heap.get? b=some o')->B.get? b=some o) (va:base.StaysIn B)
 (hh:∀b∈hid,H1 b=none/\s.heap.get? b=none) (hT:∀b,B.get? b=none->b∉KJ (envOfC qual scope s.heap.objs.size f cd::outer)->H1 b=none/\s.heap.get? b=none)
 (vb:s.heap.get? ea=none) (ng:H1 ea=none) (F:Heap.FlyingW B outer ea (.ref c) a0 h') (cr:s1.heap.UpToSlots h') (q:E (.ref c) none H1):
 Sw P w base outer H s E (.ref ea) {s1 with heap:=h' }:=by
 have nh:∀b∈KJ outer,∃o,s1.heap.get? b=some o/\∀vs,o.data≠.fields vs:=λ b hb=>(J.IU.mem hb).2;have jb:∀b o,s.heap.get? b=some o->b≠s.heap.objs.size:=λ b o e=>zD (zt e);have eW:∀b,b∈KJ (envOfC qual scope s.heap.objs.size f cd::outer)->b=s.heap.objs.size\/b∈KJ outer:=λ b hb=>by
  have a8:b∈s.heap.objs.size::KJ outer:=hb;exact zr.mp a8
 have U:Un (KJ outer) [] H H1 s.heap s1.heap:=J.base;have ce:∀b o,s.heap.get? b=some o->b∉hid:=λ b o e hb=>by rw[(hh b hb).2] at e;cases e
 have jc:∀b o,H1 b≠none->s1.heap.get? b=some o->h'.get? b=some o:=λ b o hn e=>by
  refine F.1 b o (hB b o e (λ hb=>?_) (λ hb=>hn (hh b hb).1) (.inl hn));exact hn (J.ON b hb)
 refine⟨ea,c,H1,rfl,J.os,J.bare,⟨λ b o e n hb hx=>?_,λ b o e n hb hx=>?_,U.free,λ b o e hx=>?_,U.LZ,U.K7,U.M2⟩,λ b ob e=>?_,⟨⟨a0,?_⟩,vb,ng,λ oe vs T h1 h2 h3=>?_⟩,q⟩
 ·refine F.1 b o (hB b o (U.keep b o e n hb hx) (λ z=>?_) (ce b o e) (.inr ⟨o,e⟩));rcases eW b z with z|z
  ·exact jb b o e z
  ·exact hb z
 ·obtain⟨sl,e1⟩:=U.slot b o e n hb hx;obtain⟨o2,e2,nf⟩:=nh b hb;rw[e1] at e2;obtain⟨j4,e3⟩:=cr b _ e1 (by cases e2;exact nf);exact⟨j4,e3⟩
 ·obtain⟨o',e1⟩:=U.there b o e hx;by_cases hb:b∈KJ outer
  ·obtain⟨o2,e2,nf⟩:=nh b hb;obtain⟨j4,e3⟩:=cr b _ e2 nf;exact⟨_,e3⟩
  ·refine⟨o',F.1 b o' (hB b o' e1 (λ z=>?_) (ce b o e) (.inr ⟨o,e⟩))⟩;rcases eW b z with z|z
   ·exact jb b o e z
   ·exact hb z
 ·refine (J.Ax b ob e).LY (λ x v hx q=>jc x v ?_ q) (λ _ q=>q) λ _ _ q=>q;rcases hx with rfl|hx
  ·rw[e];intro z;cases z
  ·rw[hx];intro z;cases z
 ·exact PySem.W.flyingW_base va F
 ·obtain⟨_,_,ff,wP,aX,T',oT,ts,k1,k2,k3,k4,k5,k6,k7,k8,k9⟩:=F;rw[show ({s1 with heap:=h' }:Shared).heap.get? ea=h'.get? ea from rfl,k1] at h1;cases h1;rw[k3] at h2;cases h2;rw[k4] at h3;cases h3;refine hT T k5 λ hb=>?_;rcases eW T hb with z|z
  ·obtain⟨m,⟨oL,es,ep,ls,ni,_⟩,_⟩:=J.loc;obtain⟨sl,e3⟩:=cr s.heap.objs.size oL ls λ vs zz=>by rw[ni] at zz;cases zz
   rw[<-z,k7] at e3;cases e3;rw[show oL.data=_ from k8] at ni;cases ni
  ·obtain⟨o2,e2,nf⟩:=nh T z;obtain⟨sl,e3⟩:=cr T o2 e2 nf;rw[k7] at e3;cases e3;exact nf ts k8
def Xl {l:List Env}:∀env∈l,∀a,env.frame=some a->a∈KJ l:=λ env he a ha=>List.mem_filterMap.mpr ⟨env,he,ha⟩
def ZE {pins:List (Addr×Obj)}{σ:St}{H1:Hp}{s2:Shared}{h1:Heap}{ea C:Addr}{vs:List Value}(J:Inv (U3 P w K mg base N qual scope f cd A outer s H E) pins σ H1 s2)(hx:Heap.MadeExcOf s2.heap h1 ea (.ref C) vs)(q:E (.ref C) none H1):
 (U3 P w K mg base N qual scope f cd A outer s H E).xe (.ref ea) {s2 with heap:=h1}:=by
 have J1:Inv (U3 P w K mg base N qual scope f cd A outer s H E) pins σ H1 {s2 with heap:=h1}:=J.kept (t':=s2.toks) hx.keeps;have fr:=J.stack;have fj:=Xl (l:=envOfC qual scope s.heap.objs.size f cd::outer);refine wpAny_leaves_madeW (base:=PySem.W.hideAll s2.heap (KJ (envOfC qual scope s.heap.objs.size f cd::outer))) (outer:=outer) (L:=s.heap.objs.size) J.ok.frames rfl (λ b o e=>PySem.W.of_hideAll _ e) (PySem.W.funFrames_hide fr fj) hx λ h' t F ht wR cr=>?_;have cf:∀b,s2.heap.get? b=none->H1 b=none/\s.heap.get? b=none:=λ b e=>by
  refine⟨J.Ax.gone e,?_⟩;cases q:s.heap.get? b with
  |none=>rfl
  |some o=>obtain⟨o',z⟩:=J.base.there b o q (by simp[La]);rw[e] at z;cases z
 refine fF (B:=PySem.W.hideAll s2.heap (KJ (envOfC qual scope s.heap.objs.size f cd::outer))) (hid:=[]) J1 (λ b o e hb _ vc=>?_) (λ b o e=>?_) (λ b z=>by cases z) (λ b e hb=>?_) (cf ea hx.new).2 (cf ea hx.new).1 F cr q
 ·have j9:∃o2,s2.heap.get? b=some o2:=by
   rcases vc with z|⟨o',z⟩
   ·cases q2:H1 b with
    |none=>exact absurd q2 z
    |some u=>exact (J.Ax b u q2).there
   ·exact J.base.there b o' z (by simp[La])
  obtain⟨o2,e2⟩:=j9;have e3:=hx.keeps b o2 e2;rw[show ({s2 with heap:=h1}:Shared).heap.get? b=h1.get? b from rfl,e3] at e;cases e;exact y6 _ e2 hb
 ·refine y6 _ (J.bk b o e) λ hb=>?_;have z:base.get? b=none:=(fr.mem hb).1;rw[show base.get? b=some o from e] at z;cases z
 ·refine cf b ?_;cases q2:s2.heap.get? b with
  |none=>rfl
  |some o=>rw[y6 _ q2 hb] at e;cases e
def ZF:G6 (Sw P w base) (U3 P w K mg base N qual scope f cd A outer s H E) E:=by
 intro pins σ H0 s0 ev s1 I h;obtain⟨ea,c,H1,rfl,vd,ve,U,Ax,⟨⟨a0,F⟩,aU,t6,vg⟩,q⟩:=h;have J:Inv (U3 P w K mg base N qual scope f cd A outer s H E) pins σ H1 s1:=I.eX (ch:=[]) vd U Ax ve λ b hb=>by cases hb
 obtain⟨f1,f2,f3,oe,vs,T,oT,ts,k1,k2,k3,k4,k5,k6,k7,k8,k9⟩:=F;have hT:=vg oe vs T k1 k3 k4;have fr:=J.stack;have entry:∀b,s0.heap.get? b=none->s.heap.get? b=none:=λ b e=>by
  cases q:s.heap.get? b with
  |none=>rfl
  |some o=>obtain⟨o',z⟩:=I.base.there b o q (by simp[La]);rw[e] at z;cases z
 have fj:∀env∈(envOfC qual scope s.heap.objs.size f cd::outer),∀a,env.frame=some a->a∈KJ (envOfC qual scope s.heap.objs.size f cd::outer)++[ea,T]:=λ env he a ha=>zJ _ (Xl env he a ha);have FB:Heap.FlyingW (PySem.W.hideAll s1.heap (KJ (envOfC qual scope s.heap.objs.size f cd::outer)++[ea,T])) (envOfC qual scope s.heap.objs.size f cd::outer) ea (.ref c) a0 s1.heap:=
  ⟨λ b o e=>PySem.W.of_hideAll _ e,PySem.W.hideAll_none _ (by simp),PySem.W.funFrames_hide fr fj,oe,vs,T,oT,ts,k1,k2,k3,k4,PySem.W.hideAll_none _ (by simp),k6,k7,k8,k9⟩
 refine wpAny_leaves_onW (outer:=outer) (L:=s.heap.objs.size) J.ok.frames rfl FB λ h' F' cr=>?_;have jd:∀b,s1.heap.get? b=none->H1 b=none/\s.heap.get? b=none:=λ b e=>by
  refine⟨J.Ax.gone e,?_⟩;cases q:s.heap.get? b with
  |none=>rfl
  |some o=>obtain⟨o',z⟩:=J.base.there b o q (by simp[La]);rw[e] at z;cases z
 have hid:∀b∈[ea,T],H1 b=none/\s.heap.get? b=none:=λ b hb=>by
  rcases zr.mp hb with z|z
  ·rw[z];exact⟨t6,entry ea aU⟩
  ·rw[zq.mp z];exact⟨hT.1,entry T hT.2⟩
 refine fF (hid:=[ea,T]) J (λ b o e hb g9 _=>y6 _ e λ z=>(zC.mp z).elim hb g9) (λ b o e=>?_) hid (λ b e hb=>?_) (entry ea aU) t6 F' cr q
 ·refine y6 _ (J.bk b o e) λ hb=>?_;rcases zC.mp hb with hb|hb
  ·have z:base.get? b=none:=(fr.mem hb).1;rw[show base.get? b=some o from e] at z;cases z
  ·rcases zr.mp hb with z|z
   ·rw[z] at e;rw[show base.get? ea=some o from e] at f2;cases f2
   ·rw[zq.mp z] at e;rw[show base.get? T=some o from e] at k5;cases k5
 ·by_cases g9:b∈[ea,T]
  ·exact hid b g9
  ·refine jd b ?_;cases q2:s1.heap.get? b with
   |none=>rfl
   |some o=>rw[y6 _ q2 λ z=>(zC.mp z).elim hb g9] at e;cases e
end
structure XCall (X:Cx)(E:XK):Prop where
 call:G6 (Sw X.prog X.w X.base) X E
 own:PassesOwn (model X.prog X.w) X.A X.env X.xe
structure pY (X:Cx)(E:XK):Prop extends XCall X E where
 made:∀pins σ H s h' ea C vs,Inv X pins σ H s->Heap.MadeExcOf s.heap h' ea (.ref C) vs->E (.ref C) none H->X.xe (.ref ea) {s with heap:=h' }
def A9 {P:Program}{w:World}{K:za}{mg:Str->Option Value}{base:Heap}{N:List Str}{qual:Str}{scope:Scope}{f:Addr}{cd:Value}{A:Around}{outer:List Env}{s:Shared}{H:Hp}{E:XK}:
 pY (U3 P w K mg base N qual scope f cd A outer s H E) E:=⟨⟨ZF,PassesOwn.leaving⟩,λ _ _ _ _ _ _ _ _ J hx q=>ZE J hx q⟩
def Bo {X:Cx}(h:X.xe=λ _ _=>False):pY X E0:=⟨⟨λ _ _ _ _ _ _ _ h=>by obtain⟨_,_,_,_,_,_,_,_,_,q⟩:=h;exact q.elim,by rw[h];exact PassesOwn.never⟩,λ _ _ _ _ _ _ _ _ _ _ q=>q.elim⟩
def Dh (K:za)(E:XK):Str->Hp->Prop:=λ x H=>∃c,zd K mainGlobals x=some (some (.ref c))/\E (.ref c) none H
section
variable {X:Cx}{E:XK}{WX:Str->Hp->Prop}{c:Bool}{e:Expr}{es:List Expr}{fs:Aa->M (List D)}{f:Aa->M D}{ft:Aa->M Bool}{pos:Pos}
def ZG {K:za}{h₀:Heap}{C:Addr}{t7:List Value}{newId:String}(X:K.In h₀)(q:yA K C t7 newId=true):
 ∃bm N nm q bs hdct sn sub ab col dd k0 k1 k2 k3 k5 mN,h₀.get? C=some (excClassObj nm q C N bs bm hdct sn sub ab col dd k0 k1 k2 k3 k5 newId)/\h₀.Ns N mN/\mN "__init__" = none/\OwnTail h₀ t7 bm:=by
 unfold yA at q;split at q
 ·rename_i dd cd sl ho;split at q
  ·rename_i C' bm k0 k1 k2 k3 n k5 hm hs;simp only[zP,beq_iff_eq,Bool.not_eq_true'] at q;obtain⟨⟨⟨⟨⟨rfl,rfl⟩,je⟩,ht⟩,Ax⟩,kr⟩:=q;obtain⟨nm,bs,mro,ns,qn,hd,sn,sub,ab,col,del⟩:=cd;dsimp only at hm je Ax kr;subst hm je;have cr:sl=#[k0,k1,k2,k3,some (.builtin n),k5]:=by
    obtain⟨l⟩:=sl;simp only at hs;rw[hs]
   subst cr;exact⟨bm,ns,nm,qn,bs,hd,sn,sub,ab,col,dd,k0,k1,k2,k3,k5,_,X _ _ ho,.of_isNs (PySem.W.isNs_of_in X Ax),PySem.W.nsMap_none_of_in X Ax kr,PySem.W.tail_of_in X ht⟩
  ·cases q
 ·cases q
def Xm {x:Str}{np ac:Pos}{C:Addr}{B newId fm:String}{bm:List Value}(xo:pY X E)(hc:X.calm=true)(FB:ExcBaseFacts B newId fm bm)(c7:zd X.K mainGlobals x=some (some (.ref C)))(hq:yA X.K C bm newId=true)(hg:Gl X x)(hm:X.mg x=some (.ref C))
 (ha:DE X (Dh X.K E) c e f) (aS:(x==("__debug__" : Str))=false:=by decide) (he:starEach [e] X.env=[(false,eval e X.env)]:=by rfl) (ap:(backTo ac (starEach [e] X.env)).any (·.1)=false:=by rfl):
 DS X (Dh X.K E) (.Raise (some (.Call (.Name x np) [e] [] ac)) none pos) (λ ρ=>(f ρ).bind λ _=>.ex x):=by
 obtain⟨ta,a1,a2⟩:=ha;refine⟨λ Z σ H=>ta σ H λ y H1=>(([y]:List V).length=1/\E (.ref C) none H1),?_,λ P0 P σ H Z ρ E h=>?_⟩
 ·intro pins s σ H D I h;obtain⟨tl,N,nm,q,bs,hdct,sn,sub,ab,col,dd,k0,k1,k2,k3,k5,mN,hC,hN,kr,T⟩:=ZG I.mod.TB hq;refine wpAny_Raise_call_subT (C:=C) (nm:=nm) (q:=q) (N:=N) (bs:=bs) (bm:=tl) (hdct:=hdct) (sn:=sn) (sub:=sub) (ab:=ab) (col:=col) (dd:=dd) (k0:=k0) (k1:=k1) (k2:=k2) (k3:=k3) (k5:=k5)
   FB (mN:=mN) (T.hasType FB.hasBase) (I.ok.hd hc) ap kr (OO I hg hm ⟨rfl,?_⟩ aS)
  rw[he];have pa:=(Bk a1 Ci he) ac pins s σ H (λ vs H1=>vs.length=1/\E (.ref C) none H1) I ?_
  ·rw[he] at pa;refine Calls.evalArgs_plain (Bh pa λ vs s2 ⟨xs,H2,I2,r2,q2⟩=>⟨rfl,?_,I2.bk _ _ hC,hN.keeps I2.bk,T.keeps I2.bk,λ h' ea hx=>xo.made pins σ H2 s2 h' ea C _ I2 hx q2.2⟩);rw[<-r2.length,q2.1];exact yd (AG (by decide))
  ·exact h
 ·dsimp only at h;refine a2 P0 P σ H _ ρ E ?_;cases q:f ρ with
  |bad=>rw[q] at h;exact h
  |ex x=>rw[q] at h;exact λ H' s=>h H' P (E.tr s)
  |ok d =>
   rw[q] at h;intro v H1 s1 hv;obtain⟨c',h1,h2⟩:=h H1 P (E.tr s1);rw[c7] at h1;cases h1;exact⟨rfl,h2⟩
end
section
variable {X:Cx}{WX:Str->Hp->Prop}{c:Bool}{a b e:Expr}{f g:Aa->M D}{pos p:Pos}
noncomputable def fG (K:za):R2:=λ x y H Q=>∃l b xs zs,x=.ref l/\y=.ref b/\Dn K H l xs/\Dn K H b zs/\xs.length+zs.length<=sizeLine/\∀p,H p=none->Q (.ref p) (upd H p (.lst (xs++zs)))
def ZH:G5 X (binaryOp .Add) (fG X.K):=by
 intro pins s σ H x y v u Q I rx ry h;obtain⟨l,b,xs,zs,rfl,rfl,h1,h2,hz,q⟩:=h;cases rx;cases ry;obtain⟨aa,r,⟨⟨c1,d1,t1,vh⟩,n,e1,q1,q2,q3⟩,vi⟩:=I.list h1;obtain⟨aT,r2,⟨⟨c2,d2,t2,iq⟩,n2,e2,q4,q5,q6⟩,wS⟩:=I.list h2;dsimp only at q1 q2 q3 q4 q5 q6;subst q1 q2 q3 q4 q5 q6;have l1:=r.length;have l2:=r2.length;refine concat_meets ⟨_,e1,rfl⟩ ⟨_,e2,rfl⟩ noFill_list_add seq_list_add PySem.F.slot_list_add PySem.F.entry_list_add (PySem.F.args_list_add_2 _ _) (list_addW l b aa.toArray aT.toArray n n2 none none vh iq (by rw[zk,zk];omega)) ⟨e1,e2,?_⟩;rw[show aa.toArray++aT.toArray=(aa++aT).toArray by simp];exact⟨.ref _,_,I.mY (t':=s.toks) (r.append r2) (by rw[zK];omega),rfl,q _ I.fresh⟩
noncomputable def tJ (x y:D):M D:=match x,y with
 | .int i,.int j=>.ok (.int (i+j))
 | .lst ds,.lst es=>if ds.length+es.length<=1000 then .ok (.lst (ds++es)) else .bad
 |_,_=>.bad
def Ag.tK {K:za}{H:Hp}:∀ {xs ys:List V}{ds es:List D},Ag K H xs ds->Ag K H ys es->Ag K H (xs++ys) (ds++es)
 |_,_,_,_,.nil,h=>h
 |_,_,_,_,.cons a t,h=>.cons a (t.tK h)
noncomputable def pZ (neg:Bool)(x y:D):M D:=match x,y with
 | .int i,.lst ds=>(match Cb ds with|some ns=>.ok (.bl (if neg then !ns.contains i else ns.contains i))|none=>.bad)
 |_,_=>.bad
def Xn (i:Int)(ns:List Int):pR (.int i) (ns.map V.int)=ns.contains i:=by
 unfold pR;induction ns with
 |nil=>rfl
 |cons n r ih =>
  rw[zg,yV,ih,List.contains_cons];congr 1;show (n==i)=(i==n);rw[yK,beq_iff_eq,beq_iff_eq];exact eq_comm
def Vn (ns:List Int):(ns.map V.int).all IY=true:=by
 induction ns with
 |nil=>rfl
 |cons n r ih=>rw[zg,List.all_cons,ih];rfl
def Gk {neg:Bool}:TZ X.K WX (pS X.K neg) (pZ neg):=by
 intro P H x y v w Q ht hx hy h;unfold pZ at h;split at h
 ·rename_i i ds;split at h
  ·rename_i ns hn;cases hx;cases hy with
   |lst h1 h2 =>
    have e:=Hk h2 hn;subst e;refine⟨_,_,rfl,.inl h1.B8,rfl,Vn ns,?_⟩;rw[Xn];exact h _ H (Ae.refl H) (.bl _)
  ·exact h.elim
 ·exact h.elim
end
structure ClsAt (K:za)(mg:Str->Option Value)(x:Str):Prop where
 ex:∃C,zd K mainGlobals x=some (some (.ref C))/\mg x=some (.ref C)/\yA K C [.type "ValueError",.type "Exception",.type "BaseException",.type "object"] "ValueError.__new__" = true
noncomputable def one (x:Str)(b:Bool):Str->Option Bool:=λ y=>if y=x then some b else none
section
variable {X:Cx}{E:XK}{WX:Str->Hp->Prop}{c:Bool}{e:Expr}{f:Aa->M D}{pos p:Pos}
def Kf {x:Str}{np ac:Pos}(T:ClsAt X.K X.mg x)(xo:pY X E)(hc:X.calm=true)(hg:Gl X x)(ha:DE X (Dh X.K E) c e f)(aS:(x==("__debug__" : Str))=false:=by decide)(he:starEach [e] X.env=[(false,eval e X.env)]:=by rfl)(ap:(backTo ac (starEach [e] X.env)).any (·.1)=false:=by rfl):
 DS X (Dh X.K E) (.Raise (some (.Call (.Name x np) [e] [] ac)) none pos) (λ ρ=>(f ρ).bind λ _=>.ex x):=by
 obtain⟨C,h1,h2,h3⟩:=T.ex;exact Xm xo hc PySem.F.excBase_ValueError h1 h3 hg h2 ha aS he ap
end
def QF (i j:Int):Prop:=(i.natAbs<2^1000/\j.natAbs<2^1000)\/WK i j
instance (i j:Int):Decidable (QF i j):=by unfold QF;infer_instance
def O9 {i:Int}(h:i.natAbs<2^1000):ye i<=2^20:=by
 unfold ye;split
 ·exact zS _
 ·rename_i z;have h0:i.natAbs≠0:=λ q=>z (by rw[Int.natAbs_eq_zero.mp q];rfl);have:=(Nat.log2_lt h0).mpr h;have h3:(1000:Nat)<=2^20:=by decide
  exact zY this h3
def QF.ok {i j:Int}(h:QF i j):IntMulOk i j:=by
 rcases h with ⟨h1,h2⟩|h
 ·exact IntMulOk.of_bits (O9 h1) (O9 h2)
 ·exact h.ok
def J9 {gt:D->Aa->M Aa}{ft:Aa->M Bool}{fe:Aa->M D}{ρ:Aa}(p:D->Bool)(f:D->D):∀(ds:List D),(∀d∈ds,∃ρ1,gt d ρ=.ok ρ1/\ft ρ1=.ok (p d)/\(p d=true->fe ρ1=.ok (f d)))->Bi gt ft fe ds ρ=.ok ((ds.filter p).map f)
 |[],_=>rfl
 |d::r,h=>by
  obtain⟨ρ1,h1,h2,h3⟩:=h d zc;have ih:=J9 p f r λ d hd=>h d (zf _ hd);rw[Bi,h1];dsimp only;rw[h2];dsimp only;by_cases hp:p d=true
  ·rw[if_pos hp,h3 hp];dsimp only;rw[ih,List.filter_cons_of_pos hp];rfl
  ·rw[if_neg hp,ih,List.filter_cons_of_neg hp]
def Mn (n:Nat):Cj 0 n=(yf n).map λ i:Nat=>D.int (i:Int):=by
 apply List.ext_getElem?;intro i;rw[zI];by_cases h:i<n
 ·have hi:i<(Cj 0 n).length:=by rw[Ck];exact h
  have e:=zj hi;obtain⟨h1,_⟩:=DR e;rw[e,h1,List.getElem?_range h,Int.zero_add];rfl
 ·rw[List.getElem?_eq_none (by rw[Ck];omega),List.getElem?_eq_none (by simp;omega)];rfl
def CU (ns:List Int):Cb (ns.map D.int)=some ns:=by
 induction ns with
 |nil=>rfl
 |cons n r ih=>rw[zg,Cb,ih];rfl
def Xo (ds:List D)(n:Nat):lG (some (n:Int)) none (.lst ds)=.ok (.lst (ds.drop n)):=by
 unfold lG;dsimp only;rw[HT.WU,HT.OR];congr 2;by_cases h:n<=ds.length
 ·rw[Nat.min_eq_left h,List.take_of_length_le (by rw[xj];exact zw _)]
 ·rw[Nat.min_eq_right (by omega),List.drop_of_length_le (zw _),List.drop_of_length_le (by omega),List.take_nil]
def Pl (n:Nat)(d:D):Prop:=IS d<=n/\AH d=true
def Pb {n:Nat}:∀ {ds:List D},(∀d∈ds,IS d<=n)->Lc ds<=n
 |[],_=>by rw[Lc];exact zS _
 |d::r,h=>by
  rw[Lc];exact Nat.max_le.mpr ⟨h d zc,Pb λ d hd=>h d (zf _ hd)⟩
def Pc:∀ {ds:List D},(∀d∈ds,AH d=true)->Mh ds=true
 |[],_=>by rw[Mh]
 |d::r,h=>by
  rw[Mh,h d zc,Pc λ d hd=>h d (zf _ hd)];rfl
def DU {n:Nat}(i:Int):Pl n (.int i):=⟨by rw[IS];exact zS _;all_goals simp,by rw[AH];all_goals simp⟩
def Xp {n:Nat}:Pl n .AD:=⟨by rw[IS];exact zS _;all_goals simp,by rw[AH];all_goals simp⟩
def Xq {n:Nat}{ds:List D}(h:∀d∈ds,Pl n d):Pl (n+1) (.tup ds):=
 ⟨by rw[IS];exact Nat.succ_le_succ (Pb λ d hd=>(h d hd).1),by rw[AH];exact Pc λ d hd=>(h d hd).2⟩
def Sx {n:Nat}{ds:List D}(h:∀d∈ds,Pl n d):Pl (n+1) (.lst ds):=
 ⟨by rw[IS];exact Nat.succ_le_succ (Pb λ d hd=>(h d hd).1),by rw[AH];exact Pc λ d hd=>(h d hd).2⟩
def U4 {n:Nat}(ns:List Int):Pl (n+1) (.lst (ns.map D.int)):=Sx λ d hd=>by
 obtain⟨i,_,rfl⟩:=zM.mp hd;exact DU i
def Pl.le {n m:Nat}{d:D}(h:Pl n d)(k:n<=m):Pl m d:=⟨zY h.1 k,h.2⟩
def Xr {n:Nat}:∀d∈([]:List D),Pl n d:=λ d h=>by cases h
def Hl {n:Nat}{d:D}{ds:List D}(h:Pl n d)(t:∀d∈ds,Pl n d):∀e∈d::ds,Pl n e:=λ e he=>by
 rcases zr.mp he with rfl|he
 ·exact h
 ·exact t e he
def Sy {n:Nat}{x y:D}(h:Pl n x)(k:Pl n y):Zy n x y=.ok (.bl (As x y)):=by
 unfold Zy;rw[if_pos ⟨h.1,h.2,k.2⟩]
def Sz {n:Nat}{x y:D}(h:Pl n x)(k:Pl n y):Zz n x y=.ok (.bl (!As x y)):=by
 unfold Zz;rw[if_pos ⟨h.1,h.2,k.2⟩]
def Oa {gt:D->Aa->M Aa}{ft:Aa->M Bool}{fe:Aa->M D}{ρ:Aa}(f:D->D)(ds:List D)(h:∀d∈ds,∃ρ1,gt d ρ=.ok ρ1/\ft ρ1=.ok true/\fe ρ1=.ok (f d)):Bi gt ft fe ds ρ=.ok (ds.map f):=by
 rw[J9 (λ _=>true) f ds λ d hd=>by
  obtain⟨ρ1,h1,h2,h3⟩:=h d hd;exact⟨ρ1,h1,h2,λ _=>h3⟩]
 rw[List.filter_eq_self.mpr λ _ _=>rfl]
def ZI (ds:List D)(a b:Nat):lG (some (a:Int)) (some (b:Int)) (.lst ds)=.ok (.lst ((ds.drop a).take (b-a))):=by
 unfold lG;dsimp only;rw[HT.OR,HT.OR];congr 2;by_cases h:a<=ds.length
 ·rw[Nat.min_eq_left h];by_cases h2:b<=ds.length
  ·rw[Nat.min_eq_left h2]
  ·rw[Nat.min_eq_right (by omega),List.take_of_length_le (by rw[xj];exact zw _),List.take_of_length_le (by rw[xj];omega)]
 ·rw[Nat.min_eq_right (show ds.length<=a by omega),List.drop_of_length_le (zw _),List.drop_of_length_le (show ds.length<=a by omega),List.take_nil,List.take_nil]
section
variable {X:Cx}{WX:Str->Hp->Prop}{c:Bool}{P0:Dg}{P:Addr->Prop}{H:Hp}{σ:St}{ρ:Aa}{a b e:Expr}{f g:Aa->M D}{ft gt:Aa->M Bool}{pos:Pos}{st:Stmt}{rest:List Stmt}{g1 g2:Aa->M Out}
def QG {K:za}{H:Hp}{v:V}{d:D}(h:Bu K H v d):∀n:Nat,Ag K H (zy n v) (zy n d)
 |0=>.nil
 |n+1=>by rw[yr,yr];exact .cons h (QG h n)
def QH {K:za}{H:Hp}{v:V}{d:D}(h:Bu K H v d):∀ {vs:List V}{ds:List D}(n:Nat),Ag K H vs ds->Ag K H (vs.set n v) (ds.set n d)
 |_,_,_,.nil=>.nil
 |_,_,0,.cons _ t=>.cons h t
 |_,_,n+1,.cons a t=>.cons a (QH h n t)
noncomputable def vA (i:Nat)(ρ:Aa)(d k:D):M Out:=match k with
 | .int j=>if 0<=j/\j.toNat<=1000 then .ok (.next (ρ.set i (some (.own (zy j.toNat d))))) else .bad
 |_=>.bad
def Ob {α:Type}(v:α):∀n:Nat,(zy n [v]).flatten=zy n v
 |0=>rfl
 |n+1=>by rw[yr,List.flatten_cons,Ob v n];rfl
noncomputable def jG (i:Nat)(ρ:Aa)(ds:List D)(d k:D):M Out:=match k with
 | .int j=>(match TN ds.length j with|some n=>.ok (.next (ρ.set i (some (.own (ds.set n d)))))|none=>.bad)
 |_=>.bad
noncomputable def ZJ (i:Nat)(ρ:Aa)(m:M D)(d:D):M Out:=match ρ[i]? with
 |some (some (.own ds))=>m.bind (jG i ρ ds d)
 |_=>.bad
def Xs (i:Nat){x:Str}{p1 aD:Pos}(hv:PE X (.Name x p1) (Qh i))(ha:DE X WX true a f)(hk:DE X WX true b g)
 (hs:swapsWithSole [.Subscript (.Name x p1) b aD] a pos.line X.env=pure false:=by rfl) (hw:swappedStores [.Subscript (.Name x p1) b aD] a X.env=pure none:=by rfl) (h1:(assignEach [.Subscript (.Name x p1) b aD] X.env).map (·.2)=[assign (.Subscript (.Name x p1) b aD) X.env]:=by rfl)
 (nj:∀v,assign (.Subscript (.Name x p1) b aD) X.env v=(do
  let ov <-holding [v] (eval (.Name x p1) X.env);let iv <-holding [v,ov] (eval b X.env)
  standAt aD
  holding [v,ov,iv] (setItem ov iv v)
  release [v,ov,iv] []):=by intro _;rfl):
 DS X WX (.Assign [.Subscript (.Name x p1) b aD] a pos) (λ ρ=>(f ρ).bind (ZJ i ρ (g ρ))):=by
 obtain⟨ta,a1,a2⟩:=ha;obtain⟨tb,b1,b2⟩:=hk;refine⟨_,gW a1 (gU hv b1 set_list nj) hs hw h1,λ P0 P σ H Z ρ E h=>?_⟩;dsimp only at h;refine a2 P0 P σ H _ ρ E ?_;cases q:f ρ with
 |bad=>rw[q] at h;exact h
 |ex x=>rw[q] at h;exact λ H' s=>h H' P (E.tr s)
 |ok d =>
  rw[q] at h;simp only[M.A7] at h;intro v H1 s1 hv;have E1:=E.same s1;unfold ZJ at h;split at h
  ·rename_i ds e1;obtain⟨p,xs,h1,h2,h3,h4,h5⟩:=E1.own i ds e1;refine⟨_,h1,b2 P0 P σ H1 _ ρ E1 ?_⟩;cases q2:g ρ with
   |bad=>rw[q2] at h;exact h.elim
   |ex x=>rw[q2] at h;exact λ H' s2=>h H' P ((E.tr s1).trans (E1.tr s2))
   |ok k =>
    rw[q2] at h;simp only[M.A7] at h;unfold jG at h;intro w H2 s2 hw;split at h
    ·rename_i j;cases hw;split at h
     ·rename_i n en;have E2:=E1.same s2;refine⟨p,xs,j,n,rfl,rfl,s2 _ _ h2,by rw[h5.length];exact en,?_⟩;obtain⟨E3,t3⟩:=E2.mut e1 h1 h3 h4 (QH (hv.mono s2.del) n (h5.mono s2.del));exact h _ _ _ ((E.tr s1).trans ((E1.tr s2).trans t3)) E3
     ·exact h.elim
    ·exact h.elim
  ·exact h.elim
noncomputable def Aw (c:Aa->M Bool)(b:Aa->M Out):Nat->Aa->M Out
 |0,_=>.bad
 |n+1,ρ=>match c ρ with
  | .ok true=>(match b ρ with
   | .ok (.next ρ')=>Aw c b n ρ'
   | .ok (.cont ρ')=>Aw c b n ρ'
   | .ok (.brk ρ')=>.ok (.next ρ')
   |r=>r)
  | .ok false=>.ok (.next ρ)
  | .ex x=>.ex x
  | .bad=>.bad
noncomputable def KQ (c:Aa->M Bool)(b:Aa->M Out)(ρ:Aa):M Out:=
 @dite _ (∃n,Aw c b n ρ≠.bad) (xn _) (λ h=>Aw c b (zh h) ρ) (λ _=>.bad)
def Cq {c:Aa->M Bool}{b:Aa->M Out}:∀ {n:Nat}{ρ:Aa},Aw c b n ρ≠.bad->∀m,Aw c b (n+m) ρ=Aw c b n ρ
 |0,ρ,h,m=>(h rfl).elim
 |n+1,ρ,h,m=>by
  rw[show n+1+m=(n+m)+1 by omega];rw[Aw] at h;rw[Aw,Aw];cases q:c ρ with
  |bad=>rfl
  |ex x=>rfl
  |ok k =>
   rw[q] at h;cases k with
   |false=>rfl
   |true =>
    dsimp only at h ⊢;cases q2:b ρ with
    |bad=>rfl
    |ex x=>rfl
    |ok o =>
     rw[q2] at h;cases o with
     |next ρ'=>dsimp only at h ⊢;exact Cq h m
     |cont ρ'=>dsimp only at h ⊢;exact Cq h m
     |brk ρ'=>rfl
     |ret d=>rfl
     |Ca d=>rfl
     |Ep d ρ2=>rfl
def Xu {c:Aa->M Bool}{b:Aa->M Out}{n:Nat}{ρ:Aa}(h:Aw c b n ρ≠.bad):KQ c b ρ=Aw c b n ρ:=by
 unfold KQ;have hx:∃n,Aw c b n ρ≠.bad:=⟨n,h⟩;rw[dif_pos hx];have hc:=zb hx;have e1:=Cq h (zh hx);have e2:=Cq hc n;rw[Nat.add_comm] at e2;rw[<-e1,e2]
def Vo {c:Aa->M Bool}{b:Aa->M Out}{ρ:Aa}(h:KQ c b ρ≠.bad):∃n,Aw c b n ρ≠.bad/\KQ c b ρ=Aw c b n ρ:=by
 by_cases hx:∃n,Aw c b n ρ≠.bad
 ·obtain⟨n,hn⟩:=hx;exact⟨n,hn,Xu hn⟩
 ·exact (h (by unfold KQ;rw[dif_neg hx])).elim
def nW {K:za}{Z:Ends}{m:M Out}(h:gS K WX P0 P H Z m):m≠.bad:=λ e=>by rw[e] at h;exact h
def QI {body:List Stmt}(hp:PassesOwn (model X.prog X.w) X.A X.env X.xe)(hc:DT X WX a ft)(hb:QD X WX body g1):DS X WX (.While a body [] pos) (KQ ft g1):=by
 obtain⟨tc,c1,c2⟩:=hc;obtain⟨tb,b1,b2⟩:=hb;refine⟨_,WE hp c1 b1,λ P0 P σ H Z ρ E h=>?_⟩;obtain⟨n,hn,en⟩:=Vo (nW h);rw[en] at h;refine⟨λ m σ' H'=>∃ρ' P',Ak X.K P0 P' H' σ' ρ'/\Tr P0 P H P' H'/\gS X.K WX P0 P' H' Z (Aw ft g1 m ρ'),⟨n,ρ,P,E,Tr.refl,h⟩,?_⟩;rintro m σ1 H1 ⟨ρ1,P1,E1,t1,h1⟩;cases m with
 |zero=>exact h1.elim
 |succ m =>
  rw[Aw] at h1;refine c2 P0 P1 σ1 H1 _ ρ1 E1 ?_;cases q:ft ρ1 with
  |bad=>rw[q] at h1;exact h1
  |ex x=>rw[q] at h1;exact λ H2 s2=>h1 H2 P1 (E1.tr s2)
  |ok k =>
   rw[q] at h1;intro H2 s2;have E2:=E1.same s2;cases k with
   |false =>
    rw[if_neg (by simp)];exact h1 σ1 H2 P1 (E1.tr s2) E2
   |true =>
    rw[if_pos rfl];dsimp only at h1;refine⟨λ σ' H'=>∃ρ' P',Ak X.K P0 P' H' σ' ρ'/\Tr P0 P H P' H'/\gS X.K WX P0 P' H' Z (Aw ft g1 m ρ'),λ σ' H' z=>⟨m,Nat.lt_succ_self m,z⟩,?_⟩;refine b2 P0 P1 σ1 H2 _ ρ1 E2 ?_;cases q2:g1 ρ1 with
    |bad=>rw[q2] at h1;exact h1
    |ex x=>rw[q2] at h1;exact λ H3 P3 t3=>h1 H3 P3 ((E1.tr s2).trans t3)
    |ok o =>
     rw[q2] at h1;have t2:=t1.trans (E1.tr s2);cases o with
     |next ρ'=>exact λ σ3 H3 P3 t3 E3=>⟨ρ',P3,E3,t2.trans t3,h1.tr ((E1.tr s2).trans t3)⟩
     |cont ρ'=>exact λ σ3 H3 P3 t3 E3=>⟨ρ',P3,E3,t2.trans t3,h1.tr ((E1.tr s2).trans t3)⟩
     |brk ρ'=>exact λ σ3 H3 P3 t3 E3=>h1 σ3 H3 P3 ((E1.tr s2).trans t3) E3
     |ret d=>exact λ v H3 P3 t3 hv=>h1 v H3 P3 ((E1.tr s2).trans t3) hv
     |Ca d=>exact λ v fp H3 P3 t3=>h1 v fp H3 P3 ((E1.tr s2).trans t3)
     |Ep d ρ2=>exact λ v fp σ3 H3 P3 t3=>h1 v fp σ3 H3 P3 ((E1.tr s2).trans t3)
noncomputable def tL (ds:List D):M D:=match ds with
 |[.int i]=>.ok (.int i)
 |[.bl b]=>.ok (.int (if b then 1 else 0))
 |_=>.bad
noncomputable def Gm:List D->Option (List Bool)
 |[]=>some []
 | .bl b::r=>(Gm r).map (b::·)
 |_=>none
def Mo (bs:List Bool):Gm (bs.map D.bl)=some bs:=by
 induction bs with
 |nil=>rfl
 |cons b r ih=>rw[zg,Gm,ih];rfl
def Mp:∀ {ds:List D}{bs:List Bool},Gm ds=some bs->ds=bs.map D.bl
 |[],bs,h=>by cases h;rfl
 | .bl b::r,bs,h=>by
  rw[Gm] at h;cases q:Gm r with
  |none=>rw[q] at h;cases h
  |some vj=>rw[q] at h;cases h;rw[Mp q];rfl
 | .AD::r,bs,h=>by cases h
 | .int _::r,bs,h=>by cases h
 | .str _::r,bs,h=>by cases h
 | .tup _::r,bs,h=>by cases h
 | .lst _::r,bs,h=>by cases h
 | .Dp _::r,bs,h=>by cases h
 | .Ba _ _ _::r,bs,h=>by cases h
 | .ins _ _ _::r,bs,h=>by cases h
def Mq {K:za}{H:Hp}:∀ {vs:List V}{bs:List Bool},Ag K H vs (bs.map D.bl)->vs=bs.map V.bl
 |_,[],.nil=>rfl
 |_,b::r,.cons h t=>by cases h;rw[Mq t];rfl
def Mr:∀ {bs:List Bool}{us:List Value},Vals (bs.map V.bl) us->LSm.BoolsAre us bs
 |[],_,.nil=>.nil
 |b::r,_,.cons h t=>by cases h;exact .cons b (Mr t)
def Ms (hc:X.calm=true):FN X (.builtin "all") (λ xs H Q=>∃p bs,xs=[.ref p]/\Dn X.K H p (List.map V.bl bs)/\Q (.bl (bs.all id)) H):=by
 intro pins s σ H xs us Q I r h;obtain⟨p,bs,rfl,hq,q⟩:=h;obtain⟨u,rfl,rx⟩:=vals1 r;cases rx;obtain⟨aa,r',pl,hz⟩:=I.list hq;have hl:=pl.isList;have hb:=Mr r';have ah:p<s.heap.objs.size:=by obtain⟨_,e,_⟩:=hl;exact zt e
 refine call_all_walk (wpAny_pyIter_list hl ?_);refine⟨s.heap.objs.size,[s.heap.objs.size,p],[s.heap.objs.size],aa.toArray.size,_,_,λ i=>(bs[i]?).getD true,rfl,Walks.list (A:=X.A.in1) (I.ok.hd hc) _ p (zD ah) aa.toArray,
  ⟨⟨_,zF _ rfl,rfl,rfl⟩,hl.push _⟩,λ i v s' Q' E' hP hQ=>?_,λ h' tk hk=>?_⟩
 ·obtain⟨b,e,rfl⟩:=hb.get i v (by simpa using hP);simp only[e,Option.getD_some] at hQ;exact wpAny_truthy_bool hQ
 ·have e:((yf aa.toArray.size).all λ i=>(bs[i]?).getD true)=bs.all id:=by
   rw[zk,hb.length];exact LSm.range_all bs
  rw[e];exact⟨.bl _,H,I.kept (t':=tk) (LSm.kept_iter hk),rfl,q⟩
noncomputable def Xv (ds:List D):M D:=match ds with
 |[.lst xs]=>(match Gm xs with|some bs=>.ok (.bl (bs.all id))|none=>.bad)
 |_=>.bad
def jH:J5 X.K WX (λ xs H Q=>∃p bs,xs=[.ref p]/\Dn X.K H p (List.map V.bl bs)/\Q (.bl (bs.all id)) H) Xv:=by
 intro P H ds vs Q ht hl h;unfold Xv at h;split at h
 ·rename_i xs;obtain⟨v,rfl,hv⟩:=hl.one;split at h
  ·rename_i bs eb;have:=Mp eb;subst this;cases hv with
   |lst hs hh =>
    have:=Mq hh;subst this;exact⟨_,bs,rfl,hs.B8,h _ H (Ae.refl H) (.bl _)⟩
  ·exact h.elim
 ·exact h.elim
def Xw {p:Pos}(hc:X.calm=true)(hg:Gl X "all")(hm:X.mg "all" = none)(ha:DE X WX c e f)(hb:bootBuiltins "all" = some (.builtin "all"):=by decide +kernel)(hs:starEach [e] X.env=[(false,eval e X.env)]:=by rfl):DE X WX c (.Call (.Name "all" p) [e] [] pos) (λ ρ=>((f ρ).bind λ d=>(M.ok []).bind λ ds=>.ok (d::ds)).bind Xv):=
 Gh (Ms hc) jH hg hm hb (A2 ha A8 hs) (he:=hs)
end
def Sm (n:Int):Prop:=ye n<=2^20
def Xx:∀ {ns:List Int},W.WData.weightAll (ns.map W.WData.int)<=2^20->∀n∈ns,Sm n
 |m::r,h,n,hn=>by
  rw[zg,W.WData.weightAll,W.WData.weight] at h;rcases zr.mp hn with rfl|hn
  ·unfold Sm ye;omega
  ·exact Xx (by omega) n hn
def nX {ns:List Int}(h:W.WData.layableAll [W.WData.list (ns.map W.WData.int)]=true):∀n∈ns,Sm n:=by
 unfold W.WData.layableAll at h;rw[List.all_cons,zP] at h;have h1:=h.1;unfold W.WData.layable at h1;rw[zP,decide_eq_true_eq,W.WData.weight] at h1;exact Xx h1.2
end L2
namespace HT
open PySem PySem.W PyProof.Rows Spec Calls tj
def Oc {l:OpenLaw}{n:Nat}{q:Program}{loose:List Str}{XP:(Str->Option Value)->Heap->Prop}{YP:World->Heap->Prop}{d:DefRec}
 (hn:l.most=some n) (fv:d.params.defaults=[])
 (run:∀(w:World) (s₀ s₁:Shared) (mg mb:Str->Option Value) (fa:Addr) (o:Obj) (pm cd doc:Value) (a:Addr) (vs:List Value) (ns:List Int),(∀n∈ns,L2.Sm n)->
  Ground q loose [] XP w s₀ mg mb s₁.heap->YP w s₁.heap->s₁.heap.get? fa=some o->o.data=.func (docDef d.name d.params d.body d.scope pm cd doc)->s₁.heap.CodeRec cd d.name->mg d.name=some (.ref fa)->
  s₁.heap.get? a=some {cls:=.type "list",data:=.seq vs.toArray}->IntsAre vs ns->ns.length<=n->s₁.gens=#[]->
  codeAny (model l.prog w) callerA (.call (.ref fa) ⟨[.ref a],[]⟩) (λ r s'=>r=.ok (.ret (.bool true))/\OldK s₁.heap s'.heap/\s'.os=s₁.os/\AllBare s'.gens) s₁):
 WalkO q loose XP YP l.row.toRowW d [] (λ f vs=>PySem.call f vs):=by
 intro w s₀ s₁ mg mb G Y fa o pm cd doc dV kV ho hd bh hD f6 hg args vals as c6 nk jf mh wT;obtain rfl:dV=.none:=Dflts.none hD fv;obtain rfl:kV=.none:=Dflts.noKw hD;obtain⟨a,vs,ns,rfl,rfl,cg,bn,hlen⟩:=V8 hn c6 mh;refine enter_call (codeAny_mono (run w s₀ s₁ mg mb fa o pm cd doc a vs ns (L2.nX nk) G Y ho (fd_plain hd) bh f6 cg bn hlen hg) λ r s' hq=>?_);obtain⟨rfl,h2,h3,h4⟩:=hq;exact⟨.inl ⟨.bool true,.bool true,[],rfl,λ _=>rfl,.bool true,V9 l _,λ _=>⟨List.Pairwise.nil,λ _ hm=>(nomatch hm)⟩⟩,h2,h3,h4⟩
end HT
namespace L2
open PySem PySem.Spec PyProof.Rows
def qA {l:PySem.W.OpenLaw}{n k:Nat}{q:Program}{loose:List Str}{XP:(Str->Option Value)->Heap->Prop}{YP:World->Heap->Prop}{d:DefRec}{K:Params->za}{CX:World->TJ}{sp:World->Sp}{x:Str}
 (hn:l.most=some n) (a7:n<=sizeLine) (fv:d.params.defaults=[]) (hr:BD k callerA) (hY:∀(w:World) (h:Heap),YP w h->(K w.params).In h)
 (F:∀(w:World) (mg:Str->Option Value) (fa:Addr) (h:Heap),(K w.params).In h->h.Ns mainGlobals mg->mg d.name=some (.ref fa)->∃fd:FuncData,(∀(s:Shared) (u:Value),BindsTo s fd ⟨[u],[]⟩ [(x,u)])/\
  ∀base:Heap,(K w.params).In base->base.Ns mainGlobals mg->Df l.prog w (K w.params) mg base (CX w) k fa fd [x] (sp w))
 (bI:∀(w:World) (H:Hp) (a:Addr) (ns:List Int),(∀n∈ns,Sm n)->ns.length<=n->Zh H->Dn (K w.params) H a (ns.map V.int)->sp w [.ref a] H (λ v _=>v=.bl true) λ _ _ _=>False)
 (iy:∀(w:World) (H:Hp) (s:Shared) (e:Value) (s':Shared),CX w [] H s (λ _ _ _=>False) e s'->False):PySem.W.WalkO q loose XP YP l.row.toRowW d [] (λ f vs=>PySem.call f vs):=by
 refine HT.Oc hn fv λ w s₀ s₁ mg mb fa o pm cd doc a vs ns bC G Y ho hd bh f6 cg bn hlen hg=>?_;have KX:=hY w _ Y;obtain⟨fd,hb,hF⟩:=F w mg fa _ KX G.T.g f6;exact Qp KX G.T.g G.T.b G.T.builtins G.T.nolimit hg cg bn (zY hlen a7) hr hF hb (λ H hO hS=>bI w H a ns bC hlen hO hS) λ H e s'=>iy w H s₁ e s'
def ZK {F:List D->M D}(h:∀ns:List Int,ns.length<=63->(∀n∈ns,Sm n)->F [.lst (ns.map D.int)]=.ok (.bl true))(K:za)(H:Hp)(a:Addr)(ns:List Int)(bC:∀n∈ns,Sm n)(hl:ns.length<=63)(hS:Dn K H a (ns.map V.int)):Sv K 1 F [.ref a] H (λ v _=>v=.bl true) λ _ _ _=>False:=by
 refine⟨rfl,λ _=>False,[.lst (ns.map D.int)],λ _ z=>z.elim,.cons (.lst ?_ (Ag.ints ns)) .nil,?_⟩
 ·have e:del H (λ _=>False)=H:=by funext b;exact Ar (λ z=>z)
  rw[e];exact hS
 ·rw[h ns hl bC];exact λ v H' s hv=>hv.Mj
def Od (i j:Int):Prop:=(ye i<=2^20+1/\ye j<=2^10)\/QF i j
def Vp {a b:Int}(h:ye a+ye b<=2^21):IntMulOk a b:=by
 have e:(2:Nat)^21=2097152:=by decide
 have h2:Builtin.Int.intTooBig (ye a+ye b)=false:=by
  unfold Builtin.Int.intTooBig bitsLine;exact decide_eq_false (by omega)
 unfold IntMulOk;rw[h2];simp
def Od.ok {i j:Int}(h:Od i j):IntMulOk i j:=by
 rcases h with ⟨h1,h2⟩|h
 ·exact Vp (by omega)
 ·exact h.ok
def ZL {X:Cx}:G5 X (binaryOp .Mult) (rI Od λ i j=>.int (i*j)):=pO λ _ _ _ _ _ _ _ hc q=>mul_int q hc.ok
noncomputable instance (i j:Int):Decidable (Od i j):=xn _
noncomputable def Mt:=Bn λ i j=>if Od i j then .ok (.int (i*j)) else .bad
def Ja {i j:Int}(h:Od i j):Mt (.int i) (.int j)=.ok (.int (i*j)):=by
 unfold Mt Bn;dsimp only;rw[if_pos h]
def Lw {X:Cx}{WX:Str->Hp->Prop}{c:Bool}{a b:Expr}{f g:Aa->M D}{pos:Pos}(ha:DE X WX c a f)(hb:DE X WX c b g):DE X WX c (.BinOp a .Mult b pos) (λ ρ=>(f ρ).bind λ x=>(g ρ).bind λ y=>Mt x y):=O4 ZL (P6 λ _ _ _ _=>.int _) ha hb
mutual
noncomputable def Kg:D->Bool
 | .tup a=>Jb a
 | .lst _=>false
 | .Dp _=>false
 | .Ba _ _ _=>false
 | .ins _ _ _=>false
 |_=>true
noncomputable def Jb:List D->Bool
 |[]=>true
 |a::r=>Kg a&&Jb r
end
def U5 {H:Hp}{P0 P:Addr->Prop}{a:Addr}{xs:List V}(ht:∀a,P a->Eo H a)(h:del H P0 a=some (.tup xs)):del H P a=some (.tup xs):=by
 obtain⟨h1,h2⟩:=Ai h;rw[Ar λ z=>by
  obtain⟨o',q,r⟩:=ht a z;rw[h2] at q;cases q;exact (r xs).1 rfl]
 exact h2
mutual
def Bu.Kg {K:za}{H:Hp}{P0 P:Addr->Prop}(ht:∀a,P a->Eo H a):∀ {v:V}{d:D},Kg d=true->Bu K (del H P0) v d->Bu K (del H P) v d
 |_,_,_,.AD=>.AD
 |_,_,_,.bl b=>.bl b
 |_,_,_,.int i=>.int i
 |_,_,_,.str x=>.str x
 |_,_,n,.tup h r=>.tup (U5 ht h) (Ag.Kg ht (by rw[L2.Kg] at n;exact n) r)
 |_,_,n,.lst h r=>by rw[L2.Kg] at n;cases n
 |_,_,n,.Dp h r=>by rw[L2.Kg] at n;cases n
 |_,_,n,.G9 h r=>by rw[L2.Kg] at n;cases n
 |_,_,n,.Hh h r=>by rw[L2.Kg] at n;cases n
 |_,_,n,.ins _ h r=>by rw[L2.Kg] at n;cases n
def Ag.Kg {K:za}{H:Hp}{P0 P:Addr->Prop}(ht:∀a,P a->Eo H a):∀ {vs:List V}{ds:List D},Jb ds=true->Ag K (del H P0) vs ds->Ag K (del H P) vs ds
 |_,_,_,.nil=>.nil
 |_,_,n,.cons h t=>by
  rw[Jb,zP] at n;exact .cons (Bu.Kg ht n.1 h) (Ag.Kg ht n.2 t)
end
noncomputable def dp (m:M D):M D:=m.bind λ d=>if Kg d=true then .ok d else .bad
section
variable {α:Type}(lt:α->α->Prop)
def Np:List α->List α->Prop
 |y::ys,x::xs=>(lt y x/\ys.length=xs.length)\/(y=x/\Np ys xs)
 |_,_=>False
theorem Np.len:∀ {ys xs:List α},Np lt ys xs->ys.length=xs.length
 |y::ys,x::xs,h=>by
  rcases h with ⟨_,h⟩|⟨_,h⟩
  ·rw[zp,zp,h]
  ·rw[zp,zp,Np.len h]
 |[],[],h=>h.elim
 |[],_::_,h=>h.elim
 |_::_,[],h=>h.elim
theorem Xy (n:Nat)(ih:∀xs:List α,xs.length=n->Acc (Np lt) xs){x:α}(hx:Acc lt x):∀ {xs:List α},xs.length=n->Acc (Np lt) xs->Acc (Np lt) (x::xs):=by
 induction hx with
 |intro x _ vk =>
  intro xs hl bB;induction bB with
  |intro xs _ nq =>
   refine .intro _ λ zs h=>?_;cases zs with
   |nil=>exact h.elim
   |cons y ys =>
    rcases h with ⟨h1,h2⟩|⟨h1,h2⟩
    ·exact vk y h1 (h2.trans hl) (ih ys (h2.trans hl))
    ·subst h1;exact nq ys h2 ((Np.len lt h2).trans hl)
theorem Mu (h:∀x,Acc lt x):∀(n:Nat) (xs:List α),xs.length=n->Acc (Np lt) xs
 |0,[],_=>.intro _ λ zs h=>by cases zs<;>exact h.elim
 |n+1,x::xs,e=>Xy lt n (Mu h n) (h x) (by simpa using e) (Mu h n xs (by simpa using e))
theorem U6:∀ {xs:List α}{i:Nat}{y:α}{x:α},xs[i]?=some x->lt y x->Np lt (xs.set i y) xs
 |[],_,_,_,h,_=>by cases h
 |z::zs,0,y,x,h,hl=>by
  cases h;exact .inl ⟨hl,rfl⟩
 |z::zs,i+1,y,x,h,hl=>.inr ⟨rfl,U6 (by simpa using h) hl⟩
theorem Np.trans (ht:∀a b c,lt a b->lt b c->lt a c):∀ {xs ys zs:List α},Np lt xs ys->Np lt ys zs->Np lt xs zs
 |x::xs,y::ys,z::zs,h1,h2=>by
  rcases h1 with ⟨a,b⟩|⟨rfl,b⟩
  ·rcases h2 with ⟨c,d⟩|⟨rfl,d⟩
   ·exact .inl ⟨ht _ _ _ a c,b.trans d⟩
   ·exact .inl ⟨a,b.trans (Np.len lt d)⟩
  ·rcases h2 with ⟨c,d⟩|⟨rfl,d⟩
   ·exact .inl ⟨c,(Np.len lt b).trans d⟩
   ·exact .inr ⟨rfl,Np.trans ht b d⟩
 |[],_,_,h,_=>by cases h
 |_::_,[],_,h,_=>by cases h
 |_::_,_::_,[],_,h=>by cases h
end
section
variable {X:Cx}{WX:Str->Hp->Prop}{c:Bool}{P0:Dg}{P:Addr->Prop}{H:Hp}{σ:St}{ρ:Aa}{a b e:Expr}{f g g2:Aa->M D}{pos:Pos}
def Xz {m:Nat}{k:Int}{n:Nat}(h:TN m k=some n):n<m:=by
 unfold TN at h;split at h
 ·split at h
  ·cases h;omega
  ·cases h
 ·split at h
  ·cases h;omega
  ·cases h
end
section
variable {X:Cx}{WX:Str->Hp->Prop}{c:Bool}{P0:Dg}{P:Addr->Prop}{H:Hp}{σ:St}{ρ:Aa}{a b e:Expr}{f g g2:Aa->M D}{pos:Pos}
def Dz:∀ {ds:List D}{ns:List Int},Cb ds=some ns->ds=ns.map D.int
 |[],ns,h=>by cases h;rfl
 | .int b::r,bs,h=>by
  rw[Cb] at h;cases q:Cb r with
  |none=>rw[q] at h;cases h
  |some vj=>rw[q] at h;cases h;rw[Dz q];rfl
 | .AD::r,bs,h=>by cases h
 | .bl _::r,bs,h=>by cases h
 | .str _::r,bs,h=>by cases h
 | .tup _::r,bs,h=>by cases h
 | .lst _::r,bs,h=>by cases h
 | .Dp _::r,bs,h=>by cases h
 | .Ba _ _ _::r,bs,h=>by cases h
 | .ins _ _ _::r,bs,h=>by cases h
def DV {K:za}{H:Hp}:∀ {vs:List V}{bs:List Int},Ag K H vs (bs.map D.int)->vs=bs.map V.int
 |_,[],.nil=>rfl
 |_,b::r,.cons h t=>by cases h;rw[DV t];rfl
end
def jI {P P2:Addr->Prop}{H H':Hp}(t:Tr P P H P2 H'){a:Addr}(h:P2 a)(hn:¬ P a):H a=none:=by
 cases q:H a with
 |none=>rfl
 |some o =>
  have:=t.1 a o (by rw[Ar hn];exact q);exact ((Ai this).1 h).elim
section
variable {X:Cx}{WX:Str->Hp->Prop}{c:Bool}{P0:Dg}{P:Addr->Prop}{H:Hp}{σ:St}{ρ:Aa}{a b e:Expr}{f g:Aa->M D}{pos:Pos}
def ZM:V->List V->Hp->VK->Prop:=λ x vs H Q=>∃(l:Addr) (xs:List V) (k:Nat) (y:V),x=.ref l/\vs=[.int (k:Int),y]/\H l=some (.lst xs)/\k<=xs.length/\xs.length<sizeLine/\Q .AD (upd H l (.lst (xs.take k++y::xs.drop k)))
def QJ:∀ {xs:List V}{us:List Value}{y:V}{w:Value},Vals xs us->∀k:Nat,RelV y w->Vals (xs.take k++y::xs.drop k) (us.take k++w::us.drop k)
 |_,_,_,_,r,0,h=>.cons h r
 |_,_,_,_,.nil,k+1,h=>.cons h .nil
 |_,_,_,_,.cons a t,k+1,h=>.cons a (QJ t k h)
def XA {prog:Program}{wd:World}{A:Around}{E:Value->Shared->Prop}{s:Shared}{Q:Value->Shared->Prop}{l:Addr}{items:Array Value}{n:Nat}(x:Int)(u:Tok)(y:Value)(hc:¬(!Builtin.List.listFitsIndex x)=true)(hs:items.size<=sizeLine)
 (e:s.heap.get? l=some {cls:=.type "list",data:=.seq items n})
 (h:Q .none {s with heap:=s.heap.update l (yL λ xs=>(xs.extract 0 (if x<0 then (x+(xs.size:Int)).toNat else min x.toNat xs.size)).push y++xs.extract (if x<0 then (x+(xs.size:Int)).toNat else min x.toNat xs.size)),toks:=s.toks}):wpAny (model prog wd) A (call (.builtin "list.insert") [.ref l,.int x u,y]) Q E s:=by
 have hm:=PySem.AutoSeq1.list_insert_list_int_val_1 l items n x u y hc hs;have ha:=PySem.F.args_list_insert_3 (.ref l) (.int x u) y;exact call_meets PySem.F.slot_list_insert ⟨_,e,rfl⟩ PySem.F.entry_list_insert ha hm ⟨e,h⟩
def Vq:pT X "list.insert" ZM:=by
 intro pins s σ H x vs v us Q I rx rv h;obtain⟨l,xs,k,y,rfl,rfl,hH,hk,hz,q⟩:=h;cases rx;obtain⟨u,w,rfl,ru,bi⟩:=rv.two;obtain⟨tk,rfl⟩:=ru;obtain⟨z,aa,n,r,hl,e⟩:=I.V6 hH;have hlen:=r.length;have wU:=K8;have ef:¬ (!Builtin.List.listFitsIndex (k:Int))=true:=by
  unfold Builtin.List.listFitsIndex;simp;omega
 have hsz:aa.toArray.size<=sizeLine:=by rw[zk,<-hl];exact yd hz
 refine XA (k:Int) tk w ef hsz e ?_;refine⟨.AD,_,I.Ze (its':=aa.take k++w::aa.drop k) hH e ?_ ?_ ?_,rfl,q⟩
 ·have e1:¬ ((k:Int)<0):=by omega
  have e2:min (k:Int).toNat aa.toArray.size=k:=by rw[y8,zk];omega
  simp only[e1,if_false,e2];apply Array.toList_inj.mp;simp;rw[List.take_of_length_le (by rw[xj];exact zw _)]
 ·exact QJ r k bi
 ·rw[zK,zp,yB,xj];omega
noncomputable def Vr (i:Nat)(ρ:Aa)(mk md:M D):M Out:=match ρ[i]? with
 |some (some (.own ds))=>mk.bind λ k=>md.bind λ d=>match k with
  | .int j=>if 0<=j/\j.toNat<=ds.length/\ds.length<1000 then .ok (.next (ρ.set i (some (.own (ds.take j.toNat++d::ds.drop j.toNat))))) else .bad
  |_=>.bad
 |_=>.bad
def Oe {K:za}{H:Hp}:∀ {vs:List V}{ds:List D}(n:Nat),Ag K H vs ds->Ag K H (vs.take n) (ds.take n)
 |_,_,0,_=>by rw[List.take_zero,List.take_zero];exact .nil
 |_,_,_+1,.nil=>.nil
 |_,_,n+1,.cons h t=>by rw[List.take_succ_cons,List.take_succ_cons];exact .cons h (Oe n t)
def Of {K:za}{H:Hp}:∀ {vs:List V}{ds:List D}(n:Nat),Ag K H vs ds->Ag K H (vs.drop n) (ds.drop n)
 |_,_,0,h=>h
 |_,_,_+1,.nil=>.nil
 |_,_,n+1,.cons h t=>by rw[List.drop_succ_cons,List.drop_succ_cons];exact Of n t
def QK {K:za}{H:Hp}:∀ {vs ws:List V}{ds es:List D},Ag K H vs ds->Ag K H ws es->Ag K H (vs++ws) (ds++es)
 |_,_,_,_,.nil,k=>k
 |_,_,_,_,.cons h t,k=>.cons h (QK t k)
def Vs (i:Nat){x:Str}{p1 apos ac:Pos}(hv:PE X (.Name x p1) (Qh i))(hk:DE X WX true a f)(hd:DE X WX true b g)(hs:starEach [a,b] X.env=(false,eval a X.env)::starEach [b] X.env:=by rfl)(aR:starEach [b] X.env=[(false,eval b X.env)]:=by rfl)
 (b5:swapsWith (.Call (.Attribute (.Name x p1) "insert" apos) [a,b] [] ac) none pos.line X.env=pure false:=by rfl)
 (ar:attributeBase (.Name x p1) "insert" X.env (eval (.Name x p1) X.env)=eval (.Name x p1) X.env:=by rfl)
 (aB:((backTo ac (starEach [a,b] X.env)).all (λ x => !x.1)&&(backToKw ac (keywordEach [] X.env)).all (λ x=>x.1.isSome)&&decide (([a,b]:List Expr).length+([]:List Keyword).length+(if ([]:List Keyword).isEmpty then 0 else 1)<30))=true:=by rfl)
 (au:(apos.endLine==ac.line)=true:=by rfl) (ap:(backTo ac (starEach [b] X.env)).any (·.1)=false:=by rfl):
 DS X WX (.Expr (.Call (.Attribute (.Name x p1) "insert" apos) [a,b] [] ac) pos) (λ ρ=>Vr i ρ (f ρ) (g ρ)):=by
 obtain⟨ta,a1,a2⟩:=hk;obtain⟨tb,b1,b2⟩:=hd;refine⟨_,F9 (NY yz PySem.F.slot_list_insert PySem.F.type_list_insert Vq hv (Bk a1 (Bk b1 Ci aR) hs) ar aB au hs ap) b5,λ P0 P σ H Z ρ E h=>?_⟩;dsimp only at h;unfold Vr at h;split at h
 ·rename_i ds e1;obtain⟨p,xs,h1,h2,h3,h4,h5⟩:=E.own i ds e1;refine⟨_,h1,.inl ⟨rfl,xs,.of h2⟩,a2 P0 P σ H _ ρ E ?_⟩;cases q:f ρ with
  |bad=>rw[q] at h;exact h
  |ex y=>rw[q] at h;exact λ H' s=>h H' P (E.tr s)
  |ok k =>
   rw[q] at h;simp only[M.A7] at h;intro w H1 s1 hw;have E1:=E.same s1;refine b2 P0 P σ H1 _ ρ E1 ?_;cases q2:g ρ with
   |bad=>rw[q2] at h;exact h
   |ex y=>rw[q2] at h;exact λ H' s=>h H' P ((E.tr s1).trans (E1.tr s))
   |ok d =>
    rw[q2] at h;simp only[M.A7] at h;intro v H2 s2 vm;have E2:=E1.same s2;have nr:=s1.trans s2;split at h
    ·rename_i j;cases hw;by_cases hj:0<=j/\j.toNat<=ds.length/\ds.length<1000
     ·rw[if_pos hj] at h;have vn:((j.toNat:Nat):Int)=j:=Int.toNat_of_nonneg hj.1;have t8:=h5.mono nr.del;refine⟨p,xs,j.toNat,v,rfl,by rw[vn],nr _ _ h2,by rw[h5.length];exact hj.2.1,AG (by rw[h5.length];exact yd hj.2.2),?_⟩;obtain⟨E3,t3⟩:=E2.mut e1 h1 h3 h4 (QK (Oe j.toNat t8) (.cons vm (Of j.toNat t8)));exact h _ _ _ ((E.tr nr).trans t3) E3
     ·rw[if_neg hj] at h;exact h.elim
    ·exact h.elim
 ·exact h.elim
noncomputable def nY (ds:List D):M D:=match ds with
 |[.lst xs]=>(match Gm xs with|some bs=>.ok (.bl (bs.any id))|none=>.bad)
 |_=>.bad
end
noncomputable def kids:OT->List OT
 | .sh _=>[]
 | .lst ts=>ts
 | .tup ts=>ts
 | .Ba _ _ ts=>ts
 | .ins _ _ ts=>ts
noncomputable def Lx:OT->List OT->OT
 | .sh d,_=>.sh d
 | .lst _,ts=>.lst ts
 | .tup _,ts=>.tup ts
 | .Ba b ks _,ts=>.Ba b ks ts
 | .ins x ns _,ts=>.ins x ns ts
noncomputable def Kh:OT->List Nat->Option OT
 |t,[]=>some t
 |t,j::π=>match (kids t)[j]? with|some s=>Kh s π|none=>none
noncomputable def EE:OT->List Nat->OT->OT
 |_,[],u=>u
 |t,j::π,u=>match (kids t)[j]? with|some s=>Lx t ((kids t).set j (EE s π u))|none=>t
@[simp] theorem XB (t:OT):Kh t []=some t:=by unfold Kh;rfl
@[simp] theorem F1 (t u:OT):EE t [] u=u:=by unfold EE;rfl
def Vt {t s:OT}{j:Nat}{π:List Nat}(h:(kids t)[j]?=some s):Kh t (j::π)=Kh s π:=by rw[Kh,h]
def Vu {t s u:OT}{j:Nat}{π:List Nat}(h:(kids t)[j]?=some s):EE t (j::π) u=Lx t ((kids t).set j (EE s π u)):=by rw[EE,h]
section
variable {K:za}{H H':Hp}{P P':Addr->Prop}
def Cc (K:za)(H:Hp)(P:Addr->Prop)(v:V)(t:OT)(q:List Addr)(xs:List V):Prop:=match t with
 | .sh _=>False
 | .lst ts=>∃p,v=.ref p/\q=[p]/\H p=some (.lst xs)
 | .tup ts=>∃p,v=.ref p/\q=[]/\del H P p=some (.tup xs)
 | .Ba false ks ts=>∃p kvs,v=.ref p/\q=[p]/\H p=some (.dK kvs)/\ks=(kvs.map λ kv=>CT kv.1)/\xs=kvs.map yp
 | .Ba true ks ts=>∃p kvs,v=.ref p/\q=[p]/\H p=some (.dT kvs)/\ks=(kvs.map λ kv=>.tup (kv.1.map CT))/\xs=kvs.map yp
 | .ins x ns ts=>∃p C dx fs,v=.ref p/\q=[p]/\zd K mainGlobals x=some (some (.ref C))/\H p=some (.ins C dx fs)/\ns=fs.map zG/\xs=fs.map yp
def Cc.own {v:V}{t:OT}{q:List Addr}{xs:List V}{fp:List Addr}(h:Cc K H P v t q xs)(r:Au K H P xs (kids t) fp):BI K H P v t (q++fp):=by
 cases t with
 |sh d=>exact h.elim
 |lst ts=>obtain⟨p,rfl,rfl,h⟩:=h;exact .lst h r
 |tup ts=>obtain⟨p,rfl,rfl,h⟩:=h;exact .tup h r
 |Ba b ks ts =>
  cases b with
  |false=>obtain⟨p,kvs,rfl,rfl,h,rfl,rfl⟩:=h;exact .dK h r
  |true=>obtain⟨p,kvs,rfl,rfl,h,rfl,rfl⟩:=h;exact .dT h r
 |ins x ns ts=>obtain⟨p,C,dx,fs,rfl,rfl,n,h,rfl,rfl⟩:=h;exact .ins n h r
def BI.node {v:V}{t:OT}{fp:List Addr}(h:BI K H P v t fp)(hk:kids t≠[]\/∀d,t≠.sh d):∃q xs fq,fp=q++fq/\Cc K H P v t q xs/\Au K H P xs (kids t) fq:=by
 cases h with
 |sh h=>rcases hk with hk|hk;exact (hk rfl).elim;exact (hk _ rfl).elim
 |lst h r=>exact⟨[_],_,_,rfl,⟨_,rfl,rfl,h⟩,r⟩
 |tup h r=>exact⟨[],_,_,rfl,⟨_,rfl,rfl,h⟩,r⟩
 |dK h r=>exact⟨[_],_,_,rfl,⟨_,_,rfl,rfl,h,rfl,rfl⟩,r⟩
 |dT h r=>exact⟨[_],_,_,rfl,⟨_,_,rfl,rfl,h,rfl,rfl⟩,r⟩
 |ins n h r=>exact⟨[_],_,_,rfl,⟨_,_,_,_,rfl,rfl,n,h,rfl,rfl⟩,r⟩
def Cc.move (sm:Ae (del H P) (del H' P')){v:V}{t:OT}{q:List Addr}{xs:List V}(k:∀a∈q,H' a=H a)(h:Cc K H P v t q xs):Cc K H' P' v t q xs:=by
 cases t with
 |sh d=>exact h.elim
 |lst ts=>obtain⟨p,rfl,rfl,h⟩:=h;exact⟨p,rfl,rfl,(k p zc).trans h⟩
 |tup ts=>obtain⟨p,rfl,rfl,h⟩:=h;exact⟨p,rfl,rfl,sm _ _ h⟩
 |Ba b ks ts =>
  cases b with
  |false=>obtain⟨p,kvs,rfl,rfl,h,rfl,rfl⟩:=h;exact⟨p,kvs,rfl,rfl,(k p zc).trans h,rfl,rfl⟩
  |true=>obtain⟨p,kvs,rfl,rfl,h,rfl,rfl⟩:=h;exact⟨p,kvs,rfl,rfl,(k p zc).trans h,rfl,rfl⟩
 |ins x ns ts=>obtain⟨p,C,dx,fs,rfl,rfl,n,h,rfl,rfl⟩:=h;exact⟨p,C,dx,fs,rfl,rfl,n,(k p zc).trans h,rfl,rfl⟩
def Cc.kids {v:V}{t:OT}{q:List Addr}{xs:List V}(h:Cc K H P v t q xs)(ts:List OT):Cc K H P v (Lx t ts) q xs:=by
 cases t with
 |sh d=>exact h.elim
 |lst us=>exact h
 |tup us=>exact h
 |Ba b ks us=>cases b<;>exact h
 |ins x ns us=>exact h
def Pd {v:V}{t:OT}{q:List Addr}{xs:List V}(h:Cc K H P v t q xs)(ts:List OT):L2.kids (Lx t ts)=ts:=by
 cases t with
 |sh d=>exact h.elim
 |lst us=>rfl
 |tup us=>rfl
 |Ba b ks us=>rfl
 |ins x ns us=>rfl
def Cc.inj {v:V}{t:OT}{q q':List Addr}{xs dl:List V}(h:Cc K H P v t q xs)(h':Cc K H P v t q' dl):q=q'/\xs=dl:=by
 cases t with
 |sh d=>exact h.elim
 |lst ts=>obtain⟨p,rfl,rfl,h⟩:=h;obtain⟨p',e,rfl,h'⟩:=h';cases e;rw[h] at h';cases h';exact⟨rfl,rfl⟩
 |tup ts=>obtain⟨p,rfl,rfl,h⟩:=h;obtain⟨p',e,rfl,h'⟩:=h';cases e;rw[h] at h';cases h';exact⟨rfl,rfl⟩
 |Ba b ks ts =>
  cases b with
  |false=>obtain⟨p,kvs,rfl,rfl,h,_,rfl⟩:=h;obtain⟨p',nu,e,rfl,h',_,rfl⟩:=h';cases e;rw[h] at h';cases h';exact⟨rfl,rfl⟩
  |true=>obtain⟨p,kvs,rfl,rfl,h,_,rfl⟩:=h;obtain⟨p',nu,e,rfl,h',_,rfl⟩:=h';cases e;rw[h] at h';cases h';exact⟨rfl,rfl⟩
 |ins x ns ts=>obtain⟨p,C,dx,fs,rfl,rfl,n,h,_,rfl⟩:=h;obtain⟨p',C',wV,bO,e,rfl,n',h',_,rfl⟩:=h';cases e;rw[h] at h';cases h';exact⟨rfl,rfl⟩
inductive Gn (K:za) (H:Hp) (P:Addr->Prop):V->OT->List Nat->V->OT->Prop
 |nil {v t}:Gn K H P v t [] v t
 |cons {v t q xs j x s π v1 t1}:Cc K H P v t q xs->xs[j]?=some x->(kids t)[j]?=some s->Gn K H P x s π v1 t1->Gn K H P v t (j::π) v1 t1
def Gn.sub {v v1:V}{t t1:OT}{π:List Nat}(h:Gn K H P v t π v1 t1):Kh t π=some t1:=by
 induction h with
 |nil=>exact XB _
 |cons _ _ hs _ ih=>rw[Vt hs];exact ih
def Gn.snoc {v v1 x:V}{t t1 s:OT}{π:List Nat}{q:List Addr}{xs:List V}{j:Nat}(h:Gn K H P v t π v1 t1)(n:Cc K H P v1 t1 q xs)(hx:xs[j]?=some x)(hs:(kids t1)[j]?=some s):Gn K H P v t (π++[j]) x s:=by
 induction h with
 |nil=>exact .cons n hx hs .nil
 |cons n' vo vp _ ih=>exact .cons n' vo vp (ih n hs)
def Au.get:∀ {xs:List V}{ts:List OT}{fp:List Addr}{j:Nat}{x:V}{s:OT},Au K H P xs ts fp->xs[j]?=some x->ts[j]?=some s->∃pre fs post,fp=pre++fs++post/\BI K H P x s fs
 |_,_,_,_,_,_,.nil,e,_=>by simp at e
 |_,_,_,0,_,_,.cons h r,e,e'=>by
  simp at e e';subst e;subst e';exact⟨[],_,_,rfl,h⟩
 |_,_,_,j+1,_,_,.cons (fp:=f1) h r,e,e'=>by
  obtain⟨pre,fs,post,z,q⟩:=Au.get r (by simpa using e) (by simpa using e');exact⟨f1++pre,fs,post,by rw[z];simp,q⟩
def Au.len:∀ {xs:List V}{ts:List OT}{fp:List Addr},Au K H P xs ts fp->xs.length=ts.length
 |_,_,_,.nil=>rfl
 |_,_,_,.cons _ r=>by rw[zp,zp,r.len]
def Au.tM:∀ {xs:List V}{ts:List OT}{fp:List Addr}{j:Nat}{s:OT},Au K H P xs ts fp->ts[j]?=some s->∃x,xs[j]?=some x:=fun {xs ts fp j s} h e=>by
 have hl:j<xs.length:=by rw[h.len];exact (zv.mp e).1
 exact⟨_,zj hl⟩
def BI.part {v v1:V}{t t1:OT}{π:List Nat}{fp:List Addr}(h:BI K H P v t fp)(s:Gn K H P v t π v1 t1):∃az,BI K H P v1 t1 az/\(∀a∈az,a∈fp)/\(fp.Nodup->az.Nodup):=by
 induction s generalizing fp with
 |nil=>exact⟨fp,h,λ _ h=>h,λ h=>h⟩
 |cons n hx hs _ ih =>
  obtain⟨q,xs,fq,rfl,n',r⟩:=h.node (.inl λ z=>by rw[z] at hs;cases hs);obtain⟨rfl,rfl⟩:=n.inj n';obtain⟨pre,fs,post,rfl,o⟩:=r.get hx hs;obtain⟨az,o1,k,kn⟩:=ih o;exact⟨az,o1,λ a ha=>zl _ (zJ _ (zl _ (k a ha))),λ nd=>kn (zH.mp (zH.mp (zH.mp nd).2.1).1).2.1⟩
def Au.put (sm:Ae (del H P) (del H' P')):∀ {xs:List V}{ts:List OT}{fp:List Addr}{j:Nat}{x:V}{s s':OT}{fs bO:List Addr},Au K H P xs ts fp->xs[j]?=some x->ts[j]?=some s->BI K H P x s fs->BI K H' P' x s' bO->(∀a∈fp,a∉fs->H' a=H a)->fp.Nodup->bO.Nodup->(∀a∈bO,a∈fp->a∈fs)->
 ∃ai,Au K H' P' xs (ts.set j s') ai/\ai.Nodup/\∀a∈ai,a∈bO\/(a∈fp/\a∉fs)
 |_,_,_,_,_,_,_,_,_,.nil,e,_,_,_,_,_,_,_=>by simp at e
 |_,_,_,0,x,s,s',fs,bO,.cons (fp:=f1) (fq:=f2) h r,e,e',o,o',k,nd,jg,dj=>by
  simp at e e';subst e;subst e';have:=h.C8 o;subst this;have bd:=zH.mp nd;have k2:∀a∈f2,a∉f1:=λ a ha hb=>bd.2.2 a hb a ha rfl;refine⟨bO++f2,.cons o' (r.move sm λ a ha=>k a (zl _ ha) (k2 a ha)),zH.mpr ⟨jg,bd.2.1,λ a ha b hb z=>?_⟩,λ a ha=>?_⟩
  ·subst z;exact k2 a hb (dj a ha (zl _ hb))
  ·rcases zC.mp ha with ha|ha
   ·exact .inl ha
   ·exact .inr ⟨zl _ ha,k2 a ha⟩
 |_,_,_,j+1,x,s,s',fs,bO,.cons (vs:=tu) (ts:=vq) (fp:=f1) (fq:=f2) h r,e,e',o,o',k,nd,jg,dj=>by
  have bd:=zH.mp nd;have e2:tu[j]?=some x:=by simpa using e
  have e3:vq[j]?=some s:=by simpa using e'
  obtain⟨pre,fx,post,hf,ox⟩:=r.get e2 e3;have:=ox.C8 o;subst this;have k1:∀a∈f1,a∉fx:=λ a ha hb=>bd.2.2 a ha a (by rw[hf];exact zJ _ (zl _ hb)) rfl;obtain⟨ai,q1,q2,q3⟩:=Au.put sm r e2 e3 o o' (λ a ha hn=>k a (zl _ ha) hn) bd.2.1 jg (λ a ha hb=>dj a ha (zl _ hb));refine⟨f1++ai,.cons (h.move sm λ a ha=>k a (zJ _ ha) (k1 a ha)) q1,zH.mpr ⟨bd.1,q2,λ a ha b hb z=>?_⟩,λ a ha=>?_⟩
  ·subst z;rcases q3 a hb with z|z
   ·exact k1 a ha (dj a z (zJ _ ha))
   ·exact bd.2.2 a ha a z.1 rfl
  ·rcases zC.mp ha with ha|ha
   ·exact .inr ⟨zJ _ ha,k1 a ha⟩
   ·rcases q3 a ha with z|z
    ·exact .inl z
    ·exact .inr ⟨zl _ z.1,z.2⟩
def BI.put (sm:Ae (del H P) (del H' P')){v v1:V}{t t1 u:OT}{π:List Nat}{fp az fu:List Addr}(h:BI K H P v t fp)(s:Gn K H P v t π v1 t1)(o:BI K H P v1 t1 az)(o':BI K H' P' v1 u fu)(k:∀a∈fp,a∉az->H' a=H a)(nd:fp.Nodup)(jg:fu.Nodup)(dj:∀a∈fu,a∈fp->a∈az):
 ∃ai,BI K H' P' v (EE t π u) ai/\ai.Nodup/\∀a∈ai,a∈fu\/(a∈fp/\a∉az):=by
 induction s generalizing fp with
 |nil =>
  rw[F1];exact⟨fu,o',jg,λ a ha=>.inl ha⟩
 | @cons v t q xs j x s π v1 t1 n hx hs s1 ih =>
  obtain⟨q',dl,fq,rfl,n',r⟩:=h.node (.inl λ z=>by rw[z] at hs;cases hs);obtain⟨rfl,rfl⟩:=n.inj n';have jh:=zH.mp nd;obtain⟨pre,fs,post,hf,ox⟩:=r.get hx hs;have sub:∀a∈fs,a∈fq:=λ a ha=>by rw[hf];exact zJ _ (zl _ ha)
  have vt:fs.Nodup:=by
   have:=jh.2.1;rw[hf] at this;exact (zH.mp (zH.mp this).1).2.1
  obtain⟨fz,oz,kz,_⟩:=ox.part s1;have:=oz.C8 o;subst this;obtain⟨bO,q1,q2,q3⟩:=ih ox o o' (λ a ha hn=>k a (zl _ (sub a ha)) hn) vt (λ a ha hb=>dj a ha (zl _ (sub a hb)));have qf:∀a∈q,a∉fs:=λ a ha hb=>jh.2.2 a ha a (sub a hb) rfl;have kq:∀a∈q,H' a=H a:=λ a ha=>k a (zJ _ ha) λ z=>qf a ha (kz a z);obtain⟨ai,p1,p2,p3⟩:=r.put sm hx hs ox q1 (λ a ha hn=>k a (zl _ ha) λ z=>hn (kz a z)) jh.2.1 q2 (λ a ha hb=>by
   rcases q3 a ha with z|z
   ·exact kz a (dj a z (zl _ hb))
   ·exact z.1)
  rw[Vu hs];have n2:=(n.move sm kq).kids ((kids t).set j (EE s π u));have o2:=n2.own (fp:=ai) (by rw[Pd n];exact p1);refine⟨q++ai,o2,zH.mpr ⟨jh.1,p2,λ a ha b hb z=>?_⟩,λ a ha=>?_⟩
  ·subst z;rcases p3 a hb with z|z
   ·rcases q3 a z with y|y
    ·exact qf a ha (kz a (dj a y (zJ _ ha)))
    ·exact qf a ha y.1
   ·exact jh.2.2 a ha a z.1 rfl
  ·rcases zC.mp ha with ha|ha
   ·exact .inr ⟨zJ _ ha,λ z=>qf a ha (kz a z)⟩
   ·rcases p3 a ha with z|z
    ·rcases q3 a z with y|y
     ·exact .inl y
     ·exact .inr ⟨zl _ (sub a y.1),y.2⟩
    ·exact .inr ⟨zl _ z.1,λ y=>z.2 (kz a y)⟩
end
def PU (P:Addr->Prop)(fp:List Addr):Addr->Prop:=λ a=>P a\/a∈fp
def Ki {P:Addr->Prop}{fp:List Addr}:∀a,P a->PU P fp a:=λ a h=>.inl h
def D6 {P:Addr->Prop}{fp:List Addr}{H H':Hp}(s:Ae H H')(hn:∀a∈fp,H a=none):Ae (del H P) (del H' (PU P fp)):=λ b o e=>by
 obtain⟨h1,h2⟩:=Ai e;rw[Ar λ z=>z.elim h1 λ w=>by rw[hn b w] at h2;cases h2];exact s b o h2
def SA {P:Addr->Prop}{H:Hp}:del H (PU P [])=del H P:=by
 funext b;by_cases h:P b
 ·rw[Ff h,Ff (.inl h)]
 ·rw[Ar h,Ar λ z=>z.elim h λ w=>by cases w]
def Kj {P:Addr->Prop}{fp:List Addr}{K:za}{H':Hp}{Q:Addr->Prop}{v:V}{t:OT}(hP:∀a,P a->Eo H' a)(o:BI K H' Q v t fp):∀a,PU P fp a->Eo H' a:=λ a h=>h.elim (hP a) (o.Cg a)
def U7 {P:Addr->Prop}{fp:List Addr}{K:za}{H':Hp}{Q:Addr->Prop}{v:List V}{t:List OT}(hP:∀a,P a->Eo H' a)(o:Au K H' Q v t fp):∀a,PU P fp a->Eo H' a:=λ a h=>h.elim (hP a) (o.Cg a)
def Ak.more {K:za}{P0:Dg}{P P':Addr->Prop}{H H':Hp}{σ:St}{ρ:Aa}(E:Ak K P0 P H σ ρ)(e:Ae H H')(hs:∀a,P a->P' a)(ht:∀a,P' a->Eo H' a)(sm:Ae (del H P) (del H' P')):Ak K P0 P' H' σ ρ:=by
 have keep:∀(c:Cl) (v:V) (fp:List Addr),CK K H P c v fp->∀a∈fp,H' a=H a:=λ c v fp o a ha=>by
  obtain⟨xs,q⟩:=o.at a ha;rw[q];exact e _ _ q
 exact⟨λ a h=>hs a (E.sub a h),ht,λ i d h=>let ⟨v,h1,h2⟩:=E.val i d h;⟨v,h1,h2.mono sm⟩,
  λ i c h io=>let ⟨v,fp,h1,h2,h3,h4⟩:=E.ows i c h io;⟨v,fp,h1,h2.move sm (keep c v fp h2),λ a ha=>⟨hs a (h3 a ha).1,(h3 a ha).2⟩,h4⟩,
  λ i j c c' v v' fp ai hi hj si sj h h' ae=>E.Xa sm (λ v fp _ o a ha=>keep _ _ _ o a ha) (λ v fp _ o a ha=>keep _ _ _ o a ha) hi hj si sj h h' ae,E.len,E.pin⟩
def XC (K:za)(WX:Str->Hp->Prop)(P:Addr->Prop)(H:Hp)(Q:VK):M OT->Prop
 | .ok t=>∀v fp H',Ae H H'->(∀a∈fp,H a=none)->fp.Nodup->BI K H' (PU P fp) v t fp->Q v H'
 | .ex x=>∀H',Ae H H'->WX x H'
 | .bad=>False
def vB (K:za)(WX:Str->Hp->Prop)(P:Addr->Prop)(H:Hp)(Q:List V->Hp->Prop):M (List OT)->Prop
 | .ok t=>∀v fp H',Ae H H'->(∀a∈fp,H a=none)->fp.Nodup->Au K H' (PU P fp) v t fp->Q v H'
 | .ex x=>∀H',Ae H H'->WX x H'
 | .bad=>False
def F2 {H H':Hp}(s:Ae H H'){a:Addr}(h:H' a=none):H a=none:=by
 cases q:H a with
 |none=>rfl
 |some o=>rw[s a o q] at h;cases h
section
variable {K:za}{WX:Str->Hp->Prop}{P:Addr->Prop}{H H':Hp}
def XC.same {Q:VK}{m:M OT}(h:XC K WX P H Q m)(e:Ae H H'):XC K WX P H' Q m:=by
 cases m with
 |ok d=>exact λ v fp H2 q hn nd o=>h v fp H2 (e.trans q) (λ a ha=>F2 e (hn a ha)) nd o
 |ex x=>exact λ H2 q=>h H2 (e.trans q)
 |bad=>exact h
end
def DN (X:Cx)(WX:Str->Hp->Prop)(e:Expr)(f:Aa->M OT):Prop:=
 ∃t,PE X e t/\∀P0 P σ H Q ρ,Ak X.K P0 P H σ ρ->XC X.K WX P H Q (f ρ)->t σ H Q
def nZ (X:Cx)(WX:Str->Hp->Prop)(es:List Expr)(f:Aa->M (List OT)):Prop:=
 ∃t,PA X es t/\(∀P0 P σ H Q ρ,Ak X.K P0 P H σ ρ->vB X.K WX P H Q (f ρ)->t σ H Q)/\∀ρ ts,f ρ=.ok ts->ts.length=es.length
noncomputable def lH (d:D):M OT:=.ok (.sh d)
noncomputable def lI (t:OT):M D:=.ok (er t)
section
variable {X:Cx}{WX:Str->Hp->Prop}{c:Bool}{P0:Dg}{P:Addr->Prop}{H:Hp}{σ:St}{ρ:Aa}{a b e:Expr}{f g:Aa->M D}{fn:Aa->M OT}{pos:Pos}{es:List Expr}
def AL (h:DE X WX true e f):DN X WX e (λ ρ=>(f ρ).bind lH):=by
 obtain⟨t,h1,h2⟩:=h;refine⟨t,h1,λ P0 P σ H Q ρ E g=>h2 P0 P σ H Q ρ E ?_⟩;dsimp only at g;cases q:f ρ with
 |bad=>rw[q] at g;exact g
 |ex x=>rw[q] at g;exact g
 |ok d=>rw[q] at g;exact λ v H' s hv=>g v [] H' s (λ a ha=>by cases ha) yu (.sh (by rw[SA];exact hv))
def An (h:DN X WX e fn):DE X WX c e (λ ρ=>(fn ρ).bind lI):=by
 suffices z:DE X WX true e (λ ρ=>(fn ρ).bind lI) by
  cases c with
  |true=>exact z
  |false=>exact P5 z
 obtain⟨t,h1,h2⟩:=h;refine⟨t,h1,λ P0 P σ H Q ρ E g=>h2 P0 P σ H Q ρ E ?_⟩;dsimp only at g;cases q:fn ρ with
 |bad=>rw[q] at g;exact g
 |ex x=>rw[q] at g;exact g
 |ok d =>
  rw[q] at g;exact λ v fp H' s hn nd o=>g v H' s (o.has Ki λ a ha z=>(E.Cg a z).no (hn a ha))
def CC:nZ X WX [] (λ _=>.ok []):=⟨_,Ci,λ P0 P σ H Q ρ E h=>h [] [] H (Ae.refl H) (λ a ha=>by cases ha) yu .nil,λ ρ ds h=>by cases h;rfl⟩
def Dd {es:List Expr}{fs:Aa->M (List OT)}(he:DN X WX e fn)(hr:nZ X WX es fs)(hs:starEach (e::es) X.env=(false,eval e X.env)::starEach es X.env:=by rfl):
 nZ X WX (e::es) (λ ρ=>(fn ρ).bind λ d=>(fs ρ).bind λ ds=>.ok (d::ds)):=by
 obtain⟨te,e1,e2⟩:=he;obtain⟨tr,r1,r2,r3⟩:=hr;refine⟨_,Bk e1 r1 hs,λ P0 P σ H Q ρ E h=>?_,λ ρ ds h=>?_⟩
 rotate_left
 ·dsimp only at h;cases q:fn ρ with
  |bad=>rw[q] at h;cases h
  |ex x=>rw[q] at h;cases h
  |ok x =>
   rw[q] at h;cases q2:fs ρ with
   |bad=>rw[q2] at h;cases h
   |ex x=>rw[q2] at h;cases h
   |ok xs =>
    rw[q2] at h;cases h;rw[zp,zp,r3 ρ xs q2]
 dsimp only at h;refine e2 P0 P σ H _ ρ E ?_;cases q:fn ρ with
 |bad=>rw[q] at h;exact h
 |ex x=>rw[q] at h;exact h
 |ok x =>
  rw[q] at h;intro v fp H1 s1 n1 f7 o1;have E1:Ak X.K P0 (PU P fp) H1 σ ρ:=E.more s1 Ki (Kj (E.same s1).Cg o1) (D6 s1 n1);refine r2 P0 (PU P fp) σ H1 _ ρ E1 ?_;cases q2:fs ρ with
  |bad=>rw[q2] at h;exact h
  |ex y=>rw[q2] at h;exact λ H' s=>h H' (s1.trans s)
  |ok ds =>
   rw[q2] at h;intro vs fq H2 s2 n2 bd o2;have dj:∀a∈fp,a∉fq:=λ a ha hb=>(o1.Cg a ha).no (n2 a hb);have eP:PU (PU P fp) fq=PU P (fp++fq):=by
    funext a;simp only[PU,zC,or_assoc]
   have sm:Ae (del H1 (PU P fp)) (del H2 (PU P (fp++fq))):=by rw[<-eP];exact D6 s2 n2
   refine h _ (fp++fq) H2 (s1.trans s2) (λ a ha=>?_) (zH.mpr ⟨f7,bd,λ a ha b hb z=>dj a ha (by rw[z];exact hb)⟩) (.cons (o1.move sm λ a ha=>?_) (by rw[<-eP];exact o2))
   ·rcases zC.mp ha with ha|ha
    ·exact n1 a ha
    ·exact F2 s1 (n2 a ha)
   ·obtain⟨o,z,_⟩:=o1.Cg a ha;rw[z];exact s2 _ _ z
def jJ {P:Addr->Prop}{fp:List Addr}{p:Addr}{H:Hp}{o:HO}(hn:H p=none)(hP:∀a,PU P fp a->Eo H a):Ae (del H (PU P fp)) (del (upd H p o) (PU P (p::fp))):=λ b u e=>by
 obtain⟨h1,h2⟩:=Ai e;have hb:b≠p:=AB h2 hn;rw[Ar λ z=>z.elim (λ z=>h1 (.inl z)) λ w=>(zr.mp w).elim hb λ w=>h1 (.inr w),Ab hb];exact h2
def Gp {fs:Aa->M (List OT)}(ha:nZ X WX es fs)(hz:es.length<=1000:=by decide):DN X WX (.List es pos) (λ ρ=>(fs ρ).bind λ ts=>.ok (.lst ts)):=by
 obtain⟨ta,a1,a2,a3⟩:=ha;refine⟨_,Sb a1,λ P0 P σ H Q ρ E h=>?_⟩;dsimp only at h;refine a2 P0 P σ H _ ρ E ?_;cases q:fs ρ with
 |bad=>rw[q] at h;exact h
 |ex y=>rw[q] at h;exact h
 |ok ts =>
  rw[q] at h;simp only[M.A7] at h;intro vs fp H1 s1 n1 f7 o1;have hP:=U7 (E.same s1).Cg o1;refine⟨yd (AG (by rw[o1.len,a3 ρ ts q];exact hz)),λ p hp=>?_⟩;have ae:∀a∈fp,a≠p:=λ a ha z=>(o1.Cg a ha).no (by rw[z];exact hp);exact h _ (p::fp) _ (s1.trans (AR hp _)) (λ a ha=>(zr.mp ha).elim (λ z=>by rw[z];exact F2 s1 hp) (n1 a)) (ym.mpr ⟨λ z=>ae p z rfl,f7⟩) (.lst Ao (o1.move (jJ hp hP) λ a ha=>Ab (ae a ha)))
def ZN {P:Addr->Prop}{fp:List Addr}{p:Addr}{H:Hp}{o:HO}(hn:H p=none)(hP:∀a,PU P fp a->Eo H a):Ae (del H (PU P fp)) (del (upd H p o) (PU P fp)):=λ b u e=>by
 obtain⟨h1,h2⟩:=Ai e;have hb:b≠p:=AB h2 hn;rw[Ar h1,Ab hb];exact h2
def SD {fs:Aa->M (List OT)}{x1}(ha:nZ X WX es fs)(hz:es.length<=1000:=by decide):DN X WX (.Tuple es x1 pos) (λ ρ=>(fs ρ).bind λ ts=>.ok (.tup ts)):=by
 obtain⟨ta,a1,a2,a3⟩:=ha;refine⟨_,WQ a1,λ P0 P σ H Q ρ E h=>?_⟩;dsimp only at h;refine a2 P0 P σ H _ ρ E ?_;cases q:fs ρ with
 |bad=>rw[q] at h;exact h
 |ex y=>rw[q] at h;exact h
 |ok ts =>
  rw[q] at h;simp only[M.A7] at h;intro vs fp H1 s1 n1 f7 o1;have hP:=U7 (E.same s1).Cg o1;refine⟨yd (AG (by rw[o1.len,a3 ρ ts q];exact hz)),λ p hp=>?_⟩;have ae:∀a∈fp,a≠p:=λ a ha z=>(o1.Cg a ha).no (by rw[z];exact hp);refine h _ fp _ (s1.trans (AR hp _)) n1 f7 (.tup ?_ (o1.move (ZN hp hP) λ a ha=>Ab (ae a ha)));rw[Ar λ z=>(hP p z).no hp];exact Ao
def Ag.ows {K:za}{H:Hp}{P:Addr->Prop}:∀ {xs:List V}{ds:List D},Ag K (del H P) xs ds->Au K H P xs (ds.map .sh) []
 |_,_,.nil=>.nil
 |_,_,.cons h t=>.cons (.sh h) t.ows
def XC.Kk {K:za}{WX:Str->Hp->Prop}{P:Addr->Prop}{H H1:Hp}{Q:VK}{xs:List V}{ds:List D}(h:XC K WX P H Q (.ok (.lst (ds.map .sh))))(s1:Ae H H1)(hx:Ag K (del H1 P) xs ds):∀p,H1 p=none->Q (.ref p) (upd H1 p (.lst xs)):=λ p hp=>by
 have hn:∀a∈[p],H1 a=none:=λ a ha=>by rw[zq.mp ha];exact hp
 exact h _ [p] _ (s1.trans (AR hp _)) (λ a ha=>F2 s1 (hn a ha)) (by simp) (.lst Ao (hx.mono (D6 (AR hp _) hn)).ows)
def Au.jK {K:za}{H:Hp}{P:Addr->Prop}:∀ {xs:List V}{ds:List D}{fp:List Addr},Au K H P xs (ds.map .sh) fp->fp=[]/\Ag K (del H P) xs ds
 |_,[],_,.nil=>⟨rfl,.nil⟩
 |_,d::ds,_,.cons (.sh h) r=>by
  obtain⟨rfl,q⟩:=Au.jK r;exact⟨rfl,.cons h q⟩
noncomputable def Le:Cl->Cl
 | .val d=>.val d
 | .own ds=>.val (.lst ds)
 | .ow (.rows Fe)=>.val (.lst (Fe.map D.lst))
 | .ow (.Ld _ ds)=>.val (.lst ds)
 | .ow (.tree _ t)=>.val (er t)
noncomputable def HN (ρ:Aa):Aa:=ρ.map λ o=>o.map Le
@[simp] theorem Jc:HN []=[]:=rfl
@[simp] theorem Hm (ρ:Aa):HN (none::ρ)=none::HN ρ:=rfl
@[simp] theorem Hn (c:Cl) (ρ:Aa):HN (some c::ρ)=some (Le c)::HN ρ:=rfl
def Ak.low {K:za}{P0:Dg}{P:Addr->Prop}{H:Hp}{σ:St}{ρ:Aa}(E:Ak K P0 P H σ ρ):Ak K P0 P0 H σ (HN ρ):=by
 have key:∀(i:Nat) (c:Cl),(HN ρ)[i]?=some (some c)->∃c',ρ[i]?=some (some c')/\c=Le c':=λ i c h=>by
  unfold HN at h;rw[zI] at h;cases q:ρ[i]? with
  |none=>rw[q] at h;cases h
  |some o =>
   rw[q] at h;cases o with
   |none=>cases h
   |some c'=>cases h;exact⟨c',rfl,rfl⟩
 have nv:∀c,Gb (Le c)=false:=λ c=>by
  cases c with
  |val d=>rfl
  |own ds=>rfl
  |ow o=>cases o<;>rfl
 have ji:∀c,O3 (Le c)=none:=λ c=>by
  cases c with
  |val d=>rfl
  |own ds=>rfl
  |ow o=>cases o<;>rfl
 have vw:∀c v fp,¬ CK K H P0 (Le c) v fp:=λ c v fp h=>by
  cases c with
  |val d=>exact h
  |own ds=>exact h
  |ow o=>cases o<;>exact h
 refine⟨λ _ h=>h,λ a h=>E.Cg a (E.sub a h),λ i d h=>?_,λ i c h io=>?_,λ i j c c' v v' fp ai hi hj si sj h h' ae=>?_,by unfold HN;rw[ze];exact E.len,λ i c n h hp=>by obtain⟨c',h1,rfl⟩:=key i _ h;rw[ji] at hp;cases hp⟩
 ·obtain⟨c,h1,h2⟩:=key i _ h;cases c with
  |val d' =>
   cases h2;obtain⟨v,q1,q2⟩:=E.val i d h1;exact⟨v,q1,q2.mono (Cv E.sub)⟩
  |own ds =>
   cases h2;obtain⟨p,xs,q1,q2,q3,q4,q5⟩:=E.own i ds h1;exact⟨_,q1,.lst (.of (show del H P0 p=_ by rw[Ar q4];exact q2)) (q5.mono (Cv E.sub))⟩
  |ow o =>
   obtain⟨v,fp,q1,q2,q3,q4⟩:=E.ows i _ h1 rfl;cases o with
   |rows Fe =>
    cases h2;obtain⟨p,ps,rfl,rfl,q5,q6⟩:=q2;exact⟨_,q1,.lst (.of (show del H P0 p=_ by rw[Ar (q3 p zc).2];exact q5)) (q6.jD E.sub λ a ha=>(q3 a (zf _ ha)).2)⟩
   |Ld p ds =>
    cases h2;obtain⟨p,xs,rfl,rfl,q5,q6⟩:=q2;exact⟨_,q1,.lst (.of (show del H P0 p=_ by rw[Ar (q3 p zc).2];exact q5)) (q6.mono (Cv E.sub))⟩
   |tree p t =>
    cases h2;exact⟨_,q1,BI.has E.sub (λ a ha=>(q3 a ha).2) q2⟩
 ·obtain⟨c',h1,rfl⟩:=key i _ h;rw[nv] at io;cases io
 ·obtain⟨c1,h1,rfl⟩:=key i _ hi;exact (vw _ _ _ h).elim
def Kl {ft:Aa->M Bool}(h:DT X WX e ft):DT X WX e (λ ρ=>ft (HN ρ)):=by
 obtain⟨t,h1,h2⟩:=h;exact⟨t,h1,λ P0 P σ H Q ρ E g=>h2 P0 P0 σ H Q (HN ρ) E.low g⟩
mutual
noncomputable def HP:OT->Bool
 | .sh d=>Kg d
 | .lst ts=>FQ ts
 | .tup ts=>FQ ts
 | .Ba _ _ ts=>FQ ts
 | .ins _ _ ts=>FQ ts
noncomputable def FQ:List OT->Bool
 |[]=>true
 |t::r=>HP t&&FQ r
end
mutual
def BI.clean {K:za}{H:Hp}{P P':Addr->Prop}(ht:∀a,P' a->Eo H a):∀ {v:V}{t:OT}{fp:List Addr},HP t=true->BI K H P v t fp->BI K H P' v t fp
 |_,_,_,n,.sh h=>.sh (h.Kg ht (by rw[HP] at n;exact n))
 |_,_,_,n,.lst h r=>.lst h (Au.clean ht (by rw[HP] at n;exact n) r)
 |_,_,_,n,.tup h r=>.tup (U5 ht h) (Au.clean ht (by rw[HP] at n;exact n) r)
 |_,_,_,n,.dK h r=>.dK h (Au.clean ht (by rw[HP] at n;exact n) r)
 |_,_,_,n,.dT h r=>.dT h (Au.clean ht (by rw[HP] at n;exact n) r)
 |_,_,_,n,.ins x h r=>.ins x h (Au.clean ht (by rw[HP] at n;exact n) r)
def Au.clean {K:za}{H:Hp}{P P':Addr->Prop}(ht:∀a,P' a->Eo H a):∀ {v:List V}{t:List OT}{fp:List Addr},FQ t=true->Au K H P v t fp->Au K H P' v t fp
 |_,_,_,_,.nil=>.nil
 |_,_,_,n,.cons h r=>by
  rw[FQ,zP] at n;exact .cons (BI.clean ht n.1 h) (Au.clean ht n.2 r)
end
noncomputable def Vv (m:M OT):M OT:=m.bind λ t=>if HP t=true then .ok t else .bad
def EF (h:DN X WX e fn):DN X WX e (λ ρ=>Vv (fn (HN ρ))):=by
 obtain⟨t,h1,h2⟩:=h;refine⟨t,h1,λ P0 P σ H Q ρ E g=>h2 P0 P0 σ H Q (HN ρ) E.low ?_⟩;unfold Vv at g;dsimp only at g;cases q:fn (HN ρ) with
 |bad=>rw[q] at g;exact g
 |ex x=>rw[q] at g;exact g
 |ok t =>
  rw[q] at g;simp only[M.A7] at g;by_cases hf:HP t=true
  ·rw[if_pos hf] at g;exact λ v fp H' s hn nd o=>g v fp H' s hn nd (o.clean (Kj (E.same s).Cg o) hf)
  ·rw[if_neg hf] at g;exact g.elim
noncomputable def Kk (d:D):M OT:=match d with
 | .lst ds=>.ok (.lst (ds.map .sh))
 | .tup ds=>.ok (.lst (ds.map .sh))
 |_=>.bad
def Jd {p:Pos}(hg:Gl X "list")(hm:X.mg "list" = none)(ha:DE X WX true e f)(hb:bootBuiltins "list" = some (.type "list"):=by decide +kernel)(aN:starEach [e] X.env=[(false,eval e X.env)]:=by rfl):
 DN X WX (.Call (.Name "list" p) [e] [] pos) (λ ρ=>(f ρ).bind Kk):=by
 obtain⟨ta,a1,a2⟩:=ha;refine⟨_,NX OW hg hm hb (Bk a1 Ci aN) (he:=aN),λ P0 P σ H Q ρ E h=>?_⟩;dsimp only at h;refine a2 P0 P σ H _ ρ E ?_;cases q:f ρ with
 |bad=>rw[q] at h;exact h
 |ex x=>rw[q] at h;exact h
 |ok d =>
  rw[q] at h;simp only[M.A7] at h;intro v H1 s1 hv;unfold Kk at h;split at h
  ·cases hv with
   |lst hs hh=>exact⟨_,_,rfl,.inl hs.B8,h.Kk s1 hh⟩
  ·cases hv with
   |tup hs hh=>exact⟨_,_,rfl,.inr (Er.of (Ai hs).2),h.Kk s1 hh⟩
  ·exact h.elim
def tN (K:za)(WX:Str->Hp->Prop)(r:R2)(aV:D->D->M OT):Prop:=
 ∀(P:Addr->Prop) (H:Hp) (x y:D) (v w:V) (Q:VK),(∀a,P a->Eo H a)->Bu K (del H P) v x->Bu K (del H P) w y->XC K WX P H Q (aV x y)->r v w H Q
def oA {ta tb:TE}{r:R2}{aV:D->D->M OT}(ha:∀P0 P σ H Q ρ,Ak X.K P0 P H σ ρ->gV X.K WX (Lv true P0 P) H Q (f ρ)->ta σ H Q)(hb:∀P0 P σ H Q ρ,Ak X.K P0 P H σ ρ->gV X.K WX (Lv true P0 P) H Q (g ρ)->tb σ H Q)
 (hr:tN X.K WX r aV) {Q:VK} (E:Ak X.K P0 P H σ ρ) (h:XC X.K WX P H Q ((f ρ).bind λ x=>(g ρ).bind λ y=>aV x y)):lD r ta tb σ H Q:=by
 refine ha P0 P σ H _ ρ E ?_;cases e:f ρ with
 |bad=>rw[e] at h;exact h
 |ex x=>rw[e] at h;exact h
 |ok x =>
  rw[e] at h;intro v H1 s1 hv;refine hb P0 P σ H1 _ ρ (E.same s1) ?_;cases e2:g ρ with
  |bad=>rw[e2] at h;exact h
  |ex y=>rw[e2] at h;exact λ H' s=>h H' (s1.trans s)
  |ok y =>
   rw[e2] at h;intro w H2 s2 hw;exact hr _ H2 x y v w Q ((E.same s1).same s2).Cg (hv.mono s2.del) hw ((h.same s1).same s2)
noncomputable def QL (x y:D):M OT:=match x,y with
 | .lst a,.lst b=>if a.length+b.length<=1000 then .ok (.lst ((a++b).map .sh)) else .bad
 |_,_=>.bad
end
noncomputable def spT (K:za)(n:Nat)(F:List D->M OT):Sp:=λ vs H Q E=>vs.length=n/\∃P ds,(∀a,P a->Eo H a)/\Ag K (del H P) vs ds/\XC K (Dh K E) P H Q (F ds)
noncomputable def oB:Cl->M OT
 | .val d=>.ok (.sh d)
 | .own ds=>.ok (.lst (ds.map .sh))
 | .ow (.rows Fe)=>.ok (.lst (Fe.map λ ds=>.lst (ds.map .sh)))
 | .ow (.Ld _ _)=>.bad
 | .ow (.tree none t)=>.ok t
 | .ow (.tree (some _) _)=>.bad
noncomputable def Vw (m:M Out):M OT:=match m with
 | .ok (.ret d)=>.ok (.sh d)
 | .ok (.Ca c)=>oB c
 | .ok (.next _)=>.ok (.sh .AD)
 | .ex x=>.ex x
 |_=>.bad
def Cw.ows {K:za}{H:Hp}{P:Addr->Prop}:∀ {ps:List Addr}{Fe:List (List D)},Cw K H P ps Fe->Au K H P (ps.map V.ref) (Fe.map λ ds=>.lst (ds.map .sh)) ps
 |_,_,.nil=>.nil
 |_,_,.cons h r t=>.cons (.lst h r.ows) t.ows
def CK.tree {K:za}{H:Hp}{P:Addr->Prop}{c:Cl}{v:V}{fp:List Addr}{t:OT}(h:CK K H P c v fp)(e:oB c=.ok t):BI K H P v t fp:=by
 cases c with
 |val d=>exact h.elim
 |own ds =>
  cases e;obtain⟨p,xs,rfl,rfl,h1,h2⟩:=h;exact .lst h1 h2.ows
 |ow o =>
  cases o with
  |rows Fe =>
   cases e;obtain⟨p,ps,rfl,rfl,h1,h2⟩:=h;exact .lst h1 h2.ows
  |Ld p ds=>cases e
  |tree p t' =>
   cases p with
   |none=>cases e;exact h
   |some q=>cases e
section
variable {P:Program}{w:World}{K:za}{mg:Str->Option Value}{base:Heap}
def ZO {WX:Str->Hp->Prop}{P P2:Addr->Prop}{H H':Hp}{Q:VK}{c:Cl}{v:V}{fp:List Addr}(h:XC K WX P H Q (oB c))(t:Tr P P H P2 H')(hs:∀a,P a->P2 a)(ho:CK K H' P2 c v fp)(hp:∀a∈fp,P2 a/\¬ P a)(nd:fp.Nodup):Q v H':=by
 cases q:oB c with
 |bad=>rw[q] at h;exact h.elim
 |ex x=>cases c with
  |val d=>cases q
  |own ds=>cases q
  |ow o =>
   cases o with
   |rows Fe=>cases q
   |Ld p ds=>cases q
   |tree p t'=>cases p<;>cases q
 |ok u =>
  rw[q] at h;have o:=ho.tree q;refine h v fp H' (Dr t) (λ a ha=>jI t (hp a ha).1 (hp a ha).2) nd (o.move (Cv λ a ha=>ha.elim (hs a) λ z=>(hp a z).1) λ _ _=>rfl)
def oC {x qual:Str}{st:Stmt}{f:Addr}{fd:FuncData}{N ps:List Str}{k:Nat}(F:Wo K x qual st f fd)(S:Ah N ps (A3 st))(g:Aa->M Out)
 (hb:∀(B4:Value) (A:Around) (outer:List Env) (s:Shared) (H:Hp) (E:XK),BD k (A.deeper (envOfC qual (A3 st) s.heap.objs.size f B4))->QD (U3 P w K mg base N qual (A3 st) f B4 A outer s H E) (Dh K E) (Az st) g):
 Df P w K mg base (Sw P w base) (k+1) f fd ps (spT K ps.length λ ds=>Vw (g (AE N ds))):=by
 obtain⟨oc,od,kV,doc,pm,an,B4,ct,Qc,rfl,lk,bh⟩:=F.ex;refine TM lk bh S (λ vs H Q E h=>h.1) λ A outer s H vs Q E hr h=>?_;obtain⟨hl,P',ds,ht,hv,hq⟩:=h;obtain⟨t,h1,h2⟩:=hb B4 A outer s H E hr;refine⟨t,h1,h2 ⟨P',λ _=>0⟩ P' _ H _ _ (O8 ht hv) ?_⟩;dsimp only at hq;revert hq;cases g (AE N ds) with
 |bad=>exact λ h=>h.elim
 |ex x=>exact λ h H' P2 t=>h H' (Dr t)
 |ok o =>
  cases o with
  |ret d=>exact λ h v H' P2 t hv=>h v [] H' (Dr t) (λ a ha=>by cases ha) yu (.sh (by rw[SA];exact hv))
  |next ρ=>exact λ h σ' H' P2 t E=>h .AD [] H' (Dr t) (λ a ha=>by cases ha) yu (.sh .AD)
  |brk ρ=>exact λ h=>h.elim
  |cont ρ=>exact λ h=>h.elim
  |Ca c=>exact λ h v fp H' P2 t hs ht ho hp nd=>ZO h t hs ho hp nd
  |Ep d ρ=>exact λ h=>h.elim
end
structure BO (P:Program)(w:World)(K:za)(mg:Str->Option Value)(base:Heap)(x:Str)(k n:Nat)(F:List D->M OT):Prop where
 ex:∃fa fd ps,Df P w K mg base (Sw P w base) k fa fd ps (spT K n F)/\mg x=some (.ref fa)/\zO K (.ref fa)=true/\Binds K fd ps []
def AF {P:Program}{w:World}{K:za}{mg:Str->Option Value}{base:Heap}{x:Str}{st:Stmt}{N ps:List Str}{k n:Nat}(T:AK K mg x st ps)(S:Ah N ps (A3 st))(g:Aa->M Out)
 (hb:∀(f:Addr) (B4:Value) (A:Around) (outer:List Env) (s:Shared) (H:Hp) (E:XK),BD k (A.deeper (envOfC x (A3 st) s.heap.objs.size f B4))->QD (U3 P w K mg base N x (A3 st) f B4 A outer s H E) (Dh K E) (Az st) g) (hn:ps.length=n:=by rfl):
 BO P w K mg base x (k+1) n (λ ds=>Vw (g (AE N ds))):=by
 obtain⟨f,fd,F,hm,hB⟩:=T.ex;subst hn;exact⟨⟨f,fd,ps,oC F S g (hb f),hm,F.kp,hB⟩⟩
section
variable {X:Cx}{E:XK}{WX:Str->Hp->Prop}{c:Bool}{e:Expr}{es:List Expr}{fs:Aa->M (List D)}{f:Aa->M D}{fn:Aa->M OT}{ft:Aa->M Bool}{pos:Pos}
def Ac {k n:Nat}{F:List D->M OT}{x:Str}{p:Pos}(xo:XCall X E)(G:BO X.prog X.w X.K X.mg X.base x k n F)(hr:BD k X.A)(hg:Gl X x)(ha:DA X (Dh X.K E) true (e::es) fs)(hn:(e::es).length=n)
 (aS:(x==("__debug__" : Str))=false:=by decide) (he:starEach (e::es) X.env=(false,eval e X.env)::starEach es X.env:=by rfl) (hpl:(backTo pos (starEach es X.env)).any (·.1)=false:=by rfl):
 DN X (Dh X.K E) (.Call (.Name x p) (e::es) [] pos) (λ ρ=>(fs ρ).bind F):=by
 obtain⟨fa,fd,ps,hF,hm,hk,hb⟩:=G.ex;obtain⟨ta,a1,a2,a3⟩:=ha;refine⟨_,TK hF hr hg hm hk hb .nil xo.call a1 aS he hpl,λ P0 P σ H Q ρ E h=>?_⟩;dsimp only at h;refine a2 P0 P σ H _ ρ E ?_;cases q:fs ρ with
 |bad=>rw[q] at h;exact h
 |ex x=>rw[q] at h;exact h
 |ok ds =>
  rw[q] at h;simp only[M.A7] at h;intro vs H1 s1 aW;rw[zX];exact⟨by rw[aW.length,a3 ρ ds q];exact hn,P,ds,(E.same s1).Cg,aW,h.same s1⟩
def BK (h:DN X WX e fn):DN X (λ _ _=>False) e fn:=by
 obtain⟨t,h1,h2⟩:=h;refine⟨t,h1,λ P0 P σ H Q ρ E g=>h2 P0 P σ H Q ρ E ?_⟩;cases q:fn ρ with
 |bad=>rw[q] at g;exact g
 |ex x=>rw[q] at g;exact (g H (Ae.refl H)).elim
 |ok t=>rw[q] at g;exact g
noncomputable def Vx (t:OT):M Out:=match t with
 | .sh d=>.ok (.ret d)
 |t=>.ok (.Ca (.ow (.tree none t)))
end
section
variable {X:Cx}{WX:Str->Hp->Prop}{c:Bool}{P0:Dg}{P:Addr->Prop}{H:Hp}{σ:St}{ρ:Aa}{a b e:Expr}{f g:Aa->M D}{fn:Aa->M OT}{pos:Pos}
def Ak.qB {K:za}{H':Hp}{fp:List Addr}(E:Ak K P0 P H σ ρ)(s:Ae H H')(hn:∀a∈fp,H a=none):Tr P0 P H (PU P fp) H':=
 ⟨D6 s hn,λ a ha=>by obtain⟨o,q,_⟩:=E.Cg a (E.sub a ha);rw[q];exact s _ _ q⟩
def Aj (ha:DN X WX e fn):DS X WX (.Return (some e) pos) (λ ρ=>(fn ρ).bind Vx):=by
 obtain⟨ta,a1,a2⟩:=ha;refine⟨_,S2 a1,λ P0 P σ H Z ρ E h=>?_⟩;dsimp only at h;refine a2 P0 P σ H _ ρ E ?_;cases q:fn ρ with
 |bad=>rw[q] at h;exact h
 |ex x=>rw[q] at h;exact λ H' s=>h H' P (E.tr s)
 |ok t =>
  rw[q] at h;simp only[M.A7] at h;intro v fp H' s hn nd o;have key:gS X.K WX P0 P H Z (.ok (.Ca (.ow (.tree none t))))->Z.rt v H':=λ h =>
   h v fp H' (PU P fp) (E.qB s hn) (λ a ha=>.inl (E.sub a ha)) (Kj (E.same s).Cg o) o (λ a ha=>⟨.inr ha,λ z=>(E.Cg a (E.sub a z)).no (hn a ha)⟩) nd
  cases t with
  |sh d =>
   cases o with
   |sh hv=>exact h v H' P (E.tr s) (hv.mono (Cv λ a ha=>.inl (E.sub a ha)))
  |lst ts=>exact key h
  |tup ts=>exact key h
  |Ba b ks ts=>exact key h
  |ins x ns ts=>exact key h
noncomputable def DY:List OT->Option (List D)
 |[]=>some []
 | .sh d::r=>(DY r).map (d::·)
 |_::_=>none
def Cr:∀ds:List D,DY (ds.map .sh)=some ds
 |[]=>rfl
 |d::r=>by rw[zg,DY,Cr r];rfl
def CV:∀ {ts:List OT}{ds:List D},DY ts=some ds->ts=ds.map .sh
 |[],ds,h=>by cases h;rfl
 | .sh d::r,ds,h=>by
  rw[DY] at h;cases q:DY r with
  |none=>rw[q] at h;cases h
  |some es=>rw[q] at h;cases h;rw[zg,<-CV q]
 | .lst _::r,ds,h=>by cases h
 | .tup _::r,ds,h=>by cases h
 | .Ba _ _ _::r,ds,h=>by cases h
 | .ins _ _ _::r,ds,h=>by cases h
noncomputable def toCl (p:Option Nat)(t:OT):Cl:=match t with
 | .lst ts=>(match DY ts with
  |some ds=>(match p with|none=>.own ds|some q=>.ow (.Ld q ds))
  |none=>.ow (.tree p (.lst ts)))
 |t=>.ow (.tree p t)
@[simp] theorem toCl_list (ds:List D):toCl none (.lst (ds.map .sh))=.own ds:=by unfold toCl;simp only[Cr]
@[simp] theorem toCl_listP (q:Nat) (ds:List D):toCl (some q) (.lst (ds.map .sh))=.ow (.Ld q ds):=by unfold toCl;simp only[Cr]
@[simp] theorem toCl_dct (p:Option Nat) (b:Bool) (ks:List D) (ts:List OT):toCl p (.Ba b ks ts)=.ow (.tree p (.Ba b ks ts)):=rfl
noncomputable def treeOf:Cl->Option (Option Nat×OT)
 | .own ds=>some (none,.lst (ds.map .sh))
 | .ow (.Ld p ds)=>some (some p,.lst (ds.map .sh))
 | .ow (.rows Fe)=>some (none,.lst (Fe.map λ ds=>.lst (ds.map .sh)))
 | .ow (.tree p t)=>some (p,t)
 | .val _=>none
def CK.toT {K:za}{H:Hp}{P:Addr->Prop}{c:Cl}{v:V}{fp:List Addr}{p:Option Nat}{t:OT}(h:CK K H P c v fp)(e:treeOf c=some (p,t)):BI K H P v t fp:=by
 cases c with
 |val d=>exact h.elim
 |own ds =>
  cases e;obtain⟨p,xs,rfl,rfl,h1,h2⟩:=h;exact .lst h1 h2.ows
 |ow o =>
  cases o with
  |rows Fe =>
   cases e;obtain⟨p,ps,rfl,rfl,h1,h2⟩:=h;exact .lst h1 h2.ows
  |Ld p ds =>
   cases e;obtain⟨p,xs,rfl,rfl,h1,h2⟩:=h;exact .lst h1 h2.ows
  |tree p t'=>cases e;exact h
def CK.toCl {K:za}{H:Hp}{P:Addr->Prop}{v:V}{fp:List Addr}{p:Option Nat}{t:OT}(h:BI K H P v t fp):CK K H P (toCl p t) v fp:=by
 unfold L2.toCl;split
 ·rename_i ts;cases q:DY ts with
  |none=>exact h
  |some ds =>
   have e:=CV q;subst e;cases h with
   |lst h1 h2 =>
    obtain⟨rfl,h3⟩:=h2.jK;cases p with
    |none=>exact⟨_,_,rfl,rfl,h1,h3⟩
    |some q=>exact⟨_,_,rfl,rfl,h1,h3⟩
 ·exact h
def Il (p:Option Nat)(t:OT):O3 (toCl p t)=p:=by
 unfold toCl;split
 ·rename_i ts;cases q:DY ts with
  |none=>cases p<;>rfl
  |some ds=>cases p<;>rfl
 ·cases p<;>rfl
def Im {c:Cl}{p:Option Nat}{t:OT}(h:treeOf c=some (p,t)):O3 c=p:=by
 cases c with
 |val d=>cases h
 |own ds=>cases h;rfl
 |ow o =>
  cases o with
  |rows Fe=>cases h;rfl
  |Ld p ds=>cases h;rfl
  |tree p t=>cases h;cases p<;>rfl
noncomputable def SE (i:Nat)(ρ:Aa)(t:OT):M Out:=match t with
 | .sh d=>.ok (.next (ρ.set i (some (.val d))))
 |t=>.ok (.next (ρ.set i (some (toCl none t))))
def oE {K:za}{i:Nat}{t:OT}{v:V}{fp:List Addr}{H':Hp}{Z:Ends}(E:Ak K P0 P H σ ρ)(s:Ae H H')(hn:∀a∈fp,H a=none)(nd:fp.Nodup)(o:BI K H' (PU P fp) v t fp)(h:gS K WX P0 P H Z (SE i ρ t)):Z.nx (σ.set i (some v)) H':=by
 have key:gS K WX P0 P H Z (.ok (.next (ρ.set i (some (toCl none t)))))->Z.nx (σ.set i (some v)) H':=λ h=>by
  refine h _ H' (PU P fp) (E.qB s hn) (E.jC Ki (Kj (E.same s).Cg o) (D6 s hn) (λ j c' v' ai ae g1 g2 g3 a ha=>?_) (CK.toCl o) (λ a ha=>⟨.inr ha,λ z=>(E.Cg a (E.sub a z)).no (hn a ha)⟩) nd (λ n z=>by rw[Il] at z;cases z));obtain⟨xs,z⟩:=g3.at a ha;exact⟨by rw[z];exact s _ _ z,λ w=>by rw[hn a w] at z;cases z⟩
 cases t with
 |sh d =>
  cases o with
  |sh hv=>exact h _ H' P (E.tr s) ((E.same s).Vi (by rw[SA] at hv;exact hv))
 |lst ts=>exact key h
 |tup ts=>exact key h
 |Ba b ks ts=>exact key h
 |ins x ns ts=>exact key h
def BP (i:Nat){x:Str}{pos':Pos}(hN:X.N.Nodup)(hi:X.N[i]?=some x)(hx:Loc X.env.scope x)(ha:DN X WX e fn)(hs:swapsWith e (some (.Name x pos')) pos.line X.env=pure false:=by rfl)(hf:X.fn x=true\/X.env.scope.names.lookup x=some .local:=by first | exact .inl rfl | exact .inr rfl | assumption):
 DS X WX (.Assign [.Name x pos'] e pos) (λ ρ=>(fn ρ).bind (SE i ρ)):=by
 obtain⟨ta,a1,a2⟩:=ha;refine⟨_,WD hN hi hx a1 hs hf,λ P0 P σ H Z ρ E h=>?_⟩;dsimp only at h;refine a2 P0 P σ H _ ρ E ?_;cases q:fn ρ with
 |bad=>rw[q] at h;exact h
 |ex x=>rw[q] at h;exact λ H' s=>h H' P (E.tr s)
 |ok t =>
  rw[q] at h;exact λ v fp H' s hn nd o=>oE E s hn nd o h
noncomputable def SF (i:Nat)(ρ:Aa):M Out:=match ρ[i]? with
 |some (some (.val d))=>.ok (.ret d)
 |some (some c)=>.ok (.Ca c)
 |_=>.bad
def D7 (i:Nat){x:Str}{p1:Pos}(hv:PE X (.Name x p1) (Qh i)):DS X WX (.Return (some (.Name x p1)) pos) (SF i):=by
 refine⟨_,S2 hv,λ P0 P σ H Z ρ E h=>?_⟩;unfold SF at h;split at h
 ·rename_i d e1;obtain⟨v,h1,h2⟩:=E.val i d e1;exact⟨v,h1,h v H P Tr.refl (h2.mono (Cv E.sub))⟩
 ·rename_i c hc e1;have io:Gb c=true:=by
   cases c with
   |val d=>exact (hc d rfl).elim
   |own ds=>rfl
   |ow o=>rfl
  obtain⟨v,fp,h1,h2,h3,h4⟩:=E.ows i _ e1 io;exact⟨v,h1,h v fp H P Tr.refl E.sub E.Cg h2 h3 h4⟩
 ·exact h.elim
def Pe:∀ds:List D,Qx (ds.map .sh)=ds
 |[]=>rfl
 |d::r=>by rw[zg,Qx,er,Pe r]
noncomputable def XD (i:Nat)(ρ:Aa):Aa:=match ρ[i]? with
 |some (some c)=>ρ.set i (some (Le c))
 |_=>ρ
end
section
variable {K:za}{H H':Hp}{P P':Addr->Prop}
def Cc.same {v:V}{t:OT}{q:List Addr}{xs:List V}(e:Ae H H')(h:Cc K H P v t q xs):Cc K H' P v t q xs:=by
 cases t with
 |sh d=>exact h.elim
 |lst ts=>obtain⟨p,rfl,rfl,h⟩:=h;exact⟨p,rfl,rfl,e _ _ h⟩
 |tup ts=>obtain⟨p,rfl,rfl,h⟩:=h;exact⟨p,rfl,rfl,e.del _ _ h⟩
 |Ba b ks ts =>
  cases b with
  |false=>obtain⟨p,kvs,rfl,rfl,h,rfl,rfl⟩:=h;exact⟨p,kvs,rfl,rfl,e _ _ h,rfl,rfl⟩
  |true=>obtain⟨p,kvs,rfl,rfl,h,rfl,rfl⟩:=h;exact⟨p,kvs,rfl,rfl,e _ _ h,rfl,rfl⟩
 |ins x ns ts=>obtain⟨p,C,dx,fs,rfl,rfl,n,h,rfl,rfl⟩:=h;exact⟨p,C,dx,fs,rfl,rfl,n,e _ _ h,rfl,rfl⟩
def Gn.same {v v1:V}{t t1:OT}{π:List Nat}(e:Ae H H')(h:Gn K H P v t π v1 t1):Gn K H' P v t π v1 t1:=by
 induction h with
 |nil=>exact .nil
 |cons n hx hs _ ih=>exact .cons (n.same e) hx hs ih
def Cc.more {v:V}{t:OT}{q:List Addr}{xs:List V}(sm:Ae (del H P) (del H' P'))(e:Ae H H')(h:Cc K H P v t q xs):Cc K H' P' v t q xs:=by
 cases t with
 |sh d=>exact h.elim
 |lst ts=>obtain⟨p,rfl,rfl,h⟩:=h;exact⟨p,rfl,rfl,e _ _ h⟩
 |tup ts=>obtain⟨p,rfl,rfl,h⟩:=h;exact⟨p,rfl,rfl,sm _ _ h⟩
 |Ba b ks ts =>
  cases b with
  |false=>obtain⟨p,kvs,rfl,rfl,h,rfl,rfl⟩:=h;exact⟨p,kvs,rfl,rfl,e _ _ h,rfl,rfl⟩
  |true=>obtain⟨p,kvs,rfl,rfl,h,rfl,rfl⟩:=h;exact⟨p,kvs,rfl,rfl,e _ _ h,rfl,rfl⟩
 |ins x ns ts=>obtain⟨p,C,dx,fs,rfl,rfl,n,h,rfl,rfl⟩:=h;exact⟨p,C,dx,fs,rfl,rfl,n,e _ _ h,rfl,rfl⟩
def Gn.more {v v1:V}{t t1:OT}{π:List Nat}(sm:Ae (del H P) (del H' P'))(e:Ae H H')(h:Gn K H P v t π v1 t1):Gn K H' P' v t π v1 t1:=by
 induction h with
 |nil=>exact .nil
 |cons n hx hs _ ih=>exact .cons (n.more sm e) hx hs ih
end
noncomputable def SG (i:Nat)(ρ:Aa)(π:List Nat):Option OT:=match ρ[i]? with
 |some (some c)=>(match treeOf c with|some (_,t)=>Kh t π|none=>none)
 |_=>none
structure Bb (K:za)(P:Addr->Prop)(H:Hp)(σ:St)(ρ:Aa)(i:Nat)(π:List Nat)(v:V)(t1:OT):Prop where
 ex:∃v0 c p t,ρ[i]?=some (some c)/\treeOf c=some (p,t)/\σ[i]?=some (some v0)/\Gn K H P v0 t π v t1
def Bb.at {K:za}{P:Addr->Prop}{H:Hp}{σ:St}{ρ:Aa}{i:Nat}{π:List Nat}{v:V}{t1:OT}(h:Bb K P H σ ρ i π v t1):SG i ρ π=some t1:=by
 obtain⟨v0,c,p,t,h1,h2,h3,h4⟩:=h.ex;unfold SG;simp only[h1,h2];exact h4.sub
def Bb.same {K:za}{P:Addr->Prop}{H H':Hp}{σ:St}{ρ:Aa}{i:Nat}{π:List Nat}{v:V}{t1:OT}(e:Ae H H')(h:Bb K P H σ ρ i π v t1):Bb K P H' σ ρ i π v t1:=by
 obtain⟨v0,c,p,t,h1,h2,h3,h4⟩:=h.ex;exact⟨v0,c,p,t,h1,h2,h3,h4.same e⟩
def Bb.more {K:za}{P P':Addr->Prop}{H H':Hp}{σ:St}{ρ:Aa}{i:Nat}{π:List Nat}{v:V}{t1:OT}(sm:Ae (del H P) (del H' P'))(e:Ae H H')(h:Bb K P H σ ρ i π v t1):Bb K P' H' σ ρ i π v t1:=by
 obtain⟨v0,c,p,t,h1,h2,h3,h4⟩:=h.ex;exact⟨v0,c,p,t,h1,h2,h3,h4.more sm e⟩
def Bb.own {K:za}{P0:Dg}{P:Addr->Prop}{H:Hp}{σ:St}{ρ:Aa}{i:Nat}{π:List Nat}{v:V}{t1:OT}(h:Bb K P H σ ρ i π v t1)(E:Ak K P0 P H σ ρ):∃az,BI K H P v t1 az/\(∀a∈az,P a/\¬ P0 a)/\az.Nodup:=by
 obtain⟨v0,c,p,t,h1,h2,h3,h4⟩:=h.ex;have io:Gb c=true:=by cases c<;>first|rfl|cases h2
 obtain⟨w,fp,k1,k2,k3,k4⟩:=E.ows i c h1 io;rw[h3] at k1;cases k1;obtain⟨az,o1,hk,kn⟩:=(k2.toT h2).part h4;exact⟨az,o1,λ a ha=>k3 a (hk a ha),kn k4⟩
def gP (K:za)(WX:Str->Hp->Prop)(P:Addr->Prop)(H:Hp)(σ:St)(ρ:Aa)(i:Nat)(Q:VK):M (List Nat)->Prop
 | .ok π=>∀v t1 H',Ae H H'->Bb K P H' σ ρ i π v t1->Q v H'
 | .ex x=>∀H',Ae H H'->WX x H'
 | .bad=>False
def DP (X:Cx)(WX:Str->Hp->Prop)(e:Expr)(i:Nat)(f:Aa->M (List Nat)):Prop:=
 ∃t,PE X e t/\∀P0 P σ H Q ρ,Ak X.K P0 P H σ ρ->gP X.K WX P H σ ρ i Q (f ρ)->t σ H Q
section
variable {X:Cx}{WX:Str->Hp->Prop}{c:Bool}{P0:Dg}{P:Addr->Prop}{H:Hp}{σ:St}{ρ:Aa}{a b e:Expr}{f g:Aa->M D}{fn:Aa->M OT}{fp:Aa->M (List Nat)}{pos:Pos}{i:Nat}
noncomputable def QM (i:Nat)(ρ:Aa):M (List Nat):=match SG i ρ [] with | some _=>.ok [] | none=>.bad
def Bc (i:Nat){x:Str}{p1:Pos}(hv:PE X (.Name x p1) (Qh i)):DP X WX (.Name x p1) i (QM i):=by
 refine⟨_,hv,λ P0 P σ H Q ρ E h=>?_⟩;unfold QM at h;split at h
 ·rename_i t e;unfold SG at e;split at e
  ·rename_i cl e1;split at e
   ·rename_i p t0 e2;have io:Gb cl=true:=by cases cl<;>first|rfl|cases e2
    obtain⟨v,fp,h1,h2,h3,h4⟩:=E.ows i cl e1 io;exact⟨v,h1,h v t0 H (Ae.refl H) ⟨v,cl,p,t0,e1,e2,h1,.nil⟩⟩
   ·cases e
  ·cases e
 ·exact h.elim
noncomputable def ZP (i:Nat)(ρ:Aa)(π:List Nat)(d:D):M (List Nat):=match SG i ρ π,d with
 |some (.lst ts),.int j=>(match TN ts.length j with|some k=>.ok (π++[k])|none=>.bad)
 |some (.tup ts),.int j=>(match TN ts.length j with|some k=>.ok (π++[k])|none=>.bad)
 |_,_=>.bad
def U8 (ha:DP X WX a i fp)(hb:DE X WX true b g)(hs:Ln b:=by exact λ _ _=>rfl):DP X WX (.Subscript a b pos) i (λ ρ=>(fp ρ).bind λ π=>(g ρ).bind (ZP i ρ π)):=by
 obtain⟨ta,a1,a2⟩:=ha;obtain⟨tb,b1,b2⟩:=hb;refine⟨_,fA (TU.or WZ) a1 b1 hs,λ P0 P σ H Q ρ E h=>?_⟩;dsimp only at h;refine a2 P0 P σ H _ ρ E ?_;cases q:fp ρ with
 |bad=>rw[q] at h;exact h
 |ex x=>rw[q] at h;exact h
 |ok π =>
  rw[q] at h;simp only[M.A7] at h;intro v t1 H1 s1 pl;refine b2 P0 P σ H1 _ ρ (E.same s1) ?_;cases q2:g ρ with
  |bad=>rw[q2] at h;exact h
  |ex y=>rw[q2] at h;exact λ H' s=>h H' (s1.trans s)
  |ok d =>
   rw[q2] at h;simp only[M.A7] at h;intro w H2 s2 hw;have E2:=(E.same s1).same s2;have bM:=pl.same s2;obtain⟨az,o1,_⟩:=bM.own E2;unfold ZP at h;rw[bM.at] at h;obtain⟨v0,c,p,t,k1,k2,k3,k4⟩:=bM.ex;split at h
   ·rename_i ts j e;cases e;split at h
    ·rename_i k hk;cases o1 with
     |lst hh hr =>
      have hx:∃s,ts[k]?=some s:=⟨_,zj (Xz hk)⟩;obtain⟨s,hs⟩:=hx;obtain⟨x,hx⟩:=hr.tM hs;refine .inl ⟨_,_,j,x,rfl,hw.int_inv,.of hh,?_,h x s H2 (s1.trans s2) ⟨v0,c,p,t,k1,k2,k3,k4.snoc (q:=[_]) (xs:=_) ⟨_,rfl,rfl,hh⟩ hx hs⟩⟩;unfold RZ;rw[hr.len,hk];exact hx
    ·exact h.elim
   ·rename_i ts j e;cases e;split at h
    ·rename_i k hk;cases o1 with
     |tup hh hr =>
      have hx:∃s,ts[k]?=some s:=⟨_,zj (Xz hk)⟩;obtain⟨s,hs⟩:=hx;obtain⟨x,hx⟩:=hr.tM hs;refine .inr ⟨_,_,j,x,rfl,hw.int_inv,.of (Ai hh).2,?_,h x s H2 (s1.trans s2) ⟨v0,c,p,t,k1,k2,k3,k4.snoc (q:=[]) (xs:=_) ⟨_,rfl,rfl,hh⟩ hx hs⟩⟩;unfold RZ;rw[hr.len,hk];exact hx
    ·exact h.elim
   ·exact h.elim
noncomputable def rY (i:Nat)(ρ:Aa)(π:List Nat):M D:=match SG i ρ π with
 |some (.sh d)=>.ok d
 |_=>.bad
def Ak.oF {K:za}{P':Addr->Prop}{H':Hp}{π:List Nat}{v1:V}{t1 u:OT}{az fu:List Addr}(E:Ak K P0 P H σ ρ)(pl:Bb K P H σ ρ i π v1 t1)(o:BI K H P v1 t1 az)(hs:∀a,P a->P' a)(ht:∀a,P' a->Eo H' a)(sm:Ae (del H P) (del H' P'))(keep:∀a,P a->a∉az->H' a=H a)
 (o':BI K H' P' v1 u fu) (nd:fu.Nodup) (hf:∀a∈fu,a∈az\/(P' a/\¬ P0 a/\∀(j:Nat) c v fp,ρ[j]?=some (some c)->σ[j]?=some (some v)->CK K H P c v fp->a∉fp)):
 ∃c p t,ρ[i]?=some (some c)/\treeOf c=some (p,t)/\Ak K P0 P' H' σ (ρ.set i (some (toCl p (EE t π u))))/\Tr P0 P H P' H':=by
 obtain⟨v0,c,p,t,h1,h2,h3,h4⟩:=pl.ex;have io:Gb c=true:=by cases c<;>first|rfl|cases h2
 obtain⟨w,fp,k1,k2,k3,k4⟩:=E.ows i c h1 io;rw[h3] at k1;cases k1;have ot:=k2.toT h2;obtain⟨fz,oz,kz,_⟩:=ot.part h4;have:=oz.C8 o;subst this;obtain⟨ai,q1,q2,q3⟩:=ot.put sm h4 o o' (λ a ha hn=>keep a (k3 a ha).1 hn) k4 nd (λ a ha hb=>(hf a ha).elim id λ z=>(z.2.2 i c v0 fp h1 h3 k2 hb).elim);refine⟨c,p,t,h1,h2,?_,sm,λ a ha=>keep a (E.sub a ha) λ z=>(k3 a (kz a z)).2 ha⟩;have key:=E.jC (P':=P') (H':=H') (i:=i) (v:=v0) (c:=toCl p (EE t π u)) (fp:=ai) hs ht sm (λ j c' v' fq ae g1 g2 g3 a ha=>?_) (CK.toCl q1) (λ a ha=>?_) q2 (λ n z=>by rw[Il] at z;subst z;have:=E.pin i c n h1 (Im h2);rw[h3] at this;cases this;rfl)
 ·rw[P7 h3] at key;exact key
 ·have ny:a∉fp:=E.apart j i c' c v' v0 fq fp g1 h1 g2 h3 g3 k2 (yb ae) a ha;have jj:Gb c'=true:=by cases c'<;>first|rfl|exact g3.elim
  obtain⟨w',fr,m1,m2,m3,m4⟩:=E.ows j c' g1 jj;rw[g2] at m1;cases m1;have:=m2.C8 g3;subst this;refine⟨keep a (m3 a ha).1 λ z=>ny (kz a z),λ z=>?_⟩;rcases q3 a z with y|y
  ·rcases hf a y with x|x
   ·exact ny (kz a x)
   ·exact x.2.2 j c' v' fr g1 g2 g3 ha
  ·exact ny y.1
 ·rcases q3 a ha with y|y
  ·rcases hf a y with x|x
   ·exact⟨hs a (k3 a (kz a x)).1,(k3 a (kz a x)).2⟩
   ·exact⟨x.1,x.2.1⟩
  ·exact⟨hs a (k3 a y.1).1,(k3 a y.1).2⟩
def Ak.oG {K:za}{π:List Nat}{l:Addr}{xs ys:List V}{ts us:List OT}{fq fu:List Addr}(E:Ak K P0 P H σ ρ)(pl:Bb K P H σ ρ i π (.ref l) (.lst ts))(hH:H l=some (.lst xs))(o:Au K H P xs ts fq)(o':Au K H P ys us fu)(nd:fu.Nodup)(hl:l∉fu)
 (hf:∀a∈fu,a∈fq\/(P a/\¬ P0 a/\∀(j:Nat) c v fp,ρ[j]?=some (some c)->σ[j]?=some (some v)->CK K H P c v fp->a∉fp)):
 ∃c p t,ρ[i]?=some (some c)/\treeOf c=some (p,t)/\Ak K P0 P (upd H l (.lst ys)) σ (ρ.set i (some (toCl p (EE t π (.lst us)))))/\Tr P0 P H P (upd H l (.lst ys)):=by
 have ot:BI K H P (.ref l) (.lst ts) (l::fq):=.lst hH o;obtain⟨az,o1,hp,_⟩:=pl.own E;have:=o1.C8 ot;subst this;have pP:P l:=(hp l zc).1;have sd:del (upd H l (.lst ys)) P=del H P:=by
  funext b;by_cases hb:P b
  ·rw[Ff hb,Ff hb]
  ·rw[Ar hb,Ar hb,Ab (λ z=>hb (by rw[z];exact pP))]
 have sm:Ae (del H P) (del (upd H l (.lst ys)) P):=by rw[sd];exact Ae.refl _
 refine E.oF pl ot (λ _ h=>h) (λ a h=>?_) sm (λ a ha hn=>Ab λ z=>hn (by rw[z];exact zc)) (.lst Ao (o'.move sm λ a ha=>Ab λ z=>hl (by rw[<-z];exact ha))) (ym.mpr ⟨hl,nd⟩) (λ a ha=>?_)
 ·by_cases ha:a=l
  ·subst ha;exact Eo.lst Ao
  ·unfold Eo;rw[Ab ha];exact E.Cg a h
 ·rcases zr.mp ha with z|z
  ·exact .inl (by rw[z];exact zc)
  ·rcases hf a z with y|y
   ·exact .inl (zf _ y)
   ·exact .inr y
end
noncomputable def kd:D->Option Key
 | .int i=>some (.inl i)
 | .str x=>some (.inr x)
 |_=>none
noncomputable def lJ:List D->Option (List Key)
 |[]=>some []
 |d::r=>match kd d,lJ r with|some k,some ks=>some (k::ks)|_,_=>none
def fH {d:D}{k:Key}(h:kd d=some k):d=CT k:=by
 cases d<;>simp[kd] at h<;>subst h<;>rfl
def XE:∀ {ds:List D}{ks:List Key},lJ ds=some ks->ds=ks.map CT
 |[],ks,h=>by cases h;rfl
 |d::r,ks,h=>by
  rw[lJ] at h;cases q:kd d with
  |none=>rw[q] at h;cases h
  |some k =>
   cases q2:lJ r with
   |none=>rw[q,q2] at h;cases h
   |some vx =>
    rw[q,q2] at h;cases h;rw[zg,<-fH q,<-XE q2]
inductive ZQ:Bool->D->Prop
 |k (κ:Key):ZQ false (CT κ)
 |t (κ:List Key):ZQ true (.tup (κ.map CT))
noncomputable def keyOk (b:Bool)(d:D):Bool:=match b,d with
 |false,d=>(kd d).isSome
 |true,.tup ds=>(lJ ds).isSome
 |_,_=>false
def F3 {b:Bool}{d:D}(h:keyOk b d=true):ZQ b d:=by
 cases b with
 |false =>
  obtain⟨k,hk⟩:=xi.mp (show (kd d).isSome=true from h);rw[fH hk];exact .k k
 |true =>
  cases d with
  |tup ds =>
   obtain⟨k,hk⟩:=xi.mp (show (lJ ds).isSome=true from h);rw[XE hk];exact .t k
  |_=>cases h
def Mv (a b:Key):As (CT a) (CT b)=decide (a=b):=by
 cases a with
 |inl i =>
  cases b with
  |inl j=>simp only[CT,As];rw[yK];simp
  |inr y=>simp[CT,As]
 |inr x =>
  cases b with
  |inl j=>simp[CT,As]
  |inr y=>simp only[CT,As];rw[yK];simp
def Ly:∀a b:List Key,C7 (a.map CT) (b.map CT)=decide (a=b)
 |[],[]=>by simp[C7]
 |[],_::_=>by simp[C7]
 |_::_,[]=>by simp[C7]
 |a::r,b::t=>by
  rw[zg,zg,C7,Mv,Ly r t,yK];simp
noncomputable def G1 {α:Type}:List D->List α->D->Option α
 |k::ks,v::vs,y=>if As k y=true then some v else G1 ks vs y
 |_,_,_=>none
noncomputable def Io {α:Type}:List D->List α->D->α->List α
 |k::ks,v::vs,y,z=>(if As k y=true then z else v)::Io ks vs y z
 |_,vs,_,_=>vs
noncomputable def Lf (ks:List D)(y:D):Bool:=ks.any λ k=>As k y
section
variable {κ:Type} [DecidableEq κ] {fk:κ->D}(hf:∀a b,As (fk a) (fk b)=decide (a=b))
include hf
theorem Mw {α:Type}:∀(kvs:List (κ×α)) (k:κ),G1 (kvs.map λ kv=>fk kv.1) (kvs.map yp) (fk k)=(kvs.find? λ kv=>decide (kv.1=k)).map (·.2)
 |[],k=>rfl
 |p::r,k=>by
  rw[zg,zg,G1,hf,yQ];by_cases e:p.1=k
  ·rw[decide_eq_true e];rfl
  ·rw[decide_eq_false e];simp only[zB,if_false];exact Mw r k
theorem Mx {α:Type}(kvs:List (κ×α))(k:κ):Lf (kvs.map λ kv=>fk kv.1) (fk k)=kvs.any λ kv=>decide (kv.1=k):=by
 unfold Lf;rw[List.any_map];congr 1;funext kv;exact hf _ _
theorem Je (k:κ)(v:V):∀(kvs:List (κ×V)),Io (kvs.map λ kv=>fk kv.1) (kvs.map yp) (fk k) v=(kvs.map λ kv=>if kv.1=k then (kv.1,v) else kv).map yp
 |[]=>rfl
 |p::r=>by
  rw[zg,zg,Io,hf,zg,zg,Je k v r];by_cases e:p.1=k
  ·rw[decide_eq_true e,if_pos e];rfl
  ·rw[decide_eq_false e,if_neg e];rfl
theorem Jf (k:κ)(v:V):∀(kvs:List (κ×V)),(kvs.map λ kv=>if kv.1=k then (kv.1,v) else kv).map (λ kv=>fk kv.1)=kvs.map λ kv=>fk kv.1
 |[]=>rfl
 |p::r=>by
  rw[zg,zg,zg,Jf k v r];by_cases e:p.1=k
  ·rw[if_pos e]
  ·rw[if_neg e]
end
def My {K:za}{H:Hp}:∀ {ks:List D}{xs:List V}{ds:List D}{y d:D},Ag K H xs ds->G1 ks ds y=some d->∃x,G1 ks xs y=some x/\Bu K H x d
 |[],_,_,_,_,_,e=>by simp[G1] at e
 |_::_,_,_,_,_,.nil,e=>by simp[G1] at e
 |k::ks,_,_,y,d,.cons h t,e=>by
  rw[G1] at e ⊢;by_cases q:As k y=true
  ·rw[if_pos q] at e ⊢;cases e;exact⟨_,rfl,h⟩
  ·rw[if_neg q] at e ⊢;exact My t e
def Ho {α:Type}:∀ {ks:List D}{xs:List α}{y:D},xs.length=ks.length->Lf ks y=(G1 ks xs y).isSome
 |[],[],y,_=>rfl
 |k::ks,x::xs,y,h=>by
  unfold Lf;rw[yV,G1];cases q:As k y with
  |true=>rfl
  |false =>
   simp only[Bool.false_or,zB,if_false];exact Ho (by simpa using h)
 |[],_::_,_,h=>by cases h
 |_::_,[],_,h=>by cases h
def Jg {K:za}{H:Hp}{P:Addr->Prop}{y d:D}{v:V}(hv:Bu K (del H P) v d):∀ {ks:List D}{xs:List V}{ds:List D},Ag K (del H P) xs ds->Ag K (del H P) (Io ks xs y v) (Io ks ds y d)
 |[],_,_,h=>by simp only[Io];exact h
 |_::_,_,_,.nil=>by simp only[Io];exact .nil
 |k::ks,_,_,.cons h t=>by
  rw[Io,Io];refine .cons ?_ (Jg hv t);by_cases q:As k y=true
  ·rw[if_pos q,if_pos q];exact hv
  ·rw[if_neg q,if_neg q];exact h
section
variable {K:za}{H:Hp}{P:Addr->Prop}
def Ag.keys:∀ {xs:List V}(κ:List Key),Ag K H xs (κ.map CT)->xs=κ.map kV
 |_,[],.nil=>rfl
 |_,k::r,.cons h t=>by
  rw[zg,<-Ag.keys r t];congr 1;cases k with
  |inl i=>exact h.int_inv
  |inr x=>cases h;rfl
def Bu.jL {y:V}{κ:Key}(h:Bu K H y (CT κ)):y=kV κ:=by
 cases κ with
 |inl i=>exact h.int_inv
 |inr x=>cases h;rfl
def Pf {v y:V}{b:Bool}{ks vs:List D}{k:D}(hv:Bu K (del H P) v (.Ba b ks vs))(hy:Bu K (del H P) y k)(hk:ZQ b k):∃a xs,v=.ref a/\OX H a y (G1 ks xs k)/\Ag K (del H P) xs vs/\xs.length=ks.length:=by
 cases hv with
 |G9 hh hl =>
  cases hk with
  |k κ =>
   refine⟨_,_,rfl,?_,hl,by simp⟩;rw[hy.jL,Mw Mv];exact .inl ⟨_,κ,hh.B8,rfl,rfl⟩
 |Hh hh hl =>
  cases hk with
  |t κ =>
   cases hy with
   |tup ht aM =>
    have e:=Ag.keys κ aM;subst e;refine⟨_,_,rfl,?_,hl,by simp⟩;rw[Mw (fk:=λ κ:List Key=>D.tup (κ.map CT)) (λ a b=>by simp only[As];exact Ly a b)];exact .inr ⟨_,κ,_,hh.B8,rfl,(Ai ht).2,rfl⟩
end
section
variable {X:Cx}{WX:Str->Hp->Prop}{c:Bool}{P0:Dg}{P:Addr->Prop}{H:Hp}{σ:St}{ρ:Aa}{a b e:Expr}{f g:Aa->M D}{fn:Aa->M OT}{fp:Aa->M (List Nat)}{pos:Pos}{i:Nat}
noncomputable def oH:R2:=λ x y H Q=>∃a v,x=.ref a/\OX H a y (some v)/\Q v H
def ZR (hu:X.A.units+1<cLine):Zc X oH:=by
 intro value slice pins s σ H x y v u Q I rx ry h hs;obtain⟨a,z,rfl,g,q⟩:=h;cases rx;have hT:=Qr I g;have h₂:wpAny (model X.prog X.w) X.A (getItem (.ref a) u) (EP X pins σ Q) X.xe s:=Va hu I g ry λ w' s3 I3 bi=>⟨z,H,I3,bi,q⟩;unfold subscriptTail;refine wpAny_bind ?_;rw[getitemInPython_of_ne hT.not_modules];refine wpAny_bind (wpAny_specialOf hT PySem.F.slot_dict_getitem.lookup ?_);have fin:wpAny (model X.prog X.w) X.A (subscripted slice false (.ref a) u) (λ r s₃=>wpAny (model X.prog X.w) X.A (letTemporaryGo value (.ref a) r >>= λ _=>pure r) (EP X pins σ Q) X.xe s₃) X.xe s:=by
  rw[hs];exact wpAny_operating (wpAny_mono h₂ (λ r s₃ h₃=>wpAny_bind (wpAny_letTemporaryGo (wpAny_pure h₃))) λ _ _ x=>x)
 first
  |exact wpAny_pure (wpAny_bind fin)
  |exact wpAny_bind (wpAny_pure (wpAny_bind fin))
  |exact wpAny_bind fin
noncomputable def Bd (x y:D):M D:=match x with
 | .Ba b ks vs=>if keyOk b y=true then (match G1 ks vs y with|some d=>.ok d|none=>.bad) else .bad
 |x=>lF x y
def ZS:TZ X.K WX (λ x y H Q=>(iL X.K x y H Q\/iM X.K x y H Q)\/oH x y H Q) Bd:=by
 intro P H x y v w Q ht hx hy h;cases x with
 |Ba b ks vs =>
  simp only[Bd] at h;by_cases hk:keyOk b y=true
  ·rw[if_pos hk] at h;obtain⟨a,xs,rfl,g,hl,_⟩:=Pf hx hy (F3 hk);split at h
   ·rename_i d e;obtain⟨u,e1,e2⟩:=My hl e;rw[e1] at g;exact .inr ⟨a,u,rfl,g,h _ H (Ae.refl H) e2⟩
   ·exact h.elim
  ·rw[if_neg hk] at h;exact h.elim
 |AD=>exact .inl (Gf P H _ y v w Q ht hx hy h)
 |bl b=>exact .inl (Gf P H _ y v w Q ht hx hy h)
 |int b=>exact .inl (Gf P H _ y v w Q ht hx hy h)
 |str b=>exact .inl (Gf P H _ y v w Q ht hx hy h)
 |tup b=>exact .inl (Gf P H _ y v w Q ht hx hy h)
 |lst b=>exact .inl (Gf P H _ y v w Q ht hx hy h)
 |Dp b=>exact .inl (Gf P H _ y v w Q ht hx hy h)
 |ins b _ _=>exact .inl (Gf P H _ y v w Q ht hx hy h)
def Ad {n:Nat}(hu:X.A.units+n<cLine)(ha:DE X WX c a f)(hb:DE X WX c b g)(hs:Ln b:=by exact λ _ _=>rfl)(hn:1<=n:=by decide):DE X WX c (.Subscript a b pos) (λ ρ=>(f ρ).bind λ x=>(g ρ).bind λ y=>Bd x y):=nO ((TU.or WZ).or (ZR (by omega))) ZS ha hb hs
noncomputable def jM (neg:Bool):R2:=λ y x H Q=>∃a o,x=.ref a/\OX H a y o/\Q (.bl (if neg=true then !o.isSome else o.isSome)) H
def SH (hu:X.A.units+1<cLine):G5 X (compareOp .In) (jM false):=by
 intro pins s σ H x y v u Q I rx ry h;obtain⟨a,o,rfl,g,q⟩:=h;cases ry;exact rN hu I g rx λ s3 I3=>⟨.bl o.isSome,H,I3,rfl,q⟩
def Ny (hu:X.A.units+1<cLine):G5 X (compareOp .NotIn) (jM true):=by
 intro pins s σ H x y v u Q I rx ry h;obtain⟨a,o,rfl,g,q⟩:=h;cases ry;exact Zj hu I g rx λ s3 I3=>⟨.bl (!o.isSome),H,I3,rfl,q⟩
noncomputable def Jh (neg:Bool)(y x:D):M D:=match x with
 | .Ba b ks vs=>if keyOk b y=true then .ok (.bl (if neg=true then !Lf ks y else Lf ks y)) else .bad
 |x=>pZ neg y x
def U9 {neg:Bool}:TZ X.K WX (λ x y H Q=>pS X.K neg x y H Q\/jM neg x y H Q) (Jh neg):=by
 intro P H x y v w Q ht hx hy h;cases y with
 |Ba b ks vs =>
  simp only[Jh] at h;by_cases hk:keyOk b x=true
  ·rw[if_pos hk] at h;obtain⟨a,xs,rfl,g,hl,hn⟩:=Pf hy hx (F3 hk);rw[Ho (xs:=xs) hn] at h;exact .inr ⟨a,_,rfl,g,h _ H (Ae.refl H) (.bl _)⟩
  ·rw[if_neg hk] at h;exact h.elim
 |AD=>exact .inl (Gk P H x _ v w Q ht hx hy h)
 |bl b=>exact .inl (Gk P H x _ v w Q ht hx hy h)
 |int b=>exact .inl (Gk P H x _ v w Q ht hx hy h)
 |str b=>exact .inl (Gk P H x _ v w Q ht hx hy h)
 |tup b=>exact .inl (Gk P H x _ v w Q ht hx hy h)
 |lst b=>exact .inl (Gk P H x _ v w Q ht hx hy h)
 |Dp b=>exact .inl (Gk P H x _ v w Q ht hx hy h)
 |ins b _ _=>exact .inl (Gk P H x _ v w Q ht hx hy h)
def Km {n:Nat}(hu:X.A.units+n<cLine)(ha:DE X WX c a f)(hb:DE X WX c b g)(hm:behindInMarks .In b=false:=by rfl)(hn:1<=n:=by decide):DT X WX (.Compare a [.In] [b] pos) (λ ρ=>((f ρ).bind λ x=>(g ρ).bind λ y=>Jh false x y).bind O5):=Fg (V5.or (SH (by omega))) U9 ha hb hm
def Ji {n:Nat}(hu:X.A.units+n<cLine)(ha:DE X WX c a f)(hb:DE X WX c b g)(hm:behindInMarks .NotIn b=false:=by rfl)(hn:1<=n:=by decide):DT X WX (.Compare a [.NotIn] [b] pos) (λ ρ=>((f ρ).bind λ x=>(g ρ).bind λ y=>Jh true x y).bind O5):=Fg (OU.or (Ny (by omega))) U9 ha hb hm
noncomputable def F4:D->M Bool
 | .AD=>.ok false
 | .bl b=>.ok b
 | .int i=>.ok (i != 0)
 | .tup ds=>.ok (!ds.isEmpty)
 | .lst ds=>.ok (!ds.isEmpty)
 |_=>.bad
def Jj {K:za}{H:Hp}{xs:List V}{ds:List D}(h:Ag K H xs ds):(!ds.isEmpty) = !xs.isEmpty:=by cases h<;>rfl
def Bj (h:DE X WX c e f)(he:∀whole,isTrue e X.env whole=(do let v <-whole;standAt e.pos;holding [v] (truthy v)):=by intro _;rfl):DT X WX e (λ ρ=>(f ρ).bind F4):=by
 obtain⟨t,h1,h2⟩:=h;refine⟨_,WM h1 he,λ P0 P σ H Q ρ E h=>h2 P0 P σ H _ ρ E ?_⟩;dsimp only at h;cases q:f ρ with
 |bad=>rw[q] at h;exact h
 |ex x=>rw[q] at h;exact h
 |ok d =>
  rw[q] at h;simp only[M.A7] at h;intro v H' s hv;cases hv with
  |AD=>exact⟨false,rfl,h H' s⟩
  |bl b=>exact⟨b,rfl,h H' s⟩
  |int i=>exact⟨_,rfl,h H' s⟩
  |tup hs hl=>exact⟨_,.inr (.inl ⟨_,Er.of (Ai hs).2,rfl⟩),by rw[<-Jj hl];exact h H' s⟩
  |lst hs hl=>exact⟨_,.inl ⟨_,hs.B8,rfl⟩,by rw[<-Jj hl];exact h H' s⟩
  |_=>exact h.elim
end
noncomputable def Mz (m:M (List D)):M OT:=match m with | .ok ys=>.ok (.lst (ys.map .sh)) | _=>.bad
section
variable {X:Cx}{WX:Str->Hp->Prop}{c:Bool}{P0:Dg}{P:Addr->Prop}{H:Hp}{σ:St}{ρ:Aa}{a b e tg iter:Expr}{f g:Aa->M D}{ft:Aa->M Bool}{pos:Pos}{gt:D->Aa->M Aa}{fi:Aa->M (List D)}{es:List Expr}{fs:Aa->M (List D)}
def jN {μ:List (Option Nat)}{wi:TI}{gg:TG}{tc:Shared->Hp->Addr->List Addr->TT}{te:Shared->Hp->Addr->List Addr->TE}{fe:Aa->M D}
 (i2:∀P0 P σ H R ρ,Ak X.K P0 P H σ ρ->(match fi ρ with | .ok ds=>∀J H',Ae H H'->Vl X.K J P H' ds->R J H' | .ex x=>∀H',Ae H H'->WX x H' | .bad=>False)->wi σ H R)
 (g2:∀P0 P σ H Q ρ v d,Ak X.K P0 P H σ ρ->Bu X.K (del H P) v d->gG X.K P0 P H Q (gt d ρ)->gg v σ H Q)
 (t2:∀s H' C ex P0 P σ H Q ρ,Ak X.K P0 P H σ ρ->gT (λ _ _=>False) H Q (ft ρ)->tc s H' C ex σ H Q)
 (e2:∀s H' C ex P0 P σ H Q ρ,Ak X.K P0 P H σ ρ->gV X.K (λ _ _=>False) (Lv true P0 P) H Q (fe ρ)->te s H' C ex σ H Q) {Q:VK}
 (E:Ak X.K P0 P H σ ρ) (h:XC X.K WX P H Q ((fi ρ).bind λ ds=>if ds.length<=1000 then Mz (Bi gt ft fe ds (BB μ ρ)) else .bad)):TV wi μ gg tc te σ H Q:=by
 refine i2 P0 P σ H _ ρ E ?_;cases q:fi ρ with
 |bad=>rw[q] at h;exact h
 |ex x=>rw[q] at h;exact h
 |ok ds =>
  rw[q] at h;simp only[M.A7] at h;by_cases hd:¬ ds.length<=1000
  ·rw[if_neg hd] at h;exact h.elim
  have hd:ds.length<=1000:=by omega
  rw[if_pos hd] at h;intro J H1 s1 ok s C ex;cases qc:Bi gt ft fe ds (BB μ ρ) with
  |bad=>rw[qc] at h;exact h.elim
  |ex x=>rw[qc] at h;exact h.elim
  |ok total =>
   rw[qc] at h;unfold Mz at h;dsimp only at h;have E1:=E.same s1;refine⟨λ i m ys H2=>m=ds.length-i/\i<=ds.length/\ys.length<=i/\Ae H1 H2/\∃es rest,Ag X.K (del H2 P) ys es/\Bi gt ft fe (ds.drop i) (BB μ ρ)=.ok rest/\es++rest=total,
    ⟨ds.length,by simp,zS _,zw _,Ae.refl _,[],total,.nil,by rw[List.drop_zero];exact qc,rfl⟩,?_⟩
   rintro i m ys H2 ⟨rfl,hi,hy,s2,es,rest,fg,ao,bc⟩;by_cases ah:i<ds.length
   ·refine .inr ⟨ok.go i P H2 s2.del ah,Nat.lt_of_le_of_lt hy (AG (by omega)),λ bq H'=>i+1<=ds.length/\bq.length<=i+1/\Ae H1 H'/\∃es rest,Ag X.K (del H' P) bq es/\Bi gt ft fe (ds.drop (i+1)) (BB μ ρ)=.ok rest/\es++rest=total,λ bq H' hq=>⟨ds.length-(i+1),by omega,rfl,hq.1,hq.2.1,hq.2.2.1,hq.2.2.2⟩,λ v H3 y=>?_⟩;have E2:=E1.same s2;obtain⟨s3,hv⟩:=ok.YZ i P H2 v H3 ds[i] s2.del E2.Cg (zj ah) y;rw[Gi ah,Bi] at ao;have E3:=(E2.same s3).block μ;refine g2 P0 P _ H3 _ (BB μ ρ) v ds[i] E3 hv ?_;cases q1:gt ds[i] (BB μ ρ) with
    |bad=>rw[q1] at ao;cases ao
    |ex x=>rw[q1] at ao;cases ao
    |ok ρ1 =>
     rw[q1] at ao;dsimp only at ao;intro σ4 E4;refine t2 s H1 C ex P0 P σ4 H3 _ ρ1 E4 ?_;cases q2:ft ρ1 with
     |bad=>rw[q2] at ao;cases ao
     |ex x=>rw[q2] at ao;cases ao
     |ok k =>
      rw[q2] at ao;dsimp only at ao;intro H5 s5;cases k with
      |false =>
       simp only[zB,if_false] at ao ⊢;exact⟨ah,by omega,(s2.trans s3).trans s5,es,rest,(fg.mono s3.del).mono s5.del,ao,bc⟩
      |true =>
       simp only[if_true] at ao ⊢;refine e2 s H1 C ex P0 P σ4 H5 _ ρ1 (E4.same s5) ?_;cases q3:fe ρ1 with
       |bad=>rw[q3] at ao;cases ao
       |ex x=>rw[q3] at ao;cases ao
       |ok y' =>
        rw[q3] at ao;dsimp only at ao;cases q4:Bi gt ft fe (ds.drop (i+1)) (BB μ ρ) with
        |bad=>rw[q4] at ao;cases ao
        |ex x=>rw[q4] at ao;cases ao
        |ok nc =>
         rw[q4] at ao;cases ao;intro w H6 s6 hw;refine⟨ah,by rw[zK,yC];omega,((s2.trans s3).trans s5).trans s6,es++[y'],nc,(((fg.mono s3.del).mono s5.del).mono s6.del).snoc hw,rfl,?_⟩;rw[y7];exact bc
   ·have e:i=ds.length:=by omega
    subst e;rw[xk,Bi] at ao;cases ao;rw[zX] at bc;subst bc;exact .inl ⟨ok.stop _ P H2 s2.del (zw _),λ D0 hn=>h.Kk (s1.trans s2) fg D0 hn⟩
def Ds {scope:Scope}{NB:List Str}{ifs:List Expr}{elt:Expr}{fe:Aa->M D}(μ:List (Option Nat))(hc:X.calm=true)(hi:DI X WX tg iter fi)(aA:Ka scope X.env.scope=true)(bJ:Qt X.N NB scope μ=true)(hg:pW X scope NB μ tg gt)
 (ht:∀s H C ex,pX (blockOf X s H scope C NB ex) ifs ft) (he:∀s H C ex,DE (blockOf X s H scope C NB ex) (λ _ _=>False) true elt fe) (hs:∀x,foldedSetIterable iter X.env x=pure x:=by intro _;rfl):
 DN X WX (.ListComp elt [⟨tg,iter,ifs,0⟩] scope pos) (λ ρ=>(fi ρ).bind λ ds=>if ds.length<=1000 then Mz (Bi gt ft fe ds (BB μ ρ)) else .bad):=by
 obtain⟨wi,i1,i2⟩:=hi;obtain⟨gg,g1,gk,g2⟩:=hg;refine⟨_,Zs hc i1 aA bJ gk (λ s H C ex=>⟨g1 s H C ex,(zb (ht s H C ex)).1,(zb (he s H C ex)).1⟩) hs,λ P0 P σ H Q ρ E h=>?_⟩;exact jN i2 g2 (λ s H' C ex P0 P σ H Q ρ E h=>(zb (ht s H' C ex)).2 P0 P σ H Q ρ E h) (λ s H' C ex P0 P σ H Q ρ E h=>(zb (he s H' C ex)).2 P0 P σ H Q ρ E h) E h
end
def rZ (K:za)(WX:Str->Hp->Prop)(P:Addr->Prop)(p:Addr)(fp:List Addr)(H:Hp)(Q:VK):M (OT×OT)->Prop
 | .ok (t,r)=>∀v H' P' ai fr,(∀a,P a->a∉fp->P' a/\H' a=H a)->(∀a,P' a->Eo H' a)->Ae (del H P) (del H' P')->BI K H' P' (.ref p) t ai->ai.Nodup->BI K H' P' v r fr->fr.Nodup->(∀a∈fr,a∉ai)->
  (∀a∈ai,P' a/\(P a->a∈fp))->(∀a∈fr,P' a/\(P a->a∈fp))->Q v H'
 | .ex _=>False
 | .bad=>False
noncomputable def Og (K:za)(n:Nat)(F:OT->List D->M (OT×OT)):Sp:=λ vs H Q E=>vs.length=n/\∃P p t fp rest ay,vs=.ref p::rest/\(∀a,P a->Eo H a)/\(∀a∈fp,P a)/\fp.Nodup/\BI K H P (.ref p) t fp/\Ag K (del H P) rest ay/\rZ K (Dh K E) P p fp H Q (F t ay)
noncomputable def CO (N:List Str)(t:OT)(ay:List D):Aa:=some (toCl (some 0) t)::(ay.map (λ d=>some (.val d))++zy (N.length-(ay.length+1)) none)
noncomputable def Gq (ρ:Aa):Option OT:=match ρ[0]? with
 |some (some c)=>(match treeOf c with|some (some 0,t)=>some t|_=>none)
 |_=>none
noncomputable def DZ (m:M Out):M (OT×OT):=match m with
 | .ok (.next ρ)=>(match Gq ρ with|some t=>.ok (t,.sh .AD)|none=>.bad)
 | .ok (.Ep r ρ)=>(match Gq ρ with|some t=>.ok (t,r)|none=>.bad)
 |_=>.bad
def Vy (p:Option Nat)(t:OT):Gb (toCl p t)=true:=by
 unfold toCl;split
 ·rename_i ts;cases q:DY ts with
  |none=>rfl
  |some ds=>cases p<;>rfl
 ·rfl
def Jk {K:za}{P:Addr->Prop}{H:Hp}{N:List Str}{p:Addr}{t:OT}{fp:List Addr}{rest:List V}{ay:List D}(ht:∀a,P a->Eo H a)(hp:∀a∈fp,P a)(nd:fp.Nodup)(o:BI K H P (.ref p) t fp)(h:Ag K (del H P) rest ay):
 Ak K ⟨λ a=>P a/\a∉fp,λ _=>p⟩ P H (start N (.ref p::rest)) (CO N t ay):=by
 have hl:=h.length;have key:∀(i:Nat) (c:Cl),(ay.map (λ d=>some (Cl.val d))++zy (N.length-(ay.length+1)) none)[i]?=some (some c)->∃d,ay[i]?=some d/\c=.val d:=λ i c e=>by
  by_cases hi:i<ay.length
  ·rw[yv (by simpa using hi),zI] at e;cases q:ay[i]? with
   |none=>rw[q] at e;cases e
   |some d=>rw[q] at e;cases e;exact⟨d,rfl,rfl⟩
  ·rw[yX (by simpa using hi),List.getElem?_replicate] at e;split at e<;>cases e
 have t9:(start N (.ref p::rest))[0]?=some (some (.ref p)):=by unfold start;rfl
 refine⟨λ a h=>h.1,ht,λ i d e=>?_,λ i c e io=>?_,λ i j c c' v v' fp ai e1 e2 _ _ o1 o2 ae=>?_,?_,λ i c n e vy=>?_⟩
 rotate_left 4
 ·cases i with
  |zero=>exact t9
  |succ i =>
   obtain⟨d',q,z⟩:=key i _ (by unfold CO at e;simpa using e);cases z;cases vy
 ·cases i with
  |zero =>
   have e':some (toCl (some 0) t)=some (.val d):=by simpa [CO] using e
   have:=Vy (some 0) t;rw[zE e'] at this;cases this
  |succ i =>
   obtain⟨d',q,z⟩:=key i _ (by unfold CO at e;simpa using e);cases z;obtain⟨v,hv,hd⟩:=h.get q;refine⟨v,?_,hd⟩;unfold start;rw[zg,xl,zQ,yv (by rw[ze];exact (zv.mp hv).1),zI,hv];rfl
 ·cases i with
  |zero =>
   have e':toCl (some 0) t=c:=by simpa [CO] using e
   subst e';exact⟨_,fp,t9,CK.toCl o,λ a ha=>⟨hp a ha,λ z=>z.2 ha⟩,nd⟩
  |succ i =>
   obtain⟨d',q,z⟩:=key i _ (by unfold CO at e;simpa using e);cases z;cases io
 ·cases i with
  |zero =>
   cases j with
   |zero=>exact (ae rfl).elim
   |succ j =>
    obtain⟨d',q,z⟩:=key j _ (by unfold CO at e2;simpa using e2);cases z;exact o2.elim
  |succ i =>
   obtain⟨d',q,z⟩:=key i _ (by unfold CO at e1;simpa using e1);cases z;exact o1.elim
 ·unfold start CO;simp[hl]
section
variable {P:Program}{w:World}{K:za}{mg:Str->Option Value}{base:Heap}
def Lz {P0:Dg}{P':Addr->Prop}{H':Hp}{σ':St}{ρ:Aa}{t:OT}(E:Ak K P0 P' H' σ' ρ)(h:Gq ρ=some t):∃c ai,ρ[0]?=some (some c)/\σ'[0]?=some (some (.ref (P0.g 0)))/\CK K H' P' c (.ref (P0.g 0)) ai/\BI K H' P' (.ref (P0.g 0)) t ai/\ai.Nodup/\∀a∈ai,P' a/\¬ P0 a:=by
 unfold Gq at h;split at h
 ·rename_i c e;split at h
  ·rename_i t' e2;cases h;have io:Gb c=true:=by cases c<;>first|rfl|cases e2
   obtain⟨v,fp,k1,k2,k3,k4⟩:=E.ows 0 c e io;have:=E.pin 0 c 0 e (Im e2);rw[k1] at this;cases this;exact⟨c,fp,e,k1,k2,k2.toT e2,k4,k3⟩
  ·cases h
 ·cases h
def jO {x qual:Str}{st:Stmt}{f:Addr}{fd:FuncData}{N ps:List Str}{k:Nat}(F:Wo K x qual st f fd)(S:Ah N ps (A3 st))(g:Aa->M Out)
 (hb:∀(B4:Value) (A:Around) (outer:List Env) (s:Shared) (H:Hp) (E:XK),BD k (A.deeper (envOfC qual (A3 st) s.heap.objs.size f B4))->QD (U3 P w K mg base N qual (A3 st) f B4 A outer s H E) (Dh K E) (Az st) g):
 Df P w K mg base (Sw P w base) (k+1) f fd ps (Og K ps.length λ t ay=>DZ (g (CO N t ay))):=by
 obtain⟨oc,od,kV,doc,pm,an,B4,ct,Qc,rfl,lk,bh⟩:=F.ex;refine TM lk bh S (λ vs H Q E h=>h.1) λ A outer s H vs Q E hr h=>?_;obtain⟨hl,P',p,t,fp,rest,ay,rfl,ht,hp,nd,ho,hv,hq⟩:=h;obtain⟨tt,h1,h2⟩:=hb B4 A outer s H E hr;refine⟨tt,h1,h2 ⟨λ a=>P' a/\a∉fp,λ _=>p⟩ P' _ H _ _ (Jk ht hp nd ho hv) ?_⟩;dsimp only at hq;revert hq;cases g (CO N t ay) with
 |bad=>exact λ h=>h.elim
 |ex x=>exact λ h=>h.elim
 |ok o =>
  have sub:∀ {P2:Addr->Prop} {H2:Hp} {σ2:St} {ρ:Aa},Ak K ⟨λ a=>P' a/\a∉fp,λ _=>p⟩ P2 H2 σ2 ρ->∀a,P2 a/\¬ (P' a/\a∉fp)->P2 a/\(P' a->a∈fp):=λ E a ha=>⟨ha.1,λ z=>Classical.byContradiction λ w=>ha.2 ⟨z,w⟩⟩;cases o with
  |ret d=>exact λ h=>h.elim
  |Ca d=>exact λ h=>h.elim
  |next ρ =>
   intro hq σ' H' P2 t2 E2;unfold DZ at hq;dsimp only at hq;split at hq
   ·rename_i t' e;obtain⟨c,ai,k1,k2,k3,k4,k5,k6⟩:=Lz E2 e;exact hq .AD H' P2 ai [] (λ a ha hn=>⟨E2.sub a ⟨ha,hn⟩,t2.2 a ⟨ha,hn⟩⟩) E2.Cg t2.1 k4 k5 (.sh .AD) yu (λ a ha=>by cases ha) (λ a ha=>sub E2 a (k6 a ha)) (λ a ha=>by cases ha)
   ·exact hq.elim
  |Ep r ρ =>
   intro hq v fr σ' H' P2 t2 E2 o2 bd hf;unfold DZ at hq;dsimp only at hq;split at hq
   ·rename_i t' e;obtain⟨c,ai,k1,k2,k3,k4,k5,k6⟩:=Lz E2 e;exact hq v H' P2 ai fr (λ a ha hn=>⟨E2.sub a ⟨ha,hn⟩,t2.2 a ⟨ha,hn⟩⟩) E2.Cg t2.1 k4 k5 o2 bd (λ a ha=>(hf a ha).2.2 0 c _ ai k1 k2 k3) (λ a ha=>sub E2 a (k6 a ha)) (λ a ha=>sub E2 a ⟨(hf a ha).1,(hf a ha).2.1⟩)
   ·exact hq.elim
  |brk ρ=>exact λ h=>h.elim
  |cont ρ=>exact λ h=>h.elim
end
structure Oh (P:Program)(w:World)(K:za)(mg:Str->Option Value)(base:Heap)(x:Str)(k n:Nat)(F:OT->List D->M (OT×OT)):Prop where
 ex:∃fa fd ps,Df P w K mg base (Sw P w base) k fa fd ps (Og K n F)/\mg x=some (.ref fa)/\zO K (.ref fa)=true/\Binds K fd ps []
def QN {P:Program}{w:World}{K:za}{mg:Str->Option Value}{base:Heap}{x:Str}{st:Stmt}{N ps:List Str}{k n:Nat}(T:AK K mg x st ps)(S:Ah N ps (A3 st))(g:Aa->M Out)
 (hb:∀(f:Addr) (B4:Value) (A:Around) (outer:List Env) (s:Shared) (H:Hp) (E:XK),BD k (A.deeper (envOfC x (A3 st) s.heap.objs.size f B4))->QD (U3 P w K mg base N x (A3 st) f B4 A outer s H E) (Dh K E) (Az st) g) (hn:ps.length=n:=by rfl):
 Oh P w K mg base x (k+1) n (λ t ay=>DZ (g (CO N t ay))):=by
 obtain⟨f,fd,F,hm,hB⟩:=T.ex;subst hn;exact⟨⟨f,fd,ps,jO F S g (hb f),hm,F.kp,hB⟩⟩
section
variable {X:Cx}{WX:Str->Hp->Prop}{c:Bool}{P0:Dg}{P:Addr->Prop}{H:Hp}{σ:St}{ρ:Aa}{a b e:Expr}{f g:Aa->M D}{fn:Aa->M OT}{fp:Aa->M (List Nat)}{pos:Pos}{i:Nat}{es:List Expr}{fs:Aa->M (List D)}
def Ak.new {K:za}{P':Addr->Prop}{H':Hp}(E:Ak K P0 P H σ ρ)(s:Ae H H')(sm:Ae (del H P) (del H' P')){a:Addr}(hn:H a=none):∀(j:Nat) c v fq,ρ[j]?=some (some c)->σ[j]?=some (some v)->CK K H' P' c v fq->a∉fq:=λ j c v fq h1 h2 h3 ha=>by
 have io:Gb c=true:=by cases c<;>first|rfl|exact h3.elim
 obtain⟨w,fr,k1,k2,k3,k4⟩:=E.ows j c h1 io;rw[h2] at k1;cases k1;have m:=k2.move sm λ b hb=>by obtain⟨o,q⟩:=k2.at b hb;rw[q];exact s _ _ q
 rw[h3.C8 m] at ha;obtain⟨o,q⟩:=k2.at a ha;rw[hn] at q;cases q
def Ak.oI {K:za}{P':Addr->Prop}{H':Hp}{π:List Nat}{v1 v2:V}{t1 u r:OT}{az fu fr:List Addr}(E:Ak K P0 P H σ ρ)(pl:Bb K P H σ ρ i π v1 t1)(o:BI K H P v1 t1 az)(hs:∀a,P a->a∉az->P' a/\H' a=H a)(ht:∀a,P' a->Eo H' a)(sm:Ae (del H P) (del H' P'))
 (o':BI K H' P' v1 u fu) (nd:fu.Nodup) (hf:∀a∈fu,P' a/\(P a->a∈az)) (or:BI K H' P' v2 r fr) (wW:fr.Nodup) (hr:∀a∈fr,P' a/\(P a->a∈az)) (dj:∀a∈fr,a∉fu):
 ∃c p t,ρ[i]?=some (some c)/\treeOf c=some (p,t)/\Ak K P0 P' H' σ (ρ.set i (some (toCl p (EE t π u))))/\Tr P0 P H P' H'/\
  ∀a∈fr,P' a/\¬ P0 a/\∀(j:Nat) c' v fq,(ρ.set i (some (toCl p (EE t π u))))[j]?=some (some c')->σ[j]?=some (some v)->CK K H' P' c' v fq->a∉fq:=by
 obtain⟨v0,c,p,t,h1,h2,h3,h4⟩:=pl.ex;have io:Gb c=true:=by cases c<;>first|rfl|cases h2
 obtain⟨w,fp,k1,k2,k3,k4⟩:=E.ows i c h1 io;rw[h3] at k1;cases k1;have ot:=k2.toT h2;obtain⟨fz,oz,kz,_⟩:=ot.part h4;have:=oz.C8 o;subst this;obtain⟨ai,q1,q2,q3⟩:=ot.put sm h4 o o' (λ a ha hn=>(hs a (k3 a ha).1 hn).2) k4 nd (λ a ha hb=>(hf a ha).2 (k3 a hb).1);have tO:∀(j:Nat) c' v' fq,i≠j->ρ[j]?=some (some c')->σ[j]?=some (some v')->CK K H P c' v' fq->∀a∈fq,P a/\a∉fp:=λ j c' v' fq ae g1 g2 g3 a ha=>by
  have jj:Gb c'=true:=by cases c'<;>first|rfl|exact g3.elim
  obtain⟨w',nz,m1,m2,m3,m4⟩:=E.ows j c' g1 jj;rw[g2] at m1;cases m1;have:=m2.C8 g3;subst this;exact⟨(m3 a ha).1,E.apart j i c' c v' v0 nz fp g1 h1 g2 h3 g3 k2 (yb ae) a ha⟩
 have key:=E.nU (P':=P') (H':=H') (i:=i) (v:=v0) (c:=toCl p (EE t π u)) (fp:=ai) (λ a ha=>(hs a (E.sub a ha) λ z=>(k3 a (kz a z)).2 ha).1) ht sm (λ j c' v' fq ae g1 g2 g3 a ha=>?_) (CK.toCl q1) (λ a ha=>?_) q2 (λ n z=>by rw[Il] at z;subst z;have:=E.pin i c n h1 (Im h2);rw[h3] at this;cases this;rfl)
 ·rw[P7 h3] at key;refine⟨c,p,t,h1,h2,key,⟨sm,λ a ha=>(hs a (E.sub a ha) λ z=>(k3 a (kz a z)).2 ha).2⟩,λ a ha=>⟨(hr a ha).1,λ z=>(k3 a (kz a ((hr a ha).2 (E.sub a z)))).2 z,λ j c' v fq g1 g2 g3 hb=>?_⟩⟩;rcases get_set g1 with ⟨rfl,hl,z⟩|⟨ae,g1⟩
  ·cases z;rw[h3] at g2;cases g2;rw[g3.C8 (CK.toCl q1)] at hb;rcases q3 a hb with y|y
   ·exact dj a ha y
   ·exact y.2 ((hr a ha).2 (k3 a y.1).1)
  ·have jj:Gb c'=true:=by cases c'<;>first|rfl|exact g3.elim
   obtain⟨w',nz,m1,m2,m3,m4⟩:=E.ows j c' g1 jj;rw[g2] at m1;cases m1;have o2:=tO j c' v nz ae g1 g2 m2;have mv:=m2.move sm λ b a8=>(hs b (o2 b a8).1 λ z=>(o2 b a8).2 (kz b z)).2;rw[g3.C8 mv] at hb;exact (o2 a hb).2 (kz a ((hr a ha).2 (o2 a hb).1))
 ·have o2:=tO j c' v' fq ae g1 g2 g3 a ha;have hk:=hs a o2.1 λ z=>o2.2 (kz a z);refine⟨hk.2,λ z=>?_,hk.1⟩;rcases q3 a z with y|y
  ·exact o2.2 (kz a ((hf a y).2 o2.1))
  ·exact o2.2 y.1
 ·rcases q3 a ha with y|y
  ·exact⟨(hf a y).1,λ z=>(k3 a (kz a ((hf a y).2 (E.sub a z)))).2 z⟩
  ·exact⟨(hs a (k3 a y.1).1 y.2).1,(k3 a y.1).2⟩
end
noncomputable def Gr (i:Nat)(ρ:Aa)(π:List Nat)(u:OT):M Out:=match ρ[i]? with
 |some (some c)=>(match treeOf c with|some (p,t)=>.ok (.next (ρ.set i (some (toCl p (EE t π u)))))|none=>.bad)
 |_=>.bad
noncomputable def E5 (i:Nat)(ρ:Aa)(π:List Nat):M (List OT):=match SG i ρ π with | some (.lst ts)=>.ok ts | _=>.bad
def Fj {i:Nat}{ρ:Aa}{π:List Nat}{u:OT}{c:Cl}{p:Option Nat}{t:OT}(h:ρ[i]?=some (some c))(ht:treeOf c=some (p,t)):Gr i ρ π u=.ok (.next (ρ.set i (some (toCl p (EE t π u))))):=by
 unfold Gr;simp only[h,ht]
def Au.append {K:za}{H:Hp}{P:Addr->Prop}:∀ {xs ys:List V}{ts us:List OT}{fp fq:List Addr},Au K H P xs ts fp->Au K H P ys us fq->Au K H P (xs++ys) (ts++us) (fp++fq)
 |_,_,_,_,_,_,.nil,h=>h
 |_,_,_,_,_,_,.cons a t,h=>by rw[y7];exact .cons a (t.append h)
section
variable {X:Cx}{WX:Str->Hp->Prop}{c:Bool}{P0:Dg}{P:Addr->Prop}{H:Hp}{σ:St}{ρ:Aa}{a b e:Expr}{f g:Aa->M D}{fn:Aa->M OT}{fp:Aa->M (List Nat)}{pos:Pos}{i:Nat}{es:List Expr}{fs:Aa->M (List D)}
def Bb.lst {K:za}{π:List Nat}{v:V}{t1:OT}{ts:List OT}(pl:Bb K P H σ ρ i π v t1)(E:Ak K P0 P H σ ρ)(h:E5 i ρ π=.ok ts):t1=.lst ts/\∃l xs fq,v=.ref l/\H l=some (.lst xs)/\Au K H P xs ts fq/\l∉fq/\fq.Nodup:=by
 unfold E5 at h;rw[pl.at] at h;split at h
 ·rename_i n4 e;cases e;cases h;obtain⟨az,o1,hp,nd⟩:=pl.own E;cases o1 with
  |lst hh hr=>exact⟨rfl,_,_,_,rfl,hh,hr,(ym.mp nd).1,(ym.mp nd).2⟩
 ·cases h
def XF (ha:DP X WX a i fp)(he:DN X WX e fn){apos ac:Pos}(hs:starEach [e] X.env=[(false,eval e X.env)]:=by rfl)
 (b5:swapsWith (.Call (.Attribute a "append" apos) [e] [] ac) none pos.line X.env=pure false:=by rfl)
 (ar:attributeBase a "append" X.env (eval a X.env)=eval a X.env:=by rfl)
 (aB:((backTo ac (starEach [e] X.env)).all (λ x => !x.1)&&(backToKw ac (keywordEach [] X.env)).all (λ x=>x.1.isSome)&&decide (([e]:List Expr).length+([]:List Keyword).length+(if ([]:List Keyword).isEmpty then 0 else 1)<30))=true:=by rfl)
 (au:(apos.endLine==ac.line)=true:=by rfl) (ap:(backTo ac (starEach [] X.env)).any (·.1)=false:=by rfl):
 DS X WX (.Expr (.Call (.Attribute a "append" apos) [e] [] ac) pos) (λ ρ=>(fp ρ).bind λ π=>(E5 i ρ π).bind λ ts=>(fn ρ).bind λ t=>if ts.length<1000 then Gr i ρ π (.lst (ts++[t])) else .bad):=by
 obtain⟨ta,a1,a2⟩:=ha;obtain⟨te,e1,e2⟩:=he;refine⟨_,F9 (NY yz PySem.F.slot_list_append PySem.F.type_list_append NZ a1 (Bk e1 Ci hs) ar aB au hs ap) b5,λ P0 P σ H Z ρ E h=>?_⟩;dsimp only at h;refine a2 P0 P σ H _ ρ E ?_;cases q:fp ρ with
 |bad=>rw[q] at h;exact h
 |ex x=>rw[q] at h;exact λ H' s=>h H' P (E.tr s)
 |ok π =>
  rw[q] at h;simp only[M.A7] at h;intro v t1 H1 s1 pl;have E1:=E.same s1;cases q1:E5 i ρ π with
  |bad=>rw[q1] at h;exact h.elim
  |ex x=>unfold E5 at q1;split at q1<;>cases q1
  |ok ts =>
   rw[q1] at h;simp only[M.A7] at h;obtain⟨rfl,l,xs,fq,rfl,hl,ol,nl,vz⟩:=pl.lst E1 q1;refine⟨.inl ⟨rfl,xs,.of hl⟩,e2 P0 P σ H1 _ ρ E1 ?_⟩;cases q2:fn ρ with
   |bad=>rw[q2] at h;exact h
   |ex y=>rw[q2] at h;exact λ H' s=>h H' P ((E.tr s1).trans (E1.tr s))
   |ok t =>
    rw[q2] at h;simp only[M.A7] at h;by_cases hz:ts.length<1000
    ·rw[if_pos hz] at h;intro w fw H2 s2 n2 bd o2;have sm:=D6 (P:=P) s2 n2;have E2:Ak X.K P0 (PU P fw) H2 σ ρ:=E1.more s2 Ki (Kj (E1.same s2).Cg o2) sm;have keep:∀b∈fq,H2 b=H1 b:=λ b hb=>by obtain⟨o,z,_⟩:=ol.Cg b hb;rw[z];exact s2 _ _ z
     have dr:=ol.move sm keep;have aM:=s2 _ _ hl;have dj:∀b∈fq,b∉fw:=λ b hb hc=>(ol.Cg b hb).no (n2 b hc);obtain⟨c,p,t0,g1,g2,E3,t3⟩:=E2.oG (pl.more sm s2) aM dr (us:=ts++[t]) (ys:=xs++[w]) (dr.append (.cons o2 .nil)) (by rw[zX];exact zH.mpr ⟨vz,bd,λ b hb d hd z=>dj b hb (by rw[z];exact hd)⟩) (by
      rw[zX];intro z;rcases zC.mp z with z|z
      ·exact nl z
      ·rw[n2 l z] at hl;cases hl) (by
      intro b hb;rw[zX] at hb;rcases zC.mp hb with z|z
      ·exact .inl z
      ·exact .inr ⟨.inr z,λ y=>(E1.Cg b (E1.sub b y)).no (n2 b z),E1.new s2 sm (n2 b z)⟩)
     rw[Fj g1 g2] at h;exact⟨l,xs,w,rfl,rfl,aM,AG (by rw[ol.len];exact yd hz),h _ _ _ (((E.tr s1).trans (E1.qB s2 n2)).trans t3) E3⟩
    ·rw[if_neg hz] at h;exact h.elim
noncomputable def ZT {α:Type}(o:Option α):M α:=match o with | some x=>.ok x | none=>.bad
noncomputable def S0 (i:Nat)(ρ:Aa)(π:List Nat):M (List D):=match SG i ρ π with | some (.lst ts)=>(match DY ts with | some ds=>.ok ds | none=>.bad) | _=>.bad
def Bb.shl {K:za}{π:List Nat}{v:V}{t1:OT}{ds:List D}(pl:Bb K P H σ ρ i π v t1)(E:Ak K P0 P H σ ρ)(h:S0 i ρ π=.ok ds):t1=.lst (ds.map .sh)/\∃l xs,v=.ref l/\H l=some (.lst xs)/\Ag K (del H P) xs ds:=by
 unfold S0 at h;rw[pl.at] at h;split at h
 ·rename_i n4 e;split at h
  ·rename_i kh e';cases e;cases h;have z:=CV e';subst z;obtain⟨az,o1,hp,nd⟩:=pl.own E;cases o1 with
   |lst hh hr=>exact⟨rfl,_,_,rfl,hh,hr.jK.2⟩
  ·cases h
 ·cases h
def XG {π:List Nat}{x:Str}(h:S0 i ρ π=.ex x):False:=by
 unfold S0 at h;split at h
 ·split at h<;>cases h
 ·cases h
def Ak.oJ {K:za}{π:List Nat}{l:Addr}{xs ys:List V}{ds es:List D}(E:Ak K P0 P H σ ρ)(pl:Bb K P H σ ρ i π (.ref l) (.lst (ds.map .sh)))(hH:H l=some (.lst xs))(o:Ag K (del H P) xs ds)(o':Ag K (del H P) ys es):
 ∃c p t,ρ[i]?=some (some c)/\treeOf c=some (p,t)/\Ak K P0 P (upd H l (.lst ys)) σ (ρ.set i (some (toCl p (EE t π (.lst (es.map .sh))))))/\Tr P0 P H P (upd H l (.lst ys)):=
 E.oG pl hH o.ows o'.ows yu (λ z=>by cases z) (λ a ha=>by cases ha)
noncomputable def ZU (t:OT):M (List D):=match t with | .lst us=>ZT (DY us) | _=>.bad
def XH (ha:DP X WX a i fp)(he:DN X WX e fn){apos ac:Pos}(hs:starEach [e] X.env=[(false,eval e X.env)]:=by rfl)
 (b5:swapsWith (.Call (.Attribute a "extend" apos) [e] [] ac) none pos.line X.env=pure false:=by rfl)
 (ar:attributeBase a "extend" X.env (eval a X.env)=eval a X.env:=by rfl)
 (aB:((backTo ac (starEach [e] X.env)).all (λ x => !x.1)&&(backToKw ac (keywordEach [] X.env)).all (λ x=>x.1.isSome)&&decide (([e]:List Expr).length+([]:List Keyword).length+(if ([]:List Keyword).isEmpty then 0 else 1)<30))=true:=by rfl)
 (au:(apos.endLine==ac.line)=true:=by rfl) (ap:(backTo ac (starEach [] X.env)).any (·.1)=false:=by rfl):
 DS X WX (.Expr (.Call (.Attribute a "extend" apos) [e] [] ac) pos) (λ ρ=>(fp ρ).bind λ π=>(S0 i ρ π).bind λ ds=>((fn ρ).bind ZU).bind λ es=>if ds.length+es.length<=1000 then Gr i ρ π (.lst ((ds++es).map .sh)) else .bad):=by
 obtain⟨ta,a1,a2⟩:=ha;obtain⟨te,e1,e2⟩:=he;refine⟨_,F9 (NY yz PySem.F.slot_list_extend PySem.F.type_list_extend V7 a1 (Bk e1 Ci hs) ar aB au hs ap) b5,λ P0 P σ H Z ρ E h=>?_⟩;dsimp only at h;refine a2 P0 P σ H _ ρ E ?_;cases q:fp ρ with
 |bad=>rw[q] at h;exact h
 |ex x=>rw[q] at h;exact λ H' s=>h H' P (E.tr s)
 |ok π =>
  rw[q] at h;simp only[M.A7] at h;intro v t1 H1 s1 pl;have E1:=E.same s1;cases q1:S0 i ρ π with
  |bad=>rw[q1] at h;exact h.elim
  |ex x=>exact (XG q1).elim
  |ok ds =>
   rw[q1] at h;simp only[M.A7] at h;obtain⟨rfl,l,xs,rfl,hl,ol⟩:=pl.shl E1 q1;refine⟨.inl ⟨rfl,xs,.of hl⟩,e2 P0 P σ H1 _ ρ E1 ?_⟩;cases q2:fn ρ with
   |bad=>rw[q2] at h;exact h
   |ex y=>rw[q2] at h;exact λ H' s=>h H' P ((E.tr s1).trans (E1.tr s))
   |ok t =>
    rw[q2] at h;simp only[M.A7] at h;intro w fw H2 s2 n2 bd o2;have sm:=D6 (P:=P) s2 n2;have E2:Ak X.K P0 (PU P fw) H2 σ ρ:=E1.more s2 Ki (Kj (E1.same s2).Cg o2) sm;cases t with
    |lst us =>
     simp only[ZU] at h;cases q3:DY us with
     |none=>rw[q3] at h;exact h.elim
     |some es =>
      rw[q3] at h;simp only[ZT,M.A7] at h;have z:=CV q3;subst z;cases o2 with
      |lst hb hr =>
       by_cases hz:ds.length+es.length<=1000
       ·rw[if_pos hz] at h;have he:=hr.jK.2;have dr:=ol.mono sm;have aM:=s2 _ _ hl;obtain⟨c,p,t0,g1,g2,E3,t3⟩:=E2.oJ (pl.more sm s2) aM dr (dr.append he);rw[Fj g1 g2] at h;exact⟨l,_,xs,_,rfl,rfl,aM,hb,yd (AG (by rw[ol.length,he.length];exact hz)),h _ _ _ (((E.tr s1).trans (E1.qB s2 n2)).trans t3) E3⟩
       ·rw[if_neg hz] at h;exact h.elim
    |_=>exact h.elim
end
def gX (K:za)(WX:Str->Hp->Prop)(P0:Dg)(P:Addr->Prop)(H:Hp)(σ:St)(Q:VK):M (Aa×OT)->Prop
 | .ok (ρ,t)=>∀v fp H' P',Tr P0 P H P' H'->Ak K P0 P' H' σ ρ->BI K H' P' v t fp->fp.Nodup->(∀a∈fp,P' a/\¬ P0 a/\∀(j:Nat) c v' fq,ρ[j]?=some (some c)->σ[j]?=some (some v')->CK K H' P' c v' fq->a∉fq)->Q v H'
 | .ex x=>∀H' P',Tr P0 P H P' H'->WX x H'
 | .bad=>False
def DX (X:Cx)(WX:Str->Hp->Prop)(e:Expr)(f:Aa->M (Aa×OT)):Prop:=
 ∃t,PE X e t/\∀P0 P σ H Q ρ,Ak X.K P0 P H σ ρ->gX X.K WX P0 P H σ Q (f ρ)->t σ H Q
noncomputable def XI:OT->Bool
 | .sh _=>false
 |_=>true
noncomputable def QO (i:Nat)(F:OT->List D->M (OT×OT))(ρ:Aa)(π:List Nat)(ay:List D):M (Aa×OT):=match ρ[i]? with
 |some (some c)=>(match treeOf c with
  |some (p,t)=>(match Kh t π with
   |some t1=>if XI t1=true then (match F t1 ay with | .ok (t2,r)=>.ok (ρ.set i (some (toCl p (EE t π t2))),r)|_=>.bad) else .bad
   |none=>.bad)
  |none=>.bad)
 |_=>.bad
section
variable {X:Cx}{E:XK}{WX:Str->Hp->Prop}{c:Bool}{P0:Dg}{P:Addr->Prop}{H:Hp}{σ:St}{ρ:Aa}{a b e:Expr}{f g:Aa->M D}{fn:Aa->M OT}{fx:Aa->M (Aa×OT)}{fp:Aa->M (List Nat)}{pos:Pos}{i:Nat}{es:List Expr}{fs:Aa->M (List D)}
def XJ {F:OT->List D->M (OT×OT)}{π:List Nat}{ay:List D}{c:Cl}{p:Option Nat}{t t1 t2 r:OT}(h:ρ[i]?=some (some c))(ht:treeOf c=some (p,t))(hs:Kh t π=some t1)(hN:XI t1=true)(hF:F t1 ay=.ok (t2,r)):QO i F ρ π ay=.ok (ρ.set i (some (toCl p (EE t π t2))),r):=by
 unfold QO;simp only[h,ht,hs,hN,if_true,hF]
def XM {k n:Nat}{F:OT->List D->M (OT×OT)}{x:Str}{p:Pos}(xo:XCall X E)(G:Oh X.prog X.w X.K X.mg X.base x k n F)(hr:BD k X.A)(hg:Gl X x)(hp:DP X (Dh X.K E) a i fp)(ha:DA X (Dh X.K E) true es fs)(hn:es.length+1=n)
 (aS:(x==("__debug__" : Str))=false:=by decide) (he:starEach (a::es) X.env=(false,eval a X.env)::starEach es X.env:=by rfl) (hpl:(backTo pos (starEach es X.env)).any (·.1)=false:=by rfl):
 DX X (Dh X.K E) (.Call (.Name x p) (a::es) [] pos) (λ ρ=>(fp ρ).bind λ π=>(fs ρ).bind λ ay=>QO i F ρ π ay):=by
 obtain⟨fa,fd,ps,hF,hm,hk,hb⟩:=G.ex;obtain⟨tp,p1,p2⟩:=hp;obtain⟨ta,a1,a2,a3⟩:=ha;refine⟨_,TK hF hr hg hm hk hb .nil xo.call (Bk p1 a1 he) aS he hpl,λ P0 P σ H Q ρ Ev h=>?_⟩;dsimp only at h;refine p2 P0 P σ H _ ρ Ev ?_;cases q:fp ρ with
 |bad=>rw[q] at h;exact h
 |ex x=>rw[q] at h;exact λ H' s=>h H' P (Ev.tr s)
 |ok π =>
  rw[q] at h;simp only[M.A7] at h;intro v t1 H1 s1 pl;have E1:=Ev.same s1;refine a2 P0 P σ H1 _ ρ E1 ?_;cases q2:fs ρ with
  |bad=>rw[q2] at h;exact h
  |ex y=>rw[q2] at h;exact λ H' s=>h H' P ((Ev.tr s1).trans (E1.tr s))
  |ok ay =>
   rw[q2] at h;simp only[M.A7] at h;intro vs H2 s2 aW;have E2:=E1.same s2;have bM:=pl.same s2;show Og X.K n F ((v::vs)++[]) H2 Q E;rw[zX];obtain⟨v0,c,pp,t,g1,g2,g3,g4⟩:=bM.ex;unfold QO at h;simp only[g1,g2,g4.sub] at h;by_cases hx:XI t1=true
   ·rw[if_pos hx] at h;obtain⟨az,o1,v3,f7⟩:=bM.own E2;have n5:∃l,v=.ref l:=by
     cases o1 with
     |sh hv=>exact absurd hx (by simp[XI])
     |lst _ _=>exact⟨_,rfl⟩
     |tup _ _=>exact⟨_,rfl⟩
     |dK _ _=>exact⟨_,rfl⟩
     |dT _ _=>exact⟨_,rfl⟩
     |ins _ _ _=>exact⟨_,rfl⟩
    obtain⟨l,rfl⟩:=n5;refine⟨by rw[zp,aW.length,a3 ρ ay q2];exact hn,P,l,t1,az,vs,ay,rfl,E2.Cg,λ b hb=>(v3 b hb).1,f7,o1,aW,?_⟩;cases qF:F t1 ay with
    |bad=>rw[qF] at h;exact h.elim
    |ex x=>rw[qF] at h;exact h.elim
    |ok z =>
    obtain⟨t2,r⟩:=z;rw[qF] at h;intro w H' P' fu fr k1 k2 k3 k4 k5 k6 k7 k8 k9 tP;obtain⟨c',p',t',m1,m2,m3,m4,m5⟩:=E2.oI bM o1 k1 k2 k3 k4 k5 k9 k6 k7 tP k8;rw[g1] at m1;cases m1;rw[g2] at m2;cases m2;exact h w fr H' P' (((Ev.tr s1).trans (E1.tr s2)).trans m4) m3 k6 k7 m5
   ·rw[if_neg hx] at h;exact h.elim
def MA (he:DX X WX e fx)(hs:swapsWith e none pos.line X.env=pure false:=by rfl):DS X WX (.Expr e pos) (λ ρ=>(fx ρ).bind λ z=>.ok (.next z.1)):=by
 obtain⟨te,e1,e2⟩:=he;refine⟨_,F9 e1 hs,λ P0 P σ H Z ρ E h=>?_⟩;dsimp only at h;refine e2 P0 P σ H _ ρ E ?_;cases q:fx ρ with
 |bad=>rw[q] at h;exact h
 |ex x=>rw[q] at h;exact h
 |ok z=>rw[q] at h;exact λ v fp H' P' t E' o nd hf=>h σ H' P' t E'
end
noncomputable def Et (i:Nat)(ρ:Aa)(π:List Nat):M (Bool×List D×List D):=match SG i ρ π with
 |some (.Ba b ks ts)=>(match DY ts with|some vs=>.ok (b,ks,vs)|none=>.bad)
 |_=>.bad
noncomputable def putD (ks vs:List D)(k v:D):List D×List D:=if Lf ks k=true then (ks,Io ks vs k v) else (ks++[k],vs++[v])
section
variable {X:Cx}{E:XK}{WX:Str->Hp->Prop}{c:Bool}{P0:Dg}{P:Addr->Prop}{H:Hp}{σ:St}{ρ:Aa}{a b e:Expr}{f g:Aa->M D}{fn:Aa->M OT}{fx:Aa->M (Aa×OT)}{fp:Aa->M (List Nat)}{pos:Pos}{i:Nat}{es:List Expr}{fs:Aa->M (List D)}
def Bb.Ba {K:za}{π:List Nat}{v:V}{t1:OT}{bl:Bool}{ks vs:List D}(pl:Bb K P H σ ρ i π v t1)(E:Ak K P0 P H σ ρ)(h:Et i ρ π=.ok (bl,ks,vs)):t1=.Ba bl ks (vs.map .sh)/\∃l xs,v=.ref l/\P l/\Ag K (del H P) xs vs/\BI K H P (.ref l) (.Ba bl ks (vs.map .sh)) [l]/\
 ((bl=false/\∃kvs,H l=some (.dK kvs)/\ks=(kvs.map λ kv=>CT kv.1)/\xs=kvs.map yp)\/(bl=true/\∃kvs,H l=some (.dT kvs)/\ks=(kvs.map λ kv=>.tup (kv.1.map CT))/\xs=kvs.map yp)):=by
 unfold Et at h;rw[pl.at] at h;split at h
 ·rename_i b' vx n4 e;split at h
  ·rename_i aX e';cases e;cases h;have z:=CV e';subst z;obtain⟨az,o1,hp,nd⟩:=pl.own E;generalize ht:OT.Ba bl ks (vs.map .sh)=t at o1;cases o1 with
   |dK hh hr =>
    injection ht with h1 h2 h3
    subst h1 h2 h3;obtain⟨rfl,hs⟩:=hr.jK;exact⟨rfl,_,_,rfl,(hp _ zc).1,hs,.dK hh hr,.inl ⟨rfl,_,hh,rfl,rfl⟩⟩
   |dT hh hr =>
    injection ht with h1 h2 h3
    subst h1 h2 h3;obtain⟨rfl,hs⟩:=hr.jK;exact⟨rfl,_,_,rfl,(hp _ zc).1,hs,.dT hh hr,.inr ⟨rfl,_,hh,rfl,rfl⟩⟩
   |_=>cases ht
  ·cases h
 ·cases h
def QP {π:List Nat}{x:Str}(h:Et i ρ π=.ex x):False:=by
 unfold Et at h;split at h
 ·split at h<;>cases h
 ·cases h
def Ak.ZV {K:za}{π:List Nat}{l:Addr}{t1 u:OT}{o':HO}(E:Ak K P0 P H σ ρ)(pl:Bb K P H σ ρ i π (.ref l) t1)(ot:BI K H P (.ref l) t1 [l])(hn:∀xs,o'≠.tup xs/\∀z,o'≠.EW z (.tup xs))(new:Ae (del H P) (del (upd H l o') P)->BI K (upd H l o') P (.ref l) u [l]):
 ∃c p t,ρ[i]?=some (some c)/\treeOf c=some (p,t)/\Ak K P0 P (upd H l o') σ (ρ.set i (some (toCl p (EE t π u))))/\Tr P0 P H P (upd H l o'):=by
 obtain⟨az,o1,hp,_⟩:=pl.own E;have:=o1.C8 ot;subst this;have pP:P l:=(hp l zc).1;have sd:del (upd H l o') P=del H P:=by
  funext b;by_cases hb:P b
  ·rw[Ff hb,Ff hb]
  ·rw[Ar hb,Ar hb,Ab (λ z=>hb (by rw[z];exact pP))]
 have sm:Ae (del H P) (del (upd H l o') P):=by rw[sd];exact Ae.refl _
 refine E.oF pl ot (λ _ h=>h) (λ a h=>?_) sm (λ a ha hn=>Ab λ z=>hn (by rw[z];exact zc)) (new sm) (by simp) (λ a ha=>.inl ha);by_cases ha:a=l
 ·subst ha;exact⟨_,Ao,hn⟩
 ·unfold Eo;rw[Ab ha];exact E.Cg a h
def Jl {n:Nat}(hu:X.A.units+n<cLine)(ha:DP X WX a i fp)(hk:DE X WX true b g)(hv:DE X WX true e f){pos':Pos}(hs:swapsWith e (some (.Subscript a b pos')) pos.line X.env=pure false:=by rfl)(hn:1<=n:=by decide):
 DS X WX (.Assign [.Subscript a b pos'] e pos) (λ ρ=>(f ρ).bind λ v=>(fp ρ).bind λ π=>(g ρ).bind λ k=>(Et i ρ π).bind λ z=>if keyOk z.1 k=true/\z.2.1.length<1000 then Gr i ρ π (.Ba z.1 (putD z.2.1 z.2.2 k v).1 ((putD z.2.1 z.2.2 k v).2.map .sh)) else .bad):=by
 obtain⟨ta,a1,a2⟩:=ha;obtain⟨tk,k1,k2⟩:=hk;obtain⟨tv,v1,v2⟩:=hv;refine⟨_,Zl (by omega) a1 k1 v1 hs,λ P0 P σ H Z ρ E h=>?_⟩;dsimp only at h;refine v2 P0 P σ H _ ρ E ?_;cases q0:f ρ with
 |bad=>rw[q0] at h;exact h
 |ex x=>rw[q0] at h;exact λ H' s=>h H' P (E.tr s)
 |ok d =>
  rw[q0] at h;simp only[M.A7] at h;intro w H0 s0 hw;have E0:=E.same s0;refine a2 P0 P σ H0 _ ρ E0 ?_;cases q:fp ρ with
  |bad=>rw[q] at h;exact h
  |ex x=>rw[q] at h;exact λ H' s=>h H' P ((E.tr s0).trans (E0.tr s))
  |ok π =>
   rw[q] at h;simp only[M.A7] at h;intro v t1 H1 s1 pl;have E1:=E0.same s1;refine k2 P0 P σ H1 _ ρ E1 ?_;cases q2:g ρ with
   |bad=>rw[q2] at h;exact h
   |ex y=>rw[q2] at h;exact λ H' s=>h H' P (((E.tr s0).trans (E0.tr s1)).trans (E1.tr s))
   |ok k =>
    rw[q2] at h;simp only[M.A7] at h;intro y H2 s2 hy;have E2:=E1.same s2;have bM:=pl.same s2;have kt:=(hw.mono s1.del).mono s2.del;have tQ:=((E.tr s0).trans (E0.tr s1)).trans (E1.tr s2);cases q3:Et i ρ π with
    |bad=>rw[q3] at h;exact h.elim
    |ex x=>exact (QP q3).elim
    |ok z =>
     obtain⟨bb,ks,vs⟩:=z;rw[q3] at h;simp only[M.A7] at h;by_cases hc:keyOk bb k=true/\ks.length<1000
     ·rw[if_pos hc] at h;obtain⟨rfl,l,xs,rfl,hP,bB,ot,ci⟩:=bM.Ba E2 q3;have hK:=F3 hc.1;rcases ci with ⟨rfl,kvs,hH,rfl,rfl⟩|⟨rfl,kvs,hH,rfl,rfl⟩
      ·cases hK with
       |k κ =>
        have ey:=hy.jL;refine⟨l,_,rfl,.inl ⟨kvs,κ,hH,ey,AG (by have:=hc.2;rw[ze] at this;omega),rfl⟩,?_⟩;have aU:∃aX,(putD (kvs.map λ kv=>CT kv.1) vs (CT κ) d)=((putK kvs κ w).map (λ kv=>CT kv.1),aX)/\Ag X.K (del H2 P) ((putK kvs κ w).map yp) aX:=by
         unfold putD putK;rw[Mx Mv];by_cases hh:(kvs.any λ kv=>decide (kv.1=κ))=true
         ·rw[if_pos hh,if_pos hh];refine⟨_,by rw[Jf (fk:=CT) Mv],?_⟩;rw[<-Je (fk:=CT) Mv];exact Jg kt bB
         ·rw[if_neg hh,if_neg hh];refine⟨_,by rw[zW];rfl,?_⟩;rw[zW];exact bB.snoc kt
        obtain⟨aX,e1,e2⟩:=aU;obtain⟨c,p,t0,g1,g2,E3,t3⟩:=E2.ZV (o':=.dK (putK kvs κ w)) (u:=.Ba false ((putK kvs κ w).map λ kv=>CT kv.1) (aX.map .sh)) bM ot (λ _=>⟨λ z=>(by cases z),λ _ z=>by cases z⟩) (λ mv=>.dK Ao (e2.mono mv).ows);rw[e1,Fj g1 g2] at h;exact h _ _ _ (tQ.trans t3) E3
      ·cases hK with
       |t κ =>
        cases hy with
        |tup ht aM =>
         have ey:=Ag.keys κ aM;subst ey;refine⟨l,_,rfl,.inr ⟨kvs,κ,_,hH,rfl,(Ai ht).2,AG (by have:=hc.2;rw[ze] at this;omega),rfl⟩,?_⟩;have hf:∀a b:List Key,As (.tup (a.map CT)) (.tup (b.map CT))=decide (a=b):=λ a b=>by simp only[As];exact Ly a b
         have aU:∃aX,(putD (kvs.map λ kv=>.tup (kv.1.map CT)) vs (.tup (κ.map CT)) d)=((putK kvs κ w).map (λ kv=>.tup (kv.1.map CT)),aX)/\Ag X.K (del H2 P) ((putK kvs κ w).map yp) aX:=by
          unfold putD putK;rw[Mx (fk:=λ κ:List Key=>D.tup (κ.map CT)) hf];by_cases hh:(kvs.any λ kv=>decide (kv.1=κ))=true
          ·rw[if_pos hh,if_pos hh];refine⟨_,by rw[Jf (fk:=λ κ:List Key=>D.tup (κ.map CT)) hf],?_⟩;rw[<-Je (fk:=λ κ:List Key=>D.tup (κ.map CT)) hf];exact Jg kt bB
          ·rw[if_neg hh,if_neg hh];refine⟨_,by rw[zW];rfl,?_⟩;rw[zW];exact bB.snoc kt
         obtain⟨aX,e1,e2⟩:=aU;obtain⟨c,p,t0,g1,g2,E3,t3⟩:=E2.ZV (o':=.dT (putK kvs κ w)) (u:=.Ba true ((putK kvs κ w).map λ kv=>.tup (kv.1.map CT)) (aX.map .sh)) bM ot (λ _=>⟨λ z=>(by cases z),λ _ z=>by cases z⟩) (λ mv=>.dT Ao (e2.mono mv).ows);rw[e1,Fj g1 g2] at h;exact h _ _ _ (tQ.trans t3) E3
     ·rw[if_neg hc] at h;exact h.elim
def QQ (tk:Bool):DN X WX (.Dict [] [] pos) (λ _=>.ok (.Ba tk [] [])):=by
 cases tk with
 |false =>
  refine⟨_,X4,λ P0 P σ H Q ρ E h p hp=>?_⟩;exact h _ [p] _ (AR hp _) (λ a ha=>by rw[zq.mp ha];exact hp) (by simp) (.dK (kvs:=[]) Ao .nil)
 |true =>
  refine⟨_,X5,λ P0 P σ H Q ρ E h p hp=>?_⟩;exact h _ [p] _ (AR hp _) (λ a ha=>by rw[zq.mp ha];exact hp) (by simp) (.dT (kvs:=[]) Ao .nil)
end
def Ip {α:Type}(o:Option (α×List Int))(b:α×List Int):BA o b≠none:=by
 unfold BA;split
 ·intro z;cases z
 ·split<;>(intro z;cases z)
def MB {α:Type}:∀ {bs:List (α×List Int)},bs≠[]->AX bs≠none:=by
 intro bs h;unfold AX
 suffices z:∀(bs:List (α×List Int)) (o:Option (α×List Int)),o≠none->bs.foldl BA o≠none by
  cases bs with
  |nil=>exact (h rfl).elim
  |cons b r=>rw[zN];exact z r _ (Ip _ _)
 intro bs;induction bs with
 |nil=>intro o h;exact h
 |cons b r ih=>intro o h;rw[zN];exact ih _ (Ip _ _)
section
variable {prog:Program}{w:World}{A:Around}{R:Result->Shared->Prop}
def Vz (bs:List (Addr×List Int))(n6:bs≠[])(tv:Addr->Array Value)(l I S:Addr)(hh:A.handled=none)(hu:A.in1.units<cLine)(c9:S≠I)(g7:l≠I)(i8:l≠S)(ez:∀b∈bs,b.1≠I/\b.1≠S)
 (hk:∀b∈bs,IntsAre (tv b.1).toList b.2):∀(k j:Nat) (s:Shared) (c:Nat),bs.length-j=k->j<=bs.length->s.heap.IsListIter I l j->s.heap.IsList l (bs.map λ b=>zZ b.1).toArray->(∀b∈bs,IsTup s.heap b.1 (tv b.1))->
  s.heap.get? S=some {cls:=.type "list",dict:=none,data:=.seq (Dc (bs.take j)) c,slots:=#[]} ->
  (∀h' tk,(∀b o,b≠I->b≠S->s.heap.get? b=some o->h'.get? b=some o)->R (.ok (.ret (match AX bs with|none=>.none|some b=>.ref b.1))) {s with heap:=h',toks:=tk})->
  codeAny (model prog w) A (.builtin "min.loop" ⟨[.ref I,.none,.ref S],[]⟩) R s:=by
 have a5:(toString "min" ++ toString ".loop" : String) = "min.loop" := by decide
 intro k;induction k with
 |zero =>
  intro j s c hr hj hit hl ht hS hR;have br:j=bs.length:=by omega
  subst br;rw[yh] at hS;refine codeAny_builtin PySem.F.entry_min_loop ?_;rw[yG zT _];show wpAny _ A.in1 (seqItems? (.ref S) >>= _) _ _ s;refine wpAny_bind (wpAny_seqItems hS rfl ?_);show wpAny _ A.in1 (tryCatch (pyNext (.ref I)) _ >>= _) _ _ s;refine wpAny_bind (wpAny_tryCatch (wpAny_pyNext_list_end (A:=A.in1) hh hit hl (by simp) λ h' eb=>?_));have a9:h'.get? S=_:=eb S _ c9 hS;unfold Dc at a9;cases hb:AX bs with
  |none=>exact (MB n6 hb).elim
  |some b =>
   rw[hb] at a9;unfold Dc;rw[hb];show wpAny _ A.in1 (updateSeq S (λ _=>#[]) >>= _) _ _ _;refine wpAny_bind ?_;refine wpAny_updateSeq a9 rfl (wpAny_bind (wpAny_letGo (wpAny_pure ?_)));have q:=hR (h'.update S (yL λ _=>#[])) s.toks λ b o h1 h2 e=>(yN _ _ (yb h2)).trans (eb b o h1 e);rw[hb] at q;exact q
 |succ k ih =>
  intro j s c hr hj hit hl ht hS hR;have ah:j<bs.length:=by omega
  have ej:bs.take (j+1)=bs.take j++[bs[j]]:=by rw[yl,zj ah];rfl
  have mj:bs[j]∈bs:=List.getElem_mem ah;refine codeAny_builtin PySem.F.entry_min_loop ?_;rw[yG zT _];show wpAny _ A.in1 (seqItems? (.ref S) >>= _) _ _ s;refine wpAny_bind (wpAny_seqItems hS rfl ?_);show wpAny _ A.in1 (tryCatch (pyNext (.ref I)) _ >>= _) _ _ s;refine wpAny_bind (wpAny_tryCatch (wpAny_pyNext_list_item (A:=A.in1) hit hl (x:=.ref bs[j].1) (by simp[ah]) λ h' ba sb=>?_));have b6:yS I s.heap h':=sb;have a9:h'.get? S=_:=(b6.2 S c9).trans hS;have bF:h'.IsList l (bs.map λ b=>zZ b.1).toArray:=hl.at λ o e=>(b6.2 l g7).trans e;have bV:∀b∈bs,IsTup h' b.1 (tv b.1):=λ b hb=>by
   obtain⟨o,ho,r⟩:=ht b hb;exact⟨o,(b6.2 b.1 (ez b hb).1).trans ho,r⟩
  cases hb:AX (bs.take j) with
  |none =>
   unfold Dc at a9 ⊢;rw[hb] at a9 ⊢;show wpAny _ A.in1 (updateSeq S (λ _=>#[.ref bs[j].1,.ref bs[j].1]) >>= _) _ _ _;refine wpAny_bind ?_;refine wpAny_updateSeq a9 rfl ?_;rw[a5];have s1:=Heap.SameBut.update h' S (yL λ _=>(#[.ref bs[j].1,.ref bs[j].1]:Array Value));refine wpAny_pure ⟨plainId_quiet zT _,ih (j+1) _ (c+1) (by omega) ah (ba.at λ o e=>(s1.2 I (yb c9)).trans e) (bF.at λ o e=>(s1.2 l i8).trans e) (λ b hb=>?_) ?_ λ bW tk aQ=>?_⟩
   ·obtain⟨o,ho,r⟩:=bV b hb;exact⟨o,(s1.2 b.1 (ez b hb).2).trans ho,r⟩
   ·refine (yR _ a9 rfl).trans ?_;unfold Dc;rw[ej,CS,hb];rfl
   ·exact hR bW tk λ b o h1 h2 e=>aQ b o h1 h2 ((s1.2 b h2).trans ((b6.2 b h1).trans e))
  |some m =>
   have mm:m∈bs:=yn (Kc _ _ hb);unfold Dc at a9 ⊢;rw[hb] at a9 ⊢;show wpAny _ A.in1 (tryCatch (holding [.ref bs[j].1,.ref bs[j].1] (richCompare .Lt (.ref bs[j].1) (.ref m.1) >>= _)) _ >>= _) _ _ _;refine wpAny_bind (wpAny_tryCatch (wpAny_holding (wpAny_bind (HT.Ie (bV _ mj) (bV _ mm) (hk _ mj) (hk _ mm) hu ?_))));refine wpAny_bind (wpAny_holding (wpAny_truthy_bool ?_));refine wpAny_bind (wpAny_letGo (wpAny_pure ?_));cases hc:HT.lexLt bs[j].2 m.2 with
   |true =>
    simp only[if_true];have s1:=Heap.SameBut.update h' S (yL λ _=>(#[.ref bs[j].1,.ref bs[j].1]:Array Value));refine wpAny_bind ?_;refine wpAny_updateSeq a9 rfl (wpAny_bind (wpAny_letGo ?_));rw[a5];refine wpAny_pure ⟨plainId_quiet zT _,ih (j+1) _ c (by omega) ah (ba.at λ o e=>(s1.2 I (yb c9)).trans e) (bF.at λ o e=>(s1.2 l i8).trans e) (λ b hb=>?_) ?_ λ bW tk aQ=>?_⟩
    ·obtain⟨o,ho,r⟩:=bV b hb;exact⟨o,(s1.2 b.1 (ez b hb).2).trans ho,r⟩
    ·refine (yR _ a9 rfl).trans ?_;unfold Dc;rw[ej,CS,hb];simp only[hc,if_true];rfl
    ·exact hR bW tk λ b o h1 h2 e=>aQ b o h1 h2 ((s1.2 b h2).trans ((b6.2 b h1).trans e))
   |false =>
    simp only[zB,if_false];refine wpAny_bind (wpAny_letGo ?_);rw[a5];refine wpAny_pure ⟨plainId_quiet zT _,ih (j+1) _ c (by omega) ah ba bF bV ?_ λ bW tk aQ=>?_⟩
    ·refine a9.trans ?_;unfold Dc;rw[ej,CS,hb];simp only[hc,zB,if_false]
    ·exact hR bW tk λ b o h1 h2 e=>aQ b o h1 h2 ((b6.2 b h1).trans e)
def Pg {E:Value->Shared->Prop}{s:Shared}{Q:Value->Shared->Prop}(bs:List (Addr×List Int))(n6:bs≠[])(tv:Addr->Array Value)(l:Addr)(hh:A.handled=none)(hu:A.in1.units<cLine)
 (hl:s.heap.IsList l (bs.map λ b=>zZ b.1).toArray) (ht:∀b∈bs,IsTup s.heap b.1 (tv b.1)) (hk:∀b∈bs,IntsAre (tv b.1).toList b.2)
 (hQ:∀h' tk,(∀b o,s.heap.get? b=some o->h'.get? b=some o)->Q (match AX bs with|none=>.none|some b=>.ref b.1) {s with heap:=h',toks:=tk}):
 wpAny (model prog w) A (call (.builtin "min") [.ref l]) Q E s:=by
 have a5:(toString "min" ++ toString ".loop" : String) = "min.loop" := by decide
 obtain⟨ol,e7,_⟩:=id hl;have uU:l<s.heap.objs.size:=zt e7;refine kmk_tree PySem.F.kind_min PySem.F.plain_min PySem.F.entry_min (by unfold argsOk;kernel_rfl) ?_;show wpAny _ A.in1 (yJ "min" ["key","default"] 0 ⟨[],[]⟩ >>= _) _ _ s;refine wpAny_bind (wpAny_of_eq (show yJ "min" ["key","default"] 0 ⟨[],[]⟩=pure [none,none] from rfl) ?_);refine wpAny_bind (wpAny_pure ?_);refine wpAny_bind (wpAny_pyIter_list hl ?_);refine wpAny_bind (wpAny_newList ?_ (zS _));rw[a5];have hS:(s.heap.push {cls:=.type "list_iterator",data:=.fields #[.ref l,.int 0 0]}).objs.size=s.heap.objs.size+1:=Heap.size_push ..;have old:∀b o,s.heap.get? b=some o->b≠s.heap.objs.size/\b≠(s.heap.push {cls:=.type "list_iterator",data:=.fields #[.ref l,.int 0 0]}).objs.size:=λ b o e=>⟨zD (zt e),by rw[hS];exact zD (Nat.lt_succ_of_lt (zt e))⟩;have grow:∀b o,s.heap.get? b=some o->((s.heap.push {cls:=.type "list_iterator",data:=.fields #[.ref l,.int 0 0]}).push {cls:=.type "list",data:=.seq #[]}).get? b=some o:=λ b o e=>zm _ (zm _ e);refine wpAny_pure ⟨plainId_quiet zT _,?_⟩;refine Vz bs n6 tv l s.heap.objs.size (s.heap.push {cls:=.type "list_iterator",data:=.fields #[.ref l,.int 0 0]}).objs.size hh hu (by rw[hS];exact Nat.succ_ne_self _) (old l ol e7).1 (old l ol e7).2 (λ b hb=>?_) hk _ 0 _ 0 rfl (zS _) ?_ ?_ (λ b hb=>?_) ?_ ?_
 ·obtain⟨o,ho,_⟩:=ht b hb;exact old b.1 o ho
 ·exact⟨_,zm _ (zF _ rfl),rfl,rfl⟩
 ·exact hl.at λ o e=>grow l o e
 ·obtain⟨o,ho,r⟩:=ht b hb;exact⟨o,grow b.1 o ho,r⟩
 ·exact zF _ rfl
 ·intro h' tk e8;exact hQ h' tk λ b o e=>e8 b o (old b o e).1 (old b o e).2 (grow b o e)
end
section
variable {X:Cx}{WX:Str->Hp->Prop}{c:Bool}{e:Expr}{f:Aa->M D}{pos:Pos}
def fI (K:za):List V->Hp->VK->Prop:=λ xs H Q=>∃(a:Addr) (bs:List (Addr×List Int)) (b:Addr×List Int),xs=[.ref a]/\Dn K H a (bs.map λ b=>V.ref b.1)/\(∀b∈bs,Er K H b.1 (b.2.map V.int))/\AX bs=some b/\Q (.ref b.1) H
def VA (hc:X.calm=true)(hu:X.A.units+1<cLine):FN X (.builtin "min") (fI X.K):=by
 intro pins s σ H xs us Q I r h;obtain⟨a,bs,b0,rfl,hl,hb,he,q⟩:=h;obtain⟨ua,rfl,ra⟩:=r.one;cases ra;obtain⟨aa,rv,pl,hz⟩:=I.list hl;have ei:=Kd rv;subst ei;have tv:∀a:Addr,∃t:Array Value,∀b∈bs,b.1=a->IsTup s.heap a t/\IntsAre t.toList b.2:=λ a=>by
  by_cases bX:∃b∈bs,b.1=a
  ·obtain⟨b,bX,rfl⟩:=bX;obtain⟨ts,rt,pt,_⟩:=I.tuple (hb b bX);refine⟨ts.toArray,λ b' a8 e=>⟨pt,?_⟩⟩;have q2:=hb b' a8;rw[e] at q2;have e2:=I.EY q2 (hb b bX);rw[<-e2] at rt;simpa using intsAre_of rt
  ·exact⟨#[],λ b a8 e=>absurd ⟨b,a8,e⟩ bX⟩
 have ae:bs≠[]:=λ z=>by subst z;cases he
 refine Pg bs ae (λ b=>zh (tv b)) a (I.ok.hd hc) hu pl.isList (λ b a8=>(zb (tv b.1) b a8 rfl).1) (λ b a8=>(zb (tv b.1) b a8 rfl).2) λ h' tk hk=>?_;rw[he];exact⟨.ref b0.1,H,I.kept (t':=tk) hk,rfl,q⟩
noncomputable def Ua (ds:List D):M D:=match ds with
 |[.lst xs]=>(match Gj xs with|some ks=>(match AX ks with|some k=>.ok k.1|none=>.bad)|none=>.bad)
 |_=>.bad
def ZW:J5 X.K WX (fI X.K) Ua:=by
 intro P H ds vs Q ht hl h;unfold Ua at h;split at h
 ·rename_i xs;obtain⟨v,rfl,hv⟩:=hl.one;split at h
  ·rename_i ks e1;cases hv with
   |lst hs hh =>
    obtain⟨bs,rfl,h2,h3⟩:=Ik hh e1;split at h
    ·rename_i k e2;rcases Mm h3 with ⟨q1,q2⟩|⟨b,k',q1,q2,_,q3⟩
     ·rw[q2] at e2;cases e2
     ·rw[q2] at e2;cases e2;exact⟨_,bs,b,rfl,hs.B8,λ b hb=>(h2 b hb).B8,q1,h _ H (Ae.refl H) q3⟩
    ·exact h.elim
  ·exact h.elim
 ·exact h.elim
def ZX {p:Pos}{n:Nat}(hc:X.calm=true)(hu:X.A.units+n<cLine)(hg:Gl X "min")(hm:X.mg "min" = none)(ha:DE X WX c e f)(hb:bootBuiltins "min" = some (.builtin "min"):=by decide +kernel)(hs:starEach [e] X.env=[(false,eval e X.env)]:=by rfl)(hn:1<=n:=by decide):DE X WX c (.Call (.Name "min" p) [e] [] pos) (λ ρ=>((f ρ).bind λ d=>(M.ok []).bind λ ds=>.ok (d::ds)).bind Ua):=
 Gh (VA hc (by omega)) ZW hg hm hb (A2 ha A8 hs) (he:=hs)
end
section
variable {X:Cx}{E:XK}{WX:Str->Hp->Prop}{c:Bool}{P0:Dg}{P:Addr->Prop}{H:Hp}{σ:St}{ρ:Aa}{a b e:Expr}{f g:Aa->M D}{fn:Aa->M OT}{fp:Aa->M (List Nat)}{pos:Pos}{i:Nat}
def ZY:V->List V->Hp->VK->Prop:=λ x vs H Q=>∃(l:Addr) (ns:List Int) (k:Int),x=.ref l/\vs=[.int k]/\H l=some (.lst (ns.map V.int))/\k∈ns/\Q .AD (upd H l (.lst ((ns.erase k).map V.int)))
def Oi {α β:Type}(f:α->β):∀(l:List α) (k:Nat),(l.eraseIdx k).map f=(l.map f).eraseIdx k
 |[],_=>rfl
 |_::_,0=>rfl
 |x::r,k+1=>by rw[List.eraseIdx_cons_succ,zg,zg,List.eraseIdx_cons_succ,Oi f r k]
noncomputable def SI (k:Int):Value->Bool
 | .int i _=>i==k
 |_=>false
def VB:pT X "list.remove" ZY:=by
 intro pins s σ H x vs v us Q I rx rv h;obtain⟨l,ns,k,rfl,rfl,hH,hk,q⟩:=h;cases rx;obtain⟨u,rfl,ru⟩:=rv.one;obtain⟨tk,rfl⟩:=ru;obtain⟨z,aa,n,r,hl,e⟩:=I.V6 hH;have hlen:=r.length;have f8:ns.idxOf k<ns.length:=List.idxOf_lt_length_iff.mpr hk;have f9:∀m (hm:m<aa.toArray.size) (tR:m<ns.length),∃t,aa.toArray[m]=Value.int ns[m] t:=λ m hm tR=>by
  have hx:(ns.map V.int)[m]?=some (V.int ns[m]):=by rw[zI,zj tR];rfl
  obtain⟨w,hw,bi⟩:=r.get hx;obtain⟨t,rfl⟩:=bi;refine⟨t,?_⟩;have:aa[m]?=some aa[m]:=zj (by simpa using hm);rw[hw] at this;simpa using (zE this).symm
 have hsz:aa.toArray.size=ns.length:=by rw[zk,<-hlen,ze]
 have hm:=MeetsSeq.list_remove l aa.toArray n (.int k tk) (SI k) (λ y hy=>by
  obtain⟨m,hm,rfl⟩:=Array.mem_iff_getElem.mp hy;obtain⟨t,ht⟩:=f9 m hm (by rw[<-hsz];exact hm);rw[ht];exact MeetsSeq.EqGives.int _ _ _ _) (ns.idxOf k) (by rw[hsz];exact f8) (by
  obtain⟨t,ht⟩:=f9 (ns.idxOf k) (by rw[hsz];exact f8) f8;rw[ht];simp[SI]) (λ m hm ah=>by
  obtain⟨t,ht⟩:=f9 m hm (by omega);rw[ht];have:=List.not_of_lt_findIdx (p:=(· == k)) (xs:=ns) (i:=m) ah;simpa [SI] using this) (by rw[zk];omega)
 refine call_meets F.slot_list_remove ⟨_,e,rfl⟩ F.entry_list_remove (F.args_list_remove_2 _ _) hm ⟨e,?_⟩;refine⟨.AD,_,I.Ze (its':=aa.eraseIdx (ns.idxOf k)) hH e ?_ ?_ ?_,rfl,q⟩
 ·show aa.toArray.eraseIdxIfInBounds _=_;rw[List.eraseIdxIfInBounds_toArray]
 ·rw[show ns.erase k=ns.eraseIdx (ns.idxOf k) from List.erase_eq_eraseIdx_of_idxOf rfl,Oi];exact r.eraseIdx _
 ·rw[ze];have:=List.length_erase_le (a:=k) (l:=ns);rw[ze] at z;omega
def VC (ha:DP X WX a i fp)(he:DE X WX true e f){apos ac:Pos}(hs:starEach [e] X.env=[(false,eval e X.env)]:=by rfl)
 (b5:swapsWith (.Call (.Attribute a "remove" apos) [e] [] ac) none pos.line X.env=pure false:=by rfl)
 (ar:attributeBase a "remove" X.env (eval a X.env)=eval a X.env:=by rfl)
 (aB:((backTo ac (starEach [e] X.env)).all (λ x => !x.1)&&(backToKw ac (keywordEach [] X.env)).all (λ x=>x.1.isSome)&&decide (([e]:List Expr).length+([]:List Keyword).length+(if ([]:List Keyword).isEmpty then 0 else 1)<30))=true:=by rfl)
 (au:(apos.endLine==ac.line)=true:=by rfl) (ap:(backTo ac (starEach [] X.env)).any (·.1)=false:=by rfl):
 DS X WX (.Expr (.Call (.Attribute a "remove" apos) [e] [] ac) pos) (λ ρ=>(fp ρ).bind λ π=>(S0 i ρ π).bind λ ds=>(f ρ).bind λ d=>match d,Cb ds with
  | .int k,some ns=>if k∈ns then Gr i ρ π (.lst (((ns.erase k).map D.int).map .sh)) else .bad
  |_,_=>.bad):=by
 obtain⟨ta,a1,a2⟩:=ha;obtain⟨te,e1,e2⟩:=he;refine⟨_,F9 (NY yz PySem.F.slot_list_remove PySem.F.type_list_remove VB a1 (Bk e1 Ci hs) ar aB au hs ap) b5,λ P0 P σ H Z ρ E h=>?_⟩;dsimp only at h;refine a2 P0 P σ H _ ρ E ?_;cases q:fp ρ with
 |bad=>rw[q] at h;exact h
 |ex x=>rw[q] at h;exact λ H' s=>h H' P (E.tr s)
 |ok π =>
  rw[q] at h;simp only[M.A7] at h;intro v t1 H1 s1 pl;have E1:=E.same s1;cases q1:S0 i ρ π with
  |bad=>rw[q1] at h;exact h.elim
  |ex x=>exact (XG q1).elim
  |ok ds =>
   rw[q1] at h;simp only[M.A7] at h;obtain⟨rfl,l,xs,rfl,hl,ol⟩:=pl.shl E1 q1;refine⟨.inl ⟨rfl,xs,.of hl⟩,e2 P0 P σ H1 _ ρ E1 ?_⟩;cases q2:f ρ with
   |bad=>rw[q2] at h;exact h
   |ex y=>rw[q2] at h;exact λ H' s=>h H' P ((E.tr s1).trans (E1.tr s))
   |ok d =>
    rw[q2] at h;simp only[M.A7] at h;intro w H2 s2 hw;have E2:=E1.same s2;have bM:=pl.same s2;cases d with
    |int k =>
     cases q3:Cb ds with
     |none=>rw[q3] at h;exact h.elim
     |some ns =>
      rw[q3] at h;dsimp only at h;by_cases hk:k∈ns
      ·rw[if_pos hk] at h;have:=Dz q3;subst this;have dr:=ol.mono s2.del;have ex:=DV dr;subst ex;have aM:=s2 _ _ hl;obtain⟨c,p,t0,g1,g2,E3,t3⟩:=E2.oJ (ys:=(ns.erase k).map V.int) (es:=(ns.erase k).map D.int) bM aM dr (Ag.ints _);rw[Fj g1 g2] at h;exact⟨l,ns,k,rfl,by rw[hw.int_inv],aM,hk,h _ _ _ (((E.tr s1).trans (E1.tr s2)).trans t3) E3⟩
      ·rw[if_neg hk] at h;exact h.elim
    |_=>exact h.elim
end
section
variable {X:Cx}{WX:Str->Hp->Prop}{c:Bool}{P0:Dg}{P:Addr->Prop}{H:Hp}{σ:St}{ρ:Aa}{a b e:Expr}{f g:Aa->M D}{fn:Aa->M OT}{pos:Pos}{te:TE}
noncomputable def oK (ds:List D):M D:=match ds with
 |[.lst xs]=>(match Cb xs with|some ns=>.ok (.int ns.sum)|none=>.bad)
 |_=>.bad
noncomputable def sA (te:TE):TE:=λ σ H Q=>te σ H λ x H1=>∃n:Nat,x=.int (n:Int)/\n<=1000/\∀r,H1 r=none->Q (.ref r) (upd H1 r (.lst ((yf n).map λ i:Nat=>V.int (i:Int))))
def VD {acc:Array Value}{n:Nat}(h:ItemsOf (λ i v=>∃t,v=Value.int (0+(i:Int)*1) t) acc n):Vals ((yf n).map λ i:Nat=>V.int (i:Int)) acc.toList:=by
 obtain⟨h1,h2⟩:=h;have key:∀(l:List Value) (k:Nat),(∀i v,l[i]?=some v->∃t,v=Value.int ((k+i:Nat):Int) t)->Vals ((List.range' k l.length).map λ i:Nat=>V.int (i:Int)) l:=by
  intro l;induction l with
  |nil=>intro k _;exact .nil
  |cons v r ih =>
   intro k hk;rw[zp,List.range'_succ,zg];refine .cons (by obtain⟨t,e⟩:=hk 0 v rfl;exact⟨t,by simpa using e⟩) (ih (k+1) λ i w hw=>?_);obtain⟨t,e⟩:=hk (i+1) w (by simpa using hw);exact⟨t,by rw[e];congr 1;omega⟩
 have:=key acc.toList 0 (λ i v hv=>by
  obtain⟨t,e⟩:=h2 i v (by rw[<-Array.getElem?_toList];exact hv);exact⟨t,by rw[e];congr 1;omega⟩)
 rw[Array.length_toList,h1] at this;rw[List.range_eq_range'];exact this
def Ph {p p2 b8:Pos}(hc:X.calm=true)(hg:Gl X "list")(hm:X.mg "list" = none)(ja:Gl X "range")(cq:X.mg "range" = none)(he:PE X e te)
 (hv:bootBuiltins "list" = some (.type "list"):=by decide +kernel)
 (hs:starEach [.Call (.Name "range" p2) [e] [] b8] X.env=[(false,eval (.Call (.Name "range" p2) [e] [] b8) X.env)]:=by rfl) (aR:starEach [e] X.env=[(false,eval e X.env)]:=by rfl):
 PE X (.Call (.Name "list" p) [.Call (.Name "range" p2) [e] [] b8] [] pos) (sA te):=by
 intro pins s σ H Q I h;refine wpAny_Call_Name_kw (Ez I hg hm hv ?_);refine yk ?_ hs;rw[hs];refine yO ?_;refine wpAny_Call_Name_kw (Ez I ja cq boot_range ?_);refine yk ?_ aR;rw[aR];refine yO (Bh (he pins s σ H _ I h) λ u s1 ⟨x,H1,I1,r1,q1⟩=>?_);obtain⟨n,rfl,hn,q⟩:=q1;obtain⟨t,rfl⟩:=r1;refine yT ?_;refine call_range_1 ?_;refine yT ?_;have h4:((n:Nat):Int)<2^62:=by omega
 refine call_list_range (n:=n) (I1.ok.hd hc) (IsRange.new ..) (small_one (by omega) (by omega) (by omega) h4) (by rw[rangeSize_one];split<;>omega) (by omega) λ h' tk n9 c' hk a9 oa=>?_;have kp:∀b o,s1.heap.get? b=some o->h'.get? b=some o:=λ b o e=>hk b o (zm _ e);have rv:=VD oa;have jk:∀o:Obj,s1.heap.objs.size<=(s1.heap.push o).objs.size:=λ o=>by simp[Heap.push]
 refine⟨.ref _,_,I1.laid (t':=tk) (o:=.lst ((yf n).map λ i:Nat=>V.int (i:Int))) kp (jk _) ⟨?_,n9.toList,c',rv,by simpa using a9⟩,rfl,q _ (I1.Ax.fresh (jk _))⟩;rw[ze,List.length_range];exact yd (AG hn)
noncomputable def qC (d:D):M OT:=match d with
 | .int j=>@ite _ (0<=j/\j<=1000) (xn _) (.ok (.lst ((Cj 0 j.toNat).map .sh))) .bad
 |_=>.bad
def Pj {n:Nat}(h:n<=1000):qC (.int (n:Int))=.ok (.lst (((yf n).map λ i:Nat=>D.int (i:Int)).map .sh)):=by
 unfold qC;dsimp only;rw[if_pos ⟨by omega,by omega⟩,y8,Mn]
def Jm {p p2 b8:Pos}(hc:X.calm=true)(hg:Gl X "list")(hm:X.mg "list" = none)(ja:Gl X "range")(cq:X.mg "range" = none)(he:DE X WX true e f)
 (hv:bootBuiltins "list" = some (.type "list"):=by decide +kernel)
 (hs:starEach [.Call (.Name "range" p2) [e] [] b8] X.env=[(false,eval (.Call (.Name "range" p2) [e] [] b8) X.env)]:=by rfl) (aR:starEach [e] X.env=[(false,eval e X.env)]:=by rfl):
 DN X WX (.Call (.Name "list" p) [.Call (.Name "range" p2) [e] [] b8] [] pos) (λ ρ=>(f ρ).bind qC):=by
 obtain⟨te,e1,e2⟩:=he;refine⟨_,Ph hc hg hm ja cq e1 hv hs aR,λ P0 P σ H Q ρ E h=>?_⟩;refine e2 P0 P σ H _ ρ E ?_;dsimp only at h;cases q:f ρ with
 |bad=>rw[q] at h;exact h
 |ex x=>rw[q] at h;exact h
 |ok d =>
  rw[q] at h;simp only[M.A7] at h;intro v H1 s1 hv;cases d with
  |int j =>
   by_cases hj:0<=j/\j<=1000
   ·obtain⟨n,rfl⟩:∃n:Nat,j=n:=⟨j.toNat,by omega⟩;rw[Pj (by omega)] at h;refine⟨n,hv.int_inv,by omega,λ r hr=>h.Kk s1 (xs:=(yf n).map λ i:Nat=>V.int (i:Int)) ?_ r hr⟩;have:∀l:List Nat,Ag X.K (del H1 P) (l.map λ i:Nat=>V.int (i:Int)) (l.map λ i:Nat=>D.int (i:Int)):=λ l=>by
     induction l with
     |nil=>exact .nil
     |cons x r ih=>exact .cons (.int _) ih
    exact this _
   ·have e:qC (.int j)=.bad:=if_neg hj;rw[e] at h;exact h.elim
  |_=>exact h.elim
noncomputable def ZZ (lo hi:Option Int)(d:D):M OT:=match d with
 | .lst ds=>.ok (.lst (((ds.drop (HT.M7 ds.length 0 lo)).take (HT.M7 ds.length ds.length hi-HT.M7 ds.length 0 lo)).map .sh))
 |_=>.bad
def MC {lo hi:Option Expr}{og fh:Aa->M (Option Int)}{p2:Pos}(ha:DE X WX true e f)(hl:DO X WX true lo og)(hh:DO X WX true hi fh):DN X WX (.Subscript e (.Slice lo hi none p2) pos) (λ ρ=>(f ρ).bind λ d=>(og ρ).bind λ l=>(fh ρ).bind λ u=>ZZ l u d):=by
 obtain⟨ta,a1,a2⟩:=ha;obtain⟨tl,l1,l2⟩:=hl;obtain⟨th,h1,h2⟩:=hh;refine⟨_,WV Zd a1 l1 h1,λ P0 P σ H Q ρ E h=>?_⟩;dsimp only at h;refine a2 P0 P σ H _ ρ E ?_;cases q:f ρ with
 |bad=>rw[q] at h;exact h
 |ex x=>rw[q] at h;exact h
 |ok d =>
  rw[q] at h;intro v H1 s1 hv;refine l2 P0 P σ H1 _ ρ (E.same s1) ?_;cases q2:og ρ with
  |bad=>rw[q2] at h;exact h
  |ex y=>rw[q2] at h;exact λ H' s=>h H' (s1.trans s)
  |ok l =>
   rw[q2] at h;intro H2 s2;refine h2 P0 P σ H2 _ ρ ((E.same s1).same s2) ?_;cases q3:fh ρ with
   |bad=>rw[q3] at h;exact h
   |ex y=>rw[q3] at h;exact λ H' s=>h H' ((s1.trans s2).trans s)
   |ok u =>
    rw[q3] at h;simp only[M.A7] at h;intro H3 s3;unfold ZZ at h;split at h
    ·cases hv with
     |lst hs hl =>
      refine⟨_,_,rfl,(s3.seq (s2.seq hs.B8)),λ p hp=>h.Kk ((s1.trans s2).trans s3) ?_ p hp⟩;unfold WW;rw[hl.length];exact ((((hl.drop _).take _).mono s2.del).mono s3.del)
    ·exact h.elim
def XN:tN X.K WX (fG X.K) QL:=by
 intro P H x y v w Q ht hx hy h;unfold QL at h;split at h
 ·rename_i ds es;by_cases hl:ds.length+es.length<=1000
  ·rw[if_pos hl] at h;cases hx with
   |lst h1 h2 =>
    cases hy with
    |lst h3 h4=>exact⟨_,_,_,_,rfl,rfl,h1.B8,h3.B8,yd (AG (by rw[h2.length,h4.length];exact hl)),h.Kk (Ae.refl _) (h2.tK h4)⟩
  ·rw[if_neg hl] at h;exact h.elim
 ·exact h.elim
def cB (ha:DE X WX true a f)(hb:DE X WX true b g):DN X WX (.BinOp a .Add b pos) (λ ρ=>(f ρ).bind λ x=>(g ρ).bind λ y=>QL x y):=by
 obtain⟨ta,a1,a2⟩:=ha;obtain⟨tb,b1,b2⟩:=hb;exact⟨_,WI ZH a1 b1,λ P0 P σ H Q ρ E h=>oA a2 b2 XN E h⟩
def GK (μ:List (Option Nat))(g:TG):Prop:=∀σ0 σ x H Q,(∀(j:Nat) v,(EB μ σ0)[j]?=some (some v)->σ[j]?=some (some v))->g x σ H Q->g x σ H λ σ' H'=>Q σ' H'/\∀(j:Nat) v,(EB μ σ0)[j]?=some (some v)->σ'[j]?=some (some v)
def oM (μ:List (Option Nat))(g:Wn):Prop:=∀σ0 σ x H Q,(∀(j:Nat) v,(EB μ σ0)[j]?=some (some v)->σ[j]?=some (some v))->g x σ H Q->g x σ H λ σ' H'=>Q σ' H'/\∀(j:Nat) v,(EB μ σ0)[j]?=some (some v)->σ'[j]?=some (some v)
def GK.keeps {μ:List (Option Nat)}{g:TG}(h:GK μ g):Kb μ g:=λ σ x H Q q=>h σ (EB μ σ) x H Q (λ _ _ z=>z) q
def cC {μ:List (Option Nat)}{i:Nat}(h:μ[i]?=some none):GK μ (NR i):=λ σ0 σ x H Q hk q=>by
 refine⟨q,λ j v hj=>?_⟩;have ae:i≠j:=λ z=>by
  subst z;unfold EB at hj;rw[zI,h] at hj;cases hj
 rw[yi ae];exact hk j v hj
def cD {μ:List (Option Nat)}:oM μ gQ:=λ σ0 σ x H Q hk q=>⟨q.1,q.2,hk⟩
def XO {μ:List (Option Nat)}{t:TG}{u:Wn}(mono:∀v σ H Q Q',(∀σ' H',Q σ' H'->Q' σ' H')->t v σ H Q->t v σ H Q')(ht:GK μ t)(hu:oM μ u):oM μ (WB t u):=λ σ0 σ x H Q hk q=>by
 obtain⟨v,r,rfl,q⟩:=q;exact⟨v,r,rfl,mono _ _ _ _ _ (λ σ' H' z=>hu σ0 σ' r H' Q z.2 z.1) (ht σ0 σ v H _ hk q)⟩
def jP {K:za}{μ:List (Option Nat)}{n:Nat}{t:Wn}(h:oM μ t):GK μ (gR K n t):=λ σ0 σ x H Q hk q=>by
 obtain⟨a,xs,rfl,h1,h2,q⟩:=q;exact⟨a,xs,rfl,h1,h2,h σ0 σ xs H Q hk q⟩
variable {cA:List D->Aa->M Aa}{gt:D->Aa->M Aa}{es:List Expr}
def cE (X:Cx)(scope:Scope)(NB:List Str)(μ:List (Option Nat))(es:List Expr)(gt:List D->Aa->M Aa):Prop:=
 ∃g:Wn,(∀s H C ex,lC (blockOf X s H scope C NB ex) es g)/\oM μ g/\∀P0 P σ H Q ρ vs ds,Ak X.K P0 P H σ ρ->Ag X.K (del H P) vs ds->gG X.K P0 P H Q (gt ds ρ)->g vs σ H Q
def MD {scope:Scope}{NB:List Str}{μ:List (Option Nat)}:cE X scope NB μ [] (λ ds ρ=>match ds with | []=>.ok ρ | _=>.bad):=
 ⟨gQ,λ s H C ex=>TF,cD,λ P0 P σ H Q ρ vs ds E hv h=>by
  cases hv with
  |nil=>exact⟨rfl,h σ E⟩
  |cons _ _=>exact h.elim⟩
def DB {scope:Scope}{NB:List Str}{μ:List (Option Nat)}(i:Nat){x:Str}{px:Pos}(hN:NB.Nodup)(hi:NB[i]?=some x)(hx:(relabel scope X.env).names.lookup x=some .local)(hm:μ[i]?=some none)(hr:cE X scope NB μ es cA)
 (hs:∀s H C ex,(assignEach (.Name x px::es) (blockOf X s H scope C NB ex).env).map (·.2)=assign (.Name x px) (blockOf X s H scope C NB ex).env::(assignEach es (blockOf X s H scope C NB ex).env).map (·.2):=by intro _ _ _ _;rfl):
 cE X scope NB μ (.Name x px::es) (λ ds ρ=>match ds with|d::r=>cA r (ρ.set i (some (.val d)))|[]=>.bad):=by
 obtain⟨gr,r1,r2,r3⟩:=hr;refine⟨WB (NR i) gr,λ s H C ex=>Qk (OP (X:=blockOf X s H scope C NB ex) hN hi (.inl hx) (.inr hx)) (r1 s H C ex) (hs s H C ex),XO (λ v σ H Q Q' hq h=>hq _ _ h) (cC hm) r2,λ P0 P σ H Q ρ vs ds E hv h=>?_⟩;cases hv with
 |nil=>exact h.elim
 |cons h1 h2=>exact⟨_,_,rfl,r3 P0 P _ H Q _ _ _ (E.Vi h1) h2 h⟩
def Pk {scope:Scope}{NB:List Str}{μ:List (Option Nat)}{k n:Nat}{pt:Pos}(hc:X.calm=true)(h:cE X scope NB μ es cA)
 (hn:∀s H C ex,(assignEach es (blockOf X s H scope C NB ex).env).length=n:=by intro _ _ _ _;rfl) (aN:∀s H C ex,(assignEach es (blockOf X s H scope C NB ex).env).findIdx? (·.1)=none:=by intro _ _ _ _;rfl):
 pW X scope NB μ (.Tuple es k pt) (λ d ρ=>match d with | .tup ds=>if ds.length=n then cA ds ρ else .bad|_=>.bad):=by
 obtain⟨t,a1,a2,a3⟩:=h;refine⟨gR X.K n t,λ s H C ex=>WC (X:=blockOf X s H scope C NB ex) hc (a1 s H C ex) (hn s H C ex) (aN s H C ex),(jP a2).keeps,λ P0 P σ H Q ρ v d E hv h=>?_⟩;cases hv with
 | @tup a xs ds hs hl =>
  dsimp only at h;by_cases hd:ds.length=n
  ·rw[if_pos hd] at h;exact⟨a,xs,rfl,Er.of (Ai hs).2,by rw[hl.length];exact hd,a3 P0 P σ H Q ρ xs ds E hl h⟩
  ·rw[if_neg hd] at h;exact h.elim
 |_=>exact h.elim
end
def VE (K:za)(d:D):yW K (.type (ZA d)) (.type "dict")=some (DQ "dict" d):=by cases d<;>rfl
section
variable {X:Cx}{E:XK}{WX:Str->Hp->Prop}{c:Bool}{P0:Dg}{P:Addr->Prop}{H:Hp}{σ:St}{ρ:Aa}{a b e:Expr}{f g:Aa->M D}{fn:Aa->M OT}{fx:Aa->M (Aa×OT)}{fp:Aa->M (List Nat)}{pos:Pos}{i:Nat}{te:TE}
def cF:J5 X.K WX (λ xs H Q=>∃i j,xs=[.int i,.int j]/\Q (.int (if j<i then j else i)) H) (λ ds=>match ds with | [.int i,.int j]=>.ok (.int (if j<i then j else i)) | _=>.bad):=by
 intro P H ds vs Q ht hl h;dsimp only at h;split at h
 ·obtain⟨v,w,rfl,h1,h2⟩:=hl.two;exact⟨_,_,by rw[h1.int_inv,h2.int_inv],h _ H (Ae.refl H) (.int _)⟩
 ·exact h.elim
def cG {p:Pos}(hc:X.calm=true)(hg:Gl X "min")(hm:X.mg "min" = none)(ha:DE X WX c a f)(g9:DE X WX c b g)(hb:bootBuiltins "min" = some (.builtin "min"):=by decide +kernel)(hs:starEach [a,b] X.env=(false,eval a X.env)::starEach [b] X.env:=by rfl)(aR:starEach [b] X.env=[(false,eval b X.env)]:=by rfl)
 (hpl:(backTo pos (starEach [b] X.env)).any (·.1)=false:=by rfl):
 DE X WX c (.Call (.Name "min" p) [a,b] [] pos) (λ ρ=>((f ρ).bind λ d=>((g ρ).bind λ d2=>(M.ok []).bind λ ds=>.ok (d2::ds)).bind λ ds=>.ok (d::ds)).bind (λ ds=>match ds with|[.int i,.int j]=>.ok (.int (if j<i then j else i))|_=>.bad)):=
 Gh (V0 hc) cF hg hm hb (A2 ha (A2 g9 A8 aR) hs) (he:=hs) (hpl:=hpl)
end
def WP (m:M Out)(nx:Aa->Prop)(rt:Out->Prop)(ex:Str->Prop):Prop:=match m with
 | .ok (.next ρ)=>nx ρ
 | .ok o=>rt o
 | .ex x=>ex x
 | .bad=>False
section
variable {nx:Aa->Prop}{rt:Out->Prop}{ex:Str->Prop}{m:M Out}{k:Aa->M Out}{ρ ρ':Aa}
def Bt (h:m=.ok (.next ρ'))(hn:nx ρ'):WP m nx rt ex:=by rw[h];exact hn
def WP.mono {tS:Aa->Prop}{tT:Out->Prop}{lm:Str->Prop}(h:WP m nx rt ex)(h1:∀ρ,nx ρ->tS ρ)(h2:∀o,rt o->tT o)(h3:∀x,ex x->lm x):WP m tS tT lm:=by
 cases m with
 |bad=>exact h
 |ex x=>exact h3 x h
 |ok o =>
  cases o with
  |next ρ=>exact h1 ρ h
  |ret d=>exact h2 _ h
  |brk d=>exact h2 _ h
  |cont d=>exact h2 _ h
  |Ca d=>exact h2 _ h
  |Ep d ρ=>exact h2 _ h
def wp_seq (h:WP m (λ ρ=>WP (k ρ) nx rt ex) rt ex):WP (Xj m k) nx rt ex:=by
 cases m with
 |bad=>exact h
 |ex x=>exact h
 |ok o =>
  cases o with
  |next ρ=>exact h
  |ret d=>exact h
  |brk d=>exact h
  |cont d=>exact h
  |Ca d=>exact h
  |Ep d ρ=>exact h
def wp_step (h:m=.ok (.next ρ'))(hk:WP (k ρ') nx rt ex):WP (Xj m k) nx rt ex:=by rw[h];exact hk
def C3 {I:Aa->Prop}(h:WP m I rt ex)(hk:∀ρ,I ρ->WP (k ρ) nx rt ex):WP (Xj m k) nx rt ex:=wp_seq (h.mono hk (λ _ h=>h) λ _ h=>h)
def inLoop (I:Aa->Prop)(nx:Aa->Prop)(rt:Out->Prop)(o:Out):Prop:=match o with
 | .cont ρ=>I ρ
 | .brk ρ=>nx ρ
 |o=>rt o
def BL {gt:D->Aa->M Aa}{gb:Aa->M Out}{ds:List D}(I:Nat->Aa->Prop)(h0:I 0 ρ)
 (step:∀i d ρ,ds[i]?=some d->I i ρ->∃ρ1,gt d ρ=.ok ρ1/\WP (gb ρ1) (I (i+1)) (inLoop (I (i+1)) nx rt) ex) (done:∀ρ,I ds.length ρ->nx ρ):WP (forM gt gb ds ρ) nx rt ex:=by
 have key:∀(n i:Nat) (ρ:Aa),i+n=ds.length->I i ρ->WP (forM gt gb (ds.drop i) ρ) nx rt ex:=by
  intro n;induction n with
  |zero =>
   intro i ρ hi h;have e:i=ds.length:=by omega
   subst e;rw[xk,forM];exact done ρ h
  |succ n ih =>
   intro i ρ hi h;have ah:i<ds.length:=by omega
   obtain⟨ρ1,h1,h2⟩:=step i ds[i] ρ (zj ah) h;rw[Gi ah,forM,h1];dsimp only;cases q:gb ρ1 with
   |bad=>rw[q] at h2;exact h2
   |ex x=>rw[q] at h2;exact h2
   |ok o =>
    rw[q] at h2;cases o with
    |next ρ2=>exact ih (i+1) ρ2 (by omega) h2
    |ret d=>exact h2
    |Ca d=>exact h2
    |Ep d ρ2=>exact h2
    |cont ρ2=>exact ih (i+1) ρ2 (by omega) h2
    |brk ρ2=>exact h2
 have:=key ds.length 0 ρ (by omega) h0;rw[List.drop_zero] at this;exact this
def QR {α:Type}{c:Aa->M Bool}{b:Aa->M Out}{lt:α->α->Prop}(J:α->Aa->Prop){x:α}(hx:Acc lt x)(h0:J x ρ)
 (step:∀x ρ,J x ρ->(c ρ=.ok false/\nx ρ)\/(c ρ=.ok true/\WP (b ρ) (λ ρ2=>∃y,lt y x/\J y ρ2) (inLoop (λ ρ2=>∃y,lt y x/\J y ρ2) nx rt) ex)):WP (KQ c b ρ) nx rt ex:=by
 have key:∀x,Acc lt x->∀ρ,J x ρ->∃n,Aw c b n ρ≠.bad/\WP (Aw c b n ρ) nx rt ex:=by
  intro x hx;induction hx with
  |intro x _ ih =>
   intro ρ h;rcases step x ρ h with ⟨h1,h2⟩|⟨h1,h2⟩
   ·refine⟨1,?_,?_⟩
    ·rw[Aw,h1];intro z;cases z
    ·rw[Aw,h1];exact h2
   ·cases q:b ρ with
    |bad=>rw[q] at h2;exact h2.elim
    |ex y =>
     rw[q] at h2;refine⟨1,?_,?_⟩
     ·rw[Aw,h1];dsimp only;rw[q];intro z;cases z
     ·rw[Aw,h1];dsimp only;rw[q];exact h2
    |ok o =>
     rw[q] at h2;have go:∀ρ2,(∃y,lt y x/\J y ρ2)->(∀n,Aw c b (n+1) ρ=Aw c b n ρ2)->∃n,Aw c b n ρ≠.bad/\WP (Aw c b n ρ) nx rt ex:=by
      rintro ρ2 ⟨y,hy,hJ⟩ e;obtain⟨n,h3,h4⟩:=ih y hy ρ2 hJ;exact⟨n+1,by rw[e];exact h3,by rw[e];exact h4⟩
     cases o with
     |next ρ2=>exact go ρ2 h2 λ n=>by rw[Aw,h1];dsimp only;rw[q]
     |cont ρ2=>exact go ρ2 h2 λ n=>by rw[Aw,h1];dsimp only;rw[q]
     |brk ρ2 =>
      refine⟨1,?_,?_⟩
      ·rw[Aw,h1];dsimp only;rw[q];intro z;cases z
      ·rw[Aw,h1];dsimp only;rw[q];exact h2
     |ret d =>
      refine⟨1,?_,?_⟩
      ·rw[Aw,h1];dsimp only;rw[q];intro z;cases z
      ·rw[Aw,h1];dsimp only;rw[q];exact h2
     |Ca d =>
      refine⟨1,?_,?_⟩
      ·rw[Aw,h1];dsimp only;rw[q];intro z;cases z
      ·rw[Aw,h1];dsimp only;rw[q];exact h2
     |Ep d ρ2 =>
      refine⟨1,?_,?_⟩
      ·rw[Aw,h1];dsimp only;rw[q];intro z;cases z
      ·rw[Aw,h1];dsimp only;rw[q];exact h2
 obtain⟨n,h1,h2⟩:=key x hx ρ h0;unfold KQ;have hx:∃n,Aw c b n ρ≠.bad:=⟨n,h1⟩;rw[dif_pos hx];have e:Aw c b (zh hx) ρ=Aw c b n ρ:=by
  have a:=Cq (zb hx) n;have b':=Cq h1 (zh hx);rw[Nat.add_comm] at b';rw[<-a,<-b']
 rw[e];exact h2
def tU (Q:OT->Prop)(o:Out):Prop:=match o with
 | .ret d=>Q (.sh d)
 | .Ca c=>∃t,oB c=.ok t/\Q t
 |_=>False
def ME {Q:OT->Prop}(h:WP m (λ _=>Q (.sh .AD)) (tU Q) (λ _=>False)):∃t,Vw m=.ok t/\Q t:=by
 cases m with
 |bad=>exact h.elim
 |ex x=>exact h.elim
 |ok o =>
  cases o with
  |next ρ=>exact⟨_,rfl,h⟩
  |ret d=>exact⟨_,rfl,h⟩
  |Ca c=>exact h
  |Ep c ρ=>exact h.elim
  |brk ρ=>exact h.elim
  |cont ρ=>exact h.elim
def Bl {t:OT}(h:WP m (λ _=>OT.sh .AD=t) (tU (·=t)) (λ _=>False)):Vw m=.ok t:=by
 obtain⟨u,h1,h2⟩:=ME (Q:=(·=t)) h;rw[h1,h2]
def tV (Q:D->Prop)(o:Out):Prop:=match o with
 | .ret d=>Q d
 | .Ca c=>∃t,rX c=.ok t/\Q t
 |_=>False
def oN {Q:D->Prop}(h:WP m (λ _=>Q .AD) (tV Q) (λ _=>False)):∃t,fin m=.ok t/\Q t:=by
 cases m with
 |bad=>exact h.elim
 |ex x=>exact h.elim
 |ok o =>
  cases o with
  |next ρ=>exact⟨_,rfl,h⟩
  |ret d=>exact⟨_,rfl,h⟩
  |Ca c=>exact h
  |Ep c ρ=>exact h.elim
  |brk ρ=>exact h.elim
  |cont ρ=>exact h.elim
def oO {d:D}(h:WP m (λ _=>D.AD=d) (tV (·=d)) (λ _=>False)):fin m=.ok d:=by
 obtain⟨u,h1,h2⟩:=oN (Q:=(·=d)) h;rw[h1,h2]
end
section
variable {d:D}{ds es:List D}{ρ ρ':Aa}{o:Option Cl}{i n:Nat}{p:Option Nat}{t u:OT}{π:List Nat}{b:Bool}{ks vs:List D}{ts:List OT}{m:M D}
theorem oP:rv 0 (some (.val d)::ρ)=.ok d:=rfl
theorem oQ:rv (i+1) (o::ρ)=rv i ρ:=rfl
noncomputable def QS (f:Aa->Aa)(m:M Out):M Out:=match m with
 | .ok (.next ρ)=>.ok (.next (f ρ))
 |m=>m
theorem Jn {f:Aa->Aa}:QS f (.ok (.next ρ))=.ok (.next (f ρ)):=rfl
theorem Jo:QM 0 (some (.own ds)::ρ)=.ok []:=rfl
theorem Jp:QM 0 (some (.ow (.Ld n ds))::ρ)=.ok []:=rfl
def Hq:QM 0 (some (.ow (.tree p t))::ρ)=.ok []:=by unfold QM SG;simp[treeOf]
theorem Ub:QM (i+1) (o::ρ)=QM i ρ:=rfl
theorem Uc:SG 0 (some (.own ds)::ρ) π=Kh (.lst (ds.map .sh)) π:=rfl
theorem Ud:SG 0 (some (.ow (.Ld n ds))::ρ) π=Kh (.lst (ds.map .sh)) π:=rfl
theorem MF:SG 0 (some (.ow (.tree p t))::ρ) π=Kh t π:=rfl
def LB:S0 0 (some (.own ds)::ρ) []=.ok ds:=by unfold S0;simp[Uc,Cr]
def LC:S0 0 (some (.ow (.Ld n ds))::ρ) []=.ok ds:=by unfold S0;simp[Ud,Cr]
def Jq:S0 0 (some (.ow (.tree p (.lst (ds.map .sh))))::ρ) []=.ok ds:=by unfold S0;simp[MF,Cr]
theorem cH:S0 (i+1) (o::ρ) π=S0 i ρ π:=rfl
def Hr:E5 0 (some (.own ds)::ρ) []=.ok (ds.map .sh):=by unfold E5;simp[Uc]
def Hs:E5 0 (some (.ow (.Ld n ds))::ρ) []=.ok (ds.map .sh):=by unfold E5;simp[Ud]
def Fl:E5 0 (some (.ow (.tree p (.lst ts)))::ρ) []=.ok ts:=by unfold E5;simp[MF]
theorem Pm:E5 (i+1) (o::ρ) π=E5 i ρ π:=rfl
def CW:Et 0 (some (.ow (.tree p (.Ba b ks (vs.map .sh))))::ρ) []=.ok (b,ks,vs):=by unfold Et;simp[MF,Cr]
theorem Pn:Et (i+1) (o::ρ) π=Et i ρ π:=rfl
def Jr:Gr 0 (some (.own ds)::ρ) [] u=.ok (.next (some (toCl none u)::ρ)):=by unfold Gr;simp[treeOf]
def Js:Gr 0 (some (.ow (.Ld n ds))::ρ) [] u=.ok (.next (some (toCl (some n) u)::ρ)):=by unfold Gr;simp[treeOf]
def Ht:Gr 0 (some (.ow (.tree p t))::ρ) π u=.ok (.next (some (toCl p (EE t π u))::ρ)):=by unfold Gr;simp[treeOf]
def Ue:Gr (i+1) (o::ρ) π u=QS (o::·) (Gr i ρ π u):=by
 unfold Gr QS;simp only[zQ,zu];split
 ·rename_i c e;split<;>simp_all
 ·simp_all
theorem Jt:Vj 0 (some (.own ds)::ρ) (.ok d)=if ds.length<1000 then .ok (.next (some (.own (ds++[d]))::ρ)) else .bad:=rfl
def Ug:Vj (i+1) (o::ρ) m=QS (o::·) (Vj i ρ m):=by
 unfold Vj;rw[zQ];cases q:ρ[i]? with
 |none=>rfl
 |some oo =>
  cases oo with
  |none=>rfl
  |some c =>
   cases c with
   |own ds =>
    cases m with
    |ok d =>
     simp only[M.A7,zu];by_cases h:ds.length<1000
     ·rw[if_pos h,if_pos h];rfl
     ·rw[if_neg h,if_neg h];rfl
    |ex x=>rfl
    |bad=>rfl
   |val d=>rfl
   |ow w=>rfl
theorem Ju {j:Int}:Vr 0 (some (.own ds)::ρ) (.ok (.int j)) (.ok d)=if 0<=j/\j.toNat<=ds.length/\ds.length<1000 then .ok (.next (some (.own (ds.take j.toNat++d::ds.drop j.toNat))::ρ)) else .bad:=rfl
def Uh {m2:M D}:Vr (i+1) (o::ρ) m m2=QS (o::·) (Vr i ρ m m2):=by
 unfold Vr;rw[zQ];cases q:ρ[i]? with
 |none=>rfl
 |some oo =>
  cases oo with
  |none=>rfl
  |some c =>
   cases c with
   |own ds =>
    cases m with
    |ok d =>
     cases m2 with
     |ok d2 =>
      simp only[M.A7,zu];cases d with
      |int j =>
       dsimp only;by_cases h:0<=j/\j.toNat<=ds.length/\ds.length<1000
       ·rw[if_pos h,if_pos h];rfl
       ·rw[if_neg h,if_neg h];rfl
      |_=>rfl
     |ex x=>rfl
     |bad=>rfl
    |ex x=>rfl
    |bad=>rfl
   |val d=>rfl
   |ow w=>rfl
theorem Jv:SF 0 (some (.val d)::ρ)=.ok (.ret d):=rfl
theorem Jw:SF 0 (some (.own ds)::ρ)=.ok (.Ca (.own ds)):=rfl
theorem LD {w:Ow}:SF 0 (some (.ow w)::ρ)=.ok (.Ca (.ow w)):=rfl
theorem Ui:SF (i+1) (o::ρ)=SF i ρ:=rfl
theorem tW:rY i ρ π=match SG i ρ π with | some (.sh d)=>.ok d | _=>.bad:=rfl
def cI:XD (i+1) (o::ρ)=o::XD i ρ:=by
 unfold XD;simp only[zQ,zu];split<;>simp_all
theorem cJ {c:Cl}:XD 0 (some c::ρ)=some (Le c)::ρ:=rfl
theorem Jx:Le (.val d)=.val d:=rfl
theorem Jy:Le (.own ds)=.val (.lst ds):=rfl
theorem Jz:Le (.ow (.Ld n ds))=.val (.lst ds):=rfl
theorem LF:Le (.ow (.tree p t))=.val (er t):=rfl
def Iq:er (.Ba b ks (vs.map .sh))=.Ba b ks vs:=by rw[er,Pe]
def Gs:er (.lst (ds.map .sh))=.lst ds:=by rw[er,Pe]
theorem Oj:er (.sh d)=d:=rfl
theorem qD {l:List (Option Nat)}:BB (none::l) ρ=none::BB l ρ:=rfl
theorem qE:BB [] ρ=[]:=rfl
theorem cK {l:List (Option Nat)}:BB (some i::l) ρ=(match ρ[i]? with | some (some (.val d))=>some (.val d) | _=>none)::BB l ρ:=rfl
def cL {α:Type}{x y:α}:(if ([]:List D).length<=1000 then x else y)=x:=if_pos (by show 0<=1000;decide)
def cM {α:Type}{x y:α}{a:D}:(if [a].length<=1000 then x else y)=x:=if_pos (by show 1<=1000;decide)
def cN {α:Type}{x y:α}{a b:D}:(if [a,b].length<=1000 then x else y)=x:=if_pos (by show 2<=1000;decide)
def cO {α:Type}{x y:α}{a b c:D}:(if [a,b,c].length<=1000 then x else y)=x:=if_pos (by show 3<=1000;decide)
def cP {α:Type}{x y:α}{a b c d:D}:(if [a,b,c,d].length<=1000 then x else y)=x:=if_pos (by show 4<=1000;decide)
theorem toCl_nil:toCl none (.lst [])=.own []:=rfl
def CY {α:Type}{gt:D->Aa->M Aa}{ft:Aa->M Bool}{fe:Aa->M D}{g:α->D}(p:α->Bool)(f:α->D):∀ {l:List α},(∀x∈l,∃ρ1,gt (g x) ρ=.ok ρ1/\ft ρ1=.ok (p x)/\(p x=true->fe ρ1=.ok (f x)))->Bi gt ft fe (l.map g) ρ=.ok ((l.filter p).map f)
 |[],_=>rfl
 |x::r,h=>by
  obtain⟨ρ1,h1,h2,h3⟩:=h x zc;have ih:=CY (gt:=gt) (ft:=ft) (fe:=fe) (g:=g) p f (l:=r) λ y hy=>h y (zf _ hy);rw[zg,Bi,h1];dsimp only;rw[h2];dsimp only;rw[List.filter_cons];cases hp:p x with
  |true =>
   rw[if_pos rfl,h3 hp];dsimp only;rw[ih];simp
  |false=>simp[ih]
def E6 {α:Type}{gt:D->Aa->M Aa}{ft:Aa->M Bool}{fe:Aa->M D}{g:α->D}(f:α->D){l:List α}(h:∀x∈l,∃ρ1,gt (g x) ρ=.ok ρ1/\ft ρ1=.ok true/\fe ρ1=.ok (f x)):Bi gt ft fe (l.map g) ρ=.ok (l.map f):=by
 have:=CY (gt:=gt) (ft:=ft) (fe:=fe) (ρ:=ρ) (g:=g) (λ _=>true) f (l:=l) λ x hx=>by
  obtain⟨ρ1,h1,h2,h3⟩:=h x hx;exact⟨ρ1,h1,h2,λ _=>h3⟩
 rw[this,List.filter_eq_self.mpr (λ _ _=>rfl)]
def Bw {α:Type}{g:α->D}{l:List α}{i:Nat}{d:D}(h:(l.map g)[i]?=some d):∃x,l[i]?=some x/\d=g x:=by
 rw[zI] at h;cases q:l[i]? with
 |none=>rw[q] at h;cases h
 |some x=>rw[q] at h;cases h;exact⟨x,rfl,rfl⟩
def Po:ZU (.lst (ds.map .sh))=.ok ds:=by unfold ZU;simp[Cr,ZT]
theorem Hu {α:Type}{x:α}:ZT (some x)=.ok x:=rfl
theorem LG:SE i ρ (.sh d)=.ok (.next (ρ.set i (some (.val d)))):=rfl
theorem JA:SE i ρ (.lst ts)=.ok (.next (ρ.set i (some (toCl none (.lst ts))))):=rfl
theorem JB:SE i ρ (.tup ts)=.ok (.next (ρ.set i (some (.ow (.tree none (.tup ts)))))):=rfl
theorem JC:SE i ρ (.Ba b ks ts)=.ok (.next (ρ.set i (some (.ow (.tree none (.Ba b ks ts)))))):=rfl
theorem JD {x:Str}{ns:List Str}:SE i ρ (.ins x ns ts)=.ok (.next (ρ.set i (some (.ow (.tree none (.ins x ns ts)))))):=rfl
theorem LH:Vx (.sh d)=.ok (.ret d):=rfl
theorem JE:Vx (.lst ts)=.ok (.Ca (.ow (.tree none (.lst ts)))):=rfl
theorem JF:Vx (.tup ts)=.ok (.Ca (.ow (.tree none (.tup ts)))):=rfl
theorem JG:Vx (.Ba b ks ts)=.ok (.Ca (.ow (.tree none (.Ba b ks ts)))):=rfl
def QT {α:Type}{f:α->D}(h:∀x,Kg (f x)=true):∀l:List α,Jb (l.map f)=true
 |[]=>by simp[Jb]
 |x::r=>by rw[zg,Jb,h x,QT h r];rfl
def QU:∀ds:List D,FQ (ds.map .sh)=Jb ds
 |[]=>by simp[Jb,FQ]
 |d::r=>by rw[zg,FQ,HP,QU r,Jb]
def jQ (h:Kg d=true):Vv (.ok (.sh d))=.ok (.sh d):=by unfold Vv;simp[HP,h]
def cQ (h:Jb ds=true):Vv (.ok (.lst (ds.map .sh)))=.ok (.lst (ds.map .sh)):=by unfold Vv;simp[HP,QU,h]
def cR {i:Int}:Kg (.int i)=true:=by simp[Kg]
theorem XQ:F4 (.lst ds)=.ok (!ds.isEmpty):=rfl
def jR {a s m:Int}(h0:0<=a)(h1:a<m)(s0:1<=s)(s1:s<m):(a+s)%m≠a:=by
 by_cases h:a+s<m
 ·rw[Int.emod_eq_of_lt (by omega) h];omega
 ·have e:(a+s)%m=(a+s-m)%m:=by rw[Int.sub_emod_right]
  rw[e,Int.emod_eq_of_lt (by omega) (by omega)];omega
def LI {k:Nat}(i j:Int):Zy k (.int i) (.int j)=.ok (.bl (decide (i=j))):=by
 rw[Sy (DU _) (DU _)];simp only[As,Bool.beq_eq_decide_eq]
def LJ {k:Nat}(i j:Int):Zz k (.int i) (.int j)=.ok (.bl (!decide (i=j))):=by
 rw[Sz (DU _) (DU _)];simp only[As,Bool.beq_eq_decide_eq]
theorem JH {i j:Int}:iX (.int i) (.int j)=.ok (.int (i+j)):=rfl
theorem JI {i j:Int}:nQ (.int i) (.int j)=.ok (.int (i-j)):=rfl
theorem LK {i j:Int}:tG (.int i) (.int j)=.ok (.bl (decide (i<j))):=rfl
theorem LL {i j:Int}:uV (.int i) (.int j)=.ok (.bl (decide (i<=j))):=rfl
theorem LM {i j:Int}:tH (.int i) (.int j)=.ok (.bl (decide (j<i))):=rfl
theorem LN {i j:Int}:uW (.int i) (.int j)=.ok (.bl (decide (j<=i))):=rfl
theorem LO {i:Int}:tI (.int i)=.ok (some i):=rfl
theorem JJ:Vh [.lst ds]=.ok (.int ds.length):=rfl
theorem JK:Vh [.tup ds]=.ok (.int ds.length):=rfl
theorem ite_tt {α:Type}{x y:α}:(if true=true then x else y)=x:=rfl
theorem ite_ff {α:Type}{x y:α}:(if false=true then x else y)=y:=rfl
def XR {lo hi:Option Int}{x:D}(h:lG lo hi x=.ok (.lst ds)):ZZ lo hi x=.ok (.lst (ds.map .sh)):=by
 unfold lG at h;unfold ZZ;cases x with
 |lst xs=>dsimp only at h ⊢;injection h with h;injection h with h;rw[h]
 |_=>cases h
def QV (xs:List D)(k:Nat):ZZ (some (k:Int)) none (.lst xs)=.ok (.lst ((xs.drop k).map .sh)):=XR (Xo xs k)
def cS (xs:List D)(a b:Nat):ZZ (some (a:Int)) (some (b:Int)) (.lst xs)=.ok (.lst (((xs.drop a).take (b-a)).map .sh)):=XR (ZI xs a b)
theorem JL:Kk (.lst ds)=.ok (.lst (ds.map .sh)):=rfl
theorem JM:Kk (.tup ds)=.ok (.lst (ds.map .sh)):=rfl
def Hv {ns:List Int}:oK [.lst (ns.map D.int)]=.ok (.int ns.sum):=by unfold oK;dsimp only;rw[CU]
theorem Hw {T:String}:HV T (.lst ds)=.ok (.bl (DQ T (.lst ds))):=rfl
theorem Hx {T:String}:HV T (.tup ds)=.ok (.bl (DQ T (.tup ds))):=rfl
theorem Hy {T:String}{k:Int}:HV T (.int k)=.ok (.bl (DQ T (.int k))):=rfl
theorem Hz {T:String}:HV T .AD=.ok (.bl (DQ T .AD)):=rfl
theorem JN {T:String}{k:Bool}:HV T (.bl k)=.ok (.bl (DQ T (.bl k))):=rfl
theorem HA {T:String}{k:Str}:HV T (.str k)=.ok (.bl (DQ T (.str k))):=rfl
theorem HB {T:String}:HV T (.Ba b ks vs)=.ok (.bl (DQ T (.Ba b ks vs))):=rfl
theorem Uj:DQ "list" (.lst ds)=true:=rfl
theorem Uk:DQ "tuple" (.tup ds)=true:=rfl
theorem Ul {k:Int}:DQ "int" (.int k)=true:=rfl
theorem Um {k:Int}:DQ "bool" (.int k)=false:=rfl
theorem Uo:DQ "dict" (.Ba b ks vs)=true:=rfl
def HC {neg:Bool}{k:Int}{ns:List Int}:Jh neg (.int k) (.lst (ns.map D.int))=.ok (.bl (if neg then !ns.contains k else ns.contains k)):=by
 unfold Jh pZ;dsimp only;rw[CU]
noncomputable def vO (s:Option D):Option Cl:=s.map .val
def LP {s:Option D}:HN (vO s::ρ)=vO s::HN ρ:=by cases s<;>rfl
end
noncomputable def SJ (x:Int):List Int->List Int
 |[]=>[x]
 |y::r=>if x<=y then x::y::r else y::SJ x r
noncomputable def FR:List Int->List Int
 |[]=>[]
 |x::r=>SJ x (FR r)
def Kn (x:Int):∀l:List Int,(SJ x l).Perm (x::l)
 |[]=>.refl _
 |y::r=>by
  unfold SJ;split
  ·exact .refl _
  ·exact ((Kn x r).cons y).trans (.swap x y r)
def E7:∀l:List Int,(FR l).Perm l
 |[]=>.refl _
 |x::r=>(Kn x (FR r)).trans ((E7 r).cons x)
def KR (x:Int):∀l:List Int,l.Pairwise (·<=·)->(SJ x l).Pairwise (·<=·)
 |[],_=>by simp[SJ]
 |y::r,h=>by
  unfold SJ;have hy:=List.pairwise_cons.mp h;split
  ·rename_i cu;exact List.pairwise_cons.mpr ⟨λ z hz=>by
    rcases zr.mp hz with rfl|hz
    ·exact cu
    ·exact Int.le_trans cu (hy.1 z hz),h⟩
  ·rename_i cu;exact List.pairwise_cons.mpr ⟨λ z hz=>by
    rcases zr.mp ((Kn x r).mem_iff.mp hz) with rfl|hz
    ·omega
    ·exact hy.1 z hz,KR x r hy.2⟩
def Fm:∀l:List Int,(FR l).Pairwise (·<=·)
 |[]=>.nil
 |x::r=>KR x _ (Fm r)
def Gu:∀ {a b:List Int},a.Perm b->a.Pairwise (·<=·)->b.Pairwise (·<=·)->a=b
 |[],b,hp,_,_=>(List.nil_perm.mp hp).symm
 |x::r,[],hp,_,_=>by have:=hp.length_eq;simp at this
 |x::r,y::t,hp,ha,hb=>by
  have tX:=List.pairwise_cons.mp ha;have a8:=List.pairwise_cons.mp hb;have e:x=y:=by
   have h1:x∈y::t:=hp.mem_iff.mp (zc ..);have h2:y∈x::r:=hp.mem_iff.mpr (zc ..);rcases zr.mp h1 with e|h1
   ·exact e
   rcases zr.mp h2 with e|h2
   ·exact e.symm
   have:=tX.1 _ h2;have:=a8.1 _ h1;omega
  subst e;rw[Gu (List.Perm.cons_inv hp) tX.2 a8.2]
def JO:∀ {us:List Value}{ns:List Int},IntsAre us ns->Vals (ns.map V.int) us
 |_,_,.nil=>.nil
 |_,_,.cons n t h=>.cons ⟨t,rfl⟩ (JO h)
def MG {K:za}{H:Hp}:∀l:List Int,Ag K H (l.map V.int) (l.map D.int)
 |[]=>.nil
 |x::r=>.cons (.int _) (MG r)
section
variable {X:Cx}{WX:Str->Hp->Prop}{c:Bool}{P0:Dg}{P:Addr->Prop}{H:Hp}{σ:St}{ρ:Aa}{a b e:Expr}{f g:Aa->M D}{fn:Aa->M OT}{pos:Pos}{te:TE}
noncomputable def sC (X:Cx)(te:TE):TE:=λ σ H Q=>te σ H λ x H1=>∃p ns,x=.ref p/\Dn X.K H1 p (List.map V.int ns)/\ns.length<64/\∀r,H1 r=none->Q (.ref r) (upd H1 r (.lst ((FR ns).map V.int)))
def VF {p:Pos}(hc:X.calm=true)(hg:Gl X "sorted")(hm:X.mg "sorted" = none)(he:PE X e te)
 (hv:bootBuiltins "sorted" = some (.builtin "sorted"):=by decide +kernel)
 (hs:starEach [e] X.env=[(false,eval e X.env)]:=by rfl):
 PE X (.Call (.Name "sorted" p) [e] [] pos) (sC X te):=by
 intro pins s σ H Q I h;refine wpAny_Call_Name_kw (Ez I hg hm hv ?_);refine PyProof.Rows.callWith_builtin1 ?_ hs;rw[hs];refine yO (Bh (he pins s σ H _ I h) λ u s1 ⟨x,H1,I1,r1,q1⟩=>?_);obtain⟨q,ns,rfl,hq,v4,h⟩:=q1;cases r1;refine yT ?_;obtain⟨aa,r',pl,hz⟩:=I1.list hq;have hi:=intsAre_of r';have oh:=r'.length;rw[ze] at oh;refine sorted_ints pl.isList hi (by omega) λ out c5 b1 b2 b3=>?_;obtain⟨c',a9⟩:=sortedAll_at s1.heap aa out;have e:c5=FR ns:=Gu (b2.trans (E7 ns).symm) b3 (Fm ns);subst e;refine⟨.ref _,_,I1.laid (t':=s1.toks) (o:=.lst ((FR ns).map V.int)) (λ b o e=>sortedAll_old e) (Nat.le_succ _) ⟨?_,out.toList,c',JO b1,by simpa using a9⟩,rfl,h _ (I1.Ax.fresh (Nat.le_succ _))⟩;rw[ze,(E7 ns).length_eq];exact yd (AG (by omega))
noncomputable def cT (d:D):M OT:=match d with
 | .lst xs=>(match Cb xs with|some ns=>if ns.length<64 then .ok (.lst (((FR ns).map .int).map .sh)) else .bad|none=>.bad)
 |_=>.bad
def VG {ns:List Int}(h:ns.length<64):cT (.lst (ns.map .int))=.ok (.lst (((FR ns).map .int).map .sh)):=by
 unfold cT;dsimp only;rw[CU];dsimp only;rw[if_pos h]
def VH {p:Pos}(hc:X.calm=true)(hg:Gl X "sorted")(hm:X.mg "sorted" = none)(he:DE X WX true e f)
 (hv:bootBuiltins "sorted" = some (.builtin "sorted"):=by decide +kernel)
 (hs:starEach [e] X.env=[(false,eval e X.env)]:=by rfl):
 DN X WX (.Call (.Name "sorted" p) [e] [] pos) (λ ρ=>(f ρ).bind cT):=by
 obtain⟨te,e1,e2⟩:=he;refine⟨_,VF hc hg hm e1 hv hs,λ P0 P σ H Q ρ E h=>?_⟩;refine e2 P0 P σ H _ ρ E ?_;dsimp only at h;cases q:f ρ with
 |bad=>rw[q] at h;exact h
 |ex x=>rw[q] at h;exact h
 |ok d =>
  rw[q] at h;simp only[M.A7] at h;intro v H1 s1 hv;unfold cT at h;split at h
  ·rename_i xs;split at h
   ·rename_i ns eb;have:=Dz eb;subst this;split at h
    ·rename_i hl;cases hv with
     |lst hs hh =>
      have:=DV hh;subst this;exact⟨_,ns,rfl,hs.B8,hl,h.Kk s1 (MG _)⟩
    ·exact h.elim
   ·exact h.elim
  ·exact h.elim
noncomputable def cU (d k:D):M OT:=match k with
 | .int j=>if 0<=j/\j.toNat<=1000 then .ok (.lst ((zy j.toNat d).map .sh)) else .bad
 |_=>.bad
def XS {d:D}{n:Nat}(h:n<=1000):cU d (.int (n:Int))=.ok (.lst ((zy n d).map .sh)):=by
 unfold cU;dsimp only;rw[if_pos ⟨by omega,by omega⟩,y8]
def jS {oj:Pos}(ha:DE X WX true a f)(hb:DE X WX true b g)(aN:starEach [a] X.env=[(false,eval a X.env)]:=by rfl):
 DN X WX (.BinOp (.List [a] oj) .Mult b pos) (λ ρ=>(f ρ).bind λ d=>(g ρ).bind λ k=>cU d k):=by
 obtain⟨ta,a1,a2⟩:=ha;obtain⟨tb,b1,b2⟩:=hb;refine⟨_,WI iQ (Sb (Bk a1 Ci aN)) b1,λ P0 P σ H Q ρ E h=>?_⟩;dsimp only at h;refine a2 P0 P σ H _ ρ E ?_;cases q:f ρ with
 |bad=>rw[q] at h;exact h
 |ex x=>rw[q] at h;exact h
 |ok d =>
  rw[q] at h;simp only[M.A7] at h;intro v H1 s1 hv;have E1:=E.same s1;refine⟨yd (AG (by simp)),λ p hp=>?_⟩;have s2:Ae H1 (upd H1 p (.lst [v])):=AR hp _;have E2:=E1.same s2;refine b2 P0 P σ _ _ ρ E2 ?_;cases q2:g ρ with
  |bad=>rw[q2] at h;exact h
  |ex x=>rw[q2] at h;exact λ H' s3=>h H' ((s1.trans s2).trans s3)
  |ok k =>
   rw[q2] at h;simp only[M.A7] at h;unfold cU at h;intro w H3 s3 hw;cases k with
   |int j =>
    dsimp only at h;by_cases hj:0<=j/\j.toNat<=1000
    ·rw[if_pos hj] at h;cases hw;refine⟨p,j,[v],rfl,rfl,s3 _ _ Ao,by omega,by omega,yd (AG (by simp;omega)),?_⟩;rw[Ob];exact h.Kk ((s1.trans s2).trans s3) (QG ((hv.mono s2.del).mono s3.del) j.toNat)
    ·rw[if_neg hj] at h;exact h.elim
   |_=>exact h.elim
end
noncomputable def cV (f:Str):List Str->List D->Option D
 |n::ns,d::ds=>if f==n then some d else cV f ns ds
 |_,_=>none
def QW {K:za}{H:Hp}{f:Str}:∀ {fs:List (Str×V)}{ds:List D}{d:D},Ag K H (fs.map yp) ds->cV f (fs.map zG) ds=some d->∃v,fs.lookup f=some v/\Bu K H v d
 |[],ds,d,_,h=>by simp[cV] at h
 |(n,v)::fs,_,d,.cons hv ht,h=>by
  rw[zg,cV] at h;rw[yM];cases q:f==n with
  |true=>rw[q,if_pos rfl] at h;cases h;exact⟨v,rfl,hv⟩
  |false=>rw[q,if_neg (by simp)] at h;exact QW ht h
def MH {K:za}{H:Hp}{f:Str}:∀ {fs:List (Str×V)}{ds:List D},Ag K H (fs.map yp) ds->cV f (fs.map zG) ds=none->fs.lookup f=none
 |[],ds,_,h=>rfl
 |(n,v)::fs,_,.cons hv ht,h=>by
  rw[zg,cV] at h;rw[yM];cases q:f==n with
  |true=>rw[q,if_pos rfl] at h;cases h
  |false=>rw[q,if_neg (by simp)] at h;exact MH ht h
structure HX (K:za)(x f:Str):Prop where
 ex:∃C,zd K mainGlobals x=some (some (.ref C))/\V3 K C/\Ic K C f
noncomputable def Nz (cs:List Str)(f:Str)(d:D):M D:=match d with
 | .ins x ns ds=>if x∈cs then (match cV f ns ds with|some e=>.ok e|none=>.bad) else .bad
 |_=>.bad
section
variable {X:Cx}{E:XK}{WX:Str->Hp->Prop}{c:Bool}{P0:Dg}{P:Addr->Prop}{H:Hp}{σ:St}{ρ:Aa}{a b e:Expr}{es:List Expr}{f g:Aa->M D}{fs:Aa->M (List D)}{fn:Aa->M OT}{pos:Pos}{te:TE}
def EG (cs:List Str){fl:Str}(h7:∀x∈cs,HX X.K x fl)(ha:DE X WX c a f)(hb:attributeBase a fl X.env (eval a X.env)=eval a X.env:=by rfl):DE X WX c (.Attribute a fl pos) (λ ρ=>(f ρ).bind (Nz cs fl)):=by
 obtain⟨ta,a1,a2⟩:=ha;refine⟨_,iG a1 hb,λ P0 P σ H Q ρ E h=>?_⟩;dsimp only at h;refine a2 P0 P σ H _ ρ E ?_;cases e:f ρ with
 |bad=>rw[e] at h;exact h
 |ex x=>rw[e] at h;exact h
 |ok d =>
  rw[e] at h;simp only[M.A7] at h;intro v H1 s1 hv;unfold Nz at h;split at h
  ·rename_i x ns ds;split at h
   ·rename_i hx;split at h
    ·rename_i d' el;cases hv with
     |ins hn ha hl =>
      obtain⟨C,bG,hc,jl⟩:=(h7 x hx).ex;rw[hn] at bG;cases bG;obtain⟨v',l1,l2⟩:=QW hl el;exact⟨_,_,_,_,v',rfl,(Ai ha).2,hc,jl,l1,h v' H1 s1 l2⟩
    ·exact h.elim
   ·exact h.elim
  ·exact h.elim
structure Ol (K:za)(x m qual:Str)(st:Stmt)(ps:List Str):Prop where
 ex:∃C f fd,zd K mainGlobals x=some (some (.ref C))/\V3 K C/\Meth K C m f/\Wo K m qual st f fd/\Binds K fd ps []
structure Ir (P:Program)(w:World)(K:za)(mg:Str->Option Value)(base:Heap)(x m:Str)(k n:Nat)(F:List D->M OT):Prop where
 ex:∃C fa fd ps,zd K mainGlobals x=some (some (.ref C))/\V3 K C/\Meth K C m fa/\Df P w K mg base (Sw P w base) k fa fd ps (spT K n F)/\Binds K fd ps []
def LQ {P:Program}{w:World}{K:za}{mg:Str->Option Value}{base:Heap}{x m qual:Str}{st:Stmt}{N ps:List Str}{k n:Nat}(T:Ol K x m qual st ps)(S:Ah N ps (A3 st))(g:Aa->M Out)
 (hb:∀(f:Addr) (B4:Value) (A:Around) (outer:List Env) (s:Shared) (H:Hp) (E:XK),BD k (A.deeper (envOfC qual (A3 st) s.heap.objs.size f B4))->QD (U3 P w K mg base N qual (A3 st) f B4 A outer s H E) (Dh K E) (Az st) g) (hn:ps.length=n:=by rfl):
 Ir P w K mg base x m (k+1) n (λ ds=>Vw (g (AE N ds))):=by
 obtain⟨C,f,fd,h1,h2,h3,F,hB⟩:=T.ex;subst hn;exact⟨⟨C,f,fd,ps,h1,h2,h3,oC F S g (hb f),hB⟩⟩
noncomputable def qG (x:Str):List (Str×(List D->M OT))->Option (List D->M OT)
 |[]=>none
 |(y,F)::r=>if x=y then some F else qG x r
def Up {x:Str}{F:List D->M OT}:∀ {ms:List (Str×(List D->M OT))},qG x ms=some F->(x,F)∈ms
 |[],h=>by cases h
 |(y,G)::r,h=>by
  unfold qG at h;split at h
  ·rename_i e;cases h;subst e;exact zc
  ·exact zf _ (Up h)
noncomputable def Gv (ms:List (Str×(List D->M OT)))(m:Str)(d:D):M (List D->M OT):=match d with
 | .ins x ns es=>(match qG x ms with
  |some F=>(match cV m ns es with|none=>.ok F|some _=>.bad)
  |none=>.bad)
 |_=>.bad
def QX {ms:List (Str×(List D->M OT))}{m:Str}{d:D}{F:List D->M OT}(h:Gv ms m d=.ok F):∃x ns es,d=.ins x ns es/\(x,F)∈ms/\cV m ns es=none:=by
 unfold Gv at h;split at h
 ·rename_i x ns es;split at h
  ·rename_i G e;split at h
   ·rename_i e2;cases h;exact⟨x,ns,es,rfl,Up e,e2⟩
   ·cases h
  ·cases h
 ·cases h
def Om {ms:List (Str×(List D->M OT))}{m:Str}{d:D}{x:Str}:Gv ms m d≠.ex x:=λ h=>by
 unfold Gv at h;split at h
 ·split at h
  ·split at h<;>cases h
  ·cases h
 ·cases h
noncomputable def XT (X:Cx)(m:Str)(k:Nat)(E:XK)(ta:TE)(t:TA):TE:=λ σ H Q=>ta σ H λ x H1=>∃a C dx fs f fd ps n F,x=.ref a/\H1 a=some (.ins C dx fs)/\fs.lookup m=none/\V3 X.K C/\Meth X.K C m f/\Df X.prog X.w X.K X.mg X.base (Sw X.prog X.w X.base) k f fd ps (spT X.K n F)/\Binds X.K fd ps []/\
 t σ H1 λ vs H2=>spT X.K n F (x::vs) H2 Q E
def XU {pl:Sem Bool}{o:Expr}{m:Str}{k:Nat}{ta:TE}{t:TA}{apos:Pos}(he:PE X o ta)(hr:BD k X.A)(hx:G6 (Sw X.prog X.w X.base) X E)(ha:PA X (e::es) t)
 (aN:starEach (e::es) X.env=(false,eval e X.env)::starEach es X.env:=by rfl) (hpl:(backTo pos (starEach es X.env)).any (·.1)=false:=by rfl)
 (ht:eval (.Call (.Attribute o m apos) (e::es) [] pos) X.env=(do
  let ov <-eval o X.env
  standAt apos.atName
  let (f,first) <-holding [ov] (getMethod ov m pl)
  callWith pos f first (backTo pos (starEach (e::es) X.env)) (backToKw pos (keywordEach [] X.env))):=by rfl):
 PE X (.Call (.Attribute o m apos) (e::es) [] pos) (XT X m k E ta t):=by
 intro pins s σ H Q I h;refine PySem.W.methodCall_KW (pl:=pl) (Bh (he pins s σ H _ I h) λ u s1 ⟨x,H1,I1,rx,a,C,dx,fs,f,fd,ps,n,F,ex,ea,l,c,hm,hF,hb,q⟩=>?_) ht;subst ex;obtain rfl:u=zZ a:=rx;refine M4 I1 ea c hm l ?_;refine PySem.W.callWith_K (first:=[.ref a]) (h₀:=X.base) I.ok.mod.TB hm.kp (Bh (ha pos pins s1 σ H1 _ I1 q) λ us s2 ⟨vs,H2,I2,r,q2⟩=>⟨I2.Nn,?_⟩) aN hpl;exact Se (us:=.ref a::us) (vs:=.ref a::vs) hF hr hb .nil hx I2 (.cons rfl r) (by rw[zX];exact q2)
def VI {pl:Sem Bool}{o:Expr}{m:Str}{k:Nat}{ta:TE}{apos:Pos}(he:PE X o ta)(hr:BD k X.A)(hx:G6 (Sw X.prog X.w X.base) X E)
 (ht:eval (.Call (.Attribute o m apos) [] [] pos) X.env=(do
  let ov <-eval o X.env
  standAt apos.atName
  let (f,first) <-holding [ov] (getMethod ov m pl)
  callWith pos f first (backTo pos (starEach [] X.env)) (backToKw pos (keywordEach [] X.env))):=by rfl):
 PE X (.Call (.Attribute o m apos) [] [] pos) (XT X m k E ta iI):=by
 intro pins s σ H Q I h;refine PySem.W.methodCall_KW (pl:=pl) (Bh (he pins s σ H _ I h) λ u s1 ⟨x,H1,I1,rx,a,C,dx,fs,f,fd,ps,n,F,ex,ea,l,c,hm,hF,hb,q⟩=>?_) ht;subst ex;obtain rfl:u=zZ a:=rx;refine M4 I1 ea c hm l ?_;exact PySem.W.callWith_K0 (first:=[.ref a]) I1.Nn hm.kp (Se (us:=[.ref a]) (vs:=[.ref a]) hF hr hb .nil hx I1 (.cons rfl .nil) q)
def Uq {P:Program}{w:World}{K:za}{mg:Str->Option Value}{base:Heap}{CX:TJ}{k k':Nat}{f:Addr}{fd:FuncData}{ps:List Str}{sp:Sp}(h:k<=k')(F:Df P w K mg base CX k f fd ps sp):Df P w K mg base CX k' f fd ps sp:=
 ⟨F.len,λ A stack s H args us vs Q E hr=>F.run A stack s H args us vs Q E (hr.mono h)⟩
def JP {o:Expr}{fo:Aa->M D}{m:Str}{k n:Nat}{apos:Pos}{pl:Sem Bool}(ms:List (Str×(List D->M OT)))(xo:XCall X E)(om:∀p∈ms,∃k',k'<=k/\Ir X.prog X.w X.K X.mg X.base p.1 m k' n p.2)(hr:BD k X.A)(ho:DE X (Dh X.K E) true o fo)(ha:DA X (Dh X.K E) true (e::es) fs)(ga:(e::es).length+1=n)
 (aN:starEach (e::es) X.env=(false,eval e X.env)::starEach es X.env:=by rfl) (hpl:(backTo pos (starEach es X.env)).any (·.1)=false:=by rfl)
 (ht:eval (.Call (.Attribute o m apos) (e::es) [] pos) X.env=(do
  let ov <-eval o X.env
  standAt apos.atName
  let (f,first) <-holding [ov] (getMethod ov m pl)
  callWith pos f first (backTo pos (starEach (e::es) X.env)) (backToKw pos (keywordEach [] X.env))):=by rfl):
 DN X (Dh X.K E) (.Call (.Attribute o m apos) (e::es) [] pos) (λ ρ=>(fo ρ).bind λ d=>(Gv ms m d).bind λ F=>(fs ρ).bind λ ds=>F (d::ds)):=by
 obtain⟨ta,a1,a2⟩:=ho;obtain⟨tb,b1,b2,b3⟩:=ha;refine⟨_,XU (pl:=pl) a1 hr xo.call b1 aN hpl ht,λ P0 P σ H Q ρ Ev h=>?_⟩;dsimp only at h;refine a2 P0 P σ H _ ρ Ev ?_;cases q:fo ρ with
 |bad=>rw[q] at h;exact h
 |ex x=>rw[q] at h;exact h
 |ok d =>
  rw[q] at h;simp only[M.A7] at h;intro v H1 s1 hv;cases q2:Gv ms m d with
  |bad=>rw[q2] at h;exact h.elim
  |ex y=>exact (Om q2).elim
  |ok F =>
   rw[q2] at h;simp only[M.A7] at h;obtain⟨x,ns,v5,rfl,aE,on⟩:=QX q2;obtain⟨k',e8,M0⟩:=om _ aE;obtain⟨C,fa,fd,ps,h1,h2,h3,h4,h5⟩:=M0.ex;cases hv with
   |ins hn hH hl =>
    rw[hn] at h1;cases h1;refine⟨_,_,_,_,fa,fd,ps,n,F,rfl,(Ai hH).2,MH hl on,h2,h3,Uq e8 h4,h5,?_⟩;refine b2 P0 P σ H1 _ ρ (Ev.same s1) ?_;cases q3:fs ρ with
    |bad=>rw[q3] at h;exact h
    |ex y=>rw[q3] at h;exact λ H' s=>h H' (s1.trans s)
    |ok ds =>
     rw[q3] at h;simp only[M.A7] at h;intro vs H2 s2 aW;have jm:=(Bu.ins hn hH hl).mono s2.del;exact⟨by rw[zp,aW.length,b3 ρ ds q3];exact ga,P,_,((Ev.same s1).same s2).Cg,.cons jm aW,h.same (s1.trans s2)⟩
def Gw {o:Expr}{fo:Aa->M D}{m:Str}{k:Nat}{apos:Pos}{pl:Sem Bool}(ms:List (Str×(List D->M OT)))(xo:XCall X E)(om:∀p∈ms,∃k',k'<=k/\Ir X.prog X.w X.K X.mg X.base p.1 m k' 1 p.2)(hr:BD k X.A)(ho:DE X (Dh X.K E) true o fo)
 (ht:eval (.Call (.Attribute o m apos) [] [] pos) X.env=(do
  let ov <-eval o X.env
  standAt apos.atName
  let (f,first) <-holding [ov] (getMethod ov m pl)
  callWith pos f first (backTo pos (starEach [] X.env)) (backToKw pos (keywordEach [] X.env))):=by rfl):
 DN X (Dh X.K E) (.Call (.Attribute o m apos) [] [] pos) (λ ρ=>(fo ρ).bind λ d=>(Gv ms m d).bind λ F=>F [d]):=by
 obtain⟨ta,a1,a2⟩:=ho;refine⟨_,VI (pl:=pl) a1 hr xo.call ht,λ P0 P σ H Q ρ Ev h=>?_⟩;dsimp only at h;refine a2 P0 P σ H _ ρ Ev ?_;cases q:fo ρ with
 |bad=>rw[q] at h;exact h
 |ex x=>rw[q] at h;exact h
 |ok d =>
  rw[q] at h;simp only[M.A7] at h;intro v H1 s1 hv;cases q2:Gv ms m d with
  |bad=>rw[q2] at h;exact h.elim
  |ex y=>exact (Om q2).elim
  |ok F =>
   rw[q2] at h;simp only[M.A7] at h;obtain⟨x,ns,v5,rfl,aE,on⟩:=QX q2;obtain⟨k',e8,M0⟩:=om _ aE;obtain⟨C,fa,fd,ps,h1,h2,h3,h4,h5⟩:=M0.ex;cases hv with
   |ins hn hH hl =>
    rw[hn] at h1;cases h1;refine⟨_,_,_,_,fa,fd,ps,1,F,rfl,(Ai hH).2,MH hl on,h2,h3,Uq e8 h4,h5,?_⟩;exact⟨rfl,P,_,(Ev.same s1).Cg,.cons (Bu.ins hn hH hl) .nil,h.same s1⟩
end
section
variable {X:Cx}{E:XK}{WX:Str->Hp->Prop}{c:Bool}{P0:Dg}{P:Addr->Prop}{H:Hp}{σ:St}{ρ:Aa}{a b e:Expr}{es:List Expr}{f g:Aa->M D}{fs:Aa->M (List D)}{fn:Aa->M OT}{pos:Pos}{te:TE}
structure jT (K:za)(mg:Str->Option Value)(x:Str)(C:Addr):Prop where
 ns:zd K mainGlobals x=some (some (.ref C))
 vC:mg x=some (.ref C)
def VJ {p dx C:Addr}(hp:H p=none)(hd:H dx=none):Ae H (upd (upd H dx (.own p)) p (.ins C dx [])):=λ b u q=>by
 rw[Ab (AB q hp),Ab (AB q hd)];exact q
structure oR (P:Program)(w:World)(K:za)(mg:Str->Option Value)(base:Heap)(x:Str)(k n:Nat)(F:OT->List D->M (OT×OT)):Prop where
 ex:∃C fa fd ps,jT K mg x C/\Mk K C fa/\Df P w K mg base (Sw P w base) k fa fd ps (Og K n F)/\Binds K fd ps []
noncomputable def XW (m:M (OT×OT)):M OT:=match m with
 | .ok (t,.sh .AD)=>.ok t
 |_=>.bad
def cW {x:Str}{k n:Nat}{F:OT->List D->M (OT×OT)}{p:Pos}(xo:XCall X E)(G:oR X.prog X.w X.K X.mg X.base x k n F)(hr:BD (k+1) X.A)(hg:Gl X x)(ha:DA X (Dh X.K E) true (e::es) fs)(ga:(e::es).length+1=n)
 (aS:(x==("__debug__" : Str))=false:=by decide) (he:starEach (e::es) X.env=(false,eval e X.env)::starEach es X.env:=by rfl) (hpl:(backTo pos (starEach es X.env)).any (·.1)=false:=by rfl):
 DN X (Dh X.K E) (.Call (.Name x p) (e::es) [] pos) (λ ρ=>(fs ρ).bind λ ds=>XW (F (.ins x [] []) ds)):=by
 obtain⟨C,fa,fd,ps,hT,hM,hF,hb⟩:=G.ex;obtain⟨ta,a1,a2,a3⟩:=ha;refine⟨_,Z7 hM hF hr hg hT.vC hb .nil xo.call a1 aS he hpl,λ P0 P σ H Q ρ Ev h=>?_⟩;dsimp only at h;refine a2 P0 P σ H _ ρ Ev ?_;cases q:fs ρ with
 |bad=>rw[q] at h;exact h
 |ex x=>rw[q] at h;exact h
 |ok ds =>
  rw[q] at h;simp only[M.A7] at h;intro vs H1 s1 aW y dx hy hd ae;rw[zX];have E1:=Ev.same s1;have sm:=VJ (C:=C) hy hd;have cb:∀a∈[y],H1 a=none:=λ a ha=>by rw[zq.mp ha];exact hy
  refine⟨by rw[zp,aW.length,a3 ρ ds q];exact ga,PU P [y],y,.ins x [] [],[y],vs,ds,rfl,λ a ha=>?_,λ a ha=>.inr ha,by simp,BI.ins (fs:=[]) hT.ns Ao .nil,aW.mono (D6 sm cb),?_⟩
  ·rcases ha with ha|ha
   ·exact (E1.Cg a ha).same sm
   ·rw[zq.mp ha];exact⟨_,Ao,λ xs=>⟨(λ z=>by cases z),(λ z w=>by cases w)⟩⟩
  ·cases q2:F (.ins x [] []) ds with
   |bad=>rw[q2] at h;exact h
   |ex z=>rw[q2] at h;exact h
   |ok tr =>
    obtain⟨t,r⟩:=tr;rw[q2] at h;simp only[XW] at h;intro v H' P' ai fr k1 k2 k3 k4 k5 k6 k7 k8 k9 tP;cases r with
    |sh d =>
     cases d with
     |AD =>
      cases k6 with
      |sh hv =>
       cases hv;refine⟨rfl,h _ ai H' ?_ ?_ k5 ?_⟩
       ·intro b u eb;have e1:=s1 b u eb;have h8:b≠y:=λ z=>by rw[z,hy] at e1;cases e1
        have e2:=sm b u e1;by_cases hP:P b
        ·exact (k1 b (.inl hP) (by simp[h8])).2.trans e2
        ·exact (Ai (k3 b u (by rw[Ar λ z=>z.elim hP λ w=>h8 (zq.mp w)];exact e2))).2
       ·intro b tY;cases eb:H b with
        |none=>rfl
        |some u =>
         exfalso;have e1:=s1 b u eb;have h8:b≠y:=λ z=>by rw[z,hy] at e1;cases e1
         have e2:=sm b u e1;have hn:=λ z=>h8 (zq.mp ((k9 b tY).2 z));exact (Ai (k3 b u (by rw[Ar hn];exact e2))).1 (k9 b tY).1
       ·refine k4.move (λ b u eb=>?_) λ _ _=>rfl;obtain⟨g1,g2⟩:=Ai eb;rw[Ar]
        ·exact g2
        ·rintro (z|z)
         ·have h8:b≠y:=λ w=>by
           obtain⟨o,e1,_⟩:=E1.Cg b z;rw[w,hy] at e1;cases e1
          exact g1 (k1 b (.inl z) (by simp[h8])).1
         ·exact g1 (k9 b z).1
     |_=>exact h.elim
    |_=>exact h.elim
end
noncomputable def Oo (i:Nat)(ρ:Aa)(π:List Nat):M (Str×List Str×List D):=match SG i ρ π with
 |some (.ins x ns ts)=>(match DY ts with|some vs=>.ok (x,ns,vs)|none=>.bad)
 |_=>.bad
def XX {i:Nat}{ρ:Aa}{π:List Nat}{x:Str}(h:Oo i ρ π=.ex x):False:=by
 unfold Oo at h;split at h
 ·split at h<;>cases h
 ·cases h
noncomputable def XY (f:Str):List Str->List Str
 |[]=>[f]
 |g::r=>if g=f then g::r else g::XY f r
noncomputable def XZ (f:Str)(d:D):List Str->List D->List D
 |[],_=>[d]
 |g::r,e::t=>if g=f then d::t else e::XZ f d r t
 |_::_,[]=>[]
def QY (f:Str)(v:V):∀fs:List (Str×V),(DJ f v fs).map zG=XY f (fs.map zG)
 |[]=>rfl
 |(g,x)::r=>by
  rw[zg,XY,DJ];split
  ·rfl
  ·rw[zg,QY f v r]
def QZ {K:za}{H:Hp}{f:Str}{v:V}{d:D}(hv:Bu K H v d):∀ {fs:List (Str×V)}{ds:List D},Ag K H (fs.map yp) ds->Ag K H ((DJ f v fs).map yp) (XZ f d (fs.map zG) ds)
 |[],_,.nil=>.cons hv .nil
 |(g,x)::r,_,.cons hx ht=>by
  rw[zg,XZ,DJ];split
  ·exact .cons hv ht
  ·exact .cons hx (QZ hv ht)
section
variable {X:Cx}{E:XK}{WX:Str->Hp->Prop}{c:Bool}{P0:Dg}{P:Addr->Prop}{H:Hp}{σ:St}{ρ:Aa}{a b e:Expr}{f g:Aa->M D}{fn:Aa->M OT}{fp:Aa->M (List Nat)}{pos:Pos}{i:Nat}{es:List Expr}{fs:Aa->M (List D)}
def Bb.ins {K:za}{π:List Nat}{v:V}{t1:OT}{x:Str}{ns:List Str}{vs:List D}(pl:Bb K P H σ ρ i π v t1)(E:Ak K P0 P H σ ρ)(h:Oo i ρ π=.ok (x,ns,vs)):
 t1=.ins x ns (vs.map .sh)/\∃l C dx fs,v=.ref l/\Ag K (del H P) (fs.map yp) vs/\BI K H P (.ref l) (.ins x ns (vs.map .sh)) [l]/\zd K mainGlobals x=some (some (.ref C))/\H l=some (.ins C dx fs)/\ns=fs.map zG:=by
 unfold Oo at h;rw[pl.at] at h;split at h
 ·rename_i x' c5 n4 e;split at h
  ·rename_i aX e';cases e;cases h;have z:=CV e';subst z;obtain⟨az,o1,hp,nd⟩:=pl.own E;generalize ht:OT.ins x ns (vs.map .sh)=t at o1;cases o1 with
   |ins hn hh hr =>
    injection ht with h1 h2 h3
    subst h1 h2 h3;obtain⟨rfl,hs⟩:=hr.jK;exact⟨rfl,_,_,_,_,rfl,hs,.ins hn hh hr,hn,hh,rfl⟩
   |_=>cases ht
  ·cases h
 ·cases h
def LR (cs:List Str){fl:Str}(h7:∀x∈cs,HX X.K x fl)(ha:DP X WX a i fp)(hv:DE X WX true e f){pos':Pos}(hs:swapsWith e (some (.Attribute a fl pos')) pos.line X.env=pure false:=by rfl):
 DS X WX (.Assign [.Attribute a fl pos'] e pos) (λ ρ=>(f ρ).bind λ v=>(fp ρ).bind λ π=>(Oo i ρ π).bind λ z=>if z.1∈cs/\z.2.1.length<1000 then Gr i ρ π (.ins z.1 (XY fl z.2.1) ((XZ fl v z.2.1 z.2.2).map .sh)) else .bad):=by
 obtain⟨ta,a1,a2⟩:=ha;obtain⟨tv,v1,v2⟩:=hv;refine⟨_,iH a1 v1 hs,λ P0 P σ H Z ρ E h=>?_⟩;dsimp only at h;refine v2 P0 P σ H _ ρ E ?_;cases q0:f ρ with
 |bad=>rw[q0] at h;exact h
 |ex x=>rw[q0] at h;exact λ H' s=>h H' P (E.tr s)
 |ok d =>
  rw[q0] at h;simp only[M.A7] at h;intro w H0 s0 hw;have E0:=E.same s0;refine a2 P0 P σ H0 _ ρ E0 ?_;cases q:fp ρ with
  |bad=>rw[q] at h;exact h
  |ex x=>rw[q] at h;exact λ H' s=>h H' P ((E.tr s0).trans (E0.tr s))
  |ok π =>
   rw[q] at h;simp only[M.A7] at h;intro v t1 H1 s1 pl;have E1:=E0.same s1;have v6:=(E.tr s0).trans (E0.tr s1);cases q3:Oo i ρ π with
   |bad=>rw[q3] at h;exact h.elim
   |ex x=>exact (XX q3).elim
   |ok z =>
    obtain⟨x,ns,vs⟩:=z;rw[q3] at h;simp only[M.A7] at h;by_cases hc:x∈cs/\ns.length<1000
    ·rw[if_pos hc] at h;obtain⟨rfl,l,C,dx,fs,rfl,bB,ot,hn,hH,rfl⟩:=pl.ins E1 q3;obtain⟨C',bG,cj,jl⟩:=(h7 x hc.1).ex;rw[hn] at bG;cases bG;have v7:=hw.mono s1.del;obtain⟨c,p,t0,g1,g2,E3,t3⟩:=E1.ZV (o':=.ins C dx (DJ fl w fs)) (u:=.ins x (XY fl (fs.map zG)) ((XZ fl d (fs.map zG) vs).map .sh)) pl ot (λ _=>⟨λ z=>(by cases z),λ _ z=>by cases z⟩) (λ mv=>by
      have:=BI.ins (K:=X.K) (H:=upd H1 l (.ins C dx (DJ fl w fs))) (P:=P) (p:=l) (fs:=DJ fl w fs) (x:=x) hn Ao (((QZ v7 bB).mono mv).ows);rw[QY] at this;exact this)
     rw[Fj g1 g2] at h;exact⟨l,C,dx,fs,rfl,hH,cj,jl,by have:=hc.2;rw[ze] at this;exact this,h _ _ _ (v6.trans t3) E3⟩
    ·rw[if_neg hc] at h;exact h.elim
end
def BQ {K:za}{f:Str}:∀y∈([]:List Str),HX K y f:=λ y h=>by cases h
def Bq {K:za}{f x:Str}{xs:List Str}(h:HX K x f)(t:∀y∈xs,HX K y f):∀y∈x::xs,HX K y f:=λ y hy=>by
 rcases zr.mp hy with rfl|hy
 ·exact h
 ·exact t y hy
def D8 {P:Program}{w:World}{K:za}{mg:Str->Option Value}{base:Heap}{m:Str}{k n:Nat}:∀p∈([]:List (Str×(List D->M OT))),∃k',k'<=k/\Ir P w K mg base p.1 m k' n p.2:=λ p h=>by cases h
def Cd {P:Program}{w:World}{K:za}{mg:Str->Option Value}{base:Heap}{m x:Str}{k k' n:Nat}{F:List D->M OT}{ms:List (Str×(List D->M OT))}(hk:k'<=k)(h:Ir P w K mg base x m k' n F)(t:∀p∈ms,∃k',k'<=k/\Ir P w K mg base p.1 m k' n p.2):
 ∀p∈(x,F)::ms,∃k',k'<=k/\Ir P w K mg base p.1 m k' n p.2:=λ p hp=>by
 rcases zr.mp hp with rfl|hp
 ·exact⟨k',hk,h⟩
 ·exact t p hp
end L2
set_option maxRecDepth 1000000
set_option maxHeartbeats 0
namespace L2
open PySem
def Oq:entryFor table "dict.update.loop" = some Builtin.«dict.update.loop»:=by unfold entryFor;rfl
open PySem PySem.Spec PySem.Calls PyProof.Rows PySem.W PySem.Builtin PySem.Builtin.ObjectAttr
section
variable {prog:Program}{w:World}{A:Around}{E:Value->Shared->Prop}{s:Shared}
def call_meets {T id:String}{nm:Str}{B:Builtin}{self:Value}{rest:List Value}{Sp:PySem.Spec}{Q:Value->Shared->Prop}(SL:Slot T nm id)(hB:entryFor table id=some B)(ht:s.TypeIs self T)(ha:argsOk id ⟨self::rest,[]⟩)(m:Meets (B ⟨self::rest,[]⟩) Sp)
 (h:Sp A (λ r s'=>match r with | .ok (.ret v)=>Q v s' | .ok _=>False | .error e=>E e s') s):wpAny (model prog w) A (call (.builtin id) (self::rest)) Q E s:=
 wpAny_call (codeAny_call_builtin SL.plain hB (SL.check _ _ _ _ _ _ _ _ ht ha (m prog w A _ s h)))
def R3 {l:Addr}{xs:Array Value}{k:Nat}{sl:Array (Option Value)}{Q:Option Value->Shared->Prop}(hh:A.handled=none)(hl:s.heap.get? l=some {cls:=.type "list",data:=.seq xs k,slots:=sl})
 (h:∀h' tk,(∀b o,s.heap.get? b=some o->h'.get? b=some o)->Q none {s with heap:=h',toks:=tk}):wpAny (model prog w) A (getAttr? (.ref l) "keys") Q E s:=by
 have miss:typeLookup (.type "list") "keys" = pure none:=am_miss_of_fast (by decide +kernel);have T0:∀hp:Heap,hp.get? l=some {cls:=.type "list",data:=.seq xs k,slots:=sl}->Looks (model prog w) hp (typeOf (.ref l)) (.type "list"):=λ hp e=>(Looks.ld e).andThen .now;have SL:=PySem.F.slot_list_getattribute;have ax:(onTheHeap (Value.type "list")&&Value.builtin "list.__getattribute__" == Value.builtin "object.__getattribute__")=false:=rfl;have oq:(false&&onTheHeap (Value.builtin "list.__getattribute__"))=false:=rfl;unfold getAttr? getAttrBy?;refine wpAny_bind (wpAny_mkText (wpAny_bind (wpAny_attempt ?_)));unfold getAttrBy;refine wpAny_holding (wpAny_bind ((T0 _ hl).at (wpAny_bind ?_)));rw[SL.lookup];refine wpAny_pure ?_;dsimp only;rw[ax,if_neg zL];unfold getAttrByItsOwn hookBefore;rw[if_neg (show ¬ onTheHeap (Value.type "list")=true from zL)];refine wpAny_bind (wpAny_pure (wpAny_bind (wpAny_attempt (wpAny_holding ?_))));unfold callGetattribute;rw[oq,if_neg zL];unfold boundAndCalled;rw[SL.bind];refine wpAny_bind (wpAny_pure ?_);dsimp only;refine call_meets SL am_entry_list_getattribute ⟨_,hl,rfl⟩ (PySem.F.args_list_getattribute_2 _ _) (meets_getattribute_miss_list l xs k sl "keys" s.toks miss rfl (by decide)) ⟨hl,hh,λ h' tk e ne=>?_⟩;dsimp only;obtain⟨kp,nw,t,u,he⟩:=ne;have T1:Looks (model prog w) h' (typeOf (.ref e)) (.type "AttributeError"):=(Looks.ld he).andThen .now;unfold getattributeRaised isInstance;refine wpAny_bind (wpAny_bind (T1.at ?_));rw[sub_AttributeError];refine wpAny_pure ?_;rw[if_pos rfl];unfold hookBehind;rw[if_neg (show ¬ onTheHeap (Value.type "list")=true from zL),am_list_getattr_none];refine wpAny_bind (wpAny_pure ?_);unfold hookOrError attributeErrorLeaves;dsimp only;rw[if_pos (show (!false)=true from rfl)];refine wpAny_bind (wpAny_throw ?_);refine wpAny_bind (wpAny_bind (T1.at ?_));rw[sub_AttributeError];refine wpAny_pure ?_;rw[if_pos rfl];exact wpAny_pure (h h' tk kp)
def VL {t:Addr}{aa:Array Value}{Q:List Value->Shared->Prop}(ht:IsTup s.heap t aa)(h:Q aa.toList s):wpAny (model prog w) A (Dict.pairItems (.ref t)) Q E s:=by
 obtain⟨o,h1,h2,n,h3⟩:=ht;have T0:Looks (model prog w) s.heap (typeOf (.ref t)) (.type "tuple"):=h2▸(Looks.ld h1).andThen .now;unfold Dict.pairItems;refine wpAny_bind (T0.at ?_);have hx:(Value.type "tuple" == Value.type "list" || Value.type "tuple" == Value.type "tuple")=true:=by decide
 rw[if_pos hx];exact wpAny_bind (wpAny_seqItems h1 h3 (wpAny_pure h))
def HE:plainId "dict.update.loop" = true:=by decide +kernel
def MI {K:Type}[DecidableEq K]{knd:KeyKind prog w K}{h h':Heap}{d I l:Addr}{i:Nat}{xs:List (List K×Addr×Value)}(hd:h.DictOfH (tupleKind knd) d xs)(hit:h.IsListIter I l i)(sb:∀b o,b≠I->h.get? b=some o->h'.get? b=some o):
 h'.DictOfH (tupleKind knd) d xs:=by
 obtain⟨o,es,ep,h1,h2,h3,h4,h5,h6⟩:=hd;obtain⟨oi,i1,i2,i3⟩:=hit;refine⟨o,es,ep,sb d o (λ z=>?_) h1,h2,h3,h4,λ x hx=>?_,h6⟩
 ·subst z;rw[i1] at h1;cases h1;rw[i3] at h3;cases h3
 ·obtain⟨ok,aa,n,k1,k2,k3,k4⟩:=h5 x hx;refine⟨ok,aa,n,sb _ _ (λ z=>?_) k1,k2,k3,k4⟩;rw[z,i1] at k1;cases k1;rw[i3] at k3;cases k3
def SK {K:Type}[DecidableEq K]{knd:KeyKind prog w K}{R:Result->Shared->Prop}{d I l:Addr}{items:Array Value}{h0:Heap}(ps:List (List K×Addr×Value))(hh:A.handled=none)(cv:A.in1.units<cLine)(g7:l≠I)(v8:d≠I)(tZ:l≠d)
 (ub:ps.length=items.size) (hsz:items.size+1<=sizeLine) (hl:h0.IsList l items)
 (hp:∀(j:Nat) p,ps[j]?=some p->(p.2.1≠d/\p.2.1≠I/\(tupleKind knd).is h0 p.1 p.2.1)/\∃t,items[j]?=some (.ref t)/\t≠d/\t≠I/\IsTup h0 t #[.ref p.2.1,p.2.2]):
 ∀(m i:Nat) (xs:List (List K×Addr×Value)) (s:Shared),items.size-i=m->i<=items.size->xs.length<=i->s.heap.IsListIter I l i->s.heap.DictOfH (tupleKind knd) d xs->(∀b o,b≠d->b≠I->h0.get? b=some o->s.heap.get? b=some o)->
  (∀h' tk,h'.DictOfH (tupleKind knd) d ((ps.drop i).foldl (λ acc p=>storedH acc p.1 p.2.1 p.2.2) xs)->(∀b o,b≠d->b≠I->h0.get? b=some o->h'.get? b=some o)->R (.ok (.ret .none)) {s with heap:=h',toks:=tk})->
  codeAny (model prog w) A (.builtin "dict.update.loop" ⟨[.ref d,.ref I,rawInt i,.none],[]⟩) R s:=by
 intro m;induction m with
 |zero =>
  intro i xs s hm hi v9 hit hd hf h;have br:i=items.size:=by omega
  refine codeAny_builtin Oq ?_;rw[yG HE _];show wpAny _ A.in1 (pyNext (.ref I) >>= _) _ _ s;refine wpAny_bind (wpAny_pyNext_list_end (A:=A.in1) hh hit (hl.at λ o e=>hf l o tZ g7 e) (by simp[br]) λ h' eb=>?_);have hd2:=MI hd hit λ b o hb e=>eb b o hb e;show wpAny _ A.in1 (Dict.addKeywords d [] >>= _) _ _ _;unfold Dict.addKeywords;refine wpAny_bind (wpAny_bind ?_);refine wpAny_pure (wpAny_pure (wpAny_pure ?_));have ed:ps.drop i=[]:=by rw[List.drop_eq_nil_iff];omega
  rw[ed] at h;exact h h' s.toks hd2 λ b o h1 h2 e=>eb b o h2 (hf b o h1 h2 e)
 |succ m ih =>
  intro i xs s hm hi v9 hit hd hf h;have ah:i<items.size:=by omega
  obtain⟨p,oy⟩:∃p,ps[i]?=some p:=⟨ps[i]'(by omega),zj _⟩;obtain⟨⟨p1,p2,p3⟩,t,ht,t1,t2,t3⟩:=hp i p oy;refine codeAny_builtin Oq ?_;rw[yG HE _];show wpAny _ A.in1 (pyNext (.ref I) >>= _) _ _ s;refine wpAny_bind (wpAny_pyNext_list_item (A:=A.in1) hit (hl.at λ o e=>hf l o tZ g7 e) ht λ h' ba sb=>?_);have hd2:h'.DictOfH (tupleKind knd) d xs:=MI hd hit λ b o hb e=>(sb.2 b hb).trans e;have o5:∀b o,b≠d->b≠I->h0.get? b=some o->h'.get? b=some o:=λ b o h1 h2 e=>(sb.2 b h2).trans (hf b o h1 h2 e);have t4:IsTup h' t #[.ref p.2.1,p.2.2]:=by
   obtain⟨o,e1,e2⟩:=t3;exact⟨o,o5 t o t1 t2 e1,e2⟩
  have p4:(tupleKind knd).is h' p.1 p.2.1:=by
   obtain⟨o,aa,n,e1,e2⟩:=p3;exact⟨o,aa,n,o5 _ o p1 p2 e1,e2⟩
  dsimp only;refine wpAny_bind (wpAny_holding (wpAny_bind (wpAny_tryCatch (VL t4 ?_))));show wpAny _ A.in1 (holding [.ref p.2.1,p.2.2] (dictSet d (.ref p.2.1) p.2.2)) _ _ _;refine wpAny_holding (wpAny_dictSet_heap (knd:=tupleKind knd) (hsz:=by omega) cv p4 hd2 λ h3 o6 uc=>?_);refine wpAny_pure ⟨plainId_quiet HE _,?_⟩;have o7:h3.IsListIter I l (i+1):=by
   obtain⟨o,e1,e2⟩:=ba;exact⟨o,(uc.2 I (yb v8)).trans e1,e2⟩
  have ed:ps.drop i=p::ps.drop (i+1):=by
   rw[xg (by omega:i<ps.length)];rw[zj (by omega:i<ps.length)] at oy;rw[zE oy]
  rw[ed,zN] at h;have oh:(storedH xs p.1 p.2.1 p.2.2).length<=i+1:=by
   unfold storedH;split
   ·rw[ze];omega
   ·rw[zK,yC];omega
  have q:=ih (i+1) (storedH xs p.1 p.2.1 p.2.2) {s with heap:=h3,toks:=s.toks+(tupleKind knd).draws p.1} (by omega) (by omega) oh o7 o6 (λ b o h1 h2 e=>(uc.2 b h1).trans (o5 b o h1 h2 e)) h;exact q
def Lg {K:Type}[DecidableEq K]{knd:KeyKind prog w K}{Q:Value->Shared->Prop}{l:Addr}{items:Array Value}{n:Nat}{sl:Array (Option Value)}(ps:List (List K×Addr×Value))(hh:A.handled=none)(cv:A.units+2<cLine)
 (ub:ps.length=items.size) (hsz:items.size+1<=sizeLine) (hl:s.heap.get? l=some {cls:=.type "list",data:=.seq items n,slots:=sl})
 (hp:∀(j:Nat) p,ps[j]?=some p->(tupleKind knd).is s.heap p.1 p.2.1/\∃t,items[j]?=some (.ref t)/\IsTup s.heap t #[.ref p.2.1,p.2.2])
 (h:∀h' tk,h'.DictOfH (tupleKind knd) s.heap.objs.size (ps.foldl (λ acc p=>storedH acc p.1 p.2.1 p.2.2) [])->(∀b o,s.heap.get? b=some o->h'.get? b=some o)->Q (.ref s.heap.objs.size) {s with heap:=h',toks:=tk}):
 wpAny (model prog w) A (call (.type "dict") [.ref l]) Q E s:=by
 refine callType_codes (Q₁:=λ obj s₁=>obj=.ref s.heap.objs.size/\s₁={s with heap:=s.heap.push {cls:=.type "dict",data:=.dict #[]} }) PySem.F.kt_called_dict (PySem.F.kt_typeCall_dict_1 _) PySem.F.entry_dict_init
  (kt_code_dict_new _ ⟨rfl,rfl⟩) λ obj s₁ h₁=>?_
 obtain⟨rfl,rfl⟩:=h₁;have hS:(s.heap.push {cls:=.type "dict",data:=.dict #[]}).get? s.heap.objs.size=some {cls:=.type "dict",data:=.dict #[]}:=zF _ rfl;have ll:l<s.heap.objs.size:=zt hl;have o8:(s.heap.push {cls:=.type "dict",data:=.dict #[]}).get? l=some {cls:=.type "list",data:=.seq items n,slots:=sl}:=zm _ hl;refine⟨⟨_,hS,rfl⟩,PySem.F.args_dict_init_2 _ _,?_⟩;have TD:Looks (model prog w) (s.heap.push {cls:=.type "dict",data:=.dict #[]}) (typeOf (.ref s.heap.objs.size)) (.type "dict"):=(Looks.ld hS).andThen .now;have TL:Looks (model prog w) (s.heap.push {cls:=.type "dict",data:=.dict #[]}) (typeOf (.ref l)) (.type "list"):=(Looks.ld o8).andThen .now;unfold Builtin.«dict.__init__» Dict.selfAndRest Dict.notOrdered;dsimp only;rw[if_pos (by decide)];refine wpAny_bind (wpAny_bind (wpAny_bind (TD.at ?_)));rw[if_neg (by decide)];refine wpAny_pure ?_;unfold Dict.addrOf;refine wpAny_bind (wpAny_pure (wpAny_pure ?_));unfold Dict.updateCommon Dict.updateFrom;dsimp only;refine wpAny_bind (TL.at ?_);rw[if_pos (by decide)];refine wpAny_bind (R3 (A:=A.in1.in1) hh o8 λ h2 wX o9=>?_);rw[if_pos (show (none:Option Value).isNone=true from rfl)];refine wpAny_bind (wpAny_rule ?_);have aM:h2.IsList l items:=⟨_,o9 _ _ o8,rfl,n,rfl⟩;have jn:=o9 _ _ hS;refine wpAny_bind (wpAny_pyIter_list aM ?_);refine wpAny_pure ⟨plainId_quiet HE _,?_⟩;have lz:s.heap.objs.size<h2.objs.size:=zt jn;have vD:∀b o,s.heap.get? b=some o->(h2.push {cls:=.type "list_iterator",data:=.fields #[.ref l,.int 0 0]}).get? b=some o:=λ b o e=>zm _ (o9 _ _ (zm _ e));have o6:(h2.push {cls:=.type "list_iterator",data:=.fields #[.ref l,.int 0 0]}).DictOfH (tupleKind knd) s.heap.objs.size []:=
  ⟨_,#[],0,zm _ jn,⟨rfl,rfl,rfl⟩,rfl,rfl,λ x hx=>absurd hx List.not_mem_nil,yu⟩
 have ah:∀b o,s.heap.get? b=some o->b≠s.heap.objs.size/\b≠h2.objs.size:=λ b o e=>by
  have:=zt e;exact⟨zD this,zD (Nat.lt_trans this lz)⟩
 refine SK (A:=A.in1) (knd:=knd) (l:=l) (h0:=s.heap) ps hh cv (zD (Nat.lt_trans ll lz)) (zD lz) (zD ll) ub hsz ⟨_,hl,rfl,n,rfl⟩ (λ j p hj=>?_) items.size 0 [] _ (by omega) (by omega) (by simp) ⟨_,zF _ rfl,rfl,rfl⟩ o6 (λ b o h1 g8 e=>vD b o e) λ h' tk bP vE=>?_
 ·obtain⟨q1,t,q2,q3⟩:=hp j p hj;obtain⟨o1,_,_,e1,_⟩:=id q1;obtain⟨o2,e2,_⟩:=id q3;exact⟨⟨(ah _ _ e1).1,(ah _ _ e1).2,q1⟩,t,q2,(ah _ _ e2).1,(ah _ _ e2).2,q3⟩
 ·exact⟨rfl,h h' tk bP λ b o e=>vE b o (ah _ _ e).1 (ah _ _ e).2 e⟩
end
structure VM where
 (t:Addr) (κ:List Key) (b:Addr) (v:V)
def cX (H:Hp)(p:VM):Prop:=H p.t=some (.tup [.ref p.b,p.v])/\H p.b=some (.tup (p.κ.map kV))
noncomputable def qH (ps:List VM):List (List Key×V):=ps.foldl (λ acc p=>putK acc p.κ p.v) []
noncomputable def vF (X:Cx)(te:TE):TE:=λ σ H Q=>te σ H λ x H1=>∃(l:Addr) (ps:List VM),x=.ref l/\Dn X.K H1 l (ps.map λ p=>V.ref p.t)/\(∀p∈ps,cX H1 p)/\ps.length<=1000/\∀r,H1 r=none->Q (.ref r) (upd H1 r (.dT (qH ps)))
def R4:∀ {ps:List VM}{us:List Value},Vals (ps.map λ p=>V.ref p.t) us->us=ps.map λ p=>zZ p.t
 |[],_,.nil=>rfl
 |p::ps,_,.cons h t=>by
  cases h;rw[zg,<-R4 t]
def fJ {H:Hp}:∀ {ps:List VM}{qs:List (List Key×Addr×Value)}{kvs:List (List Key×V)}{xs:List (List Key×Addr×Value)},(∀p∈ps,cX H p)->Paired (λ(p:VM) (q:List Key×Addr×Value)=>p.κ=q.1/\p.b=q.2.1/\RelV p.v q.2.2) ps qs->KT H kvs xs->KT H (ps.foldl (λ acc p=>putK acc p.κ p.v) kvs) (qs.foldl (λ acc p=>storedH acc p.1 p.2.1 p.2.2) xs)
 |[],_,_,_,_,.nil,h=>h
 |p::ps,_,_,_,ho,.cons (b:=q) hq t,h=>by
  obtain⟨q1,q2,q3⟩:=q;obtain⟨e1,e2,e3⟩:=hq;dsimp only at e1 e2 e3;subst e1 e2;have r:=fJ (ps:=ps) (λ p' hp=>ho p' (zf _ hp)) t (h.put p.κ (ho p zc).2 e3);exact r
def Y0:∀(ps:List VM) (kvs:List (List Key×V)),(ps.foldl (λ acc p=>putK acc p.κ p.v) kvs).length<=kvs.length+ps.length
 |[],kvs=>zw _
 |p::ps,kvs=>by
  have h1:=Y0 ps (putK kvs p.κ p.v);have h2:=Es kvs p.κ p.v;rw[zN,zp];omega
def Ur {h:Heap}{H:Hp}{P:Program}{w:World}(ok:F7 P w H h):∀ {ps:List VM},(∀p∈ps,cX H p)->∃qs:List (List Key×Addr×Value),Paired (λ(p:VM) (q:List Key×Addr×Value)=>p.κ=q.1/\p.b=q.2.1/\RelV p.v q.2.2) ps qs/\
 ∀(j:Nat) q,qs[j]?=some q->(tupleKind (AM P w)).is h q.1 q.2.1/\∃t,(ps.map λ p=>zZ p.t)[j]?=some (.ref t)/\IsTup h t #[.ref q.2.1,q.2.2]
 |[],_=>⟨[],.nil,λ j q e=>by simp at e⟩
 |p::ps,ho=>by
  obtain⟨qs,h1,h2⟩:=Ur ok λ p hp=>ho p (zf _ hp);obtain⟨o1,o2⟩:=ho p zc;obtain⟨_,aa,r,it⟩:=(show Bf P w H h p.t (.tup [.ref p.b,p.v]) from ok p.t _ o1);obtain⟨u,v,rfl,ru,rv⟩:=r.two;cases ru;refine⟨(p.κ,p.b,v)::qs,.cons ⟨rfl,rfl,rv⟩ h1,λ j q e=>?_⟩;cases j with
  |zero =>
   rw[y4] at e;cases e;exact⟨Ig ok o2,p.t,by simp,it⟩
  |succ j =>
   rw[zQ] at e;obtain⟨a1,t,a2,a3⟩:=h2 j q e;exact⟨a1,t,by simpa using a2,a3⟩
section
variable {X:Cx}{WX:Str->Hp->Prop}{c:Bool}{P0:Dg}{P:Addr->Prop}{H:Hp}{σ:St}{ρ:Aa}{a b e:Expr}{f g:Aa->M D}{fn:Aa->M OT}{pos:Pos}{te:TE}
def Y1 {p:Pos}{n:Nat}(hc:X.calm=true)(hu:X.A.units+n<cLine)(hg:Gl X "dict")(hm:X.mg "dict" = none)(he:PE X e te)
 (hv:bootBuiltins "dict" = some (.type "dict"):=by decide +kernel)
 (hs:starEach [e] X.env=[(false,eval e X.env)]:=by rfl) (hn:2<=n:=by decide):
 PE X (.Call (.Name "dict" p) [e] [] pos) (vF X te):=by
 intro pins s σ H Q I h;refine wpAny_Call_Name_kw (Ez I hg hm hv ?_);refine yk ?_ hs;rw[hs];refine yO (Bh (he pins s σ H _ I h) λ u s1 ⟨x,H1,I1,r1,q1⟩=>?_);obtain⟨l,ps,rfl,hq,ho,hlen,q⟩:=q1;cases r1;refine yT ?_;obtain⟨aa,r',pl,hz⟩:=I1.list hq;have hits:=R4 r';subst hits;obtain⟨⟨pc,ue,uf,pd⟩,n0,o1,o2,o3,o4⟩:=pl;dsimp only at o2 o3 o4;subst o2 o3 o4;obtain⟨qs,h1,h2⟩:=Ur I1.Ax ho;refine Lg (knd:=AM X.prog X.w) qs (I1.ok.hd hc) (by omega) (by rw[zk,ze,<-h1.length]) (AG (by rw[zk,ze];omega)) o1 (λ j p hj=>?_) λ h' tk hd kp=>?_
 ·obtain⟨a1,t,a2,a3⟩:=h2 j p hj;exact⟨a1,t,by rw[List.getElem?_toArray];exact a2,a3⟩
 ·have vG:=fJ ho h1 (show KT H1 [] [] from .nil);have jk:s1.heap.objs.size<=s1.heap.objs.size:=zw _;have du:=I1.Ax.fresh jk;have ug:=Y0 ps [];obtain⟨o,es,ep,g1,g2,g3,g4,g5,g6⟩:=hd;refine⟨.ref _,_,I1.laid (t':=tk) (o:=.dT (qH ps)) kp jk ⟨yd (AG (by unfold qH;simp at ug;omega)),beq_eq_false_iff_ne.mpr (yb (zD I1.big)),_,vG.keeps (λ b ys eb=>by rw[Ab (λ z=>by rw[z,du] at eb;cases eb)];exact eb),o,es,ep,g1,g2,g3,g4,g6⟩,rfl,q _ du⟩
noncomputable def VN:List D->Option (List (D×D))
 |[]=>some []
 | .tup [k,v]::r=>(VN r).map ((k,v)::·)
 |_=>none
noncomputable def qI (l:List (D×D)):List D×List D:=l.foldl (λ z kv=>putD z.1 z.2 kv.1 kv.2) ([],[])
noncomputable def cY (d:D):M OT:=match d with
 | .lst xs=>(match VN xs with|some l=>if l.length<=1000/\(l.all λ kv=>keyOk true kv.1)=true then .ok (.Ba true (qI l).1 ((qI l).2.map .sh)) else .bad|none=>.bad)
 |_=>.bad
def Us {K:za}{H:Hp}{P:Addr->Prop}:∀ {xs:List V}{ds:List D}{l:List (D×D)},Ag K (del H P) xs ds->VN ds=some l->(l.all λ kv=>keyOk true kv.1)=true->
 ∃ps:List VM,xs=ps.map (λ p=>V.ref p.t)/\(∀p∈ps,cX H p)/\Paired (λ(p:VM) (kv:D×D)=>kv.1=.tup (p.κ.map CT)/\Bu K (del H P) p.v kv.2) ps l
 |_,[],l,.nil,e,_=>by cases e;exact⟨[],rfl,λ p hp=>(by cases hp),.nil⟩
 |_,d::ds,l,.cons hd ht,e,hk=>by
  unfold VN at e;split at e
  ·rename_i e9;cases e9
  ·rename_i k v r e9;cases e9;obtain⟨l',e1,e2⟩:=Option.map_eq_some_iff.mp e;subst e2;rw[List.all_cons,zP] at hk;obtain⟨ps,q1,q2,q3⟩:=Us ht e1 hk.2;have hK:=F3 hk.1;cases hK with
   |t κ =>
    cases hd with
    |tup h1 h2 =>
     obtain⟨x,y,rfl,hx,hy⟩:=h2.two;cases hx with
     |tup g1 g2 =>
      rename_i tt bb dl;have ey:=Ag.keys κ g2;subst ey;refine⟨⟨tt,κ,bb,y⟩::ps,by rw[zg,q1],λ p hp=>?_,.cons ⟨rfl,hy⟩ q3⟩;rcases zr.mp hp with rfl|hp
      ·exact⟨(Ai h1).2,(Ai g1).2⟩
      ·exact q2 p hp
  ·cases e
def Y2 {K:za}{H:Hp}{P:Addr->Prop}:∀ {ps:List VM}{l:List (D×D)}{kvs:List (List Key×V)}{vs:List D},Paired (λ(p:VM) (kv:D×D)=>kv.1=.tup (p.κ.map CT)/\Bu K (del H P) p.v kv.2) ps l->Ag K (del H P) (kvs.map yp) vs->
 ∃aX,l.foldl (λ z kv=>putD z.1 z.2 kv.1 kv.2) (kvs.map (λ kv=>D.tup (kv.1.map CT)),vs)=((ps.foldl (λ acc p=>putK acc p.κ p.v) kvs).map (λ kv=>D.tup (kv.1.map CT)),aX)/\Ag K (del H P) ((ps.foldl (λ acc p=>putK acc p.κ p.v) kvs).map yp) aX
 |[],_,kvs,vs,.nil,h=>⟨vs,rfl,h⟩
 |p::ps,_,kvs,vs,.cons (b:=kv) hq t,h=>by
  obtain⟨k,d⟩:=kv;obtain⟨e1,e2⟩:=hq;dsimp only at e1 e2;subst e1;have hf:∀a b:List Key,As (.tup (a.map CT)) (.tup (b.map CT))=decide (a=b):=λ a b=>by simp only[As];exact Ly a b
  have aU:∃aX,(putD (kvs.map λ kv=>.tup (kv.1.map CT)) vs (.tup (p.κ.map CT)) d)=((putK kvs p.κ p.v).map (λ kv=>.tup (kv.1.map CT)),aX)/\Ag K (del H P) ((putK kvs p.κ p.v).map yp) aX:=by
   unfold putD putK;rw[Mx (fk:=λ κ:List Key=>D.tup (κ.map CT)) hf];by_cases hh:(kvs.any λ kv=>decide (kv.1=p.κ))=true
   ·rw[if_pos hh,if_pos hh];refine⟨_,by rw[Jf (fk:=λ κ:List Key=>D.tup (κ.map CT)) hf],?_⟩;rw[<-Je (fk:=λ κ:List Key=>D.tup (κ.map CT)) hf];exact Jg e2 h
   ·rw[if_neg hh,if_neg hh];refine⟨_,by rw[zW];rfl,?_⟩;rw[zW];exact h.snoc e2
  obtain⟨wY,g1,g2⟩:=aU;obtain⟨vH,g3,g4⟩:=Y2 t g2;refine⟨vH,?_,g4⟩;rw[zN];dsimp only;rw[g1];exact g3
def R5 {p:Pos}{n:Nat}(hc:X.calm=true)(hu:X.A.units+n<cLine)(hg:Gl X "dict")(hm:X.mg "dict" = none)(he:DE X WX true e f)
 (hv:bootBuiltins "dict" = some (.type "dict"):=by decide +kernel)
 (hs:starEach [e] X.env=[(false,eval e X.env)]:=by rfl) (hn:2<=n:=by decide):
 DN X WX (.Call (.Name "dict" p) [e] [] pos) (λ ρ=>(f ρ).bind cY):=by
 obtain⟨te,e1,e2⟩:=he;refine⟨_,Y1 hc hu hg hm e1 hv hs hn,λ P0 P σ H Q ρ E h=>?_⟩;refine e2 P0 P σ H _ ρ E ?_;dsimp only at h;cases q:f ρ with
 |bad=>rw[q] at h;exact h
 |ex x=>rw[q] at h;exact h
 |ok d =>
  rw[q] at h;simp only[M.A7] at h;intro v H1 s1 hv;unfold cY at h;split at h
  ·rename_i xs;split at h
   ·rename_i l eb;split at h
    ·rename_i hl;cases hv with
     |lst hs hh =>
      obtain⟨ps,q1,q2,q3⟩:=Us hh eb hl.2;subst q1;obtain⟨aX,g1,g2⟩:=Y2 (kvs:=[]) q3 .nil;refine⟨_,ps,rfl,hs.B8,q2,by rw[q3.length];exact hl.1,λ r hr=>?_⟩;have e3:qI l=((qH ps).map (λ kv=>D.tup (kv.1.map CT)),aX):=g1;rw[e3] at h;have bG:∀a∈[r],H1 a=none:=λ a ha=>by rw[zq.mp ha];exact hr
      exact h _ [r] _ (s1.trans (AR hr _)) (λ a ha=>F2 s1 (bG a ha)) (by simp) (.dT Ao (g2.mono (D6 (AR hr _) bG)).ows)
    ·exact h.elim
   ·exact h.elim
  ·exact h.elim
end
open PySem PySem.Spec PyProof.Rows
section
variable {X:Cx}{WX:Str->Hp->Prop}{c:Bool}{P0:Dg}{P:Addr->Prop}{H:Hp}{σ:St}{ρ:Aa}{a b e:Expr}{f g:Aa->M D}{fn:Aa->M OT}{pos:Pos}{te:TE}
noncomputable def Y3 (x y:D):M D:=match x,y with
 | .tup xs,.tup ys=>(match Cb xs,Cb ys with|some ns,some ms=>.ok (.bl (HT.lexLt ns ms))|_,_=>.bad)
 |_,_=>.bad
def Ut:TZ X.K WX (mW X.K) Y3:=by
 intro P H x y v w Q ht hx hy h;unfold Y3 at h;split at h
 ·rename_i xs ys;split at h
  ·rename_i ns ms e1 e2;have:=Dz e1;subst this;have:=Dz e2;subst this;cases hx with
   |tup h1 h2 =>
    cases hy with
    |tup h3 h4 =>
     have:=DV h2;subst this;have:=DV h4;subst this;exact⟨_,_,ns,ms,rfl,rfl,Er.of (Ai h1).2,Er.of (Ai h3).2,h _ H (Ae.refl H) (.bl _)⟩
  ·exact h.elim
 ·exact h.elim
def sD {n:Nat}(hu:X.A.units+n<cLine)(ha:DE X WX c a f)(hb:DE X WX c b g):DE X WX c (.Compare a [.Lt] [b] pos) (λ ρ=>(f ρ).bind λ x=>(g ρ).bind λ y=>Y3 x y):=Xb (WY (by omega)) Ut ha hb (Ib _)
def Y4 {n:Nat}(hu:X.A.units+n<cLine)(ha:DE X WX c a f)(hb:DE X WX c b g):DT X WX (.Compare a [.Lt] [b] pos) (λ ρ=>((f ρ).bind λ x=>(g ρ).bind λ y=>Y3 x y).bind O5):=Fg (WY (by omega)) Ut ha hb (Ib _)
def R6 (hk:DE X WX true a f)(hv:DE X WX true b g):DN X WX (.Dict [some a] [b] pos) (λ ρ=>(f ρ).bind λ k=>(g ρ).bind λ v=>if keyOk false k=true then .ok (.Ba false [k] [.sh v]) else .bad):=by
 obtain⟨tk,k1,k2⟩:=hk;obtain⟨tv,v1,v2⟩:=hv;refine⟨_,Zn (X6 k1 v1 Zm) rfl rfl (by simp) (by simp),λ P0 P σ H Q ρ E h p hp=>?_⟩;dsimp only at h;have hn:∀a∈[p],H a=none:=λ a ha=>by rw[zq.mp ha];exact hp
 have s0:Ae H (upd H p (.dK [])):=AR hp _;have E1:Ak X.K P0 (PU P [p]) (upd H p (.dK [])) σ ρ:=E.more s0 Ki (λ a ha=>ha.elim (λ z=>(E.Cg a z).same s0) λ z=>by
  rw[zq.mp z];exact⟨_,Ao,λ _=>⟨λ z=>(by cases z),λ _ z=>by cases z⟩⟩) (D6 s0 hn)
 refine k2 P0 (PU P [p]) σ _ _ ρ E1 ?_;cases q:f ρ with
 |bad=>rw[q] at h;exact h
 |ex x=>rw[q] at h;exact λ H' s=>h H' (s0.trans s)
 |ok k =>
  rw[q] at h;simp only[M.A7] at h;intro y H2 s2 hy;have E2:=E1.same s2;refine v2 P0 (PU P [p]) σ H2 _ ρ E2 ?_;cases q2:g ρ with
  |bad=>rw[q2] at h;exact h
  |ex x=>rw[q2] at h;exact λ H' s=>h H' ((s0.trans s2).trans s)
  |ok d =>
   rw[q2] at h;simp only[M.A7] at h;intro w H3 s3 hw;by_cases hc:keyOk false k=true
   ·rw[if_pos hc] at h;have hK:=F3 hc;cases hK with
    |k κ =>
     have ey:=hy.jL;subst ey;refine⟨s3 _ _ (s2 _ _ Ao),[(κ,w)],rfl,by simp,?_⟩;have s4:Ae H (upd H3 p (.dK (G8 [] [(κ,w)]))):=λ a o ha=>by
      rw[Ab (λ z=>by rw[z,hp] at ha;cases ha)];exact s3 _ _ (s2 _ _ (s0 _ _ ha))
     have s5:Ae (del H3 (PU P [p])) (del (upd H3 p (.dK (G8 [] [(κ,w)]))) (PU P [p])):=λ a o ha=>by
      obtain⟨n1,n2⟩:=Ai ha;rw[Ar n1,Ab (λ z=>n1 (.inr (by rw[z];exact zq.mpr rfl)))];exact n2
     refine h _ [p] _ s4 hn (by simp) ?_;have e1:G8 [] [(κ,w)]=[(κ,w)]:=rfl;rw[e1] at s5 ⊢;exact .dK (kvs:=[(κ,w)]) Ao (.cons (.sh (hw.mono s5)) .nil)
   ·rw[if_neg hc] at h;exact h.elim
noncomputable def Uu (x:D)(m:M D):M D:=match x with
 | .Ba b ks vs=>m.bind λ y=>if keyOk b y=true then .ok ((G1 ks vs y).getD .AD) else .bad
 |_=>.bad
def cZ {K:za}{v:V}{bb:Bool}{ks vs:List D}{P:Addr->Prop}(h:Bu K (del H P) v (.Ba bb ks vs)):∃a,v=.ref a/\rO H a:=by
 cases h with
 |G9 h1 h2=>exact⟨_,rfl,.inl ⟨_,h1.B8⟩⟩
 |Hh h1 h2=>exact⟨_,rfl,.inr ⟨_,h1.B8⟩⟩
def R7 {n:Nat}{o k:Expr}{apos ac:Pos}(hu:X.A.units+n<cLine)(ha:DE X WX c o f)(hb:DE X WX c k g)(m:M1 X o "get" apos k ac:=by exact⟨rfl,rfl,rfl,rfl⟩)(hn:1<=n:=by decide):
 DE X WX c (.Call (.Attribute o "get" apos) [k] [] ac) (λ ρ=>(f ρ).bind λ x=>Uu x (g ρ)):=by
 obtain⟨ta,a1,a2⟩:=ha;obtain⟨tb,b1,b2⟩:=hb;refine⟨_,X7 (by omega) a1 b1 m,λ P0 P σ H Q ρ E h=>?_⟩;dsimp only at h;refine a2 P0 P σ H _ ρ E ?_;cases q:f ρ with
 |bad=>rw[q] at h;exact h
 |ex x=>rw[q] at h;exact h
 |ok x =>
  rw[q] at h;simp only[M.A7] at h;intro v H1 s1 hv;unfold Uu at h;split at h
  ·rename_i bb ks vs;obtain⟨a,rfl,hD⟩:=cZ hv;refine⟨a,rfl,hD,b2 P0 P σ H1 _ ρ (E.same s1) ?_⟩;cases e2:g ρ with
   |bad=>rw[e2] at h;exact h
   |ex y=>rw[e2] at h;exact gV.same (m:=.ex y) h s1
   |ok y =>
    rw[e2] at h;simp only[M.A7] at h;intro w H2 s2 hw;by_cases hk:keyOk bb y=true
    ·rw[if_pos hk] at h;obtain⟨a',xs,ea,g',hl,bG⟩:=Pf (hv.mono s2.del) hw (F3 hk);cases ea;refine⟨_,g',?_⟩;refine gV.same (gV.same h s1) s2 _ H2 (Ae.refl _) ?_;cases eg:G1 ks vs y with
     |none =>
      have:G1 ks xs y=none:=by
       cases vI:G1 ks xs y with
       |none=>rfl
       |some z =>
        have h1:=Ho (xs:=xs) (y:=y) bG;have h2:=Ho (ks:=ks) (xs:=vs) (y:=y) (by rw[<-hl.length,bG]);rw[h1,vI,eg] at h2;cases h2
      rw[this];exact .AD
     |some d =>
      obtain⟨x,e3,e4⟩:=My hl eg;rw[e3];exact e4
    ·rw[if_neg hk] at h;exact h.elim
  ·exact h.elim
end
structure jU (K:za)(x qual:Str)(st:Stmt)(f:Addr)(fd:FuncData):Prop where
 ex:∃(oc:Value) (od:Option Addr) (dV kV doc pm:Value) (an:Option Addr) (B4 ct:Value) (Qc:Array (Option Value)),
  fd=zR x qual (AS st) (Az st) (A3 st) dV kV doc pm an B4 ct/\K.lookup f=some ⟨oc,od,.func fd,Qc⟩/\yc K B4 qual=true
 kp:zO K (.ref f)=true
section
variable {P:Program}{w:World}{K:za}{mg:Str->Option Value}{base:Heap}
def dA {x qual:Str}{st:Stmt}{f:Addr}{fd:FuncData}{N ps:List Str}{k:Nat}(F:jU K x qual st f fd)(S:Ah N ps (A3 st))(g:Aa->M Out)
 (hb:∀(B4:Value) (A:Around) (outer:List Env) (s:Shared) (H:Hp) (E:XK),BD k (A.deeper (envOfC qual (A3 st) s.heap.objs.size f B4))->QD (U3 P w K mg base N qual (A3 st) f B4 A outer s H E) (Dh K E) (Az st) g):
 Df P w K mg base (Sw P w base) (k+1) f fd ps (Og K ps.length λ t ay=>DZ (g (CO N t ay))):=by
 obtain⟨oc,od,dV,kV,doc,pm,an,B4,ct,Qc,rfl,lk,bh⟩:=F.ex;refine TM lk bh S (λ vs H Q E h=>h.1) λ A outer s H vs Q E hr h=>?_;obtain⟨hl,P',p,t,fp,rest,ay,rfl,ht,hp,nd,ho,hv,hq⟩:=h;obtain⟨tt,h1,h2⟩:=hb B4 A outer s H E hr;refine⟨tt,h1,h2 ⟨λ a=>P' a/\a∉fp,λ _=>p⟩ P' _ H _ _ (Jk ht hp nd ho hv) ?_⟩;dsimp only at hq;revert hq;cases g (CO N t ay) with
 |bad=>exact λ h=>h.elim
 |ex x=>exact λ h=>h.elim
 |ok o =>
  have sub:∀ {P2:Addr->Prop} {H2:Hp} {σ2:St} {ρ:Aa},Ak K ⟨λ a=>P' a/\a∉fp,λ _=>p⟩ P2 H2 σ2 ρ->∀a,P2 a/\¬ (P' a/\a∉fp)->P2 a/\(P' a->a∈fp):=λ E a ha=>⟨ha.1,λ z=>Classical.byContradiction λ w=>ha.2 ⟨z,w⟩⟩;cases o with
  |ret d=>exact λ h=>h.elim
  |Ca d=>exact λ h=>h.elim
  |next ρ =>
   intro hq σ' H' P2 t2 E2;unfold DZ at hq;dsimp only at hq;split at hq
   ·rename_i t' e;obtain⟨c,ai,k1,k2,k3,k4,k5,k6⟩:=Lz E2 e;exact hq .AD H' P2 ai [] (λ a ha hn=>⟨E2.sub a ⟨ha,hn⟩,t2.2 a ⟨ha,hn⟩⟩) E2.Cg t2.1 k4 k5 (.sh .AD) yu (λ a ha=>by cases ha) (λ a ha=>sub E2 a (k6 a ha)) (λ a ha=>by cases ha)
   ·exact hq.elim
  |Ep r ρ =>
   intro hq v fr σ' H' P2 t2 E2 o2 bd hf;unfold DZ at hq;dsimp only at hq;split at hq
   ·rename_i t' e;obtain⟨c,ai,k1,k2,k3,k4,k5,k6⟩:=Lz E2 e;exact hq v H' P2 ai fr (λ a ha hn=>⟨E2.sub a ⟨ha,hn⟩,t2.2 a ⟨ha,hn⟩⟩) E2.Cg t2.1 k4 k5 o2 bd (λ a ha=>(hf a ha).2.2 0 c _ ai k1 k2 k3) (λ a ha=>sub E2 a (k6 a ha)) (λ a ha=>sub E2 a ⟨(hf a ha).1,(hf a ha).2.1⟩)
   ·exact hq.elim
  |brk ρ=>exact λ h=>h.elim
  |cont ρ=>exact λ h=>h.elim
end
def dB {K:za}{x qual:Str}{st:Stmt}{f:Addr}{oc:Value}{od an:Option Addr}{Qc:Array (Option Value)}{dV kV doc pm B4 ct:Value}(l:K.lookup f=some ⟨oc,od,.func (zR x qual (AS st) (Az st) (A3 st) dV kV doc pm an B4 ct),Qc⟩)
 (c:yc K B4 qual=true) (k:zO K (.ref f)=true):jU K x qual st f (zR x qual (AS st) (Az st) (A3 st) dV kV doc pm an B4 ct):=⟨⟨oc,od,dV,kV,doc,pm,an,B4,ct,Qc,rfl,l,c⟩,k⟩
structure R8 (P:Program)(w:World)(K:za)(mg:Str->Option Value)(base:Heap)(x:Str)(k n:Nat)(F:OT->List D->M (OT×OT)):Prop where
 ex:∃C fa fd ps,jT K mg x C/\Mk K C fa/\Df P w K mg base (Sw P w base) k fa fd ps (Og K n F)/\Binds K fd ps []/\Binds K fd ps [.none]
def R8.vJ {P:Program}{w:World}{K:za}{mg:Str->Option Value}{base:Heap}{x:Str}{k n:Nat}{F:OT->List D->M (OT×OT)}(G:R8 P w K mg base x k n F):oR P w K mg base x k n F:=by
 obtain⟨C,fa,fd,ps,h1,h2,h3,h4,_⟩:=G.ex;exact⟨⟨C,fa,fd,ps,h1,h2,h3,h4⟩⟩
structure SM (K:za)(mg:Str->Option Value)(x qual:Str)(st:Stmt)(ps:List Str):Prop where
 ex:∃C f fd,jT K mg x C/\Mk K C f/\jU K "__init__" qual st f fd/\Binds K fd ps []/\Binds K fd ps [.none]
def Y5 {P:Program}{w:World}{K:za}{mg:Str->Option Value}{base:Heap}{x qual:Str}{st:Stmt}{N ps:List Str}{k n:Nat}(T:SM K mg x qual st ps)(S:Ah N ps (A3 st))(g:Aa->M Out)
 (hb:∀(f:Addr) (B4:Value) (A:Around) (outer:List Env) (s:Shared) (H:Hp) (E:XK),BD k (A.deeper (envOfC qual (A3 st) s.heap.objs.size f B4))->QD (U3 P w K mg base N qual (A3 st) f B4 A outer s H E) (Dh K E) (Az st) g) (hn:ps.length=n:=by rfl):
 R8 P w K mg base x (k+1) n (λ t ay=>DZ (g (CO N t ay))):=by
 obtain⟨C,f,fd,h1,h2,F,hB⟩:=T.ex;subst hn;exact⟨⟨C,f,fd,ps,h1,h2,dA F S g (hb f),hB⟩⟩
def AY {K:za}{mg:Str->Option Value}{h:Heap}{x:Str}{st:Stmt}{ps:List Str}(X:K.In h)(G:h.Ns mainGlobals mg)(p:FP K x st)(hb:∀(kV dc pm:Value) (an:Option Addr) (cd ct:Value) (us:List Value),us.length=ps.length->bindArgs (zR x x (AS st) (Az st) (A3 st) .none kV dc pm an cd ct) ⟨us,[]⟩=pure (ps.zip us):=by first | exact (λ _ _ _ _ _ _ us hl=>match us,hl with | [_],_=>rfl) | exact (λ _ _ _ _ _ _ us hl=>match us,hl with | [_,_],_=>rfl) | exact (λ _ _ _ _ _ _ us hl=>match us,hl with | [_,_,_],_=>rfl) | exact (λ _ _ _ _ _ _ us hl=>match us,hl with | [_,_,_,_],_=>rfl)):AK K mg x st ps:=by
 obtain⟨f,oc,od,an,sl,kV,dc,pm,cd,ct,a,l,c,k⟩:=p.ex;have F:=Sh (st:=st) l c k;exact⟨⟨_,_,F,PySem.W.mg_of X G a,F.binds hb⟩⟩
def Uv {K:za}{C:Addr}{x m qual:Str}{st:Stmt}{ps:List Str}(aC:zd K mainGlobals x=some (some (.ref C)))(cl:V3 K C)(p:MP K C m qual st)(hb:∀(kV dc pm:Value) (an:Option Addr) (cd ct:Value) (us:List Value),us.length=ps.length->bindArgs (zR m qual (AS st) (Az st) (A3 st) .none kV dc pm an cd ct) ⟨us,[]⟩=pure (ps.zip us):=by first | exact (λ _ _ _ _ _ _ us hl=>match us,hl with | [_],_=>rfl) | exact (λ _ _ _ _ _ _ us hl=>match us,hl with | [_,_],_=>rfl) | exact (λ _ _ _ _ _ _ us hl=>match us,hl with | [_,_,_],_=>rfl) | exact (λ _ _ _ _ _ _ us hl=>match us,hl with | [_,_,_,_],_=>rfl)):Ol K x m qual st ps:=by
 obtain⟨f,oc,od,an,sl,kV,dc,pm,cd,ct,a,i,l,c,k⟩:=p.ex;have F:=Sh (st:=st) l c k;exact⟨⟨_,_,_,aC,cl,⟨a,i,k⟩,F,F.binds hb⟩⟩
open PySem PySem.W PySem.Calls PyProof.Rows
noncomputable def R0:Rn:=⟨topRun,Heap.nsMap,importEnds,fenceModules?,PySem.start,treeTable⟩
def jV:R0=R1:=by
 unfold R0 R1;rw[PySem.W.Fast.te14082659384304107361,PySem.W.Fast.te8920871248978507458,PySem.W.Fast.te10274390034422433532,PySem.W.Fast.te14289696077712309145,PySem.W.Fast.te1435165496053646825,PySem.W.Fast.te14364793385576792824]
def Uw (p:Program)(w:World)(N:Nat):openEnds treeTable p w N=LW R0 p w N:=by
 unfold openEnds fencedOpening LW;rfl
def MJ {h:Heap}{a:Addr}{o:Obj}:∀ {as:List Addr},(pK h as).lookup a=some o->h.get? a=some o
 |[],e=>by cases e
 |b::r,e=>by
  unfold pK at e;rw[List.filterMap_cons] at e;cases q:h.get? b with
  |none=>rw[q] at e;exact MJ (as:=r) e
  |some u =>
   rw[q] at e;dsimp only [yt] at e;rw[yM] at e;cases c:a==b with
   |true=>rw[c] at e;cases e;rw[eq_of_beq c];exact q
   |false=>rw[c] at e;exact MJ (as:=r) e
def oS (h h':Heap):Prop:=∀(b:Addr) (o:Obj),h.get? b=some o->h'.get? b=some o
def jW {h h':Heap}{as:List Addr}(s:oS h h'):(pK h as).In h':=λ a o e=>s a o (MJ e)
def dC {p q:Program}{Xt:Shared->Bool}{N:Nat}(h:∀w:World,(openEnds treeTable p w N).map (λ s=>openSeen q [] (importedModules p.main.body) Xt true s)=some (openGood q [])):LeftO p q [] Xt (λ s=>s.heap) (λ w=>Ws R0 p w N) N:=λ w=>by
 have e:=h w;unfold Ws;dsimp only;rw[<-Uw];cases q':openEnds treeTable p w N with
 |none=>rw[q'] at e;cases e
 |some s =>
  rw[q'] at e;rw[yt] at e ⊢;dsimp only;rw[zE e]
def Pp {α β γ:Type}{o:Option γ}{f:γ->α×β}{a:α×β}(h:o.map (λ s=>(f s).1)=some a.1)(k:o.map (λ s=>(f s).2)=some a.2):o.map f=some a:=by
 cases o with
 |none=>cases h
 |some s =>
  rw[yt] at h k ⊢;exact congrArg some (Prod.ext (zE h) (zE k))
def oU {l:PySem.W.OpenLaw}{n k:Nat}{q:Program}{loose:List Str}{XP:(Str->Option Value)->Heap->Prop}{YP:World->Heap->Prop}{d:DefRec}{K:World->za}{CX:World->TJ}{sp:World->Sp}{x:Str}
 (hn:l.most=some n) (a7:n<=sizeLine) (fv:d.params.defaults=[]) (hr:BD k callerA) (hY:∀(w:World) (h:Heap),YP w h->(K w).In h)
 (F:∀(w:World) (mg:Str->Option Value) (fa:Addr) (h:Heap),(K w).In h->h.Ns mainGlobals mg->mg d.name=some (.ref fa)->∃fd:FuncData,(∀(s:Shared) (u:Value),BindsTo s fd ⟨[u],[]⟩ [(x,u)])/\
  ∀base:Heap,(K w).In base->base.Ns mainGlobals mg->Df l.prog w (K w) mg base (CX w) k fa fd [x] (sp w))
 (bI:∀(w:World) (H:Hp) (a:Addr) (ns:List Int),(∀n∈ns,Sm n)->ns.length<=n->Zh H->Dn (K w) H a (ns.map V.int)->sp w [.ref a] H (λ v _=>v=.bl true) λ _ _ _=>False)
 (iy:∀(w:World) (H:Hp) (s:Shared) (e:Value) (s':Shared),CX w [] H s (λ _ _ _=>False) e s'->False):PySem.W.WalkO q loose XP YP l.row.toRowW d [] (λ f vs=>PySem.call f vs):=by
 refine HT.Oc hn fv λ w s₀ s₁ mg mb fa o pm cd doc a vs ns bC G Y ho hd bh f6 cg bn hlen hg=>?_;have KX:=hY w _ Y;obtain⟨fd,hb,hF⟩:=F w mg fa _ KX G.T.g f6;exact Qp KX G.T.g G.T.b G.T.builtins G.T.nolimit hg cg bn (zY hlen a7) hr hF hb (λ H hO hS=>bI w H a ns bC hlen hO hS) λ H e s'=>iy w H s₁ e s'
noncomputable def cst:Option (Int×Int)->D
 |none=>.AD
 |some p=>.tup [.int p.1,.int p.2]
noncomputable def AN:Option (Int×Int)->Option (Int×Int)->Option (Int×Int)
 |some p,some q=>some (p.1+q.1,p.2+q.2)
 |_,_=>none
noncomputable def fK (p q:Int×Int):Int×Int:=if p.1<q.1\/(p.1=q.1/\p.2<=q.2) then p else q
noncomputable def EU:Option (Int×Int)->Option (Int×Int)->Option (Int×Int)
 |none,b=>b
 |some p,none=>some p
 |some p,some q=>some (fK p q)
noncomputable def MK (cs:List (Option (Int×Int))):Option (Int×Int):=cs.foldl EU none
def KS (cs:List (Option (Int×Int))):Bi (λ d ρ=>.ok (ρ.set 0 (some (.val d)))) (λ ρ=>(rv 0 ρ).bind λ x=>.ok (!BE x)) (rv 0) (cs.map cst) [none]=.ok ((cs.filterMap id).map λ p=>cst (some p)):=by
 induction cs with
 |nil=>rfl
 |cons c r ih =>
  rw[zg,Bi];cases c with
  |none =>
   show Bi _ _ _ (r.map cst) [none]=_;rw[ih];rfl
  |some p =>
   show (match Bi _ _ _ (r.map cst) [none] with | .ok ys=>M.ok (cst (some p)::ys)|_=>.bad)=_;rw[ih];rfl
def VO (ps:List (Int×Int)):Gj (ps.map λ p=>cst (some p))=some (ps.map λ p=>(cst (some p),[p.1,p.2])):=by
 induction ps with
 |nil=>rfl
 |cons p r ih=>rw[zg,Gj,ih];rfl
def Y6 (cs:List (Option (Int×Int))):AX ((cs.filterMap id).map λ p=>(cst (some p),[p.1,p.2]))=(MK cs).map λ p=>(cst (some p),[p.1,p.2]):=by
 have key:∀(cs:List (Option (Int×Int))) (z:Option (Int×Int)),((cs.filterMap id).map λ p=>(cst (some p),[p.1,p.2])).foldl BA (z.map λ p=>(cst (some p),[p.1,p.2]))=(cs.foldl EU z).map λ p=>(cst (some p),[p.1,p.2]):=by
  intro cs;induction cs with
  |nil=>intro z;rfl
  |cons c r ih =>
   intro z;cases c with
   |none =>
    rw[show List.filterMap id (none::r)=List.filterMap id r from rfl,zN,ih z];cases z<;>rfl
   |some q =>
    rw[show List.filterMap id (some q::r)=q::List.filterMap id r from rfl,zg,zN,zN,<-ih (EU z (some q))];congr 1;cases z with
    |none=>rfl
    |some p =>
     simp only[yt,BA,HT.Fc,HT.EA,EU,fK];by_cases h1:q.1=p.1
     ·by_cases h2:q.2=p.2
      ·rw[if_pos (show p.1<q.1\/(p.1=q.1/\p.2<=q.2) by omega)];simp[h1,h2]
      ·by_cases h3:q.2<p.2
       ·rw[if_neg (show ¬ (p.1<q.1\/(p.1=q.1/\p.2<=q.2)) by omega)];simp[h1,h2,h3]
       ·rw[if_pos (show p.1<q.1\/(p.1=q.1/\p.2<=q.2) by omega)];simp[h1,h2,h3]
     ·by_cases h3:q.1<p.1
      ·rw[if_neg (show ¬ (p.1<q.1\/(p.1=q.1/\p.2<=q.2)) by omega)];simp[h1,h3]
      ·rw[if_pos (show p.1<q.1\/(p.1=q.1/\p.2<=q.2) by omega)];simp[h1,h3]
 exact key cs none
def dD (cs:List (Option (Int×Int))):U2 (.lst ((cs.filterMap id).map λ p=>cst (some p))) .AD=.ok (cst (MK cs)):=by
 simp only[U2,VO,Y6];cases MK cs<;>rfl
def Y7 (cs:List (Option (Int×Int))):J8 (Bi (λ d ρ=>.ok (ρ.set 0 (some (.val d)))) (λ ρ=>(rv 0 ρ).bind λ x=>.ok (!BE x)) (rv 0) (cs.map cst) [none])=.ok (.lst ((cs.filterMap id).map λ p=>cst (some p))):=by
 rw[KS];rfl
noncomputable abbrev Co:=Option (Int×Int)
def C1:Co->Co->Prop
 |_,none=>True
 |none,some _=>False
 |some p,some q=>p.1<q.1\/(p.1=q.1/\p.2<=q.2)
def BF:∀a:Co,C1 a a
 |none=>trivial
 |some p=>.inr ⟨rfl,Int.le_refl _⟩
def Ay:∀ {a b c:Co},C1 a b->C1 b c->C1 a c
 |_,_,none,_,_=>trivial
 |none,none,some _,_,h=>h.elim
 |some _,none,some _,_,h=>h.elim
 |none,some _,some _,h,_=>h.elim
 |some p,some q,some r,h1,h2=>by simp only[C1] at *;omega
def JQ:∀ {a b:Co},C1 a b->C1 b a->a=b
 |none,none,_,_=>rfl
 |none,some _,h,_=>h.elim
 |some _,none,_,h=>h.elim
 |some p,some q,h1,h2=>by
  obtain⟨p1,p2⟩:=p;obtain⟨q1,q2⟩:=q;simp only[C1] at h1 h2;have e1:p1=q1:=by omega
  have e2:p2=q2:=by omega
  rw[e1,e2]
def Cs:∀a b:Co,(EU a b=a/\C1 a b)\/(EU a b=b/\C1 b a/\a≠b)
 |none,none=>.inl ⟨rfl,trivial⟩
 |none,some q=>.inr ⟨rfl,trivial,λ h=>by cases h⟩
 |some p,none=>.inl ⟨rfl,trivial⟩
 |some p,some q=>by
  unfold EU fK;by_cases h:p.1<q.1\/(p.1=q.1/\p.2<=q.2)
  ·dsimp only;rw[if_pos h];exact .inl ⟨rfl,h⟩
  ·dsimp only;rw[if_neg h];refine .inr ⟨rfl,?_,λ e=>?_⟩
   ·simp only[C1];omega
   ·cases e;exact h (.inr ⟨rfl,Int.le_refl _⟩)
def HF (a b:Co):C1 (EU a b) a:=by
 rcases Cs a b with ⟨e,h⟩|⟨e,h,_⟩
 ·rw[e];exact BF a
 ·rw[e];exact h
def HG (a b:Co):C1 (EU a b) b:=by
 rcases Cs a b with ⟨e,h⟩|⟨e,h,_⟩
 ·rw[e];exact h
 ·rw[e];exact BF b
def R9 (cs:List Co):∀z:Co,C1 (cs.foldl EU z) z/\(∀x∈cs,C1 (cs.foldl EU z) x)/\(cs.foldl EU z=z\/cs.foldl EU z∈cs):=by
 induction cs with
 |nil=>intro z;exact⟨BF z,(λ x h=>by cases h),.inl rfl⟩
 |cons c r ih =>
  intro z;obtain⟨h1,h2,h3⟩:=ih (EU z c);rw[zN];refine⟨Ay h1 (HF z c),λ x hx=>?_,?_⟩
  ·rcases zr.mp hx with rfl|hx
   ·exact Ay h1 (HG z x)
   ·exact h2 x hx
  ·rcases h3 with h3|h3
   ·rw[h3];rcases Cs z c with ⟨e,_⟩|⟨e,_⟩
    ·exact .inl e
    ·rw[e];exact .inr zc
   ·exact .inr (zf _ h3)
def Ux {cs:List Co}{x:Co}(h:x∈cs):C1 (MK cs) x:=(R9 cs none).2.1 x h
def ML (cs:List Co):MK cs=none\/MK cs∈cs:=(R9 cs none).2.2
def dE {cs:List Co}{v:Co}(h1:∀x∈cs,C1 v x)(h2:v≠none->∃x∈cs,C1 x v):MK cs=v:=by
 refine JQ ?_ ?_
 ·cases v with
  |none=>cases MK cs<;>exact trivial
  |some p =>
   obtain⟨x,hx,hl⟩:=h2 (by intro z;cases z);exact Ay (Ux hx) hl
 ·rcases ML cs with h|h
  ·rw[h];cases v<;>exact trivial
  ·exact h1 _ h
def Ot:∀a b:Co,AN a b=AN b a
 |none,none=>rfl
 |none,some _=>rfl
 |some _,none=>rfl
 |some p,some q=>by simp only[AN];rw[Int.add_comm,Int.add_comm p.2]
def DC:∀ {a b:Co}(c:Co),C1 a b->C1 (AN a c) (AN b c)
 |_,none,c,_=>by cases c<;>exact trivial
 |none,some _,c,h=>h.elim
 |some p,some q,none,h=>trivial
 |some p,some q,some r,h=>by simp only[AN,C1] at *;omega
def NN:Co->Prop
 |none=>True
 |some p=>0<=p.1/\0<=p.2
def Y8:∀ {a b:Co},NN a->NN b->NN (AN a b)
 |none,none,_,_=>trivial
 |none,some _,_,_=>trivial
 |some _,none,_,_=>trivial
 |some p,some q,h1,h2=>by simp only[AN,NN] at *;omega
def oV {a b:Co}(h1:NN a)(h2:NN b):NN (EU a b):=by
 rcases Cs a b with ⟨e,_⟩|⟨e,_⟩
 ·rw[e];exact h1
 ·rw[e];exact h2
def ltN (a b:Co):Prop:=NN a/\C1 a b/\a≠b
def VP (a b c:Co)(h1:ltN a b)(h2:ltN b c):ltN a c:=
 ⟨h1.1,Ay h1.2.1 h2.2.1,λ e=>by subst e;exact h1.2.2 (JQ h1.2.1 h2.2.1)⟩
noncomputable def rank:Co->Nat×Nat×Nat
 |none=>(1,0,0)
 |some p=>(0,p.1.toNat,p.2.toNat)
def jX:∀a:Co,NN a->Acc ltN a:=by
 have wf:WellFounded (InvImage (Prod.Lex (· < ·) (Prod.Lex (· < ·) (· < ·))) rank):=InvImage.wf rank (Prod.lex Nat.lt_wfRel (Prod.lex Nat.lt_wfRel Nat.lt_wfRel)).wf;intro a;induction a using wf.induction with
 |h a ih =>
  intro ha;refine .intro _ λ b ⟨hb,hl,ae⟩=>ih b ?_ hb;cases b with
  |none=>cases a with
   |none=>exact (ae rfl).elim
   |some p=>exact hl.elim
  |some q=>cases a with
   |none=>exact Prod.Lex.left _ _ (by decide)
   |some p =>
    obtain⟨p1,p2⟩:=p;obtain⟨q1,q2⟩:=q;simp only[C1,NN] at hl ha hb;show Prod.Lex _ _ (0,q1.toNat,q2.toNat) (0,p1.toNat,p2.toNat);refine Prod.Lex.right _ ?_;by_cases h:q1<p1
    ·exact Prod.Lex.left _ _ (by omega)
    ·have e:q1=p1:=by omega
     subst e;have h2:q2≠p2:=λ e=>ae (by rw[e]);exact Prod.Lex.right _ (by omega)
def dG (a:Co):Acc ltN a:=.intro _ λ b h=>jX b h.1
def VQ (cs:List Co):Acc (Np ltN) cs:=Mu ltN dG cs.length cs rfl
structure Road where
 a:Int
 b:Int
 l:Option Int
 w:Int
noncomputable def HQ:Option Int->D
 |none=>.AD
 |some i=>.int i
noncomputable def DD (r:Road):D:=.tup [.int r.a,.int r.b,HQ r.l,.int r.w]
noncomputable def Am (m:Int)(rs:List Road):D:=.tup [.int m,.lst (rs.map DD)]
noncomputable def De (r:Road):Co:=match r.l with | none=>none | some l=>some (l,1)
structure Ko (m:Nat)(r:Road):Prop where
 a0:0<=r.a
 a1:r.a<m
 b0:0<=r.b
 b1:r.b<m
 l0:∀l,r.l=some l->0<=l
def fL {m:Nat}{r:Road}(h:Ko m r):NN (De r):=by
 unfold De;split
 ·trivial
 ·rename_i l e;exact⟨h.l0 l e,by show (0:Int)<=1;decide⟩
noncomputable def atC (cs:List Co)(i:Int):Co:=cs.getD i.toNat none
def Fn {cs:List Co}{i:Int}(h0:0<=i)(h1:i<cs.length):cs[i.toNat]?=some (atC cs i):=by
 unfold atC;rw[yq,zj (show i.toNat<cs.length by omega)];rfl
def set_same {α:Type}:∀ {l:List α}{i:Nat}{x:α},l[i]?=some x->l.set i x=l
 |[],_,_,h=>by cases h
 |y::r,0,x,h=>by cases h;rfl
 |y::r,i+1,x,h=>by rw[zu,set_same (by simpa using h)]
noncomputable def CZ (r:Road)(cs:List Co):List Co:=cs.set r.b.toNat (EU (atC cs r.b) (AN (atC cs r.a) (De r)))
def Uy {cs:List Co}{i j:Int}{v:Co}(hi:0<=i)(hj:0<=j)(h1:i<cs.length):atC (cs.set i.toNat v) j=if j=i then v else atC cs j:=by
 unfold atC;rw[yq,yq];by_cases h:j=i
 ·subst h;rw[if_pos rfl,zU (by omega)];rfl
 ·rw[if_neg h,yi (by omega)]
structure Good (m s:Nat)(rs:List Road)(cs:List Co):Prop where
 len:cs.length=m
 st:atC cs s=some (0,0)
 nn:∀c∈cs,NN c
 sup:∀p:Int,0<=p->p<m->p≠s->atC cs p≠none->∃r∈rs,r.b=p/\C1 (AN (atC cs r.a) (De r)) (atC cs p)
def Good.fM {m s:Nat}{rs:List Road}{cs:List Co}(g:Good m s rs cs){i:Int}(h0:0<=i)(h1:i<m):NN (atC cs i):=
 g.nn _ (zo (Fn h0 (by rw[g.len];exact h1)))
def VR {m s:Nat}{rs:List Road}{cs:List Co}{r:Road}(g:Good m s rs cs)(hr:r∈rs)(Ax:∀r∈rs,Ko m r):
 Good m s rs (CZ r cs)/\(∀i:Int,0<=i->C1 (atC (CZ r cs) i) (atC cs i))/\(EU (atC cs r.b) (AN (atC cs r.a) (De r))=atC cs r.b->CZ r cs=cs)/\
 (EU (atC cs r.b) (AN (atC cs r.a) (De r))≠atC cs r.b->Np ltN (CZ r cs) cs):=by
 have ok:=Ax r hr;have h9:r.b<cs.length:=by rw[g.len];exact ok.b1
 have hx:NN (AN (atC cs r.a) (De r)):=Y8 (g.fM ok.a0 ok.a1) (fL ok);have hv:NN (EU (atC cs r.b) (AN (atC cs r.a) (De r))):=oV (g.fM ok.b0 ok.b1) hx;have ia:∀i:Int,0<=i->atC (CZ r cs) i=if i=r.b then EU (atC cs r.b) (AN (atC cs r.a) (De r)) else atC cs i:=λ i hi=>Uy ok.b0 hi h9
 have le:∀i:Int,0<=i->C1 (atC (CZ r cs) i) (atC cs i):=λ i hi=>by
  rw[ia i hi];by_cases h:i=r.b
  ·rw[if_pos h,h];exact HF _ _
  ·rw[if_neg h];exact BF _
 refine⟨⟨by unfold CZ;rw[y9];exact g.len,?_,λ c hc=>?_,λ p h0 h1 hp hn=>?_⟩,le,λ h=>?_,λ h=>?_⟩
 ·rw[ia s (by omega)];by_cases h:(s:Int)=r.b
  ·rw[if_pos h,<-h,g.st];cases q:AN (atC cs r.a) (De r) with
   |none=>rfl
   |some x =>
    rw[q] at hx;unfold EU fK;dsimp only;rw[if_pos (by simp only[NN] at hx;omega)]
  ·rw[if_neg h];exact g.st
 ·unfold CZ at hc;rcases List.mem_or_eq_of_mem_set hc with h|h
  ·exact g.nn c h
  ·rw[h];exact hv
 ·rw[ia p h0] at hn ⊢;by_cases h:p=r.b
  ·rw[if_pos h] at hn ⊢;rcases Cs (atC cs r.b) (AN (atC cs r.a) (De r)) with ⟨e,_⟩|⟨e,_⟩
   ·rw[e] at hn ⊢;subst h;obtain⟨r',h2,h3,h4⟩:=g.sup r.b h0 h1 hp hn;exact⟨r',h2,h3,Ay (DC _ (le r'.a (Ax r' h2).a0)) h4⟩
   ·rw[e];exact⟨r,hr,h.symm,DC _ (le r.a ok.a0)⟩
  ·rw[if_neg h] at hn ⊢;obtain⟨r',h2,h3,h4⟩:=g.sup p h0 h1 hp hn;exact⟨r',h2,h3,Ay (DC _ (le r'.a (Ax r' h2).a0)) h4⟩
 ·unfold CZ;rw[h];exact set_same (Fn ok.b0 h9)
 ·unfold CZ;exact U6 ltN (Fn ok.b0 h9) ⟨hv,HF _ _,h⟩
def Right (m s:Nat)(rs:List Road)(cs:List Co):Prop:=
 cs.length=m/\atC cs s=some (0,0)/\(∀c∈cs,NN c)/\∀p:Int,0<=p->p<m->p≠s->atC cs p=MK ((rs.filter λ r=>decide (r.b=p)).map λ r=>AN (De r) (atC cs r.a))
def right_of {m s:Nat}{rs:List Road}{cs:List Co}(g:Good m s rs cs)(h:∀r∈rs,EU (atC cs r.b) (AN (atC cs r.a) (De r))=atC cs r.b):Right m s rs cs:=by
 refine⟨g.len,g.st,g.nn,λ p h0 h1 hp=>?_⟩;symm;refine dE (λ x hx=>?_) λ hn=>?_
 ·obtain⟨r,hr,rfl⟩:=zM.mp hx;obtain⟨h2,h3⟩:=yg.mp hr;have e:r.b=p:=by simpa using h3
  have:=HG (atC cs r.b) (AN (atC cs r.a) (De r));rw[h r h2,e] at this;rw[Ot];exact this
 ·obtain⟨r,h2,h3,h4⟩:=g.sup p h0 h1 hp hn;refine⟨_,zM.mpr ⟨r,yg.mpr ⟨h2,by simpa using h3⟩,rfl⟩,?_⟩;rw[Ot];exact h4
def SN {m s:Nat}(rs:List Road)(h:s<m):Good m s rs ((zy m none).set s (some (0,0))):=by
 have hl:(zy m (none:Co)).length=m:=List.length_replicate;have ia:∀i:Int,0<=i->atC ((zy m none).set s (some (0,0))) i=if i=s then some (0,0) else none:=λ i hi=>by
  have:=Uy (cs:=zy m none) (i:=(s:Int)) (j:=i) (v:=some (0,0)) (by omega) hi (by rw[hl];omega);rw[y8] at this;rw[this];by_cases h:i=s
  ·rw[if_pos h,if_pos h]
  ·rw[if_neg h,if_neg h];unfold atC;rw[yq,List.getElem?_replicate];split<;>rfl
 refine⟨by rw[y9,hl],?_,λ c hc=>?_,λ p h0 h1 hp hn=>?_⟩
 ·rw[ia s (by omega),if_pos rfl]
 ·rcases List.mem_or_eq_of_mem_set hc with h|h
  ·rw[List.eq_of_mem_replicate h];trivial
  ·rw[h];exact⟨Int.le_refl _,Int.le_refl _⟩
 ·rw[ia p h0,if_neg hp] at hn;exact (hn rfl).elim
def jY {α:Type}{l:List α}{n:Int}(h:0<=n/\n<l.length):RZ l n=l[n.toNat]? :=by
 unfold RZ TN;obtain⟨h1,h2⟩:=h;simp[h1,h2]
def dH {n:Nat}{j:Int}(h:0<=j/\j<n):TN n j=some j.toNat:=by
 unfold TN;obtain⟨h1,h2⟩:=h;simp[h1,h2]
def Pq {α:Type}{f:α->D}{l:List α}{n:Int}{x:α}(h0:0<=n)(h:l[n.toNat]?=some x):lF (.lst (l.map f)) (.int n)=.ok (f x):=by
 have h1:=(zv.mp h).1;unfold lF;dsimp only;rw[jY (by rw[ze];omega),zI,h];rfl
def MM {cs:List Co}{i:Int}(h0:0<=i)(h1:i<cs.length):lF (.lst (cs.map cst)) (.int i)=.ok (cst (atC cs i)):=Pq h0 (Fn h0 h1)
def Pr {n:Nat}(c:Co):Pl (n+1) (cst c):=by
 cases c with
 |none=>exact Xp
 |some p=>exact Xq (Hl (DU _) (Hl (DU _) Xr))
def UA (a b:Co):As (cst a) (cst b)=decide (a=b):=by
 rcases a with _|⟨a1,a2⟩<;>rcases b with _|⟨b1,b2⟩
 ·simp[cst,As]
 ·simp[cst,As]
 ·simp[cst,As]
 ·rw[yK];simp[cst,As,C7]
def dI (a b:Co):Zz 16 (cst a) (cst b)=.ok (.bl (!decide (a=b))):=by rw[Sz (Pr (n:=15) a) (Pr (n:=15) b),UA]
def UB (a b:Co):Zy 16 (cst a) (cst b)=.ok (.bl (decide (a=b))):=by rw[Sy (Pr (n:=15) a) (Pr (n:=15) b),UA]
def dJ (c:Co):Kg (cst c)=true:=by
 cases c<;>simp[cst,Kg,Jb]
def Pt (c:Co):dp (.ok (cst c))=.ok (cst c):=by
 unfold dp;rw[M.A7,if_pos (dJ c)]
def jZ {n:Nat}(l:Option Int):Pl n (HQ l):=by
 cases l with
 |none=>exact Xp
 |some i=>exact DU i
def oW (r:Road):Pl 1 (DD r):=Xq (Hl (DU _) (Hl (DU _) (Hl (jZ r.l) (Hl (DU _) Xr))))
def Bx {a b:Int}(h:0<b):Ge (.int a) (.int b)=.ok (.int (a%b)):=by
 unfold Ge Bn;dsimp only;rw[if_pos h]
def BY {a b:Int}(h:WJ a b):FO (.int a) (.int b)=.ok (.int (a / b)):=by
 unfold FO Bn;dsimp only;rw[if_pos h]
inductive Wk (rs:List Road):Int->Int->Int×Int->Prop
 |nil (u:Int):Wk rs u u (0,0)
 |cons {r:Road} {l:Int} {w:Int} {c:Int×Int}:r∈rs->r.l=some l->Wk rs r.b w c->Wk rs r.a w (l+c.1,1+c.2)
def Wk.trans {rs:List Road}{u v w:Int}{c d:Int×Int}(h:Wk rs u v c)(k:Wk rs v w d):Wk rs u w (c.1+d.1,c.2+d.2):=by
 induction h with
 |nil u=>simpa using k
 |cons hr hl _ ih =>
  have:=Wk.cons hr hl (ih k);simpa [Int.add_assoc] using this
def Wk.one {rs:List Road}{r:Road}{l:Int}(hr:r∈rs)(hl:r.l=some l):Wk rs r.a r.b (l,1):=by
 have:=Wk.cons hr hl (Wk.nil (rs:=rs) r.b);simpa using this
def Ou (rs:List Road)(u w:Int)(x:Co):Prop:=(∀c,Wk rs u w c->C1 x (some c))/\∀p,x=some p->Wk rs u w p
def Ou.C8 {rs:List Road}{u w:Int}{x y:Co}(h:Ou rs u w x)(k:Ou rs u w y):x=y:=by
 refine JQ ?_ ?_
 ·cases y with
  |none=>cases x<;>exact trivial
  |some q=>exact h.1 q (k.2 q rfl)
 ·cases x with
  |none=>cases y<;>exact trivial
  |some q=>exact k.1 q (h.2 q rfl)
def MN {r:Road}{c:Int×Int}(h:De r=some c):∃l,r.l=some l/\c=(l,1):=by
 unfold De at h;split at h
 ·cases h
 ·rename_i l e;cases h;exact⟨l,e,rfl⟩
def Kq {a b:Co}{c:Int×Int}(h:AN a b=some c):∃p q,a=some p/\b=some q/\c=(p.1+q.1,p.2+q.2):=by
 cases a with
 |none=>cases h
 |some p=>cases b with
  |none=>cases h
  |some q=>cases h;exact⟨p,q,rfl,rfl,rfl⟩
def Right.min_le {m s:Nat}{rs:List Road}{cs:List Co}(h:Right m s rs cs){r:Road}(hr:r∈rs)(Ax:Ko m r):C1 (atC cs r.b) (AN (De r) (atC cs r.a)):=by
 obtain⟨h1,h2,h3,h4⟩:=h;by_cases hs:r.b=s
 ·rw[hs,h2];have hn:NN (AN (De r) (atC cs r.a)):=Y8 (fL Ax) (h3 _ (zo (Fn Ax.a0 (by rw[h1];exact Ax.a1))));cases q:AN (De r) (atC cs r.a) with
  |none=>exact trivial
  |some p=>rw[q] at hn;simp only[NN] at hn;simp only[C1];omega
 ·rw[h4 r.b Ax.b0 Ax.b1 hs];exact Ux (zM.mpr ⟨r,yg.mpr ⟨hr,by simp⟩,rfl⟩)
def VS {m s:Nat}{rs:List Road}{cs:List Co}(h:Right m s rs cs)(Ax:∀r∈rs,Ko m r){u w:Int}{c:Int×Int}(k:Wk rs u w c):C1 (atC cs w) (AN (atC cs u) (some c)):=by
 induction k with
 |nil u =>
  cases atC cs u with
  |none=>exact trivial
  |some p=>simp only[AN,C1];omega
 | @cons r l w c hr hl _ ih =>
  refine Ay ih ?_;have h1:=h.min_le hr (Ax r hr);have e:De r=some (l,1):=by unfold De;rw[hl]
  rw[e] at h1;cases q:atC cs r.a with
  |none=>exact trivial
  |some p =>
   rw[q] at h1;cases q2:atC cs r.b with
   |none=>rw[q2] at h1;exact h1.elim
   |some p2=>rw[q2] at h1;simp only[AN,C1] at *;omega
def VT {m s:Nat}{rs:List Road}{cs:List Co}(h:Right m s rs cs)(Ax:∀r∈rs,Ko m r):∀(n:Nat) (w:Int) (p:Int×Int),0<=w->w<m->atC cs w=some p->p.2.toNat=n->Wk rs s w p:=by
 obtain⟨h1,h2,h3,h4⟩:=h;intro n;induction n with
 |zero =>
  intro w p h0 hw hp hn;by_cases hs:w=s
  ·rw[hs,h2] at hp;cases hp;rw[hs];exact .nil _
  ·exfalso;have e:=h4 w h0 hw hs;rw[hp] at e;rcases ML ((rs.filter λ r=>decide (r.b=w)).map λ r=>AN (De r) (atC cs r.a)) with z|z
   ·rw[z] at e;cases e
   ·rw[<-e] at z;obtain⟨r,hr,e2⟩:=zM.mp z;have cv:=(yg.mp hr).1;obtain⟨p1,p2,e3,e4,e5⟩:=Kq e2;obtain⟨l,hl,rfl⟩:=MN e3;have ok:=Ax r cv;have nn:=h3 _ (zo (Fn ok.a0 (by rw[h1];exact ok.a1)));rw[e4] at nn;simp only[NN] at nn;rw[e5] at hn;simp only at hn;omega
 |succ n ih =>
  intro w p h0 hw hp hn;by_cases hs:w=s
  ·rw[hs,h2] at hp;cases hp;rw[hs];exact .nil _
  ·have e:=h4 w h0 hw hs;rw[hp] at e;rcases ML ((rs.filter λ r=>decide (r.b=w)).map λ r=>AN (De r) (atC cs r.a)) with z|z
   ·rw[z] at e;cases e
   ·rw[<-e] at z;obtain⟨r,hr,e2⟩:=zM.mp z;obtain⟨cv,pe⟩:=yg.mp hr;have pe:r.b=w:=by simpa using pe
    obtain⟨p1,p2,e3,e4,e5⟩:=Kq e2;obtain⟨l,hl,rfl⟩:=MN e3;have ok:=Ax r cv;have nn:=h3 _ (zo (Fn ok.a0 (by rw[h1];exact ok.a1)));rw[e4] at nn;simp only[NN] at nn;subst e5;simp only at hn;have w1:=ih r.a p2 ok.a0 ok.a1 e4 (by omega);have w2:=w1.trans (Wk.one cv hl);rw[pe] at w2;have e6:((l+p2.1,1+p2.2):Int×Int)=(p2.1+l,p2.2+1):=by rw[Int.add_comm l,Int.add_comm 1]
    show Wk rs s w (l+p2.1,1+p2.2);rw[e6];exact w2
def Right.oX {m s:Nat}{rs:List Road}{cs:List Co}(h:Right m s rs cs)(Ax:∀r∈rs,Ko m r){w:Int}(h0:0<=w)(hw:w<m):Ou rs s w (atC cs w):=by
 refine⟨λ c k=>?_,λ p hp=>VT h Ax _ w p h0 hw hp rfl⟩;have:=VS h Ax k;rw[h.2.1] at this;have e:AN (some (0,0)) (some c)=some c:=by simp[AN]
 rw[e] at this;exact this
noncomputable def hit (rs:List Road)(cs:List Co)(p:Nat)(k:Nat):Bool:=match rs[k]? with
 |some r=>decide (r.b=(p:Int))&&decide (AN (atC cs r.a) (De r)≠none)&&decide (AN (atC cs r.a) (De r)=atC cs (p:Int))
 |none=>false
def Wk.nn {m:Nat}{rs:List Road}(Ax:∀r∈rs,Ko m r){u w:Int}{c:Int×Int}(h:Wk rs u w c):0<=c.1/\0<=c.2:=by
 induction h with
 |nil=>exact⟨Int.le_refl _,Int.le_refl _⟩
 |cons hr hl _ ih =>
  have:=(Ax _ hr).l0 _ hl;simp only;omega
noncomputable def pD (p:Int×Int):D:=.tup [.int p.1,.int p.2]
def Iv (p q:Int×Int):As (pD p) (pD q)=decide (p=q):=by
 obtain⟨a,b⟩:=p;obtain⟨c,d⟩:=q;unfold pD;simp only[As,C7,Bool.and_true];rw[yK];simp
theorem JR (p:Int×Int):keyOk true (pD p)=true:=rfl
def UC (B:List (Int×Int))(p:Int×Int):Lf (B.map pD) (pD p)=decide (p∈B):=by
 unfold Lf;rw[List.any_map,yK];simp only[List.any_eq_true,Function.comp,Iv,decide_eq_true_eq];constructor
 ·rintro ⟨x,hx,rfl⟩;exact hx
 ·intro h;exact⟨p,h,rfl⟩
def Pu (B:List (Int×Int))(vs:List D)(neg:Bool)(a b:Int):Jh neg (.tup [.int a,.int b]) (.Ba true (B.map pD) vs)=.ok (.bl (if neg=true then !decide ((a,b)∈B) else decide ((a,b)∈B))):=by
 unfold Jh;dsimp only;have h1:keyOk true (D.tup [D.int a,D.int b])=true:=rfl;have h2:Lf (B.map pD) (D.tup [D.int a,D.int b])=decide ((a,b)∈B):=UC B (a,b);rw[if_pos h1,h2]
noncomputable def Kr (B:List (Int×Int))(p:Int×Int):List (Int×Int):=if p∈B then B else B++[p]
noncomputable def CP {α:Type}(B:List α):List D:=B.map λ _=>.bl true
def Ov {α:Type}(f:α->D)(y:D):∀B:List α,Io (B.map f) (CP B) y (.bl true)=CP B
 |[]=>rfl
 |b::r=>by
  show Io (f b::r.map f) (.bl true::CP r) y (.bl true)=.bl true::CP r;rw[Io,Ov f y r];split<;>rfl
def UD (B:List (Int×Int))(p:Int×Int):putD (B.map pD) (CP B) (pD p) (.bl true)=((Kr B p).map pD,CP (Kr B p)):=by
 unfold putD Kr;rw[UC];by_cases h:p∈B
 ·rw[decide_eq_true h,if_pos rfl,if_pos h,Ov]
 ·rw[decide_eq_false h,if_neg (by simp),if_neg h];unfold CP;simp
def Ra {B:List (Int×Int)}{p q:Int×Int}:q∈Kr B p↔q∈B\/q=p:=by
 unfold Kr;split
 ·constructor
  ·exact .inl
  ·rintro (h|rfl)
   ·exact h
   ·assumption
 ·simp
def SO {B:List (Int×Int)}{p:Int×Int}(h:B.Nodup):(Kr B p).Nodup:=by
 unfold Kr;split
 ·exact h
 ·rename_i hn;exact zH.mpr ⟨h,by simp,λ a ha b hb z=>by simp at hb;subst hb;subst z;exact hn ha⟩
def HH {α:Type}[DecidableEq α]:∀ {l u:List α},l.Nodup->(∀x∈l,x∈u)->l.length<=u.length
 |[],_,_,_=>zS _
 |x::r,u,nd,h=>by
  have bd:=ym.mp nd;have hx:=h x zc;have ih:=HH (l:=r) (u:=u.erase x) bd.2 λ y hy=>(List.mem_erase_of_ne (λ z=>bd.1 (by rw[<-z];exact hy))).mpr (h y (zf _ hy));have e:=List.length_erase_of_mem hx;have:0<u.length:=List.length_pos_of_mem hx;rw[zp];omega
def Y9 (p:Int×Int):Kg (pD p)=true:=by simp[pD,Kg,Jb]
noncomputable def AZ (m:Nat):List Int:=(yf m).map λ i:Nat=>(i:Int)
def MO (m:Nat):((yf m).map λ i:Nat=>D.int (i:Int))=(AZ m).map D.int:=by unfold AZ;rw[yj];rfl
def Gx (m:Nat):(AZ m).length=m:=by unfold AZ;simp
def JS {m:Nat}{p:Int}:p∈AZ m↔0<=p/\p<m:=by
 unfold AZ;constructor
 ·intro h;obtain⟨i,hi,rfl⟩:=zM.mp h;have:=xf.mp hi;omega
 ·rintro ⟨h0,h1⟩;exact zM.mpr ⟨p.toNat,xf.mpr (by omega),by omega⟩
noncomputable def B2 (B:List (Int×Int))(L:List Int)(v:Int):List (Int×Int):=(L.filter λ u=>decide ((u,v)∈B)).flatMap λ u=>((L.filter λ w=>decide ((v,w)∈B)).filter λ w=>decide (u≠w) && !decide ((u,w)∈B)).map λ w=>(u,w)
def kA (B:List (Int×Int)):Prop:=∀x,(x,x)∉B
def VU (B:List (Int×Int))(L:List Int)(v:Int):(B2 B L v).length<=L.length*L.length:=by
 unfold B2;rw[List.length_flatMap];have key:∀l:List Int,(l.map λ u=>(((L.filter λ w=>decide ((v,w)∈B)).filter λ w=>decide (u≠w) && !decide ((u,w)∈B)).map λ w=>(u,w)).length).sum<=l.length*L.length:=by
  intro l;induction l with
  |nil=>simp
  |cons u r ih =>
   rw[zg,List.sum_cons,zp,Nat.succ_mul];have:(((L.filter λ w=>decide ((v,w)∈B)).filter λ w=>decide (u≠w) && !decide ((u,w)∈B)).map λ w=>(u,w)).length<=L.length:=by
    rw[ze];exact zY (yD _ _) (yD _ _)
   omega
 exact zY (key _) (Nat.mul_le_mul_right _ (yD _ _))
def Ox {α:Type}(f:α->List Int):∀l:List α,Gj (l.map λ x=>D.tup ((f x).map D.int))=some (l.map λ x=>(D.tup ((f x).map D.int),f x))
 |[]=>rfl
 |x::r=>by
  rw[zg,Gj,Ox f r];simp[Xk,CU]
def Oy {B:List (Int×Int)}{L:List Int}{v:Int}{p:Int×Int}(h:p∈B2 B L v):p.1∈L/\p.2∈L/\p.1≠p.2:=by
 unfold B2 at h;obtain⟨u,hu,h⟩:=List.mem_flatMap.mp h;obtain⟨w,hw,rfl⟩:=zM.mp h;have h1:=yg.mp hw;have h2:=yg.mp h1.1;have h3:=yg.mp hu;simp at h1;exact⟨h3.1,h2.1,h1.2.1⟩
noncomputable def C4 (B ps:List (Int×Int)):List (Int×Int):=ps.foldl Kr B
structure C5 (m:Nat)(B:List (Int×Int)):Prop where
 nd:B.Nodup
 no:kA B
 uA:∀p∈B,(0<=p.1/\p.1<m)/\(0<=p.2/\p.2<m)
def C5.add {m:Nat}{B:List (Int×Int)}(h:C5 m B){p:Int×Int}(hp:p.1≠p.2)(h1:0<=p.1/\p.1<m)(h2:0<=p.2/\p.2<m):C5 m (Kr B p):=by
 refine⟨SO h.nd,λ x hx=>?_,λ q hq=>?_⟩
 ·rcases Ra.mp hx with z|z
  ·exact h.no x z
  ·subst z;exact hp rfl
 ·rcases Ra.mp hq with z|z
  ·exact h.uA q z
  ·subst z;exact⟨h1,h2⟩
def C5.C4 {m:Nat}{B:List (Int×Int)}(h:C5 m B):∀ {ps:List (Int×Int)},(∀p∈ps,p.1≠p.2/\(0<=p.1/\p.1<m)/\(0<=p.2/\p.2<m))->C5 m (L2.C4 B ps):=by
 intro ps;induction ps generalizing B with
 |nil=>intro _;exact h
 |cons p r ih =>
  intro hp;have:=hp p zc;exact ih (h.add this.1 this.2.1 this.2.2) λ q hq=>hp q (zf _ hq)
def C5.len {m:Nat}{B:List (Int×Int)}(h:C5 m B)(hm:m<=20):B.length<1000:=by
 have key:=HH (l:=B) (u:=(yf m).flatMap λ i:Nat=>(yf m).map λ j:Nat=>((i:Int),(j:Int))) h.nd λ p hp=>by
  obtain⟨h1,h2⟩:=h.uA p hp;refine List.mem_flatMap.mpr ⟨p.1.toNat,xf.mpr (by omega),zM.mpr ⟨p.2.toNat,xf.mpr (by omega),?_⟩⟩;rw[Int.toNat_of_nonneg h1.1,Int.toNat_of_nonneg h2.1]
 have e:((yf m).flatMap λ i:Nat=>(yf m).map λ j:Nat=>((i:Int),(j:Int))).length=m*m:=by
  rw[List.length_flatMap];simp[List.map_const',List.sum_replicate_nat]
 rw[e] at key;have:m*m<=20*20:=Nat.mul_le_mul hm hm;omega
def EH (a b c d:Int):HT.lexLt [a,b] [c,d]=decide (a<c\/(a=c/\b<d)):=by
 rw[HT.Fc,HT.Fc,HT.EA,yK];by_cases h1:a=c
 ·subst h1;by_cases h2:b=d
  ·subst h2;simp
  ·simp[h2]
 ·simp[h1]
def VW {α β:Type}(f:α->β):∀bs:List (α×List Int),AX (bs.map λ b=>(f b.1,b.2))=(AX bs).map λ b=>(f b.1,b.2):=by
 intro bs;unfold AX
 suffices z:∀o:Option (α×List Int),(bs.map λ b=>(f b.1,b.2)).foldl BA (o.map λ b=>(f b.1,b.2))=(bs.foldl BA o).map λ b=>(f b.1,b.2) from z none
 induction bs with
 |nil=>intro o;rfl
 |cons b r ih =>
  intro o;rw[zg,zN,zN,<-ih];congr 1;cases o with
  |none=>rfl
  |some c =>
   unfold BA;dsimp only [yt];split<;>rfl
def Yb {α:Type}:∀(bs:List (α×List Int)) (o:Option (α×List Int)) (b:α×List Int),bs.foldl BA o=some b->b∈bs\/o=some b:=by
 intro bs;induction bs with
 |nil=>intro o b h;exact .inr h
 |cons x r ih =>
  intro o b h;rw[zN] at h;rcases ih _ _ h with q|q
  ·exact .inl (zf _ q)
  ·cases o with
   |none=>cases q;exact .inl zc
   |some c =>
    unfold BA at q;dsimp only at q;split at q
    ·cases q;exact .inl zc
    ·exact .inr q
def VX {α:Type}{bs:List (α×List Int)}(h2:∀b∈bs,∃x y:Int,b.2=[x,y]){b:α×List Int}(hb:AX bs=some b):∀c∈bs,HT.lexLt c.2 b.2=false:=by
 unfold AX at hb
 suffices z:∀(bs:List (α×List Int)) (o:Option (α×List Int)),(∀b∈bs,∃x y:Int,b.2=[x,y])->(∀b,o=some b->∃x y:Int,b.2=[x,y])->∀b,bs.foldl BA o=some b->(∀c∈bs,HT.lexLt c.2 b.2=false)/\(∀c,o=some c->HT.lexLt c.2 b.2=false) from (z bs none h2 (λ b h=>by cases h) b hb).1
 intro bs;induction bs with
 |nil =>
  intro o _ ho b h;refine⟨λ c hc=>(by cases hc),λ c hc=>?_⟩;have e:o=some b:=h;rw[hc] at e;cases e;obtain⟨x,y,e⟩:=ho _ hc;rw[e,EH];simp
 |cons d r ih =>
  intro o h2 ho b h;rw[zN] at h;have hd:=h2 d zc;have aN:∀b,BA o d=some b->∃x y:Int,b.2=[x,y]:=λ b hb=>by
   unfold BA at hb;cases o with
   |none=>cases hb;exact hd
   |some c =>
    dsimp only at hb;split at hb
    ·cases hb;exact hd
    ·cases hb;exact ho _ rfl
  obtain⟨i1,i2⟩:=ih (BA o d) (λ c hc=>h2 c (zf _ hc)) aN b h;have vK:=Ip o d;obtain⟨k,hk⟩:∃k,BA o d=some k:=by
   cases q:BA o d with
   |none=>exact (vK q).elim
   |some k=>exact⟨k,rfl⟩
  have vL:=i2 k hk;obtain⟨kx,ky,ek⟩:=aN k hk;have fb:∃x y:Int,b.2=[x,y]:=by
   have:=Yb r (BA o d) b h;rcases this with z|z
   ·exact h2 b (zf _ z)
   ·exact aN b z
  obtain⟨bx,wZ,eb⟩:=fb;obtain⟨dx,dy,ed⟩:=hd;rw[ek,eb,EH,decide_eq_false_iff_not] at vL;have ck:HT.lexLt d.2 b.2=false/\∀c,o=some c->HT.lexLt c.2 b.2=false:=by
   unfold BA at hk;cases o with
   |none =>
    cases hk;rw[ed] at ek;injection ek with e1 e2
    injection e2 with e2 _
    refine⟨?_,λ c hc=>by cases hc⟩;rw[ed,eb,EH,decide_eq_false_iff_not];omega
   |some c =>
    obtain⟨cx,cy,ec⟩:=ho c rfl;dsimp only at hk;rw[ed,ec,EH] at hk;by_cases hl:dx<cx\/(dx=cx/\dy<cy)
    ·rw[if_pos (decide_eq_true hl)] at hk;cases hk;rw[ed] at ek;injection ek with e1 e2
     injection e2 with e2 _
     refine⟨?_,λ c' gx=>?_⟩
     ·rw[ed,eb,EH,decide_eq_false_iff_not];omega
     ·cases gx;rw[ec,eb,EH,decide_eq_false_iff_not];omega
    ·rw[if_neg (by simpa using hl)] at hk;cases hk;rw[ec] at ek;injection ek with e1 e2
     injection e2 with e2 _
     refine⟨?_,λ c' gx=>?_⟩
     ·rw[ed,eb,EH,decide_eq_false_iff_not];omega
     ·cases gx;rw[ec,eb,EH,decide_eq_false_iff_not];omega
  refine⟨λ c hc=>?_,ck.2⟩;rcases zr.mp hc with z|z
  ·rw[z];exact ck.1
  ·exact i1 c z
noncomputable def Bm (B:List (Int×Int))(L:List Int):Int:=match AX (L.map λ p=>(p,[((B2 B L p).length:Int),p])) with
 |some k=>k.1
 |none=>0
def VY {B:List (Int×Int)}{L:List Int}(h:L≠[]):Bm B L∈L/\∀p∈L,¬ (((B2 B L p).length:Int)<(B2 B L (Bm B L)).length\/(((B2 B L p).length:Int)=(B2 B L (Bm B L)).length/\p<Bm B L)):=by
 unfold Bm;cases q:AX (L.map λ p=>(p,[((B2 B L p).length:Int),p])) with
 |none=>exact (MB (λ z=>h (List.map_eq_nil_iff.mp z)) q).elim
 |some k =>
  obtain⟨p,hp,rfl⟩:=zM.mp (Kc _ _ q);refine⟨hp,λ p' i7=>?_⟩;have:=VX (λ b hb=>by obtain⟨x,_,rfl⟩:=zM.mp hb;exact⟨_,_,rfl⟩) q _ (zM.mpr ⟨p',i7,rfl⟩);rw[EH,decide_eq_false_iff_not] at this;exact this
noncomputable def Wr:Nat->List (Int×Int)->List Int->List Int
 |0,_,_=>[]
 |n+1,B,L=>if L=[] then [] else Bm B L::Wr n (C4 B (B2 B L (Bm B L))) (L.erase (Bm B L))
noncomputable def BC (rs:List Road):List (Int×Int):=rs.foldl (λ B r=>match r.l with | none=>B | some _=>Kr B (r.a,r.b)) []
def Rb {m:Nat}:∀ {rs:List Road},(∀r∈rs,Ko m r/\r.a≠r.b)->C5 m (BC rs):=by
 intro rs
 suffices z:∀(rs:List Road) (B:List (Int×Int)),C5 m B->(∀r∈rs,Ko m r/\r.a≠r.b)->C5 m (rs.foldl (λ B r=>match r.l with|none=>B|some _=>Kr B (r.a,r.b)) B) from λ h=>z rs [] ⟨yu,λ x h=>(by cases h),λ p h=>(by cases h)⟩ h
 intro rs;induction rs with
 |nil=>intro B h _;exact h
 |cons r t ih =>
  intro B h hr;rw[zN];refine ih _ ?_ λ r' h'=>hr r' (zf _ h');have:=hr r zc;cases r.l with
  |none=>exact h
  |some l=>exact h.add this.2 ⟨this.1.a0,this.1.a1⟩ ⟨this.1.b0,this.1.b1⟩
theorem F5 {f:Int->Int->M D}{a b:Int}:Bn f (.int a) (.int b)=f a b:=rfl
def JT {bs:List Bool}:Xv [.lst (bs.map D.bl)]=.ok (.bl (bs.all id)):=by unfold Xv;dsimp only;rw[Mo]
def JU {bs:List Bool}:nY [.lst (bs.map D.bl)]=.ok (.bl (bs.any id)):=by unfold nY;dsimp only;rw[Mo]
def dM {a b:List D}(h:a.length+b.length<=1000):QL (.lst a) (.lst b)=.ok (.lst ((a++b).map .sh)):=if_pos h
noncomputable def K6 (d:D)(n:Int):Bool:=match d with
 | .int j=>decide (0<=j)&&decide (j<n)
 |_=>false
noncomputable def Eu (m:Nat):D->Bool
 | .lst xs=>(match Cb xs with|some ns=>decide (FR ns=AZ m)|none=>false)
 |_=>false
def oY (d:D):Prop:=U0 d=false/\∀xs,d=.lst xs->xs.length<=1000/\∀e∈xs,U0 e=false
def Rc (m:Nat):(AZ m).Pairwise (·<=·):=by
 unfold AZ;rw[List.pairwise_map];exact (List.pairwise_lt_range (n:=m)).imp λ h=>by omega
def MQ (m:Nat):(AZ m).Nodup:=by
 unfold AZ List.Nodup;rw[List.pairwise_map];exact (List.pairwise_lt_range (n:=m)).imp λ h=>by omega
def Oz {m:Nat}{L:List Int}:FR L=AZ m↔L.Perm (AZ m):=
 ⟨λ h=>by rw[<-h];exact (E7 L).symm,λ h=>Gu ((E7 L).trans h) (Fm L) (Rc m)⟩
def MR {m:Nat}{L:List Int}:Eu m (.lst (L.map D.int))=decide (FR L=AZ m):=by unfold Eu;dsimp only;rw[CU]
def SQ {m:Nat}{L:List Int}(h:L.Perm (AZ m)):Eu m (.lst (L.map D.int))=true:=by rw[MR];exact decide_eq_true (Oz.mpr h)
def VZ {m:Nat}{xs:List D}(h:Eu m (.lst xs)=true):∃L:List Int,xs=L.map D.int/\L.Perm (AZ m):=by
 unfold Eu at h;dsimp only at h;split at h
 ·rename_i ns e;exact⟨ns,Dz e,Oz.mp (of_decide_eq_true h)⟩
 ·cases h
def E8 {m:Nat}{L:List Int}(h:L.Perm (AZ m)):L.length=m:=by rw[h.length_eq,Gx]
def Br {m:Nat}{L:List Int}(h:L.Perm (AZ m)){p:Int}:p∈L↔0<=p/\p<m:=by rw[h.mem_iff,JS]
def MS {m:Nat}{L:List Int}(h:L.Perm (AZ m)):L.Nodup:=h.nodup_iff.mpr (MQ m)
def Rf {m:Nat}{xs:List D}(h:Eu m (.lst xs)=true):xs.length=m/\(xs.map λ e=>K6 e m).all id=true:=by
 obtain⟨L,rfl,hp⟩:=VZ h;refine⟨by rw[ze,E8 hp],?_⟩;rw[List.all_eq_true];intro b hb;rw[yj] at hb;obtain⟨j,hj,rfl⟩:=zM.mp hb;have:=(Br hp).mp hj;show (decide (0<=j)&&decide (j<m))=true;simp only[zP,decide_eq_true_eq];exact this
def UE {m:Nat}:∀ {xs:List D},(xs.map λ e=>K6 e m).all id=true->∃L:List Int,xs=L.map D.int
 |[],_=>⟨[],rfl⟩
 |d::r,h=>by
  rw[zg,List.all_cons,zP] at h;obtain⟨L,rfl⟩:=UE h.2;cases d with
  |int j=>exact⟨j::L,rfl⟩
  |_=>exact absurd h.1 (by simp[K6])
def OA:∀ {a b:List Int},C7 (a.map D.int) (b.map D.int)=decide (a=b)
 |[],[]=>by simp[C7]
 |[],y::t=>by simp[C7]
 |x::r,[]=>by simp[C7]
 |x::r,y::t=>by
  rw[zg,zg,C7,OA,As];by_cases h:x=y<;>by_cases k:r=t<;>simp[h,k]
def Yc {a b:List Int}:As (.lst (a.map D.int)) (.lst (b.map D.int))=decide (a=b):=by rw[As];exact OA
def Yd {a b:List Int}:Zy 16 (.lst (a.map D.int)) (.lst (b.map D.int))=.ok (.bl (decide (a=b))):=by rw[Sy (U4 (n:=15) a) (U4 (n:=15) b),Yc]
def W0 {i:Nat}{L:List Int}(h:L.Perm (AZ i))(n:Nat):(L.take n++(i:Int)::L.drop n).Perm (AZ (i+1)):=by
 have e:AZ (i+1)=AZ i++[(i:Int)]:=by unfold AZ;rw[List.range_succ,zW];rfl
 rw[e];refine List.perm_middle.trans ?_;rw[yw];exact ((h.cons _).trans (List.perm_append_singleton _ _).symm)
def dN {m:Nat}{xs:List D}(h:xs.length≠m):Eu m (.lst xs)=false:=by
 cases q:Eu m (.lst xs) with
 |false=>rfl
 |true=>exact (h (Rf q).1).elim
def UG {i:Nat}{ρ:Aa}{ds:List D}{d:D}{p:Int}(hi:ρ[i]?=some (some (.own ds)))(h0:0<=p)(h1:p<ds.length):ZJ i ρ (.ok (.int p)) d=.ok (.next (ρ.set i (some (.own (ds.set p.toNat d))))):=by
 unfold ZJ;rw[hi];dsimp only;rw[M.A7];unfold jG;dsimp only;rw[dH ⟨h0,h1⟩]
theorem dO {ρ:Aa}:XD 0 (none::ρ)=none::ρ:=rfl
def Ye:∃T Q:Int,Ve (.int 10) (.int 60)=.ok (.int T)/\Ve (.int 982451653) (.int 7)=.ok (.int Q)/\1000000<T/\T.natAbs<2^200/\0<Q/\Q.natAbs<2^250:=⟨10^60,982451653^7,rfl,rfl,by decide,by decide,by decide,by decide⟩
noncomputable def Lh:Int:=zh Ye
def fN:∃Q:Int,Ve (.int 10) (.int 60)=.ok (.int Lh)/\Ve (.int 982451653) (.int 7)=.ok (.int Q)/\1000000<Lh/\Lh.natAbs<2^200/\0<Q/\Q.natAbs<2^250:=zb Ye
def fO:Ve (.int 10) (.int 60)=.ok (.int Lh):=(zb fN).1
def SR:1000000<Lh:=(zb fN).2.2.1
def dP {i:Int}:Ge (.int i) (.int Lh)=.ok (.int (i%Lh)):=Bx (by have:=SR;omega)
def cl:Nat->D->Prop
 |0,d=>U0 d=false
 |n+1,d=>U0 d=false/\∀ds,(d=.tup ds\/d=.lst ds)->∀e∈ds,cl n e
def cl.x {n:Nat}{d:D}(h:cl n d):U0 d=false:=by cases n with | zero=>exact h | succ n=>exact h.1
def Yg {n:Nat}{ds:List D}(h:∀e∈ds,cl n e):cl (n+1) (.tup ds):=⟨rfl,λ es e x hx=>by rcases e with e | e<;>cases e;exact h x hx⟩
def kB {n:Nat}{ds:List D}(h:∀e∈ds,cl n e):cl (n+1) (.lst ds):=⟨rfl,λ es e x hx=>by rcases e with e | e<;>cases e;exact h x hx⟩
def UH {n:Nat}{d:D}(h:U0 d=false)(h2:∀ds,d≠.tup ds)(h3:∀ds,d≠.lst ds):cl n d:=by
 cases n with
 |zero=>exact h
 |succ n=>exact⟨h,λ ds e=>by rcases e with e|e;exact (h2 ds e).elim;exact (h3 ds e).elim⟩
def MT {n:Nat}{i:Int}:cl n (.int i):=UH rfl (λ _ h=>by cases h) (λ _ h=>by cases h)
def kC {n:Nat}:cl n .AD:=UH rfl (λ _ h=>by cases h) (λ _ h=>by cases h)
def kD {n:Nat}{l:Option Int}:cl n (HQ l):=by cases l;exact kC;exact MT
def Yh {n:Nat}:∀e∈([]:List D),cl n e:=λ e h=>by cases h
def HI {n:Nat}{d:D}{ds:List D}(h:cl n d)(t:∀e∈ds,cl n e):∀e∈d::ds,cl n e:=λ e he=>by
 rcases zr.mp he with rfl|he
 ·exact h
 ·exact t e he
def oZ {n:Nat}{r:Road}:cl (n+1) (DD r):=Yg (HI MT (HI MT (HI kD (HI MT Yh))))
def kE {n:Nat}{rs:List Road}:∀e∈rs.map DD,cl (n+1) e:=λ e he=>by
 obtain⟨r,_,rfl⟩:=zM.mp he;exact oZ
noncomputable def EI (m:Int):D->Bool
 | .tup [a,b,l,w]=>K6 a m&&(K6 b m&&(!As a b&&((BE l||K6 l Lh)&&K6 w Lh)))
 |_=>false
noncomputable def Dq:D->Bool
 | .tup [.int m,.lst rs]=>(K6 (.int m) 17 && !decide (m=0))&&(decide (rs.length<=60)&&(rs.map (EI m)).all id)
 |_=>false
def W2 {n:D}:Dq (.tup [n])=false:=by cases n<;>rfl
def SS {n r z:D}{t:List D}:Dq (.tup (n::r::z::t))=false:=by cases n<;>cases r<;>rfl
structure Iw (m:Nat)(r:Road):Prop where
 a0:0<=r.a
 a1:r.a<m
 b0:0<=r.b
 b1:r.b<m
 ab:r.a≠r.b
 l0:∀l,r.l=some l->0<=l/\l<Lh
 w0:0<=r.w
 w1:r.w<Lh
def JV {i n:Int}(h0:0<=i)(h1:i<n):K6 (.int i) n=true:=by unfold K6;simp[h0,h1]
def W3 {m:Nat}{r:Road}(h:Iw m r):EI m (DD r)=true:=by
 unfold DD EI;dsimp only;rw[JV h.a0 h.a1,JV h.b0 h.b1,JV h.w0 h.w1];have:As (.int r.a) (.int r.b)=false:=by rw[As];simp[h.ab]
 rw[this];cases hl:r.l with
 |none=>rfl
 |some l=>have:=h.l0 l hl;rw[show HQ (some l)=.int l from rfl,JV this.1 this.2];rfl
def Yi {m:Nat}{rs:List Road}(h1:1<=m)(h2:m<=16)(hl:rs.length<=60)(h:∀r∈rs,Iw m r):Dq (Am m rs)=true:=by
 unfold Am Dq;dsimp only;rw[JV (by omega) (by omega),ze,decide_eq_true hl,decide_eq_false (by omega)];have:(((rs.map DD).map (EI m)).all id)=true:=by
  rw[List.all_eq_true];intro b hb;rw[yj] at hb;obtain⟨r,hr,rfl⟩:=zM.mp hb;exact W3 (h r hr)
 rw[this];rfl
def Yj {S:List D}{q:Int}(h:0<S.length)(h0:0<=q):Ge (.int q) (.int (S.length:Int))=.ok (.int (q%S.length))/\∃y,y∈S/\Bd (.lst S) (.int (q%(S.length:Int)))=.ok y:=by
 have bI:(0:Int)<(S.length:Int):=by omega
 have b0:0<=q%(S.length:Int):=yx _ (by omega);have b1:q%(S.length:Int)<S.length:=yy _ bI;refine⟨Bx bI,S[(q%(S.length:Int)).toNat]'(by omega),List.getElem_mem _,?_⟩;have:=Pq (f:=λ d:D=>d) (l:=S) b0 (zj (by omega));rw[List.map_id'] at this;exact this
def dQ {a b:OT}:er (.tup [a,b])=.tup [er a,er b]:=by simp[er,Qx]
section
variable {α β:Type}{a b c d e f g:α}{x y:β}
theorem dR:(if [a,b,c,d,e].length<=1000 then x else y)=x:=rfl
theorem dS:(if [a,b,c,d,e,f].length<=1000 then x else y)=x:=rfl
theorem dU:(if [a,b,c,d,e,f,g].length<=1000 then x else y)=x:=rfl
def LS {t:Bool}:er (.Ba t [] [])=.Ba t [] []:=by simp[er,Qx]
end
structure vM (m:Nat)(rs:List Road)(rk:Int->Nat)(Af:Int->Int->Co):Prop where
 snd:∀x y c,Af x y=some c->Wk rs x y c/\x≠y/\(0<=x/\x<m)/\0<=y/\y<m
 road:∀r∈rs,C1 (Af r.a r.b) (De r)
 xA:∀p x y,x≠y->rk p<rk x->rk p<rk y->C1 (Af x y) (AN (Af x p) (Af p y))
 inj:∀x y:Int,0<=x->x<m->0<=y->y<m->rk x=rk y->x=y
 nn:∀x y c,Wk rs x y c->0<=c.1/\0<=c.2
inductive Yk (Af:Int->Int->Co) (rk:Int->Nat) (s:Int):Int->Int×Int->Prop
 |nil:Yk Af rk s s (0,0)
 |snoc {x y:Int} {c d:Int×Int}:Yk Af rk s x c->rk x<rk y->Af x y=some d->Yk Af rk s y (c.1+d.1,c.2+d.2)
section
variable {m:Nat}{rs:List Road}{rk:Int->Nat}{Af Cf:Int->Int->Co}{s w:Int}
structure sE (rk:Int->Nat)(Cf:Int->Int->Co)(s:Int)(R:Int->Co):Prop where
 st:C1 (R s) (some (0,0))
 cl:∀x y,rk x<rk y->C1 (R y) (AN (R x) (Cf x y))
 sd:∀x c,R x=some c->Yk Cf rk s x c
def sE.le {R:Int->Co}(h:sE rk Cf s R){t:Int}{c:Int×Int}(u:Yk Cf rk s t c):C1 (R t) (some c):=by
 induction u with
 |nil=>exact h.st
 | @snoc x y c d hu hr ha ih =>
  refine Ay (h.cl x y hr) ?_;rw[ha];exact DC (some d) ih
end
section
variable {κ β:Type} [DecidableEq κ]
noncomputable def AA:List (κ×β)->κ->Option β
 |[],_=>none
 |(k,v)::r,x=>if k=x then some v else AA r x
noncomputable def CL (A:List (κ×β))(k:κ)(v:β):List (κ×β):=if (AA A k).isSome=true then A.map λ kv=>if kv.1=k then (kv.1,v) else kv else A++[(k,v)]
def Pw (k j:κ)(v:β):∀A:List (κ×β),AA (A.map λ kv=>if kv.1=k then (kv.1,v) else kv) j=if j=k then (AA A j).map λ _=>v else AA A j
 |[]=>by simp[AA]
 |(k',v')::r=>by
  rw[zg];by_cases h1:k'=k
  ·rw[if_pos h1];subst h1;simp only[AA];by_cases h2:k'=j
   ·subst h2;simp
   ·rw[if_neg h2,if_neg h2,Pw k' j v r]
  ·rw[if_neg h1];simp only[AA];by_cases h2:k'=j
   ·subst h2;rw[if_pos rfl,if_pos rfl,if_neg h1]
   ·rw[if_neg h2,if_neg h2,Pw k j v r]
def Rg (k j:κ)(v:β):∀A:List (κ×β),AA A k=none->AA (A++[(k,v)]) j=if j=k then some v else AA A j
 |[],_=>by
  simp only[List.nil_append,AA];by_cases h:k=j
  ·subst h;simp
  ·rw[if_neg h,if_neg (yb h)]
 |(k',v')::r,h=>by
  simp only[AA] at h;by_cases h1:k'=k
  ·rw[if_pos h1] at h;cases h
  ·rw[if_neg h1] at h;rw[xl];simp only[AA];rw[Rg k j v r h];by_cases h2:k'=j
   ·subst h2;rw[if_pos rfl,if_pos rfl,if_neg h1]
   ·rw[if_neg h2,if_neg h2]
def Dt (A:List (κ×β))(k j:κ)(v:β):AA (CL A k v) j=if j=k then some v else AA A j:=by
 unfold CL;by_cases h:(AA A k).isSome=true
 ·rw[if_pos h,Pw];by_cases hj:j=k
  ·subst hj;rw[if_pos rfl,if_pos rfl];obtain⟨x,hx⟩:=xi.mp h;rw[hx];rfl
  ·rw[if_neg hj,if_neg hj]
 ·rw[if_neg h];exact Rg k j v A (by cases e:AA A k with|none=>rfl|some x=>rw[e] at h;exact (h rfl).elim)
def Ew:∀ {A:List (κ×β)}{k:κ},(AA A k).isSome=true↔k∈A.map zG
 |[],k=>by simp[AA]
 |(k',v')::r,k=>by
  simp only[AA,zg,zr];by_cases h:k'=k
  ·rw[if_pos h];simp[h]
  ·rw[if_neg h,Ew];simp[yb h]
def Yl {A:List (κ×β)}{k:κ}:AA A k=none↔k∉A.map zG:=by
 rw[<-Ew];cases AA A k<;>simp
def Rh (A:List (κ×β))(k:κ)(v:β):(CL A k v).map zG=if (AA A k).isSome=true then A.map zG else A.map zG++[k]:=by
 unfold CL;split
 ·rw[yj];refine List.map_congr_left λ kv _=>?_;dsimp only [Function.comp];split<;>rfl
 ·rw[zW];rfl
def HJ {A:List (κ×β)}{k:κ}{v:β}(h:(A.map zG).Nodup):((CL A k v).map zG).Nodup:=by
 rw[Rh];split
 ·exact h
 ·rename_i hn;rw[Ew] at hn;rw[zH];exact⟨h,by simp,λ x hx y hy=>by rw[zq.mp hy];exact λ e=>hn (e▸hx)⟩
def JW {A:List (κ×β)}{k x:κ}{v:β}(h:x∈(CL A k v).map zG):x∈A.map zG\/x=k:=by
 rw[Rh] at h;split at h
 ·exact .inl h
 ·rcases zC.mp h with h|h
  ·exact .inl h
  ·exact .inr (zq.mp h)
def SU:∀ {A:List (κ×β)}{k:κ}{v:β},AA A k=some v->(k,v)∈A
 |(k',v')::r,k,v,h=>by
  simp only[AA] at h;split at h
  ·rename_i e;cases h;subst e;exact zc
  ·exact zf _ (SU h)
def SV:∀ {A:List (κ×β)}{k:κ}{v:β},(A.map zG).Nodup->(k,v)∈A->AA A k=some v
 |(k',v')::r,k,v,hn,h=>by
  rw[zg,ym] at hn;simp only[AA];rcases zr.mp h with e|h
  ·cases e;rw[if_pos rfl]
  ·have:k'≠k:=λ e=>hn.1 (e▸zM.mpr ⟨_,h,rfl⟩);rw[if_neg this];exact SV hn.2 h
variable {kf:κ->D}{vf:β->D}(he:∀a b,As (kf a) (kf b)=decide (a=b))
include he
theorem JX (A:List (κ×β))(k:κ):Lf (A.map λ kv=>kf kv.1) (kf k)=(AA A k).isSome:=by
 induction A with
 |nil=>rfl
 |cons kv r ih =>
  obtain⟨k',v'⟩:=kv;unfold Lf at ih ⊢;rw[zg,yV,ih,he];simp only[AA];by_cases h:k'=k
  ·rw[if_pos h,decide_eq_true h];rfl
  ·rw[if_neg h,decide_eq_false h];rfl
theorem JY (A:List (κ×β))(k:κ):G1 (A.map λ kv=>kf kv.1) (A.map λ kv=>vf kv.2) (kf k)=(AA A k).map vf:=by
 induction A with
 |nil=>rfl
 |cons kv r ih =>
  obtain⟨k',v'⟩:=kv;rw[zg,zg,G1,he,ih];simp only[AA];by_cases h:k'=k
  ·rw[decide_eq_true h,if_pos rfl,if_pos h];rfl
  ·rw[decide_eq_false h,if_neg zL,if_neg h]
theorem Ym (k:κ)(v:β)(A:List (κ×β)):Io (A.map λ kv=>kf kv.1) (A.map λ kv=>vf kv.2) (kf k) (vf v)=(A.map λ kv=>if kv.1=k then (kv.1,v) else kv).map λ kv=>vf kv.2:=by
 induction A with
 |nil=>rfl
 |cons kv r ih =>
  obtain⟨k',v'⟩:=kv;rw[zg,zg,Io,he,ih,zg,zg];by_cases h:k'=k
  ·rw[decide_eq_true h,if_pos rfl,if_pos h]
  ·rw[decide_eq_false h,if_neg zL,if_neg h]
theorem MU (A:List (κ×β))(k:κ)(v:β):putD (A.map λ kv=>kf kv.1) (A.map λ kv=>vf kv.2) (kf k) (vf v)=((CL A k v).map (λ kv=>kf kv.1),(CL A k v).map λ kv=>vf kv.2):=by
 unfold putD CL;rw[JX he];by_cases h:(AA A k).isSome=true
 ·rw[if_pos h,if_pos h,Ym he];refine Prod.ext ?_ rfl;dsimp only;rw[yj];refine List.map_congr_left λ kv _=>?_;dsimp only [Function.comp];split<;>rfl
 ·rw[if_neg h,if_neg h,zW,zW];rfl
end
def JZ (a b:Int):As (.int a) (.int b)=decide (a=b):=by
 simp only[As];by_cases h:a=b
 ·subst h;simp
 ·simp[h]
noncomputable abbrev LA:=List ((Int×Int)×((Int×Int)×Option Int))
noncomputable def W4 (v:(Int×Int)×Option Int):D:=.tup [cst (some v.1),HQ v.2]
noncomputable def KU (A:LA):D:=.Ba true (A.map λ kv=>pD kv.1) (A.map λ kv=>W4 kv.2)
noncomputable def IT (A:LA):OT:=.Ba true (A.map λ kv=>pD kv.1) ((A.map λ kv=>W4 kv.2).map .sh)
noncomputable def Al (A:LA)(p:Int×Int):Co:=(AA A p).map zG
noncomputable def layA (A:LA)(p:Int×Int)(c:Co)(mid:Option Int):LA:=match c with
 |none=>A
 |some c=>(match AA A p with
  |none=>CL A p (c,mid)
  |some z=>if c.1<z.1.1\/(c.1=z.1.1/\c.2<z.1.2) then CL A p (c,mid) else A)
def Gy (A:LA)(p q:Int×Int)(c:Co)(mid:Option Int):Al (layA A p c mid) q=if q=p then EU (Al A p) c else Al A q:=by
 unfold layA Al;cases c with
 |none =>
  by_cases h:q=p
  ·subst h;rw[if_pos rfl];cases AA A q<;>rfl
  ·rw[if_neg h]
 |some c =>
  cases e:AA A p with
  |none =>
   dsimp only;rw[Dt];by_cases h:q=p
   ·rw[if_pos h,if_pos h];rfl
   ·rw[if_neg h,if_neg h]
  |some z =>
   dsimp only;by_cases hc:c.1<z.1.1\/(c.1=z.1.1/\c.2<z.1.2)
   ·rw[if_pos hc,Dt];by_cases h:q=p
    ·rw[if_pos h,if_pos h];simp only[yt,EU,fK];rw[if_neg (by omega)]
    ·rw[if_neg h,if_neg h]
   ·rw[if_neg hc];by_cases h:q=p
    ·subst h;rw[if_pos rfl,e];simp only[yt,EU,fK];rw[if_pos (by omega)]
    ·rw[if_neg h]
def SW (A:LA)(p q:Int×Int)(c:Co)(mid:Option Int):C1 (Al (layA A p c mid) q) (Al A q):=by
 rw[Gy];split
 ·rename_i h;subst h;exact HF _ _
 ·exact BF _
def Yn {A:LA}{p x:Int×Int}{c:Co}{mid:Option Int}(h:x∈(layA A p c mid).map zG):x∈A.map zG\/x=p:=by
 unfold layA at h;split at h
 ·exact .inl h
 ·split at h
  ·exact JW h
  ·split at h
   ·exact JW h
   ·exact .inl h
def W5 {A:LA}{p:Int×Int}{c:Co}{mid:Option Int}(h:(A.map zG).Nodup):((layA A p c mid).map zG).Nodup:=by
 unfold layA;split
 ·exact h
 ·split
  ·exact HJ h
  ·split
   ·exact HJ h
   ·exact h
noncomputable def Px (p u:Int)(A:LA)(w:Int):LA:=if u=w then A else layA A (u,w) (AN (Al A (u,p)) (Al A (p,w))) (some p)
noncomputable def dW (p:Int)(H:List Int)(A:LA)(u:Int):LA:=H.foldl (Px p u) A
noncomputable def kF (A:LA)(p:Int)(H:List Int):LA:=H.foldl (dW p H) A
noncomputable def SX:LA->List Int->LA
 |A,[]=>A
 |A,p::r=>SX (kF A p r) r
noncomputable def lay0 (rs:List Road):LA:=rs.foldl (λ A r=>layA A (r.a,r.b) (De r) none) []
noncomputable def BG (rs:List Road)(L:List Int):LA:=SX (lay0 rs) L
structure F8 (m:Nat)(A:LA):Prop where
 nd:(A.map zG).Nodup
 rg:∀p∈A.map zG,p.1≠p.2/\(0<=p.1/\p.1<m)/\0<=p.2/\p.2<m
def F8.lay {m:Nat}{A:LA}(h:F8 m A){p:Int×Int}{c:Co}{mid:Option Int}(hp:p.1≠p.2/\(0<=p.1/\p.1<m)/\0<=p.2/\p.2<m):F8 m (layA A p c mid):=
 ⟨W5 h.nd,λ q hq=>(Yn hq).elim (h.rg q) λ e=>e▸hp⟩
def F8.len {m:Nat}{A:LA}(h:F8 m A)(hm:m<=20):A.length<1000:=by
 have:=C5.len (B:=A.map zG) (m:=m) ⟨h.nd,λ x hx=>(h.rg _ hx).1 rfl,λ q hq=>⟨(h.rg q hq).2.1,(h.rg q hq).2.2⟩⟩ hm;rwa[ze] at this
def K0 {α β:Type}{f:β->α->β}(P:List α->β->Prop):∀ {L pre:List α}{b:β},P pre b->(∀a∈L,∀pre b,P pre b->P (pre++[a]) (f b a))->P (pre++L) (L.foldl f b)
 |[],pre,b,h,_=>by rw[zX];exact h
 |a::L,pre,b,h,hs=>by
  have:=K0 P (L:=L) (hs a zc pre b h) λ x hx=>hs x (zf _ hx);rw[y7] at this;exact this
def dX (rs:List Road)(A:LA):Prop:=∀x y c,Al A (x,y)=some c->Wk rs x y c
def dX.lay {rs:List Road}{A:LA}(h:dX rs A){x y:Int}{c:Co}{mid:Option Int}(hc:∀p,c=some p->Wk rs x y p):dX rs (layA A (x,y) c mid):=λ u w d hd=>by
 rw[Gy] at hd;split at hd
 ·rename_i e;cases e;rcases Cs (Al A (x,y)) c with ⟨e,_⟩|⟨e,_⟩
  ·rw[e] at hd;exact h _ _ _ hd
  ·rw[e] at hd;exact hc d hd
 ·exact h _ _ _ hd
structure Over (m:Nat)(rs:List Road)(p:Int)(H:List Int)(A0 A:LA):Prop where
 ok:F8 m A
 sd:dX rs A
 le:∀q,C1 (Al A q) (Al A0 q)
 sm:∀x y,(x∉H\/y∉H)->Al A (x,y)=Al A0 (x,y)
def W6 {m:Nat}{rs:List Road}{p:Int}{H:List Int}{A0 A:LA}(hp:p∉H)(hH:∀x∈H,0<=x/\x<m)(h:Over m rs p H A0 A){u w:Int}(hu:u∈H)(hw:w∈H):Over m rs p H A0 (Px p u A w)/\(u≠w->C1 (Al (Px p u A w) (u,w)) (AN (Al A0 (u,p)) (Al A0 (p,w)))):=by
 unfold Px;by_cases e:u=w
 ·rw[if_pos e];exact⟨h,λ z=>(z e).elim⟩
 ·rw[if_neg e];have e1:=h.sm u p (.inr hp);have e2:=h.sm p w (.inl hp);refine⟨⟨h.ok.lay ⟨e,hH u hu,hH w hw⟩,h.sd.lay λ c hc=>?_,λ q=>Ay (SW _ _ _ _ _) (h.le q),λ x y cu=>?_⟩,λ _=>?_⟩
  ·obtain⟨a,b,ha,hb,rfl⟩:=Kq hc;exact (h.sd _ _ _ ha).trans (h.sd _ _ _ hb)
  ·rw[Gy,if_neg (λ z=>by cases z;exact cu.elim (λ q=>q hu) λ q=>q hw)];exact h.sm x y cu
  ·rw[Gy,if_pos rfl,e1,e2];exact HG _ _
def fP {p u:Int}{A:LA}{w:Int}(q:Int×Int):C1 (Al (Px p u A w) q) (Al A q):=by
 unfold Px;split
 ·exact BF _
 ·exact SW _ _ _ _ _
def fQ {p u:Int}(q:Int×Int):∀(H:List Int) (A:LA),C1 (Al (H.foldl (Px p u) A) q) (Al A q)
 |[],A=>BF _
 |w::H,A=>Ay (fQ q H (Px p u A w)) (fP q)
def kG {m:Nat}{rs:List Road}{p:Int}{H:List Int}{A0 A:LA}(hp:p∉H)(hH:∀x∈H,0<=x/\x<m)(h:Over m rs p H A0 A){u:Int}(hu:u∈H):Over m rs p H A0 (dW p H A u)/\∀w∈H,u≠w->C1 (Al (dW p H A u) (u,w)) (AN (Al A0 (u,p)) (Al A0 (p,w))):=by
 unfold dW;have:=K0 (L:=H) (pre:=[]) (f:=Px p u) (b:=A) (λ W A=>Over m rs p H A0 A/\∀w∈W,u≠w->C1 (Al A (u,w)) (AN (Al A0 (u,p)) (Al A0 (p,w)))) ⟨h,λ w hw=>by cases hw⟩ λ w hw W B hB=>by
  obtain⟨b1,b2⟩:=hB;obtain⟨c1,c2⟩:=W6 hp hH b1 hu hw;refine⟨c1,λ x hx ae=>?_⟩;rcases zC.mp hx with hx|hx
  ·exact Ay (fP _) (b2 x hx ae)
  ·rw[zq.mp hx] at ae ⊢;exact c2 ae
 exact this
def Yo {m:Nat}{rs:List Road}{p:Int}{H:List Int}{A:LA}(hp:p∉H)(hH:∀x∈H,0<=x/\x<m)(h1:F8 m A)(h2:dX rs A):Over m rs p H A (kF A p H)/\∀u∈H,∀w∈H,u≠w->C1 (Al (kF A p H) (u,w)) (AN (Al A (u,p)) (Al A (p,w))):=by
 unfold kF;have:=K0 (L:=H) (pre:=[]) (f:=dW p H) (b:=A) (λ U B=>Over m rs p H A B/\∀u∈U,∀w∈H,u≠w->C1 (Al B (u,w)) (AN (Al A (u,p)) (Al A (p,w)))) ⟨⟨h1,h2,λ q=>BF _,λ x y _=>rfl⟩,λ u hu=>by cases hu⟩ λ u hu U B hB=>by
  obtain⟨b1,b2⟩:=hB;obtain⟨c1,c2⟩:=kG hp hH b1 hu;refine⟨c1,λ x hx w hw ae=>?_⟩;rcases zC.mp hx with hx|hx
  ·exact Ay (fQ _ H B) (b2 x hx w hw ae)
  ·rw[zq.mp hx] at ae ⊢;exact c2 w hw ae
 exact this
def Py {m:Nat}{rs:List Road}(Ax:∀r∈rs,Ko m r/\r.a≠r.b):F8 m (lay0 rs)/\dX rs (lay0 rs)/\∀r∈rs,C1 (Al (lay0 rs) (r.a,r.b)) (De r):=by
 unfold lay0;have:=K0 (L:=rs) (pre:=[]) (f:=λ A r=>layA A (r.a,r.b) (De r) none) (b:=[]) (λ W A=>F8 m A/\dX rs A/\∀r∈W,C1 (Al A (r.a,r.b)) (De r)) ⟨⟨by simp,λ p hp=>by cases hp⟩,⟨(λ _ _ _ h=>by cases h),λ r hr=>by cases hr⟩⟩ λ r hr W B hB=>by
  obtain⟨b1,b2,b3⟩:=hB;obtain⟨o1,o2⟩:=Ax r hr;refine⟨b1.lay ⟨o2,⟨o1.a0,o1.a1⟩,o1.b0,o1.b1⟩,b2.lay λ c hc=>?_,λ x hx=>?_⟩
  ·obtain⟨l,hl,rfl⟩:=MN hc;exact Wk.one hr hl
  ·rcases zC.mp hx with hx|hx
   ·exact Ay (SW _ _ _ _ _) (b3 x hx)
   ·rw[zq.mp hx,Gy,if_pos rfl];exact HG _ _
 exact this
noncomputable def Bz:List Int->Int->Nat
 |[],_=>0
 |a::l,x=>if a=x then 0 else Bz l x+1
def UI:∀ {pre post:List Int}{p:Int},p∉pre->Bz (pre++p::post) p=pre.length
 |[],post,p,_=>by simp[Bz]
 |a::pre,post,p,h=>by
  rw[zr,not_or] at h;rw[xl,Bz,if_neg (yb h.1),UI h.2];rfl
def SY:∀ {pre post:List Int}{x:Int},x∈pre->Bz (pre++post) x<pre.length
 |a::pre,post,x,h=>by
  rw[xl,Bz];by_cases e:a=x
  ·rw[if_pos e];simp
  ·rw[if_neg e,zp];have:=SY (post:=post) ((zr.mp h).resolve_left (yb e));omega
def Pz:∀ {pre post:List Int}{x:Int},x∉pre->pre.length<=Bz (pre++post) x
 |[],post,x,_=>zS _
 |a::pre,post,x,h=>by
  rw[zr,not_or] at h;rw[xl,Bz,if_neg (yb h.1),zp];have:=Pz (post:=post) h.2;omega
def MV:∀ {L:List Int}{x y:Int},x∈L->y∈L->Bz L x=Bz L y->x=y
 |a::l,x,y,hx,hy,e=>by
  rw[Bz,Bz] at e;by_cases h1:a=x
  ·by_cases h2:a=y
   ·rw[<-h1,<-h2]
   ·rw[if_pos h1,if_neg h2] at e;omega
  ·by_cases h2:a=y
   ·rw[if_neg h1,if_pos h2] at e;omega
   ·rw[if_neg h1,if_neg h2] at e;exact MV ((zr.mp hx).resolve_left (yb h1)) ((zr.mp hy).resolve_left (yb h2)) (by omega)
def T4 {L:List Int}{x:Int}(h:Bz L x<L.length):x∈L:=by
 refine Classical.byContradiction λ hn=>?_;have:=Pz (pre:=L) (post:=[]) hn;rw[zX] at this;omega
def UJ:∀(L:List Int) (x:Int),Bz L x<=L.length
 |[],_=>zw _
 |a::l,x=>by
  rw[Bz,zp];split
  ·omega
  ·have:=UJ l x;omega
def KW:∀ {L:List Int}{p:Int},p∈L->∃pre post,L=pre++p::post/\p∉pre
 |a::l,p,h=>by
  by_cases ha:a=p
  ·subst ha;exact⟨[],l,rfl,by simp⟩
  ·obtain⟨pre,post,e2,hn⟩:=KW ((zr.mp h).resolve_left (yb ha));exact⟨a::pre,post,by rw[xl,<-e2],by simp[yb ha,hn]⟩
def Yp {L:List Int}{p:Int}(h:Bz L p<L.length):∃pre post,L=pre++p::post/\p∉pre/\∀x,Bz L p<Bz L x->x∈L->x∈post:=by
 obtain⟨pre,post,e,hn⟩:=KW (T4 h);refine⟨pre,post,e,hn,λ x hr hx=>?_⟩;subst e;rw[UI hn] at hr;rcases zC.mp hx with hx|hx
 ·have:=SY (post:=p::post) hx;omega
 ·rcases zr.mp hx with rfl|hx
  ·rw[UI hn] at hr;omega
  ·exact hx
def kH {m:Nat}{rs:List Road}{L:List Int}(hL:L.Nodup)(hr:∀x∈L,0<=x/\x<m):∀(post pre:List Int) (A:LA),L=pre++post->F8 m A->dX rs A->(∀r∈rs,C1 (Al A (r.a,r.b)) (De r))->
 (∀pa p pb,L=pa++p::pb->pa.length<pre.length->∀x∈pb,∀y∈pb,x≠y->C1 (Al A (x,y)) (AN (Al A (x,p)) (Al A (p,y))))->
 F8 m (SX A post)/\dX rs (SX A post)/\(∀r∈rs,C1 (Al (SX A post) (r.a,r.b)) (De r))/\∀pa p pb,L=pa++p::pb->∀x∈pb,∀y∈pb,x≠y->C1 (Al (SX A post) (x,y)) (AN (Al (SX A post) (x,p)) (Al (SX A post) (p,y))):=by
 intro post;induction post with
 |nil =>
  intro pre A e h1 h2 h3 h4;rw[zX] at e;refine⟨h1,h2,h3,λ pa p pb e2=>h4 pa p pb e2 ?_⟩;rw[<-e,e2,zK,zp];omega
 |cons p post ih =>
  intro pre A e h1 h2 h3 h4;rw[SX];have hn:(pre++p::post).Nodup:=e▸hL;rw[zH,ym] at hn;have br:∀x∈post,0<=x/\x<m:=λ x hx=>hr x (by rw[e];simp[hx]);obtain⟨o,ov⟩:=Yo (p:=p) hn.2.1.1 br h1 h2;refine ih (pre++[p]) (kF A p post) (by rw[e];simp) o.ok o.sd (λ r dv=>Ay (o.le _) (h3 r dv)) λ pa q pb e2 ah x hx y hy ae=>?_;rw[zK,yC] at ah;by_cases hq:pa.length<pre.length
  ·-- an ku one
   have uh:q∉post:=λ ee=>by
    have e3:pre++p::post=pa++q::pb:=by rw[<-e,e2]
    have q1:q∈pre:=by
     have:=congrArg (λ l=>l[pa.length]?) e3;rw[yv hq,yX (zw _),Nat.sub_self] at this;exact zo this
    exact hn.2.2 q q1 q (zf _ ee) rfl
   rw[o.sm x q (.inr uh),o.sm q y (.inl uh)];exact Ay (o.le _) (h4 pa q pb e2 hq x hx y hy ae)
  ·have hpl:pa.length=pre.length:=by omega
   have e3:pa++q::pb=pre++p::post:=by rw[<-e2,e]
   obtain⟨rfl,e4⟩:=List.append_inj e3 hpl;cases e4;rw[o.sm x p (.inr hn.2.1.1),o.sm p y (.inl hn.2.1.1)];exact ov x hx y hy ae
def Ri {m:Nat}{rs:List Road}{L:List Int}(hL:L.Perm (AZ m))(Ax:∀r∈rs,Ko m r/\r.a≠r.b):F8 m (BG rs L)/\vM m rs (Bz L) (λ x y=>Al (BG rs L) (x,y)):=by
 have n5:L.Nodup:=MS hL;obtain⟨a1,a2,a3⟩:=Py Ax;obtain⟨b1,b2,b3,b4⟩:=kH n5 (λ x hx=>(Br hL).mp hx) L [] (lay0 rs) rfl a1 a2 a3 (λ pa p pb _ h=>by simp at h);refine⟨b1,λ x y c h=>?_,b3,λ p x y ae h1 h2=>?_,λ x y x0 x1 y0 y1 e=>MV ((Br hL).mpr ⟨x0,x1⟩) ((Br hL).mpr ⟨y0,y1⟩) e,λ x y c h=>Wk.nn (λ r hr=>(Ax r hr).1) h⟩
 ·have hm:(x,y)∈(SX (lay0 rs) L).map zG:=by
   rw[<-Ew];unfold Al at h;cases q:AA (BG rs L) (x,y) with
   |none=>rw[q] at h;cases h
   |some z=>unfold BG at q;rw[q];rfl
  have:=b1.rg _ hm;exact⟨b2 _ _ _ h,this.1,this.2.1,this.2.2⟩
 ·have aE:∀ {x y:Int} {c:Int×Int},Al (BG rs L) (x,y)=some c->x∈L/\y∈L:=fun {x y c} h=>by
   have hm:(x,y)∈(SX (lay0 rs) L).map zG:=by
    rw[<-Ew];unfold Al at h;cases q:AA (BG rs L) (x,y) with
    |none=>rw[q] at h;cases h
    |some z=>unfold BG at q;rw[q];rfl
   have:=b1.rg _ hm;exact⟨(Br hL).mpr this.2.1,(Br hL).mpr this.2.2⟩
  have hpl:Bz L p<L.length:=zA h1 (UJ L x);obtain⟨pre,post,e,hn,dw⟩:=Yp hpl;cases q1:Al (BG rs L) (x,p) with
  |none=>cases Al (BG rs L) (x,y)<;>exact trivial
  |some c1 =>
   cases q2:Al (BG rs L) (p,y) with
   |none=>cases Al (BG rs L) (x,y)<;>exact trivial
   |some c2 =>
    have r:=b4 pre p post e x (dw x h1 (aE q1).1) y (dw y h2 (aE q2).2) ae;rw[<-q1,<-q2];exact r
noncomputable abbrev CA:=List ((Int×Int)×(Int×Int))
noncomputable def UK (C:CA):D:=.Ba true (C.map λ kv=>pD kv.1) (C.map λ kv=>cst (some kv.2))
noncomputable def lK (C:CA):OT:=.Ba true (C.map λ kv=>pD kv.1) ((C.map λ kv=>cst (some kv.2)).map .sh)
noncomputable abbrev RA:=List (Int×(Int×Int))
noncomputable def Fo (R:RA):D:=.Ba false (R.map λ kv=>D.int kv.1) (R.map λ kv=>cst (some kv.2))
noncomputable def Gz (R:RA):OT:=.Ba false (R.map λ kv=>D.int kv.1) ((R.map λ kv=>cst (some kv.2)).map .sh)
def PB (A:LA):er (IT A)=KU A:=Iq
def PD (C:CA):er (lK C)=UK C:=Iq
def PF (R:RA):er (Gz R)=Fo R:=Iq
theorem Ks (i:Int):keyOk false (.int i)=true:=rfl
def PH (A:LA)(p:Int×Int)(neg:Bool):Jh neg (pD p) (KU A)=.ok (.bl (if neg=true then !(AA A p).isSome else (AA A p).isSome)):=by
 unfold KU Jh;dsimp only;rw[if_pos (JR p),JX Iv]
def PJ {A:LA}{p:Int×Int}{v:(Int×Int)×Option Int}(h:AA A p=some v):Bd (KU A) (pD p)=.ok (W4 v):=by
 unfold KU Bd;dsimp only;rw[if_pos (JR p),JY Iv,h];rfl
def kI (C:CA)(p:Int×Int)(neg:Bool):Jh neg (pD p) (UK C)=.ok (.bl (if neg=true then !(AA C p).isSome else (AA C p).isSome)):=by
 unfold UK Jh;dsimp only;rw[if_pos (JR p),JX Iv]
def kJ {C:CA}{p:Int×Int}{c:Int×Int}(h:AA C p=some c):Bd (UK C) (pD p)=.ok (cst (some c)):=by
 unfold UK Bd;dsimp only;rw[if_pos (JR p),JY (vf:=λ c=>cst (some c)) Iv,h];rfl
def T5 (R:RA)(p:Int)(neg:Bool):Jh neg (.int p) (Fo R)=.ok (.bl (if neg=true then !(AA R p).isSome else (AA R p).isSome)):=by
 unfold Fo Jh;dsimp only;rw[if_pos (Ks p),JX (kf:=D.int) JZ]
def PL {R:RA}{p:Int}{c:Int×Int}(h:AA R p=some c):Bd (Fo R) (.int p)=.ok (cst (some c)):=by
 unfold Fo Bd;dsimp only;rw[if_pos (Ks p),JY (kf:=D.int) (vf:=λ c=>cst (some c)) JZ,h];rfl
def Yq (R:RA)(p:Int):Uu (Fo R) (.ok (.int p))=.ok (cst (AA R p)):=by
 unfold Fo Uu;simp only[M.A7];rw[if_pos (Ks p),JY (kf:=D.int) (vf:=λ c=>cst (some c)) JZ];cases AA R p<;>rfl
def Yr (A:LA)(p:Int×Int)(v:(Int×Int)×Option Int):putD (A.map λ kv=>pD kv.1) (A.map λ kv=>W4 kv.2) (pD p) (W4 v)=((CL A p v).map (λ kv=>pD kv.1),(CL A p v).map λ kv=>W4 kv.2):=MU Iv A p v
def Ys (R:RA)(p:Int)(c:Int×Int):putD (R.map λ kv=>D.int kv.1) (R.map λ kv=>cst (some kv.2)) (.int p) (cst (some c))=((CL R p c).map (λ kv=>D.int kv.1),(CL R p c).map λ kv=>cst (some kv.2)):=MU (kf:=D.int) (vf:=λ c=>cst (some c)) JZ R p c
def UL {α:Type}(k v:α->D):∀l:List α,VN (l.map λ x=>.tup [k x,v x])=some (l.map λ x=>(k x,v x))
 |[]=>rfl
 |x::l=>by rw[zg,VN,UL k v l];rfl
def fR:∀(C C0:CA),((C0++C).map zG).Nodup->(C.map λ kv=>(pD kv.1,cst (some kv.2))).foldl (λ z kv=>putD z.1 z.2 kv.1 kv.2) (C0.map (λ kv=>pD kv.1),C0.map λ kv=>cst (some kv.2))=((C0++C).map (λ kv=>pD kv.1),(C0++C).map λ kv=>cst (some kv.2))
 |[],C0,_=>by simp
 |kv::C,C0,hn=>by
  obtain⟨p,c⟩:=kv;rw[zg,zN];dsimp only;have h0:AA C0 p=none:=by
   rw[Yl];intro hm;rw[zW,zH] at hn;exact hn.2.2 p hm p (by simp) rfl
  have e:CL C0 p c=C0++[(p,c)]:=by unfold CL;rw[h0];rfl
  rw[MU (vf:=λ c=>cst (some c)) Iv,e,fR C (C0++[(p,c)]) (by rw[y7];exact hn),y7];rfl
def Yt {C:CA}(hn:(C.map zG).Nodup)(hl:C.length<=1000):cY (.lst (C.map λ kv=>.tup [pD kv.1,cst (some kv.2)]))=.ok (lK C):=by
 unfold cY;dsimp only;rw[UL (λ kv:(Int×Int)×(Int×Int)=>pD kv.1) (λ kv=>cst (some kv.2))];dsimp only;have e:=fR C [] hn;rw[if_pos ⟨by rw[ze];exact hl,by rw[List.all_map];exact List.all_eq_true.mpr λ x _=>rfl⟩];have e2:qI (C.map λ kv=>(pD kv.1,cst (some kv.2)))=(C.map (λ kv=>pD kv.1),C.map λ kv=>cst (some kv.2)):=e;rw[e2];rfl
noncomputable def AO (m:Nat)(rs:List Road)(L:List Int)(A:LA)(K:List (Int×Int)):D:=.ins "Ladder" ["own_map","own_order","laid","kept_ones"] [Am m rs,.lst (L.map D.int),KU A,.lst (K.map pD)]
structure C2 (m:Nat)(rs:List Road)(L:List Int)(A:LA)(K:List (Int×Int)):Prop where
 m1:1<=m
 m2:m<=16
 rl:rs.length<=60
 ok:∀r∈rs,Ko m r/\r.a≠r.b
 pm:L.Perm (AZ m)
 la:A=BG rs L
 kn:K.Nodup
 km:∀p,p∈K↔∃c,Al A p=some c/\Ou rs p.1 p.2 (some c)
def C2.qJ {m:Nat}{rs:List Road}{L:List Int}{A:LA}{K:List (Int×Int)}(h:C2 m rs L A K):F8 m A:=by
 rw[h.la];exact (Ri h.pm h.ok).1
def F6 {A:LA}{p:Int×Int}{c:Int×Int}(h:Al A p=some c):p∈A.map zG:=by
 rw[<-Ew];unfold Al at h;cases q:AA A p with
 |none=>rw[q] at h;cases h
 |some z=>rfl
def C2.TB {m:Nat}{rs:List Road}{L:List Int}{A:LA}{K:List (Int×Int)}(h:C2 m rs L A K){p:Int×Int}(hp:p∈K):p.1≠p.2/\(0<=p.1/\p.1<m)/\0<=p.2/\p.2<m:=by
 obtain⟨c,hc,_⟩:=(h.km p).mp hp;exact h.qJ.rg p (F6 hc)
def C2.kl {m:Nat}{rs:List Road}{L:List Int}{A:LA}{K:List (Int×Int)}(h:C2 m rs L A K):K.length<1000:=
 C5.len (m:=m) ⟨h.kn,λ x hx=>(h.TB hx).1 rfl,λ q hq=>⟨(h.TB hq).2.1,(h.TB hq).2.2⟩⟩ (by have:=h.m2;omega)
noncomputable def BM (A:LA)(K:List (Int×Int)):CA:=K.map λ p=>(p,(Al A p).getD (0,0))
def MW (A:LA)(K:List (Int×Int)):(BM A K).map zG=K:=by
 unfold BM;rw[yj];exact (List.map_congr_left λ p _=>rfl).trans (List.map_id K)
noncomputable def EV (C:CA):CA:=C.map λ kv=>((kv.1.2,kv.1.1),kv.2)
def OB {C:CA}(h:(C.map zG).Nodup):((EV C).map zG).Nodup:=by
 have e:(EV C).map zG=(C.map zG).map λ p=>(p.2,p.1):=by
  unfold EV;rw[yj,yj];rfl
 rw[e];exact (List.pairwise_map.mpr (h.imp fun {a b} jo e=>jo (by cases a;cases b;cases e;rfl)))
def UM (x y:Int):∀C:CA,AA (EV C) (x,y)=AA C (y,x)
 |[]=>rfl
 |((a,b),c)::C=>by
  unfold EV;rw[zg,AA,AA];have:=UM x y C;unfold EV at this;rw[this];by_cases h:a=y/\b=x
  ·rw[if_pos (by rw[h.1,h.2]),if_pos (by rw[h.1,h.2])]
  ·rw[if_neg (λ e=>h (by cases e;exact⟨rfl,rfl⟩)),if_neg (λ e=>h (by cases e;exact⟨rfl,rfl⟩))]
def pA (p q:Int×Int):Y3 (cst (some p)) (cst (some q))=.ok (.bl (decide (p.1<q.1\/(p.1=q.1/\p.2<q.2)))):=by
 rw[<-EH];rfl
def T6 {m:M Out}{t r:OT}(h:WP m (λ ρ=>Gq ρ=some t/\OT.sh .AD=r) (λ o=>match o with | .Ep r' ρ=>Gq ρ=some t/\r'=r | _=>False) (λ _=>False)):DZ m=.ok (t,r):=by
 cases m with
 |bad=>exact h.elim
 |ex x=>exact h.elim
 |ok o =>
  cases o with
  |next ρ=>obtain⟨h1,h2⟩:=(show Gq ρ=some t/\OT.sh .AD=r from h);unfold DZ;dsimp only;rw[h1,<-h2]
  |Ep r' ρ=>obtain⟨h1,h2⟩:=(show Gq ρ=some t/\r'=r from h);unfold DZ;dsimp only;rw[h1,<-h2]
  |ret d=>exact h.elim
  |Ca d=>exact h.elim
  |brk d=>exact h.elim
  |cont d=>exact h.elim
def Kt {F:OT->List D->M (OT×OT)}{ρ:Aa}{p:Option Nat}{t t2 r:OT}{ay:List D}{i:Nat}(h:ρ[i]?=some (some (.ow (.tree p t))))(hN:XI t=true)(hF:F t ay=.ok (t2,r)):QO i F ρ [] ay=.ok (ρ.set i (some (toCl p t2)),r):=by
 rw[XJ h rfl rfl hN hF,F1]
def DF {A:LA}{p:Option Nat}{ρ:Aa}:Et 0 (some (.ow (.tree p (IT A)))::ρ) []=.ok (true,A.map (λ kv=>pD kv.1),A.map λ kv=>W4 kv.2):=CW
def HK {R:RA}{p:Option Nat}{ρ:Aa}:Et 0 (some (.ow (.tree p (Gz R)))::ρ) []=.ok (false,R.map (λ kv=>D.int kv.1),R.map λ kv=>cst (some kv.2)):=CW
def F8.ov {m:Nat}{A:LA}(h:F8 m A){p u w:Int}(hu:0<=u/\u<m)(hw:0<=w/\w<m):F8 m (Px p u A w):=by
 unfold Px;split
 ·exact h
 ·rename_i e;exact h.lay ⟨e,hu,hw⟩
def F8.ou {m:Nat}{p u:Int}(hu:0<=u/\u<m):∀ {H:List Int}{A:LA},F8 m A->(∀x∈H,0<=x/\x<m)->F8 m (H.foldl (Px p u) A)
 |[],A,h,_=>h
 |w::H,A,h,hH=>by
  have r:=F8.ou (A:=Px p u A w) (H:=H) (p:=p) hu (h.ov hu (hH w zc)) λ x hx=>hH x (zf _ hx);exact r
def E9 {α β:Type}{f:β->α->β}{l:List α}{i:Nat}{x:α}{b:β}(h:l[i]?=some x):(l.take (i+1)).foldl f b=f ((l.take i).foldl f b) x:=by
 rw[yl,h,Option.toList_some,List.foldl_append];rfl
def F8.lo {m:Nat}{p:Int}{H0:List Int}(h0:∀x∈H0,0<=x/\x<m):∀ {H:List Int}{A:LA},F8 m A->(∀x∈H,0<=x/\x<m)->F8 m (H.foldl (dW p H0) A)
 |[],A,h,_=>h
 |w::H,A,h,hH=>by
  have r:=F8.lo (p:=p) (A:=dW p H0 A w) (H:=H) h0 (F8.ou (hH w zc) h h0) λ x hx=>hH x (zf _ hx);exact r
def LU (c:Co):Vv (.ok (.sh (cst c)))=.ok (.sh (cst c)):=by
 cases c<;>rfl
def sF (a b:List Co×Bool):Prop:=b.2=true/\(a.2=false\/(a.2=true/\Np ltN a.1 b.1))
def kK (x:List Co):Acc sF (x,false):=.intro _ λ y h=>by cases h.1
def kL (x:List Co):Acc sF (x,true):=by
 have:=VQ x;induction this with
 |intro x _ ih =>
  refine .intro _ λ y h=>?_;obtain⟨y,b⟩:=y;rcases h.2 with e|⟨e,h2⟩
  ·dsimp only at e;subst e;exact kK y
  ·dsimp only at e;subst e;exact ih y h2
def T7 (n:Nat):Cj 0 n=(AZ n).map D.int:=by rw[Mn,MO]
def Iw.vN {m:Nat}{r:Road}(h:Iw m r):Ko m r/\r.a≠r.b:=⟨⟨h.a0,h.a1,h.b0,h.b1,λ l hl=>(h.l0 l hl).1⟩,h.ab⟩
def KP (rs:List Road)(A:LA)(p:Int×Int):Prop:=∃c,Al A p=some c/\Ou rs p.1 p.2 (some c)
noncomputable def pB (A:LA)(cs:List Co)(u w:Int):Bool:=match Al A (u,w) with
 |none=>false
 |some c=>decide (some c=atC cs w)
def Yu {m s:Nat}{rs:List Road}{cs:List Co}{A:LA}(hR:Right m s rs cs)(Ax:∀r∈rs,Ko m r){w:Int}(h0:0<=w)(h1:w<m):pB A cs s w=true↔KP rs A (s,w):=by
 have hm:=hR.oX Ax h0 h1;unfold pB KP;cases q:Al A ((s:Int),w) with
 |none=>simp
 |some c =>
  dsimp only;constructor
  ·intro h;have e:=of_decide_eq_true h;exact⟨c,rfl,e▸hm⟩
  ·rintro ⟨c',e,h⟩;cases e;exact decide_eq_true (h.C8 hm)
def kM {m:Nat}{rs:List Road}{A:LA}{K:List (Int×Int)}(hA:F8 m A)(hm:m<=20)(hn:K.Nodup)(hK:∀p∈K,KP rs A p):K.length<1000:=by
 have hr:∀p∈K,p.1≠p.2/\(0<=p.1/\p.1<m)/\0<=p.2/\p.2<m:=λ p hp=>by
  obtain⟨c,hc,_⟩:=hK p hp;exact hA.rg p (F6 hc)
 exact C5.len (m:=m) ⟨hn,λ x hx=>(hr _ hx).1 rfl,λ q hq=>⟨(hr q hq).2.1,(hr q hq).2.2⟩⟩ hm
def Ku:∀ds:List D,(∀d∈ds,Kg d=true)->FQ (ds.map .sh)=true
 |[],_=>rfl
 |d::ds,h=>by
  rw[zg,FQ,HP,h d zc,Ku ds λ x hx=>h x (zf _ hx)];rfl
def Rj {ds:List D}(h:∀d∈ds,Kg d=true):Vv (.ok (.lst (ds.map .sh)))=.ok (.lst (ds.map .sh)):=by
 unfold Vv;simp only[M.A7];rw[HP,Ku ds h];rfl
def Yv (L:List Int):Vv (.ok (.lst ((L.map D.int).map .sh)))=.ok (.lst ((L.map D.int).map .sh)):=Rj λ d hd=>by
 obtain⟨x,_,rfl⟩:=zM.mp hd;rfl
def dY (K:List (Int×Int)):Vv (.ok (.lst ((K.map pD).map .sh)))=.ok (.lst ((K.map pD).map .sh)):=Rj λ d hd=>by
 obtain⟨x,_,rfl⟩:=zM.mp hd;exact Y9 x
def kN (v:(Int×Int)×Option Int):Kg (W4 v)=true:=by
 obtain⟨c,l⟩:=v;cases l<;>rfl
def dZ (A:LA):Vv (.ok (IT A))=.ok (IT A):=by
 unfold Vv IT;simp only[M.A7];rw[HP,Ku _ λ d hd=>by
  obtain⟨x,_,rfl⟩:=zM.mp hd;exact kN x.2]
 rfl
def T8 {L:List Int}(hn:L.Nodup){i:Nat}{x:Int}(h:L[i]?=some x):Bz L x=i:=by
 have ah:=(zv.mp h).1;have e:L=L.take i++x::L.drop (i+1):=by
  have h2:L.drop i=x::L.drop (i+1):=by
   rw[xg ah];rw[zj ah] at h;rw[zE h]
  rw[<-h2,yw]
 have hx:x∉L.take i:=λ hm=>by
  rw[e,zH] at hn;exact hn.2.2 x hm x zc rfl
 rw[e,UI hx,yB];omega
def eA {L:List Int}(hn:L.Nodup){i:Nat}{y:Int}(h:y∈L.drop i):i<=Bz L y:=by
 have hy:y∉L.take i:=λ hm=>by
  rw[<-yw i L,zH] at hn;exact hn.2.2 y hm y h rfl
 have h1:=Pz (pre:=L.take i) (post:=L.drop i) hy;rw[yw,yB] at h1;have h2:L.drop i≠[]:=λ e=>by rw[e] at h;cases h
 have h3:i<L.length:=by
  rw[Ne,List.drop_eq_nil_iff] at h2;omega
 omega
def eB {L:List Int}{i:Nat}{y:Int}(h:y∈L)(hr:i<=Bz L y):y∈L.drop i:=by
 rw[<-yw i L] at h;rcases zC.mp h with h|h
 ·have h1:=SY (post:=L.drop i) h;rw[yw,yB] at h1;omega
 ·exact h
structure NA (L:List Int)(C:CA)(s:Int)(i:Nat)(R:RA):Prop where
 nd:(R.map zG).Nodup
 rg:∀k∈R.map zG,k∈L
 st:C1 (AA R s) (some (0,0))
 sd:∀y c,AA R y=some c->Yk (λ x y=>AA C (x,y)) (Bz L) s y c
 cl:∀x y,Bz L x<i->Bz L x<Bz L y->C1 (AA R y) (AN (AA R x) (AA C (x,y)))
structure fS (L:List Int)(C:CA)(s:Int)(i:Nat)(x:Int)(c0:Int×Int)(W:List Int)(R0 R:RA):Prop where
 nd:(R.map zG).Nodup
 rg:∀k∈R.map zG,k∈L
 sd:∀y c,AA R y=some c->Yk (λ x y=>AA C (x,y)) (Bz L) s y c
 le:∀y,C1 (AA R y) (AA R0 y)
 sm:∀y,Bz L y<=i->AA R y=AA R0 y
 cw:∀y∈W,C1 (AA R y) (AN (some c0) (AA C (x,y)))
def fS.put {L:List Int}{C:CA}{s:Int}{i:Nat}{x:Int}{c0:Int×Int}{W:List Int}{R0 R:RA}(h:fS L C s i x c0 W R0 R){y:Int}{d v:Int×Int}(hy:y∈L)(hr:i<Bz L y)(hx:Bz L x=i)(oq:AA R0 x=some c0)(hd:AA C (x,y)=some d)(hv:EU (AA R y) (some (c0.1+d.1,c0.2+d.2))=some v):fS L C s i x c0 (W++[y]) R0 (CL R y v):=by
 have hle:C1 (some v) (AA R y):=hv▸HF _ _;refine⟨HJ h.nd,λ k hk=>(JW hk).elim (h.rg k) λ e=>e▸hy,λ z c hz=>?_,λ z=>?_,λ z hz=>?_,λ z hz=>?_⟩
 ·rw[Dt] at hz;split at hz
  ·rename_i e;subst e;cases hz;rcases Cs (AA R z) (some (c0.1+d.1,c0.2+d.2)) with ⟨e,_⟩|⟨e,_⟩
   ·rw[hv] at e;exact h.sd z _ e.symm
   ·rw[hv] at e;cases e;have ax:=h.sd x c0 (by rw[h.sm x (by omega)];exact oq);exact .snoc ax (by omega) hd
  ·exact h.sd z c hz
 ·rw[Dt];split
  ·rename_i e;subst e;exact Ay hle (h.le z)
  ·exact h.le z
 ·rw[Dt,if_neg (λ e=>by subst e;omega)];exact h.sm z hz
 ·rw[Dt];split
  ·rename_i e;subst e;rw[hd];exact hv▸HG _ _
  ·rename_i e;rcases zC.mp hz with hz|hz
   ·exact h.cw z hz
   ·exact (e (zq.mp hz)).elim
def fS.skip {L:List Int}{C:CA}{s:Int}{i:Nat}{x:Int}{c0:Int×Int}{W:List Int}{R0 R:RA}(h:fS L C s i x c0 W R0 R){y:Int}(hd:AA C (x,y)=none):fS L C s i x c0 (W++[y]) R0 R:=
 ⟨h.nd,h.rg,h.sd,h.le,h.sm,λ z hz=>by
  rcases zC.mp hz with hz|hz
  ·exact h.cw z hz
  ·rw[zq.mp hz,hd];cases AA R y<;>exact trivial⟩
def NA.go {L:List Int}{C:CA}{s:Int}{i:Nat}{x:Int}{c0:Int×Int}{R0 R:RA}(hC:∀p c,AA C p=some c->p.2∈L)(h0:NA L C s i R0)(hx:L[i]?=some x)(hn:L.Nodup)(hc:AA R0 x=some c0)(h:fS L C s i x c0 (L.drop (i+1)) R0 R):NA L C s (i+1) R:=by
 have ib:=T8 hn hx;refine⟨h.nd,h.rg,Ay (h.le s) h0.st,h.sd,λ u y hu hy=>?_⟩;by_cases e:Bz L u<i
 ·rw[h.sm u (by omega)];exact Ay (h.le y) (h0.cl u y e hy)
 ·have e2:Bz L u=i:=by omega
  have hi:=(zv.mp hx).1;have pf:u∈L:=T4 (by omega);have eu:u=x:=MV pf (zo hx) (by omega);subst eu;rw[h.sm u (by omega),hc];cases q:AA C (u,y) with
  |none=>cases AA R y<;>exact trivial
  |some d =>
   have:=h.cw y (eB (hC _ _ q) (by omega));rw[q] at this;exact this
def NA.skip {L:List Int}{C:CA}{s:Int}{i:Nat}{x:Int}{R:RA}(h0:NA L C s i R)(hx:L[i]?=some x)(hn:L.Nodup)(hc:AA R x=none):NA L C s (i+1) R:=by
 have ib:=T8 hn hx;refine⟨h0.nd,h0.rg,h0.st,h0.sd,λ u y hu hy=>?_⟩;by_cases e:Bz L u<i
 ·exact h0.cl u y e hy
 ·have hi:=(zv.mp hx).1;have eu:u=x:=MV (T4 (by omega)) (zo hx) (by omega);subst eu;rw[hc];cases AA C (u,y)<;>cases AA R y<;>exact trivial
def NA.start {L:List Int}{C:CA}{s:Int}(hs:s∈L):NA L C s 0 [(s,(0,0))]:=by
 refine⟨by simp,λ k hk=>by simp at hk;rw[hk];exact hs,by simp[AA,C1],λ y c h=>?_,λ x y h=>by omega⟩;simp only[AA] at h;split at h
 ·rename_i e;subst e;cases h;exact .nil
 ·cases h
def NA.vP {m:Nat}{L:List Int}{C:CA}{s:Int}{R:RA}(h:NA L C s L.length R)(hC:∀p c,AA C p=some c->p.1∈L/\p.2∈L):sE (Bz L) (λ x y=>AA C (x,y)) s (AA R):=by
 refine⟨h.st,λ x y hr=>?_,h.sd⟩;cases q:AA C (x,y) with
 |none=>cases AA R x<;>cases AA R y<;>exact trivial
 |some d =>
  have hx:Bz L x<L.length:=zA hr (UJ L y);have:=h.cl x y hx hr;rw[q] at this;exact this
def kO {a b i:Int}(ha:0<=a/\a<Lh)(hb:0<=b/\b<Lh)(h0:0<=i)(h1:i<2):∃w:Int,Bd (.lst [.int a,.int b]) (.int i)=.ok (.int w)/\0<=w/\w<Lh:=by
 have hi:i=0\/i=1:=by omega
 rcases hi with rfl|rfl
 ·exact⟨a,rfl,ha⟩
 ·exact⟨b,rfl,hb⟩
def eC {α:Type}{a b c d e f g h:D}{x y:α}:(if [a,b,c,d,e,f,g,h].length<=1000 then x else y)=x:=if_pos (by simp)
def UN (r:Road):dp (.ok (DD r))=.ok (DD r):=by
 obtain⟨a,b,l,w⟩:=r;cases l<;>rfl
theorem PM (i:Int):dp (.ok (.int i))=.ok (.int i):=rfl
def Inv.freeze {X:Cx}{pins:List (Addr×Obj)}{σ:St}{H:Hp}{s:Shared}{a:Addr}{kvs:List (Key×V)}(I:Inv X pins σ H s)(e:H a=some (.dK kvs)):
 ∃o,s.heap.get? a=some o/\Inv X pins σ (upd H a (.EW o (.dK kvs))) s:=by
 obtain⟨z,y,vs,r,o,es,ep,ho,c⟩:=(show Bf X.prog X.w H s.heap a (.dK kvs) from I.Ax a _ e);have ne:∀b u,H b=some u->u≠.dK kvs->b≠a:=λ b u q n hb=>n (by rw[hb,e] at q;exact (zE q).symm);have Ax:F7 X.prog X.w (upd H a (.EW o (.dK kvs))) s.heap:=λ b u q=>by
  by_cases hb:b=a
  ·subst hb;rw[Ao] at q;cases q;exact⟨ho,⟨z,y,vs,r,o,es,ep,ho,c⟩⟩
  ·rw[Ab hb] at q;exact (I.Ax b u q).LY (λ _ _ _ w=>w) (λ d w=>by rw[Ab (ne d _ w (λ z=>by cases z))];exact w) λ d xs w=>by rw[Ab (ne d _ w (λ z=>by cases z))];exact w
 refine⟨o,ho,?_⟩;have:=I.step (g':=s.gens) (d':=s.drawn) (t':=s.toks) (ch:=[]) (h':=s.heap) (H':=upd H a (.EW o (.dK kvs))) (λ b hb=>by cases hb) (λ _ _ _ _ _ q _=>q) (λ b o _ _ _ q _=>⟨o.slots,q⟩) (λ b o _ _ n=>by rw[Ab (λ z=>by rw[z,e] at n;cases n)];exact n)
  (λ b o _ q=>⟨o,q⟩) (λ b xs q=>by rw[Ab (ne b _ q (λ z=>by cases z))];exact q) (λ b o u q=>by rw[Ab (ne b _ q (λ z=>by cases z))];exact q) (λ b ps q=>⟨#[],by rw[Ab (ne b _ q (λ z=>by cases z)),q];simp⟩) (λ _ q=>q) Ax I.bare
 exact this
def Inv.pC {X:Cx}{pins:List (Addr×Obj)}{σ:St}{H:Hp}{s:Shared}{a:Addr}{kvs:List (Key×V)}(I:Inv X pins σ H s)(e:H a=some (.dK kvs)):∀o u,X.H₀ a≠some (.EW o u):=λ o u q=>by
 rw[I.base.K7 a o u q] at e;cases e
def Inv.Yw {X:Cx}{pins:List (Addr×Obj)}{σ:St}{H:Hp}{s:Shared}{a:Addr}{o:Obj}{kvs:List (Key×V)}(I:Inv X pins σ H s)(e:H a=some (.EW o (.dK kvs)))(n0:∀o u,X.H₀ a≠some (.EW o u)):Inv X pins σ (upd H a (.dK kvs)) s:=by
 have ne:∀b u,H b=some u->u≠.EW o (.dK kvs)->b≠a:=λ b u q n hb=>n (by rw[hb,e] at q;exact (zE q).symm);have nn:∀b,H b=none->b≠a:=λ b q hb=>by rw[hb,e] at q;cases q
 refine⟨I.ok,I.os,I.bare,⟨I.base.keep,I.base.slot,λ b ob q n hx=>?_,I.base.there,λ b xs q=>?_,λ b ob u q=>?_,λ b ps q=>?_⟩,I.loc,I.cell,?_,λ x c h=>?_,λ p hp=>?_,λ b u q=>?_,I.len⟩
 ·have:=I.base.free b ob q n hx;rw[Ab (nn b this)];exact this
 ·have:=I.base.LZ b xs q;rw[Ab (ne b _ this (λ z=>by cases z))];exact this
 ·by_cases hb:b=a
  ·subst hb;exact absurd q (n0 ob u)
  ·rw[Ab hb];exact I.base.K7 b ob u q
 ·obtain⟨m,h⟩:=I.base.M2 b ps q;exact⟨m,by rw[Ab (ne b _ h (λ z=>by cases z))];exact h⟩
 ·rw[Ab (nn _ I.free)];exact I.free
 ·rw[Ab (nn _ (I.EX x c h))];exact I.EX x c h
 ·obtain⟨h1,h2,h3⟩:=I.pin p hp;exact⟨h1,by rw[Ab (nn _ h2)];exact h2,h3⟩
 ·by_cases hb:b=a
  ·subst hb;rw[Ao] at q;cases q;obtain⟨h1,z,y,vs,r,ob,es,ep,ho,c⟩:=(show Bf X.prog X.w H s.heap b (.EW o (.dK kvs)) from I.Ax b _ e);exact⟨z,y,vs,r,ob,es,ep,ho,c⟩
  ·rw[Ab hb] at q;exact (I.Ax b u q).LY (λ _ _ _ w=>w) (λ d w=>by rw[Ab (ne d _ w (λ z=>by cases z))];exact w) λ d xs w=>by rw[Ab (ne d _ w (λ z=>by cases z))];exact w
def W7:∀ {k:Key}{u:Value},LX k u=true->RelV (kV k) u
 | .inl i,u,h=>by
  obtain⟨t,e⟩:=Value.isInt_shape (k:=i) (v:=u) h;exact⟨t,e⟩
 | .inr x,u,h=>by
  obtain⟨t,e⟩:=Value.isStrOf_shape (x:=x) (v:=u) h;exact⟨t,e⟩
def KV.get {kvs:List (Key×V)}{vs:List (Key×Value)}(r:KV kvs vs){i:Nat}{k:Key}{x:Value}(h:vs[i]?=some (k,x)):∃v,kvs[i]?=some (k,v):=by
 induction r generalizing i with
 |nil=>cases h
 | @cons p q ps qs hd tl ih =>
  cases i with
  |zero =>
   rw[y4] at h;cases h;have ep:p=(k,p.2):=Prod.ext hd.1 rfl;exact⟨p.2,by rw[y4,<-ep]⟩
  |succ i=>rw[zQ] at h ⊢;exact ih h
noncomputable def pE (a:Addr)(o:Obj)(kvs:List (Key×V)):It:=
 ⟨λ i H=>H a=some (.EW o (.dK kvs))/\i<kvs.length,λ i H v H'=>H'=H/\∃kv,kvs[i]?=some kv/\v=kV kv.1,λ i H=>H a=some (.EW o (.dK kvs))/\kvs.length<=i⟩
def W8 {P:Program}{w:World}{K:za}{tg:Expr}(a it:Addr)(o:Obj)(kvs:List (Key×V))(vs:List (Key×Value))(ep:Nat)(hD:∀h:Heap,h.get? a=some o->h.DictAt (AM P w) a vs ep)(dz:KV kvs vs)(ae:a≠it):
 Turn P w K tg (pE a o kvs) [it] it (λ i h=>i<=kvs.length/\h.IsKeyIter it a i kvs.length ep) where
 mem:=by simp
 obj:=λ i h st b hb=>by
  have e:b=it:=by simpa using hb
  subst e;obtain⟨_,o,e,c,d⟩:=st;exact⟨o,e,λ v z=>by rw[d] at z;cases z⟩
 keep:=λ i h h' st k=>⟨st.1,st.2.at λ o e=>k it (by simp) o e⟩
 item:=by
  intro X hP hw hK hc i pins s σ H E I hf st hg;subst hP hw hK;obtain⟨he,hi⟩:=hg;have hlen:kvs.length=vs.length:=Paired.length dz;have gc:s.heap.get? a=some o:=(show Bf X.prog X.w H s.heap a (.EW o (.dK kvs)) from I.Ax a _ he).1;obtain⟨f0,f1,f2,f3,f4,f5⟩:=hf it (by simp);have W:=Walks.dictKeys (prog:=X.prog) (w:=X.w) (knd:=AM X.prog X.w) (A:=X.A) (I.ok.hd hc) it a ae vs ep;refine W.item i s _ _ (by omega) ⟨by rw[<-hlen];exact st.2,hD _ gc⟩ λ v h' tk hv bH kp=>?_;obtain⟨k,x,hk,vQ⟩:=hv;obtain⟨v',l6⟩:=dz.get hk;have I1:Inv X pins σ H {s with heap:=h',toks:=tk}:=I.turned (t':=tk) (λ b o hb e=>kp b o (by simpa using hb) e) f0 f1 f3 f4 f5;obtain⟨ob,e,c,d⟩:=id bH.1;exact⟨v,rfl,TH (s:={s with heap:=h',toks:=tk}) e c d (by decide) ⟨kV k,H,I1,W7 vQ,⟨rfl,_,l6,rfl⟩,⟨hi,by rw[hlen];exact bH.1⟩,λ b hb=>(hf b hb).1⟩⟩
 done:=by
  intro X hP hw hK hc i pins s σ H E I hf st hg;subst hP hw hK;obtain⟨he,hi⟩:=hg;have hlen:kvs.length=vs.length:=Paired.length dz;have gc:s.heap.get? a=some o:=(show Bf X.prog X.w H s.heap a (.EW o (.dK kvs)) from I.Ax a _ he).1;obtain⟨f0,f1,f2,f3,f4,f5⟩:=hf it (by simp);have W:=Walks.dictKeys (prog:=X.prog) (w:=X.w) (knd:=AM X.prog X.w) (A:=X.A) (I.ok.hd hc) it a ae vs ep;have vR:i=vs.length:=by have:=st.1;omega
  subst vR;exact W.done s _ _ ⟨by rw[<-hlen];rw[<-hlen] at st;exact st.2,hD _ gc⟩ λ h' tk kp=>⟨rfl,I.turned (t':=tk) (λ b o hb e=>kp b o (by simpa using hb) e) f0 f1 f3 f4 f5⟩
 self:=λ _ _ _ _ _ st h=>wpAny_pyIter_keyiter st.2 h
section
variable {X:Cx}{WX:Str->Hp->Prop}{tg e:Expr}{f g:Aa->M D}{pos p:Pos}{te:TE}
noncomputable def pF (H0:Hp)(te:TE):TI:=λ σ H R=>te σ H λ v H1=>∃a kvs,v=.ref a/\((H1 a=some (.dK kvs)/\∀o,(∀o u,H0 a≠some (.EW o u))->R (pE a o kvs) (upd H1 a (.EW o (.dK kvs))))\/∃o,H1 a=some (.EW o (.dK kvs))/\R (pE a o kvs) H1)
def eE (ha:PE X e te):PI X tg e (pF X.H₀ te):=by
 intro pins s σ H R I h;refine Bh (ha pins s σ H _ I h) λ v s1 ⟨x,H1,I1,r1,q1⟩=>?_;obtain⟨a,kvs,rfl,q⟩:=q1;cases r1;have fin:∀(H2:Hp) (o:Obj),Inv X pins σ H2 s1->H2 a=some (.EW o (.dK kvs))->R (pE a o kvs) H2->wpAny (model X.prog X.w) X.A (pyIter (.ref a)) (qY X pins σ tg R) X.xe s1:=λ H2 o I2 e2 q2=>by
  obtain⟨gc,z,y,vs,r,ob,es,ep,ho,c⟩:=(show Bf X.prog X.w H2 s1.heap a (.EW o (.dK kvs)) from I2.Ax a _ e2);have eo:o=ob:=zE (gc.symm.trans ho);subst eo;have hD:∀h:Heap,h.get? a=some o->h.DictAt (AM X.prog X.w) a vs ep:=λ h q=>⟨o,es,q,c⟩;have hlen:kvs.length=vs.length:=Paired.length r;refine wpAny_pyIter_dict y (hD _ gc) ?_;refine⟨s1.heap.objs.size,[s1.heap.objs.size],_,_,H2,rfl,I2.kept (t':=s1.toks) λ b o e=>zm _ e,W8 a _ o kvs vs ep hD r (zD (zt gc)),⟨zS _,_,zF _ rfl,rfl,by rw[hlen];rfl⟩,λ b hb=>?_,q2⟩;have e:b=s1.heap.objs.size:=by simpa using hb
  subst e;exact I2.UX (zw _) (I2.Ax.fresh (zw _))
 rcases q with ⟨e1,q⟩|⟨o,e1,q⟩
 ·obtain⟨o,ho,I2⟩:=I1.freeze e1;exact fin _ o I2 Ao (q o (I1.pC e1))
 ·exact fin H1 o I1 e1 q
end
def Rz (H H':Hp):Prop:=∀b u,H b=some u->H' b=some u\/(∃o kvs,u=.EW o (.dK kvs)/\H' b=some (.dK kvs))\/∃o kvs,u=.dK kvs/\H' b=some (.EW o (.dK kvs))
def Rz.tup {H H':Hp}(e:Rz H H'){a:Addr}{xs:List V}(h:H a=some (.tup xs)):H' a=some (.tup xs):=by
 rcases e _ _ h with q|⟨o,k,q,_⟩|⟨o,k,q,_⟩
 ·exact q
 ·cases q
 ·cases q
def Rz.dT {H H':Hp}(e:Rz H H'){a:Addr}{kvs:List (List Key×V)}(h:Rd H a (.dT kvs)):Rd H' a (.dT kvs):=by
 rcases h with h|⟨o,h⟩
 ·rcases e _ _ h with q|⟨o,k,q,_⟩|⟨o,k,q,_⟩
  ·exact .inl q
  ·cases q
  ·cases q
 ·rcases e _ _ h with q|⟨o,k,q,_⟩|⟨o,k,q,_⟩
  ·exact .inr ⟨_,q⟩
  ·cases q
  ·cases q
def Rz.dK {H H':Hp}(e:Rz H H'){a:Addr}{kvs:List (Key×V)}(h:Rd H a (.dK kvs)):Rd H' a (.dK kvs):=by
 rcases h with h|⟨o,h⟩
 ·rcases e _ _ h with q|⟨o,k,q,_⟩|⟨o,k,q,r⟩
  ·exact .inl q
  ·cases q
  ·cases q;exact .inr ⟨_,r⟩
 ·rcases e _ _ h with q|⟨o,k,q,r⟩|⟨o,k,q,_⟩
  ·exact .inr ⟨_,q⟩
  ·cases q;exact .inl r
  ·cases q
def Rz.ins {H H':Hp}(e:Rz H H'){a C dx:Addr}{fs:List (Str×V)}(h:H a=some (.ins C dx fs)):H' a=some (.ins C dx fs):=by
 rcases e _ _ h with q|⟨o,k,q,_⟩|⟨o,k,q,_⟩
 ·exact q
 ·cases q
 ·cases q
def Rz.ext {H H':Hp}(e:Rz H H'){a:Addr}{φ:Heap->Prop}(h:H a=some (.ext φ)):H' a=some (.ext φ):=by
 rcases e _ _ h with q|⟨o,k,q,_⟩|⟨o,k,q,_⟩
 ·exact q
 ·cases q
 ·cases q
def Rz.seq {K:za}{H H':Hp}(e:Rz H H'){a:Addr}{xs:List V}(h:Dn K H a xs):Dn K H' a xs:=by
 rcases h with (h|⟨o,h⟩)|h
 ·rcases e _ _ h with q|⟨o,k,q,_⟩|⟨o,k,q,_⟩
  ·exact .inl (.inl q)
  ·cases q
  ·cases q
 ·rcases e _ _ h with q|⟨o,k,q,_⟩|⟨o,k,q,_⟩
  ·exact .inl (.inr ⟨_,q⟩)
  ·cases q
  ·cases q
 ·exact .inr h
mutual
def Bu.rz {K:za}{H H':Hp}(e:Rz H H'):∀ {v:V}{d:D},Bu K H v d->Bu K H' v d
 |_,_,.AD=>.AD
 |_,_,.bl b=>.bl b
 |_,_,.int i=>.int i
 |_,_,.str x=>.str x
 |_,_,.tup h r=>.tup (e.tup h) (Ag.rz e r)
 |_,_,.lst h r=>.lst (e.seq h) (Ag.rz e r)
 |_,_,.G9 h r=>.G9 (e.dK h) (Ag.rz e r)
 |_,_,.Hh h r=>.Hh (e.dT h) (Ag.rz e r)
 |_,_,.ins n h r=>.ins n (e.ins h) (Ag.rz e r)
 |_,_,.Dp h r=>.Dp h (e.ext r)
def Ag.rz {K:za}{H H':Hp}(e:Rz H H'):∀ {vs:List V}{ds:List D},Ag K H vs ds->Ag K H' vs ds
 |_,_,.nil=>.nil
 |_,_,.cons h t=>.cons (Bu.rz e h) (Ag.rz e t)
end
mutual
def BI.rz {K:za}{H H':Hp}{P P':Addr->Prop}(sm:Rz (del H P) (del H' P')):∀ {v:V}{t:OT}{fp:List Addr},(∀a∈fp,H' a=H a)->BI K H P v t fp->BI K H' P' v t fp
 |_,_,_,_,.sh h=>.sh (h.rz sm)
 |_,_,_,k,.lst h r=>.lst ((k _ zc).trans h) (Au.rz sm (λ a ha=>k a (zf _ ha)) r)
 |_,_,_,k,.tup h r=>.tup (sm.tup h) (Au.rz sm k r)
 |_,_,_,k,.dK h r=>.dK ((k _ zc).trans h) (Au.rz sm (λ a ha=>k a (zf _ ha)) r)
 |_,_,_,k,.dT h r=>.dT ((k _ zc).trans h) (Au.rz sm (λ a ha=>k a (zf _ ha)) r)
 |_,_,_,k,.ins n h r=>.ins n ((k _ zc).trans h) (Au.rz sm (λ a ha=>k a (zf _ ha)) r)
def Au.rz {K:za}{H H':Hp}{P P':Addr->Prop}(sm:Rz (del H P) (del H' P')):∀ {v:List V}{t:List OT}{fp:List Addr},(∀a∈fp,H' a=H a)->Au K H P v t fp->Au K H' P' v t fp
 |_,_,_,_,.nil=>.nil
 |_,_,_,k,.cons h r=>.cons (BI.rz sm (λ a ha=>k a (zJ _ ha)) h) (Au.rz sm (λ a ha=>k a (zl _ ha)) r)
end
def Cw.rz {K:za}{H H':Hp}{P P':Addr->Prop}(sm:Rz (del H P) (del H' P')):∀ {ps:List Addr}{Fe:List (List D)},(∀a∈ps,H' a=H a)->Cw K H P ps Fe->Cw K H' P' ps Fe
 |_,_,_,.nil=>.nil
 |_,_,k,.cons h r t=>.cons ((k _ zc).trans h) (r.rz sm) (Cw.rz sm (λ a ha=>k a (zf _ ha)) t)
def CK.rz {K:za}{H H':Hp}{P P':Addr->Prop}(sm:Rz (del H P) (del H' P')){c:Cl}{v:V}{fp:List Addr}(k:∀a∈fp,H' a=H a)(h:CK K H P c v fp):CK K H' P' c v fp:=by
 cases c with
 |val d=>exact h
 |own ds =>
  obtain⟨p,xs,rfl,rfl,h1,h2⟩:=h;exact⟨p,xs,rfl,rfl,(k p zc).trans h1,h2.rz sm⟩
 |ow o =>
  cases o with
  |rows Fe =>
   obtain⟨p,ps,rfl,rfl,h1,h2⟩:=h;exact⟨p,ps,rfl,rfl,(k p zc).trans h1,h2.rz sm λ a ha=>k a (zf _ ha)⟩
  |Ld p ds =>
   obtain⟨p,xs,rfl,rfl,h1,h2⟩:=h;exact⟨p,xs,rfl,rfl,(k p zc).trans h1,h2.rz sm⟩
  |tree p t=>exact BI.rz sm k h
def Ak.rz {K:za}{P0:Dg}{P:Addr->Prop}{H H':Hp}{σ:St}{ρ:Aa}(E:Ak K P0 P H σ ρ)(k:∀a,P a->H' a=H a)(sm:Rz (del H P) (del H' P)):Ak K P0 P H' σ ρ:=by
 have key:∀(j:Nat) (d:Cl) (w:V) (fq:List Addr),ρ[j]?=some (some d)->σ[j]?=some (some w)->CK K H' P d w fq->CK K H P d w fq:=λ j d w fq hk sk ho=>by
  have io:Gb d=true:=by cases d<;>first|rfl|exact ho.elim
  obtain⟨w',bL,s2,o2,h3,_⟩:=E.ows j d hk io;rw[sk] at s2;cases s2;have o3:=o2.rz sm λ a ha=>k a (h3 a ha).1;rw[ho.C8 o3];exact o2
 exact⟨E.sub,λ a h=>by obtain⟨o,z,y⟩:=E.Cg a h;exact⟨o,(k a h).trans z,y⟩,λ i d h=>let ⟨v,h1,h2⟩:=E.val i d h;⟨v,h1,h2.rz sm⟩,
  λ i c h io=>let ⟨v,fp,h1,h2,h3,h4⟩:=E.ows i c h io;⟨v,fp,h1,h2.rz sm λ a ha=>k a (h3 a ha).1,h3,h4⟩,
  λ i j c c' v v' fp ai hi hj si sj h h' ae=>E.apart i j c c' v v' fp ai hi hj si sj (key i c v fp hi si h) (key j c' v' ai hj sj h') ae,E.len,E.pin⟩
def Fz (H0:Hp)(H H':Hp):Prop:=H'=H\/∃a o kvs,H a=some (.dK kvs)/\H'=upd H a (.EW o (.dK kvs))/\∀o u,H0 a≠some (.EW o u)
def Uz (H0:Hp)(H H':Hp):Prop:=H'=H\/∃a o kvs,H a=some (.EW o (.dK kvs))/\H'=upd H a (.dK kvs)/\∀o u,H0 a≠some (.EW o u)
def Inv.uz {X:Cx}{pins:List (Addr×Obj)}{σ:St}{H H':Hp}{s:Shared}(I:Inv X pins σ H s)(u:Uz X.H₀ H H'):Inv X pins σ H' s:=by
 rcases u with rfl|⟨a,o,kvs,e,rfl,n0⟩
 ·exact I
 ·exact I.Yw e n0
def uB (X:Cx)(WX:Str->Hp->Prop)(tg iter:Expr)(f:Aa->M (List D)):Prop:=
 ∃wi,PI X tg iter wi/\∀P0 P σ H R ρ,Ak X.K P0 P H σ ρ->(match f ρ with | .ok ds=>∀J H1 H',Ae H H1->Fz X.H₀ H1 H'->(∀b,P b->H' b=H1 b)->Rz (del H1 P) (del H' P)->Vl X.K J P H' ds->R J H' | .ex x=>∀H',Ae H H'->WX x H' | .bad=>False)->wi σ H R
noncomputable def kQ (d:D):M (List D):=match d with | .Ba false ks _=>.ok ks | _=>.bad
def eF {K:za}{H:Hp}:∀k:Key,Bu K H (kV k) (CT k)
 | .inl i=>.int i
 | .inr x=>.str x
def Yx {K:za}{P:Addr->Prop}{H:Hp}{a:Addr}{o:Obj}{kvs:List (Key×V)}(nP:¬ P a)(e:H a=some (.EW o (.dK kvs))):Vl K (pE a o kvs) P H (kvs.map λ kv=>CT kv.1):=by
 have at':∀ {P':Addr->Prop} {H':Hp},Ae (del H P) (del H' P')->H' a=some (.EW o (.dK kvs)):=λ s=>(Ai (s a _ (by rw[Ar nP];exact e))).2;refine⟨λ i P' H' s hi=>⟨at' s,by rw[ze] at hi;exact hi⟩,λ i P' H' s hi=>⟨at' s,by rw[ze] at hi;exact hi⟩,λ i P' H' v dq d s ht hd y=>?_⟩;obtain⟨rfl,kv,hk,rfl⟩:=y;rw[zI,hk] at hd;cases hd;exact⟨Ae.refl _,eF _⟩
section
variable {X:Cx}{WX:Str->Hp->Prop}{c:Bool}{P0:Dg}{P:Addr->Prop}{H:Hp}{σ:St}{ρ:Aa}{a b e tg iter:Expr}{f g:Aa->M D}{ft:Aa->M Bool}{pos:Pos}{gt:D->Aa->M Aa}{fi:Aa->M (List D)}{es:List Expr}{fs:Aa->M (List D)}
def eG (ha:DE X WX true e f):uB X WX tg e (λ ρ=>(f ρ).bind kQ):=by
 obtain⟨ta,a1,a2⟩:=ha;refine⟨_,eE a1,λ P0 P σ H R ρ E h=>?_⟩;dsimp only at h;refine a2 P0 P σ H _ ρ E ?_;cases q:f ρ with
 |bad=>rw[q] at h;exact h
 |ex x=>rw[q] at h;exact h
 |ok d =>
  rw[q] at h;simp only[M.A7] at h;unfold kQ at h;cases d with
  |Ba t ks vs =>
   intro v H1 s1 hv;cases hv with
   | @G9 a kvs _ hh hl =>
    rcases hh with hh|⟨o,hh⟩
    ·obtain⟨nP,ea⟩:=Ai hh;refine⟨a,kvs,rfl,.inl ⟨ea,λ o n0=>h _ H1 _ s1 (.inr ⟨a,o,kvs,ea,rfl,n0⟩) (λ b hb=>Ab λ z=>nP (by rw[<-z];exact hb)) (λ b u q=>?_) (Yx nP Ao)⟩⟩;obtain⟨n,q'⟩:=Ai q;by_cases hb:b=a
     ·subst hb;rw[ea] at q';cases q';exact .inr (.inr ⟨o,kvs,rfl,by rw[Ar n];exact Ao⟩)
     ·exact .inl (by rw[Ar n,Ab hb];exact q')
    ·obtain⟨nP,ea⟩:=Ai hh;exact⟨a,kvs,rfl,.inr ⟨o,ea,h _ H1 H1 s1 (.inl rfl) (λ _ _=>rfl) (λ _ _ q=>.inl q) (Yx nP ea)⟩⟩
   |Hh _ _=>exact h.elim
  |_=>exact h.elim
end
section
variable {X:Cx}{WX:Str->Hp->Prop}{c:Bool}{P0:Dg}{P:Addr->Prop}{H:Hp}{σ:St}{ρ:Aa}{a b e tg iter:Expr}{f g:Aa->M D}{ft:Aa->M Bool}{pos:Pos}{gt:D->Aa->M Aa}{fi:Aa->M (List D)}
def kR (ha:DE X WX true e f):DI X WX tg e (λ ρ=>(f ρ).bind λ d=>match d with | .tup ds=>.ok ds | _=>.bad):=by
 obtain⟨ta,a1,a2⟩:=ha;refine⟨_,gZ a1,λ P0 P σ H R ρ E h=>?_⟩;dsimp only at h;refine a2 P0 P σ H _ ρ E ?_;cases q:f ρ with
 |bad=>rw[q] at h;exact h
 |ex x=>rw[q] at h;exact h
 |ok d =>
  rw[q] at h;cases d with
  |tup ds =>
   intro v H1 s1 hv;cases hv with
   | @tup a xs _ hh hl =>
    have at':∀ {P':Addr->Prop} {H':Hp},Ae (del H1 P) (del H' P')->Er X.K H' a xs:=λ s=>.inl (.inl (Ai (s a _ hh)).2);refine⟨a,rfl,⟨xs,.inl (.inl (Ai hh).2)⟩,h _ H1 s1 ⟨λ i P' H' s hi=>?_,λ i P' H' s hi=>?_,λ i P' H' v dq d s ht hd y=>?_⟩⟩
    ·obtain⟨x,hx,_⟩:=hl.get (zj hi);exact⟨xs,x,at' s,hx⟩
    ·exact⟨xs,at' s,by rw[hl.length];exact hi⟩
    ·obtain⟨rfl,y⟩:=y;obtain⟨x,hx,bP⟩:=hl.get hd;have e:=y xs (at' s);rw[hx] at e;cases e;exact⟨Ae.refl _,bP.mono s⟩
  |_=>exact h.elim
end
def C2.eI {m:Nat}{rs:List Road}{L:List Int}{A:LA}{K:List (Int×Int)}(ok:C2 m rs L A K):∀p c,AA (BM A K) p=some c->p.1∈L/\p.2∈L:=λ p c h=>by
 have hm:=SU h;unfold BM at hm;obtain⟨q,hq,e⟩:=zM.mp hm;cases e;have:=ok.TB hq;exact⟨(Br ok.pm).mpr this.2.1,(Br ok.pm).mpr this.2.2⟩
def C2.kS {m:Nat}{rs:List Road}{L:List Int}{A:LA}{K:List (Int×Int)}(ok:C2 m rs L A K):∀p c,AA (EV (BM A K)) p=some c->p.1∈L/\p.2∈L:=λ p c h=>by
 rw[show p=(p.1,p.2) from rfl,UM] at h;have:=ok.eI _ _ h;exact⟨this.2,this.1⟩
theorem eJ (R:RA):kQ (Fo R)=.ok (R.map λ kv=>D.int kv.1):=rfl
def kT {a b g i:Int}(ha:0<=a/\a<Lh)(hb:0<=b/\b<Lh)(hg:0<=g/\g<Lh)(h0:0<=i)(h1:i<8):∃l:Option Int,Bd (.lst [.AD,.int 0,.int 0,.int 1,.int a,.int a,.int b,.int g]) (.int i)=.ok (HQ l)/\∀z,l=some z->0<=z/\z<Lh:=by
 have ht:=SR;have hi:i=0\/i=1\/i=2\/i=3\/i=4\/i=5\/i=6\/i=7:=by omega
 rcases hi with rfl|rfl|rfl|rfl|rfl|rfl|rfl|rfl
 ·exact⟨none,rfl,λ z e=>by cases e⟩
 ·exact⟨some 0,rfl,λ z e=>by cases e;omega⟩
 ·exact⟨some 0,rfl,λ z e=>by cases e;omega⟩
 ·exact⟨some 1,rfl,λ z e=>by cases e;omega⟩
 ·exact⟨some a,rfl,λ z e=>by cases e;exact ha⟩
 ·exact⟨some a,rfl,λ z e=>by cases e;exact ha⟩
 ·exact⟨some b,rfl,λ z e=>by cases e;exact hb⟩
 ·exact⟨some g,rfl,λ z e=>by cases e;exact hg⟩
def T9 (cs:List Int):HW 0 (cs.map D.int)=(yf cs.length).map λ i:Nat=>D.tup [.int (i:Int),.int (cs.getD i 0)]:=by
 apply List.ext_getElem?;intro i;rw[zI];by_cases hi:i<cs.length
 ·obtain⟨e,he⟩:∃e,(HW 0 (cs.map D.int))[i]?=some e:=⟨_,zj (by rw[Dy,ze];exact hi)⟩;obtain⟨d,hd,rfl⟩:=Hi he;rw[he,List.getElem?_range hi];rw[zI,zj hi] at hd;cases hd;rw[yt,yq,Nat.zero_add,zj hi];rfl
 ·rw[List.getElem?_eq_none (by rw[Dy,ze];omega),List.getElem?_eq_none (by rw[List.length_range];omega)];rfl
def Rk (rs:List Road):Zz 16 (.lst (rs.map DD)) (.lst [])=.ok (.bl (decide (rs≠[]))):=by
 have h1:Pl 16 (.lst (rs.map DD)):=(Sx (n:=1) λ d hd=>by
  obtain⟨r,_,rfl⟩:=zM.mp hd;exact oW r).le (by decide)
 have h2:Pl 16 (.lst ([]:List D)):=(Sx (n:=1) λ d hd=>by cases hd).le (by decide);rw[Sz h1 h2];cases rs with
 |nil=>rfl
 |cons r q=>simp[As,C7]
def eK (m:Nat)(rs:List Road):er (.tup [.sh (.int m),.lst ((rs.map DD).map .sh)])=Am m rs:=by
 rw[er,Qx,Oj,Qx,Gs,Qx];rfl
noncomputable def lL (H0:Hp)(Z:Ends):Ends:={nx:=λ σ H=>∃H3,Uz H0 H H3/\Z.nx σ H3,bk:=λ σ H=>∃H3,Uz H0 H H3/\Z.bk σ H3,ct:=λ σ H=>∃H3,Uz H0 H H3/\Z.ct σ H3,rt:=λ v H=>∃H3,Uz H0 H H3/\Z.rt v H3}
def pG {X:Cx}{pins:List (Addr×Obj)}{D:Ends}{f:Flow}{s:Shared}(h:SP X pins (lL X.H₀ D) f s):SP X pins D f s:=by
 cases f with
 |next=>obtain⟨σ,H,I,H3,u,q⟩:=h;exact⟨σ,H3,I.uz u,q⟩
 |brk=>obtain⟨σ,H,I,H3,u,q⟩:=h;exact⟨σ,H3,I.uz u,q⟩
 |cont=>obtain⟨σ,H,I,H3,u,q⟩:=h;exact⟨σ,H3,I.uz u,q⟩
 |ret u=>obtain⟨v,σ,H,I,r,H3,u,q⟩:=h;exact⟨v,σ,H3,I.uz u,r,q⟩
noncomputable def kU:M Out->M Out
 | .ok (.next ρ)=>.ok (.next ρ)
 | .ok (.ret d)=>.ok (.ret d)
 |_=>.bad
def gS.fz {K:za}{WX:Str->Hp->Prop}{P0:Dg}{P:Addr->Prop}{H0 H H1:Hp}{Z:Ends}{m:M Out}(h0:∀a,P0 a->P a)(fz:Fz H0 H H1)(kP:∀b,P b->H1 b=H b)(h:gS K WX P0 P H Z (kU m)):gS K WX P0 P H1 (lL H0 Z) m:=by
 rcases fz with rfl|⟨a,o,kvs,ea,rfl,n0⟩
 ·cases m with
  |bad=>exact h
  |ex x=>exact h.elim
  |ok u =>
   cases u with
   |next ρ=>exact λ σ2 H2 P2 t2 hv=>⟨_,.inl rfl,h σ2 H2 P2 t2 hv⟩
   |ret d=>exact λ v H2 P2 t2 hv=>⟨_,.inl rfl,h v H2 P2 t2 hv⟩
   |_=>exact h.elim
 ·have nP:¬ P a:=λ z=>by
   have:=kP a z;rw[Ao,ea] at this;cases this
  have back:∀ {H2:Hp} {P2:Addr->Prop},Tr P0 P (upd H a (.EW o (.dK kvs))) P2 H2->¬ P2 a/\H2 a=some (.EW o (.dK kvs))/\Tr P0 P H P2 (upd H2 a (.dK kvs))/\Rz (del H2 P2) (del (upd H2 a (.dK kvs)) P2)/\(∀b,P2 b->upd H2 a (.dK kvs) b=H2 b):=fun {H2 P2} t2=>by
   obtain⟨n2,e2⟩:=Ai (t2.1 a (.EW o (.dK kvs)) (by rw[Ar nP];exact Ao));refine⟨n2,e2,⟨λ b u q=>?_,λ b hb=>?_⟩,λ b u q=>?_,λ b hb=>Ab λ z=>n2 (by rw[<-z];exact hb)⟩
   ·obtain⟨nb,q'⟩:=Ai q;by_cases hb:b=a
    ·subst hb;rw[ea] at q';cases q';rw[Ar n2];exact Ao
    ·obtain⟨m1,m2⟩:=Ai (t2.1 b u (by rw[Ar nb,Ab hb];exact q'));rw[Ar m1,Ab hb];exact m2
   ·have a8:b≠a:=λ z=>nP (by rw[<-z];exact h0 b hb);have:=t2.2 b hb;rw[Ab a8] at this ⊢;exact this
   ·obtain⟨nb,q'⟩:=Ai q;by_cases hb:b=a
    ·subst hb;rw[e2] at q';cases q';exact .inr (.inl ⟨o,kvs,rfl,by rw[Ar n2];exact Ao⟩)
    ·exact .inl (by rw[Ar nb,Ab hb];exact q')
  cases m with
  |bad=>exact h
  |ex x=>exact h.elim
  |ok u =>
   cases u with
   |next ρ =>
    intro σ2 H2 P2 t2 hv;obtain⟨n2,e2,t3,rz,k2⟩:=back t2;exact⟨_,.inr ⟨a,o,kvs,e2,rfl,n0⟩,h σ2 _ P2 t3 (hv.rz k2 rz)⟩
   |ret d =>
    intro v H2 P2 t2 hv;obtain⟨n2,e2,t3,rz,k2⟩:=back t2;refine⟨_,.inr ⟨a,o,kvs,e2,rfl,n0⟩,h v _ P2 t3 (hv.rz λ b u q=>?_)⟩;obtain⟨nb,q'⟩:=Ai q;by_cases hb:b=a
    ·subst hb;rw[e2] at q';cases q';exact .inr (.inl ⟨o,kvs,rfl,by rw[Ar nb];exact Ao⟩)
    ·exact .inl (by rw[Ar nb,Ab hb];exact q')
   |_=>exact h.elim
section
variable {X:Cx}{WX:Str->Hp->Prop}{tg iter:Expr}{pos:Pos}{gt:D->Aa->M Aa}{gb:Aa->M Out}{fi:Aa->M (List D)}
def eL {body:List Stmt}(hp:PassesOwn (model X.prog X.w) X.A X.env X.xe)(hc:X.calm=true)(hi:uB X WX tg iter fi)(hg:DG X tg gt)(hb:QD X WX body gb)(hs:∀x,foldedSetIterable iter X.env x=pure x:=by intro _;rfl):
 DS X WX (.For tg iter body [] pos) (λ ρ=>(fi ρ).bind λ ds=>kU (forM gt gb ds ρ)):=by
 obtain⟨wi,i1,i2⟩:=hi;obtain⟨t,a1,a2⟩:=hg;obtain⟨tb,b1,b2⟩:=hb;have ps:=WH (pos:=pos) hp hc i1 a1 b1 hs;refine⟨λ Z σ H=>_,λ pins s σ H Z I q=>wpAny_mono (ps pins s σ H (lL X.H₀ Z) I q) (λ _ _ h=>pG h) λ _ _ h=>h,λ P0 P σ H Z ρ E h=>?_⟩;dsimp only at h;refine i2 P0 P σ H _ ρ E ?_;cases q:fi ρ with
 |bad=>rw[q] at h;exact h
 |ex x=>rw[q] at h;exact λ H' s=>h H' P (E.tr s)
 |ok ds =>
  rw[q] at h;simp only[M.A7] at h;intro J H0 H1 s0 fz kP rz ok;have E1:Ak X.K P0 P H1 σ ρ:=(E.same s0).rz kP rz;have h1:gS X.K WX P0 P H1 (lL X.H₀ Z) (forM gt gb ds ρ):=gS.fz E.sub fz kP (h.tr (E.tr s0));refine⟨λ i m σ' H'=>m=ds.length-i/\i<=ds.length/\∃P' ρ',Tr P0 P H1 P' H'/\Ak X.K P0 P' H' σ' ρ'/\gS X.K WX P0 P' H' (lL X.H₀ Z) (forM gt gb (ds.drop i) ρ'),
   ⟨ds.length,by simp,zS _,P,ρ,Tr.refl,E1,by rw[List.drop_zero];exact h1⟩,?_⟩
  rintro i m σ' H' ⟨rfl,hi,P',ρ',t',E',g'⟩;by_cases ah:i<ds.length
  ·refine .inr ⟨ok.go i P' H' t'.1 ah,λ σ2 H2=>i+1<=ds.length/\∃P2 ρ2,Tr P0 P H1 P2 H2/\Ak X.K P0 P2 H2 σ2 ρ2/\gS X.K WX P0 P2 H2 (lL X.H₀ Z) (forM gt gb (ds.drop (i+1)) ρ2),λ σ2 H2 hq=>⟨ds.length-(i+1),by omega,rfl,hq.1,hq.2⟩,λ v H2 y=>?_⟩;obtain⟨s2,hv⟩:=ok.YZ i P' H' v H2 ds[i] t'.1 E'.Cg (zj ah) y;rw[Gi ah,forM] at g';have E2:=E'.same s2;refine a2 P0 P' σ' H2 _ ρ' v ds[i] E2 hv ?_;cases q1:gt ds[i] ρ' with
   |bad=>rw[q1] at g';exact g'
   |ex x=>rw[q1] at g';exact g'.elim
   |ok ρ1 =>
    rw[q1] at g';dsimp only at g';intro σ3 E3;refine b2 P0 P' σ3 H2 _ ρ1 E3 ?_;have tt:Tr P0 P H1 P' H2:=t'.trans (E'.tr s2);cases q2:gb ρ1 with
    |bad=>rw[q2] at g';exact g'
    |ex x=>rw[q2] at g';exact gS.tr (m:=.ex x) g' (E'.tr s2)
    |ok o =>
     rw[q2] at g';cases o with
     |ret d=>exact gS.tr (m:=.ok (.ret d)) g' (E'.tr s2)
     |Ca d=>exact gS.tr (m:=.ok (.Ca d)) g' (E'.tr s2)
     |Ep d ρ2=>exact gS.tr (m:=.ok (.Ep d ρ2)) g' (E'.tr s2)
     |next ρ2=>exact λ σ4 H4 P4 t4 E4=>⟨ah,P4,ρ2,tt.trans t4,E4,gS.tr g' ((E'.tr s2).trans t4)⟩
     |cont ρ2=>exact λ σ4 H4 P4 t4 E4=>⟨ah,P4,ρ2,tt.trans t4,E4,gS.tr g' ((E'.tr s2).trans t4)⟩
     |brk ρ2=>exact λ σ4 H4 P4 t4 E4=>g' σ4 H4 P4 ((E'.tr s2).trans t4) E4
  ·have e:i=ds.length:=by omega
   subst e;refine .inl ⟨ok.stop _ P' H' t'.1 (zw _),?_⟩;rw[xk,forM] at g';exact g' σ' H' P' Tr.refl E'
end
section
variable {X:Cx}{WX:Str->Hp->Prop}{c:Bool}{P0:Dg}{P:Addr->Prop}{H:Hp}{σ:St}{ρ:Aa}{a b e:Expr}{f g:Aa->M D}{fp:Aa->M (List Nat)}{pos p:Pos}{i:Nat}
def W9:FN X (.builtin "len") (λ xs H Q=>∃a kvs,xs=[V.ref a]/\Rd H a (.dK kvs)/\Q (.int kvs.length) H):=by
 intro pins s σ H xs us Q I r h;obtain⟨a,kvs,rfl,ha,q⟩:=h;obtain⟨u,rfl,ru⟩:=vals1 r;cases ru;exact nB I ha λ t s' I'=>⟨.int kvs.length,H,I',⟨t,rfl⟩,q⟩
noncomputable def Rl (ds:List D):M D:=match ds with
 |[.Ba false ks _]=>.ok (.int ks.length)
 |_=>.bad
def eM:J5 X.K WX (λ xs H Q=>∃a kvs,xs=[V.ref a]/\Rd H a (.dK kvs)/\Q (.int kvs.length) H) Rl:=by
 intro P H ds vs Q ht hl h;unfold Rl at h;split at h
 ·obtain⟨v,rfl,hv⟩:=hl.one;cases hv with
  | @G9 a kvs _ hh hl=>exact⟨a,kvs,rfl,hh.B8,by have:=h _ H (Ae.refl H) (.int _);rw[ze] at this;exact this⟩
 ·exact h.elim
def UO (hg:Gl X "len")(hm:X.mg "len" = none)(ha:DE X WX c e f)(hs:starEach [e] X.env=[(false,eval e X.env)]:=by rfl):DE X WX c (.Call (.Name "len" p) [e] [] pos) (λ ρ=>((f ρ).bind λ d=>(M.ok []).bind λ ds=>.ok (d::ds)).bind Rl):=
 Gh W9 eM hg hm PySem.boot_len (A2 ha A8 hs) (he:=hs)
def Wa:pQ X "dict.clear" (λ x vs H Q=>∃l kvs,x=.ref l/\vs=[]/\H l=some (.dK kvs)/\Q .AD (upd H l (.dK []))):=by
 intro pins s σ H x vs v us Q I rx rv h;obtain⟨l,kvs,rfl,rfl,hH,q⟩:=h;cases rx;have vS:=rv.zero;subst vS;exact Zk I hH λ s' I'=>⟨.AD,_,I',rfl,q⟩
def OC (ha:DP X WX a i fp){apos ac:Pos}(b5:swapsWith (.Call (.Attribute a "clear" apos) [] [] ac) none pos.line X.env=pure false:=by rfl)
 (ar:attributeBase a "clear" X.env (eval a X.env)=eval a X.env:=by rfl) (au:(apos.endLine==ac.line)=true:=by rfl):
 DS X WX (.Expr (.Call (.Attribute a "clear" apos) [] [] ac) pos) (λ ρ=>(fp ρ).bind λ π=>(Et i ρ π).bind λ z=>if z.1=false then Gr i ρ π (.Ba false [] []) else .bad):=by
 obtain⟨ta,a1,a2⟩:=ha;refine⟨_,F9 (iP PySem.F.plainAttrs_dict PySem.F.slot_dict_clear PySem.F.type_dict_clear Wa a1 ar au) b5,λ P0 P σ H Z ρ E h=>?_⟩;dsimp only at h;refine a2 P0 P σ H _ ρ E ?_;cases q:fp ρ with
 |bad=>rw[q] at h;exact h
 |ex x=>rw[q] at h;exact λ H' s=>h H' P (E.tr s)
 |ok π =>
  rw[q] at h;simp only[M.A7] at h;intro v t1 H1 s1 pl;have E1:=E.same s1;cases q1:Et i ρ π with
  |bad=>rw[q1] at h;exact h.elim
  |ex x=>exact (QP q1).elim
  |ok z =>
   obtain⟨bb,ks,vs⟩:=z;rw[q1] at h;simp only[M.A7] at h;by_cases hb:bb=false
   ·subst hb;rw[if_pos rfl] at h;obtain⟨rfl,l,xs,rfl,hP,bB,ot,ci⟩:=pl.Ba E1 q1;rcases ci with ⟨_,kvs,hH,rfl,rfl⟩|⟨z,_⟩
    ·refine⟨.inr (.inr (.inl ⟨rfl,.inl ⟨kvs,hH⟩⟩)),l,kvs,rfl,rfl,hH,?_⟩;obtain⟨c,p,t0,g1,g2,E3,t3⟩:=E1.ZV (o':=.dK []) (u:=.Ba false [] []) pl ot (λ _=>⟨λ z=>(by cases z),λ _ z=>by cases z⟩) (λ mv=>.dK (kvs:=[]) Ao .nil);rw[Fj g1 g2] at h;exact h _ _ _ ((E.tr s1).trans t3) E3
    ·cases z
   ·rw[if_neg hb] at h;exact h.elim
noncomputable def Rm (k:Int):List Int->Option Nat
 |[]=>none
 |x::r=>if x=k then some 0 else (Rm k r).map (· + 1)
noncomputable def eN (x:D)(m:M D):M D:=match x with
 | .lst ds=>m.bind λ y=>(match Cb ds,y with|some ns,.int k=>(match Rm k ns with|some j=>.ok (.int j)|none=>.bad)|_,_=>.bad)
 |_=>.bad
def UP {k:Int}:∀ {ns:List Int}{aa:List Value},Vals (ns.map V.int) aa->PySem.W.kf_ints aa=true/\PySem.W.kf_at k aa=Rm k ns
 |[],[],_=>⟨rfl,rfl⟩
 |[],_::_,h=>by cases h
 |n::r,aa,h=>by
  cases h with
  |cons h t =>
   obtain⟨tk,rfl⟩:=h;obtain⟨h1,h2⟩:=UP (k:=k) t;refine⟨h1,?_⟩;simp only[PySem.W.kf_at,Rm,h2];by_cases e:n=k
   ·subst e;simp[isInt]
   ·rw[if_neg e];have:isInt k (.int n tk)=false:=by simp[isInt];omega
    rw[this];cases Rm k r<;>rfl
def Yy:pQ X "list.index" (λ x vs H Q=>∃l ns k j,x=.ref l/\vs=[.int k]/\Dn X.K H l (ns.map V.int)/\Rm k ns=some j/\Q (.int j) H):=by
 intro pins s σ H x vs v us Q I rx rv h;obtain⟨l,ns,k,j,rfl,rfl,hq,hj,q⟩:=h;cases rx;obtain⟨u,rfl,ru⟩:=rv.one;obtain⟨tk,rfl⟩:=ru;obtain⟨aa,r,pl,hz⟩:=I.list hq;obtain⟨h1,h2⟩:=UP (k:=k) r;have hlen:=r.length;rw[hj] at h2;have vT:∃o n,s.heap.get? l=some o/\o.cls=.type "list" /\ o.dict=none/\o.data=.seq aa.toArray n:=pl;obtain⟨a,b,cc⟩:=PySem.W.kf_at_spec h2;rw[sizeLine_eq] at hz;obtain⟨o,n,e,ec,ed,es⟩:=vT;obtain⟨pc,od,vU,Qc⟩:=o;dsimp only at ec ed es;subst ec ed es;have ht:s.TypeIs (.ref l) "list" := ⟨_,e,rfl⟩;refine PySem.call_meets PySem.F.slot_list_index ht PySem.F.entry_list_index (PySem.F.args_list_index_2 _ _)
  (PySem.SeqAt.list_indexAt l aa.toArray n none Qc (.int k tk) (isInt k) j (by simpa using a) (by omega) (by simpa using b) (λ i hi ah=>?_)) ⟨e,λ y hy=>(PySem.W.kf_eq h1 y (by simpa using hy)).at _ _,?_⟩
 ·exact cc i (by simpa using hi) ah
 ·exact⟨.int j,H,I.tok _,⟨_,rfl⟩,q⟩
def Ro {o k:Expr}{apos ac:Pos}(ha:DE X WX true o f)(hb:DE X WX true k g)(ar:attributeBase o "index" X.env (eval o X.env)=eval o X.env:=by rfl)
 (aB:((backTo ac (starEach [k] X.env)).all (λ x => !x.1)&&(backToKw ac (keywordEach [] X.env)).all (λ x=>x.1.isSome)
  && decide (([k]:List Expr).length+([]:List Keyword).length+(if ([]:List Keyword).isEmpty then 0 else 1)<30))=true:=by rfl)
 (au:(apos.endLine==ac.line)=true:=by rfl) (hs:starEach [k] X.env=[(false,eval k X.env)]:=by rfl):
 DE X WX true (.Call (.Attribute o "index" apos) [k] [] ac) (λ ρ=>(f ρ).bind λ x=>eN x (g ρ)):=by
 obtain⟨ta,a1,a2⟩:=ha;obtain⟨tb,b1,b2⟩:=hb;refine⟨_,NY yz PySem.F.slot_list_index PySem.F.type_list_index Yy a1 (Bk b1 Ci hs) ar aB au hs,λ P0 P σ H Q ρ E h=>?_⟩;dsimp only at h;refine a2 P0 P σ H _ ρ E ?_;cases q:f ρ with
 |bad=>rw[q] at h;exact h
 |ex x=>rw[q] at h;exact h
 |ok x =>
  rw[q] at h;simp only[M.A7] at h;intro v H1 s1 hv;unfold eN at h;split at h
  ·rename_i ds;cases hv with
   | @lst l xs _ ph hl =>
    refine⟨.inl ⟨rfl,_,ph.B8⟩,b2 P0 P σ H1 _ ρ (E.same s1) ?_⟩;cases e2:g ρ with
    |bad=>rw[e2] at h;exact h
    |ex y=>rw[e2] at h;exact gV.same (m:=.ex y) h s1
    |ok y =>
     rw[e2] at h;simp only[M.A7] at h;intro w H2 s2 hw;split at h
     ·rename_i ns k c7;split at h
      ·rename_i j hj;have ex:=Hk hl c7;subst ex;exact⟨l,ns,k,j,rfl,by rw[hw.int_inv],s2.seq ph.B8,hj,h _ _ (s1.trans s2) (.int _)⟩
      ·exact h.elim
     ·exact h.elim
  ·exact h.elim
end
noncomputable def CD (L:List Int)(C:CA):CA:=C.filter λ kv=>decide (Bz L kv.1.1<Bz L kv.1.2)
noncomputable def Be (kv:(Int×Int)×(Int×Int)):D:=.tup [.int kv.1.1,.int kv.1.2,cst (some kv.2)]
inductive pH (Cf:Int->Int->Co) (rk:Int->Nat) (s:Int):Nat->Int->Int×Int->Prop
 |nil:pH Cf rk s 0 s (0,0)
 |snoc {n:Nat} {x y:Int} {c d:Int×Int}:pH Cf rk s n x c->rk x<rk y->Cf x y=some d->pH Cf rk s (n+1) y (c.1+d.1,c.2+d.2)
def Yk.vV {Cf:Int->Int->Co}{rk:Int->Nat}{s y:Int}{c:Int×Int}(h:Yk Cf rk s y c):∃n,n<=rk y/\pH Cf rk s n y c:=by
 induction h with
 |nil=>exact⟨0,zS _,.nil⟩
 |snoc _ hr ha ih =>
  obtain⟨n,hn,u⟩:=ih;exact⟨n+1,by omega,.snoc u hr ha⟩
structure Wb (L:List Int)(C:CA)(s:Int)(t:Nat)(R:RA):Prop where
 nd:(R.map zG).Nodup
 rg:∀k∈R.map zG,k∈L
 sd:∀y c,AA R y=some c->Yk (λ x y=>AA C (x,y)) (Bz L) s y c
 le:∀n y c,n<=t->pH (λ x y=>AA C (x,y)) (Bz L) s n y c->C1 (AA R y) (some c)
structure Yz (L:List Int)(C:CA)(s:Int)(W:CA)(R0 R:RA):Prop where
 nd:(R.map zG).Nodup
 rg:∀k∈R.map zG,k∈L
 sd:∀y c,AA R y=some c->Yk (λ x y=>AA C (x,y)) (Bz L) s y c
 mo:∀y,C1 (AA R y) (AA R0 y)
 dn:∀kv∈W,C1 (AA R kv.1.2) (AN (AA R0 kv.1.1) (some kv.2))
section
variable {L:List Int}{C W:CA}{s:Int}{t:Nat}{R0 R:RA}
def Wc (a:Co):C1 a none:=by cases a<;>exact trivial
def Wd {a:Co}(h:C1 none a):a=none:=by
 cases a with
 |none=>rfl
 |some p=>exact h.elim
def Wb.nil (hs:s∈L):Wb L C s 0 [(s,(0,0))]:=by
 refine⟨by simp,λ k hk=>by simp at hk;rw[hk];exact hs,λ y c h=>?_,λ n y c hn u=>?_⟩
 ·have h':(if s=y then some ((0:Int),(0:Int)) else AA ([]:RA) y)=some c:=h;by_cases e:s=y
  ·rw[if_pos e] at h';cases h';subst e;exact .nil
  ·rw[if_neg e] at h';cases h'
 ·cases u with
  |nil =>
   have:AA ([(s,((0:Int),(0:Int)))]:RA) s=some (0,0):=by show (if s=s then _ else _)=_;rw[if_pos rfl]
   rw[this];exact BF _
  |snoc _ _ _=>omega
def Wb.start (h:Wb L C s t R):Yz L C s [] R R:=⟨h.nd,h.rg,h.sd,λ y=>BF _,λ kv hk=>by cases hk⟩
def Yz.skip (h:Yz L C s W R0 R){x y:Int}{d:Int×Int}(hx:AA R x=none):Yz L C s (W++[((x,y),d)]) R0 R:=by
 refine⟨h.nd,h.rg,h.sd,h.mo,λ kv hk=>?_⟩;rcases zC.mp hk with hk|hk
 ·exact h.dn kv hk
 ·rw[zq.mp hk];have:=h.mo x;rw[hx] at this;dsimp only;rw[Wd this];exact Wc _
def Yz.put (h:Yz L C s W R0 R){x y:Int}{c0 d v:Int×Int}(hx:AA R x=some c0)(hr:Bz L x<Bz L y)(hC:AA C (x,y)=some d)(hy:y∈L)(hv:EU (AA R y) (some (c0.1+d.1,c0.2+d.2))=some v):
 Yz L C s (W++[((x,y),d)]) R0 (CL R y v):=by
 have vW:C1 (some v) (AA R y):=by rw[<-hv];exact HF _ _
 have vX:C1 (some v) (some (c0.1+d.1,c0.2+d.2)):=by rw[<-hv];exact HG _ _
 have mo:∀z,C1 (AA (CL R y v) z) (AA R z):=λ z=>by
  rw[Dt];by_cases e:z=y
  ·rw[if_pos e,e];exact vW
  ·rw[if_neg e];exact BF _
 refine⟨HJ h.nd,λ k hk=>?_,λ z c hz=>?_,λ z=>Ay (mo z) (h.mo z),λ kv hk=>?_⟩
 ·rcases JW hk with hk|hk
  ·exact h.rg k hk
  ·rw[hk];exact hy
 ·rw[Dt] at hz;by_cases e:z=y
  ·rw[if_pos e] at hz;cases hz;subst e;rcases Cs (AA R z) (some (c0.1+d.1,c0.2+d.2)) with ⟨q,_⟩|⟨q,_⟩
   ·rw[hv] at q;exact h.sd z v q.symm
   ·rw[hv] at q;cases q;exact .snoc (h.sd x c0 hx) hr hC
  ·rw[if_neg e] at hz;exact h.sd z c hz
 ·rcases zC.mp hk with hk|hk
  ·exact Ay (mo _) (h.dn kv hk)
  ·rw[zq.mp hk];dsimp only;rw[Dt,if_pos rfl];refine Ay vX ?_;have:=DC (some d) (h.mo x);rw[hx] at this;exact this
def Yz.next (h0:Wb L C s t R0)(h:Yz L C s (CD L C) R0 R):Wb L C s (t+1) R:=by
 refine⟨h.nd,h.rg,h.sd,λ n y c hn u=>?_⟩;cases u with
 |nil=>exact Ay (h.mo _) (h0.le 0 _ _ (zS _) .nil)
 | @snoc n x _ c d u hr hC =>
  have hm:((x,y),d)∈CD L C:=yg.mpr ⟨SU hC,by simpa using hr⟩;refine Ay (h.dn _ hm) ?_;exact DC (some d) (h0.le n x c (by omega) u)
def Rp {R':RA}(h:Wb L C s L.length R)(hc:NA L C s L.length R')(hC:∀p c,AA C p=some c->p.1∈L/\p.2∈L):(∀y,AA R' y=AA R y)/\R'.length=R.length:=by
 have up:=hc.vP (m:=0) hC;have key:∀y,AA R' y=AA R y:=λ y=>by
  have a:∀c,AA R y=some c->C1 (AA R' y) (some c):=λ c e=>up.le (h.sd y c e);have b:∀c,AA R' y=some c->C1 (AA R y) (some c):=λ c e=>by
   obtain⟨n,hn,u⟩:=(hc.sd y c e).vV;exact h.le n y c (zY hn (UJ L y)) u
  cases e1:AA R' y with
  |none =>
   cases e2:AA R y with
   |none=>rfl
   |some c=>have:=a c e2;rw[e1] at this;exact this.elim
  |some c =>
   cases e2:AA R y with
   |none=>have:=b c e1;rw[e2] at this;exact this.elim
   |some c' =>
    have p:=a c' e2;have q:=b c e1;rw[e1] at p;rw[e2] at q;exact JQ p q
 refine⟨key,?_⟩;have hm:∀y,y∈R'.map zG↔y∈R.map zG:=λ y=>by rw[<-Ew,<-Ew,key]
 have:=((List.perm_ext_iff_of_nodup hc.nd h.nd).mpr hm).length_eq;rwa[ze,ze] at this
def YA:∀ {L:List Int}{k:Int},k∈L->Rm k L=some (Bz L k)
 |[],_,h=>by cases h
 |x::r,k,h=>by
  show (if x=k then some 0 else (Rm k r).map (· + 1))=_;by_cases e:x=k
  ·rw[if_pos e];show some 0=some (Bz (x::r) k);unfold Bz;rw[if_pos e]
  ·rw[if_neg e];rcases zr.mp h with h|h
   ·exact absurd h.symm e
   ·have q:Bz (x::r) k=Bz r k+1:=by show (if x=k then 0 else Bz r k+1)=_;rw[if_neg e]
    rw[YA h,q];rfl
def Rq {L:List Int}{k:Int}(h:k∈L):eN (.lst (L.map D.int)) (.ok (.int k))=.ok (.int (Bz L k:Nat)):=by
 unfold eN;simp only[M.A7,CU,YA h]
noncomputable def Ta (L:List Int)(A:LA)(Z:CA×CA)(p:Int×Int):CA×CA:=if Bz L p.1<Bz L p.2 then (Z.1++[(p,(Al A p).getD (0,0))],Z.2) else (Z.1,Z.2++[((p.2,p.1),(Al A p).getD (0,0))])
def PN (A:LA):∀(K:List (Int×Int)) (Z:CA×CA),(∀p∈K,Bz L p.1≠Bz L p.2)->K.foldl (Ta L A) Z=(Z.1++CD L (BM A K),Z.2++CD L (EV (BM A K)))
 |[],Z,_=>by simp[CD,BM,EV]
 |p::K,Z,h=>by
  have hp:=h p zc;rw[zN,PN A K _ λ q hq=>h q (zf _ hq)];have e1:CD L (BM A (p::K))=(if Bz L p.1<Bz L p.2 then [(p,(Al A p).getD (0,0))] else [])++CD L (BM A K):=by
   unfold CD BM;rw[zg,List.filter_cons];by_cases c:Bz L p.1<Bz L p.2
   ·simp[c]
   ·simp[c]
  have e2:CD L (EV (BM A (p::K)))=(if Bz L p.1<Bz L p.2 then [] else [((p.2,p.1),(Al A p).getD (0,0))])++CD L (EV (BM A K)):=by
   unfold CD EV BM;rw[zg,zg,List.filter_cons];by_cases c:Bz L p.1<Bz L p.2
   ·have:¬ Bz L p.2<Bz L p.1:=by omega
    simp[c,this]
   ·have:Bz L p.2<Bz L p.1:=by omega
    simp[c,this]
  rw[e1,e2];unfold Ta;by_cases c:Bz L p.1<Bz L p.2
  ·rw[if_pos c,if_pos c,if_pos c];simp
  ·rw[if_neg c,if_neg c,if_neg c];simp
def eO (A:LA)(K:List (Int×Int))(h:∀p∈K,Bz L p.1≠Bz L p.2):(K.foldl (Ta L A) ([],[])).1.length<=K.length/\(K.foldl (Ta L A) ([],[])).2.length<=K.length:=by
 rw[PN A K _ h];constructor
 ·show ([]++CD L (BM A K)).length<=_;rw[List.nil_append];refine zY (yD _ _) ?_;unfold BM;rw[ze];omega
 ·show ([]++CD L (EV (BM A K))).length<=_;rw[List.nil_append];refine zY (yD _ _) ?_;unfold EV BM;rw[ze,ze];omega
end
noncomputable def Rr (Z:CA×CA):OT:=.lst [.lst ((Z.1.map Be).map .sh),.lst ((Z.2.map Be).map .sh)]
def kW (Z:CA×CA):er (Rr Z)=.lst [.lst (Z.1.map Be),.lst (Z.2.map Be)]:=by
 unfold Rr;rw[er,TY,zg,zg,List.map_nil,Gs,Gs]
def YB (R:RA):Rl [Fo R]=.ok (.int (R.length:Nat)):=by
 unfold Fo Rl;dsimp only;rw[ze]
def eQ {m:M Out}{nx:Aa->Prop}{rt:Out->Prop}{ex:Str->Prop}(h:WP m nx (λ _=>False) λ _=>False):WP (kU m) nx rt ex:=by
 cases m with
 |bad=>exact h
 |ex x=>exact h.elim
 |ok o =>
  cases o with
  |next ρ=>exact h
  |_=>exact h.elim
end L2
set_option maxHeartbeats 4000000
namespace c3
open PySem L2
noncomputable def top (i:Nat):Stmt:=PySem.Challenge.pw_nodeladder_k41_climbed.main.body.getD i (.Pass ⟨0,0,0,0⟩)
noncomputable abbrev D1:Stmt:=top 7
def K1:Ah ["thing","bound"] ["thing","bound"] (A3 D1):=⟨rfl,rfl,rfl,by decide +kernel,rfl,by decide +kernel,by decide +kernel⟩
noncomputable abbrev Fp:Stmt:=top 8
def NC:Ah ["thing"] ["thing"] (A3 Fp):=⟨rfl,rfl,rfl,by decide +kernel,rfl,by decide +kernel,by decide +kernel⟩
noncomputable abbrev Kv:Stmt:=top 9
def Tb:Ah ["thing","many"] ["thing","many"] (A3 Kv):=⟨rfl,rfl,rfl,by decide +kernel,rfl,by decide +kernel,by decide +kernel⟩
noncomputable abbrev MX:Stmt:=top 10
def Kw:Ah ["thing","many","roads"] ["thing"] (A3 MX):=⟨rfl,rfl,rfl,by decide +kernel,rfl,by decide +kernel,by decide +kernel⟩
noncomputable abbrev Kx:Stmt:=top 11
def Tc:Ah ["thing"] ["thing"] (A3 Kx):=⟨rfl,rfl,rfl,by decide +kernel,rfl,by decide +kernel,by decide +kernel⟩
noncomputable abbrev PP:Stmt:=top 12
def YC:Ah ["one","other"] ["one","other"] (A3 PP):=⟨rfl,rfl,rfl,by decide +kernel,rfl,by decide +kernel,by decide +kernel⟩
noncomputable abbrev PQ:Stmt:=top 13
def YD:Ah ["some"] ["some"] (A3 PQ):=⟨rfl,rfl,rfl,by decide +kernel,rfl,by decide +kernel,by decide +kernel⟩
noncomputable abbrev GA:Stmt:=top 14
def PR:Ah ["road"] ["road"] (A3 GA):=⟨rfl,rfl,rfl,by decide +kernel,rfl,by decide +kernel,by decide +kernel⟩
noncomputable abbrev Fq:Stmt:=top 16
def ND:Ah ["ladder"] ["ladder"] (A3 Fq):=⟨rfl,rfl,rfl,by decide +kernel,rfl,by decide +kernel,by decide +kernel⟩
noncomputable abbrev C6:Stmt:=top 17
def GB:Ah ["ladder"] ["ladder"] (A3 C6):=⟨rfl,rfl,rfl,by decide +kernel,rfl,by decide +kernel,by decide +kernel⟩
noncomputable abbrev Ky:Stmt:=top 18
def D2:Ah ["order","costs","place","reached","rank","lower","higher","cost"] ["order","costs","place"] (A3 Ky):=⟨rfl,rfl,rfl,by decide +kernel,rfl,by decide +kernel,by decide +kernel⟩
noncomputable abbrev Ea:Stmt:=top 19
def Li:Ah ["ladder","start"] ["ladder","start"] (A3 Ea):=⟨rfl,rfl,rfl,by decide +kernel,rfl,by decide +kernel,by decide +kernel⟩
noncomputable abbrev EJ:Stmt:=top 20
def MY:Ah ["ladder","goal"] ["ladder","goal"] (A3 EJ):=⟨rfl,rfl,rfl,by decide +kernel,rfl,by decide +kernel,by decide +kernel⟩
noncomputable abbrev EK:Stmt:=top 22
def MZ:Ah ["laid","pair"] ["laid","pair"] (A3 EK):=⟨rfl,rfl,rfl,by decide +kernel,rfl,by decide +kernel,by decide +kernel⟩
noncomputable abbrev YE:Stmt:=top 23
def kX:Ah ["laid","pair","cost","middle"] ["laid","pair","cost","middle"] (A3 YE):=⟨rfl,rfl,rfl,by decide +kernel,rfl,by decide +kernel,by decide +kernel⟩
noncomputable abbrev Iy:Stmt:=top 24
def Ex:Ah ["laid","place","higher","u","w","cost"] ["laid","place","higher"] (A3 Iy):=⟨rfl,rfl,rfl,by decide +kernel,rfl,by decide +kernel,by decide +kernel⟩
noncomputable abbrev GC:Stmt:=top 25
def CF:Ah ["net","order","laid","road","rank","place"] ["net","order"] (A3 GC):=⟨rfl,rfl,rfl,by decide +kernel,rfl,by decide +kernel,by decide +kernel⟩
noncomputable abbrev Iz:Stmt:=top 27
def Rt:Ah ["net","thing"] ["net","thing"] (A3 Iz):=⟨rfl,rfl,rfl,by decide +kernel,rfl,by decide +kernel,by decide +kernel⟩
noncomputable abbrev Di:Stmt:=top 28
def Kz:Ah ["net","thing"] ["net","thing"] (A3 Di):=⟨rfl,rfl,rfl,by decide +kernel,rfl,by decide +kernel,by decide +kernel⟩
noncomputable abbrev Fs:Stmt:=top 29
def EL:Ah ["net","bows","road"] ["net"] (A3 Fs):=⟨rfl,rfl,rfl,by decide +kernel,rfl,by decide +kernel,by decide +kernel⟩
noncomputable abbrev Eb:Stmt:=top 30
def BH:Ah ["bows","left","place","ahead","behind","missing","u"] ["bows","left","place"] (A3 Eb):=⟨rfl,rfl,rfl,by decide +kernel,rfl,by decide +kernel,by decide +kernel⟩
noncomputable abbrev IA:Stmt:=top 31
def Ru:Ah ["bows","left"] ["bows","left"] (A3 IA):=⟨rfl,rfl,rfl,by decide +kernel,rfl,by decide +kernel,by decide +kernel⟩
noncomputable abbrev N0:Stmt:=top 32
def DH:Ah ["net","bows","left","order","place","bow"] ["net"] (A3 N0):=⟨rfl,rfl,rfl,by decide +kernel,rfl,by decide +kernel,by decide +kernel⟩
noncomputable abbrev Ft:Stmt:=top 34
def Bs:Ah ["net","start","costs","changed","road","cost"] ["net","start"] (A3 Ft):=⟨rfl,rfl,rfl,by decide +kernel,rfl,by decide +kernel,by decide +kernel⟩
noncomputable abbrev CG:Stmt:=top 36
def IB:Ah ["net","order"] ["net","order"] (A3 CG):=⟨rfl,rfl,rfl,by decide +kernel,rfl,by decide +kernel,by decide +kernel⟩
noncomputable abbrev GD:Stmt:=top 37
def Du:Ah ["net","laid","kept","u","costs"] ["net","laid"] (A3 GD):=⟨rfl,rfl,rfl,by decide +kernel,rfl,by decide +kernel,by decide +kernel⟩
noncomputable abbrev Ap:Stmt:=inClass (top 38) 0
def IC:Ah ["self","net","order"] ["self","net","order"] (A3 Ap):=⟨rfl,rfl,rfl,by decide +kernel,rfl,by decide +kernel,by decide +kernel⟩
noncomputable abbrev Ec:Stmt:=inClass (top 38) 2
def Lj:Ah ["self"] ["self"] (A3 Ec):=⟨rfl,rfl,rfl,by decide +kernel,rfl,by decide +kernel,by decide +kernel⟩
noncomputable abbrev BV:Stmt:=inClass (top 38) 4
def CQ:Ah ["self","u","w","many"] ["self","u","w"] (A3 BV):=⟨rfl,rfl,rfl,by decide +kernel,rfl,by decide +kernel,by decide +kernel⟩
noncomputable abbrev EM:Stmt:=inClass (top 38) 5
def N1:Ah ["self","u","w"] ["self","u","w"] (A3 EM):=⟨rfl,rfl,rfl,by decide +kernel,rfl,by decide +kernel,by decide +kernel⟩
noncomputable abbrev EN:Stmt:=inClass (top 38) 8
def N2:Ah ["self"] ["self"] (A3 EN):=⟨rfl,rfl,rfl,by decide +kernel,rfl,by decide +kernel,by decide +kernel⟩
noncomputable abbrev EO:Stmt:=top 40
def N3:Ah ["_law_script","_law_k"] ["_law_script","_law_k"] (A3 EO):=⟨rfl,rfl,rfl,by decide +kernel,rfl,by decide +kernel,by decide +kernel⟩
noncomputable abbrev GF:Stmt:=top 41
def Fu:Ah ["_law_cell","_law_k","_law_number"] ["_law_cell","_law_k"] (A3 GF):=⟨rfl,rfl,rfl,by decide +kernel,rfl,by decide +kernel,by decide +kernel⟩
noncomputable abbrev ID:Stmt:=top 42
def Ct:Ah ["_law_cell","_law_many","_law_k","_law_x","_law_one","_law_other","_law_length"] ["_law_cell","_law_many","_law_k"] (A3 ID):=⟨rfl,rfl,rfl,by decide +kernel,rfl,by decide +kernel,by decide +kernel⟩
noncomputable abbrev KA:Stmt:=top 43
def D3:Ah ["_law_script","_law_places","_law_most","_law_cells","_law_x","_law_many","_law_roads"] ["_law_script","_law_places","_law_most"] (A3 KA):=⟨rfl,rfl,rfl,by decide +kernel,rfl,by decide +kernel,by decide +kernel⟩
noncomputable abbrev GG:Stmt:=top 44
def Fv:Ah ["_law_cell","_law_many","_law_k","_law_order_here","_law_place"] ["_law_cell","_law_many","_law_k"] (A3 GG):=⟨rfl,rfl,rfl,by decide +kernel,rfl,by decide +kernel,by decide +kernel⟩
noncomputable abbrev IE:Stmt:=top 45
def Rv:Ah ["_law_one","_law_other"] ["_law_one","_law_other"] (A3 IE):=⟨rfl,rfl,rfl,by decide +kernel,rfl,by decide +kernel,by decide +kernel⟩
noncomputable abbrev GH:Stmt:=top 46
def PV:Ah ["_law_one","_law_other"] ["_law_one","_law_other"] (A3 GH):=⟨rfl,rfl,rfl,by decide +kernel,rfl,by decide +kernel,by decide +kernel⟩
noncomputable abbrev IF:Stmt:=top 47
def KY:Ah ["_law_found","_law_due","_law_part"] ["_law_found","_law_due"] (A3 IF):=⟨rfl,rfl,rfl,by decide +kernel,rfl,by decide +kernel,by decide +kernel⟩
noncomputable abbrev IG:Stmt:=top 48
def Rw:Ah ["_law_net"] ["_law_net"] (A3 IG):=⟨rfl,rfl,rfl,by decide +kernel,rfl,by decide +kernel,by decide +kernel⟩
noncomputable abbrev GI:Stmt:=top 49
def Dv:Ah ["_law_ladder","_law_order_here","_law_steps_here","_law_u","_law_w"] ["_law_ladder","_law_order_here"] (A3 GI):=⟨rfl,rfl,rfl,by decide +kernel,rfl,by decide +kernel,by decide +kernel⟩
noncomputable abbrev IH:Stmt:=top 50
def Cu:Ah ["_law_steps_here","_law_place","_law_many","_law_found","_law_turn","_law_low","_law_high","_law_cost_here"] ["_law_steps_here","_law_place","_law_many"] (A3 IH):=⟨rfl,rfl,rfl,by decide +kernel,rfl,by decide +kernel,by decide +kernel⟩
noncomputable abbrev II:Stmt:=top 51
def KZ:Ah ["_law_found","_law_due","_law_place"] ["_law_found","_law_due"] (A3 II):=⟨rfl,rfl,rfl,by decide +kernel,rfl,by decide +kernel,by decide +kernel⟩
noncomputable abbrev FT:Stmt:=top 52
def Fw:Ah ["_law_script","_law_net","_law_order_here","_law_ladder","_law_steps_here","_law_place","_law_ups","_law_downs","_law_due"] ["_law_script"] (A3 FT):=⟨rfl,rfl,rfl,by decide +kernel,rfl,by decide +kernel,by decide +kernel⟩
structure Txt (K:za)(mg:Str->Option Value):Prop where
 KC:AK K mg "is_whole_below" D1 ["thing","bound"]
 PX:AK K mg "is_measure" Fp ["thing"]
 We:AK K mg "is_road" Kv ["thing","many"]
 YF:AK K mg "is_map" MX ["thing"]
 Wf:AK K mg "checked" Kx ["thing"]
 eR:AK K mg "added" PP ["one","other"]
 eS:AK K mg "least" PQ ["some"]
 Rx:AK K mg "road_cost" GA ["road"]
 PY:AK K mg "kept_costs" Fq ["ladder"]
 HR:AK K mg "kept_costs_turned" C6 ["ladder"]
 Wg:AK K mg "climbed" Ky ["order","costs","place"]
 N4:AK K mg "climbed_from" Ea ["ladder","start"]
 NE:AK K mg "climbing_to" EJ ["ladder","goal"]
 NF:AK K mg "cost_so_far" EK ["laid","pair"]
 pI:AK K mg "lay" YE ["laid","pair","cost","middle"]
 Td:AK K mg "lay_over" Iy ["laid","place","higher"]
 Ry:AK K mg "laid_arcs" GC ["net","order"]
 Te:AK K mg "is_order" Iz ["net","thing"]
 Lk:AK K mg "checked_order" Di ["net","thing"]
 PZ:AK K mg "first_bows" Fs ["net"]
 N5:AK K mg "missing_bows" Eb ["bows","left","place"]
 Tf:AK K mg "lightest" IA ["bows","left"]
 YG:AK K mg "ranked" N0 ["net"]
 Q0:AK K mg "costs_from" Ft ["net","start"]
 K2:AK K mg "order_or_ranked" CG ["net","order"]
 RB:AK K mg "kept_arcs" GD ["net","laid"]
 K3:SM K mg "Ladder" "Ladder.__init__" Ap ["self","net","order"]
 N6:Ol K "Ladder" "order" "Ladder.order" Ec ["self"]
 GJ:Ol K "Ladder" "checked_arc" "Ladder.checked_arc" BV ["self","u","w"]
 NG:Ol K "Ladder" "cost" "Ladder.cost" EM ["self","u","w"]
 NH:Ol K "Ladder" "kept" "Ladder.kept" EN ["self"]
 NI:AK K mg "_law_cell_at" EO ["_law_script","_law_k"]
 RC:AK K mg "_law_mixed" GF ["_law_cell","_law_k"]
 Tg:AK K mg "_law_road" ID ["_law_cell","_law_many","_law_k"]
 Wh:AK K mg "_law_map" KA ["_law_script","_law_places","_law_most"]
 RD:AK K mg "_law_order" GG ["_law_cell","_law_many","_law_k"]
 Th:AK K mg "_law_plus" IE ["_law_one","_law_other"]
 RE:AK K mg "_law_least" GH ["_law_one","_law_other"]
 Ti:AK K mg "_law_cost" IF ["_law_found","_law_due"]
 Tj:AK K mg "_law_copy" IG ["_law_net"]
 RF:AK K mg "_law_steps" GI ["_law_ladder","_law_order_here"]
 Tn:AK K mg "_law_over" IH ["_law_steps_here","_law_place","_law_many"]
 To:AK K mg "_law_same" II ["_law_found","_law_due"]
 uC:AK K mg "law" FT ["_law_script"]
 fT:mg "all" = none
 YH:mg "bool" = none
 Tp:mg "dict" = none
 GL:mg "enumerate" = none
 fU:mg "int" = none
 B3:mg "isinstance" = none
 GN:mg "len" = none
 Fx:mg "list" = none
 YI:mg "min" = none
 Fy:mg "range" = none
 YJ:mg "sorted" = none
 LV:mg "tuple" = none
 eT:ClsAt K mg "NoArc"
 eU:ClsAt K mg "NoMap"
 Wi:ClsAt K mg "NoOrder"
 Ed:HX K "Ladder" "kept_ones"
 D9:HX K "Ladder" "laid"
 By:HX K "Ladder" "own_map"
 Cm:HX K "Ladder" "own_order"
local macro_rules | `(tactic| simp_arith [$xs,*])=>`(tactic| simp only [oP,oQ,LP,List.set_cons_zero,List.set_cons_succ,M.A7,Hn,Hm,Jc,Jx,Jy,Jz,LF,Iq,Gs,Oj,Jo,Jp,Hq,Ub,LB,LC,Jq,cH,Hr,Hs,Fl,Pm,CW,Pn,Jr,Js,Ht,Ue,Jn,F1,toCl_list,toCl_listP,toCl_dct,LG,JA,JB,JC,JD,LH,JE,JF,JG,lI,lH,Jt,Ug,Ju,Uh,Jv,Jw,LD,Ui,qD,qE,cK,cL,cM,cN,cO,cP,toCl_nil,J8,Mz,O5,Po,Hu,LI,LJ,JH,JI,LK,LL,LM,LN,LO,JJ,JK,JL,JM,Hv,Hw,Hx,Hy,Hz,JN,HA,HB,Uj,Uk,Ul,Um,Uo,HC,ite_tt,ite_ff,Bool.not_true,Bool.not_false,List.getElem?_cons_zero,List.getElem?_cons_succ,F5,JT,JU,cJ,dO,cI,dR,dS,dU,LS,PB,PD,PF,DF,HK,LU,Pt,eC,UN,PM,$xs,*])
variable {P:Program}{w:World}{K:za}{mg:Str->Option Value}{base:Heap}
def CH:∃F:List D->M OT,(∀ {P w K mg base},Txt K mg->BO P w K mg base "is_whole_below" 1 2 F)/\(∀(d:D) (n:Int),U0 d=false->F [d,.int n]=.ok (.sh (.bl (K6 d n)))):=by
 refine⟨_,λ T=>AF (k:=0) T.KC K1 _ (λ f B4 A outer s H E hr=>(A5 (Aj (AL (Sq (ED (QC _) rfl T.B3 rfl T.fU (by decide +kernel) (A1 0 (pv 0))) (Sq (jA (ED (O7 _) rfl T.B3 rfl T.YH (by decide +kernel) (A1 0 (pv 0)))) (So (Vf mM eY A6 (A1 0 (pv 0)) (A1 1 (pv 1)))))))))),?_⟩;intro d n hx;have e0:AE ["thing","bound"] [d,.int n]=[some (.val d),some (.val (.int n))]:=rfl;rw[e0];refine Bl ?_;simp_arith[QB hx];cases d with
 |int j =>
  simp_arith[];unfold K6;by_cases h1:0<=j<;>by_cases h2:j<n<;>simp[h1,h2,F4,F5]<;>rfl
 |Dp x=>cases hx
 |ins x n d=>cases hx
 |_=>rfl
noncomputable def FU:List D->M OT:=zh CH
def AV:Txt K mg->BO P w K mg base "is_whole_below" 1 2 FU:=(zb CH).1
def AI:∀(d:D) (n:Int),U0 d=false->FU [d,.int n]=.ok (.sh (.bl (K6 d n))):=(zb CH).2
def EQ:∃F:List D->M OT,(∀ {P w K mg base},Txt K mg->BO P w K mg base "is_measure" 2 1 F)/\(∀d:D,U0 d=false->F [d]=.ok (.sh (.bl (K6 d Lh)))):=by
 refine⟨_,λ T=>AF (k:=1) T.PX NC _ (λ f B4 A outer s H E hr=>(A5 (Aj (Ac A9.toXCall (AV T) (hr.mono (by decide)) rfl (A2 (A1 0 (pv 0)) (A2 (Xc A6 A6) A8)) rfl)))),?_⟩;intro d hx;have e0:AE ["thing"] [d]=[some (.val d)]:=rfl;rw[e0];have h1:=AI d Lh hx;refine Bl ?_;simp_arith[fO,h1];rfl
noncomputable def L0:List D->M OT:=zh EQ
def HY:Txt K mg->BO P w K mg base "is_measure" 2 1 L0:=(zb EQ).1
def HZ:∀d:D,U0 d=false->L0 [d]=.ok (.sh (.bl (K6 d Lh))):=(zb EQ).2
def IJ:∃F:List D->M OT,(∀ {P w K mg base},Txt K mg->BO P w K mg base "is_road" 3 2 F)/\(∀(d:D) (m:Int),cl 1 d->F [d,.int m]=.ok (.sh (.bl (EI m d)))):=by
 refine⟨_,λ T=>AF (k:=2) T.We Tb _ (λ f B4 A outer s H E hr=>(A4 (B5 (DW.dt (CN (Bv (Bj (c:=true) (ED (Ij _) rfl T.B3 rfl T.LV (by decide +kernel) (A1 0 (pv 0))))) (BS (J3 (c:=true) (B0 hr 16 (by decide)) (Fh rfl T.GN (A1 0 (pv 0))) A6)))) (A5 (Aj (AL C9))) Av) (A4 (B5 (DW.dt (CN (Bv (Bj (c:=true) (An (Ac A9.toXCall (AV T) (hr.mono (by decide)) rfl (A2 (Ad (B0 hr 16 (by decide)) (A1 0 (pv 0)) A6) (A2 (A1 1 (pv 1)) A8)) rfl)))) (BS (Bv (Bj (c:=true) (An (Ac A9.toXCall (AV T) (hr.mono (by decide)) rfl (A2 (Ad (B0 hr 16 (by decide)) (A1 0 (pv 0)) A6) (A2 (A1 1 (pv 1)) A8)) rfl))))))) (A5 (Aj (AL C9))) Av) (A4 (B5 (QA (c:=true) (B0 hr 16 (by decide)) (Ad (B0 hr 16 (by decide)) (A1 0 (pv 0)) A6) (Ad (B0 hr 16 (by decide)) (A1 0 (pv 0)) A6)) (A5 (Aj (AL C9))) Av) (A5 (Aj (AL (Sq (nT (Xe (Ad (B0 hr 16 (by decide)) (A1 0 (pv 0)) A6)) (So (An (Ac A9.toXCall (HY T) (hr.mono (by decide)) rfl (A2 (Ad (B0 hr 16 (by decide)) (A1 0 (pv 0)) A6) A8) rfl)))) (So (An (Ac A9.toXCall (HY T) (hr.mono (by decide)) rfl (A2 (Ad (B0 hr 16 (by decide)) (A1 0 (pv 0)) A6) A8) rfl))))))))))),?_⟩;intro d m hc;have e0:AE ["thing","many"] [d,.int m]=[some (.val d),some (.val (.int m))]:=rfl;rw[e0];have hx:=hc.x;refine Bl ?_;cases d with
 |tup ds =>
  have cj:∀e∈ds,U0 e=false:=λ e he=>(hc.2 ds (.inl rfl) e he).x;rcases ds with _|⟨a,_|⟨b,_|⟨l,_|⟨w,_|⟨z,r⟩⟩⟩⟩⟩
  ·rfl
  ·rfl
  ·rfl
  ·rfl
  ·have i0:Bd (.tup [a,b,l,w]) (.int 0)=.ok a:=rfl;have i1:Bd (.tup [a,b,l,w]) (.int 1)=.ok b:=rfl;have i2:Bd (.tup [a,b,l,w]) (.int 2)=.ok l:=rfl;have i3:Bd (.tup [a,b,l,w]) (.int 3)=.ok w:=rfl;have ha:=AI a m (cj a (by simp));have hb:=AI b m (cj b (by simp));have hl:=HZ l (cj l (by simp));have hw:=HZ w (cj w (by simp));apply wp_step
   ·rfl
   unfold EI;dsimp only;cases qa:K6 a m with
   |false=>simp_arith[i0,ha,qa,F4];rfl
   |true =>
    cases qb:K6 b m with
    |false=>simp_arith[i0,i1,ha,hb,qa,qb,F4];rfl
    |true =>
     apply wp_step
     ·simp_arith[i0,i1,ha,hb,qa,qb,F4];rfl
     cases a with
     |int x =>
      cases b with
      |int y =>
       have he:As (.int x) (.int y)=decide (x=y):=by rw[As];by_cases h:x=y<;>simp[h]
       rw[he];by_cases cu:x=y
       ·simp_arith[i0,i1,decide_eq_true cu];rfl
       ·apply wp_step
        ·simp_arith[i0,i1,decide_eq_false cu];rfl
        rw[decide_eq_false cu];simp_arith[i2,i3,hl,hw];cases BE l<;>cases K6 l Lh<;>cases K6 w Lh<;>rfl
      |_=>cases qb
     |_=>cases qa
  ·have ae:¬ (((a::b::l::w::z::r).length:Nat):Int)=4:=by simp only[zp];omega
   simp_arith[decide_eq_false ae];rfl
 |Dp x=>cases hx
 |ins x n d=>cases hx
 |_=>rfl
noncomputable def RG:List D->M OT:=zh IJ
def Tq:Txt K mg->BO P w K mg base "is_road" 3 2 RG:=(zb IJ).1
def Ts:∀(d:D) (m:Int),cl 1 d->RG [d,.int m]=.ok (.sh (.bl (EI m d))):=(zb IJ).2
def KD:∃F:List D->M OT,(∀ {P w K mg base},Txt K mg->BO P w K mg base "is_map" 4 1 F)/\(∀d:D,cl 3 d->F [d]=.ok (.sh (.bl (Dq d)))):=by
 refine⟨_,λ T=>AF (k:=3) T.YF Kw _ (λ f B4 A outer s H E hr=>(A4 (B5 (DW.dt (CN (Bv (Bj (c:=true) (ED (Ij _) rfl T.B3 rfl T.LV (by decide +kernel) (A1 0 (pv 0))))) (BS (J3 (c:=true) (B0 hr 16 (by decide)) (Fh rfl T.GN (A1 0 (pv 0))) A6)))) (A5 (Aj (AL C9))) Av) (A4 (B1 1 Kw.nd rfl (Or.inr rfl) (Ad (B0 hr 16 (by decide)) (A1 0 (pv 0)) A6)) (A4 (B1 2 Kw.nd rfl (zV rfl) (Ad (B0 hr 16 (by decide)) (A1 0 (pv 0)) A6)) (A4 (B5 (DW.dt (CN (Bv (Bj (c:=true) (An (Ac A9.toXCall (AV T) (hr.mono (by decide)) rfl (A2 (A1 1 (pv 1)) (A2 A6 A8)) rfl)))) (BS (QA (c:=true) (B0 hr 16 (by decide)) (A1 1 (pv 1)) A6)))) (A5 (Aj (AL C9))) Av) (A4 (B5 (DW.dt (CN (Bv (Bj (c:=true) (ED (O6 _) rfl T.B3 rfl T.Fx (by decide +kernel) (A1 2 (pv 2))))) (BS (nS (c:=true) (Fh rfl T.GN (A1 2 (pv 2))) A6)))) (A5 (Aj (AL C9))) Av) (A5 (Aj (AL (Xw rfl rfl T.fT (An (Ds (NB:=["road","many"]) [none,some 1] rfl (B6 (A1 2 (pv 2))) rfl rfl (CB 0 (by decide) rfl rfl rfl) (λ _ _ _ _=>Fi) (λ _ _ _ _=>(An (BK (Ac (Bo rfl).toXCall (Tq T) (hr.mono (by decide)) rfl (A2 (A1 0 (pv 0)) (A2 (A1 1 (pv 1)) A8)) rfl)))))))))))))))),?_⟩;intro d hc;have e0:AE ["thing","many","roads"] [d]=[some (.val d),none,none]:=rfl;rw[e0];have hx:=hc.x;refine Bl ?_;cases d with
 |tup ds =>
  have cj:∀e∈ds,cl 2 e:=λ e he=>hc.2 ds (.inl rfl) e he;rcases ds with _|⟨n,_|⟨r,_|⟨z,t⟩⟩⟩
  ·rfl
  ·rw[W2];rfl
  ·have i0:Bd (.tup [n,r]) (.int 0)=.ok n:=rfl;have i1:Bd (.tup [n,r]) (.int 1)=.ok r:=rfl;have hn:=AI n 17 (cj n (by simp)).x;have hr:=cj r (by simp);have ib:=hr.x;apply wp_step
   ·rfl
   apply wp_step
   ·simp_arith[i0];rfl
   apply wp_step
   ·simp_arith[i1];rfl
   cases qn:K6 n 17 with
   |false =>
    have e1:Dq (.tup [n,r])=false:=by
     cases n with
     |int m=>cases r with
      |lst rs=>unfold Dq;dsimp only;rw[qn];rfl
      |_=>rfl
     |_=>rfl
    rw[e1];simp_arith[hn,qn,F4];rfl
   |true =>
    cases n with
    |int m =>
     by_cases hm:m=0
     ·have e1:Dq (.tup [.int m,r])=false:=by
       cases r with
       |lst rs=>unfold Dq;dsimp only;rw[decide_eq_true hm];simp
       |_=>rfl
      rw[e1];simp_arith[hn,qn,F4,decide_eq_true hm];rfl
     ·apply wp_step
      ·simp_arith[hn,qn,F4,decide_eq_false hm];rfl
      cases r with
      |lst rs =>
       by_cases hl:rs.length<=60
       ·have bF:¬ (60:Int)<(rs.length:Int):=by omega
        have aM:rs.length<=1000:=by omega
        apply wp_step
        ·simp_arith[decide_eq_false bF];rfl
        simp_arith[if_pos aM];rw[Oa (λ d=>.bl (EI m d)) rs]
        ·have e2:(rs.map λ d=>D.bl (EI m d))=(rs.map (EI m)).map D.bl:=by rw[yj];rfl
         rw[e2];unfold Dq;dsimp only;rw[qn,decide_eq_true hl,decide_eq_false hm];simp_arith[Bool.true_and];rfl
        ·intro d hd;have:=Ts d m (hr.2 rs (.inr rfl) d hd);exact⟨_,rfl,rfl,by simp_arith[this]⟩
       ·have bF:(60:Int)<(rs.length:Int):=by omega
        unfold Dq;dsimp only;rw[decide_eq_false hl];simp_arith[decide_eq_true bF,Bool.false_and,Bool.and_false];rfl
      |Dp x=>cases ib
      |ins x n d=>cases ib
      |_=>rfl
    |_=>cases qn
  ·have ae:¬ (((n::r::z::t).length:Nat):Int)=2:=by simp only[zp];omega
   rw[SS];simp_arith[decide_eq_false ae];rfl
 |Dp x=>cases hx
 |ins x n d=>cases hx
 |_=>rfl
noncomputable def UQ:List D->M OT:=zh KD
def Wj:Txt K mg->BO P w K mg base "is_map" 4 1 UQ:=(zb KD).1
def OD:∀d:D,cl 3 d->UQ [d]=.ok (.sh (.bl (Dq d))):=(zb KD).2
def IK:∃F:List D->M OT,(∀ {P w K mg base},Txt K mg->BO P w K mg base "checked" 5 1 F)/\((∀(m:Nat) (rs:List Road),Dq (Am m rs)=true->rs.length<=60->F [Am m rs]=.ok (.tup [.sh (.int m),.lst ((rs.map DD).map .sh)]))/\(∀d:D,cl 3 d->Dq d=false->F [d]=.ex "NoMap")):=by
 refine⟨_,λ T=>AF (k:=4) T.Wf Tc _ (λ f B4 A outer s H E hr=>(A4 (B5 (Bv (Bj (c:=true) (An (Ac A9.toXCall (Wj T) (hr.mono (by decide)) rfl (A2 (A1 0 (pv 0)) A8) rfl)))) (A5 (Kf (c:=true) T.eU A9 rfl rfl Sn)) Av) (A5 (Aj (SD (Dd (AL (Ad (B0 hr 16 (by decide)) (A1 0 (pv 0)) A6)) (Dd (Ds (NB:=["road"]) [none] rfl (B6 (Ad (B0 hr 16 (by decide)) (A1 0 (pv 0)) A6)) rfl rfl (CB 0 (by decide) rfl rfl rfl) (λ _ _ _ _=>Fi) (λ _ _ _ _=>(Xh rfl T.LV (A1 0 (pv 0))))) CC))))))),?_⟩;refine⟨λ m rs hm hl=>?_,λ d hc ho=>?_⟩
 ·have e0:AE ["thing"] [Am m rs]=[some (.val (Am m rs))]:=rfl;rw[e0];have h1:=OD (Am m rs) (Yg (HI MT (HI (kB kE) Yh)));rw[hm] at h1;have n0:Bd (Am m rs) (.int 0)=.ok (.int m):=rfl;have n1:Bd (Am m rs) (.int 1)=.ok (.lst (rs.map DD)):=rfl;have aM:(rs.map DD).length<=1000:=by rw[ze];omega
  refine Bl ?_;apply wp_step
  ·simp_arith[h1,F4];rfl
  simp_arith[n0,n1,if_pos aM];rw[E6 DD (λ r hr=>⟨_,rfl,rfl,rfl⟩)];simp_arith[];exact⟨_,rfl,rfl⟩
 ·have e0:AE ["thing"] [d]=[some (.val d)]:=rfl;rw[e0];have h1:=OD d hc;rw[ho] at h1;simp_arith[h1,F4];rfl
noncomputable def N7:List D->M OT:=zh IK
def Tt:Txt K mg->BO P w K mg base "checked" 5 1 N7:=(zb IK).1
def Tu:(∀(m:Nat) (rs:List Road),Dq (Am m rs)=true->rs.length<=60->N7 [Am m rs]=.ok (.tup [.sh (.int m),.lst ((rs.map DD).map .sh)]))/\(∀d:D,cl 3 d->Dq d=false->N7 [d]=.ex "NoMap"):=(zb IK).2
def N8:∃F:List D->M OT,(∀ {P w K mg base},Txt K mg->BO P w K mg base "added" 1 2 F)/\(∀a b:Co,F [cst a,cst b]=.ok (.sh (cst (AN a b)))):=by
 refine⟨_,λ T=>AF (k:=0) T.eR YC _ (λ f B4 A outer s H E hr=>(A4 (B5 (DW.dt (CN (Gg (c:=true) (A1 0 (pv 0))) (BS (Gg (c:=true) (A1 1 (pv 1)))))) (A5 (Aj (AL Gd))) Av) (A5 (Aj (AL (AJ (A2 (BR (Ad (B0 hr 16 (by decide)) (A1 0 (pv 0)) A6) (Ad (B0 hr 16 (by decide)) (A1 1 (pv 1)) A6)) (A2 (BR (Ad (B0 hr 16 (by decide)) (A1 0 (pv 0)) A6) (Ad (B0 hr 16 (by decide)) (A1 1 (pv 1)) A6)) A8)))))))),?_⟩;intro a b;rcases a with _|⟨a1,a2⟩<;>rcases b with _|⟨b1,b2⟩<;>rfl
noncomputable def YK:List D->M OT:=zh N8
def N9:Txt K mg->BO P w K mg base "added" 1 2 YK:=(zb N8).1
def Na:∀a b:Co,YK [cst a,cst b]=.ok (.sh (cst (AN a b))):=(zb N8).2
def Nb:∃F:List D->M OT,(∀ {P w K mg base},Txt K mg->BO P w K mg base "least" 1 1 F)/\(∀cs:List Co,cs.length<=1000->F [.lst (cs.map cst)]=.ok (.sh (cst (MK cs)))):=by
 refine⟨_,λ T=>AF (k:=0) T.eS YD _ (λ f B4 A outer s H E hr=>(A5 (Aj (AL (ZD rfl (B0 hr 1 (by decide)) rfl T.YI (An (Ds (NB:=["cost"]) [none] rfl (B6 (A1 0 (pv 0))) rfl rfl (CB 0 (by decide) rfl rfl rfl) (λ _ _ _ _=>J7 (Lr (c:=true) (A1 0 (pv 0)))) (λ _ _ _ _=>(A1 0 (pv 0))))) Gd))))),?_⟩;intro cs hc;have e0:∀x:D,AE ["some"] [x]=[some (.val x)]:=λ x=>rfl;rw[e0];refine Bl ?_;have hl:(cs.map cst).length<=1000:=by rw[ze];exact hc
 have ui:=Y7 cs;have vY:=dD cs;simp_arith[if_pos hl];rw[KS];simp_arith[vY];rfl
noncomputable def Q1:List D->M OT:=zh Nb
def RH:Txt K mg->BO P w K mg base "least" 1 1 Q1:=(zb Nb).1
def RI:∀cs:List Co,cs.length<=1000->Q1 [.lst (cs.map cst)]=.ok (.sh (cst (MK cs))):=(zb Nb).2
def FA:∃F:List D->M OT,(∀ {P w K mg base},Txt K mg->BO P w K mg base "road_cost" 1 1 F)/\(∀r:Road,F [DD r]=.ok (.sh (cst (De r)))):=by
 refine⟨_,λ T=>AF (k:=0) T.Rx PR _ (λ f B4 A outer s H E hr=>(A4 (B5 (Gg (c:=true) (Ad (B0 hr 16 (by decide)) (A1 0 (pv 0)) A6)) (A5 (Aj (AL Gd))) Av) (A5 (Aj (AL (AJ (A2 (Ad (B0 hr 16 (by decide)) (A1 0 (pv 0)) A6) (A2 A6 A8)))))))),?_⟩;intro r;obtain⟨a,b,l,w⟩:=r;cases l<;>rfl
noncomputable def Nc:List D->M OT:=zh FA
def FC:Txt K mg->BO P w K mg base "road_cost" 1 1 Nc:=(zb FA).1
def FD:∀r:Road,Nc [DD r]=.ok (.sh (cst (De r))):=(zb FA).2
def BN:∃F:List D->M OT,(∀ {P w K mg base},Txt K mg->Ir P w K mg base "Ladder" "checked_arc" 2 3 F)/\(∀(m:Nat) (rs:List Road) (L:List Int) (A:LA) (K:List (Int×Int)) (u w:Int),0<=u->u<m->0<=w->w<m->(AA A (u,w)).isSome=true->F [AO m rs L A K,.int u,.int w]=.ok (.sh (pD (u,w)))):=by
 refine⟨_,λ T=>LQ (k:=1) T.GJ CQ _ (λ f B4 A outer s H E hr=>(A4 (B1 3 CQ.nd rfl (zV rfl) (Ad (B0 hr 16 (by decide)) (EG ["Ladder"] (Bq T.By BQ) (A1 0 (pv 0))) A6)) (A4 (B5 (DW.dt (CN (Bv (Bj (c:=true) (An (Ac A9.toXCall (AV T) (hr.mono (by decide)) rfl (A2 (A1 1 (pv 1)) (A2 (A1 3 (pv 3)) A8)) rfl)))) (CN (Bv (Bj (c:=true) (An (Ac A9.toXCall (AV T) (hr.mono (by decide)) rfl (A2 (A1 2 (pv 2)) (A2 (A1 3 (pv 3)) A8)) rfl)))) (BS (Ji (c:=true) (B0 hr 16 (by decide)) (AJ (A2 (A1 1 (pv 1)) (A2 (A1 2 (pv 2)) A8))) (EG ["Ladder"] (Bq T.D9 BQ) (A1 0 (pv 0)))))))) (A5 (Kf (c:=true) T.eT A9 rfl rfl Sn)) Av) (A5 (Aj (AL (AJ (A2 (A1 1 (pv 1)) (A2 (A1 2 (pv 2)) A8))))))))),?_⟩;intro m rs L A K u w u0 u1 w0 w1 hf;have e0:AE ["self","u","w","many"] [AO m rs L A K,.int u,.int w]=[some (.val (AO m rs L A K)),some (.val (.int u)),some (.val (.int w)),none]:=rfl;rw[e0];refine Bl ?_;have f1:Nz ["Ladder"] "own_map" (AO m rs L A K)=.ok (Am m rs):=rfl;have f2:Nz ["Ladder"] "laid" (AO m rs L A K)=.ok (KU A):=rfl;have n0:Bd (Am m rs) (.int 0)=.ok (.int m):=rfl;have h1:=AI (.int u) m rfl;have h2:=AI (.int w) m rfl;have g1:K6 (.int u) m=true:=by simp[K6,u0,u1]
 have g2:K6 (.int w) m=true:=by simp[K6,w0,w1]
 rw[g1] at h1;rw[g2] at h2;have hp:D.tup [.int u,.int w]=pD (u,w):=rfl;have hm:=PH A (u,w) true;rw[hf] at hm;apply wp_step
 ·simp_arith[f1,n0];rfl
 apply wp_step
 ·simp_arith[h1,h2,f2,hp,hm,F4];rfl
 rfl
noncomputable def B9:List D->M OT:=zh BN
def G2:Txt K mg->Ir P w K mg base "Ladder" "checked_arc" 2 3 B9:=(zb BN).1
def G3:∀(m:Nat) (rs:List Road) (L:List Int) (A:LA) (K:List (Int×Int)) (u w:Int),0<=u->u<m->0<=w->w<m->(AA A (u,w)).isSome=true->B9 [AO m rs L A K,.int u,.int w]=.ok (.sh (pD (u,w))):=(zb BN).2
def Ee:∃F:List D->M OT,(∀ {P w K mg base},Txt K mg->Ir P w K mg base "Ladder" "cost" 3 3 F)/\(∀(m:Nat) (rs:List Road) (L:List Int) (A:LA) (K:List (Int×Int)) (u w:Int) (c:Int×Int),F8 m A->Al A (u,w)=some c->F [AO m rs L A K,.int u,.int w]=.ok (.sh (cst (some c)))):=by
 refine⟨_,λ T=>LQ (k:=2) T.NG N1 _ (λ f B4 A outer s H E hr=>(A5 (Aj (AL (Ad (B0 hr 16 (by decide)) (Ad (B0 hr 16 (by decide)) (EG ["Ladder"] (Bq T.D9 BQ) (A1 0 (pv 0))) (An (JP (k:=2) [("Ladder",B9)] A9.toXCall (Cd (by decide) (G2 T) D8) (hr.mono (by decide)) (A1 0 (pv 0)) (A2 (A1 1 (pv 1)) (A2 (A1 2 (pv 2)) A8)) rfl))) A6))))),?_⟩;intro m rs L A K u w c hA hc;have e0:AE ["self","u","w"] [AO m rs L A K,.int u,.int w]=[some (.val (AO m rs L A K)),some (.val (.int u)),some (.val (.int w))]:=rfl;rw[e0];refine Bl ?_;have f2:Nz ["Ladder"] "laid" (AO m rs L A K)=.ok (KU A):=rfl;have hk:=hA.rg _ (F6 hc);obtain⟨v,hv⟩:∃v,AA A (u,w)=some (c,v):=by
  unfold Al at hc;cases q:AA A (u,w) with
  |none=>rw[q] at hc;cases hc
  |some z=>rw[q] at hc;obtain⟨z1,z2⟩:=z;cases hc;exact⟨z2,rfl⟩
 have h1:=G3 m rs L A K u w hk.2.1.1 hk.2.1.2 hk.2.2.1 hk.2.2.2 (by rw[hv];rfl);have hi:=PJ hv;have h0:Bd (W4 (c,v)) (.int 0)=.ok (cst (some c)):=rfl;have hs:Gv [("Ladder",B9)] "checked_arc" (AO m rs L A K)=.ok B9:=rfl;simp_arith[f2,hs,h1,hi,h0];rfl
noncomputable def AQ:List D->M OT:=zh Ee
def CI:Txt K mg->Ir P w K mg base "Ladder" "cost" 3 3 AQ:=(zb Ee).1
def Ef:∀(m:Nat) (rs:List Road) (L:List Int) (A:LA) (K:List (Int×Int)) (u w:Int) (c:Int×Int),F8 m A->Al A (u,w)=some c->AQ [AO m rs L A K,.int u,.int w]=.ok (.sh (cst (some c))):=(zb Ee).2
def Eg:∃F:List D->M OT,(∀ {P w K mg base},Txt K mg->Ir P w K mg base "Ladder" "kept" 1 1 F)/\(∀(m:Nat) (rs:List Road) (L:List Int) (A:LA) (K:List (Int×Int)),F [AO m rs L A K]=.ok (.lst ((K.map pD).map .sh))):=by
 refine⟨_,λ T=>LQ (k:=0) T.NH N2 _ (λ f B4 A outer s H E hr=>(A5 (Aj (Jd rfl T.Fx (EG ["Ladder"] (Bq T.Ed BQ) (A1 0 (pv 0))))))),?_⟩;intro m rs L A K;rfl
noncomputable def AW:List D->M OT:=zh Eg
def Eh:Txt K mg->Ir P w K mg base "Ladder" "kept" 1 1 AW:=(zb Eg).1
def Ei:∀(m:Nat) (rs:List Road) (L:List Int) (A:LA) (K:List (Int×Int)),AW [AO m rs L A K]=.ok (.lst ((K.map pD).map .sh)):=(zb Eg).2
def ER:∃F:List D->M OT,(∀ {P w K mg base},Txt K mg->BO P w K mg base "kept_costs" 4 1 F)/\(∀(m:Nat) (rs:List Road) (L:List Int) (A:LA) (K:List (Int×Int)),C2 m rs L A K->F [AO m rs L A K]=.ok (lK (BM A K))):=by
 refine⟨_,λ T=>AF (k:=3) T.PY ND _ (λ f B4 A outer s H E hr=>(A5 (Aj (R5 rfl (B0 hr 16 (by decide)) rfl T.Tp (An (Ds (NB:=["u","w","ladder"]) [none,none,some 0] rfl (B6 (An (Gw (k:=1) [("Ladder",AW)] A9.toXCall (Cd (by decide) (Eh T) D8) (hr.mono (by decide)) (A1 0 (pv 0))))) rfl rfl (Pk (n:=2) rfl (DB 0 (by decide) rfl rfl rfl (DB 1 (by decide) rfl rfl rfl MD))) (λ _ _ _ _=>Fi) (λ _ _ _ _=>(AJ (A2 (AJ (A2 (A1 0 (pv 0)) (A2 (A1 1 (pv 1)) A8))) (A2 (An (BK (JP (k:=3) [("Ladder",AQ)] (Bo rfl).toXCall (Cd (by decide) (CI T) D8) (hr.mono (by decide)) (A1 2 (pv 2)) (A2 (A1 0 (pv 0)) (A2 (A1 1 (pv 1)) A8)) rfl))) A8)))))))))),?_⟩;intro m rs L A K ok;have e0:AE ["ladder"] [AO m rs L A K]=[some (.val (AO m rs L A K))]:=rfl;rw[e0];refine Bl ?_;have hs:Gv [("Ladder",AW)] "kept" (AO m rs L A K)=.ok AW:=rfl;have aR:Gv [("Ladder",AQ)] "cost" (AO m rs L A K)=.ok AQ:=rfl;have hk:=Ei m rs L A K;have hl:(K.map pD).length<=1000:=by rw[ze];have:=ok.kl;omega
 have hn:((BM A K).map zG).Nodup:=by rw[MW];exact ok.kn
 have hd:=Yt (C:=BM A K) hn (by simp only[BM,ze];have:=ok.kl;omega);simp_arith[hs,hk,if_pos hl];rw[E6 (λ p=>D.tup [pD p,cst (some ((Al A p).getD (0,0)))]) (λ p hp=>⟨_,rfl,rfl,by
  obtain⟨c,hc,_⟩:=(ok.km p).mp hp;have h1:=Ef m rs L A K p.1 p.2 c ok.qJ hc;simp_arith[aR,h1];rw[hc];rfl⟩)]
 have e1:(K.map λ p=>D.tup [pD p,cst (some ((Al A p).getD (0,0)))])=(BM A K).map λ kv=>D.tup [pD kv.1,cst (some kv.2)]:=by
  simp only[EV,BM,yj];rfl
 rw[e1];simp_arith[hd];exact⟨_,rfl,rfl⟩
noncomputable def L1:List D->M OT:=zh ER
def NJ:Txt K mg->BO P w K mg base "kept_costs" 4 1 L1:=(zb ER).1
def NK:∀(m:Nat) (rs:List Road) (L:List Int) (A:LA) (K:List (Int×Int)),C2 m rs L A K->L1 [AO m rs L A K]=.ok (lK (BM A K)):=(zb ER).2
def BW:∃F:List D->M OT,(∀ {P w K mg base},Txt K mg->BO P w K mg base "kept_costs_turned" 4 1 F)/\(∀(m:Nat) (rs:List Road) (L:List Int) (A:LA) (K:List (Int×Int)),C2 m rs L A K->F [AO m rs L A K]=.ok (lK (EV (BM A K)))):=by
 refine⟨_,λ T=>AF (k:=3) T.HR GB _ (λ f B4 A outer s H E hr=>(A5 (Aj (R5 rfl (B0 hr 16 (by decide)) rfl T.Tp (An (Ds (NB:=["u","w","ladder"]) [none,none,some 0] rfl (B6 (An (Gw (k:=1) [("Ladder",AW)] A9.toXCall (Cd (by decide) (Eh T) D8) (hr.mono (by decide)) (A1 0 (pv 0))))) rfl rfl (Pk (n:=2) rfl (DB 0 (by decide) rfl rfl rfl (DB 1 (by decide) rfl rfl rfl MD))) (λ _ _ _ _=>Fi) (λ _ _ _ _=>(AJ (A2 (AJ (A2 (A1 1 (pv 1)) (A2 (A1 0 (pv 0)) A8))) (A2 (An (BK (JP (k:=3) [("Ladder",AQ)] (Bo rfl).toXCall (Cd (by decide) (CI T) D8) (hr.mono (by decide)) (A1 2 (pv 2)) (A2 (A1 0 (pv 0)) (A2 (A1 1 (pv 1)) A8)) rfl))) A8)))))))))),?_⟩;intro m rs L A K ok;have e0:AE ["ladder"] [AO m rs L A K]=[some (.val (AO m rs L A K))]:=rfl;rw[e0];refine Bl ?_;have hs:Gv [("Ladder",AW)] "kept" (AO m rs L A K)=.ok AW:=rfl;have aR:Gv [("Ladder",AQ)] "cost" (AO m rs L A K)=.ok AQ:=rfl;have hk:=Ei m rs L A K;have hl:(K.map pD).length<=1000:=by rw[ze];have:=ok.kl;omega
 have hn:((BM A K).map zG).Nodup:=by rw[MW];exact ok.kn
 have hd:=Yt (C:=EV (BM A K)) (OB hn) (by unfold EV;simp only[BM,ze];have:=ok.kl;omega);simp_arith[hs,hk,if_pos hl];rw[E6 (λ p=>D.tup [pD (p.2,p.1),cst (some ((Al A p).getD (0,0)))]) (λ p hp=>⟨_,rfl,rfl,by
  obtain⟨c,hc,_⟩:=(ok.km p).mp hp;have h1:=Ef m rs L A K p.1 p.2 c ok.qJ hc;simp_arith[aR,h1];rw[hc];rfl⟩)]
 have e1:(K.map λ p=>D.tup [pD (p.2,p.1),cst (some ((Al A p).getD (0,0)))])=(EV (BM A K)).map λ kv=>D.tup [pD kv.1,cst (some kv.2)]:=by
  simp only[EV,BM,yj];rfl
 rw[e1];simp_arith[hd];exact⟨_,rfl,rfl⟩
noncomputable def Ej:List D->M OT:=zh BW
def GO:Txt K mg->BO P w K mg base "kept_costs_turned" 4 1 Ej:=(zb BW).1
def GP:∀(m:Nat) (rs:List Road) (L:List Int) (A:LA) (K:List (Int×Int)),C2 m rs L A K->Ej [AO m rs L A K]=.ok (lK (EV (BM A K))):=(zb BW).2
def IL:∃F:List D->M OT,(∀ {P w K mg base},Txt K mg->BO P w K mg base "climbed" 2 3 F)/\(∀(m:Nat) (L:List Int) (C:CA) (s:Int),m<=20->L.Perm (AZ m)->s∈L->(∀p c,AA C p=some c->p.1∈L/\p.2∈L)->∃R:RA,F [.lst (L.map D.int),UK C,.int s]=.ok (Gz R)/\NA L C s L.length R):=by
 refine⟨_,λ T=>AF (k:=1) T.Wg D2 _ (λ f B4 A outer s H E hr=>(A4 (BP 3 D2.nd rfl (zV rfl) (R6 (A1 2 (pv 2)) (AJ (A2 A6 (A2 A6 A8))))) (A4 (BU A9.toXCall.own rfl (P9 rfl T.GL (A1 0 (pv 0))) (P8 (n:=2) rfl (Cz (AU 4 D2.nd rfl (zV rfl)) (Cz (AU 5 D2.nd rfl (zV rfl)) Lu))) (A5 (B5 (Kl (Km (c:=true) (B0 hr 16 (by decide)) (A1 5 (pv 5)) (A1 3 (pv 3)))) (A5 (BU A9.toXCall.own rfl (B6 (An (MC (A1 0 (pv 0)) (Ls (BR (A1 4 (pv 4)) A6)) U1))) (AU 6 D2.nd rfl (zV rfl)) (A5 (B5 (Km (c:=true) (B0 hr 16 (by decide)) (AJ (A2 (A1 5 (pv 5)) (A2 (A1 6 (pv 6)) A8))) (A1 1 (pv 1))) (A4 (B1 7 D2.nd rfl (zV rfl) (An (EF (Ac A9.toXCall (N9 T) (hr.mono (by decide)) rfl (A2 (Ad (B0 hr 16 (by decide)) (A1 3 (pv 3)) (A1 5 (pv 5))) (A2 (Ad (B0 hr 16 (by decide)) (A1 1 (pv 1)) (AJ (A2 (A1 5 (pv 5)) (A2 (A1 6 (pv 6)) A8)))) A8)) rfl)))) (A5 (Jl (B0 hr 16 (by decide)) (Bc 3 (pv 3)) (A1 6 (pv 6)) (An (EF (Ac A9.toXCall (RH T) (hr.mono (by decide)) rfl (A2 (Ii (A2 (R7 (B0 hr 16 (by decide)) (A1 3 (pv 3)) (A1 6 (pv 6))) (A2 (A1 7 (pv 7)) A8))) A8) rfl)))))) Av)))) Av))) (A5 (D7 3 (pv 3)))))),?_⟩;intro m L C s hm hL hs hC;have hn:=MS hL;have hlen:=E8 hL;have e0:AE ["order","costs","place","reached","rank","lower","higher","cost"] [.lst (L.map D.int),UK C,.int s]=[some (.val (.lst (L.map D.int))),some (.val (UK C)),some (.val (.int s)),none,none,none,none,none]:=rfl;rw[e0];refine (λ h:∃t,_/\∃R:RA,t=Gz R/\NA L C s L.length R=>by
  obtain⟨t,h1,R,rfl,h2⟩:=h;exact⟨R,h1,h2⟩) (ME ?_)
 refine wp_step (ρ':=[some (.val (.lst (L.map D.int))),some (.val (UK C)),some (.val (.int s)),some (.ow (.tree none (Gz [(s,(0,0))]))),none,none,none,none]) (by rfl) ?_;refine C3 (I:=λ ρ=>∃(R:RA) (s4 s5 s6 s7:Option Cl),ρ=[some (.val (.lst (L.map D.int))),some (.val (UK C)),some (.val (.int s)),some (.ow (.tree none (Gz R))),s4,s5,s6,s7]/\NA L C s L.length R) ?_ ?_
 ·simp_arith[];refine BL (λ i ρ=>i<=L.length/\∃(R:RA) (s4 s5 s6 s7:Option Cl),ρ=[some (.val (.lst (L.map D.int))),some (.val (UK C)),some (.val (.int s)),some (.ow (.tree none (Gz R))),s4,s5,s6,s7]/\NA L C s i R) ⟨zS _,_,none,none,none,none,rfl,NA.start hs⟩ ?_ ?_
  ·rintro i d ρ hd ⟨hi,R,s4,s5,s6,s7,rfl,hR⟩;obtain⟨d',bj,rfl⟩:=Hi hd;obtain⟨x,hx,rfl⟩:=Bw bj;have ah:=(zv.mp hx).1;rw[Nat.zero_add];refine⟨_,rfl,?_⟩;have bo:=T5 R x false;have ib:=T8 hn hx;cases q:AA R x with
   |none =>
    rw[q] at bo;refine Bt (ρ':=_) (by simp_arith[bo];rfl) ⟨ah,R,_,_,_,_,rfl,hR.skip hx hn q⟩
   |some c0 =>
    rw[q] at bo;have sl:ZZ (some ((i:Int)+1)) none (.lst (L.map D.int))=.ok (.lst (((L.drop (i+1)).map D.int).map .sh)):=by rw[List.map_drop];exact QV _ (i+1)
    simp_arith[bo,sl,if_true,Option.isSome_some,zB,if_false];refine BL (λ j ρ=>j<=(L.drop (i+1)).length/\∃(R':RA) (s6 s7:Option Cl),ρ=[some (.val (.lst (L.map D.int))),some (.val (UK C)),some (.val (.int s)),some (.ow (.tree none (Gz R'))),some (.val (.int i)),some (.val (.int x)),s6,s7]/\fS L C s i x c0 ((L.drop (i+1)).take j) R R') ⟨zS _,R,s6,s7,rfl,hR.nd,hR.rg,hR.sd,λ y=>BF _,λ y _=>rfl,λ y hy=>by rw[List.take_zero] at hy;cases hy⟩ ?_ ?_
    ·rintro j d ρ hd ⟨hj,R',s6,s7,rfl,hI⟩;obtain⟨y,hy,rfl⟩:=Bw hd;have jp:=(zv.mp hy).1;have uj:=zo hy;have vZ:y∈L:=List.mem_of_mem_drop uj;have wa:i<Bz L y:=eA hn uj;have et:(L.drop (i+1)).take (j+1)=(L.drop (i+1)).take j++[y]:=by rw[yl,hy];rfl
     refine⟨_,rfl,?_⟩;rw[et];have t1:∀a b:Int,D.tup [.int a,.int b]=pD (a,b):=λ a b=>rfl;have lb:=kI C (x,y) false;cases q2:AA C (x,y) with
     |none =>
      rw[q2] at lb;refine Bt (ρ':=_) (by simp_arith[t1,lb];rfl) ⟨jp,R',_,_,rfl,hI.skip q2⟩
     |some dd =>
      rw[q2] at lb;have ax:AA R' x=some c0:=by rw[hI.sm x (by omega)];exact q
      have i1:=PL ax;have i2:=kJ q2;have h1:=Na (some c0) (some dd);have g1:=Yq R' y;obtain⟨v,hv⟩:∃v,EU (AA R' y) (some (c0.1+dd.1,c0.2+dd.2))=some v:=by
       cases AA R' y with
       |none=>exact⟨_,rfl⟩
       |some z=>exact⟨_,rfl⟩
      have h2:Q1 [.lst [cst (AA R' y),cst (some (c0.1+dd.1,c0.2+dd.2))]]=.ok (.sh (cst (EU (AA R' y) (some (c0.1+dd.1,c0.2+dd.2))))):=RI [AA R' y,some (c0.1+dd.1,c0.2+dd.2)] (by simp);rw[hv] at h2;have be:=hI.put vZ wa ib q q2 hv;have hl:(R'.map λ kv=>D.int kv.1).length<1000:=by
       have:=HH hI.nd hI.rg;rw[ze] at this ⊢;omega
      have d4:∀z:Int,keyOk false (.int z)=true:=λ z=>rfl;have ha:AN (some c0) (some dd)=some (c0.1+dd.1,c0.2+dd.2):=rfl;rw[ha] at h1;simp_arith[t1,lb,if_true,Option.isSome_some,zB,if_false];apply wp_step
      ·simp_arith[t1,i1,i2,h1];rfl
      refine Bt (ρ':=[some (.val (.lst (L.map D.int))),some (.val (UK C)),some (.val (.int s)),some (.ow (.tree none (Gz (CL R' y v)))),some (.val (.int i)),some (.val (.int x)),some (.val (.int y)),some (.val (cst (some (c0.1+dd.1,c0.2+dd.2))))]) (by
       simp_arith[g1,h2,d4,hl,and_self,if_true,Ys];rfl) ⟨jp,_,_,_,rfl,be⟩
    ·rintro ρ ⟨_,R',s6,s7,rfl,hI⟩;rw[ze,yh] at hI;exact⟨ah,R',_,_,s6,s7,rfl,hR.go (λ p c h=>(hC p c h).2) hx hn q hI⟩
  ·rintro ρ ⟨_,R,s4,s5,s6,s7,rfl,hR⟩;rw[Dy,ze] at hR;exact⟨R,s4,s5,s6,s7,rfl,hR⟩
 ·rintro ρ ⟨R,s4,s5,s6,s7,rfl,hR⟩;exact⟨_,rfl,R,rfl,hR⟩
noncomputable def RJ:List D->M OT:=zh IL
def Nd:Txt K mg->BO P w K mg base "climbed" 2 3 RJ:=(zb IL).1
def Nf:∀(m:Nat) (L:List Int) (C:CA) (s:Int),m<=20->L.Perm (AZ m)->s∈L->(∀p c,AA C p=some c->p.1∈L/\p.2∈L)->∃R:RA,RJ [.lst (L.map D.int),UK C,.int s]=.ok (Gz R)/\NA L C s L.length R:=(zb IL).2
def Dj:∃F:List D->M OT,(∀ {P w K mg base},Txt K mg->Ir P w K mg base "Ladder" "order" 1 1 F)/\(∀(m:Nat) (rs:List Road) (L:List Int) (A:LA) (K:List (Int×Int)),F [AO m rs L A K]=.ok (.lst ((L.map D.int).map .sh))):=by
 refine⟨_,λ T=>LQ (k:=0) T.N6 Lj _ (λ f B4 A outer s H E hr=>(A5 (Aj (Jd rfl T.Fx (EG ["Ladder"] (Bq T.Cm BQ) (A1 0 (pv 0))))))),?_⟩;intro m rs L A K;rfl
noncomputable def Bg:List D->M OT:=zh Dj
def FV:Txt K mg->Ir P w K mg base "Ladder" "order" 1 1 Bg:=(zb Dj).1
def FW:∀(m:Nat) (rs:List Road) (L:List Int) (A:LA) (K:List (Int×Int)),Bg [AO m rs L A K]=.ok (.lst ((L.map D.int).map .sh)):=(zb Dj).2
def Dk:∃F:List D->M OT,(∀ {P w K mg base},Txt K mg->BO P w K mg base "climbed_from" 5 2 F)/\(∀(m:Nat) (rs:List Road) (L:List Int) (A:LA) (K:List (Int×Int)) (s:Nat),C2 m rs L A K->s<m->∃R:RA,F [AO m rs L A K,.int s]=.ok (Gz R)/\NA L (BM A K) s L.length R):=by
 refine⟨_,λ T=>AF (k:=4) T.N4 Li _ (λ f B4 A outer s H E hr=>(A5 (Aj (Ac A9.toXCall (Nd T) (hr.mono (by decide)) rfl (A2 (An (Gw (k:=1) [("Ladder",Bg)] A9.toXCall (Cd (by decide) (FV T) D8) (hr.mono (by decide)) (A1 0 (pv 0)))) (A2 (An (Ac A9.toXCall (NJ T) (hr.mono (by decide)) rfl (A2 (A1 0 (pv 0)) A8) rfl)) (A2 (A1 1 (pv 1)) A8))) rfl)))),?_⟩;intro m rs L A K s ok hs;have hm:=ok.m2;have e0:AE ["ladder","start"] [AO m rs L A K,.int s]=[some (.val (AO m rs L A K)),some (.val (.int s))]:=rfl;rw[e0];have h1:=NK m rs L A K ok;have h2:=FW m rs L A K;have ge:Gv [("Ladder",Bg)] "order" (AO m rs L A K)=.ok Bg:=rfl;have ic:(s:Int)∈L:=(Br ok.pm).mpr ⟨by omega,by omega⟩;obtain⟨R,hF,hR⟩:=Nf m L (BM A K) s (by omega) ok.pm ic ok.eI;refine⟨R,Bl ?_,hR⟩;simp_arith[ge,h2,h1,hF];exact⟨_,rfl,rfl⟩
noncomputable def I0:List D->M OT:=zh Dk
def FX:Txt K mg->BO P w K mg base "climbed_from" 5 2 I0:=(zb Dk).1
def Ll:∀(m:Nat) (rs:List Road) (L:List Int) (A:LA) (K:List (Int×Int)) (s:Nat),C2 m rs L A K->s<m->∃R:RA,I0 [AO m rs L A K,.int s]=.ok (Gz R)/\NA L (BM A K) s L.length R:=(zb Dk).2
def Ek:∃F:List D->M OT,(∀ {P w K mg base},Txt K mg->BO P w K mg base "climbing_to" 5 2 F)/\(∀(m:Nat) (rs:List Road) (L:List Int) (A:LA) (K:List (Int×Int)) (s:Nat),C2 m rs L A K->s<m->∃R:RA,F [AO m rs L A K,.int s]=.ok (Gz R)/\NA L (EV (BM A K)) s L.length R):=by
 refine⟨_,λ T=>AF (k:=4) T.NE MY _ (λ f B4 A outer s H E hr=>(A5 (Aj (Ac A9.toXCall (Nd T) (hr.mono (by decide)) rfl (A2 (An (Gw (k:=1) [("Ladder",Bg)] A9.toXCall (Cd (by decide) (FV T) D8) (hr.mono (by decide)) (A1 0 (pv 0)))) (A2 (An (Ac A9.toXCall (GO T) (hr.mono (by decide)) rfl (A2 (A1 0 (pv 0)) A8) rfl)) (A2 (A1 1 (pv 1)) A8))) rfl)))),?_⟩;intro m rs L A K s ok hs;have hm:=ok.m2;have e0:AE ["ladder","goal"] [AO m rs L A K,.int s]=[some (.val (AO m rs L A K)),some (.val (.int s))]:=rfl;rw[e0];have h1:=GP m rs L A K ok;have h2:=FW m rs L A K;have ge:Gv [("Ladder",Bg)] "order" (AO m rs L A K)=.ok Bg:=rfl;have ic:(s:Int)∈L:=(Br ok.pm).mpr ⟨by omega,by omega⟩;obtain⟨R,hF,hR⟩:=Nf m L (EV (BM A K)) s (by omega) ok.pm ic ok.kS;refine⟨R,Bl ?_,hR⟩;simp_arith[ge,h2,h1,hF];exact⟨_,rfl,rfl⟩
noncomputable def K4:List D->M OT:=zh Ek
def GQ:Txt K mg->BO P w K mg base "climbing_to" 5 2 K4:=(zb Ek).1
def Ng:∀(m:Nat) (rs:List Road) (L:List Int) (A:LA) (K:List (Int×Int)) (s:Nat),C2 m rs L A K->s<m->∃R:RA,K4 [AO m rs L A K,.int s]=.ok (Gz R)/\NA L (EV (BM A K)) s L.length R:=(zb Ek).2
def El:∃F:List D->M OT,(∀ {P w K mg base},Txt K mg->BO P w K mg base "cost_so_far" 1 2 F)/\(∀(A:LA) (p:Int×Int),F [KU A,pD p]=.ok (.sh (cst (Al A p)))):=by
 refine⟨_,λ T=>AF (k:=0) T.NF MZ _ (λ f B4 A outer s H E hr=>(A4 (B5 (Ji (c:=true) (B0 hr 16 (by decide)) (A1 1 (pv 1)) (A1 0 (pv 0))) (A5 (Aj (AL Gd))) Av) (A5 (Aj (AL (Ad (B0 hr 16 (by decide)) (Ad (B0 hr 16 (by decide)) (A1 0 (pv 0)) (A1 1 (pv 1))) A6)))))),?_⟩;intro A p;have e0:AE ["laid","pair"] [KU A,pD p]=[some (.val (KU A)),some (.val (pD p))]:=rfl;rw[e0];refine Bl ?_;have hm:=PH A p true;unfold Al;cases q:AA A p with
 |none =>
  rw[q] at hm;simp_arith[hm,F4];rfl
 |some v =>
  rw[q] at hm;have hi:=PJ q;have h0:Bd (W4 v) (.int 0)=.ok (cst (some v.1)):=rfl;apply wp_step
  ·simp_arith[hm,F4];rfl
  simp_arith[hi,h0];rfl
noncomputable def K5:List D->M OT:=zh El
def GR:Txt K mg->BO P w K mg base "cost_so_far" 1 2 K5:=(zb El).1
def GS:∀(A:LA) (p:Int×Int),K5 [KU A,pD p]=.ok (.sh (cst (Al A p))):=(zb El).2
def Tv:∃F:OT->List D->M (OT×OT),(∀ {P w K mg base},Txt K mg->Oh P w K mg base "lay" 1 4 F)/\(∀(A:LA) (p:Int×Int) (c:Co) (mid:Option Int),A.length<1000->F (IT A) [pD p,cst c,HQ mid]=.ok (IT (layA A p c mid),.sh .AD)):=by
 refine⟨_,λ T=>QN (k:=0) T.pI kX _ (λ f B4 A outer s H E hr=>(A5 (B5 (Kl (DW.dt (Ml (Lr (c:=true) (A1 2 (pv 2))) (J4 (DW.dt (CN (Ji (c:=true) (B0 hr 16 (by decide)) (A1 1 (pv 1)) (A1 0 (pv 0))) (BS (Y4 (c:=true) (B0 hr 16 (by decide)) (A1 2 (pv 2)) (Ad (B0 hr 16 (by decide)) (Ad (B0 hr 16 (by decide)) (A1 0 (pv 0)) (A1 1 (pv 1))) A6))))))))) (A5 (Jl (B0 hr 16 (by decide)) (Bc 0 (pv 0)) (A1 1 (pv 1)) (AJ (A2 (A1 2 (pv 2)) (A2 (A1 3 (pv 3)) A8))))) Av))),?_⟩;intro A p c mid hA;have e0:CO ["laid","pair","cost","middle"] (IT A) [pD p,cst c,HQ mid]=[some (.ow (.tree (some 0) (IT A))),some (.val (pD p)),some (.val (cst c)),some (.val (HQ mid))]:=rfl;rw[e0];refine T6 ?_;have hm:=PH A p true;have uk:∀c:Int×Int,D.tup [cst (some c),HQ mid]=W4 (c,mid):=λ c=>rfl;have hl:(A.map λ kv=>pD kv.1).length<1000:=by rw[ze];exact hA
 have d4:keyOk true (pD p)=true:=rfl;have ah:∀v,(List.map (λ kv=>pD kv.1) (CL A p v))=(List.map (λ kv=>pD kv.1) (CL A p v)):=λ _=>rfl;cases c with
 |none =>
  refine Bt (ρ':=_) (by simp_arith[cst,BE];rfl) ⟨rfl,rfl⟩
 |some c =>
  have ga:BE (cst (some c))=false:=rfl;cases q:AA A p with
  |none =>
   rw[q] at hm;have el:layA A p (some c) mid=CL A p (c,mid):=by unfold layA;dsimp only;rw[q]
   rw[el];refine Bt (ρ':=[some (.ow (.tree (some 0) (IT (CL A p (c,mid))))),some (.val (pD p)),some (.val (cst (some c))),some (.val (HQ mid))]) (by
    simp_arith[ga,hm,F4,DF,uk,if_pos (And.intro d4 hl),Yr,d4,hl,and_self,if_true];rfl) ⟨rfl,rfl⟩
  |some z =>
   rw[q] at hm;have hi:=PJ q;have h0:Bd (W4 z) (.int 0)=.ok (cst (some z.1)):=rfl;have hx:=pA c z.1;by_cases hc:c.1<z.1.1\/(c.1=z.1.1/\c.2<z.1.2)
   ·have el:layA A p (some c) mid=CL A p (c,mid):=by unfold layA;dsimp only;rw[q];dsimp only;rw[if_pos hc]
    rw[decide_eq_true hc] at hx;rw[el];refine Bt (ρ':=[some (.ow (.tree (some 0) (IT (CL A p (c,mid))))),some (.val (pD p)),some (.val (cst (some c))),some (.val (HQ mid))]) (by
     simp_arith[ga,hm,hi,h0,hx,F4,DF,uk,if_pos (And.intro d4 hl),Yr,d4,hl,and_self,if_true];rfl) ⟨rfl,rfl⟩
   ·have el:layA A p (some c) mid=A:=by unfold layA;dsimp only;rw[q];dsimp only;rw[if_neg hc]
    rw[decide_eq_false hc] at hx;rw[el];refine Bt (ρ':=_) (by simp_arith[ga,hm,hi,h0,hx,F4];rfl) ⟨rfl,rfl⟩
noncomputable def pJ:OT->List D->M (OT×OT):=zh Tv
def YL:Txt K mg->Oh P w K mg base "lay" 1 4 pJ:=(zb Tv).1
def YM:∀(A:LA) (p:Int×Int) (c:Co) (mid:Option Int),A.length<1000->pJ (IT A) [pD p,cst c,HQ mid]=.ok (IT (layA A p c mid),.sh .AD):=(zb Tv).2
def GU:∃F:OT->List D->M (OT×OT),(∀ {P w K mg base},Txt K mg->Oh P w K mg base "lay_over" 2 3 F)/\(∀(m:Nat) (A:LA) (p:Int) (H:List Int),m<=20->F8 m A->(∀x∈H,0<=x/\x<m)->F (IT A) [.int p,.lst (H.map D.int)]=.ok (IT (kF A p H),.sh .AD)):=by
 refine⟨_,λ T=>QN (k:=1) T.Td Ex _ (λ f B4 A outer s H E hr=>(A5 (BU A9.toXCall.own rfl (B6 (A1 2 (pv 2))) (AU 3 Ex.nd rfl (zV rfl)) (A5 (BU A9.toXCall.own rfl (B6 (A1 2 (pv 2))) (AU 4 Ex.nd rfl (zV rfl)) (A5 (B5 (J3 (c:=true) (B0 hr 16 (by decide)) (A1 3 (pv 3)) (A1 4 (pv 4))) (A4 (B1 5 Ex.nd rfl (zV rfl) (An (EF (Ac A9.toXCall (N9 T) (hr.mono (by decide)) rfl (A2 (An (Ac A9.toXCall (GR T) (hr.mono (by decide)) rfl (A2 (A1 0 (pv 0)) (A2 (AJ (A2 (A1 3 (pv 3)) (A2 (A1 1 (pv 1)) A8))) A8)) rfl)) (A2 (An (Ac A9.toXCall (GR T) (hr.mono (by decide)) rfl (A2 (A1 0 (pv 0)) (A2 (AJ (A2 (A1 1 (pv 1)) (A2 (A1 4 (pv 4)) A8))) A8)) rfl)) A8)) rfl)))) (A5 (MA (XM A9.toXCall (YL T) (hr.mono (by decide)) rfl (Bc 0 (pv 0)) (A2 (AJ (A2 (A1 3 (pv 3)) (A2 (A1 4 (pv 4)) A8))) (A2 (A1 5 (pv 5)) (A2 (A1 1 (pv 1)) A8))) rfl)))) Av))))))),?_⟩;intro m A p H hm hA hH;have e0:CO ["laid","place","higher","u","w","cost"] (IT A) [.int p,.lst (H.map D.int)]=[some (.ow (.tree (some 0) (IT A))),some (.val (.int p)),some (.val (.lst (H.map D.int))),none,none,none]:=rfl;rw[e0];refine T6 ?_;simp_arith[];refine BL (λ i ρ=>∃s3 s4 s5:Option Cl,ρ=[some (.ow (.tree (some 0) (IT ((H.take i).foldl (dW p H) A)))),some (.val (.int p)),some (.val (.lst (H.map D.int))),s3,s4,s5]) ⟨none,none,none,rfl⟩ ?_ ?_
 ·rintro i d ρ hd ⟨s3,s4,s5,rfl⟩;obtain⟨u,hu,rfl⟩:=Bw hd;have pf:=hH u (zo hu);refine⟨_,rfl,?_⟩;obtain⟨B,hB⟩:∃B,B=(H.take i).foldl (dW p H) A:=⟨_,rfl⟩;have gf:F8 m B:=by rw[hB];exact F8.lo hH hA λ x hx=>hH x (yn hx)
  rw[<-hB,E9 hu,<-hB];simp_arith[];refine BL (λ j ρ=>∃s4 s5:Option Cl,ρ=[some (.ow (.tree (some 0) (IT ((H.take j).foldl (Px p u) B)))),some (.val (.int p)),some (.val (.lst (H.map D.int))),some (.val (.int u)),s4,s5]) ⟨s4,s5,rfl⟩ ?_ ?_
  ·rintro j d ρ hd ⟨s4,s5,rfl⟩;obtain⟨w,hw,rfl⟩:=Bw hd;have xa:=hH w (zo hw);refine⟨_,rfl,?_⟩;obtain⟨C,hC⟩:∃C,C=(H.take j).foldl (Px p u) B:=⟨_,rfl⟩;have pi:F8 m C:=by rw[hC];exact F8.ou pf gf λ x hx=>hH x (yn hx)
   rw[E9 hw,<-hC];by_cases e:u=w
   ·have ev:Px p u C w=C:=by unfold Px;rw[if_pos e]
    rw[ev];refine Bt (ρ':=_) (by simp_arith[decide_eq_true e];rfl) ⟨_,_,rfl⟩
   ·have ev:Px p u C w=layA C (u,w) (AN (Al C (u,p)) (Al C (p,w))) (some p):=by unfold Px;rw[if_neg e]
    rw[ev];have h1:=GS C (u,p);have h2:=GS C (p,w);have h3:=Na (Al C (u,p)) (Al C (p,w));have h4:=YM C (u,w) (AN (Al C (u,p)) (Al C (p,w))) (some p) (pi.len hm);have t1:∀a b:Int,D.tup [.int a,.int b]=pD (a,b):=λ a b=>rfl;have t2:HQ (some p)=.int p:=rfl;rw[t2] at h4;have h5:=Kt (ρ:=[some (.ow (.tree (some 0) (IT C))),some (.val (.int p)),some (.val (.lst (H.map D.int))),some (.val (.int u)),some (.val (.int w)),some (.val (cst (AN (Al C (u,p)) (Al C (p,w)))))]) (i:=0) rfl rfl h4;simp_arith[decide_eq_false e,if_true];apply wp_step
    ·simp_arith[t1,h1,h2,h3];rfl
    refine Bt (ρ':=_) (by simp_arith[t1,h5];rfl) ⟨_,_,rfl⟩
  ·rintro ρ ⟨s4,s5,rfl⟩;rw[ze,yh];exact⟨_,s4,s5,rfl⟩
 ·rintro ρ ⟨s3,s4,s5,rfl⟩;rw[ze,yh];exact⟨rfl,trivial⟩
noncomputable def OE:OT->List D->M (OT×OT):=zh GU
def RK:Txt K mg->Oh P w K mg base "lay_over" 2 3 OE:=(zb GU).1
def RL:∀(m:Nat) (A:LA) (p:Int) (H:List Int),m<=20->F8 m A->(∀x∈H,0<=x/\x<m)->OE (IT A) [.int p,.lst (H.map D.int)]=.ok (IT (kF A p H),.sh .AD):=(zb GU).2
def FE:∃F:List D->M OT,(∀ {P w K mg base},Txt K mg->BO P w K mg base "laid_arcs" 3 2 F)/\(∀(m:Nat) (rs:List Road) (L:List Int),m<=20->L.Perm (AZ m)->(∀r∈rs,Ko m r/\r.a≠r.b)->F [Am m rs,.lst (L.map D.int)]=.ok (IT (BG rs L))):=by
 refine⟨_,λ T=>AF (k:=2) T.Ry CF _ (λ f B4 A outer s H E hr=>(A4 (BP 2 CF.nd rfl (zV rfl) (QQ true)) (A4 (BU A9.toXCall.own rfl (B6 (Ad (B0 hr 16 (by decide)) (A1 0 (pv 0)) A6)) (AU 3 CF.nd rfl (zV rfl)) (A5 (MA (XM A9.toXCall (YL T) (hr.mono (by decide)) rfl (Bc 2 (pv 2)) (A2 (AJ (A2 (Ad (B0 hr 16 (by decide)) (A1 3 (pv 3)) A6) (A2 (Ad (B0 hr 16 (by decide)) (A1 3 (pv 3)) A6) A8))) (A2 (An (Ac A9.toXCall (FC T) (hr.mono (by decide)) rfl (A2 (A1 3 (pv 3)) A8) rfl)) (A2 Gd A8))) rfl)))) (A4 (BU A9.toXCall.own rfl (P9 rfl T.GL (A1 1 (pv 1))) (P8 (n:=2) rfl (Cz (AU 4 CF.nd rfl (zV rfl)) (Cz (AU 5 CF.nd rfl (zV rfl)) Lu))) (A5 (MA (XM A9.toXCall (RK T) (hr.mono (by decide)) rfl (Bc 2 (pv 2)) (A2 (A1 5 (pv 5)) (A2 (An (MC (A1 1 (pv 1)) (Ls (BR (A1 4 (pv 4)) A6)) U1)) A8)) rfl)))) (A5 (D7 2 (pv 2))))))),?_⟩;intro m rs L hm hL Ax;have e0:AE ["net","order","laid","road","rank","place"] [Am m rs,.lst (L.map D.int)]=[some (.val (Am m rs)),some (.val (.lst (L.map D.int))),none,none,none,none]:=rfl;rw[e0];refine Bl ?_;have n1:Bd (Am m rs) (.int 1)=.ok (.lst (rs.map DD)):=rfl;apply wp_step
 ·rfl
 try simp only[zx,zu]
 have gh:∀i,i<=rs.length->F8 m ((rs.take i).foldl (λ A r=>layA A (r.a,r.b) (De r) none) []):=λ i hi=>by
  have:=(Py (m:=m) (rs:=rs.take i) λ r hr=>Ax r (yn hr)).1;exact this
 refine C3 (I:=λ ρ=>∃s3 s4 s5:Option Cl,ρ=[some (.val (Am m rs)),some (.val (.lst (L.map D.int))),some (.ow (.tree none (IT (lay0 rs)))),s3,s4,s5]) ?_ ?_
 ·simp_arith[n1];refine BL (λ i ρ=>i<=rs.length/\∃s3 s4 s5:Option Cl,ρ=[some (.val (Am m rs)),some (.val (.lst (L.map D.int))),some (.ow (.tree none (IT ((rs.take i).foldl (λ A r=>layA A (r.a,r.b) (De r) none) [])))),s3,s4,s5]) ⟨zS _,none,none,none,rfl⟩ ?_ ?_
  ·rintro i d ρ hd ⟨hi,s3,s4,s5,rfl⟩;obtain⟨r,hr,rfl⟩:=Bw hd;have ah:=(zv.mp hr).1;refine⟨_,rfl,?_⟩;rw[E9 hr];obtain⟨B,hB⟩:∃B,B=(rs.take i).foldl (λ A r=>layA A (r.a,r.b) (De r) none) []:=⟨_,rfl⟩;have gf:F8 m B:=by rw[hB];exact gh i hi
   rw[<-hB];have i0:Bd (DD r) (.int 0)=.ok (.int r.a):=rfl;have i1:Bd (DD r) (.int 1)=.ok (.int r.b):=rfl;have h1:=FD r;have h2:=YM B (r.a,r.b) (De r) none (gf.len hm);have t1:∀a b:Int,D.tup [.int a,.int b]=pD (a,b):=λ a b=>rfl;have t2:HQ none=.AD:=rfl;rw[t2] at h2;have h5:=Kt (ρ:=[some (.val (Am m rs)),some (.val (.lst (L.map D.int))),some (.ow (.tree none (IT B))),some (.val (DD r)),s4,s5]) (i:=2) rfl rfl h2;refine Bt (ρ':=_) (by simp_arith[i0,i1,h1,t1,h5];rfl) ⟨ah,_,_,_,rfl⟩
  ·rintro ρ ⟨_,s3,s4,s5,rfl⟩;rw[ze,yh];exact⟨s3,s4,s5,rfl⟩
 ·rintro ρ ⟨s3,s4,s5,rfl⟩;have ul:=Py Ax;refine C3 (I:=λ ρ=>∃s3 s4 s5:Option Cl,ρ=[some (.val (Am m rs)),some (.val (.lst (L.map D.int))),some (.ow (.tree none (IT (BG rs L)))),s3,s4,s5]) ?_ ?_
  ·simp_arith[];refine BL (λ i ρ=>i<=L.length/\∃(G:LA) (s3 s4 s5:Option Cl),ρ=[some (.val (Am m rs)),some (.val (.lst (L.map D.int))),some (.ow (.tree none (IT G))),s3,s4,s5]/\F8 m G/\SX G (L.drop i)=SX (lay0 rs) L) ⟨zS _,lay0 rs,s3,s4,s5,rfl,ul.1,rfl⟩ ?_ ?_
   ·rintro i d ρ hd ⟨hi,G,s3,s4,s5,rfl,hG,jq⟩;obtain⟨d',bj,rfl⟩:=Hi hd;obtain⟨p,hp,rfl⟩:=Bw bj;have ah:=(zv.mp hp).1;rw[Nat.zero_add];refine⟨_,rfl,?_⟩;have br:∀x∈L.drop (i+1),0<=x/\x<m:=λ x hx=>(Br hL).mp (List.mem_of_mem_drop hx);have ed:L.drop i=p::L.drop (i+1):=by
     rw[xg ah];rw[zj ah] at hp;rw[zE hp]
    rw[ed,SX] at jq;have h2:=RL m G p (L.drop (i+1)) hm hG br;have sl:ZZ (some ((i:Int)+1)) none (.lst (L.map D.int))=.ok (.lst (((L.drop (i+1)).map D.int).map .sh)):=by rw[List.map_drop];exact QV _ (i+1)
    have h5:=Kt (ρ:=[some (.val (Am m rs)),some (.val (.lst (L.map D.int))),some (.ow (.tree none (IT G))),s3,some (.val (.int i)),some (.val (.int p))]) (i:=2) rfl rfl h2;refine Bt (ρ':=_) (by simp_arith[sl,h5];rfl) ⟨ah,_,_,_,_,rfl,F8.lo br hG br,jq⟩
   ·rintro ρ ⟨_,G,s3,s4,s5,rfl,hG,jq⟩;rw[Dy,ze,xk,SX] at jq;exact⟨s3,s4,s5,by rw[jq];rfl⟩
  ·rintro ρ ⟨s3,s4,s5,rfl⟩;exact⟨_,rfl,rfl⟩
noncomputable def Nh:List D->M OT:=zh FE
def Q2:Txt K mg->BO P w K mg base "laid_arcs" 3 2 Nh:=(zb FE).1
def Q3:∀(m:Nat) (rs:List Road) (L:List Int),m<=20->L.Perm (AZ m)->(∀r∈rs,Ko m r/\r.a≠r.b)->Nh [Am m rs,.lst (L.map D.int)]=.ok (IT (BG rs L)):=(zb FE).2
def GV:∃F:List D->M OT,(∀ {P w K mg base},Txt K mg->BO P w K mg base "is_order" 2 2 F)/\(∀(m:Nat) (x d:D),m<=60->oY d->F [.tup [.int m,x],d]=.ok (.sh (.bl (Eu m d)))):=by
 refine⟨_,λ T=>AF (k:=1) T.Te Rt _ (λ f B4 A outer s H E hr=>(A4 (B5 (DW.dt (CN (Bv (Bj (c:=true) (ED (O6 _) rfl T.B3 rfl T.Fx (by decide +kernel) (A1 1 (pv 1))))) (BS (J3 (c:=true) (B0 hr 16 (by decide)) (Fh rfl T.GN (A1 1 (pv 1))) (Ad (B0 hr 16 (by decide)) (A1 0 (pv 0)) A6))))) (A5 (Aj (AL C9))) Av) (A4 (B5 (Bv (Bj (c:=true) (Xw rfl rfl T.fT (An (Ds (NB:=["place","net"]) [none,some 0] rfl (B6 (A1 1 (pv 1))) rfl rfl (CB 0 (by decide) rfl rfl rfl) (λ _ _ _ _=>Fi) (λ _ _ _ _=>(An (BK (Ac (Bo rfl).toXCall (AV T) (hr.mono (by decide)) rfl (A2 (A1 0 (pv 0)) (A2 (Ad (B0 hr 16 (by decide)) (A1 1 (pv 1)) A6) A8)) rfl))))))))) (A5 (Aj (AL C9))) Av) (A5 (Aj (AL (fD (B0 hr 16 (by decide)) (An (VH rfl rfl T.YJ (A1 1 (pv 1)))) (An (Jm rfl rfl T.Fx rfl T.Fy (Ad (B0 hr 16 (by decide)) (A1 0 (pv 0)) A6)))))))))),?_⟩;intro m x d hm ⟨hx,Ax⟩;have e0:AE ["net","thing"] [.tup [.int m,x],d]=[some (.val (.tup [.int m,x])),some (.val d)]:=rfl;rw[e0];have n0:Bd (.tup [.int m,x]) (.int 0)=.ok (.int m):=rfl;refine Bl ?_;cases d with
 |lst xs =>
  obtain⟨hl,bB⟩:=Ax xs rfl;by_cases h1:xs.length=m
  ·have dm:(xs.length:Int)=(m:Int):=by omega
   apply wp_step
   ·simp_arith[n0,decide_eq_true dm];rfl
   have ao:∀ {gt:D->Aa->M Aa} {ft:Aa->M Bool} {fe:Aa->M D} {ρ:Aa},(∀d∈xs,∃ρ1,gt d ρ=.ok ρ1/\ft ρ1=.ok true/\fe ρ1=.ok (.bl (K6 d m)))->Bi gt ft fe xs ρ=.ok ((xs.map λ e=>K6 e m).map D.bl):=λ h=>by
    rw[Oa (λ d=>.bl (K6 d m)) xs h,yj];rfl
   cases h2:(xs.map λ e=>K6 e m).all id with
   |false =>
    have hf:Eu m (.lst xs)=false:=by
     cases q:Eu m (.lst xs) with
     |false=>rfl
     |true=>have:=(Rf q).2;rw[h2] at this;cases this
    rw[hf];simp_arith[if_pos hl];rw[ao]
    ·simp_arith[h2];rfl
    ·intro d hd;have:=AI d m (bB d hd);exact⟨_,rfl,rfl,by simp_arith[n0,this]⟩
   |true =>
    obtain⟨L,rfl⟩:=UE h2;rw[ze] at h1;have hs:=VG (ns:=L) (by omega);have h3:=Pj (n:=m) (by omega);rw[MO] at h3;apply wp_step
    ·simp_arith[if_pos hl];rw[ao]
     ·simp_arith[h2];rfl
     ·intro d hd;have:=AI d m (bB d hd);exact⟨_,rfl,rfl,by simp_arith[n0,this]⟩
    simp_arith[n0,hs,h3,Yd];rw[MR];rfl
  ·have dm:¬ (xs.length:Int)=(m:Int):=by omega
   rw[dN h1];simp_arith[n0,decide_eq_false dm];rfl
 |Dp x=>cases hx
 |ins x n d=>cases hx
 |_=>rfl
noncomputable def OF:List D->M OT:=zh GV
def RM:Txt K mg->BO P w K mg base "is_order" 2 2 OF:=(zb GV).1
def L3:∀(m:Nat) (x d:D),m<=60->oY d->OF [.tup [.int m,x],d]=.ok (.sh (.bl (Eu m d))):=(zb GV).2
def D4:∃F:List D->M OT,(∀ {P w K mg base},Txt K mg->BO P w K mg base "checked_order" 3 2 F)/\((∀(m:Nat) (x:D) (L:List Int),m<=60->L.Perm (AZ m)->F [.tup [.int m,x],.lst (L.map .int)]=.ok (.lst ((L.map D.int).map .sh)))/\(∀(m:Nat) (x d:D),m<=60->oY d->Eu m d=false->F [.tup [.int m,x],d]=.ex "NoOrder")):=by
 refine⟨_,λ T=>AF (k:=2) T.Lk Kz _ (λ f B4 A outer s H E hr=>(A4 (B5 (Bv (Bj (c:=true) (An (Ac A9.toXCall (RM T) (hr.mono (by decide)) rfl (A2 (A1 0 (pv 0)) (A2 (A1 1 (pv 1)) A8)) rfl)))) (A5 (Kf (c:=true) T.Wi A9 rfl rfl Sn)) Av) (A5 (Aj (Jd rfl T.Fx (A1 1 (pv 1))))))),?_⟩;refine⟨λ m x L hm hL=>?_,λ m x d hm hd ho=>?_⟩
 ·have e0:AE ["net","thing"] [.tup [.int m,x],.lst (L.map .int)]=[some (.val (.tup [.int m,x])),some (.val (.lst (L.map .int)))]:=rfl;rw[e0];have hd:oY (.lst (L.map D.int)):=⟨rfl,λ xs e=>by
   cases e;exact⟨by rw[ze,E8 hL];omega,λ e he=>by obtain⟨j,_,rfl⟩:=zM.mp he;rfl⟩⟩
  have h1:=L3 m x _ hm hd;rw[SQ hL] at h1;refine Bl ?_;apply wp_step
  ·simp_arith[h1];rfl
  simp_arith[];exact⟨_,rfl,rfl⟩
 ·have e0:AE ["net","thing"] [.tup [.int m,x],d]=[some (.val (.tup [.int m,x])),some (.val d)]:=rfl;rw[e0];have h1:=L3 m x _ hm hd;rw[ho] at h1;simp_arith[h1];rfl
noncomputable def CJ:List D->M OT:=zh D4
def KG:Txt K mg->BO P w K mg base "checked_order" 3 2 CJ:=(zb D4).1
def KH:(∀(m:Nat) (x:D) (L:List Int),m<=60->L.Perm (AZ m)->CJ [.tup [.int m,x],.lst (L.map .int)]=.ok (.lst ((L.map D.int).map .sh)))/\(∀(m:Nat) (x d:D),m<=60->oY d->Eu m d=false->CJ [.tup [.int m,x],d]=.ex "NoOrder"):=(zb D4).2
def ES:∃F:List D->M OT,(∀ {P w K mg base},Txt K mg->BO P w K mg base "first_bows" 2 1 F)/\(∀(m:Nat) (rs:List Road),m<=20->(∀r∈rs,Ko m r/\r.a≠r.b)->F [Am m rs]=.ok (.Ba true ((BC rs).map pD) ((CP (BC rs)).map .sh))):=by
 refine⟨_,λ T=>AF (k:=1) T.PZ EL _ (λ f B4 A outer s H E hr=>(A4 (BP 1 EL.nd rfl (zV rfl) (QQ true)) (A4 (BU A9.toXCall.own rfl (B6 (Ad (B0 hr 16 (by decide)) (A1 0 (pv 0)) A6)) (AU 2 EL.nd rfl (zV rfl)) (A5 (B5 (Lr (c:=true) (An (Ac A9.toXCall (FC T) (hr.mono (by decide)) rfl (A2 (A1 2 (pv 2)) A8) rfl))) (A5 (Jl (B0 hr 16 (by decide)) (Bc 1 (pv 1)) (AJ (A2 (Ad (B0 hr 16 (by decide)) (A1 2 (pv 2)) A6) (A2 (Ad (B0 hr 16 (by decide)) (A1 2 (pv 2)) A6) A8))) C9)) Av))) (A5 (D7 1 (pv 1)))))),?_⟩;intro m rs hm Ax;have e0:AE ["net","bows","road"] [Am m rs]=[some (.val (Am m rs)),none,none]:=rfl;rw[e0];refine Bl ?_;apply wp_step
 ·rfl
 have n1:Bd (Am m rs) (.int 1)=.ok (.lst (rs.map DD)):=rfl;refine C3 (I:=λ ρ=>∃s2,ρ=[some (.val (Am m rs)),some (.ow (.tree none (.Ba true ((BC rs).map pD) ((CP (BC rs)).map .sh)))),s2]) ?_ ?_
 ·simp_arith[n1];refine BL (λ i ρ=>∃s2,ρ=[some (.val (Am m rs)),some (.ow (.tree none (.Ba true ((BC (rs.take i)).map pD) ((CP (BC (rs.take i))).map .sh)))),s2]) ⟨none,rfl⟩ ?_ ?_
  ·rintro i d ρ hd ⟨s2,rfl⟩;rw[zI] at hd;cases hq:rs[i]? with
   |none=>rw[hq] at hd;cases hd
   |some r =>
    rw[hq] at hd;cases hd;have hr:=zo hq;have et:rs.take (i+1)=rs.take i++[r]:=by rw[yl,hq];rfl
    have eb:BC (rs.take (i+1))=(match r.l with|none=>BC (rs.take i)|some _=>Kr (BC (rs.take i)) (r.a,r.b)):=by
     unfold BC;rw[et,List.foldl_append];rfl
    have wb:=Rb (m:=m) (rs:=rs.take i) λ r' h'=>Ax r' (yn h');have hlen:=wb.len hm;have h1:=FD r;refine⟨_,rfl,?_⟩;cases hl:r.l with
    |none =>
     have e1:De r=none:=by unfold De;rw[hl]
     rw[hl] at eb;rw[e1] at h1;simp_arith[h1,cst,BE];exact⟨_,by rw[eb]⟩
    |some l =>
     have e1:De r=some (l,1):=by unfold De;rw[hl]
     rw[hl] at eb;rw[e1] at h1;have i0:Bd (DD r) (.int 0)=.ok (.int r.a):=rfl;have i1:Bd (DD r) (.int 1)=.ok (.int r.b):=rfl;have kk:keyOk true (D.tup [.int r.a,.int r.b])=true/\((BC (rs.take i)).map pD).length<1000:=⟨rfl,by rw[ze];exact hlen⟩;have pp:putD ((BC (rs.take i)).map pD) (CP (BC (rs.take i))) (D.tup [.int r.a,.int r.b]) (.bl true)=_:=UD (BC (rs.take i)) (r.a,r.b);simp_arith[h1,cst,BE,Bool.not_false,if_true,i0,i1,if_pos kk,pp];exact⟨_,by rw[eb]⟩
  ·rintro ρ ⟨s2,rfl⟩;rw[ze,yh];exact⟨s2,rfl⟩
 ·rintro ρ ⟨s2,rfl⟩;exact⟨_,rfl,rfl⟩
noncomputable def L4:List D->M OT:=zh ES
def NL:Txt K mg->BO P w K mg base "first_bows" 2 1 L4:=(zb ES).1
def NM:∀(m:Nat) (rs:List Road),m<=20->(∀r∈rs,Ko m r/\r.a≠r.b)->L4 [Am m rs]=.ok (.Ba true ((BC rs).map pD) ((CP (BC rs)).map .sh)):=(zb ES).2
def Dl:∃F:List D->M OT,(∀ {P w K mg base},Txt K mg->BO P w K mg base "missing_bows" 1 3 F)/\(∀(B:List (Int×Int)) (vs:List D) (L:List Int) (v:Int),L.length<=30->F [.Ba true (B.map pD) vs,.lst (L.map .int),.int v]=.ok (.lst (((B2 B L v).map pD).map .sh))):=by
 refine⟨_,λ T=>AF (k:=0) T.N5 BH _ (λ f B4 A outer s H E hr=>(A4 (Pa (NB:=["u","bows","place"]) 3 [none,some 0,some 2] BH.nd rfl (zV rfl) rfl (B6 (A1 1 (pv 1))) rfl rfl (CB 0 (by decide) rfl rfl rfl) (λ _ _ _ _=>J7 (Km (c:=true) (B0 hr 16 (by decide)) (AJ (A2 (A1 0 (pv 0)) (A2 (A1 2 (pv 2)) A8))) (A1 1 (pv 1)))) (λ _ _ _ _=>(A1 0 (pv 0)))) (A4 (Pa (NB:=["w","bows","place"]) 4 [none,some 0,some 2] BH.nd rfl (zV rfl) rfl (B6 (A1 1 (pv 1))) rfl rfl (CB 0 (by decide) rfl rfl rfl) (λ _ _ _ _=>J7 (Km (c:=true) (B0 hr 16 (by decide)) (AJ (A2 (A1 2 (pv 2)) (A2 (A1 0 (pv 0)) A8))) (A1 1 (pv 1)))) (λ _ _ _ _=>(A1 0 (pv 0)))) (A4 (BP 5 BH.nd rfl (zV rfl) (Gp CC)) (A4 (BU A9.toXCall.own rfl (B6 (A1 3 (pv 3))) (AU 6 BH.nd rfl (Or.inr rfl)) (A5 (XH (Bc 5 (pv 5)) (by exact (Ds (NB:=["w","u","bows"]) [none,some 6,some 0] rfl (B6 (A1 4 (pv 4))) rfl rfl (CB 0 (by decide) rfl rfl rfl) (λ _ _ _ _=>J7 (DW.dt (Ml (J3 (c:=true) (B0 hr 16 (by decide)) (A1 1 (pv 1)) (A1 0 (pv 0))) (J4 (Ji (c:=true) (B0 hr 16 (by decide)) (AJ (A2 (A1 1 (pv 1)) (A2 (A1 0 (pv 0)) A8))) (A1 2 (pv 2))))))) (λ _ _ _ _=>(AJ (A2 (A1 1 (pv 1)) (A2 (A1 0 (pv 0)) A8))))))))) (A5 (D7 5 (pv 5)))))))),?_⟩;intro B vs L v hl;have e0:AE ["bows","left","place","ahead","behind","missing","u"] [.Ba true (B.map pD) vs,.lst (L.map .int),.int v]=[some (.val (.Ba true (B.map pD) vs)),some (.val (.lst (L.map .int))),some (.val (.int v)),none,none,none,none]:=rfl;rw[e0];refine Bl ?_;have hL:(L.map D.int).length<=1000:=by rw[ze];omega
 apply wp_step
 ·simp_arith[if_pos hL];rw[CY (λ u=>decide ((u,v)∈B)) D.int (λ u hu=>⟨_,rfl,by simp[oP,oQ,LP,zx,zu,M.A7,Hn,Hm,Jc,Jx,Jy,Jz,LF,Iq,Gs,Oj,Jo,Jp,Hq,Ub,LB,LC,Jq,cH,Hr,Hs,Fl,Pm,CW,Pn,Jr,Js,Ht,Ue,Jn,F1,toCl_list,toCl_listP,toCl_dct,LG,JA,JB,JC,JD,LH,JE,JF,JG,lI,lH,Jt,Ug,Ju,Uh,Jv,Jw,LD,Ui,qD,qE,cK,cL,cM,cN,cO,cP,toCl_nil,J8,Mz,O5,Po,Hu,LI,LJ,JH,JI,LK,LL,LM,LN,LO,JJ,JK,JL,JM,Hv,Hw,Hx,Hy,Hz,JN,HA,HB,Uj,Uk,Ul,Um,Uo,HC,ite_tt,ite_ff,Bool.not_true,Bool.not_false,y4,zQ,F5,JT,JU,cJ,dO,cI,dR,dS,dU,LS,PB,PD,PF,DF,HK,LU,Pt,eC,UN,PM,Pu],λ _=>by simp_arith[]⟩)];simp_arith[];rfl
 apply wp_step
 ·simp_arith[if_pos hL];rw[CY (λ w=>decide ((v,w)∈B)) D.int (λ u hu=>⟨_,rfl,by simp[oP,oQ,LP,zx,zu,M.A7,Hn,Hm,Jc,Jx,Jy,Jz,LF,Iq,Gs,Oj,Jo,Jp,Hq,Ub,LB,LC,Jq,cH,Hr,Hs,Fl,Pm,CW,Pn,Jr,Js,Ht,Ue,Jn,F1,toCl_list,toCl_listP,toCl_dct,LG,JA,JB,JC,JD,LH,JE,JF,JG,lI,lH,Jt,Ug,Ju,Uh,Jv,Jw,LD,Ui,qD,qE,cK,cL,cM,cN,cO,cP,toCl_nil,J8,Mz,O5,Po,Hu,LI,LJ,JH,JI,LK,LL,LM,LN,LO,JJ,JK,JL,JM,Hv,Hw,Hx,Hy,Hz,JN,HA,HB,Uj,Uk,Ul,Um,Uo,HC,ite_tt,ite_ff,Bool.not_true,Bool.not_false,y4,zQ,F5,JT,JU,cJ,dO,cI,dR,dS,dU,LS,PB,PD,PF,DF,HK,LU,Pt,eC,UN,PM,Pu],λ _=>by simp_arith[]⟩)];simp_arith[];rfl
 apply wp_step
 ·rfl
 try simp only[zx,zu]
 have um:((L.filter λ w=>decide ((v,w)∈B)).map D.int).length<=1000:=by rw[ze];exact zY (yD _ _) (by omega)
 have hlen:=VU B L v;have ph:L.length*L.length<=30*30:=Nat.mul_le_mul hl hl;generalize hA:L.filter (λ u=>decide ((u,v)∈B))=A;generalize hW:L.filter (λ w=>decide ((v,w)∈B))=W at um ⊢;obtain⟨G,hG⟩:∃G:Int->List (Int×Int),G=λ u=>((W.filter λ w=>decide (u≠w) && !decide ((u,w)∈B)).map λ w=>(u,w)):=⟨_,rfl⟩;have d5:B2 B L v=A.flatMap G:=by unfold B2;rw[hA,hW,hG]
 refine C3 (I:=λ ρ=>∃s6,ρ=[some (.val (.Ba true (B.map pD) vs)),some (.val (.lst (L.map .int))),some (.val (.int v)),some (.val (.lst (A.map .int))),some (.val (.lst (W.map .int))),some (.own ((A.flatMap G).map pD)),s6]) ?_ ?_
 ·simp_arith[];refine BL (λ i ρ=>∃s6,ρ=[some (.val (.Ba true (B.map pD) vs)),some (.val (.lst (L.map .int))),some (.val (.int v)),some (.val (.lst (A.map .int))),some (.val (.lst (W.map .int))),some (.own (((A.take i).flatMap G).map pD)),s6]) ⟨none,rfl⟩ ?_ ?_
  ·rintro i d ρ hd ⟨s6,rfl⟩;obtain⟨u,hu,rfl⟩:=Bw hd;have et:A.take (i+1)=A.take i++[u]:=by rw[yl,hu];rfl
   refine⟨_,rfl,?_⟩;have hb:(((A.take i).flatMap G).map pD).length+((G u).map pD).length<=1000:=by
    have h1:((A.take (i+1)).flatMap G).length<=(A.flatMap G).length:=by
     conv=>rhs;rw[<-yw (i+1) A,List.flatMap_append,zK]
     omega
    rw[et,List.flatMap_append,zK] at h1;rw[d5] at hlen;simp only[List.flatMap_cons,List.flatMap_nil,zX] at h1;rw[ze,ze];omega
   have j5:(((W.filter λ w=>decide (u≠w) && !decide ((u,w)∈B)).map λ w=>(u,w)).map pD)=(W.filter λ w=>decide (u≠w) && !decide ((u,w)∈B)).map λ w=>D.tup [.int u,.int w]:=by rw[yj];rfl
   refine Bt (ρ':=[some (.val (.Ba true (B.map pD) vs)),some (.val (.lst (L.map .int))),some (.val (.int v)),some (.val (.lst (A.map .int))),some (.val (.lst (W.map .int))),some (.own (((A.take (i+1)).flatMap G).map pD)),some (.val (.int u))]) ?_ ⟨_,rfl⟩;simp_arith[if_pos um];rw[CY (λ w=>decide (u≠w) && !decide ((u,w)∈B)) (λ w=>D.tup [.int u,.int w]) (λ w hw=>⟨_,rfl,by
    simp[oP,oQ,LP,zx,zu,M.A7,Hn,Hm,Jc,Jx,Jy,Jz,LF,Iq,Gs,Oj,Jo,Jp,Hq,Ub,LB,LC,Jq,cH,Hr,Hs,Fl,Pm,CW,Pn,Jr,Js,Ht,Ue,Jn,F1,toCl_list,toCl_listP,toCl_dct,LG,JA,JB,JC,JD,LH,JE,JF,JG,lI,lH,Jt,Ug,Ju,Uh,Jv,Jw,LD,Ui,qD,qE,cK,cL,cM,cN,cO,cP,toCl_nil,J8,Mz,O5,Po,Hu,LI,LJ,JH,JI,LK,LL,LM,LN,LO,JJ,JK,JL,JM,Hv,Hw,Hx,Hy,Hz,JN,HA,HB,Uj,Uk,Ul,Um,Uo,HC,ite_tt,ite_ff,Bool.not_true,Bool.not_false,y4,zQ,F5,JT,JU,cJ,dO,cI,dR,dS,dU,LS,PB,PD,PF,DF,HK,LU,Pt,eC,UN,PM,Pu,Zz,IS,AH,As];by_cases h:u=w<;>simp[h],λ _=>by simp_arith[]⟩)]
   rw[<-j5];have wc:((W.filter λ w=>decide (u≠w) && !decide ((u,w)∈B)).map λ w=>(u,w))=G u:=by rw[hG]
   rw[wc];simp_arith[if_pos hb];rw[et,List.flatMap_append,List.flatMap_cons,List.flatMap_nil,zX,<-zW]
  ·rintro ρ ⟨s6,rfl⟩;rw[ze,yh];exact⟨s6,rfl⟩
 ·rintro ρ ⟨s6,rfl⟩;rw[d5];exact⟨_,rfl,rfl⟩
noncomputable def I9:List D->M OT:=zh Dl
def FY:Txt K mg->BO P w K mg base "missing_bows" 1 3 I9:=(zb Dl).1
def FZ:∀(B:List (Int×Int)) (vs:List D) (L:List Int) (v:Int),L.length<=30->I9 [.Ba true (B.map pD) vs,.lst (L.map .int),.int v]=.ok (.lst (((B2 B L v).map pD).map .sh)):=(zb Dl).2
def GW:∃F:List D->M OT,(∀ {P w K mg base},Txt K mg->BO P w K mg base "lightest" 2 2 F)/\(∀(B:List (Int×Int)) (vs:List D) (L:List Int),L≠[]->L.length<=30->F [.Ba true (B.map pD) vs,.lst (L.map .int)]=.ok (.sh (.int (Bm B L)))):=by
 refine⟨_,λ T=>AF (k:=1) T.Tf Ru _ (λ f B4 A outer s H E hr=>(A5 (Aj (AL (Ad (B0 hr 16 (by decide)) (ZX rfl (B0 hr 16 (by decide)) rfl T.YI (An (Ds (NB:=["place","bows","left"]) [none,some 0,some 1] rfl (B6 (A1 1 (pv 1))) rfl rfl (CB 0 (by decide) rfl rfl rfl) (λ _ _ _ _=>Fi) (λ _ _ _ _=>(AJ (A2 (Fh rfl T.GN (An (BK (Ac (Bo rfl).toXCall (FY T) (hr.mono (by decide)) rfl (A2 (A1 1 (pv 1)) (A2 (A1 2 (pv 2)) (A2 (A1 0 (pv 0)) A8))) rfl)))) (A2 (A1 0 (pv 0)) A8))))))) A6))))),?_⟩;intro B vs L ae hl;have e0:AE ["bows","left"] [.Ba true (B.map pD) vs,.lst (L.map .int)]=[some (.val (.Ba true (B.map pD) vs)),some (.val (.lst (L.map .int)))]:=rfl;rw[e0];refine Bl ?_;have hL:(L.map D.int).length<=1000:=by rw[ze];omega
 simp_arith[if_pos hL];rw[E6 (λ p=>D.tup ([((B2 B L p).length:Int),p].map D.int)) (λ p hp=>⟨_,rfl,rfl,by
  have h1:=FZ B vs L p hl;simp_arith[h1,Vh,ze,zg,List.map_nil]⟩)]
 simp_arith[Ua];rw[Ox];have hb:=VW (λ p=>D.tup ([((B2 B L p).length:Int),p].map D.int)) (L.map λ p=>(p,[((B2 B L p).length:Int),p]));rw[yj] at hb;have e2:((λ b:Int×List Int=>(D.tup ([((B2 B L b.1).length:Int),b.1].map D.int),b.2)) ∘ λ p=>(p,[((B2 B L p).length:Int),p]))=λ p=>(D.tup ([((B2 B L p).length:Int),p].map D.int),[((B2 B L p).length:Int),p]):=rfl;rw[e2] at hb;dsimp only;rw[hb];unfold Bm;cases q:AX (L.map λ p=>(p,[((B2 B L p).length:Int),p])) with
 |none=>exact (MB (λ z=>ae (List.map_eq_nil_iff.mp z)) q).elim
 |some k =>
  simp only[yt,M.A7];rfl
noncomputable def OG:List D->M OT:=zh GW
def RN:Txt K mg->BO P w K mg base "lightest" 2 2 OG:=(zb GW).1
def RO:∀(B:List (Int×Int)) (vs:List D) (L:List Int),L≠[]->L.length<=30->OG [.Ba true (B.map pD) vs,.lst (L.map .int)]=.ok (.sh (.int (Bm B L))):=(zb GW).2
def KI:∃F:List D->M OT,(∀ {P w K mg base},Txt K mg->BO P w K mg base "ranked" 3 1 F)/\(∀(m:Nat) (rs:List Road),m<=20->(∀r∈rs,Ko m r/\r.a≠r.b)->F [Am m rs]=.ok (.lst (((Wr m (BC rs) (AZ m)).map D.int).map .sh))):=by
 refine⟨_,λ T=>AF (k:=2) T.YG DH _ (λ f B4 A outer s H E hr=>(A4 (BP 1 DH.nd rfl (zV rfl) (Ac A9.toXCall (NL T) (hr.mono (by decide)) rfl (A2 (A1 0 (pv 0)) A8) rfl)) (A4 (BP 2 DH.nd rfl (zV rfl) (Jm rfl rfl T.Fx rfl T.Fy (Ad (B0 hr 16 (by decide)) (A1 0 (pv 0)) A6))) (A4 (BP 3 DH.nd rfl (zV rfl) (Gp CC)) (A4 (QI A9.toXCall.own (Kl (Bj (c:=true) (A1 2 (pv 2)))) (A4 (B1 4 DH.nd rfl (zV rfl) (An (EF (Ac A9.toXCall (RN T) (hr.mono (by decide)) rfl (A2 (A1 1 (pv 1)) (A2 (A1 2 (pv 2)) A8)) rfl)))) (A4 (BU A9.toXCall.own rfl (B6 (An (EF (Ac A9.toXCall (FY T) (hr.mono (by decide)) rfl (A2 (A1 1 (pv 1)) (A2 (A1 2 (pv 2)) (A2 (A1 4 (pv 4)) A8))) rfl)))) (AU 5 DH.nd rfl (zV rfl)) (A5 (Jl (B0 hr 16 (by decide)) (Bc 1 (pv 1)) (A1 5 (pv 5)) C9))) (A4 (VC (Bc 2 (pv 2)) (A1 4 (pv 4))) (A5 (Vk 3 (pv 3) (A1 4 (pv 4)))))))) (A5 (D7 3 (pv 3)))))))),?_⟩;intro m rs hm Ax;have e0:AE ["net","bows","left","order","place","bow"] [Am m rs]=[some (.val (Am m rs)),none,none,none,none,none]:=rfl;rw[e0];refine Bl ?_;have h1:=NM m rs hm Ax;have n0:Bd (Am m rs) (.int 0)=.ok (.int m):=rfl;have h2:=Pj (n:=m) (by omega);rw[MO] at h2;apply wp_step
 ·simp_arith[h1];rfl
 apply wp_step
 ·simp_arith[n0,h2];rfl
 apply wp_step
 ·rfl
 try simp only[zx,zu]
 refine C3 (I:=λ ρ=>∃s1 s2 s4 s5,ρ=[some (.val (Am m rs)),s1,s2,some (.own ((Wr m (BC rs) (AZ m)).map D.int)),s4,s5]) ?_ ?_
 ·refine QR (lt:=λ a b:Nat=>a<b) (λ n ρ=>∃(B:List (Int×Int)) (L O:List Int) (s4 s5:Option Cl),ρ=[some (.val (Am m rs)),some (.ow (.tree none (.Ba true (B.map pD) ((CP B).map .sh)))),some (.own (L.map D.int)),some (.own (O.map D.int)),s4,s5]/\L.length=n/\n+O.length=m/\C5 m B/\(∀p∈L,0<=p/\p<(m:Int))/\O++Wr n B L=Wr m (BC rs) (AZ m)) (Nat.lt_wfRel.wf.apply m) ⟨BC rs,AZ m,[],none,none,rfl,Gx m,by simp,Rb Ax,λ p hp=>JS.mp hp,rfl⟩ ?_;rintro n ρ ⟨B,L,O,s4,s5,rfl,hn,hO,hB,hL,da⟩;by_cases jr:L=[]
  ·subst jr;left;have:n=0:=by simpa using hn.symm
   subst this;rw[Wr,zX] at da;exact⟨rfl,⟨_,_,_,_,by rw[da]⟩⟩
  ·right;have js:L.length<=30:=by omega
   have q1:=RO B (CP B) L jr js;have q2:=FZ B (CP B) L (Bm B L) js;obtain⟨aE,_⟩:=VY (B:=B) jr;have jt:0<L.length:=List.length_pos_of_mem aE;obtain⟨n',rfl⟩:∃n',n=n'+1:=⟨n-1,by omega⟩;rw[Wr,if_neg jr] at da;constructor
   ·simp_arith[XQ];cases L with
    |nil=>exact (jr rfl).elim
    |cons x r=>rfl
   apply wp_step
   ·simp_arith[q1,jQ cR];rfl
   try simp only[zx,zu]
   have jl:Jb ((B2 B L (Bm B L)).map pD)=true:=QT Y9 _;refine C3 (I:=λ ρ=>∃s5,ρ=[some (.val (Am m rs)),some (.ow (.tree none (.Ba true ((C4 B (B2 B L (Bm B L))).map pD) ((CP (C4 B (B2 B L (Bm B L)))).map .sh)))),some (.own (L.map D.int)),some (.own (O.map D.int)),some (.val (.int (Bm B L))),s5]) ?_ ?_
   ·simp_arith[q2,cQ jl];refine BL (λ i ρ=>∃s5,ρ=[some (.val (Am m rs)),some (.ow (.tree none (.Ba true ((C4 B ((B2 B L (Bm B L)).take i)).map pD) ((CP (C4 B ((B2 B L (Bm B L)).take i))).map .sh)))),some (.own (L.map D.int)),some (.own (O.map D.int)),some (.val (.int (Bm B L))),s5]) ⟨s5,rfl⟩ ?_ ?_
    ·rintro i d ρ hd ⟨s5,rfl⟩;obtain⟨p,hp,rfl⟩:=Bw hd;refine⟨_,rfl,?_⟩;have we:C5 m (C4 B ((B2 B L (Bm B L)).take i)):=hB.C4 λ q hq=>by
      have:=Oy (yn hq);exact⟨this.2.2,hL _ this.1,hL _ this.2.1⟩
     have kk:keyOk true (pD p)=true/\((C4 B ((B2 B L (Bm B L)).take i)).map pD).length<1000:=⟨rfl,by rw[ze];exact we.len hm⟩;have et:(B2 B L (Bm B L)).take (i+1)=(B2 B L (Bm B L)).take i++[p]:=by rw[yl,hp];rfl
     have ea:C4 B ((B2 B L (Bm B L)).take (i+1))=Kr (C4 B ((B2 B L (Bm B L)).take i)) p:=by
      unfold C4;rw[et,List.foldl_append];rfl
     simp_arith[if_pos kk,UD];exact⟨_,by rw[ea]⟩
    ·rintro ρ ⟨s5,rfl⟩;rw[ze,yh];exact⟨s5,rfl⟩
   ·rintro ρ ⟨s5,rfl⟩;have wg:(O.map D.int).length<1000:=by rw[ze];omega
    apply wp_step
    ·simp_arith[CU,if_pos aE];rfl
    refine Bt (ρ':=[some (.val (Am m rs)),some (.ow (.tree none (.Ba true ((C4 B (B2 B L (Bm B L))).map pD) ((CP (C4 B (B2 B L (Bm B L)))).map .sh)))),some (.own ((L.erase (Bm B L)).map D.int)),some (.own ((O++[Bm B L]).map D.int)),some (.val (.int (Bm B L))),s5]) ?_ ?_
    ·simp_arith[if_pos wg,zW,zg,List.map_nil]
    ·have hlen:=List.length_erase_of_mem aE;refine⟨n',by omega,_,_,_,_,_,rfl,by omega,by rw[zK];simp;omega,hB.C4 λ q hq=>?_,λ p hp=>hL p (List.mem_of_mem_erase hp),?_⟩
     ·have:=Oy hq;exact⟨this.2.2,hL _ this.1,hL _ this.2.1⟩
     ·rw[y7];exact da
 ·rintro ρ ⟨s1,s2,s4,s5,rfl⟩;exact⟨_,rfl,rfl⟩
noncomputable def UR:List D->M OT:=zh KI
def Wl:Txt K mg->BO P w K mg base "ranked" 3 1 UR:=(zb KI).1
def Wm:∀(m:Nat) (rs:List Road),m<=20->(∀r∈rs,Ko m r/\r.a≠r.b)->UR [Am m rs]=.ok (.lst (((Wr m (BC rs) (AZ m)).map D.int).map .sh)):=(zb KI).2
def ET:∃F:List D->M OT,(∀ {P w K mg base},Txt K mg->BO P w K mg base "costs_from" 2 2 F)/\(∀(m s:Nat) (rs:List Road),s<m->m<=900->(∀r∈rs,Ko m r)->∃cs:List Co,Right m s rs cs/\F [Am m rs,.int s]=.ok (.lst ((cs.map cst).map .sh))):=by
 refine⟨_,λ T=>AF (k:=1) T.Q0 Bs _ (λ f B4 A outer s H E hr=>(A4 (BP 2 Bs.nd rfl (zV rfl) (jS Gd (Ad (B0 hr 16 (by decide)) (A1 0 (pv 0)) A6))) (A4 (Xs 2 (pv 2) (AJ (A2 A6 (A2 A6 A8))) (A1 1 (pv 1))) (A4 (B1 3 Bs.nd rfl (zV rfl) C9) (A4 (QI A9.toXCall.own (Bj (c:=true) (A1 3 (pv 3))) (A4 (B1 3 Bs.nd rfl (zV rfl) C9) (A5 (BU A9.toXCall.own rfl (B6 (Ad (B0 hr 16 (by decide)) (A1 0 (pv 0)) A6)) (AU 4 Bs.nd rfl (zV rfl)) (A4 (B1 5 Bs.nd rfl (zV rfl) (An (EF (Ac A9.toXCall (RH T) (hr.mono (by decide)) rfl (A2 (Ii (A2 (Ad (B0 hr 16 (by decide)) (A1 2 (pv 2)) (Ad (B0 hr 16 (by decide)) (A1 4 (pv 4)) A6)) (A2 (An (Ac A9.toXCall (N9 T) (hr.mono (by decide)) rfl (A2 (Ad (B0 hr 16 (by decide)) (A1 2 (pv 2)) (Ad (B0 hr 16 (by decide)) (A1 4 (pv 4)) A6)) (A2 (An (Ac A9.toXCall (FC T) (hr.mono (by decide)) rfl (A2 (A1 4 (pv 4)) A8) rfl)) A8)) rfl)) A8))) A8) rfl)))) (A5 (B5 (Kl (J3 (c:=true) (B0 hr 16 (by decide)) (A1 5 (pv 5)) (Ad (B0 hr 16 (by decide)) (A1 2 (pv 2)) (Ad (B0 hr 16 (by decide)) (A1 4 (pv 4)) A6)))) (A4 (Xs 2 (pv 2) (A1 5 (pv 5)) (Ad (B0 hr 16 (by decide)) (A1 4 (pv 4)) A6)) (A5 (B1 3 Bs.nd rfl (zV rfl) C9))) Av))))))) (A5 (D7 2 (pv 2)))))))),?_⟩;intro m s rs hs hm Ax;have e0:AE ["net","start","costs","changed","road","cost"] [Am m rs,.int s]=[some (.val (Am m rs)),some (.val (.int s)),none,none,none,none]:=rfl;rw[e0];refine (λ h:∃t,_/\∃cs:List Co,Right m s rs cs/\t=.lst ((cs.map cst).map .sh)=>by
  obtain⟨t,h1,cs,h2,rfl⟩:=h;exact⟨cs,h2,h1⟩) (ME ?_)
 have n0:Bd (Am m rs) (.int 0)=.ok (.int m):=rfl;have n1:Bd (Am m rs) (.int 1)=.ok (.lst (rs.map DD)):=rfl;have ju:=XS (d:=.AD) (n:=m) (by omega);have pj:zy m D.AD=(zy m (none:Co)).map cst:=by rw[List.map_replicate];rfl
 rw[pj] at ju;apply wp_step
 ·simp_arith[n0,ju];rfl
 try simp only[zx,zu]
 have be:=UG (i:=2) (ρ:=[some (.val (Am m rs)),some (.val (.int s)),some (.own ((zy m (none:Co)).map cst)),none,none,none]) (d:=.tup [.int 0,.int 0]) (p:=(s:Int)) rfl (by omega) (by rw[ze,List.length_replicate];omega);have gi:((zy m (none:Co)).map cst).set (s:Int).toNat (.tup [.int 0,.int 0])=((zy m none).set s (some (0,0))).map cst:=by rw[y8,List.map_set];rfl
 rw[gi] at be;apply wp_step
 ·simp_arith[be];rfl
 try simp only[zx,zu]
 apply wp_step
 ·rfl
 try simp only[zx,zu]
 refine C3 (I:=λ ρ=>∃(cs:List Co) (s3 s4 s5:Option Cl),ρ=[some (.val (Am m rs)),some (.val (.int s)),some (.own (cs.map cst)),s3,s4,s5]/\Right m s rs cs) ?_ ?_
 ·refine QR (lt:=sF) (λ z ρ=>∃(s4 s5:Option Cl),ρ=[some (.val (Am m rs)),some (.val (.int s)),some (.own (z.1.map cst)),some (.val (.bl z.2)),s4,s5]/\Good m s rs z.1/\(z.2=false->Right m s rs z.1)) (kL _) ⟨none,none,rfl,SN rs hs,λ e=>by cases e⟩ ?_;rintro ⟨cs,b⟩ ρ ⟨s4,s5,rfl,g,hR⟩;cases b with
  |false=>exact .inl ⟨rfl,cs,_,s4,s5,rfl,hR rfl⟩
  |true =>
   refine .inr ⟨rfl,?_⟩;apply wp_step
   ·rfl
   try simp only[zx,zu]
   simp_arith[n1];refine BL (λ i ρ=>∃(a4:List Co) (ch:Bool) (s4 s5:Option Cl),ρ=[some (.val (Am m rs)),some (.val (.int s)),some (.own (a4.map cst)),some (.val (.bl ch)),s4,s5]/\Good m s rs a4/\(ch=true->Np ltN a4 cs)/\(ch=false->a4=cs/\∀r∈rs.take i,EU (atC cs r.b) (AN (atC cs r.a) (De r))=atC cs r.b)) ⟨cs,false,s4,s5,rfl,g,(λ h=>by cases h),λ _=>⟨rfl,λ r hr=>by rw[List.take_zero] at hr;cases hr⟩⟩ ?_ ?_
   ·rintro i d ρ hd ⟨a4,ch,s4,s5,rfl,g1,h1,h2⟩;obtain⟨r,hq,rfl⟩:=Bw hd;have hr:=zo hq;have ok:=Ax r hr;obtain⟨g2,_,g4,g5⟩:=VR g1 hr Ax;have h9:r.b<a4.length:=by rw[g1.len];exact ok.b1
    have wj:r.a<a4.length:=by rw[g1.len];exact ok.a1
    have r0:Bd (DD r) (.int 0)=.ok (.int r.a):=rfl;have r1:Bd (DD r) (.int 1)=.ok (.int r.b):=rfl;have x0:Bd (.lst (a4.map cst)) (.int r.a)=.ok (cst (atC a4 r.a)):=MM ok.a0 wj;have x1:Bd (.lst (a4.map cst)) (.int r.b)=.ok (cst (atC a4 r.b)):=MM ok.b0 h9;have wk:=FD r;have wl:=Na (atC a4 r.a) (De r);have hle:Q1 [.lst [cst (atC a4 r.b),cst (AN (atC a4 r.a) (De r))]]=.ok (.sh (cst (EU (atC a4 r.b) (AN (atC a4 r.a) (De r))))):=RI [atC a4 r.b,AN (atC a4 r.a) (De r)] (by simp);have ae:=dI (EU (atC a4 r.b) (AN (atC a4 r.a) (De r))) (atC a4 r.b);refine⟨_,rfl,?_⟩;apply wp_step
    ·simp_arith[r0,r1,x0,x1,wk,wl,hle];rfl
    try simp only[zx,zu]
    by_cases hc:EU (atC a4 r.b) (AN (atC a4 r.a) (De r))=atC a4 r.b
    ·rw[decide_eq_true hc] at ae;refine Bt (ρ':=_) (by simp_arith[r1,x1,ae];rfl) ⟨a4,ch,_,_,rfl,g1,h1,λ hf=>?_⟩;obtain⟨e1,e2⟩:=h2 hf;subst e1;refine⟨rfl,λ r' dv=>?_⟩;rw[yl,hq] at dv;rcases zC.mp dv with dv|dv
     ·exact e2 r' dv
     ·have:r'=r:=by simpa using dv
      rw[this];exact hc
    ·rw[decide_eq_false hc] at ae;have be:=UG (i:=2) (ρ:=[some (.val (Am m rs)),some (.val (.int s)),some (.own (a4.map cst)),some (.val (.bl ch)),some (.val (DD r)),some (.val (cst (EU (atC a4 r.b) (AN (atC a4 r.a) (De r)))))]) (d:=cst (EU (atC a4 r.b) (AN (atC a4 r.a) (De r)))) (p:=r.b) rfl ok.b0 (by rw[ze];exact h9);have gi:(a4.map cst).set r.b.toNat (cst (EU (atC a4 r.b) (AN (atC a4 r.a) (De r))))=(CZ r a4).map cst:=by unfold CZ;rw[List.map_set]
     rw[gi] at be;simp_arith[r1,x1,ae,if_true];apply wp_step
     ·simp_arith[r1,be];rfl
     refine Bt (ρ':=_) rfl ⟨CZ r a4,true,_,_,rfl,g2,λ _=>?_,λ hf=>by cases hf⟩;cases ch with
     |false=>obtain⟨e1,_⟩:=h2 rfl;subst e1;exact g5 hc
     |true=>exact Np.trans ltN VP (g5 hc) (h1 rfl)
   ·rintro ρ' ⟨a4,ch,s4,s5,rfl,g1,h1,h2⟩;cases ch with
    |true=>exact⟨(a4,true),⟨rfl,.inr ⟨rfl,h1 rfl⟩⟩,s4,s5,rfl,g1,λ e=>by cases e⟩
    |false =>
     obtain⟨e1,e2⟩:=h2 rfl;subst e1;rw[ze,yh] at e2;exact⟨(a4,false),⟨rfl,.inl rfl⟩,s4,s5,rfl,g1,λ _=>right_of g1 e2⟩
 ·rintro ρ' ⟨cs,s3,s4,s5,rfl,hR⟩;exact⟨_,rfl,cs,hR,rfl⟩
noncomputable def L5:List D->M OT:=zh ET
def NO:Txt K mg->BO P w K mg base "costs_from" 2 2 L5:=(zb ET).1
def NP:∀(m s:Nat) (rs:List Road),s<m->m<=900->(∀r∈rs,Ko m r)->∃cs:List Co,Right m s rs cs/\L5 [Am m rs,.int s]=.ok (.lst ((cs.map cst).map .sh)):=(zb ET).2
def Cn:∃F:List D->M OT,(∀ {P w K mg base},Txt K mg->BO P w K mg base "order_or_ranked" 4 2 F)/\(∀(m:Nat) (rs:List Road),m<=20->(∀r∈rs,Ko m r/\r.a≠r.b)->(∀L:List Int,L.Perm (AZ m)->F [Am m rs,.lst (L.map .int)]=.ok (.lst ((L.map D.int).map .sh)))/\F [Am m rs,.AD]=.ok (.lst (((Wr m (BC rs) (AZ m)).map D.int).map .sh))):=by
 refine⟨_,λ T=>AF (k:=3) T.K2 IB _ (λ f B4 A outer s H E hr=>(A4 (B5 (Gg (c:=true) (A1 1 (pv 1))) (A5 (Aj (Ac A9.toXCall (Wl T) (hr.mono (by decide)) rfl (A2 (A1 0 (pv 0)) A8) rfl))) Av) (A5 (Aj (Ac A9.toXCall (KG T) (hr.mono (by decide)) rfl (A2 (A1 0 (pv 0)) (A2 (A1 1 (pv 1)) A8)) rfl))))),?_⟩;intro m rs hm Ax;have h1:=Wm m rs hm Ax;refine⟨λ L hL=>?_,?_⟩
 ·have h2:CJ [Am m rs,.lst (L.map .int)]=.ok (.lst ((L.map D.int).map .sh)):=KH.1 m (.lst (rs.map DD)) L (by omega) hL;have e0:AE ["net","order"] [Am m rs,.lst (L.map .int)]=[some (.val (Am m rs)),some (.val (.lst (L.map .int)))]:=rfl;rw[e0];refine Bl ?_;apply wp_step
  ·rfl
  simp_arith[h2];exact⟨_,rfl,rfl⟩
 ·have e0:AE ["net","order"] [Am m rs,.AD]=[some (.val (Am m rs)),some (.val .AD)]:=rfl;rw[e0];refine Bl ?_;simp_arith[BE,h1];exact⟨_,rfl,rfl⟩
noncomputable def BZ:List D->M OT:=zh Cn
def IM:Txt K mg->BO P w K mg base "order_or_ranked" 4 2 BZ:=(zb Cn).1
def Em:∀(m:Nat) (rs:List Road),m<=20->(∀r∈rs,Ko m r/\r.a≠r.b)->(∀L:List Int,L.Perm (AZ m)->BZ [Am m rs,.lst (L.map .int)]=.ok (.lst ((L.map D.int).map .sh)))/\BZ [Am m rs,.AD]=.ok (.lst (((Wr m (BC rs) (AZ m)).map D.int).map .sh)):=(zb Cn).2
def FF:∃F:List D->M OT,(∀ {P w K mg base},Txt K mg->BO P w K mg base "kept_arcs" 3 2 F)/\(∀(m:Nat) (rs:List Road) (A:LA),m<=20->(∀r∈rs,Ko m r)->F8 m A->∃K:List (Int×Int),F [Am m rs,KU A]=.ok (.lst ((K.map pD).map .sh))/\K.Nodup/\∀p,p∈K↔KP rs A p):=by
 refine⟨_,λ T=>AF (k:=2) T.RB Du _ (λ f B4 A outer s H E hr=>(A4 (BP 2 Du.nd rfl (zV rfl) (Gp CC)) (A4 (BU A9.toXCall.own rfl (F0 (c:=true) rfl T.Fy (Ad (B0 hr 16 (by decide)) (A1 0 (pv 0)) A6)) (AU 3 Du.nd rfl (Or.inr rfl)) (A4 (B1 4 Du.nd rfl (Or.inr rfl) (An (Ac A9.toXCall (NO T) (hr.mono (by decide)) rfl (A2 (A1 0 (pv 0)) (A2 (A1 3 (pv 3)) A8)) rfl))) (A5 (XH (Bc 2 (pv 2)) (by exact (Ds (NB:=["w","u","laid","costs"]) [none,some 3,some 1,some 4] rfl (F0 (c:=true) rfl T.Fy (Ad (B0 hr 16 (by decide)) (A1 0 (pv 0)) A6)) rfl rfl (CB 0 (by decide) rfl rfl rfl) (λ _ _ _ _=>J7 (DW.dt (Ml (Km (c:=true) (B0 hr 16 (by decide)) (AJ (A2 (A1 1 (pv 1)) (A2 (A1 0 (pv 0)) A8))) (A1 2 (pv 2))) (J4 (QA (c:=true) (B0 hr 16 (by decide)) (Ad (B0 hr 16 (by decide)) (Ad (B0 hr 16 (by decide)) (A1 2 (pv 2)) (AJ (A2 (A1 1 (pv 1)) (A2 (A1 0 (pv 0)) A8)))) A6) (Ad (B0 hr 16 (by decide)) (A1 3 (pv 3)) (A1 0 (pv 0)))))))) (λ _ _ _ _=>(AJ (A2 (A1 1 (pv 1)) (A2 (A1 0 (pv 0)) A8)))))))))) (A5 (D7 2 (pv 2)))))),?_⟩;intro m rs A hm Ax hA;have e0:AE ["net","laid","kept","u","costs"] [Am m rs,KU A]=[some (.val (Am m rs)),some (.val (KU A)),none,none,none]:=rfl;rw[e0];refine (λ h:∃t,_/\∃K:List (Int×Int),t=.lst ((K.map pD).map .sh)/\K.Nodup/\∀p,p∈K↔KP rs A p=>by
  obtain⟨t,h1,K,rfl,h2⟩:=h;exact⟨K,h1,h2⟩) (ME ?_)
 have n0:Bd (Am m rs) (.int 0)=.ok (.int m):=rfl;have hr:Vm (.int (m:Int))=.ok ((AZ m).map D.int):=by rw[J6 (by omega),T7]
 have hl:((AZ m).map D.int).length<=1000:=by rw[ze,Gx];omega
 apply wp_step
 ·rfl
 try simp only[zx,zu]
 refine C3 (I:=λ ρ=>∃(K:List (Int×Int)) (s3 s4:Option Cl),ρ=[some (.val (Am m rs)),some (.val (KU A)),some (.own (K.map pD)),s3,s4]/\K.Nodup/\∀p,p∈K↔KP rs A p) ?_ ?_
 ·simp_arith[n0,hr];refine BL (λ i ρ=>i<=m/\∃(K:List (Int×Int)) (s3 s4:Option Cl),ρ=[some (.val (Am m rs)),some (.val (KU A)),some (.own (K.map pD)),s3,s4]/\K.Nodup/\∀p,p∈K↔(p.1<i/\KP rs A p)) ⟨zS _,[],none,none,rfl,yu,λ p=>⟨(λ h=>by cases h),λ h=>by
   obtain⟨c,hc,_⟩:=h.2;have:=(hA.rg p (F6 hc)).2.1;omega⟩⟩ ?_ ?_
  ·rintro i d ρ hd ⟨hi,K,s3,s4,rfl,hn,hK⟩;obtain⟨u,hu,rfl⟩:=Bw hd;have ah:i<m:=by have:=(zv.mp hu).1;rw[Gx] at this;exact this
   have eu:u=(i:Int):=by
    unfold AZ at hu;rw[zI,List.getElem?_range ah] at hu;exact (zE hu).symm
   subst eu;obtain⟨cs,hR,hF⟩:=NP m i rs ah (by omega) Ax;refine⟨_,rfl,?_⟩;apply wp_step
   ·simp_arith[hF];rfl
   try simp only[zx,zu]
   obtain⟨W,hW⟩:∃W,W=(AZ m).filter λ w=>pB A cs i w:=⟨_,rfl⟩;have uo:∀w,w∈W↔KP rs A ((i:Int),w):=λ w=>by
    rw[hW,yg,JS];constructor
    ·rintro ⟨hw,h⟩;exact (Yu hR Ax hw.1 hw.2).mp h
    ·intro h;obtain⟨c,hc,_⟩:=id h;have:=(hA.rg _ (F6 hc)).2.2;exact⟨this,(Yu hR Ax this.1 this.2).mpr h⟩
   have wm:W.Nodup:=by rw[hW];exact (MQ m).filter _
   have a7:(K++W.map λ w=>((i:Int),w)).Nodup:=by
    rw[zH];refine⟨hn,List.pairwise_map.mpr (wm.imp fun {a b} jo e=>jo (by cases e;rfl)),λ x hx y hy e=>?_⟩;subst e;obtain⟨w,_,rfl⟩:=zM.mp hy;have:=(hK _).mp hx;simp at this
   have uq:∀p,p∈K++W.map (λ w=>((i:Int),w))↔(p.1<((i+1:Nat):Int)/\KP rs A p):=λ p=>by
    rw[zC,hK];constructor
    ·rintro (h|h)
     ·exact⟨by have:=h.1;omega,h.2⟩
     ·obtain⟨w,hw,rfl⟩:=zM.mp h;exact⟨by dsimp only;omega,(uo w).mp hw⟩
    ·rintro ⟨h1,h2⟩;by_cases e:p.1<(i:Int)
     ·exact .inl ⟨e,h2⟩
     ·have e2:p.1=(i:Int):=by omega
      obtain⟨p1,p2⟩:=p;dsimp only at e2;subst e2;exact .inr (zM.mpr ⟨p2,(uo p2).mpr h2,rfl⟩)
   have hlen:=kM hA hm a7 λ p hp=>((uq p).mp hp).2;have hb:(K.map pD).length+((W.map λ w=>((i:Int),w)).map pD).length<=1000:=by
    rw[zK] at hlen;rw[ze,ze];omega
   refine Bt (ρ':=[some (.val (Am m rs)),some (.val (KU A)),some (.own ((K++W.map λ w=>((i:Int),w)).map pD)),some (.val (.int i)),some (.val (.lst (cs.map cst)))]) ?_ ⟨ah,_,_,_,rfl,a7,uq⟩;have t1:∀a b:Int,D.tup [.int a,.int b]=pD (a,b):=λ a b=>rfl;simp_arith[n0,hr,if_pos hl];rw[CY (λ w=>pB A cs i w) (λ w=>pD ((i:Int),w)) (λ w hw=>⟨_,rfl,by
    have ur:=JS.mp hw;have x1:Bd (.lst (cs.map cst)) (.int w)=.ok (cst (atC cs w)):=MM ur.1 (by rw[hR.1];exact ur.2);have bo:=PH A ((i:Int),w) false;unfold pB Al;cases q:AA A ((i:Int),w) with
    |none =>
     rw[q] at bo;simp_arith[t1,bo];rfl
    |some v =>
     rw[q] at bo;have hit:=PJ q;have h0:Bd (W4 v) (.int 0)=.ok (cst (some v.1)):=rfl;have he:=UB (some v.1) (atC cs w);simp_arith[t1,bo,hit,h0,x1,he];rfl,λ _=>by simp_arith[t1]⟩)]
   rw[<-hW];have ew:W.map (λ w=>pD ((i:Int),w))=(W.map λ w=>((i:Int),w)).map pD:=by rw[yj];rfl
   rw[ew];simp_arith[if_pos hb];rw[<-zW]
  ·rintro ρ ⟨_,K,s3,s4,rfl,hn,hK⟩;refine⟨K,s3,s4,rfl,hn,λ p=>(hK p).trans ⟨λ h=>h.2,λ h=>⟨?_,h⟩⟩⟩;obtain⟨c,hc,_⟩:=h;have:=(hA.rg p (F6 hc)).2.1;rw[ze,Gx];omega
 ·rintro ρ ⟨K,s3,s4,rfl,hn,hK⟩;exact⟨_,rfl,K,rfl,hn,hK⟩
noncomputable def Ni:List D->M OT:=zh FF
def Q4:Txt K mg->BO P w K mg base "kept_arcs" 3 2 Ni:=(zb FF).1
def Q5:∀(m:Nat) (rs:List Road) (A:LA),m<=20->(∀r∈rs,Ko m r)->F8 m A->∃K:List (Int×Int),Ni [Am m rs,KU A]=.ok (.lst ((K.map pD).map .sh))/\K.Nodup/\∀p,p∈K↔KP rs A p:=(zb FF).2
def Cp:∃F:OT->List D->M (OT×OT),(∀ {P w K mg base},Txt K mg->R8 P w K mg base "Ladder" 6 3 F)/\(∀(m:Nat) (rs:List Road) (o:D) (L:List Int),1<=m->m<=16->rs.length<=60->(∀r∈rs,Iw m r)->L.Perm (AZ m)->(o=.lst (L.map D.int)\/(o=.AD/\L=Wr m (BC rs) (AZ m)))->∃(A:LA) (K:List (Int×Int)),C2 m rs L A K/\∃t,F (.ins "Ladder" [] []) [Am m rs,o]=.ok (t,.sh .AD)/\er t=AO m rs L A K):=by
 refine⟨_,λ T=>Y5 (k:=5) T.K3 IC _ (λ f B4 A outer s H E hr=>(A4 (LR ["Ladder"] (Bq T.By BQ) (Bc 0 (pv 0)) (An (Ac A9.toXCall (Tt T) (hr.mono (by decide)) rfl (A2 (A1 1 (pv 1)) A8) rfl))) (A4 (LR ["Ladder"] (Bq T.Cm BQ) (Bc 0 (pv 0)) (An (EF (Ac A9.toXCall (IM T) (hr.mono (by decide)) rfl (A2 (EG ["Ladder"] (Bq T.By BQ) (A1 0 (pv 0))) (A2 (A1 2 (pv 2)) A8)) rfl)))) (A4 (LR ["Ladder"] (Bq T.D9 BQ) (Bc 0 (pv 0)) (An (EF (Ac A9.toXCall (Q2 T) (hr.mono (by decide)) rfl (A2 (EG ["Ladder"] (Bq T.By BQ) (A1 0 (pv 0))) (A2 (EG ["Ladder"] (Bq T.Cm BQ) (A1 0 (pv 0))) A8)) rfl)))) (A5 (LR ["Ladder"] (Bq T.Ed BQ) (Bc 0 (pv 0)) (An (EF (Ac A9.toXCall (Q4 T) (hr.mono (by decide)) rfl (A2 (EG ["Ladder"] (Bq T.By BQ) (A1 0 (pv 0))) (A2 (EG ["Ladder"] (Bq T.D9 BQ) (A1 0 (pv 0))) A8)) rfl))))))))),?_⟩;intro m rs o L cz cq lc jf hL ho;have Ax:∀r∈rs,Ko m r/\r.a≠r.b:=λ r hr=>(jf r hr).vN;have pk:=Yi cz cq lc jf;have h1:=Tu.1 m rs pk lc;have h2:BZ [Am m rs,o]=.ok (.lst ((L.map D.int).map .sh)):=by
  rcases ho with rfl|⟨rfl,rfl⟩
  ·exact (Em m rs (by omega) Ax).1 L hL
  ·exact (Em m rs (by omega) Ax).2
 have h3:=Q3 m rs L (by omega) hL Ax;have hA:=(Ri hL Ax).1;obtain⟨K,h4,hn,hK⟩:=Q5 m rs (BG rs L) (by omega) (λ r hr=>(Ax r hr).1) hA;refine⟨BG rs L,K,⟨cz,cq,lc,Ax,hL,rfl,hn,hK⟩,.ins "Ladder" ["own_map","own_order","laid","kept_ones"] [.sh (Am m rs),.sh (.lst (L.map D.int)),.sh (KU (BG rs L)),.sh (.lst (K.map pD))],?_,rfl⟩;have e0:CO ["self","net","order"] (.ins "Ladder" [] []) [Am m rs,o]=[some (.ow (.tree (some 0) (.ins "Ladder" [] []))),some (.val (Am m rs)),some (.val o)]:=rfl;rw[e0];refine T6 ?_;have e1:er (.tup [.sh (.int m),.lst ((rs.map DD).map .sh)])=Am m rs:=by rw[dQ,Oj,Gs];rfl
 have T:∀(ns:List Str) (ds:List D),er (.ins "Ladder" ns (ds.map .sh))=.ins "Ladder" ns ds:=λ ns ds=>by rw[er,Pe]
 have T1:=T ["own_map"] [Am m rs];have T2:=T ["own_map","own_order"] [Am m rs,.lst (L.map D.int)];have T3:=T ["own_map","own_order","laid"] [Am m rs,.lst (L.map D.int),KU (BG rs L)];simp only[zg,List.map_nil] at T1 T2 T3;have d1:=Yv L;have d2:=dZ (BG rs L);have d3:=dY K;have f1:Nz ["Ladder"] "own_map" (.ins "Ladder" ["own_map"] [Am m rs])=.ok (Am m rs):=rfl;have f2:Nz ["Ladder"] "own_map" (.ins "Ladder" ["own_map","own_order"] [Am m rs,.lst (L.map D.int)])=.ok (Am m rs):=rfl;have f3:Nz ["Ladder"] "own_order" (.ins "Ladder" ["own_map","own_order"] [Am m rs,.lst (L.map D.int)])=.ok (.lst (L.map D.int)):=rfl;have f4:Nz ["Ladder"] "own_map" (.ins "Ladder" ["own_map","own_order","laid"] [Am m rs,.lst (L.map D.int),KU (BG rs L)])=.ok (Am m rs):=rfl;have f5:Nz ["Ladder"] "laid" (.ins "Ladder" ["own_map","own_order","laid"] [Am m rs,.lst (L.map D.int),KU (BG rs L)])=.ok (KU (BG rs L)):=rfl;refine wp_step (ρ':=[some (.ow (.tree (some 0) (.ins "Ladder" ["own_map"] [.sh (Am m rs)]))),some (.val (Am m rs)),some (.val o)]) (by simp_arith[h1,e1];rfl) ?_;refine wp_step (ρ':=[some (.ow (.tree (some 0) (.ins "Ladder" ["own_map","own_order"] [.sh (Am m rs),.sh (.lst (L.map D.int))]))),some (.val (Am m rs)),some (.val o)]) (by simp_arith[T1,f1,h2,d1];rfl) ?_;refine wp_step (ρ':=[some (.ow (.tree (some 0) (.ins "Ladder" ["own_map","own_order","laid"] [.sh (Am m rs),.sh (.lst (L.map D.int)),.sh (KU (BG rs L))]))),some (.val (Am m rs)),some (.val o)]) (by simp_arith[T2,f2,f3,h3,d2];rfl) ?_;refine Bt (ρ':=[some (.ow (.tree (some 0) (.ins "Ladder" ["own_map","own_order","laid","kept_ones"] [.sh (Am m rs),.sh (.lst (L.map D.int)),.sh (KU (BG rs L)),.sh (.lst (K.map pD))]))),some (.val (Am m rs)),some (.val o)]) (by simp_arith[T3,f4,f5,h4,d3];rfl) ⟨rfl,rfl⟩
noncomputable def D5:OT->List D->M (OT×OT):=zh Cp
def IP:Txt K mg->R8 P w K mg base "Ladder" 6 3 D5:=(zb Cp).1
def IQ:∀(m:Nat) (rs:List Road) (o:D) (L:List Int),1<=m->m<=16->rs.length<=60->(∀r∈rs,Iw m r)->L.Perm (AZ m)->(o=.lst (L.map D.int)\/(o=.AD/\L=Wr m (BC rs) (AZ m)))->∃(A:LA) (K:List (Int×Int)),C2 m rs L A K/\∃t,D5 (.ins "Ladder" [] []) [Am m rs,o]=.ok (t,.sh .AD)/\er t=AO m rs L A K:=(zb Cp).2
def En:∃F:List D->M OT,(∀ {P w K mg base},Txt K mg->BO P w K mg base "_law_cell_at" 1 2 F)/\(∀(ns:List Int) (k:Nat),(∀n∈ns,Sm n)->∃v:Int,Sm v/\F [.lst (ns.map D.int),.int k]=.ok (.sh (.int v))):=by
 refine⟨_,λ T=>AF (k:=0) T.NI N3 _ (λ f B4 A outer s H E hr=>(A4 (B5 (fE (c:=true) (A1 1 (pv 1)) (Fh rfl T.GN (A1 0 (pv 0)))) (A5 (Aj (AL (Ad (B0 hr 16 (by decide)) (A1 0 (pv 0)) (A1 1 (pv 1)))))) Av) (A5 (Aj (AL A6))))),?_⟩;intro ns k bC;have e0:AE ["_law_script","_law_k"] [.lst (ns.map D.int),.int k]=[some (.val (.lst (ns.map D.int))),some (.val (.int k))]:=rfl;rw[e0];by_cases hk:(k:Int)<((ns.map D.int).length:Int)
 ·have wn:=hk;rw[ze] at wn;have i1:Bd (.lst (ns.map D.int)) (.int k)=.ok (.int (ns[k]'(by omega))):=Pq (by omega) (by rw[y8];exact zj _);refine⟨ns[k]'(by omega),bC _ (List.getElem_mem _),Bl ?_⟩;simp_arith[decide_eq_true hk,i1];rfl
 ·refine⟨0,by unfold Sm;decide,Bl ?_⟩;simp_arith[decide_eq_false hk];rfl
noncomputable def Dw:List D->M OT:=zh En
def GX:Txt K mg->BO P w K mg base "_law_cell_at" 1 2 Dw:=(zb En).1
def GY:∀(ns:List Int) (k:Nat),(∀n∈ns,Sm n)->∃v:Int,Sm v/\Dw [.lst (ns.map D.int),.int k]=.ok (.sh (.int v)):=(zb En).2
def FG:∃F:List D->M OT,(∀ {P w K mg base},Txt K mg->BO P w K mg base "_law_mixed" 1 2 F)/\(∀c k:Int,0<=k->k<=1000->∃v:Int,0<=v/\F [.int c,.int k]=.ok (.sh (.int v))):=by
 refine⟨_,λ T=>AF (k:=0) T.RC Fu _ (λ f B4 A outer s H E hr=>(A4 (B1 2 Fu.nd rfl (zV rfl) (BJ (BR (BJ (A1 0 (pv 0)) A6) (Lw A6 (BR (A1 1 (pv 1)) A6))) A6)) (A4 (B1 2 Fu.nd rfl (zV rfl) (BJ (BR (BR (Lw (A1 2 (pv 2)) (A1 2 (pv 2))) (Lw A6 (A1 1 (pv 1)))) A6) A6)) (A5 (Aj (AL (BJ (Lw (A1 2 (pv 2)) (A1 2 (pv 2))) A6))))))),?_⟩;intro c k h0 h1;have e0:AE ["_law_cell","_law_k","_law_number"] [.int c,.int k]=[some (.val (.int c)),some (.val (.int k)),none]:=rfl;rw[e0];have m1:Mt (.int 48271) (.int (k+1))=.ok (.int (48271*(k+1))):=Ja (.inr (.inr (.inr ⟨by omega,by omega⟩)));obtain⟨x,hx⟩:∃x,x=(c%2147483629+48271*(k+1))%2147483647:=⟨_,rfl⟩;have x0:0<=x:=by omega
 have x1:x<2147483647:=by omega
 have m2:Mt (.int x) (.int x)=.ok (.int (x*x)):=Ja (.inr (.inr (.inr ⟨by omega,by omega⟩)));have m3:Mt (.int 69621) (.int k)=.ok (.int (69621*k)):=Ja (.inr (.inr (.inr ⟨by omega,by omega⟩)));obtain⟨y,hy⟩:∃y,y=(x*x+69621*k+7)%2147483587:=⟨_,rfl⟩;have y0:0<=y:=by rw[hy];exact yx _ (by decide)
 have y1:y<2147483587:=by rw[hy];exact yy _ (by decide)
 have m4:Mt (.int y) (.int y)=.ok (.int (y*y)):=Ja (.inr (.inr (.inr ⟨by omega,by omega⟩)));refine⟨y*y%2147483579,yx _ (by decide),?_⟩;simp[oP,oQ,m1,iX,Ge,Bn,<-hx,m2,m3,<-hy,m4,Vw,Xj,lH,Vx]
noncomputable def Nj:List D->M OT:=zh FG
def FH:Txt K mg->BO P w K mg base "_law_mixed" 1 2 Nj:=(zb FG).1
def FI:∀c k:Int,0<=k->k<=1000->∃v:Int,0<=v/\Nj [.int c,.int k]=.ok (.sh (.int v)):=(zb FG).2
def GZ:∃F:List D->M OT,(∀ {P w K mg base},Txt K mg->BO P w K mg base "_law_road" 2 3 F)/\(∀(c k:Int) (m:Nat),2<=m->m<=16->0<=k->k<=100->∃r:Road,Iw m r/\F [.int c,.int m,.int k]=.ok (.sh (DD r))):=by
 refine⟨_,λ T=>AF (k:=1) T.Tg Ct _ (λ f B4 A outer s H E hr=>(A4 (B1 0 Ct.nd rfl (zV rfl) (BJ (A1 0 (pv 0)) (Xc A6 A6))) (A4 (B1 3 Ct.nd rfl (zV rfl) (An (Ac A9.toXCall (FH T) (hr.mono (by decide)) rfl (A2 (A1 0 (pv 0)) (A2 (A1 2 (pv 2)) A8)) rfl))) (A4 (B1 4 Ct.nd rfl (zV rfl) (BJ (A1 3 (pv 3)) (A1 1 (pv 1)))) (A4 (B1 5 Ct.nd rfl (zV rfl) (BJ (BR (BR (A1 4 (pv 4)) A6) (BJ (Cy (A1 3 (pv 3)) A6) (iY (A1 1 (pv 1)) A6))) (A1 1 (pv 1)))) (A4 (B1 6 Ct.nd rfl (zV rfl) (Ad (B0 hr 16 (by decide)) (Ii (A2 Gd (A2 A6 (A2 A6 (A2 A6 (A2 (BJ (Cy (A1 3 (pv 3)) A6) A6) (A2 (BJ (Cy (A1 3 (pv 3)) A6) A6) (A2 (BJ (Cy (A1 3 (pv 3)) A6) A6) (A2 (A1 0 (pv 0)) A8))))))))) (BJ (Cy (A1 3 (pv 3)) A6) A6))) (A5 (Aj (AL (AJ (A2 (A1 4 (pv 4)) (A2 (A1 5 (pv 5)) (A2 (A1 6 (pv 6)) (A2 (Ad (B0 hr 16 (by decide)) (Ii (A2 (BJ (Cy (A1 3 (pv 3)) A6) A6) (A2 (Cy (A1 0 (pv 0)) A6) A8))) (BJ (Cy (A1 3 (pv 3)) A6) A6)) A8)))))))))))))),?_⟩;intro c k m cz cq h0 h1;have ht:=SR;have e0:AE ["_law_cell","_law_many","_law_k","_law_x","_law_one","_law_other","_law_length"] [.int c,.int m,.int k]=[some (.val (.int c)),some (.val (.int m)),some (.val (.int k)),none,none,none,none]:=rfl;rw[e0];obtain⟨g,hg⟩:∃g,g=c%Lh:=⟨_,rfl⟩;have g0:0<=g:=by rw[hg];exact yx _ (by omega)
 have g1:g<Lh:=by rw[hg];exact yy _ (by omega)
 obtain⟨v,v0,hv⟩:=FI g k h0 (by omega);have lf:(0:Int)<(m:Int):=by omega
 have jv:(0:Int)<(m:Int)-1:=by omega
 obtain⟨o,ho⟩:∃o,o=v%(m:Int):=⟨_,rfl⟩;obtain⟨o',bp⟩:∃o',o'=(o+1+v / 16%((m:Int)-1))%(m:Int):=⟨_,rfl⟩;have o0:0<=o:=by rw[ho];exact yx _ (by omega)
 have o1:o<m:=by rw[ho];exact yy _ lf
 have p0:0<=o':=by rw[bp];exact yx _ (by omega)
 have p1:o'<m:=by rw[bp];exact yy _ lf
 have s0:0<=v / 16%((m:Int)-1):=yx _ (by omega);have s1:v / 16%((m:Int)-1)<(m:Int)-1:=yy _ jv;have jo:o≠o':=by
  have:=jR (a:=o) (s:=1+v / 16%((m:Int)-1)) (m:=m) o0 o1 (by omega) (by omega);rw[bp,Int.add_assoc];exact λ z=>this z.symm
 have jw:FO (.int v) (.int 16)=.ok (.int (v / 16)):=BY ⟨by decide,by decide⟩;have jx:FO (.int v) (.int 2048)=.ok (.int (v / 2048)):=BY ⟨by decide,by decide⟩;have pq:FO (.int v) (.int 256)=.ok (.int (v / 256)):=BY ⟨by decide,by decide⟩;have jy:FO (.int v) (.int 4096)=.ok (.int (v / 4096)):=BY ⟨by decide,by decide⟩;have wo:FO (.int v) (.int 32)=.ok (.int (v / 32)):=BY ⟨by decide,by decide⟩;have d7:FO (.int g) (.int 7)=.ok (.int (g / 7)):=BY ⟨by decide,by decide⟩;have q1:Ge (.int v) (.int (m:Int))=.ok (.int o):=by rw[ho];exact Bx lf
 have q2:Ge (.int (v / 16)) (.int ((m:Int)-1))=.ok (.int (v / 16%((m:Int)-1))):=Bx jv;have q3:Ge (.int (o+1+v / 16%((m:Int)-1))) (.int (m:Int))=.ok (.int o'):=by rw[bp];exact Bx lf
 have q4:Ge (.int (v / 2048)) (.int 4)=.ok (.int (v / 2048%4)):=Bx (by decide);have q5:Ge (.int (v / 2048)) (.int 100)=.ok (.int (v / 2048%100)):=Bx (by decide);have q6:Ge (.int (v / 256)) (.int 8)=.ok (.int (v / 256%8)):=Bx (by decide);have q8:Ge (.int (v / 4096)) (.int 5)=.ok (.int (v / 4096%5)):=Bx (by decide);have q9:Ge (.int (v / 32)) (.int 2)=.ok (.int (v / 32%2)):=Bx (by decide);obtain⟨l,hpl,l0⟩:=kT (a:=v / 2048%4) (b:=v / 2048%100) (g:=g) (i:=v / 256%8) (by omega) (by omega) ⟨g0,g1⟩ (by omega) (by omega);obtain⟨w,wp,w0⟩:=kO (a:=v / 4096%5) (b:=g / 7) (i:=v / 32%2) (by omega) (by omega) (by omega) (by omega);have wq:D.tup [.int o,.int o',HQ l,.int w]=DD ⟨o,o',l,w⟩:=rfl;refine⟨⟨o,o',l,w⟩,⟨o0,o1,p0,p1,jo,l0,w0.1,w0.2⟩,Bl ?_⟩;apply wp_step
 ·simp_arith[fO,dP];rw[<-hg]
 try simp only[zx,zu]
 apply wp_step
 ·simp_arith[hv];rfl
 try simp only[zx,zu]
 apply wp_step
 ·simp_arith[q1];rfl
 try simp only[zx,zu]
 apply wp_step
 ·simp_arith[jw,q2,q3];rfl
 try simp only[zx,zu]
 apply wp_step
 ·simp_arith[jx,q4,q5,pq,q6,hpl];rfl
 try simp only[zx,zu]
 simp_arith[jy,q8,d7,wo,q9,wp,wq];rfl
noncomputable def HL:List D->M OT:=zh GZ
def RP:Txt K mg->BO P w K mg base "_law_road" 2 3 HL:=(zb GZ).1
def RQ:∀(c k:Int) (m:Nat),2<=m->m<=16->0<=k->k<=100->∃r:Road,Iw m r/\HL [.int c,.int m,.int k]=.ok (.sh (DD r)):=(zb GZ).2
def IR:∃F:List D->M OT,(∀ {P w K mg base},Txt K mg->BO P w K mg base "_law_map" 3 3 F)/\(∀ns:List Int,ns.length<=63->(∀n∈ns,Sm n)->∃(m:Nat) (rs:List Road),1<=m/\m<=7/\rs.length<=25/\(∀r∈rs,Iw m r)/\∃t,F [.lst (ns.map D.int),.int 7,.int 24]=.ok t/\er t=Am m rs):=by
 refine⟨_,λ T=>AF (k:=2) T.Wh D3 _ (λ f B4 A outer s H E hr=>(A4 (B1 3 D3.nd rfl (zV rfl) (An (MC (A1 0 (pv 0)) (Ls A6) (Ls (BR A6 (A1 2 (pv 2))))))) (A4 (B1 4 D3.nd rfl (zV rfl) (An (Ac A9.toXCall (FH T) (hr.mono (by decide)) rfl (A2 (An (Ac A9.toXCall (GX T) (hr.mono (by decide)) rfl (A2 (A1 0 (pv 0)) (A2 A6 A8)) rfl)) (A2 A6 A8)) rfl))) (A4 (B1 5 D3.nd rfl (Or.inr rfl) (BR A6 (BJ (A1 4 (pv 4)) (cG rfl rfl T.YI (A1 1 (pv 1)) (BR A6 (Cy (Fh rfl T.GN (A1 3 (pv 3))) A6)))))) (A4 (B5 (QA (c:=true) (B0 hr 16 (by decide)) (A1 5 (pv 5)) A6) (A5 (Aj (SD (Dd (AL A6) (Dd (Gp CC) CC))))) Av) (A4 (Pa (NB:=["_law_k","_law_cell","_law_many"]) 6 [none,none,some 5] D3.nd rfl (zV rfl) rfl (P9 rfl T.GL (A1 3 (pv 3))) rfl rfl (Pk (n:=2) rfl (DB 0 (by decide) rfl rfl rfl (DB 1 (by decide) rfl rfl rfl MD))) (λ _ _ _ _=>Fi) (λ _ _ _ _=>(An (BK (Ac (Bo rfl).toXCall (RP T) (hr.mono (by decide)) rfl (A2 (A1 1 (pv 1)) (A2 (A1 2 (pv 2)) (A2 (A1 0 (pv 0)) A8))) rfl))))) (A4 (B5 (DW.dt (Ml (QA (c:=true) (B0 hr 16 (by decide)) (BJ (Cy (A1 4 (pv 4)) A6) A6) A6) (J4 (J3 (c:=true) (B0 hr 16 (by decide)) (A1 6 (pv 6)) (Ii A8))))) (A5 (B1 6 D3.nd rfl (zV rfl) (An (cB (A1 6 (pv 6)) (Ii (A2 (Ad (B0 hr 16 (by decide)) (A1 6 (pv 6)) (BJ (Cy (A1 4 (pv 4)) A6) (Fh rfl T.GN (A1 6 (pv 6))))) A8)))))) Av) (A5 (Aj (AL (AJ (A2 (A1 5 (pv 5)) (A2 (A1 6 (pv 6)) A8))))))))))))),?_⟩;intro ns c7 bC;have e0:AE ["_law_script","_law_places","_law_most","_law_cells","_law_x","_law_many","_law_roads"] [.lst (ns.map D.int),.int 7,.int 24]=[some (.val (.lst (ns.map D.int))),some (.val (.int 7)),some (.val (.int 24)),none,none,none,none]:=rfl;rw[e0];refine (λ h:∃t,_/\∃(m:Nat) (rs:List Road),1<=m/\m<=7/\rs.length<=25/\(∀r∈rs,Iw m r)/\er t=Am m rs=>by
  obtain⟨t,h1,m,rs,h2,h3,h4,h5,h6⟩:=h;exact⟨m,rs,h2,h3,h4,h5,t,h1,h6⟩) (ME ?_)
 obtain⟨cs,h7⟩:∃cs,cs=(ns.drop 2).take 24:=⟨_,rfl⟩;have cj:cs.length<=24:=by rw[h7,yB];omega
 have sl:ZZ (some 2) (some (2+24)) (.lst (ns.map D.int))=.ok (.lst ((cs.map D.int).map .sh)):=by rw[h7,List.map_take,List.map_drop];exact cS _ 2 26
 obtain⟨z0,xb,wr⟩:=GY ns 0 bC;have pw:Dw [.lst (ns.map D.int),.int 0]=.ok (.sh (.int z0)):=wr;obtain⟨v,v0,hv⟩:=FI z0 40 (by decide) (by decide);apply wp_step
 ·simp_arith[sl];rfl
 try simp only[zx,zu]
 apply wp_step
 ·simp_arith[pw,hv];rfl
 try simp only[zx,zu]
 have d2:FO (.int ((cs.map D.int).length:Int)) (.int 2)=.ok (.int ((cs.map D.int).length / 2)):=BY ⟨by decide,by decide⟩;obtain⟨n,hn⟩:∃n:Int,n=(if 2+((cs.map D.int).length:Int) / 2<7 then 2+((cs.map D.int).length:Int) / 2 else 7):=⟨_,rfl⟩;have a7:2<=n/\n<=7:=by rw[hn];split<;>omega
 have q1:Ge (.int v) (.int n)=.ok (.int (v%n)):=Bx (by omega);obtain⟨m,hm⟩:∃m:Nat,(m:Int)=1+v%n:=⟨(1+v%n).toNat,by have:=yx v (b:=n) (by omega);omega⟩;have lg:1<=m/\m<=7:=by
  have:=yx v (b:=n) (by omega);have:=yy v (b:=n) (by omega);omega
 refine wp_step (ρ':=[some (.val (.lst (ns.map D.int))),some (.val (.int 7)),some (.val (.int 24)),some (.val (.lst (cs.map D.int))),some (.val (.int v)),some (.val (.int m)),none]) (by
  simp_arith[d2];rw[<-hn,q1];simp_arith[];rw[<-hm]) ?_
 by_cases cz:(m:Int)=1
 ·simp_arith[decide_eq_true cz];refine⟨_,rfl,m,[],lg.1,lg.2,by simp,(λ r hr=>by cases hr),?_⟩;have:m=1:=by omega
  subst this;rfl
 apply wp_step
 ·simp_arith[decide_eq_false cz];rfl
 have d6:∀i:Nat,i<cs.length->∃r:Road,Iw m r/\HL [.int (cs.getD i 0),.int m,.int i]=.ok (.sh (DD r)):=λ i hi=>RQ (cs.getD i 0) i m (by omega) (by omega) (by omega) (by omega);obtain⟨f,hf⟩:∃f:Nat->Road,∀i:Nat,i<cs.length->Iw m (f i)/\HL [.int (cs.getD i 0),.int m,.int i]=.ok (.sh (DD (f i))):=⟨λ i=>if h:i<cs.length then zh (d6 i h) else ⟨0,0,none,0⟩,λ i hi=>by
  dsimp only;rw[dif_pos hi];exact zb (d6 i hi)⟩
 have aM:((yf cs.length).map λ i:Nat=>D.tup [.int (i:Int),.int (cs.getD i 0)]).length<=1000:=by rw[ze,List.length_range];omega
 simp_arith[T9,if_pos aM];rw[E6 (λ i:Nat=>DD (f i)) (λ i hi=>⟨_,rfl,rfl,by
  have h1:=(hf i (xf.mp hi)).2;simp_arith[h1]⟩)]
 simp_arith[];have HD:∀S:List D,S=S:=λ _=>rfl;refine wp_step (ρ':=[some (.val (.lst (ns.map D.int))),some (.val (.int 7)),some (.val (.int 24)),some (.val (.lst (cs.map D.int))),some (.val (.int v)),some (.val (.int m)),some (.val (.lst (((yf cs.length).map f).map DD)))]) (by rw[yj];rfl) ?_;obtain⟨bN,gj⟩:∃bN,bN=(yf cs.length).map f:=⟨_,rfl⟩;have db:∀r∈bN,Iw m r:=λ r hr=>by
  rw[gj] at hr;obtain⟨i,hi,rfl⟩:=zM.mp hr;exact (hf i (xf.mp hi)).1
 have ul:bN.length<=24:=by rw[gj,ze,List.length_range];exact cj
 rw[<-gj];refine C3 (I:=λ ρ=>∃rs:List Road,ρ=[some (.val (.lst (ns.map D.int))),some (.val (.int 7)),some (.val (.int 24)),some (.val (.lst (cs.map D.int))),some (.val (.int v)),some (.val (.int m)),some (.val (.lst (rs.map DD)))]/\rs.length<=25/\∀r∈rs,Iw m r) ?_ ?_
 ·have jw:FO (.int v) (.int 16)=.ok (.int (v / 16)):=BY ⟨by decide,by decide⟩;have q3:Ge (.int (v / 16)) (.int 3)=.ok (.int (v / 16%3)):=Bx (by decide);have wt:FO (.int v) (.int 64)=.ok (.int (v / 64)):=BY ⟨by decide,by decide⟩;have ae:=Rk bN;by_cases c1:v / 16%3=1
  ·by_cases c2:bN=[]
   ·rw[decide_eq_false (by simp[c2])] at ae;refine Bt (ρ':=_) (by simp_arith[jw,q3,decide_eq_true c1,ae];rfl) ⟨bN,rfl,by omega,db⟩
   ·rw[decide_eq_true c2] at ae;have jt:0<(bN.map DD).length:=by rw[ze];exact List.length_pos_iff.mpr c2
    obtain⟨p1,y,hy,p2⟩:=Yj jt (show 0<=v / 64 by omega);obtain⟨r,hr,rfl⟩:=zM.mp hy;have hpl:QL (.lst (bN.map DD)) (.lst [DD r])=.ok (.lst (((bN++[r]).map DD).map .sh)):=by rw[zW];exact dM (by rw[ze];simp;omega)
    refine Bt (ρ':=[some (.val (.lst (ns.map D.int))),some (.val (.int 7)),some (.val (.int 24)),some (.val (.lst (cs.map D.int))),some (.val (.int v)),some (.val (.int m)),some (.val (.lst ((bN++[r]).map DD)))]) (by
     simp_arith[jw,q3,decide_eq_true c1,ae,wt,p1,p2,hpl];rfl) ⟨bN++[r],rfl,by rw[zK];simp;omega,λ r2 h2=>by
     rcases zC.mp h2 with h|h
     ·exact db r2 h
     ·rw[zq.mp h];exact db r hr⟩
  ·refine Bt (ρ':=_) (by simp_arith[jw,q3,decide_eq_false c1];try rfl) ⟨bN,rfl,by omega,db⟩
 ·rintro ρ ⟨rs,rfl,hl,Ax⟩;simp_arith[];exact⟨m,rs,lg.1,lg.2,hl,Ax,rfl⟩
noncomputable def RS:List D->M OT:=zh IR
def Tw:Txt K mg->BO P w K mg base "_law_map" 3 3 RS:=(zb IR).1
def Tx:∀ns:List Int,ns.length<=63->(∀n∈ns,Sm n)->∃(m:Nat) (rs:List Road),1<=m/\m<=7/\rs.length<=25/\(∀r∈rs,Iw m r)/\∃t,RS [.lst (ns.map D.int),.int 7,.int 24]=.ok t/\er t=Am m rs:=(zb IR).2
def FJ:∃F:List D->M OT,(∀ {P w K mg base},Txt K mg->BO P w K mg base "_law_order" 2 3 F)/\(∀(c:Int) (m:Nat),m<=60->∃L:List Int,L.Perm (AZ m)/\F [.int c,.int m,.int 0]=.ok (.lst ((L.map D.int).map .sh))):=by
 refine⟨_,λ T=>AF (k:=1) T.RD Fv _ (λ f B4 A outer s H E hr=>(A4 (BP 3 Fv.nd rfl (zV rfl) (Gp CC)) (A4 (BU A9.toXCall.own rfl (F0 (c:=true) rfl T.Fy (A1 1 (pv 1))) (AU 4 Fv.nd rfl (zV rfl)) (A5 (Vs 3 (pv 3) (BJ (An (Ac A9.toXCall (FH T) (hr.mono (by decide)) rfl (A2 (A1 0 (pv 0)) (A2 (BR (A1 2 (pv 2)) (A1 4 (pv 4))) A8)) rfl)) (BR (A1 4 (pv 4)) A6)) (A1 4 (pv 4))))) (A5 (D7 3 (pv 3)))))),?_⟩;intro c m hm;have e0:AE ["_law_cell","_law_many","_law_k","_law_order_here","_law_place"] [.int c,.int m,.int 0]=[some (.val (.int c)),some (.val (.int m)),some (.val (.int 0)),none,none]:=rfl;rw[e0];refine (λ h:∃t,_/\∃L:List Int,t=OT.lst ((L.map D.int).map .sh)/\L.Perm (AZ m)=>by
  obtain⟨t,h1,L,rfl,h2⟩:=h;exact⟨L,h2,h1⟩) (ME ?_)
 have hr:=J6 (n:=m) (by omega);apply wp_step
 ·rfl
 try simp only[zx,zu]
 refine C3 (I:=λ ρ=>∃(L:List Int) (s3:Option Cl),ρ=[some (.val (.int c)),some (.val (.int m)),some (.val (.int 0)),some (.own (L.map D.int)),s3]/\L.Perm (AZ m)) ?_ ?_
 ·simp_arith[hr];refine BL (λ i ρ=>i<=m/\∃(L:List Int) (s3:Option Cl),ρ=[some (.val (.int c)),some (.val (.int m)),some (.val (.int 0)),some (.own (L.map D.int)),s3]/\L.Perm (AZ i)) ⟨zS _,[],none,rfl,.refl _⟩ ?_ ?_
  ·rintro i d ρ hd ⟨_,L,s3,rfl,hL⟩;obtain⟨bj,hi⟩:=DR hd;rw[Int.zero_add] at bj;subst bj;have hlen:=E8 hL;refine⟨_,rfl,?_⟩;obtain⟨v,v0,hv⟩:=FI c (0+i) (by omega) (by omega);have cz:Ge (.int v) (.int ((i:Int)+1))=.ok (.int (v%((i:Int)+1))):=Bx (by omega);have b0:0<=v%((i:Int)+1):=yx _ (by omega);have b1:v%((i:Int)+1)<(i:Int)+1:=yy _ (by omega);refine Bt (ρ':=[some (.val (.int c)),some (.val (.int m)),some (.val (.int 0)),some (.own ((L.take (v%((i:Int)+1)).toNat++(i:Int)::L.drop (v%((i:Int)+1)).toNat).map D.int)),some (.val (.int i))]) ?_ ⟨by omega,_,_,rfl,W0 hL _⟩;simp_arith[hv,cz];rw[if_pos ⟨b0,by rw[ze];omega,by rw[ze];omega⟩];simp only[zW,zg,List.map_take,List.map_drop];rfl
  ·rintro ρ ⟨_,L,s3,rfl,hL⟩;exact⟨L,s3,rfl,by rw[Ck] at hL;exact hL⟩
 ·rintro ρ ⟨L,s3,rfl,hL⟩;exact⟨_,rfl,L,rfl,hL⟩
noncomputable def Nk:List D->M OT:=zh FJ
def Q6:Txt K mg->BO P w K mg base "_law_order" 2 3 Nk:=(zb FJ).1
def Q7:∀(c:Int) (m:Nat),m<=60->∃L:List Int,L.Perm (AZ m)/\Nk [.int c,.int m,.int 0]=.ok (.lst ((L.map D.int).map .sh)):=(zb FJ).2
def H9:∃F:List D->M OT,(∀ {P w K mg base},Txt K mg->BO P w K mg base "_law_plus" 1 2 F)/\(∀a b:Co,F [cst a,cst b]=.ok (.sh (cst (AN a b)))):=by
 refine⟨_,λ T=>AF (k:=0) T.Th Rv _ (λ f B4 A outer s H E hr=>(A4 (B5 (DW.dt (CN (Gg (c:=true) (A1 0 (pv 0))) (BS (Gg (c:=true) (A1 1 (pv 1)))))) (A5 (Aj (AL Gd))) Av) (A5 (Aj (AL (AJ (A2 (BR (Ad (B0 hr 16 (by decide)) (A1 0 (pv 0)) A6) (Ad (B0 hr 16 (by decide)) (A1 1 (pv 1)) A6)) (A2 (BR (Ad (B0 hr 16 (by decide)) (A1 0 (pv 0)) A6) (Ad (B0 hr 16 (by decide)) (A1 1 (pv 1)) A6)) A8)))))))),?_⟩;intro a b;rcases a with _|⟨a1,a2⟩<;>rcases b with _|⟨b1,b2⟩<;>rfl
noncomputable def OH:List D->M OT:=zh H9
def RT:Txt K mg->BO P w K mg base "_law_plus" 1 2 OH:=(zb H9).1
def RU:∀a b:Co,OH [cst a,cst b]=.ok (.sh (cst (AN a b))):=(zb H9).2
def FK:∃F:List D->M OT,(∀ {P w K mg base},Txt K mg->BO P w K mg base "_law_least" 1 2 F)/\(∀a b:Co,F [cst a,cst b]=.ok (.sh (cst (EU a b)))):=by
 refine⟨_,λ T=>AF (k:=0) T.RE PV _ (λ f B4 A outer s H E hr=>(A4 (B5 (DW.dt (CN (Gg (c:=true) (A1 0 (pv 0))) (BS (DW.dt (Ml (Lr (c:=true) (A1 1 (pv 1))) (J4 (Y4 (c:=true) (B0 hr 16 (by decide)) (A1 1 (pv 1)) (A1 0 (pv 0))))))))) (A5 (Aj (AL (A1 1 (pv 1))))) Av) (A5 (Aj (AL (A1 0 (pv 0))))))),?_⟩;intro a b;have e0:AE ["_law_one","_law_other"] [cst a,cst b]=[some (.val (cst a)),some (.val (cst b))]:=rfl;rw[e0];refine Bl ?_;cases a with
 |none =>
  have hn:BE (cst none)=true:=rfl;have el:EU none b=b:=by cases b<;>rfl
  rw[el];simp_arith[hn];rfl
 |some p =>
  have hn:BE (cst (some p))=false:=rfl;cases b with
  |none =>
   have a7:BE (cst none)=true:=rfl;have el:EU (some p) none=some p:=rfl;rw[el];simp_arith[hn,a7];rfl
  |some q =>
   have a7:BE (cst (some q))=false:=rfl;have hx:=pA q p;have hl:EU (some p) (some q)=some (fK p q):=rfl;rw[hl];unfold fK;by_cases hc:q.1<p.1\/(q.1=p.1/\q.2<p.2)
   ·rw[decide_eq_true hc] at hx;rw[if_neg (by omega)];simp_arith[hn,a7,hx];rfl
   ·rw[decide_eq_false hc] at hx;rw[if_pos (by omega)];apply wp_step
    ·simp_arith[hn,a7,hx];rfl
    simp_arith[];rfl
noncomputable def Nl:List D->M OT:=zh FK
def Q8:Txt K mg->BO P w K mg base "_law_least" 1 2 Nl:=(zb FK).1
def Q9:∀a b:Co,Nl [cst a,cst b]=.ok (.sh (cst (EU a b))):=(zb FK).2
def Ha:∃F:List D->M OT,(∀ {P w K mg base},Txt K mg->BO P w K mg base "_law_cost" 1 2 F)/\(∀c:Co,F [cst c,cst c]=.ok (.sh (.bl true))):=by
 refine⟨_,λ T=>AF (k:=0) T.Ti KY _ (λ f B4 A outer s H E hr=>(A4 (B5 (Gg (c:=true) (A1 1 (pv 1))) (A5 (Aj (AL (Xe (A1 0 (pv 0)))))) Av) (A4 (B5 (DW.dt (CN (Bv (Bj (c:=true) (ED (Ij _) rfl T.B3 rfl T.LV (by decide +kernel) (A1 0 (pv 0))))) (BS (J3 (c:=true) (B0 hr 16 (by decide)) (Fh rfl T.GN (A1 0 (pv 0))) A6)))) (A5 (Aj (AL C9))) Av) (A4 (BU A9.toXCall.own rfl (kR (A1 0 (pv 0))) (AU 2 KY.nd rfl (zV rfl)) (A5 (B5 (DW.dt (CN (Bv (Bj (c:=true) (ED (QC _) rfl T.B3 rfl T.fU (by decide +kernel) (A1 2 (pv 2))))) (BS (Bj (c:=true) (ED (O7 _) rfl T.B3 rfl T.YH (by decide +kernel) (A1 2 (pv 2))))))) (A5 (Aj (AL C9))) Av))) (A5 (Aj (AL (fD (B0 hr 16 (by decide)) (A1 0 (pv 0)) (A1 1 (pv 1)))))))))),?_⟩;intro c;have e0:AE ["_law_found","_law_due","_law_part"] [cst c,cst c]=[some (.val (cst c)),some (.val (cst c)),none]:=rfl;rw[e0];refine Bl ?_;cases c with
 |none=>rfl
 |some p =>
  have hn:BE (cst (some p))=false:=rfl;have ht:cst (some p)=.tup [.int p.1,.int p.2]:=rfl;have wu:=UB (some p) (some p);apply wp_step
  ·simp_arith[hn];rfl
  apply wp_step
  ·simp_arith[ht];rfl
  refine C3 (I:=λ ρ=>∃s,ρ=[some (.val (cst (some p))),some (.val (cst (some p))),s]) ?_ ?_
  ·simp_arith[ht];refine BL (λ i ρ=>∃s,ρ=[some (.val (cst (some p))),some (.val (cst (some p))),s]) ⟨none,rfl⟩ ?_ ?_
   ·rintro i d ρ hd ⟨s,rfl⟩;obtain⟨x,rfl⟩:∃x,d=D.int x:=by
     rcases i with _|_|i
     ·cases hd;exact⟨_,rfl⟩
     ·cases hd;exact⟨_,rfl⟩
     ·cases hd
    refine⟨_,rfl,?_⟩;refine Bt (ρ':=_) (by simp_arith[];rfl) ⟨_,rfl⟩
   ·rintro ρ ⟨s,rfl⟩;exact⟨s,rfl⟩
  ·rintro ρ ⟨s,rfl⟩;simp_arith[wu,decide_true];rfl
noncomputable def OI:List D->M OT:=zh Ha
def RV:Txt K mg->BO P w K mg base "_law_cost" 1 2 OI:=(zb Ha).1
def RW:∀c:Co,OI [cst c,cst c]=.ok (.sh (.bl true)):=(zb Ha).2
def Hb:∃F:List D->M OT,(∀ {P w K mg base},Txt K mg->BO P w K mg base "_law_copy" 1 1 F)/\(∀(m:Nat) (rs:List Road),F [Am m rs]=.ok (.tup [.sh (.int m),.lst ((rs.map DD).map .sh)])):=by
 refine⟨_,λ T=>AF (k:=0) T.Tj Rw _ (λ f B4 A outer s H E hr=>(A5 (Aj (SD (Dd (AL (Ad (B0 hr 16 (by decide)) (A1 0 (pv 0)) A6)) (Dd (Jd rfl T.Fx (Ad (B0 hr 16 (by decide)) (A1 0 (pv 0)) A6)) CC)))))),?_⟩;intro m rs;have e0:AE ["_law_net"] [Am m rs]=[some (.val (Am m rs))]:=rfl;rw[e0];refine Bl ?_;have i0:Bd (Am m rs) (.int 0)=.ok (.int m):=rfl;have i1:Bd (Am m rs) (.int 1)=.ok (.lst (rs.map DD)):=rfl;simp_arith[i0,i1];exact⟨_,rfl,rfl⟩
noncomputable def OJ:List D->M OT:=zh Hb
def RX:Txt K mg->BO P w K mg base "_law_copy" 1 1 OJ:=(zb Hb).1
def RY:∀(m:Nat) (rs:List Road),OJ [Am m rs]=.ok (.tup [.sh (.int m),.lst ((rs.map DD).map .sh)]):=(zb Hb).2
def FL:∃F:List D->M OT,(∀ {P w K mg base},Txt K mg->BO P w K mg base "_law_steps" 4 2 F)/\(∀(m:Nat) (rs:List Road) (L:List Int) (A:LA) (K:List (Int×Int)),C2 m rs L A K->F [AO m rs L A K,.lst (L.map D.int)]=.ok (Rr (CD L (BM A K),CD L (EV (BM A K))))):=by
 refine⟨_,λ T=>AF (k:=3) T.RF Dv _ (λ f B4 A outer s H E hr=>(A4 (BP 2 Dv.nd rfl (zV rfl) (Gp (Dd (Gp CC) (Dd (Gp CC) CC)))) (A4 (BU A9.toXCall.own rfl (B6 (An (Gw (k:=1) [("Ladder",AW)] A9.toXCall (Cd (by decide) (Eh T) D8) (hr.mono (by decide)) (A1 0 (pv 0))))) (P8 (n:=2) rfl (Cz (AU 3 Dv.nd rfl (zV rfl)) (Cz (AU 4 Dv.nd rfl (zV rfl)) Lu))) (A5 (B5 (fE (c:=true) (Ro (A1 1 (pv 1)) (A1 3 (pv 3))) (Ro (A1 1 (pv 1)) (A1 4 (pv 4)))) (A5 (XF (U8 (Bc 2 (pv 2)) A6) (AL (AJ (A2 (A1 3 (pv 3)) (A2 (A1 4 (pv 4)) (A2 (An (JP (k:=3) [("Ladder",AQ)] A9.toXCall (Cd (by decide) (CI T) D8) (hr.mono (by decide)) (A1 0 (pv 0)) (A2 (A1 3 (pv 3)) (A2 (A1 4 (pv 4)) A8)) rfl)) A8))))))) (A5 (XF (U8 (Bc 2 (pv 2)) A6) (AL (AJ (A2 (A1 4 (pv 4)) (A2 (A1 3 (pv 3)) (A2 (An (JP (k:=3) [("Ladder",AQ)] A9.toXCall (Cd (by decide) (CI T) D8) (hr.mono (by decide)) (A1 0 (pv 0)) (A2 (A1 3 (pv 3)) (A2 (A1 4 (pv 4)) A8)) rfl)) A8)))))))))) (A5 (D7 2 (pv 2)))))),?_⟩;intro m rs L A K ok;have e0:AE ["_law_ladder","_law_order_here","_law_steps_here","_law_u","_law_w"] [AO m rs L A K,.lst (L.map D.int)]=[some (.val (AO m rs L A K)),some (.val (.lst (L.map D.int))),none,none,none]:=rfl;rw[e0];refine Bl ?_;have br:∀p∈K,p.1∈L/\p.2∈L:=λ p hp=>⟨(Br ok.pm).mpr (ok.TB hp).2.1,(Br ok.pm).mpr (ok.TB hp).2.2⟩;have ae:∀p∈K,Bz L p.1≠Bz L p.2:=λ p hp e=>(ok.TB hp).1 (MV (br p hp).1 (br p hp).2 e);have ug:=ok.kl;have hs:Gv [("Ladder",AW)] "kept" (AO m rs L A K)=.ok AW:=rfl;have aR:Gv [("Ladder",AQ)] "cost" (AO m rs L A K)=.ok AQ:=rfl;have hk:=Ei m rs L A K;refine wp_step (ρ':=[some (.val (AO m rs L A K)),some (.val (.lst (L.map D.int))),some (.ow (.tree none (Rr ([],[])))),none,none]) rfl ?_;refine C3 (I:=λ ρ=>∃s3 s4,ρ=[some (.val (AO m rs L A K)),some (.val (.lst (L.map D.int))),some (.ow (.tree none (Rr (CD L (BM A K),CD L (EV (BM A K)))))),s3,s4]) ?_ ?_
 ·simp_arith[hs,hk];refine BL (λ i ρ=>∃s3 s4,ρ=[some (.val (AO m rs L A K)),some (.val (.lst (L.map D.int))),some (.ow (.tree none (Rr ((K.take i).foldl (Ta L A) ([],[]))))),s3,s4]) ⟨none,none,rfl⟩ ?_ ?_
  ·rintro i d ρ hd ⟨s3,s4,rfl⟩;obtain⟨p,hp,rfl⟩:=Bw hd;have pz:=zo hp;have ah:=(zv.mp hp).1;have et:(K.take (i+1)).foldl (Ta L A) ([],[])=Ta L A ((K.take i).foldl (Ta L A) ([],[])) p:=by rw[yl,hp,List.foldl_append];rfl
   rw[et];have wv:=eO A (K.take i) λ q hq=>ae q (yn hq);have xc:(K.take i).length<=K.length:=by rw[yB];omega
   obtain⟨Z,hZ⟩:∃Z,Z=(K.take i).foldl (Ta L A) ([],[]):=⟨_,rfl⟩;rw[<-hZ] at wv ⊢;refine⟨_,rfl,?_⟩;have x1:=Rq (br p pz).1;have x2:=Rq (br p pz).2;obtain⟨c,hc,_⟩:=(ok.km p).mp pz;have h1:=Ef m rs L A K p.1 p.2 c ok.qJ hc;by_cases hr:Bz L p.1<Bz L p.2
   ·have e1:Rr (Ta L A Z p)=.lst [.lst ((Z.1.map Be).map .sh++[.sh (Be (p,c))]),.lst ((Z.2.map Be).map .sh)]:=by
     unfold Ta Rr;rw[if_pos hr,hc];simp
    have y0:ZP 2 [some (.val (AO m rs L A K)),some (.val (.lst (L.map D.int))),some (.ow (.tree none (Rr Z))),some (.val (.int p.1)),some (.val (.int p.2))] [] (.int 0)=.ok [0]:=rfl;have l0:E5 0 [some (.ow (.tree none (Rr Z))),some (.val (.int p.1)),some (.val (.int p.2))] [0]=.ok ((Z.1.map Be).map .sh):=rfl;have ln:((Z.1.map Be).map OT.sh).length<1000:=by rw[ze,ze];omega
    refine Bt (ρ':=[some (.val (AO m rs L A K)),some (.val (.lst (L.map D.int))),some (.ow (.tree none (Rr (Ta L A Z p)))),some (.val (.int p.1)),some (.val (.int p.2))]) ?_ ⟨_,_,rfl⟩;rw[e1];simp_arith[x1,x2,decide_eq_true (show (Bz L p.1:Int)<Bz L p.2 by omega),aR,h1,if_true,if_false,zB,y0,l0,ln];rfl
   ·have e1:Rr (Ta L A Z p)=.lst [.lst ((Z.1.map Be).map .sh),.lst ((Z.2.map Be).map .sh++[.sh (Be ((p.2,p.1),c))])]:=by
     unfold Ta Rr;rw[if_neg hr,hc];simp
    have y0:ZP 2 [some (.val (AO m rs L A K)),some (.val (.lst (L.map D.int))),some (.ow (.tree none (Rr Z))),some (.val (.int p.1)),some (.val (.int p.2))] [] (.int 1)=.ok [1]:=rfl;have l0:E5 0 [some (.ow (.tree none (Rr Z))),some (.val (.int p.1)),some (.val (.int p.2))] [1]=.ok ((Z.2.map Be).map .sh):=rfl;have ln:((Z.2.map Be).map OT.sh).length<1000:=by rw[ze,ze];omega
    refine Bt (ρ':=[some (.val (AO m rs L A K)),some (.val (.lst (L.map D.int))),some (.ow (.tree none (Rr (Ta L A Z p)))),some (.val (.int p.1)),some (.val (.int p.2))]) ?_ ⟨_,_,rfl⟩;rw[e1];simp_arith[x1,x2,decide_eq_false (show ¬ (Bz L p.1:Int)<Bz L p.2 by omega),aR,h1,if_true,if_false,zB,y0,l0,ln];rfl
  ·rintro ρ ⟨s3,s4,rfl⟩;rw[ze,yh,PN A K _ ae];exact⟨s3,s4,rfl⟩
 ·rintro ρ ⟨s3,s4,rfl⟩;exact⟨_,rfl,rfl⟩
noncomputable def Nm:List D->M OT:=zh FL
def Qa:Txt K mg->BO P w K mg base "_law_steps" 4 2 Nm:=(zb FL).1
def Qb:∀(m:Nat) (rs:List Road) (L:List Int) (A:LA) (K:List (Int×Int)),C2 m rs L A K->Nm [AO m rs L A K,.lst (L.map D.int)]=.ok (Rr (CD L (BM A K),CD L (EV (BM A K)))):=(zb FL).2
def Hc:∃F:List D->M OT,(∀ {P w K mg base},Txt K mg->BO P w K mg base "_law_over" 2 3 F)/\(∀(m:Nat) (L:List Int) (C:CA) (s:Int),m<=20->L.Perm (AZ m)->s∈L->(C.map zG).Nodup->(∀p c,AA C p=some c->p.1∈L/\p.2∈L)->∃R:RA,F [.lst ((CD L C).map Be),.int s,.int m]=.ok (Gz R)/\Wb L C s m R):=by
 refine⟨_,λ T=>AF (k:=1) T.Tn Cu _ (λ f B4 A outer s H E hr=>(A4 (BP 3 Cu.nd rfl (zV rfl) (R6 (A1 1 (pv 1)) (AJ (A2 A6 (A2 A6 A8))))) (A4 (BU A9.toXCall.own rfl (F0 (c:=true) rfl T.Fy (A1 2 (pv 2))) (AU 4 Cu.nd rfl (zV rfl)) (A5 (BU A9.toXCall.own rfl (B6 (A1 0 (pv 0))) (P8 (n:=3) rfl (Cz (AU 5 Cu.nd rfl (zV rfl)) (Cz (AU 6 Cu.nd rfl (zV rfl)) (Cz (AU 7 Cu.nd rfl (zV rfl)) Lu)))) (A5 (B5 (Kl (Km (c:=true) (B0 hr 16 (by decide)) (A1 5 (pv 5)) (A1 3 (pv 3)))) (A5 (Jl (B0 hr 16 (by decide)) (Bc 3 (pv 3)) (A1 6 (pv 6)) (An (EF (Ac A9.toXCall (Q8 T) (hr.mono (by decide)) rfl (A2 (R7 (B0 hr 16 (by decide)) (A1 3 (pv 3)) (A1 6 (pv 6))) (A2 (An (Ac A9.toXCall (RT T) (hr.mono (by decide)) rfl (A2 (Ad (B0 hr 16 (by decide)) (A1 3 (pv 3)) (A1 5 (pv 5))) (A2 (A1 7 (pv 7)) A8)) rfl)) A8)) rfl))))) Av))))) (A5 (D7 3 (pv 3)))))),?_⟩;intro m L C s hm hL hs hn hC;have hlen:=E8 hL;have e0:AE ["_law_steps_here","_law_place","_law_many","_law_found","_law_turn","_law_low","_law_high","_law_cost_here"] [.lst ((CD L C).map Be),.int s,.int m]=[some (.val (.lst ((CD L C).map Be))),some (.val (.int s)),some (.val (.int m)),none,none,none,none,none]:=rfl;rw[e0];refine (λ h:∃t,_/\∃R:RA,t=Gz R/\Wb L C s m R=>by
  obtain⟨t,h1,R,rfl,h2⟩:=h;exact⟨R,h1,h2⟩) (ME ?_)
 have qd:=J6 (n:=m) (by omega);refine wp_step (ρ':=[some (.val (.lst ((CD L C).map Be))),some (.val (.int s)),some (.val (.int m)),some (.ow (.tree none (Gz [(s,(0,0))]))),none,none,none,none]) (by rfl) ?_;refine C3 (I:=λ ρ=>∃(R:RA) (s4 s5 s6 s7:Option Cl),ρ=[some (.val (.lst ((CD L C).map Be))),some (.val (.int s)),some (.val (.int m)),some (.ow (.tree none (Gz R))),s4,s5,s6,s7]/\Wb L C s m R) ?_ ?_
 ·simp_arith[qd];refine BL (λ i ρ=>∃(R:RA) (s4 s5 s6 s7:Option Cl),ρ=[some (.val (.lst ((CD L C).map Be))),some (.val (.int s)),some (.val (.int m)),some (.ow (.tree none (Gz R))),s4,s5,s6,s7]/\Wb L C s i R) ⟨_,none,none,none,none,rfl,Wb.nil hs⟩ ?_ ?_
  ·rintro i d ρ hd ⟨R0,s4,s5,s6,s7,rfl,ut⟩;obtain⟨bj,hi⟩:=DR hd;rw[Int.zero_add] at bj;subst bj;refine⟨_,rfl,?_⟩;simp_arith[];refine BL (λ j ρ=>∃(R:RA) (s5 s6 s7:Option Cl),ρ=[some (.val (.lst ((CD L C).map Be))),some (.val (.int s)),some (.val (.int m)),some (.ow (.tree none (Gz R))),some (.val (.int i)),s5,s6,s7]/\Yz L C s ((CD L C).take j) R0 R) ⟨R0,s5,s6,s7,rfl,by rw[List.take_zero];exact ut.start⟩ ?_ ?_
   ·rintro j d ρ hd ⟨R,s5,s6,s7,rfl,hR⟩;obtain⟨⟨⟨x,y⟩,dd⟩,dz,rfl⟩:=Bw hd;have aE:=yg.mp (zo dz);have hr:Bz L x<Bz L y:=by simpa using aE.2
    have hc:AA C (x,y)=some dd:=SV hn aE.1;have et:(CD L C).take (j+1)=(CD L C).take j++[((x,y),dd)]:=by rw[yl,dz];rfl
    refine⟨_,rfl,?_⟩;rw[et];have bo:=T5 R x false;cases q:AA R x with
    |none =>
     rw[q] at bo;refine Bt (ρ':=_) (by simp_arith[bo];rfl) ⟨R,_,_,_,rfl,hR.skip q⟩
    |some c0 =>
     rw[q] at bo;have i1:=PL q;have g1:=Yq R y;have h1:=RU (some c0) (some dd);have ha:AN (some c0) (some dd)=some (c0.1+dd.1,c0.2+dd.2):=rfl;rw[ha] at h1;obtain⟨v,hv⟩:∃v,EU (AA R y) (some (c0.1+dd.1,c0.2+dd.2))=some v:=by
      cases AA R y with
      |none=>exact⟨_,rfl⟩
      |some z=>exact⟨_,rfl⟩
     have h2:=Q9 (AA R y) (some (c0.1+dd.1,c0.2+dd.2));rw[hv] at h2;have be:=hR.put q hr hc (hC _ _ hc).2 hv;have hl:(R.map λ kv=>D.int kv.1).length<1000:=by
      have:=HH hR.nd hR.rg;rw[ze] at this ⊢;omega
     have d4:∀z:Int,keyOk false (.int z)=true:=λ z=>rfl;refine Bt (ρ':=[some (.val (.lst ((CD L C).map Be))),some (.val (.int s)),some (.val (.int m)),some (.ow (.tree none (Gz (CL R y v)))),some (.val (.int i)),some (.val (.int x)),some (.val (.int y)),some (.val (cst (some dd)))]) (by
      simp_arith[bo,if_true,Option.isSome_some,zB,if_false,i1,g1,h1,h2,d4,hl,and_self,Ys];rfl) ⟨_,_,_,_,rfl,be⟩
   ·rintro ρ ⟨R,s5,s6,s7,rfl,hR⟩;rw[ze,yh] at hR;exact⟨R,_,s5,s6,s7,rfl,Yz.next ut hR⟩
  ·rintro ρ ⟨R,s4,s5,s6,s7,rfl,hR⟩;rw[Ck] at hR;exact⟨R,s4,s5,s6,s7,rfl,hR⟩
 ·rintro ρ ⟨R,s4,s5,s6,s7,rfl,hR⟩;exact⟨_,rfl,R,rfl,hR⟩
noncomputable def OK:List D->M OT:=zh Hc
def L6:Txt K mg->BO P w K mg base "_law_over" 2 3 OK:=(zb Hc).1
def L7:∀(m:Nat) (L:List Int) (C:CA) (s:Int),m<=20->L.Perm (AZ m)->s∈L->(C.map zG).Nodup->(∀p c,AA C p=some c->p.1∈L/\p.2∈L)->∃R:RA,OK [.lst ((CD L C).map Be),.int s,.int m]=.ok (Gz R)/\Wb L C s m R:=(zb Hc).2
def Hd:∃F:List D->M OT,(∀ {P w K mg base},Txt K mg->BO P w K mg base "_law_same" 2 2 F)/\(∀R1 R2:RA,(R2.map zG).Nodup->(∀y,AA R1 y=AA R2 y)->R1.length=R2.length->F [Fo R1,Fo R2]=.ok (.sh (.bl true))):=by
 refine⟨_,λ T=>AF (k:=1) T.To KZ _ (λ f B4 A outer s H E hr=>(A4 (B5 (DW.dt (CN (Bv (Bj (c:=true) (ED (VE _) rfl T.B3 rfl T.Tp (by decide +kernel) (A1 0 (pv 0))))) (BS (J3 (c:=true) (B0 hr 16 (by decide)) (UO rfl T.GN (A1 0 (pv 0))) (UO rfl T.GN (A1 1 (pv 1))))))) (A5 (Aj (AL C9))) Av) (A4 (eL A9.toXCall.own rfl (eG (A1 1 (pv 1))) (AU 2 KZ.nd rfl (zV rfl)) (A5 (B5 (DW.dt (CN (Ji (c:=true) (B0 hr 16 (by decide)) (A1 2 (pv 2)) (A1 0 (pv 0))) (BS (Bv (Bj (c:=true) (An (Ac A9.toXCall (RV T) (hr.mono (by decide)) rfl (A2 (Ad (B0 hr 16 (by decide)) (A1 0 (pv 0)) (A1 2 (pv 2))) (A2 (Ad (B0 hr 16 (by decide)) (A1 1 (pv 1)) (A1 2 (pv 2))) A8)) rfl))))))) (A5 (Aj (AL C9))) Av))) (A5 (Aj (AL C9)))))),?_⟩;intro R1 R2 hn hf hl;have e0:AE ["_law_found","_law_due","_law_place"] [Fo R1,Fo R2]=[some (.val (Fo R1)),some (.val (Fo R2)),none]:=rfl;rw[e0];refine Bl ?_;have bj:=YB R1;have hd2:=YB R2;rw[hl] at bj;have iw:HV "dict" (Fo R1)=.ok (.bl true):=rfl;apply wp_step
 ·simp_arith[bj,hd2,iw,decide_true];rfl
 refine C3 (I:=λ ρ=>∃s,ρ=[some (.val (Fo R1)),some (.val (Fo R2)),s]) ?_ ?_
 ·simp_arith[eJ];refine eQ ?_;refine BL (λ i ρ=>∃s,ρ=[some (.val (Fo R1)),some (.val (Fo R2)),s]) ⟨none,rfl⟩ ?_ ?_
  ·rintro i d ρ hd ⟨s,rfl⟩;obtain⟨kv,dz,rfl⟩:=Bw hd;have f2:AA R2 kv.1=some kv.2:=SV hn (zo dz);have f1:AA R1 kv.1=some kv.2:=by rw[hf];exact f2
   have bo:=T5 R1 kv.1 true;rw[f1] at bo;have i1:=PL f1;have i2:=PL f2;have ui:=RW (some kv.2);refine⟨_,rfl,?_⟩;refine Bt (ρ':=_) (by simp_arith[bo,i1,i2,ui,F4];rfl) ⟨_,rfl⟩
  ·rintro ρ ⟨s,rfl⟩;exact⟨s,rfl⟩
 ·rintro ρ ⟨s,rfl⟩;rfl
noncomputable def OL:List D->M OT:=zh Hd
def Ey:Txt K mg->BO P w K mg base "_law_same" 2 2 OL:=(zb Hd).1
def L8:∀R1 R2:RA,(R2.map zG).Nodup->(∀y,AA R1 y=AA R2 y)->R1.length=R2.length->OL [Fo R1,Fo R2]=.ok (.sh (.bl true)):=(zb Hd).2
def Tz:∃F:List D->M D,(∀ {P w K mg base f fd},Txt K mg->Wo K "law" "law" FT f fd->Df P w K mg base Zi 8 f fd ["_law_script"] (Sv K 1 F))/\(∀ns:List Int,ns.length<=63->(∀n∈ns,Sm n)->F [.lst (ns.map D.int)]=.ok (.bl true)):=by
 refine⟨_,fun {P w K mg base f fd} T F=>nV (k:=7) F Fw _ (λ B4 A outer s H E hr=>(A4 (B1 1 Fw.nd rfl (zV rfl) (An (BK (Ac (Bo rfl).toXCall (Tw T) (hr.mono (by decide)) rfl (A2 (A1 0 (pv 0)) (A2 A6 (A2 A6 A8))) rfl)))) (A4 (B1 2 Fw.nd rfl (zV rfl) (An (BK (Ac (Bo rfl).toXCall (Q6 T) (hr.mono (by decide)) rfl (A2 (An (Ac (Bo rfl).toXCall (GX T) (hr.mono (by decide)) rfl (A2 (A1 0 (pv 0)) (A2 A6 A8)) rfl)) (A2 (Ad (B0 hr 16 (by decide)) (A1 1 (pv 1)) A6) (A2 A6 A8))) rfl)))) (A4 (B1 3 Fw.nd rfl (zV rfl) (An (BK (cW (Bo rfl).toXCall (IP T).vJ (hr.mono (by decide)) rfl (A2 (An (Ac (Bo rfl).toXCall (RX T) (hr.mono (by decide)) rfl (A2 (A1 1 (pv 1)) A8) rfl)) (A2 (An (Jd rfl T.Fx (A1 2 (pv 2)))) A8)) rfl)))) (A4 (B1 4 Fw.nd rfl (zV rfl) (An (BK (Ac (Bo rfl).toXCall (Qa T) (hr.mono (by decide)) rfl (A2 (A1 3 (pv 3)) (A2 (A1 2 (pv 2)) A8)) rfl)))) (A4 (BU PassesOwn.never rfl (F0 (c:=true) rfl T.Fy (Ad (B0 hr 16 (by decide)) (A1 1 (pv 1)) A6)) (AU 5 Fw.nd rfl (zV rfl)) (A4 (BP 6 Fw.nd rfl (zV rfl) (BK (Ac (Bo rfl).toXCall (FX T) (hr.mono (by decide)) rfl (A2 (A1 3 (pv 3)) (A2 (A1 5 (pv 5)) A8)) rfl))) (A4 (BP 7 Fw.nd rfl (zV rfl) (BK (Ac (Bo rfl).toXCall (GQ T) (hr.mono (by decide)) rfl (A2 (A1 3 (pv 3)) (A2 (A1 5 (pv 5)) A8)) rfl))) (A4 (B1 8 Fw.nd rfl (zV rfl) (Ii (A2 (An (BK (Ac (Bo rfl).toXCall (L6 T) (hr.mono (by decide)) rfl (A2 (Ad (B0 hr 16 (by decide)) (A1 4 (pv 4)) A6) (A2 (A1 5 (pv 5)) (A2 (Ad (B0 hr 16 (by decide)) (A1 1 (pv 1)) A6) A8))) rfl))) (A2 (An (BK (Ac (Bo rfl).toXCall (L6 T) (hr.mono (by decide)) rfl (A2 (Ad (B0 hr 16 (by decide)) (A1 4 (pv 4)) A6) (A2 (A1 5 (pv 5)) (A2 (Ad (B0 hr 16 (by decide)) (A1 1 (pv 1)) A6) A8))) rfl))) A8)))) (A4 (B5 (Kl (DW.dt (CN (Bv (Bj (c:=true) (An (BK (Ac (Bo rfl).toXCall (Ey T) (hr.mono (by decide)) rfl (A2 (A1 6 (pv 6)) (A2 (Ad (B0 hr 16 (by decide)) (A1 8 (pv 8)) A6) A8)) rfl))))) (BS (Bv (Bj (c:=true) (An (BK (Ac (Bo rfl).toXCall (Ey T) (hr.mono (by decide)) rfl (A2 (A1 7 (pv 7)) (A2 (Ad (B0 hr 16 (by decide)) (A1 8 (pv 8)) A6) A8)) rfl))))))))) (A5 (Ss (P5 C9))) Av) (A4 (OC (Bc 6 (pv 6))) (A4 (OC (Bc 7 (pv 7))) (A5 (B5 (DW.dt (CN (Bv (Bj (c:=true) (An (BK (Ac (Bo rfl).toXCall (Ey T) (hr.mono (by decide)) rfl (A2 (An (Ac (Bo rfl).toXCall (FX T) (hr.mono (by decide)) rfl (A2 (A1 3 (pv 3)) (A2 (A1 5 (pv 5)) A8)) rfl)) (A2 (Ad (B0 hr 16 (by decide)) (A1 8 (pv 8)) A6) A8)) rfl))))) (BS (Bv (Bj (c:=true) (An (BK (Ac (Bo rfl).toXCall (Ey T) (hr.mono (by decide)) rfl (A2 (An (Ac (Bo rfl).toXCall (GQ T) (hr.mono (by decide)) rfl (A2 (A1 3 (pv 3)) (A2 (A1 5 (pv 5)) A8)) rfl)) (A2 (Ad (B0 hr 16 (by decide)) (A1 8 (pv 8)) A6) A8)) rfl)))))))) (A5 (Ss (P5 C9))) Av))))))))) (A5 (Ss (P5 C9))))))))),?_⟩;intro ns c7 bC;have e0:AE ["_law_script","_law_net","_law_order_here","_law_ladder","_law_steps_here","_law_place","_law_ups","_law_downs","_law_due"] [.lst (ns.map D.int)]=[some (.val (.lst (ns.map D.int))),none,none,none,none,none,none,none,none]:=rfl;rw[e0];refine oO ?_;obtain⟨z1,vi,ww⟩:=GY ns 1 bC;have qe:Dw [.lst (ns.map D.int),.int 1]=.ok (.sh (.int z1)):=ww;obtain⟨m,rs,cz,cq,lc,jf,tm,wx,wy⟩:=Tx ns c7 bC;have i0:Bd (Am m rs) (.int 0)=.ok (.int m):=rfl;apply wp_step
 ·simp_arith[wx,wy];rfl
 try simp only[zx,zu]
 have wz:=RY m rs;obtain⟨L,hL,w4⟩:=Q7 z1 m (by omega);obtain⟨A,K,ok,t,hI,hE⟩:=IQ m rs (.lst (L.map D.int)) L cz (by omega) (by omega) jf hL (.inl rfl);have w5:XW (D5 (.ins "Ladder" [] []) [Am m rs,.lst (L.map D.int)])=.ok t:=by rw[hI];rfl
 have w6:=eK m rs;apply wp_step
 ·simp_arith[qe,i0,w4];rfl
 try simp only[zx,zu]
 refine wp_step (ρ':=[some (.val (.lst (ns.map D.int))),some (.val (Am m rs)),some (.val (.lst (L.map D.int))),some (.val (AO m rs L A K)),none,none,none,none,none]) (by simp_arith[wz,w6,w5,hE];try rfl) ?_;have aN:=Qb m rs L A K ok;have w9:=kW (CD L (BM A K),CD L (EV (BM A K)));refine wp_step (ρ':=[some (.val (.lst (ns.map D.int))),some (.val (Am m rs)),some (.val (.lst (L.map D.int))),some (.val (AO m rs L A K)),some (.val (.lst [.lst ((CD L (BM A K)).map Be),.lst ((CD L (EV (BM A K))).map Be)])),none,none,none,none]) (by simp_arith[aN,w9];try rfl) ?_;have s0:Bd (.lst [.lst ((CD L (BM A K)).map Be),.lst ((CD L (EV (BM A K))).map Be)]) (.int 0)=.ok (.lst ((CD L (BM A K)).map Be)):=rfl;have s1:Bd (.lst [.lst ((CD L (BM A K)).map Be),.lst ((CD L (EV (BM A K))).map Be)]) (.int 1)=.ok (.lst ((CD L (EV (BM A K))).map Be)):=rfl;have cv:Vm (.int (m:Int))=.ok (Cj 0 m):=J6 (by omega);have n1:((BM A K).map zG).Nodup:=by rw[MW];exact ok.kn
 have n2:=OB n1;refine C3 (I:=λ ρ=>∃s5 s6 s7 s8,ρ=[some (.val (.lst (ns.map D.int))),some (.val (Am m rs)),some (.val (.lst (L.map D.int))),some (.val (AO m rs L A K)),some (.val (.lst [.lst ((CD L (BM A K)).map Be),.lst ((CD L (EV (BM A K))).map Be)])),s5,s6,s7,s8]) ?_ ?_
 ·simp_arith[i0,cv];refine BL (λ i ρ=>∃s5 s6 s7 s8,ρ=[some (.val (.lst (ns.map D.int))),some (.val (Am m rs)),some (.val (.lst (L.map D.int))),some (.val (AO m rs L A K)),some (.val (.lst [.lst ((CD L (BM A K)).map Be),.lst ((CD L (EV (BM A K))).map Be)])),s5,s6,s7,s8]) ⟨none,none,none,none,rfl⟩ ?_ ?_
  ·rintro s d ρ hd ⟨s5,s6,s7,s8,rfl⟩;obtain⟨bj,hs⟩:=DR hd;rw[Int.zero_add] at bj;subst bj;refine⟨_,rfl,?_⟩;have ic:(s:Int)∈L:=(Br ok.pm).mpr ⟨by omega,by omega⟩;obtain⟨R,uu,wA⟩:=Ll m rs L A K s ok hs;obtain⟨G,uv,wB⟩:=Ng m rs L A K s ok hs;obtain⟨R',wC,uw⟩:=L7 m L (BM A K) s (by omega) ok.pm ic n1 ok.eI;obtain⟨G',wD,ux⟩:=L7 m L (EV (BM A K)) s (by omega) ok.pm ic n2 ok.kS;have sR:=Rp (R:=R') (by rw[E8 ok.pm];exact uw) wA ok.eI;have sG:=Rp (R:=G') (by rw[E8 ok.pm];exact ux) wB ok.kS;have u3:=L8 R R' uw.nd sR.1 sR.2;have jn:=L8 G G' ux.nd sG.1 sG.2;have d0:Bd (.lst [Fo R',Fo G']) (.int 0)=.ok (Fo R'):=rfl;have d1:Bd (.lst [Fo R',Fo G']) (.int 1)=.ok (Fo G'):=rfl;refine wp_step (ρ':=[some (.val (.lst (ns.map D.int))),some (.val (Am m rs)),some (.val (.lst (L.map D.int))),some (.val (AO m rs L A K)),some (.val (.lst [.lst ((CD L (BM A K)).map Be),.lst ((CD L (EV (BM A K))).map Be)])),some (.val (.int s)),some (.ow (.tree none (Gz R))),s7,s8]) (by simp_arith[uu];try rfl) ?_;refine wp_step (ρ':=[some (.val (.lst (ns.map D.int))),some (.val (Am m rs)),some (.val (.lst (L.map D.int))),some (.val (AO m rs L A K)),some (.val (.lst [.lst ((CD L (BM A K)).map Be),.lst ((CD L (EV (BM A K))).map Be)])),some (.val (.int s)),some (.ow (.tree none (Gz R))),some (.ow (.tree none (Gz G))),s8]) (by simp_arith[uv];try rfl) ?_;refine wp_step (ρ':=[some (.val (.lst (ns.map D.int))),some (.val (Am m rs)),some (.val (.lst (L.map D.int))),some (.val (AO m rs L A K)),some (.val (.lst [.lst ((CD L (BM A K)).map Be),.lst ((CD L (EV (BM A K))).map Be)])),some (.val (.int s)),some (.ow (.tree none (Gz R))),some (.ow (.tree none (Gz G))),some (.val (.lst [Fo R',Fo G']))]) (by simp_arith[s0,s1,i0,wC,wD];try rfl) ?_;refine wp_step (ρ':=[some (.val (.lst (ns.map D.int))),some (.val (Am m rs)),some (.val (.lst (L.map D.int))),some (.val (AO m rs L A K)),some (.val (.lst [.lst ((CD L (BM A K)).map Be),.lst ((CD L (EV (BM A K))).map Be)])),some (.val (.int s)),some (.ow (.tree none (Gz R))),some (.ow (.tree none (Gz G))),some (.val (.lst [Fo R',Fo G']))]) (by simp_arith[d0,d1,u3,jn,F4];try rfl) ?_;refine wp_step (ρ':=[some (.val (.lst (ns.map D.int))),some (.val (Am m rs)),some (.val (.lst (L.map D.int))),some (.val (AO m rs L A K)),some (.val (.lst [.lst ((CD L (BM A K)).map Be),.lst ((CD L (EV (BM A K))).map Be)])),some (.val (.int s)),some (.ow (.tree none (Gz []))),some (.ow (.tree none (Gz G))),some (.val (.lst [Fo R',Fo G']))]) (by simp_arith[if_true];try rfl) ?_;refine wp_step (ρ':=[some (.val (.lst (ns.map D.int))),some (.val (Am m rs)),some (.val (.lst (L.map D.int))),some (.val (AO m rs L A K)),some (.val (.lst [.lst ((CD L (BM A K)).map Be),.lst ((CD L (EV (BM A K))).map Be)])),some (.val (.int s)),some (.ow (.tree none (Gz []))),some (.ow (.tree none (Gz []))),some (.val (.lst [Fo R',Fo G']))]) (by simp_arith[if_true];try rfl) ?_;refine Bt (ρ':=[some (.val (.lst (ns.map D.int))),some (.val (Am m rs)),some (.val (.lst (L.map D.int))),some (.val (AO m rs L A K)),some (.val (.lst [.lst ((CD L (BM A K)).map Be),.lst ((CD L (EV (BM A K))).map Be)])),some (.val (.int s)),some (.ow (.tree none (Gz []))),some (.ow (.tree none (Gz []))),some (.val (.lst [Fo R',Fo G']))]) (by simp_arith[uu,uv,d0,d1,u3,jn,F4];try rfl) ⟨_,_,_,_,rfl⟩
  ·rintro ρ ⟨s5,s6,s7,s8,rfl⟩;exact⟨s5,s6,s7,s8,rfl⟩
 ·rintro ρ ⟨s5,s6,s7,s8,rfl⟩;rfl
noncomputable def YN:List D->M D:=zh Tz
def kY {P w K mg base f fd}:Txt K mg->Wo K "law" "law" FT f fd->Df P w K mg base Zi 8 f fd ["_law_script"] (Sv K 1 YN):=(zb Tz).1
def kZ:∀ns:List Int,ns.length<=63->(∀n∈ns,Sm n)->YN [.lst (ns.map D.int)]=.ok (.bl true):=(zb Tz).2
def all_mk {l:PySem.W.OpenLaw}{w:World}{K:za}{h:Heap}{mg:Str->Option Value}{fa:Addr}(X:K.In h)(G:h.Ns mainGlobals mg)(wE:mg "law" = some (.ref fa))
 {ad:Addr} {lh:Addr} {qg gl:Option Addr} {qh:Array (Option Value)} {qi gm gn gp de gq:Value} {df:Addr} {to27:Value} {qj:Option Addr} {qk:Nat} {ql:Array (Option Value)} {qm:Addr} {qo jz:Option Addr} {qp:Array (Option Value)} {qq j0 j1 j2 gu j3:Value} {bD:Addr} {bE:Addr} {aY:Addr}
 (ag:zd K mainGlobals "Ladder" = some (some (.ref ad))) (aF:yY K ad Str.empty=true) (aG:PySem.W.hasDictIn K ad=true) (aH:PySem.W.plainOver K ad=true) (aI:zi K (.ref ad) "__setattr__" = some (some (.builtin "object.__setattr__"))) (aJ:PySem.W.makesIn K ad=true) (aK:zO K (.ref ad)=true)
 (p1:FP K "is_whole_below" D1)
 (p2:FP K "is_measure" Fp)
 (p3:FP K "is_road" Kv)
 (p4:FP K "is_map" MX)
 (p5:FP K "checked" Kx)
 (p6:FP K "added" PP)
 (p7:FP K "least" PQ)
 (p8:FP K "road_cost" GA)
 (p9:FP K "kept_costs" Fq)
 (qr:FP K "kept_costs_turned" C6)
 (qt:FP K "climbed" Ky)
 (qu:FP K "climbed_from" Ea)
 (qv:FP K "climbing_to" EJ)
 (qw:FP K "cost_so_far" EK)
 (qx:FP K "lay" YE)
 (qy:FP K "lay_over" Iy)
 (qz:FP K "laid_arcs" GC)
 (rb:FP K "is_order" Iz)
 (rc:FP K "checked_order" Di)
 (re:FP K "first_bows" Fs)
 (rf:FP K "missing_bows" Eb)
 (rh:FP K "lightest" IA)
 (rj:FP K "ranked" N0)
 (rm:FP K "costs_from" Ft)
 (rn:FP K "order_or_ranked" CG)
 (rp:FP K "kept_arcs" GD)
 (rq:MP K ad "order" "Ladder.order" Ec)
 (r6:MP K ad "checked_arc" "Ladder.checked_arc" BV)
 (r9:MP K ad "cost" "Ladder.cost" EM)
 (se:MP K ad "kept" "Ladder.kept" EN)
 (sf:FP K "_law_cell_at" EO)
 (sg:FP K "_law_mixed" GF)
 (so:FP K "_law_road" ID)
 (sq:FP K "_law_map" KA)
 (sr:FP K "_law_order" GG)
 (ss:FP K "_law_plus" IE)
 (su:FP K "_law_least" GH)
 (sv:FP K "_law_cost" IF)
 (sw:FP K "_law_copy" IG)
 (sx:FP K "_law_steps" GI)
 (sy:FP K "_law_over" IH)
 (s9:FP K "_law_same" II)
 (sB:zi K (.ref ad) "__init__" = some (some (.ref lh))) (sH:yZ K (.ref lh)=true)
 (sI:K.lookup lh=some ⟨qi,qg,.func (zR "__init__" "Ladder.__init__" (AS Ap) (Az Ap) (A3 Ap) (.ref df) gm gn gp gl de gq),qh⟩) (sJ:yc K de "Ladder.__init__" = true) (sK:zO K (.ref lh)=true)
 (dg:K.lookup df=some ⟨to27,qj,.seq #[.none] qk,ql⟩)
 (li:zd K mainGlobals "law" = some (some (.ref qm)))
 (sL:K.lookup qm=some ⟨qq,qo,.func (zR "law" "law" (AS FT) (Az FT) (A3 FT) .none j0 j1 j2 jz gu j3),qp⟩) (sM:yc K gu "law" = true) (sN:zO K (.ref qm)=true)
 (z1:zd K mainGlobals "all" = some none)
 (z2:zd K mainGlobals "bool" = some none)
 (z3:zd K mainGlobals "dict" = some none)
 (z4:zd K mainGlobals "enumerate" = some none)
 (z5:zd K mainGlobals "int" = some none)
 (z6:zd K mainGlobals "isinstance" = some none)
 (z7:zd K mainGlobals "len" = some none)
 (z8:zd K mainGlobals "list" = some none)
 (z9:zd K mainGlobals "min" = some none)
 (sO:zd K mainGlobals "range" = some none)
 (sP:zd K mainGlobals "sorted" = some none)
 (sQ:zd K mainGlobals "tuple" = some none)
 (aO:zd K mainGlobals "NoArc" = some (some (.ref bD)))
 (aP:zd K mainGlobals "NoMap" = some (some (.ref bE)))
 (a6:zd K mainGlobals "NoOrder" = some (some (.ref aY)))
 (bf:yA K bD [.type "ValueError",.type "Exception",.type "BaseException",.type "object"] "ValueError.__new__" = true)
 (bg:yA K bE [.type "ValueError",.type "Exception",.type "BaseException",.type "object"] "ValueError.__new__" = true)
 (aL:yA K aY [.type "ValueError",.type "Exception",.type "BaseException",.type "object"] "ValueError.__new__" = true)
 (ak:zi K (.ref ad) "kept_ones" = some none)
 (av:zi K (.ref ad) "laid" = some none)
 (aq:zi K (.ref ad) "own_map" = some none)
 (al:zi K (.ref ad) "own_order" = some none):
 ∃fd:FuncData,(∀(s:Shared) (v:Value),BindsTo s fd ⟨[v],[]⟩ [("_law_script",v)])/\∀base:Heap,K.In base->base.Ns mainGlobals mg->Df l.prog w K mg base Zi 8 fa fd ["_law_script"] (Sv K 1 YN):=by
 have e:=wE.symm.trans (PySem.W.mg_of X G li);cases e;have aj:V3 K ad:=⟨aF,aG,aH,aI⟩;have wF:=dB (st:=Ap) sI sJ sK;have wG:Binds K (zR "__init__" "Ladder.__init__" (AS Ap) (Az Ap) (A3 Ap) (.ref df) gm gn gp gl de gq) ["self","net","order"] []:=λ s us hK hl=>by
  have aM:us.length=3:=by simpa using hl
  match us,aM with
  |[_,_,_],_=>exact PySem.W.binds_K hK rfl dg rfl rfl rfl
 have wH:Binds K (zR "__init__" "Ladder.__init__" (AS Ap) (Az Ap) (A3 Ap) (.ref df) gm gn gp gl de gq) ["self","net","order"] [.none]:=λ s us hK hl=>by
  have aM:us.length=2:=by simpa using hl
  match us,aM with
  |[_,_],_=>exact PySem.W.binds_K hK rfl dg rfl rfl rfl
 have wI:SM K mg "Ladder" "Ladder.__init__" Ap ["self","net","order"]:=⟨_,_,_,⟨ag,PySem.W.mg_of X G ag⟩,⟨aJ,sB,sH,aK⟩,wF,wG,wH⟩;have sS:=Sh (st:=FT) sL sM sN;have wJ:AK K mg "law" FT ["_law_script"]:=⟨_,_,sS,PySem.W.mg_of X G li,sS.binds λ _ _ _ _ _ _ us hl=>match us,hl with|[_],_=>rfl⟩;have T:Txt K mg:=⟨AY X G p1,AY X G p2,AY X G p3,AY X G p4,AY X G p5,AY X G p6,AY X G p7,AY X G p8,AY X G p9,AY X G qr,AY X G qt,AY X G qu,AY X G qv,AY X G qw,AY X G qx,AY X G qy,AY X G qz,AY X G rb,AY X G rc,AY X G re,AY X G rf,AY X G rh,AY X G rj,AY X G rm,AY X G rn,AY X G rp,wI,Uv ag aj rq,Uv ag aj r6,Uv ag aj r9,Uv ag aj se,AY X G sf,AY X G sg,AY X G so,AY X G sq,AY X G sr,AY X G ss,AY X G su,AY X G sv,AY X G sw,AY X G sx,AY X G sy,AY X G s9,wJ,ya X G z1,ya X G z2,ya X G z3,ya X G z4,ya X G z5,ya X G z6,ya X G z7,ya X G z8,ya X G z9,ya X G sO,ya X G sP,ya X G sQ,⟨_,aO,PySem.W.mg_of X G aO,bf⟩,⟨_,aP,PySem.W.mg_of X G aP,bg⟩,⟨_,a6,PySem.W.mg_of X G a6,aL⟩,⟨_,ag,aj,ak⟩,⟨_,ag,aj,av⟩,⟨_,ag,aj,aq⟩,⟨_,ag,aj,al⟩⟩;refine⟨zR "law" "law" (AS FT) (Az FT) (A3 FT) .none j0 j1 j2 jz gu j3,λ s v=>.of_eq rfl,λ base _ _=>?_⟩;exact kY T sS
set_option maxHeartbeats 0 in
set_option maxHeartbeats 0 in
set_option maxHeartbeats 0 in
set_option maxHeartbeats 0 in
def left (w:World):(PySem.W.openEnds treeTable PySem.Challenge.pw_nodeladder_k41_climbed w 6100).map (λ s=>PySem.W.openSeen (CM PySem.Challenge.pw_nodeladder_k41_climbed) [] (importedModules PySem.Challenge.pw_nodeladder_k41_climbed.main.body) (λ s=>PySem.W.xlAt (CM PySem.Challenge.pw_nodeladder_k41_climbed) [] s&&PySem.W.recOk [] s) true s)=some (PySem.W.openGood (CM PySem.Challenge.pw_nodeladder_k41_climbed) []):=by
 rw[Uw,jV,PySem.W.Fast.te4187177175401517315,PySem.W.Fast.te5923862056798008813,PySem.W.Fast.te11556603219560317063];exact Pp (lO w) (Pp (lP w) (Pp (lQ w) (lR w)))
set_option maxHeartbeats 0 in
def lA (w:World):Wt (Kp R0 PySem.Challenge.pw_nodeladder_k41_climbed w) PySem.Challenge.pw_nodeladder_k41_climbed:=by
 rw[jV,PySem.W.Fast.te11556603219560317063];exact YQ w
set_option maxHeartbeats 0 in
def lB (w:World):Wu (Kp R0 PySem.Challenge.pw_nodeladder_k41_climbed w) PySem.Challenge.pw_nodeladder_k41_climbed:=by
 rw[jV,PySem.W.Fast.te11556603219560317063];exact YR w
def walk {l:PySem.W.OpenLaw}{q:Program}{loose:List Str}{XP:(Str->Option Value)->Heap->Prop}{YP:World->Heap->Prop}{d:DefRec}{K:World->za}(hn:l.most=some 63)(fv:d.params.defaults=[])
 (hY:∀(w:World) (h:Heap),YP w h->(K w).In h)
 (F:∀(w:World) (mg:Str->Option Value) (fa:Addr) (h:Heap),(K w).In h->h.Ns mainGlobals mg->mg d.name=some (.ref fa)->
  ∃fd:FuncData,(∀(s:Shared) (u:Value),BindsTo s fd ⟨[u],[]⟩ [("_law_script",u)])/\∀base:Heap,(K w).In base->base.Ns mainGlobals mg->Df l.prog w (K w) mg base Zi 8 fa fd ["_law_script"] (Sv (K w) 1 YN)):
 PySem.W.WalkO q loose XP YP l.row.toRowW d [] (λ f vs=>PySem.call f vs):=
 L2.oU (n:=63) (k:=8) (x := "_law_script") (CX:=λ _=>Zi) (sp:=λ w=>Sv (K w) 1 YN) hn (by decide) fv ⟨rfl,by decide,by decide⟩ hY F (λ w H a ns bC hl _ hS=>ZK kZ (K w) H a ns bC hl hS) λ _ _ _ _ _ z=>z
end c3
open PySem PySem.W PyProof.Rows L2
set_option maxRecDepth 100000 in
set_option maxHeartbeats 0 in
theorem PySem.Challenge.cw_nodeladder_k41_climbed_holds : PySem.Challenge.rw_nodeladder_k41_climbed.Holds := by
 w_on;o_law
 refine holds_open (q:=CM PySem.Challenge.pw_nodeladder_k41_climbed) (loose:=[]) (Xt:=λ s=>xlAt (CM PySem.Challenge.pw_nodeladder_k41_climbed) [] s&&recOk [] s) (XP:=XL (CM PySem.Challenge.pw_nodeladder_k41_climbed) []) (Yf:=λ s=>s.heap) (Ya:=λ w=>Ws R0 PySem.Challenge.pw_nodeladder_k41_climbed w 6100) (YP:=λ w h=>oS (Ws R0 PySem.Challenge.pw_nodeladder_k41_climbed w 6100) h) (N:=6100) (dC c3.left) (λ w s e b o q=>by rw[<-e] at q;exact q) (λ w h h' a b c o q=>b c o (a c o q)) (λ s e=>xl_of s (Bool.and_eq_true_iff.mp e).1) XL.keeps (by rfl) (by rfl) (by rfl) (λ s e=>recFacts_of (Bool.and_eq_true_iff.mp e).2) (by rfl) (by first|assumption|decide +kernel) (by decide +kernel) ⟨rfl,rfl,rfl,rfl,rfl,by decide +kernel⟩ ?hw ?hc;case hw=>w_witness2
 case hc =>
  refine c3.walk (l:=PySem.Challenge.rw_nodeladder_k41_climbed) (K:=c3.Kp R0 PySem.Challenge.pw_nodeladder_k41_climbed) rfl rfl (λ w h Y=>jW Y) ?F;intro w mg fa h KX G f6;obtain⟨ag,aF,aG,aH,aI,aJ,aK,p1,p2,p3,p4,p5,p6,p7,p8,p9,qr,qt,qu,qv,qw,qx,qy,qz,rb,rc,re,rf,rh,rj,rm,rn,rp,rq,r6,r9,se,sf,sg,so,sq⟩:=c3.lA w;obtain⟨sr,ss,su,sv,sw,sx,sy,s9,sB,sH,sI,sJ,sK,dg,li,sL,sM,sN,z1,z2,z3,z4,z5,z6,z7,z8,z9,sO,sP,sQ,aO,aP,a6,bf,bg,aL,ak,av,aq,al⟩:=c3.lB w;exact c3.all_mk KX G f6 ag aF aG aH aI aJ aK p1 p2 p3 p4 p5 p6 p7 p8 p9 qr qt qu qv qw qx qy qz rb rc re rf rh rj rm rn rp rq r6 r9 se sf sg so sq sr ss su sv sw sx sy s9 sB sH sI sJ sK dg li sL sM sN z1 z2 z3 z4 z5 z6 z7 z8 z9 sO sP sQ aO aP a6 bf bg aL ak av aq al
