import PyProof.Rows.All
import Wide.All
import OpenK.AllK
import Wide.FinOn
import Lean
import PyProof.EqAt
import PyProof.EqKinds
import PyProof.TupleCall
import PyProof.NeKinds
import KE.KRevSl
import KE.KIsAll
import PyProof.ExcArgsOwn
import PyProof.ExcAttrAll.ValueError
import PyProof.ExcBaseAll.ValueError
import PyProof.FitsBits
import KE.LcSums
import KE.KRevIter
import PyProof.ListRange
import PyProof.Rows.SumAny
import PyProof.Rows.SortWalk
import PyProof.AttrMissHeap
import KE.KDictOf
import PyProof.ZipIter
import PyProof.DictWalks
import KE.KDictList
import KE.KFind
import KE.KDictSum
import KE.KSortTup
import PySem.Challenge.RW_nodeladder_k32_unpacked_walked
set_option Elab.async false
set_option linter.all false
set_option maxRecDepth 1000000
open PySem.W renaming Frag→za,nsIn→zc,findIn→zi,keepIn→zQ,fnOf→zS,mg_none_of→yc,codeIn→ye,emptyDict→yw,hideAll_get→yB,excIn→yG,kia_one→yO,instObj→yP,plainGet→xi,isFn→xj
open Classical renaming choose_spec→zb,choose→zm,propDecidable→xq
open List renaming mem_cons_self→zd,mem_cons_of_mem→ze,length_map→zf,map_cons→zg,size_toArray→zh,mem_cons→zl,mem_append_right→zo,mem_of_getElem?→zp,length_cons→zq,getElem?_eq_getElem→zr,set_cons_succ→zv,mem_singleton→zw,getElem?_eq_some_iff→zy,replicate→zA,length_append→zB,set_cons_zero→zE,getElem?_map→zG,getD_eq_getElem?_getD→zI,mem_append→zK,range→zL,nodup_append→zN,mem_append_left→zO,mem_map→zP,getElem?_cons_succ→zR,getElem?_set_self→zV,foldl_cons→zX,append_nil→yb,nodup_cons→yd,mem_filter→yf,map_append→yg,getElem?_set_ne→yo,pairwise_cons→yp,map_map→yr,mem_of_mem_take→yu,take_of_length_le→yx,replicate_succ→yz,getElem?_append_left→y2,length_singleton→y3,getElem?_eq_none→y4,take_length→y7,nodup_nil→yC,append_assoc→yD,length_set→yE,length_take→yI,mem_range→yM,take_add_one→yS,reverse_cons→yT,getElem?_cons_zero→yX,lookup_cons→yY,find?_cons→xc,any_cons→xg,getElem?_append_right→xh,length_drop→xl,drop_length→xm,cons_append→xn
open PySem.Heap renaming get?_push_of_some→zj,lt_size→zt,get?_push_size→zD,get?_update_self→yJ,SameBut→yW,get?_update_other→yZ
open Nat renaming le_refl→zu,lt_of_lt_of_le→zF,ne_of_lt→zJ,zero_le→zT,le_of_lt→yi,le_trans→yn
open Bool renaming false_eq_true→zC,false_ne_true→zM,and_eq_true→zW,eq_iff_iff→yV
open Option.some renaming inj→zH
open PySem.F renaming plain_min_loop→zU,plainAttrs_list→ym
open Or renaming inl→zY
open Prod renaming fst→zZ,snd→yA
open PySem.Value renaming ref→ya,none→yH
open Ne renaming symm→yh
open PySem.Builtin.Int renaming intBits→yj
open Option renaming isSome_iff_exists→yk,map_some→yq
open Array renaming getD_eq_getD_getElem?→yl,length_toList→yy,getElem?_eq_getElem→yL,getElem?_toList→xb
open Int renaming toNat_natCast→yt,emod_nonneg→yF,emod_lt_of_pos→yK
open PySem.Obj renaming mapSeq→yv
open PyProof.Rows renaming callWith_type1→y6
open PySem.W.Fast renaming tw5923862056798008813→y8,tw4187177175401517315→y9
open PySem.Heap.SameBut renaming update→yN
open PySem.Around renaming under_plainId→yQ
open False renaming elim→yR
open PySem.Builtin.Builtins renaming bindParams→yU
open PySem.NameKind renaming free→xa
open PySem.Builtin.List renaming listTooLong→xf
open PySem renaming mem_of_lookup→xk
open ForInStep renaming yield→xp
section
set_option maxHeartbeats 0
namespace L2
open PySem PySem.Spec PyProof.Rows PySem.W PySem.Calls
noncomputable def inClass (s:Stmt)(j:Nat):Stmt:=match s with
 | .ClassDef _ _ _ body _ _ _ _ _ _ _=>body.getD j (.Pass ⟨0,0,0,0⟩)
 |_=>.Pass ⟨0,0,0,0⟩
noncomputable def AL (s:Stmt):Arguments:=match s with
 | .FunctionDef _ a _ _ _ _ _ _ _ _=>a
 |_=>{posonlyargs:=[],args:=[],vararg:=none,kwonlyargs:=[],kw_defaults:=[],kwarg:=none,defaults:=[]}
noncomputable def Au (s:Stmt):List Stmt:=match s with
 | .FunctionDef _ _ b _ _ _ _ _ _ _=>b
 |_=>[]
noncomputable def A4 (s:Stmt):Scope:=match s with
 | .FunctionDef _ _ _ _ _ _ sc _ _ _=>sc
 |_=>{kind:=.function,names:=[],isGenerator:=false,isCoroutine:=false}
structure FP (K:za)(x:Str)(st:Stmt):Prop where
 ex:∃(f:Addr) (oc:Value) (od an:Option Addr) (sl:Array (Option Value)) (kV dc pm cd ct:Value),zc K mainGlobals x=some (some (.ref f))/\K.lookup f=some ⟨oc,od,.func (zS x x (AL st) (Au st) (A4 st) .none kV dc pm an cd ct),sl⟩/\ye K cd x=true/\zQ K (.ref f)=true
theorem jY {K:za}{x:Str}{st:Stmt}{f:Addr}{oc:Value}{od an:Option Addr}{sl:Array (Option Value)}{kV dc pm cd ct:Value}(a:zc K mainGlobals x=some (some (.ref f)))(l:K.lookup f=some ⟨oc,od,.func (zS x x (AL st) (Au st) (A4 st) .none kV dc pm an cd ct),sl⟩)(c:ye K cd x=true)(k:zQ K (.ref f)=true):FP K x st:=⟨⟨f,oc,od,an,sl,kV,dc,pm,cd,ct,a,l,c,k⟩⟩
structure MP (K:za)(C:Addr)(m qual:Str)(st:Stmt):Prop where
 ex:∃(f:Addr) (oc:Value) (od an:Option Addr) (sl:Array (Option Value)) (kV dc pm cd ct:Value),zi K (.ref C) m=some (some (.ref f))/\xj K (.ref f)=true/\K.lookup f=some ⟨oc,od,.func (zS m qual (AL st) (Au st) (A4 st) .none kV dc pm an cd ct),sl⟩/\ye K cd qual=true/\zQ K (.ref f)=true
theorem jZ {K:za}{C:Addr}{m qual:Str}{st:Stmt}{f:Addr}{oc:Value}{od an:Option Addr}{sl:Array (Option Value)}{kV dc pm cd ct:Value}(a:zi K (.ref C) m=some (some (.ref f)))(i:xj K (.ref f)=true)(l:K.lookup f=some ⟨oc,od,.func (zS m qual (AL st) (Au st) (A4 st) .none kV dc pm an cd ct),sl⟩)(c:ye K cd qual=true)(k:zQ K (.ref f)=true):MP K C m qual st:=⟨⟨f,oc,od,an,sl,kV,dc,pm,cd,ct,a,i,l,c,k⟩⟩
noncomputable def Cw (p:Program):Program:={p with main:={p.main with body:=p.main.body.filter λ s=>match s with | .FunctionDef .. =>true | .ClassDef .. =>true | _=>false} }
structure Rn where
 run:(String->Option Builtin)->Program->World->Nat->Option Value->Nat->Shared->Thread->Option Shared
 ns:Heap->Addr->Str->Option Value
 imp:(String->Option Builtin)->Program->World->Nat->Shared->Thread->Option Shared
 sS:Program->Shared->Option Shared
 st:Program->Shared×Thread
 tb:String->Option Builtin
noncomputable def Ld (R:Rn)(p:Program)(w:World)(N:Nat):Option Shared:=
 ((R.imp R.tb (opening p) w N (R.st (opening p)).fst (R.st (opening p)).snd).bind (R.sS p)).bind λ s₀ =>
 match s₀.heap.isNs mainGlobals&&s₀.gens.size==0 with
 |true=>(R.run R.tb p w s₀.heap.objs.size (R.ns s₀.heap mainGlobals (Str.ofString "__annotations__")) N s₀ (topStub p)).bind λ s₁ =>
  match staticsOk (importedModules p.main.body) s₀.heap s₁.heap&&namesBound p s₁.heap&&gensDone s₁&&laidKept s₀.heap s₁.heap with
  |true=>some s₁
  |false=>none
 |false=>none
noncomputable def R1:Rn:=⟨PySem.W.Fast.tw14082659384304107361,PySem.W.Fast.tw8920871248978507458,PySem.W.Fast.tw10274390034422433532,PySem.W.Fast.tw14289696077712309145,PySem.W.Fast.tw1435165496053646825,PySem.W.Fast.tw14364793385576792824⟩
noncomputable def Vv (R:Rn)(p:Program)(w:World)(N:Nat):Heap:=match Ld R p w N with | some s=>s.heap | none=>⟨#[],default⟩
noncomputable def nG (h:Heap)(as:List Addr):za:=as.filterMap λ a=>(h.get? a).map λ o=>(a,o)
noncomputable def B2 (v:Option (Option Value)):Addr:=match v with | some (some (.ref f))=>f | _=>0
noncomputable def De (K:za)(f:Addr):Obj:=(K.lookup f).getD ⟨.none,none,.plain,#[]⟩
noncomputable def H9 (d:Data)(st:Stmt):FuncData:=match d with | .func fd=>fd | _=>zS Str.empty Str.empty (AL st) [] (A4 st) .none .none .none .none none .none .none
noncomputable def TM (v:Value):Addr:=match v with | .ref a=>a | _=>0
noncomputable def nY (d:Data):Nat:=match d with | .seq _ n=>n | _=>0
theorem AA {K:za}{x:Str}{st:Stmt}(a:zc K mainGlobals x=some (some (.ref (B2 (zc K mainGlobals x)))):=by kernel_rfl)
 (l:K.lookup (B2 (zc K mainGlobals x))=some ⟨(De K (B2 (zc K mainGlobals x))).cls,(De K (B2 (zc K mainGlobals x))).dict,.func (zS x x (AL st) (Au st) (A4 st) .none (H9 (De K (B2 (zc K mainGlobals x))).data st).kwdefaults (H9 (De K (B2 (zc K mainGlobals x))).data st).doc (H9 (De K (B2 (zc K mainGlobals x))).data st).pyModule (H9 (De K (B2 (zc K mainGlobals x))).data st).annotations (H9 (De K (B2 (zc K mainGlobals x))).data st).code (H9 (De K (B2 (zc K mainGlobals x))).data st).closureTuple),(De K (B2 (zc K mainGlobals x))).slots⟩:=by kernel_rfl)
 (c:ye K (H9 (De K (B2 (zc K mainGlobals x))).data st).code x=true:=by kernel_rfl) (k:zQ K (.ref (B2 (zc K mainGlobals x)))=true:=by kernel_rfl):FP K x st:=jY a l c k
theorem Ha {K:za}{C:Addr}{m qual:Str}{st:Stmt}(a:zi K (.ref C) m=some (some (.ref (B2 (zi K (.ref C) m)))):=by kernel_rfl)(i:xj K (.ref (B2 (zi K (.ref C) m)))=true:=by kernel_rfl)
 (l:K.lookup (B2 (zi K (.ref C) m))=some ⟨(De K (B2 (zi K (.ref C) m))).cls,(De K (B2 (zi K (.ref C) m))).dict,.func (zS m qual (AL st) (Au st) (A4 st) .none (H9 (De K (B2 (zi K (.ref C) m))).data st).kwdefaults (H9 (De K (B2 (zi K (.ref C) m))).data st).doc (H9 (De K (B2 (zi K (.ref C) m))).data st).pyModule (H9 (De K (B2 (zi K (.ref C) m))).data st).annotations (H9 (De K (B2 (zi K (.ref C) m))).data st).code (H9 (De K (B2 (zi K (.ref C) m))).data st).closureTuple),(De K (B2 (zi K (.ref C) m))).slots⟩:=by kernel_rfl)
 (c:ye K (H9 (De K (B2 (zi K (.ref C) m))).data st).code qual=true:=by kernel_rfl) (k:zQ K (.ref (B2 (zi K (.ref C) m)))=true:=by kernel_rfl):MP K C m qual st:=jZ a i l c k
end L2
namespace cw
open PySem L2
theorem prim:(PySem.W.chainsOk PySem.Challenge.pw_nodeladder_k32_unpacked_walked||true)=true:=by k_qdec
theorem kA (w:World):(Ld R1 PySem.W.Fast.tw5963586717724020752 w 6100).map (λ s=>(y9 (Cw PySem.W.Fast.tw5963586717724020752) [] (y8 PySem.W.Fast.tw5963586717724020752.main.body) (λ s=>PySem.W.xlAt (Cw PySem.W.Fast.tw5963586717724020752) [] s&&PySem.W.recOk [] s) true s).1)=some (PySem.W.openGood (Cw PySem.W.Fast.tw5963586717724020752) []).1:=by kernel_rfl
theorem kB (w:World):(Ld R1 PySem.W.Fast.tw5963586717724020752 w 6100).map (λ s=>(y9 (Cw PySem.W.Fast.tw5963586717724020752) [] (y8 PySem.W.Fast.tw5963586717724020752.main.body) (λ s=>PySem.W.xlAt (Cw PySem.W.Fast.tw5963586717724020752) [] s&&PySem.W.recOk [] s) true s).2.1)=some (PySem.W.openGood (Cw PySem.W.Fast.tw5963586717724020752) []).2.1:=by kernel_rfl
theorem kC (w:World):(Ld R1 PySem.W.Fast.tw5963586717724020752 w 6100).map (λ s=>(y9 (Cw PySem.W.Fast.tw5963586717724020752) [] (y8 PySem.W.Fast.tw5963586717724020752.main.body) (λ s=>PySem.W.xlAt (Cw PySem.W.Fast.tw5963586717724020752) [] s&&PySem.W.recOk [] s) true s).2.2.1)=some (PySem.W.openGood (Cw PySem.W.Fast.tw5963586717724020752) []).2.2.1:=by kernel_rfl
theorem kD (w:World):(Ld R1 PySem.W.Fast.tw5963586717724020752 w 6100).map (λ s=>(y9 (Cw PySem.W.Fast.tw5963586717724020752) [] (y8 PySem.W.Fast.tw5963586717724020752.main.body) (λ s=>PySem.W.xlAt (Cw PySem.W.Fast.tw5963586717724020752) [] s&&PySem.W.recOk [] s) true s).2.2.2)=some (PySem.W.openGood (Cw PySem.W.Fast.tw5963586717724020752) []).2.2.2:=by kernel_rfl
noncomputable def topP (p:Program)(i:Nat):Stmt:=p.main.body.getD i (.Pass ⟨0,0,0,0⟩)
noncomputable def Kp (R:Rn)(p:Program)(w:World):za:=nG (Vv R p w 6100) (zL 440)
def Vw (K:za)(p:Program):Prop:=
 (zc K mainGlobals "Ladder" = some (some (.ref (B2 (zc K mainGlobals "Ladder")))))/\
 (xi K (B2 (zc K mainGlobals "Ladder")) Str.empty=true)/\
 (PySem.W.hasDictIn K (B2 (zc K mainGlobals "Ladder"))=true)/\
 (PySem.W.plainOver K (B2 (zc K mainGlobals "Ladder"))=true)/\
 (zi K (.ref (B2 (zc K mainGlobals "Ladder"))) "__setattr__" = some (some (.builtin "object.__setattr__")))/\
 (PySem.W.makesIn K (B2 (zc K mainGlobals "Ladder"))=true)/\
 (zQ K (.ref (B2 (zc K mainGlobals "Ladder")))=true)/\
 (FP K "is_whole_below" (topP p 7))/\
 (FP K "is_measure" (topP p 8))/\
 (FP K "is_road" (topP p 9))/\
 (FP K "is_map" (topP p 10))/\
 (FP K "checked" (topP p 11))/\
 (FP K "added" (topP p 12))/\
 (FP K "least" (topP p 13))/\
 (FP K "road_cost" (topP p 14))/\
 (FP K "cost_so_far" (topP p 16))/\
 (FP K "lay" (topP p 17))/\
 (FP K "lay_over" (topP p 18))/\
 (FP K "laid_arcs" (topP p 19))/\
 (FP K "is_order" (topP p 21))/\
 (FP K "checked_order" (topP p 22))/\
 (FP K "first_bows" (topP p 23))/\
 (FP K "missing_bows" (topP p 24))/\
 (FP K "lightest" (topP p 25))/\
 (FP K "ranked" (topP p 26))/\
 (FP K "costs_from" (topP p 28))/\
 (FP K "order_or_ranked" (topP p 30))/\
 (FP K "kept_arcs" (topP p 31))/\
 (FP K "road_under" (topP p 32))/\
 (MP K (B2 (zc K mainGlobals "Ladder")) "order" "Ladder.order" (inClass (topP p 33) 2))/\
 (MP K (B2 (zc K mainGlobals "Ladder")) "arcs" "Ladder.arcs" (inClass (topP p 33) 3))/\
 (MP K (B2 (zc K mainGlobals "Ladder")) "checked_arc" "Ladder.checked_arc" (inClass (topP p 33) 4))/\
 (MP K (B2 (zc K mainGlobals "Ladder")) "cost" "Ladder.cost" (inClass (topP p 33) 5))/\
 (MP K (B2 (zc K mainGlobals "Ladder")) "unpacked" "Ladder.unpacked" (inClass (topP p 33) 7))/\
 (MP K (B2 (zc K mainGlobals "Ladder")) "kept" "Ladder.kept" (inClass (topP p 33) 8))/\
 (FP K "_law_mixed" (topP p 35))/\
 (FP K "_law_road" (topP p 36))
theorem Y4 (w:World):Vw (Kp R1 PySem.W.Fast.tw5963586717724020752 w) PySem.W.Fast.tw5963586717724020752:=
 ⟨by kernel_rfl,by kernel_rfl,by kernel_rfl,by kernel_rfl,by kernel_rfl,by kernel_rfl,by kernel_rfl,AA,AA,AA,AA,AA,AA,AA,AA,AA,AA,AA,AA,AA,AA,AA,AA,AA,AA,AA,AA,AA,AA,Ha,Ha,Ha,Ha,Ha,Ha,AA,AA⟩
def Vx (K:za)(p:Program):Prop:=
 (FP K "_law_map" (topP p 37))/\
 (FP K "_law_order" (topP p 38))/\
 (FP K "_law_walked" (topP p 39))/\
 (FP K "_law_right" (topP p 40))/\
 (zi K (.ref (B2 (zc K mainGlobals "Ladder"))) "__init__" = some (some (.ref (B2 (zi K (.ref (B2 (zc K mainGlobals "Ladder"))) "__init__")))))/\
 (xj K (.ref (B2 (zi K (.ref (B2 (zc K mainGlobals "Ladder"))) "__init__")))=true)/\
 (K.lookup (B2 (zi K (.ref (B2 (zc K mainGlobals "Ladder"))) "__init__"))=some ⟨(De K (B2 (zi K (.ref (B2 (zc K mainGlobals "Ladder"))) "__init__"))).cls,(De K (B2 (zi K (.ref (B2 (zc K mainGlobals "Ladder"))) "__init__"))).dict,.func (zS "__init__" "Ladder.__init__" (AL (inClass (topP p 33) 0)) (Au (inClass (topP p 33) 0)) (A4 (inClass (topP p 33) 0)) (.ref (TM (H9 (De K (B2 (zi K (.ref (B2 (zc K mainGlobals "Ladder"))) "__init__"))).data (inClass (topP p 33) 0)).defaults)) (H9 (De K (B2 (zi K (.ref (B2 (zc K mainGlobals "Ladder"))) "__init__"))).data (inClass (topP p 33) 0)).kwdefaults (H9 (De K (B2 (zi K (.ref (B2 (zc K mainGlobals "Ladder"))) "__init__"))).data (inClass (topP p 33) 0)).doc (H9 (De K (B2 (zi K (.ref (B2 (zc K mainGlobals "Ladder"))) "__init__"))).data (inClass (topP p 33) 0)).pyModule (H9 (De K (B2 (zi K (.ref (B2 (zc K mainGlobals "Ladder"))) "__init__"))).data (inClass (topP p 33) 0)).annotations (H9 (De K (B2 (zi K (.ref (B2 (zc K mainGlobals "Ladder"))) "__init__"))).data (inClass (topP p 33) 0)).code (H9 (De K (B2 (zi K (.ref (B2 (zc K mainGlobals "Ladder"))) "__init__"))).data (inClass (topP p 33) 0)).closureTuple),(De K (B2 (zi K (.ref (B2 (zc K mainGlobals "Ladder"))) "__init__"))).slots⟩)/\
 (ye K (H9 (De K (B2 (zi K (.ref (B2 (zc K mainGlobals "Ladder"))) "__init__"))).data (inClass (topP p 33) 0)).code "Ladder.__init__" = true)/\
 (zQ K (.ref (B2 (zi K (.ref (B2 (zc K mainGlobals "Ladder"))) "__init__")))=true)/\
 (K.lookup (TM (H9 (De K (B2 (zi K (.ref (B2 (zc K mainGlobals "Ladder"))) "__init__"))).data (inClass (topP p 33) 0)).defaults)=some ⟨(De K (TM (H9 (De K (B2 (zi K (.ref (B2 (zc K mainGlobals "Ladder"))) "__init__"))).data (inClass (topP p 33) 0)).defaults)).cls,(De K (TM (H9 (De K (B2 (zi K (.ref (B2 (zc K mainGlobals "Ladder"))) "__init__"))).data (inClass (topP p 33) 0)).defaults)).dict,.seq #[.none] (nY (De K (TM (H9 (De K (B2 (zi K (.ref (B2 (zc K mainGlobals "Ladder"))) "__init__"))).data (inClass (topP p 33) 0)).defaults)).data),(De K (TM (H9 (De K (B2 (zi K (.ref (B2 (zc K mainGlobals "Ladder"))) "__init__"))).data (inClass (topP p 33) 0)).defaults)).slots⟩)/\
 (zc K mainGlobals "law" = some (some (.ref (B2 (zc K mainGlobals "law")))))/\
 (K.lookup (B2 (zc K mainGlobals "law"))=some ⟨(De K (B2 (zc K mainGlobals "law"))).cls,(De K (B2 (zc K mainGlobals "law"))).dict,.func (zS "law" "law" (AL (topP p 41)) (Au (topP p 41)) (A4 (topP p 41)) .none (H9 (De K (B2 (zc K mainGlobals "law"))).data (topP p 41)).kwdefaults (H9 (De K (B2 (zc K mainGlobals "law"))).data (topP p 41)).doc (H9 (De K (B2 (zc K mainGlobals "law"))).data (topP p 41)).pyModule (H9 (De K (B2 (zc K mainGlobals "law"))).data (topP p 41)).annotations (H9 (De K (B2 (zc K mainGlobals "law"))).data (topP p 41)).code (H9 (De K (B2 (zc K mainGlobals "law"))).data (topP p 41)).closureTuple),(De K (B2 (zc K mainGlobals "law"))).slots⟩)/\
 (ye K (H9 (De K (B2 (zc K mainGlobals "law"))).data (topP p 41)).code "law" = true)/\
 (zQ K (.ref (B2 (zc K mainGlobals "law")))=true)/\
 (zc K mainGlobals "all" = some none)/\
 (zc K mainGlobals "bool" = some none)/\
 (zc K mainGlobals "enumerate" = some none)/\
 (zc K mainGlobals "int" = some none)/\
 (zc K mainGlobals "isinstance" = some none)/\
 (zc K mainGlobals "len" = some none)/\
 (zc K mainGlobals "list" = some none)/\
 (zc K mainGlobals "min" = some none)/\
 (zc K mainGlobals "range" = some none)/\
 (zc K mainGlobals "sorted" = some none)/\
 (zc K mainGlobals "sum" = some none)/\
 (zc K mainGlobals "tuple" = some none)/\
 (zc K mainGlobals "NoArc" = some (some (.ref (B2 (zc K mainGlobals "NoArc")))))/\
 (zc K mainGlobals "NoMap" = some (some (.ref (B2 (zc K mainGlobals "NoMap")))))/\
 (zc K mainGlobals "NoOrder" = some (some (.ref (B2 (zc K mainGlobals "NoOrder")))))/\
 (yG K (B2 (zc K mainGlobals "NoArc")) [.type "ValueError",.type "Exception",.type "BaseException",.type "object"] "ValueError.__new__" = true)/\
 (yG K (B2 (zc K mainGlobals "NoMap")) [.type "ValueError",.type "Exception",.type "BaseException",.type "object"] "ValueError.__new__" = true)/\
 (yG K (B2 (zc K mainGlobals "NoOrder")) [.type "ValueError",.type "Exception",.type "BaseException",.type "object"] "ValueError.__new__" = true)/\
 (zi K (.ref (B2 (zc K mainGlobals "Ladder"))) "kept_ones" = some none)/\
 (zi K (.ref (B2 (zc K mainGlobals "Ladder"))) "laid" = some none)/\
 (zi K (.ref (B2 (zc K mainGlobals "Ladder"))) "own_map" = some none)/\
 (zi K (.ref (B2 (zc K mainGlobals "Ladder"))) "own_order" = some none)
theorem Y5 (w:World):Vx (Kp R1 PySem.W.Fast.tw5963586717724020752 w) PySem.W.Fast.tw5963586717724020752:=
 ⟨AA,AA,AA,AA,by kernel_rfl,by kernel_rfl,by kernel_rfl,by kernel_rfl,by kernel_rfl,by kernel_rfl,by kernel_rfl,by kernel_rfl,by kernel_rfl,by kernel_rfl,by kernel_rfl,by kernel_rfl,by kernel_rfl,by kernel_rfl,by kernel_rfl,by kernel_rfl,by kernel_rfl,by kernel_rfl,by kernel_rfl,by kernel_rfl,by kernel_rfl,by kernel_rfl,by kernel_rfl,by kernel_rfl,by kernel_rfl,by kernel_rfl,by kernel_rfl,by kernel_rfl,by kernel_rfl,by kernel_rfl,by kernel_rfl,by kernel_rfl⟩
end cw
end
set_option Elab.async false
set_option linter.all false
set_option maxRecDepth 100000
namespace L2
open PySem PySem.Spec PyProof.Rows
noncomputable abbrev Key:=Sum Int Str
noncomputable def Na:Key->Value->Bool
 | .inl k,v=>Value.isInt k v
 | .inr x,v=>Value.isStrOf x v
noncomputable def nZ (w:World):Key->Int
 | .inl k=>hashInt k
 | .inr x=>hashStr w x
theorem Bk:∀ {k:Key}{v:Value},Na k v=true->(∃i t,k=Sum.inl i/\v=Value.int i t)\/(∃x t,k=Sum.inr x/\v=Value.str x t)
 | .inl i,v,h=>by
  obtain⟨t,e⟩:=Value.isInt_shape (k:=i) (v:=v) h;exact .inl ⟨i,t,rfl,e⟩
 | .inr x,v,h=>by
  obtain⟨t,e⟩:=Value.isStrOf_shape (x:=x) (v:=v) h;exact .inr ⟨x,t,rfl,e⟩
theorem TN (i:Int)(t:Tok):Na (.inl i) (.int i t)=true:=by simp[Na,Value.isInt]
theorem TQ (x:Str)(t:Tok):Na (.inr x) (.str x t)=true:=by simp[Na,Value.isStrOf]
theorem dP (a b:Int):decide ((Sum.inl a:Key)=Sum.inl b)=(a==b):=by
 by_cases e:a=b
 ·subst e;simp
 ·have h:¬ (Sum.inl a:Key)=Sum.inl b:=λ q=>e (Sum.inl.inj q);rw[decide_eq_false h];exact (beq_eq_false_iff_ne.mpr e).symm
theorem dQ (a b:Str):decide ((Sum.inr a:Key)=Sum.inr b)=decide (a=b):=by
 by_cases e:a=b
 ·subst e;simp
 ·have h:¬ (Sum.inr a:Key)=Sum.inr b:=λ q=>e (Sum.inr.inj q);rw[decide_eq_false h,decide_eq_false e]
theorem dR (a:Int)(b:Str):decide ((Sum.inl a:Key)=Sum.inr b)=false:=decide_eq_false (λ q=>nomatch q)
theorem dS (a:Str)(b:Int):decide ((Sum.inr a:Key)=Sum.inl b)=false:=decide_eq_false (λ q=>nomatch q)
noncomputable def Bx (prog:Program)(w:World):PySem.KeyKind prog w Key where
 is:=Na
 hash:=nZ w
 inj:=λ v a b ha hb=>by
  rcases Bk ha with ⟨i,t,rfl,rfl⟩|⟨x,t,rfl,rfl⟩
  ·rcases Bk hb with ⟨j,u,rfl,e⟩|⟨y,u,rfl,e⟩
   ·injection e with e1 _;rw[e1]
   ·exact nomatch e
  ·rcases Bk hb with ⟨j,u,rfl,e⟩|⟨y,u,rfl,e⟩
   ·exact nomatch e
   ·injection e with e1 _;rw[e1]
 byValue:=λ k v h=>by
  rcases Bk h with ⟨i,t,rfl,rfl⟩|⟨x,t,rfl,rfl⟩<;>rfl
 pyHash:=λ hv h=>by
  rcases Bk hv with ⟨i,t,rfl,rfl⟩|⟨x,t,rfl,rfl⟩
  ·exact wpAny_pyHash_int h
  ·exact wpAny_pyHash_str h
 eqBool:=λ hu hv h=>by
  rcases Bk hu with ⟨i,t,rfl,rfl⟩|⟨x,t,rfl,rfl⟩
  ·rcases Bk hv with ⟨j,u,rfl,rfl⟩|⟨y,u,rfl,rfl⟩
   ·rw[dP] at h;exact wpAny_eqBool_int h
   ·rw[dR] at h;exact SeqAt.EqAt.int_str i t y u _ _ _ _ h
  ·rcases Bk hv with ⟨j,u,rfl,rfl⟩|⟨y,u,rfl,rfl⟩
   ·rw[dS] at h;exact SeqAt.EqAt.str_int x t j u _ _ _ _ h
   ·rw[dQ] at h;exact wpAny_eqBool_str h
 «strs»:=λ k x t v h=>by
  rcases Bk h with ⟨i,u,rfl,e⟩|⟨y,u,rfl,e⟩
  ·exact nomatch e
  ·injection e with e1 _
   subst e1;cases v<;>rfl
theorem Pm (prog:Program)(w:World)(i:Int)(t:Tok):(Bx prog w).is (.inl i) (.int i t)=true:=TN i t
theorem Pn (prog:Program)(w:World)(x:Str)(t:Tok):(Bx prog w).is (.inr x) (.str x t)=true:=TQ x t
inductive V where
 |Az|bl (b:Bool)|int (i:Int)|str (x:Str)|dU (b:Array UInt8)|kE (b:UInt64)|ref (a:Addr)|ty (n:String)
 deriving DecidableEq
def RelV:V->Value->Prop
 | .Az,u=>u=yH
 | .bl b,u=>u=Value.bool b
 | .int i,u=>∃t,u=Value.int i t
 | .str x,u=>∃t,u=Value.str x t
 | .dU b,u=>∃t,u=Value.bytes b t
 | .kE b,u=>∃t,u=Value.float b t
 | .ref a,u=>u=ya a
 | .ty n,u=>u=Value.type n
noncomputable abbrev Vals:List V->List Value->Prop:=Paired RelV
theorem Vals.length {xs:List V}{us:List Value}(r:Vals xs us):xs.length=us.length:=Paired.length r
theorem Vals.get:∀ {xs:List V}{us:List Value}{i:Nat}{x:V},Vals xs us->xs[i]?=some x->∃u,us[i]?=some u/\RelV x u
 |_,_,_,_,.nil,e=>by simp at e
 |_,_,0,_,.cons r _,e=>by simp at e;subst e;exact⟨_,rfl,r⟩
 |_,_,i+1,x,.cons _ t,e=>by
  obtain⟨u,h1,h2⟩:=Vals.get (i:=i) (x:=x) t (by simpa using e);exact⟨u,by simpa using h1,h2⟩
theorem Vals.set {x:V}{u:Value}(r:RelV x u):∀ {xs:List V}{us:List Value}(i:Nat),Vals xs us->Vals (xs.set i x) (us.set i u)
 |_,_,_,.nil=>.nil
 |_,_,0,.cons _ t=>.cons r t
 |_,_,i+1,.cons q t=>.cons q (Vals.set r i t)
theorem Vals.append:∀ {xs ys:List V}{us ws:List Value},Vals xs us->Vals ys ws->Vals (xs++ys) (us++ws)
 |_,_,_,_,.nil,s=>s
 |_,_,_,_,.cons r t,s=>.cons r (Vals.append t s)
theorem Vals.take:∀ {xs:List V}{us:List Value}(n:Nat),Vals xs us->Vals (xs.take n) (us.take n)
 |_,_,0,_|_,_,_+1,.nil=>.nil
 |_,_,n+1,.cons r t=>.cons r (Vals.take n t)
theorem Vals.drop:∀ {xs:List V}{us:List Value}(n:Nat),Vals xs us->Vals (xs.drop n) (us.drop n)
 |_,_,0,r=>r
 |_,_,_+1,.nil=>.nil
 |_,_,n+1,.cons _ t=>Vals.drop n t
def HK:Option V->Option Value->Prop
 |some v,some u=>RelV v u
 |none,none=>True
 |_,_=>False
def KV {κ:Type}:List (κ×V)->List (κ×Value)->Prop:=Paired λ(p:κ×V) (q:κ×Value)=>p.1=q.1/\RelV p.2 q.2
noncomputable def kV:Key->V
 | .inl i=>.int i
 | .inr x=>.str x
inductive HO where
 |lst (xs:List V)
 |tup (xs:List V)
 |dK (kvs:List (Key×V))|dT (kvs:List (List Key×V))
 |set (S:Int->Bool) (n:Nat)
 |ins (C dx:Addr) (fs:List (Str×V))
 |own (x:Addr)
 |xd (fs:List (Str×V))
 |met (f x:Addr)
 |nI (lo hi:Int)
 |TR (o:Obj) (u:HO)
 |ZV (ps:Array Value)
 |ext (φ:Heap->Prop)
noncomputable abbrev Hp:=Addr->Option HO
noncomputable def upd (H:Hp)(a:Addr)(o:HO):Hp:=λ b=>if b=a then some o else H b
theorem AH {H:Hp}{a:Addr}{o:HO}:upd H a o a=some o:=by unfold upd;rw[if_pos rfl]
theorem Am {H:Hp}{a b:Addr}{o:HO}(h:b≠a):upd H a o b=H b:=by unfold upd;rw[if_neg h]
theorem kF {H:Hp}{a b:Addr}{o u:HO}(h:H a=some o)(h':H b=some u)(d:o≠u):a≠b:=by
 intro e;subst e;rw[h] at h';exact d (zH h')
theorem Ay {H:Hp}{a b:Addr}{o:HO}(h:H a=some o)(h':H b=none):a≠b:=by
 intro e;subst e;rw[h] at h';cases h'
section
variable (P:Program) (w:World)
def Bp (H:Hp)(h:Heap)(a:Addr):HO->Prop
 | .lst xs=>xs.length<=sizeLine/\∃(aa:List Value) (n:Nat),Vals xs aa/\h.get? a=some {cls:=.type "list",data:=.seq aa.toArray n}
 | .tup xs=>xs.length<=sizeLine/\∃aa:List Value,Vals xs aa/\IsTup h a aa.toArray
 | .dK kvs=>kvs.length<=sizeLine/\(a==sysModules)=false/\∃vs,KV kvs vs/\h.DictOf (Bx P w) a vs
 | .dT kvs=>kvs.length<=sizeLine/\(a==sysModules)=false/\∃xs:List (List Key×Addr×Value),
  Paired (λ(p:List Key×V) (q:List Key×Addr×Value)=>p.1=q.1/\H q.2.1=some (.tup (p.1.map kV))/\RelV p.2 q.2.2) kvs xs/\
  ∃o es ep,h.get? a=some o/\o.ExactDict/\o.data=.dict es ep/\es.toList=xs.map (entryOfKey (tupleKind (Bx P w)))/\(xs.map (·.1)).Nodup
 | .set S n=>h.SetOf (intKind P w) a S n
 | .ins C dx fs=>H dx=some (.own a)/\fs.length<=1000/\dx≠a/\h.get? a=some (yP C dx)/\
  ∃mA,h.Ns1 dx mA/\(∀f,HK (fs.lookup f) (mA f))/\PySem.Within mA (fs.map (·.1))
 | .own _=>∃o,h.get? a=some o
 | .xd fs=>∃mA,h.Ns1 a mA/\∀f,HK (fs.lookup f) (mA f)
 | .nI lo hi=>∃t u v,h.get? a=some {cls:=.type "range",data:=.fields #[.int lo t,.int hi u,.int 1 v]}
 | .TR o u=>h.get? a=some o/\Bp H h a u
 | .ZV ps=>h.get? a=some {cls:=.none,data:=.fields ps}
 | .met f x=>h.get? a=some (PySem.W.methodObj (.ref f) (.ref x))
 | .ext φ=>φ h/\(∃o,h.get? a=some o)/\∀h1 h2:Heap,φ h1->(∀o,h1.get? a=some o->h2.get? a=some o)->φ h2
def Gd (H:Hp)(h:Heap):Prop:=∀a o,H a=some o->Bp P w H h a o
end
section
variable {P:Program}{w:World}{H H':Hp}{h h':Heap}{a:Addr}{o:HO}
theorem Bp.lt (x:Bp P w H h a o):a<h.objs.size:=by
 cases o with
 |lst xs=>obtain⟨_,_,_,_,e⟩:=x;exact zt e
 |tup xs=>obtain⟨_,_,_,p⟩:=x;exact p.lt
 |dK kvs|dT kvs=>obtain⟨_,_,_,_,o,_,_,e,_⟩:=x;exact zt e
 |set S n=>obtain⟨o,_,_,_,e,_⟩:=x;exact zt e
 |ins C dx fs=>obtain⟨_,_,_,e,_⟩:=x;exact zt e
 |own y=>obtain⟨_,e⟩:=x;exact zt e
 |xd fs=>obtain⟨_,⟨_,_,_,e,_⟩,_⟩:=x;exact zt e
 |nI lo hi=>obtain⟨_,_,_,e⟩:=x;exact zt e
 |TR ob u=>obtain⟨e,_⟩:=x;exact zt e
 |ZV ps|met f y=>exact zt (show h.get? a=some _ from x)
 |ext φ=>obtain⟨_,⟨_,e⟩,_⟩:=x;exact zt e
theorem Paired.dW {α β:Type}{F G:α->β->Prop}:∀ {l₁:List α}{l₂:List β},Paired F l₁ l₂->(∀a b,F a b->G a b)->Paired G l₁ l₂
 |_,_,.nil,_=>.nil
 |_,_,.cons r t,f=>.cons (f _ _ r) (Paired.dW t f)
theorem Bp.Od (x:Bp P w H h a o)(k:∀b u,(b=a\/H b=some (.own a))->h.get? b=some u->h'.get? b=some u)
 (ho:∀b,H b=some (.own a)->H' b=some (.own a)) (ht:∀b xs,H b=some (.tup xs)->H' b=some (.tup xs)):Bp P w H' h' a o:=by
 induction o with
 |lst xs=>obtain⟨z,aa,n,r,e⟩:=x;exact⟨z,aa,n,r,k _ _ (.inl rfl) e⟩
 |tup xs=>obtain⟨z,aa,r,ob,e,c⟩:=x;exact⟨z,aa,r,ob,k _ _ (.inl rfl) e,c⟩
 |dK kvs=>obtain⟨z,y,vs,r,ob,es,ep,e,c⟩:=x;exact⟨z,y,vs,r,ob,es,ep,k _ _ (.inl rfl) e,c⟩
 |dT kvs =>
  obtain⟨z,y,xs,r,ob,es,ep,e,c⟩:=x;exact⟨z,y,xs,Paired.dW r λ p q z=>⟨z.1,ht _ _ z.2.1,z.2.2⟩,ob,es,ep,k _ _ (.inl rfl) e,c⟩
 |set S n=>obtain⟨ob,es,ep,t,e,c⟩:=x;exact⟨ob,es,ep,t,k _ _ (.inl rfl) e,c⟩
 |ins C dx fs =>
  obtain⟨d,z,ne,e,mA,⟨od,es,ep,e2,c⟩,r⟩:=x;exact⟨ho _ d,z,ne,k _ _ (.inl rfl) e,mA,⟨od,es,ep,k _ _ (.inr d) e2,c⟩,r⟩
 |own y=>obtain⟨ob,e⟩:=x;exact⟨ob,k _ _ (.inl rfl) e⟩
 |xd fs=>obtain⟨mA,⟨od,es,ep,e,c⟩,r⟩:=x;exact⟨mA,⟨od,es,ep,k _ _ (.inl rfl) e,c⟩,r⟩
 |nI lo hi=>obtain⟨t,u,v,e⟩:=x;exact⟨t,u,v,k _ _ (.inl rfl) e⟩
 |TR ob u ih=>obtain⟨e,q⟩:=x;exact⟨k _ _ (.inl rfl) e,ih q⟩
 |ZV ps =>
  have e:h.get? a=some {cls:=.none,data:=.fields ps}:=x;show h'.get? a=some {cls:=.none,data:=.fields ps};exact k a _ (.inl rfl) e
 |met f y =>
  have e:h.get? a=some (PySem.W.methodObj (.ref f) (.ref y)):=x;show h'.get? a=some (PySem.W.methodObj (.ref f) (.ref y));exact k a _ (.inl rfl) e
 |ext φ=>obtain⟨p,⟨o,e⟩,st⟩:=x;exact⟨st _ _ p λ o q=>k _ _ (.inl rfl) q,⟨o,k _ _ (.inl rfl) e⟩,st⟩
theorem Gd.lt (x:Gd P w H h)(e:H a=some o):a<h.objs.size:=(x a o e).lt
theorem Gd.fresh (x:Gd P w H h)(e:h.objs.size<=a):H a=none:=by
 cases q:H a with
 |none=>rfl
 |some u=>exact absurd (zF (x.lt q) e) (Nat.lt_irrefl _)
theorem Gd.kept (x:Gd P w H h)(k:∀b u,h.get? b=some u->h'.get? b=some u):Gd P w H h':=λ a o e =>
 (x a o e).Od (λ b u _ q=>k b u q) (λ _ q=>q) λ _ _ q=>q
theorem Gd.laid (x:Gd P w H h)(k:∀b u,h.get? b=some u->h'.get? b=some u)(hp:h.objs.size<=a)(new:Bp P w (upd H a o) h' a o):Gd P w (upd H a o) h':=λ b u e=>by
 have hn:=x.fresh hp;by_cases hb:b=a
 ·subst hb;rw[AH] at e;cases e;exact new
 ·rw[Am hb] at e;exact (x b u e).Od (λ c v _ q=>k c v q) (λ c q=>by rw[Am (Ay q hn)];exact q) λ c xs q=>by rw[Am (Ay q hn)];exact q
end
def Rd (H:Hp)(a:Addr)(u:HO):Prop:=H a=some u\/∃o,H a=some (.TR o u)
theorem Rd.ok {P:Program}{w:World}{H:Hp}{h:Heap}{a:Addr}{u:HO}(r:Rd H a u)(x:Gd P w H h):Bp P w H h a u:=by
 rcases r with r|⟨o,r⟩
 ·exact x a u r
 ·obtain⟨_,q⟩:=x a _ r;exact q
def kG:Option HO->Prop
 |some (.lst _)|some (.dK _)|some (.dT _)|some (.set _ _)|some (.ins _ _ _)|some (.ext _)=>True
 |_=>False
section
variable {P:Program}{w:World}{H:Hp}{h h':Heap}{x e:Addr}{o':HO}
theorem Gd.write (ok:Gd P w H h)(mu:kG (H x))(he:e=x\/H e=some (.own x))(k:∀b u,b≠e->h.get? b=some u->h'.get? b=some u)(cF:∃u,h'.get? e=some u)
 (new:Bp P w (upd H x o') h' x o'):Gd P w (upd H x o') h':=λ b u q=>by
 have gq:∀c y,H c=some (.own y)->c≠x:=λ c y r z=>by subst z;rw[r] at mu;exact mu
 have lb:∀c xs,H c=some (.tup xs)->c≠x:=λ c xs r z=>by subst z;rw[r] at mu;exact mu
 by_cases hb:b=x
 ·subst hb;rw[AH] at q;cases q;exact new
 ·rw[Am hb] at q;by_cases di:b=e
  ·have q':H b=some (.own x):=by
    rcases he with z|z
    ·exact absurd (di.trans z) hb
    ·rw[di];exact z
   rw[q] at q';cases q';obtain⟨v,hv⟩:=cF;exact⟨v,by rw[di];exact hv⟩
  ·refine (ok b u q).Od (λ c v hc r=>k c v ?_ r) (λ c r=>by rw[Am (gq c b r)];exact r) λ c xs r=>by rw[Am (lb c xs r)];exact r
   rcases hc with rfl|hc
   ·exact di
   ·rintro rfl;rcases he with z|z
    ·exact gq c b hc z
    ·rw[hc] at z;cases z;exact hb rfl
end
structure Un (fs ex:List Addr)(H H':Hp)(h h':Heap):Prop where
 keep:∀b o,h.get? b=some o->H b=none->b∉fs->b∉ex->h'.get? b=some o
 slot:∀b o,h.get? b=some o->H b=none->b∈fs->b∉ex->∃sl,h'.get? b=some {o with slots:=sl}
 free:∀b o,h.get? b=some o->H b=none->b∉ex->H' b=none
 there:∀b o,h.get? b=some o->b∉ex->∃o',h'.get? b=some o'
 MK:∀b xs,H b=some (.tup xs)->H' b=some (.tup xs)
 Le:∀b o u,H b=some (.TR o u)->H' b=some (.TR o u)
 ML:∀b ps,H b=some (.ZV ps)->∃more,H' b=some (.ZV (ps++more))
section
variable {fs bP ex lc:List Addr}{H H1 H2:Hp}{h h1 h2 h':Heap}{a x e:Addr}{o:HO}
theorem Un.any (u:Un fs ex H H1 h h1){b:Addr}{ob:Obj}(q:h.get? b=some ob)(n:H b=none)(hx:b∉ex):∃sl,h1.get? b=some {ob with slots:=sl}:=by
 by_cases hb:b∈fs
 ·exact u.slot b ob q n hb hx
 ·exact⟨ob.slots,u.keep b ob q n hb hx⟩
theorem Un.kept (k:∀b u,h.get? b=some u->h'.get? b=some u):Un fs ex H H h h':=
 ⟨λ b ob q _ _ _=>k b ob q,λ b ob q _ _ _=>⟨ob.slots,k b ob q⟩,λ _ _ _ n _=>n,λ b ob q _=>⟨ob,k b ob q⟩,λ _ _ q=>q,λ _ _ _ q=>q,λ _ ps q=>⟨#[],by rw[q];simp⟩⟩
theorem Un.refl:Un fs ex H H h h:=Un.kept λ _ _ q=>q
theorem Un.laid (k:∀b u,h.get? b=some u->h'.get? b=some u)(hp:h.objs.size<=a)(hn:H a=none):Un fs ex H (upd H a o) h h' where
 keep:=λ b u q _ _ _=>k b u q
 slot:=λ b u q _ _ _=>⟨u.slots,k b u q⟩
 free:=λ b u q n _=>by rw[Am (zJ (zF (zt q) hp))];exact n
 there:=λ b u q _=>⟨u,k b u q⟩
 MK:=λ b xs q=>by rw[Am (Ay q hn)];exact q
 Le:=λ b u xs q=>by rw[Am (Ay q hn)];exact q
 ML:=λ b ps q=>⟨#[],by rw[Am (Ay q hn),q];simp⟩
theorem Un.write (mu:kG (H x))(he:e=x\/H e=some (.own x))(k:∀b u,b≠e->h.get? b=some u->h'.get? b=some u)(cF:∃u,h'.get? e=some u):Un fs ex H (upd H x o) h h':=by
 have hx:∀b,H b=none->b≠x:=λ b n z=>by subst z;rw[n] at mu;exact mu
 have hb:∀b,H b=none->b≠e:=λ b n z=>by
  subst z;rcases he with r|r
  ·exact hx b n r
  ·rw[n] at r;cases r
 have hm:∀b u,H b=some u->¬ kG (some u)->b≠x:=λ b u q nm z=>by subst z;rw[q] at mu;exact nm mu
 refine⟨λ b u q n _ _=>k b u (hb b n) q,λ b u q n _ _=>⟨u.slots,k b u (hb b n) q⟩,λ b u q n _=>by rw[Am (hx b n)];exact n,λ b u q _=>?_,
  λ b xs q=>by rw[Am (hm b _ q λ z=>z)];exact q,λ b u xs q=>by rw[Am (hm b _ q λ z=>z)];exact q,λ b ps q=>⟨#[],by rw[Am (hm b _ q λ z=>z),q];simp⟩⟩
 by_cases di:b=e
 ·subst di;exact cF
 ·exact⟨u,k b u di q⟩
end
noncomputable def Cf (h:Heap)(H:Hp):List Addr:=(zL h.objs.size).filter λ a=>(H a).isSome
noncomputable def Oe (h:Heap)(H:Hp):Heap:=PySem.W.hideAll h (Cf h H)
theorem TU (h:Heap)(H:Hp):(Oe h H).objs.size=h.objs.size:=PySem.W.hideAll_size _ _
theorem Vy {h:Heap}{H:Hp}{b:Addr}{o:Obj}(e:h.get? b=some o)(n:H b=none):(Oe h H).get? b=some o:=
 yB _ e λ hm=>by
  have q:(H b).isSome=true:=(yf.mp hm).2;rw[n] at q;simp at q
theorem Y6 {h:Heap}{H:Hp}{b:Addr}{o:Obj}(e:(Oe h H).get? b=some o):h.get? b=some o/\H b=none:=by
 have e':h.get? b=some o:=PySem.W.of_hideAll (Cf h H) e;refine⟨e',?_⟩;cases q:H b with
 |none=>rfl
 |some x =>
  have hm:b∈Cf h H:=yf.mpr ⟨yM.mpr (zt e'),by simp[q]⟩;have z:(Oe h H).get? b=none:=PySem.W.hideAll_none (Cf h H) hm;rw[z] at e;cases e
noncomputable def Y7 (g h:Heap)(L:Addr):List (Addr×Obj):=(zL h.objs.size).filterMap λ a=>if a=L\/(g.get? a).isSome=true then none else (h.get? a).map λ o=>(a,o)
noncomputable def rest (g h:Heap)(L d:Addr):List (Addr×Obj):=(Y7 g h L).filter λ p=>decide (p.1≠d)
structure Mod (K:za)(mg:Str->Option Value)(base:Heap):Prop where
 jR:K.In base
 glob:base.Ns mainGlobals mg
 blt:∃mb,base.Ns builtinsNs mb/\∀x:Str,x ≠ "__name__" -> mb x=bootBuiltins x
 nolimit:base.NoLimit
structure Cx where
 prog:Program
 w:World
 K:za
 mg:Str->Option Value
 base:Heap
 A:Around
 N:List Str
 s₀:Shared
 H₀:Hp
 env:Env
 outer:List Env
 stack:List Env
 ex:List Addr
 fn:Str->Bool
 calm:Bool
 pn:List (Addr×Obj)
 xe:Value->Shared->Prop
noncomputable def Kl (l:List Env):List Addr:=l.filterMap (·.frame)
noncomputable abbrev Cx.fs (X:Cx):List Addr:=Kl X.outer
def oA (sc:Scope)(x:Str):Prop:=sc.names.lookup x=some .local\/sc.names.lookup x=some .cell\/sc.names.lookup x=some .free
def Loc (sc:Scope)(x:Str):Prop:=sc.names.lookup x=some .local\/sc.names.lookup x=some .cell
def Look (env:Env)(h:Heap)(m:Str->Option Value)(x:Str)(u:Value):Prop:=
 (env.kindOf x=some .local/\m x=some u)\/((env.kindOf x=some .cell\/env.kindOf x=some .free)/\∃c,env.cells.lookup x=some c/\h.IsCell c (some u))
structure Cx.Ok (X:Cx):Prop where
 mod:Mod X.K X.mg X.base
 kind:X.env.scope.kind=.function
 glob:X.env.globals=mainGlobals
 blt:X.env.builtins=builtinsNs
 above:X.s₀.heap.objs.size<=X.env.locals
 inj:∀x y c,X.env.cells.lookup x=some c->X.env.cells.lookup y=some c->x=y
 has:∀x,(X.env.kindOf x=some .cell\/X.env.kindOf x=some .free)->∃c,X.env.cells.lookup x=some c
 kH:∀x c,X.fn x=true->X.env.cells.lookup x=some c->X.s₀.heap.objs.size<=c
 hd:X.calm=true->X.A.handled=none
 frames:X.A.frames=some X.stack
 ZW:X.stack=X.outer\/(X.stack=X.env::X.outer/\X.env.frame=some X.env.locals)
 nJ:∀b∈X.ex,b≠X.env.locals/\∀x c,X.env.cells.lookup x=some c->c≠b
 bs:∀b o,X.base.get? b=some o->X.s₀.heap.get? b=some o/\X.H₀ b=none
 Y8:X.base.objs.size<=X.s₀.heap.objs.size
 Vz:∀b o,X.base.get? b=some o->b∉X.ex
 VA:∀b∈X.ex,b∉X.fs
 IQ:X.s₀.heap.FunFrames X.base X.outer
 dX:∀b∈X.fs,X.H₀ b=none
structure Inv (X:Cx)(pins:List (Addr×Obj))(σ:List (Option V))(H:Hp)(s:Shared):Prop where
 ok:X.Ok
 os:s.os=X.s₀.os
 bare:AllBare s.gens
 base:Un X.fs X.ex X.H₀ H X.s₀.heap s.heap
 loc:∃m,s.heap.Ns X.env.locals m/\∀(i:Nat) (x:Str) (v:V),X.N[i]?=some x->σ[i]?=some (some v)->oA X.env.scope x->∃u,RelV v u/\Look X.env s.heap m x u
 cell:∀x c,X.env.cells.lookup x=some c->∃v,s.heap.IsCell c v
 free:H X.env.locals=none
 Gp:∀x c,X.env.cells.lookup x=some c->H c=none
 pin:∀p∈X.pn++pins,s.heap.get? p.1=some p.2/\H p.1=none/\p.1≠X.env.locals/\p.1∉X.fs/\∀v,p.2.data≠.cell v
 Av:Gd X.prog X.w H s.heap
 len:σ.length=X.N.length
section
variable {X:Cx}{pins:List (Addr×Obj)}{σ:List (Option V)}{H H':Hp}{s:Shared}{h':Heap}
theorem Cx.Ok.oB (ok:X.Ok){b:Addr}{o:Obj}(e:X.base.get? b=some o):b∉X.fs:=λ hb=>by
 have:=(ok.IQ.mem hb).1;rw[e] at this;cases this
theorem Inv.bs (I:Inv X pins σ H s):∀b o,X.base.get? b=some o->s.heap.get? b=some o/\H b=none:=λ b o e =>
 ⟨I.base.keep b o (I.ok.bs b o e).1 (I.ok.bs b o e).2 (I.ok.oB e) (I.ok.Vz b o e),I.base.free b o (I.ok.bs b o e).1 (I.ok.bs b o e).2 (I.ok.Vz b o e)⟩
theorem Inv.bk (I:Inv X pins σ H s):∀b o,X.base.get? b=some o->s.heap.get? b=some o:=λ b o e=>(I.bs b o e).1
theorem Inv.mod (I:Inv X pins σ H s):Mod X.K X.mg X.base:=I.ok.mod
theorem Inv.MH (I:Inv X pins σ H s):X.K.In s.heap:=I.ok.mod.jR.keeps I.bk
theorem Inv.fr (I:Inv X pins σ H s):∃m,Fr X.base X.env.locals s.heap m:=
 let ⟨m,hn,_⟩:=I.loc
 ⟨m,hn,I.bk,yn I.ok.Y8 I.ok.above⟩
theorem Inv.lt (I:Inv X pins σ H s):X.env.locals<s.heap.objs.size:=let ⟨_,hn,_⟩:=I.loc;hn.lt
theorem Inv.sz (I:Inv X pins σ H s):X.s₀.heap.objs.size<=s.heap.objs.size:=yn I.ok.above (yi I.lt)
theorem Inv.oC (I:Inv X pins σ H s){a:Addr}(h:s.heap.objs.size<=a):a∉X.fs:=λ hb=>by
 obtain⟨_,o,ho,_⟩:=I.ok.IQ.mem hb;exact absurd (zF (zt ho) (yn I.sz h)) (Nat.lt_irrefl _)
theorem Inv.dY (I:Inv X pins σ H s):∀x c,X.env.cells.lookup x=some c->c≠X.env.locals:=λ x c e z=>by
 obtain⟨v,o,ho,hd⟩:=I.cell x c e;obtain⟨m,⟨o',es,ep,be,cz,_⟩,_⟩:=I.loc;rw[z,be] at ho;cases ho;rw[cz] at hd;cases hd
theorem Inv.IQ (I:Inv X pins σ H s):s.heap.FunFrames X.base X.outer:=by
 have all:∀(l:List Env),(∀b∈Kl l,b∈X.fs)->X.s₀.heap.FunFrames X.base l->s.heap.FunFrames X.base l:=by
  intro l;induction l with
  |nil=>intro _ _;trivial
  |cons env r ih =>
   intro hs hl;obtain⟨hk,⟨L,o,hf,hn,ho,hd⟩,hr⟩:=hl;have hL:L∈X.fs:=hs L (by unfold Kl;rw[List.filterMap_cons,hf];exact zd);obtain⟨sl,e⟩:=I.base.slot L o ho (I.ok.dX L hL) hL λ z=>I.ok.VA L z hL;exact⟨hk,⟨L,_,hf,hn,e,hd⟩,ih (λ b hb=>hs b (by unfold Kl;rw[List.filterMap_cons,hf];exact ze _ hb)) hr⟩
 exact all X.outer (λ _ hb=>hb) I.ok.IQ
theorem Inv.stack (I:Inv X pins σ H s):s.heap.FunFrames X.base X.stack:=by
 rcases I.ok.ZW with e|⟨e,hf⟩
 ·rw[e];exact I.IQ
 ·rw[e];obtain⟨m,hn,_⟩:=I.loc;refine .cons (by rw[I.ok.kind];decide) hf hn ?_ I.IQ;exact Heap.get?_none_of_le (yn I.ok.Y8 I.ok.above)
theorem Inv.Rc (I:Inv X pins σ H s):∀b∈Kl X.stack,b∈X.env.locals::X.fs:=λ b hb=>by
 rcases I.ok.ZW with e|⟨e,hf⟩
 ·rw[e] at hb;exact ze _ hb
 ·rw[e] at hb;unfold Kl at hb;rw[List.filterMap_cons,hf] at hb;exact hb
theorem Inv.Of (I:Inv X pins σ H s):∀b∈Kl X.stack,H b=none:=λ b hb=>by
 rcases zl.mp (I.Rc b hb) with e|hb
 ·rw[e];exact I.free
 ·obtain⟨_,o,ho,_⟩:=I.ok.IQ.mem hb;exact I.base.free b o ho (I.ok.dX b hb) λ z=>I.ok.VA b z hb
theorem Inv.step {g':Array GenState}{t':Nat}{d':Drawn}{ch:List Addr}(I:Inv X pins σ H s)
 (bK:∀b∈ch,(b∈X.ex\/X.s₀.heap.objs.size<=b)/\b≠X.env.locals/\(∀x c,X.env.cells.lookup x=some c->c≠b)/\∀p∈X.pn++pins,p.1≠b)
 (keep:∀b o,b≠X.env.locals->b∉X.fs->b∉ch->s.heap.get? b=some o->H b=none->h'.get? b=some o)
 (slot:∀b o,b≠X.env.locals->b∈X.fs->b∉ch->s.heap.get? b=some o->H b=none->∃sl,h'.get? b=some {o with slots:=sl}) (free:∀b o,b∉ch->s.heap.get? b=some o->H b=none->H' b=none)
 (there:∀b o,b∉ch->s.heap.get? b=some o->∃o',h'.get? b=some o')
 (MK:∀b xs,H b=some (.tup xs)->H' b=some (.tup xs)) (Le:∀b o u,H b=some (.TR o u)->H' b=some (.TR o u)) (ML:∀b ps,H b=some (.ZV ps)->∃more,H' b=some (.ZV (ps++more)))
 (ns:∀m,s.heap.Ns X.env.locals m->h'.Ns X.env.locals m) (Av:Gd X.prog X.w H' h') (hg:AllBare g'):
 Inv X pins σ H' {s with heap:=h',gens:=g',drawn:=d',toks:=t' }:=by
 have re:∀b o,X.s₀.heap.get? b=some o->b≠X.env.locals:=λ b o e=>zJ (zF (zt e) I.ok.above);have gc:∀b o,X.s₀.heap.get? b=some o->b∉X.ex->b∉ch:=λ b o e hx hb=>by
  rcases (bK b hb).1 with z|z
  ·exact hx z
  ·exact absurd (zF (zt e) z) (Nat.lt_irrefl _)
 have cellK:∀x c,X.env.cells.lookup x=some c->∀v,s.heap.IsCell c v->h'.IsCell c v:=λ x c e v ⟨o,ho,hd⟩=>by
  have gu:c∉ch:=λ z=>(bK c z).2.2.1 x c e rfl;by_cases hc:c∈X.fs
  ·obtain⟨sl,q⟩:=slot c o (I.dY x c e) hc gu ho (I.Gp x c e);exact⟨_,q,hd⟩
  ·exact⟨o,keep c o (I.dY x c e) hc gu ho (I.Gp x c e),hd⟩
 refine⟨I.ok,I.os,hg,⟨λ b o e n hb hx=>?_,λ b o e n hb hx=>?_,λ b o e n hx=>?_,λ b o e hx=>?_,λ b xs e=>MK b xs (I.base.MK b xs e),λ b o xs e=>Le b o xs (I.base.Le b o xs e),λ b ps e=>?_⟩,?_,λ x c e=>?_,?_,λ x c e=>?_,λ p hp=>?_,Av,I.len⟩
 ·exact keep b o (re b o e) hb (gc b o e hx) (I.base.keep b o e n hb hx) (I.base.free b o e n hx)
 ·obtain⟨sl,e1⟩:=I.base.slot b o e n hb hx;obtain⟨jr,e2⟩:=slot b _ (re b o e) hb (gc b o e hx) e1 (I.base.free b o e n hx);exact⟨jr,e2⟩
 ·obtain⟨o',e1⟩:=I.base.there b o e hx;exact free b o' (gc b o e hx) e1 (I.base.free b o e n hx)
 ·obtain⟨o',e1⟩:=I.base.there b o e hx;exact there b o' (gc b o e hx) e1
 ·obtain⟨m1,e1⟩:=I.base.ML b ps e;obtain⟨m2,e2⟩:=ML b _ e1;exact⟨m1++m2,by rw[e2,Array.append_assoc]⟩
 ·obtain⟨m,hn,hl⟩:=I.loc;refine⟨m,ns m hn,λ i x v e1 e2 e3=>?_⟩;obtain⟨u,r,l⟩:=hl i x v e1 e2 e3;refine⟨u,r,?_⟩;rcases l with l|⟨k,c,e,z⟩
  ·exact .inl l
  ·exact .inr ⟨k,c,e,cellK x c e _ z⟩
 ·obtain⟨v,z⟩:=I.cell x c e;exact⟨v,cellK x c e v z⟩
 ·obtain⟨m,⟨o,_,_,ho,_⟩,_⟩:=I.loc;exact free _ o (λ z=>(bK _ z).2.1 rfl) ho I.free
 ·obtain⟨v,o,ho,hd⟩:=I.cell x c e;exact free c o (λ z=>(bK c z).2.2.1 x c e rfl) ho (I.Gp x c e)
 ·obtain⟨e,n,ne,nf,d⟩:=I.pin p hp;have gu:p.1∉ch:=λ z=>(bK p.1 z).2.2.2 p hp rfl;exact⟨keep p.1 p.2 ne nf gu e n,free p.1 p.2 gu e n,ne,nf,d⟩
theorem Inv.un {t':Nat}(I:Inv X pins σ H s)(u:Un X.fs [] H H' s.heap h')(Av:Gd X.prog X.w H' h'):Inv X pins σ H' {s with heap:=h',toks:=t' }:=by
 obtain⟨m,⟨o,es,ep,ho,r⟩,_⟩:=id I.loc;obtain⟨sl,hL⟩:=u.any ho I.free (by simp);exact I.step (g':=s.gens) (d':=s.drawn) (ch:=[]) (λ _ z=>nomatch z) (λ b o _ hb _ e n=>u.keep b o e n hb (by simp)) (λ b o _ hb _ e n=>u.slot b o e n hb (by simp)) (λ b o _ e n=>u.free b o e n (by simp)) (λ b o _ e=>u.there b o e (by simp)) u.MK u.Le u.ML (λ m' hm=>by
  obtain⟨o',ld,lf,be,r'⟩:=hm;rw[ho] at be;cases be;exact⟨_,ld,lf,hL,r'⟩) Av I.bare
theorem Inv.call {g':Array GenState}{t':Nat}{d':Drawn}{ch:List Addr}(I:Inv X pins σ H s)(u:Un (Kl X.stack) ch H H' s.heap h')(Av:Gd X.prog X.w H' h')(hg:AllBare g')
 (bK:∀b∈ch,(b∈X.ex\/X.s₀.heap.objs.size<=b)/\b≠X.env.locals/\(∀x c,X.env.cells.lookup x=some c->c≠b)/\∀p∈X.pn++pins,p.1≠b):
 Inv X pins σ H' {s with heap:=h',gens:=g',drawn:=d',toks:=t' }:=by
 obtain⟨m,⟨o,es,ep,ho,r⟩,_⟩:=id I.loc;obtain⟨sl,hL⟩:=u.any ho I.free λ z=>(bK _ z).2.1 rfl;exact I.step (ch:=ch) bK (λ b o hL hb hc e n=>u.keep b o e n (λ z=>(zl.mp (I.Rc b z)).elim hL hb) hc) (λ b o _ _ hc e n=>u.any e n hc) (λ b o hc e n=>u.free b o e n hc) (λ b o hc e=>u.there b o e hc) u.MK u.Le u.ML (λ m' hm=>by
  obtain⟨o',ld,lf,be,r'⟩:=hm;rw[ho] at be;cases be;exact⟨_,ld,lf,hL,r'⟩) Av hg
theorem Inv.turned {t':Nat}{it:Addr}(I:Inv X pins σ H s)(k:∀b o,b≠it->s.heap.get? b=some o->h'.get? b=some o)(hn:H it=none)(hL:it≠X.env.locals)
 (h1:it∈X.ex\/X.s₀.heap.objs.size<=it) (h2:∀x c,X.env.cells.lookup x=some c->c≠it) (h3:∀p∈X.pn++pins,p.1≠it):Inv X pins σ H {s with heap:=h',toks:=t' }:=by
 have rf:∀b u,H b=some u->b≠it:=λ b u e z=>by rw[z,hn] at e;cases e
 refine I.step (g':=s.gens) (d':=s.drawn) (ch:=[it]) (λ b hb=>?_) (λ b o _ _ hc e _=>k b o (λ z=>hc (by simp[z])) e) (λ b o _ _ hc e _=>⟨o.slots,k b o (λ z=>hc (by simp[z])) e⟩) (λ _ _ _ _ n=>n)
  (λ b o hc e=>⟨o,k b o (λ z=>hc (by simp[z])) e⟩) (λ _ _ e=>e) (λ _ _ _ e=>e) (λ b ps e=>⟨#[],by rw[e];simp⟩) (λ m hm=>?_) (λ b u e=>?_) I.bare
 ·have e:b=it:=by simpa using hb
  subst e;exact⟨h1,hL,h2,h3⟩
 ·obtain⟨o,es,ep,ho,r⟩:=hm;exact⟨o,es,ep,k _ o (yh hL) ho,r⟩
 ·refine (I.Av b u e).Od (λ c v hc q=>k c v ?_ q) (λ _ q=>q) λ _ _ q=>q;rcases hc with z|z
  ·rw[z];exact rf b u e
  ·exact rf c _ z
theorem Inv.tok (I:Inv X pins σ H s)(t:Nat):Inv X pins σ H {s with toks:=t}:=I.un (h':=s.heap) (t':=t) Un.refl I.Av
theorem Inv.kept {t':Nat}(I:Inv X pins σ H s)(k:∀b u,s.heap.get? b=some u->h'.get? b=some u):Inv X pins σ H {s with heap:=h',toks:=t' }:=I.un (Un.kept k) (I.Av.kept k)
theorem Inv.laid {a:Addr}{o:HO}{t':Nat}(I:Inv X pins σ H s)(k:∀b u,s.heap.get? b=some u->h'.get? b=some u)(hp:s.heap.objs.size<=a)(new:Bp X.prog X.w (upd H a o) h' a o):
 Inv X pins σ (upd H a o) {s with heap:=h',toks:=t' }:=I.un (Un.laid k hp (I.Av.fresh hp)) (I.Av.laid k hp new)
theorem Inv.write {x e:Addr}{o:HO}{t':Nat}(I:Inv X pins σ H s)(mu:kG (H x))(he:e=x\/H e=some (.own x))(k:∀b u,b≠e->s.heap.get? b=some u->h'.get? b=some u)(cF:∃u,h'.get? e=some u)
 (new:Bp X.prog X.w (upd H x o) h' x o):Inv X pins σ (upd H x o) {s with heap:=h',toks:=t' }:=I.un (Un.write mu he k cF) (I.Av.write mu he k cF new)
theorem Inv.weak {σ':List (Option V)}(I:Inv X pins σ H s)(hl:σ'.length=σ.length)(w:∀(i:Nat) v,σ'[i]?=some (some v)->σ[i]?=some (some v)):Inv X pins σ' H s:=
 ⟨I.ok,I.os,I.bare,I.base,let ⟨m,hn,bD⟩:=I.loc;⟨m,hn,λ i x v e1 e2 e3=>bD i x v e1 (w i v e2) e3⟩,I.cell,I.free,I.Gp,I.pin,I.Av,hl.trans I.len⟩
theorem Inv.IR {cG:List (Addr×Obj)}(I:Inv X pins σ H s)(h:∀p∈cG,s.heap.get? p.1=some p.2/\H p.1=none/\p.1≠X.env.locals/\p.1∉X.fs/\∀v,p.2.data≠.cell v):Inv X cG σ H s:=
 ⟨I.ok,I.os,I.bare,I.base,I.loc,I.cell,I.free,I.Gp,λ p hp=>(zK.mp hp).elim (λ z=>I.pin p (zO _ z)) (h p),I.Av,I.len⟩
theorem Po {N:List Str}(hN:N.Nodup){i j:Nat}{x:Str}(a:N[i]?=some x)(b:N[j]?=some x):i=j:=by
 obtain⟨h1,e1⟩:=zy.mp a;obtain⟨h2,e2⟩:=zy.mp b;exact (List.getElem_inj hN).mp (e1.trans e2.symm)
theorem Nb {M:Model}{A:Around}{E:Value->Shared->Prop}{i:Nat}{x:Str}{v:V}{u:Value}{Q:Unit->Shared->Prop}(I:Inv X pins σ H s)(hN:X.N.Nodup)(hi:X.N[i]?=some x)(hx:Loc X.env.scope x)(r:RelV v u)
 (h:∀s',Inv X pins (σ.set i (some v)) H s'->(∃a,yW a s.heap s'.heap/\(a=X.env.locals\/X.env.cells.lookup x=some a))->Q () s') (hf:X.fn x=true\/X.env.scope.names.lookup x=some .local:=by first|exact .inl rfl|exact .inr rfl|assumption):wpAny M A (storeName X.env x u) Q E s:=by
 obtain⟨m,hn,hl⟩:=id I.loc;have lg:(X.env.scope.kind==.class||(X.env.scope.kind==.module&&X.env.locals != X.env.globals))=false:=by rw[I.ok.kind];rfl
 have hiσ:i<σ.length:=by rw[I.len];exact (zy.mp hi).1
 have dY:=I.dY;have tracked:∀ {a:Addr} {h':Heap},(∃o,s.heap.get? a=some o/\H a=none)->yW a s.heap h'->Gd X.prog X.w H h':=fun {a h'} ha hs b ob e=>by
  obtain⟨_,_,cH⟩:=ha;refine (I.Av b ob e).Od (λ c w' hc q=>(hs.2 c ?_).trans q) (λ _ q=>q) λ _ _ q=>q;rintro rfl;rcases hc with rfl|hc
  ·rw[cH] at e;cases e
  ·rw[cH] at hc;cases hc
 rcases hx with hk|hk
 ·refine wpAny_storeName_local hk hn (λ h' cp hs=>?_) lg;obtain⟨oL,_,_,dk,_⟩:=id hn;refine h _ ⟨I.ok,I.os,I.bare,⟨λ b o e n hb hx=>?_,λ b o e n hb hx=>?_,I.base.free,λ b o e hx=>?_,I.base.MK,I.base.Le,I.base.ML⟩,⟨_,cp,λ j y v' e1 e2 e3=>?_⟩,λ y c e=>?_,I.free,I.Gp,λ p hp=>?_,tracked ⟨oL,dk,I.free⟩ hs,by simpa using I.len⟩ ⟨_,hs,.inl rfl⟩
  ·exact (hs.2 b (zJ (zF (zt e) I.ok.above))).trans (I.base.keep b o e n hb hx)
  ·obtain⟨sl,e1⟩:=I.base.slot b o e n hb hx;exact⟨sl,(hs.2 b (zJ (zF (zt e) I.ok.above))).trans e1⟩
  ·obtain⟨o',e1⟩:=I.base.there b o e hx;exact⟨o',(hs.2 b (zJ (zF (zt e) I.ok.above))).trans e1⟩
  ·by_cases hj:j=i
   ·subst hj;rw[hi] at e1;cases e1;rw[zV hiσ] at e2;cases e2;exact⟨u,r,.inl ⟨hk,by simp⟩⟩
   ·rw[yo (yh hj)] at e2;obtain⟨u',r',q⟩:=hl j y v' e1 e2 e3;refine⟨u',r',?_⟩;rcases q with ⟨k,e⟩|⟨k,c,e,z⟩
    ·refine .inl ⟨k,?_⟩;have:y≠x:=λ e=>hj (Po hN e1 (e▸hi));simp[this,e]
    ·exact .inr ⟨k,c,e,z.sameBut hs (dY y c e)⟩
  ·obtain⟨w',z⟩:=I.cell y c e;exact⟨w',z.sameBut hs (dY y c e)⟩
  ·obtain⟨e,n,ne,nf,d⟩:=I.pin p hp;exact⟨(hs.2 p.1 ne).trans e,n,ne,nf,d⟩
 ·have lh:X.fn x=true:=by
   rcases hf with z|z
   ·exact z
   ·rw[z] at hk;cases hk
  obtain⟨c,hc⟩:=I.ok.has x (.inl hk);obtain⟨w',z⟩:=I.cell x c hc;refine wpAny_storeName_cell I.ok.kind hk hc z (λ h' ge hs=>?_);obtain⟨oc,rh,li⟩:=id z;refine h {s with heap:=h' } ⟨I.ok,I.os,I.bare,⟨λ b o e n hb hx=>?_,λ b o e n hb hx=>?_,I.base.free,λ b o e hx=>?_,I.base.MK,I.base.Le,I.base.ML⟩,⟨m,hn.sameBut hs (yh (dY x c hc)),λ j y v' e1 e2 e3=>?_⟩,λ y c' e=>?_,I.free,I.Gp,λ p hp=>?_,tracked ⟨oc,rh,I.Gp x c hc⟩ hs,by simpa using I.len⟩ ⟨c,hs,.inr hc⟩
  ·exact (hs.2 b (zJ (zF (zt e) (I.ok.kH x c lh hc)))).trans (I.base.keep b o e n hb hx)
  ·obtain⟨sl,e1⟩:=I.base.slot b o e n hb hx;exact⟨sl,(hs.2 b (zJ (zF (zt e) (I.ok.kH x c lh hc)))).trans e1⟩
  ·obtain⟨o',e1⟩:=I.base.there b o e hx;exact⟨o',(hs.2 b (zJ (zF (zt e) (I.ok.kH x c lh hc)))).trans e1⟩
  ·by_cases hj:j=i
   ·subst hj;rw[hi] at e1;cases e1;rw[zV hiσ] at e2;cases e2;exact⟨u,r,.inr ⟨.inl hk,c,hc,ge⟩⟩
   ·rw[yo (yh hj)] at e2;obtain⟨u',r',q⟩:=hl j y v' e1 e2 e3;refine⟨u',r',?_⟩;rcases q with q|⟨k,c',e,z'⟩
    ·exact .inl q
    ·refine .inr ⟨k,c',e,z'.sameBut hs ?_⟩;rintro rfl;exact hj (Po hN e1 (I.ok.inj _ _ _ e hc▸hi))
  ·by_cases js:c'=c
   ·subst js;exact⟨_,ge⟩
   ·obtain⟨w2,z2⟩:=I.cell y c' e;exact⟨w2,z2.sameBut hs js⟩
  ·obtain⟨e,n,ne,nf,d⟩:=I.pin p hp;refine⟨(hs.2 p.1 ?_).trans e,n,ne,nf,d⟩;intro q;rw[q,rh] at e;have q':oc=p.2:=zH e;exact d w' (by rw[<-q'];exact li)
theorem Pp {M:Model}{A:Around}{E:Value->Shared->Prop}{i:Nat}{x:Str}{v:V}{u:Value}{Q:Unit->Shared->Prop}(I:Inv X pins σ H s)(hN:X.N.Nodup)(hi:X.N[i]?=some x)(hx:Loc X.env.scope x)(r:RelV v u)
 (h:∀s',Inv X pins (σ.set i (some v)) H s'->Q () s') (hf:X.fn x=true\/X.env.scope.names.lookup x=some .local:=by first|exact .inl rfl|exact .inr rfl|assumption):wpAny M A (storeName X.env x u) Q E s:=
 Nb I hN hi hx r (λ s' I' _=>h s' I') hf
theorem Inv.ZX {s':Shared}{ch:List Addr}(I:Inv X pins σ H s)(ho:s'.os=s.os)(u:Un (Kl X.stack) ch H H' s.heap s'.heap)(Av:Gd X.prog X.w H' s'.heap)(hg:AllBare s'.gens)
 (bK:∀b∈ch,(b∈X.ex\/X.s₀.heap.objs.size<=b)/\b≠X.env.locals/\(∀x c,X.env.cells.lookup x=some c->c≠b)/\∀p∈X.pn++pins,p.1≠b):Inv X pins σ H' s':=by
 obtain⟨h',g',d',t',o'⟩:=s';have e:o'=s.os:=ho;subst e;exact I.call (g':=g') (t':=t') (d':=d') u Av hg bK
end
noncomputable abbrev XK:=Value->Option Addr->Hp->Prop
noncomputable abbrev St:=List (Option V)
noncomputable abbrev VK:=V->Hp->Prop
noncomputable abbrev TE:=St->Hp->VK->Prop
noncomputable abbrev TT:=St->Hp->(Bool->Hp->Prop)->Prop
noncomputable abbrev TA:=St->Hp->(List V->Hp->Prop)->Prop
structure Ends where
 nx:St->Hp->Prop
 rt:VK
 bk:St->Hp->Prop:=λ _ _=>False
 ct:St->Hp->Prop:=λ _ _=>False
noncomputable abbrev TS:=Ends->St->Hp->Prop
def EP (X:Cx)(pins:List (Addr×Obj))(σ:St)(Q:VK)(u:Value)(s':Shared):Prop:=∃v H',Inv X pins σ H' s'/\RelV v u/\Q v H'
def TP (X:Cx)(pins:List (Addr×Obj))(σ:St)(Q:Bool->Hp->Prop)(b:Bool)(s':Shared):Prop:=∃H',Inv X pins σ H' s'/\Q b H'
def AP (X:Cx)(pins:List (Addr×Obj))(σ:St)(Q:List V->Hp->Prop)(us:List Value)(s':Shared):Prop:=∃vs H',Inv X pins σ H' s'/\Vals vs us/\Q vs H'
def SP (X:Cx)(pins:List (Addr×Obj))(D:Ends)(f:Flow)(s':Shared):Prop:=
 match f with
 | .next=>∃σ' H',Inv X pins σ' H' s'/\D.nx σ' H'
 | .brk=>∃σ' H',Inv X pins σ' H' s'/\D.bk σ' H'
 | .cont=>∃σ' H',Inv X pins σ' H' s'/\D.ct σ' H'
 | .ret u=>∃v σ' H',Inv X pins σ' H' s'/\RelV v u/\D.rt v H'
def PE (X:Cx)(e:Expr)(t:TE):Prop:=
 ∀(pins:List (Addr×Obj)) (s:Shared) (σ:St) (H:Hp) (Q:VK),Inv X pins σ H s->t σ H Q->wpAny (model X.prog X.w) X.A (eval e X.env) (EP X pins σ Q) X.xe s
def PT (X:Cx)(e:Expr)(t:TT):Prop:=
 ∀(pins:List (Addr×Obj)) (s:Shared) (σ:St) (H:Hp) (Q:Bool->Hp->Prop),Inv X pins σ H s->t σ H Q->wpAny (model X.prog X.w) X.A (isTrue e X.env (eval e X.env)) (TP X pins σ Q) X.xe s
def PW (X:Cx)(e:Expr)(t:TT):Prop:=
 ∀(whole:Sem Value) (pins:List (Addr×Obj)) (s:Shared) (σ:St) (H:Hp) (Q:Bool->Hp->Prop),Inv X pins σ H s->t σ H Q->wpAny (model X.prog X.w) X.A (isTrue e X.env whole) (TP X pins σ Q) X.xe s
theorem PW.pt {X:Cx}{e:Expr}{t:TT}(h:PW X e t):PT X e t:=h _
def PA (X:Cx)(es:List Expr)(t:TA):Prop:=
 ∀(pos:Pos) (pins:List (Addr×Obj)) (s:Shared) (σ:St) (H:Hp) (Q:List V->Hp->Prop),Inv X pins σ H s->t σ H Q->wpAny (model X.prog X.w) X.A (spliced (backTo pos (starEach es X.env))) (AP X pins σ Q) X.xe s
def PS (X:Cx)(st:Stmt)(t:TS):Prop:=
 ∀(pins:List (Addr×Obj)) (s:Shared) (σ:St) (H:Hp) (D:Ends),Inv X pins σ H s->t D σ H->wpAny (model X.prog X.w) X.A (exec st X.env) (SP X pins D) X.xe s
def Sr (X:Cx)(st:List Stmt)(t:TS):Prop:=
 ∀(pins:List (Addr×Obj)) (s:Shared) (σ:St) (H:Hp) (D:Ends),Inv X pins σ H s->t D σ H->wpAny (model X.prog X.w) X.A (execs st X.env) (SP X pins D) X.xe s
theorem Bc {α:Type}{t:Sem α}{Q Q':α->Shared->Prop}{M:Model}{A:Around}{E:Value->Shared->Prop}{s:Shared}(h:wpAny M A t Q E s)(hQ:∀a s,Q a s->Q' a s):wpAny M A t Q' E s:=wpAny_mono h hQ λ _ _ x=>x
section
variable {X:Cx}
theorem bin {a b:Expr}{ta tb:TE}(ha:PE X a ta)(hb:PE X b tb){pins:List (Addr×Obj)}{s:Shared}{σ:St}{H:Hp}{R:V->V->Hp->Prop}(I:Inv X pins σ H s)(h:ta σ H λ x H1=>tb σ H1 λ y H2=>R x y H2)
 {α:Type} {Q:α->Shared->Prop} {f:Value->Value->Sem α}
 (hf:∀v u s2 x y H2,Inv X pins σ H2 s2->RelV x v->RelV y u->R x y H2->wpAny (model X.prog X.w) X.A (f v u) Q X.xe s2):
 wpAny (model X.prog X.w) X.A (eval a X.env) (λ v s₁=>wpAny (model X.prog X.w) X.A (eval b X.env) (λ u s₂=>wpAny (model X.prog X.w) X.A (f v u) Q X.xe s₂) X.xe s₁) X.xe s:=by
 refine Bc (ha pins s σ H _ I h) λ v s1 ⟨x,H1,I1,r1,q1⟩=>?_;refine Bc (hb pins s1 σ H1 _ I1 q1) λ u s2 ⟨y,H2,I2,r2,q2⟩=>?_;exact hf v u s2 x y H2 I2 r1 r2 q2
noncomputable def Pq (i:Nat):TE:=λ σ H Q=>∃v,σ[i]?=some (some v)/\Q v H
noncomputable def tC (v:V):TE:=λ _ H Q=>Q v H
theorem dZ {i:Nat}{x:Str}{pos:Pos}(hN:X.N[i]?=some x)(hv:oA X.env.scope x)(hd:(x==("__debug__" : Str))=false:=by decide)(bd:(x==("__classdict__" : Str))=false:=by decide):PE X (.Name x pos) (Pq i):=by
 intro pins s σ H Q I h;obtain⟨v,e,h⟩:=h;obtain⟨m,hn,hl⟩:=I.loc;obtain⟨u,r,l⟩:=hl i x v hN e hv;have fin:EP X pins σ Q u s:=⟨v,H,I,r,h⟩;rcases l with ⟨hk,hm⟩|⟨hk,c,hc,b9⟩
 ·exact wpAny_Name (wpAny_loadName_local I.ok.kind hk hn hm fin) hd
 ·rcases hk with hk|hk
  ·exact wpAny_Name (wpAny_loadName_cell I.ok.kind hk hc b9 fin) hd
  ·exact wpAny_Name (wpAny_loadName_free I.ok.kind hk hc b9 fin bd) hd
theorem eA {i j pos}:PE X (.Constant (.int i) j pos) (tC (.int i)):=λ _ _ _ H _ I h=>wpAny_Constant_int ⟨.int i,H,I.tok _,⟨_,rfl⟩,h⟩
theorem kI {b j pos}:PE X (.Constant (.bool b) j pos) (tC (.bl b)):=λ _ _ _ H _ I h=>Constant_bool ⟨.bl b,H,I,rfl,h⟩
theorem eB {j pos}:PE X (.Constant .none j pos) (tC .Az):=λ _ _ _ H _ I h=>Constant_none ⟨.Az,H,I,rfl,h⟩
theorem eC {x j pos}:PE X (.Constant (.str x) j pos) (tC (.str x)):=λ _ _ _ H _ I h=>Calls.Constant_str ⟨.str x,H,I.tok _,⟨_,rfl⟩,h⟩
def Gl (X:Cx)(x:Str):Prop:=X.env.kindOf x=some .globalImplicit
theorem Og {E:Value->Shared->Prop}{pins:List (Addr×Obj)}{s:Shared}{σ:St}{H:Hp}{x:Str}{u:Value}{pos:Pos}{Q:Value->Shared->Prop}(I:Inv X pins σ H s)(hg:Gl X x)(hm:X.mg x=some u)(h:Q u s)
 (hd:(x==("__debug__" : Str))=false:=by decide):wpAny (model X.prog X.w) X.A (eval (.Name x pos) X.env) Q E s:=
 Calls.Name_function_global I.ok.kind hg (Calls.loadGlobal_global (by rw[I.ok.glob];exact I.mod.glob.keeps I.bk) hm h) hd
theorem Ew {E:Value->Shared->Prop}{pins:List (Addr×Obj)}{s:Shared}{σ:St}{H:Hp}{x:Str}{u:Value}{pos:Pos}{Q:Value->Shared->Prop}(I:Inv X pins σ H s)(hg:Gl X x)(hm:X.mg x=none)(hv:bootBuiltins x=some u)(h:Q u s)
 (hn:x ≠ "__name__" := by decide) (hd:(x==("__debug__" : Str))=false:=by decide):wpAny (model X.prog X.w) X.A (eval (.Name x pos) X.env) Q E s:=by
 obtain⟨mb,h1,h2⟩:=I.mod.blt;exact Calls.Name_function_global I.ok.kind hg (Calls.loadGlobal_builtin (by rw[I.ok.glob];exact I.mod.glob.keeps I.bk) hm (by rw[I.ok.blt];exact h1.keeps I.bk) ((h2 x hn).trans hv) h) hd
theorem Y9 {x:Str}{v:V}{u:Value}{pos:Pos}(hg:Gl X x)(hm:X.mg x=none)(hv:bootBuiltins x=some u)(r:RelV v u)(hn:x ≠ "__name__" := by decide)(hd:(x==("__debug__" : Str))=false:=by decide):PE X (.Name x pos) (tC v):=
 λ _ _ _ H _ I h=>Ew I hg hm hv ⟨v,H,I,r,h⟩ hn hd
variable {a b:Expr}{ta tb:TE}{pos:Pos}
def PC (X:Cx)(op:CmpOp)(a b:Expr)(t:TE):Prop:=
 ∀(pins:List (Addr×Obj)) (s:Shared) (σ:St) (H:Hp) (Q:VK),Inv X pins σ H s->t σ H Q->
  wpAny (model X.prog X.w) X.A (eval a X.env) (λ v s₁=>wpAny (model X.prog X.w) X.A (eval b X.env) (λ u s₂=>wpAny (model X.prog X.w) X.A (compareOp op v u) (EP X pins σ Q) X.xe s₂) X.xe s₁) X.xe s
theorem Pr (b:Expr){op:CmpOp}(h:op≠.In)(h2:op≠.NotIn):behindInMarks op b=false:=by
 have e1:(op==CmpOp.In)=false:=by cases op<;>first|rfl|exact absurd rfl h
 have e2:(op==CmpOp.NotIn)=false:=by cases op<;>first|rfl|exact absurd rfl h2
 cases b<;>simp[behindInMarks,e1,e2]
noncomputable def oE (ta:TE):TE:=λ σ H Q=>ta σ H λ x H1=>Q (.bl (decide (x=.Az))) H1
noncomputable def kJ (ta:TE):TE:=λ σ H Q=>ta σ H λ x H1=>Q (.bl (!decide (x=.Az))) H1
theorem RelV.Pt {x:V}{v:Value}(r:RelV x v):(v==yH)=decide (x=.Az):=by
 cases x with
 |Az|bl _=>cases r;rfl
 |int _|str _|dU _|kE _=>obtain⟨t,rfl⟩:=r;rfl
 |ref _|ty _=>cases r;rfl
theorem VB {j pos'}(ha:PE X a ta):PC X .Is a (.Constant .none j pos') (oE ta):=by
 intro pins s σ H Q I h;refine Bc (ha pins s σ H _ I h) λ v s1 ⟨x,H1,I1,r1,q1⟩=>?_;exact Constant_none (is_none_gen ⟨.bl _,H1,I1,by rw[r1.Pt];rfl,q1⟩)
theorem Yb {j pos'}(ha:PE X a ta):PC X .IsNot a (.Constant .none j pos') (kJ ta):=by
 intro pins s σ H Q I h;refine Bc (ha pins s σ H _ I h) λ v s1 ⟨x,H1,I1,r1,q1⟩=>?_;exact Constant_none (isnot_none_gen ⟨.bl _,H1,I1,by rw[r1.Pt];rfl,q1⟩)
noncomputable def tB (t:TE):TT:=λ σ H Q=>t σ H λ x H1=>∃c,x=.bl c/\Q c H1
theorem eE {op:CmpOp}{t:TE}(h:PC X op a b t)(h1:behindInMarks op b=false:=by first | exact Pr _ (by decide) (by decide) | rfl):PE X (.Compare a [op] [b] pos) t:=λ pins s σ H Q I hw=>wpAny_Compare1 (h pins s σ H Q I hw) h1
theorem VC {op:CmpOp}{t:TE}(h:PC X op a b t)(h1:behindInMarks op b=false:=by first | exact Pr _ (by decide) (by decide) | rfl):PT X (.Compare a [op] [b] pos) (tB t):=by
 intro pins s σ H Q I hw;refine wpAny_isTrue_Compare1 (Bc (h pins s σ H _ I hw) λ v s1 h1=>Bc h1 λ u s2 h2=>Bc h2 λ c s3 ⟨x,H1,I1,r1,q1⟩=>?_) h1;obtain⟨d,rfl,q⟩:=q1;cases r1;exact wpAny_truthy_bool ⟨H1,I1,q⟩
variable {tA jt:TT}{rest:List Expr}
noncomputable def oF (t u:TT):TT:=λ σ H Q=>t σ H λ c H1=>if c=true then u σ H1 Q else Q false H1
noncomputable def sT (t u:TT):TT:=λ σ H Q=>t σ H λ c H1=>if c=true then Q true H1 else u σ H1 Q
noncomputable def oG (t:TT):TT:=λ σ H Q=>t σ H λ c H1=>Q (!c) H1
theorem pw_and1 (ha:PT X a tA):PW X (.BoolOp .And [a] pos) tA:=by
 intro wh pins s σ H Q I h;refine isTrue_and (Bc (ha pins s σ H Q I h) λ c s1 e=>?_);cases c with
 |true=>exact isTrue_and_nil e
 |false=>exact e
theorem pw_or1 (ha:PT X a tA):PW X (.BoolOp .Or [a] pos) tA:=by
 intro wh pins s σ H Q I h;refine isTrue_or (Bc (ha pins s σ H Q I h) λ c s1 e=>?_);cases c with
 |false=>exact isTrue_or_nil e
 |true=>exact e
theorem pw_and (ha:PT X a tA)(hb:PW X (.BoolOp .And (b::rest) pos) jt):PW X (.BoolOp .And (a::b::rest) pos) (oF tA jt):=by
 intro wh pins s σ H Q I h;refine isTrue_and (Bc (ha pins s σ H _ I h) λ c s1 ⟨H1,I1,q1⟩=>?_);cases c with
 |true=>exact hb wh pins s1 σ H1 Q I1 q1
 |false=>exact⟨H1,I1,q1⟩
theorem pw_or (ha:PT X a tA)(hb:PW X (.BoolOp .Or (b::rest) pos) jt):PW X (.BoolOp .Or (a::b::rest) pos) (sT tA jt):=by
 intro wh pins s σ H Q I h;refine isTrue_or (Bc (ha pins s σ H _ I h) λ c s1 ⟨H1,I1,q1⟩=>?_);cases c with
 |true=>exact⟨H1,I1,q1⟩
 |false=>exact hb wh pins s1 σ H1 Q I1 q1
theorem eF (ha:PT X a tA):PT X (.UnaryOp .Not a pos) (oG tA):=by
 intro pins s σ H Q I h;exact isTrue_not (ha pins s σ H (λ c H1=>Q (!c) H1) I h)
noncomputable def kK (ta tb:TE):TE:=λ σ H Q=>ta σ H λ x H1=>∃c,x=.bl c/\if c=true then tb σ H1 Q else Q (.bl false) H1
noncomputable def oH (ta tb:TE):TE:=λ σ H Q=>ta σ H λ x H1=>∃c,x=.bl c/\if c=true then Q (.bl true) H1 else tb σ H1 Q
noncomputable def kL (ta:TE):TE:=λ σ H Q=>ta σ H λ x H1=>∃c,x=.bl c/\Q (.bl (!c)) H1
theorem eG {op}{t:TE}(h:PE X a t):PE X (.BoolOp op [a] pos) t:=λ pins s σ H Q I hw=>BoolOp_one (h pins s σ H Q I hw)
theorem eI (ha:PE X a ta)(hb:PE X (.BoolOp .And (b::rest) pos) tb):PE X (.BoolOp .And (a::b::rest) pos) (kK ta tb):=by
 intro pins s σ H Q I h;refine BoolOp_and (Bc (ha pins s σ H _ I h) λ v s1 ⟨x,H1,I1,r1,q1⟩=>?_);obtain⟨c,rfl,q1⟩:=q1;cases r1;refine wpAny_truthy_bool ?_;cases c with
 |true=>exact hb pins s1 σ H1 Q I1 q1
 |false=>exact⟨.bl false,H1,I1,rfl,q1⟩
theorem kM (ha:PE X a ta)(hb:PE X (.BoolOp .Or (b::rest) pos) tb):PE X (.BoolOp .Or (a::b::rest) pos) (oH ta tb):=by
 intro pins s σ H Q I h;refine BoolOp_or (Bc (ha pins s σ H _ I h) λ v s1 ⟨x,H1,I1,r1,q1⟩=>?_);obtain⟨c,rfl,q1⟩:=q1;cases r1;refine wpAny_truthy_bool ?_;cases c with
 |false=>exact hb pins s1 σ H1 Q I1 q1
 |true=>exact⟨.bl true,H1,I1,rfl,q1⟩
theorem eJ (ha:PE X a ta):PE X (.UnaryOp .Not a pos) (kL ta):=by
 intro pins s σ H Q I h;refine UnaryOp_ (Bc (ha pins s σ H _ I h) λ v s1 ⟨x,H1,I1,r1,q1⟩=>?_);obtain⟨c,rfl,q1⟩:=q1;cases r1;exact not_of (wpAny_truthy_bool ⟨.bl (!c),H1,I1,rfl,q1⟩)
end
def Dg (K:za)(H:Hp)(a:Addr)(xs:List V):Prop:=
 Rd H a (.lst xs) \/
  ∃(o:Obj) (aa:Array Value) (n:Nat),K.lookup a=some o/\o.cls=.type "list" /\ o.dict=none/\o.data=.seq aa n/\aa.size<=sizeLine/\Vals xs aa.toList
def Fx (K:za)(H:Hp)(a:Addr)(xs:List V):Prop:=
 Rd H a (.tup xs) \/
  ∃(o:Obj) (aa:Array Value) (n:Nat),K.lookup a=some o/\o.cls=.type "tuple" /\ o.data=.seq aa n/\aa.size<=sizeLine/\Vals xs aa.toList
noncomputable def oI:Value->Option V
 | .none=>some .Az
 | .bool b=>some (.bl b)
 | .int i _=>some (.int i)
 | .str x _=>some (.str x)
 | .bytes b _=>some (.dU b)
 | .float b _=>some (.kE b)
 | .ref a=>some (.ref a)
 | .type n=>some (.ty n)
 |_=>none
theorem RelV.abs {x:V}{u:Value}(r:RelV x u):oI u=some x:=by
 cases x with
 |Az|bl _=>cases r;rfl
 |int _|str _|dU _|kE _=>obtain⟨t,rfl⟩:=r;rfl
 |ref _|ty _=>cases r;rfl
theorem RelV.inj {x y:V}{u:Value}(r:RelV x u)(q:RelV y u):x=y:=zH (r.abs.symm.trans q.abs)
theorem Vals.inj:∀ {xs ys:List V}{us:List Value},Vals xs us->Vals ys us->xs=ys
 |_,_,_,.nil,.nil=>rfl
 |_,_,_,.cons r t,.cons r' t'=>by rw[r.inj r',Vals.inj t t']
section
variable {X:Cx}{pins:List (Addr×Obj)}{σ:St}{H:Hp}{s:Shared}{a:Addr}{xs ys:List V}
theorem Dg.of {K:za}(h:H a=some (.lst xs)):Dg K H a xs:=.inl (.inl h)
theorem Fx.of {K:za}(h:H a=some (.tup xs)):Fx K H a xs:=.inl (.inl h)
theorem Inv.list (I:Inv X pins σ H s)(h:Dg X.K H a xs):∃aa:List Value,Vals xs aa/\PlainL s.heap a aa.toArray/\xs.length<=sizeLine:=by
 rcases h with h|⟨o,aa,n,hk,hc,hd,hs,hz,r⟩
 ·obtain⟨z,aa,n,r,e⟩:=h.ok I.Av;exact⟨aa,r,⟨_,n,e,rfl,rfl,rfl⟩,z⟩
 ·refine⟨aa.toList,r,⟨o,n,I.MH a o hk,hc,hd,by simpa using hs⟩,?_⟩;have e:=r.length;simp only[yy] at e;omega
theorem Inv.tuple (I:Inv X pins σ H s)(h:Fx X.K H a xs):∃aa:List Value,Vals xs aa/\IsTup s.heap a aa.toArray/\xs.length<=sizeLine:=by
 rcases h with h|⟨o,aa,n,hk,hc,hs,hz,r⟩
 ·obtain⟨z,aa,r,p⟩:=h.ok I.Av;exact⟨aa,r,p,z⟩
 ·refine⟨aa.toList,r,⟨o,I.MH a o hk,hc,n,by simpa using hs⟩,?_⟩;have e:=r.length;simp only[yy] at e;omega
theorem Inv.IS (I:Inv X pins σ H s)(h:Dg X.K H a xs)(h':Dg X.K H a ys):xs=ys:=by
 obtain⟨aa,r,⟨o,n,e,_,_,d⟩,_⟩:=I.list h;obtain⟨its',r',⟨o',n',e',_,_,d'⟩,_⟩:=I.list h';rw[e] at e';cases e';rw[d] at d';injection d' with d1 _
 have:aa=its':=by simpa using congrArg Array.toList d1
 subst this;exact r.inj r'
theorem Inv.Hb (I:Inv X pins σ H s)(h:Fx X.K H a xs)(h':Fx X.K H a ys):xs=ys:=by
 obtain⟨aa,r,⟨o,e,_,n,d⟩,_⟩:=I.tuple h;obtain⟨its',r',⟨o',e',_,n',d'⟩,_⟩:=I.tuple h';rw[e] at e';cases e';rw[d] at d';injection d' with d1 _
 have:aa=its':=by simpa using congrArg Array.toList d1
 subst this;exact r.inj r'
end
noncomputable abbrev Cx.MM (X:Cx)(E:Value->Shared->Prop):Cx:={X with xe:=E}
noncomputable abbrev Cx.kN (X:Cx):Cx:=X.MM λ _ _=>False
theorem Cx.Ok.MM {X:Cx}(ok:X.Ok)(E:Value->Shared->Prop):(X.MM E).Ok:=
 ⟨ok.mod,ok.kind,ok.glob,ok.blt,ok.above,ok.inj,ok.has,ok.kH,ok.hd,ok.frames,ok.ZW,ok.nJ,ok.bs,ok.Y8,ok.Vz,ok.VA,ok.IQ,ok.dX⟩
theorem Cx.Ok.Gq {X:Cx}{E:Value->Shared->Prop}(ok:(X.MM E).Ok):X.Ok:=
 ⟨ok.mod,ok.kind,ok.glob,ok.blt,ok.above,ok.inj,ok.has,ok.kH,ok.hd,ok.frames,ok.ZW,ok.nJ,ok.bs,ok.Y8,ok.Vz,ok.VA,ok.IQ,ok.dX⟩
section
variable {X:Cx}{pins:List (Addr×Obj)}{σ:St}{H:Hp}{s:Shared}{E:Value->Shared->Prop}
theorem Inv.MM (I:Inv X pins σ H s)(E:Value->Shared->Prop):Inv (X.MM E) pins σ H s:=⟨I.ok.MM E,I.os,I.bare,I.base,I.loc,I.cell,I.free,I.Gp,I.pin,I.Av,I.len⟩
theorem Inv.Gq (I:Inv (X.MM E) pins σ H s):Inv X pins σ H s:=⟨I.ok.Gq,I.os,I.bare,I.base,I.loc,I.cell,I.free,I.Gp,I.pin,I.Av,I.len⟩
theorem SP.Gq {D:Ends}{f:Flow}{s':Shared}(h:SP (X.MM E) pins D f s'):SP X pins D f s':=by
 cases f with
 |next|brk|cont=>obtain⟨σ',H',I,q⟩:=h;exact⟨σ',H',I.Gq,q⟩
 |ret u=>obtain⟨v,σ',H',I,r,q⟩:=h;exact⟨v,σ',H',I.Gq,r,q⟩
theorem Sr.kN {st:List Stmt}{t:TS}(h:Sr X.kN st t):Sr X st t:=λ pins s σ H D I hw =>
 wpAny_mono (h pins s σ H D (I.MM _) hw) (λ _ _ q=>q.Gq) λ _ _ z=>yR z
end
section
variable {X:Cx}{st:Stmt}{rest:List Stmt}{t u:TS}{e:Expr}{te:TE}{pos:Pos}
noncomputable def kO:TS:=λ D σ H=>D.nx σ H
noncomputable def oJ (t u:TS):TS:=λ D σ H=>t {D with nx:=u D} σ H
theorem Yc:Sr X [] kO:=λ _ _ σ H _ I h=>wpAny_execs_nil ⟨σ,H,I,h⟩
theorem VD (h1:PS X st t)(h2:Sr X rest u):Sr X (st::rest) (oJ t u):=by
 intro pins s σ H D I h;refine wpAny_execs_cons (Bc (h1 pins s σ H {D with nx:=u D} I h) λ f s1 q=>?_);cases f with
 |next =>
  obtain⟨σ',H',I',q⟩:=q;exact h2 pins s1 σ' H' D I' q
 |ret v|brk|cont=>exact q
theorem Yd (h1:PS X st t):Sr X [st] t:=by
 intro pins s σ H D I h;refine wpAny_execs_cons (Bc (h1 pins s σ H D I h) λ f s1 q=>?_);cases f with
 |next=>exact wpAny_execs_nil q
 |ret v|brk|cont=>exact q
theorem Inv.quiet {pins:List (Addr×Obj)}{σ:St}{H:Hp}{s:Shared}(I:Inv X pins σ H s):interactive X.env=false:=by simp[interactive,I.ok.kind]
noncomputable def kP (te:TE):TS:=λ D σ H=>te σ H λ _ H1=>D.nx σ H1
theorem Fy (he:PE X e te)(hs:swapsWith e none pos.line X.env=pure false:=by rfl):PS X (.Expr e pos) (kP te):=by
 intro pins s σ H D I h;exact wpAny_Expr_any (Bc (he pins s σ H _ I h) λ v s1 ⟨x,H1,I1,r1,q1⟩=>⟨σ,H1,I1,q1⟩) I.quiet hs
noncomputable def oK (te:TE):TS:=λ D σ H=>te σ H D.rt
theorem Rf (he:PE X e te):PS X (.Return (some e) pos) (oK te):=by
 intro pins s σ H D I h;exact wpAny_Return_some (Bc (he pins s σ H _ I h) λ v s1 ⟨x,H1,I1,r1,q1⟩=>⟨x,σ,H1,I1,r1,q1⟩)
noncomputable def oM (c:TT)(t u:TS):TS:=λ D σ H=>c σ H λ b H1=>if b=true then t D σ H1 else u D σ H1
theorem kQ {c:Expr}{a b:List Stmt}{tc:TT}(hc:PT X c tc)(ha:Sr X a t)(hb:Sr X b u):PS X (.If c a b pos) (oM tc t u):=by
 intro pins s σ H D I h;refine wpAny_If (Bc (hc pins s σ H _ I h) λ d s1 ⟨H1,I1,q1⟩=>?_);cases d with
 |true=>exact ha pins s1 σ H1 D I1 q1
 |false=>exact hb pins s1 σ H1 D I1 q1
end
noncomputable abbrev TG:=V->St->Hp->(St->Hp->Prop)->Prop
noncomputable abbrev Vq:=List V->St->Hp->(St->Hp->Prop)->Prop
def PG (X:Cx)(target:Expr)(t:TG):Prop:=
 ∀(pins:List (Addr×Obj)) (s:Shared) (σ:St) (H:Hp) (v:V) (u:Value) (Q:St->Hp->Prop),Inv X pins σ H s->RelV v u->t v σ H Q->
  wpAny (model X.prog X.w) X.A (assign target X.env u) (λ _ s'=>∃σ' H',Inv X pins σ' H' s'/\Q σ' H') X.xe s
def jS (X:Cx)(ts:List Expr)(t:Vq):Prop:=
 ∀(pins:List (Addr×Obj)) (s:Shared) (σ:St) (H:Hp) (vs:List V) (us:List Value) (Q:St->Hp->Prop),Inv X pins σ H s->Vals vs us->t vs σ H Q->
  wpAny (model X.prog X.w) X.A (assignInOrder ((assignEach ts X.env).map (·.2)) us) (λ _ s'=>∃σ' H',Inv X pins σ' H' s'/\Q σ' H') X.xe s
noncomputable abbrev eK:=V->V->V->Hp->(Hp->Prop)->Prop
def kR (X:Cx)(t:eK):Prop:=
 ∀(pins:List (Addr×Obj)) (s:Shared) (σ:St) (H:Hp) (o i v:V) (ov iv u:Value) (Q:Hp->Prop),Inv X pins σ H s->RelV o ov->RelV i iv->RelV v u->t o i v H Q->
  wpAny (model X.prog X.w) X.A (setItem ov iv u) (λ _ s'=>∃H',Inv X pins σ H' s'/\Q H') X.xe s
section
variable {X:Cx}{pos:Pos}
noncomputable def Nc (i:Nat):TG:=λ v σ H Q=>Q (σ.set i (some v)) H
theorem Oh {i:Nat}{x:Str}(hN:X.N.Nodup)(hi:X.N[i]?=some x)(hx:Loc X.env.scope x)(hf:X.fn x=true\/X.env.scope.names.lookup x=some .local:=by first | exact .inl rfl | exact .inr rfl | assumption):PG X (.Name x pos) (Nc i):=by
 intro pins s σ H v u Q I r h;exact wpAny_assign_Name (Pp I hN hi hx r (λ s' I'=>⟨_,H,I',h⟩) hf)
noncomputable def eL:Vq:=λ vs σ H Q=>vs=[]/\Q σ H
noncomputable def VE (t:TG)(u:Vq):Vq:=λ vs σ H Q=>∃v r,vs=v::r/\t v σ H λ σ' H'=>u r σ' H' Q
theorem Ss:jS X [] eL:=by
 intro pins s σ H vs us Q I r h;obtain⟨e,h⟩:=h;subst e;cases r;exact assignInOrder_nil ⟨σ,H,I,h⟩
theorem Pu {e:Expr}{es:List Expr}{t:TG}{u:Vq}(h1:PG X e t)(h2:jS X es u)
 (hs:(assignEach (e::es) X.env).map (·.2)=assign e X.env::(assignEach es X.env).map (·.2):=by rfl):jS X (e::es) (VE t u):=by
 intro pins s σ H vs us Q I r h;obtain⟨v,vr,e1,h⟩:=h;subst e1;cases r with
 |cons r rr =>
  rw[hs];refine assignInOrder_cons (Bc (h1 pins s σ H _ _ _ I r h) λ _ s1 ⟨σ1,H1,I1,q1⟩=>?_);exact h2 pins s1 σ1 H1 _ _ Q I1 rr q1
noncomputable def eM (K:za)(n:Nat)(t:Vq):TG:=λ v σ H Q=>∃a xs,v=.ref a/\Fx K H a xs/\xs.length=n/\t xs σ H Q
theorem VF {es:List Expr}{k:Nat}{t:Vq}{n:Nat}(hc:X.calm=true)(h:jS X es t)
 (hn:(assignEach es X.env).length=n:=by rfl) (aT:(assignEach es X.env).findIdx? (·.1)=none:=by rfl):PG X (.Tuple es k pos) (eM X.K n t):=by
 intro pins s σ H v u Q I r hw;obtain⟨a,xs,e1,hq,hl,hw⟩:=hw;subst e1;cases r;obtain⟨aa,rv,ht,hz⟩:=I.tuple hq;refine assign_Tuple_tuple (I.ok.hd hc) ht (by simp[hn,<-hl,rv.length]) aT λ h' hx=>?_;have I1:Inv X pins σ H {s with heap:=h' }:=I.kept (t':=s.toks) λ b o e=>hx b o (zJ (zt e)) e;exact h pins _ σ H xs _ Q I1 (by simpa using rv) hw
noncomputable def oN (to ti:TE)(t:eK):TG:=λ v σ H Q=>to σ H λ o H1=>ti σ H1 λ i H2=>t o i v H2 λ H3=>Q σ H3
theorem eN {o i:Expr}{to ti:TE}{t:eK}(ho:PE X o to)(hi:PE X i ti)(hs:kR X t)
 (ha:∀v,assign (.Subscript o i pos) X.env v=(do
  let ov <-holding [v] (eval o X.env);let iv <-holding [v,ov] (eval i X.env)
  standAt pos
  holding [v,ov,iv] (setItem ov iv v)
  release [v,ov,iv] []):=by intro _;rfl):PG X (.Subscript o i pos) (oN to ti t):=by
 intro pins s σ H v u Q I r h;rw[ha];refine wpAny_bind (wpAny_holding (Bc (ho pins s σ H _ I h) λ ov s1 ⟨x,H1,I1,r1,q1⟩=>?_));refine wpAny_bind (wpAny_holding (Bc (hi pins s1 σ H1 _ I1 q1) λ iv s2 ⟨y,H2,I2,r2,q2⟩=>?_));refine wpAny_bind (wpAny_standAt (wpAny_bind (wpAny_holding (Bc (hs pins s2 σ H2 x y v ov iv u _ I2 r1 r2 r q2) λ _ s3 ⟨H3,I3,q3⟩=>?_))));exact wpAny_release ⟨σ,H3,I3,q3⟩
noncomputable def kS (te:TE)(g:TG):TS:=λ D σ H=>te σ H λ x H1=>g x σ H1 D.nx
theorem eO {tg e:Expr}{te:TE}{g:TG}(he:PE X e te)(hg:PG X tg g)(hs:swapsWithSole [tg] e pos.line X.env=pure false:=by rfl)(hw:swappedStores [tg] e X.env=pure none:=by rfl)
 (h1:(assignEach [tg] X.env).map (·.2)=[assign tg X.env]:=by rfl):PS X (.Assign [tg] e pos) (kS te g):=by
 intro pins s σ H D I h;refine wpAny_Assign_stores (Bc (he pins s σ H _ I h) λ v s1 ⟨x,H1,I1,r1,q1⟩=>?_) hs hw;rw[h1];exact Bc (hg pins s1 σ H1 x v _ I1 r1 q1) λ _ s2 q=>q
theorem Rg {i:Nat}{x:Str}{e:Expr}{te:TE}{pos':Pos}(hN:X.N.Nodup)(hi:X.N[i]?=some x)(hx:Loc X.env.scope x)(he:PE X e te)(hs:swapsWith e (some (.Name x pos')) pos.line X.env=pure false:=by rfl)(hf:X.fn x=true\/X.env.scope.names.lookup x=some .local:=by first | exact .inl rfl | exact .inr rfl | assumption):
 PS X (.Assign [.Name x pos'] e pos) (kS te (Nc i)):=by
 intro pins s σ H D I h;refine wpAny_Assign_Name (Bc (he pins s σ H _ I h) λ v s1 ⟨y,H1,I1,r1,q1⟩=>?_) hs;exact Pp I1 hN hi hx r1 (λ s2 I2=>⟨_,H1,I2,q1⟩) hf
end
section
variable {X:Cx}{pos:Pos}
noncomputable def eQ (c:TT)(tb:TS):TS:=λ D σ H=>∃W:Nat->St->Hp->Prop,(∃m,W m σ H)/\∀m σ H,W m σ H->
 c σ H λ b H1=>if b=true then ∃N:St->Hp->Prop,(∀σ' H',N σ' H'->∃m',m'<m/\W m' σ' H')/\tb {D with nx:=N,ct:=N,bk:=D.nx} σ H1 else D.nx σ H1
theorem VG {c:Expr}{body:List Stmt}{tc:TT}{tb:TS}(hp:PassesOwn (model X.prog X.w) X.A X.env X.xe)(hc:PT X c tc)(hb:Sr X body tb):PS X (.While c body [] pos) (eQ tc tb):=by
 intro pins s σ H D I h;obtain⟨W,⟨m0,w0⟩,turn⟩:=h;refine wpAny_While (codeAny_whileLoop (λ n s'=>∃σ' H',Inv X pins σ' H' s'/\W n σ' H') ?_ m0 ⟨σ,H,I,w0⟩);rintro n s1 ⟨σ1,H1,I1,w1⟩;refine wpAny_passesOwn hp (Bc (hc pins s1 σ1 H1 _ I1 (turn n σ1 H1 w1)) λ b s2 ⟨H2,I2,q2⟩=>?_);cases b with
 |true =>
  obtain⟨N,hN,q2⟩:=q2;rw[if_pos rfl];refine wpAny_passesOwn hp (Bc (hb pins s2 σ1 H2 _ I2 q2) λ f s3 q3=>?_);cases f with
  |next =>
   obtain⟨σ3,H3,I3,n3⟩:=q3;obtain⟨m',hm,w3⟩:=hN σ3 H3 n3;exact⟨m',hm,σ3,H3,I3,w3⟩
  |cont =>
   obtain⟨σ3,H3,I3,n3⟩:=q3;obtain⟨m',hm,w3⟩:=hN σ3 H3 n3;exact⟨m',hm,σ3,H3,I3,w3⟩
  |brk|ret v=>exact q3
 |false =>
  rw[if_neg zM];exact wpAny_execs_nil ⟨σ1,H2,I2,q2⟩
end
structure It where
 go:Nat->Hp->Prop
 ZY:Nat->Hp->V->Hp->Prop
 stop:Nat->Hp->Prop
def KG (X:Cx)(pins:List (Addr×Obj))(H:Hp)(b:Addr):Prop:=
 H b=none/\b≠X.env.locals/\b∉X.fs/\(b∈X.ex\/X.s₀.heap.objs.size<=b)/\(∀x c,X.env.cells.lookup x=some c->c≠b)/\∀p∈X.pn++pins,p.1≠b
theorem Inv.Ye {X:Cx}{pins:List (Addr×Obj)}{σ:St}{H H':Hp}{s:Shared}{b:Addr}(I:Inv X pins σ H s)(hb:s.heap.objs.size<=b)(hn:H' b=none):KG X pins H' b:=by
 refine⟨hn,Nat.ne_of_gt (zF I.lt hb),I.oC hb,.inr (yn I.sz hb),λ x c e z=>?_,λ p hp z=>?_⟩
 ·obtain⟨v,q⟩:=I.cell x c e;exact absurd (zF q.lt (by rw[z];exact hb)) (Nat.lt_irrefl _)
 ·exact absurd (zF (zt (I.pin p hp).1) (by rw[z];exact hb)) (Nat.lt_irrefl _)
structure Turn (P:Program)(w:World)(K:za)(tg:Expr)(J:It)(fp:List Addr)(it:Addr)(tn:Nat->Heap->Prop):Prop where
 mem:it∈fp
 obj:∀i h,tn i h->∀b∈fp,∃o,h.get? b=some o/\∀v,o.data≠.cell v
 keep:∀i h h',tn i h->(∀b∈fp,∀o,h.get? b=some o->h'.get? b=some o)->tn i h'
 item:∀(X:Cx),X.prog=P->X.w=w->X.K=K->X.calm=true->∀(i:Nat) (pins:List (Addr×Obj)) (s:Shared) (σ:St) (H:Hp) (E:Value->Shared->Prop),Inv X pins σ H s->(∀b∈fp,KG X pins H b)->tn i s.heap->J.go i H->
  wpAny (model P w) X.A (pyNext (.ref it)) (λ r s1=>∃u,r=some u/\
   wpAny (model P w) X.A (letOwnedTupleGo tg (.ref it) u) (λ _ s2=>∃x H',Inv X pins σ H' s2/\RelV x u/\J.ZY i H x H'/\tn (i+1) s2.heap/\∀b∈fp,H' b=none) E s1) E s
 done:∀(X:Cx),X.prog=P->X.w=w->X.K=K->X.calm=true->∀(i:Nat) (pins:List (Addr×Obj)) (s:Shared) (σ:St) (H:Hp) (E:Value->Shared->Prop),Inv X pins σ H s->(∀b∈fp,KG X pins H b)->tn i s.heap->J.stop i H->
  wpAny (model P w) X.A (pyNext (.ref it)) (λ r s1=>r=none/\Inv X pins σ H s1) E s
 self:∀(A:Around) (i:Nat) (s:Shared) (Q:Value->Shared->Prop) (E:Value->Shared->Prop),tn i s.heap->Q (.ref it) s->wpAny (model P w) A (pyIter (.ref it)) Q E s
noncomputable abbrev TI:=St->Hp->(It->Hp->Prop)->Prop
def rA (X:Cx)(pins:List (Addr×Obj))(σ:St)(tg:Expr)(R:It->Hp->Prop)(ju:Value)(s2:Shared):Prop:=
 ∃(it:Addr) (fp:List Addr) (tn:Nat->Heap->Prop) (J:It) (H':Hp),ju=.ref it/\Inv X pins σ H' s2/\Turn X.prog X.w X.K tg J fp it tn/\tn 0 s2.heap/\(∀b∈fp,KG X pins H' b)/\R J H'
def PI (X:Cx)(tg iter:Expr)(wi:TI):Prop:=
 ∀(pins:List (Addr×Obj)) (s:Shared) (σ:St) (H:Hp) (R:It->Hp->Prop),Inv X pins σ H s->wi σ H R->
  wpAny (model X.prog X.w) X.A (eval iter X.env) (λ v s1=>wpAny (model X.prog X.w) X.A (pyIter v) (rA X pins σ tg R) X.xe s1) X.xe s
theorem ZZ {M:Model}{A:Around}{E:Value->Shared->Prop}{s:Shared}{tg:Expr}{it:Addr}{u:Value}{o:Obj}{n:String}{vs:Array Value}{Q:Unit->Shared->Prop}(ho:s.heap.get? it=some o)(hc:o.cls=.type n)(hd:o.data=.fields vs)
 (hn:["enumerate","zip","dict_itemiterator","dict_reverseitemiterator","odict_iterator","itertools.zip_longest","itertools.pairwise"].contains n=false) (hQ:Q () s):wpAny M A (letOwnedTupleGo tg (.ref it) u) Q E s:=by
 unfold letOwnedTupleGo;cases tg<;>first
  |exact wpAny_pure hQ
  |(cases u<;>first
   |exact wpAny_pure hQ
   |(
    refine wpAny_bind (wpAny_load ho ?_);rw[hc,hd];show wpAny M A (if (["enumerate","zip","dict_itemiterator","dict_reverseitemiterator","odict_iterator","itertools.zip_longest","itertools.pairwise"].contains n&&vs[0]?== some (rawInt _))=true then _ else _) Q E s;rw[if_neg (by intro h;rw[hn,Bool.false_and] at h;cases h)];exact wpAny_pure hQ))
noncomputable def rB (K:za)(a:Addr):It:=
 ⟨λ i H=>∃xs x,Dg K H a xs/\xs[i]?=some x,λ i H x H'=>H'=H/\∀xs,Dg K H a xs->xs[i]?=some x,λ i H=>∃xs,Dg K H a xs/\xs.length<=i⟩
noncomputable def nK (lo:Int)(n:Nat):It:=⟨λ i _=>i<n,λ i H x H'=>H'=H/\x=.int (lo+i),λ i _=>n<=i⟩
theorem TV {P:Program}{w:World}{K:za}{tg:Expr}(a it:Addr):Turn P w K tg (rB K a) [it] it (λ i h=>h.IsListIter it a i) where
 mem:=by simp
 obj:=λ i h st b hb=>by
  have e:b=it:=by simpa using hb
  subst e;obtain⟨o,e,c,d⟩:=st;exact⟨o,e,λ v z=>by rw[d] at z;cases z⟩
 keep:=λ i h h' st k=>st.at λ o e=>k it (by simp) o e
 item:=by
  intro X hP hw hK hc i pins s σ H E I hf st hg;subst hP hw hK;obtain⟨xs,x,hq,hx⟩:=hg;obtain⟨aa,rv,p,hz⟩:=I.list hq;obtain⟨u,hu,ru⟩:=rv.get hx;obtain⟨f0,f1,f2,f3,f4,f5⟩:=hf it (by simp);refine wpAny_pyNext_list_item st p.isList (x:=u) (by simpa using hu) λ h' bL sb=>?_;have I1:Inv X pins σ H {s with heap:=h' }:=I.turned (t':=s.toks) (λ b o hb e=>(sb.2 b hb).trans e) f0 f1 f3 f4 f5;obtain⟨o,e,c,d⟩:=id bL;exact⟨u,rfl,ZZ (s:={s with heap:=h' }) e c d (by decide) ⟨x,H,I1,ru,⟨rfl,λ ys hy=>by rw[I.IS hy hq];exact hx⟩,bL,λ b hb=>(hf b hb).1⟩⟩
 done:=by
  intro X hP hw hK hc i pins s σ H E I hf st hg;subst hP hw hK;obtain⟨xs,hq,hx⟩:=hg;obtain⟨aa,rv,p,hz⟩:=I.list hq;obtain⟨f0,f1,f2,f3,f4,f5⟩:=hf it (by simp);have hl:=rv.length;exact wpAny_pyNext_list_end (I.ok.hd hc) st p.isList (by simp;omega) λ h' eb=>⟨rfl,I.turned (t':=s.toks) (λ b o hb e=>eb b o hb e) f0 f1 f3 f4 f5⟩
 self:=λ _ _ _ _ _ st h=>wpAny_pyIter_listiter st h
theorem Rh {P:Program}{w:World}{K:za}{tg:Expr}(it:Addr)(lo:Int)(n:Nat):Turn P w K tg (nK lo n) [it] it (λ i h=>IsRangeIter h it (lo+(i:Nat)*1) ((n:Int)-(i:Nat)) 1) where
 mem:=by simp
 obj:=λ i h st b hb=>by
  have e:b=it:=by simpa using hb
  subst e;exact⟨_,st,λ v z=>by
   have z':Data.fields _=Data.cell v:=z;cases z'⟩
 keep:=λ i h h' st k=>k it (by simp) _ st
 item:=by
  intro X hP hw hK hc i pins s σ H E I hf st hg;subst hP hw hK;obtain⟨f0,f1,f2,f3,f4,f5⟩:=hf it (by simp);have W:=Walks.range (prog:=X.prog) (w:=X.w) (I.ok.hd hc) it lo 1 n;refine W.item i s _ _ hg st λ v h' tk hv bL kk=>?_;obtain⟨t,rfl⟩:=hv;have I1:Inv X pins σ H {s with heap:=h',toks:=tk}:=I.turned (λ b o hb e=>kk b o (by simpa using hb) e) f0 f1 f3 f4 f5;refine⟨_,rfl,ZZ (s:={s with heap:=h',toks:=tk}) (n := "range_iterator") bL rfl rfl (by decide) ⟨.int (lo+i),H,I1,⟨t,?_⟩,⟨rfl,rfl⟩,bL,λ b hb=>(hf b hb).1⟩⟩;rw[Int.mul_one]
 done:=by
  intro X hP hw hK hc i pins s σ H E I hf st hg;subst hP hw hK;obtain⟨f0,f1,f2,f3,f4,f5⟩:=hf it (by simp);exact wpAny_pyNext_range_end (I.ok.hd hc) st (by have:n<=i:=hg;omega) λ h' eb=>⟨rfl,I.turned (t':=s.toks) (λ b o hb e=>eb b o hb e) f0 f1 f3 f4 f5⟩
 self:=λ _ _ _ _ _ st h=>wpAny_pyIter_rangeiter st h
section
variable {X:Cx}{tg:Expr}
noncomputable def kT (K:za)(tl:TE):TI:=λ σ H R=>tl σ H λ x H1=>∃a,x=.ref a/\(∃xs,Dg K H1 a xs)/\R (rB K a) H1
theorem Yg {l:Expr}{tl:TE}(hl:PE X l tl):PI X tg l (kT X.K tl):=by
 intro pins s σ H R I h;refine Bc (hl pins s σ H _ I h) λ v s1 ⟨x,H1,I1,r1,q1⟩=>?_;obtain⟨a,e,⟨xs,hq⟩,q⟩:=q1;subst e;cases r1;obtain⟨aa,rv,p,hz⟩:=I1.list hq;refine wpAny_pyIter_list p.isList ?_;refine⟨s1.heap.objs.size,[s1.heap.objs.size],_,_,H1,rfl,I1.kept (t':=s1.toks) λ b o e=>zj _ e,TV a _,⟨_,zD _ rfl,rfl,rfl⟩,λ b hb=>?_,q⟩;have e:b=s1.heap.objs.size:=by simpa using hb
 subst e;exact I1.Ye (zu _) (I1.Av.fresh (zu _))
theorem VH {pins:List (Addr×Obj)}{σ:St}{H:Hp}{s:Shared}{R:It->Hp->Prop}{E:Value->Shared->Prop}{lo hi:Int}{t u v:Tok}{tk:Nat}(I:Inv X pins σ H s)(h1 : -(2^62)<=lo)(h2:lo<2^62)(h3 : -(2^62)<=hi)(h4:hi<2^62)
 (q:R (nK lo (hi-lo).toNat) H):wpAny (model X.prog X.w) X.A (pyIter (.ref s.heap.objs.size)) (rA X pins σ tg R) E {s with heap:=s.heap.push {cls:=.type "range",data:=.fields #[.int lo t,.int hi u,.int 1 v]},toks:=tk}:=by
 refine wpAny_pyIter_range (IsRange.new ..) (small_one h1 h2 h3 h4) ?_;have I1:Inv X pins σ H {s with heap:=s.heap.push {cls:=.type "range",data:=.fields #[.int lo t,.int hi u,.int 1 v]},toks:=tk}:=I.kept λ b o e=>zj _ e;refine⟨(s.heap.push {cls:=.type "range",data:=.fields #[.int lo t,.int hi u,.int 1 v]}).objs.size,[(s.heap.push {cls:=.type "range",data:=.fields #[.int lo t,.int hi u,.int 1 v]}).objs.size],_,_,H,rfl,
  I1.kept (t':=tk) λ b o e=>zj _ e,Rh _ lo (hi-lo).toNat,?_,λ b hb=>?_,q⟩
 ·have e1:lo+((0:Nat):Int)*1=lo:=by simp
  have e2:(((hi-lo).toNat:Nat):Int)-((0:Nat):Int)=Builtin.Range.rangeSize lo hi 1:=by rw[rangeSize_one];split<;>omega
  show IsRangeIter _ _ (lo+((0:Nat):Int)*1) ((((hi-lo).toNat:Nat):Int)-((0:Nat):Int)) 1;rw[e1,e2];exact zD _ rfl
 ·have e:b=(s.heap.push {cls:=.type "range",data:=.fields #[.int lo t,.int hi u,.int 1 v]}).objs.size:=by simpa using hb
  subst e;exact I1.Ye (zu _) (I1.Av.fresh (zu _))
noncomputable def kU (ta:TA):TI:=λ σ H R=>ta σ H λ vs H1=>∃j:Int,vs=[.int j]/\-(2^62)<=j/\j<2^62/\R (nK 0 j.toNat) H1
theorem TX {a:Expr}{ta:TA}{p pos:Pos}(hg:Gl X "range")(hm:X.mg "range" = none)(ha:PA X [a] ta)(hs:starEach [a] X.env=[(false,eval a X.env)]:=by rfl):PI X tg (.Call (.Name "range" p) [a] [] pos) (kU ta):=by
 intro pins s σ H R I h;refine Call_ (Ew I hg hm boot_range (y6 (Bc (ha pos pins s σ H _ I h) λ us s1 ⟨vs,H1,I1,r1,q1⟩=>?_) hs rfl));obtain⟨j,e,q1,q2,q⟩:=q1;subst e;cases r1 with
 |cons r rr =>
  cases rr;obtain⟨t,rfl⟩:=r;exact call_range_1 (VH I1 (by omega) (by omega) q1 q2 (by simpa using q))
noncomputable def oO (wi:TI)(g:TG)(tb:TS):TS:=λ D σ H=>wi σ H λ J H1=>∃W:Nat->Nat->St->Hp->Prop,(∃m,W 0 m σ H1)/\∀i m σ H,W i m σ H->
 (J.stop i H/\D.nx σ H)\/(J.go i H/\∃N:St->Hp->Prop,(∀σ' H',N σ' H'->∃m',m'<m/\W (i+1) m' σ' H')/\∀x H',J.ZY i H x H'->g x σ H' λ σ2 H2=>tb {D with nx:=N,ct:=N,bk:=D.nx} σ2 H2)
noncomputable def HZ (fp:List Addr)(h:Heap):List (Addr×Obj):=fp.filterMap λ b=>(h.get? b).map λ o=>(b,o)
theorem Fz {fp:List Addr}{h:Heap}{b:Addr}{o:Obj}(hb:b∈fp)(e:h.get? b=some o):(b,o)∈HZ fp h:=List.mem_filterMap.mpr ⟨b,hb,by rw[e];rfl⟩
theorem Nd {fp:List Addr}{h:Heap}{p:Addr×Obj}(hp:p∈HZ fp h):p.1∈fp/\h.get? p.1=some p.2:=by
 obtain⟨b,hb,e⟩:=List.mem_filterMap.mp hp;cases q:h.get? b with
 |none=>rw[q] at e;cases e
 |some o =>
  rw[q] at e;have e':(b,o)=p:=zH e;subst e';exact⟨hb,q⟩
theorem Inv.pinned {pins:List (Addr×Obj)}{σ:St}{H:Hp}{s:Shared}{fp:List Addr}(I:Inv X pins σ H s)(hf:∀b∈fp,KG X pins H b)(ho:∀b∈fp,∃o,s.heap.get? b=some o/\∀v,o.data≠.cell v):Inv X (pins++HZ fp s.heap) σ H s:=
 I.IR λ p hp=>(zK.mp hp).elim (λ z=>I.pin p (zo _ z)) λ z=>by
  obtain⟨hb,e⟩:=Nd z;obtain⟨f0,f1,f2,_⟩:=hf p.1 hb;obtain⟨o,e',d⟩:=ho p.1 hb;rw[e] at e';cases e';exact⟨e,f0,f1,f2,d⟩
theorem Inv.IT {pins pl:List (Addr×Obj)}{σ:St}{H:Hp}{s:Shared}(I:Inv X (pins++pl) σ H s):Inv X pins σ H s:=I.IR λ p hp=>I.pin p (zo _ (zO _ hp))
theorem eR {iter:Expr}{body:List Stmt}{wi:TI}{g:TG}{tb:TS}{pos:Pos}(hp:PassesOwn (model X.prog X.w) X.A X.env X.xe)(hc:X.calm=true)(hi:PI X tg iter wi)(hg:PG X tg g)(hb:Sr X body tb)
 (hs:∀x,foldedSetIterable iter X.env x=pure x:=by intro _;rfl):PS X (.For tg iter body [] pos) (oO wi g tb):=by
 intro pins s σ H D I h;refine wpAny_For (Bc (hi pins s σ H _ I h) λ v s1 h1=>Bc h1 λ ju s2 h2=>?_) hs;obtain⟨it,fp,tn,J,H2,e,I2,T,c0,f2,W,⟨m0,w0⟩,turn⟩:=h2;subst e;have bp:∀ {H':Hp},(∀b∈fp,H' b=none)->∀b∈fp,KG X pins H' b:=λ hn b hb=>⟨hn b hb,(f2 b hb).2⟩;refine codeAny_forLoop_any (λ n s'=>∃i σ' H',Inv X pins σ' H' s'/\tn i s'.heap/\(∀b∈fp,H' b=none)/\W i n σ' H') ?_ m0 ⟨0,σ,H2,I2,c0,λ b hb=>(f2 b hb).1,w0⟩;rintro n s3 ⟨i,σ3,H3,I3,gw,gx,w3⟩;rcases turn i n σ3 H3 w3 with ⟨stop,qn⟩|⟨go,N,hN,step⟩
 ·refine wpAny_passesOwn hp (Bc (T.done X rfl rfl rfl hc i pins s3 σ3 H3 X.xe I3 (bp gx) gw stop) λ r s4 ⟨hr,I4⟩=>?_);subst hr;exact wpAny_execs_nil ⟨σ3,H3,I4,qn⟩
 ·refine wpAny_passesOwn hp (Bc (T.item X rfl rfl rfl hc i pins s3 σ3 H3 X.xe I3 (bp gx) gw go) λ r s4 ⟨u,hr,h4⟩=>?_);subst hr;refine wpAny_passesOwn hp (Bc h4 λ _ s5 ⟨x,H5,I5,r5,y5,dl,lj⟩=>?_);have ll:=I5.pinned (bp lj) (T.obj _ _ dl);refine wpAny_passesOwn hp (Bc (hg _ s5 σ3 H5 x u _ ll r5 (step x H5 y5)) λ _ s6 ⟨σ6,H6,I6,q6⟩=>?_);refine wpAny_passesOwn hp (Bc (hb _ s6 σ6 H6 _ I6 q6) λ f s7 q7=>?_);have again:∀ {σ7:St} {H7:Hp},Inv X (pins++HZ fp s5.heap) σ7 H7 s7->N σ7 H7->∃m,m<n/\∃i σ' H',Inv X pins σ' H' s7/\tn i s7.heap/\(∀b∈fp,H' b=none)/\W i m σ' H':=fun {σ7 H7} I7 n7=>by
   obtain⟨m',hm,w7⟩:=hN σ7 H7 n7;refine⟨m',hm,i+1,σ7,H7,I7.IT,T.keep _ _ _ dl λ b hb o e=>(I7.pin (b,o) (zo _ (zo _ (Fz hb e)))).1,λ b hb=>?_,w7⟩;obtain⟨o,e,d⟩:=T.obj _ _ dl b hb;exact (I7.pin (b,o) (zo _ (zo _ (Fz hb e)))).2.1
  cases f with
  |next|cont=>obtain⟨σ7,H7,I7,n7⟩:=q7;exact again I7 n7
  |brk=>obtain⟨σ7,H7,I7,q7⟩:=q7;exact⟨σ7,H7,I7.IT,q7⟩
  |ret v=>obtain⟨x7,σ7,H7,I7,r7,q7⟩:=q7;exact⟨x7,σ7,H7,I7.IT,r7,q7⟩
end
noncomputable abbrev R2:=V->V->Hp->VK->Prop
def FA (X:Cx)(f:Value->Value->Sem Value)(r:R2):Prop:=
 ∀(pins:List (Addr×Obj)) (s:Shared) (σ:St) (H:Hp) (x y:V) (v u:Value) (Q:VK),Inv X pins σ H s->RelV x v->RelV y u->r x y H Q->
  wpAny (model X.prog X.w) X.A (f v u) (EP X pins σ Q) X.xe s
def oP (X:Cx)(f:Value->Sem Value)(r:V->Hp->VK->Prop):Prop:=
 ∀(pins:List (Addr×Obj)) (s:Shared) (σ:St) (H:Hp) (x:V) (v:Value) (Q:VK),Inv X pins σ H s->RelV x v->r x H Q->
  wpAny (model X.prog X.w) X.A (f v) (EP X pins σ Q) X.xe s
def Ge (X:Cx)(f:Value)(r:List V->Hp->VK->Prop):Prop:=
 ∀(pins:List (Addr×Obj)) (s:Shared) (σ:St) (H:Hp) (xs:List V) (us:List Value) (Q:VK),Inv X pins σ H s->Vals xs us->r xs H Q->
  wpAny (model X.prog X.w) X.A (call f us) (EP X pins σ Q) X.xe s
def oQ (X:Cx)(r:V->Hp->(Bool->Hp->Prop)->Prop):Prop:=
 ∀(pins:List (Addr×Obj)) (s:Shared) (σ:St) (H:Hp) (x:V) (v:Value) (Q:Bool->Hp->Prop),Inv X pins σ H s->RelV x v->r x H Q->
  wpAny (model X.prog X.w) X.A (truthy v) (TP X pins σ Q) X.xe s
noncomputable def kW (r:R2)(ta tb:TE):TE:=λ σ H Q=>ta σ H λ x H1=>tb σ H1 λ y H2=>r x y H2 Q
noncomputable def sU (r:V->Hp->VK->Prop)(ta:TE):TE:=λ σ H Q=>ta σ H λ x H1=>r x H1 Q
noncomputable def rI (C:Int->Int->Prop)(g:Int->Int->V):R2:=λ x y H Q=>∃i j,x=.int i/\y=.int j/\C i j/\Q (g i j) H
noncomputable def TY (g:Int->Int->V):R2:=λ x y H Q=>∃i j,x=.int i/\y=.int j/\Q (g i j) H
def rU (g:Int->V):V->Hp->VK->Prop:=λ x H Q=>∃i,x=.int i/\Q (g i) H
section
variable {X:Cx}{a b c:Expr}{ta tb tc:TE}{pos:Pos}
theorem eS (ha:PE X a ta)(hb:PE X b tb){pins:List (Addr×Obj)}{s:Shared}{σ:St}{H:Hp}{R:V->V->Hp->Prop}(I:Inv X pins σ H s)
 (h:ta σ H λ x H1=>tb σ H1 λ y H2=>R x y H2) {Q:Value->Shared->Prop} {f:Value->Value->Sem Value}
 (hf:∀v u s2 x y H2,Inv X pins σ H2 s2->RelV x v->RelV y u->R x y H2->wpAny (model X.prog X.w) X.A (f v u) Q X.xe s2):
 wpAny (model X.prog X.w) X.A (eval a X.env) (λ v s₁=>wpAny (model X.prog X.w) X.A (eval b X.env) (λ u s₂=>wpAny (model X.prog X.w) X.A (f v u) Q X.xe s₂) X.xe s₁) X.xe s:=by
 refine Bc (ha pins s σ H _ I h) λ v s1 ⟨x,H1,I1,r1,q1⟩=>?_;refine Bc (hb pins s1 σ H1 _ I1 q1) λ u s2 ⟨y,H2,I2,r2,q2⟩=>?_;exact hf v u s2 x y H2 I2 r1 r2 q2
theorem cI {op:Operator}{r:R2}(ho:FA X (binaryOp op) r)(ha:PE X a ta)(hb:PE X b tb):PE X (.BinOp a op b pos) (kW r ta tb):=by
 intro pins s σ H Q I h;exact wpAny_BinOp (eS ha hb I h λ v u s2 x y H2 I2 rx ry q=>ho pins s2 σ H2 x y v u Q I2 rx ry q)
theorem kX {op:UnaryOp}{r:V->Hp->VK->Prop}(ho:oP X (unaryOp op) r)(ha:PE X a ta):PE X (.UnaryOp op a pos) (sU r ta):=by
 intro pins s σ H Q I h;exact UnaryOp_ (Bc (ha pins s σ H _ I h) λ v s1 ⟨x,H1,I1,r1,q1⟩=>ho pins s1 σ H1 x v Q I1 r1 q1)
theorem nL {f:Value->Value->Sem Value}{C:Int->Int->Prop}{g:Int->Int->Int}
 (rule:∀(i j:Int) (t u:Tok) (s:Shared) (Q:Value->Shared->Prop) (E:Value->Shared->Prop),C i j->Q (.int (g i j) s.toks) {s with toks:=s.toks+1}->wpAny (model X.prog X.w) X.A (f (.int i t) (.int j u)) Q E s):
 FA X f (rI C λ i j=>.int (g i j)):=by
 intro pins s σ H x y v u Q I rx ry h;obtain⟨i,j,rfl,rfl,hc,q⟩:=h;obtain⟨t,rfl⟩:=rx;obtain⟨t',rfl⟩:=ry;exact rule i j t t' s _ _ hc ⟨.int (g i j),H,I.tok _,⟨_,rfl⟩,q⟩
theorem kY {f:Value->Value->Sem Value}{g:Int->Int->Int}
 (rule:∀(i j:Int) (t u:Tok) (s:Shared) (Q:Value->Shared->Prop) (E:Value->Shared->Prop),Q (.int (g i j) s.toks) {s with toks:=s.toks+1}->wpAny (model X.prog X.w) X.A (f (.int i t) (.int j u)) Q E s):
 FA X f (TY λ i j=>.int (g i j)):=by
 intro pins s σ H x y v u Q I rx ry h;obtain⟨i,j,rfl,rfl,q⟩:=h;obtain⟨t,rfl⟩:=rx;obtain⟨t',rfl⟩:=ry;exact rule i j t t' s _ _ ⟨.int (g i j),H,I.tok _,⟨_,rfl⟩,q⟩
theorem Yh {f:Value->Value->Sem Value}{g:Int->Int->Bool}
 (rule:∀(i j:Int) (t u:Tok) (s:Shared) (Q:Value->Shared->Prop) (E:Value->Shared->Prop),Q (.bool (g i j)) s->wpAny (model X.prog X.w) X.A (f (.int i t) (.int j u)) Q E s):
 FA X f (TY λ i j=>.bl (g i j)):=by
 intro pins s σ H x y v u Q I rx ry h;obtain⟨i,j,rfl,rfl,q⟩:=h;obtain⟨t,rfl⟩:=rx;obtain⟨t',rfl⟩:=ry;exact rule i j t t' s _ _ ⟨.bl (g i j),H,I,rfl,q⟩
def Pw (i j:Int):Prop:=0<j/\j<1073741824
def Yi (i j:Int):Prop:=0<=j/\j<=1000000/\i.natAbs<2^64
def VI (i j:Int):Prop:=(-(2^64)<i/\i<2^64)\/(-(2^64)<j/\j<2^64)
theorem VI.ok {i j:Int}(h:VI i j):IntMulOk i j:=by
 rcases h with ⟨h1,h2⟩|⟨h1,h2⟩
 ·exact .of_left (intBits_le_64 h1 h2)
 ·exact .of_right (intBits_le_64 h1 h2)
theorem eT:FA X (binaryOp .Add) (TY λ i j=>.int (i+j)):=kY λ _ _ _ _ _ _ _ q=>add_int q
theorem eU:FA X (binaryOp .Sub) (TY λ i j=>.int (i-j)):=kY λ _ _ _ _ _ _ _ q=>sub_int q
theorem Yj:FA X (binaryOp .FloorDiv) (rI Pw λ i j=>.int (i / j)):=nL λ i j _ _ _ _ _ hc q=>by
 have h1:(0:Int)<j:=hc.1;have h2:j<1073741824:=hc.2;exact floordiv_int (by omega) (by rw[Int.fdiv_eq_ediv_of_nonneg i (by omega)];exact q) (.inl (PyProof.noPylong_small (by omega)))
theorem eV:FA X (binaryOp .Mod) (rI (λ _ j=>0<j) λ i j=>.int (i%j)):=nL λ i j _ _ _ _ _ hc q=>by
 have h1:(0:Int)<j:=hc;exact mod_int' (by omega) (by rw[Int.fmod_eq_emod_of_nonneg i (by omega)];exact q)
theorem eW:FA X (binaryOp .Pow) (rI Yi λ i j=>.int (i^j.toNat)):=nL λ _ _ _ _ _ _ _ hc q=>pow_int_small hc.1 hc.2.1 hc.2.2 q
theorem sV {f:Value->Sem Value}{g:Int->Int}
 (rule:∀(i:Int) (t:Tok) (s:Shared) (Q:Value->Shared->Prop) (E:Value->Shared->Prop),Q (.int (g i) s.toks) {s with toks:=s.toks+1}->wpAny (model X.prog X.w) X.A (f (.int i t)) Q E s):
 oP X f (rU λ i=>.int (g i)):=by
 intro pins s σ H x v Q I rx h;obtain⟨i,rfl,q⟩:=h;obtain⟨t,rfl⟩:=rx;exact rule i t s _ _ ⟨.int (g i),H,I.tok _,⟨_,rfl⟩,q⟩
theorem eX:oP X (unaryOp .USub) (rU λ i=>.int (-i)):=sV λ _ _ _ _ _ q=>neg_int q
end
section
variable {X:Cx}{a b c:Expr}{ta tb tc:TE}{pos:Pos}
theorem cJ:FA X (compareOp .Lt) (TY λ i j=>.bl (decide (i<j))):=Yh λ _ _ _ _ _ _ _ q=>lt_int q
theorem cL:FA X (compareOp .LtE) (TY λ i j=>.bl (decide (i<=j))):=Yh λ _ _ _ _ _ _ _ q=>le_int q
theorem kZ:FA X (compareOp .Gt) (TY λ i j=>.bl (decide (j<i))):=Yh λ _ _ _ _ _ _ _ q=>gt_int q
theorem lA:FA X (compareOp .GtE) (TY λ i j=>.bl (decide (j<=i))):=Yh λ _ _ _ _ _ _ _ q=>ge_int q
theorem FA.or {f:Value->Value->Sem Value}{r r':R2}(h:FA X f r)(h':FA X f r'):FA X f (λ x y H Q=>r x y H Q\/r' x y H Q):=by
 intro pins s σ H x y v u Q I rx ry q;rcases q with q|q
 ·exact h pins s σ H x y v u Q I rx ry q
 ·exact h' pins s σ H x y v u Q I rx ry q
theorem I0 (b:Expr){op:CmpOp}(h:op≠.In:=by decide)(h2:op≠.NotIn:=by decide):behindInMarks op b=false:=by
 have e1:(op==CmpOp.In)=false:=by cases op<;>first|rfl|exact absurd rfl h
 have e2:(op==CmpOp.NotIn)=false:=by cases op<;>first|rfl|exact absurd rfl h2
 cases b<;>simp[behindInMarks,e1,e2]
theorem Yk {op:CmpOp}{r:R2}(ho:FA X (compareOp op) r)(ha:PE X a ta)(hb:PE X b tb)(hm:behindInMarks op b=false):PE X (.Compare a [op] [b] pos) (kW r ta tb):=by
 intro pins s σ H Q I h;exact wpAny_Compare1 (eS ha hb I h λ v u s2 x y H2 I2 rx ry q=>ho pins s2 σ H2 x y v u Q I2 rx ry q) hm
noncomputable def VJ (t:TE):TT:=λ σ H Q=>t σ H λ x H'=>∃k,x=.bl k/\Q k H'
theorem Yl {op:CmpOp}{r:R2}(ho:FA X (compareOp op) r)(ha:PE X a ta)(hb:PE X b tb)(hm:behindInMarks op b=false):PT X (.Compare a [op] [b] pos) (VJ (kW r ta tb)):=by
 intro pins s σ H Q I h;refine wpAny_isTrue_Compare1 (Bc (ha pins s σ H _ I h) λ v s1 ⟨x,H1,I1,r1,q1⟩=>Bc (hb pins s1 σ H1 _ I1 q1) λ u s2 ⟨y,H2,I2,r2,q2⟩ =>
  Bc (ho pins s2 σ H2 x y v u _ I2 r1 r2 q2) λ c s3 ⟨z,H3,I3,r3,k,e,q3⟩=>?_) hm
 subst e;cases r3;exact wpAny_truthy_bool ⟨H3,I3,q3⟩
noncomputable def VL (r r':R2)(ta tb tc:TE):TE:=λ σ H Q=>ta σ H λ x H1=>tb σ H1 λ y H2=>r x y H2 λ z H3=>∃k,z=.bl k/\
 (if k=true then tc σ H3 λ w' H4=>r' y w' H4 Q else Q (.bl false) H3)
theorem VM {op bq:CmpOp}{r r':R2}(ho:FA X (compareOp op) r)(be:FA X (compareOp bq) r')(ha:PE X a ta)(hb:PE X b tb)(hc:PE X c tc)
 (hm:lastMarks [op,bq] [b,c]=false:=by with_unfolding_all rfl):PE X (.Compare a [op,bq] [b,c] pos) (VL r r' ta tb tc):=by
 intro pins s σ H Q I h;refine Compare_chain (Bc (ha pins s σ H _ I h) λ v s1 ⟨x,H1,I1,r1,q1⟩=>chain_link (Bc (hb pins s1 σ H1 _ I1 q1) λ u s2 ⟨y,H2,I2,r2,q2⟩ =>
  Bc (ho pins s2 σ H2 x y v u _ I2 r1 r2 q2) λ d s3 ⟨z,H3,I3,r3,k,e,q3⟩=>?_)) hm
 subst e;cases r3;refine wpAny_truthy_bool ?_;cases k with
 |false=>exact ite_ff ⟨.bl false,H3,I3,rfl,q3⟩
 |true=>exact ite_tt (chain_last (Bc (hc pins s3 σ H3 _ I3 q3) λ w' s4 ⟨z',H4,I4,r4,q4⟩=>be pins s4 σ H4 y z' u w' Q I4 r2 r4 q4))
theorem VN {op bq:CmpOp}{r r':R2}(ho:FA X (compareOp op) r)(be:FA X (compareOp bq) r')(ha:PE X a ta)(hb:PE X b tb)(hc:PE X c tc)
 (hm:lastMarks [op,bq] [b,c]=false:=by with_unfolding_all rfl):PT X (.Compare a [op,bq] [b,c] pos) (VJ (VL r r' ta tb tc)):=by
 intro pins s σ H Q I h;refine isTrue_chain (Bc (ha pins s σ H _ I h) λ v s1 ⟨x,H1,I1,r1,q1⟩=>test_link (Bc (hb pins s1 σ H1 _ I1 q1) λ u s2 ⟨y,H2,I2,r2,q2⟩ =>
  Bc (ho pins s2 σ H2 x y v u _ I2 r1 r2 q2) λ d s3 ⟨z,H3,I3,r3,k,e,q3⟩=>?_)) hm
 subst e;cases r3;refine wpAny_truthy_bool ?_;cases k with
 |false =>
  obtain⟨k',e',q'⟩:=q3;cases e';exact ite_ff ⟨H3,I3,q'⟩
 |true =>
  refine ite_tt (test_last (Bc (hc pins s3 σ H3 _ I3 q3) λ w' s4 ⟨z',H4,I4,r4,q4⟩=>Bc (be pins s4 σ H4 y z' u w' _ I4 r2 r4 q4) λ d' s5 ⟨z2,H5,I5,r5,k2,e2,q5⟩=>?_));subst e2;cases r5;exact wpAny_truthy_bool ⟨H5,I5,q5⟩
def lB (K:za)(x:V)(H:Hp)(k:Bool):Prop:=
 match x with
 | .Az=>k=false
 | .bl b=>k=b
 | .int i=>k=(i != 0)
 | .str y=>y.length<=sizeLine/\k=((y.length:Int) != 0)
 | .dU y=>y.size<=sizeLine/\k=((y.size:Int) != 0)
 | .ref p=>(∃xs,Dg K H p xs/\k = !xs.isEmpty)\/(∃xs,Fx K H p xs/\k = !xs.isEmpty)\/∃kvs,H p=some (.dK kvs)/\k = !kvs.isEmpty
 |_=>False
theorem Ri {κ:Type}{kvs:List (κ×V)}{vs:List (κ×Value)}(r:KV kvs vs):(!vs.isEmpty) = !kvs.isEmpty:=by
 cases r<;>rfl
theorem Lf {xs:List V}{aa:List Value}(r:Vals xs aa):(!aa.toArray.isEmpty) = !xs.isEmpty:=by
 cases r<;>simp
theorem Jz:(sizeLine:Nat)<2^63:=by rw[sizeLine_eq];decide
theorem eY:oQ X (λ x H Q=>∃k,lB X.K x H k/\Q k H):=by
 intro pins s σ H x v Q I rx h;obtain⟨k,e,q⟩:=h;have hl:=Jz;have hs:sizeLine=16777216:=sizeLine_eq;cases x with
 |Az =>
  cases rx;have e':k=false:=e;subst e';exact truthy_none ⟨H,I,q⟩
 |bl b =>
  cases rx;have e':k=b:=e;subst e';exact wpAny_truthy_bool ⟨H,I,q⟩
 |int i =>
  obtain⟨t,rfl⟩:=rx;have e':k=(i != 0):=e;subst e';exact PySem.P.truthy_int ⟨H,I,q⟩
 |str y =>
  obtain⟨t,rfl⟩:=rx;obtain⟨hy,e'⟩:y.length<=sizeLine/\k=((y.length:Int) != 0):=e;subst e';exact PySem.P.truthy_str (by omega) ⟨H,I.tok _,q⟩
 |dU y =>
  obtain⟨t,rfl⟩:=rx;obtain⟨hy,e'⟩:y.size<=sizeLine/\k=((y.size:Int) != 0):=e;subst e';exact PySem.W.truthy_bytes (by omega) ⟨H,I.tok _,q⟩
 |ref p =>
  cases rx;have e':(∃xs,Dg X.K H p xs/\k = !xs.isEmpty)\/(∃xs,Fx X.K H p xs/\k = !xs.isEmpty)\/∃kvs,H p=some (.dK kvs)/\k = !kvs.isEmpty:=e;rcases e' with ⟨xs,hx,e'⟩|⟨xs,hx,e'⟩|⟨kvs,hx,e'⟩
  ·subst e';obtain⟨aa,r,pl,hz⟩:=I.list hx;have hlen:=r.length;exact wpAny_truthy_list pl.isList (by simp only[zh];omega) ⟨H,I.tok _,by rw[Lf r];exact q⟩
  ·subst e';obtain⟨aa,r,pl,hz⟩:=I.tuple hx;have hlen:=r.length;exact truthy_tuple pl (by simp only[zh];omega) ⟨H,I.tok _,by rw[Lf r];exact q⟩
  ·subst e';obtain⟨hz,hS,vs,r,m⟩:kvs.length<=sizeLine/\(p==sysModules)=false/\∃vs,KV kvs vs/\s.heap.DictOf (Bx X.prog X.w) p vs:=I.Av p _ hx;have hlen:kvs.length=vs.length:=Paired.length r;exact wpAny_truthy_dict hS m (by omega) ⟨H,I.tok _,by rw[Ri r];exact q⟩
 |_=>exact (show False from e).elim
theorem VO (ha:PE X a ta)(he:∀whole,isTrue a X.env whole=(do let v <-whole;standAt a.pos;holding [v] (truthy v))):
 PT X a (λ σ H Q=>ta σ H λ x H'=>∃k,lB X.K x H' k/\Q k H'):=by
 intro pins s σ H Q I h;exact isTrue_plain (Bc (ha pins s σ H _ I h) λ v s1 ⟨x,H1,I1,r1,q1⟩=>eY pins s1 σ H1 x v Q I1 r1 q1) (he _)
theorem vals1 {x:V}{us:List Value}(r:Vals [x] us):∃u,us=[u]/\RelV x u:=by
 cases r with
 |cons r1 r2=>cases r2;exact⟨_,rfl,r1⟩
theorem vals2 {x y:V}{us:List Value}(r:Vals [x,y] us):∃u w',us=[u,w']/\RelV x u/\RelV y w':=by
 cases r with
 |cons r1 r2 =>
  cases r2 with
  |cons r3 r4=>cases r4;exact⟨_,_,rfl,r1,r3⟩
theorem TZ (hc:X.calm=true):Ge X (.builtin "min") (λ xs H Q=>∃i j,xs=[.int i,.int j]/\Q (.int (if j<i then j else i)) H):=by
 intro pins s σ H xs us Q I r h;obtain⟨i,j,rfl,q⟩:=h;obtain⟨u,w',rfl,⟨t,rfl⟩,⟨t',rfl⟩⟩:=vals2 r;refine min_two_ints (I.ok.hd hc) λ h' tk k=>⟨_,H,I.kept k,?_,q⟩;by_cases hj:j<i
 ·rw[if_pos hj,if_pos hj];exact⟨_,rfl⟩
 ·rw[if_neg hj,if_neg hj];exact⟨_,rfl⟩
end
structure Rj (h:Heap)(x dx C:Addr)(mA:Str->Option Value):Prop where
 obj:h.get? x=some (yP C dx)
 ns:h.Ns1 dx mA
 ne:dx≠x
theorem U0 {h:Heap}{dx:Addr}{mA:Str->Option Value}(n:h.Ns1 dx mA):∃od,h.get? dx=some od/\∀name,PySem.W.lookIn name od=some (mA name):=by
 obtain⟨o,es,ep,ho,hd,hk,_,hm⟩:=n;refine⟨o,ho,λ name=>?_⟩;have e:=hm name;unfold nsFind findBy at e;rw[<-Array.find?_toList] at e;unfold PySem.W.lookIn;rw[hd];dsimp only;split
 ·rename_i y q;rw[q] at e;exact congrArg some e
 ·rename_i q;rw[q] at e;have a:es.toList.any (·.refKey)=false:=by
   rw[List.any_eq_false];intro y hy;obtain⟨z,t,lm⟩:=hk y (Array.mem_toList_iff.mp hy);simp[DictEntry.refKey,lm]
  have a':¬ es.toList.any (·.refKey)=true:=by rw[a];exact zM
  rw[if_neg a'];exact congrArg some e
theorem Rj.look {h:Heap}{x dx C:Addr}{mA:Str->Option Value}(I:Rj h x dx C mA):∃od,PySem.W.InstAt h x (yP C dx) C (some od)/\∀name,PySem.W.lookIn name od=some (mA name):=
 let ⟨od,ho,hl⟩:=U0 I.ns
 ⟨od,⟨I.obj,rfl,rfl,ho⟩,hl⟩
section
variable {prog:Program}{w:World}{A:Around}{E:Value->Shared->Prop}{s:Shared}{K:za}{x dx C f:Addr}{mA:Str->Option Value}{name:Str}{v:Value}
theorem get_map {expr:Bool}{Q:Value->Shared->Prop}(X:K.In s.heap)(I:Rj s.heap x dx C mA)(hg:xi K C name=true)(hh:PySem.W.hasDictIn K C=true)
 (ha:zi K (.ref C) name=some none) (hv:mA name=some v) (lp:PySem.W.handedIn v=true) (h:Q v {s with toks:=s.toks+1}):
 wpAny (model prog w) A (getAttr (.ref x) name expr) Q E s:=by
 obtain⟨od,J,hl⟩:=I.look;exact PySem.W.get_value X J (PySem.W.plainGet_of hg).1 (PySem.W.findObj_own hh ha rfl (by rw[hl,hv])) lp h
theorem VP {pl:Sem Bool}{Q:Value×List Value->Shared->Prop}(X:K.In s.heap)(I:Rj s.heap x dx C mA)(hg:xi K C name=true)
 (hf:zi K (.ref C) name=some (some (.ref f))) (ht:xj K (.ref f)=true) (hv:mA name=none) (h:Q (.ref f,[.ref x]) s):
 wpAny (model prog w) A (getMethod (.ref x) name pl) Q E s:=by
 obtain⟨od,J,hl⟩:=I.look;exact PySem.W.method_fn X J (PySem.W.plainGet_of hg).1 (PySem.W.plainGet_of hg).2 hf (beq_iff_eq.mp ht) (by show (PySem.W.lookIn name od).map (·.isSome)=some false;rw[hl,hv];rfl) h
theorem Ym {ns:List Str}{Q:Unit->Shared->Prop}(X:K.In s.heap)(I:Rj s.heap x dx C mA)
 (hs:zi K (.ref C) "__setattr__" = some (some (.builtin "object.__setattr__"))) (hp:PySem.W.plainOver K C=true) (ht:PySem.W.takerIn K C name=some none) (hh:PySem.W.hasDictIn K C=true)
 (hw:PySem.Within mA ns) (hsz:ns.length<=sizeLine)
 (h:∀h',Rj h' x dx C (λ y=>if y=name then some v else mA y)->yW dx s.heap h'->Q () {s with heap:=h',toks:=s.toks+2}):
 wpAny (model prog w) A (setAttr (.ref x) name v) Q E s:=by
 obtain⟨od,J,hl⟩:=I.look;refine PySem.W.set_plain X J hs (PySem.W.osa_open (s:={s with toks:=s.toks+1}) (r:=none) X J hp ht λ b=>?_);obtain⟨cd,hc,cz⟩:=PySem.W.any_some hh;have hx:s.heap.get? x=some ⟨.ref C,some dx,.plain,#[]⟩:=I.obj;refine wpAny_bind (wpAny_pure (wpAny_bind (wpAny_bind (wpAny_loadPart hx (wpAny_bind (PySem.W.Looks.here (s:={s with toks:=s.toks+1}) (PySem.W.looks_clsIn X hc) ?_))))));rw[cz];refine wpAny_pure (a:=some dx) (wpAny_bind (wpAny_pure (wpAny_bind ?_)));refine wpAny_nsSet1 (s:={s with toks:=s.toks+1}) I.ns λ h' aB aP=>?_;obtain⟨oD,v7,v8,sW,sX,sY⟩:=aB.count (PySem.Within.cons name v hw);refine wpAny_bind (wpAny_lookBehind sW (by rw[sX];exact pastItsLine_dict (yn sY (by rw[zq];omega))) ?_);exact wpAny_pure (h _ ⟨(aP.2 _ (yh I.ne)).trans I.obj,aB,I.ne⟩ aP)
theorem VQ {R:Result->Shared->Prop}{vs:List Value}{kw:List (Str×Value)}(X:K.In s.heap)(hm:PySem.W.makesIn K C=true)
 (hi:zi K (.ref C) "__init__" = some (some (.ref f))) (hf:PySem.W.typeIn K (.ref f)=some (.type "function"))
 (h:codeAny (model prog w) (A.under (.builtin "type.__call__" ⟨.ref C::vs,kw⟩)) (.call (.ref f) ⟨.ref (s.heap.objs.size+1)::vs,kw⟩) (PySem.W.InitBack (s.heap.objs.size+1) R)
  {s with heap:=(s.heap.push yw).push (yP C s.heap.objs.size)}):
 codeAny (model prog w) A (.call (.ref C) ⟨vs,kw⟩) R s:=by
 obtain⟨hh,g,d,t,os⟩:=s;exact PySem.W.make_core (PySem.W.makes_of X hm) (PySem.W.looks_findIn X hi) (λ self=>PySem.W.bind_fn X self hf) (.inl rfl) h
end
noncomputable def DM (f:Str)(v:V):List (Str×V)->List (Str×V)
 |[]=>[(f,v)]
 |(g,x)::r=>if g=f then (g,v)::r else (g,x)::DM f v r
theorem Km (f g:Str)(v:V):∀fs:List (Str×V),(DM f v fs).lookup g=if g=f then some v else fs.lookup g
 |[]=>by
  show List.lookup g [(f,v)]=_;by_cases h:g=f
  ·have hb:(g==f)=true:=beq_iff_eq.mpr h;simp only[List.lookup,hb,if_pos h]
  ·have hb:(g==f)=false:=beq_eq_false_iff_ne.mpr h;simp only[List.lookup,hb,if_neg h]
 |(k,x)::r=>by
  have ih:=Km f g v r;rw[show DM f v ((k,x)::r)=(if k=f then (k,v)::r else (k,x)::DM f v r) from rfl];by_cases hk:k=f
  ·rw[if_pos hk];by_cases h:g=k
   ·have hb:(g==k)=true:=beq_iff_eq.mpr h;simp only[List.lookup,hb,if_pos (h.trans hk)]
   ·have hb:(g==k)=false:=beq_eq_false_iff_ne.mpr h;simp only[List.lookup,hb,if_neg (λ e:g=f=>h (e.trans hk.symm))]
  ·rw[if_neg hk];by_cases h:g=k
   ·have hb:(g==k)=true:=beq_iff_eq.mpr h;simp only[List.lookup,hb,if_neg (λ e:g=f=>hk (h.symm.trans e))]
   ·have hb:(g==k)=false:=beq_eq_false_iff_ne.mpr h;simp only[List.lookup,hb];exact ih
theorem JA (f:Str)(v:V):∀fs:List (Str×V),f∈(DM f v fs).map (·.1)/\∀g,g∈fs.map (·.1)->g∈(DM f v fs).map (·.1)
 |[]=>⟨by simp[DM],λ g h=>by simp at h⟩
 |(k,x)::r=>by
  obtain⟨i1,i2⟩:=JA f v r;rw[show DM f v ((k,x)::r)=(if k=f then (k,v)::r else (k,x)::DM f v r) from rfl];by_cases hk:k=f
  ·rw[if_pos hk];subst hk;exact⟨by simp,λ g h=>by simpa using h⟩
  ·rw[if_neg hk];refine⟨?_,λ g h=>?_⟩
   ·rw[zg];exact ze _ i1
   ·rw[zg] at h ⊢;rcases zl.mp h with e|e
    ·exact zl.mpr (.inl e)
    ·exact ze _ (i2 g e)
theorem Kn (f:Str)(v:V):∀fs:List (Str×V),(DM f v fs).length<=fs.length+1
 |[]=>by simp[DM]
 |(k,x)::r=>by
  have ih:=Kn f v r;rw[show DM f v ((k,x)::r)=(if k=f then (k,v)::r else (k,x)::DM f v r) from rfl];by_cases hk:k=f
  ·rw[if_pos hk,zq,zq];omega
  ·rw[if_neg hk,zq,zq];omega
theorem HK.some_of {v:V}{o:Option Value}(r:HK (some v) o):∃u,o=some u/\RelV v u:=by
 cases o with
 |none=>exact (show False from r).elim
 |some u=>exact⟨u,rfl,r⟩
theorem HK.none_of {o:Option Value}(r:HK none o):o=none:=by
 cases o with
 |none=>rfl
 |some u=>exact (show False from r).elim
theorem U1 {v:V}{u:Value}(r:RelV v u):PySem.W.handedIn u=true:=by
 cases v with
 |Az=>cases (show u=yH from r);rfl
 |bl b=>cases (show u=Value.bool b from r);rfl
 |int i=>obtain⟨t,e⟩:=(show ∃t,u=Value.int i t from r);cases e;rfl
 |str x=>obtain⟨t,e⟩:=(show ∃t,u=Value.str x t from r);cases e;rfl
 |dU b=>obtain⟨t,e⟩:=(show ∃t,u=Value.bytes b t from r);cases e;rfl
 |kE b=>obtain⟨t,e⟩:=(show ∃t,u=Value.float b t from r);cases e;rfl
 |ref a=>cases (show u=ya a from r);rfl
 |ty n=>cases (show u=Value.type n from r);rfl
section
variable {P:Program}{w:World}{H H':Hp}{h h':Heap}{a C dx:Addr}{fs bP:List (Str×V)}
theorem Oi (Av:Gd P w H h)(e:H a=some (.ins C dx fs)):∃mA,Rj h a dx C mA/\(∀f,HK (fs.lookup f) (mA f))/\PySem.Within mA (fs.map (·.1))/\fs.length<=1000/\H dx=some (.own a):=by
 obtain⟨d,z,ne,ob,mA,n,r,q⟩:=(show Bp P w H h a (.ins C dx fs) from Av a _ e);exact⟨mA,⟨ob,n,ne⟩,r,q,z,d⟩
end
structure U2 (K:za)(C:Addr):Prop where
 pg:xi K C Str.empty=true
 hd:PySem.W.hasDictIn K C=true
 po:PySem.W.plainOver K C=true
 sa:zi K (.ref C) "__setattr__" = some (some (.builtin "object.__setattr__"))
theorem U2.get {K:za}{C:Addr}(c:U2 K C)(f:Str):xi K C f=true:=c.pg
def I9 (K:za)(C:Addr)(f:Str):Prop:=zi K (.ref C) f=some none
theorem I9.lC {K:za}{C:Addr}{f:Str}(n:I9 K C f):PySem.W.takerIn K C f=some none:=by
 unfold PySem.W.takerIn;rw[show zi K (.ref C) f=some none from n];rfl
structure Meth (K:za)(C:Addr)(m:Str)(f:Addr):Prop where
 at_:zi K (.ref C) m=some (some (.ref f))
 fn:xj K (.ref f)=true
 kp:zQ K (.ref f)=true
section
variable {X:Cx}{pins:List (Addr×Obj)}{σ:St}{H:Hp}{s:Shared}{a C dx:Addr}{fs:List (Str×V)}{f:Str}{v:V}{A:Around}{E:Value->Shared->Prop}
theorem Rk {b:Bool}{Q:Value->Shared->Prop}(I:Inv X pins σ H s)(e:H a=some (.ins C dx fs))(c:U2 X.K C)(n:I9 X.K C f)(l:fs.lookup f=some v)
 (h:∀u s',Inv X pins σ H s'->RelV v u->Q u s'):wpAny (model X.prog X.w) A (getAttr (.ref a) f b) Q E s:=by
 obtain⟨mA,O,r,_,_,_⟩:=Oi I.Av e;obtain⟨u,hu,ru⟩:=HK.some_of (v:=v) (o:=mA f) (by rw[<-l];exact r f);exact get_map I.MH O (c.get f) c.hd n hu (U1 ru) (h u _ (I.tok _) ru)
theorem Lg {m:Str}{g:Addr}{pl:Sem Bool}{Q:Value×List Value->Shared->Prop}(I:Inv X pins σ H s)(e:H a=some (.ins C dx fs))(c:U2 X.K C)(k:Meth X.K C m g)(l:fs.lookup m=none)
 (h:Q (.ref g,[.ref a]) s):wpAny (model X.prog X.w) A (getMethod (.ref a) m pl) Q E s:=by
 obtain⟨mA,O,r,_,_,_⟩:=Oi I.Av e;have hn:mA m=none:=HK.none_of (by rw[<-l];exact r m);exact VP I.MH O (c.get m) k.at_ k.fn hn h
theorem Rl {y:V}{u:Value}{Q:Unit->Shared->Prop}(I:Inv X pins σ H s)(e:H a=some (.ins C dx fs))(c:U2 X.K C)(n:I9 X.K C f)(hl:fs.length<1000)(ry:RelV y u)
 (h:∀s',Inv X pins σ (upd H a (.ins C dx (DM f y fs))) s'->Q () s'):wpAny (model X.prog X.w) A (setAttr (.ref a) f u) Q E s:=by
 obtain⟨mA,O,r,wi,_,ho⟩:=Oi I.Av e;have hz:(fs.map (·.1)).length<=sizeLine:=by rw[zf,sizeLine_eq];omega
 refine Ym I.MH O c.sa c.po n.lC c.hd wi hz λ h' O' sb=>h _ ?_;have hd:∃o,h'.get? dx=some o:=let ⟨o,_,_,e',_⟩:=O'.ns;⟨o,e'⟩;refine I.write (x:=a) (e:=dx) (by rw[e];exact True.intro) (.inr ho) (λ b q hb z=>(sb.2 b hb).trans z) hd ?_;refine⟨by rw[Am O.ne];exact ho,?_,O.ne,O'.obj,_,O'.ns,λ g=>?_,λ g hg=>?_⟩
 ·have:=Kn f y fs;omega
 ·show HK ((DM f y fs).lookup g) (if g=f then some u else mA g);rw[Km];by_cases q:g=f
  ·rw[if_pos q,if_pos q];exact ry
  ·rw[if_neg q,if_neg q];exact r g
 ·by_cases q:g=f
  ·rw[q];exact (JA f y fs).1
  ·refine (JA f y fs).2 g (wi g λ z=>hg ?_);show (if g=f then some u else mA g)=none;rw[if_neg q];exact z
theorem Inv.made (I:Inv X pins σ H s):Inv X pins σ (upd (upd H s.heap.objs.size (.own (s.heap.objs.size+1))) (s.heap.objs.size+1) (.ins C s.heap.objs.size []))
 {s with heap:=(s.heap.push yw).push (yP C s.heap.objs.size)}:=by
 have e1:(s.heap.push yw).get? s.heap.objs.size=some yw:=zD s.heap rfl;have e2:((s.heap.push yw).push (yP C s.heap.objs.size)).get? (s.heap.objs.size+1)=some (yP C s.heap.objs.size):=by
  have:=zD (s.heap.push yw) (o:=yP C s.heap.objs.size) rfl;rwa[Heap.size_push] at this
 have e3:(s.heap.push yw).Ns s.heap.objs.size (λ _=>none):=⟨yw,#[],_,e1,rfl,(λ e he=>absurd he (by simp)),λ _=>rfl⟩;have I1:=I.laid (a:=s.heap.objs.size) (o:=.own (s.heap.objs.size+1)) (h':=s.heap.push yw) (t':=s.toks) (λ b u q=>zj _ q) (zu _) ⟨_,e1⟩;refine I1.laid (a:=s.heap.objs.size+1) (o:=.ins C s.heap.objs.size []) (t':=s.toks) (λ b u q=>zj _ q) (Nat.le_of_eq (Heap.size_push _ _)) ?_;have ne:s.heap.objs.size≠s.heap.objs.size+1:=zJ (Nat.lt_succ_self _);refine⟨by rw[Am ne,AH],zT _,ne,e2,λ _=>none,(Heap.Ns1.of_empty e3).at λ o q=>zj _ q,λ _=>True.intro,λ y hy=>absurd rfl hy⟩
theorem Yn {prog:Program}{w:World}{env:Env}{e:Expr}{f:Str}{pos:Pos}{s:Shared}{Q:Value->Shared->Prop}(hb:attributeBase e f env (eval e env)=eval e env)
 (h:wpAny (model prog w) A (eval e env) (λ o s₁=>wpAny (model prog w) A (getAttr o f true) Q E s₁) E s):wpAny (model prog w) A (eval (.Attribute e f pos) env) Q E s:=
 Attribute_any_ h (by rw[arm_eval_Attribute,hb])
end
noncomputable def oR (K:za)(ta:TE)(f:Str):TE:=λ σ H Q=>ta σ H λ x H1=>∃a C dx fs v,x=.ref a/\H1 a=some (.ins C dx fs)/\U2 K C/\I9 K C f/\fs.lookup f=some v/\Q v H1
noncomputable def oS (K:za)(ta tv:TE)(f:Str):TS:=λ D σ H=>tv σ H λ y H1=>ta σ H1 λ x H2=>∃a C dx fs,x=.ref a/\H2 a=some (.ins C dx fs)/\U2 K C/\I9 K C f/\fs.length<1000/\
 D.nx σ (upd H2 a (.ins C dx (DM f y fs)))
section
variable {X:Cx}{o e value:Expr}{f:Str}{pos pos' br:Pos}{ta tv:TE}
theorem eZ (he:PE X e ta)(hb:attributeBase e f X.env (eval e X.env)=eval e X.env):PE X (.Attribute e f pos) (oR X.K ta f):=by
 intro pins s σ H Q I h;refine Yn hb (Bc (he pins s σ H _ I h) λ u s1 ⟨x,H1,I1,rx,a,C,dx,fs,v,ex,ea,c,n,l,q⟩=>?_);subst ex;obtain rfl:u=ya a:=rx;exact Rk I1 ea c n l λ u' s2 I2 ru=>⟨v,H1,I2,ru,q⟩
theorem fA (ha:PE X o ta)(hv:PE X value tv)(hs:swapsWith value (some (.Attribute o f pos')) pos.line X.env=pure false):PS X (.Assign [.Attribute o f pos'] value pos) (oS X.K ta tv f):=by
 intro pins s σ H D I h;refine plainObj_wpAny_Assign_Attribute (Bc (hv pins s σ H _ I h) λ u s1 ⟨y,H1,I1,ry,q⟩=>Bc (ha pins s1 σ H1 _ I1 q) λ ov s2 ⟨x,H2,I2,rx,a,C,dx,fs,ex,ea,c,n,l,q2⟩=>?_) hs;subst ex;obtain rfl:ov=ya a:=rx;exact Rl I2 ea c n l ry λ s3 I3=>⟨σ,_,I3,q2⟩
end
structure By (k:Nat)(A:Around):Prop where
 hd:A.handled=none
 dp:A.depth+3*k+5<recursionLimit
 un:A.units+16*k+200<cLine
theorem By.mono {j k:Nat}{A:Around}(r:By k A)(h:j<=k):By j A:=⟨r.hd,by have:=r.dp;omega,by have:=r.un;omega⟩
theorem By.deeper {k:Nat}{A:Around}(r:By (k+1) A)(env:Env):By k (A.deeper env):=
 ⟨r.hd,by have:=r.dp;show A.depth+1+3*k+5<_;omega,by have:=r.un;show A.units+3+16*k+200<_;omega⟩
theorem Rm {A:Around}{C:Addr}{us:List Value}{kw:List (Str×Value)}:(A.under (.builtin "type.__call__" ⟨.ref C::us,kw⟩)).depth=A.depth+1:=by
 first|rfl|simp[Around.under,Code.weight,Code.isCreation,Code.isGuard,Code.isCaller,Code.frames,Code.isFrame,guardIds]
theorem Ro {A:Around}{C:Addr}{us:List Value}{kw:List (Str×Value)}:(A.under (.builtin "type.__call__" ⟨.ref C::us,kw⟩)).units=A.units+1:=by
 first|rfl|simp[Around.under,Code.cUnits,Code.frames,Code.isFrame]
theorem By.make {k:Nat}{A:Around}(r:By (k+1) A)(C:Addr)(us:List Value)(kw:List (Str×Value)):By k (A.under (.builtin "type.__call__" ⟨.ref C::us,kw⟩)):=
 ⟨r.hd,by have:=r.dp;rw[Rm];omega,by have:=r.un;rw[Ro];omega⟩
theorem By.depth {k:Nat}{A:Around}(r:By k A):A.depth<recursionLimit:=by have:=r.dp;omega
theorem By.units {k:Nat}{A:Around}(r:By k A):A.units+64<cLine:=by have:=r.un;omega
noncomputable def fB:TA:=λ _ H Q=>Q [] H
noncomputable def cM (ta:TE)(tr:TA):TA:=λ σ H Q=>ta σ H λ x H1=>tr σ H1 λ xs H2=>Q (x::xs) H2
section
variable {X:Cx}{e:Expr}{es:List Expr}{te:TE}{t:TA}{pos:Pos}
theorem BZ:PA X [] fB:=λ _ _ _ _ H Q I h=>Calls.spliced_nil ⟨[],H,I,.nil,h⟩
theorem Bf (ha:PE X e te)(hr:PA X es t)(hs:starEach (e::es) X.env=(false,eval e X.env)::starEach es X.env:=by rfl):PA X (e::es) (cM te t):=by
 intro pos pins s σ H Q I h;rw[hs];show wpAny _ _ (spliced ((false,eval e X.env)::backTo pos (starEach es X.env))) _ _ s;refine Calls.spliced_cons (Bc (ha pins s σ H _ I h) λ u s1 ⟨x,H1,I1,r1,q1⟩=>?_);exact Bc (hr pos pins s1 σ H1 _ I1 q1) λ us s2 ⟨xs,H2,I2,r2,q2⟩=>⟨x::xs,H2,I2,.cons r1 r2,q2⟩
noncomputable def oU (t:TA):TE:=λ σ H Q=>t σ H λ xs H1=>xs.length<=sizeLine/\∀p,H1 p=none->Q (.ref p) (upd H1 p (.tup xs))
noncomputable def oV (t:TA):TE:=λ σ H Q=>t σ H λ xs H1=>xs.length<=sizeLine/\∀p,H1 p=none->Q (.ref p) (upd H1 p (.lst xs))
theorem VR {x1}(h:PA X es t):PE X (.Tuple es x1 pos) (oU t):=by
 intro pins s σ H Q I hq;refine wpAny_Tuple_spliced (Bc (h pos pins s σ H _ I hq) λ us s1 ⟨xs,H1,I1,r,z,q⟩=>⟨by rw[<-r.length];exact z,?_⟩);have hf:H1 s1.heap.objs.size=none:=I1.Av.fresh (zu _);refine⟨.ref s1.heap.objs.size,upd H1 s1.heap.objs.size (.tup xs),I1.laid (t':=s1.toks) (λ b u e=>zj _ e) (zu _) ?_,rfl,q _ hf⟩;exact⟨z,us,r,⟨_,zD _ rfl,rfl,_,rfl⟩⟩
theorem Rp (h:PA X es t):PE X (.List es pos) (oV t):=by
 intro pins s σ H Q I hq;refine wpAny_List_spliced (Bc (h pos pins s σ H _ I hq) λ us s1 ⟨xs,H1,I1,r,z,q⟩=>⟨by rw[<-r.length];exact z,?_⟩);have hf:H1 s1.heap.objs.size=none:=I1.Av.fresh (zu _);refine⟨.ref s1.heap.objs.size,upd H1 s1.heap.objs.size (.lst xs),I1.laid (t':=s1.toks) (λ b u e=>zj _ e) (zu _) ?_,rfl,q _ hf⟩;exact⟨z,us,0,r,zD _ rfl⟩
end
noncomputable abbrev Sp:=List V->Hp->VK->XK->Prop
noncomputable abbrev Su:=List Env->Hp->Shared->XK->Value->Shared->Prop
structure Rq (P:Program)(w:World)(K:za)(mg:Str->Option Value)(base:Heap)(A:Around)(outer:List Env)(s:Shared)(H:Hp):Prop where
 frames:A.frames=some outer
 mod:Mod K mg base
 bs:∀b o,base.get? b=some o->s.heap.get? b=some o/\H b=none
 Y8:base.objs.size<=s.heap.objs.size
 IQ:s.heap.FunFrames base outer
 dX:∀b∈Kl outer,H b=none
 Av:Gd P w H s.heap
 bare:AllBare s.gens
def CE (outer:List Env)(P:Program)(w:World)(H:Hp)(s:Shared)(Q:VK)(u:Value)(s':Shared):Prop:=
 ∃v H',s'.os=s.os/\AllBare s'.gens/\Un (Kl outer) [] H H' s.heap s'.heap/\Gd P w H' s'.heap/\RelV v u/\Q v H'
def CR (CX:Su)(outer:List Env)(P:Program)(w:World)(H:Hp)(s:Shared)(Q:VK)(E:XK)(r:Result)(s':Shared):Prop:=
 match r with
 | .ok (.ret u)=>CE outer P w H s Q u s'
 | .ok _=>False
 | .error e=>CX outer H s E e s'
structure D5 (P:Program)(w:World)(K:za)(mg:Str->Option Value)(base:Heap)(CX:Su)(k:Nat)(f:Addr)(fd:FuncData)(ps:List Str)(sp:Sp):Prop where
 len:∀vs H Q E,sp vs H Q E->vs.length=ps.length
 run:∀(A:Around) (outer:List Env) (s:Shared) (H:Hp) (args:Args) (us:List Value) (vs:List V) (Q:VK) (E:XK),By k A->Rq P w K mg base A outer s H->BindsTo s fd args (ps.zip us)->Vals vs us->sp vs H Q E->
  codeAny (model P w) A (.call (.ref f) args) (CR CX outer P w H s Q E) s
theorem Rq.make {P:Program}{w:World}{K:za}{mg:Str->Option Value}{base:Heap}{A:Around}{outer:List Env}{s:Shared}{H:Hp}(e:Rq P w K mg base A outer s H)(C:Addr)(us:List Value)(kw:List (Str×Value)):
 Rq P w K mg base (A.under (.builtin "type.__call__" ⟨.ref C::us,kw⟩)) outer s H:=⟨by first|exact e.frames|(simpa [Around.under,Code.envs,Code.isFrame,pushEnvs] using e.frames),e.mod,e.bs,e.Y8,e.IQ,e.dX,e.Av,e.bare⟩
section
variable {X:Cx}{pins:List (Addr×Obj)}{σ:St}{H:Hp}{s s':Shared}
theorem Inv.lD (I:Inv X pins σ H s):Rq X.prog X.w X.K X.mg X.base X.A X.stack s H:=
 ⟨I.ok.frames,I.ok.mod,I.bs,yn I.ok.Y8 I.sz,I.stack,I.Of,I.Av,I.bare⟩
theorem Inv.after {Q:VK}{u:Value}(I:Inv X pins σ H s)(h:CE X.stack X.prog X.w H s Q u s'):EP X pins σ Q u s':=by
 obtain⟨v,H',os,bare,un,Av,r,q⟩:=h;obtain⟨hh,g,d,t,sZ⟩:=s';obtain rfl:sZ=s.os:=os;exact⟨v,H',I.call (h':=hh) (g':=g) (d':=d) (t':=t) (ch:=[]) un Av bare (λ b z=>absurd z (by simp)),r,q⟩
end
noncomputable def lE (sp:Sp)(bt:List V)(E:XK)(t:TA):TE:=λ σ H Q=>t σ H λ vs H1=>sp (vs++bt) H1 Q E
noncomputable def lF (C:Addr)(sp:Sp)(bt:List V)(E:XK)(t:TA):TE:=λ σ H Q=>t σ H λ vs H1=>∀x dx,H1 x=none->H1 dx=none->dx≠x->
 sp (.ref x::(vs++bt)) (upd (upd H1 dx (.own x)) x (.ins C dx [])) (λ v H2=>v=.Az/\Q (.ref x) H2) E
def Binds (K:za)(fd:FuncData)(ps:List Str)(ds:List Value):Prop:=
 ∀(s:Shared) (us:List Value),K.In s.heap->(us++ds).length=ps.length->BindsTo s fd ⟨us,[]⟩ (ps.zip (us++ds))
theorem Binds.all {K:za}{fd:FuncData}{ps:List Str}(h:∀us:List Value,us.length=ps.length->bindArgs fd ⟨us,[]⟩=pure (ps.zip us)):Binds K fd ps []:=λ s us _ hl=>by
 rw[yb] at hl ⊢;exact .of_eq (h us hl)
def Gr (CX:Su)(X:Cx)(E:XK):Prop:=∀(pins:List (Addr×Obj)) (σ:St) (H:Hp) (s:Shared) (e:Value) (s':Shared),Inv X pins σ H s->CX X.stack H s E e s'->X.xe e s'
section
variable {X:Cx}{CX:Su}{k:Nat}{f C:Addr}{fd:FuncData}{ps:List Str}{sp:Sp}{bt:List V}{ds:List Value}{E:XK}{x m:Str}{p pos apos:Pos}{e o:Expr}{es:List Expr}{ta:TE}{t:TA}
theorem Rr {pins:List (Addr×Obj)}{σ:St}{H:Hp}{s:Shared}{Q:VK}{us:List Value}{vs:List V}(F:D5 X.prog X.w X.K X.mg X.base CX k f fd ps sp)(hr:By k X.A)(hb:Binds X.K fd ps ds)(hd:Vals bt ds)(hx:Gr CX X E)
 (I:Inv X pins σ H s) (r:Vals vs us) (h:sp (vs++bt) H Q E):wpAny (model X.prog X.w) X.A (call (.ref f) us) (EP X pins σ Q) X.xe s:=by
 have r2:Vals (vs++bt) (us++ds):=r.append hd;have hl:(us++ds).length=ps.length:=by rw[<-r2.length];exact F.len _ _ _ _ h
 refine wpAny_call (codeAny_mono (F.run X.A X.stack s H ⟨us,[]⟩ (us++ds) (vs++bt) Q E hr I.lD (hb s us I.MH hl) r2 h) λ r s' hq=>?_);cases r with
 |error e=>exact hx pins σ H s e s' I hq
 |ok fl =>
  cases fl with
  |ret u=>exact I.after hq
  |next|brk|cont=>exact yR hq
theorem Sv (F:D5 X.prog X.w X.K X.mg X.base CX k f fd ps sp)(hr:By k X.A)(hg:Gl X x)(hm:X.mg x=some (.ref f))(hk:zQ X.K (.ref f)=true)(hb:Binds X.K fd ps ds)(hd:Vals bt ds)(hx:Gr CX X E)
 (ha:PA X (e::es) t) (aU:(x==("__debug__" : Str))=false:=by decide) (he:starEach (e::es) X.env=(false,eval e X.env)::starEach es X.env:=by rfl) (hpl:(backTo pos (starEach es X.env)).any (·.1)=false:=by rfl):
 PE X (.Call (.Name x p) (e::es) [] pos) (lE sp bt E t):=by
 intro pins s σ H Q I h;refine wpAny_Call_Name_kw (Og I hg hm ?_ aU);refine PySem.W.callWith_K (h₀:=X.base) I.ok.mod.jR hk (Bc (ha pos pins s σ H _ I h) λ us s1 ⟨vs,H1,I1,r,q⟩=>⟨I1.MH,?_⟩) he hpl;exact Rr F hr hb hd hx I1 r q
structure Mk (K:za)(C f:Addr):Prop where
 makes:PySem.W.makesIn K C=true
 init:zi K (.ref C) "__init__" = some (some (.ref f))
 fn:xj K (.ref f)=true
 kp:zQ K (.ref C)=true
theorem VS {pins:List (Addr×Obj)}{σ:St}{H:Hp}{s:Shared}{Q:VK}{us:List Value}{vs:List V}(M:Mk X.K C f)(F:D5 X.prog X.w X.K X.mg X.base CX k f fd ps sp)(hr:By (k+1) X.A)(hb:Binds X.K fd ps ds)(hd:Vals bt ds)
 (hx:Gr CX X E) (I:Inv X pins σ H s) (r:Vals vs us)
 (h:∀x dx,H x=none->H dx=none->dx≠x->sp (.ref x::(vs++bt)) (upd (upd H dx (.own x)) x (.ins C dx [])) (λ v H2=>v=.Az/\Q (.ref x) H2) E):
 wpAny (model X.prog X.w) X.A (call (.ref C) us) (EP X pins σ Q) X.xe s:=by
 have hq:=h (s.heap.objs.size+1) s.heap.objs.size (I.Av.fresh (Nat.le_succ _)) (I.Av.fresh (zu _)) (zJ (Nat.lt_succ_self _));have I2:=Inv.made (C:=C) I;have r2:Vals (V.ref (s.heap.objs.size+1)::(vs++bt)) (ya (s.heap.objs.size+1)::(us++ds)):=.cons rfl (r.append hd);have hl:(ya (s.heap.objs.size+1)::us++ds).length=ps.length:=by
  have e:=r2.length;rw[F.len _ _ _ _ hq] at e;exact e.symm
 refine wpAny_call (VQ (f:=f) I.MH M.makes M.init (beq_iff_eq.mp M.fn) (codeAny_mono (F.run _ X.stack _ _ ⟨ya (s.heap.objs.size+1)::us,[]⟩ (ya (s.heap.objs.size+1)::(us++ds)) _ _ E (hr.make C us [])
  (I2.lD.make C us []) (hb _ (ya (s.heap.objs.size+1)::us) I2.MH hl) r2 hq) λ r s' dn=>?_))
 cases r with
 |error e=>exact hx pins σ _ _ e s' I2 dn
 |ok fl =>
  cases fl with
  |ret u =>
   obtain⟨v,H',I3,rv,ev,q3⟩:=I2.after dn;subst ev;exact⟨rv,⟨V.ref (s.heap.objs.size+1),H',I3,rfl,q3⟩⟩
  |next|brk|cont=>exact yR dn
theorem Yo (M:Mk X.K C f)(F:D5 X.prog X.w X.K X.mg X.base CX k f fd ps sp)(hr:By (k+1) X.A)(hg:Gl X x)(hm:X.mg x=some (.ref C))(hb:Binds X.K fd ps ds)(hd:Vals bt ds)(hx:Gr CX X E)
 (ha:PA X (e::es) t) (aU:(x==("__debug__" : Str))=false:=by decide) (he:starEach (e::es) X.env=(false,eval e X.env)::starEach es X.env:=by rfl) (hpl:(backTo pos (starEach es X.env)).any (·.1)=false:=by rfl):
 PE X (.Call (.Name x p) (e::es) [] pos) (lF C sp bt E t):=by
 intro pins s σ H Q I h;refine wpAny_Call_Name_kw (Og I hg hm ?_ aU);refine PySem.W.callWith_K (h₀:=X.base) I.ok.mod.jR M.kp (Bc (ha pos pins s σ H _ I h) λ us s1 ⟨vs,H1,I1,r,q⟩=>⟨I1.MH,?_⟩) he hpl;exact VS M F hr hb hd hx I1 r q
end
def PK (X:Cx)(gy:List Keyword)(t:TA):Prop:=
 ∀(pos:Pos) (pins:List (Addr×Obj)) (s:Shared) (σ:St) (H:Hp) (Q:List V->Hp->Prop),Inv X pins σ H s->t σ H Q->wpAny (model X.prog X.w) X.A (evalAll ((backToKw pos (keywordEach gy X.env)).map (·.2))) (AP X pins σ Q) X.xe s
section
variable {X:Cx}{CX:Su}{k:Nat}{f C:Addr}{fd:FuncData}{ps ks:List Str}{sp:Sp}{E:XK}{x m:Str}{p pos apos lq:Pos}{e o:Expr}{es:List Expr}{gy:List Keyword}{te ta:TE}{t tk:TA}{nm:Option Str}
theorem fC:PK X [] fB:=λ _ _ _ _ H Q I h=>wpAny_evalAll_nil ⟨[],H,I,.nil,h⟩
theorem Yp (ha:PE X e te)(hr:PK X gy t):PK X (⟨nm,e,lq⟩::gy) (cM te t):=by
 intro pos pins s σ H Q I h;show wpAny _ _ (evalAll ((do let v <-eval e X.env;standAt pos;pure v)::(backToKw pos (keywordEach gy X.env)).map (·.2))) _ _ s;refine wpAny_evalAll_cons (wpAny_bind (Bc (ha pins s σ H _ I h) λ u s1 ⟨x,H1,I1,r1,q1⟩=>wpAny_bind (wpAny_standAt (wpAny_pure ?_))));exact Bc (hr pos pins s1 σ H1 _ I1 q1) λ us s2 ⟨xs,H2,I2,r2,q2⟩=>⟨x::xs,H2,I2,.cons r1 r2,q2⟩
variable {g:List Value->List Value->List Value}{gV:List V->List V->List V}
end
structure Ah (N P:List Str)(sc:Scope):Prop where
 kind:sc.kind=.function
 co:sc.isCoroutine=false
 gen:sc.isGenerator=false
 nd:N.Nodup
 pre:N.take P.length=P
 rC:∀x∈P,sc.names.lookup x=some .local\/sc.names.lookup x=some .cell
 fD:∀y∈sc.names,y.2≠.free
theorem Nf {kindOf:Str->Option NameKind}{x:Str}:∀ {binds:List (Str×Value)}{m:Str->Option Value},(∀v,(x,v)∉binds)->bindL kindOf binds m x=m x
 |[],_,_=>rfl
 |(n,v)::r,m,h=>by
  unfold bindL;rw[Nf λ w hw=>h w (ze _ hw)];split
  ·have:x≠n:=by rintro rfl;exact h v zd
   simp[this]
  ·rfl
theorem Ng {kindOf:Str->Option NameKind}{x:Str}:∀ {binds:List (Str×Value)}{m:Str->Option Value},(∀v,(x,v)∉binds)->bindC kindOf binds m x=m x
 |[],_,_=>rfl
 |(n,v)::r,m,h=>by
  unfold bindC;rw[Ng λ w hw=>h w (ze _ hw)];split
  ·rfl
  ·have:x≠n:=by rintro rfl;exact h v zd
   simp[this]
theorem Nh {kindOf:Str->Option NameKind}{x:Str}{v:Value}:∀ {P:List Str}{vs:List Value}{i:Nat}{m:Str->Option Value},P.Nodup->P[i]?=some x->vs[i]?=some v->kindOf x=some .local->
 bindL kindOf (P.zip vs) m x=some v
 |[],_,_,_,_,h,_,_|_::_,[],_,_,_,_,h,_=>by simp at h
 |p::P,w::vs,0,m,nd,h1,h2,hk=>by
  simp at h1 h2;subst h1;subst h2;show bindL kindOf ((p,w)::P.zip vs) m p=_;unfold bindL;rw[Nf λ v hv=>(yd.mp nd).1 (List.of_mem_zip hv).1,if_pos hk];simp
 |p::P,w::vs,i+1,m,nd,h1,h2,hk=>by
  show bindL kindOf ((p,w)::P.zip vs) m x=_;unfold bindL;exact Nh (i:=i) (yd.mp nd).2 (by simpa using h1) (by simpa using h2) hk
theorem Ni {kindOf:Str->Option NameKind}{x:Str}{v:Value}:∀ {P:List Str}{vs:List Value}{i:Nat}{m:Str->Option Value},P.Nodup->P[i]?=some x->vs[i]?=some v->kindOf x≠some .local->
 bindC kindOf (P.zip vs) m x=some v
 |[],_,_,_,_,h,_,_|_::_,[],_,_,_,_,h,_=>by simp at h
 |p::P,w::vs,0,m,nd,h1,h2,hk=>by
  simp at h1 h2;subst h1;subst h2;show bindC kindOf ((p,w)::P.zip vs) m p=_;unfold bindC;rw[Ng λ v hv=>(yd.mp nd).1 (List.of_mem_zip hv).1,if_neg hk];simp
 |p::P,w::vs,i+1,m,nd,h1,h2,hk=>by
  show bindC kindOf ((p,w)::P.zip vs) m x=_;unfold bindC;exact Ni (i:=i) (yd.mp nd).2 (by simpa using h1) (by simpa using h2) hk
noncomputable def start (N:List Str)(vs:List V):St:=vs.map some++zA (N.length-vs.length) none
noncomputable def KH (CX:Su)(P:Program)(w:World)(K:za)(mg:Str->Option Value)(base:Heap)(N:List Str)(qual:Str)(scope:Scope)(f:Addr)(cd:Value)(A:Around)(outer:List Env)(s:Shared)(H:Hp)(E:XK):Cx where
 prog:=P
 w:=w
 K:=K
 mg:=mg
 base:=base
 A:=A.deeper (envOfC qual scope s.heap.objs.size f cd)
 N:=N
 s₀:=s
 H₀:=H
 env:=envOfC qual scope s.heap.objs.size f cd
 outer:=outer
 stack:=envOfC qual scope s.heap.objs.size f cd::outer
 ex:=[]
 calm:=true
 fn:=λ _=>true
 pn:=[]
 xe:=λ e s'=>wpAny (model P w) (A.deeper (envOfC qual scope s.heap.objs.size f cd)) (leaving (envOfC qual scope s.heap.objs.size f cd) e) (λ _ gz=>CX outer H s E e gz) (λ e' gz=>CX outer H s E e' gz) s'
theorem Px {sc:Scope}{n:Nat}{x:Str}(h:sc.names.lookup x=some .cell):∃c,(cellsFrom n sc.names []).lookup x=some c:=by
 have q:=PySem.W.cellsFrom_some sc.names n [] (.inl h);exact yk.mp q
theorem U3 {CX:Su}{P:Program}{w:World}{K:za}{mg:Str->Option Value}{base:Heap}{N ps:List Str}{qual:Str}{scope:Scope}{f:Addr}{cd:Value}{A:Around}{outer:List Env}{s s1:Shared}{H:Hp}{E:XK}{us:List Value}{vs:List V}
 (S:Ah N ps scope) (hd:A.handled=none) (e0:Rq P w K mg base A outer s H) (hl:vs.length=ps.length) (r:Vals vs us)
 (x:InCallC s s.heap.objs.size (bindL (envOfC qual scope s.heap.objs.size f cd).kindOf (ps.zip us) λ _=>none) (cellsFrom (s.heap.objs.size+1) scope.names []) (bindC (envOfC qual scope s.heap.objs.size f cd).kindOf (ps.zip us) λ _=>none) s1):
 Inv (KH CX P w K mg base N qual scope f cd A outer s H E) [] (start N vs) H s1:=by
 have hpl:ps.length<=N.length:=by have:=congrArg List.length S.pre;rw[yI] at this;omega
 obtain⟨h1,tk,rfl,hk⟩:=x.done;have g7:∀b:Addr,b∉(KH CX P w K mg base N qual scope f cd A outer s H E).ex:=λ b z=>absurd (show b∈([]:List Addr) from z) (by simp);refine⟨⟨e0.mod,S.kind,rfl,rfl,zu _,λ y z c h1 h2=>?_,λ y hy=>?_,λ y c _ h=>?_,λ _=>hd,Around.frames_deeper e0.frames,.inr ⟨rfl,rfl⟩,λ b z=>absurd z (g7 b),e0.bs,e0.Y8,λ b _ _=>g7 b,λ b z=>absurd z (g7 b),e0.IQ,e0.dX⟩,
  rfl,e0.bare,Un.kept hk,⟨_,x.toInCall.ns,λ i y v h1 h2 h3=>?_⟩,λ y c h=>⟨_,x.cell y c h⟩,e0.Av.fresh (zu _),λ y c h=>?_,λ p hp=>absurd (show p∈([]:List (Addr×Obj)) from hp) (by simp),e0.Av.kept hk,?_⟩
 ·exact name_of_addr x.apart (xk h1) (xk h2)
 ·have hy:scope.names.lookup y=some .cell\/scope.names.lookup y=some .free:=hy;rcases hy with hy|hy
  ·exact Px hy
  ·exact absurd rfl (S.fD _ (xk hy))
 ·exact yi (x.above y c (xk h))
 ·have hi:i<vs.length:=by
   unfold start at h2;by_cases hi:i<vs.length
   ·exact hi
   ·rw[xh (by simpa using hi)] at h2;rw[List.getElem?_replicate] at h2;split at h2<;>cases h2
  have ha:vs[i]?=some v:=by
   unfold start at h2;rw[y2 (by simpa using hi),zG] at h2;cases e:vs[i]? with
   |none=>rw[e] at h2;cases h2
   |some a=>rw[e] at h2;cases h2;rfl
  obtain⟨u,hu,rv⟩:=r.get ha;have hp:ps[i]?=some y:=by
   rw[<-S.pre,List.getElem?_take_of_lt (by omega)];exact h1
  have rj:ps.Nodup:=by rw[<-S.pre];exact S.nd.sublist (List.take_sublist _ _)
  refine⟨u,rv,?_⟩;rcases S.rC y (zp hp) with k|k
  ·exact .inl ⟨k,Nh rj hp hu k⟩
  ·obtain⟨c,e⟩:=Px (n:=s.heap.objs.size+1) k;refine .inr ⟨.inl k,c,e,?_⟩;have q:=x.cell y c e;rw[Ni rj hp hu (by show scope.names.lookup y≠_;rw[k];decide)] at q;exact q
 ·exact e0.Av.fresh (yi (x.above y c (xk h)))
 ·unfold start;show _=N.length;rw[zB,zf,List.length_replicate];omega
theorem Sw {CX:Su}{P:Program}{w:World}{K:za}{mg:Str->Option Value}{base:Heap}{k:Nat}{f:Addr}{name qual:Str}{params:Arguments}{body:List Stmt}{scope:Scope}{dV kV doc pm B6 ct oc:Value}{an od:Option Addr}
 {Pj:Array (Option Value)} {N ps:List Str} {sp:Sp} (lk:K.lookup f=some ⟨oc,od,.func (zS name qual params body scope dV kV doc pm an B6 ct),Pj⟩) (bd:ye K B6 qual=true) (S:Ah N ps scope)
 (len:∀vs H Q E,sp vs H Q E->vs.length=ps.length)
 (bQ:∀(A:Around) (outer:List Env) (s:Shared) (H:Hp) (vs:List V) (Q:VK) (E:XK),By k (A.deeper (envOfC qual scope s.heap.objs.size f B6))->sp vs H Q E->
  ∃t,Sr (KH CX P w K mg base N qual scope f B6 A outer s H E) body t/\t {nx:=λ _ H'=>Q .Az H',rt:=Q} (start N vs) H):
 D5 P w K mg base CX (k+1) f (zS name qual params body scope dV kV doc pm an B6 ct) ps sp:=by
 refine⟨len,λ A outer s H args us vs Q E hr e0 hb r cq=>?_⟩;have hl:=len _ _ _ _ cq;have KX:K.In s.heap:=e0.mod.jR.keeps λ b o e=>(e0.bs b o e).1;have lim:s.heap.NoLimit:=e0.mod.nolimit.keeps λ b o e=>(e0.bs b o e).1;have g8:∀y∈ps.zip us,scope.names.lookup y.1=some .local\/(scope.names.lookup y.1=some .cell/\((cellsFrom (s.heap.objs.size+1) scope.names []).lookup y.1).isSome=true):=λ⟨n,v⟩ hy=>by
  rcases S.rC n (List.of_mem_zip hy).1 with q|q
  ·exact .inl q
  ·exact .inr ⟨q,PySem.W.cellsFrom_some _ _ _ (.inl q)⟩
 refine codeAny_call_function hr.depth (KX _ _ lk) rfl S.co S.gen rfl (PySem.W.codeRec_of KX bd) (hb _ _ _ _ ?_);refine wpAny_newFunctionEnv_cells S.kind g8 λ env he s1 x=>?_;subst he;refine⟨lim.keeps x.toInCall.keep,codeAny_func ?_⟩;obtain⟨t,ht,hq⟩:=bQ A outer s H vs Q E (hr.deeper _) cq;have I:Inv (KH CX P w K mg base N qual scope f B6 A outer s H E) [] (start N vs) H s1:=U3 S hr.hd e0 hl r x;refine wpAny_mono (ht [] s1 (start N vs) H _ I hq) (λ fl s' hs=>?_) λ e s' hs=>hs;have fin:∀ {σ':St} {H':Hp} {v:V} {u:Value},Inv (KH CX P w K mg base N qual scope f B6 A outer s H E) [] σ' H' s'->RelV v u->Q v H'->CE outer P w H s Q u s':=
  fun {σ' H' v u} J rv q=>⟨v,H',J.os,J.bare,J.base,J.Av,rv,q⟩
 cases fl with
 |ret u =>
  obtain⟨v,σ',H',J,rv,q⟩:=hs;exact fin J rv q
 |next =>
  obtain⟨σ',H',J,q⟩:=hs;exact fin (v:=V.Az) (u:=yH) J rfl q
 |brk =>
  obtain⟨_,_,_,q⟩:=hs;exact yR q
 |cont =>
  obtain⟨_,_,_,q⟩:=hs;exact yR q
section
variable {X:Cx}{x:Str}{p pos:Pos}{e:Expr}{es:List Expr}{t:TA}{id T:String}{r:List V->Hp->VK->Prop}
noncomputable def oW (r:List V->Hp->VK->Prop)(t:TA):TE:=λ σ H Q=>t σ H λ vs H1=>r vs H1 Q
theorem Py (hc:Ge X (.builtin id) r)(hg:Gl X x)(hm:X.mg x=none)(hv:bootBuiltins x=some (.builtin id))(ha:PA X (e::es) t)(hn:x ≠ "__name__" := by decide)(aU:(x==("__debug__" : Str))=false:=by decide)
 (he:starEach (e::es) X.env=(false,eval e X.env)::starEach es X.env:=by rfl) (hpl:(backTo pos (starEach es X.env)).any (·.1)=false:=by rfl):PE X (.Call (.Name x p) (e::es) [] pos) (oW r t):=by
 intro pins s σ H Q I h;refine wpAny_Call_Name_kw (Ew I hg hm hv ?_ hn aU);exact PyProof.Rows.callWith_builtin1 (Bc (ha pos pins s σ H _ I h) λ us s1 ⟨vs,H1,I1,r1,q1⟩=>hc pins s1 σ H1 vs us Q I1 r1 q1) he hpl
theorem Nj (hc:Ge X (.type T) r)(hg:Gl X x)(hm:X.mg x=none)(hv:bootBuiltins x=some (.type T))(ha:PA X (e::es) t)(hn:x ≠ "__name__" := by decide)(aU:(x==("__debug__" : Str))=false:=by decide)
 (he:starEach (e::es) X.env=(false,eval e X.env)::starEach es X.env:=by rfl) (hpl:(backTo pos (starEach es X.env)).any (·.1)=false:=by rfl):PE X (.Call (.Name x p) (e::es) [] pos) (oW r t):=by
 intro pins s σ H Q I h;refine wpAny_Call_Name_kw (Ew I hg hm hv ?_ hn aU);exact y6 (Bc (ha pos pins s σ H _ I h) λ us s1 ⟨vs,H1,I1,r1,q1⟩=>hc pins s1 σ H1 vs us Q I1 r1 q1) he hpl
end
end L2
namespace HT
open PySem PyProof.Rows
noncomputable def lexLt:List Int->List Int->Bool
 |[],[]=>false
 |[],_::_=>true
 |_::_,[]=>false
 |x::xs,y::ys=>if x=y then lexLt xs ys else decide (x<y)
theorem FC (x y:Int)(xs ys:List Int):lexLt (x::xs) (y::ys)=if x=y then lexLt xs ys else decide (x<y):=rfl
theorem Ex:lexLt [] []=false:=rfl
theorem Lh (y:Int)(ys:List Int):lexLt [] (y::ys)=true:=rfl
theorem Li (x:Int)(xs:List Int):lexLt (x::xs) []=false:=rfl
theorem VT (A:Around)(s:Shared)(a:Int)(t:Tok)(c:Int)(u:Tok):∃e,SeqAt.EqAt A s (.int a t) (.int c u) e/\(e=true↔a=c):=
 ⟨(a==c),SeqAt.EqAt.int_int a t c u,by simp⟩
theorem VU (A:Around)(s:Shared)(a:Int)(t:Tok)(c:Int)(u:Tok)(prog:Program)(w:World)(E:Value->Shared->Prop)(Q:Value->Shared->Prop)(h:Q (.bool (decide (a<c))) s):
 wpAny (model prog w) A (richCompare .Lt (.int a t) (.int c u)) Q E s:=
 (PyProof.Rows.lt_int h:wpAny (model prog w) A (compareOp .Lt (.int a t) (.int c u)) Q E s)
section
open PySem.SeqAt
open PySem.AutoSeq1 (wpAny_loadPart')
open PySem.MeetsSeq PySem.MeetsSeq2 PySem.MeetsSeq3
theorem MN (l b:Addr)(items aw:Array Value)(n n2:Nat)(dd lr:Option Addr)(sl ls:Array (Option Value))(ns ms:List Int)(hi:IntsAre items.toList ns)(hj:IntsAre aw.toList ms):
 Meets (Builtin.«tuple.__lt__» ⟨[.ref l,.ref b],[]⟩)
  (λ _ R s=>s.heap.get? l=some {cls:=.type "tuple",dict:=dd,data:=.seq items n,slots:=sl}/\s.heap.get? b=some {cls:=.type "tuple",dict:=lr,data:=.seq aw n2,slots:=ls}/\
   R (.ok (.ret (.bool (lexLt ns ms)))) s):=
 .of_wp λ prog w A R s h=>by
  obtain⟨hp,g,d,tk,os⟩:=s;obtain⟨hl,hb,h⟩:=h;have f2:=AutoSeq1.sub_tuple_tuple;have z1:items.size=ns.length:=by rw[<-hi.length];simp
  have z2:aw.size=ms.length:=by rw[<-hj.length];simp
  wp_walk using wpAny_loadPart' hl,wpAny_loadPart' hb,wpAny_forIn_list _ (λ rest b s'=>b.1=none/\s'=⟨hp,g,d,tk,os⟩/\∃(vs ws:List Value) (c3 gf:List Int),rest=vs.zip ws/\
   IntsAre vs c3/\IntsAre ws gf/\c3.length+aw.size=gf.length+items.size/\R (.ok (.ret (.bool (lexLt c3 gf)))) ⟨hp,g,d,tk,os⟩) _
  case turn =>
   rintro ⟨y,x⟩ rest b s' ⟨a5,rfl,vs,ws,c3,gf,hz,lu,jv,hlen,hR⟩;cases lu with
   |nil=>rw[List.zip_nil_left] at hz;cases hz
   |cons a t lw =>
    cases jv with
    |nil=>rw[List.zip_nil_right] at hz;cases hz
    |cons c u lx =>
     rw[List.zip_cons_cons] at hz;injection hz with tj g9
     injection tj with hy hx
     subst hy hx;rw[FC] at hR;simp only[zq] at hlen;obtain⟨e,he,h7⟩:=VT A.in1 ⟨hp,g,d,tk,os⟩ a t c u;refine wpAny_bind (he prog w _ _ ?_);cases e with
     |true =>
      rw[if_pos (h7.mp rfl)] at hR
      wp_walk
      exact⟨rfl,rfl,_,_,_,_,g9,lw,lx,by omega,hR⟩
     |false =>
      rw[if_neg (λ q=>absurd (h7.mpr q) zM)] at hR;have tm:=VU A.in1 ⟨hp,g,d,tk,os⟩ a t c u prog w
      wp_walk using tm
      exact⟨_,rfl,by simpa using hR⟩
  case fin =>
   rintro ⟨b1,b2⟩ s' ⟨a5,rfl,vs,ws,c3,gf,hz,lu,jv,hlen,hR⟩;simp only at a5;subst a5;have hv:lexLt c3 gf=decide (items.size<aw.size):=by
    cases lu with
    |nil =>
     cases jv with
     |nil =>
      simp only[List.length_nil] at hlen;rw[Ex];exact (decide_eq_false (by omega)).symm
     |cons c u hw =>
      simp only[List.length_nil,zq] at hlen;rw[Lh];exact (decide_eq_true (by omega)).symm
    |cons a t hv =>
     cases jv with
     |nil =>
      simp only[List.length_nil,zq] at hlen;rw[Li];exact (decide_eq_false (by omega)).symm
     |cons c u hw =>
      rw[List.zip_cons_cons] at hz;cases hz
   rw[hv] at hR
   wp_walk
   exact⟨_,rfl,by simpa [Builtin.Tuple.tupleCompareSizes] using hR⟩
  case h =>
   exact⟨rfl,rfl,items.toList,aw.toList,ns,ms,rfl,hi,hj,by omega,h⟩
end
section
variable {prog:Program}{w:World}{A:Around}{E:Value->Shared->Prop}{s:Shared}
theorem Ia {l b:Addr}{items aw:Array Value}{ns ms:List Int}{Q:Value->Shared->Prop}(hl:IsTup s.heap l items)(hb:IsTup s.heap b aw)(hi:IntsAre items.toList ns)(hj:IntsAre aw.toList ms)
 (hu:A.units<cLine) (h:Q (.bool (lexLt ns ms)) s):wpAny (model prog w) A (compareOp .Lt (.ref l) (.ref b)) Q E s:=by
 obtain⟨⟨cls,dd,data,sl⟩,ho,hc,n,hd⟩:=id hl;obtain⟨⟨tq,lr,data2,ls⟩,jw,rm,n2,hd2⟩:=id hb;simp only at hc hd rm hd2;subst hc hd rm hd2;exact richCompare_meets_room (op:=.Lt) ⟨_,ho,rfl⟩ ⟨_,jw,rfl⟩ PySem.F.slot_tuple_lt PySem.F.entry_tuple_lt (PySem.F.args_tuple_lt_2 _ _) (MN l b items aw n n2 dd lr sl ls ns ms hi hj)
  ⟨ho,jw,show Value.bool (lexLt ns ms)≠Value.notImplemented/\Q (.bool (lexLt ns ms)) s from ⟨(λ x=>nomatch x),h⟩⟩ hu
noncomputable def Lj (n d:Nat):Option Int->Nat
 |none=>d
 |some v=>if v<0 then (v+(n:Int)).toNat else min v.toNat n
theorem Pz (n d:Nat):Lj n d none=d:=rfl
theorem KY (n d k:Nat):Lj n d (some (k:Int))=min k n:=by
 show (if (k:Int)<0 then ((k:Int)+(n:Int)).toNat else min (k:Int).toNat n)=min k n;rw[if_neg (by omega),yt]
end
end HT
namespace L2
open PySem PySem.Spec PyProof.Rows
noncomputable abbrev TO:=St->Hp->(Option Int->Hp->Prop)->Prop
def PO (X:Cx)(e:Option Expr)(t:TO):Prop:=
 ∀(pins:List (Addr×Obj)) (s:Shared) (σ:St) (H:Hp) (Q:Option Int->Hp->Prop),Inv X pins σ H s->t σ H Q->
  wpAny (model X.prog X.w) X.A (evalPart e X.env) (λ u s'=>∃o H',Inv X pins σ H' s'/\IsPart u o/\Q o H') X.xe s
noncomputable def Yq:TO:=λ _ H Q=>Q none H
noncomputable def lG (t:TE):TO:=λ σ H Q=>t σ H λ x H1=>∃i,x=.int i/\Q (some i) H1
theorem intsAre_of {ns:List Int}:∀ {us:List Value},Vals (ns.map V.int) us->IntsAre us ns:=by
 induction ns with
 |nil=>intro us r;rw[List.map_nil] at r;cases r;exact .nil
 |cons n ns ih =>
  intro us r;rw[zg] at r;cases r with
  |cons r1 r2 =>
   obtain⟨t,e⟩:=r1;subst e;exact .cons n t (ih r2)
section
variable {X:Cx}{e:Expr}{te:TE}{lo hi:Option Expr}{tl th:TO}{pos p2:Pos}
theorem Yr:PO X none Yq:=by
 intro pins s σ H Q I h;rw[evalPart_none];exact wpAny_pure ⟨none,H,I,.none,h⟩
theorem Ys (h:PE X e te):PO X (some e) (lG te):=by
 intro pins s σ H Q I hw;rw[evalPart_some];refine Bc (h pins s σ H _ I hw) λ u s1 ⟨x,H1,I1,r1,q1⟩=>?_;obtain⟨i,rfl,q⟩:=q1;obtain⟨t,rfl⟩:=r1;exact⟨some i,H1,I1,.int i t,q⟩
def rD (X:Cx)(r:V->Option Int->Option Int->Hp->VK->Prop):Prop:=
 ∀(pins:List (Addr×Obj)) (s:Shared) (σ:St) (H:Hp) (x:V) (v vl vu:Value) (lo hi:Option Int) (sl:Addr) (Q:VK),Inv X pins σ H s->RelV x v->s.heap.IsSliceOf sl vl vu .none->IsPart vl lo->IsPart vu hi->r x lo hi H Q->
  ∃T id,typeLookup (.type T) "__getitem__" = pure (some (.builtin id))/\s.TypeIs v T/\wpAny (model X.prog X.w) X.A (getItem v (.ref sl)) (EP X pins σ Q) X.xe s
noncomputable def tD (r:V->Option Int->Option Int->Hp->VK->Prop)(te:TE)(tl th:TO):TE:=λ σ H Q=>te σ H λ x H1=>tl σ H1 λ l H2=>th σ H2 λ u H3=>r x l u H3 Q
theorem VV {r:V->Option Int->Option Int->Hp->VK->Prop}(hr:rD X r)(he:PE X e te)(hl:PO X lo tl)(hu:PO X hi th):PE X (.Subscript e (.Slice lo hi none p2) pos) (tD r te tl th):=by
 intro pins s σ H Q I h;refine Subscript_ (Bc (he pins s σ H _ I h) λ v s1 ⟨x,H1,I1,r1,q1⟩=>?_);refine wpAny_Slice (Bc (hl pins s1 σ H1 _ I1 q1) λ vl s2 ⟨l,H2,I2,pl,q2⟩=>Bc (hu pins s2 σ H2 _ I2 q2) λ vu s3 ⟨u,H3,I3,pu,q3⟩=>?_);rw[evalPart_none];refine wpAny_pure ?_;have I4:Inv X pins σ H3 {s3 with heap:=s3.heap.push {cls:=.type "slice",data:=.fields #[vl,vu,.none]} }:=I3.kept (t':=s3.toks) λ b ob q=>zj _ q;obtain⟨T,id,hT,ht,hg⟩:=hr pins {s3 with heap:=s3.heap.push {cls:=.type "slice",data:=.fields #[vl,vu,.none]} } σ H3 x v vl vu l u s3.heap.objs.size Q I4 r1 (Heap.IsSliceOf.new ..) pl pu q3;show wpAny (model X.prog X.w) X.A (subscriptTail e (.Slice lo hi none p2) v (.ref s3.heap.objs.size)) (EP X pins σ Q) X.xe {s3 with heap:=s3.heap.push {cls:=.type "slice",data:=.fields #[vl,vu,.none]} };exact tail_any (ops:=[.ref s3.heap.objs.size,v]) ht hT hg (by with_unfolding_all rfl)
noncomputable def VW (xs:List V)(lo hi:Option Int):List V:=(xs.drop (HT.Lj xs.length 0 lo)).take (HT.Lj xs.length xs.length hi-HT.Lj xs.length 0 lo)
theorem PB (xs:List V)(lo hi:Option Int):(VW xs lo hi).length<=xs.length:=by
 unfold VW;rw[yI,xl];omega
noncomputable def lH (K:za):R2:=λ x y H Q=>∃a b ns ms,x=.ref a/\y=.ref b/\Fx K H a (ns.map V.int)/\Fx K H b (ms.map V.int)/\Q (.bl (HT.lexLt ns ms)) H
theorem VX (hu:X.A.units<cLine):FA X (compareOp .Lt) (lH X.K):=by
 intro pins s σ H x y v u Q I rx ry h;obtain⟨a,b,ns,ms,rfl,rfl,ha,hb,q⟩:=h;cases rx;cases ry;obtain⟨aa,r1,p1,_⟩:=I.tuple ha;obtain⟨bE,r2,p2,_⟩:=I.tuple hb;have i1:IntsAre aa.toArray.toList ns:=intsAre_of r1;have i2:IntsAre bE.toArray.toList ms:=intsAre_of r2;exact HT.Ia p1 p2 i1 i2 hu ⟨.bl (HT.lexLt ns ms),H,I,rfl,q⟩
end
noncomputable def Y2 (n:Nat)(i:Int):Option Nat:=if 0<=i then (if i<n then some i.toNat else none) else if -(n:Int)<=i then some (i+n).toNat else none
noncomputable def Sx {α:Type}(xs:List α)(i:Int):Option α:=(Y2 xs.length i).bind λ j=>xs[j]?
theorem Sy {n:Nat}{i:Int}{j:Nat}(h:Y2 n i=some j):seqIndex? i n=some j/\j<n/\-(n:Int)<=i/\i<n:=by
 unfold Y2 at h;by_cases h0:0<=i
 ·rw[if_pos h0] at h;by_cases h1:i<n
  ·rw[if_pos h1] at h;have e:i.toNat=j:=zH h;exact⟨by rw[seqIndex_of h0 h1,e],by omega,by omega,h1⟩
  ·rw[if_neg h1] at h;cases h
 ·rw[if_neg h0] at h;by_cases h1 : -(n:Int)<=i
  ·rw[if_pos h1] at h;have e:(i+n).toNat=j:=zH h;exact⟨by rw[seqIndex_neg (by omega) h1,e],by omega,h1,by omega⟩
  ·rw[if_neg h1] at h;cases h
theorem Sz {α:Type}{xs:List α}{i:Int}{v:α}(h:Sx xs i=some v):∃j,seqIndex? i xs.length=some j/\xs[j]?=some v/\j<xs.length/\-(xs.length:Int)<=i/\i<xs.length:=by
 unfold Sx at h;cases e:Y2 xs.length i with
 |none=>rw[e] at h;cases h
 |some j =>
  rw[e] at h;obtain⟨h1,h2,h3,h4⟩:=Sy e;exact⟨j,h1,h,h2,h3,h4⟩
def Oj (b:Expr):Prop:=∀o i,subscripted b false o i=operate [o,i] (getItem o i)
def Yt (X:Cx)(r:R2):Prop:=
 ∀(value slice:Expr) (pins:List (Addr×Obj)) (s:Shared) (σ:St) (H:Hp) (x y:V) (v u:Value) (Q:VK),Inv X pins σ H s->RelV x v->RelV y u->r x y H Q->
  subscripted slice false v u=operate [v,u] (getItem v u)->wpAny (model X.prog X.w) X.A (subscriptTail value slice v u) (EP X pins σ Q) X.xe s
def oX (X:Cx)(id:String)(r:V->List V->Hp->VK->Prop):Prop:=
 ∀(pins:List (Addr×Obj)) (s:Shared) (σ:St) (H:Hp) (x:V) (xs:List V) (v:Value) (us:List Value) (Q:VK),Inv X pins σ H s->RelV x v->Vals xs us->r x xs H Q->
  wpAny (model X.prog X.w) X.A (call (.builtin id) (v::us)) (EP X pins σ Q) X.xe s
section
variable {X:Cx}{a b:Expr}{ta tb:TE}{pos:Pos}
theorem Yt.or {r r':R2}(h:Yt X r)(h':Yt X r'):Yt X (λ x y H Q=>r x y H Q\/r' x y H Q):=by
 intro value slice pins s σ H x y v u Q I rx ry q hs;rcases q with q|q
 ·exact h value slice pins s σ H x y v u Q I rx ry q hs
 ·exact h' value slice pins s σ H x y v u Q I rx ry q hs
theorem lI {r:R2}(hr:Yt X r)(ha:PE X a ta)(hb:PE X b tb)(hs:Oj b):PE X (.Subscript a b pos) (kW r ta tb):=by
 intro pins s σ H Q I h;exact Subscript_ (eS ha hb I h λ v u s2 x y H2 I2 rx ry q=>hr a b pins s2 σ H2 x y v u Q I2 rx ry q (hs _ _))
noncomputable def fE (K:za):R2:=λ x y H Q=>∃p xs i v,x=.ref p/\y=.int i/\Dg K H p xs/\Sx xs i=some v/\Q v H
noncomputable def fF (K:za):R2:=λ x y H Q=>∃p xs i v,x=.ref p/\y=.int i/\Fx K H p xs/\Sx xs i=some v/\Q v H
theorem Yu:Yt X (fE X.K):=by
 intro value slice pins s σ H x y v u Q I rx ry h hs;obtain⟨p,xs,i,z,rfl,rfl,hq,he,q⟩:=h;cases rx;obtain⟨t,rfl⟩:=ry;obtain⟨aa,r,pl,hz⟩:=I.list hq;obtain⟨j,h1,h2,h3,h4,h5⟩:=Sz he;obtain⟨w,ew,bu⟩:=r.get h2;have hl:=r.length;have hn:=Jz;have fin:EP X pins σ Q w s:=⟨z,H,I,bu,q⟩;by_cases h0:0<=i
 ·have hj:i.toNat=j:=by
   rw[seqIndex_of h0 h5] at h1;exact zH h1
  exact item_listR pl.isList h0 (by omega) (by rw[hj];simpa using ew) fin hs
 ·have hj:(i+(aa.toArray.size:Int)).toNat=j:=by
   rw[seqIndex_neg (by omega) h4] at h1;rw[zh,<-hl];exact zH h1
  exact subscriptTail_builtinR (x:=w) pl.isList.typeIs slot_list_getitem.lookup
   (wpAny_getItem_list_neg (Q:=λ r s'=>r=w/\EP X pins σ Q r s') pl.isList (by omega) (by rw[zh]<;>omega) (by omega) (by rw[hj];simpa using ew) ⟨rfl,fin⟩) hs
theorem fG:Yt X (fF X.K):=by
 intro value slice pins s σ H x y v u Q I rx ry h hs;obtain⟨p,xs,i,z,rfl,rfl,hq,he,q⟩:=h;cases rx;obtain⟨t,rfl⟩:=ry;obtain⟨aa,r,pl,hz⟩:=I.tuple hq;obtain⟨j,h1,h2,h3,h4,h5⟩:=Sz he;obtain⟨w,ew,bu⟩:=r.get h2;have hl:=r.length;have hn:=Jz;have fin:EP X pins σ Q w s:=⟨z,H,I,bu,q⟩;exact subscriptTail_builtinR (x:=w) pl.typeIs slot_tuple_getitem.lookup
  (getItem_tuple (j:=j) (Q:=λ r s'=>r=w/\EP X pins σ Q r s') pl (by omega) (by omega) (by rw[zh,<-hl];exact h1) (by simpa using ew) ⟨rfl,fin⟩) hs
theorem Rt (aa:List Value)(n j:Nat)(u:Value):yv (·.setIfInBounds j u) {cls:=.type "list",data:=.seq aa.toArray n}={cls:=.type "list",data:=.seq (aa.set j u).toArray n}:=by
 simp[yv]
theorem Inv.lst {pins:List (Addr×Obj)}{σ:St}{H:Hp}{s:Shared}{p:Addr}{xs:List V}(I:Inv X pins σ H s)(h:H p=some (.lst xs)):
 ∃(aa:List Value) (n:Nat),Vals xs aa/\s.heap.get? p=some {cls:=.type "list",data:=.seq aa.toArray n}/\xs.length<=sizeLine:=by
 obtain⟨z,aa,n,r,e⟩:=I.Av p _ h;exact⟨aa,n,r,e,z⟩
theorem Inv.fH {pins:List (Addr×Obj)}{σ:St}{H:Hp}{s:Shared}{p:Addr}{xs ys:List V}{aa its':List Value}{n n':Nat}{f:Obj->Obj}(I:Inv X pins σ H s)(h:H p=some (.lst xs))
 (ho:s.heap.get? p=some {cls:=.type "list",data:=.seq aa.toArray n}) (hf:f {cls:=.type "list",data:=.seq aa.toArray n}={cls:=.type "list",data:=.seq its'.toArray n' }) (r:Vals ys its') (hz:ys.length<=sizeLine) (t:Nat):
 Inv X pins σ (upd H p (.lst ys)) {s with heap:=s.heap.update p f,toks:=t}:=by
 have e:(s.heap.update p f).get? p=some {cls:=.type "list",data:=.seq its'.toArray n' }:=by
  rw[yJ f ho (by rw[hf]<;>rfl),hf]
 refine I.write (x:=p) (e:=p) (by rw[h];trivial) (.inl rfl) (λ b u hb q=>(yZ _ _ (yh hb)).trans q) ⟨_,e⟩ ?_;exact⟨hz,its',n',r,e⟩
def lJ:V->V->V->Hp->(Hp->Prop)->Prop:=λ o i v H Q=>∃p xs k j,o=.ref p/\i=.int k/\H p=some (.lst xs)/\Y2 xs.length k=some j/\Q (upd H p (.lst (xs.set j v)))
theorem set_list:kR X lJ:=by
 intro pins s σ H o i v ov iv u Q I ro ri rv h;obtain⟨p,xs,k,j,rfl,rfl,hp,hj,q⟩:=h;cases ro;obtain⟨t,rfl⟩:=ri;obtain⟨aa,n,r,ho,hz⟩:=I.lst hp;obtain⟨h1,h2,h3,h4⟩:=Sy hj;have hl:=r.length;have hn:=Jz;have I':Inv X pins σ (upd H p (.lst (xs.set j v))) {s with heap:=s.heap.update p (yv (·.setIfInBounds j u))}:=
  I.fH hp ho (Rt aa n j u) (r.set rv j) (by rw[yE];exact hz) s.toks
 by_cases h0:0<=k
 ·have hk:k.toNat=j:=by
   rw[seqIndex_of h0 h4] at h1;exact zH h1
  exact PySem.W.ki_setAt ho h0 (by omega) (by rw[zh,<-hl];exact h4) (by rw[hk];exact⟨_,I',q⟩)
 ·have hk:(k+(aa.toArray.size:Int)).toNat=j:=by
   rw[seqIndex_neg (by omega) h3] at h1;rw[zh,<-hl];exact zH h1
  exact PySem.W.ki_setBack ho (by omega) (by rw[zh,<-hl];exact h3) (by omega) (by rw[hk];exact⟨_,I',q⟩)
theorem Ol (lo hi:Option Int)(n:Nat):(sliceBounds lo hi none n).1=((HT.Lj n 0 lo:Nat):Int)/\(sliceBounds lo hi none n).2.1=((HT.Lj n n hi:Nat):Int)/\(sliceBounds lo hi none n).2.2=1:=by
 refine⟨?_,?_,rfl⟩
 ·cases lo with
  |none=>simp[sliceBounds,HT.Lj]
  |some i =>
   simp only[sliceBounds,HT.Lj,Option.getD_none,show (1:Int) > 0 by decide,if_true];by_cases h:i<0
   ·simp only[h,if_true]<;>omega
   ·simp only[h,if_false]<;>omega
 ·cases hi with
  |none=>simp[sliceBounds,HT.Lj]
  |some i =>
   simp only[sliceBounds,HT.Lj,Option.getD_none,show (1:Int) > 0 by decide,if_true];by_cases h:i<0
   ·simp only[h,if_true]<;>omega
   ·simp only[h,if_false]<;>omega
theorem MO (aa:List Value)(lo hi:Option Int):slicePick aa.toArray lo hi none=((aa.drop (HT.Lj aa.length 0 lo)).take (HT.Lj aa.length aa.length hi-HT.Lj aa.length 0 lo)).toArray:=by
 obtain⟨h1,h2,h3⟩:=Ol lo hi aa.toArray.size;unfold slicePick;rw[h1,h2,h3];simp only[sliceRange_one,pick_run,zh]<;>rfl
def oY (K:za):V->Option Int->Option Int->Hp->VK->Prop:=λ x lo hi H Q=>∃a xs,x=.ref a/\Dg K H a xs/\∀p,H p=none->Q (.ref p) (upd H p (.lst (VW xs lo hi)))
theorem Yv:rD X (oY X.K):=by
 intro pins s σ H x v vl vu lo hi sl Q I rx hs pl pu h;obtain⟨a,xs,rfl,hx,q⟩:=h;cases rx;obtain⟨aa,r,ht,hz⟩:=I.list hx;have hlen:=r.length;refine⟨"list",_,slot_list_getitem.lookup,ht.isList.typeIs,?_⟩;refine wpAny_getItem_list_slice ht.isList hs pl pu .none (by simp) ?_ (by rw[zh]<;>omega);rw[MO,<-hlen];refine⟨.ref s.heap.objs.size,_,I.laid (t':=s.toks) (o:=.lst (VW xs lo hi)) (λ b ob q=>zj _ q) (zu _) ?_,rfl,q _ (I.Av.fresh (zu _))⟩;exact⟨yn (PB xs lo hi) hz,_,0,(r.drop (HT.Lj xs.length 0 lo)).take (HT.Lj xs.length xs.length hi-HT.Lj xs.length 0 lo),zD _ rfl⟩
noncomputable def IU:V->Bool
 | .Az| .bl _| .int _| .str _=>true
 |_=>false
noncomputable def cN:V->V->Bool
 | .Az,.Az=>true
 | .bl a,.bl b=>a==b
 | .bl a,.int b=>(if a then 1 else 0)==b
 | .int a,.bl b=>a==(if b then 1 else 0)
 | .int a,.int b| .str a,.str b=>a==b
 |_,_=>false
theorem fI {A:Around}{s:Shared}{y x:V}{u v:Value}(ry:RelV y u)(rx:RelV x v)(fy:IU y=true)(fx:IU x=true):SeqAt.EqAt A s u v (cN y x):=by
 cases y with
 |Az =>
  cases ry;cases x with
  |Az=>cases rx;exact SeqAt.EqAt.same _
  |bl b=>cases rx;exact SeqAt.EqAt.none_bool b
  |int b=>obtain⟨t,rfl⟩:=rx;exact SeqAt.EqAt.none_int b t
  |str b=>obtain⟨t,rfl⟩:=rx;exact SeqAt.EqAt.none_str b t
  |_=>exact absurd (show false=true from fx) zM
 |bl a =>
  cases ry;cases x with
  |Az=>cases rx;exact SeqAt.EqAt.bool_none a
  |bl b=>cases rx;exact SeqAt.EqAt.bool_bool a b
  |int b=>obtain⟨t,rfl⟩:=rx;exact SeqAt.EqAt.bool_int a b t
  |str b=>obtain⟨t,rfl⟩:=rx;exact SeqAt.EqAt.bool_str a b t
  |_=>exact absurd (show false=true from fx) zM
 |int a =>
  obtain⟨t',rfl⟩:=ry;cases x with
  |Az=>cases rx;exact SeqAt.EqAt.int_none a t'
  |bl b=>cases rx;exact SeqAt.EqAt.int_bool a t' b
  |int b=>obtain⟨t,rfl⟩:=rx;exact SeqAt.EqAt.int_int a t' b t
  |str b=>obtain⟨t,rfl⟩:=rx;exact SeqAt.EqAt.int_str a t' b t
  |_=>exact absurd (show false=true from fx) zM
 |str a =>
  obtain⟨t',rfl⟩:=ry;cases x with
  |Az=>cases rx;exact SeqAt.EqAt.str_none a t'
  |bl b=>cases rx;exact SeqAt.EqAt.str_bool a t' b
  |int b=>obtain⟨t,rfl⟩:=rx;exact SeqAt.EqAt.str_int a t' b t
  |str b=>obtain⟨t,rfl⟩:=rx;exact SeqAt.EqAt.str_str a t' b t
  |_=>exact absurd (show false=true from fx) zM
 |_=>exact absurd (show false=true from fy) zM
noncomputable def Ru (x:V)(u:Value):Bool:=match u with
 | .none=>cN .Az x
 | .bool b=>cN (.bl b) x
 | .int i _=>cN (.int i) x
 | .str z _=>cN (.str z) x
 |_=>false
theorem VY {x y:V}{u:Value}(r:RelV y u)(f:IU y=true):Ru x u=cN y x:=by
 cases y with
 |Az|bl b=>cases r;rfl
 |int i|str z=>obtain⟨t,rfl⟩:=r;rfl
 |_=>exact absurd (show false=true from f) zM
theorem IV {x:V}:∀ {xs:List V}{us:List Value},Vals xs us->xs.all IU=true->us.any (Ru x)=xs.any λ y=>cN y x
 |_,_,.nil,_=>rfl
 |y::xs,u::us,.cons r t,f=>by
  rw[List.all_cons,zW] at f;rw[xg,xg,VY r f.1,IV t f.2]
theorem Gs {A:Around}{s:Shared}{x:V}{v:Value}(rx:RelV x v)(fx:IU x=true):∀ {xs:List V}{us:List Value},Vals xs us->xs.all IU=true->∀u∈us,SeqAt.EqAt A s u v (Ru x u)
 |_,_,.nil,_=>λ u hu=>by cases hu
 |y::xs,u::us,.cons r t,f=>λ u' hu=>by
  rw[List.all_cons,zW] at f;rcases zl.mp hu with rfl|hu
  ·rw[VY r f.1];exact fI r rx f.1 fx
  ·exact Gs rx fx t f.2 u' hu
noncomputable def nM (x:V)(xs:List V):Bool:=xs.any λ y=>cN y x
noncomputable def nN (K:za)(neg:Bool):R2:=λ x y H Q=>∃p xs,y=.ref p/\(Dg K H p xs\/Fx K H p xs)/\IU x=true/\xs.all IU=true/\Q (.bl (if neg then !nM x xs else nM x xs)) H
theorem U4:FA X (compareOp .In) (nN X.K false):=by
 intro pins s σ H x y v u Q I rx ry h;obtain⟨p,xs,rfl,hq,fx,fs,q⟩:=h;cases ry;rcases hq with hq|hq
 ·obtain⟨aa,r,pl,hz⟩:=I.list hq;refine SeqAt.in_listAt (Ru x) pl.isList (λ w hw=>Gs rx fx r fs w (by simpa using hw)) ⟨.bl _,H,I,rfl,?_⟩;rw[show aa.toArray.any (Ru x)=aa.any (Ru x) by simp,IV r fs];exact q
 ·obtain⟨aa,r,pl,hz⟩:=I.tuple hq;refine SeqAt.in_tupleAt (Ru x) pl (λ w hw=>Gs rx fx r fs w (by simpa using hw)) ⟨.bl _,H,I,rfl,?_⟩;rw[show aa.toArray.any (Ru x)=aa.any (Ru x) by simp,IV r fs];exact q
theorem Om:FA X (compareOp .NotIn) (nN X.K true):=by
 intro pins s σ H x y v u Q I rx ry h;obtain⟨p,xs,rfl,hq,fx,fs,q⟩:=h;cases ry;rcases hq with hq|hq
 ·obtain⟨aa,r,pl,hz⟩:=I.list hq;refine SeqAt.notIn_listAt (Ru x) pl.isList (λ w hw=>Gs rx fx r fs w (by simpa using hw)) ⟨.bl _,H,I,rfl,?_⟩;rw[show aa.toArray.any (Ru x)=aa.any (Ru x) by simp,IV r fs];exact q
 ·obtain⟨aa,r,pl,hz⟩:=I.tuple hq;refine SeqAt.notIn_tupleAt (Ru x) pl (λ w hw=>Gs rx fx r fs w (by simpa using hw)) ⟨.bl _,H,I,rfl,?_⟩;rw[show aa.toArray.any (Ru x)=aa.any (Ru x) by simp,IV r fs];exact q
theorem Oo:Ge X (.builtin "len") (λ xs H Q=>∃p ys,xs=[.ref p]/\(Dg X.K H p ys\/Fx X.K H p ys)/\Q (.int ys.length) H):=by
 intro pins s σ H xs us Q I r h;obtain⟨p,ys,rfl,hq,q⟩:=h;obtain⟨u,rfl,rx⟩:=vals1 r;cases rx;have hn:=Jz;rcases hq with hq|hq
 ·obtain⟨aa,r',pl,hz⟩:=I.list hq;have hlen:=r'.length;exact Calls.call_len_list pl.isList (by simp only[zh]<;>omega) ⟨.int ys.length,H,I.tok _,⟨s.toks+1,by rw[zh,hlen]⟩,q⟩
 ·obtain⟨aa,r',pl,hz⟩:=I.tuple hq;have hlen:=r'.length;exact len_tuple pl (by simp only[zh]<;>omega) ⟨.int ys.length,H,I.tok _,⟨s.toks+1,by rw[zh,hlen]⟩,q⟩
theorem Oq:Ge X (.type "list") (λ xs H Q=>∃p ys,xs=[.ref p]/\(Dg X.K H p ys\/Fx X.K H p ys)/\∀l,H l=none->Q (.ref l) (upd H l (.lst ys))):=by
 intro pins s σ H xs us Q I r h;obtain⟨p,ys,rfl,hq,q⟩:=h;obtain⟨u,rfl,rx⟩:=vals1 r;cases rx;have fin:∀(aa:List Value),Vals ys aa->ys.length<=sizeLine->∀(h':Heap) (c':Nat),(∀b o',s.heap.get? b=some o'->h'.get? b=some o')->
  h'.get? s.heap.objs.size=some {cls:=.type "list",dict:=none,data:=.seq aa.toArray c',slots:=#[]}->EP X pins σ Q (.ref s.heap.objs.size) {s with heap:=h' }:=λ aa r' hz h' c' kp e =>
  ⟨.ref s.heap.objs.size,_,I.laid (t':=s.toks) kp (zu _) (show Bp X.prog X.w _ h' _ (.lst ys) from ⟨hz,aa,c',r',e⟩),rfl,q _ (I.Av.fresh (zu _))⟩
 rcases hq with hq|hq
 ·obtain⟨aa,r',pl,hz⟩:=I.list hq;have hlen:=r'.length;obtain⟨o,ho,hc,n,hd⟩:=pl.isList;exact call_list_seq p (.inl rfl) ho hc hd (λ h' c' kp e=>fin aa r' hz h' c' kp e) (by simp only[zh]<;>omega)
 ·obtain⟨aa,r',pl,hz⟩:=I.tuple hq;have hlen:=r'.length;obtain⟨o,ho,hc,n,hd⟩:=pl;exact call_list_seq p (.inr rfl) ho hc hd (λ h' c' kp e=>fin aa r' hz h' c' kp e) (by simp only[zh]<;>omega)
theorem MQ:Ge X (.type "tuple") (λ xs H Q=>∃p ys,xs=[.ref p]/\((Dg X.K H p ys/\∀l,H l=none->Q (.ref l) (upd H l (.tup ys)))\/(Fx X.K H p ys/\Q (.ref p) H))):=by
 intro pins s σ H xs us Q I r h;obtain⟨p,ys,rfl,h⟩:=h;obtain⟨u,rfl,rx⟩:=vals1 r;cases rx;rcases h with ⟨hq,q⟩|⟨hq,q⟩
 ·obtain⟨aa,r',pl,hz⟩:=I.list hq;have hlen:=r'.length;refine call_tuple_list pl.isList (λ h' kp=>?_) (by simp only[zh]<;>omega);have I1:Inv X pins σ H {s with heap:=h' }:=I.kept (t':=s.toks) kp;have I2:Inv X pins σ (upd H h'.objs.size (.tup ys)) {s with heap:=h'.push {cls:=.type "tuple",data:=.seq aa.toArray} }:=
   I1.laid (t':=s.toks) (λ b o e=>zj _ e) (zu _) (show Bp X.prog X.w _ _ _ (.tup ys) from ⟨hz,aa,r',IsTup.new _ _⟩)
  exact⟨.ref h'.objs.size,_,I2,rfl,q _ (I1.Av.fresh (zu _))⟩
 ·obtain⟨aa,r',pl,hz⟩:=I.tuple hq;exact call_tuple_same pl ⟨.ref p,H,I,rfl,q⟩
def oZ (K:za)(T:String)(x:V)(H:Hp):Prop:=match x with
 | .str _=>T = "str"
 | .int _=>T = "int"
 | .ref p=>(T = "list" /\ ∃xs,Dg K H p xs)\/(T = "tuple" /\ ∃o,K.lookup p=some o/\o.cls=.type "tuple" /\ o.dict=none) \/
  (T = "dict" /\ ((∃kvs,H p=some (.dK kvs))\/∃kvs,H p=some (.dT kvs)))\/(T = "set" /\ ∃S n,H p=some (.set S n))
 |_=>False
theorem VZ {pins:List (Addr×Obj)}{σ:St}{H:Hp}{s:Shared}{T:String}{x:V}{v:Value}(I:Inv X pins σ H s)(r:RelV x v)(ty:oZ X.K T x H):
 s.TypeIs v T/\∀a,v=.ref a->∃ob,s.heap.get? a=some ob/\ob.dict=none:=by
 cases x with
 |str z =>
  obtain⟨t,rfl⟩:=r;cases (show T = "str" from ty);exact⟨typeIs_str s z t,λ _ e=>nomatch e⟩
 |int i =>
  obtain⟨t,rfl⟩:=r;cases (show T = "int" from ty);exact⟨typeIs_int s i t,λ _ e=>nomatch e⟩
 |ref p =>
  cases r;rcases ty with ⟨rfl,xs,hq⟩|⟨rfl,o,hk,hc,hd⟩|⟨rfl,hk⟩|⟨rfl,S,n,hk⟩
  ·obtain⟨aa,_,pl,_⟩:=I.list hq;refine⟨pl.isList.typeIs,λ a e=>?_⟩;cases e;obtain⟨o,n,e,c,hd,_⟩:=pl;exact⟨o,e,hd⟩
  ·refine⟨⟨o,I.MH p o hk,hc⟩,λ a e=>?_⟩;cases e;exact⟨o,I.MH _ o hk,hd⟩
  ·have z:∃o,s.heap.get? p=some o/\o.ExactDict:=by
    rcases hk with ⟨kvs,hk⟩|⟨kvs,hk⟩
    ·obtain⟨_,_,_,_,o,_,_,e,ex,_⟩:=I.Av p _ hk;exact⟨o,e,ex⟩
    ·obtain⟨_,_,_,_,o,_,_,e,ex,_⟩:=I.Av p _ hk;exact⟨o,e,ex⟩
   obtain⟨o,e,ex⟩:=z;refine⟨⟨o,e,ex.1⟩,λ a e2=>?_⟩;cases e2;exact⟨o,e,ex.2.1⟩
  ·obtain⟨o,_,_,_,e,ex,_⟩:=I.Av p _ hk;refine⟨⟨o,e,ex.1⟩,λ a e2=>?_⟩;cases e2;exact⟨o,e,ex.2.1⟩
 |_=>exact yR ty
noncomputable def pA (K:za)(T:String)(r:V->List V->Hp->VK->Prop)(to:TE):TE:=λ σ H Q=>to σ H λ x H1=>oZ K T x H1/\r x [] H1 Q
noncomputable def tE (K:za)(T:String)(r:V->List V->Hp->VK->Prop)(to:TE)(t:TA):TE:=λ σ H Q=>to σ H λ x H1=>oZ K T x H1/\t σ H1 λ xs H2=>r x xs H2 Q
variable {o e:Expr}{es:List Expr}{to:TE}{t:TA}{name:Str}{apos ac:Pos}{T id:String}{r:V->List V->Hp->VK->Prop}
theorem W0 (pa:PlainAttrs T)(slot:Slot T name id)(h8:typeOf (.builtin id)=pure (.type "method_descriptor"))(hm:oX X id r)(ho:PE X o to)
 (ap:attributeBase o name X.env (eval o X.env)=eval o X.env:=by rfl) (aq:(apos.endLine==ac.line)=true:=by rfl):PE X (.Call (.Attribute o name apos) [] [] ac) (pA X.K T r to):=by
 intro pins s σ H Q I h;refine wpAny_Call_method0_late ap aq (Bc (ho pins s σ H _ I h) λ v s1 ⟨x,H1,I1,r1,ty,q1⟩=>?_);obtain⟨h1,h2⟩:=VZ I1 r1 ty;exact⟨T,id,pa,slot,h8,h1,h2,Calls.callWith_builtin rfl (PySem.evalArgs_none (hm pins s1 σ H1 x [] v [] Q I1 r1 .nil q1))⟩
theorem Nk (pa:PlainAttrs T)(slot:Slot T name id)(h8:typeOf (.builtin id)=pure (.type "method_descriptor"))(hm:oX X id r)(ho:PE X o to)(ha:PA X (e::es) t)
 (ap:attributeBase o name X.env (eval o X.env)=eval o X.env:=by rfl)
 (aD:((backTo ac (starEach (e::es) X.env)).all (λ x => !x.1)&&(backToKw ac (keywordEach [] X.env)).all (λ x=>x.1.isSome)
  && decide ((e::es).length+([]:List Keyword).length+(if ([]:List Keyword).isEmpty then 0 else 1)<30))=true:=by rfl)
 (aq:(apos.endLine==ac.line)=true:=by rfl) (hs:starEach (e::es) X.env=(false,eval e X.env)::starEach es X.env:=by rfl) (ar:(backTo ac (starEach es X.env)).any (·.1)=false:=by rfl):
 PE X (.Call (.Attribute o name apos) (e::es) [] ac) (tE X.K T r to t):=by
 intro pins s σ H Q I h;refine wpAny_Call_method_late ap aD aq rfl (Bc (ho pins s σ H _ I h) λ v s1 ⟨x,H1,I1,r1,ty,q1⟩=>?_);obtain⟨h1,h2⟩:=VZ I1 r1 ty;refine⟨T,id,pa,slot,h8,h1,h2,?_⟩;have hA:=ha ac pins s1 σ H1 _ I1 q1;rw[hs] at hA ⊢;refine Calls.callWith_builtin (by show (false||(backTo ac (starEach es X.env)).any (·.1))=false;rw[ar]<;>rfl) (Calls.evalArgs_plain ?_);exact Bc hA λ us s2 ⟨vs,H2,I2,r2,q2⟩=>hm pins s2 σ H2 x vs v us Q I2 r1 r2 q2
end
def fJ (X:Cx)(id:String)(r:V->List V->Hp->VK->Prop):Prop:=
 ∀(pins:List (Addr×Obj)) (s:Shared) (σ:St) (H:Hp) (x:V) (xs:List V) (v:Value) (us:List Value) (Q:VK),Inv X pins σ H s->RelV x v->Vals xs us->r x xs H Q->
  wpAny (model X.prog X.w) X.A (call (.builtin id) (v::us)) (EP X pins σ Q) X.xe s
theorem Vals.one:∀ {x:V}{us:List Value},Vals [x] us->∃u,us=[u]/\RelV x u
 |_,_,.cons r .nil=>⟨_,rfl,r⟩
theorem Vals.two:∀ {x y:V}{us:List Value},Vals [x,y] us->∃u v,us=[u,v]/\RelV x u/\RelV y v
 |_,_,_,.cons r (.cons q .nil)=>⟨_,_,rfl,r,q⟩
theorem Vals.zero:∀ {us:List Value},Vals [] us->us=[]
 |_,.nil=>rfl
theorem Vals.dropLast {xs:List V}{us:List Value}(h:Vals xs us):Vals xs.dropLast us.dropLast:=by
 induction h with
 |nil=>exact .nil
 |cons r t ih =>
  cases t with
  |nil=>exact .nil
  |cons q t'=>exact .cons r ih
theorem Vals.eraseIdx:∀ {xs:List V}{us:List Value}(i:Nat),Vals xs us->Vals (xs.eraseIdx i) (us.eraseIdx i)
 |_,_,_,.nil=>.nil
 |_,_,0,.cons _ t=>t
 |_,_,i+1,.cons r t=>.cons r (Vals.eraseIdx i t)
theorem Vals.reverse {xs:List V}{us:List Value}(h:Vals xs us):Vals xs.reverse us.reverse:=by
 induction h with
 |nil=>exact .nil
 |cons r t ih=>rw[yT,yT];exact Vals.append ih (.cons r .nil)
theorem Vals.rep {xs:List V}{us:List Value}(h:Vals xs us):∀k:Nat,Vals (zA k xs).flatten (zA k us).flatten
 |0=>.nil
 |k+1=>by
  rw[yz,yz,List.flatten_cons,List.flatten_cons];exact Vals.append h (Vals.rep h k)
theorem Rv {α:Type}(l:List α):l.eraseIdx (l.length-1)=l.dropLast:=by
 induction l with
 |nil=>rfl
 |cons a r ih =>
  cases r with
  |nil=>rfl
  |cons b r =>
   have e:(a::b::r).length-1=((b::r).length-1)+1:=by
    have h1:(a::b::r).length=r.length+2:=rfl;have h2:(b::r).length=r.length+1:=rfl;omega
   rw[e,List.eraseIdx_cons_succ,ih];all_goals rfl
theorem foldl_rep (aa:List Value):∀(k:Nat) (acc:List Value),
 List.foldl (λ x1 x2=>x1++x2) acc.toArray (zA k aa.toArray)=(acc++(zA k aa).flatten).toArray
 |0,acc=>by simp
 |k+1,acc=>by
  have e:acc.toArray++aa.toArray=(acc++aa).toArray:=by simp
  have e2:(acc++aa)++(zA k aa).flatten=acc++(zA (k+1) aa).flatten:=by
   rw[yz,List.flatten_cons,yD]
  rw[<-e2,<-foldl_rep aa k (acc++aa),<-e,yz,zX]
section
variable {X:Cx}{pins:List (Addr×Obj)}{σ:St}{H:Hp}{s:Shared}{l b:Addr}{xs ys zs:List V}
theorem Inv.U5 {aa its':List Value}{n:Nat}{f:Array Value->Array Value}{t':Nat}(I:Inv X pins σ H s)(hH:H l=some (.lst xs))
 (e:s.heap.get? l=some {cls:=.type "list",data:=.seq aa.toArray n}) (hf:f aa.toArray=its'.toArray) (hv:Vals ys its') (hz:ys.length<=sizeLine):
 Inv X pins σ (upd H l (.lst ys)) {s with heap:=s.heap.update l (yv f),toks:=t' }:=by
 have q:=PySem.IsL.update e f;rw[hf] at q;refine I.write (x:=l) (e:=l) (by rw[hH];exact trivial) (.inl rfl) (λ b' u hb hu=>(yZ s.heap (yv f) (yh hb)).trans hu) ⟨_,q⟩ ?_;exact⟨hz,its',_,hv,q⟩
theorem Inv.pB {aa:List Value}{t':Nat}(I:Inv X pins σ H s)(hv:Vals ys aa)(hz:ys.length<=sizeLine):
 Inv X pins σ (upd H s.heap.objs.size (.lst ys)) {s with heap:=s.heap.push {cls:=.type "list",data:=.seq aa.toArray},toks:=t' }:=
 I.laid (λ _ _ q=>zj _ q) (zu _) ⟨hz,aa,0,hv,zD _ rfl⟩
theorem Inv.fresh (I:Inv X pins σ H s):H s.heap.objs.size=none:=I.Av.fresh (zu _)
theorem Inv.PD (I:Inv X pins σ H s)(hH:H l=some (.lst xs)):xs.length<=sizeLine/\∃(aa:List Value) (n:Nat),Vals xs aa/\xs.length=aa.length/\s.heap.get? l=some {cls:=.type "list",data:=.seq aa.toArray n}:=by
 obtain⟨z,aa,n,r,e⟩:=I.Av l _ hH;exact⟨z,aa,n,r,r.length,e⟩
theorem PF {n:Nat}(h:n<=sizeLine):xf n=false:=by
 unfold xf;exact decide_eq_false (by omega)
end
section
variable {X:Cx}
def Yw:V->List V->Hp->VK->Prop:=λ x vs H Q=>∃l xs y,x=.ref l/\vs=[y]/\H l=some (.lst xs)/\xs.length<sizeLine/\Q .Az (upd H l (.lst (xs++[y])))
theorem Nl:fJ X "list.append" Yw:=by
 intro pins s σ H x vs v us Q I rx rv h;obtain⟨l,xs,y,rfl,rfl,hH,hz,q⟩:=h;cases rx;obtain⟨u,rfl,ru⟩:=rv.one;obtain⟨z,aa,n,r,hl,e⟩:=I.PD hH;refine call_meets F.slot_list_append ⟨_,e,rfl⟩ F.entry_list_append (F.args_list_append_2 _ _) (PySem.list_append l aa.toArray n u (by rw[zh];omega)) ⟨e,?_⟩;refine⟨.Az,_,I.U5 (its':=aa++[u]) hH e (by simp) (r.append (.cons ru .nil)) ?_,rfl,q⟩;rw[zB,y3];omega
def Yx:V->List V->Hp->VK->Prop:=λ x vs H Q=>∃l b xs zs,x=.ref l/\vs=[.ref b]/\H l=some (.lst xs)/\H b=some (.lst zs)/\xs.length+zs.length<=sizeLine/\Q .Az (upd H l (.lst (xs++zs)))
theorem U6:fJ X "list.extend" Yx:=by
 intro pins s σ H x vs v us Q I rx rv h;obtain⟨l,b,xs,zs,rfl,rfl,hH,hB,hz,q⟩:=h;cases rx;obtain⟨u,rfl,ru⟩:=rv.one;cases ru;obtain⟨z,aa,n,r,hl,e⟩:=I.PD hH;obtain⟨z2,bE,n2,r2,aM,e2⟩:=I.PD hB;have hsz:aa.toArray.size+bE.toArray.size<=sizeLine:=by rw[zh,zh];omega
 have bR:¬ (!aa.toArray.isEmpty&&xf (aa.toArray.size+bE.toArray.size))=true:=by
  rw[PF hsz,Bool.and_false];exact zM
 refine call_meets F.slot_list_extend ⟨_,e,rfl⟩ F.entry_list_extend (F.args_list_extend_2 _ _)
  (AutoSeq1.list_extend_list_list_0 l aa.toArray n b bE.toArray n2 bR (by rw[zh];omega) (by omega)) ⟨e,e2,?_⟩
 refine⟨.Az,_,I.U5 (its':=aa++bE) hH e (by simp) (r.append r2) ?_,rfl,q⟩;rw[zB];omega
def pC:V->List V->Hp->VK->Prop:=λ x vs H Q=>∃l xs y,x=.ref l/\vs=[]/\H l=some (.lst xs)/\xs[xs.length-1]?=some y/\Q y (upd H l (.lst xs.dropLast))
theorem fK:fJ X "list.pop" pC:=by
 intro pins s σ H x vs v us Q I rx rv h;obtain⟨l,xs,y,rfl,rfl,hH,hy,q⟩:=h;cases rx;have ly:=rv.zero;subst ly;obtain⟨z,aa,n,r,hl,e⟩:=I.PD hH;obtain⟨u,hu,ru⟩:=r.get hy;have dq:aa.toArray[aa.toArray.size-1]?=some u:=by
  show aa.toArray[aa.length-1]?=some u;rw[<-xb,<-hl];exact hu
 refine call_meets F.slot_list_pop ⟨_,e,rfl⟩ F.entry_list_pop (F.args_list_pop_1 _) (MeetsSeq.list_pop_last l aa.toArray n u dq (by rw[zh];omega)) ⟨e,?_⟩;refine⟨y,_,I.U5 (its':=aa.dropLast) hH e ?_ r.dropLast ?_,ru,q⟩
 ·show aa.toArray.eraseIdxIfInBounds (aa.toArray.size-1)=aa.dropLast.toArray;rw[zh,List.eraseIdxIfInBounds_toArray,Rv]
 ·rw[List.length_dropLast];omega
def fL:V->List V->Hp->VK->Prop:=λ x vs H Q=>∃l xs,x=.ref l/\vs=[]/\H l=some (.lst xs)/\Q .Az (upd H l (.lst []))
theorem W3:fJ X "list.clear" fL:=by
 intro pins s σ H x vs v us Q I rx rv h;obtain⟨l,xs,rfl,rfl,hH,q⟩:=h;cases rx;have ly:=rv.zero;subst ly;obtain⟨z,aa,n,r,hl,e⟩:=I.PD hH;refine call_meets F.slot_list_clear ⟨_,e,rfl⟩ F.entry_list_clear (F.args_list_clear_1 _) (AutoSeq1.list_clear_list_0 l aa.toArray n (by rw[zh];omega)) ⟨e,?_⟩;exact⟨.Az,_,I.U5 (its':=[]) (ys:=[]) hH e rfl .nil (zT _),rfl,q⟩
noncomputable def pE:R2:=λ x y H Q=>∃l k xs,x=.ref l/\y=.int k/\H l=some (.lst xs)/\-(2^63)<=k/\k<2^63/\xs.length*k.toNat<=sizeLine/\
 ∀p,H p=none->Q (.ref p) (upd H p (.lst (zA k.toNat xs).flatten))
theorem len_rep {α:Type}(xs:List α)(k:Nat):(zA k xs).flatten.length=k*xs.length:=by
 induction k with
 |zero=>simp
 |succ k ih=>rw[yz,List.flatten_cons,zB,ih,Nat.succ_mul,Nat.add_comm]
theorem fM:FA X (binaryOp .Mult) pE:=by
 intro pins s σ H x y v u Q I rx ry h;obtain⟨l,k,xs,rfl,rfl,hH,h1,h2,hz,q⟩:=h;cases rx;obtain⟨t,rfl⟩:=ry;obtain⟨z,aa,n,r,hl,e⟩:=I.PD hH;have hlen:aa.toArray.size*k.toNat<=sizeLine:=by rw[zh,<-hl];exact hz
 have lz:¬ aa.toArray.size*k.toNat > (2^63-1) / 8:=by
  have:(sizeLine:Nat)<=(2^63-1) / 8:=by decide
  omega
 have dr:¬ (!Builtin.List.listFitsIndex k)=true:=by
  rw[fitsIndex_both h1 h2];exact zM
 have bR:¬ xf (aa.toArray.size*k.toNat)=true:=by
  rw[PF hlen];exact zM
 have bf:List.foldl (λ x1 x2=>x1++x2) #[] (zA (if aa.toArray.isEmpty=true then 0 else k.toNat) aa.toArray)=(zA k.toNat aa).flatten.toArray:=by
  have f0:∀m:Nat,List.foldl (λ x1 x2=>x1++x2) #[] (zA m aa.toArray)=(zA m aa).flatten.toArray:=λ m=>by
   have:=foldl_rep aa m [];rw[List.nil_append] at this;exact this
  rw[f0];cases aa with
  |nil=>simp
  |cons a r'=>rw[if_neg (by simp)]
 refine wpAny_binaryOp_repeat_ref (T := "list") (U := "int") (by decide) ⟨_,e,rfl⟩ (λ s'=>typeIs_int s' k t) noFill_list_mul F.fills_int_mul F.slot_int_rmul repeat_list F.slot_int_index.lookup
  (call_meets F.slot_int_rmul (typeIs_int s k t) F.entry_int_rmul (F.args_int_rmul_2 _ _) (int___rmul___int_list k t l aa.toArray n)
   ⟨e,rfl,⟨_,e,rfl⟩,call_meets F.slot_list_mul ⟨_,e,rfl⟩ F.entry_list_mul (F.args_list_mul_2 _ _) (AutoListH.list___mul___list_int_3 l aa.toArray n k t dr lz bR) ⟨e,?_⟩⟩)
 rw[bf];exact⟨.ref _,_,I.pB (t':=s.toks) (r.rep k.toNat) (by rw[len_rep,Nat.mul_comm];exact hz),rfl,q _ I.fresh⟩
end
end L2
namespace rn
open PySem PySem.W PySem.Calls PyProof.Rows
theorem KI {P:Params}{h:Heap}:∀(ns:List Int) (vs:List Value),WellAll P h vs (ns.map WData.int)->IntsAre vs ns:=by
 intro ns;induction ns with
 |nil =>
  intro vs w;rw[List.map_nil] at w;cases w;exact .nil
 |cons n ns ih =>
  intro vs w;rw[zg] at w;cases w with
  |cons a b =>
   cases a;exact .cons _ _ (ih _ b)
theorem U7 {l:OpenLaw}{n:Nat}(hn:l.most=some n){P:Params}{h:Heap}{args:List WData}{vals:List Value}
 (c4:l.row.toRowW.claim.pre args=true) (jx:WellAll P h vals args):
 ∃a vs ns,vals=[ya a]/\args=[WData.list (ns.map WData.int)]/\h.get? a=some {cls:=.type "list",data:=.seq vs.toArray}/\IntsAre vs ns/\ns.length<=n:=by
 have tu:WShape.hasAll [] args [.list .int]=true:=(pre_splitW c4).1;have hc:l.pre.holds [] {args:=args}=true:=(pre_splitW c4).2;obtain⟨d,r,rfl,h1,h2⟩:=hasAllW_cons tu;obtain rfl:=hasAllW_nil h2;obtain⟨xs,rfl,h3⟩:=hasW_list h1;obtain⟨ns,rfl⟩:=items_int h3;have hlen:ns.length<=n:=by
  unfold OpenLaw.pre at hc;have h4:(WTm.not (.lt (.lit (.int (n:Int))) (.len (.arg 0)))).holds [] {args:=[.list (ns.map .int)]}=true:=by
   have h4:=(holds_andW hc).1;rw[hn] at h4;exact h4
  have h5:=condW_of h4 (w_not (w_lt w_lit (w_len_list (w_arg rfl))));rw[zf] at h5;refine Nat.le_of_not_lt λ q=>?_;have q':(n:Int)<((ns.length:Nat):Int):=by omega
  first
   |(rw[decide_eq_true q'] at h5;exact absurd h5 (by decide))
   |(simp at h5;omega)
 cases jx with
 |cons w1 w2 =>
  cases w2;cases w1 with
  |list ho bS=>exact⟨_,_,ns,rfl,rfl,ho,KI ns _ bS,hlen⟩
theorem U8 (l:OpenLaw)(args:List WData):l.row.toRowW.claim.post args (.bool true) args=true:=
 postW_of (r:=l.row.toRowW) (X:=(true==true))
  (show WShape.has [] (.bool true) .bool=true by first|rfl|decide|simp[WShape.has,WShape.arms,WShape.armsAll])
  (show (WTm.eq .res (.lit (.bool true))).value [] {args:=args,res:=some (.bool true),after:=args}=some (.bool (true==true)) from w_eq_bool (w_res rfl) w_lit) rfl
end rn
namespace L2
open PySem PySem.Spec PyProof.Rows
theorem Nm:∀ {vs:List Value}{ns:List Int},IntsAre vs ns->Vals (ns.map V.int) vs
 |_,_,.nil=>.nil
 |_,_,.cons n t h=>.cons ⟨t,rfl⟩ (Nm h)
def Yy (H:Hp):Prop:=∀b,H b=none\/∃o xs,H b=some (.TR o (.lst xs))
theorem PH {P:Program}{w:World}{K:za}{mg mb:Str->Option Value}{CX:Su}{k:Nat}{fa a:Addr}{fd:FuncData}{x:Str}{sp:Sp}{s₁:Shared}{vs:List Value}{ns:List Int}
 (KX:K.In s₁.heap) (c5:s₁.heap.Ns mainGlobals mg) (hb:s₁.heap.Ns builtinsNs mb) (tw:∀x:Str,x ≠ "__name__" -> mb x=bootBuiltins x) (l5:s₁.heap.NoLimit) (hg:s₁.gens=#[])
 (ha:s₁.heap.get? a=some {cls:=.type "list",data:=.seq vs.toArray}) (hi:IntsAre vs ns) (hl:ns.length<=sizeLine) (hr:By k callerA)
 (F:∀base:Heap,K.In base->base.Ns mainGlobals mg->D5 P w K mg base CX k fa fd [x] sp) (h9:∀(s:Shared) (u:Value),BindsTo s fd ⟨[u],[]⟩ [(x,u)])
 (cq:∀H:Hp,Yy H->Dg K H a (ns.map V.int)->sp [.ref a] H (λ v _=>v=.bl true) λ _ _ _=>False)
 (ia:∀H e s',CX [] H s₁ (λ _ _ _=>False) e s'->False):
 codeAny (model P w) callerA (.call (.ref fa) ⟨[.ref a],[]⟩) (λ r s'=>r=.ok (.ret (.bool true))/\OldK s₁.heap s'.heap/\s'.os=s₁.os/\AllBare s'.gens) s₁:=by
 have rv:=Nm hi;have l6:=hi.length;have core:∀H:Hp,Yy H->Dg K H a (ns.map V.int)->Gd P w H s₁.heap->(∀b,H b≠none->b=a)->(H a≠none->K.lookup a=none)->
  codeAny (model P w) callerA (.call (.ref fa) ⟨[.ref a],[]⟩) (λ r s'=>r=.ok (.ret (.bool true))/\OldK s₁.heap s'.heap/\s'.os=s₁.os/\AllBare s'.gens) s₁:=by
  intro H hO hS Av hA hK;have bA:∀ {b:Addr} {o:Obj},s₁.heap.get? b=some o->H b=none->(Oe s₁.heap H).get? b=some o:=λ e n=>Vy e n;have g7:∀ {b:Addr} {o:Obj} {es:Array DictEntry} {ep:Nat},s₁.heap.get? b=some o->o.data=.dict es ep->H b=none:=fun {b o es ep} e d=>by
   cases q:H b with
   |none=>rfl
   |some u =>
    have e':b=a:=hA b (by rw[q];simp);subst e';rw[ha] at e;cases e;have d':Data.seq vs.toArray _=Data.dict es ep:=d;cases d'
  have jy:∀ {b:Addr} {m:Str->Option Value},s₁.heap.Ns b m->(Oe s₁.heap H).Ns b m:=fun {b m} ⟨o,es,ep,e,d,r⟩=>⟨o,es,ep,bA e (g7 e d),d,r⟩;have rp:K.In (Oe s₁.heap H):=λ b o e=>bA (KX b o e) (by
   cases q:H b with
   |none=>rfl
   |some u =>
    have e':b=a:=hA b (by rw[q];simp);subst e';rw[hK (by rw[q];simp)] at e;cases e)
  have hM:Mod K mg (Oe s₁.heap H):=⟨rp,jy c5,⟨mb,jy hb,tw⟩,let ⟨mc,h1,h2⟩:=l5;⟨mc,jy h1,h2⟩⟩;have e0:Rq P w K mg (Oe s₁.heap H) callerA [] s₁ H:=⟨rfl,hM,λ b o e=>Y6 e,Nat.le_of_eq (TU _ _),trivial,λ b hb=>absurd (show b∈([]:List Addr) from hb) (by simp),Av,.of_eq hg⟩;refine codeAny_mono ((F _ rp (jy c5)).run callerA [] s₁ H ⟨[.ref a],[]⟩ [.ref a] [.ref a] _ _ hr e0 (h9 s₁ (.ref a)) (.cons rfl .nil) (cq H hO hS)) λ r s' h=>?_;cases r with
  |error e=>exact (ia H e s' h).elim
  |ok fl =>
   cases fl with
   |next|brk|cont=>exact yR h
   |ret u =>
    obtain⟨v,H',os,bare,un,du,r',q⟩:=h;have q':v=.bl true:=q;subst q';obtain rfl:u=Value.bool true:=r';refine⟨rfl,OldK.of_keep λ b o e=>?_,os,bare⟩;cases q:H b with
    |none=>exact un.keep b o e q (by intro z;exact absurd (show b∈([]:List Addr) from z) (by simp)) (by simp)
    |some u =>
     rcases hO b with z|⟨ob,xs,z⟩
     ·rw[q] at z;cases z
     ·have z2:=un.Le b ob _ z;obtain⟨e1,_⟩:=Av b _ z;obtain⟨e2,_⟩:=du b _ z2;rw[e] at e1;cases e1;exact e2
 cases hk:K.lookup a with
 |some o =>
  have e:=KX a o hk;rw[ha] at e;cases e;refine core (λ _=>none) (λ _=>.inl rfl) (.inr ⟨_,vs.toArray,_,hk,rfl,rfl,rfl,by rw[zh,l6];exact hl,by simpa using rv⟩) (λ b u z=>by have z':(none:Option HO)=some u:=z;cases z') (λ b z=>absurd rfl z) λ z=>absurd rfl z
 |none =>
  refine core (λ b=>if b=a then some (.TR {cls:=.type "list",data:=.seq vs.toArray} (.lst (ns.map V.int))) else none) (λ b=>?_) (.inl (.inr ⟨{cls:=.type "list",data:=.seq vs.toArray},if_pos rfl⟩)) (λ b u z=>?_) (λ b z=>?_) λ _=>hk
  ·by_cases hb:b=a
   ·exact .inr ⟨_,_,if_pos hb⟩
   ·exact .inl (if_neg hb)
  ·by_cases hb:b=a
   ·have z':=(if_pos hb).symm.trans z;cases z';subst hb;exact⟨ha,by rw[zf];exact hl,vs,_,rv,ha⟩
   ·have z':=(if_neg hb).symm.trans z;cases z'
  ·by_cases hb:b=a
   ·exact hb
   ·exact absurd (if_neg hb) z
noncomputable abbrev Yz:Su:=λ _ _ _ _ _ _=>False
noncomputable abbrev E0:XK:=λ _ _ _=>False
structure Vr (K:za)(x qual:Str)(st:Stmt)(f:Addr)(fd:FuncData):Prop where
 ex:∃(oc:Value) (od:Option Addr) (kV doc pm:Value) (an:Option Addr) (B6 ct:Value) (Pj:Array (Option Value)),
  fd=zS x qual (AL st) (Au st) (A4 st) .none kV doc pm an B6 ct/\K.lookup f=some ⟨oc,od,.func fd,Pj⟩/\ye K B6 qual=true
 kp:zQ K (.ref f)=true
section
variable {P:Program}{w:World}{K:za}{mg:Str->Option Value}{base:Heap}
theorem Vr.ok {x qual:Str}{st:Stmt}{f:Addr}{fd:FuncData}{N ps:List Str}{k:Nat}{sp:Sp}(F:Vr K x qual st f fd)(S:Ah N ps (A4 st))(len:∀vs H Q E,sp vs H Q E->vs.length=ps.length)
 (bQ:∀(B6:Value) (A:Around) (outer:List Env) (s:Shared) (H:Hp) (vs:List V) (Q:VK) (E:XK),By k (A.deeper (envOfC qual (A4 st) s.heap.objs.size f B6))->sp vs H Q E->
  ∃t,Sr (KH Yz P w K mg base N qual (A4 st) f B6 A outer s H E).kN (Au st) t/\t {nx:=λ _ H'=>Q .Az H',rt:=Q} (start N vs) H):D5 P w K mg base Yz (k+1) f fd ps sp:=by
 obtain⟨oc,od,kV,doc,pm,an,B6,ct,Pj,rfl,lk,bd⟩:=F.ex;refine Sw lk bd S len λ A outer s H vs Q E hr cq=>?_;obtain⟨t,h,q⟩:=bQ B6 A outer s H vs Q E hr cq;exact⟨t,h.kN,q⟩
theorem Vr.binds {x qual:Str}{st:Stmt}{f:Addr}{fd:FuncData}{ps:List Str}(F:Vr K x qual st f fd)
 (h:∀(kV doc pm:Value) (an:Option Addr) (B6 ct:Value) (us:List Value),us.length=ps.length->bindArgs (zS x qual (AL st) (Au st) (A4 st) .none kV doc pm an B6 ct) ⟨us,[]⟩=pure (ps.zip us)):Binds K fd ps []:=by
 obtain⟨oc,od,kV,doc,pm,an,B6,ct,Pj,rfl,lk,bd⟩:=F.ex;exact .all (h kV doc pm an B6 ct)
theorem Rw {x qual:Str}{st:Stmt}{f:Addr}{oc:Value}{od an:Option Addr}{Pj:Array (Option Value)}{kV doc pm B6 ct:Value}(l:K.lookup f=some ⟨oc,od,.func (zS x qual (AL st) (Au st) (A4 st) .none kV doc pm an B6 ct),Pj⟩)
 (c:ye K B6 qual=true) (k:zQ K (.ref f)=true):Vr K x qual st f (zS x qual (AL st) (Au st) (A4 st) .none kV doc pm an B6 ct):=⟨⟨oc,od,kV,doc,pm,an,B6,ct,Pj,rfl,l,c⟩,k⟩
end
theorem AG {n:Nat}(h:n<=1000):n<sizeLine:=Nat.lt_of_le_of_lt h (by decide)
section
variable {X:Cx}
theorem pv (i:Nat){x:Str}{pos:Pos}(hN:X.N[i]?=some x:=by rfl)(hv:oA X.env.scope x:=by first | exact zY rfl | exact Or.inr (zY rfl) | exact Or.inr (Or.inr rfl))(hd:(x==("__debug__" : Str))=false:=by decide)
 (bd:(x==("__classdict__" : Str))=false:=by decide):PE X (.Name x pos) (Pq i):=dZ hN hv hd bd
end
def Ae (H H':Hp):Prop:=∀b o,H b=some o->H' b=some o
theorem Ae.refl (H:Hp):Ae H H:=λ _ _ h=>h
theorem Ae.trans {H H1 H2:Hp}(a:Ae H H1)(b:Ae H1 H2):Ae H H2:=λ c o h=>b c o (a c o h)
theorem Ae.seq {K:za}{H H':Hp}{a:Addr}{xs:List V}(e:Ae H H')(h:Dg K H a xs):Dg K H' a xs:=by
 rcases h with (h|⟨o,h⟩)|h
 ·exact .inl (.inl (e _ _ h))
 ·exact .inl (.inr ⟨o,e _ _ h⟩)
 ·exact .inr h
section
variable {κ:Type} [DecidableEq κ]
noncomputable def MR (kvs:List (κ×V))(k:κ):Option V:=(kvs.find? λ kv=>decide (kv.1=k)).map (·.2)
noncomputable def putK (kvs:List (κ×V))(k:κ)(v:V):List (κ×V):=
 if (kvs.any λ kv=>decide (kv.1=k))=true then kvs.map (λ kv=>if kv.1=k then (kv.1,v) else kv) else kvs++[(k,v)]
theorem Lk {p:κ×V}{r:List (κ×V)}{k:κ}(e:p.1=k):MR (p::r) k=some p.2:=by simp[MR,xc,e]
theorem Ll {p:κ×V}{r:List (κ×V)}{k:κ}(e:¬ p.1=k):MR (p::r) k=MR r k:=by simp[MR,xc,e]
theorem PJ (k:κ):∀kvs:List (κ×V),(kvs.any λ kv=>decide (kv.1=k))=(MR kvs k).isSome
 |[]=>rfl
 |p::r=>by
  rw[xg];by_cases e:p.1=k
  ·simp only[Lk e,decide_eq_true e,Bool.true_or,Option.isSome_some]
  ·rw[Ll e,decide_eq_false e,Bool.false_or];exact PJ k r
theorem Ko (kvs:List (κ×V))(k:κ)(v:V):(putK kvs k v).length<=kvs.length+1:=by
 unfold putK;split
 ·rw[zf];omega
 ·rw[zB,zq,List.length_nil];omega
theorem HK.EO {o:Option V}{u:Option Value}(r:HK o u):o.isSome=u.isSome:=by
 cases o with
 |none=>cases u with
  |none=>rfl
  |some _=>exact (show False from r).elim
 |some _=>cases u with
  |none=>exact (show False from r).elim
  |some _=>rfl
theorem KV.val {kvs:List (κ×V)}{vs:List (κ×Value)}(r:KV kvs vs)(k:κ):HK (MR kvs k) (valueAt vs k):=by
 unfold KV at r;induction r with
 |nil=>exact True.intro
 | @cons p q ps qs h t ih =>
  obtain⟨h1,h2⟩:=h;by_cases e:p.1=k
  ·have e':q.1=k:=h1.symm.trans e;have b:valueAt (q::qs) k=some q.2:=by simp[valueAt,xc,e']
   rw[Lk e,b];exact h2
  ·have e':¬ q.1=k:=λ z=>e (h1.trans z);have b:valueAt (q::qs) k=valueAt qs k:=by simp[valueAt,xc,e']
   rw[Ll e,b];exact ih
theorem KV.any {kvs:List (κ×V)}{vs:List (κ×Value)}(r:KV kvs vs)(k:κ):(kvs.any λ kv=>decide (kv.1=k))=vs.any λ kv=>decide (kv.1=k):=by
 unfold KV at r;induction r with
 |nil=>rfl
 |cons h t ih=>rw[xg,xg,ih,h.1]
theorem KV.fN {kvs:List (κ×V)}{vs:List (κ×Value)}(r:KV kvs vs)(k:κ){y:V}{u:Value}(ry:RelV y u):
 KV (kvs.map λ kv=>if kv.1=k then (kv.1,y) else kv) (vs.map λ kv=>if kv.1=k then (kv.1,u) else kv):=by
 unfold KV at r ⊢;induction r with
 |nil=>exact .nil
 | @cons p q ps qs h t ih =>
  rw[zg,zg];refine .cons ?_ ih;obtain⟨h1,h2⟩:=h;by_cases e:p.1=k
  ·rw[if_pos e,if_pos (h1.symm.trans e)];exact⟨h1,ry⟩
  ·rw[if_neg e,if_neg (λ z=>e (h1.trans z))];exact⟨h1,h2⟩
theorem KV.put {kvs:List (κ×V)}{vs:List (κ×Value)}(r:KV kvs vs)(k:κ){y:V}{u:Value}(ry:RelV y u):KV (putK kvs k y) (stored vs k u):=by
 unfold putK stored;rw[r.any k];by_cases e:(vs.any λ kv=>decide (kv.1=k))=true
 ·rw[if_pos e,if_pos e];exact r.fN k ry
 ·rw[if_neg e,if_neg e];exact Paired.snoc r ⟨rfl,ry⟩
theorem KV.length {kvs:List (κ×V)}{vs:List (κ×Value)}(r:KV kvs vs):kvs.length=vs.length:=Paired.length r
end
theorem PL {P:Program}{w:World}{k:Key}{u:Value}(r:RelV (kV k) u):(Bx P w).is k u=true:=by
 cases k with
 |inl i=>obtain⟨t,e⟩:=(show ∃t,u=Value.int i t from r);subst e;exact Pm P w i t
 |inr x=>obtain⟨t,e⟩:=(show ∃t,u=Value.str x t from r);subst e;exact Pn P w x t
theorem Nn {P:Program}{w:World}:∀ {ks:List Key}{us:List Value},Vals (ks.map kV) us->ItemsAre (Bx P w) ks us
 |[],_,r=>by rw[List.map_nil] at r;cases r;exact .nil
 |k::ks,_,r=>by
  rw[zg] at r;cases r with
  |cons h t=>exact .cons (PL h) (Nn t)
noncomputable abbrev KT (H:Hp):List (List Key×V)->List (List Key×Addr×Value)->Prop:=Paired λ p q=>p.1=q.1/\H q.2.1=some (.tup (p.1.map kV))/\RelV p.2 q.2.2
theorem KT.val {H:Hp}{kvs:List (List Key×V)}{xs:List (List Key×Addr×Value)}(r:KT H kvs xs)(k:List Key):HK (MR kvs k) ((atKey xs k).map (·.2)):=by
 induction r with
 |nil=>exact True.intro
 | @cons p q ps qs h t ih =>
  obtain⟨h1,_,h2⟩:=h;by_cases e:p.1=k
  ·have e':q.1=k:=h1.symm.trans e;have b:atKey (q::qs) k=some q.2:=by simp[atKey,xc,e']
   rw[Lk e,b];exact h2
  ·have e':¬ q.1=k:=λ z=>e (h1.trans z);have b:atKey (q::qs) k=atKey qs k:=by simp[atKey,xc,e']
   rw[Ll e,b];exact ih
theorem KT.fN {H:Hp}{kvs:List (List Key×V)}{xs:List (List Key×Addr×Value)}(r:KT H kvs xs)(k:List Key){y:V}{u:Value}(ry:RelV y u):
 KT H (kvs.map λ kv=>if kv.1=k then (kv.1,y) else kv) (xs.map (putAt k u)):=by
 induction r with
 |nil=>exact .nil
 | @cons p q ps qs h t ih =>
  rw[zg,zg];refine .cons ?_ ih;obtain⟨h1,h2,h3⟩:=h;unfold putAt;by_cases e:p.1=k
  ·rw[if_pos e,if_pos (h1.symm.trans e)];exact⟨h1,h2,ry⟩
  ·rw[if_neg e,if_neg (λ z=>e (h1.trans z))];exact⟨h1,h2,h3⟩
theorem KT.put {H:Hp}{kvs:List (List Key×V)}{xs:List (List Key×Addr×Value)}(r:KT H kvs xs)(k:List Key){b:Addr}{y:V}{u:Value}(hb:H b=some (.tup (k.map kV)))(ry:RelV y u):
 KT H (putK kvs k y) (storedH xs k b u):=by
 have e:(kvs.any λ kv=>decide (kv.1=k))=(atKey xs k).isSome:=by
  rw[PJ,(r.val k).EO,Option.isSome_map]
 unfold putK storedH;rw[e];by_cases q:(atKey xs k).isSome=true
 ·rw[if_pos q,if_pos q];exact r.fN k ry
 ·rw[if_neg q,if_neg q];exact Paired.snoc r ⟨rfl,hb,ry⟩
theorem KT.keeps {H H':Hp}{kvs:List (List Key×V)}{xs:List (List Key×Addr×Value)}(r:KT H kvs xs)(ht:∀b ys,H b=some (.tup ys)->H' b=some (.tup ys)):KT H' kvs xs:=
 Paired.dW r λ _ _ z=>⟨z.1,ht _ _ z.2.1,z.2.2⟩
section
variable {P:Program}{w:World}{H:Hp}{h:Heap}{a:Addr}
theorem W4 {u:HO}(ok:Gd P w H h)(e:Rd H a u):Bp P w H h a u:=e.ok ok
theorem Np {kvs:List (Key×V)}(ok:Gd P w H h)(e:Rd H a (.dK kvs)):kvs.length<=sizeLine/\(a==sysModules)=false/\∃vs,KV kvs vs/\h.DictOf (Bx P w) a vs:=
 show Bp P w H h a (.dK kvs) from W4 ok e
theorem lK {kvs:List (Key×V)}(ok:Gd P w H h)(e:H a=some (.dK kvs)):kvs.length<=sizeLine/\(a==sysModules)=false/\∃vs,KV kvs vs/\h.DictOf (Bx P w) a vs:=Np ok (.inl e)
theorem Lm {ks:List Key}(ok:Gd P w H h)(e:H a=some (.tup (ks.map kV))):(tupleKind (Bx P w)).is h ks a:=by
 obtain⟨_,aa,r,o,h1,h2,n,h3⟩:=(show Bp P w H h a (.tup (ks.map kV)) from ok a _ e);exact⟨o,aa.toArray,n,h1,h2,h3,by simpa using Nn r⟩
theorem Ln {kvs:List (List Key×V)}(ok:Gd P w H h)(e:Rd H a (.dT kvs)):kvs.length<=sizeLine/\(a==sysModules)=false/\
 ∃xs,KT H kvs xs/\h.DictOfH (tupleKind (Bx P w)) a xs:=by
 obtain⟨z,y,xs,r,o,es,ep,h1,h2,h3,h4,h5⟩:=(show Bp P w H h a (.dT kvs) from W4 ok e);refine⟨z,y,xs,r,o,es,ep,h1,h2,h3,h4,λ x hx=>?_,h5⟩;have all:∀ {l:List (List Key×V)} {m:List (List Key×Addr×Value)},KT H l m->∀x∈m,(tupleKind (Bx P w)).is h x.1 x.2.1:=by
  intro l m q;induction q with
  |nil=>intro x hx;exact nomatch hx
  | @cons p q ps qs hq t ih =>
   intro x hx;rcases zl.mp hx with e|hx
   ·subst e;exact Lm ok (by rw[<-hq.1];exact hq.2.1)
   ·exact ih x hx
 exact all r x hx
theorem lL {kvs:List (List Key×V)}(ok:Gd P w H h)(e:H a=some (.dT kvs)):kvs.length<=sizeLine/\(a==sysModules)=false/\
 ∃xs,KT H kvs xs/\h.DictOfH (tupleKind (Bx P w)) a xs:=Ln ok (.inl e)
end
def Rx (H:Hp)(a:Addr)(y:V)(r:Option V):Prop:=
 (∃kvs k,Rd H a (.dK kvs)/\y=kV k/\r=MR kvs k)\/∃kvs k b,Rd H a (.dT kvs)/\y=.ref b/\H b=some (.tup (k.map kV))/\r=MR kvs k
def lM (H:Hp)(a:Addr)(y v:V)(H':Hp):Prop:=
 (∃kvs k,H a=some (.dK kvs)/\y=kV k/\kvs.length<sizeLine/\H'=upd H a (.dK (putK kvs k v))) \/
 ∃kvs k b,H a=some (.dT kvs)/\y=.ref b/\H b=some (.tup (k.map kV))/\kvs.length<sizeLine/\H'=upd H a (.dT (putK kvs k v))
section
variable {X:Cx}{pins:List (Addr×Obj)}{σ:St}{H:Hp}{s:Shared}{a:Addr}{y v:V}{u r:Value}{o:Option V}{A:Around}{E:Value->Shared->Prop}
theorem Inv.big (I:Inv X pins σ H s):sysModules<s.heap.objs.size:=by
 have h:mainGlobals<s.heap.objs.size:=(I.mod.glob.keeps I.bk).lt;exact Nat.lt_trans (by decide) h
theorem U9 {Q:Value->Shared->Prop}(hu:A.units+1<cLine)(I:Inv X pins σ H s)(g:Rx H a y (some v))(ry:RelV y u)(h:∀w' s',Inv X pins σ H s'->RelV v w'->Q w' s'):
 wpAny (model X.prog X.w) A (getItem (.ref a) u) Q E s:=by
 rcases g with ⟨kvs,k,e,ey,l⟩|⟨kvs,k,b,e,ey,eb,l⟩
 ·subst ey;obtain⟨z,hd,vs,rel,dd⟩:=Np I.Av e;obtain⟨w',hw,bu⟩:=HK.some_of (v:=v) (o:=valueAt vs k) (by rw[l];exact rel.val k);exact wpAny_getItem_of (PL ry) dd.mapOf hw (h w' _ (I.tok _) bu)
 ·subst ey;cases (show u=ya b from ry);obtain⟨z,hd,xs,rel,dd⟩:=Ln I.Av e;obtain⟨w',hw,bu⟩:=HK.some_of (v:=v) (o:=(atKey xs k).map (·.2)) (by rw[l];exact rel.val k);obtain⟨p,hp,l7⟩:=Option.map_eq_some_iff.mp hw;refine wpAny_getItem_heap (tupleKind_room_in1 hu) (Lm I.Av eb) dd hp ?_;rw[l7];exact h w' _ (I.tok _) bu
theorem pF {Q:Value->Shared->Prop}(hu:A.units+1<cLine)(I:Inv X pins σ H s)(g:Rx H a y o)(ry:RelV y u)(h:∀s',Inv X pins σ H s'->Q (.bool o.isSome) s'):
 wpAny (model X.prog X.w) A (compareOp .In u (.ref a)) Q E s:=by
 rcases g with ⟨kvs,k,e,ey,l⟩|⟨kvs,k,b,e,ey,eb,l⟩
 ·subst ey;obtain⟨z,hd,vs,rel,dd⟩:=Np I.Av e;refine wpAny_in_of (PL ry) hd dd.mapOf ?_;rw[<-(rel.val k).EO,<-l];exact h _ (I.tok _)
 ·subst ey;cases (show u=ya b from ry);obtain⟨z,hd,xs,rel,dd⟩:=Ln I.Av e;refine wpAny_in_heap (tupleKind_room_in1 hu) (Lm I.Av eb) hd dd ?_;have q:=(rel.val k).EO;rw[Option.isSome_map] at q;rw[<-q,<-l];exact h _ (I.tok _)
theorem YA {Q:Value->Shared->Prop}(hu:A.units+1<cLine)(I:Inv X pins σ H s)(g:Rx H a y o)(ry:RelV y u)(h:∀s',Inv X pins σ H s'->Q (.bool (!o.isSome)) s'):
 wpAny (model X.prog X.w) A (compareOp .NotIn u (.ref a)) Q E s:=by
 rcases g with ⟨kvs,k,e,ey,l⟩|⟨kvs,k,b,e,ey,eb,l⟩
 ·subst ey;obtain⟨z,hd,vs,rel,dd⟩:=Np I.Av e;refine wpAny_notIn_of (PL ry) hd dd.mapOf ?_;rw[<-(rel.val k).EO,<-l];exact h _ (I.tok _)
 ·subst ey;cases (show u=ya b from ry);obtain⟨z,hd,xs,rel,dd⟩:=Ln I.Av e;refine wpAny_notIn_heap (tupleKind_room_in1 hu) (Lm I.Av eb) hd dd ?_;have q:=(rel.val k).EO;rw[Option.isSome_map] at q;rw[<-q,<-l];exact h _ (I.tok _)
theorem SA {h':Heap}{t':Nat}{ob:HO}(I:Inv X pins σ H s)(mu:kG (H a))(hs:yW a s.heap h')(he:∃q,h'.get? a=some q)(new:Bp X.prog X.w (upd H a ob) h' a ob):
 Inv X pins σ (upd H a ob) {s with heap:=h',toks:=t' }:=
 I.write (x:=a) (e:=a) mu (.inl rfl) (λ b q hb z=>(hs.2 b hb).trans z) he new
theorem fO {P:Program}{w:World}{H':Hp}{h':Heap}{kvs:List (Key×V)}{vs:List (Key×Value)}(z:kvs.length<=sizeLine)(hd:(a==sysModules)=false)(rel:KV kvs vs)(dd:h'.DictOf (Bx P w) a vs):
 Bp P w H' h' a (.dK kvs):=⟨z,hd,vs,rel,dd⟩
theorem Ua {H':Hp}{Q:Unit->Shared->Prop}(hu:A.units+1<cLine)(I:Inv X pins σ H s)(g:lM H a y v H')(ry:RelV y u)(rv:RelV v r)(h:∀s',Inv X pins σ H' s'->Q () s'):
 wpAny (model X.prog X.w) A (setItem (.ref a) u r) Q E s:=by
 rcases g with ⟨kvs,k,e,ey,l,eH⟩|⟨kvs,k,b,e,ey,eb,l,eH⟩
 ·subst ey eH;obtain⟨z,hd,vs,rel,dd⟩:=lK I.Av e;have hz:vs.length<=sizeLine:=by rw[<-rel.length];exact z
  have hl:(putK kvs k v).length<=sizeLine:=by have:=Ko kvs k v;omega
  refine wpAny_setItem_pairs (hsz:=hz) (PL ry) dd λ h' jz hs=>h _ ?_;have he:∃q,h'.get? a=some q:=let ⟨q,_,_,hq,_⟩:=jz;⟨q,hq⟩;exact SA I (by rw[e];exact True.intro) hs he (fO hl hd (rel.put k rv) jz)
 ·subst ey eH;cases (show u=ya b from ry);obtain⟨z,hd,xs,rel,dd⟩:=lL I.Av e;have hz:xs.length<=sizeLine:=by rw[<-Paired.length rel];exact z
  have hl:(putK kvs k v).length<=sizeLine:=by have:=Ko kvs k v;omega
  refine wpAny_setItem_heap (hsz:=hz) (tupleKind_room_in1 hu) (Lm I.Av eb) dd λ h' jz hs=>h _ ?_;obtain⟨q,es,ep,hq,h2,h3,h4,_,h5⟩:=jz;refine SA I (by rw[e];exact True.intro) hs ⟨q,hq⟩ ⟨hl,hd,_,(rel.put k eb rv).keeps λ c ys ec=>?_,q,es,ep,hq,h2,h3,h4,h5⟩;rw[Am (kF ec e (λ z=>nomatch z))];exact ec
end
theorem PM {X:Cx}{pins:List (Addr×Obj)}{σ:St}{H:Hp}{s:Shared}{a:Addr}{y:V}{o:Option V}(I:Inv X pins σ H s)(g:Rx H a y o):s.TypeIs (.ref a) "dict" := by
 rcases g with ⟨kvs,k,e,_,_⟩|⟨kvs,k,b,e,_,_,_⟩
 ·obtain⟨_,_,vs,_,dd⟩:=Np I.Av e;exact dd.typeIs
 ·obtain⟨_,_,xs,_,dd⟩:=Ln I.Av e;exact dd.typeIs
noncomputable def lN (td ty tv:TE):TS:=λ D σ H=>tv σ H λ v H1=>td σ H1 λ x H2=>ty σ H2 λ y H3=>∃a H4,x=.ref a/\lM H3 a y v H4/\D.nx σ H4
section
variable {X:Cx}{o i e value:Expr}{pos pos' br:Pos}{td ty tv:TE}
theorem YB (hu:X.A.units+1<cLine)(ho:PE X o td)(hi:PE X i ty)(hv:PE X value tv)(hs:swapsWith value (some (.Subscript o i pos')) pos.line X.env=pure false):
 PS X (.Assign [.Subscript o i pos'] value pos) (lN td ty tv):=by
 intro pins s σ H D I h;refine wpAny_Assign_Subscript (Bc (hv pins s σ H _ I h) λ r s1 ⟨v,H1,I1,rv,q1⟩=>Bc (ho pins s1 σ H1 _ I1 q1) λ u s2 ⟨x,H2,I2,rx,q2⟩=>Bc (hi pins s2 σ H2 _ I2 q2) λ iv s3 ⟨y,H3,I3,ry,a,H4,ex,g,q3⟩=>?_) hs;subst ex;obtain rfl:u=ya a:=rx;exact Ua hu I3 g ry rv λ s4 I4=>⟨σ,H4,I4,q3⟩
end
theorem W5 {P:Program}{w:World}{H:Hp}(h:Heap)(hb:sysModules<h.objs.size):Bp P w H (h.push {cls:=.type "dict",data:=.dict #[]}) h.objs.size (.dK []):=
 ⟨zT _,beq_eq_false_iff_ne.mpr (yh (zJ hb)),[],.nil,Heap.DictOf.new h⟩
theorem W6 {P:Program}{w:World}{H:Hp}(h:Heap)(hb:sysModules<h.objs.size):Bp P w H (h.push {cls:=.type "dict",data:=.dict #[]}) h.objs.size (.dT []):=
 ⟨zT _,beq_eq_false_iff_ne.mpr (yh (zJ hb)),[],.nil,_,#[],0,zD _ rfl,⟨rfl,rfl,rfl⟩,rfl,rfl,yC⟩
noncomputable def fP:TE:=λ _ H Q=>∀p,H p=none->Q (.ref p) (upd H p (.dK []))
noncomputable def fQ:TE:=λ _ H Q=>∀p,H p=none->Q (.ref p) (upd H p (.dT []))
section
variable {X:Cx}{pos:Pos}
theorem W7:PE X (.Dict [] [] pos) fP:=λ pins s σ H Q I h =>
 wpAny_Dict_empty ⟨.ref s.heap.objs.size,_,I.laid (a:=s.heap.objs.size) (o:=.dK []) (t':=s.toks) (λ _ _ q=>zj _ q) (zu _) (W5 s.heap I.big),rfl,h _ (I.Av.fresh (zu _))⟩
theorem W8:PE X (.Dict [] [] pos) fQ:=λ pins s σ H Q I h =>
 wpAny_Dict_empty ⟨.ref s.heap.objs.size,_,I.laid (a:=s.heap.objs.size) (o:=.dT []) (t':=s.toks) (λ _ _ q=>zj _ q) (zu _) (W6 s.heap I.big),rfl,h _ (I.Av.fresh (zu _))⟩
end
def tF (H:Hp)(a:Addr):Prop:=(∃kvs,Rd H a (.dK kvs))\/∃kvs,Rd H a (.dT kvs)
theorem W9 {X:Cx}{pins:List (Addr×Obj)}{σ:St}{H:Hp}{s:Shared}{a:Addr}(I:Inv X pins σ H s)(d:tF H a):
 s.TypeIs (.ref a) "dict" /\ (∀b,ya a=.ref b->∃ob,s.heap.get? b=some ob/\ob.dict=none)/\(a==sysModules)=false:=by
 rcases d with ⟨kvs,e⟩|⟨kvs,e⟩
 ·obtain⟨_,hd,vs,_,dd⟩:=Np I.Av e;refine⟨dd.typeIs,λ b q=>?_,hd⟩;cases q;obtain⟨ob,_,_,h1,h2,_⟩:=dd;exact⟨ob,h1,h2.2.1⟩
 ·obtain⟨_,hd,xs,_,dd⟩:=Ln I.Av e;refine⟨dd.typeIs,λ b q=>?_,hd⟩;cases q;obtain⟨ob,_,_,h1,h2,_⟩:=dd;exact⟨ob,h1,h2.2.1⟩
noncomputable def JB (sc outer:Scope):Bool:=
 decide (sc.kind=.function)&&sc.names.all λ y=>decide (y.2≠.cell)&&(decide (y.2≠.free)||decide (outer.names.lookup y.1=some .cell)||decide (outer.names.lookup y.1=some .free))&&(decide (y.2≠.local)||decide (sc.names.lookup y.1=some .local))
noncomputable def PN (N NB:List Str)(sc:Scope)(μ:List (Option Nat)):Bool:=
 decide (NB.length=μ.length)&&(NB.zip μ).all λ p=>match p.2 with
  |none=>true
  |some i=>decide (N[i]?=some p.1)&&decide (sc.names.lookup p.1=some .free)
noncomputable def Ey (μ:List (Option Nat))(σ:St):St:=μ.map λ o=>o.bind λ i=>(σ[i]?).join
noncomputable def HL (cells:List (Str×Addr)):List (Str×NameKind)->List (Str×Addr)->List (Str×Addr)
 |[],cs=>cs
 |(n,k)::r,cs=>HL cells r (if (k==.free)=true then (n,(cells.lookup n).getD 0)::cs else cs)
theorem HQ {scope:Scope}{env:Env}(h:∀y∈scope.names,y.2=.free->∃c,env.cells.lookup y.1=some c):closureFor scope env=pure (HL env.cells scope.names []):=by
 unfold closureFor;have key:∀(names:List (Str×NameKind)) (cs:List (Str×Addr)),(∀y∈names,y.2=.free->∃c,env.cells.lookup y.1=some c)->
  (forIn names cs λ(x:Str×NameKind) r=>match x with
   |(name,kind)=>if (kind==xa)=true then do
    let __do_lift <-cellOf env name
    pure (xp ((name,__do_lift)::r))
    else pure (xp r):Sem _)=pure (HL env.cells names cs):=by
  intro names;induction names with
  |nil=>intro cs _;rfl
  |cons y r ih =>
   intro cs hy;obtain⟨n,k⟩:=y;rw[List.forIn_cons];by_cases hk:k=.free
   ·subst hk;obtain⟨c,hc⟩:=hy (n,.free) zd rfl;have e:cellOf env n=pure c:=by unfold cellOf;rw[show env.cells.lookup n=some c from hc]
    simp only[e,beq_self_eq_true,if_true,pure_bind];rw[ih _ λ z hz=>hy z (ze _ hz)];simp only[HL,beq_self_eq_true,if_true];rw[show env.cells.lookup n=some c from hc];rfl
   ·have hb:(k==xa)=false:=by simpa using hk
    simp only[hb,zC,if_false,pure_bind];rw[ih _ λ z hz=>hy z (ze _ hz)];simp only[HL,hb,zC,if_false]
 have q:=key scope.names [] h;simp only[bind_pure];exact q
theorem PP {cells:List (Str×Addr)}:∀ {names:List (Str×NameKind)}{cs:List (Str×Addr)}{x:Str}{c:Addr},(x,c)∈HL cells names cs->(x,c)∈cs\/((x,.free)∈names/\c=(cells.lookup x).getD 0)
 |[],cs,x,c,h=>.inl h
 |(n,k)::r,cs,x,c,h=>by
  rcases PP (names:=r) h with q|⟨q,e⟩
  ·by_cases hk:k=.free
   ·subst hk;simp only[beq_self_eq_true,if_true] at q;rcases zl.mp q with z|z
    ·cases z;exact .inr ⟨zd,rfl⟩
    ·exact .inl z
   ·have hb:(k==xa)=false:=by simpa using hk
    simp only[hb,zC,if_false] at q;exact .inl q
  ·exact .inr ⟨ze _ q,e⟩
theorem Lo {cells:List (Str×Addr)}:∀ {names:List (Str×NameKind)}{cs:List (Str×Addr)}{p:Str×Addr},p∈cs->p∈HL cells names cs
 |[],_,_,h=>h
 |(n,k)::r,cs,p,h=>by
  show p∈HL cells r _;refine Lo ?_;by_cases hk:(k==xa)=true
  ·rw[if_pos hk];exact ze _ h
  ·rw[if_neg hk];exact h
theorem Lp {cells:List (Str×Addr)}:∀ {names:List (Str×NameKind)}{cs:List (Str×Addr)}{x:Str},(x,.free)∈names->∃c,(x,c)∈HL cells names cs
 |(n,k)::r,cs,x,h=>by
  rcases zl.mp h with z|z
  ·cases z;refine⟨(cells.lookup n).getD 0,?_⟩;show _∈HL cells r (if (xa==xa)=true then _ else _);exact Lo (by rw[if_pos (beq_self_eq_true _)];exact zd)
  ·exact Lp (names:=r) z
theorem Ez {x:Str}{c:Addr}:∀ {l:List (Str×Addr)},(x,c)∈l->∃c',l.lookup x=some c'
 |(y,d)::r,h=>by
  rw[yY];by_cases e:(x==y)=true
  ·rw[e];exact⟨d,rfl⟩
  ·rw[Bool.eq_false_iff.mpr e];rcases zl.mp h with z|z
   ·cases z;exact absurd (beq_self_eq_true x) e
   ·exact Ez z
theorem IW {scope:Scope}{env:Env}{x:Str}{k:NameKind}(h:(relabel scope env).names.lookup x=some k):∃k',scope.names.lookup x=some k'/\(k=k'\/(k'=.free/\k=.cell)):=by
 unfold relabel at h;dsimp only at h;revert h;induction scope.names with
 |nil=>intro h;cases h
 |cons y r ih =>
  obtain⟨n,k'⟩:=y;intro h;rw[zg,yY] at h;rw[yY];by_cases hc:(k'==xa&&env.scope.kind==.function&&env.kindOf n==some .cell)=true
  ·dsimp only at h;rw[if_pos hc] at h;dsimp only at h;cases e:x==n with
   |true =>
    rw[e] at h;have hf:k'=.free:=by
     have:=hc;simp only[zW] at this;simpa using this.1.1
    exact⟨k',rfl,.inr ⟨hf,(zH h).symm⟩⟩
   |false=>rw[e] at h;exact ih h
  ·dsimp only at h;rw[if_neg hc] at h;dsimp only at h;cases e:x==n with
   |true=>rw[e] at h;exact⟨k',rfl,.inl (zH h).symm⟩
   |false=>rw[e] at h;exact ih h
theorem lookup_mem {α:Type}{x:Str}{k:α}:∀ {l:List (Str×α)},l.lookup x=some k->(x,k)∈l
 |(y,d)::r,h=>by
  rw[yY] at h;cases e:x==y with
  |true =>
   rw[e] at h;cases h;have:x=y:=by simpa using e
   subst this;exact zd
  |false=>rw[e] at h;exact ze _ (lookup_mem h)
noncomputable def blockOf (X:Cx)(s:Shared)(H:Hp)(scope:Scope)(C:Addr)(NB:List Str)(ex:List Addr):Cx:=
 {X with N:=NB,s₀:=s,H₀:=H,env:=compEnvC scope (HL X.env.cells scope.names []) C X.env,outer:=X.stack,stack:=X.stack,ex:=ex,fn:=λ _=>false,pn:=[],xe:=λ _ _=>False}
section
variable {X:Cx}{pins:List (Addr×Obj)}{σ:St}{H:Hp}{s s4:Shared}{scope:Scope}{NB:List Str}{μ:List (Option Nat)}{fp:List Addr}{C:Addr}
theorem Hc (h:JB scope X.env.scope=true):scope.kind=.function:=by
 unfold JB at h;simp only[zW,decide_eq_true_eq] at h;exact h.1
theorem Hd {sc outer:Scope}(h:JB sc outer=true){y:Str×NameKind}(hy:y∈sc.names):y.2≠.cell/\(y.2=.free->outer.names.lookup y.1=some .cell\/outer.names.lookup y.1=some .free)/\(y.2=.local->sc.names.lookup y.1=some .local):=by
 unfold JB at h;simp only[zW,decide_eq_true_eq,List.all_eq_true,Bool.or_eq_true] at h;obtain⟨⟨h1,h2⟩,h3⟩:=h.2 y hy;exact⟨h1,λ e=>by
  rcases h2 with (q|q)|q
  ·exact absurd e q
  ·exact .inl q
  ·exact .inr q,λ e=>h3.elim (λ q=>absurd e q) id⟩
theorem Ib (I:Inv X pins σ H s)(h:JB scope X.env.scope=true){x:Str}(hx:(x,.free)∈scope.names):∃c,X.env.cells.lookup x=some c:=I.ok.has x ((Hd h hx).2.1 rfl)
theorem DQ (I:Inv X pins σ H s)(h:JB scope X.env.scope=true){x:Str}{c:Addr}(e:(HL X.env.cells scope.names []).lookup x=some c):X.env.cells.lookup x=some c:=by
 rcases PP (lookup_mem e) with q|⟨q,r⟩
 ·cases q
 ·obtain⟨c',e'⟩:=Ib I h q;rw[e'] at r;rw[e',r];rfl
theorem Lq {env:Env}(h:JB scope env.scope=true){x:Str}{k:NameKind}(hk:(relabel scope env).names.lookup x=some k)(hc:k=.cell\/k=.free):(x,.free)∈scope.names:=by
 obtain⟨k',e,q⟩:=IW hk;have m:=lookup_mem e;have n:=(Hd h m).1;rcases q with q|⟨q,_⟩
 ·subst q;rcases hc with z|z
  ·exact absurd z n
  ·subst z;exact m
 ·subst q;exact m
theorem YC (h:PN X.N NB scope μ=true):NB.length=μ.length/\∀(j i:Nat),μ[j]?=some (some i)->∃x,NB[j]?=some x/\X.N[i]?=some x/\scope.names.lookup x=some .free:=by
 unfold PN at h;simp only[zW,decide_eq_true_eq,List.all_eq_true] at h;refine⟨h.1,λ j i e=>?_⟩;have hj:j<NB.length:=by rw[h.1];exact (zy.mp e).1
 have m:(NB[j],some i)∈NB.zip μ:=by
  refine List.mem_iff_getElem?.mpr ⟨j,?_⟩;rw[List.getElem?_zip_eq_some];exact⟨zr hj,e⟩
 have q:=h.2 _ m;dsimp only at q;simp only[zW,decide_eq_true_eq] at q;exact⟨NB[j],zr hj,q.1,q.2⟩
theorem PQ (I:Inv X pins σ H s)(a9:JB scope X.env.scope=true)(bF:PN X.N NB scope μ=true)(gh:∀b∈fp,KG X pins H b)(j0:∀b∈fp,∃o,s.heap.get? b=some o)
 (hC:s.heap.objs.size<=C) {h4:Heap} {t4:Nat} (ns:h4.Ns C λ _=>none) (k:∀b o,s.heap.get? b=some o->h4.get? b=some o):
 Inv (blockOf X s H scope C NB fp) [] (Ey μ σ) H {s with heap:=h4,toks:=t4}:=by
 obtain⟨hlen,bF⟩:=YC bF;have rq:∀b o,s.heap.get? b=some o->b≠C:=λ b o e=>zJ (zF (zt e) hC);have j1:∀x c,X.env.cells.lookup x=some c->c≠C:=λ x c e=>by
  obtain⟨v,o,ho,_⟩:=I.cell x c e;exact rq c o ho
 refine⟨⟨I.ok.mod,(show scope.kind=_ from Hc a9),I.ok.glob,I.ok.blt,hC,λ x y c h1 h2=>I.ok.inj x y c (DQ I a9 h1) (DQ I a9 h2),λ x hx=>?_,λ x c h _=>(by cases h),I.ok.hd,I.ok.frames,.inl rfl,λ b hb=>?_,I.bs,yn I.ok.Y8 I.sz,λ b o e hb=>?_,λ b hb hz=>?_,I.stack,I.Of⟩,
  rfl,I.bare,Un.kept k,⟨_,ns,λ j x v e1 e2 e3=>?_⟩,λ x c e=>?_,I.Av.fresh hC,λ x c e=>I.Gp x c (DQ I a9 e),λ p hp=>(by cases hp),I.Av.kept k,?_⟩
 ·have q:(x,xa)∈scope.names:=by
   rcases hx with hx|hx
   ·exact Lq a9 hx (.inl rfl)
   ·exact Lq a9 hx (.inr rfl)
  obtain⟨c,m⟩:=Lp (cells:=X.env.cells) (cs:=[]) q;exact Ez m
 ·obtain⟨o,ho⟩:=j0 b hb;refine⟨rq b o ho,λ x c e z=>?_⟩;exact (gh b hb).2.2.2.2.1 x c (DQ I a9 e) z
 ·rcases (gh b hb).2.2.2.1 with z|z
  ·exact I.ok.Vz b o e z
  ·exact absurd (zF (zt (I.ok.bs b o e).1) z) (Nat.lt_irrefl _)
 ·rcases zl.mp (I.Rc b hz) with e|e
  ·exact (gh b hb).2.1 e
  ·exact (gh b hb).2.2.1 e
 ·have ib:(μ[j]?).map (λ o=>o.bind λ i=>(σ[i]?).join)=some (some v):=by
   rw[<-zG];exact e2
  cases q:μ[j]? with
  |none=>rw[q] at ib;cases ib
  |some o =>
   rw[q] at ib;cases o with
   |none=>cases ib
   |some i =>
    have e4:(σ[i]?).join=some v:=by simpa using ib
    have e5:σ[i]?=some (some v):=by
     cases z:σ[i]? with
     |none=>rw[z] at e4;cases e4
     |some w=>rw[z] at e4;simp at e4;rw[e4]
    obtain⟨x',n1,n2,n3⟩:=bF j i q;have ex:x'=x:=zH (n1.symm.trans e1);subst ex;have m:=lookup_mem n3;have ov:=(Hd a9 m).2.1 rfl;obtain⟨mm,hn,hl⟩:=I.loc;obtain⟨u,r,l⟩:=hl i x' v n2 e5 (ov.elim (λ z=>.inr (.inl z)) λ z=>.inr (.inr z));refine⟨u,r,.inr ⟨?_,?_⟩⟩
    ·rcases e3 with z|z|z
     ·obtain⟨k',z1,z2⟩:=IW (k:=.local) z;rw[n3] at z1;cases z1;rcases z2 with z2|⟨_,z2⟩<;>cases z2
     ·exact .inl z
     ·exact .inr z
    ·rcases l with ⟨l,_⟩|⟨_,c,l1,l2⟩
     ·rcases ov with z|z<;>(rw[show X.env.kindOf x'=_ from z] at l;cases l)
     ·obtain⟨c',m'⟩:=Lp (cells:=X.env.cells) (cs:=[]) m;obtain⟨v9,l3⟩:=Ez m';have l4:=DQ I a9 l3;rw[l1] at l4;cases l4;refine⟨c,l3,?_⟩;obtain⟨o,ho,hd⟩:=l2;exact⟨o,k _ _ ho,hd⟩
 ·obtain⟨v,o,ho,hd⟩:=I.cell x c (DQ I a9 e);exact⟨v,o,k _ _ ho,hd⟩
 ·show (Ey μ σ).length=NB.length;unfold Ey;rw[zf,hlen]
theorem Gd.adopt {P:Program}{w:World}{H:Hp}{h:Heap}{a:Addr}{o:HO}(x:Gd P w H h)(hn:H a=none)(new:Bp P w (upd H a o) h a o):Gd P w (upd H a o) h:=λ b u e=>by
 by_cases hb:b=a
 ·subst hb;rw[AH] at e;cases e;exact new
 ·rw[Am hb] at e;exact (x b u e).Od (λ c v _ q=>q) (λ c q=>by rw[Am (Ay q hn)];exact q) λ c xs q=>by rw[Am (Ay q hn)];exact q
theorem Ub {H':Hp}{s':Shared}{h':Heap}{D:Addr}{pl:List (Addr×Obj)}{σ':St}{aa:List Value}{ys:List V}{n:Nat}(I:Inv X pins σ H s)(gh:∀b∈fp,KG X pins H b)(J:Inv (blockOf X s H scope C NB fp) pl σ' H' s')
 (hC:s.heap.objs.size<=C) (hD:s.heap.objs.size<=D) (cr:D≠C) (eD:s'.heap.get? D=some {cls:=.type "list",data:=.seq aa.toArray n}) (nD:H' D=none) (r:Vals ys aa) (hz:ys.length<=sizeLine)
 (sb:yW C s'.heap h'):Inv X pins σ (upd H' D (.lst ys)) {s' with heap:=h' }:=by
 have dv:∀b o,s.heap.get? b=some o->b≠C:=λ b o e=>zJ (zF (zt e) hC);have l8:∀b o,s.heap.get? b=some o->b≠D:=λ b o e=>zJ (zF (zt e) hD);have freshD:H D=none:=I.Av.fresh hD;have nC:H' C=none:=J.free;have u:Un (Kl X.stack) fp H H' s.heap s'.heap:=J.base;have du:Gd X.prog X.w H' h':=λ b ob e=>(J.Av b ob e).Od (λ c v hc q=>(sb.2 c (by
  intro z;subst z;rcases hc with rfl|hc
  ·rw[nC] at e;cases e
  ·rw[nC] at hc;cases hc)).trans q) (λ _ q=>q) λ _ _ q=>q
 refine I.ZX (ch:=fp) J.os ⟨λ b o e n hb hx=>?_,λ b o e n hb hx=>?_,λ b o e n hx=>?_,λ b o e hx=>?_,λ b xs e=>?_,λ b o u' e=>?_,λ b ps e=>?_⟩ (du.adopt nD ⟨hz,aa,n,r,(sb.2 D cr).trans eD⟩) J.bare λ b hb=>?_
 ·exact (sb.2 b (dv b o e)).trans (u.keep b o e n hb hx)
 ·obtain⟨sl,q⟩:=u.slot b o e n hb hx;exact⟨sl,(sb.2 b (dv b o e)).trans q⟩
 ·rw[Am (l8 b o e)];exact u.free b o e n hx
 ·obtain⟨o',q⟩:=u.there b o e hx;exact⟨o',(sb.2 b (dv b o e)).trans q⟩
 ·rw[Am (Ay e freshD)];exact u.MK b xs e
 ·rw[Am (Ay e freshD)];exact u.Le b o u' e
 ·rw[Am (Ay e freshD)];exact u.ML b ps e
 ·obtain⟨_,f1,_,f3,f4,f5⟩:=gh b hb;exact⟨f3,f1,f4,f5⟩
end
theorem Ot {prog:Program}{w:World}{A:Around}{R:Result->Shared->Prop}{s:Shared}{elt target iter:Expr}{ifs:List Expr}{scope:Scope}{pos:Pos}{it acc:Value}{env:Env}(I:Nat->Shared->Prop)
 (turn:∀n s,I n s->wpAny (model prog w) A (pyNext it) (λ r s₁=>match r with
  |none=>R (.ok .next) s₁
  |some v=>wpAny (model prog w) A (letOwnedTupleGo target it v) (λ _ s₁'=>wpAny (model prog w) A (assign target env v) (λ _ s₂ =>
   wpAny (model prog w) A (forIn ifs true λ c r=>if r=true then do let ok <-isTrue c env (eval c env);pure (xp ok) else pure (xp r)) (λ ok s₃ =>
    if ok=true then wpAny (model prog w) A (eval elt env) (λ x s₄ =>
     wpAny (model prog w) A (call (.builtin "list.append") [acc,x]) (λ _ s₅=>∃m,m<n/\I m s₅) (λ _ _=>False) s₄) (λ _ _=>False) s₃
    else ∃m,m<n/\I m s₃) (λ _ _=>False) s₂) (λ _ _=>False) s₁') (λ _ _=>False) s₁) (λ _ _=>False) s)
 (n:Nat) (h:I n s):
 codeAny (model prog w) A (.compLoop (.ListComp elt [⟨target,iter,ifs,0⟩] scope pos) 0 it acc env) R s:=by
 refine codeAny_loop rfl I (λ n s hI=>?_) n h;show wpAny _ A ((compTurn (.ListComp elt [⟨target,iter,ifs,0⟩] scope pos) 0 it acc env).onRaise (λ x=>do noteFrame x env;theTreesLotGoes x)) _ _ s;refine wpAny_noted ?_;rw[compTurn_list];refine wpAny_bind (wpAny_standAt (wpAny_bind (wpAny_mono (turn n s hI) (λ r s₁ h₁=>?_) λ _ _ h'=>h'.elim)));cases r with
 |none=>exact wpAny_pure h₁
 |some v =>
  refine wpAny_bind (wpAny_mono h₁ (λ _ s₁' h₁'=>?_) λ _ _ h'=>h'.elim);refine wpAny_bind (wpAny_mono h₁' (λ _ s₂ h₂=>wpAny_bind (wpAny_mono h₂ (λ ok s₃ h₃=>?_) λ _ _ h'=>h'.elim)) λ _ _ h'=>h'.elim);cases ok with
  |false=>exact wpAny_pure ⟨rfl,h₃⟩
  |true =>
   exact wpAny_bind (wpAny_bind (wpAny_mono h₃ (λ x s₄ h₄=>wpAny_bind (wpAny_mono h₄ (λ _ s₅ h₅=>wpAny_pure (wpAny_pure ⟨rfl,h₅⟩)) λ _ _ h'=>h'.elim)) λ _ _ h'=>h'.elim))
def jT (X:Cx)(cs:List Expr)(t:TT):Prop:=
 ∀(pins:List (Addr×Obj)) (s:Shared) (σ:St) (H:Hp) (Q:Bool->Hp->Prop),Inv X pins σ H s->t σ H Q->
  wpAny (model X.prog X.w) X.A (forIn cs true λ c r=>if r=true then do let ok <-isTrue c X.env (eval c X.env);pure (xp ok) else pure (xp r)) (TP X pins σ Q) X.xe s
noncomputable def pG:TT:=λ _ H Q=>Q true H
theorem YD {X:Cx}:jT X [] pG:=λ _ _ _ H _ I h=>wpAny_tests_nil ⟨H,I,h⟩
theorem YE {X:Cx}{c:Expr}{t:TT}(h:PT X c t):jT X [c] t:=λ pins s σ H Q I q=>wpAny_tests_one (h pins s σ H Q I q)
def JC (μ:List (Option Nat))(g:TG):Prop:=∀σ x H Q,g x (Ey μ σ) H Q->g x (Ey μ σ) H λ σ' H'=>Q σ' H'/\∀(j:Nat) v,(Ey μ σ)[j]?=some (some v)->σ'[j]?=some (some v)
theorem YF {μ:List (Option Nat)}{i:Nat}(h:μ[i]?=some none):JC μ (Nc i):=λ σ x H Q q=>by
 refine⟨q,λ j v e=>?_⟩;have ae:j≠i:=λ z=>by
  subst z;unfold Ey at e;rw[zG,h] at e;cases e
 rw[yo (yh ae)];exact e
def rE (J:It)(H1:Hp)(Q:VK)(st:V->Hp->(St->Hp->Prop)->Prop)(tc:TT)(te:TE):Prop:=
 ∃W:Nat->Nat->List V->Hp->Prop,(∃m,W 0 m [] H1)/\∀i m ys H2,W i m ys H2->
  (J.stop i H2/\∀D,H2 D=none->Q (.ref D) (upd H2 D (.lst ys))) \/
  (J.go i H2/\ys.length<sizeLine/\∃N:List V->Hp->Prop,(∀bn H',N bn H'->∃m',m'<m/\W (i+1) m' bn H')/\∀x H3,J.ZY i H2 x H3->st x H3 λ σ4 H4=>tc σ4 H4 λ b H5=>if b=true then te σ4 H5 λ y H6=>N (ys++[y]) H6 else N ys H5)
noncomputable def SD (wi:TI)(μ:List (Option Nat))(g:TG)(tc:Shared->Hp->Addr->List Addr->TT)(te:Shared->Hp->Addr->List Addr->TE):TE:=λ σ H Q=>wi σ H λ J H1=>∀s C ex,rE J H1 Q (λ x H K=>g x (Ey μ σ) H K) (tc s H1 C ex) (te s H1 C ex)
section
variable {X:Cx}{pins:List (Addr×Obj)}{σ:St}{H2:Hp}{s2:Shared}{tg elt iter:Expr}{ifs:List Expr}{scope:Scope}{pos:Pos}{NB:List Str}{μ:List (Option Nat)}{g:TG}{tc:Shared->Hp->Addr->List Addr->TT}{te:Shared->Hp->Addr->List Addr->TE}{fp:List Addr}{it:Addr}{tn:Nat->Heap->Prop}{J:It}{Q:VK}
theorem Nq (hc:X.calm=true)(I2:Inv X pins σ H2 s2)(T:Turn X.prog X.w X.K tg J fp it tn)(c0:tn 0 s2.heap)(f2:∀b∈fp,KG X pins H2 b)
 (a9:JB scope X.env.scope=true) (bF:PN X.N NB scope μ=true) (ic:JC μ g)
 (hb:∀(s:Shared) (H:Hp) (C:Addr) (ex:List Addr),PG (blockOf X s H scope C NB ex) tg g/\jT (blockOf X s H scope C NB ex) ifs (tc s H C ex)/\PE (blockOf X s H scope C NB ex) elt (te s H C ex))
 (q:∀C,rE J H2 Q (λ x H K=>g x (Ey μ σ) H K) (tc s2 H2 C fp) (te s2 H2 C fp)) {RR:Value->Addr->Result->Shared->Prop} {E:Value->Shared->Prop}
 (fin:∀(D C:Addr) (s':Shared) (H':Hp) (ys:List V) (m:Str->Option Value),s2.heap.objs.size<=D->s2.heap.objs.size<=C->D≠C->s'.heap.Ns C m->H' C=none->(∀h',yW C s'.heap h'->Inv X pins σ (upd H' D (.lst ys)) {s' with heap:=h' })->Q (.ref D) (upd H' D (.lst ys))->RR (.ref D) C (.ok .next) s'):
 wpAny (model X.prog X.w) X.A (newList []) (λ acc s₃=>wpAny (model X.prog X.w) X.A (newFunctionEnv scope X.env.globals (HL X.env.cells scope.names []) [] X.env.qual none .none (some X.env)) (λ ie s₄ =>
  codeAny (model X.prog X.w) X.A (.compStart (.ListComp elt [⟨tg,iter,ifs,0⟩] scope pos) 0 (.ref it) acc {ie with scope:=relabel scope X.env}) (RR acc ie.locals) s₄) E s₃) E s2:=by
 have b9:∀y∈scope.names,y.2≠.cell:=λ y hy=>(Hd a9 hy).1;refine wpAny_newObj_type (wpAny_newFunctionEnv b9 (by intro y hy;simp at hy) (λ h₁ hns₁ hsb₁=>?_) (Hc a9));dsimp only at hns₁ hsb₁ ⊢;generalize l9:s2.heap.push {cls:=.type "list",dict:=none,data:=.seq ([]:List Value).toArray}=j2 at hns₁ hsb₁ ⊢;have hC:j2.objs.size=s2.heap.objs.size+1:=by rw[<-l9,Heap.size_push]
 have cr:s2.heap.objs.size≠j2.objs.size:=by rw[hC];exact zJ (Nat.lt_succ_self _)
 have ig:s2.heap.objs.size<=j2.objs.size:=by rw[hC];exact Nat.le_succ _
 have old:∀b o,s2.heap.get? b=some o->h₁.get? b=some o:=λ b o e=>hsb₁.extBut b o (by rw[hC];exact zJ (Nat.lt_succ_of_lt (zt e))) (zj _ (l9▸zj _ e));have eD:h₁.get? s2.heap.objs.size=some {cls:=.type "list",data:=.seq ([]:List Value).toArray}:=hsb₁.extBut _ _ cr (zj _ (l9▸zD _ rfl));have j0:∀b∈fp,∃o,s2.heap.get? b=some o:=λ b hb=>let ⟨o,e,_⟩:=T.obj _ _ c0 b hb;⟨o,e⟩;have me:∀b∈fp,b≠s2.heap.objs.size:=λ b hb=>let ⟨o,e⟩:=j0 b hb;zJ (zt e);generalize rz:s2.heap.objs.size=D at ig cr eD me ⊢;generalize vA:j2.objs.size=C at *;have bG:s2.heap.objs.size<=D:=by rw[rz];exact zu _
 have bT:s2.heap.objs.size<=C:=by rw[rz];exact ig
 have I4:Inv (blockOf X s2 H2 scope C NB fp) [] (Ey μ σ) H2 {s2 with heap:=h₁,toks:=s2.toks+([]:List (Str×Value)).length}:=PQ I2 a9 bF f2 j0 bT (by simpa using hns₁) old;have bp:∀ {H':Hp} {pl:List (Addr×Obj)},(∀b∈fp,H' b=none)->(∀p∈pl,p.1=D)->∀b∈fp,KG (blockOf X s2 H2 scope C NB fp) pl H' b:=fun {H' pl} hn hp b hb=>by
  refine⟨hn b hb,(I4.ok.nJ b hb).1,I4.ok.VA b hb,.inl hb,λ x c e z=>(I4.ok.nJ b hb).2 x c e z,λ p ii z=>?_⟩;have mf:p∈pl:=by simpa [blockOf] using ii
  exact me b hb (z▸hp p mf)
 have tx:D∉(blockOf X s2 H2 scope C NB fp).fs:=λ z=>by
  obtain⟨_,o,ho,_⟩:=I4.ok.IQ.mem z;exact absurd (zt ho) (Nat.not_lt.mpr bG)
 obtain⟨W,⟨m0,w0⟩,turn⟩:=q C;have loop:∀s₃:Shared,s₃={s2 with heap:=h₁,toks:=s2.toks+([]:List (Str×Value)).length} ->
  codeAny (model X.prog X.w) X.A (.compLoop (.ListComp elt [⟨tg,iter,ifs,0⟩] scope pos) 0 (.ref it) (.ref D) (compEnvC scope (HL X.env.cells scope.names []) C X.env)) (RR (.ref D) C) s₃:=by
  rintro s₃ rfl;refine Ot (λ n s'=>∃i ys aa k H',Inv (blockOf X s2 H2 scope C NB fp) [(D,{cls:=.type "list",data:=.seq aa k})] (Ey μ σ) H' s'/\tn i s'.heap/\(∀b∈fp,H' b=none)/\Vals ys aa.toList/\ys.length<=sizeLine/\W i n ys H') ?_ m0
   ⟨0,[],#[],0,H2,I4.IR λ p hp=>?_,T.keep _ _ _ c0 λ b hb o e=>old b o e,λ b hb=>(f2 b hb).1,.nil,zT _,w0⟩
  rotate_left
  ·have e:=zw.mp hp;subst e;exact⟨eD,I2.Av.fresh bG,cr,tx,λ v=>by simp⟩
  rintro n s3 ⟨i,ys,aa,k,H3,I3,gw,gx,rv,hz,w3⟩;rcases turn i n ys H3 w3 with ⟨stop,qn⟩|⟨go,am,N,hN,step⟩
  ·refine wpAny_mono (T.done (blockOf X s2 H2 scope C NB fp) rfl rfl rfl hc i _ s3 _ H3 (λ _ _=>False) I3 (bp gx (by simp)) gw stop) (λ r s4 ⟨hr,j3⟩=>?_) λ _ _ e=>e;subst hr;obtain⟨p1,p2,p3,p4,p5⟩:=j3.pin _ (zo _ zd);obtain⟨m,hn,_⟩:=id j3.loc;have e1:s4.heap.get? D=some {cls:=.type "list",data:=.seq aa.toList.toArray k}:=by simpa using p1
   exact fin D C s4 H3 ys m bG bT cr hn j3.free (λ h' sb=>Ub I2 f2 j3 bT bG cr e1 p2 rv hz sb) (qn D p2)
  ·refine wpAny_mono (T.item (blockOf X s2 H2 scope C NB fp) rfl rfl rfl hc i _ s3 _ H3 (λ _ _=>False) I3 (bp gx (by simp)) gw go) (λ r s4 ⟨u,hr,h4⟩=>?_) λ _ _ e=>e;subst hr;refine Bc h4 λ _ s5 ⟨x,H5,I5,r5,y5,dl,lj⟩=>?_;have ll:=I5.pinned (bp lj (by simp)) (T.obj _ _ dl);have bL:=ic σ x H5 _ (step x H5 y5);obtain⟨hg,ht,he⟩:=hb s2 H2 C fp;refine Bc (hg _ s5 _ H5 x u _ ll r5 bL) λ _ s6 ⟨σ6,H6,I6,q6,k6⟩=>?_;refine Bc (ht _ s6 σ6 H6 _ I6 q6) λ ok s7 ⟨H7,I7,q7⟩=>?_;have again:∀ {H8:Hp} {s8:Shared} {its':Array Value} {k':Nat} {bn:List V},Inv (blockOf X s2 H2 scope C NB fp) ([(D,{cls:=.type "list",data:=.seq its' k' })]++HZ fp s5.heap) σ6 H8 s8->Vals bn its'.toList->bn.length<=sizeLine->(∃m,m<n/\W (i+1) m bn H8)->
    ∃m,m<n/\∃i ys aa k H',Inv (blockOf X s2 H2 scope C NB fp) [(D,{cls:=.type "list",data:=.seq aa k})] (Ey μ σ) H' s8/\tn i s8.heap/\(∀b∈fp,H' b=none)/\Vals ys aa.toList/\ys.length<=sizeLine/\W i m ys H':=fun {H8 s8 its' k' bn} I8 aW tz n8=>by
    obtain⟨m',hm,w8⟩:=n8;refine⟨m',hm,i+1,bn,its',k',H8,(I8.IT.weak ?_ k6),T.keep _ _ _ dl λ b hb o e=>(I8.pin (b,o) (zo _ (zo _ (Fz hb e)))).1,λ b hb=>?_,aW,tz,w8⟩
    ·rw[I8.len];exact I4.len
    ·obtain⟨o,e,d⟩:=T.obj _ _ dl b hb;exact (I8.pin (b,o) (zo _ (zo _ (Fz hb e)))).2.1
   cases ok with
   |false =>
    simp only[zC,if_false] at q7 ⊢;exact again I7 rv hz (hN _ _ q7)
   |true =>
    simp only[if_true] at q7 ⊢;refine Bc (he _ s7 σ6 H7 _ I7 q7) λ uy s8 ⟨y,H8,I8,r8,q8⟩=>?_;obtain⟨p1,p2,p3,p4,p5⟩:=I8.pin (D,_) (zo _ (zO _ zd));have e1:s8.heap.get? D=some {cls:=.type "list",data:=.seq aa k}:=p1;have hsz:aa.size=ys.length:=by rw[<-yy];exact rv.length.symm
    refine call_meets F.slot_list_append ⟨_,e1,rfl⟩ F.entry_list_append (F.args_list_append_2 _ _) (PySem.list_append D aa k uy (by rw[hsz];omega)) ⟨e1,?_⟩;have mh:=PySem.IsL.update e1 (·.push uy);have Iu:Inv (blockOf X s2 H2 scope C NB fp) (HZ fp s5.heap) σ6 H8 s8:=I8.IR λ p hp=>I8.pin p (zo _ (zo _ hp));have It:=Iu.turned (it:=D) (h':=s8.heap.update D (yv (·.push uy))) (t':=s8.toks) (λ b o hb e=>(yZ _ _ (yh hb)).trans e) p2 p3 (.inr bG) (λ x c e z=>?_) (λ p hp z=>?_)
    ·refine again (its':=aa.push uy) (k':=if (aa.push uy).size==aa.size then k else k+1) (It.IR λ p hp=>?_) (by simpa using rv.append (.cons r8 .nil)) (by rw[zB,y3];omega) (hN _ _ q8);rcases zK.mp hp with hp|hp
     ·have e:=zw.mp hp;subst e;exact⟨mh,p2,p3,p4,λ v=>by simp⟩
     ·exact It.pin p (zo _ hp)
    ·have e':=DQ I2 a9 e;obtain⟨v,o,ho,_⟩:=I2.cell x c e';exact absurd (zt ho) (by rw[z];exact Nat.not_lt.mpr bG)
    ·have ii:p∈HZ fp s5.heap:=by simpa [blockOf] using hp
     exact me p.1 (Nd ii).1 z
 exact codeAny_compStart_list (loop _ rfl) (T.self _ 0 _ _ _ (T.keep _ _ _ c0 λ b hb o e=>old b o e) (loop _ rfl))
theorem YG {wi:TI}(hc:X.calm=true)(hi:PI X tg iter wi)(a9:JB scope X.env.scope=true)(bF:PN X.N NB scope μ=true)(ic:JC μ g)
 (hb:∀(s:Shared) (H:Hp) (C:Addr) (ex:List Addr),PG (blockOf X s H scope C NB ex) tg g/\jT (blockOf X s H scope C NB ex) ifs (tc s H C ex)/\PE (blockOf X s H scope C NB ex) elt (te s H C ex))
 (hs:∀x,foldedSetIterable iter X.env x=pure x:=by intro _;rfl):PE X (.ListComp elt [⟨tg,iter,ifs,0⟩] scope pos) (SD wi μ g tc te):=by
 intro pins s σ H Q I h;have bv:∀y∈scope.names,y.2=.local->scope.names.lookup y.1=some .local:=λ y hy=>(Hd a9 hy).2.2;have bU:closureFor scope X.env=pure (HL X.env.cells scope.names []):=HQ λ y hy e=>Ib I a9 (x:=y.1) (by rw[<-e];exact hy);rw[eval_ListComp];refine wpAny_comprehension_free (use:=none) rfl hs bU (Hc a9) bv (Bc (hi pins s σ H _ I h) λ v s1 h1=>Bc h1 λ ju s2 h2=>?_);obtain⟨it,fp,tn,J,H2,e,I2,T,c0,f2,q⟩:=h2;subst e;refine Nq (RR:=λ acc C=>compPost (model X.prog X.w) X.A X.xe none (EP X pins σ Q) acc C) hc I2 T c0 f2 a9 bF ic hb (λ C=>q s2 C fp) ?_;intro D C s' H' ys m hD hC cr hn nC hI hq;exact⟨m,hn,λ h' sb=>⟨.ref D,_,hI h' sb,rfl,hq⟩⟩
noncomputable def lO (i:Nat)(te:TE):TS:=λ D σ H=>te σ H λ x H1=>D.nx (σ.set i (some x)) H1
theorem YH {wi:TI}{i:Nat}{y:Str}{py aE:Pos}(hN:X.N.Nodup)(mi:X.N[i]?=some y)(hy:Loc X.env.scope y)(hc:X.calm=true)(hi:PI X tg iter wi)(a9:JB scope X.env.scope=true)(bF:PN X.N NB scope μ=true)(ic:JC μ g)
 (hb:∀(s:Shared) (H:Hp) (C:Addr) (ex:List Addr),PG (blockOf X s H scope C NB ex) tg g/\jT (blockOf X s H scope C NB ex) ifs (tc s H C ex)/\PE (blockOf X s H scope C NB ex) elt (te s H C ex))
 (bg:swapsWith (.ListComp elt [⟨tg,iter,ifs,0⟩] scope pos) (some (.Name y py)) aE.line X.env=pure true:=by rfl)
 (hs:∀x,foldedSetIterable iter X.env x=pure x:=by intro _;rfl) (hf:X.fn y=true\/X.env.scope.names.lookup y=some .local:=by first|exact .inl rfl|exact .inr rfl|assumption):
 PS X (.Assign [.Name y py] (.ListComp elt [⟨tg,iter,ifs,0⟩] scope pos) aE) (lO i (SD wi μ g tc te)):=by
 intro pins s σ H D' I h;have bv:∀y∈scope.names,y.2=.local->scope.names.lookup y.1=some .local:=λ y hy=>(Hd a9 hy).2.2;have bU:closureFor scope X.env=pure (HL X.env.cells scope.names []):=HQ λ y hy e=>Ib I a9 (x:=y.1) (by rw[<-e];exact hy);rw[exec_Assign_Name_used _ _ _ _ bg];refine wpAny_bind (wpAny_standAt (wpAny_bind ?_));show wpAny _ X.A (do let _ <-comprehension (.ListComp elt [⟨tg,iter,ifs,0⟩] scope pos) scope X.env _ (newList []) false (eval iter X.env) (some (assign (.Name y py) X.env))) _ _ s;refine wpAny_bind (wpAny_mono (wpAny_comprehension_free (use:=some (assign (.Name y py) X.env)) (Q:=λ _ s'=>SP X pins D' .next s') rfl hs bU (Hc a9) bv (Bc (hi pins s σ H _ I h) λ v s1 h1=>Bc h1 λ ju s2 h2=>?_)) (λ _ s' hq=>wpAny_pure (wpAny_pure hq)) λ _ _ e=>e);obtain⟨it,fp,tn,J,H2,e,I2,T,c0,f2,q⟩:=h2;subst e;refine Nq (RR:=λ acc C=>compPost (model X.prog X.w) X.A X.xe (some (assign (.Name y py) X.env)) (λ _ s'=>SP X pins D' .next s') acc C) hc I2 T c0 f2 a9 bF ic hb (λ C=>q s2 C fp) ?_;intro D C s' H' ys m hD hC cr hn nC hI hq;have I':=hI s'.heap (.refl ..);show wpAny _ X.A (assign (.Name y py) X.env (.ref D)) _ _ _;refine wpAny_assign_Name (Nb (i:=i) (v:=.ref D) I' hN mi hy rfl (λ gz t5 ml=>?_) hf);obtain⟨a,sb,ha⟩:=ml;have gc:a≠C:=by
  rcases ha with z|z
  ·rw[z];exact zJ (zF I2.lt hC)
  ·obtain⟨v,o,ho,_⟩:=I2.cell y a z;exact zJ (zF (zt ho) hC)
 refine⟨m,hn.sameBut sb (yh gc),λ h' bw=>?_⟩;refine⟨_,_,t5.turned (it:=C) (t':=gz.toks) (λ b o hb e=>(bw.2 b hb).trans e) (by rw[Am (yh cr)];exact nC) (Nat.ne_of_gt (zF I2.lt hC)) (.inr (yn I2.sz hC)) (λ x c e z=>?_) (λ p hp z=>?_),hq⟩
 ·obtain⟨v,o,ho,_⟩:=I2.cell x c e;exact absurd (zt ho) (by rw[z];exact Nat.not_lt.mpr hC)
 ·exact absurd (zt (I2.pin p hp).1) (by rw[z];exact Nat.not_lt.mpr hC)
end
noncomputable def rF (K:za)(a:Addr):It:=
 ⟨λ i H=>∃xs x,Dg K H a xs/\xs[i]?=some x,λ i H v H'=>∃p x,H p=none/\v=.ref p/\(∀xs,Dg K H a xs->xs[i]?=some x)/\H'=upd H p (.tup [.int i,x]),λ i H=>∃xs,Dg K H a xs/\xs.length<=i⟩
theorem Ry {X:Cx}{pins:List (Addr×Obj)}{σ:St}{H:Hp}{s:Shared}{h':Heap}{t':Nat}{e it:Addr}(I:Inv X pins σ H s)(he:KG X pins H e)(hi:KG X pins H it)(k:∀b o,b≠e->b≠it->s.heap.get? b=some o->h'.get? b=some o):Inv X pins σ H {s with heap:=h',toks:=t' }:=by
 obtain⟨e0,e1,e2,e3,e4,e5⟩:=he;obtain⟨f0,f1,f2,f3,f4,f5⟩:=hi;have ne:∀b u,H b=some u->b≠e/\b≠it:=λ b u q=>⟨λ z=>(by rw[z,e0] at q;cases q),λ z=>(by rw[z,f0] at q;cases q)⟩;refine I.step (g':=s.gens) (d':=s.drawn) (ch:=[e,it]) (λ b hb=>?_) (λ b o _ _ hc q _=>k b o (λ z=>hc (by simp[z])) (λ z=>hc (by simp[z])) q) (λ b o _ _ hc q _=>⟨o.slots,k b o (λ z=>hc (by simp[z])) (λ z=>hc (by simp[z])) q⟩) (λ _ _ _ _ n=>n)
  (λ b o hc q=>⟨o,k b o (λ z=>hc (by simp[z])) (λ z=>hc (by simp[z])) q⟩) (λ _ _ q=>q) (λ _ _ _ q=>q) (λ b ps q=>⟨#[],by rw[q];simp⟩) (λ m hm=>?_) (λ b u q=>?_) I.bare
 ·rcases zl.mp hb with z|z
  ·subst z;exact⟨e3,e1,e4,e5⟩
  ·have z:=zw.mp z;subst z;exact⟨f3,f1,f4,f5⟩
 ·obtain⟨o,es,ep,ho,r⟩:=hm;exact⟨o,es,ep,k _ o (yh e1) (yh f1) ho,r⟩
 ·refine (I.Av b u q).Od (λ c v hc z=>k c v ?_ ?_ z) (λ _ z=>z) λ _ _ z=>z
  ·rcases hc with z|z
   ·rw[z];exact (ne b u q).1
   ·exact (ne c _ z).1
  ·rcases hc with z|z
   ·rw[z];exact (ne b u q).2
   ·exact (ne c _ z).2
theorem Uc {P:Program}{w:World}{K:za}{bV:List Expr}{x1}{br:Pos}(a e it:Addr)(ae:e≠it):
 Turn P w K (.Tuple bV x1 br) (rF K a) [e,it] e (λ i h=>(∃old,IsEnum h e it i old)/\h.IsListIter it a i) where
 mem:=by simp
 obj:=λ i h st b hb=>by
  obtain⟨⟨old,h1⟩,o,h2,c,d⟩:=st;rcases zl.mp hb with z|z
  ·subst z;exact⟨_,h1,λ v z=>by cases z⟩
  ·have z:=zw.mp z;subst z;exact⟨o,h2,λ v z=>by rw[d] at z;cases z⟩
 keep:=λ i h h' st k=>⟨let ⟨old,h1⟩:=st.1;⟨old,k e (by simp) _ h1⟩,st.2.at λ o e=>k it (by simp) o e⟩
 item:=by
  intro X hP hw hK hc i pins s σ H E I hf st hg;subst hP hw hK;obtain⟨xs,x,hq,hx⟩:=hg;obtain⟨⟨old,he⟩,hit⟩:=st;obtain⟨aa,rv,p,hz⟩:=I.list hq;obtain⟨u,hu,ru⟩:=rv.get hx;have fe:=hf e (by simp);have fi:=hf it (by simp);refine wpAny_pyNext_enum_item he hit p.isList (x:=u) (by simpa using hu) ae λ h1 cF mo ht hsz hk=>?_;refine⟨_,rfl,wpAny_letOwnedTupleGo_enum (s:={s with heap:=h1,toks:=s.toks+1}) cF λ h2 t6 aP=>?_⟩;have bz:yW e h1 h2:=aP;have nt:s.heap.objs.size≠e:=Nat.ne_of_gt (zt he);have t7:s.heap.objs.size≠it:=by
   obtain⟨o,ho,_⟩:=hit;exact Nat.ne_of_gt (zt ho)
  have I1:Inv X pins σ H {s with heap:=h2,toks:=s.toks+1}:=Ry I fe fi λ b o hb a5 q=>(bz.2 b hb).trans (hk b o hb a5 q);have tup:h2.get? s.heap.objs.size=some {cls:=.type "tuple",data:=.seq #[.int i s.toks,u]}:=(bz.2 _ nt).trans ht;have nH:H s.heap.objs.size=none:=I.Av.fresh (zu _);have vv:Vals [.int i,x] [.int i s.toks,u]:=.cons ⟨_,rfl⟩ (.cons ru .nil);have mq:Gd X.prog X.w (upd H s.heap.objs.size (.tup [.int i,x])) h2:=I1.Av.adopt nH ⟨by show 2<=sizeLine;decide,_,vv,⟨_,tup,rfl,_,rfl⟩⟩;have I2:Inv X pins σ (upd H s.heap.objs.size (.tup [.int i,x])) {s with heap:=h2,toks:=s.toks+1}:=by
   refine I.step (g':=s.gens) (d':=s.drawn) (ch:=[e,it]) (λ b hb=>?_) (λ b o _ _ hc q _=>(bz.2 b (λ z=>hc (by simp[z]))).trans (hk b o (λ z=>hc (by simp[z])) (λ z=>hc (by simp[z])) q)) (λ b o _ _ hc q _=>⟨o.slots,(bz.2 b (λ z=>hc (by simp[z]))).trans (hk b o (λ z=>hc (by simp[z])) (λ z=>hc (by simp[z])) q)⟩)
    (λ b o hc q n=>by rw[Am (zJ (zt q))];exact n) (λ b o hc q=>⟨o,(bz.2 b (λ z=>hc (by simp[z]))).trans (hk b o (λ z=>hc (by simp[z])) (λ z=>hc (by simp[z])) q)⟩)
    (λ b xs q=>by rw[Am (Ay q nH)];exact q) (λ b o u q=>by rw[Am (Ay q nH)];exact q) (λ b ps q=>⟨#[],by rw[Am (Ay q nH),q];simp⟩) (λ m hm=>?_) mq I.bare
   ·rcases zl.mp hb with z|z
    ·subst z;exact⟨fe.2.2.2.1,fe.2.1,fe.2.2.2.2.1,fe.2.2.2.2.2⟩
    ·have z:=zw.mp z;subst z;exact⟨fi.2.2.2.1,fi.2.1,fi.2.2.2.2.1,fi.2.2.2.2.2⟩
   ·obtain⟨o,es,ep,ho,r⟩:=hm;exact⟨o,es,ep,(bz.2 _ (yh fe.2.1)).trans (hk _ o (yh fe.2.1) (yh fi.2.1) ho),r⟩
  refine⟨.ref s.heap.objs.size,_,I2,rfl,⟨_,x,nH,rfl,λ ys hy=>by rw[I.IS hy hq];exact hx,rfl⟩,⟨⟨u,t6⟩,mo.at λ o q=>(bz.2 it (yh ae)).trans q⟩,λ b hb=>?_⟩;have a5:b≠s.heap.objs.size:=by
   rcases zl.mp hb with z|z
   ·rw[z];exact yh nt
   ·rw[zw.mp z];exact yh t7
  rw[Am a5];exact (hf b hb).1
 done:=by
  intro X hP hw hK hc i pins s σ H E I hf st hg;subst hP hw hK;obtain⟨xs,hq,hx⟩:=hg;obtain⟨⟨old,he⟩,hit⟩:=st;obtain⟨aa,rv,p,hz⟩:=I.list hq;have hl:=rv.length;obtain⟨f0,f1,f2,f3,f4,f5⟩:=hf it (by simp);exact wpAny_pyNext_enum_end (I.ok.hd hc) he hit p.isList (by simp;omega) λ h' eb=>⟨rfl,I.turned (t':=s.toks) (λ b o hb e=>eb b o hb e) f0 f1 f3 f4 f5⟩
 self:=λ _ _ _ _ _ st h=>let ⟨_,he⟩:=st.1;wpAny_pyIter_enum he h
section
variable {X:Cx}
noncomputable def lP (K:za)(ta:TA):TI:=λ σ H R=>ta σ H λ vs H1=>∃a,vs=[.ref a]/\(∃xs,Dg K H1 a xs)/\R (rF K a) H1
theorem YI {bV:List Expr}{x1}{br:Pos}{a:Expr}{ta:TA}{p pos:Pos}(hg:Gl X "enumerate")(hm:X.mg "enumerate" = none)(ha:PA X [a] ta)(hb:bootBuiltins "enumerate" = some (.type "enumerate"):=by decide +kernel)(hs:starEach [a] X.env=[(false,eval a X.env)]:=by rfl):
 PI X (.Tuple bV x1 br) (.Call (.Name "enumerate" p) [a] [] pos) (lP X.K ta):=by
 intro pins s σ H R I h;refine Call_ (Ew I hg hm hb (y6 (Bc (ha pos pins s σ H _ I h) λ us s1 ⟨vs,H1,I1,r1,q1⟩=>?_) hs rfl));obtain⟨j,e,⟨xs,hq⟩,q⟩:=q1;subst e;cases r1 with
 |cons r rr =>
  cases rr;cases r;obtain⟨aa,rv,p,hz⟩:=I1.list hq;refine call_enumerate_list p.isList λ h' he hit hsz hk=>?_;refine wpAny_pyIter_enum (s:={s1 with heap:=h' }) he ?_;have I2:Inv X pins σ H1 {s1 with heap:=h' }:=I1.kept (t':=s1.toks) hk;refine⟨_,[s1.heap.objs.size+1,s1.heap.objs.size],_,_,H1,rfl,I2,Uc j _ _ (Nat.succ_ne_self _),⟨⟨_,he⟩,hit⟩,λ b hb=>?_,q⟩;rcases zl.mp hb with z|z
  ·rw[z];exact I1.Ye (Nat.le_succ _) (I1.Av.fresh (Nat.le_succ _))
  ·rw[zw.mp z];exact I1.Ye (zu _) (I1.Av.fresh (zu _))
end
noncomputable def Bu {α:Type}(o:Option (α×List Int))(b:α×List Int):Option (α×List Int):=match o with | none=>some b | some c=>if HT.lexLt b.2 c.2=true then some b else some c
noncomputable def AR {α:Type}(bs:List (α×List Int)):Option (α×List Int):=bs.foldl Bu none
noncomputable def D1 (bs:List (Addr×List Int)):Array Value:=match AR bs with | none=>#[] | some b=>#[.ref b.1,.ref b.1]
theorem CG {α:Type}(bs:List (α×List Int))(b:α×List Int):AR (bs++[b])=match AR bs with | none=>some b | some c=>if HT.lexLt b.2 c.2=true then some b else some c:=by
 unfold AR;rw[List.foldl_append];rfl
theorem JD {α:Type}:∀(bs:List (α×List Int)) (b:α×List Int),AR bs=some b->b∈bs:=by
 intro bs
 suffices h:∀(bs:List (α×List Int)) (o:Option (α×List Int)) (b:α×List Int),bs.foldl Bu o=some b->b∈bs\/o=some b by
  intro b hb;rcases h bs none b hb with q|q
  ·exact q
  ·cases q
 intro bs;induction bs with
 |nil=>intro o b h;exact .inr h
 |cons x r ih =>
  intro o b h;rw[zX] at h;rcases ih _ _ h with q|q
  ·exact .inl (ze _ q)
  ·cases o with
   |none=>cases q;exact .inl zd
   |some c =>
    unfold Bu at q;dsimp only at q;split at q
    ·cases q;exact .inl zd
    ·exact .inr q
theorem MS (a v:Value):argsOk "min" ⟨[a],[(Str.ofString "default",v)]⟩:=by unfold argsOk;kernel_rfl
section
variable {prog:Program}{w:World}{A:Around}{R:Result->Shared->Prop}
theorem Wa (bs:List (Addr×List Int))(tv:Addr->Array Value)(l I S:Addr)(d:Value)(hh:A.handled=none)(hu:A.in1.units<cLine)(c6:S≠I)(mr:l≠I)(ij:l≠S)(dw:∀b∈bs,b.1≠I/\b.1≠S)
 (hk:∀b∈bs,IntsAre (tv b.1).toList b.2):∀(k j:Nat) (s:Shared) (c:Nat),bs.length-j=k->j<=bs.length->s.heap.IsListIter I l j->s.heap.IsList l (bs.map λ b=>ya b.1).toArray->(∀b∈bs,IsTup s.heap b.1 (tv b.1))->
  s.heap.get? S=some {cls:=.type "list",dict:=none,data:=.seq (D1 (bs.take j)) c,slots:=#[]} ->
  (∀h' tk,(∀b o,b≠I->b≠S->s.heap.get? b=some o->h'.get? b=some o)->R (.ok (.ret (match AR bs with|none=>d|some b=>.ref b.1))) {s with heap:=h',toks:=tk})->
  codeAny (model prog w) A (.builtin "min.loop" ⟨[.ref I,.none,.ref S],[(Str.ofString "default",d)]⟩) R s:=by
 have a7:(toString "min" ++ toString ".loop" : String) = "min.loop" := by decide
 intro k;induction k with
 |zero =>
  intro j s c hr hj hit hl ht hS hR;have c7:j=bs.length:=by omega
  subst c7;rw[y7] at hS;refine codeAny_builtin PySem.F.entry_min_loop ?_;rw[yQ zU _];show wpAny _ A.in1 (seqItems? (.ref S) >>= _) _ _ s;refine wpAny_bind (wpAny_seqItems hS rfl ?_);show wpAny _ A.in1 (tryCatch (pyNext (.ref I)) _ >>= _) _ _ s;refine wpAny_bind (wpAny_tryCatch (wpAny_pyNext_list_end (A:=A.in1) hh hit hl (by simp) λ h' eb=>?_));have aA:h'.get? S=_:=eb S _ c6 hS;unfold D1 at aA;cases hb:AR bs with
  |none =>
   unfold D1;rw[hb];show wpAny _ A.in1 (rule _ >>= _) _ _ _;refine wpAny_bind (wpAny_rule (wpAny_pure ?_));have q:=hR h' s.toks λ b o h1 h2 e=>eb b o h1 e;rw[hb] at q;exact q
  |some b =>
   rw[hb] at aA;unfold D1;rw[hb];show wpAny _ A.in1 (updateSeq S (λ _=>#[]) >>= _) _ _ _;refine wpAny_bind ?_;refine wpAny_updateSeq aA rfl (wpAny_bind (wpAny_letGo (wpAny_pure ?_)));have q:=hR (h'.update S (yv λ _=>#[])) s.toks λ b o h1 h2 e=>(yZ _ _ (yh h2)).trans (eb b o h1 e);rw[hb] at q;exact q
 |succ k ih =>
  intro j s c hr hj hit hl ht hS hR;have am:j<bs.length:=by omega
  have ej:bs.take (j+1)=bs.take j++[bs[j]]:=by rw[yS,zr am];rfl
  have mj:bs[j]∈bs:=List.getElem_mem am;refine codeAny_builtin PySem.F.entry_min_loop ?_;rw[yQ zU _];show wpAny _ A.in1 (seqItems? (.ref S) >>= _) _ _ s;refine wpAny_bind (wpAny_seqItems hS rfl ?_);show wpAny _ A.in1 (tryCatch (pyNext (.ref I)) _ >>= _) _ _ s;refine wpAny_bind (wpAny_tryCatch (wpAny_pyNext_list_item (A:=A.in1) hit hl (x:=.ref bs[j].1) (by simp[am]) λ h' aX sb=>?_));have bw:yW I s.heap h':=sb;have aA:h'.get? S=_:=(bw.2 S c6).trans hS;have bD:h'.IsList l (bs.map λ b=>ya b.1).toArray:=hl.at λ o e=>(bw.2 l mr).trans e;have bW:∀b∈bs,IsTup h' b.1 (tv b.1):=λ b hb=>by
   obtain⟨o,ho,r⟩:=ht b hb;exact⟨o,(bw.2 b.1 (dw b hb).1).trans ho,r⟩
  cases hb:AR (bs.take j) with
  |none =>
   unfold D1 at aA ⊢;rw[hb] at aA ⊢;show wpAny _ A.in1 (updateSeq S (λ _=>#[.ref bs[j].1,.ref bs[j].1]) >>= _) _ _ _;refine wpAny_bind ?_;refine wpAny_updateSeq aA rfl ?_;rw[a7];have s1:=yN h' S (yv λ _=>(#[.ref bs[j].1,.ref bs[j].1]:Array Value));refine wpAny_pure ⟨plainId_quiet zU _,ih (j+1) _ (c+1) (by omega) am (aX.at λ o e=>(s1.2 I (yh c6)).trans e) (bD.at λ o e=>(s1.2 l ij).trans e) (λ b hb=>?_) ?_ λ bX tk aS=>?_⟩
   ·obtain⟨o,ho,r⟩:=bW b hb;exact⟨o,(s1.2 b.1 (dw b hb).2).trans ho,r⟩
   ·refine (yJ _ aA rfl).trans ?_;unfold D1;rw[ej,CG,hb];rfl
   ·exact hR bX tk λ b o h1 h2 e=>aS b o h1 h2 ((s1.2 b h2).trans ((bw.2 b h1).trans e))
  |some m =>
   have mm:m∈bs:=yu (JD _ _ hb);unfold D1 at aA ⊢;rw[hb] at aA ⊢;show wpAny _ A.in1 (tryCatch (holding [.ref bs[j].1,.ref bs[j].1] (richCompare .Lt (.ref bs[j].1) (.ref m.1) >>= _)) _ >>= _) _ _ _;refine wpAny_bind (wpAny_tryCatch (wpAny_holding (wpAny_bind (HT.Ia (bW _ mj) (bW _ mm) (hk _ mj) (hk _ mm) hu ?_))));refine wpAny_bind (wpAny_holding (wpAny_truthy_bool ?_));refine wpAny_bind (wpAny_letGo (wpAny_pure ?_));cases hc:HT.lexLt bs[j].2 m.2 with
   |true =>
    simp only[if_true];have s1:=yN h' S (yv λ _=>(#[.ref bs[j].1,.ref bs[j].1]:Array Value));refine wpAny_bind ?_;refine wpAny_updateSeq aA rfl (wpAny_bind (wpAny_letGo ?_));rw[a7];refine wpAny_pure ⟨plainId_quiet zU _,ih (j+1) _ c (by omega) am (aX.at λ o e=>(s1.2 I (yh c6)).trans e) (bD.at λ o e=>(s1.2 l ij).trans e) (λ b hb=>?_) ?_ λ bX tk aS=>?_⟩
    ·obtain⟨o,ho,r⟩:=bW b hb;exact⟨o,(s1.2 b.1 (dw b hb).2).trans ho,r⟩
    ·refine (yJ _ aA rfl).trans ?_;unfold D1;rw[ej,CG,hb];simp only[hc,if_true];rfl
    ·exact hR bX tk λ b o h1 h2 e=>aS b o h1 h2 ((s1.2 b h2).trans ((bw.2 b h1).trans e))
   |false =>
    simp only[zC,if_false];refine wpAny_bind (wpAny_letGo ?_);rw[a7];refine wpAny_pure ⟨plainId_quiet zU _,ih (j+1) _ c (by omega) am aX bD bW ?_ λ bX tk aS=>?_⟩
    ·refine aA.trans ?_;unfold D1;rw[ej,CG,hb];simp only[hc,zC,if_false]
    ·exact hR bX tk λ b o h1 h2 e=>aS b o h1 h2 ((bw.2 b h1).trans e)
theorem MT {E:Value->Shared->Prop}{s:Shared}{Q:Value->Shared->Prop}(bs:List (Addr×List Int))(tv:Addr->Array Value)(l:Addr)(d:Value)(hh:A.handled=none)(hu:A.in1.units<cLine)
 (hl:s.heap.IsList l (bs.map λ b=>ya b.1).toArray) (ht:∀b∈bs,IsTup s.heap b.1 (tv b.1)) (hk:∀b∈bs,IntsAre (tv b.1).toList b.2)
 (hQ:∀h' tk,(∀b o,s.heap.get? b=some o->h'.get? b=some o)->Q (match AR bs with|none=>d|some b=>.ref b.1) {s with heap:=h',toks:=tk}):
 wpAny (model prog w) A (call (.builtin "min") [.ref l] [(Str.ofString "default",d)]) Q E s:=by
 have a7:(toString "min" ++ toString ".loop" : String) = "min.loop" := by decide
 obtain⟨ol,dz,_⟩:=id hl;have t8:l<s.heap.objs.size:=zt dz;refine kmk_tree PySem.F.kind_min PySem.F.plain_min PySem.F.entry_min (MS _ _) ?_;show wpAny _ A.in1 (yU "min" ["key","default"] 0 ⟨[],[(Str.ofString "default",d)]⟩ >>= _) _ _ s;refine wpAny_bind (wpAny_of_eq (show yU "min" ["key","default"] 0 ⟨[],[(Str.ofString "default",d)]⟩=pure [none,some d] from rfl) ?_);refine wpAny_bind (wpAny_pure ?_);refine wpAny_bind (wpAny_pyIter_list hl ?_);refine wpAny_bind (wpAny_newList ?_ (zT _));rw[a7];have hS:(s.heap.push {cls:=.type "list_iterator",data:=.fields #[.ref l,.int 0 0]}).objs.size=s.heap.objs.size+1:=Heap.size_push ..;have old:∀b o,s.heap.get? b=some o->b≠s.heap.objs.size/\b≠(s.heap.push {cls:=.type "list_iterator",data:=.fields #[.ref l,.int 0 0]}).objs.size:=λ b o e=>⟨zJ (zt e),by rw[hS];exact zJ (Nat.lt_succ_of_lt (zt e))⟩;have grow:∀b o,s.heap.get? b=some o->((s.heap.push {cls:=.type "list_iterator",data:=.fields #[.ref l,.int 0 0]}).push {cls:=.type "list",data:=.seq #[]}).get? b=some o:=λ b o e=>zj _ (zj _ e);refine wpAny_pure ⟨plainId_quiet zU _,?_⟩;refine Wa bs tv l s.heap.objs.size (s.heap.push {cls:=.type "list_iterator",data:=.fields #[.ref l,.int 0 0]}).objs.size d hh hu (by rw[hS];exact Nat.succ_ne_self _) (old l ol dz).1 (old l ol dz).2 (λ b hb=>?_) hk _ 0 _ 0 rfl (zT _) ?_ ?_ (λ b hb=>?_) ?_ ?_
 ·obtain⟨o,ho,_⟩:=ht b hb;exact old b.1 o ho
 ·exact⟨_,zj _ (zD _ rfl),rfl,rfl⟩
 ·exact hl.at λ o e=>grow l o e
 ·obtain⟨o,ho,r⟩:=ht b hb;exact⟨o,grow b.1 o ho,r⟩
 ·exact zD _ rfl
 ·intro h' tk d0;exact hQ h' tk λ b o e=>d0 b o (old b o e).1 (old b o e).2 (grow b o e)
end
section
variable {X:Cx}{e e2:Expr}{te td:TE}{p pos kp:Pos}
noncomputable def lQ (K:za)(te td:TE):TE:=λ σ H Q=>te σ H λ x H1=>td σ H1 λ d H2=>∃(a:Addr) (bs:List (Addr×List Int)),x=.ref a/\Dg K H2 a (bs.map λ b=>V.ref b.1)/\(∀b∈bs,Fx K H2 b.1 (b.2.map V.int))/\Q (match AR bs with | none=>d | some b=>.ref b.1) H2
theorem JE:∀ {bs:List (Addr×List Int)}{us:List Value},Vals (bs.map λ b=>V.ref b.1) us->us=bs.map λ b=>ya b.1
 |[],_,.nil=>rfl
 |b::r,_,.cons h t=>by cases h;rw[JE t];rfl
theorem YJ (hc:X.calm=true)(hu:X.A.units+1<cLine)(hg:Gl X "min")(hm:X.mg "min" = none)(he:PE X e te)(hd:PE X e2 td)
 (aT:starEach [e] X.env=[(false,eval e X.env)]:=by rfl) (bS:(backToKw pos (keywordEach [⟨some "default",e2,kp⟩] X.env)).all (·.1.isSome)=true:=by rfl) (mt:(backToKw pos (keywordEach [⟨some "default",e2,kp⟩] X.env)).filterMap (·.1)=([("default" : Str)]:List Str):=by rfl)
 (mx:(backToKw pos (keywordEach [⟨some "default",e2,kp⟩] X.env)).any (·.1.isNone)=false:=by rfl) (my:backTo pos (starEach [e] X.env)=(false,eval e X.env)::backTo pos (starEach [] X.env):=by rfl) (hpl:(backTo pos (starEach [e] X.env)).any (·.1)=false:=by rfl):
 PE X (.Call (.Name "min" p) [e] [⟨some "default",e2,kp⟩] pos) (lQ X.K te td):=by
 intro pins s σ H Q I h;refine wpAny_Call_Name_kw (Ew I hg hm boot_min ?_ (by decide) (by decide));refine callWith_kw (Bc ((Bf he BZ (hs:=aT)) pos pins s σ H (λ vs H1=>match vs with|[x]=>td σ H1 λ d H2=>∃(a:Addr) (bs:List (Addr×List Int)),x=.ref a/\Dg X.K H2 a (bs.map λ b=>V.ref b.1)/\(∀b∈bs,Fx X.K H2 b.1 (b.2.map V.int))/\Q (match AR bs with|none=>d|some b=>.ref b.1) H2|_=>False) I h) λ us s1 ⟨vs,H1,I1,r1,q1⟩=>?_) my hpl bS mx;obtain⟨x,rfl⟩:∃x,vs=[x]:=by
  match vs,q1 with
  |[x],_=>exact⟨x,rfl⟩
 refine Bc ((Yp hd fC) pos pins s1 σ H1 (λ zs H2=>match zs with|[d]=>∃(a:Addr) (bs:List (Addr×List Int)),x=.ref a/\Dg X.K H2 a (bs.map λ b=>V.ref b.1)/\(∀b∈bs,Fx X.K H2 b.1 (b.2.map V.int))/\Q (match AR bs with|none=>d|some b=>.ref b.1) H2|_=>False) I1 q1) λ ws s2 ⟨zs,H2,I2,r2,q2⟩=>?_;obtain⟨d,rfl⟩:∃d,zs=[d]:=by
  match zs,q2 with
  |[d],_=>exact⟨d,rfl⟩
 obtain⟨a,bs,rfl,hl,hb,q⟩:=q2;obtain⟨ua,rfl,ra⟩:=r1.one;obtain⟨ud,rfl,rd⟩:=r2.one;cases ra;rw[mt];obtain⟨aa,rv,pl,hz⟩:=I2.list hl;have ei:=JE rv;subst ei;have tv:∀a:Addr,∃t:Array Value,∀b∈bs,b.1=a->IsTup s2.heap a t/\IntsAre t.toList b.2:=λ a=>by
  by_cases bY:∃b∈bs,b.1=a
  ·obtain⟨b,bY,rfl⟩:=bY;obtain⟨ts,rt,pt,_⟩:=I2.tuple (hb b bY);refine⟨ts.toArray,λ b' a5 e=>⟨pt,?_⟩⟩;have q2:=hb b' a5;rw[e] at q2;have e2:=I2.Hb q2 (hb b bY);rw[<-e2] at rt;simpa using intsAre_of rt
  ·exact⟨#[],λ b a5 e=>absurd ⟨b,a5,e⟩ bY⟩
 refine MT bs (λ b=>zm (tv b)) a ud (I2.ok.hd hc) hu pl.isList (λ b a5=>(zb (tv b.1) b a5 rfl).1) (λ b a5=>(zb (tv b.1) b a5 rfl).2) λ h' tk hk=>?_;refine⟨match AR bs with|none=>d|some b=>.ref b.1,H2,I2.kept (t':=tk) hk,?_,q⟩;cases AR bs with
 |none=>exact rd
 |some b=>rfl
end
inductive D where
 |Az|bl (b:Bool)|int (i:Int)|str (x:Str)|tup (ds:List D)|lst (ds:List D)|Dl (x:Str)|Bh (t:Bool) (ks vs:List D)|ins (x:Str) (ns:List Str) (ds:List D)
noncomputable def EA:Key->D
 | .inl i=>.int i
 | .inr x=>.str x
def pH (a c:Addr)(h:Heap):Prop:=∃o,h.get? a=some o/\o.cls=.ref c/\PySem.W.notCls o=true
theorem Rd.same {H H':Hp}{a:Addr}{u:HO}(r:Rd H a u)(e:Ae H H'):Rd H' a u:=r.elim (λ h=>.inl (e _ _ h)) λ⟨o,h⟩=>.inr ⟨o,e _ _ h⟩
mutual
inductive BC (K:za) (H:Hp):V->D->Prop
 |Az:BC K H .Az .Az
 |bl (b):BC K H (.bl b) (.bl b)
 |int (i):BC K H (.int i) (.int i)
 |str (x):BC K H (.str x) (.str x)
 |tup {a xs ds}:H a=some (.tup xs)->Ag K H xs ds->BC K H (.ref a) (.tup ds)
 |lst {a xs ds}:Dg K H a xs->Ag K H xs ds->BC K H (.ref a) (.lst ds)
 |IJ {a kvs ds}:Rd H a (.dK kvs)->Ag K H (kvs.map yA) ds->BC K H (.ref a) (.Bh false (kvs.map λ kv=>EA kv.1) ds)
 |Ic {a kvs ds}:Rd H a (.dT kvs)->Ag K H (kvs.map yA) ds->BC K H (.ref a) (.Bh true (kvs.map λ kv=>.tup (kv.1.map EA)) ds)
 |ins {a C dx fs x ds}:zc K mainGlobals x=some (some (.ref C))->H a=some (.ins C dx fs)->Ag K H (fs.map yA) ds->BC K H (.ref a) (.ins x (fs.map zZ) ds)
 |Dl {a c x}:zc K mainGlobals x=some (some (.ref c))->H a=some (.ext (pH a c))->BC K H (.ref a) (.Dl x)
inductive Ag (K:za) (H:Hp):List V->List D->Prop
 |nil:Ag K H [] []
 |cons {x d xs ds}:BC K H x d->Ag K H xs ds->Ag K H (x::xs) (d::ds)
end
theorem Ag.length {K:za}{H:Hp}:∀ {xs:List V}{ds:List D},Ag K H xs ds->xs.length=ds.length
 |_,_,.nil=>rfl
 |_,_,.cons _ t=>by rw[zq,zq,Ag.length t]
theorem Ag.get {K:za}{H:Hp}:∀ {xs:List V}{ds:List D}{i:Nat}{d:D},Ag K H xs ds->ds[i]?=some d->∃x,xs[i]?=some x/\BC K H x d
 |_,_,_,_,.nil,e=>by simp at e
 |_,_,0,_,.cons r _,e=>by simp at e;subst e;exact⟨_,rfl,r⟩
 |_,_,i+1,d,.cons _ t,e=>by
  obtain⟨u,h1,h2⟩:=Ag.get (i:=i) (d:=d) t (by simpa using e);exact⟨u,by simpa using h1,h2⟩
theorem Ag.JF {K:za}{H:Hp}:∀ {xs:List V}{ds:List D}{i:Nat}{x:V},Ag K H xs ds->xs[i]?=some x->∃d,ds[i]?=some d/\BC K H x d
 |_,_,_,_,.nil,e=>by simp at e
 |_,_,0,_,.cons r _,e=>by simp at e;subst e;exact⟨_,rfl,r⟩
 |_,_,i+1,d,.cons _ t,e=>by
  obtain⟨u,h1,h2⟩:=Ag.JF (i:=i) (x:=d) t (by simpa using e);exact⟨u,by simpa using h1,h2⟩
theorem Ag.append {K:za}{H:Hp}:∀ {xs ys:List V}{ds es:List D},Ag K H xs ds->Ag K H ys es->Ag K H (xs++ys) (ds++es)
 |_,_,_,_,.nil,h=>h
 |_,_,_,_,.cons r t,h=>.cons r (Ag.append t h)
theorem Ag.snoc {K:za}{H:Hp}{xs:List V}{ds:List D}{x:V}{d:D}(h:Ag K H xs ds)(r:BC K H x d):Ag K H (xs++[x]) (ds++[d]):=h.append (.cons r .nil)
theorem Ag.take {K:za}{H:Hp}:∀ {xs:List V}{ds:List D}(n:Nat),Ag K H xs ds->Ag K H (xs.take n) (ds.take n)
 |_,_,0,_|_,_,_+1,.nil=>.nil
 |_,_,n+1,.cons r t=>.cons r (Ag.take n t)
theorem Ag.drop {K:za}{H:Hp}:∀ {xs:List V}{ds:List D}(n:Nat),Ag K H xs ds->Ag K H (xs.drop n) (ds.drop n)
 |_,_,0,r=>r
 |_,_,_+1,.nil=>.nil
 |_,_,n+1,.cons _ t=>Ag.drop n t
theorem Ag.reverse {K:za}{H:Hp}:∀ {xs:List V}{ds:List D},Ag K H xs ds->Ag K H xs.reverse ds.reverse
 |_,_,.nil=>.nil
 |_,_,.cons r t=>by rw[yT,yT];exact (Ag.reverse t).snoc r
theorem Ag.ints {K:za}{H:Hp}:∀(ns:List Int),Ag K H (ns.map V.int) (ns.map D.int)
 |[]=>.nil
 |n::r=>.cons (.int n) (Ag.ints r)
theorem Ae.pI {K:za}{H H':Hp}{a:Addr}{xs:List V}(e:Ae H H')(h:Fx K H a xs):Fx K H' a xs:=by
 rcases h with (h|⟨o,h⟩)|h
 ·exact .inl (.inl (e _ _ h))
 ·exact .inl (.inr ⟨o,e _ _ h⟩)
 ·exact .inr h
mutual
theorem BC.mono {K:za}{H H':Hp}(e:Ae H H'):∀ {v:V}{d:D},BC K H v d->BC K H' v d
 |_,_,.Az=>.Az
 |_,_,.bl b=>.bl b
 |_,_,.int i=>.int i
 |_,_,.str x=>.str x
 |_,_,.tup h r=>.tup (e _ _ h) (Ag.mono e r)
 |_,_,.lst h r=>.lst (e.seq h) (Ag.mono e r)
 |_,_,.IJ h r=>.IJ (h.same e) (Ag.mono e r)
 |_,_,.Ic h r=>.Ic (h.same e) (Ag.mono e r)
 |_,_,.ins n h r=>.ins n (e _ _ h) (Ag.mono e r)
 |_,_,.Dl h r=>.Dl h (e _ _ r)
theorem Ag.mono {K:za}{H H':Hp}(e:Ae H H'):∀ {vs:List V}{ds:List D},Ag K H vs ds->Ag K H' vs ds
 |_,_,.nil=>.nil
 |_,_,.cons h t=>.cons (BC.mono e h) (Ag.mono e t)
end
theorem AM {H:Hp}{p:Addr}(h:H p=none)(o:HO):Ae H (upd H p o):=λ b u q=>by rw[Am (Ay q h)];exact q
mutual
noncomputable def Ao:D->D->Bool
 | .Az,.Az=>true
 | .bl a,.bl b| .int a,.int b| .str a,.str b=>a==b
 | .bl a,.int b=>(if a then 1 else 0)==b
 | .int a,.bl b=>a==(if b then 1 else 0)
 | .tup a,.tup b| .lst a,.lst b=>C0 a b
 | .Dl a,.Dl b=>a==b
 | .Bh s a b,.Bh t c d=>(s==t)&&(C0 a c&&C0 b d)
 | .ins x n a,.ins y m b=>(x==y)&&((n==m)&&C0 a b)
 |_,_=>false
noncomputable def C0:List D->List D->Bool
 |[],[]=>true
 |a::r,b::t=>Ao a b&&C0 r t
 |_,_=>false
end
mutual
theorem IX:∀d:D,Ao d d=true
 | .Az=>by simp[Ao]
 | .bl b| .int b| .str b=>by simp[Ao]
 | .tup b| .lst b=>by simp only[Ao];exact Dm b
 | .Dl b=>by simp[Ao]
 | .Bh s a b=>by simp only[Ao];rw[Dm a,Dm b];simp
 | .ins x n a=>by simp only[Ao];rw[Dm a];simp
theorem Dm:∀d:List D,C0 d d=true
 |[]=>by simp[C0]
 |a::r=>by simp only[C0,IX a,Dm r,Bool.and_true]
end
mutual
noncomputable def AB:D->Bool
 | .tup a| .lst a=>Lr a
 | .Dl _| .Bh _ _ _| .ins _ _ _=>false
 |_=>true
noncomputable def Lr:List D->Bool
 |[]=>true
 |a::r=>AB a&&Lr r
end
theorem BL:∀ {ds:List D}{d:D},d∈ds->Lr ds=true->AB d=true
 |a::r,d,h,q=>by
  rw[Lr,zW] at q;rcases zl.mp h with z|z
  ·subst z;exact q.1
  ·exact BL z q.2
mutual
noncomputable def IK:D->Nat
 | .tup a| .lst a=>KJ a+1
 |_=>0
noncomputable def KJ:List D->Nat
 |[]=>0
 |a::r=>max (IK a) (KJ r)
end
theorem FD:∀ {ds:List D}{d:D},d∈ds->IK d<=KJ ds
 |a::r,d,h=>by
  rw[KJ];rcases zl.mp h with z|z
  ·subst z;exact Nat.le_max_left _ _
  ·exact yn (FD z) (Nat.le_max_right _ _)
theorem PR:∀ {a b:List D},C0 a b=true->a.length=b.length
 |[],[],_=>rfl
 |[],_::_,h|_::_,[],h=>by simp[C0] at h
 |a::r,b::t,h=>by
  simp only[C0,zW] at h;rw[zq,zq,PR h.2]
theorem DR:∀(a b:List D),a.length=b.length->(zL a.length).all (λ j=>Ao (a.getD j .Az) (b.getD j .Az))=C0 a b
 |[],[],_=>by simp[C0]
 |a::r,b::t,h=>by
  have ih:=DR r t (by simpa using h);rw[zq,List.range_succ_eq_map,List.all_cons,List.all_map,C0,<-ih];simp[Function.comp_def]
 |[],_::_,h|_::_,[],h=>by cases h
theorem KZ {a b:List D}(h:a.length≠b.length):C0 a b=false:=by
 cases e:C0 a b with
 |false=>rfl
 |true=>exact absurd (PR e) h
theorem Ls (a b:List D):((zL (min a.length b.length)).all (λ j=>Ao (a.getD j .Az) (b.getD j .Az))&&(a.length==b.length))=C0 a b:=by
 by_cases h:a.length=b.length
 ·rw[<-DR a b h,h];simp
 ·rw[KZ h,beq_false_of_ne h,Bool.and_false]
section
variable {X:Cx}{pins:List (Addr×Obj)}{σ:St}{H:Hp}{s:Shared}
theorem SE (I:Inv X pins σ H s){a:Addr}{xs ys:List V}(h:Dg X.K H a xs)(h':Fx X.K H a ys):False:=by
 obtain⟨aa,_,⟨o,n,e,c,_,_⟩,_⟩:=I.list h;obtain⟨its',_,⟨o',e',c',_⟩,_⟩:=I.tuple h';rw[e] at e';cases e';rw[c] at c';revert c';decide
mutual
theorem YK (I:Inv X pins σ H s):∀ {v:V}{d d':D},AB d=true->AB d'=true->BC X.K H v d->BC X.K H v d'->d=d'
 |_,_,_,_,_,.Az,.Az|_,_,_,_,_,.bl _,.bl _|_,_,_,_,_,.int _,.int _|_,_,_,_,_,.str _,.str _=>rfl
 |_,_,_,n1,n2,.tup h r,.tup h' r'=>by
  have e:=I.Hb (.of h) (.of h');subst e;rw[Gu I (by rw[AB] at n1;exact n1) (by rw[AB] at n2;exact n2) r r']
 |_,_,_,n1,n2,.lst h r,.lst h' r'=>by
  have e:=I.IS h h';subst e;rw[Gu I (by rw[AB] at n1;exact n1) (by rw[AB] at n2;exact n2) r r']
 |_,_,_,_,_,.tup h _,.lst h' _=>(SE I h' (.of h)).elim
 |_,_,_,_,_,.lst h _,.tup h' _=>(SE I h (.of h')).elim
 |_,_,_,n1,_,.Dl _ _,_|_,_,_,n1,_,.IJ _ _,_|_,_,_,n1,_,.Ic _ _,_|_,_,_,n1,_,.ins _ _ _,_=>by rw[AB] at n1;cases n1
 |_,_,_,_,n2,_,.Dl _ _|_,_,_,_,n2,_,.IJ _ _|_,_,_,_,n2,_,.Ic _ _|_,_,_,_,n2,_,.ins _ _ _=>by rw[AB] at n2;cases n2
theorem Gu (I:Inv X pins σ H s):∀ {v:List V}{d d':List D},Lr d=true->Lr d'=true->Ag X.K H v d->Ag X.K H v d'->d=d'
 |_,_,_,_,_,.nil,.nil=>rfl
 |_,_,_,n1,n2,.cons h r,.cons h' r'=>by
  rw[Lr,zW] at n1 n2;rw[YK I n1.1 n2.1 h h',Gu I n1.2 n2.2 r r']
end
theorem Vs {xs:List V}{aa:List Value}(r:Vals xs aa)(j:Nat)(h:j<aa.toArray.size):∃x,xs[j]?=some x/\RelV x aa.toArray[j]:=by
 have h':j<aa.length:=by simpa using h
 have hx:j<xs.length:=by rw[r.length];exact h'
 obtain⟨u,hu,ru⟩:=r.get (zr hx);rw[zr h'] at hu;refine⟨xs[j],zr hx,?_⟩;have e:aa.toArray[j]=u:=by simpa using hu
 rw[e];exact ru
theorem BX {ds:List D}{j:Nat}{d:D}(h:ds[j]?=some d):ds.getD j .Az=d:=by rw[zI,h];rfl
theorem Ou (I:Inv X pins σ H s):∀(n:Nat) (A:Around) (d e:D) (v w:V) (u1 u2:Value),IK d<=n->AB d=true->AB e=true->A.units+n<cLine->BC X.K H v d->BC X.K H w e->RelV v u1->RelV w u2->SeqAt.EqAt A s u1 u2 (Ao d e):=by
 intro n;induction n with
 |zero =>
  intro A d e v w u1 u2 hd a6 ag hu h1 h2 r1 r2;have ao:A.units<cLine:=by omega
  cases h1 with
  |Dl _ _|IJ _ _|Ic _ _|ins _ _ _=>simp[AB] at a6
  |Az =>
   cases r1;cases h2 with
   |Dl _ _|IJ _ _|Ic _ _|ins _ _ _=>simp[AB] at ag
   |Az=>cases r2;simp only[Ao];exact .same _
   |bl b=>cases r2;simp only[Ao];exact .none_bool _
   |int b=>obtain⟨t,rfl⟩:=r2;simp only[Ao];exact .none_int _ _
   |str b=>obtain⟨t,rfl⟩:=r2;simp only[Ao];exact .none_str _ _
   |tup h r=>cases r2;simp only[Ao];obtain⟨_,_,p,_⟩:=I.tuple (.of h);exact .none_tuple p ao
   |lst h r=>cases r2;simp only[Ao];obtain⟨_,_,p,_⟩:=I.list h;exact .none_list p.isList ao
  |bl a =>
   cases r1;cases h2 with
   |Dl _ _|IJ _ _|Ic _ _|ins _ _ _=>simp[AB] at ag
   |Az=>cases r2;simp only[Ao];exact .bool_none _
   |bl b=>cases r2;simp only[Ao];exact .bool_bool _ _
   |int b=>obtain⟨t,rfl⟩:=r2;simp only[Ao];exact .bool_int _ _ _
   |str b=>obtain⟨t,rfl⟩:=r2;simp only[Ao];exact .bool_str _ _ _
   |tup h r=>cases r2;simp only[Ao];obtain⟨_,_,p,_⟩:=I.tuple (.of h);exact .bool_tuple _ p ao
   |lst h r=>cases r2;simp only[Ao];obtain⟨_,_,p,_⟩:=I.list h;exact .bool_list _ p.isList ao
  |int a =>
   obtain⟨t',rfl⟩:=r1;cases h2 with
   |Dl _ _|IJ _ _|Ic _ _|ins _ _ _=>simp[AB] at ag
   |Az=>cases r2;simp only[Ao];exact .int_none _ _
   |bl b=>cases r2;simp only[Ao];exact .int_bool _ _ _
   |int b=>obtain⟨t,rfl⟩:=r2;simp only[Ao];exact .int_int _ _ _ _
   |str b=>obtain⟨t,rfl⟩:=r2;simp only[Ao];exact .int_str _ _ _ _
   |tup h r=>cases r2;simp only[Ao];obtain⟨_,_,p,_⟩:=I.tuple (.of h);exact .int_tuple _ _ p ao
   |lst h r=>cases r2;simp only[Ao];obtain⟨_,_,p,_⟩:=I.list h;exact .int_list _ _ p.isList ao
  |str a =>
   obtain⟨t',rfl⟩:=r1;cases h2 with
   |Dl _ _|IJ _ _|Ic _ _|ins _ _ _=>simp[AB] at ag
   |Az=>cases r2;simp only[Ao];exact .str_none _ _
   |bl b=>cases r2;simp only[Ao];exact .str_bool _ _ _
   |int b=>obtain⟨t,rfl⟩:=r2;simp only[Ao];exact .str_int _ _ _ _
   |str b=>obtain⟨t,rfl⟩:=r2;simp only[Ao];exact .str_str _ _ _ _
   |tup h r=>cases r2;simp only[Ao];obtain⟨_,_,p,_⟩:=I.tuple (.of h);exact .str_tuple _ _ p ao
   |lst h r=>cases r2;simp only[Ao];obtain⟨_,_,p,_⟩:=I.list h;exact .str_list _ _ p.isList ao
  |tup h r|lst h r=>rw[IK] at hd;omega
 |succ n ih =>
  intro A d e v w u1 u2 hd a6 ag hu h1 h2 r1 r2;have ao:A.units<cLine:=by omega
  have r6:A.in1.units+n<cLine:=by show A.units+1+n<cLine;omega
  by_cases ik:IK d<=n
  ·exact ih A d e v w u1 u2 ik a6 ag (by omega) h1 h2 r1 r2
  cases h1 with
  |Dl _ _|IJ _ _|Ic _ _|ins _ _ _=>simp[AB] at a6
  |Az|bl _|int _|str _=>exact absurd (by simp[IK]) ik
  | @tup a xs ds h r =>
   cases r1;obtain⟨aa,rv,p,_⟩:=I.tuple (.of h);cases h2 with
   |Dl _ _|IJ _ _|Ic _ _|ins _ _ _=>simp[AB] at ag
   |Az=>cases r2;simp only[Ao];exact .tuple_none p ao
   |bl b=>cases r2;simp only[Ao];exact .tuple_bool _ p ao
   |int b=>obtain⟨t,rfl⟩:=r2;simp only[Ao];exact .tuple_int _ _ p ao
   |str b=>obtain⟨t,rfl⟩:=r2;simp only[Ao];exact .tuple_str _ _ p ao
   | @lst a2 bH es h' r'=>cases r2;simp only[Ao];obtain⟨_,_,p',_⟩:=I.list h';exact .tuple_list p p'.isList ao
   | @tup a2 bH es h' r' =>
    cases r2;by_cases ha:a=a2
    ·subst ha;have e':=I.Hb (.of h) (.of h');subst e';have e2:=Gu I (by rw[AB] at a6;exact a6) (by rw[AB] at ag;exact ag) r r';subst e2;rw[IX];exact .same _
    ·obtain⟨its',aW,p',_⟩:=I.tuple (.of h');refine .of_refs ha ?_;have q:=SeqAt.RcAt.tuples (A:=A) (e:=λ j=>Ao (ds.getD j .Az) (es.getD j .Az)) p p' ao λ j h1 h2=>?_
     ·have z1:aa.toArray.size=ds.length:=by rw[zh,<-rv.length,r.length]
      have z2:its'.toArray.size=es.length:=by rw[zh,<-aW.length,r'.length]
      rw[z1,z2,Ls] at q;simp only[Ao];exact q
     ·obtain⟨x,hx,rx⟩:=Vs rv j h1;obtain⟨y,hy,ry⟩:=Vs aW j h2;obtain⟨dx,ex,bZ⟩:=r.JF hx;obtain⟨dy,ey,ca⟩:=r'.JF hy;rw[BX ex,BX ey];refine ih A.in1 dx dy x y _ _ ?_ (BL (zp ex) (by rw[AB] at a6;exact a6)) (BL (zp ey) (by rw[AB] at ag;exact ag)) r6 bZ ca rx ry;rw[IK] at hd;have:=FD (zp ex);omega
  | @lst a xs ds h r =>
   cases r1;obtain⟨aa,rv,p,_⟩:=I.list h;cases h2 with
   |Dl _ _|IJ _ _|Ic _ _|ins _ _ _=>simp[AB] at ag
   |Az=>cases r2;simp only[Ao];exact .list_none p.isList ao
   |bl b=>cases r2;simp only[Ao];exact .list_bool _ p.isList ao
   |int b=>obtain⟨t,rfl⟩:=r2;simp only[Ao];exact .list_int _ _ p.isList ao
   |str b=>obtain⟨t,rfl⟩:=r2;simp only[Ao];exact .list_str _ _ p.isList ao
   | @tup a2 bH es h' r'=>cases r2;simp only[Ao];obtain⟨_,_,p',_⟩:=I.tuple (.of h');exact .list_tuple p.isList p' ao
   | @lst a2 bH es h' r' =>
    cases r2;by_cases ha:a=a2
    ·subst ha;have e':=I.IS h h';subst e';have e2:=Gu I (by rw[AB] at a6;exact a6) (by rw[AB] at ag;exact ag) r r';subst e2;rw[IX];exact .same _
    ·obtain⟨its',aW,p',_⟩:=I.list h';refine .of_refs ha ?_;have z1:aa.toArray.size=ds.length:=by rw[zh,<-rv.length,r.length]
     have z2:its'.toArray.size=es.length:=by rw[zh,<-aW.length,r'.length]
     by_cases hz:aa.toArray.size=its'.toArray.size
     ·have q:=SeqAt.RcAt.lists (A:=A) (e:=λ j=>Ao (ds.getD j .Az) (es.getD j .Az)) p.isList p'.isList hz ao λ j h1 h2=>?_
      ·rw[z1,DR ds es (by rw[<-z1,<-z2,hz])] at q;simp only[Ao];exact q
      ·obtain⟨x,hx,rx⟩:=Vs rv j h1;obtain⟨y,hy,ry⟩:=Vs aW j h2;obtain⟨dx,ex,bZ⟩:=r.JF hx;obtain⟨dy,ey,ca⟩:=r'.JF hy;rw[BX ex,BX ey];refine ih A.in1 dx dy x y _ _ ?_ (BL (zp ex) (by rw[AB] at a6;exact a6)) (BL (zp ey) (by rw[AB] at ag;exact ag)) r6 bZ ca rx ry;rw[IK] at hd;have:=FD (zp ex);omega
     ·have q:=SeqAt.RcAt.lists_lengths (A:=A) p.isList p'.isList (by simpa using hz) ao;simp only[Ao];rw[KZ (by rw[<-z1,<-z2];exact hz)];exact q
theorem pJ (I:Inv X pins σ H s)(A:Around)(d e:D)(v w:V)(u1 u2:Value)(hd:A.units+IK d<cLine)(a6:AB d=true)(ag:AB e=true)(h1:BC X.K H v d)(h2:BC X.K H w e)(r1:RelV v u1)(r2:RelV w u2):SeqAt.RcAt A s u1 u2 (Ao d e):=by
 have ao:A.units<cLine:=by omega
 cases h1 with
 |Dl _ _|IJ _ _|Ic _ _|ins _ _ _=>simp[AB] at a6
 |Az =>
  cases r1;cases h2 with
  |Dl _ _|IJ _ _|Ic _ _|ins _ _ _=>simp[AB] at ag
  |Az=>cases r2;simp only[Ao];exact .none_none
  |bl b=>cases r2;simp only[Ao];exact .none_bool _
  |int b=>obtain⟨t,rfl⟩:=r2;simp only[Ao];exact .none_int _ _
  |str b=>obtain⟨t,rfl⟩:=r2;simp only[Ao];exact .none_str _ _
  |tup h r=>cases r2;simp only[Ao];obtain⟨_,_,p,_⟩:=I.tuple (.of h);exact .none_tuple  p ao
  |lst h r=>cases r2;simp only[Ao];obtain⟨_,_,p,_⟩:=I.list h;exact .none_list  p.isList ao
 |bl a =>
  cases r1;cases h2 with
  |Dl _ _|IJ _ _|Ic _ _|ins _ _ _=>simp[AB] at ag
  |Az=>cases r2;simp only[Ao];exact .bool_none _
  |bl b=>cases r2;simp only[Ao];exact .bool_bool _ _
  |int b=>obtain⟨t,rfl⟩:=r2;simp only[Ao];exact .bool_int _ _ _
  |str b=>obtain⟨t,rfl⟩:=r2;simp only[Ao];exact .bool_str _ _ _
  |tup h r=>cases r2;simp only[Ao];obtain⟨_,_,p,_⟩:=I.tuple (.of h);exact .bool_tuple _ p ao
  |lst h r=>cases r2;simp only[Ao];obtain⟨_,_,p,_⟩:=I.list h;exact .bool_list _ p.isList ao
 |int a =>
  obtain⟨t',rfl⟩:=r1;cases h2 with
  |Dl _ _|IJ _ _|Ic _ _|ins _ _ _=>simp[AB] at ag
  |Az=>cases r2;simp only[Ao];exact .int_none _ _
  |bl b=>cases r2;simp only[Ao];exact .int_bool _ _ _
  |int b=>obtain⟨t,rfl⟩:=r2;simp only[Ao];exact .int_int _ _ _ _
  |str b=>obtain⟨t,rfl⟩:=r2;simp only[Ao];exact .int_str _ _ _ _
  |tup h r=>cases r2;simp only[Ao];obtain⟨_,_,p,_⟩:=I.tuple (.of h);exact .int_tuple _ _ p ao
  |lst h r=>cases r2;simp only[Ao];obtain⟨_,_,p,_⟩:=I.list h;exact .int_list _ _ p.isList ao
 |str a =>
  obtain⟨t',rfl⟩:=r1;cases h2 with
  |Dl _ _|IJ _ _|Ic _ _|ins _ _ _=>simp[AB] at ag
  |Az=>cases r2;simp only[Ao];exact .str_none _ _
  |bl b=>cases r2;simp only[Ao];exact .str_bool _ _ _
  |int b=>obtain⟨t,rfl⟩:=r2;simp only[Ao];exact .str_int _ _ _ _
  |str b=>obtain⟨t,rfl⟩:=r2;simp only[Ao];exact .str_str _ _ _ _
  |tup h r=>cases r2;simp only[Ao];obtain⟨_,_,p,_⟩:=I.tuple (.of h);exact .str_tuple _ _ p ao
  |lst h r=>cases r2;simp only[Ao];obtain⟨_,_,p,_⟩:=I.list h;exact .str_list _ _ p.isList ao
 | @tup a xs ds h r =>
  cases r1;obtain⟨aa,rv,p,_⟩:=I.tuple (.of h);cases h2 with
  |Dl _ _|IJ _ _|Ic _ _|ins _ _ _=>simp[AB] at ag
  |Az=>cases r2;simp only[Ao];exact .tuple_none  p ao
  |bl b=>cases r2;simp only[Ao];exact .tuple_bool _ p ao
  |int b=>obtain⟨t,rfl⟩:=r2;simp only[Ao];exact .tuple_int _ _ p ao
  |str b=>obtain⟨t,rfl⟩:=r2;simp only[Ao];exact .tuple_str _ _ p ao
  | @lst a2 bH es h' r'=>cases r2;simp only[Ao];obtain⟨_,_,p',_⟩:=I.list h';exact .tuple_list p p'.isList ao
  | @tup a2 bH es h' r' =>
   cases r2;obtain⟨its',aW,p',_⟩:=I.tuple (.of h');have z1:aa.toArray.size=ds.length:=by rw[zh,<-rv.length,r.length]
   have z2:its'.toArray.size=es.length:=by rw[zh,<-aW.length,r'.length]
   have q:=SeqAt.RcAt.tuples (A:=A) (e:=λ j=>Ao (ds.getD j .Az) (es.getD j .Az)) p p' ao λ j h1 h2=>?_
   ·rw[z1,z2,Ls] at q;simp only[Ao];exact q
   ·obtain⟨x,hx,rx⟩:=Vs rv j h1;obtain⟨y,hy,ry⟩:=Vs aW j h2;obtain⟨dx,ex,bZ⟩:=r.JF hx;obtain⟨dy,ey,ca⟩:=r'.JF hy;rw[BX ex,BX ey];rw[IK] at hd;have:=FD (zp ex);exact Ou I (KJ ds) A.in1 dx dy x y _ _ this (BL (zp ex) (by rw[AB] at a6;exact a6)) (BL (zp ey) (by rw[AB] at ag;exact ag)) (by show A.units+1+_<cLine;omega) bZ ca rx ry
 | @lst a xs ds h r =>
  cases r1;obtain⟨aa,rv,p,_⟩:=I.list h;cases h2 with
  |Dl _ _|IJ _ _|Ic _ _|ins _ _ _=>simp[AB] at ag
  |Az=>cases r2;simp only[Ao];exact .list_none  p.isList ao
  |bl b=>cases r2;simp only[Ao];exact .list_bool _ p.isList ao
  |int b=>obtain⟨t,rfl⟩:=r2;simp only[Ao];exact .list_int _ _ p.isList ao
  |str b=>obtain⟨t,rfl⟩:=r2;simp only[Ao];exact .list_str _ _ p.isList ao
  | @tup a2 bH es h' r'=>cases r2;simp only[Ao];obtain⟨_,_,p',_⟩:=I.tuple (.of h');exact .list_tuple p.isList p' ao
  | @lst a2 bH es h' r' =>
   cases r2;obtain⟨its',aW,p',_⟩:=I.list h';have z1:aa.toArray.size=ds.length:=by rw[zh,<-rv.length,r.length]
   have z2:its'.toArray.size=es.length:=by rw[zh,<-aW.length,r'.length]
   by_cases hz:aa.toArray.size=its'.toArray.size
   ·have q:=SeqAt.RcAt.lists (A:=A) (e:=λ j=>Ao (ds.getD j .Az) (es.getD j .Az)) p.isList p'.isList hz ao λ j h1 h2=>?_
    ·rw[z1,DR ds es (by rw[<-z1,<-z2,hz])] at q;simp only[Ao];exact q
    ·obtain⟨x,hx,rx⟩:=Vs rv j h1;obtain⟨y,hy,ry⟩:=Vs aW j h2;obtain⟨dx,ex,bZ⟩:=r.JF hx;obtain⟨dy,ey,ca⟩:=r'.JF hy;rw[BX ex,BX ey];rw[IK] at hd;have:=FD (zp ex);exact Ou I (KJ ds) A.in1 dx dy x y _ _ this (BL (zp ex) (by rw[AB] at a6;exact a6)) (BL (zp ey) (by rw[AB] at ag;exact ag)) (by show A.units+1+_<cLine;omega) bZ ca rx ry
   ·have q:=SeqAt.RcAt.lists_lengths (A:=A) p.isList p'.isList (by simpa using hz) ao;simp only[Ao];rw[KZ (by rw[<-z1,<-z2];exact hz)];exact q
theorem lR (I:Inv X pins σ H s)(A:Around)(d e:D)(v w:V)(u1 u2:Value)(hd:A.units+IK d<cLine)(a6:AB d=true)(ag:AB e=true)(h1:BC X.K H v d)(h2:BC X.K H w e)(r1:RelV v u1)(r2:RelV w u2):SeqAt.RcNeAt A s u1 u2 (!Ao d e):=by
 have ao:A.units<cLine:=by omega
 cases h1 with
 |Dl _ _|IJ _ _|Ic _ _|ins _ _ _=>simp[AB] at a6
 |Az =>
  cases r1;cases h2 with
  |Dl _ _|IJ _ _|Ic _ _|ins _ _ _=>simp[AB] at ag
  |Az=>cases r2;simp only[Ao];exact .none_none
  |bl b=>cases r2;simp only[Ao];exact .none_bool _
  |int b=>obtain⟨t,rfl⟩:=r2;simp only[Ao];exact .none_int _ _
  |str b=>obtain⟨t,rfl⟩:=r2;simp only[Ao];exact .none_str _ _
  |tup h r=>cases r2;simp only[Ao];obtain⟨_,_,p,_⟩:=I.tuple (.of h);exact .none_tuple  p ao
  |lst h r=>cases r2;simp only[Ao];obtain⟨_,_,p,_⟩:=I.list h;exact .none_list  p.isList ao
 |bl a =>
  cases r1;cases h2 with
  |Dl _ _|IJ _ _|Ic _ _|ins _ _ _=>simp[AB] at ag
  |Az=>cases r2;simp only[Ao];exact .bool_none _
  |bl b=>cases r2;simp only[Ao];exact .bool_bool _ _
  |int b=>obtain⟨t,rfl⟩:=r2;simp only[Ao];exact .bool_int _ _ _
  |str b=>obtain⟨t,rfl⟩:=r2;simp only[Ao];exact .bool_str _ _ _
  |tup h r=>cases r2;simp only[Ao];obtain⟨_,_,p,_⟩:=I.tuple (.of h);exact .bool_tuple _ p ao
  |lst h r=>cases r2;simp only[Ao];obtain⟨_,_,p,_⟩:=I.list h;exact .bool_list _ p.isList ao
 |int a =>
  obtain⟨t',rfl⟩:=r1;cases h2 with
  |Dl _ _|IJ _ _|Ic _ _|ins _ _ _=>simp[AB] at ag
  |Az=>cases r2;simp only[Ao];exact .int_none _ _
  |bl b=>cases r2;simp only[Ao];exact .int_bool _ _ _
  |int b=>obtain⟨t,rfl⟩:=r2;simp only[Ao];exact .int_int _ _ _ _
  |str b=>obtain⟨t,rfl⟩:=r2;simp only[Ao];exact .int_str _ _ _ _
  |tup h r=>cases r2;simp only[Ao];obtain⟨_,_,p,_⟩:=I.tuple (.of h);exact .int_tuple _ _ p ao
  |lst h r=>cases r2;simp only[Ao];obtain⟨_,_,p,_⟩:=I.list h;exact .int_list _ _ p.isList ao
 |str a =>
  obtain⟨t',rfl⟩:=r1;cases h2 with
  |Dl _ _|IJ _ _|Ic _ _|ins _ _ _=>simp[AB] at ag
  |Az=>cases r2;simp only[Ao];exact .str_none _ _
  |bl b=>cases r2;simp only[Ao];exact .str_bool _ _ _
  |int b=>obtain⟨t,rfl⟩:=r2;simp only[Ao];exact .str_int _ _ _ _
  |str b=>obtain⟨t,rfl⟩:=r2;simp only[Ao];exact .str_str _ _ _ _
  |tup h r=>cases r2;simp only[Ao];obtain⟨_,_,p,_⟩:=I.tuple (.of h);exact .str_tuple _ _ p ao
  |lst h r=>cases r2;simp only[Ao];obtain⟨_,_,p,_⟩:=I.list h;exact .str_list _ _ p.isList ao
 | @tup a xs ds h r =>
  cases r1;obtain⟨aa,rv,p,_⟩:=I.tuple (.of h);cases h2 with
  |Dl _ _|IJ _ _|Ic _ _|ins _ _ _=>simp[AB] at ag
  |Az=>cases r2;simp only[Ao];exact .tuple_none  p ao
  |bl b=>cases r2;simp only[Ao];exact .tuple_bool _ p ao
  |int b=>obtain⟨t,rfl⟩:=r2;simp only[Ao];exact .tuple_int _ _ p ao
  |str b=>obtain⟨t,rfl⟩:=r2;simp only[Ao];exact .tuple_str _ _ p ao
  | @lst a2 bH es h' r'=>cases r2;simp only[Ao];obtain⟨_,_,p',_⟩:=I.list h';exact .tuple_list p p'.isList ao
  | @tup a2 bH es h' r' =>
   cases r2;obtain⟨its',aW,p',_⟩:=I.tuple (.of h');have z1:aa.toArray.size=ds.length:=by rw[zh,<-rv.length,r.length]
   have z2:its'.toArray.size=es.length:=by rw[zh,<-aW.length,r'.length]
   have q:=SeqAt.RcNeAt.tuples (A:=A) (e:=λ j=>Ao (ds.getD j .Az) (es.getD j .Az)) p p' ao λ j h1 h2=>?_
   ·rw[z1,z2,Ls] at q;simp only[Ao];exact q
   ·obtain⟨x,hx,rx⟩:=Vs rv j h1;obtain⟨y,hy,ry⟩:=Vs aW j h2;obtain⟨dx,ex,bZ⟩:=r.JF hx;obtain⟨dy,ey,ca⟩:=r'.JF hy;rw[BX ex,BX ey];rw[IK] at hd;have:=FD (zp ex);exact Ou I (KJ ds) A.in1 dx dy x y _ _ this (BL (zp ex) (by rw[AB] at a6;exact a6)) (BL (zp ey) (by rw[AB] at ag;exact ag)) (by show A.units+1+_<cLine;omega) bZ ca rx ry
 | @lst a xs ds h r =>
  cases r1;obtain⟨aa,rv,p,_⟩:=I.list h;cases h2 with
  |Dl _ _|IJ _ _|Ic _ _|ins _ _ _=>simp[AB] at ag
  |Az=>cases r2;simp only[Ao];exact .list_none  p.isList ao
  |bl b=>cases r2;simp only[Ao];exact .list_bool _ p.isList ao
  |int b=>obtain⟨t,rfl⟩:=r2;simp only[Ao];exact .list_int _ _ p.isList ao
  |str b=>obtain⟨t,rfl⟩:=r2;simp only[Ao];exact .list_str _ _ p.isList ao
  | @tup a2 bH es h' r'=>cases r2;simp only[Ao];obtain⟨_,_,p',_⟩:=I.tuple (.of h');exact .list_tuple p.isList p' ao
  | @lst a2 bH es h' r' =>
   cases r2;obtain⟨its',aW,p',_⟩:=I.list h';have z1:aa.toArray.size=ds.length:=by rw[zh,<-rv.length,r.length]
   have z2:its'.toArray.size=es.length:=by rw[zh,<-aW.length,r'.length]
   by_cases hz:aa.toArray.size=its'.toArray.size
   ·have q:=SeqAt.RcNeAt.lists (A:=A) (e:=λ j=>Ao (ds.getD j .Az) (es.getD j .Az)) p.isList p'.isList hz ao λ j h1 h2=>?_
    ·rw[z1,DR ds es (by rw[<-z1,<-z2,hz])] at q;simp only[Ao];exact q
    ·obtain⟨x,hx,rx⟩:=Vs rv j h1;obtain⟨y,hy,ry⟩:=Vs aW j h2;obtain⟨dx,ex,bZ⟩:=r.JF hx;obtain⟨dy,ey,ca⟩:=r'.JF hy;rw[BX ex,BX ey];rw[IK] at hd;have:=FD (zp ex);exact Ou I (KJ ds) A.in1 dx dy x y _ _ this (BL (zp ex) (by rw[AB] at a6;exact a6)) (BL (zp ey) (by rw[AB] at ag;exact ag)) (by show A.units+1+_<cLine;omega) bZ ca rx ry
   ·have q:=SeqAt.RcNeAt.lists_lengths (A:=A) p.isList p'.isList (by simpa using hz) ao;simp only[Ao];rw[KZ (by rw[<-z1,<-z2];exact hz)];exact q
noncomputable def YL (K:za)(A:Around)(neg:Bool):R2:=λ x y H Q=>∃d e,BC K H x d/\BC K H y e/\A.units+IK d<cLine/\AB d=true/\AB e=true/\Q (.bl (if neg=true then !Ao d e else Ao d e)) H
theorem Wb:FA X (compareOp .Eq) (YL X.K X.A false):=by
 intro pins s σ H x y v u Q I rx ry h;obtain⟨d,e,hd,he,hu,n1,n2,q⟩:=h;exact pJ I X.A d e x y v u hu n1 n2 hd he rx ry X.prog X.w X.xe _ ⟨.bl _,H,I,rfl,q⟩
theorem fR:FA X (compareOp .NotEq) (YL X.K X.A true):=by
 intro pins s σ H x y v u Q I rx ry h;obtain⟨d,e,hd,he,hu,n1,n2,q⟩:=h;exact lR I X.A d e x y v u hu n1 n2 hd he rx ry X.prog X.w X.xe _ ⟨.bl _,H,I,rfl,q⟩
end
inductive OT where
 |sh (d:D)|lst (ts:List OT)|tup (ts:List OT)|Bh (t:Bool) (ks:List D) (ts:List OT)|ins (x:Str) (ns:List Str) (ts:List OT)
inductive Ow where
 |rows (Gv:List (List D))
 |L0 (p:Nat) (ds:List D)
 |tree (p:Option Nat) (t:OT)
inductive Cl where
 |val (d:D)|own (ds:List D)|ow (o:Ow)
noncomputable abbrev Aa:=List (Option Cl)
inductive M (α:Type) where
 |ok (a:α)|ex (c:Str)|bad
noncomputable def M.bind {α β:Type}(m:M α)(k:α->M β):M β:=match m with
 | .ok a=>k a
 | .ex c=>.ex c
 | .bad=>.bad
@[simp] theorem M.A6 {α β:Type}(a:α) (k:α->M β):(M.ok a).bind k=k a:=rfl
noncomputable def del (H:Hp)(P:Addr->Prop):Hp:=λ a=>open Classical in if P a then none else H a
theorem AE {H:Hp}{P:Addr->Prop}{a:Addr}(h:¬ P a):del H P a=H a:=by unfold del;rw[if_neg h]
theorem FE {H:Hp}{P:Addr->Prop}{a:Addr}(h:P a):del H P a=none:=by unfold del;rw[if_pos h]
theorem An {H:Hp}{P:Addr->Prop}{a:Addr}{o:HO}(h:del H P a=some o):¬ P a/\H a=some o:=by
 by_cases hp:P a
 ·rw[FE hp] at h;cases h
 ·rw[AE hp] at h;exact⟨hp,h⟩
theorem Rd.Bi {H:Hp}{P:Addr->Prop}{a:Addr}{u:HO}(r:Rd (del H P) a u):Rd H a u:=r.elim (λ h=>.inl (An h).2) λ⟨o,h⟩=>.inr ⟨o,(An h).2⟩
theorem Ae.del {H H':Hp}{P:Addr->Prop}(e:Ae H H'):Ae (del H P) (del H' P):=λ b o h=>by
 obtain⟨h1,h2⟩:=An h;rw[AE h1];exact e b o h2
theorem Ci {H:Hp}{P P':Addr->Prop}(h:∀a,P' a->P a):Ae (L2.del H P) (L2.del H P'):=λ b o e=>by
 obtain⟨h1,h2⟩:=An e;rw[AE λ z=>h1 (h b z)];exact h2
theorem DU {H:Hp}{P:Addr->Prop}:Ae (L2.del H P) H:=λ b o e=>(An e).2
def El (H:Hp)(a:Addr):Prop:=∃o,H a=some o/\∀xs,o≠.tup xs/\∀z,o≠.TR z (.tup xs)
theorem El.same {H H':Hp}{a:Addr}(h:El H a)(e:Ae H H'):El H' a:=let ⟨o,q,r⟩:=h;⟨o,e a o q,r⟩
theorem El.no {H:Hp}{a:Addr}(h:El H a)(e:H a=none):False:=by
 obtain⟨o,q,r⟩:=h;rw[e] at q;cases q
theorem El.lst {H:Hp}{a:Addr}{xs:List V}(h:H a=some (.lst xs)):El H a:=⟨_,h,λ _=>⟨λ z=>(by cases z),λ _ z=>by cases z⟩⟩
mutual
inductive BF (K:za) (H:Hp) (P:Addr->Prop):V->OT->List Addr->Prop
 |sh {v d}:BC K (del H P) v d->BF K H P v (.sh d) []
 |lst {p xs ts fp}:H p=some (.lst xs)->Aw K H P xs ts fp->BF K H P (.ref p) (.lst ts) (p::fp)
 |tup {p xs ts fp}:del H P p=some (.tup xs)->Aw K H P xs ts fp->BF K H P (.ref p) (.tup ts) fp
 |dK {p kvs ts fp}:H p=some (.dK kvs)->Aw K H P (kvs.map yA) ts fp->BF K H P (.ref p) (.Bh false (kvs.map λ kv=>EA kv.1) ts) (p::fp)
 |dT {p kvs ts fp}:H p=some (.dT kvs)->Aw K H P (kvs.map yA) ts fp->BF K H P (.ref p) (.Bh true (kvs.map λ kv=>.tup (kv.1.map EA)) ts) (p::fp)
 |ins {p C dx fs ts fp x}:zc K mainGlobals x=some (some (.ref C))->H p=some (.ins C dx fs)->Aw K H P (fs.map yA) ts fp->BF K H P (.ref p) (.ins x (fs.map zZ) ts) (p::fp)
inductive Aw (K:za) (H:Hp) (P:Addr->Prop):List V->List OT->List Addr->Prop
 |nil:Aw K H P [] [] []
 |cons {v t fp vs ts fq}:BF K H P v t fp->Aw K H P vs ts fq->Aw K H P (v::vs) (t::ts) (fp++fq)
end
mutual
noncomputable def er:OT->D
 | .sh d=>d
 | .lst ts=>.lst (Rz ts)
 | .tup ts=>.tup (Rz ts)
 | .Bh t ks ts=>.Bh t ks (Rz ts)
 | .ins x ns ts=>.ins x ns (Rz ts)
noncomputable def Rz:List OT->List D
 |[]=>[]
 |t::r=>er t::Rz r
end
mutual
theorem BF.move {K:za}{H H':Hp}{P P':Addr->Prop}(sm:Ae (del H P) (del H' P')):∀ {v:V}{t:OT}{fp:List Addr},(∀a∈fp,H' a=H a)->BF K H P v t fp->BF K H' P' v t fp
 |_,_,_,_,.sh h=>.sh (h.mono sm)
 |_,_,_,k,.lst h r=>.lst ((k _ zd).trans h) (Aw.move sm (λ a ha=>k a (ze _ ha)) r)
 |_,_,_,k,.tup h r=>.tup (sm _ _ h) (Aw.move sm k r)
 |_,_,_,k,.dK h r=>.dK ((k _ zd).trans h) (Aw.move sm (λ a ha=>k a (ze _ ha)) r)
 |_,_,_,k,.dT h r=>.dT ((k _ zd).trans h) (Aw.move sm (λ a ha=>k a (ze _ ha)) r)
 |_,_,_,k,.ins n h r=>.ins n ((k _ zd).trans h) (Aw.move sm (λ a ha=>k a (ze _ ha)) r)
theorem Aw.move {K:za}{H H':Hp}{P P':Addr->Prop}(sm:Ae (del H P) (del H' P')):∀ {v:List V}{t:List OT}{fp:List Addr},(∀a∈fp,H' a=H a)->Aw K H P v t fp->Aw K H' P' v t fp
 |_,_,_,_,.nil=>.nil
 |_,_,_,k,.cons h r=>.cons (BF.move sm (λ a ha=>k a (zO _ ha)) h) (Aw.move sm (λ a ha=>k a (zo _ ha)) r)
end
mutual
theorem BF.Cf {K:za}{H:Hp}{P:Addr->Prop}:∀ {v:V}{t:OT}{fp:List Addr},BF K H P v t fp->∀a∈fp,El H a
 |_,_,_,.sh h,a,ha=>by cases ha
 |_,_,_,.lst h r,a,ha=>by
  rcases zl.mp ha with rfl|ha
  ·exact .lst h
  ·exact Aw.Cf r a ha
 |_,_,_,.tup h r,a,ha=>Aw.Cf r a ha
 |_,_,_,.dK h r,a,ha=>by
  rcases zl.mp ha with rfl|ha
  ·exact⟨_,h,λ _=>⟨λ z=>(by cases z),λ _ z=>by cases z⟩⟩
  ·exact Aw.Cf r a ha
 |_,_,_,.dT h r,a,ha=>by
  rcases zl.mp ha with rfl|ha
  ·exact⟨_,h,λ _=>⟨λ z=>(by cases z),λ _ z=>by cases z⟩⟩
  ·exact Aw.Cf r a ha
 |_,_,_,.ins n h r,a,ha=>by
  rcases zl.mp ha with rfl|ha
  ·exact⟨_,h,λ _=>⟨λ z=>(by cases z),λ _ z=>by cases z⟩⟩
  ·exact Aw.Cf r a ha
theorem Aw.Cf {K:za}{H:Hp}{P:Addr->Prop}:∀ {v:List V}{t:List OT}{fp:List Addr},Aw K H P v t fp->∀a∈fp,El H a
 |_,_,_,.nil,a,ha=>by cases ha
 |_,_,_,.cons h r,a,ha=>by
  rcases zK.mp ha with ha|ha
  ·exact BF.Cf h a ha
  ·exact Aw.Cf r a ha
end
mutual
theorem BF.C1 {K:za}{H:Hp}{P P':Addr->Prop}:∀ {v:V}{t:OT}{fp ai:List Addr},BF K H P v t fp->BF K H P' v t ai->fp=ai
 |_,_,_,_,.sh _,.sh _=>rfl
 |_,_,_,_,.lst h r,.lst h' r'=>by
  rw[h] at h';cases h';rw[Aw.C1 r r']
 |_,_,_,_,.tup h r,.tup h' r'=>by
  have e:=(An h).2.symm.trans (An h').2;cases e;exact Aw.C1 r r'
 |_,_,_,_,.dK (kvs:=kvs) (ts:=ts) h r,x=>by
  generalize ht:OT.Bh false (kvs.map λ kv=>EA kv.1) ts=t at x;cases x with
  |dK h' r' =>
   rw[h] at h';cases h';injection ht with _ _ e
   subst e;rw[Aw.C1 r r']
  |dT h' r'=>rw[h] at h';cases h'
  |_=>cases ht
 |_,_,_,_,.dT (kvs:=kvs) (ts:=ts) h r,x=>by
  generalize ht:OT.Bh true (kvs.map λ kv=>D.tup (kv.1.map EA)) ts=t at x;cases x with
  |dT h' r' =>
   rw[h] at h';cases h';injection ht with _ _ e
   subst e;rw[Aw.C1 r r']
  |dK h' r'=>rw[h] at h';cases h'
  |_=>cases ht
 |_,_,_,_,.ins (fs:=fs) (ts:=ts) (x:=y) n h r,x=>by
  generalize ht:OT.ins y (fs.map zZ) ts=t at x;cases x with
  |ins n' h' r' =>
   rw[h] at h';cases h';injection ht with _ _ e
   subst e;rw[Aw.C1 r r']
  |_=>cases ht
theorem Aw.C1 {K:za}{H:Hp}{P P':Addr->Prop}:∀ {v:List V}{t:List OT}{fp ai:List Addr},Aw K H P v t fp->Aw K H P' v t ai->fp=ai
 |_,_,_,_,.nil,.nil=>rfl
 |_,_,_,_,.cons h r,.cons h' r'=>by rw[BF.C1 h h',Aw.C1 r r']
end
mutual
theorem BF.has {K:za}{H:Hp}{P P0:Addr->Prop}(hs:∀a,P0 a->P a):∀ {v:V}{t:OT}{fp:List Addr},(∀a∈fp,¬ P0 a)->BF K H P v t fp->BC K (del H P0) v (er t)
 |_,_,_,_,.sh h=>by rw[er];exact h.mono (Ci hs)
 |_,_,_,k,.lst h r=>by rw[er];exact .lst (.of (show del H P0 _=_ by rw[AE (k _ zd)];exact h)) (Aw.has hs (λ a ha=>k a (ze _ ha)) r)
 |_,_,_,k,.tup h r=>by rw[er];exact .tup (Ci hs _ _ h) (Aw.has hs k r)
 |_,_,_,k,.dK h r=>by rw[er];exact .IJ (.inl (show del H P0 _=_ by rw[AE (k _ zd)];exact h)) (Aw.has hs (λ a ha=>k a (ze _ ha)) r)
 |_,_,_,k,.dT h r=>by rw[er];exact .Ic (.inl (show del H P0 _=_ by rw[AE (k _ zd)];exact h)) (Aw.has hs (λ a ha=>k a (ze _ ha)) r)
 |_,_,_,k,.ins n h r=>by rw[er];exact .ins n (show del H P0 _=_ by rw[AE (k _ zd)];exact h) (Aw.has hs (λ a ha=>k a (ze _ ha)) r)
theorem Aw.has {K:za}{H:Hp}{P P0:Addr->Prop}(hs:∀a,P0 a->P a):∀ {v:List V}{t:List OT}{fp:List Addr},(∀a∈fp,¬ P0 a)->Aw K H P v t fp->Ag K (del H P0) v (Rz t)
 |_,_,_,_,.nil=>by rw[Rz];exact .nil
 |_,_,_,k,.cons h r=>by rw[Rz];exact .cons (BF.has hs (λ a ha=>k a (zO _ ha)) h) (Aw.has hs (λ a ha=>k a (zo _ ha)) r)
end
inductive DV (K:za) (H:Hp) (P:Addr->Prop):List Addr->List (List D)->Prop
 |nil:DV K H P [] []
 |cons {q:Addr} {xs:List V} {ds:List D} {ps:List Addr} {Gv:List (List D)}:H q=some (.lst xs)->Ag K (del H P) xs ds->DV K H P ps Gv->DV K H P (q::ps) (ds::Gv)
def CW (K:za)(H:Hp)(P:Addr->Prop):Cl->V->List Addr->Prop
 | .own ds,v,fp=>∃p xs,v=.ref p/\fp=[p]/\H p=some (.lst xs)/\Ag K (del H P) xs ds
 | .ow (.rows Gv),v,fp=>∃p ps,v=.ref p/\fp=p::ps/\H p=some (.lst (ps.map V.ref))/\DV K H P ps Gv
 | .ow (.L0 _ ds),v,fp=>∃p xs,v=.ref p/\fp=[p]/\H p=some (.lst xs)/\Ag K (del H P) xs ds
 | .ow (.tree _ t),v,fp=>BF K H P v t fp
 | .val _,_,_=>False
noncomputable def HM:Cl->Bool
 | .val _=>false
 |_=>true
theorem DV.move {K:za}{H H':Hp}{P P':Addr->Prop}(sm:Ae (del H P) (del H' P')):∀ {ps:List Addr}{Gv:List (List D)},(∀a∈ps,H' a=H a)->DV K H P ps Gv->DV K H' P' ps Gv
 |_,_,_,.nil=>.nil
 |_,_,k,.cons h r t=>.cons ((k _ zd).trans h) (r.mono sm) (DV.move sm (λ a ha=>k a (ze _ ha)) t)
theorem DV.at {K:za}{H:Hp}{P:Addr->Prop}:∀ {ps:List Addr}{Gv:List (List D)},DV K H P ps Gv->∀a∈ps,∃xs,H a=some (.lst xs)
 |_,_,.nil,a,h=>by cases h
 |_,_,.cons h r t,a,ha=>by
  rcases zl.mp ha with rfl|ha
  ·exact⟨_,h⟩
  ·exact t.at a ha
theorem PV:∀ {ps qs:List Addr},ps.map V.ref=qs.map V.ref->ps=qs
 |[],[],_=>rfl
 |[],_::_,h|_::_,[],h=>by cases h
 |p::ps,q::qs,h=>by
  rw[zg,zg] at h;injection h with h1 h2
  injection h1 with h1
  rw[h1,PV h2]
theorem CW.move {K:za}{H H':Hp}{P P':Addr->Prop}(sm:Ae (del H P) (del H' P')){c:Cl}{v:V}{fp:List Addr}(k:∀a∈fp,H' a=H a)(h:CW K H P c v fp):CW K H' P' c v fp:=by
 cases c with
 |val d=>exact h
 |own ds =>
  obtain⟨p,xs,rfl,rfl,h1,h2⟩:=h;exact⟨p,xs,rfl,rfl,(k p zd).trans h1,h2.mono sm⟩
 |ow o =>
  cases o with
  |rows Gv =>
   obtain⟨p,ps,rfl,rfl,h1,h2⟩:=h;exact⟨p,ps,rfl,rfl,(k p zd).trans h1,h2.move sm λ a ha=>k a (ze _ ha)⟩
  |L0 p ds =>
   obtain⟨p,xs,rfl,rfl,h1,h2⟩:=h;exact⟨p,xs,rfl,rfl,(k p zd).trans h1,h2.mono sm⟩
  |tree p t=>exact BF.move sm k h
theorem CW.at {K:za}{H:Hp}{P:Addr->Prop}{c:Cl}{v:V}{fp:List Addr}(h:CW K H P c v fp):∀a∈fp,∃o,H a=some o:=by
 cases c with
 |val d=>exact h.elim
 |own ds =>
  obtain⟨p,xs,rfl,rfl,h1,h2⟩:=h;exact λ a ha=>⟨.lst xs,by rw[zw.mp ha];exact h1⟩
 |ow o =>
  cases o with
  |rows Gv =>
   obtain⟨p,ps,rfl,rfl,h1,h2⟩:=h;intro a ha;rcases zl.mp ha with rfl|ha
   ·exact⟨_,h1⟩
   ·obtain⟨xs,q⟩:=h2.at a ha;exact⟨_,q⟩
  |L0 p ds =>
   obtain⟨p,xs,rfl,rfl,h1,h2⟩:=h;exact λ a ha=>⟨.lst xs,by rw[zw.mp ha];exact h1⟩
  |tree p t =>
   intro a ha;obtain⟨o,q,_⟩:=BF.Cf h a ha;exact⟨o,q⟩
theorem CW.same {K:za}{H H':Hp}{P:Addr->Prop}(e:Ae H H'){c:Cl}{v:V}{fp:List Addr}(h:CW K H P c v fp):CW K H' P c v fp:=
 h.move e.del λ a ha=>by obtain⟨xs,q⟩:=h.at a ha;rw[q];exact e _ _ q
theorem CW.C1 {K:za}{H:Hp}{P P':Addr->Prop}{c:Cl}{v:V}{fp ai:List Addr}(h:CW K H P c v fp)(h':CW K H P' c v ai):fp=ai:=by
 cases c with
 |val d=>exact h.elim
 |own ds =>
  obtain⟨p,xs,rfl,rfl,h1,h2⟩:=h;obtain⟨p',d7,e,rfl,cO,il⟩:=h';cases e;rfl
 |ow o =>
  cases o with
  |rows Gv =>
   obtain⟨p,ps,rfl,rfl,h1,h2⟩:=h;obtain⟨p',t9,e,rfl,cO,il⟩:=h';cases e;rw[h1] at cO;injection cO with e
   injection e with e
   rw[PV e]
  |L0 p ds =>
   obtain⟨p,xs,rfl,rfl,h1,h2⟩:=h;obtain⟨p',d7,e,rfl,cO,il⟩:=h';cases e;rfl
  |tree p t=>exact BF.C1 h h'
structure Dn where
 pr:Addr->Prop
 g:Nat->Addr
instance:CoeFun Dn (λ _=>Addr->Prop):=⟨Dn.pr⟩
instance:Coe Dn (Addr->Prop):=⟨Dn.pr⟩
noncomputable def Nr:Cl->Option Nat
 | .ow (.L0 n _)=>some n
 | .ow (.tree (some n) _)=>some n
 |_=>none
structure Ai (K:za)(P0:Dn)(P:Addr->Prop)(H:Hp)(σ:St)(ρ:Aa):Prop where
 sub:∀a,P0 a->P a
 Cf:∀a,P a->El H a
 val:∀(i:Nat) d,ρ[i]?=some (some (.val d))->∃v,σ[i]?=some (some v)/\BC K (del H P) v d
 ows:∀(i:Nat) c,ρ[i]?=some (some c)->HM c=true->∃v fp,σ[i]?=some (some v)/\CW K H P c v fp/\(∀a∈fp,P a/\¬ P0 a)/\fp.Nodup
 apart:∀(i j:Nat) c c' v v' fp ai,ρ[i]?=some (some c)->ρ[j]?=some (some c')->σ[i]?=some (some v)->σ[j]?=some (some v')->CW K H P c v fp->CW K H P c' v' ai->i≠j->∀a∈fp,a∉ai
 len:σ.length=ρ.length
 pin:∀(i:Nat) c n,ρ[i]?=some (some c)->Nr c=some n->σ[i]?=some (some (.ref (P0.g n)))
theorem Ai.own {K:za}{P0:Dn}{P:Addr->Prop}{H:Hp}{σ:St}{ρ:Aa}(E:Ai K P0 P H σ ρ)(i:Nat)(ds:List D)(h:ρ[i]?=some (some (.own ds))):
 ∃p xs,σ[i]?=some (some (.ref p))/\H p=some (.lst xs)/\P p/\¬ P0 p/\Ag K (del H P) xs ds:=by
 obtain⟨v,fp,h1,⟨p,xs,rfl,rfl,h2,h3⟩,h4,_⟩:=E.ows i _ h rfl;exact⟨p,xs,h1,h2,(h4 p zd).1,(h4 p zd).2,h3⟩
theorem Ai.Wc {K:za}{P0:Dn}{P P':Addr->Prop}{H H':Hp}{σ:St}{ρ:Aa}(E:Ai K P0 P H σ ρ)(sm:Ae (del H P) (del H' P')){i j:Nat}{c c':Cl}{v v':V}{fp ai:List Addr}
 (ki:∀v fp,σ[i]?=some (some v)->CW K H P c v fp->∀a∈fp,H' a=H a) (kj:∀v fp,σ[j]?=some (some v)->CW K H P c' v fp->∀a∈fp,H' a=H a)
 (hi:ρ[i]?=some (some c)) (hj:ρ[j]?=some (some c')) (si:σ[i]?=some (some v)) (sj:σ[j]?=some (some v')) (h:CW K H' P' c v fp) (h':CW K H' P' c' v' ai) (ae:i≠j):∀a∈fp,a∉ai:=by
 have key:∀(k:Nat) (d:Cl) (w:V) (fq:List Addr),ρ[k]?=some (some d)->σ[k]?=some (some w)->(∀v fp,σ[k]?=some (some v)->CW K H P d v fp->∀a∈fp,H' a=H a)->CW K H' P' d w fq->CW K H P d w fq:=λ k d w fq hk sk kk ho=>by
  have io:HM d=true:=by cases d<;>first|rfl|exact ho.elim
  obtain⟨w',bM,s2,o2,_⟩:=E.ows k d hk io;rw[sk] at s2;cases s2;have o3:=o2.move sm (kk _ _ sk o2);rw[ho.C1 o3];exact o2
 exact E.apart i j c c' v v' fp ai hi hj si sj (key i c v fp hi si ki h) (key j c' v' ai hj sj kj h') ae
theorem Ai.same {K:za}{P0:Dn}{P:Addr->Prop}{H H':Hp}{σ:St}{ρ:Aa}(E:Ai K P0 P H σ ρ)(e:Ae H H'):Ai K P0 P H' σ ρ:=
 ⟨E.sub,λ a h=>(E.Cf a h).same e,λ i d h=>let ⟨v,h1,h2⟩:=E.val i d h;⟨v,h1,h2.mono e.del⟩,
  λ i c h io=>let ⟨v,fp,h1,h2,h3,h4⟩:=E.ows i c h io;⟨v,fp,h1,h2.same e,h3,h4⟩,
  λ i j c c' v v' fp ai hi hj si sj h h' ae=>E.Wc e.del (λ v fp _ o a ha=>by obtain⟨xs,q⟩:=o.at a ha;rw[q];exact e _ _ q) (λ v fp _ o a ha=>by obtain⟨xs,q⟩:=o.at a ha;rw[q];exact e _ _ q) hi hj si sj h h' ae,E.len,E.pin⟩
def gV (K:za)(WX:Str->Hp->Prop)(P:Addr->Prop)(H:Hp)(Q:VK):M D->Prop
 | .ok d=>∀v H',Ae H H'->BC K (del H' P) v d->Q v H'
 | .ex x=>∀H',Ae H H'->WX x H'
 | .bad=>False
def gA (K:za)(WX:Str->Hp->Prop)(P:Addr->Prop)(H:Hp)(Q:List V->Hp->Prop):M (List D)->Prop
 | .ok d=>∀v H',Ae H H'->Ag K (del H' P) v d->Q v H'
 | .ex x=>∀H',Ae H H'->WX x H'
 | .bad=>False
def gT (WX:Str->Hp->Prop)(H:Hp)(Q:Bool->Hp->Prop):M Bool->Prop
 | .ok b=>∀H',Ae H H'->Q b H'
 | .ex x=>∀H',Ae H H'->WX x H'
 | .bad=>False
section
variable {K:za}{WX:Str->Hp->Prop}{P:Addr->Prop}{H H':Hp}
theorem gV.same {Q:VK}{m:M D}(h:gV K WX P H Q m)(e:Ae H H'):gV K WX P H' Q m:=by
 cases m with
 |ok d=>exact λ v H2 q hv=>h v H2 (e.trans q) hv
 |ex x=>exact λ H2 q=>h H2 (e.trans q)
 |bad=>exact h
theorem gA.same {Q:List V->Hp->Prop}{m:M (List D)}(h:gA K WX P H Q m)(e:Ae H H'):gA K WX P H' Q m:=by
 cases m with
 |ok d=>exact λ v H2 q hv=>h v H2 (e.trans q) hv
 |ex x=>exact λ H2 q=>h H2 (e.trans q)
 |bad=>exact h
theorem gT.same {Q:Bool->Hp->Prop}{m:M Bool}(h:gT WX H Q m)(e:Ae H H'):gT WX H' Q m:=by
 cases m with
 |ok d|ex x=>exact λ H2 q=>h H2 (e.trans q)
 |bad=>exact h
end
def Lv (c:Bool)(P0:Dn)(P:Addr->Prop):Addr->Prop:=if c=true then P else P0.pr
def DE (X:Cx)(WX:Str->Hp->Prop)(c:Bool)(e:Expr)(f:Aa->M D):Prop:=
 ∃t,PE X e t/\∀P0 P σ H Q ρ,Ai X.K P0 P H σ ρ->gV X.K WX (Lv c P0 P) H Q (f ρ)->t σ H Q
def DA (X:Cx)(WX:Str->Hp->Prop)(c:Bool)(es:List Expr)(f:Aa->M (List D)):Prop:=
 ∃t,PA X es t/\(∀P0 P σ H Q ρ,Ai X.K P0 P H σ ρ->gA X.K WX (Lv c P0 P) H Q (f ρ)->t σ H Q)/\∀ρ ds,f ρ=.ok ds->ds.length=es.length
def DT (X:Cx)(WX:Str->Hp->Prop)(e:Expr)(f:Aa->M Bool):Prop:=
 ∃t,PT X e t/\∀P0 P σ H Q ρ,Ai X.K P0 P H σ ρ->gT WX H Q (f ρ)->t σ H Q
def DW (X:Cx)(WX:Str->Hp->Prop)(e:Expr)(f:Aa->M Bool):Prop:=
 ∃t,PW X e t/\∀P0 P σ H Q ρ,Ai X.K P0 P H σ ρ->gT WX H Q (f ρ)->t σ H Q
theorem DW.dt {X:Cx}{WX:Str->Hp->Prop}{e:Expr}{f:Aa->M Bool}(h:DW X WX e f):DT X WX e f:=let ⟨t,h1,h2⟩:=h;⟨t,h1.pt,h2⟩
section
variable {X:Cx}{WX:Str->Hp->Prop}{c:Bool}{P0:Dn}{P:Addr->Prop}{H:Hp}{σ:St}{ρ:Aa}
theorem Ai.lv (E:Ai X.K P0 P H σ ρ)(c:Bool):∀a,Lv c P0 P a->P a:=λ a h=>by
 cases c with
 |true=>exact h
 |false=>exact E.sub a h
theorem Ai.lS (E:Ai X.K P0 P H σ ρ)(c:Bool):∀a,Lv c P0 P a->El H a:=λ a h=>E.Cf a (E.lv c a h)
theorem RB {e:Expr}{f:Aa->M D}(h:DE X WX true e f):DE X WX false e f:=by
 obtain⟨t,h1,h2⟩:=h;refine⟨t,h1,λ P0 P σ H Q ρ E g=>h2 P0 P σ H Q ρ E ?_⟩;cases e:f ρ with
 |ok d=>rw[e] at g;exact λ v H' s hv=>g v H' s (hv.mono (Ci E.sub))
 |ex x|bad=>rw[e] at g;exact g
noncomputable def lT:D->Bool
 | .tup _ | .lst _ | .Dl _ | .Bh _ _ _ | .ins _ _ _=>false
 |_=>true
noncomputable def fl (m:M D):M D:=m.bind λ d=>if lT d=true then .ok d else .bad
noncomputable def rv (i:Nat)(ρ:Aa):M D:=match ρ[i]? with | some (some (.val d))=>.ok d | _=>.bad
noncomputable def ra (i:Nat)(ρ:Aa):M D:=match ρ[i]? with | some (some (.val d))=>.ok d | some (some (.own ds))=>.ok (.lst ds) | some (some (.ow (.rows Gv)))=>.ok (.lst (Gv.map D.lst)) | some (some (.ow (.L0 _ ds)))=>.ok (.lst ds) | some (some (.ow (.tree _ t)))=>.ok (er t) | _=>.bad
theorem A1 (i:Nat){x:Str}{pos:Pos}(h:PE X (.Name x pos) (Pq i)):DE X WX true (.Name x pos) (rv i):=by
 refine⟨_,h,λ P0 P σ H Q ρ E g=>?_⟩;unfold rv at g;split at g
 ·rename_i d e;obtain⟨v,h1,h2⟩:=E.val i d e;exact⟨v,h1,g v H (Ae.refl H) h2⟩
 ·exact g.elim
theorem A5 {i j pos}:DE X WX c (.Constant (.int i) j pos) (λ _=>.ok (.int i)):=⟨_,eA,λ P0 P σ H Q ρ E g=>g _ H (Ae.refl H) (.int i)⟩
theorem Cy {b j pos}:DE X WX c (.Constant (.bool b) j pos) (λ _=>.ok (.bl b)):=⟨_,kI,λ P0 P σ H Q ρ E g=>g _ H (Ae.refl H) (.bl b)⟩
theorem Cj {j pos}:DE X WX c (.Constant .none j pos) (λ _=>.ok .Az):=⟨_,eB,λ P0 P σ H Q ρ E g=>g _ H (Ae.refl H) .Az⟩
theorem RC {x j pos}:DE X WX c (.Constant (.str x) j pos) (λ _=>.ok (.str x)):=⟨_,eC,λ P0 P σ H Q ρ E g=>g _ H (Ae.refl H) (.str x)⟩
def SF (K:za)(WX:Str->Hp->Prop)(r:R2)(bo:D->D->M D):Prop:=
 ∀(P:Addr->Prop) (H:Hp) (x y:D) (v w:V) (Q:VK),(∀a,P a->El H a)->BC K (del H P) v x->BC K (del H P) w y->gV K WX P H Q (bo x y)->r v w H Q
variable {a b:Expr}{f g:Aa->M D}{pos:Pos}
theorem Nt {ta tb:TE}{r:R2}{bo:D->D->M D}(ha:∀P0 P σ H Q ρ,Ai X.K P0 P H σ ρ->gV X.K WX (Lv c P0 P) H Q (f ρ)->ta σ H Q)(hb:∀P0 P σ H Q ρ,Ai X.K P0 P H σ ρ->gV X.K WX (Lv c P0 P) H Q (g ρ)->tb σ H Q)
 (hr:SF X.K WX r bo) {Q:VK} (E:Ai X.K P0 P H σ ρ) (h:gV X.K WX (Lv c P0 P) H Q ((f ρ).bind λ x=>(g ρ).bind λ y=>bo x y)):kW r ta tb σ H Q:=by
 refine ha P0 P σ H _ ρ E ?_;cases e:f ρ with
 |bad|ex x=>rw[e] at h;exact h
 |ok x =>
  rw[e] at h;intro v H1 s1 hv;refine hb P0 P σ H1 _ ρ (E.same s1) ?_;cases e2:g ρ with
  |bad=>rw[e2] at h;exact h
  |ex y=>rw[e2] at h;exact gV.same (m:=.ex y) h s1
  |ok y =>
   rw[e2] at h;intro w H2 s2 hw;exact hr _ H2 x y v w Q (λ a q=>((E.same s1).same s2).lS c a q) (hv.mono s2.del) hw ((gV.same h s1).same s2)
theorem Nu {op:Operator}{r:R2}{bo:D->D->M D}(ho:FA X (binaryOp op) r)(hr:SF X.K WX r bo)(ha:DE X WX c a f)(hb:DE X WX c b g):DE X WX c (.BinOp a op b pos) (λ ρ=>(f ρ).bind λ x=>(g ρ).bind λ y=>bo x y):=by
 obtain⟨ta,a1,a2⟩:=ha;obtain⟨tb,b1,b2⟩:=hb;exact⟨_,cI ho a1 b1,λ P0 P σ H Q ρ E h=>Nt a2 b2 hr E h⟩
theorem Wd {op:CmpOp}{r:R2}{bo:D->D->M D}(ho:FA X (compareOp op) r)(hr:SF X.K WX r bo)(ha:DE X WX c a f)(hb:DE X WX c b g)(hm:behindInMarks op b=false):DE X WX c (.Compare a [op] [b] pos) (λ ρ=>(f ρ).bind λ x=>(g ρ).bind λ y=>bo x y):=by
 obtain⟨ta,a1,a2⟩:=ha;obtain⟨tb,b1,b2⟩:=hb;exact⟨_,Yk ho a1 b1 hm,λ P0 P σ H Q ρ E h=>Nt a2 b2 hr E h⟩
theorem lU {r:R2}{bo:D->D->M D}(ho:Yt X r)(hr:SF X.K WX r bo)(ha:DE X WX c a f)(hb:DE X WX c b g)(hs:Oj b):DE X WX c (.Subscript a b pos) (λ ρ=>(f ρ).bind λ x=>(g ρ).bind λ y=>bo x y):=by
 obtain⟨ta,a1,a2⟩:=ha;obtain⟨tb,b1,b2⟩:=hb;exact⟨_,lI ho a1 b1 hs,λ P0 P σ H Q ρ E h=>Nt a2 b2 hr E h⟩
noncomputable def B3 (k:Int->Int->M D)(x y:D):M D:=match x,y with | .int i,.int j=>k i j | _,_=>.bad
theorem BC.int_inv {K:za}{H:Hp}{v:V}{i:Int}(h:BC K H v (.int i)):v=.int i:=by cases h;rfl
theorem BC.Lu {K:za}{H:Hp}{v:V}{i:Bool}(h:BC K H v (.bl i)):v=.bl i:=by cases h;rfl
theorem Ov {C:Int->Int->Prop}{gv:Int->Int->V}{gd:Int->Int->D}[∀i j,Decidable (C i j)](hg:∀i j K H,BC K H (gv i j) (gd i j)):SF X.K WX (rI C gv) (B3 λ i j=>if C i j then .ok (gd i j) else .bad):=by
 intro P H x y v w Q ht hx hy h;unfold B3 at h;split at h
 ·rename_i i j;rw[hx.int_inv,hy.int_inv];dsimp only at h;by_cases hc:C i j
  ·rw[if_pos hc] at h;exact⟨i,j,rfl,rfl,hc,h _ H (Ae.refl H) (hg i j _ _)⟩
  ·rw[if_neg hc] at h;exact h.elim
 ·exact h.elim
theorem L1 {gv:Int->Int->V}{gd:Int->Int->D}(hg:∀i j K H,BC K H (gv i j) (gd i j)):SF X.K WX (TY gv) (B3 λ i j=>.ok (gd i j)):=by
 intro P H x y v w Q ht hx hy h;unfold B3 at h;split at h
 ·rename_i i j;rw[hx.int_inv,hy.int_inv];exact⟨i,j,rfl,rfl,h _ H (Ae.refl H) (hg i j _ _)⟩
 ·exact h.elim
instance (i j:Int):Decidable (Pw i j):=by unfold Pw;infer_instance
instance (i j:Int):Decidable (Yi i j):=by unfold Yi;infer_instance
instance (i j:Int):Decidable (VI i j):=by unfold VI;infer_instance
noncomputable def We:=B3 λ i j=>.ok (.int (i+j))
noncomputable def fS:=B3 λ i j=>.ok (.int (i-j))
noncomputable def Ie:=B3 λ i j=>if 0<j then .ok (.int (i%j)) else .bad
noncomputable def Nv:=B3 λ i j=>if Pw i j then .ok (.int (i / j)) else .bad
noncomputable def PX:=B3 λ i j=>if Yi i j then .ok (.int (i^j.toNat)) else .bad
noncomputable def tG:=B3 λ i j=>.ok (.bl (decide (i<j)))
noncomputable def tH:=B3 λ i j=>.ok (.bl (decide (i<=j)))
noncomputable def rG:=B3 λ i j=>.ok (.bl (decide (j<i)))
noncomputable def rH:=B3 λ i j=>.ok (.bl (decide (j<=i)))
theorem D6 (ha:DE X WX c a f)(hb:DE X WX c b g):DE X WX c (.BinOp a .Add b pos) (λ ρ=>(f ρ).bind λ x=>(g ρ).bind λ y=>We x y):=Nu eT (L1 λ _ _ _ _=>.int _) ha hb
theorem fT (ha:DE X WX c a f)(hb:DE X WX c b g):DE X WX c (.BinOp a .Sub b pos) (λ ρ=>(f ρ).bind λ x=>(g ρ).bind λ y=>fS x y):=Nu eU (L1 λ _ _ _ _=>.int _) ha hb
theorem BP (ha:DE X WX c a f)(hb:DE X WX c b g):DE X WX c (.BinOp a .Mod b pos) (λ ρ=>(f ρ).bind λ x=>(g ρ).bind λ y=>Ie x y):=Nu eV (Ov λ _ _ _ _=>.int _) ha hb
theorem L3 (ha:DE X WX c a f)(hb:DE X WX c b g):DE X WX c (.BinOp a .FloorDiv b pos) (λ ρ=>(f ρ).bind λ x=>(g ρ).bind λ y=>Nv x y):=Nu Yj (Ov λ _ _ _ _=>.int _) ha hb
theorem Ox (ha:DE X WX c a f)(hb:DE X WX c b g):DE X WX c (.BinOp a .Pow b pos) (λ ρ=>(f ρ).bind λ x=>(g ρ).bind λ y=>PX x y):=Nu eW (Ov λ _ _ _ _=>.int _) ha hb
noncomputable def Wf (n:Nat)(x y:D):M D:=if IK x<=n/\AB x=true/\AB y=true then .ok (.bl (Ao x y)) else .bad
noncomputable def Vt (n:Nat)(x y:D):M D:=if IK x<=n/\AB x=true/\AB y=true then .ok (.bl (!Ao x y)) else .bad
theorem Wg {n:Nat}(hu:X.A.units+n<cLine):SF X.K WX (YL X.K X.A false) (Wf n):=by
 intro P H x y v w Q ht hx hy h;unfold Wf at h;by_cases hd:IK x<=n/\AB x=true/\AB y=true
 ·rw[if_pos hd] at h;exact⟨x,y,hx.mono DU,hy.mono DU,by omega,hd.2.1,hd.2.2,h _ H (Ae.refl H) (.bl _)⟩
 ·rw[if_neg hd] at h;exact h.elim
theorem fU {n:Nat}(hu:X.A.units+n<cLine):SF X.K WX (YL X.K X.A true) (Vt n):=by
 intro P H x y v w Q ht hx hy h;unfold Vt at h;by_cases hd:IK x<=n/\AB x=true/\AB y=true
 ·rw[if_pos hd] at h;exact⟨x,y,hx.mono DU,hy.mono DU,by omega,hd.2.1,hd.2.2,h _ H (Ae.refl H) (.bl _)⟩
 ·rw[if_neg hd] at h;exact h.elim
theorem lV {n:Nat}(hu:X.A.units+n<cLine)(ha:DE X WX c a f)(hb:DE X WX c b g):DE X WX c (.Compare a [.Eq] [b] pos) (λ ρ=>(f ρ).bind λ x=>(g ρ).bind λ y=>Wf n x y):=Wd Wb (Wg hu) ha hb (I0 _)
noncomputable def BD:D->Bool
 | .Az=>true
 |_=>false
theorem BC.pK {K:za}{H:Hp}{v:V}{d:D}(h:BC K H v d):decide (v=.Az)=BD d:=by
 cases h<;>simp[BD]
theorem fV {j pos'}(ha:DE X WX c a f):DE X WX c (.Compare a [.Is] [.Constant .none j pos'] pos) (λ ρ=>(f ρ).bind λ x=>.ok (.bl (BD x))):=by
 obtain⟨ta,a1,a2⟩:=ha;refine⟨_,eE (VB a1),λ P0 P σ H Q ρ E h=>?_⟩;dsimp only at h;refine a2 P0 P σ H _ ρ E ?_;cases e:f ρ with
 |bad|ex x=>rw[e] at h;exact h
 |ok x=>rw[e] at h;exact λ v H1 s1 hv=>h _ H1 s1 (by rw[hv.pK];exact .bl _)
noncomputable def jU (x y:D):M D:=match x,y with
 | .tup ds,.int i| .lst ds,.int i=>(match Sx ds i with|some d=>.ok d|none=>.bad)
 |_,_=>.bad
theorem Ag.Sx {K:za}{H:Hp}{xs:List V}{ds:List D}{i:Int}{d:D}(h:Ag K H xs ds)(e:L2.Sx ds i=some d):∃v,L2.Sx xs i=some v/\BC K H v d:=by
 unfold L2.Sx at e ⊢;rw[<-h.length] at e;cases q:Y2 xs.length i with
 |none=>rw[q] at e;cases e
 |some j =>
  rw[q] at e;exact h.get e
theorem Dg.Bi {K:za}{H:Hp}{P:Addr->Prop}{a:Addr}{xs:List V}(h:Dg K (del H P) a xs):Dg K H a xs:=DU.seq h
theorem Fx.Bi {K:za}{H:Hp}{P:Addr->Prop}{a:Addr}{xs:List V}(h:Fx K (del H P) a xs):Fx K H a xs:=DU.pI h
theorem Gw:SF X.K WX (λ x y H Q=>fE X.K x y H Q\/fF X.K x y H Q) jU:=by
 intro P H x y v w Q ht hx hy h;unfold jU at h;split at h
 ·rename_i ds i;split at h
  ·rename_i d e;cases hy;cases hx with
   |tup hs hl =>
    obtain⟨u,h1,h2⟩:=hl.Sx e;exact .inr ⟨_,_,i,u,rfl,rfl,Fx.of (An hs).2,h1,h _ H (Ae.refl H) h2⟩
  ·exact h.elim
 ·rename_i ds i;split at h
  ·rename_i d e;cases hy;cases hx with
   |lst hs hl =>
    obtain⟨u,h1,h2⟩:=hl.Sx e;exact .inl ⟨_,_,i,u,rfl,rfl,hs.Bi,h1,h _ H (Ae.refl H) h2⟩
  ·exact h.elim
 ·exact h.elim
theorem A8:DA X WX c [] (λ _=>.ok []):=⟨_,BZ,λ P0 P σ H Q ρ E h=>h [] H (Ae.refl H) .nil,λ ρ ds h=>by cases h;rfl⟩
theorem A2 {e:Expr}{es:List Expr}{f:Aa->M D}{fs:Aa->M (List D)}(he:DE X WX c e f)(hr:DA X WX c es fs)(hs:starEach (e::es) X.env=(false,eval e X.env)::starEach es X.env:=by rfl):
 DA X WX c (e::es) (λ ρ=>(f ρ).bind λ d=>(fs ρ).bind λ ds=>.ok (d::ds)):=by
 obtain⟨te,e1,e2⟩:=he;obtain⟨tr,r1,r2,r3⟩:=hr;refine⟨_,Bf e1 r1 hs,λ P0 P σ H Q ρ E h=>?_,λ ρ ds h=>?_⟩
 rotate_left
 ·dsimp only at h;cases q:f ρ with
  |bad|ex x=>rw[q] at h;cases h
  |ok x =>
   rw[q] at h;cases q2:fs ρ with
   |bad|ex x=>rw[q2] at h;cases h
   |ok xs =>
    rw[q2] at h;cases h;rw[zq,zq,r3 ρ xs q2]
 dsimp only at h;refine e2 P0 P σ H _ ρ E ?_;cases q:f ρ with
 |bad|ex x=>rw[q] at h;exact h
 |ok x =>
  rw[q] at h;intro v H1 s1 hv;refine r2 P0 P σ H1 _ ρ (E.same s1) ?_;cases q2:fs ρ with
  |bad=>rw[q2] at h;exact h
  |ex y=>rw[q2] at h;exact gA.same (m:=.ex y) h s1
  |ok ds =>
   rw[q2] at h;exact λ vs H2 s2 aN=>h _ H2 (s1.trans s2) (.cons (hv.mono s2.del) aN)
theorem He {H:Hp}{P:Addr->Prop}{p:Addr}{o:HO}(hn:H p=none)(ht:∀a,P a->El H a):del (upd H p o) P p=some o:=by
 rw[AE λ z=>(ht p z).no hn];exact AH
theorem AS {es:List Expr}{fs:Aa->M (List D)}{x1}(ha:DA X WX c es fs)(hz:es.length<=1000:=by decide):DE X WX c (.Tuple es x1 pos) (λ ρ=>(fs ρ).bind λ ds=>if ds.length<=1000 then .ok (.tup ds) else .bad):=by
 obtain⟨ta,a1,a2,a3⟩:=ha;refine⟨_,VR a1,λ P0 P σ H Q ρ E h=>?_⟩;dsimp only at h;refine a2 P0 P σ H _ ρ E ?_;cases q:fs ρ with
 |bad|ex y=>rw[q] at h;exact h
 |ok ds =>
  rw[q] at h;simp only[M.A6] at h;by_cases hd:ds.length<=1000
  ·rw[if_pos hd] at h;intro vs H1 s1 aN;refine⟨yi (AG (by rw[aN.length];exact hd)),λ p hp=>h _ _ (s1.trans (AM hp _)) (.tup (He hp λ a q=>(E.same s1).lS c a q) (aN.mono (AM hp _).del))⟩
  ·rw[if_neg hd] at h;exact h.elim
theorem Lw {es:List Expr}{fs:Aa->M (List D)}(ha:DA X WX c es fs):DE X WX c (.List es pos) (λ ρ=>(fs ρ).bind λ ds=>if ds.length<=1000 then .ok (.lst ds) else .bad):=by
 obtain⟨ta,a1,a2,a3⟩:=ha;refine⟨_,Rp a1,λ P0 P σ H Q ρ E h=>?_⟩;dsimp only at h;refine a2 P0 P σ H _ ρ E ?_;cases q:fs ρ with
 |bad|ex y=>rw[q] at h;exact h
 |ok ds =>
  rw[q] at h;simp only[M.A6] at h;by_cases hd:ds.length<=1000
  ·rw[if_pos hd] at h;intro vs H1 s1 aN;refine⟨yi (AG (by rw[aN.length];exact hd)),λ p hp=>h _ _ (s1.trans (AM hp _)) (.lst (.of (He hp λ a q=>(E.same s1).lS c a q)) (aN.mono (AM hp _).del))⟩
  ·rw[if_neg hd] at h;exact h.elim
end
noncomputable def Lx (d:D):M Bool:=match d with | .bl b=>.ok b | _=>.bad
section
variable {X:Cx}{WX:Str->Hp->Prop}{c:Bool}{P0:Dn}{P:Addr->Prop}{H:Hp}{σ:St}{ρ:Aa}{a b e:Expr}{f g:Aa->M D}{ft gt:Aa->M Bool}{pos:Pos}
theorem cP {WX:Str->Hp->Prop}{P:Addr->Prop}{K:za}{H:Hp}{Q:Bool->Hp->Prop}{m:M D}(h:gT WX H Q (m.bind Lx)):gV K WX P H (λ x H'=>∃k,x=.bl k/\Q k H') m:=by
 cases m with
 |bad|ex x=>exact h
 |ok d =>
  intro v H' s hv;simp only[M.A6] at h;unfold Lx at h;split at h
  ·rename_i b;exact⟨b,hv.Lu,h H' s⟩
  ·exact h.elim
theorem FF {op:CmpOp}{r:R2}{bo:D->D->M D}(ho:FA X (compareOp op) r)(hr:SF X.K WX r bo)(ha:DE X WX c a f)(hb:DE X WX c b g)(hm:behindInMarks op b=false):DT X WX (.Compare a [op] [b] pos) (λ ρ=>((f ρ).bind λ x=>(g ρ).bind λ y=>bo x y).bind Lx):=by
 obtain⟨ta,a1,a2⟩:=ha;obtain⟨tb,b1,b2⟩:=hb;exact⟨_,Yl ho a1 b1 hm,λ P0 P σ H Q ρ E h=>Nt a2 b2 hr E (cP h)⟩
theorem Wh (ha:DE X WX c a f)(hb:DE X WX c b g):DT X WX (.Compare a [.Gt] [b] pos) (λ ρ=>((f ρ).bind λ x=>(g ρ).bind λ y=>rG x y).bind Lx):=FF kZ (L1 λ _ _ _ _=>.bl _) ha hb (I0 _)
theorem lW (ha:DE X WX c a f)(hb:DE X WX c b g):DT X WX (.Compare a [.GtE] [b] pos) (λ ρ=>((f ρ).bind λ x=>(g ρ).bind λ y=>rH x y).bind Lx):=FF lA (L1 λ _ _ _ _=>.bl _) ha hb (I0 _)
theorem IY {n:Nat}(hu:X.A.units+n<cLine)(ha:DE X WX c a f)(hb:DE X WX c b g):DT X WX (.Compare a [.Eq] [b] pos) (λ ρ=>((f ρ).bind λ x=>(g ρ).bind λ y=>Wf n x y).bind Lx):=FF Wb (Wg hu) ha hb (I0 _)
theorem Gx {n:Nat}(hu:X.A.units+n<cLine)(ha:DE X WX c a f)(hb:DE X WX c b g):DT X WX (.Compare a [.NotEq] [b] pos) (λ ρ=>((f ρ).bind λ x=>(g ρ).bind λ y=>Vt n x y).bind Lx):=FF fR (fU hu) ha hb (I0 _)
theorem JG {j pos'}(ha:DE X WX c a f):DT X WX (.Compare a [.Is] [.Constant .none j pos'] pos) (λ ρ=>(f ρ).bind λ x=>.ok (BD x)):=by
 obtain⟨ta,a1,a2⟩:=ha;refine⟨_,VC (VB a1),λ P0 P σ H Q ρ E h=>?_⟩;dsimp only at h;refine a2 P0 P σ H _ ρ E ?_;cases e:f ρ with
 |bad|ex x=>rw[e] at h;exact h
 |ok x=>rw[e] at h;exact λ v H1 s1 hv=>⟨_,rfl,by rw[hv.pK];exact h H1 s1⟩
theorem Oy {j pos'}(ha:DE X WX c a f):DT X WX (.Compare a [.IsNot] [.Constant .none j pos'] pos) (λ ρ=>(f ρ).bind λ x=>.ok (!BD x)):=by
 obtain⟨ta,a1,a2⟩:=ha;refine⟨_,VC (Yb a1),λ P0 P σ H Q ρ E h=>?_⟩;dsimp only at h;refine a2 P0 P σ H _ ρ E ?_;cases e:f ρ with
 |bad|ex x=>rw[e] at h;exact h
 |ok x=>rw[e] at h;exact λ v H1 s1 hv=>⟨_,rfl,by rw[hv.pK];exact h H1 s1⟩
theorem BQ (ha:DT X WX a ft):DT X WX (.UnaryOp .Not a pos) (λ ρ=>(ft ρ).bind λ b=>.ok (!b)):=by
 obtain⟨ta,a1,a2⟩:=ha;refine⟨_,eF a1,λ P0 P σ H Q ρ E h=>?_⟩;dsimp only at h;refine a2 P0 P σ H _ ρ E ?_;cases e:ft ρ with
 |bad|ex x=>rw[e] at h;exact h
 |ok x=>rw[e] at h;exact λ H1 s1=>h H1 s1
theorem IZ (ha:DT X WX a ft):DW X WX (.BoolOp .And [a] pos) ft:=let ⟨ta,a1,a2⟩:=ha;⟨_,pw_and1 a1,a2⟩
theorem CH (ha:DT X WX a ft):DW X WX (.BoolOp .Or [a] pos) ft:=let ⟨ta,a1,a2⟩:=ha;⟨_,pw_or1 a1,a2⟩
theorem Ly {rest:List Expr}(ha:DT X WX a ft)(hb:DW X WX (.BoolOp .And (b::rest) pos) gt):DW X WX (.BoolOp .And (a::b::rest) pos) (λ ρ=>(ft ρ).bind λ k=>if k=true then gt ρ else .ok false):=by
 obtain⟨ta,a1,a2⟩:=ha;obtain⟨tb,b1,b2⟩:=hb;refine⟨_,pw_and a1 b1,λ P0 P σ H Q ρ E h=>?_⟩;dsimp only at h;refine a2 P0 P σ H _ ρ E ?_;cases e:ft ρ with
 |bad|ex x=>rw[e] at h;exact h
 |ok k =>
  rw[e] at h;intro H1 s1;cases k with
  |true =>
   simp only[M.A6,if_true] at h ⊢;exact b2 P0 P σ H1 _ ρ (E.same s1) (h.same s1)
  |false =>
   simp only[M.A6,zC,if_false] at h ⊢;exact h H1 s1
theorem Eo {rest:List Expr}(ha:DT X WX a ft)(hb:DW X WX (.BoolOp .Or (b::rest) pos) gt):DW X WX (.BoolOp .Or (a::b::rest) pos) (λ ρ=>(ft ρ).bind λ k=>if k=true then .ok true else gt ρ):=by
 obtain⟨ta,a1,a2⟩:=ha;obtain⟨tb,b1,b2⟩:=hb;refine⟨_,pw_or a1 b1,λ P0 P σ H Q ρ E h=>?_⟩;dsimp only at h;refine a2 P0 P σ H _ ρ E ?_;cases e:ft ρ with
 |bad|ex x=>rw[e] at h;exact h
 |ok k =>
  rw[e] at h;intro H1 s1;cases k with
  |true =>
   simp only[M.A6,if_true] at h ⊢;exact h H1 s1
  |false =>
   simp only[M.A6,zC,if_false] at h ⊢;exact b2 P0 P σ H1 _ ρ (E.same s1) (h.same s1)
theorem RD {op}(ha:DE X WX c a f):DE X WX c (.BoolOp op [a] pos) f:=let ⟨ta,a1,a2⟩:=ha;⟨_,eG a1,a2⟩
theorem RE {rest:List Expr}(ha:DE X WX c a f)(hb:DE X WX c (.BoolOp .And (b::rest) pos) g):DE X WX c (.BoolOp .And (a::b::rest) pos) (λ ρ=>((f ρ).bind Lx).bind λ k=>if k=true then g ρ else .ok (.bl false)):=by
 obtain⟨ta,a1,a2⟩:=ha;obtain⟨tb,b1,b2⟩:=hb;refine⟨_,eI a1 b1,λ P0 P σ H Q ρ E h=>?_⟩;dsimp only at h;refine a2 P0 P σ H _ ρ E ?_;cases e:f ρ with
 |bad|ex x=>rw[e] at h;exact h
 |ok d =>
  rw[e] at h;simp only[M.A6] at h;unfold Lx at h;split at h
  ·rename_i k;intro v H1 s1 hv;refine⟨k,hv.Lu,?_⟩;cases k with
   |true =>
    simp only[M.A6,if_true] at h ⊢;exact b2 P0 P σ H1 _ ρ (E.same s1) (h.same s1)
   |false =>
    simp only[M.A6,zC,if_false] at h ⊢;exact h _ H1 s1 (.bl _)
  ·exact h.elim
theorem lX {rest:List Expr}(ha:DE X WX c a f)(hb:DE X WX c (.BoolOp .Or (b::rest) pos) g):DE X WX c (.BoolOp .Or (a::b::rest) pos) (λ ρ=>((f ρ).bind Lx).bind λ k=>if k=true then .ok (.bl true) else g ρ):=by
 obtain⟨ta,a1,a2⟩:=ha;obtain⟨tb,b1,b2⟩:=hb;refine⟨_,kM a1 b1,λ P0 P σ H Q ρ E h=>?_⟩;dsimp only at h;refine a2 P0 P σ H _ ρ E ?_;cases e:f ρ with
 |bad|ex x=>rw[e] at h;exact h
 |ok d =>
  rw[e] at h;simp only[M.A6] at h;unfold Lx at h;split at h
  ·rename_i k;intro v H1 s1 hv;refine⟨k,hv.Lu,?_⟩;cases k with
   |true =>
    simp only[M.A6,if_true] at h ⊢;exact h _ H1 s1 (.bl _)
   |false =>
    simp only[M.A6,zC,if_false] at h ⊢;exact b2 P0 P σ H1 _ ρ (E.same s1) (h.same s1)
  ·exact h.elim
theorem fW (ha:DE X WX c a f):DE X WX c (.UnaryOp .Not a pos) (λ ρ=>((f ρ).bind Lx).bind λ k=>.ok (.bl (!k))):=by
 obtain⟨ta,a1,a2⟩:=ha;refine⟨_,eJ a1,λ P0 P σ H Q ρ E h=>?_⟩;dsimp only at h;refine a2 P0 P σ H _ ρ E ?_;cases e:f ρ with
 |bad|ex x=>rw[e] at h;exact h
 |ok d =>
  rw[e] at h;simp only[M.A6] at h;unfold Lx at h;split at h
  ·rename_i k;exact λ v H1 s1 hv=>⟨k,hv.Lu,h _ H1 s1 (.bl _)⟩
  ·exact h.elim
theorem fX (ha:DE X WX c a f):DE X WX c (.UnaryOp .USub a pos) (λ ρ=>(f ρ).bind λ d=>match d with | .int i=>.ok (.int (-i)) | _=>.bad):=by
 obtain⟨ta,a1,a2⟩:=ha;refine⟨_,kX eX a1,λ P0 P σ H Q ρ E h=>?_⟩;dsimp only at h;refine a2 P0 P σ H _ ρ E ?_;cases e:f ρ with
 |bad|ex x=>rw[e] at h;exact h
 |ok d =>
  rw[e] at h;simp only[M.A6] at h;split at h
  ·rename_i i;exact λ v H1 s1 hv=>⟨i,hv.int_inv,h _ H1 s1 (.int _)⟩
  ·exact h.elim
theorem Ud {d:Expr}{h:Aa->M D}{op bq:CmpOp}{p q:Int->Int->Bool}(ho:FA X (compareOp op) (TY λ i j=>.bl (p i j)))(be:FA X (compareOp bq) (TY λ i j=>.bl (q i j)))(ha:DE X WX c a f)(hb:DE X WX c b g)(hd:DE X WX c d h)
 (hm:lastMarks [op,bq] [b,d]=false:=by with_unfolding_all rfl):DE X WX c (.Compare a [op,bq] [b,d] pos) (λ ρ=>(f ρ).bind λ x=>(g ρ).bind λ y=>B3 (λ i j=>if p i j=true then (h ρ).bind λ z=>B3 (λ _ k=>.ok (.bl (q j k))) (.int 0) z else .ok (.bl false)) x y):=by
 obtain⟨ta,a1,a2⟩:=ha;obtain⟨tb,b1,b2⟩:=hb;obtain⟨td,d1,d2⟩:=hd;refine⟨_,VM ho be a1 b1 d1 hm,λ P0 P σ H Q ρ E hh=>?_⟩;dsimp only at hh;refine a2 P0 P σ H _ ρ E ?_;cases e:f ρ with
 |bad|ex x=>rw[e] at hh;exact hh
 |ok x =>
  rw[e] at hh;intro v H1 s1 hv;refine b2 P0 P σ H1 _ ρ (E.same s1) ?_;cases e2:g ρ with
  |bad=>rw[e2] at hh;exact hh
  |ex y=>rw[e2] at hh;exact gV.same (m:=.ex y) hh s1
  |ok y =>
   rw[e2] at hh;simp only[M.A6] at hh;unfold B3 at hh;split at hh
   ·rename_i i j;intro w H2 s2 hw;refine⟨i,j,hv.int_inv,hw.int_inv,p i j,rfl,?_⟩;dsimp only at hh;by_cases hp:p i j=true
    ·rw[if_pos hp] at hh ⊢;refine d2 P0 P σ H2 _ ρ ((E.same s1).same s2) ?_;cases e3:h ρ with
     |bad=>rw[e3] at hh;exact hh
     |ex z=>rw[e3] at hh;exact gV.same (gV.same (m:=.ex z) hh s1) s2
     |ok z =>
      rw[e3] at hh;simp only[M.A6] at hh;cases z with
      |int k=>exact λ u H3 s3 hu=>⟨j,k,hw.int_inv,hu.int_inv,hh _ H3 ((s1.trans s2).trans s3) (.bl _)⟩
      |_=>exact hh.elim
    ·rw[if_neg hp] at hh ⊢;exact hh _ H2 (s1.trans s2) (.bl _)
   ·exact hh.elim
def J0 (K:za)(WX:Str->Hp->Prop)(r:List V->Hp->VK->Prop)(dF:List D->M D):Prop:=
 ∀(P:Addr->Prop) (H:Hp) (ds:List D) (vs:List V) (Q:VK),(∀a,P a->El H a)->Ag K (del H P) vs ds->gV K WX P H Q (dF ds)->r vs H Q
variable {x:Str}{p:Pos}{es:List Expr}{fs:Aa->M (List D)}{id T:String}{r:List V->Hp->VK->Prop}{dF:List D->M D}
theorem Wi {ta:TA}(ha:∀P0 P σ H Q ρ,Ai X.K P0 P H σ ρ->gA X.K WX (Lv c P0 P) H Q (fs ρ)->ta σ H Q)(hr:J0 X.K WX r dF){Q:VK}(E:Ai X.K P0 P H σ ρ)(h:gV X.K WX (Lv c P0 P) H Q ((fs ρ).bind dF)):oW r ta σ H Q:=by
 refine ha P0 P σ H _ ρ E ?_;cases e:fs ρ with
 |bad|ex x=>rw[e] at h;exact h
 |ok ds =>
  rw[e] at h;exact λ vs H1 s1 aN=>hr _ H1 ds vs Q (λ a q=>(E.same s1).lS c a q) aN (h.same s1)
theorem Gy (hc:Ge X (.builtin id) r)(hr:J0 X.K WX r dF)(hg:Gl X x)(hm:X.mg x=none)(hv:bootBuiltins x=some (.builtin id))(ha:DA X WX c (e::es) fs)(hn:x ≠ "__name__" := by decide)(aU:(x==("__debug__" : Str))=false:=by decide)
 (he:starEach (e::es) X.env=(false,eval e X.env)::starEach es X.env:=by rfl) (hpl:(backTo pos (starEach es X.env)).any (·.1)=false:=by rfl):DE X WX c (.Call (.Name x p) (e::es) [] pos) (λ ρ=>(fs ρ).bind dF):=by
 obtain⟨ta,a1,a2,a3⟩:=ha;exact⟨_,Py hc hg hm hv a1 hn aU he hpl,λ P0 P σ H Q ρ E h=>Wi a2 hr E h⟩
theorem Ue (hc:Ge X (.type T) r)(hr:J0 X.K WX r dF)(hg:Gl X x)(hm:X.mg x=none)(hv:bootBuiltins x=some (.type T))(ha:DA X WX c (e::es) fs)(hn:x ≠ "__name__" := by decide)(aU:(x==("__debug__" : Str))=false:=by decide)
 (he:starEach (e::es) X.env=(false,eval e X.env)::starEach es X.env:=by rfl) (hpl:(backTo pos (starEach es X.env)).any (·.1)=false:=by rfl):DE X WX c (.Call (.Name x p) (e::es) [] pos) (λ ρ=>(fs ρ).bind dF):=by
 obtain⟨ta,a1,a2,a3⟩:=ha;exact⟨_,Nj hc hg hm hv a1 hn aU he hpl,λ P0 P σ H Q ρ E h=>Wi a2 hr E h⟩
noncomputable def Ug (ds:List D):M D:=match ds with
 |[.lst xs]|[.tup xs]=>.ok (.int xs.length)
 |_=>.bad
theorem Ag.one {K:za}{H:Hp}{vs:List V}{d:D}(h:Ag K H vs [d]):∃v,vs=[v]/\BC K H v d:=by
 cases h with
 |cons h t=>cases t;exact⟨_,rfl,h⟩
theorem Ag.two {K:za}{H:Hp}{vs:List V}{d e:D}(h:Ag K H vs [d,e]):∃v w,vs=[v,w]/\BC K H v d/\BC K H w e:=by
 cases h with
 |cons h t =>
  obtain⟨w,rfl,hw⟩:=t.one;exact⟨_,w,rfl,h,hw⟩
theorem fY:J0 X.K WX (λ xs H Q=>∃p ys,xs=[.ref p]/\(Dg X.K H p ys\/Fx X.K H p ys)/\Q (.int ys.length) H) Ug:=by
 intro P H ds vs Q ht hl h;unfold Ug at h;split at h
 ·obtain⟨v,rfl,hv⟩:=hl.one;cases hv with
  |lst hs hh=>exact⟨_,_,rfl,.inl hs.Bi,by rw[hh.length];exact h _ H (Ae.refl H) (.int _)⟩
 ·obtain⟨v,rfl,hv⟩:=hl.one;cases hv with
  |tup hs hh=>exact⟨_,_,rfl,.inr (Fx.of (An hs).2),by rw[hh.length];exact h _ H (Ae.refl H) (.int _)⟩
 ·exact h.elim
theorem Ig (hg:Gl X "len")(hm:X.mg "len" = none)(ha:DE X WX c e f)(hs:starEach [e] X.env=[(false,eval e X.env)]:=by rfl):DE X WX c (.Call (.Name "len" p) [e] [] pos) (λ ρ=>((f ρ).bind λ d=>(M.ok []).bind λ ds=>.ok (d::ds)).bind Ug):=
 Gy Oo fY hg hm PySem.boot_len (A2 ha A8 hs) (he:=hs)
noncomputable def RF (ds:List D):M D:=match ds with
 |[.lst xs]|[.tup xs]=>.ok (.tup xs)
 |_=>.bad
theorem Wj:J0 X.K WX (λ xs H Q=>∃p ys,xs=[.ref p]/\((Dg X.K H p ys/\∀l,H l=none->Q (.ref l) (upd H l (.tup ys)))\/(Fx X.K H p ys/\Q (.ref p) H))) RF:=by
 intro P H ds vs Q ht hl h;unfold RF at h;split at h
 ·obtain⟨v,rfl,hv⟩:=hl.one;cases hv with
  |lst hs hh=>exact⟨_,_,rfl,.inl ⟨hs.Bi,λ l hn=>h _ _ (AM hn _) (.tup (He hn ht) (hh.mono (AM hn _).del))⟩⟩
 ·obtain⟨v,rfl,hv⟩:=hl.one;cases hv with
  |tup hs hh=>exact⟨_,_,rfl,.inr ⟨Fx.of (An hs).2,h _ H (Ae.refl H) (.tup hs hh)⟩⟩
 ·exact h.elim
theorem Wl (hg:Gl X "tuple")(hm:X.mg "tuple" = none)(ha:DE X WX c e f)(hb:bootBuiltins "tuple" = some (.type "tuple"):=by decide +kernel)(hs:starEach [e] X.env=[(false,eval e X.env)]:=by rfl):DE X WX c (.Call (.Name "tuple" p) [e] [] pos) (λ ρ=>((f ρ).bind λ d=>(M.ok []).bind λ ds=>.ok (d::ds)).bind RF):=
 Ue MQ Wj hg hm hb (A2 ha A8 hs) (he:=hs)
noncomputable def cQ:D->String
 | .Az => "NoneType"
 | .bl _ => "bool"
 | .int _ => "int"
 | .str _ => "str"
 | .tup _ => "tuple"
 | .lst _ => "list"
 | .Dl _ => "NoneType"
 | .Bh _ _ _ => "dict"
 | .ins _ _ _ => "NoneType"
noncomputable def Em (T:String)(d:D):Bool:=(cQ d==T)||(cQ d == "bool" && T == "int")
noncomputable def J2 (T:String)(d:D):M D:=match d with
 | .Dl _| .ins _ _ _=>.bad
 |d=>.ok (.bl (Em T d))
noncomputable def SG:D->Bool
 | .Dl _| .ins _ _ _=>true
 |_=>false
theorem PY {T:String}{d:D}(h:SG d=false):J2 T d=.ok (.bl (Em T d)):=by cases d<;>first | rfl | cases h
def pL (K:za)(T:String):List V->Hp->VK->Prop:=λ xs H Q=>∃x d,xs=[x,.ty T]/\BC K H x d/\SG d=false/\Q (.bl (Em T d)) H
theorem Wm {T:String}(hk:∀d:D,PySem.W.kitOne X.K (.type (cQ d)) (.type T)=some (Em T d)):Ge X (.builtin "isinstance") (pL X.K T):=by
 intro pins s σ H xs us Q I r h;obtain⟨x,d,rfl,hd,hx,q⟩:=h;obtain⟨u,w,rfl,rx,bu⟩:=r.two;cases bu;have fin:∀tk,EP X pins σ Q (.bool (Em T d)) {s with toks:=tk}:=λ tk=>⟨.bl _,H,I.tok tk,rfl,q⟩;have e:=hk d;cases hd with
 |Dl _ _|ins _ _ _=>cases hx
 |IJ hs hl =>
  cases rx;obtain⟨⟨o,h1,h2⟩,_,_⟩:=W9 I (.inl ⟨_,hs⟩);exact yO PySem.W.kitx_dict I.MH ⟨o,h1,h2⟩ e (λ z=>nomatch z) fin
 |Ic hs hl =>
  cases rx;obtain⟨⟨o,h1,h2⟩,_,_⟩:=W9 I (.inr ⟨_,hs⟩);exact yO PySem.W.kitx_dict I.MH ⟨o,h1,h2⟩ e (λ z=>nomatch z) fin
 |Az=>cases rx;exact yO PySem.W.kitx_none I.MH True.intro e (λ z=>nomatch z) fin
 |bl b=>cases rx;exact yO PySem.W.kitx_bool I.MH True.intro e (λ z=>nomatch z) fin
 |int b=>obtain⟨t,rfl⟩:=rx;exact yO PySem.W.kitx_int I.MH True.intro e (λ z=>nomatch z) fin
 |str b=>obtain⟨t,rfl⟩:=rx;exact yO PySem.W.kitx_str I.MH True.intro e (λ z=>nomatch z) fin
 |tup hs hl =>
  cases rx;obtain⟨_,_,⟨o,h1,h2,_⟩,_⟩:=I.tuple (.of hs);exact yO PySem.W.kitx_tuple I.MH ⟨o,h1,h2⟩ e (λ z=>nomatch z) fin
 |lst hs hl =>
  cases rx;obtain⟨_,_,⟨o,n,h1,h2,_⟩,_⟩:=I.list hs;exact yO PySem.W.kitx_list I.MH ⟨o,h1,h2⟩ e (λ z=>nomatch z) fin
theorem FG {T:String}{x2:Str}{p2:Pos}(hk:∀d:D,PySem.W.kitOne X.K (.type (cQ d)) (.type T)=some (Em T d))(hg:Gl X "isinstance")(hm:X.mg "isinstance" = none)(im:Gl X x2)(b7:X.mg x2=none)(tI:bootBuiltins x2=some (.type T))(ha:DE X WX c e f)
 (hb:bootBuiltins "isinstance" = some (.builtin "isinstance"):=by decide +kernel) (aB:x2 ≠ "__name__" := by decide) (mz:(x2==("__debug__" : Str))=false:=by decide) (hs:starEach [e,.Name x2 p2] X.env=(false,eval e X.env)::starEach [.Name x2 p2] X.env:=by rfl) (aP:starEach [.Name x2 p2] X.env=[(false,eval (.Name x2 p2) X.env)]:=by rfl)
 (hpl:(backTo pos (starEach [.Name x2 p2] X.env)).any (·.1)=false:=by rfl):
 DE X WX c (.Call (.Name "isinstance" p) [e,.Name x2 p2] [] pos) (λ ρ=>(f ρ).bind λ d=>J2 T d):=by
 obtain⟨ta,a1,a2⟩:=ha;refine⟨_,Py (Wm hk) hg hm hb (Bf a1 (Bf (Y9 (v:=.ty T) im b7 tI rfl aB mz) BZ aP) hs) (by decide) (by decide) hs hpl,λ P0 P σ H Q ρ E h=>?_⟩;dsimp only at h;refine a2 P0 P σ H _ ρ E ?_;cases q:f ρ with
 |bad|ex x=>rw[q] at h;exact h
 |ok d =>
  rw[q] at h;simp only[M.A6] at h;cases hx:SG d with
  |true=>cases d<;>first|exact h.elim|cases hx
  |false =>
   rw[PY hx] at h;exact λ v H1 s1 hv=>⟨v,d,rfl,hv.mono DU,hx,h _ H1 s1 (.bl _)⟩
theorem Lz (K:za)(d:D):PySem.W.kitOne K (.type (cQ d)) (.type "tuple")=some (Em "tuple" d):=by cases d<;>rfl
theorem JH (K:za)(d:D):PySem.W.kitOne K (.type (cQ d)) (.type "list")=some (Em "list" d):=by cases d<;>rfl
theorem Nw (K:za)(d:D):PySem.W.kitOne K (.type (cQ d)) (.type "bool")=some (Em "bool" d):=by cases d<;>rfl
theorem PZ (K:za)(d:D):PySem.W.kitOne K (.type (cQ d)) (.type "int")=some (Em "int" d):=by cases d<;>rfl
noncomputable def cR (lo hi:Option Int)(d:D):M D:=match d with
 | .lst ds=>.ok (.lst ((ds.drop (HT.Lj ds.length 0 lo)).take (HT.Lj ds.length ds.length hi-HT.Lj ds.length 0 lo)))
 |_=>.bad
def DO (X:Cx)(WX:Str->Hp->Prop)(c:Bool)(e:Option Expr)(f:Aa->M (Option Int)):Prop:=
 ∃t,PO X e t/\∀P0 P σ H Q ρ,Ai X.K P0 P H σ ρ->(match f ρ with | .ok o=>∀H',Ae H H'->Q o H' | .ex x=>∀H',Ae H H'->WX x H' | .bad=>False)->t σ H Q
theorem Oz:DO X WX c none (λ _=>.ok none):=⟨_,Yr,λ P0 P σ H Q ρ E h=>h H (Ae.refl H)⟩
noncomputable def rJ (d:D):M (Option Int):=match d with | .int i=>.ok (some i) | _=>.bad
theorem J3 (ha:DE X WX c e f):DO X WX c (some e) (λ ρ=>(f ρ).bind rJ):=by
 obtain⟨ta,a1,a2⟩:=ha;refine⟨_,Ys a1,λ P0 P σ H Q ρ E h=>?_⟩;dsimp only at h;refine a2 P0 P σ H _ ρ E ?_;cases q:f ρ with
 |bad|ex x=>rw[q] at h;exact h
 |ok d =>
  rw[q] at h;cases d with
  |int i=>exact λ v H1 s1 hv=>⟨i,hv.int_inv,h H1 s1⟩
  |_=>exact h.elim
end
inductive Out where
 |ret (d:D)|next (ρ:Aa)|brk (ρ:Aa)|cont (ρ:Aa)|Cg (c:Cl)|EQ (t:OT) (ρ:Aa)
def Tr (P0 P:Addr->Prop)(H:Hp)(P':Addr->Prop)(H':Hp):Prop:=Ae (del H P) (del H' P')/\∀a,P0 a->H' a=H a
theorem Tr.refl {P0 P:Addr->Prop}{H:Hp}:Tr P0 P H P H:=⟨Ae.refl _,λ _ _=>rfl⟩
theorem Tr.trans {P0 P P1 P2:Addr->Prop}{H H1 H2:Hp}(a:Tr P0 P H P1 H1)(b:Tr P0 P1 H1 P2 H2):Tr P0 P H P2 H2:=⟨a.1.trans b.1,λ x h=>(b.2 x h).trans (a.2 x h)⟩
theorem Ai.tr {K:za}{P0:Dn}{P:Addr->Prop}{H H':Hp}{σ:St}{ρ:Aa}(E:Ai K P0 P H σ ρ)(e:Ae H H'):Tr P0 P H P H':=
 ⟨e.del,λ a h=>by obtain⟨o,q,_⟩:=E.Cf a (E.sub a h);rw[e a o q,q]⟩
def gS (K:za)(WX:Str->Hp->Prop)(P0:Dn)(P:Addr->Prop)(H:Hp)(Z:Ends):M Out->Prop
 | .ok (.ret d)=>∀v H' P',Tr P0 P H P' H'->BC K (del H' P0) v d->Z.rt v H'
 | .ok (.next ρ)=>∀σ' H' P',Tr P0 P H P' H'->Ai K P0 P' H' σ' ρ->Z.nx σ' H'
 | .ok (.brk ρ)=>∀σ' H' P',Tr P0 P H P' H'->Ai K P0 P' H' σ' ρ->Z.bk σ' H'
 | .ok (.cont ρ)=>∀σ' H' P',Tr P0 P H P' H'->Ai K P0 P' H' σ' ρ->Z.ct σ' H'
 | .ok (.Cg c)=>∀v fp H' P',Tr P0 P H P' H'->(∀a,P0 a->P' a)->(∀a,P' a->El H' a)->CW K H' P' c v fp->(∀a∈fp,P' a/\¬ P0 a)->fp.Nodup->Z.rt v H'
 | .ok (.EQ t ρ)=>∀v fp σ' H' P',Tr P0 P H P' H'->Ai K P0 P' H' σ' ρ->BF K H' P' v t fp->fp.Nodup->(∀a∈fp,P' a/\¬ P0 a/\∀(j:Nat) c v' fq,ρ[j]?=some (some c)->σ'[j]?=some (some v')->CW K H' P' c v' fq->a∉fq)->Z.rt v H'
 | .ex x=>∀H' P',Tr P0 P H P' H'->WX x H'
 | .bad=>False
theorem gS.tr {K:za}{WX:Str->Hp->Prop}{P0:Dn}{P P':Addr->Prop}{H H':Hp}{Z:Ends}{m:M Out}(h:gS K WX P0 P H Z m)(t:Tr P0 P H P' H'):gS K WX P0 P' H' Z m:=by
 cases m with
 |bad=>exact h
 |ex x=>exact λ H2 P2 t2=>h H2 P2 (t.trans t2)
 |ok o =>
  cases o with
  |ret d=>exact λ v H2 P2 t2 hv=>h v H2 P2 (t.trans t2) hv
  |next ρ|brk ρ|cont ρ=>exact λ σ2 H2 P2 t2 hv=>h σ2 H2 P2 (t.trans t2) hv
  |Cg c=>exact λ v fp H2 P2 t2=>h v fp H2 P2 (t.trans t2)
  |EQ c ρ=>exact λ v fp σ2 H2 P2 t2=>h v fp σ2 H2 P2 (t.trans t2)
def DS (X:Cx)(WX:Str->Hp->Prop)(st:Stmt)(g:Aa->M Out):Prop:=
 ∃t,PS X st t/\∀P0 P σ H Z ρ,Ai X.K P0 P H σ ρ->gS X.K WX P0 P H Z (g ρ)->t Z σ H
def R9 (X:Cx)(WX:Str->Hp->Prop)(st:List Stmt)(g:Aa->M Out):Prop:=
 ∃t,Sr X st t/\∀P0 P σ H Z ρ,Ai X.K P0 P H σ ρ->gS X.K WX P0 P H Z (g ρ)->t Z σ H
noncomputable def Wn (m:M Out)(k:Aa->M Out):M Out:=match m with
 | .ok (.next ρ)=>k ρ
 |m=>m
section
variable {X:Cx}{WX:Str->Hp->Prop}{c:Bool}{P0:Dn}{P:Addr->Prop}{H:Hp}{σ:St}{ρ:Aa}{a b e:Expr}{f g:Aa->M D}{ft gt:Aa->M Bool}{pos:Pos}{st:Stmt}{rest:List Stmt}{g1 g2:Aa->M Out}
theorem As:R9 X WX [] (λ ρ=>.ok (.next ρ)):=⟨_,Yc,λ P0 P σ H Z ρ E h=>h σ H P Tr.refl E⟩
theorem A7 (h:DS X WX st g1):R9 X WX [st] g1:=let ⟨t,h1,h2⟩:=h;⟨_,Yd h1,h2⟩
theorem A3 (h:DS X WX st g1)(hr:R9 X WX rest g2):R9 X WX (st::rest) (λ ρ=>Wn (g1 ρ) g2):=by
 obtain⟨t,h1,h2⟩:=h;obtain⟨u,r1,r2⟩:=hr;refine⟨_,VD h1 r1,λ P0 P σ H Z ρ E h=>?_⟩;dsimp only at h;refine h2 P0 P σ H {Z with nx:=u Z} ρ E ?_;cases q:g1 ρ with
 |bad|ex x=>rw[q] at h;exact h
 |ok o =>
  rw[q] at h;cases o with
  |ret d|brk d|cont d|Cg d|EQ d ρ2=>exact h
  |next ρ'=>exact λ σ' H' P' t E'=>r2 P0 P' σ' H' Z ρ' E' (gS.tr h t)
theorem Wo (ha:DE X WX false e f):DS X WX (.Return (some e) pos) (λ ρ=>(f ρ).bind λ d=>.ok (.ret d)):=by
 obtain⟨ta,a1,a2⟩:=ha;refine⟨_,Rf a1,λ P0 P σ H Z ρ E h=>?_⟩;dsimp only at h;refine a2 P0 P σ H _ ρ E ?_;cases q:f ρ with
 |bad=>rw[q] at h;exact h
 |ex x=>rw[q] at h;exact λ H' s=>h H' P (E.tr s)
 |ok d=>rw[q] at h;exact λ v H' s hv=>h v H' P (E.tr s) hv
theorem B4 {c:Expr}{sa sb:List Stmt}(hc:DT X WX c ft)(ha:R9 X WX sa g1)(hb:R9 X WX sb g2):DS X WX (.If c sa sb pos) (λ ρ=>(ft ρ).bind λ k=>if k=true then g1 ρ else g2 ρ):=by
 obtain⟨tc,c1,c2⟩:=hc;obtain⟨ta,a1,a2⟩:=ha;obtain⟨tb,b1,b2⟩:=hb;refine⟨_,kQ c1 a1 b1,λ P0 P σ H Z ρ E h=>?_⟩;dsimp only at h;refine c2 P0 P σ H _ ρ E ?_;cases q:ft ρ with
 |bad=>rw[q] at h;exact h
 |ex x=>rw[q] at h;exact λ H' s=>h H' P (E.tr s)
 |ok k =>
  rw[q] at h;intro H1 s1;cases k with
  |true =>
   simp only[M.A6,if_true] at h ⊢;exact a2 P0 P σ H1 Z ρ (E.same s1) (h.tr (E.tr s1))
  |false =>
   simp only[M.A6,zC,if_false] at h ⊢;exact b2 P0 P σ H1 Z ρ (E.same s1) (h.tr (E.tr s1))
theorem get_set {α:Type}{l:List α}{i j:Nat}{x y:α}(h:(l.set i x)[j]?=some y):(i=j/\i<l.length/\x=y)\/(i≠j/\l[j]?=some y):=by
 by_cases e:i=j
 ·subst e;rw[List.getElem?_set_self'] at h;cases q:l[i]? with
  |none=>rw[q] at h;cases h
  |some z =>
   rw[q] at h;exact .inl ⟨rfl,(zy.mp q).1,by simpa using h⟩
 ·rw[yo e] at h;exact .inr ⟨e,h⟩
theorem Ai.RG {K:za}(E:Ai K P0 P H σ ρ){i:Nat}{v:V}{d:D}(hv:BC K (del H P) v d):Ai K P0 P H (σ.set i (some v)) (ρ.set i (some (.val d))):=by
 have gs:∀ {j:Nat},i≠j->(σ.set i (some v))[j]?=σ[j]? :=λ h=>yo h;refine⟨E.sub,E.Cf,λ j e h=>?_,λ j c h io=>?_,λ j k c c' u u' fp ai h1 h2 h3 h4 h5 h6 ae=>?_,by rw[yE,yE];exact E.len,λ j c n h hp=>?_⟩
 rotate_left 3
 ·rcases get_set h with ⟨rfl,hl,e1⟩|⟨ae,h⟩
  ·cases e1;cases hp
  ·rw[gs ae];exact E.pin j c n h hp
 ·rcases get_set h with ⟨rfl,hl,e1⟩|⟨ae,h⟩
  ·cases e1;exact⟨v,zV (by rw[E.len];exact hl),hv⟩
  ·obtain⟨w,h1,h2⟩:=E.val j e h;exact⟨w,by rw[gs ae];exact h1,h2⟩
 ·rcases get_set h with ⟨rfl,hl,e1⟩|⟨ae,h⟩
  ·cases e1;cases io
  ·obtain⟨w,fp,h1,h2⟩:=E.ows j c h io;exact⟨w,fp,by rw[gs ae];exact h1,h2⟩
 ·rcases get_set h1 with ⟨rfl,hl,e1⟩|⟨cb,h1⟩
  ·cases e1;exact h5.elim
  ·rcases get_set h2 with ⟨rfl,hl,e1⟩|⟨aB,h2⟩
   ·cases e1;exact h6.elim
   ·rw[gs cb] at h3;rw[gs aB] at h4;exact E.apart j k c c' u u' fp ai h1 h2 h3 h4 h5 h6 ae
theorem Ai.YM {K:za}(E:Ai K P0 P H σ ρ){P':Addr->Prop}{H':Hp}{i:Nat}{v:V}{c:Cl}{fp:List Addr}(hs:∀a,P a->P' a)(ht:∀a,P' a->El H' a)(sm:Ae (del H P) (del H' P'))
 (keep:∀(j:Nat) c' v' ai,i≠j->ρ[j]?=some (some c')->σ[j]?=some (some v')->CW K H P c' v' ai->∀a∈ai,H' a=H a/\a∉fp)
 (new:CW K H' P' c v fp) (hp:∀a∈fp,P' a/\¬ P0 a) (nd:fp.Nodup) (d8:∀n,Nr c=some n->v=.ref (P0.g n):=by intro n z;cases z):Ai K P0 P' H' (σ.set i (some v)) (ρ.set i (some c)):=by
 have gs:∀ {j:Nat},i≠j->(σ.set i (some v))[j]?=σ[j]? :=λ h=>yo h;refine⟨λ a h=>hs a (E.sub a h),ht,λ j e h=>?_,λ j c' h io=>?_,λ j k c1 c2 u u' az bM h1 h2 h3 h4 h5 h6 ae=>?_,by rw[yE,yE];exact E.len,λ j c' n h hp=>?_⟩
 rotate_left 3
 ·rcases get_set h with ⟨rfl,hl,e1⟩|⟨ae,h⟩
  ·cases e1;rw[zV (by rw[E.len];exact hl),d8 n hp]
  ·rw[gs ae];exact E.pin j c' n h hp
 ·rcases get_set h with ⟨rfl,hl,e1⟩|⟨ae,h⟩
  ·cases e1;exact new.elim
  ·obtain⟨w,h1,h2⟩:=E.val j e h;exact⟨w,by rw[gs ae];exact h1,h2.mono sm⟩
 ·rcases get_set h with ⟨rfl,hl,e1⟩|⟨ae,h⟩
  ·cases e1;exact⟨v,fp,zV (by rw[E.len];exact hl),new,hp,nd⟩
  ·obtain⟨w,fq,h1,h2,h3,h4⟩:=E.ows j c' h io;exact⟨w,fq,by rw[gs ae];exact h1,h2.move sm λ a ha=>(keep j c' w fq ae h h1 h2 a ha).1,λ a ha=>⟨hs a (h3 a ha).1,(h3 a ha).2⟩,h4⟩
 ·have back:∀(l:Nat) (d:Cl) (w:V) (fq:List Addr),i≠l->ρ[l]?=some (some d)->σ[l]?=some (some w)->CW K H' P' d w fq->∃fr,CW K H P d w fr/\fr=fq:=λ l d w fq hn hk sk ho=>by
   have io:HM d=true:=by cases d<;>first|rfl|exact ho.elim
   obtain⟨w',bM,s2,o2,_⟩:=E.ows l d hk io;rw[sk] at s2;cases s2;exact⟨bM,o2,(o2.move sm λ a ha=>(keep l d w bM hn hk sk o2 a ha).1).C1 ho⟩
  rcases get_set h1 with ⟨rfl,hl,e1⟩|⟨cb,h1⟩
  ·cases e1;rw[zV (by rw[E.len];exact hl)] at h3;cases h3;rcases get_set h2 with ⟨e,_⟩|⟨aB,h2⟩
   ·exact (ae e).elim
   ·rw[gs aB] at h4;obtain⟨fr,o,rfl⟩:=back k c2 u' bM aB h2 h4 h6;intro a ha hb;rw[new.C1 h5] at keep;exact (keep k c2 u' fr aB h2 h4 o a hb).2 ha
  ·rw[gs cb] at h3;obtain⟨fr,o,rfl⟩:=back j c1 u az cb h1 h3 h5;rcases get_set h2 with ⟨rfl,hl,e1⟩|⟨aB,h2⟩
   ·cases e1;rw[zV (by rw[E.len];exact hl)] at h4;cases h4;intro a ha;rw[new.C1 h6] at keep;exact (keep j c1 u fr cb h1 h3 o a ha).2
   ·rw[gs aB] at h4;obtain⟨m8,o2,rfl⟩:=back k c2 u' bM aB h2 h4 h6;exact E.apart j k c1 c2 u u' fr m8 h1 h2 h3 h4 o o2 ae
theorem Ai.lY {K:za}(E:Ai K P0 P H σ ρ){P':Addr->Prop}{H':Hp}{i:Nat}{v:V}{c:Cl}{fp:List Addr}(hs:∀a,P0 a->P' a)(ht:∀a,P' a->El H' a)(sm:Ae (del H P) (del H' P'))
 (keep:∀(j:Nat) c' v' ai,i≠j->ρ[j]?=some (some c')->σ[j]?=some (some v')->CW K H P c' v' ai->∀a∈ai,H' a=H a/\a∉fp/\P' a)
 (new:CW K H' P' c v fp) (hp:∀a∈fp,P' a/\¬ P0 a) (nd:fp.Nodup) (d8:∀n,Nr c=some n->v=.ref (P0.g n):=by intro n z;cases z):Ai K P0 P' H' (σ.set i (some v)) (ρ.set i (some c)):=by
 have gs:∀ {j:Nat},i≠j->(σ.set i (some v))[j]?=σ[j]? :=λ h=>yo h;refine⟨hs,ht,λ j e h=>?_,λ j c' h io=>?_,λ j k c1 c2 u u' az bM h1 h2 h3 h4 h5 h6 ae=>?_,by rw[yE,yE];exact E.len,λ j c' n h hp=>?_⟩
 rotate_left 3
 ·rcases get_set h with ⟨rfl,hl,e1⟩|⟨ae,h⟩
  ·cases e1;rw[zV (by rw[E.len];exact hl),d8 n hp]
  ·rw[gs ae];exact E.pin j c' n h hp
 ·rcases get_set h with ⟨rfl,hl,e1⟩|⟨ae,h⟩
  ·cases e1;exact new.elim
  ·obtain⟨w,h1,h2⟩:=E.val j e h;exact⟨w,by rw[gs ae];exact h1,h2.mono sm⟩
 ·rcases get_set h with ⟨rfl,hl,e1⟩|⟨ae,h⟩
  ·cases e1;exact⟨v,fp,zV (by rw[E.len];exact hl),new,hp,nd⟩
  ·obtain⟨w,fq,h1,h2,h3,h4⟩:=E.ows j c' h io;exact⟨w,fq,by rw[gs ae];exact h1,h2.move sm λ a ha=>(keep j c' w fq ae h h1 h2 a ha).1,λ a ha=>⟨(keep j c' w fq ae h h1 h2 a ha).2.2,(h3 a ha).2⟩,h4⟩
 ·have back:∀(l:Nat) (d:Cl) (w:V) (fq:List Addr),i≠l->ρ[l]?=some (some d)->σ[l]?=some (some w)->CW K H' P' d w fq->∃fr,CW K H P d w fr/\fr=fq:=λ l d w fq hn hk sk ho=>by
   have io:HM d=true:=by cases d<;>first|rfl|exact ho.elim
   obtain⟨w',bM,s2,o2,_⟩:=E.ows l d hk io;rw[sk] at s2;cases s2;exact⟨bM,o2,(o2.move sm λ a ha=>(keep l d w bM hn hk sk o2 a ha).1).C1 ho⟩
  rcases get_set h1 with ⟨rfl,hl,e1⟩|⟨cb,h1⟩
  ·cases e1;rw[zV (by rw[E.len];exact hl)] at h3;cases h3;rcases get_set h2 with ⟨e,_⟩|⟨aB,h2⟩
   ·exact (ae e).elim
   ·rw[gs aB] at h4;obtain⟨fr,o,rfl⟩:=back k c2 u' bM aB h2 h4 h6;intro a ha hb;rw[new.C1 h5] at keep;exact (keep k c2 u' fr aB h2 h4 o a hb).2.1 ha
  ·rw[gs cb] at h3;obtain⟨fr,o,rfl⟩:=back j c1 u az cb h1 h3 h5;rcases get_set h2 with ⟨rfl,hl,e1⟩|⟨aB,h2⟩
   ·cases e1;rw[zV (by rw[E.len];exact hl)] at h4;cases h4;intro a ha;rw[new.C1 h6] at keep;exact (keep j c1 u fr cb h1 h3 o a ha).2.1
   ·rw[gs aB] at h4;obtain⟨m8,o2,rfl⟩:=back k c2 u' bM aB h2 h4 h6;exact E.apart j k c1 c2 u u' fr m8 h1 h2 h3 h4 o o2 ae
theorem OA {α:Type}:∀ {l:List α}{i:Nat}{x:α},l[i]?=some x->l.set i x=l
 |[],_,_,h=>by cases h
 |y::r,0,x,h=>by cases h;rfl
 |y::r,i+1,x,h=>by rw[zv,OA (by simpa using h)]
theorem Ai.mut {K:za}(E:Ai K P0 P H σ ρ){i p:Nat}{xs:List V}{ds j4:List D}(ho:ρ[i]?=some (some (.own ds)))(hs:σ[i]?=some (some (.ref p)))(pP:P p)(j5:¬ P0 p)(hx:Ag K (del H P) xs j4):
 Ai K P0 P (upd H p (.lst xs)) σ (ρ.set i (some (.own j4)))/\Tr P0 P H P (upd H p (.lst xs)):=by
 have sd:del (upd H p (.lst xs)) P=del H P:=by
  funext b;by_cases hb:P b
  ·rw[FE hb,FE hb]
  ·rw[AE hb,AE hb,Am (λ z=>hb (by rw[z];exact pP))]
 have sm:Ae (del H P) (del (upd H p (.lst xs)) P):=by rw[sd];exact Ae.refl _
 obtain⟨v,fp,s1,o1,_⟩:=E.ows i _ ho rfl;rw[hs] at s1;cases s1;have key:=E.YM (P':=P) (H':=upd H p (.lst xs)) (i:=i) (v:=.ref p) (c:=.own j4) (fp:=[p]) (λ a h=>h) (λ a h=>?_) sm (λ j c' v' ai ae h1 h2 h3 a ha=>?_) ⟨p,xs,rfl,rfl,AH,by rw[sd];exact hx⟩ (λ a ha=>by rw[zw.mp ha];exact⟨pP,j5⟩) (by simp)
 ·rw[OA hs] at key;exact⟨key,sm,λ a h=>by rw[Am (λ z=>j5 (by rw[<-z];exact h))]⟩
 ·by_cases ha:a=p
  ·subst ha;exact El.lst AH
  ·unfold El;rw[Am ha];exact E.Cf a h
 ·obtain⟨p',d7,e,rfl,_⟩:=o1;cases e;have hn:a≠p:=λ z=>E.apart j i c' _ v' _ ai [p] h1 ho h2 hs h3 ⟨p,d7,rfl,rfl,by assumption⟩ (yh ae) a ha (by rw[z];exact zw.mpr rfl);exact⟨Am hn,λ z=>hn (zw.mp z)⟩
theorem Ai.grow {K:za}(E:Ai K P0 P H σ ρ){i p:Nat}{xs:List V}{ds:List D}{v:V}{d:D}(ho:ρ[i]?=some (some (.own ds)))(hs:σ[i]?=some (some (.ref p)))(hp:H p=some (.lst xs))(pP:P p)(j5:¬ P0 p)(hx:Ag K (del H P) xs ds)(hv:BC K (del H P) v d):
 Ai K P0 P (upd H p (.lst (xs++[v]))) σ (ρ.set i (some (.own (ds++[d]))))/\Tr P0 P H P (upd H p (.lst (xs++[v]))):=E.mut ho hs pP j5 (hx.snoc hv)
theorem AD (i:Nat){x:Str}{pos':Pos}(hN:X.N.Nodup)(hi:X.N[i]?=some x)(hx:Loc X.env.scope x)(ha:DE X WX true e f)(hs:swapsWith e (some (.Name x pos')) pos.line X.env=pure false:=by rfl)(hf:X.fn x=true\/X.env.scope.names.lookup x=some .local:=by first | exact .inl rfl | exact .inr rfl | assumption):
 DS X WX (.Assign [.Name x pos'] e pos) (λ ρ=>(f ρ).bind λ d=>.ok (.next (ρ.set i (some (.val d))))):=by
 obtain⟨ta,a1,a2⟩:=ha;refine⟨_,Rg hN hi hx a1 hs hf,λ P0 P σ H Z ρ E h=>?_⟩;dsimp only at h;refine a2 P0 P σ H _ ρ E ?_;cases q:f ρ with
 |bad=>rw[q] at h;exact h
 |ex x=>rw[q] at h;exact λ H' s=>h H' P (E.tr s)
 |ok d=>rw[q] at h;exact λ v H' s hv=>h _ H' P (E.tr s) ((E.same s).RG hv)
noncomputable def Uh (i:Nat)(ρ:Aa)(m:M D):M Out:=match ρ[i]? with
 |some (some (.own ds))=>m.bind λ d=>if ds.length<1000 then .ok (.next (ρ.set i (some (.own (ds++[d]))))) else .bad
 |_=>.bad
theorem JI (i:Nat){x:Str}{p1 apos ac:Pos}(hv:PE X (.Name x p1) (Pq i))(ha:DE X WX true e f)(hs:starEach [e] X.env=[(false,eval e X.env)]:=by rfl)
 (bg:swapsWith (.Call (.Attribute (.Name x p1) "append" apos) [e] [] ac) none pos.line X.env=pure false:=by rfl)
 (ap:attributeBase (.Name x p1) "append" X.env (eval (.Name x p1) X.env)=eval (.Name x p1) X.env:=by rfl)
 (aD:((backTo ac (starEach [e] X.env)).all (λ x => !x.1)&&(backToKw ac (keywordEach [] X.env)).all (λ x=>x.1.isSome)&&decide (([e]:List Expr).length+([]:List Keyword).length+(if ([]:List Keyword).isEmpty then 0 else 1)<30))=true:=by rfl)
 (aq:(apos.endLine==ac.line)=true:=by rfl) (ar:(backTo ac (starEach [] X.env)).any (·.1)=false:=by rfl):
 DS X WX (.Expr (.Call (.Attribute (.Name x p1) "append" apos) [e] [] ac) pos) (λ ρ=>Uh i ρ (f ρ)):=by
 obtain⟨ta,a1,a2⟩:=ha;refine⟨_,Fy (Nk ym PySem.F.slot_list_append PySem.F.type_list_append Nl hv (Bf a1 BZ hs) ap aD aq hs ar) bg,λ P0 P σ H Z ρ E h=>?_⟩;dsimp only at h;unfold Uh at h;split at h
 ·rename_i ds e1;obtain⟨p,xs,h1,h2,h3,h4,h5⟩:=E.own i ds e1;refine⟨_,h1,.inl ⟨rfl,xs,.of h2⟩,?_⟩;refine a2 P0 P σ H _ ρ E ?_;cases q:f ρ with
  |bad=>rw[q] at h;exact h
  |ex y=>rw[q] at h;exact λ H' s=>h H' P (E.tr s)
  |ok d =>
   rw[q] at h;simp only[M.A6] at h;by_cases hl:ds.length<1000
   ·rw[if_pos hl] at h;intro v H1 s1 hv;have E1:=E.same s1;have il:H1 p=some (.lst xs):=s1 _ _ h2;refine⟨p,xs,v,rfl,rfl,il,AG (by rw[h5.length];omega),?_⟩;obtain⟨E2,t2⟩:=E1.grow e1 h1 il h3 h4 (h5.mono s1.del) hv;exact h _ _ _ ((E.tr s1).trans t2) E2
   ·rw[if_neg hl] at h;exact h.elim
 ·exact h.elim
end
def gG (K:za)(P0:Dn)(P:Addr->Prop)(H:Hp)(Q:St->Hp->Prop):M Aa->Prop
 | .ok ρ=>∀σ',Ai K P0 P H σ' ρ->Q σ' H
 |_=>False
def DG (X:Cx)(tg:Expr)(gt:D->Aa->M Aa):Prop:=
 ∃g:TG,PG X tg g/\∀P0 P σ H Q ρ v d,Ai X.K P0 P H σ ρ->BC X.K (del H P) v d->gG X.K P0 P H Q (gt d ρ)->g v σ H Q
def nO (X:Cx)(tJ:List Expr)(gt:List D->Aa->M Aa):Prop:=
 ∃g:Vq,jS X tJ g/\∀P0 P σ H Q ρ v d,Ai X.K P0 P H σ ρ->Ag X.K (del H P) v d->gG X.K P0 P H Q (gt d ρ)->g v σ H Q
structure YN (K:za)(J:It)(P:Addr->Prop)(H:Hp)(ds:List D):Prop where
 go:∀(i:Nat) P' H',Ae (del H P) (del H' P')->i<ds.length->J.go i H'
 stop:∀(i:Nat) P' H',Ae (del H P) (del H' P')->ds.length<=i->J.stop i H'
 ZY:∀(i:Nat) P' H' v gi d,Ae (del H P) (del H' P')->(∀a,P' a->El H' a)->ds[i]?=some d->J.ZY i H' v gi->Ae H' gi/\BC K (del gi P') v d
def DI (X:Cx)(WX:Str->Hp->Prop)(tg iter:Expr)(f:Aa->M (List D)):Prop:=
 ∃wi,PI X tg iter wi/\∀P0 P σ H R ρ,Ai X.K P0 P H σ ρ->(match f ρ with | .ok ds=>∀J H',Ae H H'->YN X.K J P H' ds->R J H' | .ex x=>∀H',Ae H H'->WX x H' | .bad=>False)->wi σ H R
noncomputable def forM (gt:D->Aa->M Aa)(body:Aa->M Out):List D->Aa->M Out
 |[],ρ=>.ok (.next ρ)
 |d::r,ρ=>match gt d ρ with
  | .ok ρ1=>(match body ρ1 with
   | .ok (.next ρ2)| .ok (.cont ρ2)=>forM gt body r ρ2
   | .ok (.brk ρ2)=>.ok (.next ρ2)
   |m=>m)
  |_=>.bad
section
variable {X:Cx}{WX:Str->Hp->Prop}{c:Bool}{P0:Dn}{P:Addr->Prop}{H:Hp}{σ:St}{ρ:Aa}{a b e tg iter:Expr}{f g:Aa->M D}{ft:Aa->M Bool}{pos:Pos}{gt:D->Aa->M Aa}{c8:List D->Aa->M Aa}{gb:Aa->M Out}{fi:Aa->M (List D)}
theorem Bs (i:Nat){x:Str}(hN:X.N.Nodup)(hi:X.N[i]?=some x)(hx:Loc X.env.scope x)(hf:X.fn x=true\/X.env.scope.names.lookup x=some .local:=by first | exact .inl rfl | exact .inr rfl | assumption):DG X (.Name x pos) (λ d ρ=>.ok (ρ.set i (some (.val d)))):=
 ⟨_,Oh hN hi hx hf,λ P0 P σ H Q ρ v d E hv h=>h _ (E.RG hv)⟩
theorem OB:nO X [] (λ ds ρ=>match ds with | []=>.ok ρ | _=>.bad):=⟨_,Ss,λ P0 P σ H Q ρ v d E hv h=>by
 cases hv with
 |nil=>exact⟨rfl,h σ E⟩
 |cons _ _=>exact h.elim⟩
theorem ER {es:List Expr}(h1:DG X e gt)(h2:nO X es c8)(hs:(assignEach (e::es) X.env).map (·.2)=assign e X.env::(assignEach es X.env).map (·.2):=by rfl):
 nO X (e::es) (λ ds ρ=>match ds with|d::r=>(gt d ρ).bind (c8 r)|[]=>.bad):=by
 obtain⟨t,a1,a2⟩:=h1;obtain⟨u,b1,b2⟩:=h2;refine⟨_,Pu a1 b1 hs,λ P0 P σ H Q ρ v d E hv h=>?_⟩;cases hv with
 |nil=>exact h.elim
 | @cons x d xs ds hx bI =>
  refine⟨x,xs,rfl,a2 P0 P σ H _ ρ x d E hx ?_⟩;dsimp only at h;cases q:gt d ρ with
  |bad|ex y=>rw[q] at h;exact h
  |ok ρ1=>rw[q] at h;exact λ σ' E'=>b2 P0 P σ' H Q ρ1 xs ds E' bI h
theorem RH {es:List Expr}{k n:Nat}(hc:X.calm=true)(h:nO X es c8)(hn:(assignEach es X.env).length=n:=by rfl)(aT:(assignEach es X.env).findIdx? (·.1)=none:=by rfl):
 DG X (.Tuple es k pos) (λ d ρ=>match d with | .tup ds=>if ds.length=n then c8 ds ρ else .bad|_=>.bad):=by
 obtain⟨t,a1,a2⟩:=h;refine⟨_,VF hc a1 hn aT,λ P0 P σ H Q ρ v d E hv h=>?_⟩;cases hv with
 | @tup a xs ds hs hl =>
  dsimp only at h;by_cases hd:ds.length=n
  ·rw[if_pos hd] at h;exact⟨a,xs,rfl,Fx.of (An hs).2,by rw[hl.length];exact hd,a2 P0 P σ H Q ρ xs ds E hl h⟩
  ·rw[if_neg hd] at h;exact h.elim
 |_=>exact h.elim
theorem B7 (ha:DE X WX true e f):DI X WX tg e (λ ρ=>(f ρ).bind λ d=>match d with | .lst ds=>.ok ds | _=>.bad):=by
 obtain⟨ta,a1,a2⟩:=ha;refine⟨_,Yg a1,λ P0 P σ H R ρ E h=>?_⟩;dsimp only at h;refine a2 P0 P σ H _ ρ E ?_;cases q:f ρ with
 |bad|ex x=>rw[q] at h;exact h
 |ok d =>
  rw[q] at h;cases d with
  |lst ds =>
   intro v H1 s1 hv;cases hv with
   | @lst a xs _ hs hl =>
    refine⟨a,rfl,⟨xs,hs.Bi⟩,h _ H1 s1 ⟨λ i P' H' s hi=>?_,λ i P' H' s hi=>?_,λ i P' H' v gi d s ht hd y=>?_⟩⟩
    ·obtain⟨x,hx,_⟩:=hl.get (zr hi);exact⟨xs,x,(s.seq hs).Bi,hx⟩
    ·exact⟨xs,(s.seq hs).Bi,by rw[hl.length];exact hi⟩
    ·obtain⟨rfl,y⟩:=y;obtain⟨x,hx,cz⟩:=hl.get hd;have e:=y xs (s.seq hs).Bi;rw[hx] at e;cases e;exact⟨Ae.refl _,cz.mono s⟩
  |_=>exact h.elim
noncomputable def Ck (lo:Int):Nat->List D
 |0=>[]
 |n+1=>.int lo::Ck (lo+1) n
theorem CI (lo:Int):∀n:Nat,(Ck lo n).length=n:=by
 intro n;induction n generalizing lo with
 |zero=>rfl
 |succ n ih=>rw[Ck,zq,ih]
theorem Ih {lo:Int}{n i:Nat}{d:D}(h:(Ck lo n)[i]?=some d):d=.int (lo+i)/\i<n:=by
 have hi:i<n:=by
  have:=(zy.mp h).1;rw[CI] at this;exact this
 refine⟨?_,hi⟩;induction n generalizing lo i with
 |zero=>omega
 |succ n ih =>
  cases i with
  |zero=>rw[Ck] at h;simp at h;rw[<-h];simp
  |succ i =>
   rw[Ck,zR] at h;rw[ih h (by omega)];congr 1;omega
theorem RI {K:za}{P:Addr->Prop}{H:Hp}(lo:Int)(n:Nat):YN K (nK lo n) P H (Ck lo n):=
 ⟨λ i P' H' _ hi=>by rw[CI] at hi;exact hi,λ i P' H' _ hi=>by rw[CI] at hi;exact hi,λ i P' H' v gi d _ _ hd y=>by
  obtain⟨rfl,rfl⟩:=y;obtain⟨rfl,_⟩:=Ih hd;exact⟨Ae.refl _,.int _⟩⟩
noncomputable def Wq:D->M (List D)
 | .int j=>@ite _ (-(2^62)<=j/\j<2^62) (xq _) (.ok (Ck 0 j.toNat)) .bad
 |_=>.bad
theorem Q1 {j:Int}(h1 : -(2^62)<=j)(h2:j<2^62):Wq (.int j)=.ok (Ck 0 j.toNat):=if_pos ⟨h1,h2⟩
theorem Q2 {n:Nat}(h:n<=1000):Wq (.int (n:Int))=.ok (Ck 0 n):=by
 rw[Q1 (by omega) (by omega),yt]
theorem JJ {p:Pos}(hg:Gl X "range")(hm:X.mg "range" = none)(ha:DE X WX c a f)(hs:starEach [a] X.env=[(false,eval a X.env)]:=by rfl):
 DI X WX tg (.Call (.Name "range" p) [a] [] pos) (λ ρ=>(f ρ).bind Wq):=by
 obtain⟨ta,a1,a2⟩:=ha;refine⟨_,TX hg hm (Bf a1 BZ hs) hs,λ P0 P σ H R ρ E h=>?_⟩;dsimp only at h;refine a2 P0 P σ H _ ρ E ?_;cases q:f ρ with
 |bad|ex x=>rw[q] at h;exact h
 |ok d =>
  rw[q] at h;cases d with
  |int j =>
   simp only[M.A6] at h;by_cases hj : -(2^62)<=j/\j<2^62
   ·rw[Q1 hj.1 hj.2] at h;exact λ v H1 s1 hv=>⟨j,by rw[hv.int_inv],hj.1,hj.2,h _ H1 s1 (RI 0 _)⟩
   ·have e:Wq (.int j)=.bad:=if_neg hj;rw[e] at h;exact h.elim
  |_=>exact h.elim
noncomputable def HR (k:Nat):List D->List D
 |[]=>[]
 |d::r=>.tup [.int k,d]::HR (k+1) r
theorem Dp (k:Nat)(ds:List D):(HR k ds).length=ds.length:=by
 induction ds generalizing k with
 |nil=>rfl
 |cons d r ih=>rw[HR,zq,zq,ih]
theorem Hf {k i:Nat}{ds:List D}{e:D}(h:(HR k ds)[i]?=some e):∃d,ds[i]?=some d/\e=.tup [.int ((k+i:Nat):Int),d]:=by
 induction ds generalizing k i with
 |nil=>rw[HR] at h;simp at h
 |cons d r ih =>
  cases i with
  |zero=>rw[HR] at h;simp at h;exact⟨d,rfl,by rw[<-h];rfl⟩
  |succ i =>
   rw[HR,zR] at h;obtain⟨d',h1,h2⟩:=ih h;refine⟨d',by simpa using h1,?_⟩;rw[h2];congr 3;omega
theorem OC {bV:List Expr}{x1}{br p:Pos}(hg:Gl X "enumerate")(hm:X.mg "enumerate" = none)(ha:DE X WX true a f)(hb:bootBuiltins "enumerate" = some (.type "enumerate"):=by decide +kernel)(hs:starEach [a] X.env=[(false,eval a X.env)]:=by rfl):
 DI X WX (.Tuple bV x1 br) (.Call (.Name "enumerate" p) [a] [] pos) (λ ρ=>(f ρ).bind λ d=>match d with | .lst ds=>.ok (HR 0 ds)|_=>.bad):=by
 obtain⟨ta,a1,a2⟩:=ha;refine⟨_,YI hg hm (Bf a1 BZ hs) hb hs,λ P0 P σ H R ρ E h=>?_⟩;dsimp only at h;refine a2 P0 P σ H _ ρ E ?_;cases q:f ρ with
 |bad|ex x=>rw[q] at h;exact h
 |ok d =>
  rw[q] at h;cases d with
  |lst ds =>
   intro v H1 s1 hv;cases hv with
   | @lst a xs _ hs hl =>
    refine⟨a,rfl,⟨xs,hs.Bi⟩,h _ H1 s1 ⟨λ i P' H' s hi=>?_,λ i P' H' s hi=>?_,λ i P' H' v gi d s ht hd y=>?_⟩⟩
    ·rw[Dp] at hi;obtain⟨x,hx,_⟩:=hl.get (zr hi);exact⟨xs,x,(s.seq hs).Bi,hx⟩
    ·rw[Dp] at hi;exact⟨xs,(s.seq hs).Bi,by rw[hl.length];exact hi⟩
    ·obtain⟨p,x,hn,rfl,y,rfl⟩:=y;obtain⟨d',cS,rfl⟩:=Hf hd;obtain⟨x',hx,cz⟩:=hl.get cS;have e:=y xs (s.seq hs).Bi;rw[hx] at e;cases e;refine⟨AM hn _,.tup (He hn ht) (.cons ?_ (.cons ((cz.mono s).mono (AM hn _).del) .nil))⟩;rw[Nat.zero_add];exact .int _
  |_=>exact h.elim
theorem J4 {α:Type}{l:List α}{i:Nat}(h:i<l.length):l.drop i=l[i]::l.drop (i+1):=List.drop_eq_getElem_cons h
theorem CJ {body:List Stmt}(hp:PassesOwn (model X.prog X.w) X.A X.env X.xe)(hc:X.calm=true)(hi:DI X WX tg iter fi)(hg:DG X tg gt)(hb:R9 X WX body gb)(hs:∀x,foldedSetIterable iter X.env x=pure x:=by intro _;rfl):
 DS X WX (.For tg iter body [] pos) (λ ρ=>(fi ρ).bind λ ds=>forM gt gb ds ρ):=by
 obtain⟨wi,i1,i2⟩:=hi;obtain⟨t,a1,a2⟩:=hg;obtain⟨tb,b1,b2⟩:=hb;refine⟨_,eR hp hc i1 a1 b1 hs,λ P0 P σ H Z ρ E h=>?_⟩;dsimp only at h;refine i2 P0 P σ H _ ρ E ?_;cases q:fi ρ with
 |bad=>rw[q] at h;exact h
 |ex x=>rw[q] at h;exact λ H' s=>h H' P (E.tr s)
 |ok ds =>
  rw[q] at h;simp only[M.A6] at h;intro J H1 s1 ok;refine⟨λ i m σ' H'=>m=ds.length-i/\i<=ds.length/\∃P' ρ',Tr P0 P H1 P' H'/\Ai X.K P0 P' H' σ' ρ'/\gS X.K WX P0 P' H' Z (forM gt gb (ds.drop i) ρ'),
   ⟨ds.length,by simp,zT _,P,ρ,Tr.refl,E.same s1,by rw[List.drop_zero];exact h.tr (E.tr s1)⟩,?_⟩
  rintro i m σ' H' ⟨rfl,hi,P',ρ',t',E',g'⟩;by_cases am:i<ds.length
  ·refine .inr ⟨ok.go i P' H' t'.1 am,λ σ2 H2=>i+1<=ds.length/\∃P2 ρ2,Tr P0 P H1 P2 H2/\Ai X.K P0 P2 H2 σ2 ρ2/\gS X.K WX P0 P2 H2 Z (forM gt gb (ds.drop (i+1)) ρ2),λ σ2 H2 hq=>⟨ds.length-(i+1),by omega,rfl,hq.1,hq.2⟩,λ v H2 y=>?_⟩;obtain⟨s2,hv⟩:=ok.ZY i P' H' v H2 ds[i] t'.1 E'.Cf (zr am) y;rw[J4 am,forM] at g';have E2:=E'.same s2;refine a2 P0 P' σ' H2 _ ρ' v ds[i] E2 hv ?_;cases q1:gt ds[i] ρ' with
   |bad=>rw[q1] at g';exact g'
   |ex x=>rw[q1] at g';exact g'.elim
   |ok ρ1 =>
    rw[q1] at g';dsimp only at g';intro σ3 E3;refine b2 P0 P' σ3 H2 _ ρ1 E3 ?_;have tt:Tr P0 P H1 P' H2:=t'.trans (E'.tr s2);cases q2:gb ρ1 with
    |bad=>rw[q2] at g';exact g'
    |ex x=>rw[q2] at g';exact gS.tr (m:=.ex x) g' (E'.tr s2)
    |ok o =>
     rw[q2] at g';cases o with
     |ret d=>exact gS.tr (m:=.ok (.ret d)) g' (E'.tr s2)
     |Cg d=>exact gS.tr (m:=.ok (.Cg d)) g' (E'.tr s2)
     |EQ d ρ2=>exact gS.tr (m:=.ok (.EQ d ρ2)) g' (E'.tr s2)
     |next ρ2|cont ρ2=>exact λ σ4 H4 P4 t4 E4=>⟨am,P4,ρ2,tt.trans t4,E4,gS.tr g' ((E'.tr s2).trans t4)⟩
     |brk ρ2=>exact λ σ4 H4 P4 t4 E4=>g' σ4 H4 P4 ((E'.tr s2).trans t4) E4
  ·have e:i=ds.length:=by omega
   subst e;refine .inl ⟨ok.stop _ P' H' t'.1 (zu _),?_⟩;rw[xm,forM] at g';exact g' σ' H' P' Tr.refl E'
end
noncomputable def RJ (K:za)(n:Nat)(F:List D->M D):Sp:=λ vs H Q _=>vs.length=n/\∃P ds,(∀a,P a->El H a)/\Ag K (del H P) vs ds/\gV K (λ _ _=>False) P H Q (F ds)
noncomputable def AI (N:List Str)(ds:List D):Aa:=ds.map (λ d=>some (.val d))++zA (N.length-ds.length) none
noncomputable def pM:Cl->M D
 | .val d=>.ok d
 | .own ds=>.ok (.lst ds)
 | .ow (.rows Gv)=>.ok (.lst (Gv.map D.lst))
 | .ow (.L0 _ _)=>.bad
 | .ow (.tree _ t)=>.ok (er t)
noncomputable def fin (m:M Out):M D:=match m with
 | .ok (.ret d)=>.ok d
 | .ok (.Cg c)=>pM c
 | .ok (.next _)=>.ok .Az
 |_=>.bad
theorem Nx {K:za}{P:Addr->Prop}{H:Hp}{N:List Str}{vs:List V}{ds:List D}(ht:∀a,P a->El H a)(h:Ag K (del H P) vs ds):Ai K ⟨P,λ _=>0⟩ P H (start N vs) (AI N ds):=by
 have hl:=h.length;have key:∀(i:Nat) (c:Cl),(AI N ds)[i]?=some (some c)->∃d,ds[i]?=some d/\c=.val d:=λ i c e=>by
  unfold AI at e;by_cases hi:i<ds.length
  ·rw[y2 (by simpa using hi),zG] at e;cases q:ds[i]? with
   |none=>rw[q] at e;cases e
   |some d=>rw[q] at e;cases e;exact⟨d,rfl,rfl⟩
  ·rw[xh (by simpa using hi),List.getElem?_replicate] at e;split at e<;>cases e
 refine⟨λ _ h=>h,ht,λ i d e=>?_,λ i es e io=>?_,λ i j c c' v v' fp ai e _ _ _ ho _ _=>?_,?_,λ i c n e hp=>?_⟩
 rotate_left 4
 ·obtain⟨d',q,z⟩:=key i _ e;cases z;cases hp
 ·obtain⟨d',q,z⟩:=key i _ e;cases z;obtain⟨v,hv,hd⟩:=h.get q;refine⟨v,?_,hd⟩;unfold start;rw[y2 (by rw[zf];exact (zy.mp hv).1),zG,hv];rfl
 ·obtain⟨d',q,z⟩:=key i _ e;cases z;cases io
 ·obtain⟨d',q,z⟩:=key i _ e;cases z;exact ho.elim
 ·unfold start AI;simp[hl]
theorem Dh {P:Addr->Prop}{H H':Hp}{P':Addr->Prop}(t:Tr P P H P' H'):Ae H H':=λ b o e=>by
 by_cases hb:P b
 ·rw[t.2 b hb];exact e
 ·exact (An (t.1 b o (by rw[AE hb];exact e))).2
theorem DV.fZ {K:za}{H:Hp}{P P0:Addr->Prop}(hs:∀a,P0 a->P a):∀ {ps:List Addr}{Gv:List (List D)},(∀a∈ps,¬ P0 a)->DV K H P ps Gv->Ag K (del H P0) (ps.map V.ref) (Gv.map D.lst)
 |_,_,_,.nil=>.nil
 |_,_,k,.cons h r t=>.cons (.lst (.of (show del H P0 _=_ by rw[AE (k _ zd)];exact h)) (r.mono (Ci hs))) (DV.fZ hs (λ a ha=>k a (ze _ ha)) t)
theorem YO {K:za}{WX:Str->Hp->Prop}{P P2:Addr->Prop}{H H':Hp}{Q:VK}{c:Cl}{v:V}{fp:List Addr}(h:gV K WX P H Q (pM c))(t':Tr P P H P2 H')(hs:∀a,P a->P2 a)(ht:∀a,P2 a->El H' a)(ho:CW K H' P2 c v fp)(hp:∀a∈fp,P2 a/\¬ P a):Q v H':=by
 cases c with
 |val d=>exact ho.elim
 |own ds =>
  obtain⟨p,xs,rfl,rfl,h1,h2⟩:=ho;exact h _ H' (Dh t') (.lst (.of (show del H' P p=_ by rw[AE (hp p zd).2];exact h1)) (h2.mono (Ci hs)))
 |ow o =>
  cases o with
  |rows Gv =>
   obtain⟨p,ps,rfl,rfl,h1,h2⟩:=ho;exact h _ H' (Dh t') (.lst (.of (show del H' P p=_ by rw[AE (hp p zd).2];exact h1)) (h2.fZ hs λ a ha=>(hp a (ze _ ha)).2))
  |L0 p ds=>exact h.elim
  |tree p t=>exact h _ H' (Dh t') (BF.has hs (λ a ha=>(hp a ha).2) ho)
section
variable {P:Program}{w:World}{K:za}{mg:Str->Option Value}{base:Heap}
theorem lZ {x qual:Str}{st:Stmt}{f:Addr}{fd:FuncData}{N ps:List Str}{k:Nat}(F:Vr K x qual st f fd)(S:Ah N ps (A4 st))(g:Aa->M Out)
 (hb:∀(B6:Value) (A:Around) (outer:List Env) (s:Shared) (H:Hp) (E:XK),By k (A.deeper (envOfC qual (A4 st) s.heap.objs.size f B6))->R9 (KH Yz P w K mg base N qual (A4 st) f B6 A outer s H E).kN (λ _ _=>False) (Au st) g):
 D5 P w K mg base Yz (k+1) f fd ps (RJ K ps.length λ ds=>fin (g (AI N ds))):=by
 refine F.ok S (λ vs H Q E h=>h.1) λ B6 A outer s H vs Q E hr h=>?_;obtain⟨hl,P',ds,ht,hv,hq⟩:=h;obtain⟨t,h1,h2⟩:=hb B6 A outer s H E hr;refine⟨t,h1,h2 ⟨P',λ _=>0⟩ P' _ H _ _ (Nx ht hv) ?_⟩;dsimp only at hq;revert hq;cases g (AI N ds) with
 |bad|ex x=>exact λ h=>h.elim
 |ok o =>
  cases o with
  |ret d=>exact λ h v H' P2 t hv=>h v H' (Dh t) hv
  |next ρ=>exact λ h σ' H' P2 t E=>h .Az H' (Dh t) .Az
  |brk ρ|cont ρ=>exact λ h=>h.elim
  |Cg c=>exact λ h v fp H' P2 t hs ht ho hp nd=>YO h t hs ht ho hp
  |EQ d ρ=>exact λ h=>h.elim
end
section
variable {X:Cx}{WX:Str->Hp->Prop}{c:Bool}{P0:Dn}{P:Addr->Prop}{H:Hp}{σ:St}{ρ:Aa}{a b e tg iter:Expr}{f g:Aa->M D}{ft:Aa->M Bool}{pos:Pos}{gt:D->Aa->M Aa}{fi:Aa->M (List D)}{es:List Expr}{fs:Aa->M (List D)}
noncomputable def Bv (μ:List (Option Nat))(ρ:Aa):Aa:=μ.map λ o=>o.bind λ i=>match ρ[i]? with | some (some (.val d))=>some (.val d) | _=>none
theorem Hg {μ:List (Option Nat)}{ρ:Aa}{j:Nat}{cl:Cl}(h:(Bv μ ρ)[j]?=some (some cl)):∃i d,μ[j]?=some (some i)/\ρ[i]?=some (some (.val d))/\cl=.val d:=by
 unfold Bv at h;rw[zG] at h;cases q:μ[j]? with
 |none=>rw[q] at h;cases h
 |some o =>
  rw[q] at h;cases o with
  |none=>cases h
  |some i =>
   simp only[yq,Option.bind_some,Option.some.injEq] at h;split at h
   ·rename_i d e;cases h;exact⟨i,d,rfl,e,rfl⟩
   ·cases h
theorem Ai.block {K:za}(E:Ai K P0 P H σ ρ)(μ:List (Option Nat)):Ai K P0 P H (Ey μ σ) (Bv μ ρ):=by
 refine⟨E.sub,E.Cf,λ j d h=>?_,λ j ds h io=>?_,λ j k c c' v v' fp ai h _ _ _ ho _ _=>?_,by unfold Ey Bv;simp,λ j c n h hp=>by obtain⟨i,d',h1,h2,h3⟩:=Hg h;subst h3;cases hp⟩
 ·obtain⟨i,d',h1,h2,h3⟩:=Hg h;cases h3;obtain⟨v,h4,h5⟩:=E.val i d h2;refine⟨v,?_,h5⟩;unfold Ey;rw[zG,h1];simp[h4]
 ·obtain⟨i,d',h1,h2,h3⟩:=Hg h;cases h3;cases io
 ·obtain⟨i,d',h1,h2,h3⟩:=Hg h;cases h3;exact ho.elim
noncomputable def Bd (gt:D->Aa->M Aa)(ft:Aa->M Bool)(fe:Aa->M D):List D->Aa->M (List D)
 |[],_=>.ok []
 |d::r,ρ=>match gt d ρ with
  | .ok ρ1=>(match ft ρ1 with
   | .ok k=>if k=true then (match fe ρ1 with
    | .ok y=>(match Bd gt ft fe r ρ with | .ok ys=>.ok (y::ys)|_=>.bad)
    |_=>.bad) else Bd gt ft fe r ρ
   |_=>.bad)
  |_=>.bad
def nP (X:Cx)(scope:Scope)(NB:List Str)(μ:List (Option Nat))(tg:Expr)(gt:D->Aa->M Aa):Prop:=
 ∃g:TG,(∀s H C ex,PG (blockOf X s H scope C NB ex) tg g)/\JC μ g/\∀P0 P σ H Q ρ v d,Ai X.K P0 P H σ ρ->BC X.K (del H P) v d->gG X.K P0 P H Q (gt d ρ)->g v σ H Q
theorem BG {scope:Scope}{NB:List Str}{μ:List (Option Nat)}(i:Nat){x:Str}(hN:NB.Nodup)(hi:NB[i]?=some x)(hx:(relabel scope X.env).names.lookup x=some .local)(hm:μ[i]?=some none):nP X scope NB μ (.Name x pos) (λ d ρ=>.ok (ρ.set i (some (.val d)))):=
 ⟨Nc i,λ s H C ex=>Oh (X:=blockOf X s H scope C NB ex) hN hi (.inl hx) (.inr hx),YF hm,λ P0 P σ H Q ρ v d E hv h=>h _ (E.RG hv)⟩
def nQ (X:Cx)(cs:List Expr)(f:Aa->M Bool):Prop:=
 ∃t,jT X cs t/\∀P0 P σ H Q ρ,Ai X.K P0 P H σ ρ->gT (λ _ _=>False) H Q (f ρ)->t σ H Q
theorem Hh:nQ X [] (λ _=>.ok true):=⟨_,YD,λ P0 P σ H Q ρ E h=>h H (Ae.refl H)⟩
theorem Hi (h:DT X (λ _ _=>False) a ft):nQ X [a] ft:=let ⟨t,h1,h2⟩:=h;⟨_,YE h1,h2⟩
noncomputable def Gz (m:M (List D)):M D:=match m with | .ok ys=>.ok (.lst ys) | _=>.bad
theorem gB {μ:List (Option Nat)}{wi:TI}{gg:TG}{tc:Shared->Hp->Addr->List Addr->TT}{te:Shared->Hp->Addr->List Addr->TE}{fe:Aa->M D}
 (i2:∀P0 P σ H R ρ,Ai X.K P0 P H σ ρ->(match fi ρ with | .ok ds=>∀J H',Ae H H'->YN X.K J P H' ds->R J H' | .ex x=>∀H',Ae H H'->WX x H' | .bad=>False)->wi σ H R)
 (g2:∀P0 P σ H Q ρ v d,Ai X.K P0 P H σ ρ->BC X.K (del H P) v d->gG X.K P0 P H Q (gt d ρ)->gg v σ H Q)
 (t2:∀s H' C ex P0 P σ H Q ρ,Ai X.K P0 P H σ ρ->gT (λ _ _=>False) H Q (ft ρ)->tc s H' C ex σ H Q)
 (e2:∀s H' C ex P0 P σ H Q ρ,Ai X.K P0 P H σ ρ->gV X.K (λ _ _=>False) (Lv c P0 P) H Q (fe ρ)->te s H' C ex σ H Q) {Q:VK}
 (E:Ai X.K P0 P H σ ρ) (h:gV X.K WX (Lv c P0 P) H Q ((fi ρ).bind λ ds=>if ds.length<=1000 then Gz (Bd gt ft fe ds (Bv μ ρ)) else .bad)):SD wi μ gg tc te σ H Q:=by
 refine i2 P0 P σ H _ ρ E ?_;cases q:fi ρ with
 |bad|ex x=>rw[q] at h;exact h
 |ok ds =>
  rw[q] at h;simp only[M.A6] at h;by_cases hd:¬ ds.length<=1000
  ·rw[if_neg hd] at h;exact h.elim
  have hd:ds.length<=1000:=by omega
  rw[if_pos hd] at h;intro J H1 s1 ok s C ex;cases qc:Bd gt ft fe ds (Bv μ ρ) with
  |bad|ex x=>rw[qc] at h;exact h.elim
  |ok total =>
   rw[qc] at h;unfold Gz at h;dsimp only at h;have E1:=E.same s1;refine⟨λ i m ys H2=>m=ds.length-i/\i<=ds.length/\ys.length<=i/\Ae H1 H2/\∃es rest,Ag X.K (del H2 (Lv c P0 P)) ys es/\Bd gt ft fe (ds.drop i) (Bv μ ρ)=.ok rest/\es++rest=total,
    ⟨ds.length,by simp,zT _,zu _,Ae.refl _,[],total,.nil,by rw[List.drop_zero];exact qc,rfl⟩,?_⟩
   rintro i m ys H2 ⟨rfl,hi,hy,s2,es,rest,d9,aj,aY⟩;by_cases am:i<ds.length
   ·refine .inr ⟨ok.go i P H2 s2.del am,Nat.lt_of_le_of_lt hy (AG (by omega)),λ bn H'=>i+1<=ds.length/\bn.length<=i+1/\Ae H1 H'/\∃es rest,Ag X.K (del H' (Lv c P0 P)) bn es/\Bd gt ft fe (ds.drop (i+1)) (Bv μ ρ)=.ok rest/\es++rest=total,λ bn H' hq=>⟨ds.length-(i+1),by omega,rfl,hq.1,hq.2.1,hq.2.2.1,hq.2.2.2⟩,λ v H3 y=>?_⟩;have E2:=E1.same s2;obtain⟨s3,hv⟩:=ok.ZY i P H2 v H3 ds[i] s2.del E2.Cf (zr am) y;rw[J4 am,Bd] at aj;have E3:=(E2.same s3).block μ;refine g2 P0 P _ H3 _ (Bv μ ρ) v ds[i] E3 hv ?_;cases q1:gt ds[i] (Bv μ ρ) with
    |bad|ex x=>rw[q1] at aj;cases aj
    |ok ρ1 =>
     rw[q1] at aj;dsimp only at aj;intro σ4 E4;refine t2 s H1 C ex P0 P σ4 H3 _ ρ1 E4 ?_;cases q2:ft ρ1 with
     |bad|ex x=>rw[q2] at aj;cases aj
     |ok k =>
      rw[q2] at aj;dsimp only at aj;intro H5 s5;cases k with
      |false =>
       simp only[zC,if_false] at aj ⊢;exact⟨am,by omega,(s2.trans s3).trans s5,es,rest,(d9.mono s3.del).mono s5.del,aj,aY⟩
      |true =>
       simp only[if_true] at aj ⊢;refine e2 s H1 C ex P0 P σ4 H5 _ ρ1 (E4.same s5) ?_;cases q3:fe ρ1 with
       |bad|ex x=>rw[q3] at aj;cases aj
       |ok y' =>
        rw[q3] at aj;dsimp only at aj;cases q4:Bd gt ft fe (ds.drop (i+1)) (Bv μ ρ) with
        |bad|ex x=>rw[q4] at aj;cases aj
        |ok m9 =>
         rw[q4] at aj;cases aj;intro w H6 s6 hw;refine⟨am,by rw[zB,y3];omega,((s2.trans s3).trans s5).trans s6,es++[y'],m9,(((d9.mono s3.del).mono s5.del).mono s6.del).snoc hw,rfl,?_⟩;rw[yD];exact aY
   ·have e:i=ds.length:=by omega
    subst e;rw[xm,Bd] at aj;cases aj;rw[yb] at aY;subst aY;refine .inl ⟨ok.stop _ P H2 s2.del (zu _),λ D0 hn=>h _ _ ((s1.trans s2).trans (AM hn _)) (.lst (.of (He hn λ a q=>(E1.same s2).lS c a q)) (d9.mono (AM hn _).del))⟩
theorem J5 {scope:Scope}{NB:List Str}{ifs:List Expr}{elt:Expr}{fe:Aa->M D}(i:Nat){x:Str}{px aE:Pos}(μ:List (Option Nat))(hN:X.N.Nodup)(mi:X.N[i]?=some x)(hx:Loc X.env.scope x)(hc:X.calm=true)(hi:DI X WX tg iter fi)(a9:JB scope X.env.scope=true)(bF:PN X.N NB scope μ=true)(hg:nP X scope NB μ tg gt)
 (ht:∀s H C ex,nQ (blockOf X s H scope C NB ex) ifs ft) (he:∀s H C ex,DE (blockOf X s H scope C NB ex) (λ _ _=>False) true elt fe)
 (bg:swapsWith (.ListComp elt [⟨tg,iter,ifs,0⟩] scope pos) (some (.Name x px)) aE.line X.env=pure true:=by rfl) (hs:∀x,foldedSetIterable iter X.env x=pure x:=by intro _;rfl) (hf:X.fn x=true\/X.env.scope.names.lookup x=some .local:=by first|exact .inl rfl|exact .inr rfl|assumption):
 DS X WX (.Assign [.Name x px] (.ListComp elt [⟨tg,iter,ifs,0⟩] scope pos) aE) (λ ρ=>((fi ρ).bind λ ds=>if ds.length<=1000 then Gz (Bd gt ft fe ds (Bv μ ρ)) else .bad).bind λ d=>.ok (.next (ρ.set i (some (.val d))))):=by
 obtain⟨wi,i1,i2⟩:=hi;obtain⟨gg,g1,gk,g2⟩:=hg;refine⟨_,YH hN mi hx hc i1 a9 bF gk (λ s H C ex=>⟨g1 s H C ex,(zb (ht s H C ex)).1,(zb (he s H C ex)).1⟩) bg hs hf,λ P0 P σ H Z ρ E h=>?_⟩;refine gB (c:=true) i2 g2 (λ s H' C ex P0 P σ H Q ρ E h=>(zb (ht s H' C ex)).2 P0 P σ H Q ρ E h) (λ s H' C ex P0 P σ H Q ρ E h=>(zb (he s H' C ex)).2 P0 P σ H Q ρ E h) E ?_;dsimp only at h;revert h;cases ((fi ρ).bind λ ds=>if ds.length<=1000 then Gz (Bd gt ft fe ds (Bv μ ρ)) else .bad) with
 |bad=>exact λ h=>h
 |ex y=>exact λ h H' s=>h H' P (E.tr s)
 |ok d=>exact λ h v H' s hv=>h _ H' P (E.tr s) ((E.same s).RG hv)
end
section
variable {X:Cx}{WX:Str->Hp->Prop}{c:Bool}{P0:Dn}{P:Addr->Prop}{H:Hp}{σ:St}{ρ:Aa}{a b e k:Expr}{f g:Aa->M D}{te tk:TE}{pos p2:Pos}
noncomputable def pN (K:za)(te tk:TE):TE:=λ σ H Q=>te σ H λ x H1=>tk σ H1 λ y H2=>∃a xs,x=.ref a/\y=.int (-1)/\Dg K H2 a xs/\∀p,H2 p=none->Q (.ref p) (upd H2 p (.lst xs.reverse))
theorem gC (he:PE X e te)(hk:PE X k tk):PE X (.Subscript e (.Slice none none (some k) p2) pos) (pN X.K te tk):=by
 intro pins s σ H Q I h;refine Subscript_ (Bc (he pins s σ H _ I h) λ v s1 ⟨x,H1,I1,r1,q1⟩=>?_);refine wpAny_Slice ?_;rw[evalPart_none];refine wpAny_pure ?_;refine wpAny_pure ?_;rw[evalPart_some];refine Bc (hk pins s1 σ H1 _ I1 q1) λ vk s3 ⟨y,H3,I3,r3,q3⟩=>?_;obtain⟨a,xs,rfl,rfl,hx,q⟩:=q3;cases r1;obtain⟨t,rfl⟩:=r3;have I4:Inv X pins σ H3 {s3 with heap:=s3.heap.push {cls:=.type "slice",data:=.fields #[.none,.none,.int (-1) t]} }:=I3.kept (t':=s3.toks) λ b ob q=>zj _ q;show wpAny (model X.prog X.w) X.A (subscriptTail e (.Slice none none (some k) p2) (.ref a) (.ref s3.heap.objs.size)) (EP X pins σ Q) X.xe {s3 with heap:=s3.heap.push {cls:=.type "slice",data:=.fields #[.none,.none,.int (-1) t]} };obtain⟨aa,r,ht,hz⟩:=I4.list hx;have hlen:=r.length;refine tail_any (ops:=[.ref a,.ref s3.heap.objs.size]) ht.isList.typeIs slot_list_getitem.lookup ?_ (by with_unfolding_all rfl);refine wpAny_getItem_list_slice ht.isList (Heap.IsSliceOf.new ..) .none .none (.int (-1) t) (by decide) ?_ (by rw[zh]<;>omega);rw[PySem.W.krv_pick];exact⟨.ref _,_,I4.laid (t':=s3.toks) (o:=.lst xs.reverse) (λ b ob q=>zj _ q) (zu _) ⟨by rw[List.length_reverse];exact hz,aa.reverse,0,r.reverse,zD _ rfl⟩,rfl,q _ (I4.Av.fresh (zu _))⟩
noncomputable def gD (x y:D):M D:=match x,y with | .lst ds,.int i=>if i = -1 then .ok (.lst ds.reverse) else .bad | _,_=>.bad
theorem gE (ha:DE X WX c e f)(hb:DE X WX c k g):DE X WX c (.Subscript e (.Slice none none (some k) p2) pos) (λ ρ=>(f ρ).bind λ x=>(g ρ).bind λ y=>gD x y):=by
 obtain⟨ta,a1,a2⟩:=ha;obtain⟨tb,b1,b2⟩:=hb;refine⟨_,gC a1 b1,λ P0 P σ H Q ρ E h=>Nt (r:=λ x y H2 Q=>∃a xs,x=.ref a/\y=.int (-1)/\Dg X.K H2 a xs/\∀p,H2 p=none->Q (.ref p) (upd H2 p (.lst xs.reverse))) a2 b2 ?_ E h⟩;intro P H x y v w Q ht hx hy h;unfold gD at h;split at h
 ·rename_i ds i;by_cases hi:i = -1
  ·rw[if_pos hi] at h;subst hi;cases hx with
   |lst hs hl=>exact⟨_,_,rfl,hy.int_inv,hs.Bi,λ p hn=>h _ _ (AM hn _) (.lst (.of (He hn ht)) (hl.reverse.mono (AM hn _).del))⟩
  ·rw[if_neg hi] at h;exact h.elim
 ·exact h.elim
noncomputable def BU:List D->Option (List Int)
 |[]=>some []
 | .int i::r=>(BU r).map (i::·)
 |_=>none
noncomputable def Wr:D->Option (List Int)
 | .tup ds=>BU ds
 |_=>none
noncomputable def GA:List D->Option (List (D×List Int))
 |[]=>some []
 |d::r=>(Wr d).bind λ k=>(GA r).map ((d,k)::·)
noncomputable def SH (l d:D):M D:=match l with
 | .lst ds=>(match GA ds with|some ks=>.ok (match AR ks with|none=>d|some b=>b.1)|none=>.bad)
 |_=>.bad
theorem Hj {K:za}{H:Hp}:∀ {xs:List V}{ds:List D}{ns:List Int},Ag K H xs ds->BU ds=some ns->xs=ns.map V.int
 |_,_,_,.nil,e=>by simp only[BU] at e;cases e;rfl
 |_,_,_,.cons (d:=d) h t,e=>by
  cases d with
  |int i =>
   simp only[BU] at e;cases q:BU _ with
   |none=>rw[q] at e;cases e
   |some ns =>
    rw[q] at e;cases e;rw[h.int_inv,Hj t q];rfl
  |_=>simp[BU] at e
noncomputable abbrev Alike (K:za)(H:Hp):List (Addr×List Int)->List (D×List Int)->Prop:=Paired λ p q=>p.2=q.2/\BC K H (.ref p.1) q.1
theorem Ii {K:za}{H:Hp}:∀ {xs:List V}{ds:List D}{ks:List (D×List Int)},Ag K H xs ds->GA ds=some ks->∃bs:List (Addr×List Int),xs=bs.map (λ b=>V.ref b.1)/\(∀b∈bs,Fx K H b.1 (b.2.map V.int))/\Alike K H bs ks
 |_,_,_,.nil,e=>by simp only[GA] at e;cases e;exact⟨[],rfl,by simp,.nil⟩
 |_,_,_,.cons (d:=d) h t,e=>by
  simp only[GA] at e;cases q:Wr d with
  |none=>rw[q] at e;cases e
  |some k =>
   rw[q] at e;simp only[Option.bind_some] at e;cases q2:GA _ with
   |none=>rw[q2] at e;cases e
   |some ks =>
    rw[q2] at e;cases e;obtain⟨bs,h1,h2,h3⟩:=Ii t q2;cases d with
    |tup es =>
     have h':=h;cases h with
     | @tup a xs _ hs hl =>
      simp only[Wr] at q;have e1:=Hj hl q;subst e1;refine⟨(a,k)::bs,by rw[h1];rfl,λ b hb=>?_,.cons ⟨rfl,h'⟩ h3⟩;rcases zl.mp hb with z|z
      ·subst z;exact Fx.of hs
      ·exact h2 b z
    |_=>simp[Wr] at q
theorem LB {K:za}{H:Hp}{bs:List (Addr×List Int)}{ks:List (D×List Int)}(h:Alike K H bs ks):(AR bs=none/\AR ks=none)\/∃b k,AR bs=some b/\AR ks=some k/\b.2=k.2/\BC K H (.ref b.1) k.1:=by
 unfold AR
 suffices z:∀(o:Option (Addr×List Int)) (o':Option (D×List Int)),((o=none/\o'=none)\/∃b k,o=some b/\o'=some k/\b.2=k.2/\BC K H (.ref b.1) k.1)->
  ((bs.foldl Bu o=none/\ks.foldl Bu o'=none) \/
   ∃b k,bs.foldl Bu o=some b/\ks.foldl Bu o'=some k/\b.2=k.2/\BC K H (.ref b.1) k.1) from z none none (.inl ⟨rfl,rfl⟩)
 induction h with
 |nil=>intro o o' h;exact h
 | @cons b k bs ks hh t ih =>
  intro o o' h;rw[zX,zX];refine ih _ _ ?_;rcases h with ⟨rfl,rfl⟩|⟨b',k',rfl,rfl,e1,e2⟩
  ·exact .inr ⟨b,k,rfl,rfl,hh⟩
  ·unfold Bu;dsimp only;rw[hh.1,e1];by_cases hl:HT.lexLt k.2 k'.2=true
   ·rw[if_pos hl,if_pos hl];exact .inr ⟨b,k,rfl,rfl,hh⟩
   ·rw[if_neg hl,if_neg hl];exact .inr ⟨b',k',rfl,rfl,e1,e2⟩
theorem YQ {p kp:Pos}{e2:Expr}(hc:X.calm=true)(hu:X.A.units+1<cLine)(hg:Gl X "min")(hm:X.mg "min" = none)(ha:DE X WX c e f)(hb:DE X WX c e2 g)
 (aT:starEach [e] X.env=[(false,eval e X.env)]:=by rfl) (bS:(backToKw pos (keywordEach [⟨some "default",e2,kp⟩] X.env)).all (·.1.isSome)=true:=by rfl) (mt:(backToKw pos (keywordEach [⟨some "default",e2,kp⟩] X.env)).filterMap (·.1)=([("default" : Str)]:List Str):=by rfl)
 (mx:(backToKw pos (keywordEach [⟨some "default",e2,kp⟩] X.env)).any (·.1.isNone)=false:=by rfl) (my:backTo pos (starEach [e] X.env)=(false,eval e X.env)::backTo pos (starEach [] X.env):=by rfl) (hpl:(backTo pos (starEach [e] X.env)).any (·.1)=false:=by rfl):
 DE X WX c (.Call (.Name "min" p) [e] [⟨some "default",e2,kp⟩] pos) (λ ρ=>(f ρ).bind λ x=>(g ρ).bind λ y=>SH x y):=by
 obtain⟨ta,a1,a2⟩:=ha;obtain⟨tb,b1,b2⟩:=hb;refine⟨_,YJ hc hu hg hm a1 b1 aT bS mt mx my hpl,λ P0 P σ H Q ρ E h=>Nt (r:=λ x d H2 Q=>∃(a:Addr) (bs:List (Addr×List Int)),x=.ref a/\Dg X.K H2 a (bs.map λ b=>V.ref b.1)/\(∀b∈bs,Fx X.K H2 b.1 (b.2.map V.int))/\Q (match AR bs with|none=>d|some b=>.ref b.1) H2) a2 b2 ?_ E h⟩;intro P H x y v w Q ht hx hy h;unfold SH at h;split at h
 ·rename_i ds;split at h
  ·rename_i ks e1;cases hx with
   | @lst a xs _ hs hl =>
    obtain⟨bs,rfl,h2,h3⟩:=Ii hl e1;refine⟨a,bs,rfl,hs.Bi,λ b hb=>(h2 b hb).Bi,?_⟩;rcases LB h3 with ⟨q1,q2⟩|⟨b,k,q1,q2,_,q3⟩
    ·rw[q1];rw[q2] at h;exact h _ H (Ae.refl H) hy
    ·rw[q1];rw[q2] at h;exact h _ H (Ae.refl H) q3
  ·exact h.elim
 ·exact h.elim
end
theorem AZ {A:Around}{k:Nat}(hr:By k A)(n:Nat)(hn:n<=64):A.units+n<cLine:=by have:=hr.units;omega
structure B5 (K:za)(mg:Str->Option Value)(x:Str)(st:Stmt)(ps:List Str):Prop where
 ex:∃f fd,Vr K x x st f fd/\mg x=some (.ref f)/\Binds K fd ps []
theorem Ws (ds:List D)(n:Nat):cR none (some (n:Int)) (.lst ds)=.ok (.lst (ds.take n)):=by
 unfold cR;dsimp only;rw[HT.Pz,HT.KY,List.drop_zero,Nat.sub_zero];congr 2;rw[Nat.min_def];split
 ·rfl
 ·rw[yx (zu _),yx (by omega)]
theorem Bp.there {P:Program}{w:World}{H:Hp}{h:Heap}{a:Addr}{o:HO}(x:Bp P w H h a o):∃ob,h.get? a=some ob:=by
 cases o with
 |lst xs=>obtain⟨_,_,_,_,e⟩:=x;exact⟨_,e⟩
 |tup xs=>obtain⟨_,_,_,o,e,_⟩:=x;exact⟨o,e⟩
 |dK kvs|dT kvs=>obtain⟨_,_,_,_,o,_,_,e,_⟩:=x;exact⟨_,e⟩
 |set S n=>obtain⟨o,_,_,_,e,_⟩:=x;exact⟨_,e⟩
 |ins C dx fs=>obtain⟨_,_,_,e,_⟩:=x;exact⟨_,e⟩
 |own y=>obtain⟨_,e⟩:=x;exact⟨_,e⟩
 |xd fs=>obtain⟨_,⟨_,_,_,e,_⟩,_⟩:=x;exact⟨_,e⟩
 |nI lo hi=>obtain⟨_,_,_,e⟩:=x;exact⟨_,e⟩
 |TR ob u=>obtain⟨e,_⟩:=x;exact⟨_,e⟩
 |ZV ps|met f y=>exact⟨_,(show h.get? a=some _ from x)⟩
 |ext φ=>obtain⟨_,⟨_,e⟩,_⟩:=x;exact⟨_,e⟩
theorem Gd.gone {P:Program}{w:World}{H:Hp}{h:Heap}{a:Addr}(x:Gd P w H h)(e:h.get? a=none):H a=none:=by
 cases q:H a with
 |none=>rfl
 |some o=>obtain⟨ob,z⟩:=(x a o q).there;rw[e] at z;cases z
structure gF (base g:Heap)(H:Hp)(l:List Env)(ea c:Addr)(h:Heap):Prop where
 vB:∃a0,Heap.FlyingW base l ea (.ref c) a0 h
 new:g.get? ea=none
 un:H ea=none
 tr:∀oe vs T,h.get? ea=some oe->oe.data=.fields vs->vs[1]?=some (.ref T)->H T=none/\g.get? T=none
noncomputable def RK (P:Program)(w:World)(base:Heap):Su:=λ outer H s E ev s'=>∃(ea c:Addr) (H':Hp),ev=.ref ea/\s'.os=s.os/\AllBare s'.gens/\Un (Kl outer) [] H H' s.heap s'.heap/\Gd P w H' s'.heap/\gF base s.heap H' outer ea c s'.heap/\E (.ref c) none H'
section
variable {P:Program}{w:World}{K:za}{mg:Str->Option Value}{base:Heap}{N:List Str}{qual:Str}{scope:Scope}{f:Addr}{cd:Value}{A:Around}{outer:List Env}{s:Shared}{H:Hp}{E:XK}
noncomputable abbrev SI (P:Program)(w:World)(K:za)(mg:Str->Option Value)(base:Heap)(N:List Str)(qual:Str)(scope:Scope)(f:Addr)(cd:Value)(A:Around)(outer:List Env)(s:Shared)(H:Hp)(E:XK):Cx:=
 KH (RK P w base) P w K mg base N qual scope f cd A outer s H E
theorem cT {pins:List (Addr×Obj)}{σ:St}{H1:Hp}{s1:Shared}{h' B:Heap}{ea c:Addr}{a0:Value}{hid:List Addr}(J:Inv (SI P w K mg base N qual scope f cd A outer s H E) pins σ H1 s1)
 (hB:∀b o,s1.heap.get? b=some o->b∉Kl (envOfC qual scope s.heap.objs.size f cd::outer)->b∉hid->(H1 b≠none\/∃o',s.heap.get? b=some o')->B.get? b=some o) (tK:base.StaysIn B)
 (hh:∀b∈hid,H1 b=none/\s.heap.get? b=none) (hT:∀b,B.get? b=none->b∉Kl (envOfC qual scope s.heap.objs.size f cd::outer)->H1 b=none/\s.heap.get? b=none)
 (tL:s.heap.get? ea=none) (na:H1 ea=none) (F:Heap.FlyingW B outer ea (.ref c) a0 h') (cu:s1.heap.UpToSlots h') (q:E (.ref c) none H1):
 RK P w base outer H s E (.ref ea) {s1 with heap:=h' }:=by
 have nb:∀b∈Kl outer,∃o,s1.heap.get? b=some o/\∀vs,o.data≠.fields vs:=λ b hb=>(J.IQ.mem hb).2;have ip:∀b o,s.heap.get? b=some o->b≠s.heap.objs.size:=λ b o e=>zJ (zt e);have ZW:∀b,b∈Kl (envOfC qual scope s.heap.objs.size f cd::outer)->b=s.heap.objs.size\/b∈Kl outer:=λ b hb=>by
  have a5:b∈s.heap.objs.size::Kl outer:=hb;exact zl.mp a5
 have U:Un (Kl outer) [] H H1 s.heap s1.heap:=J.base;have ce:∀b o,s.heap.get? b=some o->b∉hid:=λ b o e hb=>by rw[(hh b hb).2] at e;cases e
 have iq:∀b o,H1 b≠none->s1.heap.get? b=some o->h'.get? b=some o:=λ b o hn e=>by
  refine F.1 b o (hB b o e (λ hb=>?_) (λ hb=>hn (hh b hb).1) (.inl hn));exact hn (J.Of b hb)
 refine⟨ea,c,H1,rfl,J.os,J.bare,⟨λ b o e n hb hx=>?_,λ b o e n hb hx=>?_,U.free,λ b o e hx=>?_,U.MK,U.Le,U.ML⟩,λ b ob e=>?_,⟨⟨a0,?_⟩,tL,na,λ oe vs T h1 h2 h3=>?_⟩,q⟩
 ·refine F.1 b o (hB b o (U.keep b o e n hb hx) (λ z=>?_) (ce b o e) (.inr ⟨o,e⟩));rcases ZW b z with z|z
  ·exact ip b o e z
  ·exact hb z
 ·obtain⟨sl,e1⟩:=U.slot b o e n hb hx;obtain⟨o2,e2,nf⟩:=nb b hb;rw[e1] at e2;obtain⟨jr,e3⟩:=cu b _ e1 (by cases e2;exact nf);exact⟨jr,e3⟩
 ·obtain⟨o',e1⟩:=U.there b o e hx;by_cases hb:b∈Kl outer
  ·obtain⟨o2,e2,nf⟩:=nb b hb;obtain⟨jr,e3⟩:=cu b _ e2 nf;exact⟨_,e3⟩
  ·refine⟨o',F.1 b o' (hB b o' e1 (λ z=>?_) (ce b o e) (.inr ⟨o,e⟩))⟩;rcases ZW b z with z|z
   ·exact ip b o e z
   ·exact hb z
 ·refine (J.Av b ob e).Od (λ x v hx q=>iq x v ?_ q) (λ _ q=>q) λ _ _ q=>q;rcases hx with rfl|hx
  ·rw[e];intro z;cases z
  ·rw[hx];intro z;cases z
 ·exact PySem.W.flyingW_base tK F
 ·obtain⟨_,_,ff,vC,bN,T',oT,ts,k1,k2,k3,k4,k5,k6,k7,k8,k9⟩:=F;rw[show ({s1 with heap:=h' }:Shared).heap.get? ea=h'.get? ea from rfl,k1] at h1;cases h1;rw[k3] at h2;cases h2;rw[k4] at h3;cases h3;refine hT T k5 λ hb=>?_;rcases ZW T hb with z|z
  ·obtain⟨m,⟨oL,es,ep,dk,nc,_⟩,_⟩:=J.loc;obtain⟨sl,e3⟩:=cu s.heap.objs.size oL dk λ vs zz=>by rw[nc] at zz;cases zz
   rw[<-z,k7] at e3;cases e3;rw[show oL.data=_ from k8] at nc;cases nc
  ·obtain⟨o2,e2,nf⟩:=nb T z;obtain⟨sl,e3⟩:=cu T o2 e2 nf;rw[k7] at e3;cases e3;exact nf ts k8
theorem Wt {l:List Env}:∀env∈l,∀a,env.frame=some a->a∈Kl l:=λ env he a ha=>List.mem_filterMap.mpr ⟨env,he,ha⟩
theorem YR {pins:List (Addr×Obj)}{σ:St}{H1:Hp}{s2:Shared}{h1:Heap}{ea C:Addr}{vs:List Value}(J:Inv (SI P w K mg base N qual scope f cd A outer s H E) pins σ H1 s2)(hx:Heap.MadeExcOf s2.heap h1 ea (.ref C) vs)(q:E (.ref C) none H1):
 (SI P w K mg base N qual scope f cd A outer s H E).xe (.ref ea) {s2 with heap:=h1}:=by
 have J1:Inv (SI P w K mg base N qual scope f cd A outer s H E) pins σ H1 {s2 with heap:=h1}:=J.kept (t':=s2.toks) hx.keeps;have fr:=J.stack;have dL:=Wt (l:=envOfC qual scope s.heap.objs.size f cd::outer);refine wpAny_leaves_madeW (base:=PySem.W.hideAll s2.heap (Kl (envOfC qual scope s.heap.objs.size f cd::outer))) (outer:=outer) (L:=s.heap.objs.size) J.ok.frames rfl (λ b o e=>PySem.W.of_hideAll _ e) (PySem.W.funFrames_hide fr dL) hx λ h' t F ht vD cu=>?_;have cf:∀b,s2.heap.get? b=none->H1 b=none/\s.heap.get? b=none:=λ b e=>by
  refine⟨J.Av.gone e,?_⟩;cases q:s.heap.get? b with
  |none=>rfl
  |some o=>obtain⟨o',z⟩:=J.base.there b o q (by simp[KH]);rw[e] at z;cases z
 refine cT (B:=PySem.W.hideAll s2.heap (Kl (envOfC qual scope s.heap.objs.size f cd::outer))) (hid:=[]) J1 (λ b o e hb _ ng=>?_) (λ b o e=>?_) (λ b z=>by cases z) (λ b e hb=>?_) (cf ea hx.new).2 (cf ea hx.new).1 F cu q
 ·have jw:∃o2,s2.heap.get? b=some o2:=by
   rcases ng with z|⟨o',z⟩
   ·cases q2:H1 b with
    |none=>exact absurd q2 z
    |some u=>exact (J.Av b u q2).there
   ·exact J.base.there b o' z (by simp[KH])
  obtain⟨o2,e2⟩:=jw;have e3:=hx.keeps b o2 e2;rw[show ({s2 with heap:=h1}:Shared).heap.get? b=h1.get? b from rfl,e3] at e;cases e;exact yB _ e2 hb
 ·refine yB _ (J.bk b o e) λ hb=>?_;have z:base.get? b=none:=(fr.mem hb).1;rw[show base.get? b=some o from e] at z;cases z
 ·refine cf b ?_;cases q2:s2.heap.get? b with
  |none=>rfl
  |some o=>rw[yB _ q2 hb] at e;cases e
theorem YS:Gr (RK P w base) (SI P w K mg base N qual scope f cd A outer s H E) E:=by
 intro pins σ H0 s0 ev s1 I h;obtain⟨ea,c,H1,rfl,tM,tN,U,Av,⟨⟨a0,F⟩,bf,j6,tO⟩,q⟩:=h;have J:Inv (SI P w K mg base N qual scope f cd A outer s H E) pins σ H1 s1:=I.ZX (ch:=[]) tM U Av tN λ b hb=>by cases hb
 obtain⟨f1,f2,f3,oe,vs,T,oT,ts,k1,k2,k3,k4,k5,k6,k7,k8,k9⟩:=F;have hT:=tO oe vs T k1 k3 k4;have fr:=J.stack;have entry:∀b,s0.heap.get? b=none->s.heap.get? b=none:=λ b e=>by
  cases q:s.heap.get? b with
  |none=>rfl
  |some o=>obtain⟨o',z⟩:=I.base.there b o q (by simp[KH]);rw[e] at z;cases z
 have dL:∀env∈(envOfC qual scope s.heap.objs.size f cd::outer),∀a,env.frame=some a->a∈Kl (envOfC qual scope s.heap.objs.size f cd::outer)++[ea,T]:=λ env he a ha=>zO _ (Wt env he a ha);have FB:Heap.FlyingW (PySem.W.hideAll s1.heap (Kl (envOfC qual scope s.heap.objs.size f cd::outer)++[ea,T])) (envOfC qual scope s.heap.objs.size f cd::outer) ea (.ref c) a0 s1.heap:=
  ⟨λ b o e=>PySem.W.of_hideAll _ e,PySem.W.hideAll_none _ (by simp),PySem.W.funFrames_hide fr dL,oe,vs,T,oT,ts,k1,k2,k3,k4,PySem.W.hideAll_none _ (by simp),k6,k7,k8,k9⟩
 refine wpAny_leaves_onW (outer:=outer) (L:=s.heap.objs.size) J.ok.frames rfl FB λ h' F' cu=>?_;have ir:∀b,s1.heap.get? b=none->H1 b=none/\s.heap.get? b=none:=λ b e=>by
  refine⟨J.Av.gone e,?_⟩;cases q:s.heap.get? b with
  |none=>rfl
  |some o=>obtain⟨o',z⟩:=J.base.there b o q (by simp[KH]);rw[e] at z;cases z
 have hid:∀b∈[ea,T],H1 b=none/\s.heap.get? b=none:=λ b hb=>by
  rcases zl.mp hb with z|z
  ·rw[z];exact⟨j6,entry ea bf⟩
  ·rw[zw.mp z];exact⟨hT.1,entry T hT.2⟩
 refine cT (hid:=[ea,T]) J (λ b o e hb gj _=>yB _ e λ z=>(zK.mp z).elim hb gj) (λ b o e=>?_) hid (λ b e hb=>?_) (entry ea bf) j6 F' cu q
 ·refine yB _ (J.bk b o e) λ hb=>?_;rcases zK.mp hb with hb|hb
  ·have z:base.get? b=none:=(fr.mem hb).1;rw[show base.get? b=some o from e] at z;cases z
  ·rcases zl.mp hb with z|z
   ·rw[z] at e;rw[show base.get? ea=some o from e] at f2;cases f2
   ·rw[zw.mp z] at e;rw[show base.get? T=some o from e] at k5;cases k5
 ·by_cases gj:b∈[ea,T]
  ·exact hid b gj
  ·refine ir b ?_;cases q2:s1.heap.get? b with
   |none=>rfl
   |some o=>rw[yB _ q2 λ z=>(zK.mp z).elim hb gj] at e;cases e
end
structure XCall (X:Cx)(E:XK):Prop where
 call:Gr (RK X.prog X.w X.base) X E
 own:PassesOwn (model X.prog X.w) X.A X.env X.xe
structure nR (X:Cx)(E:XK):Prop extends XCall X E where
 made:∀pins σ H s h' ea C vs,Inv X pins σ H s->Heap.MadeExcOf s.heap h' ea (.ref C) vs->E (.ref C) none H->X.xe (.ref ea) {s with heap:=h' }
theorem Ab {P:Program}{w:World}{K:za}{mg:Str->Option Value}{base:Heap}{N:List Str}{qual:Str}{scope:Scope}{f:Addr}{cd:Value}{A:Around}{outer:List Env}{s:Shared}{H:Hp}{E:XK}:
 nR (SI P w K mg base N qual scope f cd A outer s H E) E:=⟨⟨YS,PassesOwn.leaving⟩,λ _ _ _ _ _ _ _ _ J hx q=>YR J hx q⟩
theorem EB {X:Cx}(h:X.xe=λ _ _=>False):nR X E0:=⟨⟨λ _ _ _ _ _ _ _ h=>by obtain⟨_,_,_,_,_,_,_,_,_,q⟩:=h;exact q.elim,by rw[h];exact PassesOwn.never⟩,λ _ _ _ _ _ _ _ _ _ _ q=>q.elim⟩
def D7 (K:za)(E:XK):Str->Hp->Prop:=λ x H=>∃c,zc K mainGlobals x=some (some (.ref c))/\E (.ref c) none H
section
variable {X:Cx}{E:XK}{WX:Str->Hp->Prop}{c:Bool}{e:Expr}{es:List Expr}{fs:Aa->M (List D)}{f:Aa->M D}{ft:Aa->M Bool}{pos:Pos}
theorem YT {K:za}{h₀:Heap}{C:Addr}{r9:List Value}{newId:String}(X:K.In h₀)(q:yG K C r9 newId=true):
 ∃bm N nm q bs hdct sn sub ab col dd k0 k1 k2 k3 k5 mN,h₀.get? C=some (excClassObj nm q C N bs bm hdct sn sub ab col dd k0 k1 k2 k3 k5 newId)/\h₀.Ns N mN/\mN "__init__" = none/\OwnTail h₀ r9 bm:=by
 unfold yG at q;split at q
 ·rename_i dd cd sl ho;split at q
  ·rename_i C' bm k0 k1 k2 k3 n k5 hm hs;simp only[zW,beq_iff_eq,Bool.not_eq_true'] at q;obtain⟨⟨⟨⟨⟨rfl,rfl⟩,iu⟩,ht⟩,Av⟩,j7⟩:=q;obtain⟨nm,bs,mro,ns,qn,hd,sn,sub,ab,col,del⟩:=cd;dsimp only at hm iu Av j7;subst hm iu;have cu:sl=#[k0,k1,k2,k3,some (.builtin n),k5]:=by
    obtain⟨l⟩:=sl;simp only at hs;rw[hs]
   subst cu;exact⟨bm,ns,nm,qn,bs,hd,sn,sub,ab,col,dd,k0,k1,k2,k3,k5,_,X _ _ ho,.of_isNs (PySem.W.isNs_of_in X Av),PySem.W.nsMap_none_of_in X Av j7,PySem.W.tail_of_in X ht⟩
  ·cases q
 ·cases q
theorem Wu {x:Str}{np ac:Pos}{C:Addr}{B newId ee:String}{bm:List Value}(xo:nR X E)(hc:X.calm=true)(FB:ExcBaseFacts B newId ee bm)(c5:zc X.K mainGlobals x=some (some (.ref C)))(hq:yG X.K C bm newId=true)(hg:Gl X x)(hm:X.mg x=some (.ref C))
 (ha:DE X (D7 X.K E) c e f) (aU:(x==("__debug__" : Str))=false:=by decide) (he:starEach [e] X.env=[(false,eval e X.env)]:=by rfl) (ar:(backTo ac (starEach [e] X.env)).any (·.1)=false:=by rfl):
 DS X (D7 X.K E) (.Raise (some (.Call (.Name x np) [e] [] ac)) none pos) (λ ρ=>(f ρ).bind λ _=>.ex x):=by
 obtain⟨ta,a1,a2⟩:=ha;refine⟨λ Z σ H=>ta σ H λ y H1=>(([y]:List V).length=1/\E (.ref C) none H1),?_,λ P0 P σ H Z ρ E h=>?_⟩
 ·intro pins s σ H D I h;obtain⟨tl,N,nm,q,bs,hdct,sn,sub,ab,col,dd,k0,k1,k2,k3,k5,mN,hC,hN,j7,T⟩:=YT I.mod.jR hq;refine wpAny_Raise_call_subT (C:=C) (nm:=nm) (q:=q) (N:=N) (bs:=bs) (bm:=tl) (hdct:=hdct) (sn:=sn) (sub:=sub) (ab:=ab) (col:=col) (dd:=dd) (k0:=k0) (k1:=k1) (k2:=k2) (k3:=k3) (k5:=k5)
   FB (mN:=mN) (T.hasType FB.hasBase) (I.ok.hd hc) ar j7 (Og I hg hm ⟨rfl,?_⟩ aU)
  rw[he];have pa:=(Bf a1 BZ he) ac pins s σ H (λ vs H1=>vs.length=1/\E (.ref C) none H1) I ?_
  ·rw[he] at pa;refine Calls.evalArgs_plain (Bc pa λ vs s2 ⟨xs,H2,I2,r2,q2⟩=>⟨rfl,?_,I2.bk _ _ hC,hN.keeps I2.bk,T.keeps I2.bk,λ h' ea hx=>xo.made pins σ H2 s2 h' ea C _ I2 hx q2.2⟩);rw[<-r2.length,q2.1];exact yi (AG (by decide))
  ·exact h
 ·dsimp only at h;refine a2 P0 P σ H _ ρ E ?_;cases q:f ρ with
  |bad=>rw[q] at h;exact h
  |ex x=>rw[q] at h;exact λ H' s=>h H' P (E.tr s)
  |ok d =>
   rw[q] at h;intro v H1 s1 hv;obtain⟨c',h1,h2⟩:=h H1 P (E.tr s1);rw[c5] at h1;cases h1;exact⟨rfl,h2⟩
end
section
variable {X:Cx}{WX:Str->Hp->Prop}{c:Bool}{a b e:Expr}{f g:Aa->M D}{pos p:Pos}
noncomputable def rK (x y:D):M D:=match x,y with
 | .int i,.int j=>.ok (.int (i+j))
 | .lst ds,.lst es=>if ds.length+es.length<=1000 then .ok (.lst (ds++es)) else .bad
 |_,_=>.bad
noncomputable def nS (neg:Bool)(x y:D):M D:=match x,y with
 | .int i,.lst ds=>(match BU ds with|some ns=>.ok (.bl (if neg then !ns.contains i else ns.contains i))|none=>.bad)
 |_,_=>.bad
theorem Wv (i:Int)(ns:List Int):nM (.int i) (ns.map V.int)=ns.contains i:=by
 unfold nM;induction ns with
 |nil=>rfl
 |cons n r ih =>
  rw[zg,xg,ih,List.contains_cons];congr 1;show (n==i)=(i==n);rw[yV,beq_iff_eq,beq_iff_eq];exact eq_comm
theorem Ui (ns:List Int):(ns.map V.int).all IU=true:=by
 induction ns with
 |nil=>rfl
 |cons n r ih=>rw[zg,List.all_cons,ih];rfl
theorem GB {neg:Bool}:SF X.K WX (nN X.K neg) (nS neg):=by
 intro P H x y v w Q ht hx hy h;unfold nS at h;split at h
 ·rename_i i ds;split at h
  ·rename_i ns hn;cases hx;cases hy with
   |lst h1 h2 =>
    have e:=Hj h2 hn;subst e;refine⟨_,_,rfl,.inl h1.Bi,rfl,Ui ns,?_⟩;rw[Wv];exact h _ H (Ae.refl H) (.bl _)
  ·exact h.elim
 ·exact h.elim
end
structure ClsAt (K:za)(mg:Str->Option Value)(x:Str):Prop where
 ex:∃C,zc K mainGlobals x=some (some (.ref C))/\mg x=some (.ref C)/\yG K C [.type "ValueError",.type "Exception",.type "BaseException",.type "object"] "ValueError.__new__" = true
noncomputable def one (x:Str)(b:Bool):Str->Option Bool:=λ y=>if y=x then some b else none
section
variable {X:Cx}{E:XK}{WX:Str->Hp->Prop}{c:Bool}{e:Expr}{f:Aa->M D}{pos p:Pos}
theorem JK {x:Str}{np ac:Pos}(T:ClsAt X.K X.mg x)(xo:nR X E)(hc:X.calm=true)(hg:Gl X x)(ha:DE X (D7 X.K E) c e f)(aU:(x==("__debug__" : Str))=false:=by decide)(he:starEach [e] X.env=[(false,eval e X.env)]:=by rfl)(ar:(backTo ac (starEach [e] X.env)).any (·.1)=false:=by rfl):
 DS X (D7 X.K E) (.Raise (some (.Call (.Name x np) [e] [] ac)) none pos) (λ ρ=>(f ρ).bind λ _=>.ex x):=by
 obtain⟨C,h1,h2,h3⟩:=T.ex;exact Wu xo hc PySem.F.excBase_ValueError h1 h3 hg h2 ha aU he ar
end
def Q3 (i j:Int):Prop:=(i.natAbs<2^1000/\j.natAbs<2^1000)\/VI i j
instance (i j:Int):Decidable (Q3 i j):=by unfold Q3;infer_instance
theorem Ny {i:Int}(h:i.natAbs<2^1000):yj i<=2^20:=by
 unfold yj;split
 ·exact zT _
 ·rename_i z;have h0:i.natAbs≠0:=λ q=>z (by rw[Int.natAbs_eq_zero.mp q];rfl);have:=(Nat.log2_lt h0).mpr h;have h3:(1000:Nat)<=2^20:=by decide
  exact yn this h3
theorem Q3.ok {i j:Int}(h:Q3 i j):IntMulOk i j:=by
 rcases h with ⟨h1,h2⟩|h
 ·exact IntMulOk.of_bits (Ny h1) (Ny h2)
 ·exact h.ok
theorem J6 {gt:D->Aa->M Aa}{ft:Aa->M Bool}{fe:Aa->M D}{ρ:Aa}(p:D->Bool)(f:D->D):∀(ds:List D),(∀d∈ds,∃ρ1,gt d ρ=.ok ρ1/\ft ρ1=.ok (p d)/\(p d=true->fe ρ1=.ok (f d)))->Bd gt ft fe ds ρ=.ok ((ds.filter p).map f)
 |[],_=>rfl
 |d::r,h=>by
  obtain⟨ρ1,h1,h2,h3⟩:=h d zd;have ih:=J6 p f r λ d hd=>h d (ze _ hd);rw[Bd,h1];dsimp only;rw[h2];dsimp only;by_cases hp:p d=true
  ·rw[if_pos hp,h3 hp];dsimp only;rw[ih,List.filter_cons_of_pos hp];rfl
  ·rw[if_neg hp,ih,List.filter_cons_of_neg hp]
theorem LC (n:Nat):Ck 0 n=(zL n).map λ i:Nat=>D.int (i:Int):=by
 apply List.ext_getElem?;intro i;rw[zG];by_cases h:i<n
 ·have hi:i<(Ck 0 n).length:=by rw[CI];exact h
  have e:=zr hi;obtain⟨h1,_⟩:=Ih e;rw[e,h1,List.getElem?_range h,Int.zero_add];rfl
 ·rw[y4 (by rw[CI];omega),y4 (by simp;omega)];rfl
theorem CK (ns:List Int):BU (ns.map D.int)=some ns:=by
 induction ns with
 |nil=>rfl
 |cons n r ih=>rw[zg,BU,ih];rfl
theorem Ww (ds:List D)(n:Nat):cR (some (n:Int)) none (.lst ds)=.ok (.lst (ds.drop n)):=by
 unfold cR;dsimp only;rw[HT.Pz,HT.KY];congr 2;by_cases h:n<=ds.length
 ·rw[Nat.min_eq_left h,yx (by rw[xl];exact zu _)]
 ·rw[Nat.min_eq_right (by omega),List.drop_of_length_le (zu _),List.drop_of_length_le (by omega),List.take_nil]
def Pl (n:Nat)(d:D):Prop:=IK d<=n/\AB d=true
theorem OD {n:Nat}:∀ {ds:List D},(∀d∈ds,IK d<=n)->KJ ds<=n
 |[],_=>by rw[KJ];exact zT _
 |d::r,h=>by
  rw[KJ];exact Nat.max_le.mpr ⟨h d zd,OD λ d hd=>h d (ze _ hd)⟩
theorem OE:∀ {ds:List D},(∀d∈ds,AB d=true)->Lr ds=true
 |[],_=>by rw[Lr]
 |d::r,h=>by
  rw[Lr,h d zd,OE λ d hd=>h d (ze _ hd)];rfl
theorem DY {n:Nat}(i:Int):Pl n (.int i):=⟨by rw[IK];exact zT _;all_goals simp,by rw[AB];all_goals simp⟩
theorem gH {n:Nat}:Pl n .Az:=⟨by rw[IK];exact zT _;all_goals simp,by rw[AB];all_goals simp⟩
theorem Wx {n:Nat}{ds:List D}(h:∀d∈ds,Pl n d):Pl (n+1) (.tup ds):=
 ⟨by rw[IK];exact Nat.succ_le_succ (OD λ d hd=>(h d hd).1),by rw[AB];exact OE λ d hd=>(h d hd).2⟩
theorem gI {n:Nat}{ds:List D}(h:∀d∈ds,Pl n d):Pl (n+1) (.lst ds):=
 ⟨by rw[IK];exact Nat.succ_le_succ (OD λ d hd=>(h d hd).1),by rw[AB];exact OE λ d hd=>(h d hd).2⟩
theorem SJ {n:Nat}(ns:List Int):Pl (n+1) (.lst (ns.map D.int)):=gI λ d hd=>by
 obtain⟨i,_,rfl⟩:=zP.mp hd;exact DY i
theorem Wy {n:Nat}:∀d∈([]:List D),Pl n d:=λ d h=>by cases h
theorem L4 {n:Nat}{d:D}{ds:List D}(h:Pl n d)(t:∀d∈ds,Pl n d):∀e∈d::ds,Pl n e:=λ e he=>by
 rcases zl.mp he with rfl|he
 ·exact h
 ·exact t e he
theorem OF {n:Nat}{x y:D}(h:Pl n x)(k:Pl n y):Wf n x y=.ok (.bl (Ao x y)):=by
 unfold Wf;rw[if_pos ⟨h.1,h.2,k.2⟩]
theorem RL {n:Nat}{x y:D}(h:Pl n x)(k:Pl n y):Vt n x y=.ok (.bl (!Ao x y)):=by
 unfold Vt;rw[if_pos ⟨h.1,h.2,k.2⟩]
theorem LD {n:Nat}{x:D}(h:Pl n x):Vt n x x=.ok (.bl false):=by rw[RL h h,IX];rfl
theorem Nz {gt:D->Aa->M Aa}{ft:Aa->M Bool}{fe:Aa->M D}{ρ:Aa}(f:D->D)(ds:List D)(h:∀d∈ds,∃ρ1,gt d ρ=.ok ρ1/\ft ρ1=.ok true/\fe ρ1=.ok (f d)):Bd gt ft fe ds ρ=.ok (ds.map f):=by
 rw[J6 (λ _=>true) f ds λ d hd=>by
  obtain⟨ρ1,h1,h2,h3⟩:=h d hd;exact⟨ρ1,h1,h2,λ _=>h3⟩]
 rw[List.filter_eq_self.mpr λ _ _=>rfl]
theorem YU (ds:List D)(a b:Nat):cR (some (a:Int)) (some (b:Int)) (.lst ds)=.ok (.lst ((ds.drop a).take (b-a))):=by
 unfold cR;dsimp only;rw[HT.KY,HT.KY];congr 2;by_cases h:a<=ds.length
 ·rw[Nat.min_eq_left h];by_cases h2:b<=ds.length
  ·rw[Nat.min_eq_left h2]
  ·rw[Nat.min_eq_right (by omega),yx (by rw[xl];exact zu _),yx (by rw[xl];omega)]
 ·rw[Nat.min_eq_right (show ds.length<=a by omega),List.drop_of_length_le (zu _),List.drop_of_length_le (show ds.length<=a by omega),List.take_nil,List.take_nil]
section
variable {X:Cx}{WX:Str->Hp->Prop}{c:Bool}{P0:Dn}{P:Addr->Prop}{H:Hp}{σ:St}{ρ:Aa}{a b e:Expr}{f g:Aa->M D}{ft gt:Aa->M Bool}{pos:Pos}{st:Stmt}{rest:List Stmt}{g1 g2:Aa->M Out}
theorem Q4 {K:za}{H:Hp}{v:V}{d:D}(h:BC K H v d):∀n:Nat,Ag K H (zA n v) (zA n d)
 |0=>.nil
 |n+1=>by rw[yz,yz];exact .cons h (Q4 h n)
theorem Q5 {K:za}{H:Hp}{v:V}{d:D}(h:BC K H v d):∀ {vs:List V}{ds:List D}(n:Nat),Ag K H vs ds->Ag K H (vs.set n v) (ds.set n d)
 |_,_,_,.nil=>.nil
 |_,_,0,.cons _ t=>.cons h t
 |_,_,n+1,.cons a t=>.cons a (Q5 h n t)
noncomputable def tP (i:Nat)(ρ:Aa)(d k:D):M Out:=match k with
 | .int j=>if 0<=j/\j.toNat<=1000 then .ok (.next (ρ.set i (some (.own (zA j.toNat d))))) else .bad
 |_=>.bad
theorem NA {α:Type}(v:α):∀n:Nat,(zA n [v]).flatten=zA n v
 |0=>rfl
 |n+1=>by rw[yz,List.flatten_cons,NA v n];rfl
noncomputable def gJ (i:Nat)(ρ:Aa)(ds:List D)(d k:D):M Out:=match k with
 | .int j=>(match Y2 ds.length j with|some n=>.ok (.next (ρ.set i (some (.own (ds.set n d)))))|none=>.bad)
 |_=>.bad
noncomputable def YV (i:Nat)(ρ:Aa)(m:M D)(d:D):M Out:=match ρ[i]? with
 |some (some (.own ds))=>m.bind (gJ i ρ ds d)
 |_=>.bad
theorem Wz (i:Nat){x:Str}{p1 aE:Pos}(hv:PE X (.Name x p1) (Pq i))(ha:DE X WX true a f)(hk:DE X WX true b g)
 (hs:swapsWithSole [.Subscript (.Name x p1) b aE] a pos.line X.env=pure false:=by rfl) (hw:swappedStores [.Subscript (.Name x p1) b aE] a X.env=pure none:=by rfl) (h1:(assignEach [.Subscript (.Name x p1) b aE] X.env).map (·.2)=[assign (.Subscript (.Name x p1) b aE) X.env]:=by rfl)
 (nh:∀v,assign (.Subscript (.Name x p1) b aE) X.env v=(do
  let ov <-holding [v] (eval (.Name x p1) X.env);let iv <-holding [v,ov] (eval b X.env)
  standAt aE
  holding [v,ov,iv] (setItem ov iv v)
  release [v,ov,iv] []):=by intro _;rfl):
 DS X WX (.Assign [.Subscript (.Name x p1) b aE] a pos) (λ ρ=>(f ρ).bind (YV i ρ (g ρ))):=by
 obtain⟨ta,a1,a2⟩:=ha;obtain⟨tb,b1,b2⟩:=hk;refine⟨_,eO a1 (eN hv b1 set_list nh) hs hw h1,λ P0 P σ H Z ρ E h=>?_⟩;dsimp only at h;refine a2 P0 P σ H _ ρ E ?_;cases q:f ρ with
 |bad=>rw[q] at h;exact h
 |ex x=>rw[q] at h;exact λ H' s=>h H' P (E.tr s)
 |ok d =>
  rw[q] at h;simp only[M.A6] at h;intro v H1 s1 hv;have E1:=E.same s1;unfold YV at h;split at h
  ·rename_i ds e1;obtain⟨p,xs,h1,h2,h3,h4,h5⟩:=E1.own i ds e1;refine⟨_,h1,b2 P0 P σ H1 _ ρ E1 ?_⟩;cases q2:g ρ with
   |bad=>rw[q2] at h;exact h.elim
   |ex x=>rw[q2] at h;exact λ H' s2=>h H' P ((E.tr s1).trans (E1.tr s2))
   |ok k =>
    rw[q2] at h;simp only[M.A6] at h;unfold gJ at h;intro w H2 s2 hw;split at h
    ·rename_i j;cases hw;split at h
     ·rename_i n en;have E2:=E1.same s2;refine⟨p,xs,j,n,rfl,rfl,s2 _ _ h2,by rw[h5.length];exact en,?_⟩;obtain⟨E3,t3⟩:=E2.mut e1 h1 h3 h4 (Q5 (hv.mono s2.del) n (h5.mono s2.del));exact h _ _ _ ((E.tr s1).trans ((E1.tr s2).trans t3)) E3
     ·exact h.elim
    ·exact h.elim
  ·exact h.elim
noncomputable def Ap (c:Aa->M Bool)(b:Aa->M Out):Nat->Aa->M Out
 |0,_=>.bad
 |n+1,ρ=>match c ρ with
  | .ok true=>(match b ρ with
   | .ok (.next ρ')| .ok (.cont ρ')=>Ap c b n ρ'
   | .ok (.brk ρ')=>.ok (.next ρ')
   |r=>r)
  | .ok false=>.ok (.next ρ)
  | .ex x=>.ex x
  | .bad=>.bad
noncomputable def Kq (c:Aa->M Bool)(b:Aa->M Out)(ρ:Aa):M Out:=
 @dite _ (∃n,Ap c b n ρ≠.bad) (xq _) (λ h=>Ap c b (zm h) ρ) (λ _=>.bad)
theorem Ca {c:Aa->M Bool}{b:Aa->M Out}:∀ {n:Nat}{ρ:Aa},Ap c b n ρ≠.bad->∀m,Ap c b (n+m) ρ=Ap c b n ρ
 |0,ρ,h,m=>(h rfl).elim
 |n+1,ρ,h,m=>by
  rw[show n+1+m=(n+m)+1 by omega];rw[Ap] at h;rw[Ap,Ap];cases q:c ρ with
  |bad|ex x=>rfl
  |ok k =>
   rw[q] at h;cases k with
   |false=>rfl
   |true =>
    dsimp only at h ⊢;cases q2:b ρ with
    |bad|ex x=>rfl
    |ok o =>
     rw[q2] at h;cases o with
     |next ρ'=>dsimp only at h ⊢;exact Ca h m
     |cont ρ'=>dsimp only at h ⊢;exact Ca h m
     |brk ρ'=>rfl
     |ret d|Cg d|EQ d ρ2=>rfl
theorem WA {c:Aa->M Bool}{b:Aa->M Out}{n:Nat}{ρ:Aa}(h:Ap c b n ρ≠.bad):Kq c b ρ=Ap c b n ρ:=by
 unfold Kq;have hx:∃n,Ap c b n ρ≠.bad:=⟨n,h⟩;rw[dif_pos hx];have hc:=zb hx;have e1:=Ca h (zm hx);have e2:=Ca hc n;rw[Nat.add_comm] at e2;rw[<-e1,e2]
theorem Uj {c:Aa->M Bool}{b:Aa->M Out}{ρ:Aa}(h:Kq c b ρ≠.bad):∃n,Ap c b n ρ≠.bad/\Kq c b ρ=Ap c b n ρ:=by
 by_cases hx:∃n,Ap c b n ρ≠.bad
 ·obtain⟨n,hn⟩:=hx;exact⟨n,hn,WA hn⟩
 ·exact (h (by unfold Kq;rw[dif_neg hx])).elim
theorem mB {K:za}{Z:Ends}{m:M Out}(h:gS K WX P0 P H Z m):m≠.bad:=λ e=>by rw[e] at h;exact h
theorem LF {body:List Stmt}(hp:PassesOwn (model X.prog X.w) X.A X.env X.xe)(hc:DT X WX a ft)(hb:R9 X WX body g1):DS X WX (.While a body [] pos) (Kq ft g1):=by
 obtain⟨tc,c1,c2⟩:=hc;obtain⟨tb,b1,b2⟩:=hb;refine⟨_,VG hp c1 b1,λ P0 P σ H Z ρ E h=>?_⟩;obtain⟨n,hn,en⟩:=Uj (mB h);rw[en] at h;refine⟨λ m σ' H'=>∃ρ' P',Ai X.K P0 P' H' σ' ρ'/\Tr P0 P H P' H'/\gS X.K WX P0 P' H' Z (Ap ft g1 m ρ'),⟨n,ρ,P,E,Tr.refl,h⟩,?_⟩;rintro m σ1 H1 ⟨ρ1,P1,E1,t1,h1⟩;cases m with
 |zero=>exact h1.elim
 |succ m =>
  rw[Ap] at h1;refine c2 P0 P1 σ1 H1 _ ρ1 E1 ?_;cases q:ft ρ1 with
  |bad=>rw[q] at h1;exact h1
  |ex x=>rw[q] at h1;exact λ H2 s2=>h1 H2 P1 (E1.tr s2)
  |ok k =>
   rw[q] at h1;intro H2 s2;have E2:=E1.same s2;cases k with
   |false =>
    rw[if_neg (by simp)];exact h1 σ1 H2 P1 (E1.tr s2) E2
   |true =>
    rw[if_pos rfl];dsimp only at h1;refine⟨λ σ' H'=>∃ρ' P',Ai X.K P0 P' H' σ' ρ'/\Tr P0 P H P' H'/\gS X.K WX P0 P' H' Z (Ap ft g1 m ρ'),λ σ' H' z=>⟨m,Nat.lt_succ_self m,z⟩,?_⟩;refine b2 P0 P1 σ1 H2 _ ρ1 E2 ?_;cases q2:g1 ρ1 with
    |bad=>rw[q2] at h1;exact h1
    |ex x=>rw[q2] at h1;exact λ H3 P3 t3=>h1 H3 P3 ((E1.tr s2).trans t3)
    |ok o =>
     rw[q2] at h1;have t2:=t1.trans (E1.tr s2);cases o with
     |next ρ'=>exact λ σ3 H3 P3 t3 E3=>⟨ρ',P3,E3,t2.trans t3,h1.tr ((E1.tr s2).trans t3)⟩
     |cont ρ'=>exact λ σ3 H3 P3 t3 E3=>⟨ρ',P3,E3,t2.trans t3,h1.tr ((E1.tr s2).trans t3)⟩
     |brk ρ'=>exact λ σ3 H3 P3 t3 E3=>h1 σ3 H3 P3 ((E1.tr s2).trans t3) E3
     |ret d=>exact λ v H3 P3 t3 hv=>h1 v H3 P3 ((E1.tr s2).trans t3) hv
     |Cg d=>exact λ v fp H3 P3 t3=>h1 v fp H3 P3 ((E1.tr s2).trans t3)
     |EQ d ρ2=>exact λ v fp σ3 H3 P3 t3=>h1 v fp σ3 H3 P3 ((E1.tr s2).trans t3)
noncomputable def rL (ds:List D):M D:=match ds with
 |[.int i]=>.ok (.int i)
 |[.bl b]=>.ok (.int (if b then 1 else 0))
 |_=>.bad
noncomputable def GC:List D->Option (List Bool)
 |[]=>some []
 | .bl b::r=>(GC r).map (b::·)
 |_=>none
theorem LG (bs:List Bool):GC (bs.map D.bl)=some bs:=by
 induction bs with
 |nil=>rfl
 |cons b r ih=>rw[zg,GC,ih];rfl
theorem LH:∀ {ds:List D}{bs:List Bool},GC ds=some bs->ds=bs.map D.bl
 |[],bs,h=>by cases h;rfl
 | .bl b::r,bs,h=>by
  rw[GC] at h;cases q:GC r with
  |none=>rw[q] at h;cases h
  |some tQ=>rw[q] at h;cases h;rw[LH q];rfl
 | .Az::r,bs,h| .int _::r,bs,h| .str _::r,bs,h| .tup _::r,bs,h| .lst _::r,bs,h| .Dl _::r,bs,h| .Bh _ _ _::r,bs,h| .ins _ _ _::r,bs,h=>by cases h
theorem LI {K:za}{H:Hp}:∀ {vs:List V}{bs:List Bool},Ag K H vs (bs.map D.bl)->vs=bs.map V.bl
 |_,[],.nil=>rfl
 |_,b::r,.cons h t=>by cases h;rw[LI t];rfl
theorem LJ:∀ {bs:List Bool}{us:List Value},Vals (bs.map V.bl) us->LSm.BoolsAre us bs
 |[],_,.nil=>.nil
 |b::r,_,.cons h t=>by cases h;exact .cons b (LJ t)
theorem LK (hc:X.calm=true):Ge X (.builtin "all") (λ xs H Q=>∃p bs,xs=[.ref p]/\Dg X.K H p (List.map V.bl bs)/\Q (.bl (bs.all id)) H):=by
 intro pins s σ H xs us Q I r h;obtain⟨p,bs,rfl,hq,q⟩:=h;obtain⟨u,rfl,rx⟩:=vals1 r;cases rx;obtain⟨aa,r',pl,hz⟩:=I.list hq;have hl:=pl.isList;have hb:=LJ r';have am:p<s.heap.objs.size:=by obtain⟨_,e,_⟩:=hl;exact zt e
 refine call_all_walk (wpAny_pyIter_list hl ?_);refine⟨s.heap.objs.size,[s.heap.objs.size,p],[s.heap.objs.size],aa.toArray.size,_,_,λ i=>(bs[i]?).getD true,rfl,Walks.list (A:=X.A.in1) (I.ok.hd hc) _ p (zJ am) aa.toArray,
  ⟨⟨_,zD _ rfl,rfl,rfl⟩,hl.push _⟩,λ i v s' Q' E' hP hQ=>?_,λ h' tk hk=>?_⟩
 ·obtain⟨b,e,rfl⟩:=hb.get i v (by simpa using hP);simp only[e,Option.getD_some] at hQ;exact wpAny_truthy_bool hQ
 ·have e:((zL aa.toArray.size).all λ i=>(bs[i]?).getD true)=bs.all id:=by
   rw[zh,hb.length];exact LSm.range_all bs
  rw[e];exact⟨.bl _,H,I.kept (t':=tk) (LSm.kept_iter hk),rfl,q⟩
noncomputable def WB (ds:List D):M D:=match ds with
 |[.lst xs]=>(match GC xs with|some bs=>.ok (.bl (bs.all id))|none=>.bad)
 |_=>.bad
theorem gL:J0 X.K WX (λ xs H Q=>∃p bs,xs=[.ref p]/\Dg X.K H p (List.map V.bl bs)/\Q (.bl (bs.all id)) H) WB:=by
 intro P H ds vs Q ht hl h;unfold WB at h;split at h
 ·rename_i xs;obtain⟨v,rfl,hv⟩:=hl.one;split at h
  ·rename_i bs eb;have:=LH eb;subst this;cases hv with
   |lst hs hh =>
    have:=LI hh;subst this;exact⟨_,bs,rfl,hs.Bi,h _ H (Ae.refl H) (.bl _)⟩
  ·exact h.elim
 ·exact h.elim
theorem WC {p:Pos}(hc:X.calm=true)(hg:Gl X "all")(hm:X.mg "all" = none)(ha:DE X WX c e f)(hb:bootBuiltins "all" = some (.builtin "all"):=by decide +kernel)(hs:starEach [e] X.env=[(false,eval e X.env)]:=by rfl):DE X WX c (.Call (.Name "all" p) [e] [] pos) (λ ρ=>((f ρ).bind λ d=>(M.ok []).bind λ ds=>.ok (d::ds)).bind WB):=
 Gy (LK hc) gL hg hm hb (A2 ha A8 hs) (he:=hs)
end
def Sm (n:Int):Prop:=yj n<=2^20
theorem WD:∀ {ns:List Int},W.WData.weightAll (ns.map W.WData.int)<=2^20->∀n∈ns,Sm n
 |m::r,h,n,hn=>by
  rw[zg,W.WData.weightAll,W.WData.weight] at h;rcases zl.mp hn with rfl|hn
  ·unfold Sm yj;omega
  ·exact WD (by omega) n hn
theorem mC {ns:List Int}(h:W.WData.layableAll [W.WData.list (ns.map W.WData.int)]=true):∀n∈ns,Sm n:=by
 unfold W.WData.layableAll at h;rw[List.all_cons,zW] at h;have h1:=h.1;unfold W.WData.layable at h1;rw[zW,decide_eq_true_eq,W.WData.weight] at h1;exact WD h1.2
end L2
namespace HT
open PySem PySem.W PyProof.Rows Spec Calls rn
theorem NC {l:OpenLaw}{n:Nat}{q:Program}{loose:List Str}{XP:(Str->Option Value)->Heap->Prop}{YP:World->Heap->Prop}{d:DefRec}
 (hn:l.most=some n) (ef:d.params.defaults=[])
 (run:∀(w:World) (s₀ s₁:Shared) (mg mb:Str->Option Value) (fa:Addr) (o:Obj) (pm cd doc:Value) (a:Addr) (vs:List Value) (ns:List Int),(∀n∈ns,L2.Sm n)->
  Ground q loose [] XP w s₀ mg mb s₁.heap->YP w s₁.heap->s₁.heap.get? fa=some o->o.data=.func (docDef d.name d.params d.body d.scope pm cd doc)->s₁.heap.CodeRec cd d.name->mg d.name=some (.ref fa)->
  s₁.heap.get? a=some {cls:=.type "list",data:=.seq vs.toArray}->IntsAre vs ns->ns.length<=n->s₁.gens=#[]->
  codeAny (model l.prog w) callerA (.call (.ref fa) ⟨[.ref a],[]⟩) (λ r s'=>r=.ok (.ret (.bool true))/\OldK s₁.heap s'.heap/\s'.os=s₁.os/\AllBare s'.gens) s₁):
 WalkO q loose XP YP l.row.toRowW d [] (λ f vs=>PySem.call f vs):=by
 intro w s₀ s₁ mg mb G Y fa o pm cd doc dV kV ho hd bd hD eh hg args vals as c4 ni nj jx vE;obtain rfl:dV=.none:=Dflts.none hD ef;obtain rfl:kV=.none:=Dflts.noKw hD;obtain⟨a,vs,ns,rfl,rfl,cg,bh,hlen⟩:=U7 hn c4 jx;refine enter_call (codeAny_mono (run w s₀ s₁ mg mb fa o pm cd doc a vs ns (L2.mC ni) G Y ho (fd_plain hd) bd eh cg bh hlen hg) λ r s' hq=>?_);obtain⟨rfl,h2,h3,h4⟩:=hq;exact⟨.inl ⟨.bool true,.bool true,[],rfl,λ _=>rfl,.bool true,U8 l _,λ _=>⟨List.Pairwise.nil,λ _ hm=>(nomatch hm)⟩⟩,h2,h3,h4⟩
end HT
namespace L2
open PySem PySem.Spec PyProof.Rows
theorem nT {l:PySem.W.OpenLaw}{n k:Nat}{q:Program}{loose:List Str}{XP:(Str->Option Value)->Heap->Prop}{YP:World->Heap->Prop}{d:DefRec}{K:Params->za}{CX:World->Su}{sp:World->Sp}{x:Str}
 (hn:l.most=some n) (aB:n<=sizeLine) (ef:d.params.defaults=[]) (hr:By k callerA) (hY:∀(w:World) (h:Heap),YP w h->(K w.params).In h)
 (F:∀(w:World) (mg:Str->Option Value) (fa:Addr) (h:Heap),(K w.params).In h->h.Ns mainGlobals mg->mg d.name=some (.ref fa)->∃fd:FuncData,(∀(s:Shared) (u:Value),BindsTo s fd ⟨[u],[]⟩ [(x,u)])/\
  ∀base:Heap,(K w.params).In base->base.Ns mainGlobals mg->D5 l.prog w (K w.params) mg base (CX w) k fa fd [x] (sp w))
 (cq:∀(w:World) (H:Hp) (a:Addr) (ns:List Int),(∀n∈ns,Sm n)->ns.length<=n->Yy H->Dg (K w.params) H a (ns.map V.int)->sp w [.ref a] H (λ v _=>v=.bl true) λ _ _ _=>False)
 (ia:∀(w:World) (H:Hp) (s:Shared) (e:Value) (s':Shared),CX w [] H s (λ _ _ _=>False) e s'->False):PySem.W.WalkO q loose XP YP l.row.toRowW d [] (λ f vs=>PySem.call f vs):=by
 refine HT.NC hn ef λ w s₀ s₁ mg mb fa o pm cd doc a vs ns cU G Y ho hd bd eh cg bh hlen hg=>?_;have KX:=hY w _ Y;obtain⟨fd,hb,hF⟩:=F w mg fa _ KX G.T.g eh;exact PH KX G.T.g G.T.b G.T.builtins G.T.nolimit hg cg bh (yn hlen aB) hr hF hb (λ H hO hS=>cq w H a ns cU hlen hO hS) λ H e s'=>ia w H s₁ e s'
theorem YW {F:List D->M D}(h:∀ns:List Int,ns.length<=63->(∀n∈ns,Sm n)->F [.lst (ns.map D.int)]=.ok (.bl true))(K:za)(H:Hp)(a:Addr)(ns:List Int)(cU:∀n∈ns,Sm n)(hl:ns.length<=63)(hS:Dg K H a (ns.map V.int)):RJ K 1 F [.ref a] H (λ v _=>v=.bl true) λ _ _ _=>False:=by
 refine⟨rfl,λ _=>False,[.lst (ns.map D.int)],λ _ z=>z.elim,.cons (.lst ?_ (Ag.ints ns)) .nil,?_⟩
 ·have e:del H (λ _=>False)=H:=by funext b;exact AE (λ z=>z)
  rw[e];exact hS
 ·rw[h ns hl cU];exact λ v H' s hv=>hv.Lu
def ND (i j:Int):Prop:=(yj i<=2^20+1/\yj j<=2^10)\/Q3 i j
theorem Uk {a b:Int}(h:yj a+yj b<=2^21):IntMulOk a b:=by
 have e:(2:Nat)^21=2097152:=by decide
 have h2:Builtin.Int.intTooBig (yj a+yj b)=false:=by
  unfold Builtin.Int.intTooBig bitsLine;exact decide_eq_false (by omega)
 unfold IntMulOk;rw[h2];simp
theorem ND.ok {i j:Int}(h:ND i j):IntMulOk i j:=by
 rcases h with ⟨h1,h2⟩|h
 ·exact Uk (by omega)
 ·exact h.ok
theorem YX {X:Cx}:FA X (binaryOp .Mult) (rI ND λ i j=>.int (i*j)):=nL λ _ _ _ _ _ _ _ hc q=>mul_int q hc.ok
noncomputable instance (i j:Int):Decidable (ND i j):=xq _
noncomputable def LL:=B3 λ i j=>if ND i j then .ok (.int (i*j)) else .bad
theorem J7 {i j:Int}(h:ND i j):LL (.int i) (.int j)=.ok (.int (i*j)):=by
 unfold LL B3;dsimp only;rw[if_pos h]
theorem L5 {X:Cx}{WX:Str->Hp->Prop}{c:Bool}{a b:Expr}{f g:Aa->M D}{pos:Pos}(ha:DE X WX c a f)(hb:DE X WX c b g):DE X WX c (.BinOp a .Mult b pos) (λ ρ=>(f ρ).bind λ x=>(g ρ).bind λ y=>LL x y):=Nu YX (Ov λ _ _ _ _=>.int _) ha hb
mutual
noncomputable def JL:D->Bool
 | .tup a=>J8 a
 | .lst _| .Dl _| .Bh _ _ _| .ins _ _ _=>false
 |_=>true
noncomputable def J8:List D->Bool
 |[]=>true
 |a::r=>JL a&&J8 r
end
theorem SK {H:Hp}{P0 P:Addr->Prop}{a:Addr}{xs:List V}(ht:∀a,P a->El H a)(h:del H P0 a=some (.tup xs)):del H P a=some (.tup xs):=by
 obtain⟨h1,h2⟩:=An h;rw[AE λ z=>by
  obtain⟨o',q,r⟩:=ht a z;rw[h2] at q;cases q;exact (r xs).1 rfl]
 exact h2
mutual
theorem BC.JL {K:za}{H:Hp}{P0 P:Addr->Prop}(ht:∀a,P a->El H a):∀ {v:V}{d:D},JL d=true->BC K (del H P0) v d->BC K (del H P) v d
 |_,_,_,.Az=>.Az
 |_,_,_,.bl b=>.bl b
 |_,_,_,.int i=>.int i
 |_,_,_,.str x=>.str x
 |_,_,n,.tup h r=>.tup (SK ht h) (Ag.JL ht (by rw[L2.JL] at n;exact n) r)
 |_,_,n,.lst h r|_,_,n,.Dl h r|_,_,n,.IJ h r|_,_,n,.Ic h r|_,_,n,.ins _ h r=>by rw[L2.JL] at n;cases n
theorem Ag.JL {K:za}{H:Hp}{P0 P:Addr->Prop}(ht:∀a,P a->El H a):∀ {vs:List V}{ds:List D},J8 ds=true->Ag K (del H P0) vs ds->Ag K (del H P) vs ds
 |_,_,_,.nil=>.nil
 |_,_,n,.cons h t=>by
  rw[J8,zW] at n;exact .cons (BC.JL ht n.1 h) (Ag.JL ht n.2 t)
end
noncomputable def dp (m:M D):M D:=m.bind λ d=>if JL d=true then .ok d else .bad
section
variable {α:Type}(lt:α->α->Prop)
def MI:List α->List α->Prop
 |y::ys,x::xs=>(lt y x/\ys.length=xs.length)\/(y=x/\MI ys xs)
 |_,_=>False
theorem MI.len:∀ {ys xs:List α},MI lt ys xs->ys.length=xs.length
 |y::ys,x::xs,h=>by
  rcases h with ⟨_,h⟩|⟨_,h⟩
  ·rw[zq,zq,h]
  ·rw[zq,zq,MI.len h]
 |[],[],h|[],_::_,h|_::_,[],h=>h.elim
theorem WE (n:Nat)(ih:∀xs:List α,xs.length=n->Acc (MI lt) xs){x:α}(hx:Acc lt x):∀ {xs:List α},xs.length=n->Acc (MI lt) xs->Acc (MI lt) (x::xs):=by
 induction hx with
 |intro x _ tR =>
  intro xs hl bI;induction bI with
  |intro xs _ nk =>
   refine .intro _ λ zs h=>?_;cases zs with
   |nil=>exact h.elim
   |cons y ys =>
    rcases h with ⟨h1,h2⟩|⟨h1,h2⟩
    ·exact tR y h1 (h2.trans hl) (ih ys (h2.trans hl))
    ·subst h1;exact nk ys h2 ((MI.len lt h2).trans hl)
theorem LM (h:∀x,Acc lt x):∀(n:Nat) (xs:List α),xs.length=n->Acc (MI lt) xs
 |0,[],_=>.intro _ λ zs h=>by cases zs<;>exact h.elim
 |n+1,x::xs,e=>WE lt n (LM h n) (h x) (by simpa using e) (LM h n xs (by simpa using e))
theorem SM:∀ {xs:List α}{i:Nat}{y:α}{x:α},xs[i]?=some x->lt y x->MI lt (xs.set i y) xs
 |[],_,_,_,h,_=>by cases h
 |z::zs,0,y,x,h,hl=>by
  cases h;exact .inl ⟨hl,rfl⟩
 |z::zs,i+1,y,x,h,hl=>.inr ⟨rfl,SM (by simpa using h) hl⟩
theorem MI.trans (ht:∀a b c,lt a b->lt b c->lt a c):∀ {xs ys zs:List α},MI lt xs ys->MI lt ys zs->MI lt xs zs
 |x::xs,y::ys,z::zs,h1,h2=>by
  rcases h1 with ⟨a,b⟩|⟨rfl,b⟩
  ·rcases h2 with ⟨c,d⟩|⟨rfl,d⟩
   ·exact .inl ⟨ht _ _ _ a c,b.trans d⟩
   ·exact .inl ⟨a,b.trans (MI.len lt d)⟩
  ·rcases h2 with ⟨c,d⟩|⟨rfl,d⟩
   ·exact .inl ⟨c,(MI.len lt b).trans d⟩
   ·exact .inr ⟨rfl,MI.trans ht b d⟩
 |[],_,_,h,_|_::_,[],_,h,_|_::_,_::_,[],_,h=>by cases h
end
section
variable {X:Cx}{WX:Str->Hp->Prop}{c:Bool}{P0:Dn}{P:Addr->Prop}{H:Hp}{σ:St}{ρ:Aa}{a b e:Expr}{f g g2:Aa->M D}{pos:Pos}
theorem J9:∀ {ns:List Int}{us:List Value},Vals (ns.map V.int) us->IntsAre us ns
 |[],_,.nil=>.nil
 |n::r,_,.cons h t=>by obtain⟨tk,rfl⟩:=h;exact .cons _ _ (J9 t)
theorem CL:∀ {ds:List D}{ns:List Int},BU ds=some ns->ds=ns.map D.int
 |[],ns,h=>by cases h;rfl
 | .int b::r,bs,h=>by
  rw[BU] at h;cases q:BU r with
  |none=>rw[q] at h;cases h
  |some tQ=>rw[q] at h;cases h;rw[CL q];rfl
 | .Az::r,bs,h| .bl _::r,bs,h| .str _::r,bs,h| .tup _::r,bs,h| .lst _::r,bs,h| .Dl _::r,bs,h| .Bh _ _ _::r,bs,h| .ins _ _ _::r,bs,h=>by cases h
theorem CM {K:za}{H:Hp}:∀ {vs:List V}{bs:List Int},Ag K H vs (bs.map D.int)->vs=bs.map V.int
 |_,[],.nil=>rfl
 |_,b::r,.cons h t=>by cases h;rw[CM t];rfl
end
theorem gM {P P2:Addr->Prop}{H H':Hp}(t:Tr P P H P2 H'){a:Addr}(h:P2 a)(hn:¬ P a):H a=none:=by
 cases q:H a with
 |none=>rfl
 |some o =>
  have:=t.1 a o (by rw[AE hn];exact q);exact ((An this).1 h).elim
section
variable {X:Cx}{WX:Str->Hp->Prop}{c:Bool}{P0:Dn}{P:Addr->Prop}{H:Hp}{σ:St}{ρ:Aa}{a b e:Expr}{f g:Aa->M D}{pos:Pos}
def YY:V->List V->Hp->VK->Prop:=λ x vs H Q=>∃(l:Addr) (xs:List V) (k:Nat) (y:V),x=.ref l/\vs=[.int (k:Int),y]/\H l=some (.lst xs)/\k<=xs.length/\xs.length<sizeLine/\Q .Az (upd H l (.lst (xs.take k++y::xs.drop k)))
theorem Q6:∀ {xs:List V}{us:List Value}{y:V}{w:Value},Vals xs us->∀k:Nat,RelV y w->Vals (xs.take k++y::xs.drop k) (us.take k++w::us.drop k)
 |_,_,_,_,r,0,h=>.cons h r
 |_,_,_,_,.nil,k+1,h=>.cons h .nil
 |_,_,_,_,.cons a t,k+1,h=>.cons a (Q6 t k h)
theorem WG {prog:Program}{wd:World}{A:Around}{E:Value->Shared->Prop}{s:Shared}{Q:Value->Shared->Prop}{l:Addr}{items:Array Value}{n:Nat}(x:Int)(u:Tok)(y:Value)(hc:¬(!Builtin.List.listFitsIndex x)=true)(hs:items.size<=sizeLine)
 (e:s.heap.get? l=some {cls:=.type "list",data:=.seq items n})
 (h:Q .none {s with heap:=s.heap.update l (yv λ xs=>(xs.extract 0 (if x<0 then (x+(xs.size:Int)).toNat else min x.toNat xs.size)).push y++xs.extract (if x<0 then (x+(xs.size:Int)).toNat else min x.toNat xs.size)),toks:=s.toks}):wpAny (model prog wd) A (call (.builtin "list.insert") [.ref l,.int x u,y]) Q E s:=by
 have hm:=PySem.AutoSeq1.list_insert_list_int_val_1 l items n x u y hc hs;have ha:=PySem.F.args_list_insert_3 (.ref l) (.int x u) y;exact call_meets PySem.F.slot_list_insert ⟨_,e,rfl⟩ PySem.F.entry_list_insert ha hm ⟨e,h⟩
theorem Ul:fJ X "list.insert" YY:=by
 intro pins s σ H x vs v us Q I rx rv h;obtain⟨l,xs,k,y,rfl,rfl,hH,hk,hz,q⟩:=h;cases rx;obtain⟨u,w,rfl,ru,bu⟩:=rv.two;obtain⟨tk,rfl⟩:=ru;obtain⟨z,aa,n,r,hl,e⟩:=I.PD hH;have hlen:=r.length;have vF:=Jz;have dr:¬ (!Builtin.List.listFitsIndex (k:Int))=true:=by
  unfold Builtin.List.listFitsIndex;simp;omega
 have hsz:aa.toArray.size<=sizeLine:=by rw[zh,<-hl];exact yi hz
 refine WG (k:Int) tk w dr hsz e ?_;refine⟨.Az,_,I.U5 (its':=aa.take k++w::aa.drop k) hH e ?_ ?_ ?_,rfl,q⟩
 ·have e1:¬ ((k:Int)<0):=by omega
  have e2:min (k:Int).toNat aa.toArray.size=k:=by rw[yt,zh];omega
  simp only[e1,if_false,e2];apply Array.toList_inj.mp;simp;rw[yx (by rw[xl];exact zu _)]
 ·exact Q6 r k bu
 ·rw[zB,zq,yI,xl];omega
noncomputable def Um (i:Nat)(ρ:Aa)(mk md:M D):M Out:=match ρ[i]? with
 |some (some (.own ds))=>mk.bind λ k=>md.bind λ d=>match k with
  | .int j=>if 0<=j/\j.toNat<=ds.length/\ds.length<1000 then .ok (.next (ρ.set i (some (.own (ds.take j.toNat++d::ds.drop j.toNat))))) else .bad
  |_=>.bad
 |_=>.bad
theorem JM {K:za}{H:Hp}:∀ {vs:List V}{ds:List D}(n:Nat),Ag K H vs ds->Ag K H (vs.take n) (ds.take n)
 |_,_,0,_=>by rw[List.take_zero,List.take_zero];exact .nil
 |_,_,_+1,.nil=>.nil
 |_,_,n+1,.cons h t=>by rw[List.take_succ_cons,List.take_succ_cons];exact .cons h (JM n t)
theorem NE {K:za}{H:Hp}:∀ {vs:List V}{ds:List D}(n:Nat),Ag K H vs ds->Ag K H (vs.drop n) (ds.drop n)
 |_,_,0,h=>h
 |_,_,_+1,.nil=>.nil
 |_,_,n+1,.cons h t=>by rw[List.drop_succ_cons,List.drop_succ_cons];exact NE n t
theorem Q7 {K:za}{H:Hp}:∀ {vs ws:List V}{ds es:List D},Ag K H vs ds->Ag K H ws es->Ag K H (vs++ws) (ds++es)
 |_,_,_,_,.nil,k=>k
 |_,_,_,_,.cons h t,k=>.cons h (Q7 t k)
theorem Uo (i:Nat){x:Str}{p1 apos ac:Pos}(hv:PE X (.Name x p1) (Pq i))(hk:DE X WX true a f)(hd:DE X WX true b g)(hs:starEach [a,b] X.env=(false,eval a X.env)::starEach [b] X.env:=by rfl)(aP:starEach [b] X.env=[(false,eval b X.env)]:=by rfl)
 (bg:swapsWith (.Call (.Attribute (.Name x p1) "insert" apos) [a,b] [] ac) none pos.line X.env=pure false:=by rfl)
 (ap:attributeBase (.Name x p1) "insert" X.env (eval (.Name x p1) X.env)=eval (.Name x p1) X.env:=by rfl)
 (aD:((backTo ac (starEach [a,b] X.env)).all (λ x => !x.1)&&(backToKw ac (keywordEach [] X.env)).all (λ x=>x.1.isSome)&&decide (([a,b]:List Expr).length+([]:List Keyword).length+(if ([]:List Keyword).isEmpty then 0 else 1)<30))=true:=by rfl)
 (aq:(apos.endLine==ac.line)=true:=by rfl) (ar:(backTo ac (starEach [b] X.env)).any (·.1)=false:=by rfl):
 DS X WX (.Expr (.Call (.Attribute (.Name x p1) "insert" apos) [a,b] [] ac) pos) (λ ρ=>Um i ρ (f ρ) (g ρ)):=by
 obtain⟨ta,a1,a2⟩:=hk;obtain⟨tb,b1,b2⟩:=hd;refine⟨_,Fy (Nk ym PySem.F.slot_list_insert PySem.F.type_list_insert Ul hv (Bf a1 (Bf b1 BZ aP) hs) ap aD aq hs ar) bg,λ P0 P σ H Z ρ E h=>?_⟩;dsimp only at h;unfold Um at h;split at h
 ·rename_i ds e1;obtain⟨p,xs,h1,h2,h3,h4,h5⟩:=E.own i ds e1;refine⟨_,h1,.inl ⟨rfl,xs,.of h2⟩,a2 P0 P σ H _ ρ E ?_⟩;cases q:f ρ with
  |bad=>rw[q] at h;exact h
  |ex y=>rw[q] at h;exact λ H' s=>h H' P (E.tr s)
  |ok k =>
   rw[q] at h;simp only[M.A6] at h;intro w H1 s1 hw;have E1:=E.same s1;refine b2 P0 P σ H1 _ ρ E1 ?_;cases q2:g ρ with
   |bad=>rw[q2] at h;exact h
   |ex y=>rw[q2] at h;exact λ H' s=>h H' P ((E.tr s1).trans (E1.tr s))
   |ok d =>
    rw[q2] at h;simp only[M.A6] at h;intro v H2 s2 tS;have E2:=E1.same s2;have nq:=s1.trans s2;split at h
    ·rename_i j;cases hw;by_cases hj:0<=j/\j.toNat<=ds.length/\ds.length<1000
     ·rw[if_pos hj] at h;have tT:((j.toNat:Nat):Int)=j:=Int.toNat_of_nonneg hj.1;have rM:=h5.mono nq.del;refine⟨p,xs,j.toNat,v,rfl,by rw[tT],nq _ _ h2,by rw[h5.length];exact hj.2.1,AG (by rw[h5.length];exact yi hj.2.2),?_⟩;obtain⟨E3,t3⟩:=E2.mut e1 h1 h3 h4 (Q7 (JM j.toNat rM) (.cons tS (NE j.toNat rM)));exact h _ _ _ ((E.tr nq).trans t3) E3
     ·rw[if_neg hj] at h;exact h.elim
    ·exact h.elim
 ·exact h.elim
noncomputable def mD (ds:List D):M D:=match ds with
 |[.lst xs]=>(match GC xs with|some bs=>.ok (.bl (bs.any id))|none=>.bad)
 |_=>.bad
end
noncomputable def kids:OT->List OT
 | .sh _=>[]
 | .lst ts| .tup ts| .Bh _ _ ts| .ins _ _ ts=>ts
noncomputable def L6:OT->List OT->OT
 | .sh d,_=>.sh d
 | .lst _,ts=>.lst ts
 | .tup _,ts=>.tup ts
 | .Bh b ks _,ts=>.Bh b ks ts
 | .ins x ns _,ts=>.ins x ns ts
noncomputable def JN:OT->List Nat->Option OT
 |t,[]=>some t
 |t,j::π=>match (kids t)[j]? with|some s=>JN s π|none=>none
noncomputable def DZ:OT->List Nat->OT->OT
 |_,[],u=>u
 |t,j::π,u=>match (kids t)[j]? with|some s=>L6 t ((kids t).set j (DZ s π u))|none=>t
@[simp] theorem WH (t:OT):JN t []=some t:=by unfold JN;rfl
@[simp] theorem Cm (t u:OT):DZ t [] u=u:=by unfold DZ;rfl
theorem Up {t s:OT}{j:Nat}{π:List Nat}(h:(kids t)[j]?=some s):JN t (j::π)=JN s π:=by rw[JN,h]
theorem Uq {t s u:OT}{j:Nat}{π:List Nat}(h:(kids t)[j]?=some s):DZ t (j::π) u=L6 t ((kids t).set j (DZ s π u)):=by rw[DZ,h]
section
variable {K:za}{H H':Hp}{P P':Addr->Prop}
def Cb (K:za)(H:Hp)(P:Addr->Prop)(v:V)(t:OT)(q:List Addr)(xs:List V):Prop:=match t with
 | .sh _=>False
 | .lst ts=>∃p,v=.ref p/\q=[p]/\H p=some (.lst xs)
 | .tup ts=>∃p,v=.ref p/\q=[]/\del H P p=some (.tup xs)
 | .Bh false ks ts=>∃p kvs,v=.ref p/\q=[p]/\H p=some (.dK kvs)/\ks=(kvs.map λ kv=>EA kv.1)/\xs=kvs.map yA
 | .Bh true ks ts=>∃p kvs,v=.ref p/\q=[p]/\H p=some (.dT kvs)/\ks=(kvs.map λ kv=>.tup (kv.1.map EA))/\xs=kvs.map yA
 | .ins x ns ts=>∃p C dx fs,v=.ref p/\q=[p]/\zc K mainGlobals x=some (some (.ref C))/\H p=some (.ins C dx fs)/\ns=fs.map zZ/\xs=fs.map yA
theorem Cb.own {v:V}{t:OT}{q:List Addr}{xs:List V}{fp:List Addr}(h:Cb K H P v t q xs)(r:Aw K H P xs (kids t) fp):BF K H P v t (q++fp):=by
 cases t with
 |sh d=>exact h.elim
 |lst ts=>obtain⟨p,rfl,rfl,h⟩:=h;exact .lst h r
 |tup ts=>obtain⟨p,rfl,rfl,h⟩:=h;exact .tup h r
 |Bh b ks ts =>
  cases b with
  |false=>obtain⟨p,kvs,rfl,rfl,h,rfl,rfl⟩:=h;exact .dK h r
  |true=>obtain⟨p,kvs,rfl,rfl,h,rfl,rfl⟩:=h;exact .dT h r
 |ins x ns ts=>obtain⟨p,C,dx,fs,rfl,rfl,n,h,rfl,rfl⟩:=h;exact .ins n h r
theorem BF.node {v:V}{t:OT}{fp:List Addr}(h:BF K H P v t fp)(hk:kids t≠[]\/∀d,t≠.sh d):∃q xs fq,fp=q++fq/\Cb K H P v t q xs/\Aw K H P xs (kids t) fq:=by
 cases h with
 |sh h=>rcases hk with hk|hk;exact (hk rfl).elim;exact (hk _ rfl).elim
 |lst h r=>exact⟨[_],_,_,rfl,⟨_,rfl,rfl,h⟩,r⟩
 |tup h r=>exact⟨[],_,_,rfl,⟨_,rfl,rfl,h⟩,r⟩
 |dK h r|dT h r=>exact⟨[_],_,_,rfl,⟨_,_,rfl,rfl,h,rfl,rfl⟩,r⟩
 |ins n h r=>exact⟨[_],_,_,rfl,⟨_,_,_,_,rfl,rfl,n,h,rfl,rfl⟩,r⟩
theorem Cb.move (sm:Ae (del H P) (del H' P')){v:V}{t:OT}{q:List Addr}{xs:List V}(k:∀a∈q,H' a=H a)(h:Cb K H P v t q xs):Cb K H' P' v t q xs:=by
 cases t with
 |sh d=>exact h.elim
 |lst ts=>obtain⟨p,rfl,rfl,h⟩:=h;exact⟨p,rfl,rfl,(k p zd).trans h⟩
 |tup ts=>obtain⟨p,rfl,rfl,h⟩:=h;exact⟨p,rfl,rfl,sm _ _ h⟩
 |Bh b ks ts =>
  cases b with
  |false|true=>obtain⟨p,kvs,rfl,rfl,h,rfl,rfl⟩:=h;exact⟨p,kvs,rfl,rfl,(k p zd).trans h,rfl,rfl⟩
 |ins x ns ts=>obtain⟨p,C,dx,fs,rfl,rfl,n,h,rfl,rfl⟩:=h;exact⟨p,C,dx,fs,rfl,rfl,n,(k p zd).trans h,rfl,rfl⟩
theorem Cb.kids {v:V}{t:OT}{q:List Addr}{xs:List V}(h:Cb K H P v t q xs)(ts:List OT):Cb K H P v (L6 t ts) q xs:=by
 cases t with
 |sh d=>exact h.elim
 |lst us|tup us=>exact h
 |Bh b ks us=>cases b<;>exact h
 |ins x ns us=>exact h
theorem OG {v:V}{t:OT}{q:List Addr}{xs:List V}(h:Cb K H P v t q xs)(ts:List OT):L2.kids (L6 t ts)=ts:=by
 cases t with
 |sh d=>exact h.elim
 |lst us|tup us|Bh b ks us|ins x ns us=>rfl
theorem Cb.inj {v:V}{t:OT}{q q':List Addr}{xs d7:List V}(h:Cb K H P v t q xs)(h':Cb K H P v t q' d7):q=q'/\xs=d7:=by
 cases t with
 |sh d=>exact h.elim
 |lst ts|tup ts=>obtain⟨p,rfl,rfl,h⟩:=h;obtain⟨p',e,rfl,h'⟩:=h';cases e;rw[h] at h';cases h';exact⟨rfl,rfl⟩
 |Bh b ks ts =>
  cases b with
  |false|true=>obtain⟨p,kvs,rfl,rfl,h,_,rfl⟩:=h;obtain⟨p',nr,e,rfl,h',_,rfl⟩:=h';cases e;rw[h] at h';cases h';exact⟨rfl,rfl⟩
 |ins x ns ts=>obtain⟨p,C,dx,fs,rfl,rfl,n,h,_,rfl⟩:=h;obtain⟨p',C',vG,bP,e,rfl,n',h',_,rfl⟩:=h';cases e;rw[h] at h';cases h';exact⟨rfl,rfl⟩
inductive Ja (K:za) (H:Hp) (P:Addr->Prop):V->OT->List Nat->V->OT->Prop
 |nil {v t}:Ja K H P v t [] v t
 |cons {v t q xs j x s π v1 t1}:Cb K H P v t q xs->xs[j]?=some x->(kids t)[j]?=some s->Ja K H P x s π v1 t1->Ja K H P v t (j::π) v1 t1
theorem Ja.sub {v v1:V}{t t1:OT}{π:List Nat}(h:Ja K H P v t π v1 t1):JN t π=some t1:=by
 induction h with
 |nil=>exact WH _
 |cons _ _ hs _ ih=>rw[Up hs];exact ih
theorem Aw.get:∀ {xs:List V}{ts:List OT}{fp:List Addr}{j:Nat}{x:V}{s:OT},Aw K H P xs ts fp->xs[j]?=some x->ts[j]?=some s->∃pre fs post,fp=pre++fs++post/\BF K H P x s fs
 |_,_,_,_,_,_,.nil,e,_=>by simp at e
 |_,_,_,0,_,_,.cons h r,e,e'=>by
  simp at e e';subst e;subst e';exact⟨[],_,_,rfl,h⟩
 |_,_,_,j+1,_,_,.cons (fp:=f1) h r,e,e'=>by
  obtain⟨pre,fs,post,z,q⟩:=Aw.get r (by simpa using e) (by simpa using e');exact⟨f1++pre,fs,post,by rw[z];simp,q⟩
theorem Aw.len:∀ {xs:List V}{ts:List OT}{fp:List Addr},Aw K H P xs ts fp->xs.length=ts.length
 |_,_,_,.nil=>rfl
 |_,_,_,.cons _ r=>by rw[zq,zq,r.len]
theorem BF.part {v v1:V}{t t1:OT}{π:List Nat}{fp:List Addr}(h:BF K H P v t fp)(s:Ja K H P v t π v1 t1):∃az,BF K H P v1 t1 az/\(∀a∈az,a∈fp)/\(fp.Nodup->az.Nodup):=by
 induction s generalizing fp with
 |nil=>exact⟨fp,h,λ _ h=>h,λ h=>h⟩
 |cons n hx hs _ ih =>
  obtain⟨q,xs,fq,rfl,n',r⟩:=h.node (.inl λ z=>by rw[z] at hs;cases hs);obtain⟨rfl,rfl⟩:=n.inj n';obtain⟨pre,fs,post,rfl,o⟩:=r.get hx hs;obtain⟨az,o1,k,kn⟩:=ih o;exact⟨az,o1,λ a ha=>zo _ (zO _ (zo _ (k a ha))),λ nd=>kn (zN.mp (zN.mp (zN.mp nd).2.1).1).2.1⟩
theorem Aw.put (sm:Ae (del H P) (del H' P')):∀ {xs:List V}{ts:List OT}{fp:List Addr}{j:Nat}{x:V}{s s':OT}{fs bP:List Addr},Aw K H P xs ts fp->xs[j]?=some x->ts[j]?=some s->BF K H P x s fs->BF K H' P' x s' bP->(∀a∈fp,a∉fs->H' a=H a)->fp.Nodup->bP.Nodup->(∀a∈bP,a∈fp->a∈fs)->
 ∃ai,Aw K H' P' xs (ts.set j s') ai/\ai.Nodup/\∀a∈ai,a∈bP\/(a∈fp/\a∉fs)
 |_,_,_,_,_,_,_,_,_,.nil,e,_,_,_,_,_,_,_=>by simp at e
 |_,_,_,0,x,s,s',fs,bP,.cons (fp:=f1) (fq:=f2) h r,e,e',o,o',k,nd,iw,dj=>by
  simp at e e';subst e;subst e';have:=h.C1 o;subst this;have aZ:=zN.mp nd;have k2:∀a∈f2,a∉f1:=λ a ha hb=>aZ.2.2 a hb a ha rfl;refine⟨bP++f2,.cons o' (r.move sm λ a ha=>k a (zo _ ha) (k2 a ha)),zN.mpr ⟨iw,aZ.2.1,λ a ha b hb z=>?_⟩,λ a ha=>?_⟩
  ·subst z;exact k2 a hb (dj a ha (zo _ hb))
  ·rcases zK.mp ha with ha|ha
   ·exact .inl ha
   ·exact .inr ⟨zo _ ha,k2 a ha⟩
 |_,_,_,j+1,x,s,s',fs,bP,.cons (vs:=tU) (ts:=tV) (fp:=f1) (fq:=f2) h r,e,e',o,o',k,nd,iw,dj=>by
  have aZ:=zN.mp nd;have e2:tU[j]?=some x:=by simpa using e
  have e3:tV[j]?=some s:=by simpa using e'
  obtain⟨pre,fx,post,hf,ox⟩:=r.get e2 e3;have:=ox.C1 o;subst this;have k1:∀a∈f1,a∉fx:=λ a ha hb=>aZ.2.2 a ha a (by rw[hf];exact zO _ (zo _ hb)) rfl;obtain⟨ai,q1,q2,q3⟩:=Aw.put sm r e2 e3 o o' (λ a ha hn=>k a (zo _ ha) hn) aZ.2.1 iw (λ a ha hb=>dj a ha (zo _ hb));refine⟨f1++ai,.cons (h.move sm λ a ha=>k a (zO _ ha) (k1 a ha)) q1,zN.mpr ⟨aZ.1,q2,λ a ha b hb z=>?_⟩,λ a ha=>?_⟩
  ·subst z;rcases q3 a hb with z|z
   ·exact k1 a ha (dj a z (zO _ ha))
   ·exact aZ.2.2 a ha a z.1 rfl
  ·rcases zK.mp ha with ha|ha
   ·exact .inr ⟨zO _ ha,k1 a ha⟩
   ·rcases q3 a ha with z|z
    ·exact .inl z
    ·exact .inr ⟨zo _ z.1,z.2⟩
theorem BF.put (sm:Ae (del H P) (del H' P')){v v1:V}{t t1 u:OT}{π:List Nat}{fp az fu:List Addr}(h:BF K H P v t fp)(s:Ja K H P v t π v1 t1)(o:BF K H P v1 t1 az)(o':BF K H' P' v1 u fu)(k:∀a∈fp,a∉az->H' a=H a)(nd:fp.Nodup)(iw:fu.Nodup)(dj:∀a∈fu,a∈fp->a∈az):
 ∃ai,BF K H' P' v (DZ t π u) ai/\ai.Nodup/\∀a∈ai,a∈fu\/(a∈fp/\a∉az):=by
 induction s generalizing fp with
 |nil =>
  rw[Cm];exact⟨fu,o',iw,λ a ha=>.inl ha⟩
 | @cons v t q xs j x s π v1 t1 n hx hs s1 ih =>
  obtain⟨q',d7,fq,rfl,n',r⟩:=h.node (.inl λ z=>by rw[z] at hs;cases hs);obtain⟨rfl,rfl⟩:=n.inj n';have ix:=zN.mp nd;obtain⟨pre,fs,post,hf,ox⟩:=r.get hx hs;have sub:∀a∈fs,a∈fq:=λ a ha=>by rw[hf];exact zO _ (zo _ ha)
  have tW:fs.Nodup:=by
   have:=ix.2.1;rw[hf] at this;exact (zN.mp (zN.mp this).1).2.1
  obtain⟨fz,oz,kz,_⟩:=ox.part s1;have:=oz.C1 o;subst this;obtain⟨bP,q1,q2,q3⟩:=ih ox o o' (λ a ha hn=>k a (zo _ (sub a ha)) hn) tW (λ a ha hb=>dj a ha (zo _ (sub a hb)));have qf:∀a∈q,a∉fs:=λ a ha hb=>ix.2.2 a ha a (sub a hb) rfl;have kq:∀a∈q,H' a=H a:=λ a ha=>k a (zO _ ha) λ z=>qf a ha (kz a z);obtain⟨ai,p1,p2,p3⟩:=r.put sm hx hs ox q1 (λ a ha hn=>k a (zo _ ha) λ z=>hn (kz a z)) ix.2.1 q2 (λ a ha hb=>by
   rcases q3 a ha with z|z
   ·exact kz a (dj a z (zo _ hb))
   ·exact z.1)
  rw[Uq hs];have n2:=(n.move sm kq).kids ((kids t).set j (DZ s π u));have o2:=n2.own (fp:=ai) (by rw[OG n];exact p1);refine⟨q++ai,o2,zN.mpr ⟨ix.1,p2,λ a ha b hb z=>?_⟩,λ a ha=>?_⟩
  ·subst z;rcases p3 a hb with z|z
   ·rcases q3 a z with y|y
    ·exact qf a ha (kz a (dj a y (zO _ ha)))
    ·exact qf a ha y.1
   ·exact ix.2.2 a ha a z.1 rfl
  ·rcases zK.mp ha with ha|ha
   ·exact .inr ⟨zO _ ha,λ z=>qf a ha (kz a z)⟩
   ·rcases p3 a ha with z|z
    ·rcases q3 a z with y|y
     ·exact .inl y
     ·exact .inr ⟨zo _ (sub a y.1),y.2⟩
    ·exact .inr ⟨zo _ z.1,λ y=>z.2 (kz a y)⟩
end
def PU (P:Addr->Prop)(fp:List Addr):Addr->Prop:=λ a=>P a\/a∈fp
theorem LN {P:Addr->Prop}{fp:List Addr}:∀a,P a->PU P fp a:=λ a h=>.inl h
theorem Ep {P:Addr->Prop}{fp:List Addr}{H H':Hp}(s:Ae H H')(hn:∀a∈fp,H a=none):Ae (del H P) (del H' (PU P fp)):=λ b o e=>by
 obtain⟨h1,h2⟩:=An e;rw[AE λ z=>z.elim h1 λ w=>by rw[hn b w] at h2;cases h2];exact s b o h2
theorem RM {P:Addr->Prop}{H:Hp}:del H (PU P [])=del H P:=by
 funext b;by_cases h:P b
 ·rw[FE h,FE (.inl h)]
 ·rw[AE h,AE λ z=>z.elim h λ w=>by cases w]
theorem JO {P:Addr->Prop}{fp:List Addr}{K:za}{H':Hp}{Q:Addr->Prop}{v:V}{t:OT}(hP:∀a,P a->El H' a)(o:BF K H' Q v t fp):∀a,PU P fp a->El H' a:=λ a h=>h.elim (hP a) (o.Cf a)
theorem SN {P:Addr->Prop}{fp:List Addr}{K:za}{H':Hp}{Q:Addr->Prop}{v:List V}{t:List OT}(hP:∀a,P a->El H' a)(o:Aw K H' Q v t fp):∀a,PU P fp a->El H' a:=λ a h=>h.elim (hP a) (o.Cf a)
theorem Ai.more {K:za}{P0:Dn}{P P':Addr->Prop}{H H':Hp}{σ:St}{ρ:Aa}(E:Ai K P0 P H σ ρ)(e:Ae H H')(hs:∀a,P a->P' a)(ht:∀a,P' a->El H' a)(sm:Ae (del H P) (del H' P')):Ai K P0 P' H' σ ρ:=by
 have keep:∀(c:Cl) (v:V) (fp:List Addr),CW K H P c v fp->∀a∈fp,H' a=H a:=λ c v fp o a ha=>by
  obtain⟨xs,q⟩:=o.at a ha;rw[q];exact e _ _ q
 exact⟨λ a h=>hs a (E.sub a h),ht,λ i d h=>let ⟨v,h1,h2⟩:=E.val i d h;⟨v,h1,h2.mono sm⟩,
  λ i c h io=>let ⟨v,fp,h1,h2,h3,h4⟩:=E.ows i c h io;⟨v,fp,h1,h2.move sm (keep c v fp h2),λ a ha=>⟨hs a (h3 a ha).1,(h3 a ha).2⟩,h4⟩,
  λ i j c c' v v' fp ai hi hj si sj h h' ae=>E.Wc sm (λ v fp _ o a ha=>keep _ _ _ o a ha) (λ v fp _ o a ha=>keep _ _ _ o a ha) hi hj si sj h h' ae,E.len,E.pin⟩
def YZ (K:za)(WX:Str->Hp->Prop)(P:Addr->Prop)(H:Hp)(Q:VK):M OT->Prop
 | .ok t=>∀v fp H',Ae H H'->(∀a∈fp,H a=none)->fp.Nodup->BF K H' (PU P fp) v t fp->Q v H'
 | .ex x=>∀H',Ae H H'->WX x H'
 | .bad=>False
def tX (K:za)(WX:Str->Hp->Prop)(P:Addr->Prop)(H:Hp)(Q:List V->Hp->Prop):M (List OT)->Prop
 | .ok t=>∀v fp H',Ae H H'->(∀a∈fp,H a=none)->fp.Nodup->Aw K H' (PU P fp) v t fp->Q v H'
 | .ex x=>∀H',Ae H H'->WX x H'
 | .bad=>False
theorem Hk {H H':Hp}(s:Ae H H'){a:Addr}(h:H' a=none):H a=none:=by
 cases q:H a with
 |none=>rfl
 |some o=>rw[s a o q] at h;cases h
section
variable {K:za}{WX:Str->Hp->Prop}{P:Addr->Prop}{H H':Hp}
theorem YZ.same {Q:VK}{m:M OT}(h:YZ K WX P H Q m)(e:Ae H H'):YZ K WX P H' Q m:=by
 cases m with
 |ok d=>exact λ v fp H2 q hn nd o=>h v fp H2 (e.trans q) (λ a ha=>Hk e (hn a ha)) nd o
 |ex x=>exact λ H2 q=>h H2 (e.trans q)
 |bad=>exact h
end
def DN (X:Cx)(WX:Str->Hp->Prop)(e:Expr)(f:Aa->M OT):Prop:=
 ∃t,PE X e t/\∀P0 P σ H Q ρ,Ai X.K P0 P H σ ρ->YZ X.K WX P H Q (f ρ)->t σ H Q
def mE (X:Cx)(WX:Str->Hp->Prop)(es:List Expr)(f:Aa->M (List OT)):Prop:=
 ∃t,PA X es t/\(∀P0 P σ H Q ρ,Ai X.K P0 P H σ ρ->tX X.K WX P H Q (f ρ)->t σ H Q)/\∀ρ ts,f ρ=.ok ts->ts.length=es.length
noncomputable def cV (d:D):M OT:=.ok (.sh d)
noncomputable def cW (t:OT):M D:=.ok (er t)
section
variable {X:Cx}{WX:Str->Hp->Prop}{c:Bool}{P0:Dn}{P:Addr->Prop}{H:Hp}{σ:St}{ρ:Aa}{a b e:Expr}{f g:Aa->M D}{fn:Aa->M OT}{pos:Pos}{es:List Expr}
theorem AU (h:DE X WX true e f):DN X WX e (λ ρ=>(f ρ).bind cV):=by
 obtain⟨t,h1,h2⟩:=h;refine⟨t,h1,λ P0 P σ H Q ρ E g=>h2 P0 P σ H Q ρ E ?_⟩;dsimp only at g;cases q:f ρ with
 |bad|ex x=>rw[q] at g;exact g
 |ok d=>rw[q] at g;exact λ v H' s hv=>g v [] H' s (λ a ha=>by cases ha) yC (.sh (by rw[RM];exact hv))
theorem Aq (h:DN X WX e fn):DE X WX c e (λ ρ=>(fn ρ).bind cW):=by
 suffices z:DE X WX true e (λ ρ=>(fn ρ).bind cW) by
  cases c with
  |true=>exact z
  |false=>exact RB z
 obtain⟨t,h1,h2⟩:=h;refine⟨t,h1,λ P0 P σ H Q ρ E g=>h2 P0 P σ H Q ρ E ?_⟩;dsimp only at g;cases q:fn ρ with
 |bad|ex x=>rw[q] at g;exact g
 |ok d =>
  rw[q] at g;exact λ v fp H' s hn nd o=>g v H' s (o.has LN λ a ha z=>(E.Cf a z).no (hn a ha))
theorem FH:mE X WX [] (λ _=>.ok []):=⟨_,BZ,λ P0 P σ H Q ρ E h=>h [] [] H (Ae.refl H) (λ a ha=>by cases ha) yC .nil,λ ρ ds h=>by cases h;rfl⟩
theorem LO {es:List Expr}{fs:Aa->M (List OT)}(he:DN X WX e fn)(hr:mE X WX es fs)(hs:starEach (e::es) X.env=(false,eval e X.env)::starEach es X.env:=by rfl):
 mE X WX (e::es) (λ ρ=>(fn ρ).bind λ d=>(fs ρ).bind λ ds=>.ok (d::ds)):=by
 obtain⟨te,e1,e2⟩:=he;obtain⟨tr,r1,r2,r3⟩:=hr;refine⟨_,Bf e1 r1 hs,λ P0 P σ H Q ρ E h=>?_,λ ρ ds h=>?_⟩
 rotate_left
 ·dsimp only at h;cases q:fn ρ with
  |bad|ex x=>rw[q] at h;cases h
  |ok x =>
   rw[q] at h;cases q2:fs ρ with
   |bad|ex x=>rw[q2] at h;cases h
   |ok xs =>
    rw[q2] at h;cases h;rw[zq,zq,r3 ρ xs q2]
 dsimp only at h;refine e2 P0 P σ H _ ρ E ?_;cases q:fn ρ with
 |bad|ex x=>rw[q] at h;exact h
 |ok x =>
  rw[q] at h;intro v fp H1 s1 n1 e7 o1;have E1:Ai X.K P0 (PU P fp) H1 σ ρ:=E.more s1 LN (JO (E.same s1).Cf o1) (Ep s1 n1);refine r2 P0 (PU P fp) σ H1 _ ρ E1 ?_;cases q2:fs ρ with
  |bad=>rw[q2] at h;exact h
  |ex y=>rw[q2] at h;exact λ H' s=>h H' (s1.trans s)
  |ok ds =>
   rw[q2] at h;intro vs fq H2 s2 n2 aZ o2;have dj:∀a∈fp,a∉fq:=λ a ha hb=>(o1.Cf a ha).no (n2 a hb);have eP:PU (PU P fp) fq=PU P (fp++fq):=by
    funext a;simp only[PU,zK,or_assoc]
   have sm:Ae (del H1 (PU P fp)) (del H2 (PU P (fp++fq))):=by rw[<-eP];exact Ep s2 n2
   refine h _ (fp++fq) H2 (s1.trans s2) (λ a ha=>?_) (zN.mpr ⟨e7,aZ,λ a ha b hb z=>dj a ha (by rw[z];exact hb)⟩) (.cons (o1.move sm λ a ha=>?_) (by rw[<-eP];exact o2))
   ·rcases zK.mp ha with ha|ha
    ·exact n1 a ha
    ·exact Hk s1 (n2 a ha)
   ·obtain⟨o,z,_⟩:=o1.Cf a ha;rw[z];exact s2 _ _ z
theorem gN {P:Addr->Prop}{fp:List Addr}{p:Addr}{H:Hp}{o:HO}(hn:H p=none)(hP:∀a,PU P fp a->El H a):Ae (del H (PU P fp)) (del (upd H p o) (PU P (p::fp))):=λ b u e=>by
 obtain⟨h1,h2⟩:=An e;have hb:b≠p:=Ay h2 hn;rw[AE λ z=>z.elim (λ z=>h1 (.inl z)) λ w=>(zl.mp w).elim hb λ w=>h1 (.inr w),Am hb];exact h2
theorem JP {fs:Aa->M (List OT)}(ha:mE X WX es fs)(hz:es.length<=1000:=by decide):DN X WX (.List es pos) (λ ρ=>(fs ρ).bind λ ts=>.ok (.lst ts)):=by
 obtain⟨ta,a1,a2,a3⟩:=ha;refine⟨_,Rp a1,λ P0 P σ H Q ρ E h=>?_⟩;dsimp only at h;refine a2 P0 P σ H _ ρ E ?_;cases q:fs ρ with
 |bad|ex y=>rw[q] at h;exact h
 |ok ts =>
  rw[q] at h;simp only[M.A6] at h;intro vs fp H1 s1 n1 e7 o1;have hP:=SN (E.same s1).Cf o1;refine⟨yi (AG (by rw[o1.len,a3 ρ ts q];exact hz)),λ p hp=>?_⟩;have ae:∀a∈fp,a≠p:=λ a ha z=>(o1.Cf a ha).no (by rw[z];exact hp);exact h _ (p::fp) _ (s1.trans (AM hp _)) (λ a ha=>(zl.mp ha).elim (λ z=>by rw[z];exact Hk s1 hp) (n1 a)) (yd.mpr ⟨λ z=>ae p z rfl,e7⟩) (.lst AH (o1.move (gN hp hP) λ a ha=>Am (ae a ha)))
theorem Z0 {P:Addr->Prop}{fp:List Addr}{p:Addr}{H:Hp}{o:HO}(hn:H p=none)(hP:∀a,PU P fp a->El H a):Ae (del H (PU P fp)) (del (upd H p o) (PU P fp)):=λ b u e=>by
 obtain⟨h1,h2⟩:=An e;have hb:b≠p:=Ay h2 hn;rw[AE h1,Am hb];exact h2
theorem gO {fs:Aa->M (List OT)}{x1}(ha:mE X WX es fs)(hz:es.length<=1000:=by decide):DN X WX (.Tuple es x1 pos) (λ ρ=>(fs ρ).bind λ ts=>.ok (.tup ts)):=by
 obtain⟨ta,a1,a2,a3⟩:=ha;refine⟨_,VR a1,λ P0 P σ H Q ρ E h=>?_⟩;dsimp only at h;refine a2 P0 P σ H _ ρ E ?_;cases q:fs ρ with
 |bad|ex y=>rw[q] at h;exact h
 |ok ts =>
  rw[q] at h;simp only[M.A6] at h;intro vs fp H1 s1 n1 e7 o1;have hP:=SN (E.same s1).Cf o1;refine⟨yi (AG (by rw[o1.len,a3 ρ ts q];exact hz)),λ p hp=>?_⟩;have ae:∀a∈fp,a≠p:=λ a ha z=>(o1.Cf a ha).no (by rw[z];exact hp);refine h _ fp _ (s1.trans (AM hp _)) n1 e7 (.tup ?_ (o1.move (Z0 hp hP) λ a ha=>Am (ae a ha)));rw[AE λ z=>(hP p z).no hp];exact AH
theorem Ag.ows {K:za}{H:Hp}{P:Addr->Prop}:∀ {xs:List V}{ds:List D},Ag K (del H P) xs ds->Aw K H P xs (ds.map .sh) []
 |_,_,.nil=>.nil
 |_,_,.cons h t=>.cons (.sh h) t.ows
theorem YZ.JQ {K:za}{WX:Str->Hp->Prop}{P:Addr->Prop}{H H1:Hp}{Q:VK}{xs:List V}{ds:List D}(h:YZ K WX P H Q (.ok (.lst (ds.map .sh))))(s1:Ae H H1)(hx:Ag K (del H1 P) xs ds):∀p,H1 p=none->Q (.ref p) (upd H1 p (.lst xs)):=λ p hp=>by
 have hn:∀a∈[p],H1 a=none:=λ a ha=>by rw[zw.mp ha];exact hp
 exact h _ [p] _ (s1.trans (AM hp _)) (λ a ha=>Hk s1 (hn a ha)) (by simp) (.lst AH (hx.mono (Ep (AM hp _) hn)).ows)
theorem Aw.gQ {K:za}{H:Hp}{P:Addr->Prop}:∀ {xs:List V}{ds:List D}{fp:List Addr},Aw K H P xs (ds.map .sh) fp->fp=[]/\Ag K (del H P) xs ds
 |_,[],_,.nil=>⟨rfl,.nil⟩
 |_,d::ds,_,.cons (.sh h) r=>by
  obtain⟨rfl,q⟩:=Aw.gQ r;exact⟨rfl,.cons h q⟩
noncomputable def KL:Cl->Cl
 | .val d=>.val d
 | .own ds=>.val (.lst ds)
 | .ow (.rows Gv)=>.val (.lst (Gv.map D.lst))
 | .ow (.L0 _ ds)=>.val (.lst ds)
 | .ow (.tree _ t)=>.val (er t)
noncomputable def HN (ρ:Aa):Aa:=ρ.map λ o=>o.map KL
@[simp] theorem ES:HN []=[]:=rfl
@[simp] theorem Dq (ρ:Aa):HN (none::ρ)=none::HN ρ:=rfl
@[simp] theorem Dr (c:Cl) (ρ:Aa):HN (some c::ρ)=some (KL c)::HN ρ:=rfl
theorem Ai.low {K:za}{P0:Dn}{P:Addr->Prop}{H:Hp}{σ:St}{ρ:Aa}(E:Ai K P0 P H σ ρ):Ai K P0 P0 H σ (HN ρ):=by
 have key:∀(i:Nat) (c:Cl),(HN ρ)[i]?=some (some c)->∃c',ρ[i]?=some (some c')/\c=KL c':=λ i c h=>by
  unfold HN at h;rw[zG] at h;cases q:ρ[i]? with
  |none=>rw[q] at h;cases h
  |some o =>
   rw[q] at h;cases o with
   |none=>cases h
   |some c'=>cases h;exact⟨c',rfl,rfl⟩
 have nu:∀c,HM (KL c)=false:=λ c=>by
  cases c with
  |val d|own ds=>rfl
  |ow o=>cases o<;>rfl
 have iy:∀c,Nr (KL c)=none:=λ c=>by
  cases c with
  |val d|own ds=>rfl
  |ow o=>cases o<;>rfl
 have tY:∀c v fp,¬ CW K H P0 (KL c) v fp:=λ c v fp h=>by
  cases c with
  |val d|own ds=>exact h
  |ow o=>cases o<;>exact h
 refine⟨λ _ h=>h,λ a h=>E.Cf a (E.sub a h),λ i d h=>?_,λ i c h io=>?_,λ i j c c' v v' fp ai hi hj si sj h h' ae=>?_,by unfold HN;rw[zf];exact E.len,λ i c n h hp=>by obtain⟨c',h1,rfl⟩:=key i _ h;rw[iy] at hp;cases hp⟩
 ·obtain⟨c,h1,h2⟩:=key i _ h;cases c with
  |val d' =>
   cases h2;obtain⟨v,q1,q2⟩:=E.val i d h1;exact⟨v,q1,q2.mono (Ci E.sub)⟩
  |own ds =>
   cases h2;obtain⟨p,xs,q1,q2,q3,q4,q5⟩:=E.own i ds h1;exact⟨_,q1,.lst (.of (show del H P0 p=_ by rw[AE q4];exact q2)) (q5.mono (Ci E.sub))⟩
  |ow o =>
   obtain⟨v,fp,q1,q2,q3,q4⟩:=E.ows i _ h1 rfl;cases o with
   |rows Gv =>
    cases h2;obtain⟨p,ps,rfl,rfl,q5,q6⟩:=q2;exact⟨_,q1,.lst (.of (show del H P0 p=_ by rw[AE (q3 p zd).2];exact q5)) (q6.fZ E.sub λ a ha=>(q3 a (ze _ ha)).2)⟩
   |L0 p ds =>
    cases h2;obtain⟨p,xs,rfl,rfl,q5,q6⟩:=q2;exact⟨_,q1,.lst (.of (show del H P0 p=_ by rw[AE (q3 p zd).2];exact q5)) (q6.mono (Ci E.sub))⟩
   |tree p t =>
    cases h2;exact⟨_,q1,BF.has E.sub (λ a ha=>(q3 a ha).2) q2⟩
 ·obtain⟨c',h1,rfl⟩:=key i _ h;rw[nu] at io;cases io
 ·obtain⟨c1,h1,rfl⟩:=key i _ hi;exact (tY _ _ _ h).elim
theorem LP {ft:Aa->M Bool}(h:DT X WX e ft):DT X WX e (λ ρ=>ft (HN ρ)):=by
 obtain⟨t,h1,h2⟩:=h;exact⟨t,h1,λ P0 P σ H Q ρ E g=>h2 P0 P0 σ H Q (HN ρ) E.low g⟩
mutual
noncomputable def HP:OT->Bool
 | .sh d=>JL d
 | .lst ts| .tup ts| .Bh _ _ ts| .ins _ _ ts=>Gf ts
noncomputable def Gf:List OT->Bool
 |[]=>true
 |t::r=>HP t&&Gf r
end
mutual
theorem BF.clean {K:za}{H:Hp}{P P':Addr->Prop}(ht:∀a,P' a->El H a):∀ {v:V}{t:OT}{fp:List Addr},HP t=true->BF K H P v t fp->BF K H P' v t fp
 |_,_,_,n,.sh h=>.sh (h.JL ht (by rw[HP] at n;exact n))
 |_,_,_,n,.lst h r=>.lst h (Aw.clean ht (by rw[HP] at n;exact n) r)
 |_,_,_,n,.tup h r=>.tup (SK ht h) (Aw.clean ht (by rw[HP] at n;exact n) r)
 |_,_,_,n,.dK h r=>.dK h (Aw.clean ht (by rw[HP] at n;exact n) r)
 |_,_,_,n,.dT h r=>.dT h (Aw.clean ht (by rw[HP] at n;exact n) r)
 |_,_,_,n,.ins x h r=>.ins x h (Aw.clean ht (by rw[HP] at n;exact n) r)
theorem Aw.clean {K:za}{H:Hp}{P P':Addr->Prop}(ht:∀a,P' a->El H a):∀ {v:List V}{t:List OT}{fp:List Addr},Gf t=true->Aw K H P v t fp->Aw K H P' v t fp
 |_,_,_,_,.nil=>.nil
 |_,_,_,n,.cons h r=>by
  rw[Gf,zW] at n;exact .cons (BF.clean ht n.1 h) (Aw.clean ht n.2 r)
end
noncomputable def Ur (m:M OT):M OT:=m.bind λ t=>if HP t=true then .ok t else .bad
theorem Ij (h:DN X WX e fn):DN X WX e (λ ρ=>Ur (fn (HN ρ))):=by
 obtain⟨t,h1,h2⟩:=h;refine⟨t,h1,λ P0 P σ H Q ρ E g=>h2 P0 P0 σ H Q (HN ρ) E.low ?_⟩;unfold Ur at g;dsimp only at g;cases q:fn (HN ρ) with
 |bad|ex x=>rw[q] at g;exact g
 |ok t =>
  rw[q] at g;simp only[M.A6] at g;by_cases hf:HP t=true
  ·rw[if_pos hf] at g;exact λ v fp H' s hn nd o=>g v fp H' s hn nd (o.clean (JO (E.same s).Cf o) hf)
  ·rw[if_neg hf] at g;exact g.elim
noncomputable def JQ (d:D):M OT:=match d with
 | .lst ds| .tup ds=>.ok (.lst (ds.map .sh))
 |_=>.bad
theorem L7 {p:Pos}(hg:Gl X "list")(hm:X.mg "list" = none)(ha:DE X WX true e f)(hb:bootBuiltins "list" = some (.type "list"):=by decide +kernel)(aT:starEach [e] X.env=[(false,eval e X.env)]:=by rfl):
 DN X WX (.Call (.Name "list" p) [e] [] pos) (λ ρ=>(f ρ).bind JQ):=by
 obtain⟨ta,a1,a2⟩:=ha;refine⟨_,Nj Oq hg hm hb (Bf a1 BZ aT) (he:=aT),λ P0 P σ H Q ρ E h=>?_⟩;dsimp only at h;refine a2 P0 P σ H _ ρ E ?_;cases q:f ρ with
 |bad|ex x=>rw[q] at h;exact h
 |ok d =>
  rw[q] at h;simp only[M.A6] at h;intro v H1 s1 hv;unfold JQ at h;split at h
  ·cases hv with
   |lst hs hh=>exact⟨_,_,rfl,.inl hs.Bi,h.JQ s1 hh⟩
  ·cases hv with
   |tup hs hh=>exact⟨_,_,rfl,.inr (Fx.of (An hs).2),h.JQ s1 hh⟩
  ·exact h.elim
end
noncomputable def spT (K:za)(n:Nat)(F:List D->M OT):Sp:=λ vs H Q E=>vs.length=n/\∃P ds,(∀a,P a->El H a)/\Ag K (del H P) vs ds/\YZ K (D7 K E) P H Q (F ds)
noncomputable def mF:Cl->M OT
 | .val d=>.ok (.sh d)
 | .own ds=>.ok (.lst (ds.map .sh))
 | .ow (.rows Gv)=>.ok (.lst (Gv.map λ ds=>.lst (ds.map .sh)))
 | .ow (.L0 _ _)=>.bad
 | .ow (.tree none t)=>.ok t
 | .ow (.tree (some _) _)=>.bad
noncomputable def Us (m:M Out):M OT:=match m with
 | .ok (.ret d)=>.ok (.sh d)
 | .ok (.Cg c)=>mF c
 | .ok (.next _)=>.ok (.sh .Az)
 | .ex x=>.ex x
 |_=>.bad
theorem DV.ows {K:za}{H:Hp}{P:Addr->Prop}:∀ {ps:List Addr}{Gv:List (List D)},DV K H P ps Gv->Aw K H P (ps.map V.ref) (Gv.map λ ds=>.lst (ds.map .sh)) ps
 |_,_,.nil=>.nil
 |_,_,.cons h r t=>.cons (.lst h r.ows) t.ows
theorem CW.tree {K:za}{H:Hp}{P:Addr->Prop}{c:Cl}{v:V}{fp:List Addr}{t:OT}(h:CW K H P c v fp)(e:mF c=.ok t):BF K H P v t fp:=by
 cases c with
 |val d=>exact h.elim
 |own ds =>
  cases e;obtain⟨p,xs,rfl,rfl,h1,h2⟩:=h;exact .lst h1 h2.ows
 |ow o =>
  cases o with
  |rows Gv =>
   cases e;obtain⟨p,ps,rfl,rfl,h1,h2⟩:=h;exact .lst h1 h2.ows
  |L0 p ds=>cases e
  |tree p t' =>
   cases p with
   |none=>cases e;exact h
   |some q=>cases e
section
variable {P:Program}{w:World}{K:za}{mg:Str->Option Value}{base:Heap}
theorem Z1 {WX:Str->Hp->Prop}{P P2:Addr->Prop}{H H':Hp}{Q:VK}{c:Cl}{v:V}{fp:List Addr}(h:YZ K WX P H Q (mF c))(t:Tr P P H P2 H')(hs:∀a,P a->P2 a)(ho:CW K H' P2 c v fp)(hp:∀a∈fp,P2 a/\¬ P a)(nd:fp.Nodup):Q v H':=by
 cases q:mF c with
 |bad=>rw[q] at h;exact h.elim
 |ex x=>cases c with
  |val d|own ds=>cases q
  |ow o =>
   cases o with
   |rows Gv|L0 p ds=>cases q
   |tree p t'=>cases p<;>cases q
 |ok u =>
  rw[q] at h;have o:=ho.tree q;refine h v fp H' (Dh t) (λ a ha=>gM t (hp a ha).1 (hp a ha).2) nd (o.move (Ci λ a ha=>ha.elim (hs a) λ z=>(hp a z).1) λ _ _=>rfl)
theorem mG {x qual:Str}{st:Stmt}{f:Addr}{fd:FuncData}{N ps:List Str}{k:Nat}(F:Vr K x qual st f fd)(S:Ah N ps (A4 st))(g:Aa->M Out)
 (hb:∀(B6:Value) (A:Around) (outer:List Env) (s:Shared) (H:Hp) (E:XK),By k (A.deeper (envOfC qual (A4 st) s.heap.objs.size f B6))->R9 (SI P w K mg base N qual (A4 st) f B6 A outer s H E) (D7 K E) (Au st) g):
 D5 P w K mg base (RK P w base) (k+1) f fd ps (spT K ps.length λ ds=>Us (g (AI N ds))):=by
 obtain⟨oc,od,kV,doc,pm,an,B6,ct,Pj,rfl,lk,bd⟩:=F.ex;refine Sw lk bd S (λ vs H Q E h=>h.1) λ A outer s H vs Q E hr h=>?_;obtain⟨hl,P',ds,ht,hv,hq⟩:=h;obtain⟨t,h1,h2⟩:=hb B6 A outer s H E hr;refine⟨t,h1,h2 ⟨P',λ _=>0⟩ P' _ H _ _ (Nx ht hv) ?_⟩;dsimp only at hq;revert hq;cases g (AI N ds) with
 |bad=>exact λ h=>h.elim
 |ex x=>exact λ h H' P2 t=>h H' (Dh t)
 |ok o =>
  cases o with
  |ret d=>exact λ h v H' P2 t hv=>h v [] H' (Dh t) (λ a ha=>by cases ha) yC (.sh (by rw[RM];exact hv))
  |next ρ=>exact λ h σ' H' P2 t E=>h .Az [] H' (Dh t) (λ a ha=>by cases ha) yC (.sh .Az)
  |brk ρ|cont ρ=>exact λ h=>h.elim
  |Cg c=>exact λ h v fp H' P2 t hs ht ho hp nd=>Z1 h t hs ho hp nd
  |EQ d ρ=>exact λ h=>h.elim
end
structure CY (P:Program)(w:World)(K:za)(mg:Str->Option Value)(base:Heap)(x:Str)(k n:Nat)(F:List D->M OT):Prop where
 ex:∃fa fd ps,D5 P w K mg base (RK P w base) k fa fd ps (spT K n F)/\mg x=some (.ref fa)/\zQ K (.ref fa)=true/\Binds K fd ps []
theorem B0 {P:Program}{w:World}{K:za}{mg:Str->Option Value}{base:Heap}{x:Str}{st:Stmt}{N ps:List Str}{k n:Nat}(T:B5 K mg x st ps)(S:Ah N ps (A4 st))(g:Aa->M Out)
 (hb:∀(f:Addr) (B6:Value) (A:Around) (outer:List Env) (s:Shared) (H:Hp) (E:XK),By k (A.deeper (envOfC x (A4 st) s.heap.objs.size f B6))->R9 (SI P w K mg base N x (A4 st) f B6 A outer s H E) (D7 K E) (Au st) g) (hn:ps.length=n:=by rfl):
 CY P w K mg base x (k+1) n (λ ds=>Us (g (AI N ds))):=by
 obtain⟨f,fd,F,hm,hB⟩:=T.ex;subst hn;exact⟨⟨f,fd,ps,mG F S g (hb f),hm,F.kp,hB⟩⟩
section
variable {X:Cx}{E:XK}{WX:Str->Hp->Prop}{c:Bool}{e:Expr}{es:List Expr}{fs:Aa->M (List D)}{f:Aa->M D}{fn:Aa->M OT}{ft:Aa->M Bool}{pos:Pos}
theorem Ak {k n:Nat}{F:List D->M OT}{x:Str}{p:Pos}(xo:XCall X E)(G:CY X.prog X.w X.K X.mg X.base x k n F)(hr:By k X.A)(hg:Gl X x)(ha:DA X (D7 X.K E) true (e::es) fs)(hn:(e::es).length=n)
 (aU:(x==("__debug__" : Str))=false:=by decide) (he:starEach (e::es) X.env=(false,eval e X.env)::starEach es X.env:=by rfl) (hpl:(backTo pos (starEach es X.env)).any (·.1)=false:=by rfl):
 DN X (D7 X.K E) (.Call (.Name x p) (e::es) [] pos) (λ ρ=>(fs ρ).bind F):=by
 obtain⟨fa,fd,ps,hF,hm,hk,hb⟩:=G.ex;obtain⟨ta,a1,a2,a3⟩:=ha;refine⟨_,Sv hF hr hg hm hk hb .nil xo.call a1 aU he hpl,λ P0 P σ H Q ρ E h=>?_⟩;dsimp only at h;refine a2 P0 P σ H _ ρ E ?_;cases q:fs ρ with
 |bad|ex x=>rw[q] at h;exact h
 |ok ds =>
  rw[q] at h;simp only[M.A6] at h;intro vs H1 s1 aN;rw[yb];exact⟨by rw[aN.length,a3 ρ ds q];exact hn,P,ds,(E.same s1).Cf,aN,h.same s1⟩
theorem FI (h:DN X WX e fn):DN X (λ _ _=>False) e fn:=by
 obtain⟨t,h1,h2⟩:=h;refine⟨t,h1,λ P0 P σ H Q ρ E g=>h2 P0 P σ H Q ρ E ?_⟩;cases q:fn ρ with
 |bad=>rw[q] at g;exact g
 |ex x=>rw[q] at g;exact (g H (Ae.refl H)).elim
 |ok t=>rw[q] at g;exact g
noncomputable def Ut (t:OT):M Out:=match t with
 | .sh d=>.ok (.ret d)
 |t=>.ok (.Cg (.ow (.tree none t)))
end
section
variable {X:Cx}{WX:Str->Hp->Prop}{c:Bool}{P0:Dn}{P:Addr->Prop}{H:Hp}{σ:St}{ρ:Aa}{a b e:Expr}{f g:Aa->M D}{fn:Aa->M OT}{pos:Pos}
theorem Ai.nU {K:za}{H':Hp}{fp:List Addr}(E:Ai K P0 P H σ ρ)(s:Ae H H')(hn:∀a∈fp,H a=none):Tr P0 P H (PU P fp) H':=
 ⟨Ep s hn,λ a ha=>by obtain⟨o,q,_⟩:=E.Cf a (E.sub a ha);rw[q];exact s _ _ q⟩
theorem Aj (ha:DN X WX e fn):DS X WX (.Return (some e) pos) (λ ρ=>(fn ρ).bind Ut):=by
 obtain⟨ta,a1,a2⟩:=ha;refine⟨_,Rf a1,λ P0 P σ H Z ρ E h=>?_⟩;dsimp only at h;refine a2 P0 P σ H _ ρ E ?_;cases q:fn ρ with
 |bad=>rw[q] at h;exact h
 |ex x=>rw[q] at h;exact λ H' s=>h H' P (E.tr s)
 |ok t =>
  rw[q] at h;simp only[M.A6] at h;intro v fp H' s hn nd o;have key:gS X.K WX P0 P H Z (.ok (.Cg (.ow (.tree none t))))->Z.rt v H':=λ h =>
   h v fp H' (PU P fp) (E.nU s hn) (λ a ha=>.inl (E.sub a ha)) (JO (E.same s).Cf o) o (λ a ha=>⟨.inr ha,λ z=>(E.Cf a (E.sub a z)).no (hn a ha)⟩) nd
  cases t with
  |sh d =>
   cases o with
   |sh hv=>exact h v H' P (E.tr s) (hv.mono (Ci λ a ha=>.inl (E.sub a ha)))
  |lst ts|tup ts|Bh b ks ts|ins x ns ts=>exact key h
noncomputable def E5:List OT->Option (List D)
 |[]=>some []
 | .sh d::r=>(E5 r).map (d::·)
 |_::_=>none
theorem Cc:∀ds:List D,E5 (ds.map .sh)=some ds
 |[]=>rfl
 |d::r=>by rw[zg,E5,Cc r];rfl
theorem CN:∀ {ts:List OT}{ds:List D},E5 ts=some ds->ts=ds.map .sh
 |[],ds,h=>by cases h;rfl
 | .sh d::r,ds,h=>by
  rw[E5] at h;cases q:E5 r with
  |none=>rw[q] at h;cases h
  |some es=>rw[q] at h;cases h;rw[zg,<-CN q]
 | .lst _::r,ds,h| .tup _::r,ds,h| .Bh _ _ _::r,ds,h| .ins _ _ _::r,ds,h=>by cases h
noncomputable def toCl (p:Option Nat)(t:OT):Cl:=match t with
 | .lst ts=>(match E5 ts with
  |some ds=>(match p with|none=>.own ds|some q=>.ow (.L0 q ds))
  |none=>.ow (.tree p (.lst ts)))
 |t=>.ow (.tree p t)
@[simp] theorem toCl_list (ds:List D):toCl none (.lst (ds.map .sh))=.own ds:=by unfold toCl;simp only[Cc]
@[simp] theorem toCl_listP (q:Nat) (ds:List D):toCl (some q) (.lst (ds.map .sh))=.ow (.L0 q ds):=by unfold toCl;simp only[Cc]
@[simp] theorem toCl_dct (p:Option Nat) (b:Bool) (ks:List D) (ts:List OT):toCl p (.Bh b ks ts)=.ow (.tree p (.Bh b ks ts)):=rfl
noncomputable def treeOf:Cl->Option (Option Nat×OT)
 | .own ds=>some (none,.lst (ds.map .sh))
 | .ow (.L0 p ds)=>some (some p,.lst (ds.map .sh))
 | .ow (.rows Gv)=>some (none,.lst (Gv.map λ ds=>.lst (ds.map .sh)))
 | .ow (.tree p t)=>some (p,t)
 | .val _=>none
theorem CW.toT {K:za}{H:Hp}{P:Addr->Prop}{c:Cl}{v:V}{fp:List Addr}{p:Option Nat}{t:OT}(h:CW K H P c v fp)(e:treeOf c=some (p,t)):BF K H P v t fp:=by
 cases c with
 |val d=>exact h.elim
 |own ds =>
  cases e;obtain⟨p,xs,rfl,rfl,h1,h2⟩:=h;exact .lst h1 h2.ows
 |ow o =>
  cases o with
  |rows Gv =>
   cases e;obtain⟨p,ps,rfl,rfl,h1,h2⟩:=h;exact .lst h1 h2.ows
  |L0 p ds =>
   cases e;obtain⟨p,xs,rfl,rfl,h1,h2⟩:=h;exact .lst h1 h2.ows
  |tree p t'=>cases e;exact h
theorem CW.toCl {K:za}{H:Hp}{P:Addr->Prop}{v:V}{fp:List Addr}{p:Option Nat}{t:OT}(h:BF K H P v t fp):CW K H P (toCl p t) v fp:=by
 unfold L2.toCl;split
 ·rename_i ts;cases q:E5 ts with
  |none=>exact h
  |some ds =>
   have e:=CN q;subst e;cases h with
   |lst h1 h2 =>
    obtain⟨rfl,h3⟩:=h2.gQ;cases p with
    |none|some q=>exact⟨_,_,rfl,rfl,h1,h3⟩
 ·exact h
theorem FJ (p:Option Nat)(t:OT):Nr (toCl p t)=p:=by
 unfold toCl;split
 ·rename_i ts;cases q:E5 ts with
  |none|some ds=>cases p<;>rfl
 ·cases p<;>rfl
theorem Ik {c:Cl}{p:Option Nat}{t:OT}(h:treeOf c=some (p,t)):Nr c=p:=by
 cases c with
 |val d=>cases h
 |own ds=>cases h;rfl
 |ow o =>
  cases o with
  |rows Gv|L0 p ds=>cases h;rfl
  |tree p t=>cases h;cases p<;>rfl
noncomputable def Q8 (i:Nat)(ρ:Aa)(t:OT):M Out:=match t with
 | .sh d=>.ok (.next (ρ.set i (some (.val d))))
 |t=>.ok (.next (ρ.set i (some (toCl none t))))
theorem mH {K:za}{i:Nat}{t:OT}{v:V}{fp:List Addr}{H':Hp}{Z:Ends}(E:Ai K P0 P H σ ρ)(s:Ae H H')(hn:∀a∈fp,H a=none)(nd:fp.Nodup)(o:BF K H' (PU P fp) v t fp)(h:gS K WX P0 P H Z (Q8 i ρ t)):Z.nx (σ.set i (some v)) H':=by
 have key:gS K WX P0 P H Z (.ok (.next (ρ.set i (some (toCl none t)))))->Z.nx (σ.set i (some v)) H':=λ h=>by
  refine h _ H' (PU P fp) (E.nU s hn) (E.YM LN (JO (E.same s).Cf o) (Ep s hn) (λ j c' v' ai ae g1 g2 g3 a ha=>?_) (CW.toCl o) (λ a ha=>⟨.inr ha,λ z=>(E.Cf a (E.sub a z)).no (hn a ha)⟩) nd (λ n z=>by rw[FJ] at z;cases z));obtain⟨xs,z⟩:=g3.at a ha;exact⟨by rw[z];exact s _ _ z,λ w=>by rw[hn a w] at z;cases z⟩
 cases t with
 |sh d =>
  cases o with
  |sh hv=>exact h _ H' P (E.tr s) ((E.same s).RG (by rw[RM] at hv;exact hv))
 |lst ts|tup ts|Bh b ks ts|ins x ns ts=>exact key h
theorem BY (i:Nat){x:Str}{pos':Pos}(hN:X.N.Nodup)(hi:X.N[i]?=some x)(hx:Loc X.env.scope x)(ha:DN X WX e fn)(hs:swapsWith e (some (.Name x pos')) pos.line X.env=pure false:=by rfl)(hf:X.fn x=true\/X.env.scope.names.lookup x=some .local:=by first | exact .inl rfl | exact .inr rfl | assumption):
 DS X WX (.Assign [.Name x pos'] e pos) (λ ρ=>(fn ρ).bind (Q8 i ρ)):=by
 obtain⟨ta,a1,a2⟩:=ha;refine⟨_,Rg hN hi hx a1 hs hf,λ P0 P σ H Z ρ E h=>?_⟩;dsimp only at h;refine a2 P0 P σ H _ ρ E ?_;cases q:fn ρ with
 |bad=>rw[q] at h;exact h
 |ex x=>rw[q] at h;exact λ H' s=>h H' P (E.tr s)
 |ok t =>
  rw[q] at h;exact λ v fp H' s hn nd o=>mH E s hn nd o h
noncomputable def RN (i:Nat)(ρ:Aa):M Out:=match ρ[i]? with
 |some (some (.val d))=>.ok (.ret d)
 |some (some c)=>.ok (.Cg c)
 |_=>.bad
theorem Er (i:Nat){x:Str}{p1:Pos}(hv:PE X (.Name x p1) (Pq i)):DS X WX (.Return (some (.Name x p1)) pos) (RN i):=by
 refine⟨_,Rf hv,λ P0 P σ H Z ρ E h=>?_⟩;unfold RN at h;split at h
 ·rename_i d e1;obtain⟨v,h1,h2⟩:=E.val i d e1;exact⟨v,h1,h v H P Tr.refl (h2.mono (Ci E.sub))⟩
 ·rename_i c hc e1;have io:HM c=true:=by
   cases c with
   |val d=>exact (hc d rfl).elim
   |own ds|ow o=>rfl
  obtain⟨v,fp,h1,h2,h3,h4⟩:=E.ows i _ e1 io;exact⟨v,h1,h v fp H P Tr.refl E.sub E.Cf h2 h3 h4⟩
 ·exact h.elim
theorem OH:∀ds:List D,Rz (ds.map .sh)=ds
 |[]=>rfl
 |d::r=>by rw[zg,Rz,er,OH r]
noncomputable def WI (i:Nat)(ρ:Aa):Aa:=match ρ[i]? with
 |some (some c)=>ρ.set i (some (KL c))
 |_=>ρ
end
section
variable {K:za}{H H':Hp}{P P':Addr->Prop}
theorem Cb.same {v:V}{t:OT}{q:List Addr}{xs:List V}(e:Ae H H')(h:Cb K H P v t q xs):Cb K H' P v t q xs:=by
 cases t with
 |sh d=>exact h.elim
 |lst ts=>obtain⟨p,rfl,rfl,h⟩:=h;exact⟨p,rfl,rfl,e _ _ h⟩
 |tup ts=>obtain⟨p,rfl,rfl,h⟩:=h;exact⟨p,rfl,rfl,e.del _ _ h⟩
 |Bh b ks ts =>
  cases b with
  |false|true=>obtain⟨p,kvs,rfl,rfl,h,rfl,rfl⟩:=h;exact⟨p,kvs,rfl,rfl,e _ _ h,rfl,rfl⟩
 |ins x ns ts=>obtain⟨p,C,dx,fs,rfl,rfl,n,h,rfl,rfl⟩:=h;exact⟨p,C,dx,fs,rfl,rfl,n,e _ _ h,rfl,rfl⟩
theorem Ja.same {v v1:V}{t t1:OT}{π:List Nat}(e:Ae H H')(h:Ja K H P v t π v1 t1):Ja K H' P v t π v1 t1:=by
 induction h with
 |nil=>exact .nil
 |cons n hx hs _ ih=>exact .cons (n.same e) hx hs ih
theorem Cb.more {v:V}{t:OT}{q:List Addr}{xs:List V}(sm:Ae (del H P) (del H' P'))(e:Ae H H')(h:Cb K H P v t q xs):Cb K H' P' v t q xs:=by
 cases t with
 |sh d=>exact h.elim
 |lst ts=>obtain⟨p,rfl,rfl,h⟩:=h;exact⟨p,rfl,rfl,e _ _ h⟩
 |tup ts=>obtain⟨p,rfl,rfl,h⟩:=h;exact⟨p,rfl,rfl,sm _ _ h⟩
 |Bh b ks ts =>
  cases b with
  |false|true=>obtain⟨p,kvs,rfl,rfl,h,rfl,rfl⟩:=h;exact⟨p,kvs,rfl,rfl,e _ _ h,rfl,rfl⟩
 |ins x ns ts=>obtain⟨p,C,dx,fs,rfl,rfl,n,h,rfl,rfl⟩:=h;exact⟨p,C,dx,fs,rfl,rfl,n,e _ _ h,rfl,rfl⟩
theorem Ja.more {v v1:V}{t t1:OT}{π:List Nat}(sm:Ae (del H P) (del H' P'))(e:Ae H H')(h:Ja K H P v t π v1 t1):Ja K H' P' v t π v1 t1:=by
 induction h with
 |nil=>exact .nil
 |cons n hx hs _ ih=>exact .cons (n.more sm e) hx hs ih
end
noncomputable def SO (i:Nat)(ρ:Aa)(π:List Nat):Option OT:=match ρ[i]? with
 |some (some c)=>(match treeOf c with|some (_,t)=>JN t π|none=>none)
 |_=>none
structure B8 (K:za)(P:Addr->Prop)(H:Hp)(σ:St)(ρ:Aa)(i:Nat)(π:List Nat)(v:V)(t1:OT):Prop where
 ex:∃v0 c p t,ρ[i]?=some (some c)/\treeOf c=some (p,t)/\σ[i]?=some (some v0)/\Ja K H P v0 t π v t1
theorem B8.at {K:za}{P:Addr->Prop}{H:Hp}{σ:St}{ρ:Aa}{i:Nat}{π:List Nat}{v:V}{t1:OT}(h:B8 K P H σ ρ i π v t1):SO i ρ π=some t1:=by
 obtain⟨v0,c,p,t,h1,h2,h3,h4⟩:=h.ex;unfold SO;simp only[h1,h2];exact h4.sub
theorem B8.same {K:za}{P:Addr->Prop}{H H':Hp}{σ:St}{ρ:Aa}{i:Nat}{π:List Nat}{v:V}{t1:OT}(e:Ae H H')(h:B8 K P H σ ρ i π v t1):B8 K P H' σ ρ i π v t1:=by
 obtain⟨v0,c,p,t,h1,h2,h3,h4⟩:=h.ex;exact⟨v0,c,p,t,h1,h2,h3,h4.same e⟩
theorem B8.more {K:za}{P P':Addr->Prop}{H H':Hp}{σ:St}{ρ:Aa}{i:Nat}{π:List Nat}{v:V}{t1:OT}(sm:Ae (del H P) (del H' P'))(e:Ae H H')(h:B8 K P H σ ρ i π v t1):B8 K P' H' σ ρ i π v t1:=by
 obtain⟨v0,c,p,t,h1,h2,h3,h4⟩:=h.ex;exact⟨v0,c,p,t,h1,h2,h3,h4.more sm e⟩
theorem B8.own {K:za}{P0:Dn}{P:Addr->Prop}{H:Hp}{σ:St}{ρ:Aa}{i:Nat}{π:List Nat}{v:V}{t1:OT}(h:B8 K P H σ ρ i π v t1)(E:Ai K P0 P H σ ρ):∃az,BF K H P v t1 az/\(∀a∈az,P a/\¬ P0 a)/\az.Nodup:=by
 obtain⟨v0,c,p,t,h1,h2,h3,h4⟩:=h.ex;have io:HM c=true:=by cases c<;>first|rfl|cases h2
 obtain⟨w,fp,k1,k2,k3,k4⟩:=E.ows i c h1 io;rw[h3] at k1;cases k1;obtain⟨az,o1,hk,kn⟩:=(k2.toT h2).part h4;exact⟨az,o1,λ a ha=>k3 a (hk a ha),kn k4⟩
def gP (K:za)(WX:Str->Hp->Prop)(P:Addr->Prop)(H:Hp)(σ:St)(ρ:Aa)(i:Nat)(Q:VK):M (List Nat)->Prop
 | .ok π=>∀v t1 H',Ae H H'->B8 K P H' σ ρ i π v t1->Q v H'
 | .ex x=>∀H',Ae H H'->WX x H'
 | .bad=>False
def DP (X:Cx)(WX:Str->Hp->Prop)(e:Expr)(i:Nat)(f:Aa->M (List Nat)):Prop:=
 ∃t,PE X e t/\∀P0 P σ H Q ρ,Ai X.K P0 P H σ ρ->gP X.K WX P H σ ρ i Q (f ρ)->t σ H Q
section
variable {X:Cx}{WX:Str->Hp->Prop}{c:Bool}{P0:Dn}{P:Addr->Prop}{H:Hp}{σ:St}{ρ:Aa}{a b e:Expr}{f g:Aa->M D}{fn:Aa->M OT}{fp:Aa->M (List Nat)}{pos:Pos}{i:Nat}
noncomputable def Q9 (i:Nat)(ρ:Aa):M (List Nat):=match SO i ρ [] with | some _=>.ok [] | none=>.bad
theorem Bt (i:Nat){x:Str}{p1:Pos}(hv:PE X (.Name x p1) (Pq i)):DP X WX (.Name x p1) i (Q9 i):=by
 refine⟨_,hv,λ P0 P σ H Q ρ E h=>?_⟩;unfold Q9 at h;split at h
 ·rename_i t e;unfold SO at e;split at e
  ·rename_i cl e1;split at e
   ·rename_i p t0 e2;have io:HM cl=true:=by cases cl<;>first|rfl|cases e2
    obtain⟨v,fp,h1,h2,h3,h4⟩:=E.ows i cl e1 io;exact⟨v,h1,h v t0 H (Ae.refl H) ⟨v,cl,p,t0,e1,e2,h1,.nil⟩⟩
   ·cases e
  ·cases e
 ·exact h.elim
noncomputable def pO (i:Nat)(ρ:Aa)(π:List Nat):M D:=match SO i ρ π with
 |some (.sh d)=>.ok d
 |_=>.bad
theorem Ai.mI {K:za}{P':Addr->Prop}{H':Hp}{π:List Nat}{v1:V}{t1 u:OT}{az fu:List Addr}(E:Ai K P0 P H σ ρ)(pl:B8 K P H σ ρ i π v1 t1)(o:BF K H P v1 t1 az)(hs:∀a,P a->P' a)(ht:∀a,P' a->El H' a)(sm:Ae (del H P) (del H' P'))(keep:∀a,P a->a∉az->H' a=H a)
 (o':BF K H' P' v1 u fu) (nd:fu.Nodup) (hf:∀a∈fu,a∈az\/(P' a/\¬ P0 a/\∀(j:Nat) c v fp,ρ[j]?=some (some c)->σ[j]?=some (some v)->CW K H P c v fp->a∉fp)):
 ∃c p t,ρ[i]?=some (some c)/\treeOf c=some (p,t)/\Ai K P0 P' H' σ (ρ.set i (some (toCl p (DZ t π u))))/\Tr P0 P H P' H':=by
 obtain⟨v0,c,p,t,h1,h2,h3,h4⟩:=pl.ex;have io:HM c=true:=by cases c<;>first|rfl|cases h2
 obtain⟨w,fp,k1,k2,k3,k4⟩:=E.ows i c h1 io;rw[h3] at k1;cases k1;have ot:=k2.toT h2;obtain⟨fz,oz,kz,_⟩:=ot.part h4;have:=oz.C1 o;subst this;obtain⟨ai,q1,q2,q3⟩:=ot.put sm h4 o o' (λ a ha hn=>keep a (k3 a ha).1 hn) k4 nd (λ a ha hb=>(hf a ha).elim id λ z=>(z.2.2 i c v0 fp h1 h3 k2 hb).elim);refine⟨c,p,t,h1,h2,?_,sm,λ a ha=>keep a (E.sub a ha) λ z=>(k3 a (kz a z)).2 ha⟩;have key:=E.YM (P':=P') (H':=H') (i:=i) (v:=v0) (c:=toCl p (DZ t π u)) (fp:=ai) hs ht sm (λ j c' v' fq ae g1 g2 g3 a ha=>?_) (CW.toCl q1) (λ a ha=>?_) q2 (λ n z=>by rw[FJ] at z;subst z;have:=E.pin i c n h1 (Ik h2);rw[h3] at this;cases this;rfl)
 ·rw[OA h3] at key;exact key
 ·have nv:a∉fp:=E.apart j i c' c v' v0 fq fp g1 h1 g2 h3 g3 k2 (yh ae) a ha;have iz:HM c'=true:=by cases c'<;>first|rfl|exact g3.elim
  obtain⟨w',fr,m1,m2,m3,m4⟩:=E.ows j c' g1 iz;rw[g2] at m1;cases m1;have:=m2.C1 g3;subst this;refine⟨keep a (m3 a ha).1 λ z=>nv (kz a z),λ z=>?_⟩;rcases q3 a z with y|y
  ·rcases hf a y with x|x
   ·exact nv (kz a x)
   ·exact x.2.2 j c' v' fr g1 g2 g3 ha
  ·exact nv y.1
 ·rcases q3 a ha with y|y
  ·rcases hf a y with x|x
   ·exact⟨hs a (k3 a (kz a x)).1,(k3 a (kz a x)).2⟩
   ·exact⟨x.1,x.2.1⟩
  ·exact⟨hs a (k3 a y.1).1,(k3 a y.1).2⟩
theorem Ai.gR {K:za}{π:List Nat}{l:Addr}{xs ys:List V}{ts us:List OT}{fq fu:List Addr}(E:Ai K P0 P H σ ρ)(pl:B8 K P H σ ρ i π (.ref l) (.lst ts))(hH:H l=some (.lst xs))(o:Aw K H P xs ts fq)(o':Aw K H P ys us fu)(nd:fu.Nodup)(hl:l∉fu)
 (hf:∀a∈fu,a∈fq\/(P a/\¬ P0 a/\∀(j:Nat) c v fp,ρ[j]?=some (some c)->σ[j]?=some (some v)->CW K H P c v fp->a∉fp)):
 ∃c p t,ρ[i]?=some (some c)/\treeOf c=some (p,t)/\Ai K P0 P (upd H l (.lst ys)) σ (ρ.set i (some (toCl p (DZ t π (.lst us)))))/\Tr P0 P H P (upd H l (.lst ys)):=by
 have ot:BF K H P (.ref l) (.lst ts) (l::fq):=.lst hH o;obtain⟨az,o1,hp,_⟩:=pl.own E;have:=o1.C1 ot;subst this;have pP:P l:=(hp l zd).1;have sd:del (upd H l (.lst ys)) P=del H P:=by
  funext b;by_cases hb:P b
  ·rw[FE hb,FE hb]
  ·rw[AE hb,AE hb,Am (λ z=>hb (by rw[z];exact pP))]
 have sm:Ae (del H P) (del (upd H l (.lst ys)) P):=by rw[sd];exact Ae.refl _
 refine E.mI pl ot (λ _ h=>h) (λ a h=>?_) sm (λ a ha hn=>Am λ z=>hn (by rw[z];exact zd)) (.lst AH (o'.move sm λ a ha=>Am λ z=>hl (by rw[<-z];exact ha))) (yd.mpr ⟨hl,nd⟩) (λ a ha=>?_)
 ·by_cases ha:a=l
  ·subst ha;exact El.lst AH
  ·unfold El;rw[Am ha];exact E.Cf a h
 ·rcases zl.mp ha with z|z
  ·exact .inl (by rw[z];exact zd)
  ·rcases hf a z with y|y
   ·exact .inl (ze _ y)
   ·exact .inr y
end
noncomputable def kd:D->Option Key
 | .int i=>some (.inl i)
 | .str x=>some (.inr x)
 |_=>none
noncomputable def jV:List D->Option (List Key)
 |[]=>some []
 |d::r=>match kd d,jV r with|some k,some ks=>some (k::ks)|_,_=>none
theorem cX {d:D}{k:Key}(h:kd d=some k):d=EA k:=by
 cases d<;>simp[kd] at h<;>subst h<;>rfl
theorem WJ:∀ {ds:List D}{ks:List Key},jV ds=some ks->ds=ks.map EA
 |[],ks,h=>by cases h;rfl
 |d::r,ks,h=>by
  rw[jV] at h;cases q:kd d with
  |none=>rw[q] at h;cases h
  |some k =>
   cases q2:jV r with
   |none=>rw[q,q2] at h;cases h
   |some i4 =>
    rw[q,q2] at h;cases h;rw[zg,<-cX q,<-WJ q2]
inductive Z2:Bool->D->Prop
 |k (κ:Key):Z2 false (EA κ)
 |t (κ:List Key):Z2 true (.tup (κ.map EA))
noncomputable def keyOk (b:Bool)(d:D):Bool:=match b,d with
 |false,d=>(kd d).isSome
 |true,.tup ds=>(jV ds).isSome
 |_,_=>false
theorem LQ {b:Bool}{d:D}(h:keyOk b d=true):Z2 b d:=by
 cases b with
 |false =>
  obtain⟨k,hk⟩:=yk.mp (show (kd d).isSome=true from h);rw[cX hk];exact .k k
 |true =>
  cases d with
  |tup ds =>
   obtain⟨k,hk⟩:=yk.mp (show (jV ds).isSome=true from h);rw[WJ hk];exact .t k
  |_=>cases h
theorem LR (a b:Key):Ao (EA a) (EA b)=decide (a=b):=by
 cases a with
 |inl i =>
  cases b with
  |inl j=>simp only[EA,Ao];rw[yV];simp
  |inr y=>simp[EA,Ao]
 |inr x =>
  cases b with
  |inl j=>simp[EA,Ao]
  |inr y=>simp only[EA,Ao];rw[yV];simp
theorem OI:∀a b:List Key,C0 (a.map EA) (b.map EA)=decide (a=b)
 |[],[]|[],_::_|_::_,[]=>by simp[C0]
 |a::r,b::t=>by
  rw[zg,zg,C0,LR,OI r t,yV];simp
noncomputable def Jb {α:Type}:List D->List α->D->Option α
 |k::ks,v::vs,y=>if Ao k y=true then some v else Jb ks vs y
 |_,_,_=>none
noncomputable def Il {α:Type}:List D->List α->D->α->List α
 |k::ks,v::vs,y,z=>(if Ao k y=true then z else v)::Il ks vs y z
 |_,vs,_,_=>vs
noncomputable def KN (ks:List D)(y:D):Bool:=ks.any λ k=>Ao k y
section
variable {κ:Type} [DecidableEq κ] {fk:κ->D}(hf:∀a b,Ao (fk a) (fk b)=decide (a=b))
include hf
theorem LS {α:Type}:∀(kvs:List (κ×α)) (k:κ),Jb (kvs.map λ kv=>fk kv.1) (kvs.map yA) (fk k)=(kvs.find? λ kv=>decide (kv.1=k)).map (·.2)
 |[],k=>rfl
 |p::r,k=>by
  rw[zg,zg,Jb,hf,xc];by_cases e:p.1=k
  ·rw[decide_eq_true e];rfl
  ·rw[decide_eq_false e];simp only[zC,if_false];exact LS r k
theorem Qa {α:Type}(kvs:List (κ×α))(k:κ):KN (kvs.map λ kv=>fk kv.1) (fk k)=kvs.any λ kv=>decide (kv.1=k):=by
 unfold KN;rw[List.any_map];congr 1;funext kv;exact hf _ _
theorem LU (k:κ)(v:V):∀(kvs:List (κ×V)),Il (kvs.map λ kv=>fk kv.1) (kvs.map yA) (fk k) v=(kvs.map λ kv=>if kv.1=k then (kv.1,v) else kv).map yA
 |[]=>rfl
 |p::r=>by
  rw[zg,zg,Il,hf,zg,zg,LU k v r];by_cases e:p.1=k
  ·rw[decide_eq_true e,if_pos e];rfl
  ·rw[decide_eq_false e,if_neg e];rfl
theorem LV (k:κ)(v:V):∀(kvs:List (κ×V)),(kvs.map λ kv=>if kv.1=k then (kv.1,v) else kv).map (λ kv=>fk kv.1)=kvs.map λ kv=>fk kv.1
 |[]=>rfl
 |p::r=>by
  rw[zg,zg,zg,LV k v r];by_cases e:p.1=k
  ·rw[if_pos e]
  ·rw[if_neg e]
end
theorem Qb {K:za}{H:Hp}:∀ {ks:List D}{xs:List V}{ds:List D}{y d:D},Ag K H xs ds->Jb ks ds y=some d->∃x,Jb ks xs y=some x/\BC K H x d
 |[],_,_,_,_,_,e|_::_,_,_,_,_,.nil,e=>by simp[Jb] at e
 |k::ks,_,_,y,d,.cons h t,e=>by
  rw[Jb] at e ⊢;by_cases q:Ao k y=true
  ·rw[if_pos q] at e ⊢;cases e;exact⟨_,rfl,h⟩
  ·rw[if_neg q] at e ⊢;exact Qb t e
theorem NF {α:Type}:∀ {ks:List D}{xs:List α}{y:D},xs.length=ks.length->KN ks y=(Jb ks xs y).isSome
 |[],[],y,_=>rfl
 |k::ks,x::xs,y,h=>by
  unfold KN;rw[xg,Jb];cases q:Ao k y with
  |true=>rfl
  |false =>
   simp only[Bool.false_or,zC,if_false];exact NF (by simpa using h)
 |[],_::_,_,h|_::_,[],_,h=>by cases h
theorem LW {K:za}{H:Hp}{P:Addr->Prop}{y d:D}{v:V}(hv:BC K (del H P) v d):∀ {ks:List D}{xs:List V}{ds:List D},Ag K (del H P) xs ds->Ag K (del H P) (Il ks xs y v) (Il ks ds y d)
 |[],_,_,h=>by simp only[Il];exact h
 |_::_,_,_,.nil=>by simp only[Il];exact .nil
 |k::ks,_,_,.cons h t=>by
  rw[Il,Il];refine .cons ?_ (LW hv t);by_cases q:Ao k y=true
  ·rw[if_pos q,if_pos q];exact hv
  ·rw[if_neg q,if_neg q];exact h
section
variable {K:za}{H:Hp}{P:Addr->Prop}
theorem Ag.keys:∀ {xs:List V}(κ:List Key),Ag K H xs (κ.map EA)->xs=κ.map kV
 |_,[],.nil=>rfl
 |_,k::r,.cons h t=>by
  rw[zg,<-Ag.keys r t];congr 1;cases k with
  |inl i=>exact h.int_inv
  |inr x=>cases h;rfl
theorem BC.mJ {y:V}{κ:Key}(h:BC K H y (EA κ)):y=kV κ:=by
 cases κ with
 |inl i=>exact h.int_inv
 |inr x=>cases h;rfl
theorem SQ {v y:V}{b:Bool}{ks vs:List D}{k:D}(hv:BC K (del H P) v (.Bh b ks vs))(hy:BC K (del H P) y k)(hk:Z2 b k):∃a xs,v=.ref a/\Rx H a y (Jb ks xs k)/\Ag K (del H P) xs vs/\xs.length=ks.length:=by
 cases hv with
 |IJ hh hl =>
  cases hk with
  |k κ =>
   refine⟨_,_,rfl,?_,hl,by simp⟩;rw[hy.mJ,LS LR];exact .inl ⟨_,κ,hh.Bi,rfl,rfl⟩
 |Ic hh hl =>
  cases hk with
  |t κ =>
   cases hy with
   |tup ht aM =>
    have e:=Ag.keys κ aM;subst e;refine⟨_,_,rfl,?_,hl,by simp⟩;rw[LS (fk:=λ κ:List Key=>D.tup (κ.map EA)) (λ a b=>by simp only[Ao];exact OI a b)];exact .inr ⟨_,κ,_,hh.Bi,rfl,(An ht).2,rfl⟩
end
section
variable {X:Cx}{WX:Str->Hp->Prop}{c:Bool}{P0:Dn}{P:Addr->Prop}{H:Hp}{σ:St}{ρ:Aa}{a b e:Expr}{f g:Aa->M D}{fn:Aa->M OT}{fp:Aa->M (List Nat)}{pos:Pos}{i:Nat}
noncomputable def mK:R2:=λ x y H Q=>∃a v,x=.ref a/\Rx H a y (some v)/\Q v H
theorem Z3 (hu:X.A.units+1<cLine):Yt X mK:=by
 intro value slice pins s σ H x y v u Q I rx ry h hs;obtain⟨a,z,rfl,g,q⟩:=h;cases rx;have hT:=PM I g;have h₂:wpAny (model X.prog X.w) X.A (getItem (.ref a) u) (EP X pins σ Q) X.xe s:=U9 hu I g ry λ w' s3 I3 bu=>⟨z,H,I3,bu,q⟩;unfold subscriptTail;refine wpAny_bind ?_;rw[getitemInPython_of_ne hT.not_modules];refine wpAny_bind (wpAny_specialOf hT PySem.F.slot_dict_getitem.lookup ?_);have fin:wpAny (model X.prog X.w) X.A (subscripted slice false (.ref a) u) (λ r s₃=>wpAny (model X.prog X.w) X.A (letTemporaryGo value (.ref a) r >>= λ _=>pure r) (EP X pins σ Q) X.xe s₃) X.xe s:=by
  rw[hs];exact wpAny_operating (wpAny_mono h₂ (λ r s₃ h₃=>wpAny_bind (wpAny_letTemporaryGo (wpAny_pure h₃))) λ _ _ x=>x)
 first
  |exact wpAny_pure (wpAny_bind fin)
  |exact wpAny_bind (wpAny_pure (wpAny_bind fin))
  |exact wpAny_bind fin
noncomputable def B1 (x y:D):M D:=match x with
 | .Bh b ks vs=>if keyOk b y=true then (match Jb ks vs y with|some d=>.ok d|none=>.bad) else .bad
 |x=>jU x y
theorem Z4:SF X.K WX (λ x y H Q=>(fE X.K x y H Q\/fF X.K x y H Q)\/mK x y H Q) B1:=by
 intro P H x y v w Q ht hx hy h;cases x with
 |Bh b ks vs =>
  simp only[B1] at h;by_cases hk:keyOk b y=true
  ·rw[if_pos hk] at h;obtain⟨a,xs,rfl,g,hl,_⟩:=SQ hx hy (LQ hk);split at h
   ·rename_i d e;obtain⟨u,e1,e2⟩:=Qb hl e;rw[e1] at g;exact .inr ⟨a,u,rfl,g,h _ H (Ae.refl H) e2⟩
   ·exact h.elim
  ·rw[if_neg hk] at h;exact h.elim
 |Az|bl b|int b|str b|tup b|lst b|Dl b|ins b _ _=>exact .inl (Gw P H _ y v w Q ht hx hy h)
theorem Ac {n:Nat}(hu:X.A.units+n<cLine)(ha:DE X WX c a f)(hb:DE X WX c b g)(hs:Oj b:=by exact λ _ _=>rfl)(hn:1<=n:=by decide):DE X WX c (.Subscript a b pos) (λ ρ=>(f ρ).bind λ x=>(g ρ).bind λ y=>B1 x y):=lU ((Yu.or fG).or (Z3 (by omega))) Z4 ha hb hs
noncomputable def gU (neg:Bool):R2:=λ y x H Q=>∃a o,x=.ref a/\Rx H a y o/\Q (.bl (if neg=true then !o.isSome else o.isSome)) H
theorem RO (hu:X.A.units+1<cLine):FA X (compareOp .In) (gU false):=by
 intro pins s σ H x y v u Q I rx ry h;obtain⟨a,o,rfl,g,q⟩:=h;cases ry;exact pF hu I g rx λ s3 I3=>⟨.bl o.isSome,H,I3,rfl,q⟩
theorem MU (hu:X.A.units+1<cLine):FA X (compareOp .NotIn) (gU true):=by
 intro pins s σ H x y v u Q I rx ry h;obtain⟨a,o,rfl,g,q⟩:=h;cases ry;exact YA hu I g rx λ s3 I3=>⟨.bl (!o.isSome),H,I3,rfl,q⟩
noncomputable def MV (neg:Bool)(y x:D):M D:=match x with
 | .Bh b ks vs=>if keyOk b y=true then .ok (.bl (if neg=true then !KN ks y else KN ks y)) else .bad
 |x=>nS neg y x
theorem SR {neg:Bool}:SF X.K WX (λ x y H Q=>nN X.K neg x y H Q\/gU neg x y H Q) (MV neg):=by
 intro P H x y v w Q ht hx hy h;cases y with
 |Bh b ks vs =>
  simp only[MV] at h;by_cases hk:keyOk b x=true
  ·rw[if_pos hk] at h;obtain⟨a,xs,rfl,g,hl,hn⟩:=SQ hy hx (LQ hk);rw[NF (xs:=xs) hn] at h;exact .inr ⟨a,_,rfl,g,h _ H (Ae.refl H) (.bl _)⟩
  ·rw[if_neg hk] at h;exact h.elim
 |Az|bl b|int b|str b|tup b|lst b|Dl b|ins b _ _=>exact .inl (GB P H x _ v w Q ht hx hy h)
theorem RP {n:Nat}(hu:X.A.units+n<cLine)(ha:DE X WX c a f)(hb:DE X WX c b g)(hm:behindInMarks .In b=false:=by rfl)(hn:1<=n:=by decide):DT X WX (.Compare a [.In] [b] pos) (λ ρ=>((f ρ).bind λ x=>(g ρ).bind λ y=>MV false x y).bind Lx):=FF (U4.or (RO (by omega))) SR ha hb hm
theorem L8 {n:Nat}(hu:X.A.units+n<cLine)(ha:DE X WX c a f)(hb:DE X WX c b g)(hm:behindInMarks .NotIn b=false:=by rfl)(hn:1<=n:=by decide):DT X WX (.Compare a [.NotIn] [b] pos) (λ ρ=>((f ρ).bind λ x=>(g ρ).bind λ y=>MV true x y).bind Lx):=FF (Om.or (MU (by omega))) SR ha hb hm
noncomputable def FK:D->M Bool
 | .Az=>.ok false
 | .bl b=>.ok b
 | .int i=>.ok (i != 0)
 | .tup ds| .lst ds=>.ok (!ds.isEmpty)
 |_=>.bad
theorem Jc {K:za}{H:Hp}{xs:List V}{ds:List D}(h:Ag K H xs ds):(!ds.isEmpty) = !xs.isEmpty:=by cases h<;>rfl
theorem Bz (h:DE X WX c e f)(he:∀whole,isTrue e X.env whole=(do let v <-whole;standAt e.pos;holding [v] (truthy v)):=by intro _;rfl):DT X WX e (λ ρ=>(f ρ).bind FK):=by
 obtain⟨t,h1,h2⟩:=h;refine⟨_,VO h1 he,λ P0 P σ H Q ρ E h=>h2 P0 P σ H _ ρ E ?_⟩;dsimp only at h;cases q:f ρ with
 |bad|ex x=>rw[q] at h;exact h
 |ok d =>
  rw[q] at h;simp only[M.A6] at h;intro v H' s hv;cases hv with
  |Az=>exact⟨false,rfl,h H' s⟩
  |bl b=>exact⟨b,rfl,h H' s⟩
  |int i=>exact⟨_,rfl,h H' s⟩
  |tup hs hl=>exact⟨_,.inr (.inl ⟨_,Fx.of (An hs).2,rfl⟩),by rw[<-Jc hl];exact h H' s⟩
  |lst hs hl=>exact⟨_,.inl ⟨_,hs.Bi,rfl⟩,by rw[<-Jc hl];exact h H' s⟩
  |_=>exact h.elim
end
noncomputable def Jd (m:M (List D)):M OT:=match m with | .ok ys=>.ok (.lst (ys.map .sh)) | _=>.bad
section
variable {X:Cx}{WX:Str->Hp->Prop}{c:Bool}{P0:Dn}{P:Addr->Prop}{H:Hp}{σ:St}{ρ:Aa}{a b e tg iter:Expr}{f g:Aa->M D}{ft:Aa->M Bool}{pos:Pos}{gt:D->Aa->M Aa}{fi:Aa->M (List D)}{es:List Expr}{fs:Aa->M (List D)}
theorem gW {μ:List (Option Nat)}{wi:TI}{gg:TG}{tc:Shared->Hp->Addr->List Addr->TT}{te:Shared->Hp->Addr->List Addr->TE}{fe:Aa->M D}
 (i2:∀P0 P σ H R ρ,Ai X.K P0 P H σ ρ->(match fi ρ with | .ok ds=>∀J H',Ae H H'->YN X.K J P H' ds->R J H' | .ex x=>∀H',Ae H H'->WX x H' | .bad=>False)->wi σ H R)
 (g2:∀P0 P σ H Q ρ v d,Ai X.K P0 P H σ ρ->BC X.K (del H P) v d->gG X.K P0 P H Q (gt d ρ)->gg v σ H Q)
 (t2:∀s H' C ex P0 P σ H Q ρ,Ai X.K P0 P H σ ρ->gT (λ _ _=>False) H Q (ft ρ)->tc s H' C ex σ H Q)
 (e2:∀s H' C ex P0 P σ H Q ρ,Ai X.K P0 P H σ ρ->gV X.K (λ _ _=>False) (Lv true P0 P) H Q (fe ρ)->te s H' C ex σ H Q) {Q:VK}
 (E:Ai X.K P0 P H σ ρ) (h:YZ X.K WX P H Q ((fi ρ).bind λ ds=>if ds.length<=1000 then Jd (Bd gt ft fe ds (Bv μ ρ)) else .bad)):SD wi μ gg tc te σ H Q:=by
 refine i2 P0 P σ H _ ρ E ?_;cases q:fi ρ with
 |bad|ex x=>rw[q] at h;exact h
 |ok ds =>
  rw[q] at h;simp only[M.A6] at h;by_cases hd:¬ ds.length<=1000
  ·rw[if_neg hd] at h;exact h.elim
  have hd:ds.length<=1000:=by omega
  rw[if_pos hd] at h;intro J H1 s1 ok s C ex;cases qc:Bd gt ft fe ds (Bv μ ρ) with
  |bad|ex x=>rw[qc] at h;exact h.elim
  |ok total =>
   rw[qc] at h;unfold Jd at h;dsimp only at h;have E1:=E.same s1;refine⟨λ i m ys H2=>m=ds.length-i/\i<=ds.length/\ys.length<=i/\Ae H1 H2/\∃es rest,Ag X.K (del H2 P) ys es/\Bd gt ft fe (ds.drop i) (Bv μ ρ)=.ok rest/\es++rest=total,
    ⟨ds.length,by simp,zT _,zu _,Ae.refl _,[],total,.nil,by rw[List.drop_zero];exact qc,rfl⟩,?_⟩
   rintro i m ys H2 ⟨rfl,hi,hy,s2,es,rest,d9,aj,aY⟩;by_cases am:i<ds.length
   ·refine .inr ⟨ok.go i P H2 s2.del am,Nat.lt_of_le_of_lt hy (AG (by omega)),λ bn H'=>i+1<=ds.length/\bn.length<=i+1/\Ae H1 H'/\∃es rest,Ag X.K (del H' P) bn es/\Bd gt ft fe (ds.drop (i+1)) (Bv μ ρ)=.ok rest/\es++rest=total,λ bn H' hq=>⟨ds.length-(i+1),by omega,rfl,hq.1,hq.2.1,hq.2.2.1,hq.2.2.2⟩,λ v H3 y=>?_⟩;have E2:=E1.same s2;obtain⟨s3,hv⟩:=ok.ZY i P H2 v H3 ds[i] s2.del E2.Cf (zr am) y;rw[J4 am,Bd] at aj;have E3:=(E2.same s3).block μ;refine g2 P0 P _ H3 _ (Bv μ ρ) v ds[i] E3 hv ?_;cases q1:gt ds[i] (Bv μ ρ) with
    |bad|ex x=>rw[q1] at aj;cases aj
    |ok ρ1 =>
     rw[q1] at aj;dsimp only at aj;intro σ4 E4;refine t2 s H1 C ex P0 P σ4 H3 _ ρ1 E4 ?_;cases q2:ft ρ1 with
     |bad|ex x=>rw[q2] at aj;cases aj
     |ok k =>
      rw[q2] at aj;dsimp only at aj;intro H5 s5;cases k with
      |false =>
       simp only[zC,if_false] at aj ⊢;exact⟨am,by omega,(s2.trans s3).trans s5,es,rest,(d9.mono s3.del).mono s5.del,aj,aY⟩
      |true =>
       simp only[if_true] at aj ⊢;refine e2 s H1 C ex P0 P σ4 H5 _ ρ1 (E4.same s5) ?_;cases q3:fe ρ1 with
       |bad|ex x=>rw[q3] at aj;cases aj
       |ok y' =>
        rw[q3] at aj;dsimp only at aj;cases q4:Bd gt ft fe (ds.drop (i+1)) (Bv μ ρ) with
        |bad|ex x=>rw[q4] at aj;cases aj
        |ok m9 =>
         rw[q4] at aj;cases aj;intro w H6 s6 hw;refine⟨am,by rw[zB,y3];omega,((s2.trans s3).trans s5).trans s6,es++[y'],m9,(((d9.mono s3.del).mono s5.del).mono s6.del).snoc hw,rfl,?_⟩;rw[yD];exact aY
   ·have e:i=ds.length:=by omega
    subst e;rw[xm,Bd] at aj;cases aj;rw[yb] at aY;subst aY;exact .inl ⟨ok.stop _ P H2 s2.del (zu _),λ D0 hn=>h.JQ (s1.trans s2) d9 D0 hn⟩
theorem FL {scope:Scope}{NB:List Str}{ifs:List Expr}{elt:Expr}{fe:Aa->M D}(μ:List (Option Nat))(hc:X.calm=true)(hi:DI X WX tg iter fi)(a9:JB scope X.env.scope=true)(bF:PN X.N NB scope μ=true)(hg:nP X scope NB μ tg gt)
 (ht:∀s H C ex,nQ (blockOf X s H scope C NB ex) ifs ft) (he:∀s H C ex,DE (blockOf X s H scope C NB ex) (λ _ _=>False) true elt fe) (hs:∀x,foldedSetIterable iter X.env x=pure x:=by intro _;rfl):
 DN X WX (.ListComp elt [⟨tg,iter,ifs,0⟩] scope pos) (λ ρ=>(fi ρ).bind λ ds=>if ds.length<=1000 then Jd (Bd gt ft fe ds (Bv μ ρ)) else .bad):=by
 obtain⟨wi,i1,i2⟩:=hi;obtain⟨gg,g1,gk,g2⟩:=hg;refine⟨_,YG hc i1 a9 bF gk (λ s H C ex=>⟨g1 s H C ex,(zb (ht s H C ex)).1,(zb (he s H C ex)).1⟩) hs,λ P0 P σ H Q ρ E h=>?_⟩;exact gW i2 g2 (λ s H' C ex P0 P σ H Q ρ E h=>(zb (ht s H' C ex)).2 P0 P σ H Q ρ E h) (λ s H' C ex P0 P σ H Q ρ E h=>(zb (he s H' C ex)).2 P0 P σ H Q ρ E h) E h
end
def pQ (K:za)(WX:Str->Hp->Prop)(P:Addr->Prop)(p:Addr)(fp:List Addr)(H:Hp)(Q:VK):M (OT×OT)->Prop
 | .ok (t,r)=>∀v H' P' ai fr,(∀a,P a->a∉fp->P' a/\H' a=H a)->(∀a,P' a->El H' a)->Ae (del H P) (del H' P')->BF K H' P' (.ref p) t ai->ai.Nodup->BF K H' P' v r fr->fr.Nodup->(∀a∈fr,a∉ai)->
  (∀a∈ai,P' a/\(P a->a∈fp))->(∀a∈fr,P' a/\(P a->a∈fp))->Q v H'
 | .ex _| .bad=>False
noncomputable def NG (K:za)(n:Nat)(F:OT->List D->M (OT×OT)):Sp:=λ vs H Q E=>vs.length=n/\∃P p t fp rest ax,vs=.ref p::rest/\(∀a,P a->El H a)/\(∀a∈fp,P a)/\fp.Nodup/\BF K H P (.ref p) t fp/\Ag K (del H P) rest ax/\pQ K (D7 K E) P p fp H Q (F t ax)
noncomputable def Cz (N:List Str)(t:OT)(ax:List D):Aa:=some (toCl (some 0) t)::(ax.map (λ d=>some (.val d))++zA (N.length-(ax.length+1)) none)
noncomputable def GD (ρ:Aa):Option OT:=match ρ[0]? with
 |some (some c)=>(match treeOf c with|some (some 0,t)=>some t|_=>none)
 |_=>none
noncomputable def E6 (m:M Out):M (OT×OT):=match m with
 | .ok (.next ρ)=>(match GD ρ with|some t=>.ok (t,.sh .Az)|none=>.bad)
 | .ok (.EQ r ρ)=>(match GD ρ with|some t=>.ok (t,r)|none=>.bad)
 |_=>.bad
theorem Uu (p:Option Nat)(t:OT):HM (toCl p t)=true:=by
 unfold toCl;split
 ·rename_i ts;cases q:E5 ts with
  |none=>rfl
  |some ds=>cases p<;>rfl
 ·rfl
theorem Je {K:za}{P:Addr->Prop}{H:Hp}{N:List Str}{p:Addr}{t:OT}{fp:List Addr}{rest:List V}{ax:List D}(ht:∀a,P a->El H a)(hp:∀a∈fp,P a)(nd:fp.Nodup)(o:BF K H P (.ref p) t fp)(h:Ag K (del H P) rest ax):
 Ai K ⟨λ a=>P a/\a∉fp,λ _=>p⟩ P H (start N (.ref p::rest)) (Cz N t ax):=by
 have hl:=h.length;have key:∀(i:Nat) (c:Cl),(ax.map (λ d=>some (Cl.val d))++zA (N.length-(ax.length+1)) none)[i]?=some (some c)->∃d,ax[i]?=some d/\c=.val d:=λ i c e=>by
  by_cases hi:i<ax.length
  ·rw[y2 (by simpa using hi),zG] at e;cases q:ax[i]? with
   |none=>rw[q] at e;cases e
   |some d=>rw[q] at e;cases e;exact⟨d,rfl,rfl⟩
  ·rw[xh (by simpa using hi),List.getElem?_replicate] at e;split at e<;>cases e
 have rN:(start N (.ref p::rest))[0]?=some (some (.ref p)):=by unfold start;rfl
 refine⟨λ a h=>h.1,ht,λ i d e=>?_,λ i c e io=>?_,λ i j c c' v v' fp ai e1 e2 _ _ o1 o2 ae=>?_,?_,λ i c n e tZ=>?_⟩
 rotate_left 4
 ·cases i with
  |zero=>exact rN
  |succ i =>
   obtain⟨d',q,z⟩:=key i _ (by unfold Cz at e;simpa using e);cases z;cases tZ
 ·cases i with
  |zero =>
   have e':some (toCl (some 0) t)=some (.val d):=by simpa [Cz] using e
   have:=Uu (some 0) t;rw[zH e'] at this;cases this
  |succ i =>
   obtain⟨d',q,z⟩:=key i _ (by unfold Cz at e;simpa using e);cases z;obtain⟨v,hv,hd⟩:=h.get q;refine⟨v,?_,hd⟩;unfold start;rw[zg,xn,zR,y2 (by rw[zf];exact (zy.mp hv).1),zG,hv];rfl
 ·cases i with
  |zero =>
   have e':toCl (some 0) t=c:=by simpa [Cz] using e
   subst e';exact⟨_,fp,rN,CW.toCl o,λ a ha=>⟨hp a ha,λ z=>z.2 ha⟩,nd⟩
  |succ i =>
   obtain⟨d',q,z⟩:=key i _ (by unfold Cz at e;simpa using e);cases z;cases io
 ·cases i with
  |zero =>
   cases j with
   |zero=>exact (ae rfl).elim
   |succ j =>
    obtain⟨d',q,z⟩:=key j _ (by unfold Cz at e2;simpa using e2);cases z;exact o2.elim
  |succ i =>
   obtain⟨d',q,z⟩:=key i _ (by unfold Cz at e1;simpa using e1);cases z;exact o1.elim
 ·unfold start Cz;simp[hl]
section
variable {P:Program}{w:World}{K:za}{mg:Str->Option Value}{base:Heap}
theorem L9 {P0:Dn}{P':Addr->Prop}{H':Hp}{σ':St}{ρ:Aa}{t:OT}(E:Ai K P0 P' H' σ' ρ)(h:GD ρ=some t):∃c ai,ρ[0]?=some (some c)/\σ'[0]?=some (some (.ref (P0.g 0)))/\CW K H' P' c (.ref (P0.g 0)) ai/\BF K H' P' (.ref (P0.g 0)) t ai/\ai.Nodup/\∀a∈ai,P' a/\¬ P0 a:=by
 unfold GD at h;split at h
 ·rename_i c e;split at h
  ·rename_i t' e2;cases h;have io:HM c=true:=by cases c<;>first|rfl|cases e2
   obtain⟨v,fp,k1,k2,k3,k4⟩:=E.ows 0 c e io;have:=E.pin 0 c 0 e (Ik e2);rw[k1] at this;cases this;exact⟨c,fp,e,k1,k2,k2.toT e2,k4,k3⟩
  ·cases h
 ·cases h
theorem gY {x qual:Str}{st:Stmt}{f:Addr}{fd:FuncData}{N ps:List Str}{k:Nat}(F:Vr K x qual st f fd)(S:Ah N ps (A4 st))(g:Aa->M Out)
 (hb:∀(B6:Value) (A:Around) (outer:List Env) (s:Shared) (H:Hp) (E:XK),By k (A.deeper (envOfC qual (A4 st) s.heap.objs.size f B6))->R9 (SI P w K mg base N qual (A4 st) f B6 A outer s H E) (D7 K E) (Au st) g):
 D5 P w K mg base (RK P w base) (k+1) f fd ps (NG K ps.length λ t ax=>E6 (g (Cz N t ax))):=by
 obtain⟨oc,od,kV,doc,pm,an,B6,ct,Pj,rfl,lk,bd⟩:=F.ex;refine Sw lk bd S (λ vs H Q E h=>h.1) λ A outer s H vs Q E hr h=>?_;obtain⟨hl,P',p,t,fp,rest,ax,rfl,ht,hp,nd,ho,hv,hq⟩:=h;obtain⟨tt,h1,h2⟩:=hb B6 A outer s H E hr;refine⟨tt,h1,h2 ⟨λ a=>P' a/\a∉fp,λ _=>p⟩ P' _ H _ _ (Je ht hp nd ho hv) ?_⟩;dsimp only at hq;revert hq;cases g (Cz N t ax) with
 |bad|ex x=>exact λ h=>h.elim
 |ok o =>
  have sub:∀ {P2:Addr->Prop} {H2:Hp} {σ2:St} {ρ:Aa},Ai K ⟨λ a=>P' a/\a∉fp,λ _=>p⟩ P2 H2 σ2 ρ->∀a,P2 a/\¬ (P' a/\a∉fp)->P2 a/\(P' a->a∈fp):=λ E a ha=>⟨ha.1,λ z=>Classical.byContradiction λ w=>ha.2 ⟨z,w⟩⟩;cases o with
  |ret d|Cg d=>exact λ h=>h.elim
  |next ρ =>
   intro hq σ' H' P2 t2 E2;unfold E6 at hq;dsimp only at hq;split at hq
   ·rename_i t' e;obtain⟨c,ai,k1,k2,k3,k4,k5,k6⟩:=L9 E2 e;exact hq .Az H' P2 ai [] (λ a ha hn=>⟨E2.sub a ⟨ha,hn⟩,t2.2 a ⟨ha,hn⟩⟩) E2.Cf t2.1 k4 k5 (.sh .Az) yC (λ a ha=>by cases ha) (λ a ha=>sub E2 a (k6 a ha)) (λ a ha=>by cases ha)
   ·exact hq.elim
  |EQ r ρ =>
   intro hq v fr σ' H' P2 t2 E2 o2 aZ hf;unfold E6 at hq;dsimp only at hq;split at hq
   ·rename_i t' e;obtain⟨c,ai,k1,k2,k3,k4,k5,k6⟩:=L9 E2 e;exact hq v H' P2 ai fr (λ a ha hn=>⟨E2.sub a ⟨ha,hn⟩,t2.2 a ⟨ha,hn⟩⟩) E2.Cf t2.1 k4 k5 o2 aZ (λ a ha=>(hf a ha).2.2 0 c _ ai k1 k2 k3) (λ a ha=>sub E2 a (k6 a ha)) (λ a ha=>sub E2 a ⟨(hf a ha).1,(hf a ha).2.1⟩)
   ·exact hq.elim
  |brk ρ|cont ρ=>exact λ h=>h.elim
end
structure NH (P:Program)(w:World)(K:za)(mg:Str->Option Value)(base:Heap)(x:Str)(k n:Nat)(F:OT->List D->M (OT×OT)):Prop where
 ex:∃fa fd ps,D5 P w K mg base (RK P w base) k fa fd ps (NG K n F)/\mg x=some (.ref fa)/\zQ K (.ref fa)=true/\Binds K fd ps []
theorem Qc {P:Program}{w:World}{K:za}{mg:Str->Option Value}{base:Heap}{x:Str}{st:Stmt}{N ps:List Str}{k n:Nat}(T:B5 K mg x st ps)(S:Ah N ps (A4 st))(g:Aa->M Out)
 (hb:∀(f:Addr) (B6:Value) (A:Around) (outer:List Env) (s:Shared) (H:Hp) (E:XK),By k (A.deeper (envOfC x (A4 st) s.heap.objs.size f B6))->R9 (SI P w K mg base N x (A4 st) f B6 A outer s H E) (D7 K E) (Au st) g) (hn:ps.length=n:=by rfl):
 NH P w K mg base x (k+1) n (λ t ax=>E6 (g (Cz N t ax))):=by
 obtain⟨f,fd,F,hm,hB⟩:=T.ex;subst hn;exact⟨⟨f,fd,ps,gY F S g (hb f),hm,F.kp,hB⟩⟩
section
variable {X:Cx}{WX:Str->Hp->Prop}{c:Bool}{P0:Dn}{P:Addr->Prop}{H:Hp}{σ:St}{ρ:Aa}{a b e:Expr}{f g:Aa->M D}{fn:Aa->M OT}{fp:Aa->M (List Nat)}{pos:Pos}{i:Nat}{es:List Expr}{fs:Aa->M (List D)}
theorem Ai.new {K:za}{P':Addr->Prop}{H':Hp}(E:Ai K P0 P H σ ρ)(s:Ae H H')(sm:Ae (del H P) (del H' P')){a:Addr}(hn:H a=none):∀(j:Nat) c v fq,ρ[j]?=some (some c)->σ[j]?=some (some v)->CW K H' P' c v fq->a∉fq:=λ j c v fq h1 h2 h3 ha=>by
 have io:HM c=true:=by cases c<;>first|rfl|exact h3.elim
 obtain⟨w,fr,k1,k2,k3,k4⟩:=E.ows j c h1 io;rw[h2] at k1;cases k1;have m:=k2.move sm λ b hb=>by obtain⟨o,q⟩:=k2.at b hb;rw[q];exact s _ _ q
 rw[h3.C1 m] at ha;obtain⟨o,q⟩:=k2.at a ha;rw[hn] at q;cases q
theorem Ai.mL {K:za}{P':Addr->Prop}{H':Hp}{π:List Nat}{v1 v2:V}{t1 u r:OT}{az fu fr:List Addr}(E:Ai K P0 P H σ ρ)(pl:B8 K P H σ ρ i π v1 t1)(o:BF K H P v1 t1 az)(hs:∀a,P a->a∉az->P' a/\H' a=H a)(ht:∀a,P' a->El H' a)(sm:Ae (del H P) (del H' P'))
 (o':BF K H' P' v1 u fu) (nd:fu.Nodup) (hf:∀a∈fu,P' a/\(P a->a∈az)) (or:BF K H' P' v2 r fr) (vH:fr.Nodup) (hr:∀a∈fr,P' a/\(P a->a∈az)) (dj:∀a∈fr,a∉fu):
 ∃c p t,ρ[i]?=some (some c)/\treeOf c=some (p,t)/\Ai K P0 P' H' σ (ρ.set i (some (toCl p (DZ t π u))))/\Tr P0 P H P' H'/\
  ∀a∈fr,P' a/\¬ P0 a/\∀(j:Nat) c' v fq,(ρ.set i (some (toCl p (DZ t π u))))[j]?=some (some c')->σ[j]?=some (some v)->CW K H' P' c' v fq->a∉fq:=by
 obtain⟨v0,c,p,t,h1,h2,h3,h4⟩:=pl.ex;have io:HM c=true:=by cases c<;>first|rfl|cases h2
 obtain⟨w,fp,k1,k2,k3,k4⟩:=E.ows i c h1 io;rw[h3] at k1;cases k1;have ot:=k2.toT h2;obtain⟨fz,oz,kz,_⟩:=ot.part h4;have:=oz.C1 o;subst this;obtain⟨ai,q1,q2,q3⟩:=ot.put sm h4 o o' (λ a ha hn=>(hs a (k3 a ha).1 hn).2) k4 nd (λ a ha hb=>(hf a ha).2 (k3 a hb).1);have rO:∀(j:Nat) c' v' fq,i≠j->ρ[j]?=some (some c')->σ[j]?=some (some v')->CW K H P c' v' fq->∀a∈fq,P a/\a∉fp:=λ j c' v' fq ae g1 g2 g3 a ha=>by
  have iz:HM c'=true:=by cases c'<;>first|rfl|exact g3.elim
  obtain⟨w',nw,m1,m2,m3,m4⟩:=E.ows j c' g1 iz;rw[g2] at m1;cases m1;have:=m2.C1 g3;subst this;exact⟨(m3 a ha).1,E.apart j i c' c v' v0 nw fp g1 h1 g2 h3 g3 k2 (yh ae) a ha⟩
 have key:=E.lY (P':=P') (H':=H') (i:=i) (v:=v0) (c:=toCl p (DZ t π u)) (fp:=ai) (λ a ha=>(hs a (E.sub a ha) λ z=>(k3 a (kz a z)).2 ha).1) ht sm (λ j c' v' fq ae g1 g2 g3 a ha=>?_) (CW.toCl q1) (λ a ha=>?_) q2 (λ n z=>by rw[FJ] at z;subst z;have:=E.pin i c n h1 (Ik h2);rw[h3] at this;cases this;rfl)
 ·rw[OA h3] at key;refine⟨c,p,t,h1,h2,key,⟨sm,λ a ha=>(hs a (E.sub a ha) λ z=>(k3 a (kz a z)).2 ha).2⟩,λ a ha=>⟨(hr a ha).1,λ z=>(k3 a (kz a ((hr a ha).2 (E.sub a z)))).2 z,λ j c' v fq g1 g2 g3 hb=>?_⟩⟩;rcases get_set g1 with ⟨rfl,hl,z⟩|⟨ae,g1⟩
  ·cases z;rw[h3] at g2;cases g2;rw[g3.C1 (CW.toCl q1)] at hb;rcases q3 a hb with y|y
   ·exact dj a ha y
   ·exact y.2 ((hr a ha).2 (k3 a y.1).1)
  ·have iz:HM c'=true:=by cases c'<;>first|rfl|exact g3.elim
   obtain⟨w',nw,m1,m2,m3,m4⟩:=E.ows j c' g1 iz;rw[g2] at m1;cases m1;have o2:=rO j c' v nw ae g1 g2 m2;have mv:=m2.move sm λ b a5=>(hs b (o2 b a5).1 λ z=>(o2 b a5).2 (kz b z)).2;rw[g3.C1 mv] at hb;exact (o2 a hb).2 (kz a ((hr a ha).2 (o2 a hb).1))
 ·have o2:=rO j c' v' fq ae g1 g2 g3 a ha;have hk:=hs a o2.1 λ z=>o2.2 (kz a z);refine⟨hk.2,λ z=>?_,hk.1⟩;rcases q3 a z with y|y
  ·exact o2.2 (kz a ((hf a y).2 o2.1))
  ·exact o2.2 y.1
 ·rcases q3 a ha with y|y
  ·exact⟨(hf a y).1,λ z=>(k3 a (kz a ((hf a y).2 (E.sub a z)))).2 z⟩
  ·exact⟨(hs a (k3 a y.1).1 y.2).1,(k3 a y.1).2⟩
end
noncomputable def Gn (i:Nat)(ρ:Aa)(π:List Nat)(u:OT):M Out:=match ρ[i]? with
 |some (some c)=>(match treeOf c with|some (p,t)=>.ok (.next (ρ.set i (some (toCl p (DZ t π u)))))|none=>.bad)
 |_=>.bad
noncomputable def ET (i:Nat)(ρ:Aa)(π:List Nat):M (List OT):=match SO i ρ π with | some (.lst ts)=>.ok ts | _=>.bad
theorem FN {i:Nat}{ρ:Aa}{π:List Nat}{u:OT}{c:Cl}{p:Option Nat}{t:OT}(h:ρ[i]?=some (some c))(ht:treeOf c=some (p,t)):Gn i ρ π u=.ok (.next (ρ.set i (some (toCl p (DZ t π u))))):=by
 unfold Gn;simp only[h,ht]
theorem Aw.append {K:za}{H:Hp}{P:Addr->Prop}:∀ {xs ys:List V}{ts us:List OT}{fp fq:List Addr},Aw K H P xs ts fp->Aw K H P ys us fq->Aw K H P (xs++ys) (ts++us) (fp++fq)
 |_,_,_,_,_,_,.nil,h=>h
 |_,_,_,_,_,_,.cons a t,h=>by rw[yD];exact .cons a (t.append h)
section
variable {X:Cx}{WX:Str->Hp->Prop}{c:Bool}{P0:Dn}{P:Addr->Prop}{H:Hp}{σ:St}{ρ:Aa}{a b e:Expr}{f g:Aa->M D}{fn:Aa->M OT}{fp:Aa->M (List Nat)}{pos:Pos}{i:Nat}{es:List Expr}{fs:Aa->M (List D)}
theorem B8.lst {K:za}{π:List Nat}{v:V}{t1:OT}{ts:List OT}(pl:B8 K P H σ ρ i π v t1)(E:Ai K P0 P H σ ρ)(h:ET i ρ π=.ok ts):t1=.lst ts/\∃l xs fq,v=.ref l/\H l=some (.lst xs)/\Aw K H P xs ts fq/\l∉fq/\fq.Nodup:=by
 unfold ET at h;rw[pl.at] at h;split at h
 ·rename_i ny e;cases e;cases h;obtain⟨az,o1,hp,nd⟩:=pl.own E;cases o1 with
  |lst hh hr=>exact⟨rfl,_,_,_,rfl,hh,hr,(yd.mp nd).1,(yd.mp nd).2⟩
 ·cases h
theorem gZ (ha:DP X WX a i fp)(he:DN X WX e fn){apos ac:Pos}(hs:starEach [e] X.env=[(false,eval e X.env)]:=by rfl)
 (bg:swapsWith (.Call (.Attribute a "append" apos) [e] [] ac) none pos.line X.env=pure false:=by rfl)
 (ap:attributeBase a "append" X.env (eval a X.env)=eval a X.env:=by rfl)
 (aD:((backTo ac (starEach [e] X.env)).all (λ x => !x.1)&&(backToKw ac (keywordEach [] X.env)).all (λ x=>x.1.isSome)&&decide (([e]:List Expr).length+([]:List Keyword).length+(if ([]:List Keyword).isEmpty then 0 else 1)<30))=true:=by rfl)
 (aq:(apos.endLine==ac.line)=true:=by rfl) (ar:(backTo ac (starEach [] X.env)).any (·.1)=false:=by rfl):
 DS X WX (.Expr (.Call (.Attribute a "append" apos) [e] [] ac) pos) (λ ρ=>(fp ρ).bind λ π=>(ET i ρ π).bind λ ts=>(fn ρ).bind λ t=>if ts.length<1000 then Gn i ρ π (.lst (ts++[t])) else .bad):=by
 obtain⟨ta,a1,a2⟩:=ha;obtain⟨te,e1,e2⟩:=he;refine⟨_,Fy (Nk ym PySem.F.slot_list_append PySem.F.type_list_append Nl a1 (Bf e1 BZ hs) ap aD aq hs ar) bg,λ P0 P σ H Z ρ E h=>?_⟩;dsimp only at h;refine a2 P0 P σ H _ ρ E ?_;cases q:fp ρ with
 |bad=>rw[q] at h;exact h
 |ex x=>rw[q] at h;exact λ H' s=>h H' P (E.tr s)
 |ok π =>
  rw[q] at h;simp only[M.A6] at h;intro v t1 H1 s1 pl;have E1:=E.same s1;cases q1:ET i ρ π with
  |bad=>rw[q1] at h;exact h.elim
  |ex x=>unfold ET at q1;split at q1<;>cases q1
  |ok ts =>
   rw[q1] at h;simp only[M.A6] at h;obtain⟨rfl,l,xs,fq,rfl,hl,ol,nl,ub⟩:=pl.lst E1 q1;refine⟨.inl ⟨rfl,xs,.of hl⟩,e2 P0 P σ H1 _ ρ E1 ?_⟩;cases q2:fn ρ with
   |bad=>rw[q2] at h;exact h
   |ex y=>rw[q2] at h;exact λ H' s=>h H' P ((E.tr s1).trans (E1.tr s))
   |ok t =>
    rw[q2] at h;simp only[M.A6] at h;by_cases hz:ts.length<1000
    ·rw[if_pos hz] at h;intro w fw H2 s2 n2 aZ o2;have sm:=Ep (P:=P) s2 n2;have E2:Ai X.K P0 (PU P fw) H2 σ ρ:=E1.more s2 LN (JO (E1.same s2).Cf o2) sm;have keep:∀b∈fq,H2 b=H1 b:=λ b hb=>by obtain⟨o,z,_⟩:=ol.Cf b hb;rw[z];exact s2 _ _ z
     have cY:=ol.move sm keep;have aM:=s2 _ _ hl;have dj:∀b∈fq,b∉fw:=λ b hb hc=>(ol.Cf b hb).no (n2 b hc);obtain⟨c,p,t0,g1,g2,E3,t3⟩:=E2.gR (pl.more sm s2) aM cY (us:=ts++[t]) (ys:=xs++[w]) (cY.append (.cons o2 .nil)) (by rw[yb];exact zN.mpr ⟨ub,aZ,λ b hb d hd z=>dj b hb (by rw[z];exact hd)⟩) (by
      rw[yb];intro z;rcases zK.mp z with z|z
      ·exact nl z
      ·rw[n2 l z] at hl;cases hl) (by
      intro b hb;rw[yb] at hb;rcases zK.mp hb with z|z
      ·exact .inl z
      ·exact .inr ⟨.inr z,λ y=>(E1.Cf b (E1.sub b y)).no (n2 b z),E1.new s2 sm (n2 b z)⟩)
     rw[FN g1 g2] at h;exact⟨l,xs,w,rfl,rfl,aM,AG (by rw[ol.len];exact yi hz),h _ _ _ (((E.tr s1).trans (E1.nU s2 n2)).trans t3) E3⟩
    ·rw[if_neg hz] at h;exact h.elim
noncomputable def RQ {α:Type}(o:Option α):M α:=match o with | some x=>.ok x | none=>.bad
noncomputable def MW (i:Nat)(ρ:Aa)(π:List Nat):M (List D):=match SO i ρ π with | some (.lst ts)=>(match E5 ts with | some ds=>.ok ds | none=>.bad) | _=>.bad
theorem B8.shl {K:za}{π:List Nat}{v:V}{t1:OT}{ds:List D}(pl:B8 K P H σ ρ i π v t1)(E:Ai K P0 P H σ ρ)(h:MW i ρ π=.ok ds):t1=.lst (ds.map .sh)/\∃l xs,v=.ref l/\H l=some (.lst xs)/\Ag K (del H P) xs ds:=by
 unfold MW at h;rw[pl.at] at h;split at h
 ·rename_i ny e;split at h
  ·rename_i j4 e';cases e;cases h;have z:=CN e';subst z;obtain⟨az,o1,hp,nd⟩:=pl.own E;cases o1 with
   |lst hh hr=>exact⟨rfl,_,_,rfl,hh,hr.gQ.2⟩
  ·cases h
 ·cases h
theorem OJ {π:List Nat}{x:Str}(h:MW i ρ π=.ex x):False:=by
 unfold MW at h;split at h
 ·split at h<;>cases h
 ·cases h
theorem Ai.hV {K:za}{π:List Nat}{l:Addr}{xs ys:List V}{ds es:List D}(E:Ai K P0 P H σ ρ)(pl:B8 K P H σ ρ i π (.ref l) (.lst (ds.map .sh)))(hH:H l=some (.lst xs))(o:Ag K (del H P) xs ds)(o':Ag K (del H P) ys es):
 ∃c p t,ρ[i]?=some (some c)/\treeOf c=some (p,t)/\Ai K P0 P (upd H l (.lst ys)) σ (ρ.set i (some (toCl p (DZ t π (.lst (es.map .sh))))))/\Tr P0 P H P (upd H l (.lst ys)):=
 E.gR pl hH o.ows o'.ows yC (λ z=>by cases z) (λ a ha=>by cases ha)
theorem hX {nm:Str}{id:String}{r:V->List V->Hp->VK->Prop}{dm:List D->Option (List D)}(ha:DP X WX a i fp)(slot:Slot "list" nm id)(h8:typeOf (.builtin id)=pure (.type "method_descriptor"))(hm:fJ X id r)
 (hr:∀(P:Addr->Prop) (H:Hp) (l:Addr) (xs:List V) (ds us:List D) (Q:VK),H l=some (.lst xs)->Ag X.K (del H P) xs ds->dm ds=some us->(∀ys v,Ag X.K (del H P) ys us->Q v (upd H l (.lst ys)))->r (.ref l) [] H Q) {apos ac:Pos}
 (bg:swapsWith (.Call (.Attribute a nm apos) [] [] ac) none pos.line X.env=pure false:=by rfl)
 (ap:attributeBase a nm X.env (eval a X.env)=eval a X.env:=by rfl) (aq:(apos.endLine==ac.line)=true:=by rfl):
 DS X WX (.Expr (.Call (.Attribute a nm apos) [] [] ac) pos) (λ ρ=>(fp ρ).bind λ π=>(MW i ρ π).bind λ ds=>(RQ (dm ds)).bind λ us=>Gn i ρ π (.lst (us.map .sh))):=by
 obtain⟨ta,a1,a2⟩:=ha;refine⟨_,Fy (W0 ym slot h8 hm a1 ap aq) bg,λ P0 P σ H Z ρ E h=>?_⟩;dsimp only at h;refine a2 P0 P σ H _ ρ E ?_;cases q:fp ρ with
 |bad=>rw[q] at h;exact h
 |ex x=>rw[q] at h;exact λ H' s=>h H' P (E.tr s)
 |ok π =>
  rw[q] at h;simp only[M.A6] at h;intro v t1 H1 s1 pl;have E1:=E.same s1;cases q1:MW i ρ π with
  |bad=>rw[q1] at h;exact h.elim
  |ex x=>exact (OJ q1).elim
  |ok ds =>
   rw[q1] at h;simp only[M.A6] at h;obtain⟨rfl,l,xs,rfl,hl,ol⟩:=pl.shl E1 q1;cases q2:dm ds with
   |none=>rw[q2] at h;exact h.elim
   |some us =>
    rw[q2] at h;simp only[RQ,M.A6] at h;refine⟨.inl ⟨rfl,xs,.of hl⟩,hr P H1 l xs ds us _ hl ol q2 λ ys w hy=>?_⟩;obtain⟨c,p,t0,g1,g2,E3,t3⟩:=E1.hV pl hl ol hy;rw[FN g1 g2] at h;exact h _ _ _ ((E.tr s1).trans t3) E3
theorem WK (ha:DP X WX a i fp){apos ac:Pos}(bg:swapsWith (.Call (.Attribute a "clear" apos) [] [] ac) none pos.line X.env=pure false:=by rfl)
 (ap:attributeBase a "clear" X.env (eval a X.env)=eval a X.env:=by rfl) (aq:(apos.endLine==ac.line)=true:=by rfl):
 DS X WX (.Expr (.Call (.Attribute a "clear" apos) [] [] ac) pos) (λ ρ=>(fp ρ).bind λ π=>(MW i ρ π).bind λ ds=>(RQ (some [])).bind λ us=>Gn i ρ π (.lst (us.map .sh))):=
 hX (dm:=λ _=>some []) ha PySem.F.slot_list_clear PySem.F.type_list_clear W3 (λ P H l xs ds us Q h1 h2 h3 h4=>by cases h3;exact⟨l,xs,rfl,rfl,h1,h4 [] _ .nil⟩) bg ap aq
noncomputable def Z5 (t:OT):M (List D):=match t with | .lst us=>RQ (E5 us) | _=>.bad
theorem WL (ha:DP X WX a i fp)(he:DN X WX e fn){apos ac:Pos}(hs:starEach [e] X.env=[(false,eval e X.env)]:=by rfl)
 (bg:swapsWith (.Call (.Attribute a "extend" apos) [e] [] ac) none pos.line X.env=pure false:=by rfl)
 (ap:attributeBase a "extend" X.env (eval a X.env)=eval a X.env:=by rfl)
 (aD:((backTo ac (starEach [e] X.env)).all (λ x => !x.1)&&(backToKw ac (keywordEach [] X.env)).all (λ x=>x.1.isSome)&&decide (([e]:List Expr).length+([]:List Keyword).length+(if ([]:List Keyword).isEmpty then 0 else 1)<30))=true:=by rfl)
 (aq:(apos.endLine==ac.line)=true:=by rfl) (ar:(backTo ac (starEach [] X.env)).any (·.1)=false:=by rfl):
 DS X WX (.Expr (.Call (.Attribute a "extend" apos) [e] [] ac) pos) (λ ρ=>(fp ρ).bind λ π=>(MW i ρ π).bind λ ds=>((fn ρ).bind Z5).bind λ es=>if ds.length+es.length<=1000 then Gn i ρ π (.lst ((ds++es).map .sh)) else .bad):=by
 obtain⟨ta,a1,a2⟩:=ha;obtain⟨te,e1,e2⟩:=he;refine⟨_,Fy (Nk ym PySem.F.slot_list_extend PySem.F.type_list_extend U6 a1 (Bf e1 BZ hs) ap aD aq hs ar) bg,λ P0 P σ H Z ρ E h=>?_⟩;dsimp only at h;refine a2 P0 P σ H _ ρ E ?_;cases q:fp ρ with
 |bad=>rw[q] at h;exact h
 |ex x=>rw[q] at h;exact λ H' s=>h H' P (E.tr s)
 |ok π =>
  rw[q] at h;simp only[M.A6] at h;intro v t1 H1 s1 pl;have E1:=E.same s1;cases q1:MW i ρ π with
  |bad=>rw[q1] at h;exact h.elim
  |ex x=>exact (OJ q1).elim
  |ok ds =>
   rw[q1] at h;simp only[M.A6] at h;obtain⟨rfl,l,xs,rfl,hl,ol⟩:=pl.shl E1 q1;refine⟨.inl ⟨rfl,xs,.of hl⟩,e2 P0 P σ H1 _ ρ E1 ?_⟩;cases q2:fn ρ with
   |bad=>rw[q2] at h;exact h
   |ex y=>rw[q2] at h;exact λ H' s=>h H' P ((E.tr s1).trans (E1.tr s))
   |ok t =>
    rw[q2] at h;simp only[M.A6] at h;intro w fw H2 s2 n2 aZ o2;have sm:=Ep (P:=P) s2 n2;have E2:Ai X.K P0 (PU P fw) H2 σ ρ:=E1.more s2 LN (JO (E1.same s2).Cf o2) sm;cases t with
    |lst us =>
     simp only[Z5] at h;cases q3:E5 us with
     |none=>rw[q3] at h;exact h.elim
     |some es =>
      rw[q3] at h;simp only[RQ,M.A6] at h;have z:=CN q3;subst z;cases o2 with
      |lst hb hr =>
       by_cases hz:ds.length+es.length<=1000
       ·rw[if_pos hz] at h;have he:=hr.gQ.2;have cY:=ol.mono sm;have aM:=s2 _ _ hl;obtain⟨c,p,t0,g1,g2,E3,t3⟩:=E2.hV (pl.more sm s2) aM cY (cY.append he);rw[FN g1 g2] at h;exact⟨l,_,xs,_,rfl,rfl,aM,hb,yi (AG (by rw[ol.length,he.length];exact hz)),h _ _ _ (((E.tr s1).trans (E1.nU s2 n2)).trans t3) E3⟩
       ·rw[if_neg hz] at h;exact h.elim
    |_=>exact h.elim
end
def gX (K:za)(WX:Str->Hp->Prop)(P0:Dn)(P:Addr->Prop)(H:Hp)(σ:St)(Q:VK):M (Aa×OT)->Prop
 | .ok (ρ,t)=>∀v fp H' P',Tr P0 P H P' H'->Ai K P0 P' H' σ ρ->BF K H' P' v t fp->fp.Nodup->(∀a∈fp,P' a/\¬ P0 a/\∀(j:Nat) c v' fq,ρ[j]?=some (some c)->σ[j]?=some (some v')->CW K H' P' c v' fq->a∉fq)->Q v H'
 | .ex x=>∀H' P',Tr P0 P H P' H'->WX x H'
 | .bad=>False
def DX (X:Cx)(WX:Str->Hp->Prop)(e:Expr)(f:Aa->M (Aa×OT)):Prop:=
 ∃t,PE X e t/\∀P0 P σ H Q ρ,Ai X.K P0 P H σ ρ->gX X.K WX P0 P H σ Q (f ρ)->t σ H Q
noncomputable def WM:OT->Bool
 | .sh _=>false
 |_=>true
noncomputable def Qd (i:Nat)(F:OT->List D->M (OT×OT))(ρ:Aa)(π:List Nat)(ax:List D):M (Aa×OT):=match ρ[i]? with
 |some (some c)=>(match treeOf c with
  |some (p,t)=>(match JN t π with
   |some t1=>if WM t1=true then (match F t1 ax with | .ok (t2,r)=>.ok (ρ.set i (some (toCl p (DZ t π t2))),r)|_=>.bad) else .bad
   |none=>.bad)
  |none=>.bad)
 |_=>.bad
section
variable {X:Cx}{E:XK}{WX:Str->Hp->Prop}{c:Bool}{P0:Dn}{P:Addr->Prop}{H:Hp}{σ:St}{ρ:Aa}{a b e:Expr}{f g:Aa->M D}{fn:Aa->M OT}{fx:Aa->M (Aa×OT)}{fp:Aa->M (List Nat)}{pos:Pos}{i:Nat}{es:List Expr}{fs:Aa->M (List D)}
theorem WN {F:OT->List D->M (OT×OT)}{π:List Nat}{ax:List D}{c:Cl}{p:Option Nat}{t t1 t2 r:OT}(h:ρ[i]?=some (some c))(ht:treeOf c=some (p,t))(hs:JN t π=some t1)(hN:WM t1=true)(hF:F t1 ax=.ok (t2,r)):Qd i F ρ π ax=.ok (ρ.set i (some (toCl p (DZ t π t2))),r):=by
 unfold Qd;simp only[h,ht,hs,hN,if_true,hF]
theorem WO {k n:Nat}{F:OT->List D->M (OT×OT)}{x:Str}{p:Pos}(xo:XCall X E)(G:NH X.prog X.w X.K X.mg X.base x k n F)(hr:By k X.A)(hg:Gl X x)(hp:DP X (D7 X.K E) a i fp)(ha:DA X (D7 X.K E) true es fs)(hn:es.length+1=n)
 (aU:(x==("__debug__" : Str))=false:=by decide) (he:starEach (a::es) X.env=(false,eval a X.env)::starEach es X.env:=by rfl) (hpl:(backTo pos (starEach es X.env)).any (·.1)=false:=by rfl):
 DX X (D7 X.K E) (.Call (.Name x p) (a::es) [] pos) (λ ρ=>(fp ρ).bind λ π=>(fs ρ).bind λ ax=>Qd i F ρ π ax):=by
 obtain⟨fa,fd,ps,hF,hm,hk,hb⟩:=G.ex;obtain⟨tp,p1,p2⟩:=hp;obtain⟨ta,a1,a2,a3⟩:=ha;refine⟨_,Sv hF hr hg hm hk hb .nil xo.call (Bf p1 a1 he) aU he hpl,λ P0 P σ H Q ρ Ev h=>?_⟩;dsimp only at h;refine p2 P0 P σ H _ ρ Ev ?_;cases q:fp ρ with
 |bad=>rw[q] at h;exact h
 |ex x=>rw[q] at h;exact λ H' s=>h H' P (Ev.tr s)
 |ok π =>
  rw[q] at h;simp only[M.A6] at h;intro v t1 H1 s1 pl;have E1:=Ev.same s1;refine a2 P0 P σ H1 _ ρ E1 ?_;cases q2:fs ρ with
  |bad=>rw[q2] at h;exact h
  |ex y=>rw[q2] at h;exact λ H' s=>h H' P ((Ev.tr s1).trans (E1.tr s))
  |ok ax =>
   rw[q2] at h;simp only[M.A6] at h;intro vs H2 s2 aN;have E2:=E1.same s2;have c9:=pl.same s2;show NG X.K n F ((v::vs)++[]) H2 Q E;rw[yb];obtain⟨v0,c,pp,t,g1,g2,g3,g4⟩:=c9.ex;unfold Qd at h;simp only[g1,g2,g4.sub] at h;by_cases hx:WM t1=true
   ·rw[if_pos hx] at h;obtain⟨az,o1,nz,e7⟩:=c9.own E2;have i5:∃l,v=.ref l:=by
     cases o1 with
     |sh hv=>exact absurd hx (by simp[WM])
     |lst _ _|tup _ _|dK _ _|dT _ _|ins _ _ _=>exact⟨_,rfl⟩
    obtain⟨l,rfl⟩:=i5;refine⟨by rw[zq,aN.length,a3 ρ ax q2];exact hn,P,l,t1,az,vs,ax,rfl,E2.Cf,λ b hb=>(nz b hb).1,e7,o1,aN,?_⟩;cases qF:F t1 ax with
    |bad|ex x=>rw[qF] at h;exact h.elim
    |ok z =>
    obtain⟨t2,r⟩:=z;rw[qF] at h;intro w H' P' fu fr k1 k2 k3 k4 k5 k6 k7 k8 k9 rP;obtain⟨c',p',t',m1,m2,m3,m4,m5⟩:=E2.mL c9 o1 k1 k2 k3 k4 k5 k9 k6 k7 rP k8;rw[g1] at m1;cases m1;rw[g2] at m2;cases m2;exact h w fr H' P' (((Ev.tr s1).trans (E1.tr s2)).trans m4) m3 k6 k7 m5
   ·rw[if_neg hx] at h;exact h.elim
theorem LX (he:DX X WX e fx)(hs:swapsWith e none pos.line X.env=pure false:=by rfl):DS X WX (.Expr e pos) (λ ρ=>(fx ρ).bind λ z=>.ok (.next z.1)):=by
 obtain⟨te,e1,e2⟩:=he;refine⟨_,Fy e1 hs,λ P0 P σ H Z ρ E h=>?_⟩;dsimp only at h;refine e2 P0 P σ H _ ρ E ?_;cases q:fx ρ with
 |bad|ex x=>rw[q] at h;exact h
 |ok z=>rw[q] at h;exact λ v fp H' P' t E' o nd hf=>h σ H' P' t E'
theorem Z6 (j:Nat){x:Str}{pos':Pos}(hN:X.N.Nodup)(hi:X.N[j]?=some x)(hx:Loc X.env.scope x)(he:DX X WX e fx)(hs:swapsWith e (some (.Name x pos')) pos.line X.env=pure false:=by rfl)(hf:X.fn x=true\/X.env.scope.names.lookup x=some .local:=by first | exact .inl rfl | exact .inr rfl | assumption):
 DS X WX (.Assign [.Name x pos'] e pos) (λ ρ=>(fx ρ).bind λ z=>Q8 j z.1 z.2):=by
 obtain⟨te,e1,e2⟩:=he;refine⟨_,Rg hN hi hx e1 hs hf,λ P0 P σ H Z ρ E h=>?_⟩;dsimp only at h;refine e2 P0 P σ H _ ρ E ?_;cases q:fx ρ with
 |bad|ex x=>rw[q] at h;exact h
 |ok z =>
  rw[q] at h;simp only[M.A6] at h;intro v fp H' P' tr E' o nd hf;have h':=h.tr tr;have key:gS X.K WX P0 P' H' Z (.ok (.next (z.1.set j (some (toCl none z.2)))))->Z.nx (σ.set j (some v)) H':=λ h=>by
   refine h _ H' P' Tr.refl (E'.YM (λ _ h=>h) E'.Cf (Ae.refl _) (λ k c' v' ai ae g1 g2 g3 b hb=>⟨rfl,λ w=>(hf b w).2.2 k c' v' ai g1 g2 g3 hb⟩) (CW.toCl o) (λ b hb=>⟨(hf b hb).1,(hf b hb).2.1⟩) nd (λ n z=>by rw[FJ] at z;cases z))
  obtain⟨ρ1,u⟩:=z;cases u with
  |sh d =>
   cases o with
   |sh hv=>exact h' _ H' P' Tr.refl (E'.RG hv)
  |lst ts|tup ts|Bh b ks ts|ins x ns ts=>exact key h'
end
noncomputable def Gg (i:Nat)(ρ:Aa)(π:List Nat):M (Bool×List D×List D):=match SO i ρ π with
 |some (.Bh b ks ts)=>(match E5 ts with|some vs=>.ok (b,ks,vs)|none=>.bad)
 |_=>.bad
noncomputable def putD (ks vs:List D)(k v:D):List D×List D:=if KN ks k=true then (ks,Il ks vs k v) else (ks++[k],vs++[v])
section
variable {X:Cx}{E:XK}{WX:Str->Hp->Prop}{c:Bool}{P0:Dn}{P:Addr->Prop}{H:Hp}{σ:St}{ρ:Aa}{a b e:Expr}{f g:Aa->M D}{fn:Aa->M OT}{fx:Aa->M (Aa×OT)}{fp:Aa->M (List Nat)}{pos:Pos}{i:Nat}{es:List Expr}{fs:Aa->M (List D)}
theorem B8.Bh {K:za}{π:List Nat}{v:V}{t1:OT}{bl:Bool}{ks vs:List D}(pl:B8 K P H σ ρ i π v t1)(E:Ai K P0 P H σ ρ)(h:Gg i ρ π=.ok (bl,ks,vs)):t1=.Bh bl ks (vs.map .sh)/\∃l xs,v=.ref l/\P l/\Ag K (del H P) xs vs/\BF K H P (.ref l) (.Bh bl ks (vs.map .sh)) [l]/\
 ((bl=false/\∃kvs,H l=some (.dK kvs)/\ks=(kvs.map λ kv=>EA kv.1)/\xs=kvs.map yA)\/(bl=true/\∃kvs,H l=some (.dT kvs)/\ks=(kvs.map λ kv=>.tup (kv.1.map EA))/\xs=kvs.map yA)):=by
 unfold Gg at h;rw[pl.at] at h;split at h
 ·rename_i b' i4 ny e;split at h
  ·rename_i bN e';cases e;cases h;have z:=CN e';subst z;obtain⟨az,o1,hp,nd⟩:=pl.own E;generalize ht:OT.Bh bl ks (vs.map .sh)=t at o1;cases o1 with
   |dK hh hr =>
    injection ht with h1 h2 h3
    subst h1 h2 h3;obtain⟨rfl,hs⟩:=hr.gQ;exact⟨rfl,_,_,rfl,(hp _ zd).1,hs,.dK hh hr,.inl ⟨rfl,_,hh,rfl,rfl⟩⟩
   |dT hh hr =>
    injection ht with h1 h2 h3
    subst h1 h2 h3;obtain⟨rfl,hs⟩:=hr.gQ;exact⟨rfl,_,_,rfl,(hp _ zd).1,hs,.dT hh hr,.inr ⟨rfl,_,hh,rfl,rfl⟩⟩
   |_=>cases ht
  ·cases h
 ·cases h
theorem WQ {π:List Nat}{x:Str}(h:Gg i ρ π=.ex x):False:=by
 unfold Gg at h;split at h
 ·split at h<;>cases h
 ·cases h
theorem Ai.hZ {K:za}{π:List Nat}{l:Addr}{t1 u:OT}{o':HO}(E:Ai K P0 P H σ ρ)(pl:B8 K P H σ ρ i π (.ref l) t1)(ot:BF K H P (.ref l) t1 [l])(hn:∀xs,o'≠.tup xs/\∀z,o'≠.TR z (.tup xs))(new:Ae (del H P) (del (upd H l o') P)->BF K (upd H l o') P (.ref l) u [l]):
 ∃c p t,ρ[i]?=some (some c)/\treeOf c=some (p,t)/\Ai K P0 P (upd H l o') σ (ρ.set i (some (toCl p (DZ t π u))))/\Tr P0 P H P (upd H l o'):=by
 obtain⟨az,o1,hp,_⟩:=pl.own E;have:=o1.C1 ot;subst this;have pP:P l:=(hp l zd).1;have sd:del (upd H l o') P=del H P:=by
  funext b;by_cases hb:P b
  ·rw[FE hb,FE hb]
  ·rw[AE hb,AE hb,Am (λ z=>hb (by rw[z];exact pP))]
 have sm:Ae (del H P) (del (upd H l o') P):=by rw[sd];exact Ae.refl _
 refine E.mI pl ot (λ _ h=>h) (λ a h=>?_) sm (λ a ha hn=>Am λ z=>hn (by rw[z];exact zd)) (new sm) (by simp) (λ a ha=>.inl ha);by_cases ha:a=l
 ·subst ha;exact⟨_,AH,hn⟩
 ·unfold El;rw[Am ha];exact E.Cf a h
theorem OK {n:Nat}(hu:X.A.units+n<cLine)(ha:DP X WX a i fp)(hk:DE X WX true b g)(hv:DE X WX true e f){pos':Pos}(hs:swapsWith e (some (.Subscript a b pos')) pos.line X.env=pure false:=by rfl)(hn:1<=n:=by decide):
 DS X WX (.Assign [.Subscript a b pos'] e pos) (λ ρ=>(f ρ).bind λ v=>(fp ρ).bind λ π=>(g ρ).bind λ k=>(Gg i ρ π).bind λ z=>if keyOk z.1 k=true/\z.2.1.length<1000 then Gn i ρ π (.Bh z.1 (putD z.2.1 z.2.2 k v).1 ((putD z.2.1 z.2.2 k v).2.map .sh)) else .bad):=by
 obtain⟨ta,a1,a2⟩:=ha;obtain⟨tk,k1,k2⟩:=hk;obtain⟨tv,v1,v2⟩:=hv;refine⟨_,YB (by omega) a1 k1 v1 hs,λ P0 P σ H Z ρ E h=>?_⟩;dsimp only at h;refine v2 P0 P σ H _ ρ E ?_;cases q0:f ρ with
 |bad=>rw[q0] at h;exact h
 |ex x=>rw[q0] at h;exact λ H' s=>h H' P (E.tr s)
 |ok d =>
  rw[q0] at h;simp only[M.A6] at h;intro w H0 s0 hw;have E0:=E.same s0;refine a2 P0 P σ H0 _ ρ E0 ?_;cases q:fp ρ with
  |bad=>rw[q] at h;exact h
  |ex x=>rw[q] at h;exact λ H' s=>h H' P ((E.tr s0).trans (E0.tr s))
  |ok π =>
   rw[q] at h;simp only[M.A6] at h;intro v t1 H1 s1 pl;have E1:=E0.same s1;refine k2 P0 P σ H1 _ ρ E1 ?_;cases q2:g ρ with
   |bad=>rw[q2] at h;exact h
   |ex y=>rw[q2] at h;exact λ H' s=>h H' P (((E.tr s0).trans (E0.tr s1)).trans (E1.tr s))
   |ok k =>
    rw[q2] at h;simp only[M.A6] at h;intro y H2 s2 hy;have E2:=E1.same s2;have c9:=pl.same s2;have j8:=(hw.mono s1.del).mono s2.del;have rQ:=((E.tr s0).trans (E0.tr s1)).trans (E1.tr s2);cases q3:Gg i ρ π with
    |bad=>rw[q3] at h;exact h.elim
    |ex x=>exact (WQ q3).elim
    |ok z =>
     obtain⟨bb,ks,vs⟩:=z;rw[q3] at h;simp only[M.A6] at h;by_cases hc:keyOk bb k=true/\ks.length<1000
     ·rw[if_pos hc] at h;obtain⟨rfl,l,xs,rfl,hP,bI,ot,i6⟩:=c9.Bh E2 q3;have hK:=LQ hc.1;rcases i6 with ⟨rfl,kvs,hH,rfl,rfl⟩|⟨rfl,kvs,hH,rfl,rfl⟩
      ·cases hK with
       |k κ =>
        have ey:=hy.mJ;refine⟨l,_,rfl,.inl ⟨kvs,κ,hH,ey,AG (by have:=hc.2;rw[zf] at this;omega),rfl⟩,?_⟩;have bf:∃bN,(putD (kvs.map λ kv=>EA kv.1) vs (EA κ) d)=((putK kvs κ w).map (λ kv=>EA kv.1),bN)/\Ag X.K (del H2 P) ((putK kvs κ w).map yA) bN:=by
         unfold putD putK;rw[Qa LR];by_cases hh:(kvs.any λ kv=>decide (kv.1=κ))=true
         ·rw[if_pos hh,if_pos hh];refine⟨_,by rw[LV (fk:=EA) LR],?_⟩;rw[<-LU (fk:=EA) LR];exact LW j8 bI
         ·rw[if_neg hh,if_neg hh];refine⟨_,by rw[yg];rfl,?_⟩;rw[yg];exact bI.snoc j8
        obtain⟨bN,e1,e2⟩:=bf;obtain⟨c,p,t0,g1,g2,E3,t3⟩:=E2.hZ (o':=.dK (putK kvs κ w)) (u:=.Bh false ((putK kvs κ w).map λ kv=>EA kv.1) (bN.map .sh)) c9 ot (λ _=>⟨λ z=>(by cases z),λ _ z=>by cases z⟩) (λ mv=>.dK AH (e2.mono mv).ows);rw[e1,FN g1 g2] at h;exact h _ _ _ (rQ.trans t3) E3
      ·cases hK with
       |t κ =>
        cases hy with
        |tup ht aM =>
         have ey:=Ag.keys κ aM;subst ey;refine⟨l,_,rfl,.inr ⟨kvs,κ,_,hH,rfl,(An ht).2,AG (by have:=hc.2;rw[zf] at this;omega),rfl⟩,?_⟩;have hf:∀a b:List Key,Ao (.tup (a.map EA)) (.tup (b.map EA))=decide (a=b):=λ a b=>by simp only[Ao];exact OI a b
         have bf:∃bN,(putD (kvs.map λ kv=>.tup (kv.1.map EA)) vs (.tup (κ.map EA)) d)=((putK kvs κ w).map (λ kv=>.tup (kv.1.map EA)),bN)/\Ag X.K (del H2 P) ((putK kvs κ w).map yA) bN:=by
          unfold putD putK;rw[Qa (fk:=λ κ:List Key=>D.tup (κ.map EA)) hf];by_cases hh:(kvs.any λ kv=>decide (kv.1=κ))=true
          ·rw[if_pos hh,if_pos hh];refine⟨_,by rw[LV (fk:=λ κ:List Key=>D.tup (κ.map EA)) hf],?_⟩;rw[<-LU (fk:=λ κ:List Key=>D.tup (κ.map EA)) hf];exact LW j8 bI
          ·rw[if_neg hh,if_neg hh];refine⟨_,by rw[yg];rfl,?_⟩;rw[yg];exact bI.snoc j8
         obtain⟨bN,e1,e2⟩:=bf;obtain⟨c,p,t0,g1,g2,E3,t3⟩:=E2.hZ (o':=.dT (putK kvs κ w)) (u:=.Bh true ((putK kvs κ w).map λ kv=>.tup (kv.1.map EA)) (bN.map .sh)) c9 ot (λ _=>⟨λ z=>(by cases z),λ _ z=>by cases z⟩) (λ mv=>.dT AH (e2.mono mv).ows);rw[e1,FN g1 g2] at h;exact h _ _ _ (rQ.trans t3) E3
     ·rw[if_neg hc] at h;exact h.elim
theorem Qe (tk:Bool):DN X WX (.Dict [] [] pos) (λ _=>.ok (.Bh tk [] [])):=by
 cases tk with
 |false =>
  refine⟨_,W7,λ P0 P σ H Q ρ E h p hp=>?_⟩;exact h _ [p] _ (AM hp _) (λ a ha=>by rw[zw.mp ha];exact hp) (by simp) (.dK (kvs:=[]) AH .nil)
 |true =>
  refine⟨_,W8,λ P0 P σ H Q ρ E h p hp=>?_⟩;exact h _ [p] _ (AM hp _) (λ a ha=>by rw[zw.mp ha];exact hp) (by simp) (.dT (kvs:=[]) AH .nil)
end
theorem Im {α:Type}(o:Option (α×List Int))(b:α×List Int):Bu o b≠none:=by
 unfold Bu;split
 ·intro z;cases z
 ·split<;>(intro z;cases z)
theorem LY {α:Type}:∀ {bs:List (α×List Int)},bs≠[]->AR bs≠none:=by
 intro bs h;unfold AR
 suffices z:∀(bs:List (α×List Int)) (o:Option (α×List Int)),o≠none->bs.foldl Bu o≠none by
  cases bs with
  |nil=>exact (h rfl).elim
  |cons b r=>rw[zX];exact z r _ (Im _ _)
 intro bs;induction bs with
 |nil=>intro o h;exact h
 |cons b r ih=>intro o h;rw[zX];exact ih _ (Im _ _)
section
variable {prog:Program}{w:World}{A:Around}{R:Result->Shared->Prop}
theorem Uv (bs:List (Addr×List Int))(n4:bs≠[])(tv:Addr->Array Value)(l I S:Addr)(hh:A.handled=none)(hu:A.in1.units<cLine)(c6:S≠I)(mr:l≠I)(ij:l≠S)(dw:∀b∈bs,b.1≠I/\b.1≠S)
 (hk:∀b∈bs,IntsAre (tv b.1).toList b.2):∀(k j:Nat) (s:Shared) (c:Nat),bs.length-j=k->j<=bs.length->s.heap.IsListIter I l j->s.heap.IsList l (bs.map λ b=>ya b.1).toArray->(∀b∈bs,IsTup s.heap b.1 (tv b.1))->
  s.heap.get? S=some {cls:=.type "list",dict:=none,data:=.seq (D1 (bs.take j)) c,slots:=#[]} ->
  (∀h' tk,(∀b o,b≠I->b≠S->s.heap.get? b=some o->h'.get? b=some o)->R (.ok (.ret (match AR bs with|none=>.none|some b=>.ref b.1))) {s with heap:=h',toks:=tk})->
  codeAny (model prog w) A (.builtin "min.loop" ⟨[.ref I,.none,.ref S],[]⟩) R s:=by
 have a7:(toString "min" ++ toString ".loop" : String) = "min.loop" := by decide
 intro k;induction k with
 |zero =>
  intro j s c hr hj hit hl ht hS hR;have c7:j=bs.length:=by omega
  subst c7;rw[y7] at hS;refine codeAny_builtin PySem.F.entry_min_loop ?_;rw[yQ zU _];show wpAny _ A.in1 (seqItems? (.ref S) >>= _) _ _ s;refine wpAny_bind (wpAny_seqItems hS rfl ?_);show wpAny _ A.in1 (tryCatch (pyNext (.ref I)) _ >>= _) _ _ s;refine wpAny_bind (wpAny_tryCatch (wpAny_pyNext_list_end (A:=A.in1) hh hit hl (by simp) λ h' eb=>?_));have aA:h'.get? S=_:=eb S _ c6 hS;unfold D1 at aA;cases hb:AR bs with
  |none=>exact (LY n4 hb).elim
  |some b =>
   rw[hb] at aA;unfold D1;rw[hb];show wpAny _ A.in1 (updateSeq S (λ _=>#[]) >>= _) _ _ _;refine wpAny_bind ?_;refine wpAny_updateSeq aA rfl (wpAny_bind (wpAny_letGo (wpAny_pure ?_)));have q:=hR (h'.update S (yv λ _=>#[])) s.toks λ b o h1 h2 e=>(yZ _ _ (yh h2)).trans (eb b o h1 e);rw[hb] at q;exact q
 |succ k ih =>
  intro j s c hr hj hit hl ht hS hR;have am:j<bs.length:=by omega
  have ej:bs.take (j+1)=bs.take j++[bs[j]]:=by rw[yS,zr am];rfl
  have mj:bs[j]∈bs:=List.getElem_mem am;refine codeAny_builtin PySem.F.entry_min_loop ?_;rw[yQ zU _];show wpAny _ A.in1 (seqItems? (.ref S) >>= _) _ _ s;refine wpAny_bind (wpAny_seqItems hS rfl ?_);show wpAny _ A.in1 (tryCatch (pyNext (.ref I)) _ >>= _) _ _ s;refine wpAny_bind (wpAny_tryCatch (wpAny_pyNext_list_item (A:=A.in1) hit hl (x:=.ref bs[j].1) (by simp[am]) λ h' aX sb=>?_));have bw:yW I s.heap h':=sb;have aA:h'.get? S=_:=(bw.2 S c6).trans hS;have bD:h'.IsList l (bs.map λ b=>ya b.1).toArray:=hl.at λ o e=>(bw.2 l mr).trans e;have bW:∀b∈bs,IsTup h' b.1 (tv b.1):=λ b hb=>by
   obtain⟨o,ho,r⟩:=ht b hb;exact⟨o,(bw.2 b.1 (dw b hb).1).trans ho,r⟩
  cases hb:AR (bs.take j) with
  |none =>
   unfold D1 at aA ⊢;rw[hb] at aA ⊢;show wpAny _ A.in1 (updateSeq S (λ _=>#[.ref bs[j].1,.ref bs[j].1]) >>= _) _ _ _;refine wpAny_bind ?_;refine wpAny_updateSeq aA rfl ?_;rw[a7];have s1:=yN h' S (yv λ _=>(#[.ref bs[j].1,.ref bs[j].1]:Array Value));refine wpAny_pure ⟨plainId_quiet zU _,ih (j+1) _ (c+1) (by omega) am (aX.at λ o e=>(s1.2 I (yh c6)).trans e) (bD.at λ o e=>(s1.2 l ij).trans e) (λ b hb=>?_) ?_ λ bX tk aS=>?_⟩
   ·obtain⟨o,ho,r⟩:=bW b hb;exact⟨o,(s1.2 b.1 (dw b hb).2).trans ho,r⟩
   ·refine (yJ _ aA rfl).trans ?_;unfold D1;rw[ej,CG,hb];rfl
   ·exact hR bX tk λ b o h1 h2 e=>aS b o h1 h2 ((s1.2 b h2).trans ((bw.2 b h1).trans e))
  |some m =>
   have mm:m∈bs:=yu (JD _ _ hb);unfold D1 at aA ⊢;rw[hb] at aA ⊢;show wpAny _ A.in1 (tryCatch (holding [.ref bs[j].1,.ref bs[j].1] (richCompare .Lt (.ref bs[j].1) (.ref m.1) >>= _)) _ >>= _) _ _ _;refine wpAny_bind (wpAny_tryCatch (wpAny_holding (wpAny_bind (HT.Ia (bW _ mj) (bW _ mm) (hk _ mj) (hk _ mm) hu ?_))));refine wpAny_bind (wpAny_holding (wpAny_truthy_bool ?_));refine wpAny_bind (wpAny_letGo (wpAny_pure ?_));cases hc:HT.lexLt bs[j].2 m.2 with
   |true =>
    simp only[if_true];have s1:=yN h' S (yv λ _=>(#[.ref bs[j].1,.ref bs[j].1]:Array Value));refine wpAny_bind ?_;refine wpAny_updateSeq aA rfl (wpAny_bind (wpAny_letGo ?_));rw[a7];refine wpAny_pure ⟨plainId_quiet zU _,ih (j+1) _ c (by omega) am (aX.at λ o e=>(s1.2 I (yh c6)).trans e) (bD.at λ o e=>(s1.2 l ij).trans e) (λ b hb=>?_) ?_ λ bX tk aS=>?_⟩
    ·obtain⟨o,ho,r⟩:=bW b hb;exact⟨o,(s1.2 b.1 (dw b hb).2).trans ho,r⟩
    ·refine (yJ _ aA rfl).trans ?_;unfold D1;rw[ej,CG,hb];simp only[hc,if_true];rfl
    ·exact hR bX tk λ b o h1 h2 e=>aS b o h1 h2 ((s1.2 b h2).trans ((bw.2 b h1).trans e))
   |false =>
    simp only[zC,if_false];refine wpAny_bind (wpAny_letGo ?_);rw[a7];refine wpAny_pure ⟨plainId_quiet zU _,ih (j+1) _ c (by omega) am aX bD bW ?_ λ bX tk aS=>?_⟩
    ·refine aA.trans ?_;unfold D1;rw[ej,CG,hb];simp only[hc,zC,if_false]
    ·exact hR bX tk λ b o h1 h2 e=>aS b o h1 h2 ((bw.2 b h1).trans e)
theorem OL {E:Value->Shared->Prop}{s:Shared}{Q:Value->Shared->Prop}(bs:List (Addr×List Int))(n4:bs≠[])(tv:Addr->Array Value)(l:Addr)(hh:A.handled=none)(hu:A.in1.units<cLine)
 (hl:s.heap.IsList l (bs.map λ b=>ya b.1).toArray) (ht:∀b∈bs,IsTup s.heap b.1 (tv b.1)) (hk:∀b∈bs,IntsAre (tv b.1).toList b.2)
 (hQ:∀h' tk,(∀b o,s.heap.get? b=some o->h'.get? b=some o)->Q (match AR bs with|none=>.none|some b=>.ref b.1) {s with heap:=h',toks:=tk}):
 wpAny (model prog w) A (call (.builtin "min") [.ref l]) Q E s:=by
 have a7:(toString "min" ++ toString ".loop" : String) = "min.loop" := by decide
 obtain⟨ol,dz,_⟩:=id hl;have t8:l<s.heap.objs.size:=zt dz;refine kmk_tree PySem.F.kind_min PySem.F.plain_min PySem.F.entry_min (by unfold argsOk;kernel_rfl) ?_;show wpAny _ A.in1 (yU "min" ["key","default"] 0 ⟨[],[]⟩ >>= _) _ _ s;refine wpAny_bind (wpAny_of_eq (show yU "min" ["key","default"] 0 ⟨[],[]⟩=pure [none,none] from rfl) ?_);refine wpAny_bind (wpAny_pure ?_);refine wpAny_bind (wpAny_pyIter_list hl ?_);refine wpAny_bind (wpAny_newList ?_ (zT _));rw[a7];have hS:(s.heap.push {cls:=.type "list_iterator",data:=.fields #[.ref l,.int 0 0]}).objs.size=s.heap.objs.size+1:=Heap.size_push ..;have old:∀b o,s.heap.get? b=some o->b≠s.heap.objs.size/\b≠(s.heap.push {cls:=.type "list_iterator",data:=.fields #[.ref l,.int 0 0]}).objs.size:=λ b o e=>⟨zJ (zt e),by rw[hS];exact zJ (Nat.lt_succ_of_lt (zt e))⟩;have grow:∀b o,s.heap.get? b=some o->((s.heap.push {cls:=.type "list_iterator",data:=.fields #[.ref l,.int 0 0]}).push {cls:=.type "list",data:=.seq #[]}).get? b=some o:=λ b o e=>zj _ (zj _ e);refine wpAny_pure ⟨plainId_quiet zU _,?_⟩;refine Uv bs n4 tv l s.heap.objs.size (s.heap.push {cls:=.type "list_iterator",data:=.fields #[.ref l,.int 0 0]}).objs.size hh hu (by rw[hS];exact Nat.succ_ne_self _) (old l ol dz).1 (old l ol dz).2 (λ b hb=>?_) hk _ 0 _ 0 rfl (zT _) ?_ ?_ (λ b hb=>?_) ?_ ?_
 ·obtain⟨o,ho,_⟩:=ht b hb;exact old b.1 o ho
 ·exact⟨_,zj _ (zD _ rfl),rfl,rfl⟩
 ·exact hl.at λ o e=>grow l o e
 ·obtain⟨o,ho,r⟩:=ht b hb;exact⟨o,grow b.1 o ho,r⟩
 ·exact zD _ rfl
 ·intro h' tk d0;exact hQ h' tk λ b o e=>d0 b o (old b o e).1 (old b o e).2 (grow b o e)
end
section
variable {X:Cx}{WX:Str->Hp->Prop}{c:Bool}{e:Expr}{f:Aa->M D}{pos:Pos}
def cZ (K:za):List V->Hp->VK->Prop:=λ xs H Q=>∃(a:Addr) (bs:List (Addr×List Int)) (b:Addr×List Int),xs=[.ref a]/\Dg K H a (bs.map λ b=>V.ref b.1)/\(∀b∈bs,Fx K H b.1 (b.2.map V.int))/\AR bs=some b/\Q (.ref b.1) H
theorem Uw (hc:X.calm=true)(hu:X.A.units+1<cLine):Ge X (.builtin "min") (cZ X.K):=by
 intro pins s σ H xs us Q I r h;obtain⟨a,bs,b0,rfl,hl,hb,he,q⟩:=h;obtain⟨ua,rfl,ra⟩:=r.one;cases ra;obtain⟨aa,rv,pl,hz⟩:=I.list hl;have ei:=JE rv;subst ei;have tv:∀a:Addr,∃t:Array Value,∀b∈bs,b.1=a->IsTup s.heap a t/\IntsAre t.toList b.2:=λ a=>by
  by_cases bY:∃b∈bs,b.1=a
  ·obtain⟨b,bY,rfl⟩:=bY;obtain⟨ts,rt,pt,_⟩:=I.tuple (hb b bY);refine⟨ts.toArray,λ b' a5 e=>⟨pt,?_⟩⟩;have q2:=hb b' a5;rw[e] at q2;have e2:=I.Hb q2 (hb b bY);rw[<-e2] at rt;simpa using intsAre_of rt
  ·exact⟨#[],λ b a5 e=>absurd ⟨b,a5,e⟩ bY⟩
 have ae:bs≠[]:=λ z=>by subst z;cases he
 refine OL bs ae (λ b=>zm (tv b)) a (I.ok.hd hc) hu pl.isList (λ b a5=>(zb (tv b.1) b a5 rfl).1) (λ b a5=>(zb (tv b.1) b a5 rfl).2) λ h' tk hk=>?_;rw[he];exact⟨.ref b0.1,H,I.kept (t':=tk) hk,rfl,q⟩
noncomputable def SS (ds:List D):M D:=match ds with
 |[.lst xs]=>(match GA xs with|some ks=>(match AR ks with|some k=>.ok k.1|none=>.bad)|none=>.bad)
 |_=>.bad
theorem Z7:J0 X.K WX (cZ X.K) SS:=by
 intro P H ds vs Q ht hl h;unfold SS at h;split at h
 ·rename_i xs;obtain⟨v,rfl,hv⟩:=hl.one;split at h
  ·rename_i ks e1;cases hv with
   |lst hs hh =>
    obtain⟨bs,rfl,h2,h3⟩:=Ii hh e1;split at h
    ·rename_i k e2;rcases LB h3 with ⟨q1,q2⟩|⟨b,k',q1,q2,_,q3⟩
     ·rw[q2] at e2;cases e2
     ·rw[q2] at e2;cases e2;exact⟨_,bs,b,rfl,hs.Bi,λ b hb=>(h2 b hb).Bi,q1,h _ H (Ae.refl H) q3⟩
    ·exact h.elim
  ·exact h.elim
 ·exact h.elim
theorem Z8 {p:Pos}{n:Nat}(hc:X.calm=true)(hu:X.A.units+n<cLine)(hg:Gl X "min")(hm:X.mg "min" = none)(ha:DE X WX c e f)(hb:bootBuiltins "min" = some (.builtin "min"):=by decide +kernel)(hs:starEach [e] X.env=[(false,eval e X.env)]:=by rfl)(hn:1<=n:=by decide):DE X WX c (.Call (.Name "min" p) [e] [] pos) (λ ρ=>((f ρ).bind λ d=>(M.ok []).bind λ ds=>.ok (d::ds)).bind SS):=
 Gy (Uw hc (by omega)) Z7 hg hm hb (A2 ha A8 hs) (he:=hs)
end
section
variable {X:Cx}{E:XK}{WX:Str->Hp->Prop}{c:Bool}{P0:Dn}{P:Addr->Prop}{H:Hp}{σ:St}{ρ:Aa}{a b e:Expr}{f g:Aa->M D}{fn:Aa->M OT}{fp:Aa->M (List Nat)}{pos:Pos}{i:Nat}
def Z9:V->List V->Hp->VK->Prop:=λ x vs H Q=>∃(l:Addr) (ns:List Int) (k:Int),x=.ref l/\vs=[.int k]/\H l=some (.lst (ns.map V.int))/\k∈ns/\Q .Az (upd H l (.lst ((ns.erase k).map V.int)))
theorem NI {α β:Type}(f:α->β):∀(l:List α) (k:Nat),(l.eraseIdx k).map f=(l.map f).eraseIdx k
 |[],_|_::_,0=>rfl
 |x::r,k+1=>by rw[List.eraseIdx_cons_succ,zg,zg,List.eraseIdx_cons_succ,NI f r k]
noncomputable def RS (k:Int):Value->Bool
 | .int i _=>i==k
 |_=>false
theorem Ux:fJ X "list.remove" Z9:=by
 intro pins s σ H x vs v us Q I rx rv h;obtain⟨l,ns,k,rfl,rfl,hH,hk,q⟩:=h;cases rx;obtain⟨u,rfl,ru⟩:=rv.one;obtain⟨tk,rfl⟩:=ru;obtain⟨z,aa,n,r,hl,e⟩:=I.PD hH;have hlen:=r.length;have e8:ns.idxOf k<ns.length:=List.idxOf_lt_length_iff.mpr hk;have e9:∀m (hm:m<aa.toArray.size) (rR:m<ns.length),∃t,aa.toArray[m]=Value.int ns[m] t:=λ m hm rR=>by
  have hx:(ns.map V.int)[m]?=some (V.int ns[m]):=by rw[zG,zr rR];rfl
  obtain⟨w,hw,bu⟩:=r.get hx;obtain⟨t,rfl⟩:=bu;refine⟨t,?_⟩;have:aa[m]?=some aa[m]:=zr (by simpa using hm);rw[hw] at this;simpa using (zH this).symm
 have hsz:aa.toArray.size=ns.length:=by rw[zh,<-hlen,zf]
 have hm:=MeetsSeq.list_remove l aa.toArray n (.int k tk) (RS k) (λ y hy=>by
  obtain⟨m,hm,rfl⟩:=Array.mem_iff_getElem.mp hy;obtain⟨t,ht⟩:=e9 m hm (by rw[<-hsz];exact hm);rw[ht];exact MeetsSeq.EqGives.int _ _ _ _) (ns.idxOf k) (by rw[hsz];exact e8) (by
  obtain⟨t,ht⟩:=e9 (ns.idxOf k) (by rw[hsz];exact e8) e8;rw[ht];simp[RS]) (λ m hm am=>by
  obtain⟨t,ht⟩:=e9 m hm (by omega);rw[ht];have:=List.not_of_lt_findIdx (p:=(· == k)) (xs:=ns) (i:=m) am;simpa [RS] using this) (by rw[zh];omega)
 refine call_meets F.slot_list_remove ⟨_,e,rfl⟩ F.entry_list_remove (F.args_list_remove_2 _ _) hm ⟨e,?_⟩;refine⟨.Az,_,I.U5 (its':=aa.eraseIdx (ns.idxOf k)) hH e ?_ ?_ ?_,rfl,q⟩
 ·show aa.toArray.eraseIdxIfInBounds _=_;rw[List.eraseIdxIfInBounds_toArray]
 ·rw[show ns.erase k=ns.eraseIdx (ns.idxOf k) from List.erase_eq_eraseIdx_of_idxOf rfl,NI];exact r.eraseIdx _
 ·rw[zf];have:=List.length_erase_le (a:=k) (l:=ns);rw[zf] at z;omega
theorem Uy (ha:DP X WX a i fp)(he:DE X WX true e f){apos ac:Pos}(hs:starEach [e] X.env=[(false,eval e X.env)]:=by rfl)
 (bg:swapsWith (.Call (.Attribute a "remove" apos) [e] [] ac) none pos.line X.env=pure false:=by rfl)
 (ap:attributeBase a "remove" X.env (eval a X.env)=eval a X.env:=by rfl)
 (aD:((backTo ac (starEach [e] X.env)).all (λ x => !x.1)&&(backToKw ac (keywordEach [] X.env)).all (λ x=>x.1.isSome)&&decide (([e]:List Expr).length+([]:List Keyword).length+(if ([]:List Keyword).isEmpty then 0 else 1)<30))=true:=by rfl)
 (aq:(apos.endLine==ac.line)=true:=by rfl) (ar:(backTo ac (starEach [] X.env)).any (·.1)=false:=by rfl):
 DS X WX (.Expr (.Call (.Attribute a "remove" apos) [e] [] ac) pos) (λ ρ=>(fp ρ).bind λ π=>(MW i ρ π).bind λ ds=>(f ρ).bind λ d=>match d,BU ds with
  | .int k,some ns=>if k∈ns then Gn i ρ π (.lst (((ns.erase k).map D.int).map .sh)) else .bad
  |_,_=>.bad):=by
 obtain⟨ta,a1,a2⟩:=ha;obtain⟨te,e1,e2⟩:=he;refine⟨_,Fy (Nk ym PySem.F.slot_list_remove PySem.F.type_list_remove Ux a1 (Bf e1 BZ hs) ap aD aq hs ar) bg,λ P0 P σ H Z ρ E h=>?_⟩;dsimp only at h;refine a2 P0 P σ H _ ρ E ?_;cases q:fp ρ with
 |bad=>rw[q] at h;exact h
 |ex x=>rw[q] at h;exact λ H' s=>h H' P (E.tr s)
 |ok π =>
  rw[q] at h;simp only[M.A6] at h;intro v t1 H1 s1 pl;have E1:=E.same s1;cases q1:MW i ρ π with
  |bad=>rw[q1] at h;exact h.elim
  |ex x=>exact (OJ q1).elim
  |ok ds =>
   rw[q1] at h;simp only[M.A6] at h;obtain⟨rfl,l,xs,rfl,hl,ol⟩:=pl.shl E1 q1;refine⟨.inl ⟨rfl,xs,.of hl⟩,e2 P0 P σ H1 _ ρ E1 ?_⟩;cases q2:f ρ with
   |bad=>rw[q2] at h;exact h
   |ex y=>rw[q2] at h;exact λ H' s=>h H' P ((E.tr s1).trans (E1.tr s))
   |ok d =>
    rw[q2] at h;simp only[M.A6] at h;intro w H2 s2 hw;have E2:=E1.same s2;have c9:=pl.same s2;cases d with
    |int k =>
     cases q3:BU ds with
     |none=>rw[q3] at h;exact h.elim
     |some ns =>
      rw[q3] at h;dsimp only at h;by_cases hk:k∈ns
      ·rw[if_pos hk] at h;have:=CL q3;subst this;have cY:=ol.mono s2.del;have ex:=CM cY;subst ex;have aM:=s2 _ _ hl;obtain⟨c,p,t0,g1,g2,E3,t3⟩:=E2.hV (ys:=(ns.erase k).map V.int) (es:=(ns.erase k).map D.int) c9 aM cY (Ag.ints _);rw[FN g1 g2] at h;exact⟨l,ns,k,rfl,by rw[hw.int_inv],aM,hk,h _ _ _ (((E.tr s1).trans (E1.tr s2)).trans t3) E3⟩
      ·rw[if_neg hk] at h;exact h.elim
    |_=>exact h.elim
end
section
variable {X:Cx}{WX:Str->Hp->Prop}{c:Bool}{P0:Dn}{P:Addr->Prop}{H:Hp}{σ:St}{ρ:Aa}{a b e:Expr}{f g:Aa->M D}{fn:Aa->M OT}{pos:Pos}{te:TE}
theorem Uz (hc:X.calm=true):Ge X (.builtin "sum") (λ xs H Q=>∃p ns,xs=[.ref p]/\Dg X.K H p (List.map V.int ns)/\Q (.int ns.sum) H):=by
 intro pins s σ H xs us Q I r h;obtain⟨p,ns,rfl,hq,q⟩:=h;obtain⟨u,rfl,rx⟩:=r.one;cases rx;obtain⟨aa,r',pl,hz⟩:=I.list hq;have hl:=pl.isList;have hi:=J9 r';obtain⟨ys,e⟩:=hi.allInts.items;have c5:ns=ys.toList.map (·.1):=by rw[<-hi.numsOf,<-nums_intItems,<-e]
 rw[e] at hl;refine sum_intListG (I.ok.hd hc) hl λ h' tk t' hk=>?_;have e2:preSum (numAt ys) ys.size=ns.sum:=by rw[preSum_eq,yx (by simp),c5]
 rw[e2];exact⟨.int ns.sum,H,I.kept (t':=tk) hk,⟨t',rfl⟩,q⟩
noncomputable def WR (ds:List D):M D:=match ds with
 |[.lst xs]=>(match BU xs with|some ns=>.ok (.int ns.sum)|none=>.bad)
 |_=>.bad
theorem iA:J0 X.K WX (λ xs H Q=>∃p ns,xs=[.ref p]/\Dg X.K H p (List.map V.int ns)/\Q (.int ns.sum) H) WR:=by
 intro P H ds vs Q ht hl h;unfold WR at h;split at h
 ·rename_i xs;obtain⟨v,rfl,hv⟩:=hl.one;split at h
  ·rename_i ns eb;have:=CL eb;subst this;cases hv with
   |lst hs hh =>
    have:=CM hh;subst this;exact⟨_,ns,rfl,hs.Bi,h _ H (Ae.refl H) (.int _)⟩
  ·exact h.elim
 ·exact h.elim
theorem WS {p:Pos}(hc:X.calm=true)(hg:Gl X "sum")(hm:X.mg "sum" = none)(ha:DE X WX c e f)(hb:bootBuiltins "sum" = some (.builtin "sum"):=by decide +kernel)(hs:starEach [e] X.env=[(false,eval e X.env)]:=by rfl):DE X WX c (.Call (.Name "sum" p) [e] [] pos) (λ ρ=>((f ρ).bind λ d=>(M.ok []).bind λ ds=>.ok (d::ds)).bind WR):=
 Gy (Uz hc) iA hg hm hb (A2 ha A8 hs) (he:=hs)
noncomputable def pR (te:TE):TE:=λ σ H Q=>te σ H λ x H1=>∃n:Nat,x=.int (n:Int)/\n<=1000/\∀r,H1 r=none->Q (.ref r) (upd H1 r (.lst ((zL n).map λ i:Nat=>V.int (i:Int))))
theorem UA {acc:Array Value}{n:Nat}(h:ItemsOf (λ i v=>∃t,v=Value.int (0+(i:Int)*1) t) acc n):Vals ((zL n).map λ i:Nat=>V.int (i:Int)) acc.toList:=by
 obtain⟨h1,h2⟩:=h;have key:∀(l:List Value) (k:Nat),(∀i v,l[i]?=some v->∃t,v=Value.int ((k+i:Nat):Int) t)->Vals ((List.range' k l.length).map λ i:Nat=>V.int (i:Int)) l:=by
  intro l;induction l with
  |nil=>intro k _;exact .nil
  |cons v r ih =>
   intro k hk;rw[zq,List.range'_succ,zg];refine .cons (by obtain⟨t,e⟩:=hk 0 v rfl;exact⟨t,by simpa using e⟩) (ih (k+1) λ i w hw=>?_);obtain⟨t,e⟩:=hk (i+1) w (by simpa using hw);exact⟨t,by rw[e];congr 1;omega⟩
 have:=key acc.toList 0 (λ i v hv=>by
  obtain⟨t,e⟩:=h2 i v (by rw[<-xb];exact hv);exact⟨t,by rw[e];congr 1;omega⟩)
 rw[yy,h1] at this;rw[List.range_eq_range'];exact this
theorem OM {p p2 b8:Pos}(hc:X.calm=true)(hg:Gl X "list")(hm:X.mg "list" = none)(im:Gl X "range")(b7:X.mg "range" = none)(he:PE X e te)
 (hv:bootBuiltins "list" = some (.type "list"):=by decide +kernel)
 (hs:starEach [.Call (.Name "range" p2) [e] [] b8] X.env=[(false,eval (.Call (.Name "range" p2) [e] [] b8) X.env)]:=by rfl) (aP:starEach [e] X.env=[(false,eval e X.env)]:=by rfl):
 PE X (.Call (.Name "list" p) [.Call (.Name "range" p2) [e] [] b8] [] pos) (pR te):=by
 intro pins s σ H Q I h;refine wpAny_Call_Name_kw (Ew I hg hm hv ?_);refine y6 ?_ hs;rw[hs];refine Calls.spliced_cons ?_;refine wpAny_Call_Name_kw (Ew I im b7 boot_range ?_);refine y6 ?_ aP;rw[aP];refine Calls.spliced_cons (Bc (he pins s σ H _ I h) λ u s1 ⟨x,H1,I1,r1,q1⟩=>?_);obtain⟨n,rfl,hn,q⟩:=q1;obtain⟨t,rfl⟩:=r1;refine Calls.spliced_nil ?_;refine call_range_1 ?_;refine Calls.spliced_nil ?_;have h4:((n:Nat):Int)<2^62:=by omega
 refine call_list_range (n:=n) (I1.ok.hd hc) (IsRange.new ..) (small_one (by omega) (by omega) (by omega) h4) (by rw[rangeSize_one];split<;>omega) (by omega) λ h' tk n5 c' hk aA n6=>?_;have kp:∀b o,s1.heap.get? b=some o->h'.get? b=some o:=λ b o e=>hk b o (zj _ e);have rv:=UA n6;have rS:∀o:Obj,s1.heap.objs.size<=(s1.heap.push o).objs.size:=λ o=>by simp[Heap.push]
 refine⟨.ref _,_,I1.laid (t':=tk) (o:=.lst ((zL n).map λ i:Nat=>V.int (i:Int))) kp (rS _) ⟨?_,n5.toList,c',rv,by simpa using aA⟩,rfl,q _ (I1.Av.fresh (rS _))⟩;rw[zf,List.length_range];exact yi (AG hn)
noncomputable def nV (d:D):M OT:=match d with
 | .int j=>@ite _ (0<=j/\j<=1000) (xq _) (.ok (.lst ((Ck 0 j.toNat).map .sh))) .bad
 |_=>.bad
theorem ON {n:Nat}(h:n<=1000):nV (.int (n:Int))=.ok (.lst (((zL n).map λ i:Nat=>D.int (i:Int)).map .sh)):=by
 unfold nV;dsimp only;rw[if_pos ⟨by omega,by omega⟩,yt,LC]
theorem Jf {p p2 b8:Pos}(hc:X.calm=true)(hg:Gl X "list")(hm:X.mg "list" = none)(im:Gl X "range")(b7:X.mg "range" = none)(he:DE X WX true e f)
 (hv:bootBuiltins "list" = some (.type "list"):=by decide +kernel)
 (hs:starEach [.Call (.Name "range" p2) [e] [] b8] X.env=[(false,eval (.Call (.Name "range" p2) [e] [] b8) X.env)]:=by rfl) (aP:starEach [e] X.env=[(false,eval e X.env)]:=by rfl):
 DN X WX (.Call (.Name "list" p) [.Call (.Name "range" p2) [e] [] b8] [] pos) (λ ρ=>(f ρ).bind nV):=by
 obtain⟨te,e1,e2⟩:=he;refine⟨_,OM hc hg hm im b7 e1 hv hs aP,λ P0 P σ H Q ρ E h=>?_⟩;refine e2 P0 P σ H _ ρ E ?_;dsimp only at h;cases q:f ρ with
 |bad|ex x=>rw[q] at h;exact h
 |ok d =>
  rw[q] at h;simp only[M.A6] at h;intro v H1 s1 hv;cases d with
  |int j =>
   by_cases hj:0<=j/\j<=1000
   ·obtain⟨n,rfl⟩:∃n:Nat,j=n:=⟨j.toNat,by omega⟩;rw[ON (by omega)] at h;refine⟨n,hv.int_inv,by omega,λ r hr=>h.JQ s1 (xs:=(zL n).map λ i:Nat=>V.int (i:Int)) ?_ r hr⟩;have:∀l:List Nat,Ag X.K (del H1 P) (l.map λ i:Nat=>V.int (i:Int)) (l.map λ i:Nat=>D.int (i:Int)):=λ l=>by
     induction l with
     |nil=>exact .nil
     |cons x r ih=>exact .cons (.int _) ih
    exact this _
   ·have e:nV (.int j)=.bad:=if_neg hj;rw[e] at h;exact h.elim
  |_=>exact h.elim
noncomputable def WT (lo hi:Option Int)(d:D):M OT:=match d with
 | .lst ds=>.ok (.lst (((ds.drop (HT.Lj ds.length 0 lo)).take (HT.Lj ds.length ds.length hi-HT.Lj ds.length 0 lo)).map .sh))
 |_=>.bad
theorem Jg {lo hi:Option Expr}{n9 fh:Aa->M (Option Int)}{p2:Pos}(ha:DE X WX true e f)(hl:DO X WX true lo n9)(hh:DO X WX true hi fh):DN X WX (.Subscript e (.Slice lo hi none p2) pos) (λ ρ=>(f ρ).bind λ d=>(n9 ρ).bind λ l=>(fh ρ).bind λ u=>WT l u d):=by
 obtain⟨ta,a1,a2⟩:=ha;obtain⟨tl,l1,l2⟩:=hl;obtain⟨th,h1,h2⟩:=hh;refine⟨_,VV Yv a1 l1 h1,λ P0 P σ H Q ρ E h=>?_⟩;dsimp only at h;refine a2 P0 P σ H _ ρ E ?_;cases q:f ρ with
 |bad|ex x=>rw[q] at h;exact h
 |ok d =>
  rw[q] at h;intro v H1 s1 hv;refine l2 P0 P σ H1 _ ρ (E.same s1) ?_;cases q2:n9 ρ with
  |bad=>rw[q2] at h;exact h
  |ex y=>rw[q2] at h;exact λ H' s=>h H' (s1.trans s)
  |ok l =>
   rw[q2] at h;intro H2 s2;refine h2 P0 P σ H2 _ ρ ((E.same s1).same s2) ?_;cases q3:fh ρ with
   |bad=>rw[q3] at h;exact h
   |ex y=>rw[q3] at h;exact λ H' s=>h H' ((s1.trans s2).trans s)
   |ok u =>
    rw[q3] at h;simp only[M.A6] at h;intro H3 s3;unfold WT at h;split at h
    ·cases hv with
     |lst hs hl =>
      refine⟨_,_,rfl,(s3.seq (s2.seq hs.Bi)),λ p hp=>h.JQ ((s1.trans s2).trans s3) ?_ p hp⟩;unfold VW;rw[hl.length];exact ((((hl.drop _).take _).mono s2.del).mono s3.del)
    ·exact h.elim
def GK (μ:List (Option Nat))(g:TG):Prop:=∀σ0 σ x H Q,(∀(j:Nat) v,(Ey μ σ0)[j]?=some (some v)->σ[j]?=some (some v))->g x σ H Q->g x σ H λ σ' H'=>Q σ' H'/\∀(j:Nat) v,(Ey μ σ0)[j]?=some (some v)->σ'[j]?=some (some v)
def mM (μ:List (Option Nat))(g:Vq):Prop:=∀σ0 σ x H Q,(∀(j:Nat) v,(Ey μ σ0)[j]?=some (some v)->σ[j]?=some (some v))->g x σ H Q->g x σ H λ σ' H'=>Q σ' H'/\∀(j:Nat) v,(Ey μ σ0)[j]?=some (some v)->σ'[j]?=some (some v)
theorem GK.keeps {μ:List (Option Nat)}{g:TG}(h:GK μ g):JC μ g:=λ σ x H Q q=>h σ (Ey μ σ) x H Q (λ _ _ z=>z) q
theorem Za {μ:List (Option Nat)}{i:Nat}(h:μ[i]?=some none):GK μ (Nc i):=λ σ0 σ x H Q hk q=>by
 refine⟨q,λ j v hj=>?_⟩;have ae:i≠j:=λ z=>by
  subst z;unfold Ey at hj;rw[zG,h] at hj;cases hj
 rw[yo ae];exact hk j v hj
theorem Zb {μ:List (Option Nat)}:mM μ eL:=λ σ0 σ x H Q hk q=>⟨q.1,q.2,hk⟩
theorem WU {μ:List (Option Nat)}{t:TG}{u:Vq}(mono:∀v σ H Q Q',(∀σ' H',Q σ' H'->Q' σ' H')->t v σ H Q->t v σ H Q')(ht:GK μ t)(hu:mM μ u):mM μ (VE t u):=λ σ0 σ x H Q hk q=>by
 obtain⟨v,r,rfl,q⟩:=q;exact⟨v,r,rfl,mono _ _ _ _ _ (λ σ' H' z=>hu σ0 σ' r H' Q z.2 z.1) (ht σ0 σ v H _ hk q)⟩
theorem iB {K:za}{μ:List (Option Nat)}{n:Nat}{t:Vq}(h:mM μ t):GK μ (eM K n t):=λ σ0 σ x H Q hk q=>by
 obtain⟨a,xs,rfl,h1,h2,q⟩:=q;exact⟨a,xs,rfl,h1,h2,h σ0 σ xs H Q hk q⟩
variable {c8:List D->Aa->M Aa}{gt:D->Aa->M Aa}{es:List Expr}
def Zc (X:Cx)(scope:Scope)(NB:List Str)(μ:List (Option Nat))(es:List Expr)(gt:List D->Aa->M Aa):Prop:=
 ∃g:Vq,(∀s H C ex,jS (blockOf X s H scope C NB ex) es g)/\mM μ g/\∀P0 P σ H Q ρ vs ds,Ai X.K P0 P H σ ρ->Ag X.K (del H P) vs ds->gG X.K P0 P H Q (gt ds ρ)->g vs σ H Q
theorem WV {scope:Scope}{NB:List Str}{μ:List (Option Nat)}:Zc X scope NB μ [] (λ ds ρ=>match ds with | []=>.ok ρ | _=>.bad):=
 ⟨eL,λ s H C ex=>Ss,Zb,λ P0 P σ H Q ρ vs ds E hv h=>by
  cases hv with
  |nil=>exact⟨rfl,h σ E⟩
  |cons _ _=>exact h.elim⟩
theorem NJ {scope:Scope}{NB:List Str}{μ:List (Option Nat)}(i:Nat){x:Str}{px:Pos}(hN:NB.Nodup)(hi:NB[i]?=some x)(hx:(relabel scope X.env).names.lookup x=some .local)(hm:μ[i]?=some none)(hr:Zc X scope NB μ es c8)
 (hs:∀s H C ex,(assignEach (.Name x px::es) (blockOf X s H scope C NB ex).env).map (·.2)=assign (.Name x px) (blockOf X s H scope C NB ex).env::(assignEach es (blockOf X s H scope C NB ex).env).map (·.2):=by intro _ _ _ _;rfl):
 Zc X scope NB μ (.Name x px::es) (λ ds ρ=>match ds with|d::r=>c8 r (ρ.set i (some (.val d)))|[]=>.bad):=by
 obtain⟨gr,r1,r2,r3⟩:=hr;refine⟨VE (Nc i) gr,λ s H C ex=>Pu (Oh (X:=blockOf X s H scope C NB ex) hN hi (.inl hx) (.inr hx)) (r1 s H C ex) (hs s H C ex),WU (λ v σ H Q Q' hq h=>hq _ _ h) (Za hm) r2,λ P0 P σ H Q ρ vs ds E hv h=>?_⟩;cases hv with
 |nil=>exact h.elim
 |cons h1 h2=>exact⟨_,_,rfl,r3 P0 P _ H Q _ _ _ (E.RG h1) h2 h⟩
theorem Zd {scope:Scope}{NB:List Str}{μ:List (Option Nat)}{k n:Nat}{pt:Pos}(hc:X.calm=true)(h:Zc X scope NB μ es c8)
 (hn:∀s H C ex,(assignEach es (blockOf X s H scope C NB ex).env).length=n:=by intro _ _ _ _;rfl) (aT:∀s H C ex,(assignEach es (blockOf X s H scope C NB ex).env).findIdx? (·.1)=none:=by intro _ _ _ _;rfl):
 nP X scope NB μ (.Tuple es k pt) (λ d ρ=>match d with | .tup ds=>if ds.length=n then c8 ds ρ else .bad|_=>.bad):=by
 obtain⟨t,a1,a2,a3⟩:=h;refine⟨eM X.K n t,λ s H C ex=>VF (X:=blockOf X s H scope C NB ex) hc (a1 s H C ex) (hn s H C ex) (aT s H C ex),(iB a2).keeps,λ P0 P σ H Q ρ v d E hv h=>?_⟩;cases hv with
 | @tup a xs ds hs hl =>
  dsimp only at h;by_cases hd:ds.length=n
  ·rw[if_pos hd] at h;exact⟨a,xs,rfl,Fx.of (An hs).2,by rw[hl.length];exact hd,a3 P0 P σ H Q ρ xs ds E hl h⟩
  ·rw[if_neg hd] at h;exact h.elim
 |_=>exact h.elim
end
section
variable {X:Cx}{E:XK}{WX:Str->Hp->Prop}{c:Bool}{P0:Dn}{P:Addr->Prop}{H:Hp}{σ:St}{ρ:Aa}{a b e:Expr}{f g:Aa->M D}{fn:Aa->M OT}{fx:Aa->M (Aa×OT)}{fp:Aa->M (List Nat)}{pos:Pos}{i:Nat}{te:TE}
theorem Ze:J0 X.K WX (λ xs H Q=>∃i j,xs=[.int i,.int j]/\Q (.int (if j<i then j else i)) H) (λ ds=>match ds with | [.int i,.int j]=>.ok (.int (if j<i then j else i)) | _=>.bad):=by
 intro P H ds vs Q ht hl h;dsimp only at h;split at h
 ·obtain⟨v,w,rfl,h1,h2⟩:=hl.two;exact⟨_,_,by rw[h1.int_inv,h2.int_inv],h _ H (Ae.refl H) (.int _)⟩
 ·exact h.elim
theorem Zf {p:Pos}(hc:X.calm=true)(hg:Gl X "min")(hm:X.mg "min" = none)(ha:DE X WX c a f)(gj:DE X WX c b g)(hb:bootBuiltins "min" = some (.builtin "min"):=by decide +kernel)(hs:starEach [a,b] X.env=(false,eval a X.env)::starEach [b] X.env:=by rfl)(aP:starEach [b] X.env=[(false,eval b X.env)]:=by rfl)
 (hpl:(backTo pos (starEach [b] X.env)).any (·.1)=false:=by rfl):
 DE X WX c (.Call (.Name "min" p) [a,b] [] pos) (λ ρ=>((f ρ).bind λ d=>((g ρ).bind λ d2=>(M.ok []).bind λ ds=>.ok (d2::ds)).bind λ ds=>.ok (d::ds)).bind (λ ds=>match ds with|[.int i,.int j]=>.ok (.int (if j<i then j else i))|_=>.bad)):=
 Gy (TZ hc) Ze hg hm hb (A2 ha (A2 gj A8 aP) hs) (he:=hs) (hpl:=hpl)
end
def WP (m:M Out)(nx:Aa->Prop)(rt:Out->Prop)(ex:Str->Prop):Prop:=match m with
 | .ok (.next ρ)=>nx ρ
 | .ok o=>rt o
 | .ex x=>ex x
 | .bad=>False
section
variable {nx:Aa->Prop}{rt:Out->Prop}{ex:Str->Prop}{m:M Out}{k:Aa->M Out}{ρ ρ':Aa}
theorem Cd (h:m=.ok (.next ρ'))(hn:nx ρ'):WP m nx rt ex:=by rw[h];exact hn
theorem WP.mono {rT:Aa->Prop}{rV:Out->Prop}{lc:Str->Prop}(h:WP m nx rt ex)(h1:∀ρ,nx ρ->rT ρ)(h2:∀o,rt o->rV o)(h3:∀x,ex x->lc x):WP m rT rV lc:=by
 cases m with
 |bad=>exact h
 |ex x=>exact h3 x h
 |ok o =>
  cases o with
  |next ρ=>exact h1 ρ h
  |ret d|brk d|cont d|Cg d|EQ d ρ=>exact h2 _ h
theorem wp_seq (h:WP m (λ ρ=>WP (k ρ) nx rt ex) rt ex):WP (Wn m k) nx rt ex:=by
 cases m with
 |bad|ex x=>exact h
 |ok o =>
  cases o with
  |next ρ|ret d|brk d|cont d|Cg d|EQ d ρ=>exact h
theorem wp_step (h:m=.ok (.next ρ'))(hk:WP (k ρ') nx rt ex):WP (Wn m k) nx rt ex:=by rw[h];exact hk
theorem BH {I:Aa->Prop}(h:WP m I rt ex)(hk:∀ρ,I ρ->WP (k ρ) nx rt ex):WP (Wn m k) nx rt ex:=wp_seq (h.mono hk (λ _ h=>h) λ _ h=>h)
def inLoop (I:Aa->Prop)(nx:Aa->Prop)(rt:Out->Prop)(o:Out):Prop:=match o with
 | .cont ρ=>I ρ
 | .brk ρ=>nx ρ
 |o=>rt o
theorem CO {gt:D->Aa->M Aa}{gb:Aa->M Out}{ds:List D}(I:Nat->Aa->Prop)(h0:I 0 ρ)
 (step:∀i d ρ,ds[i]?=some d->I i ρ->∃ρ1,gt d ρ=.ok ρ1/\WP (gb ρ1) (I (i+1)) (inLoop (I (i+1)) nx rt) ex) (done:∀ρ,I ds.length ρ->nx ρ):WP (forM gt gb ds ρ) nx rt ex:=by
 have key:∀(n i:Nat) (ρ:Aa),i+n=ds.length->I i ρ->WP (forM gt gb (ds.drop i) ρ) nx rt ex:=by
  intro n;induction n with
  |zero =>
   intro i ρ hi h;have e:i=ds.length:=by omega
   subst e;rw[xm,forM];exact done ρ h
  |succ n ih =>
   intro i ρ hi h;have am:i<ds.length:=by omega
   obtain⟨ρ1,h1,h2⟩:=step i ds[i] ρ (zr am) h;rw[J4 am,forM,h1];dsimp only;cases q:gb ρ1 with
   |bad|ex x=>rw[q] at h2;exact h2
   |ok o =>
    rw[q] at h2;cases o with
    |next ρ2=>exact ih (i+1) ρ2 (by omega) h2
    |ret d|Cg d|EQ d ρ2=>exact h2
    |cont ρ2=>exact ih (i+1) ρ2 (by omega) h2
    |brk ρ2=>exact h2
 have:=key ds.length 0 ρ (by omega) h0;rw[List.drop_zero] at this;exact this
theorem LZ {α:Type}{c:Aa->M Bool}{b:Aa->M Out}{lt:α->α->Prop}(J:α->Aa->Prop){x:α}(hx:Acc lt x)(h0:J x ρ)
 (step:∀x ρ,J x ρ->(c ρ=.ok false/\nx ρ)\/(c ρ=.ok true/\WP (b ρ) (λ ρ2=>∃y,lt y x/\J y ρ2) (inLoop (λ ρ2=>∃y,lt y x/\J y ρ2) nx rt) ex)):WP (Kq c b ρ) nx rt ex:=by
 have key:∀x,Acc lt x->∀ρ,J x ρ->∃n,Ap c b n ρ≠.bad/\WP (Ap c b n ρ) nx rt ex:=by
  intro x hx;induction hx with
  |intro x _ ih =>
   intro ρ h;rcases step x ρ h with ⟨h1,h2⟩|⟨h1,h2⟩
   ·refine⟨1,?_,?_⟩
    ·rw[Ap,h1];intro z;cases z
    ·rw[Ap,h1];exact h2
   ·cases q:b ρ with
    |bad=>rw[q] at h2;exact h2.elim
    |ex y =>
     rw[q] at h2;refine⟨1,?_,?_⟩
     ·rw[Ap,h1];dsimp only;rw[q];intro z;cases z
     ·rw[Ap,h1];dsimp only;rw[q];exact h2
    |ok o =>
     rw[q] at h2;have go:∀ρ2,(∃y,lt y x/\J y ρ2)->(∀n,Ap c b (n+1) ρ=Ap c b n ρ2)->∃n,Ap c b n ρ≠.bad/\WP (Ap c b n ρ) nx rt ex:=by
      rintro ρ2 ⟨y,hy,hJ⟩ e;obtain⟨n,h3,h4⟩:=ih y hy ρ2 hJ;exact⟨n+1,by rw[e];exact h3,by rw[e];exact h4⟩
     cases o with
     |next ρ2|cont ρ2=>exact go ρ2 h2 λ n=>by rw[Ap,h1];dsimp only;rw[q]
     |brk ρ2 =>
      refine⟨1,?_,?_⟩
      ·rw[Ap,h1];dsimp only;rw[q];intro z;cases z
      ·rw[Ap,h1];dsimp only;rw[q];exact h2
     |ret d =>
      refine⟨1,?_,?_⟩
      ·rw[Ap,h1];dsimp only;rw[q];intro z;cases z
      ·rw[Ap,h1];dsimp only;rw[q];exact h2
     |Cg d =>
      refine⟨1,?_,?_⟩
      ·rw[Ap,h1];dsimp only;rw[q];intro z;cases z
      ·rw[Ap,h1];dsimp only;rw[q];exact h2
     |EQ d ρ2 =>
      refine⟨1,?_,?_⟩
      ·rw[Ap,h1];dsimp only;rw[q];intro z;cases z
      ·rw[Ap,h1];dsimp only;rw[q];exact h2
 obtain⟨n,h1,h2⟩:=key x hx ρ h0;unfold Kq;have hx:∃n,Ap c b n ρ≠.bad:=⟨n,h1⟩;rw[dif_pos hx];have e:Ap c b (zm hx) ρ=Ap c b n ρ:=by
  have a:=Ca (zb hx) n;have b':=Ca h1 (zm hx);rw[Nat.add_comm] at b';rw[<-a,<-b']
 rw[e];exact h2
def rW (Q:OT->Prop)(o:Out):Prop:=match o with
 | .ret d=>Q (.sh d)
 | .Cg c=>∃t,mF c=.ok t/\Q t
 |_=>False
theorem SU {Q:OT->Prop}(h:WP m (λ _=>Q (.sh .Az)) (rW Q) (λ _=>False)):∃t,Us m=.ok t/\Q t:=by
 cases m with
 |bad|ex x=>exact h.elim
 |ok o =>
  cases o with
  |next ρ|ret d=>exact⟨_,rfl,h⟩
  |Cg c=>exact h
  |EQ c ρ|brk ρ|cont ρ=>exact h.elim
theorem Bw {t:OT}(h:WP m (λ _=>OT.sh .Az=t) (rW (·=t)) (λ _=>False)):Us m=.ok t:=by
 obtain⟨u,h1,h2⟩:=SU (Q:=(·=t)) h;rw[h1,h2]
def rX (Q:D->Prop)(o:Out):Prop:=match o with
 | .ret d=>Q d
 | .Cg c=>∃t,pM c=.ok t/\Q t
 |_=>False
theorem mO {Q:D->Prop}(h:WP m (λ _=>Q .Az) (rX Q) (λ _=>False)):∃t,fin m=.ok t/\Q t:=by
 cases m with
 |bad|ex x=>exact h.elim
 |ok o =>
  cases o with
  |next ρ|ret d=>exact⟨_,rfl,h⟩
  |Cg c=>exact h
  |EQ c ρ|brk ρ|cont ρ=>exact h.elim
theorem mP {d:D}(h:WP m (λ _=>D.Az=d) (rX (·=d)) (λ _=>False)):fin m=.ok d:=by
 obtain⟨u,h1,h2⟩:=mO (Q:=(·=d)) h;rw[h1,h2]
end
section
variable {d:D}{ds es:List D}{ρ ρ':Aa}{o:Option Cl}{i n:Nat}{p:Option Nat}{t u:OT}{π:List Nat}{b:Bool}{ks vs:List D}{ts:List OT}{m:M D}
theorem iC:rv 0 (some (.val d)::ρ)=.ok d:=rfl
theorem iD:rv (i+1) (o::ρ)=rv i ρ:=rfl
noncomputable def Qf (f:Aa->Aa)(m:M Out):M Out:=match m with
 | .ok (.next ρ)=>.ok (.next (f ρ))
 |m=>m
theorem EU {f:Aa->Aa}:Qf f (.ok (.next ρ))=.ok (.next (f ρ)):=rfl
theorem EV:Q9 0 (some (.own ds)::ρ)=.ok []:=rfl
theorem EW:Q9 0 (some (.ow (.L0 n ds))::ρ)=.ok []:=rfl
theorem Ds:Q9 0 (some (.ow (.tree p t))::ρ)=.ok []:=by unfold Q9 SO;simp[treeOf]
theorem NK:Q9 (i+1) (o::ρ)=Q9 i ρ:=rfl
theorem SV:SO 0 (some (.own ds)::ρ) π=JN (.lst (ds.map .sh)) π:=rfl
theorem SW:SO 0 (some (.ow (.L0 n ds))::ρ) π=JN (.lst (ds.map .sh)) π:=rfl
theorem M1:SO 0 (some (.ow (.tree p t))::ρ) π=JN t π:=rfl
theorem Hl:MW 0 (some (.own ds)::ρ) []=.ok ds:=by unfold MW;simp[SV,Cc]
theorem Hm:MW 0 (some (.ow (.L0 n ds))::ρ) []=.ok ds:=by unfold MW;simp[SW,Cc]
theorem EX:MW 0 (some (.ow (.tree p (.lst (ds.map .sh))))::ρ) []=.ok ds:=by unfold MW;simp[M1,Cc]
theorem UB:MW (i+1) (o::ρ) π=MW i ρ π:=rfl
theorem Dt:ET 0 (some (.own ds)::ρ) []=.ok (ds.map .sh):=by unfold ET;simp[SV]
theorem Du:ET 0 (some (.ow (.L0 n ds))::ρ) []=.ok (ds.map .sh):=by unfold ET;simp[SW]
theorem CP:ET 0 (some (.ow (.tree p (.lst ts)))::ρ) []=.ok ts:=by unfold ET;simp[M1]
theorem JR:ET (i+1) (o::ρ) π=ET i ρ π:=rfl
theorem BI:Gg 0 (some (.ow (.tree p (.Bh b ks (vs.map .sh))))::ρ) []=.ok (b,ks,vs):=by unfold Gg;simp[M1,Cc]
theorem JS:Gg (i+1) (o::ρ) π=Gg i ρ π:=rfl
theorem EY:Gn 0 (some (.own ds)::ρ) [] u=.ok (.next (some (toCl none u)::ρ)):=by unfold Gn;simp[treeOf]
theorem EZ:Gn 0 (some (.ow (.L0 n ds))::ρ) [] u=.ok (.next (some (toCl (some n) u)::ρ)):=by unfold Gn;simp[treeOf]
theorem Dv:Gn 0 (some (.ow (.tree p t))::ρ) π u=.ok (.next (some (toCl p (DZ t π u))::ρ)):=by unfold Gn;simp[treeOf]
theorem NL:Gn (i+1) (o::ρ) π u=Qf (o::·) (Gn i ρ π u):=by
 unfold Gn Qf;simp only[zR,zv];split
 ·rename_i c e;split<;>simp_all
 ·simp_all
theorem F0:Uh 0 (some (.own ds)::ρ) (.ok d)=if ds.length<1000 then .ok (.next (some (.own (ds++[d]))::ρ)) else .bad:=rfl
theorem NM:Uh (i+1) (o::ρ) m=Qf (o::·) (Uh i ρ m):=by
 unfold Uh;rw[zR];cases q:ρ[i]? with
 |none=>rfl
 |some oo =>
  cases oo with
  |none=>rfl
  |some c =>
   cases c with
   |own ds =>
    cases m with
    |ok d =>
     simp only[M.A6,zv];by_cases h:ds.length<1000
     ·rw[if_pos h,if_pos h];rfl
     ·rw[if_neg h,if_neg h];rfl
    |ex x|bad=>rfl
   |val d|ow w=>rfl
theorem F1 {j:Int}:Um 0 (some (.own ds)::ρ) (.ok (.int j)) (.ok d)=if 0<=j/\j.toNat<=ds.length/\ds.length<1000 then .ok (.next (some (.own (ds.take j.toNat++d::ds.drop j.toNat))::ρ)) else .bad:=rfl
theorem NO {m2:M D}:Um (i+1) (o::ρ) m m2=Qf (o::·) (Um i ρ m m2):=by
 unfold Um;rw[zR];cases q:ρ[i]? with
 |none=>rfl
 |some oo =>
  cases oo with
  |none=>rfl
  |some c =>
   cases c with
   |own ds =>
    cases m with
    |ok d =>
     cases m2 with
     |ok d2 =>
      simp only[M.A6,zv];cases d with
      |int j =>
       dsimp only;by_cases h:0<=j/\j.toNat<=ds.length/\ds.length<1000
       ·rw[if_pos h,if_pos h];rfl
       ·rw[if_neg h,if_neg h];rfl
      |_=>rfl
     |ex x|bad=>rfl
    |ex x|bad=>rfl
   |val d|ow w=>rfl
theorem F2:RN 0 (some (.val d)::ρ)=.ok (.ret d):=rfl
theorem F3:RN 0 (some (.own ds)::ρ)=.ok (.Cg (.own ds)):=rfl
theorem Hn {w:Ow}:RN 0 (some (.ow w)::ρ)=.ok (.Cg (.ow w)):=rfl
theorem NP:RN (i+1) (o::ρ)=RN i ρ:=rfl
theorem rY:pO i ρ π=match SO i ρ π with | some (.sh d)=>.ok d | _=>.bad:=rfl
theorem UC:WI (i+1) (o::ρ)=o::WI i ρ:=by
 unfold WI;simp only[zR,zv];split<;>simp_all
theorem UD {c:Cl}:WI 0 (some c::ρ)=some (KL c)::ρ:=rfl
theorem F4:KL (.val d)=.val d:=rfl
theorem F5:KL (.own ds)=.val (.lst ds):=rfl
theorem F6:KL (.ow (.L0 n ds))=.val (.lst ds):=rfl
theorem Ho:KL (.ow (.tree p t))=.val (er t):=rfl
theorem FO:er (.Bh b ks (vs.map .sh))=.Bh b ks vs:=by rw[er,OH]
theorem GF:er (.lst (ds.map .sh))=.lst ds:=by rw[er,OH]
theorem Kr:er (.sh d)=d:=rfl
theorem jW {l:List (Option Nat)}:Bv (none::l) ρ=none::Bv l ρ:=rfl
theorem jX:Bv [] ρ=[]:=rfl
theorem UE {l:List (Option Nat)}:Bv (some i::l) ρ=(match ρ[i]? with | some (some (.val d))=>some (.val d) | _=>none)::Bv l ρ:=rfl
theorem UG {α:Type}{x y:α}:(if ([]:List D).length<=1000 then x else y)=x:=if_pos (by show 0<=1000;decide)
theorem UH {α:Type}{x y:α}{a:D}:(if [a].length<=1000 then x else y)=x:=if_pos (by show 1<=1000;decide)
theorem UI {α:Type}{x y:α}{a b:D}:(if [a,b].length<=1000 then x else y)=x:=if_pos (by show 2<=1000;decide)
theorem UJ {α:Type}{x y:α}{a b c:D}:(if [a,b,c].length<=1000 then x else y)=x:=if_pos (by show 3<=1000;decide)
theorem UK {α:Type}{x y:α}{a b c d:D}:(if [a,b,c,d].length<=1000 then x else y)=x:=if_pos (by show 4<=1000;decide)
theorem toCl_nil:toCl none (.lst [])=.own []:=rfl
theorem C2 {α:Type}{gt:D->Aa->M Aa}{ft:Aa->M Bool}{fe:Aa->M D}{g:α->D}(p:α->Bool)(f:α->D):∀ {l:List α},(∀x∈l,∃ρ1,gt (g x) ρ=.ok ρ1/\ft ρ1=.ok (p x)/\(p x=true->fe ρ1=.ok (f x)))->Bd gt ft fe (l.map g) ρ=.ok ((l.filter p).map f)
 |[],_=>rfl
 |x::r,h=>by
  obtain⟨ρ1,h1,h2,h3⟩:=h x zd;have ih:=C2 (gt:=gt) (ft:=ft) (fe:=fe) (g:=g) p f (l:=r) λ y hy=>h y (ze _ hy);rw[zg,Bd,h1];dsimp only;rw[h2];dsimp only;rw[List.filter_cons];cases hp:p x with
  |true =>
   rw[if_pos rfl,h3 hp];dsimp only;rw[ih];simp
  |false=>simp[ih]
theorem FQ {α:Type}{gt:D->Aa->M Aa}{ft:Aa->M Bool}{fe:Aa->M D}{g:α->D}(f:α->D){l:List α}(h:∀x∈l,∃ρ1,gt (g x) ρ=.ok ρ1/\ft ρ1=.ok true/\fe ρ1=.ok (f x)):Bd gt ft fe (l.map g) ρ=.ok (l.map f):=by
 have:=C2 (gt:=gt) (ft:=ft) (fe:=fe) (ρ:=ρ) (g:=g) (λ _=>true) f (l:=l) λ x hx=>by
  obtain⟨ρ1,h1,h2,h3⟩:=h x hx;exact⟨ρ1,h1,h2,λ _=>h3⟩
 rw[this,List.filter_eq_self.mpr (λ _ _=>rfl)]
theorem BJ {α:Type}{g:α->D}{l:List α}{i:Nat}{d:D}(h:(l.map g)[i]?=some d):∃x,l[i]?=some x/\d=g x:=by
 rw[zG] at h;cases q:l[i]? with
 |none=>rw[q] at h;cases h
 |some x=>rw[q] at h;cases h;exact⟨x,rfl,rfl⟩
theorem JT:Z5 (.lst (ds.map .sh))=.ok ds:=by unfold Z5;simp[Cc,RQ]
theorem Dw {α:Type}{x:α}:RQ (some x)=.ok x:=rfl
theorem Hq:Q8 i ρ (.sh d)=.ok (.next (ρ.set i (some (.val d)))):=rfl
theorem F7:Q8 i ρ (.lst ts)=.ok (.next (ρ.set i (some (toCl none (.lst ts))))):=rfl
theorem F8:Q8 i ρ (.tup ts)=.ok (.next (ρ.set i (some (.ow (.tree none (.tup ts)))))):=rfl
theorem F9:Q8 i ρ (.Bh b ks ts)=.ok (.next (ρ.set i (some (.ow (.tree none (.Bh b ks ts)))))):=rfl
theorem Fb {x:Str}{ns:List Str}:Q8 i ρ (.ins x ns ts)=.ok (.next (ρ.set i (some (.ow (.tree none (.ins x ns ts)))))):=rfl
theorem Hr:Ut (.sh d)=.ok (.ret d):=rfl
theorem Fc:Ut (.lst ts)=.ok (.Cg (.ow (.tree none (.lst ts)))):=rfl
theorem Fe:Ut (.tup ts)=.ok (.Cg (.ow (.tree none (.tup ts)))):=rfl
theorem Ff:Ut (.Bh b ks ts)=.ok (.Cg (.ow (.tree none (.Bh b ks ts)))):=rfl
theorem Qg {α:Type}{f:α->D}(h:∀x,JL (f x)=true):∀l:List α,J8 (l.map f)=true
 |[]=>by simp[J8]
 |x::r=>by rw[zg,J8,h x,Qg h r];rfl
theorem Qh:∀ds:List D,Gf (ds.map .sh)=J8 ds
 |[]=>by simp[J8,Gf]
 |d::r=>by rw[zg,Gf,HP,Qh r,J8]
theorem iE (h:JL d=true):Ur (.ok (.sh d))=.ok (.sh d):=by unfold Ur;simp[HP,h]
theorem Zg (h:J8 ds=true):Ur (.ok (.lst (ds.map .sh)))=.ok (.lst (ds.map .sh)):=by unfold Ur;simp[HP,Qh,h]
theorem Zh {i:Int}:JL (.int i)=true:=by simp[JL]
theorem Qi:FK (.lst ds)=.ok (!ds.isEmpty):=rfl
theorem iF {a s m:Int}(h0:0<=a)(h1:a<m)(s0:1<=s)(s1:s<m):(a+s)%m≠a:=by
 by_cases h:a+s<m
 ·rw[Int.emod_eq_of_lt (by omega) h];omega
 ·have e:(a+s)%m=(a+s-m)%m:=by rw[Int.sub_emod_right]
  rw[e,Int.emod_eq_of_lt (by omega) (by omega)];omega
theorem Hs {k:Nat}(i j:Int):Wf k (.int i) (.int j)=.ok (.bl (decide (i=j))):=by
 rw[OF (DY _) (DY _)];simp only[Ao,Bool.beq_eq_decide_eq]
theorem Ht {k:Nat}(i j:Int):Vt k (.int i) (.int j)=.ok (.bl (!decide (i=j))):=by
 rw[RL (DY _) (DY _)];simp only[Ao,Bool.beq_eq_decide_eq]
theorem Fg {i j:Int}:We (.int i) (.int j)=.ok (.int (i+j)):=rfl
theorem Fh {i j:Int}:fS (.int i) (.int j)=.ok (.int (i-j)):=rfl
theorem Hu {i j:Int}:tG (.int i) (.int j)=.ok (.bl (decide (i<j))):=rfl
theorem Hv {i j:Int}:tH (.int i) (.int j)=.ok (.bl (decide (i<=j))):=rfl
theorem Hw {i j:Int}:rG (.int i) (.int j)=.ok (.bl (decide (j<i))):=rfl
theorem Hx {i j:Int}:rH (.int i) (.int j)=.ok (.bl (decide (j<=i))):=rfl
theorem Hy {i:Int}:rJ (.int i)=.ok (some i):=rfl
theorem Fi:Ug [.lst ds]=.ok (.int ds.length):=rfl
theorem Fj:Ug [.tup ds]=.ok (.int ds.length):=rfl
theorem ite_tt {α:Type}{x y:α}:(if true=true then x else y)=x:=rfl
theorem ite_ff {α:Type}{x y:α}:(if false=true then x else y)=y:=rfl
theorem RT {lo hi:Option Int}{x:D}(h:cR lo hi x=.ok (.lst ds)):WT lo hi x=.ok (.lst (ds.map .sh)):=by
 unfold cR at h;unfold WT;cases x with
 |lst xs=>dsimp only at h ⊢;injection h with h;injection h with h;rw[h]
 |_=>cases h
theorem Qj (xs:List D)(k:Nat):WT none (some (k:Int)) (.lst xs)=.ok (.lst ((xs.take k).map .sh)):=RT (Ws xs k)
theorem WW (xs:List D)(k:Nat):WT (some (k:Int)) none (.lst xs)=.ok (.lst ((xs.drop k).map .sh)):=RT (Ww xs k)
theorem Zi (xs:List D)(a b:Nat):WT (some (a:Int)) (some (b:Int)) (.lst xs)=.ok (.lst (((xs.drop a).take (b-a)).map .sh)):=RT (YU xs a b)
theorem Fl:JQ (.lst ds)=.ok (.lst (ds.map .sh)):=rfl
theorem Fm:JQ (.tup ds)=.ok (.lst (ds.map .sh)):=rfl
theorem Dx {ns:List Int}:WR [.lst (ns.map D.int)]=.ok (.int ns.sum):=by unfold WR;dsimp only;rw[CK]
theorem Dy {T:String}:J2 T (.lst ds)=.ok (.bl (Em T (.lst ds))):=rfl
theorem Dz {T:String}:J2 T (.tup ds)=.ok (.bl (Em T (.tup ds))):=rfl
theorem DB {T:String}{k:Int}:J2 T (.int k)=.ok (.bl (Em T (.int k))):=rfl
theorem DC {T:String}:J2 T .Az=.ok (.bl (Em T .Az)):=rfl
theorem Fn {T:String}{k:Bool}:J2 T (.bl k)=.ok (.bl (Em T (.bl k))):=rfl
theorem DD {T:String}{k:Str}:J2 T (.str k)=.ok (.bl (Em T (.str k))):=rfl
theorem DF {T:String}:J2 T (.Bh b ks vs)=.ok (.bl (Em T (.Bh b ks vs))):=rfl
theorem NQ:Em "list" (.lst ds)=true:=rfl
theorem NR:Em "tuple" (.tup ds)=true:=rfl
theorem NS {k:Int}:Em "int" (.int k)=true:=rfl
theorem NT {k:Int}:Em "bool" (.int k)=false:=rfl
theorem NU:Em "dict" (.Bh b ks vs)=true:=rfl
theorem DH {neg:Bool}{k:Int}{ns:List Int}:MV neg (.int k) (.lst (ns.map D.int))=.ok (.bl (if neg then !ns.contains k else ns.contains k)):=by
 unfold MV nS;dsimp only;rw[CK]
noncomputable def vO (s:Option D):Option Cl:=s.map .val
theorem Hz {s:Option D}:HN (vO s::ρ)=vO s::HN ρ:=by cases s<;>rfl
end
noncomputable def RU (x:Int):List Int->List Int
 |[]=>[x]
 |y::r=>if x<=y then x::y::r else y::RU x r
noncomputable def Gh:List Int->List Int
 |[]=>[]
 |x::r=>RU x (Gh r)
theorem JU (x:Int):∀l:List Int,(RU x l).Perm (x::l)
 |[]=>.refl _
 |y::r=>by
  unfold RU;split
  ·exact .refl _
  ·exact ((JU x r).cons y).trans (.swap x y r)
theorem E7:∀l:List Int,(Gh l).Perm l
 |[]=>.refl _
 |x::r=>(JU x (Gh r)).trans ((E7 r).cons x)
theorem Ks (x:Int):∀l:List Int,l.Pairwise (·<=·)->(RU x l).Pairwise (·<=·)
 |[],_=>by simp[RU]
 |y::r,h=>by
  unfold RU;have hy:=yp.mp h;split
  ·rename_i bJ;exact yp.mpr ⟨λ z hz=>by
    rcases zl.mp hz with rfl|hz
    ·exact bJ
    ·exact Int.le_trans bJ (hy.1 z hz),h⟩
  ·rename_i bJ;exact yp.mpr ⟨λ z hz=>by
    rcases zl.mp ((JU x r).mem_iff.mp hz) with rfl|hz
    ·omega
    ·exact hy.1 z hz,Ks x r hy.2⟩
theorem FR:∀l:List Int,(Gh l).Pairwise (·<=·)
 |[]=>.nil
 |x::r=>Ks x _ (FR r)
theorem GG:∀ {a b:List Int},a.Perm b->a.Pairwise (·<=·)->b.Pairwise (·<=·)->a=b
 |[],b,hp,_,_=>(List.nil_perm.mp hp).symm
 |x::r,[],hp,_,_=>by have:=hp.length_eq;simp at this
 |x::r,y::t,hp,ha,hb=>by
  have i7:=yp.mp ha;have a5:=yp.mp hb;have e:x=y:=by
   have h1:x∈y::t:=hp.mem_iff.mp (zd ..);have h2:y∈x::r:=hp.mem_iff.mpr (zd ..);rcases zl.mp h1 with e|h1
   ·exact e
   rcases zl.mp h2 with e|h2
   ·exact e.symm
   have:=i7.1 _ h2;have:=a5.1 _ h1;omega
  subst e;rw[GG (List.Perm.cons_inv hp) i7.2 a5.2]
theorem Jh:∀ {us:List Value}{ns:List Int},IntsAre us ns->Vals (ns.map V.int) us
 |_,_,.nil=>.nil
 |_,_,.cons n t h=>.cons ⟨t,rfl⟩ (Jh h)
theorem M2 {K:za}{H:Hp}:∀l:List Int,Ag K H (l.map V.int) (l.map D.int)
 |[]=>.nil
 |x::r=>.cons (.int _) (M2 r)
section
variable {X:Cx}{WX:Str->Hp->Prop}{c:Bool}{P0:Dn}{P:Addr->Prop}{H:Hp}{σ:St}{ρ:Aa}{a b e:Expr}{f g:Aa->M D}{fn:Aa->M OT}{pos:Pos}{te:TE}
noncomputable def pS (X:Cx)(te:TE):TE:=λ σ H Q=>te σ H λ x H1=>∃p ns,x=.ref p/\Dg X.K H1 p (List.map V.int ns)/\ns.length<64/\∀r,H1 r=none->Q (.ref r) (upd H1 r (.lst ((Gh ns).map V.int)))
theorem UL {p:Pos}(hc:X.calm=true)(hg:Gl X "sorted")(hm:X.mg "sorted" = none)(he:PE X e te)
 (hv:bootBuiltins "sorted" = some (.builtin "sorted"):=by decide +kernel)
 (hs:starEach [e] X.env=[(false,eval e X.env)]:=by rfl):
 PE X (.Call (.Name "sorted" p) [e] [] pos) (pS X te):=by
 intro pins s σ H Q I h;refine wpAny_Call_Name_kw (Ew I hg hm hv ?_);refine PyProof.Rows.callWith_builtin1 ?_ hs;rw[hs];refine Calls.spliced_cons (Bc (he pins s σ H _ I h) λ u s1 ⟨x,H1,I1,r1,q1⟩=>?_);obtain⟨q,ns,rfl,hq,oa,h⟩:=q1;cases r1;refine Calls.spliced_nil ?_;obtain⟨aa,r',pl,hz⟩:=I1.list hq;have hi:=intsAre_of r';have uc:=r'.length;rw[zf] at uc;refine sorted_ints pl.isList hi (by omega) λ out c3 b1 b2 b3=>?_;obtain⟨c',aA⟩:=sortedAll_at s1.heap aa out;have e:c3=Gh ns:=GG (b2.trans (E7 ns).symm) b3 (FR ns);subst e;refine⟨.ref _,_,I1.laid (t':=s1.toks) (o:=.lst ((Gh ns).map V.int)) (λ b o e=>sortedAll_old e) (Nat.le_succ _) ⟨?_,out.toList,c',Jh b1,by simpa using aA⟩,rfl,h _ (I1.Av.fresh (Nat.le_succ _))⟩;rw[zf,(E7 ns).length_eq];exact yi (AG (by omega))
noncomputable def Zj (d:D):M OT:=match d with
 | .lst xs=>(match BU xs with|some ns=>if ns.length<64 then .ok (.lst (((Gh ns).map .int).map .sh)) else .bad|none=>.bad)
 |_=>.bad
theorem UM {ns:List Int}(h:ns.length<64):Zj (.lst (ns.map .int))=.ok (.lst (((Gh ns).map .int).map .sh)):=by
 unfold Zj;dsimp only;rw[CK];dsimp only;rw[if_pos h]
theorem UN {p:Pos}(hc:X.calm=true)(hg:Gl X "sorted")(hm:X.mg "sorted" = none)(he:DE X WX true e f)
 (hv:bootBuiltins "sorted" = some (.builtin "sorted"):=by decide +kernel)
 (hs:starEach [e] X.env=[(false,eval e X.env)]:=by rfl):
 DN X WX (.Call (.Name "sorted" p) [e] [] pos) (λ ρ=>(f ρ).bind Zj):=by
 obtain⟨te,e1,e2⟩:=he;refine⟨_,UL hc hg hm e1 hv hs,λ P0 P σ H Q ρ E h=>?_⟩;refine e2 P0 P σ H _ ρ E ?_;dsimp only at h;cases q:f ρ with
 |bad|ex x=>rw[q] at h;exact h
 |ok d =>
  rw[q] at h;simp only[M.A6] at h;intro v H1 s1 hv;unfold Zj at h;split at h
  ·rename_i xs;split at h
   ·rename_i ns eb;have:=CL eb;subst this;split at h
    ·rename_i hl;cases hv with
     |lst hs hh =>
      have:=CM hh;subst this;exact⟨_,ns,rfl,hs.Bi,hl,h.JQ s1 (M2 _)⟩
    ·exact h.elim
   ·exact h.elim
  ·exact h.elim
noncomputable def Zk (d k:D):M OT:=match k with
 | .int j=>if 0<=j/\j.toNat<=1000 then .ok (.lst ((zA j.toNat d).map .sh)) else .bad
 |_=>.bad
theorem WY {d:D}{n:Nat}(h:n<=1000):Zk d (.int (n:Int))=.ok (.lst ((zA n d).map .sh)):=by
 unfold Zk;dsimp only;rw[if_pos ⟨by omega,by omega⟩,yt]
theorem iG {og:Pos}(ha:DE X WX true a f)(hb:DE X WX true b g)(aT:starEach [a] X.env=[(false,eval a X.env)]:=by rfl):
 DN X WX (.BinOp (.List [a] og) .Mult b pos) (λ ρ=>(f ρ).bind λ d=>(g ρ).bind λ k=>Zk d k):=by
 obtain⟨ta,a1,a2⟩:=ha;obtain⟨tb,b1,b2⟩:=hb;refine⟨_,cI fM (Rp (Bf a1 BZ aT)) b1,λ P0 P σ H Q ρ E h=>?_⟩;dsimp only at h;refine a2 P0 P σ H _ ρ E ?_;cases q:f ρ with
 |bad|ex x=>rw[q] at h;exact h
 |ok d =>
  rw[q] at h;simp only[M.A6] at h;intro v H1 s1 hv;have E1:=E.same s1;refine⟨yi (AG (by simp)),λ p hp=>?_⟩;have s2:Ae H1 (upd H1 p (.lst [v])):=AM hp _;have E2:=E1.same s2;refine b2 P0 P σ _ _ ρ E2 ?_;cases q2:g ρ with
  |bad=>rw[q2] at h;exact h
  |ex x=>rw[q2] at h;exact λ H' s3=>h H' ((s1.trans s2).trans s3)
  |ok k =>
   rw[q2] at h;simp only[M.A6] at h;unfold Zk at h;intro w H3 s3 hw;cases k with
   |int j =>
    dsimp only at h;by_cases hj:0<=j/\j.toNat<=1000
    ·rw[if_pos hj] at h;cases hw;refine⟨p,j,[v],rfl,rfl,s3 _ _ AH,by omega,by omega,yi (AG (by simp;omega)),?_⟩;rw[NA];exact h.JQ ((s1.trans s2).trans s3) (Q4 ((hv.mono s2.del).mono s3.del) j.toNat)
    ·rw[if_neg hj] at h;exact h.elim
   |_=>exact h.elim
end
noncomputable def Zl (f:Str):List Str->List D->Option D
 |n::ns,d::ds=>if f==n then some d else Zl f ns ds
 |_,_=>none
theorem Qk {K:za}{H:Hp}{f:Str}:∀ {fs:List (Str×V)}{ds:List D}{d:D},Ag K H (fs.map yA) ds->Zl f (fs.map zZ) ds=some d->∃v,fs.lookup f=some v/\BC K H v d
 |[],ds,d,_,h=>by simp[Zl] at h
 |(n,v)::fs,_,d,.cons hv ht,h=>by
  rw[zg,Zl] at h;rw[yY];cases q:f==n with
  |true=>rw[q,if_pos rfl] at h;cases h;exact⟨v,rfl,hv⟩
  |false=>rw[q,if_neg (by simp)] at h;exact Qk ht h
theorem M3 {K:za}{H:Hp}{f:Str}:∀ {fs:List (Str×V)}{ds:List D},Ag K H (fs.map yA) ds->Zl f (fs.map zZ) ds=none->fs.lookup f=none
 |[],ds,_,h=>rfl
 |(n,v)::fs,_,.cons hv ht,h=>by
  rw[zg,Zl] at h;rw[yY];cases q:f==n with
  |true=>rw[q,if_pos rfl] at h;cases h
  |false=>rw[q,if_neg (by simp)] at h;exact M3 ht h
structure HS (K:za)(x f:Str):Prop where
 ex:∃C,zc K mainGlobals x=some (some (.ref C))/\U2 K C/\I9 K C f
noncomputable def JV (cs:List Str)(f:Str)(d:D):M D:=match d with
 | .ins x ns ds=>if x∈cs then (match Zl f ns ds with|some e=>.ok e|none=>.bad) else .bad
 |_=>.bad
section
variable {X:Cx}{E:XK}{WX:Str->Hp->Prop}{c:Bool}{P0:Dn}{P:Addr->Prop}{H:Hp}{σ:St}{ρ:Aa}{a b e:Expr}{es:List Expr}{f g:Aa->M D}{fs:Aa->M (List D)}{fn:Aa->M OT}{pos:Pos}{te:TE}
theorem Cn (cs:List Str){fl:Str}(oh:∀x∈cs,HS X.K x fl)(ha:DE X WX c a f)(hb:attributeBase a fl X.env (eval a X.env)=eval a X.env:=by rfl):DE X WX c (.Attribute a fl pos) (λ ρ=>(f ρ).bind (JV cs fl)):=by
 obtain⟨ta,a1,a2⟩:=ha;refine⟨_,eZ a1 hb,λ P0 P σ H Q ρ E h=>?_⟩;dsimp only at h;refine a2 P0 P σ H _ ρ E ?_;cases e:f ρ with
 |bad|ex x=>rw[e] at h;exact h
 |ok d =>
  rw[e] at h;simp only[M.A6] at h;intro v H1 s1 hv;unfold JV at h;split at h
  ·rename_i x ns ds;split at h
   ·rename_i hx;split at h
    ·rename_i d' el;cases hv with
     |ins hn ha hl =>
      obtain⟨C,cp,hc,i8⟩:=(oh x hx).ex;rw[hn] at cp;cases cp;obtain⟨v',l1,l2⟩:=Qk hl el;exact⟨_,_,_,_,v',rfl,(An ha).2,hc,i8,l1,h v' H1 s1 l2⟩
    ·exact h.elim
   ·exact h.elim
  ·exact h.elim
structure Kt (K:za)(x m qual:Str)(st:Stmt)(ps:List Str):Prop where
 ex:∃C f fd,zc K mainGlobals x=some (some (.ref C))/\U2 K C/\Meth K C m f/\Vr K m qual st f fd/\Binds K fd ps []
structure FT (P:Program)(w:World)(K:za)(mg:Str->Option Value)(base:Heap)(x m:Str)(k n:Nat)(F:List D->M OT):Prop where
 ex:∃C fa fd ps,zc K mainGlobals x=some (some (.ref C))/\U2 K C/\Meth K C m fa/\D5 P w K mg base (RK P w base) k fa fd ps (spT K n F)/\Binds K fd ps []
theorem HA {P:Program}{w:World}{K:za}{mg:Str->Option Value}{base:Heap}{x m qual:Str}{st:Stmt}{N ps:List Str}{k n:Nat}(T:Kt K x m qual st ps)(S:Ah N ps (A4 st))(g:Aa->M Out)
 (hb:∀(f:Addr) (B6:Value) (A:Around) (outer:List Env) (s:Shared) (H:Hp) (E:XK),By k (A.deeper (envOfC qual (A4 st) s.heap.objs.size f B6))->R9 (SI P w K mg base N qual (A4 st) f B6 A outer s H E) (D7 K E) (Au st) g) (hn:ps.length=n:=by rfl):
 FT P w K mg base x m (k+1) n (λ ds=>Us (g (AI N ds))):=by
 obtain⟨C,f,fd,h1,h2,h3,F,hB⟩:=T.ex;subst hn;exact⟨⟨C,f,fd,ps,h1,h2,h3,mG F S g (hb f),hB⟩⟩
noncomputable def nW (x:Str):List (Str×(List D->M OT))->Option (List D->M OT)
 |[]=>none
 |(y,F)::r=>if x=y then some F else nW x r
theorem SX {x:Str}{F:List D->M OT}:∀ {ms:List (Str×(List D->M OT))},nW x ms=some F->(x,F)∈ms
 |[],h=>by cases h
 |(y,G)::r,h=>by
  unfold nW at h;split at h
  ·rename_i e;cases h;subst e;exact zd
  ·exact ze _ (SX h)
noncomputable def Ji (ms:List (Str×(List D->M OT)))(m:Str)(d:D):M (List D->M OT):=match d with
 | .ins x ns es=>(match nW x ms with
  |some F=>(match Zl m ns es with|none=>.ok F|some _=>.bad)
  |none=>.bad)
 |_=>.bad
theorem Ql {ms:List (Str×(List D->M OT))}{m:Str}{d:D}{F:List D->M OT}(h:Ji ms m d=.ok F):∃x ns es,d=.ins x ns es/\(x,F)∈ms/\Zl m ns es=none:=by
 unfold Ji at h;split at h
 ·rename_i x ns es;split at h
  ·rename_i G e;split at h
   ·rename_i e2;cases h;exact⟨x,ns,es,rfl,SX e,e2⟩
   ·cases h
  ·cases h
 ·cases h
theorem NV {ms:List (Str×(List D->M OT))}{m:Str}{d:D}{x:Str}:Ji ms m d≠.ex x:=λ h=>by
 unfold Ji at h;split at h
 ·split at h
  ·split at h<;>cases h
  ·cases h
 ·cases h
noncomputable def WZ (X:Cx)(m:Str)(k:Nat)(E:XK)(ta:TE)(t:TA):TE:=λ σ H Q=>ta σ H λ x H1=>∃a C dx fs f fd ps n F,x=.ref a/\H1 a=some (.ins C dx fs)/\fs.lookup m=none/\U2 X.K C/\Meth X.K C m f/\D5 X.prog X.w X.K X.mg X.base (RK X.prog X.w X.base) k f fd ps (spT X.K n F)/\Binds X.K fd ps []/\
 t σ H1 λ vs H2=>spT X.K n F (x::vs) H2 Q E
theorem X0 {pl:Sem Bool}{o:Expr}{m:Str}{k:Nat}{ta:TE}{t:TA}{apos:Pos}(he:PE X o ta)(hr:By k X.A)(hx:Gr (RK X.prog X.w X.base) X E)(ha:PA X (e::es) t)
 (aT:starEach (e::es) X.env=(false,eval e X.env)::starEach es X.env:=by rfl) (hpl:(backTo pos (starEach es X.env)).any (·.1)=false:=by rfl)
 (ht:eval (.Call (.Attribute o m apos) (e::es) [] pos) X.env=(do
  let ov <-eval o X.env
  standAt apos.atName
  let (f,first) <-holding [ov] (getMethod ov m pl)
  callWith pos f first (backTo pos (starEach (e::es) X.env)) (backToKw pos (keywordEach [] X.env))):=by rfl):
 PE X (.Call (.Attribute o m apos) (e::es) [] pos) (WZ X m k E ta t):=by
 intro pins s σ H Q I h;refine PySem.W.methodCall_KW (pl:=pl) (Bc (he pins s σ H _ I h) λ u s1 ⟨x,H1,I1,rx,a,C,dx,fs,f,fd,ps,n,F,ex,ea,l,c,hm,hF,hb,q⟩=>?_) ht;subst ex;obtain rfl:u=ya a:=rx;refine Lg I1 ea c hm l ?_;refine PySem.W.callWith_K (first:=[.ref a]) (h₀:=X.base) I.ok.mod.jR hm.kp (Bc (ha pos pins s1 σ H1 _ I1 q) λ us s2 ⟨vs,H2,I2,r,q2⟩=>⟨I2.MH,?_⟩) aT hpl;exact Rr (us:=.ref a::us) (vs:=.ref a::vs) hF hr hb .nil hx I2 (.cons rfl r) (by rw[yb];exact q2)
theorem UO {pl:Sem Bool}{o:Expr}{m:Str}{k:Nat}{ta:TE}{apos:Pos}(he:PE X o ta)(hr:By k X.A)(hx:Gr (RK X.prog X.w X.base) X E)
 (ht:eval (.Call (.Attribute o m apos) [] [] pos) X.env=(do
  let ov <-eval o X.env
  standAt apos.atName
  let (f,first) <-holding [ov] (getMethod ov m pl)
  callWith pos f first (backTo pos (starEach [] X.env)) (backToKw pos (keywordEach [] X.env))):=by rfl):
 PE X (.Call (.Attribute o m apos) [] [] pos) (WZ X m k E ta fB):=by
 intro pins s σ H Q I h;refine PySem.W.methodCall_KW (pl:=pl) (Bc (he pins s σ H _ I h) λ u s1 ⟨x,H1,I1,rx,a,C,dx,fs,f,fd,ps,n,F,ex,ea,l,c,hm,hF,hb,q⟩=>?_) ht;subst ex;obtain rfl:u=ya a:=rx;refine Lg I1 ea c hm l ?_;exact PySem.W.callWith_K0 (first:=[.ref a]) I1.MH hm.kp (Rr (us:=[.ref a]) (vs:=[.ref a]) hF hr hb .nil hx I1 (.cons rfl .nil) q)
theorem SY {P:Program}{w:World}{K:za}{mg:Str->Option Value}{base:Heap}{CX:Su}{k k':Nat}{f:Addr}{fd:FuncData}{ps:List Str}{sp:Sp}(h:k<=k')(F:D5 P w K mg base CX k f fd ps sp):D5 P w K mg base CX k' f fd ps sp:=
 ⟨F.len,λ A stack s H args us vs Q E hr=>F.run A stack s H args us vs Q E (hr.mono h)⟩
theorem HB {o:Expr}{fo:Aa->M D}{m:Str}{k n:Nat}{apos:Pos}{pl:Sem Bool}(ms:List (Str×(List D->M OT)))(xo:XCall X E)(oi:∀p∈ms,∃k',k'<=k/\FT X.prog X.w X.K X.mg X.base p.1 m k' n p.2)(hr:By k X.A)(ho:DE X (D7 X.K E) true o fo)(ha:DA X (D7 X.K E) true (e::es) fs)(bO:(e::es).length+1=n)
 (aT:starEach (e::es) X.env=(false,eval e X.env)::starEach es X.env:=by rfl) (hpl:(backTo pos (starEach es X.env)).any (·.1)=false:=by rfl)
 (ht:eval (.Call (.Attribute o m apos) (e::es) [] pos) X.env=(do
  let ov <-eval o X.env
  standAt apos.atName
  let (f,first) <-holding [ov] (getMethod ov m pl)
  callWith pos f first (backTo pos (starEach (e::es) X.env)) (backToKw pos (keywordEach [] X.env))):=by rfl):
 DN X (D7 X.K E) (.Call (.Attribute o m apos) (e::es) [] pos) (λ ρ=>(fo ρ).bind λ d=>(Ji ms m d).bind λ F=>(fs ρ).bind λ ds=>F (d::ds)):=by
 obtain⟨ta,a1,a2⟩:=ho;obtain⟨tb,b1,b2,b3⟩:=ha;refine⟨_,X0 (pl:=pl) a1 hr xo.call b1 aT hpl ht,λ P0 P σ H Q ρ Ev h=>?_⟩;dsimp only at h;refine a2 P0 P σ H _ ρ Ev ?_;cases q:fo ρ with
 |bad|ex x=>rw[q] at h;exact h
 |ok d =>
  rw[q] at h;simp only[M.A6] at h;intro v H1 s1 hv;cases q2:Ji ms m d with
  |bad=>rw[q2] at h;exact h.elim
  |ex y=>exact (NV q2).elim
  |ok F =>
   rw[q2] at h;simp only[M.A6] at h;obtain⟨x,ns,ue,rfl,aO,gl⟩:=Ql q2;obtain⟨k',d0,M0⟩:=oi _ aO;obtain⟨C,fa,fd,ps,h1,h2,h3,h4,h5⟩:=M0.ex;cases hv with
   |ins hn hH hl =>
    rw[hn] at h1;cases h1;refine⟨_,_,_,_,fa,fd,ps,n,F,rfl,(An hH).2,M3 hl gl,h2,h3,SY d0 h4,h5,?_⟩;refine b2 P0 P σ H1 _ ρ (Ev.same s1) ?_;cases q3:fs ρ with
    |bad=>rw[q3] at h;exact h
    |ex y=>rw[q3] at h;exact λ H' s=>h H' (s1.trans s)
    |ok ds =>
     rw[q3] at h;simp only[M.A6] at h;intro vs H2 s2 aN;have i9:=(BC.ins hn hH hl).mono s2.del;exact⟨by rw[zq,aN.length,b3 ρ ds q3];exact bO,P,_,((Ev.same s1).same s2).Cf,.cons i9 aN,h.same (s1.trans s2)⟩
theorem Qm {o:Expr}{fo:Aa->M D}{m:Str}{k:Nat}{apos:Pos}{pl:Sem Bool}(ms:List (Str×(List D->M OT)))(xo:XCall X E)(oi:∀p∈ms,∃k',k'<=k/\FT X.prog X.w X.K X.mg X.base p.1 m k' 1 p.2)(hr:By k X.A)(ho:DE X (D7 X.K E) true o fo)
 (ht:eval (.Call (.Attribute o m apos) [] [] pos) X.env=(do
  let ov <-eval o X.env
  standAt apos.atName
  let (f,first) <-holding [ov] (getMethod ov m pl)
  callWith pos f first (backTo pos (starEach [] X.env)) (backToKw pos (keywordEach [] X.env))):=by rfl):
 DN X (D7 X.K E) (.Call (.Attribute o m apos) [] [] pos) (λ ρ=>(fo ρ).bind λ d=>(Ji ms m d).bind λ F=>F [d]):=by
 obtain⟨ta,a1,a2⟩:=ho;refine⟨_,UO (pl:=pl) a1 hr xo.call ht,λ P0 P σ H Q ρ Ev h=>?_⟩;dsimp only at h;refine a2 P0 P σ H _ ρ Ev ?_;cases q:fo ρ with
 |bad|ex x=>rw[q] at h;exact h
 |ok d =>
  rw[q] at h;simp only[M.A6] at h;intro v H1 s1 hv;cases q2:Ji ms m d with
  |bad=>rw[q2] at h;exact h.elim
  |ex y=>exact (NV q2).elim
  |ok F =>
   rw[q2] at h;simp only[M.A6] at h;obtain⟨x,ns,ue,rfl,aO,gl⟩:=Ql q2;obtain⟨k',d0,M0⟩:=oi _ aO;obtain⟨C,fa,fd,ps,h1,h2,h3,h4,h5⟩:=M0.ex;cases hv with
   |ins hn hH hl =>
    rw[hn] at h1;cases h1;refine⟨_,_,_,_,fa,fd,ps,1,F,rfl,(An hH).2,M3 hl gl,h2,h3,SY d0 h4,h5,?_⟩;exact⟨rfl,P,_,(Ev.same s1).Cf,.cons (BC.ins hn hH hl) .nil,h.same s1⟩
end
section
variable {X:Cx}{E:XK}{WX:Str->Hp->Prop}{c:Bool}{P0:Dn}{P:Addr->Prop}{H:Hp}{σ:St}{ρ:Aa}{a b e:Expr}{es:List Expr}{f g:Aa->M D}{fs:Aa->M (List D)}{fn:Aa->M OT}{pos:Pos}{te:TE}
structure iH (K:za)(mg:Str->Option Value)(x:Str)(C:Addr):Prop where
 ns:zc K mainGlobals x=some (some (.ref C))
 uA:mg x=some (.ref C)
theorem UP {p dx C:Addr}(hp:H p=none)(hd:H dx=none):Ae H (upd (upd H dx (.own p)) p (.ins C dx [])):=λ b u q=>by
 rw[Am (Ay q hp),Am (Ay q hd)];exact q
structure mQ (P:Program)(w:World)(K:za)(mg:Str->Option Value)(base:Heap)(x:Str)(k n:Nat)(F:OT->List D->M (OT×OT)):Prop where
 ex:∃C fa fd ps,iH K mg x C/\Mk K C fa/\D5 P w K mg base (RK P w base) k fa fd ps (NG K n F)/\Binds K fd ps []
noncomputable def X1 (m:M (OT×OT)):M OT:=match m with
 | .ok (t,.sh .Az)=>.ok t
 |_=>.bad
theorem Zm {x:Str}{k n:Nat}{F:OT->List D->M (OT×OT)}{p:Pos}(xo:XCall X E)(G:mQ X.prog X.w X.K X.mg X.base x k n F)(hr:By (k+1) X.A)(hg:Gl X x)(ha:DA X (D7 X.K E) true (e::es) fs)(bO:(e::es).length+1=n)
 (aU:(x==("__debug__" : Str))=false:=by decide) (he:starEach (e::es) X.env=(false,eval e X.env)::starEach es X.env:=by rfl) (hpl:(backTo pos (starEach es X.env)).any (·.1)=false:=by rfl):
 DN X (D7 X.K E) (.Call (.Name x p) (e::es) [] pos) (λ ρ=>(fs ρ).bind λ ds=>X1 (F (.ins x [] []) ds)):=by
 obtain⟨C,fa,fd,ps,hT,hM,hF,hb⟩:=G.ex;obtain⟨ta,a1,a2,a3⟩:=ha;refine⟨_,Yo hM hF hr hg hT.uA hb .nil xo.call a1 aU he hpl,λ P0 P σ H Q ρ Ev h=>?_⟩;dsimp only at h;refine a2 P0 P σ H _ ρ Ev ?_;cases q:fs ρ with
 |bad|ex x=>rw[q] at h;exact h
 |ok ds =>
  rw[q] at h;simp only[M.A6] at h;intro vs H1 s1 aN y dx hy hd ae;rw[yb];have E1:=Ev.same s1;have sm:=UP (C:=C) hy hd;have cb:∀a∈[y],H1 a=none:=λ a ha=>by rw[zw.mp ha];exact hy
  refine⟨by rw[zq,aN.length,a3 ρ ds q];exact bO,PU P [y],y,.ins x [] [],[y],vs,ds,rfl,λ a ha=>?_,λ a ha=>.inr ha,by simp,BF.ins (fs:=[]) hT.ns AH .nil,aN.mono (Ep sm cb),?_⟩
  ·rcases ha with ha|ha
   ·exact (E1.Cf a ha).same sm
   ·rw[zw.mp ha];exact⟨_,AH,λ xs=>⟨(λ z=>by cases z),(λ z w=>by cases w)⟩⟩
  ·cases q2:F (.ins x [] []) ds with
   |bad|ex z=>rw[q2] at h;exact h
   |ok tr =>
    obtain⟨t,r⟩:=tr;rw[q2] at h;simp only[X1] at h;intro v H' P' ai fr k1 k2 k3 k4 k5 k6 k7 k8 k9 rP;cases r with
    |sh d =>
     cases d with
     |Az =>
      cases k6 with
      |sh hv =>
       cases hv;refine⟨rfl,h _ ai H' ?_ ?_ k5 ?_⟩
       ·intro b u eb;have e1:=s1 b u eb;have gm:b≠y:=λ z=>by rw[z,hy] at e1;cases e1
        have e2:=sm b u e1;by_cases hP:P b
        ·exact (k1 b (.inl hP) (by simp[gm])).2.trans e2
        ·exact (An (k3 b u (by rw[AE λ z=>z.elim hP λ w=>gm (zw.mp w)];exact e2))).2
       ·intro b rZ;cases eb:H b with
        |none=>rfl
        |some u =>
         exfalso;have e1:=s1 b u eb;have gm:b≠y:=λ z=>by rw[z,hy] at e1;cases e1
         have e2:=sm b u e1;have hn:=λ z=>gm (zw.mp ((k9 b rZ).2 z));exact (An (k3 b u (by rw[AE hn];exact e2))).1 (k9 b rZ).1
       ·refine k4.move (λ b u eb=>?_) λ _ _=>rfl;obtain⟨g1,g2⟩:=An eb;rw[AE]
        ·exact g2
        ·rintro (z|z)
         ·have gm:b≠y:=λ w=>by
           obtain⟨o,e1,_⟩:=E1.Cf b z;rw[w,hy] at e1;cases e1
          exact g1 (k1 b (.inl z) (by simp[gm])).1
         ·exact g1 (k9 b z).1
     |_=>exact h.elim
    |_=>exact h.elim
end
noncomputable def NW (i:Nat)(ρ:Aa)(π:List Nat):M (Str×List Str×List D):=match SO i ρ π with
 |some (.ins x ns ts)=>(match E5 ts with|some vs=>.ok (x,ns,vs)|none=>.bad)
 |_=>.bad
theorem X2 {i:Nat}{ρ:Aa}{π:List Nat}{x:Str}(h:NW i ρ π=.ex x):False:=by
 unfold NW at h;split at h
 ·split at h<;>cases h
 ·cases h
noncomputable def X3 (f:Str):List Str->List Str
 |[]=>[f]
 |g::r=>if g=f then g::r else g::X3 f r
noncomputable def X4 (f:Str)(d:D):List Str->List D->List D
 |[],_=>[d]
 |g::r,e::t=>if g=f then d::t else e::X4 f d r t
 |_::_,[]=>[]
theorem Qn (f:Str)(v:V):∀fs:List (Str×V),(DM f v fs).map zZ=X3 f (fs.map zZ)
 |[]=>rfl
 |(g,x)::r=>by
  rw[zg,X3,DM];split
  ·rfl
  ·rw[zg,Qn f v r]
theorem Qo {K:za}{H:Hp}{f:Str}{v:V}{d:D}(hv:BC K H v d):∀ {fs:List (Str×V)}{ds:List D},Ag K H (fs.map yA) ds->Ag K H ((DM f v fs).map yA) (X4 f d (fs.map zZ) ds)
 |[],_,.nil=>.cons hv .nil
 |(g,x)::r,_,.cons hx ht=>by
  rw[zg,X4,DM];split
  ·exact .cons hv ht
  ·exact .cons hx (Qo hv ht)
section
variable {X:Cx}{E:XK}{WX:Str->Hp->Prop}{c:Bool}{P0:Dn}{P:Addr->Prop}{H:Hp}{σ:St}{ρ:Aa}{a b e:Expr}{f g:Aa->M D}{fn:Aa->M OT}{fp:Aa->M (List Nat)}{pos:Pos}{i:Nat}{es:List Expr}{fs:Aa->M (List D)}
theorem B8.ins {K:za}{π:List Nat}{v:V}{t1:OT}{x:Str}{ns:List Str}{vs:List D}(pl:B8 K P H σ ρ i π v t1)(E:Ai K P0 P H σ ρ)(h:NW i ρ π=.ok (x,ns,vs)):
 t1=.ins x ns (vs.map .sh)/\∃l C dx fs,v=.ref l/\Ag K (del H P) (fs.map yA) vs/\BF K H P (.ref l) (.ins x ns (vs.map .sh)) [l]/\zc K mainGlobals x=some (some (.ref C))/\H l=some (.ins C dx fs)/\ns=fs.map zZ:=by
 unfold NW at h;rw[pl.at] at h;split at h
 ·rename_i x' c3 ny e;split at h
  ·rename_i bN e';cases e;cases h;have z:=CN e';subst z;obtain⟨az,o1,hp,nd⟩:=pl.own E;generalize ht:OT.ins x ns (vs.map .sh)=t at o1;cases o1 with
   |ins hn hh hr =>
    injection ht with h1 h2 h3
    subst h1 h2 h3;obtain⟨rfl,hs⟩:=hr.gQ;exact⟨rfl,_,_,_,_,rfl,hs,.ins hn hh hr,hn,hh,rfl⟩
   |_=>cases ht
  ·cases h
 ·cases h
theorem La (cs:List Str){fl:Str}(oh:∀x∈cs,HS X.K x fl)(ha:DP X WX a i fp)(hv:DE X WX true e f){pos':Pos}(hs:swapsWith e (some (.Attribute a fl pos')) pos.line X.env=pure false:=by rfl):
 DS X WX (.Assign [.Attribute a fl pos'] e pos) (λ ρ=>(f ρ).bind λ v=>(fp ρ).bind λ π=>(NW i ρ π).bind λ z=>if z.1∈cs/\z.2.1.length<1000 then Gn i ρ π (.ins z.1 (X3 fl z.2.1) ((X4 fl v z.2.1 z.2.2).map .sh)) else .bad):=by
 obtain⟨ta,a1,a2⟩:=ha;obtain⟨tv,v1,v2⟩:=hv;refine⟨_,fA a1 v1 hs,λ P0 P σ H Z ρ E h=>?_⟩;dsimp only at h;refine v2 P0 P σ H _ ρ E ?_;cases q0:f ρ with
 |bad=>rw[q0] at h;exact h
 |ex x=>rw[q0] at h;exact λ H' s=>h H' P (E.tr s)
 |ok d =>
  rw[q0] at h;simp only[M.A6] at h;intro w H0 s0 hw;have E0:=E.same s0;refine a2 P0 P σ H0 _ ρ E0 ?_;cases q:fp ρ with
  |bad=>rw[q] at h;exact h
  |ex x=>rw[q] at h;exact λ H' s=>h H' P ((E.tr s0).trans (E0.tr s))
  |ok π =>
   rw[q] at h;simp only[M.A6] at h;intro v t1 H1 s1 pl;have E1:=E0.same s1;have uf:=(E.tr s0).trans (E0.tr s1);cases q3:NW i ρ π with
   |bad=>rw[q3] at h;exact h.elim
   |ex x=>exact (X2 q3).elim
   |ok z =>
    obtain⟨x,ns,vs⟩:=z;rw[q3] at h;simp only[M.A6] at h;by_cases hc:x∈cs/\ns.length<1000
    ·rw[if_pos hc] at h;obtain⟨rfl,l,C,dx,fs,rfl,bI,ot,hn,hH,rfl⟩:=pl.ins E1 q3;obtain⟨C',cp,cA,i8⟩:=(oh x hc.1).ex;rw[hn] at cp;cases cp;have ug:=hw.mono s1.del;obtain⟨c,p,t0,g1,g2,E3,t3⟩:=E1.hZ (o':=.ins C dx (DM fl w fs)) (u:=.ins x (X3 fl (fs.map zZ)) ((X4 fl d (fs.map zZ) vs).map .sh)) pl ot (λ _=>⟨λ z=>(by cases z),λ _ z=>by cases z⟩) (λ mv=>by
      have:=BF.ins (K:=X.K) (H:=upd H1 l (.ins C dx (DM fl w fs))) (P:=P) (p:=l) (fs:=DM fl w fs) (x:=x) hn AH (((Qo ug bI).mono mv).ows);rw[Qn] at this;exact this)
     rw[FN g1 g2] at h;exact⟨l,C,dx,fs,rfl,hH,cA,i8,by have:=hc.2;rw[zf] at this;exact this,h _ _ _ (uf.trans t3) E3⟩
    ·rw[if_neg hc] at h;exact h.elim
end
section
variable {X:Cx}{E:XK}{WX:Str->Hp->Prop}{c:Bool}{P0:Dn}{P:Addr->Prop}{H:Hp}{σ:St}{ρ:Aa}{a b e:Expr}{f g:Aa->M D}{fn:Aa->M OT}{fp:Aa->M (List Nat)}{pos:Pos}{i:Nat}{es:List Expr}{fs:Aa->M (List D)}
noncomputable def X5 (i:Nat)(ρ:Aa)(π:List Nat)(ds:List D):M (Aa×OT):=match ds[ds.length-1]? with
 |some d=>(match ρ[i]? with
  |some (some c)=>(match treeOf c with|some (p,t)=>.ok (ρ.set i (some (toCl p (DZ t π (.lst (ds.dropLast.map .sh))))),.sh d)|none=>.bad)
  |_=>.bad)
 |none=>.bad
theorem T4 {π:List Nat}{ds:List D}{d:D}{c:Cl}{p:Option Nat}{t:OT}(h:ρ[i]?=some (some c))(ht:treeOf c=some (p,t))(hd:ds[ds.length-1]?=some d):X5 i ρ π ds=.ok (ρ.set i (some (toCl p (DZ t π (.lst (ds.dropLast.map .sh))))),.sh d):=by
 unfold X5;simp only[h,ht,hd]
theorem MX {K:za}{H:Hp}{vs:List V}{ds:List D}(h:Ag K H vs ds):Ag K H vs.dropLast ds.dropLast:=by
 rw[List.dropLast_eq_take,List.dropLast_eq_take,h.length];exact JM _ h
theorem iI (ha:DP X WX a i fp){apos ac:Pos}(ap:attributeBase a "pop" X.env (eval a X.env)=eval a X.env:=by rfl)(aq:(apos.endLine==ac.line)=true:=by rfl):
 DX X WX (.Call (.Attribute a "pop" apos) [] [] ac) (λ ρ=>(fp ρ).bind λ π=>(MW i ρ π).bind λ ds=>X5 i ρ π ds):=by
 obtain⟨ta,a1,a2⟩:=ha;refine⟨_,W0 ym PySem.F.slot_list_pop PySem.F.type_list_pop fK a1 ap aq,λ P0 P σ H Q ρ E h=>?_⟩;dsimp only at h;refine a2 P0 P σ H _ ρ E ?_;cases q:fp ρ with
 |bad=>rw[q] at h;exact h
 |ex x=>rw[q] at h;exact λ H' s=>h H' P (E.tr s)
 |ok π =>
  rw[q] at h;simp only[M.A6] at h;intro v t1 H1 s1 pl;have E1:=E.same s1;cases q1:MW i ρ π with
  |bad=>rw[q1] at h;exact h.elim
  |ex x=>exact (OJ q1).elim
  |ok ds =>
   rw[q1] at h;simp only[M.A6] at h;obtain⟨rfl,l,xs,rfl,hl,ol⟩:=pl.shl E1 q1;refine⟨.inl ⟨rfl,xs,.of hl⟩,?_⟩;cases hd:ds[ds.length-1]? with
   |none=>unfold X5 at h;rw[hd] at h;exact h.elim
   |some d =>
    obtain⟨y,hy,uh⟩:=ol.get hd;obtain⟨c,p,t0,g1,g2,E3,t3⟩:=E1.gR pl hl ol.ows (us:=ds.dropLast.map .sh) (ys:=xs.dropLast) (MX ol).ows (by simp) (by simp) (by simp);rw[T4 g1 g2 hd] at h;refine⟨l,xs,y,rfl,rfl,hl,by rw[ol.length];exact hy,?_⟩;have sd:Ae (del H1 P) (del (upd H1 l (.lst xs.dropLast)) P):=t3.1;exact h y [] _ _ ((E.tr s1).trans t3) E3 (.sh (uh.mono sd)) (by simp) (by simp)
end
theorem Bg {K:za}{f:Str}:∀y∈([]:List Str),HS K y f:=λ y h=>by cases h
theorem AV {K:za}{f x:Str}{xs:List Str}(h:HS K x f)(t:∀y∈xs,HS K y f):∀y∈x::xs,HS K y f:=λ y hy=>by
 rcases zl.mp hy with rfl|hy
 ·exact h
 ·exact t y hy
theorem Es {P:Program}{w:World}{K:za}{mg:Str->Option Value}{base:Heap}{m:Str}{k n:Nat}:∀p∈([]:List (Str×(List D->M OT))),∃k',k'<=k/\FT P w K mg base p.1 m k' n p.2:=λ p h=>by cases h
theorem D2 {P:Program}{w:World}{K:za}{mg:Str->Option Value}{base:Heap}{m x:Str}{k k' n:Nat}{F:List D->M OT}{ms:List (Str×(List D->M OT))}(hk:k'<=k)(h:FT P w K mg base x m k' n F)(t:∀p∈ms,∃k',k'<=k/\FT P w K mg base p.1 m k' n p.2):
 ∀p∈(x,F)::ms,∃k',k'<=k/\FT P w K mg base p.1 m k' n p.2:=λ p hp=>by
 rcases zl.mp hp with rfl|hp
 ·exact⟨k',hk,h⟩
 ·exact t p hp
end L2
set_option maxRecDepth 1000000
set_option maxHeartbeats 0
namespace L2
open PySem PySem.Spec PySem.Calls PyProof.Rows PySem.W PySem.Builtin PySem.Builtin.ObjectAttr
section
variable {prog:Program}{w:World}{A:Around}{E:Value->Shared->Prop}{s:Shared}
theorem call_meets {T id:String}{nm:Str}{B:Builtin}{self:Value}{rest:List Value}{Sp:PySem.Spec}{Q:Value->Shared->Prop}(SL:Slot T nm id)(hB:entryFor table id=some B)(ht:s.TypeIs self T)(ha:argsOk id ⟨self::rest,[]⟩)(m:Meets (B ⟨self::rest,[]⟩) Sp)
 (h:Sp A (λ r s'=>match r with | .ok (.ret v)=>Q v s' | .ok _=>False | .error e=>E e s') s):wpAny (model prog w) A (call (.builtin id) (self::rest)) Q E s:=
 wpAny_call (codeAny_call_builtin SL.plain hB (SL.check _ _ _ _ _ _ _ _ ht ha (m prog w A _ s h)))
end
open PySem PySem.Spec PyProof.Rows
section
variable {X:Cx}{WX:Str->Hp->Prop}{c:Bool}{P0:Dn}{P:Addr->Prop}{H:Hp}{σ:St}{ρ:Aa}{a b e:Expr}{f g:Aa->M D}{fn:Aa->M OT}{pos:Pos}{te:TE}
noncomputable def X6 (x y:D):M D:=match x,y with
 | .tup xs,.tup ys=>(match BU xs,BU ys with|some ns,some ms=>.ok (.bl (HT.lexLt ns ms))|_,_=>.bad)
 |_,_=>.bad
theorem T5:SF X.K WX (lH X.K) X6:=by
 intro P H x y v w Q ht hx hy h;unfold X6 at h;split at h
 ·rename_i xs ys;split at h
  ·rename_i ns ms e1 e2;have:=CL e1;subst this;have:=CL e2;subst this;cases hx with
   |tup h1 h2 =>
    cases hy with
    |tup h3 h4 =>
     have:=CM h2;subst this;have:=CM h4;subst this;exact⟨_,_,ns,ms,rfl,rfl,Fx.of (An h1).2,Fx.of (An h3).2,h _ H (Ae.refl H) (.bl _)⟩
  ·exact h.elim
 ·exact h.elim
theorem pT {n:Nat}(hu:X.A.units+n<cLine)(ha:DE X WX c a f)(hb:DE X WX c b g):DE X WX c (.Compare a [.Lt] [b] pos) (λ ρ=>(f ρ).bind λ x=>(g ρ).bind λ y=>X6 x y):=Wd (VX (by omega)) T5 ha hb (I0 _)
theorem iJ {n:Nat}(hu:X.A.units+n<cLine)(ha:DE X WX c a f)(hb:DE X WX c b g):DT X WX (.Compare a [.Lt] [b] pos) (λ ρ=>((f ρ).bind λ x=>(g ρ).bind λ y=>X6 x y).bind Lx):=FF (VX (by omega)) T5 ha hb (I0 _)
end
structure iK (K:za)(x qual:Str)(st:Stmt)(f:Addr)(fd:FuncData):Prop where
 ex:∃(oc:Value) (od:Option Addr) (dV kV doc pm:Value) (an:Option Addr) (B6 ct:Value) (Pj:Array (Option Value)),
  fd=zS x qual (AL st) (Au st) (A4 st) dV kV doc pm an B6 ct/\K.lookup f=some ⟨oc,od,.func fd,Pj⟩/\ye K B6 qual=true
 kp:zQ K (.ref f)=true
section
variable {P:Program}{w:World}{K:za}{mg:Str->Option Value}{base:Heap}
theorem Zn {x qual:Str}{st:Stmt}{f:Addr}{fd:FuncData}{N ps:List Str}{k:Nat}(F:iK K x qual st f fd)(S:Ah N ps (A4 st))(g:Aa->M Out)
 (hb:∀(B6:Value) (A:Around) (outer:List Env) (s:Shared) (H:Hp) (E:XK),By k (A.deeper (envOfC qual (A4 st) s.heap.objs.size f B6))->R9 (SI P w K mg base N qual (A4 st) f B6 A outer s H E) (D7 K E) (Au st) g):
 D5 P w K mg base (RK P w base) (k+1) f fd ps (NG K ps.length λ t ax=>E6 (g (Cz N t ax))):=by
 obtain⟨oc,od,dV,kV,doc,pm,an,B6,ct,Pj,rfl,lk,bd⟩:=F.ex;refine Sw lk bd S (λ vs H Q E h=>h.1) λ A outer s H vs Q E hr h=>?_;obtain⟨hl,P',p,t,fp,rest,ax,rfl,ht,hp,nd,ho,hv,hq⟩:=h;obtain⟨tt,h1,h2⟩:=hb B6 A outer s H E hr;refine⟨tt,h1,h2 ⟨λ a=>P' a/\a∉fp,λ _=>p⟩ P' _ H _ _ (Je ht hp nd ho hv) ?_⟩;dsimp only at hq;revert hq;cases g (Cz N t ax) with
 |bad|ex x=>exact λ h=>h.elim
 |ok o =>
  have sub:∀ {P2:Addr->Prop} {H2:Hp} {σ2:St} {ρ:Aa},Ai K ⟨λ a=>P' a/\a∉fp,λ _=>p⟩ P2 H2 σ2 ρ->∀a,P2 a/\¬ (P' a/\a∉fp)->P2 a/\(P' a->a∈fp):=λ E a ha=>⟨ha.1,λ z=>Classical.byContradiction λ w=>ha.2 ⟨z,w⟩⟩;cases o with
  |ret d|Cg d=>exact λ h=>h.elim
  |next ρ =>
   intro hq σ' H' P2 t2 E2;unfold E6 at hq;dsimp only at hq;split at hq
   ·rename_i t' e;obtain⟨c,ai,k1,k2,k3,k4,k5,k6⟩:=L9 E2 e;exact hq .Az H' P2 ai [] (λ a ha hn=>⟨E2.sub a ⟨ha,hn⟩,t2.2 a ⟨ha,hn⟩⟩) E2.Cf t2.1 k4 k5 (.sh .Az) yC (λ a ha=>by cases ha) (λ a ha=>sub E2 a (k6 a ha)) (λ a ha=>by cases ha)
   ·exact hq.elim
  |EQ r ρ =>
   intro hq v fr σ' H' P2 t2 E2 o2 aZ hf;unfold E6 at hq;dsimp only at hq;split at hq
   ·rename_i t' e;obtain⟨c,ai,k1,k2,k3,k4,k5,k6⟩:=L9 E2 e;exact hq v H' P2 ai fr (λ a ha hn=>⟨E2.sub a ⟨ha,hn⟩,t2.2 a ⟨ha,hn⟩⟩) E2.Cf t2.1 k4 k5 o2 aZ (λ a ha=>(hf a ha).2.2 0 c _ ai k1 k2 k3) (λ a ha=>sub E2 a (k6 a ha)) (λ a ha=>sub E2 a ⟨(hf a ha).1,(hf a ha).2.1⟩)
   ·exact hq.elim
  |brk ρ|cont ρ=>exact λ h=>h.elim
end
theorem Zo {K:za}{x qual:Str}{st:Stmt}{f:Addr}{oc:Value}{od an:Option Addr}{Pj:Array (Option Value)}{dV kV doc pm B6 ct:Value}(l:K.lookup f=some ⟨oc,od,.func (zS x qual (AL st) (Au st) (A4 st) dV kV doc pm an B6 ct),Pj⟩)
 (c:ye K B6 qual=true) (k:zQ K (.ref f)=true):iK K x qual st f (zS x qual (AL st) (Au st) (A4 st) dV kV doc pm an B6 ct):=⟨⟨oc,od,dV,kV,doc,pm,an,B6,ct,Pj,rfl,l,c⟩,k⟩
structure Qp (P:Program)(w:World)(K:za)(mg:Str->Option Value)(base:Heap)(x:Str)(k n:Nat)(F:OT->List D->M (OT×OT)):Prop where
 ex:∃C fa fd ps,iH K mg x C/\Mk K C fa/\D5 P w K mg base (RK P w base) k fa fd ps (NG K n F)/\Binds K fd ps []/\Binds K fd ps [.none]
theorem Qp.uB {P:Program}{w:World}{K:za}{mg:Str->Option Value}{base:Heap}{x:Str}{k n:Nat}{F:OT->List D->M (OT×OT)}(G:Qp P w K mg base x k n F):mQ P w K mg base x k n F:=by
 obtain⟨C,fa,fd,ps,h1,h2,h3,h4,_⟩:=G.ex;exact⟨⟨C,fa,fd,ps,h1,h2,h3,h4⟩⟩
structure RV (K:za)(mg:Str->Option Value)(x qual:Str)(st:Stmt)(ps:List Str):Prop where
 ex:∃C f fd,iH K mg x C/\Mk K C f/\iK K "__init__" qual st f fd/\Binds K fd ps []/\Binds K fd ps [.none]
theorem X7 {P:Program}{w:World}{K:za}{mg:Str->Option Value}{base:Heap}{x qual:Str}{st:Stmt}{N ps:List Str}{k n:Nat}(T:RV K mg x qual st ps)(S:Ah N ps (A4 st))(g:Aa->M Out)
 (hb:∀(f:Addr) (B6:Value) (A:Around) (outer:List Env) (s:Shared) (H:Hp) (E:XK),By k (A.deeper (envOfC qual (A4 st) s.heap.objs.size f B6))->R9 (SI P w K mg base N qual (A4 st) f B6 A outer s H E) (D7 K E) (Au st) g) (hn:ps.length=n:=by rfl):
 Qp P w K mg base x (k+1) n (λ t ax=>E6 (g (Cz N t ax))):=by
 obtain⟨C,f,fd,h1,h2,F,hB⟩:=T.ex;subst hn;exact⟨⟨C,f,fd,ps,h1,h2,Zn F S g (hb f),hB⟩⟩
theorem Bq {K:za}{mg:Str->Option Value}{h:Heap}{x:Str}{st:Stmt}{ps:List Str}(X:K.In h)(G:h.Ns mainGlobals mg)(p:FP K x st)(hb:∀(kV dc pm:Value) (an:Option Addr) (cd ct:Value) (us:List Value),us.length=ps.length->bindArgs (zS x x (AL st) (Au st) (A4 st) .none kV dc pm an cd ct) ⟨us,[]⟩=pure (ps.zip us):=by first | exact (λ _ _ _ _ _ _ us hl=>match us,hl with | [_],_=>rfl) | exact (λ _ _ _ _ _ _ us hl=>match us,hl with | [_,_],_=>rfl) | exact (λ _ _ _ _ _ _ us hl=>match us,hl with | [_,_,_],_=>rfl) | exact (λ _ _ _ _ _ _ us hl=>match us,hl with | [_,_,_,_],_=>rfl)):B5 K mg x st ps:=by
 obtain⟨f,oc,od,an,sl,kV,dc,pm,cd,ct,a,l,c,k⟩:=p.ex;have F:=Rw (st:=st) l c k;exact⟨⟨_,_,F,PySem.W.mg_of X G a,F.binds hb⟩⟩
theorem NX {K:za}{C:Addr}{x m qual:Str}{st:Stmt}{ps:List Str}(aC:zc K mainGlobals x=some (some (.ref C)))(cl:U2 K C)(p:MP K C m qual st)(hb:∀(kV dc pm:Value) (an:Option Addr) (cd ct:Value) (us:List Value),us.length=ps.length->bindArgs (zS m qual (AL st) (Au st) (A4 st) .none kV dc pm an cd ct) ⟨us,[]⟩=pure (ps.zip us):=by first | exact (λ _ _ _ _ _ _ us hl=>match us,hl with | [_],_=>rfl) | exact (λ _ _ _ _ _ _ us hl=>match us,hl with | [_,_],_=>rfl) | exact (λ _ _ _ _ _ _ us hl=>match us,hl with | [_,_,_],_=>rfl) | exact (λ _ _ _ _ _ _ us hl=>match us,hl with | [_,_,_,_],_=>rfl)):Kt K x m qual st ps:=by
 obtain⟨f,oc,od,an,sl,kV,dc,pm,cd,ct,a,i,l,c,k⟩:=p.ex;have F:=Rw (st:=st) l c k;exact⟨⟨_,_,_,aC,cl,⟨a,i,k⟩,F,F.binds hb⟩⟩
open PySem PySem.W PySem.Calls PyProof.Rows
noncomputable def R0:Rn:=⟨topRun,Heap.nsMap,importEnds,fenceModules?,PySem.start,treeTable⟩
theorem iL:R0=R1:=by
 unfold R0 R1;rw[PySem.W.Fast.te14082659384304107361,PySem.W.Fast.te8920871248978507458,PySem.W.Fast.te10274390034422433532,PySem.W.Fast.te14289696077712309145,PySem.W.Fast.te1435165496053646825,PySem.W.Fast.te14364793385576792824]
theorem T6 (p:Program)(w:World)(N:Nat):openEnds treeTable p w N=Ld R0 p w N:=by
 unfold openEnds fencedOpening Ld;rfl
theorem M4 {h:Heap}{a:Addr}{o:Obj}:∀ {as:List Addr},(nG h as).lookup a=some o->h.get? a=some o
 |[],e=>by cases e
 |b::r,e=>by
  unfold nG at e;rw[List.filterMap_cons] at e;cases q:h.get? b with
  |none=>rw[q] at e;exact M4 (as:=r) e
  |some u =>
   rw[q] at e;dsimp only [yq] at e;rw[yY] at e;cases c:a==b with
   |true=>rw[c] at e;cases e;rw[eq_of_beq c];exact q
   |false=>rw[c] at e;exact M4 (as:=r) e
def mR (h h':Heap):Prop:=∀(b:Addr) (o:Obj),h.get? b=some o->h'.get? b=some o
theorem iM {h h':Heap}{as:List Addr}(s:mR h h'):(nG h as).In h':=λ a o e=>s a o (M4 e)
theorem Zp {p q:Program}{Xt:Shared->Bool}{N:Nat}(h:∀w:World,(openEnds treeTable p w N).map (λ s=>openSeen q [] (importedModules p.main.body) Xt true s)=some (openGood q [])):LeftO p q [] Xt (λ s=>s.heap) (λ w=>Vv R0 p w N) N:=λ w=>by
 have e:=h w;unfold Vv;dsimp only;rw[<-T6];cases q':openEnds treeTable p w N with
 |none=>rw[q'] at e;cases e
 |some s =>
  rw[q'] at e;rw[yq] at e ⊢;dsimp only;rw[zH e]
theorem OO {α β γ:Type}{o:Option γ}{f:γ->α×β}{a:α×β}(h:o.map (λ s=>(f s).1)=some a.1)(k:o.map (λ s=>(f s).2)=some a.2):o.map f=some a:=by
 cases o with
 |none=>cases h
 |some s =>
  rw[yq] at h k ⊢;exact congrArg some (Prod.ext (zH h) (zH k))
theorem mS {l:PySem.W.OpenLaw}{n k:Nat}{q:Program}{loose:List Str}{XP:(Str->Option Value)->Heap->Prop}{YP:World->Heap->Prop}{d:DefRec}{K:World->za}{CX:World->Su}{sp:World->Sp}{x:Str}
 (hn:l.most=some n) (aB:n<=sizeLine) (ef:d.params.defaults=[]) (hr:By k callerA) (hY:∀(w:World) (h:Heap),YP w h->(K w).In h)
 (F:∀(w:World) (mg:Str->Option Value) (fa:Addr) (h:Heap),(K w).In h->h.Ns mainGlobals mg->mg d.name=some (.ref fa)->∃fd:FuncData,(∀(s:Shared) (u:Value),BindsTo s fd ⟨[u],[]⟩ [(x,u)])/\
  ∀base:Heap,(K w).In base->base.Ns mainGlobals mg->D5 l.prog w (K w) mg base (CX w) k fa fd [x] (sp w))
 (cq:∀(w:World) (H:Hp) (a:Addr) (ns:List Int),(∀n∈ns,Sm n)->ns.length<=n->Yy H->Dg (K w) H a (ns.map V.int)->sp w [.ref a] H (λ v _=>v=.bl true) λ _ _ _=>False)
 (ia:∀(w:World) (H:Hp) (s:Shared) (e:Value) (s':Shared),CX w [] H s (λ _ _ _=>False) e s'->False):PySem.W.WalkO q loose XP YP l.row.toRowW d [] (λ f vs=>PySem.call f vs):=by
 refine HT.NC hn ef λ w s₀ s₁ mg mb fa o pm cd doc a vs ns cU G Y ho hd bd eh cg bh hlen hg=>?_;have KX:=hY w _ Y;obtain⟨fd,hb,hF⟩:=F w mg fa _ KX G.T.g eh;exact PH KX G.T.g G.T.b G.T.builtins G.T.nolimit hg cg bh (yn hlen aB) hr hF hb (λ H hO hS=>cq w H a ns cU hlen hO hS) λ H e s'=>ia w H s₁ e s'
noncomputable def cst:Option (Int×Int)->D
 |none=>.Az
 |some p=>.tup [.int p.1,.int p.2]
noncomputable def AJ:Option (Int×Int)->Option (Int×Int)->Option (Int×Int)
 |some p,some q=>some (p.1+q.1,p.2+q.2)
 |_,_=>none
noncomputable def iN (p q:Int×Int):Int×Int:=if p.1<q.1\/(p.1=q.1/\p.2<=q.2) then p else q
noncomputable def HC:Option (Int×Int)->Option (Int×Int)->Option (Int×Int)
 |none,b=>b
 |some p,none=>some p
 |some p,some q=>some (iN p q)
noncomputable def M5 (cs:List (Option (Int×Int))):Option (Int×Int):=cs.foldl HC none
theorem Ku (cs:List (Option (Int×Int))):Bd (λ d ρ=>.ok (ρ.set 0 (some (.val d)))) (λ ρ=>(rv 0 ρ).bind λ x=>.ok (!BD x)) (rv 0) (cs.map cst) [none]=.ok ((cs.filterMap id).map λ p=>cst (some p)):=by
 induction cs with
 |nil=>rfl
 |cons c r ih =>
  rw[zg,Bd];cases c with
  |none =>
   show Bd _ _ _ (r.map cst) [none]=_;rw[ih];rfl
  |some p =>
   show (match Bd _ _ _ (r.map cst) [none] with | .ok ys=>M.ok (cst (some p)::ys)|_=>.bad)=_;rw[ih];rfl
theorem UQ (ps:List (Int×Int)):GA (ps.map λ p=>cst (some p))=some (ps.map λ p=>(cst (some p),[p.1,p.2])):=by
 induction ps with
 |nil=>rfl
 |cons p r ih=>rw[zg,GA,ih];rfl
theorem X8 (cs:List (Option (Int×Int))):AR ((cs.filterMap id).map λ p=>(cst (some p),[p.1,p.2]))=(M5 cs).map λ p=>(cst (some p),[p.1,p.2]):=by
 have key:∀(cs:List (Option (Int×Int))) (z:Option (Int×Int)),((cs.filterMap id).map λ p=>(cst (some p),[p.1,p.2])).foldl Bu (z.map λ p=>(cst (some p),[p.1,p.2]))=(cs.foldl HC z).map λ p=>(cst (some p),[p.1,p.2]):=by
  intro cs;induction cs with
  |nil=>intro z;rfl
  |cons c r ih =>
   intro z;cases c with
   |none =>
    rw[show List.filterMap id (none::r)=List.filterMap id r from rfl,zX,ih z];cases z<;>rfl
   |some q =>
    rw[show List.filterMap id (some q::r)=q::List.filterMap id r from rfl,zg,zX,zX,<-ih (HC z (some q))];congr 1;cases z with
    |none=>rfl
    |some p =>
     simp only[yq,Bu,HT.FC,HT.Ex,HC,iN];by_cases h1:q.1=p.1
     ·by_cases h2:q.2=p.2
      ·rw[if_pos (show p.1<q.1\/(p.1=q.1/\p.2<=q.2) by omega)];simp[h1,h2]
      ·by_cases h3:q.2<p.2
       ·rw[if_neg (show ¬ (p.1<q.1\/(p.1=q.1/\p.2<=q.2)) by omega)];simp[h1,h2,h3]
       ·rw[if_pos (show p.1<q.1\/(p.1=q.1/\p.2<=q.2) by omega)];simp[h1,h2,h3]
     ·by_cases h3:q.1<p.1
      ·rw[if_neg (show ¬ (p.1<q.1\/(p.1=q.1/\p.2<=q.2)) by omega)];simp[h1,h3]
      ·rw[if_pos (show p.1<q.1\/(p.1=q.1/\p.2<=q.2) by omega)];simp[h1,h3]
 exact key cs none
theorem Zq (cs:List (Option (Int×Int))):SH (.lst ((cs.filterMap id).map λ p=>cst (some p))) .Az=.ok (cst (M5 cs)):=by
 simp only[SH,UQ,X8];cases M5 cs<;>rfl
theorem X9 (cs:List (Option (Int×Int))):Gz (Bd (λ d ρ=>.ok (ρ.set 0 (some (.val d)))) (λ ρ=>(rv 0 ρ).bind λ x=>.ok (!BD x)) (rv 0) (cs.map cst) [none])=.ok (.lst ((cs.filterMap id).map λ p=>cst (some p))):=by
 rw[Ku];rfl
noncomputable abbrev Co:=Option (Int×Int)
def D3:Co->Co->Prop
 |_,none=>True
 |none,some _=>False
 |some p,some q=>p.1<q.1\/(p.1=q.1/\p.2<=q.2)
theorem Cp:∀a:Co,D3 a a
 |none=>trivial
 |some p=>.inr ⟨rfl,Int.le_refl _⟩
theorem AQ:∀ {a b c:Co},D3 a b->D3 b c->D3 a c
 |_,_,none,_,_=>trivial
 |none,none,some _,_,h|some _,none,some _,_,h|none,some _,some _,h,_=>h.elim
 |some p,some q,some r,h1,h2=>by simp only[D3] at *;omega
theorem M6:∀ {a b:Co},D3 a b->D3 b a->a=b
 |none,none,_,_=>rfl
 |none,some _,h,_|some _,none,_,h=>h.elim
 |some p,some q,h1,h2=>by
  obtain⟨p1,p2⟩:=p;obtain⟨q1,q2⟩:=q;simp only[D3] at h1 h2;have e1:p1=q1:=by omega
  have e2:p2=q2:=by omega
  rw[e1,e2]
theorem DJ:∀a b:Co,(HC a b=a/\D3 a b)\/(HC a b=b/\D3 b a/\a≠b)
 |none,none=>.inl ⟨rfl,trivial⟩
 |none,some q=>.inr ⟨rfl,trivial,λ h=>by cases h⟩
 |some p,none=>.inl ⟨rfl,trivial⟩
 |some p,some q=>by
  unfold HC iN;by_cases h:p.1<q.1\/(p.1=q.1/\p.2<=q.2)
  ·dsimp only;rw[if_pos h];exact .inl ⟨rfl,h⟩
  ·dsimp only;rw[if_neg h];refine .inr ⟨rfl,?_,λ e=>?_⟩
   ·simp only[D3];omega
   ·cases e;exact h (.inr ⟨rfl,Int.le_refl _⟩)
theorem HD (a b:Co):D3 (HC a b) a:=by
 rcases DJ a b with ⟨e,h⟩|⟨e,h,_⟩
 ·rw[e];exact Cp a
 ·rw[e];exact h
theorem Jj (a b:Co):D3 (HC a b) b:=by
 rcases DJ a b with ⟨e,h⟩|⟨e,h,_⟩
 ·rw[e];exact h
 ·rw[e];exact Cp b
theorem Qq (cs:List Co):∀z:Co,D3 (cs.foldl HC z) z/\(∀x∈cs,D3 (cs.foldl HC z) x)/\(cs.foldl HC z=z\/cs.foldl HC z∈cs):=by
 induction cs with
 |nil=>intro z;exact⟨Cp z,(λ x h=>by cases h),.inl rfl⟩
 |cons c r ih =>
  intro z;obtain⟨h1,h2,h3⟩:=ih (HC z c);rw[zX];refine⟨AQ h1 (HD z c),λ x hx=>?_,?_⟩
  ·rcases zl.mp hx with rfl|hx
   ·exact AQ h1 (Jj z x)
   ·exact h2 x hx
  ·rcases h3 with h3|h3
   ·rw[h3];rcases DJ z c with ⟨e,_⟩|⟨e,_⟩
    ·exact .inl e
    ·rw[e];exact .inr zd
   ·exact .inr (ze _ h3)
theorem T7 {cs:List Co}{x:Co}(h:x∈cs):D3 (M5 cs) x:=(Qq cs none).2.1 x h
theorem M7 (cs:List Co):M5 cs=none\/M5 cs∈cs:=(Qq cs none).2.2
theorem Zr {cs:List Co}{v:Co}(h1:∀x∈cs,D3 v x)(h2:v≠none->∃x∈cs,D3 x v):M5 cs=v:=by
 refine M6 ?_ ?_
 ·cases v with
  |none=>cases M5 cs<;>exact trivial
  |some p =>
   obtain⟨x,hx,hl⟩:=h2 (by intro z;cases z);exact AQ (T7 hx) hl
 ·rcases M7 cs with h|h
  ·rw[h];cases v<;>exact trivial
  ·exact h1 _ h
theorem NY:∀a b:Co,AJ a b=AJ b a
 |none,none=>rfl
 |none,some _|some _,none=>rfl
 |some p,some q=>by simp only[AJ];rw[Int.add_comm,Int.add_comm p.2]
theorem JW:∀ {a b:Co}(c:Co),D3 a b->D3 (AJ a c) (AJ b c)
 |_,none,c,_=>by cases c<;>exact trivial
 |none,some _,c,h=>h.elim
 |some p,some q,none,h=>trivial
 |some p,some q,some r,h=>by simp only[AJ,D3] at *;omega
def NN:Co->Prop
 |none=>True
 |some p=>0<=p.1/\0<=p.2
theorem Xa:∀ {a b:Co},NN a->NN b->NN (AJ a b)
 |none,none,_,_=>trivial
 |none,some _,_,_|some _,none,_,_=>trivial
 |some p,some q,h1,h2=>by simp only[AJ,NN] at *;omega
theorem mU {a b:Co}(h1:NN a)(h2:NN b):NN (HC a b):=by
 rcases DJ a b with ⟨e,_⟩|⟨e,_⟩
 ·rw[e];exact h1
 ·rw[e];exact h2
def ltN (a b:Co):Prop:=NN a/\D3 a b/\a≠b
theorem UR (a b c:Co)(h1:ltN a b)(h2:ltN b c):ltN a c:=
 ⟨h1.1,AQ h1.2.1 h2.2.1,λ e=>by subst e;exact h1.2.2 (M6 h1.2.1 h2.2.1)⟩
noncomputable def rank:Co->Nat×Nat×Nat
 |none=>(1,0,0)
 |some p=>(0,p.1.toNat,p.2.toNat)
theorem iO:∀a:Co,NN a->Acc ltN a:=by
 have wf:WellFounded (InvImage (Prod.Lex (· < ·) (Prod.Lex (· < ·) (· < ·))) rank):=InvImage.wf rank (Prod.lex Nat.lt_wfRel (Prod.lex Nat.lt_wfRel Nat.lt_wfRel)).wf;intro a;induction a using wf.induction with
 |h a ih =>
  intro ha;refine .intro _ λ b ⟨hb,hl,ae⟩=>ih b ?_ hb;cases b with
  |none=>cases a with
   |none=>exact (ae rfl).elim
   |some p=>exact hl.elim
  |some q=>cases a with
   |none=>exact Prod.Lex.left _ _ (by decide)
   |some p =>
    obtain⟨p1,p2⟩:=p;obtain⟨q1,q2⟩:=q;simp only[D3,NN] at hl ha hb;show Prod.Lex _ _ (0,q1.toNat,q2.toNat) (0,p1.toNat,p2.toNat);refine Prod.Lex.right _ ?_;by_cases h:q1<p1
    ·exact Prod.Lex.left _ _ (by omega)
    ·have e:q1=p1:=by omega
     subst e;have h2:q2≠p2:=λ e=>ae (by rw[e]);exact Prod.Lex.right _ (by omega)
theorem Zs (a:Co):Acc ltN a:=.intro _ λ b h=>iO b h.1
theorem US (cs:List Co):Acc (MI ltN) cs:=LM ltN Zs cs.length cs rfl
structure Road where
 a:Int
 b:Int
 l:Option Int
 w:Int
noncomputable def E8:Option Int->D
 |none=>.Az
 |some i=>.int i
noncomputable def CZ (r:Road):D:=.tup [.int r.a,.int r.b,E8 r.l,.int r.w]
noncomputable def Ad (m:Int)(rs:List Road):D:=.tup [.int m,.lst (rs.map CZ)]
noncomputable def BS (r:Road):Co:=match r.l with | none=>none | some l=>some (l,1)
structure Io (m:Nat)(r:Road):Prop where
 a0:0<=r.a
 a1:r.a<m
 b0:0<=r.b
 b1:r.b<m
 l0:∀l,r.l=some l->0<=l
theorem dA {m:Nat}{r:Road}(h:Io m r):NN (BS r):=by
 unfold BS;split
 ·trivial
 ·rename_i l e;exact⟨h.l0 l e,by show (0:Int)<=1;decide⟩
noncomputable def atC (cs:List Co)(i:Int):Co:=cs.getD i.toNat none
theorem FU {cs:List Co}{i:Int}(h0:0<=i)(h1:i<cs.length):cs[i.toNat]?=some (atC cs i):=by
 unfold atC;rw[zI,zr (show i.toNat<cs.length by omega)];rfl
theorem set_same {α:Type}:∀ {l:List α}{i:Nat}{x:α},l[i]?=some x->l.set i x=l
 |[],_,_,h=>by cases h
 |y::r,0,x,h=>by cases h;rfl
 |y::r,i+1,x,h=>by rw[zv,set_same (by simpa using h)]
noncomputable def CQ (r:Road)(cs:List Co):List Co:=cs.set r.b.toNat (HC (atC cs r.b) (AJ (atC cs r.a) (BS r)))
theorem T8 {cs:List Co}{i j:Int}{v:Co}(hi:0<=i)(hj:0<=j)(h1:i<cs.length):atC (cs.set i.toNat v) j=if j=i then v else atC cs j:=by
 unfold atC;rw[zI,zI];by_cases h:j=i
 ·subst h;rw[if_pos rfl,zV (by omega)];rfl
 ·rw[if_neg h,yo (by omega)]
structure Good (m s:Nat)(rs:List Road)(cs:List Co):Prop where
 len:cs.length=m
 st:atC cs s=some (0,0)
 nn:∀c∈cs,NN c
 sup:∀p:Int,0<=p->p<m->p≠s->atC cs p≠none->∃r∈rs,r.b=p/\D3 (AJ (atC cs r.a) (BS r)) (atC cs p)
theorem Good.dB {m s:Nat}{rs:List Road}{cs:List Co}(g:Good m s rs cs){i:Int}(h0:0<=i)(h1:i<m):NN (atC cs i):=
 g.nn _ (zp (FU h0 (by rw[g.len];exact h1)))
theorem UT {m s:Nat}{rs:List Road}{cs:List Co}{r:Road}(g:Good m s rs cs)(hr:r∈rs)(Av:∀r∈rs,Io m r):
 Good m s rs (CQ r cs)/\(∀i:Int,0<=i->D3 (atC (CQ r cs) i) (atC cs i))/\(HC (atC cs r.b) (AJ (atC cs r.a) (BS r))=atC cs r.b->CQ r cs=cs)/\
 (HC (atC cs r.b) (AJ (atC cs r.a) (BS r))≠atC cs r.b->MI ltN (CQ r cs) cs):=by
 have ok:=Av r hr;have gn:r.b<cs.length:=by rw[g.len];exact ok.b1
 have hx:NN (AJ (atC cs r.a) (BS r)):=Xa (g.dB ok.a0 ok.a1) (dA ok);have hv:NN (HC (atC cs r.b) (AJ (atC cs r.a) (BS r))):=mU (g.dB ok.b0 ok.b1) hx;have gp:∀i:Int,0<=i->atC (CQ r cs) i=if i=r.b then HC (atC cs r.b) (AJ (atC cs r.a) (BS r)) else atC cs i:=λ i hi=>T8 ok.b0 hi gn
 have le:∀i:Int,0<=i->D3 (atC (CQ r cs) i) (atC cs i):=λ i hi=>by
  rw[gp i hi];by_cases h:i=r.b
  ·rw[if_pos h,h];exact HD _ _
  ·rw[if_neg h];exact Cp _
 refine⟨⟨by unfold CQ;rw[yE];exact g.len,?_,λ c hc=>?_,λ p h0 h1 hp hn=>?_⟩,le,λ h=>?_,λ h=>?_⟩
 ·rw[gp s (by omega)];by_cases h:(s:Int)=r.b
  ·rw[if_pos h,<-h,g.st];cases q:AJ (atC cs r.a) (BS r) with
   |none=>rfl
   |some x =>
    rw[q] at hx;unfold HC iN;dsimp only;rw[if_pos (by simp only[NN] at hx;omega)]
  ·rw[if_neg h];exact g.st
 ·unfold CQ at hc;rcases List.mem_or_eq_of_mem_set hc with h|h
  ·exact g.nn c h
  ·rw[h];exact hv
 ·rw[gp p h0] at hn ⊢;by_cases h:p=r.b
  ·rw[if_pos h] at hn ⊢;rcases DJ (atC cs r.b) (AJ (atC cs r.a) (BS r)) with ⟨e,_⟩|⟨e,_⟩
   ·rw[e] at hn ⊢;subst h;obtain⟨r',h2,h3,h4⟩:=g.sup r.b h0 h1 hp hn;exact⟨r',h2,h3,AQ (JW _ (le r'.a (Av r' h2).a0)) h4⟩
   ·rw[e];exact⟨r,hr,h.symm,JW _ (le r.a ok.a0)⟩
  ·rw[if_neg h] at hn ⊢;obtain⟨r',h2,h3,h4⟩:=g.sup p h0 h1 hp hn;exact⟨r',h2,h3,AQ (JW _ (le r'.a (Av r' h2).a0)) h4⟩
 ·unfold CQ;rw[h];exact set_same (FU ok.b0 gn)
 ·unfold CQ;exact SM ltN (FU ok.b0 gn) ⟨hv,HD _ _,h⟩
def Right (m s:Nat)(rs:List Road)(cs:List Co):Prop:=
 cs.length=m/\atC cs s=some (0,0)/\(∀c∈cs,NN c)/\∀p:Int,0<=p->p<m->p≠s->atC cs p=M5 ((rs.filter λ r=>decide (r.b=p)).map λ r=>AJ (BS r) (atC cs r.a))
theorem right_of {m s:Nat}{rs:List Road}{cs:List Co}(g:Good m s rs cs)(h:∀r∈rs,HC (atC cs r.b) (AJ (atC cs r.a) (BS r))=atC cs r.b):Right m s rs cs:=by
 refine⟨g.len,g.st,g.nn,λ p h0 h1 hp=>?_⟩;symm;refine Zr (λ x hx=>?_) λ hn=>?_
 ·obtain⟨r,hr,rfl⟩:=zP.mp hx;obtain⟨h2,h3⟩:=yf.mp hr;have e:r.b=p:=by simpa using h3
  have:=Jj (atC cs r.b) (AJ (atC cs r.a) (BS r));rw[h r h2,e] at this;rw[NY];exact this
 ·obtain⟨r,h2,h3,h4⟩:=g.sup p h0 h1 hp hn;refine⟨_,zP.mpr ⟨r,yf.mpr ⟨h2,by simpa using h3⟩,rfl⟩,?_⟩;rw[NY];exact h4
theorem RW {m s:Nat}(rs:List Road)(h:s<m):Good m s rs ((zA m none).set s (some (0,0))):=by
 have hl:(zA m (none:Co)).length=m:=List.length_replicate;have gp:∀i:Int,0<=i->atC ((zA m none).set s (some (0,0))) i=if i=s then some (0,0) else none:=λ i hi=>by
  have:=T8 (cs:=zA m none) (i:=(s:Int)) (j:=i) (v:=some (0,0)) (by omega) hi (by rw[hl];omega);rw[yt] at this;rw[this];by_cases h:i=s
  ·rw[if_pos h,if_pos h]
  ·rw[if_neg h,if_neg h];unfold atC;rw[zI,List.getElem?_replicate];split<;>rfl
 refine⟨by rw[yE,hl],?_,λ c hc=>?_,λ p h0 h1 hp hn=>?_⟩
 ·rw[gp s (by omega),if_pos rfl]
 ·rcases List.mem_or_eq_of_mem_set hc with h|h
  ·rw[List.eq_of_mem_replicate h];trivial
  ·rw[h];exact⟨Int.le_refl _,Int.le_refl _⟩
 ·rw[gp p h0,if_neg hp] at hn;exact (hn rfl).elim
theorem iP {α:Type}{l:List α}{n:Int}(h:0<=n/\n<l.length):Sx l n=l[n.toNat]? :=by
 unfold Sx Y2;obtain⟨h1,h2⟩:=h;simp[h1,h2]
theorem Zt {n:Nat}{j:Int}(h:0<=j/\j<n):Y2 n j=some j.toNat:=by
 unfold Y2;obtain⟨h1,h2⟩:=h;simp[h1,h2]
theorem OP {α:Type}{f:α->D}{l:List α}{n:Int}{x:α}(h0:0<=n)(h:l[n.toNat]?=some x):jU (.lst (l.map f)) (.int n)=.ok (f x):=by
 have h1:=(zy.mp h).1;unfold jU;dsimp only;rw[iP (by rw[zf];omega),zG,h];rfl
theorem M8 {cs:List Co}{i:Int}(h0:0<=i)(h1:i<cs.length):jU (.lst (cs.map cst)) (.int i)=.ok (cst (atC cs i)):=OP h0 (FU h0 h1)
theorem M9 {n:Nat}(c:Co):Pl (n+1) (cst c):=by
 cases c with
 |none=>exact gH
 |some p=>exact Wx (L4 (DY _) (L4 (DY _) Wy))
theorem T9 (a b:Co):Ao (cst a) (cst b)=decide (a=b):=by
 rcases a with _|⟨a1,a2⟩<;>rcases b with _|⟨b1,b2⟩
 ·simp[cst,Ao]
 ·simp[cst,Ao]
 ·simp[cst,Ao]
 ·rw[yV];simp[cst,Ao,C0]
theorem Zu (a b:Co):Vt 16 (cst a) (cst b)=.ok (.bl (!decide (a=b))):=by rw[RL (M9 (n:=15) a) (M9 (n:=15) b),T9]
theorem Ta (a b:Co):Wf 16 (cst a) (cst b)=.ok (.bl (decide (a=b))):=by rw[OF (M9 (n:=15) a) (M9 (n:=15) b),T9]
theorem Zv (c:Co):JL (cst c)=true:=by
 cases c<;>simp[cst,JL,J8]
theorem JX (c:Co):dp (.ok (cst c))=.ok (cst c):=by
 unfold dp;rw[M.A6,if_pos (Zv c)]
theorem BA {a b:Int}(h:0<b):Ie (.int a) (.int b)=.ok (.int (a%b)):=by
 unfold Ie B3;dsimp only;rw[if_pos h]
theorem JY {a b:Int}(h:Pw a b):Nv (.int a) (.int b)=.ok (.int (a / b)):=by
 unfold Nv B3;dsimp only;rw[if_pos h]
inductive Wk (rs:List Road):Int->Int->Int×Int->Prop
 |nil (u:Int):Wk rs u u (0,0)
 |cons {r:Road} {l:Int} {w:Int} {c:Int×Int}:r∈rs->r.l=some l->Wk rs r.b w c->Wk rs r.a w (l+c.1,1+c.2)
theorem Wk.trans {rs:List Road}{u v w:Int}{c d:Int×Int}(h:Wk rs u v c)(k:Wk rs v w d):Wk rs u w (c.1+d.1,c.2+d.2):=by
 induction h with
 |nil u=>simpa using k
 |cons hr hl _ ih =>
  have:=Wk.cons hr hl (ih k);simpa [Int.add_assoc] using this
theorem Wk.one {rs:List Road}{r:Road}{l:Int}(hr:r∈rs)(hl:r.l=some l):Wk rs r.a r.b (l,1):=by
 have:=Wk.cons hr hl (Wk.nil (rs:=rs) r.b);simpa using this
def NZ (rs:List Road)(u w:Int)(x:Co):Prop:=(∀c,Wk rs u w c->D3 x (some c))/\∀p,x=some p->Wk rs u w p
theorem NZ.C1 {rs:List Road}{u w:Int}{x y:Co}(h:NZ rs u w x)(k:NZ rs u w y):x=y:=by
 refine M6 ?_ ?_
 ·cases y with
  |none=>cases x<;>exact trivial
  |some q=>exact h.1 q (k.2 q rfl)
 ·cases x with
  |none=>cases y<;>exact trivial
  |some q=>exact k.1 q (h.2 q rfl)
theorem Jk {r:Road}{c:Int×Int}(h:BS r=some c):∃l,r.l=some l/\c=(l,1):=by
 unfold BS at h;split at h
 ·cases h
 ·rename_i l e;cases h;exact⟨l,e,rfl⟩
theorem HE {a b:Co}{c:Int×Int}(h:AJ a b=some c):∃p q,a=some p/\b=some q/\c=(p.1+q.1,p.2+q.2):=by
 cases a with
 |none=>cases h
 |some p=>cases b with
  |none=>cases h
  |some q=>cases h;exact⟨p,q,rfl,rfl,rfl⟩
theorem Right.min_le {m s:Nat}{rs:List Road}{cs:List Co}(h:Right m s rs cs){r:Road}(hr:r∈rs)(Av:Io m r):D3 (atC cs r.b) (AJ (BS r) (atC cs r.a)):=by
 obtain⟨h1,h2,h3,h4⟩:=h;by_cases hs:r.b=s
 ·rw[hs,h2];have hn:NN (AJ (BS r) (atC cs r.a)):=Xa (dA Av) (h3 _ (zp (FU Av.a0 (by rw[h1];exact Av.a1))));cases q:AJ (BS r) (atC cs r.a) with
  |none=>exact trivial
  |some p=>rw[q] at hn;simp only[NN] at hn;simp only[D3];omega
 ·rw[h4 r.b Av.b0 Av.b1 hs];exact T7 (zP.mpr ⟨r,yf.mpr ⟨hr,by simp⟩,rfl⟩)
theorem UU {m s:Nat}{rs:List Road}{cs:List Co}(h:Right m s rs cs)(Av:∀r∈rs,Io m r){u w:Int}{c:Int×Int}(k:Wk rs u w c):D3 (atC cs w) (AJ (atC cs u) (some c)):=by
 induction k with
 |nil u =>
  cases atC cs u with
  |none=>exact trivial
  |some p=>simp only[AJ,D3];omega
 | @cons r l w c hr hl _ ih =>
  refine AQ ih ?_;have h1:=h.min_le hr (Av r hr);have e:BS r=some (l,1):=by unfold BS;rw[hl]
  rw[e] at h1;cases q:atC cs r.a with
  |none=>exact trivial
  |some p =>
   rw[q] at h1;cases q2:atC cs r.b with
   |none=>rw[q2] at h1;exact h1.elim
   |some p2=>rw[q2] at h1;simp only[AJ,D3] at *;omega
theorem UW {m s:Nat}{rs:List Road}{cs:List Co}(h:Right m s rs cs)(Av:∀r∈rs,Io m r):∀(n:Nat) (w:Int) (p:Int×Int),0<=w->w<m->atC cs w=some p->p.2.toNat=n->Wk rs s w p:=by
 obtain⟨h1,h2,h3,h4⟩:=h;intro n;induction n with
 |zero =>
  intro w p h0 hw hp hn;by_cases hs:w=s
  ·rw[hs,h2] at hp;cases hp;rw[hs];exact .nil _
  ·exfalso;have e:=h4 w h0 hw hs;rw[hp] at e;rcases M7 ((rs.filter λ r=>decide (r.b=w)).map λ r=>AJ (BS r) (atC cs r.a)) with z|z
   ·rw[z] at e;cases e
   ·rw[<-e] at z;obtain⟨r,hr,e2⟩:=zP.mp z;have j9:=(yf.mp hr).1;obtain⟨p1,p2,e3,e4,e5⟩:=HE e2;obtain⟨l,hl,rfl⟩:=Jk e3;have ok:=Av r j9;have nn:=h3 _ (zp (FU ok.a0 (by rw[h1];exact ok.a1)));rw[e4] at nn;simp only[NN] at nn;rw[e5] at hn;simp only at hn;omega
 |succ n ih =>
  intro w p h0 hw hp hn;by_cases hs:w=s
  ·rw[hs,h2] at hp;cases hp;rw[hs];exact .nil _
  ·have e:=h4 w h0 hw hs;rw[hp] at e;rcases M7 ((rs.filter λ r=>decide (r.b=w)).map λ r=>AJ (BS r) (atC cs r.a)) with z|z
   ·rw[z] at e;cases e
   ·rw[<-e] at z;obtain⟨r,hr,e2⟩:=zP.mp z;obtain⟨j9,oj⟩:=yf.mp hr;have oj:r.b=w:=by simpa using oj
    obtain⟨p1,p2,e3,e4,e5⟩:=HE e2;obtain⟨l,hl,rfl⟩:=Jk e3;have ok:=Av r j9;have nn:=h3 _ (zp (FU ok.a0 (by rw[h1];exact ok.a1)));rw[e4] at nn;simp only[NN] at nn;subst e5;simp only at hn;have w1:=ih r.a p2 ok.a0 ok.a1 e4 (by omega);have w2:=w1.trans (Wk.one j9 hl);rw[oj] at w2;have e6:((l+p2.1,1+p2.2):Int×Int)=(p2.1+l,p2.2+1):=by rw[Int.add_comm l,Int.add_comm 1]
    show Wk rs s w (l+p2.1,1+p2.2);rw[e6];exact w2
theorem Right.mV {m s:Nat}{rs:List Road}{cs:List Co}(h:Right m s rs cs)(Av:∀r∈rs,Io m r){w:Int}(h0:0<=w)(hw:w<m):NZ rs s w (atC cs w):=by
 refine⟨λ c k=>?_,λ p hp=>UW h Av _ w p h0 hw hp rfl⟩;have:=UU h Av k;rw[h.2.1] at this;have e:AJ (some (0,0)) (some c)=some c:=by simp[AJ]
 rw[e] at this;exact this
noncomputable def hit (rs:List Road)(cs:List Co)(p:Nat)(k:Nat):Bool:=match rs[k]? with
 |some r=>decide (r.b=(p:Int))&&decide (AJ (atC cs r.a) (BS r)≠none)&&decide (AJ (atC cs r.a) (BS r)=atC cs (p:Int))
 |none=>false
theorem Wk.nn {m:Nat}{rs:List Road}(Av:∀r∈rs,Io m r){u w:Int}{c:Int×Int}(h:Wk rs u w c):0<=c.1/\0<=c.2:=by
 induction h with
 |nil=>exact⟨Int.le_refl _,Int.le_refl _⟩
 |cons hr hl _ ih =>
  have:=(Av _ hr).l0 _ hl;simp only;omega
noncomputable def pD (p:Int×Int):D:=.tup [.int p.1,.int p.2]
theorem Ma (p q:Int×Int):Ao (pD p) (pD q)=decide (p=q):=by
 obtain⟨a,b⟩:=p;obtain⟨c,d⟩:=q;unfold pD;simp only[Ao,C0,Bool.and_true];rw[yV];simp
theorem Qr (p:Int×Int):keyOk true (pD p)=true:=rfl
theorem Tb (B:List (Int×Int))(p:Int×Int):KN (B.map pD) (pD p)=decide (p∈B):=by
 unfold KN;rw[List.any_map,yV];simp only[List.any_eq_true,Function.comp,Ma,decide_eq_true_eq];constructor
 ·rintro ⟨x,hx,rfl⟩;exact hx
 ·intro h;exact⟨p,h,rfl⟩
theorem OQ (B:List (Int×Int))(vs:List D)(neg:Bool)(a b:Int):MV neg (.tup [.int a,.int b]) (.Bh true (B.map pD) vs)=.ok (.bl (if neg=true then !decide ((a,b)∈B) else decide ((a,b)∈B))):=by
 unfold MV;dsimp only;have h1:keyOk true (D.tup [D.int a,D.int b])=true:=rfl;have h2:KN (B.map pD) (D.tup [D.int a,D.int b])=decide ((a,b)∈B):=Tb B (a,b);rw[if_pos h1,h2]
noncomputable def JZ (B:List (Int×Int))(p:Int×Int):List (Int×Int):=if p∈B then B else B++[p]
noncomputable def CB {α:Type}(B:List α):List D:=B.map λ _=>.bl true
theorem O0 {α:Type}(f:α->D)(y:D):∀B:List α,Il (B.map f) (CB B) y (.bl true)=CB B
 |[]=>rfl
 |b::r=>by
  show Il (f b::r.map f) (.bl true::CB r) y (.bl true)=.bl true::CB r;rw[Il,O0 f y r];split<;>rfl
theorem Tc (B:List (Int×Int))(p:Int×Int):putD (B.map pD) (CB B) (pD p) (.bl true)=((JZ B p).map pD,CB (JZ B p)):=by
 unfold putD JZ;rw[Tb];by_cases h:p∈B
 ·rw[decide_eq_true h,if_pos rfl,if_pos h,O0]
 ·rw[decide_eq_false h,if_neg (by simp),if_neg h];unfold CB;simp
theorem Qs {B:List (Int×Int)}{p q:Int×Int}:q∈JZ B p↔q∈B\/q=p:=by
 unfold JZ;split
 ·constructor
  ·exact .inl
  ·rintro (h|rfl)
   ·exact h
   ·assumption
 ·simp
theorem RX {B:List (Int×Int)}{p:Int×Int}(h:B.Nodup):(JZ B p).Nodup:=by
 unfold JZ;split
 ·exact h
 ·rename_i hn;exact zN.mpr ⟨h,by simp,λ a ha b hb z=>by simp at hb;subst hb;subst z;exact hn ha⟩
theorem K0 {α:Type}[DecidableEq α]:∀ {l u:List α},l.Nodup->(∀x∈l,x∈u)->l.length<=u.length
 |[],_,_,_=>zT _
 |x::r,u,nd,h=>by
  have aZ:=yd.mp nd;have hx:=h x zd;have ih:=K0 (l:=r) (u:=u.erase x) aZ.2 λ y hy=>(List.mem_erase_of_ne (λ z=>aZ.1 (by rw[<-z];exact hy))).mpr (h y (ze _ hy));have e:=List.length_erase_of_mem hx;have:0<u.length:=List.length_pos_of_mem hx;rw[zq];omega
theorem Xb (p:Int×Int):JL (pD p)=true:=by simp[pD,JL,J8]
noncomputable def AK (m:Nat):List Int:=(zL m).map λ i:Nat=>(i:Int)
theorem Mb (m:Nat):((zL m).map λ i:Nat=>D.int (i:Int))=(AK m).map D.int:=by unfold AK;rw[yr];rfl
theorem Fo (m:Nat):(AK m).length=m:=by unfold AK;simp
theorem Jl {m:Nat}{p:Int}:p∈AK m↔0<=p/\p<m:=by
 unfold AK;constructor
 ·intro h;obtain⟨i,hi,rfl⟩:=zP.mp h;have:=yM.mp hi;omega
 ·rintro ⟨h0,h1⟩;exact zP.mpr ⟨p.toNat,yM.mpr (by omega),by omega⟩
noncomputable def AX (B:List (Int×Int))(L:List Int)(v:Int):List (Int×Int):=(L.filter λ u=>decide ((u,v)∈B)).flatMap λ u=>((L.filter λ w=>decide ((v,w)∈B)).filter λ w=>decide (u≠w) && !decide ((u,w)∈B)).map λ w=>(u,w)
def iQ (B:List (Int×Int)):Prop:=∀x,(x,x)∉B
theorem UX (B:List (Int×Int))(L:List Int)(v:Int):(AX B L v).length<=L.length*L.length:=by
 unfold AX;rw[List.length_flatMap];have key:∀l:List Int,(l.map λ u=>(((L.filter λ w=>decide ((v,w)∈B)).filter λ w=>decide (u≠w) && !decide ((u,w)∈B)).map λ w=>(u,w)).length).sum<=l.length*L.length:=by
  intro l;induction l with
  |nil=>simp
  |cons u r ih =>
   rw[zg,List.sum_cons,zq,Nat.succ_mul];have:(((L.filter λ w=>decide ((v,w)∈B)).filter λ w=>decide (u≠w) && !decide ((u,w)∈B)).map λ w=>(u,w)).length<=L.length:=by
    rw[zf];exact yn (List.length_filter_le _ _) (List.length_filter_le _ _)
   omega
 exact yn (key _) (Nat.mul_le_mul_right _ (List.length_filter_le _ _))
theorem O1 {α:Type}(f:α->List Int):∀l:List α,GA (l.map λ x=>D.tup ((f x).map D.int))=some (l.map λ x=>(D.tup ((f x).map D.int),f x))
 |[]=>rfl
 |x::r=>by
  rw[zg,GA,O1 f r];simp[Wr,CK]
theorem O2 {B:List (Int×Int)}{L:List Int}{v:Int}{p:Int×Int}(h:p∈AX B L v):p.1∈L/\p.2∈L/\p.1≠p.2:=by
 unfold AX at h;obtain⟨u,hu,h⟩:=List.mem_flatMap.mp h;obtain⟨w,hw,rfl⟩:=zP.mp h;have h1:=yf.mp hw;have h2:=yf.mp h1.1;have h3:=yf.mp hu;simp at h1;exact⟨h3.1,h2.1,h1.2.1⟩
noncomputable def BR (B ps:List (Int×Int)):List (Int×Int):=ps.foldl JZ B
structure C3 (m:Nat)(B:List (Int×Int)):Prop where
 nd:B.Nodup
 no:iQ B
 sA:∀p∈B,(0<=p.1/\p.1<m)/\(0<=p.2/\p.2<m)
theorem C3.add {m:Nat}{B:List (Int×Int)}(h:C3 m B){p:Int×Int}(hp:p.1≠p.2)(h1:0<=p.1/\p.1<m)(h2:0<=p.2/\p.2<m):C3 m (JZ B p):=by
 refine⟨RX h.nd,λ x hx=>?_,λ q hq=>?_⟩
 ·rcases Qs.mp hx with z|z
  ·exact h.no x z
  ·subst z;exact hp rfl
 ·rcases Qs.mp hq with z|z
  ·exact h.sA q z
  ·subst z;exact⟨h1,h2⟩
theorem C3.BR {m:Nat}{B:List (Int×Int)}(h:C3 m B):∀ {ps:List (Int×Int)},(∀p∈ps,p.1≠p.2/\(0<=p.1/\p.1<m)/\(0<=p.2/\p.2<m))->C3 m (L2.BR B ps):=by
 intro ps;induction ps generalizing B with
 |nil=>intro _;exact h
 |cons p r ih =>
  intro hp;have:=hp p zd;exact ih (h.add this.1 this.2.1 this.2.2) λ q hq=>hp q (ze _ hq)
theorem C3.len {m:Nat}{B:List (Int×Int)}(h:C3 m B)(hm:m<=20):B.length<1000:=by
 have key:=K0 (l:=B) (u:=(zL m).flatMap λ i:Nat=>(zL m).map λ j:Nat=>((i:Int),(j:Int))) h.nd λ p hp=>by
  obtain⟨h1,h2⟩:=h.sA p hp;refine List.mem_flatMap.mpr ⟨p.1.toNat,yM.mpr (by omega),zP.mpr ⟨p.2.toNat,yM.mpr (by omega),?_⟩⟩;rw[Int.toNat_of_nonneg h1.1,Int.toNat_of_nonneg h2.1]
 have e:((zL m).flatMap λ i:Nat=>(zL m).map λ j:Nat=>((i:Int),(j:Int))).length=m*m:=by
  rw[List.length_flatMap];simp[List.map_const',List.sum_replicate_nat]
 rw[e] at key;have:m*m<=20*20:=Nat.mul_le_mul hm hm;omega
theorem EC (a b c d:Int):HT.lexLt [a,b] [c,d]=decide (a<c\/(a=c/\b<d)):=by
 rw[HT.FC,HT.FC,HT.Ex,yV];by_cases h1:a=c
 ·subst h1;by_cases h2:b=d
  ·subst h2;simp
  ·simp[h2]
 ·simp[h1]
theorem UY {α β:Type}(f:α->β):∀bs:List (α×List Int),AR (bs.map λ b=>(f b.1,b.2))=(AR bs).map λ b=>(f b.1,b.2):=by
 intro bs;unfold AR
 suffices z:∀o:Option (α×List Int),(bs.map λ b=>(f b.1,b.2)).foldl Bu (o.map λ b=>(f b.1,b.2))=(bs.foldl Bu o).map λ b=>(f b.1,b.2) from z none
 induction bs with
 |nil=>intro o;rfl
 |cons b r ih =>
  intro o;rw[zg,zX,zX,<-ih];congr 1;cases o with
  |none=>rfl
  |some c =>
   unfold Bu;dsimp only [yq];split<;>rfl
theorem Xc {α:Type}:∀(bs:List (α×List Int)) (o:Option (α×List Int)) (b:α×List Int),bs.foldl Bu o=some b->b∈bs\/o=some b:=by
 intro bs;induction bs with
 |nil=>intro o b h;exact .inr h
 |cons x r ih =>
  intro o b h;rw[zX] at h;rcases ih _ _ h with q|q
  ·exact .inl (ze _ q)
  ·cases o with
   |none=>cases q;exact .inl zd
   |some c =>
    unfold Bu at q;dsimp only at q;split at q
    ·cases q;exact .inl zd
    ·exact .inr q
theorem UZ {α:Type}{bs:List (α×List Int)}(h2:∀b∈bs,∃x y:Int,b.2=[x,y]){b:α×List Int}(hb:AR bs=some b):∀c∈bs,HT.lexLt c.2 b.2=false:=by
 unfold AR at hb
 suffices z:∀(bs:List (α×List Int)) (o:Option (α×List Int)),(∀b∈bs,∃x y:Int,b.2=[x,y])->(∀b,o=some b->∃x y:Int,b.2=[x,y])->∀b,bs.foldl Bu o=some b->(∀c∈bs,HT.lexLt c.2 b.2=false)/\(∀c,o=some c->HT.lexLt c.2 b.2=false) from (z bs none h2 (λ b h=>by cases h) b hb).1
 intro bs;induction bs with
 |nil =>
  intro o _ ho b h;refine⟨λ c hc=>(by cases hc),λ c hc=>?_⟩;have e:o=some b:=h;rw[hc] at e;cases e;obtain⟨x,y,e⟩:=ho _ hc;rw[e,EC];simp
 |cons d r ih =>
  intro o h2 ho b h;rw[zX] at h;have hd:=h2 d zd;have aT:∀b,Bu o d=some b->∃x y:Int,b.2=[x,y]:=λ b hb=>by
   unfold Bu at hb;cases o with
   |none=>cases hb;exact hd
   |some c =>
    dsimp only at hb;split at hb
    ·cases hb;exact hd
    ·cases hb;exact ho _ rfl
  obtain⟨i1,i2⟩:=ih (Bu o d) (λ c hc=>h2 c (ze _ hc)) aT b h;have ui:=Im o d;obtain⟨k,hk⟩:∃k,Bu o d=some k:=by
   cases q:Bu o d with
   |none=>exact (ui q).elim
   |some k=>exact⟨k,rfl⟩
  have uj:=i2 k hk;obtain⟨kx,ky,ek⟩:=aT k hk;have fb:∃x y:Int,b.2=[x,y]:=by
   have:=Xc r (Bu o d) b h;rcases this with z|z
   ·exact h2 b (ze _ z)
   ·exact aT b z
  obtain⟨bx,vI,eb⟩:=fb;obtain⟨dx,dy,ed⟩:=hd;rw[ek,eb,EC,decide_eq_false_iff_not] at uj;have ci:HT.lexLt d.2 b.2=false/\∀c,o=some c->HT.lexLt c.2 b.2=false:=by
   unfold Bu at hk;cases o with
   |none =>
    cases hk;rw[ed] at ek;injection ek with e1 e2
    injection e2 with e2 _
    refine⟨?_,λ c hc=>by cases hc⟩;rw[ed,eb,EC,decide_eq_false_iff_not];omega
   |some c =>
    obtain⟨cx,cy,ec⟩:=ho c rfl;dsimp only at hk;rw[ed,ec,EC] at hk;by_cases hl:dx<cx\/(dx=cx/\dy<cy)
    ·rw[if_pos (decide_eq_true hl)] at hk;cases hk;rw[ed] at ek;injection ek with e1 e2
     injection e2 with e2 _
     refine⟨?_,λ c' ge=>?_⟩
     ·rw[ed,eb,EC,decide_eq_false_iff_not];omega
     ·cases ge;rw[ec,eb,EC,decide_eq_false_iff_not];omega
    ·rw[if_neg (by simpa using hl)] at hk;cases hk;rw[ec] at ek;injection ek with e1 e2
     injection e2 with e2 _
     refine⟨?_,λ c' ge=>?_⟩
     ·rw[ed,eb,EC,decide_eq_false_iff_not];omega
     ·cases ge;rw[ec,eb,EC,decide_eq_false_iff_not];omega
  refine⟨λ c hc=>?_,ci.2⟩;rcases zl.mp hc with z|z
  ·rw[z];exact ci.1
  ·exact i1 c z
noncomputable def Bj (B:List (Int×Int))(L:List Int):Int:=match AR (L.map λ p=>(p,[((AX B L p).length:Int),p])) with
 |some k=>k.1
 |none=>0
theorem O3 {B:List (Int×Int)}{L:List Int}(h:L≠[]):Bj B L∈L/\∀p∈L,¬ (((AX B L p).length:Int)<(AX B L (Bj B L)).length\/(((AX B L p).length:Int)=(AX B L (Bj B L)).length/\p<Bj B L)):=by
 unfold Bj;cases q:AR (L.map λ p=>(p,[((AX B L p).length:Int),p])) with
 |none=>exact (LY (λ z=>h (List.map_eq_nil_iff.mp z)) q).elim
 |some k =>
  obtain⟨p,hp,rfl⟩:=zP.mp (JD _ _ q);refine⟨hp,λ p' ii=>?_⟩;have:=UZ (λ b hb=>by obtain⟨x,_,rfl⟩:=zP.mp hb;exact⟨_,_,rfl⟩) q _ (zP.mpr ⟨p',ii,rfl⟩);rw[EC,decide_eq_false_iff_not] at this;exact this
noncomputable def Ra:Nat->List (Int×Int)->List Int->List Int
 |0,_,_=>[]
 |n+1,B,L=>if L=[] then [] else Bj B L::Ra n (BR B (AX B L (Bj B L))) (L.erase (Bj B L))
noncomputable def Br (rs:List Road):List (Int×Int):=rs.foldl (λ B r=>match r.l with | none=>B | some _=>JZ B (r.a,r.b)) []
theorem Qt {m:Nat}:∀ {rs:List Road},(∀r∈rs,Io m r/\r.a≠r.b)->C3 m (Br rs):=by
 intro rs
 suffices z:∀(rs:List Road) (B:List (Int×Int)),C3 m B->(∀r∈rs,Io m r/\r.a≠r.b)->C3 m (rs.foldl (λ B r=>match r.l with|none=>B|some _=>JZ B (r.a,r.b)) B) from λ h=>z rs [] ⟨yC,λ x h=>(by cases h),λ p h=>(by cases h)⟩ h
 intro rs;induction rs with
 |nil=>intro B h _;exact h
 |cons r t ih =>
  intro B h hr;rw[zX];refine ih _ ?_ λ r' h'=>hr r' (ze _ h');have:=hr r zd;cases r.l with
  |none=>exact h
  |some l=>exact h.add this.2 ⟨this.1.a0,this.1.a1⟩ ⟨this.1.b0,this.1.b1⟩
theorem CS {f:Int->Int->M D}{a b:Int}:B3 f (.int a) (.int b)=f a b:=rfl
theorem Fp {bs:List Bool}:WB [.lst (bs.map D.bl)]=.ok (.bl (bs.all id)):=by unfold WB;dsimp only;rw[LG]
theorem Fq {bs:List Bool}:mD [.lst (bs.map D.bl)]=.ok (.bl (bs.any id)):=by unfold mD;dsimp only;rw[LG]
noncomputable def Jy (d:D)(n:Int):Bool:=match d with
 | .int j=>decide (0<=j)&&decide (j<n)
 |_=>false
noncomputable def Et (m:Nat):D->Bool
 | .lst xs=>(match BU xs with|some ns=>decide (Gh ns=AK m)|none=>false)
 |_=>false
def mW (d:D):Prop:=SG d=false/\∀xs,d=.lst xs->xs.length<=1000/\∀e∈xs,SG e=false
theorem Qu (m:Nat):(AK m).Pairwise (·<=·):=by
 unfold AK;rw[List.pairwise_map];exact (List.pairwise_lt_range (n:=m)).imp λ h=>by omega
theorem Mc (m:Nat):(AK m).Nodup:=by
 unfold AK List.Nodup;rw[List.pairwise_map];exact (List.pairwise_lt_range (n:=m)).imp λ h=>by omega
theorem O4 {m:Nat}{L:List Int}:Gh L=AK m↔L.Perm (AK m):=
 ⟨λ h=>by rw[<-h];exact (E7 L).symm,λ h=>GG ((E7 L).trans h) (FR L) (Qu m)⟩
theorem Md {m:Nat}{L:List Int}:Et m (.lst (L.map D.int))=decide (Gh L=AK m):=by unfold Et;dsimp only;rw[CK]
theorem RY {m:Nat}{L:List Int}(h:L.Perm (AK m)):Et m (.lst (L.map D.int))=true:=by rw[Md];exact decide_eq_true (O4.mpr h)
theorem V0 {m:Nat}{xs:List D}(h:Et m (.lst xs)=true):∃L:List Int,xs=L.map D.int/\L.Perm (AK m):=by
 unfold Et at h;dsimp only at h;split at h
 ·rename_i ns e;exact⟨ns,CL e,O4.mp (of_decide_eq_true h)⟩
 ·cases h
theorem Jm {m:Nat}{L:List Int}(h:L.Perm (AK m)):L.length=m:=by rw[h.length_eq,Fo]
theorem BV {m:Nat}{L:List Int}(h:L.Perm (AK m)){p:Int}:p∈L↔0<=p/\p<m:=by rw[h.mem_iff,Jl]
theorem Me {m:Nat}{L:List Int}(h:L.Perm (AK m)):L.Nodup:=h.nodup_iff.mpr (Mc m)
theorem Qv {m:Nat}{xs:List D}(h:Et m (.lst xs)=true):xs.length=m/\(xs.map λ e=>Jy e m).all id=true:=by
 obtain⟨L,rfl,hp⟩:=V0 h;refine⟨by rw[zf,Jm hp],?_⟩;rw[List.all_eq_true];intro b hb;rw[yr] at hb;obtain⟨j,hj,rfl⟩:=zP.mp hb;have:=(BV hp).mp hj;show (decide (0<=j)&&decide (j<m))=true;simp only[zW,decide_eq_true_eq];exact this
theorem Td {m:Nat}:∀ {xs:List D},(xs.map λ e=>Jy e m).all id=true->∃L:List Int,xs=L.map D.int
 |[],_=>⟨[],rfl⟩
 |d::r,h=>by
  rw[zg,List.all_cons,zW] at h;obtain⟨L,rfl⟩:=Td h.2;cases d with
  |int j=>exact⟨j::L,rfl⟩
  |_=>exact absurd h.1 (by simp[Jy])
theorem O5:∀ {a b:List Int},C0 (a.map D.int) (b.map D.int)=decide (a=b)
 |[],[]=>by simp[C0]
 |[],y::t=>by simp[C0]
 |x::r,[]=>by simp[C0]
 |x::r,y::t=>by
  rw[zg,zg,C0,O5,Ao];by_cases h:x=y<;>by_cases k:r=t<;>simp[h,k]
theorem Xd {a b:List Int}:Ao (.lst (a.map D.int)) (.lst (b.map D.int))=decide (a=b):=by rw[Ao];exact O5
theorem Qw {a b:List Int}:Wf 16 (.lst (a.map D.int)) (.lst (b.map D.int))=.ok (.bl (decide (a=b))):=by rw[OF (SJ (n:=15) a) (SJ (n:=15) b),Xd]
theorem V1 {i:Nat}{L:List Int}(h:L.Perm (AK i))(n:Nat):(L.take n++(i:Int)::L.drop n).Perm (AK (i+1)):=by
 have e:AK (i+1)=AK i++[(i:Int)]:=by unfold AK;rw[List.range_succ,yg];rfl
 rw[e];refine List.perm_middle.trans ?_;rw[List.take_append_drop];exact ((h.cons _).trans (List.perm_append_singleton _ _).symm)
theorem Zw {m:Nat}{xs:List D}(h:xs.length≠m):Et m (.lst xs)=false:=by
 cases q:Et m (.lst xs) with
 |false=>rfl
 |true=>exact (h (Qv q).1).elim
theorem Te {i:Nat}{ρ:Aa}{ds:List D}{d:D}{p:Int}(hi:ρ[i]?=some (some (.own ds)))(h0:0<=p)(h1:p<ds.length):YV i ρ (.ok (.int p)) d=.ok (.next (ρ.set i (some (.own (ds.set p.toNat d))))):=by
 unfold YV;rw[hi];dsimp only;rw[M.A6];unfold gJ;dsimp only;rw[Zt ⟨h0,h1⟩]
theorem V2 {ρ:Aa}:WI 0 (none::ρ)=none::ρ:=rfl
theorem Xe:∃T Q:Int,PX (.int 10) (.int 60)=.ok (.int T)/\PX (.int 982451653) (.int 7)=.ok (.int Q)/\1000000<T/\T.natAbs<2^200/\0<Q/\Q.natAbs<2^250:=⟨10^60,982451653^7,rfl,rfl,by decide,by decide,by decide,by decide⟩
noncomputable def Pk:Int:=zm Xe
theorem dC:∃Q:Int,PX (.int 10) (.int 60)=.ok (.int Pk)/\PX (.int 982451653) (.int 7)=.ok (.int Q)/\1000000<Pk/\Pk.natAbs<2^200/\0<Q/\Q.natAbs<2^250:=zb Xe
theorem dD:PX (.int 10) (.int 60)=.ok (.int Pk):=(zb dC).1
theorem iR:1000000<Pk:=(zb dC).2.2.1
def cl:Nat->D->Prop
 |0,d=>SG d=false
 |n+1,d=>SG d=false/\∀ds,(d=.tup ds\/d=.lst ds)->∀e∈ds,cl n e
theorem cl.x {n:Nat}{d:D}(h:cl n d):SG d=false:=by cases n with | zero=>exact h | succ n=>exact h.1
theorem Xf {n:Nat}{ds:List D}(h:∀e∈ds,cl n e):cl (n+1) (.tup ds):=⟨rfl,λ es e x hx=>by rcases e with e | e<;>cases e;exact h x hx⟩
theorem iS {n:Nat}{ds:List D}(h:∀e∈ds,cl n e):cl (n+1) (.lst ds):=⟨rfl,λ es e x hx=>by rcases e with e | e<;>cases e;exact h x hx⟩
theorem Tf {n:Nat}{d:D}(h:SG d=false)(h2:∀ds,d≠.tup ds)(h3:∀ds,d≠.lst ds):cl n d:=by
 cases n with
 |zero=>exact h
 |succ n=>exact⟨h,λ ds e=>by rcases e with e|e;exact (h2 ds e).elim;exact (h3 ds e).elim⟩
theorem Mf {n:Nat}{i:Int}:cl n (.int i):=Tf rfl (λ _ h=>by cases h) (λ _ h=>by cases h)
theorem iT {n:Nat}:cl n .Az:=Tf rfl (λ _ h=>by cases h) (λ _ h=>by cases h)
theorem iU {n:Nat}{l:Option Int}:cl n (E8 l):=by cases l;exact iT;exact Mf
theorem Xg {n:Nat}:∀e∈([]:List D),cl n e:=λ e h=>by cases h
theorem HF {n:Nat}{d:D}{ds:List D}(h:cl n d)(t:∀e∈ds,cl n e):∀e∈d::ds,cl n e:=λ e he=>by
 rcases zl.mp he with rfl|he
 ·exact h
 ·exact t e he
theorem mX {n:Nat}{r:Road}:cl (n+1) (CZ r):=Xf (HF Mf (HF Mf (HF iU (HF Mf Xg))))
theorem iV {n:Nat}{rs:List Road}:∀e∈rs.map CZ,cl (n+1) e:=λ e he=>by
 obtain⟨r,_,rfl⟩:=zP.mp he;exact mX
noncomputable def ED (m:Int):D->Bool
 | .tup [a,b,l,w]=>Jy a m&&(Jy b m&&(!Ao a b&&((BD l||Jy l Pk)&&Jy w Pk)))
 |_=>false
noncomputable def Df:D->Bool
 | .tup [.int m,.lst rs]=>(Jy (.int m) 17 && !decide (m=0))&&(decide (rs.length<=60)&&(rs.map (ED m)).all id)
 |_=>false
theorem V3 {n:D}:Df (.tup [n])=false:=by cases n<;>rfl
theorem RZ {n r z:D}{t:List D}:Df (.tup (n::r::z::t))=false:=by cases n<;>cases r<;>rfl
structure KO (m:Nat)(r:Road):Prop where
 a0:0<=r.a
 a1:r.a<m
 b0:0<=r.b
 b1:r.b<m
 ab:r.a≠r.b
 l0:∀l,r.l=some l->0<=l/\l<Pk
 w0:0<=r.w
 w1:r.w<Pk
theorem Jn {i n:Int}(h0:0<=i)(h1:i<n):Jy (.int i) n=true:=by unfold Jy;simp[h0,h1]
theorem V4 {m:Nat}{r:Road}(h:KO m r):ED m (CZ r)=true:=by
 unfold CZ ED;dsimp only;rw[Jn h.a0 h.a1,Jn h.b0 h.b1,Jn h.w0 h.w1];have:Ao (.int r.a) (.int r.b)=false:=by rw[Ao];simp[h.ab]
 rw[this];cases hl:r.l with
 |none=>rfl
 |some l=>have:=h.l0 l hl;rw[show E8 (some l)=.int l from rfl,Jn this.1 this.2];rfl
theorem Xh {m:Nat}{rs:List Road}(h1:1<=m)(h2:m<=16)(hl:rs.length<=60)(h:∀r∈rs,KO m r):Df (Ad m rs)=true:=by
 unfold Ad Df;dsimp only;rw[Jn (by omega) (by omega),zf,decide_eq_true hl,decide_eq_false (by omega)];have:(((rs.map CZ).map (ED m)).all id)=true:=by
  rw[List.all_eq_true];intro b hb;rw[yr] at hb;obtain⟨r,hr,rfl⟩:=zP.mp hb;exact V4 (h r hr)
 rw[this];rfl
theorem Zx {a b:OT}:er (.tup [a,b])=.tup [er a,er b]:=by simp[er,Rz]
section
variable {α β:Type}{a b c d e f g:α}{x y:β}
theorem V5:(if [a,b,c,d,e].length<=1000 then x else y)=x:=rfl
theorem V6:(if [a,b,c,d,e,f].length<=1000 then x else y)=x:=rfl
theorem V7:(if [a,b,c,d,e,f,g].length<=1000 then x else y)=x:=rfl
theorem HG {t:Bool}:er (.Bh t [] [])=.Bh t [] []:=by simp[er,Rz]
end
structure uC (m:Nat)(rs:List Road)(rk:Int->Nat)(Af:Int->Int->Co):Prop where
 snd:∀x y c,Af x y=some c->Wk rs x y c/\x≠y/\(0<=x/\x<m)/\0<=y/\y<m
 road:∀r∈rs,D3 (Af r.a r.b) (BS r)
 vJ:∀p x y,x≠y->rk p<rk x->rk p<rk y->D3 (Af x y) (AJ (Af x p) (Af p y))
 inj:∀x y:Int,0<=x->x<m->0<=y->y<m->rk x=rk y->x=y
 nn:∀x y c,Wk rs x y c->0<=c.1/\0<=c.2
def sC (p q:Int×Int):Prop:=p.1<q.1\/(p.1=q.1/\p.2<=q.2)
theorem iW {a:Co}{q:Int×Int}(h:D3 a (some q)):∃p,a=some p/\sC p q:=by
 cases a with
 |none=>exact h.elim
 |some p=>exact⟨p,rfl,h⟩
section
variable {κ β:Type} [DecidableEq κ]
noncomputable def Bm:List (κ×β)->κ->Option β
 |[],_=>none
 |(k,v)::r,x=>if k=x then some v else Bm r x
noncomputable def FV (A:List (κ×β))(k:κ)(v:β):List (κ×β):=if (Bm A k).isSome=true then A.map λ kv=>if kv.1=k then (kv.1,v) else kv else A++[(k,v)]
theorem OR (k j:κ)(v:β):∀A:List (κ×β),Bm (A.map λ kv=>if kv.1=k then (kv.1,v) else kv) j=if j=k then (Bm A j).map λ _=>v else Bm A j
 |[]=>by simp[Bm]
 |(k',v')::r=>by
  rw[zg];by_cases h1:k'=k
  ·rw[if_pos h1];subst h1;simp only[Bm];by_cases h2:k'=j
   ·subst h2;simp
   ·rw[if_neg h2,if_neg h2,OR k' j v r]
  ·rw[if_neg h1];simp only[Bm];by_cases h2:k'=j
   ·subst h2;rw[if_pos rfl,if_pos rfl,if_neg h1]
   ·rw[if_neg h2,if_neg h2,OR k j v r]
theorem Qx (k j:κ)(v:β):∀A:List (κ×β),Bm A k=none->Bm (A++[(k,v)]) j=if j=k then some v else Bm A j
 |[],_=>by
  simp only[List.nil_append,Bm];by_cases h:k=j
  ·subst h;simp
  ·rw[if_neg h,if_neg (yh h)]
 |(k',v')::r,h=>by
  simp only[Bm] at h;by_cases h1:k'=k
  ·rw[if_pos h1] at h;cases h
  ·rw[if_neg h1] at h;rw[xn];simp only[Bm];rw[Qx k j v r h];by_cases h2:k'=j
   ·subst h2;rw[if_pos rfl,if_pos rfl,if_neg h1]
   ·rw[if_neg h2,if_neg h2]
theorem Lb (A:List (κ×β))(k j:κ)(v:β):Bm (FV A k v) j=if j=k then some v else Bm A j:=by
 unfold FV;by_cases h:(Bm A k).isSome=true
 ·rw[if_pos h,OR];by_cases hj:j=k
  ·subst hj;rw[if_pos rfl,if_pos rfl];obtain⟨x,hx⟩:=yk.mp h;rw[hx];rfl
  ·rw[if_neg hj,if_neg hj]
 ·rw[if_neg h];exact Qx k j v A (by cases e:Bm A k with|none=>rfl|some x=>rw[e] at h;exact (h rfl).elim)
theorem HH:∀ {A:List (κ×β)}{k:κ},(Bm A k).isSome=true↔k∈A.map zZ
 |[],k=>by simp[Bm]
 |(k',v')::r,k=>by
  simp only[Bm,zg,zl];by_cases h:k'=k
  ·rw[if_pos h];simp[h]
  ·rw[if_neg h,HH];simp[yh h]
theorem Qy (A:List (κ×β))(k:κ)(v:β):(FV A k v).map zZ=if (Bm A k).isSome=true then A.map zZ else A.map zZ++[k]:=by
 unfold FV;split
 ·rw[yr];refine List.map_congr_left λ kv _=>?_;dsimp only [Function.comp];split<;>rfl
 ·rw[yg];rfl
theorem O6 {A:List (κ×β)}{k:κ}{v:β}(h:(A.map zZ).Nodup):((FV A k v).map zZ).Nodup:=by
 rw[Qy];split
 ·exact h
 ·rename_i hn;rw[HH] at hn;rw[zN];exact⟨h,by simp,λ x hx y hy=>by rw[zw.mp hy];exact λ e=>hn (e▸hx)⟩
theorem Qz {A:List (κ×β)}{k x:κ}{v:β}(h:x∈(FV A k v).map zZ):x∈A.map zZ\/x=k:=by
 rw[Qy] at h;split at h
 ·exact .inl h
 ·rcases zK.mp h with h|h
  ·exact .inl h
  ·exact .inr (zw.mp h)
variable {kf:κ->D}{vf:β->D}(he:∀a b,Ao (kf a) (kf b)=decide (a=b))
include he
theorem QA (A:List (κ×β))(k:κ):KN (A.map λ kv=>kf kv.1) (kf k)=(Bm A k).isSome:=by
 induction A with
 |nil=>rfl
 |cons kv r ih =>
  obtain⟨k',v'⟩:=kv;unfold KN at ih ⊢;rw[zg,xg,ih,he];simp only[Bm];by_cases h:k'=k
  ·rw[if_pos h,decide_eq_true h];rfl
  ·rw[if_neg h,decide_eq_false h];rfl
theorem Xi (A:List (κ×β))(k:κ):Jb (A.map λ kv=>kf kv.1) (A.map λ kv=>vf kv.2) (kf k)=(Bm A k).map vf:=by
 induction A with
 |nil=>rfl
 |cons kv r ih =>
  obtain⟨k',v'⟩:=kv;rw[zg,zg,Jb,he,ih];simp only[Bm];by_cases h:k'=k
  ·rw[decide_eq_true h,if_pos rfl,if_pos h];rfl
  ·rw[decide_eq_false h,if_neg zM,if_neg h]
theorem Xj (k:κ)(v:β)(A:List (κ×β)):Il (A.map λ kv=>kf kv.1) (A.map λ kv=>vf kv.2) (kf k) (vf v)=(A.map λ kv=>if kv.1=k then (kv.1,v) else kv).map λ kv=>vf kv.2:=by
 induction A with
 |nil=>rfl
 |cons kv r ih =>
  obtain⟨k',v'⟩:=kv;rw[zg,zg,Il,he,ih,zg,zg];by_cases h:k'=k
  ·rw[decide_eq_true h,if_pos rfl,if_pos h]
  ·rw[decide_eq_false h,if_neg zM,if_neg h]
theorem Xk (A:List (κ×β))(k:κ)(v:β):putD (A.map λ kv=>kf kv.1) (A.map λ kv=>vf kv.2) (kf k) (vf v)=((FV A k v).map (λ kv=>kf kv.1),(FV A k v).map λ kv=>vf kv.2):=by
 unfold putD FV;rw[QA he];by_cases h:(Bm A k).isSome=true
 ·rw[if_pos h,if_pos h,Xj he];refine Prod.ext ?_ rfl;dsimp only;rw[yr];refine List.map_congr_left λ kv _=>?_;dsimp only [Function.comp];split<;>rfl
 ·rw[if_neg h,if_neg h,yg,yg];rfl
end
noncomputable abbrev LA:=List ((Int×Int)×((Int×Int)×Option Int))
noncomputable def Rb (v:(Int×Int)×Option Int):D:=.tup [cst (some v.1),E8 v.2]
noncomputable def Ip (A:LA):D:=.Bh true (A.map λ kv=>pD kv.1) (A.map λ kv=>Rb kv.2)
noncomputable def IL (A:LA):OT:=.Bh true (A.map λ kv=>pD kv.1) ((A.map λ kv=>Rb kv.2).map .sh)
noncomputable def A9 (A:LA)(p:Int×Int):Co:=(Bm A p).map zZ
noncomputable def layA (A:LA)(p:Int×Int)(c:Co)(mid:Option Int):LA:=match c with
 |none=>A
 |some c=>(match Bm A p with
  |none=>FV A p (c,mid)
  |some z=>if c.1<z.1.1\/(c.1=z.1.1/\c.2<z.1.2) then FV A p (c,mid) else A)
theorem GH (A:LA)(p q:Int×Int)(c:Co)(mid:Option Int):A9 (layA A p c mid) q=if q=p then HC (A9 A p) c else A9 A q:=by
 unfold layA A9;cases c with
 |none =>
  by_cases h:q=p
  ·subst h;rw[if_pos rfl];cases Bm A q<;>rfl
  ·rw[if_neg h]
 |some c =>
  cases e:Bm A p with
  |none =>
   dsimp only;rw[Lb];by_cases h:q=p
   ·rw[if_pos h,if_pos h];rfl
   ·rw[if_neg h,if_neg h]
  |some z =>
   dsimp only;by_cases hc:c.1<z.1.1\/(c.1=z.1.1/\c.2<z.1.2)
   ·rw[if_pos hc,Lb];by_cases h:q=p
    ·rw[if_pos h,if_pos h];simp only[yq,HC,iN];rw[if_neg (by omega)]
    ·rw[if_neg h,if_neg h]
   ·rw[if_neg hc];by_cases h:q=p
    ·subst h;rw[if_pos rfl,e];simp only[yq,HC,iN];rw[if_pos (by omega)]
    ·rw[if_neg h]
theorem S0 (A:LA)(p q:Int×Int)(c:Co)(mid:Option Int):D3 (A9 (layA A p c mid) q) (A9 A q):=by
 rw[GH];split
 ·rename_i h;subst h;exact HD _ _
 ·exact Cp _
theorem Xl {A:LA}{p x:Int×Int}{c:Co}{mid:Option Int}(h:x∈(layA A p c mid).map zZ):x∈A.map zZ\/x=p:=by
 unfold layA at h;split at h
 ·exact .inl h
 ·split at h
  ·exact Qz h
  ·split at h
   ·exact Qz h
   ·exact .inl h
theorem V8 {A:LA}{p:Int×Int}{c:Co}{mid:Option Int}(h:(A.map zZ).Nodup):((layA A p c mid).map zZ).Nodup:=by
 unfold layA;split
 ·exact h
 ·split
  ·exact O6 h
  ·split
   ·exact O6 h
   ·exact h
noncomputable def Lc (p u:Int)(A:LA)(w:Int):LA:=if u=w then A else layA A (u,w) (AJ (A9 A (u,p)) (A9 A (p,w))) (some p)
noncomputable def V9 (p:Int)(H:List Int)(A:LA)(u:Int):LA:=H.foldl (Lc p u) A
noncomputable def Y3 (A:LA)(p:Int)(H:List Int):LA:=H.foldl (V9 p H) A
noncomputable def MJ:LA->List Int->LA
 |A,[]=>A
 |A,p::r=>MJ (Y3 A p r) r
noncomputable def lay0 (rs:List Road):LA:=rs.foldl (λ A r=>layA A (r.a,r.b) (BS r) none) []
noncomputable def Ba (rs:List Road)(L:List Int):LA:=MJ (lay0 rs) L
structure En (m:Nat)(A:LA):Prop where
 nd:(A.map zZ).Nodup
 rg:∀p∈A.map zZ,p.1≠p.2/\(0<=p.1/\p.1<m)/\0<=p.2/\p.2<m
theorem En.lay {m:Nat}{A:LA}(h:En m A){p:Int×Int}{c:Co}{mid:Option Int}(hp:p.1≠p.2/\(0<=p.1/\p.1<m)/\0<=p.2/\p.2<m):En m (layA A p c mid):=
 ⟨V8 h.nd,λ q hq=>(Xl hq).elim (h.rg q) λ e=>e▸hp⟩
theorem En.len {m:Nat}{A:LA}(h:En m A)(hm:m<=20):A.length<1000:=by
 have:=C3.len (B:=A.map zZ) (m:=m) ⟨h.nd,λ x hx=>(h.rg _ hx).1 rfl,λ q hq=>⟨(h.rg q hq).2.1,(h.rg q hq).2.2⟩⟩ hm;rwa[zf] at this
theorem Fs {α β:Type}{f:β->α->β}(P:List α->β->Prop):∀ {L pre:List α}{b:β},P pre b->(∀a∈L,∀pre b,P pre b->P (pre++[a]) (f b a))->P (pre++L) (L.foldl f b)
 |[],pre,b,h,_=>by rw[yb];exact h
 |a::L,pre,b,h,hs=>by
  have:=Fs P (L:=L) (hs a zd pre b h) λ x hx=>hs x (ze _ hx);rw[yD] at this;exact this
def Zy (rs:List Road)(A:LA):Prop:=∀x y c,A9 A (x,y)=some c->Wk rs x y c
theorem Zy.lay {rs:List Road}{A:LA}(h:Zy rs A){x y:Int}{c:Co}{mid:Option Int}(hc:∀p,c=some p->Wk rs x y p):Zy rs (layA A (x,y) c mid):=λ u w d hd=>by
 rw[GH] at hd;split at hd
 ·rename_i e;cases e;rcases DJ (A9 A (x,y)) c with ⟨e,_⟩|⟨e,_⟩
  ·rw[e] at hd;exact h _ _ _ hd
  ·rw[e] at hd;exact hc d hd
 ·exact h _ _ _ hd
structure Over (m:Nat)(rs:List Road)(p:Int)(H:List Int)(A0 A:LA):Prop where
 ok:En m A
 sd:Zy rs A
 le:∀q,D3 (A9 A q) (A9 A0 q)
 sm:∀x y,(x∉H\/y∉H)->A9 A (x,y)=A9 A0 (x,y)
theorem Va {m:Nat}{rs:List Road}{p:Int}{H:List Int}{A0 A:LA}(hp:p∉H)(hH:∀x∈H,0<=x/\x<m)(h:Over m rs p H A0 A){u w:Int}(hu:u∈H)(hw:w∈H):Over m rs p H A0 (Lc p u A w)/\(u≠w->D3 (A9 (Lc p u A w) (u,w)) (AJ (A9 A0 (u,p)) (A9 A0 (p,w)))):=by
 unfold Lc;by_cases e:u=w
 ·rw[if_pos e];exact⟨h,λ z=>(z e).elim⟩
 ·rw[if_neg e];have e1:=h.sm u p (.inr hp);have e2:=h.sm p w (.inl hp);refine⟨⟨h.ok.lay ⟨e,hH u hu,hH w hw⟩,h.sd.lay λ c hc=>?_,λ q=>AQ (S0 _ _ _ _ _) (h.le q),λ x y bJ=>?_⟩,λ _=>?_⟩
  ·obtain⟨a,b,ha,hb,rfl⟩:=HE hc;exact (h.sd _ _ _ ha).trans (h.sd _ _ _ hb)
  ·rw[GH,if_neg (λ z=>by cases z;exact bJ.elim (λ q=>q hu) λ q=>q hw)];exact h.sm x y bJ
  ·rw[GH,if_pos rfl,e1,e2];exact Jj _ _
theorem dE {p u:Int}{A:LA}{w:Int}(q:Int×Int):D3 (A9 (Lc p u A w) q) (A9 A q):=by
 unfold Lc;split
 ·exact Cp _
 ·exact S0 _ _ _ _ _
theorem dG {p u:Int}(q:Int×Int):∀(H:List Int) (A:LA),D3 (A9 (H.foldl (Lc p u) A) q) (A9 A q)
 |[],A=>Cp _
 |w::H,A=>AQ (dG q H (Lc p u A w)) (dE q)
theorem iX {m:Nat}{rs:List Road}{p:Int}{H:List Int}{A0 A:LA}(hp:p∉H)(hH:∀x∈H,0<=x/\x<m)(h:Over m rs p H A0 A){u:Int}(hu:u∈H):Over m rs p H A0 (V9 p H A u)/\∀w∈H,u≠w->D3 (A9 (V9 p H A u) (u,w)) (AJ (A9 A0 (u,p)) (A9 A0 (p,w))):=by
 unfold V9;have:=Fs (L:=H) (pre:=[]) (f:=Lc p u) (b:=A) (λ W A=>Over m rs p H A0 A/\∀w∈W,u≠w->D3 (A9 A (u,w)) (AJ (A9 A0 (u,p)) (A9 A0 (p,w)))) ⟨h,λ w hw=>by cases hw⟩ λ w hw W B hB=>by
  obtain⟨b1,b2⟩:=hB;obtain⟨c1,c2⟩:=Va hp hH b1 hu hw;refine⟨c1,λ x hx ae=>?_⟩;rcases zK.mp hx with hx|hx
  ·exact AQ (dE _) (b2 x hx ae)
  ·rw[zw.mp hx] at ae ⊢;exact c2 ae
 exact this
theorem Xm {m:Nat}{rs:List Road}{p:Int}{H:List Int}{A:LA}(hp:p∉H)(hH:∀x∈H,0<=x/\x<m)(h1:En m A)(h2:Zy rs A):Over m rs p H A (Y3 A p H)/\∀u∈H,∀w∈H,u≠w->D3 (A9 (Y3 A p H) (u,w)) (AJ (A9 A (u,p)) (A9 A (p,w))):=by
 unfold Y3;have:=Fs (L:=H) (pre:=[]) (f:=V9 p H) (b:=A) (λ U B=>Over m rs p H A B/\∀u∈U,∀w∈H,u≠w->D3 (A9 B (u,w)) (AJ (A9 A (u,p)) (A9 A (p,w)))) ⟨⟨h1,h2,λ q=>Cp _,λ x y _=>rfl⟩,λ u hu=>by cases hu⟩ λ u hu U B hB=>by
  obtain⟨b1,b2⟩:=hB;obtain⟨c1,c2⟩:=iX hp hH b1 hu;refine⟨c1,λ x hx w hw ae=>?_⟩;rcases zK.mp hx with hx|hx
  ·exact AQ (dG _ H B) (b2 x hx w hw ae)
  ·rw[zw.mp hx] at ae ⊢;exact c2 w hw ae
 exact this
theorem OS {m:Nat}{rs:List Road}(Av:∀r∈rs,Io m r/\r.a≠r.b):En m (lay0 rs)/\Zy rs (lay0 rs)/\∀r∈rs,D3 (A9 (lay0 rs) (r.a,r.b)) (BS r):=by
 unfold lay0;have:=Fs (L:=rs) (pre:=[]) (f:=λ A r=>layA A (r.a,r.b) (BS r) none) (b:=[]) (λ W A=>En m A/\Zy rs A/\∀r∈W,D3 (A9 A (r.a,r.b)) (BS r)) ⟨⟨by simp,λ p hp=>by cases hp⟩,⟨(λ _ _ _ h=>by cases h),λ r hr=>by cases hr⟩⟩ λ r hr W B hB=>by
  obtain⟨b1,b2,b3⟩:=hB;obtain⟨o1,o2⟩:=Av r hr;refine⟨b1.lay ⟨o2,⟨o1.a0,o1.a1⟩,o1.b0,o1.b1⟩,b2.lay λ c hc=>?_,λ x hx=>?_⟩
  ·obtain⟨l,hl,rfl⟩:=Jk hc;exact Wk.one hr hl
  ·rcases zK.mp hx with hx|hx
   ·exact AQ (S0 _ _ _ _ _) (b3 x hx)
   ·rw[zw.mp hx,GH,if_pos rfl];exact Jj _ _
 exact this
noncomputable def C4:List Int->Int->Nat
 |[],_=>0
 |a::l,x=>if a=x then 0 else C4 l x+1
theorem Tg:∀ {pre post:List Int}{p:Int},p∉pre->C4 (pre++p::post) p=pre.length
 |[],post,p,_=>by simp[C4]
 |a::pre,post,p,h=>by
  rw[zl,not_or] at h;rw[xn,C4,if_neg (yh h.1),Tg h.2];rfl
theorem Xn:∀ {pre post:List Int}{x:Int},x∈pre->C4 (pre++post) x<pre.length
 |a::pre,post,x,h=>by
  rw[xn,C4];by_cases e:a=x
  ·rw[if_pos e];simp
  ·rw[if_neg e,zq];have:=Xn (post:=post) ((zl.mp h).resolve_left (yh e));omega
theorem Th:∀ {pre post:List Int}{x:Int},x∉pre->pre.length<=C4 (pre++post) x
 |[],post,x,_=>zT _
 |a::pre,post,x,h=>by
  rw[zl,not_or] at h;rw[xn,C4,if_neg (yh h.1),zq];have:=Th (post:=post) h.2;omega
theorem Xo:∀ {L:List Int}{x y:Int},x∈L->y∈L->C4 L x=C4 L y->x=y
 |a::l,x,y,hx,hy,e=>by
  rw[C4,C4] at e;by_cases h1:a=x
  ·by_cases h2:a=y
   ·rw[<-h1,<-h2]
   ·rw[if_pos h1,if_neg h2] at e;omega
  ·by_cases h2:a=y
   ·rw[if_neg h1,if_pos h2] at e;omega
   ·rw[if_neg h1,if_neg h2] at e;exact Xo ((zl.mp hx).resolve_left (yh h1)) ((zl.mp hy).resolve_left (yh h2)) (by omega)
theorem iY {L:List Int}{x:Int}(h:C4 L x<L.length):x∈L:=by
 refine Classical.byContradiction λ hn=>?_;have:=Th (pre:=L) (post:=[]) hn;rw[yb] at this;omega
theorem Xp:∀(L:List Int) (x:Int),C4 L x<=L.length
 |[],_=>zu _
 |a::l,x=>by
  rw[C4,zq];split
  ·omega
  ·have:=Xp l x;omega
theorem Kv:∀ {L:List Int}{p:Int},p∈L->∃pre post,L=pre++p::post/\p∉pre
 |a::l,p,h=>by
  by_cases ha:a=p
  ·subst ha;exact⟨[],l,rfl,by simp⟩
  ·obtain⟨pre,post,e2,hn⟩:=Kv ((zl.mp h).resolve_left (yh ha));exact⟨a::pre,post,by rw[xn,<-e2],by simp[yh ha,hn]⟩
theorem Xq {L:List Int}{p:Int}(h:C4 L p<L.length):∃pre post,L=pre++p::post/\p∉pre/\∀x,C4 L p<C4 L x->x∈L->x∈post:=by
 obtain⟨pre,post,e,hn⟩:=Kv (iY h);refine⟨pre,post,e,hn,λ x hr hx=>?_⟩;subst e;rw[Tg hn] at hr;rcases zK.mp hx with hx|hx
 ·have:=Xn (post:=p::post) hx;omega
 ·rcases zl.mp hx with rfl|hx
  ·rw[Tg hn] at hr;omega
  ·exact hx
theorem iZ {m:Nat}{rs:List Road}{L:List Int}(hL:L.Nodup)(hr:∀x∈L,0<=x/\x<m):∀(post pre:List Int) (A:LA),L=pre++post->En m A->Zy rs A->(∀r∈rs,D3 (A9 A (r.a,r.b)) (BS r))->
 (∀pa p pb,L=pa++p::pb->pa.length<pre.length->∀x∈pb,∀y∈pb,x≠y->D3 (A9 A (x,y)) (AJ (A9 A (x,p)) (A9 A (p,y))))->
 En m (MJ A post)/\Zy rs (MJ A post)/\(∀r∈rs,D3 (A9 (MJ A post) (r.a,r.b)) (BS r))/\∀pa p pb,L=pa++p::pb->∀x∈pb,∀y∈pb,x≠y->D3 (A9 (MJ A post) (x,y)) (AJ (A9 (MJ A post) (x,p)) (A9 (MJ A post) (p,y))):=by
 intro post;induction post with
 |nil =>
  intro pre A e h1 h2 h3 h4;rw[yb] at e;refine⟨h1,h2,h3,λ pa p pb e2=>h4 pa p pb e2 ?_⟩;rw[<-e,e2,zB,zq];omega
 |cons p post ih =>
  intro pre A e h1 h2 h3 h4;rw[MJ];have hn:(pre++p::post).Nodup:=e▸hL;rw[zN,yd] at hn;have c7:∀x∈post,0<=x/\x<m:=λ x hx=>hr x (by rw[e];simp[hx]);obtain⟨o,ov⟩:=Xm (p:=p) hn.2.1.1 c7 h1 h2;refine ih (pre++[p]) (Y3 A p post) (by rw[e];simp) o.ok o.sd (λ r db=>AQ (o.le _) (h3 r db)) λ pa q pb e2 am x hx y hy ae=>?_;rw[zB,y3] at am;by_cases hq:pa.length<pre.length
  ·-- an kb one
   have se:q∉post:=λ dn=>by
    have e3:pre++p::post=pa++q::pb:=by rw[<-e,e2]
    have q1:q∈pre:=by
     have:=congrArg (λ l=>l[pa.length]?) e3;rw[y2 hq,xh (zu _),Nat.sub_self] at this;exact zp this
    exact hn.2.2 q q1 q (ze _ dn) rfl
   rw[o.sm x q (.inr se),o.sm q y (.inl se)];exact AQ (o.le _) (h4 pa q pb e2 hq x hx y hy ae)
  ·have hpl:pa.length=pre.length:=by omega
   have e3:pa++q::pb=pre++p::post:=by rw[<-e2,e]
   obtain⟨rfl,e4⟩:=List.append_inj e3 hpl;cases e4;rw[o.sm x p (.inr hn.2.1.1),o.sm p y (.inl hn.2.1.1)];exact ov x hx y hy ae
theorem Mg {m:Nat}{rs:List Road}{L:List Int}(hL:L.Perm (AK m))(Av:∀r∈rs,Io m r/\r.a≠r.b):En m (Ba rs L)/\uC m rs (C4 L) (λ x y=>A9 (Ba rs L) (x,y)):=by
 have i5:L.Nodup:=Me hL;obtain⟨a1,a2,a3⟩:=OS Av;obtain⟨b1,b2,b3,b4⟩:=iZ i5 (λ x hx=>(BV hL).mp hx) L [] (lay0 rs) rfl a1 a2 a3 (λ pa p pb _ h=>by simp at h);refine⟨b1,λ x y c h=>?_,b3,λ p x y ae h1 h2=>?_,λ x y x0 x1 y0 y1 e=>Xo ((BV hL).mpr ⟨x0,x1⟩) ((BV hL).mpr ⟨y0,y1⟩) e,λ x y c h=>Wk.nn (λ r hr=>(Av r hr).1) h⟩
 ·have hm:(x,y)∈(MJ (lay0 rs) L).map zZ:=by
   rw[<-HH];unfold A9 at h;cases q:Bm (Ba rs L) (x,y) with
   |none=>rw[q] at h;cases h
   |some z=>unfold Ba at q;rw[q];rfl
  have:=b1.rg _ hm;exact⟨b2 _ _ _ h,this.1,this.2.1,this.2.2⟩
 ·have aO:∀ {x y:Int} {c:Int×Int},A9 (Ba rs L) (x,y)=some c->x∈L/\y∈L:=fun {x y c} h=>by
   have hm:(x,y)∈(MJ (lay0 rs) L).map zZ:=by
    rw[<-HH];unfold A9 at h;cases q:Bm (Ba rs L) (x,y) with
    |none=>rw[q] at h;cases h
    |some z=>unfold Ba at q;rw[q];rfl
   have:=b1.rg _ hm;exact⟨(BV hL).mpr this.2.1,(BV hL).mpr this.2.2⟩
  have hpl:C4 L p<L.length:=zF h1 (Xp L x);obtain⟨pre,post,e,hn,de⟩:=Xq hpl;cases q1:A9 (Ba rs L) (x,p) with
  |none=>cases A9 (Ba rs L) (x,y)<;>exact trivial
  |some c1 =>
   cases q2:A9 (Ba rs L) (p,y) with
   |none=>cases A9 (Ba rs L) (x,y)<;>exact trivial
   |some c2 =>
    have r:=b4 pre p post e x (de x h1 (aO q1).1) y (de y h2 (aO q2).2) ae;rw[<-q1,<-q2];exact r
noncomputable abbrev CA:=List ((Int×Int)×(Int×Int))
noncomputable def uD (C:CA):D:=.Bh true (C.map λ kv=>pD kv.1) (C.map λ kv=>cst (some kv.2))
noncomputable def uE (C:CA):OT:=.Bh true (C.map λ kv=>pD kv.1) ((C.map λ kv=>cst (some kv.2)).map .sh)
noncomputable abbrev RA:=List (Int×(Int×Int))
noncomputable def uF (R:RA):D:=.Bh false (R.map λ kv=>D.int kv.1) (R.map λ kv=>cst (some kv.2))
noncomputable def sD (R:RA):OT:=.Bh false (R.map λ kv=>D.int kv.1) ((R.map λ kv=>cst (some kv.2)).map .sh)
theorem K1 (A:LA):er (IL A)=Ip A:=FO
theorem K2 (C:CA):er (uE C)=uD C:=FO
theorem K3 (R:RA):er (sD R)=uF R:=FO
theorem OU (A:LA)(p:Int×Int)(neg:Bool):MV neg (pD p) (Ip A)=.ok (.bl (if neg=true then !(Bm A p).isSome else (Bm A p).isSome)):=by
 unfold Ip MV;dsimp only;rw[if_pos (Qr p),QA Ma]
theorem Mh {A:LA}{p:Int×Int}{v:(Int×Int)×Option Int}(h:Bm A p=some v):B1 (Ip A) (pD p)=.ok (Rb v):=by
 unfold Ip B1;dsimp only;rw[if_pos (Qr p),Xi Ma,h];rfl
theorem Xr (A:LA)(p:Int×Int)(v:(Int×Int)×Option Int):putD (A.map λ kv=>pD kv.1) (A.map λ kv=>Rb kv.2) (pD p) (Rb v)=((FV A p v).map (λ kv=>pD kv.1),(FV A p v).map λ kv=>Rb kv.2):=Xk Ma A p v
noncomputable def AN (m:Nat)(rs:List Road)(L:List Int)(A:LA)(K:List (Int×Int)):D:=.ins "Ladder" ["own_map","own_order","laid","kept_ones"] [Ad m rs,.lst (L.map D.int),Ip A,.lst (K.map pD)]
structure Ft (m:Nat)(rs:List Road)(L:List Int)(A:LA)(K:List (Int×Int)):Prop where
 m1:1<=m
 m2:m<=16
 rl:rs.length<=60
 ok:∀r∈rs,Io m r/\r.a≠r.b
 pm:L.Perm (AK m)
 la:A=Ba rs L
 kn:K.Nodup
 km:∀p,p∈K↔∃c,A9 A p=some c/\NZ rs p.1 p.2 (some c)
theorem Ft.sE {m:Nat}{rs:List Road}{L:List Int}{A:LA}{K:List (Int×Int)}(h:Ft m rs L A K):En m A:=by
 rw[h.la];exact (Mg h.pm h.ok).1
theorem Fu {A:LA}{p:Int×Int}{c:Int×Int}(h:A9 A p=some c):p∈A.map zZ:=by
 rw[<-HH];unfold A9 at h;cases q:Bm A p with
 |none=>rw[q] at h;cases h
 |some z=>rfl
theorem pU (p q:Int×Int):X6 (cst (some p)) (cst (some q))=.ok (.bl (decide (p.1<q.1\/(p.1=q.1/\p.2<q.2)))):=by
 rw[<-EC];rfl
theorem S1 {m:M Out}{t r:OT}(h:WP m (λ ρ=>GD ρ=some t/\OT.sh .Az=r) (λ o=>match o with | .EQ r' ρ=>GD ρ=some t/\r'=r | _=>False) (λ _=>False)):E6 m=.ok (t,r):=by
 cases m with
 |bad|ex x=>exact h.elim
 |ok o =>
  cases o with
  |next ρ=>obtain⟨h1,h2⟩:=(show GD ρ=some t/\OT.sh .Az=r from h);unfold E6;dsimp only;rw[h1,<-h2]
  |EQ r' ρ=>obtain⟨h1,h2⟩:=(show GD ρ=some t/\r'=r from h);unfold E6;dsimp only;rw[h1,<-h2]
  |ret d|Cg d|brk d|cont d=>exact h.elim
theorem K4 {F:OT->List D->M (OT×OT)}{ρ:Aa}{p:Option Nat}{t t2 r:OT}{ax:List D}{i:Nat}(h:ρ[i]?=some (some (.ow (.tree p t))))(hN:WM t=true)(hF:F t ax=.ok (t2,r)):Qd i F ρ [] ax=.ok (ρ.set i (some (toCl p t2)),r):=by
 rw[WN h rfl rfl hN hF,Cm]
theorem Ce {A:LA}{p:Option Nat}{ρ:Aa}:Gg 0 (some (.ow (.tree p (IL A)))::ρ) []=.ok (true,A.map (λ kv=>pD kv.1),A.map λ kv=>Rb kv.2):=BI
theorem DK {R:RA}{p:Option Nat}{ρ:Aa}:Gg 0 (some (.ow (.tree p (sD R)))::ρ) []=.ok (false,R.map (λ kv=>D.int kv.1),R.map λ kv=>cst (some kv.2)):=BI
theorem En.ov {m:Nat}{A:LA}(h:En m A){p u w:Int}(hu:0<=u/\u<m)(hw:0<=w/\w<m):En m (Lc p u A w):=by
 unfold Lc;split
 ·exact h
 ·rename_i e;exact h.lay ⟨e,hu,hw⟩
theorem En.ou {m:Nat}{p u:Int}(hu:0<=u/\u<m):∀ {H:List Int}{A:LA},En m A->(∀x∈H,0<=x/\x<m)->En m (H.foldl (Lc p u) A)
 |[],A,h,_=>h
 |w::H,A,h,hH=>by
  have r:=En.ou (A:=Lc p u A w) (H:=H) (p:=p) hu (h.ov hu (hH w zd)) λ x hx=>hH x (ze _ hx);exact r
theorem E9 {α β:Type}{f:β->α->β}{l:List α}{i:Nat}{x:α}{b:β}(h:l[i]?=some x):(l.take (i+1)).foldl f b=f ((l.take i).foldl f b) x:=by
 rw[yS,h,Option.toList_some,List.foldl_append];rfl
theorem En.lo {m:Nat}{p:Int}{H0:List Int}(h0:∀x∈H0,0<=x/\x<m):∀ {H:List Int}{A:LA},En m A->(∀x∈H,0<=x/\x<m)->En m (H.foldl (V9 p H0) A)
 |[],A,h,_=>h
 |w::H,A,h,hH=>by
  have r:=En.lo (p:=p) (A:=V9 p H0 A w) (H:=H) h0 (En.ou (hH w zd) h h0) λ x hx=>hH x (ze _ hx);exact r
theorem HI (c:Co):Ur (.ok (.sh (cst c)))=.ok (.sh (cst c)):=by
 cases c<;>rfl
def pV (a b:List Co×Bool):Prop:=b.2=true/\(a.2=false\/(a.2=true/\MI ltN a.1 b.1))
theorem jA (x:List Co):Acc pV (x,false):=.intro _ λ y h=>by cases h.1
theorem jB (x:List Co):Acc pV (x,true):=by
 have:=US x;induction this with
 |intro x _ ih =>
  refine .intro _ λ y h=>?_;obtain⟨y,b⟩:=y;rcases h.2 with e|⟨e,h2⟩
  ·dsimp only at e;subst e;exact jA y
  ·dsimp only at e;subst e;exact ih y h2
theorem S2 (n:Nat):Ck 0 n=(AK n).map D.int:=by rw[LC,Mb]
theorem KO.sF {m:Nat}{r:Road}(h:KO m r):Io m r/\r.a≠r.b:=⟨⟨h.a0,h.a1,h.b0,h.b1,λ l hl=>(h.l0 l hl).1⟩,h.ab⟩
def KP (rs:List Road)(A:LA)(p:Int×Int):Prop:=∃c,A9 A p=some c/\NZ rs p.1 p.2 (some c)
noncomputable def mY (A:LA)(cs:List Co)(u w:Int):Bool:=match A9 A (u,w) with
 |none=>false
 |some c=>decide (some c=atC cs w)
theorem Xs {m s:Nat}{rs:List Road}{cs:List Co}{A:LA}(hR:Right m s rs cs)(Av:∀r∈rs,Io m r){w:Int}(h0:0<=w)(h1:w<m):mY A cs s w=true↔KP rs A (s,w):=by
 have hm:=hR.mV Av h0 h1;unfold mY KP;cases q:A9 A ((s:Int),w) with
 |none=>simp
 |some c =>
  dsimp only;constructor
  ·intro h;have e:=of_decide_eq_true h;exact⟨c,rfl,e▸hm⟩
  ·rintro ⟨c',e,h⟩;cases e;exact decide_eq_true (h.C1 hm)
theorem jC {m:Nat}{rs:List Road}{A:LA}{K:List (Int×Int)}(hA:En m A)(hm:m<=20)(hn:K.Nodup)(hK:∀p∈K,KP rs A p):K.length<1000:=by
 have hr:∀p∈K,p.1≠p.2/\(0<=p.1/\p.1<m)/\0<=p.2/\p.2<m:=λ p hp=>by
  obtain⟨c,hc,_⟩:=hK p hp;exact hA.rg p (Fu hc)
 exact C3.len (m:=m) ⟨hn,λ x hx=>(hr _ hx).1 rfl,λ q hq=>⟨(hr q hq).2.1,(hr q hq).2.2⟩⟩ hm
theorem K5:∀ds:List D,(∀d∈ds,JL d=true)->Gf (ds.map .sh)=true
 |[],_=>rfl
 |d::ds,h=>by
  rw[zg,Gf,HP,h d zd,K5 ds λ x hx=>h x (ze _ hx)];rfl
theorem QB {ds:List D}(h:∀d∈ds,JL d=true):Ur (.ok (.lst (ds.map .sh)))=.ok (.lst (ds.map .sh)):=by
 unfold Ur;simp only[M.A6];rw[HP,K5 ds h];rfl
theorem Xu (L:List Int):Ur (.ok (.lst ((L.map D.int).map .sh)))=.ok (.lst ((L.map D.int).map .sh)):=QB λ d hd=>by
 obtain⟨x,_,rfl⟩:=zP.mp hd;rfl
theorem Zz (K:List (Int×Int)):Ur (.ok (.lst ((K.map pD).map .sh)))=.ok (.lst ((K.map pD).map .sh)):=QB λ d hd=>by
 obtain⟨x,_,rfl⟩:=zP.mp hd;exact Xb x
theorem jD (v:(Int×Int)×Option Int):JL (Rb v)=true:=by
 obtain⟨c,l⟩:=v;cases l<;>rfl
theorem ZA (A:LA):Ur (.ok (IL A))=.ok (IL A):=by
 unfold Ur IL;simp only[M.A6];rw[HP,K5 _ λ d hd=>by
  obtain⟨x,_,rfl⟩:=zP.mp hd;exact jD x.2]
 rfl
theorem jE {L:List Int}(hn:L.Nodup){i:Nat}{x:Int}(h:L[i]?=some x):C4 L x=i:=by
 have am:=(zy.mp h).1;have e:L=L.take i++x::L.drop (i+1):=by
  have h2:L.drop i=x::L.drop (i+1):=by
   rw[List.drop_eq_getElem_cons am];rw[zr am] at h;rw[zH h]
  rw[<-h2,List.take_append_drop]
 have hx:x∉L.take i:=λ hm=>by
  rw[e,zN] at hn;exact hn.2.2 x hm x zd rfl
 rw[e,Tg hx,yI];omega
noncomputable abbrev Ar:=Option ((Int×Int)×Option Int)
noncomputable def Iq (v:Ar)(c:Co)(mid:Option Int):Ar:=match c with
 |none=>v
 |some c=>(match v with
  |none=>some (c,mid)
  |some z=>if c.1<z.1.1\/(c.1=z.1.1/\c.2<z.1.2) then some (c,mid) else v)
theorem Ti (A:LA)(p q:Int×Int)(c:Co)(mid:Option Int):Bm (layA A p c mid) q=if q=p then Iq (Bm A p) c mid else Bm A q:=by
 unfold layA Iq;cases c with
 |none =>
  dsimp only;by_cases h:q=p
  ·rw[if_pos h,h]
  ·rw[if_neg h]
 |some c =>
  cases e:Bm A p with
  |none=>dsimp only;rw[Lb]
  |some z =>
   dsimp only;by_cases hc:c.1<z.1.1\/(c.1=z.1.1/\c.2<z.1.2)
   ·rw[if_pos hc,if_pos hc,Lb]
   ·rw[if_neg hc,if_neg hc];by_cases h:q=p
    ·rw[if_pos h,h,e]
    ·rw[if_neg h]
theorem S3 (p u w:Int)(A:LA)(x y:Int):Bm (Lc p u A w) (x,y)=if x=u/\y=w/\x≠y then Iq (Bm A (x,y)) (AJ (A9 A (x,p)) (A9 A (p,y))) (some p) else Bm A (x,y):=by
 unfold Lc;by_cases e:u=w
 ·rw[if_pos e,if_neg (λ h=>h.2.2 (h.1.trans (e.trans h.2.1.symm)))]
 ·rw[if_neg e,Ti];by_cases h:(x,y)=(u,w)
  ·cases h;rw[if_pos rfl,if_pos ⟨rfl,rfl,e⟩]
  ·rw[if_neg h,if_neg (λ z=>h (by rw[z.1,z.2.1]))]
theorem Xv {p u:Int}(hu:u≠p)(x y:Int):∀ {H:List Int}{A:LA},H.Nodup->p∉H->Bm (H.foldl (Lc p u) A) (x,y)=if x=u/\y∈H/\x≠y then Iq (Bm A (x,y)) (AJ (A9 A (x,p)) (A9 A (p,y))) (some p) else Bm A (x,y)
 |[],A,_,_=>by rw[List.foldl_nil,if_neg (λ h=>by cases h.2.1)]
 |w::H,A,hn,hp=>by
  rw[yd] at hn;have uk:p≠w:=λ e=>hp (by rw[e];exact zd);have ul:p∉H:=λ e=>hp (ze _ e);have c1:A9 (Lc p u A w) (x,p)=A9 A (x,p):=by unfold A9;rw[S3,if_neg (λ h=>uk h.2.1)]
  have c2:A9 (Lc p u A w) (p,y)=A9 A (p,y):=by unfold A9;rw[S3,if_neg (λ h=>hu h.1.symm)]
  rw[zX,Xv hu x y hn.2 ul,c1,c2,S3];by_cases h1:x=u
  ·by_cases h2:x=y
   ·rw[if_neg (λ h=>h.2.2 h2),if_neg (λ h=>h.2.2 h2),if_neg (λ h=>h.2.2 h2)]
   ·by_cases h3:y=w
    ·have h4:y∉H:=by rw[h3];exact hn.1
     rw[if_neg (λ h=>h4 h.2.1),if_pos ⟨h1,h3,h2⟩,if_pos ⟨h1,by rw[h3];exact zd,h2⟩]
    ·by_cases h4:y∈H
     ·rw[if_pos ⟨h1,h4,h2⟩,if_neg (λ h=>h3 h.2.1),if_pos ⟨h1,ze _ h4,h2⟩]
     ·rw[if_neg (λ h=>h4 h.2.1),if_neg (λ h=>h3 h.2.1),if_neg (λ h=>by rcases zl.mp h.2.1 with z|z;exact h3 z;exact h4 z)]
  ·rw[if_neg (λ h=>h1 h.1),if_neg (λ h=>h1 h.1),if_neg (λ h=>h1 h.1)]
theorem QC {p:Int}{H:List Int}(hn:H.Nodup)(hp:p∉H)(x y:Int):∀ {U:List Int}{A:LA},U.Nodup->p∉U->Bm (U.foldl (V9 p H) A) (x,y)=if x∈U/\y∈H/\x≠y then Iq (Bm A (x,y)) (AJ (A9 A (x,p)) (A9 A (p,y))) (some p) else Bm A (x,y)
 |[],A,_,_=>by rw[List.foldl_nil,if_neg (λ h=>by cases h.1)]
 |u::U,A,hU,sf=>by
  rw[yd] at hU;have sg:u≠p:=λ e=>sf (by rw[e];exact zd);have um:p∉U:=λ e=>sf (ze _ e);have at':∀x y,Bm (V9 p H A u) (x,y)=if x=u/\y∈H/\x≠y then Iq (Bm A (x,y)) (AJ (A9 A (x,p)) (A9 A (p,y))) (some p) else Bm A (x,y):=λ x y=>Xv sg x y hn hp
  have c1:A9 (V9 p H A u) (x,p)=A9 A (x,p):=by unfold A9;rw[at',if_neg (λ h=>hp h.2.1)]
  have c2:A9 (V9 p H A u) (p,y)=A9 A (p,y):=by unfold A9;rw[at',if_neg (λ h=>sg h.1.symm)]
  rw[zX,QC hn hp x y hU.2 um,c1,c2,at'];by_cases h2:y∈H/\x≠y
  ·by_cases h1:x=u
   ·have h3:x∉U:=by rw[h1];exact hU.1
    rw[if_neg (λ h=>h3 h.1),if_pos ⟨h1,h2⟩,if_pos ⟨by rw[h1];exact zd,h2⟩]
   ·by_cases h3:x∈U
    ·rw[if_pos ⟨h3,h2⟩,if_neg (λ h=>h1 h.1),if_pos ⟨ze _ h3,h2⟩]
    ·rw[if_neg (λ h=>h3 h.1),if_neg (λ h=>h1 h.1),if_neg (λ h=>by rcases zl.mp h.1 with z|z;exact h1 z;exact h3 z)]
  ·rw[if_neg (λ h=>h2 h.2),if_neg (λ h=>h2 h.2),if_neg (λ h=>h2 h.2)]
theorem K6 {p:Int}{H:List Int}(hn:H.Nodup)(hp:p∉H)(A:LA)(x y:Int):Bm (Y3 A p H) (x,y)=if x∈H/\y∈H/\x≠y then Iq (Bm A (x,y)) (AJ (A9 A (x,p)) (A9 A (p,y))) (some p) else Bm A (x,y):=QC hn hp x y hn hp
noncomputable def ZC (A:LA)(x y:Int)(W:List Int)(v:Ar):Ar:=W.foldl (λ v p=>Iq v (AJ (A9 A (x,p)) (A9 A (p,y))) (some p)) v
theorem Mi {x y:Int}:∀ {L:List Int}{A:LA},L.Nodup->(x∉L\/y∉L)->Bm (MJ A L) (x,y)=Bm A (x,y)
 |[],A,_,_=>rfl
 |p::r,A,hn,h=>by
  rw[yd] at hn;have h':x∉r\/y∉r:=h.imp (λ z w=>z (ze _ w)) λ z w=>z (ze _ w);rw[MJ,Mi hn.2 h',K6 hn.2 hn.1,if_neg (λ z=>h'.elim (λ w=>w z.1) λ w=>w z.2.1)]
theorem Tj {x y:Int}(ae:x≠y):∀ {L:List Int}{A:LA},L.Nodup->x∈L->y∈L->Bm (MJ A L) (x,y)=ZC (MJ A L) x y (L.take (min (C4 L x) (C4 L y))) (Bm A (x,y))
 |[],A,_,h,_=>by cases h
 |p::r,A,hn,hx,hy=>by
  rw[yd] at hn;have so:∀z,z≠p->C4 (p::r) z=C4 r z+1:=λ z hz=>by show (if p=z then 0 else C4 r z+1)=_;rw[if_neg (yh hz)]
  have sq:C4 (p::r) p=0:=by show (if p=p then 0 else C4 r p+1)=_;rw[if_pos rfl]
  rw[MJ];by_cases h1:x=p
  ·rw[Mi hn.2 (.inl (by rw[h1];exact hn.1)),K6 hn.2 hn.1,if_neg (λ z=>hn.1 (by rw[<-h1];exact z.1)),h1,sq,Nat.zero_min];rfl
  by_cases h2:y=p
  ·rw[Mi hn.2 (.inr (by rw[h2];exact hn.1)),K6 hn.2 hn.1,if_neg (λ z=>hn.1 (by rw[<-h2];exact z.2.1)),h2,sq,Nat.min_zero];rfl
  have sr:x∈r:=(zl.mp hx).resolve_left h1;have dq:y∈r:=(zl.mp hy).resolve_left h2;have e1:A9 (MJ (Y3 A p r) r) (x,p)=A9 A (x,p):=by unfold A9;rw[Mi hn.2 (.inr hn.1),K6 hn.2 hn.1,if_neg (λ z=>hn.1 z.2.1)]
  have e2:A9 (MJ (Y3 A p r) r) (p,y)=A9 A (p,y):=by unfold A9;rw[Mi hn.2 (.inl hn.1),K6 hn.2 hn.1,if_neg (λ z=>hn.1 z.1)]
  have et:(p::r).take (min (C4 (p::r) x) (C4 (p::r) y))=p::r.take (min (C4 r x) (C4 r y)):=by
   rw[so x h1,so y h2,Nat.add_min_add_right,List.take_succ_cons]
  rw[et,Tj ae hn.2 sr dq,K6 hn.2 hn.1,if_pos ⟨sr,dq,ae⟩];unfold ZC;rw[zX,e1,e2]
theorem Vb {rs:List Road}{L:List Int}{x y:Int}(hn:L.Nodup)(hx:x∈L)(hy:y∈L)(ae:x≠y):Bm (Ba rs L) (x,y)=ZC (Ba rs L) x y (L.take (min (C4 L x) (C4 L y))) (Bm (lay0 rs) (x,y)):=Tj ae hn hx hy
theorem Tn (rs:List Road):∀x y c mid,Bm (lay0 rs) (x,y)=some (c,mid)->mid=none/\∃r∈rs,r.a=x/\r.b=y/\BS r=some c:=by
 unfold lay0;have:=Fs (L:=rs) (pre:=[]) (f:=λ A r=>layA A (r.a,r.b) (BS r) none) (b:=[]) (λ _ A=>∀x y c mid,Bm A (x,y)=some (c,mid)->mid=none/\∃r∈rs,r.a=x/\r.b=y/\BS r=some c) (λ _ _ _ _ h=>by cases h) λ r hr W B hB x y c mid h=>by
  rw[Ti] at h;by_cases e:(x,y)=(r.a,r.b)
  ·cases e;rw[if_pos rfl] at h;unfold Iq at h;cases q:BS r with
   |none=>rw[q] at h;exact hB _ _ _ _ h
   |some d =>
    rw[q] at h;dsimp only at h;split at h
    ·cases h;exact⟨rfl,r,hr,rfl,rfl,q⟩
    ·rename_i z hz;split at h
     ·cases h;exact⟨rfl,r,hr,rfl,rfl,q⟩
     ·exact hB _ _ _ _ h
  ·rw[if_neg e] at h;exact hB _ _ _ _ h
 exact this
noncomputable def Xw (v:Ar):Co:=v.map zZ
theorem ZD (v:Ar)(c:Co)(mid:Option Int):Xw (Iq v c mid)=HC (Xw v) c:=by
 unfold Iq Xw;cases c with
 |none=>cases v<;>rfl
 |some c =>
  cases v with
  |none=>rfl
  |some z =>
   dsimp only;simp only[yq,HC,iN];by_cases hc:c.1<z.1.1\/(c.1=z.1.1/\c.2<z.1.2)
   ·rw[if_pos hc,if_neg (by omega)];rfl
   ·rw[if_neg hc,if_pos (by omega)];rfl
structure Fd (cd:Int->Co)(v0:Ar)(W:List Int)(v:Ar):Prop where
 sG:D3 (Xw v) (Xw v0)
 sH:∀p∈W,D3 (Xw v) (cd p)
 Az:∀c,v=some (c,none)->v0=some (c,none)
 mid:∀c p,v=some (c,some p)->(∃W1 W2,W=W1++p::W2/\cd p=some c/\∀q∈W1,cd q≠some c)/\Xw v0≠some c
theorem jF {cd:Int->Co}{v0:Ar}(h0:∀c p,v0≠some (c,some p))(W:List Int):Fd cd v0 W (W.foldl (λ v p=>Iq v (cd p) (some p)) v0):=by
 have:=Fs (L:=W) (pre:=[]) (f:=λ v p=>Iq v (cd p) (some p)) (b:=v0) (λ W v=>Fd cd v0 W v) ⟨Cp _,(λ p hp=>by cases hp),λ c h=>h,λ c p h=>absurd h (h0 c p)⟩ λ p hp W v hv=>by
  have df:=ZD v (cd p) (some p);refine⟨?_,λ q hq=>?_,λ c h=>?_,λ c q h=>?_⟩
  ·rw[df];exact AQ (HD _ _) hv.sG
  ·rw[df];rcases zK.mp hq with hq|hq
   ·exact AQ (HD _ _) (hv.sH q hq)
   ·rw[zw.mp hq];exact Jj _ _
  ·unfold Iq at h;split at h
   ·exact hv.Az c h
   ·split at h
    ·cases h
    ·rename_i z;split at h
     ·cases h
     ·exact hv.Az c h
  ·have keep:v=some (c,some q)->(∃W1 W2,W++[p]=W1++q::W2/\cd q=some c/\∀q∈W1,cd q≠some c)/\Xw v0≠some c:=λ h=>by
    obtain⟨⟨W1,W2,e1,e2,e3⟩,e4⟩:=hv.mid c q h;exact⟨⟨W1,W2++[p],by rw[e1];simp,e2,e3⟩,e4⟩
   have new:∀d:Int×Int,cd p=some d->(∀z,Xw v=some z->d.1<z.1\/(d.1=z.1/\d.2<z.2))->(∃W1 W2,W++[p]=W1++p::W2/\cd p=some d/\∀q∈W1,cd q≠some d)/\Xw v0≠some d:=λ d hd am=>by
    have no:∀o:Co,D3 (Xw v) o->o≠some d:=λ o ho e=>by
     subst e;obtain⟨z,hz,hle⟩:=iW ho;have:=am z hz;simp only[sC] at hle;omega
    exact⟨⟨W,[],rfl,hd,λ q hq=>no _ (hv.sH q hq)⟩,no _ hv.sG⟩
   unfold Iq at h;split at h
   ·exact keep h
   ·rename_i c' hd;split at h
    ·cases h;exact new _ hd λ z hz=>by cases hz
    ·rename_i z;split at h
     ·rename_i hc;cases h;exact new _ hd λ z' hz=>by cases hz;exact hc
     ·exact keep h
 exact this
section
variable {m:Nat}{rs:List Road}{L:List Int}
theorem QD {L:List Int}(hn:L.Nodup){k:Nat}{x:Int}(h:x∈L.take k):x∈L/\C4 L x<k:=by
 obtain⟨i,hi⟩:=List.mem_iff_getElem?.mp h;rw[List.getElem?_take] at hi;split at hi
 ·rename_i hk;exact⟨zp hi,by rw[jE hn hi];exact hk⟩
 ·cases hi
end
theorem Vc {α:Type}{a b c d e f g h:D}{x y:α}:(if [a,b,c,d,e,f,g,h].length<=1000 then x else y)=x:=if_pos (by simp)
theorem O7 (r:Road):dp (.ok (CZ r))=.ok (CZ r):=by
 obtain⟨a,b,l,w⟩:=r;cases l<;>rfl
theorem K7 (i:Int):dp (.ok (.int i))=.ok (.int i):=rfl
theorem QE:∀(n:Nat) (B:List (Int×Int)) (L:List Int),L.length=n->(Ra n B L).Perm L
 |0,B,L,h=>by rw[List.length_eq_zero_iff.mp h];exact .refl _
 |n+1,B,L,h=>by
  have ae:L≠[]:=λ e=>by rw[e] at h;cases h
  have hm:=(O3 (B:=B) ae).1;rw[Ra,if_neg ae];refine List.Perm.trans ?_ (List.perm_cons_erase hm).symm;exact (QE n _ _ (by rw[List.length_erase_of_mem hm,h];rfl)).cons _
theorem ZE (m:Nat)(rs:List Road):er (.tup [.sh (.int m),.lst ((rs.map CZ).map .sh)])=Ad m rs:=by
 rw[er,Rz,Kr,Rz,GF,Rz];rfl
section
variable {X:Cx}{WX:Str->Hp->Prop}{c:Bool}{P0:Dn}{P:Addr->Prop}{H:Hp}{σ:St}{ρ:Aa}{a b e:Expr}{f g:Aa->M D}{fp:Aa->M (List Nat)}{pos p:Pos}{i:Nat}
noncomputable def QF (k:Int):List Int->Option Nat
 |[]=>none
 |x::r=>if x=k then some 0 else (QF k r).map (· + 1)
noncomputable def ZF (x:D)(m:M D):M D:=match x with
 | .lst ds=>m.bind λ y=>(match BU ds,y with|some ns,.int k=>(match QF k ns with|some j=>.ok (.int j)|none=>.bad)|_,_=>.bad)
 |_=>.bad
theorem To {k:Int}:∀ {ns:List Int}{aa:List Value},Vals (ns.map V.int) aa->PySem.W.kf_ints aa=true/\PySem.W.kf_at k aa=QF k ns
 |[],[],_=>⟨rfl,rfl⟩
 |[],_::_,h=>by cases h
 |n::r,aa,h=>by
  cases h with
  |cons h t =>
   obtain⟨tk,rfl⟩:=h;obtain⟨h1,h2⟩:=To (k:=k) t;refine⟨h1,?_⟩;simp only[PySem.W.kf_at,QF,h2];by_cases e:n=k
   ·subst e;simp[isInt]
   ·rw[if_neg e];have:isInt k (.int n tk)=false:=by simp[isInt];omega
    rw[this];cases QF k r<;>rfl
theorem Xx:oX X "list.index" (λ x vs H Q=>∃l ns k j,x=.ref l/\vs=[.int k]/\Dg X.K H l (ns.map V.int)/\QF k ns=some j/\Q (.int j) H):=by
 intro pins s σ H x vs v us Q I rx rv h;obtain⟨l,ns,k,j,rfl,rfl,hq,hj,q⟩:=h;cases rx;obtain⟨u,rfl,ru⟩:=rv.one;obtain⟨tk,rfl⟩:=ru;obtain⟨aa,r,pl,hz⟩:=I.list hq;obtain⟨h1,h2⟩:=To (k:=k) r;have hlen:=r.length;rw[hj] at h2;have uo:∃o n,s.heap.get? l=some o/\o.cls=.type "list" /\ o.dict=none/\o.data=.seq aa.toArray n:=pl;obtain⟨a,b,cc⟩:=PySem.W.kf_at_spec h2;rw[sizeLine_eq] at hz;obtain⟨o,n,e,ec,ed,es⟩:=uo;obtain⟨uq,od,ur,Pj⟩:=o;dsimp only at ec ed es;subst ec ed es;have ht:s.TypeIs (.ref l) "list" := ⟨_,e,rfl⟩;refine PySem.call_meets PySem.F.slot_list_index ht PySem.F.entry_list_index (PySem.F.args_list_index_2 _ _)
  (PySem.SeqAt.list_indexAt l aa.toArray n none Pj (.int k tk) (isInt k) j (by simpa using a) (by omega) (by simpa using b) (λ i hi am=>?_)) ⟨e,λ y hy=>(PySem.W.kf_eq h1 y (by simpa using hy)).at _ _,?_⟩
 ·exact cc i (by simpa using hi) am
 ·exact⟨.int j,H,I.tok _,⟨_,rfl⟩,q⟩
theorem Mj {o k:Expr}{apos ac:Pos}(ha:DE X WX true o f)(hb:DE X WX true k g)(ap:attributeBase o "index" X.env (eval o X.env)=eval o X.env:=by rfl)
 (aD:((backTo ac (starEach [k] X.env)).all (λ x => !x.1)&&(backToKw ac (keywordEach [] X.env)).all (λ x=>x.1.isSome)
  && decide (([k]:List Expr).length+([]:List Keyword).length+(if ([]:List Keyword).isEmpty then 0 else 1)<30))=true:=by rfl)
 (aq:(apos.endLine==ac.line)=true:=by rfl) (hs:starEach [k] X.env=[(false,eval k X.env)]:=by rfl):
 DE X WX true (.Call (.Attribute o "index" apos) [k] [] ac) (λ ρ=>(f ρ).bind λ x=>ZF x (g ρ)):=by
 obtain⟨ta,a1,a2⟩:=ha;obtain⟨tb,b1,b2⟩:=hb;refine⟨_,Nk ym PySem.F.slot_list_index PySem.F.type_list_index Xx a1 (Bf b1 BZ hs) ap aD aq hs,λ P0 P σ H Q ρ E h=>?_⟩;dsimp only at h;refine a2 P0 P σ H _ ρ E ?_;cases q:f ρ with
 |bad|ex x=>rw[q] at h;exact h
 |ok x =>
  rw[q] at h;simp only[M.A6] at h;intro v H1 s1 hv;unfold ZF at h;split at h
  ·rename_i ds;cases hv with
   | @lst l xs _ om hl =>
    refine⟨.inl ⟨rfl,_,om.Bi⟩,b2 P0 P σ H1 _ ρ (E.same s1) ?_⟩;cases e2:g ρ with
    |bad=>rw[e2] at h;exact h
    |ex y=>rw[e2] at h;exact gV.same (m:=.ex y) h s1
    |ok y =>
     rw[e2] at h;simp only[M.A6] at h;intro w H2 s2 hw;split at h
     ·rename_i ns k c5;split at h
      ·rename_i j hj;have ex:=Hj hl c5;subst ex;exact⟨l,ns,k,j,rfl,by rw[hw.int_inv],s2.seq om.Bi,hj,h _ _ (s1.trans s2) (.int _)⟩
      ·exact h.elim
     ·exact h.elim
  ·exact h.elim
end
section
variable {L:List Int}{C W:CA}{s:Int}{t:Nat}{R0 R:RA}
theorem Xy:∀ {L:List Int}{k:Int},k∈L->QF k L=some (C4 L k)
 |[],_,h=>by cases h
 |x::r,k,h=>by
  show (if x=k then some 0 else (QF k r).map (· + 1))=_;by_cases e:x=k
  ·rw[if_pos e];show some 0=some (C4 (x::r) k);unfold C4;rw[if_pos e]
  ·rw[if_neg e];rcases zl.mp h with h|h
   ·exact absurd h.symm e
   ·have q:C4 (x::r) k=C4 r k+1:=by show (if x=k then 0 else C4 r k+1)=_;rw[if_neg e]
    rw[Xy h,q];rfl
theorem Ml {L:List Int}{k:Int}(h:k∈L):ZF (.lst (L.map D.int)) (.ok (.int k))=.ok (.int (C4 L k:Nat)):=by
 unfold ZF;simp only[M.A6,CK,Xy h]
end
structure Jo (h:Heap)(d:Addr)(es:Array DictEntry)(ep:Nat):Prop where
 at':∃o,h.get? d=some o/\o.ExactDict/\o.data=.dict es ep
section
variable {prog:Program}{w:World}{A:Around}{E:Value->Shared->Prop}{s:Shared}{d it:Addr}{es:Array DictEntry}{ep i:Nat}
theorem Jo.ty (x:Jo s.heap d es ep):s.TypeIs (.ref d) "dict" := let ⟨o,h,c,_⟩:=x.at';⟨o,h,c.1⟩
theorem ZG {Q:Value->Shared->Prop}(hs:(d==sysModules)=false)(x:Jo s.heap d es ep)
 (q:Q (.ref s.heap.objs.size) {s with heap:=s.heap.push {cls:=.type "dict_keyiterator",data:=.fields #[.ref d,.int 0 0,.int es.size 0,.int ep 0]} }):wpAny (model prog w) A (pyIter (.ref d)) Q E s:=by
 have t:=x.ty;obtain⟨o,h1,h2,h3⟩:=x.at';apply wpAny_pyIter_slot t F.slot_dict_iter;apply wpAny_call_entry F.slot_dict_iter t F.entry_dict_iter _ (F.args_dict_iter_1 _);rw[Builtin.«dict.__iter__»];apply wpAny_bind;rw[Builtin.Dict.dictSlotNone];apply wpAny_bind;apply wpAny_notOrdered_dict t;refine wpAny_pure (a:=ya d) ?_;refine wpAny_bind (m:=Builtin.Dict.showsAll d) ?_;rw[Builtin.Dict.showsAll,hs];refine wpAny_pure ?_;apply wpAny_bind;apply wpAny_dictEntries h1 h3;apply wpAny_bind;apply wpAny_dictEpoch h1 h3;apply wpAny_bind;refine wpAny_newObj_type (wpAny_pure ⟨_,rfl,"dict_keyiterator",_,⟨_,zD _ rfl,rfl⟩,F.slot_dict_keyiterator_next.lookup,?_⟩);simpa [rawInt] using q
theorem QG {Q:Option Value->Shared->Prop}(hh:A.handled=none)(hit:s.heap.IsKeyIter it d i es.size ep)(x:Jo s.heap d es ep)
 (go:∀(hi:i<es.size) (h':Heap),h'.IsKeyIter it d (i+1) es.size ep->yW it s.heap h'->Q (some es[i].key) {s with heap:=h' })
 (no:es.size<=i->∀h',Heap.ExtBut it s.heap h'->Q none {s with heap:=h' }):wpAny (model prog w) A (pyNext (.ref it)) Q E s:=by
 obtain⟨io,g1,g2,g3⟩:=id hit;obtain⟨o,h1,h2,h3⟩:=x.at';have t:=hit.typeIs;rw[pyNext];apply wpAny_bind;apply wpAny_attempt;apply wpAny_callSpecial?_slot (name:=Str.ofString "__next__") t F.slot_dict_keyiterator_next;apply wpAny_call_entry F.slot_dict_keyiterator_next t F.entry_dict_keyiterator_next _ (F.args_dict_keyiterator_next_1 _);apply wpAny_bind;refine wpAny_pure ?_;apply wpAny_bind;apply wpAny_bind;apply wpAny_bind;apply wpAny_typeNameOfWhole_keyiter t;refine wpAny_pure ?_;apply wpAny_bind;apply wpAny_fieldsOf g1 g3;rw[show Builtin.Dict_items.ownsTuple "dict_keyiterator" = false from by decide];show wpAny _ _ (ite ((ya d==yH)=true) _ _) _ _ s;have nn:¬ (ya d==yH)=true:=nofun;rw[if_neg nn];apply wpAny_bind;refine wpAny_pure (a:=d) ?_;apply wpAny_bind;apply wpAny_dictEntries h1 h3;rw[if_neg (by simp)];apply wpAny_bind;refine wpAny_pure (a:=d) ?_;apply wpAny_bind;apply wpAny_dictEpoch h1 h3;rw[if_neg (by simp)];refine wpAny_pure ?_;have i0:¬ (i:Int)<0:=by omega
 by_cases hi:i<es.size
 ·simp only[i0,if_false,yt,yL hi];apply wpAny_bind;apply wpAny_bind;apply wpAny_typeNameOfWhole_keyiter t;refine wpAny_pure ?_;apply wpAny_bind;apply wpAny_isOneOf_keyiter t;refine wpAny_bind (m:=setField (.ref it) 1 (rawInt ((i:Int)+1))) ?_;apply wpAny_setField g1 g3 (by simp);have st:(s.heap.update it (Obj.mapFields (·.setIfInBounds 1 (rawInt ((i:Int)+1))))).IsKeyIter it d (i+1) es.size ep:=
   ⟨_,yJ _ g1 (Obj.isFreed_of_fields (Obj.data_mapFields g3 _)),(Obj.cls_mapFields ..).trans g2,by rw[Obj.data_mapFields g3];simp[rawInt]⟩
  apply wpAny_bind;apply wpAny_holding;apply wpAny_bind;apply wpAny_isOneOf_keyiter st.typeIs;refine wpAny_pure (a:=es[i].key) ?_;exact wpAny_pure ⟨_,rfl,wpAny_pure (go hi _ st (yN ..))⟩
 ·have ja:es.size<=i:=by omega
  simp only[i0,if_false,yt,Array.getElem?_eq_none ja];apply wpAny_bind;apply wpAny_bind;apply wpAny_typeNameOfWhole_keyiter t;refine wpAny_pure ?_;refine wpAny_bind (m:=setField (.ref it) 0 .none) ?_;apply wpAny_setField g1 g3 (by simp);apply wpAny_bind;rw[newExc];apply wpAny_bind;rw[newTuple];refine wpAny_newObj_type ?_ (by size_fits);apply wpAny_bind;refine wpAny_of_eq (a:=yH) (by simp only[firstArgMember];rfl) ?_;refine wpAny_newObj_type ?_ (by size_fits);simp only[raiseNew];apply wpAny_bind;apply wpAny_handled;rw[show A.in1.handled=none from hh];refine wpAny_bind (wpAny_pure (wpAny_throw ?_));refine wpAny_bind (wpAny_isInstance (T := "StopIteration") (b:=true) ⟨_,zD _ rfl,rfl⟩ isSubtype_stop ?_);exact wpAny_pure (no ja _ (((yN ..).extBut.push _).push _))
end
section
variable {X:Cx}{pins:List (Addr×Obj)}{σ:St}{H:Hp}{s:Shared}{a:Addr}{o:Obj}{kvs:List (List Key×V)}
noncomputable abbrev mZ (H:Hp)(kvs:List (List Key×V))(xs:List (List Key×Addr×Value)):Prop:=Paired (λ(p:List Key×V) (q:List Key×Addr×Value)=>p.1=q.1/\H q.2.1=some (.tup (p.1.map kV))/\RelV p.2 q.2.2) kvs xs
theorem mZ.get:∀ {kvs:List (List Key×V)}{xs:List (List Key×Addr×Value)},mZ H kvs xs->∀ {i:Nat}{q:List Key×Addr×Value},xs[i]?=some q->∃p,kvs[i]?=some p/\H q.2.1=some (.tup (p.1.map kV))
 |_,_,.nil,i,q,e=>by cases e
 |_,_,.cons h t,0,q,e=>by cases e;exact⟨_,rfl,h.2.1⟩
 |_,_,.cons h t,i+1,q,e=>mZ.get t (i:=i) e
end
theorem ZH (a b:Nat):(if (b:Int)<a then (b:Int) else a)=((min a b:Nat):Int):=by split<;>omega
theorem dH {n:Nat}(p:Int×Int):Pl (n+1) (pD p):=Wx (L4 (DY _) (L4 (DY _) Wy))
theorem jG (p q:Int×Int):Wf 16 (pD p) (pD q)=.ok (.bl (decide (p=q))):=by rw[OF (dH (n:=15) p) (dH (n:=15) q),Ma]
section
variable {P:Program}{w:World}{A:Around}{E:Value->Shared->Prop}{s:Shared}{a b:Addr}
noncomputable abbrev TK (P:Program)(w:World):=tupleKind (Bx P w)
structure uG (P:Program)(w:World)(h:Heap)(d:Addr)(es:Array DictEntry)(ep:Nat)(xs:List (List Key×Addr×Value)):Prop where
 ob:Jo h d es ep
 en:es.toList=xs.map (entryOfKey (TK P w))
 is:∀x∈xs,(TK P w).is h x.1 x.2.1
 nd:(xs.map (·.1)).Nodup
end
section
variable {X:Cx}{WX:Str->Hp->Prop}{c:Bool}{P0:Dn}{P:Addr->Prop}{H:Hp}{σ:St}{ρ:Aa}{a b e:Expr}{f g:Aa->M D}{pos p:Pos}
theorem jH {s:Shared}{pins:List (Addr×Obj)}{l:Addr}{ka:List (List Key×V)}(I:Inv X pins σ H s)(h:Rd H l (.dT ka)):(l==sysModules)=false/\∃es ep xs,mZ H ka xs/\uG X.prog X.w s.heap l es ep xs:=by
 obtain⟨z,y,xs,r,o,es,ep,h1,h2,h3,h4,h5⟩:=(show Bp X.prog X.w H s.heap l (.dT ka) from W4 I.Av h);obtain⟨_,_,bH,r2,o2,ut,uu,g1,g2,g3,g4,g5,g6⟩:=Ln I.Av h;exact⟨y,ut,uu,bH,r2,⟨⟨o2,g1,g2,g3⟩,g4,g5,g6⟩⟩
open Classical in
theorem Tp:∀ {ks i4:List Key},ks.map EA=i4.map EA->ks=i4
 |[],[],_=>rfl
 |[],_::_,h|_::_,[],h=>by cases h
 |k::ks,k'::i4,h=>by
  rw[zg,zg] at h;injection h with h1 h2
  have e:k=k':=by
   cases k<;>cases k'<;>first|(cases h1;rfl)|cases h1
  rw[e,Tp h2]
end
section
variable {P:Program}{w:World}{A:Around}{d it:Addr}{es:Array DictEntry}{ep:Nat}
theorem Jo.keep {h h':Heap}(x:Jo h d es ep)(k:∀o,h.get? d=some o->h'.get? d=some o):Jo h' d es ep:=let ⟨o,a,b⟩:=x.at';⟨o,k o a,b⟩
theorem Xz (hh:A.handled=none)(ae:d≠it):Walks P w A it [it,d] [it] es.size (λ i v=>∃hi:i<es.size,v=es[i].key) (λ i h=>h.IsKeyIter it d i es.size ep/\Jo h d es ep) where
 sub:=λ b hb=>by simp at hb;simp[hb]
 frame:=λ _ _ _ st hk=>⟨st.1.at λ o e=>hk it (by simp) o e,st.2.keep λ o e=>hk d (by simp) o e⟩
 item:=λ i s Q E hi st hQ=>QG hh st.1 st.2 (λ hi h' aX sb=>hQ _ h' s.toks ⟨hi,rfl⟩ ⟨aX,st.2.keep λ o e=>sb.extBut d o ae e⟩ λ b o hb e=>sb.extBut b o (λ z=>hb (by simp[z])) e) λ z=>absurd z (by omega)
 done:=λ s Q E st hQ=>QG hh st.1 st.2 (λ hi=>absurd hi (by omega)) λ _ h' eb=>hQ h' s.toks λ b o hb e=>eb b o (λ z=>hb (by simp[z])) e
 self:=λ _ _ _ _ st hQ=>wpAny_pyIter_keyiter st.1 hQ
theorem Jo.lt {h:Heap}(x:Jo h d es ep):d<h.objs.size:=let ⟨_,a,_⟩:=x.at';zt a
theorem jI (lo:(d==sysModules)=false):PySem.W.KdlSrc P w "dict" d d es.size (λ i v=>∃hi:i<es.size,v=es[i].key) (λ h=>Jo h d es ep) where
 type:=λ _ x=>x.ty
 there:=λ _ x=>⟨x.lt,x.lt⟩
 keep:=λ _ _ x hk=>x.keep λ o e=>hk d (.inl rfl) o e
 notList:=by decide
 notTuple:=by decide
 hint:=λ _ _ _ _ x hq=>PySem.W.kdl_hint_dict x.ty hq
 iter:=λ _ _ hh x=>⟨_,_,(λ _ _ hq=>ZG lo x hq),Xz hh (zJ x.lt),⟨⟨_,zD _ rfl,rfl,rfl⟩,x.keep λ o e=>zj _ e⟩⟩
end
open PySem PySem.Spec PyProof.Rows PySem.W
def Tq {α:Type}(c:Nat->Nat->Bool)(n:Nat):KasT α->(α->Prop)->Prop
 | .ret a,Q=>Q a
 | .ask i j k,Q=>i<n/\j<n/\Tq c n (k (c i j)) Q
section
variable {c:Nat->Nat->Bool}{n:Nat}
theorem Fv {α β:Type}{f:α->KasT β}{Q:β->Prop}:∀t:KasT α,Tq c n t (λ a=>Tq c n (f a) Q)->Tq c n (t.bind f) Q
 | .ret a,h=>h
 | .ask i j k,h=>⟨h.1,h.2.1,Fv (k (c i j)) h.2.2⟩
theorem D4 {α:Type}{Q Q':α->Prop}(hq:∀a,Q a->Q' a):∀t:KasT α,Tq c n t Q->Tq c n t Q'
 | .ret a,h=>hq a h
 | .ask i j k,h=>⟨h.1,h.2.1,D4 hq (k (c i j)) h.2.2⟩
theorem XA {α:Type}{cmp:Nat->Nat->(Bool->Shared->Prop)->Shared->Prop}{s:Shared}(hc:∀i j C,i<n->j<n->C (c i j) s->cmp i j C s){Q:α->Prop}{G:α->Shared->Prop}(hG:∀a,Q a->G a s):∀t:KasT α,Tq c n t Q->t.kasWp cmp G s
 | .ret a,h=>hG a h
 | .ask i j k,h=>hc i j _ h.1 h.2.1 (XA hc hG (k (c i j)) h.2.2)
end
section
variable {f:Nat->Int}{n:Nat}
noncomputable def gK (f:Nat->Int)(p:Array Nat)(i:Nat):Int:=f (p.getD i 0)
noncomputable def cK (f:Nat->Int)(i j:Nat):Bool:=decide (f i<f j)
structure IM (n:Nat)(p:Array Nat):Prop where
 pm:p.toList.Perm (zL n)
def Inj (f:Nat->Int)(n:Nat):Prop:=∀i j,i<n->j<n->f i=f j->i=j
theorem IM.size {p:Array Nat}(h:IM n p):p.size=n:=by
 have:=h.pm.length_eq;simpa using this
theorem jJ {p:Array Nat}{i:Nat}{x:Nat}(h:p[i]?=some x):p.getD i 0=x:=by
 rw[yl,h];rfl
theorem IM.at' {p:Array Nat}(h:IM n p){i:Nat}(hi:i<n):p[i]?=some (p.getD i 0):=by
 have hs:i<p.size:=by rw[h.size];exact hi
 rw[yL hs,jJ (yL hs)]
theorem IM.lt {p:Array Nat}(h:IM n p)(hn:0<n)(i:Nat):p.getD i 0<n:=by
 by_cases hi:i<n
 ·have:=Array.mem_of_getElem? (h.at' hi);have:=h.pm.mem_iff.mp (Array.mem_toList_iff.mpr this);simpa using this
 ·rw[yl,Array.getElem?_eq_none (by rw[h.size];omega)];exact hn
theorem IM.ne {p:Array Nat}(h:IM n p)(hf:Inj f n){i j:Nat}(hi:i<n)(hj:j<n)(ae:i≠j):gK f p i≠gK f p j:=λ e=>by
 have e2:=hf _ _ (h.lt (by omega) i) (h.lt (by omega) j) e;have i5:p.toList.Nodup:=h.pm.nodup_iff.mpr List.nodup_range;have a1:=h.at' hi;have a2:=h.at' hj;rw[e2] at a1;rw[<-xb] at a1 a2;have uv:i<p.toList.length:=by rw[yy,h.size];exact hi
 exact ae ((List.getElem?_inj uv i5).mp (a1.trans a2.symm))
theorem IM.uH {p:Array Nat}(h:IM n p)(s d:Nat):IM n (bubble p s d):=⟨(Array.perm_iff_toList_perm.mp (bubble_perm p s d)).trans h.pm⟩
theorem IM.uI {p:Array Nat}(h:IM n p)(i j d:Nat):IM n (mirror p i j d):=⟨(Array.perm_iff_toList_perm.mp (mirror_perm p i j d)).trans h.pm⟩
def Vu (f:Nat->Int)(p:Array Nat)(k:Nat):Prop:=∀i j,i<j->j<k->gK f p i<gK f p j
def nX (f:Nat->Int)(p:Array Nat)(k:Nat):Prop:=∀i j,i<j->j<k->gK f p j<gK f p i
theorem S4 {p:Array Nat}(h:IM n p)(hf:Inj f n):∀(u m:Nat),1<=m->m+u<=n->Vu f p m->Tq (cK f) n (kas_asc p u m) λ m'=>m<=m'/\m'<=m+u/\Vu f p m'/\(m'<m+u->gK f p m'<gK f p (m'-1))
 |0,m,h1,h2,hs=>⟨zu _,zu _,hs,λ z=>absurd z (Nat.lt_irrefl _)⟩
 |u+1,m,h1,h2,hs=>by
  refine⟨h.lt (by omega) _,h.lt (by omega) _,?_⟩;by_cases e:gK f p m<gK f p (m-1)
  ·rw[show cK f (p.getD m 0) (p.getD (m-1) 0)=true from decide_eq_true e];dsimp only;rw[if_pos rfl];exact⟨zu _,by omega,hs,λ _=>e⟩
  ·rw[show cK f (p.getD m 0) (p.getD (m-1) 0)=false from decide_eq_false e];dsimp only;rw[if_neg zM];have ne:=h.ne hf (i:=m) (j:=m-1) (by omega) (by omega) (by omega);have aP:Vu f p (m+1):=λ i j cv hj=>by
    by_cases ej:j=m
    ·subst ej;by_cases ei:i=j-1
     ·subst ei;omega
     ·have:=hs i (j-1) (by omega) (by omega);omega
    ·exact hs i j cv (by omega)
   refine D4 (λ m' hm=>⟨by omega,by omega,hm.2.2.1,λ z=>hm.2.2.2 (by omega)⟩) _ (S4 h hf u (m+1) (by omega) (by omega) aP)
theorem Ts {p:Array Nat}(h:IM n p)(hf:Inj f n):∀(u m:Nat),1<=m->m+u<=n->nX f p m->Tq (cK f) n (kas_desc u p m 0) λ r=>r.1=p/\r.2.2=0/\m<=r.2.1/\r.2.1<=m+u/\nX f p r.2.1
 |0,m,h1,h2,hs=>⟨rfl,rfl,zu _,zu _,hs⟩
 |u+1,m,h1,h2,hs=>by
  refine⟨h.lt (by omega) _,h.lt (by omega) _,?_⟩;by_cases e:gK f p m<gK f p (m-1)
  ·rw[show cK f (p.getD m 0) (p.getD (m-1) 0)=true from decide_eq_true e];dsimp only;rw[if_pos rfl,if_neg (by omega)];have aP:nX f p (m+1):=λ i j cv hj=>by
    by_cases ej:j=m
    ·subst ej;by_cases ei:i=j-1
     ·subst ei;exact e
     ·have:=hs i (j-1) (by omega) (by omega);omega
    ·exact hs i j cv (by omega)
   exact D4 (λ r hm=>⟨hm.1,hm.2.1,by omega,by omega,hm.2.2.2.2⟩) _ (Ts h hf u (m+1) (by omega) (by omega) aP)
  ·rw[show cK f (p.getD m 0) (p.getD (m-1) 0)=false from decide_eq_false e];dsimp only;rw[if_neg zM];have ne:=h.ne hf (i:=m) (j:=m-1) (by omega) (by omega) (by omega);have e2:gK f p (m-1)<gK f p m:=by omega
   refine⟨h.lt (by omega) _,h.lt (by omega) _,?_⟩;rw[show cK f (p.getD (m-1) 0) (p.getD m 0)=true from decide_eq_true e2];dsimp only;rw[if_pos rfl];exact⟨rfl,rfl,zu _,Nat.le_add_right _ _,hs⟩
theorem Tt {p:Array Nat}(h:IM n p){m:Nat}(hm:m<=n){k:Nat}(hk:k<m):gK f (kas_rev p 0 m) k=gK f p (m-1-k):=by
 unfold gK kas_rev;have:=getElem?_mirror_all (xs:=p) (i:=0) (j:=m) (by rw[h.size];exact hm) k;rw[if_pos ⟨zT _,hk⟩,Nat.zero_add] at this;rw[yl,this,<-yl]
theorem ZI {p:Array Nat}(h:IM n p)(hf:Inj f n){m:Nat}(h1:1<=m)(h2:m<=n)(hs:nX f p m):Tq (cK f) n (kas_tail3 m n p) λ r=>IM n r.2/\1<=r.1/\r.1<=n/\Vu f r.2 r.1:=by
 unfold kas_tail3;have hp:IM n (kas_rev p 0 m):=h.uI _ _ _;have aP:Vu f (kas_rev p 0 m) m:=λ i j cv hj=>by
  rw[Tt h h2 (by omega),Tt h h2 hj];exact hs _ _ (by omega) (by omega)
 refine Fv _ (D4 (λ m' hm=>?_) _ (S4 hp hf (n-m) m h1 (by omega) aP));exact⟨hp,by omega,by omega,hm.2.2.1⟩
theorem XB {p:Array Nat}(h:IM n p)(hf:Inj f n)(h2:2<=n):Tq (cK f) n (kas_count n p) λ r=>IM n r.2/\1<=r.1/\r.1<=n/\Vu f r.2 r.1:=by
 unfold kas_count;refine Fv _ (D4 (λ m hm=>?_) _ (S4 h hf (n-1) 1 (zu _) (by omega) λ i j cv hj=>by omega));by_cases e:m=n
 ·rw[if_pos (by simp[e])];exact⟨h,by omega,by omega,hm.2.2.1⟩
 ·rw[if_neg (by simp[e])];by_cases e1:m > 1
  ·rw[if_pos e1];refine⟨h.lt (by omega) _,h.lt (by omega) _,?_⟩;rw[show cK f (p.getD 0 0) (p.getD (m-1) 0)=true from decide_eq_true (hm.2.2.1 0 (m-1) (by omega) (by omega))];dsimp only;rw[if_pos rfl];exact⟨h,by omega,by omega,hm.2.2.1⟩
  ·rw[if_neg e1];have em:m=1:=by omega
   subst em;have hd:gK f p 1<gK f p 0:=hm.2.2.2 (by omega);unfold kas_descPart;refine Fv _ (D4 (λ r hr=>?_) _ (Ts h hf (n-(1+1)) (1+1) (by omega) (by omega) λ i j cv hj=>?_))
   ·obtain⟨r1,r2,r3,r4,r5⟩:=hr;rw[if_neg (by omega),r1];exact ZI h hf (by omega) (by omega) r5
   ·have ei:i=0:=by omega
    have ej:j=1:=by omega
    subst ei ej;exact hd
theorem Mm {p:Array Nat}(h:IM n p){k:Nat}(hk:k<n)(hs:Vu f p k):∀(u l r:Nat),l<=r->r<=k->r-l<=u->(∀i,i<l->¬ gK f p k<gK f p i)->(∀i,r<=i->i<k->gK f p k<gK f p i)->
 Tq (cK f) n (kas_place p k u l r) λ l'=>l'<=k/\(∀i,i<l'->¬ gK f p k<gK f p i)/\∀i,l'<=i->i<k->gK f p k<gK f p i
 |0,l,r,h1,h2,h3,ha,hb=>by
  have:l=r:=by omega
  subst this;exact⟨h2,ha,hb⟩
 |u+1,l,r,h1,h2,h3,ha,hb=>by
  unfold kas_place;by_cases e:l >= r
  ·rw[if_pos e];have:l=r:=by omega
   subst this;exact⟨h2,ha,hb⟩
  ·rw[if_neg e];have cj:l<=(l+r) / 2:=by omega
   have b7:(l+r) / 2<r:=by omega
   refine⟨h.lt (by omega) _,h.lt (by omega) _,?_⟩;by_cases q:gK f p k<gK f p ((l+r) / 2)
   ·rw[show cK f (p.getD k 0) (p.getD ((l+r) / 2) 0)=true from decide_eq_true q];dsimp only;rw[if_pos rfl];refine Mm h hk hs u l _ cj (by omega) (by omega) ha λ i vK ja=>?_;by_cases ei:i=(l+r) / 2
    ·subst ei;exact q
    ·have:=hs ((l+r) / 2) i (by omega) ja;omega
   ·rw[show cK f (p.getD k 0) (p.getD ((l+r) / 2) 0)=false from decide_eq_false q];dsimp only;rw[if_neg zM];refine Mm h hk hs u _ r (by omega) h2 (by omega) (λ i hi=>?_) hb;by_cases ei:i=(l+r) / 2
    ·subst ei;exact q
    ·have:=hs i ((l+r) / 2) (by omega) (by omega);omega
theorem Tu {p:Array Nat}(h:IM n p){k l:Nat}(hk:k<n)(hl:l<=k)(i:Nat):gK f (bubble p k (k-l)) i=if i=l then gK f p k else if l<i/\i<=k then gK f p (i-1) else gK f p i:=by
 unfold gK;have:=getElem?_bubble (xs:=p) (src:=k) (by rw[h.size];exact hk) (k-l) (by omega) i;have e:k-(k-l)=l:=by omega
 rw[e] at this;rw[yl,this];split
 ·rw[<-yl]
 ·split<;>rw[<-yl]
theorem XC (hf:Inj f n):∀(u k:Nat){p:Array Nat},k+u=n->IM n p->Vu f p k->Tq (cK f) n (kas_bin u p k) λ p'=>IM n p'/\Vu f p' n
 |0,k,p,e,h,hs=>by
  have:k=n:=by omega
  subst this;exact⟨h,hs⟩
 |u+1,k,p,e,h,hs=>by
  unfold kas_bin;refine Fv _ (D4 (λ l hl=>?_) _ (Mm h (by omega) hs k 0 k (zT _) (zu _) (by omega) (λ i hi=>absurd hi (by omega)) λ i h1 h2=>absurd h2 (by omega)));obtain⟨gl,ha,hb⟩:=hl;refine XC hf u (k+1) (by omega) (h.uH _ _) λ i j cv hj=>?_;rw[Tu h (by omega) gl,Tu h (by omega) gl];have lo:∀i,i<l->gK f p i<gK f p k:=λ i hi=>by
   have:=ha i hi;have:=h.ne hf (i:=i) (j:=k) (by omega) (by omega) (by omega);omega
  by_cases ei:i=l
  ·rw[if_pos ei,if_neg (by omega),if_pos (by omega)];exact hb _ (by omega) (by omega)
  ·rw[if_neg ei];by_cases ej:j=l
   ·rw[if_pos ej,if_neg (by omega)];exact lo i (by omega)
   ·rw[if_neg ej];by_cases bi:l<i/\i<=k
    ·rw[if_pos bi,if_pos (by omega)];exact hs _ _ (by omega) (by omega)
    ·rw[if_neg bi];by_cases bj:l<j/\j<=k
     ·rw[if_pos bj];exact hs _ _ (by omega) (by omega)
     ·rw[if_neg bj];exact hs _ _ cv (by omega)
theorem ZJ (hf:Inj f n)(h2:2<=n):Tq (cK f) n (kas_sort n) λ p'=>IM n p'/\Vu f p' n:=by
 unfold kas_sort;have h0:IM n (List.toArray (zL n)):=⟨by simp⟩;refine Fv _ (D4 (λ r hr=>?_) _ (XB h0 hf h2));obtain⟨r1,r2,r3,r4⟩:=hr;by_cases e:r.1<n
 ·rw[if_pos e];have em:max r.1 1=r.1:=by omega
  rw[em];exact XC hf (n-r.1) r.1 (by omega) r1 r4
 ·rw[if_neg e];have en:r.1=n:=by omega
  rw[en] at r4;exact⟨r1,r4⟩
end
structure D8 (h:Heap)(v:Value)(q:Int×Int):Prop where
 at':∃a o t u n,v=.ref a/\h.get? a=some o/\o.cls=.type "tuple" /\ o.data=.seq #[.int q.1 t,.int q.2 u] n
theorem D8.keep {h h':Heap}{v:Value}{q:Int×Int}(x:D8 h v q)(k:∀b o,h.get? b=some o->h'.get? b=some o):D8 h' v q:=by
 obtain⟨a,o,t,u,n,e,ho,r⟩:=x.at';exact⟨a,o,t,u,n,e,k _ _ ho,r⟩
noncomputable def ZK (p q:Int×Int):Bool:=decide (p.1<q.1\/(p.1=q.1/\p.2<q.2))
section
variable {P:Program}{w:World}{A:Around}{E:Value->Shared->Prop}{s:Shared}
theorem ZL {v v':Value}{p q:Int×Int}{C:Bool->Shared->Prop}(hv:D8 s.heap v p)(lp:D8 s.heap v' q)(h:C (ZK p q) s):wpAny (model P w) A (keyLt' (tuples' true) v v') C E s:=by
 obtain⟨a,o,t,u,n,rfl,ho,_,hd⟩:=hv.at';obtain⟨b,o',t',u',n',rfl,be,_,cz⟩:=lp.at';refine kat_lt ho hd be cz ?_;refine kat_cons (SeqAt.EqAt.int_int p.1 t q.1 t' _ _ _ _ ?_);refine kat_go (λ e=>kat_yes (kat_cons (SeqAt.EqAt.int_int p.2 u q.2 u' _ _ _ _ (kat_go (λ e2=>kat_yes (kat_nil ?_)) λ e2=>kat_no ?_)))) λ e=>kat_no ?_
 ·have e1:p.1=q.1:=by simpa using e
  have e3:p.2=q.2:=by simpa using e2
  have:ZK p q=false:=by unfold ZK;rw[e1,e3];simp
  rw[this] at h;exact h
 ·have e1:p.1=q.1:=by simpa using e
  have:ZK p q=decide (p.2<q.2):=by unfold ZK;rw[e1];simp
  rw[this] at h;show wpAny _ _ (oneLt' false (.int p.2 u) (.int q.2 u')) _ _ _;exact kat_one _ _ (lt_int h)
 ·have e1:p.1≠q.1:=by simpa using e
  have:ZK p q=decide (p.1<q.1):=by unfold ZK;simp[e1]
  rw[this] at h;show wpAny _ _ (oneLt' true (.int p.1 t) (.int q.1 t')) _ _ _;exact oneLt_int h
theorem Vd {vs:List Value}{Q:SortKind->Shared->Prop}(ae:0<vs.length)(hv:∀v∈vs,∃q,D8 s.heap v q)(h:Q (tuples' true) s):wpAny (model P w) A (keyKind' vs.toArray) Q E s:=by
 have key:∀l:List Value,(∀v∈l,∃q,D8 s.heap v q)->∃fs,KatTups s.heap l fs/\fs.length=l.length/\∀f∈fs,∃i t,f=Value.int i t:=by
  intro l;induction l with
  |nil=>exact λ _=>⟨[],.nil,rfl,λ f hf=>by cases hf⟩
  |cons v r ih =>
   intro hl;obtain⟨q,hq⟩:=hl v zd;obtain⟨a,o,t,u,n,rfl,ho,hc,hd⟩:=hq.at';obtain⟨fs,k1,k2,k3⟩:=ih λ v hv=>hl v (ze _ hv);refine⟨.int q.1 t::fs,.cons ho hc hd rfl k1,by rw[zq,zq,k2],λ f hf=>?_⟩;rcases zl.mp hf with rfl|hf
   ·exact⟨_,_,rfl⟩
   ·exact k3 f hf
 obtain⟨fs,k1,k2,k3⟩:=key vs hv;refine kat_kind (T:=.type "int") k1 (by omega) (λ f hf=>?_) rfl h;obtain⟨i,t,rfl⟩:=k3 f hf;exact .of_pure rfl
noncomputable def IP (q:Int×Int):Int:=q.1*1000+q.2
theorem jK {p q:Int×Int}(hp:0<=p.2/\p.2<1000)(hq:0<=q.2/\q.2<1000):ZK p q=decide (IP p<IP q):=by
 unfold ZK IP;congr 1;apply propext;constructor<;>intro h<;>omega
theorem Tv {p q:Int×Int}(hp:0<=p.2/\p.2<1000)(hq:0<=q.2/\q.2<1000)(h:IP p=IP q):p=q:=by
 unfold IP at h;exact Prod.ext (by omega) (by omega)
theorem S5 {a:Addr}{vs:List Value}{ps:List (Int×Int)}{n:Nat}{Q:PySem.Fin->Shared->Prop}(ho:s.heap.get? a=some (seqObj "list" vs.toArray n))(ss:vs.length<64)(hl:ps.length=vs.length)(hv:∀(i:Nat) v q,vs[i]?=some v->ps[i]?=some q->D8 s.heap v q)(hb:∀q∈ps,0<=q.2/\q.2<1000)(hn:ps.Nodup)
 (h:∀(I:List Nat),I.Perm (zL vs.length)->(I.map λ i=>ps.getD i (0,0)).Pairwise (λ p q=>IP p<IP q)->Q (.done (.ret .none)) {s with heap:=sortedHeap s.heap a vs (I.map λ i=>vs.getD i yH).toArray}):
 wpAny (model P w) A (Builtin.«list.sort» ⟨[.ref a],[]⟩) Q E s:=by
 rw[list_sort_plain];have ha:a<s.heap.objs.size:=zt ho;apply wpAny_bind;apply listItems_at ho rfl;apply wpAny_bind;refine listUpdate_at ho rfl ?_ (by rw[zh,sizeLine_eq];omega) (zT _);obtain⟨e1,su⟩:∃e1,(s.heap.update a (yv λ _=>(#[]:Array Value))).get? a=some (seqObj "list" #[] e1):=⟨_,get?_update_seq ho λ _=>#[]⟩;apply wpAny_bind;apply seqEpoch_at su rfl;apply wpAny_bind;refine wpAny_newTuple ?_ (by show vs.length<=_;rw[sizeLine_eq];omega);apply wpAny_bind;refine wpAny_newList ?_ (zT _);apply wpAny_holding;have jb:(((s.heap.update a (yv λ _=>(#[]:Array Value))).push (seqObj "tuple" vs.toArray 0)).push (seqObj "list" #[] 0)).get? a=some (seqObj "list" #[] e1):=zj _ (zj _ su);show wpAny (model P w) A _ Q E {s with heap:=((s.heap.update a (yv λ _=>(#[]:Array Value))).push (seqObj "tuple" vs.toArray 0)).push (seqObj "list" #[] 0)};dsimp only;obtain⟨h6,on⟩:∃h6,h6=((s.heap.update a (yv λ _=>(#[]:Array Value))).push (seqObj "tuple" vs.toArray 0)).push (seqObj "list" #[] 0):=⟨_,rfl⟩;have fin:∀(I:List Nat),I.Perm (zL vs.length)->(I.map λ i=>ps.getD i (0,0)).Pairwise (λ p q=>IP p<IP q)->∀(z:Array Value),z=(I.map λ i=>vs.getD i yH).toArray->Q (.done (.ret .none)) {s with heap:=h6.update a (yv λ _=>z)}:=λ I i1 i2 z hz=>by
  rw[hz,on];exact h I i1 i2
 rw[<-on] at jb ⊢;have kp:∀b o,b≠a->s.heap.get? b=some o->h6.get? b=some o:=λ b o hb e=>by
  rw[on];exact zj _ (zj _ ((Heap.get?_update_ne _ _ _ _ hb).trans e))
 have uw:∀(i:Nat) v q,vs[i]?=some v->ps[i]?=some q->D8 h6 v q:=λ i v q hi hq=>by
  obtain⟨b,o,t,u,k,e,g1,g2,g3⟩:=(hv i v q hi hq).at';refine⟨b,o,t,u,k,e,kp b o (λ z=>?_) g1,g2,g3⟩;rw[z,ho] at g1;cases g1;injection g2 with g2
  exact absurd g2 (by decide)
 by_cases h2:vs.toArray.size<2
 ·rw[if_pos h2,if_pos h2];refine wpAny_bind (wpAny_pure ?_);rw[StateT.run_pure];refine wpAny_bind (wpAny_pure ?_);dsimp only;have ez:(arrOf (SortSt.mk' general' (vs.toArray.zip vs.toArray) #[] 7 none)).map (·.2)=((zL vs.length).map λ i=>vs.getD i yH).toArray:=by
   show (vs.toArray.zip vs.toArray).map (·.2)=_;apply Array.ext_getElem?;intro i;simp only[Array.getElem?_map,List.getElem?_toArray,zG];by_cases hi:i<vs.length
   ·rw[List.getElem?_range hi];simp[Array.getElem?_zip_eq_some,hi,zI]
   ·rw[y4 (by simp;omega),Array.getElem?_eq_none (by simp;omega)];rfl
  apply wpAny_bind;apply seqEpoch_at jb rfl;apply wpAny_bind;refine listUpdate_at jb rfl ?_ (zT _) (by rw[ez];simp;rw[sizeLine_eq];omega);simp only[bne_self_eq_false,zC,if_false];refine wpAny_pure (fin _ (.refl _) ?_ _ ez);rw[zh] at h2;have aM:((zL vs.length).map λ i=>ps.getD i (0,0)).length<2:=by simpa using h2
  match hq:(zL vs.length).map λ i=>ps.getD i (0,0),aM with
  |[],_=>exact .nil
  |[x],_=>exact List.pairwise_singleton _ _
  |x::y::r,z=>exact absurd z (by simp only[zq];omega)
 ·rw[if_neg h2,if_neg h2];rw[zh] at h2;have f0:∀i,i<vs.length->∃v q,vs[i]?=some v/\ps[i]?=some q/\vs.getD i yH=v/\ps.getD i (0,0)=q/\D8 h6 v q/\0<=q.2/\q.2<1000:=λ i hi=>by
   have a1:vs[i]?=some vs[i]:=zr hi;have a2:ps[i]?=some (ps[i]'(by omega)):=zr _;exact⟨_,_,a1,a2,by rw[zI,a1];rfl,by rw[zI,a2];rfl,uw i _ _ a1 a2,hb _ (zp a2)⟩
  apply wpAny_bind;refine Vd (s:={s with heap:=h6}) (by omega) (λ v hv=>?_) ?_
  ·obtain⟨i,hi⟩:=List.mem_iff_getElem?.mp hv;obtain⟨v',q,b1,_,_,_,b5,_⟩:=f0 i (zy.mp hi).1;rw[hi] at b1;cases b1;exact⟨q,b5⟩
  have oq:Inj (λ i=>IP (ps.getD i (0,0))) vs.length:=λ i j hi hj e=>by
   obtain⟨_,q,_,b2,_,b4,_,b6⟩:=f0 i hi;obtain⟨_,q',_,d2,_,d4,_,d6⟩:=f0 j hj;dsimp only at e;rw[b4,d4] at e;have:=Tv b6 d6 e;subst this;exact (List.getElem?_inj (by omega) hn).mp (b2.trans d2.symm)
  have oy:∀(i j:Nat) (C:Bool->Shared->Prop),i<vs.length->j<vs.length->C (cK (λ i=>IP (ps.getD i (0,0))) i j) {s with heap:=h6}->kas_ask P w A (tuples' true) vs i j C {s with heap:=h6}:=λ i j C hi hj hC=>by
   obtain⟨v,q,_,_,b3,b4,b5,b6⟩:=f0 i hi;obtain⟨v',q',_,_,d3,d4,d5,d6⟩:=f0 j hj;unfold kas_ask;rw[b3,d3];refine ZL (s:={s with heap:=h6}) b5 d5 ?_;subst b4 d4;rw[jK b6 d6];exact hC
  refine wpAny_bind (wpAny_mono (kat_run (ks:=vs) (vs:=vs) (κ:=tuples' true) (s:={s with heap:=h6}) (Q:=λ bL s'=>∃p:Array Nat,arrOf bL=p.map (kas_item (vs.toArray.zip vs.toArray))/\failedOf bL=none/\IM vs.length p/\Vu (λ i=>IP (ps.getD i (0,0))) p vs.length/\s'={s with heap:=h6}) (G:=λ p s'=>IM vs.length p/\Vu (λ i=>IP (ps.getD i (0,0))) p vs.length/\s'={s with heap:=h6})
   rfl (by omega) ss (λ p bL s' _ a2 a3 a4=>⟨p,a2,a3,a4⟩) (XA oy (λ p hp=>⟨hp.1,hp.2,rfl⟩) _ (ZJ oq (by omega)))) ?_ λ _ _ e=>e)
  rintro ⟨⟨⟩,bL⟩ s' ⟨p,o0,hf,hp,ux,rfl⟩;dsimp only;have jc:=kat_snds rfl o0;apply wpAny_bind;apply seqEpoch_at jb rfl;apply wpAny_bind;refine listUpdate_at jb rfl ?_ (zT _) (by rw[jc];simp;rw[hp.size,sizeLine_eq];omega);rw[hf];simp only[bne_self_eq_false,zC,if_false];refine wpAny_pure (fin p.toList hp.pm ?_ _ jc);rw[List.pairwise_map,List.pairwise_iff_getElem];intro i j hi hj cv;rw[yy,hp.size] at hi hj;have:=ux i j cv hj;unfold gK at this;have g1:=hp.at' hi;have g2:=hp.at' hj;rw[<-xb,zy] at g1 g2;obtain⟨_,g1⟩:=g1;obtain⟨_,g2⟩:=g2;rw[g1,g2];exact this
end
section
variable {P:Program}{w:World}{A:Around}{E:Value->Shared->Prop}{s:Shared}{d:Addr}{es:Array DictEntry}{ep:Nat}
theorem S6 {R:List Value->Shared->Prop}(hh:A.handled=none)(lo:(d==sysModules)=false)(x:Jo s.heap d es ep)(hz:es.size<=sizeLine)
 (q:∀(h':Heap) (tk:Nat) (acc:Array Value),(∀b o,s.heap.get? b=some o->h'.get? b=some o)->s.heap.objs.size<h'.objs.size->ItemsOf (λ i v=>∃hi:i<es.size,v=es[i].key) acc es.size->R acc.toList {s with heap:=h',toks:=tk}):wpAny (model P w) A (collect (.ref d)) R E s:=by
 rw[collect];apply wpAny_bind;apply wpAny_runValue;apply codeAny_builtin entry_proto_collect';rw[yQ PySem.F.plain_proto_collect _];refine wpAny_bind (m:=newList []) ?_;refine wpAny_newObj_type (wpAny_pure ⟨plainId_quiet PySem.F.plain_list_iadd _,codeAny_builtin entry_list_iadd' ?_⟩);rw[yQ PySem.F.plain_list_iadd _];have g0:(s.heap.push {cls:=.type "list",data:=.seq ([]:List Value).toArray}).get? s.heap.objs.size=some {cls:=.type "list",data:=.seq #[]}:=zD _ rfl;have key:=kdl_extend (prog:=P) (w:=w) (A:=A) (s:={s with heap:=s.heap.push {cls:=.type "list",data:=.seq ([]:List Value).toArray} })
  (R:=λ r s'=>∃h' tk acc c,r=.ok (.ret (.ref s.heap.objs.size))/\s'={s with heap:=h',toks:=tk}/\(∀b o,s.heap.get? b=some o->h'.get? b=some o)/\h'.get? s.heap.objs.size=some {cls:=.type "list",dict:=none,data:=.seq acc c,slots:=#[]}/\ItemsOf (λ i v=>∃hi:i<es.size,v=es[i].key) acc es.size)
  (jI lo) hh (x.keep λ o e=>zj _ e) s.heap.objs.size (Nat.ne_of_gt x.lt) (Nat.ne_of_gt x.lt) (.ref s.heap.objs.size) 0 g0
  (λ h' tk acc c kp gS hi=>⟨h',tk,acc,c,rfl,rfl,λ b o e=>kp b o (zJ (zt e)) (zj _ e),gS,hi⟩) hz
 have last:∀ {h':Heap} {tk:Nat} {acc:Array Value} {c:Nat},(∀b o,s.heap.get? b=some o->h'.get? b=some o)->h'.get? s.heap.objs.size=some {cls:=.type "list",dict:=none,data:=.seq acc c,slots:=#[]}->ItemsOf (λ i v=>∃hi:i<es.size,v=es[i].key) acc es.size->
  wpAny (model P w) A (load s.heap.objs.size >>= λ o=>match o.data with | .seq xs _=>pure xs.toList|_=>unsupported "internal:collect") R E {s with heap:=h',toks:=tk}:=λ kp gS hi =>
  wpAny_bind (wpAny_load gS (wpAny_pure (q _ _ _ kp (zt gS) hi)))
 refine wpAny_mono key (λ fin s' z=>?_) λ e s' z=>?_
 ·cases fin with
  |done f =>
   obtain⟨h',tk,acc,c,e,rfl,kp,gS,hi⟩:=z;cases e;exact last kp gS hi
  |again c1 =>
   refine⟨z.1,codeAny_mono z.2 λ r s2 y=>?_⟩;obtain⟨h',tk,acc,c,rfl,rfl,kp,gS,hi⟩:=y;exact last kp gS hi
 ·obtain⟨_,_,_,_,e',_⟩:=z;cases e'
theorem Ve {ps:List (Int×Int)}{Q:Value->Shared->Prop}(hh:A.handled=none)(lo:(d==sysModules)=false)(x:Jo s.heap d es ep)(ss:es.size<64)(hl:ps.length=es.size)(hv:∀(i:Nat) (hi:i<es.size) q,ps[i]?=some q->D8 s.heap es[i].key q)(hb:∀q∈ps,0<=q.2/\q.2<1000)(hn:ps.Nodup)
 (h:∀(h':Heap) (tk:Nat) (D:Addr) (c:Nat) (I:List Nat) (vs:List Value),(∀b o,s.heap.get? b=some o->h'.get? b=some o)->s.heap.objs.size<=D->vs.length=es.size->(∀(i:Nat) (hi:i<es.size),vs[i]?=some es[i].key)->h'.get? D=some (seqObj "list" (I.map λ i=>vs.getD i yH).toArray c)->I.Perm (zL es.size)->(I.map λ i=>ps.getD i (0,0)).Pairwise (λ p q=>IP p<IP q)->Q (.ref D) {s with heap:=h',toks:=tk}):
 wpAny (model P w) A (call (.builtin "sorted") [.ref d]) Q E s:=by
 apply Calls.call_function_entry kind_sorted plain_sorted entry_sorted (args_sorted1 _);rw[Builtin.«sorted»];refine wpAny_bind (m:=checkCount "sorted" 1 1 _) (wpAny_pure ?_);apply wpAny_bind;refine S6 hh lo x (by rw[sizeLine_eq];omega) λ h1 tk acc kp sv hi=>?_;have hsz:acc.size=es.size:=hi.1;have aN:∀(i:Nat) (hi:i<es.size),acc.toList[i]?=some es[i].key:=λ i ja=>by
  have e:acc[i]?=some (acc[i]'(by omega)):=yL _;obtain⟨_,e2⟩:=hi.2 i _ e;rw[xb,e,e2]
 apply wpAny_bind;refine wpAny_newList ?_ (by rw[yy,hsz,sizeLine_eq];omega);have dk:(h1.push (seqObj "list" acc.toList.toArray 0)).get? h1.objs.size=some (seqObj "list" acc.toList.toArray 0):=zD _ rfl;have o4:∀b o,s.heap.get? b=some o->(h1.push (seqObj "list" acc.toList.toArray 0)).get? b=some o:=λ b o e=>zj _ (kp b o e);show wpAny _ _ _ _ _ {s with heap:=h1.push (seqObj "list" acc.toList.toArray 0),toks:=tk};refine wpAny_bind (wpAny_holding (wpAny_call_entry slot_list_sort ⟨_,dk,rfl⟩ entry_list_sort ?_ (args_list_sort _)));have hlen:acc.toList.length=es.size:=by rw[yy,hsz]
 refine S5 (s:={s with heap:=h1.push (seqObj "list" acc.toList.toArray 0),toks:=tk}) (ps:=ps) dk (by omega) (by omega) (λ i v q hi hq=>?_) hb hn λ I i1 i2=>⟨_,rfl,wpAny_pure ⟨_,rfl,?_⟩⟩
 ·have am:i<es.size:=by rw[<-hlen];exact (zy.mp hi).1
  rw[aN i am] at hi;cases hi;exact (hv i am q hq).keep o4
 ·obtain⟨c,hc⟩:=sortedHeap_at (out:=(I.map λ i=>acc.toList.getD i yH).toArray) dk;refine h _ tk _ c I acc.toList (λ b o e=>?_) (yi sv) hlen aN hc (by rw[<-hlen];exact i1) i2;have am:b<s.heap.objs.size:=zt e;exact (sortedHeap_old (zJ (Nat.lt_trans am sv)) (zt (o4 b o e))).trans (o4 b o e)
end
noncomputable def XD (p:Int×Int):List Key:=[.inl p.1,.inl p.2]
noncomputable def Vf (x:Int×Int):List (Int×Int)->List (Int×Int)
 |[]=>[x]
 |y::r=>if IP x<IP y then x::y::r else y::Vf x r
noncomputable def Kw:List (Int×Int)->List (Int×Int)
 |[]=>[]
 |x::r=>Vf x (Kw r)
theorem K8 (x:Int×Int):∀l,(Vf x l).Perm (x::l)
 |[]=>.refl _
 |y::r=>by
  unfold Vf;split
  ·exact .refl _
  ·exact ((K8 x r).cons y).trans (.swap x y r)
theorem Ea:∀l,(Kw l).Perm l
 |[]=>.refl _
 |x::r=>(K8 x (Kw r)).trans ((Ea r).cons x)
theorem Tw {x:Int×Int}:∀ {l:List (Int×Int)},(∀y∈l,IP x≠IP y)->l.Pairwise (λ p q=>IP p<IP q)->(Vf x l).Pairwise λ p q=>IP p<IP q
 |[],_,_=>List.pairwise_singleton _ _
 |y::r,hx,h=>by
  unfold Vf;have hy:=yp.mp h;split
  ·rename_i bJ;exact yp.mpr ⟨λ z hz=>by
    rcases zl.mp hz with rfl|hz
    ·exact bJ
    ·have:=hy.1 z hz;omega,h⟩
  ·rename_i bJ;have:=hx y zd;exact yp.mpr ⟨λ z hz=>by
    rcases zl.mp ((K8 x r).mem_iff.mp hz) with rfl|hz
    ·omega
    ·exact hy.1 z hz,Tw (λ z hz=>hx z (ze _ hz)) hy.2⟩
theorem QH:∀ {l:List (Int×Int)},(∀q∈l,0<=q.2/\q.2<1000)->l.Nodup->(Kw l).Pairwise λ p q=>IP p<IP q
 |[],_,_=>.nil
 |x::r,hb,hn=>by
  have cp:=yd.mp hn;refine Tw (λ y hy e=>?_) (QH (λ q hq=>hb q (ze _ hq)) cp.2);have dq:=(Ea r).mem_iff.mp hy;have:=Tv (hb x zd) (hb y (ze _ dq)) e;subst this;exact cp.1 dq
theorem Tx:∀ {a b:List (Int×Int)},a.Perm b->a.Pairwise (λ p q=>IP p<IP q)->b.Pairwise (λ p q=>IP p<IP q)->a=b
 |[],b,hp,_,_=>(List.nil_perm.mp hp).symm
 |x::r,[],hp,_,_=>by have:=hp.length_eq;simp at this
 |x::r,y::t,hp,ha,hb=>by
  have i7:=yp.mp ha;have a5:=yp.mp hb;have e:x=y:=by
   have h1:x∈y::t:=hp.mem_iff.mp zd;have h2:y∈x::r:=hp.mem_iff.mpr zd;rcases zl.mp h1 with e|h1
   ·exact e
   rcases zl.mp h2 with e|h2
   ·exact e.symm
   have:=i7.1 _ h2;have:=a5.1 _ h1;omega
  subst e;rw[Tx (List.Perm.cons_inv hp) i7.2 a5.2]
section
variable {X:Cx}{WX:Str->Hp->Prop}{c:Bool}{P0:Dn}{P:Addr->Prop}{H:Hp}{σ:St}{ρ:Aa}{a b e:Expr}{f g:Aa->M D}{fn:Aa->M OT}{pos:Pos}{te:TE}
noncomputable def nA (te:TE):TE:=λ σ H Q=>te σ H λ x H1=>∃a kvs ps,x=.ref a/\Rd H1 a (.dT kvs)/\kvs.map zZ=ps.map XD/\(∀q∈ps,0<=q.2/\q.2<1000)/\ps.Nodup/\ps.length<64/\
 ∀ts:List Addr,ts.length=ps.length->(∀(i:Nat) t q,ts[i]?=some t->(Kw ps)[i]?=some q->H1 t=some (.tup ((XD q).map kV)))->∀r,H1 r=none->Q (.ref r) (upd H1 r (.lst (ts.map V.ref)))
theorem ZM {s:Shared}{pins:List (Addr×Obj)}(I:Inv X pins σ H s){t:Addr}{q:Int×Int}(h:H t=some (.tup ((XD q).map kV))):D8 s.heap (.ref t) q:=by
 obtain⟨_,aa,r,o,h1,h2,n,h3⟩:=(show Bp X.prog X.w H s.heap t (.tup ((XD q).map kV)) from I.Av t _ h);have r':Vals [V.int q.1,V.int q.2] aa:=r;obtain⟨v1,r1,rfl,e1,r2⟩:∃v1 r1,aa=v1::r1/\RelV (.int q.1) v1/\Vals [V.int q.2] r1:=by
  cases r' with
  |cons a b=>exact⟨_,_,rfl,a,b⟩
 obtain⟨v2,r3,rfl,e2,r4⟩:∃v2 r3,r1=v2::r3/\RelV (.int q.2) v2/\Vals [] r3:=by
  cases r2 with
  |cons a b=>exact⟨_,_,rfl,a,b⟩
 cases r4;obtain⟨t1,rfl⟩:=e1;obtain⟨t2,rfl⟩:=e2;exact⟨t,o,t1,t2,n,rfl,h1,h2,h3⟩
theorem QI:∀l:List Addr,Vals (l.map V.ref) (l.map ya)
 |[]=>.nil
 |t::r=>.cons rfl (QI r)
theorem Tz:∀ {kvs:List (List Key×V)}{ps:List (Int×Int)},(kvs.map λ kv=>D.tup (kv.1.map EA))=ps.map pD->kvs.map zZ=ps.map XD
 |[],[],_=>rfl
 |[],_::_,h|_::_,[],h=>by cases h
 |kv::kvs,q::ps,h=>by
  rw[zg,zg] at h;injection h with h1 h2
  injection h1 with h1
  have e:kv.1=XD q:=Tp (h1.trans rfl);rw[zg,zg,Tz h2,e]
theorem S7 {p:Pos}(hc:X.calm=true)(hg:Gl X "sorted")(hm:X.mg "sorted" = none)(he:PE X e te)
 (hv:bootBuiltins "sorted" = some (.builtin "sorted"):=by decide +kernel) (hs:starEach [e] X.env=[(false,eval e X.env)]:=by rfl):
 PE X (.Call (.Name "sorted" p) [e] [] pos) (nA te):=by
 intro pins s σ H Q I h;refine wpAny_Call_Name_kw (Ew I hg hm hv ?_);refine PyProof.Rows.callWith_builtin1 ?_ hs;rw[hs];refine Calls.spliced_cons (Bc (he pins s σ H _ I h) λ u s1 ⟨x,H1,I1,r1,q1⟩=>?_);obtain⟨l,kvs,ps,rfl,ha,hk,hb,hn,oa,h⟩:=q1;cases r1;refine Calls.spliced_nil ?_;obtain⟨n1,es,ep,xs,r,da⟩:=jH I1 ha;have zs:=size_of_entries da.en;have zk:kvs.length=ps.length:=by have:=congrArg List.length hk;rwa[zf,zf] at this
 have zx:kvs.length=xs.length:=Paired.length r;have ck:∀(i:Nat) (hi:i<es.size),∃t q,es[i].key=.ref t/\ps[i]?=some q/\H1 t=some (.tup ((XD q).map kV)):=λ i hi=>by
  obtain⟨y,hy⟩:∃y,xs[i]?=some y:=⟨xs[i]'(by omega),zr _⟩;have ex:=entry_at da.en i;rw[yL hi,hy] at ex;obtain⟨kv,g1,g2⟩:=mZ.get r hy;obtain⟨q,hq⟩:∃q,ps[i]?=some q:=⟨ps[i]'(by omega),zr _⟩;have e:=congrArg (λ l=>l[i]?) hk;rw[zG,zG,g1,hq] at e;have e2:kv.1=XD q:=zH e;rw[e2] at g2;exact⟨y.2.1,q,by rw[zH ex];rfl,hq,g2⟩
 refine Ve (I1.ok.hd hc) n1 da.ob (by omega) (by omega) (λ i hi q hq=>?_) hb hn λ h' tk D c I vs kp hD vL aN hl i1 i2=>?_
 ·obtain⟨t,q',k1,k2,k3⟩:=ck i hi;rw[hq] at k2;cases k2;rw[k1];exact ZM I1 k3
 ·obtain⟨tf,sw⟩:∃tf:Nat->Addr,∀i,i<es.size->∃q,vs[i]?=some (.ref (tf i))/\ps[i]?=some q/\H1 (tf i)=some (.tup ((XD q).map kV)):=⟨λ i=>if hi:i<es.size then zm (ck i hi) else 0,λ i hi=>by
   dsimp only;rw[dif_pos hi];obtain⟨q,k1,k2,k3⟩:=zb (ck i hi);exact⟨q,(aN i hi).trans (congrArg some k1),k2,k3⟩⟩
  have hI:∀i∈I,i<es.size:=λ i hi=>by simpa using i1.mem_iff.mp hi
  have eo:(I.map λ i=>ps.getD i (0,0))=Kw ps:=by
   refine Tx (List.Perm.trans ?_ (Ea ps).symm) i2 (QH hb hn);refine (i1.map _).trans (.of_eq ?_);apply List.ext_getElem?;intro i;rw[zG];by_cases hi:i<es.size
   ·rw[List.getElem?_range hi];obtain⟨q,hq⟩:∃q,ps[i]?=some q:=⟨ps[i]'(by omega),zr _⟩;rw[yq,zI,hq];rfl
   ·rw[y4 (by simp;omega),y4 (by omega)];rfl
  have ev:(I.map λ i=>vs.getD i yH)=(I.map tf).map ya:=by
   rw[yr];refine List.map_congr_left λ i hi=>?_;obtain⟨q,k1,_,_⟩:=sw i (hI i hi);rw[zI,k1];rfl
  rw[ev] at hl;have vM:I.length=es.size:=by have:=i1.length_eq;simpa using this
  refine⟨.ref D,_,I1.laid (t':=tk) (o:=.lst ((I.map tf).map V.ref)) kp hD ⟨?_,(I.map tf).map ya,c,QI _,hl⟩,rfl,h (I.map tf) (by rw[zf];omega) (λ i t q ht hq=>?_) D (I1.Av.fresh hD)⟩
  ·rw[zf,zf];exact yi (AG (by omega))
  ·rw[<-eo] at hq;rw[zG] at ht hq;cases qi:I[i]? with
   |none=>rw[qi] at ht;cases ht
   |some j =>
    rw[qi] at ht hq;cases ht;have hj:=hI j (zp qi);obtain⟨q',_,k2,k3⟩:=sw j hj;have:q=q':=by
     have:ps.getD j (0,0)=q:=zH hq;rw[zI,k2] at this;exact this.symm
    subst this;exact k3
noncomputable def XE:D->Option (Int×Int)
 | .tup [.int x,.int y]=>some (x,y)
 |_=>none
theorem XF {k:D}{q:Int×Int}(h:XE k=some q):k=pD q:=by
 unfold XE at h;split at h
 ·cases h;rfl
 ·cases h
noncomputable def jL:List D->Option (List (Int×Int))
 |[]=>some []
 |k::r=>(match XE k,jL r with|some q,some ps=>some (q::ps)|_,_=>none)
theorem TB:∀ps:List (Int×Int),jL (ps.map pD)=some ps
 |[]=>rfl
 |p::r=>by
  have e:XE (pD p)=some p:=rfl;rw[zg,jL,e,TB r]
theorem TC:∀ {ks:List D}{ps:List (Int×Int)},jL ks=some ps->ks=ps.map pD
 |[],ps,h=>by cases h;rfl
 |k::r,ps,h=>by
  rw[jL] at h;cases q1:XE k with
  |none=>rw[q1] at h;cases h
  |some q =>
   cases q2:jL r with
   |none=>rw[q1,q2] at h;cases h
   |some t9 =>
    rw[q1,q2] at h;cases h;rw[zg,XF q1,TC q2]
noncomputable def ZN (d:D):M OT:=match d with
 | .Bh true ks _=>(match jL ks with|some ps=>if (∀q∈ps,0<=q.2/\q.2<1000)/\ps.Nodup/\ps.length<64 then .ok (.lst (((Kw ps).map pD).map .sh)) else .bad|none=>.bad)
 |_=>.bad
theorem QJ {K:za}{H:Hp}{P:Addr->Prop}(ht:∀a,P a->El H a):∀ {ts:List Addr}{ps:List (Int×Int)},ts.length=ps.length->(∀(i:Nat) t q,ts[i]?=some t->ps[i]?=some q->H t=some (.tup ((XD q).map kV)))->Ag K (del H P) (ts.map V.ref) (ps.map pD)
 |[],[],_,_=>.nil
 |[],_::_,h,_|_::_,[],h,_=>by cases h
 |t::ts,q::ps,h,hh=>by
  have h0:=hh 0 t q rfl rfl;have nt:¬ P t:=λ z=>by
   obtain⟨ob,z1,z2⟩:=ht t z;rw[h0] at z1;cases z1;exact (z2 _).1 rfl
  refine .cons ?_ (QJ ht (by simpa using h) λ i t' q' h1 h2=>hh (i+1) t' q' h1 h2);exact .tup (xs:=(XD q).map kV) (by rw[AE nt];exact h0) (.cons (.int _) (.cons (.int _) .nil))
theorem S8 {p:Pos}(hc:X.calm=true)(hg:Gl X "sorted")(hm:X.mg "sorted" = none)(he:DE X WX true e f)
 (hv:bootBuiltins "sorted" = some (.builtin "sorted"):=by decide +kernel) (hs:starEach [e] X.env=[(false,eval e X.env)]:=by rfl):
 DN X WX (.Call (.Name "sorted" p) [e] [] pos) (λ ρ=>(f ρ).bind ZN):=by
 obtain⟨te,e1,e2⟩:=he;refine⟨_,S7 hc hg hm e1 hv hs,λ P0 P σ H Q ρ E h=>?_⟩;refine e2 P0 P σ H _ ρ E ?_;dsimp only at h;cases q:f ρ with
 |bad|ex x=>rw[q] at h;exact h
 |ok d =>
  rw[q] at h;simp only[M.A6] at h;intro v H1 s1 hv;unfold ZN at h;split at h
  ·rename_i ks vs;split at h
   ·rename_i ps eb;have ek:=TC eb;split at h
    ·rename_i hl;cases hv with
     | @Ic a kvs _ hh aM =>
      have tk:=(E.same s1).Cf;exact⟨a,kvs,ps,rfl,hh.Bi,Tz ek,hl.1,hl.2.1,hl.2.2,λ ts h1 h2 r hr=>h.JQ s1 (QJ tk (by rw[(Ea ps).length_eq];exact h1) h2) r hr⟩
    ·exact h.elim
   ·exact h.elim
  ·exact h.elim
end
noncomputable def nB (A:LA):List (Int×Int):=Kw (A.map zZ)
theorem ZO {A:LA}{p:Int×Int}:p∈nB A↔(Bm A p).isSome=true:=by
 unfold nB;rw[(Ea _).mem_iff,HH]
noncomputable def XG (rs:List Road)(p c:Int×Int)(i:Nat):Bool:=match rs[i]? with
 |some r=>decide (r.a=p.1/\r.b=p.2/\BS r=some c)
 |none=>false
noncomputable def KQ (rs:List Road)(p c:Int×Int):Nat:=((zL rs.length).filter (XG rs p c)).headD 0
theorem TF {rs:List Road}{p c:Int×Int}(h:∃r∈rs,r.a=p.1/\r.b=p.2/\BS r=some c):∃(r:Road) (t:List Nat),(zL rs.length).filter (XG rs p c)=KQ rs p c::t/\rs[KQ rs p c]?=some r/\r.a=p.1/\r.b=p.2/\BS r=some c:=by
 obtain⟨r,hr,h1⟩:=h;obtain⟨i,hi⟩:=List.mem_iff_getElem?.mp hr;have hm:i∈(zL rs.length).filter (XG rs p c):=yf.mpr ⟨yM.mpr (zy.mp hi).1,by unfold XG;rw[hi];exact decide_eq_true h1⟩;unfold KQ;cases q:(zL rs.length).filter (XG rs p c) with
 |nil=>rw[q] at hm;cases hm
 |cons n t =>
  have hn:n∈(zL rs.length).filter (XG rs p c):=by rw[q];exact zd
  have hb:=(yf.mp hn).2;unfold XG at hb;cases z:rs[n]? with
  |none=>rw[z] at hb;cases hb
  |some r' =>
   rw[z] at hb;have a5:r'.a=p.1/\r'.b=p.2/\BS r'=some c:=by simpa using hb
   exact⟨r',t,rfl,z,a5⟩
noncomputable def dI (rs:List Road)(A:LA):Nat->Int×Int->List Nat
 |0,_=>[]
 |k+1,p=>match Bm A p with
  |none=>[]
  |some (c,none)=>[KQ rs p c]
  |some (_,some q)=>dI rs A k (p.1,q)++dI rs A k (q,p.2)
noncomputable def Jp (L:List Int)(p:Int×Int):Nat:=min (C4 L p.1) (C4 L p.2)
inductive TH (rs:List Road):Int->List Nat->Int->Int->Prop
 |nil (x:Int):TH rs x [] x 0
 |cons {x y l s:Int} {n:Nat} {N:List Nat} {r:Road}:rs[n]?=some r->r.a=x->r.l=some l->TH rs r.b N y s->TH rs x (n::N) y (l+s)
theorem TH.uJ {rs:List Road}{x q y s t:Int}{N M:List Nat}(h:TH rs x N q s)(k:TH rs q M y t):TH rs x (N++M) y (s+t):=by
 induction h with
 |nil x=>simpa using k
 |cons h1 h2 h3 _ ih =>
  have:=TH.cons h1 h2 h3 (ih k);simpa [Int.add_assoc] using this
theorem TH.inv {rs:List Road}{x y s:Int}{n:Nat}{N:List Nat}(h:TH rs x (n::N) y s):∃r l t,rs[n]?=some r/\r.a=x/\r.l=some l/\TH rs r.b N y t/\s=l+t:=by
 cases h with
 |cons h1 h2 h3 h4=>exact⟨_,_,_,h1,h2,h3,h4,rfl⟩
section
variable {m:Nat}{rs:List Road}{L:List Int}{A:LA}{K:List (Int×Int)}
theorem Fw (ok:Ft m rs L A K){p c:Int×Int}{mid:Option Int}(h:Bm A p=some (c,mid)):(p.1∈L/\p.2∈L/\p.1≠p.2)/\(mid=none->∃r∈rs,r.a=p.1/\r.b=p.2/\BS r=some c)/\∀q,mid=some q->C4 L q<Jp L p/\q∈L/\∃a b ma mb,Bm A (p.1,q)=some (a,ma)/\Bm A (q,p.2)=some (b,mb)/\c=(a.1+b.1,a.2+b.2):=by
 obtain⟨x,y⟩:=p;have hn:=Me ok.pm;rw[ok.la] at h;have df:A9 (Ba rs L) (x,y)=some c:=by unfold A9;rw[h];rfl
 obtain⟨_,ae,uz,u3⟩:=(Mg ok.pm ok.ok).2.snd x y c df;have hx:=(BV ok.pm).mpr uz;have hy:=(BV ok.pm).mpr u3;have hf:=Vb (rs:=rs) hn hx hy ae;have h0:∀c p,Bm (lay0 rs) (x,y)≠some (c,some p):=λ c p h=>by cases (Tn rs x y c _ h).1
 have hF:=jF (cd:=λ p=>AJ (A9 (Ba rs L) (x,p)) (A9 (Ba rs L) (p,y))) h0 (L.take (min (C4 L x) (C4 L y)));unfold ZC at hf;rw[<-hf] at hF;refine⟨⟨hx,hy,ae⟩,λ e=>?_,λ q e=>?_⟩
 ·subst e;exact (Tn rs x y c none (hF.Az c h)).2
 ·subst e;obtain⟨⟨W1,W2,e1,e2,_⟩,_⟩:=hF.mid c q h;have hq:q∈L.take (min (C4 L x) (C4 L y)):=by rw[e1];simp
  obtain⟨q1,q2⟩:=QD hn hq;obtain⟨a,b,ha,hb,rfl⟩:=HE e2;have ex:∀ {z:Int×Int} {d:Int×Int},A9 (Ba rs L) z=some d->∃md,Bm A z=some (d,md):=fun {z d} hd=>by
   rw[ok.la];unfold A9 at hd;cases w:Bm (Ba rs L) z with
   |none=>rw[w] at hd;cases hd
   |some v=>rw[w] at hd;cases hd;exact⟨v.2,rfl⟩
  obtain⟨ma,h1⟩:=ex ha;obtain⟨mb,h2⟩:=ex hb;exact⟨q2,q1,a,b,ma,mb,h1,h2,rfl⟩
theorem XH {p:Int×Int}{q:Int}(h:C4 L q<Jp L p):Jp L (p.1,q)=C4 L q/\Jp L (q,p.2)=C4 L q:=by
 unfold Jp at *;dsimp only;omega
theorem Jq (ok:Ft m rs L A K):∀(k k':Nat) (p:Int×Int),Jp L p<k->Jp L p<k'->dI rs A k p=dI rs A k' p
 |0,_,_,h,_|_+1,0,_,_,h=>absurd h (Nat.not_lt_zero _)
 |k+1,k'+1,p,h,h'=>by
  unfold dI;cases q:Bm A p with
  |none=>rfl
  |some z =>
   obtain⟨c,mid⟩:=z;cases mid with
   |none=>rfl
   |some v =>
    obtain⟨_,_,h3⟩:=Fw ok q;obtain⟨hv,_,_⟩:=h3 v rfl;obtain⟨e1,e2⟩:=XH hv;dsimp only;rw[Jq ok k k' (p.1,v) (by omega) (by omega),Jq ok k k' (v,p.2) (by omega) (by omega)]
noncomputable def C5 (rs:List Road)(L:List Int)(A:LA)(p:Int×Int):List Nat:=dI rs A (Jp L p+1) p
theorem QK (ok:Ft m rs L A K){p c:Int×Int}{v:Int}(h:Bm A p=some (c,some v)):C5 rs L A p=C5 rs L A (p.1,v)++C5 rs L A (v,p.2):=by
 obtain⟨_,_,h3⟩:=Fw ok h;obtain⟨hv,_,_⟩:=h3 v rfl;obtain⟨e1,e2⟩:=XH hv
 conv=>lhs;unfold C5 dI;rw[h]
 dsimp only;unfold C5;rw[Jq ok (Jp L p) (Jp L (p.1,v)+1) (p.1,v) (by omega) (by omega),Jq ok (Jp L p) (Jp L (v,p.2)+1) (v,p.2) (by omega) (by omega)]
theorem O8 {p c:Int×Int}(h:Bm A p=some (c,none)):C5 rs L A p=[KQ rs p c]:=by
 unfold C5 dI;rw[h]
structure XI (rs:List Road)(L:List Int)(p c:Int×Int)(N:List Nat):Prop where
 ch:TH rs p.1 N p.2 c.1
 ln:(N.length:Int)=c.2
 ne:1<=N.length
 up:N.length<=2^Jp L p
 lo:∀n∈N.tail,∀r,rs[n]?=some r->C4 L r.a<Jp L p
theorem K9 (ok:Ft m rs L A K):∀(k:Nat){p c:Int×Int}{mid:Option Int},Jp L p=k->Bm A p=some (c,mid)->XI rs L p c (C5 rs L A p):=by
 intro k;induction k using Nat.strongRecOn with
 |ind k ih =>
  intro p c mid hk h;obtain⟨_,h2,h3⟩:=Fw ok h;cases mid with
  |none =>
   rw[O8 h];obtain⟨r,t,_,hr,ha,hb,hc⟩:=TF (h2 rfl);obtain⟨l,hl,rfl⟩:=Jk hc;refine⟨?_,rfl,zu _,Nat.one_le_two_pow,λ n hn=>by cases hn⟩;have:=TH.cons hr ha hl (.nil r.b);rw[hb] at this;simpa using this
  |some v =>
   obtain⟨hv,_,a,b,ma,mb,f1,f2,rfl⟩:=h3 v rfl;obtain⟨e1,e2⟩:=XH hv;have u1:=ih (C4 L v) (by omega) e1 f1;have u2:=ih (C4 L v) (by omega) e2 f2;rw[QK ok h];have p2:2^(C4 L v)+2^(C4 L v)<=2^Jp L p:=by
    have:2^(C4 L v+1)<=2^Jp L p:=Nat.pow_le_pow_right (by decide) (by omega);rw[Nat.pow_succ] at this;omega
   have l1:=u1.up;have l2:=u2.up;rw[e1] at l1;rw[e2] at l2;refine⟨u1.ch.uJ u2.ch,?_,?_,?_,λ n hn r hr=>?_⟩
   ·rw[zB,Int.natCast_add,u1.ln,u2.ln]
   ·rw[zB];have:=u1.ne;omega
   ·rw[zB];omega
   ·have n1:=u1.ne;rcases zK.mp (by
     have:(C5 rs L A (p.1,v)++C5 rs L A (v,p.2)).tail=(C5 rs L A (p.1,v)).tail++C5 rs L A (v,p.2):=by
      cases q:C5 rs L A (p.1,v) with
      |nil=>rw[q] at n1;cases n1
      |cons x xs=>rfl
     rw[this] at hn;exact hn) with hn|hn
    ·have:=u1.lo n hn r hr;omega
    ·cases q:C5 rs L A (v,p.2) with
     |nil=>rw[q] at hn;cases hn
     |cons x xs =>
      rw[q] at hn;rcases zl.mp hn with rfl|hn
      ·have ch:=u2.ch;rw[q] at ch;obtain⟨r',_,_,g1,g2,_⟩:=ch.inv;rw[g1] at hr;cases hr;rw[g2];exact hv
      ·have:=u2.lo n (by rw[q];exact hn) r hr;omega
end
noncomputable def pW (m:Nat):List (Nat×Nat):=(zL m).flatMap λ i=>((zL m).filter λ j=>decide (i≠j)).map λ j=>(i,j)
theorem ZP:∀m,m<=8->(pW m).length<64:=by decide
theorem En.pX {m:Nat}{A:LA}(h:En m A)(hm:m<=8):(A.map zZ).length<64:=by
 have key:=K0 (l:=A.map zZ) (u:=(pW m).map λ q=>((q.1:Int),(q.2:Int))) h.nd λ p hp=>by
  obtain⟨h0,h1,h2⟩:=h.rg p hp;refine zP.mpr ⟨(p.1.toNat,p.2.toNat),List.mem_flatMap.mpr ⟨p.1.toNat,yM.mpr (by omega),zP.mpr ⟨p.2.toNat,yf.mpr ⟨yM.mpr (by omega),decide_eq_true (by omega)⟩,rfl⟩⟩,?_⟩;dsimp only;rw[Int.toNat_of_nonneg h1.1,Int.toNat_of_nonneg h2.1]
 have:=ZP m hm;rw[zf (as:=pW m)] at key;omega
theorem ZQ {m:Nat}{A:LA}(hA:En m A)(hm:m<=8):ZN (Ip A)=.ok (.lst (((nB A).map pD).map .sh)):=by
 have e:Ip A=.Bh true ((A.map zZ).map pD) (A.map λ kv=>Rb kv.2):=by unfold Ip;rw[yr];rfl
 rw[e];unfold ZN;dsimp only;rw[TB];dsimp only;rw[if_pos ⟨λ q hq=>by have:=(hA.rg q hq).2.2;omega,hA.nd,hA.pX hm⟩];rfl
theorem Vg (rs:List Road):HR 0 (rs.map CZ)=(zL rs.length).map λ i:Nat=>D.tup [.int (i:Int),CZ (rs.getD i ⟨0,0,none,0⟩)]:=by
 apply List.ext_getElem?;intro i;rw[zG];by_cases hi:i<rs.length
 ·obtain⟨e,he⟩:∃e,(HR 0 (rs.map CZ))[i]?=some e:=⟨_,zr (by rw[Dp,zf];exact hi)⟩;obtain⟨d,hd,rfl⟩:=Hf he;obtain⟨r,hr,rfl⟩:=BJ hd;rw[he,List.getElem?_range hi,yq,zI,hr,Nat.zero_add];rfl
 ·rw[y4 (by rw[Dp,zf];omega),y4 (by rw[List.length_range];omega)];rfl
theorem Vh {ρ:Aa}{i:Nat}{xs:List D}{d:D}(h:ρ[i]?=some (some (.own (xs++[d])))):X5 i ρ [] (xs++[d])=.ok (ρ.set i (some (.own xs)),.sh d):=by
 rw[T4 h (p:=none) (t:=.lst ((xs++[d]).map .sh)) rfl (d:=d) (by simp)];rw[Cm,List.dropLast_concat,toCl_list]
noncomputable def QL (rs:List Road)(L:List Int)(A:LA)(W:List (Int×Int)):List Nat:=W.flatMap (C5 rs L A)
noncomputable def dJ (rs:List Road)(L:List Int)(A:LA):List (Int×Int)->Nat
 |[]=>0
 |p::W=>2*(C5 rs L A p).length-1+dJ rs L A W
theorem OV {m:Nat}{rs:List Road}{L:List Int}{A:LA}{K:List (Int×Int)}(ok:Ft m rs L A K):∀ {W:List (Int×Int)},(∀p∈W,(Bm A p).isSome=true)->W.length<=(QL rs L A W).length
 |[],_=>zu _
 |p::W,h=>by
  obtain⟨z,hz⟩:=yk.mp (h p zd);have:=(K9 ok _ (c:=z.1) (mid:=z.2) rfl hz).ne;have ih:=OV ok λ q hq=>h q (ze _ hq);show W.length+1<=(C5 rs L A p++QL rs L A W).length;rw[zB];omega
section
variable {X:Cx}{WX:Str->Hp->Prop}{c:Bool}{a b d:Expr}{f g h:Aa->M D}{pos:Pos}
theorem Vi {op bq:CmpOp}{p q:Int->Int->Bool}(ho:FA X (compareOp op) (TY λ i j=>.bl (p i j)))(be:FA X (compareOp bq) (TY λ i j=>.bl (q i j)))(ha:DE X WX c a f)(hb:DE X WX c b g)(hd:DE X WX c d h)
 (hm:lastMarks [op,bq] [b,d]=false:=by with_unfolding_all rfl):DT X WX (.Compare a [op,bq] [b,d] pos) (λ ρ=>((f ρ).bind λ x=>(g ρ).bind λ y=>B3 (λ i j=>if p i j=true then (h ρ).bind λ z=>B3 (λ _ k=>.ok (.bl (q j k))) (.int 0) z else .ok (.bl false)) x y).bind Lx):=by
 obtain⟨ta,a1,a2⟩:=ha;obtain⟨tb,b1,b2⟩:=hb;obtain⟨td,d1,d2⟩:=hd;refine⟨_,VN ho be a1 b1 d1 hm,λ P0 P σ H Q0 ρ E u4=>?_⟩;unfold VJ;have hh:=cP (K:=X.K) (P:=Lv c P0 P) u4;refine a2 P0 P σ H _ ρ E ?_;cases e:f ρ with
 |bad|ex x=>rw[e] at hh;exact hh
 |ok x =>
  rw[e] at hh;intro v H1 s1 hv;refine b2 P0 P σ H1 _ ρ (E.same s1) ?_;cases e2:g ρ with
  |bad=>rw[e2] at hh;exact hh
  |ex y=>rw[e2] at hh;exact gV.same (m:=.ex y) hh s1
  |ok y =>
   rw[e2] at hh;simp only[M.A6] at hh;unfold B3 at hh;split at hh
   ·rename_i i j;intro w H2 s2 hw;refine⟨i,j,hv.int_inv,hw.int_inv,p i j,rfl,?_⟩;dsimp only at hh;by_cases hp:p i j=true
    ·rw[if_pos hp] at hh ⊢;refine d2 P0 P σ H2 _ ρ ((E.same s1).same s2) ?_;cases e3:h ρ with
     |bad=>rw[e3] at hh;exact hh
     |ex z=>rw[e3] at hh;exact gV.same (gV.same (m:=.ex z) hh s1) s2
     |ok z =>
      rw[e3] at hh;simp only[M.A6] at hh;cases z with
      |int k=>exact λ u H3 s3 hu=>⟨j,k,hw.int_inv,hu.int_inv,hh _ H3 ((s1.trans s2).trans s3) (.bl _)⟩
      |_=>exact hh.elim
    ·rw[if_neg hp] at hh ⊢;exact hh _ H2 (s1.trans s2) (.bl _)
   ·exact hh.elim
end
end L2
set_option maxHeartbeats 4000000
namespace cw
open PySem L2
noncomputable def top (i:Nat):Stmt:=PySem.Challenge.pw_nodeladder_k32_unpacked_walked.main.body.getD i (.Pass ⟨0,0,0,0⟩)
noncomputable abbrev CT:Stmt:=top 7
theorem Jr:Ah ["thing","bound"] ["thing","bound"] (A4 CT):=⟨rfl,rfl,rfl,by decide +kernel,rfl,by decide +kernel,by decide +kernel⟩
noncomputable abbrev FW:Stmt:=top 8
theorem MY:Ah ["thing"] ["thing"] (A4 FW):=⟨rfl,rfl,rfl,by decide +kernel,rfl,by decide +kernel,by decide +kernel⟩
noncomputable abbrev Ka:Stmt:=top 9
theorem S9:Ah ["thing","many"] ["thing","many"] (A4 Ka):=⟨rfl,rfl,rfl,by decide +kernel,rfl,by decide +kernel,by decide +kernel⟩
noncomputable abbrev Mn:Stmt:=top 10
theorem Kb:Ah ["thing","many","roads"] ["thing"] (A4 Mn):=⟨rfl,rfl,rfl,by decide +kernel,rfl,by decide +kernel,by decide +kernel⟩
noncomputable abbrev Kc:Stmt:=top 11
theorem Sa:Ah ["thing"] ["thing"] (A4 Kc):=⟨rfl,rfl,rfl,by decide +kernel,rfl,by decide +kernel,by decide +kernel⟩
noncomputable abbrev OW:Stmt:=top 12
theorem XJ:Ah ["one","other"] ["one","other"] (A4 OW):=⟨rfl,rfl,rfl,by decide +kernel,rfl,by decide +kernel,by decide +kernel⟩
noncomputable abbrev OX:Stmt:=top 13
theorem XM:Ah ["some"] ["some"] (A4 OX):=⟨rfl,rfl,rfl,by decide +kernel,rfl,by decide +kernel,by decide +kernel⟩
noncomputable abbrev GI:Stmt:=top 14
theorem OY:Ah ["road"] ["road"] (A4 GI):=⟨rfl,rfl,rfl,by decide +kernel,rfl,by decide +kernel,by decide +kernel⟩
noncomputable abbrev EE:Stmt:=top 16
theorem Mo:Ah ["laid","pair"] ["laid","pair"] (A4 EE):=⟨rfl,rfl,rfl,by decide +kernel,rfl,by decide +kernel,by decide +kernel⟩
noncomputable abbrev XN:Stmt:=top 17
theorem jM:Ah ["laid","pair","cost","middle"] ["laid","pair","cost","middle"] (A4 XN):=⟨rfl,rfl,rfl,by decide +kernel,rfl,by decide +kernel,by decide +kernel⟩
noncomputable abbrev Ir:Stmt:=top 18
theorem Eu:Ah ["laid","place","higher","u","w","cost"] ["laid","place","higher"] (A4 Ir):=⟨rfl,rfl,rfl,by decide +kernel,rfl,by decide +kernel,by decide +kernel⟩
noncomputable abbrev GJ:Stmt:=top 19
theorem Cq:Ah ["net","order","laid","road","rank","place"] ["net","order"] (A4 GJ):=⟨rfl,rfl,rfl,by decide +kernel,rfl,by decide +kernel,by decide +kernel⟩
noncomputable abbrev Iv:Stmt:=top 21
theorem QM:Ah ["net","thing"] ["net","thing"] (A4 Iv):=⟨rfl,rfl,rfl,by decide +kernel,rfl,by decide +kernel,by decide +kernel⟩
noncomputable abbrev D9:Stmt:=top 22
theorem Kd:Ah ["net","thing"] ["net","thing"] (A4 D9):=⟨rfl,rfl,rfl,by decide +kernel,rfl,by decide +kernel,by decide +kernel⟩
noncomputable abbrev FX:Stmt:=top 23
theorem EF:Ah ["net","bows","road"] ["net"] (A4 FX):=⟨rfl,rfl,rfl,by decide +kernel,rfl,by decide +kernel,by decide +kernel⟩
noncomputable abbrev Eb:Stmt:=top 24
theorem BB:Ah ["bows","left","place","ahead","behind","missing","u"] ["bows","left","place"] (A4 Eb):=⟨rfl,rfl,rfl,by decide +kernel,rfl,by decide +kernel,by decide +kernel⟩
noncomputable abbrev Iw:Stmt:=top 25
theorem QN:Ah ["bows","left"] ["bows","left"] (A4 Iw):=⟨rfl,rfl,rfl,by decide +kernel,rfl,by decide +kernel,by decide +kernel⟩
noncomputable abbrev Mp:Stmt:=top 26
theorem DL:Ah ["net","bows","left","order","place","bow"] ["net"] (A4 Mp):=⟨rfl,rfl,rfl,by decide +kernel,rfl,by decide +kernel,by decide +kernel⟩
noncomputable abbrev FY:Stmt:=top 28
theorem Bn:Ah ["net","start","costs","changed","road","cost"] ["net","start"] (A4 FY):=⟨rfl,rfl,rfl,by decide +kernel,rfl,by decide +kernel,by decide +kernel⟩
noncomputable abbrev Cr:Stmt:=top 30
theorem Iy:Ah ["net","order"] ["net","order"] (A4 Cr):=⟨rfl,rfl,rfl,by decide +kernel,rfl,by decide +kernel,by decide +kernel⟩
noncomputable abbrev GL:Stmt:=top 31
theorem Di:Ah ["net","laid","kept","u","costs"] ["net","laid"] (A4 GL):=⟨rfl,rfl,rfl,by decide +kernel,rfl,by decide +kernel,by decide +kernel⟩
noncomputable abbrev FZ:Stmt:=top 32
theorem HU:Ah ["net","arc","cost","numbers"] ["net","arc","cost"] (A4 FZ):=⟨rfl,rfl,rfl,by decide +kernel,rfl,by decide +kernel,by decide +kernel⟩
noncomputable abbrev Al:Stmt:=inClass (top 33) 0
theorem Iz:Ah ["self","net","order"] ["self","net","order"] (A4 Al):=⟨rfl,rfl,rfl,by decide +kernel,rfl,by decide +kernel,by decide +kernel⟩
noncomputable abbrev Ec:Stmt:=inClass (top 33) 2
theorem KR:Ah ["self"] ["self"] (A4 Ec):=⟨rfl,rfl,rfl,by decide +kernel,rfl,by decide +kernel,by decide +kernel⟩
noncomputable abbrev EG:Stmt:=inClass (top 33) 3
theorem Mq:Ah ["self"] ["self"] (A4 EG):=⟨rfl,rfl,rfl,by decide +kernel,rfl,by decide +kernel,by decide +kernel⟩
noncomputable abbrev BK:Stmt:=inClass (top 33) 4
theorem CC:Ah ["self","u","w","many"] ["self","u","w"] (A4 BK):=⟨rfl,rfl,rfl,by decide +kernel,rfl,by decide +kernel,by decide +kernel⟩
noncomputable abbrev EH:Stmt:=inClass (top 33) 5
theorem Mr:Ah ["self","u","w"] ["self","u","w"] (A4 EH):=⟨rfl,rfl,rfl,by decide +kernel,rfl,by decide +kernel,by decide +kernel⟩
noncomputable abbrev Cs:Stmt:=inClass (top 33) 7
theorem Be:Ah ["self","u","w","roads","waiting","arc","middle"] ["self","u","w"] (A4 Cs):=⟨rfl,rfl,rfl,by decide +kernel,rfl,by decide +kernel,by decide +kernel⟩
noncomputable abbrev EI:Stmt:=inClass (top 33) 8
theorem Ms:Ah ["self"] ["self"] (A4 EI):=⟨rfl,rfl,rfl,by decide +kernel,rfl,by decide +kernel,by decide +kernel⟩
noncomputable abbrev GN:Stmt:=top 35
theorem G0:Ah ["_law_cell","_law_k","_law_number"] ["_law_cell","_law_k"] (A4 GN):=⟨rfl,rfl,rfl,by decide +kernel,rfl,by decide +kernel,by decide +kernel⟩
noncomputable abbrev IA:Stmt:=top 36
theorem Bl:Ah ["_law_cell","_law_many","_law_mixed_here","_law_one","_law_other","_law_way","_law_length"] ["_law_cell","_law_many"] (A4 IA):=⟨rfl,rfl,rfl,by decide +kernel,rfl,by decide +kernel,by decide +kernel⟩
noncomputable abbrev Ke:Stmt:=top 37
theorem Ed:Ah ["_law_cells","_law_most","_law_head","_law_many","_law_roads"] ["_law_cells","_law_most"] (A4 Ke):=⟨rfl,rfl,rfl,by decide +kernel,rfl,by decide +kernel,by decide +kernel⟩
noncomputable abbrev GO:Stmt:=top 38
theorem G1:Ah ["_law_many","_law_cell","_law_order_here","_law_k"] ["_law_many","_law_cell"] (A4 GO):=⟨rfl,rfl,rfl,by decide +kernel,rfl,by decide +kernel,by decide +kernel⟩
noncomputable abbrev G2:Stmt:=top 39
theorem AY:Ah ["_law_land","_law_order_here","_law_pair","_law_roads","_law_length","_law_place","_law_low","_law_k","_law_number","_law_road_here"] ["_law_land","_law_order_here","_law_pair","_law_roads"] (A4 G2):=⟨rfl,rfl,rfl,by decide +kernel,rfl,by decide +kernel,by decide +kernel⟩
noncomputable abbrev GP:Stmt:=top 40
theorem BM:Ah ["_law_ladder","_law_land","_law_order_here","_law_u","_law_w","_law_roads","_law_due","_law_again"] ["_law_ladder","_law_land","_law_order_here"] (A4 GP):=⟨rfl,rfl,rfl,by decide +kernel,rfl,by decide +kernel,by decide +kernel⟩
noncomputable abbrev Gi:Stmt:=top 41
theorem Kf:Ah ["_law_script","_law_cells","_law_land","_law_order_here","_law_line","_law_ladder"] ["_law_script"] (A4 Gi):=⟨rfl,rfl,rfl,by decide +kernel,rfl,by decide +kernel,by decide +kernel⟩
structure Txt (K:za)(mg:Str->Option Value):Prop where
 Kg:B5 K mg "is_whole_below" CT ["thing","bound"]
 OZ:B5 K mg "is_measure" FW ["thing"]
 Vj:B5 K mg "is_road" Ka ["thing","many"]
 XO:B5 K mg "is_map" Mn ["thing"]
 Vk:B5 K mg "checked" Kc ["thing"]
 ZR:B5 K mg "added" OW ["one","other"]
 ZS:B5 K mg "least" OX ["some"]
 QO:B5 K mg "road_cost" GI ["road"]
 MZ:B5 K mg "cost_so_far" EE ["laid","pair"]
 nE:B5 K mg "lay" XN ["laid","pair","cost","middle"]
 Sb:B5 K mg "lay_over" Ir ["laid","place","higher"]
 QP:B5 K mg "laid_arcs" GJ ["net","order"]
 Sd:B5 K mg "is_order" Iv ["net","thing"]
 KS:B5 K mg "checked_order" D9 ["net","thing"]
 P5:B5 K mg "first_bows" FX ["net"]
 Mt:B5 K mg "missing_bows" Eb ["bows","left","place"]
 Se:B5 K mg "lightest" Iw ["bows","left"]
 XQ:B5 K mg "ranked" Mp ["net"]
 P6:B5 K mg "costs_from" FY ["net","start"]
 Js:B5 K mg "order_or_ranked" Cr ["net","order"]
 QQ:B5 K mg "kept_arcs" GL ["net","laid"]
 P7:B5 K mg "road_under" FZ ["net","arc","cost"]
 Jt:RV K mg "Ladder" "Ladder.__init__" Al ["self","net","order"]
 Mu:Kt K "Ladder" "order" "Ladder.order" Ec ["self"]
 N0:Kt K "Ladder" "arcs" "Ladder.arcs" EG ["self"]
 GQ:Kt K "Ladder" "checked_arc" "Ladder.checked_arc" BK ["self","u","w"]
 N1:Kt K "Ladder" "cost" "Ladder.cost" EH ["self","u","w"]
 Ju:Kt K "Ladder" "unpacked" "Ladder.unpacked" Cs ["self","u","w"]
 N2:Kt K "Ladder" "kept" "Ladder.kept" EI ["self"]
 QR:B5 K mg "_law_mixed" GN ["_law_cell","_law_k"]
 Sf:B5 K mg "_law_road" IA ["_law_cell","_law_many"]
 Vl:B5 K mg "_law_map" Ke ["_law_cells","_law_most"]
 QS:B5 K mg "_law_order" GO ["_law_many","_law_cell"]
 P8:B5 K mg "_law_walked" G2 ["_law_land","_law_order_here","_law_pair","_law_roads"]
 QT:B5 K mg "_law_right" GP ["_law_ladder","_law_land","_law_order_here"]
 sI:B5 K mg "law" Gi ["_law_script"]
 dM:mg "all" = none
 XR:mg "bool" = none
 GR:mg "enumerate" = none
 dN:mg "int" = none
 B9:mg "isinstance" = none
 Mv:mg "len" = none
 G3:mg "list" = none
 XS:mg "min" = none
 Jv:mg "range" = none
 QU:mg "sorted" = none
 dO:mg "sum" = none
 P9:mg "tuple" = none
 ZT:ClsAt K mg "NoArc"
 ZU:ClsAt K mg "NoMap"
 Vm:ClsAt K mg "NoOrder"
 Ee:HS K "Ladder" "kept_ones"
 Bo:HS K "Ladder" "laid"
 Bb:HS K "Ladder" "own_map"
 C6:HS K "Ladder" "own_order"
local macro_rules | `(tactic| simp_arith [$xs,*])=>`(tactic| simp only [iC,iD,Hz,List.set_cons_zero,List.set_cons_succ,M.A6,Dr,Dq,ES,F4,F5,F6,Ho,FO,GF,Kr,EV,EW,Ds,NK,Hl,Hm,EX,UB,Dt,Du,CP,JR,BI,JS,EY,EZ,Dv,NL,EU,Cm,toCl_list,toCl_listP,toCl_dct,Hq,F7,F8,F9,Fb,Hr,Fc,Fe,Ff,cW,cV,F0,NM,F1,NO,F2,F3,Hn,NP,jW,jX,UE,UG,UH,UI,UJ,UK,toCl_nil,Gz,Jd,Lx,JT,Dw,Hs,Ht,Fg,Fh,Hu,Hv,Hw,Hx,Hy,Fi,Fj,Fl,Fm,Dx,Dy,Dz,DB,DC,Fn,DD,DF,NQ,NR,NS,NT,NU,DH,ite_tt,ite_ff,Bool.not_true,Bool.not_false,List.getElem?_cons_zero,List.getElem?_cons_succ,CS,Fp,Fq,UD,V2,UC,V5,V6,V7,HG,K1,K2,K3,Ce,DK,HI,JX,Vc,O7,K7,$xs,*])
variable {P:Program}{w:World}{K:za}{mg:Str->Option Value}{base:Heap}
theorem Ct:∃F:List D->M OT,(∀ {P w K mg base},Txt K mg->CY P w K mg base "is_whole_below" 1 2 F)/\(∀(d:D) (n:Int),SG d=false->F [d,.int n]=.ok (.sh (.bl (Jy d n)))):=by
 refine⟨_,λ T=>B0 (k:=0) T.Kg Jr _ (λ f B6 A outer s H E hr=>(A7 (Aj (AU (RE (FG (PZ _) rfl T.B9 rfl T.dN (by decide +kernel) (A1 0 (pv 0))) (RE (fW (FG (Nw _) rfl T.B9 rfl T.XR (by decide +kernel) (A1 0 (pv 0)))) (RD (Ud cL cJ A5 (A1 0 (pv 0)) (A1 1 (pv 1)))))))))),?_⟩;intro d n hx;have e0:AI ["thing","bound"] [d,.int n]=[some (.val d),some (.val (.int n))]:=rfl;rw[e0];refine Bw ?_;simp_arith[PY hx];cases d with
 |int j =>
  simp_arith[];unfold Jy;by_cases h1:0<=j<;>by_cases h2:j<n<;>simp[h1,h2,FK,CS]<;>rfl
 |Dl x|ins x n d=>cases hx
 |_=>rfl
noncomputable def Gj:List D->M OT:=zm Ct
theorem AO:Txt K mg->CY P w K mg base "is_whole_below" 1 2 Gj:=(zb Ct).1
theorem AF:∀(d:D) (n:Int),SG d=false->Gj [d,.int n]=.ok (.sh (.bl (Jy d n))):=(zb Ct).2
theorem EJ:∃F:List D->M OT,(∀ {P w K mg base},Txt K mg->CY P w K mg base "is_measure" 2 1 F)/\(∀d:D,SG d=false->F [d]=.ok (.sh (.bl (Jy d Pk)))):=by
 refine⟨_,λ T=>B0 (k:=1) T.OZ MY _ (λ f B6 A outer s H E hr=>(A7 (Aj (Ak Ab.toXCall (AO T) (hr.mono (by decide)) rfl (A2 (A1 0 (pv 0)) (A2 (Ox A5 A5) A8)) rfl)))),?_⟩;intro d hx;have e0:AI ["thing"] [d]=[some (.val d)]:=rfl;rw[e0];have h1:=AF d Pk hx;refine Bw ?_;simp_arith[dD,h1];rfl
noncomputable def Kx:List D->M OT:=zm EJ
theorem HV:Txt K mg->CY P w K mg base "is_measure" 2 1 Kx:=(zb EJ).1
theorem HW:∀d:D,SG d=false->Kx [d]=.ok (.sh (.bl (Jy d Pk))):=(zb EJ).2
theorem IB:∃F:List D->M OT,(∀ {P w K mg base},Txt K mg->CY P w K mg base "is_road" 3 2 F)/\(∀(d:D) (m:Int),cl 1 d->F [d,.int m]=.ok (.sh (.bl (ED m d)))):=by
 refine⟨_,λ T=>B0 (k:=2) T.Vj S9 _ (λ f B6 A outer s H E hr=>(A3 (B4 (DW.dt (Eo (BQ (Bz (c:=true) (FG (Lz _) rfl T.B9 rfl T.P9 (by decide +kernel) (A1 0 (pv 0))))) (CH (Gx (c:=true) (AZ hr 16 (by decide)) (Ig rfl T.Mv (A1 0 (pv 0))) A5)))) (A7 (Aj (AU Cy))) As) (A3 (B4 (DW.dt (Eo (BQ (Bz (c:=true) (Aq (Ak Ab.toXCall (AO T) (hr.mono (by decide)) rfl (A2 (Ac (AZ hr 16 (by decide)) (A1 0 (pv 0)) A5) (A2 (A1 1 (pv 1)) A8)) rfl)))) (CH (BQ (Bz (c:=true) (Aq (Ak Ab.toXCall (AO T) (hr.mono (by decide)) rfl (A2 (Ac (AZ hr 16 (by decide)) (A1 0 (pv 0)) A5) (A2 (A1 1 (pv 1)) A8)) rfl))))))) (A7 (Aj (AU Cy))) As) (A3 (B4 (IY (c:=true) (AZ hr 16 (by decide)) (Ac (AZ hr 16 (by decide)) (A1 0 (pv 0)) A5) (Ac (AZ hr 16 (by decide)) (A1 0 (pv 0)) A5)) (A7 (Aj (AU Cy))) As) (A7 (Aj (AU (RE (lX (fV (Ac (AZ hr 16 (by decide)) (A1 0 (pv 0)) A5)) (RD (Aq (Ak Ab.toXCall (HV T) (hr.mono (by decide)) rfl (A2 (Ac (AZ hr 16 (by decide)) (A1 0 (pv 0)) A5) A8) rfl)))) (RD (Aq (Ak Ab.toXCall (HV T) (hr.mono (by decide)) rfl (A2 (Ac (AZ hr 16 (by decide)) (A1 0 (pv 0)) A5) A8) rfl))))))))))),?_⟩;intro d m hc;have e0:AI ["thing","many"] [d,.int m]=[some (.val d),some (.val (.int m))]:=rfl;rw[e0];have hx:=hc.x;refine Bw ?_;cases d with
 |tup ds =>
  have cA:∀e∈ds,SG e=false:=λ e he=>(hc.2 ds (.inl rfl) e he).x;rcases ds with _|⟨a,_|⟨b,_|⟨l,_|⟨w,_|⟨z,r⟩⟩⟩⟩⟩
  ·rfl
  ·rfl
  ·rfl
  ·rfl
  ·have i0:B1 (.tup [a,b,l,w]) (.int 0)=.ok a:=rfl;have i1:B1 (.tup [a,b,l,w]) (.int 1)=.ok b:=rfl;have i2:B1 (.tup [a,b,l,w]) (.int 2)=.ok l:=rfl;have i3:B1 (.tup [a,b,l,w]) (.int 3)=.ok w:=rfl;have ha:=AF a m (cA a (by simp));have hb:=AF b m (cA b (by simp));have hl:=HW l (cA l (by simp));have hw:=HW w (cA w (by simp));apply wp_step
   ·rfl
   unfold ED;dsimp only;cases qa:Jy a m with
   |false=>simp_arith[i0,ha,qa,FK];rfl
   |true =>
    cases qb:Jy b m with
    |false=>simp_arith[i0,i1,ha,hb,qa,qb,FK];rfl
    |true =>
     apply wp_step
     ·simp_arith[i0,i1,ha,hb,qa,qb,FK];rfl
     cases a with
     |int x =>
      cases b with
      |int y =>
       have he:Ao (.int x) (.int y)=decide (x=y):=by rw[Ao];by_cases h:x=y<;>simp[h]
       rw[he];by_cases bJ:x=y
       ·simp_arith[i0,i1,decide_eq_true bJ];rfl
       ·apply wp_step
        ·simp_arith[i0,i1,decide_eq_false bJ];rfl
        rw[decide_eq_false bJ];simp_arith[i2,i3,hl,hw];cases BD l<;>cases Jy l Pk<;>cases Jy w Pk<;>rfl
      |_=>cases qb
     |_=>cases qa
  ·have ae:¬ (((a::b::l::w::z::r).length:Nat):Int)=4:=by simp only[zq];omega
   simp_arith[decide_eq_false ae];rfl
 |Dl x|ins x n d=>cases hx
 |_=>rfl
noncomputable def QV:List D->M OT:=zm IB
theorem Sg:Txt K mg->CY P w K mg base "is_road" 3 2 QV:=(zb IB).1
theorem Sh:∀(d:D) (m:Int),cl 1 d->QV [d,.int m]=.ok (.sh (.bl (ED m d))):=(zb IB).2
theorem Kh:∃F:List D->M OT,(∀ {P w K mg base},Txt K mg->CY P w K mg base "is_map" 4 1 F)/\(∀d:D,cl 3 d->F [d]=.ok (.sh (.bl (Df d)))):=by
 refine⟨_,λ T=>B0 (k:=3) T.XO Kb _ (λ f B6 A outer s H E hr=>(A3 (B4 (DW.dt (Eo (BQ (Bz (c:=true) (FG (Lz _) rfl T.B9 rfl T.P9 (by decide +kernel) (A1 0 (pv 0))))) (CH (Gx (c:=true) (AZ hr 16 (by decide)) (Ig rfl T.Mv (A1 0 (pv 0))) A5)))) (A7 (Aj (AU Cy))) As) (A3 (AD 1 Kb.nd rfl (Or.inr rfl) (Ac (AZ hr 16 (by decide)) (A1 0 (pv 0)) A5)) (A3 (AD 2 Kb.nd rfl (zY rfl) (Ac (AZ hr 16 (by decide)) (A1 0 (pv 0)) A5)) (A3 (B4 (DW.dt (Eo (BQ (Bz (c:=true) (Aq (Ak Ab.toXCall (AO T) (hr.mono (by decide)) rfl (A2 (A1 1 (pv 1)) (A2 A5 A8)) rfl)))) (CH (IY (c:=true) (AZ hr 16 (by decide)) (A1 1 (pv 1)) A5)))) (A7 (Aj (AU Cy))) As) (A3 (B4 (DW.dt (Eo (BQ (Bz (c:=true) (FG (JH _) rfl T.B9 rfl T.G3 (by decide +kernel) (A1 2 (pv 2))))) (CH (Wh (c:=true) (Ig rfl T.Mv (A1 2 (pv 2))) A5)))) (A7 (Aj (AU Cy))) As) (A7 (Aj (AU (WC rfl rfl T.dM (Aq (FL (NB:=["road","many"]) [none,some 1] rfl (B7 (A1 2 (pv 2))) rfl rfl (BG 0 (by decide) rfl rfl rfl) (λ _ _ _ _=>Hh) (λ _ _ _ _=>(Aq (FI (Ak (EB rfl).toXCall (Sg T) (hr.mono (by decide)) rfl (A2 (A1 0 (pv 0)) (A2 (A1 1 (pv 1)) A8)) rfl)))))))))))))))),?_⟩;intro d hc;have e0:AI ["thing","many","roads"] [d]=[some (.val d),none,none]:=rfl;rw[e0];have hx:=hc.x;refine Bw ?_;cases d with
 |tup ds =>
  have cA:∀e∈ds,cl 2 e:=λ e he=>hc.2 ds (.inl rfl) e he;rcases ds with _|⟨n,_|⟨r,_|⟨z,t⟩⟩⟩
  ·rfl
  ·rw[V3];rfl
  ·have i0:B1 (.tup [n,r]) (.int 0)=.ok n:=rfl;have i1:B1 (.tup [n,r]) (.int 1)=.ok r:=rfl;have hn:=AF n 17 (cA n (by simp)).x;have hr:=cA r (by simp);have sx:=hr.x;apply wp_step
   ·rfl
   apply wp_step
   ·simp_arith[i0];rfl
   apply wp_step
   ·simp_arith[i1];rfl
   cases qn:Jy n 17 with
   |false =>
    have e1:Df (.tup [n,r])=false:=by
     cases n with
     |int m=>cases r with
      |lst rs=>unfold Df;dsimp only;rw[qn];rfl
      |_=>rfl
     |_=>rfl
    rw[e1];simp_arith[hn,qn,FK];rfl
   |true =>
    cases n with
    |int m =>
     by_cases hm:m=0
     ·have e1:Df (.tup [.int m,r])=false:=by
       cases r with
       |lst rs=>unfold Df;dsimp only;rw[decide_eq_true hm];simp
       |_=>rfl
      rw[e1];simp_arith[hn,qn,FK,decide_eq_true hm];rfl
     ·apply wp_step
      ·simp_arith[hn,qn,FK,decide_eq_false hm];rfl
      cases r with
      |lst rs =>
       by_cases hl:rs.length<=60
       ·have bD:¬ (60:Int)<(rs.length:Int):=by omega
        have aM:rs.length<=1000:=by omega
        apply wp_step
        ·simp_arith[decide_eq_false bD];rfl
        simp_arith[if_pos aM];rw[Nz (λ d=>.bl (ED m d)) rs]
        ·have e2:(rs.map λ d=>D.bl (ED m d))=(rs.map (ED m)).map D.bl:=by rw[yr];rfl
         rw[e2];unfold Df;dsimp only;rw[qn,decide_eq_true hl,decide_eq_false hm];simp_arith[Bool.true_and];rfl
        ·intro d hd;have:=Sh d m (hr.2 rs (.inr rfl) d hd);exact⟨_,rfl,rfl,by simp_arith[this]⟩
       ·have bD:(60:Int)<(rs.length:Int):=by omega
        unfold Df;dsimp only;rw[decide_eq_false hl];simp_arith[decide_eq_true bD,Bool.false_and,Bool.and_false];rfl
      |Dl x|ins x n d=>cases sx
      |_=>rfl
    |_=>cases qn
  ·have ae:¬ (((n::r::z::t).length:Nat):Int)=2:=by simp only[zq];omega
   rw[RZ];simp_arith[decide_eq_false ae];rfl
 |Dl x|ins x n d=>cases hx
 |_=>rfl
noncomputable def TJ:List D->M OT:=zm Kh
theorem Vn:Txt K mg->CY P w K mg base "is_map" 4 1 TJ:=(zb Kh).1
theorem O9:∀d:D,cl 3 d->TJ [d]=.ok (.sh (.bl (Df d))):=(zb Kh).2
theorem IC:∃F:List D->M OT,(∀ {P w K mg base},Txt K mg->CY P w K mg base "checked" 5 1 F)/\((∀(m:Nat) (rs:List Road),Df (Ad m rs)=true->rs.length<=60->F [Ad m rs]=.ok (.tup [.sh (.int m),.lst ((rs.map CZ).map .sh)]))/\(∀d:D,cl 3 d->Df d=false->F [d]=.ex "NoMap")):=by
 refine⟨_,λ T=>B0 (k:=4) T.Vk Sa _ (λ f B6 A outer s H E hr=>(A3 (B4 (BQ (Bz (c:=true) (Aq (Ak Ab.toXCall (Vn T) (hr.mono (by decide)) rfl (A2 (A1 0 (pv 0)) A8) rfl)))) (A7 (JK (c:=true) T.ZU Ab rfl rfl RC)) As) (A7 (Aj (gO (LO (AU (Ac (AZ hr 16 (by decide)) (A1 0 (pv 0)) A5)) (LO (FL (NB:=["road"]) [none] rfl (B7 (Ac (AZ hr 16 (by decide)) (A1 0 (pv 0)) A5)) rfl rfl (BG 0 (by decide) rfl rfl rfl) (λ _ _ _ _=>Hh) (λ _ _ _ _=>(Wl rfl T.P9 (A1 0 (pv 0))))) FH))))))),?_⟩;refine⟨λ m rs hm hl=>?_,λ d hc ho=>?_⟩
 ·have e0:AI ["thing"] [Ad m rs]=[some (.val (Ad m rs))]:=rfl;rw[e0];have h1:=O9 (Ad m rs) (Xf (HF Mf (HF (iS iV) Xg)));rw[hm] at h1;have n0:B1 (Ad m rs) (.int 0)=.ok (.int m):=rfl;have n1:B1 (Ad m rs) (.int 1)=.ok (.lst (rs.map CZ)):=rfl;have aM:(rs.map CZ).length<=1000:=by rw[zf];omega
  refine Bw ?_;apply wp_step
  ·simp_arith[h1,FK];rfl
  simp_arith[n0,n1,if_pos aM];rw[FQ CZ (λ r hr=>⟨_,rfl,rfl,rfl⟩)];simp_arith[];exact⟨_,rfl,rfl⟩
 ·have e0:AI ["thing"] [d]=[some (.val d)]:=rfl;rw[e0];have h1:=O9 d hc;rw[ho] at h1;simp_arith[h1,FK];rfl
noncomputable def Mw:List D->M OT:=zm IC
theorem Si:Txt K mg->CY P w K mg base "checked" 5 1 Mw:=(zb IC).1
theorem Sj:(∀(m:Nat) (rs:List Road),Df (Ad m rs)=true->rs.length<=60->Mw [Ad m rs]=.ok (.tup [.sh (.int m),.lst ((rs.map CZ).map .sh)]))/\(∀d:D,cl 3 d->Df d=false->Mw [d]=.ex "NoMap"):=(zb IC).2
theorem Mx:∃F:List D->M OT,(∀ {P w K mg base},Txt K mg->CY P w K mg base "added" 1 2 F)/\(∀a b:Co,F [cst a,cst b]=.ok (.sh (cst (AJ a b)))):=by
 refine⟨_,λ T=>B0 (k:=0) T.ZR XJ _ (λ f B6 A outer s H E hr=>(A3 (B4 (DW.dt (Eo (JG (c:=true) (A1 0 (pv 0))) (CH (JG (c:=true) (A1 1 (pv 1)))))) (A7 (Aj (AU Cj))) As) (A7 (Aj (AU (AS (A2 (D6 (Ac (AZ hr 16 (by decide)) (A1 0 (pv 0)) A5) (Ac (AZ hr 16 (by decide)) (A1 1 (pv 1)) A5)) (A2 (D6 (Ac (AZ hr 16 (by decide)) (A1 0 (pv 0)) A5) (Ac (AZ hr 16 (by decide)) (A1 1 (pv 1)) A5)) A8)))))))),?_⟩;intro a b;rcases a with _|⟨a1,a2⟩<;>rcases b with _|⟨b1,b2⟩<;>rfl
noncomputable def XT:List D->M OT:=zm Mx
theorem QW:Txt K mg->CY P w K mg base "added" 1 2 XT:=(zb Mx).1
theorem QX:∀a b:Co,XT [cst a,cst b]=.ok (.sh (cst (AJ a b))):=(zb Mx).2
theorem My:∃F:List D->M OT,(∀ {P w K mg base},Txt K mg->CY P w K mg base "least" 1 1 F)/\(∀cs:List Co,cs.length<=1000->F [.lst (cs.map cst)]=.ok (.sh (cst (M5 cs)))):=by
 refine⟨_,λ T=>B0 (k:=0) T.ZS XM _ (λ f B6 A outer s H E hr=>(A7 (Aj (AU (YQ rfl (AZ hr 1 (by decide)) rfl T.XS (Aq (FL (NB:=["cost"]) [none] rfl (B7 (A1 0 (pv 0))) rfl rfl (BG 0 (by decide) rfl rfl rfl) (λ _ _ _ _=>Hi (Oy (c:=true) (A1 0 (pv 0)))) (λ _ _ _ _=>(A1 0 (pv 0))))) Cj))))),?_⟩;intro cs hc;have e0:∀x:D,AI ["some"] [x]=[some (.val x)]:=λ x=>rfl;rw[e0];refine Bw ?_;have hl:(cs.map cst).length<=1000:=by rw[zf];exact hc
 have df:=X9 cs;have u5:=Zq cs;simp_arith[if_pos hl];rw[Ku];simp_arith[u5];rfl
noncomputable def Sk:List D->M OT:=zm My
theorem XU:Txt K mg->CY P w K mg base "least" 1 1 Sk:=(zb My).1
theorem XW:∀cs:List Co,cs.length<=1000->Sk [.lst (cs.map cst)]=.ok (.sh (cst (M5 cs))):=(zb My).2
theorem G4:∃F:List D->M OT,(∀ {P w K mg base},Txt K mg->CY P w K mg base "road_cost" 1 1 F)/\(∀r:Road,F [CZ r]=.ok (.sh (cst (BS r)))):=by
 refine⟨_,λ T=>B0 (k:=0) T.QO OY _ (λ f B6 A outer s H E hr=>(A3 (B4 (JG (c:=true) (Ac (AZ hr 16 (by decide)) (A1 0 (pv 0)) A5)) (A7 (Aj (AU Cj))) As) (A7 (Aj (AU (AS (A2 (Ac (AZ hr 16 (by decide)) (A1 0 (pv 0)) A5) (A2 A5 A8)))))))),?_⟩;intro r;obtain⟨a,b,l,w⟩:=r;cases l<;>rfl
noncomputable def Mz:List D->M OT:=zm G4
theorem Dj:Txt K mg->CY P w K mg base "road_cost" 1 1 Mz:=(zb G4).1
theorem Dk:∀r:Road,Mz [CZ r]=.ok (.sh (cst (BS r))):=(zb G4).2
theorem Ef:∃F:List D->M OT,(∀ {P w K mg base},Txt K mg->CY P w K mg base "cost_so_far" 1 2 F)/\(∀(A:LA) (p:Int×Int),F [Ip A,pD p]=.ok (.sh (cst (A9 A p)))):=by
 refine⟨_,λ T=>B0 (k:=0) T.MZ Mo _ (λ f B6 A outer s H E hr=>(A3 (B4 (L8 (c:=true) (AZ hr 16 (by decide)) (A1 1 (pv 1)) (A1 0 (pv 0))) (A7 (Aj (AU Cj))) As) (A7 (Aj (AU (Ac (AZ hr 16 (by decide)) (Ac (AZ hr 16 (by decide)) (A1 0 (pv 0)) (A1 1 (pv 1))) A5)))))),?_⟩;intro A p;have e0:AI ["laid","pair"] [Ip A,pD p]=[some (.val (Ip A)),some (.val (pD p))]:=rfl;rw[e0];refine Bw ?_;have hm:=OU A p true;unfold A9;cases q:Bm A p with
 |none =>
  rw[q] at hm;simp_arith[hm,FK];rfl
 |some v =>
  rw[q] at hm;have hi:=Mh q;have h0:B1 (Rb v) (.int 0)=.ok (cst (some v.1)):=rfl;apply wp_step
  ·simp_arith[hm,FK];rfl
  simp_arith[hi,h0];rfl
noncomputable def Jw:List D->M OT:=zm Ef
theorem GS:Txt K mg->CY P w K mg base "cost_so_far" 1 2 Jw:=(zb Ef).1
theorem GU:∀(A:LA) (p:Int×Int),Jw [Ip A,pD p]=.ok (.sh (cst (A9 A p))):=(zb Ef).2
theorem Sl:∃F:OT->List D->M (OT×OT),(∀ {P w K mg base},Txt K mg->NH P w K mg base "lay" 1 4 F)/\(∀(A:LA) (p:Int×Int) (c:Co) (mid:Option Int),A.length<1000->F (IL A) [pD p,cst c,E8 mid]=.ok (IL (layA A p c mid),.sh .Az)):=by
 refine⟨_,λ T=>Qc (k:=0) T.nE jM _ (λ f B6 A outer s H E hr=>(A7 (B4 (LP (DW.dt (Ly (Oy (c:=true) (A1 2 (pv 2))) (IZ (DW.dt (Eo (L8 (c:=true) (AZ hr 16 (by decide)) (A1 1 (pv 1)) (A1 0 (pv 0))) (CH (iJ (c:=true) (AZ hr 16 (by decide)) (A1 2 (pv 2)) (Ac (AZ hr 16 (by decide)) (Ac (AZ hr 16 (by decide)) (A1 0 (pv 0)) (A1 1 (pv 1))) A5))))))))) (A7 (OK (AZ hr 16 (by decide)) (Bt 0 (pv 0)) (A1 1 (pv 1)) (AS (A2 (A1 2 (pv 2)) (A2 (A1 3 (pv 3)) A8))))) As))),?_⟩;intro A p c mid hA;have e0:Cz ["laid","pair","cost","middle"] (IL A) [pD p,cst c,E8 mid]=[some (.ow (.tree (some 0) (IL A))),some (.val (pD p)),some (.val (cst c)),some (.val (E8 mid))]:=rfl;rw[e0];refine S1 ?_;have hm:=OU A p true;have sy:∀c:Int×Int,D.tup [cst (some c),E8 mid]=Rb (c,mid):=λ c=>rfl;have hl:(A.map λ kv=>pD kv.1).length<1000:=by rw[zf];exact hA
 have kc:keyOk true (pD p)=true:=rfl;have am:∀v,(List.map (λ kv=>pD kv.1) (FV A p v))=(List.map (λ kv=>pD kv.1) (FV A p v)):=λ _=>rfl;cases c with
 |none =>
  refine Cd (ρ':=_) (by simp_arith[cst,BD];rfl) ⟨rfl,rfl⟩
 |some c =>
  have bO:BD (cst (some c))=false:=rfl;cases q:Bm A p with
  |none =>
   rw[q] at hm;have el:layA A p (some c) mid=FV A p (c,mid):=by unfold layA;dsimp only;rw[q]
   rw[el];refine Cd (ρ':=[some (.ow (.tree (some 0) (IL (FV A p (c,mid))))),some (.val (pD p)),some (.val (cst (some c))),some (.val (E8 mid))]) (by
    simp_arith[bO,hm,FK,Ce,sy,if_pos (And.intro kc hl),Xr,kc,hl,and_self,if_true];rfl) ⟨rfl,rfl⟩
  |some z =>
   rw[q] at hm;have hi:=Mh q;have h0:B1 (Rb z) (.int 0)=.ok (cst (some z.1)):=rfl;have hx:=pU c z.1;by_cases hc:c.1<z.1.1\/(c.1=z.1.1/\c.2<z.1.2)
   ·have el:layA A p (some c) mid=FV A p (c,mid):=by unfold layA;dsimp only;rw[q];dsimp only;rw[if_pos hc]
    rw[decide_eq_true hc] at hx;rw[el];refine Cd (ρ':=[some (.ow (.tree (some 0) (IL (FV A p (c,mid))))),some (.val (pD p)),some (.val (cst (some c))),some (.val (E8 mid))]) (by
     simp_arith[bO,hm,hi,h0,hx,FK,Ce,sy,if_pos (And.intro kc hl),Xr,kc,hl,and_self,if_true];rfl) ⟨rfl,rfl⟩
   ·have el:layA A p (some c) mid=A:=by unfold layA;dsimp only;rw[q];dsimp only;rw[if_neg hc]
    rw[decide_eq_false hc] at hx;rw[el];refine Cd (ρ':=_) (by simp_arith[bO,hm,hi,h0,hx,FK];rfl) ⟨rfl,rfl⟩
noncomputable def nF:OT->List D->M (OT×OT):=zm Sl
theorem XX:Txt K mg->NH P w K mg base "lay" 1 4 nF:=(zb Sl).1
theorem XY:∀(A:LA) (p:Int×Int) (c:Co) (mid:Option Int),A.length<1000->nF (IL A) [pD p,cst c,E8 mid]=.ok (IL (layA A p c mid),.sh .Az):=(zb Sl).2
theorem GV:∃F:OT->List D->M (OT×OT),(∀ {P w K mg base},Txt K mg->NH P w K mg base "lay_over" 2 3 F)/\(∀(m:Nat) (A:LA) (p:Int) (H:List Int),m<=20->En m A->(∀x∈H,0<=x/\x<m)->F (IL A) [.int p,.lst (H.map D.int)]=.ok (IL (Y3 A p H),.sh .Az)):=by
 refine⟨_,λ T=>Qc (k:=1) T.Sb Eu _ (λ f B6 A outer s H E hr=>(A7 (CJ Ab.toXCall.own rfl (B7 (A1 2 (pv 2))) (Bs 3 Eu.nd rfl (zY rfl)) (A7 (CJ Ab.toXCall.own rfl (B7 (A1 2 (pv 2))) (Bs 4 Eu.nd rfl (zY rfl)) (A7 (B4 (Gx (c:=true) (AZ hr 16 (by decide)) (A1 3 (pv 3)) (A1 4 (pv 4))) (A3 (AD 5 Eu.nd rfl (zY rfl) (Aq (Ij (Ak Ab.toXCall (QW T) (hr.mono (by decide)) rfl (A2 (Aq (Ak Ab.toXCall (GS T) (hr.mono (by decide)) rfl (A2 (A1 0 (pv 0)) (A2 (AS (A2 (A1 3 (pv 3)) (A2 (A1 1 (pv 1)) A8))) A8)) rfl)) (A2 (Aq (Ak Ab.toXCall (GS T) (hr.mono (by decide)) rfl (A2 (A1 0 (pv 0)) (A2 (AS (A2 (A1 1 (pv 1)) (A2 (A1 4 (pv 4)) A8))) A8)) rfl)) A8)) rfl)))) (A7 (LX (WO Ab.toXCall (XX T) (hr.mono (by decide)) rfl (Bt 0 (pv 0)) (A2 (AS (A2 (A1 3 (pv 3)) (A2 (A1 4 (pv 4)) A8))) (A2 (A1 5 (pv 5)) (A2 (A1 1 (pv 1)) A8))) rfl)))) As))))))),?_⟩;intro m A p H hm hA hH;have e0:Cz ["laid","place","higher","u","w","cost"] (IL A) [.int p,.lst (H.map D.int)]=[some (.ow (.tree (some 0) (IL A))),some (.val (.int p)),some (.val (.lst (H.map D.int))),none,none,none]:=rfl;rw[e0];refine S1 ?_;simp_arith[];refine CO (λ i ρ=>∃s3 s4 s5:Option Cl,ρ=[some (.ow (.tree (some 0) (IL ((H.take i).foldl (V9 p H) A)))),some (.val (.int p)),some (.val (.lst (H.map D.int))),s3,s4,s5]) ⟨none,none,none,rfl⟩ ?_ ?_
 ·rintro i d ρ hd ⟨s3,s4,s5,rfl⟩;obtain⟨u,hu,rfl⟩:=BJ hd;have u6:=hH u (zp hu);refine⟨_,rfl,?_⟩;obtain⟨B,hB⟩:∃B,B=(H.take i).foldl (V9 p H) A:=⟨_,rfl⟩;have fc:En m B:=by rw[hB];exact En.lo hH hA λ x hx=>hH x (yu hx)
  rw[<-hB,E9 hu,<-hB];simp_arith[];refine CO (λ j ρ=>∃s4 s5:Option Cl,ρ=[some (.ow (.tree (some 0) (IL ((H.take j).foldl (Lc p u) B)))),some (.val (.int p)),some (.val (.lst (H.map D.int))),some (.val (.int u)),s4,s5]) ⟨s4,s5,rfl⟩ ?_ ?_
  ·rintro j d ρ hd ⟨s4,s5,rfl⟩;obtain⟨w,hw,rfl⟩:=BJ hd;have vN:=hH w (zp hw);refine⟨_,rfl,?_⟩;obtain⟨C,hC⟩:∃C,C=(H.take j).foldl (Lc p u) B:=⟨_,rfl⟩;have o8:En m C:=by rw[hC];exact En.ou u6 fc λ x hx=>hH x (yu hx)
   rw[E9 hw,<-hC];by_cases e:u=w
   ·have ev:Lc p u C w=C:=by unfold Lc;rw[if_pos e]
    rw[ev];refine Cd (ρ':=_) (by simp_arith[decide_eq_true e];rfl) ⟨_,_,rfl⟩
   ·have ev:Lc p u C w=layA C (u,w) (AJ (A9 C (u,p)) (A9 C (p,w))) (some p):=by unfold Lc;rw[if_neg e]
    rw[ev];have h1:=GU C (u,p);have h2:=GU C (p,w);have h3:=QX (A9 C (u,p)) (A9 C (p,w));have h4:=XY C (u,w) (AJ (A9 C (u,p)) (A9 C (p,w))) (some p) (o8.len hm);have t1:∀a b:Int,D.tup [.int a,.int b]=pD (a,b):=λ a b=>rfl;have t2:E8 (some p)=.int p:=rfl;rw[t2] at h4;have h5:=K4 (ρ:=[some (.ow (.tree (some 0) (IL C))),some (.val (.int p)),some (.val (.lst (H.map D.int))),some (.val (.int u)),some (.val (.int w)),some (.val (cst (AJ (A9 C (u,p)) (A9 C (p,w)))))]) (i:=0) rfl rfl h4;simp_arith[decide_eq_false e,if_true];apply wp_step
    ·simp_arith[t1,h1,h2,h3];rfl
    refine Cd (ρ':=_) (by simp_arith[t1,h5];rfl) ⟨_,_,rfl⟩
  ·rintro ρ ⟨s4,s5,rfl⟩;rw[zf,y7];exact⟨_,s4,s5,rfl⟩
 ·rintro ρ ⟨s3,s4,s5,rfl⟩;rw[zf,y7];exact⟨rfl,trivial⟩
noncomputable def Oa:OT->List D->M (OT×OT):=zm GV
theorem QY:Txt K mg->NH P w K mg base "lay_over" 2 3 Oa:=(zb GV).1
theorem QZ:∀(m:Nat) (A:LA) (p:Int) (H:List Int),m<=20->En m A->(∀x∈H,0<=x/\x<m)->Oa (IL A) [.int p,.lst (H.map D.int)]=.ok (IL (Y3 A p H),.sh .Az):=(zb GV).2
theorem G5:∃F:List D->M OT,(∀ {P w K mg base},Txt K mg->CY P w K mg base "laid_arcs" 3 2 F)/\(∀(m:Nat) (rs:List Road) (L:List Int),m<=20->L.Perm (AK m)->(∀r∈rs,Io m r/\r.a≠r.b)->F [Ad m rs,.lst (L.map D.int)]=.ok (IL (Ba rs L))):=by
 refine⟨_,λ T=>B0 (k:=2) T.QP Cq _ (λ f B6 A outer s H E hr=>(A3 (BY 2 Cq.nd rfl (zY rfl) (Qe true)) (A3 (CJ Ab.toXCall.own rfl (B7 (Ac (AZ hr 16 (by decide)) (A1 0 (pv 0)) A5)) (Bs 3 Cq.nd rfl (zY rfl)) (A7 (LX (WO Ab.toXCall (XX T) (hr.mono (by decide)) rfl (Bt 2 (pv 2)) (A2 (AS (A2 (Ac (AZ hr 16 (by decide)) (A1 3 (pv 3)) A5) (A2 (Ac (AZ hr 16 (by decide)) (A1 3 (pv 3)) A5) A8))) (A2 (Aq (Ak Ab.toXCall (Dj T) (hr.mono (by decide)) rfl (A2 (A1 3 (pv 3)) A8) rfl)) (A2 Cj A8))) rfl)))) (A3 (CJ Ab.toXCall.own rfl (OC rfl T.GR (A1 1 (pv 1))) (RH (n:=2) rfl (ER (Bs 4 Cq.nd rfl (zY rfl)) (ER (Bs 5 Cq.nd rfl (zY rfl)) OB))) (A7 (LX (WO Ab.toXCall (QY T) (hr.mono (by decide)) rfl (Bt 2 (pv 2)) (A2 (A1 5 (pv 5)) (A2 (Aq (Jg (A1 1 (pv 1)) (J3 (D6 (A1 4 (pv 4)) A5)) Oz)) A8)) rfl)))) (A7 (Er 2 (pv 2))))))),?_⟩;intro m rs L hm hL Av;have e0:AI ["net","order","laid","road","rank","place"] [Ad m rs,.lst (L.map D.int)]=[some (.val (Ad m rs)),some (.val (.lst (L.map D.int))),none,none,none,none]:=rfl;rw[e0];refine Bw ?_;have n1:B1 (Ad m rs) (.int 1)=.ok (.lst (rs.map CZ)):=rfl;apply wp_step
 ·rfl
 try simp only[zE,zv]
 have fg:∀i,i<=rs.length->En m ((rs.take i).foldl (λ A r=>layA A (r.a,r.b) (BS r) none) []):=λ i hi=>by
  have:=(OS (m:=m) (rs:=rs.take i) λ r hr=>Av r (yu hr)).1;exact this
 refine BH (I:=λ ρ=>∃s3 s4 s5:Option Cl,ρ=[some (.val (Ad m rs)),some (.val (.lst (L.map D.int))),some (.ow (.tree none (IL (lay0 rs)))),s3,s4,s5]) ?_ ?_
 ·simp_arith[n1];refine CO (λ i ρ=>i<=rs.length/\∃s3 s4 s5:Option Cl,ρ=[some (.val (Ad m rs)),some (.val (.lst (L.map D.int))),some (.ow (.tree none (IL ((rs.take i).foldl (λ A r=>layA A (r.a,r.b) (BS r) none) [])))),s3,s4,s5]) ⟨zT _,none,none,none,rfl⟩ ?_ ?_
  ·rintro i d ρ hd ⟨hi,s3,s4,s5,rfl⟩;obtain⟨r,hr,rfl⟩:=BJ hd;have am:=(zy.mp hr).1;refine⟨_,rfl,?_⟩;rw[E9 hr];obtain⟨B,hB⟩:∃B,B=(rs.take i).foldl (λ A r=>layA A (r.a,r.b) (BS r) none) []:=⟨_,rfl⟩;have fc:En m B:=by rw[hB];exact fg i hi
   rw[<-hB];have i0:B1 (CZ r) (.int 0)=.ok (.int r.a):=rfl;have i1:B1 (CZ r) (.int 1)=.ok (.int r.b):=rfl;have h1:=Dk r;have h2:=XY B (r.a,r.b) (BS r) none (fc.len hm);have t1:∀a b:Int,D.tup [.int a,.int b]=pD (a,b):=λ a b=>rfl;have t2:E8 none=.Az:=rfl;rw[t2] at h2;have h5:=K4 (ρ:=[some (.val (Ad m rs)),some (.val (.lst (L.map D.int))),some (.ow (.tree none (IL B))),some (.val (CZ r)),s4,s5]) (i:=2) rfl rfl h2;refine Cd (ρ':=_) (by simp_arith[i0,i1,h1,t1,h5];rfl) ⟨am,_,_,_,rfl⟩
  ·rintro ρ ⟨_,s3,s4,s5,rfl⟩;rw[zf,y7];exact⟨s3,s4,s5,rfl⟩
 ·rintro ρ ⟨s3,s4,s5,rfl⟩;have o9:=OS Av;refine BH (I:=λ ρ=>∃s3 s4 s5:Option Cl,ρ=[some (.val (Ad m rs)),some (.val (.lst (L.map D.int))),some (.ow (.tree none (IL (Ba rs L)))),s3,s4,s5]) ?_ ?_
  ·simp_arith[];refine CO (λ i ρ=>i<=L.length/\∃(G:LA) (s3 s4 s5:Option Cl),ρ=[some (.val (Ad m rs)),some (.val (.lst (L.map D.int))),some (.ow (.tree none (IL G))),s3,s4,s5]/\En m G/\MJ G (L.drop i)=MJ (lay0 rs) L) ⟨zT _,lay0 rs,s3,s4,s5,rfl,o9.1,rfl⟩ ?_ ?_
   ·rintro i d ρ hd ⟨hi,G,s3,s4,s5,rfl,hG,jd⟩;obtain⟨d',cS,rfl⟩:=Hf hd;obtain⟨p,hp,rfl⟩:=BJ cS;have am:=(zy.mp hp).1;rw[Nat.zero_add];refine⟨_,rfl,?_⟩;have c7:∀x∈L.drop (i+1),0<=x/\x<m:=λ x hx=>(BV hL).mp (List.mem_of_mem_drop hx);have ed:L.drop i=p::L.drop (i+1):=by
     rw[List.drop_eq_getElem_cons am];rw[zr am] at hp;rw[zH hp]
    rw[ed,MJ] at jd;have h2:=QZ m G p (L.drop (i+1)) hm hG c7;have sl:WT (some ((i:Int)+1)) none (.lst (L.map D.int))=.ok (.lst (((L.drop (i+1)).map D.int).map .sh)):=by rw[List.map_drop];exact WW _ (i+1)
    have h5:=K4 (ρ:=[some (.val (Ad m rs)),some (.val (.lst (L.map D.int))),some (.ow (.tree none (IL G))),s3,some (.val (.int i)),some (.val (.int p))]) (i:=2) rfl rfl h2;refine Cd (ρ':=_) (by simp_arith[sl,h5];rfl) ⟨am,_,_,_,_,rfl,En.lo c7 hG c7,jd⟩
   ·rintro ρ ⟨_,G,s3,s4,s5,rfl,hG,jd⟩;rw[Dp,zf,xm,MJ] at jd;exact⟨s3,s4,s5,by rw[jd];rfl⟩
  ·rintro ρ ⟨s3,s4,s5,rfl⟩;exact⟨_,rfl,rfl⟩
noncomputable def MA:List D->M OT:=zm G5
theorem Pa:Txt K mg->CY P w K mg base "laid_arcs" 3 2 MA:=(zb G5).1
theorem Pb:∀(m:Nat) (rs:List Road) (L:List Int),m<=20->L.Perm (AK m)->(∀r∈rs,Io m r/\r.a≠r.b)->MA [Ad m rs,.lst (L.map D.int)]=.ok (IL (Ba rs L)):=(zb G5).2
theorem GW:∃F:List D->M OT,(∀ {P w K mg base},Txt K mg->CY P w K mg base "is_order" 2 2 F)/\(∀(m:Nat) (x d:D),m<=60->mW d->F [.tup [.int m,x],d]=.ok (.sh (.bl (Et m d)))):=by
 refine⟨_,λ T=>B0 (k:=1) T.Sd QM _ (λ f B6 A outer s H E hr=>(A3 (B4 (DW.dt (Eo (BQ (Bz (c:=true) (FG (JH _) rfl T.B9 rfl T.G3 (by decide +kernel) (A1 1 (pv 1))))) (CH (Gx (c:=true) (AZ hr 16 (by decide)) (Ig rfl T.Mv (A1 1 (pv 1))) (Ac (AZ hr 16 (by decide)) (A1 0 (pv 0)) A5))))) (A7 (Aj (AU Cy))) As) (A3 (B4 (BQ (Bz (c:=true) (WC rfl rfl T.dM (Aq (FL (NB:=["place","net"]) [none,some 0] rfl (B7 (A1 1 (pv 1))) rfl rfl (BG 0 (by decide) rfl rfl rfl) (λ _ _ _ _=>Hh) (λ _ _ _ _=>(Aq (FI (Ak (EB rfl).toXCall (AO T) (hr.mono (by decide)) rfl (A2 (A1 0 (pv 0)) (A2 (Ac (AZ hr 16 (by decide)) (A1 1 (pv 1)) A5) A8)) rfl))))))))) (A7 (Aj (AU Cy))) As) (A7 (Aj (AU (lV (AZ hr 16 (by decide)) (Aq (UN rfl rfl T.QU (A1 1 (pv 1)))) (Aq (Jf rfl rfl T.G3 rfl T.Jv (Ac (AZ hr 16 (by decide)) (A1 0 (pv 0)) A5)))))))))),?_⟩;intro m x d hm ⟨hx,Av⟩;have e0:AI ["net","thing"] [.tup [.int m,x],d]=[some (.val (.tup [.int m,x])),some (.val d)]:=rfl;rw[e0];have n0:B1 (.tup [.int m,x]) (.int 0)=.ok (.int m):=rfl;refine Bw ?_;cases d with
 |lst xs =>
  obtain⟨hl,bI⟩:=Av xs rfl;by_cases h1:xs.length=m
  ·have cO:(xs.length:Int)=(m:Int):=by omega
   apply wp_step
   ·simp_arith[n0,decide_eq_true cO];rfl
   have aj:∀ {gt:D->Aa->M Aa} {ft:Aa->M Bool} {fe:Aa->M D} {ρ:Aa},(∀d∈xs,∃ρ1,gt d ρ=.ok ρ1/\ft ρ1=.ok true/\fe ρ1=.ok (.bl (Jy d m)))->Bd gt ft fe xs ρ=.ok ((xs.map λ e=>Jy e m).map D.bl):=λ h=>by
    rw[Nz (λ d=>.bl (Jy d m)) xs h,yr];rfl
   cases h2:(xs.map λ e=>Jy e m).all id with
   |false =>
    have hf:Et m (.lst xs)=false:=by
     cases q:Et m (.lst xs) with
     |false=>rfl
     |true=>have:=(Qv q).2;rw[h2] at this;cases this
    rw[hf];simp_arith[if_pos hl];rw[aj]
    ·simp_arith[h2];rfl
    ·intro d hd;have:=AF d m (bI d hd);exact⟨_,rfl,rfl,by simp_arith[n0,this]⟩
   |true =>
    obtain⟨L,rfl⟩:=Td h2;rw[zf] at h1;have hs:=UM (ns:=L) (by omega);have h3:=ON (n:=m) (by omega);rw[Mb] at h3;apply wp_step
    ·simp_arith[if_pos hl];rw[aj]
     ·simp_arith[h2];rfl
     ·intro d hd;have:=AF d m (bI d hd);exact⟨_,rfl,rfl,by simp_arith[n0,this]⟩
    simp_arith[n0,hs,h3,Qw];rw[Md];rfl
  ·have cO:¬ (xs.length:Int)=(m:Int):=by omega
   rw[Zw h1];simp_arith[n0,decide_eq_false cO];rfl
 |Dl x|ins x n d=>cases hx
 |_=>rfl
noncomputable def Ob:List D->M OT:=zm GW
theorem R3:Txt K mg->CY P w K mg base "is_order" 2 2 Ob:=(zb GW).1
theorem Ky:∀(m:Nat) (x d:D),m<=60->mW d->Ob [.tup [.int m,x],d]=.ok (.sh (.bl (Et m d))):=(zb GW).2
theorem CU:∃F:List D->M OT,(∀ {P w K mg base},Txt K mg->CY P w K mg base "checked_order" 3 2 F)/\((∀(m:Nat) (x:D) (L:List Int),m<=60->L.Perm (AK m)->F [.tup [.int m,x],.lst (L.map .int)]=.ok (.lst ((L.map D.int).map .sh)))/\(∀(m:Nat) (x d:D),m<=60->mW d->Et m d=false->F [.tup [.int m,x],d]=.ex "NoOrder")):=by
 refine⟨_,λ T=>B0 (k:=2) T.KS Kd _ (λ f B6 A outer s H E hr=>(A3 (B4 (BQ (Bz (c:=true) (Aq (Ak Ab.toXCall (R3 T) (hr.mono (by decide)) rfl (A2 (A1 0 (pv 0)) (A2 (A1 1 (pv 1)) A8)) rfl)))) (A7 (JK (c:=true) T.Vm Ab rfl rfl RC)) As) (A7 (Aj (L7 rfl T.G3 (A1 1 (pv 1))))))),?_⟩;refine⟨λ m x L hm hL=>?_,λ m x d hm hd ho=>?_⟩
 ·have e0:AI ["net","thing"] [.tup [.int m,x],.lst (L.map .int)]=[some (.val (.tup [.int m,x])),some (.val (.lst (L.map .int)))]:=rfl;rw[e0];have hd:mW (.lst (L.map D.int)):=⟨rfl,λ xs e=>by
   cases e;exact⟨by rw[zf,Jm hL];omega,λ e he=>by obtain⟨j,_,rfl⟩:=zP.mp he;rfl⟩⟩
  have h1:=Ky m x _ hm hd;rw[RY hL] at h1;refine Bw ?_;apply wp_step
  ·simp_arith[h1];rfl
  simp_arith[];exact⟨_,rfl,rfl⟩
 ·have e0:AI ["net","thing"] [.tup [.int m,x],d]=[some (.val (.tup [.int m,x])),some (.val d)]:=rfl;rw[e0];have h1:=Ky m x _ hm hd;rw[ho] at h1;simp_arith[h1];rfl
noncomputable def Cu:List D->M OT:=zm CU
theorem Ki:Txt K mg->CY P w K mg base "checked_order" 3 2 Cu:=(zb CU).1
theorem Kj:(∀(m:Nat) (x:D) (L:List Int),m<=60->L.Perm (AK m)->Cu [.tup [.int m,x],.lst (L.map .int)]=.ok (.lst ((L.map D.int).map .sh)))/\(∀(m:Nat) (x d:D),m<=60->mW d->Et m d=false->Cu [.tup [.int m,x],d]=.ex "NoOrder"):=(zb CU).2
theorem EK:∃F:List D->M OT,(∀ {P w K mg base},Txt K mg->CY P w K mg base "first_bows" 2 1 F)/\(∀(m:Nat) (rs:List Road),m<=20->(∀r∈rs,Io m r/\r.a≠r.b)->F [Ad m rs]=.ok (.Bh true ((Br rs).map pD) ((CB (Br rs)).map .sh))):=by
 refine⟨_,λ T=>B0 (k:=1) T.P5 EF _ (λ f B6 A outer s H E hr=>(A3 (BY 1 EF.nd rfl (zY rfl) (Qe true)) (A3 (CJ Ab.toXCall.own rfl (B7 (Ac (AZ hr 16 (by decide)) (A1 0 (pv 0)) A5)) (Bs 2 EF.nd rfl (zY rfl)) (A7 (B4 (Oy (c:=true) (Aq (Ak Ab.toXCall (Dj T) (hr.mono (by decide)) rfl (A2 (A1 2 (pv 2)) A8) rfl))) (A7 (OK (AZ hr 16 (by decide)) (Bt 1 (pv 1)) (AS (A2 (Ac (AZ hr 16 (by decide)) (A1 2 (pv 2)) A5) (A2 (Ac (AZ hr 16 (by decide)) (A1 2 (pv 2)) A5) A8))) Cy)) As))) (A7 (Er 1 (pv 1)))))),?_⟩;intro m rs hm Av;have e0:AI ["net","bows","road"] [Ad m rs]=[some (.val (Ad m rs)),none,none]:=rfl;rw[e0];refine Bw ?_;apply wp_step
 ·rfl
 have n1:B1 (Ad m rs) (.int 1)=.ok (.lst (rs.map CZ)):=rfl;refine BH (I:=λ ρ=>∃s2,ρ=[some (.val (Ad m rs)),some (.ow (.tree none (.Bh true ((Br rs).map pD) ((CB (Br rs)).map .sh)))),s2]) ?_ ?_
 ·simp_arith[n1];refine CO (λ i ρ=>∃s2,ρ=[some (.val (Ad m rs)),some (.ow (.tree none (.Bh true ((Br (rs.take i)).map pD) ((CB (Br (rs.take i))).map .sh)))),s2]) ⟨none,rfl⟩ ?_ ?_
  ·rintro i d ρ hd ⟨s2,rfl⟩;rw[zG] at hd;cases hq:rs[i]? with
   |none=>rw[hq] at hd;cases hd
   |some r =>
    rw[hq] at hd;cases hd;have hr:=zp hq;have et:rs.take (i+1)=rs.take i++[r]:=by rw[yS,hq];rfl
    have eb:Br (rs.take (i+1))=(match r.l with|none=>Br (rs.take i)|some _=>JZ (Br (rs.take i)) (r.a,r.b)):=by
     unfold Br;rw[et,List.foldl_append];rfl
    have u7:=Qt (m:=m) (rs:=rs.take i) λ r' h'=>Av r' (yu h');have hlen:=u7.len hm;have h1:=Dk r;refine⟨_,rfl,?_⟩;cases hl:r.l with
    |none =>
     have e1:BS r=none:=by unfold BS;rw[hl]
     rw[hl] at eb;rw[e1] at h1;simp_arith[h1,cst,BD];exact⟨_,by rw[eb]⟩
    |some l =>
     have e1:BS r=some (l,1):=by unfold BS;rw[hl]
     rw[hl] at eb;rw[e1] at h1;have i0:B1 (CZ r) (.int 0)=.ok (.int r.a):=rfl;have i1:B1 (CZ r) (.int 1)=.ok (.int r.b):=rfl;have kk:keyOk true (D.tup [.int r.a,.int r.b])=true/\((Br (rs.take i)).map pD).length<1000:=⟨rfl,by rw[zf];exact hlen⟩;have pp:putD ((Br (rs.take i)).map pD) (CB (Br (rs.take i))) (D.tup [.int r.a,.int r.b]) (.bl true)=_:=Tc (Br (rs.take i)) (r.a,r.b);simp_arith[h1,cst,BD,Bool.not_false,if_true,i0,i1,if_pos kk,pp];exact⟨_,by rw[eb]⟩
  ·rintro ρ ⟨s2,rfl⟩;rw[zf,y7];exact⟨s2,rfl⟩
 ·rintro ρ ⟨s2,rfl⟩;exact⟨_,rfl,rfl⟩
noncomputable def Kz:List D->M OT:=zm EK
theorem N3:Txt K mg->CY P w K mg base "first_bows" 2 1 Kz:=(zb EK).1
theorem N4:∀(m:Nat) (rs:List Road),m<=20->(∀r∈rs,Io m r/\r.a≠r.b)->Kz [Ad m rs]=.ok (.Bh true ((Br rs).map pD) ((CB (Br rs)).map .sh)):=(zb EK).2
theorem Dc:∃F:List D->M OT,(∀ {P w K mg base},Txt K mg->CY P w K mg base "missing_bows" 1 3 F)/\(∀(B:List (Int×Int)) (vs:List D) (L:List Int) (v:Int),L.length<=30->F [.Bh true (B.map pD) vs,.lst (L.map .int),.int v]=.ok (.lst (((AX B L v).map pD).map .sh))):=by
 refine⟨_,λ T=>B0 (k:=0) T.Mt BB _ (λ f B6 A outer s H E hr=>(A3 (J5 (NB:=["u","bows","place"]) 3 [none,some 0,some 2] BB.nd rfl (zY rfl) rfl (B7 (A1 1 (pv 1))) rfl rfl (BG 0 (by decide) rfl rfl rfl) (λ _ _ _ _=>Hi (RP (c:=true) (AZ hr 16 (by decide)) (AS (A2 (A1 0 (pv 0)) (A2 (A1 2 (pv 2)) A8))) (A1 1 (pv 1)))) (λ _ _ _ _=>(A1 0 (pv 0)))) (A3 (J5 (NB:=["w","bows","place"]) 4 [none,some 0,some 2] BB.nd rfl (zY rfl) rfl (B7 (A1 1 (pv 1))) rfl rfl (BG 0 (by decide) rfl rfl rfl) (λ _ _ _ _=>Hi (RP (c:=true) (AZ hr 16 (by decide)) (AS (A2 (A1 2 (pv 2)) (A2 (A1 0 (pv 0)) A8))) (A1 1 (pv 1)))) (λ _ _ _ _=>(A1 0 (pv 0)))) (A3 (BY 5 BB.nd rfl (zY rfl) (JP FH)) (A3 (CJ Ab.toXCall.own rfl (B7 (A1 3 (pv 3))) (Bs 6 BB.nd rfl (Or.inr rfl)) (A7 (WL (Bt 5 (pv 5)) (by exact (FL (NB:=["w","u","bows"]) [none,some 6,some 0] rfl (B7 (A1 4 (pv 4))) rfl rfl (BG 0 (by decide) rfl rfl rfl) (λ _ _ _ _=>Hi (DW.dt (Ly (Gx (c:=true) (AZ hr 16 (by decide)) (A1 1 (pv 1)) (A1 0 (pv 0))) (IZ (L8 (c:=true) (AZ hr 16 (by decide)) (AS (A2 (A1 1 (pv 1)) (A2 (A1 0 (pv 0)) A8))) (A1 2 (pv 2))))))) (λ _ _ _ _=>(AS (A2 (A1 1 (pv 1)) (A2 (A1 0 (pv 0)) A8))))))))) (A7 (Er 5 (pv 5)))))))),?_⟩;intro B vs L v hl;have e0:AI ["bows","left","place","ahead","behind","missing","u"] [.Bh true (B.map pD) vs,.lst (L.map .int),.int v]=[some (.val (.Bh true (B.map pD) vs)),some (.val (.lst (L.map .int))),some (.val (.int v)),none,none,none,none]:=rfl;rw[e0];refine Bw ?_;have hL:(L.map D.int).length<=1000:=by rw[zf];omega
 apply wp_step
 ·simp_arith[if_pos hL];rw[C2 (λ u=>decide ((u,v)∈B)) D.int (λ u hu=>⟨_,rfl,by simp[iC,iD,Hz,zE,zv,M.A6,Dr,Dq,ES,F4,F5,F6,Ho,FO,GF,Kr,EV,EW,Ds,NK,Hl,Hm,EX,UB,Dt,Du,CP,JR,BI,JS,EY,EZ,Dv,NL,EU,Cm,toCl_list,toCl_listP,toCl_dct,Hq,F7,F8,F9,Fb,Hr,Fc,Fe,Ff,cW,cV,F0,NM,F1,NO,F2,F3,Hn,NP,jW,jX,UE,UG,UH,UI,UJ,UK,toCl_nil,Gz,Jd,Lx,JT,Dw,Hs,Ht,Fg,Fh,Hu,Hv,Hw,Hx,Hy,Fi,Fj,Fl,Fm,Dx,Dy,Dz,DB,DC,Fn,DD,DF,NQ,NR,NS,NT,NU,DH,ite_tt,ite_ff,Bool.not_true,Bool.not_false,yX,zR,CS,Fp,Fq,UD,V2,UC,V5,V6,V7,HG,K1,K2,K3,Ce,DK,HI,JX,Vc,O7,K7,OQ],λ _=>by simp_arith[]⟩)];simp_arith[];rfl
 apply wp_step
 ·simp_arith[if_pos hL];rw[C2 (λ w=>decide ((v,w)∈B)) D.int (λ u hu=>⟨_,rfl,by simp[iC,iD,Hz,zE,zv,M.A6,Dr,Dq,ES,F4,F5,F6,Ho,FO,GF,Kr,EV,EW,Ds,NK,Hl,Hm,EX,UB,Dt,Du,CP,JR,BI,JS,EY,EZ,Dv,NL,EU,Cm,toCl_list,toCl_listP,toCl_dct,Hq,F7,F8,F9,Fb,Hr,Fc,Fe,Ff,cW,cV,F0,NM,F1,NO,F2,F3,Hn,NP,jW,jX,UE,UG,UH,UI,UJ,UK,toCl_nil,Gz,Jd,Lx,JT,Dw,Hs,Ht,Fg,Fh,Hu,Hv,Hw,Hx,Hy,Fi,Fj,Fl,Fm,Dx,Dy,Dz,DB,DC,Fn,DD,DF,NQ,NR,NS,NT,NU,DH,ite_tt,ite_ff,Bool.not_true,Bool.not_false,yX,zR,CS,Fp,Fq,UD,V2,UC,V5,V6,V7,HG,K1,K2,K3,Ce,DK,HI,JX,Vc,O7,K7,OQ],λ _=>by simp_arith[]⟩)];simp_arith[];rfl
 apply wp_step
 ·rfl
 try simp only[zE,zv]
 have ke:((L.filter λ w=>decide ((v,w)∈B)).map D.int).length<=1000:=by rw[zf];exact yn (List.length_filter_le _ _) (by omega)
 have hlen:=UX B L v;have om:L.length*L.length<=30*30:=Nat.mul_le_mul hl hl;generalize hA:L.filter (λ u=>decide ((u,v)∈B))=A;generalize hW:L.filter (λ w=>decide ((v,w)∈B))=W at ke ⊢;obtain⟨G,hG⟩:∃G:Int->List (Int×Int),G=λ u=>((W.filter λ w=>decide (u≠w) && !decide ((u,w)∈B)).map λ w=>(u,w)):=⟨_,rfl⟩;have dg:AX B L v=A.flatMap G:=by unfold AX;rw[hA,hW,hG]
 refine BH (I:=λ ρ=>∃s6,ρ=[some (.val (.Bh true (B.map pD) vs)),some (.val (.lst (L.map .int))),some (.val (.int v)),some (.val (.lst (A.map .int))),some (.val (.lst (W.map .int))),some (.own ((A.flatMap G).map pD)),s6]) ?_ ?_
 ·simp_arith[];refine CO (λ i ρ=>∃s6,ρ=[some (.val (.Bh true (B.map pD) vs)),some (.val (.lst (L.map .int))),some (.val (.int v)),some (.val (.lst (A.map .int))),some (.val (.lst (W.map .int))),some (.own (((A.take i).flatMap G).map pD)),s6]) ⟨none,rfl⟩ ?_ ?_
  ·rintro i d ρ hd ⟨s6,rfl⟩;obtain⟨u,hu,rfl⟩:=BJ hd;have et:A.take (i+1)=A.take i++[u]:=by rw[yS,hu];rfl
   refine⟨_,rfl,?_⟩;have hb:(((A.take i).flatMap G).map pD).length+((G u).map pD).length<=1000:=by
    have h1:((A.take (i+1)).flatMap G).length<=(A.flatMap G).length:=by
     conv=>rhs;rw[<-List.take_append_drop (i+1) A,List.flatMap_append,zB]
     omega
    rw[et,List.flatMap_append,zB] at h1;rw[dg] at hlen;simp only[List.flatMap_cons,List.flatMap_nil,yb] at h1;rw[zf,zf];omega
   have js:(((W.filter λ w=>decide (u≠w) && !decide ((u,w)∈B)).map λ w=>(u,w)).map pD)=(W.filter λ w=>decide (u≠w) && !decide ((u,w)∈B)).map λ w=>D.tup [.int u,.int w]:=by rw[yr];rfl
   refine Cd (ρ':=[some (.val (.Bh true (B.map pD) vs)),some (.val (.lst (L.map .int))),some (.val (.int v)),some (.val (.lst (A.map .int))),some (.val (.lst (W.map .int))),some (.own (((A.take (i+1)).flatMap G).map pD)),some (.val (.int u))]) ?_ ⟨_,rfl⟩;simp_arith[if_pos ke];rw[C2 (λ w=>decide (u≠w) && !decide ((u,w)∈B)) (λ w=>D.tup [.int u,.int w]) (λ w hw=>⟨_,rfl,by
    simp[iC,iD,Hz,zE,zv,M.A6,Dr,Dq,ES,F4,F5,F6,Ho,FO,GF,Kr,EV,EW,Ds,NK,Hl,Hm,EX,UB,Dt,Du,CP,JR,BI,JS,EY,EZ,Dv,NL,EU,Cm,toCl_list,toCl_listP,toCl_dct,Hq,F7,F8,F9,Fb,Hr,Fc,Fe,Ff,cW,cV,F0,NM,F1,NO,F2,F3,Hn,NP,jW,jX,UE,UG,UH,UI,UJ,UK,toCl_nil,Gz,Jd,Lx,JT,Dw,Hs,Ht,Fg,Fh,Hu,Hv,Hw,Hx,Hy,Fi,Fj,Fl,Fm,Dx,Dy,Dz,DB,DC,Fn,DD,DF,NQ,NR,NS,NT,NU,DH,ite_tt,ite_ff,Bool.not_true,Bool.not_false,yX,zR,CS,Fp,Fq,UD,V2,UC,V5,V6,V7,HG,K1,K2,K3,Ce,DK,HI,JX,Vc,O7,K7,OQ,Vt,IK,AB,Ao];by_cases h:u=w<;>simp[h],λ _=>by simp_arith[]⟩)]
   rw[<-js];have u8:((W.filter λ w=>decide (u≠w) && !decide ((u,w)∈B)).map λ w=>(u,w))=G u:=by rw[hG]
   rw[u8];simp_arith[if_pos hb];rw[et,List.flatMap_append,List.flatMap_cons,List.flatMap_nil,yb,<-yg]
  ·rintro ρ ⟨s6,rfl⟩;rw[zf,y7];exact⟨s6,rfl⟩
 ·rintro ρ ⟨s6,rfl⟩;rw[dg];exact⟨_,rfl,rfl⟩
noncomputable def HX:List D->M OT:=zm Dc
theorem Gk:Txt K mg->CY P w K mg base "missing_bows" 1 3 HX:=(zb Dc).1
theorem Gm:∀(B:List (Int×Int)) (vs:List D) (L:List Int) (v:Int),L.length<=30->HX [.Bh true (B.map pD) vs,.lst (L.map .int),.int v]=.ok (.lst (((AX B L v).map pD).map .sh)):=(zb Dc).2
theorem GX:∃F:List D->M OT,(∀ {P w K mg base},Txt K mg->CY P w K mg base "lightest" 2 2 F)/\(∀(B:List (Int×Int)) (vs:List D) (L:List Int),L≠[]->L.length<=30->F [.Bh true (B.map pD) vs,.lst (L.map .int)]=.ok (.sh (.int (Bj B L)))):=by
 refine⟨_,λ T=>B0 (k:=1) T.Se QN _ (λ f B6 A outer s H E hr=>(A7 (Aj (AU (Ac (AZ hr 16 (by decide)) (Z8 rfl (AZ hr 16 (by decide)) rfl T.XS (Aq (FL (NB:=["place","bows","left"]) [none,some 0,some 1] rfl (B7 (A1 1 (pv 1))) rfl rfl (BG 0 (by decide) rfl rfl rfl) (λ _ _ _ _=>Hh) (λ _ _ _ _=>(AS (A2 (Ig rfl T.Mv (Aq (FI (Ak (EB rfl).toXCall (Gk T) (hr.mono (by decide)) rfl (A2 (A1 1 (pv 1)) (A2 (A1 2 (pv 2)) (A2 (A1 0 (pv 0)) A8))) rfl)))) (A2 (A1 0 (pv 0)) A8))))))) A5))))),?_⟩;intro B vs L ae hl;have e0:AI ["bows","left"] [.Bh true (B.map pD) vs,.lst (L.map .int)]=[some (.val (.Bh true (B.map pD) vs)),some (.val (.lst (L.map .int)))]:=rfl;rw[e0];refine Bw ?_;have hL:(L.map D.int).length<=1000:=by rw[zf];omega
 simp_arith[if_pos hL];rw[FQ (λ p=>D.tup ([((AX B L p).length:Int),p].map D.int)) (λ p hp=>⟨_,rfl,rfl,by
  have h1:=Gm B vs L p hl;simp_arith[h1,Ug,zf,zg,List.map_nil]⟩)]
 simp_arith[SS];rw[O1];have hb:=UY (λ p=>D.tup ([((AX B L p).length:Int),p].map D.int)) (L.map λ p=>(p,[((AX B L p).length:Int),p]));rw[yr] at hb;have e2:((λ b:Int×List Int=>(D.tup ([((AX B L b.1).length:Int),b.1].map D.int),b.2)) ∘ λ p=>(p,[((AX B L p).length:Int),p]))=λ p=>(D.tup ([((AX B L p).length:Int),p].map D.int),[((AX B L p).length:Int),p]):=rfl;rw[e2] at hb;dsimp only;rw[hb];unfold Bj;cases q:AR (L.map λ p=>(p,[((AX B L p).length:Int),p])) with
 |none=>exact (LY (λ z=>ae (List.map_eq_nil_iff.mp z)) q).elim
 |some k =>
  simp only[yq,M.A6];rfl
noncomputable def Oc:List D->M OT:=zm GX
theorem R4:Txt K mg->CY P w K mg base "lightest" 2 2 Oc:=(zb GX).1
theorem R5:∀(B:List (Int×Int)) (vs:List D) (L:List Int),L≠[]->L.length<=30->Oc [.Bh true (B.map pD) vs,.lst (L.map .int)]=.ok (.sh (.int (Bj B L))):=(zb GX).2
theorem Kk:∃F:List D->M OT,(∀ {P w K mg base},Txt K mg->CY P w K mg base "ranked" 3 1 F)/\(∀(m:Nat) (rs:List Road),m<=20->(∀r∈rs,Io m r/\r.a≠r.b)->F [Ad m rs]=.ok (.lst (((Ra m (Br rs) (AK m)).map D.int).map .sh))):=by
 refine⟨_,λ T=>B0 (k:=2) T.XQ DL _ (λ f B6 A outer s H E hr=>(A3 (BY 1 DL.nd rfl (zY rfl) (Ak Ab.toXCall (N3 T) (hr.mono (by decide)) rfl (A2 (A1 0 (pv 0)) A8) rfl)) (A3 (BY 2 DL.nd rfl (zY rfl) (Jf rfl rfl T.G3 rfl T.Jv (Ac (AZ hr 16 (by decide)) (A1 0 (pv 0)) A5))) (A3 (BY 3 DL.nd rfl (zY rfl) (JP FH)) (A3 (LF Ab.toXCall.own (LP (Bz (c:=true) (A1 2 (pv 2)))) (A3 (AD 4 DL.nd rfl (zY rfl) (Aq (Ij (Ak Ab.toXCall (R4 T) (hr.mono (by decide)) rfl (A2 (A1 1 (pv 1)) (A2 (A1 2 (pv 2)) A8)) rfl)))) (A3 (CJ Ab.toXCall.own rfl (B7 (Aq (Ij (Ak Ab.toXCall (Gk T) (hr.mono (by decide)) rfl (A2 (A1 1 (pv 1)) (A2 (A1 2 (pv 2)) (A2 (A1 4 (pv 4)) A8))) rfl)))) (Bs 5 DL.nd rfl (zY rfl)) (A7 (OK (AZ hr 16 (by decide)) (Bt 1 (pv 1)) (A1 5 (pv 5)) Cy))) (A3 (Uy (Bt 2 (pv 2)) (A1 4 (pv 4))) (A7 (JI 3 (pv 3) (A1 4 (pv 4)))))))) (A7 (Er 3 (pv 3)))))))),?_⟩;intro m rs hm Av;have e0:AI ["net","bows","left","order","place","bow"] [Ad m rs]=[some (.val (Ad m rs)),none,none,none,none,none]:=rfl;rw[e0];refine Bw ?_;have h1:=N4 m rs hm Av;have n0:B1 (Ad m rs) (.int 0)=.ok (.int m):=rfl;have h2:=ON (n:=m) (by omega);rw[Mb] at h2;apply wp_step
 ·simp_arith[h1];rfl
 apply wp_step
 ·simp_arith[n0,h2];rfl
 apply wp_step
 ·rfl
 try simp only[zE,zv]
 refine BH (I:=λ ρ=>∃s1 s2 s4 s5,ρ=[some (.val (Ad m rs)),s1,s2,some (.own ((Ra m (Br rs) (AK m)).map D.int)),s4,s5]) ?_ ?_
 ·refine LZ (lt:=λ a b:Nat=>a<b) (λ n ρ=>∃(B:List (Int×Int)) (L O:List Int) (s4 s5:Option Cl),ρ=[some (.val (Ad m rs)),some (.ow (.tree none (.Bh true (B.map pD) ((CB B).map .sh)))),some (.own (L.map D.int)),some (.own (O.map D.int)),s4,s5]/\L.length=n/\n+O.length=m/\C3 m B/\(∀p∈L,0<=p/\p<(m:Int))/\O++Ra n B L=Ra m (Br rs) (AK m)) (Nat.lt_wfRel.wf.apply m) ⟨Br rs,AK m,[],none,none,rfl,Fo m,by simp,Qt Av,λ p hp=>Jl.mp hp,rfl⟩ ?_;rintro n ρ ⟨B,L,O,s4,s5,rfl,hn,hO,hB,hL,cB⟩;by_cases je:L=[]
  ·subst je;left;have:n=0:=by simpa using hn.symm
   subst this;rw[Ra,yb] at cB;exact⟨rfl,⟨_,_,_,_,by rw[cB]⟩⟩
  ·right;have jf:L.length<=30:=by omega
   have q1:=R5 B (CB B) L je jf;have q2:=Gm B (CB B) L (Bj B L) jf;obtain⟨aO,_⟩:=O3 (B:=B) je;have u9:0<L.length:=List.length_pos_of_mem aO;obtain⟨n',rfl⟩:∃n',n=n'+1:=⟨n-1,by omega⟩;rw[Ra,if_neg je] at cB;constructor
   ·simp_arith[Qi];cases L with
    |nil=>exact (je rfl).elim
    |cons x r=>rfl
   apply wp_step
   ·simp_arith[q1,iE Zh];rfl
   try simp only[zE,zv]
   have i8:J8 ((AX B L (Bj B L)).map pD)=true:=Qg Xb _;refine BH (I:=λ ρ=>∃s5,ρ=[some (.val (Ad m rs)),some (.ow (.tree none (.Bh true ((BR B (AX B L (Bj B L))).map pD) ((CB (BR B (AX B L (Bj B L)))).map .sh)))),some (.own (L.map D.int)),some (.own (O.map D.int)),some (.val (.int (Bj B L))),s5]) ?_ ?_
   ·simp_arith[q2,Zg i8];refine CO (λ i ρ=>∃s5,ρ=[some (.val (Ad m rs)),some (.ow (.tree none (.Bh true ((BR B ((AX B L (Bj B L)).take i)).map pD) ((CB (BR B ((AX B L (Bj B L)).take i))).map .sh)))),some (.own (L.map D.int)),some (.own (O.map D.int)),some (.val (.int (Bj B L))),s5]) ⟨s5,rfl⟩ ?_ ?_
    ·rintro i d ρ hd ⟨s5,rfl⟩;obtain⟨p,hp,rfl⟩:=BJ hd;refine⟨_,rfl,?_⟩;have uK:C3 m (BR B ((AX B L (Bj B L)).take i)):=hB.BR λ q hq=>by
      have:=O2 (yu hq);exact⟨this.2.2,hL _ this.1,hL _ this.2.1⟩
     have kk:keyOk true (pD p)=true/\((BR B ((AX B L (Bj B L)).take i)).map pD).length<1000:=⟨rfl,by rw[zf];exact uK.len hm⟩;have et:(AX B L (Bj B L)).take (i+1)=(AX B L (Bj B L)).take i++[p]:=by rw[yS,hp];rfl
     have ea:BR B ((AX B L (Bj B L)).take (i+1))=JZ (BR B ((AX B L (Bj B L)).take i)) p:=by
      unfold BR;rw[et,List.foldl_append];rfl
     simp_arith[if_pos kk,Tc];exact⟨_,by rw[ea]⟩
    ·rintro ρ ⟨s5,rfl⟩;rw[zf,y7];exact⟨s5,rfl⟩
   ·rintro ρ ⟨s5,rfl⟩;have uL:(O.map D.int).length<1000:=by rw[zf];omega
    apply wp_step
    ·simp_arith[CK,if_pos aO];rfl
    refine Cd (ρ':=[some (.val (Ad m rs)),some (.ow (.tree none (.Bh true ((BR B (AX B L (Bj B L))).map pD) ((CB (BR B (AX B L (Bj B L)))).map .sh)))),some (.own ((L.erase (Bj B L)).map D.int)),some (.own ((O++[Bj B L]).map D.int)),some (.val (.int (Bj B L))),s5]) ?_ ?_
    ·simp_arith[if_pos uL,yg,zg,List.map_nil]
    ·have hlen:=List.length_erase_of_mem aO;refine⟨n',by omega,_,_,_,_,_,rfl,by omega,by rw[zB];simp;omega,hB.BR λ q hq=>?_,λ p hp=>hL p (List.mem_of_mem_erase hp),?_⟩
     ·have:=O2 hq;exact⟨this.2.2,hL _ this.1,hL _ this.2.1⟩
     ·rw[yD];exact cB
 ·rintro ρ ⟨s1,s2,s4,s5,rfl⟩;exact⟨_,rfl,rfl⟩
noncomputable def TL:List D->M OT:=zm Kk
theorem Vo:Txt K mg->CY P w K mg base "ranked" 3 1 TL:=(zb Kk).1
theorem Vp:∀(m:Nat) (rs:List Road),m<=20->(∀r∈rs,Io m r/\r.a≠r.b)->TL [Ad m rs]=.ok (.lst (((Ra m (Br rs) (AK m)).map D.int).map .sh)):=(zb Kk).2
theorem EL:∃F:List D->M OT,(∀ {P w K mg base},Txt K mg->CY P w K mg base "costs_from" 2 2 F)/\(∀(m s:Nat) (rs:List Road),s<m->m<=900->(∀r∈rs,Io m r)->∃cs:List Co,Right m s rs cs/\F [Ad m rs,.int s]=.ok (.lst ((cs.map cst).map .sh))):=by
 refine⟨_,λ T=>B0 (k:=1) T.P6 Bn _ (λ f B6 A outer s H E hr=>(A3 (BY 2 Bn.nd rfl (zY rfl) (iG Cj (Ac (AZ hr 16 (by decide)) (A1 0 (pv 0)) A5))) (A3 (Wz 2 (pv 2) (AS (A2 A5 (A2 A5 A8))) (A1 1 (pv 1))) (A3 (AD 3 Bn.nd rfl (zY rfl) Cy) (A3 (LF Ab.toXCall.own (Bz (c:=true) (A1 3 (pv 3))) (A3 (AD 3 Bn.nd rfl (zY rfl) Cy) (A7 (CJ Ab.toXCall.own rfl (B7 (Ac (AZ hr 16 (by decide)) (A1 0 (pv 0)) A5)) (Bs 4 Bn.nd rfl (zY rfl)) (A3 (AD 5 Bn.nd rfl (zY rfl) (Aq (Ij (Ak Ab.toXCall (XU T) (hr.mono (by decide)) rfl (A2 (Lw (A2 (Ac (AZ hr 16 (by decide)) (A1 2 (pv 2)) (Ac (AZ hr 16 (by decide)) (A1 4 (pv 4)) A5)) (A2 (Aq (Ak Ab.toXCall (QW T) (hr.mono (by decide)) rfl (A2 (Ac (AZ hr 16 (by decide)) (A1 2 (pv 2)) (Ac (AZ hr 16 (by decide)) (A1 4 (pv 4)) A5)) (A2 (Aq (Ak Ab.toXCall (Dj T) (hr.mono (by decide)) rfl (A2 (A1 4 (pv 4)) A8) rfl)) A8)) rfl)) A8))) A8) rfl)))) (A7 (B4 (LP (Gx (c:=true) (AZ hr 16 (by decide)) (A1 5 (pv 5)) (Ac (AZ hr 16 (by decide)) (A1 2 (pv 2)) (Ac (AZ hr 16 (by decide)) (A1 4 (pv 4)) A5)))) (A3 (Wz 2 (pv 2) (A1 5 (pv 5)) (Ac (AZ hr 16 (by decide)) (A1 4 (pv 4)) A5)) (A7 (AD 3 Bn.nd rfl (zY rfl) Cy))) As))))))) (A7 (Er 2 (pv 2)))))))),?_⟩;intro m s rs hs hm Av;have e0:AI ["net","start","costs","changed","road","cost"] [Ad m rs,.int s]=[some (.val (Ad m rs)),some (.val (.int s)),none,none,none,none]:=rfl;rw[e0];refine (λ h:∃t,_/\∃cs:List Co,Right m s rs cs/\t=.lst ((cs.map cst).map .sh)=>by
  obtain⟨t,h1,cs,h2,rfl⟩:=h;exact⟨cs,h2,h1⟩) (SU ?_)
 have n0:B1 (Ad m rs) (.int 0)=.ok (.int m):=rfl;have n1:B1 (Ad m rs) (.int 1)=.ok (.lst (rs.map CZ)):=rfl;have jg:=WY (d:=.Az) (n:=m) (by omega);have pc:zA m D.Az=(zA m (none:Co)).map cst:=by rw[List.map_replicate];rfl
 rw[pc] at jg;apply wp_step
 ·simp_arith[n0,jg];rfl
 try simp only[zE,zv]
 have cm:=Te (i:=2) (ρ:=[some (.val (Ad m rs)),some (.val (.int s)),some (.own ((zA m (none:Co)).map cst)),none,none,none]) (d:=.tup [.int 0,.int 0]) (p:=(s:Int)) rfl (by omega) (by rw[zf,List.length_replicate];omega);have fj:((zA m (none:Co)).map cst).set (s:Int).toNat (.tup [.int 0,.int 0])=((zA m none).set s (some (0,0))).map cst:=by rw[yt,List.map_set];rfl
 rw[fj] at cm;apply wp_step
 ·simp_arith[cm];rfl
 try simp only[zE,zv]
 apply wp_step
 ·rfl
 try simp only[zE,zv]
 refine BH (I:=λ ρ=>∃(cs:List Co) (s3 s4 s5:Option Cl),ρ=[some (.val (Ad m rs)),some (.val (.int s)),some (.own (cs.map cst)),s3,s4,s5]/\Right m s rs cs) ?_ ?_
 ·refine LZ (lt:=pV) (λ z ρ=>∃(s4 s5:Option Cl),ρ=[some (.val (Ad m rs)),some (.val (.int s)),some (.own (z.1.map cst)),some (.val (.bl z.2)),s4,s5]/\Good m s rs z.1/\(z.2=false->Right m s rs z.1)) (jB _) ⟨none,none,rfl,RW rs hs,λ e=>by cases e⟩ ?_;rintro ⟨cs,b⟩ ρ ⟨s4,s5,rfl,g,hR⟩;cases b with
  |false=>exact .inl ⟨rfl,cs,_,s4,s5,rfl,hR rfl⟩
  |true =>
   refine .inr ⟨rfl,?_⟩;apply wp_step
   ·rfl
   try simp only[zE,zv]
   simp_arith[n1];refine CO (λ i ρ=>∃(ay:List Co) (ch:Bool) (s4 s5:Option Cl),ρ=[some (.val (Ad m rs)),some (.val (.int s)),some (.own (ay.map cst)),some (.val (.bl ch)),s4,s5]/\Good m s rs ay/\(ch=true->MI ltN ay cs)/\(ch=false->ay=cs/\∀r∈rs.take i,HC (atC cs r.b) (AJ (atC cs r.a) (BS r))=atC cs r.b)) ⟨cs,false,s4,s5,rfl,g,(λ h=>by cases h),λ _=>⟨rfl,λ r hr=>by rw[List.take_zero] at hr;cases hr⟩⟩ ?_ ?_
   ·rintro i d ρ hd ⟨ay,ch,s4,s5,rfl,g1,h1,h2⟩;obtain⟨r,hq,rfl⟩:=BJ hd;have hr:=zp hq;have ok:=Av r hr;obtain⟨g2,_,g4,g5⟩:=UT g1 hr Av;have gn:r.b<ay.length:=by rw[g1.len];exact ok.b1
    have uM:r.a<ay.length:=by rw[g1.len];exact ok.a1
    have r0:B1 (CZ r) (.int 0)=.ok (.int r.a):=rfl;have r1:B1 (CZ r) (.int 1)=.ok (.int r.b):=rfl;have x0:B1 (.lst (ay.map cst)) (.int r.a)=.ok (cst (atC ay r.a)):=M8 ok.a0 uM;have x1:B1 (.lst (ay.map cst)) (.int r.b)=.ok (cst (atC ay r.b)):=M8 ok.b0 gn;have pd:=Dk r;have uN:=QX (atC ay r.a) (BS r);have hle:Sk [.lst [cst (atC ay r.b),cst (AJ (atC ay r.a) (BS r))]]=.ok (.sh (cst (HC (atC ay r.b) (AJ (atC ay r.a) (BS r))))):=XW [atC ay r.b,AJ (atC ay r.a) (BS r)] (by simp);have ae:=Zu (HC (atC ay r.b) (AJ (atC ay r.a) (BS r))) (atC ay r.b);refine⟨_,rfl,?_⟩;apply wp_step
    ·simp_arith[r0,r1,x0,x1,pd,uN,hle];rfl
    try simp only[zE,zv]
    by_cases hc:HC (atC ay r.b) (AJ (atC ay r.a) (BS r))=atC ay r.b
    ·rw[decide_eq_true hc] at ae;refine Cd (ρ':=_) (by simp_arith[r1,x1,ae];rfl) ⟨ay,ch,_,_,rfl,g1,h1,λ hf=>?_⟩;obtain⟨e1,e2⟩:=h2 hf;subst e1;refine⟨rfl,λ r' db=>?_⟩;rw[yS,hq] at db;rcases zK.mp db with db|db
     ·exact e2 r' db
     ·have:r'=r:=by simpa using db
      rw[this];exact hc
    ·rw[decide_eq_false hc] at ae;have cm:=Te (i:=2) (ρ:=[some (.val (Ad m rs)),some (.val (.int s)),some (.own (ay.map cst)),some (.val (.bl ch)),some (.val (CZ r)),some (.val (cst (HC (atC ay r.b) (AJ (atC ay r.a) (BS r)))))]) (d:=cst (HC (atC ay r.b) (AJ (atC ay r.a) (BS r)))) (p:=r.b) rfl ok.b0 (by rw[zf];exact gn);have fj:(ay.map cst).set r.b.toNat (cst (HC (atC ay r.b) (AJ (atC ay r.a) (BS r))))=(CQ r ay).map cst:=by unfold CQ;rw[List.map_set]
     rw[fj] at cm;simp_arith[r1,x1,ae,if_true];apply wp_step
     ·simp_arith[r1,cm];rfl
     refine Cd (ρ':=_) rfl ⟨CQ r ay,true,_,_,rfl,g2,λ _=>?_,λ hf=>by cases hf⟩;cases ch with
     |false=>obtain⟨e1,_⟩:=h2 rfl;subst e1;exact g5 hc
     |true=>exact MI.trans ltN UR (g5 hc) (h1 rfl)
   ·rintro ρ' ⟨ay,ch,s4,s5,rfl,g1,h1,h2⟩;cases ch with
    |true=>exact⟨(ay,true),⟨rfl,.inr ⟨rfl,h1 rfl⟩⟩,s4,s5,rfl,g1,λ e=>by cases e⟩
    |false =>
     obtain⟨e1,e2⟩:=h2 rfl;subst e1;rw[zf,y7] at e2;exact⟨(ay,false),⟨rfl,.inl rfl⟩,s4,s5,rfl,g1,λ _=>right_of g1 e2⟩
 ·rintro ρ' ⟨cs,s3,s4,s5,rfl,hR⟩;exact⟨_,rfl,cs,hR,rfl⟩
noncomputable def KA:List D->M OT:=zm EL
theorem N5:Txt K mg->CY P w K mg base "costs_from" 2 2 KA:=(zb EL).1
theorem N6:∀(m s:Nat) (rs:List Road),s<m->m<=900->(∀r∈rs,Io m r)->∃cs:List Co,Right m s rs cs/\KA [Ad m rs,.int s]=.ok (.lst ((cs.map cst).map .sh)):=(zb EL).2
theorem C7:∃F:List D->M OT,(∀ {P w K mg base},Txt K mg->CY P w K mg base "order_or_ranked" 4 2 F)/\(∀(m:Nat) (rs:List Road),m<=20->(∀r∈rs,Io m r/\r.a≠r.b)->(∀L:List Int,L.Perm (AK m)->F [Ad m rs,.lst (L.map .int)]=.ok (.lst ((L.map D.int).map .sh)))/\F [Ad m rs,.Az]=.ok (.lst (((Ra m (Br rs) (AK m)).map D.int).map .sh))):=by
 refine⟨_,λ T=>B0 (k:=3) T.Js Iy _ (λ f B6 A outer s H E hr=>(A3 (B4 (JG (c:=true) (A1 1 (pv 1))) (A7 (Aj (Ak Ab.toXCall (Vo T) (hr.mono (by decide)) rfl (A2 (A1 0 (pv 0)) A8) rfl))) As) (A7 (Aj (Ak Ab.toXCall (Ki T) (hr.mono (by decide)) rfl (A2 (A1 0 (pv 0)) (A2 (A1 1 (pv 1)) A8)) rfl))))),?_⟩;intro m rs hm Av;have h1:=Vp m rs hm Av;refine⟨λ L hL=>?_,?_⟩
 ·have h2:Cu [Ad m rs,.lst (L.map .int)]=.ok (.lst ((L.map D.int).map .sh)):=Kj.1 m (.lst (rs.map CZ)) L (by omega) hL;have e0:AI ["net","order"] [Ad m rs,.lst (L.map .int)]=[some (.val (Ad m rs)),some (.val (.lst (L.map .int)))]:=rfl;rw[e0];refine Bw ?_;apply wp_step
  ·rfl
  simp_arith[h2];exact⟨_,rfl,rfl⟩
 ·have e0:AI ["net","order"] [Ad m rs,.Az]=[some (.val (Ad m rs)),some (.val .Az)]:=rfl;rw[e0];refine Bw ?_;simp_arith[BD,h1];exact⟨_,rfl,rfl⟩
noncomputable def BN:List D->M OT:=zm C7
theorem ID:Txt K mg->CY P w K mg base "order_or_ranked" 4 2 BN:=(zb C7).1
theorem Eg:∀(m:Nat) (rs:List Road),m<=20->(∀r∈rs,Io m r/\r.a≠r.b)->(∀L:List Int,L.Perm (AK m)->BN [Ad m rs,.lst (L.map .int)]=.ok (.lst ((L.map D.int).map .sh)))/\BN [Ad m rs,.Az]=.ok (.lst (((Ra m (Br rs) (AK m)).map D.int).map .sh)):=(zb C7).2
theorem G6:∃F:List D->M OT,(∀ {P w K mg base},Txt K mg->CY P w K mg base "kept_arcs" 3 2 F)/\(∀(m:Nat) (rs:List Road) (A:LA),m<=20->(∀r∈rs,Io m r)->En m A->∃K:List (Int×Int),F [Ad m rs,Ip A]=.ok (.lst ((K.map pD).map .sh))/\K.Nodup/\∀p,p∈K↔KP rs A p):=by
 refine⟨_,λ T=>B0 (k:=2) T.QQ Di _ (λ f B6 A outer s H E hr=>(A3 (BY 2 Di.nd rfl (zY rfl) (JP FH)) (A3 (CJ Ab.toXCall.own rfl (JJ (c:=true) rfl T.Jv (Ac (AZ hr 16 (by decide)) (A1 0 (pv 0)) A5)) (Bs 3 Di.nd rfl (Or.inr rfl)) (A3 (AD 4 Di.nd rfl (Or.inr rfl) (Aq (Ak Ab.toXCall (N5 T) (hr.mono (by decide)) rfl (A2 (A1 0 (pv 0)) (A2 (A1 3 (pv 3)) A8)) rfl))) (A7 (WL (Bt 2 (pv 2)) (by exact (FL (NB:=["w","u","laid","costs"]) [none,some 3,some 1,some 4] rfl (JJ (c:=true) rfl T.Jv (Ac (AZ hr 16 (by decide)) (A1 0 (pv 0)) A5)) rfl rfl (BG 0 (by decide) rfl rfl rfl) (λ _ _ _ _=>Hi (DW.dt (Ly (RP (c:=true) (AZ hr 16 (by decide)) (AS (A2 (A1 1 (pv 1)) (A2 (A1 0 (pv 0)) A8))) (A1 2 (pv 2))) (IZ (IY (c:=true) (AZ hr 16 (by decide)) (Ac (AZ hr 16 (by decide)) (Ac (AZ hr 16 (by decide)) (A1 2 (pv 2)) (AS (A2 (A1 1 (pv 1)) (A2 (A1 0 (pv 0)) A8)))) A5) (Ac (AZ hr 16 (by decide)) (A1 3 (pv 3)) (A1 0 (pv 0)))))))) (λ _ _ _ _=>(AS (A2 (A1 1 (pv 1)) (A2 (A1 0 (pv 0)) A8)))))))))) (A7 (Er 2 (pv 2)))))),?_⟩;intro m rs A hm Av hA;have e0:AI ["net","laid","kept","u","costs"] [Ad m rs,Ip A]=[some (.val (Ad m rs)),some (.val (Ip A)),none,none,none]:=rfl;rw[e0];refine (λ h:∃t,_/\∃K:List (Int×Int),t=.lst ((K.map pD).map .sh)/\K.Nodup/\∀p,p∈K↔KP rs A p=>by
  obtain⟨t,h1,K,rfl,h2⟩:=h;exact⟨K,h1,h2⟩) (SU ?_)
 have n0:B1 (Ad m rs) (.int 0)=.ok (.int m):=rfl;have hr:Wq (.int (m:Int))=.ok ((AK m).map D.int):=by rw[Q2 (by omega),S2]
 have hl:((AK m).map D.int).length<=1000:=by rw[zf,Fo];omega
 apply wp_step
 ·rfl
 try simp only[zE,zv]
 refine BH (I:=λ ρ=>∃(K:List (Int×Int)) (s3 s4:Option Cl),ρ=[some (.val (Ad m rs)),some (.val (Ip A)),some (.own (K.map pD)),s3,s4]/\K.Nodup/\∀p,p∈K↔KP rs A p) ?_ ?_
 ·simp_arith[n0,hr];refine CO (λ i ρ=>i<=m/\∃(K:List (Int×Int)) (s3 s4:Option Cl),ρ=[some (.val (Ad m rs)),some (.val (Ip A)),some (.own (K.map pD)),s3,s4]/\K.Nodup/\∀p,p∈K↔(p.1<i/\KP rs A p)) ⟨zT _,[],none,none,rfl,yC,λ p=>⟨(λ h=>by cases h),λ h=>by
   obtain⟨c,hc,_⟩:=h.2;have:=(hA.rg p (Fu hc)).2.1;omega⟩⟩ ?_ ?_
  ·rintro i d ρ hd ⟨hi,K,s3,s4,rfl,hn,hK⟩;obtain⟨u,hu,rfl⟩:=BJ hd;have am:i<m:=by have:=(zy.mp hu).1;rw[Fo] at this;exact this
   have eu:u=(i:Int):=by
    unfold AK at hu;rw[zG,List.getElem?_range am] at hu;exact (zH hu).symm
   subst eu;obtain⟨cs,hR,hF⟩:=N6 m i rs am (by omega) Av;refine⟨_,rfl,?_⟩;apply wp_step
   ·simp_arith[hF];rfl
   try simp only[zE,zv]
   obtain⟨W,hW⟩:∃W,W=(AK m).filter λ w=>mY A cs i w:=⟨_,rfl⟩;have sB:∀w,w∈W↔KP rs A ((i:Int),w):=λ w=>by
    rw[hW,yf,Jl];constructor
    ·rintro ⟨hw,h⟩;exact (Xs hR Av hw.1 hw.2).mp h
    ·intro h;obtain⟨c,hc,_⟩:=id h;have:=(hA.rg _ (Fu hc)).2.2;exact⟨this,(Xs hR Av this.1 this.2).mpr h⟩
   have uO:W.Nodup:=by rw[hW];exact (Mc m).filter _
   have aB:(K++W.map λ w=>((i:Int),w)).Nodup:=by
    rw[zN];refine⟨hn,List.pairwise_map.mpr (uO.imp fun {a b} pe e=>pe (by cases e;rfl)),λ x hx y hy e=>?_⟩;subst e;obtain⟨w,_,rfl⟩:=zP.mp hy;have:=(hK _).mp hx;simp at this
   have sJ:∀p,p∈K++W.map (λ w=>((i:Int),w))↔(p.1<((i+1:Nat):Int)/\KP rs A p):=λ p=>by
    rw[zK,hK];constructor
    ·rintro (h|h)
     ·exact⟨by have:=h.1;omega,h.2⟩
     ·obtain⟨w,hw,rfl⟩:=zP.mp h;exact⟨by dsimp only;omega,(sB w).mp hw⟩
    ·rintro ⟨h1,h2⟩;by_cases e:p.1<(i:Int)
     ·exact .inl ⟨e,h2⟩
     ·have e2:p.1=(i:Int):=by omega
      obtain⟨p1,p2⟩:=p;dsimp only at e2;subst e2;exact .inr (zP.mpr ⟨p2,(sB p2).mpr h2,rfl⟩)
   have hlen:=jC hA hm aB λ p hp=>((sJ p).mp hp).2;have hb:(K.map pD).length+((W.map λ w=>((i:Int),w)).map pD).length<=1000:=by
    rw[zB] at hlen;rw[zf,zf];omega
   refine Cd (ρ':=[some (.val (Ad m rs)),some (.val (Ip A)),some (.own ((K++W.map λ w=>((i:Int),w)).map pD)),some (.val (.int i)),some (.val (.lst (cs.map cst)))]) ?_ ⟨am,_,_,_,rfl,aB,sJ⟩;have t1:∀a b:Int,D.tup [.int a,.int b]=pD (a,b):=λ a b=>rfl;simp_arith[n0,hr,if_pos hl];rw[C2 (λ w=>mY A cs i w) (λ w=>pD ((i:Int),w)) (λ w hw=>⟨_,rfl,by
    have sK:=Jl.mp hw;have x1:B1 (.lst (cs.map cst)) (.int w)=.ok (cst (atC cs w)):=M8 sK.1 (by rw[hR.1];exact sK.2);have kg:=OU A ((i:Int),w) false;unfold mY A9;cases q:Bm A ((i:Int),w) with
    |none =>
     rw[q] at kg;simp_arith[t1,kg];rfl
    |some v =>
     rw[q] at kg;have hit:=Mh q;have h0:B1 (Rb v) (.int 0)=.ok (cst (some v.1)):=rfl;have he:=Ta (some v.1) (atC cs w);simp_arith[t1,kg,hit,h0,x1,he];rfl,λ _=>by simp_arith[t1]⟩)]
   rw[<-hW];have ew:W.map (λ w=>pD ((i:Int),w))=(W.map λ w=>((i:Int),w)).map pD:=by rw[yr];rfl
   rw[ew];simp_arith[if_pos hb];rw[<-yg]
  ·rintro ρ ⟨_,K,s3,s4,rfl,hn,hK⟩;refine⟨K,s3,s4,rfl,hn,λ p=>(hK p).trans ⟨λ h=>h.2,λ h=>⟨?_,h⟩⟩⟩;obtain⟨c,hc,_⟩:=h;have:=(hA.rg p (Fu hc)).2.1;rw[zf,Fo];omega
 ·rintro ρ ⟨K,s3,s4,rfl,hn,hK⟩;exact⟨_,rfl,K,rfl,hn,hK⟩
noncomputable def MB:List D->M OT:=zm G6
theorem Pc:Txt K mg->CY P w K mg base "kept_arcs" 3 2 MB:=(zb G6).1
theorem Pd:∀(m:Nat) (rs:List Road) (A:LA),m<=20->(∀r∈rs,Io m r)->En m A->∃K:List (Int×Int),MB [Ad m rs,Ip A]=.ok (.lst ((K.map pD).map .sh))/\K.Nodup/\∀p,p∈K↔KP rs A p:=(zb G6).2
theorem EM:∃F:List D->M OT,(∀ {P w K mg base},Txt K mg->CY P w K mg base "road_under" 2 3 F)/\(∀(m:Nat) (rs:List Road) (p c:Int×Int),rs.length<=900->(∃r∈rs,r.a=p.1/\r.b=p.2/\BS r=some c)->F [Ad m rs,pD p,cst (some c)]=.ok (.sh (.int (KQ rs p c:Nat)))):=by
 refine⟨_,λ T=>B0 (k:=1) T.P7 HU _ (λ f B6 A outer s H E hr=>(A3 (J5 (NB:=["number","road","arc","cost"]) 3 [none,none,some 1,some 2] HU.nd rfl (zY rfl) rfl (OC rfl T.GR (Ac (AZ hr 16 (by decide)) (A1 0 (pv 0)) A5)) rfl rfl (Zd (n:=2) rfl (NJ 0 (by decide) rfl rfl rfl (NJ 1 (by decide) rfl rfl rfl WV))) (λ _ _ _ _=>Hi (DW.dt (Ly (IY (c:=true) (AZ hr 16 (by decide)) (AS (A2 (Ac (AZ hr 16 (by decide)) (A1 1 (pv 1)) A5) (A2 (Ac (AZ hr 16 (by decide)) (A1 1 (pv 1)) A5) A8))) (A1 2 (pv 2))) (IZ (IY (c:=true) (AZ hr 16 (by decide)) (Aq (FI (Ak (EB rfl).toXCall (Dj T) (hr.mono (by decide)) rfl (A2 (A1 1 (pv 1)) A8) rfl))) (A1 3 (pv 3))))))) (λ _ _ _ _=>(A1 0 (pv 0)))) (A7 (Aj (AU (Ac (AZ hr 16 (by decide)) (A1 3 (pv 3)) A5)))))),?_⟩;intro m rs p c hl hr;have e0:AI ["net","arc","cost","numbers"] [Ad m rs,pD p,cst (some c)]=[some (.val (Ad m rs)),some (.val (pD p)),some (.val (cst (some c))),none]:=rfl;rw[e0];refine Bw ?_;obtain⟨r,t,hq,_⟩:=TF hr;have n1:B1 (Ad m rs) (.int 1)=.ok (.lst (rs.map CZ)):=rfl;have aM:((zL rs.length).map λ i:Nat=>D.tup [.int (i:Int),CZ (rs.getD i ⟨0,0,none,0⟩)]).length<=1000:=by rw[zf,List.length_range];omega
 refine wp_step (ρ':=[some (.val (Ad m rs)),some (.val (pD p)),some (.val (cst (some c))),some (.val (.lst (((zL rs.length).filter (XG rs p c)).map λ i:Nat=>D.int (i:Int))))]) (by
  simp_arith[n1,Vg,if_pos aM];rw[C2 (XG rs p c) (λ i:Nat=>D.int (i:Int)) (λ i hi=>⟨_,rfl,by
   have uP:=yM.mp hi;obtain⟨r,hr⟩:∃r,rs[i]?=some r:=⟨_,zr uP⟩;have eg:rs.getD i ⟨0,0,none,0⟩=r:=by rw[zI,hr];rfl
   have r0:B1 (CZ r) (.int 0)=.ok (.int r.a):=rfl;have r1:B1 (CZ r) (.int 1)=.ok (.int r.b):=rfl;have t1:D.tup [.int r.a,.int r.b]=pD (r.a,r.b):=rfl;have kh:=jG (r.a,r.b) p;have pd:=Dk r;have hd2:=Ta (BS r) (some c);have eb:XG rs p c i=(decide ((r.a,r.b)=p)&&decide (BS r=some c)):=by
    unfold XG;rw[hr];dsimp only;by_cases e1:(r.a,r.b)=p
    ·subst e1;simp
    ·have:¬ (r.a=p.1/\r.b=p.2/\BS r=some c):=λ h=>e1 (Prod.ext h.1 h.2.1);rw[decide_eq_false this,decide_eq_false e1];rfl
   rw[eb,eg];by_cases e1:(r.a,r.b)=p
   ·rw[decide_eq_true e1] at kh ⊢;simp_arith[r0,r1,t1,kh,pd,hd2,Bool.true_and];try rfl
   ·rw[decide_eq_false e1] at kh ⊢;simp_arith[r0,r1,t1,kh];try rfl,λ _=>by simp_arith[]⟩)]
  try rfl) ?_
 rw[hq];have hx:B1 (.lst ((KQ rs p c::t).map λ i:Nat=>D.int (i:Int))) (.int 0)=.ok (.int (KQ rs p c:Nat)):=OP (by decide) rfl;simp_arith[hx];rfl
noncomputable def KC:List D->M OT:=zm EM
theorem N7:Txt K mg->CY P w K mg base "road_under" 2 3 KC:=(zb EM).1
theorem N8:∀(m:Nat) (rs:List Road) (p c:Int×Int),rs.length<=900->(∃r∈rs,r.a=p.1/\r.b=p.2/\BS r=some c)->KC [Ad m rs,pD p,cst (some c)]=.ok (.sh (.int (KQ rs p c:Nat))):=(zb EM).2
theorem C8:∃F:OT->List D->M (OT×OT),(∀ {P w K mg base},Txt K mg->Qp P w K mg base "Ladder" 6 3 F)/\(∀(m:Nat) (rs:List Road) (o:D) (L:List Int),1<=m->m<=16->rs.length<=60->(∀r∈rs,KO m r)->L.Perm (AK m)->(o=.lst (L.map D.int)\/(o=.Az/\L=Ra m (Br rs) (AK m)))->∃(A:LA) (K:List (Int×Int)),Ft m rs L A K/\∃t,F (.ins "Ladder" [] []) [Ad m rs,o]=.ok (t,.sh .Az)/\er t=AN m rs L A K):=by
 refine⟨_,λ T=>X7 (k:=5) T.Jt Iz _ (λ f B6 A outer s H E hr=>(A3 (La ["Ladder"] (AV T.Bb Bg) (Bt 0 (pv 0)) (Aq (Ak Ab.toXCall (Si T) (hr.mono (by decide)) rfl (A2 (A1 1 (pv 1)) A8) rfl))) (A3 (La ["Ladder"] (AV T.C6 Bg) (Bt 0 (pv 0)) (Aq (Ij (Ak Ab.toXCall (ID T) (hr.mono (by decide)) rfl (A2 (Cn ["Ladder"] (AV T.Bb Bg) (A1 0 (pv 0))) (A2 (A1 2 (pv 2)) A8)) rfl)))) (A3 (La ["Ladder"] (AV T.Bo Bg) (Bt 0 (pv 0)) (Aq (Ij (Ak Ab.toXCall (Pa T) (hr.mono (by decide)) rfl (A2 (Cn ["Ladder"] (AV T.Bb Bg) (A1 0 (pv 0))) (A2 (Cn ["Ladder"] (AV T.C6 Bg) (A1 0 (pv 0))) A8)) rfl)))) (A7 (La ["Ladder"] (AV T.Ee Bg) (Bt 0 (pv 0)) (Aq (Ij (Ak Ab.toXCall (Pc T) (hr.mono (by decide)) rfl (A2 (Cn ["Ladder"] (AV T.Bb Bg) (A1 0 (pv 0))) (A2 (Cn ["Ladder"] (AV T.Bo Bg) (A1 0 (pv 0))) A8)) rfl))))))))),?_⟩;intro m rs o L cj b7 kl nj hL ho;have Av:∀r∈rs,Io m r/\r.a≠r.b:=λ r hr=>(nj r hr).sF;have pf:=Xh cj b7 kl nj;have h1:=Sj.1 m rs pf kl;have h2:BN [Ad m rs,o]=.ok (.lst ((L.map D.int).map .sh)):=by
  rcases ho with rfl|⟨rfl,rfl⟩
  ·exact (Eg m rs (by omega) Av).1 L hL
  ·exact (Eg m rs (by omega) Av).2
 have h3:=Pb m rs L (by omega) hL Av;have hA:=(Mg hL Av).1;obtain⟨K,h4,hn,hK⟩:=Pd m rs (Ba rs L) (by omega) (λ r hr=>(Av r hr).1) hA;refine⟨Ba rs L,K,⟨cj,b7,kl,Av,hL,rfl,hn,hK⟩,.ins "Ladder" ["own_map","own_order","laid","kept_ones"] [.sh (Ad m rs),.sh (.lst (L.map D.int)),.sh (Ip (Ba rs L)),.sh (.lst (K.map pD))],?_,rfl⟩;have e0:Cz ["self","net","order"] (.ins "Ladder" [] []) [Ad m rs,o]=[some (.ow (.tree (some 0) (.ins "Ladder" [] []))),some (.val (Ad m rs)),some (.val o)]:=rfl;rw[e0];refine S1 ?_;have e1:er (.tup [.sh (.int m),.lst ((rs.map CZ).map .sh)])=Ad m rs:=by rw[Zx,Kr,GF];rfl
 have T:∀(ns:List Str) (ds:List D),er (.ins "Ladder" ns (ds.map .sh))=.ins "Ladder" ns ds:=λ ns ds=>by rw[er,OH]
 have T1:=T ["own_map"] [Ad m rs];have T2:=T ["own_map","own_order"] [Ad m rs,.lst (L.map D.int)];have T3:=T ["own_map","own_order","laid"] [Ad m rs,.lst (L.map D.int),Ip (Ba rs L)];simp only[zg,List.map_nil] at T1 T2 T3;have d1:=Xu L;have d2:=ZA (Ba rs L);have d3:=Zz K;have f1:JV ["Ladder"] "own_map" (.ins "Ladder" ["own_map"] [Ad m rs])=.ok (Ad m rs):=rfl;have f2:JV ["Ladder"] "own_map" (.ins "Ladder" ["own_map","own_order"] [Ad m rs,.lst (L.map D.int)])=.ok (Ad m rs):=rfl;have f3:JV ["Ladder"] "own_order" (.ins "Ladder" ["own_map","own_order"] [Ad m rs,.lst (L.map D.int)])=.ok (.lst (L.map D.int)):=rfl;have f4:JV ["Ladder"] "own_map" (.ins "Ladder" ["own_map","own_order","laid"] [Ad m rs,.lst (L.map D.int),Ip (Ba rs L)])=.ok (Ad m rs):=rfl;have f5:JV ["Ladder"] "laid" (.ins "Ladder" ["own_map","own_order","laid"] [Ad m rs,.lst (L.map D.int),Ip (Ba rs L)])=.ok (Ip (Ba rs L)):=rfl;refine wp_step (ρ':=[some (.ow (.tree (some 0) (.ins "Ladder" ["own_map"] [.sh (Ad m rs)]))),some (.val (Ad m rs)),some (.val o)]) (by simp_arith[h1,e1];rfl) ?_;refine wp_step (ρ':=[some (.ow (.tree (some 0) (.ins "Ladder" ["own_map","own_order"] [.sh (Ad m rs),.sh (.lst (L.map D.int))]))),some (.val (Ad m rs)),some (.val o)]) (by simp_arith[T1,f1,h2,d1];rfl) ?_;refine wp_step (ρ':=[some (.ow (.tree (some 0) (.ins "Ladder" ["own_map","own_order","laid"] [.sh (Ad m rs),.sh (.lst (L.map D.int)),.sh (Ip (Ba rs L))]))),some (.val (Ad m rs)),some (.val o)]) (by simp_arith[T2,f2,f3,h3,d2];rfl) ?_;refine Cd (ρ':=[some (.ow (.tree (some 0) (.ins "Ladder" ["own_map","own_order","laid","kept_ones"] [.sh (Ad m rs),.sh (.lst (L.map D.int)),.sh (Ip (Ba rs L)),.sh (.lst (K.map pD))]))),some (.val (Ad m rs)),some (.val o)]) (by simp_arith[T3,f4,f5,h4,d3];rfl) ⟨rfl,rfl⟩
noncomputable def CV:OT->List D->M (OT×OT):=zm C8
theorem IE:Txt K mg->Qp P w K mg base "Ladder" 6 3 CV:=(zb C8).1
theorem IF:∀(m:Nat) (rs:List Road) (o:D) (L:List Int),1<=m->m<=16->rs.length<=60->(∀r∈rs,KO m r)->L.Perm (AK m)->(o=.lst (L.map D.int)\/(o=.Az/\L=Ra m (Br rs) (AK m)))->∃(A:LA) (K:List (Int×Int)),Ft m rs L A K/\∃t,CV (.ins "Ladder" [] []) [Ad m rs,o]=.ok (t,.sh .Az)/\er t=AN m rs L A K:=(zb C8).2
theorem Dd:∃F:List D->M OT,(∀ {P w K mg base},Txt K mg->FT P w K mg base "Ladder" "order" 1 1 F)/\(∀(m:Nat) (rs:List Road) (L:List Int) (A:LA) (K:List (Int×Int)),F [AN m rs L A K]=.ok (.lst ((L.map D.int).map .sh))):=by
 refine⟨_,λ T=>HA (k:=0) T.Mu KR _ (λ f B6 A outer s H E hr=>(A7 (Aj (L7 rfl T.G3 (Cn ["Ladder"] (AV T.C6 Bg) (A1 0 (pv 0))))))),?_⟩;intro m rs L A K;rfl
noncomputable def BW:List D->M OT:=zm Dd
theorem KU:Txt K mg->FT P w K mg base "Ladder" "order" 1 1 BW:=(zb Dd).1
theorem KW:∀(m:Nat) (rs:List Road) (L:List Int) (A:LA) (K:List (Int×Int)),BW [AN m rs L A K]=.ok (.lst ((L.map D.int).map .sh)):=(zb Dd).2
theorem Eh:∃F:List D->M OT,(∀ {P w K mg base},Txt K mg->FT P w K mg base "Ladder" "arcs" 1 1 F)/\(∀(m:Nat) (rs:List Road) (L:List Int) (A:LA) (K:List (Int×Int)),En m A->m<=8->F [AN m rs L A K]=.ok (.lst (((nB A).map pD).map .sh))):=by
 refine⟨_,λ T=>HA (k:=0) T.N0 Mq _ (λ f B6 A outer s H E hr=>(A7 (Aj (S8 rfl rfl T.QU (Cn ["Ladder"] (AV T.Bo Bg) (A1 0 (pv 0))))))),?_⟩;intro m rs L A K hA hm;have e0:AI ["self"] [AN m rs L A K]=[some (.val (AN m rs L A K))]:=rfl;rw[e0];refine Bw ?_;have f2:JV ["Ladder"] "laid" (AN m rs L A K)=.ok (Ip A):=rfl;have hs:=ZQ hA hm;simp_arith[f2,hs];exact⟨_,rfl,rfl⟩
noncomputable def Cv:List D->M OT:=zm Eh
theorem MC:Txt K mg->FT P w K mg base "Ladder" "arcs" 1 1 Cv:=(zb Eh).1
theorem MD:∀(m:Nat) (rs:List Road) (L:List Int) (A:LA) (K:List (Int×Int)),En m A->m<=8->Cv [AN m rs L A K]=.ok (.lst (((nB A).map pD).map .sh)):=(zb Eh).2
theorem BE:∃F:List D->M OT,(∀ {P w K mg base},Txt K mg->FT P w K mg base "Ladder" "checked_arc" 2 3 F)/\(∀(m:Nat) (rs:List Road) (L:List Int) (A:LA) (K:List (Int×Int)) (u w:Int),0<=u->u<m->0<=w->w<m->(Bm A (u,w)).isSome=true->F [AN m rs L A K,.int u,.int w]=.ok (.sh (pD (u,w)))):=by
 refine⟨_,λ T=>HA (k:=1) T.GQ CC _ (λ f B6 A outer s H E hr=>(A3 (AD 3 CC.nd rfl (zY rfl) (Ac (AZ hr 16 (by decide)) (Cn ["Ladder"] (AV T.Bb Bg) (A1 0 (pv 0))) A5)) (A3 (B4 (DW.dt (Eo (BQ (Bz (c:=true) (Aq (Ak Ab.toXCall (AO T) (hr.mono (by decide)) rfl (A2 (A1 1 (pv 1)) (A2 (A1 3 (pv 3)) A8)) rfl)))) (Eo (BQ (Bz (c:=true) (Aq (Ak Ab.toXCall (AO T) (hr.mono (by decide)) rfl (A2 (A1 2 (pv 2)) (A2 (A1 3 (pv 3)) A8)) rfl)))) (CH (L8 (c:=true) (AZ hr 16 (by decide)) (AS (A2 (A1 1 (pv 1)) (A2 (A1 2 (pv 2)) A8))) (Cn ["Ladder"] (AV T.Bo Bg) (A1 0 (pv 0)))))))) (A7 (JK (c:=true) T.ZT Ab rfl rfl RC)) As) (A7 (Aj (AU (AS (A2 (A1 1 (pv 1)) (A2 (A1 2 (pv 2)) A8))))))))),?_⟩;intro m rs L A K u w u0 u1 w0 w1 hf;have e0:AI ["self","u","w","many"] [AN m rs L A K,.int u,.int w]=[some (.val (AN m rs L A K)),some (.val (.int u)),some (.val (.int w)),none]:=rfl;rw[e0];refine Bw ?_;have f1:JV ["Ladder"] "own_map" (AN m rs L A K)=.ok (Ad m rs):=rfl;have f2:JV ["Ladder"] "laid" (AN m rs L A K)=.ok (Ip A):=rfl;have n0:B1 (Ad m rs) (.int 0)=.ok (.int m):=rfl;have h1:=AF (.int u) m rfl;have h2:=AF (.int w) m rfl;have g1:Jy (.int u) m=true:=by simp[Jy,u0,u1]
 have g2:Jy (.int w) m=true:=by simp[Jy,w0,w1]
 rw[g1] at h1;rw[g2] at h2;have hp:D.tup [.int u,.int w]=pD (u,w):=rfl;have hm:=OU A (u,w) true;rw[hf] at hm;apply wp_step
 ·simp_arith[f1,n0];rfl
 apply wp_step
 ·simp_arith[h1,h2,f2,hp,hm,FK];rfl
 rfl
noncomputable def Ax:List D->M OT:=zm BE
theorem CD:Txt K mg->FT P w K mg base "Ladder" "checked_arc" 2 3 Ax:=(zb BE).1
theorem CF:∀(m:Nat) (rs:List Road) (L:List Int) (A:LA) (K:List (Int×Int)) (u w:Int),0<=u->u<m->0<=w->w<m->(Bm A (u,w)).isSome=true->Ax [AN m rs L A K,.int u,.int w]=.ok (.sh (pD (u,w))):=(zb BE).2
theorem Ei:∃F:List D->M OT,(∀ {P w K mg base},Txt K mg->FT P w K mg base "Ladder" "cost" 3 3 F)/\(∀(m:Nat) (rs:List Road) (L:List Int) (A:LA) (K:List (Int×Int)) (u w:Int) (c:Int×Int),En m A->A9 A (u,w)=some c->F [AN m rs L A K,.int u,.int w]=.ok (.sh (cst (some c)))):=by
 refine⟨_,λ T=>HA (k:=2) T.N1 Mr _ (λ f B6 A outer s H E hr=>(A7 (Aj (AU (Ac (AZ hr 16 (by decide)) (Ac (AZ hr 16 (by decide)) (Cn ["Ladder"] (AV T.Bo Bg) (A1 0 (pv 0))) (Aq (HB (k:=2) [("Ladder",Ax)] Ab.toXCall (D2 (by decide) (CD T) Es) (hr.mono (by decide)) (A1 0 (pv 0)) (A2 (A1 1 (pv 1)) (A2 (A1 2 (pv 2)) A8)) rfl))) A5))))),?_⟩;intro m rs L A K u w c hA hc;have e0:AI ["self","u","w"] [AN m rs L A K,.int u,.int w]=[some (.val (AN m rs L A K)),some (.val (.int u)),some (.val (.int w))]:=rfl;rw[e0];refine Bw ?_;have f2:JV ["Ladder"] "laid" (AN m rs L A K)=.ok (Ip A):=rfl;have hk:=hA.rg _ (Fu hc);obtain⟨v,hv⟩:∃v,Bm A (u,w)=some (c,v):=by
  unfold A9 at hc;cases q:Bm A (u,w) with
  |none=>rw[q] at hc;cases hc
  |some z=>rw[q] at hc;obtain⟨z1,z2⟩:=z;cases hc;exact⟨z2,rfl⟩
 have h1:=CF m rs L A K u w hk.2.1.1 hk.2.1.2 hk.2.2.1 hk.2.2.2 (by rw[hv];rfl);have hi:=Mh hv;have h0:B1 (Rb (c,v)) (.int 0)=.ok (cst (some c)):=rfl;have hs:Ji [("Ladder",Ax)] "checked_arc" (AN m rs L A K)=.ok Ax:=rfl;simp_arith[f2,hs,h1,hi,h0];rfl
noncomputable def BO:List D->M OT:=zm Ei
theorem GY:Txt K mg->FT P w K mg base "Ladder" "cost" 3 3 BO:=(zb Ei).1
theorem ME:∀(m:Nat) (rs:List Road) (L:List Int) (A:LA) (K:List (Int×Int)) (u w:Int) (c:Int×Int),En m A->A9 A (u,w)=some c->BO [AN m rs L A K,.int u,.int w]=.ok (.sh (cst (some c))):=(zb Ei).2
theorem C9:∃F:List D->M OT,(∀ {P w K mg base},Txt K mg->FT P w K mg base "Ladder" "unpacked" 3 3 F)/\(∀(m:Nat) (rs:List Road) (L:List Int) (A:LA) (K:List (Int×Int)) (u w:Int),Ft m rs L A K->m<=8->(Bm A (u,w)).isSome=true->F [AN m rs L A K,.int u,.int w]=.ok (.lst (((C5 rs L A (u,w)).map λ n:Nat=>D.int (n:Int)).map .sh))):=by
 refine⟨_,λ T=>HA (k:=2) T.Ju Be _ (λ f B6 A outer s H E hr=>(A3 (BY 3 Be.nd rfl (zY rfl) (JP FH)) (A3 (BY 4 Be.nd rfl (zY rfl) (JP (LO (HB (k:=2) [("Ladder",Ax)] Ab.toXCall (D2 (by decide) (CD T) Es) (hr.mono (by decide)) (A1 0 (pv 0)) (A2 (A1 1 (pv 1)) (A2 (A1 2 (pv 2)) A8)) rfl) FH))) (A3 (LF Ab.toXCall.own (LP (Bz (c:=true) (A1 4 (pv 4)))) (A3 (Z6 5 Be.nd rfl (zY rfl) (iI (Bt 4 (pv 4)))) (A3 (AD 6 Be.nd rfl (zY rfl) (Ac (AZ hr 16 (by decide)) (Ac (AZ hr 16 (by decide)) (Cn ["Ladder"] (AV T.Bo Bg) (A1 0 (pv 0))) (A1 5 (pv 5))) A5)) (A7 (B4 (JG (c:=true) (A1 6 (pv 6))) (A7 (gZ (Bt 3 (pv 3)) (Ak Ab.toXCall (N7 T) (hr.mono (by decide)) rfl (A2 (Cn ["Ladder"] (AV T.Bb Bg) (A1 0 (pv 0))) (A2 (A1 5 (pv 5)) (A2 (Ac (AZ hr 16 (by decide)) (Ac (AZ hr 16 (by decide)) (Cn ["Ladder"] (AV T.Bo Bg) (A1 0 (pv 0))) (A1 5 (pv 5))) A5) A8))) rfl))) (A3 (JI 4 (pv 4) (AS (A2 (A1 6 (pv 6)) (A2 (Ac (AZ hr 16 (by decide)) (A1 5 (pv 5)) A5) A8)))) (A7 (JI 4 (pv 4) (AS (A2 (Ac (AZ hr 16 (by decide)) (A1 5 (pv 5)) A5) (A2 (A1 6 (pv 6)) A8))))))))))) (A7 (Er 3 (pv 3))))))),?_⟩;intro m rs L A K u w ok hm hf;have e0:AI ["self","u","w","roads","waiting","arc","middle"] [AN m rs L A K,.int u,.int w]=[some (.val (AN m rs L A K)),some (.val (.int u)),some (.val (.int w)),none,none,none,none]:=rfl;rw[e0];refine Bw ?_;have hA:=ok.sE;obtain⟨z0,sL⟩:=yk.mp hf;have ko:A9 A (u,w)=some z0.1:=by unfold A9;rw[sL];rfl
 have hk:=hA.rg _ (Fu ko);have bK:=CF m rs L A K u w hk.2.1.1 hk.2.1.2 hk.2.2.1 hk.2.2.2 hf;have a9:Ji [("Ladder",Ax)] "checked_arc" (AN m rs L A K)=.ok Ax:=rfl;have f1:JV ["Ladder"] "own_map" (AN m rs L A K)=.ok (Ad m rs):=rfl;have f2:JV ["Ladder"] "laid" (AN m rs L A K)=.ok (Ip A):=rfl;have uQ:=K9 ok _ (c:=z0.1) (mid:=z0.2) rfl sL;have uR:Jp L (u,w)<=8:=by
  have:=Xp L u;have:=Jm ok.pm;unfold Jp;dsimp only;omega
 have uS:(C5 rs L A (u,w)).length<=256:=by
  have:=uQ.up;have h2:2^Jp L (u,w)<=2^8:=Nat.pow_le_pow_right (by decide) uR;omega
 refine wp_step (ρ':=[some (.val (AN m rs L A K)),some (.val (.int u)),some (.val (.int w)),some (.own []),none,none,none]) (by simp_arith[];try rfl) ?_;refine wp_step (ρ':=[some (.val (AN m rs L A K)),some (.val (.int u)),some (.val (.int w)),some (.own []),some (.own [pD (u,w)]),none,none]) (by simp_arith[a9,bK];try rfl) ?_;refine BH (I:=λ ρ=>∃s4 s5 s6:Option Cl,ρ=[some (.val (AN m rs L A K)),some (.val (.int u)),some (.val (.int w)),some (.own ((C5 rs L A (u,w)).map λ n:Nat=>D.int (n:Int))),s4,s5,s6]) ?_ ?_
 ·refine LZ (lt:=λ a b:Nat=>a<b) (λ n ρ=>∃(N:List Nat) (W:List (Int×Int)) (o5 o6:Option D),ρ=[some (.val (AN m rs L A K)),some (.val (.int u)),some (.val (.int w)),some (.own (N.map λ n:Nat=>D.int (n:Int))),some (.own ((W.map pD).reverse)),vO o5,vO o6]/\dJ rs L A W=n/\(∀p∈W,(Bm A p).isSome=true)/\N++QL rs L A W=C5 rs L A (u,w)) (Nat.lt_wfRel.wf.apply (dJ rs L A [(u,w)])) ⟨[],[(u,w)],none,none,rfl,rfl,(λ p hp=>by rw[zw.mp hp];exact hf),by unfold QL;simp⟩ ?_;rintro n ρ ⟨N,W,o5,o6,rfl,hn,hW,hE⟩;have hlen:=congrArg List.length hE;rw[zB] at hlen;have jx:=OV ok hW;cases W with
  |nil =>
   left;refine⟨rfl,some (.own []),vO o5,vO o6,?_⟩;have:N=C5 rs L A (u,w):=by rw[<-hE];unfold QL;simp
   rw[this];rfl
  |cons p W =>
   have ph:FK (.lst (((p::W).map pD).reverse))=.ok true:=by
    rw[Qi];simp
   obtain⟨z,hz⟩:=yk.mp (hW p zd);obtain⟨c,mid⟩:=z;obtain⟨_,m2,m3⟩:=Fw ok hz;have uT:=K9 ok _ rfl hz;have pi:((p::W).map pD).reverse=(W.map pD).reverse++[pD p]:=by rw[zg,yT]
   have hi:=Mh hz;have l0:B1 (Rb (c,mid)) (.int 0)=.ok (cst (some c)):=rfl;have l1:B1 (Rb (c,mid)) (.int 1)=.ok (E8 mid):=rfl;have p0:B1 (pD p) (.int 0)=.ok (.int p.1):=rfl;have p1:B1 (pD p) (.int 1)=.ok (.int p.2):=rfl;have sM:QL rs L A (p::W)=C5 rs L A p++QL rs L A W:=rfl;rw[sM,zB] at hlen;rw[sM] at hE;have uU:dJ rs L A (p::W)=2*(C5 rs L A p).length-1+dJ rs L A W:=rfl;rw[uU] at hn;have uV:=OV ok λ q hq=>hW q (ze _ hq);right;constructor
   ·simp_arith[ph];try rfl
   rw[pi];have hp:=Vh (ρ:=[some (.val (AN m rs L A K)),some (.val (.int u)),some (.val (.int w)),some (.own (N.map λ n:Nat=>D.int (n:Int))),some (.own ((W.map pD).reverse++[pD p])),vO o5,vO o6]) (i:=4) (xs:=(W.map pD).reverse) (d:=pD p) rfl;apply wp_step
   ·simp_arith[hp];rfl
   try simp only[zE,zv]
   refine wp_step (ρ':=[some (.val (AN m rs L A K)),some (.val (.int u)),some (.val (.int w)),some (.own (N.map λ n:Nat=>D.int (n:Int))),some (.own ((W.map pD).reverse)),some (.val (pD p)),some (.val (E8 mid))]) (by simp_arith[f2,hi,l1];try rfl) ?_;cases mid with
   |none =>
    have bO:BD (E8 none)=true:=rfl;have uW:=N8 m rs p c (by have:=ok.rl;omega) (m2 rfl);rw[O8 hz] at hE hlen hn;have cn:((N.map λ n:Nat=>D.int (n:Int)).map OT.sh).length<1000:=by rw[zf,zf];omega
    have ea:(N.map λ n:Nat=>D.int (n:Int)).map OT.sh++[OT.sh (.int (KQ rs p c:Nat))]=((N++[KQ rs p c]).map λ n:Nat=>D.int (n:Int)).map OT.sh:=by rw[yg,yg];rfl
    refine Cd (ρ':=[some (.val (AN m rs L A K)),some (.val (.int u)),some (.val (.int w)),some (.own ((N++[KQ rs p c]).map λ n:Nat=>D.int (n:Int))),some (.own ((W.map pD).reverse)),vO (some (pD p)),vO (some (E8 none))]) (by
     simp_arith[bO,f1,f2,hi,l0,uW,if_true,if_pos cn,ea];rfl) ⟨dJ rs L A W,?_,_,W,_,_,rfl,rfl,λ q hq=>hW q (ze _ hq),by rw[yD];exact hE⟩
    rw[y3] at hn;omega
   |some v =>
    obtain⟨_,_,a,b,ma,mb,g1,g2,_⟩:=m3 v rfl;have bO:BD (E8 (some v))=false:=rfl;have lv:E8 (some v)=.int v:=rfl;have jh:=QK ok hz;have u1:=(K9 ok _ rfl g1).ne;have u2:=(K9 ok _ rfl g2).ne;have cn:((W.map pD).reverse).length<1000:=by rw[List.length_reverse,zf];omega
    have fm:((W.map pD).reverse++[pD (v,p.2)]).length<1000:=by
     rw[zB,List.length_reverse,zf,y3];have:=uT.ne;omega
    have uX:(((p.1,v)::(v,p.2)::W).map pD).reverse=(W.map pD).reverse++[pD (v,p.2)]++[pD (p.1,v)]:=by rw[zg,zg,yT,yT]
    have pj:BD (.int v)=false:=rfl;simp_arith[lv,pj,zC,if_false];apply wp_step
    ·simp_arith[p1,if_pos cn];rfl
    try simp only[zE,zv]
    have t1:D.tup [.int v,.int p.2]=pD (v,p.2):=rfl;refine Cd (ρ':=[some (.val (AN m rs L A K)),some (.val (.int u)),some (.val (.int w)),some (.own (N.map λ n:Nat=>D.int (n:Int))),some (.own ((((p.1,v)::(v,p.2)::W).map pD).reverse)),vO (some (pD p)),vO (some (.int v))]) (by
     rw[uX];simp_arith[p0,t1,if_pos fm];try rfl) ⟨dJ rs L A ((p.1,v)::(v,p.2)::W),?_,N,_,_,_,rfl,rfl,λ q hq=>?_,?_⟩
    ·rw[jh,zB] at hn;show 2*(C5 rs L A (p.1,v)).length-1+(2*(C5 rs L A (v,p.2)).length-1+dJ rs L A W)<n;omega
    ·rcases zl.mp hq with rfl|hq
     ·rw[g1];rfl
     ·rcases zl.mp hq with rfl|hq
      ·rw[g2];rfl
      ·exact hW q (ze _ hq)
    ·rw[jh] at hE;show N++(C5 rs L A (p.1,v)++(C5 rs L A (v,p.2)++QL rs L A W))=_;rw[<-yD (C5 rs L A (p.1,v))];exact hE
 ·rintro ρ ⟨s4,s5,s6,rfl⟩;exact⟨_,rfl,rfl⟩
noncomputable def AW:List D->M OT:=zm C9
theorem Ej:Txt K mg->FT P w K mg base "Ladder" "unpacked" 3 3 AW:=(zb C9).1
theorem IG:∀(m:Nat) (rs:List Road) (L:List Int) (A:LA) (K:List (Int×Int)) (u w:Int),Ft m rs L A K->m<=8->(Bm A (u,w)).isSome=true->AW [AN m rs L A K,.int u,.int w]=.ok (.lst (((C5 rs L A (u,w)).map λ n:Nat=>D.int (n:Int)).map .sh)):=(zb C9).2
theorem Ek:∃F:List D->M OT,(∀ {P w K mg base},Txt K mg->FT P w K mg base "Ladder" "kept" 1 1 F)/\(∀(m:Nat) (rs:List Road) (L:List Int) (A:LA) (K:List (Int×Int)),F [AN m rs L A K]=.ok (.lst ((K.map pD).map .sh))):=by
 refine⟨_,λ T=>HA (k:=0) T.N2 Ms _ (λ f B6 A outer s H E hr=>(A7 (Aj (L7 rfl T.G3 (Cn ["Ladder"] (AV T.Ee Bg) (A1 0 (pv 0))))))),?_⟩;intro m rs L A K;rfl
noncomputable def Jx:List D->M OT:=zm Ek
theorem XZ:Txt K mg->FT P w K mg base "Ladder" "kept" 1 1 Jx:=(zb Ek).1
theorem Y0:∀(m:Nat) (rs:List Road) (L:List Int) (A:LA) (K:List (Int×Int)),Jx [AN m rs L A K]=.ok (.lst ((K.map pD).map .sh)):=(zb Ek).2
theorem G7:∃F:List D->M OT,(∀ {P w K mg base},Txt K mg->CY P w K mg base "_law_mixed" 1 2 F)/\(∀c k:Int,0<=k->k<=1000->∃v:Int,0<=v/\F [.int c,.int k]=.ok (.sh (.int v))):=by
 refine⟨_,λ T=>B0 (k:=0) T.QR G0 _ (λ f B6 A outer s H E hr=>(A3 (AD 2 G0.nd rfl (zY rfl) (BP (D6 (BP (A1 0 (pv 0)) A5) (L5 A5 (D6 (A1 1 (pv 1)) A5))) A5)) (A3 (AD 2 G0.nd rfl (zY rfl) (BP (D6 (D6 (L5 (A1 2 (pv 2)) (A1 2 (pv 2))) (L5 A5 (A1 1 (pv 1)))) A5) A5)) (A7 (Aj (AU (BP (L5 (A1 2 (pv 2)) (A1 2 (pv 2))) A5))))))),?_⟩;intro c k h0 h1;have e0:AI ["_law_cell","_law_k","_law_number"] [.int c,.int k]=[some (.val (.int c)),some (.val (.int k)),none]:=rfl;rw[e0];have m1:LL (.int 48271) (.int (k+1))=.ok (.int (48271*(k+1))):=J7 (.inr (.inr (.inr ⟨by omega,by omega⟩)));obtain⟨x,hx⟩:∃x,x=(c%2147483629+48271*(k+1))%2147483647:=⟨_,rfl⟩;have x0:0<=x:=by omega
 have x1:x<2147483647:=by omega
 have m2:LL (.int x) (.int x)=.ok (.int (x*x)):=J7 (.inr (.inr (.inr ⟨by omega,by omega⟩)));have m3:LL (.int 69621) (.int k)=.ok (.int (69621*k)):=J7 (.inr (.inr (.inr ⟨by omega,by omega⟩)));obtain⟨y,hy⟩:∃y,y=(x*x+69621*k+7)%2147483587:=⟨_,rfl⟩;have y0:0<=y:=by rw[hy];exact yF _ (by decide)
 have y1:y<2147483587:=by rw[hy];exact yK _ (by decide)
 have m4:LL (.int y) (.int y)=.ok (.int (y*y)):=J7 (.inr (.inr (.inr ⟨by omega,by omega⟩)));refine⟨y*y%2147483579,yF _ (by decide),?_⟩;simp[iC,iD,m1,We,Ie,B3,<-hx,m2,m3,<-hy,m4,Us,Wn,cV,Ut]
noncomputable def MF:List D->M OT:=zm G7
theorem G8:Txt K mg->CY P w K mg base "_law_mixed" 1 2 MF:=(zb G7).1
theorem G9:∀c k:Int,0<=k->k<=1000->∃v:Int,0<=v/\MF [.int c,.int k]=.ok (.sh (.int v)):=(zb G7).2
theorem GZ:∃F:List D->M OT,(∀ {P w K mg base},Txt K mg->CY P w K mg base "_law_road" 2 2 F)/\(∀(c:Int) (m:Nat),2<=m->m<=20->0<=c->∃r:Road,KO m r/\F [.int c,.int m]=.ok (.sh (CZ r))):=by
 refine⟨_,λ T=>B0 (k:=1) T.Sf Bl _ (λ f B6 A outer s H E hr=>(A3 (AD 2 Bl.nd rfl (zY rfl) (Aq (Ak Ab.toXCall (G8 T) (hr.mono (by decide)) rfl (A2 (A1 0 (pv 0)) (A2 A5 A8)) rfl))) (A3 (AD 3 Bl.nd rfl (zY rfl) (BP (A1 2 (pv 2)) (A1 1 (pv 1)))) (A3 (AD 4 Bl.nd rfl (zY rfl) (BP (D6 (D6 (A1 3 (pv 3)) A5) (BP (L3 (A1 2 (pv 2)) A5) (fT (A1 1 (pv 1)) A5))) (A1 1 (pv 1)))) (A3 (AD 5 Bl.nd rfl (zY rfl) (BP (L3 (A1 2 (pv 2)) A5) A5)) (A3 (AD 6 Bl.nd rfl (zY rfl) (BP (L3 (A1 2 (pv 2)) A5) A5)) (A3 (B4 (IY (c:=true) (AZ hr 16 (by decide)) (A1 5 (pv 5)) A5) (A7 (AD 6 Bl.nd rfl (zY rfl) Cj)) As) (A3 (B4 (IY (c:=true) (AZ hr 16 (by decide)) (A1 5 (pv 5)) A5) (A7 (AD 6 Bl.nd rfl (zY rfl) (BP (A1 0 (pv 0)) (Ox A5 A5)))) As) (A3 (B4 (IY (c:=true) (AZ hr 16 (by decide)) (A1 5 (pv 5)) A5) (A7 (AD 6 Bl.nd rfl (zY rfl) (BP (L3 (A1 2 (pv 2)) A5) A5))) As) (A7 (Aj (AU (AS (A2 (A1 3 (pv 3)) (A2 (A1 4 (pv 4)) (A2 (A1 6 (pv 6)) (A2 (BP (Aq (Ak Ab.toXCall (G8 T) (hr.mono (by decide)) rfl (A2 (A1 0 (pv 0)) (A2 A5 A8)) rfl)) (Ac (AZ hr 16 (by decide)) (Lw (A2 A5 (A2 (Ox A5 A5) A8))) (BP (A1 0 (pv 0)) A5))) A8))))))))))))))))),?_⟩;intro c m b7 hm hc;have e0:AI ["_law_cell","_law_many","_law_mixed_here","_law_one","_law_other","_law_way","_law_length"] [.int c,.int m]=[some (.val (.int c)),some (.val (.int m)),none,none,none,none,none]:=rfl;rw[e0];obtain⟨x,x0,hx⟩:=G9 c 1 (by omega) (by omega);obtain⟨y,y0,hy⟩:=G9 c 2 (by omega) (by omega);have kr:(0:Int)<(m:Int):=by omega
 have ji:(0:Int)<(m:Int)-1:=by omega
 obtain⟨a,ha⟩:∃a,a=x%(m:Int):=⟨_,rfl⟩;have a0:0<=a:=by rw[ha];exact yF _ (by omega)
 have a1:a<m:=by rw[ha];exact yK _ kr
 obtain⟨s,hs⟩:∃s,s=x / 16%((m:Int)-1):=⟨_,rfl⟩;have s0:0<=s:=by rw[hs];exact yF _ (by omega)
 have s1:s<(m:Int)-1:=by rw[hs];exact yK _ ji
 obtain⟨b,hb⟩:∃b,b=(a+1+s)%(m:Int):=⟨_,rfl⟩;have b0:0<=b:=by rw[hb];exact yF _ (by omega)
 have b1:b<m:=by rw[hb];exact yK _ kr
 have pe:a≠b:=by
  have:=iF (a:=a) (s:=1+s) (m:=m) a0 a1 (by omega) (by omega);rw[hb,Int.add_assoc];exact λ z=>this z.symm
 have uY:Nv (.int x) (.int 16)=.ok (.int (x / 16)):=JY (by unfold Pw;omega);have pk:Nv (.int x) (.int 256)=.ok (.int (x / 256)):=JY (by unfold Pw;omega);have dh:Nv (.int x) (.int 1536)=.ok (.int (x / 1536)):=JY (by unfold Pw;omega);have ma:Ie (.int x) (.int (m:Int))=.ok (.int a):=by rw[ha];exact BA kr
 have sb:fS (.int (m:Int)) (.int 1)=.ok (.int ((m:Int)-1)):=rfl;have ms:Ie (.int (x / 16)) (.int ((m:Int)-1))=.ok (.int s):=by rw[hs];exact BA ji
 have uZ:We (.int a) (.int 1)=.ok (.int (a+1)):=rfl;have va:We (.int (a+1)) (.int s)=.ok (.int (a+1+s)):=rfl;have mb:Ie (.int (a+1+s)) (.int (m:Int))=.ok (.int b):=by rw[hb];exact BA kr
 have m6:Ie (.int (x / 256)) (.int 6)=.ok (.int (x / 256%6)):=BA (by decide);have m4:Ie (.int (x / 1536)) (.int 4)=.ok (.int (x / 1536%4)):=BA (by decide);have pq:Ie (.int (x / 1536)) (.int 101)=.ok (.int (x / 1536%101)):=BA (by decide);have m2:Ie (.int c) (.int 2)=.ok (.int (c%2)):=BA (by decide);have vb:=iR;obtain⟨T,vc,jj,hT⟩:∃T:Int,T=Pk/\0<T/\PX (.int 10) (.int 60)=.ok (.int T):=⟨Pk,rfl,by omega,dD⟩;have mT:Ie (.int c) (.int T)=.ok (.int (c%T)):=BA jj;obtain⟨w,w0,hw⟩:∃w,(0<w/\w<=T)/\B1 (.lst [.int 5,.int T]) (.int (c%2))=.ok (.int w):=by
  have h:c%2=0\/c%2=1:=by omega
  rcases h with h|h
  ·rw[h];exact⟨5,⟨by decide,by omega⟩,rfl⟩
  ·rw[h];exact⟨T,⟨jj,by omega⟩,rfl⟩
 have mw:Ie (.int y) (.int w)=.ok (.int (y%w)):=BA w0.1;obtain⟨k,hk⟩:∃k,k=x / 256%6:=⟨_,rfl⟩;obtain⟨l,o9,hl⟩:∃l:Option Int,(∀z,l=some z->0<=z/\z<Pk)/\l=(if k=2 then some (x / 1536%101) else if k=1 then some (c%T) else if k=0 then none else some (x / 1536%4)):=by
  refine⟨_,λ z hz=>?_,rfl⟩;split at hz
  ·cases hz;omega
  ·split at hz
   ·cases hz;exact⟨yF _ (by omega),by rw[<-vc];exact yK _ jj⟩
   ·split at hz
    ·cases hz
    ·cases hz;omega
 refine⟨⟨a,b,l,y%w⟩,⟨a0,a1,b0,b1,pe,o9,yF _ (by omega),by have:=yK y w0.1;show y%w<Pk;omega⟩,Bw ?_⟩;rw[<-hk] at m6;apply wp_step
 ·simp_arith[hx];rfl
 apply wp_step
 ·simp_arith[ma];rfl
 apply wp_step
 ·simp_arith[uZ,uY,sb,ms,va,mb];rfl
 apply wp_step
 ·simp_arith[pk,m6];rfl
 apply wp_step
 ·simp_arith[dh,m4];rfl
 refine BH (I:=λ ρ=>ρ=[some (.val (.int c)),some (.val (.int m)),some (.val (.int x)),some (.val (.int a)),some (.val (.int b)),some (.val (.int k)),some (.val (E8 (if k=0 then none else some (x / 1536%4))))]) ?_ ?_
 ·simp_arith[];by_cases h:k=0
  ·simp only[h,decide_true,if_true];rfl
  ·simp only[h,decide_false,zC,if_false];rfl
 rintro ρ rfl;refine BH (I:=λ ρ=>ρ=[some (.val (.int c)),some (.val (.int m)),some (.val (.int x)),some (.val (.int a)),some (.val (.int b)),some (.val (.int k)),some (.val (E8 (if k=1 then some (c%T) else if k=0 then none else some (x / 1536%4))))]) ?_ ?_
 ·simp_arith[];by_cases h:k=1
  ·simp only[h,decide_true,if_true,iC,iD,Hz,zE,zv,M.A6,Dr,Dq,ES,F4,F5,F6,Ho,FO,GF,Kr,EV,EW,Ds,NK,Hl,Hm,EX,UB,Dt,Du,CP,JR,BI,JS,EY,EZ,Dv,NL,EU,Cm,toCl_list,toCl_listP,toCl_dct,Hq,F7,F8,F9,Fb,Hr,Fc,Fe,Ff,cW,cV,F0,NM,F1,NO,F2,F3,Hn,NP,jW,jX,UE,UG,UH,UI,UJ,UK,toCl_nil,Gz,Jd,Lx,JT,Dw,Hs,Ht,Fg,Fh,Hu,Hv,Hw,Hx,Hy,Fi,Fj,Fl,Fm,Dx,Dy,Dz,DB,DC,Fn,DD,DF,NQ,NR,NS,NT,NU,DH,ite_tt,ite_ff,Bool.not_true,Bool.not_false,yX,zR,CS,Fp,Fq,UD,V2,UC,V5,V6,V7,HG,K1,K2,K3,Ce,DK,HI,JX,Vc,O7,K7,hT,mT];rfl
  ·simp only[h,decide_false,zC,if_false];rfl
 rintro ρ rfl;refine BH (I:=λ ρ=>ρ=[some (.val (.int c)),some (.val (.int m)),some (.val (.int x)),some (.val (.int a)),some (.val (.int b)),some (.val (.int k)),some (.val (E8 l))]) ?_ ?_
 ·rw[hl];simp_arith[];by_cases h:k=2
  ·simp only[h,decide_true,if_true,iC,iD,Hz,zE,zv,M.A6,Dr,Dq,ES,F4,F5,F6,Ho,FO,GF,Kr,EV,EW,Ds,NK,Hl,Hm,EX,UB,Dt,Du,CP,JR,BI,JS,EY,EZ,Dv,NL,EU,Cm,toCl_list,toCl_listP,toCl_dct,Hq,F7,F8,F9,Fb,Hr,Fc,Fe,Ff,cW,cV,F0,NM,F1,NO,F2,F3,Hn,NP,jW,jX,UE,UG,UH,UI,UJ,UK,toCl_nil,Gz,Jd,Lx,JT,Dw,Hs,Ht,Fg,Fh,Hu,Hv,Hw,Hx,Hy,Fi,Fj,Fl,Fm,Dx,Dy,Dz,DB,DC,Fn,DD,DF,NQ,NR,NS,NT,NU,DH,ite_tt,ite_ff,Bool.not_true,Bool.not_false,yX,zR,CS,Fp,Fq,UD,V2,UC,V5,V6,V7,HG,K1,K2,K3,Ce,DK,HI,JX,Vc,O7,K7,dh,pq];rfl
  ·simp only[h,decide_false,zC,if_false];rfl
 rintro ρ rfl;simp_arith[hy,hT,m2,hw,mw];rfl
noncomputable def HJ:List D->M OT:=zm GZ
theorem R6:Txt K mg->CY P w K mg base "_law_road" 2 2 HJ:=(zb GZ).1
theorem R7:∀(c:Int) (m:Nat),2<=m->m<=20->0<=c->∃r:Road,KO m r/\HJ [.int c,.int m]=.ok (.sh (CZ r)):=(zb GZ).2
theorem IH:∃F:List D->M OT,(∀ {P w K mg base},Txt K mg->CY P w K mg base "_law_map" 3 2 F)/\(∀(cs:List Int),cs.length<=25->(∀c∈cs,0<=c)->∃(m:Nat) (rs:List Road),1<=m/\m<=8/\rs.length<=24/\(∀r∈rs,KO m r)/\F [.lst (cs.map .int),.int 8]=.ok (.sh (Ad m rs))):=by
 refine⟨_,λ T=>B0 (k:=2) T.Vl Ed _ (λ f B6 A outer s H E hr=>(A3 (AD 2 Ed.nd rfl (zY rfl) (WS rfl rfl T.dO (Aq (Jg (A1 0 (pv 0)) Oz (J3 A5))))) (A3 (AD 3 Ed.nd rfl (Or.inr rfl) (D6 A5 (BP (A1 2 (pv 2)) (A1 1 (pv 1))))) (A3 (AD 4 Ed.nd rfl (zY rfl) (Lw A8)) (A3 (B4 (Wh (c:=true) (A1 3 (pv 3)) A5) (A7 (J5 (NB:=["_law_cell","_law_many"]) 4 [none,some 3] Ed.nd rfl (zY rfl) rfl (B7 (Aq (Jg (A1 0 (pv 0)) (J3 A5) (J3 A5)))) rfl rfl (BG 0 (by decide) rfl rfl rfl) (λ _ _ _ _=>Hh) (λ _ _ _ _=>(Aq (FI (Ak (EB rfl).toXCall (R6 T) (hr.mono (by decide)) rfl (A2 (A1 0 (pv 0)) (A2 (A1 1 (pv 1)) A8)) rfl)))))) As) (A7 (Aj (AU (AS (A2 (A1 3 (pv 3)) (A2 (A1 4 (pv 4)) A8))))))))))),?_⟩;intro cs hl hc;have e0:AI ["_law_cells","_law_most","_law_head","_law_many","_law_roads"] [.lst (cs.map .int),.int 8]=[some (.val (.lst (cs.map .int))),some (.val (.int 8)),none,none,none]:=rfl;rw[e0];obtain⟨h,hh⟩:∃h:Int,h=(cs.take 1).sum:=⟨_,rfl⟩;obtain⟨m,hm⟩:∃m:Nat,(m:Int)=1+h%8:=⟨(1+h%8).toNat,by omega⟩;have cj:1<=m:=by omega
 have b7:m<=8:=by omega
 have s1:WT none (some 1) (.lst (cs.map D.int))=.ok (.lst (((cs.take 1).map D.int).map .sh)):=by rw[List.map_take];exact Qj _ 1
 have s2:WT (some 1) (some 25) (.lst (cs.map D.int))=.ok (.lst ((((cs.drop 1).take 24).map D.int).map .sh)):=by rw[List.map_take,List.map_drop];exact Zi _ 1 25
 have m7:Ie (.int h) (.int 8)=.ok (.int (h%8)):=BA (by decide);have hlen:((((cs.drop 1).take 24).map D.int)).length<=1000:=by rw[zf,yI];omega
 by_cases vP:1<m
 ·obtain⟨g,hg⟩:∃g:Int->Road,∀c,0<=c->(KO m (g c)/\HJ [.int c,.int m]=.ok (.sh (CZ (g c)))):=by
   have this:∀c:Int,∃r:Road,0<=c->(KO m r/\HJ [.int c,.int m]=.ok (.sh (CZ r))):=λ c=>by
    by_cases ko:0<=c
    ·obtain⟨r,hr⟩:=R7 c m (by omega) (by omega) ko;exact⟨r,λ _=>hr⟩
    ·exact⟨⟨0,0,none,0⟩,λ z=>(ko z).elim⟩
   exact⟨λ c=>zm (this c),λ c=>zb (this c)⟩
  have sN:∀c∈(cs.drop 1).take 24,0<=c:=λ c aj=>hc c (List.mem_of_mem_drop (yu aj));refine⟨m,((cs.drop 1).take 24).map g,cj,b7,by rw[zf,yI];omega,λ r hr=>?_,Bw ?_⟩
  ·obtain⟨c,aj,rfl⟩:=zP.mp hr;exact (hg c (sN c aj)).1
  apply wp_step
  ·simp_arith[s1];rfl
  rw[<-hh];apply wp_step
  ·simp_arith[m7,<-hm];rfl
  apply wp_step
  ·rfl
  refine BH (I:=λ ρ=>ρ=[some (.val (.lst (cs.map .int))),some (.val (.int 8)),some (.val (.int h)),some (.val (.int m)),some (.val (.lst ((((cs.drop 1).take 24).map g).map CZ)))]) ?_ ?_
  ·have pw:(1:Int)<(m:Int):=by omega
   simp_arith[decide_eq_true pw,s2,if_pos hlen];rw[FQ (λ c=>CZ (g c)) (λ c aj=>⟨_,rfl,rfl,by
    have:=(hg c (sN c aj)).2;simp_arith[this]⟩)]
   simp_arith[];show _=_;rw[yr];rfl
  rintro ρ rfl;simp_arith[];rfl
 ·refine⟨m,[],cj,b7,by simp,(λ r hr=>by cases hr),Bw ?_⟩;apply wp_step
  ·simp_arith[s1];rfl
  rw[<-hh];apply wp_step
  ·simp_arith[m7,<-hm];rfl
  apply wp_step
  ·rfl
  have pw:¬ (1:Int)<(m:Int):=by omega
  apply wp_step
  ·simp_arith[decide_eq_false pw];rfl
  simp_arith[];rfl
noncomputable def R8:List D->M OT:=zm IH
theorem Sn:Txt K mg->CY P w K mg base "_law_map" 3 2 R8:=(zb IH).1
theorem So:∀(cs:List Int),cs.length<=25->(∀c∈cs,0<=c)->∃(m:Nat) (rs:List Road),1<=m/\m<=8/\rs.length<=24/\(∀r∈rs,KO m r)/\R8 [.lst (cs.map .int),.int 8]=.ok (.sh (Ad m rs)):=(zb IH).2
theorem Ga:∃F:List D->M OT,(∀ {P w K mg base},Txt K mg->CY P w K mg base "_law_order" 2 2 F)/\(∀(m:Nat) (c:Int),m<=60->∃L:List Int,L.Perm (AK m)/\F [.int m,.int c]=.ok (.lst ((L.map D.int).map .sh))):=by
 refine⟨_,λ T=>B0 (k:=1) T.QS G1 _ (λ f B6 A outer s H E hr=>(A3 (BY 2 G1.nd rfl (zY rfl) (JP FH)) (A3 (CJ Ab.toXCall.own rfl (JJ (c:=true) rfl T.Jv (A1 0 (pv 0))) (Bs 3 G1.nd rfl (zY rfl)) (A7 (Uo 2 (pv 2) (BP (Aq (Ak Ab.toXCall (G8 T) (hr.mono (by decide)) rfl (A2 (A1 1 (pv 1)) (A2 (A1 3 (pv 3)) A8)) rfl)) (D6 (A1 3 (pv 3)) A5)) (A1 3 (pv 3))))) (A7 (Er 2 (pv 2)))))),?_⟩;intro m c hm;have e0:AI ["_law_many","_law_cell","_law_order_here","_law_k"] [.int m,.int c]=[some (.val (.int m)),some (.val (.int c)),none,none]:=rfl;rw[e0];refine (λ h:∃t,_/\∃L:List Int,t=OT.lst ((L.map D.int).map .sh)/\L.Perm (AK m)=>by
  obtain⟨t,h1,L,rfl,h2⟩:=h;exact⟨L,h2,h1⟩) (SU ?_)
 have hr:=Q2 (n:=m) (by omega);apply wp_step
 ·rfl
 try simp only[zE,zv]
 refine BH (I:=λ ρ=>∃(L:List Int) (s3:Option Cl),ρ=[some (.val (.int m)),some (.val (.int c)),some (.own (L.map D.int)),s3]/\L.Perm (AK m)) ?_ ?_
 ·simp_arith[hr];refine CO (λ i ρ=>i<=m/\∃(L:List Int) (s3:Option Cl),ρ=[some (.val (.int m)),some (.val (.int c)),some (.own (L.map D.int)),s3]/\L.Perm (AK i)) ⟨zT _,[],none,rfl,.refl _⟩ ?_ ?_
  ·rintro i d ρ hd ⟨_,L,s3,rfl,hL⟩;obtain⟨cS,hi⟩:=Ih hd;rw[Int.zero_add] at cS;subst cS;have hlen:=Jm hL;refine⟨_,rfl,?_⟩;obtain⟨v,v0,hv⟩:=G9 c i (by omega) (by omega);have cj:Ie (.int v) (.int ((i:Int)+1))=.ok (.int (v%((i:Int)+1))):=BA (by omega);have b0:0<=v%((i:Int)+1):=yF _ (by omega);have b1:v%((i:Int)+1)<(i:Int)+1:=yK _ (by omega);refine Cd (ρ':=[some (.val (.int m)),some (.val (.int c)),some (.own ((L.take (v%((i:Int)+1)).toNat++(i:Int)::L.drop (v%((i:Int)+1)).toNat).map D.int)),some (.val (.int i))]) ?_ ⟨by omega,_,_,rfl,V1 hL _⟩;simp_arith[hv,cj];rw[if_pos ⟨b0,by rw[zf];omega,by rw[zf];omega⟩];simp only[yg,zg,List.map_take,List.map_drop];rfl
  ·rintro ρ ⟨_,L,s3,rfl,hL⟩;exact⟨L,s3,rfl,by rw[CI] at hL;exact hL⟩
 ·rintro ρ ⟨L,s3,rfl,hL⟩;exact⟨_,rfl,L,rfl,hL⟩
noncomputable def MG:List D->M OT:=zm Ga
theorem Pe:Txt K mg->CY P w K mg base "_law_order" 2 2 MG:=(zb Ga).1
theorem Pf:∀(m:Nat) (c:Int),m<=60->∃L:List Int,L.Perm (AK m)/\MG [.int m,.int c]=.ok (.lst ((L.map D.int).map .sh)):=(zb Ga).2
theorem EN:∃F:List D->M OT,(∀ {P w K mg base},Txt K mg->CY P w K mg base "_law_walked" 1 4 F)/\(∀(m:Nat) (rs:List Road) (L:List Int) (p c:Int×Int) (N:List Nat),(∀r∈rs,Io m r)->L.Perm (AK m)->p.1∈L->p.2∈L->XI rs L p c N->F [Ad m rs,.lst (L.map D.int),pD p,.lst (N.map λ n:Nat=>D.int (n:Int))]=.ok (.sh (cst (some c)))):=by
 refine⟨_,λ T=>B0 (k:=0) T.P8 AY _ (λ f B6 A outer s H E hr=>(A3 (B4 (DW.dt (Eo (BQ (Bz (c:=true) (FG (JH _) rfl T.B9 rfl T.G3 (by decide +kernel) (A1 3 (pv 3))))) (CH (IY (c:=true) (AZ hr 16 (by decide)) (A1 3 (pv 3)) (Lw A8))))) (A7 (Aj (AU Cj))) As) (A3 (AD 4 AY.nd rfl (zY rfl) A5) (A3 (AD 5 AY.nd rfl (zY rfl) (Ac (AZ hr 16 (by decide)) (A1 2 (pv 2)) A5)) (A3 (AD 6 AY.nd rfl (zY rfl) (Zf rfl rfl T.XS (Mj (A1 1 (pv 1)) (Ac (AZ hr 16 (by decide)) (A1 2 (pv 2)) A5)) (Mj (A1 1 (pv 1)) (Ac (AZ hr 16 (by decide)) (A1 2 (pv 2)) A5)))) (A3 (CJ Ab.toXCall.own rfl (OC rfl T.GR (A1 3 (pv 3))) (RH (n:=2) rfl (ER (Bs 7 AY.nd rfl (zY rfl)) (ER (Bs 8 AY.nd rfl (zY rfl)) OB))) (A3 (B4 (DW.dt (Eo (BQ (Bz (c:=true) (FG (PZ _) rfl T.B9 rfl T.dN (by decide +kernel) (A1 8 (pv 8))))) (CH (Bz (c:=true) (FG (Nw _) rfl T.B9 rfl T.XR (by decide +kernel) (A1 8 (pv 8))))))) (A7 (Aj (AU Cj))) As) (A3 (B4 (BQ (Vi (c:=true) cL cJ A5 (A1 8 (pv 8)) (Ig rfl T.Mv (Ac (AZ hr 16 (by decide)) (A1 0 (pv 0)) A5)))) (A7 (Aj (AU Cj))) As) (A3 (AD 9 AY.nd rfl (zY rfl) (Ac (AZ hr 16 (by decide)) (Ac (AZ hr 16 (by decide)) (A1 0 (pv 0)) A5) (A1 8 (pv 8)))) (A3 (B4 (DW.dt (Eo (Gx (c:=true) (AZ hr 16 (by decide)) (Ac (AZ hr 16 (by decide)) (A1 9 (pv 9)) A5) (A1 5 (pv 5))) (CH (JG (c:=true) (Ac (AZ hr 16 (by decide)) (A1 9 (pv 9)) A5))))) (A7 (Aj (AU Cj))) As) (A3 (B4 (DW.dt (Ly (Wh (c:=true) (A1 7 (pv 7)) A5) (IZ (lW (c:=true) (Mj (A1 1 (pv 1)) (A1 5 (pv 5))) (A1 6 (pv 6)))))) (A7 (Aj (AU Cj))) As) (A3 (AD 5 AY.nd rfl (zY rfl) (Ac (AZ hr 16 (by decide)) (A1 9 (pv 9)) A5)) (A7 (AD 4 AY.nd rfl (zY rfl) (D6 (A1 4 (pv 4)) (Ac (AZ hr 16 (by decide)) (A1 9 (pv 9)) A5))))))))))) (A3 (B4 (Gx (c:=true) (AZ hr 16 (by decide)) (A1 5 (pv 5)) (Ac (AZ hr 16 (by decide)) (A1 2 (pv 2)) A5)) (A7 (Aj (AU Cj))) As) (A7 (Aj (AU (AS (A2 (A1 4 (pv 4)) (A2 (Ig rfl T.Mv (A1 3 (pv 3))) A8))))))))))))),?_⟩;intro m rs L p c N Av hL nz l7 hN;have e0:AI ["_law_land","_law_order_here","_law_pair","_law_roads","_law_length","_law_place","_law_low","_law_k","_law_number","_law_road_here"] [Ad m rs,.lst (L.map D.int),pD p,.lst (N.map λ n:Nat=>D.int (n:Int))]=[some (.val (Ad m rs)),some (.val (.lst (L.map D.int))),some (.val (pD p)),some (.val (.lst (N.map λ n:Nat=>D.int (n:Int)))),none,none,none,none,none,none]:=rfl;rw[e0];refine Bw ?_;have n1:B1 (Ad m rs) (.int 1)=.ok (.lst (rs.map CZ)):=rfl;have p0:B1 (pD p) (.int 0)=.ok (.int p.1):=rfl;have p1:B1 (pD p) (.int 1)=.ok (.int p.2):=rfl;have x1:=Ml nz;have x2:=Ml l7;have mn:=ZH (C4 L p.1) (C4 L p.2);have vd:min (C4 L p.1) (C4 L p.2)=Jp L p:=rfl;rw[vd] at mn;have ve:(N.map λ n:Nat=>D.int (n:Int))=(N.map λ n:Nat=>(n:Int)).map D.int:=by rw[yr];rfl
 have ae:Wf 16 (.lst (N.map λ n:Nat=>D.int (n:Int))) (.lst [])=.ok (.bl false):=by
  rw[ve,show (.lst []:D)=.lst (([]:List Int).map D.int) from rfl,Qw];have:=hN.ne;cases N with
  |nil=>cases this
  |cons a b=>rfl
 apply wp_step
 ·simp_arith[ae];rfl
 apply wp_step
 ·simp_arith[];rfl
 apply wp_step
 ·simp_arith[p0];rfl
 refine wp_step (ρ':=[some (.val (Ad m rs)),some (.val (.lst (L.map D.int))),some (.val (pD p)),some (.val (.lst (N.map λ n:Nat=>D.int (n:Int)))),some (.val (.int 0)),some (.val (.int p.1)),some (.val (.int (Jp L p:Nat))),none,none,none]) (by simp_arith[p0,p1,x1,x2,mn];try rfl) ?_;refine BH (I:=λ ρ=>∃s7 s8 s9:Option Cl,ρ=[some (.val (Ad m rs)),some (.val (.lst (L.map D.int))),some (.val (pD p)),some (.val (.lst (N.map λ n:Nat=>D.int (n:Int)))),some (.val (.int c.1)),some (.val (.int p.2)),some (.val (.int (Jp L p:Nat))),s7,s8,s9]) ?_ ?_
 ·simp_arith[];refine CO (λ i ρ=>∃(s x t:Int) (s7 s8 s9:Option Cl),ρ=[some (.val (Ad m rs)),some (.val (.lst (L.map D.int))),some (.val (pD p)),some (.val (.lst (N.map λ n:Nat=>D.int (n:Int)))),some (.val (.int s)),some (.val (.int x)),some (.val (.int (Jp L p:Nat))),s7,s8,s9]/\TH rs x (N.drop i) p.2 t/\s+t=c.1) ⟨0,p.1,c.1,none,none,none,rfl,by rw[List.drop_zero];exact hN.ch,by omega⟩ ?_ ?_
  ·rintro i d ρ hd ⟨s,x,t,s7,s8,s9,rfl,hc,hs⟩;obtain⟨d',cS,rfl⟩:=Hf hd;obtain⟨n,hn,rfl⟩:=BJ cS;have am:=(zy.mp hn).1;rw[Nat.zero_add];refine⟨_,rfl,?_⟩;have vg:N.drop i=n::N.drop (i+1):=by
    rw[List.drop_eq_getElem?_toList_append,hn];rfl
   rw[vg] at hc;obtain⟨r,l,t',g1,g2,g3,g4,g5⟩:=hc.inv;have vQ:=(zy.mp g1).1;have jk:=Av r (zp g1);have vh:x∈L:=(BV hL).mpr (by rw[<-g2];exact⟨jk.a0,jk.a1⟩);have x3:=Ml vh;have q1:decide ((0:Int)<=(n:Int))=true:=decide_eq_true (by omega);have q2:decide ((n:Int)<((rs.map CZ).length:Int))=true:=decide_eq_true (by rw[zf];omega);have vi:B1 (.lst (rs.map CZ)) (.int (n:Int))=.ok (CZ r):=OP (by omega) (by rw[yt];exact g1);have r0:B1 (CZ r) (.int 0)=.ok (.int r.a):=rfl;have r1:B1 (CZ r) (.int 1)=.ok (.int r.b):=rfl;have r2:B1 (CZ r) (.int 2)=.ok (.int l):=by show M.ok (E8 r.l)=_;rw[g3];rfl
   have vj:Vt 16 (.int r.a) (.int x)=.ok (.bl false):=by rw[g2];exact LD (DY (n:=16) x)
   have bO:BD (.int l)=false:=rfl;apply wp_step
   ·simp_arith[];rfl
   refine wp_step (ρ':=[some (.val (Ad m rs)),some (.val (.lst (L.map D.int))),some (.val (pD p)),some (.val (.lst (N.map λ n:Nat=>D.int (n:Int)))),some (.val (.int s)),some (.val (.int x)),some (.val (.int (Jp L p:Nat))),some (.val (.int i)),some (.val (.int n)),s9]) (by simp_arith[n1,q1,q2,if_true];try rfl) ?_;apply wp_step
   ·simp_arith[n1,vi];rfl
   try simp only[zE,zv]
   refine wp_step (ρ':=[some (.val (Ad m rs)),some (.val (.lst (L.map D.int))),some (.val (pD p)),some (.val (.lst (N.map λ n:Nat=>D.int (n:Int)))),some (.val (.int s)),some (.val (.int x)),some (.val (.int (Jp L p:Nat))),some (.val (.int i)),some (.val (.int n)),some (.val (CZ r))]) (by simp_arith[r0,r2,vj,bO];try rfl) ?_;refine wp_step (ρ':=[some (.val (Ad m rs)),some (.val (.lst (L.map D.int))),some (.val (pD p)),some (.val (.lst (N.map λ n:Nat=>D.int (n:Int)))),some (.val (.int s)),some (.val (.int x)),some (.val (.int (Jp L p:Nat))),some (.val (.int i)),some (.val (.int n)),some (.val (CZ r))]) (by
    by_cases sO:(0:Int)<(i:Int)
    ·have aO:n∈N.tail:=by
      obtain⟨j,rfl⟩:∃j,i=j+1:=⟨i-1,by omega⟩;cases N with
      |nil=>cases am
      |cons a b=>exact zp (i:=j) hn
     have pz:=hN.lo n aO r g1;rw[g2] at pz;have vm:¬ ((Jp L p:Nat):Int)<=((C4 L x:Nat):Int):=by omega
     simp_arith[decide_eq_true sO,x3,decide_eq_false vm];try rfl
    ·simp_arith[decide_eq_false sO];try rfl) ?_
   apply wp_step
   ·simp_arith[r1];rfl
   try simp only[zE,zv]
   refine Cd (ρ':=[some (.val (Ad m rs)),some (.val (.lst (L.map D.int))),some (.val (pD p)),some (.val (.lst (N.map λ n:Nat=>D.int (n:Int)))),some (.val (.int (s+l))),some (.val (.int r.b)),some (.val (.int (Jp L p:Nat))),some (.val (.int i)),some (.val (.int n)),some (.val (CZ r))]) (by simp_arith[r2];try rfl) ⟨s+l,r.b,t',_,_,_,rfl,g4,by omega⟩
  ·rintro ρ ⟨s,x,t,s7,s8,s9,rfl,hc,hs⟩;rw[Dp,zf,xm] at hc;cases hc;have:s=c.1:=by omega
   subst this;exact⟨s7,s8,s9,rfl⟩
 ·rintro ρ ⟨s7,s8,s9,rfl⟩;have hl:((N.map λ n:Nat=>D.int (n:Int)).length:Int)=c.2:=by rw[zf];exact hN.ln
  have pY:Vt 16 (.int p.2) (.int p.2)=.ok (.bl false):=LD (DY (n:=16) p.2);apply wp_step
  ·simp_arith[p1,pY];rfl
  simp_arith[hl];rfl
noncomputable def KD:List D->M OT:=zm EN
theorem HY:Txt K mg->CY P w K mg base "_law_walked" 1 4 KD:=(zb EN).1
theorem N9:∀(m:Nat) (rs:List Road) (L:List Int) (p c:Int×Int) (N:List Nat),(∀r∈rs,Io m r)->L.Perm (AK m)->p.1∈L->p.2∈L->XI rs L p c N->KD [Ad m rs,.lst (L.map D.int),pD p,.lst (N.map λ n:Nat=>D.int (n:Int))]=.ok (.sh (cst (some c))):=(zb EN).2
theorem Gb:∃F:List D->M OT,(∀ {P w K mg base},Txt K mg->CY P w K mg base "_law_right" 4 3 F)/\(∀(m:Nat) (rs:List Road) (L:List Int) (A:LA) (K:List (Int×Int)),Ft m rs L A K->m<=8->F [AN m rs L A K,Ad m rs,.lst (L.map D.int)]=.ok (.sh (.bl true))):=by
 refine⟨_,λ T=>B0 (k:=3) T.QT BM _ (λ f B6 A outer s H E hr=>(A3 (CJ Ab.toXCall.own rfl (B7 (Aq (Qm (k:=1) [("Ladder",Cv)] Ab.toXCall (D2 (by decide) (MC T) Es) (hr.mono (by decide)) (A1 0 (pv 0))))) (RH (n:=2) rfl (ER (Bs 3 BM.nd rfl (zY rfl)) (ER (Bs 4 BM.nd rfl (zY rfl)) OB))) (A3 (BY 5 BM.nd rfl (zY rfl) (HB (k:=3) [("Ladder",AW)] Ab.toXCall (D2 (by decide) (Ej T) Es) (hr.mono (by decide)) (A1 0 (pv 0)) (A2 (A1 3 (pv 3)) (A2 (A1 4 (pv 4)) A8)) rfl)) (A3 (AD 6 BM.nd rfl (zY rfl) (Aq (HB (k:=3) [("Ladder",BO)] Ab.toXCall (D2 (by decide) (GY T) Es) (hr.mono (by decide)) (A1 0 (pv 0)) (A2 (A1 3 (pv 3)) (A2 (A1 4 (pv 4)) A8)) rfl))) (A3 (B4 (LP (Gx (c:=true) (AZ hr 16 (by decide)) (Aq (Ak Ab.toXCall (HY T) (hr.mono (by decide)) rfl (A2 (A1 1 (pv 1)) (A2 (A1 2 (pv 2)) (A2 (AS (A2 (A1 3 (pv 3)) (A2 (A1 4 (pv 4)) A8))) (A2 (A1 5 (pv 5)) A8)))) rfl)) (A1 6 (pv 6)))) (A7 (Aj (AU Cy))) As) (A3 (WK (Bt 5 (pv 5))) (A3 (AD 7 BM.nd rfl (zY rfl) (Aq (Ak Ab.toXCall (HY T) (hr.mono (by decide)) rfl (A2 (A1 1 (pv 1)) (A2 (A1 2 (pv 2)) (A2 (AS (A2 (A1 3 (pv 3)) (A2 (A1 4 (pv 4)) A8))) (A2 (Aq (HB (k:=3) [("Ladder",AW)] Ab.toXCall (D2 (by decide) (Ej T) Es) (hr.mono (by decide)) (A1 0 (pv 0)) (A2 (A1 3 (pv 3)) (A2 (A1 4 (pv 4)) A8)) rfl)) A8)))) rfl))) (A7 (B4 (DW.dt (Eo (Gx (c:=true) (AZ hr 16 (by decide)) (A1 7 (pv 7)) (A1 6 (pv 6))) (CH (Gx (c:=true) (AZ hr 16 (by decide)) (Aq (HB (k:=3) [("Ladder",BO)] Ab.toXCall (D2 (by decide) (GY T) Es) (hr.mono (by decide)) (A1 0 (pv 0)) (A2 (A1 3 (pv 3)) (A2 (A1 4 (pv 4)) A8)) rfl)) (A1 6 (pv 6)))))) (A7 (Aj (AU Cy))) As)))))))) (A7 (Aj (AU Cy))))),?_⟩;intro m rs L A K ok hm;have Av:∀r∈rs,Io m r:=λ r hr=>(ok.ok r hr).1;have hA:=ok.sE;have e0:AI ["_law_ladder","_law_land","_law_order_here","_law_u","_law_w","_law_roads","_law_due","_law_again"] [AN m rs L A K,Ad m rs,.lst (L.map D.int)]=[some (.val (AN m rs L A K)),some (.val (Ad m rs)),some (.val (.lst (L.map D.int))),none,none,none,none,none]:=rfl;rw[e0];refine Bw ?_;have sP:Ji [("Ladder",AW)] "unpacked" (AN m rs L A K)=.ok AW:=rfl;have aP:Ji [("Ladder",BO)] "cost" (AN m rs L A K)=.ok BO:=rfl;have vn:Ji [("Ladder",Cv)] "arcs" (AN m rs L A K)=.ok Cv:=rfl;have o0:=MD m rs L A K hA hm;refine BH (I:=λ ρ=>∃s3 s4 s5 s6 s7,ρ=[some (.val (AN m rs L A K)),some (.val (Ad m rs)),some (.val (.lst (L.map D.int))),s3,s4,s5,s6,s7]) ?_ ?_
 ·simp_arith[vn,o0];refine CO (λ i ρ=>∃(s3 s4 s5 s6:Option Cl) (o7:Option D),ρ=[some (.val (AN m rs L A K)),some (.val (Ad m rs)),some (.val (.lst (L.map D.int))),s3,s4,s5,s6,vO o7]) ⟨none,none,none,none,none,rfl⟩ ?_ ?_
  ·rintro i d ρ hd ⟨s3,s4,s5,s6,o7,rfl⟩;obtain⟨p,hp,rfl⟩:=BJ hd;have sQ:=ZO.mp (zp hp);obtain⟨z,hz⟩:=yk.mp sQ;have hc:A9 A p=some z.1:=by unfold A9;rw[hz];rfl
   obtain⟨sR,_,_⟩:=Fw ok hz;have j6:=IG m rs L A K p.1 p.2 ok hm sQ;have df:=ME m rs L A K p.1 p.2 z.1 hA hc;have pZ:=N9 m rs L p z.1 _ Av ok.pm sR.1 sR.2.1 (K9 ok _ rfl hz);have t1:D.tup [.int p.1,.int p.2]=pD p:=rfl;have ae:Vt 16 (cst (some z.1)) (cst (some z.1))=.ok (.bl false):=LD (M9 (n:=15) (some z.1));obtain⟨U,hU⟩:∃U,U=(C5 rs L A p).map λ n:Nat=>D.int (n:Int):=⟨_,rfl⟩;have jl:AW [AN m rs L A K,.int p.1,.int p.2]=.ok (.lst (U.map .sh)):=by rw[hU];exact j6
   rw[<-hU] at pZ;refine⟨_,rfl,?_⟩;refine wp_step (ρ':=[some (.val (AN m rs L A K)),some (.val (Ad m rs)),some (.val (.lst (L.map D.int))),some (.val (.int p.1)),some (.val (.int p.2)),some (.own U),s6,vO o7]) (by simp_arith[sP,jl];try rfl) ?_;refine wp_step (ρ':=[some (.val (AN m rs L A K)),some (.val (Ad m rs)),some (.val (.lst (L.map D.int))),some (.val (.int p.1)),some (.val (.int p.2)),some (.own U),some (.val (cst (some z.1))),vO o7]) (by simp_arith[aP,df];try rfl) ?_;refine wp_step (ρ':=[some (.val (AN m rs L A K)),some (.val (Ad m rs)),some (.val (.lst (L.map D.int))),some (.val (.int p.1)),some (.val (.int p.2)),some (.own U),some (.val (cst (some z.1))),vO o7]) (by simp_arith[t1,pZ,ae];try rfl) ?_;refine wp_step (ρ':=[some (.val (AN m rs L A K)),some (.val (Ad m rs)),some (.val (.lst (L.map D.int))),some (.val (.int p.1)),some (.val (.int p.2)),some (.own []),some (.val (cst (some z.1))),vO o7]) (by simp_arith[];try rfl) ?_;refine wp_step (ρ':=[some (.val (AN m rs L A K)),some (.val (Ad m rs)),some (.val (.lst (L.map D.int))),some (.val (.int p.1)),some (.val (.int p.2)),some (.own []),some (.val (cst (some z.1))),some (.val (cst (some z.1)))]) (by simp_arith[t1,sP,jl,pZ];try rfl) ?_;refine Cd (ρ':=[some (.val (AN m rs L A K)),some (.val (Ad m rs)),some (.val (.lst (L.map D.int))),some (.val (.int p.1)),some (.val (.int p.2)),some (.own []),some (.val (cst (some z.1))),some (.val (cst (some z.1)))]) (by simp_arith[aP,df,ae];try rfl) ⟨_,_,_,_,some (cst (some z.1)),rfl⟩
  ·rintro ρ ⟨s3,s4,s5,s6,o7,rfl⟩;exact⟨s3,s4,s5,s6,_,rfl⟩
 ·rintro ρ ⟨s3,s4,s5,s6,s7,rfl⟩;rfl
noncomputable def II:List D->M OT:=zm Gb
theorem Pg:Txt K mg->CY P w K mg base "_law_right" 4 3 II:=(zb Gb).1
theorem Ph:∀(m:Nat) (rs:List Road) (L:List Int) (A:LA) (K:List (Int×Int)),Ft m rs L A K->m<=8->II [AN m rs L A K,Ad m rs,.lst (L.map D.int)]=.ok (.sh (.bl true)):=(zb Gb).2
theorem Sq:∃F:List D->M D,(∀ {P w K mg base f fd},Txt K mg->Vr K "law" "law" Gi f fd->D5 P w K mg base Yz 8 f fd ["_law_script"] (RJ K 1 F))/\(∀ns:List Int,ns.length<=63->(∀n∈ns,Sm n)->F [.lst (ns.map D.int)]=.ok (.bl true)):=by
 refine⟨_,fun {P w K mg base f fd} T F=>lZ (k:=7) F Kf _ (λ B6 A outer s H E hr=>(A3 (J5 (NB:=["_law_cell"]) 1 [none] Kf.nd rfl (zY rfl) rfl (B7 (Aq (Jg (A1 0 (pv 0)) Oz (J3 A5)))) rfl rfl (BG 0 (by decide) rfl rfl rfl) (λ _ _ _ _=>Hh) (λ _ _ _ _=>(BP (A1 0 (pv 0)) (Ox A5 A5)))) (A3 (AD 2 Kf.nd rfl (zY rfl) (Aq (FI (Ak (EB rfl).toXCall (Sn T) (hr.mono (by decide)) rfl (A2 (A1 1 (pv 1)) (A2 A5 A8)) rfl)))) (A3 (AD 3 Kf.nd rfl (zY rfl) (Aq (FI (Ak (EB rfl).toXCall (Pe T) (hr.mono (by decide)) rfl (A2 (Ac (AZ hr 16 (by decide)) (A1 2 (pv 2)) A5) (A2 (WS rfl rfl T.dO (A1 1 (pv 1))) A8)) rfl)))) (A3 (CJ PassesOwn.never rfl (B7 (Lw (A2 (A1 3 (pv 3)) (A2 (gE (A1 3 (pv 3)) (fX A5)) (A2 Cj A8))))) (Bs 4 Kf.nd rfl (zY rfl)) (A3 (AD 5 Kf.nd rfl (zY rfl) (Aq (FI (Zm (EB rfl).toXCall (IE T).uB (hr.mono (by decide)) rfl (A2 (AS (A2 (Ac (AZ hr 16 (by decide)) (A1 2 (pv 2)) A5) (A2 (Aq (L7 rfl T.G3 (Ac (AZ hr 16 (by decide)) (A1 2 (pv 2)) A5))) A8))) (A2 (A1 4 (pv 4)) A8)) rfl)))) (A7 (B4 (BQ (Bz (c:=true) (Aq (FI (Ak (EB rfl).toXCall (Pg T) (hr.mono (by decide)) rfl (A2 (A1 5 (pv 5)) (A2 (A1 2 (pv 2)) (A2 (Aq (Qm (k:=1) [("Ladder",BW)] (EB rfl).toXCall (D2 (by decide) (KU T) Es) (hr.mono (by decide)) (A1 5 (pv 5)))) A8))) rfl))))) (A7 (Wo (RB Cy))) As)))) (A7 (Wo (RB Cy)))))))),?_⟩;intro ns c5 cU;have e0:AI ["_law_script","_law_cells","_law_land","_law_order_here","_law_line","_law_ladder"] [.lst (ns.map D.int)]=[some (.val (.lst (ns.map D.int))),none,none,none,none,none]:=rfl;rw[e0];refine mP ?_;obtain⟨T,jj,hT⟩:∃T:Int,0<T/\PX (.int 10) (.int 60)=.ok (.int T):=⟨10^60,by decide,rfl⟩;have s1:WT none (some 25) (.lst (ns.map D.int))=.ok (.lst (((ns.take 25).map D.int).map .sh)):=by rw[List.map_take];exact Qj _ 25
 have vo:((ns.take 25).map D.int).length<=1000:=by rw[zf,yI];omega
 obtain⟨m,rs,cj,b7,kl,Av,hF⟩:=So ((ns.take 25).map λ c=>c%T) (by rw[zf,yI];omega) (λ c hc=>by obtain⟨x,_,rfl⟩:=zP.mp hc;exact yF _ (by omega));apply wp_step
 ·simp_arith[s1,if_pos vo];rw[FQ (λ c=>D.int (c%T)) (λ c hc=>⟨_,rfl,rfl,by simp_arith[hT,BA jj]⟩)];simp_arith[];rfl
 have e1:((ns.take 25).map λ c=>D.int (c%T))=((ns.take 25).map λ c=>c%T).map D.int:=by rw[yr];rfl
 rw[e1];apply wp_step
 ·simp_arith[hF];rfl
 have n0:B1 (Ad m rs) (.int 0)=.ok (.int m):=rfl;obtain⟨L,hL,vp⟩:=Pf m ((ns.take 25).map λ c=>c%T).sum (by omega);have ke:L.reverse.Perm (AK m):=(List.reverse_perm L).trans hL;have vq:∀r∈rs,Io m r/\r.a≠r.b:=λ r hr=>(Av r hr).sF;have vt:gD (.lst (L.map D.int)) (.int (-1))=.ok (.lst (L.reverse.map D.int)):=by rw[List.map_reverse];rfl
 have n1:B1 (Ad m rs) (.int 1)=.ok (.lst (rs.map CZ)):=rfl;have vw:=ZE m rs;have nd:D.tup [.int m,.lst (rs.map CZ)]=Ad m rs:=rfl;have go:∀(o:D) (M:List Int),M.Perm (AK m)->(o=.lst (M.map D.int)\/(o=.Az/\M=Ra m (Br rs) (AK m)))->∃(A:LA) (K:List (Int×Int)) (t:OT),X1 (CV (.ins "Ladder" [] []) [Ad m rs,o])=.ok t/\er t=AN m rs M A K/\II [AN m rs M A K,Ad m rs,.lst (M.map D.int)]=.ok (.sh (.bl true)):=λ o M hM ho=>by
  obtain⟨A,K,ok,t,hI,hE⟩:=IF m rs o M cj (by omega) (by omega) Av hM ho;exact⟨A,K,t,by rw[hI];rfl,hE,Ph m rs M A K ok b7⟩
 apply wp_step
 ·simp_arith[n0,vp];rfl
 try simp only[zE,zv]
 refine BH (I:=λ ρ=>∃s4 s5,ρ=[some (.val (.lst (ns.map D.int))),some (.val (.lst (((ns.take 25).map λ c=>c%T).map D.int))),some (.val (Ad m rs)),some (.val (.lst (L.map D.int))),s4,s5]) ?_ ?_
 ·simp_arith[vt];refine CO (λ i ρ=>∃s4 s5,ρ=[some (.val (.lst (ns.map D.int))),some (.val (.lst (((ns.take 25).map λ c=>c%T).map D.int))),some (.val (Ad m rs)),some (.val (.lst (L.map D.int))),s4,s5]) ⟨none,none,rfl⟩ ?_ ?_
  ·rintro i d ρ hd ⟨s4,s5,rfl⟩;obtain⟨M,hM,ho⟩:∃M:List Int,M.Perm (AK m)/\(d=.lst (M.map D.int)\/(d=.Az/\M=Ra m (Br rs) (AK m))):=by
    rcases i with _|_|_|i
    ·cases hd;exact⟨L,hL,.inl rfl⟩
    ·cases hd;exact⟨L.reverse,ke,.inl rfl⟩
    ·cases hd;exact⟨_,QE m _ _ (Fo m),.inr ⟨rfl,rfl⟩⟩
    ·cases hd
   obtain⟨A,K,t,g1,g2,g3⟩:=go d M hM ho;refine⟨_,rfl,?_⟩;have vx:Ji [("Ladder",BW)] "order" (AN m rs M A K)=.ok BW:=rfl;have ng:=KW m rs M A K;refine wp_step (ρ':=[some (.val (.lst (ns.map D.int))),some (.val (.lst (((ns.take 25).map λ c=>c%T).map D.int))),some (.val (Ad m rs)),some (.val (.lst (L.map D.int))),some (.val d),some (.val (AN m rs M A K))]) (by simp_arith[n0,n1,nd,vw,g1,g2];try rfl) ?_;refine Cd (ρ':=[some (.val (.lst (ns.map D.int))),some (.val (.lst (((ns.take 25).map λ c=>c%T).map D.int))),some (.val (Ad m rs)),some (.val (.lst (L.map D.int))),some (.val d),some (.val (AN m rs M A K))]) (by simp_arith[vx,ng,g3,FK];try rfl) ⟨_,_,rfl⟩
  ·rintro ρ ⟨s4,s5,rfl⟩;exact⟨s4,s5,rfl⟩
 ·rintro ρ ⟨s4,s5,rfl⟩;rfl
noncomputable def Y1:List D->M D:=zm Sq
theorem jN {P w K mg base f fd}:Txt K mg->Vr K "law" "law" Gi f fd->D5 P w K mg base Yz 8 f fd ["_law_script"] (RJ K 1 Y1):=(zb Sq).1
theorem jO:∀ns:List Int,ns.length<=63->(∀n∈ns,Sm n)->Y1 [.lst (ns.map D.int)]=.ok (.bl true):=(zb Sq).2
theorem all_mk {l:PySem.W.OpenLaw}{w:World}{K:za}{h:Heap}{mg:Str->Option Value}{fa:Addr}(X:K.In h)(G:h.Ns mainGlobals mg)(vy:mg "law" = some (.ref fa))
 {ad:Addr} {kt:Addr} {qd fv:Option Addr} {qe:Array (Option Value)} {qg f6 f7 f8 cC f9:Value} {cD:Addr} {to23:Value} {qh:Option Addr} {qj:Nat} {qk:Array (Option Value)} {ql:Addr} {qm jm:Option Addr} {qo:Array (Option Value)} {qp jn jo jp ga jq:Value} {bB:Addr} {bC:Addr} {aV:Addr}
 (af:zc K mainGlobals "Ladder" = some (some (.ref ad))) (aF:xi K ad Str.empty=true) (aG:PySem.W.hasDictIn K ad=true) (aH:PySem.W.plainOver K ad=true) (aI:zi K (.ref ad) "__setattr__" = some (some (.builtin "object.__setattr__"))) (aJ:PySem.W.makesIn K ad=true) (aK:zQ K (.ref ad)=true)
 (p1:FP K "is_whole_below" CT)
 (p2:FP K "is_measure" FW)
 (p3:FP K "is_road" Ka)
 (p4:FP K "is_map" Mn)
 (p5:FP K "checked" Kc)
 (p6:FP K "added" OW)
 (p7:FP K "least" OX)
 (p8:FP K "road_cost" GI)
 (p9:FP K "cost_so_far" EE)
 (qq:FP K "lay" XN)
 (qr:FP K "lay_over" Ir)
 (qt:FP K "laid_arcs" GJ)
 (qu:FP K "is_order" Iv)
 (qv:FP K "checked_order" D9)
 (qw:FP K "first_bows" FX)
 (qx:FP K "missing_bows" Eb)
 (qy:FP K "lightest" Iw)
 (qz:FP K "ranked" Mp)
 (q9:FP K "costs_from" FY)
 (qA:FP K "order_or_ranked" Cr)
 (qB:FP K "kept_arcs" GL)
 (qC:FP K "road_under" FZ)
 (qD:MP K ad "order" "Ladder.order" Ec)
 (qE:MP K ad "arcs" "Ladder.arcs" EG)
 (qG:MP K ad "checked_arc" "Ladder.checked_arc" BK)
 (qH:MP K ad "cost" "Ladder.cost" EH)
 (qI:MP K ad "unpacked" "Ladder.unpacked" Cs)
 (qJ:MP K ad "kept" "Ladder.kept" EI)
 (qK:FP K "_law_mixed" GN)
 (qL:FP K "_law_road" IA)
 (qM:FP K "_law_map" Ke)
 (qN:FP K "_law_order" GO)
 (qO:FP K "_law_walked" G2)
 (qP:FP K "_law_right" GP)
 (qQ:zi K (.ref ad) "__init__" = some (some (.ref kt))) (qR:xj K (.ref kt)=true)
 (qS:K.lookup kt=some ⟨qg,qd,.func (zS "__init__" "Ladder.__init__" (AL Al) (Au Al) (A4 Al) (.ref cD) f6 f7 f8 fv cC f9),qe⟩) (qT:ye K cC "Ladder.__init__" = true) (qU:zQ K (.ref kt)=true)
 (cE:K.lookup cD=some ⟨to23,qh,.seq #[.none] qj,qk⟩)
 (ku:zc K mainGlobals "law" = some (some (.ref ql)))
 (qV:K.lookup ql=some ⟨qp,qm,.func (zS "law" "law" (AL Gi) (Au Gi) (A4 Gi) .none jn jo jp jm ga jq),qo⟩) (qW:ye K ga "law" = true) (qX:zQ K (.ref ql)=true)
 (z1:zc K mainGlobals "all" = some none)
 (z2:zc K mainGlobals "bool" = some none)
 (z3:zc K mainGlobals "enumerate" = some none)
 (z4:zc K mainGlobals "int" = some none)
 (z5:zc K mainGlobals "isinstance" = some none)
 (z6:zc K mainGlobals "len" = some none)
 (z7:zc K mainGlobals "list" = some none)
 (z8:zc K mainGlobals "min" = some none)
 (z9:zc K mainGlobals "range" = some none)
 (qY:zc K mainGlobals "sorted" = some none)
 (qZ:zc K mainGlobals "sum" = some none)
 (rb:zc K mainGlobals "tuple" = some none)
 (aQ:zc K mainGlobals "NoArc" = some (some (.ref bB)))
 (aR:zc K mainGlobals "NoMap" = some (some (.ref bC)))
 (a8:zc K mainGlobals "NoOrder" = some (some (.ref aV)))
 (ba:yG K bB [.type "ValueError",.type "Exception",.type "BaseException",.type "object"] "ValueError.__new__" = true)
 (bc:yG K bC [.type "ValueError",.type "Exception",.type "BaseException",.type "object"] "ValueError.__new__" = true)
 (aL:yG K aV [.type "ValueError",.type "Exception",.type "BaseException",.type "object"] "ValueError.__new__" = true)
 (ak:zi K (.ref ad) "kept_ones" = some none)
 (av:zi K (.ref ad) "laid" = some none)
 (au:zi K (.ref ad) "own_map" = some none)
 (al:zi K (.ref ad) "own_order" = some none):
 ∃fd:FuncData,(∀(s:Shared) (v:Value),BindsTo s fd ⟨[v],[]⟩ [("_law_script",v)])/\∀base:Heap,K.In base->base.Ns mainGlobals mg->D5 l.prog w K mg base Yz 8 fa fd ["_law_script"] (RJ K 1 Y1):=by
 have e:=vy.symm.trans (PySem.W.mg_of X G ku);cases e;have ah:U2 K ad:=⟨aF,aG,aH,aI⟩;have vz:=Zo (st:=Al) qS qT qU;have v3:Binds K (zS "__init__" "Ladder.__init__" (AL Al) (Au Al) (A4 Al) (.ref cD) f6 f7 f8 fv cC f9) ["self","net","order"] []:=λ s us hK hl=>by
  have aM:us.length=3:=by simpa using hl
  match us,aM with
  |[_,_,_],_=>exact PySem.W.binds_K hK rfl cE rfl rfl rfl
 have v4:Binds K (zS "__init__" "Ladder.__init__" (AL Al) (Au Al) (A4 Al) (.ref cD) f6 f7 f8 fv cC f9) ["self","net","order"] [.none]:=λ s us hK hl=>by
  have aM:us.length=2:=by simpa using hl
  match us,aM with
  |[_,_],_=>exact PySem.W.binds_K hK rfl cE rfl rfl rfl
 have v5:RV K mg "Ladder" "Ladder.__init__" Al ["self","net","order"]:=⟨_,_,_,⟨af,PySem.W.mg_of X G af⟩,⟨aJ,qQ,qR,aK⟩,vz,v3,v4⟩;have rc:=Rw (st:=Gi) qV qW qX;have v6:B5 K mg "law" Gi ["_law_script"]:=⟨_,_,rc,PySem.W.mg_of X G ku,rc.binds λ _ _ _ _ _ _ us hl=>match us,hl with|[_],_=>rfl⟩;have T:Txt K mg:=⟨Bq X G p1,Bq X G p2,Bq X G p3,Bq X G p4,Bq X G p5,Bq X G p6,Bq X G p7,Bq X G p8,Bq X G p9,Bq X G qq,Bq X G qr,Bq X G qt,Bq X G qu,Bq X G qv,Bq X G qw,Bq X G qx,Bq X G qy,Bq X G qz,Bq X G q9,Bq X G qA,Bq X G qB,Bq X G qC,v5,NX af ah qD,NX af ah qE,NX af ah qG,NX af ah qH,NX af ah qI,NX af ah qJ,Bq X G qK,Bq X G qL,Bq X G qM,Bq X G qN,Bq X G qO,Bq X G qP,v6,yc X G z1,yc X G z2,yc X G z3,yc X G z4,yc X G z5,yc X G z6,yc X G z7,yc X G z8,yc X G z9,yc X G qY,yc X G qZ,yc X G rb,⟨_,aQ,PySem.W.mg_of X G aQ,ba⟩,⟨_,aR,PySem.W.mg_of X G aR,bc⟩,⟨_,a8,PySem.W.mg_of X G a8,aL⟩,⟨_,af,ah,ak⟩,⟨_,af,ah,av⟩,⟨_,af,ah,au⟩,⟨_,af,ah,al⟩⟩;refine⟨zS "law" "law" (AL Gi) (Au Gi) (A4 Gi) .none jn jo jp jm ga jq,λ s v=>.of_eq rfl,λ base _ _=>?_⟩;exact jN T rc
set_option maxHeartbeats 0 in
set_option maxHeartbeats 0 in
set_option maxHeartbeats 0 in
set_option maxHeartbeats 0 in
theorem left (w:World):(PySem.W.openEnds treeTable PySem.Challenge.pw_nodeladder_k32_unpacked_walked w 6100).map (λ s=>PySem.W.openSeen (Cw PySem.Challenge.pw_nodeladder_k32_unpacked_walked) [] (importedModules PySem.Challenge.pw_nodeladder_k32_unpacked_walked.main.body) (λ s=>PySem.W.xlAt (Cw PySem.Challenge.pw_nodeladder_k32_unpacked_walked) [] s&&PySem.W.recOk [] s) true s)=some (PySem.W.openGood (Cw PySem.Challenge.pw_nodeladder_k32_unpacked_walked) []):=by
 rw[T6,iL,PySem.W.Fast.te4187177175401517315,PySem.W.Fast.te5923862056798008813,PySem.W.Fast.te5963586717724020752];exact OO (kA w) (OO (kB w) (OO (kC w) (kD w)))
set_option maxHeartbeats 0 in
theorem jP (w:World):Vw (Kp R0 PySem.Challenge.pw_nodeladder_k32_unpacked_walked w) PySem.Challenge.pw_nodeladder_k32_unpacked_walked:=by
 rw[iL,PySem.W.Fast.te5963586717724020752];exact Y4 w
set_option maxHeartbeats 0 in
theorem jQ (w:World):Vx (Kp R0 PySem.Challenge.pw_nodeladder_k32_unpacked_walked w) PySem.Challenge.pw_nodeladder_k32_unpacked_walked:=by
 rw[iL,PySem.W.Fast.te5963586717724020752];exact Y5 w
theorem walk {l:PySem.W.OpenLaw}{q:Program}{loose:List Str}{XP:(Str->Option Value)->Heap->Prop}{YP:World->Heap->Prop}{d:DefRec}{K:World->za}(hn:l.most=some 63)(ef:d.params.defaults=[])
 (hY:∀(w:World) (h:Heap),YP w h->(K w).In h)
 (F:∀(w:World) (mg:Str->Option Value) (fa:Addr) (h:Heap),(K w).In h->h.Ns mainGlobals mg->mg d.name=some (.ref fa)->
  ∃fd:FuncData,(∀(s:Shared) (u:Value),BindsTo s fd ⟨[u],[]⟩ [("_law_script",u)])/\∀base:Heap,(K w).In base->base.Ns mainGlobals mg->D5 l.prog w (K w) mg base Yz 8 fa fd ["_law_script"] (RJ (K w) 1 Y1)):
 PySem.W.WalkO q loose XP YP l.row.toRowW d [] (λ f vs=>PySem.call f vs):=
 L2.mS (n:=63) (k:=8) (x := "_law_script") (CX:=λ _=>Yz) (sp:=λ w=>RJ (K w) 1 Y1) hn (by decide) ef ⟨rfl,by decide,by decide⟩ hY F (λ w H a ns cU hl _ hS=>YW jO (K w) H a ns cU hl hS) λ _ _ _ _ _ z=>z
end cw
open PySem PySem.W PyProof.Rows L2
set_option maxRecDepth 100000 in
set_option maxHeartbeats 0 in
theorem PySem.Challenge.cw_nodeladder_k32_unpacked_walked_holds : PySem.Challenge.rw_nodeladder_k32_unpacked_walked.Holds := by
 w_on;o_law
 refine holds_open (q:=Cw PySem.Challenge.pw_nodeladder_k32_unpacked_walked) (loose:=[]) (Xt:=λ s=>xlAt (Cw PySem.Challenge.pw_nodeladder_k32_unpacked_walked) [] s&&recOk [] s) (XP:=XL (Cw PySem.Challenge.pw_nodeladder_k32_unpacked_walked) []) (Yf:=λ s=>s.heap) (Ya:=λ w=>Vv R0 PySem.Challenge.pw_nodeladder_k32_unpacked_walked w 6100) (YP:=λ w h=>mR (Vv R0 PySem.Challenge.pw_nodeladder_k32_unpacked_walked w 6100) h) (N:=6100) (Zp cw.left) (λ w s e b o q=>by rw[<-e] at q;exact q) (λ w h h' a b c o q=>b c o (a c o q)) (λ s e=>xl_of s (Bool.and_eq_true_iff.mp e).1) XL.keeps (by rfl) (by rfl) (by rfl) (λ s e=>recFacts_of (Bool.and_eq_true_iff.mp e).2) (by rfl) (by first|assumption|decide +kernel) (by decide +kernel) ⟨rfl,rfl,rfl,rfl,rfl,by decide +kernel⟩ ?hw ?hc;case hw=>w_witness2
 case hc =>
  refine cw.walk (l:=PySem.Challenge.rw_nodeladder_k32_unpacked_walked) (K:=cw.Kp R0 PySem.Challenge.pw_nodeladder_k32_unpacked_walked) rfl rfl (λ w h Y=>iM Y) ?F;intro w mg fa h KX G eh;obtain⟨af,aF,aG,aH,aI,aJ,aK,p1,p2,p3,p4,p5,p6,p7,p8,p9,qq,qr,qt,qu,qv,qw,qx,qy,qz,q9,qA,qB,qC,qD,qE,qG,qH,qI,qJ,qK,qL⟩:=cw.jP w;obtain⟨qM,qN,qO,qP,qQ,qR,qS,qT,qU,cE,ku,qV,qW,qX,z1,z2,z3,z4,z5,z6,z7,z8,z9,qY,qZ,rb,aQ,aR,a8,ba,bc,aL,ak,av,au,al⟩:=cw.jQ w;exact cw.all_mk KX G eh af aF aG aH aI aJ aK p1 p2 p3 p4 p5 p6 p7 p8 p9 qq qr qt qu qv qw qx qy qz q9 qA qB qC qD qE qG qH qI qJ qK qL qM qN qO qP qQ qR qS qT qU cE ku qV qW qX z1 z2 z3 z4 z5 z6 z7 z8 z9 qY qZ rb aQ aR a8 ba bc aL ak av au al
