import PyProof.Rows.All
import Wide.All
import OpenK.AllK
import Wide.FinOn
import Lean
import PyProof.EqAt
import PyProof.EqKinds
import PyProof.TupleCall
import PyProof.NeKinds
import KE.KRevSl
import KE.KIsAll
import PyProof.ExcArgsOwn
import PyProof.ExcAttrAll.ValueError
import PyProof.ExcBaseAll.ValueError
import PyProof.FitsBits
import KE.LcSums
import KE.KRevIter
import PyProof.ListRange
import PyProof.Rows.SumAny
import PyProof.Rows.SortWalk
import PyProof.AttrMissHeap
import KE.KDictOf
import PyProof.ZipIter
import PyProof.DictWalks
import KE.KDictList
import KE.KFind
import KE.KDictSum
import KE.KSortTup
import PyProof.StrWalks
import PyProof.StrCalls2
import PyProof.Rows.StrJoin2
import PyProof.FString
import KE.KIntText
import PyProof.Rows.StrSplitJoin
import PyProof.StrLawsTight
import KE.IntTextText
import PyProof.SliceStr2
import PyProof.StrBlock2
import PyProof.StrBlockI
import PySem.Challenge.RW_nodeladder_k82_texts_refused
set_option Elab.async false
set_option linter.all false
set_option maxRecDepth 1000000
open PySem.W renaming Frag→zb,nsIn→zd,kitOne→zr,hideAll_get→zJ,fnOf→zS,mg_of→zT,mg_none_of→zV,findIn→zW,keepIn→zY,mroIn→yc,codeIn→yg,hideAll→yj,hideAll_none→ym,kia_one→yn,hasDictIn→yo
open PySem.Str renaming ofString→zc
open Classical renaming choose_spec→ze,choose→zu
open List renaming mem_cons_self→zf,mem_cons_of_mem→zg,mem_append_right→zh,length_cons→zi,mem_of_getElem?→zj,size_toArray→zm,length_map→zo,mem_cons→zp,length_append→zq,map_cons→zx,mem_append→zy,getElem?_eq_getElem→z0,mem_singleton→zB,getElem?_eq_some_iff→zI,mem_append_left→zK,getElem?_set_ne→zL,getElem?_map→zR,getElem?_set_self→yb,length_singleton→yd,all_eq_true→yf,getElem?_cons_succ→yu,set_cons_succ→yx,mem_map→y6,length_nil→y7,find?_cons→y8
open PySem.Heap renaming lt_size→zk,get?_push_of_some→zw,get?_push_size→zQ,get?_update_other→yw
open Nat renaming lt_of_lt_of_le→zt,le_refl→zv,le_trans→zD,ne_of_lt→zG,zero_le→zZ,le_of_lt→yt
open Bool renaming and_eq_true→zA,false_eq_true→zC,false_ne_true→yy
open PySem.Builtin.Str renaming occurrences→zE,strSliceIndices→zH,strKind→yp
open Option.some renaming inj→zF
open PySem.Txt renaming split→zM
open PySem.Builtin.Int renaming intBits→zN
open Int renaming emod_lt_of_pos→zO,emod_nonneg→zU
open Or renaming inl→zP
open Option renaming map_eq_some_iff→zX,bind_some→ye
open PySem.W.Fast renaming tw5923862056798008813→yh,tw4187177175401517315→yi
open ForInStep renaming yield→yk
open False renaming elim→yq
open Array renaming length_toList→yr,getElem?_toList→y0
open PySem.NameKind renaming free→yz
open PySem renaming mem_of_lookup→y9
section
set_option maxHeartbeats 0
namespace L2
open PySem PySem.Spec PyProof.Rows PySem.W PySem.Calls
noncomputable def AV (s:Stmt):Arguments:=match s with
 | .FunctionDef _ a _ _ _ _ _ _ _ _=>a
 |_=>{posonlyargs:=[],args:=[],vararg:=none,kwonlyargs:=[],kw_defaults:=[],kwarg:=none,defaults:=[]}
noncomputable def AL (s:Stmt):List Stmt:=match s with
 | .FunctionDef _ _ b _ _ _ _ _ _ _=>b
 |_=>[]
noncomputable def A5 (s:Stmt):Scope:=match s with
 | .FunctionDef _ _ _ _ _ _ sc _ _ _=>sc
 |_=>{kind:=.function,names:=[],isGenerator:=false,isCoroutine:=false}
structure FP (K:zb)(x:Str)(st:Stmt):Prop where
 ex:∃(f:Addr) (oc:Value) (od an:Option Addr) (sl:Array (Option Value)) (kV dc pm cd ct:Value),zd K mainGlobals x=some (some (.ref f))/\K.lookup f=some ⟨oc,od,.func (zS x x (AV st) (AL st) (A5 st) .none kV dc pm an cd ct),sl⟩/\yg K cd x=true/\zY K (.ref f)=true
theorem Uz {K:zb}{x:Str}{st:Stmt}{f:Addr}{oc:Value}{od an:Option Addr}{sl:Array (Option Value)}{kV dc pm cd ct:Value}(a:zd K mainGlobals x=some (some (.ref f)))(l:K.lookup f=some ⟨oc,od,.func (zS x x (AV st) (AL st) (A5 st) .none kV dc pm an cd ct),sl⟩)(c:yg K cd x=true)(k:zY K (.ref f)=true):FP K x st:=⟨⟨f,oc,od,an,sl,kV,dc,pm,cd,ct,a,l,c,k⟩⟩
structure MP (K:zb)(C:Addr)(m qual:Str)(st:Stmt):Prop where
 ex:∃(f:Addr) (oc:Value) (od an:Option Addr) (sl:Array (Option Value)) (kV dc pm cd ct:Value),zW K (.ref C) m=some (some (.ref f))/\PySem.W.isFn K (.ref f)=true/\K.lookup f=some ⟨oc,od,.func (zS m qual (AV st) (AL st) (A5 st) .none kV dc pm an cd ct),sl⟩/\yg K cd qual=true/\zY K (.ref f)=true
theorem X6 {K:zb}{C:Addr}{m qual:Str}{st:Stmt}{f:Addr}{oc:Value}{od an:Option Addr}{sl:Array (Option Value)}{kV dc pm cd ct:Value}(a:zW K (.ref C) m=some (some (.ref f)))(i:PySem.W.isFn K (.ref f)=true)(l:K.lookup f=some ⟨oc,od,.func (zS m qual (AV st) (AL st) (A5 st) .none kV dc pm an cd ct),sl⟩)(c:yg K cd qual=true)(k:zY K (.ref f)=true):MP K C m qual st:=⟨⟨f,oc,od,an,sl,kV,dc,pm,cd,ct,a,i,l,c,k⟩⟩
noncomputable def BM (p:Program):Program:={p with main:={p.main with body:=p.main.body.filter λ s=>match s with | .FunctionDef .. =>true | .ClassDef .. =>true | _=>false} }
structure Rn where
 run:(String->Option Builtin)->Program->World->Nat->Option Value->Nat->Shared->Thread->Option Shared
 ns:Heap->Addr->Str->Option Value
 imp:(String->Option Builtin)->Program->World->Nat->Shared->Thread->Option Shared
 Xz:Program->Shared->Option Shared
 st:Program->Shared×Thread
 tb:String->Option Builtin
noncomputable def GA (R:Rn)(p:Program)(w:World)(N:Nat):Option Shared:=
 ((R.imp R.tb (opening p) w N (R.st (opening p)).fst (R.st (opening p)).snd).bind (R.Xz p)).bind λ s₀ =>
 match s₀.heap.isNs mainGlobals&&s₀.gens.size==0 with
 |true=>(R.run R.tb p w s₀.heap.objs.size (R.ns s₀.heap mainGlobals (zc "__annotations__")) N s₀ (topStub p)).bind λ s₁ =>
  match staticsOk (importedModules p.main.body) s₀.heap s₁.heap&&namesBound p s₁.heap&&gensDone s₁&&laidKept s₀.heap s₁.heap with
  |true=>some s₁
  |false=>none
 |false=>none
noncomputable def R1:Rn:=⟨PySem.W.Fast.tw14082659384304107361,PySem.W.Fast.tw8920871248978507458,PySem.W.Fast.tw10274390034422433532,PySem.W.Fast.tw14289696077712309145,PySem.W.Fast.tw1435165496053646825,PySem.W.Fast.tw14364793385576792824⟩
noncomputable def NE (R:Rn)(p:Program)(w:World)(N:Nat):Heap:=match GA R p w N with | some s=>s.heap | none=>⟨#[],default⟩
noncomputable def VU (h:Heap)(as:List Addr):zb:=as.filterMap λ a=>(h.get? a).map λ o=>(a,o)
noncomputable def B9 (v:Option (Option Value)):Addr:=match v with | some (some (.ref f))=>f | _=>0
noncomputable def I9 (K:zb)(f:Addr):Obj:=(K.lookup f).getD ⟨.none,none,.plain,#[]⟩
noncomputable def M1 (d:Data)(st:Stmt):FuncData:=match d with | .func fd=>fd | _=>zS Str.empty Str.empty (AV st) [] (A5 st) .none .none .none .none none .none .none
theorem Az {K:zb}{x:Str}{st:Stmt}(a:zd K mainGlobals x=some (some (.ref (B9 (zd K mainGlobals x)))):=by kernel_rfl)
 (l:K.lookup (B9 (zd K mainGlobals x))=some ⟨(I9 K (B9 (zd K mainGlobals x))).cls,(I9 K (B9 (zd K mainGlobals x))).dict,.func (zS x x (AV st) (AL st) (A5 st) .none (M1 (I9 K (B9 (zd K mainGlobals x))).data st).kwdefaults (M1 (I9 K (B9 (zd K mainGlobals x))).data st).doc (M1 (I9 K (B9 (zd K mainGlobals x))).data st).pyModule (M1 (I9 K (B9 (zd K mainGlobals x))).data st).annotations (M1 (I9 K (B9 (zd K mainGlobals x))).data st).code (M1 (I9 K (B9 (zd K mainGlobals x))).data st).closureTuple),(I9 K (B9 (zd K mainGlobals x))).slots⟩:=by kernel_rfl)
 (c:yg K (M1 (I9 K (B9 (zd K mainGlobals x))).data st).code x=true:=by kernel_rfl) (k:zY K (.ref (B9 (zd K mainGlobals x)))=true:=by kernel_rfl):FP K x st:=Uz a l c k
end L2
namespace c9
open PySem L2
theorem prim:(PySem.W.chainsOk PySem.Challenge.pw_nodeladder_k82_texts_refused||true)=true:=by k_qdec
theorem UA (w:World):(GA R1 PySem.W.Fast.tw5314875232667859767 w 6100).map (λ s=>(yi (BM PySem.W.Fast.tw5314875232667859767) [] (yh PySem.W.Fast.tw5314875232667859767.main.body) (λ s=>PySem.W.xlAt (BM PySem.W.Fast.tw5314875232667859767) [] s&&PySem.W.recOk [] s) true s).1)=some (PySem.W.openGood (BM PySem.W.Fast.tw5314875232667859767) []).1:=by kernel_rfl
theorem UB (w:World):(GA R1 PySem.W.Fast.tw5314875232667859767 w 6100).map (λ s=>(yi (BM PySem.W.Fast.tw5314875232667859767) [] (yh PySem.W.Fast.tw5314875232667859767.main.body) (λ s=>PySem.W.xlAt (BM PySem.W.Fast.tw5314875232667859767) [] s&&PySem.W.recOk [] s) true s).2.1)=some (PySem.W.openGood (BM PySem.W.Fast.tw5314875232667859767) []).2.1:=by kernel_rfl
theorem UC (w:World):(GA R1 PySem.W.Fast.tw5314875232667859767 w 6100).map (λ s=>(yi (BM PySem.W.Fast.tw5314875232667859767) [] (yh PySem.W.Fast.tw5314875232667859767.main.body) (λ s=>PySem.W.xlAt (BM PySem.W.Fast.tw5314875232667859767) [] s&&PySem.W.recOk [] s) true s).2.2.1)=some (PySem.W.openGood (BM PySem.W.Fast.tw5314875232667859767) []).2.2.1:=by kernel_rfl
theorem UD (w:World):(GA R1 PySem.W.Fast.tw5314875232667859767 w 6100).map (λ s=>(yi (BM PySem.W.Fast.tw5314875232667859767) [] (yh PySem.W.Fast.tw5314875232667859767.main.body) (λ s=>PySem.W.xlAt (BM PySem.W.Fast.tw5314875232667859767) [] s&&PySem.W.recOk [] s) true s).2.2.2)=some (PySem.W.openGood (BM PySem.W.Fast.tw5314875232667859767) []).2.2.2:=by kernel_rfl
noncomputable def topP (p:Program)(i:Nat):Stmt:=p.main.body.getD i (.Pass ⟨0,0,0,0⟩)
noncomputable def Kp (R:Rn)(p:Program)(w:World):zb:=VU (NE R p w 6100) (List.range 560)
def NF (K:zb)(p:Program):Prop:=
 (FP K "is_whole_below" (topP p 13))/\
 (FP K "is_measure" (topP p 14))/\
 (FP K "is_road" (topP p 15))/\
 (FP K "is_map" (topP p 16))/\
 (FP K "is_number" (topP p 18))/\
 (FP K "words_read" (topP p 19))/\
 (FP K "number_read" (topP p 20))/\
 (FP K "length_read" (topP p 21))/\
 (FP K "road_read" (topP p 22))/\
 (FP K "map_read" (topP p 23))/\
 (FP K "_law_cell_at" (topP p 25))/\
 (FP K "_law_length" (topP p 26))/\
 (FP K "_law_map" (topP p 27))/\
 (FP K "_law_text" (topP p 28))/\
 (FP K "_law_sign" (topP p 29))/\
 (FP K "_law_spoiled" (topP p 30))/\
 (FP K "_law_number" (topP p 31))/\
 (FP K "_law_road" (topP p 32))/\
 (FP K "_law_due" (topP p 33))/\
 (FP K "_law_odd" (topP p 34))/\
 (FP K "_law_asked" (topP p 35))/\
 (zd K mainGlobals "law" = some (some (.ref (B9 (zd K mainGlobals "law")))))/\
 (K.lookup (B9 (zd K mainGlobals "law"))=some ⟨(I9 K (B9 (zd K mainGlobals "law"))).cls,(I9 K (B9 (zd K mainGlobals "law"))).dict,.func (zS "law" "law" (AV (topP p 36)) (AL (topP p 36)) (A5 (topP p 36)) .none (M1 (I9 K (B9 (zd K mainGlobals "law"))).data (topP p 36)).kwdefaults (M1 (I9 K (B9 (zd K mainGlobals "law"))).data (topP p 36)).doc (M1 (I9 K (B9 (zd K mainGlobals "law"))).data (topP p 36)).pyModule (M1 (I9 K (B9 (zd K mainGlobals "law"))).data (topP p 36)).annotations (M1 (I9 K (B9 (zd K mainGlobals "law"))).data (topP p 36)).code (M1 (I9 K (B9 (zd K mainGlobals "law"))).data (topP p 36)).closureTuple),(I9 K (B9 (zd K mainGlobals "law"))).slots⟩)/\
 (yg K (M1 (I9 K (B9 (zd K mainGlobals "law"))).data (topP p 36)).code "law" = true)/\
 (zY K (.ref (B9 (zd K mainGlobals "law")))=true)/\
 (zd K mainGlobals "ValueError" = some none)/\
 (zd K mainGlobals "all" = some none)/\
 (zd K mainGlobals "bool" = some none)/\
 (zd K mainGlobals "int" = some none)/\
 (zd K mainGlobals "isinstance" = some none)/\
 (zd K mainGlobals "len" = some none)/\
 (zd K mainGlobals "list" = some none)/\
 (zd K mainGlobals "range" = some none)/\
 (zd K mainGlobals "str" = some none)/\
 (zd K mainGlobals "tuple" = some none)
theorem Qi (w:World):NF (Kp R1 PySem.W.Fast.tw5314875232667859767 w) PySem.W.Fast.tw5314875232667859767:=
 ⟨Az,Az,Az,Az,Az,Az,Az,Az,Az,Az,Az,Az,Az,Az,Az,Az,Az,Az,Az,Az,Az,by kernel_rfl,by kernel_rfl,by kernel_rfl,by kernel_rfl,by kernel_rfl,by kernel_rfl,by kernel_rfl,by kernel_rfl,by kernel_rfl,by kernel_rfl,by kernel_rfl,by kernel_rfl,by kernel_rfl,by kernel_rfl⟩
def NG (K:zb)(p:Program):Prop:=
 (zd K mainGlobals "LadderError" = some (some (.ref (B9 (zd K mainGlobals "LadderError")))))/\
 (zd K mainGlobals "NoArc" = some (some (.ref (B9 (zd K mainGlobals "NoArc")))))/\
 (zd K mainGlobals "NoDeed" = some (some (.ref (B9 (zd K mainGlobals "NoDeed")))))/\
 (zd K mainGlobals "NoLength" = some (some (.ref (B9 (zd K mainGlobals "NoLength")))))/\
 (zd K mainGlobals "NoMap" = some (some (.ref (B9 (zd K mainGlobals "NoMap")))))/\
 (zd K mainGlobals "NoOrder" = some (some (.ref (B9 (zd K mainGlobals "NoOrder")))))/\
 (zd K mainGlobals "NoPlace" = some (some (.ref (B9 (zd K mainGlobals "NoPlace")))))/\
 (zd K mainGlobals "NoRoad" = some (some (.ref (B9 (zd K mainGlobals "NoRoad")))))/\
 (zd K mainGlobals "NoRow" = some (some (.ref (B9 (zd K mainGlobals "NoRow")))))/\
 (zd K mainGlobals "NoText" = some (some (.ref (B9 (zd K mainGlobals "NoText")))))/\
 (zd K mainGlobals "NoWay" = some (some (.ref (B9 (zd K mainGlobals "NoWay")))))/\
 (PySem.W.excIn K (B9 (zd K mainGlobals "NoText")) [.type "ValueError",.type "Exception",.type "BaseException",.type "object"] "ValueError.__new__" = true)/\
 (PySem.W.instIn K (.ref (B9 (zd K mainGlobals "LadderError"))) (.type "tuple")=some false)/\
 (yo K (B9 (zd K mainGlobals "LadderError"))=true)/\
 (yc K (B9 (zd K mainGlobals "LadderError")) (.type "BaseException")=some true)/\
 (yc K (B9 (zd K mainGlobals "NoText")) (.ref (B9 (zd K mainGlobals "LadderError")))=some true)/\
 (zW K (.ref (B9 (zd K mainGlobals "NoText"))) "__getattribute__" = some (some (.builtin "BaseException.__getattribute__")))/\
 (zW K (.ref (B9 (zd K mainGlobals "NoText"))) "__getattr__" = some none)/\
 (yc K (B9 (zd K mainGlobals "NoText")) (.type "BaseException")=some true)/\
 (yo K (B9 (zd K mainGlobals "NoText"))=true)/\
 (zW K (.ref (B9 (zd K mainGlobals "NoText"))) "__class__" = some (some (.builtin "object.__class__")))/\
 (PySem.W.specialIn K (.builtin "object.__class__") "__get__" = some (some (.builtin "getset_descriptor.__get__")))/\
 (PySem.W.takesIn K (.builtin "object.__class__")=some true)/\
 (yc K (B9 (zd K mainGlobals "NoText")) (.type "object")=some true)/\
 (zr K (.ref (B9 (zd K mainGlobals "NoText"))) (.ref (B9 (zd K mainGlobals "NoArc")))=some false)/\
 (zr K (.ref (B9 (zd K mainGlobals "NoText"))) (.ref (B9 (zd K mainGlobals "NoDeed")))=some false)/\
 (zr K (.ref (B9 (zd K mainGlobals "NoText"))) (.ref (B9 (zd K mainGlobals "NoLength")))=some false)/\
 (zr K (.ref (B9 (zd K mainGlobals "NoText"))) (.ref (B9 (zd K mainGlobals "NoMap")))=some false)/\
 (zr K (.ref (B9 (zd K mainGlobals "NoText"))) (.ref (B9 (zd K mainGlobals "NoOrder")))=some false)/\
 (zr K (.ref (B9 (zd K mainGlobals "NoText"))) (.ref (B9 (zd K mainGlobals "NoPlace")))=some false)/\
 (zr K (.ref (B9 (zd K mainGlobals "NoText"))) (.ref (B9 (zd K mainGlobals "NoRoad")))=some false)/\
 (zr K (.ref (B9 (zd K mainGlobals "NoText"))) (.ref (B9 (zd K mainGlobals "NoRow")))=some false)/\
 (zr K (.ref (B9 (zd K mainGlobals "NoText"))) (.ref (B9 (zd K mainGlobals "NoText")))=some true)/\
 (zr K (.ref (B9 (zd K mainGlobals "NoText"))) (.ref (B9 (zd K mainGlobals "NoWay")))=some false)/\
 (zr K (.ref (B9 (zd K mainGlobals "NoText"))) (.type "ValueError")=some true)
theorem Qj (w:World):NG (Kp R1 PySem.W.Fast.tw5314875232667859767 w) PySem.W.Fast.tw5314875232667859767:=
 ⟨by kernel_rfl,by kernel_rfl,by kernel_rfl,by kernel_rfl,by kernel_rfl,by kernel_rfl,by kernel_rfl,by kernel_rfl,by kernel_rfl,by kernel_rfl,by kernel_rfl,by kernel_rfl,by kernel_rfl,by kernel_rfl,by kernel_rfl,by kernel_rfl,by kernel_rfl,by kernel_rfl,by kernel_rfl,by kernel_rfl,by kernel_rfl,by kernel_rfl,by kernel_rfl,by kernel_rfl,by kernel_rfl,by kernel_rfl,by kernel_rfl,by kernel_rfl,by kernel_rfl,by kernel_rfl,by kernel_rfl,by kernel_rfl,by kernel_rfl,by kernel_rfl,by kernel_rfl⟩
end c9
end
set_option Elab.async false
set_option linter.all false
set_option maxRecDepth 100000
namespace L2
open PySem PySem.Spec PyProof.Rows
noncomputable abbrev Key:=Sum Int Str
noncomputable def Ia:Key->Value->Bool
 | .inl k,v=>Value.isInt k v
 | .inr x,v=>Value.isStrOf x v
noncomputable def W8 (w:World):Key->Int
 | .inl k=>hashInt k
 | .inr x=>hashStr w x
theorem AM:∀ {k:Key}{v:Value},Ia k v=true->(∃i t,k=Sum.inl i/\v=Value.int i t)\/(∃x t,k=Sum.inr x/\v=Value.str x t)
 | .inl i,v,h=>by
  obtain⟨t,e⟩:=Value.isInt_shape (k:=i) (v:=v) h;exact .inl ⟨i,t,rfl,e⟩
 | .inr x,v,h=>by
  obtain⟨t,e⟩:=Value.isStrOf_shape (x:=x) (v:=v) h;exact .inr ⟨x,t,rfl,e⟩
theorem Mx (i:Int)(t:Tok):Ia (.inl i) (.int i t)=true:=by simp[Ia,Value.isInt]
theorem My (x:Str)(t:Tok):Ia (.inr x) (.str x t)=true:=by simp[Ia,Value.isStrOf]
theorem SE (a b:Int):decide ((Sum.inl a:Key)=Sum.inl b)=(a==b):=by
 by_cases e:a=b
 ·subst e;simp
 ·have h:¬ (Sum.inl a:Key)=Sum.inl b:=λ q=>e (Sum.inl.inj q);rw[decide_eq_false h];exact (beq_eq_false_iff_ne.mpr e).symm
theorem SF (a b:Str):decide ((Sum.inr a:Key)=Sum.inr b)=decide (a=b):=by
 by_cases e:a=b
 ·subst e;simp
 ·have h:¬ (Sum.inr a:Key)=Sum.inr b:=λ q=>e (Sum.inr.inj q);rw[decide_eq_false h,decide_eq_false e]
theorem SG (a:Int)(b:Str):decide ((Sum.inl a:Key)=Sum.inr b)=false:=decide_eq_false (λ q=>nomatch q)
theorem SH (a:Str)(b:Int):decide ((Sum.inr a:Key)=Sum.inl b)=false:=decide_eq_false (λ q=>nomatch q)
noncomputable def Bv (prog:Program)(w:World):PySem.KeyKind prog w Key where
 is:=Ia
 hash:=W8 w
 inj:=λ v a b ha hb=>by
  rcases AM ha with ⟨i,t,rfl,rfl⟩|⟨x,t,rfl,rfl⟩
  ·rcases AM hb with ⟨j,u,rfl,e⟩|⟨y,u,rfl,e⟩
   ·injection e with e1 _;rw[e1]
   ·exact nomatch e
  ·rcases AM hb with ⟨j,u,rfl,e⟩|⟨y,u,rfl,e⟩
   ·exact nomatch e
   ·injection e with e1 _;rw[e1]
 byValue:=λ k v h=>by
  rcases AM h with ⟨i,t,rfl,rfl⟩|⟨x,t,rfl,rfl⟩<;>rfl
 pyHash:=λ hv h=>by
  rcases AM hv with ⟨i,t,rfl,rfl⟩|⟨x,t,rfl,rfl⟩
  ·exact wpAny_pyHash_int h
  ·exact wpAny_pyHash_str h
 eqBool:=λ hu hv h=>by
  rcases AM hu with ⟨i,t,rfl,rfl⟩|⟨x,t,rfl,rfl⟩
  ·rcases AM hv with ⟨j,u,rfl,rfl⟩|⟨y,u,rfl,rfl⟩
   ·rw[SE] at h;exact wpAny_eqBool_int h
   ·rw[SG] at h;exact SeqAt.EqAt.int_str i t y u _ _ _ _ h
  ·rcases AM hv with ⟨j,u,rfl,rfl⟩|⟨y,u,rfl,rfl⟩
   ·rw[SH] at h;exact SeqAt.EqAt.str_int x t j u _ _ _ _ h
   ·rw[SF] at h;exact wpAny_eqBool_str h
 «strs»:=λ k x t v h=>by
  rcases AM h with ⟨i,u,rfl,e⟩|⟨y,u,rfl,e⟩
  ·exact nomatch e
  ·injection e with e1 _
   subst e1;cases v<;>rfl
theorem JS (prog:Program)(w:World)(i:Int)(t:Tok):(Bv prog w).is (.inl i) (.int i t)=true:=Mx i t
theorem JT (prog:Program)(w:World)(x:Str)(t:Tok):(Bv prog w).is (.inr x) (.str x t)=true:=My x t
inductive V where
 |Ar|bl (b:Bool)|int (i:Int)|str (x:Str)|Uu (b:Array UInt8)|VV (b:UInt64)|ref (a:Addr)|ty (n:String)
 deriving DecidableEq
def RelV:V->Value->Prop
 | .Ar,u=>u=Value.none
 | .bl b,u=>u=Value.bool b
 | .int i,u=>∃t,u=Value.int i t
 | .str x,u=>∃t,u=Value.str x t
 | .Uu b,u=>∃t,u=Value.bytes b t
 | .VV b,u=>∃t,u=Value.float b t
 | .ref a,u=>u=Value.ref a
 | .ty n,u=>u=Value.type n
noncomputable abbrev Vals:List V->List Value->Prop:=Paired RelV
theorem Vals.length {xs:List V}{us:List Value}(r:Vals xs us):xs.length=us.length:=Paired.length r
theorem Vals.get:∀ {xs:List V}{us:List Value}{i:Nat}{x:V},Vals xs us->xs[i]?=some x->∃u,us[i]?=some u/\RelV x u
 |_,_,_,_,.nil,e=>by simp at e
 |_,_,0,_,.cons r _,e=>by simp at e;subst e;exact⟨_,rfl,r⟩
 |_,_,i+1,x,.cons _ t,e=>by
  obtain⟨u,h1,h2⟩:=Vals.get (i:=i) (x:=x) t (by simpa using e);exact⟨u,by simpa using h1,h2⟩
theorem Vals.append:∀ {xs ys:List V}{us ws:List Value},Vals xs us->Vals ys ws->Vals (xs++ys) (us++ws)
 |_,_,_,_,.nil,s=>s
 |_,_,_,_,.cons r t,s=>.cons r (Vals.append t s)
theorem Vals.take:∀ {xs:List V}{us:List Value}(n:Nat),Vals xs us->Vals (xs.take n) (us.take n)
 |_,_,0,_|_,_,_+1,.nil=>.nil
 |_,_,n+1,.cons r t=>.cons r (Vals.take n t)
theorem Vals.drop:∀ {xs:List V}{us:List Value}(n:Nat),Vals xs us->Vals (xs.drop n) (us.drop n)
 |_,_,0,r=>r
 |_,_,_+1,.nil=>.nil
 |_,_,n+1,.cons _ t=>Vals.drop n t
def JU:Option V->Option Value->Prop
 |some v,some u=>RelV v u
 |none,none=>True
 |_,_=>False
def KV {κ:Type}:List (κ×V)->List (κ×Value)->Prop:=Paired λ(p:κ×V) (q:κ×Value)=>p.1=q.1/\RelV p.2 q.2
noncomputable def kV:Key->V
 | .inl i=>.int i
 | .inr x=>.str x
inductive HO where
 |lst (xs:List V)
 |tup (xs:List V)
 |dK (kvs:List (Key×V))|dT (kvs:List (List Key×V))
 |set (S:Int->Bool) (n:Nat)
 |ins (C dx:Addr) (fs:List (Str×V))
 |own (x:Addr)
 |xd (fs:List (Str×V))
 |met (f x:Addr)
 |VW (lo hi:Int)
 |M2 (o:Obj) (u:HO)
 |Se (ps:Array Value)
 |ext (φ:Heap->Prop)
noncomputable abbrev Hp:=Addr->Option HO
noncomputable def upd (H:Hp)(a:Addr)(o:HO):Hp:=λ b=>if b=a then some o else H b
theorem Bi {H:Hp}{a:Addr}{o:HO}:upd H a o a=some o:=by unfold upd;rw[if_pos rfl]
theorem An {H:Hp}{a b:Addr}{o:HO}(h:b≠a):upd H a o b=H b:=by unfold upd;rw[if_neg h]
theorem Ap {H:Hp}{a b:Addr}{o:HO}(h:H a=some o)(h':H b=none):a≠b:=by
 intro e;subst e;rw[h] at h';cases h'
section
variable (P:Program) (w:World)
def Bw (H:Hp)(h:Heap)(a:Addr):HO->Prop
 | .lst xs=>xs.length<=sizeLine/\∃(aa:List Value) (n:Nat),Vals xs aa/\h.get? a=some {cls:=.type "list",data:=.seq aa.toArray n}
 | .tup xs=>xs.length<=sizeLine/\∃aa:List Value,Vals xs aa/\IsTup h a aa.toArray
 | .dK kvs=>kvs.length<=sizeLine/\(a==sysModules)=false/\∃vs,KV kvs vs/\h.DictOf (Bv P w) a vs
 | .dT kvs=>kvs.length<=sizeLine/\(a==sysModules)=false/\∃xs:List (List Key×Addr×Value),
  Paired (λ(p:List Key×V) (q:List Key×Addr×Value)=>p.1=q.1/\H q.2.1=some (.tup (p.1.map kV))/\RelV p.2 q.2.2) kvs xs/\
  ∃o es ep,h.get? a=some o/\o.ExactDict/\o.data=.dict es ep/\es.toList=xs.map (entryOfKey (tupleKind (Bv P w)))/\(xs.map (·.1)).Nodup
 | .set S n=>h.SetOf (intKind P w) a S n
 | .ins C dx fs=>H dx=some (.own a)/\fs.length<=1000/\dx≠a/\h.get? a=some (PySem.W.instObj C dx)/\
  ∃mA,h.Ns1 dx mA/\(∀f,JU (fs.lookup f) (mA f))/\PySem.Within mA (fs.map (·.1))
 | .own _=>∃o,h.get? a=some o
 | .xd fs=>∃mA,h.Ns1 a mA/\∀f,JU (fs.lookup f) (mA f)
 | .VW lo hi=>∃t u v,h.get? a=some {cls:=.type "range",data:=.fields #[.int lo t,.int hi u,.int 1 v]}
 | .M2 o u=>h.get? a=some o/\Bw H h a u
 | .Se ps=>h.get? a=some {cls:=.none,data:=.fields ps}
 | .met f x=>h.get? a=some (PySem.W.methodObj (.ref f) (.ref x))
 | .ext φ=>φ h/\(∃o,h.get? a=some o)/\∀h1 h2:Heap,φ h1->(∀o,h1.get? a=some o->h2.get? a=some o)->φ h2
def DF (H:Hp)(h:Heap):Prop:=∀a o,H a=some o->Bw P w H h a o
end
section
variable {P:Program}{w:World}{H H':Hp}{h h':Heap}{a:Addr}{o:HO}
theorem Bw.lt (x:Bw P w H h a o):a<h.objs.size:=by
 cases o with
 |lst xs=>obtain⟨_,_,_,_,e⟩:=x;exact zk e
 |tup xs=>obtain⟨_,_,_,p⟩:=x;exact p.lt
 |dK kvs|dT kvs=>obtain⟨_,_,_,_,o,_,_,e,_⟩:=x;exact zk e
 |set S n=>obtain⟨o,_,_,_,e,_⟩:=x;exact zk e
 |ins C dx fs=>obtain⟨_,_,_,e,_⟩:=x;exact zk e
 |own y=>obtain⟨_,e⟩:=x;exact zk e
 |xd fs=>obtain⟨_,⟨_,_,_,e,_⟩,_⟩:=x;exact zk e
 |VW lo hi=>obtain⟨_,_,_,e⟩:=x;exact zk e
 |M2 ob u=>obtain⟨e,_⟩:=x;exact zk e
 |Se ps|met f y=>exact zk (show h.get? a=some _ from x)
 |ext φ=>obtain⟨_,⟨_,e⟩,_⟩:=x;exact zk e
theorem Paired.UE {α β:Type}{F G:α->β->Prop}:∀ {l₁:List α}{l₂:List β},Paired F l₁ l₂->(∀a b,F a b->G a b)->Paired G l₁ l₂
 |_,_,.nil,_=>.nil
 |_,_,.cons r t,f=>.cons (f _ _ r) (Paired.UE t f)
theorem Bw.GB (x:Bw P w H h a o)(k:∀b u,(b=a\/H b=some (.own a))->h.get? b=some u->h'.get? b=some u)
 (ho:∀b,H b=some (.own a)->H' b=some (.own a)) (ht:∀b xs,H b=some (.tup xs)->H' b=some (.tup xs)):Bw P w H' h' a o:=by
 induction o with
 |lst xs=>obtain⟨z,aa,n,r,e⟩:=x;exact⟨z,aa,n,r,k _ _ (.inl rfl) e⟩
 |tup xs=>obtain⟨z,aa,r,ob,e,c⟩:=x;exact⟨z,aa,r,ob,k _ _ (.inl rfl) e,c⟩
 |dK kvs=>obtain⟨z,y,vs,r,ob,es,ep,e,c⟩:=x;exact⟨z,y,vs,r,ob,es,ep,k _ _ (.inl rfl) e,c⟩
 |dT kvs =>
  obtain⟨z,y,xs,r,ob,es,ep,e,c⟩:=x;exact⟨z,y,xs,Paired.UE r λ p q z=>⟨z.1,ht _ _ z.2.1,z.2.2⟩,ob,es,ep,k _ _ (.inl rfl) e,c⟩
 |set S n=>obtain⟨ob,es,ep,t,e,c⟩:=x;exact⟨ob,es,ep,t,k _ _ (.inl rfl) e,c⟩
 |ins C dx fs =>
  obtain⟨d,z,ne,e,mA,⟨od,es,ep,e2,c⟩,r⟩:=x;exact⟨ho _ d,z,ne,k _ _ (.inl rfl) e,mA,⟨od,es,ep,k _ _ (.inr d) e2,c⟩,r⟩
 |own y=>obtain⟨ob,e⟩:=x;exact⟨ob,k _ _ (.inl rfl) e⟩
 |xd fs=>obtain⟨mA,⟨od,es,ep,e,c⟩,r⟩:=x;exact⟨mA,⟨od,es,ep,k _ _ (.inl rfl) e,c⟩,r⟩
 |VW lo hi=>obtain⟨t,u,v,e⟩:=x;exact⟨t,u,v,k _ _ (.inl rfl) e⟩
 |M2 ob u ih=>obtain⟨e,q⟩:=x;exact⟨k _ _ (.inl rfl) e,ih q⟩
 |Se ps =>
  have e:h.get? a=some {cls:=.none,data:=.fields ps}:=x;show h'.get? a=some {cls:=.none,data:=.fields ps};exact k a _ (.inl rfl) e
 |met f y =>
  have e:h.get? a=some (PySem.W.methodObj (.ref f) (.ref y)):=x;show h'.get? a=some (PySem.W.methodObj (.ref f) (.ref y));exact k a _ (.inl rfl) e
 |ext φ=>obtain⟨p,⟨o,e⟩,st⟩:=x;exact⟨st _ _ p λ o q=>k _ _ (.inl rfl) q,⟨o,k _ _ (.inl rfl) e⟩,st⟩
theorem DF.lt (x:DF P w H h)(e:H a=some o):a<h.objs.size:=(x a o e).lt
theorem DF.fresh (x:DF P w H h)(e:h.objs.size<=a):H a=none:=by
 cases q:H a with
 |none=>rfl
 |some u=>exact absurd (zt (x.lt q) e) (Nat.lt_irrefl _)
theorem DF.kept (x:DF P w H h)(k:∀b u,h.get? b=some u->h'.get? b=some u):DF P w H h':=λ a o e =>
 (x a o e).GB (λ b u _ q=>k b u q) (λ _ q=>q) λ _ _ q=>q
theorem DF.laid (x:DF P w H h)(k:∀b u,h.get? b=some u->h'.get? b=some u)(hp:h.objs.size<=a)(new:Bw P w (upd H a o) h' a o):DF P w (upd H a o) h':=λ b u e=>by
 have hn:=x.fresh hp;by_cases hb:b=a
 ·subst hb;rw[Bi] at e;cases e;exact new
 ·rw[An hb] at e;exact (x b u e).GB (λ c v _ q=>k c v q) (λ c q=>by rw[An (Ap q hn)];exact q) λ c xs q=>by rw[An (Ap q hn)];exact q
end
def Rd (H:Hp)(a:Addr)(u:HO):Prop:=H a=some u\/∃o,H a=some (.M2 o u)
theorem Rd.ok {P:Program}{w:World}{H:Hp}{h:Heap}{a:Addr}{u:HO}(r:Rd H a u)(x:DF P w H h):Bw P w H h a u:=by
 rcases r with r|⟨o,r⟩
 ·exact x a u r
 ·obtain⟨_,q⟩:=x a _ r;exact q
def VX:Option HO->Prop
 |some (.lst _)|some (.dK _)|some (.dT _)|some (.set _ _)|some (.ins _ _ _)|some (.ext _)=>True
 |_=>False
section
variable {P:Program}{w:World}{H:Hp}{h h':Heap}{x e:Addr}{o':HO}
theorem DF.write (ok:DF P w H h)(mu:VX (H x))(he:e=x\/H e=some (.own x))(k:∀b u,b≠e->h.get? b=some u->h'.get? b=some u)(d9:∃u,h'.get? e=some u)
 (new:Bw P w (upd H x o') h' x o'):DF P w (upd H x o') h':=λ b u q=>by
 have dL:∀c y,H c=some (.own y)->c≠x:=λ c y r z=>by subst z;rw[r] at mu;exact mu
 have fg:∀c xs,H c=some (.tup xs)->c≠x:=λ c xs r z=>by subst z;rw[r] at mu;exact mu
 by_cases hb:b=x
 ·subst hb;rw[Bi] at q;cases q;exact new
 ·rw[An hb] at q;by_cases cT:b=e
  ·have q':H b=some (.own x):=by
    rcases he with z|z
    ·exact absurd (cT.trans z) hb
    ·rw[cT];exact z
   rw[q] at q';cases q';obtain⟨v,hv⟩:=d9;exact⟨v,by rw[cT];exact hv⟩
  ·refine (ok b u q).GB (λ c v hc r=>k c v ?_ r) (λ c r=>by rw[An (dL c b r)];exact r) λ c xs r=>by rw[An (fg c xs r)];exact r
   rcases hc with rfl|hc
   ·exact cT
   ·rintro rfl;rcases he with z|z
    ·exact dL c b hc z
    ·rw[hc] at z;cases z;exact hb rfl
end
structure Un (fs ex:List Addr)(H H':Hp)(h h':Heap):Prop where
 keep:∀b o,h.get? b=some o->H b=none->b∉fs->b∉ex->h'.get? b=some o
 slot:∀b o,h.get? b=some o->H b=none->b∈fs->b∉ex->∃sl,h'.get? b=some {o with slots:=sl}
 free:∀b o,h.get? b=some o->H b=none->b∉ex->H' b=none
 there:∀b o,h.get? b=some o->b∉ex->∃o',h'.get? b=some o'
 Ff:∀b xs,H b=some (.tup xs)->H' b=some (.tup xs)
 ES:∀b o u,H b=some (.M2 o u)->H' b=some (.M2 o u)
 Fg:∀b ps,H b=some (.Se ps)->∃more,H' b=some (.Se (ps++more))
section
variable {fs jF ex fj:List Addr}{H H1 H2:Hp}{h h1 h2 h':Heap}{a x e:Addr}{o:HO}
theorem Un.any (u:Un fs ex H H1 h h1){b:Addr}{ob:Obj}(q:h.get? b=some ob)(n:H b=none)(hx:b∉ex):∃sl,h1.get? b=some {ob with slots:=sl}:=by
 by_cases hb:b∈fs
 ·exact u.slot b ob q n hb hx
 ·exact⟨ob.slots,u.keep b ob q n hb hx⟩
theorem Un.kept (k:∀b u,h.get? b=some u->h'.get? b=some u):Un fs ex H H h h':=
 ⟨λ b ob q _ _ _=>k b ob q,λ b ob q _ _ _=>⟨ob.slots,k b ob q⟩,λ _ _ _ n _=>n,λ b ob q _=>⟨ob,k b ob q⟩,λ _ _ q=>q,λ _ _ _ q=>q,λ _ ps q=>⟨#[],by rw[q];simp⟩⟩
theorem Un.refl:Un fs ex H H h h:=Un.kept λ _ _ q=>q
theorem Un.laid (k:∀b u,h.get? b=some u->h'.get? b=some u)(hp:h.objs.size<=a)(hn:H a=none):Un fs ex H (upd H a o) h h' where
 keep:=λ b u q _ _ _=>k b u q
 slot:=λ b u q _ _ _=>⟨u.slots,k b u q⟩
 free:=λ b u q n _=>by rw[An (zG (zt (zk q) hp))];exact n
 there:=λ b u q _=>⟨u,k b u q⟩
 Ff:=λ b xs q=>by rw[An (Ap q hn)];exact q
 ES:=λ b u xs q=>by rw[An (Ap q hn)];exact q
 Fg:=λ b ps q=>⟨#[],by rw[An (Ap q hn),q];simp⟩
theorem Un.write (mu:VX (H x))(he:e=x\/H e=some (.own x))(k:∀b u,b≠e->h.get? b=some u->h'.get? b=some u)(d9:∃u,h'.get? e=some u):Un fs ex H (upd H x o) h h':=by
 have hx:∀b,H b=none->b≠x:=λ b n z=>by subst z;rw[n] at mu;exact mu
 have hb:∀b,H b=none->b≠e:=λ b n z=>by
  subst z;rcases he with r|r
  ·exact hx b n r
  ·rw[n] at r;cases r
 have hm:∀b u,H b=some u->¬ VX (some u)->b≠x:=λ b u q nm z=>by subst z;rw[q] at mu;exact nm mu
 refine⟨λ b u q n _ _=>k b u (hb b n) q,λ b u q n _ _=>⟨u.slots,k b u (hb b n) q⟩,λ b u q n _=>by rw[An (hx b n)];exact n,λ b u q _=>?_,
  λ b xs q=>by rw[An (hm b _ q λ z=>z)];exact q,λ b u xs q=>by rw[An (hm b _ q λ z=>z)];exact q,λ b ps q=>⟨#[],by rw[An (hm b _ q λ z=>z),q];simp⟩⟩
 by_cases cT:b=e
 ·subst cT;exact d9
 ·exact⟨u,k b u cT q⟩
end
noncomputable def C6 (h:Heap)(H:Hp):List Addr:=(List.range h.objs.size).filter λ a=>(H a).isSome
noncomputable def IX (h:Heap)(H:Hp):Heap:=yj h (C6 h H)
theorem Mz (h:Heap)(H:Hp):(IX h H).objs.size=h.objs.size:=PySem.W.hideAll_size _ _
theorem NH {h:Heap}{H:Hp}{b:Addr}{o:Obj}(e:h.get? b=some o)(n:H b=none):(IX h H).get? b=some o:=
 zJ _ e λ hm=>by
  have q:(H b).isSome=true:=(List.mem_filter.mp hm).2;rw[n] at q;simp at q
theorem Qk {h:Heap}{H:Hp}{b:Addr}{o:Obj}(e:(IX h H).get? b=some o):h.get? b=some o/\H b=none:=by
 have e':h.get? b=some o:=PySem.W.of_hideAll (C6 h H) e;refine⟨e',?_⟩;cases q:H b with
 |none=>rfl
 |some x =>
  have hm:b∈C6 h H:=List.mem_filter.mpr ⟨List.mem_range.mpr (zk e'),by simp[q]⟩;have z:(IX h H).get? b=none:=ym (C6 h H) hm;rw[z] at e;cases e
noncomputable def Ql (g h:Heap)(L:Addr):List (Addr×Obj):=(List.range h.objs.size).filterMap λ a=>if a=L\/(g.get? a).isSome=true then none else (h.get? a).map λ o=>(a,o)
noncomputable def rest (g h:Heap)(L d:Addr):List (Addr×Obj):=(Ql g h L).filter λ p=>decide (p.1≠d)
structure Mod (K:zb)(mg:Str->Option Value)(base:Heap):Prop where
 UG:K.In base
 glob:base.Ns mainGlobals mg
 blt:∃mb,base.Ns builtinsNs mb/\∀x:Str,x ≠ "__name__" -> mb x=bootBuiltins x
 nolimit:base.NoLimit
structure Cx where
 prog:Program
 w:World
 K:zb
 mg:Str->Option Value
 base:Heap
 A:Around
 N:List Str
 s₀:Shared
 H₀:Hp
 env:Env
 outer:List Env
 stack:List Env
 ex:List Addr
 fn:Str->Bool
 calm:Bool
 pn:List (Addr×Obj)
 xe:Value->Shared->Prop
noncomputable def BS (l:List Env):List Addr:=l.filterMap (·.frame)
noncomputable abbrev Cx.fs (X:Cx):List Addr:=BS X.outer
def W9 (sc:Scope)(x:Str):Prop:=sc.names.lookup x=some .local\/sc.names.lookup x=some .cell\/sc.names.lookup x=some .free
def Loc (sc:Scope)(x:Str):Prop:=sc.names.lookup x=some .local\/sc.names.lookup x=some .cell
def Look (env:Env)(h:Heap)(m:Str->Option Value)(x:Str)(u:Value):Prop:=
 (env.kindOf x=some .local/\m x=some u)\/((env.kindOf x=some .cell\/env.kindOf x=some .free)/\∃c,env.cells.lookup x=some c/\h.IsCell c (some u))
structure Cx.Ok (X:Cx):Prop where
 mod:Mod X.K X.mg X.base
 kind:X.env.scope.kind=.function
 glob:X.env.globals=mainGlobals
 blt:X.env.builtins=builtinsNs
 above:X.s₀.heap.objs.size<=X.env.locals
 inj:∀x y c,X.env.cells.lookup x=some c->X.env.cells.lookup y=some c->x=y
 has:∀x,(X.env.kindOf x=some .cell\/X.env.kindOf x=some .free)->∃c,X.env.cells.lookup x=some c
 Sf:∀x c,X.fn x=true->X.env.cells.lookup x=some c->X.s₀.heap.objs.size<=c
 hd:X.calm=true->X.A.handled=none
 frames:X.A.frames=some X.stack
 Le:X.stack=X.outer\/(X.stack=X.env::X.outer/\X.env.frame=some X.env.locals)
 Qm:∀b∈X.ex,b≠X.env.locals/\∀x c,X.env.cells.lookup x=some c->c≠b
 bs:∀b o,X.base.get? b=some o->X.s₀.heap.get? b=some o/\X.H₀ b=none
 NI:X.base.objs.size<=X.s₀.heap.objs.size
 JV:∀b o,X.base.get? b=some o->b∉X.ex
 IY:∀b∈X.ex,b∉X.fs
 DQ:X.s₀.heap.FunFrames X.base X.outer
 Qn:∀b∈X.fs,X.H₀ b=none
structure Inv (X:Cx)(pins:List (Addr×Obj))(σ:List (Option V))(H:Hp)(s:Shared):Prop where
 ok:X.Ok
 os:s.os=X.s₀.os
 bare:AllBare s.gens
 base:Un X.fs X.ex X.H₀ H X.s₀.heap s.heap
 loc:∃m,s.heap.Ns X.env.locals m/\∀(i:Nat) (x:Str) (v:V),X.N[i]?=some x->σ[i]?=some (some v)->W9 X.env.scope x->∃u,RelV v u/\Look X.env s.heap m x u
 cell:∀x c,X.env.cells.lookup x=some c->∃v,s.heap.IsCell c v
 free:H X.env.locals=none
 BN:∀x c,X.env.cells.lookup x=some c->H c=none
 pin:∀p∈X.pn++pins,s.heap.get? p.1=some p.2/\H p.1=none/\p.1≠X.env.locals/\p.1∉X.fs/\∀v,p.2.data≠.cell v
 AF:DF X.prog X.w H s.heap
 len:σ.length=X.N.length
section
variable {X:Cx}{pins:List (Addr×Obj)}{σ:List (Option V)}{H H':Hp}{s:Shared}{h':Heap}
theorem Cx.Ok.Wa (ok:X.Ok){b:Addr}{o:Obj}(e:X.base.get? b=some o):b∉X.fs:=λ hb=>by
 have:=(ok.DQ.mem hb).1;rw[e] at this;cases this
theorem Inv.bs (I:Inv X pins σ H s):∀b o,X.base.get? b=some o->s.heap.get? b=some o/\H b=none:=λ b o e =>
 ⟨I.base.keep b o (I.ok.bs b o e).1 (I.ok.bs b o e).2 (I.ok.Wa e) (I.ok.JV b o e),I.base.free b o (I.ok.bs b o e).1 (I.ok.bs b o e).2 (I.ok.JV b o e)⟩
theorem Inv.bk (I:Inv X pins σ H s):∀b o,X.base.get? b=some o->s.heap.get? b=some o:=λ b o e=>(I.bs b o e).1
theorem Inv.mod (I:Inv X pins σ H s):Mod X.K X.mg X.base:=I.ok.mod
theorem Inv.JQ (I:Inv X pins σ H s):X.K.In s.heap:=I.ok.mod.UG.keeps I.bk
theorem Inv.fr (I:Inv X pins σ H s):∃m,Fr X.base X.env.locals s.heap m:=
 let ⟨m,hn,_⟩:=I.loc
 ⟨m,hn,I.bk,zD I.ok.NI I.ok.above⟩
theorem Inv.lt (I:Inv X pins σ H s):X.env.locals<s.heap.objs.size:=let ⟨_,hn,_⟩:=I.loc;hn.lt
theorem Inv.sz (I:Inv X pins σ H s):X.s₀.heap.objs.size<=s.heap.objs.size:=zD I.ok.above (yt I.lt)
theorem Inv.Wb (I:Inv X pins σ H s){a:Addr}(h:s.heap.objs.size<=a):a∉X.fs:=λ hb=>by
 obtain⟨_,o,ho,_⟩:=I.ok.DQ.mem hb;exact absurd (zt (zk ho) (zD I.sz h)) (Nat.lt_irrefl _)
theorem Inv.Qo (I:Inv X pins σ H s):∀x c,X.env.cells.lookup x=some c->c≠X.env.locals:=λ x c e z=>by
 obtain⟨v,o,ho,hd⟩:=I.cell x c e;obtain⟨m,⟨o',es,ep,bB,fm,_⟩,_⟩:=I.loc;rw[z,bB] at ho;cases ho;rw[fm] at hd;cases hd
theorem Inv.DQ (I:Inv X pins σ H s):s.heap.FunFrames X.base X.outer:=by
 have all:∀(l:List Env),(∀b∈BS l,b∈X.fs)->X.s₀.heap.FunFrames X.base l->s.heap.FunFrames X.base l:=by
  intro l;induction l with
  |nil=>intro _ _;trivial
  |cons env r ih =>
   intro hs hl;obtain⟨hk,⟨L,o,hf,hn,ho,hd⟩,hr⟩:=hl;have hL:L∈X.fs:=hs L (by unfold BS;rw[List.filterMap_cons,hf];exact zf);obtain⟨sl,e⟩:=I.base.slot L o ho (I.ok.Qn L hL) hL λ z=>I.ok.IY L z hL;exact⟨hk,⟨L,_,hf,hn,e,hd⟩,ih (λ b hb=>hs b (by unfold BS;rw[List.filterMap_cons,hf];exact zg _ hb)) hr⟩
 exact all X.outer (λ _ hb=>hb) I.ok.DQ
theorem Inv.stack (I:Inv X pins σ H s):s.heap.FunFrames X.base X.stack:=by
 rcases I.ok.Le with e|⟨e,hf⟩
 ·rw[e];exact I.DQ
 ·rw[e];obtain⟨m,hn,_⟩:=I.loc;refine .cons (by rw[I.ok.kind];decide) hf hn ?_ I.DQ;exact Heap.get?_none_of_le (zD I.ok.NI I.ok.above)
theorem Inv.Lf (I:Inv X pins σ H s):∀b∈BS X.stack,b∈X.env.locals::X.fs:=λ b hb=>by
 rcases I.ok.Le with e|⟨e,hf⟩
 ·rw[e] at hb;exact zg _ hb
 ·rw[e] at hb;unfold BS at hb;rw[List.filterMap_cons,hf] at hb;exact hb
theorem Inv.Fh (I:Inv X pins σ H s):∀b∈BS X.stack,H b=none:=λ b hb=>by
 rcases zp.mp (I.Lf b hb) with e|hb
 ·rw[e];exact I.free
 ·obtain⟨_,o,ho,_⟩:=I.ok.DQ.mem hb;exact I.base.free b o ho (I.ok.Qn b hb) λ z=>I.ok.IY b z hb
theorem Inv.step {g':Array GenState}{t':Nat}{d':Drawn}{ch:List Addr}(I:Inv X pins σ H s)
 (cr:∀b∈ch,(b∈X.ex\/X.s₀.heap.objs.size<=b)/\b≠X.env.locals/\(∀x c,X.env.cells.lookup x=some c->c≠b)/\∀p∈X.pn++pins,p.1≠b)
 (keep:∀b o,b≠X.env.locals->b∉X.fs->b∉ch->s.heap.get? b=some o->H b=none->h'.get? b=some o)
 (slot:∀b o,b≠X.env.locals->b∈X.fs->b∉ch->s.heap.get? b=some o->H b=none->∃sl,h'.get? b=some {o with slots:=sl}) (free:∀b o,b∉ch->s.heap.get? b=some o->H b=none->H' b=none)
 (there:∀b o,b∉ch->s.heap.get? b=some o->∃o',h'.get? b=some o')
 (Ff:∀b xs,H b=some (.tup xs)->H' b=some (.tup xs)) (ES:∀b o u,H b=some (.M2 o u)->H' b=some (.M2 o u)) (Fg:∀b ps,H b=some (.Se ps)->∃more,H' b=some (.Se (ps++more)))
 (ns:∀m,s.heap.Ns X.env.locals m->h'.Ns X.env.locals m) (AF:DF X.prog X.w H' h') (hg:AllBare g'):
 Inv X pins σ H' {s with heap:=h',gens:=g',drawn:=d',toks:=t' }:=by
 have gL:∀b o,X.s₀.heap.get? b=some o->b≠X.env.locals:=λ b o e=>zG (zt (zk e) I.ok.above);have cB:∀b o,X.s₀.heap.get? b=some o->b∉X.ex->b∉ch:=λ b o e hx hb=>by
  rcases (cr b hb).1 with z|z
  ·exact hx z
  ·exact absurd (zt (zk e) z) (Nat.lt_irrefl _)
 have cellK:∀x c,X.env.cells.lookup x=some c->∀v,s.heap.IsCell c v->h'.IsCell c v:=λ x c e v ⟨o,ho,hd⟩=>by
  have dM:c∉ch:=λ z=>(cr c z).2.2.1 x c e rfl;by_cases hc:c∈X.fs
  ·obtain⟨sl,q⟩:=slot c o (I.Qo x c e) hc dM ho (I.BN x c e);exact⟨_,q,hd⟩
  ·exact⟨o,keep c o (I.Qo x c e) hc dM ho (I.BN x c e),hd⟩
 refine⟨I.ok,I.os,hg,⟨λ b o e n hb hx=>?_,λ b o e n hb hx=>?_,λ b o e n hx=>?_,λ b o e hx=>?_,λ b xs e=>Ff b xs (I.base.Ff b xs e),λ b o xs e=>ES b o xs (I.base.ES b o xs e),λ b ps e=>?_⟩,?_,λ x c e=>?_,?_,λ x c e=>?_,λ p hp=>?_,AF,I.len⟩
 ·exact keep b o (gL b o e) hb (cB b o e hx) (I.base.keep b o e n hb hx) (I.base.free b o e n hx)
 ·obtain⟨sl,e1⟩:=I.base.slot b o e n hb hx;obtain⟨bC,e2⟩:=slot b _ (gL b o e) hb (cB b o e hx) e1 (I.base.free b o e n hx);exact⟨bC,e2⟩
 ·obtain⟨o',e1⟩:=I.base.there b o e hx;exact free b o' (cB b o e hx) e1 (I.base.free b o e n hx)
 ·obtain⟨o',e1⟩:=I.base.there b o e hx;exact there b o' (cB b o e hx) e1
 ·obtain⟨m1,e1⟩:=I.base.Fg b ps e;obtain⟨m2,e2⟩:=Fg b _ e1;exact⟨m1++m2,by rw[e2,Array.append_assoc]⟩
 ·obtain⟨m,hn,hl⟩:=I.loc;refine⟨m,ns m hn,λ i x v e1 e2 e3=>?_⟩;obtain⟨u,r,l⟩:=hl i x v e1 e2 e3;refine⟨u,r,?_⟩;rcases l with l|⟨k,c,e,z⟩
  ·exact .inl l
  ·exact .inr ⟨k,c,e,cellK x c e _ z⟩
 ·obtain⟨v,z⟩:=I.cell x c e;exact⟨v,cellK x c e v z⟩
 ·obtain⟨m,⟨o,_,_,ho,_⟩,_⟩:=I.loc;exact free _ o (λ z=>(cr _ z).2.1 rfl) ho I.free
 ·obtain⟨v,o,ho,hd⟩:=I.cell x c e;exact free c o (λ z=>(cr c z).2.2.1 x c e rfl) ho (I.BN x c e)
 ·obtain⟨e,n,ne,nf,d⟩:=I.pin p hp;have dM:p.1∉ch:=λ z=>(cr p.1 z).2.2.2 p hp rfl;exact⟨keep p.1 p.2 ne nf dM e n,free p.1 p.2 dM e n,ne,nf,d⟩
theorem Inv.un {t':Nat}(I:Inv X pins σ H s)(u:Un X.fs [] H H' s.heap h')(AF:DF X.prog X.w H' h'):Inv X pins σ H' {s with heap:=h',toks:=t' }:=by
 obtain⟨m,⟨o,es,ep,ho,r⟩,_⟩:=id I.loc;obtain⟨sl,hL⟩:=u.any ho I.free (by simp);exact I.step (g':=s.gens) (d':=s.drawn) (ch:=[]) (λ _ z=>nomatch z) (λ b o _ hb _ e n=>u.keep b o e n hb (by simp)) (λ b o _ hb _ e n=>u.slot b o e n hb (by simp)) (λ b o _ e n=>u.free b o e n (by simp)) (λ b o _ e=>u.there b o e (by simp)) u.Ff u.ES u.Fg (λ m' hm=>by
  obtain⟨o',eM,eN,bB,r'⟩:=hm;rw[ho] at bB;cases bB;exact⟨_,eM,eN,hL,r'⟩) AF I.bare
theorem Inv.call {g':Array GenState}{t':Nat}{d':Drawn}{ch:List Addr}(I:Inv X pins σ H s)(u:Un (BS X.stack) ch H H' s.heap h')(AF:DF X.prog X.w H' h')(hg:AllBare g')
 (cr:∀b∈ch,(b∈X.ex\/X.s₀.heap.objs.size<=b)/\b≠X.env.locals/\(∀x c,X.env.cells.lookup x=some c->c≠b)/\∀p∈X.pn++pins,p.1≠b):
 Inv X pins σ H' {s with heap:=h',gens:=g',drawn:=d',toks:=t' }:=by
 obtain⟨m,⟨o,es,ep,ho,r⟩,_⟩:=id I.loc;obtain⟨sl,hL⟩:=u.any ho I.free λ z=>(cr _ z).2.1 rfl;exact I.step (ch:=ch) cr (λ b o hL hb hc e n=>u.keep b o e n (λ z=>(zp.mp (I.Lf b z)).elim hL hb) hc) (λ b o _ _ hc e n=>u.any e n hc) (λ b o hc e n=>u.free b o e n hc) (λ b o hc e=>u.there b o e hc) u.Ff u.ES u.Fg (λ m' hm=>by
  obtain⟨o',eM,eN,bB,r'⟩:=hm;rw[ho] at bB;cases bB;exact⟨_,eM,eN,hL,r'⟩) AF hg
theorem Inv.turned {t':Nat}{it:Addr}(I:Inv X pins σ H s)(k:∀b o,b≠it->s.heap.get? b=some o->h'.get? b=some o)(hn:H it=none)(hL:it≠X.env.locals)
 (h1:it∈X.ex\/X.s₀.heap.objs.size<=it) (h2:∀x c,X.env.cells.lookup x=some c->c≠it) (h3:∀p∈X.pn++pins,p.1≠it):Inv X pins σ H {s with heap:=h',toks:=t' }:=by
 have gM:∀b u,H b=some u->b≠it:=λ b u e z=>by rw[z,hn] at e;cases e
 refine I.step (g':=s.gens) (d':=s.drawn) (ch:=[it]) (λ b hb=>?_) (λ b o _ _ hc e _=>k b o (λ z=>hc (by simp[z])) e) (λ b o _ _ hc e _=>⟨o.slots,k b o (λ z=>hc (by simp[z])) e⟩) (λ _ _ _ _ n=>n)
  (λ b o hc e=>⟨o,k b o (λ z=>hc (by simp[z])) e⟩) (λ _ _ e=>e) (λ _ _ _ e=>e) (λ b ps e=>⟨#[],by rw[e];simp⟩) (λ m hm=>?_) (λ b u e=>?_) I.bare
 ·have e:b=it:=by simpa using hb
  subst e;exact⟨h1,hL,h2,h3⟩
 ·obtain⟨o,es,ep,ho,r⟩:=hm;exact⟨o,es,ep,k _ o (Ne.symm hL) ho,r⟩
 ·refine (I.AF b u e).GB (λ c v hc q=>k c v ?_ q) (λ _ q=>q) λ _ _ q=>q;rcases hc with z|z
  ·rw[z];exact gM b u e
  ·exact gM c _ z
theorem Inv.tok (I:Inv X pins σ H s)(t:Nat):Inv X pins σ H {s with toks:=t}:=I.un (h':=s.heap) (t':=t) Un.refl I.AF
theorem Inv.kept {t':Nat}(I:Inv X pins σ H s)(k:∀b u,s.heap.get? b=some u->h'.get? b=some u):Inv X pins σ H {s with heap:=h',toks:=t' }:=I.un (Un.kept k) (I.AF.kept k)
theorem Inv.laid {a:Addr}{o:HO}{t':Nat}(I:Inv X pins σ H s)(k:∀b u,s.heap.get? b=some u->h'.get? b=some u)(hp:s.heap.objs.size<=a)(new:Bw X.prog X.w (upd H a o) h' a o):
 Inv X pins σ (upd H a o) {s with heap:=h',toks:=t' }:=I.un (Un.laid k hp (I.AF.fresh hp)) (I.AF.laid k hp new)
theorem Inv.write {x e:Addr}{o:HO}{t':Nat}(I:Inv X pins σ H s)(mu:VX (H x))(he:e=x\/H e=some (.own x))(k:∀b u,b≠e->s.heap.get? b=some u->h'.get? b=some u)(d9:∃u,h'.get? e=some u)
 (new:Bw X.prog X.w (upd H x o) h' x o):Inv X pins σ (upd H x o) {s with heap:=h',toks:=t' }:=I.un (Un.write mu he k d9) (I.AF.write mu he k d9 new)
theorem Inv.weak {σ':List (Option V)}(I:Inv X pins σ H s)(hl:σ'.length=σ.length)(w:∀(i:Nat) v,σ'[i]?=some (some v)->σ[i]?=some (some v)):Inv X pins σ' H s:=
 ⟨I.ok,I.os,I.bare,I.base,let ⟨m,hn,cC⟩:=I.loc;⟨m,hn,λ i x v e1 e2 e3=>cC i x v e1 (w i v e2) e3⟩,I.cell,I.free,I.BN,I.pin,I.AF,hl.trans I.len⟩
theorem Inv.CL {bx:List (Addr×Obj)}(I:Inv X pins σ H s)(h:∀p∈bx,s.heap.get? p.1=some p.2/\H p.1=none/\p.1≠X.env.locals/\p.1∉X.fs/\∀v,p.2.data≠.cell v):Inv X bx σ H s:=
 ⟨I.ok,I.os,I.bare,I.base,I.loc,I.cell,I.free,I.BN,λ p hp=>(zy.mp hp).elim (λ z=>I.pin p (zK _ z)) (h p),I.AF,I.len⟩
theorem JW {N:List Str}(hN:N.Nodup){i j:Nat}{x:Str}(a:N[i]?=some x)(b:N[j]?=some x):i=j:=by
 obtain⟨h1,e1⟩:=zI.mp a;obtain⟨h2,e2⟩:=zI.mp b;exact (List.getElem_inj hN).mp (e1.trans e2.symm)
theorem Ic {M:Model}{A:Around}{E:Value->Shared->Prop}{i:Nat}{x:Str}{v:V}{u:Value}{Q:Unit->Shared->Prop}(I:Inv X pins σ H s)(hN:X.N.Nodup)(hi:X.N[i]?=some x)(hx:Loc X.env.scope x)(r:RelV v u)
 (h:∀s',Inv X pins (σ.set i (some v)) H s'->(∃a,Heap.SameBut a s.heap s'.heap/\(a=X.env.locals\/X.env.cells.lookup x=some a))->Q () s') (hf:X.fn x=true\/X.env.scope.names.lookup x=some .local:=by first|exact .inl rfl|exact .inr rfl|assumption):wpAny M A (storeName X.env x u) Q E s:=by
 obtain⟨m,hn,hl⟩:=id I.loc;have bU:(X.env.scope.kind==.class||(X.env.scope.kind==.module&&X.env.locals != X.env.globals))=false:=by rw[I.ok.kind];rfl
 have hiσ:i<σ.length:=by rw[I.len];exact (zI.mp hi).1
 have Qo:=I.Qo;have tracked:∀ {a:Addr} {h':Heap},(∃o,s.heap.get? a=some o/\H a=none)->Heap.SameBut a s.heap h'->DF X.prog X.w H h':=fun {a h'} ha hs b ob e=>by
  obtain⟨_,_,cO⟩:=ha;refine (I.AF b ob e).GB (λ c w' hc q=>(hs.2 c ?_).trans q) (λ _ q=>q) λ _ _ q=>q;rintro rfl;rcases hc with rfl|hc
  ·rw[cO] at e;cases e
  ·rw[cO] at hc;cases hc
 rcases hx with hk|hk
 ·refine wpAny_storeName_local hk hn (λ h' fo hs=>?_) bU;obtain⟨oL,_,_,dN,_⟩:=id hn;refine h _ ⟨I.ok,I.os,I.bare,⟨λ b o e n hb hx=>?_,λ b o e n hb hx=>?_,I.base.free,λ b o e hx=>?_,I.base.Ff,I.base.ES,I.base.Fg⟩,⟨_,fo,λ j y v' e1 e2 e3=>?_⟩,λ y c e=>?_,I.free,I.BN,λ p hp=>?_,tracked ⟨oL,dN,I.free⟩ hs,by simpa using I.len⟩ ⟨_,hs,.inl rfl⟩
  ·exact (hs.2 b (zG (zt (zk e) I.ok.above))).trans (I.base.keep b o e n hb hx)
  ·obtain⟨sl,e1⟩:=I.base.slot b o e n hb hx;exact⟨sl,(hs.2 b (zG (zt (zk e) I.ok.above))).trans e1⟩
  ·obtain⟨o',e1⟩:=I.base.there b o e hx;exact⟨o',(hs.2 b (zG (zt (zk e) I.ok.above))).trans e1⟩
  ·by_cases hj:j=i
   ·subst hj;rw[hi] at e1;cases e1;rw[yb hiσ] at e2;cases e2;exact⟨u,r,.inl ⟨hk,by simp⟩⟩
   ·rw[zL (Ne.symm hj)] at e2;obtain⟨u',r',q⟩:=hl j y v' e1 e2 e3;refine⟨u',r',?_⟩;rcases q with ⟨k,e⟩|⟨k,c,e,z⟩
    ·refine .inl ⟨k,?_⟩;have:y≠x:=λ e=>hj (JW hN e1 (e▸hi));simp[this,e]
    ·exact .inr ⟨k,c,e,z.sameBut hs (Qo y c e)⟩
  ·obtain⟨w',z⟩:=I.cell y c e;exact⟨w',z.sameBut hs (Qo y c e)⟩
  ·obtain⟨e,n,ne,nf,d⟩:=I.pin p hp;exact⟨(hs.2 p.1 ne).trans e,n,ne,nf,d⟩
 ·have fu:X.fn x=true:=by
   rcases hf with z|z
   ·exact z
   ·rw[z] at hk;cases hk
  obtain⟨c,hc⟩:=I.ok.has x (.inl hk);obtain⟨w',z⟩:=I.cell x c hc;refine wpAny_storeName_cell I.ok.kind hk hc z (λ h' bR hs=>?_);obtain⟨oc,gN,fv⟩:=id z;refine h {s with heap:=h' } ⟨I.ok,I.os,I.bare,⟨λ b o e n hb hx=>?_,λ b o e n hb hx=>?_,I.base.free,λ b o e hx=>?_,I.base.Ff,I.base.ES,I.base.Fg⟩,⟨m,hn.sameBut hs (Ne.symm (Qo x c hc)),λ j y v' e1 e2 e3=>?_⟩,λ y c' e=>?_,I.free,I.BN,λ p hp=>?_,tracked ⟨oc,gN,I.BN x c hc⟩ hs,by simpa using I.len⟩ ⟨c,hs,.inr hc⟩
  ·exact (hs.2 b (zG (zt (zk e) (I.ok.Sf x c fu hc)))).trans (I.base.keep b o e n hb hx)
  ·obtain⟨sl,e1⟩:=I.base.slot b o e n hb hx;exact⟨sl,(hs.2 b (zG (zt (zk e) (I.ok.Sf x c fu hc)))).trans e1⟩
  ·obtain⟨o',e1⟩:=I.base.there b o e hx;exact⟨o',(hs.2 b (zG (zt (zk e) (I.ok.Sf x c fu hc)))).trans e1⟩
  ·by_cases hj:j=i
   ·subst hj;rw[hi] at e1;cases e1;rw[yb hiσ] at e2;cases e2;exact⟨u,r,.inr ⟨.inl hk,c,hc,bR⟩⟩
   ·rw[zL (Ne.symm hj)] at e2;obtain⟨u',r',q⟩:=hl j y v' e1 e2 e3;refine⟨u',r',?_⟩;rcases q with q|⟨k,c',e,z'⟩
    ·exact .inl q
    ·refine .inr ⟨k,c',e,z'.sameBut hs ?_⟩;rintro rfl;exact hj (JW hN e1 (I.ok.inj _ _ _ e hc▸hi))
  ·by_cases eO:c'=c
   ·subst eO;exact⟨_,bR⟩
   ·obtain⟨w2,z2⟩:=I.cell y c' e;exact⟨w2,z2.sameBut hs eO⟩
  ·obtain⟨e,n,ne,nf,d⟩:=I.pin p hp;refine⟨(hs.2 p.1 ?_).trans e,n,ne,nf,d⟩;intro q;rw[q,gN] at e;have q':oc=p.2:=zF e;exact d w' (by rw[<-q'];exact fv)
theorem Fi {M:Model}{A:Around}{E:Value->Shared->Prop}{i:Nat}{x:Str}{v:V}{u:Value}{Q:Unit->Shared->Prop}(I:Inv X pins σ H s)(hN:X.N.Nodup)(hi:X.N[i]?=some x)(hx:Loc X.env.scope x)(r:RelV v u)
 (h:∀s',Inv X pins (σ.set i (some v)) H s'->Q () s') (hf:X.fn x=true\/X.env.scope.names.lookup x=some .local:=by first|exact .inl rfl|exact .inr rfl|assumption):wpAny M A (storeName X.env x u) Q E s:=
 Ic I hN hi hx r (λ s' I' _=>h s' I') hf
theorem Inv.Ge {s':Shared}{ch:List Addr}(I:Inv X pins σ H s)(ho:s'.os=s.os)(u:Un (BS X.stack) ch H H' s.heap s'.heap)(AF:DF X.prog X.w H' s'.heap)(hg:AllBare s'.gens)
 (cr:∀b∈ch,(b∈X.ex\/X.s₀.heap.objs.size<=b)/\b≠X.env.locals/\(∀x c,X.env.cells.lookup x=some c->c≠b)/\∀p∈X.pn++pins,p.1≠b):Inv X pins σ H' s':=by
 obtain⟨h',g',d',t',o'⟩:=s';have e:o'=s.os:=ho;subst e;exact I.call (g':=g') (t':=t') (d':=d') u AF hg cr
end
noncomputable abbrev XK:=Value->Option Addr->Hp->Prop
noncomputable abbrev St:=List (Option V)
noncomputable abbrev VK:=V->Hp->Prop
noncomputable abbrev TE:=St->Hp->VK->Prop
noncomputable abbrev TT:=St->Hp->(Bool->Hp->Prop)->Prop
noncomputable abbrev TA:=St->Hp->(List V->Hp->Prop)->Prop
structure Ends where
 nx:St->Hp->Prop
 rt:VK
 bk:St->Hp->Prop:=λ _ _=>False
 ct:St->Hp->Prop:=λ _ _=>False
noncomputable abbrev TS:=Ends->St->Hp->Prop
def EP (X:Cx)(pins:List (Addr×Obj))(σ:St)(Q:VK)(u:Value)(s':Shared):Prop:=∃v H',Inv X pins σ H' s'/\RelV v u/\Q v H'
def TP (X:Cx)(pins:List (Addr×Obj))(σ:St)(Q:Bool->Hp->Prop)(b:Bool)(s':Shared):Prop:=∃H',Inv X pins σ H' s'/\Q b H'
def AP (X:Cx)(pins:List (Addr×Obj))(σ:St)(Q:List V->Hp->Prop)(us:List Value)(s':Shared):Prop:=∃vs H',Inv X pins σ H' s'/\Vals vs us/\Q vs H'
def SP (X:Cx)(pins:List (Addr×Obj))(D:Ends)(f:Flow)(s':Shared):Prop:=
 match f with
 | .next=>∃σ' H',Inv X pins σ' H' s'/\D.nx σ' H'
 | .brk=>∃σ' H',Inv X pins σ' H' s'/\D.bk σ' H'
 | .cont=>∃σ' H',Inv X pins σ' H' s'/\D.ct σ' H'
 | .ret u=>∃v σ' H',Inv X pins σ' H' s'/\RelV v u/\D.rt v H'
def PE (X:Cx)(e:Expr)(t:TE):Prop:=
 ∀(pins:List (Addr×Obj)) (s:Shared) (σ:St) (H:Hp) (Q:VK),Inv X pins σ H s->t σ H Q->wpAny (model X.prog X.w) X.A (eval e X.env) (EP X pins σ Q) X.xe s
def PT (X:Cx)(e:Expr)(t:TT):Prop:=
 ∀(pins:List (Addr×Obj)) (s:Shared) (σ:St) (H:Hp) (Q:Bool->Hp->Prop),Inv X pins σ H s->t σ H Q->wpAny (model X.prog X.w) X.A (isTrue e X.env (eval e X.env)) (TP X pins σ Q) X.xe s
def PW (X:Cx)(e:Expr)(t:TT):Prop:=
 ∀(whole:Sem Value) (pins:List (Addr×Obj)) (s:Shared) (σ:St) (H:Hp) (Q:Bool->Hp->Prop),Inv X pins σ H s->t σ H Q->wpAny (model X.prog X.w) X.A (isTrue e X.env whole) (TP X pins σ Q) X.xe s
theorem PW.pt {X:Cx}{e:Expr}{t:TT}(h:PW X e t):PT X e t:=h _
def PA (X:Cx)(es:List Expr)(t:TA):Prop:=
 ∀(pos:Pos) (pins:List (Addr×Obj)) (s:Shared) (σ:St) (H:Hp) (Q:List V->Hp->Prop),Inv X pins σ H s->t σ H Q->wpAny (model X.prog X.w) X.A (spliced (backTo pos (starEach es X.env))) (AP X pins σ Q) X.xe s
def PS (X:Cx)(st:Stmt)(t:TS):Prop:=
 ∀(pins:List (Addr×Obj)) (s:Shared) (σ:St) (H:Hp) (D:Ends),Inv X pins σ H s->t D σ H->wpAny (model X.prog X.w) X.A (exec st X.env) (SP X pins D) X.xe s
def MA (X:Cx)(st:List Stmt)(t:TS):Prop:=
 ∀(pins:List (Addr×Obj)) (s:Shared) (σ:St) (H:Hp) (D:Ends),Inv X pins σ H s->t D σ H->wpAny (model X.prog X.w) X.A (execs st X.env) (SP X pins D) X.xe s
theorem AX {α:Type}{t:Sem α}{Q Q':α->Shared->Prop}{M:Model}{A:Around}{E:Value->Shared->Prop}{s:Shared}(h:wpAny M A t Q E s)(hQ:∀a s,Q a s->Q' a s):wpAny M A t Q' E s:=wpAny_mono h hQ λ _ _ x=>x
section
variable {X:Cx}
theorem bin {a b:Expr}{ta tb:TE}(ha:PE X a ta)(hb:PE X b tb){pins:List (Addr×Obj)}{s:Shared}{σ:St}{H:Hp}{R:V->V->Hp->Prop}(I:Inv X pins σ H s)(h:ta σ H λ x H1=>tb σ H1 λ y H2=>R x y H2)
 {α:Type} {Q:α->Shared->Prop} {f:Value->Value->Sem α}
 (hf:∀v u s2 x y H2,Inv X pins σ H2 s2->RelV x v->RelV y u->R x y H2->wpAny (model X.prog X.w) X.A (f v u) Q X.xe s2):
 wpAny (model X.prog X.w) X.A (eval a X.env) (λ v s₁=>wpAny (model X.prog X.w) X.A (eval b X.env) (λ u s₂=>wpAny (model X.prog X.w) X.A (f v u) Q X.xe s₂) X.xe s₁) X.xe s:=by
 refine AX (ha pins s σ H _ I h) λ v s1 ⟨x,H1,I1,r1,q1⟩=>?_;refine AX (hb pins s1 σ H1 _ I1 q1) λ u s2 ⟨y,H2,I2,r2,q2⟩=>?_;exact hf v u s2 x y H2 I2 r1 r2 q2
noncomputable def NJ (i:Nat):TE:=λ σ H Q=>∃v,σ[i]?=some (some v)/\Q v H
noncomputable def tC (v:V):TE:=λ _ H Q=>Q v H
theorem SI {i:Nat}{x:Str}{pos:Pos}(hN:X.N[i]?=some x)(hv:W9 X.env.scope x)(hd:(x==("__debug__" : Str))=false:=by decide)(bJ:(x==("__classdict__" : Str))=false:=by decide):PE X (.Name x pos) (NJ i):=by
 intro pins s σ H Q I h;obtain⟨v,e,h⟩:=h;obtain⟨m,hn,hl⟩:=I.loc;obtain⟨u,r,l⟩:=hl i x v hN e hv;have fin:EP X pins σ Q u s:=⟨v,H,I,r,h⟩;rcases l with ⟨hk,hm⟩|⟨hk,c,hc,bh⟩
 ·exact wpAny_Name (wpAny_loadName_local I.ok.kind hk hn hm fin) hd
 ·rcases hk with hk|hk
  ·exact wpAny_Name (wpAny_loadName_cell I.ok.kind hk hc bh fin) hd
  ·exact wpAny_Name (wpAny_loadName_free I.ok.kind hk hc bh fin bJ) hd
theorem SJ {i j pos}:PE X (.Constant (.int i) j pos) (tC (.int i)):=λ _ _ _ H _ I h=>wpAny_Constant_int ⟨.int i,H,I.tok _,⟨_,rfl⟩,h⟩
theorem UH {b j pos}:PE X (.Constant (.bool b) j pos) (tC (.bl b)):=λ _ _ _ H _ I h=>Constant_bool ⟨.bl b,H,I,rfl,h⟩
theorem SK {j pos}:PE X (.Constant .none j pos) (tC .Ar):=λ _ _ _ H _ I h=>Constant_none ⟨.Ar,H,I,rfl,h⟩
theorem SM {x j pos}:PE X (.Constant (.str x) j pos) (tC (.str x)):=λ _ _ _ H _ I h=>Calls.Constant_str ⟨.str x,H,I.tok _,⟨_,rfl⟩,h⟩
def Gl (X:Cx)(x:Str):Prop:=X.env.kindOf x=some .globalImplicit
theorem Fj {E:Value->Shared->Prop}{pins:List (Addr×Obj)}{s:Shared}{σ:St}{H:Hp}{x:Str}{u:Value}{pos:Pos}{Q:Value->Shared->Prop}(I:Inv X pins σ H s)(hg:Gl X x)(hm:X.mg x=some u)(h:Q u s)
 (hd:(x==("__debug__" : Str))=false:=by decide):wpAny (model X.prog X.w) X.A (eval (.Name x pos) X.env) Q E s:=
 Calls.Name_function_global I.ok.kind hg (Calls.loadGlobal_global (by rw[I.ok.glob];exact I.mod.glob.keeps I.bk) hm h) hd
theorem IZ {E:Value->Shared->Prop}{pins:List (Addr×Obj)}{s:Shared}{σ:St}{H:Hp}{x:Str}{u:Value}{pos:Pos}{Q:Value->Shared->Prop}(I:Inv X pins σ H s)(hg:Gl X x)(hm:X.mg x=none)(hv:bootBuiltins x=some u)(h:Q u s)
 (hn:x ≠ "__name__" := by decide) (hd:(x==("__debug__" : Str))=false:=by decide):wpAny (model X.prog X.w) X.A (eval (.Name x pos) X.env) Q E s:=by
 obtain⟨mb,h1,h2⟩:=I.mod.blt;exact Calls.Name_function_global I.ok.kind hg (Calls.loadGlobal_builtin (by rw[I.ok.glob];exact I.mod.glob.keeps I.bk) hm (by rw[I.ok.blt];exact h1.keeps I.bk) ((h2 x hn).trans hv) h) hd
theorem Qp {x:Str}{v:V}{u:Value}{pos:Pos}(hg:Gl X x)(hm:X.mg x=some u)(r:RelV v u)(hd:(x==("__debug__" : Str))=false:=by decide):PE X (.Name x pos) (tC v):=
 λ _ _ _ H _ I h=>Fj I hg hm ⟨v,H,I,r,h⟩ hd
theorem M3 {x:Str}{v:V}{u:Value}{pos:Pos}(hg:Gl X x)(hm:X.mg x=none)(hv:bootBuiltins x=some u)(r:RelV v u)(hn:x ≠ "__name__" := by decide)(hd:(x==("__debug__" : Str))=false:=by decide):PE X (.Name x pos) (tC v):=
 λ _ _ _ H _ I h=>IZ I hg hm hv ⟨v,H,I,r,h⟩ hn hd
variable {a b:Expr}{ta tb:TE}{pos:Pos}
def PC (X:Cx)(op:CmpOp)(a b:Expr)(t:TE):Prop:=
 ∀(pins:List (Addr×Obj)) (s:Shared) (σ:St) (H:Hp) (Q:VK),Inv X pins σ H s->t σ H Q->
  wpAny (model X.prog X.w) X.A (eval a X.env) (λ v s₁=>wpAny (model X.prog X.w) X.A (eval b X.env) (λ u s₂=>wpAny (model X.prog X.w) X.A (compareOp op v u) (EP X pins σ Q) X.xe s₂) X.xe s₁) X.xe s
theorem JX (b:Expr){op:CmpOp}(h:op≠.In)(h2:op≠.NotIn):behindInMarks op b=false:=by
 have e1:(op==CmpOp.In)=false:=by cases op<;>first|rfl|exact absurd rfl h
 have e2:(op==CmpOp.NotIn)=false:=by cases op<;>first|rfl|exact absurd rfl h2
 cases b<;>simp[behindInMarks,e1,e2]
noncomputable def Wc (ta:TE):TE:=λ σ H Q=>ta σ H λ x H1=>Q (.bl (decide (x=.Ar))) H1
noncomputable def UI (ta:TE):TE:=λ σ H Q=>ta σ H λ x H1=>Q (.bl (!decide (x=.Ar))) H1
theorem RelV.JY {x:V}{v:Value}(r:RelV x v):(v==Value.none)=decide (x=.Ar):=by
 cases x with
 |Ar|bl _=>cases r;rfl
 |int _|str _|Uu _|VV _=>obtain⟨t,rfl⟩:=r;rfl
 |ref _|ty _=>cases r;rfl
theorem NK {j pos'}(ha:PE X a ta):PC X .Is a (.Constant .none j pos') (Wc ta):=by
 intro pins s σ H Q I h;refine AX (ha pins s σ H _ I h) λ v s1 ⟨x,H1,I1,r1,q1⟩=>?_;exact Constant_none (is_none_gen ⟨.bl _,H1,I1,by rw[r1.JY];rfl,q1⟩)
theorem Qq {j pos'}(ha:PE X a ta):PC X .IsNot a (.Constant .none j pos') (UI ta):=by
 intro pins s σ H Q I h;refine AX (ha pins s σ H _ I h) λ v s1 ⟨x,H1,I1,r1,q1⟩=>?_;exact Constant_none (isnot_none_gen ⟨.bl _,H1,I1,by rw[r1.JY];rfl,q1⟩)
noncomputable def tB (t:TE):TT:=λ σ H Q=>t σ H λ x H1=>∃c,x=.bl c/\Q c H1
theorem SN {op:CmpOp}{t:TE}(h:PC X op a b t)(h1:behindInMarks op b=false:=by first | exact JX _ (by decide) (by decide) | rfl):PE X (.Compare a [op] [b] pos) t:=λ pins s σ H Q I hw=>wpAny_Compare1 (h pins s σ H Q I hw) h1
theorem NL {op:CmpOp}{t:TE}(h:PC X op a b t)(h1:behindInMarks op b=false:=by first | exact JX _ (by decide) (by decide) | rfl):PT X (.Compare a [op] [b] pos) (tB t):=by
 intro pins s σ H Q I hw;refine wpAny_isTrue_Compare1 (AX (h pins s σ H _ I hw) λ v s1 h1=>AX h1 λ u s2 h2=>AX h2 λ c s3 ⟨x,H1,I1,r1,q1⟩=>?_) h1;obtain⟨d,rfl,q⟩:=q1;cases r1;exact wpAny_truthy_bool ⟨H1,I1,q⟩
variable {tA eQ:TT}{rest:List Expr}
noncomputable def Wd (t u:TT):TT:=λ σ H Q=>t σ H λ c H1=>if c=true then u σ H1 Q else Q false H1
noncomputable def XA (t u:TT):TT:=λ σ H Q=>t σ H λ c H1=>if c=true then Q true H1 else u σ H1 Q
noncomputable def We (t:TT):TT:=λ σ H Q=>t σ H λ c H1=>Q (!c) H1
theorem pw_and1 (ha:PT X a tA):PW X (.BoolOp .And [a] pos) tA:=by
 intro wh pins s σ H Q I h;refine isTrue_and (AX (ha pins s σ H Q I h) λ c s1 e=>?_);cases c with
 |true=>exact isTrue_and_nil e
 |false=>exact e
theorem pw_or1 (ha:PT X a tA):PW X (.BoolOp .Or [a] pos) tA:=by
 intro wh pins s σ H Q I h;refine isTrue_or (AX (ha pins s σ H Q I h) λ c s1 e=>?_);cases c with
 |false=>exact isTrue_or_nil e
 |true=>exact e
theorem pw_and (ha:PT X a tA)(hb:PW X (.BoolOp .And (b::rest) pos) eQ):PW X (.BoolOp .And (a::b::rest) pos) (Wd tA eQ):=by
 intro wh pins s σ H Q I h;refine isTrue_and (AX (ha pins s σ H _ I h) λ c s1 ⟨H1,I1,q1⟩=>?_);cases c with
 |true=>exact hb wh pins s1 σ H1 Q I1 q1
 |false=>exact⟨H1,I1,q1⟩
theorem pw_or (ha:PT X a tA)(hb:PW X (.BoolOp .Or (b::rest) pos) eQ):PW X (.BoolOp .Or (a::b::rest) pos) (XA tA eQ):=by
 intro wh pins s σ H Q I h;refine isTrue_or (AX (ha pins s σ H _ I h) λ c s1 ⟨H1,I1,q1⟩=>?_);cases c with
 |true=>exact⟨H1,I1,q1⟩
 |false=>exact hb wh pins s1 σ H1 Q I1 q1
theorem SO (ha:PT X a tA):PT X (.UnaryOp .Not a pos) (We tA):=by
 intro pins s σ H Q I h;exact isTrue_not (ha pins s σ H (λ c H1=>Q (!c) H1) I h)
noncomputable def UJ (ta tb:TE):TE:=λ σ H Q=>ta σ H λ x H1=>∃c,x=.bl c/\if c=true then tb σ H1 Q else Q (.bl false) H1
noncomputable def Wf (ta tb:TE):TE:=λ σ H Q=>ta σ H λ x H1=>∃c,x=.bl c/\if c=true then Q (.bl true) H1 else tb σ H1 Q
noncomputable def UK (ta:TE):TE:=λ σ H Q=>ta σ H λ x H1=>∃c,x=.bl c/\Q (.bl (!c)) H1
theorem SQ {op}{t:TE}(h:PE X a t):PE X (.BoolOp op [a] pos) t:=λ pins s σ H Q I hw=>BoolOp_one (h pins s σ H Q I hw)
theorem SR (ha:PE X a ta)(hb:PE X (.BoolOp .And (b::rest) pos) tb):PE X (.BoolOp .And (a::b::rest) pos) (UJ ta tb):=by
 intro pins s σ H Q I h;refine BoolOp_and (AX (ha pins s σ H _ I h) λ v s1 ⟨x,H1,I1,r1,q1⟩=>?_);obtain⟨c,rfl,q1⟩:=q1;cases r1;refine wpAny_truthy_bool ?_;cases c with
 |true=>exact hb pins s1 σ H1 Q I1 q1
 |false=>exact⟨.bl false,H1,I1,rfl,q1⟩
theorem UL (ha:PE X a ta)(hb:PE X (.BoolOp .Or (b::rest) pos) tb):PE X (.BoolOp .Or (a::b::rest) pos) (Wf ta tb):=by
 intro pins s σ H Q I h;refine BoolOp_or (AX (ha pins s σ H _ I h) λ v s1 ⟨x,H1,I1,r1,q1⟩=>?_);obtain⟨c,rfl,q1⟩:=q1;cases r1;refine wpAny_truthy_bool ?_;cases c with
 |false=>exact hb pins s1 σ H1 Q I1 q1
 |true=>exact⟨.bl true,H1,I1,rfl,q1⟩
theorem SS (ha:PE X a ta):PE X (.UnaryOp .Not a pos) (UK ta):=by
 intro pins s σ H Q I h;refine UnaryOp_ (AX (ha pins s σ H _ I h) λ v s1 ⟨x,H1,I1,r1,q1⟩=>?_);obtain⟨c,rfl,q1⟩:=q1;cases r1;exact not_of (wpAny_truthy_bool ⟨.bl (!c),H1,I1,rfl,q1⟩)
end
def DX (K:zb)(H:Hp)(a:Addr)(xs:List V):Prop:=
 Rd H a (.lst xs) \/
  ∃(o:Obj) (aa:Array Value) (n:Nat),K.lookup a=some o/\o.cls=.type "list" /\ o.dict=none/\o.data=.seq aa n/\aa.size<=sizeLine/\Vals xs aa.toList
def Lc (K:zb)(H:Hp)(a:Addr)(xs:List V):Prop:=
 Rd H a (.tup xs) \/
  ∃(o:Obj) (aa:Array Value) (n:Nat),K.lookup a=some o/\o.cls=.type "tuple" /\ o.data=.seq aa n/\aa.size<=sizeLine/\Vals xs aa.toList
noncomputable def Wg:Value->Option V
 | .none=>some .Ar
 | .bool b=>some (.bl b)
 | .int i _=>some (.int i)
 | .str x _=>some (.str x)
 | .bytes b _=>some (.Uu b)
 | .float b _=>some (.VV b)
 | .ref a=>some (.ref a)
 | .type n=>some (.ty n)
 |_=>none
theorem RelV.abs {x:V}{u:Value}(r:RelV x u):Wg u=some x:=by
 cases x with
 |Ar|bl _=>cases r;rfl
 |int _|str _|Uu _|VV _=>obtain⟨t,rfl⟩:=r;rfl
 |ref _|ty _=>cases r;rfl
theorem RelV.inj {x y:V}{u:Value}(r:RelV x u)(q:RelV y u):x=y:=zF (r.abs.symm.trans q.abs)
theorem Vals.inj:∀ {xs ys:List V}{us:List Value},Vals xs us->Vals ys us->xs=ys
 |_,_,_,.nil,.nil=>rfl
 |_,_,_,.cons r t,.cons r' t'=>by rw[r.inj r',Vals.inj t t']
section
variable {X:Cx}{pins:List (Addr×Obj)}{σ:St}{H:Hp}{s:Shared}{a:Addr}{xs ys:List V}
theorem DX.of {K:zb}(h:H a=some (.lst xs)):DX K H a xs:=.inl (.inl h)
theorem Lc.of {K:zb}(h:H a=some (.tup xs)):Lc K H a xs:=.inl (.inl h)
theorem Inv.list (I:Inv X pins σ H s)(h:DX X.K H a xs):∃aa:List Value,Vals xs aa/\PlainL s.heap a aa.toArray/\xs.length<=sizeLine:=by
 rcases h with h|⟨o,aa,n,hk,hc,hd,hs,hz,r⟩
 ·obtain⟨z,aa,n,r,e⟩:=h.ok I.AF;exact⟨aa,r,⟨_,n,e,rfl,rfl,rfl⟩,z⟩
 ·refine⟨aa.toList,r,⟨o,n,I.JQ a o hk,hc,hd,by simpa using hs⟩,?_⟩;have e:=r.length;simp only[yr] at e;omega
theorem Inv.tuple (I:Inv X pins σ H s)(h:Lc X.K H a xs):∃aa:List Value,Vals xs aa/\IsTup s.heap a aa.toArray/\xs.length<=sizeLine:=by
 rcases h with h|⟨o,aa,n,hk,hc,hs,hz,r⟩
 ·obtain⟨z,aa,r,p⟩:=h.ok I.AF;exact⟨aa,r,p,z⟩
 ·refine⟨aa.toList,r,⟨o,I.JQ a o hk,hc,n,by simpa using hs⟩,?_⟩;have e:=r.length;simp only[yr] at e;omega
theorem Inv.GC (I:Inv X pins σ H s)(h:DX X.K H a xs)(h':DX X.K H a ys):xs=ys:=by
 obtain⟨aa,r,⟨o,n,e,_,_,d⟩,_⟩:=I.list h;obtain⟨its',r',⟨o',n',e',_,_,d'⟩,_⟩:=I.list h';rw[e] at e';cases e';rw[d] at d';injection d' with d1 _
 have:aa=its':=by simpa using congrArg Array.toList d1
 subst this;exact r.inj r'
theorem Inv.Ie (I:Inv X pins σ H s)(h:Lc X.K H a xs)(h':Lc X.K H a ys):xs=ys:=by
 obtain⟨aa,r,⟨o,e,_,n,d⟩,_⟩:=I.tuple h;obtain⟨its',r',⟨o',e',_,n',d'⟩,_⟩:=I.tuple h';rw[e] at e';cases e';rw[d] at d';injection d' with d1 _
 have:aa=its':=by simpa using congrArg Array.toList d1
 subst this;exact r.inj r'
end
noncomputable abbrev Cx.HI (X:Cx)(E:Value->Shared->Prop):Cx:={X with xe:=E}
noncomputable abbrev Cx.UM (X:Cx):Cx:=X.HI λ _ _=>False
theorem Cx.Ok.HI {X:Cx}(ok:X.Ok)(E:Value->Shared->Prop):(X.HI E).Ok:=
 ⟨ok.mod,ok.kind,ok.glob,ok.blt,ok.above,ok.inj,ok.has,ok.Sf,ok.hd,ok.frames,ok.Le,ok.Qm,ok.bs,ok.NI,ok.JV,ok.IY,ok.DQ,ok.Qn⟩
theorem Cx.Ok.DY {X:Cx}{E:Value->Shared->Prop}(ok:(X.HI E).Ok):X.Ok:=
 ⟨ok.mod,ok.kind,ok.glob,ok.blt,ok.above,ok.inj,ok.has,ok.Sf,ok.hd,ok.frames,ok.Le,ok.Qm,ok.bs,ok.NI,ok.JV,ok.IY,ok.DQ,ok.Qn⟩
section
variable {X:Cx}{pins:List (Addr×Obj)}{σ:St}{H:Hp}{s:Shared}{E:Value->Shared->Prop}
theorem Inv.HI (I:Inv X pins σ H s)(E:Value->Shared->Prop):Inv (X.HI E) pins σ H s:=⟨I.ok.HI E,I.os,I.bare,I.base,I.loc,I.cell,I.free,I.BN,I.pin,I.AF,I.len⟩
theorem Inv.DY (I:Inv (X.HI E) pins σ H s):Inv X pins σ H s:=⟨I.ok.DY,I.os,I.bare,I.base,I.loc,I.cell,I.free,I.BN,I.pin,I.AF,I.len⟩
theorem SP.DY {D:Ends}{f:Flow}{s':Shared}(h:SP (X.HI E) pins D f s'):SP X pins D f s':=by
 cases f with
 |next|brk|cont=>obtain⟨σ',H',I,q⟩:=h;exact⟨σ',H',I.DY,q⟩
 |ret u=>obtain⟨v,σ',H',I,r,q⟩:=h;exact⟨v,σ',H',I.DY,r,q⟩
theorem MA.UM {st:List Stmt}{t:TS}(h:MA X.UM st t):MA X st t:=λ pins s σ H D I hw =>
 wpAny_mono (h pins s σ H D (I.HI _) hw) (λ _ _ q=>q.DY) λ _ _ z=>yq z
end
section
variable {X:Cx}{st:Stmt}{rest:List Stmt}{t u:TS}{e:Expr}{te:TE}{pos:Pos}
noncomputable def UN:TS:=λ D σ H=>D.nx σ H
noncomputable def Wh (t u:TS):TS:=λ D σ H=>t {D with nx:=u D} σ H
theorem Qr:MA X [] UN:=λ _ _ σ H _ I h=>wpAny_execs_nil ⟨σ,H,I,h⟩
theorem NM (h1:PS X st t)(h2:MA X rest u):MA X (st::rest) (Wh t u):=by
 intro pins s σ H D I h;refine wpAny_execs_cons (AX (h1 pins s σ H {D with nx:=u D} I h) λ f s1 q=>?_);cases f with
 |next =>
  obtain⟨σ',H',I',q⟩:=q;exact h2 pins s1 σ' H' D I' q
 |ret v|brk|cont=>exact q
theorem Qs (h1:PS X st t):MA X [st] t:=by
 intro pins s σ H D I h;refine wpAny_execs_cons (AX (h1 pins s σ H D I h) λ f s1 q=>?_);cases f with
 |next=>exact wpAny_execs_nil q
 |ret v|brk|cont=>exact q
theorem Inv.quiet {pins:List (Addr×Obj)}{σ:St}{H:Hp}{s:Shared}(I:Inv X pins σ H s):interactive X.env=false:=by simp[interactive,I.ok.kind]
noncomputable def UO (te:TE):TS:=λ D σ H=>te σ H λ _ H1=>D.nx σ H1
theorem Qt (he:PE X e te)(hs:swapsWith e none pos.line X.env=pure false:=by rfl):PS X (.Expr e pos) (UO te):=by
 intro pins s σ H D I h;exact wpAny_Expr_any (AX (he pins s σ H _ I h) λ v s1 ⟨x,H1,I1,r1,q1⟩=>⟨σ,H1,I1,q1⟩) I.quiet hs
noncomputable def Wi (te:TE):TS:=λ D σ H=>te σ H D.rt
theorem Lg (he:PE X e te):PS X (.Return (some e) pos) (Wi te):=by
 intro pins s σ H D I h;exact wpAny_Return_some (AX (he pins s σ H _ I h) λ v s1 ⟨x,H1,I1,r1,q1⟩=>⟨x,σ,H1,I1,r1,q1⟩)
noncomputable def Wj (c:TT)(t u:TS):TS:=λ D σ H=>c σ H λ b H1=>if b=true then t D σ H1 else u D σ H1
theorem UP {c:Expr}{a b:List Stmt}{tc:TT}(hc:PT X c tc)(ha:MA X a t)(hb:MA X b u):PS X (.If c a b pos) (Wj tc t u):=by
 intro pins s σ H D I h;refine wpAny_If (AX (hc pins s σ H _ I h) λ d s1 ⟨H1,I1,q1⟩=>?_);cases d with
 |true=>exact ha pins s1 σ H1 D I1 q1
 |false=>exact hb pins s1 σ H1 D I1 q1
end
noncomputable abbrev TG:=V->St->Hp->(St->Hp->Prop)->Prop
noncomputable abbrev Sg:=List V->St->Hp->(St->Hp->Prop)->Prop
def PG (X:Cx)(target:Expr)(t:TG):Prop:=
 ∀(pins:List (Addr×Obj)) (s:Shared) (σ:St) (H:Hp) (v:V) (u:Value) (Q:St->Hp->Prop),Inv X pins σ H s->RelV v u->t v σ H Q->
  wpAny (model X.prog X.w) X.A (assign target X.env u) (λ _ s'=>∃σ' H',Inv X pins σ' H' s'/\Q σ' H') X.xe s
def UQ (X:Cx)(ts:List Expr)(t:Sg):Prop:=
 ∀(pins:List (Addr×Obj)) (s:Shared) (σ:St) (H:Hp) (vs:List V) (us:List Value) (Q:St->Hp->Prop),Inv X pins σ H s->Vals vs us->t vs σ H Q->
  wpAny (model X.prog X.w) X.A (assignInOrder ((assignEach ts X.env).map (·.2)) us) (λ _ s'=>∃σ' H',Inv X pins σ' H' s'/\Q σ' H') X.xe s
section
variable {X:Cx}{pos:Pos}
noncomputable def JZ (i:Nat):TG:=λ v σ H Q=>Q (σ.set i (some v)) H
theorem J0 {i:Nat}{x:Str}(hN:X.N.Nodup)(hi:X.N[i]?=some x)(hx:Loc X.env.scope x)(hf:X.fn x=true\/X.env.scope.names.lookup x=some .local:=by first | exact .inl rfl | exact .inr rfl | assumption):PG X (.Name x pos) (JZ i):=by
 intro pins s σ H v u Q I r h;exact wpAny_assign_Name (Fi I hN hi hx r (λ s' I'=>⟨_,H,I',h⟩) hf)
noncomputable def Wk:Sg:=λ vs σ H Q=>vs=[]/\Q σ H
noncomputable def UR (t:TG)(u:Sg):Sg:=λ vs σ H Q=>∃v r,vs=v::r/\t v σ H λ σ' H'=>u r σ' H' Q
theorem Qu:UQ X [] Wk:=by
 intro pins s σ H vs us Q I r h;obtain⟨e,h⟩:=h;subst e;cases r;exact assignInOrder_nil ⟨σ,H,I,h⟩
theorem NN {e:Expr}{es:List Expr}{t:TG}{u:Sg}(h1:PG X e t)(h2:UQ X es u)
 (hs:(assignEach (e::es) X.env).map (·.2)=assign e X.env::(assignEach es X.env).map (·.2):=by rfl):UQ X (e::es) (UR t u):=by
 intro pins s σ H vs us Q I r h;obtain⟨v,vr,e1,h⟩:=h;subst e1;cases r with
 |cons r rr =>
  rw[hs];refine assignInOrder_cons (AX (h1 pins s σ H _ _ _ I r h) λ _ s1 ⟨σ1,H1,I1,q1⟩=>?_);exact h2 pins s1 σ1 H1 _ _ Q I1 rr q1
noncomputable def Wl (K:zb)(n:Nat)(t:Sg):TG:=λ v σ H Q=>∃a xs,v=.ref a/\Lc K H a xs/\xs.length=n/\t xs σ H Q
theorem SU {es:List Expr}{k:Nat}{t:Sg}{n:Nat}(hc:X.calm=true)(h:UQ X es t)
 (hn:(assignEach es X.env).length=n:=by rfl) (cU:(assignEach es X.env).findIdx? (·.1)=none:=by rfl):PG X (.Tuple es k pos) (Wl X.K n t):=by
 intro pins s σ H v u Q I r hw;obtain⟨a,xs,e1,hq,hl,hw⟩:=hw;subst e1;cases r;obtain⟨aa,rv,ht,hz⟩:=I.tuple hq;refine assign_Tuple_tuple (I.ok.hd hc) ht (by simp[hn,<-hl,rv.length]) cU λ h' hx=>?_;have I1:Inv X pins σ H {s with heap:=h' }:=I.kept (t':=s.toks) λ b o e=>hx b o (zG (zk e)) e;exact h pins _ σ H xs _ Q I1 (by simpa using rv) hw
noncomputable def Wm (te:TE)(g:TG):TS:=λ D σ H=>te σ H λ x H1=>g x σ H1 D.nx
theorem NO {i:Nat}{x:Str}{e:Expr}{te:TE}{pos':Pos}(hN:X.N.Nodup)(hi:X.N[i]?=some x)(hx:Loc X.env.scope x)(he:PE X e te)(hs:swapsWith e (some (.Name x pos')) pos.line X.env=pure false:=by rfl)(hf:X.fn x=true\/X.env.scope.names.lookup x=some .local:=by first | exact .inl rfl | exact .inr rfl | assumption):
 PS X (.Assign [.Name x pos'] e pos) (Wm te (JZ i)):=by
 intro pins s σ H D I h;refine wpAny_Assign_Name (AX (he pins s σ H _ I h) λ v s1 ⟨y,H1,I1,r1,q1⟩=>?_) hs;exact Fi I1 hN hi hx r1 (λ s2 I2=>⟨_,H1,I2,q1⟩) hf
end
structure It where
 go:Nat->Hp->Prop
 Qv:Nat->Hp->V->Hp->Prop
 stop:Nat->Hp->Prop
def ET (X:Cx)(pins:List (Addr×Obj))(H:Hp)(b:Addr):Prop:=
 H b=none/\b≠X.env.locals/\b∉X.fs/\(b∈X.ex\/X.s₀.heap.objs.size<=b)/\(∀x c,X.env.cells.lookup x=some c->c≠b)/\∀p∈X.pn++pins,p.1≠b
theorem Inv.SV {X:Cx}{pins:List (Addr×Obj)}{σ:St}{H H':Hp}{s:Shared}{b:Addr}(I:Inv X pins σ H s)(hb:s.heap.objs.size<=b)(hn:H' b=none):ET X pins H' b:=by
 refine⟨hn,Nat.ne_of_gt (zt I.lt hb),I.Wb hb,.inr (zD I.sz hb),λ x c e z=>?_,λ p hp z=>?_⟩
 ·obtain⟨v,q⟩:=I.cell x c e;exact absurd (zt q.lt (by rw[z];exact hb)) (Nat.lt_irrefl _)
 ·exact absurd (zt (zk (I.pin p hp).1) (by rw[z];exact hb)) (Nat.lt_irrefl _)
structure Turn (P:Program)(w:World)(K:zb)(tg:Expr)(J:It)(fp:List Addr)(it:Addr)(tn:Nat->Heap->Prop):Prop where
 mem:it∈fp
 obj:∀i h,tn i h->∀b∈fp,∃o,h.get? b=some o/\∀v,o.data≠.cell v
 keep:∀i h h',tn i h->(∀b∈fp,∀o,h.get? b=some o->h'.get? b=some o)->tn i h'
 item:∀(X:Cx),X.prog=P->X.w=w->X.K=K->X.calm=true->∀(i:Nat) (pins:List (Addr×Obj)) (s:Shared) (σ:St) (H:Hp) (E:Value->Shared->Prop),Inv X pins σ H s->(∀b∈fp,ET X pins H b)->tn i s.heap->J.go i H->
  wpAny (model P w) X.A (pyNext (.ref it)) (λ r s1=>∃u,r=some u/\
   wpAny (model P w) X.A (letOwnedTupleGo tg (.ref it) u) (λ _ s2=>∃x H',Inv X pins σ H' s2/\RelV x u/\J.Qv i H x H'/\tn (i+1) s2.heap/\∀b∈fp,H' b=none) E s1) E s
 done:∀(X:Cx),X.prog=P->X.w=w->X.K=K->X.calm=true->∀(i:Nat) (pins:List (Addr×Obj)) (s:Shared) (σ:St) (H:Hp) (E:Value->Shared->Prop),Inv X pins σ H s->(∀b∈fp,ET X pins H b)->tn i s.heap->J.stop i H->
  wpAny (model P w) X.A (pyNext (.ref it)) (λ r s1=>r=none/\Inv X pins σ H s1) E s
 self:∀(A:Around) (i:Nat) (s:Shared) (Q:Value->Shared->Prop) (E:Value->Shared->Prop),tn i s.heap->Q (.ref it) s->wpAny (model P w) A (pyIter (.ref it)) Q E s
noncomputable abbrev TI:=St->Hp->(It->Hp->Prop)->Prop
def X7 (X:Cx)(pins:List (Addr×Obj))(σ:St)(tg:Expr)(R:It->Hp->Prop)(dO:Value)(s2:Shared):Prop:=
 ∃(it:Addr) (fp:List Addr) (tn:Nat->Heap->Prop) (J:It) (H':Hp),dO=.ref it/\Inv X pins σ H' s2/\Turn X.prog X.w X.K tg J fp it tn/\tn 0 s2.heap/\(∀b∈fp,ET X pins H' b)/\R J H'
def PI (X:Cx)(tg iter:Expr)(wi:TI):Prop:=
 ∀(pins:List (Addr×Obj)) (s:Shared) (σ:St) (H:Hp) (R:It->Hp->Prop),Inv X pins σ H s->wi σ H R->
  wpAny (model X.prog X.w) X.A (eval iter X.env) (λ v s1=>wpAny (model X.prog X.w) X.A (pyIter v) (X7 X pins σ tg R) X.xe s1) X.xe s
theorem NP {M:Model}{A:Around}{E:Value->Shared->Prop}{s:Shared}{tg:Expr}{it:Addr}{u:Value}{o:Obj}{n:String}{vs:Array Value}{Q:Unit->Shared->Prop}(ho:s.heap.get? it=some o)(hc:o.cls=.type n)(hd:o.data=.fields vs)
 (hn:["enumerate","zip","dict_itemiterator","dict_reverseitemiterator","odict_iterator","itertools.zip_longest","itertools.pairwise"].contains n=false) (hQ:Q () s):wpAny M A (letOwnedTupleGo tg (.ref it) u) Q E s:=by
 unfold letOwnedTupleGo;cases tg<;>first
  |exact wpAny_pure hQ
  |(cases u<;>first
   |exact wpAny_pure hQ
   |(
    refine wpAny_bind (wpAny_load ho ?_);rw[hc,hd];show wpAny M A (if (["enumerate","zip","dict_itemiterator","dict_reverseitemiterator","odict_iterator","itertools.zip_longest","itertools.pairwise"].contains n&&vs[0]?== some (rawInt _))=true then _ else _) Q E s;rw[if_neg (by intro h;rw[hn,Bool.false_and] at h;cases h)];exact wpAny_pure hQ))
noncomputable def X8 (K:zb)(a:Addr):It:=
 ⟨λ i H=>∃xs x,DX K H a xs/\xs[i]?=some x,λ i H x H'=>H'=H/\∀xs,DX K H a xs->xs[i]?=some x,λ i H=>∃xs,DX K H a xs/\xs.length<=i⟩
noncomputable def VY (lo:Int)(n:Nat):It:=⟨λ i _=>i<n,λ i H x H'=>H'=H/\x=.int (lo+i),λ i _=>n<=i⟩
theorem MB {P:Program}{w:World}{K:zb}{tg:Expr}(a it:Addr):Turn P w K tg (X8 K a) [it] it (λ i h=>h.IsListIter it a i) where
 mem:=by simp
 obj:=λ i h st b hb=>by
  have e:b=it:=by simpa using hb
  subst e;obtain⟨o,e,c,d⟩:=st;exact⟨o,e,λ v z=>by rw[d] at z;cases z⟩
 keep:=λ i h h' st k=>st.at λ o e=>k it (by simp) o e
 item:=by
  intro X hP hw hK hc i pins s σ H E I hf st hg;subst hP hw hK;obtain⟨xs,x,hq,hx⟩:=hg;obtain⟨aa,rv,p,hz⟩:=I.list hq;obtain⟨u,hu,ru⟩:=rv.get hx;obtain⟨f0,f1,f2,f3,f4,f5⟩:=hf it (by simp);refine wpAny_pyNext_list_item st p.isList (x:=u) (by simpa using hu) λ h' bS sb=>?_;have I1:Inv X pins σ H {s with heap:=h' }:=I.turned (t':=s.toks) (λ b o hb e=>(sb.2 b hb).trans e) f0 f1 f3 f4 f5;obtain⟨o,e,c,d⟩:=id bS;exact⟨u,rfl,NP (s:={s with heap:=h' }) e c d (by decide) ⟨x,H,I1,ru,⟨rfl,λ ys hy=>by rw[I.GC hy hq];exact hx⟩,bS,λ b hb=>(hf b hb).1⟩⟩
 done:=by
  intro X hP hw hK hc i pins s σ H E I hf st hg;subst hP hw hK;obtain⟨xs,hq,hx⟩:=hg;obtain⟨aa,rv,p,hz⟩:=I.list hq;obtain⟨f0,f1,f2,f3,f4,f5⟩:=hf it (by simp);have hl:=rv.length;exact wpAny_pyNext_list_end (I.ok.hd hc) st p.isList (by simp;omega) λ h' eb=>⟨rfl,I.turned (t':=s.toks) (λ b o hb e=>eb b o hb e) f0 f1 f3 f4 f5⟩
 self:=λ _ _ _ _ _ st h=>wpAny_pyIter_listiter st h
theorem Lh {P:Program}{w:World}{K:zb}{tg:Expr}(it:Addr)(lo:Int)(n:Nat):Turn P w K tg (VY lo n) [it] it (λ i h=>IsRangeIter h it (lo+(i:Nat)*1) ((n:Int)-(i:Nat)) 1) where
 mem:=by simp
 obj:=λ i h st b hb=>by
  have e:b=it:=by simpa using hb
  subst e;exact⟨_,st,λ v z=>by
   have z':Data.fields _=Data.cell v:=z;cases z'⟩
 keep:=λ i h h' st k=>k it (by simp) _ st
 item:=by
  intro X hP hw hK hc i pins s σ H E I hf st hg;subst hP hw hK;obtain⟨f0,f1,f2,f3,f4,f5⟩:=hf it (by simp);have W:=Walks.range (prog:=X.prog) (w:=X.w) (I.ok.hd hc) it lo 1 n;refine W.item i s _ _ hg st λ v h' tk hv bS kk=>?_;obtain⟨t,rfl⟩:=hv;have I1:Inv X pins σ H {s with heap:=h',toks:=tk}:=I.turned (λ b o hb e=>kk b o (by simpa using hb) e) f0 f1 f3 f4 f5;refine⟨_,rfl,NP (s:={s with heap:=h',toks:=tk}) (n := "range_iterator") bS rfl rfl (by decide) ⟨.int (lo+i),H,I1,⟨t,?_⟩,⟨rfl,rfl⟩,bS,λ b hb=>(hf b hb).1⟩⟩;rw[Int.mul_one]
 done:=by
  intro X hP hw hK hc i pins s σ H E I hf st hg;subst hP hw hK;obtain⟨f0,f1,f2,f3,f4,f5⟩:=hf it (by simp);exact wpAny_pyNext_range_end (I.ok.hd hc) st (by have:n<=i:=hg;omega) λ h' eb=>⟨rfl,I.turned (t':=s.toks) (λ b o hb e=>eb b o hb e) f0 f1 f3 f4 f5⟩
 self:=λ _ _ _ _ _ st h=>wpAny_pyIter_rangeiter st h
section
variable {X:Cx}{tg:Expr}
noncomputable def US (K:zb)(tl:TE):TI:=λ σ H R=>tl σ H λ x H1=>∃a,x=.ref a/\(∃xs,DX K H1 a xs)/\R (X8 K a) H1
theorem Qw {l:Expr}{tl:TE}(hl:PE X l tl):PI X tg l (US X.K tl):=by
 intro pins s σ H R I h;refine AX (hl pins s σ H _ I h) λ v s1 ⟨x,H1,I1,r1,q1⟩=>?_;obtain⟨a,e,⟨xs,hq⟩,q⟩:=q1;subst e;cases r1;obtain⟨aa,rv,p,hz⟩:=I1.list hq;refine wpAny_pyIter_list p.isList ?_;refine⟨s1.heap.objs.size,[s1.heap.objs.size],_,_,H1,rfl,I1.kept (t':=s1.toks) λ b o e=>zw _ e,MB a _,⟨_,zQ _ rfl,rfl,rfl⟩,λ b hb=>?_,q⟩;have e:b=s1.heap.objs.size:=by simpa using hb
 subst e;exact I1.SV (zv _) (I1.AF.fresh (zv _))
theorem NQ {pins:List (Addr×Obj)}{σ:St}{H:Hp}{s:Shared}{R:It->Hp->Prop}{E:Value->Shared->Prop}{lo hi:Int}{t u v:Tok}{tk:Nat}(I:Inv X pins σ H s)(h1 : -(2^62)<=lo)(h2:lo<2^62)(h3 : -(2^62)<=hi)(h4:hi<2^62)
 (q:R (VY lo (hi-lo).toNat) H):wpAny (model X.prog X.w) X.A (pyIter (.ref s.heap.objs.size)) (X7 X pins σ tg R) E {s with heap:=s.heap.push {cls:=.type "range",data:=.fields #[.int lo t,.int hi u,.int 1 v]},toks:=tk}:=by
 refine wpAny_pyIter_range (IsRange.new ..) (small_one h1 h2 h3 h4) ?_;have I1:Inv X pins σ H {s with heap:=s.heap.push {cls:=.type "range",data:=.fields #[.int lo t,.int hi u,.int 1 v]},toks:=tk}:=I.kept λ b o e=>zw _ e;refine⟨(s.heap.push {cls:=.type "range",data:=.fields #[.int lo t,.int hi u,.int 1 v]}).objs.size,[(s.heap.push {cls:=.type "range",data:=.fields #[.int lo t,.int hi u,.int 1 v]}).objs.size],_,_,H,rfl,
  I1.kept (t':=tk) λ b o e=>zw _ e,Lh _ lo (hi-lo).toNat,?_,λ b hb=>?_,q⟩
 ·have e1:lo+((0:Nat):Int)*1=lo:=by simp
  have e2:(((hi-lo).toNat:Nat):Int)-((0:Nat):Int)=Builtin.Range.rangeSize lo hi 1:=by rw[rangeSize_one];split<;>omega
  show IsRangeIter _ _ (lo+((0:Nat):Int)*1) ((((hi-lo).toNat:Nat):Int)-((0:Nat):Int)) 1;rw[e1,e2];exact zQ _ rfl
 ·have e:b=(s.heap.push {cls:=.type "range",data:=.fields #[.int lo t,.int hi u,.int 1 v]}).objs.size:=by simpa using hb
  subst e;exact I1.SV (zv _) (I1.AF.fresh (zv _))
noncomputable def UT (ta:TA):TI:=λ σ H R=>ta σ H λ vs H1=>∃j:Int,vs=[.int j]/\-(2^62)<=j/\j<2^62/\R (VY 0 j.toNat) H1
theorem MC {a:Expr}{ta:TA}{p pos:Pos}(hg:Gl X "range")(hm:X.mg "range" = none)(ha:PA X [a] ta)(hs:starEach [a] X.env=[(false,eval a X.env)]:=by rfl):PI X tg (.Call (.Name "range" p) [a] [] pos) (UT ta):=by
 intro pins s σ H R I h;refine Call_ (IZ I hg hm boot_range (PyProof.Rows.callWith_type1 (AX (ha pos pins s σ H _ I h) λ us s1 ⟨vs,H1,I1,r1,q1⟩=>?_) hs rfl));obtain⟨j,e,q1,q2,q⟩:=q1;subst e;cases r1 with
 |cons r rr =>
  cases rr;obtain⟨t,rfl⟩:=r;exact call_range_1 (NQ I1 (by omega) (by omega) q1 q2 (by simpa using q))
noncomputable def Wn (wi:TI)(g:TG)(tb:TS):TS:=λ D σ H=>wi σ H λ J H1=>∃W:Nat->Nat->St->Hp->Prop,(∃m,W 0 m σ H1)/\∀i m σ H,W i m σ H->
 (J.stop i H/\D.nx σ H)\/(J.go i H/\∃N:St->Hp->Prop,(∀σ' H',N σ' H'->∃m',m'<m/\W (i+1) m' σ' H')/\∀x H',J.Qv i H x H'->g x σ H' λ σ2 H2=>tb {D with nx:=N,ct:=N,bk:=D.nx} σ2 H2)
noncomputable def CS (fp:List Addr)(h:Heap):List (Addr×Obj):=fp.filterMap λ b=>(h.get? b).map λ o=>(b,o)
theorem BO {fp:List Addr}{h:Heap}{b:Addr}{o:Obj}(hb:b∈fp)(e:h.get? b=some o):(b,o)∈CS fp h:=List.mem_filterMap.mpr ⟨b,hb,by rw[e];rfl⟩
theorem FU {fp:List Addr}{h:Heap}{p:Addr×Obj}(hp:p∈CS fp h):p.1∈fp/\h.get? p.1=some p.2:=by
 obtain⟨b,hb,e⟩:=List.mem_filterMap.mp hp;cases q:h.get? b with
 |none=>rw[q] at e;cases e
 |some o =>
  rw[q] at e;have e':(b,o)=p:=zF e;subst e';exact⟨hb,q⟩
theorem Inv.pinned {pins:List (Addr×Obj)}{σ:St}{H:Hp}{s:Shared}{fp:List Addr}(I:Inv X pins σ H s)(hf:∀b∈fp,ET X pins H b)(ho:∀b∈fp,∃o,s.heap.get? b=some o/\∀v,o.data≠.cell v):Inv X (pins++CS fp s.heap) σ H s:=
 I.CL λ p hp=>(zy.mp hp).elim (λ z=>I.pin p (zh _ z)) λ z=>by
  obtain⟨hb,e⟩:=FU z;obtain⟨f0,f1,f2,_⟩:=hf p.1 hb;obtain⟨o,e',d⟩:=ho p.1 hb;rw[e] at e';cases e';exact⟨e,f0,f1,f2,d⟩
theorem Inv.DZ {pins pl:List (Addr×Obj)}{σ:St}{H:Hp}{s:Shared}(I:Inv X (pins++pl) σ H s):Inv X pins σ H s:=I.CL λ p hp=>I.pin p (zh _ (zK _ hp))
theorem SW {iter:Expr}{body:List Stmt}{wi:TI}{g:TG}{tb:TS}{pos:Pos}(hp:PassesOwn (model X.prog X.w) X.A X.env X.xe)(hc:X.calm=true)(hi:PI X tg iter wi)(hg:PG X tg g)(hb:MA X body tb)
 (hs:∀x,foldedSetIterable iter X.env x=pure x:=by intro _;rfl):PS X (.For tg iter body [] pos) (Wn wi g tb):=by
 intro pins s σ H D I h;refine wpAny_For (AX (hi pins s σ H _ I h) λ v s1 h1=>AX h1 λ dO s2 h2=>?_) hs;obtain⟨it,fp,tn,J,H2,e,I2,T,bD,f2,W,⟨m0,w0⟩,turn⟩:=h2;subst e;have aU:∀ {H':Hp},(∀b∈fp,H' b=none)->∀b∈fp,ET X pins H' b:=λ hn b hb=>⟨hn b hb,(f2 b hb).2⟩;refine codeAny_forLoop_any (λ n s'=>∃i σ' H',Inv X pins σ' H' s'/\tn i s'.heap/\(∀b∈fp,H' b=none)/\W i n σ' H') ?_ m0 ⟨0,σ,H2,I2,bD,λ b hb=>(f2 b hb).1,w0⟩;rintro n s3 ⟨i,σ3,H3,I3,cP,cQ,w3⟩;rcases turn i n σ3 H3 w3 with ⟨stop,qn⟩|⟨go,N,hN,step⟩
 ·refine wpAny_passesOwn hp (AX (T.done X rfl rfl rfl hc i pins s3 σ3 H3 X.xe I3 (aU cQ) cP stop) λ r s4 ⟨hr,I4⟩=>?_);subst hr;exact wpAny_execs_nil ⟨σ3,H3,I4,qn⟩
 ·refine wpAny_passesOwn hp (AX (T.item X rfl rfl rfl hc i pins s3 σ3 H3 X.xe I3 (aU cQ) cP go) λ r s4 ⟨u,hr,h4⟩=>?_);subst hr;refine wpAny_passesOwn hp (AX h4 λ _ s5 ⟨x,H5,I5,r5,y5,bV,dP⟩=>?_);have dQ:=I5.pinned (aU dP) (T.obj _ _ bV);refine wpAny_passesOwn hp (AX (hg _ s5 σ3 H5 x u _ dQ r5 (step x H5 y5)) λ _ s6 ⟨σ6,H6,I6,q6⟩=>?_);refine wpAny_passesOwn hp (AX (hb _ s6 σ6 H6 _ I6 q6) λ f s7 q7=>?_);have again:∀ {σ7:St} {H7:Hp},Inv X (pins++CS fp s5.heap) σ7 H7 s7->N σ7 H7->∃m,m<n/\∃i σ' H',Inv X pins σ' H' s7/\tn i s7.heap/\(∀b∈fp,H' b=none)/\W i m σ' H':=fun {σ7 H7} I7 n7=>by
   obtain⟨m',hm,w7⟩:=hN σ7 H7 n7;refine⟨m',hm,i+1,σ7,H7,I7.DZ,T.keep _ _ _ bV λ b hb o e=>(I7.pin (b,o) (zh _ (zh _ (BO hb e)))).1,λ b hb=>?_,w7⟩;obtain⟨o,e,d⟩:=T.obj _ _ bV b hb;exact (I7.pin (b,o) (zh _ (zh _ (BO hb e)))).2.1
  cases f with
  |next|cont=>obtain⟨σ7,H7,I7,n7⟩:=q7;exact again I7 n7
  |brk=>obtain⟨σ7,H7,I7,q7⟩:=q7;exact⟨σ7,H7,I7.DZ,q7⟩
  |ret v=>obtain⟨x7,σ7,H7,I7,r7,q7⟩:=q7;exact⟨x7,σ7,H7,I7.DZ,r7,q7⟩
end
noncomputable abbrev R2:=V->V->Hp->VK->Prop
def DV (X:Cx)(f:Value->Value->Sem Value)(r:R2):Prop:=
 ∀(pins:List (Addr×Obj)) (s:Shared) (σ:St) (H:Hp) (x y:V) (v u:Value) (Q:VK),Inv X pins σ H s->RelV x v->RelV y u->r x y H Q->
  wpAny (model X.prog X.w) X.A (f v u) (EP X pins σ Q) X.xe s
def Wo (X:Cx)(f:Value->Sem Value)(r:V->Hp->VK->Prop):Prop:=
 ∀(pins:List (Addr×Obj)) (s:Shared) (σ:St) (H:Hp) (x:V) (v:Value) (Q:VK),Inv X pins σ H s->RelV x v->r x H Q->
  wpAny (model X.prog X.w) X.A (f v) (EP X pins σ Q) X.xe s
def E6 (X:Cx)(f:Value)(r:List V->Hp->VK->Prop):Prop:=
 ∀(pins:List (Addr×Obj)) (s:Shared) (σ:St) (H:Hp) (xs:List V) (us:List Value) (Q:VK),Inv X pins σ H s->Vals xs us->r xs H Q->
  wpAny (model X.prog X.w) X.A (call f us) (EP X pins σ Q) X.xe s
def Wq (X:Cx)(r:V->Hp->(Bool->Hp->Prop)->Prop):Prop:=
 ∀(pins:List (Addr×Obj)) (s:Shared) (σ:St) (H:Hp) (x:V) (v:Value) (Q:Bool->Hp->Prop),Inv X pins σ H s->RelV x v->r x H Q->
  wpAny (model X.prog X.w) X.A (truthy v) (TP X pins σ Q) X.xe s
noncomputable def SX (r:R2)(ta tb:TE):TE:=λ σ H Q=>ta σ H λ x H1=>tb σ H1 λ y H2=>r x y H2 Q
noncomputable def XB (r:V->Hp->VK->Prop)(ta:TE):TE:=λ σ H Q=>ta σ H λ x H1=>r x H1 Q
noncomputable def rI (C:Int->Int->Prop)(g:Int->Int->V):R2:=λ x y H Q=>∃i j,x=.int i/\y=.int j/\C i j/\Q (g i j) H
noncomputable def MD (g:Int->Int->V):R2:=λ x y H Q=>∃i j,x=.int i/\y=.int j/\Q (g i j) H
def rU (g:Int->V):V->Hp->VK->Prop:=λ x H Q=>∃i,x=.int i/\Q (g i) H
section
variable {X:Cx}{a b c:Expr}{ta tb tc:TE}{pos:Pos}
theorem Qx (ha:PE X a ta)(hb:PE X b tb){pins:List (Addr×Obj)}{s:Shared}{σ:St}{H:Hp}{R:V->V->Hp->Prop}(I:Inv X pins σ H s)
 (h:ta σ H λ x H1=>tb σ H1 λ y H2=>R x y H2) {Q:Value->Shared->Prop} {f:Value->Value->Sem Value}
 (hf:∀v u s2 x y H2,Inv X pins σ H2 s2->RelV x v->RelV y u->R x y H2->wpAny (model X.prog X.w) X.A (f v u) Q X.xe s2):
 wpAny (model X.prog X.w) X.A (eval a X.env) (λ v s₁=>wpAny (model X.prog X.w) X.A (eval b X.env) (λ u s₂=>wpAny (model X.prog X.w) X.A (f v u) Q X.xe s₂) X.xe s₁) X.xe s:=by
 refine AX (ha pins s σ H _ I h) λ v s1 ⟨x,H1,I1,r1,q1⟩=>?_;refine AX (hb pins s1 σ H1 _ I1 q1) λ u s2 ⟨y,H2,I2,r2,q2⟩=>?_;exact hf v u s2 x y H2 I2 r1 r2 q2
theorem Sh {op:Operator}{r:R2}(ho:DV X (binaryOp op) r)(ha:PE X a ta)(hb:PE X b tb):PE X (.BinOp a op b pos) (SX r ta tb):=by
 intro pins s σ H Q I h;exact wpAny_BinOp (Qx ha hb I h λ v u s2 x y H2 I2 rx ry q=>ho pins s2 σ H2 x y v u Q I2 rx ry q)
theorem UU {op:UnaryOp}{r:V->Hp->VK->Prop}(ho:Wo X (unaryOp op) r)(ha:PE X a ta):PE X (.UnaryOp op a pos) (XB r ta):=by
 intro pins s σ H Q I h;exact UnaryOp_ (AX (ha pins s σ H _ I h) λ v s1 ⟨x,H1,I1,r1,q1⟩=>ho pins s1 σ H1 x v Q I1 r1 q1)
theorem UW {f:Value->Value->Sem Value}{C:Int->Int->Prop}{g:Int->Int->Int}
 (rule:∀(i j:Int) (t u:Tok) (s:Shared) (Q:Value->Shared->Prop) (E:Value->Shared->Prop),C i j->Q (.int (g i j) s.toks) {s with toks:=s.toks+1}->wpAny (model X.prog X.w) X.A (f (.int i t) (.int j u)) Q E s):
 DV X f (rI C λ i j=>.int (g i j)):=by
 intro pins s σ H x y v u Q I rx ry h;obtain⟨i,j,rfl,rfl,hc,q⟩:=h;obtain⟨t,rfl⟩:=rx;obtain⟨t',rfl⟩:=ry;exact rule i j t t' s _ _ hc ⟨.int (g i j),H,I.tok _,⟨_,rfl⟩,q⟩
theorem UX {f:Value->Value->Sem Value}{g:Int->Int->Int}
 (rule:∀(i j:Int) (t u:Tok) (s:Shared) (Q:Value->Shared->Prop) (E:Value->Shared->Prop),Q (.int (g i j) s.toks) {s with toks:=s.toks+1}->wpAny (model X.prog X.w) X.A (f (.int i t) (.int j u)) Q E s):
 DV X f (MD λ i j=>.int (g i j)):=by
 intro pins s σ H x y v u Q I rx ry h;obtain⟨i,j,rfl,rfl,q⟩:=h;obtain⟨t,rfl⟩:=rx;obtain⟨t',rfl⟩:=ry;exact rule i j t t' s _ _ ⟨.int (g i j),H,I.tok _,⟨_,rfl⟩,q⟩
theorem Qy {f:Value->Value->Sem Value}{g:Int->Int->Bool}
 (rule:∀(i j:Int) (t u:Tok) (s:Shared) (Q:Value->Shared->Prop) (E:Value->Shared->Prop),Q (.bool (g i j)) s->wpAny (model X.prog X.w) X.A (f (.int i t) (.int j u)) Q E s):
 DV X f (MD λ i j=>.bl (g i j)):=by
 intro pins s σ H x y v u Q I rx ry h;obtain⟨i,j,rfl,rfl,q⟩:=h;obtain⟨t,rfl⟩:=rx;obtain⟨t',rfl⟩:=ry;exact rule i j t t' s _ _ ⟨.bl (g i j),H,I,rfl,q⟩
def NR (i j:Int):Prop:=0<j/\j<1073741824
def Qz (i j:Int):Prop:=0<=j/\j<=1000000/\i.natAbs<2^64
def NS (i j:Int):Prop:=(-(2^64)<i/\i<2^64)\/(-(2^64)<j/\j<2^64)
theorem NS.ok {i j:Int}(h:NS i j):IntMulOk i j:=by
 rcases h with ⟨h1,h2⟩|⟨h1,h2⟩
 ·exact .of_left (intBits_le_64 h1 h2)
 ·exact .of_right (intBits_le_64 h1 h2)
theorem SY:DV X (binaryOp .Add) (MD λ i j=>.int (i+j)):=UX λ _ _ _ _ _ _ _ q=>add_int q
theorem T6:DV X (binaryOp .Sub) (MD λ i j=>.int (i-j)):=UX λ _ _ _ _ _ _ _ q=>sub_int q
theorem QA:DV X (binaryOp .FloorDiv) (rI NR λ i j=>.int (i / j)):=UW λ i j _ _ _ _ _ hc q=>by
 have h1:(0:Int)<j:=hc.1;have h2:j<1073741824:=hc.2;exact floordiv_int (by omega) (by rw[Int.fdiv_eq_ediv_of_nonneg i (by omega)];exact q) (.inl (PyProof.noPylong_small (by omega)))
theorem T7:DV X (binaryOp .Mod) (rI (λ _ j=>0<j) λ i j=>.int (i%j)):=UW λ i j _ _ _ _ _ hc q=>by
 have h1:(0:Int)<j:=hc;exact mod_int' (by omega) (by rw[Int.fmod_eq_emod_of_nonneg i (by omega)];exact q)
theorem T8:DV X (binaryOp .Pow) (rI Qz λ i j=>.int (i^j.toNat)):=UW λ _ _ _ _ _ _ _ hc q=>pow_int_small hc.1 hc.2.1 hc.2.2 q
theorem XC {f:Value->Sem Value}{g:Int->Int}
 (rule:∀(i:Int) (t:Tok) (s:Shared) (Q:Value->Shared->Prop) (E:Value->Shared->Prop),Q (.int (g i) s.toks) {s with toks:=s.toks+1}->wpAny (model X.prog X.w) X.A (f (.int i t)) Q E s):
 Wo X f (rU λ i=>.int (g i)):=by
 intro pins s σ H x v Q I rx h;obtain⟨i,rfl,q⟩:=h;obtain⟨t,rfl⟩:=rx;exact rule i t s _ _ ⟨.int (g i),H,I.tok _,⟨_,rfl⟩,q⟩
theorem T9:Wo X (unaryOp .USub) (rU λ i=>.int (-i)):=XC λ _ _ _ _ _ q=>neg_int q
end
section
variable {X:Cx}{a b c:Expr}{ta tb tc:TE}{pos:Pos}
theorem NT {pins:List (Addr×Obj)}{σ:St}{H:Hp}{s:Shared}{Q:VK}{k k':Bool}(I:Inv X pins σ H s)(q:Q (.bl k) H)(e:k=k'):EP X pins σ Q (.bool k') s:=by
 subst e;exact⟨.bl k,H,I,rfl,q⟩
theorem NU:DV X (compareOp .Lt) (MD λ i j=>.bl (decide (i<j))):=Qy λ _ _ _ _ _ _ _ q=>lt_int q
theorem K0:DV X (compareOp .LtE) (MD λ i j=>.bl (decide (i<=j))):=Qy λ _ _ _ _ _ _ _ q=>le_int q
theorem UY:DV X (compareOp .Gt) (MD λ i j=>.bl (decide (j<i))):=Qy λ _ _ _ _ _ _ _ q=>gt_int q
theorem UZ:DV X (compareOp .GtE) (MD λ i j=>.bl (decide (j<=i))):=Qy λ _ _ _ _ _ _ _ q=>ge_int q
theorem ME:DV X (compareOp .In) (λ x y H Q=>∃i j,x=.str i/\y=.str j/\Q (.bl (!(zE j i 0 j.length 1).isEmpty)) H):=by
 intro pins s σ H x y v u Q I rx ry h;obtain⟨i,j,rfl,rfl,q⟩:=h;obtain⟨t,rfl⟩:=rx;obtain⟨t',rfl⟩:=ry;exact in_str (NT I q rfl)
theorem J2:DV X (compareOp .NotIn) (λ x y H Q=>∃i j,x=.str i/\y=.str j/\Q (.bl (!(!(zE j i 0 j.length 1).isEmpty))) H):=by
 intro pins s σ H x y v u Q I rx ry h;obtain⟨i,j,rfl,rfl,q⟩:=h;obtain⟨t,rfl⟩:=rx;obtain⟨t',rfl⟩:=ry;exact notIn_str (NT I q rfl)
theorem E7 (b:Expr){op:CmpOp}(h:op≠.In:=by decide)(h2:op≠.NotIn:=by decide):behindInMarks op b=false:=by
 have e1:(op==CmpOp.In)=false:=by cases op<;>first|rfl|exact absurd rfl h
 have e2:(op==CmpOp.NotIn)=false:=by cases op<;>first|rfl|exact absurd rfl h2
 cases b<;>simp[behindInMarks,e1,e2]
theorem QB {op:CmpOp}{r:R2}(ho:DV X (compareOp op) r)(ha:PE X a ta)(hb:PE X b tb)(hm:behindInMarks op b=false):PE X (.Compare a [op] [b] pos) (SX r ta tb):=by
 intro pins s σ H Q I h;exact wpAny_Compare1 (Qx ha hb I h λ v u s2 x y H2 I2 rx ry q=>ho pins s2 σ H2 x y v u Q I2 rx ry q) hm
noncomputable def NV (t:TE):TT:=λ σ H Q=>t σ H λ x H'=>∃k,x=.bl k/\Q k H'
theorem QC {op:CmpOp}{r:R2}(ho:DV X (compareOp op) r)(ha:PE X a ta)(hb:PE X b tb)(hm:behindInMarks op b=false):PT X (.Compare a [op] [b] pos) (NV (SX r ta tb)):=by
 intro pins s σ H Q I h;refine wpAny_isTrue_Compare1 (AX (ha pins s σ H _ I h) λ v s1 ⟨x,H1,I1,r1,q1⟩=>AX (hb pins s1 σ H1 _ I1 q1) λ u s2 ⟨y,H2,I2,r2,q2⟩ =>
  AX (ho pins s2 σ H2 x y v u _ I2 r1 r2 q2) λ c s3 ⟨z,H3,I3,r3,k,e,q3⟩=>?_) hm
 subst e;cases r3;exact wpAny_truthy_bool ⟨H3,I3,q3⟩
noncomputable def NW (r r':R2)(ta tb tc:TE):TE:=λ σ H Q=>ta σ H λ x H1=>tb σ H1 λ y H2=>r x y H2 λ z H3=>∃k,z=.bl k/\
 (if k=true then tc σ H3 λ w' H4=>r' y w' H4 Q else Q (.bl false) H3)
theorem NX {op bE:CmpOp}{r r':R2}(ho:DV X (compareOp op) r)(bB:DV X (compareOp bE) r')(ha:PE X a ta)(hb:PE X b tb)(hc:PE X c tc)
 (hm:lastMarks [op,bE] [b,c]=false:=by with_unfolding_all rfl):PE X (.Compare a [op,bE] [b,c] pos) (NW r r' ta tb tc):=by
 intro pins s σ H Q I h;refine Compare_chain (AX (ha pins s σ H _ I h) λ v s1 ⟨x,H1,I1,r1,q1⟩=>chain_link (AX (hb pins s1 σ H1 _ I1 q1) λ u s2 ⟨y,H2,I2,r2,q2⟩ =>
  AX (ho pins s2 σ H2 x y v u _ I2 r1 r2 q2) λ d s3 ⟨z,H3,I3,r3,k,e,q3⟩=>?_)) hm
 subst e;cases r3;refine wpAny_truthy_bool ?_;cases k with
 |false=>exact ite_ff ⟨.bl false,H3,I3,rfl,q3⟩
 |true=>exact ite_tt (chain_last (AX (hc pins s3 σ H3 _ I3 q3) λ w' s4 ⟨z',H4,I4,r4,q4⟩=>bB pins s4 σ H4 y z' u w' Q I4 r2 r4 q4))
theorem NY {op bE:CmpOp}{r r':R2}(ho:DV X (compareOp op) r)(bB:DV X (compareOp bE) r')(ha:PE X a ta)(hb:PE X b tb)(hc:PE X c tc)
 (hm:lastMarks [op,bE] [b,c]=false:=by with_unfolding_all rfl):PT X (.Compare a [op,bE] [b,c] pos) (NV (NW r r' ta tb tc)):=by
 intro pins s σ H Q I h;refine isTrue_chain (AX (ha pins s σ H _ I h) λ v s1 ⟨x,H1,I1,r1,q1⟩=>test_link (AX (hb pins s1 σ H1 _ I1 q1) λ u s2 ⟨y,H2,I2,r2,q2⟩ =>
  AX (ho pins s2 σ H2 x y v u _ I2 r1 r2 q2) λ d s3 ⟨z,H3,I3,r3,k,e,q3⟩=>?_)) hm
 subst e;cases r3;refine wpAny_truthy_bool ?_;cases k with
 |false =>
  obtain⟨k',e',q'⟩:=q3;cases e';exact ite_ff ⟨H3,I3,q'⟩
 |true =>
  refine ite_tt (test_last (AX (hc pins s3 σ H3 _ I3 q3) λ w' s4 ⟨z',H4,I4,r4,q4⟩=>AX (bB pins s4 σ H4 y z' u w' _ I4 r2 r4 q4) λ d' s5 ⟨z2,H5,I5,r5,k2,e2,q5⟩=>?_));subst e2;cases r5;exact wpAny_truthy_bool ⟨H5,I5,q5⟩
def V0 (K:zb)(x:V)(H:Hp)(k:Bool):Prop:=
 match x with
 | .Ar=>k=false
 | .bl b=>k=b
 | .int i=>k=(i != 0)
 | .str y=>y.length<=sizeLine/\k=((y.length:Int) != 0)
 | .Uu y=>y.size<=sizeLine/\k=((y.size:Int) != 0)
 | .ref p=>(∃xs,DX K H p xs/\k = !xs.isEmpty)\/(∃xs,Lc K H p xs/\k = !xs.isEmpty)\/∃kvs,H p=some (.dK kvs)/\k = !kvs.isEmpty
 |_=>False
theorem Li {κ:Type}{kvs:List (κ×V)}{vs:List (κ×Value)}(r:KV kvs vs):(!vs.isEmpty) = !kvs.isEmpty:=by
 cases r<;>rfl
theorem GD {xs:List V}{aa:List Value}(r:Vals xs aa):(!aa.toArray.isEmpty) = !xs.isEmpty:=by
 cases r<;>simp
theorem GF:(sizeLine:Nat)<2^63:=by rw[sizeLine_eq];decide
theorem Ta:Wq X (λ x H Q=>∃k,V0 X.K x H k/\Q k H):=by
 intro pins s σ H x v Q I rx h;obtain⟨k,e,q⟩:=h;have hl:=GF;have hs:sizeLine=16777216:=sizeLine_eq;cases x with
 |Ar =>
  cases rx;have e':k=false:=e;subst e';exact truthy_none ⟨H,I,q⟩
 |bl b =>
  cases rx;have e':k=b:=e;subst e';exact wpAny_truthy_bool ⟨H,I,q⟩
 |int i =>
  obtain⟨t,rfl⟩:=rx;have e':k=(i != 0):=e;subst e';exact PySem.P.truthy_int ⟨H,I,q⟩
 |str y =>
  obtain⟨t,rfl⟩:=rx;obtain⟨hy,e'⟩:y.length<=sizeLine/\k=((y.length:Int) != 0):=e;subst e';exact PySem.P.truthy_str (by omega) ⟨H,I.tok _,q⟩
 |Uu y =>
  obtain⟨t,rfl⟩:=rx;obtain⟨hy,e'⟩:y.size<=sizeLine/\k=((y.size:Int) != 0):=e;subst e';exact PySem.W.truthy_bytes (by omega) ⟨H,I.tok _,q⟩
 |ref p =>
  cases rx;have e':(∃xs,DX X.K H p xs/\k = !xs.isEmpty)\/(∃xs,Lc X.K H p xs/\k = !xs.isEmpty)\/∃kvs,H p=some (.dK kvs)/\k = !kvs.isEmpty:=e;rcases e' with ⟨xs,hx,e'⟩|⟨xs,hx,e'⟩|⟨kvs,hx,e'⟩
  ·subst e';obtain⟨aa,r,pl,hz⟩:=I.list hx;have hlen:=r.length;exact wpAny_truthy_list pl.isList (by simp only[zm];omega) ⟨H,I.tok _,by rw[GD r];exact q⟩
  ·subst e';obtain⟨aa,r,pl,hz⟩:=I.tuple hx;have hlen:=r.length;exact truthy_tuple pl (by simp only[zm];omega) ⟨H,I.tok _,by rw[GD r];exact q⟩
  ·subst e';obtain⟨hz,hS,vs,r,m⟩:kvs.length<=sizeLine/\(p==sysModules)=false/\∃vs,KV kvs vs/\s.heap.DictOf (Bv X.prog X.w) p vs:=I.AF p _ hx;have hlen:kvs.length=vs.length:=Paired.length r;exact wpAny_truthy_dict hS m (by omega) ⟨H,I.tok _,by rw[Li r];exact q⟩
 |_=>exact (show False from e).elim
theorem NZ (ha:PE X a ta)(he:∀whole,isTrue a X.env whole=(do let v <-whole;standAt a.pos;holding [v] (truthy v))):
 PT X a (λ σ H Q=>ta σ H λ x H'=>∃k,V0 X.K x H' k/\Q k H'):=by
 intro pins s σ H Q I h;exact isTrue_plain (AX (ha pins s σ H _ I h) λ v s1 ⟨x,H1,I1,r1,q1⟩=>Ta pins s1 σ H1 x v Q I1 r1 q1) (he _)
theorem Lj:DV X (binaryOp .Add) (λ x y H Q=>∃i j,x=.str i/\y=.str j/\i.length+j.length<=sizeLine/\Q (.str (i++j)) H):=by
 intro pins s σ H x y v u Q I rx ry h;obtain⟨i,j,rfl,rfl,hz,q⟩:=h;obtain⟨t,rfl⟩:=rx;obtain⟨t',rfl⟩:=ry;exact add_str (λ t' tk=>⟨.str (i++j),H,I.tok _,⟨_,rfl⟩,q⟩) hz
def K1 (b:Expr):Prop:=∀o i,subscripted b false o i=operate [o,i] (getItem o i)
theorem K2 (ha:PE X a ta)(hb:PE X b tb)(hs:K1 b):
 PE X (.Subscript a b pos) (SX (λ x y H Q=>∃z i c,x=.str z/\y=.int i/\0<=i/\i<2^63/\i<z.length/\z.cps[i.toNat]?=some c/\Q (.str ⟨#[c]⟩) H) ta tb):=by
 intro pins s σ H Q I h;refine Subscript_ (Qx ha hb I h λ v u s2 x y H2 I2 rx ry q=>?_);obtain⟨z,i,c,rfl,rfl,h0,jG,h1,hc,q⟩:=q;obtain⟨t,rfl⟩:=rx;obtain⟨t',rfl⟩:=ry;have e:seqIndex? i z.length=some i.toNat:=PySem.StrLaws.seqIndex_nonneg h0 h1;exact tail_any (typeIs_str s2 z t) slot_str_getitem.lookup (getItem_str (c:=c) (by
  have e1:decide (i < -(2^63:Int))=false:=decide_eq_false (by omega);have e2:decide (i >= 2^63)=false:=decide_eq_false (by omega);rw[e1,e2]<;>rfl) (by rw[e];exact hc) ⟨.str ⟨#[c]⟩,H2,I2.tok _,⟨_,rfl⟩,q⟩) (hs _ _)
theorem vals1 {x:V}{us:List Value}(r:Vals [x] us):∃u,us=[u]/\RelV x u:=by
 cases r with
 |cons r1 r2=>cases r2;exact⟨_,rfl,r1⟩
theorem J6:E6 X (.type "str") (λ xs H Q=>∃i,xs=[.int i]/\i.natAbs.log2<1920/\Q (.str (toString i)) H):=by
 intro pins s σ H xs us Q I r h;obtain⟨i,rfl,hz,q⟩:=h;obtain⟨u,rfl,t,rfl⟩:=vals1 r;exact PySem.P.str_of_int hz ⟨.str _,H,I.tok _,⟨_,rfl⟩,q⟩
end
theorem JU.some_of {v:V}{o:Option Value}(r:JU (some v) o):∃u,o=some u/\RelV v u:=by
 cases o with
 |none=>exact (show False from r).elim
 |some u=>exact⟨u,rfl,r⟩
structure X9 (K:zb)(C:Addr):Prop where
 pg:PySem.W.plainGet K C Str.empty=true
 hd:yo K C=true
 po:PySem.W.plainOver K C=true
 sa:zW K (.ref C) "__setattr__" = some (some (.builtin "object.__setattr__"))
structure Meth (K:zb)(C:Addr)(m:Str)(f:Addr):Prop where
 at_:zW K (.ref C) m=some (some (.ref f))
 fn:PySem.W.isFn K (.ref f)=true
 kp:zY K (.ref f)=true
structure C0 (k:Nat)(A:Around):Prop where
 hd:A.handled=none
 dp:A.depth+3*k+5<recursionLimit
 un:A.units+16*k+200<cLine
theorem C0.mono {j k:Nat}{A:Around}(r:C0 k A)(h:j<=k):C0 j A:=⟨r.hd,by have:=r.dp;omega,by have:=r.un;omega⟩
theorem C0.deeper {k:Nat}{A:Around}(r:C0 (k+1) A)(env:Env):C0 k (A.deeper env):=
 ⟨r.hd,by have:=r.dp;show A.depth+1+3*k+5<_;omega,by have:=r.un;show A.units+3+16*k+200<_;omega⟩
theorem C0.depth {k:Nat}{A:Around}(r:C0 k A):A.depth<recursionLimit:=by have:=r.dp;omega
theorem C0.units {k:Nat}{A:Around}(r:C0 k A):A.units+64<cLine:=by have:=r.un;omega
noncomputable def V1:TA:=λ _ H Q=>Q [] H
noncomputable def O0 (ta:TE)(tr:TA):TA:=λ σ H Q=>ta σ H λ x H1=>tr σ H1 λ xs H2=>Q (x::xs) H2
section
variable {X:Cx}{e:Expr}{es:List Expr}{te:TE}{t:TA}{pos:Pos}
theorem CT:PA X [] V1:=λ _ _ _ _ H Q I h=>Calls.spliced_nil ⟨[],H,I,.nil,h⟩
theorem Ba (ha:PE X e te)(hr:PA X es t)(hs:starEach (e::es) X.env=(false,eval e X.env)::starEach es X.env:=by rfl):PA X (e::es) (O0 te t):=by
 intro pos pins s σ H Q I h;rw[hs];show wpAny _ _ (spliced ((false,eval e X.env)::backTo pos (starEach es X.env))) _ _ s;refine Calls.spliced_cons (AX (ha pins s σ H _ I h) λ u s1 ⟨x,H1,I1,r1,q1⟩=>?_);exact AX (hr pos pins s1 σ H1 _ I1 q1) λ us s2 ⟨xs,H2,I2,r2,q2⟩=>⟨x::xs,H2,I2,.cons r1 r2,q2⟩
noncomputable def Wr (t:TA):TE:=λ σ H Q=>t σ H λ xs H1=>xs.length<=sizeLine/\∀p,H1 p=none->Q (.ref p) (upd H1 p (.tup xs))
noncomputable def Ws (t:TA):TE:=λ σ H Q=>t σ H λ xs H1=>xs.length<=sizeLine/\∀p,H1 p=none->Q (.ref p) (upd H1 p (.lst xs))
theorem O1 {x1}(h:PA X es t):PE X (.Tuple es x1 pos) (Wr t):=by
 intro pins s σ H Q I hq;refine wpAny_Tuple_spliced (AX (h pos pins s σ H _ I hq) λ us s1 ⟨xs,H1,I1,r,z,q⟩=>⟨by rw[<-r.length];exact z,?_⟩);have hf:H1 s1.heap.objs.size=none:=I1.AF.fresh (zv _);refine⟨.ref s1.heap.objs.size,upd H1 s1.heap.objs.size (.tup xs),I1.laid (t':=s1.toks) (λ b u e=>zw _ e) (zv _) ?_,rfl,q _ hf⟩;exact⟨z,us,r,⟨_,zQ _ rfl,rfl,_,rfl⟩⟩
theorem O2 (h:PA X es t):PE X (.List es pos) (Ws t):=by
 intro pins s σ H Q I hq;refine wpAny_List_spliced (AX (h pos pins s σ H _ I hq) λ us s1 ⟨xs,H1,I1,r,z,q⟩=>⟨by rw[<-r.length];exact z,?_⟩);have hf:H1 s1.heap.objs.size=none:=I1.AF.fresh (zv _);refine⟨.ref s1.heap.objs.size,upd H1 s1.heap.objs.size (.lst xs),I1.laid (t':=s1.toks) (λ b u e=>zw _ e) (zv _) ?_,rfl,q _ hf⟩;exact⟨z,us,0,r,zQ _ rfl⟩
end
noncomputable abbrev Sp:=List V->Hp->VK->XK->Prop
noncomputable abbrev MF:=List Env->Hp->Shared->XK->Value->Shared->Prop
structure QD (P:Program)(w:World)(K:zb)(mg:Str->Option Value)(base:Heap)(A:Around)(outer:List Env)(s:Shared)(H:Hp):Prop where
 frames:A.frames=some outer
 mod:Mod K mg base
 bs:∀b o,base.get? b=some o->s.heap.get? b=some o/\H b=none
 NI:base.objs.size<=s.heap.objs.size
 DQ:s.heap.FunFrames base outer
 Qn:∀b∈BS outer,H b=none
 AF:DF P w H s.heap
 bare:AllBare s.gens
def CE (outer:List Env)(P:Program)(w:World)(H:Hp)(s:Shared)(Q:VK)(u:Value)(s':Shared):Prop:=
 ∃v H',s'.os=s.os/\AllBare s'.gens/\Un (BS outer) [] H H' s.heap s'.heap/\DF P w H' s'.heap/\RelV v u/\Q v H'
def CR (CX:MF)(outer:List Env)(P:Program)(w:World)(H:Hp)(s:Shared)(Q:VK)(E:XK)(r:Result)(s':Shared):Prop:=
 match r with
 | .ok (.ret u)=>CE outer P w H s Q u s'
 | .ok _=>False
 | .error e=>CX outer H s E e s'
structure EU (P:Program)(w:World)(K:zb)(mg:Str->Option Value)(base:Heap)(CX:MF)(k:Nat)(f:Addr)(fd:FuncData)(ps:List Str)(sp:Sp):Prop where
 len:∀vs H Q E,sp vs H Q E->vs.length=ps.length
 run:∀(A:Around) (outer:List Env) (s:Shared) (H:Hp) (args:Args) (us:List Value) (vs:List V) (Q:VK) (E:XK),C0 k A->QD P w K mg base A outer s H->BindsTo s fd args (ps.zip us)->Vals vs us->sp vs H Q E->
  codeAny (model P w) A (.call (.ref f) args) (CR CX outer P w H s Q E) s
section
variable {X:Cx}{pins:List (Addr×Obj)}{σ:St}{H:Hp}{s s':Shared}
theorem Inv.V2 (I:Inv X pins σ H s):QD X.prog X.w X.K X.mg X.base X.A X.stack s H:=
 ⟨I.ok.frames,I.ok.mod,I.bs,zD I.ok.NI I.sz,I.stack,I.Fh,I.AF,I.bare⟩
theorem Inv.after {Q:VK}{u:Value}(I:Inv X pins σ H s)(h:CE X.stack X.prog X.w H s Q u s'):EP X pins σ Q u s':=by
 obtain⟨v,H',os,bare,un,AF,r,q⟩:=h;obtain⟨hh,g,d,t,iy⟩:=s';obtain rfl:iy=s.os:=os;exact⟨v,H',I.call (h':=hh) (g':=g) (d':=d) (t':=t) (ch:=[]) un AF bare (λ b z=>absurd z (by simp)),r,q⟩
end
noncomputable def V3 (sp:Sp)(dvs:List V)(E:XK)(t:TA):TE:=λ σ H Q=>t σ H λ vs H1=>sp (vs++dvs) H1 Q E
def Binds (K:zb)(fd:FuncData)(ps:List Str)(ds:List Value):Prop:=
 ∀(s:Shared) (us:List Value),K.In s.heap->(us++ds).length=ps.length->BindsTo s fd ⟨us,[]⟩ (ps.zip (us++ds))
theorem Binds.all {K:zb}{fd:FuncData}{ps:List Str}(h:∀us:List Value,us.length=ps.length->bindArgs fd ⟨us,[]⟩=pure (ps.zip us)):Binds K fd ps []:=λ s us _ hl=>by
 rw[List.append_nil] at hl ⊢;exact .of_eq (h us hl)
def GG (CX:MF)(X:Cx)(E:XK):Prop:=∀(pins:List (Addr×Obj)) (σ:St) (H:Hp) (s:Shared) (e:Value) (s':Shared),Inv X pins σ H s->CX X.stack H s E e s'->X.xe e s'
section
variable {X:Cx}{CX:MF}{k:Nat}{f C:Addr}{fd:FuncData}{ps:List Str}{sp:Sp}{dvs:List V}{ds:List Value}{E:XK}{x m:Str}{p pos apos:Pos}{e o:Expr}{es:List Expr}{ta:TE}{t:TA}
theorem Tb {pins:List (Addr×Obj)}{σ:St}{H:Hp}{s:Shared}{Q:VK}{us:List Value}{vs:List V}(F:EU X.prog X.w X.K X.mg X.base CX k f fd ps sp)(hr:C0 k X.A)(hb:Binds X.K fd ps ds)(hd:Vals dvs ds)(hx:GG CX X E)
 (I:Inv X pins σ H s) (r:Vals vs us) (h:sp (vs++dvs) H Q E):wpAny (model X.prog X.w) X.A (call (.ref f) us) (EP X pins σ Q) X.xe s:=by
 have r2:Vals (vs++dvs) (us++ds):=r.append hd;have hl:(us++ds).length=ps.length:=by rw[<-r2.length];exact F.len _ _ _ _ h
 refine wpAny_call (codeAny_mono (F.run X.A X.stack s H ⟨us,[]⟩ (us++ds) (vs++dvs) Q E hr I.V2 (hb s us I.JQ hl) r2 h) λ r s' hq=>?_);cases r with
 |error e=>exact hx pins σ H s e s' I hq
 |ok fl =>
  cases fl with
  |ret u=>exact I.after hq
  |next|brk|cont=>exact yq hq
theorem QE (F:EU X.prog X.w X.K X.mg X.base CX k f fd ps sp)(hr:C0 k X.A)(hg:Gl X x)(hm:X.mg x=some (.ref f))(hk:zY X.K (.ref f)=true)(hb:Binds X.K fd ps ds)(hd:Vals dvs ds)(hx:GG CX X E)
 (ha:PA X (e::es) t) (bz:(x==("__debug__" : Str))=false:=by decide) (he:starEach (e::es) X.env=(false,eval e X.env)::starEach es X.env:=by rfl) (aT:(backTo pos (starEach es X.env)).any (·.1)=false:=by rfl):
 PE X (.Call (.Name x p) (e::es) [] pos) (V3 sp dvs E t):=by
 intro pins s σ H Q I h;refine wpAny_Call_Name_kw (Fj I hg hm ?_ bz);refine PySem.W.callWith_K (h₀:=X.base) I.ok.mod.UG hk (AX (ha pos pins s σ H _ I h) λ us s1 ⟨vs,H1,I1,r,q⟩=>⟨I1.JQ,?_⟩) he aT;exact Tb F hr hb hd hx I1 r q
end
structure Am (N P:List Str)(sc:Scope):Prop where
 kind:sc.kind=.function
 co:sc.isCoroutine=false
 gen:sc.isGenerator=false
 nd:N.Nodup
 pre:N.take P.length=P
 Xa:∀x∈P,sc.names.lookup x=some .local\/sc.names.lookup x=some .cell
 Tc:∀y∈sc.names,y.2≠.free
theorem Ig {kindOf:Str->Option NameKind}{x:Str}:∀ {binds:List (Str×Value)}{m:Str->Option Value},(∀v,(x,v)∉binds)->bindL kindOf binds m x=m x
 |[],_,_=>rfl
 |(n,v)::r,m,h=>by
  unfold bindL;rw[Ig λ w hw=>h w (zg _ hw)];split
  ·have:x≠n:=by rintro rfl;exact h v zf
   simp[this]
  ·rfl
theorem Ih {kindOf:Str->Option NameKind}{x:Str}:∀ {binds:List (Str×Value)}{m:Str->Option Value},(∀v,(x,v)∉binds)->bindC kindOf binds m x=m x
 |[],_,_=>rfl
 |(n,v)::r,m,h=>by
  unfold bindC;rw[Ih λ w hw=>h w (zg _ hw)];split
  ·rfl
  ·have:x≠n:=by rintro rfl;exact h v zf
   simp[this]
theorem Ii {kindOf:Str->Option NameKind}{x:Str}{v:Value}:∀ {P:List Str}{vs:List Value}{i:Nat}{m:Str->Option Value},P.Nodup->P[i]?=some x->vs[i]?=some v->kindOf x=some .local->
 bindL kindOf (P.zip vs) m x=some v
 |[],_,_,_,_,h,_,_|_::_,[],_,_,_,_,h,_=>by simp at h
 |p::P,w::vs,0,m,nd,h1,h2,hk=>by
  simp at h1 h2;subst h1;subst h2;show bindL kindOf ((p,w)::P.zip vs) m p=_;unfold bindL;rw[Ig λ v hv=>(List.nodup_cons.mp nd).1 (List.of_mem_zip hv).1,if_pos hk];simp
 |p::P,w::vs,i+1,m,nd,h1,h2,hk=>by
  show bindL kindOf ((p,w)::P.zip vs) m x=_;unfold bindL;exact Ii (i:=i) (List.nodup_cons.mp nd).2 (by simpa using h1) (by simpa using h2) hk
theorem Ij {kindOf:Str->Option NameKind}{x:Str}{v:Value}:∀ {P:List Str}{vs:List Value}{i:Nat}{m:Str->Option Value},P.Nodup->P[i]?=some x->vs[i]?=some v->kindOf x≠some .local->
 bindC kindOf (P.zip vs) m x=some v
 |[],_,_,_,_,h,_,_|_::_,[],_,_,_,_,h,_=>by simp at h
 |p::P,w::vs,0,m,nd,h1,h2,hk=>by
  simp at h1 h2;subst h1;subst h2;show bindC kindOf ((p,w)::P.zip vs) m p=_;unfold bindC;rw[Ih λ v hv=>(List.nodup_cons.mp nd).1 (List.of_mem_zip hv).1,if_neg hk];simp
 |p::P,w::vs,i+1,m,nd,h1,h2,hk=>by
  show bindC kindOf ((p,w)::P.zip vs) m x=_;unfold bindC;exact Ij (i:=i) (List.nodup_cons.mp nd).2 (by simpa using h1) (by simpa using h2) hk
noncomputable def start (N:List Str)(vs:List V):St:=vs.map some++List.replicate (N.length-vs.length) none
noncomputable def Fl (CX:MF)(P:Program)(w:World)(K:zb)(mg:Str->Option Value)(base:Heap)(N:List Str)(qual:Str)(scope:Scope)(f:Addr)(cd:Value)(A:Around)(outer:List Env)(s:Shared)(H:Hp)(E:XK):Cx where
 prog:=P
 w:=w
 K:=K
 mg:=mg
 base:=base
 A:=A.deeper (envOfC qual scope s.heap.objs.size f cd)
 N:=N
 s₀:=s
 H₀:=H
 env:=envOfC qual scope s.heap.objs.size f cd
 outer:=outer
 stack:=envOfC qual scope s.heap.objs.size f cd::outer
 ex:=[]
 calm:=true
 fn:=λ _=>true
 pn:=[]
 xe:=λ e s'=>wpAny (model P w) (A.deeper (envOfC qual scope s.heap.objs.size f cd)) (leaving (envOfC qual scope s.heap.objs.size f cd) e) (λ _ dR=>CX outer H s E e dR) (λ e' dR=>CX outer H s E e' dR) s'
theorem K3 {sc:Scope}{n:Nat}{x:Str}(h:sc.names.lookup x=some .cell):∃c,(cellsFrom n sc.names []).lookup x=some c:=by
 have q:=PySem.W.cellsFrom_some sc.names n [] (.inl h);exact Option.isSome_iff_exists.mp q
theorem MG {CX:MF}{P:Program}{w:World}{K:zb}{mg:Str->Option Value}{base:Heap}{N ps:List Str}{qual:Str}{scope:Scope}{f:Addr}{cd:Value}{A:Around}{outer:List Env}{s s1:Shared}{H:Hp}{E:XK}{us:List Value}{vs:List V}
 (S:Am N ps scope) (hd:A.handled=none) (e0:QD P w K mg base A outer s H) (hl:vs.length=ps.length) (r:Vals vs us)
 (x:InCallC s s.heap.objs.size (bindL (envOfC qual scope s.heap.objs.size f cd).kindOf (ps.zip us) λ _=>none) (cellsFrom (s.heap.objs.size+1) scope.names []) (bindC (envOfC qual scope s.heap.objs.size f cd).kindOf (ps.zip us) λ _=>none) s1):
 Inv (Fl CX P w K mg base N qual scope f cd A outer s H E) [] (start N vs) H s1:=by
 have aT:ps.length<=N.length:=by have:=congrArg List.length S.pre;rw[List.length_take] at this;omega
 obtain⟨h1,tk,rfl,hk⟩:=x.done;have dS:∀b:Addr,b∉(Fl CX P w K mg base N qual scope f cd A outer s H E).ex:=λ b z=>absurd (show b∈([]:List Addr) from z) (by simp);refine⟨⟨e0.mod,S.kind,rfl,rfl,zv _,λ y z c h1 h2=>?_,λ y hy=>?_,λ y c _ h=>?_,λ _=>hd,Around.frames_deeper e0.frames,.inr ⟨rfl,rfl⟩,λ b z=>absurd z (dS b),e0.bs,e0.NI,λ b _ _=>dS b,λ b z=>absurd z (dS b),e0.DQ,e0.Qn⟩,
  rfl,e0.bare,Un.kept hk,⟨_,x.toInCall.ns,λ i y v h1 h2 h3=>?_⟩,λ y c h=>⟨_,x.cell y c h⟩,e0.AF.fresh (zv _),λ y c h=>?_,λ p hp=>absurd (show p∈([]:List (Addr×Obj)) from hp) (by simp),e0.AF.kept hk,?_⟩
 ·exact name_of_addr x.apart (y9 h1) (y9 h2)
 ·have hy:scope.names.lookup y=some .cell\/scope.names.lookup y=some .free:=hy;rcases hy with hy|hy
  ·exact K3 hy
  ·exact absurd rfl (S.Tc _ (y9 hy))
 ·exact yt (x.above y c (y9 h))
 ·have hi:i<vs.length:=by
   unfold start at h2;by_cases hi:i<vs.length
   ·exact hi
   ·rw[List.getElem?_append_right (by simpa using hi)] at h2;rw[List.getElem?_replicate] at h2;split at h2<;>cases h2
  have ha:vs[i]?=some v:=by
   unfold start at h2;rw[List.getElem?_append_left (by simpa using hi),zR] at h2;cases e:vs[i]? with
   |none=>rw[e] at h2;cases h2
   |some a=>rw[e] at h2;cases h2;rfl
  obtain⟨u,hu,rv⟩:=r.get ha;have hp:ps[i]?=some y:=by
   rw[<-S.pre,List.getElem?_take_of_lt (by omega)];exact h1
  have gO:ps.Nodup:=by rw[<-S.pre];exact S.nd.sublist (List.take_sublist _ _)
  refine⟨u,rv,?_⟩;rcases S.Xa y (zj hp) with k|k
  ·exact .inl ⟨k,Ii gO hp hu k⟩
  ·obtain⟨c,e⟩:=K3 (n:=s.heap.objs.size+1) k;refine .inr ⟨.inl k,c,e,?_⟩;have q:=x.cell y c e;rw[Ij gO hp hu (by show scope.names.lookup y≠_;rw[k];decide)] at q;exact q
 ·exact e0.AF.fresh (yt (x.above y c (y9 h)))
 ·unfold start;show _=N.length;rw[zq,zo,List.length_replicate];omega
theorem Si {CX:MF}{P:Program}{w:World}{K:zb}{mg:Str->Option Value}{base:Heap}{k:Nat}{f:Addr}{name qual:Str}{params:Arguments}{body:List Stmt}{scope:Scope}{dV kV doc pm Bx ct oc:Value}{an od:Option Addr}
 {QF:Array (Option Value)} {N ps:List Str} {sp:Sp} (lk:K.lookup f=some ⟨oc,od,.func (zS name qual params body scope dV kV doc pm an Bx ct),QF⟩) (bJ:yg K Bx qual=true) (S:Am N ps scope)
 (len:∀vs H Q E,sp vs H Q E->vs.length=ps.length)
 (bW:∀(A:Around) (outer:List Env) (s:Shared) (H:Hp) (vs:List V) (Q:VK) (E:XK),C0 k (A.deeper (envOfC qual scope s.heap.objs.size f Bx))->sp vs H Q E->
  ∃t,MA (Fl CX P w K mg base N qual scope f Bx A outer s H E) body t/\t {nx:=λ _ H'=>Q .Ar H',rt:=Q} (start N vs) H):
 EU P w K mg base CX (k+1) f (zS name qual params body scope dV kV doc pm an Bx ct) ps sp:=by
 refine⟨len,λ A outer s H args us vs Q E hr e0 hb r cu=>?_⟩;have hl:=len _ _ _ _ cu;have KX:K.In s.heap:=e0.mod.UG.keeps λ b o e=>(e0.bs b o e).1;have lim:s.heap.NoLimit:=e0.mod.nolimit.keeps λ b o e=>(e0.bs b o e).1;have dW:∀y∈ps.zip us,scope.names.lookup y.1=some .local\/(scope.names.lookup y.1=some .cell/\((cellsFrom (s.heap.objs.size+1) scope.names []).lookup y.1).isSome=true):=λ⟨n,v⟩ hy=>by
  rcases S.Xa n (List.of_mem_zip hy).1 with q|q
  ·exact .inl q
  ·exact .inr ⟨q,PySem.W.cellsFrom_some _ _ _ (.inl q)⟩
 refine codeAny_call_function hr.depth (KX _ _ lk) rfl S.co S.gen rfl (PySem.W.codeRec_of KX bJ) (hb _ _ _ _ ?_);refine wpAny_newFunctionEnv_cells S.kind dW λ env he s1 x=>?_;subst he;refine⟨lim.keeps x.toInCall.keep,codeAny_func ?_⟩;obtain⟨t,ht,hq⟩:=bW A outer s H vs Q E (hr.deeper _) cu;have I:Inv (Fl CX P w K mg base N qual scope f Bx A outer s H E) [] (start N vs) H s1:=MG S hr.hd e0 hl r x;refine wpAny_mono (ht [] s1 (start N vs) H _ I hq) (λ fl s' hs=>?_) λ e s' hs=>hs;have fin:∀ {σ':St} {H':Hp} {v:V} {u:Value},Inv (Fl CX P w K mg base N qual scope f Bx A outer s H E) [] σ' H' s'->RelV v u->Q v H'->CE outer P w H s Q u s':=
  fun {σ' H' v u} J rv q=>⟨v,H',J.os,J.bare,J.base,J.AF,rv,q⟩
 cases fl with
 |ret u =>
  obtain⟨v,σ',H',J,rv,q⟩:=hs;exact fin J rv q
 |next =>
  obtain⟨σ',H',J,q⟩:=hs;exact fin (v:=V.Ar) (u:=Value.none) J rfl q
 |brk =>
  obtain⟨_,_,_,q⟩:=hs;exact yq q
 |cont =>
  obtain⟨_,_,_,q⟩:=hs;exact yq q
section
variable {X:Cx}{x:Str}{p pos:Pos}{e:Expr}{es:List Expr}{t:TA}{id T:String}{r:List V->Hp->VK->Prop}
noncomputable def VZ (r:List V->Hp->VK->Prop)(t:TA):TE:=λ σ H Q=>t σ H λ vs H1=>r vs H1 Q
theorem Fm (hc:E6 X (.builtin id) r)(hg:Gl X x)(hm:X.mg x=none)(hv:bootBuiltins x=some (.builtin id))(ha:PA X (e::es) t)(hn:x ≠ "__name__" := by decide)(bz:(x==("__debug__" : Str))=false:=by decide)
 (he:starEach (e::es) X.env=(false,eval e X.env)::starEach es X.env:=by rfl) (aT:(backTo pos (starEach es X.env)).any (·.1)=false:=by rfl):PE X (.Call (.Name x p) (e::es) [] pos) (VZ r t):=by
 intro pins s σ H Q I h;refine wpAny_Call_Name_kw (IZ I hg hm hv ?_ hn bz);exact PyProof.Rows.callWith_builtin1 (AX (ha pos pins s σ H _ I h) λ us s1 ⟨vs,H1,I1,r1,q1⟩=>hc pins s1 σ H1 vs us Q I1 r1 q1) he aT
theorem MH (hc:E6 X (.type T) r)(hg:Gl X x)(hm:X.mg x=none)(hv:bootBuiltins x=some (.type T))(ha:PA X (e::es) t)(hn:x ≠ "__name__" := by decide)(bz:(x==("__debug__" : Str))=false:=by decide)
 (he:starEach (e::es) X.env=(false,eval e X.env)::starEach es X.env:=by rfl) (aT:(backTo pos (starEach es X.env)).any (·.1)=false:=by rfl):PE X (.Call (.Name x p) (e::es) [] pos) (VZ r t):=by
 intro pins s σ H Q I h;refine wpAny_Call_Name_kw (IZ I hg hm hv ?_ hn bz);exact PyProof.Rows.callWith_type1 (AX (ha pos pins s σ H _ I h) λ us s1 ⟨vs,H1,I1,r1,q1⟩=>hc pins s1 σ H1 vs us Q I1 r1 q1) he aT
end
end L2
namespace HT
open PySem PyProof.Rows
section
variable {prog:Program}{w:World}{A:Around}{E:Value->Shared->Prop}{s:Shared}
noncomputable def GH (n d:Nat):Option Int->Nat
 |none=>d
 |some v=>if v<0 then (v+(n:Int)).toNat else min v.toNat n
theorem O3 (n d:Nat):GH n d none=d:=rfl
theorem J8 (n d k:Nat):GH n d (some (k:Int))=min k n:=by
 show (if (k:Int)<0 then ((k:Int)+(n:Int)).toNat else min (k:Int).toNat n)=min k n;rw[if_neg (by omega),Int.toNat_natCast]
end
end HT
namespace L2
open PySem PySem.Spec PyProof.Rows
noncomputable abbrev TO:=St->Hp->(Option Int->Hp->Prop)->Prop
def PO (X:Cx)(e:Option Expr)(t:TO):Prop:=
 ∀(pins:List (Addr×Obj)) (s:Shared) (σ:St) (H:Hp) (Q:Option Int->Hp->Prop),Inv X pins σ H s->t σ H Q->
  wpAny (model X.prog X.w) X.A (evalPart e X.env) (λ u s'=>∃o H',Inv X pins σ H' s'/\IsPart u o/\Q o H') X.xe s
noncomputable def QG:TO:=λ _ H Q=>Q none H
noncomputable def V4 (t:TE):TO:=λ σ H Q=>t σ H λ x H1=>∃i,x=.int i/\Q (some i) H1
section
variable {X:Cx}{e:Expr}{te:TE}{lo hi:Option Expr}{tl th:TO}{pos p2:Pos}
theorem QH:PO X none QG:=by
 intro pins s σ H Q I h;rw[evalPart_none];exact wpAny_pure ⟨none,H,I,.none,h⟩
theorem QI (h:PE X e te):PO X (some e) (V4 te):=by
 intro pins s σ H Q I hw;rw[evalPart_some];refine AX (h pins s σ H _ I hw) λ u s1 ⟨x,H1,I1,r1,q1⟩=>?_;obtain⟨i,rfl,q⟩:=q1;obtain⟨t,rfl⟩:=r1;exact⟨some i,H1,I1,.int i t,q⟩
def Wt (X:Cx)(r:V->Option Int->Option Int->Hp->VK->Prop):Prop:=
 ∀(pins:List (Addr×Obj)) (s:Shared) (σ:St) (H:Hp) (x:V) (v vl vu:Value) (lo hi:Option Int) (sl:Addr) (Q:VK),Inv X pins σ H s->RelV x v->s.heap.IsSliceOf sl vl vu .none->IsPart vl lo->IsPart vu hi->r x lo hi H Q->
  ∃T id,typeLookup (.type T) "__getitem__" = pure (some (.builtin id))/\s.TypeIs v T/\wpAny (model X.prog X.w) X.A (getItem v (.ref sl)) (EP X pins σ Q) X.xe s
noncomputable def XD (r:V->Option Int->Option Int->Hp->VK->Prop)(te:TE)(tl th:TO):TE:=λ σ H Q=>te σ H λ x H1=>tl σ H1 λ l H2=>th σ H2 λ u H3=>r x l u H3 Q
theorem K4 {r:V->Option Int->Option Int->Hp->VK->Prop}(hr:Wt X r)(he:PE X e te)(hl:PO X lo tl)(hu:PO X hi th):PE X (.Subscript e (.Slice lo hi none p2) pos) (XD r te tl th):=by
 intro pins s σ H Q I h;refine Subscript_ (AX (he pins s σ H _ I h) λ v s1 ⟨x,H1,I1,r1,q1⟩=>?_);refine wpAny_Slice (AX (hl pins s1 σ H1 _ I1 q1) λ vl s2 ⟨l,H2,I2,pl,q2⟩=>AX (hu pins s2 σ H2 _ I2 q2) λ vu s3 ⟨u,H3,I3,pu,q3⟩=>?_);rw[evalPart_none];refine wpAny_pure ?_;have I4:Inv X pins σ H3 {s3 with heap:=s3.heap.push {cls:=.type "slice",data:=.fields #[vl,vu,.none]} }:=I3.kept (t':=s3.toks) λ b ob q=>zw _ q;obtain⟨T,id,hT,ht,hg⟩:=hr pins {s3 with heap:=s3.heap.push {cls:=.type "slice",data:=.fields #[vl,vu,.none]} } σ H3 x v vl vu l u s3.heap.objs.size Q I4 r1 (Heap.IsSliceOf.new ..) pl pu q3;show wpAny (model X.prog X.w) X.A (subscriptTail e (.Slice lo hi none p2) v (.ref s3.heap.objs.size)) (EP X pins σ Q) X.xe {s3 with heap:=s3.heap.push {cls:=.type "slice",data:=.fields #[vl,vu,.none]} };exact tail_any (ops:=[.ref s3.heap.objs.size,v]) ht hT hg (by with_unfolding_all rfl)
noncomputable def O4 (xs:List V)(lo hi:Option Int):List V:=(xs.drop (HT.GH xs.length 0 lo)).take (HT.GH xs.length xs.length hi-HT.GH xs.length 0 lo)
theorem K5 (xs:List V)(lo hi:Option Int):(O4 xs lo hi).length<=xs.length:=by
 unfold O4;rw[List.length_take,List.length_drop];omega
end
noncomputable def Uv (n:Nat)(i:Int):Option Nat:=if 0<=i then (if i<n then some i.toNat else none) else if -(n:Int)<=i then some (i+n).toNat else none
noncomputable def M4 {α:Type}(xs:List α)(i:Int):Option α:=(Uv xs.length i).bind λ j=>xs[j]?
theorem QJ {n:Nat}{i:Int}{j:Nat}(h:Uv n i=some j):seqIndex? i n=some j/\j<n/\-(n:Int)<=i/\i<n:=by
 unfold Uv at h;by_cases h0:0<=i
 ·rw[if_pos h0] at h;by_cases h1:i<n
  ·rw[if_pos h1] at h;have e:i.toNat=j:=zF h;exact⟨by rw[seqIndex_of h0 h1,e],by omega,by omega,h1⟩
  ·rw[if_neg h1] at h;cases h
 ·rw[if_neg h0] at h;by_cases h1 : -(n:Int)<=i
  ·rw[if_pos h1] at h;have e:(i+n).toNat=j:=zF h;exact⟨by rw[seqIndex_neg (by omega) h1,e],by omega,h1,by omega⟩
  ·rw[if_neg h1] at h;cases h
theorem M5 {α:Type}{xs:List α}{i:Int}{v:α}(h:M4 xs i=some v):∃j,seqIndex? i xs.length=some j/\xs[j]?=some v/\j<xs.length/\-(xs.length:Int)<=i/\i<xs.length:=by
 unfold M4 at h;cases e:Uv xs.length i with
 |none=>rw[e] at h;cases h
 |some j =>
  rw[e] at h;obtain⟨h1,h2,h3,h4⟩:=QJ e;exact⟨j,h1,h,h2,h3,h4⟩
def J9 (b:Expr):Prop:=∀o i,subscripted b false o i=operate [o,i] (getItem o i)
def QK (X:Cx)(r:R2):Prop:=
 ∀(value slice:Expr) (pins:List (Addr×Obj)) (s:Shared) (σ:St) (H:Hp) (x y:V) (v u:Value) (Q:VK),Inv X pins σ H s->RelV x v->RelV y u->r x y H Q->
  subscripted slice false v u=operate [v,u] (getItem v u)->wpAny (model X.prog X.w) X.A (subscriptTail value slice v u) (EP X pins σ Q) X.xe s
def XE (X:Cx)(id:String)(r:V->List V->Hp->VK->Prop):Prop:=
 ∀(pins:List (Addr×Obj)) (s:Shared) (σ:St) (H:Hp) (x:V) (xs:List V) (v:Value) (us:List Value) (Q:VK),Inv X pins σ H s->RelV x v->Vals xs us->r x xs H Q->
  wpAny (model X.prog X.w) X.A (call (.builtin id) (v::us)) (EP X pins σ Q) X.xe s
section
variable {X:Cx}{a b:Expr}{ta tb:TE}{pos:Pos}
theorem QK.or {r r':R2}(h:QK X r)(h':QK X r'):QK X (λ x y H Q=>r x y H Q\/r' x y H Q):=by
 intro value slice pins s σ H x y v u Q I rx ry q hs;rcases q with q|q
 ·exact h value slice pins s σ H x y v u Q I rx ry q hs
 ·exact h' value slice pins s σ H x y v u Q I rx ry q hs
theorem V5 {r:R2}(hr:QK X r)(ha:PE X a ta)(hb:PE X b tb)(hs:J9 b):PE X (.Subscript a b pos) (SX r ta tb):=by
 intro pins s σ H Q I h;exact Subscript_ (Qx ha hb I h λ v u s2 x y H2 I2 rx ry q=>hr a b pins s2 σ H2 x y v u Q I2 rx ry q (hs _ _))
noncomputable def Td (K:zb):R2:=λ x y H Q=>∃p xs i v,x=.ref p/\y=.int i/\DX K H p xs/\M4 xs i=some v/\Q v H
noncomputable def Te (K:zb):R2:=λ x y H Q=>∃p xs i v,x=.ref p/\y=.int i/\Lc K H p xs/\M4 xs i=some v/\Q v H
theorem QL:QK X (Td X.K):=by
 intro value slice pins s σ H x y v u Q I rx ry h hs;obtain⟨p,xs,i,z,rfl,rfl,hq,he,q⟩:=h;cases rx;obtain⟨t,rfl⟩:=ry;obtain⟨aa,r,pl,hz⟩:=I.list hq;obtain⟨j,h1,h2,h3,h4,h5⟩:=M5 he;obtain⟨w,ew,bP⟩:=r.get h2;have hl:=r.length;have hn:=GF;have fin:EP X pins σ Q w s:=⟨z,H,I,bP,q⟩;by_cases h0:0<=i
 ·have hj:i.toNat=j:=by
   rw[seqIndex_of h0 h5] at h1;exact zF h1
  exact item_listR pl.isList h0 (by omega) (by rw[hj];simpa using ew) fin hs
 ·have hj:(i+(aa.toArray.size:Int)).toNat=j:=by
   rw[seqIndex_neg (by omega) h4] at h1;rw[zm,<-hl];exact zF h1
  exact subscriptTail_builtinR (x:=w) pl.isList.typeIs slot_list_getitem.lookup
   (wpAny_getItem_list_neg (Q:=λ r s'=>r=w/\EP X pins σ Q r s') pl.isList (by omega) (by rw[zm]<;>omega) (by omega) (by rw[hj];simpa using ew) ⟨rfl,fin⟩) hs
theorem Tf:QK X (Te X.K):=by
 intro value slice pins s σ H x y v u Q I rx ry h hs;obtain⟨p,xs,i,z,rfl,rfl,hq,he,q⟩:=h;cases rx;obtain⟨t,rfl⟩:=ry;obtain⟨aa,r,pl,hz⟩:=I.tuple hq;obtain⟨j,h1,h2,h3,h4,h5⟩:=M5 he;obtain⟨w,ew,bP⟩:=r.get h2;have hl:=r.length;have hn:=GF;have fin:EP X pins σ Q w s:=⟨z,H,I,bP,q⟩;exact subscriptTail_builtinR (x:=w) pl.typeIs slot_tuple_getitem.lookup
  (getItem_tuple (j:=j) (Q:=λ r s'=>r=w/\EP X pins σ Q r s') pl (by omega) (by omega) (by rw[zm,<-hl];exact h1) (by simpa using ew) ⟨rfl,fin⟩) hs
theorem Ja (lo hi:Option Int)(n:Nat):(sliceBounds lo hi none n).1=((HT.GH n 0 lo:Nat):Int)/\(sliceBounds lo hi none n).2.1=((HT.GH n n hi:Nat):Int)/\(sliceBounds lo hi none n).2.2=1:=by
 refine⟨?_,?_,rfl⟩
 ·cases lo with
  |none=>simp[sliceBounds,HT.GH]
  |some i =>
   simp only[sliceBounds,HT.GH,Option.getD_none,show (1:Int) > 0 by decide,if_true];by_cases h:i<0
   ·simp only[h,if_true]<;>omega
   ·simp only[h,if_false]<;>omega
 ·cases hi with
  |none=>simp[sliceBounds,HT.GH]
  |some i =>
   simp only[sliceBounds,HT.GH,Option.getD_none,show (1:Int) > 0 by decide,if_true];by_cases h:i<0
   ·simp only[h,if_true]<;>omega
   ·simp only[h,if_false]<;>omega
theorem HJ (aa:List Value)(lo hi:Option Int):slicePick aa.toArray lo hi none=((aa.drop (HT.GH aa.length 0 lo)).take (HT.GH aa.length aa.length hi-HT.GH aa.length 0 lo)).toArray:=by
 obtain⟨h1,h2,h3⟩:=Ja lo hi aa.toArray.size;unfold slicePick;rw[h1,h2,h3];simp only[sliceRange_one,pick_run,zm]<;>rfl
def Wu (K:zb):V->Option Int->Option Int->Hp->VK->Prop:=λ x lo hi H Q=>∃a xs,x=.ref a/\DX K H a xs/\∀p,H p=none->Q (.ref p) (upd H p (.lst (O4 xs lo hi)))
theorem QM:Wt X (Wu X.K):=by
 intro pins s σ H x v vl vu lo hi sl Q I rx hs pl pu h;obtain⟨a,xs,rfl,hx,q⟩:=h;cases rx;obtain⟨aa,r,ht,hz⟩:=I.list hx;have hlen:=r.length;refine⟨"list",_,slot_list_getitem.lookup,ht.isList.typeIs,?_⟩;refine wpAny_getItem_list_slice ht.isList hs pl pu .none (by simp) ?_ (by rw[zm]<;>omega);rw[HJ,<-hlen];refine⟨.ref s.heap.objs.size,_,I.laid (t':=s.toks) (o:=.lst (O4 xs lo hi)) (λ b ob q=>zw _ q) (zv _) ?_,rfl,q _ (I.AF.fresh (zv _))⟩;exact⟨zD (K5 xs lo hi) hz,_,0,(r.drop (HT.GH xs.length 0 lo)).take (HT.GH xs.length xs.length hi-HT.GH xs.length 0 lo),zQ _ rfl⟩
theorem Jb:E6 X (.builtin "len") (λ xs H Q=>∃p ys,xs=[.ref p]/\(DX X.K H p ys\/Lc X.K H p ys)/\Q (.int ys.length) H):=by
 intro pins s σ H xs us Q I r h;obtain⟨p,ys,rfl,hq,q⟩:=h;obtain⟨u,rfl,rx⟩:=vals1 r;cases rx;have hn:=GF;rcases hq with hq|hq
 ·obtain⟨aa,r',pl,hz⟩:=I.list hq;have hlen:=r'.length;exact Calls.call_len_list pl.isList (by simp only[zm]<;>omega) ⟨.int ys.length,H,I.tok _,⟨s.toks+1,by rw[zm,hlen]⟩,q⟩
 ·obtain⟨aa,r',pl,hz⟩:=I.tuple hq;have hlen:=r'.length;exact len_tuple pl (by simp only[zm]<;>omega) ⟨.int ys.length,H,I.tok _,⟨s.toks+1,by rw[zm,hlen]⟩,q⟩
theorem Jc:E6 X (.builtin "len") (λ xs H Q=>∃z,xs=[.str z]/\z.length<=sizeLine/\Q (.int z.length) H):=by
 intro pins s σ H xs us Q I r h;obtain⟨z,rfl,hz,q⟩:=h;obtain⟨u,rfl,t,rfl⟩:=vals1 r;have hn:=GF;exact len_str (by omega) ⟨.int z.length,H,I.tok _,⟨_,rfl⟩,q⟩
def Xb (K:zb)(T:String)(x:V)(H:Hp):Prop:=match x with
 | .str _=>T = "str"
 | .int _=>T = "int"
 | .ref p=>(T = "list" /\ ∃xs,DX K H p xs)\/(T = "tuple" /\ ∃o,K.lookup p=some o/\o.cls=.type "tuple" /\ o.dict=none) \/
  (T = "dict" /\ ((∃kvs,H p=some (.dK kvs))\/∃kvs,H p=some (.dT kvs)))\/(T = "set" /\ ∃S n,H p=some (.set S n))
 |_=>False
theorem Tg {pins:List (Addr×Obj)}{σ:St}{H:Hp}{s:Shared}{T:String}{x:V}{v:Value}(I:Inv X pins σ H s)(r:RelV x v)(ty:Xb X.K T x H):
 s.TypeIs v T/\∀a,v=.ref a->∃ob,s.heap.get? a=some ob/\ob.dict=none:=by
 cases x with
 |str z =>
  obtain⟨t,rfl⟩:=r;cases (show T = "str" from ty);exact⟨typeIs_str s z t,λ _ e=>nomatch e⟩
 |int i =>
  obtain⟨t,rfl⟩:=r;cases (show T = "int" from ty);exact⟨typeIs_int s i t,λ _ e=>nomatch e⟩
 |ref p =>
  cases r;rcases ty with ⟨rfl,xs,hq⟩|⟨rfl,o,hk,hc,hd⟩|⟨rfl,hk⟩|⟨rfl,S,n,hk⟩
  ·obtain⟨aa,_,pl,_⟩:=I.list hq;refine⟨pl.isList.typeIs,λ a e=>?_⟩;cases e;obtain⟨o,n,e,c,hd,_⟩:=pl;exact⟨o,e,hd⟩
  ·refine⟨⟨o,I.JQ p o hk,hc⟩,λ a e=>?_⟩;cases e;exact⟨o,I.JQ _ o hk,hd⟩
  ·have z:∃o,s.heap.get? p=some o/\o.ExactDict:=by
    rcases hk with ⟨kvs,hk⟩|⟨kvs,hk⟩
    ·obtain⟨_,_,_,_,o,_,_,e,ex,_⟩:=I.AF p _ hk;exact⟨o,e,ex⟩
    ·obtain⟨_,_,_,_,o,_,_,e,ex,_⟩:=I.AF p _ hk;exact⟨o,e,ex⟩
   obtain⟨o,e,ex⟩:=z;refine⟨⟨o,e,ex.1⟩,λ a e2=>?_⟩;cases e2;exact⟨o,e,ex.2.1⟩
  ·obtain⟨o,_,_,_,e,ex,_⟩:=I.AF p _ hk;refine⟨⟨o,e,ex.1⟩,λ a e2=>?_⟩;cases e2;exact⟨o,e,ex.2.1⟩
 |_=>exact yq ty
noncomputable def XF (K:zb)(T:String)(r:V->List V->Hp->VK->Prop)(to:TE)(t:TA):TE:=λ σ H Q=>to σ H λ x H1=>Xb K T x H1/\t σ H1 λ xs H2=>r x xs H2 Q
variable {o e:Expr}{es:List Expr}{to:TE}{t:TA}{name:Str}{apos ax:Pos}{T id:String}{r:V->List V->Hp->VK->Prop}
theorem O5 (pa:PlainAttrs T)(slot:Slot T name id)(dX:typeOf (.builtin id)=pure (.type "method_descriptor"))(hm:XE X id r)(ho:PE X o to)(ha:PA X (e::es) t)
 (aV:attributeBase o name X.env (eval o X.env)=eval o X.env:=by rfl)
 (bF:((backTo ax (starEach (e::es) X.env)).all (λ x => !x.1)&&(backToKw ax (keywordEach [] X.env)).all (λ x=>x.1.isSome)
  && decide ((e::es).length+([]:List Keyword).length+(if ([]:List Keyword).isEmpty then 0 else 1)<30))=true:=by rfl)
 (aW:(apos.endLine==ax.line)=true:=by rfl) (hs:starEach (e::es) X.env=(false,eval e X.env)::starEach es X.env:=by rfl) (aB:(backTo ax (starEach es X.env)).any (·.1)=false:=by rfl):
 PE X (.Call (.Attribute o name apos) (e::es) [] ax) (XF X.K T r to t):=by
 intro pins s σ H Q I h;refine wpAny_Call_method_late aV bF aW rfl (AX (ho pins s σ H _ I h) λ v s1 ⟨x,H1,I1,r1,ty,q1⟩=>?_);obtain⟨h1,h2⟩:=Tg I1 r1 ty;refine⟨T,id,pa,slot,dX,h1,h2,?_⟩;have hA:=ha ax pins s1 σ H1 _ I1 q1;rw[hs] at hA ⊢;refine Calls.callWith_builtin (by show (false||(backTo ax (starEach es X.env)).any (·.1))=false;rw[aB]<;>rfl) (Calls.evalArgs_plain ?_);exact AX hA λ us s2 ⟨vs,H2,I2,r2,q2⟩=>hm pins s2 σ H2 x vs v us Q I2 r1 r2 q2
end
def Wv (X:Cx)(id:String)(r:V->List V->Hp->VK->Prop):Prop:=
 ∀(pins:List (Addr×Obj)) (s:Shared) (σ:St) (H:Hp) (x:V) (xs:List V) (v:Value) (us:List Value) (Q:VK),Inv X pins σ H s->RelV x v->Vals xs us->r x xs H Q->
  wpAny (model X.prog X.w) X.A (call (.builtin id) (v::us)) (EP X pins σ Q) X.xe s
theorem Vals.one:∀ {x:V}{us:List Value},Vals [x] us->∃u,us=[u]/\RelV x u
 |_,_,.cons r .nil=>⟨_,rfl,r⟩
theorem Vals.two:∀ {x y:V}{us:List Value},Vals [x,y] us->∃u v,us=[u,v]/\RelV x u/\RelV y v
 |_,_,_,.cons r (.cons q .nil)=>⟨_,_,rfl,r,q⟩
theorem Vals.dropLast {xs:List V}{us:List Value}(h:Vals xs us):Vals xs.dropLast us.dropLast:=by
 induction h with
 |nil=>exact .nil
 |cons r t ih =>
  cases t with
  |nil=>exact .nil
  |cons q t'=>exact .cons r ih
section
variable {X:Cx}{pins:List (Addr×Obj)}{σ:St}{H:Hp}{s:Shared}{l b:Addr}{xs ys zs:List V}
theorem Inv.Ww {aa its':List Value}{n:Nat}{f:Array Value->Array Value}{t':Nat}(I:Inv X pins σ H s)(hH:H l=some (.lst xs))
 (e:s.heap.get? l=some {cls:=.type "list",data:=.seq aa.toArray n}) (hf:f aa.toArray=its'.toArray) (hv:Vals ys its') (hz:ys.length<=sizeLine):
 Inv X pins σ (upd H l (.lst ys)) {s with heap:=s.heap.update l (Obj.mapSeq f),toks:=t' }:=by
 have q:=PySem.IsL.update e f;rw[hf] at q;refine I.write (x:=l) (e:=l) (by rw[hH];exact trivial) (.inl rfl) (λ b' u hb hu=>(yw s.heap (Obj.mapSeq f) (Ne.symm hb)).trans hu) ⟨_,q⟩ ?_;exact⟨hz,its',_,hv,q⟩
theorem Inv.Wx {aa:List Value}{t':Nat}(I:Inv X pins σ H s)(hv:Vals ys aa)(hz:ys.length<=sizeLine):
 Inv X pins σ (upd H s.heap.objs.size (.lst ys)) {s with heap:=s.heap.push {cls:=.type "list",data:=.seq aa.toArray},toks:=t' }:=
 I.laid (λ _ _ q=>zw _ q) (zv _) ⟨hz,aa,0,hv,zQ _ rfl⟩
theorem Inv.fresh (I:Inv X pins σ H s):H s.heap.objs.size=none:=I.AF.fresh (zv _)
theorem Inv.Wy (I:Inv X pins σ H s)(hH:H l=some (.lst xs)):xs.length<=sizeLine/\∃(aa:List Value) (n:Nat),Vals xs aa/\xs.length=aa.length/\s.heap.get? l=some {cls:=.type "list",data:=.seq aa.toArray n}:=by
 obtain⟨z,aa,n,r,e⟩:=I.AF l _ hH;exact⟨z,aa,n,r,r.length,e⟩
end
section
variable {X:Cx}
def QN:V->List V->Hp->VK->Prop:=λ x vs H Q=>∃l xs y,x=.ref l/\vs=[y]/\H l=some (.lst xs)/\xs.length<sizeLine/\Q .Ar (upd H l (.lst (xs++[y])))
theorem MI:Wv X "list.append" QN:=by
 intro pins s σ H x vs v us Q I rx rv h;obtain⟨l,xs,y,rfl,rfl,hH,hz,q⟩:=h;cases rx;obtain⟨u,rfl,ru⟩:=rv.one;obtain⟨z,aa,n,r,hl,e⟩:=I.Wy hH;refine call_meets F.slot_list_append ⟨_,e,rfl⟩ F.entry_list_append (F.args_list_append_2 _ _) (PySem.list_append l aa.toArray n u (by rw[zm];omega)) ⟨e,?_⟩;refine⟨.Ar,_,I.Ww (its':=aa++[u]) hH e (by simp) (r.append (.cons ru .nil)) ?_,rfl,q⟩;rw[zq,yd];omega
end
end L2
namespace gP
open PySem PySem.W PySem.Calls PyProof.Rows
theorem Gs {P:Params}{h:Heap}:∀(ns:List Int) (vs:List Value),WellAll P h vs (ns.map WData.int)->IntsAre vs ns:=by
 intro ns;induction ns with
 |nil =>
  intro vs w;rw[List.map_nil] at w;cases w;exact .nil
 |cons n ns ih =>
  intro vs w;rw[zx] at w;cases w with
  |cons a b =>
   cases a;exact .cons _ _ (ih _ b)
theorem MJ {l:OpenLaw}{n:Nat}(hn:l.most=some n){P:Params}{h:Heap}{args:List WData}{vals:List Value}
 (cD:l.row.toRowW.claim.pre args=true) (fw:WellAll P h vals args):
 ∃a vs ns,vals=[Value.ref a]/\args=[WData.list (ns.map WData.int)]/\h.get? a=some {cls:=.type "list",data:=.seq vs.toArray}/\IntsAre vs ns/\ns.length<=n:=by
 have iz:WShape.hasAll [] args [.list .int]=true:=(pre_splitW cD).1;have hc:l.pre.holds [] {args:=args}=true:=(pre_splitW cD).2;obtain⟨d,r,rfl,h1,h2⟩:=hasAllW_cons iz;obtain rfl:=hasAllW_nil h2;obtain⟨xs,rfl,h3⟩:=hasW_list h1;obtain⟨ns,rfl⟩:=items_int h3;have hlen:ns.length<=n:=by
  unfold OpenLaw.pre at hc;have h4:(WTm.not (.lt (.lit (.int (n:Int))) (.len (.arg 0)))).holds [] {args:=[.list (ns.map .int)]}=true:=by
   have h4:=(holds_andW hc).1;rw[hn] at h4;exact h4
  have h5:=condW_of h4 (w_not (w_lt w_lit (w_len_list (w_arg rfl))));rw[zo] at h5;refine Nat.le_of_not_lt λ q=>?_;have q':(n:Int)<((ns.length:Nat):Int):=by omega
  first
   |(rw[decide_eq_true q'] at h5;exact absurd h5 (by decide))
   |(simp at h5;omega)
 cases fw with
 |cons w1 w2 =>
  cases w2;cases w1 with
  |list ho aA=>exact⟨_,_,ns,rfl,rfl,ho,Gs ns _ aA,hlen⟩
theorem MK (l:OpenLaw)(args:List WData):l.row.toRowW.claim.post args (.bool true) args=true:=
 postW_of (r:=l.row.toRowW) (X:=(true==true))
  (show WShape.has [] (.bool true) .bool=true by first|rfl|decide|simp[WShape.has,WShape.arms,WShape.armsAll])
  (show (WTm.eq .res (.lit (.bool true))).value [] {args:=args,res:=some (.bool true),after:=args}=some (.bool (true==true)) from w_eq_bool (w_res rfl) w_lit) rfl
end gP
namespace L2
open PySem PySem.Spec PyProof.Rows
theorem Ik:∀ {vs:List Value}{ns:List Int},IntsAre vs ns->Vals (ns.map V.int) vs
 |_,_,.nil=>.nil
 |_,_,.cons n t h=>.cons ⟨t,rfl⟩ (Ik h)
def QO (H:Hp):Prop:=∀b,H b=none\/∃o xs,H b=some (.M2 o (.lst xs))
theorem K6 {P:Program}{w:World}{K:zb}{mg mb:Str->Option Value}{CX:MF}{k:Nat}{fa a:Addr}{fd:FuncData}{x:Str}{sp:Sp}{s₁:Shared}{vs:List Value}{ns:List Int}
 (KX:K.In s₁.heap) (cE:s₁.heap.Ns mainGlobals mg) (hb:s₁.heap.Ns builtinsNs mb) (i5:∀x:Str,x ≠ "__name__" -> mb x=bootBuiltins x) (fy:s₁.heap.NoLimit) (hg:s₁.gens=#[])
 (ha:s₁.heap.get? a=some {cls:=.type "list",data:=.seq vs.toArray}) (hi:IntsAre vs ns) (hl:ns.length<=sizeLine) (hr:C0 k callerA)
 (F:∀base:Heap,K.In base->base.Ns mainGlobals mg->EU P w K mg base CX k fa fd [x] sp) (dY:∀(s:Shared) (u:Value),BindsTo s fd ⟨[u],[]⟩ [(x,u)])
 (cu:∀H:Hp,QO H->DX K H a (ns.map V.int)->sp [.ref a] H (λ v _=>v=.bl true) λ _ _ _=>False)
 (dZ:∀H e s',CX [] H s₁ (λ _ _ _=>False) e s'->False):
 codeAny (model P w) callerA (.call (.ref fa) ⟨[.ref a],[]⟩) (λ r s'=>r=.ok (.ret (.bool true))/\OldK s₁.heap s'.heap/\s'.os=s₁.os/\AllBare s'.gens) s₁:=by
 have rv:=Ik hi;have fz:=hi.length;have core:∀H:Hp,QO H->DX K H a (ns.map V.int)->DF P w H s₁.heap->(∀b,H b≠none->b=a)->(H a≠none->K.lookup a=none)->
  codeAny (model P w) callerA (.call (.ref fa) ⟨[.ref a],[]⟩) (λ r s'=>r=.ok (.ret (.bool true))/\OldK s₁.heap s'.heap/\s'.os=s₁.os/\AllBare s'.gens) s₁:=by
  intro H hO hS AF hA hK;have bK:∀ {b:Addr} {o:Obj},s₁.heap.get? b=some o->H b=none->(IX s₁.heap H).get? b=some o:=λ e n=>NH e n;have dS:∀ {b:Addr} {o:Obj} {es:Array DictEntry} {ep:Nat},s₁.heap.get? b=some o->o.data=.dict es ep->H b=none:=fun {b o es ep} e d=>by
   cases q:H b with
   |none=>rfl
   |some u =>
    have e':b=a:=hA b (by rw[q];simp);subst e';rw[ha] at e;cases e;have d':Data.seq vs.toArray _=Data.dict es ep:=d;cases d'
  have eR:∀ {b:Addr} {m:Str->Option Value},s₁.heap.Ns b m->(IX s₁.heap H).Ns b m:=fun {b m} ⟨o,es,ep,e,d,r⟩=>⟨o,es,ep,bK e (dS e d),d,r⟩;have gQ:K.In (IX s₁.heap H):=λ b o e=>bK (KX b o e) (by
   cases q:H b with
   |none=>rfl
   |some u =>
    have e':b=a:=hA b (by rw[q];simp);subst e';rw[hK (by rw[q];simp)] at e;cases e)
  have hM:Mod K mg (IX s₁.heap H):=⟨gQ,eR cE,⟨mb,eR hb,i5⟩,let ⟨mc,h1,h2⟩:=fy;⟨mc,eR h1,h2⟩⟩;have e0:QD P w K mg (IX s₁.heap H) callerA [] s₁ H:=⟨rfl,hM,λ b o e=>Qk e,Nat.le_of_eq (Mz _ _),trivial,λ b hb=>absurd (show b∈([]:List Addr) from hb) (by simp),AF,.of_eq hg⟩;refine codeAny_mono ((F _ gQ (eR cE)).run callerA [] s₁ H ⟨[.ref a],[]⟩ [.ref a] [.ref a] _ _ hr e0 (dY s₁ (.ref a)) (.cons rfl .nil) (cu H hO hS)) λ r s' h=>?_;cases r with
  |error e=>exact (dZ H e s' h).elim
  |ok fl =>
   cases fl with
   |next|brk|cont=>exact yq h
   |ret u =>
    obtain⟨v,H',os,bare,un,cV,r',q⟩:=h;have q':v=.bl true:=q;subst q';obtain rfl:u=Value.bool true:=r';refine⟨rfl,OldK.of_keep λ b o e=>?_,os,bare⟩;cases q:H b with
    |none=>exact un.keep b o e q (by intro z;exact absurd (show b∈([]:List Addr) from z) (by simp)) (by simp)
    |some u =>
     rcases hO b with z|⟨ob,xs,z⟩
     ·rw[q] at z;cases z
     ·have z2:=un.ES b ob _ z;obtain⟨e1,_⟩:=AF b _ z;obtain⟨e2,_⟩:=cV b _ z2;rw[e] at e1;cases e1;exact e2
 cases hk:K.lookup a with
 |some o =>
  have e:=KX a o hk;rw[ha] at e;cases e;refine core (λ _=>none) (λ _=>.inl rfl) (.inr ⟨_,vs.toArray,_,hk,rfl,rfl,rfl,by rw[zm,fz];exact hl,by simpa using rv⟩) (λ b u z=>by have z':(none:Option HO)=some u:=z;cases z') (λ b z=>absurd rfl z) λ z=>absurd rfl z
 |none =>
  refine core (λ b=>if b=a then some (.M2 {cls:=.type "list",data:=.seq vs.toArray} (.lst (ns.map V.int))) else none) (λ b=>?_) (.inl (.inr ⟨{cls:=.type "list",data:=.seq vs.toArray},if_pos rfl⟩)) (λ b u z=>?_) (λ b z=>?_) λ _=>hk
  ·by_cases hb:b=a
   ·exact .inr ⟨_,_,if_pos hb⟩
   ·exact .inl (if_neg hb)
  ·by_cases hb:b=a
   ·have z':=(if_pos hb).symm.trans z;cases z';subst hb;exact⟨ha,by rw[zo];exact hl,vs,_,rv,ha⟩
   ·have z':=(if_neg hb).symm.trans z;cases z'
  ·by_cases hb:b=a
   ·exact hb
   ·exact absurd (if_neg hb) z
noncomputable abbrev QP:MF:=λ _ _ _ _ _ _=>False
noncomputable abbrev E0:XK:=λ _ _ _=>False
structure O6 (K:zb)(x qual:Str)(st:Stmt)(f:Addr)(fd:FuncData):Prop where
 ex:∃(oc:Value) (od:Option Addr) (kV doc pm:Value) (an:Option Addr) (Bx ct:Value) (QF:Array (Option Value)),
  fd=zS x qual (AV st) (AL st) (A5 st) .none kV doc pm an Bx ct/\K.lookup f=some ⟨oc,od,.func fd,QF⟩/\yg K Bx qual=true
 kp:zY K (.ref f)=true
section
variable {P:Program}{w:World}{K:zb}{mg:Str->Option Value}{base:Heap}
theorem O6.ok {x qual:Str}{st:Stmt}{f:Addr}{fd:FuncData}{N ps:List Str}{k:Nat}{sp:Sp}(F:O6 K x qual st f fd)(S:Am N ps (A5 st))(len:∀vs H Q E,sp vs H Q E->vs.length=ps.length)
 (bW:∀(Bx:Value) (A:Around) (outer:List Env) (s:Shared) (H:Hp) (vs:List V) (Q:VK) (E:XK),C0 k (A.deeper (envOfC qual (A5 st) s.heap.objs.size f Bx))->sp vs H Q E->
  ∃t,MA (Fl QP P w K mg base N qual (A5 st) f Bx A outer s H E).UM (AL st) t/\t {nx:=λ _ H'=>Q .Ar H',rt:=Q} (start N vs) H):EU P w K mg base QP (k+1) f fd ps sp:=by
 obtain⟨oc,od,kV,doc,pm,an,Bx,ct,QF,rfl,lk,bJ⟩:=F.ex;refine Si lk bJ S len λ A outer s H vs Q E hr cu=>?_;obtain⟨t,h,q⟩:=bW Bx A outer s H vs Q E hr cu;exact⟨t,h.UM,q⟩
theorem O6.binds {x qual:Str}{st:Stmt}{f:Addr}{fd:FuncData}{ps:List Str}(F:O6 K x qual st f fd)
 (h:∀(kV doc pm:Value) (an:Option Addr) (Bx ct:Value) (us:List Value),us.length=ps.length->bindArgs (zS x qual (AV st) (AL st) (A5 st) .none kV doc pm an Bx ct) ⟨us,[]⟩=pure (ps.zip us)):Binds K fd ps []:=by
 obtain⟨oc,od,kV,doc,pm,an,Bx,ct,QF,rfl,lk,bJ⟩:=F.ex;exact .all (h kV doc pm an Bx ct)
theorem Lk {x qual:Str}{st:Stmt}{f:Addr}{oc:Value}{od an:Option Addr}{QF:Array (Option Value)}{kV doc pm Bx ct:Value}(l:K.lookup f=some ⟨oc,od,.func (zS x qual (AV st) (AL st) (A5 st) .none kV doc pm an Bx ct),QF⟩)
 (c:yg K Bx qual=true) (k:zY K (.ref f)=true):O6 K x qual st f (zS x qual (AV st) (AL st) (A5 st) .none kV doc pm an Bx ct):=⟨⟨oc,od,kV,doc,pm,an,Bx,ct,QF,rfl,l,c⟩,k⟩
end
theorem B0 {n:Nat}(h:n<=1000):n<sizeLine:=Nat.lt_of_le_of_lt h (by decide)
section
variable {X:Cx}
theorem pv (i:Nat){x:Str}{pos:Pos}(hN:X.N[i]?=some x:=by rfl)(hv:W9 X.env.scope x:=by first | exact zP rfl | exact Or.inr (zP rfl) | exact Or.inr (Or.inr rfl))(hd:(x==("__debug__" : Str))=false:=by decide)
 (bJ:(x==("__classdict__" : Str))=false:=by decide):PE X (.Name x pos) (NJ i):=SI hN hv hd bJ
end
def A9 (H H':Hp):Prop:=∀b o,H b=some o->H' b=some o
theorem A9.refl (H:Hp):A9 H H:=λ _ _ h=>h
theorem A9.trans {H H1 H2:Hp}(a:A9 H H1)(b:A9 H1 H2):A9 H H2:=λ c o h=>b c o (a c o h)
theorem A9.seq {K:zb}{H H':Hp}{a:Addr}{xs:List V}(e:A9 H H')(h:DX K H a xs):DX K H' a xs:=by
 rcases h with (h|⟨o,h⟩)|h
 ·exact .inl (.inl (e _ _ h))
 ·exact .inl (.inr ⟨o,e _ _ h⟩)
 ·exact .inr h
section
variable {κ:Type} [DecidableEq κ]
noncomputable def Jd (kvs:List (κ×V))(k:κ):Option V:=(kvs.find? λ kv=>decide (kv.1=k)).map (·.2)
theorem K7 {p:κ×V}{r:List (κ×V)}{k:κ}(e:p.1=k):Jd (p::r) k=some p.2:=by simp[Jd,y8,e]
theorem K8 {p:κ×V}{r:List (κ×V)}{k:κ}(e:¬ p.1=k):Jd (p::r) k=Jd r k:=by simp[Jd,y8,e]
theorem KV.val {kvs:List (κ×V)}{vs:List (κ×Value)}(r:KV kvs vs)(k:κ):JU (Jd kvs k) (valueAt vs k):=by
 unfold KV at r;induction r with
 |nil=>exact True.intro
 | @cons p q ps qs h t ih =>
  obtain⟨h1,h2⟩:=h;by_cases e:p.1=k
  ·have e':q.1=k:=h1.symm.trans e;have b:valueAt (q::qs) k=some q.2:=by simp[valueAt,y8,e']
   rw[K7 e,b];exact h2
  ·have e':¬ q.1=k:=λ z=>e (h1.trans z);have b:valueAt (q::qs) k=valueAt qs k:=by simp[valueAt,y8,e']
   rw[K8 e,b];exact ih
end
theorem Sj {P:Program}{w:World}{k:Key}{u:Value}(r:RelV (kV k) u):(Bv P w).is k u=true:=by
 cases k with
 |inl i=>obtain⟨t,e⟩:=(show ∃t,u=Value.int i t from r);subst e;exact JS P w i t
 |inr x=>obtain⟨t,e⟩:=(show ∃t,u=Value.str x t from r);subst e;exact JT P w x t
theorem Il {P:Program}{w:World}:∀ {ks:List Key}{us:List Value},Vals (ks.map kV) us->ItemsAre (Bv P w) ks us
 |[],_,r=>by rw[List.map_nil] at r;cases r;exact .nil
 |k::ks,_,r=>by
  rw[zx] at r;cases r with
  |cons h t=>exact .cons (Sj h) (Il t)
noncomputable abbrev KT (H:Hp):List (List Key×V)->List (List Key×Addr×Value)->Prop:=Paired λ p q=>p.1=q.1/\H q.2.1=some (.tup (p.1.map kV))/\RelV p.2 q.2.2
theorem KT.val {H:Hp}{kvs:List (List Key×V)}{xs:List (List Key×Addr×Value)}(r:KT H kvs xs)(k:List Key):JU (Jd kvs k) ((atKey xs k).map (·.2)):=by
 induction r with
 |nil=>exact True.intro
 | @cons p q ps qs h t ih =>
  obtain⟨h1,_,h2⟩:=h;by_cases e:p.1=k
  ·have e':q.1=k:=h1.symm.trans e;have b:atKey (q::qs) k=some q.2:=by simp[atKey,y8,e']
   rw[K7 e,b];exact h2
  ·have e':¬ q.1=k:=λ z=>e (h1.trans z);have b:atKey (q::qs) k=atKey qs k:=by simp[atKey,y8,e']
   rw[K8 e,b];exact ih
section
variable {P:Program}{w:World}{H:Hp}{h:Heap}{a:Addr}
theorem Sk {u:HO}(ok:DF P w H h)(e:Rd H a u):Bw P w H h a u:=e.ok ok
theorem O7 {kvs:List (Key×V)}(ok:DF P w H h)(e:Rd H a (.dK kvs)):kvs.length<=sizeLine/\(a==sysModules)=false/\∃vs,KV kvs vs/\h.DictOf (Bv P w) a vs:=
 show Bw P w H h a (.dK kvs) from Sk ok e
theorem O8 {ks:List Key}(ok:DF P w H h)(e:H a=some (.tup (ks.map kV))):(tupleKind (Bv P w)).is h ks a:=by
 obtain⟨_,aa,r,o,h1,h2,n,h3⟩:=(show Bw P w H h a (.tup (ks.map kV)) from ok a _ e);exact⟨o,aa.toArray,n,h1,h2,h3,by simpa using Il r⟩
theorem O9 {kvs:List (List Key×V)}(ok:DF P w H h)(e:Rd H a (.dT kvs)):kvs.length<=sizeLine/\(a==sysModules)=false/\
 ∃xs,KT H kvs xs/\h.DictOfH (tupleKind (Bv P w)) a xs:=by
 obtain⟨z,y,xs,r,o,es,ep,h1,h2,h3,h4,h5⟩:=(show Bw P w H h a (.dT kvs) from Sk ok e);refine⟨z,y,xs,r,o,es,ep,h1,h2,h3,h4,λ x hx=>?_,h5⟩;have all:∀ {l:List (List Key×V)} {m:List (List Key×Addr×Value)},KT H l m->∀x∈m,(tupleKind (Bv P w)).is h x.1 x.2.1:=by
  intro l m q;induction q with
  |nil=>intro x hx;exact nomatch hx
  | @cons p q ps qs hq t ih =>
   intro x hx;rcases zp.mp hx with e|hx
   ·subst e;exact O8 ok (by rw[<-hq.1];exact hq.2.1)
   ·exact ih x hx
 exact all r x hx
end
def QQ (H:Hp)(a:Addr)(y:V)(r:Option V):Prop:=
 (∃kvs k,Rd H a (.dK kvs)/\y=kV k/\r=Jd kvs k)\/∃kvs k b,Rd H a (.dT kvs)/\y=.ref b/\H b=some (.tup (k.map kV))/\r=Jd kvs k
section
variable {X:Cx}{pins:List (Addr×Obj)}{σ:St}{H:Hp}{s:Shared}{a:Addr}{y v:V}{u r:Value}{o:Option V}{A:Around}{E:Value->Shared->Prop}
theorem ML {Q:Value->Shared->Prop}(hu:A.units+1<cLine)(I:Inv X pins σ H s)(g:QQ H a y (some v))(ry:RelV y u)(h:∀w' s',Inv X pins σ H s'->RelV v w'->Q w' s'):
 wpAny (model X.prog X.w) A (getItem (.ref a) u) Q E s:=by
 rcases g with ⟨kvs,k,e,ey,l⟩|⟨kvs,k,b,e,ey,eb,l⟩
 ·subst ey;obtain⟨z,hd,vs,rel,dd⟩:=O7 I.AF e;obtain⟨w',hw,bP⟩:=JU.some_of (v:=v) (o:=valueAt vs k) (by rw[l];exact rel.val k);exact wpAny_getItem_of (Sj ry) dd.mapOf hw (h w' _ (I.tok _) bP)
 ·subst ey;cases (show u=Value.ref b from ry);obtain⟨z,hd,xs,rel,dd⟩:=O9 I.AF e;obtain⟨w',hw,bP⟩:=JU.some_of (v:=v) (o:=(atKey xs k).map (·.2)) (by rw[l];exact rel.val k);obtain⟨p,hp,i6⟩:=zX.mp hw;refine wpAny_getItem_heap (tupleKind_room_in1 hu) (O8 I.AF eb) dd hp ?_;rw[i6];exact h w' _ (I.tok _) bP
end
theorem K9 {X:Cx}{pins:List (Addr×Obj)}{σ:St}{H:Hp}{s:Shared}{a:Addr}{y:V}{o:Option V}(I:Inv X pins σ H s)(g:QQ H a y o):s.TypeIs (.ref a) "dict" := by
 rcases g with ⟨kvs,k,e,_,_⟩|⟨kvs,k,b,e,_,_,_⟩
 ·obtain⟨_,_,vs,_,dd⟩:=O7 I.AF e;exact dd.typeIs
 ·obtain⟨_,_,xs,_,dd⟩:=O9 I.AF e;exact dd.typeIs
def XG (H:Hp)(a:Addr):Prop:=(∃kvs,Rd H a (.dK kvs))\/∃kvs,Rd H a (.dT kvs)
theorem Oa {X:Cx}{pins:List (Addr×Obj)}{σ:St}{H:Hp}{s:Shared}{a:Addr}(I:Inv X pins σ H s)(d:XG H a):
 s.TypeIs (.ref a) "dict" /\ (∀b,Value.ref a=.ref b->∃ob,s.heap.get? b=some ob/\ob.dict=none)/\(a==sysModules)=false:=by
 rcases d with ⟨kvs,e⟩|⟨kvs,e⟩
 ·obtain⟨_,hd,vs,_,dd⟩:=O7 I.AF e;refine⟨dd.typeIs,λ b q=>?_,hd⟩;cases q;obtain⟨ob,_,_,h1,h2,_⟩:=dd;exact⟨ob,h1,h2.2.1⟩
 ·obtain⟨_,hd,xs,_,dd⟩:=O9 I.AF e;refine⟨dd.typeIs,λ b q=>?_,hd⟩;cases q;obtain⟨ob,_,_,h1,h2,_⟩:=dd;exact⟨ob,h1,h2.2.1⟩
noncomputable def EK (sc outer:Scope):Bool:=
 decide (sc.kind=.function)&&sc.names.all λ y=>decide (y.2≠.cell)&&(decide (y.2≠.free)||decide (outer.names.lookup y.1=some .cell)||decide (outer.names.lookup y.1=some .free))&&(decide (y.2≠.local)||decide (sc.names.lookup y.1=some .local))
noncomputable def GI (N NB:List Str)(sc:Scope)(μ:List (Option Nat)):Bool:=
 decide (NB.length=μ.length)&&(NB.zip μ).all λ p=>match p.2 with
  |none=>true
  |some i=>decide (N[i]?=some p.1)&&decide (sc.names.lookup p.1=some .free)
noncomputable def Dg (μ:List (Option Nat))(σ:St):St:=μ.map λ o=>o.bind λ i=>(σ[i]?).join
noncomputable def CU (cells:List (Str×Addr)):List (Str×NameKind)->List (Str×Addr)->List (Str×Addr)
 |[],cs=>cs
 |(n,k)::r,cs=>CU cells r (if (k==.free)=true then (n,(cells.lookup n).getD 0)::cs else cs)
theorem CV {scope:Scope}{env:Env}(h:∀y∈scope.names,y.2=.free->∃c,env.cells.lookup y.1=some c):closureFor scope env=pure (CU env.cells scope.names []):=by
 unfold closureFor;have key:∀(names:List (Str×NameKind)) (cs:List (Str×Addr)),(∀y∈names,y.2=.free->∃c,env.cells.lookup y.1=some c)->
  (forIn names cs λ(x:Str×NameKind) r=>match x with
   |(name,kind)=>if (kind==yz)=true then do
    let __do_lift <-cellOf env name
    pure (yk ((name,__do_lift)::r))
    else pure (yk r):Sem _)=pure (CU env.cells names cs):=by
  intro names;induction names with
  |nil=>intro cs _;rfl
  |cons y r ih =>
   intro cs hy;obtain⟨n,k⟩:=y;rw[List.forIn_cons];by_cases hk:k=.free
   ·subst hk;obtain⟨c,hc⟩:=hy (n,.free) zf rfl;have e:cellOf env n=pure c:=by unfold cellOf;rw[show env.cells.lookup n=some c from hc]
    simp only[e,beq_self_eq_true,if_true,pure_bind];rw[ih _ λ z hz=>hy z (zg _ hz)];simp only[CU,beq_self_eq_true,if_true];rw[show env.cells.lookup n=some c from hc];rfl
   ·have hb:(k==yz)=false:=by simpa using hk
    simp only[hb,zC,if_false,pure_bind];rw[ih _ λ z hz=>hy z (zg _ hz)];simp only[CU,hb,zC,if_false]
 have q:=key scope.names [] h;simp only[bind_pure];exact q
theorem Ka {cells:List (Str×Addr)}:∀ {names:List (Str×NameKind)}{cs:List (Str×Addr)}{x:Str}{c:Addr},(x,c)∈CU cells names cs->(x,c)∈cs\/((x,.free)∈names/\c=(cells.lookup x).getD 0)
 |[],cs,x,c,h=>.inl h
 |(n,k)::r,cs,x,c,h=>by
  rcases Ka (names:=r) h with q|⟨q,e⟩
  ·by_cases hk:k=.free
   ·subst hk;simp only[beq_self_eq_true,if_true] at q;rcases zp.mp q with z|z
    ·cases z;exact .inr ⟨zf,rfl⟩
    ·exact .inl z
   ·have hb:(k==yz)=false:=by simpa using hk
    simp only[hb,zC,if_false] at q;exact .inl q
  ·exact .inr ⟨zg _ q,e⟩
theorem GJ {cells:List (Str×Addr)}:∀ {names:List (Str×NameKind)}{cs:List (Str×Addr)}{p:Str×Addr},p∈cs->p∈CU cells names cs
 |[],_,_,h=>h
 |(n,k)::r,cs,p,h=>by
  show p∈CU cells r _;refine GJ ?_;by_cases hk:(k==yz)=true
  ·rw[if_pos hk];exact zg _ h
  ·rw[if_neg hk];exact h
theorem GK {cells:List (Str×Addr)}:∀ {names:List (Str×NameKind)}{cs:List (Str×Addr)}{x:Str},(x,.free)∈names->∃c,(x,c)∈CU cells names cs
 |(n,k)::r,cs,x,h=>by
  rcases zp.mp h with z|z
  ·cases z;refine⟨(cells.lookup n).getD 0,?_⟩;show _∈CU cells r (if (yz==yz)=true then _ else _);exact GJ (by rw[if_pos (beq_self_eq_true _)];exact zf)
  ·exact GK (names:=r) z
theorem CW {x:Str}{c:Addr}:∀ {l:List (Str×Addr)},(x,c)∈l->∃c',l.lookup x=some c'
 |(y,d)::r,h=>by
  rw[List.lookup_cons];by_cases e:(x==y)=true
  ·rw[e];exact⟨d,rfl⟩
  ·rw[Bool.eq_false_iff.mpr e];rcases zp.mp h with z|z
   ·cases z;exact absurd (beq_self_eq_true x) e
   ·exact CW z
theorem Fn {scope:Scope}{env:Env}{x:Str}{k:NameKind}(h:(relabel scope env).names.lookup x=some k):∃k',scope.names.lookup x=some k'/\(k=k'\/(k'=.free/\k=.cell)):=by
 unfold relabel at h;dsimp only at h;revert h;induction scope.names with
 |nil=>intro h;cases h
 |cons y r ih =>
  obtain⟨n,k'⟩:=y;intro h;rw[zx,List.lookup_cons] at h;rw[List.lookup_cons];by_cases hc:(k'==yz&&env.scope.kind==.function&&env.kindOf n==some .cell)=true
  ·dsimp only at h;rw[if_pos hc] at h;dsimp only at h;cases e:x==n with
   |true =>
    rw[e] at h;have hf:k'=.free:=by
     have:=hc;simp only[zA] at this;simpa using this.1.1
    exact⟨k',rfl,.inr ⟨hf,(zF h).symm⟩⟩
   |false=>rw[e] at h;exact ih h
  ·dsimp only at h;rw[if_neg hc] at h;dsimp only at h;cases e:x==n with
   |true=>rw[e] at h;exact⟨k',rfl,.inl (zF h).symm⟩
   |false=>rw[e] at h;exact ih h
theorem lookup_mem {α:Type}{x:Str}{k:α}:∀ {l:List (Str×α)},l.lookup x=some k->(x,k)∈l
 |(y,d)::r,h=>by
  rw[List.lookup_cons] at h;cases e:x==y with
  |true =>
   rw[e] at h;cases h;have:x=y:=by simpa using e
   subst this;exact zf
  |false=>rw[e] at h;exact zg _ (lookup_mem h)
noncomputable def blockOf (X:Cx)(s:Shared)(H:Hp)(scope:Scope)(C:Addr)(NB:List Str)(ex:List Addr):Cx:=
 {X with N:=NB,s₀:=s,H₀:=H,env:=compEnvC scope (CU X.env.cells scope.names []) C X.env,outer:=X.stack,stack:=X.stack,ex:=ex,fn:=λ _=>false,pn:=[],xe:=λ _ _=>False}
section
variable {X:Cx}{pins:List (Addr×Obj)}{σ:St}{H:Hp}{s s4:Shared}{scope:Scope}{NB:List Str}{μ:List (Option Nat)}{fp:List Addr}{C:Addr}
theorem Cf (h:EK scope X.env.scope=true):scope.kind=.function:=by
 unfold EK at h;simp only[zA,decide_eq_true_eq] at h;exact h.1
theorem CM {sc outer:Scope}(h:EK sc outer=true){y:Str×NameKind}(hy:y∈sc.names):y.2≠.cell/\(y.2=.free->outer.names.lookup y.1=some .cell\/outer.names.lookup y.1=some .free)/\(y.2=.local->sc.names.lookup y.1=some .local):=by
 unfold EK at h;simp only[zA,decide_eq_true_eq,yf,Bool.or_eq_true] at h;obtain⟨⟨h1,h2⟩,h3⟩:=h.2 y hy;exact⟨h1,λ e=>by
  rcases h2 with (q|q)|q
  ·exact absurd e q
  ·exact .inl q
  ·exact .inr q,λ e=>h3.elim (λ q=>absurd e q) id⟩
theorem Dh (I:Inv X pins σ H s)(h:EK scope X.env.scope=true){x:Str}(hx:(x,.free)∈scope.names):∃c,X.env.cells.lookup x=some c:=I.ok.has x ((CM h hx).2.1 rfl)
theorem BW (I:Inv X pins σ H s)(h:EK scope X.env.scope=true){x:Str}{c:Addr}(e:(CU X.env.cells scope.names []).lookup x=some c):X.env.cells.lookup x=some c:=by
 rcases Ka (lookup_mem e) with q|⟨q,r⟩
 ·cases q
 ·obtain⟨c',e'⟩:=Dh I h q;rw[e'] at r;rw[e',r];rfl
theorem GL {env:Env}(h:EK scope env.scope=true){x:Str}{k:NameKind}(hk:(relabel scope env).names.lookup x=some k)(hc:k=.cell\/k=.free):(x,.free)∈scope.names:=by
 obtain⟨k',e,q⟩:=Fn hk;have m:=lookup_mem e;have n:=(CM h m).1;rcases q with q|⟨q,_⟩
 ·subst q;rcases hc with z|z
  ·exact absurd z n
  ·subst z;exact m
 ·subst q;exact m
theorem QR (h:GI X.N NB scope μ=true):NB.length=μ.length/\∀(j i:Nat),μ[j]?=some (some i)->∃x,NB[j]?=some x/\X.N[i]?=some x/\scope.names.lookup x=some .free:=by
 unfold GI at h;simp only[zA,decide_eq_true_eq,yf] at h;refine⟨h.1,λ j i e=>?_⟩;have hj:j<NB.length:=by rw[h.1];exact (zI.mp e).1
 have m:(NB[j],some i)∈NB.zip μ:=by
  refine List.mem_iff_getElem?.mpr ⟨j,?_⟩;rw[List.getElem?_zip_eq_some];exact⟨z0 hj,e⟩
 have q:=h.2 _ m;dsimp only at q;simp only[zA,decide_eq_true_eq] at q;exact⟨NB[j],z0 hj,q.1,q.2⟩
theorem Gf (I:Inv X pins σ H s)(aI:EK scope X.env.scope=true)(bd:GI X.N NB scope μ=true)(cw:∀b∈fp,ET X pins H b)(cW:∀b∈fp,∃o,s.heap.get? b=some o)
 (hC:s.heap.objs.size<=C) {h4:Heap} {t4:Nat} (ns:h4.Ns C λ _=>none) (k:∀b o,s.heap.get? b=some o->h4.get? b=some o):
 Inv (blockOf X s H scope C NB fp) [] (Dg μ σ) H {s with heap:=h4,toks:=t4}:=by
 obtain⟨hlen,bd⟩:=QR bd;have gR:∀b o,s.heap.get? b=some o->b≠C:=λ b o e=>zG (zt (zk e) hC);have eS:∀x c,X.env.cells.lookup x=some c->c≠C:=λ x c e=>by
  obtain⟨v,o,ho,_⟩:=I.cell x c e;exact gR c o ho
 refine⟨⟨I.ok.mod,(show scope.kind=_ from Cf aI),I.ok.glob,I.ok.blt,hC,λ x y c h1 h2=>I.ok.inj x y c (BW I aI h1) (BW I aI h2),λ x hx=>?_,λ x c h _=>(by cases h),I.ok.hd,I.ok.frames,.inl rfl,λ b hb=>?_,I.bs,zD I.ok.NI I.sz,λ b o e hb=>?_,λ b hb hz=>?_,I.stack,I.Fh⟩,
  rfl,I.bare,Un.kept k,⟨_,ns,λ j x v e1 e2 e3=>?_⟩,λ x c e=>?_,I.AF.fresh hC,λ x c e=>I.BN x c (BW I aI e),λ p hp=>(by cases hp),I.AF.kept k,?_⟩
 ·have q:(x,yz)∈scope.names:=by
   rcases hx with hx|hx
   ·exact GL aI hx (.inl rfl)
   ·exact GL aI hx (.inr rfl)
  obtain⟨c,m⟩:=GK (cells:=X.env.cells) (cs:=[]) q;exact CW m
 ·obtain⟨o,ho⟩:=cW b hb;refine⟨gR b o ho,λ x c e z=>?_⟩;exact (cw b hb).2.2.2.2.1 x c (BW I aI e) z
 ·rcases (cw b hb).2.2.2.1 with z|z
  ·exact I.ok.JV b o e z
  ·exact absurd (zt (zk (I.ok.bs b o e).1) z) (Nat.lt_irrefl _)
 ·rcases zp.mp (I.Lf b hz) with e|e
  ·exact (cw b hb).2.1 e
  ·exact (cw b hb).2.2.1 e
 ·have ec:(μ[j]?).map (λ o=>o.bind λ i=>(σ[i]?).join)=some (some v):=by
   rw[<-zR];exact e2
  cases q:μ[j]? with
  |none=>rw[q] at ec;cases ec
  |some o =>
   rw[q] at ec;cases o with
   |none=>cases ec
   |some i =>
    have e4:(σ[i]?).join=some v:=by simpa using ec
    have e5:σ[i]?=some (some v):=by
     cases z:σ[i]? with
     |none=>rw[z] at e4;cases e4
     |some w=>rw[z] at e4;simp at e4;rw[e4]
    obtain⟨x',n1,n2,n3⟩:=bd j i q;have ex:x'=x:=zF (n1.symm.trans e1);subst ex;have m:=lookup_mem n3;have ov:=(CM aI m).2.1 rfl;obtain⟨mm,hn,hl⟩:=I.loc;obtain⟨u,r,l⟩:=hl i x' v n2 e5 (ov.elim (λ z=>.inr (.inl z)) λ z=>.inr (.inr z));refine⟨u,r,.inr ⟨?_,?_⟩⟩
    ·rcases e3 with z|z|z
     ·obtain⟨k',z1,z2⟩:=Fn (k:=.local) z;rw[n3] at z1;cases z1;rcases z2 with z2|⟨_,z2⟩<;>cases z2
     ·exact .inl z
     ·exact .inr z
    ·rcases l with ⟨l,_⟩|⟨_,c,l1,l2⟩
     ·rcases ov with z|z<;>(rw[show X.env.kindOf x'=_ from z] at l;cases l)
     ·obtain⟨c',m'⟩:=GK (cells:=X.env.cells) (cs:=[]) m;obtain⟨jH,l3⟩:=CW m';have l4:=BW I aI l3;rw[l1] at l4;cases l4;refine⟨c,l3,?_⟩;obtain⟨o,ho,hd⟩:=l2;exact⟨o,k _ _ ho,hd⟩
 ·obtain⟨v,o,ho,hd⟩:=I.cell x c (BW I aI e);exact⟨v,o,k _ _ ho,hd⟩
 ·show (Dg μ σ).length=NB.length;unfold Dg;rw[zo,hlen]
theorem DF.adopt {P:Program}{w:World}{H:Hp}{h:Heap}{a:Addr}{o:HO}(x:DF P w H h)(hn:H a=none)(new:Bw P w (upd H a o) h a o):DF P w (upd H a o) h:=λ b u e=>by
 by_cases hb:b=a
 ·subst hb;rw[Bi] at e;cases e;exact new
 ·rw[An hb] at e;exact (x b u e).GB (λ c v _ q=>q) (λ c q=>by rw[An (Ap q hn)];exact q) λ c xs q=>by rw[An (Ap q hn)];exact q
theorem Im {H':Hp}{s':Shared}{h':Heap}{D:Addr}{pl:List (Addr×Obj)}{σ':St}{aa:List Value}{ys:List V}{n:Nat}(I:Inv X pins σ H s)(cw:∀b∈fp,ET X pins H b)(J:Inv (blockOf X s H scope C NB fp) pl σ' H' s')
 (hC:s.heap.objs.size<=C) (hD:s.heap.objs.size<=D) (b3:D≠C) (eD:s'.heap.get? D=some {cls:=.type "list",data:=.seq aa.toArray n}) (nD:H' D=none) (r:Vals ys aa) (hz:ys.length<=sizeLine)
 (sb:Heap.SameBut C s'.heap h'):Inv X pins σ (upd H' D (.lst ys)) {s' with heap:=h' }:=by
 have cX:∀b o,s.heap.get? b=some o->b≠C:=λ b o e=>zG (zt (zk e) hC);have f8:∀b o,s.heap.get? b=some o->b≠D:=λ b o e=>zG (zt (zk e) hD);have freshD:H D=none:=I.AF.fresh hD;have nC:H' C=none:=J.free;have u:Un (BS X.stack) fp H H' s.heap s'.heap:=J.base;have cV:DF X.prog X.w H' h':=λ b ob e=>(J.AF b ob e).GB (λ c v hc q=>(sb.2 c (by
  intro z;subst z;rcases hc with rfl|hc
  ·rw[nC] at e;cases e
  ·rw[nC] at hc;cases hc)).trans q) (λ _ q=>q) λ _ _ q=>q
 refine I.Ge (ch:=fp) J.os ⟨λ b o e n hb hx=>?_,λ b o e n hb hx=>?_,λ b o e n hx=>?_,λ b o e hx=>?_,λ b xs e=>?_,λ b o u' e=>?_,λ b ps e=>?_⟩ (cV.adopt nD ⟨hz,aa,n,r,(sb.2 D b3).trans eD⟩) J.bare λ b hb=>?_
 ·exact (sb.2 b (cX b o e)).trans (u.keep b o e n hb hx)
 ·obtain⟨sl,q⟩:=u.slot b o e n hb hx;exact⟨sl,(sb.2 b (cX b o e)).trans q⟩
 ·rw[An (f8 b o e)];exact u.free b o e n hx
 ·obtain⟨o',q⟩:=u.there b o e hx;exact⟨o',(sb.2 b (cX b o e)).trans q⟩
 ·rw[An (Ap e freshD)];exact u.Ff b xs e
 ·rw[An (Ap e freshD)];exact u.ES b o u' e
 ·rw[An (Ap e freshD)];exact u.Fg b ps e
 ·obtain⟨_,f1,_,f3,f4,f5⟩:=cw b hb;exact⟨f3,f1,f4,f5⟩
end
theorem Je {prog:Program}{w:World}{A:Around}{R:Result->Shared->Prop}{s:Shared}{elt target iter:Expr}{ifs:List Expr}{scope:Scope}{pos:Pos}{it acc:Value}{env:Env}(I:Nat->Shared->Prop)
 (turn:∀n s,I n s->wpAny (model prog w) A (pyNext it) (λ r s₁=>match r with
  |none=>R (.ok .next) s₁
  |some v=>wpAny (model prog w) A (letOwnedTupleGo target it v) (λ _ s₁'=>wpAny (model prog w) A (assign target env v) (λ _ s₂ =>
   wpAny (model prog w) A (forIn ifs true λ c r=>if r=true then do let ok <-isTrue c env (eval c env);pure (yk ok) else pure (yk r)) (λ ok s₃ =>
    if ok=true then wpAny (model prog w) A (eval elt env) (λ x s₄ =>
     wpAny (model prog w) A (call (.builtin "list.append") [acc,x]) (λ _ s₅=>∃m,m<n/\I m s₅) (λ _ _=>False) s₄) (λ _ _=>False) s₃
    else ∃m,m<n/\I m s₃) (λ _ _=>False) s₂) (λ _ _=>False) s₁') (λ _ _=>False) s₁) (λ _ _=>False) s)
 (n:Nat) (h:I n s):
 codeAny (model prog w) A (.compLoop (.ListComp elt [⟨target,iter,ifs,0⟩] scope pos) 0 it acc env) R s:=by
 refine codeAny_loop rfl I (λ n s hI=>?_) n h;show wpAny _ A ((compTurn (.ListComp elt [⟨target,iter,ifs,0⟩] scope pos) 0 it acc env).onRaise (λ x=>do noteFrame x env;theTreesLotGoes x)) _ _ s;refine wpAny_noted ?_;rw[compTurn_list];refine wpAny_bind (wpAny_standAt (wpAny_bind (wpAny_mono (turn n s hI) (λ r s₁ h₁=>?_) λ _ _ h'=>h'.elim)));cases r with
 |none=>exact wpAny_pure h₁
 |some v =>
  refine wpAny_bind (wpAny_mono h₁ (λ _ s₁' h₁'=>?_) λ _ _ h'=>h'.elim);refine wpAny_bind (wpAny_mono h₁' (λ _ s₂ h₂=>wpAny_bind (wpAny_mono h₂ (λ ok s₃ h₃=>?_) λ _ _ h'=>h'.elim)) λ _ _ h'=>h'.elim);cases ok with
  |false=>exact wpAny_pure ⟨rfl,h₃⟩
  |true =>
   exact wpAny_bind (wpAny_bind (wpAny_mono h₃ (λ x s₄ h₄=>wpAny_bind (wpAny_mono h₄ (λ _ s₅ h₅=>wpAny_pure (wpAny_pure ⟨rfl,h₅⟩)) λ _ _ h'=>h'.elim)) λ _ _ h'=>h'.elim))
def Th (X:Cx)(cs:List Expr)(t:TT):Prop:=
 ∀(pins:List (Addr×Obj)) (s:Shared) (σ:St) (H:Hp) (Q:Bool->Hp->Prop),Inv X pins σ H s->t σ H Q->
  wpAny (model X.prog X.w) X.A (forIn cs true λ c r=>if r=true then do let ok <-isTrue c X.env (eval c X.env);pure (yk ok) else pure (yk r)) (TP X pins σ Q) X.xe s
noncomputable def V6:TT:=λ _ H Q=>Q true H
theorem M6 {X:Cx}:Th X [] V6:=λ _ _ _ H _ I h=>wpAny_tests_nil ⟨H,I,h⟩
def Di (μ:List (Option Nat))(g:TG):Prop:=∀σ x H Q,g x (Dg μ σ) H Q->g x (Dg μ σ) H λ σ' H'=>Q σ' H'/\∀(j:Nat) v,(Dg μ σ)[j]?=some (some v)->σ'[j]?=some (some v)
theorem M7 {μ:List (Option Nat)}{i:Nat}(h:μ[i]?=some none):Di μ (JZ i):=λ σ x H Q q=>by
 refine⟨q,λ j v e=>?_⟩;have ay:j≠i:=λ z=>by
  subst z;unfold Dg at e;rw[zR,h] at e;cases e
 rw[zL (Ne.symm ay)];exact e
def Wz (J:It)(H1:Hp)(Q:VK)(st:V->Hp->(St->Hp->Prop)->Prop)(tc:TT)(te:TE):Prop:=
 ∃W:Nat->Nat->List V->Hp->Prop,(∃m,W 0 m [] H1)/\∀i m ys H2,W i m ys H2->
  (J.stop i H2/\∀D,H2 D=none->Q (.ref D) (upd H2 D (.lst ys))) \/
  (J.go i H2/\ys.length<sizeLine/\∃N:List V->Hp->Prop,(∀aR H',N aR H'->∃m',m'<m/\W (i+1) m' aR H')/\∀x H3,J.Qv i H2 x H3->st x H3 λ σ4 H4=>tc σ4 H4 λ b H5=>if b=true then te σ4 H5 λ y H6=>N (ys++[y]) H6 else N ys H5)
noncomputable def Io (wi:TI)(μ:List (Option Nat))(g:TG)(tc:Shared->Hp->Addr->List Addr->TT)(te:Shared->Hp->Addr->List Addr->TE):TE:=λ σ H Q=>wi σ H λ J H1=>∀s C ex,Wz J H1 Q (λ x H K=>g x (Dg μ σ) H K) (tc s H1 C ex) (te s H1 C ex)
section
variable {X:Cx}{pins:List (Addr×Obj)}{σ:St}{H2:Hp}{s2:Shared}{tg elt iter:Expr}{ifs:List Expr}{scope:Scope}{pos:Pos}{NB:List Str}{μ:List (Option Nat)}{g:TG}{tc:Shared->Hp->Addr->List Addr->TT}{te:Shared->Hp->Addr->List Addr->TE}{fp:List Addr}{it:Addr}{tn:Nat->Heap->Prop}{J:It}{Q:VK}
theorem Ip (hc:X.calm=true)(I2:Inv X pins σ H2 s2)(T:Turn X.prog X.w X.K tg J fp it tn)(bD:tn 0 s2.heap)(f2:∀b∈fp,ET X pins H2 b)
 (aI:EK scope X.env.scope=true) (bd:GI X.N NB scope μ=true) (cF:Di μ g)
 (hb:∀(s:Shared) (H:Hp) (C:Addr) (ex:List Addr),PG (blockOf X s H scope C NB ex) tg g/\Th (blockOf X s H scope C NB ex) ifs (tc s H C ex)/\PE (blockOf X s H scope C NB ex) elt (te s H C ex))
 (q:∀C,Wz J H2 Q (λ x H K=>g x (Dg μ σ) H K) (tc s2 H2 C fp) (te s2 H2 C fp)) {RR:Value->Addr->Result->Shared->Prop} {E:Value->Shared->Prop}
 (fin:∀(D C:Addr) (s':Shared) (H':Hp) (ys:List V) (m:Str->Option Value),s2.heap.objs.size<=D->s2.heap.objs.size<=C->D≠C->s'.heap.Ns C m->H' C=none->(∀h',Heap.SameBut C s'.heap h'->Inv X pins σ (upd H' D (.lst ys)) {s' with heap:=h' })->Q (.ref D) (upd H' D (.lst ys))->RR (.ref D) C (.ok .next) s'):
 wpAny (model X.prog X.w) X.A (newList []) (λ acc s₃=>wpAny (model X.prog X.w) X.A (newFunctionEnv scope X.env.globals (CU X.env.cells scope.names []) [] X.env.qual none .none (some X.env)) (λ be s₄ =>
  codeAny (model X.prog X.w) X.A (.compStart (.ListComp elt [⟨tg,iter,ifs,0⟩] scope pos) 0 (.ref it) acc {be with scope:=relabel scope X.env}) (RR acc be.locals) s₄) E s₃) E s2:=by
 have bh:∀y∈scope.names,y.2≠.cell:=λ y hy=>(CM aI hy).1;refine wpAny_newObj_type (wpAny_newFunctionEnv bh (by intro y hy;simp at hy) (λ h₁ hns₁ hsb₁=>?_) (Cf aI));dsimp only at hns₁ hsb₁ ⊢;generalize cY:s2.heap.push {cls:=.type "list",dict:=none,data:=.seq ([]:List Value).toArray}=cG at hns₁ hsb₁ ⊢;have hC:cG.objs.size=s2.heap.objs.size+1:=by rw[<-cY,Heap.size_push]
 have b3:s2.heap.objs.size≠cG.objs.size:=by rw[hC];exact zG (Nat.lt_succ_self _)
 have bX:s2.heap.objs.size<=cG.objs.size:=by rw[hC];exact Nat.le_succ _
 have old:∀b o,s2.heap.get? b=some o->h₁.get? b=some o:=λ b o e=>hsb₁.extBut b o (by rw[hC];exact zG (Nat.lt_succ_of_lt (zk e))) (zw _ (cY▸zw _ e));have eD:h₁.get? s2.heap.objs.size=some {cls:=.type "list",data:=.seq ([]:List Value).toArray}:=hsb₁.extBut _ _ b3 (zw _ (cY▸zQ _ rfl));have cW:∀b∈fp,∃o,s2.heap.get? b=some o:=λ b hb=>let ⟨o,e,_⟩:=T.obj _ _ bD b hb;⟨o,e⟩;have cZ:∀b∈fp,b≠s2.heap.objs.size:=λ b hb=>let ⟨o,e⟩:=cW b hb;zG (zk e);generalize ed:s2.heap.objs.size=D at bX b3 eD cZ ⊢;generalize i7:cG.objs.size=C at *;have aO:s2.heap.objs.size<=D:=by rw[ed];exact zv _
 have aS:s2.heap.objs.size<=C:=by rw[ed];exact bX
 have I4:Inv (blockOf X s2 H2 scope C NB fp) [] (Dg μ σ) H2 {s2 with heap:=h₁,toks:=s2.toks+([]:List (Str×Value)).length}:=Gf I2 aI bd f2 cW aS (by simpa using hns₁) old;have aU:∀ {H':Hp} {pl:List (Addr×Obj)},(∀b∈fp,H' b=none)->(∀p∈pl,p.1=D)->∀b∈fp,ET (blockOf X s2 H2 scope C NB fp) pl H' b:=fun {H' pl} hn hp b hb=>by
  refine⟨hn b hb,(I4.ok.Qm b hb).1,I4.ok.IY b hb,.inl hb,λ x c e z=>(I4.ok.Qm b hb).2 x c e z,λ p da z=>?_⟩;have db:p∈pl:=by simpa [blockOf] using da
  exact cZ b hb (z▸hp p db)
 have f9:D∉(blockOf X s2 H2 scope C NB fp).fs:=λ z=>by
  obtain⟨_,o,ho,_⟩:=I4.ok.DQ.mem z;exact absurd (zk ho) (Nat.not_lt.mpr aO)
 obtain⟨W,⟨m0,w0⟩,turn⟩:=q C;have loop:∀s₃:Shared,s₃={s2 with heap:=h₁,toks:=s2.toks+([]:List (Str×Value)).length} ->
  codeAny (model X.prog X.w) X.A (.compLoop (.ListComp elt [⟨tg,iter,ifs,0⟩] scope pos) 0 (.ref it) (.ref D) (compEnvC scope (CU X.env.cells scope.names []) C X.env)) (RR (.ref D) C) s₃:=by
  rintro s₃ rfl;refine Je (λ n s'=>∃i ys aa k H',Inv (blockOf X s2 H2 scope C NB fp) [(D,{cls:=.type "list",data:=.seq aa k})] (Dg μ σ) H' s'/\tn i s'.heap/\(∀b∈fp,H' b=none)/\Vals ys aa.toList/\ys.length<=sizeLine/\W i n ys H') ?_ m0
   ⟨0,[],#[],0,H2,I4.CL λ p hp=>?_,T.keep _ _ _ bD λ b hb o e=>old b o e,λ b hb=>(f2 b hb).1,.nil,zZ _,w0⟩
  rotate_left
  ·have e:=zB.mp hp;subst e;exact⟨eD,I2.AF.fresh aO,b3,f9,λ v=>by simp⟩
  rintro n s3 ⟨i,ys,aa,k,H3,I3,cP,cQ,rv,hz,w3⟩;rcases turn i n ys H3 w3 with ⟨stop,qn⟩|⟨go,aN,N,hN,step⟩
  ·refine wpAny_mono (T.done (blockOf X s2 H2 scope C NB fp) rfl rfl rfl hc i _ s3 _ H3 (λ _ _=>False) I3 (aU cQ (by simp)) cP stop) (λ r s4 ⟨hr,cH⟩=>?_) λ _ _ e=>e;subst hr;obtain⟨p1,p2,p3,p4,p5⟩:=cH.pin _ (zh _ zf);obtain⟨m,hn,_⟩:=id cH.loc;have e1:s4.heap.get? D=some {cls:=.type "list",data:=.seq aa.toList.toArray k}:=by simpa using p1
   exact fin D C s4 H3 ys m aO aS b3 hn cH.free (λ h' sb=>Im I2 f2 cH aS aO b3 e1 p2 rv hz sb) (qn D p2)
  ·refine wpAny_mono (T.item (blockOf X s2 H2 scope C NB fp) rfl rfl rfl hc i _ s3 _ H3 (λ _ _=>False) I3 (aU cQ (by simp)) cP go) (λ r s4 ⟨u,hr,h4⟩=>?_) λ _ _ e=>e;subst hr;refine AX h4 λ _ s5 ⟨x,H5,I5,r5,y5,bV,dP⟩=>?_;have dQ:=I5.pinned (aU dP (by simp)) (T.obj _ _ bV);have bS:=cF σ x H5 _ (step x H5 y5);obtain⟨hg,ht,he⟩:=hb s2 H2 C fp;refine AX (hg _ s5 _ H5 x u _ dQ r5 bS) λ _ s6 ⟨σ6,H6,I6,q6,k6⟩=>?_;refine AX (ht _ s6 σ6 H6 _ I6 q6) λ ok s7 ⟨H7,I7,q7⟩=>?_;have again:∀ {H8:Hp} {s8:Shared} {its':Array Value} {k':Nat} {aR:List V},Inv (blockOf X s2 H2 scope C NB fp) ([(D,{cls:=.type "list",data:=.seq its' k' })]++CS fp s5.heap) σ6 H8 s8->Vals aR its'.toList->aR.length<=sizeLine->(∃m,m<n/\W (i+1) m aR H8)->
    ∃m,m<n/\∃i ys aa k H',Inv (blockOf X s2 H2 scope C NB fp) [(D,{cls:=.type "list",data:=.seq aa k})] (Dg μ σ) H' s8/\tn i s8.heap/\(∀b∈fp,H' b=none)/\Vals ys aa.toList/\ys.length<=sizeLine/\W i m ys H':=fun {H8 s8 its' k' aR} I8 bf dA n8=>by
    obtain⟨m',hm,w8⟩:=n8;refine⟨m',hm,i+1,aR,its',k',H8,(I8.DZ.weak ?_ k6),T.keep _ _ _ bV λ b hb o e=>(I8.pin (b,o) (zh _ (zh _ (BO hb e)))).1,λ b hb=>?_,bf,dA,w8⟩
    ·rw[I8.len];exact I4.len
    ·obtain⟨o,e,d⟩:=T.obj _ _ bV b hb;exact (I8.pin (b,o) (zh _ (zh _ (BO hb e)))).2.1
   cases ok with
   |false =>
    simp only[zC,if_false] at q7 ⊢;exact again I7 rv hz (hN _ _ q7)
   |true =>
    simp only[if_true] at q7 ⊢;refine AX (he _ s7 σ6 H7 _ I7 q7) λ uy s8 ⟨y,H8,I8,r8,q8⟩=>?_;obtain⟨p1,p2,p3,p4,p5⟩:=I8.pin (D,_) (zh _ (zK _ zf));have e1:s8.heap.get? D=some {cls:=.type "list",data:=.seq aa k}:=p1;have dB:aa.size=ys.length:=by rw[<-yr];exact rv.length.symm
    refine call_meets F.slot_list_append ⟨_,e1,rfl⟩ F.entry_list_append (F.args_list_append_2 _ _) (PySem.list_append D aa k uy (by rw[dB];omega)) ⟨e1,?_⟩;have de:=PySem.IsL.update e1 (·.push uy);have Iu:Inv (blockOf X s2 H2 scope C NB fp) (CS fp s5.heap) σ6 H8 s8:=I8.CL λ p hp=>I8.pin p (zh _ (zh _ hp));have It:=Iu.turned (it:=D) (h':=s8.heap.update D (Obj.mapSeq (·.push uy))) (t':=s8.toks) (λ b o hb e=>(yw _ _ (Ne.symm hb)).trans e) p2 p3 (.inr aO) (λ x c e z=>?_) (λ p hp z=>?_)
    ·refine again (its':=aa.push uy) (k':=if (aa.push uy).size==aa.size then k else k+1) (It.CL λ p hp=>?_) (by simpa using rv.append (.cons r8 .nil)) (by rw[zq,yd];omega) (hN _ _ q8);rcases zy.mp hp with hp|hp
     ·have e:=zB.mp hp;subst e;exact⟨de,p2,p3,p4,λ v=>by simp⟩
     ·exact It.pin p (zh _ hp)
    ·have e':=BW I2 aI e;obtain⟨v,o,ho,_⟩:=I2.cell x c e';exact absurd (zk ho) (by rw[z];exact Nat.not_lt.mpr aO)
    ·have da:p∈CS fp s5.heap:=by simpa [blockOf] using hp
     exact cZ p.1 (FU da).1 z
 exact codeAny_compStart_list (loop _ rfl) (T.self _ 0 _ _ _ (T.keep _ _ _ bD λ b hb o e=>old b o e) (loop _ rfl))
theorem QS {wi:TI}(hc:X.calm=true)(hi:PI X tg iter wi)(aI:EK scope X.env.scope=true)(bd:GI X.N NB scope μ=true)(cF:Di μ g)
 (hb:∀(s:Shared) (H:Hp) (C:Addr) (ex:List Addr),PG (blockOf X s H scope C NB ex) tg g/\Th (blockOf X s H scope C NB ex) ifs (tc s H C ex)/\PE (blockOf X s H scope C NB ex) elt (te s H C ex))
 (hs:∀x,foldedSetIterable iter X.env x=pure x:=by intro _;rfl):PE X (.ListComp elt [⟨tg,iter,ifs,0⟩] scope pos) (Io wi μ g tc te):=by
 intro pins s σ H Q I h;have aX:∀y∈scope.names,y.2=.local->scope.names.lookup y.1=some .local:=λ y hy=>(CM aI hy).2.2;have b4:closureFor scope X.env=pure (CU X.env.cells scope.names []):=CV λ y hy e=>Dh I aI (x:=y.1) (by rw[<-e];exact hy);rw[eval_ListComp];refine wpAny_comprehension_free (use:=none) rfl hs b4 (Cf aI) aX (AX (hi pins s σ H _ I h) λ v s1 h1=>AX h1 λ dO s2 h2=>?_);obtain⟨it,fp,tn,J,H2,e,I2,T,bD,f2,q⟩:=h2;subst e;refine Ip (RR:=λ acc C=>compPost (model X.prog X.w) X.A X.xe none (EP X pins σ Q) acc C) hc I2 T bD f2 aI bd cF hb (λ C=>q s2 C fp) ?_;intro D C s' H' ys m hD hC b3 hn nC hI hq;exact⟨m,hn,λ h' sb=>⟨.ref D,_,hI h' sb,rfl,hq⟩⟩
noncomputable def V7 (i:Nat)(te:TE):TS:=λ D σ H=>te σ H λ x H1=>D.nx (σ.set i (some x)) H1
theorem QT {wi:TI}{i:Nat}{y:Str}{py bY:Pos}(hN:X.N.Nodup)(fA:X.N[i]?=some y)(hy:Loc X.env.scope y)(hc:X.calm=true)(hi:PI X tg iter wi)(aI:EK scope X.env.scope=true)(bd:GI X.N NB scope μ=true)(cF:Di μ g)
 (hb:∀(s:Shared) (H:Hp) (C:Addr) (ex:List Addr),PG (blockOf X s H scope C NB ex) tg g/\Th (blockOf X s H scope C NB ex) ifs (tc s H C ex)/\PE (blockOf X s H scope C NB ex) elt (te s H C ex))
 (df:swapsWith (.ListComp elt [⟨tg,iter,ifs,0⟩] scope pos) (some (.Name y py)) bY.line X.env=pure true:=by rfl)
 (hs:∀x,foldedSetIterable iter X.env x=pure x:=by intro _;rfl) (hf:X.fn y=true\/X.env.scope.names.lookup y=some .local:=by first|exact .inl rfl|exact .inr rfl|assumption):
 PS X (.Assign [.Name y py] (.ListComp elt [⟨tg,iter,ifs,0⟩] scope pos) bY) (V7 i (Io wi μ g tc te)):=by
 intro pins s σ H D' I h;have aX:∀y∈scope.names,y.2=.local->scope.names.lookup y.1=some .local:=λ y hy=>(CM aI hy).2.2;have b4:closureFor scope X.env=pure (CU X.env.cells scope.names []):=CV λ y hy e=>Dh I aI (x:=y.1) (by rw[<-e];exact hy);rw[exec_Assign_Name_used _ _ _ _ df];refine wpAny_bind (wpAny_standAt (wpAny_bind ?_));show wpAny _ X.A (do let _ <-comprehension (.ListComp elt [⟨tg,iter,ifs,0⟩] scope pos) scope X.env _ (newList []) false (eval iter X.env) (some (assign (.Name y py) X.env))) _ _ s;refine wpAny_bind (wpAny_mono (wpAny_comprehension_free (use:=some (assign (.Name y py) X.env)) (Q:=λ _ s'=>SP X pins D' .next s') rfl hs b4 (Cf aI) aX (AX (hi pins s σ H _ I h) λ v s1 h1=>AX h1 λ dO s2 h2=>?_)) (λ _ s' hq=>wpAny_pure (wpAny_pure hq)) λ _ _ e=>e);obtain⟨it,fp,tn,J,H2,e,I2,T,bD,f2,q⟩:=h2;subst e;refine Ip (RR:=λ acc C=>compPost (model X.prog X.w) X.A X.xe (some (assign (.Name y py) X.env)) (λ _ s'=>SP X pins D' .next s') acc C) hc I2 T bD f2 aI bd cF hb (λ C=>q s2 C fp) ?_;intro D C s' H' ys m hD hC b3 hn nC hI hq;have I':=hI s'.heap (.refl ..);show wpAny _ X.A (assign (.Name y py) X.env (.ref D)) _ _ _;refine wpAny_assign_Name (Ic (i:=i) (v:=.ref D) I' hN fA hy rfl (λ dR i8 fB=>?_) hf);obtain⟨a,sb,ha⟩:=fB;have cB:a≠C:=by
  rcases ha with z|z
  ·rw[z];exact zG (zt I2.lt hC)
  ·obtain⟨v,o,ho,_⟩:=I2.cell y a z;exact zG (zt (zk ho) hC)
 refine⟨m,hn.sameBut sb (Ne.symm cB),λ h' gU=>?_⟩;refine⟨_,_,i8.turned (it:=C) (t':=dR.toks) (λ b o hb e=>(gU.2 b hb).trans e) (by rw[An (Ne.symm b3)];exact nC) (Nat.ne_of_gt (zt I2.lt hC)) (.inr (zD I2.sz hC)) (λ x c e z=>?_) (λ p hp z=>?_),hq⟩
 ·obtain⟨v,o,ho,_⟩:=I2.cell x c e;exact absurd (zk ho) (by rw[z];exact Nat.not_lt.mpr hC)
 ·exact absurd (zk (I2.pin p hp).1) (by rw[z];exact Nat.not_lt.mpr hC)
end
inductive D where
 |Ar|bl (b:Bool)|int (i:Int)|str (x:Str)|tup (ds:List D)|lst (ds:List D)|C3 (x:Str)|C7 (t:Bool) (ks vs:List D)|ins (x:Str) (ns:List Str) (ds:List D)
noncomputable def HK:Key->D
 | .inl i=>.int i
 | .inr x=>.str x
def Jf (a c:Addr)(h:Heap):Prop:=∃o,h.get? a=some o/\o.cls=.ref c/\PySem.W.notCls o=true
theorem Rd.same {H H':Hp}{a:Addr}{u:HO}(r:Rd H a u)(e:A9 H H'):Rd H' a u:=r.elim (λ h=>.inl (e _ _ h)) λ⟨o,h⟩=>.inr ⟨o,e _ _ h⟩
mutual
inductive Bo (K:zb) (H:Hp):V->D->Prop
 |Ar:Bo K H .Ar .Ar
 |bl (b):Bo K H (.bl b) (.bl b)
 |int (i):Bo K H (.int i) (.int i)
 |str (x):Bo K H (.str x) (.str x)
 |tup {a xs ds}:H a=some (.tup xs)->Af K H xs ds->Bo K H (.ref a) (.tup ds)
 |lst {a xs ds}:DX K H a xs->Af K H xs ds->Bo K H (.ref a) (.lst ds)
 |Fo {a kvs ds}:Rd H a (.dK kvs)->Af K H (kvs.map Prod.snd) ds->Bo K H (.ref a) (.C7 false (kvs.map λ kv=>HK kv.1) ds)
 |Fp {a kvs ds}:Rd H a (.dT kvs)->Af K H (kvs.map Prod.snd) ds->Bo K H (.ref a) (.C7 true (kvs.map λ kv=>.tup (kv.1.map HK)) ds)
 |ins {a C dx fs x ds}:zd K mainGlobals x=some (some (.ref C))->H a=some (.ins C dx fs)->Af K H (fs.map Prod.snd) ds->Bo K H (.ref a) (.ins x (fs.map Prod.fst) ds)
 |C3 {a c x}:zd K mainGlobals x=some (some (.ref c))->H a=some (.ext (Jf a c))->Bo K H (.ref a) (.C3 x)
inductive Af (K:zb) (H:Hp):List V->List D->Prop
 |nil:Af K H [] []
 |cons {x d xs ds}:Bo K H x d->Af K H xs ds->Af K H (x::xs) (d::ds)
end
theorem Af.length {K:zb}{H:Hp}:∀ {xs:List V}{ds:List D},Af K H xs ds->xs.length=ds.length
 |_,_,.nil=>rfl
 |_,_,.cons _ t=>by rw[zi,zi,Af.length t]
theorem Af.get {K:zb}{H:Hp}:∀ {xs:List V}{ds:List D}{i:Nat}{d:D},Af K H xs ds->ds[i]?=some d->∃x,xs[i]?=some x/\Bo K H x d
 |_,_,_,_,.nil,e=>by simp at e
 |_,_,0,_,.cons r _,e=>by simp at e;subst e;exact⟨_,rfl,r⟩
 |_,_,i+1,d,.cons _ t,e=>by
  obtain⟨u,h1,h2⟩:=Af.get (i:=i) (d:=d) t (by simpa using e);exact⟨u,by simpa using h1,h2⟩
theorem Af.FV {K:zb}{H:Hp}:∀ {xs:List V}{ds:List D}{i:Nat}{x:V},Af K H xs ds->xs[i]?=some x->∃d,ds[i]?=some d/\Bo K H x d
 |_,_,_,_,.nil,e=>by simp at e
 |_,_,0,_,.cons r _,e=>by simp at e;subst e;exact⟨_,rfl,r⟩
 |_,_,i+1,d,.cons _ t,e=>by
  obtain⟨u,h1,h2⟩:=Af.FV (i:=i) (x:=d) t (by simpa using e);exact⟨u,by simpa using h1,h2⟩
theorem Af.append {K:zb}{H:Hp}:∀ {xs ys:List V}{ds es:List D},Af K H xs ds->Af K H ys es->Af K H (xs++ys) (ds++es)
 |_,_,_,_,.nil,h=>h
 |_,_,_,_,.cons r t,h=>.cons r (Af.append t h)
theorem Af.snoc {K:zb}{H:Hp}{xs:List V}{ds:List D}{x:V}{d:D}(h:Af K H xs ds)(r:Bo K H x d):Af K H (xs++[x]) (ds++[d]):=h.append (.cons r .nil)
theorem Af.take {K:zb}{H:Hp}:∀ {xs:List V}{ds:List D}(n:Nat),Af K H xs ds->Af K H (xs.take n) (ds.take n)
 |_,_,0,_|_,_,_+1,.nil=>.nil
 |_,_,n+1,.cons r t=>.cons r (Af.take n t)
theorem Af.drop {K:zb}{H:Hp}:∀ {xs:List V}{ds:List D}(n:Nat),Af K H xs ds->Af K H (xs.drop n) (ds.drop n)
 |_,_,0,r=>r
 |_,_,_+1,.nil=>.nil
 |_,_,n+1,.cons _ t=>Af.drop n t
theorem Af.ints {K:zb}{H:Hp}:∀(ns:List Int),Af K H (ns.map V.int) (ns.map D.int)
 |[]=>.nil
 |n::r=>.cons (.int n) (Af.ints r)
mutual
theorem Bo.mono {K:zb}{H H':Hp}(e:A9 H H'):∀ {v:V}{d:D},Bo K H v d->Bo K H' v d
 |_,_,.Ar=>.Ar
 |_,_,.bl b=>.bl b
 |_,_,.int i=>.int i
 |_,_,.str x=>.str x
 |_,_,.tup h r=>.tup (e _ _ h) (Af.mono e r)
 |_,_,.lst h r=>.lst (e.seq h) (Af.mono e r)
 |_,_,.Fo h r=>.Fo (h.same e) (Af.mono e r)
 |_,_,.Fp h r=>.Fp (h.same e) (Af.mono e r)
 |_,_,.ins n h r=>.ins n (e _ _ h) (Af.mono e r)
 |_,_,.C3 h r=>.C3 h (e _ _ r)
theorem Af.mono {K:zb}{H H':Hp}(e:A9 H H'):∀ {vs:List V}{ds:List D},Af K H vs ds->Af K H' vs ds
 |_,_,.nil=>.nil
 |_,_,.cons h t=>.cons (Bo.mono e h) (Af.mono e t)
end
theorem B6 {H:Hp}{p:Addr}(h:H p=none)(o:HO):A9 H (upd H p o):=λ b u q=>by rw[An (Ap q h)];exact q
mutual
noncomputable def Ak:D->D->Bool
 | .Ar,.Ar=>true
 | .bl a,.bl b| .int a,.int b| .str a,.str b=>a==b
 | .bl a,.int b=>(if a then 1 else 0)==b
 | .int a,.bl b=>a==(if b then 1 else 0)
 | .tup a,.tup b| .lst a,.lst b=>C8 a b
 | .C3 a,.C3 b=>a==b
 | .C7 s a b,.C7 t c d=>(s==t)&&(C8 a c&&C8 b d)
 | .ins x n a,.ins y m b=>(x==y)&&((n==m)&&C8 a b)
 |_,_=>false
noncomputable def C8:List D->List D->Bool
 |[],[]=>true
 |a::r,b::t=>Ak a b&&C8 r t
 |_,_=>false
end
mutual
theorem Fq:∀d:D,Ak d d=true
 | .Ar=>by simp[Ak]
 | .bl b| .int b| .str b=>by simp[Ak]
 | .tup b| .lst b=>by simp only[Ak];exact Cg b
 | .C3 b=>by simp[Ak]
 | .C7 s a b=>by simp only[Ak];rw[Cg a,Cg b];simp
 | .ins x n a=>by simp only[Ak];rw[Cg a];simp
theorem Cg:∀d:List D,C8 d d=true
 |[]=>by simp[C8]
 |a::r=>by simp only[C8,Fq a,Cg r,Bool.and_true]
end
mutual
noncomputable def Al:D->Bool
 | .tup a| .lst a=>CY a
 | .C3 _| .C7 _ _ _| .ins _ _ _=>false
 |_=>true
noncomputable def CY:List D->Bool
 |[]=>true
 |a::r=>Al a&&CY r
end
theorem Bb:∀ {ds:List D}{d:D},d∈ds->CY ds=true->Al d=true
 |a::r,d,h,q=>by
  rw[CY,zA] at q;rcases zp.mp h with z|z
  ·subst z;exact q.1
  ·exact Bb z q.2
mutual
noncomputable def EL:D->Nat
 | .tup a| .lst a=>CH a+1
 |_=>0
noncomputable def CH:List D->Nat
 |[]=>0
 |a::r=>max (EL a) (CH r)
end
theorem Dj:∀ {ds:List D}{d:D},d∈ds->EL d<=CH ds
 |a::r,d,h=>by
  rw[CH];rcases zp.mp h with z|z
  ·subst z;exact Nat.le_max_left _ _
  ·exact zD (Dj z) (Nat.le_max_right _ _)
theorem Kb:∀ {a b:List D},C8 a b=true->a.length=b.length
 |[],[],_=>rfl
 |[],_::_,h|_::_,[],h=>by simp[C8] at h
 |a::r,b::t,h=>by
  simp only[C8,zA] at h;rw[zi,zi,Kb h.2]
theorem Ci:∀(a b:List D),a.length=b.length->(List.range a.length).all (λ j=>Ak (a.getD j .Ar) (b.getD j .Ar))=C8 a b
 |[],[],_=>by simp[C8]
 |a::r,b::t,h=>by
  have ih:=Ci r t (by simpa using h);rw[zi,List.range_succ_eq_map,List.all_cons,List.all_map,C8,<-ih];simp[Function.comp_def]
 |[],_::_,h|_::_,[],h=>by cases h
theorem Gv {a b:List D}(h:a.length≠b.length):C8 a b=false:=by
 cases e:C8 a b with
 |false=>rfl
 |true=>exact absurd (Kb e) h
theorem GN (a b:List D):((List.range (min a.length b.length)).all (λ j=>Ak (a.getD j .Ar) (b.getD j .Ar))&&(a.length==b.length))=C8 a b:=by
 by_cases h:a.length=b.length
 ·rw[<-Ci a b h,h];simp
 ·rw[Gv h,beq_false_of_ne h,Bool.and_false]
section
variable {X:Cx}{pins:List (Addr×Obj)}{σ:St}{H:Hp}{s:Shared}
theorem M8 (I:Inv X pins σ H s){a:Addr}{xs ys:List V}(h:DX X.K H a xs)(h':Lc X.K H a ys):False:=by
 obtain⟨aa,_,⟨o,n,e,c,_,_⟩,_⟩:=I.list h;obtain⟨its',_,⟨o',e',c',_⟩,_⟩:=I.tuple h';rw[e] at e';cases e';rw[c] at c';revert c';decide
mutual
theorem QU (I:Inv X pins σ H s):∀ {v:V}{d d':D},Al d=true->Al d'=true->Bo X.K H v d->Bo X.K H v d'->d=d'
 |_,_,_,_,_,.Ar,.Ar|_,_,_,_,_,.bl _,.bl _|_,_,_,_,_,.int _,.int _|_,_,_,_,_,.str _,.str _=>rfl
 |_,_,_,n1,n2,.tup h r,.tup h' r'=>by
  have e:=I.Ie (.of h) (.of h');subst e;rw[E8 I (by rw[Al] at n1;exact n1) (by rw[Al] at n2;exact n2) r r']
 |_,_,_,n1,n2,.lst h r,.lst h' r'=>by
  have e:=I.GC h h';subst e;rw[E8 I (by rw[Al] at n1;exact n1) (by rw[Al] at n2;exact n2) r r']
 |_,_,_,_,_,.tup h _,.lst h' _=>(M8 I h' (.of h)).elim
 |_,_,_,_,_,.lst h _,.tup h' _=>(M8 I h (.of h')).elim
 |_,_,_,n1,_,.C3 _ _,_|_,_,_,n1,_,.Fo _ _,_|_,_,_,n1,_,.Fp _ _,_|_,_,_,n1,_,.ins _ _ _,_=>by rw[Al] at n1;cases n1
 |_,_,_,_,n2,_,.C3 _ _|_,_,_,_,n2,_,.Fo _ _|_,_,_,_,n2,_,.Fp _ _|_,_,_,_,n2,_,.ins _ _ _=>by rw[Al] at n2;cases n2
theorem E8 (I:Inv X pins σ H s):∀ {v:List V}{d d':List D},CY d=true->CY d'=true->Af X.K H v d->Af X.K H v d'->d=d'
 |_,_,_,_,_,.nil,.nil=>rfl
 |_,_,_,n1,n2,.cons h r,.cons h' r'=>by
  rw[CY,zA] at n1 n2;rw[QU I n1.1 n2.1 h h',E8 I n1.2 n2.2 r r']
end
theorem NC {xs:List V}{aa:List Value}(r:Vals xs aa)(j:Nat)(h:j<aa.toArray.size):∃x,xs[j]?=some x/\RelV x aa.toArray[j]:=by
 have h':j<aa.length:=by simpa using h
 have hx:j<xs.length:=by rw[r.length];exact h'
 obtain⟨u,hu,ru⟩:=r.get (z0 hx);rw[z0 h'] at hu;refine⟨xs[j],z0 hx,?_⟩;have e:aa.toArray[j]=u:=by simpa using hu
 rw[e];exact ru
theorem Bm {ds:List D}{j:Nat}{d:D}(h:ds[j]?=some d):ds.getD j .Ar=d:=by rw[List.getD_eq_getElem?_getD,h];rfl
theorem GO (I:Inv X pins σ H s):∀(n:Nat) (A:Around) (d e:D) (v w:V) (u1 u2:Value),EL d<=n->Al d=true->Al e=true->A.units+n<cLine->Bo X.K H v d->Bo X.K H w e->RelV v u1->RelV w u2->SeqAt.EqAt A s u1 u2 (Ak d e):=by
 intro n;induction n with
 |zero =>
  intro A d e v w u1 u2 hd aJ ar hu h1 h2 r1 r2;have a8:A.units<cLine:=by omega
  cases h1 with
  |C3 _ _|Fo _ _|Fp _ _|ins _ _ _=>simp[Al] at aJ
  |Ar =>
   cases r1;cases h2 with
   |C3 _ _|Fo _ _|Fp _ _|ins _ _ _=>simp[Al] at ar
   |Ar=>cases r2;simp only[Ak];exact .same _
   |bl b=>cases r2;simp only[Ak];exact .none_bool _
   |int b=>obtain⟨t,rfl⟩:=r2;simp only[Ak];exact .none_int _ _
   |str b=>obtain⟨t,rfl⟩:=r2;simp only[Ak];exact .none_str _ _
   |tup h r=>cases r2;simp only[Ak];obtain⟨_,_,p,_⟩:=I.tuple (.of h);exact .none_tuple p a8
   |lst h r=>cases r2;simp only[Ak];obtain⟨_,_,p,_⟩:=I.list h;exact .none_list p.isList a8
  |bl a =>
   cases r1;cases h2 with
   |C3 _ _|Fo _ _|Fp _ _|ins _ _ _=>simp[Al] at ar
   |Ar=>cases r2;simp only[Ak];exact .bool_none _
   |bl b=>cases r2;simp only[Ak];exact .bool_bool _ _
   |int b=>obtain⟨t,rfl⟩:=r2;simp only[Ak];exact .bool_int _ _ _
   |str b=>obtain⟨t,rfl⟩:=r2;simp only[Ak];exact .bool_str _ _ _
   |tup h r=>cases r2;simp only[Ak];obtain⟨_,_,p,_⟩:=I.tuple (.of h);exact .bool_tuple _ p a8
   |lst h r=>cases r2;simp only[Ak];obtain⟨_,_,p,_⟩:=I.list h;exact .bool_list _ p.isList a8
  |int a =>
   obtain⟨t',rfl⟩:=r1;cases h2 with
   |C3 _ _|Fo _ _|Fp _ _|ins _ _ _=>simp[Al] at ar
   |Ar=>cases r2;simp only[Ak];exact .int_none _ _
   |bl b=>cases r2;simp only[Ak];exact .int_bool _ _ _
   |int b=>obtain⟨t,rfl⟩:=r2;simp only[Ak];exact .int_int _ _ _ _
   |str b=>obtain⟨t,rfl⟩:=r2;simp only[Ak];exact .int_str _ _ _ _
   |tup h r=>cases r2;simp only[Ak];obtain⟨_,_,p,_⟩:=I.tuple (.of h);exact .int_tuple _ _ p a8
   |lst h r=>cases r2;simp only[Ak];obtain⟨_,_,p,_⟩:=I.list h;exact .int_list _ _ p.isList a8
  |str a =>
   obtain⟨t',rfl⟩:=r1;cases h2 with
   |C3 _ _|Fo _ _|Fp _ _|ins _ _ _=>simp[Al] at ar
   |Ar=>cases r2;simp only[Ak];exact .str_none _ _
   |bl b=>cases r2;simp only[Ak];exact .str_bool _ _ _
   |int b=>obtain⟨t,rfl⟩:=r2;simp only[Ak];exact .str_int _ _ _ _
   |str b=>obtain⟨t,rfl⟩:=r2;simp only[Ak];exact .str_str _ _ _ _
   |tup h r=>cases r2;simp only[Ak];obtain⟨_,_,p,_⟩:=I.tuple (.of h);exact .str_tuple _ _ p a8
   |lst h r=>cases r2;simp only[Ak];obtain⟨_,_,p,_⟩:=I.list h;exact .str_list _ _ p.isList a8
  |tup h r|lst h r=>rw[EL] at hd;omega
 |succ n ih =>
  intro A d e v w u1 u2 hd aJ ar hu h1 h2 r1 r2;have a8:A.units<cLine:=by omega
  have gW:A.in1.units+n<cLine:=by show A.units+1+n<cLine;omega
  by_cases ef:EL d<=n
  ·exact ih A d e v w u1 u2 ef aJ ar (by omega) h1 h2 r1 r2
  cases h1 with
  |C3 _ _|Fo _ _|Fp _ _|ins _ _ _=>simp[Al] at aJ
  |Ar|bl _|int _|str _=>exact absurd (by simp[EL]) ef
  | @tup a xs ds h r =>
   cases r1;obtain⟨aa,rv,p,_⟩:=I.tuple (.of h);cases h2 with
   |C3 _ _|Fo _ _|Fp _ _|ins _ _ _=>simp[Al] at ar
   |Ar=>cases r2;simp only[Ak];exact .tuple_none p a8
   |bl b=>cases r2;simp only[Ak];exact .tuple_bool _ p a8
   |int b=>obtain⟨t,rfl⟩:=r2;simp only[Ak];exact .tuple_int _ _ p a8
   |str b=>obtain⟨t,rfl⟩:=r2;simp only[Ak];exact .tuple_str _ _ p a8
   | @lst a2 bZ es h' r'=>cases r2;simp only[Ak];obtain⟨_,_,p',_⟩:=I.list h';exact .tuple_list p p'.isList a8
   | @tup a2 bZ es h' r' =>
    cases r2;by_cases ha:a=a2
    ·subst ha;have e':=I.Ie (.of h) (.of h');subst e';have e2:=E8 I (by rw[Al] at aJ;exact aJ) (by rw[Al] at ar;exact ar) r r';subst e2;rw[Fq];exact .same _
    ·obtain⟨its',bf,p',_⟩:=I.tuple (.of h');refine .of_refs ha ?_;have q:=SeqAt.RcAt.tuples (A:=A) (e:=λ j=>Ak (ds.getD j .Ar) (es.getD j .Ar)) p p' a8 λ j h1 h2=>?_
     ·have z1:aa.toArray.size=ds.length:=by rw[zm,<-rv.length,r.length]
      have z2:its'.toArray.size=es.length:=by rw[zm,<-bf.length,r'.length]
      rw[z1,z2,GN] at q;simp only[Ak];exact q
     ·obtain⟨x,hx,rx⟩:=NC rv j h1;obtain⟨y,hy,ry⟩:=NC bf j h2;obtain⟨dx,ex,cb⟩:=r.FV hx;obtain⟨dy,ey,cc⟩:=r'.FV hy;rw[Bm ex,Bm ey];refine ih A.in1 dx dy x y _ _ ?_ (Bb (zj ex) (by rw[Al] at aJ;exact aJ)) (Bb (zj ey) (by rw[Al] at ar;exact ar)) gW cb cc rx ry;rw[EL] at hd;have:=Dj (zj ex);omega
  | @lst a xs ds h r =>
   cases r1;obtain⟨aa,rv,p,_⟩:=I.list h;cases h2 with
   |C3 _ _|Fo _ _|Fp _ _|ins _ _ _=>simp[Al] at ar
   |Ar=>cases r2;simp only[Ak];exact .list_none p.isList a8
   |bl b=>cases r2;simp only[Ak];exact .list_bool _ p.isList a8
   |int b=>obtain⟨t,rfl⟩:=r2;simp only[Ak];exact .list_int _ _ p.isList a8
   |str b=>obtain⟨t,rfl⟩:=r2;simp only[Ak];exact .list_str _ _ p.isList a8
   | @tup a2 bZ es h' r'=>cases r2;simp only[Ak];obtain⟨_,_,p',_⟩:=I.tuple (.of h');exact .list_tuple p.isList p' a8
   | @lst a2 bZ es h' r' =>
    cases r2;by_cases ha:a=a2
    ·subst ha;have e':=I.GC h h';subst e';have e2:=E8 I (by rw[Al] at aJ;exact aJ) (by rw[Al] at ar;exact ar) r r';subst e2;rw[Fq];exact .same _
    ·obtain⟨its',bf,p',_⟩:=I.list h';refine .of_refs ha ?_;have z1:aa.toArray.size=ds.length:=by rw[zm,<-rv.length,r.length]
     have z2:its'.toArray.size=es.length:=by rw[zm,<-bf.length,r'.length]
     by_cases hz:aa.toArray.size=its'.toArray.size
     ·have q:=SeqAt.RcAt.lists (A:=A) (e:=λ j=>Ak (ds.getD j .Ar) (es.getD j .Ar)) p.isList p'.isList hz a8 λ j h1 h2=>?_
      ·rw[z1,Ci ds es (by rw[<-z1,<-z2,hz])] at q;simp only[Ak];exact q
      ·obtain⟨x,hx,rx⟩:=NC rv j h1;obtain⟨y,hy,ry⟩:=NC bf j h2;obtain⟨dx,ex,cb⟩:=r.FV hx;obtain⟨dy,ey,cc⟩:=r'.FV hy;rw[Bm ex,Bm ey];refine ih A.in1 dx dy x y _ _ ?_ (Bb (zj ex) (by rw[Al] at aJ;exact aJ)) (Bb (zj ey) (by rw[Al] at ar;exact ar)) gW cb cc rx ry;rw[EL] at hd;have:=Dj (zj ex);omega
     ·have q:=SeqAt.RcAt.lists_lengths (A:=A) p.isList p'.isList (by simpa using hz) a8;simp only[Ak];rw[Gv (by rw[<-z1,<-z2];exact hz)];exact q
theorem WA (I:Inv X pins σ H s)(A:Around)(d e:D)(v w:V)(u1 u2:Value)(hd:A.units+EL d<cLine)(aJ:Al d=true)(ar:Al e=true)(h1:Bo X.K H v d)(h2:Bo X.K H w e)(r1:RelV v u1)(r2:RelV w u2):SeqAt.RcAt A s u1 u2 (Ak d e):=by
 have a8:A.units<cLine:=by omega
 cases h1 with
 |C3 _ _|Fo _ _|Fp _ _|ins _ _ _=>simp[Al] at aJ
 |Ar =>
  cases r1;cases h2 with
  |C3 _ _|Fo _ _|Fp _ _|ins _ _ _=>simp[Al] at ar
  |Ar=>cases r2;simp only[Ak];exact .none_none
  |bl b=>cases r2;simp only[Ak];exact .none_bool _
  |int b=>obtain⟨t,rfl⟩:=r2;simp only[Ak];exact .none_int _ _
  |str b=>obtain⟨t,rfl⟩:=r2;simp only[Ak];exact .none_str _ _
  |tup h r=>cases r2;simp only[Ak];obtain⟨_,_,p,_⟩:=I.tuple (.of h);exact .none_tuple  p a8
  |lst h r=>cases r2;simp only[Ak];obtain⟨_,_,p,_⟩:=I.list h;exact .none_list  p.isList a8
 |bl a =>
  cases r1;cases h2 with
  |C3 _ _|Fo _ _|Fp _ _|ins _ _ _=>simp[Al] at ar
  |Ar=>cases r2;simp only[Ak];exact .bool_none _
  |bl b=>cases r2;simp only[Ak];exact .bool_bool _ _
  |int b=>obtain⟨t,rfl⟩:=r2;simp only[Ak];exact .bool_int _ _ _
  |str b=>obtain⟨t,rfl⟩:=r2;simp only[Ak];exact .bool_str _ _ _
  |tup h r=>cases r2;simp only[Ak];obtain⟨_,_,p,_⟩:=I.tuple (.of h);exact .bool_tuple _ p a8
  |lst h r=>cases r2;simp only[Ak];obtain⟨_,_,p,_⟩:=I.list h;exact .bool_list _ p.isList a8
 |int a =>
  obtain⟨t',rfl⟩:=r1;cases h2 with
  |C3 _ _|Fo _ _|Fp _ _|ins _ _ _=>simp[Al] at ar
  |Ar=>cases r2;simp only[Ak];exact .int_none _ _
  |bl b=>cases r2;simp only[Ak];exact .int_bool _ _ _
  |int b=>obtain⟨t,rfl⟩:=r2;simp only[Ak];exact .int_int _ _ _ _
  |str b=>obtain⟨t,rfl⟩:=r2;simp only[Ak];exact .int_str _ _ _ _
  |tup h r=>cases r2;simp only[Ak];obtain⟨_,_,p,_⟩:=I.tuple (.of h);exact .int_tuple _ _ p a8
  |lst h r=>cases r2;simp only[Ak];obtain⟨_,_,p,_⟩:=I.list h;exact .int_list _ _ p.isList a8
 |str a =>
  obtain⟨t',rfl⟩:=r1;cases h2 with
  |C3 _ _|Fo _ _|Fp _ _|ins _ _ _=>simp[Al] at ar
  |Ar=>cases r2;simp only[Ak];exact .str_none _ _
  |bl b=>cases r2;simp only[Ak];exact .str_bool _ _ _
  |int b=>obtain⟨t,rfl⟩:=r2;simp only[Ak];exact .str_int _ _ _ _
  |str b=>obtain⟨t,rfl⟩:=r2;simp only[Ak];exact .str_str _ _ _ _
  |tup h r=>cases r2;simp only[Ak];obtain⟨_,_,p,_⟩:=I.tuple (.of h);exact .str_tuple _ _ p a8
  |lst h r=>cases r2;simp only[Ak];obtain⟨_,_,p,_⟩:=I.list h;exact .str_list _ _ p.isList a8
 | @tup a xs ds h r =>
  cases r1;obtain⟨aa,rv,p,_⟩:=I.tuple (.of h);cases h2 with
  |C3 _ _|Fo _ _|Fp _ _|ins _ _ _=>simp[Al] at ar
  |Ar=>cases r2;simp only[Ak];exact .tuple_none  p a8
  |bl b=>cases r2;simp only[Ak];exact .tuple_bool _ p a8
  |int b=>obtain⟨t,rfl⟩:=r2;simp only[Ak];exact .tuple_int _ _ p a8
  |str b=>obtain⟨t,rfl⟩:=r2;simp only[Ak];exact .tuple_str _ _ p a8
  | @lst a2 bZ es h' r'=>cases r2;simp only[Ak];obtain⟨_,_,p',_⟩:=I.list h';exact .tuple_list p p'.isList a8
  | @tup a2 bZ es h' r' =>
   cases r2;obtain⟨its',bf,p',_⟩:=I.tuple (.of h');have z1:aa.toArray.size=ds.length:=by rw[zm,<-rv.length,r.length]
   have z2:its'.toArray.size=es.length:=by rw[zm,<-bf.length,r'.length]
   have q:=SeqAt.RcAt.tuples (A:=A) (e:=λ j=>Ak (ds.getD j .Ar) (es.getD j .Ar)) p p' a8 λ j h1 h2=>?_
   ·rw[z1,z2,GN] at q;simp only[Ak];exact q
   ·obtain⟨x,hx,rx⟩:=NC rv j h1;obtain⟨y,hy,ry⟩:=NC bf j h2;obtain⟨dx,ex,cb⟩:=r.FV hx;obtain⟨dy,ey,cc⟩:=r'.FV hy;rw[Bm ex,Bm ey];rw[EL] at hd;have:=Dj (zj ex);exact GO I (CH ds) A.in1 dx dy x y _ _ this (Bb (zj ex) (by rw[Al] at aJ;exact aJ)) (Bb (zj ey) (by rw[Al] at ar;exact ar)) (by show A.units+1+_<cLine;omega) cb cc rx ry
 | @lst a xs ds h r =>
  cases r1;obtain⟨aa,rv,p,_⟩:=I.list h;cases h2 with
  |C3 _ _|Fo _ _|Fp _ _|ins _ _ _=>simp[Al] at ar
  |Ar=>cases r2;simp only[Ak];exact .list_none  p.isList a8
  |bl b=>cases r2;simp only[Ak];exact .list_bool _ p.isList a8
  |int b=>obtain⟨t,rfl⟩:=r2;simp only[Ak];exact .list_int _ _ p.isList a8
  |str b=>obtain⟨t,rfl⟩:=r2;simp only[Ak];exact .list_str _ _ p.isList a8
  | @tup a2 bZ es h' r'=>cases r2;simp only[Ak];obtain⟨_,_,p',_⟩:=I.tuple (.of h');exact .list_tuple p.isList p' a8
  | @lst a2 bZ es h' r' =>
   cases r2;obtain⟨its',bf,p',_⟩:=I.list h';have z1:aa.toArray.size=ds.length:=by rw[zm,<-rv.length,r.length]
   have z2:its'.toArray.size=es.length:=by rw[zm,<-bf.length,r'.length]
   by_cases hz:aa.toArray.size=its'.toArray.size
   ·have q:=SeqAt.RcAt.lists (A:=A) (e:=λ j=>Ak (ds.getD j .Ar) (es.getD j .Ar)) p.isList p'.isList hz a8 λ j h1 h2=>?_
    ·rw[z1,Ci ds es (by rw[<-z1,<-z2,hz])] at q;simp only[Ak];exact q
    ·obtain⟨x,hx,rx⟩:=NC rv j h1;obtain⟨y,hy,ry⟩:=NC bf j h2;obtain⟨dx,ex,cb⟩:=r.FV hx;obtain⟨dy,ey,cc⟩:=r'.FV hy;rw[Bm ex,Bm ey];rw[EL] at hd;have:=Dj (zj ex);exact GO I (CH ds) A.in1 dx dy x y _ _ this (Bb (zj ex) (by rw[Al] at aJ;exact aJ)) (Bb (zj ey) (by rw[Al] at ar;exact ar)) (by show A.units+1+_<cLine;omega) cb cc rx ry
   ·have q:=SeqAt.RcAt.lists_lengths (A:=A) p.isList p'.isList (by simpa using hz) a8;simp only[Ak];rw[Gv (by rw[<-z1,<-z2];exact hz)];exact q
theorem V8 (I:Inv X pins σ H s)(A:Around)(d e:D)(v w:V)(u1 u2:Value)(hd:A.units+EL d<cLine)(aJ:Al d=true)(ar:Al e=true)(h1:Bo X.K H v d)(h2:Bo X.K H w e)(r1:RelV v u1)(r2:RelV w u2):SeqAt.RcNeAt A s u1 u2 (!Ak d e):=by
 have a8:A.units<cLine:=by omega
 cases h1 with
 |C3 _ _|Fo _ _|Fp _ _|ins _ _ _=>simp[Al] at aJ
 |Ar =>
  cases r1;cases h2 with
  |C3 _ _|Fo _ _|Fp _ _|ins _ _ _=>simp[Al] at ar
  |Ar=>cases r2;simp only[Ak];exact .none_none
  |bl b=>cases r2;simp only[Ak];exact .none_bool _
  |int b=>obtain⟨t,rfl⟩:=r2;simp only[Ak];exact .none_int _ _
  |str b=>obtain⟨t,rfl⟩:=r2;simp only[Ak];exact .none_str _ _
  |tup h r=>cases r2;simp only[Ak];obtain⟨_,_,p,_⟩:=I.tuple (.of h);exact .none_tuple  p a8
  |lst h r=>cases r2;simp only[Ak];obtain⟨_,_,p,_⟩:=I.list h;exact .none_list  p.isList a8
 |bl a =>
  cases r1;cases h2 with
  |C3 _ _|Fo _ _|Fp _ _|ins _ _ _=>simp[Al] at ar
  |Ar=>cases r2;simp only[Ak];exact .bool_none _
  |bl b=>cases r2;simp only[Ak];exact .bool_bool _ _
  |int b=>obtain⟨t,rfl⟩:=r2;simp only[Ak];exact .bool_int _ _ _
  |str b=>obtain⟨t,rfl⟩:=r2;simp only[Ak];exact .bool_str _ _ _
  |tup h r=>cases r2;simp only[Ak];obtain⟨_,_,p,_⟩:=I.tuple (.of h);exact .bool_tuple _ p a8
  |lst h r=>cases r2;simp only[Ak];obtain⟨_,_,p,_⟩:=I.list h;exact .bool_list _ p.isList a8
 |int a =>
  obtain⟨t',rfl⟩:=r1;cases h2 with
  |C3 _ _|Fo _ _|Fp _ _|ins _ _ _=>simp[Al] at ar
  |Ar=>cases r2;simp only[Ak];exact .int_none _ _
  |bl b=>cases r2;simp only[Ak];exact .int_bool _ _ _
  |int b=>obtain⟨t,rfl⟩:=r2;simp only[Ak];exact .int_int _ _ _ _
  |str b=>obtain⟨t,rfl⟩:=r2;simp only[Ak];exact .int_str _ _ _ _
  |tup h r=>cases r2;simp only[Ak];obtain⟨_,_,p,_⟩:=I.tuple (.of h);exact .int_tuple _ _ p a8
  |lst h r=>cases r2;simp only[Ak];obtain⟨_,_,p,_⟩:=I.list h;exact .int_list _ _ p.isList a8
 |str a =>
  obtain⟨t',rfl⟩:=r1;cases h2 with
  |C3 _ _|Fo _ _|Fp _ _|ins _ _ _=>simp[Al] at ar
  |Ar=>cases r2;simp only[Ak];exact .str_none _ _
  |bl b=>cases r2;simp only[Ak];exact .str_bool _ _ _
  |int b=>obtain⟨t,rfl⟩:=r2;simp only[Ak];exact .str_int _ _ _ _
  |str b=>obtain⟨t,rfl⟩:=r2;simp only[Ak];exact .str_str _ _ _ _
  |tup h r=>cases r2;simp only[Ak];obtain⟨_,_,p,_⟩:=I.tuple (.of h);exact .str_tuple _ _ p a8
  |lst h r=>cases r2;simp only[Ak];obtain⟨_,_,p,_⟩:=I.list h;exact .str_list _ _ p.isList a8
 | @tup a xs ds h r =>
  cases r1;obtain⟨aa,rv,p,_⟩:=I.tuple (.of h);cases h2 with
  |C3 _ _|Fo _ _|Fp _ _|ins _ _ _=>simp[Al] at ar
  |Ar=>cases r2;simp only[Ak];exact .tuple_none  p a8
  |bl b=>cases r2;simp only[Ak];exact .tuple_bool _ p a8
  |int b=>obtain⟨t,rfl⟩:=r2;simp only[Ak];exact .tuple_int _ _ p a8
  |str b=>obtain⟨t,rfl⟩:=r2;simp only[Ak];exact .tuple_str _ _ p a8
  | @lst a2 bZ es h' r'=>cases r2;simp only[Ak];obtain⟨_,_,p',_⟩:=I.list h';exact .tuple_list p p'.isList a8
  | @tup a2 bZ es h' r' =>
   cases r2;obtain⟨its',bf,p',_⟩:=I.tuple (.of h');have z1:aa.toArray.size=ds.length:=by rw[zm,<-rv.length,r.length]
   have z2:its'.toArray.size=es.length:=by rw[zm,<-bf.length,r'.length]
   have q:=SeqAt.RcNeAt.tuples (A:=A) (e:=λ j=>Ak (ds.getD j .Ar) (es.getD j .Ar)) p p' a8 λ j h1 h2=>?_
   ·rw[z1,z2,GN] at q;simp only[Ak];exact q
   ·obtain⟨x,hx,rx⟩:=NC rv j h1;obtain⟨y,hy,ry⟩:=NC bf j h2;obtain⟨dx,ex,cb⟩:=r.FV hx;obtain⟨dy,ey,cc⟩:=r'.FV hy;rw[Bm ex,Bm ey];rw[EL] at hd;have:=Dj (zj ex);exact GO I (CH ds) A.in1 dx dy x y _ _ this (Bb (zj ex) (by rw[Al] at aJ;exact aJ)) (Bb (zj ey) (by rw[Al] at ar;exact ar)) (by show A.units+1+_<cLine;omega) cb cc rx ry
 | @lst a xs ds h r =>
  cases r1;obtain⟨aa,rv,p,_⟩:=I.list h;cases h2 with
  |C3 _ _|Fo _ _|Fp _ _|ins _ _ _=>simp[Al] at ar
  |Ar=>cases r2;simp only[Ak];exact .list_none  p.isList a8
  |bl b=>cases r2;simp only[Ak];exact .list_bool _ p.isList a8
  |int b=>obtain⟨t,rfl⟩:=r2;simp only[Ak];exact .list_int _ _ p.isList a8
  |str b=>obtain⟨t,rfl⟩:=r2;simp only[Ak];exact .list_str _ _ p.isList a8
  | @tup a2 bZ es h' r'=>cases r2;simp only[Ak];obtain⟨_,_,p',_⟩:=I.tuple (.of h');exact .list_tuple p.isList p' a8
  | @lst a2 bZ es h' r' =>
   cases r2;obtain⟨its',bf,p',_⟩:=I.list h';have z1:aa.toArray.size=ds.length:=by rw[zm,<-rv.length,r.length]
   have z2:its'.toArray.size=es.length:=by rw[zm,<-bf.length,r'.length]
   by_cases hz:aa.toArray.size=its'.toArray.size
   ·have q:=SeqAt.RcNeAt.lists (A:=A) (e:=λ j=>Ak (ds.getD j .Ar) (es.getD j .Ar)) p.isList p'.isList hz a8 λ j h1 h2=>?_
    ·rw[z1,Ci ds es (by rw[<-z1,<-z2,hz])] at q;simp only[Ak];exact q
    ·obtain⟨x,hx,rx⟩:=NC rv j h1;obtain⟨y,hy,ry⟩:=NC bf j h2;obtain⟨dx,ex,cb⟩:=r.FV hx;obtain⟨dy,ey,cc⟩:=r'.FV hy;rw[Bm ex,Bm ey];rw[EL] at hd;have:=Dj (zj ex);exact GO I (CH ds) A.in1 dx dy x y _ _ this (Bb (zj ex) (by rw[Al] at aJ;exact aJ)) (Bb (zj ey) (by rw[Al] at ar;exact ar)) (by show A.units+1+_<cLine;omega) cb cc rx ry
   ·have q:=SeqAt.RcNeAt.lists_lengths (A:=A) p.isList p'.isList (by simpa using hz) a8;simp only[Ak];rw[Gv (by rw[<-z1,<-z2];exact hz)];exact q
noncomputable def QV (K:zb)(A:Around)(neg:Bool):R2:=λ x y H Q=>∃d e,Bo K H x d/\Bo K H y e/\A.units+EL d<cLine/\Al d=true/\Al e=true/\Q (.bl (if neg=true then !Ak d e else Ak d e)) H
theorem Ob:DV X (compareOp .Eq) (QV X.K X.A false):=by
 intro pins s σ H x y v u Q I rx ry h;obtain⟨d,e,hd,he,hu,n1,n2,q⟩:=h;exact WA I X.A d e x y v u hu n1 n2 hd he rx ry X.prog X.w X.xe _ ⟨.bl _,H,I,rfl,q⟩
theorem Oc:DV X (compareOp .NotEq) (QV X.K X.A true):=by
 intro pins s σ H x y v u Q I rx ry h;obtain⟨d,e,hd,he,hu,n1,n2,q⟩:=h;exact V8 I X.A d e x y v u hu n1 n2 hd he rx ry X.prog X.w X.xe _ ⟨.bl _,H,I,rfl,q⟩
end
inductive OT where
 |sh (d:D)|lst (ts:List OT)|tup (ts:List OT)|C7 (t:Bool) (ks:List D) (ts:List OT)|ins (x:Str) (ns:List Str) (ts:List OT)
inductive Ow where
 |rows (E9:List (List D))
 |Gg (p:Nat) (ds:List D)
 |tree (p:Option Nat) (t:OT)
inductive Cl where
 |val (d:D)|own (ds:List D)|ow (o:Ow)
noncomputable abbrev A8:=List (Option Cl)
inductive M (α:Type) where
 |ok (a:α)|ex (c:Str)|bad
noncomputable def M.bind {α β:Type}(m:M α)(k:α->M β):M β:=match m with
 | .ok a=>k a
 | .ex c=>.ex c
 | .bad=>.bad
@[simp] theorem M.Aa {α β:Type}(a:α) (k:α->M β):(M.ok a).bind k=k a:=rfl
noncomputable def del (H:Hp)(P:Addr->Prop):Hp:=λ a=>open Classical in if P a then none else H a
theorem AA {H:Hp}{P:Addr->Prop}{a:Addr}(h:¬ P a):del H P a=H a:=by unfold del;rw[if_neg h]
theorem GP {H:Hp}{P:Addr->Prop}{a:Addr}(h:P a):del H P a=none:=by unfold del;rw[if_pos h]
theorem Ay {H:Hp}{P:Addr->Prop}{a:Addr}{o:HO}(h:del H P a=some o):¬ P a/\H a=some o:=by
 by_cases hp:P a
 ·rw[GP hp] at h;cases h
 ·rw[AA hp] at h;exact⟨hp,h⟩
theorem Rd.C4 {H:Hp}{P:Addr->Prop}{a:Addr}{u:HO}(r:Rd (del H P) a u):Rd H a u:=r.elim (λ h=>.inl (Ay h).2) λ⟨o,h⟩=>.inr ⟨o,(Ay h).2⟩
theorem A9.del {H H':Hp}{P:Addr->Prop}(e:A9 H H'):A9 (del H P) (del H' P):=λ b o h=>by
 obtain⟨h1,h2⟩:=Ay h;rw[AA h1];exact e b o h2
theorem Bc {H:Hp}{P P':Addr->Prop}(h:∀a,P' a->P a):A9 (L2.del H P) (L2.del H P'):=λ b o e=>by
 obtain⟨h1,h2⟩:=Ay e;rw[AA λ z=>h1 (h b z)];exact h2
theorem Cj {H:Hp}{P:Addr->Prop}:A9 (L2.del H P) H:=λ b o e=>(Ay e).2
def EV (H:Hp)(a:Addr):Prop:=∃o,H a=some o/\∀xs,o≠.tup xs/\∀z,o≠.M2 z (.tup xs)
theorem EV.same {H H':Hp}{a:Addr}(h:EV H a)(e:A9 H H'):EV H' a:=let ⟨o,q,r⟩:=h;⟨o,e a o q,r⟩
theorem EV.no {H:Hp}{a:Addr}(h:EV H a)(e:H a=none):False:=by
 obtain⟨o,q,r⟩:=h;rw[e] at q;cases q
theorem EV.lst {H:Hp}{a:Addr}{xs:List V}(h:H a=some (.lst xs)):EV H a:=⟨_,h,λ _=>⟨λ z=>(by cases z),λ _ z=>by cases z⟩⟩
mutual
inductive Ew (K:zb) (H:Hp) (P:Addr->Prop):V->OT->List Addr->Prop
 |sh {v d}:Bo K (del H P) v d->Ew K H P v (.sh d) []
 |lst {p xs ts fp}:H p=some (.lst xs)->AG K H P xs ts fp->Ew K H P (.ref p) (.lst ts) (p::fp)
 |tup {p xs ts fp}:del H P p=some (.tup xs)->AG K H P xs ts fp->Ew K H P (.ref p) (.tup ts) fp
 |dK {p kvs ts fp}:H p=some (.dK kvs)->AG K H P (kvs.map Prod.snd) ts fp->Ew K H P (.ref p) (.C7 false (kvs.map λ kv=>HK kv.1) ts) (p::fp)
 |dT {p kvs ts fp}:H p=some (.dT kvs)->AG K H P (kvs.map Prod.snd) ts fp->Ew K H P (.ref p) (.C7 true (kvs.map λ kv=>.tup (kv.1.map HK)) ts) (p::fp)
 |ins {p C dx fs ts fp x}:zd K mainGlobals x=some (some (.ref C))->H p=some (.ins C dx fs)->AG K H P (fs.map Prod.snd) ts fp->Ew K H P (.ref p) (.ins x (fs.map Prod.fst) ts) (p::fp)
inductive AG (K:zb) (H:Hp) (P:Addr->Prop):List V->List OT->List Addr->Prop
 |nil:AG K H P [] [] []
 |cons {v t fp vs ts fq}:Ew K H P v t fp->AG K H P vs ts fq->AG K H P (v::vs) (t::ts) (fp++fq)
end
mutual
noncomputable def er:OT->D
 | .sh d=>d
 | .lst ts=>.lst (Gu ts)
 | .tup ts=>.tup (Gu ts)
 | .C7 t ks ts=>.C7 t ks (Gu ts)
 | .ins x ns ts=>.ins x ns (Gu ts)
noncomputable def Gu:List OT->List D
 |[]=>[]
 |t::r=>er t::Gu r
end
theorem M9:∀ts:List OT,Gu ts=ts.map er
 |[]=>rfl
 |t::r=>by rw[Gu,M9 r,zx]
mutual
theorem Ew.move {K:zb}{H H':Hp}{P P':Addr->Prop}(sm:A9 (del H P) (del H' P')):∀ {v:V}{t:OT}{fp:List Addr},(∀a∈fp,H' a=H a)->Ew K H P v t fp->Ew K H' P' v t fp
 |_,_,_,_,.sh h=>.sh (h.mono sm)
 |_,_,_,k,.lst h r=>.lst ((k _ zf).trans h) (AG.move sm (λ a ha=>k a (zg _ ha)) r)
 |_,_,_,k,.tup h r=>.tup (sm _ _ h) (AG.move sm k r)
 |_,_,_,k,.dK h r=>.dK ((k _ zf).trans h) (AG.move sm (λ a ha=>k a (zg _ ha)) r)
 |_,_,_,k,.dT h r=>.dT ((k _ zf).trans h) (AG.move sm (λ a ha=>k a (zg _ ha)) r)
 |_,_,_,k,.ins n h r=>.ins n ((k _ zf).trans h) (AG.move sm (λ a ha=>k a (zg _ ha)) r)
theorem AG.move {K:zb}{H H':Hp}{P P':Addr->Prop}(sm:A9 (del H P) (del H' P')):∀ {v:List V}{t:List OT}{fp:List Addr},(∀a∈fp,H' a=H a)->AG K H P v t fp->AG K H' P' v t fp
 |_,_,_,_,.nil=>.nil
 |_,_,_,k,.cons h r=>.cons (Ew.move sm (λ a ha=>k a (zK _ ha)) h) (AG.move sm (λ a ha=>k a (zh _ ha)) r)
end
mutual
theorem Ew.C6 {K:zb}{H:Hp}{P:Addr->Prop}:∀ {v:V}{t:OT}{fp:List Addr},Ew K H P v t fp->∀a∈fp,EV H a
 |_,_,_,.sh h,a,ha=>by cases ha
 |_,_,_,.lst h r,a,ha=>by
  rcases zp.mp ha with rfl|ha
  ·exact .lst h
  ·exact AG.C6 r a ha
 |_,_,_,.tup h r,a,ha=>AG.C6 r a ha
 |_,_,_,.dK h r,a,ha=>by
  rcases zp.mp ha with rfl|ha
  ·exact⟨_,h,λ _=>⟨λ z=>(by cases z),λ _ z=>by cases z⟩⟩
  ·exact AG.C6 r a ha
 |_,_,_,.dT h r,a,ha=>by
  rcases zp.mp ha with rfl|ha
  ·exact⟨_,h,λ _=>⟨λ z=>(by cases z),λ _ z=>by cases z⟩⟩
  ·exact AG.C6 r a ha
 |_,_,_,.ins n h r,a,ha=>by
  rcases zp.mp ha with rfl|ha
  ·exact⟨_,h,λ _=>⟨λ z=>(by cases z),λ _ z=>by cases z⟩⟩
  ·exact AG.C6 r a ha
theorem AG.C6 {K:zb}{H:Hp}{P:Addr->Prop}:∀ {v:List V}{t:List OT}{fp:List Addr},AG K H P v t fp->∀a∈fp,EV H a
 |_,_,_,.nil,a,ha=>by cases ha
 |_,_,_,.cons h r,a,ha=>by
  rcases zy.mp ha with ha|ha
  ·exact Ew.C6 h a ha
  ·exact AG.C6 r a ha
end
mutual
theorem Ew.EW {K:zb}{H:Hp}{P P':Addr->Prop}:∀ {v:V}{t:OT}{fp aK:List Addr},Ew K H P v t fp->Ew K H P' v t aK->fp=aK
 |_,_,_,_,.sh _,.sh _=>rfl
 |_,_,_,_,.lst h r,.lst h' r'=>by
  rw[h] at h';cases h';rw[AG.EW r r']
 |_,_,_,_,.tup h r,.tup h' r'=>by
  have e:=(Ay h).2.symm.trans (Ay h').2;cases e;exact AG.EW r r'
 |_,_,_,_,.dK (kvs:=kvs) (ts:=ts) h r,x=>by
  generalize ht:OT.C7 false (kvs.map λ kv=>HK kv.1) ts=t at x;cases x with
  |dK h' r' =>
   rw[h] at h';cases h';injection ht with _ _ e
   subst e;rw[AG.EW r r']
  |dT h' r'=>rw[h] at h';cases h'
  |_=>cases ht
 |_,_,_,_,.dT (kvs:=kvs) (ts:=ts) h r,x=>by
  generalize ht:OT.C7 true (kvs.map λ kv=>D.tup (kv.1.map HK)) ts=t at x;cases x with
  |dT h' r' =>
   rw[h] at h';cases h';injection ht with _ _ e
   subst e;rw[AG.EW r r']
  |dK h' r'=>rw[h] at h';cases h'
  |_=>cases ht
 |_,_,_,_,.ins (fs:=fs) (ts:=ts) (x:=y) n h r,x=>by
  generalize ht:OT.ins y (fs.map Prod.fst) ts=t at x;cases x with
  |ins n' h' r' =>
   rw[h] at h';cases h';injection ht with _ _ e
   subst e;rw[AG.EW r r']
  |_=>cases ht
theorem AG.EW {K:zb}{H:Hp}{P P':Addr->Prop}:∀ {v:List V}{t:List OT}{fp aK:List Addr},AG K H P v t fp->AG K H P' v t aK->fp=aK
 |_,_,_,_,.nil,.nil=>rfl
 |_,_,_,_,.cons h r,.cons h' r'=>by rw[Ew.EW h h',AG.EW r r']
end
mutual
theorem Ew.has {K:zb}{H:Hp}{P P0:Addr->Prop}(hs:∀a,P0 a->P a):∀ {v:V}{t:OT}{fp:List Addr},(∀a∈fp,¬ P0 a)->Ew K H P v t fp->Bo K (del H P0) v (er t)
 |_,_,_,_,.sh h=>by rw[er];exact h.mono (Bc hs)
 |_,_,_,k,.lst h r=>by rw[er];exact .lst (.of (show del H P0 _=_ by rw[AA (k _ zf)];exact h)) (AG.has hs (λ a ha=>k a (zg _ ha)) r)
 |_,_,_,k,.tup h r=>by rw[er];exact .tup (Bc hs _ _ h) (AG.has hs k r)
 |_,_,_,k,.dK h r=>by rw[er];exact .Fo (.inl (show del H P0 _=_ by rw[AA (k _ zf)];exact h)) (AG.has hs (λ a ha=>k a (zg _ ha)) r)
 |_,_,_,k,.dT h r=>by rw[er];exact .Fp (.inl (show del H P0 _=_ by rw[AA (k _ zf)];exact h)) (AG.has hs (λ a ha=>k a (zg _ ha)) r)
 |_,_,_,k,.ins n h r=>by rw[er];exact .ins n (show del H P0 _=_ by rw[AA (k _ zf)];exact h) (AG.has hs (λ a ha=>k a (zg _ ha)) r)
theorem AG.has {K:zb}{H:Hp}{P P0:Addr->Prop}(hs:∀a,P0 a->P a):∀ {v:List V}{t:List OT}{fp:List Addr},(∀a∈fp,¬ P0 a)->AG K H P v t fp->Af K (del H P0) v (Gu t)
 |_,_,_,_,.nil=>by rw[Gu];exact .nil
 |_,_,_,k,.cons h r=>by rw[Gu];exact .cons (Ew.has hs (λ a ha=>k a (zK _ ha)) h) (AG.has hs (λ a ha=>k a (zh _ ha)) r)
end
inductive Ck (K:zb) (H:Hp) (P:Addr->Prop):List Addr->List (List D)->Prop
 |nil:Ck K H P [] []
 |cons {q:Addr} {xs:List V} {ds:List D} {ps:List Addr} {E9:List (List D)}:H q=some (.lst xs)->Af K (del H P) xs ds->Ck K H P ps E9->Ck K H P (q::ps) (ds::E9)
def Dc (K:zb)(H:Hp)(P:Addr->Prop):Cl->V->List Addr->Prop
 | .own ds,v,fp=>∃p xs,v=.ref p/\fp=[p]/\H p=some (.lst xs)/\Af K (del H P) xs ds
 | .ow (.rows E9),v,fp=>∃p ps,v=.ref p/\fp=p::ps/\H p=some (.lst (ps.map V.ref))/\Ck K H P ps E9
 | .ow (.Gg _ ds),v,fp=>∃p xs,v=.ref p/\fp=[p]/\H p=some (.lst xs)/\Af K (del H P) xs ds
 | .ow (.tree _ t),v,fp=>Ew K H P v t fp
 | .val _,_,_=>False
noncomputable def Kc:Cl->Bool
 | .val _=>false
 |_=>true
theorem Ck.move {K:zb}{H H':Hp}{P P':Addr->Prop}(sm:A9 (del H P) (del H' P')):∀ {ps:List Addr}{E9:List (List D)},(∀a∈ps,H' a=H a)->Ck K H P ps E9->Ck K H' P' ps E9
 |_,_,_,.nil=>.nil
 |_,_,k,.cons h r t=>.cons ((k _ zf).trans h) (r.mono sm) (Ck.move sm (λ a ha=>k a (zg _ ha)) t)
theorem Ck.at {K:zb}{H:Hp}{P:Addr->Prop}:∀ {ps:List Addr}{E9:List (List D)},Ck K H P ps E9->∀a∈ps,∃xs,H a=some (.lst xs)
 |_,_,.nil,a,h=>by cases h
 |_,_,.cons h r t,a,ha=>by
  rcases zp.mp ha with rfl|ha
  ·exact⟨_,h⟩
  ·exact t.at a ha
theorem Kd:∀ {ps qs:List Addr},ps.map V.ref=qs.map V.ref->ps=qs
 |[],[],_=>rfl
 |[],_::_,h|_::_,[],h=>by cases h
 |p::ps,q::qs,h=>by
  rw[zx,zx] at h;injection h with h1 h2
  injection h1 with h1
  rw[h1,Kd h2]
theorem Dc.move {K:zb}{H H':Hp}{P P':Addr->Prop}(sm:A9 (del H P) (del H' P')){c:Cl}{v:V}{fp:List Addr}(k:∀a∈fp,H' a=H a)(h:Dc K H P c v fp):Dc K H' P' c v fp:=by
 cases c with
 |val d=>exact h
 |own ds =>
  obtain⟨p,xs,rfl,rfl,h1,h2⟩:=h;exact⟨p,xs,rfl,rfl,(k p zf).trans h1,h2.mono sm⟩
 |ow o =>
  cases o with
  |rows E9 =>
   obtain⟨p,ps,rfl,rfl,h1,h2⟩:=h;exact⟨p,ps,rfl,rfl,(k p zf).trans h1,h2.move sm λ a ha=>k a (zg _ ha)⟩
  |Gg p ds =>
   obtain⟨p,xs,rfl,rfl,h1,h2⟩:=h;exact⟨p,xs,rfl,rfl,(k p zf).trans h1,h2.mono sm⟩
  |tree p t=>exact Ew.move sm k h
theorem Dc.at {K:zb}{H:Hp}{P:Addr->Prop}{c:Cl}{v:V}{fp:List Addr}(h:Dc K H P c v fp):∀a∈fp,∃o,H a=some o:=by
 cases c with
 |val d=>exact h.elim
 |own ds =>
  obtain⟨p,xs,rfl,rfl,h1,h2⟩:=h;exact λ a ha=>⟨.lst xs,by rw[zB.mp ha];exact h1⟩
 |ow o =>
  cases o with
  |rows E9 =>
   obtain⟨p,ps,rfl,rfl,h1,h2⟩:=h;intro a ha;rcases zp.mp ha with rfl|ha
   ·exact⟨_,h1⟩
   ·obtain⟨xs,q⟩:=h2.at a ha;exact⟨_,q⟩
  |Gg p ds =>
   obtain⟨p,xs,rfl,rfl,h1,h2⟩:=h;exact λ a ha=>⟨.lst xs,by rw[zB.mp ha];exact h1⟩
  |tree p t =>
   intro a ha;obtain⟨o,q,_⟩:=Ew.C6 h a ha;exact⟨o,q⟩
theorem Dc.same {K:zb}{H H':Hp}{P:Addr->Prop}(e:A9 H H'){c:Cl}{v:V}{fp:List Addr}(h:Dc K H P c v fp):Dc K H' P c v fp:=
 h.move e.del λ a ha=>by obtain⟨xs,q⟩:=h.at a ha;rw[q];exact e _ _ q
theorem Dc.EW {K:zb}{H:Hp}{P P':Addr->Prop}{c:Cl}{v:V}{fp aK:List Addr}(h:Dc K H P c v fp)(h':Dc K H P' c v aK):fp=aK:=by
 cases c with
 |val d=>exact h.elim
 |own ds =>
  obtain⟨p,xs,rfl,rfl,h1,h2⟩:=h;obtain⟨p',fC,e,rfl,eT,eg⟩:=h';cases e;rfl
 |ow o =>
  cases o with
  |rows E9 =>
   obtain⟨p,ps,rfl,rfl,h1,h2⟩:=h;obtain⟨p',jI,e,rfl,eT,eg⟩:=h';cases e;rw[h1] at eT;injection eT with e
   injection e with e
   rw[Kd e]
  |Gg p ds =>
   obtain⟨p,xs,rfl,rfl,h1,h2⟩:=h;obtain⟨p',fC,e,rfl,eT,eg⟩:=h';cases e;rfl
  |tree p t=>exact Ew.EW h h'
structure DR where
 pr:Addr->Prop
 g:Nat->Addr
instance:CoeFun DR (λ _=>Addr->Prop):=⟨DR.pr⟩
instance:Coe DR (Addr->Prop):=⟨DR.pr⟩
noncomputable def Ma:Cl->Option Nat
 | .ow (.Gg n _)=>some n
 | .ow (.tree (some n) _)=>some n
 |_=>none
structure Ae (K:zb)(P0:DR)(P:Addr->Prop)(H:Hp)(σ:St)(ρ:A8):Prop where
 sub:∀a,P0 a->P a
 C6:∀a,P a->EV H a
 val:∀(i:Nat) d,ρ[i]?=some (some (.val d))->∃v,σ[i]?=some (some v)/\Bo K (del H P) v d
 ows:∀(i:Nat) c,ρ[i]?=some (some c)->Kc c=true->∃v fp,σ[i]?=some (some v)/\Dc K H P c v fp/\(∀a∈fp,P a/\¬ P0 a)/\fp.Nodup
 apart:∀(i j:Nat) c c' v v' fp aK,ρ[i]?=some (some c)->ρ[j]?=some (some c')->σ[i]?=some (some v)->σ[j]?=some (some v')->Dc K H P c v fp->Dc K H P c' v' aK->i≠j->∀a∈fp,a∉aK
 len:σ.length=ρ.length
 pin:∀(i:Nat) c n,ρ[i]?=some (some c)->Ma c=some n->σ[i]?=some (some (.ref (P0.g n)))
theorem Ae.own {K:zb}{P0:DR}{P:Addr->Prop}{H:Hp}{σ:St}{ρ:A8}(E:Ae K P0 P H σ ρ)(i:Nat)(ds:List D)(h:ρ[i]?=some (some (.own ds))):
 ∃p xs,σ[i]?=some (some (.ref p))/\H p=some (.lst xs)/\P p/\¬ P0 p/\Af K (del H P) xs ds:=by
 obtain⟨v,fp,h1,⟨p,xs,rfl,rfl,h2,h3⟩,h4,_⟩:=E.ows i _ h rfl;exact⟨p,xs,h1,h2,(h4 p zf).1,(h4 p zf).2,h3⟩
theorem Ae.Od {K:zb}{P0:DR}{P P':Addr->Prop}{H H':Hp}{σ:St}{ρ:A8}(E:Ae K P0 P H σ ρ)(sm:A9 (del H P) (del H' P')){i j:Nat}{c c':Cl}{v v':V}{fp aK:List Addr}
 (ki:∀v fp,σ[i]?=some (some v)->Dc K H P c v fp->∀a∈fp,H' a=H a) (kj:∀v fp,σ[j]?=some (some v)->Dc K H P c' v fp->∀a∈fp,H' a=H a)
 (hi:ρ[i]?=some (some c)) (hj:ρ[j]?=some (some c')) (si:σ[i]?=some (some v)) (sj:σ[j]?=some (some v')) (h:Dc K H' P' c v fp) (h':Dc K H' P' c' v' aK) (ay:i≠j):∀a∈fp,a∉aK:=by
 have key:∀(k:Nat) (d:Cl) (w:V) (fq:List Addr),ρ[k]?=some (some d)->σ[k]?=some (some w)->(∀v fp,σ[k]?=some (some v)->Dc K H P d v fp->∀a∈fp,H' a=H a)->Dc K H' P' d w fq->Dc K H P d w fq:=λ k d w fq hk sk kk ho=>by
  have io:Kc d=true:=by cases d<;>first|rfl|exact ho.elim
  obtain⟨w',dC,s2,o2,_⟩:=E.ows k d hk io;rw[sk] at s2;cases s2;have o3:=o2.move sm (kk _ _ sk o2);rw[ho.EW o3];exact o2
 exact E.apart i j c c' v v' fp aK hi hj si sj (key i c v fp hi si ki h) (key j c' v' aK hj sj kj h') ay
theorem Ae.same {K:zb}{P0:DR}{P:Addr->Prop}{H H':Hp}{σ:St}{ρ:A8}(E:Ae K P0 P H σ ρ)(e:A9 H H'):Ae K P0 P H' σ ρ:=
 ⟨E.sub,λ a h=>(E.C6 a h).same e,λ i d h=>let ⟨v,h1,h2⟩:=E.val i d h;⟨v,h1,h2.mono e.del⟩,
  λ i c h io=>let ⟨v,fp,h1,h2,h3,h4⟩:=E.ows i c h io;⟨v,fp,h1,h2.same e,h3,h4⟩,
  λ i j c c' v v' fp aK hi hj si sj h h' ay=>E.Od e.del (λ v fp _ o a ha=>by obtain⟨xs,q⟩:=o.at a ha;rw[q];exact e _ _ q) (λ v fp _ o a ha=>by obtain⟨xs,q⟩:=o.at a ha;rw[q];exact e _ _ q) hi hj si sj h h' ay,E.len,E.pin⟩
def gV (K:zb)(WX:Str->Hp->Prop)(P:Addr->Prop)(H:Hp)(Q:VK):M D->Prop
 | .ok d=>∀v H',A9 H H'->Bo K (del H' P) v d->Q v H'
 | .ex x=>∀H',A9 H H'->WX x H'
 | .bad=>False
def gA (K:zb)(WX:Str->Hp->Prop)(P:Addr->Prop)(H:Hp)(Q:List V->Hp->Prop):M (List D)->Prop
 | .ok d=>∀v H',A9 H H'->Af K (del H' P) v d->Q v H'
 | .ex x=>∀H',A9 H H'->WX x H'
 | .bad=>False
def gT (WX:Str->Hp->Prop)(H:Hp)(Q:Bool->Hp->Prop):M Bool->Prop
 | .ok b=>∀H',A9 H H'->Q b H'
 | .ex x=>∀H',A9 H H'->WX x H'
 | .bad=>False
section
variable {K:zb}{WX:Str->Hp->Prop}{P:Addr->Prop}{H H':Hp}
theorem gV.same {Q:VK}{m:M D}(h:gV K WX P H Q m)(e:A9 H H'):gV K WX P H' Q m:=by
 cases m with
 |ok d=>exact λ v H2 q hv=>h v H2 (e.trans q) hv
 |ex x=>exact λ H2 q=>h H2 (e.trans q)
 |bad=>exact h
theorem gA.same {Q:List V->Hp->Prop}{m:M (List D)}(h:gA K WX P H Q m)(e:A9 H H'):gA K WX P H' Q m:=by
 cases m with
 |ok d=>exact λ v H2 q hv=>h v H2 (e.trans q) hv
 |ex x=>exact λ H2 q=>h H2 (e.trans q)
 |bad=>exact h
theorem gT.same {Q:Bool->Hp->Prop}{m:M Bool}(h:gT WX H Q m)(e:A9 H H'):gT WX H' Q m:=by
 cases m with
 |ok d|ex x=>exact λ H2 q=>h H2 (e.trans q)
 |bad=>exact h
end
def Lv (c:Bool)(P0:DR)(P:Addr->Prop):Addr->Prop:=if c=true then P else P0.pr
def DE (X:Cx)(WX:Str->Hp->Prop)(c:Bool)(e:Expr)(f:A8->M D):Prop:=
 ∃t,PE X e t/\∀P0 P σ H Q ρ,Ae X.K P0 P H σ ρ->gV X.K WX (Lv c P0 P) H Q (f ρ)->t σ H Q
def DA (X:Cx)(WX:Str->Hp->Prop)(c:Bool)(es:List Expr)(f:A8->M (List D)):Prop:=
 ∃t,PA X es t/\(∀P0 P σ H Q ρ,Ae X.K P0 P H σ ρ->gA X.K WX (Lv c P0 P) H Q (f ρ)->t σ H Q)/\∀ρ ds,f ρ=.ok ds->ds.length=es.length
def DT (X:Cx)(WX:Str->Hp->Prop)(e:Expr)(f:A8->M Bool):Prop:=
 ∃t,PT X e t/\∀P0 P σ H Q ρ,Ae X.K P0 P H σ ρ->gT WX H Q (f ρ)->t σ H Q
def DW (X:Cx)(WX:Str->Hp->Prop)(e:Expr)(f:A8->M Bool):Prop:=
 ∃t,PW X e t/\∀P0 P σ H Q ρ,Ae X.K P0 P H σ ρ->gT WX H Q (f ρ)->t σ H Q
theorem DW.dt {X:Cx}{WX:Str->Hp->Prop}{e:Expr}{f:A8->M Bool}(h:DW X WX e f):DT X WX e f:=let ⟨t,h1,h2⟩:=h;⟨t,h1.pt,h2⟩
section
variable {X:Cx}{WX:Str->Hp->Prop}{c:Bool}{P0:DR}{P:Addr->Prop}{H:Hp}{σ:St}{ρ:A8}
theorem Ae.lv (E:Ae X.K P0 P H σ ρ)(c:Bool):∀a,Lv c P0 P a->P a:=λ a h=>by
 cases c with
 |true=>exact h
 |false=>exact E.sub a h
theorem Ae.V9 (E:Ae X.K P0 P H σ ρ)(c:Bool):∀a,Lv c P0 P a->EV H a:=λ a h=>E.C6 a (E.lv c a h)
theorem Ll {e:Expr}{f:A8->M D}(h:DE X WX true e f):DE X WX false e f:=by
 obtain⟨t,h1,h2⟩:=h;refine⟨t,h1,λ P0 P σ H Q ρ E g=>h2 P0 P σ H Q ρ E ?_⟩;cases e:f ρ with
 |ok d=>rw[e] at g;exact λ v H' s hv=>g v H' s (hv.mono (Bc E.sub))
 |ex x|bad=>rw[e] at g;exact g
noncomputable def Va:D->Bool
 | .tup _ | .lst _ | .C3 _ | .C7 _ _ _ | .ins _ _ _=>false
 |_=>true
noncomputable def fl (m:M D):M D:=m.bind λ d=>if Va d=true then .ok d else .bad
noncomputable def rv (i:Nat)(ρ:A8):M D:=match ρ[i]? with | some (some (.val d))=>.ok d | _=>.bad
noncomputable def ra (i:Nat)(ρ:A8):M D:=match ρ[i]? with | some (some (.val d))=>.ok d | some (some (.own ds))=>.ok (.lst ds) | some (some (.ow (.rows E9)))=>.ok (.lst (E9.map D.lst)) | some (some (.ow (.Gg _ ds)))=>.ok (.lst ds) | some (some (.ow (.tree _ t)))=>.ok (er t) | _=>.bad
theorem A0 (i:Nat){x:Str}{pos:Pos}(h:PE X (.Name x pos) (NJ i)):DE X WX true (.Name x pos) (rv i):=by
 refine⟨_,h,λ P0 P σ H Q ρ E g=>?_⟩;unfold rv at g;split at g
 ·rename_i d e;obtain⟨v,h1,h2⟩:=E.val i d e;exact⟨v,h1,g v H (A9.refl H) h2⟩
 ·exact g.elim
theorem A3 {i j pos}:DE X WX c (.Constant (.int i) j pos) (λ _=>.ok (.int i)):=⟨_,SJ,λ P0 P σ H Q ρ E g=>g _ H (A9.refl H) (.int i)⟩
theorem Gh {b j pos}:DE X WX c (.Constant (.bool b) j pos) (λ _=>.ok (.bl b)):=⟨_,UH,λ P0 P σ H Q ρ E g=>g _ H (A9.refl H) (.bl b)⟩
theorem By {j pos}:DE X WX c (.Constant .none j pos) (λ _=>.ok .Ar):=⟨_,SK,λ P0 P σ H Q ρ E g=>g _ H (A9.refl H) .Ar⟩
theorem A6 {x j pos}:DE X WX c (.Constant (.str x) j pos) (λ _=>.ok (.str x)):=⟨_,SM,λ P0 P σ H Q ρ E g=>g _ H (A9.refl H) (.str x)⟩
def MM (K:zb)(WX:Str->Hp->Prop)(r:R2)(bg:D->D->M D):Prop:=
 ∀(P:Addr->Prop) (H:Hp) (x y:D) (v w:V) (Q:VK),(∀a,P a->EV H a)->Bo K (del H P) v x->Bo K (del H P) w y->gV K WX P H Q (bg x y)->r v w H Q
variable {a b:Expr}{f g:A8->M D}{pos:Pos}
theorem Ke {ta tb:TE}{r:R2}{bg:D->D->M D}(ha:∀P0 P σ H Q ρ,Ae X.K P0 P H σ ρ->gV X.K WX (Lv c P0 P) H Q (f ρ)->ta σ H Q)(hb:∀P0 P σ H Q ρ,Ae X.K P0 P H σ ρ->gV X.K WX (Lv c P0 P) H Q (g ρ)->tb σ H Q)
 (hr:MM X.K WX r bg) {Q:VK} (E:Ae X.K P0 P H σ ρ) (h:gV X.K WX (Lv c P0 P) H Q ((f ρ).bind λ x=>(g ρ).bind λ y=>bg x y)):SX r ta tb σ H Q:=by
 refine ha P0 P σ H _ ρ E ?_;cases e:f ρ with
 |bad|ex x=>rw[e] at h;exact h
 |ok x =>
  rw[e] at h;intro v H1 s1 hv;refine hb P0 P σ H1 _ ρ (E.same s1) ?_;cases e2:g ρ with
  |bad=>rw[e2] at h;exact h
  |ex y=>rw[e2] at h;exact gV.same (m:=.ex y) h s1
  |ok y =>
   rw[e2] at h;intro w H2 s2 hw;exact hr _ H2 x y v w Q (λ a q=>((E.same s1).same s2).V9 c a q) (hv.mono s2.del) hw ((gV.same h s1).same s2)
theorem Fs {op:Operator}{r:R2}{bg:D->D->M D}(ho:DV X (binaryOp op) r)(hr:MM X.K WX r bg)(ha:DE X WX c a f)(hb:DE X WX c b g):DE X WX c (.BinOp a op b pos) (λ ρ=>(f ρ).bind λ x=>(g ρ).bind λ y=>bg x y):=by
 obtain⟨ta,a1,a2⟩:=ha;obtain⟨tb,b1,b2⟩:=hb;exact⟨_,Sh ho a1 b1,λ P0 P σ H Q ρ E h=>Ke a2 b2 hr E h⟩
theorem Jg {op:CmpOp}{r:R2}{bg:D->D->M D}(ho:DV X (compareOp op) r)(hr:MM X.K WX r bg)(ha:DE X WX c a f)(hb:DE X WX c b g)(hm:behindInMarks op b=false):DE X WX c (.Compare a [op] [b] pos) (λ ρ=>(f ρ).bind λ x=>(g ρ).bind λ y=>bg x y):=by
 obtain⟨ta,a1,a2⟩:=ha;obtain⟨tb,b1,b2⟩:=hb;exact⟨_,QB ho a1 b1 hm,λ P0 P σ H Q ρ E h=>Ke a2 b2 hr E h⟩
theorem Vb {r:R2}{bg:D->D->M D}(ho:QK X r)(hr:MM X.K WX r bg)(ha:DE X WX c a f)(hb:DE X WX c b g)(hs:J9 b):DE X WX c (.Subscript a b pos) (λ ρ=>(f ρ).bind λ x=>(g ρ).bind λ y=>bg x y):=by
 obtain⟨ta,a1,a2⟩:=ha;obtain⟨tb,b1,b2⟩:=hb;exact⟨_,V5 ho a1 b1 hs,λ P0 P σ H Q ρ E h=>Ke a2 b2 hr E h⟩
noncomputable def As (k:Int->Int->M D)(x y:D):M D:=match x,y with | .int i,.int j=>k i j | _,_=>.bad
theorem Bo.int_inv {K:zb}{H:Hp}{v:V}{i:Int}(h:Bo K H v (.int i)):v=.int i:=by cases h;rfl
theorem Bo.GQ {K:zb}{H:Hp}{v:V}{i:Bool}(h:Bo K H v (.bl i)):v=.bl i:=by cases h;rfl
theorem Jh {C:Int->Int->Prop}{gv:Int->Int->V}{gd:Int->Int->D}[∀i j,Decidable (C i j)](hg:∀i j K H,Bo K H (gv i j) (gd i j)):MM X.K WX (rI C gv) (As λ i j=>if C i j then .ok (gd i j) else .bad):=by
 intro P H x y v w Q ht hx hy h;unfold As at h;split at h
 ·rename_i i j;rw[hx.int_inv,hy.int_inv];dsimp only at h;by_cases hc:C i j
  ·rw[if_pos hc] at h;exact⟨i,j,rfl,rfl,hc,h _ H (A9.refl H) (hg i j _ _)⟩
  ·rw[if_neg hc] at h;exact h.elim
 ·exact h.elim
theorem Ex {gv:Int->Int->V}{gd:Int->Int->D}(hg:∀i j K H,Bo K H (gv i j) (gd i j)):MM X.K WX (MD gv) (As λ i j=>.ok (gd i j)):=by
 intro P H x y v w Q ht hx hy h;unfold As at h;split at h
 ·rename_i i j;rw[hx.int_inv,hy.int_inv];exact⟨i,j,rfl,rfl,h _ H (A9.refl H) (hg i j _ _)⟩
 ·exact h.elim
instance (i j:Int):Decidable (NR i j):=by unfold NR;infer_instance
instance (i j:Int):Decidable (Qz i j):=by unfold Qz;infer_instance
instance (i j:Int):Decidable (NS i j):=by unfold NS;infer_instance
noncomputable def MN:=As λ i j=>.ok (.int (i+j))
noncomputable def Ti:=As λ i j=>.ok (.int (i-j))
noncomputable def CI:=As λ i j=>if 0<j then .ok (.int (i%j)) else .bad
noncomputable def DH:=As λ i j=>if NR i j then .ok (.int (i / j)) else .bad
noncomputable def HL:=As λ i j=>if Qz i j then .ok (.int (i^j.toNat)) else .bad
noncomputable def WB:=As λ i j=>.ok (.bl (decide (i<j)))
noncomputable def XH:=As λ i j=>.ok (.bl (decide (i<=j)))
noncomputable def Xc:=As λ i j=>.ok (.bl (decide (j<i)))
noncomputable def Xd:=As λ i j=>.ok (.bl (decide (j<=i)))
theorem C1 (ha:DE X WX c a f)(hb:DE X WX c b g):DE X WX c (.BinOp a .Add b pos) (λ ρ=>(f ρ).bind λ x=>(g ρ).bind λ y=>MN x y):=Fs SY (Ex λ _ _ _ _=>.int _) ha hb
theorem Tj (ha:DE X WX c a f)(hb:DE X WX c b g):DE X WX c (.BinOp a .Sub b pos) (λ ρ=>(f ρ).bind λ x=>(g ρ).bind λ y=>Ti x y):=Fs T6 (Ex λ _ _ _ _=>.int _) ha hb
theorem AK (ha:DE X WX c a f)(hb:DE X WX c b g):DE X WX c (.BinOp a .Mod b pos) (λ ρ=>(f ρ).bind λ x=>(g ρ).bind λ y=>CI x y):=Fs T7 (Jh λ _ _ _ _=>.int _) ha hb
theorem Bd (ha:DE X WX c a f)(hb:DE X WX c b g):DE X WX c (.BinOp a .FloorDiv b pos) (λ ρ=>(f ρ).bind λ x=>(g ρ).bind λ y=>DH x y):=Fs QA (Jh λ _ _ _ _=>.int _) ha hb
theorem Dk (ha:DE X WX c a f)(hb:DE X WX c b g):DE X WX c (.BinOp a .Pow b pos) (λ ρ=>(f ρ).bind λ x=>(g ρ).bind λ y=>HL x y):=Fs T8 (Jh λ _ _ _ _=>.int _) ha hb
theorem Vc (ha:DE X WX c a f)(hb:DE X WX c b g):DE X WX c (.Compare a [.Lt] [b] pos) (λ ρ=>(f ρ).bind λ x=>(g ρ).bind λ y=>WB x y):=Jg NU (Ex λ _ _ _ _=>.bl _) ha hb (E7 _)
noncomputable def Oe (n:Nat)(x y:D):M D:=if EL x<=n/\Al x=true/\Al y=true then .ok (.bl (Ak x y)) else .bad
noncomputable def Sl (n:Nat)(x y:D):M D:=if EL x<=n/\Al x=true/\Al y=true then .ok (.bl (!Ak x y)) else .bad
theorem Of {n:Nat}(hu:X.A.units+n<cLine):MM X.K WX (QV X.K X.A false) (Oe n):=by
 intro P H x y v w Q ht hx hy h;unfold Oe at h;by_cases hd:EL x<=n/\Al x=true/\Al y=true
 ·rw[if_pos hd] at h;exact⟨x,y,hx.mono Cj,hy.mono Cj,by omega,hd.2.1,hd.2.2,h _ H (A9.refl H) (.bl _)⟩
 ·rw[if_neg hd] at h;exact h.elim
theorem Og {n:Nat}(hu:X.A.units+n<cLine):MM X.K WX (QV X.K X.A true) (Sl n):=by
 intro P H x y v w Q ht hx hy h;unfold Sl at h;by_cases hd:EL x<=n/\Al x=true/\Al y=true
 ·rw[if_pos hd] at h;exact⟨x,y,hx.mono Cj,hy.mono Cj,by omega,hd.2.1,hd.2.2,h _ H (A9.refl H) (.bl _)⟩
 ·rw[if_neg hd] at h;exact h.elim
theorem Mb {n:Nat}(hu:X.A.units+n<cLine)(ha:DE X WX c a f)(hb:DE X WX c b g):DE X WX c (.Compare a [.Eq] [b] pos) (λ ρ=>(f ρ).bind λ x=>(g ρ).bind λ y=>Oe n x y):=Jg Ob (Of hu) ha hb (E7 _)
theorem Vd {n:Nat}(hu:X.A.units+n<cLine)(ha:DE X WX c a f)(hb:DE X WX c b g):DE X WX c (.Compare a [.NotEq] [b] pos) (λ ρ=>(f ρ).bind λ x=>(g ρ).bind λ y=>Sl n x y):=Jg Oc (Og hu) ha hb (E7 _)
noncomputable def Av:D->Bool
 | .Ar=>true
 |_=>false
theorem Bo.WC {K:zb}{H:Hp}{v:V}{d:D}(h:Bo K H v d):decide (v=.Ar)=Av d:=by
 cases h<;>simp[Av]
theorem Tn {j pos'}(ha:DE X WX c a f):DE X WX c (.Compare a [.Is] [.Constant .none j pos'] pos) (λ ρ=>(f ρ).bind λ x=>.ok (.bl (Av x))):=by
 obtain⟨ta,a1,a2⟩:=ha;refine⟨_,SN (NK a1),λ P0 P σ H Q ρ E h=>?_⟩;dsimp only at h;refine a2 P0 P σ H _ ρ E ?_;cases e:f ρ with
 |bad|ex x=>rw[e] at h;exact h
 |ok x=>rw[e] at h;exact λ v H1 s1 hv=>h _ H1 s1 (by rw[hv.WC];exact .bl _)
noncomputable def Ve (x y:D):M D:=match x,y with
 | .tup ds,.int i| .lst ds,.int i=>(match M4 ds i with|some d=>.ok d|none=>.bad)
 |_,_=>.bad
theorem Af.M4 {K:zb}{H:Hp}{xs:List V}{ds:List D}{i:Int}{d:D}(h:Af K H xs ds)(e:L2.M4 ds i=some d):∃v,L2.M4 xs i=some v/\Bo K H v d:=by
 unfold L2.M4 at e ⊢;rw[<-h.length] at e;cases q:Uv xs.length i with
 |none=>rw[q] at e;cases e
 |some j =>
  rw[q] at e;exact h.get e
theorem DX.C4 {K:zb}{H:Hp}{P:Addr->Prop}{a:Addr}{xs:List V}(h:DX K (del H P) a xs):DX K H a xs:=Cj.seq h
theorem Eb:MM X.K WX (λ x y H Q=>Td X.K x y H Q\/Te X.K x y H Q) Ve:=by
 intro P H x y v w Q ht hx hy h;unfold Ve at h;split at h
 ·rename_i ds i;split at h
  ·rename_i d e;cases hy;cases hx with
   |tup hs hl =>
    obtain⟨u,h1,h2⟩:=hl.M4 e;exact .inr ⟨_,_,i,u,rfl,rfl,Lc.of (Ay hs).2,h1,h _ H (A9.refl H) h2⟩
  ·exact h.elim
 ·rename_i ds i;split at h
  ·rename_i d e;cases hy;cases hx with
   |lst hs hl =>
    obtain⟨u,h1,h2⟩:=hl.M4 e;exact .inl ⟨_,_,i,u,rfl,rfl,hs.C4,h1,h _ H (A9.refl H) h2⟩
  ·exact h.elim
 ·exact h.elim
theorem A7:DA X WX c [] (λ _=>.ok []):=⟨_,CT,λ P0 P σ H Q ρ E h=>h [] H (A9.refl H) .nil,λ ρ ds h=>by cases h;rfl⟩
theorem A1 {e:Expr}{es:List Expr}{f:A8->M D}{fs:A8->M (List D)}(he:DE X WX c e f)(hr:DA X WX c es fs)(hs:starEach (e::es) X.env=(false,eval e X.env)::starEach es X.env:=by rfl):
 DA X WX c (e::es) (λ ρ=>(f ρ).bind λ d=>(fs ρ).bind λ ds=>.ok (d::ds)):=by
 obtain⟨te,e1,e2⟩:=he;obtain⟨tr,r1,r2,r3⟩:=hr;refine⟨_,Ba e1 r1 hs,λ P0 P σ H Q ρ E h=>?_,λ ρ ds h=>?_⟩
 rotate_left
 ·dsimp only at h;cases q:f ρ with
  |bad|ex x=>rw[q] at h;cases h
  |ok x =>
   rw[q] at h;cases q2:fs ρ with
   |bad|ex x=>rw[q2] at h;cases h
   |ok xs =>
    rw[q2] at h;cases h;rw[zi,zi,r3 ρ xs q2]
 dsimp only at h;refine e2 P0 P σ H _ ρ E ?_;cases q:f ρ with
 |bad|ex x=>rw[q] at h;exact h
 |ok x =>
  rw[q] at h;intro v H1 s1 hv;refine r2 P0 P σ H1 _ ρ (E.same s1) ?_;cases q2:fs ρ with
  |bad=>rw[q2] at h;exact h
  |ex y=>rw[q2] at h;exact gA.same (m:=.ex y) h s1
  |ok ds =>
   rw[q2] at h;exact λ vs H2 s2 bG=>h _ H2 (s1.trans s2) (.cons (hv.mono s2.del) bG)
theorem Ji {H:Hp}{P:Addr->Prop}{p:Addr}{o:HO}(hn:H p=none)(ht:∀a,P a->EV H a):del (upd H p o) P p=some o:=by
 rw[AA λ z=>(ht p z).no hn];exact Bi
theorem FW {es:List Expr}{fs:A8->M (List D)}{x1}(ha:DA X WX c es fs)(hz:es.length<=1000:=by decide):DE X WX c (.Tuple es x1 pos) (λ ρ=>(fs ρ).bind λ ds=>if ds.length<=1000 then .ok (.tup ds) else .bad):=by
 obtain⟨ta,a1,a2,a3⟩:=ha;refine⟨_,O1 a1,λ P0 P σ H Q ρ E h=>?_⟩;dsimp only at h;refine a2 P0 P σ H _ ρ E ?_;cases q:fs ρ with
 |bad|ex y=>rw[q] at h;exact h
 |ok ds =>
  rw[q] at h;simp only[M.Aa] at h;by_cases hd:ds.length<=1000
  ·rw[if_pos hd] at h;intro vs H1 s1 bG;refine⟨yt (B0 (by rw[bG.length];exact hd)),λ p hp=>h _ _ (s1.trans (B6 hp _)) (.tup (Ji hp λ a q=>(E.same s1).V9 c a q) (bG.mono (B6 hp _).del))⟩
  ·rw[if_neg hd] at h;exact h.elim
theorem Bz {es:List Expr}{fs:A8->M (List D)}(ha:DA X WX c es fs):DE X WX c (.List es pos) (λ ρ=>(fs ρ).bind λ ds=>if ds.length<=1000 then .ok (.lst ds) else .bad):=by
 obtain⟨ta,a1,a2,a3⟩:=ha;refine⟨_,O2 a1,λ P0 P σ H Q ρ E h=>?_⟩;dsimp only at h;refine a2 P0 P σ H _ ρ E ?_;cases q:fs ρ with
 |bad|ex y=>rw[q] at h;exact h
 |ok ds =>
  rw[q] at h;simp only[M.Aa] at h;by_cases hd:ds.length<=1000
  ·rw[if_pos hd] at h;intro vs H1 s1 bG;refine⟨yt (B0 (by rw[bG.length];exact hd)),λ p hp=>h _ _ (s1.trans (B6 hp _)) (.lst (.of (Ji hp λ a q=>(E.same s1).V9 c a q)) (bG.mono (B6 hp _).del))⟩
  ·rw[if_neg hd] at h;exact h.elim
end
noncomputable def JR (d:D):M Bool:=match d with | .bl b=>.ok b | _=>.bad
section
variable {X:Cx}{WX:Str->Hp->Prop}{c:Bool}{P0:DR}{P:Addr->Prop}{H:Hp}{σ:St}{ρ:A8}{a b e:Expr}{f g:A8->M D}{ft gt:A8->M Bool}{pos:Pos}
theorem Sn {WX:Str->Hp->Prop}{P:Addr->Prop}{K:zb}{H:Hp}{Q:Bool->Hp->Prop}{m:M D}(h:gT WX H Q (m.bind JR)):gV K WX P H (λ x H'=>∃k,x=.bl k/\Q k H') m:=by
 cases m with
 |bad|ex x=>exact h
 |ok d =>
  intro v H' s hv;simp only[M.Aa] at h;unfold JR at h;split at h
  ·rename_i b;exact⟨b,hv.GQ,h H' s⟩
  ·exact h.elim
theorem Dl {op:CmpOp}{r:R2}{bg:D->D->M D}(ho:DV X (compareOp op) r)(hr:MM X.K WX r bg)(ha:DE X WX c a f)(hb:DE X WX c b g)(hm:behindInMarks op b=false):DT X WX (.Compare a [op] [b] pos) (λ ρ=>((f ρ).bind λ x=>(g ρ).bind λ y=>bg x y).bind JR):=by
 obtain⟨ta,a1,a2⟩:=ha;obtain⟨tb,b1,b2⟩:=hb;exact⟨_,QC ho a1 b1 hm,λ P0 P σ H Q ρ E h=>Ke a2 b2 hr E (Sn h)⟩
theorem So (ha:DE X WX c a f)(hb:DE X WX c b g):DT X WX (.Compare a [.Lt] [b] pos) (λ ρ=>((f ρ).bind λ x=>(g ρ).bind λ y=>WB x y).bind JR):=Dl NU (Ex λ _ _ _ _=>.bl _) ha hb (E7 _)
theorem Iq (ha:DE X WX c a f)(hb:DE X WX c b g):DT X WX (.Compare a [.Gt] [b] pos) (λ ρ=>((f ρ).bind λ x=>(g ρ).bind λ y=>Xc x y).bind JR):=Dl UY (Ex λ _ _ _ _=>.bl _) ha hb (E7 _)
theorem Sq (ha:DE X WX c a f)(hb:DE X WX c b g):DT X WX (.Compare a [.GtE] [b] pos) (λ ρ=>((f ρ).bind λ x=>(g ρ).bind λ y=>Xd x y).bind JR):=Dl UZ (Ex λ _ _ _ _=>.bl _) ha hb (E7 _)
theorem DJ {n:Nat}(hu:X.A.units+n<cLine)(ha:DE X WX c a f)(hb:DE X WX c b g):DT X WX (.Compare a [.Eq] [b] pos) (λ ρ=>((f ρ).bind λ x=>(g ρ).bind λ y=>Oe n x y).bind JR):=Dl Ob (Of hu) ha hb (E7 _)
theorem Ft {n:Nat}(hu:X.A.units+n<cLine)(ha:DE X WX c a f)(hb:DE X WX c b g):DT X WX (.Compare a [.NotEq] [b] pos) (λ ρ=>((f ρ).bind λ x=>(g ρ).bind λ y=>Sl n x y).bind JR):=Dl Oc (Og hu) ha hb (E7 _)
theorem FX {j pos'}(ha:DE X WX c a f):DT X WX (.Compare a [.Is] [.Constant .none j pos'] pos) (λ ρ=>(f ρ).bind λ x=>.ok (Av x)):=by
 obtain⟨ta,a1,a2⟩:=ha;refine⟨_,NL (NK a1),λ P0 P σ H Q ρ E h=>?_⟩;dsimp only at h;refine a2 P0 P σ H _ ρ E ?_;cases e:f ρ with
 |bad|ex x=>rw[e] at h;exact h
 |ok x=>rw[e] at h;exact λ v H1 s1 hv=>⟨_,rfl,by rw[hv.WC];exact h H1 s1⟩
theorem QW {j pos'}(ha:DE X WX c a f):DT X WX (.Compare a [.IsNot] [.Constant .none j pos'] pos) (λ ρ=>(f ρ).bind λ x=>.ok (!Av x)):=by
 obtain⟨ta,a1,a2⟩:=ha;refine⟨_,NL (Qq a1),λ P0 P σ H Q ρ E h=>?_⟩;dsimp only at h;refine a2 P0 P σ H _ ρ E ?_;cases e:f ρ with
 |bad|ex x=>rw[e] at h;exact h
 |ok x=>rw[e] at h;exact λ v H1 s1 hv=>⟨_,rfl,by rw[hv.WC];exact h H1 s1⟩
theorem Bp (ha:DT X WX a ft):DT X WX (.UnaryOp .Not a pos) (λ ρ=>(ft ρ).bind λ b=>.ok (!b)):=by
 obtain⟨ta,a1,a2⟩:=ha;refine⟨_,SO a1,λ P0 P σ H Q ρ E h=>?_⟩;dsimp only at h;refine a2 P0 P σ H _ ρ E ?_;cases e:ft ρ with
 |bad|ex x=>rw[e] at h;exact h
 |ok x=>rw[e] at h;exact λ H1 s1=>h H1 s1
theorem Mc (ha:DT X WX a ft):DW X WX (.BoolOp .And [a] pos) ft:=let ⟨ta,a1,a2⟩:=ha;⟨_,pw_and1 a1,a2⟩
theorem BA (ha:DT X WX a ft):DW X WX (.BoolOp .Or [a] pos) ft:=let ⟨ta,a1,a2⟩:=ha;⟨_,pw_or1 a1,a2⟩
theorem Oh {rest:List Expr}(ha:DT X WX a ft)(hb:DW X WX (.BoolOp .And (b::rest) pos) gt):DW X WX (.BoolOp .And (a::b::rest) pos) (λ ρ=>(ft ρ).bind λ k=>if k=true then gt ρ else .ok false):=by
 obtain⟨ta,a1,a2⟩:=ha;obtain⟨tb,b1,b2⟩:=hb;refine⟨_,pw_and a1 b1,λ P0 P σ H Q ρ E h=>?_⟩;dsimp only at h;refine a2 P0 P σ H _ ρ E ?_;cases e:ft ρ with
 |bad|ex x=>rw[e] at h;exact h
 |ok k =>
  rw[e] at h;intro H1 s1;cases k with
  |true =>
   simp only[M.Aa,if_true] at h ⊢;exact b2 P0 P σ H1 _ ρ (E.same s1) (h.same s1)
  |false =>
   simp only[M.Aa,zC,if_false] at h ⊢;exact h H1 s1
theorem BB {rest:List Expr}(ha:DT X WX a ft)(hb:DW X WX (.BoolOp .Or (b::rest) pos) gt):DW X WX (.BoolOp .Or (a::b::rest) pos) (λ ρ=>(ft ρ).bind λ k=>if k=true then .ok true else gt ρ):=by
 obtain⟨ta,a1,a2⟩:=ha;obtain⟨tb,b1,b2⟩:=hb;refine⟨_,pw_or a1 b1,λ P0 P σ H Q ρ E h=>?_⟩;dsimp only at h;refine a2 P0 P σ H _ ρ E ?_;cases e:ft ρ with
 |bad|ex x=>rw[e] at h;exact h
 |ok k =>
  rw[e] at h;intro H1 s1;cases k with
  |true =>
   simp only[M.Aa,if_true] at h ⊢;exact h H1 s1
  |false =>
   simp only[M.Aa,zC,if_false] at h ⊢;exact b2 P0 P σ H1 _ ρ (E.same s1) (h.same s1)
theorem FY {op}(ha:DE X WX c a f):DE X WX c (.BoolOp op [a] pos) f:=let ⟨ta,a1,a2⟩:=ha;⟨_,SQ a1,a2⟩
theorem FZ {rest:List Expr}(ha:DE X WX c a f)(hb:DE X WX c (.BoolOp .And (b::rest) pos) g):DE X WX c (.BoolOp .And (a::b::rest) pos) (λ ρ=>((f ρ).bind JR).bind λ k=>if k=true then g ρ else .ok (.bl false)):=by
 obtain⟨ta,a1,a2⟩:=ha;obtain⟨tb,b1,b2⟩:=hb;refine⟨_,SR a1 b1,λ P0 P σ H Q ρ E h=>?_⟩;dsimp only at h;refine a2 P0 P σ H _ ρ E ?_;cases e:f ρ with
 |bad|ex x=>rw[e] at h;exact h
 |ok d =>
  rw[e] at h;simp only[M.Aa] at h;unfold JR at h;split at h
  ·rename_i k;intro v H1 s1 hv;refine⟨k,hv.GQ,?_⟩;cases k with
   |true =>
    simp only[M.Aa,if_true] at h ⊢;exact b2 P0 P σ H1 _ ρ (E.same s1) (h.same s1)
   |false =>
    simp only[M.Aa,zC,if_false] at h ⊢;exact h _ H1 s1 (.bl _)
  ·exact h.elim
theorem Sr {rest:List Expr}(ha:DE X WX c a f)(hb:DE X WX c (.BoolOp .Or (b::rest) pos) g):DE X WX c (.BoolOp .Or (a::b::rest) pos) (λ ρ=>((f ρ).bind JR).bind λ k=>if k=true then .ok (.bl true) else g ρ):=by
 obtain⟨ta,a1,a2⟩:=ha;obtain⟨tb,b1,b2⟩:=hb;refine⟨_,UL a1 b1,λ P0 P σ H Q ρ E h=>?_⟩;dsimp only at h;refine a2 P0 P σ H _ ρ E ?_;cases e:f ρ with
 |bad|ex x=>rw[e] at h;exact h
 |ok d =>
  rw[e] at h;simp only[M.Aa] at h;unfold JR at h;split at h
  ·rename_i k;intro v H1 s1 hv;refine⟨k,hv.GQ,?_⟩;cases k with
   |true =>
    simp only[M.Aa,if_true] at h ⊢;exact h _ H1 s1 (.bl _)
   |false =>
    simp only[M.Aa,zC,if_false] at h ⊢;exact b2 P0 P σ H1 _ ρ (E.same s1) (h.same s1)
  ·exact h.elim
theorem To (ha:DE X WX c a f):DE X WX c (.UnaryOp .Not a pos) (λ ρ=>((f ρ).bind JR).bind λ k=>.ok (.bl (!k))):=by
 obtain⟨ta,a1,a2⟩:=ha;refine⟨_,SS a1,λ P0 P σ H Q ρ E h=>?_⟩;dsimp only at h;refine a2 P0 P σ H _ ρ E ?_;cases e:f ρ with
 |bad|ex x=>rw[e] at h;exact h
 |ok d =>
  rw[e] at h;simp only[M.Aa] at h;unfold JR at h;split at h
  ·rename_i k;exact λ v H1 s1 hv=>⟨k,hv.GQ,h _ H1 s1 (.bl _)⟩
  ·exact h.elim
theorem WD (ha:DE X WX c a f):DE X WX c (.UnaryOp .USub a pos) (λ ρ=>(f ρ).bind λ d=>match d with | .int i=>.ok (.int (-i)) | _=>.bad):=by
 obtain⟨ta,a1,a2⟩:=ha;refine⟨_,UU T9 a1,λ P0 P σ H Q ρ E h=>?_⟩;dsimp only at h;refine a2 P0 P σ H _ ρ E ?_;cases e:f ρ with
 |bad|ex x=>rw[e] at h;exact h
 |ok d =>
  rw[e] at h;simp only[M.Aa] at h;split at h
  ·rename_i i;exact λ v H1 s1 hv=>⟨i,hv.int_inv,h _ H1 s1 (.int _)⟩
  ·exact h.elim
theorem MO {d:Expr}{h:A8->M D}{op bE:CmpOp}{p q:Int->Int->Bool}(ho:DV X (compareOp op) (MD λ i j=>.bl (p i j)))(bB:DV X (compareOp bE) (MD λ i j=>.bl (q i j)))(ha:DE X WX c a f)(hb:DE X WX c b g)(hd:DE X WX c d h)
 (hm:lastMarks [op,bE] [b,d]=false:=by with_unfolding_all rfl):DE X WX c (.Compare a [op,bE] [b,d] pos) (λ ρ=>(f ρ).bind λ x=>(g ρ).bind λ y=>As (λ i j=>if p i j=true then (h ρ).bind λ z=>As (λ _ k=>.ok (.bl (q j k))) (.int 0) z else .ok (.bl false)) x y):=by
 obtain⟨ta,a1,a2⟩:=ha;obtain⟨tb,b1,b2⟩:=hb;obtain⟨td,d1,d2⟩:=hd;refine⟨_,NX ho bB a1 b1 d1 hm,λ P0 P σ H Q ρ E hh=>?_⟩;dsimp only at hh;refine a2 P0 P σ H _ ρ E ?_;cases e:f ρ with
 |bad|ex x=>rw[e] at hh;exact hh
 |ok x =>
  rw[e] at hh;intro v H1 s1 hv;refine b2 P0 P σ H1 _ ρ (E.same s1) ?_;cases e2:g ρ with
  |bad=>rw[e2] at hh;exact hh
  |ex y=>rw[e2] at hh;exact gV.same (m:=.ex y) hh s1
  |ok y =>
   rw[e2] at hh;simp only[M.Aa] at hh;unfold As at hh;split at hh
   ·rename_i i j;intro w H2 s2 hw;refine⟨i,j,hv.int_inv,hw.int_inv,p i j,rfl,?_⟩;dsimp only at hh;by_cases hp:p i j=true
    ·rw[if_pos hp] at hh ⊢;refine d2 P0 P σ H2 _ ρ ((E.same s1).same s2) ?_;cases e3:h ρ with
     |bad=>rw[e3] at hh;exact hh
     |ex z=>rw[e3] at hh;exact gV.same (gV.same (m:=.ex z) hh s1) s2
     |ok z =>
      rw[e3] at hh;simp only[M.Aa] at hh;cases z with
      |int k=>exact λ u H3 s3 hu=>⟨j,k,hw.int_inv,hu.int_inv,hh _ H3 ((s1.trans s2).trans s3) (.bl _)⟩
      |_=>exact hh.elim
    ·rw[if_neg hp] at hh ⊢;exact hh _ H2 (s1.trans s2) (.bl _)
   ·exact hh.elim
def Gi (K:zb)(WX:Str->Hp->Prop)(r:List V->Hp->VK->Prop)(dF:List D->M D):Prop:=
 ∀(P:Addr->Prop) (H:Hp) (ds:List D) (vs:List V) (Q:VK),(∀a,P a->EV H a)->Af K (del H P) vs ds->gV K WX P H Q (dF ds)->r vs H Q
variable {x:Str}{p:Pos}{es:List Expr}{fs:A8->M (List D)}{id T:String}{r:List V->Hp->VK->Prop}{dF:List D->M D}
theorem Oi {ta:TA}(ha:∀P0 P σ H Q ρ,Ae X.K P0 P H σ ρ->gA X.K WX (Lv c P0 P) H Q (fs ρ)->ta σ H Q)(hr:Gi X.K WX r dF){Q:VK}(E:Ae X.K P0 P H σ ρ)(h:gV X.K WX (Lv c P0 P) H Q ((fs ρ).bind dF)):VZ r ta σ H Q:=by
 refine ha P0 P σ H _ ρ E ?_;cases e:fs ρ with
 |bad|ex x=>rw[e] at h;exact h
 |ok ds =>
  rw[e] at h;exact λ vs H1 s1 bG=>hr _ H1 ds vs Q (λ a q=>(E.same s1).V9 c a q) bG (h.same s1)
theorem GR (hc:E6 X (.builtin id) r)(hr:Gi X.K WX r dF)(hg:Gl X x)(hm:X.mg x=none)(hv:bootBuiltins x=some (.builtin id))(ha:DA X WX c (e::es) fs)(hn:x ≠ "__name__" := by decide)(bz:(x==("__debug__" : Str))=false:=by decide)
 (he:starEach (e::es) X.env=(false,eval e X.env)::starEach es X.env:=by rfl) (aT:(backTo pos (starEach es X.env)).any (·.1)=false:=by rfl):DE X WX c (.Call (.Name x p) (e::es) [] pos) (λ ρ=>(fs ρ).bind dF):=by
 obtain⟨ta,a1,a2,a3⟩:=ha;exact⟨_,Fm hc hg hm hv a1 hn bz he aT,λ P0 P σ H Q ρ E h=>Oi a2 hr E h⟩
theorem Ir (hc:E6 X (.type T) r)(hr:Gi X.K WX r dF)(hg:Gl X x)(hm:X.mg x=none)(hv:bootBuiltins x=some (.type T))(ha:DA X WX c (e::es) fs)(hn:x ≠ "__name__" := by decide)(bz:(x==("__debug__" : Str))=false:=by decide)
 (he:starEach (e::es) X.env=(false,eval e X.env)::starEach es X.env:=by rfl) (aT:(backTo pos (starEach es X.env)).any (·.1)=false:=by rfl):DE X WX c (.Call (.Name x p) (e::es) [] pos) (λ ρ=>(fs ρ).bind dF):=by
 obtain⟨ta,a1,a2,a3⟩:=ha;exact⟨_,MH hc hg hm hv a1 hn bz he aT,λ P0 P σ H Q ρ E h=>Oi a2 hr E h⟩
noncomputable def Oj (ds:List D):M D:=match ds with
 |[.lst xs]|[.tup xs]=>.ok (.int xs.length)
 |_=>.bad
theorem Af.one {K:zb}{H:Hp}{vs:List V}{d:D}(h:Af K H vs [d]):∃v,vs=[v]/\Bo K H v d:=by
 cases h with
 |cons h t=>cases t;exact⟨_,rfl,h⟩
theorem Tp:Gi X.K WX (λ xs H Q=>∃p ys,xs=[.ref p]/\(DX X.K H p ys\/Lc X.K H p ys)/\Q (.int ys.length) H) Oj:=by
 intro P H ds vs Q ht hl h;unfold Oj at h;split at h
 ·obtain⟨v,rfl,hv⟩:=hl.one;cases hv with
  |lst hs hh=>exact⟨_,_,rfl,.inl hs.C4,by rw[hh.length];exact h _ H (A9.refl H) (.int _)⟩
 ·obtain⟨v,rfl,hv⟩:=hl.one;cases hv with
  |tup hs hh=>exact⟨_,_,rfl,.inr (Lc.of (Ay hs).2),by rw[hh.length];exact h _ H (A9.refl H) (.int _)⟩
 ·exact h.elim
theorem Dm (hg:Gl X "len")(hm:X.mg "len" = none)(ha:DE X WX c e f)(hs:starEach [e] X.env=[(false,eval e X.env)]:=by rfl):DE X WX c (.Call (.Name "len" p) [e] [] pos) (λ ρ=>((f ρ).bind λ d=>(M.ok []).bind λ ds=>.ok (d::ds)).bind Oj):=
 GR Jb Tp hg hm PySem.boot_len (A1 ha A7 hs) (he:=hs)
noncomputable def QX:D->String
 | .Ar => "NoneType"
 | .bl _ => "bool"
 | .int _ => "int"
 | .str _ => "str"
 | .tup _ => "tuple"
 | .lst _ => "list"
 | .C3 _ => "NoneType"
 | .C7 _ _ _ => "dict"
 | .ins _ _ _ => "NoneType"
noncomputable def Cm (T:String)(d:D):Bool:=(QX d==T)||(QX d == "bool" && T == "int")
noncomputable def Cn (T:String)(d:D):M D:=match d with
 | .C3 _| .ins _ _ _=>.bad
 |d=>.ok (.bl (Cm T d))
noncomputable def ND:D->Bool
 | .C3 _| .ins _ _ _=>true
 |_=>false
theorem Kf {T:String}{d:D}(h:ND d=false):Cn T d=.ok (.bl (Cm T d)):=by cases d<;>first | rfl | cases h
def WE (K:zb)(T:String):List V->Hp->VK->Prop:=λ xs H Q=>∃x d,xs=[x,.ty T]/\Bo K H x d/\ND d=false/\Q (.bl (Cm T d)) H
theorem Ol {T:String}(hk:∀d:D,zr X.K (.type (QX d)) (.type T)=some (Cm T d)):E6 X (.builtin "isinstance") (WE X.K T):=by
 intro pins s σ H xs us Q I r h;obtain⟨x,d,rfl,hd,hx,q⟩:=h;obtain⟨u,w,rfl,rx,bP⟩:=r.two;cases bP;have fin:∀tk,EP X pins σ Q (.bool (Cm T d)) {s with toks:=tk}:=λ tk=>⟨.bl _,H,I.tok tk,rfl,q⟩;have e:=hk d;cases hd with
 |C3 _ _|ins _ _ _=>cases hx
 |Fo hs hl =>
  cases rx;obtain⟨⟨o,h1,h2⟩,_,_⟩:=Oa I (.inl ⟨_,hs⟩);exact yn PySem.W.kitx_dict I.JQ ⟨o,h1,h2⟩ e (λ z=>nomatch z) fin
 |Fp hs hl =>
  cases rx;obtain⟨⟨o,h1,h2⟩,_,_⟩:=Oa I (.inr ⟨_,hs⟩);exact yn PySem.W.kitx_dict I.JQ ⟨o,h1,h2⟩ e (λ z=>nomatch z) fin
 |Ar=>cases rx;exact yn PySem.W.kitx_none I.JQ True.intro e (λ z=>nomatch z) fin
 |bl b=>cases rx;exact yn PySem.W.kitx_bool I.JQ True.intro e (λ z=>nomatch z) fin
 |int b=>obtain⟨t,rfl⟩:=rx;exact yn PySem.W.kitx_int I.JQ True.intro e (λ z=>nomatch z) fin
 |str b=>obtain⟨t,rfl⟩:=rx;exact yn PySem.W.kitx_str I.JQ True.intro e (λ z=>nomatch z) fin
 |tup hs hl =>
  cases rx;obtain⟨_,_,⟨o,h1,h2,_⟩,_⟩:=I.tuple (.of hs);exact yn PySem.W.kitx_tuple I.JQ ⟨o,h1,h2⟩ e (λ z=>nomatch z) fin
 |lst hs hl =>
  cases rx;obtain⟨_,_,⟨o,n,h1,h2,_⟩,_⟩:=I.list hs;exact yn PySem.W.kitx_list I.JQ ⟨o,h1,h2⟩ e (λ z=>nomatch z) fin
theorem Ec {T:String}{x2:Str}{p2:Pos}(hk:∀d:D,zr X.K (.type (QX d)) (.type T)=some (Cm T d))(hg:Gl X "isinstance")(hm:X.mg "isinstance" = none)(cI:Gl X x2)(bT:X.mg x2=none)(eh:bootBuiltins x2=some (.type T))(ha:DE X WX c e f)
 (hb:bootBuiltins "isinstance" = some (.builtin "isinstance"):=by decide +kernel) (bn:x2 ≠ "__name__" := by decide) (bo:(x2==("__debug__" : Str))=false:=by decide) (hs:starEach [e,.Name x2 p2] X.env=(false,eval e X.env)::starEach [.Name x2 p2] X.env:=by rfl) (ce:starEach [.Name x2 p2] X.env=[(false,eval (.Name x2 p2) X.env)]:=by rfl)
 (aT:(backTo pos (starEach [.Name x2 p2] X.env)).any (·.1)=false:=by rfl):
 DE X WX c (.Call (.Name "isinstance" p) [e,.Name x2 p2] [] pos) (λ ρ=>(f ρ).bind λ d=>Cn T d):=by
 obtain⟨ta,a1,a2⟩:=ha;refine⟨_,Fm (Ol hk) hg hm hb (Ba a1 (Ba (M3 (v:=.ty T) cI bT eh rfl bn bo) CT ce) hs) (by decide) (by decide) hs aT,λ P0 P σ H Q ρ E h=>?_⟩;dsimp only at h;refine a2 P0 P σ H _ ρ E ?_;cases q:f ρ with
 |bad|ex x=>rw[q] at h;exact h
 |ok d =>
  rw[q] at h;simp only[M.Aa] at h;cases hx:ND d with
  |true=>cases d<;>first|exact h.elim|cases hx
  |false =>
   rw[Kf hx] at h;exact λ v H1 s1 hv=>⟨v,d,rfl,hv.mono Cj,hx,h _ H1 s1 (.bl _)⟩
theorem EX (K:zb)(d:D):zr K (.type (QX d)) (.type "tuple")=some (Cm "tuple" d):=by cases d<;>rfl
theorem MQ (K:zb)(d:D):zr K (.type (QX d)) (.type "list")=some (Cm "list" d):=by cases d<;>rfl
theorem MR (K:zb)(d:D):zr K (.type (QX d)) (.type "bool")=some (Cm "bool" d):=by cases d<;>rfl
theorem Om (K:zb)(d:D):zr K (.type (QX d)) (.type "int")=some (Cm "int" d):=by cases d<;>rfl
noncomputable def Uw (lo hi:Option Int)(d:D):M D:=match d with
 | .lst ds=>.ok (.lst ((ds.drop (HT.GH ds.length 0 lo)).take (HT.GH ds.length ds.length hi-HT.GH ds.length 0 lo)))
 |_=>.bad
def DO (X:Cx)(WX:Str->Hp->Prop)(c:Bool)(e:Option Expr)(f:A8->M (Option Int)):Prop:=
 ∃t,PO X e t/\∀P0 P σ H Q ρ,Ae X.K P0 P H σ ρ->(match f ρ with | .ok o=>∀H',A9 H H'->Q o H' | .ex x=>∀H',A9 H H'->WX x H' | .bad=>False)->t σ H Q
theorem BU:DO X WX c none (λ _=>.ok none):=⟨_,QH,λ P0 P σ H Q ρ E h=>h H (A9.refl H)⟩
noncomputable def Xe (d:D):M (Option Int):=match d with | .int i=>.ok (some i) | _=>.bad
theorem B1 (ha:DE X WX c e f):DO X WX c (some e) (λ ρ=>(f ρ).bind Xe):=by
 obtain⟨ta,a1,a2⟩:=ha;refine⟨_,QI a1,λ P0 P σ H Q ρ E h=>?_⟩;dsimp only at h;refine a2 P0 P σ H _ ρ E ?_;cases q:f ρ with
 |bad|ex x=>rw[q] at h;exact h
 |ok d =>
  rw[q] at h;cases d with
  |int i=>exact λ v H1 s1 hv=>⟨i,hv.int_inv,h H1 s1⟩
  |_=>exact h.elim
end
inductive Out where
 |ret (d:D)|next (ρ:A8)|brk (ρ:A8)|cont (ρ:A8)|BJ (c:Cl)|EY (t:OT) (ρ:A8)
def Tr (P0 P:Addr->Prop)(H:Hp)(P':Addr->Prop)(H':Hp):Prop:=A9 (del H P) (del H' P')/\∀a,P0 a->H' a=H a
theorem Tr.refl {P0 P:Addr->Prop}{H:Hp}:Tr P0 P H P H:=⟨A9.refl _,λ _ _=>rfl⟩
theorem Tr.trans {P0 P P1 P2:Addr->Prop}{H H1 H2:Hp}(a:Tr P0 P H P1 H1)(b:Tr P0 P1 H1 P2 H2):Tr P0 P H P2 H2:=⟨a.1.trans b.1,λ x h=>(b.2 x h).trans (a.2 x h)⟩
theorem Ae.tr {K:zb}{P0:DR}{P:Addr->Prop}{H H':Hp}{σ:St}{ρ:A8}(E:Ae K P0 P H σ ρ)(e:A9 H H'):Tr P0 P H P H':=
 ⟨e.del,λ a h=>by obtain⟨o,q,_⟩:=E.C6 a (E.sub a h);rw[e a o q,q]⟩
def gS (K:zb)(WX:Str->Hp->Prop)(P0:DR)(P:Addr->Prop)(H:Hp)(Z:Ends):M Out->Prop
 | .ok (.ret d)=>∀v H' P',Tr P0 P H P' H'->Bo K (del H' P0) v d->Z.rt v H'
 | .ok (.next ρ)=>∀σ' H' P',Tr P0 P H P' H'->Ae K P0 P' H' σ' ρ->Z.nx σ' H'
 | .ok (.brk ρ)=>∀σ' H' P',Tr P0 P H P' H'->Ae K P0 P' H' σ' ρ->Z.bk σ' H'
 | .ok (.cont ρ)=>∀σ' H' P',Tr P0 P H P' H'->Ae K P0 P' H' σ' ρ->Z.ct σ' H'
 | .ok (.BJ c)=>∀v fp H' P',Tr P0 P H P' H'->(∀a,P0 a->P' a)->(∀a,P' a->EV H' a)->Dc K H' P' c v fp->(∀a∈fp,P' a/\¬ P0 a)->fp.Nodup->Z.rt v H'
 | .ok (.EY t ρ)=>∀v fp σ' H' P',Tr P0 P H P' H'->Ae K P0 P' H' σ' ρ->Ew K H' P' v t fp->fp.Nodup->(∀a∈fp,P' a/\¬ P0 a/\∀(j:Nat) c v' fq,ρ[j]?=some (some c)->σ'[j]?=some (some v')->Dc K H' P' c v' fq->a∉fq)->Z.rt v H'
 | .ex x=>∀H' P',Tr P0 P H P' H'->WX x H'
 | .bad=>False
theorem gS.tr {K:zb}{WX:Str->Hp->Prop}{P0:DR}{P P':Addr->Prop}{H H':Hp}{Z:Ends}{m:M Out}(h:gS K WX P0 P H Z m)(t:Tr P0 P H P' H'):gS K WX P0 P' H' Z m:=by
 cases m with
 |bad=>exact h
 |ex x=>exact λ H2 P2 t2=>h H2 P2 (t.trans t2)
 |ok o =>
  cases o with
  |ret d=>exact λ v H2 P2 t2 hv=>h v H2 P2 (t.trans t2) hv
  |next ρ|brk ρ|cont ρ=>exact λ σ2 H2 P2 t2 hv=>h σ2 H2 P2 (t.trans t2) hv
  |BJ c=>exact λ v fp H2 P2 t2=>h v fp H2 P2 (t.trans t2)
  |EY c ρ=>exact λ v fp σ2 H2 P2 t2=>h v fp σ2 H2 P2 (t.trans t2)
def DS (X:Cx)(WX:Str->Hp->Prop)(st:Stmt)(g:A8->M Out):Prop:=
 ∃t,PS X st t/\∀P0 P σ H Z ρ,Ae X.K P0 P H σ ρ->gS X.K WX P0 P H Z (g ρ)->t Z σ H
def Oo (X:Cx)(WX:Str->Hp->Prop)(st:List Stmt)(g:A8->M Out):Prop:=
 ∃t,MA X st t/\∀P0 P σ H Z ρ,Ae X.K P0 P H σ ρ->gS X.K WX P0 P H Z (g ρ)->t Z σ H
noncomputable def Oq (m:M Out)(k:A8->M Out):M Out:=match m with
 | .ok (.next ρ)=>k ρ
 |m=>m
section
variable {X:Cx}{WX:Str->Hp->Prop}{c:Bool}{P0:DR}{P:Addr->Prop}{H:Hp}{σ:St}{ρ:A8}{a b e:Expr}{f g:A8->M D}{ft gt:A8->M Bool}{pos:Pos}{st:Stmt}{rest:List Stmt}{g1 g2:A8->M Out}
theorem Ah:Oo X WX [] (λ ρ=>.ok (.next ρ)):=⟨_,Qr,λ P0 P σ H Z ρ E h=>h σ H P Tr.refl E⟩
theorem A4 (h:DS X WX st g1):Oo X WX [st] g1:=let ⟨t,h1,h2⟩:=h;⟨_,Qs h1,h2⟩
theorem A2 (h:DS X WX st g1)(hr:Oo X WX rest g2):Oo X WX (st::rest) (λ ρ=>Oq (g1 ρ) g2):=by
 obtain⟨t,h1,h2⟩:=h;obtain⟨u,r1,r2⟩:=hr;refine⟨_,NM h1 r1,λ P0 P σ H Z ρ E h=>?_⟩;dsimp only at h;refine h2 P0 P σ H {Z with nx:=u Z} ρ E ?_;cases q:g1 ρ with
 |bad|ex x=>rw[q] at h;exact h
 |ok o =>
  rw[q] at h;cases o with
  |ret d|brk d|cont d|BJ d|EY d ρ2=>exact h
  |next ρ'=>exact λ σ' H' P' t E'=>r2 P0 P' σ' H' Z ρ' E' (gS.tr h t)
theorem Ot (ha:DE X WX false e f):DS X WX (.Return (some e) pos) (λ ρ=>(f ρ).bind λ d=>.ok (.ret d)):=by
 obtain⟨ta,a1,a2⟩:=ha;refine⟨_,Lg a1,λ P0 P σ H Z ρ E h=>?_⟩;dsimp only at h;refine a2 P0 P σ H _ ρ E ?_;cases q:f ρ with
 |bad=>rw[q] at h;exact h
 |ex x=>rw[q] at h;exact λ H' s=>h H' P (E.tr s)
 |ok d=>rw[q] at h;exact λ v H' s hv=>h v H' P (E.tr s) hv
theorem AD {c:Expr}{sa sb:List Stmt}(hc:DT X WX c ft)(ha:Oo X WX sa g1)(hb:Oo X WX sb g2):DS X WX (.If c sa sb pos) (λ ρ=>(ft ρ).bind λ k=>if k=true then g1 ρ else g2 ρ):=by
 obtain⟨tc,c1,c2⟩:=hc;obtain⟨ta,a1,a2⟩:=ha;obtain⟨tb,b1,b2⟩:=hb;refine⟨_,UP c1 a1 b1,λ P0 P σ H Z ρ E h=>?_⟩;dsimp only at h;refine c2 P0 P σ H _ ρ E ?_;cases q:ft ρ with
 |bad=>rw[q] at h;exact h
 |ex x=>rw[q] at h;exact λ H' s=>h H' P (E.tr s)
 |ok k =>
  rw[q] at h;intro H1 s1;cases k with
  |true =>
   simp only[M.Aa,if_true] at h ⊢;exact a2 P0 P σ H1 Z ρ (E.same s1) (h.tr (E.tr s1))
  |false =>
   simp only[M.Aa,zC,if_false] at h ⊢;exact b2 P0 P σ H1 Z ρ (E.same s1) (h.tr (E.tr s1))
theorem get_set {α:Type}{l:List α}{i j:Nat}{x y:α}(h:(l.set i x)[j]?=some y):(i=j/\i<l.length/\x=y)\/(i≠j/\l[j]?=some y):=by
 by_cases e:i=j
 ·subst e;rw[List.getElem?_set_self'] at h;cases q:l[i]? with
  |none=>rw[q] at h;cases h
  |some z =>
   rw[q] at h;exact .inl ⟨rfl,(zI.mp q).1,by simpa using h⟩
 ·rw[zL e] at h;exact .inr ⟨e,h⟩
theorem Ae.Kg {K:zb}(E:Ae K P0 P H σ ρ){i:Nat}{v:V}{d:D}(hv:Bo K (del H P) v d):Ae K P0 P H (σ.set i (some v)) (ρ.set i (some (.val d))):=by
 have gs:∀ {j:Nat},i≠j->(σ.set i (some v))[j]?=σ[j]? :=λ h=>zL h;refine⟨E.sub,E.C6,λ j e h=>?_,λ j c h io=>?_,λ j k c c' u u' fp aK h1 h2 h3 h4 h5 h6 ay=>?_,by rw[List.length_set,List.length_set];exact E.len,λ j c n h hp=>?_⟩
 rotate_left 3
 ·rcases get_set h with ⟨rfl,hl,e1⟩|⟨ay,h⟩
  ·cases e1;cases hp
  ·rw[gs ay];exact E.pin j c n h hp
 ·rcases get_set h with ⟨rfl,hl,e1⟩|⟨ay,h⟩
  ·cases e1;exact⟨v,yb (by rw[E.len];exact hl),hv⟩
  ·obtain⟨w,h1,h2⟩:=E.val j e h;exact⟨w,by rw[gs ay];exact h1,h2⟩
 ·rcases get_set h with ⟨rfl,hl,e1⟩|⟨ay,h⟩
  ·cases e1;cases io
  ·obtain⟨w,fp,h1,h2⟩:=E.ows j c h io;exact⟨w,fp,by rw[gs ay];exact h1,h2⟩
 ·rcases get_set h1 with ⟨rfl,hl,e1⟩|⟨cx,h1⟩
  ·cases e1;exact h5.elim
  ·rcases get_set h2 with ⟨rfl,hl,e1⟩|⟨bn,h2⟩
   ·cases e1;exact h6.elim
   ·rw[gs cx] at h3;rw[gs bn] at h4;exact E.apart j k c c' u u' fp aK h1 h2 h3 h4 h5 h6 ay
theorem Ae.Vf {K:zb}(E:Ae K P0 P H σ ρ){P':Addr->Prop}{H':Hp}{i:Nat}{v:V}{c:Cl}{fp:List Addr}(hs:∀a,P a->P' a)(ht:∀a,P' a->EV H' a)(sm:A9 (del H P) (del H' P'))
 (keep:∀(j:Nat) c' v' aK,i≠j->ρ[j]?=some (some c')->σ[j]?=some (some v')->Dc K H P c' v' aK->∀a∈aK,H' a=H a/\a∉fp)
 (new:Dc K H' P' c v fp) (hp:∀a∈fp,P' a/\¬ P0 a) (nd:fp.Nodup) (fD:∀n,Ma c=some n->v=.ref (P0.g n):=by intro n z;cases z):Ae K P0 P' H' (σ.set i (some v)) (ρ.set i (some c)):=by
 have gs:∀ {j:Nat},i≠j->(σ.set i (some v))[j]?=σ[j]? :=λ h=>zL h;refine⟨λ a h=>hs a (E.sub a h),ht,λ j e h=>?_,λ j c' h io=>?_,λ j k c1 c2 u u' i9 dC h1 h2 h3 h4 h5 h6 ay=>?_,by rw[List.length_set,List.length_set];exact E.len,λ j c' n h hp=>?_⟩
 rotate_left 3
 ·rcases get_set h with ⟨rfl,hl,e1⟩|⟨ay,h⟩
  ·cases e1;rw[yb (by rw[E.len];exact hl),fD n hp]
  ·rw[gs ay];exact E.pin j c' n h hp
 ·rcases get_set h with ⟨rfl,hl,e1⟩|⟨ay,h⟩
  ·cases e1;exact new.elim
  ·obtain⟨w,h1,h2⟩:=E.val j e h;exact⟨w,by rw[gs ay];exact h1,h2.mono sm⟩
 ·rcases get_set h with ⟨rfl,hl,e1⟩|⟨ay,h⟩
  ·cases e1;exact⟨v,fp,yb (by rw[E.len];exact hl),new,hp,nd⟩
  ·obtain⟨w,fq,h1,h2,h3,h4⟩:=E.ows j c' h io;exact⟨w,fq,by rw[gs ay];exact h1,h2.move sm λ a ha=>(keep j c' w fq ay h h1 h2 a ha).1,λ a ha=>⟨hs a (h3 a ha).1,(h3 a ha).2⟩,h4⟩
 ·have back:∀(l:Nat) (d:Cl) (w:V) (fq:List Addr),i≠l->ρ[l]?=some (some d)->σ[l]?=some (some w)->Dc K H' P' d w fq->∃fr,Dc K H P d w fr/\fr=fq:=λ l d w fq hn hk sk ho=>by
   have io:Kc d=true:=by cases d<;>first|rfl|exact ho.elim
   obtain⟨w',dC,s2,o2,_⟩:=E.ows l d hk io;rw[sk] at s2;cases s2;exact⟨dC,o2,(o2.move sm λ a ha=>(keep l d w dC hn hk sk o2 a ha).1).EW ho⟩
  rcases get_set h1 with ⟨rfl,hl,e1⟩|⟨cx,h1⟩
  ·cases e1;rw[yb (by rw[E.len];exact hl)] at h3;cases h3;rcases get_set h2 with ⟨e,_⟩|⟨bn,h2⟩
   ·exact (ay e).elim
   ·rw[gs bn] at h4;obtain⟨fr,o,rfl⟩:=back k c2 u' dC bn h2 h4 h6;intro a ha hb;rw[new.EW h5] at keep;exact (keep k c2 u' fr bn h2 h4 o a hb).2 ha
  ·rw[gs cx] at h3;obtain⟨fr,o,rfl⟩:=back j c1 u i9 cx h1 h3 h5;rcases get_set h2 with ⟨rfl,hl,e1⟩|⟨bn,h2⟩
   ·cases e1;rw[yb (by rw[E.len];exact hl)] at h4;cases h4;intro a ha;rw[new.EW h6] at keep;exact (keep j c1 u fr cx h1 h3 o a ha).2
   ·rw[gs bn] at h4;obtain⟨iA,o2,rfl⟩:=back k c2 u' dC bn h2 h4 h6;exact E.apart j k c1 c2 u u' fr iA h1 h2 h3 h4 o o2 ay
theorem Lm {α:Type}:∀ {l:List α}{i:Nat}{x:α},l[i]?=some x->l.set i x=l
 |[],_,_,h=>by cases h
 |y::r,0,x,h=>by cases h;rfl
 |y::r,i+1,x,h=>by rw[yx,Lm (by simpa using h)]
theorem Ae.mut {K:zb}(E:Ae K P0 P H σ ρ){i p:Nat}{xs:List V}{ds fE:List D}(ho:ρ[i]?=some (some (.own ds)))(hs:σ[i]?=some (some (.ref p)))(pP:P p)(eU:¬ P0 p)(hx:Af K (del H P) xs fE):
 Ae K P0 P (upd H p (.lst xs)) σ (ρ.set i (some (.own fE)))/\Tr P0 P H P (upd H p (.lst xs)):=by
 have sd:del (upd H p (.lst xs)) P=del H P:=by
  funext b;by_cases hb:P b
  ·rw[GP hb,GP hb]
  ·rw[AA hb,AA hb,An (λ z=>hb (by rw[z];exact pP))]
 have sm:A9 (del H P) (del (upd H p (.lst xs)) P):=by rw[sd];exact A9.refl _
 obtain⟨v,fp,s1,o1,_⟩:=E.ows i _ ho rfl;rw[hs] at s1;cases s1;have key:=E.Vf (P':=P) (H':=upd H p (.lst xs)) (i:=i) (v:=.ref p) (c:=.own fE) (fp:=[p]) (λ a h=>h) (λ a h=>?_) sm (λ j c' v' aK ay h1 h2 h3 a ha=>?_) ⟨p,xs,rfl,rfl,Bi,by rw[sd];exact hx⟩ (λ a ha=>by rw[zB.mp ha];exact⟨pP,eU⟩) (by simp)
 ·rw[Lm hs] at key;exact⟨key,sm,λ a h=>by rw[An (λ z=>eU (by rw[<-z];exact h))]⟩
 ·by_cases ha:a=p
  ·subst ha;exact EV.lst Bi
  ·unfold EV;rw[An ha];exact E.C6 a h
 ·obtain⟨p',fC,e,rfl,_⟩:=o1;cases e;have hn:a≠p:=λ z=>E.apart j i c' _ v' _ aK [p] h1 ho h2 hs h3 ⟨p,fC,rfl,rfl,by assumption⟩ (Ne.symm ay) a ha (by rw[z];exact zB.mpr rfl);exact⟨An hn,λ z=>hn (zB.mp z)⟩
theorem Ae.grow {K:zb}(E:Ae K P0 P H σ ρ){i p:Nat}{xs:List V}{ds:List D}{v:V}{d:D}(ho:ρ[i]?=some (some (.own ds)))(hs:σ[i]?=some (some (.ref p)))(hp:H p=some (.lst xs))(pP:P p)(eU:¬ P0 p)(hx:Af K (del H P) xs ds)(hv:Bo K (del H P) v d):
 Ae K P0 P (upd H p (.lst (xs++[v]))) σ (ρ.set i (some (.own (ds++[d]))))/\Tr P0 P H P (upd H p (.lst (xs++[v]))):=E.mut ho hs pP eU (hx.snoc hv)
theorem Ag (i:Nat){x:Str}{pos':Pos}(hN:X.N.Nodup)(hi:X.N[i]?=some x)(hx:Loc X.env.scope x)(ha:DE X WX true e f)(hs:swapsWith e (some (.Name x pos')) pos.line X.env=pure false:=by rfl)(hf:X.fn x=true\/X.env.scope.names.lookup x=some .local:=by first | exact .inl rfl | exact .inr rfl | assumption):
 DS X WX (.Assign [.Name x pos'] e pos) (λ ρ=>(f ρ).bind λ d=>.ok (.next (ρ.set i (some (.val d))))):=by
 obtain⟨ta,a1,a2⟩:=ha;refine⟨_,NO hN hi hx a1 hs hf,λ P0 P σ H Z ρ E h=>?_⟩;dsimp only at h;refine a2 P0 P σ H _ ρ E ?_;cases q:f ρ with
 |bad=>rw[q] at h;exact h
 |ex x=>rw[q] at h;exact λ H' s=>h H' P (E.tr s)
 |ok d=>rw[q] at h;exact λ v H' s hv=>h _ H' P (E.tr s) ((E.same s).Kg hv)
noncomputable def MS (i:Nat)(ρ:A8)(m:M D):M Out:=match ρ[i]? with
 |some (some (.own ds))=>m.bind λ d=>if ds.length<1000 then .ok (.next (ρ.set i (some (.own (ds++[d]))))) else .bad
 |_=>.bad
theorem Iv (i:Nat){x:Str}{p1 apos ax:Pos}(hv:PE X (.Name x p1) (NJ i))(ha:DE X WX true e f)(hs:starEach [e] X.env=[(false,eval e X.env)]:=by rfl)
 (df:swapsWith (.Call (.Attribute (.Name x p1) "append" apos) [e] [] ax) none pos.line X.env=pure false:=by rfl)
 (aV:attributeBase (.Name x p1) "append" X.env (eval (.Name x p1) X.env)=eval (.Name x p1) X.env:=by rfl)
 (bF:((backTo ax (starEach [e] X.env)).all (λ x => !x.1)&&(backToKw ax (keywordEach [] X.env)).all (λ x=>x.1.isSome)&&decide (([e]:List Expr).length+([]:List Keyword).length+(if ([]:List Keyword).isEmpty then 0 else 1)<30))=true:=by rfl)
 (aW:(apos.endLine==ax.line)=true:=by rfl) (aB:(backTo ax (starEach [] X.env)).any (·.1)=false:=by rfl):
 DS X WX (.Expr (.Call (.Attribute (.Name x p1) "append" apos) [e] [] ax) pos) (λ ρ=>MS i ρ (f ρ)):=by
 obtain⟨ta,a1,a2⟩:=ha;refine⟨_,Qt (O5 PySem.F.plainAttrs_list PySem.F.slot_list_append PySem.F.type_list_append MI hv (Ba a1 CT hs) aV bF aW hs aB) df,λ P0 P σ H Z ρ E h=>?_⟩;dsimp only at h;unfold MS at h;split at h
 ·rename_i ds e1;obtain⟨p,xs,h1,h2,h3,h4,h5⟩:=E.own i ds e1;refine⟨_,h1,.inl ⟨rfl,xs,.of h2⟩,?_⟩;refine a2 P0 P σ H _ ρ E ?_;cases q:f ρ with
  |bad=>rw[q] at h;exact h
  |ex y=>rw[q] at h;exact λ H' s=>h H' P (E.tr s)
  |ok d =>
   rw[q] at h;simp only[M.Aa] at h;by_cases hl:ds.length<1000
   ·rw[if_pos hl] at h;intro v H1 s1 hv;have E1:=E.same s1;have eg:H1 p=some (.lst xs):=s1 _ _ h2;refine⟨p,xs,v,rfl,rfl,eg,B0 (by rw[h5.length];omega),?_⟩;obtain⟨E2,t2⟩:=E1.grow e1 h1 eg h3 h4 (h5.mono s1.del) hv;exact h _ _ _ ((E.tr s1).trans t2) E2
   ·rw[if_neg hl] at h;exact h.elim
 ·exact h.elim
end
def gG (K:zb)(P0:DR)(P:Addr->Prop)(H:Hp)(Q:St->Hp->Prop):M A8->Prop
 | .ok ρ=>∀σ',Ae K P0 P H σ' ρ->Q σ' H
 |_=>False
def DG (X:Cx)(tg:Expr)(gt:D->A8->M A8):Prop:=
 ∃g:TG,PG X tg g/\∀P0 P σ H Q ρ v d,Ae X.K P0 P H σ ρ->Bo X.K (del H P) v d->gG X.K P0 P H Q (gt d ρ)->g v σ H Q
def W0 (X:Cx)(iB:List Expr)(gt:List D->A8->M A8):Prop:=
 ∃g:Sg,UQ X iB g/\∀P0 P σ H Q ρ v d,Ae X.K P0 P H σ ρ->Af X.K (del H P) v d->gG X.K P0 P H Q (gt d ρ)->g v σ H Q
structure Ou (K:zb)(J:It)(P:Addr->Prop)(H:Hp)(ds:List D):Prop where
 go:∀(i:Nat) P' H',A9 (del H P) (del H' P')->i<ds.length->J.go i H'
 stop:∀(i:Nat) P' H',A9 (del H P) (del H' P')->ds.length<=i->J.stop i H'
 Qv:∀(i:Nat) P' H' v dD d,A9 (del H P) (del H' P')->(∀a,P' a->EV H' a)->ds[i]?=some d->J.Qv i H' v dD->A9 H' dD/\Bo K (del dD P') v d
def DI (X:Cx)(WX:Str->Hp->Prop)(tg iter:Expr)(f:A8->M (List D)):Prop:=
 ∃wi,PI X tg iter wi/\∀P0 P σ H R ρ,Ae X.K P0 P H σ ρ->(match f ρ with | .ok ds=>∀J H',A9 H H'->Ou X.K J P H' ds->R J H' | .ex x=>∀H',A9 H H'->WX x H' | .bad=>False)->wi σ H R
noncomputable def forM (gt:D->A8->M A8)(body:A8->M Out):List D->A8->M Out
 |[],ρ=>.ok (.next ρ)
 |d::r,ρ=>match gt d ρ with
  | .ok ρ1=>(match body ρ1 with
   | .ok (.next ρ2)| .ok (.cont ρ2)=>forM gt body r ρ2
   | .ok (.brk ρ2)=>.ok (.next ρ2)
   |m=>m)
  |_=>.bad
section
variable {X:Cx}{WX:Str->Hp->Prop}{c:Bool}{P0:DR}{P:Addr->Prop}{H:Hp}{σ:St}{ρ:A8}{a b e tg iter:Expr}{f g:A8->M D}{ft:A8->M Bool}{pos:Pos}{gt:D->A8->M A8}{ei:List D->A8->M A8}{gb:A8->M Out}{fi:A8->M (List D)}
theorem Dn (i:Nat){x:Str}(hN:X.N.Nodup)(hi:X.N[i]?=some x)(hx:Loc X.env.scope x)(hf:X.fn x=true\/X.env.scope.names.lookup x=some .local:=by first | exact .inl rfl | exact .inr rfl | assumption):DG X (.Name x pos) (λ d ρ=>.ok (ρ.set i (some (.val d)))):=
 ⟨_,J0 hN hi hx hf,λ P0 P σ H Q ρ v d E hv h=>h _ (E.Kg hv)⟩
theorem QY:W0 X [] (λ ds ρ=>match ds with | []=>.ok ρ | _=>.bad):=⟨_,Qu,λ P0 P σ H Q ρ v d E hv h=>by
 cases hv with
 |nil=>exact⟨rfl,h σ E⟩
 |cons _ _=>exact h.elim⟩
theorem Fu {es:List Expr}(h1:DG X e gt)(h2:W0 X es ei)(hs:(assignEach (e::es) X.env).map (·.2)=assign e X.env::(assignEach es X.env).map (·.2):=by rfl):
 W0 X (e::es) (λ ds ρ=>match ds with|d::r=>(gt d ρ).bind (ei r)|[]=>.bad):=by
 obtain⟨t,a1,a2⟩:=h1;obtain⟨u,b1,b2⟩:=h2;refine⟨_,NN a1 b1 hs,λ P0 P σ H Q ρ v d E hv h=>?_⟩;cases hv with
 |nil=>exact h.elim
 | @cons x d xs ds hx iC =>
  refine⟨x,xs,rfl,a2 P0 P σ H _ ρ x d E hx ?_⟩;dsimp only at h;cases q:gt d ρ with
  |bad|ex y=>rw[q] at h;exact h
  |ok ρ1=>rw[q] at h;exact λ σ' E'=>b2 P0 P σ' H Q ρ1 xs ds E' iC h
theorem Tq {es:List Expr}{k n:Nat}(hc:X.calm=true)(h:W0 X es ei)(hn:(assignEach es X.env).length=n:=by rfl)(cU:(assignEach es X.env).findIdx? (·.1)=none:=by rfl):
 DG X (.Tuple es k pos) (λ d ρ=>match d with | .tup ds=>if ds.length=n then ei ds ρ else .bad|_=>.bad):=by
 obtain⟨t,a1,a2⟩:=h;refine⟨_,SU hc a1 hn cU,λ P0 P σ H Q ρ v d E hv h=>?_⟩;cases hv with
 | @tup a xs ds hs hl =>
  dsimp only at h;by_cases hd:ds.length=n
  ·rw[if_pos hd] at h;exact⟨a,xs,rfl,Lc.of (Ay hs).2,by rw[hl.length];exact hd,a2 P0 P σ H Q ρ xs ds E hl h⟩
  ·rw[if_neg hd] at h;exact h.elim
 |_=>exact h.elim
theorem Ey (ha:DE X WX true e f):DI X WX tg e (λ ρ=>(f ρ).bind λ d=>match d with | .lst ds=>.ok ds | _=>.bad):=by
 obtain⟨ta,a1,a2⟩:=ha;refine⟨_,Qw a1,λ P0 P σ H R ρ E h=>?_⟩;dsimp only at h;refine a2 P0 P σ H _ ρ E ?_;cases q:f ρ with
 |bad|ex x=>rw[q] at h;exact h
 |ok d =>
  rw[q] at h;cases d with
  |lst ds =>
   intro v H1 s1 hv;cases hv with
   | @lst a xs _ hs hl =>
    refine⟨a,rfl,⟨xs,hs.C4⟩,h _ H1 s1 ⟨λ i P' H' s hi=>?_,λ i P' H' s hi=>?_,λ i P' H' v dD d s ht hd y=>?_⟩⟩
    ·obtain⟨x,hx,_⟩:=hl.get (z0 hi);exact⟨xs,x,(s.seq hs).C4,hx⟩
    ·exact⟨xs,(s.seq hs).C4,by rw[hl.length];exact hi⟩
    ·obtain⟨rfl,y⟩:=y;obtain⟨x,hx,fm⟩:=hl.get hd;have e:=y xs (s.seq hs).C4;rw[hx] at e;cases e;exact⟨A9.refl _,fm.mono s⟩
  |_=>exact h.elim
noncomputable def BC (lo:Int):Nat->List D
 |0=>[]
 |n+1=>.int lo::BC (lo+1) n
theorem Cp (lo:Int):∀n:Nat,(BC lo n).length=n:=by
 intro n;induction n generalizing lo with
 |zero=>rfl
 |succ n ih=>rw[BC,zi,ih]
theorem EZ {lo:Int}{n i:Nat}{d:D}(h:(BC lo n)[i]?=some d):d=.int (lo+i)/\i<n:=by
 have hi:i<n:=by
  have:=(zI.mp h).1;rw[Cp] at this;exact this
 refine⟨?_,hi⟩;induction n generalizing lo i with
 |zero=>omega
 |succ n ih =>
  cases i with
  |zero=>rw[BC] at h;simp at h;rw[<-h];simp
  |succ i =>
   rw[BC,yu] at h;rw[ih h (by omega)];congr 1;omega
theorem Ln {K:zb}{P:Addr->Prop}{H:Hp}(lo:Int)(n:Nat):Ou K (VY lo n) P H (BC lo n):=
 ⟨λ i P' H' _ hi=>by rw[Cp] at hi;exact hi,λ i P' H' _ hi=>by rw[Cp] at hi;exact hi,λ i P' H' v dD d _ _ hd y=>by
  obtain⟨rfl,rfl⟩:=y;obtain⟨rfl,_⟩:=EZ hd;exact⟨A9.refl _,.int _⟩⟩
noncomputable def MT:D->M (List D)
 | .int j=>@ite _ (-(2^62)<=j/\j<2^62) (Classical.propDecidable _) (.ok (BC 0 j.toNat)) .bad
 |_=>.bad
theorem Kh {j:Int}(h1 : -(2^62)<=j)(h2:j<2^62):MT (.int j)=.ok (BC 0 j.toNat):=if_pos ⟨h1,h2⟩
theorem Ki {n:Nat}(h:n<=1000):MT (.int (n:Int))=.ok (BC 0 n):=by
 rw[Kh (by omega) (by omega),Int.toNat_natCast]
theorem Iw {p:Pos}(hg:Gl X "range")(hm:X.mg "range" = none)(ha:DE X WX c a f)(hs:starEach [a] X.env=[(false,eval a X.env)]:=by rfl):
 DI X WX tg (.Call (.Name "range" p) [a] [] pos) (λ ρ=>(f ρ).bind MT):=by
 obtain⟨ta,a1,a2⟩:=ha;refine⟨_,MC hg hm (Ba a1 CT hs) hs,λ P0 P σ H R ρ E h=>?_⟩;dsimp only at h;refine a2 P0 P σ H _ ρ E ?_;cases q:f ρ with
 |bad|ex x=>rw[q] at h;exact h
 |ok d =>
  rw[q] at h;cases d with
  |int j =>
   simp only[M.Aa] at h;by_cases hj : -(2^62)<=j/\j<2^62
   ·rw[Kh hj.1 hj.2] at h;exact λ v H1 s1 hv=>⟨j,by rw[hv.int_inv],hj.1,hj.2,h _ H1 s1 (Ln 0 _)⟩
   ·have e:MT (.int j)=.bad:=if_neg hj;rw[e] at h;exact h.elim
  |_=>exact h.elim
theorem Ed {α:Type}{l:List α}{i:Nat}(h:i<l.length):l.drop i=l[i]::l.drop (i+1):=List.drop_eq_getElem_cons h
theorem Jj {body:List Stmt}(hp:PassesOwn (model X.prog X.w) X.A X.env X.xe)(hc:X.calm=true)(hi:DI X WX tg iter fi)(hg:DG X tg gt)(hb:Oo X WX body gb)(hs:∀x,foldedSetIterable iter X.env x=pure x:=by intro _;rfl):
 DS X WX (.For tg iter body [] pos) (λ ρ=>(fi ρ).bind λ ds=>forM gt gb ds ρ):=by
 obtain⟨wi,i1,i2⟩:=hi;obtain⟨t,a1,a2⟩:=hg;obtain⟨tb,b1,b2⟩:=hb;refine⟨_,SW hp hc i1 a1 b1 hs,λ P0 P σ H Z ρ E h=>?_⟩;dsimp only at h;refine i2 P0 P σ H _ ρ E ?_;cases q:fi ρ with
 |bad=>rw[q] at h;exact h
 |ex x=>rw[q] at h;exact λ H' s=>h H' P (E.tr s)
 |ok ds =>
  rw[q] at h;simp only[M.Aa] at h;intro J H1 s1 ok;refine⟨λ i m σ' H'=>m=ds.length-i/\i<=ds.length/\∃P' ρ',Tr P0 P H1 P' H'/\Ae X.K P0 P' H' σ' ρ'/\gS X.K WX P0 P' H' Z (forM gt gb (ds.drop i) ρ'),
   ⟨ds.length,by simp,zZ _,P,ρ,Tr.refl,E.same s1,by rw[List.drop_zero];exact h.tr (E.tr s1)⟩,?_⟩
  rintro i m σ' H' ⟨rfl,hi,P',ρ',t',E',g'⟩;by_cases aN:i<ds.length
  ·refine .inr ⟨ok.go i P' H' t'.1 aN,λ σ2 H2=>i+1<=ds.length/\∃P2 ρ2,Tr P0 P H1 P2 H2/\Ae X.K P0 P2 H2 σ2 ρ2/\gS X.K WX P0 P2 H2 Z (forM gt gb (ds.drop (i+1)) ρ2),λ σ2 H2 hq=>⟨ds.length-(i+1),by omega,rfl,hq.1,hq.2⟩,λ v H2 y=>?_⟩;obtain⟨s2,hv⟩:=ok.Qv i P' H' v H2 ds[i] t'.1 E'.C6 (z0 aN) y;rw[Ed aN,forM] at g';have E2:=E'.same s2;refine a2 P0 P' σ' H2 _ ρ' v ds[i] E2 hv ?_;cases q1:gt ds[i] ρ' with
   |bad=>rw[q1] at g';exact g'
   |ex x=>rw[q1] at g';exact g'.elim
   |ok ρ1 =>
    rw[q1] at g';dsimp only at g';intro σ3 E3;refine b2 P0 P' σ3 H2 _ ρ1 E3 ?_;have tt:Tr P0 P H1 P' H2:=t'.trans (E'.tr s2);cases q2:gb ρ1 with
    |bad=>rw[q2] at g';exact g'
    |ex x=>rw[q2] at g';exact gS.tr (m:=.ex x) g' (E'.tr s2)
    |ok o =>
     rw[q2] at g';cases o with
     |ret d=>exact gS.tr (m:=.ok (.ret d)) g' (E'.tr s2)
     |BJ d=>exact gS.tr (m:=.ok (.BJ d)) g' (E'.tr s2)
     |EY d ρ2=>exact gS.tr (m:=.ok (.EY d ρ2)) g' (E'.tr s2)
     |next ρ2|cont ρ2=>exact λ σ4 H4 P4 t4 E4=>⟨aN,P4,ρ2,tt.trans t4,E4,gS.tr g' ((E'.tr s2).trans t4)⟩
     |brk ρ2=>exact λ σ4 H4 P4 t4 E4=>g' σ4 H4 P4 ((E'.tr s2).trans t4) E4
  ·have e:i=ds.length:=by omega
   subst e;refine .inl ⟨ok.stop _ P' H' t'.1 (zv _),?_⟩;rw[List.drop_length,forM] at g';exact g' σ' H' P' Tr.refl E'
end
noncomputable def Lo (K:zb)(n:Nat)(F:List D->M D):Sp:=λ vs H Q _=>vs.length=n/\∃P ds,(∀a,P a->EV H a)/\Af K (del H P) vs ds/\gV K (λ _ _=>False) P H Q (F ds)
noncomputable def AH (N:List Str)(ds:List D):A8:=ds.map (λ d=>some (.val d))++List.replicate (N.length-ds.length) none
noncomputable def WG:Cl->M D
 | .val d=>.ok d
 | .own ds=>.ok (.lst ds)
 | .ow (.rows E9)=>.ok (.lst (E9.map D.lst))
 | .ow (.Gg _ _)=>.bad
 | .ow (.tree _ t)=>.ok (er t)
noncomputable def fin (m:M Out):M D:=match m with
 | .ok (.ret d)=>.ok d
 | .ok (.BJ c)=>WG c
 | .ok (.next _)=>.ok .Ar
 |_=>.bad
theorem Iy {K:zb}{P:Addr->Prop}{H:Hp}{N:List Str}{vs:List V}{ds:List D}(ht:∀a,P a->EV H a)(h:Af K (del H P) vs ds):Ae K ⟨P,λ _=>0⟩ P H (start N vs) (AH N ds):=by
 have hl:=h.length;have key:∀(i:Nat) (c:Cl),(AH N ds)[i]?=some (some c)->∃d,ds[i]?=some d/\c=.val d:=λ i c e=>by
  unfold AH at e;by_cases hi:i<ds.length
  ·rw[List.getElem?_append_left (by simpa using hi),zR] at e;cases q:ds[i]? with
   |none=>rw[q] at e;cases e
   |some d=>rw[q] at e;cases e;exact⟨d,rfl,rfl⟩
  ·rw[List.getElem?_append_right (by simpa using hi),List.getElem?_replicate] at e;split at e<;>cases e
 refine⟨λ _ h=>h,ht,λ i d e=>?_,λ i es e io=>?_,λ i j c c' v v' fp aK e _ _ _ ho _ _=>?_,?_,λ i c n e hp=>?_⟩
 rotate_left 4
 ·obtain⟨d',q,z⟩:=key i _ e;cases z;cases hp
 ·obtain⟨d',q,z⟩:=key i _ e;cases z;obtain⟨v,hv,hd⟩:=h.get q;refine⟨v,?_,hd⟩;unfold start;rw[List.getElem?_append_left (by rw[zo];exact (zI.mp hv).1),zR,hv];rfl
 ·obtain⟨d',q,z⟩:=key i _ e;cases z;cases io
 ·obtain⟨d',q,z⟩:=key i _ e;cases z;exact ho.elim
 ·unfold start AH;simp[hl]
theorem C9 {P:Addr->Prop}{H H':Hp}{P':Addr->Prop}(t:Tr P P H P' H'):A9 H H':=λ b o e=>by
 by_cases hb:P b
 ·rw[t.2 b hb];exact e
 ·exact (Ay (t.1 b o (by rw[AA hb];exact e))).2
theorem Ck.Ts {K:zb}{H:Hp}{P P0:Addr->Prop}(hs:∀a,P0 a->P a):∀ {ps:List Addr}{E9:List (List D)},(∀a∈ps,¬ P0 a)->Ck K H P ps E9->Af K (del H P0) (ps.map V.ref) (E9.map D.lst)
 |_,_,_,.nil=>.nil
 |_,_,k,.cons h r t=>.cons (.lst (.of (show del H P0 _=_ by rw[AA (k _ zf)];exact h)) (r.mono (Bc hs))) (Ck.Ts hs (λ a ha=>k a (zg _ ha)) t)
theorem QZ {K:zb}{WX:Str->Hp->Prop}{P P2:Addr->Prop}{H H':Hp}{Q:VK}{c:Cl}{v:V}{fp:List Addr}(h:gV K WX P H Q (WG c))(t':Tr P P H P2 H')(hs:∀a,P a->P2 a)(ht:∀a,P2 a->EV H' a)(ho:Dc K H' P2 c v fp)(hp:∀a∈fp,P2 a/\¬ P a):Q v H':=by
 cases c with
 |val d=>exact ho.elim
 |own ds =>
  obtain⟨p,xs,rfl,rfl,h1,h2⟩:=ho;exact h _ H' (C9 t') (.lst (.of (show del H' P p=_ by rw[AA (hp p zf).2];exact h1)) (h2.mono (Bc hs)))
 |ow o =>
  cases o with
  |rows E9 =>
   obtain⟨p,ps,rfl,rfl,h1,h2⟩:=ho;exact h _ H' (C9 t') (.lst (.of (show del H' P p=_ by rw[AA (hp p zf).2];exact h1)) (h2.Ts hs λ a ha=>(hp a (zg _ ha)).2))
  |Gg p ds=>exact h.elim
  |tree p t=>exact h _ H' (C9 t') (Ew.has hs (λ a ha=>(hp a ha).2) ho)
section
variable {P:Program}{w:World}{K:zb}{mg:Str->Option Value}{base:Heap}
theorem Vg {x qual:Str}{st:Stmt}{f:Addr}{fd:FuncData}{N ps:List Str}{k:Nat}(F:O6 K x qual st f fd)(S:Am N ps (A5 st))(g:A8->M Out)
 (hb:∀(Bx:Value) (A:Around) (outer:List Env) (s:Shared) (H:Hp) (E:XK),C0 k (A.deeper (envOfC qual (A5 st) s.heap.objs.size f Bx))->Oo (Fl QP P w K mg base N qual (A5 st) f Bx A outer s H E).UM (λ _ _=>False) (AL st) g):
 EU P w K mg base QP (k+1) f fd ps (Lo K ps.length λ ds=>fin (g (AH N ds))):=by
 refine F.ok S (λ vs H Q E h=>h.1) λ Bx A outer s H vs Q E hr h=>?_;obtain⟨hl,P',ds,ht,hv,hq⟩:=h;obtain⟨t,h1,h2⟩:=hb Bx A outer s H E hr;refine⟨t,h1,h2 ⟨P',λ _=>0⟩ P' _ H _ _ (Iy ht hv) ?_⟩;dsimp only at hq;revert hq;cases g (AH N ds) with
 |bad|ex x=>exact λ h=>h.elim
 |ok o =>
  cases o with
  |ret d=>exact λ h v H' P2 t hv=>h v H' (C9 t) hv
  |next ρ=>exact λ h σ' H' P2 t E=>h .Ar H' (C9 t) .Ar
  |brk ρ|cont ρ=>exact λ h=>h.elim
  |BJ c=>exact λ h v fp H' P2 t hs ht ho hp nd=>QZ h t hs ht ho hp
  |EY d ρ=>exact λ h=>h.elim
end
section
variable {X:Cx}{WX:Str->Hp->Prop}{c:Bool}{P0:DR}{P:Addr->Prop}{H:Hp}{σ:St}{ρ:A8}{a b e tg iter:Expr}{f g:A8->M D}{ft:A8->M Bool}{pos:Pos}{gt:D->A8->M A8}{fi:A8->M (List D)}{es:List Expr}{fs:A8->M (List D)}
noncomputable def AJ (μ:List (Option Nat))(ρ:A8):A8:=μ.map λ o=>o.bind λ i=>match ρ[i]? with | some (some (.val d))=>some (.val d) | _=>none
theorem Ez {μ:List (Option Nat)}{ρ:A8}{j:Nat}{cl:Cl}(h:(AJ μ ρ)[j]?=some (some cl)):∃i d,μ[j]?=some (some i)/\ρ[i]?=some (some (.val d))/\cl=.val d:=by
 unfold AJ at h;rw[zR] at h;cases q:μ[j]? with
 |none=>rw[q] at h;cases h
 |some o =>
  rw[q] at h;cases o with
  |none=>cases h
  |some i =>
   simp only[Option.map_some,ye,Option.some.injEq] at h;split at h
   ·rename_i d e;cases h;exact⟨i,d,rfl,e,rfl⟩
   ·cases h
theorem Ae.block {K:zb}(E:Ae K P0 P H σ ρ)(μ:List (Option Nat)):Ae K P0 P H (Dg μ σ) (AJ μ ρ):=by
 refine⟨E.sub,E.C6,λ j d h=>?_,λ j ds h io=>?_,λ j k c c' v v' fp aK h _ _ _ ho _ _=>?_,by unfold Dg AJ;simp,λ j c n h hp=>by obtain⟨i,d',h1,h2,h3⟩:=Ez h;subst h3;cases hp⟩
 ·obtain⟨i,d',h1,h2,h3⟩:=Ez h;cases h3;obtain⟨v,h4,h5⟩:=E.val i d h2;refine⟨v,?_,h5⟩;unfold Dg;rw[zR,h1];simp[h4]
 ·obtain⟨i,d',h1,h2,h3⟩:=Ez h;cases h3;cases io
 ·obtain⟨i,d',h1,h2,h3⟩:=Ez h;cases h3;exact ho.elim
noncomputable def AY (gt:D->A8->M A8)(ft:A8->M Bool)(fe:A8->M D):List D->A8->M (List D)
 |[],_=>.ok []
 |d::r,ρ=>match gt d ρ with
  | .ok ρ1=>(match ft ρ1 with
   | .ok k=>if k=true then (match fe ρ1 with
    | .ok y=>(match AY gt ft fe r ρ with | .ok ys=>.ok (y::ys)|_=>.bad)
    |_=>.bad) else AY gt ft fe r ρ
   |_=>.bad)
  |_=>.bad
def WH (X:Cx)(scope:Scope)(NB:List Str)(μ:List (Option Nat))(tg:Expr)(gt:D->A8->M A8):Prop:=
 ∃g:TG,(∀s H C ex,PG (blockOf X s H scope C NB ex) tg g)/\Di μ g/\∀P0 P σ H Q ρ v d,Ae X.K P0 P H σ ρ->Bo X.K (del H P) v d->gG X.K P0 P H Q (gt d ρ)->g v σ H Q
theorem Ee {scope:Scope}{NB:List Str}{μ:List (Option Nat)}(i:Nat){x:Str}(hN:NB.Nodup)(hi:NB[i]?=some x)(hx:(relabel scope X.env).names.lookup x=some .local)(hm:μ[i]?=some none):WH X scope NB μ (.Name x pos) (λ d ρ=>.ok (ρ.set i (some (.val d)))):=
 ⟨JZ i,λ s H C ex=>J0 (X:=blockOf X s H scope C NB ex) hN hi (.inl hx) (.inr hx),M7 hm,λ P0 P σ H Q ρ v d E hv h=>h _ (E.Kg hv)⟩
def WI (X:Cx)(cs:List Expr)(f:A8->M Bool):Prop:=
 ∃t,Th X cs t/\∀P0 P σ H Q ρ,Ae X.K P0 P H σ ρ->gT (λ _ _=>False) H Q (f ρ)->t σ H Q
theorem Fv:WI X [] (λ _=>.ok true):=⟨_,M6,λ P0 P σ H Q ρ E h=>h H (A9.refl H)⟩
noncomputable def Kj (m:M (List D)):M D:=match m with | .ok ys=>.ok (.lst ys) | _=>.bad
theorem Tt {μ:List (Option Nat)}{wi:TI}{gg:TG}{tc:Shared->Hp->Addr->List Addr->TT}{te:Shared->Hp->Addr->List Addr->TE}{fe:A8->M D}
 (i2:∀P0 P σ H R ρ,Ae X.K P0 P H σ ρ->(match fi ρ with | .ok ds=>∀J H',A9 H H'->Ou X.K J P H' ds->R J H' | .ex x=>∀H',A9 H H'->WX x H' | .bad=>False)->wi σ H R)
 (g2:∀P0 P σ H Q ρ v d,Ae X.K P0 P H σ ρ->Bo X.K (del H P) v d->gG X.K P0 P H Q (gt d ρ)->gg v σ H Q)
 (t2:∀s H' C ex P0 P σ H Q ρ,Ae X.K P0 P H σ ρ->gT (λ _ _=>False) H Q (ft ρ)->tc s H' C ex σ H Q)
 (e2:∀s H' C ex P0 P σ H Q ρ,Ae X.K P0 P H σ ρ->gV X.K (λ _ _=>False) (Lv c P0 P) H Q (fe ρ)->te s H' C ex σ H Q) {Q:VK}
 (E:Ae X.K P0 P H σ ρ) (h:gV X.K WX (Lv c P0 P) H Q ((fi ρ).bind λ ds=>if ds.length<=1000 then Kj (AY gt ft fe ds (AJ μ ρ)) else .bad)):Io wi μ gg tc te σ H Q:=by
 refine i2 P0 P σ H _ ρ E ?_;cases q:fi ρ with
 |bad|ex x=>rw[q] at h;exact h
 |ok ds =>
  rw[q] at h;simp only[M.Aa] at h;by_cases hd:¬ ds.length<=1000
  ·rw[if_neg hd] at h;exact h.elim
  have hd:ds.length<=1000:=by omega
  rw[if_pos hd] at h;intro J H1 s1 ok s C ex;cases qc:AY gt ft fe ds (AJ μ ρ) with
  |bad|ex x=>rw[qc] at h;exact h.elim
  |ok total =>
   rw[qc] at h;unfold Kj at h;dsimp only at h;have E1:=E.same s1;refine⟨λ i m ys H2=>m=ds.length-i/\i<=ds.length/\ys.length<=i/\A9 H1 H2/\∃es rest,Af X.K (del H2 (Lv c P0 P)) ys es/\AY gt ft fe (ds.drop i) (AJ μ ρ)=.ok rest/\es++rest=total,
    ⟨ds.length,by simp,zZ _,zv _,A9.refl _,[],total,.nil,by rw[List.drop_zero];exact qc,rfl⟩,?_⟩
   rintro i m ys H2 ⟨rfl,hi,hy,s2,es,rest,cf,aw,bp⟩;by_cases aN:i<ds.length
   ·refine .inr ⟨ok.go i P H2 s2.del aN,Nat.lt_of_le_of_lt hy (B0 (by omega)),λ aR H'=>i+1<=ds.length/\aR.length<=i+1/\A9 H1 H'/\∃es rest,Af X.K (del H' (Lv c P0 P)) aR es/\AY gt ft fe (ds.drop (i+1)) (AJ μ ρ)=.ok rest/\es++rest=total,λ aR H' hq=>⟨ds.length-(i+1),by omega,rfl,hq.1,hq.2.1,hq.2.2.1,hq.2.2.2⟩,λ v H3 y=>?_⟩;have E2:=E1.same s2;obtain⟨s3,hv⟩:=ok.Qv i P H2 v H3 ds[i] s2.del E2.C6 (z0 aN) y;rw[Ed aN,AY] at aw;have E3:=(E2.same s3).block μ;refine g2 P0 P _ H3 _ (AJ μ ρ) v ds[i] E3 hv ?_;cases q1:gt ds[i] (AJ μ ρ) with
    |bad|ex x=>rw[q1] at aw;cases aw
    |ok ρ1 =>
     rw[q1] at aw;dsimp only at aw;intro σ4 E4;refine t2 s H1 C ex P0 P σ4 H3 _ ρ1 E4 ?_;cases q2:ft ρ1 with
     |bad|ex x=>rw[q2] at aw;cases aw
     |ok k =>
      rw[q2] at aw;dsimp only at aw;intro H5 s5;cases k with
      |false =>
       simp only[zC,if_false] at aw ⊢;exact⟨aN,by omega,(s2.trans s3).trans s5,es,rest,(cf.mono s3.del).mono s5.del,aw,bp⟩
      |true =>
       simp only[if_true] at aw ⊢;refine e2 s H1 C ex P0 P σ4 H5 _ ρ1 (E4.same s5) ?_;cases q3:fe ρ1 with
       |bad|ex x=>rw[q3] at aw;cases aw
       |ok y' =>
        rw[q3] at aw;dsimp only at aw;cases q4:AY gt ft fe (ds.drop (i+1)) (AJ μ ρ) with
        |bad|ex x=>rw[q4] at aw;cases aw
        |ok fF =>
         rw[q4] at aw;cases aw;intro w H6 s6 hw;refine⟨aN,by rw[zq,yd];omega,((s2.trans s3).trans s5).trans s6,es++[y'],fF,(((cf.mono s3.del).mono s5.del).mono s6.del).snoc hw,rfl,?_⟩;rw[List.append_assoc];exact bp
   ·have e:i=ds.length:=by omega
    subst e;rw[List.drop_length,AY] at aw;cases aw;rw[List.append_nil] at bp;subst bp;refine .inl ⟨ok.stop _ P H2 s2.del (zv _),λ D0 hn=>h _ _ ((s1.trans s2).trans (B6 hn _)) (.lst (.of (Ji hn λ a q=>(E1.same s2).V9 c a q)) (cf.mono (B6 hn _).del))⟩
theorem R3 {scope:Scope}{NB:List Str}{ifs:List Expr}{elt:Expr}{fe:A8->M D}(i:Nat){x:Str}{px bY:Pos}(μ:List (Option Nat))(hN:X.N.Nodup)(fA:X.N[i]?=some x)(hx:Loc X.env.scope x)(hc:X.calm=true)(hi:DI X WX tg iter fi)(aI:EK scope X.env.scope=true)(bd:GI X.N NB scope μ=true)(hg:WH X scope NB μ tg gt)
 (ht:∀s H C ex,WI (blockOf X s H scope C NB ex) ifs ft) (he:∀s H C ex,DE (blockOf X s H scope C NB ex) (λ _ _=>False) true elt fe)
 (df:swapsWith (.ListComp elt [⟨tg,iter,ifs,0⟩] scope pos) (some (.Name x px)) bY.line X.env=pure true:=by rfl) (hs:∀x,foldedSetIterable iter X.env x=pure x:=by intro _;rfl) (hf:X.fn x=true\/X.env.scope.names.lookup x=some .local:=by first|exact .inl rfl|exact .inr rfl|assumption):
 DS X WX (.Assign [.Name x px] (.ListComp elt [⟨tg,iter,ifs,0⟩] scope pos) bY) (λ ρ=>((fi ρ).bind λ ds=>if ds.length<=1000 then Kj (AY gt ft fe ds (AJ μ ρ)) else .bad).bind λ d=>.ok (.next (ρ.set i (some (.val d))))):=by
 obtain⟨wi,i1,i2⟩:=hi;obtain⟨gg,g1,gk,g2⟩:=hg;refine⟨_,QT hN fA hx hc i1 aI bd gk (λ s H C ex=>⟨g1 s H C ex,(ze (ht s H C ex)).1,(ze (he s H C ex)).1⟩) df hs hf,λ P0 P σ H Z ρ E h=>?_⟩;refine Tt (c:=true) i2 g2 (λ s H' C ex P0 P σ H Q ρ E h=>(ze (ht s H' C ex)).2 P0 P σ H Q ρ E h) (λ s H' C ex P0 P σ H Q ρ E h=>(ze (he s H' C ex)).2 P0 P σ H Q ρ E h) E ?_;dsimp only at h;revert h;cases ((fi ρ).bind λ ds=>if ds.length<=1000 then Kj (AY gt ft fe ds (AJ μ ρ)) else .bad) with
 |bad=>exact λ h=>h
 |ex y=>exact λ h H' s=>h H' P (E.tr s)
 |ok d=>exact λ h v H' s hv=>h _ H' P (E.tr s) ((E.same s).Kg hv)
end
section
variable {X:Cx}{WX:Str->Hp->Prop}{c:Bool}{P0:DR}{P:Addr->Prop}{H:Hp}{σ:St}{ρ:A8}{a b e k:Expr}{f g:A8->M D}{te tk:TE}{pos p2:Pos}
noncomputable def Kk:List D->Option (List Int)
 |[]=>some []
 | .int i::r=>(Kk r).map (i::·)
 |_=>none
end
theorem BK {A:Around}{k:Nat}(hr:C0 k A)(n:Nat)(hn:n<=64):A.units+n<cLine:=by have:=hr.units;omega
structure AZ (K:zb)(mg:Str->Option Value)(x:Str)(st:Stmt)(ps:List Str):Prop where
 ex:∃f fd,O6 K x x st f fd/\mg x=some (.ref f)/\Binds K fd ps []
theorem Bw.there {P:Program}{w:World}{H:Hp}{h:Heap}{a:Addr}{o:HO}(x:Bw P w H h a o):∃ob,h.get? a=some ob:=by
 cases o with
 |lst xs=>obtain⟨_,_,_,_,e⟩:=x;exact⟨_,e⟩
 |tup xs=>obtain⟨_,_,_,o,e,_⟩:=x;exact⟨o,e⟩
 |dK kvs|dT kvs=>obtain⟨_,_,_,_,o,_,_,e,_⟩:=x;exact⟨_,e⟩
 |set S n=>obtain⟨o,_,_,_,e,_⟩:=x;exact⟨_,e⟩
 |ins C dx fs=>obtain⟨_,_,_,e,_⟩:=x;exact⟨_,e⟩
 |own y=>obtain⟨_,e⟩:=x;exact⟨_,e⟩
 |xd fs=>obtain⟨_,⟨_,_,_,e,_⟩,_⟩:=x;exact⟨_,e⟩
 |VW lo hi=>obtain⟨_,_,_,e⟩:=x;exact⟨_,e⟩
 |M2 ob u=>obtain⟨e,_⟩:=x;exact⟨_,e⟩
 |Se ps|met f y=>exact⟨_,(show h.get? a=some _ from x)⟩
 |ext φ=>obtain⟨_,⟨_,e⟩,_⟩:=x;exact⟨_,e⟩
theorem DF.gone {P:Program}{w:World}{H:Hp}{h:Heap}{a:Addr}(x:DF P w H h)(e:h.get? a=none):H a=none:=by
 cases q:H a with
 |none=>rfl
 |some o=>obtain⟨ob,z⟩:=(x a o q).there;rw[e] at z;cases z
structure Tu (base g:Heap)(H:Hp)(l:List Env)(ea c:Addr)(h:Heap):Prop where
 XY:∃a0,Heap.FlyingW base l ea (.ref c) a0 h
 new:g.get? ea=none
 un:H ea=none
 tr:∀oe vs T,h.get? ea=some oe->oe.data=.fields vs->vs[1]?=some (.ref T)->H T=none/\g.get? T=none
noncomputable def Qg (P:Program)(w:World)(base:Heap):MF:=λ outer H s E ev s'=>∃(ea c:Addr) (H':Hp),ev=.ref ea/\s'.os=s.os/\AllBare s'.gens/\Un (BS outer) [] H H' s.heap s'.heap/\DF P w H' s'.heap/\Tu base s.heap H' outer ea c s'.heap/\E (.ref c) none H'
section
variable {P:Program}{w:World}{K:zb}{mg:Str->Option Value}{base:Heap}{N:List Str}{qual:Str}{scope:Scope}{f:Addr}{cd:Value}{A:Around}{outer:List Env}{s:Shared}{H:Hp}{E:XK}
noncomputable abbrev Fw (P:Program)(w:World)(K:zb)(mg:Str->Option Value)(base:Heap)(N:List Str)(qual:Str)(scope:Scope)(f:Addr)(cd:Value)(A:Around)(outer:List Env)(s:Shared)(H:Hp)(E:XK):Cx:=
 Fl (Qg P w base) P w K mg base N qual scope f cd A outer s H E
theorem Ss {pins:List (Addr×Obj)}{σ:St}{H1:Hp}{s1:Shared}{h' B:Heap}{ea c:Addr}{a0:Value}{hid:List Addr}(J:Inv (Fw P w K mg base N qual scope f cd A outer s H E) pins σ H1 s1)
 (hB:∀b o,s1.heap.get? b=some o->b∉BS (envOfC qual scope s.heap.objs.size f cd::outer)->b∉hid->(H1 b≠none\/∃o',s.heap.get? b=some o')->B.get? b=some o) (fG:base.StaysIn B)
 (hh:∀b∈hid,H1 b=none/\s.heap.get? b=none) (hT:∀b,B.get? b=none->b∉BS (envOfC qual scope s.heap.objs.size f cd::outer)->H1 b=none/\s.heap.get? b=none)
 (fH:s.heap.get? ea=none) (dh:H1 ea=none) (F:Heap.FlyingW B outer ea (.ref c) a0 h') (bH:s1.heap.UpToSlots h') (q:E (.ref c) none H1):
 Qg P w base outer H s E (.ref ea) {s1 with heap:=h' }:=by
 have cy:∀b∈BS outer,∃o,s1.heap.get? b=some o/\∀vs,o.data≠.fields vs:=λ b hb=>(J.DQ.mem hb).2;have cg:∀b o,s.heap.get? b=some o->b≠s.heap.objs.size:=λ b o e=>zG (zk e);have Le:∀b,b∈BS (envOfC qual scope s.heap.objs.size f cd::outer)->b=s.heap.objs.size\/b∈BS outer:=λ b hb=>by
  have fI:b∈s.heap.objs.size::BS outer:=hb;exact zp.mp fI
 have U:Un (BS outer) [] H H1 s.heap s1.heap:=J.base;have aL:∀b o,s.heap.get? b=some o->b∉hid:=λ b o e hb=>by rw[(hh b hb).2] at e;cases e
 have b5:∀b o,H1 b≠none->s1.heap.get? b=some o->h'.get? b=some o:=λ b o hn e=>by
  refine F.1 b o (hB b o e (λ hb=>?_) (λ hb=>hn (hh b hb).1) (.inl hn));exact hn (J.Fh b hb)
 refine⟨ea,c,H1,rfl,J.os,J.bare,⟨λ b o e n hb hx=>?_,λ b o e n hb hx=>?_,U.free,λ b o e hx=>?_,U.Ff,U.ES,U.Fg⟩,λ b ob e=>?_,⟨⟨a0,?_⟩,fH,dh,λ oe vs T h1 h2 h3=>?_⟩,q⟩
 ·refine F.1 b o (hB b o (U.keep b o e n hb hx) (λ z=>?_) (aL b o e) (.inr ⟨o,e⟩));rcases Le b z with z|z
  ·exact cg b o e z
  ·exact hb z
 ·obtain⟨sl,e1⟩:=U.slot b o e n hb hx;obtain⟨o2,e2,nf⟩:=cy b hb;rw[e1] at e2;obtain⟨bC,e3⟩:=bH b _ e1 (by cases e2;exact nf);exact⟨bC,e3⟩
 ·obtain⟨o',e1⟩:=U.there b o e hx;by_cases hb:b∈BS outer
  ·obtain⟨o2,e2,nf⟩:=cy b hb;obtain⟨bC,e3⟩:=bH b _ e2 nf;exact⟨_,e3⟩
  ·refine⟨o',F.1 b o' (hB b o' e1 (λ z=>?_) (aL b o e) (.inr ⟨o,e⟩))⟩;rcases Le b z with z|z
   ·exact cg b o e z
   ·exact hb z
 ·refine (J.AF b ob e).GB (λ x v hx q=>b5 x v ?_ q) (λ _ q=>q) λ _ _ q=>q;rcases hx with rfl|hx
  ·rw[e];intro z;cases z
  ·rw[hx];intro z;cases z
 ·exact PySem.W.flyingW_base fG F
 ·obtain⟨_,_,ff,iD,iE,T',oT,ts,k1,k2,k3,k4,k5,k6,k7,k8,k9⟩:=F;rw[show ({s1 with heap:=h' }:Shared).heap.get? ea=h'.get? ea from rfl,k1] at h1;cases h1;rw[k3] at h2;cases h2;rw[k4] at h3;cases h3;refine hT T k5 λ hb=>?_;rcases Le T hb with z|z
  ·obtain⟨m,⟨oL,es,ep,dN,di,_⟩,_⟩:=J.loc;obtain⟨sl,e3⟩:=bH s.heap.objs.size oL dN λ vs zz=>by rw[di] at zz;cases zz
   rw[<-z,k7] at e3;cases e3;rw[show oL.data=_ from k8] at di;cases di
  ·obtain⟨o2,e2,nf⟩:=cy T z;obtain⟨sl,e3⟩:=bH T o2 e2 nf;rw[k7] at e3;cases e3;exact nf ts k8
theorem G0 {l:List Env}:∀env∈l,∀a,env.frame=some a->a∈BS l:=λ env he a ha=>List.mem_filterMap.mpr ⟨env,he,ha⟩
theorem R4 {pins:List (Addr×Obj)}{σ:St}{H1:Hp}{s2:Shared}{h1:Heap}{ea C:Addr}{vs:List Value}(J:Inv (Fw P w K mg base N qual scope f cd A outer s H E) pins σ H1 s2)(hx:Heap.MadeExcOf s2.heap h1 ea (.ref C) vs)(q:E (.ref C) none H1):
 (Fw P w K mg base N qual scope f cd A outer s H E).xe (.ref ea) {s2 with heap:=h1}:=by
 have J1:Inv (Fw P w K mg base N qual scope f cd A outer s H E) pins σ H1 {s2 with heap:=h1}:=J.kept (t':=s2.toks) hx.keeps;have fr:=J.stack;have bI:=G0 (l:=envOfC qual scope s.heap.objs.size f cd::outer);refine wpAny_leaves_madeW (base:=yj s2.heap (BS (envOfC qual scope s.heap.objs.size f cd::outer))) (outer:=outer) (L:=s.heap.objs.size) J.ok.frames rfl (λ b o e=>PySem.W.of_hideAll _ e) (PySem.W.funFrames_hide fr bI) hx λ h' t F ht jJ bH=>?_;have ci:∀b,s2.heap.get? b=none->H1 b=none/\s.heap.get? b=none:=λ b e=>by
  refine⟨J.AF.gone e,?_⟩;cases q:s.heap.get? b with
  |none=>rfl
  |some o=>obtain⟨o',z⟩:=J.base.there b o q (by simp[Fl]);rw[e] at z;cases z
 refine Ss (B:=yj s2.heap (BS (envOfC qual scope s.heap.objs.size f cd::outer))) (hid:=[]) J1 (λ b o e hb _ iF=>?_) (λ b o e=>?_) (λ b z=>by cases z) (λ b e hb=>?_) (ci ea hx.new).2 (ci ea hx.new).1 F bH q
 ·have iG:∃o2,s2.heap.get? b=some o2:=by
   rcases iF with z|⟨o',z⟩
   ·cases q2:H1 b with
    |none=>exact absurd q2 z
    |some u=>exact (J.AF b u q2).there
   ·exact J.base.there b o' z (by simp[Fl])
  obtain⟨o2,e2⟩:=iG;have e3:=hx.keeps b o2 e2;rw[show ({s2 with heap:=h1}:Shared).heap.get? b=h1.get? b from rfl,e3] at e;cases e;exact zJ _ e2 hb
 ·refine zJ _ (J.bk b o e) λ hb=>?_;have z:base.get? b=none:=(fr.mem hb).1;rw[show base.get? b=some o from e] at z;cases z
 ·refine ci b ?_;cases q2:s2.heap.get? b with
  |none=>rfl
  |some o=>rw[zJ _ q2 hb] at e;cases e
theorem R5:GG (Qg P w base) (Fw P w K mg base N qual scope f cd A outer s H E) E:=by
 intro pins σ H0 s0 ev s1 I h;obtain⟨ea,c,H1,rfl,cz,c6,U,AF,⟨⟨a0,F⟩,bq,c7,ej⟩,q⟩:=h;have J:Inv (Fw P w K mg base N qual scope f cd A outer s H E) pins σ H1 s1:=I.Ge (ch:=[]) cz U AF c6 λ b hb=>by cases hb
 obtain⟨f1,f2,f3,oe,vs,T,oT,ts,k1,k2,k3,k4,k5,k6,k7,k8,k9⟩:=F;have hT:=ej oe vs T k1 k3 k4;have fr:=J.stack;have entry:∀b,s0.heap.get? b=none->s.heap.get? b=none:=λ b e=>by
  cases q:s.heap.get? b with
  |none=>rfl
  |some o=>obtain⟨o',z⟩:=I.base.there b o q (by simp[Fl]);rw[e] at z;cases z
 have bI:∀env∈(envOfC qual scope s.heap.objs.size f cd::outer),∀a,env.frame=some a->a∈BS (envOfC qual scope s.heap.objs.size f cd::outer)++[ea,T]:=λ env he a ha=>zK _ (G0 env he a ha);have FB:Heap.FlyingW (yj s1.heap (BS (envOfC qual scope s.heap.objs.size f cd::outer)++[ea,T])) (envOfC qual scope s.heap.objs.size f cd::outer) ea (.ref c) a0 s1.heap:=
  ⟨λ b o e=>PySem.W.of_hideAll _ e,ym _ (by simp),PySem.W.funFrames_hide fr bI,oe,vs,T,oT,ts,k1,k2,k3,k4,ym _ (by simp),k6,k7,k8,k9⟩
 refine wpAny_leaves_onW (outer:=outer) (L:=s.heap.objs.size) J.ok.frames rfl FB λ h' F' bH=>?_;have el:∀b,s1.heap.get? b=none->H1 b=none/\s.heap.get? b=none:=λ b e=>by
  refine⟨J.AF.gone e,?_⟩;cases q:s.heap.get? b with
  |none=>rfl
  |some o=>obtain⟨o',z⟩:=J.base.there b o q (by simp[Fl]);rw[e] at z;cases z
 have hid:∀b∈[ea,T],H1 b=none/\s.heap.get? b=none:=λ b hb=>by
  rcases zp.mp hb with z|z
  ·rw[z];exact⟨c7,entry ea bq⟩
  ·rw[zB.mp z];exact⟨hT.1,entry T hT.2⟩
 refine Ss (hid:=[ea,T]) J (λ b o e hb c8 _=>zJ _ e λ z=>(zy.mp z).elim hb c8) (λ b o e=>?_) hid (λ b e hb=>?_) (entry ea bq) c7 F' bH q
 ·refine zJ _ (J.bk b o e) λ hb=>?_;rcases zy.mp hb with hb|hb
  ·have z:base.get? b=none:=(fr.mem hb).1;rw[show base.get? b=some o from e] at z;cases z
  ·rcases zp.mp hb with z|z
   ·rw[z] at e;rw[show base.get? ea=some o from e] at f2;cases f2
   ·rw[zB.mp z] at e;rw[show base.get? T=some o from e] at k5;cases k5
 ·by_cases c8:b∈[ea,T]
  ·exact hid b c8
  ·refine el b ?_;cases q2:s1.heap.get? b with
   |none=>rfl
   |some o=>rw[zJ _ q2 λ z=>(zy.mp z).elim hb c8] at e;cases e
end
structure XCall (X:Cx)(E:XK):Prop where
 call:GG (Qg X.prog X.w X.base) X E
 own:PassesOwn (model X.prog X.w) X.A X.env X.xe
structure W2 (X:Cx)(E:XK):Prop extends XCall X E where
 made:∀pins σ H s h' ea C vs,Inv X pins σ H s->Heap.MadeExcOf s.heap h' ea (.ref C) vs->E (.ref C) none H->X.xe (.ref ea) {s with heap:=h' }
theorem Aj {P:Program}{w:World}{K:zb}{mg:Str->Option Value}{base:Heap}{N:List Str}{qual:Str}{scope:Scope}{f:Addr}{cd:Value}{A:Around}{outer:List Env}{s:Shared}{H:Hp}{E:XK}:
 W2 (Fw P w K mg base N qual scope f cd A outer s H E) E:=⟨⟨R5,PassesOwn.leaving⟩,λ _ _ _ _ _ _ _ _ J hx q=>R4 J hx q⟩
theorem BD {X:Cx}(h:X.xe=λ _ _=>False):W2 X E0:=⟨⟨λ _ _ _ _ _ _ _ h=>by obtain⟨_,_,_,_,_,_,_,_,_,q⟩:=h;exact q.elim,by rw[h];exact PassesOwn.never⟩,λ _ _ _ _ _ _ _ _ _ _ q=>q.elim⟩
def G1 (K:zb)(E:XK):Str->Hp->Prop:=λ x H=>∃c,zd K mainGlobals x=some (some (.ref c))/\E (.ref c) none H
section
variable {X:Cx}{E:XK}{WX:Str->Hp->Prop}{c:Bool}{e:Expr}{es:List Expr}{fs:A8->M (List D)}{f:A8->M D}{ft:A8->M Bool}{pos:Pos}
theorem R6 {K:zb}{h₀:Heap}{C:Addr}{gX:List Value}{newId:String}(X:K.In h₀)(q:PySem.W.excIn K C gX newId=true):
 ∃bm N nm q bs hdct sn sub ab col dd k0 k1 k2 k3 k5 mN,h₀.get? C=some (excClassObj nm q C N bs bm hdct sn sub ab col dd k0 k1 k2 k3 k5 newId)/\h₀.Ns N mN/\mN "__init__" = none/\OwnTail h₀ gX bm:=by
 unfold PySem.W.excIn at q;split at q
 ·rename_i dd cd sl ho;split at q
  ·rename_i C' bm k0 k1 k2 k3 n k5 hm hs;simp only[zA,beq_iff_eq,Bool.not_eq_true'] at q;obtain⟨⟨⟨⟨⟨rfl,rfl⟩,eo⟩,ht⟩,AF⟩,eV⟩:=q;obtain⟨nm,bs,mro,ns,qn,hd,sn,sub,ab,col,del⟩:=cd;dsimp only at hm eo AF eV;subst hm eo;have bH:sl=#[k0,k1,k2,k3,some (.builtin n),k5]:=by
    obtain⟨l⟩:=sl;simp only at hs;rw[hs]
   subst bH;exact⟨bm,ns,nm,qn,bs,hd,sn,sub,ab,col,dd,k0,k1,k2,k3,k5,_,X _ _ ho,.of_isNs (PySem.W.isNs_of_in X AF),PySem.W.nsMap_none_of_in X AF eV,PySem.W.tail_of_in X ht⟩
  ·cases q
 ·cases q
theorem Ov {x:Str}{np ax:Pos}{C:Addr}{B newId dk:String}{bm:List Value}(xo:W2 X E)(hc:X.calm=true)(FB:ExcBaseFacts B newId dk bm)(cE:zd X.K mainGlobals x=some (some (.ref C)))(hq:PySem.W.excIn X.K C bm newId=true)(hg:Gl X x)(hm:X.mg x=some (.ref C))
 (ha:DE X (G1 X.K E) c e f) (bz:(x==("__debug__" : Str))=false:=by decide) (he:starEach [e] X.env=[(false,eval e X.env)]:=by rfl) (aB:(backTo ax (starEach [e] X.env)).any (·.1)=false:=by rfl):
 DS X (G1 X.K E) (.Raise (some (.Call (.Name x np) [e] [] ax)) none pos) (λ ρ=>(f ρ).bind λ _=>.ex x):=by
 obtain⟨ta,a1,a2⟩:=ha;refine⟨λ Z σ H=>ta σ H λ y H1=>(([y]:List V).length=1/\E (.ref C) none H1),?_,λ P0 P σ H Z ρ E h=>?_⟩
 ·intro pins s σ H D I h;obtain⟨tl,N,nm,q,bs,hdct,sn,sub,ab,col,dd,k0,k1,k2,k3,k5,mN,hC,hN,eV,T⟩:=R6 I.mod.UG hq;refine wpAny_Raise_call_subT (C:=C) (nm:=nm) (q:=q) (N:=N) (bs:=bs) (bm:=tl) (hdct:=hdct) (sn:=sn) (sub:=sub) (ab:=ab) (col:=col) (dd:=dd) (k0:=k0) (k1:=k1) (k2:=k2) (k3:=k3) (k5:=k5)
   FB (mN:=mN) (T.hasType FB.hasBase) (I.ok.hd hc) aB eV (Fj I hg hm ⟨rfl,?_⟩ bz)
  rw[he];have pa:=(Ba a1 CT he) ax pins s σ H (λ vs H1=>vs.length=1/\E (.ref C) none H1) I ?_
  ·rw[he] at pa;refine Calls.evalArgs_plain (AX pa λ vs s2 ⟨xs,H2,I2,r2,q2⟩=>⟨rfl,?_,I2.bk _ _ hC,hN.keeps I2.bk,T.keeps I2.bk,λ h' ea hx=>xo.made pins σ H2 s2 h' ea C _ I2 hx q2.2⟩);rw[<-r2.length,q2.1];exact yt (B0 (by decide))
  ·exact h
 ·dsimp only at h;refine a2 P0 P σ H _ ρ E ?_;cases q:f ρ with
  |bad=>rw[q] at h;exact h
  |ex x=>rw[q] at h;exact λ H' s=>h H' P (E.tr s)
  |ok d =>
   rw[q] at h;intro v H1 s1 hv;obtain⟨c',h1,h2⟩:=h H1 P (E.tr s1);rw[cE] at h1;cases h1;exact⟨rfl,h2⟩
end
open PySem PySem.Spec PySem.Calls PyProof.Rows PySem.W PySem.Builtin PySem.Builtin.ObjectAttr PySem.Builtin.Getset_descriptor
noncomputable def GS (K:Frag)(D:Addr):Bool:=
 (findIn K (.ref D) "__getattribute__" == some (some (.builtin "BaseException.__getattribute__")))&&(findIn K (.ref D) "__getattr__" == some none)&&(clsIn K D).isSome&&(findIn K (.ref D) "__class__" == some (some (.builtin "object.__class__")))&&(specialIn K (.builtin "object.__class__") "__get__" == some (some (.builtin "getset_descriptor.__get__")))&&(takesIn K (.builtin "object.__class__")==some true)&&(mroIn K D (.type "object")==some true)&&(mroIn K D (.type "BaseException")==some true)
section
variable {K:Frag}{x D:Addr}{name:Str}
theorem Ox {M:Model}{h:Heap}(p:Jf x D h):Looks M h (typeOf (.ref x)) (.ref D):=by
 obtain⟨o,h1,h2,_⟩:=p;exact h2▸(Looks.ld h1).andThen .now
theorem Oy {M:Model}{h:Heap}{a g:Value}(X:K.In h)(ha:findIn K (.ref D) name=some (some a))(hg:specialIn K a "__get__" = some (some g))(ht:takesIn K a=some true):
 Looks M h (find (.ref x) (.ref D) name) (.bind g a):=by
 have L1:=looks_findIn (M:=M) X ha;have L2:Looks M h (getOf (some a)) (some g):=looks_specialIn X hg;have L3:=looks_takesIn (M:=M) X ht;refine L1.andThen (L2.andThen ?_);have L4:Looks M h (dataDescriptor? (some a) (some g)) (some (g,a)):=L3.andThen .now;exact L4.andThen (Looks.tag .now)
variable {prog:Program}{w:World}{A:Around}{E:Value->Shared->Prop}{s:Shared}
theorem MU {Q:Option Value->Shared->Prop}(hx:GS K D=true)(X:K.In s.heap)(p:Jf x D s.heap)(h:Q (some (.ref D)) {s with toks:=s.toks+1}):wpAny (model prog w) A (getAttr? (.ref x) "__class__") Q E s:=by
 unfold GS at hx;simp only[zA,beq_iff_eq] at hx;obtain⟨⟨⟨⟨⟨⟨⟨g1,g2⟩,hc⟩,ha⟩,hn⟩,ht⟩,hm⟩,hb⟩:=hx;obtain⟨hh,gg,d,t,os⟩:=s;have T0:=Ox (M:=model prog w) p;have T1:=looks_findIn (M:=model prog w) X g1;have T2:=Oy (x:=x) (M:=model prog w) X ha hn ht;have T3:=looks_findIn (M:=model prog w) X g2;have T4:=looks_mroIn (M:=model prog w) X hm;have T5:=looks_mroIn (M:=model prog w) X hb;have FG:=PySem.F.attrBase_ValueError.ga;have f3:=FG.bind (.ref x);have ar:(Value.builtin "BaseException.__getattribute__" == Value.builtin "object.__getattribute__")=false:=by decide +kernel
 have aJ:(onTheHeap (Value.ref D)&&Value.builtin "BaseException.__getattribute__" == Value.builtin "object.__getattribute__")=false:=by rw[ar];rfl
 have iH:(false&&onTheHeap (Value.builtin "BaseException.__getattribute__"))=false:=rfl;have hk:builtinKind "BaseException.__getattribute__" = some .slot:=by decide +kernel
 have dm:splitId "BaseException.__getattribute__" = some ("BaseException","__getattribute__"):=by decide +kernel
 unfold getAttr? getAttrBy?;refine wpAny_bind (wpAny_mkText (wpAny_bind (wpAny_attempt ?_)));unfold getAttrBy;refine wpAny_holding (wpAny_bind (T0.at (wpAny_bind (T1.at ?_))));dsimp only;rw[aJ,if_neg yy];unfold getAttrByItsOwn hookBefore;rw[if_pos (show onTheHeap (Value.ref D)=true from rfl)];refine wpAny_bind (T3.at (wpAny_bind (wpAny_attempt (wpAny_holding ?_))));unfold callGetattribute;rw[iH,if_neg yy];repeat (any_goals (first|assumption|with_reducible refine Looks.at (by assumption) ?_|wp_step))
 refine codeAny_call_builtin FG.plain PySem.F.entry_bexc_ga ?_;have jK:=PySem.F.args_bexc_ga (.ref x) (.str "__class__" t);simp only[checkBuiltinCall,hk,dm];refine wpAny_bind ?_;unfold isInstance;refine wpAny_bind (T0.at (T5.at ?_));repeat (any_goals (first|assumption|with_reducible refine Looks.at (by assumption) ?_|wp_step))
 refine codeAny_call_builtin KF.slot_gs.plain KF.entry_gs (KF.slot_gs.check _ _ _ _ _ _ _ _ KF.type_class (KF.args_gs _ _ _) ?_);unfold Builtin.«getset_descriptor.__get__» descrGet;rw[dga_obj];refine wpAny_bind (wpAny_pure ?_);unfold descrGetter descrCheckInstance descrNameAndClass isInstance;simp only[KF.owner_class];repeat lk
 refine⟨Code.quiet_builtin _ (by decide +kernel),codeAny_builtin KF.entry_class ?_⟩;unfold Builtin.«object.__class__» shownTypeOf;repeat lk
 exact h
end
theorem Iz {K:Frag}{D:Addr}{h:Heap}(X:K.In h)(hc:(clsIn K D).isSome=true):∃c' d' eW bC,h.get? D=some ⟨c',d',.cls eW,bC⟩:=by
 unfold clsIn at hc;split at hc
 ·rename_i c' d' eW bC ho;exact⟨_,_,_,_,X _ _ ho⟩
 ·cases hc
theorem IA {K:Frag}{D:Addr}{M:Model}{h:Heap}(X:K.In h)(hc:(clsIn K D).isSome=true):Looks M h (isType (.ref D)) true:=by
 obtain⟨c',d',eW,bC,ho⟩:=Iz X hc;intro A' Q' E' s' k q;unfold isType loadHead;refine wpAny_bind (wpAny_loadPart (k _ _ ho) ?_);exact wpAny_pure q
theorem Oz {K:Frag}{x D:Addr}(hx:GS K D=true):KitX K (.ref x) (.ref D) (Jf x D) where
 ty:=λ _ _ _ p=>Ox p
 it:=λ _ _ X _=>by
  unfold GS at hx;simp only[zA,beq_iff_eq] at hx;exact IA X hx.1.1.1.1.1.2
 ne:=λ h tp dd aa n sl X iI=>by
  unfold GS at hx;simp only[zA,beq_iff_eq] at hx;obtain⟨c',d',eW,bC,ho⟩:=Iz X hx.1.1.1.1.1.2;refine Bool.eq_false_iff.mpr λ q=>?_;obtain rfl:D=tp:=Value.ref.inj (beq_iff_eq.mp q);rw[iI] at ho;cases ho
 ca:=λ X p k=>MU hx X p k
def Vh (K:Frag)(cv:V)(tab:Str->Option Bool):List V->Hp->VK->Prop:=λ xs H Q=>∃a c x b,xs=[.ref a,cv]/\nsIn K mainGlobals x=some (some (.ref c))/\H a=some (.ext (Jf a c))/\tab x=some b/\Q (.bl b) H
section
variable {X:Cx}{WX:Str->Hp->Prop}{c:Bool}{e:Expr}{f:A8->M D}{pos p:Pos}
def R7 (K:Frag)(Cv:Value)(tab:Str->Option Bool):Prop:=∀x b c,tab x=some b->nsIn K mainGlobals x=some (some (.ref c))->kitOne K (.ref c) Cv=some b/\GS K c=true
theorem Kl {cv:V}{Cv:Value}{tab:Str->Option Bool}(hr:∀u,RelV cv u->u=Cv)(hk:R7 X.K Cv tab):E6 X (.builtin "isinstance") (Vh X.K cv tab):=by
 intro pins s σ H xs us Q I r h;obtain⟨a,c,x,b,rfl,hn,ha,ht,q⟩:=h;obtain⟨u,w,rfl,rx,bP⟩:=r.two;obtain rfl:=hr w bP;cases rx;obtain⟨k1,k2⟩:=hk x b c ht hn;exact kia_one (Oz k2) I.JQ (I.AF a _ ha).1 k1 (λ z=>nomatch z) λ tk=>⟨.bl _,H,I.tok tk,rfl,q⟩
noncomputable def MV (tab:Str->Option Bool)(d:D):M D:=match d with
 | .C3 x=>(match tab x with|some b=>.ok (.bl b)|none=>.bad)
 |_=>.bad
theorem Su {ta:TE}{tab:Str->Option Bool}{cv:V}{P0:DR}{P:Addr->Prop}{σ:St}{H:Hp}{ρ:A8}{Q:VK}(ha:∀P0 P σ H Q ρ,Ae X.K P0 P H σ ρ->gV X.K WX (Lv c P0 P) H Q (f ρ)->ta σ H Q)(E:Ae X.K P0 P H σ ρ)(h:gV X.K WX (Lv c P0 P) H Q ((f ρ).bind (MV tab))):
 VZ (Vh X.K cv tab) (O0 ta (O0 (tC cv) V1)) σ H Q:=by
 refine ha P0 P σ H _ ρ E ?_;cases q:f ρ with
 |bad|ex x=>rw[q] at h;exact h
 |ok d =>
  rw[q] at h;simp only[M.Aa] at h;unfold MV at h;split at h
  ·rename_i x;split at h
   ·rename_i b hb;intro v H1 s1 hv;cases hv with
    |C3 h1 h2=>exact⟨_,_,x,b,rfl,h1,Cj _ _ h2,hb,h _ H1 s1 (.bl _)⟩
   ·exact h.elim
  ·exact h.elim
theorem R8 {T:String}{x2:Str}{p2:Pos}{tab:Str->Option Bool}(hk:R7 X.K (.type T) tab)(hg:Gl X "isinstance")(hm:X.mg "isinstance" = none)(cI:Gl X x2)(bT:X.mg x2=none)(eh:bootBuiltins x2=some (.type T))(ha:DE X WX c e f)
 (hb:bootBuiltins "isinstance" = some (.builtin "isinstance"):=by decide +kernel) (bn:x2 ≠ "__name__" := by decide) (bo:(x2==("__debug__" : Str))=false:=by decide) (hs:starEach [e,.Name x2 p2] X.env=(false,eval e X.env)::starEach [.Name x2 p2] X.env:=by rfl) (ce:starEach [.Name x2 p2] X.env=[(false,eval (.Name x2 p2) X.env)]:=by rfl)
 (aT:(backTo pos (starEach [.Name x2 p2] X.env)).any (·.1)=false:=by rfl):
 DE X WX c (.Call (.Name "isinstance" p) [e,.Name x2 p2] [] pos) (λ ρ=>(f ρ).bind (MV tab)):=by
 obtain⟨ta,a1,a2⟩:=ha;exact⟨_,Fm (Kl (cv:=.ty T) (λ u r=>by cases r;rfl) hk) hg hm hb (Ba a1 (Ba (M3 (v:=.ty T) cI bT eh rfl bn bo) CT ce) hs) (by decide) (by decide) hs aT,λ P0 P σ H Q ρ E h=>Su a2 E h⟩
theorem R9 {C:Addr}{x2:Str}{p2:Pos}{tab:Str->Option Bool}(hk:R7 X.K (.ref C) tab)(hg:Gl X "isinstance")(hm:X.mg "isinstance" = none)(cI:Gl X x2)(bT:X.mg x2=some (.ref C))(ha:DE X WX c e f)
 (hb:bootBuiltins "isinstance" = some (.builtin "isinstance"):=by decide +kernel) (bo:(x2==("__debug__" : Str))=false:=by decide) (hs:starEach [e,.Name x2 p2] X.env=(false,eval e X.env)::starEach [.Name x2 p2] X.env:=by rfl) (ce:starEach [.Name x2 p2] X.env=[(false,eval (.Name x2 p2) X.env)]:=by rfl)
 (aT:(backTo pos (starEach [.Name x2 p2] X.env)).any (·.1)=false:=by rfl):
 DE X WX c (.Call (.Name "isinstance" p) [e,.Name x2 p2] [] pos) (λ ρ=>(f ρ).bind (MV tab)):=by
 obtain⟨ta,a1,a2⟩:=ha;exact⟨_,Fm (Kl (cv:=.ref C) (λ u r=>by cases r;rfl) hk) hg hm hb (Ba a1 (Ba (Qp (v:=.ref C) cI bT rfl bo) CT ce) hs) (by decide) (by decide) hs aT,λ P0 P σ H Q ρ E h=>Su a2 E h⟩
end
noncomputable def IB (K:Frag)(C D:Addr):Bool:=(instIn K (.ref C) (.type "tuple")==some false)&&(clsIn K C).isSome&&(mroIn K C (.type "BaseException")==some true)&&(mroIn K D (.ref C)==some true)
theorem MW {K:Frag}{M:Model}{A:Around}{E:Value->Shared->Prop}{s:Shared}{C D e:Addr}{oe:Obj}{Q:Bool->Shared->Prop}(X:K.In s.heap)(he:s.heap.get? e=some oe)(bU:oe.cls=.ref D)(hc:IB K C D=true)(h:Q true s):wpAny M A (excMatches (.ref e) (.ref C)) Q E s:=by
 unfold IB at hc;simp only[zA,beq_iff_eq] at hc;obtain⟨⟨⟨h1,h2⟩,h3⟩,h4⟩:=hc;have L1:=looks_instIn (M:=M) X h1;have L2:=IA (M:=M) X h2;have L3:=looks_mroIn (M:=M) X h3;have L4:=looks_mroIn (M:=M) X h4;have L5:Looks M s.heap (typeOf (.ref e)) (.ref D):=bU▸(Looks.ld he).andThen .now;have L6:Looks M s.heap (isExcClass (.ref C)) true:=by
  unfold isExcClass;exact L2.andThen L3
 obtain⟨hp,g,d,t,os⟩:=s;unfold excMatches;repeat (first|lk|wp_step)
 exact h
section
variable {X:Cx}{pins bx:List (Addr×Obj)}{σ:St}{H0 H1 H:Hp}{s s0 s1:Shared}{h4:Heap}{ea T c:Addr}
theorem Ra (I:Inv X pins σ H0 s0)(cz:s1.os=s0.os)(c6:AllBare s1.gens)(U:Un (BS X.stack) [] H0 H1 s0.heap s1.heap)(AF:DF X.prog X.w H1 s1.heap)(hid:∀b∈[ea,T],H1 b=none/\s0.heap.get? b=none)
 (k:(yj s1.heap (BS X.stack++[ea,T])).StaysIn h4) (sl:s1.heap.UpToSlots h4):Un (BS X.stack) [] H0 H1 s0.heap h4/\DF X.prog X.w H1 h4:=by
 have J:Inv X pins σ H1 s1:=I.Ge (ch:=[]) cz U AF c6 λ b hb=>by cases hb
 have cy:∀b∈BS X.stack,∃o,s1.heap.get? b=some o/\∀vs,o.data≠.fields vs:=λ b hb=>(J.stack.mem hb).2;have aL:∀b o,s0.heap.get? b=some o->b∉[ea,T]:=λ b o e hb=>by rw[(hid b hb).2] at e;cases e
 refine⟨⟨λ b o e n hb hx=>?_,λ b o e n hb hx=>?_,U.free,λ b o e hx=>?_,U.Ff,U.ES,U.Fg⟩,λ b ob e=>?_⟩
 ·exact k b o (zJ _ (U.keep b o e n hb hx) λ z=>(zy.mp z).elim hb (aL b o e))
 ·obtain⟨gY,e1⟩:=U.slot b o e n hb hx;obtain⟨o2,e2,nf⟩:=cy b hb;rw[e1] at e2;obtain⟨bC,e3⟩:=sl b _ e1 (by cases e2;exact nf);exact⟨bC,e3⟩
 ·obtain⟨o',e1⟩:=U.there b o e hx;by_cases hb:b∈BS X.stack
  ·obtain⟨o2,e2,nf⟩:=cy b hb;obtain⟨bC,e3⟩:=sl b _ e2 nf;exact⟨_,e3⟩
  ·exact⟨o',k b o' (zJ _ e1 λ z=>(zy.mp z).elim hb (aL b o e))⟩
 ·have b5:∀b o,H1 b≠none->s1.heap.get? b=some o->h4.get? b=some o:=λ b o hn e=>by
   refine k b o (zJ _ e λ z=>?_);rcases zy.mp z with z|z
   ·exact hn (J.Fh b z)
   ·exact hn (hid b z).1
  refine (AF b ob e).GB (λ x v hx q=>b5 x v ?_ q) (λ _ q=>q) λ _ _ q=>q;rcases hx with rfl|hx
  ·rw[e];intro z;cases z
  ·rw[hx];intro z;cases z
theorem OA {fs:List Addr}{h h':Heap}{o:HO}(U:Un fs [] H0 H1 h h')(hn:H0 ea=none)(hh:h.get? ea=none):Un fs [] H0 (upd H1 ea o) h h':=by
 refine⟨U.keep,U.slot,λ b o' e n hx=>?_,U.there,λ b xs e=>?_,λ b o' u e=>?_,λ b ps e=>?_⟩
 ·rw[An λ z=>by rw[z,hh] at e;cases e];exact U.free b o' e n hx
 ·rw[An (Ap e hn)];exact U.Ff b xs e
 ·rw[An (Ap e hn)];exact U.ES b o' u e
 ·rw[An (Ap e hn)];exact U.Fg b ps e
theorem Cx.Ok.re (ok:X.Ok)(xe:Value->Shared->Prop)(pn:List (Addr×Obj)):({X with xe:=xe,pn:=pn}:Cx).Ok:=
 ⟨ok.mod,ok.kind,ok.glob,ok.blt,ok.above,ok.inj,ok.has,ok.Sf,ok.hd,ok.frames,ok.Le,ok.Qm,ok.bs,ok.NI,ok.JV,ok.IY,ok.DQ,ok.Qn⟩
theorem Cx.Ok.WJ {xe:Value->Shared->Prop}{pn:List (Addr×Obj)}(ok:({X with xe:=xe,pn:=pn}:Cx).Ok):X.Ok:=
 ⟨ok.mod,ok.kind,ok.glob,ok.blt,ok.above,ok.inj,ok.has,ok.Sf,ok.hd,ok.frames,ok.Le,ok.Qm,ok.bs,ok.NI,ok.JV,ok.IY,ok.DQ,ok.Qn⟩
noncomputable abbrev Cx.OB (X:Cx)(e:Value):Cx:={X with A:=X.A.mark (some e),calm:=false,xe:=λ _ _=>False}
theorem Cx.Ok.OB (ok:X.Ok)(e:Value):(X.OB e).Ok:=
 ⟨ok.mod,ok.kind,ok.glob,ok.blt,ok.above,ok.inj,ok.has,ok.Sf,(λ z=>by cases z),ok.frames,ok.Le,ok.Qm,ok.bs,ok.NI,ok.JV,ok.IY,ok.DQ,ok.Qn⟩
theorem Inv.OB (I:Inv X pins σ H s)(e:Value):Inv (X.OB e) pins σ H s:=⟨I.ok.OB e,I.os,I.bare,I.base,I.loc,I.cell,I.free,I.BN,I.pin,I.AF,I.len⟩
theorem Inv.Rb {e:Value}(J:Inv (X.OB e) pins σ H s)(ok:X.Ok):Inv X pins σ H s:=⟨ok,J.os,J.bare,J.base,J.loc,J.cell,J.free,J.BN,J.pin,J.AF,J.len⟩
theorem name_goes {M:Model}{A:Around}{E:Value->Shared->Prop}{i:Nat}{x:Str}{pos:Pos}{Q:Unit->Shared->Prop}(I:Inv X pins σ H s)(hN:X.N.Nodup)(hi:X.N[i]?=some x)(hk:X.env.scope.names.lookup x=some .local)
 (h:∀s',Inv X pins (σ.set i none) H s'->Q () s'):wpAny M A (do bindName X.env x .none;unbindBehindTheSuite X.env x pos) Q E s:=by
 obtain⟨m,hn,hl⟩:=id I.loc;have bU:(X.env.scope.kind==.class||(X.env.scope.kind==.module&&X.env.locals != X.env.globals))=false:=by rw[I.ok.kind];rfl
 have old:∀b o,X.s₀.heap.get? b=some o->b≠X.env.locals:=λ b o e=>zG (zt (zk e) I.ok.above);refine wpAny_nameGoes_keeps hk hn bU λ h' v fo hs=>?_;refine h _ ⟨I.ok,I.os,I.bare,⟨λ b o e n hb hx=>(hs.2 b (old b o e)).trans (I.base.keep b o e n hb hx),λ b o e n hb hx=>?_,I.base.free,λ b o e hx=>?_,I.base.Ff,I.base.ES,I.base.Fg⟩,⟨_,fo,λ j y v' e1 e2 e3=>?_⟩,λ y c e=>?_,I.free,I.BN,λ p hp=>?_,λ b ob e=>?_,by simpa using I.len⟩
 ·obtain⟨sl,e1⟩:=I.base.slot b o e n hb hx;exact⟨sl,(hs.2 b (old b o e)).trans e1⟩
 ·obtain⟨o',e1⟩:=I.base.there b o e hx;exact⟨o',(hs.2 b (old b o e)).trans e1⟩
 ·have hj:i≠j:=λ z=>by
   subst z;rcases get_set e2 with ⟨_,_,z⟩|⟨z,_⟩
   ·cases z
   ·exact z rfl
  rw[zL hj] at e2;obtain⟨u,r,l⟩:=hl j y v' e1 e2 e3;refine⟨u,r,?_⟩;rcases l with ⟨l1,l2⟩|⟨k,c,e,o,z,d⟩
  ·have hy:y≠x:=λ z=>by
    subst z;exact hj ((List.getElem?_inj (zI.mp hi).1 hN).mp (hi.trans e1.symm))
   exact .inl ⟨l1,by show (if y=x then v else m y)=some u;rw[if_neg hy];exact l2⟩
  ·exact .inr ⟨k,c,e,o,(hs.2 c (I.Qo y c e)).trans z,d⟩
 ·obtain⟨v,o,z,d⟩:=I.cell y c e;exact⟨v,o,(hs.2 c (I.Qo y c e)).trans z,d⟩
 ·obtain⟨e,n,ne,nf,d⟩:=I.pin p hp;exact⟨(hs.2 p.1 ne).trans e,n,ne,nf,d⟩
 ·refine (I.AF b ob e).GB (λ c w' hc q=>(hs.2 c ?_).trans q) (λ _ q=>q) λ _ _ q=>q;rintro rfl;rcases hc with rfl|hc
  ·rw[I.free] at e;cases e
  ·rw[I.free] at hc;cases hc
theorem Ae.drop {K:zb}{P0:DR}{P:Addr->Prop}{ρ:A8}(E:Ae K P0 P H σ ρ)(i:Nat):Ae K P0 P H (σ.set i none) (ρ.set i none):=by
 have key:∀(j:Nat) (cl:Cl),(ρ.set i none)[j]?=some (some cl)->i≠j/\ρ[j]?=some (some cl):=λ j cl h=>by
  rcases get_set h with ⟨_,_,z⟩|z
  ·cases z
  ·exact z
 refine⟨E.sub,E.C6,λ j d h=>?_,λ j ds h io=>?_,λ j k c c' v v' fp aK h1 h2 h3 h4 h5 h6 ay=>?_,by simpa using E.len,λ j c n h hp=>by obtain⟨n1,h⟩:=key j _ h;rw[zL n1];exact E.pin j c n h hp⟩
 ·obtain⟨n,h⟩:=key j _ h;rw[zL n];exact E.val j d h
 ·obtain⟨n,h⟩:=key j _ h;rw[zL n];exact E.ows j ds h io
 ·obtain⟨n1,h1⟩:=key j _ h1;obtain⟨n2,h2⟩:=key k _ h2;rw[zL n1] at h3;rw[zL n2] at h4;exact E.apart j k c c' v v' fp aK h1 h2 h3 h4 h5 h6 ay
noncomputable def Sv (i:Nat)(m:M Out):M Out:=match m with
 | .ok (.next ρ)=>.ok (.next (ρ.set i none))
 | .ok (.ret d)=>.ok (.ret d)
 | .ok (.BJ d)=>.ok (.BJ d)
 | .ok (.EY _ _)=>.bad
 | .ok (.brk ρ)=>.ok (.brk (ρ.set i none))
 | .ok (.cont ρ)=>.ok (.cont (ρ.set i none))
 | .ex _| .bad=>.bad
end
section
variable {X:Cx}{WX:Str->Hp->Prop}{c:Bool}{a b e:Expr}{f g:A8->M D}{pos p:Pos}
noncomputable def Sw (K:zb):R2:=λ x y H Q=>∃l b xs zs,x=.ref l/\y=.ref b/\DX K H l xs/\DX K H b zs/\xs.length+zs.length<=sizeLine/\∀p,H p=none->Q (.ref p) (upd H p (.lst (xs++zs)))
theorem Rc:DV X (binaryOp .Add) (Sw X.K):=by
 intro pins s σ H x y v u Q I rx ry h;obtain⟨l,b,xs,zs,rfl,rfl,h1,h2,hz,q⟩:=h;cases rx;cases ry;obtain⟨aa,r,⟨⟨c1,d1,t1,gY⟩,n,e1,q1,q2,q3⟩,jL⟩:=I.list h1;obtain⟨dn,r2,⟨⟨c2,d2,t2,cR⟩,n2,e2,q4,q5,q6⟩,jM⟩:=I.list h2;dsimp only at q1 q2 q3 q4 q5 q6;subst q1 q2 q3 q4 q5 q6;have l1:=r.length;have l2:=r2.length;refine concat_meets ⟨_,e1,rfl⟩ ⟨_,e2,rfl⟩ noFill_list_add seq_list_add PySem.F.slot_list_add PySem.F.entry_list_add (PySem.F.args_list_add_2 _ _) (list_addW l b aa.toArray dn.toArray n n2 none none gY cR (by rw[zm,zm];omega)) ⟨e1,e2,?_⟩;rw[show aa.toArray++dn.toArray=(aa++dn).toArray by simp];exact⟨.ref _,_,I.Wx (t':=s.toks) (r.append r2) (by rw[zq];omega),rfl,q _ I.fresh⟩
theorem Af.Xf {K:zb}{H:Hp}:∀ {xs ys:List V}{ds es:List D},Af K H xs ds->Af K H ys es->Af K H (xs++ys) (ds++es)
 |_,_,_,_,.nil,h=>h
 |_,_,_,_,.cons a t,h=>.cons a (t.Xf h)
noncomputable def Xg (neg:Bool)(x y:D):M D:=match x,y with
 | .int i,.lst ds=>(match Kk ds with|some ns=>.ok (.bl (if neg then !ns.contains i else ns.contains i))|none=>.bad)
 |_,_=>.bad
end
structure ClsAt (K:zb)(mg:Str->Option Value)(x:Str):Prop where
 ex:∃C,zd K mainGlobals x=some (some (.ref C))/\mg x=some (.ref C)/\PySem.W.excIn K C [.type "ValueError",.type "Exception",.type "BaseException",.type "object"] "ValueError.__new__" = true
structure Sx (K:zb)(mg:Str->Option Value)(y x:Str):Prop where
 ex:∃C c,mg y=some (.ref C)/\zd K mainGlobals x=some (some (.ref c))/\IB K C c=true
structure GU (K:zb)(mg:Str->Option Value)(x y:Str)(b:Bool):Prop where
 ex:∃C c,mg y=some (.ref C)/\zd K mainGlobals x=some (some (.ref c))/\zr K (.ref c) (.ref C)=some b/\GS K c=true
structure Xh (K:zb)(x:Str)(T:String)(b:Bool):Prop where
 ex:∃c,zd K mainGlobals x=some (some (.ref c))/\zr K (.ref c) (.type T)=some b/\GS K c=true
theorem BE {K:zb}{D:Addr}(h1:zW K (.ref D) "__getattribute__" = some (some (.builtin "BaseException.__getattribute__")))(h0:zW K (.ref D) "__getattr__" = some none)(h2:yo K D=true)(h3:zW K (.ref D) "__class__" = some (some (.builtin "object.__class__")))
 (h4:PySem.W.specialIn K (.builtin "object.__class__") "__get__" = some (some (.builtin "getset_descriptor.__get__"))) (h5:PySem.W.takesIn K (.builtin "object.__class__")=some true) (h6:yc K D (.type "object")=some true) (h7:yc K D (.type "BaseException")=some true):GS K D=true:=by
 unfold GS;obtain⟨cd,hc,_⟩:=PySem.W.any_some h2;rw[h1,h0,hc,h3,h4,h5,h6,h7];rfl
theorem OC {K:zb}{C D:Addr}(h1:PySem.W.instIn K (.ref C) (.type "tuple")=some false)(h2:yo K C=true)(h3:yc K C (.type "BaseException")=some true)(h4:yc K D (.ref C)=some true):IB K C D=true:=by
 unfold IB;obtain⟨cd,hc,_⟩:=PySem.W.any_some h2;rw[h1,hc,h3,h4];rfl
noncomputable def one (x:Str)(b:Bool):Str->Option Bool:=λ y=>if y=x then some b else none
section
variable {X:Cx}{E:XK}{WX:Str->Hp->Prop}{c:Bool}{e:Expr}{f:A8->M D}{pos p:Pos}
theorem EA {x:Str}{np ax:Pos}(T:ClsAt X.K X.mg x)(xo:W2 X E)(hc:X.calm=true)(hg:Gl X x)(ha:DE X (G1 X.K E) c e f)(bz:(x==("__debug__" : Str))=false:=by decide)(he:starEach [e] X.env=[(false,eval e X.env)]:=by rfl)(aB:(backTo ax (starEach [e] X.env)).any (·.1)=false:=by rfl):
 DS X (G1 X.K E) (.Raise (some (.Call (.Name x np) [e] [] ax)) none pos) (λ ρ=>(f ρ).bind λ _=>.ex x):=by
 obtain⟨C,h1,h2,h3⟩:=T.ex;exact Ov xo hc PySem.F.excBase_ValueError h1 h3 hg h2 ha bz he aB
theorem Km {K:zb}{x:Str}{b:Bool}{Cv:Value}(h:∃c,zd K mainGlobals x=some (some (.ref c))/\zr K (.ref c) Cv=some b/\GS K c=true):R7 K Cv (one x b):=by
 intro y b' c' h1 h2;unfold one at h1;split at h1
 ·rename_i e;subst e;obtain⟨c,g1,g2,g3⟩:=h;rw[h2] at g1;cases g1;cases h1;exact⟨g2,g3⟩
 ·cases h1
theorem BV {x x2:Str}{b:Bool}{p2:Pos}(T:GU X.K X.mg x x2 b)(hg:Gl X "isinstance")(hm:X.mg "isinstance" = none)(cI:Gl X x2)(ha:DE X WX c e f)
 (hb:bootBuiltins "isinstance" = some (.builtin "isinstance"):=by decide +kernel) (bo:(x2==("__debug__" : Str))=false:=by decide) (hs:starEach [e,.Name x2 p2] X.env=(false,eval e X.env)::starEach [.Name x2 p2] X.env:=by rfl) (ce:starEach [.Name x2 p2] X.env=[(false,eval (.Name x2 p2) X.env)]:=by rfl)
 (aT:(backTo pos (starEach [.Name x2 p2] X.env)).any (·.1)=false:=by rfl):
 DE X WX c (.Call (.Name "isinstance" p) [e,.Name x2 p2] [] pos) (λ ρ=>(f ρ).bind (MV (one x b))):=by
 obtain⟨C,c,h1,h2,h3,h4⟩:=T.ex;exact R9 (Km ⟨c,h2,h3,h4⟩) hg hm cI h1 ha hb bo hs ce aT
theorem Rf {x:Str}{Ty:String}{x2:Str}{b:Bool}{p2:Pos}(T:Xh X.K x Ty b)(hg:Gl X "isinstance")(hm:X.mg "isinstance" = none)(cI:Gl X x2)(bT:X.mg x2=none)(eh:bootBuiltins x2=some (.type Ty))(ha:DE X WX c e f)
 (hb:bootBuiltins "isinstance" = some (.builtin "isinstance"):=by decide +kernel) (bn:x2 ≠ "__name__" := by decide) (bo:(x2==("__debug__" : Str))=false:=by decide) (hs:starEach [e,.Name x2 p2] X.env=(false,eval e X.env)::starEach [.Name x2 p2] X.env:=by rfl) (ce:starEach [.Name x2 p2] X.env=[(false,eval (.Name x2 p2) X.env)]:=by rfl)
 (aT:(backTo pos (starEach [.Name x2 p2] X.env)).any (·.1)=false:=by rfl):
 DE X WX c (.Call (.Name "isinstance" p) [e,.Name x2 p2] [] pos) (λ ρ=>(f ρ).bind (MV (one x b))):=
 R8 (Km T.ex) hg hm cI bT eh ha hb bn bo hs ce aT
end
def Kn (i j:Int):Prop:=(i.natAbs<2^1000/\j.natAbs<2^1000)\/NS i j
instance (i j:Int):Decidable (Kn i j):=by unfold Kn;infer_instance
theorem IC {i:Int}(h:i.natAbs<2^1000):zN i<=2^20:=by
 unfold zN;split
 ·exact zZ _
 ·rename_i z;have h0:i.natAbs≠0:=λ q=>z (by rw[Int.natAbs_eq_zero.mp q];rfl);have:=(Nat.log2_lt h0).mpr h;have h3:(1000:Nat)<=2^20:=by decide
  exact zD this h3
theorem Kn.ok {i j:Int}(h:Kn i j):IntMulOk i j:=by
 rcases h with ⟨h1,h2⟩|h
 ·exact IntMulOk.of_bits (IC h1) (IC h2)
 ·exact h.ok
theorem Fx {gt:D->A8->M A8}{ft:A8->M Bool}{fe:A8->M D}{ρ:A8}(p:D->Bool)(f:D->D):∀(ds:List D),(∀d∈ds,∃ρ1,gt d ρ=.ok ρ1/\ft ρ1=.ok (p d)/\(p d=true->fe ρ1=.ok (f d)))->AY gt ft fe ds ρ=.ok ((ds.filter p).map f)
 |[],_=>rfl
 |d::r,h=>by
  obtain⟨ρ1,h1,h2,h3⟩:=h d zf;have ih:=Fx p f r λ d hd=>h d (zg _ hd);rw[AY,h1];dsimp only;rw[h2];dsimp only;by_cases hp:p d=true
  ·rw[if_pos hp,h3 hp];dsimp only;rw[ih,List.filter_cons_of_pos hp];rfl
  ·rw[if_neg hp,ih,List.filter_cons_of_neg hp]
theorem Lp (n:Nat):BC 0 n=(List.range n).map λ i:Nat=>D.int (i:Int):=by
 apply List.ext_getElem?;intro i;rw[zR];by_cases h:i<n
 ·have hi:i<(BC 0 n).length:=by rw[Cp];exact h
  have e:=z0 hi;obtain⟨h1,_⟩:=EZ e;rw[e,h1,List.getElem?_range h,Int.zero_add];rfl
 ·rw[List.getElem?_eq_none (by rw[Cp];omega),List.getElem?_eq_none (by simp;omega)];rfl
theorem ID (ns:List Int):Kk (ns.map D.int)=some ns:=by
 induction ns with
 |nil=>rfl
 |cons n r ih=>rw[zx,Kk,ih];rfl
theorem OD (ds:List D)(n:Nat):Uw (some (n:Int)) none (.lst ds)=.ok (.lst (ds.drop n)):=by
 unfold Uw;dsimp only;rw[HT.O3,HT.J8];congr 2;by_cases h:n<=ds.length
 ·rw[Nat.min_eq_left h,List.take_of_length_le (by rw[List.length_drop];exact zv _)]
 ·rw[Nat.min_eq_right (by omega),List.drop_of_length_le (zv _),List.drop_of_length_le (by omega),List.take_nil]
def Pl (n:Nat)(d:D):Prop:=EL d<=n/\Al d=true
theorem Jk {n:Nat}:∀ {ds:List D},(∀d∈ds,EL d<=n)->CH ds<=n
 |[],_=>by rw[CH];exact zZ _
 |d::r,h=>by
  rw[CH];exact Nat.max_le.mpr ⟨h d zf,Jk λ d hd=>h d (zg _ hd)⟩
theorem Jl:∀ {ds:List D},(∀d∈ds,Al d=true)->CY ds=true
 |[],_=>by rw[CY]
 |d::r,h=>by
  rw[CY,h d zf,Jl λ d hd=>h d (zg _ hd)];rfl
theorem Dp {n:Nat}(i:Int):Pl n (.int i):=⟨by rw[EL];exact zZ _;all_goals simp,by rw[Al];all_goals simp⟩
theorem Tv {n:Nat}:Pl n .Ar:=⟨by rw[EL];exact zZ _;all_goals simp,by rw[Al];all_goals simp⟩
theorem OE {n:Nat}{ds:List D}(h:∀d∈ds,Pl n d):Pl (n+1) (.tup ds):=
 ⟨by rw[EL];exact Nat.succ_le_succ (Jk λ d hd=>(h d hd).1),by rw[Al];exact Jl λ d hd=>(h d hd).2⟩
theorem Tw {n:Nat}{ds:List D}(h:∀d∈ds,Pl n d):Pl (n+1) (.lst ds):=
 ⟨by rw[EL];exact Nat.succ_le_succ (Jk λ d hd=>(h d hd).1),by rw[Al];exact Jl λ d hd=>(h d hd).2⟩
theorem Pl.le {n m:Nat}{d:D}(h:Pl n d)(k:n<=m):Pl m d:=⟨zD h.1 k,h.2⟩
theorem OF {n:Nat}:∀d∈([]:List D),Pl n d:=λ d h=>by cases h
theorem EB {n:Nat}{d:D}{ds:List D}(h:Pl n d)(t:∀d∈ds,Pl n d):∀e∈d::ds,Pl n e:=λ e he=>by
 rcases zp.mp he with rfl|he
 ·exact h
 ·exact t e he
theorem Lq {n:Nat}{x y:D}(h:Pl n x)(k:Pl n y):Oe n x y=.ok (.bl (Ak x y)):=by
 unfold Oe;rw[if_pos ⟨h.1,h.2,k.2⟩]
theorem OG {n:Nat}{x y:D}(h:Pl n x)(k:Pl n y):Sl n x y=.ok (.bl (!Ak x y)):=by
 unfold Sl;rw[if_pos ⟨h.1,h.2,k.2⟩]
theorem OH {n:Nat}{x:D}(h:Pl n x):Oe n x x=.ok (.bl true):=by rw[Lq h h,Fq]
theorem MX {gt:D->A8->M A8}{ft:A8->M Bool}{fe:A8->M D}{ρ:A8}(f:D->D)(ds:List D)(h:∀d∈ds,∃ρ1,gt d ρ=.ok ρ1/\ft ρ1=.ok true/\fe ρ1=.ok (f d)):AY gt ft fe ds ρ=.ok (ds.map f):=by
 rw[Fx (λ _=>true) f ds λ d hd=>by
  obtain⟨ρ1,h1,h2,h3⟩:=h d hd;exact⟨ρ1,h1,h2,λ _=>h3⟩]
 rw[List.filter_eq_self.mpr λ _ _=>rfl]
theorem Rg (ds:List D)(a b:Nat):Uw (some (a:Int)) (some (b:Int)) (.lst ds)=.ok (.lst ((ds.drop a).take (b-a))):=by
 unfold Uw;dsimp only;rw[HT.J8,HT.J8];congr 2;by_cases h:a<=ds.length
 ·rw[Nat.min_eq_left h];by_cases h2:b<=ds.length
  ·rw[Nat.min_eq_left h2]
  ·rw[Nat.min_eq_right (by omega),List.take_of_length_le (by rw[List.length_drop];exact zv _),List.take_of_length_le (by rw[List.length_drop];omega)]
 ·rw[Nat.min_eq_right (show ds.length<=a by omega),List.drop_of_length_le (zv _),List.drop_of_length_le (show ds.length<=a by omega),List.take_nil,List.take_nil]
section
variable {X:Cx}{WX:Str->Hp->Prop}{c:Bool}{P0:DR}{P:Addr->Prop}{H:Hp}{σ:St}{ρ:A8}{a b e:Expr}{f g:A8->M D}{ft gt:A8->M Bool}{pos:Pos}{st:Stmt}{rest:List Stmt}{g1 g2:A8->M Out}
noncomputable def Xi (ds:List D):M D:=match ds with
 |[.int i]=>.ok (.int i)
 |[.bl b]=>.ok (.int (if b then 1 else 0))
 |_=>.bad
noncomputable def Ef:List D->Option (List Bool)
 |[]=>some []
 | .bl b::r=>(Ef r).map (b::·)
 |_=>none
theorem GV (bs:List Bool):Ef (bs.map D.bl)=some bs:=by
 induction bs with
 |nil=>rfl
 |cons b r ih=>rw[zx,Ef,ih];rfl
theorem GW:∀ {ds:List D}{bs:List Bool},Ef ds=some bs->ds=bs.map D.bl
 |[],bs,h=>by cases h;rfl
 | .bl b::r,bs,h=>by
  rw[Ef] at h;cases q:Ef r with
  |none=>rw[q] at h;cases h
  |some jN=>rw[q] at h;cases h;rw[GW q];rfl
 | .Ar::r,bs,h| .int _::r,bs,h| .str _::r,bs,h| .tup _::r,bs,h| .lst _::r,bs,h| .C3 _::r,bs,h| .C7 _ _ _::r,bs,h| .ins _ _ _::r,bs,h=>by cases h
theorem GX {K:zb}{H:Hp}:∀ {vs:List V}{bs:List Bool},Af K H vs (bs.map D.bl)->vs=bs.map V.bl
 |_,[],.nil=>rfl
 |_,b::r,.cons h t=>by cases h;rw[GX t];rfl
theorem GY:∀ {bs:List Bool}{us:List Value},Vals (bs.map V.bl) us->LSm.BoolsAre us bs
 |[],_,.nil=>.nil
 |b::r,_,.cons h t=>by cases h;exact .cons b (GY t)
theorem GZ (hc:X.calm=true):E6 X (.builtin "all") (λ xs H Q=>∃p bs,xs=[.ref p]/\DX X.K H p (List.map V.bl bs)/\Q (.bl (bs.all id)) H):=by
 intro pins s σ H xs us Q I r h;obtain⟨p,bs,rfl,hq,q⟩:=h;obtain⟨u,rfl,rx⟩:=vals1 r;cases rx;obtain⟨aa,r',pl,hz⟩:=I.list hq;have hl:=pl.isList;have hb:=GY r';have aN:p<s.heap.objs.size:=by obtain⟨_,e,_⟩:=hl;exact zk e
 refine call_all_walk (wpAny_pyIter_list hl ?_);refine⟨s.heap.objs.size,[s.heap.objs.size,p],[s.heap.objs.size],aa.toArray.size,_,_,λ i=>(bs[i]?).getD true,rfl,Walks.list (A:=X.A.in1) (I.ok.hd hc) _ p (zG aN) aa.toArray,
  ⟨⟨_,zQ _ rfl,rfl,rfl⟩,hl.push _⟩,λ i v s' Q' E' hP hQ=>?_,λ h' tk hk=>?_⟩
 ·obtain⟨b,e,rfl⟩:=hb.get i v (by simpa using hP);simp only[e,Option.getD_some] at hQ;exact wpAny_truthy_bool hQ
 ·have e:((List.range aa.toArray.size).all λ i=>(bs[i]?).getD true)=bs.all id:=by
   rw[zm,hb.length];exact LSm.range_all bs
  rw[e];exact⟨.bl _,H,I.kept (t':=tk) (LSm.kept_iter hk),rfl,q⟩
noncomputable def OI (ds:List D):M D:=match ds with
 |[.lst xs]=>(match Ef xs with|some bs=>.ok (.bl (bs.all id))|none=>.bad)
 |_=>.bad
theorem Tx:Gi X.K WX (λ xs H Q=>∃p bs,xs=[.ref p]/\DX X.K H p (List.map V.bl bs)/\Q (.bl (bs.all id)) H) OI:=by
 intro P H ds vs Q ht hl h;unfold OI at h;split at h
 ·rename_i xs;obtain⟨v,rfl,hv⟩:=hl.one;split at h
  ·rename_i bs eb;have:=GW eb;subst this;cases hv with
   |lst hs hh =>
    have:=GX hh;subst this;exact⟨_,bs,rfl,hs.C4,h _ H (A9.refl H) (.bl _)⟩
  ·exact h.elim
 ·exact h.elim
theorem OJ {p:Pos}(hc:X.calm=true)(hg:Gl X "all")(hm:X.mg "all" = none)(ha:DE X WX c e f)(hb:bootBuiltins "all" = some (.builtin "all"):=by decide +kernel)(hs:starEach [e] X.env=[(false,eval e X.env)]:=by rfl):DE X WX c (.Call (.Name "all" p) [e] [] pos) (λ ρ=>((f ρ).bind λ d=>(M.ok []).bind λ ds=>.ok (d::ds)).bind OI):=
 GR (GZ hc) Tx hg hm hb (A1 ha A7 hs) (he:=hs)
end
def Sm (n:Int):Prop:=zN n<=2^20
theorem OK:∀ {ns:List Int},W.WData.weightAll (ns.map W.WData.int)<=2^20->∀n∈ns,Sm n
 |m::r,h,n,hn=>by
  rw[zx,W.WData.weightAll,W.WData.weight] at h;rcases zp.mp hn with rfl|hn
  ·unfold Sm zN;omega
  ·exact OK (by omega) n hn
theorem Vi {ns:List Int}(h:W.WData.layableAll [W.WData.list (ns.map W.WData.int)]=true):∀n∈ns,Sm n:=by
 unfold W.WData.layableAll at h;rw[List.all_cons,zA] at h;have h1:=h.1;unfold W.WData.layable at h1;rw[zA,decide_eq_true_eq,W.WData.weight] at h1;exact OK h1.2
end L2
namespace HT
open PySem PySem.W PyProof.Rows Spec Calls gP
theorem IE {l:OpenLaw}{n:Nat}{q:Program}{loose:List Str}{XP:(Str->Option Value)->Heap->Prop}{YP:World->Heap->Prop}{d:DefRec}
 (hn:l.most=some n) (cJ:d.params.defaults=[])
 (run:∀(w:World) (s₀ s₁:Shared) (mg mb:Str->Option Value) (fa:Addr) (o:Obj) (pm cd doc:Value) (a:Addr) (vs:List Value) (ns:List Int),(∀n∈ns,L2.Sm n)->
  Ground q loose [] XP w s₀ mg mb s₁.heap->YP w s₁.heap->s₁.heap.get? fa=some o->o.data=.func (docDef d.name d.params d.body d.scope pm cd doc)->s₁.heap.CodeRec cd d.name->mg d.name=some (.ref fa)->
  s₁.heap.get? a=some {cls:=.type "list",data:=.seq vs.toArray}->IntsAre vs ns->ns.length<=n->s₁.gens=#[]->
  codeAny (model l.prog w) callerA (.call (.ref fa) ⟨[.ref a],[]⟩) (λ r s'=>r=.ok (.ret (.bool true))/\OldK s₁.heap s'.heap/\s'.os=s₁.os/\AllBare s'.gens) s₁):
 WalkO q loose XP YP l.row.toRowW d [] (λ f vs=>PySem.call f vs):=by
 intro w s₀ s₁ mg mb G Y fa o pm cd doc dV kV ho hd bJ hD dq hg args vals as cD fJ fK fw jO;obtain rfl:dV=.none:=Dflts.none hD cJ;obtain rfl:kV=.none:=Dflts.noKw hD;obtain⟨a,vs,ns,rfl,rfl,cj,b7,hlen⟩:=MJ hn cD fw;refine enter_call (codeAny_mono (run w s₀ s₁ mg mb fa o pm cd doc a vs ns (L2.Vi fJ) G Y ho (fd_plain hd) bJ dq cj b7 hlen hg) λ r s' hq=>?_);obtain⟨rfl,h2,h3,h4⟩:=hq;exact⟨.inl ⟨.bool true,.bool true,[],rfl,λ _=>rfl,.bool true,MK l _,λ _=>⟨List.Pairwise.nil,λ _ hm=>(nomatch hm)⟩⟩,h2,h3,h4⟩
end HT
namespace L2
open PySem PySem.Spec PyProof.Rows
theorem W3 {l:PySem.W.OpenLaw}{n k:Nat}{q:Program}{loose:List Str}{XP:(Str->Option Value)->Heap->Prop}{YP:World->Heap->Prop}{d:DefRec}{K:Params->zb}{CX:World->MF}{sp:World->Sp}{x:Str}
 (hn:l.most=some n) (bn:n<=sizeLine) (cJ:d.params.defaults=[]) (hr:C0 k callerA) (hY:∀(w:World) (h:Heap),YP w h->(K w.params).In h)
 (F:∀(w:World) (mg:Str->Option Value) (fa:Addr) (h:Heap),(K w.params).In h->h.Ns mainGlobals mg->mg d.name=some (.ref fa)->∃fd:FuncData,(∀(s:Shared) (u:Value),BindsTo s fd ⟨[u],[]⟩ [(x,u)])/\
  ∀base:Heap,(K w.params).In base->base.Ns mainGlobals mg->EU l.prog w (K w.params) mg base (CX w) k fa fd [x] (sp w))
 (cu:∀(w:World) (H:Hp) (a:Addr) (ns:List Int),(∀n∈ns,Sm n)->ns.length<=n->QO H->DX (K w.params) H a (ns.map V.int)->sp w [.ref a] H (λ v _=>v=.bl true) λ _ _ _=>False)
 (dZ:∀(w:World) (H:Hp) (s:Shared) (e:Value) (s':Shared),CX w [] H s (λ _ _ _=>False) e s'->False):PySem.W.WalkO q loose XP YP l.row.toRowW d [] (λ f vs=>PySem.call f vs):=by
 refine HT.IE hn cJ λ w s₀ s₁ mg mb fa o pm cd doc a vs ns cS G Y ho hd bJ dq cj b7 hlen hg=>?_;have KX:=hY w _ Y;obtain⟨fd,hb,hF⟩:=F w mg fa _ KX G.T.g dq;exact K6 KX G.T.g G.T.b G.T.builtins G.T.nolimit hg cj b7 (zD hlen bn) hr hF hb (λ H hO hS=>cu w H a ns cS hlen hO hS) λ H e s'=>dZ w H s₁ e s'
theorem Rh {F:List D->M D}(h:∀ns:List Int,ns.length<=63->(∀n∈ns,Sm n)->F [.lst (ns.map D.int)]=.ok (.bl true))(K:zb)(H:Hp)(a:Addr)(ns:List Int)(cS:∀n∈ns,Sm n)(hl:ns.length<=63)(hS:DX K H a (ns.map V.int)):Lo K 1 F [.ref a] H (λ v _=>v=.bl true) λ _ _ _=>False:=by
 refine⟨rfl,λ _=>False,[.lst (ns.map D.int)],λ _ z=>z.elim,.cons (.lst ?_ (Af.ints ns)) .nil,?_⟩
 ·have e:del H (λ _=>False)=H:=by funext b;exact AA (λ z=>z)
  rw[e];exact hS
 ·rw[h ns hl cS];exact λ v H' s hv=>hv.GQ
def IF (i j:Int):Prop:=(zN i<=2^20+1/\zN j<=2^10)\/Kn i j
theorem MY {a b:Int}(h:zN a+zN b<=2^21):IntMulOk a b:=by
 have e:(2:Nat)^21=2097152:=by decide
 have h2:Builtin.Int.intTooBig (zN a+zN b)=false:=by
  unfold Builtin.Int.intTooBig bitsLine;exact decide_eq_false (by omega)
 unfold IntMulOk;rw[h2];simp
theorem IF.ok {i j:Int}(h:IF i j):IntMulOk i j:=by
 rcases h with ⟨h1,h2⟩|h
 ·exact MY (by omega)
 ·exact h.ok
theorem Ri {X:Cx}:DV X (binaryOp .Mult) (rI IF λ i j=>.int (i*j)):=UW λ _ _ _ _ _ _ _ hc q=>mul_int q hc.ok
noncomputable instance (i j:Int):Decidable (IF i j):=Classical.propDecidable _
noncomputable def H9:=As λ i j=>if IF i j then .ok (.int (i*j)) else .bad
theorem OL {i j:Int}(h:IF i j):H9 (.int i) (.int j)=.ok (.int (i*j)):=by
 unfold H9 As;dsimp only;rw[if_pos h]
theorem Jm {X:Cx}{WX:Str->Hp->Prop}{c:Bool}{a b:Expr}{f g:A8->M D}{pos:Pos}(ha:DE X WX c a f)(hb:DE X WX c b g):DE X WX c (.BinOp a .Mult b pos) (λ ρ=>(f ρ).bind λ x=>(g ρ).bind λ y=>H9 x y):=Fs Ri (Jh λ _ _ _ _=>.int _) ha hb
theorem bits_le {n:Int}{k:Nat}(h:n.natAbs<2^k):zN n<=k:=by
 unfold zN;split
 ·exact zZ _
 ·rename_i hn;have hp:n.natAbs≠0:=by simpa using hn
  exact (Nat.log2_lt hp).mpr h
mutual
noncomputable def Vj:D->Bool
 | .tup a=>Tz a
 | .lst _| .C3 _| .C7 _ _ _| .ins _ _ _=>false
 |_=>true
noncomputable def Tz:List D->Bool
 |[]=>true
 |a::r=>Vj a&&Tz r
end
noncomputable def dp (m:M D):M D:=m.bind λ d=>if Vj d=true then .ok d else .bad
theorem TB {P P2:Addr->Prop}{H H':Hp}(t:Tr P P H P2 H'){a:Addr}(h:P2 a)(hn:¬ P a):H a=none:=by
 cases q:H a with
 |none=>rfl
 |some o =>
  have:=t.1 a o (by rw[AA hn];exact q);exact ((Ay this).1 h).elim
section
variable {X:Cx}{WX:Str->Hp->Prop}{c:Bool}{P0:DR}{P:Addr->Prop}{H:Hp}{σ:St}{ρ:A8}{a b e:Expr}{f g:A8->M D}{pos:Pos}
noncomputable def Rj (i:Nat)(ρ:A8)(mk md:M D):M Out:=match ρ[i]? with
 |some (some (.own ds))=>mk.bind λ k=>md.bind λ d=>match k with
  | .int j=>if 0<=j/\j.toNat<=ds.length/\ds.length<1000 then .ok (.next (ρ.set i (some (.own (ds.take j.toNat++d::ds.drop j.toNat))))) else .bad
  |_=>.bad
 |_=>.bad
noncomputable def Md (ds:List D):M D:=match ds with
 |[.int i]=>if i.natAbs.log2<1920 then .ok (.str (toString i)) else .bad
 |_=>.bad
theorem Rk:Gi X.K WX (λ xs H Q=>∃i,xs=[.int i]/\i.natAbs.log2<1920/\Q (.str (toString i)) H) Md:=by
 intro P H ds vs Q ht hl h;unfold Md at h;split at h
 ·rename_i i;obtain⟨v,rfl,hv⟩:=hl.one;cases hv;by_cases hi:i.natAbs.log2<1920
  ·rw[if_pos hi] at h;exact⟨_,rfl,hi,h _ H (A9.refl H) (.str _)⟩
  ·rw[if_neg hi] at h;exact h.elim
 ·exact h.elim
theorem Fy {p:Pos}(hg:Gl X "str")(hm:X.mg "str" = none)(ha:DE X WX c e f)(hb:bootBuiltins "str" = some (.type "str"):=by decide +kernel)(hs:starEach [e] X.env=[(false,eval e X.env)]:=by rfl):DE X WX c (.Call (.Name "str" p) [e] [] pos) (λ ρ=>((f ρ).bind λ d=>(M.ok []).bind λ ds=>.ok (d::ds)).bind Md):=
 Ir J6 Rk hg hm hb (A1 ha A7 hs) (he:=hs)
noncomputable def Vk (ds:List D):M D:=match ds with
 |[.lst xs]=>(match Ef xs with|some bs=>.ok (.bl (bs.any id))|none=>.bad)
 |_=>.bad
end
noncomputable def kids:OT->List OT
 | .sh _=>[]
 | .lst ts| .tup ts| .C7 _ _ ts| .ins _ _ ts=>ts
noncomputable def Rl:OT->List OT->OT
 | .sh d,_=>.sh d
 | .lst _,ts=>.lst ts
 | .tup _,ts=>.tup ts
 | .C7 b ks _,ts=>.C7 b ks ts
 | .ins x ns _,ts=>.ins x ns ts
noncomputable def Lr:OT->List Nat->Option OT
 |t,[]=>some t
 |t,j::π=>match (kids t)[j]? with|some s=>Lr s π|none=>none
noncomputable def OM:OT->List Nat->OT->OT
 |_,[],u=>u
 |t,j::π,u=>match (kids t)[j]? with|some s=>Rl t ((kids t).set j (OM s π u))|none=>t
@[simp] theorem Vl (t:OT):Lr t []=some t:=by unfold Lr;rfl
@[simp] theorem ON (t u:OT):OM t [] u=u:=by unfold OM;rfl
section
variable {K:zb}{H H':Hp}{P P':Addr->Prop}
theorem AG.len:∀ {xs:List V}{ts:List OT}{fp:List Addr},AG K H P xs ts fp->xs.length=ts.length
 |_,_,_,.nil=>rfl
 |_,_,_,.cons _ r=>by rw[zi,zi,r.len]
end
def PU (P:Addr->Prop)(fp:List Addr):Addr->Prop:=λ a=>P a\/a∈fp
theorem Jn {P:Addr->Prop}{fp:List Addr}:∀a,P a->PU P fp a:=λ a h=>.inl h
theorem Fz {P:Addr->Prop}{fp:List Addr}{H H':Hp}(s:A9 H H')(hn:∀a∈fp,H a=none):A9 (del H P) (del H' (PU P fp)):=λ b o e=>by
 obtain⟨h1,h2⟩:=Ay e;rw[AA λ z=>z.elim h1 λ w=>by rw[hn b w] at h2;cases h2];exact s b o h2
theorem Ls {P:Addr->Prop}{H:Hp}:del H (PU P [])=del H P:=by
 funext b;by_cases h:P b
 ·rw[GP h,GP (.inl h)]
 ·rw[AA h,AA λ z=>z.elim h λ w=>by cases w]
theorem Lu {P:Addr->Prop}{fp:List Addr}{K:zb}{H':Hp}{Q:Addr->Prop}{v:V}{t:OT}(hP:∀a,P a->EV H' a)(o:Ew K H' Q v t fp):∀a,PU P fp a->EV H' a:=λ a h=>h.elim (hP a) (o.C6 a)
theorem Me {P:Addr->Prop}{fp:List Addr}{K:zb}{H':Hp}{Q:Addr->Prop}{v:List V}{t:List OT}(hP:∀a,P a->EV H' a)(o:AG K H' Q v t fp):∀a,PU P fp a->EV H' a:=λ a h=>h.elim (hP a) (o.C6 a)
theorem Ae.more {K:zb}{P0:DR}{P P':Addr->Prop}{H H':Hp}{σ:St}{ρ:A8}(E:Ae K P0 P H σ ρ)(e:A9 H H')(hs:∀a,P a->P' a)(ht:∀a,P' a->EV H' a)(sm:A9 (del H P) (del H' P')):Ae K P0 P' H' σ ρ:=by
 have keep:∀(c:Cl) (v:V) (fp:List Addr),Dc K H P c v fp->∀a∈fp,H' a=H a:=λ c v fp o a ha=>by
  obtain⟨xs,q⟩:=o.at a ha;rw[q];exact e _ _ q
 exact⟨λ a h=>hs a (E.sub a h),ht,λ i d h=>let ⟨v,h1,h2⟩:=E.val i d h;⟨v,h1,h2.mono sm⟩,
  λ i c h io=>let ⟨v,fp,h1,h2,h3,h4⟩:=E.ows i c h io;⟨v,fp,h1,h2.move sm (keep c v fp h2),λ a ha=>⟨hs a (h3 a ha).1,(h3 a ha).2⟩,h4⟩,
  λ i j c c' v v' fp aK hi hj si sj h h' ay=>E.Od sm (λ v fp _ o a ha=>keep _ _ _ o a ha) (λ v fp _ o a ha=>keep _ _ _ o a ha) hi hj si sj h h' ay,E.len,E.pin⟩
def Mf (K:zb)(WX:Str->Hp->Prop)(P:Addr->Prop)(H:Hp)(Q:VK):M OT->Prop
 | .ok t=>∀v fp H',A9 H H'->(∀a∈fp,H a=none)->fp.Nodup->Ew K H' (PU P fp) v t fp->Q v H'
 | .ex x=>∀H',A9 H H'->WX x H'
 | .bad=>False
def XI (K:zb)(WX:Str->Hp->Prop)(P:Addr->Prop)(H:Hp)(Q:List V->Hp->Prop):M (List OT)->Prop
 | .ok t=>∀v fp H',A9 H H'->(∀a∈fp,H a=none)->fp.Nodup->AG K H' (PU P fp) v t fp->Q v H'
 | .ex x=>∀H',A9 H H'->WX x H'
 | .bad=>False
theorem EC {H H':Hp}(s:A9 H H'){a:Addr}(h:H' a=none):H a=none:=by
 cases q:H a with
 |none=>rfl
 |some o=>rw[s a o q] at h;cases h
section
variable {K:zb}{WX:Str->Hp->Prop}{P:Addr->Prop}{H H':Hp}
theorem Mf.same {Q:VK}{m:M OT}(h:Mf K WX P H Q m)(e:A9 H H'):Mf K WX P H' Q m:=by
 cases m with
 |ok d=>exact λ v fp H2 q hn nd o=>h v fp H2 (e.trans q) (λ a ha=>EC e (hn a ha)) nd o
 |ex x=>exact λ H2 q=>h H2 (e.trans q)
 |bad=>exact h
end
def DN (X:Cx)(WX:Str->Hp->Prop)(e:Expr)(f:A8->M OT):Prop:=
 ∃t,PE X e t/\∀P0 P σ H Q ρ,Ae X.K P0 P H σ ρ->Mf X.K WX P H Q (f ρ)->t σ H Q
def Vm (X:Cx)(WX:Str->Hp->Prop)(es:List Expr)(f:A8->M (List OT)):Prop:=
 ∃t,PA X es t/\(∀P0 P σ H Q ρ,Ae X.K P0 P H σ ρ->XI X.K WX P H Q (f ρ)->t σ H Q)/\∀ρ ts,f ρ=.ok ts->ts.length=es.length
noncomputable def Xj (d:D):M OT:=.ok (.sh d)
noncomputable def W4 (t:OT):M D:=.ok (er t)
section
variable {X:Cx}{WX:Str->Hp->Prop}{c:Bool}{P0:DR}{P:Addr->Prop}{H:Hp}{σ:St}{ρ:A8}{a b e:Expr}{f g:A8->M D}{fn:A8->M OT}{pos:Pos}{es:List Expr}
theorem Ao (h:DE X WX true e f):DN X WX e (λ ρ=>(f ρ).bind Xj):=by
 obtain⟨t,h1,h2⟩:=h;refine⟨t,h1,λ P0 P σ H Q ρ E g=>h2 P0 P σ H Q ρ E ?_⟩;dsimp only at g;cases q:f ρ with
 |bad|ex x=>rw[q] at g;exact g
 |ok d=>rw[q] at g;exact λ v H' s hv=>g v [] H' s (λ a ha=>by cases ha) List.nodup_nil (.sh (by rw[Ls];exact hv))
theorem Ai (h:DN X WX e fn):DE X WX c e (λ ρ=>(fn ρ).bind W4):=by
 suffices z:DE X WX true e (λ ρ=>(fn ρ).bind W4) by
  cases c with
  |true=>exact z
  |false=>exact Ll z
 obtain⟨t,h1,h2⟩:=h;refine⟨t,h1,λ P0 P σ H Q ρ E g=>h2 P0 P σ H Q ρ E ?_⟩;dsimp only at g;cases q:fn ρ with
 |bad|ex x=>rw[q] at g;exact g
 |ok d =>
  rw[q] at g;exact λ v fp H' s hn nd o=>g v H' s (o.has Jn λ a ha z=>(E.C6 a z).no (hn a ha))
theorem Jo:Vm X WX [] (λ _=>.ok []):=⟨_,CT,λ P0 P σ H Q ρ E h=>h [] [] H (A9.refl H) (λ a ha=>by cases ha) List.nodup_nil .nil,λ ρ ds h=>by cases h;rfl⟩
theorem Ha {es:List Expr}{fs:A8->M (List OT)}(he:DN X WX e fn)(hr:Vm X WX es fs)(hs:starEach (e::es) X.env=(false,eval e X.env)::starEach es X.env:=by rfl):
 Vm X WX (e::es) (λ ρ=>(fn ρ).bind λ d=>(fs ρ).bind λ ds=>.ok (d::ds)):=by
 obtain⟨te,e1,e2⟩:=he;obtain⟨tr,r1,r2,r3⟩:=hr;refine⟨_,Ba e1 r1 hs,λ P0 P σ H Q ρ E h=>?_,λ ρ ds h=>?_⟩
 rotate_left
 ·dsimp only at h;cases q:fn ρ with
  |bad|ex x=>rw[q] at h;cases h
  |ok x =>
   rw[q] at h;cases q2:fs ρ with
   |bad|ex x=>rw[q2] at h;cases h
   |ok xs =>
    rw[q2] at h;cases h;rw[zi,zi,r3 ρ xs q2]
 dsimp only at h;refine e2 P0 P σ H _ ρ E ?_;cases q:fn ρ with
 |bad|ex x=>rw[q] at h;exact h
 |ok x =>
  rw[q] at h;intro v fp H1 s1 n1 ez o1;have E1:Ae X.K P0 (PU P fp) H1 σ ρ:=E.more s1 Jn (Lu (E.same s1).C6 o1) (Fz s1 n1);refine r2 P0 (PU P fp) σ H1 _ ρ E1 ?_;cases q2:fs ρ with
  |bad=>rw[q2] at h;exact h
  |ex y=>rw[q2] at h;exact λ H' s=>h H' (s1.trans s)
  |ok ds =>
   rw[q2] at h;intro vs fq H2 s2 n2 iJ o2;have dj:∀a∈fp,a∉fq:=λ a ha hb=>(o1.C6 a ha).no (n2 a hb);have eP:PU (PU P fp) fq=PU P (fp++fq):=by
    funext a;simp only[PU,zy,or_assoc]
   have sm:A9 (del H1 (PU P fp)) (del H2 (PU P (fp++fq))):=by rw[<-eP];exact Fz s2 n2
   refine h _ (fp++fq) H2 (s1.trans s2) (λ a ha=>?_) (List.nodup_append.mpr ⟨ez,iJ,λ a ha b hb z=>dj a ha (by rw[z];exact hb)⟩) (.cons (o1.move sm λ a ha=>?_) (by rw[<-eP];exact o2))
   ·rcases zy.mp ha with ha|ha
    ·exact n1 a ha
    ·exact EC s1 (n2 a ha)
   ·obtain⟨o,z,_⟩:=o1.C6 a ha;rw[z];exact s2 _ _ z
theorem TC {P:Addr->Prop}{fp:List Addr}{p:Addr}{H:Hp}{o:HO}(hn:H p=none)(hP:∀a,PU P fp a->EV H a):A9 (del H (PU P fp)) (del (upd H p o) (PU P (p::fp))):=λ b u e=>by
 obtain⟨h1,h2⟩:=Ay e;have hb:b≠p:=Ap h2 hn;rw[AA λ z=>z.elim (λ z=>h1 (.inl z)) λ w=>(zp.mp w).elim hb λ w=>h1 (.inr w),An hb];exact h2
theorem OO {fs:A8->M (List OT)}(ha:Vm X WX es fs)(hz:es.length<=1000:=by decide):DN X WX (.List es pos) (λ ρ=>(fs ρ).bind λ ts=>.ok (.lst ts)):=by
 obtain⟨ta,a1,a2,a3⟩:=ha;refine⟨_,O2 a1,λ P0 P σ H Q ρ E h=>?_⟩;dsimp only at h;refine a2 P0 P σ H _ ρ E ?_;cases q:fs ρ with
 |bad|ex y=>rw[q] at h;exact h
 |ok ts =>
  rw[q] at h;simp only[M.Aa] at h;intro vs fp H1 s1 n1 ez o1;have hP:=Me (E.same s1).C6 o1;refine⟨yt (B0 (by rw[o1.len,a3 ρ ts q];exact hz)),λ p hp=>?_⟩;have ay:∀a∈fp,a≠p:=λ a ha z=>(o1.C6 a ha).no (by rw[z];exact hp);exact h _ (p::fp) _ (s1.trans (B6 hp _)) (λ a ha=>(zp.mp ha).elim (λ z=>by rw[z];exact EC s1 hp) (n1 a)) (List.nodup_cons.mpr ⟨λ z=>ay p z rfl,ez⟩) (.lst Bi (o1.move (TC hp hP) λ a ha=>An (ay a ha)))
theorem Rm {P:Addr->Prop}{fp:List Addr}{p:Addr}{H:Hp}{o:HO}(hn:H p=none)(hP:∀a,PU P fp a->EV H a):A9 (del H (PU P fp)) (del (upd H p o) (PU P fp)):=λ b u e=>by
 obtain⟨h1,h2⟩:=Ay e;have hb:b≠p:=Ap h2 hn;rw[AA h1,An hb];exact h2
theorem TF {fs:A8->M (List OT)}{x1}(ha:Vm X WX es fs)(hz:es.length<=1000:=by decide):DN X WX (.Tuple es x1 pos) (λ ρ=>(fs ρ).bind λ ts=>.ok (.tup ts)):=by
 obtain⟨ta,a1,a2,a3⟩:=ha;refine⟨_,O1 a1,λ P0 P σ H Q ρ E h=>?_⟩;dsimp only at h;refine a2 P0 P σ H _ ρ E ?_;cases q:fs ρ with
 |bad|ex y=>rw[q] at h;exact h
 |ok ts =>
  rw[q] at h;simp only[M.Aa] at h;intro vs fp H1 s1 n1 ez o1;have hP:=Me (E.same s1).C6 o1;refine⟨yt (B0 (by rw[o1.len,a3 ρ ts q];exact hz)),λ p hp=>?_⟩;have ay:∀a∈fp,a≠p:=λ a ha z=>(o1.C6 a ha).no (by rw[z];exact hp);refine h _ fp _ (s1.trans (B6 hp _)) n1 ez (.tup ?_ (o1.move (Rm hp hP) λ a ha=>An (ay a ha)));rw[AA λ z=>(hP p z).no hp];exact Bi
theorem Af.ows {K:zb}{H:Hp}{P:Addr->Prop}:∀ {xs:List V}{ds:List D},Af K (del H P) xs ds->AG K H P xs (ds.map .sh) []
 |_,_,.nil=>.nil
 |_,_,.cons h t=>.cons (.sh h) t.ows
theorem Mf.Ko {K:zb}{WX:Str->Hp->Prop}{P:Addr->Prop}{H H1:Hp}{Q:VK}{xs:List V}{ds:List D}(h:Mf K WX P H Q (.ok (.lst (ds.map .sh))))(s1:A9 H H1)(hx:Af K (del H1 P) xs ds):∀p,H1 p=none->Q (.ref p) (upd H1 p (.lst xs)):=λ p hp=>by
 have hn:∀a∈[p],H1 a=none:=λ a ha=>by rw[zB.mp ha];exact hp
 exact h _ [p] _ (s1.trans (B6 hp _)) (λ a ha=>EC s1 (hn a ha)) (by simp) (.lst Bi (hx.mono (Fz (B6 hp _) hn)).ows)
theorem AG.Xk {K:zb}{H:Hp}{P:Addr->Prop}:∀ {xs:List V}{ds:List D}{fp:List Addr},AG K H P xs (ds.map .sh) fp->fp=[]/\Af K (del H P) xs ds
 |_,[],_,.nil=>⟨rfl,.nil⟩
 |_,d::ds,_,.cons (.sh h) r=>by
  obtain⟨rfl,q⟩:=AG.Xk r;exact⟨rfl,.cons h q⟩
noncomputable def FA:Cl->Cl
 | .val d=>.val d
 | .own ds=>.val (.lst ds)
 | .ow (.rows E9)=>.val (.lst (E9.map D.lst))
 | .ow (.Gg _ ds)=>.val (.lst ds)
 | .ow (.tree _ t)=>.val (er t)
noncomputable def G2 (ρ:A8):A8:=ρ.map λ o=>o.map FA
@[simp] theorem OP:G2 []=[]:=rfl
@[simp] theorem MZ (ρ:A8):G2 (none::ρ)=none::G2 ρ:=rfl
@[simp] theorem N0 (c:Cl) (ρ:A8):G2 (some c::ρ)=some (FA c)::G2 ρ:=rfl
theorem Ae.low {K:zb}{P0:DR}{P:Addr->Prop}{H:Hp}{σ:St}{ρ:A8}(E:Ae K P0 P H σ ρ):Ae K P0 P0 H σ (G2 ρ):=by
 have key:∀(i:Nat) (c:Cl),(G2 ρ)[i]?=some (some c)->∃c',ρ[i]?=some (some c')/\c=FA c':=λ i c h=>by
  unfold G2 at h;rw[zR] at h;cases q:ρ[i]? with
  |none=>rw[q] at h;cases h
  |some o =>
   rw[q] at h;cases o with
   |none=>cases h
   |some c'=>cases h;exact⟨c',rfl,rfl⟩
 have fL:∀c,Kc (FA c)=false:=λ c=>by
  cases c with
  |val d|own ds=>rfl
  |ow o=>cases o<;>rfl
 have e6:∀c,Ma (FA c)=none:=λ c=>by
  cases c with
  |val d|own ds=>rfl
  |ow o=>cases o<;>rfl
 have iK:∀c v fp,¬ Dc K H P0 (FA c) v fp:=λ c v fp h=>by
  cases c with
  |val d|own ds=>exact h
  |ow o=>cases o<;>exact h
 refine⟨λ _ h=>h,λ a h=>E.C6 a (E.sub a h),λ i d h=>?_,λ i c h io=>?_,λ i j c c' v v' fp aK hi hj si sj h h' ay=>?_,by unfold G2;rw[zo];exact E.len,λ i c n h hp=>by obtain⟨c',h1,rfl⟩:=key i _ h;rw[e6] at hp;cases hp⟩
 ·obtain⟨c,h1,h2⟩:=key i _ h;cases c with
  |val d' =>
   cases h2;obtain⟨v,q1,q2⟩:=E.val i d h1;exact⟨v,q1,q2.mono (Bc E.sub)⟩
  |own ds =>
   cases h2;obtain⟨p,xs,q1,q2,q3,q4,q5⟩:=E.own i ds h1;exact⟨_,q1,.lst (.of (show del H P0 p=_ by rw[AA q4];exact q2)) (q5.mono (Bc E.sub))⟩
  |ow o =>
   obtain⟨v,fp,q1,q2,q3,q4⟩:=E.ows i _ h1 rfl;cases o with
   |rows E9 =>
    cases h2;obtain⟨p,ps,rfl,rfl,q5,q6⟩:=q2;exact⟨_,q1,.lst (.of (show del H P0 p=_ by rw[AA (q3 p zf).2];exact q5)) (q6.Ts E.sub λ a ha=>(q3 a (zg _ ha)).2)⟩
   |Gg p ds =>
    cases h2;obtain⟨p,xs,rfl,rfl,q5,q6⟩:=q2;exact⟨_,q1,.lst (.of (show del H P0 p=_ by rw[AA (q3 p zf).2];exact q5)) (q6.mono (Bc E.sub))⟩
   |tree p t =>
    cases h2;exact⟨_,q1,Ew.has E.sub (λ a ha=>(q3 a ha).2) q2⟩
 ·obtain⟨c',h1,rfl⟩:=key i _ h;rw[fL] at io;cases io
 ·obtain⟨c1,h1,rfl⟩:=key i _ hi;exact (iK _ _ _ h).elim
theorem TH {ft:A8->M Bool}(h:DT X WX e ft):DT X WX e (λ ρ=>ft (G2 ρ)):=by
 obtain⟨t,h1,h2⟩:=h;exact⟨t,h1,λ P0 P σ H Q ρ E g=>h2 P0 P0 σ H Q (G2 ρ) E.low g⟩
mutual
noncomputable def Vn:OT->Bool
 | .sh d=>Vj d
 | .lst ts| .tup ts| .C7 _ _ ts| .ins _ _ ts=>Kq ts
noncomputable def Kq:List OT->Bool
 |[]=>true
 |t::r=>Vn t&&Kq r
end
noncomputable def XJ (m:M OT):M OT:=m.bind λ t=>if Vn t=true then .ok t else .bad
noncomputable def Ko (d:D):M OT:=match d with
 | .lst ds| .tup ds=>.ok (.lst (ds.map .sh))
 |_=>.bad
def Xl (K:zb)(WX:Str->Hp->Prop)(r:R2)(bg:D->D->M OT):Prop:=
 ∀(P:Addr->Prop) (H:Hp) (x y:D) (v w:V) (Q:VK),(∀a,P a->EV H a)->Bo K (del H P) v x->Bo K (del H P) w y->Mf K WX P H Q (bg x y)->r v w H Q
theorem Vo {ta tb:TE}{r:R2}{bg:D->D->M OT}(ha:∀P0 P σ H Q ρ,Ae X.K P0 P H σ ρ->gV X.K WX (Lv true P0 P) H Q (f ρ)->ta σ H Q)(hb:∀P0 P σ H Q ρ,Ae X.K P0 P H σ ρ->gV X.K WX (Lv true P0 P) H Q (g ρ)->tb σ H Q)
 (hr:Xl X.K WX r bg) {Q:VK} (E:Ae X.K P0 P H σ ρ) (h:Mf X.K WX P H Q ((f ρ).bind λ x=>(g ρ).bind λ y=>bg x y)):SX r ta tb σ H Q:=by
 refine ha P0 P σ H _ ρ E ?_;cases e:f ρ with
 |bad|ex x=>rw[e] at h;exact h
 |ok x =>
  rw[e] at h;intro v H1 s1 hv;refine hb P0 P σ H1 _ ρ (E.same s1) ?_;cases e2:g ρ with
  |bad=>rw[e2] at h;exact h
  |ex y=>rw[e2] at h;exact λ H' s=>h H' (s1.trans s)
  |ok y =>
   rw[e2] at h;intro w H2 s2 hw;exact hr _ H2 x y v w Q ((E.same s1).same s2).C6 (hv.mono s2.del) hw ((h.same s1).same s2)
noncomputable def Mg (x y:D):M OT:=match x,y with
 | .lst a,.lst b=>if a.length+b.length<=1000 then .ok (.lst ((a++b).map .sh)) else .bad
 |_,_=>.bad
end
noncomputable def spT (K:zb)(n:Nat)(F:List D->M OT):Sp:=λ vs H Q E=>vs.length=n/\∃P ds,(∀a,P a->EV H a)/\Af K (del H P) vs ds/\Mf K (G1 K E) P H Q (F ds)
noncomputable def Vp:Cl->M OT
 | .val d=>.ok (.sh d)
 | .own ds=>.ok (.lst (ds.map .sh))
 | .ow (.rows E9)=>.ok (.lst (E9.map λ ds=>.lst (ds.map .sh)))
 | .ow (.Gg _ _)=>.bad
 | .ow (.tree none t)=>.ok t
 | .ow (.tree (some _) _)=>.bad
noncomputable def OQ (m:M Out):M OT:=match m with
 | .ok (.ret d)=>.ok (.sh d)
 | .ok (.BJ c)=>Vp c
 | .ok (.next _)=>.ok (.sh .Ar)
 | .ex x=>.ex x
 |_=>.bad
theorem Ck.ows {K:zb}{H:Hp}{P:Addr->Prop}:∀ {ps:List Addr}{E9:List (List D)},Ck K H P ps E9->AG K H P (ps.map V.ref) (E9.map λ ds=>.lst (ds.map .sh)) ps
 |_,_,.nil=>.nil
 |_,_,.cons h r t=>.cons (.lst h r.ows) t.ows
theorem Dc.tree {K:zb}{H:Hp}{P:Addr->Prop}{c:Cl}{v:V}{fp:List Addr}{t:OT}(h:Dc K H P c v fp)(e:Vp c=.ok t):Ew K H P v t fp:=by
 cases c with
 |val d=>exact h.elim
 |own ds =>
  cases e;obtain⟨p,xs,rfl,rfl,h1,h2⟩:=h;exact .lst h1 h2.ows
 |ow o =>
  cases o with
  |rows E9 =>
   cases e;obtain⟨p,ps,rfl,rfl,h1,h2⟩:=h;exact .lst h1 h2.ows
  |Gg p ds=>cases e
  |tree p t' =>
   cases p with
   |none=>cases e;exact h
   |some q=>cases e
section
variable {P:Program}{w:World}{K:zb}{mg:Str->Option Value}{base:Heap}
theorem Ro {WX:Str->Hp->Prop}{P P2:Addr->Prop}{H H':Hp}{Q:VK}{c:Cl}{v:V}{fp:List Addr}(h:Mf K WX P H Q (Vp c))(t:Tr P P H P2 H')(hs:∀a,P a->P2 a)(ho:Dc K H' P2 c v fp)(hp:∀a∈fp,P2 a/\¬ P a)(nd:fp.Nodup):Q v H':=by
 cases q:Vp c with
 |bad=>rw[q] at h;exact h.elim
 |ex x=>cases c with
  |val d|own ds=>cases q
  |ow o =>
   cases o with
   |rows E9|Gg p ds=>cases q
   |tree p t'=>cases p<;>cases q
 |ok u =>
  rw[q] at h;have o:=ho.tree q;refine h v fp H' (C9 t) (λ a ha=>TB t (hp a ha).1 (hp a ha).2) nd (o.move (Bc λ a ha=>ha.elim (hs a) λ z=>(hp a z).1) λ _ _=>rfl)
theorem WK {x qual:Str}{st:Stmt}{f:Addr}{fd:FuncData}{N ps:List Str}{k:Nat}(F:O6 K x qual st f fd)(S:Am N ps (A5 st))(g:A8->M Out)
 (hb:∀(Bx:Value) (A:Around) (outer:List Env) (s:Shared) (H:Hp) (E:XK),C0 k (A.deeper (envOfC qual (A5 st) s.heap.objs.size f Bx))->Oo (Fw P w K mg base N qual (A5 st) f Bx A outer s H E) (G1 K E) (AL st) g):
 EU P w K mg base (Qg P w base) (k+1) f fd ps (spT K ps.length λ ds=>OQ (g (AH N ds))):=by
 obtain⟨oc,od,kV,doc,pm,an,Bx,ct,QF,rfl,lk,bJ⟩:=F.ex;refine Si lk bJ S (λ vs H Q E h=>h.1) λ A outer s H vs Q E hr h=>?_;obtain⟨hl,P',ds,ht,hv,hq⟩:=h;obtain⟨t,h1,h2⟩:=hb Bx A outer s H E hr;refine⟨t,h1,h2 ⟨P',λ _=>0⟩ P' _ H _ _ (Iy ht hv) ?_⟩;dsimp only at hq;revert hq;cases g (AH N ds) with
 |bad=>exact λ h=>h.elim
 |ex x=>exact λ h H' P2 t=>h H' (C9 t)
 |ok o =>
  cases o with
  |ret d=>exact λ h v H' P2 t hv=>h v [] H' (C9 t) (λ a ha=>by cases ha) List.nodup_nil (.sh (by rw[Ls];exact hv))
  |next ρ=>exact λ h σ' H' P2 t E=>h .Ar [] H' (C9 t) (λ a ha=>by cases ha) List.nodup_nil (.sh .Ar)
  |brk ρ|cont ρ=>exact λ h=>h.elim
  |BJ c=>exact λ h v fp H' P2 t hs ht ho hp nd=>Ro h t hs ho hp nd
  |EY d ρ=>exact λ h=>h.elim
end
structure CJ (P:Program)(w:World)(K:zb)(mg:Str->Option Value)(base:Heap)(x:Str)(k n:Nat)(F:List D->M OT):Prop where
 ex:∃fa fd ps,EU P w K mg base (Qg P w base) k fa fd ps (spT K n F)/\mg x=some (.ref fa)/\zY K (.ref fa)=true/\Binds K fd ps []
theorem AO {P:Program}{w:World}{K:zb}{mg:Str->Option Value}{base:Heap}{x:Str}{st:Stmt}{N ps:List Str}{k n:Nat}(T:AZ K mg x st ps)(S:Am N ps (A5 st))(g:A8->M Out)
 (hb:∀(f:Addr) (Bx:Value) (A:Around) (outer:List Env) (s:Shared) (H:Hp) (E:XK),C0 k (A.deeper (envOfC x (A5 st) s.heap.objs.size f Bx))->Oo (Fw P w K mg base N x (A5 st) f Bx A outer s H E) (G1 K E) (AL st) g) (hn:ps.length=n:=by rfl):
 CJ P w K mg base x (k+1) n (λ ds=>OQ (g (AH N ds))):=by
 obtain⟨f,fd,F,hm,hB⟩:=T.ex;subst hn;exact⟨⟨f,fd,ps,WK F S g (hb f),hm,F.kp,hB⟩⟩
section
variable {X:Cx}{E:XK}{WX:Str->Hp->Prop}{c:Bool}{e:Expr}{es:List Expr}{fs:A8->M (List D)}{f:A8->M D}{fn:A8->M OT}{ft:A8->M Bool}{pos:Pos}
theorem Ac {k n:Nat}{F:List D->M OT}{x:Str}{p:Pos}(xo:XCall X E)(G:CJ X.prog X.w X.K X.mg X.base x k n F)(hr:C0 k X.A)(hg:Gl X x)(ha:DA X (G1 X.K E) true (e::es) fs)(hn:(e::es).length=n)
 (bz:(x==("__debug__" : Str))=false:=by decide) (he:starEach (e::es) X.env=(false,eval e X.env)::starEach es X.env:=by rfl) (aT:(backTo pos (starEach es X.env)).any (·.1)=false:=by rfl):
 DN X (G1 X.K E) (.Call (.Name x p) (e::es) [] pos) (λ ρ=>(fs ρ).bind F):=by
 obtain⟨fa,fd,ps,hF,hm,hk,hb⟩:=G.ex;obtain⟨ta,a1,a2,a3⟩:=ha;refine⟨_,QE hF hr hg hm hk hb .nil xo.call a1 bz he aT,λ P0 P σ H Q ρ E h=>?_⟩;dsimp only at h;refine a2 P0 P σ H _ ρ E ?_;cases q:fs ρ with
 |bad|ex x=>rw[q] at h;exact h
 |ok ds =>
  rw[q] at h;simp only[M.Aa] at h;intro vs H1 s1 bG;rw[List.append_nil];exact⟨by rw[bG.length,a3 ρ ds q];exact hn,P,ds,(E.same s1).C6,bG,h.same s1⟩
theorem Cq (h:DN X WX e fn):DN X (λ _ _=>False) e fn:=by
 obtain⟨t,h1,h2⟩:=h;refine⟨t,h1,λ P0 P σ H Q ρ E g=>h2 P0 P σ H Q ρ E ?_⟩;cases q:fn ρ with
 |bad=>rw[q] at g;exact g
 |ex x=>rw[q] at g;exact (g H (A9.refl H)).elim
 |ok t=>rw[q] at g;exact g
noncomputable def OR (t:OT):M Out:=match t with
 | .sh d=>.ok (.ret d)
 |t=>.ok (.BJ (.ow (.tree none t)))
end
section
variable {X:Cx}{WX:Str->Hp->Prop}{c:Bool}{P0:DR}{P:Addr->Prop}{H:Hp}{σ:St}{ρ:A8}{a b e:Expr}{f g:A8->M D}{fn:A8->M OT}{pos:Pos}
theorem Ae.Xm {K:zb}{H':Hp}{fp:List Addr}(E:Ae K P0 P H σ ρ)(s:A9 H H')(hn:∀a∈fp,H a=none):Tr P0 P H (PU P fp) H':=
 ⟨Fz s hn,λ a ha=>by obtain⟨o,q,_⟩:=E.C6 a (E.sub a ha);rw[q];exact s _ _ q⟩
theorem Ab (ha:DN X WX e fn):DS X WX (.Return (some e) pos) (λ ρ=>(fn ρ).bind OR):=by
 obtain⟨ta,a1,a2⟩:=ha;refine⟨_,Lg a1,λ P0 P σ H Z ρ E h=>?_⟩;dsimp only at h;refine a2 P0 P σ H _ ρ E ?_;cases q:fn ρ with
 |bad=>rw[q] at h;exact h
 |ex x=>rw[q] at h;exact λ H' s=>h H' P (E.tr s)
 |ok t =>
  rw[q] at h;simp only[M.Aa] at h;intro v fp H' s hn nd o;have key:gS X.K WX P0 P H Z (.ok (.BJ (.ow (.tree none t))))->Z.rt v H':=λ h =>
   h v fp H' (PU P fp) (E.Xm s hn) (λ a ha=>.inl (E.sub a ha)) (Lu (E.same s).C6 o) o (λ a ha=>⟨.inr ha,λ z=>(E.C6 a (E.sub a z)).no (hn a ha)⟩) nd
  cases t with
  |sh d =>
   cases o with
   |sh hv=>exact h v H' P (E.tr s) (hv.mono (Bc λ a ha=>.inl (E.sub a ha)))
  |lst ts|tup ts|C7 b ks ts|ins x ns ts=>exact key h
noncomputable def DK:List OT->Option (List D)
 |[]=>some []
 | .sh d::r=>(DK r).map (d::·)
 |_::_=>none
theorem Br:∀ds:List D,DK (ds.map .sh)=some ds
 |[]=>rfl
 |d::r=>by rw[zx,DK,Br r];rfl
theorem Hb:∀ {ts:List OT}{ds:List D},DK ts=some ds->ts=ds.map .sh
 |[],ds,h=>by cases h;rfl
 | .sh d::r,ds,h=>by
  rw[DK] at h;cases q:DK r with
  |none=>rw[q] at h;cases h
  |some es=>rw[q] at h;cases h;rw[zx,<-Hb q]
 | .lst _::r,ds,h| .tup _::r,ds,h| .C7 _ _ _::r,ds,h| .ins _ _ _::r,ds,h=>by cases h
noncomputable def toCl (p:Option Nat)(t:OT):Cl:=match t with
 | .lst ts=>(match DK ts with
  |some ds=>(match p with|none=>.own ds|some q=>.ow (.Gg q ds))
  |none=>.ow (.tree p (.lst ts)))
 |t=>.ow (.tree p t)
@[simp] theorem toCl_list (ds:List D):toCl none (.lst (ds.map .sh))=.own ds:=by unfold toCl;simp only[Br]
@[simp] theorem toCl_listP (q:Nat) (ds:List D):toCl (some q) (.lst (ds.map .sh))=.ow (.Gg q ds):=by unfold toCl;simp only[Br]
@[simp] theorem toCl_dct (p:Option Nat) (b:Bool) (ks:List D) (ts:List OT):toCl p (.C7 b ks ts)=.ow (.tree p (.C7 b ks ts)):=rfl
noncomputable def treeOf:Cl->Option (Option Nat×OT)
 | .own ds=>some (none,.lst (ds.map .sh))
 | .ow (.Gg p ds)=>some (some p,.lst (ds.map .sh))
 | .ow (.rows E9)=>some (none,.lst (E9.map λ ds=>.lst (ds.map .sh)))
 | .ow (.tree p t)=>some (p,t)
 | .val _=>none
theorem Dc.toT {K:zb}{H:Hp}{P:Addr->Prop}{c:Cl}{v:V}{fp:List Addr}{p:Option Nat}{t:OT}(h:Dc K H P c v fp)(e:treeOf c=some (p,t)):Ew K H P v t fp:=by
 cases c with
 |val d=>exact h.elim
 |own ds =>
  cases e;obtain⟨p,xs,rfl,rfl,h1,h2⟩:=h;exact .lst h1 h2.ows
 |ow o =>
  cases o with
  |rows E9 =>
   cases e;obtain⟨p,ps,rfl,rfl,h1,h2⟩:=h;exact .lst h1 h2.ows
  |Gg p ds =>
   cases e;obtain⟨p,xs,rfl,rfl,h1,h2⟩:=h;exact .lst h1 h2.ows
  |tree p t'=>cases e;exact h
theorem Dc.toCl {K:zb}{H:Hp}{P:Addr->Prop}{v:V}{fp:List Addr}{p:Option Nat}{t:OT}(h:Ew K H P v t fp):Dc K H P (toCl p t) v fp:=by
 unfold L2.toCl;split
 ·rename_i ts;cases q:DK ts with
  |none=>exact h
  |some ds =>
   have e:=Hb q;subst e;cases h with
   |lst h1 h2 =>
    obtain⟨rfl,h3⟩:=h2.Xk;cases p with
    |none|some q=>exact⟨_,_,rfl,rfl,h1,h3⟩
 ·exact h
theorem Lw (p:Option Nat)(t:OT):Ma (toCl p t)=p:=by
 unfold toCl;split
 ·rename_i ts;cases q:DK ts with
  |none|some ds=>cases p<;>rfl
 ·cases p<;>rfl
noncomputable def Lx (i:Nat)(ρ:A8)(t:OT):M Out:=match t with
 | .sh d=>.ok (.next (ρ.set i (some (.val d))))
 |t=>.ok (.next (ρ.set i (some (toCl none t))))
theorem Vq {K:zb}{i:Nat}{t:OT}{v:V}{fp:List Addr}{H':Hp}{Z:Ends}(E:Ae K P0 P H σ ρ)(s:A9 H H')(hn:∀a∈fp,H a=none)(nd:fp.Nodup)(o:Ew K H' (PU P fp) v t fp)(h:gS K WX P0 P H Z (Lx i ρ t)):Z.nx (σ.set i (some v)) H':=by
 have key:gS K WX P0 P H Z (.ok (.next (ρ.set i (some (toCl none t)))))->Z.nx (σ.set i (some v)) H':=λ h=>by
  refine h _ H' (PU P fp) (E.Xm s hn) (E.Vf Jn (Lu (E.same s).C6 o) (Fz s hn) (λ j c' v' aK ay g1 g2 g3 a ha=>?_) (Dc.toCl o) (λ a ha=>⟨.inr ha,λ z=>(E.C6 a (E.sub a z)).no (hn a ha)⟩) nd (λ n z=>by rw[Lw] at z;cases z));obtain⟨xs,z⟩:=g3.at a ha;exact⟨by rw[z];exact s _ _ z,λ w=>by rw[hn a w] at z;cases z⟩
 cases t with
 |sh d =>
  cases o with
  |sh hv=>exact h _ H' P (E.tr s) ((E.same s).Kg (by rw[Ls] at hv;exact hv))
 |lst ts|tup ts|C7 b ks ts|ins x ns ts=>exact key h
theorem Jp (i:Nat){x:Str}{pos':Pos}(hN:X.N.Nodup)(hi:X.N[i]?=some x)(hx:Loc X.env.scope x)(ha:DN X WX e fn)(hs:swapsWith e (some (.Name x pos')) pos.line X.env=pure false:=by rfl)(hf:X.fn x=true\/X.env.scope.names.lookup x=some .local:=by first | exact .inl rfl | exact .inr rfl | assumption):
 DS X WX (.Assign [.Name x pos'] e pos) (λ ρ=>(fn ρ).bind (Lx i ρ)):=by
 obtain⟨ta,a1,a2⟩:=ha;refine⟨_,NO hN hi hx a1 hs hf,λ P0 P σ H Z ρ E h=>?_⟩;dsimp only at h;refine a2 P0 P σ H _ ρ E ?_;cases q:fn ρ with
 |bad=>rw[q] at h;exact h
 |ex x=>rw[q] at h;exact λ H' s=>h H' P (E.tr s)
 |ok t =>
  rw[q] at h;exact λ v fp H' s hn nd o=>Vq E s hn nd o h
noncomputable def Ly (i:Nat)(ρ:A8):M Out:=match ρ[i]? with
 |some (some (.val d))=>.ok (.ret d)
 |some (some c)=>.ok (.BJ c)
 |_=>.bad
theorem Rp (i:Nat){x:Str}{p1:Pos}(hv:PE X (.Name x p1) (NJ i)):DS X WX (.Return (some (.Name x p1)) pos) (Ly i):=by
 refine⟨_,Lg hv,λ P0 P σ H Z ρ E h=>?_⟩;unfold Ly at h;split at h
 ·rename_i d e1;obtain⟨v,h1,h2⟩:=E.val i d e1;exact⟨v,h1,h v H P Tr.refl (h2.mono (Bc E.sub))⟩
 ·rename_i c hc e1;have io:Kc c=true:=by
   cases c with
   |val d=>exact (hc d rfl).elim
   |own ds|ow o=>rfl
  obtain⟨v,fp,h1,h2,h3,h4⟩:=E.ows i _ e1 io;exact⟨v,h1,h v fp H P Tr.refl E.sub E.C6 h2 h3 h4⟩
 ·exact h.elim
theorem G3:∀ds:List D,Gu (ds.map .sh)=ds
 |[]=>rfl
 |d::r=>by rw[zx,Gu,er,G3 r]
theorem N1 {c:Cl}{p:Option Nat}{t:OT}(e:treeOf c=some (p,t)):FA c=.val (er t):=by
 cases c with
 |val d=>cases e
 |own ds=>cases e;rw[er,G3];rfl
 |ow o =>
  cases o with
  |rows E9 =>
   cases e;rw[er,M9,List.map_map];have:(er ∘ λ ds:List D=>OT.lst (ds.map .sh))=D.lst:=by funext ds;rw[Function.comp,er,G3]
   rw[this];rfl
  |Gg p ds=>cases e;rw[er,G3];rfl
  |tree p t'=>cases e;rfl
theorem Lz {c:Cl}(h:Kc c=true):∃p t,treeOf c=some (p,t):=by
 cases c with
 |val d=>cases h
 |own ds=>exact⟨_,_,rfl⟩
 |ow o=>cases o<;>exact⟨_,_,rfl⟩
noncomputable def Kr (i:Nat)(ρ:A8):A8:=match ρ[i]? with
 |some (some c)=>ρ.set i (some (FA c))
 |_=>ρ
theorem Ae.M2 {K:zb}(E:Ae K P0 P H σ ρ)(i:Nat):∃P',(∀a,P' a->P a)/\Ae K P0 P' H σ (Kr i ρ):=by
 unfold Kr;split
 ·rename_i c e1;cases io:Kc c with
  |false =>
   cases c with
   |val d =>
    refine⟨P,λ _ h=>h,?_⟩;have:ρ.set i (some (FA (.val d)))=ρ:=Lm e1;rw[this];exact E
   |own ds|ow o=>cases io
  |true =>
   obtain⟨p,t,ht⟩:=Lz io;obtain⟨v,fp,h1,h2,h3,h4⟩:=E.ows i c e1 io;rw[N1 ht];have o:=h2.toT ht;let P':Addr->Prop:=λ a=>P a/\a∉fp;have du:∀a,P' a->P a:=λ a h=>h.1;have sm:A9 (del H P) (del H P'):=Bc du;have dj:∀(j:Nat) c' v' aK,i≠j->ρ[j]?=some (some c')->σ[j]?=some (some v')->Dc K H P c' v' aK->∀a∈aK,a∉fp:=λ j c' v' aK ay g1 g2 g3=>E.apart j i c' c v' v aK fp g1 e1 g2 h1 g3 h2 (Ne.symm ay);have old:∀(j:Nat) (c':Cl) (v':V) (fq:List Addr),ρ[j]?=some (some c')->σ[j]?=some (some v')->Dc K H P' c' v' fq->Dc K H P c' v' fq:=λ j c' v' fq g1 g2 g3=>by
    have eX:Kc c'=true:=by cases c'<;>first|rfl|exact g3.elim
    obtain⟨w,fr,k1,k2,k3,k4⟩:=E.ows j c' g1 eX;rw[g2] at k1;cases k1;rw[g3.EW (k2.move sm λ _ _=>rfl)];exact k2
   refine⟨P',du,⟨λ a h=>⟨E.sub a h,λ z=>(h3 a z).2 h⟩,λ a h=>E.C6 a h.1,λ j d h=>?_,λ j c' h eX=>?_,λ j k c1 c2 v1 v2 f1 f2 q1 q2 q3 q4 q5 q6 ay=>?_,by rw[List.length_set];exact E.len,λ j c' n h hp=>?_⟩⟩
   rotate_left 3
   ·rcases get_set h with ⟨rfl,hl,z⟩|⟨ay,h⟩
    ·cases z;cases hp
    ·exact E.pin j c' n h hp
   ·rcases get_set h with ⟨rfl,hl,z⟩|⟨ay,h⟩
    ·cases z;exact⟨v,h1,o.has du λ a ha z=>z.2 ha⟩
    ·obtain⟨w,k1,k2⟩:=E.val j d h;exact⟨w,k1,k2.mono sm⟩
   ·rcases get_set h with ⟨rfl,hl,z⟩|⟨ay,h⟩
    ·cases z;cases eX
    ·obtain⟨w,fq,k1,k2,k3,k4⟩:=E.ows j c' h eX;exact⟨w,fq,k1,k2.move sm λ _ _=>rfl,λ a ha=>⟨⟨(k3 a ha).1,dj j c' w fq ay h k1 k2 a ha⟩,(k3 a ha).2⟩,k4⟩
   ·rcases get_set q1 with ⟨rfl,hl,z⟩|⟨cx,q1⟩
    ·cases z;exact q5.elim
    ·rcases get_set q2 with ⟨rfl,hl,z⟩|⟨bn,q2⟩
     ·cases z;exact q6.elim
     ·exact E.apart j k c1 c2 v1 v2 f1 f2 q1 q2 q3 q4 (old j c1 v1 f1 q1 q3 q5) (old k c2 v2 f2 q2 q4 q6) ay
 ·exact⟨P,λ _ h=>h,E⟩
theorem gS.less {K:zb}{P':Addr->Prop}{Z:Ends}{m:M Out}(hs:∀a,P' a->P a)(h:gS K WX P0 P H Z m):gS K WX P0 P' H Z m:=by
 have tr:∀ {P2:Addr->Prop} {H2:Hp},Tr P0 P' H P2 H2->Tr P0 P H P2 H2:=λ t=>⟨(Bc hs).trans t.1,t.2⟩;cases m with
 |bad=>exact h
 |ex x=>exact λ H2 P2 t2=>h H2 P2 (tr t2)
 |ok o =>
  cases o with
  |ret d=>exact λ v H2 P2 t2 hv=>h v H2 P2 (tr t2) hv
  |next ρ|brk ρ|cont ρ=>exact λ σ2 H2 P2 t2 hv=>h σ2 H2 P2 (tr t2) hv
  |BJ c=>exact λ v fp H2 P2 t2=>h v fp H2 P2 (tr t2)
  |EY c ρ=>exact λ v fp σ2 H2 P2 t2=>h v fp σ2 H2 P2 (tr t2)
theorem OS (i:Nat){st:Stmt}{g1:A8->M Out}(h:DS X WX st g1):DS X WX st (λ ρ=>g1 (Kr i ρ)):=by
 obtain⟨t,h1,h2⟩:=h;refine⟨t,h1,λ P0 P σ H Z ρ E h=>?_⟩;obtain⟨P',hs,E'⟩:=E.M2 i;exact h2 P0 P' σ H Z _ E' (h.less hs)
end
noncomputable def Qh (i:Nat)(ρ:A8)(π:List Nat):Option OT:=match ρ[i]? with
 |some (some c)=>(match treeOf c with|some (_,t)=>Lr t π|none=>none)
 |_=>none
section
variable {X:Cx}{WX:Str->Hp->Prop}{c:Bool}{P0:DR}{P:Addr->Prop}{H:Hp}{σ:St}{ρ:A8}{a b e:Expr}{f g:A8->M D}{fn:A8->M OT}{fp:A8->M (List Nat)}{pos:Pos}{i:Nat}
noncomputable def N2 (i:Nat)(ρ:A8):M (List Nat):=match Qh i ρ [] with | some _=>.ok [] | none=>.bad
noncomputable def WL (i:Nat)(ρ:A8)(π:List Nat):M D:=match Qh i ρ π with
 |some (.sh d)=>.ok d
 |_=>.bad
end
noncomputable def kd:D->Option Key
 | .int i=>some (.inl i)
 | .str x=>some (.inr x)
 |_=>none
noncomputable def Ux:List D->Option (List Key)
 |[]=>some []
 |d::r=>match kd d,Ux r with|some k,some ks=>some (k::ks)|_,_=>none
theorem Sy {d:D}{k:Key}(h:kd d=some k):d=HK k:=by
 cases d<;>simp[kd] at h<;>subst h<;>rfl
theorem OU:∀ {ds:List D}{ks:List Key},Ux ds=some ks->ds=ks.map HK
 |[],ks,h=>by cases h;rfl
 |d::r,ks,h=>by
  rw[Ux] at h;cases q:kd d with
  |none=>rw[q] at h;cases h
  |some k =>
   cases q2:Ux r with
   |none=>rw[q,q2] at h;cases h
   |some jP =>
    rw[q,q2] at h;cases h;rw[zx,<-Sy q,<-OU q2]
inductive Rq:Bool->D->Prop
 |k (κ:Key):Rq false (HK κ)
 |t (κ:List Key):Rq true (.tup (κ.map HK))
noncomputable def keyOk (b:Bool)(d:D):Bool:=match b,d with
 |false,d=>(kd d).isSome
 |true,.tup ds=>(Ux ds).isSome
 |_,_=>false
theorem OV {b:Bool}{d:D}(h:keyOk b d=true):Rq b d:=by
 cases b with
 |false =>
  obtain⟨k,hk⟩:=Option.isSome_iff_exists.mp (show (kd d).isSome=true from h);rw[Sy hk];exact .k k
 |true =>
  cases d with
  |tup ds =>
   obtain⟨k,hk⟩:=Option.isSome_iff_exists.mp (show (Ux ds).isSome=true from h);rw[OU hk];exact .t k
  |_=>cases h
theorem OW (a b:Key):Ak (HK a) (HK b)=decide (a=b):=by
 cases a with
 |inl i =>
  cases b with
  |inl j=>simp only[HK,Ak];rw[Bool.eq_iff_iff];simp
  |inr y=>simp[HK,Ak]
 |inr x =>
  cases b with
  |inl j=>simp[HK,Ak]
  |inr y=>simp only[HK,Ak];rw[Bool.eq_iff_iff];simp
theorem Mh:∀a b:List Key,C8 (a.map HK) (b.map HK)=decide (a=b)
 |[],[]|[],_::_|_::_,[]=>by simp[C8]
 |a::r,b::t=>by
  rw[zx,zx,C8,OW,Mh r t,Bool.eq_iff_iff];simp
noncomputable def HM {α:Type}:List D->List α->D->Option α
 |k::ks,v::vs,y=>if Ak k y=true then some v else HM ks vs y
 |_,_,_=>none
noncomputable def Vr (ks:List D)(y:D):Bool:=ks.any λ k=>Ak k y
section
variable {κ:Type} [DecidableEq κ] {fk:κ->D}(hf:∀a b,Ak (fk a) (fk b)=decide (a=b))
include hf
theorem Hc {α:Type}:∀(kvs:List (κ×α)) (k:κ),HM (kvs.map λ kv=>fk kv.1) (kvs.map Prod.snd) (fk k)=(kvs.find? λ kv=>decide (kv.1=k)).map (·.2)
 |[],k=>rfl
 |p::r,k=>by
  rw[zx,zx,HM,hf,y8];by_cases e:p.1=k
  ·rw[decide_eq_true e];rfl
  ·rw[decide_eq_false e];simp only[zC,if_false];exact Hc r k
end
theorem Ks {K:zb}{H:Hp}:∀ {ks:List D}{xs:List V}{ds:List D}{y d:D},Af K H xs ds->HM ks ds y=some d->∃x,HM ks xs y=some x/\Bo K H x d
 |[],_,_,_,_,_,e|_::_,_,_,_,_,.nil,e=>by simp[HM] at e
 |k::ks,_,_,y,d,.cons h t,e=>by
  rw[HM] at e ⊢;by_cases q:Ak k y=true
  ·rw[if_pos q] at e ⊢;cases e;exact⟨_,rfl,h⟩
  ·rw[if_neg q] at e ⊢;exact Ks t e
section
variable {K:zb}{H:Hp}{P:Addr->Prop}
theorem Af.keys:∀ {xs:List V}(κ:List Key),Af K H xs (κ.map HK)->xs=κ.map kV
 |_,[],.nil=>rfl
 |_,k::r,.cons h t=>by
  rw[zx,<-Af.keys r t];congr 1;cases k with
  |inl i=>exact h.int_inv
  |inr x=>cases h;rfl
theorem Bo.WM {y:V}{κ:Key}(h:Bo K H y (HK κ)):y=kV κ:=by
 cases κ with
 |inl i=>exact h.int_inv
 |inr x=>cases h;rfl
theorem Rr {v y:V}{b:Bool}{ks vs:List D}{k:D}(hv:Bo K (del H P) v (.C7 b ks vs))(hy:Bo K (del H P) y k)(hk:Rq b k):∃a xs,v=.ref a/\QQ H a y (HM ks xs k)/\Af K (del H P) xs vs/\xs.length=ks.length:=by
 cases hv with
 |Fo hh hl =>
  cases hk with
  |k κ =>
   refine⟨_,_,rfl,?_,hl,by simp⟩;rw[hy.WM,Hc OW];exact .inl ⟨_,κ,hh.C4,rfl,rfl⟩
 |Fp hh hl =>
  cases hk with
  |t κ =>
   cases hy with
   |tup ht dv =>
    have e:=Af.keys κ dv;subst e;refine⟨_,_,rfl,?_,hl,by simp⟩;rw[Hc (fk:=λ κ:List Key=>D.tup (κ.map HK)) (λ a b=>by simp only[Ak];exact Mh a b)];exact .inr ⟨_,κ,_,hh.C4,rfl,(Ay ht).2,rfl⟩
end
section
variable {X:Cx}{WX:Str->Hp->Prop}{c:Bool}{P0:DR}{P:Addr->Prop}{H:Hp}{σ:St}{ρ:A8}{a b e:Expr}{f g:A8->M D}{fn:A8->M OT}{fp:A8->M (List Nat)}{pos:Pos}{i:Nat}
noncomputable def Vs:R2:=λ x y H Q=>∃a v,x=.ref a/\QQ H a y (some v)/\Q v H
theorem Rt (hu:X.A.units+1<cLine):QK X Vs:=by
 intro value slice pins s σ H x y v u Q I rx ry h hs;obtain⟨a,z,rfl,g,q⟩:=h;cases rx;have hT:=K9 I g;have h₂:wpAny (model X.prog X.w) X.A (getItem (.ref a) u) (EP X pins σ Q) X.xe s:=ML hu I g ry λ w' s3 I3 bP=>⟨z,H,I3,bP,q⟩;unfold subscriptTail;refine wpAny_bind ?_;rw[getitemInPython_of_ne hT.not_modules];refine wpAny_bind (wpAny_specialOf hT PySem.F.slot_dict_getitem.lookup ?_);have fin:wpAny (model X.prog X.w) X.A (subscripted slice false (.ref a) u) (λ r s₃=>wpAny (model X.prog X.w) X.A (letTemporaryGo value (.ref a) r >>= λ _=>pure r) (EP X pins σ Q) X.xe s₃) X.xe s:=by
  rw[hs];exact wpAny_operating (wpAny_mono h₂ (λ r s₃ h₃=>wpAny_bind (wpAny_letTemporaryGo (wpAny_pure h₃))) λ _ _ x=>x)
 first
  |exact wpAny_pure (wpAny_bind fin)
  |exact wpAny_bind (wpAny_pure (wpAny_bind fin))
  |exact wpAny_bind fin
noncomputable def Bu (x y:D):M D:=match x with
 | .C7 b ks vs=>if keyOk b y=true then (match HM ks vs y with|some d=>.ok d|none=>.bad) else .bad
 |x=>Ve x y
theorem Ru:MM X.K WX (λ x y H Q=>(Td X.K x y H Q\/Te X.K x y H Q)\/Vs x y H Q) Bu:=by
 intro P H x y v w Q ht hx hy h;cases x with
 |C7 b ks vs =>
  simp only[Bu] at h;by_cases hk:keyOk b y=true
  ·rw[if_pos hk] at h;obtain⟨a,xs,rfl,g,hl,_⟩:=Rr hx hy (OV hk);split at h
   ·rename_i d e;obtain⟨u,e1,e2⟩:=Ks hl e;rw[e1] at g;exact .inr ⟨a,u,rfl,g,h _ H (A9.refl H) e2⟩
   ·exact h.elim
  ·rw[if_neg hk] at h;exact h.elim
 |Ar|bl b|int b|str b|tup b|lst b|C3 b|ins b _ _=>exact .inl (Eb P H _ y v w Q ht hx hy h)
theorem Au {n:Nat}(hu:X.A.units+n<cLine)(ha:DE X WX c a f)(hb:DE X WX c b g)(hs:J9 b:=by exact λ _ _=>rfl)(hn:1<=n:=by decide):DE X WX c (.Subscript a b pos) (λ ρ=>(f ρ).bind λ x=>(g ρ).bind λ y=>Bu x y):=Vb ((QL.or Tf).or (Rt (by omega))) Ru ha hb hs
noncomputable def Vt (neg:Bool)(y x:D):M D:=match x with
 | .C7 b ks vs=>if keyOk b y=true then .ok (.bl (if neg=true then !Vr ks y else Vr ks y)) else .bad
 |x=>Xg neg y x
noncomputable def AI:D->M Bool
 | .Ar=>.ok false
 | .bl b=>.ok b
 | .int i=>.ok (i != 0)
 | .tup ds| .lst ds=>.ok (!ds.isEmpty)
 |_=>.bad
theorem FC {K:zb}{H:Hp}{xs:List V}{ds:List D}(h:Af K H xs ds):(!ds.isEmpty) = !xs.isEmpty:=by cases h<;>rfl
theorem BP (h:DE X WX c e f)(he:∀whole,isTrue e X.env whole=(do let v <-whole;standAt e.pos;holding [v] (truthy v)):=by intro _;rfl):DT X WX e (λ ρ=>(f ρ).bind AI):=by
 obtain⟨t,h1,h2⟩:=h;refine⟨_,NZ h1 he,λ P0 P σ H Q ρ E h=>h2 P0 P σ H _ ρ E ?_⟩;dsimp only at h;cases q:f ρ with
 |bad|ex x=>rw[q] at h;exact h
 |ok d =>
  rw[q] at h;simp only[M.Aa] at h;intro v H' s hv;cases hv with
  |Ar=>exact⟨false,rfl,h H' s⟩
  |bl b=>exact⟨b,rfl,h H' s⟩
  |int i=>exact⟨_,rfl,h H' s⟩
  |tup hs hl=>exact⟨_,.inr (.inl ⟨_,Lc.of (Ay hs).2,rfl⟩),by rw[<-FC hl];exact h H' s⟩
  |lst hs hl=>exact⟨_,.inl ⟨_,hs.C4,rfl⟩,by rw[<-FC hl];exact h H' s⟩
  |_=>exact h.elim
end
noncomputable def Mi (m:M (List D)):M OT:=match m with | .ok ys=>.ok (.lst (ys.map .sh)) | _=>.bad
section
variable {X:Cx}{WX:Str->Hp->Prop}{c:Bool}{P0:DR}{P:Addr->Prop}{H:Hp}{σ:St}{ρ:A8}{a b e tg iter:Expr}{f g:A8->M D}{ft:A8->M Bool}{pos:Pos}{gt:D->A8->M A8}{fi:A8->M (List D)}{es:List Expr}{fs:A8->M (List D)}
theorem TJ {μ:List (Option Nat)}{wi:TI}{gg:TG}{tc:Shared->Hp->Addr->List Addr->TT}{te:Shared->Hp->Addr->List Addr->TE}{fe:A8->M D}
 (i2:∀P0 P σ H R ρ,Ae X.K P0 P H σ ρ->(match fi ρ with | .ok ds=>∀J H',A9 H H'->Ou X.K J P H' ds->R J H' | .ex x=>∀H',A9 H H'->WX x H' | .bad=>False)->wi σ H R)
 (g2:∀P0 P σ H Q ρ v d,Ae X.K P0 P H σ ρ->Bo X.K (del H P) v d->gG X.K P0 P H Q (gt d ρ)->gg v σ H Q)
 (t2:∀s H' C ex P0 P σ H Q ρ,Ae X.K P0 P H σ ρ->gT (λ _ _=>False) H Q (ft ρ)->tc s H' C ex σ H Q)
 (e2:∀s H' C ex P0 P σ H Q ρ,Ae X.K P0 P H σ ρ->gV X.K (λ _ _=>False) (Lv true P0 P) H Q (fe ρ)->te s H' C ex σ H Q) {Q:VK}
 (E:Ae X.K P0 P H σ ρ) (h:Mf X.K WX P H Q ((fi ρ).bind λ ds=>if ds.length<=1000 then Mi (AY gt ft fe ds (AJ μ ρ)) else .bad)):Io wi μ gg tc te σ H Q:=by
 refine i2 P0 P σ H _ ρ E ?_;cases q:fi ρ with
 |bad|ex x=>rw[q] at h;exact h
 |ok ds =>
  rw[q] at h;simp only[M.Aa] at h;by_cases hd:¬ ds.length<=1000
  ·rw[if_neg hd] at h;exact h.elim
  have hd:ds.length<=1000:=by omega
  rw[if_pos hd] at h;intro J H1 s1 ok s C ex;cases qc:AY gt ft fe ds (AJ μ ρ) with
  |bad|ex x=>rw[qc] at h;exact h.elim
  |ok total =>
   rw[qc] at h;unfold Mi at h;dsimp only at h;have E1:=E.same s1;refine⟨λ i m ys H2=>m=ds.length-i/\i<=ds.length/\ys.length<=i/\A9 H1 H2/\∃es rest,Af X.K (del H2 P) ys es/\AY gt ft fe (ds.drop i) (AJ μ ρ)=.ok rest/\es++rest=total,
    ⟨ds.length,by simp,zZ _,zv _,A9.refl _,[],total,.nil,by rw[List.drop_zero];exact qc,rfl⟩,?_⟩
   rintro i m ys H2 ⟨rfl,hi,hy,s2,es,rest,cf,aw,bp⟩;by_cases aN:i<ds.length
   ·refine .inr ⟨ok.go i P H2 s2.del aN,Nat.lt_of_le_of_lt hy (B0 (by omega)),λ aR H'=>i+1<=ds.length/\aR.length<=i+1/\A9 H1 H'/\∃es rest,Af X.K (del H' P) aR es/\AY gt ft fe (ds.drop (i+1)) (AJ μ ρ)=.ok rest/\es++rest=total,λ aR H' hq=>⟨ds.length-(i+1),by omega,rfl,hq.1,hq.2.1,hq.2.2.1,hq.2.2.2⟩,λ v H3 y=>?_⟩;have E2:=E1.same s2;obtain⟨s3,hv⟩:=ok.Qv i P H2 v H3 ds[i] s2.del E2.C6 (z0 aN) y;rw[Ed aN,AY] at aw;have E3:=(E2.same s3).block μ;refine g2 P0 P _ H3 _ (AJ μ ρ) v ds[i] E3 hv ?_;cases q1:gt ds[i] (AJ μ ρ) with
    |bad|ex x=>rw[q1] at aw;cases aw
    |ok ρ1 =>
     rw[q1] at aw;dsimp only at aw;intro σ4 E4;refine t2 s H1 C ex P0 P σ4 H3 _ ρ1 E4 ?_;cases q2:ft ρ1 with
     |bad|ex x=>rw[q2] at aw;cases aw
     |ok k =>
      rw[q2] at aw;dsimp only at aw;intro H5 s5;cases k with
      |false =>
       simp only[zC,if_false] at aw ⊢;exact⟨aN,by omega,(s2.trans s3).trans s5,es,rest,(cf.mono s3.del).mono s5.del,aw,bp⟩
      |true =>
       simp only[if_true] at aw ⊢;refine e2 s H1 C ex P0 P σ4 H5 _ ρ1 (E4.same s5) ?_;cases q3:fe ρ1 with
       |bad|ex x=>rw[q3] at aw;cases aw
       |ok y' =>
        rw[q3] at aw;dsimp only at aw;cases q4:AY gt ft fe (ds.drop (i+1)) (AJ μ ρ) with
        |bad|ex x=>rw[q4] at aw;cases aw
        |ok fF =>
         rw[q4] at aw;cases aw;intro w H6 s6 hw;refine⟨aN,by rw[zq,yd];omega,((s2.trans s3).trans s5).trans s6,es++[y'],fF,(((cf.mono s3.del).mono s5.del).mono s6.del).snoc hw,rfl,?_⟩;rw[List.append_assoc];exact bp
   ·have e:i=ds.length:=by omega
    subst e;rw[List.drop_length,AY] at aw;cases aw;rw[List.append_nil] at bp;subst bp;exact .inl ⟨ok.stop _ P H2 s2.del (zv _),λ D0 hn=>h.Ko (s1.trans s2) cf D0 hn⟩
theorem Gw {scope:Scope}{NB:List Str}{ifs:List Expr}{elt:Expr}{fe:A8->M D}(μ:List (Option Nat))(hc:X.calm=true)(hi:DI X WX tg iter fi)(aI:EK scope X.env.scope=true)(bd:GI X.N NB scope μ=true)(hg:WH X scope NB μ tg gt)
 (ht:∀s H C ex,WI (blockOf X s H scope C NB ex) ifs ft) (he:∀s H C ex,DE (blockOf X s H scope C NB ex) (λ _ _=>False) true elt fe) (hs:∀x,foldedSetIterable iter X.env x=pure x:=by intro _;rfl):
 DN X WX (.ListComp elt [⟨tg,iter,ifs,0⟩] scope pos) (λ ρ=>(fi ρ).bind λ ds=>if ds.length<=1000 then Mi (AY gt ft fe ds (AJ μ ρ)) else .bad):=by
 obtain⟨wi,i1,i2⟩:=hi;obtain⟨gg,g1,gk,g2⟩:=hg;refine⟨_,QS hc i1 aI bd gk (λ s H C ex=>⟨g1 s H C ex,(ze (ht s H C ex)).1,(ze (he s H C ex)).1⟩) hs,λ P0 P σ H Q ρ E h=>?_⟩;exact TJ i2 g2 (λ s H' C ex P0 P σ H Q ρ E h=>(ze (ht s H' C ex)).2 P0 P σ H Q ρ E h) (λ s H' C ex P0 P σ H Q ρ E h=>(ze (he s H' C ex)).2 P0 P σ H Q ρ E h) E h
end
noncomputable def Jq (i:Nat)(ρ:A8)(π:List Nat)(u:OT):M Out:=match ρ[i]? with
 |some (some c)=>(match treeOf c with|some (p,t)=>.ok (.next (ρ.set i (some (toCl p (OM t π u)))))|none=>.bad)
 |_=>.bad
noncomputable def Gj (i:Nat)(ρ:A8)(π:List Nat):M (List OT):=match Qh i ρ π with | some (.lst ts)=>.ok ts | _=>.bad
section
variable {X:Cx}{WX:Str->Hp->Prop}{c:Bool}{P0:DR}{P:Addr->Prop}{H:Hp}{σ:St}{ρ:A8}{a b e:Expr}{f g:A8->M D}{fn:A8->M OT}{fp:A8->M (List Nat)}{pos:Pos}{i:Nat}{es:List Expr}{fs:A8->M (List D)}
noncomputable def TK {α:Type}(o:Option α):M α:=match o with | some x=>.ok x | none=>.bad
noncomputable def Sz (i:Nat)(ρ:A8)(π:List Nat):M (List D):=match Qh i ρ π with | some (.lst ts)=>(match DK ts with | some ds=>.ok ds | none=>.bad) | _=>.bad
noncomputable def Vu (t:OT):M (List D):=match t with | .lst us=>TK (DK us) | _=>.bad
end
noncomputable def IG (i:Nat)(ρ:A8)(π:List Nat):M (Bool×List D×List D):=match Qh i ρ π with
 |some (.C7 b ks ts)=>(match DK ts with|some vs=>.ok (b,ks,vs)|none=>.bad)
 |_=>.bad
section
variable {X:Cx}{WX:Str->Hp->Prop}{c:Bool}{P0:DR}{P:Addr->Prop}{H:Hp}{σ:St}{ρ:A8}{a b e:Expr}{f g:A8->M D}{fn:A8->M OT}{pos:Pos}{te:TE}
noncomputable def Vv (ds:List D):M D:=match ds with
 |[.lst xs]=>(match Kk xs with|some ns=>.ok (.int ns.sum)|none=>.bad)
 |_=>.bad
noncomputable def Rv (lo hi:Option Int)(d:D):M OT:=match d with
 | .lst ds=>.ok (.lst (((ds.drop (HT.GH ds.length 0 lo)).take (HT.GH ds.length ds.length hi-HT.GH ds.length 0 lo)).map .sh))
 |_=>.bad
theorem He {lo hi:Option Expr}{dw fh:A8->M (Option Int)}{p2:Pos}(ha:DE X WX true e f)(hl:DO X WX true lo dw)(hh:DO X WX true hi fh):DN X WX (.Subscript e (.Slice lo hi none p2) pos) (λ ρ=>(f ρ).bind λ d=>(dw ρ).bind λ l=>(fh ρ).bind λ u=>Rv l u d):=by
 obtain⟨ta,a1,a2⟩:=ha;obtain⟨tl,l1,l2⟩:=hl;obtain⟨th,h1,h2⟩:=hh;refine⟨_,K4 QM a1 l1 h1,λ P0 P σ H Q ρ E h=>?_⟩;dsimp only at h;refine a2 P0 P σ H _ ρ E ?_;cases q:f ρ with
 |bad|ex x=>rw[q] at h;exact h
 |ok d =>
  rw[q] at h;intro v H1 s1 hv;refine l2 P0 P σ H1 _ ρ (E.same s1) ?_;cases q2:dw ρ with
  |bad=>rw[q2] at h;exact h
  |ex y=>rw[q2] at h;exact λ H' s=>h H' (s1.trans s)
  |ok l =>
   rw[q2] at h;intro H2 s2;refine h2 P0 P σ H2 _ ρ ((E.same s1).same s2) ?_;cases q3:fh ρ with
   |bad=>rw[q3] at h;exact h
   |ex y=>rw[q3] at h;exact λ H' s=>h H' ((s1.trans s2).trans s)
   |ok u =>
    rw[q3] at h;simp only[M.Aa] at h;intro H3 s3;unfold Rv at h;split at h
    ·cases hv with
     |lst hs hl =>
      refine⟨_,_,rfl,(s3.seq (s2.seq hs.C4)),λ p hp=>h.Ko ((s1.trans s2).trans s3) ?_ p hp⟩;unfold O4;rw[hl.length];exact ((((hl.drop _).take _).mono s2.del).mono s3.del)
    ·exact h.elim
theorem OX:Xl X.K WX (Sw X.K) Mg:=by
 intro P H x y v w Q ht hx hy h;unfold Mg at h;split at h
 ·rename_i ds es;by_cases hl:ds.length+es.length<=1000
  ·rw[if_pos hl] at h;cases hx with
   |lst h1 h2 =>
    cases hy with
    |lst h3 h4=>exact⟨_,_,_,_,rfl,rfl,h1.C4,h3.C4,yt (B0 (by rw[h2.length,h4.length];exact hl)),h.Ko (A9.refl _) (h2.Xf h4)⟩
  ·rw[if_neg hl] at h;exact h.elim
 ·exact h.elim
theorem CN (ha:DE X WX true a f)(hb:DE X WX true b g):DN X WX (.BinOp a .Add b pos) (λ ρ=>(f ρ).bind λ x=>(g ρ).bind λ y=>Mg x y):=by
 obtain⟨ta,a1,a2⟩:=ha;obtain⟨tb,b1,b2⟩:=hb;exact⟨_,Sh Rc a1 b1,λ P0 P σ H Q ρ E h=>Vo a2 b2 OX E h⟩
variable {ei:List D->A8->M A8}{gt:D->A8->M A8}{es:List Expr}
end
theorem Kt (K:zb)(d:D):zr K (.type (QX d)) (.type "str")=some (Cm "str" d):=by cases d<;>rfl
def WP (m:M Out)(nx:A8->Prop)(rt:Out->Prop)(ex:Str->Prop):Prop:=match m with
 | .ok (.next ρ)=>nx ρ
 | .ok o=>rt o
 | .ex x=>ex x
 | .bad=>False
section
variable {nx:A8->Prop}{rt:Out->Prop}{ex:Str->Prop}{m:M Out}{k:A8->M Out}{ρ ρ':A8}
theorem FD (h:m=.ok (.next ρ'))(hn:nx ρ'):WP m nx rt ex:=by rw[h];exact hn
theorem WP.mono {gZ:A8->Prop}{h8:Out->Prop}{fj:Str->Prop}(h:WP m nx rt ex)(h1:∀ρ,nx ρ->gZ ρ)(h2:∀o,rt o->h8 o)(h3:∀x,ex x->fj x):WP m gZ h8 fj:=by
 cases m with
 |bad=>exact h
 |ex x=>exact h3 x h
 |ok o =>
  cases o with
  |next ρ=>exact h1 ρ h
  |ret d|brk d|cont d|BJ d|EY d ρ=>exact h2 _ h
theorem wp_seq (h:WP m (λ ρ=>WP (k ρ) nx rt ex) rt ex):WP (Oq m k) nx rt ex:=by
 cases m with
 |bad|ex x=>exact h
 |ok o =>
  cases o with
  |next ρ|ret d|brk d|cont d|BJ d|EY d ρ=>exact h
theorem wp_step (h:m=.ok (.next ρ'))(hk:WP (k ρ') nx rt ex):WP (Oq m k) nx rt ex:=by rw[h];exact hk
theorem BF {I:A8->Prop}(h:WP m I rt ex)(hk:∀ρ,I ρ->WP (k ρ) nx rt ex):WP (Oq m k) nx rt ex:=wp_seq (h.mono hk (λ _ h=>h) λ _ h=>h)
def inLoop (I:A8->Prop)(nx:A8->Prop)(rt:Out->Prop)(o:Out):Prop:=match o with
 | .cont ρ=>I ρ
 | .brk ρ=>nx ρ
 |o=>rt o
theorem Jr {gt:D->A8->M A8}{gb:A8->M Out}{ds:List D}(I:Nat->A8->Prop)(h0:I 0 ρ)
 (step:∀i d ρ,ds[i]?=some d->I i ρ->∃ρ1,gt d ρ=.ok ρ1/\WP (gb ρ1) (I (i+1)) (inLoop (I (i+1)) nx rt) ex) (done:∀ρ,I ds.length ρ->nx ρ):WP (forM gt gb ds ρ) nx rt ex:=by
 have key:∀(n i:Nat) (ρ:A8),i+n=ds.length->I i ρ->WP (forM gt gb (ds.drop i) ρ) nx rt ex:=by
  intro n;induction n with
  |zero =>
   intro i ρ hi h;have e:i=ds.length:=by omega
   subst e;rw[List.drop_length,forM];exact done ρ h
  |succ n ih =>
   intro i ρ hi h;have aN:i<ds.length:=by omega
   obtain⟨ρ1,h1,h2⟩:=step i ds[i] ρ (z0 aN) h;rw[Ed aN,forM,h1];dsimp only;cases q:gb ρ1 with
   |bad|ex x=>rw[q] at h2;exact h2
   |ok o =>
    rw[q] at h2;cases o with
    |next ρ2=>exact ih (i+1) ρ2 (by omega) h2
    |ret d|BJ d|EY d ρ2=>exact h2
    |cont ρ2=>exact ih (i+1) ρ2 (by omega) h2
    |brk ρ2=>exact h2
 have:=key ds.length 0 ρ (by omega) h0;rw[List.drop_zero] at this;exact this
def Xn (Q:OT->Prop)(o:Out):Prop:=match o with
 | .ret d=>Q (.sh d)
 | .BJ c=>∃t,Vp c=.ok t/\Q t
 |_=>False
theorem Ku {Q:OT->Prop}(h:WP m (λ _=>Q (.sh .Ar)) (Xn Q) (λ _=>False)):∃t,OQ m=.ok t/\Q t:=by
 cases m with
 |bad|ex x=>exact h.elim
 |ok o =>
  cases o with
  |next ρ|ret d=>exact⟨_,rfl,h⟩
  |BJ c=>exact h
  |EY c ρ|brk ρ|cont ρ=>exact h.elim
theorem B7 {t:OT}(h:WP m (λ _=>OT.sh .Ar=t) (Xn (·=t)) (λ _=>False)):OQ m=.ok t:=by
 obtain⟨u,h1,h2⟩:=Ku (Q:=(·=t)) h;rw[h1,h2]
def Xo (Q:D->Prop)(o:Out):Prop:=match o with
 | .ret d=>Q d
 | .BJ c=>∃t,WG c=.ok t/\Q t
 |_=>False
theorem Vw {Q:D->Prop}(h:WP m (λ _=>Q .Ar) (Xo Q) (λ _=>False)):∃t,fin m=.ok t/\Q t:=by
 cases m with
 |bad|ex x=>exact h.elim
 |ok o =>
  cases o with
  |next ρ|ret d=>exact⟨_,rfl,h⟩
  |BJ c=>exact h
  |EY c ρ|brk ρ|cont ρ=>exact h.elim
theorem Vx {d:D}(h:WP m (λ _=>D.Ar=d) (Xo (·=d)) (λ _=>False)):fin m=.ok d:=by
 obtain⟨u,h1,h2⟩:=Vw (Q:=(·=d)) h;rw[h1,h2]
end
section
variable {d:D}{ds es:List D}{ρ ρ':A8}{o:Option Cl}{i n:Nat}{p:Option Nat}{t u:OT}{π:List Nat}{b:Bool}{ks vs:List D}{ts:List OT}{m:M D}
theorem XM:rv 0 (some (.val d)::ρ)=.ok d:=rfl
theorem XN:rv (i+1) (o::ρ)=rv i ρ:=rfl
noncomputable def Kv (f:A8->A8)(m:M Out):M Out:=match m with
 | .ok (.next ρ)=>.ok (.next (f ρ))
 |m=>m
theorem OY {f:A8->A8}:Kv f (.ok (.next ρ))=.ok (.next (f ρ)):=rfl
theorem OZ:N2 0 (some (.own ds)::ρ)=.ok []:=rfl
theorem P5:N2 0 (some (.ow (.Gg n ds))::ρ)=.ok []:=rfl
theorem N3:N2 0 (some (.ow (.tree p t))::ρ)=.ok []:=by unfold N2 Qh;simp[treeOf]
theorem Vy:N2 (i+1) (o::ρ)=N2 i ρ:=rfl
theorem Mj:Qh 0 (some (.own ds)::ρ) π=Lr (.lst (ds.map .sh)) π:=rfl
theorem Mk:Qh 0 (some (.ow (.Gg n ds))::ρ) π=Lr (.lst (ds.map .sh)) π:=rfl
theorem Hf:Qh 0 (some (.ow (.tree p t))::ρ) π=Lr t π:=rfl
theorem Rw:Sz 0 (some (.own ds)::ρ) []=.ok ds:=by unfold Sz;simp[Mj,Br]
theorem Rx:Sz 0 (some (.ow (.Gg n ds))::ρ) []=.ok ds:=by unfold Sz;simp[Mk,Br]
theorem P6:Sz 0 (some (.ow (.tree p (.lst (ds.map .sh))))::ρ) []=.ok ds:=by unfold Sz;simp[Hf,Br]
theorem WN:Sz (i+1) (o::ρ) π=Sz i ρ π:=rfl
theorem N4:Gj 0 (some (.own ds)::ρ) []=.ok (ds.map .sh):=by unfold Gj;simp[Mj]
theorem N5:Gj 0 (some (.ow (.Gg n ds))::ρ) []=.ok (ds.map .sh):=by unfold Gj;simp[Mk]
theorem LB:Gj 0 (some (.ow (.tree p (.lst ts)))::ρ) []=.ok ts:=by unfold Gj;simp[Hf]
theorem TL:Gj (i+1) (o::ρ) π=Gj i ρ π:=rfl
theorem F0:IG 0 (some (.ow (.tree p (.C7 b ks (vs.map .sh))))::ρ) []=.ok (b,ks,vs):=by unfold IG;simp[Hf,Br]
theorem TM:IG (i+1) (o::ρ) π=IG i ρ π:=rfl
theorem P7:Jq 0 (some (.own ds)::ρ) [] u=.ok (.next (some (toCl none u)::ρ)):=by unfold Jq;simp[treeOf]
theorem P8:Jq 0 (some (.ow (.Gg n ds))::ρ) [] u=.ok (.next (some (toCl (some n) u)::ρ)):=by unfold Jq;simp[treeOf]
theorem N6:Jq 0 (some (.ow (.tree p t))::ρ) π u=.ok (.next (some (toCl p (OM t π u))::ρ)):=by unfold Jq;simp[treeOf]
theorem Vz:Jq (i+1) (o::ρ) π u=Kv (o::·) (Jq i ρ π u):=by
 unfold Jq Kv;simp only[yu,yx];split
 ·rename_i c e;split<;>simp_all
 ·simp_all
theorem P9:MS 0 (some (.own ds)::ρ) (.ok d)=if ds.length<1000 then .ok (.next (some (.own (ds++[d]))::ρ)) else .bad:=rfl
theorem VA:MS (i+1) (o::ρ) m=Kv (o::·) (MS i ρ m):=by
 unfold MS;rw[yu];cases q:ρ[i]? with
 |none=>rfl
 |some oo =>
  cases oo with
  |none=>rfl
  |some c =>
   cases c with
   |own ds =>
    cases m with
    |ok d =>
     simp only[M.Aa,yx];by_cases h:ds.length<1000
     ·rw[if_pos h,if_pos h];rfl
     ·rw[if_neg h,if_neg h];rfl
    |ex x|bad=>rfl
   |val d|ow w=>rfl
theorem Pa {j:Int}:Rj 0 (some (.own ds)::ρ) (.ok (.int j)) (.ok d)=if 0<=j/\j.toNat<=ds.length/\ds.length<1000 then .ok (.next (some (.own (ds.take j.toNat++d::ds.drop j.toNat))::ρ)) else .bad:=rfl
theorem VB {m2:M D}:Rj (i+1) (o::ρ) m m2=Kv (o::·) (Rj i ρ m m2):=by
 unfold Rj;rw[yu];cases q:ρ[i]? with
 |none=>rfl
 |some oo =>
  cases oo with
  |none=>rfl
  |some c =>
   cases c with
   |own ds =>
    cases m with
    |ok d =>
     cases m2 with
     |ok d2 =>
      simp only[M.Aa,yx];cases d with
      |int j =>
       dsimp only;by_cases h:0<=j/\j.toNat<=ds.length/\ds.length<1000
       ·rw[if_pos h,if_pos h];rfl
       ·rw[if_neg h,if_neg h];rfl
      |_=>rfl
     |ex x|bad=>rfl
    |ex x|bad=>rfl
   |val d|ow w=>rfl
theorem Pb:Ly 0 (some (.val d)::ρ)=.ok (.ret d):=rfl
theorem Pc:Ly 0 (some (.own ds)::ρ)=.ok (.BJ (.own ds)):=rfl
theorem Ry {w:Ow}:Ly 0 (some (.ow w)::ρ)=.ok (.BJ (.ow w)):=rfl
theorem VC:Ly (i+1) (o::ρ)=Ly i ρ:=rfl
theorem Xp:WL i ρ π=match Qh i ρ π with | some (.sh d)=>.ok d | _=>.bad:=rfl
theorem WO:Kr (i+1) (o::ρ)=o::Kr i ρ:=by
 unfold Kr;simp only[yu,yx];split<;>simp_all
theorem WQ {c:Cl}:Kr 0 (some c::ρ)=some (FA c)::ρ:=rfl
theorem Pd:FA (.val d)=.val d:=rfl
theorem Pe:FA (.own ds)=.val (.lst ds):=rfl
theorem Pf:FA (.ow (.Gg n ds))=.val (.lst ds):=rfl
theorem Rz:FA (.ow (.tree p t))=.val (er t):=rfl
theorem Js:er (.C7 b ks (vs.map .sh))=.C7 b ks vs:=by rw[er,G3]
theorem TN:er (.lst (ds.map .sh))=.lst ds:=by rw[er,G3]
theorem Kw:er (.sh d)=d:=rfl
theorem XO {l:List (Option Nat)}:AJ (none::l) ρ=none::AJ l ρ:=rfl
theorem XQ:AJ [] ρ=[]:=rfl
theorem WR {l:List (Option Nat)}:AJ (some i::l) ρ=(match ρ[i]? with | some (some (.val d))=>some (.val d) | _=>none)::AJ l ρ:=rfl
theorem WS {α:Type}{x y:α}:(if ([]:List D).length<=1000 then x else y)=x:=if_pos (by show 0<=1000;decide)
theorem WT {α:Type}{x y:α}{a:D}:(if [a].length<=1000 then x else y)=x:=if_pos (by show 1<=1000;decide)
theorem WU {α:Type}{x y:α}{a b:D}:(if [a,b].length<=1000 then x else y)=x:=if_pos (by show 2<=1000;decide)
theorem WV {α:Type}{x y:α}{a b c:D}:(if [a,b,c].length<=1000 then x else y)=x:=if_pos (by show 3<=1000;decide)
theorem WW {α:Type}{x y:α}{a b c d:D}:(if [a,b,c,d].length<=1000 then x else y)=x:=if_pos (by show 4<=1000;decide)
theorem toCl_nil:toCl none (.lst [])=.own []:=rfl
theorem Hg {α:Type}{gt:D->A8->M A8}{ft:A8->M Bool}{fe:A8->M D}{g:α->D}(p:α->Bool)(f:α->D):∀ {l:List α},(∀x∈l,∃ρ1,gt (g x) ρ=.ok ρ1/\ft ρ1=.ok (p x)/\(p x=true->fe ρ1=.ok (f x)))->AY gt ft fe (l.map g) ρ=.ok ((l.filter p).map f)
 |[],_=>rfl
 |x::r,h=>by
  obtain⟨ρ1,h1,h2,h3⟩:=h x zf;have ih:=Hg (gt:=gt) (ft:=ft) (fe:=fe) (g:=g) p f (l:=r) λ y hy=>h y (zg _ hy);rw[zx,AY,h1];dsimp only;rw[h2];dsimp only;rw[List.filter_cons];cases hp:p x with
  |true =>
   rw[if_pos rfl,h3 hp];dsimp only;rw[ih];simp
  |false=>simp[ih]
theorem Cr {α:Type}{gt:D->A8->M A8}{ft:A8->M Bool}{fe:A8->M D}{g:α->D}(f:α->D){l:List α}(h:∀x∈l,∃ρ1,gt (g x) ρ=.ok ρ1/\ft ρ1=.ok true/\fe ρ1=.ok (f x)):AY gt ft fe (l.map g) ρ=.ok (l.map f):=by
 have:=Hg (gt:=gt) (ft:=ft) (fe:=fe) (ρ:=ρ) (g:=g) (λ _=>true) f (l:=l) λ x hx=>by
  obtain⟨ρ1,h1,h2,h3⟩:=h x hx;exact⟨ρ1,h1,h2,λ _=>h3⟩
 rw[this,List.filter_eq_self.mpr (λ _ _=>rfl)]
theorem Hh {α:Type}{g:α->D}{l:List α}{i:Nat}{d:D}(h:(l.map g)[i]?=some d):∃x,l[i]?=some x/\d=g x:=by
 rw[zR] at h;cases q:l[i]? with
 |none=>rw[q] at h;cases h
 |some x=>rw[q] at h;cases h;exact⟨x,rfl,rfl⟩
theorem TQ:Vu (.lst (ds.map .sh))=.ok ds:=by unfold Vu;simp[Br,TK]
theorem N7 {α:Type}{x:α}:TK (some x)=.ok x:=rfl
theorem RB:Lx i ρ (.sh d)=.ok (.next (ρ.set i (some (.val d)))):=rfl
theorem Pg:Lx i ρ (.lst ts)=.ok (.next (ρ.set i (some (toCl none (.lst ts))))):=rfl
theorem Ph:Lx i ρ (.tup ts)=.ok (.next (ρ.set i (some (.ow (.tree none (.tup ts)))))):=rfl
theorem Pj:Lx i ρ (.C7 b ks ts)=.ok (.next (ρ.set i (some (.ow (.tree none (.C7 b ks ts)))))):=rfl
theorem Pk {x:Str}{ns:List Str}:Lx i ρ (.ins x ns ts)=.ok (.next (ρ.set i (some (.ow (.tree none (.ins x ns ts)))))):=rfl
theorem RC:OR (.sh d)=.ok (.ret d):=rfl
theorem Pm:OR (.lst ts)=.ok (.BJ (.ow (.tree none (.lst ts)))):=rfl
theorem Pn:OR (.tup ts)=.ok (.BJ (.ow (.tree none (.tup ts)))):=rfl
theorem Po:OR (.C7 b ks ts)=.ok (.BJ (.ow (.tree none (.C7 b ks ts)))):=rfl
theorem TR {a s m:Int}(h0:0<=a)(h1:a<m)(s0:1<=s)(s1:s<m):(a+s)%m≠a:=by
 by_cases h:a+s<m
 ·rw[Int.emod_eq_of_lt (by omega) h];omega
 ·have e:(a+s)%m=(a+s-m)%m:=by rw[Int.sub_emod_right]
  rw[e,Int.emod_eq_of_lt (by omega) (by omega)];omega
theorem RD {k:Nat}(i j:Int):Oe k (.int i) (.int j)=.ok (.bl (decide (i=j))):=by
 rw[Lq (Dp _) (Dp _)];simp only[Ak,Bool.beq_eq_decide_eq]
theorem RE {k:Nat}(i j:Int):Sl k (.int i) (.int j)=.ok (.bl (!decide (i=j))):=by
 rw[OG (Dp _) (Dp _)];simp only[Ak,Bool.beq_eq_decide_eq]
theorem Pp {i j:Int}:MN (.int i) (.int j)=.ok (.int (i+j)):=rfl
theorem Pq {i j:Int}:Ti (.int i) (.int j)=.ok (.int (i-j)):=rfl
theorem RF {i j:Int}:WB (.int i) (.int j)=.ok (.bl (decide (i<j))):=rfl
theorem RG {i j:Int}:XH (.int i) (.int j)=.ok (.bl (decide (i<=j))):=rfl
theorem RH {i j:Int}:Xc (.int i) (.int j)=.ok (.bl (decide (j<i))):=rfl
theorem RI {i j:Int}:Xd (.int i) (.int j)=.ok (.bl (decide (j<=i))):=rfl
theorem RJ {i:Int}:Xe (.int i)=.ok (some i):=rfl
theorem Pr:Oj [.lst ds]=.ok (.int ds.length):=rfl
theorem Pt:Oj [.tup ds]=.ok (.int ds.length):=rfl
theorem ite_tt {α:Type}{x y:α}:(if true=true then x else y)=x:=rfl
theorem ite_ff {α:Type}{x y:α}:(if false=true then x else y)=y:=rfl
theorem Pu {lo hi:Option Int}{x:D}(h:Uw lo hi x=.ok (.lst ds)):Rv lo hi x=.ok (.lst (ds.map .sh)):=by
 unfold Uw at h;unfold Rv;cases x with
 |lst xs=>dsimp only at h ⊢;injection h with h;injection h with h;rw[h]
 |_=>cases h
theorem Kx (xs:List D)(k:Nat):Rv (some (k:Int)) none (.lst xs)=.ok (.lst ((xs.drop k).map .sh)):=Pu (OD xs k)
theorem RK (xs:List D)(a b:Nat):Rv (some (a:Int)) (some (b:Int)) (.lst xs)=.ok (.lst (((xs.drop a).take (b-a)).map .sh)):=Pu (Rg xs a b)
theorem Pw:Ko (.lst ds)=.ok (.lst (ds.map .sh)):=rfl
theorem Px:Ko (.tup ds)=.ok (.lst (ds.map .sh)):=rfl
theorem N8 {ns:List Int}:Vv [.lst (ns.map D.int)]=.ok (.int ns.sum):=by unfold Vv;dsimp only;rw[ID]
theorem N9 {T:String}:Cn T (.lst ds)=.ok (.bl (Cm T (.lst ds))):=rfl
theorem Na {T:String}:Cn T (.tup ds)=.ok (.bl (Cm T (.tup ds))):=rfl
theorem Nb {T:String}{k:Int}:Cn T (.int k)=.ok (.bl (Cm T (.int k))):=rfl
theorem Nc {T:String}:Cn T .Ar=.ok (.bl (Cm T .Ar)):=rfl
theorem Py {T:String}{k:Bool}:Cn T (.bl k)=.ok (.bl (Cm T (.bl k))):=rfl
theorem Nd {T:String}{k:Str}:Cn T (.str k)=.ok (.bl (Cm T (.str k))):=rfl
theorem Nf {T:String}:Cn T (.C7 b ks vs)=.ok (.bl (Cm T (.C7 b ks vs))):=rfl
theorem VD:Cm "list" (.lst ds)=true:=rfl
theorem VE:Cm "tuple" (.tup ds)=true:=rfl
theorem VF {k:Int}:Cm "int" (.int k)=true:=rfl
theorem VG {k:Int}:Cm "bool" (.int k)=false:=rfl
theorem VH:Cm "dict" (.C7 b ks vs)=true:=rfl
theorem Ng {neg:Bool}{k:Int}{ns:List Int}:Vt neg (.int k) (.lst (ns.map D.int))=.ok (.bl (if neg then !ns.contains k else ns.contains k)):=by
 unfold Vt Xg;dsimp only;rw[ID]
noncomputable def vO (s:Option D):Option Cl:=s.map .val
theorem RL {s:Option D}:G2 (vO s::ρ)=vO s::G2 ρ:=by cases s<;>rfl
end
section
variable {X:Cx}{E:XK}{WX:Str->Hp->Prop}{c:Bool}{P0:DR}{P:Addr->Prop}{H:Hp}{σ:St}{ρ:A8}{a b e:Expr}{es:List Expr}{f g:A8->M D}{fs:A8->M (List D)}{fn:A8->M OT}{pos:Pos}{te:TE}
structure VI (K:zb)(x m qual:Str)(st:Stmt)(ps:List Str):Prop where
 ex:∃C f fd,zd K mainGlobals x=some (some (.ref C))/\X9 K C/\Meth K C m f/\O6 K m qual st f fd/\Binds K fd ps []
end
end L2
set_option maxRecDepth 1000000
set_option maxHeartbeats 0
namespace L2
open PySem PySem.Spec PySem.Calls PyProof.Rows PySem.W PySem.Builtin PySem.Builtin.ObjectAttr
section
variable {prog:Program}{w:World}{A:Around}{E:Value->Shared->Prop}{s:Shared}
theorem call_meets {T id:String}{nm:Str}{B:Builtin}{self:Value}{rest:List Value}{Sp:PySem.Spec}{Q:Value->Shared->Prop}(SL:Slot T nm id)(hB:entryFor table id=some B)(ht:s.TypeIs self T)(ha:argsOk id ⟨self::rest,[]⟩)(m:Meets (B ⟨self::rest,[]⟩) Sp)
 (h:Sp A (λ r s'=>match r with | .ok (.ret v)=>Q v s' | .ok _=>False | .error e=>E e s') s):wpAny (model prog w) A (call (.builtin id) (self::rest)) Q E s:=
 wpAny_call (codeAny_call_builtin SL.plain hB (SL.check _ _ _ _ _ _ _ _ ht ha (m prog w A _ s h)))
end
open PySem PySem.Spec PyProof.Rows
theorem XR {P:List Value->Prop}(h:P [])(us:List Value)(hl:us.length=0):P us:=by
 cases us with
 |nil=>exact h
 |cons _ _=>cases hl
theorem W5 {P:List Value->Prop}(h:∀a,P [a])(us:List Value)(hl:us.length=1):P us:=by
 cases us with
 |nil=>cases hl
 |cons a us=>exact XR (P:=λ l=>P (a::l)) (h a) us (Nat.succ.inj hl)
theorem ln2 {P:List Value->Prop}(h:∀a b,P [a,b])(us:List Value)(hl:us.length=2):P us:=by
 cases us with
 |nil=>cases hl
 |cons a us=>exact W5 (P:=λ l=>P (a::l)) (λ b=>h a b) us (Nat.succ.inj hl)
theorem WY {P:List Value->Prop}(h:∀a b c,P [a,b,c])(us:List Value)(hl:us.length=3):P us:=by
 cases us with
 |nil=>cases hl
 |cons a us=>exact ln2 (P:=λ l=>P (a::l)) (λ b c=>h a b c) us (Nat.succ.inj hl)
theorem Xq {P:List Value->Prop}(h:∀a b c d,P [a,b,c,d])(us:List Value)(hl:us.length=4):P us:=by
 cases us with
 |nil=>cases hl
 |cons a us=>exact WY (P:=λ l=>P (a::l)) (λ b c d=>h a b c d) us (Nat.succ.inj hl)
theorem Bj {K:zb}{mg:Str->Option Value}{h:Heap}{x:Str}{st:Stmt}{ps:List Str}(X:K.In h)(G:h.Ns mainGlobals mg)(p:FP K x st)(hb:∀(kV dc pm:Value) (an:Option Addr) (cd ct:Value) (us:List Value),us.length=ps.length->bindArgs (zS x x (AV st) (AL st) (A5 st) .none kV dc pm an cd ct) ⟨us,[]⟩=pure (ps.zip us):=by first | exact (λ _ _ _ _ _ _=>W5 λ _=>rfl) | exact (λ _ _ _ _ _ _=>ln2 λ _ _=>rfl) | exact (λ _ _ _ _ _ _=>WY λ _ _ _=>rfl) | exact (λ _ _ _ _ _ _=>Xq λ _ _ _ _=>rfl)):AZ K mg x st ps:=by
 obtain⟨f,oc,od,an,sl,kV,dc,pm,cd,ct,a,l,c,k⟩:=p.ex;have F:=Lk (st:=st) l c k;exact⟨⟨_,_,F,zT X G a,F.binds hb⟩⟩
theorem Xr {K:zb}{C:Addr}{x m qual:Str}{st:Stmt}{ps:List Str}(aC:zd K mainGlobals x=some (some (.ref C)))(cl:X9 K C)(p:MP K C m qual st)(hb:∀(kV dc pm:Value) (an:Option Addr) (cd ct:Value) (us:List Value),us.length=ps.length->bindArgs (zS m qual (AV st) (AL st) (A5 st) .none kV dc pm an cd ct) ⟨us,[]⟩=pure (ps.zip us):=by first | exact (λ _ _ _ _ _ _=>W5 λ _=>rfl) | exact (λ _ _ _ _ _ _=>ln2 λ _ _=>rfl) | exact (λ _ _ _ _ _ _=>WY λ _ _ _=>rfl) | exact (λ _ _ _ _ _ _=>Xq λ _ _ _ _=>rfl)):VI K x m qual st ps:=by
 obtain⟨f,oc,od,an,sl,kV,dc,pm,cd,ct,a,i,l,c,k⟩:=p.ex;have F:=Lk (st:=st) l c k;exact⟨⟨_,_,_,aC,cl,⟨a,i,k⟩,F,F.binds hb⟩⟩
open PySem PySem.W PySem.Calls PyProof.Rows
noncomputable def R0:Rn:=⟨topRun,Heap.nsMap,importEnds,fenceModules?,PySem.start,treeTable⟩
theorem TU:R0=R1:=by
 unfold R0 R1;rw[PySem.W.Fast.te14082659384304107361,PySem.W.Fast.te8920871248978507458,PySem.W.Fast.te10274390034422433532,PySem.W.Fast.te14289696077712309145,PySem.W.Fast.te1435165496053646825,PySem.W.Fast.te14364793385576792824]
theorem Ml (p:Program)(w:World)(N:Nat):openEnds treeTable p w N=GA R0 p w N:=by
 unfold openEnds fencedOpening GA;rfl
theorem Hi {h:Heap}{a:Addr}{o:Obj}:∀ {as:List Addr},(VU h as).lookup a=some o->h.get? a=some o
 |[],e=>by cases e
 |b::r,e=>by
  unfold VU at e;rw[List.filterMap_cons] at e;cases q:h.get? b with
  |none=>rw[q] at e;exact Hi (as:=r) e
  |some u =>
   rw[q] at e;dsimp only [Option.map_some] at e;rw[List.lookup_cons] at e;cases c:a==b with
   |true=>rw[c] at e;cases e;rw[eq_of_beq c];exact q
   |false=>rw[c] at e;exact Hi (as:=r) e
def VJ (h h':Heap):Prop:=∀(b:Addr) (o:Obj),h.get? b=some o->h'.get? b=some o
theorem TV {h h':Heap}{as:List Addr}(s:VJ h h'):(VU h as).In h':=λ a o e=>s a o (Hi e)
theorem RM {p q:Program}{Xt:Shared->Bool}{N:Nat}(h:∀w:World,(openEnds treeTable p w N).map (λ s=>openSeen q [] (importedModules p.main.body) Xt true s)=some (openGood q [])):LeftO p q [] Xt (λ s=>s.heap) (λ w=>NE R0 p w N) N:=λ w=>by
 have e:=h w;unfold NE;dsimp only;rw[<-Ml];cases q':openEnds treeTable p w N with
 |none=>rw[q'] at e;cases e
 |some s =>
  rw[q'] at e;rw[Option.map_some] at e ⊢;dsimp only;rw[zF e]
theorem Jt {α β γ:Type}{o:Option γ}{f:γ->α×β}{a:α×β}(h:o.map (λ s=>(f s).1)=some a.1)(k:o.map (λ s=>(f s).2)=some a.2):o.map f=some a:=by
 cases o with
 |none=>cases h
 |some s =>
  rw[Option.map_some] at h k ⊢;exact congrArg some (Prod.ext (zF h) (zF k))
theorem VL {l:PySem.W.OpenLaw}{n k:Nat}{q:Program}{loose:List Str}{XP:(Str->Option Value)->Heap->Prop}{YP:World->Heap->Prop}{d:DefRec}{K:World->zb}{CX:World->MF}{sp:World->Sp}{x:Str}
 (hn:l.most=some n) (bn:n<=sizeLine) (cJ:d.params.defaults=[]) (hr:C0 k callerA) (hY:∀(w:World) (h:Heap),YP w h->(K w).In h)
 (F:∀(w:World) (mg:Str->Option Value) (fa:Addr) (h:Heap),(K w).In h->h.Ns mainGlobals mg->mg d.name=some (.ref fa)->∃fd:FuncData,(∀(s:Shared) (u:Value),BindsTo s fd ⟨[u],[]⟩ [(x,u)])/\
  ∀base:Heap,(K w).In base->base.Ns mainGlobals mg->EU l.prog w (K w) mg base (CX w) k fa fd [x] (sp w))
 (cu:∀(w:World) (H:Hp) (a:Addr) (ns:List Int),(∀n∈ns,Sm n)->ns.length<=n->QO H->DX (K w) H a (ns.map V.int)->sp w [.ref a] H (λ v _=>v=.bl true) λ _ _ _=>False)
 (dZ:∀(w:World) (H:Hp) (s:Shared) (e:Value) (s':Shared),CX w [] H s (λ _ _ _=>False) e s'->False):PySem.W.WalkO q loose XP YP l.row.toRowW d [] (λ f vs=>PySem.call f vs):=by
 refine HT.IE hn cJ λ w s₀ s₁ mg mb fa o pm cd doc a vs ns cS G Y ho hd bJ dq cj b7 hlen hg=>?_;have KX:=hY w _ Y;obtain⟨fd,hb,hF⟩:=F w mg fa _ KX G.T.g dq;exact K6 KX G.T.g G.T.b G.T.builtins G.T.nolimit hg cj b7 (zD hlen bn) hr hF hb (λ H hO hS=>cu w H a ns cS hlen hO hS) λ H e s'=>dZ w H s₁ e s'
noncomputable def cst:Option (Int×Int)->D
 |none=>.Ar
 |some p=>.tup [.int p.1,.int p.2]
noncomputable def VM:Option (Int×Int)->Option (Int×Int)->Option (Int×Int)
 |some p,some q=>some (p.1+q.1,p.2+q.2)
 |_,_=>none
noncomputable abbrev Co:=Option (Int×Int)
structure Road where
 a:Int
 b:Int
 l:Option Int
 w:Int
noncomputable def BX:Option Int->D
 |none=>.Ar
 |some i=>.int i
noncomputable def ED (r:Road):D:=.tup [.int r.a,.int r.b,BX r.l,.int r.w]
noncomputable def AQ (m:Int)(rs:List Road):D:=.tup [.int m,.lst (rs.map ED)]
noncomputable def Xs (r:Road):Co:=match r.l with | none=>none | some l=>some (l,1)
noncomputable def atC (cs:List Co)(i:Int):Co:=cs.getD i.toNat none
theorem TX {α:Type}{l:List α}{n:Int}(h:0<=n/\n<l.length):M4 l n=l[n.toNat]? :=by
 unfold M4 Uv;obtain⟨h1,h2⟩:=h;simp[h1,h2]
theorem Dq {α:Type}{f:α->D}{l:List α}{n:Int}{x:α}(h0:0<=n)(h:l[n.toNat]?=some x):Ve (.lst (l.map f)) (.int n)=.ok (f x):=by
 have h1:=(zI.mp h).1;unfold Ve;dsimp only;rw[TX (by rw[zo];omega),zR,h];rfl
theorem RN (c:Co):Vj (cst c)=true:=by
 cases c<;>simp[cst,Vj,Tz]
theorem TY (c:Co):dp (.ok (cst c))=.ok (cst c):=by
 unfold dp;rw[M.Aa,if_pos (RN c)]
theorem TZ {n:Nat}(l:Option Int):Pl n (BX l):=by
 cases l with
 |none=>exact Tv
 |some i=>exact Dp i
theorem VN (r:Road):Pl 1 (ED r):=OE (EB (Dp _) (EB (Dp _) (EB (TZ r.l) (EB (Dp _) OF))))
theorem U0 (m:Int)(rs:List Road):Pl 3 (AQ m rs):=OE (EB (Dp _) (EB (Tw λ d hd=>by
 obtain⟨r,_,rfl⟩:=y6.mp hd;exact VN r) OF))
theorem AB {a b:Int}(h:0<b):CI (.int a) (.int b)=.ok (.int (a%b)):=by
 unfold CI As;dsimp only;rw[if_pos h]
theorem Be {a b:Int}(h:NR a b):DH (.int a) (.int b)=.ok (.int (a / b)):=by
 unfold DH As;dsimp only;rw[if_pos h]
noncomputable def hit (rs:List Road)(cs:List Co)(p:Nat)(k:Nat):Bool:=match rs[k]? with
 |some r=>decide (r.b=(p:Int))&&decide (VM (atC cs r.a) (Xs r)≠none)&&decide (VM (atC cs r.a) (Xs r)=atC cs (p:Int))
 |none=>false
noncomputable def pD (p:Int×Int):D:=.tup [.int p.1,.int p.2]
section
variable {X:Cx}{WX:Str->Hp->Prop}{c:Bool}{a b d:Expr}{f g h:A8->M D}{pos:Pos}
theorem IH {op bE:CmpOp}{p q:Int->Int->Bool}(ho:DV X (compareOp op) (MD λ i j=>.bl (p i j)))(bB:DV X (compareOp bE) (MD λ i j=>.bl (q i j)))(ha:DE X WX c a f)(hb:DE X WX c b g)(hd:DE X WX c d h)
 (hm:lastMarks [op,bE] [b,d]=false:=by with_unfolding_all rfl):DT X WX (.Compare a [op,bE] [b,d] pos) (λ ρ=>((f ρ).bind λ x=>(g ρ).bind λ y=>As (λ i j=>if p i j=true then (h ρ).bind λ z=>As (λ _ k=>.ok (.bl (q j k))) (.int 0) z else .ok (.bl false)) x y).bind JR):=by
 obtain⟨ta,a1,a2⟩:=ha;obtain⟨tb,b1,b2⟩:=hb;obtain⟨td,d1,d2⟩:=hd;refine⟨_,NY ho bB a1 b1 d1 hm,λ P0 P σ H Q0 ρ E iL=>?_⟩;unfold NV;have hh:=Sn (K:=X.K) (P:=Lv c P0 P) iL;refine a2 P0 P σ H _ ρ E ?_;cases e:f ρ with
 |bad|ex x=>rw[e] at hh;exact hh
 |ok x =>
  rw[e] at hh;intro v H1 s1 hv;refine b2 P0 P σ H1 _ ρ (E.same s1) ?_;cases e2:g ρ with
  |bad=>rw[e2] at hh;exact hh
  |ex y=>rw[e2] at hh;exact gV.same (m:=.ex y) hh s1
  |ok y =>
   rw[e2] at hh;simp only[M.Aa] at hh;unfold As at hh;split at hh
   ·rename_i i j;intro w H2 s2 hw;refine⟨i,j,hv.int_inv,hw.int_inv,p i j,rfl,?_⟩;dsimp only at hh;by_cases hp:p i j=true
    ·rw[if_pos hp] at hh ⊢;refine d2 P0 P σ H2 _ ρ ((E.same s1).same s2) ?_;cases e3:h ρ with
     |bad=>rw[e3] at hh;exact hh
     |ex z=>rw[e3] at hh;exact gV.same (gV.same (m:=.ex z) hh s1) s2
     |ok z =>
      rw[e3] at hh;simp only[M.Aa] at hh;cases z with
      |int k=>exact λ u H3 s3 hu=>⟨j,k,hw.int_inv,hu.int_inv,hh _ H3 ((s1.trans s2).trans s3) (.bl _)⟩
      |_=>exact hh.elim
    ·rw[if_neg hp] at hh ⊢;exact hh _ H2 (s1.trans s2) (.bl _)
   ·exact hh.elim
end
section
variable {X:Cx}{WX:Str->Hp->Prop}{c:Bool}{P0:DR}{P:Addr->Prop}{H:Hp}{σ:St}{ρ:A8}{a b e tg:Expr}{f g:A8->M D}{fn:A8->M OT}{pos p apos ax:Pos}{ta te to:TE}
noncomputable def Hj (ds:List D):M D:=match ds with
 |[.str z]=>if z.length<=1000000 then .ok (.int z.length) else .bad
 |_=>.bad
theorem RO:Gi X.K WX (λ xs H Q=>∃z,xs=[.str z]/\z.length<=sizeLine/\Q (.int z.length) H) Hj:=by
 intro P H ds vs Q ht hl h;unfold Hj at h;split at h
 ·rename_i z;obtain⟨v,rfl,hv⟩:=hl.one;cases hv;by_cases hi:z.length<=1000000
  ·rw[if_pos hi] at h;exact⟨_,rfl,by rw[sizeLine_eq];omega,h _ H (A9.refl H) (.int _)⟩
  ·rw[if_neg hi] at h;exact h.elim
 ·exact h.elim
theorem Dr (hg:Gl X "len")(hm:X.mg "len" = none)(ha:DE X WX c e f)(hs:starEach [e] X.env=[(false,eval e X.env)]:=by rfl):DE X WX c (.Call (.Name "len" p) [e] [] pos) (λ ρ=>((f ρ).bind λ d=>(M.ok []).bind λ ds=>.ok (d::ds)).bind Hj):=
 GR Jc RO hg hm PySem.boot_len (A1 ha A7 hs) (he:=hs)
theorem Nh:E6 X (.type "int") (λ xs H Q=>∃z n,xs=[.str z]/\PySem.intText? z=some n/\z.length<=640/\Q (.int n) H):=by
 intro pins s σ H xs us Q I r h;obtain⟨z,n,rfl,h1,h2,q⟩:=h;obtain⟨u,rfl,t,rfl⟩:=vals1 r;exact PySem.W.KIN.call_text h1 h2 ⟨.int n,H,I.tok _,⟨_,rfl⟩,q⟩
noncomputable def Hk (ds:List D):M D:=match ds with
 |[.str z]=>(match PySem.intText? z with|some n=>if z.length<=640 then .ok (.int n) else .bad|none=>.bad)
 |_=>.bad
theorem RP:Gi X.K WX (λ xs H Q=>∃z n,xs=[.str z]/\PySem.intText? z=some n/\z.length<=640/\Q (.int n) H) Hk:=by
 intro P H ds vs Q ht hl h;unfold Hk at h;split at h
 ·rename_i z;obtain⟨v,rfl,hv⟩:=hl.one;cases hv;cases q:PySem.intText? z with
  |none=>rw[q] at h;exact h.elim
  |some n =>
   rw[q] at h;dsimp only at h;by_cases hi:z.length<=640
   ·rw[if_pos hi] at h;exact⟨_,n,rfl,q,hi,h _ H (A9.refl H) (.int _)⟩
   ·rw[if_neg hi] at h;exact h.elim
 ·exact h.elim
theorem Mm (hg:Gl X "int")(hm:X.mg "int" = none)(ha:DE X WX c e f)(hb:bootBuiltins "int" = some (.type "int"):=by decide +kernel)(hs:starEach [e] X.env=[(false,eval e X.env)]:=by rfl):DE X WX c (.Call (.Name "int" p) [e] [] pos) (λ ρ=>((f ρ).bind λ d=>(M.ok []).bind λ ds=>.ok (d::ds)).bind Hk):=
 Ir Nh RP hg hm hb (A1 ha A7 hs) (he:=hs)
noncomputable def Hl (x y:D):M D:=match x,y with
 | .str i,.str j=>if i.length+j.length<=1000000 then .ok (.str (i++j)) else .bad
 |_,_=>.bad
theorem Ax (ha:DE X WX c a f)(hb:DE X WX c b g):DE X WX c (.BinOp a .Add b pos) (λ ρ=>(f ρ).bind λ x=>(g ρ).bind λ y=>Hl x y):=by
 refine Fs Lj (λ P H x y v w Q ht hx hy h=>?_) ha hb;unfold Hl at h;split at h
 ·rename_i i j;cases hx;cases hy;by_cases hi:i.length+j.length<=1000000
  ·rw[if_pos hi] at h;exact⟨_,_,rfl,rfl,by rw[sizeLine_eq];omega,h _ H (A9.refl H) (.str _)⟩
  ·rw[if_neg hi] at h;exact h.elim
 ·exact h.elim
noncomputable def RQ (x y:D):M D:=match x,y with
 | .str i,.str j=>.ok (.bl (!(zE j i 0 j.length 1).isEmpty))
 |_,_=>.bad
theorem U1 (ha:DE X WX c a f)(hb:DE X WX c b g)(hm:behindInMarks .In b=false:=by rfl):DE X WX c (.Compare a [.In] [b] pos) (λ ρ=>(f ρ).bind λ x=>(g ρ).bind λ y=>RQ x y):=by
 refine Jg ME (λ P H x y v w Q ht hx hy h=>?_) ha hb hm;unfold RQ at h;split at h
 ·cases hx;cases hy;exact⟨_,_,rfl,rfl,h _ H (A9.refl H) (.bl _)⟩
 ·exact h.elim
noncomputable def Ky (x y:D):M D:=match x,y with
 | .str z,.int i=>if 0<=i/\i<1000000/\i<z.length then (match z.cps[i.toNat]? with|some k=>.ok (.str ⟨#[k]⟩)|none=>.bad) else .bad
 |_,_=>.bad
theorem LC (ha:DE X WX c a f)(hb:DE X WX c b g)(hs:K1 b:=by exact λ _ _=>rfl):DE X WX c (.Subscript a b pos) (λ ρ=>(f ρ).bind λ x=>(g ρ).bind λ y=>Ky x y):=by
 obtain⟨ta,a1,a2⟩:=ha;obtain⟨tb,b1,b2⟩:=hb;refine⟨_,K2 a1 b1 hs,λ P0 P σ H Q ρ E h=>Ke a2 b2 (λ P H x y v w Q ht hx hy h=>?_) E h⟩;unfold Ky at h;split at h
 ·rename_i z i;cases hx;cases hy;by_cases hi:0<=i/\i<1000000/\i<z.length
  ·rw[if_pos hi] at h;cases q:z.cps[i.toNat]? with
   |none=>rw[q] at h;exact h.elim
   |some k =>
    rw[q] at h;exact⟨z,i,k,rfl,rfl,hi.1,by omega,hi.2.2,q,h _ H (A9.refl H) (.str _)⟩
  ·rw[if_neg hi] at h;exact h.elim
 ·exact h.elim
theorem Kz:∀ {ys:List Str}{us:List Value},Vals (ys.map V.str) us->StrsAre us ys
 |[],_,h=>by cases h;exact .nil
 |y::ys,_,h=>by
  cases h with
  |cons r t=>obtain⟨k,rfl⟩:=r;exact .cons y k (Kz t)
theorem RS:Wv X "str.join" (λ x xs H Q=>∃z l ys,x=.str z/\xs=[.ref l]/\DX X.K H l (ys.map V.str)/\(ys.map (·.length)).sum+ys.length*z.length<=1000000/\Q (.str (Str.join z ys)) H):=by
 intro pins s σ H x vs v us Q I rx rv h;obtain⟨z,l,ys,rfl,rfl,hl,hb,q⟩:=h;obtain⟨t,rfl⟩:=rx;obtain⟨u,rfl,ru⟩:=rv.one;cases ru;obtain⟨aa,rv,p,hz⟩:=I.list hl;refine join_list p.isList (ys:=ys) (by simpa using Kz rv) (by omega) λ t' k=>?_;rw[show Txt.join z ys=Str.join z ys from PySem.StrLaws.glued_eq_join z ys];exact⟨.str _,H,I.tok _,⟨_,rfl⟩,q⟩
noncomputable def Hm:List D->Option (List Str)
 |[]=>some []
 | .str z::r=>(Hm r).map (z::·)
 |_::_=>none
theorem II:∀ys:List Str,Hm (ys.map D.str)=some ys
 |[]=>rfl
 |y::ys=>by rw[zx,Hm,II ys];rfl
theorem IJ:∀ {ds:List D}{ys:List Str},Hm ds=some ys->ds=ys.map D.str
 |[],ys,h=>by cases h;rfl
 |d::r,ys,h=>by
  cases d with
  |str z =>
   unfold Hm at h;obtain⟨es,h1,rfl⟩:=zX.mp h;rw[IJ h1];rfl
  |_=>cases h
theorem IK {K:zb}{H:Hp}:∀ {ys:List Str}{xs:List V},Af K H xs (ys.map D.str)->xs=ys.map V.str
 |[],_,h=>by cases h;rfl
 |y::ys,_,h=>by
  cases h with
  |cons a t=>cases a;rw[IK t];rfl
noncomputable def Mn (d:D):M Str:=match d with | .str z=>.ok z | _=>.bad
noncomputable def KA (z:Str)(y:D):M D:=match y with
 | .lst ds=>(match Hm ds with|some ys=>if (ys.map (·.length)).sum+ys.length*z.length<=1000000 then .ok (.str (Str.join z ys)) else .bad|none=>.bad)
 |_=>.bad
theorem RT (ha:DE X WX true a f)(he:DE X WX true e g)(hs:starEach [e] X.env=[(false,eval e X.env)]:=by rfl)
 (aV:attributeBase a "join" X.env (eval a X.env)=eval a X.env:=by rfl)
 (bF:((backTo ax (starEach [e] X.env)).all (λ x => !x.1)&&(backToKw ax (keywordEach [] X.env)).all (λ x=>x.1.isSome)&&decide (([e]:List Expr).length+([]:List Keyword).length+(if ([]:List Keyword).isEmpty then 0 else 1)<30))=true:=by rfl)
 (aW:(apos.endLine==ax.line)=true:=by rfl) (aB:(backTo ax (starEach [] X.env)).any (·.1)=false:=by rfl):
 DE X WX true (.Call (.Attribute a "join" apos) [e] [] ax) (λ ρ=>(f ρ).bind λ x=>(Mn x).bind λ z=>(g ρ).bind λ y=>KA z y):=by
 obtain⟨ta,a1,a2⟩:=ha;obtain⟨te,e1,e2⟩:=he;refine⟨_,O5 PySem.F.plainAttrs_str PySem.F.slot_str_join PySem.F.type_str_join RS a1 (Ba e1 CT hs) aV bF aW hs aB,λ P0 P σ H Q ρ E h=>?_⟩;dsimp only at h;refine a2 P0 P σ H _ ρ E ?_;cases q1:f ρ with
 |bad|ex x=>rw[q1] at h;exact h
 |ok x =>
  rw[q1] at h;simp only[M.Aa] at h;intro v H1 s1 hv;cases x with
  |str z =>
   simp only[Mn,M.Aa] at h;cases hv;refine⟨rfl,e2 P0 P σ H1 _ ρ (E.same s1) ?_⟩;cases q2:g ρ with
   |bad=>rw[q2] at h;exact h
   |ex x=>rw[q2] at h;exact λ H' s'=>h H' (s1.trans s')
   |ok y =>
    rw[q2] at h;simp only[M.Aa] at h;intro w H2 s2 hw;unfold KA at h;cases y with
    |lst ds =>
     dsimp only at h;cases q3:Hm ds with
     |none=>rw[q3] at h;exact h.elim
     |some ys =>
      rw[q3] at h;dsimp only at h;have e3:=IJ q3;subst e3;by_cases hi:(ys.map (·.length)).sum+ys.length*z.length<=1000000
      ·rw[if_pos hi] at h;cases hw with
       |lst hs hh =>
        have:=IK hh;subst this;exact⟨z,_,ys,rfl,rfl,hs.C4,hi,h _ H2 (s1.trans s2) (.str _)⟩
      ·rw[if_neg hi] at h;exact h.elim
    |_=>exact h.elim
  |_=>exact h.elim
end
section
variable {X:Cx}{WX:Str->Hp->Prop}{c:Bool}{P0:DR}{P:Addr->Prop}{H:Hp}{σ:St}{ρ:A8}{a b e tg:Expr}{f g:A8->M D}{fn:A8->M OT}{pos p apos ax:Pos}{ta te to:TE}
theorem IL:∀(l:List Str) (k:Nat),Vals (l.map V.str) (strsFrom k l)
 |[],_=>.nil
 |y::r,k=>.cons ⟨k,rfl⟩ (IL r (k+1))
theorem G4 {pins:List (Addr×Obj)}{s:Shared}{Q:VK}{l:List Str}{us:List Value}{tk:Nat}(I:Inv X pins σ H s)(r:Vals (l.map V.str) us)(hl:l.length<=200000)(h:∀p,H p=none->Q (.ref p) (upd H p (.lst (l.map V.str)))):
 EP X pins σ Q (.ref s.heap.objs.size) {s with heap:=s.heap.push {cls:=.type "list",data:=.seq us.toArray},toks:=tk}:=
 ⟨.ref s.heap.objs.size,_,I.laid (t':=tk) (o:=.lst (l.map V.str)) (λ b o e=>zw _ e) (zv _) ⟨by rw[zo,sizeLine_eq];omega,us,0,r,zQ _ rfl⟩,rfl,h _ (I.AF.fresh (zv _))⟩
theorem IM (z y:Str):((decide (z.length<y.length)||decide (yp z<yp y))=true->zM z y=[z])/\((decide (z.length<y.length)||decide (yp z<yp y))=false->((zE z y 0 z.length (z.length+1)).isEmpty=true->zM z y=[z])/\
 ((zE z y 0 z.length (z.length+1)).isEmpty=false->zM z y=Builtin.Str.partsBetween z (zE z y 0 z.length (z.length+1)) y.length)):=by
 unfold zM;refine⟨λ h=>if_pos h,λ h=>⟨λ h2=>?_,λ h2=>?_⟩⟩
 ·rw[if_neg (by rw[h];exact yy),if_pos h2]
 ·rw[if_neg (by rw[h];exact yy),if_neg (by rw[h2];exact yy)]
theorem Hn {A:Around}{E:Value->Shared->Prop}{prog:Program}{w:World}{Q:Value->Shared->Prop}{x u:Value}{S:PySem.Spec}(s:Shared)(h:s.TypeIs x "str")(M:Meets (Builtin.«str.split» ⟨[x,u],[]⟩) S)(q:S A (wants Q E) s):wpAny (model prog w) A (call (.builtin "str.split") [x,u]) Q E s:=
 PySem.call_meets PySem.F.slot_str_split h PySem.F.entry_str_split (PySem.F.args_str_split_2 _ _) M q
theorem Ni {pins:List (Addr×Obj)}{s:Shared}{Q:VK}{z y:Str}{t k:Tok}(I:Inv X pins σ H s)(hy:1<=y.length)(hz:z.length<=100000)(q:∀r,H r=none->Q (.ref r) (upd H r (.lst ((zM z y).map V.str)))):
 wpAny (model X.prog X.w) X.A (call (.builtin "str.split") [.str z t,.str y k]) (EP X pins σ Q) X.xe s:=by
 have h9:(y.length==0)=false:=beq_eq_false_iff_ne.mpr (by omega);have hw:=split_weight z y hy;have dX:s.TypeIs (.str z t) "str" := typeIs_str s z t;obtain⟨q1,q2⟩:=IM z y;cases h1:(decide (z.length<y.length)||decide (yp z<yp y)) with
 |true =>
  rw[q1 h1] at q;exact Hn s dX (meets_str_split_cannot_occur z y t k h1) (G4 (us:=[.str z t]) I (.cons ⟨t,rfl⟩ .nil) (Nat.le_of_ble_eq_true rfl) q)
 |false =>
  obtain⟨q3,q4⟩:=q2 h1;cases h2:(zE z y 0 z.length (z.length+1)).isEmpty with
  |true =>
   rw[q3 h2] at q;exact Hn s dX (meets_str_split_not_found z y t k h1 h9 h2) (G4 (us:=[.str z t]) I (.cons ⟨t,rfl⟩ .nil) (Nat.le_of_ble_eq_true rfl) q)
  |false =>
   rw[q4 h2] at q hw;have iM:z.length<=sizeLine:=by rw[sizeLine_eq];omega
   generalize hp:Builtin.Str.partsBetween z (zE z y 0 z.length (z.length+1)) y.length=l at q hw;have dv:l.length<=200000:=by omega
   have ce:l.length<=sizeLine:=by rw[sizeLine_eq];omega
   have M:=meets_str_split_sep z y t k h1 h9 h2 iM (by rw[hp];exact ce);rw[hp] at M;exact Hn s dX M (G4 I (IL _ _) dv q)
theorem Pz:Wv X "str.split" (λ x xs H Q=>∃z y,x=.str z/\xs=[.str y]/\1<=y.length/\z.length<=100000/\∀r,H r=none->Q (.ref r) (upd H r (.lst ((zM z y).map V.str)))):=by
 intro pins s σ H x vs v us Q I rx rv h;obtain⟨z,y,rfl,rfl,hy,hz,q⟩:=h;obtain⟨t,rfl⟩:=rx;obtain⟨u,rfl,k,rfl⟩:=rv.one;exact Ni I hy hz q
theorem KC {K:zb}{H:Hp}:∀l:List Str,Af K H (l.map V.str) (l.map D.str)
 |[]=>.nil
 |y::r=>.cons (.str y) (KC r)
noncomputable def F1 (z:Str)(y:D):M OT:=match y with
 | .str y=>if 1<=y.length/\z.length<=100000 then .ok (.lst (((zM z y).map D.str).map .sh)) else .bad
 |_=>.bad
theorem Eg (ha:DE X WX true a f)(he:DE X WX true e g)(hs:starEach [e] X.env=[(false,eval e X.env)]:=by rfl)
 (aV:attributeBase a "split" X.env (eval a X.env)=eval a X.env:=by rfl)
 (bF:((backTo ax (starEach [e] X.env)).all (λ x => !x.1)&&(backToKw ax (keywordEach [] X.env)).all (λ x=>x.1.isSome)&&decide (([e]:List Expr).length+([]:List Keyword).length+(if ([]:List Keyword).isEmpty then 0 else 1)<30))=true:=by rfl)
 (aW:(apos.endLine==ax.line)=true:=by rfl) (aB:(backTo ax (starEach [] X.env)).any (·.1)=false:=by rfl):
 DN X WX (.Call (.Attribute a "split" apos) [e] [] ax) (λ ρ=>(f ρ).bind λ x=>(Mn x).bind λ z=>(g ρ).bind λ y=>F1 z y):=by
 obtain⟨ta,a1,a2⟩:=ha;obtain⟨te,e1,e2⟩:=he;refine⟨_,O5 PySem.F.plainAttrs_str PySem.F.slot_str_split PySem.F.type_str_split Pz a1 (Ba e1 CT hs) aV bF aW hs aB,λ P0 P σ H Q ρ E h=>?_⟩;dsimp only at h;refine a2 P0 P σ H _ ρ E ?_;cases q1:f ρ with
 |bad|ex x=>rw[q1] at h;exact h
 |ok x =>
  rw[q1] at h;simp only[M.Aa] at h;intro v H1 s1 hv;cases x with
  |str z =>
   simp only[Mn,M.Aa] at h;cases hv;refine⟨rfl,e2 P0 P σ H1 _ ρ (E.same s1) ?_⟩;cases q2:g ρ with
   |bad=>rw[q2] at h;exact h
   |ex x=>rw[q2] at h;exact λ H' s'=>h H' (s1.trans s')
   |ok y =>
    rw[q2] at h;simp only[M.Aa] at h;intro w H2 s2 hw;unfold F1 at h;cases y with
    |str y =>
     dsimp only at h;by_cases hi:1<=y.length/\z.length<=100000
     ·rw[if_pos hi] at h;cases hw;exact⟨z,y,rfl,rfl,hi.1,hi.2,h.Ko (s1.trans s2) (KC _)⟩
     ·rw[if_neg hi] at h;exact h.elim
    |_=>exact h.elim
  |_=>exact h.elim
theorem str_len (x y:Str):(x++y).length=x.length+y.length:=by
 show (x.cps++y.cps).size=_;rw[Array.size_append];rfl
noncomputable def Xu (x:Str):It:=⟨λ i _=>i<x.cps.size,λ i H v H'=>H'=H/\∃k,x.cps[i]?=some k/\v=.str ⟨#[k]⟩,λ i _=>x.cps.size<=i⟩
theorem PB {P:Program}{w:World}{K:zb}{tg:Expr}(it:Addr)(x:Str)(t:Tok):Turn P w K tg (Xu x) [it] it (λ i h=>h.IsStrIter it "str_ascii_iterator" x t i) where
 mem:=by simp
 obj:=λ i h st b hb=>by
  have e:b=it:=by simpa using hb
  subst e;obtain⟨o,h1,h2,h3⟩:=st;exact⟨o,h1,λ v z=>by rw[h3] at z;cases z⟩
 keep:=λ i h h' st k=>let ⟨o,h1,r⟩:=st;⟨o,k it (by simp) o h1,r⟩
 item:=by
  intro X hP hw hK hc i pins s σ H E I hf st hg;subst hP hw hK;obtain⟨f0,f1,f2,f3,f4,f5⟩:=hf it (by simp);have hk:x.cps[i]?=some (x.cps[i]'hg):=Array.getElem?_eq_getElem hg;refine wpAny_pyNext_ascii_item st hk λ h' bS sb=>?_;have I1:Inv X pins σ H {s with heap:=h',toks:=s.toks+1}:=I.turned (λ b o hb e=>sb.extBut b o hb e) f0 f1 f3 f4 f5;obtain⟨o,g1,g2,g3⟩:=id bS;refine⟨_,rfl,NP (s:={s with heap:=h',toks:=s.toks+1}) (n := "str_ascii_iterator") g1 g2 g3 (by decide) ⟨.str _,H,I1,⟨_,rfl⟩,⟨rfl,_,hk,rfl⟩,bS,λ b hb=>(hf b hb).1⟩⟩
 done:=by
  intro X hP hw hK hc i pins s σ H E I hf st hg;subst hP hw hK;obtain⟨f0,f1,f2,f3,f4,f5⟩:=hf it (by simp);exact wpAny_pyNext_ascii_end (I.ok.hd hc) st (Array.getElem?_eq_none hg) λ h' eb=>⟨rfl,I.turned (t':=s.toks) (λ b o hb e=>eb b o hb e) f0 f1 f3 f4 f5⟩
 self:=λ _ _ _ _ _ st h=>wpAny_pyIter_striter_ascii st h
noncomputable def WZ (te:TE):TI:=λ σ H R=>te σ H λ v H1=>∃x,v=.str x/\(x.cps.all λ k=>decide (k<128))=true/\R (Xu x) H1
theorem U2 (he:PE X e te):PI X tg e (WZ te):=by
 intro pins s σ H R I h;refine AX (he pins s σ H _ I h) λ v s1 ⟨y,H1,I1,r1,x,ey,ha,q⟩=>?_;subst ey;obtain⟨t,rfl⟩:=r1;refine wpAny_pyIter_ascii ha ?_;refine⟨s1.heap.objs.size,[s1.heap.objs.size],_,_,H1,rfl,I1.kept (t':=s1.toks) λ b o e=>zw _ e,PB _ x t,⟨_,zQ _ rfl,rfl,rfl⟩,λ b hb=>?_,q⟩;have e:b=s1.heap.objs.size:=by simpa using hb
 subst e;exact I1.SV (zv _) (I1.AF.fresh (zv _))
noncomputable def W6 (x:Str):List D:=x.cps.toList.map λ k=>D.str ⟨#[k]⟩
noncomputable def W7 (d:D):M (List D):=match d with
 | .str x=>if (x.cps.all λ k=>decide (k<128))=true then .ok (W6 x) else .bad
 |_=>.bad
theorem PD (he:DE X WX true e f):DI X WX tg e (λ ρ=>(f ρ).bind W7):=by
 obtain⟨te,e1,e2⟩:=he;refine⟨_,U2 e1,λ P0 P σ H R ρ E h=>?_⟩;dsimp only at h;refine e2 P0 P σ H _ ρ E ?_;cases q:f ρ with
 |bad|ex x=>rw[q] at h;exact h
 |ok d =>
  rw[q] at h;simp only[M.Aa] at h;intro v H1 s1 hv;unfold W7 at h;cases d with
  |str x =>
   dsimp only at h;cases hv;by_cases hi:(x.cps.all λ k=>decide (k<128))=true
   ·rw[if_pos hi] at h;have hl:(W6 x).length=x.cps.size:=by unfold W6;rw[zo,yr]
    refine⟨x,rfl,hi,h _ H1 s1 ⟨λ i P' H' s hi=>by rw[hl] at hi;exact hi,λ i P' H' s hi=>by rw[hl] at hi;exact hi,λ i P' H' v dD d s ht hd y=>?_⟩⟩;obtain⟨rfl,k,hk,rfl⟩:=y;unfold W6 at hd;rw[zR,y0,hk] at hd;cases hd;exact⟨A9.refl _,.str _⟩
   ·rw[if_neg hi] at h;exact h.elim
  |_=>exact h.elim
end
theorem IP {f:Int->Int->M D}{a b:Int}:As f (.int a) (.int b)=f a b:=rfl
theorem KD {bs:List Bool}:OI [.lst (bs.map D.bl)]=.ok (.bl (bs.all id)):=by unfold OI;dsimp only;rw[GV]
theorem PF {bs:List Bool}:Vk [.lst (bs.map D.bl)]=.ok (.bl (bs.any id)):=by unfold Vk;dsimp only;rw[GV]
theorem EE {a b:List D}(h:a.length+b.length<=1000):Mg (.lst a) (.lst b)=.ok (.lst ((a++b).map .sh)):=if_pos h
noncomputable def HN (d:D)(n:Int):Bool:=match d with
 | .int j=>decide (0<=j)&&decide (j<n)
 |_=>false
theorem X0 {ρ:A8}:Kr 0 (none::ρ)=none::ρ:=rfl
theorem PH:∃T Q:Int,HL (.int 10) (.int 60)=.ok (.int T)/\HL (.int 982451653) (.int 7)=.ok (.int Q)/\1000000<T/\T.natAbs<2^200/\0<Q/\Q.natAbs<2^250:=⟨10^60,982451653^7,rfl,rfl,by decide,by decide,by decide,by decide⟩
noncomputable def Bg:Int:=zu PH
theorem IQ:∃Q:Int,HL (.int 10) (.int 60)=.ok (.int Bg)/\HL (.int 982451653) (.int 7)=.ok (.int Q)/\1000000<Bg/\Bg.natAbs<2^200/\0<Q/\Q.natAbs<2^250:=ze PH
noncomputable def Q7:Int:=zu IQ
theorem Gk:HL (.int 10) (.int 60)=.ok (.int Bg):=(ze IQ).1
theorem VO:HL (.int 982451653) (.int 7)=.ok (.int Q7):=(ze IQ).2.1
theorem CZ:1000000<Bg:=(ze IQ).2.2.1
theorem LD:Bg.natAbs<2^200:=(ze IQ).2.2.2.1
theorem VP:Q7.natAbs<2^250:=(ze IQ).2.2.2.2.2
theorem Ju {i j:Int}{k l:Nat}(hi:i.natAbs<2^k)(hk:k<=1000)(hj:j.natAbs<2^l)(hl:l<=1000):H9 (.int i) (.int j)=.ok (.int (i*j)):=
 OL (.inl ⟨zD (bits_le hi) (zD hk (by decide)),zD (bits_le hj) (zD hl (by decide))⟩)
theorem Jv {i j:Int}{k:Nat}(h0:0<=i)(h:i<=j)(hj:j.natAbs<2^k):i.natAbs<2^k:=by omega
theorem Gx {i:Int}:CI (.int i) (.int Bg)=.ok (.int (i%Bg)):=AB (by have:=CZ;omega)
theorem KG {i:Int}:CI (.int i) (.int (Bg+7))=.ok (.int (i%(Bg+7))):=AB (by have:=CZ;omega)
def cl:Nat->D->Prop
 |0,d=>ND d=false
 |n+1,d=>ND d=false/\∀ds,(d=.tup ds\/d=.lst ds)->∀e∈ds,cl n e
theorem cl.x {n:Nat}{d:D}(h:cl n d):ND d=false:=by cases n with | zero=>exact h | succ n=>exact h.1
theorem PJ {n:Nat}{ds:List D}(h:∀e∈ds,cl n e):cl (n+1) (.tup ds):=⟨rfl,λ es e x hx=>by rcases e with e | e<;>cases e;exact h x hx⟩
theorem U5 {n:Nat}{ds:List D}(h:∀e∈ds,cl n e):cl (n+1) (.lst ds):=⟨rfl,λ es e x hx=>by rcases e with e | e<;>cases e;exact h x hx⟩
theorem Mo {n:Nat}{d:D}(h:ND d=false)(h2:∀ds,d≠.tup ds)(h3:∀ds,d≠.lst ds):cl n d:=by
 cases n with
 |zero=>exact h
 |succ n=>exact⟨h,λ ds e=>by rcases e with e|e;exact (h2 ds e).elim;exact (h3 ds e).elim⟩
theorem Ho {n:Nat}{i:Int}:cl n (.int i):=Mo rfl (λ _ h=>by cases h) (λ _ h=>by cases h)
theorem U6 {n:Nat}:cl n .Ar:=Mo rfl (λ _ h=>by cases h) (λ _ h=>by cases h)
theorem U7 {n:Nat}{l:Option Int}:cl n (BX l):=by cases l;exact U6;exact Ho
theorem PK {n:Nat}:∀e∈([]:List D),cl n e:=λ e h=>by cases h
theorem EF {n:Nat}{d:D}{ds:List D}(h:cl n d)(t:∀e∈ds,cl n e):∀e∈d::ds,cl n e:=λ e he=>by
 rcases zp.mp he with rfl|he
 ·exact h
 ·exact t e he
theorem VQ {n:Nat}{r:Road}:cl (n+1) (ED r):=PJ (EF Ho (EF Ho (EF U7 (EF Ho PK))))
theorem U8 {n:Nat}{rs:List Road}:∀e∈rs.map ED,cl (n+1) e:=λ e he=>by
 obtain⟨r,_,rfl⟩:=y6.mp he;exact VQ
noncomputable def Cs (m:Int):D->Bool
 | .tup [a,b,l,w]=>HN a m&&(HN b m&&(!Ak a b&&((Av l||HN l Bg)&&HN w Bg)))
 |_=>false
noncomputable def DL:D->Bool
 | .tup [.int m,.lst rs]=>(HN (.int m) 17 && !decide (m=0))&&(decide (rs.length<=60)&&(rs.map (Cs m)).all id)
 |_=>false
theorem Nj {n:D}:DL (.tup [n])=false:=by cases n<;>rfl
theorem LF {n r z:D}{t:List D}:DL (.tup (n::r::z::t))=false:=by cases n<;>cases r<;>rfl
structure G5 (m:Nat)(r:Road):Prop where
 a0:0<=r.a
 a1:r.a<m
 b0:0<=r.b
 b1:r.b<m
 ab:r.a≠r.b
 l0:∀l,r.l=some l->0<=l/\l<Bg
 w0:0<=r.w
 w1:r.w<Bg
theorem Mp {i n:Int}(h0:0<=i)(h1:i<n):HN (.int i) n=true:=by unfold HN;simp[h0,h1]
theorem EG {p:D->Prop}{S A:List D}(h:∀y∈S,p y)(k:∀y∈A,p y):∀y∈S++A,p y:=λ y hy=>by
 rcases zy.mp hy with hy|hy
 ·exact h y hy
 ·exact k y hy
theorem all_cons {p:D->Prop}{d:D}{A:List D}(h:p d)(k:∀y∈A,p y):∀y∈d::A,p y:=λ y hy=>by
 rcases zp.mp hy with rfl|hy
 ·exact h
 ·exact k y hy
theorem all_nil {p:D->Prop}:∀y∈([]:List D),p y:=λ y hy=>by cases hy
section
variable {α β:Type}{a b c d e f g:α}{x y:β}
theorem X1:(if [a,b,c,d,e].length<=1000 then x else y)=x:=rfl
theorem X2:(if [a,b,c,d,e,f].length<=1000 then x else y)=x:=rfl
theorem X3:(if [a,b,c,d,e,f,g].length<=1000 then x else y)=x:=rfl
theorem RU {t:Bool}:er (.C7 t [] [])=.C7 t [] []:=by simp[er,Gu]
end
noncomputable abbrev LA:=List ((Int×Int)×((Int×Int)×Option Int))
noncomputable def X4 (v:(Int×Int)×Option Int):D:=.tup [cst (some v.1),BX v.2]
noncomputable def XS (A:LA):D:=.C7 true (A.map λ kv=>pD kv.1) (A.map λ kv=>X4 kv.2)
noncomputable def Xv (A:LA):OT:=.C7 true (A.map λ kv=>pD kv.1) ((A.map λ kv=>X4 kv.2).map .sh)
noncomputable abbrev CA:=List ((Int×Int)×(Int×Int))
noncomputable def XT (C:CA):D:=.C7 true (C.map λ kv=>pD kv.1) (C.map λ kv=>cst (some kv.2))
noncomputable def XU (C:CA):OT:=.C7 true (C.map λ kv=>pD kv.1) ((C.map λ kv=>cst (some kv.2)).map .sh)
noncomputable abbrev RA:=List (Int×(Int×Int))
noncomputable def XW (R:RA):D:=.C7 false (R.map λ kv=>D.int kv.1) (R.map λ kv=>cst (some kv.2))
noncomputable def Xw (R:RA):OT:=.C7 false (R.map λ kv=>D.int kv.1) ((R.map λ kv=>cst (some kv.2)).map .sh)
theorem U9 (A:LA):er (Xv A)=XS A:=Js
theorem Ua (C:CA):er (XU C)=XT C:=Js
theorem Ub (R:RA):er (Xw R)=XW R:=Js
theorem Nk {A:LA}{p:Option Nat}{ρ:A8}:IG 0 (some (.ow (.tree p (Xv A)))::ρ) []=.ok (true,A.map (λ kv=>pD kv.1),A.map λ kv=>X4 kv.2):=F0
theorem Nl {R:RA}{p:Option Nat}{ρ:A8}:IG 0 (some (.ow (.tree p (Xw R)))::ρ) []=.ok (false,R.map (λ kv=>D.int kv.1),R.map λ kv=>cst (some kv.2)):=F0
theorem RV (c:Co):XJ (.ok (.sh (cst c)))=.ok (.sh (cst c)):=by
 cases c<;>rfl
theorem X5 {α:Type}{a b c d e f g h:D}{x y:α}:(if [a,b,c,d,e,f,g,h].length<=1000 then x else y)=x:=if_pos (by simp)
theorem VR (r:Road):dp (.ok (ED r))=.ok (ED r):=by
 obtain⟨a,b,l,w⟩:=r;cases l<;>rfl
theorem Uc (i:Int):dp (.ok (.int i))=.ok (.int i):=rfl
noncomputable def jn (y:List Nat):List (List Nat)->List Nat
 |[]=>[]
 |[p]=>p
 |p::q::r=>p++y++jn y (q::r)
noncomputable abbrev tl (x:Str):List Nat:=x.cps.toList
theorem Jw (x y:Str):tl (x++y)=tl x++tl y:=by
 show (x.cps++y.cps).toList=_;rw[Array.toList_append]
theorem LG {x y:Str}(h:tl x=tl y):x=y:=by
 obtain⟨a⟩:=x;obtain⟨b⟩:=y;exact congrArg Str.mk (Array.toList_inj.mp h)
theorem Bh (x:Str):(tl x).length=x.length:=yr
theorem EH (y:Str):∀ps:List Str,tl (Str.join y ps)=jn (tl y) (ps.map tl)
 |[]=>rfl
 |[p]=>rfl
 |p::q::r=>by
  show tl (p++y++Str.join y (q::r))=_;rw[Jw,Jw,EH y (q::r)];rfl
theorem Dd (x y:Str)(hy:1<=y.length):zM x y≠[]:=λ h=>by
 have e:=PySem.StrLaws.join_split x y;rw[h] at e;have e2:x=Str.empty:=e.symm;have e3:x.length=0:=by rw[e2];rfl
 rw[(IM x y).1 (by rw[Bool.or_eq_true];exact .inl (decide_eq_true (by omega)))] at h;cases h
open PySem PySem.Spec PyProof.Rows PySem.NumText
noncomputable def dg (m:Nat):List Nat:=(Nat.toDigits 10 m).map Char.toNat
theorem PL:∀d:Nat,d<10->(Nat.digitChar d).toNat=48+d:=by decide
theorem Hq {m:Nat}(h:m<10):dg m=[48+m]:=by
 unfold dg;rw[Nat.toDigits_of_lt_base h,zx,PL m h];rfl
theorem Jx {m:Nat}(h:¬ m<10):dg m=dg (m / 10)++[48+m%10]:=by
 have hm:m%10<10:=Nat.mod_lt m (by decide);have t:Nat.toDigits 10 (m / 10)++Nat.toDigits 10 (m%10)=Nat.toDigits 10 (10*(m / 10)+m%10):=Nat.toDigits_append_toDigits (by decide) (by omega) hm;rw[Nat.div_add_mod] at t;unfold dg;rw[<-t,List.map_append,Nat.toDigits_of_lt_base hm,zx,PL _ hm];rfl
theorem PM (m:Nat):∀c∈dg m,48<=c/\c<=57:=by
 induction m using Nat.strongRecOn with
 |_ m ih =>
  intro c hc;by_cases h:m<10
  ·rw[Hq h] at hc;rw[zB.mp hc];omega
  ·rw[Jx h] at hc;rcases zy.mp hc with hc|hc
   ·exact ih _ (by omega) c hc
   ·rw[zB.mp hc];omega
theorem PN:∀(k m:Nat),m<10^(k+1)->1<=(dg m).length/\(dg m).length<=k+1:=by
 intro k;induction k with
 |zero =>
  intro m h;rw[Hq (by omega)];exact⟨zv _,zv _⟩
 |succ k ih =>
  intro m h;by_cases h1:m<10
  ·rw[Hq h1];exact⟨zv _,by show 1<=k+1+1;omega⟩
  ·rw[Jx h1,zq];have:=ih (m / 10) (by rw[Nat.pow_succ] at h;omega);show 1<=_+1/\_+1<=k+1+1;omega
noncomputable def nS (i:Int):Str:=zc (toString i)
theorem IR {i:Int}(h:0<=i):tl (nS i)=dg i.toNat:=by
 obtain⟨m,rfl⟩:=Int.eq_ofNat_of_zero_le h;unfold nS;rw[Int.toNat_natCast];exact PySem.W.KIN.signs_num m
theorem Mq {i:Int}(h0:0<=i)(h1:i<Bg):i.toNat<10^(59+1):=by
 have e:Bg=((10^(59+1):Nat):Int):=by
  have e:=Gk.symm.trans (show HL (.int 10) (.int 60)=.ok (.int ((10^(59+1):Nat):Int)) from rfl);injection e with e
  injection e
 rw[e] at h1;omega
theorem C2 {i:Int}(h0:0<=i)(h1:i<Bg):1<=(nS i).length/\(nS i).length<=60:=by
 rw[<-Bh,IR h0];exact PN 59 _ (Mq h0 h1)
theorem LH {i:Int}(h0:0<=i)(h1:i<Bg):PySem.intText? (nS i)=some i:=by
 have hd:AllDigits (nS i).cps.toList:=λ c hc=>PM _ c (by rw[<-IR h0];exact hc);have hl:=C2 h0 h1;have ay:(nS i).cps.toList≠[]:=λ e=>by
  have:(tl (nS i)).length=0:=by unfold tl;rw[e];rfl
  rw[Bh] at this;omega
 have e:=intText_digits hd ay (by omega);have e2:(nS i).cps.toList=dg i.toNat:=IR h0;rw[e2] at e;have e3:digitsVal (dg i.toNat)=i.toNat:=PySem.W.KIN.val_back _;rw[e3] at e;rw[e];congr 1;omega
theorem RW {i:Int}(h0:0<=i)(h1:i<Bg):i.natAbs.log2<1920:=by
 have h2:=Mq h0 h1;have e:i.natAbs=i.toNat:=by omega
 rw[e];by_cases hz:i.toNat=0
 ·rw[hz];decide
 ·refine (Nat.log2_lt hz).mpr (Nat.lt_trans h2 ?_)
  decide +kernel
theorem FE {i:Int}(h0:0<=i)(h1:i<Bg):Md [.int i]=.ok (.str (nS i)):=if_pos (RW h0 h1)
theorem Jy {n:Nat}(x:Str):Pl n (.str x):=⟨zZ _,rfl⟩
theorem Jz (x y:Str):Oe 16 (.str x) (.str y)=.ok (.bl (x==y)):=by
 rw[Lq (Jy x) (Jy y)];rfl
theorem FF (x y:Str):Sl 16 (.str x) (.str y)=.ok (.bl (!(x==y))):=by
 rw[OG (Jy x) (Jy y)];rfl
theorem str_beq {x y:Str}(h:x≠y):(x==y)=false:=beq_eq_false_iff_ne.mpr h
noncomputable def lS (l:Option Int):Str:=match l with | none=>zc "-" |some z=>nS z
noncomputable def Uy (r:Road):List Str:=[zc "road",nS r.a,nS r.b,lS r.l,nS r.w]
noncomputable def Ld (r:Road):Str:=Str.join (zc " ") (Uy r)
noncomputable def Ud (m:Int)(rs:List Road):Str:=Str.join (zc "; ") ((zc "places " ++ nS m)::rs.map Ld)
section
variable {m:Nat}{r:Road}{rs:List Road}
theorem LI {l:Option Int}(h:∀z,l=some z->0<=z/\z<Bg):1<=(lS l).length/\(lS l).length<=60:=by
 cases l with
 |none=>exact⟨by decide,by decide⟩
 |some z=>exact C2 (h z rfl).1 (h z rfl).2
theorem IS {i:Int}{k:Nat}(h:i<k)(hk:k<=1000000):i<Bg:=by
 have:=CZ;omega
theorem RX (hm:m<=16)(ok:G5 m r):∀p∈Uy r,p.length<=60:=by
 intro p hp;simp only[Uy,zp,List.not_mem_nil,or_false] at hp;rcases hp with rfl|rfl|rfl|rfl|rfl
 ·decide
 ·exact (C2 ok.a0 (IS ok.a1 (by omega))).2
 ·exact (C2 ok.b0 (IS ok.b1 (by omega))).2
 ·exact (LI ok.l0).2
 ·exact (C2 ok.w0 ok.w1).2
theorem LJ {y:List Nat}{B:Nat}:∀ {ps:List (List Nat)},(∀p∈ps,p.length<=B)->(jn y ps).length<=ps.length*(B+y.length)
 |[],_=>zZ _
 |[p],hf=>by
  have:=hf p zf;show p.length<=1*(B+y.length);omega
 |p::q::r,hf=>by
  have h1:=hf p zf;have h2:=LJ (y:=y) (ps:=q::r) (λ z hz=>hf z (zg _ hz));show (p++y++jn y (q::r)).length<=_;rw[zq,zq];have e:(p::q::r).length*(B+y.length)=(q::r).length*(B+y.length)+(B+y.length):=by rw[zi,Nat.succ_mul]
  omega
theorem RY (hm:m<=16)(ok:G5 m r):(Ld r).length<=305:=by
 rw[<-Bh];unfold Ld;rw[EH];have:=LJ (y:=tl (zc " ")) (B:=60) (ps:=(Uy r).map tl) λ p hp=>by
  obtain⟨q,hq,rfl⟩:=y6.mp hp;rw[Bh];exact RX hm ok q hq
 exact zD this (by rw[zo];exact zv _)
theorem JA {i:Int}(h0:0<=i)(h1:i<Bg):(zc "places " ++ nS i).length<=67:=by
 rw[str_len];have:=(C2 h0 h1).2;have e:(zc "places ").length=7:=by decide
 omega
theorem PP {B:Nat}:∀ {ps:List Str},(∀p∈ps,p.length<=B)->(ps.map (·.length)).sum<=ps.length*B
 |[],_=>zZ _
 |p::r,h=>by
  have h1:=h p zf;have h2:=PP (ps:=r) λ z hz=>h z (zg _ hz);rw[zx,List.sum_cons,zi,Nat.succ_mul];show p.length+_<=_;omega
theorem PQ {z:Str}{ys:List Str}{B:Nat}(h:∀p∈ys,p.length<=B)(hb:ys.length*B+ys.length*z.length<=1000000):KA z (.lst (ys.map D.str))=.ok (.str (Str.join z ys)):=by
 unfold KA;dsimp only;rw[II];dsimp only;rw[if_pos (by have:=PP h;omega)]
theorem Nm (h1:1<=m)(hm:m<=16)(AF:∀r∈rs,G5 m r):∀p∈(zc "places " ++ nS m)::rs.map Ld,p.length<=305:=by
 intro p hp;rcases zp.mp hp with rfl|hp
 ·exact zD (JA (by omega) (by have:=CZ;omega)) (by omega)
 ·obtain⟨r,hr,rfl⟩:=y6.mp hp;exact RY hm (AF r hr)
theorem Mr:zc "road " ++ nS r.a++zc " " ++ nS r.b++zc " " ++ lS r.l++zc " " ++ nS r.w=Ld r:=by
 apply LG;unfold Ld;rw[EH];simp only[Jw];have e:tl (zc "road ")=tl (zc "road")++tl (zc " "):=by decide +kernel
 rw[e];simp only[Uy,zx,List.map_nil,jn,List.append_assoc]
end
theorem PR {M:Model}{A:Around}{E:Value->Shared->Prop}{s:Shared}{base:Heap}{env:Env}{outer:List Env}{L e:Addr}{cls a0 fl:Value}{Q:Unit->Shared->Prop}
 (fM:A.frames=some (env::outer)) (hf:env.frame=some L) (hl:s.heap.FunFrames base (env::outer)) (ht:s.heap.TracedAtW base e cls a0 fl) (hG:base.StaysIn s.heap) (fN:base.get? e=none)
 (hQ:∀h',Heap.HeldW base (env::outer) e cls a0 L h'->s.heap.UpToSlots h'->Q () {s with heap:=h' }):wpAny M A (noteFrame (.ref e) env) Q E s:=by
 by_cases hL:fl=rawInt L
 ·subst hL;exact wpAny_noteFrame_againW hf ht (hQ s.heap ⟨hG,fN,hl,ht⟩ (.refl _))
 ·obtain⟨oe,vs,T,oT,ts,he,⟨hc,h0⟩,hd,h1,iN,iO,hT,fO,h3⟩:=ht;subst hc;have ne:∀ {b o},s.heap.get? b=some o->(∀v,o.data≠.fields v)->b≠T:=λ hb hn z=>by
   rw[z,hT] at hb;cases hb;exact hn ts fO
  have cK:∀b,b≠T->(s.heap.update T (Obj.mapFields (·.setIfInBounds 3 .none))).get? b=s.heap.get? b:=λ b hb=>yw _ _ (Ne.symm hb);unfold noteFrame;simp only[hf];refine wpAny_bind (wpAny_field he hd h1 ?_);rw[if_pos (by simp)];refine wpAny_bind (wpAny_field hT fO h3 ?_);rw[if_neg (by simpa using hL)];refine wpAny_bind (wpAny_setField hT fO (Array.getElem?_eq_some_iff.mp h3).1 ?_);exact wpAny_entryW fM (hl.of_keeps λ b o hb hn=>⟨o,(cK b (ne hb hn)).trans hb,rfl⟩) hf ((cK e (Ne.symm iO)).trans he) (λ b o q=>(cK b λ z=>by rw[z,iN] at q;cases q).trans (hG b o q)) fN hd (Array.getElem?_eq_some_iff.mp h1).1 h0
   λ h' ⟨x1,x2,x3,x4⟩=>hQ h' ⟨x1,fN,x2,x3⟩ λ b o hb hn=>x4 b o ((cK b (ne hb hn)).trans hb) hn
def VS (X:Cx)(C:Addr):Value->Shared->Prop:=λ x s'=>∃m,s'.heap.Ns C m/\∀h',Heap.SameBut C s'.heap h'->∀be:Env,be.locals=C->wpAny (model X.prog X.w) X.A (passOn "comprehension.variables-let-go" x be:Sem Value) (λ _ _=>False) X.xe {s' with heap:=h' }
noncomputable def Aw (X:Cx)(s:Shared)(H:Hp)(scope:Scope)(C:Addr)(NB:List Str)(ex:List Addr):Cx:=
 {blockOf X s H scope C NB ex with xe:=notedBy (model X.prog X.w) X.A (compEnvC scope (CU X.env.cells scope.names []) C X.env) (VS X C)}
theorem Inv.toX {X:Cx}{pins:List (Addr×Obj)}{σ:St}{H H2:Hp}{s s2:Shared}{scope:Scope}{C:Addr}{NB:List Str}{ex:List Addr}(J:Inv (blockOf X s2 H2 scope C NB ex) pins σ H s):Inv (Aw X s2 H2 scope C NB ex) pins σ H s:=
 ⟨J.ok.re _ _,J.os,J.bare,J.base,J.loc,J.cell,J.free,J.BN,J.pin,J.AF,J.len⟩
theorem Inv.XX {X:Cx}{pins:List (Addr×Obj)}{σ:St}{H H2:Hp}{s s2:Shared}{scope:Scope}{C:Addr}{NB:List Str}{ex:List Addr}(J:Inv (Aw X s2 H2 scope C NB ex) pins σ H s):Inv (blockOf X s2 H2 scope C NB ex) pins σ H s:=
 ⟨J.ok.WJ,J.os,J.bare,J.base,J.loc,J.cell,J.free,J.BN,J.pin,J.AF,J.len⟩
section
variable {P:Program}{w:World}{K:zb}{mg:Str->Option Value}{base:Heap}{N:List Str}{qual:Str}{scope:Scope}{f:Addr}{cd:Value}{A:Around}{outer:List Env}{s:Shared}{H:Hp}{E:XK}
theorem Ue {pins:List (Addr×Obj)}{σ:St}{H1:Hp}{s1:Shared}{h' B:Heap}{ea c:Addr}{a0:Value}{hid:List Addr}(J:Inv (Fw P w K mg base N qual scope f cd A outer s H E) pins σ H1 s1)
 (hB:∀b o,s1.heap.get? b=some o->b∉BS (envOfC qual scope s.heap.objs.size f cd::outer)->b∉hid->B.get? b=some o) (fG:base.StaysIn B)
 (hh:∀b∈hid,H1 b=none/\s.heap.get? b=none) (hT:∀b,B.get? b=none->b∉BS (envOfC qual scope s.heap.objs.size f cd::outer)->H1 b=none/\s.heap.get? b=none)
 (fH:s.heap.get? ea=none) (dh:H1 ea=none) (F:Heap.FlyingW B outer ea (.ref c) a0 h') (bH:∀b∈BS (envOfC qual scope s.heap.objs.size f cd::outer),∀o,s1.heap.get? b=some o->(∀vs,o.data≠.fields vs)->∃sl,h'.get? b=some {o with slots:=sl}) (q:E (.ref c) none H1):
 Qg P w base outer H s E (.ref ea) {s1 with heap:=h' }:=by
 have cy:∀b∈BS outer,∃o,s1.heap.get? b=some o/\∀vs,o.data≠.fields vs:=λ b hb=>(J.DQ.mem hb).2;have cg:∀b o,s.heap.get? b=some o->b≠s.heap.objs.size:=λ b o e=>zG (zk e);have Le:∀b,b∈BS (envOfC qual scope s.heap.objs.size f cd::outer)->b=s.heap.objs.size\/b∈BS outer:=λ b hb=>by
  have fI:b∈s.heap.objs.size::BS outer:=hb;exact zp.mp fI
 have e7:∀b,b∈BS outer->b∈BS (envOfC qual scope s.heap.objs.size f cd::outer):=λ b hb=>zg (s.heap.objs.size) hb;have U:Un (BS outer) [] H H1 s.heap s1.heap:=J.base;have aL:∀b o,s.heap.get? b=some o->b∉hid:=λ b o e hb=>by rw[(hh b hb).2] at e;cases e
 have b5:∀b o,H1 b≠none->s1.heap.get? b=some o->h'.get? b=some o:=λ b o hn e=>by
  refine F.1 b o (hB b o e (λ hb=>?_) (λ hb=>hn (hh b hb).1));exact hn (J.Fh b hb)
 refine⟨ea,c,H1,rfl,J.os,J.bare,⟨λ b o e n hb hx=>?_,λ b o e n hb hx=>?_,U.free,λ b o e hx=>?_,U.Ff,U.ES,U.Fg⟩,λ b ob e=>?_,⟨⟨a0,?_⟩,fH,dh,λ oe vs T h1 h2 h3=>?_⟩,q⟩
 ·refine F.1 b o (hB b o (U.keep b o e n hb hx) (λ z=>?_) (aL b o e));rcases Le b z with z|z
  ·exact cg b o e z
  ·exact hb z
 ·obtain⟨sl,e1⟩:=U.slot b o e n hb hx;obtain⟨o2,e2,nf⟩:=cy b hb;rw[e1] at e2;obtain⟨bC,e3⟩:=bH b (e7 b hb) _ e1 (by cases e2;exact nf);exact⟨bC,e3⟩
 ·obtain⟨o',e1⟩:=U.there b o e hx;by_cases hb:b∈BS outer
  ·obtain⟨o2,e2,nf⟩:=cy b hb;obtain⟨bC,e3⟩:=bH b (e7 b hb) _ e2 nf;exact⟨_,e3⟩
  ·refine⟨o',F.1 b o' (hB b o' e1 (λ z=>?_) (aL b o e))⟩;rcases Le b z with z|z
   ·exact cg b o e z
   ·exact hb z
 ·refine (J.AF b ob e).GB (λ x v hx q=>b5 x v ?_ q) (λ _ q=>q) λ _ _ q=>q;rcases hx with rfl|hx
  ·rw[e];intro z;cases z
  ·rw[hx];intro z;cases z
 ·exact PySem.W.flyingW_base fG F
 ·obtain⟨_,_,ff,iD,iE,T',oT,ts,k1,k2,k3,k4,k5,k6,k7,k8,k9⟩:=F;rw[show ({s1 with heap:=h' }:Shared).heap.get? ea=h'.get? ea from rfl,k1] at h1;cases h1;rw[k3] at h2;cases h2;rw[k4] at h3;cases h3;refine hT T k5 λ hb=>?_;rcases Le T hb with z|z
  ·obtain⟨m,⟨oL,es,ep,dN,di,_⟩,_⟩:=J.loc;obtain⟨sl,e3⟩:=bH s.heap.objs.size (z▸hb) oL dN λ vs zz=>by rw[di] at zz;cases zz
   rw[<-z,k7] at e3;cases e3;rw[show oL.data=_ from k8] at di;cases di
  ·obtain⟨o2,e2,nf⟩:=cy T z;obtain⟨sl,e3⟩:=bH T hb o2 e2 nf;rw[k7] at e3;cases e3;exact nf ts k8
theorem PV {pins:List (Addr×Obj)}{σ:St}{H2:Hp}{s2:Shared}{az:Scope}{C:Addr}{NB:List Str}{fp:List Addr}(I:Inv (Fw P w K mg base N qual scope f cd A outer s H E) pins σ H2 s2)(cw:∀b∈fp,ET (Fw P w K mg base N qual scope f cd A outer s H E) pins H2 b)(hC:s2.heap.objs.size<=C):
 GG (Qg P w base) (Aw (Fw P w K mg base N qual scope f cd A outer s H E) s2 H2 az C NB fp) E:=by
 intro bx σ' H0 s0 ev s1 J h;obtain⟨ea,c,H1,rfl,cz,c6,U,AF,⟨⟨a0,F⟩,bq,c7,ej⟩,q⟩:=h;have I0:Inv (Fw P w K mg base N qual scope f cd A outer s H E) pins σ H0 s0:=I.Ge (ch:=fp) J.os J.base J.AF J.bare λ b hb=>by
  obtain⟨_,f1,_,f3,f4,f5⟩:=cw b hb;exact⟨f3,f1,f4,f5⟩
 have J1:Inv (Fw P w K mg base N qual scope f cd A outer s H E) pins σ H1 s1:=I0.Ge (ch:=[]) cz U AF c6 λ b hb=>by cases hb
 obtain⟨f1,f2,f3,oe,vs,T,oT,ts,k1,k2,k3,k4,k5,k6,k7,k8,k9⟩:=F;have hT:=ej oe vs T k1 k3 k4;have fr:=J1.stack;have entry:∀b,s0.heap.get? b=none->s.heap.get? b=none:=λ b e=>by
  cases q:s.heap.get? b with
  |none=>rfl
  |some o=>obtain⟨o',z⟩:=I0.base.there b o q (by simp[Fl]);rw[e] at z;cases z
 have hJ:C∉BS (envOfC qual scope s.heap.objs.size f cd::outer):=λ z=>by
  obtain⟨_,o,ho,_⟩:=I.stack.mem z;exact absurd (zk ho) (Nat.not_lt.mpr hC)
 obtain⟨m,fP,_⟩:=id J.loc;obtain⟨oC,es,ep,hV,iP,iQ⟩:=fP;have fQ:s1.heap.get? C=some oC:=U.keep C oC hV J.free hJ (by simp);have iR:H1 C=none:=U.free C oC hV J.free (by simp);have iS:s.heap.get? C=none:=Heap.get?_none_of_le (zD (zD I.ok.above (yt I.lt)) hC);have e8:s1.heap.Ns C m:=⟨oC,es,ep,fQ,iP,iQ⟩;have cB:∀ {h:Heap} {b o v},h.get? b=some o->o.data=.fields v->h.Ns C m->b≠C:=λ e d ⟨o',eM,eN,e',d',_⟩ z=>by
  rw[z,e'] at e;cases e;rw[d'] at d;cases d
 have hid:∀b∈[ea,T,C],H1 b=none/\s.heap.get? b=none:=λ b hb=>by
  simp only[zp,List.not_mem_nil,or_false] at hb;rcases hb with rfl|rfl|rfl
  ·exact⟨c7,entry _ bq⟩
  ·exact⟨hT.1,entry _ hT.2⟩
  ·exact⟨iR,iS⟩
 have bI:∀env∈(envOfC qual scope s.heap.objs.size f cd::outer),∀a,env.frame=some a->a∈BS (envOfC qual scope s.heap.objs.size f cd::outer)++[ea,T,C]:=λ env he a ha=>zK _ (G0 env he a ha);generalize hB:yj s1.heap (BS (envOfC qual scope s.heap.objs.size f cd::outer)++[ea,T,C])=B;have nB:∀b∈BS (envOfC qual scope s.heap.objs.size f cd::outer)++[ea,T,C],B.get? b=none:=λ b hb=>by rw[<-hB];exact ym _ hb
 have FB:Heap.FlyingW B (envOfC qual scope s.heap.objs.size f cd::outer) ea (.ref c) a0 s1.heap:=
  ⟨λ b o e=>by rw[<-hB] at e;exact PySem.W.of_hideAll _ e,nB ea (by simp),hB▸PySem.W.funFrames_hide fr bI,oe,vs,T,oT,ts,k1,k2,k3,k4,nB T (by simp),k6,k7,k8,k9⟩
 have en:noteFrame (.ref ea) (compEnvC az (CU (Fw P w K mg base N qual scope f cd A outer s H E).env.cells az.names []) C (Fw P w K mg base N qual scope f cd A outer s H E).env)=noteFrame (.ref ea) (envOfC qual scope s.heap.objs.size f cd):=rfl;show wpAny _ _ (noteFrame (.ref ea) (compEnvC az _ C _)) _ _ s1;rw[en];refine wpAny_looks_onW (outer:=outer) (L:=s.heap.objs.size) J1.ok.frames rfl FB λ h2 Hd cR=>⟨m,cR.ns e8,λ h3 sb be iT=>?_⟩;obtain⟨d1,d2,d3,hW,iU,T2,iV,hX,g1,⟨g2,iW⟩,g3,g4,g5,g6,g7,g8,g9⟩:=Hd;have e9:h2.Ns C m:=cR.ns e8;have e3:h3.get? ea=some hW:=(sb.2 ea (cB g1 g3 e9)).trans g1;have t3:h3.get? T2=some iV:=(sb.2 T2 (cB g7 g8 e9)).trans g7;have eY:∀b∈BS (envOfC qual scope s.heap.objs.size f cd::outer),b≠C/\b≠T2/\∃o,s1.heap.get? b=some o/\∀vs,o.data≠.fields vs:=λ b hb=>by
  obtain⟨_,o,ho,nf⟩:=fr.mem hb;refine⟨λ z=>hJ (z▸hb),λ z=>?_,o,ho,nf⟩;obtain⟨sl,e⟩:=cR b o ho nf;rw[z,g7] at e;cases e;exact nf hX g8
 have B3:B.StaysIn h3:=λ b o e=>(sb.2 b λ z=>by rw[z,nB C (by simp)] at e;cases e).trans (d1 b o e);unfold PySem.passOn;refine wpAny_bind (wpAny_field e3 g3 g4 ?_);rw[if_neg (by simp)];unfold setFlight;refine wpAny_bind (wpAny_bind (wpAny_field e3 g3 g4 ?_));rw[if_pos (by simp)];have dB:3<hX.size:=(Array.getElem?_eq_some_iff.mp g9).1;refine wpAny_setField t3 g8 dB (wpAny_throw ?_);generalize hv:(be.frame.elim Value.none λ f=>rawInt f)=fl;have cK:∀b,b≠T2->(h3.update T2 (Obj.mapFields (·.setIfInBounds 3 fl))).get? b=h3.get? b:=λ b hb=>yw _ _ (Ne.symm hb);have hZ:=Obj.data_mapFields g8 (·.setIfInBounds 3 fl);have t4:=Heap.get?_update_self (Obj.mapFields (·.setIfInBounds 3 fl)) t3 (Obj.isFreed_of_fields hZ);have iX:∀l:List Env,(∀b∈BS l,b∈BS (envOfC qual scope s.heap.objs.size f cd::outer))->h2.FunFrames B l->(h3.update T2 (Obj.mapFields (·.setIfInBounds 3 fl))).FunFrames B l:=by
  intro l;induction l with
  |nil=>intro _ _;trivial
  |cons env r ih =>
   intro hs ⟨x1,⟨L,o,x2,x3,x4,x5⟩,x6⟩;have hL:=hs L (G0 env zf L x2);refine⟨x1,⟨L,o,x2,x3,?_,x5⟩,ih (λ b hb=>hs b ?_) x6⟩
   ·rw[cK L (eY L hL).2.1];exact (sb.2 L (eY L hL).1).trans x4
   ·obtain⟨e,he,hf⟩:=List.mem_filterMap.mp hb;exact G0 e (zg _ he) b hf
 show wpAny _ _ (leaving (envOfC qual scope s.heap.objs.size f cd) (.ref ea)) _ _ _;unfold leaving;refine wpAny_bind (PR (outer:=outer) (L:=s.heap.objs.size) (fl:=fl) (base:=B) (cls:=.ref c) (a0:=a0) J1.ok.frames rfl (iX _ (λ b hb=>hb) d3) ⟨hW,iU,T2,_,_,(cK ea (Ne.symm g6)).trans e3,⟨g2,iW⟩,g3,g4,g5,g6,t4,hZ,by simp[dB]⟩ (λ b o e=>(cK b λ z=>by rw[z,g5] at e;cases e).trans (B3 b o e)) d2 λ h5 iY iZ=>?_);refine wpAny_landsW iY λ h6 F6 ja=>?_;obtain⟨y1,y2,⟨_,_,y3⟩,y4⟩:=F6;show Qg P w base outer H s E (.ref ea) {s1 with heap:=h6};refine Ue (s1:=s1) (h':=h6) (hid:=[ea,T,C]) (B:=B) (a0:=a0) J1 (λ b o e hb c8=>by rw[<-hB];exact zJ _ e λ z=>(zy.mp z).elim hb c8) (λ b o e=>?_) hid (λ b e hb=>?_) (entry ea bq) c7 ⟨y1,y2,y3,y4⟩ (λ b hb o e nf=>?_) q
 ·rw[<-hB];refine zJ _ (J1.bk b o e) λ hb=>?_;rcases zy.mp hb with hb|hb
  ·have z:base.get? b=none:=(fr.mem hb).1;rw[show base.get? b=some o from e] at z;cases z
  ·have z:=(hid b hb).2;have z2:=(I.ok.bs b o e).1;rw[show s.heap.get? b=some o from z2] at z;cases z
 ·by_cases c8:b∈[ea,T,C]
  ·exact hid b c8
  ·have z:s1.heap.get? b=none:=by
    cases q2:s1.heap.get? b with
    |none=>rfl
    |some o=>rw[<-hB,zJ _ q2 λ z=>(zy.mp z).elim hb c8] at e;cases e
   refine⟨J1.AF.gone z,?_⟩;cases q2:s.heap.get? b with
   |none=>rfl
   |some o=>obtain⟨o',z'⟩:=J1.base.there b o q2 (by simp[Fl]);rw[z] at z';cases z'
 ·obtain⟨sa,z1⟩:=cR b o e nf;have z2:(h3.update T2 (Obj.mapFields (·.setIfInBounds 3 fl))).get? b=some {o with slots:=sa}:=(cK b (eY b hb).2.1).trans ((sb.2 b (eY b hb).1).trans z1);obtain⟨gU,z3⟩:=iZ b _ z2 nf;obtain⟨sc,z4⟩:=ja b _ z3 nf;exact⟨sc,z4⟩
end
theorem HP {prog:Program}{w:World}{A:Around}{R:Result->Shared->Prop}{s:Shared}{elt target iter:Expr}{ifs:List Expr}{scope:Scope}{pos:Pos}{it acc:Value}{env:Env}{E':Value->Shared->Prop}(I:Nat->Shared->Prop)(hE:∀x s,E' x s->notedBy (model prog w) A env (λ x s=>R (.error x) s) x s)
 (turn:∀n s,I n s->wpAny (model prog w) A (pyNext it) (λ r s₁=>match r with
  |none=>R (.ok .next) s₁
  |some v=>wpAny (model prog w) A (letOwnedTupleGo target it v) (λ _ s₁'=>wpAny (model prog w) A (assign target env v) (λ _ s₂ =>
   wpAny (model prog w) A (forIn ifs true λ c r=>if r=true then do let ok <-isTrue c env (eval c env);pure (yk ok) else pure (yk r)) (λ ok s₃ =>
    if ok=true then wpAny (model prog w) A (eval elt env) (λ x s₄ =>
     wpAny (model prog w) A (call (.builtin "list.append") [acc,x]) (λ _ s₅=>∃m,m<n/\I m s₅) E' s₄) E' s₃
    else ∃m,m<n/\I m s₃) E' s₂) E' s₁') E' s₁) E' s)
 (n:Nat) (h:I n s):
 codeAny (model prog w) A (.compLoop (.ListComp elt [⟨target,iter,ifs,0⟩] scope pos) 0 it acc env) R s:=by
 refine codeAny_loop rfl I (λ n s hI=>?_) n h;show wpAny _ A ((compTurn (.ListComp elt [⟨target,iter,ifs,0⟩] scope pos) 0 it acc env).onRaise (λ x=>do noteFrame x env;theTreesLotGoes x)) _ _ s;refine wpAny_noted (wpAny_mono (E:=E') ?_ (λ _ _ z=>z) hE);rw[compTurn_list];refine wpAny_bind (wpAny_standAt (wpAny_bind (wpAny_mono (turn n s hI) (λ r s₁ h₁=>?_) λ _ _ h'=>h')));cases r with
 |none=>exact wpAny_pure h₁
 |some v =>
  refine wpAny_bind (wpAny_mono h₁ (λ _ s₁' h₁'=>?_) λ _ _ h'=>h');refine wpAny_bind (wpAny_mono h₁' (λ _ s₂ h₂=>wpAny_bind (wpAny_mono h₂ (λ ok s₃ h₃=>?_) λ _ _ h'=>h')) λ _ _ h'=>h');cases ok with
  |false=>exact wpAny_pure ⟨rfl,h₃⟩
  |true =>
   exact wpAny_bind (wpAny_bind (wpAny_mono h₃ (λ x s₄ h₄=>wpAny_bind (wpAny_mono h₄ (λ _ s₅ h₅=>wpAny_pure (wpAny_pure ⟨rfl,h₅⟩)) λ _ _ h'=>h')) λ _ _ h'=>h'))
section
variable {X:Cx}{pins:List (Addr×Obj)}{σ:St}{H2:Hp}{s2:Shared}{tg elt iter:Expr}{ifs:List Expr}{scope:Scope}{pos:Pos}{NB:List Str}{μ:List (Option Nat)}{g:TG}{tc:Shared->Hp->Addr->List Addr->TT}{te:Shared->Hp->Addr->List Addr->TE}{fp:List Addr}{it:Addr}{tn:Nat->Heap->Prop}{J:It}{Q:VK}
theorem LK (hc:X.calm=true)(I2:Inv X pins σ H2 s2)(T:Turn X.prog X.w X.K tg J fp it tn)(bD:tn 0 s2.heap)(f2:∀b∈fp,ET X pins H2 b)
 (aI:EK scope X.env.scope=true) (bd:GI X.N NB scope μ=true) (cF:Di μ g)
 (hb:∀(s:Shared) (H:Hp) (C:Addr) (ex:List Addr),(∃pins σ,Inv X pins σ H s/\(∀b∈ex,ET X pins H b)/\s.heap.objs.size<=C)->PG (Aw X s H scope C NB ex) tg g/\Th (Aw X s H scope C NB ex) ifs (tc s H C ex)/\PE (Aw X s H scope C NB ex) elt (te s H C ex))
 (q:∀C,Wz J H2 Q (λ x H K=>g x (Dg μ σ) H K) (tc s2 H2 C fp) (te s2 H2 C fp)) {RR:Value->Addr->Result->Shared->Prop} {E:Value->Shared->Prop}
 (hR:∀acc C x s',VS X C x s'->RR acc C (.error x) s') (fin:∀(D C:Addr) (s':Shared) (H':Hp) (ys:List V) (m:Str->Option Value),s2.heap.objs.size<=D->s2.heap.objs.size<=C->D≠C->s'.heap.Ns C m->H' C=none->(∀h',Heap.SameBut C s'.heap h'->Inv X pins σ (upd H' D (.lst ys)) {s' with heap:=h' })->Q (.ref D) (upd H' D (.lst ys))->RR (.ref D) C (.ok .next) s'):
 wpAny (model X.prog X.w) X.A (newList []) (λ acc s₃=>wpAny (model X.prog X.w) X.A (newFunctionEnv scope X.env.globals (CU X.env.cells scope.names []) [] X.env.qual none .none (some X.env)) (λ be s₄ =>
  codeAny (model X.prog X.w) X.A (.compStart (.ListComp elt [⟨tg,iter,ifs,0⟩] scope pos) 0 (.ref it) acc {be with scope:=relabel scope X.env}) (RR acc be.locals) s₄) E s₃) E s2:=by
 have bh:∀y∈scope.names,y.2≠.cell:=λ y hy=>(CM aI hy).1;refine wpAny_newObj_type (wpAny_newFunctionEnv bh (by intro y hy;simp at hy) (λ h₁ hns₁ hsb₁=>?_) (Cf aI));dsimp only at hns₁ hsb₁ ⊢;generalize cY:s2.heap.push {cls:=.type "list",dict:=none,data:=.seq ([]:List Value).toArray}=cG at hns₁ hsb₁ ⊢;have hC:cG.objs.size=s2.heap.objs.size+1:=by rw[<-cY,Heap.size_push]
 have b3:s2.heap.objs.size≠cG.objs.size:=by rw[hC];exact zG (Nat.lt_succ_self _)
 have bX:s2.heap.objs.size<=cG.objs.size:=by rw[hC];exact Nat.le_succ _
 have old:∀b o,s2.heap.get? b=some o->h₁.get? b=some o:=λ b o e=>hsb₁.extBut b o (by rw[hC];exact zG (Nat.lt_succ_of_lt (zk e))) (zw _ (cY▸zw _ e));have eD:h₁.get? s2.heap.objs.size=some {cls:=.type "list",data:=.seq ([]:List Value).toArray}:=hsb₁.extBut _ _ b3 (zw _ (cY▸zQ _ rfl));have cW:∀b∈fp,∃o,s2.heap.get? b=some o:=λ b hb=>let ⟨o,e,_⟩:=T.obj _ _ bD b hb;⟨o,e⟩;have cZ:∀b∈fp,b≠s2.heap.objs.size:=λ b hb=>let ⟨o,e⟩:=cW b hb;zG (zk e);generalize ed:s2.heap.objs.size=D at bX b3 eD cZ ⊢;generalize i7:cG.objs.size=C at *;have aO:s2.heap.objs.size<=D:=by rw[ed];exact zv _
 have aS:s2.heap.objs.size<=C:=by rw[ed];exact bX
 have I4:Inv (Aw X s2 H2 scope C NB fp) [] (Dg μ σ) H2 {s2 with heap:=h₁,toks:=s2.toks+([]:List (Str×Value)).length}:=(Gf I2 aI bd f2 cW aS (by simpa using hns₁) old).toX;have aU:∀ {H':Hp} {pl:List (Addr×Obj)},(∀b∈fp,H' b=none)->(∀p∈pl,p.1=D)->∀b∈fp,ET (Aw X s2 H2 scope C NB fp) pl H' b:=fun {H' pl} hn hp b hb=>by
  refine⟨hn b hb,(I4.ok.Qm b hb).1,I4.ok.IY b hb,.inl hb,λ x c e z=>(I4.ok.Qm b hb).2 x c e z,λ p da z=>?_⟩;have db:p∈pl:=by simpa [Aw,blockOf] using da
  exact cZ b hb (z▸hp p db)
 have f9:D∉(Aw X s2 H2 scope C NB fp).fs:=λ z=>by
  obtain⟨_,o,ho,_⟩:=I4.ok.DQ.mem z;exact absurd (zk ho) (Nat.not_lt.mpr aO)
 obtain⟨W,⟨m0,w0⟩,turn⟩:=q C;have loop:∀s₃:Shared,s₃={s2 with heap:=h₁,toks:=s2.toks+([]:List (Str×Value)).length} ->
  codeAny (model X.prog X.w) X.A (.compLoop (.ListComp elt [⟨tg,iter,ifs,0⟩] scope pos) 0 (.ref it) (.ref D) (compEnvC scope (CU X.env.cells scope.names []) C X.env)) (RR (.ref D) C) s₃:=by
  rintro s₃ rfl;refine HP (E':=(Aw X s2 H2 scope C NB fp).xe) (hE:=λ x s' z=>wpAny_mono z (λ _ _ z=>hR _ _ _ _ z) λ _ _ z=>hR _ _ _ _ z) (λ n s'=>∃i ys aa k H',Inv (Aw X s2 H2 scope C NB fp) [(D,{cls:=.type "list",data:=.seq aa k})] (Dg μ σ) H' s'/\tn i s'.heap/\(∀b∈fp,H' b=none)/\Vals ys aa.toList/\ys.length<=sizeLine/\W i n ys H') ?_ m0
   ⟨0,[],#[],0,H2,I4.CL λ p hp=>?_,T.keep _ _ _ bD λ b hb o e=>old b o e,λ b hb=>(f2 b hb).1,.nil,zZ _,w0⟩
  rotate_left
  ·have e:=zB.mp hp;subst e;exact⟨eD,I2.AF.fresh aO,b3,f9,λ v=>by simp⟩
  rintro n s3 ⟨i,ys,aa,k,H3,I3,cP,cQ,rv,hz,w3⟩;rcases turn i n ys H3 w3 with ⟨stop,qn⟩|⟨go,aN,N,hN,step⟩
  ·refine wpAny_mono (T.done (Aw X s2 H2 scope C NB fp) rfl rfl rfl hc i _ s3 _ H3 _ I3 (aU cQ (by simp)) cP stop) (λ r s4 ⟨hr,cH⟩=>?_) λ _ _ e=>e;subst hr;obtain⟨p1,p2,p3,p4,p5⟩:=cH.pin _ (zh _ zf);obtain⟨m,hn,_⟩:=id cH.loc;have e1:s4.heap.get? D=some {cls:=.type "list",data:=.seq aa.toList.toArray k}:=by simpa using p1
   exact fin D C s4 H3 ys m aO aS b3 hn cH.free (λ h' sb=>Im I2 f2 cH.XX aS aO b3 e1 p2 rv hz sb) (qn D p2)
  ·refine wpAny_mono (T.item (Aw X s2 H2 scope C NB fp) rfl rfl rfl hc i _ s3 _ H3 _ I3 (aU cQ (by simp)) cP go) (λ r s4 ⟨u,hr,h4⟩=>?_) λ _ _ e=>e;subst hr;refine AX h4 λ _ s5 ⟨x,H5,I5,r5,y5,bV,dP⟩=>?_;have dQ:=I5.pinned (aU dP (by simp)) (T.obj _ _ bV);have bS:=cF σ x H5 _ (step x H5 y5);obtain⟨hg,ht,he⟩:=hb s2 H2 C fp ⟨_,_,I2,f2,aS⟩;refine AX (hg _ s5 _ H5 x u _ dQ r5 bS) λ _ s6 ⟨σ6,H6,I6,q6,k6⟩=>?_;refine AX (ht _ s6 σ6 H6 _ I6 q6) λ ok s7 ⟨H7,I7,q7⟩=>?_;have again:∀ {H8:Hp} {s8:Shared} {its':Array Value} {k':Nat} {aR:List V},Inv (Aw X s2 H2 scope C NB fp) ([(D,{cls:=.type "list",data:=.seq its' k' })]++CS fp s5.heap) σ6 H8 s8->Vals aR its'.toList->aR.length<=sizeLine->(∃m,m<n/\W (i+1) m aR H8)->
    ∃m,m<n/\∃i ys aa k H',Inv (Aw X s2 H2 scope C NB fp) [(D,{cls:=.type "list",data:=.seq aa k})] (Dg μ σ) H' s8/\tn i s8.heap/\(∀b∈fp,H' b=none)/\Vals ys aa.toList/\ys.length<=sizeLine/\W i m ys H':=fun {H8 s8 its' k' aR} I8 bf dA n8=>by
    obtain⟨m',hm,w8⟩:=n8;refine⟨m',hm,i+1,aR,its',k',H8,(I8.DZ.weak ?_ k6),T.keep _ _ _ bV λ b hb o e=>(I8.pin (b,o) (zh _ (zh _ (BO hb e)))).1,λ b hb=>?_,bf,dA,w8⟩
    ·rw[I8.len];exact I4.len
    ·obtain⟨o,e,d⟩:=T.obj _ _ bV b hb;exact (I8.pin (b,o) (zh _ (zh _ (BO hb e)))).2.1
   cases ok with
   |false =>
    simp only[zC,if_false] at q7 ⊢;exact again I7 rv hz (hN _ _ q7)
   |true =>
    simp only[if_true] at q7 ⊢;refine AX (he _ s7 σ6 H7 _ I7 q7) λ uy s8 ⟨y,H8,I8,r8,q8⟩=>?_;obtain⟨p1,p2,p3,p4,p5⟩:=I8.pin (D,_) (zh _ (zK _ zf));have e1:s8.heap.get? D=some {cls:=.type "list",data:=.seq aa k}:=p1;have dB:aa.size=ys.length:=by rw[<-yr];exact rv.length.symm
    refine PySem.call_meets PySem.F.slot_list_append ⟨_,e1,rfl⟩ PySem.F.entry_list_append (PySem.F.args_list_append_2 _ _) (PySem.list_append D aa k uy (by rw[dB];omega)) ⟨e1,?_⟩;have de:=PySem.IsL.update e1 (·.push uy);have Iu:Inv (Aw X s2 H2 scope C NB fp) (CS fp s5.heap) σ6 H8 s8:=I8.CL λ p hp=>I8.pin p (zh _ (zh _ hp));have It:=Iu.turned (it:=D) (h':=s8.heap.update D (Obj.mapSeq (·.push uy))) (t':=s8.toks) (λ b o hb e=>(yw _ _ (Ne.symm hb)).trans e) p2 p3 (.inr aO) (λ x c e z=>?_) (λ p hp z=>?_)
    ·refine again (its':=aa.push uy) (k':=if (aa.push uy).size==aa.size then k else k+1) (It.CL λ p hp=>?_) (by simpa using rv.append (.cons r8 .nil)) (by rw[zq,yd];omega) (hN _ _ q8);rcases zy.mp hp with hp|hp
     ·have e:=zB.mp hp;subst e;exact⟨de,p2,p3,p4,λ v=>by simp⟩
     ·exact It.pin p (zh _ hp)
    ·have e':=BW I2 aI e;obtain⟨v,o,ho,_⟩:=I2.cell x c e';exact absurd (zk ho) (by rw[z];exact Nat.not_lt.mpr aO)
    ·have da:p∈CS fp s5.heap:=by simpa [Aw,blockOf] using hp
     exact cZ p.1 (FU da).1 z
 exact codeAny_compStart_list (loop _ rfl) (T.self _ 0 _ _ _ (T.keep _ _ _ bD λ b hb o e=>old b o e) (loop _ rfl))
theorem PX {wi:TI}(hc:X.calm=true)(hi:PI X tg iter wi)(aI:EK scope X.env.scope=true)(bd:GI X.N NB scope μ=true)(cF:Di μ g)
 (hb:∀(s:Shared) (H:Hp) (C:Addr) (ex:List Addr),(∃pins σ,Inv X pins σ H s/\(∀b∈ex,ET X pins H b)/\s.heap.objs.size<=C)->PG (Aw X s H scope C NB ex) tg g/\Th (Aw X s H scope C NB ex) ifs (tc s H C ex)/\PE (Aw X s H scope C NB ex) elt (te s H C ex))
 (hs:∀x,foldedSetIterable iter X.env x=pure x:=by intro _;rfl):PE X (.ListComp elt [⟨tg,iter,ifs,0⟩] scope pos) (Io wi μ g tc te):=by
 intro pins s σ H Q I h;have aX:∀y∈scope.names,y.2=.local->scope.names.lookup y.1=some .local:=λ y hy=>(CM aI hy).2.2;have b4:closureFor scope X.env=pure (CU X.env.cells scope.names []):=CV λ y hy e=>Dh I aI (x:=y.1) (by rw[<-e];exact hy);rw[eval_ListComp];refine wpAny_comprehension_free (use:=none) rfl hs b4 (Cf aI) aX (AX (hi pins s σ H _ I h) λ v s1 h1=>AX h1 λ dO s2 h2=>?_);obtain⟨it,fp,tn,J,H2,e,I2,T,bD,f2,q⟩:=h2;subst e;refine LK (RR:=λ acc C=>compPost (model X.prog X.w) X.A X.xe none (EP X pins σ Q) acc C) hc I2 T bD f2 aI bd cF hb (λ C=>q s2 C fp) (λ acc C x s' h=>h) ?_;intro D C s' H' ys m hD hC b3 hn nC hI hq;exact⟨m,hn,λ h' sb=>⟨.ref D,_,hI h' sb,rfl,hq⟩⟩
end
noncomputable def JB (m:M (List D)):M OT:=match m with | .ok ys=>.ok (.lst (ys.map .sh)) | .ex x=>.ex x | .bad=>.bad
noncomputable def KH (es:List D)(m:M (List D)):M (List D):=match m with | .ok ys=>.ok (es++ys) | .ex x=>.ex x | .bad=>.bad
noncomputable def BQ (gt:D->A8->M A8)(ft:A8->M Bool)(fe:A8->M D):List D->A8->M (List D)
 |[],_=>.ok []
 |d::r,ρ=>match gt d ρ with
  | .ok ρ1=>(match ft ρ1 with
   | .ok k=>if k=true then (match fe ρ1 with
    | .ok y=>KH [y] (BQ gt ft fe r ρ)
    | .ex x=>.ex x
    | .bad=>.bad) else BQ gt ft fe r ρ
   |_=>.bad)
  |_=>.bad
theorem PY (m:M (List D)):KH [] m=m:=by cases m<;>rfl
theorem Nn (es:List D)(y:D)(m:M (List D)):KH (es++[y]) m=KH es (KH [y] m):=by
 cases m with
 |ok ys=>exact congrArg M.ok (List.append_assoc _ _ _)
 |_=>rfl
section
variable {X:Cx}{WX:Str->Hp->Prop}{c:Bool}{P0:DR}{P:Addr->Prop}{H:Hp}{σ:St}{ρ:A8}{a b e tg iter:Expr}{f g:A8->M D}{ft:A8->M Bool}{pos:Pos}{gt:D->A8->M A8}{fi:A8->M (List D)}{es:List Expr}{fs:A8->M (List D)}
theorem RZ {μ:List (Option Nat)}{wi:TI}{gg:TG}{tc:Shared->Hp->Addr->List Addr->TT}{te:Shared->Hp->Addr->List Addr->TE}{fe:A8->M D}
 (i2:∀P0 P σ H R ρ,Ae X.K P0 P H σ ρ->(match fi ρ with | .ok ds=>∀J H',A9 H H'->Ou X.K J P H' ds->R J H' | .ex x=>∀H',A9 H H'->WX x H' | .bad=>False)->wi σ H R)
 (g2:∀P0 P σ H Q ρ v d,Ae X.K P0 P H σ ρ->Bo X.K (del H P) v d->gG X.K P0 P H Q (gt d ρ)->gg v σ H Q)
 (t2:∀s H' C ex P0 P σ H Q ρ,Ae X.K P0 P H σ ρ->gT (λ _ _=>False) H Q (ft ρ)->tc s H' C ex σ H Q)
 (e2:∀s H' C ex P0 P σ H Q ρ,Ae X.K P0 P H σ ρ->gV X.K WX (Lv true P0 P) H Q (fe ρ)->te s H' C ex σ H Q) {Q:VK}
 (E:Ae X.K P0 P H σ ρ) (h:Mf X.K WX P H Q ((fi ρ).bind λ ds=>if ds.length<=1000 then JB (BQ gt ft fe ds (AJ μ ρ)) else .bad)):Io wi μ gg tc te σ H Q:=by
 refine i2 P0 P σ H _ ρ E ?_;cases q:fi ρ with
 |bad|ex x=>rw[q] at h;exact h
 |ok ds =>
  rw[q] at h;simp only[M.Aa] at h;by_cases hd:¬ ds.length<=1000
  ·rw[if_neg hd] at h;exact h.elim
  have hd:ds.length<=1000:=by omega
  rw[if_pos hd] at h;intro J H1 s1 ok s C ex;have E1:=E.same s1;refine⟨λ i m ys H2=>m=ds.length-i/\i<=ds.length/\ys.length<=i/\A9 H1 H2/\∃es,Af X.K (del H2 P) ys es/\Mf X.K WX P H Q (JB (KH es (BQ gt ft fe (ds.drop i) (AJ μ ρ)))),
   ⟨ds.length,by simp,zZ _,zv _,A9.refl _,[],.nil,by rw[List.drop_zero,PY];exact h⟩,?_⟩
  rintro i m ys H2 ⟨rfl,hi,hy,s2,es,cf,aw⟩;by_cases aN:i<ds.length
  ·refine .inr ⟨ok.go i P H2 s2.del aN,Nat.lt_of_le_of_lt hy (B0 (by omega)),λ aR H'=>i+1<=ds.length/\aR.length<=i+1/\A9 H1 H'/\∃es,Af X.K (del H' P) aR es/\Mf X.K WX P H Q (JB (KH es (BQ gt ft fe (ds.drop (i+1)) (AJ μ ρ)))),λ aR H' hq=>⟨ds.length-(i+1),by omega,rfl,hq.1,hq.2.1,hq.2.2.1,hq.2.2.2⟩,λ v H3 y=>?_⟩;have E2:=E1.same s2;obtain⟨s3,hv⟩:=ok.Qv i P H2 v H3 ds[i] s2.del E2.C6 (z0 aN) y;rw[Ed aN,BQ] at aw;have E3:=(E2.same s3).block μ;refine g2 P0 P _ H3 _ (AJ μ ρ) v ds[i] E3 hv ?_;cases q1:gt ds[i] (AJ μ ρ) with
   |bad|ex x=>rw[q1] at aw;exact aw.elim
   |ok ρ1 =>
    rw[q1] at aw;dsimp only at aw;intro σ4 E4;refine t2 s H1 C ex P0 P σ4 H3 _ ρ1 E4 ?_;cases q2:ft ρ1 with
    |bad|ex x=>rw[q2] at aw;exact aw.elim
    |ok k =>
     rw[q2] at aw;dsimp only at aw;intro H5 s5;have fR:=(s2.trans s3).trans s5;cases k with
     |false =>
      simp only[zC,if_false] at aw ⊢;exact⟨aN,by omega,fR,es,(cf.mono s3.del).mono s5.del,aw⟩
     |true =>
      simp only[if_true] at aw ⊢;refine e2 s H1 C ex P0 P σ4 H5 _ ρ1 (E4.same s5) ?_;cases q3:fe ρ1 with
      |bad=>rw[q3] at aw;exact aw.elim
      |ex x=>rw[q3] at aw;exact λ H' z=>aw H' (s1.trans (fR.trans z))
      |ok y' =>
       rw[q3] at aw;dsimp only at aw;intro w H6 s6 hw;refine⟨aN,by rw[zq,yd];omega,fR.trans s6,es++[y'],(((cf.mono s3.del).mono s5.del).mono s6.del).snoc hw,?_⟩;rw[Nn];exact aw
  ·have e:i=ds.length:=by omega
   subst e;rw[List.drop_length,BQ] at aw;have e2:KH es (.ok [])=.ok es:=congrArg M.ok (List.append_nil _);rw[e2] at aw;exact .inl ⟨ok.stop _ P H2 s2.del (zv _),λ D0 hn=>aw.Ko (s1.trans s2) cf D0 hn⟩
end
section
variable {P:Program}{w:World}{K:zb}{mg:Str->Option Value}{base:Heap}{N:List Str}{qual:Str}{scope az:Scope}{f:Addr}{cd:Value}{A:Around}{outer:List Env}{s0:Shared}{H0:Hp}{E:XK}{tg iter elt:Expr}{ft:A8->M Bool}{pos:Pos}{gt:D->A8->M A8}{fi:A8->M (List D)}{fe:A8->M D}{NB:List Str}
theorem PZ (μ:List (Option Nat))(hi:DI (Fw P w K mg base N qual scope f cd A outer s0 H0 E) (G1 K E) tg iter fi)(aI:EK az scope=true)(bd:GI N NB az μ=true)
 (hg:∃g:TG,(∀s H C ex,PG (Aw (Fw P w K mg base N qual scope f cd A outer s0 H0 E) s H az C NB ex) tg g)/\Di μ g/\∀P0 P σ H Q ρ v d,Ae K P0 P H σ ρ->Bo K (del H P) v d->gG K P0 P H Q (gt d ρ)->g v σ H Q)
 (he:∀s H C ex,XCall (Aw (Fw P w K mg base N qual scope f cd A outer s0 H0 E) s H az C NB ex) E->DE (Aw (Fw P w K mg base N qual scope f cd A outer s0 H0 E) s H az C NB ex) (G1 K E) true elt fe) (hs:∀x,foldedSetIterable iter (Fw P w K mg base N qual scope f cd A outer s0 H0 E).env x=pure x:=by intro _;rfl):
 DN (Fw P w K mg base N qual scope f cd A outer s0 H0 E) (G1 K E) (.ListComp elt [⟨tg,iter,[],0⟩] az pos) (λ ρ=>(fi ρ).bind λ ds=>if ds.length<=1000 then JB (BQ gt (λ _=>.ok true) fe ds (AJ μ ρ)) else .bad):=by
 obtain⟨wi,i1,i2⟩:=hi;obtain⟨gg,g1,gk,g2⟩:=hg;have hx:∀s H C ex,∃t:TE,(XCall (Aw (Fw P w K mg base N qual scope f cd A outer s0 H0 E) s H az C NB ex) E->PE (Aw (Fw P w K mg base N qual scope f cd A outer s0 H0 E) s H az C NB ex) elt t)/\∀P0 P σ H Q ρ,Ae K P0 P H σ ρ->gV K (G1 K E) (Lv true P0 P) H Q (fe ρ)->t σ H Q:=λ s H C ex=>by
  by_cases h:XCall (Aw (Fw P w K mg base N qual scope f cd A outer s0 H0 E) s H az C NB ex) E
  ·obtain⟨t,h1,h2⟩:=he s H C ex h;exact⟨t,λ _=>h1,h2⟩
  ·exact⟨λ _ _ _=>True,λ z=>absurd z h,λ _ _ _ _ _ _ _ _=>trivial⟩
 refine⟨_,PX rfl i1 aI bd gk (tc:=λ _ _ _ _=>V6) (te:=λ s H C ex=>zu (hx s H C ex)) (λ s H C ex ⟨pins,σ,I,cw,hC⟩=>⟨g1 s H C ex,M6,(ze (hx s H C ex)).1 ⟨PV I cw hC,PassesOwn.looking⟩⟩) hs,λ P0 P σ H Q ρ E h=>?_⟩;exact RZ (ft:=λ _=>.ok true) i2 g2 (λ s H' C ex P0 P σ H Q ρ E h=>h H (A9.refl H)) (λ s H' C ex P0 P σ H Q ρ E h=>(ze (hx s H' C ex)).2 P0 P σ H Q ρ E h) E h
theorem Q1 {μ:List (Option Nat)}(i:Nat){x:Str}{p:Pos}(hN:NB.Nodup)(hi:NB[i]?=some x)(hx:(relabel az (Fw P w K mg base N qual scope f cd A outer s0 H0 E).env).names.lookup x=some .local)(hm:μ[i]?=some none):
 ∃g:TG,(∀s H C ex,PG (Aw (Fw P w K mg base N qual scope f cd A outer s0 H0 E) s H az C NB ex) (.Name x p) g)/\Di μ g/\∀P0 P σ H Q ρ v d,Ae K P0 P H σ ρ->Bo K (del H P) v d->gG K P0 P H Q ((λ d (ρ:A8)=>M.ok (ρ.set i (some (.val d)))) d ρ)->g v σ H Q:=
 ⟨JZ i,λ s H C ex=>J0 (X:=Aw (Fw P w K mg base N qual scope f cd A outer s0 H0 E) s H az C NB ex) hN hi (.inl hx) (.inr hx),M7 hm,λ P0 P σ H Q ρ v d E hv h=>h _ (E.Kg hv)⟩
end
noncomputable def Np (i j:Nat)(Gg:Str->Bool)(gs:A8->M Out)(ρ:A8)(m:M OT):M Out:=match m with
 | .ok t=>.ok (.next (ρ.set j (some (.val (er t)))))
 | .ex x=>if Gg x=true then Sv i (gs (ρ.set i (some (.val (.C3 x))))) else .bad
 | .bad=>.bad
section
variable {X:Cx}{CX:MF}{E:XK}{k:Nat}{f:Addr}{fd:FuncData}{ps:List Str}{sp:Sp}{dvs:List V}{ds:List Value}
theorem Q2 {pins:List (Addr×Obj)}{σ:St}{H:Hp}{s:Shared}{Q:VK}{us:List Value}{vs:List V}(F:EU X.prog X.w X.K X.mg X.base CX k f fd ps sp)(hr:C0 k X.A)(hb:Binds X.K fd ps ds)(hd:Vals dvs ds)(hx:∀e s',CX X.stack H s E e s'->X.xe e s')
 (I:Inv X pins σ H s) (r:Vals vs us) (h:sp (vs++dvs) H Q E):wpAny (model X.prog X.w) X.A (call (.ref f) us) (EP X pins σ Q) X.xe s:=by
 have r2:Vals (vs++dvs) (us++ds):=r.append hd;have hl:(us++ds).length=ps.length:=by rw[<-r2.length];exact F.len _ _ _ _ h
 refine wpAny_call (codeAny_mono (F.run X.A X.stack s H ⟨us,[]⟩ (us++ds) (vs++dvs) Q E hr I.V2 (hb s us I.JQ hl) r2 h) λ r s' hq=>?_);cases r with
 |error e=>exact hx e s' hq
 |ok fl =>
  cases fl with
  |ret u=>exact I.after hq
  |next|brk|cont=>exact yq hq
end
section
variable {X:Cx}{pins bx:List (Addr×Obj)}{σ:St}{H0 H1 H:Hp}{s s0 s1:Shared}{h4:Heap}{ea T c:Addr}{e:Expr}{es:List Expr}{fs:A8->M (List D)}
theorem S0 {WX:Str->Hp->Prop}{C:Str}{n y fx:Str}{ck:List Stmt}{b0:Stmt}{gs:A8->M Out}{xc:Str}{k nn:Nat}{F:List D->M OT}{cp eA pos py p ax apos:Pos}(i j:Nat)(T:Sx X.K X.mg C xc)(cU:X.stack=X.env::X.outer)(fM:X.env.frame=some X.env.locals)(hN:X.N.Nodup)(hi:X.N[i]?=some n)(hx:X.env.scope.names.lookup n=some .local)(hj:X.N[j]?=some y)(hy:X.env.scope.names.lookup y=some .local)
 (hg:Gl X C) (G:CJ X.prog X.w X.K X.mg X.base fx k nn F) (hr:C0 k X.A) (jb:Gl X fx) (ha:∀(xe:Value->Shared->Prop) (pn:List (Addr×Obj)),DA {X with xe:=xe,pn:=pn} (λ _ _=>False) true (e::es) fs) (jc:(e::es).length=nn)
 (hs:∀ea:Addr,Oo (X.OB (.ref ea)) (λ _ _=>False) (b0::ck) gs) (bz:(C==("__debug__" : Str))=false:=by decide) (cJ:(fx==("__debug__" : Str))=false:=by decide) (he:starEach (e::es) X.env=(false,eval e X.env)::starEach es X.env:=by rfl) (aT:(backTo ax (starEach es X.env)).any (·.1)=false:=by rfl)
 (df:swapsWith (.Call (.Name fx p) (e::es) [] ax) (some (.Name y py)) apos.line X.env=pure false:=by rfl):
 DS X WX (.Try [.Assign [.Name y py] (.Call (.Name fx p) (e::es) [] ax) apos] [.ExceptHandler (some (.Name C cp)) (some n) (b0::ck) eA] [] [] pos) (λ ρ=>match fs ρ with | .ok ds=>Np i j (λ y=>decide (y=xc)) gs ρ (F ds)|_=>.bad):=by
 obtain⟨CA,cA,hm,dz,eB⟩:=T.ex;obtain⟨fa,fd,ps,hF,jd,je,jf⟩:=G.ex;refine⟨λ Z σ H=>∃P0 P ρ,Ae X.K P0 P H σ ρ/\gS X.K WX P0 P H Z (match fs ρ with | .ok ds=>Np i j (λ y=>decide (y=xc)) gs ρ (F ds)|_=>.bad),?_,λ P0 P σ H Z ρ E h=>⟨P0,P,ρ,E,h⟩⟩;intro pins s σ H Z I ⟨P0,P,ρ,Ev,h⟩;cases qa:fs ρ with
 |bad|ex x=>rw[qa] at h;exact h.elim
 |ok ds =>
 rw[qa] at h;dsimp only at h;refine wpAny_Try_except ?_;let xe:Value->Shared->Prop:=λ e s₁=>wpAny (model X.prog X.w) X.A (noteFrame e X.env) (λ _ s₂=>wpAny (model X.prog X.w) X.A (setFlight e none) (λ _ s₃=>wpAny (model X.prog X.w) X.A (handleBy e X.env [.ExceptHandler (some (.Name C cp)) (some n) (b0::ck) eA]) (SP X pins Z) X.xe s₃) X.xe s₂) X.xe s₁;let Et:XK:=λ cv _ H1=>∃c x,cv=.ref c/\zd X.K mainGlobals x=some (some (.ref c))/\F ds=.ex x/\A9 H H1;have jg:∀H0 s0 ev s1,Inv X pins σ H0 s0->Qg X.prog X.w X.base X.stack H0 s0 Et ev s1->xe ev s1:=by
  intro H0 s0 ev s1 eC jh;obtain⟨ea,c,H1,rfl,cz,c6,U,AF,⟨⟨a0,F⟩,bq,c7,ej⟩,c',x,eO,cE,ji,eE⟩:=jh;cases eO;have J:Inv X pins σ H1 s1:=eC.Ge (ch:=[]) cz U AF c6 λ b hb=>by cases hb
  obtain⟨f1,f2,f3,oe,vs,T,oT,ts,k1,k2,k3,k4,k5,k6,k7,k8,k9⟩:=F;have hT:=ej oe vs T k1 k3 k4;have hid:∀b∈[ea,T],H1 b=none/\s0.heap.get? b=none:=λ b hb=>by
   rcases zp.mp hb with z|z
   ·rw[z];exact⟨c7,bq⟩
   ·rw[zB.mp z];exact hT
  have bI:∀env∈X.stack,∀a,env.frame=some a->a∈BS X.stack++[ea,T]:=λ env he a ha=>zK _ (G0 env he a ha);have FB:Heap.FlyingW (yj s1.heap (BS X.stack++[ea,T])) X.stack ea (.ref c) a0 s1.heap:=
   ⟨λ b o e=>PySem.W.of_hideAll _ e,ym _ (by simp),PySem.W.funFrames_hide J.stack bI,oe,vs,T,oT,ts,k1,k2,k3,k4,ym _ (by simp),k6,k7,k8,k9⟩
  rw[ji] at h;unfold Np at h;dsimp only at h;by_cases dE:x=xc
  rotate_left
  ·rw[if_neg (by simpa using dE)] at h;exact h.elim
  rw[if_pos (by simpa using dE)] at h;have fS:IB X.K CA c=true:=by
   rw[dE,dz] at cE;cases cE;exact eB
  have land:∀h4:Heap,Heap.FlyingW (yj s1.heap (BS X.stack++[ea,T])) X.stack ea (.ref c) a0 h4->s1.heap.UpToSlots h4->Un (BS X.stack) [] H0 H1 s0.heap h4/\DF X.prog X.w H1 h4:=λ h4 F4 fT=>Ra eC cz c6 U AF hid F4.1 fT;show xe (.ref ea) s1;refine wpAny_looks_onW (outer:=X.outer) (L:=X.env.locals) (I.ok.frames.trans (by rw[cU])) fM (cU▸FB) λ h2 Hd cR=>?_;refine wpAny_landsW Hd λ h3 F3 jj=>?_;have F3:Heap.FlyingW (yj s1.heap (BS X.stack++[ea,T])) X.stack ea (.ref c) a0 h3:=cU▸F3;have eF:s1.heap.UpToSlots h3:=cR.trans jj;obtain⟨U3,jk⟩:=land h3 F3 eF;have J3:Inv X pins σ H1 {s1 with heap:=h3}:=eC.Ge (s':={s1 with heap:=h3}) (ch:=[]) cz U3 jk c6 λ b hb=>by cases hb
  refine wpAny_handleBy_cons (codeAny_handlers_test ?_) (by intro q;cases q);refine Fj (X:=X.OB (.ref ea)) (J3.OB _) hg hm ?_ bz;obtain⟨jQ,jR,jl,jm,jS,_⟩:=F3.first;refine MW J3.JQ jl jm fS ?_;show codeAny _ _ _ _ _;refine codeAny_handlers_suite_as ?_;refine lands_againW F3 λ h4 F4 fT=>?_;obtain⟨U4,jo⟩:=land h4 F4 (eF.trans fT);obtain⟨ia,jT,ib,jp,jq,_⟩:=F4.first;have d0:H0 ea=none:=eC.AF.gone bq;have ad:DF X.prog X.w (upd H1 ea (.ext (Jf ea c))) h4:=jo.adopt c7 ⟨⟨ia,ib,jp,by unfold PySem.W.notCls;rw[jq]⟩,⟨ia,ib⟩,λ ha c8 ⟨o,q1,q2,q3⟩ k=>⟨o,k o q1,q2,q3⟩⟩;have J4:Inv X pins σ (upd H1 ea (.ext (Jf ea c))) {s1 with heap:=h4}:=eC.Ge (s':={s1 with heap:=h4}) (ch:=[]) cz (OA U4 d0 bq) ad c6 λ b hb=>by cases hb
  refine Fi (X:=X.OB (.ref ea)) (v:=.ref ea) (J4.OB _) hN hi (.inl hx) rfl (λ s5 J5=>?_) (.inr hx);obtain⟨jU,u1,u2⟩:=hs ea;have sm:=eE.trans (B6 c7 (.ext (Jf ea c)));have Ea:=Ev.same sm;have jr:¬ P ea:=λ z=>by
   obtain⟨o,q,_⟩:=(Ev.same eE).C6 ea z;rw[c7] at q;cases q
  have E5:Ae X.K P0 P (upd H1 ea (.ext (Jf ea c))) (σ.set i (some (.ref ea))) (ρ.set i (some (.val (.C3 x)))):=Ea.Kg (.C3 cE (by rw[AA jr];exact Bi));let Z':Ends:={nx:=λ σ' H'=>Z.nx (σ'.set i none) H',rt:=Z.rt,bk:=λ σ' H'=>Z.bk (σ'.set i none) H',ct:=λ σ' H'=>Z.ct (σ'.set i none) H' };refine wpAny_mono (u1 pins s5 _ _ Z' J5 (u2 P0 P _ _ Z' _ E5 ?_)) (λ f s6 hf=>?_) λ _ _ z=>z.elim
  ·have g:=gS.tr h (Ev.tr sm);unfold Sv at g;cases q:gs (ρ.set i (some (.val (.C3 x)))) with
   |bad=>rw[q] at g;exact g
   |ex y=>rw[q] at g;exact g.elim
   |ok o =>
    rw[q] at g;cases o with
    |ret d|BJ d=>exact g
    |EY d ρ=>exact g.elim
    |next r|brk r|cont r=>exact λ σ2 H2 P2 t2 e2=>g _ H2 P2 t2 (e2.drop i)
  ·show wpAny _ _ _ _ _ _;cases f with
   |next|brk|cont=>obtain⟨σ2,H2,J,q⟩:=hf;exact name_goes (J.Rb I.ok) hN hi hx λ s7 J7=>⟨_,H2,J7,q⟩
   |ret u=>obtain⟨v,σ2,H2,J,r,q⟩:=hf;exact name_goes (J.Rb I.ok) hN hi hx λ s7 J7=>⟨v,_,H2,J7,r,q⟩
 have Ib:Inv {X with xe:=xe,pn:=X.pn++pins} [] σ H s:=⟨I.ok.re _ _,I.os,I.bare,I.base,I.loc,I.cell,I.free,I.BN,λ p hp=>I.pin p (by simpa using hp),I.AF,I.len⟩;have back:∀ {σ2:St} {H2:Hp} {s2:Shared},Inv {X with xe:=xe,pn:=X.pn++pins} [] σ2 H2 s2->Inv X pins σ2 H2 s2:=λ J=>⟨I.ok,J.os,J.bare,J.base,J.loc,J.cell,J.free,J.BN,λ p hp=>J.pin p (by simpa using hp),J.AF,J.len⟩;obtain⟨ta,a1,a2,a3⟩:=ha xe (X.pn++pins);have run:wpAny (model X.prog X.w) X.A (exec (.Assign [.Name y py] (.Call (.Name fx p) (e::es) [] ax) apos) X.env) (SP {X with xe:=xe,pn:=X.pn++pins} [] Z) xe s:=by
  refine wpAny_Assign_Name (AX (Q:=EP {X with xe:=xe,pn:=X.pn++pins} [] σ λ v H1=>Z.nx (σ.set j (some v)) H1) ?_ λ v s1 ⟨yv,H1,I1,r1,q1⟩=>?_) df
  ·refine wpAny_Call_Name_kw (Fj (X:={X with xe:=xe,pn:=X.pn++pins}) Ib jb jd ?_ cJ);refine PySem.W.callWith_K (h₀:=X.base) I.ok.mod.UG je (AX (a1 ax [] s σ H _ Ib (a2 P0 P σ H (λ vs H1=>A9 H H1/\spT X.K nn F vs H1 (λ v H1=>Z.nx (σ.set j (some v)) H1) Et) ρ Ev ?_)) λ us s1 ⟨vs,H1,I1,r,q0,q⟩=>⟨I1.JQ,?_⟩) he aT
   ·rw[qa];intro vs H1 sm bG;refine⟨sm,by rw[bG.length,a3 ρ ds qa];exact jc,P,ds,(Ev.same sm).C6,bG,?_⟩;cases q:F ds with
    |bad=>rw[q] at h;exact h.elim
    |ex x =>
     rw[q] at h;unfold Np at h;dsimp only at h;by_cases dE:x=xc
     ·subst dE;exact λ H' s'=>⟨cA,dz,cA,x,rfl,dz,q,sm.trans s'⟩
     ·rw[if_neg (by simpa using dE)] at h;exact h.elim
    |ok t =>
     rw[q] at h;exact λ v fp H' s' hn nd o=>h _ H' P (Ev.tr (sm.trans s')) ((Ev.same (sm.trans s')).Kg (o.has Jn λ a ha z=>((Ev.same sm).C6 a z).no (hn a ha)))
   ·exact Q2 (X:={X with xe:=xe,pn:=X.pn++pins}) (E:=Et) (dvs:=[]) hF hr jf .nil (λ e s' hq=>jg _ _ _ _ (back I1) hq) I1 r (by rw[List.append_nil];exact q)
  ·exact Fi (X:={X with xe:=xe,pn:=X.pn++pins}) I1 hN hj (.inl hy) r1 (λ s2 I2=>⟨_,H1,I2,q1⟩) (.inr hy)
 refine wpAny_execs_cons (AX run λ f s2 hf=>?_);cases f with
 |next=>obtain⟨σ2,H2,J,q⟩:=hf;exact wpAny_execs_nil (wpAny_execs_nil ⟨σ2,H2,back J,q⟩)
 |brk|cont=>obtain⟨σ2,H2,J,q⟩:=hf;exact⟨σ2,H2,back J,q⟩
 |ret u=>obtain⟨v,σ2,H2,J,r,q⟩:=hf;exact⟨v,σ2,H2,back J,r,q⟩
end
section
variable {X:Cx}{WX:Str->Hp->Prop}{c:Bool}{P0:DR}{P:Addr->Prop}{H:Hp}{σ:St}{ρ:A8}{a b e tg:Expr}{f g:A8->M D}{pos p:Pos}
theorem Ug:Wt X (λ x lo hi H Q=>∃z,x=.str z/\z.length<=sizeLine/\Q (.str (Txt.slice z lo hi)) H):=by
 intro pins s σ H x v vl vu lo hi sl Q I rx hs pl pu h;obtain⟨z,rfl,hz,q⟩:=h;obtain⟨t,rfl⟩:=rx;refine⟨"str",_,PySem.F.slot_str_getitem.lookup,typeIs_str _ _ _,?_⟩;have fin:∀t' k,EP X pins σ Q (.str (Txt.slice z lo hi) t') {s with toks:=k}:=λ t' k=>⟨.str _,H,I.tok _,⟨_,rfl⟩,q⟩;have hle:=zD (Txt.slice_le z lo hi) hz;cases pl with
 |none =>
  cases pu with
  |none=>exact wpAny_getItem_str_slice (l:=none) (u:=none) (st:=none) hs rfl (post_val_or_str ⟨hle,fin⟩)
  |int j u=>exact wpAny_getItem_str_slice (l:=none) (u:=some (j,u)) (st:=none) hs rfl (post_val_or_str ⟨hle,fin⟩)
 |int i v =>
  cases pu with
  |none=>exact wpAny_getItem_str_slice (l:=some (i,v)) (u:=none) (st:=none) hs rfl (post_val_or_str ⟨hle,fin⟩)
  |int j u=>exact wpAny_getItem_str_slice (l:=some (i,v)) (u:=some (j,u)) (st:=none) hs rfl (post_val_or_str ⟨hle,fin⟩)
noncomputable def Nq (lo hi:Option Int)(d:D):M D:=match d with
 | .str z=>if z.length<=1000000 then .ok (.str (Txt.slice z lo hi)) else .bad
 |_=>.bad
theorem Bf {lo hi:Option Expr}{dw fh:A8->M (Option Int)}{p2:Pos}(ha:DE X WX true e f)(hl:DO X WX true lo dw)(hh:DO X WX true hi fh):DE X WX true (.Subscript e (.Slice lo hi none p2) pos) (λ ρ=>(f ρ).bind λ d=>(dw ρ).bind λ l=>(fh ρ).bind λ u=>Nq l u d):=by
 obtain⟨ta,a1,a2⟩:=ha;obtain⟨tl,l1,l2⟩:=hl;obtain⟨th,h1,h2⟩:=hh;refine⟨_,K4 Ug a1 l1 h1,λ P0 P σ H Q ρ E h=>?_⟩;dsimp only at h;refine a2 P0 P σ H _ ρ E ?_;cases q:f ρ with
 |bad|ex x=>rw[q] at h;exact h
 |ok d =>
  rw[q] at h;intro v H1 s1 hv;refine l2 P0 P σ H1 _ ρ (E.same s1) ?_;cases q2:dw ρ with
  |bad=>rw[q2] at h;exact h
  |ex y=>rw[q2] at h;exact λ H' s=>h H' (s1.trans s)
  |ok l =>
   rw[q2] at h;intro H2 s2;refine h2 P0 P σ H2 _ ρ ((E.same s1).same s2) ?_;cases q3:fh ρ with
   |bad=>rw[q3] at h;exact h
   |ex y=>rw[q3] at h;exact λ H' s=>h H' ((s1.trans s2).trans s)
   |ok u =>
    rw[q3] at h;simp only[M.Aa] at h;intro H3 s3;unfold Nq at h;split at h
    ·rename_i z;cases hv;by_cases hi:z.length<=1000000
     ·rw[if_pos hi] at h;exact⟨z,rfl,by rw[sizeLine_eq];omega,h _ H3 ((s1.trans s2).trans s3) (.str _)⟩
     ·rw[if_neg hi] at h;exact h.elim
    ·exact h.elim
theorem S1:DV X (binaryOp .Mult) (λ x y H Q=>∃z n,x=.str z/\y=.int n/\0<=n/\n<=1000/\z.length<=1000/\Q (.str (Txt.mul z n)) H):=by
 intro pins s σ H x y v u Q I rx ry h;obtain⟨z,n,rfl,rfl,h0,h1,hz,q⟩:=h;obtain⟨t,rfl⟩:=rx;obtain⟨k,rfl⟩:=ry;refine SB.mul ⟨?_,λ h2 _=>?_,λ h2 _=>?_⟩ λ t' k=>⟨.str _,H,I.tok _,⟨_,rfl⟩,q⟩
 ·rw[decide_eq_false (by omega),decide_eq_false (by omega)];rfl
 ·have h3:(2^63-1:Int) / 1000<=(2^63-1) / n:=by
   refine Int.le_ediv_of_mul_le (by omega) ?_;have:(2^63-1:Int) / 1000*n<=(2^63-1:Int) / 1000*1000:=Int.mul_le_mul_of_nonneg_left h1 (by decide);refine Int.le_trans this (by decide)
  have h4:(1000:Int)<=(2^63-1) / 1000:=by decide
  omega
 ·unfold Builtin.Str.tooLong;have h3:z.length*n.toNat<=1000*1000:=Nat.mul_le_mul hz (by omega);have h4:=sizeLine_eq;simp only[decide_eq_false_iff_not];omega
noncomputable def Hr (x y:D):M D:=match x,y with
 | .str z,.int n=>if 0<=n/\n<=1000/\z.length<=1000 then .ok (.str (Txt.mul z n)) else .bad
 |_,_=>.bad
theorem JC (ha:DE X WX c a f)(hb:DE X WX c b g):DE X WX c (.BinOp a .Mult b pos) (λ ρ=>(f ρ).bind λ x=>(g ρ).bind λ y=>Hr x y):=by
 refine Fs S1 (λ P H x y v w Q ht hx hy h=>?_) ha hb;unfold Hr at h;split at h
 ·rename_i z n;cases hx;cases hy;by_cases hi:0<=n/\n<=1000/\z.length<=1000
  ·rw[if_pos hi] at h;exact⟨_,_,rfl,rfl,hi.1,hi.2.1,hi.2.2,h _ H (A9.refl H) (.str _)⟩
  ·rw[if_neg hi] at h;exact h.elim
 ·exact h.elim
noncomputable def KI (x y:D):M D:=match x,y with
 | .str i,.str j=>.ok (.bl (!(!(zE j i 0 j.length 1).isEmpty)))
 |_,_=>.bad
theorem Q3:MM X.K WX (λ x y H Q=>∃i j,x=.str i/\y=.str j/\Q (.bl (!(!(zE j i 0 j.length 1).isEmpty))) H) KI:=λ P H x y v w Q ht hx hy h=>by
 unfold KI at h;split at h
 ·cases hx;cases hy;exact⟨_,_,rfl,rfl,h _ H (A9.refl H) (.bl _)⟩
 ·exact h.elim
theorem S2 (ha:DE X WX c a f)(hb:DE X WX c b g)(hm:behindInMarks .NotIn b=false:=by rfl):DT X WX (.Compare a [.NotIn] [b] pos) (λ ρ=>((f ρ).bind λ x=>(g ρ).bind λ y=>KI x y).bind JR):=Dl J2 Q3 ha hb hm
noncomputable def S3 (w:Value):Bool:=match w with | .none=>true | _=>false
theorem Uh (hu:X.A.units+8<cLine):DV X (compareOp .In) (λ x y H Q=>∃(l:Addr) (xs:List V) (ds:List D),x=.Ar/\y=.ref l/\DX X.K H l xs/\Af X.K H xs ds/\CY ds=true/\CH ds<=4/\Q (.bl (ds.any Av)) H):=by
 intro pins s σ H x y v u Q I rx ry h;obtain⟨l,xs,ds,rfl,rfl,hl,hs,hn,hd,q⟩:=h;cases ry;have js:v=Value.none:=rx;subst js;obtain⟨aa,r,pl,hz⟩:=I.list hl;have at':∀ {xs:List V} {us:List Value} {ds:List D},Vals xs us->Af X.K H xs ds->CY ds=true->CH ds<=4->(∀w∈us,SeqAt.EqAt X.A.in1 s w .none (S3 w))/\(us.any S3)=ds.any Av:=by
  intro xs us ds r;induction r generalizing ds with
  |nil =>
   intro hs _ _;cases hs;exact⟨λ w hw=>(by cases hw),rfl⟩
  | @cons x0 u0 xs us r t ih =>
   intro hs hn hd;cases hs with
   | @cons _ d _ dr h1 h2 =>
    rw[CY,zA] at hn;rw[CH] at hd;obtain⟨i1,i2⟩:=ih h2 hn.2 (by omega);have e:S3 u0=Av d:=by
     cases h1 with
     |Ar=>cases (show u0=Value.none from r);rfl
     |bl b=>cases (show u0=Value.bool b from r);rfl
     |int i|str i=>obtain⟨t,rfl⟩:=r;rfl
     |_=>cases (show u0=Value.ref _ from r);rfl
    have ea:=GO I 4 X.A.in1 d .Ar _ _ _ _ (by omega) hn.1 rfl (by show X.A.units+1+4<cLine;omega) h1 .Ar r rx;have e2:Ak d .Ar=Av d:=by cases d<;>rfl
    refine⟨λ w hw=>?_,?_⟩
    ·rcases zp.mp hw with rfl|hw
     ·rw[e,<-e2];exact ea
     ·exact i1 w hw
    ·rw[List.any_cons,List.any_cons,i2,e]
 obtain⟨a1,a2⟩:=at' r hs hn hd;refine SeqAt.in_listAt S3 pl.isList (λ w hw=>a1 w (by simpa using hw)) ⟨.bl _,H,I,rfl,?_⟩;rw[List.any_toArray,a2];exact q
noncomputable def Ms (x y:D):M D:=match x,y with
 | .Ar,.lst ds=>if CY ds=true/\CH ds<=4 then .ok (.bl (ds.any Av)) else .bad
 |_,_=>.bad
theorem Q4:MM X.K WX (λ x y H Q=>∃(l:Addr) (xs:List V) (ds:List D),x=.Ar/\y=.ref l/\DX X.K H l xs/\Af X.K H xs ds/\CY ds=true/\CH ds<=4/\Q (.bl (ds.any Av)) H) Ms:=by
 intro P H x y v w Q ht hx hy h;have un:A9 (del H P) H:=λ b o e=>(Ay e).2;unfold Ms at h;split at h
 ·rename_i ds;by_cases hi:CY ds=true/\CH ds<=4
  ·rw[if_pos hi] at h;cases hx;cases hy with
   |lst hs hh=>exact⟨_,_,ds,rfl,rfl,hs.C4,hh.mono un,hi.1,hi.2,h _ H (A9.refl H) (.bl _)⟩
  ·rw[if_neg hi] at h;exact h.elim
 ·exact h.elim
theorem S4 {n:Nat}(hu:X.A.units+n<cLine)(ha:DE X WX c a f)(hb:DE X WX c b g)(hm:behindInMarks .In b=false:=by rfl)(hn:8<=n:=by decide):DT X WX (.Compare a [.In] [b] pos) (λ ρ=>((f ρ).bind λ x=>(g ρ).bind λ y=>Ms x y).bind JR):=Dl (Uh (by omega)) Q4 ha hb hm
theorem Q5:DV X (binaryOp .FloorDiv) (rI (λ _ j=>0<j/\j.natAbs.log2<9000) λ i j=>.int (i / j)):=UW λ i j _ _ _ _ _ hc q=>by
 have h1:(0:Int)<j:=hc.1;exact floordiv_int (by omega) (by rw[Int.fdiv_eq_ediv_of_nonneg i (by omega)];exact q) (.inl (PyProof.noPylong_of_log2 hc.2))
noncomputable def LL (x y:D):M D:=match x,y with
 | .int i,.int j=>@ite _ (0<j/\j.natAbs.log2<9000) (Classical.propDecidable _) (.ok (.int (i / j))) .bad
 |_,_=>.bad
theorem Q6 (ha:DE X WX c a f)(hb:DE X WX c b g):DE X WX c (.BinOp a .FloorDiv b pos) (λ ρ=>(f ρ).bind λ x=>(g ρ).bind λ y=>LL x y):=by
 refine Fs Q5 (λ P H x y v w Q ht hx hy h=>?_) ha hb;unfold LL at h;split at h
 ·rename_i i j;cases hx;cases hy;by_cases hi:0<j/\j.natAbs.log2<9000
  ·rw[if_pos hi] at h;exact⟨i,j,rfl,rfl,hi,h _ H (A9.refl H) (.int _)⟩
  ·rw[if_neg hi] at h;exact h.elim
 ·exact h.elim
end
def asc (z:Str):Prop:=∀c∈tl z,c<128
theorem Mt {z:Str}(h:asc z):(z.cps.all λ k=>decide (k<128))=true:=by
 rw[<-Array.all_toList];exact yf.mpr λ c hc=>decide_eq_true (h c hc)
theorem Ct {z:Str}(h:((tl z).all λ k=>decide (k<128))=true):asc z:=λ c hc=>of_decide_eq_true (yf.mp h c hc)
theorem Bn {x y:Str}(hx:asc x)(hy:asc y):asc (x++y):=λ c hc=>by
 rw[Jw] at hc;exact (zy.mp hc).elim (hx c) (hy c)
theorem Hs {i:Int}(h:0<=i):asc (nS i):=λ c hc=>by
 have:=PM i.toNat c (by rw[<-IR h];exact hc);omega
noncomputable def BY (c:Nat):Bool:=decide (48<=c)&&decide (c<=57)
theorem Q8:∀k:Nat,k<128->RQ (.str ⟨#[k]⟩) (.str (zc "0123456789"))=.ok (.bl (BY k)):=by
 have:∀k:Nat,k<128->(!(zE (zc "0123456789") ⟨#[k]⟩ 0 (zc "0123456789").length 1).isEmpty)=BY k:=by decide +kernel
 intro k h1;unfold RQ;dsimp only;rw[this k h1]
theorem S5:∀k:Nat,k<128->KI (.str ⟨#[k]⟩) (.str (zc "0123456789"))=.ok (.bl (!BY k)):=by
 have:∀k:Nat,k<128->(!(zE (zc "0123456789") ⟨#[k]⟩ 0 (zc "0123456789").length 1).isEmpty)=BY k:=by decide +kernel
 intro k h1;unfold KI;dsimp only;rw[this k h1]
noncomputable def B2 (z:Str):Bool:=decide (1<=z.length)&&(decide (z.length<=60)&&((tl z).all BY&&(z==zc "0" || !((tl z).head? == some 48))))
theorem VT:∀(n:Nat) (l:List Nat),l.length=n+1->(∀c∈l,48<=c/\c<=57)->(l=[48]\/l.head?≠some 48)->∃m,l=dg m/\m<10^(n+1):=by
 intro n;induction n with
 |zero =>
  intro l hl hd _;obtain⟨c,rfl⟩:∃c,l=[c]:=by
   match l,hl with
   |[c],_=>exact⟨c,rfl⟩
  have hc:=hd c zf;exact⟨c-48,by rw[Hq (by omega)];congr 1;omega,by omega⟩
 |succ n ih =>
  intro l hl hd hh;have ay:l≠[]:=λ e=>by rw[e] at hl;cases hl
  obtain⟨y,c,rfl⟩:∃y c,l=y++[c]:=⟨l.dropLast,l.getLast ay,(List.dropLast_concat_getLast ay).symm⟩;rw[zq] at hl;have cC:y.length=n+1:=by
   have:[c].length=1:=rfl;omega
  have hc:=hd c (zh _ zf);have ic:(y++[c]).head?≠some 48:=by
   rcases hh with h|h
   ·have:=congrArg List.length h;rw[zq,cC] at this;have e1:[c].length=1:=rfl;have e2:[48].length=1:=rfl;omega
   ·exact h
  obtain⟨a,r,rfl⟩:∃a r,y=a::r:=by
   cases y with
   |nil=>cases cC
   |cons a r=>exact⟨a,r,rfl⟩
  obtain⟨m,e,hm⟩:=ih (a::r) cC (λ x hx=>hd x (zK _ hx)) (.inr ic);have m0:m≠0:=λ z=>by
   rw[z,Hq (by decide)] at e;cases e;exact ic rfl
  refine⟨10*m+(c-48),?_,by rw[Nat.pow_succ];omega⟩;rw[Jx (by omega),show (10*m+(c-48)) / 10=m by omega,show (10*m+(c-48))%10=c-48 by omega,<-e];congr 2;omega
theorem Ui {z:Str}(h:B2 z=true):∃i:Int,0<=i/\i<Bg/\z=nS i:=by
 unfold B2 at h;simp only[zA,decide_eq_true_eq,Bool.or_eq_true,Bool.not_eq_true',yf,BY] at h;obtain⟨h1,h2,h3,h4⟩:=h;obtain⟨m,e,hm⟩:=VT (z.length-1) (tl z) (by rw[Bh];omega) (λ c hc=>h3 c hc) (by
  rcases h4 with h|h
  ·left;rw[eq_of_beq h]
   decide +kernel
  ·right;intro w;rw[w] at h;cases h)
 refine⟨m,by omega,?_,LG (by rw[IR (by omega)];exact e)⟩;have e2:Bg=((10^60:Nat):Int):=by
  have e:=Gk.symm.trans (show HL (.int 10) (.int 60)=.ok (.int ((10^60:Nat):Int)) from rfl);injection e with e
  injection e
 rw[e2];have:10^(z.length-1+1)<=10^60:=Nat.pow_le_pow_right (by decide) (by omega);exact Int.ofNat_lt.mpr (zt hm this)
noncomputable def AR (z:Str):Option Int:=if B2 z=true then PySem.intText? z else none
theorem JD {z:Str}(h:B2 z=false):AR z=none:=if_neg (by rw[h];exact yy)
theorem FH {z:Str}(h:B2 z=true):∃i:Int,0<=i/\i<Bg/\z=nS i/\AR z=some i:=by
 obtain⟨i,h0,h1,rfl⟩:=Ui h;exact⟨i,h0,h1,rfl,(if_pos h).trans (LH h0 h1)⟩
theorem Ds {z:Str}{i:Int}(h:AR z=some i):B2 z=true/\0<=i/\i<Bg:=by
 cases q:B2 z with
 |false=>rw[JD q] at h;cases h
 |true =>
  obtain⟨j,h0,h1,_,e⟩:=FH q;rw[e] at h;cases h;exact⟨rfl,h0,h1⟩
theorem Q9 {y:List Nat}:∀ {ps:List (List Nat)}{p:List Nat}{c:Nat},p∈ps->c∈p->c∈jn y ps
 |[q],p,c,hp,hc=>by rw[zB.mp hp] at hc;exact hc
 |q::r::t,p,c,hp,hc=>by
  show c∈q++y++jn y (r::t);rcases zp.mp hp with rfl|hp
  ·exact zK _ (zK _ hc)
  ·exact zh _ (Q9 hp hc)
theorem SA {y:List Nat}:∀(ps:List (List Nat)),ps.length*y.length<=(jn y ps).length+y.length
 |[]=>by rw[y7,Nat.zero_mul];exact zZ _
 |[q]=>by rw[yd,Nat.one_mul];exact Nat.le_add_left _ _
 |q::r::t=>by
  have:=SA (y:=y) (r::t);show _<=(q++y++jn y (r::t)).length+_;rw[zq,zq,zi,Nat.succ_mul];omega
theorem Mu {y:List Nat}:∀ {ps:List (List Nat)}{p:List Nat},p∈ps->p.length<=(jn y ps).length
 |[q],p,hp=>by rw[zB.mp hp];exact zv _
 |q::r::t,p,hp=>by
  show _<=(q++y++jn y (r::t)).length;rw[zq,zq];rcases zp.mp hp with rfl|hp
  ·omega
  ·have:=Mu (y:=y) hp;omega
theorem Ht (x y:Str):tl x=jn (tl y) ((zM x y).map tl):=by
 rw[<-EH];exact (congrArg tl (PySem.StrLaws.join_split x y)).symm
theorem AE {x y p:Str}(h:asc x)(hp:p∈zM x y):asc p/\p.length<=x.length:=by
 refine⟨λ c hc=>h c ?_,?_⟩
 ·rw[Ht x y];exact Q9 (List.mem_map_of_mem hp) hc
 ·rw[<-Bh,<-Bh,Ht x y];exact Mu (List.mem_map_of_mem hp)
theorem IT (x y:Str):(zM x y).length*y.length<=x.length+y.length:=by
 have:=SA (y:=tl y) ((zM x y).map tl);rw[<-Ht,Bh,Bh,zo] at this;exact this
theorem KJ {y:Str}(hy:asc y){ps:List Str}(h:∀p∈ps,asc p):asc (Str.join y ps):=by
 intro c hc;rw[EH] at hc;have:∀ {qs:List (List Nat)},(∀q∈qs,∀c∈q,c<128)->∀c∈jn (tl y) qs,c<128:=by
  intro qs;induction qs with
  |nil=>intro _ c hc;cases hc
  |cons q r ih =>
   intro hq c hc;cases r with
   |nil=>exact hq q zf c hc
   |cons r t =>
    have bR:c∈q++tl y++jn (tl y) (r::t):=hc;rcases zy.mp bR with bR|bR
    ·rcases zy.mp bR with bR|bR
     ·exact hq q zf c bR
     ·exact hy c bR
    ·exact ih (λ z hz=>hq z (zg _ hz)) c bR
 exact this (λ q hq=>by obtain⟨p,hp,rfl⟩:=y6.mp hq;exact h p hp) c hc
noncomputable abbrev BL:Str:=zc " "
noncomputable abbrev SC:Str:=zc "; "
structure S6 (r:Road):Prop where
 a0:0<=r.a
 a1:r.a<Bg
 b0:0<=r.b
 b1:r.b<Bg
 l0:∀l,r.l=some l->0<=l/\l<Bg
 w0:0<=r.w
 w1:r.w<Bg
noncomputable def DU (z:Str):Option (Option Int):=if z=zc "-" then some none else (AR z).map some
noncomputable def Hu:List Str->Option Road
 |[x,a,b,l,w]=>if x=zc "road" then (AR a).bind λ i=>(AR b).bind λ j=>(DU l).bind λ k=>(AR w).map λ n=>⟨i,j,k,n⟩ else none
 |_=>none
theorem S7 {ws:List Str}{r:Road}(h:Hu ws=some r):S6 r:=by
 unfold Hu at h;split at h
 ·rename_i x a b l w;split at h
  ·cases qa:AR a with
   |none=>rw[qa] at h;cases h
   |some i =>
    cases qb:AR b with
    |none=>rw[qa,qb] at h;cases h
    |some j =>
     cases ql:DU l with
     |none=>rw[qa,qb,ql] at h;cases h
     |some k =>
      cases qw:AR w with
      |none=>rw[qa,qb,ql,qw] at h;cases h
      |some n =>
       rw[qa,qb,ql,qw] at h;cases h;refine⟨(Ds qa).2.1,(Ds qa).2.2,(Ds qb).2.1,(Ds qb).2.2,λ z hz=>?_,(Ds qw).2.1,(Ds qw).2.2⟩;unfold DU at ql;split at ql
       ·cases ql;cases hz
       ·obtain⟨v,e1,e2⟩:=zX.mp ql;have dA:k=some z:=hz;rw[<-e2] at dA;cases dA;exact (Ds e1).2
  ·cases h
 ·cases h
noncomputable def Ca (m:Int)(r:Road):Bool:=decide (r.a<m)&&(decide (r.b<m) && !decide (r.a=r.b))
theorem Hv {m:Int}{r:Road}(h:S6 r):Cs m (ED r)=Ca m r:=by
 unfold ED Cs Ca;dsimp only;have e1:∀ {i n:Int},0<=i->HN (.int i) n=decide (i<n):=λ h0=>by unfold HN;simp[h0]
 have e2:(Av (BX r.l)||HN (BX r.l) Bg)=true:=by
  cases q:r.l with
  |none=>rfl
  |some z=>rw[show BX (some z)=.int z from rfl,Mp (h.l0 z q).1 (h.l0 z q).2];rfl
 have e3:Ak (.int r.a) (.int r.b)=decide (r.a=r.b):=by rw[Ak];by_cases h:r.a=r.b<;>simp[h]
 rw[e1 h.a0,e1 h.b0,e2,e3,Mp h.w0 h.w1,Bool.true_and,Bool.and_true]
noncomputable def CK {α β:Type}(f:α->Option β):List α->Option (List β)
 |[]=>some []
 |a::r=>(f a).bind λ b=>(CK f r).map (b::·)
theorem EI {α β:Type}{f:α->Option β}:∀ {l:List α}{bs:List β},CK f l=some bs->bs.length=l.length/\∀b∈bs,∃a∈l,f a=some b
 |[],_,h=>by cases h;exact⟨rfl,λ b hb=>by cases hb⟩
 |a::r,bs,h=>by
  unfold CK at h;cases qa:f a with
  |none=>rw[qa] at h;cases h
  |some b =>
   rw[qa] at h;obtain⟨cs,e1,rfl⟩:=zX.mp h;obtain⟨h1,h2⟩:=EI e1;refine⟨by rw[zi,zi,h1],λ x hx=>?_⟩;rcases zp.mp hx with rfl|hx
   ·exact⟨a,zf,qa⟩
   ·obtain⟨y,hy,e⟩:=h2 x hx;exact⟨y,zg _ hy,e⟩
noncomputable def Gm (p:Str):Option Road:=Hu (zM p BL)
noncomputable def Uj (p:Str):Option Int:=match zM p BL with
 |[x,n]=>if x=zc "places" then AR n else none
 |_=>none
noncomputable def KL (x:Str):Option (Int×List Road):=match zM x SC with
 |[]=>none
 |p::ps=>(Uj p).bind λ m=>(CK Gm ps).bind λ rs=>if (1<=m/\m<=16)/\rs.length<=60/\(rs.all (Ca m))=true then some (m,rs) else none
theorem Uk {ps:List Str}{rs:List Road}(h:CK Gm ps=some rs):∀r∈rs,S6 r:=λ r hr=>by
 obtain⟨p,_,e⟩:=(EI h).2 r hr;exact S7 e
theorem Nr {m:Int}{rs:List Road}(h0:0<=m)(h:∀r∈rs,S6 r):DL (AQ m rs)=decide ((1<=m/\m<=16)/\rs.length<=60/\(rs.all (Ca m))=true):=by
 have e:((rs.map ED).map (Cs m)).all id=rs.all (Ca m):=by
  rw[List.all_map,List.all_map];rw[Bool.eq_iff_iff,yf,yf];constructor
  ·intro z r hr;rw[<-Hv (h r hr)];exact z r hr
  ·intro z r hr;show Cs m (ED r)=true;rw[Hv (h r hr)];exact z r hr
 unfold AQ DL;dsimp only;rw[e,zo,Bool.eq_iff_iff];simp only[zA,decide_eq_true_eq,Bool.not_eq_true',decide_eq_false_iff_not,HN];constructor
 ·rintro ⟨⟨⟨h1,h2⟩,h3⟩,h4,h5⟩;exact⟨⟨by omega,by omega⟩,h4,h5⟩
 ·rintro ⟨⟨h1,h2⟩,h4,h5⟩;exact⟨⟨⟨by omega,by omega⟩,by omega⟩,h4,h5⟩
theorem Xx {i:Int}(h0:0<=i)(h1:i<16):(nS i).length<=2:=by
 rw[<-Bh,IR h0];exact (PN 1 _ (by omega)).2
theorem Nt {m:Nat}{r:Road}(hm:m<=16)(ok:G5 m r):(Ld r).length<=132:=by
 rw[<-Mr];simp only[str_len];have h1:=Xx ok.a0 (by have:=ok.a1;omega);have h2:=Xx ok.b0 (by have:=ok.b1;omega);have h3:=(LI ok.l0).2;have h4:=(C2 ok.w0 ok.w1).2;have e1:(zc "road ").length=5:=by decide
 have e2:(zc " ").length=1:=by decide
 omega
theorem FI (s:String)(h:((tl (zc s)).all λ k=>decide (k<128))=true:=by decide +kernel):asc (zc s):=Ct h
theorem S8 {m:Nat}{rs:List Road}(AF:∀r∈rs,G5 m r):asc (Ud m rs):=by
 refine KJ (FI _) λ p hp=>?_;rcases zp.mp hp with rfl|hp
 ·exact Bn (FI _) (Hs (by omega))
 ·obtain⟨r,hr,rfl⟩:=y6.mp hp;refine KJ (FI _) λ p hp=>?_;have ok:=AF r hr;simp only[Uy,zp,List.not_mem_nil,or_false] at hp;rcases hp with rfl|rfl|rfl|rfl|rfl
  ·exact FI _
  ·exact Hs ok.a0
  ·exact Hs ok.b0
  ·cases q:r.l with
   |none=>exact FI "-"
   |some z=>exact Hs (ok.l0 z q).1
  ·exact Hs ok.w0
theorem Nu {m:Nat}{rs:List Road}(h1:1<=m)(hm:m<=16)(d4:rs.length<=12)(AF:∀r∈rs,G5 m r):(Ud m rs).length<=1742:=by
 rw[<-Bh];unfold Ud;rw[EH];have:=LJ (y:=tl (zc "; ")) (B:=132) (ps:=((zc "places " ++ nS m)::rs.map Ld).map tl) λ p hp=>by
  obtain⟨q,hq,rfl⟩:=y6.mp hp;rw[Bh];rcases zp.mp hq with rfl|hq
  ·have:=JA (i:=m) (by omega) (by have:=CZ;omega);omega
  ·obtain⟨r,hr,rfl⟩:=y6.mp hq;exact Nt hm (AF r hr)
 refine zD this ?_;rw[zo,zi,zo];have e:(tl (zc "; ")).length=2:=by decide +kernel
 rw[e];omega
theorem EJ {z:Str}(h:asc z)(lo hi:Option Int):asc (Txt.slice z lo hi):=by
 intro c hc;unfold Txt.slice at hc;split at hc
 ·exact h c hc
 ·obtain⟨i,_,e⟩:=List.mem_filterMap.mp (show c∈((zH lo hi 1 z.length).filterMap (z.cps[·]?)) from hc);exact h c (zj (by rw[y0];exact e))
theorem Dt {m:M Out}{x:Str}(h:WP m (λ _=>False) (λ _=>False) (·=x)):OQ m=.ex x:=by
 cases m with
 |bad=>exact h.elim
 |ex y=>rw[show y=x from h];rfl
 |ok o=>cases o<;>exact h.elim
theorem Hw {α β:Type}{gt:D->A8->M A8}{fe:A8->M D}{ρ:A8}{g:α->D}{h:β->D}{e:Str}(f:α->Option β):∀ {l:List α},(∀x∈l,∃ρ1,gt (g x) ρ=.ok ρ1/\(∀b,f x=some b->fe ρ1=.ok (h b))/\(f x=none->fe ρ1=.ex e))->
 (∀bs,CK f l=some bs->BQ gt (λ _=>.ok true) fe (l.map g) ρ=.ok (bs.map h))/\(CK f l=none->BQ gt (λ _=>.ok true) fe (l.map g) ρ=.ex e)
 |[],_=>⟨λ bs hb=>by cases hb;rfl,λ hn=>by cases hn⟩
 |x::r,H=>by
  obtain⟨ρ1,h1,h2,h3⟩:=H x zf;obtain⟨i1,i2⟩:=Hw (gt:=gt) (fe:=fe) (ρ:=ρ) (g:=g) (h:=h) (e:=e) f (l:=r) λ y hy=>H y (zg _ hy);rw[zx,BQ,h1,CK];dsimp only;rw[if_pos rfl];cases qx:f x with
  |none =>
   rw[h3 qx];exact⟨λ bs hb=>(by cases hb),λ _=>rfl⟩
  |some b =>
   rw[h2 b qx];dsimp only;cases qr:CK f r with
   |none =>
    rw[i2 qr];exact⟨λ bs hb=>(by cases hb),λ _=>rfl⟩
   |some cs =>
    rw[i1 cs qr];refine⟨λ bs hb=>?_,λ hn=>by cases hn⟩;cases hb;rfl
theorem Ul (a n:Nat):(zH none (some (a:Int)) 1 n).length<=a:=by
 unfold zH PySem.sliceRange;simp only[show (1:Int) > 0 by decide,if_true,zo,List.length_range];split<;>(try split)<;>(try split)<;>(try simp only[Int.ediv_one])<;>omega
theorem Qa (a n:Nat):(zH (some (a:Int)) none 1 n).length<=n-a:=by
 unfold zH PySem.sliceRange;simp only[show (1:Int) > 0 by decide,if_true,zo,List.length_range];split<;>(try split)<;>(try split)<;>(try simp only[Int.ediv_one])<;>omega
theorem S9 (a n:Nat):(zH (some (a:Int)) (some ((a+1:Nat):Int)) 1 n).length<=1:=by
 unfold zH PySem.sliceRange;simp only[show (1:Int) > 0 by decide,if_true,zo,List.length_range];split<;>(try split)<;>(try split)<;>(try split)<;>(try simp only[Int.ediv_one])<;>omega
theorem Gy {z:Str}{lo hi:Option Int}{k:Nat}(h:(zH lo hi 1 z.length).length<=k):(Txt.slice z lo hi).length<=k:=by
 unfold Txt.slice;split
 ·rename_i q;simp only[zA,beq_iff_eq] at q;omega
 ·show (List.filterMap _ (zH lo hi 1 z.length)).toArray.size<=k;rw[zm];exact zD (List.length_filterMap_le _ _) h
theorem Sa {z:Str}(ha:asc z)(h0:0<z.length)(h1:z.length<=1000)(c:Int):∃k,k<128/\Ky (.str z) (.int (c%(z.length:Int)))=.ok (.str ⟨#[k]⟩):=by
 have b0:=zU c (show (z.length:Int)≠0 by omega);have b1:=zO c (show (0:Int)<z.length by omega);obtain⟨k,hk⟩:∃k,z.cps[(c%(z.length:Int)).toNat]?=some k:=by
  have:(c%(z.length:Int)).toNat<z.cps.size:=by show _<z.length;omega
  exact⟨_,Array.getElem?_eq_getElem this⟩
 refine⟨k,ha k (zj (by rw[y0];exact hk)),?_⟩;unfold Ky;dsimp only;rw[if_pos ⟨b0,by omega,b1⟩,hk]
noncomputable def BZ (z:Str):D:=match AR z with | some i=>.int i | none=>.Ar
noncomputable def KN (m:Int)(p:Str):D:=match Gm p with | some r=>if Ca m r=true then ED r else .Ar | none=>.Ar
noncomputable def outD:Option (Int×List Road)->D
 |some (m,rs)=>AQ m rs
 |none=>.Ar
noncomputable def Sb (x:Str):D:=outD (KL x)
def LM (d:D):Prop:=(∃z,d=.str z/\asc z/\z.length<=1900)\/Cn "str" d=.ok (.bl false)
theorem Um (r:Road):Al (ED r)=true/\EL (ED r)<=1:=by
 unfold ED;cases r.l with
 |none|some z=>exact⟨by simp[Al,CY,BX],by simp[EL,CH,BX]⟩
theorem KO (m:Int)(p:Str):(KN m p=.Ar/\(Gm p=none\/∃r,Gm p=some r/\Ca m r=false))\/∃r,Gm p=some r/\Ca m r=true/\KN m p=ED r:=by
 unfold KN;cases q:Gm p with
 |none=>exact .inl ⟨rfl,.inl rfl⟩
 |some r =>
  dsimp only;cases q2:Ca m r with
  |true=>exact .inr ⟨r,rfl,q2,rfl⟩
  |false=>exact .inl ⟨rfl,.inr ⟨r,rfl,q2⟩⟩
theorem Qb (m:Int):∀ps:List Str,CY (ps.map (KN m))=true/\CH (ps.map (KN m))<=4
 |[]=>⟨rfl,zZ _⟩
 |p::ps=>by
  obtain⟨i1,i2⟩:=Qb m ps;rw[zx,CY,CH,i1,Bool.and_true];rcases KO m p with ⟨e,_⟩|⟨r,_,_,e⟩
  ·rw[e];exact⟨rfl,by simp[EL];exact i2⟩
  ·rw[e];have:=Um r;exact⟨this.1,by omega⟩
theorem Qc (m:Int):∀ps:List Str,(((ps.map (KN m)).any Av)=false->∃rs,CK Gm ps=some rs/\(rs.all (Ca m))=true/\ps.map (KN m)=rs.map ED)/\∀rs,CK Gm ps=some rs->(rs.all (Ca m))=true->((ps.map (KN m)).any Av)=false
 |[]=>⟨λ _=>⟨[],rfl,rfl,rfl⟩,λ rs h _=>by cases h;rfl⟩
 |p::ps=>by
  obtain⟨i1,i2⟩:=Qc m ps;rw[zx,List.any_cons,CK];rcases KO m p with ⟨e,h⟩|⟨r,h1,h2,e⟩
  ·rw[e];refine⟨λ z=>(by cases z),λ rs h' ha=>?_⟩;rcases h with h|⟨r,h,hr⟩
   ·rw[h] at h';cases h'
   ·rw[h] at h';obtain⟨cs,_,rfl⟩:=zX.mp h';rw[List.all_cons,hr] at ha;cases ha
  ·rw[e,h1];have n0:Av (ED r)=false:=rfl;rw[n0,Bool.false_or];refine⟨λ z=>?_,λ rs h' ha=>?_⟩
   ·obtain⟨rs,q1,q2,q3⟩:=i1 z;exact⟨r::rs,by rw[q1];rfl,by rw[List.all_cons,h2,q2];rfl,by rw[q3];rfl⟩
   ·obtain⟨cs,q1,rfl⟩:=zX.mp h';rw[List.all_cons,zA] at ha;exact i2 cs q1 ha.2
theorem Aq (s:String)(h:((tl (zc s)).all λ k=>decide (k<128))=true:=by decide +kernel)(h2:(zc s).length<=1900:=by decide +kernel):LM (.str (zc s)):=.inl ⟨_,rfl,Ct h,h2⟩
theorem Sd (s t:String){w:Str}(hw:asc w)(hl:w.length<=61)(h:((tl (zc s)).all λ k=>decide (k<128))=true:=by decide +kernel)(h2:(zc s).length<=100:=by decide +kernel)(h3:((tl (zc t)).all λ k=>decide (k<128))=true:=by decide +kernel)(h4:(zc t).length<=100:=by decide +kernel):LM (.str (zc s++w++zc t)):=
 .inl ⟨_,rfl,Bn (Bn (Ct h) hw) (Ct h3),by rw[str_len,str_len];omega⟩
theorem Gz (s:String){w:Str}(hw:asc w)(hl:w.length<=1000)(h:((tl (zc s)).all λ k=>decide (k<128))=true:=by decide +kernel)(h2:(zc s).length<=100:=by decide +kernel):LM (.str (zc s++w)):=
 .inl ⟨_,rfl,Bn (Ct h) hw,by rw[str_len];omega⟩
theorem KP (l:Array Nat):∀(k:Nat) (acc:Array Nat),(∀c∈acc.toList,c<128)->(∀c∈l.toList,c<128)->(∀c∈((List.replicate k l).foldl (·++·) acc).toList,c<128)/\((List.replicate k l).foldl (·++·) acc).size=acc.size+k*l.size
 |0,acc,h,_=>⟨h,by rw[Nat.zero_mul];rfl⟩
 |k+1,acc,h,hl=>by
  rw[List.replicate_succ,List.foldl_cons];obtain⟨i1,i2⟩:=KP l k (acc++l) (λ c hc=>by
   rw[Array.toList_append] at hc;exact (zy.mp hc).elim (h c) (hl c)) hl
  refine⟨i1,?_⟩;rw[i2,Array.size_append,Nat.succ_mul];omega
theorem JE {z:Str}(h:asc z){n:Int}(h1:1<=n):asc (Txt.mul z n)/\(Txt.mul z n).length<=z.length*n.toNat:=by
 unfold Txt.mul;rw[if_neg (by omega)];split
 ·refine⟨h,?_⟩;have:1<=n.toNat:=by omega
  exact Nat.le_mul_of_pos_right _ this
 ·obtain⟨i1,i2⟩:=KP z.cps n.toNat #[] (λ c hc=>by cases hc) h;refine⟨i1,?_⟩;show ((List.replicate n.toNat z.cps).foldl (·++·) #[]).size<=_;rw[i2,Nat.mul_comm];show 0+z.cps.size*n.toNat<=_;rw[Nat.zero_add];exact zv _
theorem Hx {z:Str}{n:Int}(h0:0<=n)(h1:n<=1000)(hz:z.length<=1000):Hr (.str z) (.int n)=.ok (.str (Txt.mul z n)):=by
 unfold Hr;exact if_pos ⟨h0,h1,hz⟩
end L2
set_option maxHeartbeats 4000000
namespace c9
open PySem L2
noncomputable def top (i:Nat):Stmt:=PySem.Challenge.pw_nodeladder_k82_texts_refused.main.body.getD i (.Pass ⟨0,0,0,0⟩)
noncomputable abbrev BR:Stmt:=top 13
theorem FJ:Am ["thing","bound"] ["thing","bound"] (A5 BR):=⟨rfl,rfl,rfl,by decide +kernel,rfl,by decide +kernel,by decide +kernel⟩
noncomputable abbrev Du:Stmt:=top 14
theorem HQ:Am ["thing"] ["thing"] (A5 Du):=⟨rfl,rfl,rfl,by decide +kernel,rfl,by decide +kernel,by decide +kernel⟩
noncomputable abbrev G6:Stmt:=top 15
theorem LN:Am ["thing","many"] ["thing","many"] (A5 G6):=⟨rfl,rfl,rfl,by decide +kernel,rfl,by decide +kernel,by decide +kernel⟩
noncomputable abbrev Hy:Stmt:=top 16
theorem G7:Am ["thing","many","roads"] ["thing"] (A5 Hy):=⟨rfl,rfl,rfl,by decide +kernel,rfl,by decide +kernel,by decide +kernel⟩
noncomputable abbrev Eh:Stmt:=top 18
theorem JF:Am ["word"] ["word"] (A5 Eh):=⟨rfl,rfl,rfl,by decide +kernel,rfl,by decide +kernel,by decide +kernel⟩
noncomputable abbrev Dv:Stmt:=top 19
theorem EM:Am ["part","first","count","words"] ["part","first","count"] (A5 Dv):=⟨rfl,rfl,rfl,by decide +kernel,rfl,by decide +kernel,by decide +kernel⟩
noncomputable abbrev D1:Stmt:=top 20
theorem Hz:Am ["word"] ["word"] (A5 D1):=⟨rfl,rfl,rfl,by decide +kernel,rfl,by decide +kernel,by decide +kernel⟩
noncomputable abbrev D2:Stmt:=top 21
theorem HA:Am ["word"] ["word"] (A5 D2):=⟨rfl,rfl,rfl,by decide +kernel,rfl,by decide +kernel,by decide +kernel⟩
noncomputable abbrev Ei:Stmt:=top 22
theorem FK:Am ["part","words"] ["part"] (A5 Ei):=⟨rfl,rfl,rfl,by decide +kernel,rfl,by decide +kernel,by decide +kernel⟩
noncomputable abbrev F2:Stmt:=top 23
theorem CO:Am ["text","parts","many","net"] ["text"] (A5 F2):=⟨rfl,rfl,rfl,by decide +kernel,rfl,by decide +kernel,by decide +kernel⟩
noncomputable abbrev D3:Stmt:=top 25
theorem HB:Am ["_law_script","_law_k"] ["_law_script","_law_k"] (A5 D3):=⟨rfl,rfl,rfl,by decide +kernel,rfl,by decide +kernel,by decide +kernel⟩
noncomputable abbrev Dw:Stmt:=top 26
theorem HR:Am ["_law_cell"] ["_law_cell"] (A5 Dw):=⟨rfl,rfl,rfl,by decide +kernel,rfl,by decide +kernel,by decide +kernel⟩
noncomputable abbrev G8:Stmt:=top 27
theorem Bq:Am ["_law_cells","_law_many","_law_roads","_law_cell","_law_start","_law_end","_law_mixed","_law_width"] ["_law_cells","_law_many"] (A5 G8):=⟨rfl,rfl,rfl,by decide +kernel,rfl,by decide +kernel,by decide +kernel⟩
noncomputable abbrev F5:Stmt:=top 28
theorem AU:Am ["_law_plan","_law_parts","_law_start","_law_end","_law_length_here","_law_width","_law_word"] ["_law_plan"] (A5 F5):=⟨rfl,rfl,rfl,by decide +kernel,rfl,by decide +kernel,by decide +kernel⟩
noncomputable abbrev F7:Stmt:=top 29
theorem CP:Am ["_law_cell","_law_some"] ["_law_cell"] (A5 F7):=⟨rfl,rfl,rfl,by decide +kernel,rfl,by decide +kernel,by decide +kernel⟩
noncomputable abbrev D4:Stmt:=top 30
theorem BG:Am ["_law_text_here","_law_cell","_law_way","_law_at","_law_sign_here"] ["_law_text_here","_law_cell"] (A5 D4):=⟨rfl,rfl,rfl,by decide +kernel,rfl,by decide +kernel,by decide +kernel⟩
noncomputable abbrev Dx:Stmt:=top 31
theorem EN:Am ["_law_word","_law_sign_here"] ["_law_word"] (A5 Dx):=⟨rfl,rfl,rfl,by decide +kernel,rfl,by decide +kernel,by decide +kernel⟩
noncomputable abbrev F8:Stmt:=top 32
theorem Bs:Am ["_law_part","_law_many","_law_words","_law_start","_law_end","_law_length_here","_law_width"] ["_law_part","_law_many"] (A5 F8):=⟨rfl,rfl,rfl,by decide +kernel,rfl,by decide +kernel,by decide +kernel⟩
noncomputable abbrev G9:Stmt:=top 33
theorem Cu:Am ["_law_text_here","_law_parts","_law_words","_law_many","_law_roads"] ["_law_text_here"] (A5 G9):=⟨rfl,rfl,rfl,by decide +kernel,rfl,by decide +kernel,by decide +kernel⟩
noncomputable abbrev Ga:Stmt:=top 34
theorem AW:Am ["_law_cell","_law_many","_law_some"] ["_law_cell"] (A5 Ga):=⟨rfl,rfl,rfl,by decide +kernel,rfl,by decide +kernel,by decide +kernel⟩
noncomputable abbrev Ej:Stmt:=top 35
theorem AN:Am ["_law_text_here","_law_due_here","_law_found","_law_told","e"] ["_law_text_here"] (A5 Ej):=⟨rfl,rfl,rfl,by decide +kernel,rfl,by decide +kernel,by decide +kernel⟩
noncomputable abbrev DM:Stmt:=top 36
theorem F9:Am ["_law_script","_law_many","_law_plan","_law_text_here","_law_k","_law_cell","_law_spoiled_here"] ["_law_script"] (A5 DM):=⟨rfl,rfl,rfl,by decide +kernel,rfl,by decide +kernel,by decide +kernel⟩
structure Txt (K:zb)(mg:Str->Option Value):Prop where
 Gb:AZ K mg "is_whole_below" BR ["thing","bound"]
 JG:AZ K mg "is_measure" Du ["thing"]
 Nv:AZ K mg "is_road" G6 ["thing","many"]
 Qd:AZ K mg "is_map" Hy ["thing"]
 KQ:AZ K mg "is_number" Eh ["word"]
 JH:AZ K mg "words_read" Dv ["part","first","count"]
 HS:AZ K mg "number_read" D1 ["word"]
 HU:AZ K mg "length_read" D2 ["word"]
 KR:AZ K mg "road_read" Ei ["part"]
 LO:AZ K mg "map_read" F2 ["text"]
 HV:AZ K mg "_law_cell_at" D3 ["_law_script","_law_k"]
 JI:AZ K mg "_law_length" Dw ["_law_cell"]
 Nw:AZ K mg "_law_map" G8 ["_law_cells","_law_many"]
 LP:AZ K mg "_law_text" F5 ["_law_plan"]
 LQ:AZ K mg "_law_sign" F7 ["_law_cell"]
 HW:AZ K mg "_law_spoiled" D4 ["_law_text_here","_law_cell"]
 JJ:AZ K mg "_law_number" Dx ["_law_word"]
 LR:AZ K mg "_law_road" F8 ["_law_part","_law_many"]
 Nx:AZ K mg "_law_due" G9 ["_law_text_here"]
 Ny:AZ K mg "_law_odd" Ga ["_law_cell"]
 KS:AZ K mg "_law_asked" Ej ["_law_text_here"]
 Xy:AZ K mg "law" DM ["_law_script"]
 JK:mg "ValueError" = none
 SD:mg "all" = none
 Uo:mg "bool" = none
 Qe:mg "int" = none
 Ad:mg "isinstance" = none
 C5:mg "len" = none
 Up:mg "list" = none
 Mv:mg "range" = none
 HC:mg "str" = none
 JL:mg "tuple" = none
 FL:ClsAt K mg "NoText"
 HX:Sx K mg "LadderError" "NoText"
 FN:GU K mg "NoText" "NoArc" false
 Ek:GU K mg "NoText" "NoDeed" false
 Cw:GU K mg "NoText" "NoLength" false
 FO:GU K mg "NoText" "NoMap" false
 De:GU K mg "NoText" "NoOrder" false
 Df:GU K mg "NoText" "NoPlace" false
 El:GU K mg "NoText" "NoRoad" false
 FQ:GU K mg "NoText" "NoRow" false
 Em:GU K mg "NoText" "NoText" true
 FR:GU K mg "NoText" "NoWay" false
 BH:Xh K "NoText" "ValueError" true
local macro_rules | `(tactic| simp_arith [$xs,*])=>`(tactic| simp only [XM,XN,RL,List.set_cons_zero,List.set_cons_succ,M.Aa,N0,MZ,OP,Pd,Pe,Pf,Rz,Js,TN,Kw,OZ,P5,N3,Vy,Rw,Rx,P6,WN,N4,N5,LB,TL,F0,TM,P7,P8,N6,Vz,OY,ON,toCl_list,toCl_listP,toCl_dct,RB,Pg,Ph,Pj,Pk,RC,Pm,Pn,Po,W4,Xj,P9,VA,Pa,VB,Pb,Pc,Ry,VC,XO,XQ,WR,WS,WT,WU,WV,WW,toCl_nil,Kj,Mi,JR,TQ,N7,RD,RE,Pp,Pq,RF,RG,RH,RI,RJ,Pr,Pt,Pw,Px,N8,N9,Na,Nb,Nc,Py,Nd,Nf,VD,VE,VF,VG,VH,Ng,ite_tt,ite_ff,Bool.not_true,Bool.not_false,List.getElem?_cons_zero,List.getElem?_cons_succ,IP,KD,PF,WQ,X0,WO,X1,X2,X3,RU,U9,Ua,Ub,Nk,Nl,RV,TY,X5,VR,Uc,$xs,*])
variable {P:Program}{w:World}{K:zb}{mg:Str->Option Value}{base:Heap}
theorem BI:∃F:List D->M OT,(∀ {P w K mg base},Txt K mg->CJ P w K mg base "is_whole_below" 1 2 F)/\(∀(d:D) (n:Int),ND d=false->F [d,.int n]=.ok (.sh (.bl (HN d n)))):=by
 refine⟨_,λ T=>AO (k:=0) T.Gb FJ _ (λ f Bx A outer s H E hr=>(A4 (Ab (Ao (FZ (Ec (Om _) rfl T.Ad rfl T.Qe (by decide +kernel) (A0 0 (pv 0))) (FZ (To (Ec (MR _) rfl T.Ad rfl T.Uo (by decide +kernel) (A0 0 (pv 0)))) (FY (MO K0 NU A3 (A0 0 (pv 0)) (A0 1 (pv 1)))))))))),?_⟩;intro d n hx;have e0:AH ["thing","bound"] [d,.int n]=[some (.val d),some (.val (.int n))]:=rfl;rw[e0];refine B7 ?_;simp_arith[Kf hx];cases d with
 |int j =>
  simp_arith[];unfold HN;by_cases h1:0<=j<;>by_cases h2:j<n<;>simp[h1,h2,AI,IP]<;>rfl
 |C3 x|ins x n d=>cases hx
 |_=>rfl
noncomputable def DP:List D->M OT:=zu BI
theorem B4:Txt K mg->CJ P w K mg base "is_whole_below" 1 2 DP:=(ze BI).1
theorem B5:∀(d:D) (n:Int),ND d=false->DP [d,.int n]=.ok (.sh (.bl (HN d n))):=(ze BI).2
theorem D5:∃F:List D->M OT,(∀ {P w K mg base},Txt K mg->CJ P w K mg base "is_measure" 2 1 F)/\(∀d:D,ND d=false->F [d]=.ok (.sh (.bl (HN d Bg)))):=by
 refine⟨_,λ T=>AO (k:=1) T.JG HQ _ (λ f Bx A outer s H E hr=>(A4 (Ab (Ac Aj.toXCall (B4 T) (hr.mono (by decide)) rfl (A1 (A0 0 (pv 0)) (A1 (Dk A3 A3) A7)) rfl)))),?_⟩;intro d hx;have e0:AH ["thing"] [d]=[some (.val d)]:=rfl;rw[e0];have h1:=B5 d Bg hx;refine B7 ?_;simp_arith[Gk,h1];rfl
noncomputable def Gn:List D->M OT:=zu D5
theorem EO:Txt K mg->CJ P w K mg base "is_measure" 2 1 Gn:=(ze D5).1
theorem EQ:∀d:D,ND d=false->Gn [d]=.ok (.sh (.bl (HN d Bg))):=(ze D5).2
theorem Fb:∃F:List D->M OT,(∀ {P w K mg base},Txt K mg->CJ P w K mg base "is_road" 3 2 F)/\(∀(d:D) (m:Int),cl 1 d->F [d,.int m]=.ok (.sh (.bl (Cs m d)))):=by
 refine⟨_,λ T=>AO (k:=2) T.Nv LN _ (λ f Bx A outer s H E hr=>(A2 (AD (DW.dt (BB (Bp (BP (c:=true) (Ec (EX _) rfl T.Ad rfl T.JL (by decide +kernel) (A0 0 (pv 0))))) (BA (Ft (c:=true) (BK hr 16 (by decide)) (Dm rfl T.C5 (A0 0 (pv 0))) A3)))) (A4 (Ab (Ao Gh))) Ah) (A2 (AD (DW.dt (BB (Bp (BP (c:=true) (Ai (Ac Aj.toXCall (B4 T) (hr.mono (by decide)) rfl (A1 (Au (BK hr 16 (by decide)) (A0 0 (pv 0)) A3) (A1 (A0 1 (pv 1)) A7)) rfl)))) (BA (Bp (BP (c:=true) (Ai (Ac Aj.toXCall (B4 T) (hr.mono (by decide)) rfl (A1 (Au (BK hr 16 (by decide)) (A0 0 (pv 0)) A3) (A1 (A0 1 (pv 1)) A7)) rfl))))))) (A4 (Ab (Ao Gh))) Ah) (A2 (AD (DJ (c:=true) (BK hr 16 (by decide)) (Au (BK hr 16 (by decide)) (A0 0 (pv 0)) A3) (Au (BK hr 16 (by decide)) (A0 0 (pv 0)) A3)) (A4 (Ab (Ao Gh))) Ah) (A4 (Ab (Ao (FZ (Sr (Tn (Au (BK hr 16 (by decide)) (A0 0 (pv 0)) A3)) (FY (Ai (Ac Aj.toXCall (EO T) (hr.mono (by decide)) rfl (A1 (Au (BK hr 16 (by decide)) (A0 0 (pv 0)) A3) A7) rfl)))) (FY (Ai (Ac Aj.toXCall (EO T) (hr.mono (by decide)) rfl (A1 (Au (BK hr 16 (by decide)) (A0 0 (pv 0)) A3) A7) rfl))))))))))),?_⟩;intro d m hc;have e0:AH ["thing","many"] [d,.int m]=[some (.val d),some (.val (.int m))]:=rfl;rw[e0];have hx:=hc.x;refine B7 ?_;cases d with
 |tup ds =>
  have d6:∀e∈ds,ND e=false:=λ e he=>(hc.2 ds (.inl rfl) e he).x;rcases ds with _|⟨a,_|⟨b,_|⟨l,_|⟨w,_|⟨z,r⟩⟩⟩⟩⟩
  ·rfl
  ·rfl
  ·rfl
  ·rfl
  ·have i0:Bu (.tup [a,b,l,w]) (.int 0)=.ok a:=rfl;have i1:Bu (.tup [a,b,l,w]) (.int 1)=.ok b:=rfl;have i2:Bu (.tup [a,b,l,w]) (.int 2)=.ok l:=rfl;have i3:Bu (.tup [a,b,l,w]) (.int 3)=.ok w:=rfl;have ha:=B5 a m (d6 a (by simp));have hb:=B5 b m (d6 b (by simp));have hl:=EQ l (d6 l (by simp));have hw:=EQ w (d6 w (by simp));apply wp_step
   ·rfl
   unfold Cs;dsimp only;cases qa:HN a m with
   |false=>simp_arith[i0,ha,qa,AI];rfl
   |true =>
    cases qb:HN b m with
    |false=>simp_arith[i0,i1,ha,hb,qa,qb,AI];rfl
    |true =>
     apply wp_step
     ·simp_arith[i0,i1,ha,hb,qa,qb,AI];rfl
     cases a with
     |int x =>
      cases b with
      |int y =>
       have he:Ak (.int x) (.int y)=decide (x=y):=by rw[Ak];by_cases h:x=y<;>simp[h]
       rw[he];by_cases fU:x=y
       ·simp_arith[i0,i1,decide_eq_true fU];rfl
       ·apply wp_step
        ·simp_arith[i0,i1,decide_eq_false fU];rfl
        rw[decide_eq_false fU];simp_arith[i2,i3,hl,hw];cases Av l<;>cases HN l Bg<;>cases HN w Bg<;>rfl
      |_=>cases qb
     |_=>cases qa
  ·have ay:¬ (((a::b::l::w::z::r).length:Nat):Int)=4:=by simp only[zi];omega
   simp_arith[decide_eq_false ay];rfl
 |C3 x|ins x n d=>cases hx
 |_=>rfl
noncomputable def KU:List D->M OT:=zu Fb
theorem LS:Txt K mg->CJ P w K mg base "is_road" 3 2 KU:=(ze Fb).1
theorem LU:∀(d:D) (m:Int),cl 1 d->KU [d,.int m]=.ok (.sh (.bl (Cs m d))):=(ze Fb).2
theorem Gd:∃F:List D->M OT,(∀ {P w K mg base},Txt K mg->CJ P w K mg base "is_map" 4 1 F)/\(∀d:D,cl 3 d->F [d]=.ok (.sh (.bl (DL d)))):=by
 refine⟨_,λ T=>AO (k:=3) T.Qd G7 _ (λ f Bx A outer s H E hr=>(A2 (AD (DW.dt (BB (Bp (BP (c:=true) (Ec (EX _) rfl T.Ad rfl T.JL (by decide +kernel) (A0 0 (pv 0))))) (BA (Ft (c:=true) (BK hr 16 (by decide)) (Dm rfl T.C5 (A0 0 (pv 0))) A3)))) (A4 (Ab (Ao Gh))) Ah) (A2 (Ag 1 G7.nd rfl (Or.inr rfl) (Au (BK hr 16 (by decide)) (A0 0 (pv 0)) A3)) (A2 (Ag 2 G7.nd rfl (zP rfl) (Au (BK hr 16 (by decide)) (A0 0 (pv 0)) A3)) (A2 (AD (DW.dt (BB (Bp (BP (c:=true) (Ai (Ac Aj.toXCall (B4 T) (hr.mono (by decide)) rfl (A1 (A0 1 (pv 1)) (A1 A3 A7)) rfl)))) (BA (DJ (c:=true) (BK hr 16 (by decide)) (A0 1 (pv 1)) A3)))) (A4 (Ab (Ao Gh))) Ah) (A2 (AD (DW.dt (BB (Bp (BP (c:=true) (Ec (MQ _) rfl T.Ad rfl T.Up (by decide +kernel) (A0 2 (pv 2))))) (BA (Iq (c:=true) (Dm rfl T.C5 (A0 2 (pv 2))) A3)))) (A4 (Ab (Ao Gh))) Ah) (A4 (Ab (Ao (OJ rfl rfl T.SD (Ai (Gw (NB:=["road","many"]) [none,some 1] rfl (Ey (A0 2 (pv 2))) rfl rfl (Ee 0 (by decide) rfl rfl rfl) (λ _ _ _ _=>Fv) (λ _ _ _ _=>(Ai (Cq (Ac (BD rfl).toXCall (LS T) (hr.mono (by decide)) rfl (A1 (A0 0 (pv 0)) (A1 (A0 1 (pv 1)) A7)) rfl)))))))))))))))),?_⟩;intro d hc;have e0:AH ["thing","many","roads"] [d]=[some (.val d),none,none]:=rfl;rw[e0];have hx:=hc.x;refine B7 ?_;cases d with
 |tup ds =>
  have d6:∀e∈ds,cl 2 e:=λ e he=>hc.2 ds (.inl rfl) e he;rcases ds with _|⟨n,_|⟨r,_|⟨z,t⟩⟩⟩
  ·rfl
  ·rw[Nj];rfl
  ·have i0:Bu (.tup [n,r]) (.int 0)=.ok n:=rfl;have i1:Bu (.tup [n,r]) (.int 1)=.ok r:=rfl;have hn:=B5 n 17 (d6 n (by simp)).x;have hr:=d6 r (by simp);have ie:=hr.x;apply wp_step
   ·rfl
   apply wp_step
   ·simp_arith[i0];rfl
   apply wp_step
   ·simp_arith[i1];rfl
   cases qn:HN n 17 with
   |false =>
    have e1:DL (.tup [n,r])=false:=by
     cases n with
     |int m=>cases r with
      |lst rs=>unfold DL;dsimp only;rw[qn];rfl
      |_=>rfl
     |_=>rfl
    rw[e1];simp_arith[hn,qn,AI];rfl
   |true =>
    cases n with
    |int m =>
     by_cases hm:m=0
     ·have e1:DL (.tup [.int m,r])=false:=by
       cases r with
       |lst rs=>unfold DL;dsimp only;rw[decide_eq_true hm];simp
       |_=>rfl
      rw[e1];simp_arith[hn,qn,AI,decide_eq_true hm];rfl
     ·apply wp_step
      ·simp_arith[hn,qn,AI,decide_eq_false hm];rfl
      cases r with
      |lst rs =>
       by_cases hl:rs.length<=60
       ·have cC:¬ (60:Int)<(rs.length:Int):=by omega
        have dv:rs.length<=1000:=by omega
        apply wp_step
        ·simp_arith[decide_eq_false cC];rfl
        simp_arith[if_pos dv];rw[MX (λ d=>.bl (Cs m d)) rs]
        ·have e2:(rs.map λ d=>D.bl (Cs m d))=(rs.map (Cs m)).map D.bl:=by rw[List.map_map];rfl
         rw[e2];unfold DL;dsimp only;rw[qn,decide_eq_true hl,decide_eq_false hm];simp_arith[Bool.true_and];rfl
        ·intro d hd;have:=LU d m (hr.2 rs (.inr rfl) d hd);exact⟨_,rfl,rfl,by simp_arith[this]⟩
       ·have cC:(60:Int)<(rs.length:Int):=by omega
        unfold DL;dsimp only;rw[decide_eq_false hl];simp_arith[decide_eq_true cC,Bool.false_and,Bool.and_false];rfl
      |C3 x|ins x n d=>cases ie
      |_=>rfl
    |_=>cases qn
  ·have ay:¬ (((n::r::z::t).length:Nat):Int)=2:=by simp only[zi];omega
   rw[LF];simp_arith[decide_eq_false ay];rfl
 |C3 x|ins x n d=>cases hx
 |_=>rfl
noncomputable def Mw:List D->M OT:=zu Gd
theorem Nz:Txt K mg->CJ P w K mg base "is_map" 4 1 Mw:=(ze Gd).1
theorem NA:∀d:D,cl 3 d->Mw [d]=.ok (.sh (.bl (DL d))):=(ze Gd).2
theorem Dy:∃F:List D->M OT,(∀ {P w K mg base},Txt K mg->CJ P w K mg base "is_number" 1 1 F)/\(∀z:Str,asc z->z.length<=2000->F [.str z]=.ok (.sh (.bl (B2 z)))):=by
 refine⟨_,λ T=>AO (k:=0) T.KQ JF _ (λ f Bx A outer s H E hr=>(A2 (AD (DW.dt (BB (Bp (IH (c:=true) K0 K0 A3 (Dr rfl T.C5 (A0 0 (pv 0))) A3)) (BA (Bp (BP (c:=true) (OJ rfl rfl T.SD (Ai (Gw (NB:=["sign"]) [none] rfl (PD (A0 0 (pv 0))) rfl rfl (Ee 0 (by decide) rfl rfl rfl) (λ _ _ _ _=>Fv) (λ _ _ _ _=>(U1 (A0 0 (pv 0)) A6)))))))))) (A4 (Ab (Ao Gh))) Ah) (A4 (Ab (Ao (Sr (Mb (BK hr 16 (by decide)) (A0 0 (pv 0)) A6) (FY (Vd (BK hr 16 (by decide)) (LC (A0 0 (pv 0)) A3) A6)))))))),?_⟩;intro z ha hz;have e0:AH ["word"] [.str z]=[some (.val (.str z))]:=rfl;rw[e0];refine B7 ?_;have hl:Hj [.str z]=.ok (.int z.length):=if_pos (by omega);have hit:W7 (.str z)=.ok ((tl z).map λ k=>D.str ⟨#[k]⟩):=if_pos (Mt ha);unfold B2;by_cases c1:1<=z.length
 rotate_left
 ·have n1:decide ((1:Int)<=(z.length:Int))=false:=decide_eq_false (by omega);rw[decide_eq_false c1];simp_arith[hl,As,n1,if_false,zC,Bool.false_and];rfl
 have n1:decide ((1:Int)<=(z.length:Int))=true:=decide_eq_true (by omega);by_cases c2:z.length<=60
 rotate_left
 ·have n2:decide ((z.length:Int)<=60)=false:=decide_eq_false (by omega);rw[decide_eq_false c2];simp_arith[hl,As,n1,n2,if_true,Bool.false_and,Bool.and_false];rfl
 have n2:decide ((z.length:Int)<=60)=true:=decide_eq_true (by omega);have ig:((tl z).map λ k=>D.str ⟨#[k]⟩).length<=1000:=by rw[zo,Bh];omega
 have e2:((tl z).map λ k=>D.bl (BY k))=((tl z).map BY).map D.bl:=by rw[List.map_map];rfl
 have dG:=KD (bs:=(tl z).map BY);rw[List.all_map] at dG;have e3:((tl z).all (id ∘ BY))=(tl z).all BY:=rfl;rw[e3] at dG;rw[decide_eq_true c1,decide_eq_true c2];cases qd:(tl z).all BY with
 |false =>
  rw[qd] at dG;simp_arith[hl,As,n1,n2,if_true,hit,if_pos ig];rw[Cr (λ k:Nat=>D.bl (BY k)) (λ k hk=>⟨_,rfl,rfl,by
   have:=Q8 k (ha k hk);simp_arith[this];try rfl⟩),e2]
  simp_arith[dG,AI,Bool.false_and,Bool.and_false];rfl
 |true =>
  rw[qd] at dG;refine wp_step (ρ':=[some (.val (.str z))]) (by
   simp_arith[hl,As,n1,n2,if_true,hit,if_pos ig];rw[Cr (λ k:Nat=>D.bl (BY k)) (λ k hk=>⟨_,rfl,rfl,by
    have:=Q8 k (ha k hk);simp_arith[this];try rfl⟩),e2]
   simp_arith[dG,AI];try rfl) ?_
  have q1:=Jz z (zc "0");obtain⟨c,r,hc⟩:∃c r,tl z=c::r:=by
   cases q:tl z with
   |nil=>have:=Bh z;rw[q] at this;simp at this;omega
   |cons c r=>exact⟨c,r,rfl⟩
  have fV:z.cps[0]?=some c:=by rw[<-y0];show (tl z)[0]?=_;rw[hc];rfl
  have q3:Ky (.str z) (.int 0)=.ok (.str ⟨#[c]⟩):=by
   unfold Ky;dsimp only;rw[if_pos ⟨by omega,by omega,by omega⟩];show (match z.cps[0]? with|some k=>M.ok (D.str ⟨#[k]⟩)|none=>.bad)=_;rw[fV]
  have q4:=FF ⟨#[c]⟩ (zc "0");have e5:((⟨#[c]⟩:Str)==zc "0")=((tl z).head? == some 48):=by
   rw[hc,List.head?_cons];by_cases h:c=48
   ·subst h;decide +kernel
   ·rw[str_beq λ e=>h (by have:=congrArg (λ z:Str=>z.cps[0]?) e;exact zF this)];exact (beq_eq_false_iff_ne.mpr λ e=>h (zF e)).symm
  rw[e5] at q4;cases qz:(z==zc "0") with
  |true =>
   rw[qz] at q1;simp_arith[q1,AI];rfl
  |false =>
   rw[qz] at q1;simp_arith[q1,q3,q4,AI];rfl
noncomputable def HD:List D->M OT:=zu Dy
theorem JM:Txt K mg->CJ P w K mg base "is_number" 1 1 HD:=(ze Dy).1
theorem JN:∀z:Str,asc z->z.length<=2000->HD [.str z]=.ok (.sh (.bl (B2 z))):=(ze Dy).2
theorem D6:∃F:List D->M OT,(∀ {P w K mg base},Txt K mg->CJ P w K mg base "words_read" 1 3 F)/\(∀(x y w:Str) (ws:List Str) (n:Nat),x.length<=2000->zM x BL=w::ws->(w=y/\ws.length+1=n->F [.str x,.str y,.int n]=.ok (.sh (.lst ((w::ws).map D.str))))/\(¬ (w=y/\ws.length+1=n)->F [.str x,.str y,.int n]=.ex "NoText")):=by
 refine⟨_,λ T=>AO (k:=0) T.JH EM _ (λ f Bx A outer s H E hr=>(A2 (Ag 3 EM.nd rfl (zP rfl) (Ai (Eg (A0 0 (pv 0)) A6))) (A2 (AD (DW.dt (BB (Ft (c:=true) (BK hr 16 (by decide)) (Au (BK hr 16 (by decide)) (A0 3 (pv 3)) A3) (A0 1 (pv 1))) (BA (Ft (c:=true) (BK hr 16 (by decide)) (Dm rfl T.C5 (A0 3 (pv 3))) (A0 2 (pv 2)))))) (A4 (EA (c:=true) T.FL Aj rfl rfl A6)) Ah) (A4 (Ab (Ao (A0 3 (pv 3)))))))),?_⟩;intro x y w ws n hx hs;have e0:AH ["part","first","count","words"] [.str x,.str y,.int n]=[some (.val (.str x)),some (.val (.str y)),some (.val (.int n)),none]:=rfl;rw[e0];have hp:F1 x (.str (zc " "))=.ok (.lst (((w::ws).map D.str).map .sh)):=by
  rw[<-hs];exact if_pos ⟨by decide,by omega⟩
 have hi:Bu (.lst ((w::ws).map D.str)) (.int 0)=.ok (.str w):=Dq (by decide) rfl;have q:=FF w y;have hlen:(((w::ws).map D.str).length:Int)=((ws.length+1:Nat):Int):=by rw[zo,zi]
 refine⟨λ⟨h1,h2⟩=>B7 ?_,λ h=>Dt ?_⟩
 ·rw[h1,beq_self_eq_true] at q;have ay:decide ((((w::ws).map D.str).length:Int)=(n:Int))=true:=decide_eq_true (by rw[hlen];omega);rw[h1] at hi ay hp;refine wp_step (ρ':=[some (.val (.str x)),some (.val (.str y)),some (.val (.int n)),some (.val (.lst ((y::ws).map D.str)))]) (by simp_arith[Mn,hp];try rfl) ?_;refine wp_step (ρ':=[some (.val (.str x)),some (.val (.str y)),some (.val (.int n)),some (.val (.lst ((y::ws).map D.str)))]) (by simp_arith[hi,q,ay,AI];try rfl) ?_;simp_arith[h1];rfl
 ·refine wp_step (ρ':=[some (.val (.str x)),some (.val (.str y)),some (.val (.int n)),some (.val (.lst ((w::ws).map D.str)))]) (by simp_arith[Mn,hp];try rfl) ?_;by_cases h1:w=y
  ·rw[h1,beq_self_eq_true] at q;have ay:decide ((((w::ws).map D.str).length:Int)=(n:Int))=false:=decide_eq_false (by rw[hlen];intro z;exact h ⟨h1,by omega⟩);rw[h1] at hi ay;simp_arith[h1,hi,q,ay,AI];rfl
  ·rw[str_beq h1] at q;simp_arith[hi,q,AI];rfl
noncomputable def CQ:List D->M OT:=zu D6
theorem ER:Txt K mg->CJ P w K mg base "words_read" 1 3 CQ:=(ze D6).1
theorem D7:∀(x y w:Str) (ws:List Str) (n:Nat),x.length<=2000->zM x BL=w::ws->(w=y/\ws.length+1=n->CQ [.str x,.str y,.int n]=.ok (.sh (.lst ((w::ws).map D.str))))/\(¬ (w=y/\ws.length+1=n)->CQ [.str x,.str y,.int n]=.ex "NoText"):=(ze D6).2
theorem Cy:∃F:List D->M OT,(∀ {P w K mg base},Txt K mg->CJ P w K mg base "number_read" 2 1 F)/\(∀z:Str,asc z->z.length<=2000->(∀i,AR z=some i->F [.str z]=.ok (.sh (.int i)))/\(AR z=none->F [.str z]=.ex "NoText")):=by
 refine⟨_,λ T=>AO (k:=1) T.HS Hz _ (λ f Bx A outer s H E hr=>(A2 (AD (Bp (BP (c:=true) (Ai (Ac Aj.toXCall (JM T) (hr.mono (by decide)) rfl (A1 (A0 0 (pv 0)) A7) rfl)))) (A4 (EA (c:=true) T.FL Aj rfl rfl A6)) Ah) (A4 (Ab (Ao (Mm rfl T.Qe (A0 0 (pv 0)))))))),?_⟩;intro z ha hz;have e0:AH ["word"] [.str z]=[some (.val (.str z))]:=rfl;rw[e0];have h:=JN z ha hz;refine⟨λ i hi=>B7 ?_,λ hn=>Dt ?_⟩
 ·obtain⟨h1,h2,h3⟩:=Ds hi;obtain⟨j,_,_,e1,e2⟩:=FH h1;rw[hi] at e2;cases e2;rw[h1] at h;have fW:Hk [.str z]=.ok (.int i):=by
   unfold Hk;dsimp only;rw[e1,LH h2 h3];exact if_pos (by have:=(C2 h2 h3).2;omega)
  refine wp_step (ρ':=[some (.val (.str z))]) (by simp_arith[h,AI];try rfl) ?_;simp_arith[fW];rfl
 ·have h1:B2 z=false:=by
   cases q:B2 z with
   |false=>rfl
   |true =>
    obtain⟨j,_,_,_,e2⟩:=FH q;rw[e2] at hn;cases hn
  rw[h1] at h;simp_arith[h,AI];rfl
noncomputable def Cb:List D->M OT:=zu Cy
theorem B8:Txt K mg->CJ P w K mg base "number_read" 2 1 Cb:=(ze Cy).1
theorem AS:∀z:Str,asc z->z.length<=2000->(∀i,AR z=some i->Cb [.str z]=.ok (.sh (.int i)))/\(AR z=none->Cb [.str z]=.ex "NoText"):=(ze Cy).2
theorem Cz:∃F:List D->M OT,(∀ {P w K mg base},Txt K mg->CJ P w K mg base "length_read" 3 1 F)/\(∀z:Str,asc z->z.length<=2000->(∀l,DU z=some l->F [.str z]=.ok (.sh (BX l)))/\(DU z=none->F [.str z]=.ex "NoText")):=by
 refine⟨_,λ T=>AO (k:=2) T.HU HA _ (λ f Bx A outer s H E hr=>(A2 (AD (DJ (c:=true) (BK hr 16 (by decide)) (A0 0 (pv 0)) A6) (A4 (Ab (Ao By))) Ah) (A4 (Ab (Ac Aj.toXCall (B8 T) (hr.mono (by decide)) rfl (A1 (A0 0 (pv 0)) A7) rfl))))),?_⟩;intro z ha hz;have e0:AH ["word"] [.str z]=[some (.val (.str z))]:=rfl;rw[e0];have q:=Jz z (zc "-");have hr:=AS z ha hz;unfold DU;by_cases h1:z=zc "-"
 ·rw[if_pos h1];have h2:(z==zc "-")=true:=by rw[h1];exact beq_self_eq_true _
  rw[h2] at q;refine⟨λ l hl=>B7 ?_,λ hn=>by cases hn⟩;cases hl;simp_arith[q];rfl
 ·rw[if_neg h1];rw[str_beq h1] at q;refine⟨λ l hl=>B7 ?_,λ hn=>Dt ?_⟩
  ·obtain⟨i,h2,rfl⟩:=zX.mp hl;have h3:=hr.1 i h2;refine wp_step (ρ':=[some (.val (.str z))]) (by simp_arith[q];try rfl) ?_;simp_arith[h3];rfl
  ·have h3:=hr.2 (Option.map_eq_none_iff.mp hn);refine wp_step (ρ':=[some (.val (.str z))]) (by simp_arith[q];try rfl) ?_;simp_arith[h3];rfl
noncomputable def Dz:List D->M OT:=zu Cz
theorem HE:Txt K mg->CJ P w K mg base "length_read" 3 1 Dz:=(ze Cz).1
theorem HF:∀z:Str,asc z->z.length<=2000->(∀l,DU z=some l->Dz [.str z]=.ok (.sh (BX l)))/\(DU z=none->Dz [.str z]=.ex "NoText"):=(ze Cz).2
theorem DB:∃F:List D->M OT,(∀ {P w K mg base},Txt K mg->CJ P w K mg base "road_read" 4 1 F)/\(∀p:Str,asc p->p.length<=2000->(∀r,Gm p=some r->F [.str p]=.ok (.sh (ED r)))/\(Gm p=none->F [.str p]=.ex "NoText")):=by
 refine⟨_,λ T=>AO (k:=3) T.KR FK _ (λ f Bx A outer s H E hr=>(A2 (Ag 1 FK.nd rfl (zP rfl) (Ai (Ac Aj.toXCall (ER T) (hr.mono (by decide)) rfl (A1 (A0 0 (pv 0)) (A1 A6 (A1 A3 A7))) rfl))) (A4 (Ab (Ao (FW (A1 (Ai (Ac Aj.toXCall (B8 T) (hr.mono (by decide)) rfl (A1 (Au (BK hr 16 (by decide)) (A0 1 (pv 1)) A3) A7) rfl)) (A1 (Ai (Ac Aj.toXCall (B8 T) (hr.mono (by decide)) rfl (A1 (Au (BK hr 16 (by decide)) (A0 1 (pv 1)) A3) A7) rfl)) (A1 (Ai (Ac Aj.toXCall (HE T) (hr.mono (by decide)) rfl (A1 (Au (BK hr 16 (by decide)) (A0 1 (pv 1)) A3) A7) rfl)) (A1 (Ai (Ac Aj.toXCall (B8 T) (hr.mono (by decide)) rfl (A1 (Au (BK hr 16 (by decide)) (A0 1 (pv 1)) A3) A7) rfl)) A7)))))))))),?_⟩;intro p ha hz;have e0:AH ["part","words"] [.str p]=[some (.val (.str p)),none]:=rfl;rw[e0];unfold Gm;have aA:∀w∈zM p BL,asc w/\w.length<=2000:=λ w hw=>⟨(AE ha hw).1,by have:=(AE ha hw).2;omega⟩;have ay:=Dd p BL (by decide);cases qs:zM p BL with
 |nil=>exact (ay qs).elim
 |cons w ws =>
 rw[qs] at aA;have hw:=D7 p (zc "road") w ws 5 hz qs;have h5:(5:Int)=((5:Nat):Int):=rfl;by_cases hc:w=zc "road" /\ ws.length+1=5
 rotate_left
 ·have hx:=hw.2 hc;have hn:Hu (w::ws)=none:=by
   unfold Hu;split
   ·rename_i x a b l v e;cases e;exact if_neg λ z=>hc ⟨z,rfl⟩
   ·rfl
  rw[hn];refine⟨λ r h=>(by cases h),λ _=>Dt ?_⟩;simp_arith[h5,hx];rfl
 have hx:=hw.1 hc;obtain⟨rfl,hl⟩:=hc;obtain⟨a,b,l,v,rfl⟩:∃a b l v,ws=[a,b,l,v]:=by
  match ws,hl with
  |[a,b,l,v],_=>exact⟨a,b,l,v,rfl⟩
 have ra:=AS a (aA a (by simp)).1 (aA a (by simp)).2;have rb:=AS b (aA b (by simp)).1 (aA b (by simp)).2;have rl:=HF l (aA l (by simp)).1 (aA l (by simp)).2;have rv:=AS v (aA v (by simp)).1 (aA v (by simp)).2;have i1:Bu (.lst ([zc "road",a,b,l,v].map D.str)) (.int 1)=.ok (.str a):=rfl;have i2:Bu (.lst ([zc "road",a,b,l,v].map D.str)) (.int 2)=.ok (.str b):=rfl;have i3:Bu (.lst ([zc "road",a,b,l,v].map D.str)) (.int 3)=.ok (.str l):=rfl;have i4:Bu (.lst ([zc "road",a,b,l,v].map D.str)) (.int 4)=.ok (.str v):=rfl;have er:Hu [zc "road",a,b,l,v]=(AR a).bind λ i=>(AR b).bind λ j=>(DU l).bind λ k=>(AR v).map λ n=>⟨i,j,k,n⟩:=by
  unfold Hu;dsimp only;rw[if_pos rfl]
 rw[er];refine⟨λ r h=>B7 ?_,λ h=>Dt ?_⟩
 ·refine wp_step (ρ':=[some (.val (.str p)),some (.val (.lst ([zc "road",a,b,l,v].map D.str)))]) (by simp_arith[h5,hx];try rfl) ?_;cases qa:AR a with
  |none=>rw[qa] at h;cases h
  |some i =>
  cases qb:AR b with
  |none=>rw[qa,qb] at h;cases h
  |some j =>
  cases ql:DU l with
  |none=>rw[qa,qb,ql] at h;cases h
  |some k =>
  cases qv:AR v with
  |none=>rw[qa,qb,ql,qv] at h;cases h
  |some n =>
  rw[qa,qb,ql,qv] at h;cases h;have ha:=ra.1 i qa;have hb:=rb.1 j qb;have hl:=rl.1 k ql;have hv:=rv.1 n qv;simp_arith[i1,i2,i3,i4,ha,hb,hl,hv];rfl
 ·refine wp_step (ρ':=[some (.val (.str p)),some (.val (.lst ([zc "road",a,b,l,v].map D.str)))]) (by simp_arith[h5,hx];try rfl) ?_;cases qa:AR a with
  |none =>
   have ha:=ra.2 qa;simp_arith[i1,ha];rfl
  |some i =>
  have ha:=ra.1 i qa;cases qb:AR b with
  |none =>
   have hb:=rb.2 qb;simp_arith[i1,i2,ha,hb];rfl
  |some j =>
  have hb:=rb.1 j qb;cases ql:DU l with
  |none =>
   have hl:=rl.2 ql;simp_arith[i1,i2,i3,ha,hb,hl];rfl
  |some k =>
  have hl:=rl.1 k ql;cases qv:AR v with
  |none =>
   have hv:=rv.2 qv;simp_arith[i1,i2,i3,i4,ha,hb,hl,hv];rfl
  |some n =>
   rw[qa,qb,ql,qv] at h;cases h
noncomputable def DC:List D->M OT:=zu DB
theorem JO:Txt K mg->CJ P w K mg base "road_read" 4 1 DC:=(ze DB).1
theorem JP:∀p:Str,asc p->p.length<=2000->(∀r,Gm p=some r->DC [.str p]=.ok (.sh (ED r)))/\(Gm p=none->DC [.str p]=.ex "NoText"):=(ze DB).2
theorem En:∃F:List D->M OT,(∀ {P w K mg base},Txt K mg->CJ P w K mg base "map_read" 5 1 F)/\((∀x:Str,asc x->x.length<=1990->(∀m rs,KL x=some (m,rs)->F [.str x]=.ok (.tup [.sh (.int m),.lst ((rs.map ED).map .sh)]))/\(KL x=none->F [.str x]=.ex "NoText"))/\(∀d:D,Cn "str" d=.ok (.bl false)->F [d]=.ex "NoText")):=by
 refine⟨_,λ T=>AO (k:=4) T.LO CO _ (λ f Bx A outer s H E hr=>(A2 (AD (Bp (BP (c:=true) (Ec (Kt _) rfl T.Ad rfl T.HC (by decide +kernel) (A0 0 (pv 0))))) (A4 (EA (c:=true) T.FL Aj rfl rfl A6)) Ah) (A2 (Ag 1 CO.nd rfl (zP rfl) (Ai (Eg (A0 0 (pv 0)) A6))) (A2 (Ag 2 CO.nd rfl (zP rfl) (Ai (Ac Aj.toXCall (B8 T) (hr.mono (by decide)) rfl (A1 (Au (BK hr 16 (by decide)) (Ai (Ac Aj.toXCall (ER T) (hr.mono (by decide)) rfl (A1 (Au (BK hr 16 (by decide)) (A0 1 (pv 1)) A3) (A1 A6 (A1 A3 A7))) rfl)) A3) A7) rfl))) (A2 (Jp 3 CO.nd rfl (zP rfl) (TF (Ha (Ao (A0 2 (pv 2))) (Ha (PZ (NB:=["part"]) [none] (Ey (Ai (He (A0 1 (pv 1)) (B1 A3) BU))) rfl rfl (Q1 0 (by decide) rfl rfl rfl) (λ _ _ _ _ xo=>(Ai (Ac xo (JO T) (hr.mono (by decide)) rfl (A1 (A0 0 (pv 0)) A7) rfl)))) Jo)))) (A2 (AD (TH (Bp (BP (c:=true) (Ai (Ac Aj.toXCall (Nz T) (hr.mono (by decide)) rfl (A1 (A0 3 (pv 3)) A7) rfl))))) (A4 (EA (c:=true) T.FL Aj rfl rfl A6)) Ah) (A4 (Rp 3 (pv 3))))))))),?_⟩;refine⟨λ x ha hz=>?_,λ d hd=>?_⟩
 rotate_left
 ·have e0:AH ["text","parts","many","net"] [d]=[some (.val d),none,none,none]:=rfl;rw[e0];refine Dt ?_;simp_arith[hd,AI];rfl
 have e0:AH ["text","parts","many","net"] [.str x]=[some (.val (.str x)),none,none,none]:=rfl;rw[e0];have ay:=Dd x SC (by decide);unfold KL;cases qs:zM x SC with
 |nil=>exact (ay qs).elim
 |cons p ps =>
 have aA:∀w∈p::ps,asc w/\w.length<=2000:=λ w hw=>by
  rw[<-qs] at hw;exact⟨(AE ha hw).1,by have:=(AE ha hw).2;omega⟩
 have d7:=IT x SC;rw[qs,zi,show SC.length=2 by decide] at d7;have hp:F1 x (.str (zc "; "))=.ok (.lst (((p::ps).map D.str).map .sh)):=by
  rw[<-qs];exact if_pos ⟨by decide,by omega⟩
 have i0:Bu (.lst ((p::ps).map D.str)) (.int 0)=.ok (.str p):=Dq (by decide) rfl;have sl:Rv (some (1:Int)) none (.lst ((p::ps).map D.str))=.ok (.lst ((ps.map D.str).map .sh)):=Kx ((p::ps).map D.str) 1;have hl:(ps.map D.str).length<=1000:=by rw[zo];omega
 have cL:=aA p zf;have cM:=Dd p BL (by decide);have h2:(2:Int)=((2:Nat):Int):=rfl;have s1:∀ {g:A8->M Out} {Q:Out->Prop} {N:A8->Prop} {X:Str->Prop},WP (g [some (.val (.str x)),some (.val (.lst ((p::ps).map D.str))),none,none]) N Q X->WP (g [some (.val (.str x)),some (.val (.lst ((p::ps).map D.str))),none,none]) N Q X:=λ h=>h;dsimp only;cases q0:Uj p with
 |none =>
  refine⟨λ m rs h=>(by cases h),λ _=>Dt ?_⟩;refine wp_step (ρ':=[some (.val (.str x)),none,none,none]) (by simp_arith[];try rfl) ?_;refine wp_step (ρ':=[some (.val (.str x)),some (.val (.lst ((p::ps).map D.str))),none,none]) (by simp_arith[Mn,hp];try rfl) ?_;unfold Uj at q0;cases qw:zM p BL with
  |nil=>exact (cM qw).elim
  |cons w ws =>
  have hw:=D7 p (zc "places") w ws 2 cL.2 qw;by_cases hc:w=zc "places" /\ ws.length+1=2
  ·have hx:=hw.1 hc;obtain⟨rfl,dH⟩:=hc;obtain⟨n,rfl⟩:∃n,ws=[n]:=by
    match ws,dH with
    |[n],_=>exact⟨n,rfl⟩
   rw[qw] at q0;dsimp only at q0;rw[if_pos rfl] at q0;have hn:n∈zM p BL:=by rw[qw];simp
   have hr:=(AS n (AE cL.1 hn).1 (by have:=(AE cL.1 hn).2;omega)).2 q0;have i1:Bu (.lst ([zc "places",n].map D.str)) (.int 1)=.ok (.str n):=rfl;simp_arith[i0,h2,hx,i1,hr];rfl
  ·have hx:=hw.2 hc;simp_arith[i0,h2,hx];rfl
 |some m =>
 have hm:CQ [.str p,.str (zc "places"),.int ((2:Nat):Int)]=.ok (.sh (.lst ([zc "places",(zM p BL).getD 1 (zc "")].map D.str)))/\Cb [.str ((zM p BL).getD 1 (zc ""))]=.ok (.sh (.int m))/\0<=m:=by
  unfold Uj at q0;cases qw:zM p BL with
  |nil=>exact (cM qw).elim
  |cons w ws =>
  rw[qw] at q0
  match ws,q0,qw with
  |[],q1,qw=>cases q1
  |[n],q1,qw =>
   dsimp only at q1;clear q0;by_cases hc:w=zc "places"
   ·rw[if_pos hc] at q1;subst hc;have hn:n∈zM p BL:=by rw[qw];simp
    exact⟨(D7 p (zc "places") _ [n] 2 cL.2 qw).1 ⟨rfl,rfl⟩,(AS n (AE cL.1 hn).1 (by have:=(AE cL.1 hn).2;omega)).1 m q1,(Ds q1).2.1⟩
   ·rw[if_neg hc] at q1;cases q1
  |_::_::_,q1,qw=>cases q1
 generalize (zM p BL).getD 1 (zc "")=n at hm;obtain⟨hw,hr,m0⟩:=hm;have i1:Bu (.lst ([zc "places",n].map D.str)) (.int 1)=.ok (.str n):=rfl;have jV:∀ {g:A8->M Out},True:=trivial;have cm:∀ {gt:D->A8->M A8} {fe:A8->M D} {ρ:A8},(∀w∈ps,∃ρ1,gt (.str w) ρ=.ok ρ1/\fe ρ1=(DC [.str w]).bind W4)->(∀rs,CK Gm ps=some rs->BQ gt (λ _=>.ok true) fe (ps.map D.str) ρ=.ok (rs.map ED))/\(CK Gm ps=none->BQ gt (λ _=>.ok true) fe (ps.map D.str) ρ=.ex "NoText"):=λ H=>Hw Gm λ w hw=>by
  obtain⟨ρ1,h1,h2⟩:=H w hw;have fK:=JP w (aA w (zg _ hw)).1 (aA w (zg _ hw)).2;exact⟨ρ1,h1,λ r hr=>by rw[h2,fK.1 r hr];rfl,λ hn=>by rw[h2,fK.2 hn];rfl⟩
 cases qr:CK Gm ps with
 |none =>
  refine⟨λ m rs h=>(by cases h),λ _=>Dt ?_⟩;refine wp_step (ρ':=[some (.val (.str x)),none,none,none]) (by simp_arith[];try rfl) ?_;refine wp_step (ρ':=[some (.val (.str x)),some (.val (.lst ((p::ps).map D.str))),none,none]) (by simp_arith[Mn,hp];try rfl) ?_;refine wp_step (ρ':=[some (.val (.str x)),some (.val (.lst ((p::ps).map D.str))),some (.val (.int m)),none]) (by simp_arith[i0,h2,hw,i1,hr];try rfl) ?_;simp_arith[sl,if_pos hl];rw[(cm λ w hw=>⟨_,rfl,rfl⟩).2 qr];rfl
 |some rs =>
 have fX:=Uk qr;have AF:=Nr m0 fX;have eZ:er (.tup [.sh (.int m),.lst ((rs.map ED).map .sh)])=AQ m rs:=by
  have e:∀l:List D,Gu (l.map .sh)=l:=λ l=>by
   induction l with
   |nil=>rw[List.map_nil,Gu]
   |cons a r ih=>rw[zx,Gu,Kw,ih]
  rw[er,Gu,Gu,Gu,Kw,er,e];rfl
 have cn:=NA (AQ m rs) (PJ (EF Ho (EF (U5 U8) PK)));rw[AF] at cn;have run:∀ {g:A8->M Out},True:=trivial;by_cases hc:(1<=m/\m<=16)/\rs.length<=60/\(rs.all (Ca m))=true
 ·rw[decide_eq_true hc] at cn;refine⟨λ m' jt h=>B7 ?_,λ h=>?_⟩
  rotate_left
  ·change (if _ then _ else _)=_ at h;rw[if_pos hc] at h;cases h
  change (if _ then _ else _)=_ at h;rw[if_pos hc] at h;cases h;refine wp_step (ρ':=[some (.val (.str x)),none,none,none]) (by simp_arith[];try rfl) ?_;refine wp_step (ρ':=[some (.val (.str x)),some (.val (.lst ((p::ps).map D.str))),none,none]) (by simp_arith[Mn,hp];try rfl) ?_;refine wp_step (ρ':=[some (.val (.str x)),some (.val (.lst ((p::ps).map D.str))),some (.val (.int m)),none]) (by simp_arith[i0,h2,hw,i1,hr];try rfl) ?_;refine wp_step (ρ':=[some (.val (.str x)),some (.val (.lst ((p::ps).map D.str))),some (.val (.int m)),some (.ow (.tree none (.tup [.sh (.int m),.lst ((rs.map ED).map .sh)])))]) (by
   simp_arith[sl,if_pos hl];rw[(cm λ w hw=>⟨_,rfl,rfl⟩).1 rs qr];rfl) ?_
  refine wp_step (ρ':=[some (.val (.str x)),some (.val (.lst ((p::ps).map D.str))),some (.val (.int m)),some (.ow (.tree none (.tup [.sh (.int m),.lst ((rs.map ED).map .sh)])))]) (by simp_arith[eZ,cn,AI];try rfl) ?_;simp_arith[];exact⟨_,rfl,rfl⟩
 ·rw[decide_eq_false hc] at cn;refine⟨λ m' jt h=>?_,λ h=>Dt ?_⟩
  ·change (if _ then _ else _)=_ at h;rw[if_neg hc] at h;cases h
  refine wp_step (ρ':=[some (.val (.str x)),none,none,none]) (by simp_arith[];try rfl) ?_;refine wp_step (ρ':=[some (.val (.str x)),some (.val (.lst ((p::ps).map D.str))),none,none]) (by simp_arith[Mn,hp];try rfl) ?_;refine wp_step (ρ':=[some (.val (.str x)),some (.val (.lst ((p::ps).map D.str))),some (.val (.int m)),none]) (by simp_arith[i0,h2,hw,i1,hr];try rfl) ?_;refine wp_step (ρ':=[some (.val (.str x)),some (.val (.lst ((p::ps).map D.str))),some (.val (.int m)),some (.ow (.tree none (.tup [.sh (.int m),.lst ((rs.map ED).map .sh)])))]) (by
   simp_arith[sl,if_pos hl];rw[(cm λ w hw=>⟨_,rfl,rfl⟩).1 rs qr];rfl) ?_
  simp_arith[eZ,cn,AI];rfl
noncomputable def Bt:List D->M OT:=zu En
theorem KW:Txt K mg->CJ P w K mg base "map_read" 5 1 Bt:=(ze En).1
theorem Gp:(∀x:Str,asc x->x.length<=1990->(∀m rs,KL x=some (m,rs)->Bt [.str x]=.ok (.tup [.sh (.int m),.lst ((rs.map ED).map .sh)]))/\(KL x=none->Bt [.str x]=.ex "NoText"))/\(∀d:D,Cn "str" d=.ok (.bl false)->Bt [d]=.ex "NoText"):=(ze En).2
theorem CB:∃F:List D->M OT,(∀ {P w K mg base},Txt K mg->CJ P w K mg base "_law_cell_at" 1 2 F)/\(∀(ns:List Int) (k:Nat),∃v:Int,(0<=v/\v<Bg)/\F [.lst (ns.map D.int),.int k]=.ok (.sh (.int v))):=by
 refine⟨_,λ T=>AO (k:=0) T.HV HB _ (λ f Bx A outer s H E hr=>(A2 (AD (So (c:=true) (A0 1 (pv 1)) (Dm rfl T.C5 (A0 0 (pv 0)))) (A4 (Ab (Ao (AK (Au (BK hr 16 (by decide)) (A0 0 (pv 0)) (A0 1 (pv 1))) (Dk A3 A3))))) Ah) (A4 (Ab (Ao A3))))),?_⟩;intro ns k;have e0:AH ["_law_script","_law_k"] [.lst (ns.map D.int),.int k]=[some (.val (.lst (ns.map D.int))),some (.val (.int k))]:=rfl;rw[e0];have ht:=CZ;by_cases hk:(k:Int)<((ns.map D.int).length:Int)
 ·have ju:=hk;rw[zo] at ju;have i1:Bu (.lst (ns.map D.int)) (.int k)=.ok (.int (ns[k]'(by omega))):=Dq (by omega) (by rw[Int.toNat_natCast];exact z0 _);refine⟨ns[k]'(by omega)%Bg,⟨zU _ (by omega),zO _ (by omega)⟩,B7 ?_⟩;simp_arith[decide_eq_true hk,i1,Gk,Gx];rfl
 ·refine⟨0,⟨by omega,by omega⟩,B7 ?_⟩;simp_arith[decide_eq_false hk];rfl
noncomputable def Cc:List D->M OT:=zu CB
theorem CC:Txt K mg->CJ P w K mg base "_law_cell_at" 1 2 Cc:=(ze CB).1
theorem CD:∀(ns:List Int) (k:Nat),∃v:Int,(0<=v/\v<Bg)/\Cc [.lst (ns.map D.int),.int k]=.ok (.sh (.int v)):=(ze CB).2
theorem D8:∃F:List D->M OT,(∀ {P w K mg base},Txt K mg->CJ P w K mg base "_law_length" 1 1 F)/\(∀c:Int,0<=c->c.natAbs<2^250->∃l:Option Int,(∀z,l=some z->0<=z/\z<Bg)/\F [.int c]=.ok (.sh (BX l))):=by
 refine⟨_,λ T=>AO (k:=0) T.JI HR _ (λ f Bx A outer s H E hr=>(A2 (AD (DJ (c:=true) (BK hr 16 (by decide)) (AK (A0 0 (pv 0)) A3) A3) (A4 (Ab (Ao By))) Ah) (A2 (AD (So (c:=true) (AK (A0 0 (pv 0)) A3) A3) (A4 (Ab (Ao (AK (Bd (A0 0 (pv 0)) A3) A3)))) Ah) (A2 (AD (DJ (c:=true) (BK hr 16 (by decide)) (AK (A0 0 (pv 0)) A3) A3) (A4 (Ab (Ao (AK (Bd (A0 0 (pv 0)) A3) A3)))) Ah) (A4 (Ab (Ao (AK (Jm (Bd (A0 0 (pv 0)) A3) (Dk A3 A3)) (Dk A3 A3))))))))),?_⟩;intro c h0 hb;have e0:AH ["_law_cell"] [.int c]=[some (.val (.int c))]:=rfl;rw[e0];have ht:=CZ;have w1:CI (.int c) (.int 6)=.ok (.int (c%6)):=AB (by decide);have w2:DH (.int c) (.int 6)=.ok (.int (c / 6)):=Be ⟨by decide,by decide⟩;have w3:CI (.int (c / 6)) (.int 4)=.ok (.int (c / 6%4)):=AB (by decide);have w4:CI (.int (c / 6)) (.int 101)=.ok (.int (c / 6%101)):=AB (by decide);have w5:H9 (.int (c / 6)) (.int Q7)=.ok (.int (c / 6*Q7)):=Ju (Jv (j:=c) (by omega) (by omega) hb) (by decide) VP (by decide);by_cases c0:c%6=0
 ·refine⟨none,(λ z e=>by cases e),B7 ?_⟩;simp_arith[w1,decide_eq_true c0];rfl
 by_cases c1:c%6<3
 ·refine⟨some (c / 6%4),(λ z e=>by cases e;omega),B7 ?_⟩;apply wp_step
  ·simp_arith[w1,decide_eq_false c0];rfl
  simp_arith[w1,w2,w3,decide_eq_true c1];rfl
 by_cases c2:c%6=3
 ·refine⟨some (c / 6%101),(λ z e=>by cases e;omega),B7 ?_⟩;apply wp_step
  ·simp_arith[w1,decide_eq_false c0];rfl
  apply wp_step
  ·simp_arith[w1,decide_eq_false c1];rfl
  simp_arith[w1,w2,w4,decide_eq_true c2];rfl
 ·refine⟨some (c / 6*Q7%Bg),(λ z e=>by cases e;exact⟨zU _ (by omega),zO _ (by omega)⟩),B7 ?_⟩;apply wp_step
  ·simp_arith[w1,decide_eq_false c0];rfl
  apply wp_step
  ·simp_arith[w1,decide_eq_false c1];rfl
  apply wp_step
  ·simp_arith[w1,decide_eq_false c2];rfl
  simp_arith[w2,VO,w5,Gk,Gx];rfl
noncomputable def Gq:List D->M OT:=zu D8
theorem HY:Txt K mg->CJ P w K mg base "_law_length" 1 1 Gq:=(ze D8).1
theorem HZ:∀c:Int,0<=c->c.natAbs<2^250->∃l:Option Int,(∀z,l=some z->0<=z/\z<Bg)/\Gq [.int c]=.ok (.sh (BX l)):=(ze D8).2
theorem Fc:∃F:List D->M OT,(∀ {P w K mg base},Txt K mg->CJ P w K mg base "_law_map" 2 2 F)/\(∀(cs:List Int) (m:Nat),1<=m->m<=16->cs.length<=12->(∀c∈cs,0<=c/\c<Bg)->∃rs:List Road,rs.length<=12/\(∀r∈rs,G5 m r)/\F [.lst (cs.map D.int),.int m]=.ok (.sh (AQ m rs))):=by
 refine⟨_,λ T=>AO (k:=1) T.Nw Bq _ (λ f Bx A outer s H E hr=>(A2 (Jp 2 Bq.nd rfl (zP rfl) (OO Jo)) (A2 (Jj Aj.toXCall.own rfl (Ey (A0 0 (pv 0))) (Dn 3 Bq.nd rfl (zP rfl)) (A4 (AD (Iq (c:=true) (A0 1 (pv 1)) A3) (A2 (Ag 4 Bq.nd rfl (zP rfl) (AK (A0 3 (pv 3)) (A0 1 (pv 1)))) (A2 (Ag 5 Bq.nd rfl (zP rfl) (AK (C1 (C1 (A0 4 (pv 4)) A3) (AK (Bd (A0 3 (pv 3)) A3) (Tj (A0 1 (pv 1)) A3))) (A0 1 (pv 1)))) (A2 (Ag 6 Bq.nd rfl (zP rfl) (AK (Jm (A0 3 (pv 3)) A3) (C1 (Dk A3 A3) A3))) (A2 (Ag 7 Bq.nd rfl (zP rfl) (Au (BK hr 16 (by decide)) (Bz (A1 (AK (Bd (A0 6 (pv 6)) A3) A3) (A1 (AK (Bd (A0 6 (pv 6)) A3) (Dk A3 A3)) A7))) (AK (Bd (A0 6 (pv 6)) A3) A3))) (A4 (Iv 2 (pv 2) (FW (A1 (A0 4 (pv 4)) (A1 (A0 5 (pv 5)) (A1 (Ai (Ac Aj.toXCall (HY T) (hr.mono (by decide)) rfl (A1 (Bd (A0 6 (pv 6)) A3) A7) rfl)) (A1 (A0 7 (pv 7)) A7))))))))))) Ah))) (A4 (OS 2 (Ab (Ao (FW (A1 (A0 1 (pv 1)) (A1 (A0 2 (pv 2)) A7)))))))))),?_⟩;intro cs m hm bT hl hc;have e0:AH ["_law_cells","_law_many","_law_roads","_law_cell","_law_start","_law_end","_law_mixed","_law_width"] [.lst (cs.map D.int),.int m]=[some (.val (.lst (cs.map D.int))),some (.val (.int m)),none,none,none,none,none,none]:=rfl;rw[e0];refine (λ h:∃t,_/\∃rs:List Road,t=OT.sh (AQ m rs)/\rs.length<=12/\(∀r∈rs,G5 m r)=>by
  obtain⟨t,h1,R,rfl,h2,h3⟩:=h;exact⟨R,h2,h3,h1⟩) (Ku ?_)
 have ht:=CZ;apply wp_step
 ·rfl
 try simp only[List.set_cons_zero,yx]
 refine BF (I:=λ ρ=>∃(rs:List Road) (s3 s4 s5 s6 s7:Option Cl),ρ=[some (.val (.lst (cs.map D.int))),some (.val (.int m)),some (.own (rs.map ED)),s3,s4,s5,s6,s7]/\rs.length<=12/\∀r∈rs,G5 m r) ?_ ?_
 ·simp_arith[];refine Jr (λ i ρ=>i<=12/\∃(rs:List Road) (s3 s4 s5 s6 s7:Option Cl),ρ=[some (.val (.lst (cs.map D.int))),some (.val (.int m)),some (.own (rs.map ED)),s3,s4,s5,s6,s7]/\rs.length<=i/\∀r∈rs,G5 m r) ⟨by omega,[],none,none,none,none,none,rfl,by simp,λ r hr=>by cases hr⟩ ?_ ?_
  ·rintro i d ρ hd ⟨_,rs,s3,s4,s5,s6,s7,rfl,d4,dI⟩;obtain⟨c,ii,rfl⟩:=Hh hd;have hi:=(zI.mp ii).1;obtain⟨c0,c1⟩:=hc c (zj ii);refine⟨_,rfl,?_⟩;by_cases hg:(1:Int)<(m:Int)
   ·have fb:(0:Int)<(m:Int):=by omega
    have eG:(0:Int)<(m:Int)-1:=by omega
    obtain⟨a,ha⟩:∃a,a=c%(m:Int):=⟨_,rfl⟩;have a0:0<=a:=by rw[ha];exact zU _ (by omega)
    have a1:a<m:=by rw[ha];exact zO _ fb
    obtain⟨s,hs⟩:∃s,s=c / 16%((m:Int)-1):=⟨_,rfl⟩;have s0:0<=s:=by rw[hs];exact zU _ (by omega)
    have s1:s<(m:Int)-1:=by rw[hs];exact zO _ eG
    obtain⟨b,hb⟩:∃b,b=(a+1+s)%(m:Int):=⟨_,rfl⟩;have b0:0<=b:=by rw[hb];exact zU _ (by omega)
    have b1:b<m:=by rw[hb];exact zO _ fb
    have jv:a≠b:=by
     have:=TR (a:=a) (s:=1+s) (m:=m) a0 a1 (by omega) (by omega);rw[hb,Int.add_assoc];exact λ z=>this z.symm
    obtain⟨x,hx⟩:∃x,x=c*48271%(Bg+7):=⟨_,rfl⟩;have x0:0<=x:=by rw[hx];exact zU _ (by omega)
    have x1:x<Bg+7:=by rw[hx];exact zO _ (by omega)
    have ma:CI (.int c) (.int m)=.ok (.int a):=by rw[ha];exact AB fb
    have jw:MN (.int a) (.int 1)=.ok (.int (a+1)):=rfl;have jx:DH (.int c) (.int 16)=.ok (.int (c / 16)):=Be ⟨by decide,by decide⟩;have sb:Ti (.int (m:Int)) (.int 1)=.ok (.int ((m:Int)-1)):=rfl;have ms:CI (.int (c / 16)) (.int ((m:Int)-1))=.ok (.int s):=by rw[hs];exact AB eG
    have jy:MN (.int (a+1)) (.int s)=.ok (.int (a+1+s)):=rfl;have mb:CI (.int (a+1+s)) (.int m)=.ok (.int b):=by rw[hb];exact AB fb
    have mu:H9 (.int c) (.int 48271)=.ok (.int (c*48271)):=Ju (k:=200) (l:=20) (Jv c0 (by omega) LD) (by decide) (by decide) (by decide);have fY:MN (.int Bg) (.int 7)=.ok (.int (Bg+7)):=rfl;have mx:CI (.int (c*48271)) (.int (Bg+7))=.ok (.int x):=by rw[hx];exact KG
    have f6:DH (.int x) (.int 600)=.ok (.int (x / 600)):=Be ⟨by decide,by decide⟩;have f1:DH (.int x) (.int 100)=.ok (.int (x / 100)):=Be ⟨by decide,by decide⟩;have f7:DH (.int x) (.int 7)=.ok (.int (x / 7)):=Be ⟨by decide,by decide⟩;have m5:CI (.int (x / 600)) (.int 5)=.ok (.int (x / 600%5)):=AB (by decide);have m2:CI (.int (x / 100)) (.int 2)=.ok (.int (x / 100%2)):=AB (by decide);have b6:0<=x / 600%Bg/\x / 600%Bg<Bg:=⟨zU _ (by omega),zO _ (by omega)⟩;obtain⟨w,w0,w1,hw⟩:∃w,0<=w/\w<Bg/\Bu (.lst [.int (x / 600%5),.int (x / 600%Bg)]) (.int (x / 100%2))=.ok (.int w):=by
     have h:x / 100%2=0\/x / 100%2=1:=by omega
     rcases h with h|h
     ·rw[h];exact⟨x / 600%5,by omega,by omega,rfl⟩
     ·rw[h];exact⟨x / 600%Bg,b6.1,b6.2,rfl⟩
    obtain⟨l,jz,hle⟩:=HZ (x / 7) (by omega) (Nat.lt_trans (Jv (j:=Bg) (by omega) (by omega) LD) (Nat.pow_lt_pow_right (by decide) (by decide)));have cq:(rs.map ED).length<1000:=by rw[zo];omega
    refine FD (ρ':=[some (.val (.lst (cs.map D.int))),some (.val (.int m)),some (.own ((rs++[Road.mk a b l w]).map ED)),some (.val (.int c)),some (.val (.int a)),some (.val (.int b)),some (.val (.int x)),some (.val (.int w))]) ?_ ⟨by omega,_,_,_,_,_,_,rfl,by rw[zq];simp;omega,λ r hr=>?_⟩
    ·simp_arith[decide_eq_true hg];have z1:∀(A B:M Out),(if (True:Prop) then A else B)=A:=λ A B=>if_pos trivial;simp_arith[Oq,ma,jw,jx,sb,ms,jy,mb,mu,Gk,fY,mx,f6,f1,f7,m5,m2,Gx,hw,hle,if_pos cq,z1];rw[List.map_append];rfl
    ·rcases zy.mp hr with hr|hr
     ·exact dI r hr
     ·rw[zB.mp hr];exact⟨a0,a1,b0,b1,jv,jz,w0,w1⟩
   ·refine FD (ρ':=_) (by simp_arith[decide_eq_false hg];try rfl) ⟨by omega,rs,_,_,_,_,_,rfl,by omega,dI⟩
  ·rintro ρ ⟨_,rs,s3,s4,s5,s6,s7,rfl,d4,dI⟩;exact⟨rs,_,_,_,_,_,rfl,by omega,dI⟩
 ·rintro ρ ⟨rs,s3,s4,s5,s6,s7,rfl,d4,dI⟩;simp_arith[];exact⟨rs,rfl,d4,dI⟩
noncomputable def KY:List D->M OT:=zu Fc
theorem LV:Txt K mg->CJ P w K mg base "_law_map" 2 2 KY:=(ze Fc).1
theorem LW:∀(cs:List Int) (m:Nat),1<=m->m<=16->cs.length<=12->(∀c∈cs,0<=c/\c<Bg)->∃rs:List Road,rs.length<=12/\(∀r∈rs,G5 m r)/\KY [.lst (cs.map D.int),.int m]=.ok (.sh (AQ m rs)):=(ze Fc).2
theorem Eo:∃F:List D->M OT,(∀ {P w K mg base},Txt K mg->CJ P w K mg base "_law_text" 1 1 F)/\(∀(m:Nat) (rs:List Road),1<=m->m<=16->rs.length<=60->(∀r∈rs,G5 m r)->F [AQ m rs]=.ok (.sh (.str (Ud m rs)))):=by
 refine⟨_,λ T=>AO (k:=0) T.LP AU _ (λ f Bx A outer s H E hr=>(A2 (Jp 1 AU.nd rfl (zP rfl) (OO (Ha (Ao (Ax A6 (Fy rfl T.HC (Au (BK hr 16 (by decide)) (A0 0 (pv 0)) A3)))) Jo))) (A2 (Jj Aj.toXCall.own rfl (Ey (Au (BK hr 16 (by decide)) (A0 0 (pv 0)) A3)) (Tq (n:=4) rfl (Fu (Dn 2 AU.nd rfl (zP rfl)) (Fu (Dn 3 AU.nd rfl (zP rfl)) (Fu (Dn 4 AU.nd rfl (zP rfl)) (Fu (Dn 5 AU.nd rfl (zP rfl)) QY))))) (A2 (Ag 6 AU.nd rfl (zP rfl) A6) (A2 (AD (QW (c:=true) (A0 4 (pv 4))) (A4 (Ag 6 AU.nd rfl (zP rfl) (Fy rfl T.HC (A0 4 (pv 4))))) Ah) (A4 (Iv 1 (pv 1) (Ax (Ax (Ax (Ax (Ax (Ax (Ax A6 (Fy rfl T.HC (A0 2 (pv 2)))) A6) (Fy rfl T.HC (A0 3 (pv 3)))) A6) (A0 6 (pv 6))) A6) (Fy rfl T.HC (A0 5 (pv 5))))))))) (A4 (OS 1 (Ab (Ao (RT A6 (A0 1 (pv 1)))))))))),?_⟩;intro m rs h1 hm d4 AF;have e0:AH ["_law_plan","_law_parts","_law_start","_law_end","_law_length_here","_law_width","_law_word"] [AQ m rs]=[some (.val (AQ m rs)),none,none,none,none,none,none]:=rfl;rw[e0];refine B7 ?_;have n0:Bu (AQ m rs) (.int 0)=.ok (.int m):=rfl;have n1:Bu (AQ m rs) (.int 1)=.ok (.lst (rs.map ED)):=rfl;have ht:=CZ;have sm:=FE (i:=m) (by omega) (by omega);have ap:=JA (i:=m) (by omega) (by omega);have fZ:Hl (.str (zc "places ")) (.str (nS m))=.ok (.str (zc "places " ++ nS m)):=if_pos (by rw[<-str_len];omega);have hj:KA (zc "; ") (.lst (((zc "places " ++ nS m)::rs.map Ld).map D.str))=.ok (.str (Ud m rs)):=PQ (B:=305) (Nm h1 hm AF) (by
  have e:(zc "; ").length=2:=by decide
  rw[e,zi,zo];omega)
 refine wp_step (ρ':=[some (.val (AQ m rs)),some (.own [.str (zc "places " ++ nS m)]),none,none,none,none,none]) (by simp_arith[n0,sm,fZ];try rfl) ?_;refine BF (I:=λ ρ=>∃s2 s3 s4 s5 s6:Option D,ρ=[some (.val (AQ m rs)),some (.own (((zc "places " ++ nS m)::rs.map Ld).map D.str)),vO s2,vO s3,vO s4,vO s5,vO s6]) ?_ ?_
 ·simp_arith[n1];refine Jr (λ i ρ=>∃s2 s3 s4 s5 s6:Option D,ρ=[some (.val (AQ m rs)),some (.own (((zc "places " ++ nS m)::(rs.take i).map Ld).map D.str)),vO s2,vO s3,vO s4,vO s5,vO s6]) ⟨none,none,none,none,none,rfl⟩ ?_ ?_
  ·rintro i d ρ hd ⟨s2,s3,s4,s5,s6,rfl⟩;obtain⟨r,hr,rfl⟩:=Hh hd;have ok:=AF r (zj hr);have et:rs.take (i+1)=rs.take i++[r]:=by rw[List.take_add_one,hr];rfl
   have cq:(((zc "places " ++ nS m)::(rs.take i).map Ld).map D.str).length<1000:=by
    rw[zo,zi,zo,List.length_take];omega
   have sa:=FE ok.a0 (IS ok.a1 (by omega));have sb:=FE ok.b0 (IS ok.b1 (by omega));have sw:=FE ok.w0 ok.w1;have la:=(C2 ok.a0 (IS ok.a1 (by omega))).2;have lb:=(C2 ok.b0 (IS ok.b1 (by omega))).2;have ll:=(LI ok.l0).2;have lw:=(C2 ok.w0 ok.w1).2;have l1:(zc " ").length=1:=by decide
   have l5:(zc "road ").length=5:=by decide
   have aY:∀x y:Str,x.length+y.length<=1000->Hl (.str x) (.str y)=.ok (.str (x++y)):=λ x y h=>if_pos (by omega);have a1:=aY (zc "road ") (nS r.a) (by omega);have a2:=aY (zc "road " ++ nS r.a) (zc " ") (by rw[str_len];omega);have a3:=aY (zc "road " ++ nS r.a++zc " ") (nS r.b) (by rw[str_len,str_len];omega);have a4:=aY (zc "road " ++ nS r.a++zc " " ++ nS r.b) (zc " ") (by rw[str_len,str_len,str_len];omega);have a5:=aY (zc "road " ++ nS r.a++zc " " ++ nS r.b++zc " ") (lS r.l) (by rw[str_len,str_len,str_len,str_len];omega);have a6:=aY (zc "road " ++ nS r.a++zc " " ++ nS r.b++zc " " ++ lS r.l) (zc " ") (by rw[str_len,str_len,str_len,str_len,str_len];omega);have a7:=aY (zc "road " ++ nS r.a++zc " " ++ nS r.b++zc " " ++ lS r.l++zc " ") (nS r.w) (by rw[str_len,str_len,str_len,str_len,str_len,str_len];omega);rw[Mr] at a7;refine⟨_,rfl,?_⟩;rw[et,List.map_append,<-List.cons_append,List.map_append];refine wp_step (ρ':=[some (.val (AQ m rs)),some (.own (((zc "places " ++ nS m)::(rs.take i).map Ld).map D.str)),some (.val (.int r.a)),some (.val (.int r.b)),some (.val (BX r.l)),some (.val (.int r.w)),some (.val (.str (zc "-")))]) (by simp_arith[];try rfl) ?_;refine wp_step (ρ':=[some (.val (AQ m rs)),some (.own (((zc "places " ++ nS m)::(rs.take i).map Ld).map D.str)),some (.val (.int r.a)),some (.val (.int r.b)),some (.val (BX r.l)),some (.val (.int r.w)),some (.val (.str (lS r.l)))]) (by
    cases ql:r.l with
    |none =>
     have hn:Av (BX none)=true:=rfl;simp_arith[hn];rfl
    |some z =>
     have hn:Av (BX (some z))=false:=rfl;have e:BX (some z)=.int z:=rfl;have hs:=FE (ok.l0 z ql).1 (ok.l0 z ql).2;have e2:lS (some z)=nS z:=rfl;simp_arith[hn,zC,if_false,Bool.not_false,if_true];simp_arith[e,hs,e2];try rfl) ?_
   refine FD (ρ':=[some (.val (AQ m rs)),some (.own (((zc "places " ++ nS m)::(rs.take i).map Ld).map D.str++([r].map Ld).map D.str)),vO (some (.int r.a)),vO (some (.int r.b)),vO (some (BX r.l)),vO (some (.int r.w)),vO (some (.str (lS r.l)))]) (by
    simp_arith[sa,sb,sw,a1,a2,a3,a4,a5,a6,a7,if_pos cq];rfl) ⟨_,_,_,_,_,rfl⟩
  ·rintro ρ ⟨s2,s3,s4,s5,s6,rfl⟩;rw[zo,List.take_length];exact⟨s2,s3,s4,s5,s6,rfl⟩
 ·rintro ρ ⟨s2,s3,s4,s5,s6,rfl⟩;simp_arith[Mn,hj];rfl
noncomputable def IU:List D->M OT:=zu Eo
theorem KZ:Txt K mg->CJ P w K mg base "_law_text" 1 1 IU:=(ze Eo).1
theorem L0:∀(m:Nat) (rs:List Road),1<=m->m<=16->rs.length<=60->(∀r∈rs,G5 m r)->IU [AQ m rs]=.ok (.sh (.str (Ud m rs))):=(ze Eo).2
theorem Ep:∃F:List D->M OT,(∀ {P w K mg base},Txt K mg->CJ P w K mg base "_law_sign" 1 1 F)/\(∀c:Int,∃k:Nat,k<128/\F [.int c]=.ok (.sh (.str ⟨#[k]⟩))):=by
 refine⟨_,λ T=>AO (k:=0) T.LQ CP _ (λ f Bx A outer s H E hr=>(A2 (Ag 1 CP.nd rfl (zP rfl) A6) (A2 (Ag 1 CP.nd rfl (zP rfl) (Ax (A0 1 (pv 1)) A6)) (A2 (AD (Iq (c:=true) (AK (A0 0 (pv 0)) A3) A3) (A4 (Ag 1 CP.nd rfl (zP rfl) A6)) Ah) (A4 (Ab (Ao (LC (A0 1 (pv 1)) (AK (Bd (A0 0 (pv 0)) A3) (Dr rfl T.C5 (A0 1 (pv 1)))))))))))),?_⟩;intro c;have e0:AH ["_law_cell","_law_some"] [.int c]=[some (.val (.int c)),none]:=rfl;rw[e0];refine (λ h:∃t,_/\∃k:Nat,k<128/\t=OT.sh (.str ⟨#[k]⟩)=>by
  obtain⟨t,h1,k,h2,rfl⟩:=h;exact⟨k,h2,h1⟩) (Ku ?_)
 refine BF (I:=λ ρ=>∃z:Str,ρ=[some (.val (.int c)),some (.val (.str z))]/\asc z/\0<z.length/\z.length<=100) ?_ ?_
 ·exact FD (ρ':=_) rfl ⟨_,rfl,Ct (by decide +kernel),by decide +kernel,by decide +kernel⟩
 rintro ρ ⟨y,rfl,y1,y2,y3⟩;refine BF (I:=λ ρ=>∃z:Str,ρ=[some (.val (.int c)),some (.val (.str z))]/\asc z/\0<z.length/\z.length<=1000) ?_ ?_
 ·obtain⟨x,hx⟩:∃x,x=zc "abcdefghijklmnopqrstuvwxyz{|}~\n\t" := ⟨_,rfl⟩;have x1:asc x:=by rw[hx];exact Ct (by decide +kernel)
  have x2:x.length<=100:=by rw[hx];decide +kernel
  have bA:Hl (.str y) (.str x)=.ok (.str (y++x)):=if_pos (by omega);rw[<-hx];refine FD (ρ':=[some (.val (.int c)),some (.val (.str (y++x)))]) (by simp_arith[bA];try rfl) ⟨_,rfl,Bn y1 x1,?_,?_⟩
  ·rw[str_len];omega
  ·rw[str_len];omega
 rintro ρ ⟨z,rfl,z1,z2,z3⟩;refine BF (I:=λ ρ=>∃z:Str,ρ=[some (.val (.int c)),some (.val (.str z))]/\asc z/\0<z.length/\z.length<=1000) ?_ ?_
 ·have w3:CI (.int c) (.int 3)=.ok (.int (c%3)):=AB (by decide);by_cases h:(0:Int)<c%3
  ·exact FD (ρ':=[some (.val (.int c)),some (.val (.str (zc " ;-0123456789r")))]) (by simp_arith[w3,decide_eq_true h];try rfl) ⟨_,rfl,Ct (by decide +kernel),by decide +kernel,by decide +kernel⟩
  ·exact FD (ρ':=[some (.val (.int c)),some (.val (.str z))]) (by simp_arith[w3,decide_eq_false h];try rfl) ⟨z,rfl,z1,z2,z3⟩
 rintro ρ ⟨z,rfl,z1,z2,z3⟩;have hl:Hj [.str z]=.ok (.int z.length):=if_pos (by omega);have d3:DH (.int c) (.int 3)=.ok (.int (c / 3)):=Be ⟨by decide,by decide⟩;have wl:CI (.int (c / 3)) (.int z.length)=.ok (.int (c / 3%(z.length:Int))):=AB (by omega);obtain⟨k,hk,hit⟩:=Sa z1 z2 z3 (c / 3);simp_arith[hl,d3,wl,hit];exact⟨k,hk,rfl⟩
noncomputable def IV:List D->M OT:=zu Ep
theorem L7:Txt K mg->CJ P w K mg base "_law_sign" 1 1 IV:=(ze Ep).1
theorem L8:∀c:Int,∃k:Nat,k<128/\IV [.int c]=.ok (.sh (.str ⟨#[k]⟩)):=(ze Ep).2
theorem CF:∃F:List D->M OT,(∀ {P w K mg base},Txt K mg->CJ P w K mg base "_law_spoiled" 2 2 F)/\(∀(z:Str) (c:Int),asc z->z.length<=1900->∃y:Str,asc y/\y.length<=z.length+1/\F [.str z,.int c]=.ok (.sh (.str y))):=by
 refine⟨_,λ T=>AO (k:=1) T.HW BG _ (λ f Bx A outer s H E hr=>(A2 (Ag 2 BG.nd rfl (zP rfl) (AK (A0 1 (pv 1)) A3)) (A2 (Ag 3 BG.nd rfl (zP rfl) (AK (Bd (A0 1 (pv 1)) A3) (C1 (Dr rfl T.C5 (A0 0 (pv 0))) A3))) (A2 (Ag 4 BG.nd rfl (zP rfl) (Ai (Ac Aj.toXCall (L7 T) (hr.mono (by decide)) rfl (A1 (Bd (Bd (A0 1 (pv 1)) A3) (C1 (Dr rfl T.C5 (A0 0 (pv 0))) A3)) A7) rfl))) (A2 (AD (DJ (c:=true) (BK hr 16 (by decide)) (A0 2 (pv 2)) A3) (A4 (Ab (Ao (Ax (Ax (Bf (A0 0 (pv 0)) BU (B1 (A0 3 (pv 3)))) (A0 4 (pv 4))) (Bf (A0 0 (pv 0)) (B1 (A0 3 (pv 3))) BU))))) Ah) (A2 (AD (DJ (c:=true) (BK hr 16 (by decide)) (A0 2 (pv 2)) A3) (A4 (Ab (Ao (Ax (Bf (A0 0 (pv 0)) BU (B1 (A0 3 (pv 3)))) (Bf (A0 0 (pv 0)) (B1 (C1 (A0 3 (pv 3)) A3)) BU))))) Ah) (A2 (AD (DJ (c:=true) (BK hr 16 (by decide)) (A0 2 (pv 2)) A3) (A4 (Ab (Ao (Ax (Ax (Bf (A0 0 (pv 0)) BU (B1 (A0 3 (pv 3)))) (A0 4 (pv 4))) (Bf (A0 0 (pv 0)) (B1 (C1 (A0 3 (pv 3)) A3)) BU))))) Ah) (A2 (AD (DJ (c:=true) (BK hr 16 (by decide)) (A0 2 (pv 2)) A3) (A4 (Ab (Ao (Ax (Ax (Bf (A0 0 (pv 0)) BU (B1 (A0 3 (pv 3)))) (Bf (A0 0 (pv 0)) (B1 (A0 3 (pv 3))) (B1 (C1 (A0 3 (pv 3)) A3)))) (Bf (A0 0 (pv 0)) (B1 (A0 3 (pv 3))) BU))))) Ah) (A4 (Ab (Ao (A0 0 (pv 0))))))))))))),?_⟩;intro z c ha hz;have e0:AH ["_law_text_here","_law_cell","_law_way","_law_at","_law_sign_here"] [.str z,.int c]=[some (.val (.str z)),some (.val (.int c)),none,none,none]:=rfl;rw[e0];refine (λ h:∃t,_/\∃y:Str,asc y/\y.length<=z.length+1/\t=OT.sh (.str y)=>by
  obtain⟨t,h1,y,h2,h3,rfl⟩:=h;exact⟨y,h2,h3,h1⟩) (Ku ?_)
 have hl:Hj [.str z]=.ok (.int z.length):=if_pos (by omega);have w5:CI (.int c) (.int 5)=.ok (.int (c%5)):=AB (by decide);have d5:DH (.int c) (.int 5)=.ok (.int (c / 5)):=Be ⟨by decide,by decide⟩;have wl:CI (.int (c / 5)) (.int ((z.length:Int)+1))=.ok (.int (c / 5%((z.length:Int)+1))):=AB (by omega);have dl:DH (.int (c / 5)) (.int ((z.length:Int)+1))=.ok (.int (c / 5 / ((z.length:Int)+1))):=Be ⟨by omega,by omega⟩;have b0:=zU (c / 5) (show (z.length:Int)+1≠0 by omega);have b1:=zO (c / 5) (show (0:Int)<(z.length:Int)+1 by omega);obtain⟨a,ea⟩:∃a:Nat,(a:Int)=c / 5%((z.length:Int)+1):=⟨(c / 5%((z.length:Int)+1)).toNat,by omega⟩;have al:a<=z.length:=by omega
 rw[<-ea] at wl;obtain⟨k,hk,ij⟩:=L8 (c / 5 / ((z.length:Int)+1));obtain⟨s,hs⟩:∃s:Str,s=⟨#[k]⟩:=⟨_,rfl⟩;rw[<-hs] at ij;have s1:asc s:=by
  rw[hs];intro x hx;have:x=k:=by simpa using hx
  rw[this];exact hk
 have s2:s.length=1:=by rw[hs];rfl
 refine wp_step (ρ':=[some (.val (.str z)),some (.val (.int c)),some (.val (.int (c%5))),none,none]) (by simp_arith[w5];try rfl) ?_;refine wp_step (ρ':=[some (.val (.str z)),some (.val (.int c)),some (.val (.int (c%5))),some (.val (.int a)),none]) (by simp_arith[d5,hl,wl];try rfl) ?_;refine wp_step (ρ':=[some (.val (.str z)),some (.val (.int c)),some (.val (.int (c%5))),some (.val (.int a)),some (.val (.str s))]) (by simp_arith[d5,hl,dl,ij];try rfl) ?_;have a1:((a:Int)+1)=((a+1:Nat):Int):=by omega
 obtain⟨u,hu⟩:∃u,u=Txt.slice z none (some (a:Int)):=⟨_,rfl⟩;obtain⟨v,hv⟩:∃v,v=Txt.slice z (some (a:Int)) none:=⟨_,rfl⟩;obtain⟨v1,gc⟩:∃v,v=Txt.slice z (some ((a+1:Nat):Int)) none:=⟨_,rfl⟩;obtain⟨m,hm⟩:∃v,v=Txt.slice z (some (a:Int)) (some ((a+1:Nat):Int)):=⟨_,rfl⟩;have lu:u.length<=a:=by rw[hu];exact Gy (Ul a _)
 have lv:v.length<=z.length-a:=by rw[hv];exact Gy (Qa a _)
 have jW:v1.length<=z.length-(a+1):=by rw[gc];exact Gy (Qa (a+1) _)
 have lm:m.length<=1:=by rw[hm];exact Gy (S9 a _)
 have au:asc u:=by rw[hu];exact EJ ha _ _
 have av:asc v:=by rw[hv];exact EJ ha _ _
 have ik:asc v1:=by rw[gc];exact EJ ha _ _
 have am:asc m:=by rw[hm];exact EJ ha _ _
 have eu:Nq none (some (a:Int)) (.str z)=.ok (.str u):=by rw[hu];exact if_pos (by omega)
 have ev:Nq (some (a:Int)) none (.str z)=.ok (.str v):=by rw[hv];exact if_pos (by omega)
 have il:Nq (some ((a+1:Nat):Int)) none (.str z)=.ok (.str v1):=by rw[gc];exact if_pos (by omega)
 have em:Nq (some (a:Int)) (some ((a+1:Nat):Int)) (.str z)=.ok (.str m):=by rw[hm];exact if_pos (by omega)
 have bA:∀x y:Str,x.length+y.length<=10000->Hl (.str x) (.str y)=.ok (.str (x++y)):=λ x y h=>if_pos (by omega);by_cases h0:c%5=0
 ·have p1:=bA u s (by omega);have p2:=bA (u++s) v (by rw[str_len];omega);simp_arith[decide_eq_true h0,eu,ev,p1,p2];exact⟨_,Bn (Bn au s1) av,by rw[str_len,str_len];omega,rfl⟩
 refine wp_step (ρ':=[some (.val (.str z)),some (.val (.int c)),some (.val (.int (c%5))),some (.val (.int a)),some (.val (.str s))]) (by simp_arith[decide_eq_false h0];try rfl) ?_;by_cases h1:c%5=1
 ·have p1:=bA u v1 (by omega);simp_arith[decide_eq_true h1,a1,eu,il,p1];exact⟨_,Bn au ik,by rw[str_len];omega,rfl⟩
 refine wp_step (ρ':=[some (.val (.str z)),some (.val (.int c)),some (.val (.int (c%5))),some (.val (.int a)),some (.val (.str s))]) (by simp_arith[decide_eq_false h1];try rfl) ?_;by_cases h2:c%5=2
 ·have p1:=bA u s (by omega);have p2:=bA (u++s) v1 (by rw[str_len];omega);simp_arith[decide_eq_true h2,a1,eu,il,p1,p2];exact⟨_,Bn (Bn au s1) ik,by rw[str_len,str_len];omega,rfl⟩
 refine wp_step (ρ':=[some (.val (.str z)),some (.val (.int c)),some (.val (.int (c%5))),some (.val (.int a)),some (.val (.str s))]) (by simp_arith[decide_eq_false h2];try rfl) ?_;by_cases h3:c%5=3
 ·have p1:=bA u m (by omega);have p2:=bA (u++m) v (by rw[str_len];omega);simp_arith[decide_eq_true h3,a1,eu,ev,em,p1,p2];exact⟨_,Bn (Bn au am) av,by rw[str_len,str_len];omega,rfl⟩
 refine wp_step (ρ':=[some (.val (.str z)),some (.val (.int c)),some (.val (.int (c%5))),some (.val (.int a)),some (.val (.str s))]) (by simp_arith[decide_eq_false h3];try rfl) ?_;simp_arith[];exact⟨z,ha,by omega,rfl⟩
noncomputable def FT:List D->M OT:=zu CF
theorem Er:Txt K mg->CJ P w K mg base "_law_spoiled" 2 2 FT:=(ze CF).1
theorem Es:∀(z:Str) (c:Int),asc z->z.length<=1900->∃y:Str,asc y/\y.length<=z.length+1/\FT [.str z,.int c]=.ok (.sh (.str y)):=(ze CF).2
theorem D9:∃F:List D->M OT,(∀ {P w K mg base},Txt K mg->CJ P w K mg base "_law_number" 1 1 F)/\(∀z:Str,asc z->z.length<=2000->F [.str z]=.ok (.sh (BZ z))):=by
 refine⟨_,λ T=>AO (k:=0) T.JJ EN _ (λ f Bx A outer s H E hr=>(A2 (AD (DW.dt (BB (DJ (c:=true) (BK hr 16 (by decide)) (Dr rfl T.C5 (A0 0 (pv 0))) A3) (BB (Iq (c:=true) (Dr rfl T.C5 (A0 0 (pv 0))) A3) (BA (DW.dt (Oh (Iq (c:=true) (Dr rfl T.C5 (A0 0 (pv 0))) A3) (Mc (DJ (c:=true) (BK hr 16 (by decide)) (LC (A0 0 (pv 0)) A3) A6)))))))) (A4 (Ab (Ao By))) Ah) (A2 (Jj Aj.toXCall.own rfl (PD (A0 0 (pv 0))) (Dn 1 EN.nd rfl (zP rfl)) (A4 (AD (S2 (c:=true) (A0 1 (pv 1)) A6) (A4 (Ab (Ao By))) Ah))) (A4 (Ab (Ao (Mm rfl T.Qe (A0 0 (pv 0))))))))),?_⟩;intro z ha hz;have e0:AH ["_law_word","_law_sign_here"] [.str z]=[some (.val (.str z)),none]:=rfl;rw[e0];refine B7 ?_;have hl:Hj [.str z]=.ok (.int z.length):=if_pos (by omega);have hit:W7 (.str z)=.ok ((tl z).map λ k=>D.str ⟨#[k]⟩):=if_pos (Mt ha);have no:B2 z=false->BZ z=.Ar:=λ h=>by unfold BZ;rw[JD h]
 by_cases c1:z.length=0
 ·have e:B2 z=false:=by unfold B2;rw[decide_eq_false (by omega)];rfl
  have n0:decide ((z.length:Int)=0)=true:=decide_eq_true (by omega);rw[no e];simp_arith[hl,n0];rfl
 have n0:decide ((z.length:Int)=0)=false:=decide_eq_false (by omega);by_cases c2:z.length<=60
 rotate_left
 ·have e:B2 z=false:=by unfold B2;rw[decide_eq_false c2];simp
  have n2:decide ((60:Int)<(z.length:Int))=true:=decide_eq_true (by omega);rw[no e];simp_arith[hl,n0,n2];rfl
 have n2:decide ((60:Int)<(z.length:Int))=false:=decide_eq_false (by omega);obtain⟨c,r,hc⟩:∃c r,tl z=c::r:=by
  cases q:tl z with
  |nil=>have:=Bh z;rw[q] at this;simp at this;omega
  |cons c r=>exact⟨c,r,rfl⟩
 have fV:z.cps[0]?=some c:=by rw[<-y0];show (tl z)[0]?=_;rw[hc];rfl
 have q3:Ky (.str z) (.int 0)=.ok (.str ⟨#[c]⟩):=by
  unfold Ky;dsimp only;rw[if_pos ⟨by omega,by omega,by omega⟩];show (match z.cps[0]? with|some k=>M.ok (D.str ⟨#[k]⟩)|none=>.bad)=_;rw[fV]
 have q4:=Jz ⟨#[c]⟩ (zc "0");have e5:((⟨#[c]⟩:Str)==zc "0")=((tl z).head? == some 48):=by
  rw[hc,List.head?_cons];by_cases h:c=48
  ·subst h;decide +kernel
  ·rw[str_beq λ e=>h (by have:=congrArg (λ z:Str=>z.cps[0]?) e;exact zF this)];exact (beq_eq_false_iff_ne.mpr λ e=>h (zF e)).symm
 rw[e5] at q4;by_cases c3:1<z.length/\(tl z).head? =some 48
 ·have e:B2 z=false:=by
   unfold B2;have h1:(z==zc "0")=false:=str_beq λ e=>by
    have h1:=c3.1;rw[e] at h1;revert h1
    decide
   have h2:((tl z).head? == some 48)=true:=by rw[c3.2];rfl
   rw[h1,h2];simp
  have n3:decide ((1:Int)<(z.length:Int))=true:=decide_eq_true (by omega);have h2:((tl z).head? == some 48)=true:=by rw[c3.2];rfl
  rw[h2] at q4;rw[no e];simp_arith[hl,n0,n2,n3,q3,q4,AI];rfl
 refine wp_step (ρ':=[some (.val (.str z)),none]) (by
  by_cases c4:1<z.length
  ·have n3:decide ((1:Int)<(z.length:Int))=true:=decide_eq_true (by omega);have h2:((tl z).head? == some 48)=false:=beq_eq_false_iff_ne.mpr λ e=>c3 ⟨c4,e⟩;rw[h2] at q4;simp_arith[hl,n0,n2,n3,q3,q4,AI];try rfl
  ·have n3:decide ((1:Int)<(z.length:Int))=false:=decide_eq_false (by omega);simp_arith[hl,n0,n2,n3,AI];try rfl) ?_
 refine BF (I:=λ ρ=>(∀k∈tl z,BY k=true)/\∃o:Option D,ρ=[some (.val (.str z)),vO o]) ?_ ?_
 ·simp_arith[hit];refine Jr (λ i ρ=>(∀k∈(tl z).take i,BY k=true)/\∃o:Option D,ρ=[some (.val (.str z)),vO o]) ⟨λ k hk=>(by cases hk),none,rfl⟩ ?_ ?_
  ·rintro i d ρ hd ⟨bQ,o,rfl⟩;obtain⟨k,hk,rfl⟩:=Hh hd;have im:=zj hk;have hn:=S5 k (ha k im);refine⟨_,rfl,?_⟩;cases qk:BY k with
   |true =>
    rw[qk] at hn;refine FD (ρ':=[some (.val (.str z)),vO (some (.str ⟨#[k]⟩))]) (by simp_arith[hn];try rfl) ⟨λ x hx=>?_,_,rfl⟩;rw[List.take_add_one,hk] at hx;rcases zy.mp hx with hx|hx
    ·exact bQ x hx
    ·have:x=k:=by simpa using hx
     rw[this];exact qk
   |false =>
    rw[qk] at hn;have e:B2 z=false:=by
     cases q:B2 z with
     |false=>rfl
     |true =>
      unfold B2 at q;simp only[zA,yf] at q;have:=q.2.2.1 k im;rw[qk] at this;cases this
    simp_arith[hn];rw[no e];rfl
  ·rintro ρ ⟨bQ,o,rfl⟩;rw[zo,List.take_length] at bQ;exact⟨bQ,o,rfl⟩
 ·rintro ρ ⟨bQ,o,rfl⟩;have e:B2 z=true:=by
   unfold B2;rw[decide_eq_true (show 1<=z.length by omega),decide_eq_true c2,yf.mpr bQ,Bool.true_and,Bool.true_and,Bool.true_and,Bool.or_eq_true];by_cases c4:1<z.length
   ·right;have h2:((tl z).head? == some 48)=false:=beq_eq_false_iff_ne.mpr λ e=>c3 ⟨c4,e⟩;rw[h2];rfl
   ·have hr:r=[]:=by
     have:=Bh z;rw[hc,zi] at this;exact List.eq_nil_of_length_eq_zero (by omega)
    by_cases h:c=48
    ·left;have:z=zc "0" := LG (by rw[hc,hr,h];decide +kernel);rw[this];exact beq_self_eq_true _
    ·right;rw[hc,List.head?_cons];have:(some c==some 48)=false:=beq_eq_false_iff_ne.mpr λ e=>h (zF e);rw[this];rfl
  obtain⟨i,h0,h1,e1,e2⟩:=FH e;have fW:Hk [.str z]=.ok (.int i):=by
   unfold Hk;dsimp only;rw[e1,LH h0 h1];exact if_pos (by have:=(C2 h0 h1).2;omega)
  have e3:BZ z=.int i:=by unfold BZ;rw[e2]
  rw[e3];simp_arith[fW];rfl
noncomputable def Gr:List D->M OT:=zu D9
theorem Bk:Txt K mg->CJ P w K mg base "_law_number" 1 1 Gr:=(ze D9).1
theorem Bl:∀z:Str,asc z->z.length<=2000->Gr [.str z]=.ok (.sh (BZ z)):=(ze D9).2
theorem Eu:∃F:List D->M OT,(∀ {P w K mg base},Txt K mg->CJ P w K mg base "_law_road" 2 2 F)/\(∀(p:Str) (m:Int),asc p->p.length<=2000->F [.str p,.int m]=.ok (.sh (KN m p))):=by
 refine⟨_,λ T=>AO (k:=1) T.LR Bs _ (λ f Bx A outer s H E hr=>(A2 (Ag 2 Bs.nd rfl (zP rfl) (Ai (Eg (A0 0 (pv 0)) A6))) (A2 (AD (DW.dt (BB (Ft (c:=true) (BK hr 16 (by decide)) (Dm rfl T.C5 (A0 2 (pv 2))) A3) (BA (Ft (c:=true) (BK hr 16 (by decide)) (Au (BK hr 16 (by decide)) (A0 2 (pv 2)) A3) A6)))) (A4 (Ab (Ao By))) Ah) (A2 (Ag 3 Bs.nd rfl (zP rfl) (Ai (Ac Aj.toXCall (Bk T) (hr.mono (by decide)) rfl (A1 (Au (BK hr 16 (by decide)) (A0 2 (pv 2)) A3) A7) rfl))) (A2 (Ag 4 Bs.nd rfl (zP rfl) (Ai (Ac Aj.toXCall (Bk T) (hr.mono (by decide)) rfl (A1 (Au (BK hr 16 (by decide)) (A0 2 (pv 2)) A3) A7) rfl))) (A2 (Ag 5 Bs.nd rfl (zP rfl) (Ai (Ac Aj.toXCall (Bk T) (hr.mono (by decide)) rfl (A1 (Au (BK hr 16 (by decide)) (A0 2 (pv 2)) A3) A7) rfl))) (A2 (Ag 6 Bs.nd rfl (zP rfl) (Ai (Ac Aj.toXCall (Bk T) (hr.mono (by decide)) rfl (A1 (Au (BK hr 16 (by decide)) (A0 2 (pv 2)) A3) A7) rfl))) (A2 (AD (DW.dt (BB (FX (c:=true) (A0 3 (pv 3))) (BB (FX (c:=true) (A0 4 (pv 4))) (BB (FX (c:=true) (A0 6 (pv 6))) (BA (DW.dt (Oh (FX (c:=true) (A0 5 (pv 5))) (Mc (Ft (c:=true) (BK hr 16 (by decide)) (Au (BK hr 16 (by decide)) (A0 2 (pv 2)) A3) A6))))))))) (A4 (Ab (Ao By))) Ah) (A2 (AD (DW.dt (BB (Sq (c:=true) (A0 3 (pv 3)) (A0 1 (pv 1))) (BB (Sq (c:=true) (A0 4 (pv 4)) (A0 1 (pv 1))) (BA (DJ (c:=true) (BK hr 16 (by decide)) (A0 3 (pv 3)) (A0 4 (pv 4))))))) (A4 (Ab (Ao By))) Ah) (A4 (Ab (Ao (FW (A1 (A0 3 (pv 3)) (A1 (A0 4 (pv 4)) (A1 (A0 5 (pv 5)) (A1 (A0 6 (pv 6)) A7))))))))))))))))),?_⟩;intro p m ha hz;have e0:AH ["_law_part","_law_many","_law_words","_law_start","_law_end","_law_length_here","_law_width"] [.str p,.int m]=[some (.val (.str p)),some (.val (.int m)),none,none,none,none,none]:=rfl;rw[e0];refine B7 ?_;have aA:∀w∈zM p BL,asc w/\w.length<=2000:=λ w hw=>⟨(AE ha hw).1,by have:=(AE ha hw).2;omega⟩;have ay:=Dd p BL (by decide);unfold KN Gm;cases qs:zM p BL with
 |nil=>exact (ay qs).elim
 |cons x ws =>
 rw[qs] at aA;have hp:F1 p (.str (zc " "))=.ok (.lst (((x::ws).map D.str).map .sh)):=by
  rw[<-qs];exact if_pos ⟨by decide,by omega⟩
 have hi:Bu (.lst ((x::ws).map D.str)) (.int 0)=.ok (.str x):=Dq (by decide) rfl;have hlen:(((x::ws).map D.str).length:Int)=((ws.length+1:Nat):Int):=by rw[zo,zi]
 have q:=FF x (zc "road");refine wp_step (ρ':=[some (.val (.str p)),some (.val (.int m)),some (.val (.lst ((x::ws).map D.str))),none,none,none,none]) (by simp_arith[Mn,hp];try rfl) ?_;by_cases hc:x=zc "road" /\ ws.length+1=5
 rotate_left
 ·have hn:Hu (x::ws)=none:=by
   unfold Hu;split
   ·rename_i x a b l v e;cases e;exact if_neg λ z=>hc ⟨z,rfl⟩
   ·rfl
  rw[hn];by_cases h5:ws.length+1=5
  ·have ay:decide ((((x::ws).map D.str).length:Int)=5)=true:=decide_eq_true (by rw[hlen];omega);rw[str_beq λ z=>hc ⟨z,h5⟩] at q;simp_arith[ay,hi,q,AI];rfl
  ·have ay:decide ((((x::ws).map D.str).length:Int)=5)=false:=decide_eq_false (by rw[hlen];omega);simp_arith[ay,AI];rfl
 obtain⟨hx,hl⟩:=hc;have ge:decide ((((x::ws).map D.str).length:Int)=5)=true:=decide_eq_true (by rw[hlen];omega);obtain⟨a,b,l,v,rfl⟩:∃a b l v,ws=[a,b,l,v]:=by
  match ws,hl with
  |[a,b,l,v],_=>exact⟨a,b,l,v,rfl⟩
 have q2:(x==zc "road")=true:=by rw[hx];exact beq_self_eq_true _
 rw[q2] at q;have ra:=Bl a (aA a (by simp)).1 (aA a (by simp)).2;have rb:=Bl b (aA b (by simp)).1 (aA b (by simp)).2;have rl:=Bl l (aA l (by simp)).1 (aA l (by simp)).2;have rv:=Bl v (aA v (by simp)).1 (aA v (by simp)).2;have i1:Bu (.lst ([x,a,b,l,v].map D.str)) (.int 1)=.ok (.str a):=rfl;have i2:Bu (.lst ([x,a,b,l,v].map D.str)) (.int 2)=.ok (.str b):=rfl;have i3:Bu (.lst ([x,a,b,l,v].map D.str)) (.int 3)=.ok (.str l):=rfl;have i4:Bu (.lst ([x,a,b,l,v].map D.str)) (.int 4)=.ok (.str v):=rfl;have er:Hu [x,a,b,l,v]=(AR a).bind λ i=>(AR b).bind λ j=>(DU l).bind λ k=>(AR v).map λ n=>⟨i,j,k,n⟩:=by
  unfold Hu;dsimp only;rw[if_pos hx]
 rw[er];have ql:=FF l (zc "-");have em:AR (zc "-")=none:=JD (by decide +kernel);refine wp_step (ρ':=[some (.val (.str p)),some (.val (.int m)),some (.val (.lst ([x,a,b,l,v].map D.str))),none,none,none,none]) (by simp_arith[ge,hi,q,AI];try rfl) ?_;refine wp_step (ρ':=[some (.val (.str p)),some (.val (.int m)),some (.val (.lst ([x,a,b,l,v].map D.str))),some (.val (BZ a)),none,none,none]) (by simp_arith[i1,ra];try rfl) ?_;refine wp_step (ρ':=[some (.val (.str p)),some (.val (.int m)),some (.val (.lst ([x,a,b,l,v].map D.str))),some (.val (BZ a)),some (.val (BZ b)),none,none]) (by simp_arith[i2,rb];try rfl) ?_;refine wp_step (ρ':=[some (.val (.str p)),some (.val (.int m)),some (.val (.lst ([x,a,b,l,v].map D.str))),some (.val (BZ a)),some (.val (BZ b)),some (.val (BZ l)),none]) (by simp_arith[i3,rl];try rfl) ?_;refine wp_step (ρ':=[some (.val (.str p)),some (.val (.int m)),some (.val (.lst ([x,a,b,l,v].map D.str))),some (.val (BZ a)),some (.val (BZ b)),some (.val (BZ l)),some (.val (BZ v))]) (by simp_arith[i4,rv];try rfl) ?_;have nd:∀ {z:Str} {i:Int},AR z=some i->BZ z=.int i:=λ h=>by unfold BZ;rw[h]
 have nn:∀ {z:Str},AR z=none->BZ z=.Ar:=λ h=>by unfold BZ;rw[h]
 have b1:Av .Ar=true:=rfl;have b0:∀i:Int,Av (.int i)=false:=λ i=>rfl;cases qa:AR a with
 |none =>
  rw[nn qa];simp_arith[b1,AI];rfl
 |some i =>
 rw[nd qa];cases qb:AR b with
 |none =>
  rw[nn qb];simp_arith[b1,b0,AI];rfl
 |some j =>
 rw[nd qb];cases qv:AR v with
 |none =>
  rw[nn qv];have e:(((some i).bind λ i=>(some j).bind λ j=>(DU l).bind λ k=>(none:Option Int).map λ n=>(⟨i,j,k,n⟩:Road)))=none:=by
   cases DU l<;>rfl
  rw[e];simp_arith[b1,b0,AI];rfl
 |some n =>
 rw[nd qv];cases qk:DU l with
 |none =>
  have dH:l≠zc "-" := λ z=>by
   unfold DU at qk;rw[if_pos z] at qk;cases qk
  have dv:AR l=none:=by
   unfold DU at qk;rw[if_neg dH] at qk;exact Option.map_eq_none_iff.mp qk
  rw[str_beq dH] at ql;rw[nn dv];simp_arith[b1,b0,i3,ql,AI];rfl
 |some k =>
  have hk:BZ l=BX k/\(Av (BX k)=false\/(Av (BX k)=true/\(l==zc "-")=true)):=by
   unfold DU at qk;by_cases z:l=zc "-"
   ·rw[if_pos z] at qk;cases qk;rw[z];exact⟨nn em,.inr ⟨rfl,beq_self_eq_true _⟩⟩
   ·rw[if_neg z] at qk;obtain⟨u,h1,rfl⟩:=zX.mp qk;exact⟨nd h1,.inl rfl⟩
  rw[hk.1];refine wp_step (ρ':=[some (.val (.str p)),some (.val (.int m)),some (.val (.lst ([x,a,b,l,v].map D.str))),some (.val (.int i)),some (.val (.int j)),some (.val (BX k)),some (.val (.int n))]) (by
   rcases hk.2 with h|⟨h,h'⟩
   ·simp_arith[b0,h,AI];try rfl
   ·rw[h'] at ql;simp_arith[b0,h,i3,ql,AI];try rfl) ?_
  have e:(((some i).bind λ i=>(some j).bind λ j=>(some k).bind λ k=>(some n).map λ n=>(⟨i,j,k,n⟩:Road)))=some ⟨i,j,k,n⟩:=rfl;rw[e];dsimp only;by_cases c1:i<m
  rotate_left
  ·have hr:Ca m ⟨i,j,k,n⟩=false:=by unfold Ca;dsimp only;rw[decide_eq_false c1];rfl
   have g1:decide (m<=i)=true:=decide_eq_true (by omega);rw[hr];simp_arith[g1,AI];rfl
  have g1:decide (m<=i)=false:=decide_eq_false (by omega);by_cases c2:j<m
  rotate_left
  ·have hr:Ca m ⟨i,j,k,n⟩=false:=by unfold Ca;dsimp only;rw[decide_eq_false c2];simp
   have g2:decide (m<=j)=true:=decide_eq_true (by omega);rw[hr];simp_arith[g1,g2,AI];rfl
  have g2:decide (m<=j)=false:=decide_eq_false (by omega);by_cases c3:i=j
  ·have hr:Ca m ⟨i,j,k,n⟩=false:=by unfold Ca;dsimp only;rw[decide_eq_true c3];simp
   rw[hr];simp_arith[g1,g2,decide_eq_true c3,AI];rfl
  ·have hr:Ca m ⟨i,j,k,n⟩=true:=by unfold Ca;dsimp only;rw[decide_eq_true c1,decide_eq_true c2,decide_eq_false c3];rfl
   refine wp_step (ρ':=[some (.val (.str p)),some (.val (.int m)),some (.val (.lst ([x,a,b,l,v].map D.str))),some (.val (.int i)),some (.val (.int j)),some (.val (BX k)),some (.val (.int n))]) (by simp_arith[g1,g2,decide_eq_false c3,AI];try rfl) ?_;rw[hr];simp_arith[];rfl
noncomputable def IW:List D->M OT:=zu Eu
theorem L9:Txt K mg->CJ P w K mg base "_law_road" 2 2 IW:=(ze Eu).1
theorem La:∀(p:Str) (m:Int),asc p->p.length<=2000->IW [.str p,.int m]=.ok (.sh (KN m p)):=(ze Eu).2
theorem Fd:∃F:List D->M OT,(∀ {P w K mg base},Txt K mg->CJ P w K mg base "_law_due" 3 1 F)/\((∀x:Str,asc x->x.length<=1990->F [.str x]=.ok (.sh (Sb x)))/\(∀d:D,Cn "str" d=.ok (.bl false)->F [d]=.ok (.sh .Ar))):=by
 refine⟨_,λ T=>AO (k:=2) T.Nx Cu _ (λ f Bx A outer s H E hr=>(A2 (AD (Bp (BP (c:=true) (Ec (Kt _) rfl T.Ad rfl T.HC (by decide +kernel) (A0 0 (pv 0))))) (A4 (Ab (Ao By))) Ah) (A2 (Ag 1 Cu.nd rfl (zP rfl) (Ai (Eg (A0 0 (pv 0)) A6))) (A2 (Ag 2 Cu.nd rfl (zP rfl) (Ai (Eg (Au (BK hr 16 (by decide)) (A0 1 (pv 1)) A3) A6))) (A2 (AD (DW.dt (BB (Ft (c:=true) (BK hr 16 (by decide)) (Dm rfl T.C5 (A0 2 (pv 2))) A3) (BB (Ft (c:=true) (BK hr 16 (by decide)) (Au (BK hr 16 (by decide)) (A0 2 (pv 2)) A3) A6) (BA (Iq (c:=true) (Dm rfl T.C5 (A0 1 (pv 1))) A3))))) (A4 (Ab (Ao By))) Ah) (A2 (Ag 3 Cu.nd rfl (Or.inr rfl) (Ai (Ac Aj.toXCall (Bk T) (hr.mono (by decide)) rfl (A1 (Au (BK hr 16 (by decide)) (A0 2 (pv 2)) A3) A7) rfl))) (A2 (AD (DW.dt (BB (FX (c:=true) (A0 3 (pv 3))) (BA (Bp (IH (c:=true) K0 K0 A3 (A0 3 (pv 3)) A3))))) (A4 (Ab (Ao By))) Ah) (A2 (R3 (NB:=["_law_part","_law_many"]) 4 [none,some 3] Cu.nd rfl (zP rfl) rfl (Ey (Ai (He (A0 1 (pv 1)) (B1 A3) BU))) rfl rfl (Ee 0 (by decide) rfl rfl rfl) (λ _ _ _ _=>Fv) (λ _ _ _ _=>(Ai (Cq (Ac (BD rfl).toXCall (L9 T) (hr.mono (by decide)) rfl (A1 (A0 0 (pv 0)) (A1 (A0 1 (pv 1)) A7)) rfl))))) (A2 (AD (S4 (c:=true) (BK hr 16 (by decide)) By (A0 4 (pv 4))) (A4 (Ab (Ao By))) Ah) (A4 (Ab (Ao (FW (A1 (A0 3 (pv 3)) (A1 (A0 4 (pv 4)) A7))))))))))))))),?_⟩;refine⟨λ x ha hz=>?_,λ d hd=>?_⟩
 rotate_left
 ·have e0:AH ["_law_text_here","_law_parts","_law_words","_law_many","_law_roads"] [d]=[some (.val d),none,none,none,none]:=rfl;rw[e0];refine B7 ?_;simp_arith[hd,AI];rfl
 have e0:AH ["_law_text_here","_law_parts","_law_words","_law_many","_law_roads"] [.str x]=[some (.val (.str x)),none,none,none,none]:=rfl;rw[e0];refine B7 ?_;have ay:=Dd x SC (by decide);unfold Sb KL;cases qs:zM x SC with
 |nil=>exact (ay qs).elim
 |cons p ps =>
 have aA:∀w∈p::ps,asc w/\w.length<=2000:=λ w hw=>by
  rw[<-qs] at hw;exact⟨(AE ha hw).1,by have:=(AE ha hw).2;omega⟩
 have d7:=IT x SC;rw[qs,zi,show SC.length=2 by decide] at d7;have hp:F1 x (.str (zc "; "))=.ok (.lst (((p::ps).map D.str).map .sh)):=by
  rw[<-qs];exact if_pos ⟨by decide,by omega⟩
 have i0:Bu (.lst ((p::ps).map D.str)) (.int 0)=.ok (.str p):=Dq (by decide) rfl;have sl:Rv (some (1:Int)) none (.lst ((p::ps).map D.str))=.ok (.lst ((ps.map D.str).map .sh)):=Kx ((p::ps).map D.str) 1;have hl:(ps.map D.str).length<=1000:=by rw[zo];omega
 have cL:=aA p zf;have cM:=Dd p BL (by decide);have ip:(((p::ps).map D.str).length:Int)=((ps.length+1:Nat):Int):=by rw[zo,zi]
 refine wp_step (ρ':=[some (.val (.str x)),none,none,none,none]) (by simp_arith[];try rfl) ?_;refine wp_step (ρ':=[some (.val (.str x)),some (.val (.lst ((p::ps).map D.str))),none,none,none]) (by simp_arith[Mn,hp];try rfl) ?_;cases qw:zM p BL with
 |nil=>exact (cM qw).elim
 |cons w ws =>
 have j2:F1 p (.str (zc " "))=.ok (.lst (((w::ws).map D.str).map .sh)):=by
  rw[<-qw];exact if_pos ⟨by decide,by omega⟩
 have j0:Bu (.lst ((w::ws).map D.str)) (.int 0)=.ok (.str w):=Dq (by decide) rfl;have iq:(((w::ws).map D.str).length:Int)=((ws.length+1:Nat):Int):=by rw[zo,zi]
 have q:=FF w (zc "places");refine wp_step (ρ':=[some (.val (.str x)),some (.val (.lst ((p::ps).map D.str))),some (.val (.lst ((w::ws).map D.str))),none,none]) (by simp_arith[i0,Mn,j2];try rfl) ?_;have dJ:Uj p=match w::ws with
  |[x,n]=>if x=zc "places" then AR n else none
  |_=>none:=by
  unfold Uj;rw[qw];try rfl
 by_cases c1:ws.length+1=2
 rotate_left
 ·have e:Uj p=none:=by
   rw[dJ]
   match ws,c1 with
   |[],_=>rfl
   |[_],h=>exact (h rfl).elim
   |_::_::_,_=>rfl
  have hn:decide ((((w::ws).map D.str).length:Int)=2)=false:=decide_eq_false (by rw[iq];omega);dsimp only;rw[e];simp_arith[hn,AI];rfl
 have cx:decide ((((w::ws).map D.str).length:Int)=2)=true:=decide_eq_true (by rw[iq];omega);obtain⟨n,rfl⟩:∃n,ws=[n]:=by
  match ws,c1 with
  |[n],_=>exact⟨n,rfl⟩
 dsimp only at dJ;by_cases c2:w=zc "places"
 rotate_left
 ·rw[if_neg c2] at dJ;dsimp only;rw[dJ];rw[str_beq c2] at q;simp_arith[cx,j0,q,AI];rfl
 rw[if_pos c2] at dJ;have q2:(w==zc "places")=true:=by rw[c2];exact beq_self_eq_true _
 rw[q2] at q;have hn:n∈zM p BL:=by rw[qw];simp
 have hr:=Bl n (AE cL.1 hn).1 (by have:=(AE cL.1 hn).2;omega);have j1:Bu (.lst ([w,n].map D.str)) (.int 1)=.ok (.str n):=rfl;have nd:∀ {z:Str} {i:Int},AR z=some i->BZ z=.int i:=λ h=>by unfold BZ;rw[h]
 have nn:∀ {z:Str},AR z=none->BZ z=.Ar:=λ h=>by unfold BZ;rw[h]
 dsimp only;rw[dJ];by_cases c3:ps.length+1<=61
 rotate_left
 ·have hg:decide ((61:Int)<(((p::ps).map D.str).length:Int))=true:=decide_eq_true (by rw[ip];omega);have e:outD ((AR n).bind λ m=>(CK Gm ps).bind λ rs=>if (1<=m/\m<=16)/\rs.length<=60/\(rs.all (Ca m))=true then some (m,rs) else none)=D.Ar:=by
   cases AR n with
   |none=>rfl
   |some m =>
    cases qr:CK Gm ps with
    |none=>rfl
    |some rs =>
     have:=(EI qr).1;rw[ye,ye,if_neg (by intro z;omega)];rfl
  rw[e];simp_arith[cx,j0,q,hg,AI];rfl
 have hg:decide ((61:Int)<(((p::ps).map D.str).length:Int))=false:=decide_eq_false (by rw[ip];omega);refine wp_step (ρ':=[some (.val (.str x)),some (.val (.lst ((p::ps).map D.str))),some (.val (.lst ([w,n].map D.str))),none,none]) (by simp_arith[cx,j0,q,hg,AI];try rfl) ?_;refine wp_step (ρ':=[some (.val (.str x)),some (.val (.lst ((p::ps).map D.str))),some (.val (.lst ([w,n].map D.str))),some (.val (BZ n)),none]) (by simp_arith[j1,hr];try rfl) ?_;cases qn:AR n with
 |none =>
  rw[nn qn];have b1:Av .Ar=true:=rfl;simp_arith[b1,AI];rfl
 |some m =>
 rw[nd qn];have b0:Av (.int m)=false:=rfl;by_cases c4:1<=m/\m<=16
 rotate_left
 ·have e:outD ((some m).bind λ m=>(CK Gm ps).bind λ rs=>if (1<=m/\m<=16)/\rs.length<=60/\(rs.all (Ca m))=true then some (m,rs) else none)=D.Ar:=by
   cases qr:CK Gm ps with
   |none=>rfl
   |some rs =>
    rw[ye,ye,if_neg λ z=>c4 z.1];rfl
  rw[e];by_cases c5:1<=m
  ·have h1:decide ((1:Int)<=m)=true:=decide_eq_true c5;have h2:decide (m<=(16:Int))=false:=decide_eq_false λ z=>c4 ⟨c5,z⟩;simp_arith[b0,As,h1,h2,if_true,AI];rfl
  ·have h1:decide ((1:Int)<=m)=false:=decide_eq_false c5;simp_arith[b0,As,h1,if_false,zC,AI];rfl
 have h1:decide ((1:Int)<=m)=true:=decide_eq_true c4.1;have h2:decide (m<=(16:Int))=true:=decide_eq_true c4.2;refine wp_step (ρ':=[some (.val (.str x)),some (.val (.lst ((p::ps).map D.str))),some (.val (.lst ([w,n].map D.str))),some (.val (.int m)),none]) (by simp_arith[b0,As,h1,h2,if_true,AI];try rfl) ?_;refine wp_step (ρ':=[some (.val (.str x)),some (.val (.lst ((p::ps).map D.str))),some (.val (.lst ([w,n].map D.str))),some (.val (.int m)),some (.val (.lst (ps.map (KN m))))]) (by
  simp_arith[sl,if_pos hl];rw[Cr (KN m) (λ z hz=>⟨_,rfl,rfl,by
   have h:=La z m (aA z (zg _ hz)).1 (aA z (zg _ hz)).2;simp_arith[h];try rfl⟩)]
  try rfl) ?_
 have hx:=Qb m ps;have cN:Ms .Ar (.lst (ps.map (KN m)))=.ok (.bl ((ps.map (KN m)).any Av)):=if_pos hx;have hv:=Qc m ps;cases qr:((ps.map (KN m)).any Av) with
 |true =>
  rw[qr] at cN;have e:outD ((some m).bind λ m=>(CK Gm ps).bind λ rs=>if (1<=m/\m<=16)/\rs.length<=60/\(rs.all (Ca m))=true then some (m,rs) else none)=D.Ar:=by
   cases q5:CK Gm ps with
   |none=>rfl
   |some rs =>
    rw[ye,ye,if_neg λ z=>by
     rw[hv.2 rs q5 z.2.2] at qr;cases qr]
    rfl
  rw[e];simp_arith[cN,AI];rfl
 |false =>
  rw[qr] at cN;obtain⟨rs,q5,q6,q7⟩:=hv.1 qr;have jX:=(EI q5).1;have e:outD ((some m).bind λ m=>(CK Gm ps).bind λ rs=>if (1<=m/\m<=16)/\rs.length<=60/\(rs.all (Ca m))=true then some (m,rs) else none)=AQ m rs:=by
   rw[ye,q5,ye,if_pos ⟨c4,by omega,q6⟩];rfl
  rw[e];refine wp_step (ρ':=[some (.val (.str x)),some (.val (.lst ((p::ps).map D.str))),some (.val (.lst ([w,n].map D.str))),some (.val (.int m)),some (.val (.lst (ps.map (KN m))))]) (by simp_arith[cN,AI];try rfl) ?_;rw[q7];simp_arith[];rfl
noncomputable def CG:List D->M OT:=zu Fd
theorem LX:Txt K mg->CJ P w K mg base "_law_due" 3 1 CG:=(ze Fd).1
theorem HG:(∀x:Str,asc x->x.length<=1990->CG [.str x]=.ok (.sh (Sb x)))/\(∀d:D,Cn "str" d=.ok (.bl false)->CG [d]=.ok (.sh .Ar)):=(ze Fd).2
theorem Fe:∃F:List D->M OT,(∀ {P w K mg base},Txt K mg->CJ P w K mg base "_law_odd" 1 1 F)/\(∀c:Int,∃d:D,F [.int c]=.ok (.sh d)/\LM d):=by
 refine⟨_,λ T=>AO (k:=0) T.Ny AW _ (λ f Bx A outer s H E hr=>(A2 (Ag 1 AW.nd rfl (zP rfl) (JC A6 (C1 A3 (AK (Bd (A0 0 (pv 0)) A3) A3)))) (A2 (Ag 2 AW.nd rfl (zP rfl) (Bz (A1 By (A1 A3 (A1 (Bz (A1 A6 A7)) (A1 (FW (A1 A6 A7)) (A1 A6 (A1 A6 (A1 A6 (A1 A6 (A1 A6 (A1 A6 (A1 A6 A7))))))))))))) (A2 (Ag 2 AW.nd rfl (zP rfl) (Ai (CN (A0 2 (pv 2)) (Bz (A1 A6 (A1 A6 (A1 A6 (A1 A6 (A1 A6 (A1 A6 (A1 A6 (A1 A6 A7)))))))))))) (A2 (Ag 2 AW.nd rfl (zP rfl) (Ai (CN (A0 2 (pv 2)) (Bz (A1 (Ax (Ax A6 (A0 1 (pv 1))) A6) (A1 (Ax A6 (A0 1 (pv 1))) (A1 (Ax A6 (A0 1 (pv 1))) A7))))))) (A2 (Ag 2 AW.nd rfl (zP rfl) (Ai (CN (A0 2 (pv 2)) (Bz (A1 A6 (A1 A6 (A1 A6 A7))))))) (A2 (Ag 2 AW.nd rfl (zP rfl) (Ai (CN (A0 2 (pv 2)) (Bz (A1 A6 (A1 A6 (A1 A6 A7))))))) (A2 (Ag 2 AW.nd rfl (zP rfl) (Ai (CN (A0 2 (pv 2)) (Bz (A1 A6 (A1 A6 (A1 A6 (A1 A6 A7)))))))) (A2 (Ag 2 AW.nd rfl (zP rfl) (Ai (CN (A0 2 (pv 2)) (Bz (A1 (Ax A6 (JC A6 A3)) (A1 (Ax A6 (JC A6 A3)) A7)))))) (A4 (Ab (Ao (Au (BK hr 16 (by decide)) (A0 2 (pv 2)) (AK (A0 0 (pv 0)) (Dm rfl T.C5 (A0 2 (pv 2))))))))))))))))),?_⟩;intro c;have e0:AH ["_law_cell","_law_many","_law_some"] [.int c]=[some (.val (.int c)),none,none]:=rfl;rw[e0];refine (λ h:∃t,_/\∃d:D,t=OT.sh d/\LM d=>by
  obtain⟨t,h1,d,rfl,h2⟩:=h;exact⟨d,h1,h2⟩) (Ku ?_)
 have j3:DH (.int c) (.int 40)=.ok (.int (c / 40)):=Be ⟨by decide,by decide⟩;have w2:CI (.int (c / 40)) (.int 2)=.ok (.int (c / 40%2)):=AB (by decide);have jY:0<=c / 40%2/\c / 40%2<=1:=by omega
 have l7:(zc "7").length=1:=by decide
 have bd:Hr (.str (zc "7")) (.int (60+c / 40%2))=.ok (.str (Txt.mul (zc "7") (60+c / 40%2))):=Hx (by omega) (by omega) (by omega);obtain⟨wa,wl⟩:=JE (z:=zc "7") (Ct (by decide +kernel)) (n:=60+c / 40%2) (by omega);rw[l7] at wl;obtain⟨w,hw⟩:∃w,w=Txt.mul (zc "7") (60+c / 40%2):=⟨_,rfl⟩;rw[<-hw] at wa wl bd;have j4:w.length<=61:=by omega
 refine wp_step (ρ':=[some (.val (.int c)),some (.val (.str w)),none]) (by simp_arith[j3,w2,bd];try rfl) ?_;have bA:∀x y:Str,x.length<=1000->y.length<=1000->Hl (.str x) (.str y)=.ok (.str (x++y)):=λ x y h1 h2=>if_pos (by omega);refine BF (I:=λ ρ=>∃S:List D,ρ=[some (.val (.int c)),some (.val (.str w)),some (.val (.lst S))]/\S.length=11/\∀y∈S,LM y) ?_ ?_
 ·simp_arith[];refine⟨_,rfl,rfl,?_⟩;exact (all_cons (.inr rfl) (all_cons (.inr rfl) (all_cons (.inr rfl) (all_cons (.inr rfl) (all_cons (Aq _) (all_cons (Aq _) (all_cons (Aq _) (all_cons (Aq _) (all_cons (Aq _) (all_cons (Aq _) (all_cons (Aq _) all_nil)))))))))))
 rintro ρ ⟨S,rfl,hS,br⟩;refine BF (I:=λ ρ=>∃S:List D,ρ=[some (.val (.int c)),some (.val (.str w)),some (.val (.lst S))]/\S.length=19/\∀y∈S,LM y) ?_ ?_
 ·simp_arith[];rw[EE (by rw[hS];simp only[zi,y7];omega)];simp_arith[];refine⟨_,rfl,by rw[zq,hS];rfl,EG br ?_⟩;exact (all_cons (Aq _) (all_cons (Aq _) (all_cons (Aq _) (all_cons (Aq _) (all_cons (Aq _) (all_cons (Aq _) (all_cons (Aq _) (all_cons (Aq _) all_nil))))))))
 clear br hS S;rintro ρ ⟨S,rfl,hS,br⟩;refine BF (I:=λ ρ=>∃S:List D,ρ=[some (.val (.int c)),some (.val (.str w)),some (.val (.lst S))]/\S.length=22/\∀y∈S,LM y) ?_ ?_
 ·have p1:=bA (zc "places 2; road 0 1 ") w (by decide) (by omega);have p2:=bA (zc "places 2; road 0 1 " ++ w) (zc " 0") (by
   rw[str_len];have:(zc "places 2; road 0 1 ").length=19:=by decide
   omega) (by decide)
  have p3:=bA (zc "places 2; road 0 1 0 ") w (by decide) (by omega);have p4:=bA (zc "places ") w (by decide) (by omega);simp_arith[p1,p2,p3,p4];rw[EE (by rw[hS];simp only[zi,y7];omega)];simp_arith[];refine⟨_,rfl,by rw[zq,hS];rfl,EG br ?_⟩;exact (all_cons (Sd _ _ wa j4) (all_cons (Gz _ wa (by omega)) (all_cons (Gz _ wa (by omega)) all_nil)))
 clear br hS S;rintro ρ ⟨S,rfl,hS,br⟩;refine BF (I:=λ ρ=>∃S:List D,ρ=[some (.val (.int c)),some (.val (.str w)),some (.val (.lst S))]/\S.length=25/\∀y∈S,LM y) ?_ ?_
 ·simp_arith[];rw[EE (by rw[hS];simp only[zi,y7];omega)];simp_arith[];refine⟨_,rfl,by rw[zq,hS];rfl,EG br ?_⟩;exact (all_cons (Aq _) (all_cons (Aq _) (all_cons (Aq _) all_nil)))
 clear br hS S;rintro ρ ⟨S,rfl,hS,br⟩;refine BF (I:=λ ρ=>∃S:List D,ρ=[some (.val (.int c)),some (.val (.str w)),some (.val (.lst S))]/\S.length=28/\∀y∈S,LM y) ?_ ?_
 ·simp_arith[];rw[EE (by rw[hS];simp only[zi,y7];omega)];simp_arith[];refine⟨_,rfl,by rw[zq,hS];rfl,EG br ?_⟩;exact (all_cons (Aq _) (all_cons (Aq _) (all_cons (Aq _) all_nil)))
 clear br hS S;rintro ρ ⟨S,rfl,hS,br⟩;refine BF (I:=λ ρ=>∃S:List D,ρ=[some (.val (.int c)),some (.val (.str w)),some (.val (.lst S))]/\S.length=32/\∀y∈S,LM y) ?_ ?_
 ·simp_arith[];rw[EE (by rw[hS];simp only[zi,y7];omega)];simp_arith[];refine⟨_,rfl,by rw[zq,hS];rfl,EG br ?_⟩;exact (all_cons (Aq _) (all_cons (Aq _) (all_cons (Aq _) (all_cons (Aq _) all_nil))))
 clear br hS S;rintro ρ ⟨S,rfl,hS,br⟩;have lr:(zc "; road 0 1 1 1").length=14:=by decide
 have ir:Hr (.str (zc "; road 0 1 1 1")) (.int 60)=.ok (.str (Txt.mul (zc "; road 0 1 1 1") 60)):=Hx (by decide) (by decide) (by omega);have iu:Hr (.str (zc "; road 0 1 1 1")) (.int 61)=.ok (.str (Txt.mul (zc "; road 0 1 1 1") 61)):=Hx (by decide) (by decide) (by omega);obtain⟨xa,xl⟩:=JE (z:=zc "; road 0 1 1 1") (Ct (by decide +kernel)) (n:=60) (by decide);obtain⟨ya,yl⟩:=JE (z:=zc "; road 0 1 1 1") (Ct (by decide +kernel)) (n:=61) (by decide);rw[lr] at xl yl;generalize Txt.mul (zc "; road 0 1 1 1") 60=x at ir xa xl;generalize Txt.mul (zc "; road 0 1 1 1") 61=y at iu ya yl;have iv:x.length<=1000:=zD xl (by decide);have iw:y.length<=1000:=zD yl (by decide);have p5:=bA (zc "places 2") x (by decide) iv;have p6:=bA (zc "places 2") y (by decide) iw;refine BF (I:=λ ρ=>∃S:List D,ρ=[some (.val (.int c)),some (.val (.str w)),some (.val (.lst S))]/\S.length=34/\∀y∈S,LM y) ?_ ?_
 ·simp_arith[ir,iu,p5,p6];rw[EE (by rw[hS];simp only[zi,y7];omega)];simp_arith[];refine⟨_,rfl,by rw[zq,hS];rfl,EG br ?_⟩;exact (all_cons (Gz _ xa iv) (all_cons (Gz _ ya iw) all_nil))
 clear br hS S;rintro ρ ⟨S,rfl,hS,br⟩;have j5:CI (.int c) (.int (S.length:Int))=.ok (.int (c%34)):=by rw[hS];exact AB (by decide)
 have b0:=zU c (show (34:Int)≠0 by decide);have b1:=zO c (show (0:Int)<34 by decide);obtain⟨y,hy⟩:∃y,S[(c%34).toNat]?=some y:=⟨S[(c%34).toNat]'(by omega),z0 _⟩;have hp:Bu (.lst S) (.int (c%34))=.ok y:=by
  have:=Dq (f:=id) b0 hy;rw[List.map_id] at this;exact this
 simp_arith[j5,hp];exact⟨y,rfl,br y (zj hy)⟩
noncomputable def Lb:List D->M OT:=zu Fe
theorem LY:Txt K mg->CJ P w K mg base "_law_odd" 1 1 Lb:=(ze Fe).1
theorem LZ:∀c:Int,∃d:D,Lb [.int c]=.ok (.sh d)/\LM d:=(ze Fe).2
theorem DD:∃F:List D->M OT,(∀ {P w K mg base},Txt K mg->CJ P w K mg base "_law_asked" 6 1 F)/\(∀d:D,LM d\/(∃z,d=.str z/\asc z/\z.length<=1990)->F [d]=.ok (.sh (.bl true))):=by
 refine⟨_,λ T=>AO (k:=5) T.KS AN _ (λ f Bx A outer s H E hr=>(A2 (Ag 1 AN.nd rfl (zP rfl) (Ai (Ac Aj.toXCall (LX T) (hr.mono (by decide)) rfl (A1 (A0 0 (pv 0)) A7) rfl))) (A2 (Ag 2 AN.nd rfl (zP rfl) By) (A2 (Ag 3 AN.nd rfl (zP rfl) (Bz A7)) (A2 (S0 4 2 T.HX rfl rfl AN.nd rfl rfl rfl rfl rfl (KW T) (hr.mono (by decide)) rfl (λ xe pn=>(A1 (A0 0 (pv 0)) A7)) rfl (λ ea=>(A2 (Ag 3 AN.nd rfl (zP rfl) (Bz (A1 (BV T.Em rfl T.Ad rfl (A0 4 (pv 4))) (A1 (Rf (x2 := "ValueError") T.BH rfl T.Ad rfl T.JK (by decide +kernel) (A0 4 (pv 4))) (A1 (BV T.FN rfl T.Ad rfl (A0 4 (pv 4))) (A1 (BV T.Ek rfl T.Ad rfl (A0 4 (pv 4))) A7)))))) (A2 (Ag 3 AN.nd rfl (zP rfl) (Ai (CN (A0 3 (pv 3)) (Bz (A1 (BV T.Cw rfl T.Ad rfl (A0 4 (pv 4))) (A1 (BV T.De rfl T.Ad rfl (A0 4 (pv 4))) (A1 (BV T.Df rfl T.Ad rfl (A0 4 (pv 4))) (A1 (BV T.El rfl T.Ad rfl (A0 4 (pv 4))) A7)))))))) (A4 (Ag 3 AN.nd rfl (zP rfl) (Ai (CN (A0 3 (pv 3)) (Bz (A1 (BV T.FQ rfl T.Ad rfl (A0 4 (pv 4))) (A1 (BV T.FO rfl T.Ad rfl (A0 4 (pv 4))) (A1 (BV T.FR rfl T.Ad rfl (A0 4 (pv 4))) A7)))))))))))) (A2 (AD (FX (c:=true) (A0 1 (pv 1))) (A4 (Ab (Ao (Mb (BK hr 16 (by decide)) (A0 3 (pv 3)) (Ai (Gw (NB:=["_law_k"]) [none] rfl (Iw (c:=true) rfl T.Mv A3) rfl rfl (Ee 0 (by decide) rfl rfl rfl) (λ _ _ _ _=>Fv) (λ _ _ _ _=>(Vc (A0 0 (pv 0)) A3)))))))) Ah) (A4 (Ab (Ao (FZ (Mb (BK hr 16 (by decide)) (A0 3 (pv 3)) (Bz A7)) (FZ (Ec (EX _) rfl T.Ad rfl T.JL (by decide +kernel) (A0 2 (pv 2))) (FY (Mb (BK hr 16 (by decide)) (A0 2 (pv 2)) (A0 1 (pv 1))))))))))))))),?_⟩;intro d hd;have e0:AH ["_law_text_here","_law_due_here","_law_found","_law_told","e"] [d]=[some (.val d),none,none,none,none]:=rfl;rw[e0];refine B7 ?_;have gf:MT (.int 11)=.ok (BC 0 11):=Ki (n:=11) (by omega);have gh:((List.range 11).map λ i:Nat=>D.int (i:Int)).length<=1000:=by decide
 have key:(∃m rs,CG [d]=.ok (.sh (AQ m rs))/\Bt [d]=.ok (.tup [.sh (.int m),.lst ((rs.map ED).map .sh)]))\/(CG [d]=.ok (.sh .Ar)/\Bt [d]=.ex "NoText"):=by
  have txt:∀z:Str,asc z->z.length<=1990->(∃m rs,CG [.str z]=.ok (.sh (AQ m rs))/\Bt [.str z]=.ok (.tup [.sh (.int m),.lst ((rs.map ED).map .sh)]))\/(CG [.str z]=.ok (.sh .Ar)/\Bt [.str z]=.ex "NoText"):=λ z h1 h2=>by
   have a:=HG.1 z h1 h2;have b:=Gp.1 z h1 h2;unfold Sb at a;cases q:KL z with
   |none =>
    rw[q] at a;exact .inr ⟨a,b.2 q⟩
   |some mr =>
    obtain⟨m,rs⟩:=mr;rw[q] at a;exact .inl ⟨m,rs,a,b.1 m rs q⟩
  rcases hd with (⟨z,rfl,h1,h2⟩|h)|⟨z,rfl,h1,h2⟩
  ·exact txt z h1 (by omega)
  ·exact .inr ⟨HG.2 d h,Gp.2 d h⟩
  ·exact txt z h1 h2
 rcases key with ⟨m,rs,h1,h2⟩|⟨h1,h2⟩
 ·have eZ:er (.tup [.sh (.int m),.lst ((rs.map ED).map .sh)])=AQ m rs:=by
   have e:∀l:List D,Gu (l.map .sh)=l:=λ l=>by
    induction l with
    |nil=>rw[List.map_nil,Gu]
    |cons a r ih=>rw[zx,Gu,Kw,ih]
   rw[er,Gu,Gu,Gu,Kw,er,e];rfl
  have j6:=OH ((U0 m rs).le (show 3<=16 by omega));have j7:Cn "tuple" (AQ m rs)=.ok (.bl true):=rfl;have nn:Av (AQ m rs)=false:=rfl;have ee:Oe 16 (.lst []) (.lst [])=.ok (.bl true):=rfl;refine wp_step (ρ':=[some (.val d),some (.val (AQ m rs)),none,none,none]) (by simp_arith[h1];try rfl) ?_;refine wp_step (ρ':=[some (.val d),some (.val (AQ m rs)),some (.val .Ar),none,none]) (by simp_arith[];try rfl) ?_;refine wp_step (ρ':=[some (.val d),some (.val (AQ m rs)),some (.val .Ar),some (.val (.lst [])),none]) (by simp_arith[];try rfl) ?_;refine wp_step (ρ':=[some (.val d),some (.val (AQ m rs)),some (.val (AQ m rs)),some (.val (.lst [])),none]) (by
   simp_arith[h2,Np,eZ];try rfl) ?_
  refine wp_step (ρ':=[some (.val d),some (.val (AQ m rs)),some (.val (AQ m rs)),some (.val (.lst [])),none]) (by simp_arith[nn];try rfl) ?_;simp_arith[ee,j7,j6,AI];rfl
 ·refine wp_step (ρ':=[some (.val d),some (.val .Ar),none,none,none]) (by simp_arith[h1];try rfl) ?_;refine wp_step (ρ':=[some (.val d),some (.val .Ar),some (.val .Ar),none,none]) (by simp_arith[];try rfl) ?_;refine wp_step (ρ':=[some (.val d),some (.val .Ar),some (.val .Ar),some (.val (.lst [])),none]) (by simp_arith[];try rfl) ?_;refine wp_step (ρ':=[some (.val d),some (.val .Ar),some (.val .Ar),some (.val (.lst [D.bl true,.bl true,.bl false,.bl false,.bl false,.bl false,.bl false,.bl false,.bl false,.bl false,.bl false])),none]) (by
   simp_arith[h2,Np];rfl) ?_
  have b1:Av .Ar=true:=rfl;have ek:∀i:Nat,decide ((i:Int)<2)=decide (i<2):=λ i=>by
   by_cases h:i<2
   ·rw[decide_eq_true h,decide_eq_true (by omega)]
   ·rw[decide_eq_false h,decide_eq_false (by omega)]
  have e:((List.range 11).map λ i:Nat=>D.bl (decide (i<2)))=[D.bl true,.bl true,.bl false,.bl false,.bl false,.bl false,.bl false,.bl false,.bl false,.bl false,.bl false]:=rfl;have ee:Oe 16 (.lst [D.bl true,.bl true,.bl false,.bl false,.bl false,.bl false,.bl false,.bl false,.bl false,.bl false,.bl false]) (.lst [D.bl true,.bl true,.bl false,.bl false,.bl false,.bl false,.bl false,.bl false,.bl false,.bl false,.bl false])=.ok (.bl true):=rfl;simp_arith[b1,gf,Lp,if_pos gh];rw[Cr (λ i:Nat=>D.bl (decide (i<2))) (λ i hi=>⟨_,rfl,rfl,by
   have h:=ek i;simp_arith[];exact congrArg (λ b=>M.ok (D.bl b)) h⟩)]
  simp_arith[e,ee];rfl
noncomputable def HH:List D->M OT:=zu DD
theorem Cd:Txt K mg->CJ P w K mg base "_law_asked" 6 1 HH:=(ze DD).1
theorem Ce:∀d:D,LM d\/(∃z,d=.str z/\asc z/\z.length<=1990)->HH [d]=.ok (.sh (.bl true)):=(ze DD).2
theorem M0:∃F:List D->M D,(∀ {P w K mg base f fd},Txt K mg->O6 K "law" "law" DM f fd->EU P w K mg base QP 7 f fd ["_law_script"] (Lo K 1 F))/\(∀ns:List Int,ns.length<=63->(∀n∈ns,Sm n)->F [.lst (ns.map D.int)]=.ok (.bl true)):=by
 refine⟨_,fun {P w K mg base f fd} T F=>Vg (k:=6) F F9 _ (λ Bx A outer s H E hr=>(A2 (Ag 1 F9.nd rfl (zP rfl) (C1 A3 (AK (Ai (Cq (Ac (BD rfl).toXCall (CC T) (hr.mono (by decide)) rfl (A1 (A0 0 (pv 0)) (A1 A3 A7)) rfl))) A3))) (A2 (Ag 2 F9.nd rfl (zP rfl) (Ai (Cq (Ac (BD rfl).toXCall (LV T) (hr.mono (by decide)) rfl (A1 (Ai (Gw (NB:=["_law_cell"]) [none] rfl (Ey (Ai (He (A0 0 (pv 0)) (B1 A3) (B1 A3)))) rfl rfl (Ee 0 (by decide) rfl rfl rfl) (λ _ _ _ _=>Fv) (λ _ _ _ _=>(AK (A0 0 (pv 0)) (Dk A3 A3))))) (A1 (A0 1 (pv 1)) A7)) rfl)))) (A2 (Ag 3 F9.nd rfl (zP rfl) (Ai (Cq (Ac (BD rfl).toXCall (KZ T) (hr.mono (by decide)) rfl (A1 (A0 2 (pv 2)) A7) rfl)))) (A2 (Jj PassesOwn.never rfl (Iw (c:=true) rfl T.Mv A3) (Dn 4 F9.nd rfl (zP rfl)) (A2 (Ag 5 F9.nd rfl (zP rfl) (AK (Jm (C1 (Ai (Cq (Ac (BD rfl).toXCall (CC T) (hr.mono (by decide)) rfl (A1 (A0 0 (pv 0)) (A1 (A0 4 (pv 4)) A7)) rfl))) (A0 4 (pv 4))) A3) (C1 (Dk A3 A3) A3))) (A2 (Ag 6 F9.nd rfl (zP rfl) (Ai (Cq (Ac (BD rfl).toXCall (Er T) (hr.mono (by decide)) rfl (A1 (A0 3 (pv 3)) (A1 (A0 5 (pv 5)) A7)) rfl)))) (A4 (AD (DW.dt (BB (Bp (BP (c:=true) (Ai (Cq (Ac (BD rfl).toXCall (Cd T) (hr.mono (by decide)) rfl (A1 (A0 6 (pv 6)) A7) rfl))))) (BA (Bp (BP (c:=true) (Ai (Cq (Ac (BD rfl).toXCall (Cd T) (hr.mono (by decide)) rfl (A1 (Ai (Ac (BD rfl).toXCall (Er T) (hr.mono (by decide)) rfl (A1 (A0 6 (pv 6)) (A1 (Q6 (A0 5 (pv 5)) (Dk A3 A3)) A7)) rfl)) A7) rfl)))))))) (A4 (Ot (Ll Gh))) Ah))))) (A4 (Ot (Ll (FZ (Ai (Cq (Ac (BD rfl).toXCall (Cd T) (hr.mono (by decide)) rfl (A1 (Ai (Ac (BD rfl).toXCall (LY T) (hr.mono (by decide)) rfl (A1 (Ai (Ac (BD rfl).toXCall (CC T) (hr.mono (by decide)) rfl (A1 (A0 0 (pv 0)) (A1 A3 A7)) rfl)) A7) rfl)) A7) rfl))) (FY (Ai (Cq (Ac (BD rfl).toXCall (Cd T) (hr.mono (by decide)) rfl (A1 (A0 3 (pv 3)) A7) rfl))))))))))))),?_⟩;intro ns cE cS;have e0:AH ["_law_script","_law_many","_law_plan","_law_text_here","_law_k","_law_cell","_law_spoiled_here"] [.lst (ns.map D.int)]=[some (.val (.lst (ns.map D.int))),none,none,none,none,none,none]:=rfl;rw[e0];refine Vx ?_;have ht:=CZ;obtain⟨v,⟨v0,v1⟩,hv⟩:=CD ns 0;obtain⟨w,⟨w0,w1⟩,hw⟩:=CD ns 1;have hv:Cc [.lst (ns.map D.int),.int 0]=.ok (.sh (.int v)):=hv;have hw:Cc [.lst (ns.map D.int),.int 1]=.ok (.sh (.int w)):=hw;obtain⟨m,hm⟩:∃m:Nat,(m:Int)=1+v%16:=⟨(1+v%16).toNat,by have:=zU v (show (16:Int)≠0 by decide);omega⟩;have gi:1<=m:=by have:=zU v (show (16:Int)≠0 by decide);omega
 have bT:m<=16:=by have:=zO v (show (0:Int)<16 by decide);omega
 have j8:CI (.int v) (.int 16)=.ok (.int (v%16)):=AB (by decide);have s1:Rv (some 2) (some 14) (.lst (ns.map D.int))=.ok (.lst ((((ns.drop 2).take 12).map D.int).map .sh)):=by
  rw[List.map_take,List.map_drop];exact RK _ 2 14
 have dH:(((ns.drop 2).take 12).map D.int).length<=1000:=by rw[zo,List.length_take];omega
 obtain⟨rs,d4,AF,hF⟩:=LW (((ns.drop 2).take 12).map λ c=>c%Bg) m gi bT (by rw[zo,List.length_take];omega) (λ c hc=>by
  obtain⟨x,_,rfl⟩:=y6.mp hc;exact⟨zU _ (by omega),zO _ (by omega)⟩)
 have e1:(((ns.drop 2).take 12).map λ c=>D.int (c%Bg))=(((ns.drop 2).take 12).map λ c=>c%Bg).map D.int:=by rw[List.map_map];rfl
 refine wp_step (ρ':=[some (.val (.lst (ns.map D.int))),some (.val (.int m)),none,none,none,none,none]) (by
  simp_arith[hv,j8,hm];try rfl) ?_
 refine wp_step (ρ':=[some (.val (.lst (ns.map D.int))),some (.val (.int m)),some (.val (AQ m rs)),none,none,none,none]) (by
  simp_arith[s1,if_pos dH];rw[Cr (λ c=>D.int (c%Bg)) (λ c hc=>⟨_,rfl,rfl,by simp_arith[Gk,Gx]⟩),e1];simp_arith[hF];try rfl) ?_
 have hx:=L0 m rs gi bT (by omega) AF;have gj:=S8 AF;have j9:=Nu gi bT d4 AF;generalize Ud m rs=x at hx gj j9;refine wp_step (ρ':=[some (.val (.lst (ns.map D.int))),some (.val (.int m)),some (.val (AQ m rs)),some (.val (.str x)),none,none,none]) (by simp_arith[hx];try rfl) ?_;have jA:MT (.int 6)=.ok (BC 0 6):=Ki (n:=6) (by omega);obtain⟨U,jB,jC,hU⟩:∃U:Int,0<U/\U.natAbs.log2<9000/\HL (.int 10) (.int 20)=.ok (.int U):=⟨10^20,by decide,by decide +kernel,rfl⟩;have dU:∀c:Int,LL (.int c) (.int U)=.ok (.int (c / U)):=λ c=>if_pos ⟨jB,jC⟩;refine BF (I:=λ ρ=>∃s4 s5 s6:Option D,ρ=[some (.val (.lst (ns.map D.int))),some (.val (.int m)),some (.val (AQ m rs)),some (.val (.str x)),vO s4,vO s5,vO s6]) ?_ ?_
 ·simp_arith[jA];refine Jr (λ i ρ=>∃s4 s5 s6:Option D,ρ=[some (.val (.lst (ns.map D.int))),some (.val (.int m)),some (.val (AQ m rs)),some (.val (.str x)),vO s4,vO s5,vO s6]) ⟨none,none,none,rfl⟩ ?_ ?_
  ·rintro i d ρ hd ⟨s4,s5,s6,rfl⟩;obtain⟨ix,hi⟩:=EZ hd;rw[Int.zero_add] at ix;subst ix;obtain⟨u,⟨u0,u1⟩,hu⟩:=CD ns i;obtain⟨c,hc⟩:∃c,c=(u+(i:Int))*982451653%(Bg+7):=⟨_,rfl⟩;have t2:(2*Bg).natAbs<2^201:=by
    rw[Int.natAbs_mul,Nat.pow_succ];have h:=LD;generalize 2^200=P at h;show 2*_<P*2;omega
   have mu:H9 (.int (u+(i:Int))) (.int 982451653)=.ok (.int ((u+(i:Int))*982451653)):=Ju (k:=201) (l:=40) (Jv (j:=2*Bg) (by omega) (by omega) t2) (by decide) (by decide) (by decide);have fY:MN (.int Bg) (.int 7)=.ok (.int (Bg+7)):=rfl;have mx:CI (.int ((u+(i:Int))*982451653)) (.int (Bg+7))=.ok (.int c):=by rw[hc];exact KG
   obtain⟨y,ya,yl,hy⟩:=Es x c gj (by omega);obtain⟨z,za,zl,hz⟩:=Es y (c / U) ya (by omega);have k1:=Ce (.str y) (.inr ⟨y,rfl,ya,by omega⟩);have k2:=Ce (.str z) (.inr ⟨z,rfl,za,by omega⟩);refine⟨_,rfl,?_⟩;refine wp_step (ρ':=[some (.val (.lst (ns.map D.int))),some (.val (.int m)),some (.val (AQ m rs)),some (.val (.str x)),some (.val (.int (i:Int))),some (.val (.int c)),vO s6]) (by simp_arith[hu,mu,Gk,fY,mx];try rfl) ?_;refine wp_step (ρ':=[some (.val (.lst (ns.map D.int))),some (.val (.int m)),some (.val (AQ m rs)),some (.val (.str x)),some (.val (.int (i:Int))),some (.val (.int c)),some (.val (.str y))]) (by simp_arith[hy];try rfl) ?_;exact FD (ρ':=[some (.val (.lst (ns.map D.int))),some (.val (.int m)),some (.val (AQ m rs)),some (.val (.str x)),vO (some (.int (i:Int))),vO (some (.int c)),vO (some (.str y))]) (by simp_arith[k1,hU,dU,hz,k2,AI];try rfl) ⟨_,_,_,rfl⟩
  ·rintro ρ ⟨s4,s5,s6,rfl⟩;exact⟨s4,s5,s6,rfl⟩
 ·rintro ρ ⟨s4,s5,s6,rfl⟩;obtain⟨d,hd,ho⟩:=LZ w;have k1:=Ce d (.inl ho);have k2:=Ce (.str x) (.inr ⟨x,rfl,gj,by omega⟩);simp_arith[hw,hd,k1,k2,AI];rfl
noncomputable def Qf:List D->M D:=zu M0
theorem Uq {P w K mg base f fd}:Txt K mg->O6 K "law" "law" DM f fd->EU P w K mg base QP 7 f fd ["_law_script"] (Lo K 1 Qf):=(ze M0).1
theorem Ur:∀ns:List Int,ns.length<=63->(∀n∈ns,Sm n)->Qf [.lst (ns.map D.int)]=.ok (.bl true):=(ze M0).2
theorem all_mk {l:PySem.W.OpenLaw}{w:World}{K:zb}{h:Heap}{mg:Str->Option Value}{fa:Addr}(X:K.In h)(G:h.Ns mainGlobals mg)(jD:mg "law" = some (.ref fa))
 {gl:Addr} {gm eH:Option Addr} {gn:Array (Option Value)} {gp eI eJ eK d8 eL:Value} {a9:Addr} {bL:Addr} {b8:Addr} {aZ:Addr} {bM:Addr} {bi:Addr} {bj:Addr} {b9:Addr} {bN:Addr} {ac:Addr} {bO:Addr}
 (p1:FP K "is_whole_below" BR)
 (p2:FP K "is_measure" Du)
 (p3:FP K "is_road" G6)
 (p4:FP K "is_map" Hy)
 (p5:FP K "is_number" Eh)
 (p6:FP K "words_read" Dv)
 (p7:FP K "number_read" D1)
 (p8:FP K "length_read" D2)
 (p9:FP K "road_read" Ei)
 (gq:FP K "map_read" F2)
 (gr:FP K "_law_cell_at" D3)
 (gu:FP K "_law_length" Dw)
 (gw:FP K "_law_map" G8)
 (gx:FP K "_law_text" F5)
 (gy:FP K "_law_sign" F7)
 (gz:FP K "_law_spoiled" D4)
 (g0:FP K "_law_number" Dx)
 (gB:FP K "_law_road" F8)
 (gC:FP K "_law_due" G9)
 (gD:FP K "_law_odd" Ga)
 (gE:FP K "_law_asked" Ej)
 (fc:zd K mainGlobals "law" = some (some (.ref gl)))
 (gF:K.lookup gl=some ⟨gp,gm,.func (zS "law" "law" (AV DM) (AL DM) (A5 DM) .none eI eJ eK eH d8 eL),gn⟩) (gH:yg K d8 "law" = true) (gI:zY K (.ref gl)=true)
 (z1:zd K mainGlobals "ValueError" = some none)
 (z2:zd K mainGlobals "all" = some none)
 (z3:zd K mainGlobals "bool" = some none)
 (z4:zd K mainGlobals "int" = some none)
 (z5:zd K mainGlobals "isinstance" = some none)
 (z6:zd K mainGlobals "len" = some none)
 (z7:zd K mainGlobals "list" = some none)
 (z8:zd K mainGlobals "range" = some none)
 (z9:zd K mainGlobals "str" = some none)
 (gJ:zd K mainGlobals "tuple" = some none)
 (aH:zd K mainGlobals "LadderError" = some (some (.ref a9)))
 (bt:zd K mainGlobals "NoArc" = some (some (.ref bL)))
 (ba:zd K mainGlobals "NoDeed" = some (some (.ref b8)))
 (aM:zd K mainGlobals "NoLength" = some (some (.ref aZ)))
 (bu:zd K mainGlobals "NoMap" = some (some (.ref bM)))
 (aP:zd K mainGlobals "NoOrder" = some (some (.ref bi)))
 (aQ:zd K mainGlobals "NoPlace" = some (some (.ref bj)))
 (bb:zd K mainGlobals "NoRoad" = some (some (.ref b9)))
 (bv:zd K mainGlobals "NoRow" = some (some (.ref bN)))
 (ae:zd K mainGlobals "NoText" = some (some (.ref ac)))
 (bw:zd K mainGlobals "NoWay" = some (some (.ref bO)))
 (bc:PySem.W.excIn K ac [.type "ValueError",.type "Exception",.type "BaseException",.type "object"] "ValueError.__new__" = true)
 (aD:PySem.W.instIn K (.ref a9) (.type "tuple")=some false) (aE:yo K a9=true) (aF:yc K a9 (.type "BaseException")=some true) (aG:yc K ac (.ref a9)=some true)
 (af:zW K (.ref ac) "__getattribute__" = some (some (.builtin "BaseException.__getattribute__"))) (ag:zW K (.ref ac) "__getattr__" = some none) (ah:yc K ac (.type "BaseException")=some true) (ai:yo K ac=true) (aj:zW K (.ref ac) "__class__" = some (some (.builtin "object.__class__"))) (ak:PySem.W.specialIn K (.builtin "object.__class__") "__get__" = some (some (.builtin "getset_descriptor.__get__"))) (ao:PySem.W.takesIn K (.builtin "object.__class__")=some true) (aq:yc K ac (.type "object")=some true)
 (FN:zr K (.ref ac) (.ref bL)=some false)
 (Ek:zr K (.ref ac) (.ref b8)=some false)
 (Cw:zr K (.ref ac) (.ref aZ)=some false)
 (FO:zr K (.ref ac) (.ref bM)=some false)
 (De:zr K (.ref ac) (.ref bi)=some false)
 (Df:zr K (.ref ac) (.ref bj)=some false)
 (El:zr K (.ref ac) (.ref b9)=some false)
 (FQ:zr K (.ref ac) (.ref bN)=some false)
 (Em:zr K (.ref ac) (.ref ac)=some true)
 (FR:zr K (.ref ac) (.ref bO)=some false)
 (BH:zr K (.ref ac) (.type "ValueError")=some true):
 ∃fd:FuncData,(∀(s:Shared) (v:Value),BindsTo s fd ⟨[v],[]⟩ [("_law_script",v)])/\∀base:Heap,K.In base->base.Ns mainGlobals mg->EU l.prog w K mg base QP 7 fa fd ["_law_script"] (Lo K 1 Qf):=by
 have e:=jD.symm.trans (zT X G fc);cases e;have gK:=Lk (st:=DM) gF gH gI;have jE:AZ K mg "law" DM ["_law_script"]:=⟨_,_,gK,zT X G fc,gK.binds (λ _ _ _ _ _ _=>W5 λ _=>rfl)⟩;have T:Txt K mg:=⟨Bj X G p1,Bj X G p2,Bj X G p3,Bj X G p4,Bj X G p5,Bj X G p6,Bj X G p7,Bj X G p8,Bj X G p9,Bj X G gq,Bj X G gr,Bj X G gu,Bj X G gw,Bj X G gx,Bj X G gy,Bj X G gz,Bj X G g0,Bj X G gB,Bj X G gC,Bj X G gD,Bj X G gE,jE,zV X G z1,zV X G z2,zV X G z3,zV X G z4,zV X G z5,zV X G z6,zV X G z7,zV X G z8,zV X G z9,zV X G gJ,⟨_,ae,zT X G ae,bc⟩,⟨_,_,zT X G aH,ae,OC aD aE aF aG⟩,⟨_,_,zT X G bt,ae,FN,BE af ag ai aj ak ao aq ah⟩,⟨_,_,zT X G ba,ae,Ek,BE af ag ai aj ak ao aq ah⟩,⟨_,_,zT X G aM,ae,Cw,BE af ag ai aj ak ao aq ah⟩,⟨_,_,zT X G bu,ae,FO,BE af ag ai aj ak ao aq ah⟩,⟨_,_,zT X G aP,ae,De,BE af ag ai aj ak ao aq ah⟩,⟨_,_,zT X G aQ,ae,Df,BE af ag ai aj ak ao aq ah⟩,⟨_,_,zT X G bb,ae,El,BE af ag ai aj ak ao aq ah⟩,⟨_,_,zT X G bv,ae,FQ,BE af ag ai aj ak ao aq ah⟩,⟨_,_,zT X G ae,ae,Em,BE af ag ai aj ak ao aq ah⟩,⟨_,_,zT X G bw,ae,FR,BE af ag ai aj ak ao aq ah⟩,⟨_,ae,BH,BE af ag ai aj ak ao aq ah⟩⟩;refine⟨zS "law" "law" (AV DM) (AL DM) (A5 DM) .none eI eJ eK eH d8 eL,λ s v=>.of_eq rfl,λ base _ _=>?_⟩;exact Uq T gK
set_option maxHeartbeats 0 in
set_option maxHeartbeats 0 in
set_option maxHeartbeats 0 in
set_option maxHeartbeats 0 in
theorem left (w:World):(PySem.W.openEnds treeTable PySem.Challenge.pw_nodeladder_k82_texts_refused w 6100).map (λ s=>PySem.W.openSeen (BM PySem.Challenge.pw_nodeladder_k82_texts_refused) [] (importedModules PySem.Challenge.pw_nodeladder_k82_texts_refused.main.body) (λ s=>PySem.W.xlAt (BM PySem.Challenge.pw_nodeladder_k82_texts_refused) [] s&&PySem.W.recOk [] s) true s)=some (PySem.W.openGood (BM PySem.Challenge.pw_nodeladder_k82_texts_refused) []):=by
 rw[Ml,TU,PySem.W.Fast.te4187177175401517315,PySem.W.Fast.te5923862056798008813,PySem.W.Fast.te5314875232667859767];exact Jt (UA w) (Jt (UB w) (Jt (UC w) (UD w)))
set_option maxHeartbeats 0 in
theorem Us (w:World):NF (Kp R0 PySem.Challenge.pw_nodeladder_k82_texts_refused w) PySem.Challenge.pw_nodeladder_k82_texts_refused:=by
 rw[TU,PySem.W.Fast.te5314875232667859767];exact Qi w
set_option maxHeartbeats 0 in
theorem Ut (w:World):NG (Kp R0 PySem.Challenge.pw_nodeladder_k82_texts_refused w) PySem.Challenge.pw_nodeladder_k82_texts_refused:=by
 rw[TU,PySem.W.Fast.te5314875232667859767];exact Qj w
theorem walk {l:PySem.W.OpenLaw}{q:Program}{loose:List Str}{XP:(Str->Option Value)->Heap->Prop}{YP:World->Heap->Prop}{d:DefRec}{K:World->zb}(hn:l.most=some 63)(cJ:d.params.defaults=[])
 (hY:∀(w:World) (h:Heap),YP w h->(K w).In h)
 (F:∀(w:World) (mg:Str->Option Value) (fa:Addr) (h:Heap),(K w).In h->h.Ns mainGlobals mg->mg d.name=some (.ref fa)->
  ∃fd:FuncData,(∀(s:Shared) (u:Value),BindsTo s fd ⟨[u],[]⟩ [("_law_script",u)])/\∀base:Heap,(K w).In base->base.Ns mainGlobals mg->EU l.prog w (K w) mg base QP 7 fa fd ["_law_script"] (Lo (K w) 1 Qf)):
 PySem.W.WalkO q loose XP YP l.row.toRowW d [] (λ f vs=>PySem.call f vs):=
 L2.VL (n:=63) (k:=7) (x := "_law_script") (CX:=λ _=>QP) (sp:=λ w=>Lo (K w) 1 Qf) hn (by decide) cJ ⟨rfl,by decide,by decide⟩ hY F (λ w H a ns cS hl _ hS=>Rh Ur (K w) H a ns cS hl hS) λ _ _ _ _ _ z=>z
end c9
open PySem PySem.W PyProof.Rows L2
set_option maxRecDepth 100000 in
set_option maxHeartbeats 0 in
theorem PySem.Challenge.cw_nodeladder_k82_texts_refused_holds : PySem.Challenge.rw_nodeladder_k82_texts_refused.Holds := by
 w_on;o_law
 refine holds_open (q:=BM PySem.Challenge.pw_nodeladder_k82_texts_refused) (loose:=[]) (Xt:=λ s=>xlAt (BM PySem.Challenge.pw_nodeladder_k82_texts_refused) [] s&&recOk [] s) (XP:=XL (BM PySem.Challenge.pw_nodeladder_k82_texts_refused) []) (Yf:=λ s=>s.heap) (Ya:=λ w=>NE R0 PySem.Challenge.pw_nodeladder_k82_texts_refused w 6100) (YP:=λ w h=>VJ (NE R0 PySem.Challenge.pw_nodeladder_k82_texts_refused w 6100) h) (N:=6100) (RM c9.left) (λ w s e b o q=>by rw[<-e] at q;exact q) (λ w h h' a b c o q=>b c o (a c o q)) (λ s e=>xl_of s (Bool.and_eq_true_iff.mp e).1) XL.keeps (by rfl) (by rfl) (by rfl) (λ s e=>recFacts_of (Bool.and_eq_true_iff.mp e).2) (by rfl) (by first|assumption|decide +kernel) (by decide +kernel) ⟨rfl,rfl,rfl,rfl,rfl,by decide +kernel⟩ ?hw ?hc;case hw=>w_witness2
 case hc =>
  refine c9.walk (l:=PySem.Challenge.rw_nodeladder_k82_texts_refused) (K:=c9.Kp R0 PySem.Challenge.pw_nodeladder_k82_texts_refused) rfl rfl (λ w h Y=>TV Y) ?F;intro w mg fa h KX G dq;obtain⟨p1,p2,p3,p4,p5,p6,p7,p8,p9,gq,gr,gu,gw,gx,gy,gz,g0,gB,gC,gD,gE,fc,gF,gH,gI,z1,z2,z3,z4,z5,z6,z7,z8,z9,gJ⟩:=c9.Us w;obtain⟨aH,bt,ba,aM,bu,aP,aQ,bb,bv,ae,bw,bc,aD,aE,aF,aG,af,ag,ah,ai,aj,ak,ao,aq,FN,Ek,Cw,FO,De,Df,El,FQ,Em,FR,BH⟩:=c9.Ut w;exact c9.all_mk KX G dq p1 p2 p3 p4 p5 p6 p7 p8 p9 gq gr gu gw gx gy gz g0 gB gC gD gE fc gF gH gI z1 z2 z3 z4 z5 z6 z7 z8 z9 gJ aH bt ba aM bu aP aQ bb bv ae bw bc aD aE aF aG af ag ah ai aj ak ao aq FN Ek Cw FO De Df El FQ Em FR BH
