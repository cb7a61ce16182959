import PyProof.Rows.All
import Wide.All
import OpenK.AllK
import Wide.FinOn
import Lean
import PyProof.EqAt
import PyProof.EqKinds
import PyProof.TupleCall
import PyProof.NeKinds
import KE.KRevSl
import KE.KIsAll
import PyProof.ExcArgsOwn
import PyProof.ExcAttrAll.ValueError
import PyProof.ExcBaseAll.ValueError
import PyProof.FitsBits
import KE.LcSums
import KE.KRevIter
import PyProof.ListRange
import PyProof.Rows.SumAny
import PyProof.Rows.SortWalk
import PyProof.AttrMissHeap
import KE.KDictOf
import PyProof.ZipIter
import PyProof.DictWalks
import KE.KDictList
import KE.KFind
import PySem.Challenge.RW_nodeladder_k23_middles_lowest
set_option Elab.async false
set_option linter.all false
set_option maxRecDepth 1000000
open PySem.W renaming Frag→za,nsIn→zg,fnOf→zO,keepIn→zP,mg_none_of→zU,codeIn→yb,hideAll_get→yf,kia_one→yl
open List renaming mem_cons_self→zb,mem_cons_of_mem→zd,mem_append_right→ze,length_map→zf,map_cons→zh,mem_of_getElem?→zi,mem_singleton→zj,mem_cons→zk,size_toArray→zo,length_cons→zp,getElem?_eq_getElem→zr,mem_append_left→zx,set_cons_succ→zy,mem_append→zC,getElem?_eq_some_iff→zD,nodup_append→zE,getElem?_map→zF,getElem?_set_self→zI,getElem?_cons_succ→zK,set_cons_zero→zL,nodup_cons→zR,map_append→zS,length_append→zV,take_of_length_le→zX,getElem?_append_left→zZ,getElem?_set_ne→yc,getElem?_append_right→yg,take_length→yh,length_take→yi,nodup_nil→yk,append_nil→ym,length_singleton→yr,foldl_cons→yt,find?_cons→yu,take_add_one→yx,range→yy,any_cons→yz,drop_eq_getElem_cons→y2,length_drop→y6,drop_length→y7,cons_append→y8
open Classical renaming choose_spec→zc,choose→zv
open PySem.Heap renaming lt_size→zl,get?_push_of_some→zq,get?_push_size→zH
open Nat renaming le_refl→zm,lt_of_lt_of_le→zt,ne_of_lt→zB,zero_le→zT,le_trans→zW,le_of_lt→yw
open Bool renaming false_eq_true→zu,false_ne_true→zA,and_eq_true→zJ,eq_iff_iff→yv
open Option.some renaming inj→zw
open Prod renaming fst→zG,snd→yj
open Or renaming inl→zM
open PySem.Builtin.Int renaming intBits→zN
open Ne renaming symm→zQ
open Option renaming map_some→zY,isSome_some→ya,isSome_iff_exists→y4
open PySem.W.Fast renaming tw5923862056798008813→yd,tw4187177175401517315→ye
open Int renaming emod_nonneg→yn
open PyProof.Rows renaming callWith_type1→yo
open PySem.Value renaming ref→yp
open PySem.NameKind renaming free→yq
open PySem renaming mem_of_lookup→y3
open ForInStep renaming yield→y9
section
set_option maxHeartbeats 0
namespace L2
open PySem PySem.Spec PyProof.Rows PySem.W PySem.Calls
noncomputable def AV (s:Stmt):Arguments:=match s with
 | .FunctionDef _ a _ _ _ _ _ _ _ _=>a
 |_=>{posonlyargs:=[],args:=[],vararg:=none,kwonlyargs:=[],kw_defaults:=[],kwarg:=none,defaults:=[]}
noncomputable def AB (s:Stmt):List Stmt:=match s with
 | .FunctionDef _ _ b _ _ _ _ _ _ _=>b
 |_=>[]
noncomputable def A4 (s:Stmt):Scope:=match s with
 | .FunctionDef _ _ _ _ _ _ sc _ _ _=>sc
 |_=>{kind:=.function,names:=[],isGenerator:=false,isCoroutine:=false}
structure FP (K:za)(x:Str)(st:Stmt):Prop where
 ex:∃(f:Addr) (oc:Value) (od an:Option Addr) (sl:Array (Option Value)) (kV dc pm cd ct:Value),zg K mainGlobals x=some (some (.ref f))/\K.lookup f=some ⟨oc,od,.func (zO x x (AV st) (AB st) (A4 st) .none kV dc pm an cd ct),sl⟩/\yb K cd x=true/\zP K (.ref f)=true
theorem V7 {K:za}{x:Str}{st:Stmt}{f:Addr}{oc:Value}{od an:Option Addr}{sl:Array (Option Value)}{kV dc pm cd ct:Value}(a:zg K mainGlobals x=some (some (.ref f)))(l:K.lookup f=some ⟨oc,od,.func (zO x x (AV st) (AB st) (A4 st) .none kV dc pm an cd ct),sl⟩)(c:yb K cd x=true)(k:zP K (.ref f)=true):FP K x st:=⟨⟨f,oc,od,an,sl,kV,dc,pm,cd,ct,a,l,c,k⟩⟩
structure MP (K:za)(C:Addr)(m qual:Str)(st:Stmt):Prop where
 ex:∃(f:Addr) (oc:Value) (od an:Option Addr) (sl:Array (Option Value)) (kV dc pm cd ct:Value),PySem.W.findIn K (.ref C) m=some (some (.ref f))/\PySem.W.isFn K (.ref f)=true/\K.lookup f=some ⟨oc,od,.func (zO m qual (AV st) (AB st) (A4 st) .none kV dc pm an cd ct),sl⟩/\yb K cd qual=true/\zP K (.ref f)=true
theorem XC {K:za}{C:Addr}{m qual:Str}{st:Stmt}{f:Addr}{oc:Value}{od an:Option Addr}{sl:Array (Option Value)}{kV dc pm cd ct:Value}(a:PySem.W.findIn K (.ref C) m=some (some (.ref f)))(i:PySem.W.isFn K (.ref f)=true)(l:K.lookup f=some ⟨oc,od,.func (zO m qual (AV st) (AB st) (A4 st) .none kV dc pm an cd ct),sl⟩)(c:yb K cd qual=true)(k:zP K (.ref f)=true):MP K C m qual st:=⟨⟨f,oc,od,an,sl,kV,dc,pm,cd,ct,a,i,l,c,k⟩⟩
noncomputable def BA (p:Program):Program:={p with main:={p.main with body:=p.main.body.filter λ s=>match s with | .FunctionDef .. =>true | .ClassDef .. =>true | _=>false} }
structure Rn where
 run:(String->Option Builtin)->Program->World->Nat->Option Value->Nat->Shared->Thread->Option Shared
 ns:Heap->Addr->Str->Option Value
 imp:(String->Option Builtin)->Program->World->Nat->Shared->Thread->Option Shared
 Y0:Program->Shared->Option Shared
 st:Program->Shared×Thread
 tb:String->Option Builtin
noncomputable def Gk (R:Rn)(p:Program)(w:World)(N:Nat):Option Shared:=
 ((R.imp R.tb (opening p) w N (R.st (opening p)).fst (R.st (opening p)).snd).bind (R.Y0 p)).bind λ s₀ =>
 match s₀.heap.isNs mainGlobals&&s₀.gens.size==0 with
 |true=>(R.run R.tb p w s₀.heap.objs.size (R.ns s₀.heap mainGlobals (Str.ofString "__annotations__")) N s₀ (topStub p)).bind λ s₁ =>
  match staticsOk (importedModules p.main.body) s₀.heap s₁.heap&&namesBound p s₁.heap&&gensDone s₁&&laidKept s₀.heap s₁.heap with
  |true=>some s₁
  |false=>none
 |false=>none
noncomputable def R1:Rn:=⟨PySem.W.Fast.tw14082659384304107361,PySem.W.Fast.tw8920871248978507458,PySem.W.Fast.tw10274390034422433532,PySem.W.Fast.tw14289696077712309145,PySem.W.Fast.tw1435165496053646825,PySem.W.Fast.tw14364793385576792824⟩
noncomputable def Oa (R:Rn)(p:Program)(w:World)(N:Nat):Heap:=match Gk R p w N with | some s=>s.heap | none=>⟨#[],default⟩
noncomputable def Ws (h:Heap)(as:List Addr):za:=as.filterMap λ a=>(h.get? a).map λ o=>(a,o)
noncomputable def FI (v:Option (Option Value)):Addr:=match v with | some (some (.ref f))=>f | _=>0
noncomputable def IE (K:za)(f:Addr):Obj:=(K.lookup f).getD ⟨.none,none,.plain,#[]⟩
noncomputable def Mv (d:Data)(st:Stmt):FuncData:=match d with | .func fd=>fd | _=>zO Str.empty Str.empty (AV st) [] (A4 st) .none .none .none .none none .none .none
theorem AL {K:za}{x:Str}{st:Stmt}(a:zg K mainGlobals x=some (some (.ref (FI (zg K mainGlobals x)))):=by kernel_rfl)
 (l:K.lookup (FI (zg K mainGlobals x))=some ⟨(IE K (FI (zg K mainGlobals x))).cls,(IE K (FI (zg K mainGlobals x))).dict,.func (zO x x (AV st) (AB st) (A4 st) .none (Mv (IE K (FI (zg K mainGlobals x))).data st).kwdefaults (Mv (IE K (FI (zg K mainGlobals x))).data st).doc (Mv (IE K (FI (zg K mainGlobals x))).data st).pyModule (Mv (IE K (FI (zg K mainGlobals x))).data st).annotations (Mv (IE K (FI (zg K mainGlobals x))).data st).code (Mv (IE K (FI (zg K mainGlobals x))).data st).closureTuple),(IE K (FI (zg K mainGlobals x))).slots⟩:=by kernel_rfl)
 (c:yb K (Mv (IE K (FI (zg K mainGlobals x))).data st).code x=true:=by kernel_rfl) (k:zP K (.ref (FI (zg K mainGlobals x)))=true:=by kernel_rfl):FP K x st:=V7 a l c k
end L2
namespace bj
open PySem L2
theorem prim:(PySem.W.chainsOk PySem.Challenge.pw_nodeladder_k23_middles_lowest||true)=true:=by k_qdec
theorem V8 (w:World):(Gk R1 PySem.W.Fast.tw5403354039363784261 w 6100).map (λ s=>(ye (BA PySem.W.Fast.tw5403354039363784261) [] (yd PySem.W.Fast.tw5403354039363784261.main.body) (λ s=>PySem.W.xlAt (BA PySem.W.Fast.tw5403354039363784261) [] s&&PySem.W.recOk [] s) true s).1)=some (PySem.W.openGood (BA PySem.W.Fast.tw5403354039363784261) []).1:=by kernel_rfl
theorem V9 (w:World):(Gk R1 PySem.W.Fast.tw5403354039363784261 w 6100).map (λ s=>(ye (BA PySem.W.Fast.tw5403354039363784261) [] (yd PySem.W.Fast.tw5403354039363784261.main.body) (λ s=>PySem.W.xlAt (BA PySem.W.Fast.tw5403354039363784261) [] s&&PySem.W.recOk [] s) true s).2.1)=some (PySem.W.openGood (BA PySem.W.Fast.tw5403354039363784261) []).2.1:=by kernel_rfl
theorem Va (w:World):(Gk R1 PySem.W.Fast.tw5403354039363784261 w 6100).map (λ s=>(ye (BA PySem.W.Fast.tw5403354039363784261) [] (yd PySem.W.Fast.tw5403354039363784261.main.body) (λ s=>PySem.W.xlAt (BA PySem.W.Fast.tw5403354039363784261) [] s&&PySem.W.recOk [] s) true s).2.2.1)=some (PySem.W.openGood (BA PySem.W.Fast.tw5403354039363784261) []).2.2.1:=by kernel_rfl
theorem Vb (w:World):(Gk R1 PySem.W.Fast.tw5403354039363784261 w 6100).map (λ s=>(ye (BA PySem.W.Fast.tw5403354039363784261) [] (yd PySem.W.Fast.tw5403354039363784261.main.body) (λ s=>PySem.W.xlAt (BA PySem.W.Fast.tw5403354039363784261) [] s&&PySem.W.recOk [] s) true s).2.2.2)=some (PySem.W.openGood (BA PySem.W.Fast.tw5403354039363784261) []).2.2.2:=by kernel_rfl
noncomputable def topP (p:Program)(i:Nat):Stmt:=p.main.body.getD i (.Pass ⟨0,0,0,0⟩)
noncomputable def Kp (R:Rn)(p:Program)(w:World):za:=Ws (Oa R p w 6100) (yy 440)
def Ob (K:za)(p:Program):Prop:=
 (FP K "added" (topP p 1))/\
 (FP K "road_cost" (topP p 2))/\
 (FP K "cost_so_far" (topP p 4))/\
 (FP K "lay" (topP p 5))/\
 (FP K "lay_over" (topP p 6))/\
 (FP K "laid_arcs" (topP p 7))/\
 (FP K "middles" (topP p 8))/\
 (FP K "_law_mixed" (topP p 10))/\
 (FP K "_law_road" (topP p 11))/\
 (FP K "_law_map" (topP p 12))/\
 (FP K "_law_order" (topP p 13))/\
 (FP K "_law_least" (topP p 14))/\
 (FP K "_law_costs" (topP p 15))/\
 (FP K "_law_arcs" (topP p 16))/\
 (FP K "_law_by_road" (topP p 17))
theorem QH (w:World):Ob (Kp R1 PySem.W.Fast.tw5403354039363784261 w) PySem.W.Fast.tw5403354039363784261:=
 ⟨AL,AL,AL,AL,AL,AL,AL,AL,AL,AL,AL,AL,AL,AL,AL⟩
def Oc (K:za)(p:Program):Prop:=
 (FP K "_law_middle" (topP p 18))/\
 (FP K "_law_right" (topP p 19))/\
 (zg K mainGlobals "law" = some (some (.ref (FI (zg K mainGlobals "law")))))/\
 (K.lookup (FI (zg K mainGlobals "law"))=some ⟨(IE K (FI (zg K mainGlobals "law"))).cls,(IE K (FI (zg K mainGlobals "law"))).dict,.func (zO "law" "law" (AV (topP p 20)) (AB (topP p 20)) (A4 (topP p 20)) .none (Mv (IE K (FI (zg K mainGlobals "law"))).data (topP p 20)).kwdefaults (Mv (IE K (FI (zg K mainGlobals "law"))).data (topP p 20)).doc (Mv (IE K (FI (zg K mainGlobals "law"))).data (topP p 20)).pyModule (Mv (IE K (FI (zg K mainGlobals "law"))).data (topP p 20)).annotations (Mv (IE K (FI (zg K mainGlobals "law"))).data (topP p 20)).code (Mv (IE K (FI (zg K mainGlobals "law"))).data (topP p 20)).closureTuple),(IE K (FI (zg K mainGlobals "law"))).slots⟩)/\
 (yb K (Mv (IE K (FI (zg K mainGlobals "law"))).data (topP p 20)).code "law" = true)/\
 (zP K (.ref (FI (zg K mainGlobals "law")))=true)/\
 (zg K mainGlobals "bool" = some none)/\
 (zg K mainGlobals "dict" = some none)/\
 (zg K mainGlobals "enumerate" = some none)/\
 (zg K mainGlobals "isinstance" = some none)/\
 (zg K mainGlobals "len" = some none)/\
 (zg K mainGlobals "list" = some none)/\
 (zg K mainGlobals "min" = some none)/\
 (zg K mainGlobals "range" = some none)/\
 (zg K mainGlobals "sum" = some none)
theorem QI (w:World):Oc (Kp R1 PySem.W.Fast.tw5403354039363784261 w) PySem.W.Fast.tw5403354039363784261:=
 ⟨AL,AL,by kernel_rfl,by kernel_rfl,by kernel_rfl,by kernel_rfl,by kernel_rfl,by kernel_rfl,by kernel_rfl,by kernel_rfl,by kernel_rfl,by kernel_rfl,by kernel_rfl,by kernel_rfl,by kernel_rfl⟩
end bj
end
set_option Elab.async false
set_option linter.all false
set_option maxRecDepth 100000
namespace L2
open PySem PySem.Spec PyProof.Rows
noncomputable abbrev Key:=Sum Int Str
noncomputable def IF:Key->Value->Bool
 | .inl k,v=>Value.isInt k v
 | .inr x,v=>Value.isStrOf x v
noncomputable def WL (w:World):Key->Int
 | .inl k=>hashInt k
 | .inr x=>hashStr w x
theorem AM:∀ {k:Key}{v:Value},IF k v=true->(∃i t,k=Sum.inl i/\v=Value.int i t)\/(∃x t,k=Sum.inr x/\v=Value.str x t)
 | .inl i,v,h=>by
  obtain⟨t,e⟩:=Value.isInt_shape (k:=i) (v:=v) h;exact .inl ⟨i,t,rfl,e⟩
 | .inr x,v,h=>by
  obtain⟨t,e⟩:=Value.isStrOf_shape (x:=x) (v:=v) h;exact .inr ⟨x,t,rfl,e⟩
theorem Na (i:Int)(t:Tok):IF (.inl i) (.int i t)=true:=by simp[IF,Value.isInt]
theorem Nb (x:Str)(t:Tok):IF (.inr x) (.str x t)=true:=by simp[IF,Value.isStrOf]
theorem SG (a b:Int):decide ((Sum.inl a:Key)=Sum.inl b)=(a==b):=by
 by_cases e:a=b
 ·subst e;simp
 ·have h:¬ (Sum.inl a:Key)=Sum.inl b:=λ q=>e (Sum.inl.inj q);rw[decide_eq_false h];exact (beq_eq_false_iff_ne.mpr e).symm
theorem SH (a b:Str):decide ((Sum.inr a:Key)=Sum.inr b)=decide (a=b):=by
 by_cases e:a=b
 ·subst e;simp
 ·have h:¬ (Sum.inr a:Key)=Sum.inr b:=λ q=>e (Sum.inr.inj q);rw[decide_eq_false h,decide_eq_false e]
theorem SI (a:Int)(b:Str):decide ((Sum.inl a:Key)=Sum.inr b)=false:=decide_eq_false (λ q=>nomatch q)
theorem SJ (a:Str)(b:Int):decide ((Sum.inr a:Key)=Sum.inl b)=false:=decide_eq_false (λ q=>nomatch q)
noncomputable def AH (prog:Program)(w:World):PySem.KeyKind prog w Key where
 is:=IF
 hash:=WL w
 inj:=λ v a b ha hb=>by
  rcases AM ha with ⟨i,t,rfl,rfl⟩|⟨x,t,rfl,rfl⟩
  ·rcases AM hb with ⟨j,u,rfl,e⟩|⟨y,u,rfl,e⟩
   ·injection e with e1 _;rw[e1]
   ·exact nomatch e
  ·rcases AM hb with ⟨j,u,rfl,e⟩|⟨y,u,rfl,e⟩
   ·exact nomatch e
   ·injection e with e1 _;rw[e1]
 byValue:=λ k v h=>by
  rcases AM h with ⟨i,t,rfl,rfl⟩|⟨x,t,rfl,rfl⟩<;>rfl
 pyHash:=λ hv h=>by
  rcases AM hv with ⟨i,t,rfl,rfl⟩|⟨x,t,rfl,rfl⟩
  ·exact wpAny_pyHash_int h
  ·exact wpAny_pyHash_str h
 eqBool:=λ hu hv h=>by
  rcases AM hu with ⟨i,t,rfl,rfl⟩|⟨x,t,rfl,rfl⟩
  ·rcases AM hv with ⟨j,u,rfl,rfl⟩|⟨y,u,rfl,rfl⟩
   ·rw[SG] at h;exact wpAny_eqBool_int h
   ·rw[SI] at h;exact SeqAt.EqAt.int_str i t y u _ _ _ _ h
  ·rcases AM hv with ⟨j,u,rfl,rfl⟩|⟨y,u,rfl,rfl⟩
   ·rw[SJ] at h;exact SeqAt.EqAt.str_int x t j u _ _ _ _ h
   ·rw[SH] at h;exact wpAny_eqBool_str h
 «strs»:=λ k x t v h=>by
  rcases AM h with ⟨i,u,rfl,e⟩|⟨y,u,rfl,e⟩
  ·exact nomatch e
  ·injection e with e1 _
   subst e1;cases v<;>rfl
theorem Kn (prog:Program)(w:World)(i:Int)(t:Tok):(AH prog w).is (.inl i) (.int i t)=true:=Na i t
theorem Ko (prog:Program)(w:World)(x:Str)(t:Tok):(AH prog w).is (.inr x) (.str x t)=true:=Nb x t
inductive V where
 |Ax|bl (b:Bool)|int (i:Int)|str (x:Str)|UX (b:Array UInt8)|Wt (b:UInt64)|ref (a:Addr)|ty (n:String)
 deriving DecidableEq
def RelV:V->Value->Prop
 | .Ax,u=>u=Value.none
 | .bl b,u=>u=Value.bool b
 | .int i,u=>∃t,u=Value.int i t
 | .str x,u=>∃t,u=Value.str x t
 | .UX b,u=>∃t,u=Value.bytes b t
 | .Wt b,u=>∃t,u=Value.float b t
 | .ref a,u=>u=yp a
 | .ty n,u=>u=Value.type n
noncomputable abbrev Vals:List V->List Value->Prop:=Paired RelV
theorem Vals.length {xs:List V}{us:List Value}(r:Vals xs us):xs.length=us.length:=Paired.length r
theorem Vals.get:∀ {xs:List V}{us:List Value}{i:Nat}{x:V},Vals xs us->xs[i]?=some x->∃u,us[i]?=some u/\RelV x u
 |_,_,_,_,.nil,e=>by simp at e
 |_,_,0,_,.cons r _,e=>by simp at e;subst e;exact⟨_,rfl,r⟩
 |_,_,i+1,x,.cons _ t,e=>by
  obtain⟨u,h1,h2⟩:=Vals.get (i:=i) (x:=x) t (by simpa using e);exact⟨u,by simpa using h1,h2⟩
theorem Vals.append:∀ {xs ys:List V}{us ws:List Value},Vals xs us->Vals ys ws->Vals (xs++ys) (us++ws)
 |_,_,_,_,.nil,s=>s
 |_,_,_,_,.cons r t,s=>.cons r (Vals.append t s)
theorem Vals.take:∀ {xs:List V}{us:List Value}(n:Nat),Vals xs us->Vals (xs.take n) (us.take n)
 |_,_,0,_|_,_,_+1,.nil=>.nil
 |_,_,n+1,.cons r t=>.cons r (Vals.take n t)
theorem Vals.drop:∀ {xs:List V}{us:List Value}(n:Nat),Vals xs us->Vals (xs.drop n) (us.drop n)
 |_,_,0,r=>r
 |_,_,_+1,.nil=>.nil
 |_,_,n+1,.cons _ t=>Vals.drop n t
def Im:Option V->Option Value->Prop
 |some v,some u=>RelV v u
 |none,none=>True
 |_,_=>False
def KV {κ:Type}:List (κ×V)->List (κ×Value)->Prop:=Paired λ(p:κ×V) (q:κ×Value)=>p.1=q.1/\RelV p.2 q.2
noncomputable def kV:Key->V
 | .inl i=>.int i
 | .inr x=>.str x
inductive HO where
 |lst (xs:List V)
 |tup (xs:List V)
 |dK (kvs:List (Key×V))|dT (kvs:List (List Key×V))
 |set (S:Int->Bool) (n:Nat)
 |ins (C dx:Addr) (fs:List (Str×V))
 |own (x:Addr)
 |xd (fs:List (Str×V))
 |met (f x:Addr)
 |Wu (lo hi:Int)
 |Cm (o:Obj) (u:HO)
 |S9 (ps:Array Value)
 |ext (φ:Heap->Prop)
noncomputable abbrev Hp:=Addr->Option HO
noncomputable def upd (H:Hp)(a:Addr)(o:HO):Hp:=λ b=>if b=a then some o else H b
theorem Ad {H:Hp}{a:Addr}{o:HO}:upd H a o a=some o:=by unfold upd;rw[if_pos rfl]
theorem A5 {H:Hp}{a b:Addr}{o:HO}(h:b≠a):upd H a o b=H b:=by unfold upd;rw[if_neg h]
theorem Vc {H:Hp}{a b:Addr}{o u:HO}(h:H a=some o)(h':H b=some u)(d:o≠u):a≠b:=by
 intro e;subst e;rw[h] at h';exact d (zw h')
theorem Aw {H:Hp}{a b:Addr}{o:HO}(h:H a=some o)(h':H b=none):a≠b:=by
 intro e;subst e;rw[h] at h';cases h'
section
variable (P:Program) (w:World)
def AF (H:Hp)(h:Heap)(a:Addr):HO->Prop
 | .lst xs=>xs.length<=sizeLine/\∃(aa:List Value) (n:Nat),Vals xs aa/\h.get? a=some {cls:=.type "list",data:=.seq aa.toArray n}
 | .tup xs=>xs.length<=sizeLine/\∃aa:List Value,Vals xs aa/\IsTup h a aa.toArray
 | .dK kvs=>kvs.length<=sizeLine/\(a==sysModules)=false/\∃vs,KV kvs vs/\h.DictOf (AH P w) a vs
 | .dT kvs=>kvs.length<=sizeLine/\(a==sysModules)=false/\∃xs:List (List Key×Addr×Value),
  Paired (λ(p:List Key×V) (q:List Key×Addr×Value)=>p.1=q.1/\H q.2.1=some (.tup (p.1.map kV))/\RelV p.2 q.2.2) kvs xs/\
  ∃o es ep,h.get? a=some o/\o.ExactDict/\o.data=.dict es ep/\es.toList=xs.map (entryOfKey (tupleKind (AH P w)))/\(xs.map (·.1)).Nodup
 | .set S n=>h.SetOf (intKind P w) a S n
 | .ins C dx fs=>H dx=some (.own a)/\fs.length<=1000/\dx≠a/\h.get? a=some (PySem.W.instObj C dx)/\
  ∃mA,h.Ns1 dx mA/\(∀f,Im (fs.lookup f) (mA f))/\PySem.Within mA (fs.map (·.1))
 | .own _=>∃o,h.get? a=some o
 | .xd fs=>∃mA,h.Ns1 a mA/\∀f,Im (fs.lookup f) (mA f)
 | .Wu lo hi=>∃t u v,h.get? a=some {cls:=.type "range",data:=.fields #[.int lo t,.int hi u,.int 1 v]}
 | .Cm o u=>h.get? a=some o/\AF H h a u
 | .S9 ps=>h.get? a=some {cls:=.none,data:=.fields ps}
 | .met f x=>h.get? a=some (PySem.W.methodObj (.ref f) (.ref x))
 | .ext φ=>φ h/\(∃o,h.get? a=some o)/\∀h1 h2:Heap,φ h1->(∀o,h1.get? a=some o->h2.get? a=some o)->φ h2
def CD (H:Hp)(h:Heap):Prop:=∀a o,H a=some o->AF P w H h a o
end
section
variable {P:Program}{w:World}{H H':Hp}{h h':Heap}{a:Addr}{o:HO}
theorem AF.lt (x:AF P w H h a o):a<h.objs.size:=by
 cases o with
 |lst xs=>obtain⟨_,_,_,_,e⟩:=x;exact zl e
 |tup xs=>obtain⟨_,_,_,p⟩:=x;exact p.lt
 |dK kvs|dT kvs=>obtain⟨_,_,_,_,o,_,_,e,_⟩:=x;exact zl e
 |set S n=>obtain⟨o,_,_,_,e,_⟩:=x;exact zl e
 |ins C dx fs=>obtain⟨_,_,_,e,_⟩:=x;exact zl e
 |own y=>obtain⟨_,e⟩:=x;exact zl e
 |xd fs=>obtain⟨_,⟨_,_,_,e,_⟩,_⟩:=x;exact zl e
 |Wu lo hi=>obtain⟨_,_,_,e⟩:=x;exact zl e
 |Cm ob u=>obtain⟨e,_⟩:=x;exact zl e
 |S9 ps|met f y=>exact zl (show h.get? a=some _ from x)
 |ext φ=>obtain⟨_,⟨_,e⟩,_⟩:=x;exact zl e
theorem Paired.QJ {α β:Type}{F G:α->β->Prop}:∀ {l₁:List α}{l₂:List β},Paired F l₁ l₂->(∀a b,F a b->G a b)->Paired G l₁ l₂
 |_,_,.nil,_=>.nil
 |_,_,.cons r t,f=>.cons (f _ _ r) (Paired.QJ t f)
theorem AF.Gm (x:AF P w H h a o)(k:∀b u,(b=a\/H b=some (.own a))->h.get? b=some u->h'.get? b=some u)
 (ho:∀b,H b=some (.own a)->H' b=some (.own a)) (ht:∀b xs,H b=some (.tup xs)->H' b=some (.tup xs)):AF P w H' h' a o:=by
 induction o with
 |lst xs=>obtain⟨z,aa,n,r,e⟩:=x;exact⟨z,aa,n,r,k _ _ (.inl rfl) e⟩
 |tup xs=>obtain⟨z,aa,r,ob,e,c⟩:=x;exact⟨z,aa,r,ob,k _ _ (.inl rfl) e,c⟩
 |dK kvs=>obtain⟨z,y,vs,r,ob,es,ep,e,c⟩:=x;exact⟨z,y,vs,r,ob,es,ep,k _ _ (.inl rfl) e,c⟩
 |dT kvs =>
  obtain⟨z,y,xs,r,ob,es,ep,e,c⟩:=x;exact⟨z,y,xs,Paired.QJ r λ p q z=>⟨z.1,ht _ _ z.2.1,z.2.2⟩,ob,es,ep,k _ _ (.inl rfl) e,c⟩
 |set S n=>obtain⟨ob,es,ep,t,e,c⟩:=x;exact⟨ob,es,ep,t,k _ _ (.inl rfl) e,c⟩
 |ins C dx fs =>
  obtain⟨d,z,ne,e,mA,⟨od,es,ep,e2,c⟩,r⟩:=x;exact⟨ho _ d,z,ne,k _ _ (.inl rfl) e,mA,⟨od,es,ep,k _ _ (.inr d) e2,c⟩,r⟩
 |own y=>obtain⟨ob,e⟩:=x;exact⟨ob,k _ _ (.inl rfl) e⟩
 |xd fs=>obtain⟨mA,⟨od,es,ep,e,c⟩,r⟩:=x;exact⟨mA,⟨od,es,ep,k _ _ (.inl rfl) e,c⟩,r⟩
 |Wu lo hi=>obtain⟨t,u,v,e⟩:=x;exact⟨t,u,v,k _ _ (.inl rfl) e⟩
 |Cm ob u ih=>obtain⟨e,q⟩:=x;exact⟨k _ _ (.inl rfl) e,ih q⟩
 |S9 ps =>
  have e:h.get? a=some {cls:=.none,data:=.fields ps}:=x;show h'.get? a=some {cls:=.none,data:=.fields ps};exact k a _ (.inl rfl) e
 |met f y =>
  have e:h.get? a=some (PySem.W.methodObj (.ref f) (.ref y)):=x;show h'.get? a=some (PySem.W.methodObj (.ref f) (.ref y));exact k a _ (.inl rfl) e
 |ext φ=>obtain⟨p,⟨o,e⟩,st⟩:=x;exact⟨st _ _ p λ o q=>k _ _ (.inl rfl) q,⟨o,k _ _ (.inl rfl) e⟩,st⟩
theorem CD.lt (x:CD P w H h)(e:H a=some o):a<h.objs.size:=(x a o e).lt
theorem CD.fresh (x:CD P w H h)(e:h.objs.size<=a):H a=none:=by
 cases q:H a with
 |none=>rfl
 |some u=>exact absurd (zt (x.lt q) e) (Nat.lt_irrefl _)
theorem CD.kept (x:CD P w H h)(k:∀b u,h.get? b=some u->h'.get? b=some u):CD P w H h':=λ a o e =>
 (x a o e).Gm (λ b u _ q=>k b u q) (λ _ q=>q) λ _ _ q=>q
theorem CD.laid (x:CD P w H h)(k:∀b u,h.get? b=some u->h'.get? b=some u)(hp:h.objs.size<=a)(new:AF P w (upd H a o) h' a o):CD P w (upd H a o) h':=λ b u e=>by
 have hn:=x.fresh hp;by_cases hb:b=a
 ·subst hb;rw[Ad] at e;cases e;exact new
 ·rw[A5 hb] at e;exact (x b u e).Gm (λ c v _ q=>k c v q) (λ c q=>by rw[A5 (Aw q hn)];exact q) λ c xs q=>by rw[A5 (Aw q hn)];exact q
end
def Rd (H:Hp)(a:Addr)(u:HO):Prop:=H a=some u\/∃o,H a=some (.Cm o u)
theorem Rd.ok {P:Program}{w:World}{H:Hp}{h:Heap}{a:Addr}{u:HO}(r:Rd H a u)(x:CD P w H h):AF P w H h a u:=by
 rcases r with r|⟨o,r⟩
 ·exact x a u r
 ·obtain⟨_,q⟩:=x a _ r;exact q
def Vd:Option HO->Prop
 |some (.lst _)|some (.dK _)|some (.dT _)|some (.set _ _)|some (.ins _ _ _)|some (.ext _)=>True
 |_=>False
section
variable {P:Program}{w:World}{H:Hp}{h h':Heap}{x e:Addr}{o':HO}
theorem CD.write (ok:CD P w H h)(mu:Vd (H x))(he:e=x\/H e=some (.own x))(k:∀b u,b≠e->h.get? b=some u->h'.get? b=some u)(bv:∃u,h'.get? e=some u)
 (new:AF P w (upd H x o') h' x o'):CD P w (upd H x o') h':=λ b u q=>by
 have cr:∀c y,H c=some (.own y)->c≠x:=λ c y r z=>by subst z;rw[r] at mu;exact mu
 have dv:∀c xs,H c=some (.tup xs)->c≠x:=λ c xs r z=>by subst z;rw[r] at mu;exact mu
 by_cases hb:b=x
 ·subst hb;rw[Ad] at q;cases q;exact new
 ·rw[A5 hb] at q;by_cases bF:b=e
  ·have q':H b=some (.own x):=by
    rcases he with z|z
    ·exact absurd (bF.trans z) hb
    ·rw[bF];exact z
   rw[q] at q';cases q';obtain⟨v,hv⟩:=bv;exact⟨v,by rw[bF];exact hv⟩
  ·refine (ok b u q).Gm (λ c v hc r=>k c v ?_ r) (λ c r=>by rw[A5 (cr c b r)];exact r) λ c xs r=>by rw[A5 (dv c xs r)];exact r
   rcases hc with rfl|hc
   ·exact bF
   ·rintro rfl;rcases he with z|z
    ·exact cr c b hc z
    ·rw[hc] at z;cases z;exact hb rfl
end
structure Un (fs ex:List Addr)(H H':Hp)(h h':Heap):Prop where
 keep:∀b o,h.get? b=some o->H b=none->b∉fs->b∉ex->h'.get? b=some o
 slot:∀b o,h.get? b=some o->H b=none->b∈fs->b∉ex->∃sl,h'.get? b=some {o with slots:=sl}
 free:∀b o,h.get? b=some o->H b=none->b∉ex->H' b=none
 there:∀b o,h.get? b=some o->b∉ex->∃o',h'.get? b=some o'
 Gn:∀b xs,H b=some (.tup xs)->H' b=some (.tup xs)
 F2:∀b o u,H b=some (.Cm o u)->H' b=some (.Cm o u)
 Gp:∀b ps,H b=some (.S9 ps)->∃more,H' b=some (.S9 (ps++more))
section
variable {fs bf ex dw:List Addr}{H H1 H2:Hp}{h h1 h2 h':Heap}{a x e:Addr}{o:HO}
theorem Un.any (u:Un fs ex H H1 h h1){b:Addr}{ob:Obj}(q:h.get? b=some ob)(n:H b=none)(hx:b∉ex):∃sl,h1.get? b=some {ob with slots:=sl}:=by
 by_cases hb:b∈fs
 ·exact u.slot b ob q n hb hx
 ·exact⟨ob.slots,u.keep b ob q n hb hx⟩
theorem Un.kept (k:∀b u,h.get? b=some u->h'.get? b=some u):Un fs ex H H h h':=
 ⟨λ b ob q _ _ _=>k b ob q,λ b ob q _ _ _=>⟨ob.slots,k b ob q⟩,λ _ _ _ n _=>n,λ b ob q _=>⟨ob,k b ob q⟩,λ _ _ q=>q,λ _ _ _ q=>q,λ _ ps q=>⟨#[],by rw[q];simp⟩⟩
theorem Un.refl:Un fs ex H H h h:=Un.kept λ _ _ q=>q
theorem Un.laid (k:∀b u,h.get? b=some u->h'.get? b=some u)(hp:h.objs.size<=a)(hn:H a=none):Un fs ex H (upd H a o) h h' where
 keep:=λ b u q _ _ _=>k b u q
 slot:=λ b u q _ _ _=>⟨u.slots,k b u q⟩
 free:=λ b u q n _=>by rw[A5 (zB (zt (zl q) hp))];exact n
 there:=λ b u q _=>⟨u,k b u q⟩
 Gn:=λ b xs q=>by rw[A5 (Aw q hn)];exact q
 F2:=λ b u xs q=>by rw[A5 (Aw q hn)];exact q
 Gp:=λ b ps q=>⟨#[],by rw[A5 (Aw q hn),q];simp⟩
theorem Un.write (mu:Vd (H x))(he:e=x\/H e=some (.own x))(k:∀b u,b≠e->h.get? b=some u->h'.get? b=some u)(bv:∃u,h'.get? e=some u):Un fs ex H (upd H x o) h h':=by
 have hx:∀b,H b=none->b≠x:=λ b n z=>by subst z;rw[n] at mu;exact mu
 have hb:∀b,H b=none->b≠e:=λ b n z=>by
  subst z;rcases he with r|r
  ·exact hx b n r
  ·rw[n] at r;cases r
 have hm:∀b u,H b=some u->¬ Vd (some u)->b≠x:=λ b u q nm z=>by subst z;rw[q] at mu;exact nm mu
 refine⟨λ b u q n _ _=>k b u (hb b n) q,λ b u q n _ _=>⟨u.slots,k b u (hb b n) q⟩,λ b u q n _=>by rw[A5 (hx b n)];exact n,λ b u q _=>?_,
  λ b xs q=>by rw[A5 (hm b _ q λ z=>z)];exact q,λ b u xs q=>by rw[A5 (hm b _ q λ z=>z)];exact q,λ b ps q=>⟨#[],by rw[A5 (hm b _ q λ z=>z),q];simp⟩⟩
 by_cases bF:b=e
 ·subst bF;exact bv
 ·exact⟨u,k b u bF q⟩
end
noncomputable def BS (h:Heap)(H:Hp):List Addr:=(yy h.objs.size).filter λ a=>(H a).isSome
noncomputable def Jj (h:Heap)(H:Hp):Heap:=PySem.W.hideAll h (BS h H)
theorem Nc (h:Heap)(H:Hp):(Jj h H).objs.size=h.objs.size:=PySem.W.hideAll_size _ _
theorem Od {h:Heap}{H:Hp}{b:Addr}{o:Obj}(e:h.get? b=some o)(n:H b=none):(Jj h H).get? b=some o:=
 yf _ e λ hm=>by
  have q:(H b).isSome=true:=(List.mem_filter.mp hm).2;rw[n] at q;simp at q
theorem QK {h:Heap}{H:Hp}{b:Addr}{o:Obj}(e:(Jj h H).get? b=some o):h.get? b=some o/\H b=none:=by
 have e':h.get? b=some o:=PySem.W.of_hideAll (BS h H) e;refine⟨e',?_⟩;cases q:H b with
 |none=>rfl
 |some x =>
  have hm:b∈BS h H:=List.mem_filter.mpr ⟨List.mem_range.mpr (zl e'),by simp[q]⟩;have z:(Jj h H).get? b=none:=PySem.W.hideAll_none (BS h H) hm;rw[z] at e;cases e
noncomputable def QL (g h:Heap)(L:Addr):List (Addr×Obj):=(yy h.objs.size).filterMap λ a=>if a=L\/(g.get? a).isSome=true then none else (h.get? a).map λ o=>(a,o)
noncomputable def rest (g h:Heap)(L d:Addr):List (Addr×Obj):=(QL g h L).filter λ p=>decide (p.1≠d)
structure Mod (K:za)(mg:Str->Option Value)(base:Heap):Prop where
 WM:K.In base
 glob:base.Ns mainGlobals mg
 blt:∃mb,base.Ns builtinsNs mb/\∀x:Str,x ≠ "__name__" -> mb x=bootBuiltins x
 nolimit:base.NoLimit
structure Cx where
 prog:Program
 w:World
 K:za
 mg:Str->Option Value
 base:Heap
 A:Around
 N:List Str
 s₀:Shared
 H₀:Hp
 env:Env
 outer:List Env
 stack:List Env
 ex:List Addr
 fn:Str->Bool
 calm:Bool
 pn:List (Addr×Obj)
 xe:Value->Shared->Prop
noncomputable def FJ (l:List Env):List Addr:=l.filterMap (·.frame)
noncomputable abbrev Cx.fs (X:Cx):List Addr:=FJ X.outer
def WN (sc:Scope)(x:Str):Prop:=sc.names.lookup x=some .local\/sc.names.lookup x=some .cell\/sc.names.lookup x=some .free
def Loc (sc:Scope)(x:Str):Prop:=sc.names.lookup x=some .local\/sc.names.lookup x=some .cell
def Look (env:Env)(h:Heap)(m:Str->Option Value)(x:Str)(u:Value):Prop:=
 (env.kindOf x=some .local/\m x=some u)\/((env.kindOf x=some .cell\/env.kindOf x=some .free)/\∃c,env.cells.lookup x=some c/\h.IsCell c (some u))
structure Cx.Ok (X:Cx):Prop where
 mod:Mod X.K X.mg X.base
 kind:X.env.scope.kind=.function
 glob:X.env.globals=mainGlobals
 blt:X.env.builtins=builtinsNs
 above:X.s₀.heap.objs.size<=X.env.locals
 inj:∀x y c,X.env.cells.lookup x=some c->X.env.cells.lookup y=some c->x=y
 has:∀x,(X.env.kindOf x=some .cell\/X.env.kindOf x=some .free)->∃c,X.env.cells.lookup x=some c
 Ve:∀x c,X.fn x=true->X.env.cells.lookup x=some c->X.s₀.heap.objs.size<=c
 hd:X.calm=true->X.A.handled=none
 frames:X.A.frames=some X.stack
 Sa:X.stack=X.outer\/(X.stack=X.env::X.outer/\X.env.frame=some X.env.locals)
 Wv:∀b∈X.ex,b≠X.env.locals/\∀x c,X.env.cells.lookup x=some c->c≠b
 bs:∀b o,X.base.get? b=some o->X.s₀.heap.get? b=some o/\X.H₀ b=none
 Sb:X.base.objs.size<=X.s₀.heap.objs.size
 Oe:∀b o,X.base.get? b=some o->b∉X.ex
 Of:∀b∈X.ex,b∉X.fs
 F3:X.s₀.heap.FunFrames X.base X.outer
 UY:∀b∈X.fs,X.H₀ b=none
structure Inv (X:Cx)(pins:List (Addr×Obj))(σ:List (Option V))(H:Hp)(s:Shared):Prop where
 ok:X.Ok
 os:s.os=X.s₀.os
 bare:AllBare s.gens
 base:Un X.fs X.ex X.H₀ H X.s₀.heap s.heap
 loc:∃m,s.heap.Ns X.env.locals m/\∀(i:Nat) (x:Str) (v:V),X.N[i]?=some x->σ[i]?=some (some v)->WN X.env.scope x->∃u,RelV v u/\Look X.env s.heap m x u
 cell:∀x c,X.env.cells.lookup x=some c->∃v,s.heap.IsCell c v
 free:H X.env.locals=none
 Cn:∀x c,X.env.cells.lookup x=some c->H c=none
 pin:∀p∈X.pn++pins,s.heap.get? p.1=some p.2/\H p.1=none/\p.1≠X.env.locals/\p.1∉X.fs/\∀v,p.2.data≠.cell v
 As:CD X.prog X.w H s.heap
 len:σ.length=X.N.length
section
variable {X:Cx}{pins:List (Addr×Obj)}{σ:List (Option V)}{H H':Hp}{s:Shared}{h':Heap}
theorem Cx.Ok.WO (ok:X.Ok){b:Addr}{o:Obj}(e:X.base.get? b=some o):b∉X.fs:=λ hb=>by
 have:=(ok.F3.mem hb).1;rw[e] at this;cases this
theorem Inv.bs (I:Inv X pins σ H s):∀b o,X.base.get? b=some o->s.heap.get? b=some o/\H b=none:=λ b o e =>
 ⟨I.base.keep b o (I.ok.bs b o e).1 (I.ok.bs b o e).2 (I.ok.WO e) (I.ok.Oe b o e),I.base.free b o (I.ok.bs b o e).1 (I.ok.bs b o e).2 (I.ok.Oe b o e)⟩
theorem Inv.bk (I:Inv X pins σ H s):∀b o,X.base.get? b=some o->s.heap.get? b=some o:=λ b o e=>(I.bs b o e).1
theorem Inv.mod (I:Inv X pins σ H s):Mod X.K X.mg X.base:=I.ok.mod
theorem Inv.Mw (I:Inv X pins σ H s):X.K.In s.heap:=I.ok.mod.WM.keeps I.bk
theorem Inv.fr (I:Inv X pins σ H s):∃m,Fr X.base X.env.locals s.heap m:=
 let ⟨m,hn,_⟩:=I.loc
 ⟨m,hn,I.bk,zW I.ok.Sb I.ok.above⟩
theorem Inv.lt (I:Inv X pins σ H s):X.env.locals<s.heap.objs.size:=let ⟨_,hn,_⟩:=I.loc;hn.lt
theorem Inv.sz (I:Inv X pins σ H s):X.s₀.heap.objs.size<=s.heap.objs.size:=zW I.ok.above (yw I.lt)
theorem Inv.WQ (I:Inv X pins σ H s){a:Addr}(h:s.heap.objs.size<=a):a∉X.fs:=λ hb=>by
 obtain⟨_,o,ho,_⟩:=I.ok.F3.mem hb;exact absurd (zt (zl ho) (zW I.sz h)) (Nat.lt_irrefl _)
theorem Inv.SK (I:Inv X pins σ H s):∀x c,X.env.cells.lookup x=some c->c≠X.env.locals:=λ x c e z=>by
 obtain⟨v,o,ho,hd⟩:=I.cell x c e;obtain⟨m,⟨o',es,ep,bG,aB,_⟩,_⟩:=I.loc;rw[z,bG] at ho;cases ho;rw[aB] at hd;cases hd
theorem Inv.F3 (I:Inv X pins σ H s):s.heap.FunFrames X.base X.outer:=by
 have all:∀(l:List Env),(∀b∈FJ l,b∈X.fs)->X.s₀.heap.FunFrames X.base l->s.heap.FunFrames X.base l:=by
  intro l;induction l with
  |nil=>intro _ _;trivial
  |cons env r ih =>
   intro hs hl;obtain⟨hk,⟨L,o,hf,hn,ho,hd⟩,hr⟩:=hl;have hL:L∈X.fs:=hs L (by unfold FJ;rw[List.filterMap_cons,hf];exact zb);obtain⟨sl,e⟩:=I.base.slot L o ho (I.ok.UY L hL) hL λ z=>I.ok.Of L z hL;exact⟨hk,⟨L,_,hf,hn,e,hd⟩,ih (λ b hb=>hs b (by unfold FJ;rw[List.filterMap_cons,hf];exact zd _ hb)) hr⟩
 exact all X.outer (λ _ hb=>hb) I.ok.F3
theorem Inv.stack (I:Inv X pins σ H s):s.heap.FunFrames X.base X.stack:=by
 rcases I.ok.Sa with e|⟨e,hf⟩
 ·rw[e];exact I.F3
 ·rw[e];obtain⟨m,hn,_⟩:=I.loc;refine .cons (by rw[I.ok.kind];decide) hf hn ?_ I.F3;exact Heap.get?_none_of_le (zW I.ok.Sb I.ok.above)
theorem Inv.LD (I:Inv X pins σ H s):∀b∈FJ X.stack,b∈X.env.locals::X.fs:=λ b hb=>by
 rcases I.ok.Sa with e|⟨e,hf⟩
 ·rw[e] at hb;exact zd _ hb
 ·rw[e] at hb;unfold FJ at hb;rw[List.filterMap_cons,hf] at hb;exact hb
theorem Inv.Jk (I:Inv X pins σ H s):∀b∈FJ X.stack,H b=none:=λ b hb=>by
 rcases zk.mp (I.LD b hb) with e|hb
 ·rw[e];exact I.free
 ·obtain⟨_,o,ho,_⟩:=I.ok.F3.mem hb;exact I.base.free b o ho (I.ok.UY b hb) λ z=>I.ok.Of b z hb
theorem Inv.step {g':Array GenState}{t':Nat}{d':Drawn}{ch:List Addr}(I:Inv X pins σ H s)
 (bg:∀b∈ch,(b∈X.ex\/X.s₀.heap.objs.size<=b)/\b≠X.env.locals/\(∀x c,X.env.cells.lookup x=some c->c≠b)/\∀p∈X.pn++pins,p.1≠b)
 (keep:∀b o,b≠X.env.locals->b∉X.fs->b∉ch->s.heap.get? b=some o->H b=none->h'.get? b=some o)
 (slot:∀b o,b≠X.env.locals->b∈X.fs->b∉ch->s.heap.get? b=some o->H b=none->∃sl,h'.get? b=some {o with slots:=sl}) (free:∀b o,b∉ch->s.heap.get? b=some o->H b=none->H' b=none)
 (there:∀b o,b∉ch->s.heap.get? b=some o->∃o',h'.get? b=some o')
 (Gn:∀b xs,H b=some (.tup xs)->H' b=some (.tup xs)) (F2:∀b o u,H b=some (.Cm o u)->H' b=some (.Cm o u)) (Gp:∀b ps,H b=some (.S9 ps)->∃more,H' b=some (.S9 (ps++more)))
 (ns:∀m,s.heap.Ns X.env.locals m->h'.Ns X.env.locals m) (As:CD X.prog X.w H' h') (hg:AllBare g'):
 Inv X pins σ H' {s with heap:=h',gens:=g',drawn:=d',toks:=t' }:=by
 have fK:∀b o,X.s₀.heap.get? b=some o->b≠X.env.locals:=λ b o e=>zB (zt (zl e) I.ok.above);have cg:∀b o,X.s₀.heap.get? b=some o->b∉X.ex->b∉ch:=λ b o e hx hb=>by
  rcases (bg b hb).1 with z|z
  ·exact hx z
  ·exact absurd (zt (zl e) z) (Nat.lt_irrefl _)
 have cellK:∀x c,X.env.cells.lookup x=some c->∀v,s.heap.IsCell c v->h'.IsCell c v:=λ x c e v ⟨o,ho,hd⟩=>by
  have cu:c∉ch:=λ z=>(bg c z).2.2.1 x c e rfl;by_cases hc:c∈X.fs
  ·obtain⟨sl,q⟩:=slot c o (I.SK x c e) hc cu ho (I.Cn x c e);exact⟨_,q,hd⟩
  ·exact⟨o,keep c o (I.SK x c e) hc cu ho (I.Cn x c e),hd⟩
 refine⟨I.ok,I.os,hg,⟨λ b o e n hb hx=>?_,λ b o e n hb hx=>?_,λ b o e n hx=>?_,λ b o e hx=>?_,λ b xs e=>Gn b xs (I.base.Gn b xs e),λ b o xs e=>F2 b o xs (I.base.F2 b o xs e),λ b ps e=>?_⟩,?_,λ x c e=>?_,?_,λ x c e=>?_,λ p hp=>?_,As,I.len⟩
 ·exact keep b o (fK b o e) hb (cg b o e hx) (I.base.keep b o e n hb hx) (I.base.free b o e n hx)
 ·obtain⟨sl,e1⟩:=I.base.slot b o e n hb hx;obtain⟨cU,e2⟩:=slot b _ (fK b o e) hb (cg b o e hx) e1 (I.base.free b o e n hx);exact⟨cU,e2⟩
 ·obtain⟨o',e1⟩:=I.base.there b o e hx;exact free b o' (cg b o e hx) e1 (I.base.free b o e n hx)
 ·obtain⟨o',e1⟩:=I.base.there b o e hx;exact there b o' (cg b o e hx) e1
 ·obtain⟨m1,e1⟩:=I.base.Gp b ps e;obtain⟨m2,e2⟩:=Gp b _ e1;exact⟨m1++m2,by rw[e2,Array.append_assoc]⟩
 ·obtain⟨m,hn,hl⟩:=I.loc;refine⟨m,ns m hn,λ i x v e1 e2 e3=>?_⟩;obtain⟨u,r,l⟩:=hl i x v e1 e2 e3;refine⟨u,r,?_⟩;rcases l with l|⟨k,c,e,z⟩
  ·exact .inl l
  ·exact .inr ⟨k,c,e,cellK x c e _ z⟩
 ·obtain⟨v,z⟩:=I.cell x c e;exact⟨v,cellK x c e v z⟩
 ·obtain⟨m,⟨o,_,_,ho,_⟩,_⟩:=I.loc;exact free _ o (λ z=>(bg _ z).2.1 rfl) ho I.free
 ·obtain⟨v,o,ho,hd⟩:=I.cell x c e;exact free c o (λ z=>(bg c z).2.2.1 x c e rfl) ho (I.Cn x c e)
 ·obtain⟨e,n,ne,nf,d⟩:=I.pin p hp;have cu:p.1∉ch:=λ z=>(bg p.1 z).2.2.2 p hp rfl;exact⟨keep p.1 p.2 ne nf cu e n,free p.1 p.2 cu e n,ne,nf,d⟩
theorem Inv.un {t':Nat}(I:Inv X pins σ H s)(u:Un X.fs [] H H' s.heap h')(As:CD X.prog X.w H' h'):Inv X pins σ H' {s with heap:=h',toks:=t' }:=by
 obtain⟨m,⟨o,es,ep,ho,r⟩,_⟩:=id I.loc;obtain⟨sl,hL⟩:=u.any ho I.free (by simp);exact I.step (g':=s.gens) (d':=s.drawn) (ch:=[]) (λ _ z=>nomatch z) (λ b o _ hb _ e n=>u.keep b o e n hb (by simp)) (λ b o _ hb _ e n=>u.slot b o e n hb (by simp)) (λ b o _ e n=>u.free b o e n (by simp)) (λ b o _ e=>u.there b o e (by simp)) u.Gn u.F2 u.Gp (λ m' hm=>by
  obtain⟨o',dz,d0,bG,r'⟩:=hm;rw[ho] at bG;cases bG;exact⟨_,dz,d0,hL,r'⟩) As I.bare
theorem Inv.call {g':Array GenState}{t':Nat}{d':Drawn}{ch:List Addr}(I:Inv X pins σ H s)(u:Un (FJ X.stack) ch H H' s.heap h')(As:CD X.prog X.w H' h')(hg:AllBare g')
 (bg:∀b∈ch,(b∈X.ex\/X.s₀.heap.objs.size<=b)/\b≠X.env.locals/\(∀x c,X.env.cells.lookup x=some c->c≠b)/\∀p∈X.pn++pins,p.1≠b):
 Inv X pins σ H' {s with heap:=h',gens:=g',drawn:=d',toks:=t' }:=by
 obtain⟨m,⟨o,es,ep,ho,r⟩,_⟩:=id I.loc;obtain⟨sl,hL⟩:=u.any ho I.free λ z=>(bg _ z).2.1 rfl;exact I.step (ch:=ch) bg (λ b o hL hb hc e n=>u.keep b o e n (λ z=>(zk.mp (I.LD b z)).elim hL hb) hc) (λ b o _ _ hc e n=>u.any e n hc) (λ b o hc e n=>u.free b o e n hc) (λ b o hc e=>u.there b o e hc) u.Gn u.F2 u.Gp (λ m' hm=>by
  obtain⟨o',dz,d0,bG,r'⟩:=hm;rw[ho] at bG;cases bG;exact⟨_,dz,d0,hL,r'⟩) As hg
theorem Inv.turned {t':Nat}{it:Addr}(I:Inv X pins σ H s)(k:∀b o,b≠it->s.heap.get? b=some o->h'.get? b=some o)(hn:H it=none)(hL:it≠X.env.locals)
 (h1:it∈X.ex\/X.s₀.heap.objs.size<=it) (h2:∀x c,X.env.cells.lookup x=some c->c≠it) (h3:∀p∈X.pn++pins,p.1≠it):Inv X pins σ H {s with heap:=h',toks:=t' }:=by
 have fL:∀b u,H b=some u->b≠it:=λ b u e z=>by rw[z,hn] at e;cases e
 refine I.step (g':=s.gens) (d':=s.drawn) (ch:=[it]) (λ b hb=>?_) (λ b o _ _ hc e _=>k b o (λ z=>hc (by simp[z])) e) (λ b o _ _ hc e _=>⟨o.slots,k b o (λ z=>hc (by simp[z])) e⟩) (λ _ _ _ _ n=>n)
  (λ b o hc e=>⟨o,k b o (λ z=>hc (by simp[z])) e⟩) (λ _ _ e=>e) (λ _ _ _ e=>e) (λ b ps e=>⟨#[],by rw[e];simp⟩) (λ m hm=>?_) (λ b u e=>?_) I.bare
 ·have e:b=it:=by simpa using hb
  subst e;exact⟨h1,hL,h2,h3⟩
 ·obtain⟨o,es,ep,ho,r⟩:=hm;exact⟨o,es,ep,k _ o (zQ hL) ho,r⟩
 ·refine (I.As b u e).Gm (λ c v hc q=>k c v ?_ q) (λ _ q=>q) λ _ _ q=>q;rcases hc with z|z
  ·rw[z];exact fL b u e
  ·exact fL c _ z
theorem Inv.tok (I:Inv X pins σ H s)(t:Nat):Inv X pins σ H {s with toks:=t}:=I.un (h':=s.heap) (t':=t) Un.refl I.As
theorem Inv.kept {t':Nat}(I:Inv X pins σ H s)(k:∀b u,s.heap.get? b=some u->h'.get? b=some u):Inv X pins σ H {s with heap:=h',toks:=t' }:=I.un (Un.kept k) (I.As.kept k)
theorem Inv.laid {a:Addr}{o:HO}{t':Nat}(I:Inv X pins σ H s)(k:∀b u,s.heap.get? b=some u->h'.get? b=some u)(hp:s.heap.objs.size<=a)(new:AF X.prog X.w (upd H a o) h' a o):
 Inv X pins σ (upd H a o) {s with heap:=h',toks:=t' }:=I.un (Un.laid k hp (I.As.fresh hp)) (I.As.laid k hp new)
theorem Inv.write {x e:Addr}{o:HO}{t':Nat}(I:Inv X pins σ H s)(mu:Vd (H x))(he:e=x\/H e=some (.own x))(k:∀b u,b≠e->s.heap.get? b=some u->h'.get? b=some u)(bv:∃u,h'.get? e=some u)
 (new:AF X.prog X.w (upd H x o) h' x o):Inv X pins σ (upd H x o) {s with heap:=h',toks:=t' }:=I.un (Un.write mu he k bv) (I.As.write mu he k bv new)
theorem Inv.weak {σ':List (Option V)}(I:Inv X pins σ H s)(hl:σ'.length=σ.length)(w:∀(i:Nat) v,σ'[i]?=some (some v)->σ[i]?=some (some v)):Inv X pins σ' H s:=
 ⟨I.ok,I.os,I.bare,I.base,let ⟨m,hn,gW⟩:=I.loc;⟨m,hn,λ i x v e1 e2 e3=>gW i x v e1 (w i v e2) e3⟩,I.cell,I.free,I.Cn,I.pin,I.As,hl.trans I.len⟩
theorem Inv.Ey {bw:List (Addr×Obj)}(I:Inv X pins σ H s)(h:∀p∈bw,s.heap.get? p.1=some p.2/\H p.1=none/\p.1≠X.env.locals/\p.1∉X.fs/\∀v,p.2.data≠.cell v):Inv X bw σ H s:=
 ⟨I.ok,I.os,I.bare,I.base,I.loc,I.cell,I.free,I.Cn,λ p hp=>(zC.mp hp).elim (λ z=>I.pin p (zx _ z)) (h p),I.As,I.len⟩
theorem Kq {N:List Str}(hN:N.Nodup){i j:Nat}{x:Str}(a:N[i]?=some x)(b:N[j]?=some x):i=j:=by
 obtain⟨h1,e1⟩:=zD.mp a;obtain⟨h2,e2⟩:=zD.mp b;exact (List.getElem_inj hN).mp (e1.trans e2.symm)
theorem IG {M:Model}{A:Around}{E:Value->Shared->Prop}{i:Nat}{x:Str}{v:V}{u:Value}{Q:Unit->Shared->Prop}(I:Inv X pins σ H s)(hN:X.N.Nodup)(hi:X.N[i]?=some x)(hx:Loc X.env.scope x)(r:RelV v u)
 (h:∀s',Inv X pins (σ.set i (some v)) H s'->(∃a,Heap.SameBut a s.heap s'.heap/\(a=X.env.locals\/X.env.cells.lookup x=some a))->Q () s') (hf:X.fn x=true\/X.env.scope.names.lookup x=some .local:=by first|exact .inl rfl|exact .inr rfl|assumption):wpAny M A (storeName X.env x u) Q E s:=by
 obtain⟨m,hn,hl⟩:=id I.loc;have d3:(X.env.scope.kind==.class||(X.env.scope.kind==.module&&X.env.locals != X.env.globals))=false:=by rw[I.ok.kind];rfl
 have hiσ:i<σ.length:=by rw[I.len];exact (zD.mp hi).1
 have SK:=I.SK;have tracked:∀ {a:Addr} {h':Heap},(∃o,s.heap.get? a=some o/\H a=none)->Heap.SameBut a s.heap h'->CD X.prog X.w H h':=fun {a h'} ha hs b ob e=>by
  obtain⟨_,_,bx⟩:=ha;refine (I.As b ob e).Gm (λ c w' hc q=>(hs.2 c ?_).trans q) (λ _ q=>q) λ _ _ q=>q;rintro rfl;rcases hc with rfl|hc
  ·rw[bx] at e;cases e
  ·rw[bx] at hc;cases hc
 rcases hx with hk|hk
 ·refine wpAny_storeName_local hk hn (λ h' cV hs=>?_) d3;obtain⟨oL,_,_,d4,_⟩:=id hn;refine h _ ⟨I.ok,I.os,I.bare,⟨λ b o e n hb hx=>?_,λ b o e n hb hx=>?_,I.base.free,λ b o e hx=>?_,I.base.Gn,I.base.F2,I.base.Gp⟩,⟨_,cV,λ j y v' e1 e2 e3=>?_⟩,λ y c e=>?_,I.free,I.Cn,λ p hp=>?_,tracked ⟨oL,d4,I.free⟩ hs,by simpa using I.len⟩ ⟨_,hs,.inl rfl⟩
  ·exact (hs.2 b (zB (zt (zl e) I.ok.above))).trans (I.base.keep b o e n hb hx)
  ·obtain⟨sl,e1⟩:=I.base.slot b o e n hb hx;exact⟨sl,(hs.2 b (zB (zt (zl e) I.ok.above))).trans e1⟩
  ·obtain⟨o',e1⟩:=I.base.there b o e hx;exact⟨o',(hs.2 b (zB (zt (zl e) I.ok.above))).trans e1⟩
  ·by_cases hj:j=i
   ·subst hj;rw[hi] at e1;cases e1;rw[zI hiσ] at e2;cases e2;exact⟨u,r,.inl ⟨hk,by simp⟩⟩
   ·rw[yc (zQ hj)] at e2;obtain⟨u',r',q⟩:=hl j y v' e1 e2 e3;refine⟨u',r',?_⟩;rcases q with ⟨k,e⟩|⟨k,c,e,z⟩
    ·refine .inl ⟨k,?_⟩;have:y≠x:=λ e=>hj (Kq hN e1 (e▸hi));simp[this,e]
    ·exact .inr ⟨k,c,e,z.sameBut hs (SK y c e)⟩
  ·obtain⟨w',z⟩:=I.cell y c e;exact⟨w',z.sameBut hs (SK y c e)⟩
  ·obtain⟨e,n,ne,nf,d⟩:=I.pin p hp;exact⟨(hs.2 p.1 ne).trans e,n,ne,nf,d⟩
 ·have d5:X.fn x=true:=by
   rcases hf with z|z
   ·exact z
   ·rw[z] at hk;cases hk
  obtain⟨c,hc⟩:=I.ok.has x (.inl hk);obtain⟨w',z⟩:=I.cell x c hc;refine wpAny_storeName_cell I.ok.kind hk hc z (λ h' fM hs=>?_);obtain⟨oc,fN,d6⟩:=id z;refine h {s with heap:=h' } ⟨I.ok,I.os,I.bare,⟨λ b o e n hb hx=>?_,λ b o e n hb hx=>?_,I.base.free,λ b o e hx=>?_,I.base.Gn,I.base.F2,I.base.Gp⟩,⟨m,hn.sameBut hs (zQ (SK x c hc)),λ j y v' e1 e2 e3=>?_⟩,λ y c' e=>?_,I.free,I.Cn,λ p hp=>?_,tracked ⟨oc,fN,I.Cn x c hc⟩ hs,by simpa using I.len⟩ ⟨c,hs,.inr hc⟩
  ·exact (hs.2 b (zB (zt (zl e) (I.ok.Ve x c d5 hc)))).trans (I.base.keep b o e n hb hx)
  ·obtain⟨sl,e1⟩:=I.base.slot b o e n hb hx;exact⟨sl,(hs.2 b (zB (zt (zl e) (I.ok.Ve x c d5 hc)))).trans e1⟩
  ·obtain⟨o',e1⟩:=I.base.there b o e hx;exact⟨o',(hs.2 b (zB (zt (zl e) (I.ok.Ve x c d5 hc)))).trans e1⟩
  ·by_cases hj:j=i
   ·subst hj;rw[hi] at e1;cases e1;rw[zI hiσ] at e2;cases e2;exact⟨u,r,.inr ⟨.inl hk,c,hc,fM⟩⟩
   ·rw[yc (zQ hj)] at e2;obtain⟨u',r',q⟩:=hl j y v' e1 e2 e3;refine⟨u',r',?_⟩;rcases q with q|⟨k,c',e,z'⟩
    ·exact .inl q
    ·refine .inr ⟨k,c',e,z'.sameBut hs ?_⟩;rintro rfl;exact hj (Kq hN e1 (I.ok.inj _ _ _ e hc▸hi))
  ·by_cases fO:c'=c
   ·subst fO;exact⟨_,fM⟩
   ·obtain⟨w2,z2⟩:=I.cell y c' e;exact⟨w2,z2.sameBut hs fO⟩
  ·obtain⟨e,n,ne,nf,d⟩:=I.pin p hp;refine⟨(hs.2 p.1 ?_).trans e,n,ne,nf,d⟩;intro q;rw[q,fN] at e;have q':oc=p.2:=zw e;exact d w' (by rw[<-q'];exact d6)
theorem Kr {M:Model}{A:Around}{E:Value->Shared->Prop}{i:Nat}{x:Str}{v:V}{u:Value}{Q:Unit->Shared->Prop}(I:Inv X pins σ H s)(hN:X.N.Nodup)(hi:X.N[i]?=some x)(hx:Loc X.env.scope x)(r:RelV v u)
 (h:∀s',Inv X pins (σ.set i (some v)) H s'->Q () s') (hf:X.fn x=true\/X.env.scope.names.lookup x=some .local:=by first|exact .inl rfl|exact .inr rfl|assumption):wpAny M A (storeName X.env x u) Q E s:=
 IG I hN hi hx r (λ s' I' _=>h s' I') hf
theorem Inv.Sd {s':Shared}{ch:List Addr}(I:Inv X pins σ H s)(ho:s'.os=s.os)(u:Un (FJ X.stack) ch H H' s.heap s'.heap)(As:CD X.prog X.w H' s'.heap)(hg:AllBare s'.gens)
 (bg:∀b∈ch,(b∈X.ex\/X.s₀.heap.objs.size<=b)/\b≠X.env.locals/\(∀x c,X.env.cells.lookup x=some c->c≠b)/\∀p∈X.pn++pins,p.1≠b):Inv X pins σ H' s':=by
 obtain⟨h',g',d',t',o'⟩:=s';have e:o'=s.os:=ho;subst e;exact I.call (g':=g') (t':=t') (d':=d') u As hg bg
end
noncomputable abbrev XK:=Value->Option Addr->Hp->Prop
noncomputable abbrev St:=List (Option V)
noncomputable abbrev VK:=V->Hp->Prop
noncomputable abbrev TE:=St->Hp->VK->Prop
noncomputable abbrev TT:=St->Hp->(Bool->Hp->Prop)->Prop
noncomputable abbrev TA:=St->Hp->(List V->Hp->Prop)->Prop
structure Ends where
 nx:St->Hp->Prop
 rt:VK
 bk:St->Hp->Prop:=λ _ _=>False
 ct:St->Hp->Prop:=λ _ _=>False
noncomputable abbrev TS:=Ends->St->Hp->Prop
def EP (X:Cx)(pins:List (Addr×Obj))(σ:St)(Q:VK)(u:Value)(s':Shared):Prop:=∃v H',Inv X pins σ H' s'/\RelV v u/\Q v H'
def TP (X:Cx)(pins:List (Addr×Obj))(σ:St)(Q:Bool->Hp->Prop)(b:Bool)(s':Shared):Prop:=∃H',Inv X pins σ H' s'/\Q b H'
def AP (X:Cx)(pins:List (Addr×Obj))(σ:St)(Q:List V->Hp->Prop)(us:List Value)(s':Shared):Prop:=∃vs H',Inv X pins σ H' s'/\Vals vs us/\Q vs H'
def SP (X:Cx)(pins:List (Addr×Obj))(D:Ends)(f:Flow)(s':Shared):Prop:=
 match f with
 | .next=>∃σ' H',Inv X pins σ' H' s'/\D.nx σ' H'
 | .brk=>∃σ' H',Inv X pins σ' H' s'/\D.bk σ' H'
 | .cont=>∃σ' H',Inv X pins σ' H' s'/\D.ct σ' H'
 | .ret u=>∃v σ' H',Inv X pins σ' H' s'/\RelV v u/\D.rt v H'
def PE (X:Cx)(e:Expr)(t:TE):Prop:=
 ∀(pins:List (Addr×Obj)) (s:Shared) (σ:St) (H:Hp) (Q:VK),Inv X pins σ H s->t σ H Q->wpAny (model X.prog X.w) X.A (eval e X.env) (EP X pins σ Q) X.xe s
def PT (X:Cx)(e:Expr)(t:TT):Prop:=
 ∀(pins:List (Addr×Obj)) (s:Shared) (σ:St) (H:Hp) (Q:Bool->Hp->Prop),Inv X pins σ H s->t σ H Q->wpAny (model X.prog X.w) X.A (isTrue e X.env (eval e X.env)) (TP X pins σ Q) X.xe s
def PW (X:Cx)(e:Expr)(t:TT):Prop:=
 ∀(whole:Sem Value) (pins:List (Addr×Obj)) (s:Shared) (σ:St) (H:Hp) (Q:Bool->Hp->Prop),Inv X pins σ H s->t σ H Q->wpAny (model X.prog X.w) X.A (isTrue e X.env whole) (TP X pins σ Q) X.xe s
theorem PW.pt {X:Cx}{e:Expr}{t:TT}(h:PW X e t):PT X e t:=h _
def PA (X:Cx)(es:List Expr)(t:TA):Prop:=
 ∀(pos:Pos) (pins:List (Addr×Obj)) (s:Shared) (σ:St) (H:Hp) (Q:List V->Hp->Prop),Inv X pins σ H s->t σ H Q->wpAny (model X.prog X.w) X.A (spliced (backTo pos (starEach es X.env))) (AP X pins σ Q) X.xe s
def PS (X:Cx)(st:Stmt)(t:TS):Prop:=
 ∀(pins:List (Addr×Obj)) (s:Shared) (σ:St) (H:Hp) (D:Ends),Inv X pins σ H s->t D σ H->wpAny (model X.prog X.w) X.A (exec st X.env) (SP X pins D) X.xe s
def Mx (X:Cx)(st:List Stmt)(t:TS):Prop:=
 ∀(pins:List (Addr×Obj)) (s:Shared) (σ:St) (H:Hp) (D:Ends),Inv X pins σ H s->t D σ H->wpAny (model X.prog X.w) X.A (execs st X.env) (SP X pins D) X.xe s
theorem B2 {α:Type}{t:Sem α}{Q Q':α->Shared->Prop}{M:Model}{A:Around}{E:Value->Shared->Prop}{s:Shared}(h:wpAny M A t Q E s)(hQ:∀a s,Q a s->Q' a s):wpAny M A t Q' E s:=wpAny_mono h hQ λ _ _ x=>x
section
variable {X:Cx}
theorem bin {a b:Expr}{ta tb:TE}(ha:PE X a ta)(hb:PE X b tb){pins:List (Addr×Obj)}{s:Shared}{σ:St}{H:Hp}{R:V->V->Hp->Prop}(I:Inv X pins σ H s)(h:ta σ H λ x H1=>tb σ H1 λ y H2=>R x y H2)
 {α:Type} {Q:α->Shared->Prop} {f:Value->Value->Sem α}
 (hf:∀v u s2 x y H2,Inv X pins σ H2 s2->RelV x v->RelV y u->R x y H2->wpAny (model X.prog X.w) X.A (f v u) Q X.xe s2):
 wpAny (model X.prog X.w) X.A (eval a X.env) (λ v s₁=>wpAny (model X.prog X.w) X.A (eval b X.env) (λ u s₂=>wpAny (model X.prog X.w) X.A (f v u) Q X.xe s₂) X.xe s₁) X.xe s:=by
 refine B2 (ha pins s σ H _ I h) λ v s1 ⟨x,H1,I1,r1,q1⟩=>?_;refine B2 (hb pins s1 σ H1 _ I1 q1) λ u s2 ⟨y,H2,I2,r2,q2⟩=>?_;exact hf v u s2 x y H2 I2 r1 r2 q2
noncomputable def Nd (i:Nat):TE:=λ σ H Q=>∃v,σ[i]?=some (some v)/\Q v H
noncomputable def tC (v:V):TE:=λ _ H Q=>Q v H
theorem SM {i:Nat}{x:Str}{pos:Pos}(hN:X.N[i]?=some x)(hv:WN X.env.scope x)(hd:(x==("__debug__" : Str))=false:=by decide)(az:(x==("__classdict__" : Str))=false:=by decide):PE X (.Name x pos) (Nd i):=by
 intro pins s σ H Q I h;obtain⟨v,e,h⟩:=h;obtain⟨m,hn,hl⟩:=I.loc;obtain⟨u,r,l⟩:=hl i x v hN e hv;have fin:EP X pins σ Q u s:=⟨v,H,I,r,h⟩;rcases l with ⟨hk,hm⟩|⟨hk,c,hc,aD⟩
 ·exact wpAny_Name (wpAny_loadName_local I.ok.kind hk hn hm fin) hd
 ·rcases hk with hk|hk
  ·exact wpAny_Name (wpAny_loadName_cell I.ok.kind hk hc aD fin) hd
  ·exact wpAny_Name (wpAny_loadName_free I.ok.kind hk hc aD fin az) hd
theorem SN {i j pos}:PE X (.Constant (.int i) j pos) (tC (.int i)):=λ _ _ _ H _ I h=>wpAny_Constant_int ⟨.int i,H,I.tok _,⟨_,rfl⟩,h⟩
theorem Vf {b j pos}:PE X (.Constant (.bool b) j pos) (tC (.bl b)):=λ _ _ _ H _ I h=>Constant_bool ⟨.bl b,H,I,rfl,h⟩
theorem SO {j pos}:PE X (.Constant .none j pos) (tC .Ax):=λ _ _ _ H _ I h=>Constant_none ⟨.Ax,H,I,rfl,h⟩
def Gl (X:Cx)(x:Str):Prop:=X.env.kindOf x=some .globalImplicit
theorem QM {E:Value->Shared->Prop}{pins:List (Addr×Obj)}{s:Shared}{σ:St}{H:Hp}{x:Str}{u:Value}{pos:Pos}{Q:Value->Shared->Prop}(I:Inv X pins σ H s)(hg:Gl X x)(hm:X.mg x=some u)(h:Q u s)
 (hd:(x==("__debug__" : Str))=false:=by decide):wpAny (model X.prog X.w) X.A (eval (.Name x pos) X.env) Q E s:=
 Calls.Name_function_global I.ok.kind hg (Calls.loadGlobal_global (by rw[I.ok.glob];exact I.mod.glob.keeps I.bk) hm h) hd
theorem F4 {E:Value->Shared->Prop}{pins:List (Addr×Obj)}{s:Shared}{σ:St}{H:Hp}{x:Str}{u:Value}{pos:Pos}{Q:Value->Shared->Prop}(I:Inv X pins σ H s)(hg:Gl X x)(hm:X.mg x=none)(hv:bootBuiltins x=some u)(h:Q u s)
 (hn:x ≠ "__name__" := by decide) (hd:(x==("__debug__" : Str))=false:=by decide):wpAny (model X.prog X.w) X.A (eval (.Name x pos) X.env) Q E s:=by
 obtain⟨mb,h1,h2⟩:=I.mod.blt;exact Calls.Name_function_global I.ok.kind hg (Calls.loadGlobal_builtin (by rw[I.ok.glob];exact I.mod.glob.keeps I.bk) hm (by rw[I.ok.blt];exact h1.keeps I.bk) ((h2 x hn).trans hv) h) hd
theorem QN {x:Str}{v:V}{u:Value}{pos:Pos}(hg:Gl X x)(hm:X.mg x=none)(hv:bootBuiltins x=some u)(r:RelV v u)(hn:x ≠ "__name__" := by decide)(hd:(x==("__debug__" : Str))=false:=by decide):PE X (.Name x pos) (tC v):=
 λ _ _ _ H _ I h=>F4 I hg hm hv ⟨v,H,I,r,h⟩ hn hd
variable {a b:Expr}{ta tb:TE}{pos:Pos}
def PC (X:Cx)(op:CmpOp)(a b:Expr)(t:TE):Prop:=
 ∀(pins:List (Addr×Obj)) (s:Shared) (σ:St) (H:Hp) (Q:VK),Inv X pins σ H s->t σ H Q->
  wpAny (model X.prog X.w) X.A (eval a X.env) (λ v s₁=>wpAny (model X.prog X.w) X.A (eval b X.env) (λ u s₂=>wpAny (model X.prog X.w) X.A (compareOp op v u) (EP X pins σ Q) X.xe s₂) X.xe s₁) X.xe s
theorem Og (b:Expr){op:CmpOp}(h:op≠.In)(h2:op≠.NotIn):behindInMarks op b=false:=by
 have e1:(op==CmpOp.In)=false:=by cases op<;>first|rfl|exact absurd rfl h
 have e2:(op==CmpOp.NotIn)=false:=by cases op<;>first|rfl|exact absurd rfl h2
 cases b<;>simp[behindInMarks,e1,e2]
noncomputable def WR (ta:TE):TE:=λ σ H Q=>ta σ H λ x H1=>Q (.bl (decide (x=.Ax))) H1
noncomputable def Vg (ta:TE):TE:=λ σ H Q=>ta σ H λ x H1=>Q (.bl (!decide (x=.Ax))) H1
theorem RelV.Ks {x:V}{v:Value}(r:RelV x v):(v==Value.none)=decide (x=.Ax):=by
 cases x with
 |Ax|bl _=>cases r;rfl
 |int _|str _|UX _|Wt _=>obtain⟨t,rfl⟩:=r;rfl
 |ref _|ty _=>cases r;rfl
theorem SQ {j pos'}(ha:PE X a ta):PC X .Is a (.Constant .none j pos') (WR ta):=by
 intro pins s σ H Q I h;refine B2 (ha pins s σ H _ I h) λ v s1 ⟨x,H1,I1,r1,q1⟩=>?_;exact Constant_none (is_none_gen ⟨.bl _,H1,I1,by rw[r1.Ks];rfl,q1⟩)
theorem QO {j pos'}(ha:PE X a ta):PC X .IsNot a (.Constant .none j pos') (Vg ta):=by
 intro pins s σ H Q I h;refine B2 (ha pins s σ H _ I h) λ v s1 ⟨x,H1,I1,r1,q1⟩=>?_;exact Constant_none (isnot_none_gen ⟨.bl _,H1,I1,by rw[r1.Ks];rfl,q1⟩)
noncomputable def tB (t:TE):TT:=λ σ H Q=>t σ H λ x H1=>∃c,x=.bl c/\Q c H1
theorem Oh {op:CmpOp}{t:TE}(h:PC X op a b t)(h1:behindInMarks op b=false:=by first | exact Og _ (by decide) (by decide) | rfl):PT X (.Compare a [op] [b] pos) (tB t):=by
 intro pins s σ H Q I hw;refine wpAny_isTrue_Compare1 (B2 (h pins s σ H _ I hw) λ v s1 h1=>B2 h1 λ u s2 h2=>B2 h2 λ c s3 ⟨x,H1,I1,r1,q1⟩=>?_) h1;obtain⟨d,rfl,q⟩:=q1;cases r1;exact wpAny_truthy_bool ⟨H1,I1,q⟩
variable {tA cW:TT}{rest:List Expr}
noncomputable def WS (t u:TT):TT:=λ σ H Q=>t σ H λ c H1=>if c=true then u σ H1 Q else Q false H1
noncomputable def Y1 (t u:TT):TT:=λ σ H Q=>t σ H λ c H1=>if c=true then Q true H1 else u σ H1 Q
noncomputable def WT (t:TT):TT:=λ σ H Q=>t σ H λ c H1=>Q (!c) H1
theorem pw_and1 (ha:PT X a tA):PW X (.BoolOp .And [a] pos) tA:=by
 intro wh pins s σ H Q I h;refine isTrue_and (B2 (ha pins s σ H Q I h) λ c s1 e=>?_);cases c with
 |true=>exact isTrue_and_nil e
 |false=>exact e
theorem pw_or1 (ha:PT X a tA):PW X (.BoolOp .Or [a] pos) tA:=by
 intro wh pins s σ H Q I h;refine isTrue_or (B2 (ha pins s σ H Q I h) λ c s1 e=>?_);cases c with
 |false=>exact isTrue_or_nil e
 |true=>exact e
theorem pw_and (ha:PT X a tA)(hb:PW X (.BoolOp .And (b::rest) pos) cW):PW X (.BoolOp .And (a::b::rest) pos) (WS tA cW):=by
 intro wh pins s σ H Q I h;refine isTrue_and (B2 (ha pins s σ H _ I h) λ c s1 ⟨H1,I1,q1⟩=>?_);cases c with
 |true=>exact hb wh pins s1 σ H1 Q I1 q1
 |false=>exact⟨H1,I1,q1⟩
theorem pw_or (ha:PT X a tA)(hb:PW X (.BoolOp .Or (b::rest) pos) cW):PW X (.BoolOp .Or (a::b::rest) pos) (Y1 tA cW):=by
 intro wh pins s σ H Q I h;refine isTrue_or (B2 (ha pins s σ H _ I h) λ c s1 ⟨H1,I1,q1⟩=>?_);cases c with
 |true=>exact⟨H1,I1,q1⟩
 |false=>exact hb wh pins s1 σ H1 Q I1 q1
theorem SR (ha:PT X a tA):PT X (.UnaryOp .Not a pos) (WT tA):=by
 intro pins s σ H Q I h;exact isTrue_not (ha pins s σ H (λ c H1=>Q (!c) H1) I h)
noncomputable def Vh (ta tb:TE):TE:=λ σ H Q=>ta σ H λ x H1=>∃c,x=.bl c/\if c=true then tb σ H1 Q else Q (.bl false) H1
noncomputable def WU (ta tb:TE):TE:=λ σ H Q=>ta σ H λ x H1=>∃c,x=.bl c/\if c=true then Q (.bl true) H1 else tb σ H1 Q
theorem Oi {op}{t:TE}(h:PE X a t):PE X (.BoolOp op [a] pos) t:=λ pins s σ H Q I hw=>BoolOp_one (h pins s σ H Q I hw)
theorem SS (ha:PE X a ta)(hb:PE X (.BoolOp .And (b::rest) pos) tb):PE X (.BoolOp .And (a::b::rest) pos) (Vh ta tb):=by
 intro pins s σ H Q I h;refine BoolOp_and (B2 (ha pins s σ H _ I h) λ v s1 ⟨x,H1,I1,r1,q1⟩=>?_);obtain⟨c,rfl,q1⟩:=q1;cases r1;refine wpAny_truthy_bool ?_;cases c with
 |true=>exact hb pins s1 σ H1 Q I1 q1
 |false=>exact⟨.bl false,H1,I1,rfl,q1⟩
theorem Vi (ha:PE X a ta)(hb:PE X (.BoolOp .Or (b::rest) pos) tb):PE X (.BoolOp .Or (a::b::rest) pos) (WU ta tb):=by
 intro pins s σ H Q I h;refine BoolOp_or (B2 (ha pins s σ H _ I h) λ v s1 ⟨x,H1,I1,r1,q1⟩=>?_);obtain⟨c,rfl,q1⟩:=q1;cases r1;refine wpAny_truthy_bool ?_;cases c with
 |false=>exact hb pins s1 σ H1 Q I1 q1
 |true=>exact⟨.bl true,H1,I1,rfl,q1⟩
end
def CC (K:za)(H:Hp)(a:Addr)(xs:List V):Prop:=
 Rd H a (.lst xs) \/
  ∃(o:Obj) (aa:Array Value) (n:Nat),K.lookup a=some o/\o.cls=.type "list" /\ o.dict=none/\o.data=.seq aa n/\aa.size<=sizeLine/\Vals xs aa.toList
def IH (K:za)(H:Hp)(a:Addr)(xs:List V):Prop:=
 Rd H a (.tup xs) \/
  ∃(o:Obj) (aa:Array Value) (n:Nat),K.lookup a=some o/\o.cls=.type "tuple" /\ o.data=.seq aa n/\aa.size<=sizeLine/\Vals xs aa.toList
noncomputable def WV:Value->Option V
 | .none=>some .Ax
 | .bool b=>some (.bl b)
 | .int i _=>some (.int i)
 | .str x _=>some (.str x)
 | .bytes b _=>some (.UX b)
 | .float b _=>some (.Wt b)
 | .ref a=>some (.ref a)
 | .type n=>some (.ty n)
 |_=>none
theorem RelV.abs {x:V}{u:Value}(r:RelV x u):WV u=some x:=by
 cases x with
 |Ax|bl _=>cases r;rfl
 |int _|str _|UX _|Wt _=>obtain⟨t,rfl⟩:=r;rfl
 |ref _|ty _=>cases r;rfl
theorem RelV.inj {x y:V}{u:Value}(r:RelV x u)(q:RelV y u):x=y:=zw (r.abs.symm.trans q.abs)
theorem Vals.inj:∀ {xs ys:List V}{us:List Value},Vals xs us->Vals ys us->xs=ys
 |_,_,_,.nil,.nil=>rfl
 |_,_,_,.cons r t,.cons r' t'=>by rw[r.inj r',Vals.inj t t']
section
variable {X:Cx}{pins:List (Addr×Obj)}{σ:St}{H:Hp}{s:Shared}{a:Addr}{xs ys:List V}
theorem CC.of {K:za}(h:H a=some (.lst xs)):CC K H a xs:=.inl (.inl h)
theorem IH.of {K:za}(h:H a=some (.tup xs)):IH K H a xs:=.inl (.inl h)
theorem Inv.list (I:Inv X pins σ H s)(h:CC X.K H a xs):∃aa:List Value,Vals xs aa/\PlainL s.heap a aa.toArray/\xs.length<=sizeLine:=by
 rcases h with h|⟨o,aa,n,hk,hc,hd,hs,hz,r⟩
 ·obtain⟨z,aa,n,r,e⟩:=h.ok I.As;exact⟨aa,r,⟨_,n,e,rfl,rfl,rfl⟩,z⟩
 ·refine⟨aa.toList,r,⟨o,n,I.Mw a o hk,hc,hd,by simpa using hs⟩,?_⟩;have e:=r.length;simp only[Array.length_toList] at e;omega
theorem Inv.tuple (I:Inv X pins σ H s)(h:IH X.K H a xs):∃aa:List Value,Vals xs aa/\IsTup s.heap a aa.toArray/\xs.length<=sizeLine:=by
 rcases h with h|⟨o,aa,n,hk,hc,hs,hz,r⟩
 ·obtain⟨z,aa,r,p⟩:=h.ok I.As;exact⟨aa,r,p,z⟩
 ·refine⟨aa.toList,r,⟨o,I.Mw a o hk,hc,n,by simpa using hs⟩,?_⟩;have e:=r.length;simp only[Array.length_toList] at e;omega
theorem Inv.Ez (I:Inv X pins σ H s)(h:CC X.K H a xs)(h':CC X.K H a ys):xs=ys:=by
 obtain⟨aa,r,⟨o,n,e,_,_,d⟩,_⟩:=I.list h;obtain⟨its',r',⟨o',n',e',_,_,d'⟩,_⟩:=I.list h';rw[e] at e';cases e';rw[d] at d';injection d' with d1 _
 have:aa=its':=by simpa using congrArg Array.toList d1
 subst this;exact r.inj r'
theorem Inv.II (I:Inv X pins σ H s)(h:IH X.K H a xs)(h':IH X.K H a ys):xs=ys:=by
 obtain⟨aa,r,⟨o,e,_,n,d⟩,_⟩:=I.tuple h;obtain⟨its',r',⟨o',e',_,n',d'⟩,_⟩:=I.tuple h';rw[e] at e';cases e';rw[d] at d';injection d' with d1 _
 have:aa=its':=by simpa using congrArg Array.toList d1
 subst this;exact r.inj r'
end
noncomputable abbrev Cx.Io (X:Cx)(E:Value->Shared->Prop):Cx:={X with xe:=E}
noncomputable abbrev Cx.Vj (X:Cx):Cx:=X.Io λ _ _=>False
theorem Cx.Ok.Io {X:Cx}(ok:X.Ok)(E:Value->Shared->Prop):(X.Io E).Ok:=
 ⟨ok.mod,ok.kind,ok.glob,ok.blt,ok.above,ok.inj,ok.has,ok.Ve,ok.hd,ok.frames,ok.Sa,ok.Wv,ok.bs,ok.Sb,ok.Oe,ok.Of,ok.F3,ok.UY⟩
theorem Cx.Ok.D6 {X:Cx}{E:Value->Shared->Prop}(ok:(X.Io E).Ok):X.Ok:=
 ⟨ok.mod,ok.kind,ok.glob,ok.blt,ok.above,ok.inj,ok.has,ok.Ve,ok.hd,ok.frames,ok.Sa,ok.Wv,ok.bs,ok.Sb,ok.Oe,ok.Of,ok.F3,ok.UY⟩
section
variable {X:Cx}{pins:List (Addr×Obj)}{σ:St}{H:Hp}{s:Shared}{E:Value->Shared->Prop}
theorem Inv.Io (I:Inv X pins σ H s)(E:Value->Shared->Prop):Inv (X.Io E) pins σ H s:=⟨I.ok.Io E,I.os,I.bare,I.base,I.loc,I.cell,I.free,I.Cn,I.pin,I.As,I.len⟩
theorem Inv.D6 (I:Inv (X.Io E) pins σ H s):Inv X pins σ H s:=⟨I.ok.D6,I.os,I.bare,I.base,I.loc,I.cell,I.free,I.Cn,I.pin,I.As,I.len⟩
theorem SP.D6 {D:Ends}{f:Flow}{s':Shared}(h:SP (X.Io E) pins D f s'):SP X pins D f s':=by
 cases f with
 |next|brk|cont=>obtain⟨σ',H',I,q⟩:=h;exact⟨σ',H',I.D6,q⟩
 |ret u=>obtain⟨v,σ',H',I,r,q⟩:=h;exact⟨v,σ',H',I.D6,r,q⟩
theorem Mx.Vj {st:List Stmt}{t:TS}(h:Mx X.Vj st t):Mx X st t:=λ pins s σ H D I hw =>
 wpAny_mono (h pins s σ H D (I.Io _) hw) (λ _ _ q=>q.D6) λ _ _ z=>False.elim z
end
section
variable {X:Cx}{st:Stmt}{rest:List Stmt}{t u:TS}{e:Expr}{te:TE}{pos:Pos}
noncomputable def Vk:TS:=λ D σ H=>D.nx σ H
noncomputable def WW (t u:TS):TS:=λ D σ H=>t {D with nx:=u D} σ H
theorem QP:Mx X [] Vk:=λ _ _ σ H _ I h=>wpAny_execs_nil ⟨σ,H,I,h⟩
theorem Oj (h1:PS X st t)(h2:Mx X rest u):Mx X (st::rest) (WW t u):=by
 intro pins s σ H D I h;refine wpAny_execs_cons (B2 (h1 pins s σ H {D with nx:=u D} I h) λ f s1 q=>?_);cases f with
 |next =>
  obtain⟨σ',H',I',q⟩:=q;exact h2 pins s1 σ' H' D I' q
 |ret v|brk|cont=>exact q
theorem QQ (h1:PS X st t):Mx X [st] t:=by
 intro pins s σ H D I h;refine wpAny_execs_cons (B2 (h1 pins s σ H D I h) λ f s1 q=>?_);cases f with
 |next=>exact wpAny_execs_nil q
 |ret v|brk|cont=>exact q
theorem Inv.quiet {pins:List (Addr×Obj)}{σ:St}{H:Hp}{s:Shared}(I:Inv X pins σ H s):interactive X.env=false:=by simp[interactive,I.ok.kind]
noncomputable def Vl (te:TE):TS:=λ D σ H=>te σ H λ _ H1=>D.nx σ H1
theorem My (he:PE X e te)(hs:swapsWith e none pos.line X.env=pure false:=by rfl):PS X (.Expr e pos) (Vl te):=by
 intro pins s σ H D I h;exact wpAny_Expr_any (B2 (he pins s σ H _ I h) λ v s1 ⟨x,H1,I1,r1,q1⟩=>⟨σ,H1,I1,q1⟩) I.quiet hs
noncomputable def WY (te:TE):TS:=λ D σ H=>te σ H D.rt
theorem Jl (he:PE X e te):PS X (.Return (some e) pos) (WY te):=by
 intro pins s σ H D I h;exact wpAny_Return_some (B2 (he pins s σ H _ I h) λ v s1 ⟨x,H1,I1,r1,q1⟩=>⟨x,σ,H1,I1,r1,q1⟩)
noncomputable def WZ (c:TT)(t u:TS):TS:=λ D σ H=>c σ H λ b H1=>if b=true then t D σ H1 else u D σ H1
theorem Vm {c:Expr}{a b:List Stmt}{tc:TT}(hc:PT X c tc)(ha:Mx X a t)(hb:Mx X b u):PS X (.If c a b pos) (WZ tc t u):=by
 intro pins s σ H D I h;refine wpAny_If (B2 (hc pins s σ H _ I h) λ d s1 ⟨H1,I1,q1⟩=>?_);cases d with
 |true=>exact ha pins s1 σ H1 D I1 q1
 |false=>exact hb pins s1 σ H1 D I1 q1
end
noncomputable abbrev TG:=V->St->Hp->(St->Hp->Prop)->Prop
noncomputable abbrev Se:=List V->St->Hp->(St->Hp->Prop)->Prop
def PG (X:Cx)(target:Expr)(t:TG):Prop:=
 ∀(pins:List (Addr×Obj)) (s:Shared) (σ:St) (H:Hp) (v:V) (u:Value) (Q:St->Hp->Prop),Inv X pins σ H s->RelV v u->t v σ H Q->
  wpAny (model X.prog X.w) X.A (assign target X.env u) (λ _ s'=>∃σ' H',Inv X pins σ' H' s'/\Q σ' H') X.xe s
def Vn (X:Cx)(ts:List Expr)(t:Se):Prop:=
 ∀(pins:List (Addr×Obj)) (s:Shared) (σ:St) (H:Hp) (vs:List V) (us:List Value) (Q:St->Hp->Prop),Inv X pins σ H s->Vals vs us->t vs σ H Q->
  wpAny (model X.prog X.w) X.A (assignInOrder ((assignEach ts X.env).map (·.2)) us) (λ _ s'=>∃σ' H',Inv X pins σ' H' s'/\Q σ' H') X.xe s
section
variable {X:Cx}{pos:Pos}
noncomputable def Mz (i:Nat):TG:=λ v σ H Q=>Q (σ.set i (some v)) H
theorem MA {i:Nat}{x:Str}(hN:X.N.Nodup)(hi:X.N[i]?=some x)(hx:Loc X.env.scope x)(hf:X.fn x=true\/X.env.scope.names.lookup x=some .local:=by first | exact .inl rfl | exact .inr rfl | assumption):PG X (.Name x pos) (Mz i):=by
 intro pins s σ H v u Q I r h;exact wpAny_assign_Name (Kr I hN hi hx r (λ s' I'=>⟨_,H,I',h⟩) hf)
noncomputable def X0:Se:=λ vs σ H Q=>vs=[]/\Q σ H
noncomputable def Vo (t:TG)(u:Se):Se:=λ vs σ H Q=>∃v r,vs=v::r/\t v σ H λ σ' H'=>u r σ' H' Q
theorem QR:Vn X [] X0:=by
 intro pins s σ H vs us Q I r h;obtain⟨e,h⟩:=h;subst e;cases r;exact assignInOrder_nil ⟨σ,H,I,h⟩
theorem Ol {e:Expr}{es:List Expr}{t:TG}{u:Se}(h1:PG X e t)(h2:Vn X es u)
 (hs:(assignEach (e::es) X.env).map (·.2)=assign e X.env::(assignEach es X.env).map (·.2):=by rfl):Vn X (e::es) (Vo t u):=by
 intro pins s σ H vs us Q I r h;obtain⟨v,vr,e1,h⟩:=h;subst e1;cases r with
 |cons r rr =>
  rw[hs];refine assignInOrder_cons (B2 (h1 pins s σ H _ _ _ I r h) λ _ s1 ⟨σ1,H1,I1,q1⟩=>?_);exact h2 pins s1 σ1 H1 _ _ Q I1 rr q1
noncomputable def X1 (K:za)(n:Nat)(t:Se):TG:=λ v σ H Q=>∃a xs,v=.ref a/\IH K H a xs/\xs.length=n/\t xs σ H Q
theorem SU {es:List Expr}{k:Nat}{t:Se}{n:Nat}(hc:X.calm=true)(h:Vn X es t)
 (hn:(assignEach es X.env).length=n:=by rfl) (ci:(assignEach es X.env).findIdx? (·.1)=none:=by rfl):PG X (.Tuple es k pos) (X1 X.K n t):=by
 intro pins s σ H v u Q I r hw;obtain⟨a,xs,e1,hq,hl,hw⟩:=hw;subst e1;cases r;obtain⟨aa,rv,ht,hz⟩:=I.tuple hq;refine assign_Tuple_tuple (I.ok.hd hc) ht (by simp[hn,<-hl,rv.length]) ci λ h' hx=>?_;have I1:Inv X pins σ H {s with heap:=h' }:=I.kept (t':=s.toks) λ b o e=>hx b o (zB (zl e)) e;exact h pins _ σ H xs _ Q I1 (by simpa using rv) hw
noncomputable def X2 (te:TE)(g:TG):TS:=λ D σ H=>te σ H λ x H1=>g x σ H1 D.nx
theorem LF {i:Nat}{x:Str}{e:Expr}{te:TE}{pos':Pos}(hN:X.N.Nodup)(hi:X.N[i]?=some x)(hx:Loc X.env.scope x)(he:PE X e te)(hs:swapsWith e (some (.Name x pos')) pos.line X.env=pure false:=by rfl)(hf:X.fn x=true\/X.env.scope.names.lookup x=some .local:=by first | exact .inl rfl | exact .inr rfl | assumption):
 PS X (.Assign [.Name x pos'] e pos) (X2 te (Mz i)):=by
 intro pins s σ H D I h;refine wpAny_Assign_Name (B2 (he pins s σ H _ I h) λ v s1 ⟨y,H1,I1,r1,q1⟩=>?_) hs;exact Kr I1 hN hi hx r1 (λ s2 I2=>⟨_,H1,I2,q1⟩) hf
end
section
variable {X:Cx}{pos:Pos}
noncomputable def SV (c:TT)(tb:TS):TS:=λ D σ H=>∃W:Nat->St->Hp->Prop,(∃m,W m σ H)/\∀m σ H,W m σ H->
 c σ H λ b H1=>if b=true then ∃N:St->Hp->Prop,(∀σ' H',N σ' H'->∃m',m'<m/\W m' σ' H')/\tb {D with nx:=N,ct:=N,bk:=D.nx} σ H1 else D.nx σ H1
theorem Om {c:Expr}{body:List Stmt}{tc:TT}{tb:TS}(hp:PassesOwn (model X.prog X.w) X.A X.env X.xe)(hc:PT X c tc)(hb:Mx X body tb):PS X (.While c body [] pos) (SV tc tb):=by
 intro pins s σ H D I h;obtain⟨W,⟨m0,w0⟩,turn⟩:=h;refine wpAny_While (codeAny_whileLoop (λ n s'=>∃σ' H',Inv X pins σ' H' s'/\W n σ' H') ?_ m0 ⟨σ,H,I,w0⟩);rintro n s1 ⟨σ1,H1,I1,w1⟩;refine wpAny_passesOwn hp (B2 (hc pins s1 σ1 H1 _ I1 (turn n σ1 H1 w1)) λ b s2 ⟨H2,I2,q2⟩=>?_);cases b with
 |true =>
  obtain⟨N,hN,q2⟩:=q2;rw[if_pos rfl];refine wpAny_passesOwn hp (B2 (hb pins s2 σ1 H2 _ I2 q2) λ f s3 q3=>?_);cases f with
  |next =>
   obtain⟨σ3,H3,I3,n3⟩:=q3;obtain⟨m',hm,w3⟩:=hN σ3 H3 n3;exact⟨m',hm,σ3,H3,I3,w3⟩
  |cont =>
   obtain⟨σ3,H3,I3,n3⟩:=q3;obtain⟨m',hm,w3⟩:=hN σ3 H3 n3;exact⟨m',hm,σ3,H3,I3,w3⟩
  |brk|ret v=>exact q3
 |false =>
  rw[if_neg zA];exact wpAny_execs_nil ⟨σ1,H2,I2,q2⟩
end
structure It where
 go:Nat->Hp->Prop
 QS:Nat->Hp->V->Hp->Prop
 stop:Nat->Hp->Prop
def FU (X:Cx)(pins:List (Addr×Obj))(H:Hp)(b:Addr):Prop:=
 H b=none/\b≠X.env.locals/\b∉X.fs/\(b∈X.ex\/X.s₀.heap.objs.size<=b)/\(∀x c,X.env.cells.lookup x=some c->c≠b)/\∀p∈X.pn++pins,p.1≠b
theorem Inv.Oo {X:Cx}{pins:List (Addr×Obj)}{σ:St}{H H':Hp}{s:Shared}{b:Addr}(I:Inv X pins σ H s)(hb:s.heap.objs.size<=b)(hn:H' b=none):FU X pins H' b:=by
 refine⟨hn,Nat.ne_of_gt (zt I.lt hb),I.WQ hb,.inr (zW I.sz hb),λ x c e z=>?_,λ p hp z=>?_⟩
 ·obtain⟨v,q⟩:=I.cell x c e;exact absurd (zt q.lt (by rw[z];exact hb)) (Nat.lt_irrefl _)
 ·exact absurd (zt (zl (I.pin p hp).1) (by rw[z];exact hb)) (Nat.lt_irrefl _)
structure Turn (P:Program)(w:World)(K:za)(tg:Expr)(J:It)(fp:List Addr)(it:Addr)(tn:Nat->Heap->Prop):Prop where
 mem:it∈fp
 obj:∀i h,tn i h->∀b∈fp,∃o,h.get? b=some o/\∀v,o.data≠.cell v
 keep:∀i h h',tn i h->(∀b∈fp,∀o,h.get? b=some o->h'.get? b=some o)->tn i h'
 item:∀(X:Cx),X.prog=P->X.w=w->X.K=K->X.calm=true->∀(i:Nat) (pins:List (Addr×Obj)) (s:Shared) (σ:St) (H:Hp) (E:Value->Shared->Prop),Inv X pins σ H s->(∀b∈fp,FU X pins H b)->tn i s.heap->J.go i H->
  wpAny (model P w) X.A (pyNext (.ref it)) (λ r s1=>∃u,r=some u/\
   wpAny (model P w) X.A (letOwnedTupleGo tg (.ref it) u) (λ _ s2=>∃x H',Inv X pins σ H' s2/\RelV x u/\J.QS i H x H'/\tn (i+1) s2.heap/\∀b∈fp,H' b=none) E s1) E s
 done:∀(X:Cx),X.prog=P->X.w=w->X.K=K->X.calm=true->∀(i:Nat) (pins:List (Addr×Obj)) (s:Shared) (σ:St) (H:Hp) (E:Value->Shared->Prop),Inv X pins σ H s->(∀b∈fp,FU X pins H b)->tn i s.heap->J.stop i H->
  wpAny (model P w) X.A (pyNext (.ref it)) (λ r s1=>r=none/\Inv X pins σ H s1) E s
 self:∀(A:Around) (i:Nat) (s:Shared) (Q:Value->Shared->Prop) (E:Value->Shared->Prop),tn i s.heap->Q (.ref it) s->wpAny (model P w) A (pyIter (.ref it)) Q E s
noncomputable abbrev TI:=St->Hp->(It->Hp->Prop)->Prop
def X3 (X:Cx)(pins:List (Addr×Obj))(σ:St)(tg:Expr)(R:It->Hp->Prop)(cX:Value)(s2:Shared):Prop:=
 ∃(it:Addr) (fp:List Addr) (tn:Nat->Heap->Prop) (J:It) (H':Hp),cX=.ref it/\Inv X pins σ H' s2/\Turn X.prog X.w X.K tg J fp it tn/\tn 0 s2.heap/\(∀b∈fp,FU X pins H' b)/\R J H'
def PI (X:Cx)(tg iter:Expr)(wi:TI):Prop:=
 ∀(pins:List (Addr×Obj)) (s:Shared) (σ:St) (H:Hp) (R:It->Hp->Prop),Inv X pins σ H s->wi σ H R->
  wpAny (model X.prog X.w) X.A (eval iter X.env) (λ v s1=>wpAny (model X.prog X.w) X.A (pyIter v) (X3 X pins σ tg R) X.xe s1) X.xe s
theorem Oq {M:Model}{A:Around}{E:Value->Shared->Prop}{s:Shared}{tg:Expr}{it:Addr}{u:Value}{o:Obj}{n:String}{vs:Array Value}{Q:Unit->Shared->Prop}(ho:s.heap.get? it=some o)(hc:o.cls=.type n)(hd:o.data=.fields vs)
 (hn:["enumerate","zip","dict_itemiterator","dict_reverseitemiterator","odict_iterator","itertools.zip_longest","itertools.pairwise"].contains n=false) (hQ:Q () s):wpAny M A (letOwnedTupleGo tg (.ref it) u) Q E s:=by
 unfold letOwnedTupleGo;cases tg<;>first
  |exact wpAny_pure hQ
  |(cases u<;>first
   |exact wpAny_pure hQ
   |(
    refine wpAny_bind (wpAny_load ho ?_);rw[hc,hd];show wpAny M A (if (["enumerate","zip","dict_itemiterator","dict_reverseitemiterator","odict_iterator","itertools.zip_longest","itertools.pairwise"].contains n&&vs[0]?== some (rawInt _))=true then _ else _) Q E s;rw[if_neg (by intro h;rw[hn,Bool.false_and] at h;cases h)];exact wpAny_pure hQ))
noncomputable def XD (K:za)(a:Addr):It:=
 ⟨λ i H=>∃xs x,CC K H a xs/\xs[i]?=some x,λ i H x H'=>H'=H/\∀xs,CC K H a xs->xs[i]?=some x,λ i H=>∃xs,CC K H a xs/\xs.length<=i⟩
noncomputable def Ww (lo:Int)(n:Nat):It:=⟨λ i _=>i<n,λ i H x H'=>H'=H/\x=.int (lo+i),λ i _=>n<=i⟩
theorem Nf {P:Program}{w:World}{K:za}{tg:Expr}(a it:Addr):Turn P w K tg (XD K a) [it] it (λ i h=>h.IsListIter it a i) where
 mem:=by simp
 obj:=λ i h st b hb=>by
  have e:b=it:=by simpa using hb
  subst e;obtain⟨o,e,c,d⟩:=st;exact⟨o,e,λ v z=>by rw[d] at z;cases z⟩
 keep:=λ i h h' st k=>st.at λ o e=>k it (by simp) o e
 item:=by
  intro X hP hw hK hc i pins s σ H E I hf st hg;subst hP hw hK;obtain⟨xs,x,hq,hx⟩:=hg;obtain⟨aa,rv,p,hz⟩:=I.list hq;obtain⟨u,hu,ru⟩:=rv.get hx;obtain⟨f0,f1,f2,f3,f4,f5⟩:=hf it (by simp);refine wpAny_pyNext_list_item st p.isList (x:=u) (by simpa using hu) λ h' bH sb=>?_;have I1:Inv X pins σ H {s with heap:=h' }:=I.turned (t':=s.toks) (λ b o hb e=>(sb.2 b hb).trans e) f0 f1 f3 f4 f5;obtain⟨o,e,c,d⟩:=id bH;exact⟨u,rfl,Oq (s:={s with heap:=h' }) e c d (by decide) ⟨x,H,I1,ru,⟨rfl,λ ys hy=>by rw[I.Ez hy hq];exact hx⟩,bH,λ b hb=>(hf b hb).1⟩⟩
 done:=by
  intro X hP hw hK hc i pins s σ H E I hf st hg;subst hP hw hK;obtain⟨xs,hq,hx⟩:=hg;obtain⟨aa,rv,p,hz⟩:=I.list hq;obtain⟨f0,f1,f2,f3,f4,f5⟩:=hf it (by simp);have hl:=rv.length;exact wpAny_pyNext_list_end (I.ok.hd hc) st p.isList (by simp;omega) λ h' eb=>⟨rfl,I.turned (t':=s.toks) (λ b o hb e=>eb b o hb e) f0 f1 f3 f4 f5⟩
 self:=λ _ _ _ _ _ st h=>wpAny_pyIter_listiter st h
theorem LG {P:Program}{w:World}{K:za}{tg:Expr}(it:Addr)(lo:Int)(n:Nat):Turn P w K tg (Ww lo n) [it] it (λ i h=>IsRangeIter h it (lo+(i:Nat)*1) ((n:Int)-(i:Nat)) 1) where
 mem:=by simp
 obj:=λ i h st b hb=>by
  have e:b=it:=by simpa using hb
  subst e;exact⟨_,st,λ v z=>by
   have z':Data.fields _=Data.cell v:=z;cases z'⟩
 keep:=λ i h h' st k=>k it (by simp) _ st
 item:=by
  intro X hP hw hK hc i pins s σ H E I hf st hg;subst hP hw hK;obtain⟨f0,f1,f2,f3,f4,f5⟩:=hf it (by simp);have W:=Walks.range (prog:=X.prog) (w:=X.w) (I.ok.hd hc) it lo 1 n;refine W.item i s _ _ hg st λ v h' tk hv bH kk=>?_;obtain⟨t,rfl⟩:=hv;have I1:Inv X pins σ H {s with heap:=h',toks:=tk}:=I.turned (λ b o hb e=>kk b o (by simpa using hb) e) f0 f1 f3 f4 f5;refine⟨_,rfl,Oq (s:={s with heap:=h',toks:=tk}) (n := "range_iterator") bH rfl rfl (by decide) ⟨.int (lo+i),H,I1,⟨t,?_⟩,⟨rfl,rfl⟩,bH,λ b hb=>(hf b hb).1⟩⟩;rw[Int.mul_one]
 done:=by
  intro X hP hw hK hc i pins s σ H E I hf st hg;subst hP hw hK;obtain⟨f0,f1,f2,f3,f4,f5⟩:=hf it (by simp);exact wpAny_pyNext_range_end (I.ok.hd hc) st (by have:n<=i:=hg;omega) λ h' eb=>⟨rfl,I.turned (t':=s.toks) (λ b o hb e=>eb b o hb e) f0 f1 f3 f4 f5⟩
 self:=λ _ _ _ _ _ st h=>wpAny_pyIter_rangeiter st h
section
variable {X:Cx}{tg:Expr}
noncomputable def Vp (K:za)(tl:TE):TI:=λ σ H R=>tl σ H λ x H1=>∃a,x=.ref a/\(∃xs,CC K H1 a xs)/\R (XD K a) H1
theorem QT {l:Expr}{tl:TE}(hl:PE X l tl):PI X tg l (Vp X.K tl):=by
 intro pins s σ H R I h;refine B2 (hl pins s σ H _ I h) λ v s1 ⟨x,H1,I1,r1,q1⟩=>?_;obtain⟨a,e,⟨xs,hq⟩,q⟩:=q1;subst e;cases r1;obtain⟨aa,rv,p,hz⟩:=I1.list hq;refine wpAny_pyIter_list p.isList ?_;refine⟨s1.heap.objs.size,[s1.heap.objs.size],_,_,H1,rfl,I1.kept (t':=s1.toks) λ b o e=>zq _ e,Nf a _,⟨_,zH _ rfl,rfl,rfl⟩,λ b hb=>?_,q⟩;have e:b=s1.heap.objs.size:=by simpa using hb
 subst e;exact I1.Oo (zm _) (I1.As.fresh (zm _))
theorem Ot {pins:List (Addr×Obj)}{σ:St}{H:Hp}{s:Shared}{R:It->Hp->Prop}{E:Value->Shared->Prop}{lo hi:Int}{t u v:Tok}{tk:Nat}(I:Inv X pins σ H s)(h1 : -(2^62)<=lo)(h2:lo<2^62)(h3 : -(2^62)<=hi)(h4:hi<2^62)
 (q:R (Ww lo (hi-lo).toNat) H):wpAny (model X.prog X.w) X.A (pyIter (.ref s.heap.objs.size)) (X3 X pins σ tg R) E {s with heap:=s.heap.push {cls:=.type "range",data:=.fields #[.int lo t,.int hi u,.int 1 v]},toks:=tk}:=by
 refine wpAny_pyIter_range (IsRange.new ..) (small_one h1 h2 h3 h4) ?_;have I1:Inv X pins σ H {s with heap:=s.heap.push {cls:=.type "range",data:=.fields #[.int lo t,.int hi u,.int 1 v]},toks:=tk}:=I.kept λ b o e=>zq _ e;refine⟨(s.heap.push {cls:=.type "range",data:=.fields #[.int lo t,.int hi u,.int 1 v]}).objs.size,[(s.heap.push {cls:=.type "range",data:=.fields #[.int lo t,.int hi u,.int 1 v]}).objs.size],_,_,H,rfl,
  I1.kept (t':=tk) λ b o e=>zq _ e,LG _ lo (hi-lo).toNat,?_,λ b hb=>?_,q⟩
 ·have e1:lo+((0:Nat):Int)*1=lo:=by simp
  have e2:(((hi-lo).toNat:Nat):Int)-((0:Nat):Int)=Builtin.Range.rangeSize lo hi 1:=by rw[rangeSize_one];split<;>omega
  show IsRangeIter _ _ (lo+((0:Nat):Int)*1) ((((hi-lo).toNat:Nat):Int)-((0:Nat):Int)) 1;rw[e1,e2];exact zH _ rfl
 ·have e:b=(s.heap.push {cls:=.type "range",data:=.fields #[.int lo t,.int hi u,.int 1 v]}).objs.size:=by simpa using hb
  subst e;exact I1.Oo (zm _) (I1.As.fresh (zm _))
noncomputable def Vq (ta:TA):TI:=λ σ H R=>ta σ H λ vs H1=>∃j:Int,vs=[.int j]/\-(2^62)<=j/\j<2^62/\R (Ww 0 j.toNat) H1
theorem Ng {a:Expr}{ta:TA}{p pos:Pos}(hg:Gl X "range")(hm:X.mg "range" = none)(ha:PA X [a] ta)(hs:starEach [a] X.env=[(false,eval a X.env)]:=by rfl):PI X tg (.Call (.Name "range" p) [a] [] pos) (Vq ta):=by
 intro pins s σ H R I h;refine Call_ (F4 I hg hm boot_range (yo (B2 (ha pos pins s σ H _ I h) λ us s1 ⟨vs,H1,I1,r1,q1⟩=>?_) hs rfl));obtain⟨j,e,q1,q2,q⟩:=q1;subst e;cases r1 with
 |cons r rr =>
  cases rr;obtain⟨t,rfl⟩:=r;exact call_range_1 (Ot I1 (by omega) (by omega) q1 q2 (by simpa using q))
noncomputable def X4 (wi:TI)(g:TG)(tb:TS):TS:=λ D σ H=>wi σ H λ J H1=>∃W:Nat->Nat->St->Hp->Prop,(∃m,W 0 m σ H1)/\∀i m σ H,W i m σ H->
 (J.stop i H/\D.nx σ H)\/(J.go i H/\∃N:St->Hp->Prop,(∀σ' H',N σ' H'->∃m',m'<m/\W (i+1) m' σ' H')/\∀x H',J.QS i H x H'->g x σ H' λ σ2 H2=>tb {D with nx:=N,ct:=N,bk:=D.nx} σ2 H2)
noncomputable def Ec (fp:List Addr)(h:Heap):List (Addr×Obj):=fp.filterMap λ b=>(h.get? b).map λ o=>(b,o)
theorem CF {fp:List Addr}{h:Heap}{b:Addr}{o:Obj}(hb:b∈fp)(e:h.get? b=some o):(b,o)∈Ec fp h:=List.mem_filterMap.mpr ⟨b,hb,by rw[e];rfl⟩
theorem IJ {fp:List Addr}{h:Heap}{p:Addr×Obj}(hp:p∈Ec fp h):p.1∈fp/\h.get? p.1=some p.2:=by
 obtain⟨b,hb,e⟩:=List.mem_filterMap.mp hp;cases q:h.get? b with
 |none=>rw[q] at e;cases e
 |some o =>
  rw[q] at e;have e':(b,o)=p:=zw e;subst e';exact⟨hb,q⟩
theorem Inv.pinned {pins:List (Addr×Obj)}{σ:St}{H:Hp}{s:Shared}{fp:List Addr}(I:Inv X pins σ H s)(hf:∀b∈fp,FU X pins H b)(ho:∀b∈fp,∃o,s.heap.get? b=some o/\∀v,o.data≠.cell v):Inv X (pins++Ec fp s.heap) σ H s:=
 I.Ey λ p hp=>(zC.mp hp).elim (λ z=>I.pin p (ze _ z)) λ z=>by
  obtain⟨hb,e⟩:=IJ z;obtain⟨f0,f1,f2,_⟩:=hf p.1 hb;obtain⟨o,e',d⟩:=ho p.1 hb;rw[e] at e';cases e';exact⟨e,f0,f1,f2,d⟩
theorem Inv.EA {pins pl:List (Addr×Obj)}{σ:St}{H:Hp}{s:Shared}(I:Inv X (pins++pl) σ H s):Inv X pins σ H s:=I.Ey λ p hp=>I.pin p (ze _ (zx _ hp))
theorem Ou {iter:Expr}{body:List Stmt}{wi:TI}{g:TG}{tb:TS}{pos:Pos}(hp:PassesOwn (model X.prog X.w) X.A X.env X.xe)(hc:X.calm=true)(hi:PI X tg iter wi)(hg:PG X tg g)(hb:Mx X body tb)
 (hs:∀x,foldedSetIterable iter X.env x=pure x:=by intro _;rfl):PS X (.For tg iter body [] pos) (X4 wi g tb):=by
 intro pins s σ H D I h;refine wpAny_For (B2 (hi pins s σ H _ I h) λ v s1 h1=>B2 h1 λ cX s2 h2=>?_) hs;obtain⟨it,fp,tn,J,H2,e,I2,T,bm,f2,W,⟨m0,w0⟩,turn⟩:=h2;subst e;have a6:∀ {H':Hp},(∀b∈fp,H' b=none)->∀b∈fp,FU X pins H' b:=λ hn b hb=>⟨hn b hb,(f2 b hb).2⟩;refine codeAny_forLoop_any (λ n s'=>∃i σ' H',Inv X pins σ' H' s'/\tn i s'.heap/\(∀b∈fp,H' b=none)/\W i n σ' H') ?_ m0 ⟨0,σ,H2,I2,bm,λ b hb=>(f2 b hb).1,w0⟩;rintro n s3 ⟨i,σ3,H3,I3,cv,cw,w3⟩;rcases turn i n σ3 H3 w3 with ⟨stop,qn⟩|⟨go,N,hN,step⟩
 ·refine wpAny_passesOwn hp (B2 (T.done X rfl rfl rfl hc i pins s3 σ3 H3 X.xe I3 (a6 cw) cv stop) λ r s4 ⟨hr,I4⟩=>?_);subst hr;exact wpAny_execs_nil ⟨σ3,H3,I4,qn⟩
 ·refine wpAny_passesOwn hp (B2 (T.item X rfl rfl rfl hc i pins s3 σ3 H3 X.xe I3 (a6 cw) cv go) λ r s4 ⟨u,hr,h4⟩=>?_);subst hr;refine wpAny_passesOwn hp (B2 h4 λ _ s5 ⟨x,H5,I5,r5,y5,bI,d7⟩=>?_);have d8:=I5.pinned (a6 d7) (T.obj _ _ bI);refine wpAny_passesOwn hp (B2 (hg _ s5 σ3 H5 x u _ d8 r5 (step x H5 y5)) λ _ s6 ⟨σ6,H6,I6,q6⟩=>?_);refine wpAny_passesOwn hp (B2 (hb _ s6 σ6 H6 _ I6 q6) λ f s7 q7=>?_);have again:∀ {σ7:St} {H7:Hp},Inv X (pins++Ec fp s5.heap) σ7 H7 s7->N σ7 H7->∃m,m<n/\∃i σ' H',Inv X pins σ' H' s7/\tn i s7.heap/\(∀b∈fp,H' b=none)/\W i m σ' H':=fun {σ7 H7} I7 n7=>by
   obtain⟨m',hm,w7⟩:=hN σ7 H7 n7;refine⟨m',hm,i+1,σ7,H7,I7.EA,T.keep _ _ _ bI λ b hb o e=>(I7.pin (b,o) (ze _ (ze _ (CF hb e)))).1,λ b hb=>?_,w7⟩;obtain⟨o,e,d⟩:=T.obj _ _ bI b hb;exact (I7.pin (b,o) (ze _ (ze _ (CF hb e)))).2.1
  cases f with
  |next|cont=>obtain⟨σ7,H7,I7,n7⟩:=q7;exact again I7 n7
  |brk=>obtain⟨σ7,H7,I7,q7⟩:=q7;exact⟨σ7,H7,I7.EA,q7⟩
  |ret v=>obtain⟨x7,σ7,H7,I7,r7,q7⟩:=q7;exact⟨x7,σ7,H7,I7.EA,r7,q7⟩
end
noncomputable abbrev R2:=V->V->Hp->VK->Prop
def F5 (X:Cx)(f:Value->Value->Sem Value)(r:R2):Prop:=
 ∀(pins:List (Addr×Obj)) (s:Shared) (σ:St) (H:Hp) (x y:V) (v u:Value) (Q:VK),Inv X pins σ H s->RelV x v->RelV y u->r x y H Q->
  wpAny (model X.prog X.w) X.A (f v u) (EP X pins σ Q) X.xe s
def X5 (X:Cx)(f:Value->Sem Value)(r:V->Hp->VK->Prop):Prop:=
 ∀(pins:List (Addr×Obj)) (s:Shared) (σ:St) (H:Hp) (x:V) (v:Value) (Q:VK),Inv X pins σ H s->RelV x v->r x H Q->
  wpAny (model X.prog X.w) X.A (f v) (EP X pins σ Q) X.xe s
def FK (X:Cx)(f:Value)(r:List V->Hp->VK->Prop):Prop:=
 ∀(pins:List (Addr×Obj)) (s:Shared) (σ:St) (H:Hp) (xs:List V) (us:List Value) (Q:VK),Inv X pins σ H s->Vals xs us->r xs H Q->
  wpAny (model X.prog X.w) X.A (call f us) (EP X pins σ Q) X.xe s
def X6 (X:Cx)(r:V->Hp->(Bool->Hp->Prop)->Prop):Prop:=
 ∀(pins:List (Addr×Obj)) (s:Shared) (σ:St) (H:Hp) (x:V) (v:Value) (Q:Bool->Hp->Prop),Inv X pins σ H s->RelV x v->r x H Q->
  wpAny (model X.prog X.w) X.A (truthy v) (TP X pins σ Q) X.xe s
noncomputable def Vr (r:R2)(ta tb:TE):TE:=λ σ H Q=>ta σ H λ x H1=>tb σ H1 λ y H2=>r x y H2 Q
noncomputable def Y2 (r:V->Hp->VK->Prop)(ta:TE):TE:=λ σ H Q=>ta σ H λ x H1=>r x H1 Q
noncomputable def rI (C:Int->Int->Prop)(g:Int->Int->V):R2:=λ x y H Q=>∃i j,x=.int i/\y=.int j/\C i j/\Q (g i j) H
noncomputable def UZ (g:Int->Int->V):R2:=λ x y H Q=>∃i j,x=.int i/\y=.int j/\Q (g i j) H
def rU (g:Int->V):V->Hp->VK->Prop:=λ x H Q=>∃i,x=.int i/\Q (g i) H
section
variable {X:Cx}{a b c:Expr}{ta tb tc:TE}{pos:Pos}
theorem SW (ha:PE X a ta)(hb:PE X b tb){pins:List (Addr×Obj)}{s:Shared}{σ:St}{H:Hp}{R:V->V->Hp->Prop}(I:Inv X pins σ H s)
 (h:ta σ H λ x H1=>tb σ H1 λ y H2=>R x y H2) {Q:Value->Shared->Prop} {f:Value->Value->Sem Value}
 (hf:∀v u s2 x y H2,Inv X pins σ H2 s2->RelV x v->RelV y u->R x y H2->wpAny (model X.prog X.w) X.A (f v u) Q X.xe s2):
 wpAny (model X.prog X.w) X.A (eval a X.env) (λ v s₁=>wpAny (model X.prog X.w) X.A (eval b X.env) (λ u s₂=>wpAny (model X.prog X.w) X.A (f v u) Q X.xe s₂) X.xe s₁) X.xe s:=by
 refine B2 (ha pins s σ H _ I h) λ v s1 ⟨x,H1,I1,r1,q1⟩=>?_;refine B2 (hb pins s1 σ H1 _ I1 q1) λ u s2 ⟨y,H2,I2,r2,q2⟩=>?_;exact hf v u s2 x y H2 I2 r1 r2 q2
theorem Vs {op:Operator}{r:R2}(ho:F5 X (binaryOp op) r)(ha:PE X a ta)(hb:PE X b tb):PE X (.BinOp a op b pos) (Vr r ta tb):=by
 intro pins s σ H Q I h;exact wpAny_BinOp (SW ha hb I h λ v u s2 x y H2 I2 rx ry q=>ho pins s2 σ H2 x y v u Q I2 rx ry q)
theorem Vt {op:UnaryOp}{r:V->Hp->VK->Prop}(ho:X5 X (unaryOp op) r)(ha:PE X a ta):PE X (.UnaryOp op a pos) (Y2 r ta):=by
 intro pins s σ H Q I h;exact UnaryOp_ (B2 (ha pins s σ H _ I h) λ v s1 ⟨x,H1,I1,r1,q1⟩=>ho pins s1 σ H1 x v Q I1 r1 q1)
theorem Wx {f:Value->Value->Sem Value}{C:Int->Int->Prop}{g:Int->Int->Int}
 (rule:∀(i j:Int) (t u:Tok) (s:Shared) (Q:Value->Shared->Prop) (E:Value->Shared->Prop),C i j->Q (.int (g i j) s.toks) {s with toks:=s.toks+1}->wpAny (model X.prog X.w) X.A (f (.int i t) (.int j u)) Q E s):
 F5 X f (rI C λ i j=>.int (g i j)):=by
 intro pins s σ H x y v u Q I rx ry h;obtain⟨i,j,rfl,rfl,hc,q⟩:=h;obtain⟨t,rfl⟩:=rx;obtain⟨t',rfl⟩:=ry;exact rule i j t t' s _ _ hc ⟨.int (g i j),H,I.tok _,⟨_,rfl⟩,q⟩
theorem Vu {f:Value->Value->Sem Value}{g:Int->Int->Int}
 (rule:∀(i j:Int) (t u:Tok) (s:Shared) (Q:Value->Shared->Prop) (E:Value->Shared->Prop),Q (.int (g i j) s.toks) {s with toks:=s.toks+1}->wpAny (model X.prog X.w) X.A (f (.int i t) (.int j u)) Q E s):
 F5 X f (UZ λ i j=>.int (g i j)):=by
 intro pins s σ H x y v u Q I rx ry h;obtain⟨i,j,rfl,rfl,q⟩:=h;obtain⟨t,rfl⟩:=rx;obtain⟨t',rfl⟩:=ry;exact rule i j t t' s _ _ ⟨.int (g i j),H,I.tok _,⟨_,rfl⟩,q⟩
theorem X7 {f:Value->Value->Sem Value}{g:Int->Int->Bool}
 (rule:∀(i j:Int) (t u:Tok) (s:Shared) (Q:Value->Shared->Prop) (E:Value->Shared->Prop),Q (.bool (g i j)) s->wpAny (model X.prog X.w) X.A (f (.int i t) (.int j u)) Q E s):
 F5 X f (UZ λ i j=>.bl (g i j)):=by
 intro pins s σ H x y v u Q I rx ry h;obtain⟨i,j,rfl,rfl,q⟩:=h;obtain⟨t,rfl⟩:=rx;obtain⟨t',rfl⟩:=ry;exact rule i j t t' s _ _ ⟨.bl (g i j),H,I,rfl,q⟩
def Kt (i j:Int):Prop:=0<j/\j<1073741824
def QU (i j:Int):Prop:=0<=j/\j<=1000000/\i.natAbs<2^64
def Ov (i j:Int):Prop:=(-(2^64)<i/\i<2^64)\/(-(2^64)<j/\j<2^64)
theorem Ov.ok {i j:Int}(h:Ov i j):IntMulOk i j:=by
 rcases h with ⟨h1,h2⟩|⟨h1,h2⟩
 ·exact .of_left (intBits_le_64 h1 h2)
 ·exact .of_right (intBits_le_64 h1 h2)
theorem SX:F5 X (binaryOp .Add) (UZ λ i j=>.int (i+j)):=Vu λ _ _ _ _ _ _ _ q=>add_int q
theorem SY:F5 X (binaryOp .Sub) (UZ λ i j=>.int (i-j)):=Vu λ _ _ _ _ _ _ _ q=>sub_int q
theorem QV:F5 X (binaryOp .FloorDiv) (rI Kt λ i j=>.int (i / j)):=Wx λ i j _ _ _ _ _ hc q=>by
 have h1:(0:Int)<j:=hc.1;have h2:j<1073741824:=hc.2;exact floordiv_int (by omega) (by rw[Int.fdiv_eq_ediv_of_nonneg i (by omega)];exact q) (.inl (PyProof.noPylong_small (by omega)))
theorem T2:F5 X (binaryOp .Mod) (rI (λ _ j=>0<j) λ i j=>.int (i%j)):=Wx λ i j _ _ _ _ _ hc q=>by
 have h1:(0:Int)<j:=hc;exact mod_int' (by omega) (by rw[Int.fmod_eq_emod_of_nonneg i (by omega)];exact q)
theorem T3:F5 X (binaryOp .Pow) (rI QU λ i j=>.int (i^j.toNat)):=Wx λ _ _ _ _ _ _ _ hc q=>pow_int_small hc.1 hc.2.1 hc.2.2 q
theorem Y3 {f:Value->Sem Value}{g:Int->Int}
 (rule:∀(i:Int) (t:Tok) (s:Shared) (Q:Value->Shared->Prop) (E:Value->Shared->Prop),Q (.int (g i) s.toks) {s with toks:=s.toks+1}->wpAny (model X.prog X.w) X.A (f (.int i t)) Q E s):
 X5 X f (rU λ i=>.int (g i)):=by
 intro pins s σ H x v Q I rx h;obtain⟨i,rfl,q⟩:=h;obtain⟨t,rfl⟩:=rx;exact rule i t s _ _ ⟨.int (g i),H,I.tok _,⟨_,rfl⟩,q⟩
theorem T4:X5 X (unaryOp .USub) (rU λ i=>.int (-i)):=Y3 λ _ _ _ _ _ q=>neg_int q
end
section
variable {X:Cx}{a b c:Expr}{ta tb tc:TE}{pos:Pos}
theorem Vv:F5 X (compareOp .Gt) (UZ λ i j=>.bl (decide (j<i))):=X7 λ _ _ _ _ _ _ _ q=>gt_int q
theorem F5.or {f:Value->Value->Sem Value}{r r':R2}(h:F5 X f r)(h':F5 X f r'):F5 X f (λ x y H Q=>r x y H Q\/r' x y H Q):=by
 intro pins s σ H x y v u Q I rx ry q;rcases q with q|q
 ·exact h pins s σ H x y v u Q I rx ry q
 ·exact h' pins s σ H x y v u Q I rx ry q
theorem Gq (b:Expr){op:CmpOp}(h:op≠.In:=by decide)(h2:op≠.NotIn:=by decide):behindInMarks op b=false:=by
 have e1:(op==CmpOp.In)=false:=by cases op<;>first|rfl|exact absurd rfl h
 have e2:(op==CmpOp.NotIn)=false:=by cases op<;>first|rfl|exact absurd rfl h2
 cases b<;>simp[behindInMarks,e1,e2]
theorem QW {op:CmpOp}{r:R2}(ho:F5 X (compareOp op) r)(ha:PE X a ta)(hb:PE X b tb)(hm:behindInMarks op b=false):PE X (.Compare a [op] [b] pos) (Vr r ta tb):=by
 intro pins s σ H Q I h;exact wpAny_Compare1 (SW ha hb I h λ v u s2 x y H2 I2 rx ry q=>ho pins s2 σ H2 x y v u Q I2 rx ry q) hm
noncomputable def Vw (t:TE):TT:=λ σ H Q=>t σ H λ x H'=>∃k,x=.bl k/\Q k H'
theorem QX {op:CmpOp}{r:R2}(ho:F5 X (compareOp op) r)(ha:PE X a ta)(hb:PE X b tb)(hm:behindInMarks op b=false):PT X (.Compare a [op] [b] pos) (Vw (Vr r ta tb)):=by
 intro pins s σ H Q I h;refine wpAny_isTrue_Compare1 (B2 (ha pins s σ H _ I h) λ v s1 ⟨x,H1,I1,r1,q1⟩=>B2 (hb pins s1 σ H1 _ I1 q1) λ u s2 ⟨y,H2,I2,r2,q2⟩ =>
  B2 (ho pins s2 σ H2 x y v u _ I2 r1 r2 q2) λ c s3 ⟨z,H3,I3,r3,k,e,q3⟩=>?_) hm
 subst e;cases r3;exact wpAny_truthy_bool ⟨H3,I3,q3⟩
def Vx (K:za)(x:V)(H:Hp)(k:Bool):Prop:=
 match x with
 | .Ax=>k=false
 | .bl b=>k=b
 | .int i=>k=(i != 0)
 | .str y=>y.length<=sizeLine/\k=((y.length:Int) != 0)
 | .UX y=>y.size<=sizeLine/\k=((y.size:Int) != 0)
 | .ref p=>(∃xs,CC K H p xs/\k = !xs.isEmpty)\/(∃xs,IH K H p xs/\k = !xs.isEmpty)\/∃kvs,H p=some (.dK kvs)/\k = !kvs.isEmpty
 |_=>False
theorem LH {κ:Type}{kvs:List (κ×V)}{vs:List (κ×Value)}(r:KV kvs vs):(!vs.isEmpty) = !kvs.isEmpty:=by
 cases r<;>rfl
theorem Gr {xs:List V}{aa:List Value}(r:Vals xs aa):(!aa.toArray.isEmpty) = !xs.isEmpty:=by
 cases r<;>simp
theorem Jm:(sizeLine:Nat)<2^63:=by rw[sizeLine_eq];decide
theorem T5:X6 X (λ x H Q=>∃k,Vx X.K x H k/\Q k H):=by
 intro pins s σ H x v Q I rx h;obtain⟨k,e,q⟩:=h;have hl:=Jm;have hs:sizeLine=16777216:=sizeLine_eq;cases x with
 |Ax =>
  cases rx;have e':k=false:=e;subst e';exact truthy_none ⟨H,I,q⟩
 |bl b =>
  cases rx;have e':k=b:=e;subst e';exact wpAny_truthy_bool ⟨H,I,q⟩
 |int i =>
  obtain⟨t,rfl⟩:=rx;have e':k=(i != 0):=e;subst e';exact PySem.P.truthy_int ⟨H,I,q⟩
 |str y =>
  obtain⟨t,rfl⟩:=rx;obtain⟨hy,e'⟩:y.length<=sizeLine/\k=((y.length:Int) != 0):=e;subst e';exact PySem.P.truthy_str (by omega) ⟨H,I.tok _,q⟩
 |UX y =>
  obtain⟨t,rfl⟩:=rx;obtain⟨hy,e'⟩:y.size<=sizeLine/\k=((y.size:Int) != 0):=e;subst e';exact PySem.W.truthy_bytes (by omega) ⟨H,I.tok _,q⟩
 |ref p =>
  cases rx;have e':(∃xs,CC X.K H p xs/\k = !xs.isEmpty)\/(∃xs,IH X.K H p xs/\k = !xs.isEmpty)\/∃kvs,H p=some (.dK kvs)/\k = !kvs.isEmpty:=e;rcases e' with ⟨xs,hx,e'⟩|⟨xs,hx,e'⟩|⟨kvs,hx,e'⟩
  ·subst e';obtain⟨aa,r,pl,hz⟩:=I.list hx;have hlen:=r.length;exact wpAny_truthy_list pl.isList (by simp only[zo];omega) ⟨H,I.tok _,by rw[Gr r];exact q⟩
  ·subst e';obtain⟨aa,r,pl,hz⟩:=I.tuple hx;have hlen:=r.length;exact truthy_tuple pl (by simp only[zo];omega) ⟨H,I.tok _,by rw[Gr r];exact q⟩
  ·subst e';obtain⟨hz,hS,vs,r,m⟩:kvs.length<=sizeLine/\(p==sysModules)=false/\∃vs,KV kvs vs/\s.heap.DictOf (AH X.prog X.w) p vs:=I.As p _ hx;have hlen:kvs.length=vs.length:=Paired.length r;exact wpAny_truthy_dict hS m (by omega) ⟨H,I.tok _,by rw[LH r];exact q⟩
 |_=>exact (show False from e).elim
theorem Ox (ha:PE X a ta)(he:∀whole,isTrue a X.env whole=(do let v <-whole;standAt a.pos;holding [v] (truthy v))):
 PT X a (λ σ H Q=>ta σ H λ x H'=>∃k,Vx X.K x H' k/\Q k H'):=by
 intro pins s σ H Q I h;exact isTrue_plain (B2 (ha pins s σ H _ I h) λ v s1 ⟨x,H1,I1,r1,q1⟩=>T5 pins s1 σ H1 x v Q I1 r1 q1) (he _)
theorem vals1 {x:V}{us:List Value}(r:Vals [x] us):∃u,us=[u]/\RelV x u:=by
 cases r with
 |cons r1 r2=>cases r2;exact⟨_,rfl,r1⟩
theorem vals2 {x y:V}{us:List Value}(r:Vals [x,y] us):∃u w',us=[u,w']/\RelV x u/\RelV y w':=by
 cases r with
 |cons r1 r2 =>
  cases r2 with
  |cons r3 r4=>cases r4;exact⟨_,_,rfl,r1,r3⟩
theorem Nh (hc:X.calm=true):FK X (.builtin "min") (λ xs H Q=>∃i j,xs=[.int i,.int j]/\Q (.int (if j<i then j else i)) H):=by
 intro pins s σ H xs us Q I r h;obtain⟨i,j,rfl,q⟩:=h;obtain⟨u,w',rfl,⟨t,rfl⟩,⟨t',rfl⟩⟩:=vals2 r;refine min_two_ints (I.ok.hd hc) λ h' tk k=>⟨_,H,I.kept k,?_,q⟩;by_cases hj:j<i
 ·rw[if_pos hj,if_pos hj];exact⟨_,rfl⟩
 ·rw[if_neg hj,if_neg hj];exact⟨_,rfl⟩
end
theorem Im.some_of {v:V}{o:Option Value}(r:Im (some v) o):∃u,o=some u/\RelV v u:=by
 cases o with
 |none=>exact (show False from r).elim
 |some u=>exact⟨u,rfl,r⟩
structure XE (K:za)(C:Addr):Prop where
 pg:PySem.W.plainGet K C Str.empty=true
 hd:PySem.W.hasDictIn K C=true
 po:PySem.W.plainOver K C=true
 sa:PySem.W.findIn K (.ref C) "__setattr__" = some (some (.builtin "object.__setattr__"))
structure Meth (K:za)(C:Addr)(m:Str)(f:Addr):Prop where
 at_:PySem.W.findIn K (.ref C) m=some (some (.ref f))
 fn:PySem.W.isFn K (.ref f)=true
 kp:zP K (.ref f)=true
structure BI (k:Nat)(A:Around):Prop where
 hd:A.handled=none
 dp:A.depth+3*k+5<recursionLimit
 un:A.units+16*k+200<cLine
theorem BI.mono {j k:Nat}{A:Around}(r:BI k A)(h:j<=k):BI j A:=⟨r.hd,by have:=r.dp;omega,by have:=r.un;omega⟩
theorem BI.deeper {k:Nat}{A:Around}(r:BI (k+1) A)(env:Env):BI k (A.deeper env):=
 ⟨r.hd,by have:=r.dp;show A.depth+1+3*k+5<_;omega,by have:=r.un;show A.units+3+16*k+200<_;omega⟩
theorem BI.depth {k:Nat}{A:Around}(r:BI k A):A.depth<recursionLimit:=by have:=r.dp;omega
theorem BI.units {k:Nat}{A:Around}(r:BI k A):A.units+64<cLine:=by have:=r.un;omega
noncomputable def X8:TA:=λ _ H Q=>Q [] H
noncomputable def Vy (ta:TE)(tr:TA):TA:=λ σ H Q=>ta σ H λ x H1=>tr σ H1 λ xs H2=>Q (x::xs) H2
section
variable {X:Cx}{e:Expr}{es:List Expr}{te:TE}{t:TA}{pos:Pos}
theorem D7:PA X [] X8:=λ _ _ _ _ H Q I h=>Calls.spliced_nil ⟨[],H,I,.nil,h⟩
theorem BF (ha:PE X e te)(hr:PA X es t)(hs:starEach (e::es) X.env=(false,eval e X.env)::starEach es X.env:=by rfl):PA X (e::es) (Vy te t):=by
 intro pos pins s σ H Q I h;rw[hs];show wpAny _ _ (spliced ((false,eval e X.env)::backTo pos (starEach es X.env))) _ _ s;refine Calls.spliced_cons (B2 (ha pins s σ H _ I h) λ u s1 ⟨x,H1,I1,r1,q1⟩=>?_);exact B2 (hr pos pins s1 σ H1 _ I1 q1) λ us s2 ⟨xs,H2,I2,r2,q2⟩=>⟨x::xs,H2,I2,.cons r1 r2,q2⟩
noncomputable def X9 (t:TA):TE:=λ σ H Q=>t σ H λ xs H1=>xs.length<=sizeLine/\∀p,H1 p=none->Q (.ref p) (upd H1 p (.tup xs))
noncomputable def Xa (t:TA):TE:=λ σ H Q=>t σ H λ xs H1=>xs.length<=sizeLine/\∀p,H1 p=none->Q (.ref p) (upd H1 p (.lst xs))
theorem T6 {x1}(h:PA X es t):PE X (.Tuple es x1 pos) (X9 t):=by
 intro pins s σ H Q I hq;refine wpAny_Tuple_spliced (B2 (h pos pins s σ H _ I hq) λ us s1 ⟨xs,H1,I1,r,z,q⟩=>⟨by rw[<-r.length];exact z,?_⟩);have hf:H1 s1.heap.objs.size=none:=I1.As.fresh (zm _);refine⟨.ref s1.heap.objs.size,upd H1 s1.heap.objs.size (.tup xs),I1.laid (t':=s1.toks) (λ b u e=>zq _ e) (zm _) ?_,rfl,q _ hf⟩;exact⟨z,us,r,⟨_,zH _ rfl,rfl,_,rfl⟩⟩
theorem Oy (h:PA X es t):PE X (.List es pos) (Xa t):=by
 intro pins s σ H Q I hq;refine wpAny_List_spliced (B2 (h pos pins s σ H _ I hq) λ us s1 ⟨xs,H1,I1,r,z,q⟩=>⟨by rw[<-r.length];exact z,?_⟩);have hf:H1 s1.heap.objs.size=none:=I1.As.fresh (zm _);refine⟨.ref s1.heap.objs.size,upd H1 s1.heap.objs.size (.lst xs),I1.laid (t':=s1.toks) (λ b u e=>zq _ e) (zm _) ?_,rfl,q _ hf⟩;exact⟨z,us,0,r,zH _ rfl⟩
end
noncomputable abbrev Sp:=List V->Hp->VK->XK->Prop
noncomputable abbrev O3:=List Env->Hp->Shared->XK->Value->Shared->Prop
structure QY (P:Program)(w:World)(K:za)(mg:Str->Option Value)(base:Heap)(A:Around)(outer:List Env)(s:Shared)(H:Hp):Prop where
 frames:A.frames=some outer
 mod:Mod K mg base
 bs:∀b o,base.get? b=some o->s.heap.get? b=some o/\H b=none
 Sb:base.objs.size<=s.heap.objs.size
 F3:s.heap.FunFrames base outer
 UY:∀b∈FJ outer,H b=none
 As:CD P w H s.heap
 bare:AllBare s.gens
def CE (outer:List Env)(P:Program)(w:World)(H:Hp)(s:Shared)(Q:VK)(u:Value)(s':Shared):Prop:=
 ∃v H',s'.os=s.os/\AllBare s'.gens/\Un (FJ outer) [] H H' s.heap s'.heap/\CD P w H' s'.heap/\RelV v u/\Q v H'
def CR (CX:O3)(outer:List Env)(P:Program)(w:World)(H:Hp)(s:Shared)(Q:VK)(E:XK)(r:Result)(s':Shared):Prop:=
 match r with
 | .ok (.ret u)=>CE outer P w H s Q u s'
 | .ok _=>False
 | .error e=>CX outer H s E e s'
structure E6 (P:Program)(w:World)(K:za)(mg:Str->Option Value)(base:Heap)(CX:O3)(k:Nat)(f:Addr)(fd:FuncData)(ps:List Str)(sp:Sp):Prop where
 len:∀vs H Q E,sp vs H Q E->vs.length=ps.length
 run:∀(A:Around) (outer:List Env) (s:Shared) (H:Hp) (args:Args) (us:List Value) (vs:List V) (Q:VK) (E:XK),BI k A->QY P w K mg base A outer s H->BindsTo s fd args (ps.zip us)->Vals vs us->sp vs H Q E->
  codeAny (model P w) A (.call (.ref f) args) (CR CX outer P w H s Q E) s
section
variable {X:Cx}{pins:List (Addr×Obj)}{σ:St}{H:Hp}{s s':Shared}
theorem Inv.Xb (I:Inv X pins σ H s):QY X.prog X.w X.K X.mg X.base X.A X.stack s H:=
 ⟨I.ok.frames,I.ok.mod,I.bs,zW I.ok.Sb I.sz,I.stack,I.Jk,I.As,I.bare⟩
theorem Inv.after {Q:VK}{u:Value}(I:Inv X pins σ H s)(h:CE X.stack X.prog X.w H s Q u s'):EP X pins σ Q u s':=by
 obtain⟨v,H',os,bare,un,As,r,q⟩:=h;obtain⟨hh,g,d,t,gY⟩:=s';obtain rfl:gY=s.os:=os;exact⟨v,H',I.call (h':=hh) (g':=g) (d':=d) (t':=t) (ch:=[]) un As bare (λ b z=>absurd z (by simp)),r,q⟩
end
noncomputable def Vz (sp:Sp)(bz:List V)(E:XK)(t:TA):TE:=λ σ H Q=>t σ H λ vs H1=>sp (vs++bz) H1 Q E
def Binds (K:za)(fd:FuncData)(ps:List Str)(ds:List Value):Prop:=
 ∀(s:Shared) (us:List Value),K.In s.heap->(us++ds).length=ps.length->BindsTo s fd ⟨us,[]⟩ (ps.zip (us++ds))
theorem Binds.all {K:za}{fd:FuncData}{ps:List Str}(h:∀us:List Value,us.length=ps.length->bindArgs fd ⟨us,[]⟩=pure (ps.zip us)):Binds K fd ps []:=λ s us _ hl=>by
 rw[ym] at hl ⊢;exact .of_eq (h us hl)
def Jn (CX:O3)(X:Cx)(E:XK):Prop:=∀(pins:List (Addr×Obj)) (σ:St) (H:Hp) (s:Shared) (e:Value) (s':Shared),Inv X pins σ H s->CX X.stack H s E e s'->X.xe e s'
section
variable {X:Cx}{CX:O3}{k:Nat}{f C:Addr}{fd:FuncData}{ps:List Str}{sp:Sp}{bz:List V}{ds:List Value}{E:XK}{x m:Str}{p pos apos:Pos}{e o:Expr}{es:List Expr}{ta:TE}{t:TA}
theorem T7 {pins:List (Addr×Obj)}{σ:St}{H:Hp}{s:Shared}{Q:VK}{us:List Value}{vs:List V}(F:E6 X.prog X.w X.K X.mg X.base CX k f fd ps sp)(hr:BI k X.A)(hb:Binds X.K fd ps ds)(hd:Vals bz ds)(hx:Jn CX X E)
 (I:Inv X pins σ H s) (r:Vals vs us) (h:sp (vs++bz) H Q E):wpAny (model X.prog X.w) X.A (call (.ref f) us) (EP X pins σ Q) X.xe s:=by
 have r2:Vals (vs++bz) (us++ds):=r.append hd;have hl:(us++ds).length=ps.length:=by rw[<-r2.length];exact F.len _ _ _ _ h
 refine wpAny_call (codeAny_mono (F.run X.A X.stack s H ⟨us,[]⟩ (us++ds) (vs++bz) Q E hr I.Xb (hb s us I.Mw hl) r2 h) λ r s' hq=>?_);cases r with
 |error e=>exact hx pins σ H s e s' I hq
 |ok fl =>
  cases fl with
  |ret u=>exact I.after hq
  |next|brk|cont=>exact False.elim hq
theorem MB (F:E6 X.prog X.w X.K X.mg X.base CX k f fd ps sp)(hr:BI k X.A)(hg:Gl X x)(hm:X.mg x=some (.ref f))(hk:zP X.K (.ref f)=true)(hb:Binds X.K fd ps ds)(hd:Vals bz ds)(hx:Jn CX X E)
 (ha:PA X (e::es) t) (aP:(x==("__debug__" : Str))=false:=by decide) (he:starEach (e::es) X.env=(false,eval e X.env)::starEach es X.env:=by rfl) (hpl:(backTo pos (starEach es X.env)).any (·.1)=false:=by rfl):
 PE X (.Call (.Name x p) (e::es) [] pos) (Vz sp bz E t):=by
 intro pins s σ H Q I h;refine wpAny_Call_Name_kw (QM I hg hm ?_ aP);refine PySem.W.callWith_K (h₀:=X.base) I.ok.mod.WM hk (B2 (ha pos pins s σ H _ I h) λ us s1 ⟨vs,H1,I1,r,q⟩=>⟨I1.Mw,?_⟩) he hpl;exact T7 F hr hb hd hx I1 r q
end
structure Au (N P:List Str)(sc:Scope):Prop where
 kind:sc.kind=.function
 co:sc.isCoroutine=false
 gen:sc.isGenerator=false
 nd:N.Nodup
 pre:N.take P.length=P
 XF:∀x∈P,sc.names.lookup x=some .local\/sc.names.lookup x=some .cell
 T8:∀y∈sc.names,y.2≠.free
theorem IK {kindOf:Str->Option NameKind}{x:Str}:∀ {binds:List (Str×Value)}{m:Str->Option Value},(∀v,(x,v)∉binds)->bindL kindOf binds m x=m x
 |[],_,_=>rfl
 |(n,v)::r,m,h=>by
  unfold bindL;rw[IK λ w hw=>h w (zd _ hw)];split
  ·have:x≠n:=by rintro rfl;exact h v zb
   simp[this]
  ·rfl
theorem IL {kindOf:Str->Option NameKind}{x:Str}:∀ {binds:List (Str×Value)}{m:Str->Option Value},(∀v,(x,v)∉binds)->bindC kindOf binds m x=m x
 |[],_,_=>rfl
 |(n,v)::r,m,h=>by
  unfold bindC;rw[IL λ w hw=>h w (zd _ hw)];split
  ·rfl
  ·have:x≠n:=by rintro rfl;exact h v zb
   simp[this]
theorem IM {kindOf:Str->Option NameKind}{x:Str}{v:Value}:∀ {P:List Str}{vs:List Value}{i:Nat}{m:Str->Option Value},P.Nodup->P[i]?=some x->vs[i]?=some v->kindOf x=some .local->
 bindL kindOf (P.zip vs) m x=some v
 |[],_,_,_,_,h,_,_|_::_,[],_,_,_,_,h,_=>by simp at h
 |p::P,w::vs,0,m,nd,h1,h2,hk=>by
  simp at h1 h2;subst h1;subst h2;show bindL kindOf ((p,w)::P.zip vs) m p=_;unfold bindL;rw[IK λ v hv=>(zR.mp nd).1 (List.of_mem_zip hv).1,if_pos hk];simp
 |p::P,w::vs,i+1,m,nd,h1,h2,hk=>by
  show bindL kindOf ((p,w)::P.zip vs) m x=_;unfold bindL;exact IM (i:=i) (zR.mp nd).2 (by simpa using h1) (by simpa using h2) hk
theorem IP {kindOf:Str->Option NameKind}{x:Str}{v:Value}:∀ {P:List Str}{vs:List Value}{i:Nat}{m:Str->Option Value},P.Nodup->P[i]?=some x->vs[i]?=some v->kindOf x≠some .local->
 bindC kindOf (P.zip vs) m x=some v
 |[],_,_,_,_,h,_,_|_::_,[],_,_,_,_,h,_=>by simp at h
 |p::P,w::vs,0,m,nd,h1,h2,hk=>by
  simp at h1 h2;subst h1;subst h2;show bindC kindOf ((p,w)::P.zip vs) m p=_;unfold bindC;rw[IL λ v hv=>(zR.mp nd).1 (List.of_mem_zip hv).1,if_neg hk];simp
 |p::P,w::vs,i+1,m,nd,h1,h2,hk=>by
  show bindC kindOf ((p,w)::P.zip vs) m x=_;unfold bindC;exact IP (i:=i) (zR.mp nd).2 (by simpa using h1) (by simpa using h2) hk
noncomputable def start (N:List Str)(vs:List V):St:=vs.map some++List.replicate (N.length-vs.length) none
noncomputable def FV (CX:O3)(P:Program)(w:World)(K:za)(mg:Str->Option Value)(base:Heap)(N:List Str)(qual:Str)(scope:Scope)(f:Addr)(cd:Value)(A:Around)(outer:List Env)(s:Shared)(H:Hp)(E:XK):Cx where
 prog:=P
 w:=w
 K:=K
 mg:=mg
 base:=base
 A:=A.deeper (envOfC qual scope s.heap.objs.size f cd)
 N:=N
 s₀:=s
 H₀:=H
 env:=envOfC qual scope s.heap.objs.size f cd
 outer:=outer
 stack:=envOfC qual scope s.heap.objs.size f cd::outer
 ex:=[]
 calm:=true
 fn:=λ _=>true
 pn:=[]
 xe:=λ e s'=>wpAny (model P w) (A.deeper (envOfC qual scope s.heap.objs.size f cd)) (leaving (envOfC qual scope s.heap.objs.size f cd) e) (λ _ cx=>CX outer H s E e cx) (λ e' cx=>CX outer H s E e' cx) s'
theorem Ku {sc:Scope}{n:Nat}{x:Str}(h:sc.names.lookup x=some .cell):∃c,(cellsFrom n sc.names []).lookup x=some c:=by
 have q:=PySem.W.cellsFrom_some sc.names n [] (.inl h);exact y4.mp q
theorem Ni {CX:O3}{P:Program}{w:World}{K:za}{mg:Str->Option Value}{base:Heap}{N ps:List Str}{qual:Str}{scope:Scope}{f:Addr}{cd:Value}{A:Around}{outer:List Env}{s s1:Shared}{H:Hp}{E:XK}{us:List Value}{vs:List V}
 (S:Au N ps scope) (hd:A.handled=none) (e0:QY P w K mg base A outer s H) (hl:vs.length=ps.length) (r:Vals vs us)
 (x:InCallC s s.heap.objs.size (bindL (envOfC qual scope s.heap.objs.size f cd).kindOf (ps.zip us) λ _=>none) (cellsFrom (s.heap.objs.size+1) scope.names []) (bindC (envOfC qual scope s.heap.objs.size f cd).kindOf (ps.zip us) λ _=>none) s1):
 Inv (FV CX P w K mg base N qual scope f cd A outer s H E) [] (start N vs) H s1:=by
 have hpl:ps.length<=N.length:=by have:=congrArg List.length S.pre;rw[yi] at this;omega
 obtain⟨h1,tk,rfl,hk⟩:=x.done;have cy:∀b:Addr,b∉(FV CX P w K mg base N qual scope f cd A outer s H E).ex:=λ b z=>absurd (show b∈([]:List Addr) from z) (by simp);refine⟨⟨e0.mod,S.kind,rfl,rfl,zm _,λ y z c h1 h2=>?_,λ y hy=>?_,λ y c _ h=>?_,λ _=>hd,Around.frames_deeper e0.frames,.inr ⟨rfl,rfl⟩,λ b z=>absurd z (cy b),e0.bs,e0.Sb,λ b _ _=>cy b,λ b z=>absurd z (cy b),e0.F3,e0.UY⟩,
  rfl,e0.bare,Un.kept hk,⟨_,x.toInCall.ns,λ i y v h1 h2 h3=>?_⟩,λ y c h=>⟨_,x.cell y c h⟩,e0.As.fresh (zm _),λ y c h=>?_,λ p hp=>absurd (show p∈([]:List (Addr×Obj)) from hp) (by simp),e0.As.kept hk,?_⟩
 ·exact name_of_addr x.apart (y3 h1) (y3 h2)
 ·have hy:scope.names.lookup y=some .cell\/scope.names.lookup y=some .free:=hy;rcases hy with hy|hy
  ·exact Ku hy
  ·exact absurd rfl (S.T8 _ (y3 hy))
 ·exact yw (x.above y c (y3 h))
 ·have hi:i<vs.length:=by
   unfold start at h2;by_cases hi:i<vs.length
   ·exact hi
   ·rw[yg (by simpa using hi)] at h2;rw[List.getElem?_replicate] at h2;split at h2<;>cases h2
  have ha:vs[i]?=some v:=by
   unfold start at h2;rw[zZ (by simpa using hi),zF] at h2;cases e:vs[i]? with
   |none=>rw[e] at h2;cases h2
   |some a=>rw[e] at h2;cases h2;rfl
  obtain⟨u,hu,rv⟩:=r.get ha;have hp:ps[i]?=some y:=by
   rw[<-S.pre,List.getElem?_take_of_lt (by omega)];exact h1
  have fP:ps.Nodup:=by rw[<-S.pre];exact S.nd.sublist (List.take_sublist _ _)
  refine⟨u,rv,?_⟩;rcases S.XF y (zi hp) with k|k
  ·exact .inl ⟨k,IM fP hp hu k⟩
  ·obtain⟨c,e⟩:=Ku (n:=s.heap.objs.size+1) k;refine .inr ⟨.inl k,c,e,?_⟩;have q:=x.cell y c e;rw[IP fP hp hu (by show scope.names.lookup y≠_;rw[k];decide)] at q;exact q
 ·exact e0.As.fresh (yw (x.above y c (y3 h)))
 ·unfold start;show _=N.length;rw[zV,zf,List.length_replicate];omega
theorem Oz {CX:O3}{P:Program}{w:World}{K:za}{mg:Str->Option Value}{base:Heap}{k:Nat}{f:Addr}{name qual:Str}{params:Arguments}{body:List Stmt}{scope:Scope}{dV kV doc pm Bk ct oc:Value}{an od:Option Addr}
 {O4:Array (Option Value)} {N ps:List Str} {sp:Sp} (lk:K.lookup f=some ⟨oc,od,.func (zO name qual params body scope dV kV doc pm an Bk ct),O4⟩) (az:yb K Bk qual=true) (S:Au N ps scope)
 (len:∀vs H Q E,sp vs H Q E->vs.length=ps.length)
 (aQ:∀(A:Around) (outer:List Env) (s:Shared) (H:Hp) (vs:List V) (Q:VK) (E:XK),BI k (A.deeper (envOfC qual scope s.heap.objs.size f Bk))->sp vs H Q E->
  ∃t,Mx (FV CX P w K mg base N qual scope f Bk A outer s H E) body t/\t {nx:=λ _ H'=>Q .Ax H',rt:=Q} (start N vs) H):
 E6 P w K mg base CX (k+1) f (zO name qual params body scope dV kV doc pm an Bk ct) ps sp:=by
 refine⟨len,λ A outer s H args us vs Q E hr e0 hb r bh=>?_⟩;have hl:=len _ _ _ _ bh;have KX:K.In s.heap:=e0.mod.WM.keeps λ b o e=>(e0.bs b o e).1;have lim:s.heap.NoLimit:=e0.mod.nolimit.keeps λ b o e=>(e0.bs b o e).1;have cz:∀y∈ps.zip us,scope.names.lookup y.1=some .local\/(scope.names.lookup y.1=some .cell/\((cellsFrom (s.heap.objs.size+1) scope.names []).lookup y.1).isSome=true):=λ⟨n,v⟩ hy=>by
  rcases S.XF n (List.of_mem_zip hy).1 with q|q
  ·exact .inl q
  ·exact .inr ⟨q,PySem.W.cellsFrom_some _ _ _ (.inl q)⟩
 refine codeAny_call_function hr.depth (KX _ _ lk) rfl S.co S.gen rfl (PySem.W.codeRec_of KX az) (hb _ _ _ _ ?_);refine wpAny_newFunctionEnv_cells S.kind cz λ env he s1 x=>?_;subst he;refine⟨lim.keeps x.toInCall.keep,codeAny_func ?_⟩;obtain⟨t,ht,hq⟩:=aQ A outer s H vs Q E (hr.deeper _) bh;have I:Inv (FV CX P w K mg base N qual scope f Bk A outer s H E) [] (start N vs) H s1:=Ni S hr.hd e0 hl r x;refine wpAny_mono (ht [] s1 (start N vs) H _ I hq) (λ fl s' hs=>?_) λ e s' hs=>hs;have fin:∀ {σ':St} {H':Hp} {v:V} {u:Value},Inv (FV CX P w K mg base N qual scope f Bk A outer s H E) [] σ' H' s'->RelV v u->Q v H'->CE outer P w H s Q u s':=
  fun {σ' H' v u} J rv q=>⟨v,H',J.os,J.bare,J.base,J.As,rv,q⟩
 cases fl with
 |ret u =>
  obtain⟨v,σ',H',J,rv,q⟩:=hs;exact fin J rv q
 |next =>
  obtain⟨σ',H',J,q⟩:=hs;exact fin (v:=V.Ax) (u:=Value.none) J rfl q
 |brk =>
  obtain⟨_,_,_,q⟩:=hs;exact False.elim q
 |cont =>
  obtain⟨_,_,_,q⟩:=hs;exact False.elim q
section
variable {X:Cx}{x:Str}{p pos:Pos}{e:Expr}{es:List Expr}{t:TA}{id T:String}{r:List V->Hp->VK->Prop}
noncomputable def Xc (r:List V->Hp->VK->Prop)(t:TA):TE:=λ σ H Q=>t σ H λ vs H1=>r vs H1 Q
theorem Kv (hc:FK X (.builtin id) r)(hg:Gl X x)(hm:X.mg x=none)(hv:bootBuiltins x=some (.builtin id))(ha:PA X (e::es) t)(hn:x ≠ "__name__" := by decide)(aP:(x==("__debug__" : Str))=false:=by decide)
 (he:starEach (e::es) X.env=(false,eval e X.env)::starEach es X.env:=by rfl) (hpl:(backTo pos (starEach es X.env)).any (·.1)=false:=by rfl):PE X (.Call (.Name x p) (e::es) [] pos) (Xc r t):=by
 intro pins s σ H Q I h;refine wpAny_Call_Name_kw (F4 I hg hm hv ?_ hn aP);exact PyProof.Rows.callWith_builtin1 (B2 (ha pos pins s σ H _ I h) λ us s1 ⟨vs,H1,I1,r1,q1⟩=>hc pins s1 σ H1 vs us Q I1 r1 q1) he hpl
theorem Nj (hc:FK X (.type T) r)(hg:Gl X x)(hm:X.mg x=none)(hv:bootBuiltins x=some (.type T))(ha:PA X (e::es) t)(hn:x ≠ "__name__" := by decide)(aP:(x==("__debug__" : Str))=false:=by decide)
 (he:starEach (e::es) X.env=(false,eval e X.env)::starEach es X.env:=by rfl) (hpl:(backTo pos (starEach es X.env)).any (·.1)=false:=by rfl):PE X (.Call (.Name x p) (e::es) [] pos) (Xc r t):=by
 intro pins s σ H Q I h;refine wpAny_Call_Name_kw (F4 I hg hm hv ?_ hn aP);exact yo (B2 (ha pos pins s σ H _ I h) λ us s1 ⟨vs,H1,I1,r1,q1⟩=>hc pins s1 σ H1 vs us Q I1 r1 q1) he hpl
end
end L2
namespace HT
open PySem PyProof.Rows
noncomputable def lexLt:List Int->List Int->Bool
 |[],[]=>false
 |[],_::_=>true
 |_::_,[]=>false
 |x::xs,y::ys=>if x=y then lexLt xs ys else decide (x<y)
theorem Ed (x y:Int)(xs ys:List Int):lexLt (x::xs) (y::ys)=if x=y then lexLt xs ys else decide (x<y):=rfl
theorem E9:lexLt [] []=false:=rfl
theorem Gs (y:Int)(ys:List Int):lexLt [] (y::ys)=true:=rfl
theorem Gu (x:Int)(xs:List Int):lexLt (x::xs) []=false:=rfl
theorem OA (A:Around)(s:Shared)(a:Int)(t:Tok)(c:Int)(u:Tok):∃e,SeqAt.EqAt A s (.int a t) (.int c u) e/\(e=true↔a=c):=
 ⟨(a==c),SeqAt.EqAt.int_int a t c u,by simp⟩
theorem OB (A:Around)(s:Shared)(a:Int)(t:Tok)(c:Int)(u:Tok)(prog:Program)(w:World)(E:Value->Shared->Prop)(Q:Value->Shared->Prop)(h:Q (.bool (decide (a<c))) s):
 wpAny (model prog w) A (richCompare .Lt (.int a t) (.int c u)) Q E s:=
 (PyProof.Rows.lt_int h:wpAny (model prog w) A (compareOp .Lt (.int a t) (.int c u)) Q E s)
section
open PySem.SeqAt
open PySem.AutoSeq1 (wpAny_loadPart')
open PySem.MeetsSeq PySem.MeetsSeq2 PySem.MeetsSeq3
theorem Ip (l b:Addr)(items ah:Array Value)(n n2:Nat)(dd d9:Option Addr)(sl dA:Array (Option Value))(ns ms:List Int)(hi:IntsAre items.toList ns)(hj:IntsAre ah.toList ms):
 Meets (Builtin.«tuple.__lt__» ⟨[.ref l,.ref b],[]⟩)
  (λ _ R s=>s.heap.get? l=some {cls:=.type "tuple",dict:=dd,data:=.seq items n,slots:=sl}/\s.heap.get? b=some {cls:=.type "tuple",dict:=d9,data:=.seq ah n2,slots:=dA}/\
   R (.ok (.ret (.bool (lexLt ns ms)))) s):=
 .of_wp λ prog w A R s h=>by
  obtain⟨hp,g,d,tk,os⟩:=s;obtain⟨hl,hb,h⟩:=h;have f2:=AutoSeq1.sub_tuple_tuple;have z1:items.size=ns.length:=by rw[<-hi.length];simp
  have z2:ah.size=ms.length:=by rw[<-hj.length];simp
  wp_walk using wpAny_loadPart' hl,wpAny_loadPart' hb,wpAny_forIn_list _ (λ rest b s'=>b.1=none/\s'=⟨hp,g,d,tk,os⟩/\∃(vs ws:List Value) (cj ck:List Int),rest=vs.zip ws/\
   IntsAre vs cj/\IntsAre ws ck/\cj.length+ah.size=ck.length+items.size/\R (.ok (.ret (.bool (lexLt cj ck)))) ⟨hp,g,d,tk,os⟩) _
  case turn =>
   rintro ⟨y,x⟩ rest b s' ⟨aE,rfl,vs,ws,cj,ck,hz,dB,cY,hlen,hR⟩;cases dB with
   |nil=>rw[List.zip_nil_left] at hz;cases hz
   |cons a t dC =>
    cases cY with
    |nil=>rw[List.zip_nil_right] at hz;cases hz
    |cons c u dD =>
     rw[List.zip_cons_cons] at hz;injection hz with gZ c3
     injection gZ with hy hx
     subst hy hx;rw[Ed] at hR;simp only[zp] at hlen;obtain⟨e,he,c4⟩:=OA A.in1 ⟨hp,g,d,tk,os⟩ a t c u;refine wpAny_bind (he prog w _ _ ?_);cases e with
     |true =>
      rw[if_pos (c4.mp rfl)] at hR
      wp_walk
      exact⟨rfl,rfl,_,_,_,_,c3,dC,dD,by omega,hR⟩
     |false =>
      rw[if_neg (λ q=>absurd (c4.mpr q) zA)] at hR;have h7:=OB A.in1 ⟨hp,g,d,tk,os⟩ a t c u prog w
      wp_walk using h7
      exact⟨_,rfl,by simpa using hR⟩
  case fin =>
   rintro ⟨b1,b2⟩ s' ⟨aE,rfl,vs,ws,cj,ck,hz,dB,cY,hlen,hR⟩;simp only at aE;subst aE;have hv:lexLt cj ck=decide (items.size<ah.size):=by
    cases dB with
    |nil =>
     cases cY with
     |nil =>
      simp only[List.length_nil] at hlen;rw[E9];exact (decide_eq_false (by omega)).symm
     |cons c u hw =>
      simp only[List.length_nil,zp] at hlen;rw[Gs];exact (decide_eq_true (by omega)).symm
    |cons a t hv =>
     cases cY with
     |nil =>
      simp only[List.length_nil,zp] at hlen;rw[Gu];exact (decide_eq_false (by omega)).symm
     |cons c u hw =>
      rw[List.zip_cons_cons] at hz;cases hz
   rw[hv] at hR
   wp_walk
   exact⟨_,rfl,by simpa [Builtin.Tuple.tupleCompareSizes] using hR⟩
  case h =>
   exact⟨rfl,rfl,items.toList,ah.toList,ns,ms,rfl,hi,hj,by omega,h⟩
end
section
variable {prog:Program}{w:World}{A:Around}{E:Value->Shared->Prop}{s:Shared}
theorem LI {l b:Addr}{items ah:Array Value}{ns ms:List Int}{Q:Value->Shared->Prop}(hl:IsTup s.heap l items)(hb:IsTup s.heap b ah)(hi:IntsAre items.toList ns)(hj:IntsAre ah.toList ms)
 (hu:A.units<cLine) (h:Q (.bool (lexLt ns ms)) s):wpAny (model prog w) A (compareOp .Lt (.ref l) (.ref b)) Q E s:=by
 obtain⟨⟨cls,dd,data,sl⟩,ho,hc,n,hd⟩:=id hl;obtain⟨⟨h8,d9,data2,dA⟩,cZ,fQ,n2,hd2⟩:=id hb;simp only at hc hd fQ hd2;subst hc hd fQ hd2;exact richCompare_meets_room (op:=.Lt) ⟨_,ho,rfl⟩ ⟨_,cZ,rfl⟩ PySem.F.slot_tuple_lt PySem.F.entry_tuple_lt (PySem.F.args_tuple_lt_2 _ _) (Ip l b items ah n n2 dd d9 sl dA ns ms hi hj)
  ⟨ho,cZ,show Value.bool (lexLt ns ms)≠Value.notImplemented/\Q (.bool (lexLt ns ms)) s from ⟨(λ x=>nomatch x),h⟩⟩ hu
noncomputable def Gv (n d:Nat):Option Int->Nat
 |none=>d
 |some v=>if v<0 then (v+(n:Int)).toNat else min v.toNat n
theorem Kw (n d:Nat):Gv n d none=d:=rfl
theorem G3 (n d k:Nat):Gv n d (some (k:Int))=min k n:=by
 show (if (k:Int)<0 then ((k:Int)+(n:Int)).toNat else min (k:Int).toNat n)=min k n;rw[if_neg (by omega),Int.toNat_natCast]
end
end HT
namespace L2
open PySem PySem.Spec PyProof.Rows
noncomputable abbrev TO:=St->Hp->(Option Int->Hp->Prop)->Prop
def PO (X:Cx)(e:Option Expr)(t:TO):Prop:=
 ∀(pins:List (Addr×Obj)) (s:Shared) (σ:St) (H:Hp) (Q:Option Int->Hp->Prop),Inv X pins σ H s->t σ H Q->
  wpAny (model X.prog X.w) X.A (evalPart e X.env) (λ u s'=>∃o H',Inv X pins σ H' s'/\IsPart u o/\Q o H') X.xe s
noncomputable def QZ:TO:=λ _ H Q=>Q none H
noncomputable def VA (t:TE):TO:=λ σ H Q=>t σ H λ x H1=>∃i,x=.int i/\Q (some i) H1
theorem intsAre_of {ns:List Int}:∀ {us:List Value},Vals (ns.map V.int) us->IntsAre us ns:=by
 induction ns with
 |nil=>intro us r;rw[List.map_nil] at r;cases r;exact .nil
 |cons n ns ih =>
  intro us r;rw[zh] at r;cases r with
  |cons r1 r2 =>
   obtain⟨t,e⟩:=r1;subst e;exact .cons n t (ih r2)
section
variable {X:Cx}{e:Expr}{te:TE}{lo hi:Option Expr}{tl th:TO}{pos p2:Pos}
theorem R3:PO X none QZ:=by
 intro pins s σ H Q I h;rw[evalPart_none];exact wpAny_pure ⟨none,H,I,.none,h⟩
theorem R4 (h:PE X e te):PO X (some e) (VA te):=by
 intro pins s σ H Q I hw;rw[evalPart_some];refine B2 (h pins s σ H _ I hw) λ u s1 ⟨x,H1,I1,r1,q1⟩=>?_;obtain⟨i,rfl,q⟩:=q1;obtain⟨t,rfl⟩:=r1;exact⟨some i,H1,I1,.int i t,q⟩
def XG (X:Cx)(r:V->Option Int->Option Int->Hp->VK->Prop):Prop:=
 ∀(pins:List (Addr×Obj)) (s:Shared) (σ:St) (H:Hp) (x:V) (v vl vu:Value) (lo hi:Option Int) (sl:Addr) (Q:VK),Inv X pins σ H s->RelV x v->s.heap.IsSliceOf sl vl vu .none->IsPart vl lo->IsPart vu hi->r x lo hi H Q->
  ∃T id,typeLookup (.type T) "__getitem__" = pure (some (.builtin id))/\s.TypeIs v T/\wpAny (model X.prog X.w) X.A (getItem v (.ref sl)) (EP X pins σ Q) X.xe s
noncomputable def Y4 (r:V->Option Int->Option Int->Hp->VK->Prop)(te:TE)(tl th:TO):TE:=λ σ H Q=>te σ H λ x H1=>tl σ H1 λ l H2=>th σ H2 λ u H3=>r x l u H3 Q
theorem OC {r:V->Option Int->Option Int->Hp->VK->Prop}(hr:XG X r)(he:PE X e te)(hl:PO X lo tl)(hu:PO X hi th):PE X (.Subscript e (.Slice lo hi none p2) pos) (Y4 r te tl th):=by
 intro pins s σ H Q I h;refine Subscript_ (B2 (he pins s σ H _ I h) λ v s1 ⟨x,H1,I1,r1,q1⟩=>?_);refine wpAny_Slice (B2 (hl pins s1 σ H1 _ I1 q1) λ vl s2 ⟨l,H2,I2,pl,q2⟩=>B2 (hu pins s2 σ H2 _ I2 q2) λ vu s3 ⟨u,H3,I3,pu,q3⟩=>?_);rw[evalPart_none];refine wpAny_pure ?_;have I4:Inv X pins σ H3 {s3 with heap:=s3.heap.push {cls:=.type "slice",data:=.fields #[vl,vu,.none]} }:=I3.kept (t':=s3.toks) λ b ob q=>zq _ q;obtain⟨T,id,hT,ht,hg⟩:=hr pins {s3 with heap:=s3.heap.push {cls:=.type "slice",data:=.fields #[vl,vu,.none]} } σ H3 x v vl vu l u s3.heap.objs.size Q I4 r1 (Heap.IsSliceOf.new ..) pl pu q3;show wpAny (model X.prog X.w) X.A (subscriptTail e (.Slice lo hi none p2) v (.ref s3.heap.objs.size)) (EP X pins σ Q) X.xe {s3 with heap:=s3.heap.push {cls:=.type "slice",data:=.fields #[vl,vu,.none]} };exact tail_any (ops:=[.ref s3.heap.objs.size,v]) ht hT hg (by with_unfolding_all rfl)
noncomputable def OD (xs:List V)(lo hi:Option Int):List V:=(xs.drop (HT.Gv xs.length 0 lo)).take (HT.Gv xs.length xs.length hi-HT.Gv xs.length 0 lo)
theorem Kx (xs:List V)(lo hi:Option Int):(OD xs lo hi).length<=xs.length:=by
 unfold OD;rw[yi,y6];omega
noncomputable def VB (K:za):R2:=λ x y H Q=>∃a b ns ms,x=.ref a/\y=.ref b/\IH K H a (ns.map V.int)/\IH K H b (ms.map V.int)/\Q (.bl (HT.lexLt ns ms)) H
theorem OE (hu:X.A.units<cLine):F5 X (compareOp .Lt) (VB X.K):=by
 intro pins s σ H x y v u Q I rx ry h;obtain⟨a,b,ns,ms,rfl,rfl,ha,hb,q⟩:=h;cases rx;cases ry;obtain⟨aa,r1,p1,_⟩:=I.tuple ha;obtain⟨dE,r2,p2,_⟩:=I.tuple hb;have i1:IntsAre aa.toArray.toList ns:=intsAre_of r1;have i2:IntsAre dE.toArray.toList ms:=intsAre_of r2;exact HT.LI p1 p2 i1 i2 hu ⟨.bl (HT.lexLt ns ms),H,I,rfl,q⟩
end
noncomputable def VC (n:Nat)(i:Int):Option Nat:=if 0<=i then (if i<n then some i.toNat else none) else if -(n:Int)<=i then some (i+n).toNat else none
noncomputable def O5 {α:Type}(xs:List α)(i:Int):Option α:=(VC xs.length i).bind λ j=>xs[j]?
theorem R5 {n:Nat}{i:Int}{j:Nat}(h:VC n i=some j):seqIndex? i n=some j/\j<n/\-(n:Int)<=i/\i<n:=by
 unfold VC at h;by_cases h0:0<=i
 ·rw[if_pos h0] at h;by_cases h1:i<n
  ·rw[if_pos h1] at h;have e:i.toNat=j:=zw h;exact⟨by rw[seqIndex_of h0 h1,e],by omega,by omega,h1⟩
  ·rw[if_neg h1] at h;cases h
 ·rw[if_neg h0] at h;by_cases h1 : -(n:Int)<=i
  ·rw[if_pos h1] at h;have e:(i+n).toNat=j:=zw h;exact⟨by rw[seqIndex_neg (by omega) h1,e],by omega,h1,by omega⟩
  ·rw[if_neg h1] at h;cases h
theorem MC {α:Type}{xs:List α}{i:Int}{v:α}(h:O5 xs i=some v):∃j,seqIndex? i xs.length=some j/\xs[j]?=some v/\j<xs.length/\-(xs.length:Int)<=i/\i<xs.length:=by
 unfold O5 at h;cases e:VC xs.length i with
 |none=>rw[e] at h;cases h
 |some j =>
  rw[e] at h;obtain⟨h1,h2,h3,h4⟩:=R5 e;exact⟨j,h1,h,h2,h3,h4⟩
def Jo (b:Expr):Prop:=∀o i,subscripted b false o i=operate [o,i] (getItem o i)
def R6 (X:Cx)(r:R2):Prop:=
 ∀(value slice:Expr) (pins:List (Addr×Obj)) (s:Shared) (σ:St) (H:Hp) (x y:V) (v u:Value) (Q:VK),Inv X pins σ H s->RelV x v->RelV y u->r x y H Q->
  subscripted slice false v u=operate [v,u] (getItem v u)->wpAny (model X.prog X.w) X.A (subscriptTail value slice v u) (EP X pins σ Q) X.xe s
def XH (X:Cx)(id:String)(r:V->List V->Hp->VK->Prop):Prop:=
 ∀(pins:List (Addr×Obj)) (s:Shared) (σ:St) (H:Hp) (x:V) (xs:List V) (v:Value) (us:List Value) (Q:VK),Inv X pins σ H s->RelV x v->Vals xs us->r x xs H Q->
  wpAny (model X.prog X.w) X.A (call (.builtin id) (v::us)) (EP X pins σ Q) X.xe s
section
variable {X:Cx}{a b:Expr}{ta tb:TE}{pos:Pos}
theorem R6.or {r r':R2}(h:R6 X r)(h':R6 X r'):R6 X (λ x y H Q=>r x y H Q\/r' x y H Q):=by
 intro value slice pins s σ H x y v u Q I rx ry q hs;rcases q with q|q
 ·exact h value slice pins s σ H x y v u Q I rx ry q hs
 ·exact h' value slice pins s σ H x y v u Q I rx ry q hs
theorem VD {r:R2}(hr:R6 X r)(ha:PE X a ta)(hb:PE X b tb)(hs:Jo b):PE X (.Subscript a b pos) (Vr r ta tb):=by
 intro pins s σ H Q I h;exact Subscript_ (SW ha hb I h λ v u s2 x y H2 I2 rx ry q=>hr a b pins s2 σ H2 x y v u Q I2 rx ry q (hs _ _))
noncomputable def T9 (K:za):R2:=λ x y H Q=>∃p xs i v,x=.ref p/\y=.int i/\CC K H p xs/\O5 xs i=some v/\Q v H
noncomputable def Ta (K:za):R2:=λ x y H Q=>∃p xs i v,x=.ref p/\y=.int i/\IH K H p xs/\O5 xs i=some v/\Q v H
theorem R7:R6 X (T9 X.K):=by
 intro value slice pins s σ H x y v u Q I rx ry h hs;obtain⟨p,xs,i,z,rfl,rfl,hq,he,q⟩:=h;cases rx;obtain⟨t,rfl⟩:=ry;obtain⟨aa,r,pl,hz⟩:=I.list hq;obtain⟨j,h1,h2,h3,h4,h5⟩:=MC he;obtain⟨w,ew,aI⟩:=r.get h2;have hl:=r.length;have hn:=Jm;have fin:EP X pins σ Q w s:=⟨z,H,I,aI,q⟩;by_cases h0:0<=i
 ·have hj:i.toNat=j:=by
   rw[seqIndex_of h0 h5] at h1;exact zw h1
  exact item_listR pl.isList h0 (by omega) (by rw[hj];simpa using ew) fin hs
 ·have hj:(i+(aa.toArray.size:Int)).toNat=j:=by
   rw[seqIndex_neg (by omega) h4] at h1;rw[zo,<-hl];exact zw h1
  exact subscriptTail_builtinR (x:=w) pl.isList.typeIs slot_list_getitem.lookup
   (wpAny_getItem_list_neg (Q:=λ r s'=>r=w/\EP X pins σ Q r s') pl.isList (by omega) (by rw[zo]<;>omega) (by omega) (by rw[hj];simpa using ew) ⟨rfl,fin⟩) hs
theorem Tb:R6 X (Ta X.K):=by
 intro value slice pins s σ H x y v u Q I rx ry h hs;obtain⟨p,xs,i,z,rfl,rfl,hq,he,q⟩:=h;cases rx;obtain⟨t,rfl⟩:=ry;obtain⟨aa,r,pl,hz⟩:=I.tuple hq;obtain⟨j,h1,h2,h3,h4,h5⟩:=MC he;obtain⟨w,ew,aI⟩:=r.get h2;have hl:=r.length;have hn:=Jm;have fin:EP X pins σ Q w s:=⟨z,H,I,aI,q⟩;exact subscriptTail_builtinR (x:=w) pl.typeIs slot_tuple_getitem.lookup
  (getItem_tuple (j:=j) (Q:=λ r s'=>r=w/\EP X pins σ Q r s') pl (by omega) (by omega) (by rw[zo,<-hl];exact h1) (by simpa using ew) ⟨rfl,fin⟩) hs
theorem Jp (lo hi:Option Int)(n:Nat):(sliceBounds lo hi none n).1=((HT.Gv n 0 lo:Nat):Int)/\(sliceBounds lo hi none n).2.1=((HT.Gv n n hi:Nat):Int)/\(sliceBounds lo hi none n).2.2=1:=by
 refine⟨?_,?_,rfl⟩
 ·cases lo with
  |none=>simp[sliceBounds,HT.Gv]
  |some i =>
   simp only[sliceBounds,HT.Gv,Option.getD_none,show (1:Int) > 0 by decide,if_true];by_cases h:i<0
   ·simp only[h,if_true]<;>omega
   ·simp only[h,if_false]<;>omega
 ·cases hi with
  |none=>simp[sliceBounds,HT.Gv]
  |some i =>
   simp only[sliceBounds,HT.Gv,Option.getD_none,show (1:Int) > 0 by decide,if_true];by_cases h:i<0
   ·simp only[h,if_true]<;>omega
   ·simp only[h,if_false]<;>omega
theorem Iq (aa:List Value)(lo hi:Option Int):slicePick aa.toArray lo hi none=((aa.drop (HT.Gv aa.length 0 lo)).take (HT.Gv aa.length aa.length hi-HT.Gv aa.length 0 lo)).toArray:=by
 obtain⟨h1,h2,h3⟩:=Jp lo hi aa.toArray.size;unfold slicePick;rw[h1,h2,h3];simp only[sliceRange_one,pick_run,zo]<;>rfl
def Xd (K:za):V->Option Int->Option Int->Hp->VK->Prop:=λ x lo hi H Q=>∃a xs,x=.ref a/\CC K H a xs/\∀p,H p=none->Q (.ref p) (upd H p (.lst (OD xs lo hi)))
theorem R8:XG X (Xd X.K):=by
 intro pins s σ H x v vl vu lo hi sl Q I rx hs pl pu h;obtain⟨a,xs,rfl,hx,q⟩:=h;cases rx;obtain⟨aa,r,ht,hz⟩:=I.list hx;have hlen:=r.length;refine⟨"list",_,slot_list_getitem.lookup,ht.isList.typeIs,?_⟩;refine wpAny_getItem_list_slice ht.isList hs pl pu .none (by simp) ?_ (by rw[zo]<;>omega);rw[Iq,<-hlen];refine⟨.ref s.heap.objs.size,_,I.laid (t':=s.toks) (o:=.lst (OD xs lo hi)) (λ b ob q=>zq _ q) (zm _) ?_,rfl,q _ (I.As.fresh (zm _))⟩;exact⟨zW (Kx xs lo hi) hz,_,0,(r.drop (HT.Gv xs.length 0 lo)).take (HT.Gv xs.length xs.length hi-HT.Gv xs.length 0 lo),zH _ rfl⟩
noncomputable def EB:V->Bool
 | .Ax| .bl _| .int _| .str _=>true
 |_=>false
noncomputable def Sf:V->V->Bool
 | .Ax,.Ax=>true
 | .bl a,.bl b=>a==b
 | .bl a,.int b=>(if a then 1 else 0)==b
 | .int a,.bl b=>a==(if b then 1 else 0)
 | .int a,.int b| .str a,.str b=>a==b
 |_,_=>false
theorem Tc {A:Around}{s:Shared}{y x:V}{u v:Value}(ry:RelV y u)(rx:RelV x v)(fy:EB y=true)(fx:EB x=true):SeqAt.EqAt A s u v (Sf y x):=by
 cases y with
 |Ax =>
  cases ry;cases x with
  |Ax=>cases rx;exact SeqAt.EqAt.same _
  |bl b=>cases rx;exact SeqAt.EqAt.none_bool b
  |int b=>obtain⟨t,rfl⟩:=rx;exact SeqAt.EqAt.none_int b t
  |str b=>obtain⟨t,rfl⟩:=rx;exact SeqAt.EqAt.none_str b t
  |_=>exact absurd (show false=true from fx) zA
 |bl a =>
  cases ry;cases x with
  |Ax=>cases rx;exact SeqAt.EqAt.bool_none a
  |bl b=>cases rx;exact SeqAt.EqAt.bool_bool a b
  |int b=>obtain⟨t,rfl⟩:=rx;exact SeqAt.EqAt.bool_int a b t
  |str b=>obtain⟨t,rfl⟩:=rx;exact SeqAt.EqAt.bool_str a b t
  |_=>exact absurd (show false=true from fx) zA
 |int a =>
  obtain⟨t',rfl⟩:=ry;cases x with
  |Ax=>cases rx;exact SeqAt.EqAt.int_none a t'
  |bl b=>cases rx;exact SeqAt.EqAt.int_bool a t' b
  |int b=>obtain⟨t,rfl⟩:=rx;exact SeqAt.EqAt.int_int a t' b t
  |str b=>obtain⟨t,rfl⟩:=rx;exact SeqAt.EqAt.int_str a t' b t
  |_=>exact absurd (show false=true from fx) zA
 |str a =>
  obtain⟨t',rfl⟩:=ry;cases x with
  |Ax=>cases rx;exact SeqAt.EqAt.str_none a t'
  |bl b=>cases rx;exact SeqAt.EqAt.str_bool a t' b
  |int b=>obtain⟨t,rfl⟩:=rx;exact SeqAt.EqAt.str_int a t' b t
  |str b=>obtain⟨t,rfl⟩:=rx;exact SeqAt.EqAt.str_str a t' b t
  |_=>exact absurd (show false=true from fx) zA
 |_=>exact absurd (show false=true from fy) zA
noncomputable def LJ (x:V)(u:Value):Bool:=match u with
 | .none=>Sf .Ax x
 | .bool b=>Sf (.bl b) x
 | .int i _=>Sf (.int i) x
 | .str z _=>Sf (.str z) x
 |_=>false
theorem OF {x y:V}{u:Value}(r:RelV y u)(f:EB y=true):LJ x u=Sf y x:=by
 cases y with
 |Ax|bl b=>cases r;rfl
 |int i|str z=>obtain⟨t,rfl⟩:=r;rfl
 |_=>exact absurd (show false=true from f) zA
theorem EC {x:V}:∀ {xs:List V}{us:List Value},Vals xs us->xs.all EB=true->us.any (LJ x)=xs.any λ y=>Sf y x
 |_,_,.nil,_=>rfl
 |y::xs,u::us,.cons r t,f=>by
  rw[List.all_cons,zJ] at f;rw[yz,yz,OF r f.1,EC t f.2]
theorem D8 {A:Around}{s:Shared}{x:V}{v:Value}(rx:RelV x v)(fx:EB x=true):∀ {xs:List V}{us:List Value},Vals xs us->xs.all EB=true->∀u∈us,SeqAt.EqAt A s u v (LJ x u)
 |_,_,.nil,_=>λ u hu=>by cases hu
 |y::xs,u::us,.cons r t,f=>λ u' hu=>by
  rw[List.all_cons,zJ] at f;rcases zk.mp hu with rfl|hu
  ·rw[OF r f.1];exact Tc r rx f.1 fx
  ·exact D8 rx fx t f.2 u' hu
noncomputable def OG (x:V)(xs:List V):Bool:=xs.any λ y=>Sf y x
noncomputable def Wy (K:za)(neg:Bool):R2:=λ x y H Q=>∃p xs,y=.ref p/\(CC K H p xs\/IH K H p xs)/\EB x=true/\xs.all EB=true/\Q (.bl (if neg then !OG x xs else OG x xs)) H
theorem Nk:F5 X (compareOp .In) (Wy X.K false):=by
 intro pins s σ H x y v u Q I rx ry h;obtain⟨p,xs,rfl,hq,fx,fs,q⟩:=h;cases ry;rcases hq with hq|hq
 ·obtain⟨aa,r,pl,hz⟩:=I.list hq;refine SeqAt.in_listAt (LJ x) pl.isList (λ w hw=>D8 rx fx r fs w (by simpa using hw)) ⟨.bl _,H,I,rfl,?_⟩;rw[show aa.toArray.any (LJ x)=aa.any (LJ x) by simp,EC r fs];exact q
 ·obtain⟨aa,r,pl,hz⟩:=I.tuple hq;refine SeqAt.in_tupleAt (LJ x) pl (λ w hw=>D8 rx fx r fs w (by simpa using hw)) ⟨.bl _,H,I,rfl,?_⟩;rw[show aa.toArray.any (LJ x)=aa.any (LJ x) by simp,EC r fs];exact q
theorem Jq:F5 X (compareOp .NotIn) (Wy X.K true):=by
 intro pins s σ H x y v u Q I rx ry h;obtain⟨p,xs,rfl,hq,fx,fs,q⟩:=h;cases ry;rcases hq with hq|hq
 ·obtain⟨aa,r,pl,hz⟩:=I.list hq;refine SeqAt.notIn_listAt (LJ x) pl.isList (λ w hw=>D8 rx fx r fs w (by simpa using hw)) ⟨.bl _,H,I,rfl,?_⟩;rw[show aa.toArray.any (LJ x)=aa.any (LJ x) by simp,EC r fs];exact q
 ·obtain⟨aa,r,pl,hz⟩:=I.tuple hq;refine SeqAt.notIn_tupleAt (LJ x) pl (λ w hw=>D8 rx fx r fs w (by simpa using hw)) ⟨.bl _,H,I,rfl,?_⟩;rw[show aa.toArray.any (LJ x)=aa.any (LJ x) by simp,EC r fs];exact q
theorem Jr:FK X (.type "list") (λ xs H Q=>∃p ys,xs=[.ref p]/\(CC X.K H p ys\/IH X.K H p ys)/\∀l,H l=none->Q (.ref l) (upd H l (.lst ys))):=by
 intro pins s σ H xs us Q I r h;obtain⟨p,ys,rfl,hq,q⟩:=h;obtain⟨u,rfl,rx⟩:=vals1 r;cases rx;have fin:∀(aa:List Value),Vals ys aa->ys.length<=sizeLine->∀(h':Heap) (c':Nat),(∀b o',s.heap.get? b=some o'->h'.get? b=some o')->
  h'.get? s.heap.objs.size=some {cls:=.type "list",dict:=none,data:=.seq aa.toArray c',slots:=#[]}->EP X pins σ Q (.ref s.heap.objs.size) {s with heap:=h' }:=λ aa r' hz h' c' kp e =>
  ⟨.ref s.heap.objs.size,_,I.laid (t':=s.toks) kp (zm _) (show AF X.prog X.w _ h' _ (.lst ys) from ⟨hz,aa,c',r',e⟩),rfl,q _ (I.As.fresh (zm _))⟩
 rcases hq with hq|hq
 ·obtain⟨aa,r',pl,hz⟩:=I.list hq;have hlen:=r'.length;obtain⟨o,ho,hc,n,hd⟩:=pl.isList;exact call_list_seq p (.inl rfl) ho hc hd (λ h' c' kp e=>fin aa r' hz h' c' kp e) (by simp only[zo]<;>omega)
 ·obtain⟨aa,r',pl,hz⟩:=I.tuple hq;have hlen:=r'.length;obtain⟨o,ho,hc,n,hd⟩:=pl;exact call_list_seq p (.inr rfl) ho hc hd (λ h' c' kp e=>fin aa r' hz h' c' kp e) (by simp only[zo]<;>omega)
def XI (K:za)(T:String)(x:V)(H:Hp):Prop:=match x with
 | .str _=>T = "str"
 | .int _=>T = "int"
 | .ref p=>(T = "list" /\ ∃xs,CC K H p xs)\/(T = "tuple" /\ ∃o,K.lookup p=some o/\o.cls=.type "tuple" /\ o.dict=none) \/
  (T = "dict" /\ ((∃kvs,H p=some (.dK kvs))\/∃kvs,H p=some (.dT kvs)))\/(T = "set" /\ ∃S n,H p=some (.set S n))
 |_=>False
theorem Td {pins:List (Addr×Obj)}{σ:St}{H:Hp}{s:Shared}{T:String}{x:V}{v:Value}(I:Inv X pins σ H s)(r:RelV x v)(ty:XI X.K T x H):
 s.TypeIs v T/\∀a,v=.ref a->∃ob,s.heap.get? a=some ob/\ob.dict=none:=by
 cases x with
 |str z =>
  obtain⟨t,rfl⟩:=r;cases (show T = "str" from ty);exact⟨typeIs_str s z t,λ _ e=>nomatch e⟩
 |int i =>
  obtain⟨t,rfl⟩:=r;cases (show T = "int" from ty);exact⟨typeIs_int s i t,λ _ e=>nomatch e⟩
 |ref p =>
  cases r;rcases ty with ⟨rfl,xs,hq⟩|⟨rfl,o,hk,hc,hd⟩|⟨rfl,hk⟩|⟨rfl,S,n,hk⟩
  ·obtain⟨aa,_,pl,_⟩:=I.list hq;refine⟨pl.isList.typeIs,λ a e=>?_⟩;cases e;obtain⟨o,n,e,c,hd,_⟩:=pl;exact⟨o,e,hd⟩
  ·refine⟨⟨o,I.Mw p o hk,hc⟩,λ a e=>?_⟩;cases e;exact⟨o,I.Mw _ o hk,hd⟩
  ·have z:∃o,s.heap.get? p=some o/\o.ExactDict:=by
    rcases hk with ⟨kvs,hk⟩|⟨kvs,hk⟩
    ·obtain⟨_,_,_,_,o,_,_,e,ex,_⟩:=I.As p _ hk;exact⟨o,e,ex⟩
    ·obtain⟨_,_,_,_,o,_,_,e,ex,_⟩:=I.As p _ hk;exact⟨o,e,ex⟩
   obtain⟨o,e,ex⟩:=z;refine⟨⟨o,e,ex.1⟩,λ a e2=>?_⟩;cases e2;exact⟨o,e,ex.2.1⟩
  ·obtain⟨o,_,_,_,e,ex,_⟩:=I.As p _ hk;refine⟨⟨o,e,ex.1⟩,λ a e2=>?_⟩;cases e2;exact⟨o,e,ex.2.1⟩
 |_=>exact False.elim ty
noncomputable def Y5 (K:za)(T:String)(r:V->List V->Hp->VK->Prop)(to:TE)(t:TA):TE:=λ σ H Q=>to σ H λ x H1=>XI K T x H1/\t σ H1 λ xs H2=>r x xs H2 Q
variable {o e:Expr}{es:List Expr}{to:TE}{t:TA}{name:Str}{apos ai:Pos}{T id:String}{r:V->List V->Hp->VK->Prop}
theorem Sg (pa:PlainAttrs T)(slot:Slot T name id)(dG:typeOf (.builtin id)=pure (.type "method_descriptor"))(hm:XH X id r)(ho:PE X o to)(ha:PA X (e::es) t)
 (av:attributeBase o name X.env (eval o X.env)=eval o X.env:=by rfl)
 (aR:((backTo ai (starEach (e::es) X.env)).all (λ x => !x.1)&&(backToKw ai (keywordEach [] X.env)).all (λ x=>x.1.isSome)
  && decide ((e::es).length+([]:List Keyword).length+(if ([]:List Keyword).isEmpty then 0 else 1)<30))=true:=by rfl)
 (aw:(apos.endLine==ai.line)=true:=by rfl) (hs:starEach (e::es) X.env=(false,eval e X.env)::starEach es X.env:=by rfl) (a7:(backTo ai (starEach es X.env)).any (·.1)=false:=by rfl):
 PE X (.Call (.Attribute o name apos) (e::es) [] ai) (Y5 X.K T r to t):=by
 intro pins s σ H Q I h;refine wpAny_Call_method_late av aR aw rfl (B2 (ho pins s σ H _ I h) λ v s1 ⟨x,H1,I1,r1,ty,q1⟩=>?_);obtain⟨h1,h2⟩:=Td I1 r1 ty;refine⟨T,id,pa,slot,dG,h1,h2,?_⟩;have hA:=ha ai pins s1 σ H1 _ I1 q1;rw[hs] at hA ⊢;refine Calls.callWith_builtin (by show (false||(backTo ai (starEach es X.env)).any (·.1))=false;rw[a7]<;>rfl) (Calls.evalArgs_plain ?_);exact B2 hA λ us s2 ⟨vs,H2,I2,r2,q2⟩=>hm pins s2 σ H2 x vs v us Q I2 r1 r2 q2
end
def Y6 (X:Cx)(id:String)(r:V->List V->Hp->VK->Prop):Prop:=
 ∀(pins:List (Addr×Obj)) (s:Shared) (σ:St) (H:Hp) (x:V) (xs:List V) (v:Value) (us:List Value) (Q:VK),Inv X pins σ H s->RelV x v->Vals xs us->r x xs H Q->
  wpAny (model X.prog X.w) X.A (call (.builtin id) (v::us)) (EP X pins σ Q) X.xe s
theorem Vals.one:∀ {x:V}{us:List Value},Vals [x] us->∃u,us=[u]/\RelV x u
 |_,_,.cons r .nil=>⟨_,rfl,r⟩
theorem Vals.two:∀ {x y:V}{us:List Value},Vals [x,y] us->∃u v,us=[u,v]/\RelV x u/\RelV y v
 |_,_,_,.cons r (.cons q .nil)=>⟨_,_,rfl,r,q⟩
theorem Vals.dropLast {xs:List V}{us:List Value}(h:Vals xs us):Vals xs.dropLast us.dropLast:=by
 induction h with
 |nil=>exact .nil
 |cons r t ih =>
  cases t with
  |nil=>exact .nil
  |cons q t'=>exact .cons r ih
theorem Vals.reverse {xs:List V}{us:List Value}(h:Vals xs us):Vals xs.reverse us.reverse:=by
 induction h with
 |nil=>exact .nil
 |cons r t ih=>rw[List.reverse_cons,List.reverse_cons];exact Vals.append ih (.cons r .nil)
section
variable {X:Cx}{pins:List (Addr×Obj)}{σ:St}{H:Hp}{s:Shared}{l b:Addr}{xs ys zs:List V}
theorem Inv.Xe {aa its':List Value}{n:Nat}{f:Array Value->Array Value}{t':Nat}(I:Inv X pins σ H s)(hH:H l=some (.lst xs))
 (e:s.heap.get? l=some {cls:=.type "list",data:=.seq aa.toArray n}) (hf:f aa.toArray=its'.toArray) (hv:Vals ys its') (hz:ys.length<=sizeLine):
 Inv X pins σ (upd H l (.lst ys)) {s with heap:=s.heap.update l (Obj.mapSeq f),toks:=t' }:=by
 have q:=PySem.IsL.update e f;rw[hf] at q;refine I.write (x:=l) (e:=l) (by rw[hH];exact trivial) (.inl rfl) (λ b' u hb hu=>(Heap.get?_update_other s.heap (Obj.mapSeq f) (zQ hb)).trans hu) ⟨_,q⟩ ?_;exact⟨hz,its',_,hv,q⟩
theorem Inv.Xf (I:Inv X pins σ H s)(hH:H l=some (.lst xs)):xs.length<=sizeLine/\∃(aa:List Value) (n:Nat),Vals xs aa/\xs.length=aa.length/\s.heap.get? l=some {cls:=.type "list",data:=.seq aa.toArray n}:=by
 obtain⟨z,aa,n,r,e⟩:=I.As l _ hH;exact⟨z,aa,n,r,r.length,e⟩
end
end L2
namespace fR
open PySem PySem.W PySem.Calls PyProof.Rows
theorem FW {P:Params}{h:Heap}:∀(ns:List Int) (vs:List Value),WellAll P h vs (ns.map WData.int)->IntsAre vs ns:=by
 intro ns;induction ns with
 |nil =>
  intro vs w;rw[List.map_nil] at w;cases w;exact .nil
 |cons n ns ih =>
  intro vs w;rw[zh] at w;cases w with
  |cons a b =>
   cases a;exact .cons _ _ (ih _ b)
theorem Nl {l:OpenLaw}{n:Nat}(hn:l.most=some n){P:Params}{h:Heap}{args:List WData}{vals:List Value}
 (bn:l.row.toRowW.claim.pre args=true) (dH:WellAll P h vals args):
 ∃a vs ns,vals=[yp a]/\args=[WData.list (ns.map WData.int)]/\h.get? a=some {cls:=.type "list",data:=.seq vs.toArray}/\IntsAre vs ns/\ns.length<=n:=by
 have h9:WShape.hasAll [] args [.list .int]=true:=(pre_splitW bn).1;have hc:l.pre.holds [] {args:=args}=true:=(pre_splitW bn).2;obtain⟨d,r,rfl,h1,h2⟩:=hasAllW_cons h9;obtain rfl:=hasAllW_nil h2;obtain⟨xs,rfl,h3⟩:=hasW_list h1;obtain⟨ns,rfl⟩:=items_int h3;have hlen:ns.length<=n:=by
  unfold OpenLaw.pre at hc;have h4:(WTm.not (.lt (.lit (.int (n:Int))) (.len (.arg 0)))).holds [] {args:=[.list (ns.map .int)]}=true:=by
   have h4:=(holds_andW hc).1;rw[hn] at h4;exact h4
  have h5:=condW_of h4 (w_not (w_lt w_lit (w_len_list (w_arg rfl))));rw[zf] at h5;refine Nat.le_of_not_lt λ q=>?_;have q':(n:Int)<((ns.length:Nat):Int):=by omega
  first
   |(rw[decide_eq_true q'] at h5;exact absurd h5 (by decide))
   |(simp at h5;omega)
 cases dH with
 |cons w1 w2 =>
  cases w2;cases w1 with
  |list ho bJ=>exact⟨_,_,ns,rfl,rfl,ho,FW ns _ bJ,hlen⟩
theorem Nm (l:OpenLaw)(args:List WData):l.row.toRowW.claim.post args (.bool true) args=true:=
 postW_of (r:=l.row.toRowW) (X:=(true==true))
  (show WShape.has [] (.bool true) .bool=true by first|rfl|decide|simp[WShape.has,WShape.arms,WShape.armsAll])
  (show (WTm.eq .res (.lit (.bool true))).value [] {args:=args,res:=some (.bool true),after:=args}=some (.bool (true==true)) from w_eq_bool (w_res rfl) w_lit) rfl
end fR
namespace L2
open PySem PySem.Spec PyProof.Rows
theorem IQ:∀ {vs:List Value}{ns:List Int},IntsAre vs ns->Vals (ns.map V.int) vs
 |_,_,.nil=>.nil
 |_,_,.cons n t h=>.cons ⟨t,rfl⟩ (IQ h)
def R9 (H:Hp):Prop:=∀b,H b=none\/∃o xs,H b=some (.Cm o (.lst xs))
theorem Ky {P:Program}{w:World}{K:za}{mg mb:Str->Option Value}{CX:O3}{k:Nat}{fa a:Addr}{fd:FuncData}{x:Str}{sp:Sp}{s₁:Shared}{vs:List Value}{ns:List Int}
 (KX:K.In s₁.heap) (bK:s₁.heap.Ns mainGlobals mg) (hb:s₁.heap.Ns builtinsNs mb) (hE:∀x:Str,x ≠ "__name__" -> mb x=bootBuiltins x) (dI:s₁.heap.NoLimit) (hg:s₁.gens=#[])
 (ha:s₁.heap.get? a=some {cls:=.type "list",data:=.seq vs.toArray}) (hi:IntsAre vs ns) (hl:ns.length<=sizeLine) (hr:BI k callerA)
 (F:∀base:Heap,K.In base->base.Ns mainGlobals mg->E6 P w K mg base CX k fa fd [x] sp) (c5:∀(s:Shared) (u:Value),BindsTo s fd ⟨[u],[]⟩ [(x,u)])
 (bh:∀H:Hp,R9 H->CC K H a (ns.map V.int)->sp [.ref a] H (λ v _=>v=.bl true) λ _ _ _=>False)
 (c6:∀H e s',CX [] H s₁ (λ _ _ _=>False) e s'->False):
 codeAny (model P w) callerA (.call (.ref fa) ⟨[.ref a],[]⟩) (λ r s'=>r=.ok (.ret (.bool true))/\OldK s₁.heap s'.heap/\s'.os=s₁.os/\AllBare s'.gens) s₁:=by
 have rv:=IQ hi;have dJ:=hi.length;have core:∀H:Hp,R9 H->CC K H a (ns.map V.int)->CD P w H s₁.heap->(∀b,H b≠none->b=a)->(H a≠none->K.lookup a=none)->
  codeAny (model P w) callerA (.call (.ref fa) ⟨[.ref a],[]⟩) (λ r s'=>r=.ok (.ret (.bool true))/\OldK s₁.heap s'.heap/\s'.os=s₁.os/\AllBare s'.gens) s₁:=by
  intro H hO hS As hA hK;have aF:∀ {b:Addr} {o:Obj},s₁.heap.get? b=some o->H b=none->(Jj s₁.heap H).get? b=some o:=λ e n=>Od e n;have cy:∀ {b:Addr} {o:Obj} {es:Array DictEntry} {ep:Nat},s₁.heap.get? b=some o->o.data=.dict es ep->H b=none:=fun {b o es ep} e d=>by
   cases q:H b with
   |none=>rfl
   |some u =>
    have e':b=a:=hA b (by rw[q];simp);subst e';rw[ha] at e;cases e;have d':Data.seq vs.toArray _=Data.dict es ep:=d;cases d'
  have da:∀ {b:Addr} {m:Str->Option Value},s₁.heap.Ns b m->(Jj s₁.heap H).Ns b m:=fun {b m} ⟨o,es,ep,e,d,r⟩=>⟨o,es,ep,aF e (cy e d),d,r⟩;have fS:K.In (Jj s₁.heap H):=λ b o e=>aF (KX b o e) (by
   cases q:H b with
   |none=>rfl
   |some u =>
    have e':b=a:=hA b (by rw[q];simp);subst e';rw[hK (by rw[q];simp)] at e;cases e)
  have hM:Mod K mg (Jj s₁.heap H):=⟨fS,da bK,⟨mb,da hb,hE⟩,let ⟨mc,h1,h2⟩:=dI;⟨mc,da h1,h2⟩⟩;have e0:QY P w K mg (Jj s₁.heap H) callerA [] s₁ H:=⟨rfl,hM,λ b o e=>QK e,Nat.le_of_eq (Nc _ _),trivial,λ b hb=>absurd (show b∈([]:List Addr) from hb) (by simp),As,.of_eq hg⟩;refine codeAny_mono ((F _ fS (da bK)).run callerA [] s₁ H ⟨[.ref a],[]⟩ [.ref a] [.ref a] _ _ hr e0 (c5 s₁ (.ref a)) (.cons rfl .nil) (bh H hO hS)) λ r s' h=>?_;cases r with
  |error e=>exact (c6 H e s' h).elim
  |ok fl =>
   cases fl with
   |next|brk|cont=>exact False.elim h
   |ret u =>
    obtain⟨v,H',os,bare,un,bL,r',q⟩:=h;have q':v=.bl true:=q;subst q';obtain rfl:u=Value.bool true:=r';refine⟨rfl,OldK.of_keep λ b o e=>?_,os,bare⟩;cases q:H b with
    |none=>exact un.keep b o e q (by intro z;exact absurd (show b∈([]:List Addr) from z) (by simp)) (by simp)
    |some u =>
     rcases hO b with z|⟨ob,xs,z⟩
     ·rw[q] at z;cases z
     ·have z2:=un.F2 b ob _ z;obtain⟨e1,_⟩:=As b _ z;obtain⟨e2,_⟩:=bL b _ z2;rw[e] at e1;cases e1;exact e2
 cases hk:K.lookup a with
 |some o =>
  have e:=KX a o hk;rw[ha] at e;cases e;refine core (λ _=>none) (λ _=>.inl rfl) (.inr ⟨_,vs.toArray,_,hk,rfl,rfl,rfl,by rw[zo,dJ];exact hl,by simpa using rv⟩) (λ b u z=>by have z':(none:Option HO)=some u:=z;cases z') (λ b z=>absurd rfl z) λ z=>absurd rfl z
 |none =>
  refine core (λ b=>if b=a then some (.Cm {cls:=.type "list",data:=.seq vs.toArray} (.lst (ns.map V.int))) else none) (λ b=>?_) (.inl (.inr ⟨{cls:=.type "list",data:=.seq vs.toArray},if_pos rfl⟩)) (λ b u z=>?_) (λ b z=>?_) λ _=>hk
  ·by_cases hb:b=a
   ·exact .inr ⟨_,_,if_pos hb⟩
   ·exact .inl (if_neg hb)
  ·by_cases hb:b=a
   ·have z':=(if_pos hb).symm.trans z;cases z';subst hb;exact⟨ha,by rw[zf];exact hl,vs,_,rv,ha⟩
   ·have z':=(if_neg hb).symm.trans z;cases z'
  ·by_cases hb:b=a
   ·exact hb
   ·exact absurd (if_neg hb) z
noncomputable abbrev Ra:O3:=λ _ _ _ _ _ _=>False
noncomputable abbrev E0:XK:=λ _ _ _=>False
structure O6 (K:za)(x qual:Str)(st:Stmt)(f:Addr)(fd:FuncData):Prop where
 ex:∃(oc:Value) (od:Option Addr) (kV doc pm:Value) (an:Option Addr) (Bk ct:Value) (O4:Array (Option Value)),
  fd=zO x qual (AV st) (AB st) (A4 st) .none kV doc pm an Bk ct/\K.lookup f=some ⟨oc,od,.func fd,O4⟩/\yb K Bk qual=true
 kp:zP K (.ref f)=true
section
variable {P:Program}{w:World}{K:za}{mg:Str->Option Value}{base:Heap}
theorem O6.ok {x qual:Str}{st:Stmt}{f:Addr}{fd:FuncData}{N ps:List Str}{k:Nat}{sp:Sp}(F:O6 K x qual st f fd)(S:Au N ps (A4 st))(len:∀vs H Q E,sp vs H Q E->vs.length=ps.length)
 (aQ:∀(Bk:Value) (A:Around) (outer:List Env) (s:Shared) (H:Hp) (vs:List V) (Q:VK) (E:XK),BI k (A.deeper (envOfC qual (A4 st) s.heap.objs.size f Bk))->sp vs H Q E->
  ∃t,Mx (FV Ra P w K mg base N qual (A4 st) f Bk A outer s H E).Vj (AB st) t/\t {nx:=λ _ H'=>Q .Ax H',rt:=Q} (start N vs) H):E6 P w K mg base Ra (k+1) f fd ps sp:=by
 obtain⟨oc,od,kV,doc,pm,an,Bk,ct,O4,rfl,lk,az⟩:=F.ex;refine Oz lk az S len λ A outer s H vs Q E hr bh=>?_;obtain⟨t,h,q⟩:=aQ Bk A outer s H vs Q E hr bh;exact⟨t,h.Vj,q⟩
theorem O6.binds {x qual:Str}{st:Stmt}{f:Addr}{fd:FuncData}{ps:List Str}(F:O6 K x qual st f fd)
 (h:∀(kV doc pm:Value) (an:Option Addr) (Bk ct:Value) (us:List Value),us.length=ps.length->bindArgs (zO x qual (AV st) (AB st) (A4 st) .none kV doc pm an Bk ct) ⟨us,[]⟩=pure (ps.zip us)):Binds K fd ps []:=by
 obtain⟨oc,od,kV,doc,pm,an,Bk,ct,O4,rfl,lk,az⟩:=F.ex;exact .all (h kV doc pm an Bk ct)
theorem LK {x qual:Str}{st:Stmt}{f:Addr}{oc:Value}{od an:Option Addr}{O4:Array (Option Value)}{kV doc pm Bk ct:Value}(l:K.lookup f=some ⟨oc,od,.func (zO x qual (AV st) (AB st) (A4 st) .none kV doc pm an Bk ct),O4⟩)
 (c:yb K Bk qual=true) (k:zP K (.ref f)=true):O6 K x qual st f (zO x qual (AV st) (AB st) (A4 st) .none kV doc pm an Bk ct):=⟨⟨oc,od,kV,doc,pm,an,Bk,ct,O4,rfl,l,c⟩,k⟩
end
theorem AZ {n:Nat}(h:n<=1000):n<sizeLine:=Nat.lt_of_le_of_lt h (by decide)
section
variable {X:Cx}
theorem pv (i:Nat){x:Str}{pos:Pos}(hN:X.N[i]?=some x:=by rfl)(hv:WN X.env.scope x:=by first | exact zM rfl | exact Or.inr (zM rfl) | exact Or.inr (Or.inr rfl))(hd:(x==("__debug__" : Str))=false:=by decide)
 (az:(x==("__classdict__" : Str))=false:=by decide):PE X (.Name x pos) (Nd i):=SM hN hv hd az
end
def Ab (H H':Hp):Prop:=∀b o,H b=some o->H' b=some o
theorem Ab.refl (H:Hp):Ab H H:=λ _ _ h=>h
theorem Ab.trans {H H1 H2:Hp}(a:Ab H H1)(b:Ab H1 H2):Ab H H2:=λ c o h=>b c o (a c o h)
theorem Ab.seq {K:za}{H H':Hp}{a:Addr}{xs:List V}(e:Ab H H')(h:CC K H a xs):CC K H' a xs:=by
 rcases h with (h|⟨o,h⟩)|h
 ·exact .inl (.inl (e _ _ h))
 ·exact .inl (.inr ⟨o,e _ _ h⟩)
 ·exact .inr h
section
variable {κ:Type} [DecidableEq κ]
noncomputable def Ir (kvs:List (κ×V))(k:κ):Option V:=(kvs.find? λ kv=>decide (kv.1=k)).map (·.2)
noncomputable def putK (kvs:List (κ×V))(k:κ)(v:V):List (κ×V):=
 if (kvs.any λ kv=>decide (kv.1=k))=true then kvs.map (λ kv=>if kv.1=k then (kv.1,v) else kv) else kvs++[(k,v)]
theorem Gw {p:κ×V}{r:List (κ×V)}{k:κ}(e:p.1=k):Ir (p::r) k=some p.2:=by simp[Ir,yu,e]
theorem Gx {p:κ×V}{r:List (κ×V)}{k:κ}(e:¬ p.1=k):Ir (p::r) k=Ir r k:=by simp[Ir,yu,e]
theorem Kz (k:κ):∀kvs:List (κ×V),(kvs.any λ kv=>decide (kv.1=k))=(Ir kvs k).isSome
 |[]=>rfl
 |p::r=>by
  rw[yz];by_cases e:p.1=k
  ·simp only[Gw e,decide_eq_true e,Bool.true_or,ya]
  ·rw[Gx e,decide_eq_false e,Bool.false_or];exact Kz k r
theorem C8 (kvs:List (κ×V))(k:κ)(v:V):(putK kvs k v).length<=kvs.length+1:=by
 unfold putK;split
 ·rw[zf];omega
 ·rw[zV,zp,List.length_nil];omega
theorem Im.Cp {o:Option V}{u:Option Value}(r:Im o u):o.isSome=u.isSome:=by
 cases o with
 |none=>cases u with
  |none=>rfl
  |some _=>exact (show False from r).elim
 |some _=>cases u with
  |none=>exact (show False from r).elim
  |some _=>rfl
theorem KV.val {kvs:List (κ×V)}{vs:List (κ×Value)}(r:KV kvs vs)(k:κ):Im (Ir kvs k) (valueAt vs k):=by
 unfold KV at r;induction r with
 |nil=>exact True.intro
 | @cons p q ps qs h t ih =>
  obtain⟨h1,h2⟩:=h;by_cases e:p.1=k
  ·have e':q.1=k:=h1.symm.trans e;have b:valueAt (q::qs) k=some q.2:=by simp[valueAt,yu,e']
   rw[Gw e,b];exact h2
  ·have e':¬ q.1=k:=λ z=>e (h1.trans z);have b:valueAt (q::qs) k=valueAt qs k:=by simp[valueAt,yu,e']
   rw[Gx e,b];exact ih
theorem KV.any {kvs:List (κ×V)}{vs:List (κ×Value)}(r:KV kvs vs)(k:κ):(kvs.any λ kv=>decide (kv.1=k))=vs.any λ kv=>decide (kv.1=k):=by
 unfold KV at r;induction r with
 |nil=>rfl
 |cons h t ih=>rw[yz,yz,ih,h.1]
theorem KV.Te {kvs:List (κ×V)}{vs:List (κ×Value)}(r:KV kvs vs)(k:κ){y:V}{u:Value}(ry:RelV y u):
 KV (kvs.map λ kv=>if kv.1=k then (kv.1,y) else kv) (vs.map λ kv=>if kv.1=k then (kv.1,u) else kv):=by
 unfold KV at r ⊢;induction r with
 |nil=>exact .nil
 | @cons p q ps qs h t ih =>
  rw[zh,zh];refine .cons ?_ ih;obtain⟨h1,h2⟩:=h;by_cases e:p.1=k
  ·rw[if_pos e,if_pos (h1.symm.trans e)];exact⟨h1,ry⟩
  ·rw[if_neg e,if_neg (λ z=>e (h1.trans z))];exact⟨h1,h2⟩
theorem KV.put {kvs:List (κ×V)}{vs:List (κ×Value)}(r:KV kvs vs)(k:κ){y:V}{u:Value}(ry:RelV y u):KV (putK kvs k y) (stored vs k u):=by
 unfold putK stored;rw[r.any k];by_cases e:(vs.any λ kv=>decide (kv.1=k))=true
 ·rw[if_pos e,if_pos e];exact r.Te k ry
 ·rw[if_neg e,if_neg e];exact Paired.snoc r ⟨rfl,ry⟩
theorem KV.length {kvs:List (κ×V)}{vs:List (κ×Value)}(r:KV kvs vs):kvs.length=vs.length:=Paired.length r
end
theorem IR {P:Program}{w:World}{k:Key}{u:Value}(r:RelV (kV k) u):(AH P w).is k u=true:=by
 cases k with
 |inl i=>obtain⟨t,e⟩:=(show ∃t,u=Value.int i t from r);subst e;exact Kn P w i t
 |inr x=>obtain⟨t,e⟩:=(show ∃t,u=Value.str x t from r);subst e;exact Ko P w x t
theorem IS {P:Program}{w:World}:∀ {ks:List Key}{us:List Value},Vals (ks.map kV) us->ItemsAre (AH P w) ks us
 |[],_,r=>by rw[List.map_nil] at r;cases r;exact .nil
 |k::ks,_,r=>by
  rw[zh] at r;cases r with
  |cons h t=>exact .cons (IR h) (IS t)
noncomputable abbrev KT (H:Hp):List (List Key×V)->List (List Key×Addr×Value)->Prop:=Paired λ p q=>p.1=q.1/\H q.2.1=some (.tup (p.1.map kV))/\RelV p.2 q.2.2
theorem KT.val {H:Hp}{kvs:List (List Key×V)}{xs:List (List Key×Addr×Value)}(r:KT H kvs xs)(k:List Key):Im (Ir kvs k) ((atKey xs k).map (·.2)):=by
 induction r with
 |nil=>exact True.intro
 | @cons p q ps qs h t ih =>
  obtain⟨h1,_,h2⟩:=h;by_cases e:p.1=k
  ·have e':q.1=k:=h1.symm.trans e;have b:atKey (q::qs) k=some q.2:=by simp[atKey,yu,e']
   rw[Gw e,b];exact h2
  ·have e':¬ q.1=k:=λ z=>e (h1.trans z);have b:atKey (q::qs) k=atKey qs k:=by simp[atKey,yu,e']
   rw[Gx e,b];exact ih
theorem KT.Te {H:Hp}{kvs:List (List Key×V)}{xs:List (List Key×Addr×Value)}(r:KT H kvs xs)(k:List Key){y:V}{u:Value}(ry:RelV y u):
 KT H (kvs.map λ kv=>if kv.1=k then (kv.1,y) else kv) (xs.map (putAt k u)):=by
 induction r with
 |nil=>exact .nil
 | @cons p q ps qs h t ih =>
  rw[zh,zh];refine .cons ?_ ih;obtain⟨h1,h2,h3⟩:=h;unfold putAt;by_cases e:p.1=k
  ·rw[if_pos e,if_pos (h1.symm.trans e)];exact⟨h1,h2,ry⟩
  ·rw[if_neg e,if_neg (λ z=>e (h1.trans z))];exact⟨h1,h2,h3⟩
theorem KT.put {H:Hp}{kvs:List (List Key×V)}{xs:List (List Key×Addr×Value)}(r:KT H kvs xs)(k:List Key){b:Addr}{y:V}{u:Value}(hb:H b=some (.tup (k.map kV)))(ry:RelV y u):
 KT H (putK kvs k y) (storedH xs k b u):=by
 have e:(kvs.any λ kv=>decide (kv.1=k))=(atKey xs k).isSome:=by
  rw[Kz,(r.val k).Cp,Option.isSome_map]
 unfold putK storedH;rw[e];by_cases q:(atKey xs k).isSome=true
 ·rw[if_pos q,if_pos q];exact r.Te k ry
 ·rw[if_neg q,if_neg q];exact Paired.snoc r ⟨rfl,hb,ry⟩
theorem KT.keeps {H H':Hp}{kvs:List (List Key×V)}{xs:List (List Key×Addr×Value)}(r:KT H kvs xs)(ht:∀b ys,H b=some (.tup ys)->H' b=some (.tup ys)):KT H' kvs xs:=
 Paired.QJ r λ _ _ z=>⟨z.1,ht _ _ z.2.1,z.2.2⟩
section
variable {P:Program}{w:World}{H:Hp}{h:Heap}{a:Addr}
theorem OH {u:HO}(ok:CD P w H h)(e:Rd H a u):AF P w H h a u:=e.ok ok
theorem IT {kvs:List (Key×V)}(ok:CD P w H h)(e:Rd H a (.dK kvs)):kvs.length<=sizeLine/\(a==sysModules)=false/\∃vs,KV kvs vs/\h.DictOf (AH P w) a vs:=
 show AF P w H h a (.dK kvs) from OH ok e
theorem Sh {kvs:List (Key×V)}(ok:CD P w H h)(e:H a=some (.dK kvs)):kvs.length<=sizeLine/\(a==sysModules)=false/\∃vs,KV kvs vs/\h.DictOf (AH P w) a vs:=IT ok (.inl e)
theorem F6 {ks:List Key}(ok:CD P w H h)(e:H a=some (.tup (ks.map kV))):(tupleKind (AH P w)).is h ks a:=by
 obtain⟨_,aa,r,o,h1,h2,n,h3⟩:=(show AF P w H h a (.tup (ks.map kV)) from ok a _ e);exact⟨o,aa.toArray,n,h1,h2,h3,by simpa using IS r⟩
theorem IU {kvs:List (List Key×V)}(ok:CD P w H h)(e:Rd H a (.dT kvs)):kvs.length<=sizeLine/\(a==sysModules)=false/\
 ∃xs,KT H kvs xs/\h.DictOfH (tupleKind (AH P w)) a xs:=by
 obtain⟨z,y,xs,r,o,es,ep,h1,h2,h3,h4,h5⟩:=(show AF P w H h a (.dT kvs) from OH ok e);refine⟨z,y,xs,r,o,es,ep,h1,h2,h3,h4,λ x hx=>?_,h5⟩;have all:∀ {l:List (List Key×V)} {m:List (List Key×Addr×Value)},KT H l m->∀x∈m,(tupleKind (AH P w)).is h x.1 x.2.1:=by
  intro l m q;induction q with
  |nil=>intro x hx;exact nomatch hx
  | @cons p q ps qs hq t ih =>
   intro x hx;rcases zk.mp hx with e|hx
   ·subst e;exact F6 ok (by rw[<-hq.1];exact hq.2.1)
   ·exact ih x hx
 exact all r x hx
theorem VE {kvs:List (List Key×V)}(ok:CD P w H h)(e:H a=some (.dT kvs)):kvs.length<=sizeLine/\(a==sysModules)=false/\
 ∃xs,KT H kvs xs/\h.DictOfH (tupleKind (AH P w)) a xs:=IU ok (.inl e)
end
def LL (H:Hp)(a:Addr)(y:V)(r:Option V):Prop:=
 (∃kvs k,Rd H a (.dK kvs)/\y=kV k/\r=Ir kvs k)\/∃kvs k b,Rd H a (.dT kvs)/\y=.ref b/\H b=some (.tup (k.map kV))/\r=Ir kvs k
def VF (H:Hp)(a:Addr)(y v:V)(H':Hp):Prop:=
 (∃kvs k,H a=some (.dK kvs)/\y=kV k/\kvs.length<sizeLine/\H'=upd H a (.dK (putK kvs k v))) \/
 ∃kvs k b,H a=some (.dT kvs)/\y=.ref b/\H b=some (.tup (k.map kV))/\kvs.length<sizeLine/\H'=upd H a (.dT (putK kvs k v))
section
variable {X:Cx}{pins:List (Addr×Obj)}{σ:St}{H:Hp}{s:Shared}{a:Addr}{y v:V}{u r:Value}{o:Option V}{A:Around}{E:Value->Shared->Prop}
theorem Inv.big (I:Inv X pins σ H s):sysModules<s.heap.objs.size:=by
 have h:mainGlobals<s.heap.objs.size:=(I.mod.glob.keeps I.bk).lt;exact Nat.lt_trans (by decide) h
theorem Nn {Q:Value->Shared->Prop}(hu:A.units+1<cLine)(I:Inv X pins σ H s)(g:LL H a y (some v))(ry:RelV y u)(h:∀w' s',Inv X pins σ H s'->RelV v w'->Q w' s'):
 wpAny (model X.prog X.w) A (getItem (.ref a) u) Q E s:=by
 rcases g with ⟨kvs,k,e,ey,l⟩|⟨kvs,k,b,e,ey,eb,l⟩
 ·subst ey;obtain⟨z,hd,vs,rel,dd⟩:=IT I.As e;obtain⟨w',hw,aI⟩:=Im.some_of (v:=v) (o:=valueAt vs k) (by rw[l];exact rel.val k);exact wpAny_getItem_of (IR ry) dd.mapOf hw (h w' _ (I.tok _) aI)
 ·subst ey;cases (show u=yp b from ry);obtain⟨z,hd,xs,rel,dd⟩:=IU I.As e;obtain⟨w',hw,aI⟩:=Im.some_of (v:=v) (o:=(atKey xs k).map (·.2)) (by rw[l];exact rel.val k);obtain⟨p,hp,dL⟩:=Option.map_eq_some_iff.mp hw;refine wpAny_getItem_heap (tupleKind_room_in1 hu) (F6 I.As eb) dd hp ?_;rw[dL];exact h w' _ (I.tok _) aI
theorem Xg {Q:Value->Shared->Prop}(hu:A.units+1<cLine)(I:Inv X pins σ H s)(g:LL H a y o)(ry:RelV y u)(h:∀s',Inv X pins σ H s'->Q (.bool o.isSome) s'):
 wpAny (model X.prog X.w) A (compareOp .In u (.ref a)) Q E s:=by
 rcases g with ⟨kvs,k,e,ey,l⟩|⟨kvs,k,b,e,ey,eb,l⟩
 ·subst ey;obtain⟨z,hd,vs,rel,dd⟩:=IT I.As e;refine wpAny_in_of (IR ry) hd dd.mapOf ?_;rw[<-(rel.val k).Cp,<-l];exact h _ (I.tok _)
 ·subst ey;cases (show u=yp b from ry);obtain⟨z,hd,xs,rel,dd⟩:=IU I.As e;refine wpAny_in_heap (tupleKind_room_in1 hu) (F6 I.As eb) hd dd ?_;have q:=(rel.val k).Cp;rw[Option.isSome_map] at q;rw[<-q,<-l];exact h _ (I.tok _)
theorem Rb {Q:Value->Shared->Prop}(hu:A.units+1<cLine)(I:Inv X pins σ H s)(g:LL H a y o)(ry:RelV y u)(h:∀s',Inv X pins σ H s'->Q (.bool (!o.isSome)) s'):
 wpAny (model X.prog X.w) A (compareOp .NotIn u (.ref a)) Q E s:=by
 rcases g with ⟨kvs,k,e,ey,l⟩|⟨kvs,k,b,e,ey,eb,l⟩
 ·subst ey;obtain⟨z,hd,vs,rel,dd⟩:=IT I.As e;refine wpAny_notIn_of (IR ry) hd dd.mapOf ?_;rw[<-(rel.val k).Cp,<-l];exact h _ (I.tok _)
 ·subst ey;cases (show u=yp b from ry);obtain⟨z,hd,xs,rel,dd⟩:=IU I.As e;refine wpAny_notIn_heap (tupleKind_room_in1 hu) (F6 I.As eb) hd dd ?_;have q:=(rel.val k).Cp;rw[Option.isSome_map] at q;rw[<-q,<-l];exact h _ (I.tok _)
theorem Js {h':Heap}{t':Nat}{ob:HO}(I:Inv X pins σ H s)(mu:Vd (H a))(hs:Heap.SameBut a s.heap h')(he:∃q,h'.get? a=some q)(new:AF X.prog X.w (upd H a ob) h' a ob):
 Inv X pins σ (upd H a ob) {s with heap:=h',toks:=t' }:=
 I.write (x:=a) (e:=a) mu (.inl rfl) (λ b q hb z=>(hs.2 b hb).trans z) he new
theorem OI {P:Program}{w:World}{H':Hp}{h':Heap}{kvs:List (Key×V)}{vs:List (Key×Value)}(z:kvs.length<=sizeLine)(hd:(a==sysModules)=false)(rel:KV kvs vs)(dd:h'.DictOf (AH P w) a vs):
 AF P w H' h' a (.dK kvs):=⟨z,hd,vs,rel,dd⟩
theorem Np {H':Hp}{Q:Unit->Shared->Prop}(hu:A.units+1<cLine)(I:Inv X pins σ H s)(g:VF H a y v H')(ry:RelV y u)(rv:RelV v r)(h:∀s',Inv X pins σ H' s'->Q () s'):
 wpAny (model X.prog X.w) A (setItem (.ref a) u r) Q E s:=by
 rcases g with ⟨kvs,k,e,ey,l,eH⟩|⟨kvs,k,b,e,ey,eb,l,eH⟩
 ·subst ey eH;obtain⟨z,hd,vs,rel,dd⟩:=Sh I.As e;have hz:vs.length<=sizeLine:=by rw[<-rel.length];exact z
  have hl:(putK kvs k v).length<=sizeLine:=by have:=C8 kvs k v;omega
  refine wpAny_setItem_pairs (hsz:=hz) (IR ry) dd λ h' bM hs=>h _ ?_;have he:∃q,h'.get? a=some q:=let ⟨q,_,_,hq,_⟩:=bM;⟨q,hq⟩;exact Js I (by rw[e];exact True.intro) hs he (OI hl hd (rel.put k rv) bM)
 ·subst ey eH;cases (show u=yp b from ry);obtain⟨z,hd,xs,rel,dd⟩:=VE I.As e;have hz:xs.length<=sizeLine:=by rw[<-Paired.length rel];exact z
  have hl:(putK kvs k v).length<=sizeLine:=by have:=C8 kvs k v;omega
  refine wpAny_setItem_heap (hsz:=hz) (tupleKind_room_in1 hu) (F6 I.As eb) dd λ h' bM hs=>h _ ?_;obtain⟨q,es,ep,hq,h2,h3,h4,_,h5⟩:=bM;refine Js I (by rw[e];exact True.intro) hs ⟨q,hq⟩ ⟨hl,hd,_,(rel.put k eb rv).keeps λ c ys ec=>?_,q,es,ep,hq,h2,h3,h4,h5⟩;rw[A5 (Vc ec e (λ z=>nomatch z))];exact ec
end
theorem KA {X:Cx}{pins:List (Addr×Obj)}{σ:St}{H:Hp}{s:Shared}{a:Addr}{y:V}{o:Option V}(I:Inv X pins σ H s)(g:LL H a y o):s.TypeIs (.ref a) "dict" := by
 rcases g with ⟨kvs,k,e,_,_⟩|⟨kvs,k,b,e,_,_,_⟩
 ·obtain⟨_,_,vs,_,dd⟩:=IT I.As e;exact dd.typeIs
 ·obtain⟨_,_,xs,_,dd⟩:=IU I.As e;exact dd.typeIs
noncomputable def VG (td ty tv:TE):TS:=λ D σ H=>tv σ H λ v H1=>td σ H1 λ x H2=>ty σ H2 λ y H3=>∃a H4,x=.ref a/\VF H3 a y v H4/\D.nx σ H4
section
variable {X:Cx}{o i e value:Expr}{pos pos' aJ:Pos}{td ty tv:TE}
theorem Rc (hu:X.A.units+1<cLine)(ho:PE X o td)(hi:PE X i ty)(hv:PE X value tv)(hs:swapsWith value (some (.Subscript o i pos')) pos.line X.env=pure false):
 PS X (.Assign [.Subscript o i pos'] value pos) (VG td ty tv):=by
 intro pins s σ H D I h;refine wpAny_Assign_Subscript (B2 (hv pins s σ H _ I h) λ r s1 ⟨v,H1,I1,rv,q1⟩=>B2 (ho pins s1 σ H1 _ I1 q1) λ u s2 ⟨x,H2,I2,rx,q2⟩=>B2 (hi pins s2 σ H2 _ I2 q2) λ iv s3 ⟨y,H3,I3,ry,a,H4,ex,g,q3⟩=>?_) hs;subst ex;obtain rfl:u=yp a:=rx;exact Np hu I3 g ry rv λ s4 I4=>⟨σ,H4,I4,q3⟩
end
theorem KC {P:Program}{w:World}{H:Hp}(h:Heap)(hb:sysModules<h.objs.size):AF P w H (h.push {cls:=.type "dict",data:=.dict #[]}) h.objs.size (.dK []):=
 ⟨zT _,beq_eq_false_iff_ne.mpr (zQ (zB hb)),[],.nil,Heap.DictOf.new h⟩
theorem OJ {P:Program}{w:World}{H:Hp}(h:Heap)(hb:sysModules<h.objs.size):AF P w H (h.push {cls:=.type "dict",data:=.dict #[]}) h.objs.size (.dT []):=
 ⟨zT _,beq_eq_false_iff_ne.mpr (zQ (zB hb)),[],.nil,_,#[],0,zH _ rfl,⟨rfl,rfl,rfl⟩,rfl,rfl,yk⟩
noncomputable def Tf:TE:=λ _ H Q=>∀p,H p=none->Q (.ref p) (upd H p (.dK []))
noncomputable def Tg:TE:=λ _ H Q=>∀p,H p=none->Q (.ref p) (upd H p (.dT []))
section
variable {X:Cx}{pos:Pos}
theorem OK:PE X (.Dict [] [] pos) Tf:=λ pins s σ H Q I h =>
 wpAny_Dict_empty ⟨.ref s.heap.objs.size,_,I.laid (a:=s.heap.objs.size) (o:=.dK []) (t':=s.toks) (λ _ _ q=>zq _ q) (zm _) (KC s.heap I.big),rfl,h _ (I.As.fresh (zm _))⟩
theorem OL:PE X (.Dict [] [] pos) Tg:=λ pins s σ H Q I h =>
 wpAny_Dict_empty ⟨.ref s.heap.objs.size,_,I.laid (a:=s.heap.objs.size) (o:=.dT []) (t':=s.toks) (λ _ _ q=>zq _ q) (zm _) (OJ s.heap I.big),rfl,h _ (I.As.fresh (zm _))⟩
end
def LM:List (TE×TE)->St->Hp->(List (V×V)->Hp->Prop)->Prop
 |[],_,H,Q=>Q [] H
 |(tk,tv)::r,σ,H,Q=>tk σ H λ x H1=>tv σ H1 λ y H2=>LM r σ H2 λ ps H3=>Q ((x,y)::ps) H3
noncomputable abbrev VV:List (V×V)->List (Value×Value)->Prop:=Paired λ p q=>RelV p.1 q.1/\RelV p.2 q.2
def Wz (X:Cx)(pos:Pos)(keys:List (Option Expr))(values:List Expr)(bo:List (TE×TE)):Prop:=
 ∀(pins:List (Addr×Obj)) (s:Shared) (σ:St) (H:Hp) (Q:List (V×V)->Hp->Prop),Inv X pins σ H s->LM bo σ H Q->
  wpAny (model X.prog X.w) X.A (evalPairs (pairTrees keys values X.env pos)) (λ vs s'=>∃ps H',Inv X pins σ H' s'/\VV ps vs/\Q ps H') X.xe s
theorem Rf {X:Cx}{pos:Pos}:Wz X pos [] [] []:=λ pins s σ H Q I h=>pairTrees_nil_walk ⟨[],H,I,.nil,h⟩
theorem OM {X:Cx}{pos:Pos}{k v:Expr}{ks:List (Option Expr)}{vs:List Expr}{tk tv:TE}{bo:List (TE×TE)}(hk:PE X k tk)(hv:PE X v tv)(hr:Wz X pos ks vs bo):
 Wz X pos (some k::ks) (v::vs) ((tk,tv)::bo):=λ pins s σ H Q I h =>
 pairTrees_cons_walk (B2 (hk pins s σ H _ I h) λ u s1 ⟨x,H1,I1,rx,q1⟩=>B2 (hv pins s1 σ H1 _ I1 q1) λ w2 s2 ⟨y,H2,I2,ry,q2⟩ =>
  B2 (hr pins s2 σ H2 _ I2 q2) λ ws s3 ⟨ps,H3,I3,rel,q3⟩=>⟨(x,y)::ps,H3,I3,.cons ⟨rx,ry⟩ rel,q3⟩)
noncomputable def D9 (kvs more:List (Key×V)):List (Key×V):=more.foldl (λ acc kv=>putK acc kv.1 kv.2) kvs
theorem KV.merge:∀ {more:List (Key×V)}{rs:List (Key×Value)}{kvs:List (Key×V)}{vs:List (Key×Value)},KV more rs->KV kvs vs->KV (D9 kvs more) (merged vs rs):=by
 intro more rs kvs vs r;unfold KV at r;induction r generalizing kvs vs with
 |nil=>intro q;exact q
 | @cons p q ps qs h t ih =>
  intro r0;have e:KV (putK kvs p.1 p.2) (stored vs q.1 q.2):=by
   have:=r0.put p.1 h.2;rw[<-h.1];exact this
  exact ih e
theorem Ea:∀(more kvs:List (Key×V)),(D9 kvs more).length<=kvs.length+more.length
 |[],kvs=>by show kvs.length<=kvs.length+0;omega
 |p::r,kvs=>by
  have h1:=Ea r (putK kvs p.1 p.2);have h2:=C8 kvs p.1 p.2;show (D9 (putK kvs p.1 p.2) r).length<=_;rw[zp];omega
theorem Gy {P:Program}{w:World}:∀ {kvs:List (Key×V)}{ws:List (Value×Value)},VV (kvs.map λ kv=>(kV kv.1,kv.2)) ws->∃rs,Carries (AH P w) ws rs/\KV kvs rs
 |[],_,r=>by rw[List.map_nil] at r;cases r;exact⟨[],True.intro,.nil⟩
 |p::kvs,_,r=>by
  rw[zh] at r;cases r with
  | @cons a b as bs h t =>
   obtain⟨rs,c,q⟩:=Gy (P:=P) (w:=w) t;obtain⟨b1,b2⟩:=b;exact⟨(p.1,b2)::rs,⟨IR h.1,rfl,c⟩,.cons ⟨rfl,h.2⟩ q⟩
noncomputable def VH (bo:List (TE×TE)):TE:=λ σ H Q=>∀p,H p=none->LM bo σ (upd H p (.dK [])) λ ps H2=>H2 p=some (.dK [])/\∃kvs:List (Key×V),ps=kvs.map (λ kv=>(kV kv.1,kv.2))/\kvs.length<=15/\Q (.ref p) (upd H2 p (.dK (D9 [] kvs)))
theorem Rg {X:Cx}{pos:Pos}{keys:List (Option Expr)}{values:List Expr}{bo:List (TE×TE)}(h:Wz X pos keys values bo)(bJ:keys.all (·.isSome)=true)(hl:keys.length=values.length)(h0:keys≠[])
 (hV:keys.length<=15):PE X (.Dict keys values pos) (VH bo):=by
 intro pins s σ H Q I q;have hn:=I.As.fresh (zm s.heap.objs.size);have I1:=I.laid (a:=s.heap.objs.size) (o:=.dK []) (h':=s.heap.push {cls:=.type "dict",data:=.dict #[]}) (t':=s.toks) (λ _ _ q=>zq _ q) (zm _) (KC s.heap I.big);refine wpAny_Dict_walk (knd:=AH X.prog X.w) bJ hl h0 hV (B2 (h pins _ σ _ _ I1 (q _ hn)) λ ws s2 ⟨ps,H2,I2,rel,e,kvs,ep,lk,q2⟩=>?_);subst ep;obtain⟨rs,c,rk⟩:=Gy (P:=X.prog) (w:=X.w) rel;obtain⟨z,hd,fT,r0,dd⟩:=Sh I2.As e;cases r0;refine⟨rs,c,dd,λ h' bM hs=>⟨.ref s.heap.objs.size,_,?_,rfl,q2⟩⟩;have hz:(D9 [] kvs).length<=sizeLine:=by
  have h1:=Ea kvs [];rw[List.length_nil] at h1;rw[sizeLine_eq];omega
 have he:∃q,h'.get? s.heap.objs.size=some q:=let ⟨q,_,_,hq,_⟩:=bM;⟨q,hq⟩;exact Js I2 (by rw[e];exact True.intro) hs he (OI hz hd (rk.merge .nil) bM)
def Y7 (H:Hp)(a:Addr):Prop:=(∃kvs,Rd H a (.dK kvs))\/∃kvs,Rd H a (.dT kvs)
theorem ON {X:Cx}{pins:List (Addr×Obj)}{σ:St}{H:Hp}{s:Shared}{a:Addr}(I:Inv X pins σ H s)(d:Y7 H a):
 s.TypeIs (.ref a) "dict" /\ (∀b,yp a=.ref b->∃ob,s.heap.get? b=some ob/\ob.dict=none)/\(a==sysModules)=false:=by
 rcases d with ⟨kvs,e⟩|⟨kvs,e⟩
 ·obtain⟨_,hd,vs,_,dd⟩:=IT I.As e;refine⟨dd.typeIs,λ b q=>?_,hd⟩;cases q;obtain⟨ob,_,_,h1,h2,_⟩:=dd;exact⟨ob,h1,h2.2.1⟩
 ·obtain⟨_,hd,xs,_,dd⟩:=IU I.As e;refine⟨dd.typeIs,λ b q=>?_,hd⟩;cases q;obtain⟨ob,_,_,h1,h2,_⟩:=dd;exact⟨ob,h1,h2.2.1⟩
noncomputable def F7 (sc outer:Scope):Bool:=
 decide (sc.kind=.function)&&sc.names.all λ y=>decide (y.2≠.cell)&&(decide (y.2≠.free)||decide (outer.names.lookup y.1=some .cell)||decide (outer.names.lookup y.1=some .free))&&(decide (y.2≠.local)||decide (sc.names.lookup y.1=some .local))
noncomputable def KD (N NB:List Str)(sc:Scope)(μ:List (Option Nat)):Bool:=
 decide (NB.length=μ.length)&&(NB.zip μ).all λ p=>match p.2 with
  |none=>true
  |some i=>decide (N[i]?=some p.1)&&decide (sc.names.lookup p.1=some .free)
noncomputable def Ee (μ:List (Option Nat))(σ:St):St:=μ.map λ o=>o.bind λ i=>(σ[i]?).join
noncomputable def E7 (cells:List (Str×Addr)):List (Str×NameKind)->List (Str×Addr)->List (Str×Addr)
 |[],cs=>cs
 |(n,k)::r,cs=>E7 cells r (if (k==.free)=true then (n,(cells.lookup n).getD 0)::cs else cs)
theorem Eb {scope:Scope}{env:Env}(h:∀y∈scope.names,y.2=.free->∃c,env.cells.lookup y.1=some c):closureFor scope env=pure (E7 env.cells scope.names []):=by
 unfold closureFor;have key:∀(names:List (Str×NameKind)) (cs:List (Str×Addr)),(∀y∈names,y.2=.free->∃c,env.cells.lookup y.1=some c)->
  (forIn names cs λ(x:Str×NameKind) r=>match x with
   |(name,kind)=>if (kind==yq)=true then do
    let __do_lift <-cellOf env name
    pure (y9 ((name,__do_lift)::r))
    else pure (y9 r):Sem _)=pure (E7 env.cells names cs):=by
  intro names;induction names with
  |nil=>intro cs _;rfl
  |cons y r ih =>
   intro cs hy;obtain⟨n,k⟩:=y;rw[List.forIn_cons];by_cases hk:k=.free
   ·subst hk;obtain⟨c,hc⟩:=hy (n,.free) zb rfl;have e:cellOf env n=pure c:=by unfold cellOf;rw[show env.cells.lookup n=some c from hc]
    simp only[e,beq_self_eq_true,if_true,pure_bind];rw[ih _ λ z hz=>hy z (zd _ hz)];simp only[E7,beq_self_eq_true,if_true];rw[show env.cells.lookup n=some c from hc];rfl
   ·have hb:(k==yq)=false:=by simpa using hk
    simp only[hb,zu,if_false,pure_bind];rw[ih _ λ z hz=>hy z (zd _ hz)];simp only[E7,hb,zu,if_false]
 have q:=key scope.names [] h;simp only[bind_pure];exact q
theorem KG {cells:List (Str×Addr)}:∀ {names:List (Str×NameKind)}{cs:List (Str×Addr)}{x:Str}{c:Addr},(x,c)∈E7 cells names cs->(x,c)∈cs\/((x,.free)∈names/\c=(cells.lookup x).getD 0)
 |[],cs,x,c,h=>.inl h
 |(n,k)::r,cs,x,c,h=>by
  rcases KG (names:=r) h with q|⟨q,e⟩
  ·by_cases hk:k=.free
   ·subst hk;simp only[beq_self_eq_true,if_true] at q;rcases zk.mp q with z|z
    ·cases z;exact .inr ⟨zb,rfl⟩
    ·exact .inl z
   ·have hb:(k==yq)=false:=by simpa using hk
    simp only[hb,zu,if_false] at q;exact .inl q
  ·exact .inr ⟨zd _ q,e⟩
theorem Gz {cells:List (Str×Addr)}:∀ {names:List (Str×NameKind)}{cs:List (Str×Addr)}{p:Str×Addr},p∈cs->p∈E7 cells names cs
 |[],_,_,h=>h
 |(n,k)::r,cs,p,h=>by
  show p∈E7 cells r _;refine Gz ?_;by_cases hk:(k==yq)=true
  ·rw[if_pos hk];exact zd _ h
  ·rw[if_neg hk];exact h
theorem GA {cells:List (Str×Addr)}:∀ {names:List (Str×NameKind)}{cs:List (Str×Addr)}{x:Str},(x,.free)∈names->∃c,(x,c)∈E7 cells names cs
 |(n,k)::r,cs,x,h=>by
  rcases zk.mp h with z|z
  ·cases z;refine⟨(cells.lookup n).getD 0,?_⟩;show _∈E7 cells r (if (yq==yq)=true then _ else _);exact Gz (by rw[if_pos (beq_self_eq_true _)];exact zb)
  ·exact GA (names:=r) z
theorem Cd {x:Str}{c:Addr}:∀ {l:List (Str×Addr)},(x,c)∈l->∃c',l.lookup x=some c'
 |(y,d)::r,h=>by
  rw[List.lookup_cons];by_cases e:(x==y)=true
  ·rw[e];exact⟨d,rfl⟩
  ·rw[Bool.eq_false_iff.mpr e];rcases zk.mp h with z|z
   ·cases z;exact absurd (beq_self_eq_true x) e
   ·exact Cd z
theorem ED {scope:Scope}{env:Env}{x:Str}{k:NameKind}(h:(relabel scope env).names.lookup x=some k):∃k',scope.names.lookup x=some k'/\(k=k'\/(k'=.free/\k=.cell)):=by
 unfold relabel at h;dsimp only at h;revert h;induction scope.names with
 |nil=>intro h;cases h
 |cons y r ih =>
  obtain⟨n,k'⟩:=y;intro h;rw[zh,List.lookup_cons] at h;rw[List.lookup_cons];by_cases hc:(k'==yq&&env.scope.kind==.function&&env.kindOf n==some .cell)=true
  ·dsimp only at h;rw[if_pos hc] at h;dsimp only at h;cases e:x==n with
   |true =>
    rw[e] at h;have hf:k'=.free:=by
     have:=hc;simp only[zJ] at this;simpa using this.1.1
    exact⟨k',rfl,.inr ⟨hf,(zw h).symm⟩⟩
   |false=>rw[e] at h;exact ih h
  ·dsimp only at h;rw[if_neg hc] at h;dsimp only at h;cases e:x==n with
   |true=>rw[e] at h;exact⟨k',rfl,.inl (zw h).symm⟩
   |false=>rw[e] at h;exact ih h
theorem lookup_mem {α:Type}{x:Str}{k:α}:∀ {l:List (Str×α)},l.lookup x=some k->(x,k)∈l
 |(y,d)::r,h=>by
  rw[List.lookup_cons] at h;cases e:x==y with
  |true =>
   rw[e] at h;cases h;have:x=y:=by simpa using e
   subst this;exact zb
  |false=>rw[e] at h;exact zd _ (lookup_mem h)
noncomputable def blockOf (X:Cx)(s:Shared)(H:Hp)(scope:Scope)(C:Addr)(NB:List Str)(ex:List Addr):Cx:=
 {X with N:=NB,s₀:=s,H₀:=H,env:=compEnvC scope (E7 X.env.cells scope.names []) C X.env,outer:=X.stack,stack:=X.stack,ex:=ex,fn:=λ _=>false,pn:=[],xe:=λ _ _=>False}
section
variable {X:Cx}{pins:List (Addr×Obj)}{σ:St}{H:Hp}{s s4:Shared}{scope:Scope}{NB:List Str}{μ:List (Option Nat)}{fp:List Addr}{C:Addr}
theorem DJ (h:F7 scope X.env.scope=true):scope.kind=.function:=by
 unfold F7 at h;simp only[zJ,decide_eq_true_eq] at h;exact h.1
theorem DK {sc outer:Scope}(h:F7 sc outer=true){y:Str×NameKind}(hy:y∈sc.names):y.2≠.cell/\(y.2=.free->outer.names.lookup y.1=some .cell\/outer.names.lookup y.1=some .free)/\(y.2=.local->sc.names.lookup y.1=some .local):=by
 unfold F7 at h;simp only[zJ,decide_eq_true_eq,List.all_eq_true,Bool.or_eq_true] at h;obtain⟨⟨h1,h2⟩,h3⟩:=h.2 y hy;exact⟨h1,λ e=>by
  rcases h2 with (q|q)|q
  ·exact absurd e q
  ·exact .inl q
  ·exact .inr q,λ e=>h3.elim (λ q=>absurd e q) id⟩
theorem Ef (I:Inv X pins σ H s)(h:F7 scope X.env.scope=true){x:Str}(hx:(x,.free)∈scope.names):∃c,X.env.cells.lookup x=some c:=I.ok.has x ((DK h hx).2.1 rfl)
theorem BW (I:Inv X pins σ H s)(h:F7 scope X.env.scope=true){x:Str}{c:Addr}(e:(E7 X.env.cells scope.names []).lookup x=some c):X.env.cells.lookup x=some c:=by
 rcases KG (lookup_mem e) with q|⟨q,r⟩
 ·cases q
 ·obtain⟨c',e'⟩:=Ef I h q;rw[e'] at r;rw[e',r];rfl
theorem GB {env:Env}(h:F7 scope env.scope=true){x:Str}{k:NameKind}(hk:(relabel scope env).names.lookup x=some k)(hc:k=.cell\/k=.free):(x,.free)∈scope.names:=by
 obtain⟨k',e,q⟩:=ED hk;have m:=lookup_mem e;have n:=(DK h m).1;rcases q with q|⟨q,_⟩
 ·subst q;rcases hc with z|z
  ·exact absurd z n
  ·subst z;exact m
 ·subst q;exact m
theorem Rh (h:KD X.N NB scope μ=true):NB.length=μ.length/\∀(j i:Nat),μ[j]?=some (some i)->∃x,NB[j]?=some x/\X.N[i]?=some x/\scope.names.lookup x=some .free:=by
 unfold KD at h;simp only[zJ,decide_eq_true_eq,List.all_eq_true] at h;refine⟨h.1,λ j i e=>?_⟩;have hj:j<NB.length:=by rw[h.1];exact (zD.mp e).1
 have m:(NB[j],some i)∈NB.zip μ:=by
  refine List.mem_iff_getElem?.mpr ⟨j,?_⟩;rw[List.getElem?_zip_eq_some];exact⟨zr hj,e⟩
 have q:=h.2 _ m;dsimp only at q;simp only[zJ,decide_eq_true_eq] at q;exact⟨NB[j],zr hj,q.1,q.2⟩
theorem KH (I:Inv X pins σ H s)(am:F7 scope X.env.scope=true)(aK:KD X.N NB scope μ=true)(cm:∀b∈fp,FU X pins H b)(db:∀b∈fp,∃o,s.heap.get? b=some o)
 (hC:s.heap.objs.size<=C) {h4:Heap} {t4:Nat} (ns:h4.Ns C λ _=>none) (k:∀b o,s.heap.get? b=some o->h4.get? b=some o):
 Inv (blockOf X s H scope C NB fp) [] (Ee μ σ) H {s with heap:=h4,toks:=t4}:=by
 obtain⟨hlen,aK⟩:=Rh aK;have fU:∀b o,s.heap.get? b=some o->b≠C:=λ b o e=>zB (zt (zl e) hC);have de:∀x c,X.env.cells.lookup x=some c->c≠C:=λ x c e=>by
  obtain⟨v,o,ho,_⟩:=I.cell x c e;exact fU c o ho
 refine⟨⟨I.ok.mod,(show scope.kind=_ from DJ am),I.ok.glob,I.ok.blt,hC,λ x y c h1 h2=>I.ok.inj x y c (BW I am h1) (BW I am h2),λ x hx=>?_,λ x c h _=>(by cases h),I.ok.hd,I.ok.frames,.inl rfl,λ b hb=>?_,I.bs,zW I.ok.Sb I.sz,λ b o e hb=>?_,λ b hb hz=>?_,I.stack,I.Jk⟩,
  rfl,I.bare,Un.kept k,⟨_,ns,λ j x v e1 e2 e3=>?_⟩,λ x c e=>?_,I.As.fresh hC,λ x c e=>I.Cn x c (BW I am e),λ p hp=>(by cases hp),I.As.kept k,?_⟩
 ·have q:(x,yq)∈scope.names:=by
   rcases hx with hx|hx
   ·exact GB am hx (.inl rfl)
   ·exact GB am hx (.inr rfl)
  obtain⟨c,m⟩:=GA (cells:=X.env.cells) (cs:=[]) q;exact Cd m
 ·obtain⟨o,ho⟩:=db b hb;refine⟨fU b o ho,λ x c e z=>?_⟩;exact (cm b hb).2.2.2.2.1 x c (BW I am e) z
 ·rcases (cm b hb).2.2.2.1 with z|z
  ·exact I.ok.Oe b o e z
  ·exact absurd (zt (zl (I.ok.bs b o e).1) z) (Nat.lt_irrefl _)
 ·rcases zk.mp (I.LD b hz) with e|e
  ·exact (cm b hb).2.1 e
  ·exact (cm b hb).2.2.1 e
 ·have c7:(μ[j]?).map (λ o=>o.bind λ i=>(σ[i]?).join)=some (some v):=by
   rw[<-zF];exact e2
  cases q:μ[j]? with
  |none=>rw[q] at c7;cases c7
  |some o =>
   rw[q] at c7;cases o with
   |none=>cases c7
   |some i =>
    have e4:(σ[i]?).join=some v:=by simpa using c7
    have e5:σ[i]?=some (some v):=by
     cases z:σ[i]? with
     |none=>rw[z] at e4;cases e4
     |some w=>rw[z] at e4;simp at e4;rw[e4]
    obtain⟨x',n1,n2,n3⟩:=aK j i q;have ex:x'=x:=zw (n1.symm.trans e1);subst ex;have m:=lookup_mem n3;have ov:=(DK am m).2.1 rfl;obtain⟨mm,hn,hl⟩:=I.loc;obtain⟨u,r,l⟩:=hl i x' v n2 e5 (ov.elim (λ z=>.inr (.inl z)) λ z=>.inr (.inr z));refine⟨u,r,.inr ⟨?_,?_⟩⟩
    ·rcases e3 with z|z|z
     ·obtain⟨k',z1,z2⟩:=ED (k:=.local) z;rw[n3] at z1;cases z1;rcases z2 with z2|⟨_,z2⟩<;>cases z2
     ·exact .inl z
     ·exact .inr z
    ·rcases l with ⟨l,_⟩|⟨_,c,l1,l2⟩
     ·rcases ov with z|z<;>(rw[show X.env.kindOf x'=_ from z] at l;cases l)
     ·obtain⟨c',m'⟩:=GA (cells:=X.env.cells) (cs:=[]) m;obtain⟨jh,l3⟩:=Cd m';have l4:=BW I am l3;rw[l1] at l4;cases l4;refine⟨c,l3,?_⟩;obtain⟨o,ho,hd⟩:=l2;exact⟨o,k _ _ ho,hd⟩
 ·obtain⟨v,o,ho,hd⟩:=I.cell x c (BW I am e);exact⟨v,o,k _ _ ho,hd⟩
 ·show (Ee μ σ).length=NB.length;unfold Ee;rw[zf,hlen]
theorem CD.adopt {P:Program}{w:World}{H:Hp}{h:Heap}{a:Addr}{o:HO}(x:CD P w H h)(hn:H a=none)(new:AF P w (upd H a o) h a o):CD P w (upd H a o) h:=λ b u e=>by
 by_cases hb:b=a
 ·subst hb;rw[Ad] at e;cases e;exact new
 ·rw[A5 hb] at e;exact (x b u e).Gm (λ c v _ q=>q) (λ c q=>by rw[A5 (Aw q hn)];exact q) λ c xs q=>by rw[A5 (Aw q hn)];exact q
theorem Nq {H':Hp}{s':Shared}{h':Heap}{D:Addr}{pl:List (Addr×Obj)}{σ':St}{aa:List Value}{ys:List V}{n:Nat}(I:Inv X pins σ H s)(cm:∀b∈fp,FU X pins H b)(J:Inv (blockOf X s H scope C NB fp) pl σ' H' s')
 (hC:s.heap.objs.size<=C) (hD:s.heap.objs.size<=D) (bi:D≠C) (eD:s'.heap.get? D=some {cls:=.type "list",data:=.seq aa.toArray n}) (nD:H' D=none) (r:Vals ys aa) (hz:ys.length<=sizeLine)
 (sb:Heap.SameBut C s'.heap h'):Inv X pins σ (upd H' D (.lst ys)) {s' with heap:=h' }:=by
 have bN:∀b o,s.heap.get? b=some o->b≠C:=λ b o e=>zB (zt (zl e) hC);have dM:∀b o,s.heap.get? b=some o->b≠D:=λ b o e=>zB (zt (zl e) hD);have freshD:H D=none:=I.As.fresh hD;have nC:H' C=none:=J.free;have u:Un (FJ X.stack) fp H H' s.heap s'.heap:=J.base;have bL:CD X.prog X.w H' h':=λ b ob e=>(J.As b ob e).Gm (λ c v hc q=>(sb.2 c (by
  intro z;subst z;rcases hc with rfl|hc
  ·rw[nC] at e;cases e
  ·rw[nC] at hc;cases hc)).trans q) (λ _ q=>q) λ _ _ q=>q
 refine I.Sd (ch:=fp) J.os ⟨λ b o e n hb hx=>?_,λ b o e n hb hx=>?_,λ b o e n hx=>?_,λ b o e hx=>?_,λ b xs e=>?_,λ b o u' e=>?_,λ b ps e=>?_⟩ (bL.adopt nD ⟨hz,aa,n,r,(sb.2 D bi).trans eD⟩) J.bare λ b hb=>?_
 ·exact (sb.2 b (bN b o e)).trans (u.keep b o e n hb hx)
 ·obtain⟨sl,q⟩:=u.slot b o e n hb hx;exact⟨sl,(sb.2 b (bN b o e)).trans q⟩
 ·rw[A5 (dM b o e)];exact u.free b o e n hx
 ·obtain⟨o',q⟩:=u.there b o e hx;exact⟨o',(sb.2 b (bN b o e)).trans q⟩
 ·rw[A5 (Aw e freshD)];exact u.Gn b xs e
 ·rw[A5 (Aw e freshD)];exact u.F2 b o u' e
 ·rw[A5 (Aw e freshD)];exact u.Gp b ps e
 ·obtain⟨_,f1,_,f3,f4,f5⟩:=cm b hb;exact⟨f3,f1,f4,f5⟩
end
theorem Jt {prog:Program}{w:World}{A:Around}{R:Result->Shared->Prop}{s:Shared}{elt target iter:Expr}{ifs:List Expr}{scope:Scope}{pos:Pos}{it acc:Value}{env:Env}(I:Nat->Shared->Prop)
 (turn:∀n s,I n s->wpAny (model prog w) A (pyNext it) (λ r s₁=>match r with
  |none=>R (.ok .next) s₁
  |some v=>wpAny (model prog w) A (letOwnedTupleGo target it v) (λ _ s₁'=>wpAny (model prog w) A (assign target env v) (λ _ s₂ =>
   wpAny (model prog w) A (forIn ifs true λ c r=>if r=true then do let ok <-isTrue c env (eval c env);pure (y9 ok) else pure (y9 r)) (λ ok s₃ =>
    if ok=true then wpAny (model prog w) A (eval elt env) (λ x s₄ =>
     wpAny (model prog w) A (call (.builtin "list.append") [acc,x]) (λ _ s₅=>∃m,m<n/\I m s₅) (λ _ _=>False) s₄) (λ _ _=>False) s₃
    else ∃m,m<n/\I m s₃) (λ _ _=>False) s₂) (λ _ _=>False) s₁') (λ _ _=>False) s₁) (λ _ _=>False) s)
 (n:Nat) (h:I n s):
 codeAny (model prog w) A (.compLoop (.ListComp elt [⟨target,iter,ifs,0⟩] scope pos) 0 it acc env) R s:=by
 refine codeAny_loop rfl I (λ n s hI=>?_) n h;show wpAny _ A ((compTurn (.ListComp elt [⟨target,iter,ifs,0⟩] scope pos) 0 it acc env).onRaise (λ x=>do noteFrame x env;theTreesLotGoes x)) _ _ s;refine wpAny_noted ?_;rw[compTurn_list];refine wpAny_bind (wpAny_standAt (wpAny_bind (wpAny_mono (turn n s hI) (λ r s₁ h₁=>?_) λ _ _ h'=>h'.elim)));cases r with
 |none=>exact wpAny_pure h₁
 |some v =>
  refine wpAny_bind (wpAny_mono h₁ (λ _ s₁' h₁'=>?_) λ _ _ h'=>h'.elim);refine wpAny_bind (wpAny_mono h₁' (λ _ s₂ h₂=>wpAny_bind (wpAny_mono h₂ (λ ok s₃ h₃=>?_) λ _ _ h'=>h'.elim)) λ _ _ h'=>h'.elim);cases ok with
  |false=>exact wpAny_pure ⟨rfl,h₃⟩
  |true =>
   exact wpAny_bind (wpAny_bind (wpAny_mono h₃ (λ x s₄ h₄=>wpAny_bind (wpAny_mono h₄ (λ _ s₅ h₅=>wpAny_pure (wpAny_pure ⟨rfl,h₅⟩)) λ _ _ h'=>h'.elim)) λ _ _ h'=>h'.elim))
def VI (X:Cx)(cs:List Expr)(t:TT):Prop:=
 ∀(pins:List (Addr×Obj)) (s:Shared) (σ:St) (H:Hp) (Q:Bool->Hp->Prop),Inv X pins σ H s->t σ H Q->
  wpAny (model X.prog X.w) X.A (forIn cs true λ c r=>if r=true then do let ok <-isTrue c X.env (eval c X.env);pure (y9 ok) else pure (y9 r)) (TP X pins σ Q) X.xe s
noncomputable def Xh:TT:=λ _ H Q=>Q true H
theorem Ri {X:Cx}:VI X [] Xh:=λ _ _ _ H _ I h=>wpAny_tests_nil ⟨H,I,h⟩
def GC (μ:List (Option Nat))(g:TG):Prop:=∀σ x H Q,g x (Ee μ σ) H Q->g x (Ee μ σ) H λ σ' H'=>Q σ' H'/\∀(j:Nat) v,(Ee μ σ)[j]?=some (some v)->σ'[j]?=some (some v)
theorem Rj {μ:List (Option Nat)}{i:Nat}(h:μ[i]?=some none):GC μ (Mz i):=λ σ x H Q q=>by
 refine⟨q,λ j v e=>?_⟩;have ab:j≠i:=λ z=>by
  subst z;unfold Ee at e;rw[zF,h] at e;cases e
 rw[yc (zQ ab)];exact e
def XJ (J:It)(H1:Hp)(Q:VK)(st:V->Hp->(St->Hp->Prop)->Prop)(tc:TT)(te:TE):Prop:=
 ∃W:Nat->Nat->List V->Hp->Prop,(∃m,W 0 m [] H1)/\∀i m ys H2,W i m ys H2->
  (J.stop i H2/\∀D,H2 D=none->Q (.ref D) (upd H2 D (.lst ys))) \/
  (J.go i H2/\ys.length<sizeLine/\∃N:List V->Hp->Prop,(∀a4 H',N a4 H'->∃m',m'<m/\W (i+1) m' a4 H')/\∀x H3,J.QS i H2 x H3->st x H3 λ σ4 H4=>tc σ4 H4 λ b H5=>if b=true then te σ4 H5 λ y H6=>N (ys++[y]) H6 else N ys H5)
noncomputable def MD (wi:TI)(μ:List (Option Nat))(g:TG)(tc:Shared->Hp->Addr->List Addr->TT)(te:Shared->Hp->Addr->List Addr->TE):TE:=λ σ H Q=>wi σ H λ J H1=>∀s C ex,XJ J H1 Q (λ x H K=>g x (Ee μ σ) H K) (tc s H1 C ex) (te s H1 C ex)
section
variable {X:Cx}{pins:List (Addr×Obj)}{σ:St}{H2:Hp}{s2:Shared}{tg elt iter:Expr}{ifs:List Expr}{scope:Scope}{pos:Pos}{NB:List Str}{μ:List (Option Nat)}{g:TG}{tc:Shared->Hp->Addr->List Addr->TT}{te:Shared->Hp->Addr->List Addr->TE}{fp:List Addr}{it:Addr}{tn:Nat->Heap->Prop}{J:It}{Q:VK}
theorem IV (hc:X.calm=true)(I2:Inv X pins σ H2 s2)(T:Turn X.prog X.w X.K tg J fp it tn)(bm:tn 0 s2.heap)(f2:∀b∈fp,FU X pins H2 b)
 (am:F7 scope X.env.scope=true) (aK:KD X.N NB scope μ=true) (c8:GC μ g)
 (hb:∀(s:Shared) (H:Hp) (C:Addr) (ex:List Addr),PG (blockOf X s H scope C NB ex) tg g/\VI (blockOf X s H scope C NB ex) ifs (tc s H C ex)/\PE (blockOf X s H scope C NB ex) elt (te s H C ex))
 (q:∀C,XJ J H2 Q (λ x H K=>g x (Ee μ σ) H K) (tc s2 H2 C fp) (te s2 H2 C fp)) {RR:Value->Addr->Result->Shared->Prop} {E:Value->Shared->Prop}
 (fin:∀(D C:Addr) (s':Shared) (H':Hp) (ys:List V) (m:Str->Option Value),s2.heap.objs.size<=D->s2.heap.objs.size<=C->D≠C->s'.heap.Ns C m->H' C=none->(∀h',Heap.SameBut C s'.heap h'->Inv X pins σ (upd H' D (.lst ys)) {s' with heap:=h' })->Q (.ref D) (upd H' D (.lst ys))->RR (.ref D) C (.ok .next) s'):
 wpAny (model X.prog X.w) X.A (newList []) (λ acc s₃=>wpAny (model X.prog X.w) X.A (newFunctionEnv scope X.env.globals (E7 X.env.cells scope.names []) [] X.env.qual none .none (some X.env)) (λ c9 s₄ =>
  codeAny (model X.prog X.w) X.A (.compStart (.ListComp elt [⟨tg,iter,ifs,0⟩] scope pos) 0 (.ref it) acc {c9 with scope:=relabel scope X.env}) (RR acc c9.locals) s₄) E s₃) E s2:=by
 have aD:∀y∈scope.names,y.2≠.cell:=λ y hy=>(DK am hy).1;refine wpAny_newObj_type (wpAny_newFunctionEnv aD (by intro y hy;simp at hy) (λ h₁ hns₁ hsb₁=>?_) (DJ am));dsimp only at hns₁ hsb₁ ⊢;generalize dN:s2.heap.push {cls:=.type "list",dict:=none,data:=.seq ([]:List Value).toArray}=df at hns₁ hsb₁ ⊢;have hC:df.objs.size=s2.heap.objs.size+1:=by rw[<-dN,Heap.size_push]
 have bi:s2.heap.objs.size≠df.objs.size:=by rw[hC];exact zB (Nat.lt_succ_self _)
 have cA:s2.heap.objs.size<=df.objs.size:=by rw[hC];exact Nat.le_succ _
 have old:∀b o,s2.heap.get? b=some o->h₁.get? b=some o:=λ b o e=>hsb₁.extBut b o (by rw[hC];exact zB (Nat.lt_succ_of_lt (zl e))) (zq _ (dN▸zq _ e));have eD:h₁.get? s2.heap.objs.size=some {cls:=.type "list",data:=.seq ([]:List Value).toArray}:=hsb₁.extBut _ _ bi (zq _ (dN▸zH _ rfl));have db:∀b∈fp,∃o,s2.heap.get? b=some o:=λ b hb=>let ⟨o,e,_⟩:=T.obj _ _ bm b hb;⟨o,e⟩;have dO:∀b∈fp,b≠s2.heap.objs.size:=λ b hb=>let ⟨o,e⟩:=db b hb;zB (zl e);generalize fV:s2.heap.objs.size=D at cA bi eD dO ⊢;generalize ji:df.objs.size=C at *;have aL:s2.heap.objs.size<=D:=by rw[fV];exact zm _
 have aS:s2.heap.objs.size<=C:=by rw[fV];exact cA
 have I4:Inv (blockOf X s2 H2 scope C NB fp) [] (Ee μ σ) H2 {s2 with heap:=h₁,toks:=s2.toks+([]:List (Str×Value)).length}:=KH I2 am aK f2 db aS (by simpa using hns₁) old;have a6:∀ {H':Hp} {pl:List (Addr×Obj)},(∀b∈fp,H' b=none)->(∀p∈pl,p.1=D)->∀b∈fp,FU (blockOf X s2 H2 scope C NB fp) pl H' b:=fun {H' pl} hn hp b hb=>by
  refine⟨hn b hb,(I4.ok.Wv b hb).1,I4.ok.Of b hb,.inl hb,λ x c e z=>(I4.ok.Wv b hb).2 x c e z,λ p dP z=>?_⟩;have dQ:p∈pl:=by simpa [blockOf] using dP
  exact dO b hb (z▸hp p dQ)
 have hX:D∉(blockOf X s2 H2 scope C NB fp).fs:=λ z=>by
  obtain⟨_,o,ho,_⟩:=I4.ok.F3.mem z;exact absurd (zl ho) (Nat.not_lt.mpr aL)
 obtain⟨W,⟨m0,w0⟩,turn⟩:=q C;have loop:∀s₃:Shared,s₃={s2 with heap:=h₁,toks:=s2.toks+([]:List (Str×Value)).length} ->
  codeAny (model X.prog X.w) X.A (.compLoop (.ListComp elt [⟨tg,iter,ifs,0⟩] scope pos) 0 (.ref it) (.ref D) (compEnvC scope (E7 X.env.cells scope.names []) C X.env)) (RR (.ref D) C) s₃:=by
  rintro s₃ rfl;refine Jt (λ n s'=>∃i ys aa k H',Inv (blockOf X s2 H2 scope C NB fp) [(D,{cls:=.type "list",data:=.seq aa k})] (Ee μ σ) H' s'/\tn i s'.heap/\(∀b∈fp,H' b=none)/\Vals ys aa.toList/\ys.length<=sizeLine/\W i n ys H') ?_ m0
   ⟨0,[],#[],0,H2,I4.Ey λ p hp=>?_,T.keep _ _ _ bm λ b hb o e=>old b o e,λ b hb=>(f2 b hb).1,.nil,zT _,w0⟩
  rotate_left
  ·have e:=zj.mp hp;subst e;exact⟨eD,I2.As.fresh aL,bi,hX,λ v=>by simp⟩
  rintro n s3 ⟨i,ys,aa,k,H3,I3,cv,cw,rv,hz,w3⟩;rcases turn i n ys H3 w3 with ⟨stop,qn⟩|⟨go,ag,N,hN,step⟩
  ·refine wpAny_mono (T.done (blockOf X s2 H2 scope C NB fp) rfl rfl rfl hc i _ s3 _ H3 (λ _ _=>False) I3 (a6 cw (by simp)) cv stop) (λ r s4 ⟨hr,dg⟩=>?_) λ _ _ e=>e;subst hr;obtain⟨p1,p2,p3,p4,p5⟩:=dg.pin _ (ze _ zb);obtain⟨m,hn,_⟩:=id dg.loc;have e1:s4.heap.get? D=some {cls:=.type "list",data:=.seq aa.toList.toArray k}:=by simpa using p1
   exact fin D C s4 H3 ys m aL aS bi hn dg.free (λ h' sb=>Nq I2 f2 dg aS aL bi e1 p2 rv hz sb) (qn D p2)
  ·refine wpAny_mono (T.item (blockOf X s2 H2 scope C NB fp) rfl rfl rfl hc i _ s3 _ H3 (λ _ _=>False) I3 (a6 cw (by simp)) cv go) (λ r s4 ⟨u,hr,h4⟩=>?_) λ _ _ e=>e;subst hr;refine B2 h4 λ _ s5 ⟨x,H5,I5,r5,y5,bI,d7⟩=>?_;have d8:=I5.pinned (a6 d7 (by simp)) (T.obj _ _ bI);have bH:=c8 σ x H5 _ (step x H5 y5);obtain⟨hg,ht,he⟩:=hb s2 H2 C fp;refine B2 (hg _ s5 _ H5 x u _ d8 r5 bH) λ _ s6 ⟨σ6,H6,I6,q6,k6⟩=>?_;refine B2 (ht _ s6 σ6 H6 _ I6 q6) λ ok s7 ⟨H7,I7,q7⟩=>?_;have again:∀ {H8:Hp} {s8:Shared} {its':Array Value} {k':Nat} {a4:List V},Inv (blockOf X s2 H2 scope C NB fp) ([(D,{cls:=.type "list",data:=.seq its' k' })]++Ec fp s5.heap) σ6 H8 s8->Vals a4 its'.toList->a4.length<=sizeLine->(∃m,m<n/\W (i+1) m a4 H8)->
    ∃m,m<n/\∃i ys aa k H',Inv (blockOf X s2 H2 scope C NB fp) [(D,{cls:=.type "list",data:=.seq aa k})] (Ee μ σ) H' s8/\tn i s8.heap/\(∀b∈fp,H' b=none)/\Vals ys aa.toList/\ys.length<=sizeLine/\W i m ys H':=fun {H8 s8 its' k' a4} I8 ap hZ n8=>by
    obtain⟨m',hm,w8⟩:=n8;refine⟨m',hm,i+1,a4,its',k',H8,(I8.EA.weak ?_ k6),T.keep _ _ _ bI λ b hb o e=>(I8.pin (b,o) (ze _ (ze _ (CF hb e)))).1,λ b hb=>?_,ap,hZ,w8⟩
    ·rw[I8.len];exact I4.len
    ·obtain⟨o,e,d⟩:=T.obj _ _ bI b hb;exact (I8.pin (b,o) (ze _ (ze _ (CF hb e)))).2.1
   cases ok with
   |false =>
    simp only[zu,if_false] at q7 ⊢;exact again I7 rv hz (hN _ _ q7)
   |true =>
    simp only[if_true] at q7 ⊢;refine B2 (he _ s7 σ6 H7 _ I7 q7) λ uy s8 ⟨y,H8,I8,r8,q8⟩=>?_;obtain⟨p1,p2,p3,p4,p5⟩:=I8.pin (D,_) (ze _ (zx _ zb));have e1:s8.heap.get? D=some {cls:=.type "list",data:=.seq aa k}:=p1;have hsz:aa.size=ys.length:=by rw[<-Array.length_toList];exact rv.length.symm
    refine call_meets F.slot_list_append ⟨_,e1,rfl⟩ F.entry_list_append (F.args_list_append_2 _ _) (PySem.list_append D aa k uy (by rw[hsz];omega)) ⟨e1,?_⟩;have dR:=PySem.IsL.update e1 (·.push uy);have Iu:Inv (blockOf X s2 H2 scope C NB fp) (Ec fp s5.heap) σ6 H8 s8:=I8.Ey λ p hp=>I8.pin p (ze _ (ze _ hp));have It:=Iu.turned (it:=D) (h':=s8.heap.update D (Obj.mapSeq (·.push uy))) (t':=s8.toks) (λ b o hb e=>(Heap.get?_update_other _ _ (zQ hb)).trans e) p2 p3 (.inr aL) (λ x c e z=>?_) (λ p hp z=>?_)
    ·refine again (its':=aa.push uy) (k':=if (aa.push uy).size==aa.size then k else k+1) (It.Ey λ p hp=>?_) (by simpa using rv.append (.cons r8 .nil)) (by rw[zV,yr];omega) (hN _ _ q8);rcases zC.mp hp with hp|hp
     ·have e:=zj.mp hp;subst e;exact⟨dR,p2,p3,p4,λ v=>by simp⟩
     ·exact It.pin p (ze _ hp)
    ·have e':=BW I2 am e;obtain⟨v,o,ho,_⟩:=I2.cell x c e';exact absurd (zl ho) (by rw[z];exact Nat.not_lt.mpr aL)
    ·have dP:p∈Ec fp s5.heap:=by simpa [blockOf] using hp
     exact dO p.1 (IJ dP).1 z
 exact codeAny_compStart_list (loop _ rfl) (T.self _ 0 _ _ _ (T.keep _ _ _ bm λ b hb o e=>old b o e) (loop _ rfl))
theorem Rk {wi:TI}(hc:X.calm=true)(hi:PI X tg iter wi)(am:F7 scope X.env.scope=true)(aK:KD X.N NB scope μ=true)(c8:GC μ g)
 (hb:∀(s:Shared) (H:Hp) (C:Addr) (ex:List Addr),PG (blockOf X s H scope C NB ex) tg g/\VI (blockOf X s H scope C NB ex) ifs (tc s H C ex)/\PE (blockOf X s H scope C NB ex) elt (te s H C ex))
 (hs:∀x,foldedSetIterable iter X.env x=pure x:=by intro _;rfl):PE X (.ListComp elt [⟨tg,iter,ifs,0⟩] scope pos) (MD wi μ g tc te):=by
 intro pins s σ H Q I h;have a8:∀y∈scope.names,y.2=.local->scope.names.lookup y.1=some .local:=λ y hy=>(DK am hy).2.2;have aT:closureFor scope X.env=pure (E7 X.env.cells scope.names []):=Eb λ y hy e=>Ef I am (x:=y.1) (by rw[<-e];exact hy);rw[eval_ListComp];refine wpAny_comprehension_free (use:=none) rfl hs aT (DJ am) a8 (B2 (hi pins s σ H _ I h) λ v s1 h1=>B2 h1 λ cX s2 h2=>?_);obtain⟨it,fp,tn,J,H2,e,I2,T,bm,f2,q⟩:=h2;subst e;refine IV (RR:=λ acc C=>compPost (model X.prog X.w) X.A X.xe none (EP X pins σ Q) acc C) hc I2 T bm f2 am aK c8 hb (λ C=>q s2 C fp) ?_;intro D C s' H' ys m hD hC bi hn nC hI hq;exact⟨m,hn,λ h' sb=>⟨.ref D,_,hI h' sb,rfl,hq⟩⟩
noncomputable def VJ (i:Nat)(te:TE):TS:=λ D σ H=>te σ H λ x H1=>D.nx (σ.set i (some x)) H1
theorem Rl {wi:TI}{i:Nat}{y:Str}{py aU:Pos}(hN:X.N.Nodup)(dS:X.N[i]?=some y)(hy:Loc X.env.scope y)(hc:X.calm=true)(hi:PI X tg iter wi)(am:F7 scope X.env.scope=true)(aK:KD X.N NB scope μ=true)(c8:GC μ g)
 (hb:∀(s:Shared) (H:Hp) (C:Addr) (ex:List Addr),PG (blockOf X s H scope C NB ex) tg g/\VI (blockOf X s H scope C NB ex) ifs (tc s H C ex)/\PE (blockOf X s H scope C NB ex) elt (te s H C ex))
 (cB:swapsWith (.ListComp elt [⟨tg,iter,ifs,0⟩] scope pos) (some (.Name y py)) aU.line X.env=pure true:=by rfl)
 (hs:∀x,foldedSetIterable iter X.env x=pure x:=by intro _;rfl) (hf:X.fn y=true\/X.env.scope.names.lookup y=some .local:=by first|exact .inl rfl|exact .inr rfl|assumption):
 PS X (.Assign [.Name y py] (.ListComp elt [⟨tg,iter,ifs,0⟩] scope pos) aU) (VJ i (MD wi μ g tc te)):=by
 intro pins s σ H D' I h;have a8:∀y∈scope.names,y.2=.local->scope.names.lookup y.1=some .local:=λ y hy=>(DK am hy).2.2;have aT:closureFor scope X.env=pure (E7 X.env.cells scope.names []):=Eb λ y hy e=>Ef I am (x:=y.1) (by rw[<-e];exact hy);rw[exec_Assign_Name_used _ _ _ _ cB];refine wpAny_bind (wpAny_standAt (wpAny_bind ?_));show wpAny _ X.A (do let _ <-comprehension (.ListComp elt [⟨tg,iter,ifs,0⟩] scope pos) scope X.env _ (newList []) false (eval iter X.env) (some (assign (.Name y py) X.env))) _ _ s;refine wpAny_bind (wpAny_mono (wpAny_comprehension_free (use:=some (assign (.Name y py) X.env)) (Q:=λ _ s'=>SP X pins D' .next s') rfl hs aT (DJ am) a8 (B2 (hi pins s σ H _ I h) λ v s1 h1=>B2 h1 λ cX s2 h2=>?_)) (λ _ s' hq=>wpAny_pure (wpAny_pure hq)) λ _ _ e=>e);obtain⟨it,fp,tn,J,H2,e,I2,T,bm,f2,q⟩:=h2;subst e;refine IV (RR:=λ acc C=>compPost (model X.prog X.w) X.A X.xe (some (assign (.Name y py) X.env)) (λ _ s'=>SP X pins D' .next s') acc C) hc I2 T bm f2 am aK c8 hb (λ C=>q s2 C fp) ?_;intro D C s' H' ys m hD hC bi hn nC hI hq;have I':=hI s'.heap (.refl ..);show wpAny _ X.A (assign (.Name y py) X.env (.ref D)) _ _ _;refine wpAny_assign_Name (IG (i:=i) (v:=.ref D) I' hN dS hy rfl (λ cx ia dU=>?_) hf);obtain⟨a,sb,ha⟩:=dU;have cg:a≠C:=by
  rcases ha with z|z
  ·rw[z];exact zB (zt I2.lt hC)
  ·obtain⟨v,o,ho,_⟩:=I2.cell y a z;exact zB (zt (zl ho) hC)
 refine⟨m,hn.sameBut sb (zQ cg),λ h' ib=>?_⟩;refine⟨_,_,ia.turned (it:=C) (t':=cx.toks) (λ b o hb e=>(ib.2 b hb).trans e) (by rw[A5 (zQ bi)];exact nC) (Nat.ne_of_gt (zt I2.lt hC)) (.inr (zW I2.sz hC)) (λ x c e z=>?_) (λ p hp z=>?_),hq⟩
 ·obtain⟨v,o,ho,_⟩:=I2.cell x c e;exact absurd (zl ho) (by rw[z];exact Nat.not_lt.mpr hC)
 ·exact absurd (zl (I2.pin p hp).1) (by rw[z];exact Nat.not_lt.mpr hC)
end
noncomputable def XM (K:za)(a:Addr):It:=
 ⟨λ i H=>∃xs x,CC K H a xs/\xs[i]?=some x,λ i H v H'=>∃p x,H p=none/\v=.ref p/\(∀xs,CC K H a xs->xs[i]?=some x)/\H'=upd H p (.tup [.int i,x]),λ i H=>∃xs,CC K H a xs/\xs.length<=i⟩
theorem LN {X:Cx}{pins:List (Addr×Obj)}{σ:St}{H:Hp}{s:Shared}{h':Heap}{t':Nat}{e it:Addr}(I:Inv X pins σ H s)(he:FU X pins H e)(hi:FU X pins H it)(k:∀b o,b≠e->b≠it->s.heap.get? b=some o->h'.get? b=some o):Inv X pins σ H {s with heap:=h',toks:=t' }:=by
 obtain⟨e0,e1,e2,e3,e4,e5⟩:=he;obtain⟨f0,f1,f2,f3,f4,f5⟩:=hi;have ne:∀b u,H b=some u->b≠e/\b≠it:=λ b u q=>⟨λ z=>(by rw[z,e0] at q;cases q),λ z=>(by rw[z,f0] at q;cases q)⟩;refine I.step (g':=s.gens) (d':=s.drawn) (ch:=[e,it]) (λ b hb=>?_) (λ b o _ _ hc q _=>k b o (λ z=>hc (by simp[z])) (λ z=>hc (by simp[z])) q) (λ b o _ _ hc q _=>⟨o.slots,k b o (λ z=>hc (by simp[z])) (λ z=>hc (by simp[z])) q⟩) (λ _ _ _ _ n=>n)
  (λ b o hc q=>⟨o,k b o (λ z=>hc (by simp[z])) (λ z=>hc (by simp[z])) q⟩) (λ _ _ q=>q) (λ _ _ _ q=>q) (λ b ps q=>⟨#[],by rw[q];simp⟩) (λ m hm=>?_) (λ b u q=>?_) I.bare
 ·rcases zk.mp hb with z|z
  ·subst z;exact⟨e3,e1,e4,e5⟩
  ·have z:=zj.mp z;subst z;exact⟨f3,f1,f4,f5⟩
 ·obtain⟨o,es,ep,ho,r⟩:=hm;exact⟨o,es,ep,k _ o (zQ e1) (zQ f1) ho,r⟩
 ·refine (I.As b u q).Gm (λ c v hc z=>k c v ?_ ?_ z) (λ _ z=>z) λ _ _ z=>z
  ·rcases hc with z|z
   ·rw[z];exact (ne b u q).1
   ·exact (ne c _ z).1
  ·rcases hc with z|z
   ·rw[z];exact (ne b u q).2
   ·exact (ne c _ z).2
theorem Nr {P:Program}{w:World}{K:za}{aV:List Expr}{x1}{aJ:Pos}(a e it:Addr)(ab:e≠it):
 Turn P w K (.Tuple aV x1 aJ) (XM K a) [e,it] e (λ i h=>(∃old,IsEnum h e it i old)/\h.IsListIter it a i) where
 mem:=by simp
 obj:=λ i h st b hb=>by
  obtain⟨⟨old,h1⟩,o,h2,c,d⟩:=st;rcases zk.mp hb with z|z
  ·subst z;exact⟨_,h1,λ v z=>by cases z⟩
  ·have z:=zj.mp z;subst z;exact⟨o,h2,λ v z=>by rw[d] at z;cases z⟩
 keep:=λ i h h' st k=>⟨let ⟨old,h1⟩:=st.1;⟨old,k e (by simp) _ h1⟩,st.2.at λ o e=>k it (by simp) o e⟩
 item:=by
  intro X hP hw hK hc i pins s σ H E I hf st hg;subst hP hw hK;obtain⟨xs,x,hq,hx⟩:=hg;obtain⟨⟨old,he⟩,hit⟩:=st;obtain⟨aa,rv,p,hz⟩:=I.list hq;obtain⟨u,hu,ru⟩:=rv.get hx;have fe:=hf e (by simp);have fi:=hf it (by simp);refine wpAny_pyNext_enum_item he hit p.isList (x:=u) (by simpa using hu) ab λ h1 bv dW ht hsz hk=>?_;refine⟨_,rfl,wpAny_letOwnedTupleGo_enum (s:={s with heap:=h1,toks:=s.toks+1}) bv λ h2 ic bO=>?_⟩;have a9:Heap.SameBut e h1 h2:=bO;have nt:s.heap.objs.size≠e:=Nat.ne_of_gt (zl he);have ie:s.heap.objs.size≠it:=by
   obtain⟨o,ho,_⟩:=hit;exact Nat.ne_of_gt (zl ho)
  have I1:Inv X pins σ H {s with heap:=h2,toks:=s.toks+1}:=LN I fe fi λ b o hb aE q=>(a9.2 b hb).trans (hk b o hb aE q);have tup:h2.get? s.heap.objs.size=some {cls:=.type "tuple",data:=.seq #[.int i s.toks,u]}:=(a9.2 _ nt).trans ht;have nH:H s.heap.objs.size=none:=I.As.fresh (zm _);have vv:Vals [.int i,x] [.int i s.toks,u]:=.cons ⟨_,rfl⟩ (.cons ru .nil);have dX:CD X.prog X.w (upd H s.heap.objs.size (.tup [.int i,x])) h2:=I1.As.adopt nH ⟨by show 2<=sizeLine;decide,_,vv,⟨_,tup,rfl,_,rfl⟩⟩;have I2:Inv X pins σ (upd H s.heap.objs.size (.tup [.int i,x])) {s with heap:=h2,toks:=s.toks+1}:=by
   refine I.step (g':=s.gens) (d':=s.drawn) (ch:=[e,it]) (λ b hb=>?_) (λ b o _ _ hc q _=>(a9.2 b (λ z=>hc (by simp[z]))).trans (hk b o (λ z=>hc (by simp[z])) (λ z=>hc (by simp[z])) q)) (λ b o _ _ hc q _=>⟨o.slots,(a9.2 b (λ z=>hc (by simp[z]))).trans (hk b o (λ z=>hc (by simp[z])) (λ z=>hc (by simp[z])) q)⟩)
    (λ b o hc q n=>by rw[A5 (zB (zl q))];exact n) (λ b o hc q=>⟨o,(a9.2 b (λ z=>hc (by simp[z]))).trans (hk b o (λ z=>hc (by simp[z])) (λ z=>hc (by simp[z])) q)⟩)
    (λ b xs q=>by rw[A5 (Aw q nH)];exact q) (λ b o u q=>by rw[A5 (Aw q nH)];exact q) (λ b ps q=>⟨#[],by rw[A5 (Aw q nH),q];simp⟩) (λ m hm=>?_) dX I.bare
   ·rcases zk.mp hb with z|z
    ·subst z;exact⟨fe.2.2.2.1,fe.2.1,fe.2.2.2.2.1,fe.2.2.2.2.2⟩
    ·have z:=zj.mp z;subst z;exact⟨fi.2.2.2.1,fi.2.1,fi.2.2.2.2.1,fi.2.2.2.2.2⟩
   ·obtain⟨o,es,ep,ho,r⟩:=hm;exact⟨o,es,ep,(a9.2 _ (zQ fe.2.1)).trans (hk _ o (zQ fe.2.1) (zQ fi.2.1) ho),r⟩
  refine⟨.ref s.heap.objs.size,_,I2,rfl,⟨_,x,nH,rfl,λ ys hy=>by rw[I.Ez hy hq];exact hx,rfl⟩,⟨⟨u,ic⟩,dW.at λ o q=>(a9.2 it (zQ ab)).trans q⟩,λ b hb=>?_⟩;have aE:b≠s.heap.objs.size:=by
   rcases zk.mp hb with z|z
   ·rw[z];exact zQ nt
   ·rw[zj.mp z];exact zQ ie
  rw[A5 aE];exact (hf b hb).1
 done:=by
  intro X hP hw hK hc i pins s σ H E I hf st hg;subst hP hw hK;obtain⟨xs,hq,hx⟩:=hg;obtain⟨⟨old,he⟩,hit⟩:=st;obtain⟨aa,rv,p,hz⟩:=I.list hq;have hl:=rv.length;obtain⟨f0,f1,f2,f3,f4,f5⟩:=hf it (by simp);exact wpAny_pyNext_enum_end (I.ok.hd hc) he hit p.isList (by simp;omega) λ h' eb=>⟨rfl,I.turned (t':=s.toks) (λ b o hb e=>eb b o hb e) f0 f1 f3 f4 f5⟩
 self:=λ _ _ _ _ _ st h=>let ⟨_,he⟩:=st.1;wpAny_pyIter_enum he h
section
variable {X:Cx}
noncomputable def VL (K:za)(ta:TA):TI:=λ σ H R=>ta σ H λ vs H1=>∃a,vs=[.ref a]/\(∃xs,CC K H1 a xs)/\R (XM K a) H1
theorem Rm {aV:List Expr}{x1}{aJ:Pos}{a:Expr}{ta:TA}{p pos:Pos}(hg:Gl X "enumerate")(hm:X.mg "enumerate" = none)(ha:PA X [a] ta)(hb:bootBuiltins "enumerate" = some (.type "enumerate"):=by decide +kernel)(hs:starEach [a] X.env=[(false,eval a X.env)]:=by rfl):
 PI X (.Tuple aV x1 aJ) (.Call (.Name "enumerate" p) [a] [] pos) (VL X.K ta):=by
 intro pins s σ H R I h;refine Call_ (F4 I hg hm hb (yo (B2 (ha pos pins s σ H _ I h) λ us s1 ⟨vs,H1,I1,r1,q1⟩=>?_) hs rfl));obtain⟨j,e,⟨xs,hq⟩,q⟩:=q1;subst e;cases r1 with
 |cons r rr =>
  cases rr;cases r;obtain⟨aa,rv,p,hz⟩:=I1.list hq;refine call_enumerate_list p.isList λ h' he hit hsz hk=>?_;refine wpAny_pyIter_enum (s:={s1 with heap:=h' }) he ?_;have I2:Inv X pins σ H1 {s1 with heap:=h' }:=I1.kept (t':=s1.toks) hk;refine⟨_,[s1.heap.objs.size+1,s1.heap.objs.size],_,_,H1,rfl,I2,Nr j _ _ (Nat.succ_ne_self _),⟨⟨_,he⟩,hit⟩,λ b hb=>?_,q⟩;rcases zk.mp hb with z|z
  ·rw[z];exact I1.Oo (Nat.le_succ _) (I1.As.fresh (Nat.le_succ _))
  ·rw[zj.mp z];exact I1.Oo (zm _) (I1.As.fresh (zm _))
end
inductive D where
 |Ax|bl (b:Bool)|int (i:Int)|str (x:Str)|tup (ds:List D)|lst (ds:List D)|C9 (x:Str)|B0 (t:Bool) (ks vs:List D)|ins (x:Str) (ns:List Str) (ds:List D)
noncomputable def BB:Key->D
 | .inl i=>.int i
 | .inr x=>.str x
def Xi (a c:Addr)(h:Heap):Prop:=∃o,h.get? a=some o/\o.cls=.ref c/\PySem.W.notCls o=true
theorem Rd.same {H H':Hp}{a:Addr}{u:HO}(r:Rd H a u)(e:Ab H H'):Rd H' a u:=r.elim (λ h=>.inl (e _ _ h)) λ⟨o,h⟩=>.inr ⟨o,e _ _ h⟩
mutual
inductive B4 (K:za) (H:Hp):V->D->Prop
 |Ax:B4 K H .Ax .Ax
 |bl (b):B4 K H (.bl b) (.bl b)
 |int (i):B4 K H (.int i) (.int i)
 |str (x):B4 K H (.str x) (.str x)
 |tup {a xs ds}:H a=some (.tup xs)->Ac K H xs ds->B4 K H (.ref a) (.tup ds)
 |lst {a xs ds}:CC K H a xs->Ac K H xs ds->B4 K H (.ref a) (.lst ds)
 |E8 {a kvs ds}:Rd H a (.dK kvs)->Ac K H (kvs.map yj) ds->B4 K H (.ref a) (.B0 false (kvs.map λ kv=>BB kv.1) ds)
 |DL {a kvs ds}:Rd H a (.dT kvs)->Ac K H (kvs.map yj) ds->B4 K H (.ref a) (.B0 true (kvs.map λ kv=>.tup (kv.1.map BB)) ds)
 |ins {a C dx fs x ds}:zg K mainGlobals x=some (some (.ref C))->H a=some (.ins C dx fs)->Ac K H (fs.map yj) ds->B4 K H (.ref a) (.ins x (fs.map zG) ds)
 |C9 {a c x}:zg K mainGlobals x=some (some (.ref c))->H a=some (.ext (Xi a c))->B4 K H (.ref a) (.C9 x)
inductive Ac (K:za) (H:Hp):List V->List D->Prop
 |nil:Ac K H [] []
 |cons {x d xs ds}:B4 K H x d->Ac K H xs ds->Ac K H (x::xs) (d::ds)
end
theorem Ac.length {K:za}{H:Hp}:∀ {xs:List V}{ds:List D},Ac K H xs ds->xs.length=ds.length
 |_,_,.nil=>rfl
 |_,_,.cons _ t=>by rw[zp,zp,Ac.length t]
theorem Ac.get {K:za}{H:Hp}:∀ {xs:List V}{ds:List D}{i:Nat}{d:D},Ac K H xs ds->ds[i]?=some d->∃x,xs[i]?=some x/\B4 K H x d
 |_,_,_,_,.nil,e=>by simp at e
 |_,_,0,_,.cons r _,e=>by simp at e;subst e;exact⟨_,rfl,r⟩
 |_,_,i+1,d,.cons _ t,e=>by
  obtain⟨u,h1,h2⟩:=Ac.get (i:=i) (d:=d) t (by simpa using e);exact⟨u,by simpa using h1,h2⟩
theorem Ac.F8 {K:za}{H:Hp}:∀ {xs:List V}{ds:List D}{i:Nat}{x:V},Ac K H xs ds->xs[i]?=some x->∃d,ds[i]?=some d/\B4 K H x d
 |_,_,_,_,.nil,e=>by simp at e
 |_,_,0,_,.cons r _,e=>by simp at e;subst e;exact⟨_,rfl,r⟩
 |_,_,i+1,d,.cons _ t,e=>by
  obtain⟨u,h1,h2⟩:=Ac.F8 (i:=i) (x:=d) t (by simpa using e);exact⟨u,by simpa using h1,h2⟩
theorem Ac.append {K:za}{H:Hp}:∀ {xs ys:List V}{ds es:List D},Ac K H xs ds->Ac K H ys es->Ac K H (xs++ys) (ds++es)
 |_,_,_,_,.nil,h=>h
 |_,_,_,_,.cons r t,h=>.cons r (Ac.append t h)
theorem Ac.snoc {K:za}{H:Hp}{xs:List V}{ds:List D}{x:V}{d:D}(h:Ac K H xs ds)(r:B4 K H x d):Ac K H (xs++[x]) (ds++[d]):=h.append (.cons r .nil)
theorem Ac.take {K:za}{H:Hp}:∀ {xs:List V}{ds:List D}(n:Nat),Ac K H xs ds->Ac K H (xs.take n) (ds.take n)
 |_,_,0,_|_,_,_+1,.nil=>.nil
 |_,_,n+1,.cons r t=>.cons r (Ac.take n t)
theorem Ac.drop {K:za}{H:Hp}:∀ {xs:List V}{ds:List D}(n:Nat),Ac K H xs ds->Ac K H (xs.drop n) (ds.drop n)
 |_,_,0,r=>r
 |_,_,_+1,.nil=>.nil
 |_,_,n+1,.cons _ t=>Ac.drop n t
theorem Ac.reverse {K:za}{H:Hp}:∀ {xs:List V}{ds:List D},Ac K H xs ds->Ac K H xs.reverse ds.reverse
 |_,_,.nil=>.nil
 |_,_,.cons r t=>by rw[List.reverse_cons,List.reverse_cons];exact (Ac.reverse t).snoc r
theorem Ac.ints {K:za}{H:Hp}:∀(ns:List Int),Ac K H (ns.map V.int) (ns.map D.int)
 |[]=>.nil
 |n::r=>.cons (.int n) (Ac.ints r)
mutual
theorem B4.mono {K:za}{H H':Hp}(e:Ab H H'):∀ {v:V}{d:D},B4 K H v d->B4 K H' v d
 |_,_,.Ax=>.Ax
 |_,_,.bl b=>.bl b
 |_,_,.int i=>.int i
 |_,_,.str x=>.str x
 |_,_,.tup h r=>.tup (e _ _ h) (Ac.mono e r)
 |_,_,.lst h r=>.lst (e.seq h) (Ac.mono e r)
 |_,_,.E8 h r=>.E8 (h.same e) (Ac.mono e r)
 |_,_,.DL h r=>.DL (h.same e) (Ac.mono e r)
 |_,_,.ins n h r=>.ins n (e _ _ h) (Ac.mono e r)
 |_,_,.C9 h r=>.C9 h (e _ _ r)
theorem Ac.mono {K:za}{H H':Hp}(e:Ab H H'):∀ {vs:List V}{ds:List D},Ac K H vs ds->Ac K H' vs ds
 |_,_,.nil=>.nil
 |_,_,.cons h t=>.cons (B4.mono e h) (Ac.mono e t)
end
theorem Ay {H:Hp}{p:Addr}(h:H p=none)(o:HO):Ab H (upd H p o):=λ b u q=>by rw[A5 (Aw q h)];exact q
mutual
noncomputable def Al:D->D->Bool
 | .Ax,.Ax=>true
 | .bl a,.bl b| .int a,.int b| .str a,.str b=>a==b
 | .bl a,.int b=>(if a then 1 else 0)==b
 | .int a,.bl b=>a==(if b then 1 else 0)
 | .tup a,.tup b| .lst a,.lst b=>BJ a b
 | .C9 a,.C9 b=>a==b
 | .B0 s a b,.B0 t c d=>(s==t)&&(BJ a c&&BJ b d)
 | .ins x n a,.ins y m b=>(x==y)&&((n==m)&&BJ a b)
 |_,_=>false
noncomputable def BJ:List D->List D->Bool
 |[],[]=>true
 |a::r,b::t=>Al a b&&BJ r t
 |_,_=>false
end
mutual
theorem EE:∀d:D,Al d d=true
 | .Ax=>by simp[Al]
 | .bl b| .int b| .str b=>by simp[Al]
 | .tup b| .lst b=>by simp only[Al];exact BV b
 | .C9 b=>by simp[Al]
 | .B0 s a b=>by simp only[Al];rw[BV a,BV b];simp
 | .ins x n a=>by simp only[Al];rw[BV a];simp
theorem BV:∀d:List D,BJ d d=true
 |[]=>by simp[BJ]
 |a::r=>by simp only[BJ,EE a,BV r,Bool.and_true]
end
mutual
noncomputable def Aq:D->Bool
 | .tup a| .lst a=>GD a
 | .C9 _| .B0 _ _ _| .ins _ _ _=>false
 |_=>true
noncomputable def GD:List D->Bool
 |[]=>true
 |a::r=>Aq a&&GD r
end
theorem B7:∀ {ds:List D}{d:D},d∈ds->GD ds=true->Aq d=true
 |a::r,d,h,q=>by
  rw[GD,zJ] at q;rcases zk.mp h with z|z
  ·subst z;exact q.1
  ·exact B7 z q.2
mutual
noncomputable def EF:D->Nat
 | .tup a| .lst a=>FX a+1
 |_=>0
noncomputable def FX:List D->Nat
 |[]=>0
 |a::r=>max (EF a) (FX r)
end
theorem CG:∀ {ds:List D}{d:D},d∈ds->EF d<=FX ds
 |a::r,d,h=>by
  rw[FX];rcases zk.mp h with z|z
  ·subst z;exact Nat.le_max_left _ _
  ·exact zW (CG z) (Nat.le_max_right _ _)
theorem KI:∀ {a b:List D},BJ a b=true->a.length=b.length
 |[],[],_=>rfl
 |[],_::_,h|_::_,[],h=>by simp[BJ] at h
 |a::r,b::t,h=>by
  simp only[BJ,zJ] at h;rw[zp,zp,KI h.2]
theorem BX:∀(a b:List D),a.length=b.length->(yy a.length).all (λ j=>Al (a.getD j .Ax) (b.getD j .Ax))=BJ a b
 |[],[],_=>by simp[BJ]
 |a::r,b::t,h=>by
  have ih:=BX r t (by simpa using h);rw[zp,List.range_succ_eq_map,List.all_cons,List.all_map,BJ,<-ih];simp[Function.comp_def]
 |[],_::_,h|_::_,[],h=>by cases h
theorem G4 {a b:List D}(h:a.length≠b.length):BJ a b=false:=by
 cases e:BJ a b with
 |false=>rfl
 |true=>exact absurd (KI e) h
theorem GF (a b:List D):((yy (min a.length b.length)).all (λ j=>Al (a.getD j .Ax) (b.getD j .Ax))&&(a.length==b.length))=BJ a b:=by
 by_cases h:a.length=b.length
 ·rw[<-BX a b h,h];simp
 ·rw[G4 h,beq_false_of_ne h,Bool.and_false]
section
variable {X:Cx}{pins:List (Addr×Obj)}{σ:St}{H:Hp}{s:Shared}
theorem ME (I:Inv X pins σ H s){a:Addr}{xs ys:List V}(h:CC X.K H a xs)(h':IH X.K H a ys):False:=by
 obtain⟨aa,_,⟨o,n,e,c,_,_⟩,_⟩:=I.list h;obtain⟨its',_,⟨o',e',c',_⟩,_⟩:=I.tuple h';rw[e] at e';cases e';rw[c] at c';revert c';decide
mutual
theorem Ro (I:Inv X pins σ H s):∀ {v:V}{d d':D},Aq d=true->Aq d'=true->B4 X.K H v d->B4 X.K H v d'->d=d'
 |_,_,_,_,_,.Ax,.Ax|_,_,_,_,_,.bl _,.bl _|_,_,_,_,_,.int _,.int _|_,_,_,_,_,.str _,.str _=>rfl
 |_,_,_,n1,n2,.tup h r,.tup h' r'=>by
  have e:=I.II (.of h) (.of h');subst e;rw[Dc I (by rw[Aq] at n1;exact n1) (by rw[Aq] at n2;exact n2) r r']
 |_,_,_,n1,n2,.lst h r,.lst h' r'=>by
  have e:=I.Ez h h';subst e;rw[Dc I (by rw[Aq] at n1;exact n1) (by rw[Aq] at n2;exact n2) r r']
 |_,_,_,_,_,.tup h _,.lst h' _=>(ME I h' (.of h)).elim
 |_,_,_,_,_,.lst h _,.tup h' _=>(ME I h (.of h')).elim
 |_,_,_,n1,_,.C9 _ _,_|_,_,_,n1,_,.E8 _ _,_|_,_,_,n1,_,.DL _ _,_|_,_,_,n1,_,.ins _ _ _,_=>by rw[Aq] at n1;cases n1
 |_,_,_,_,n2,_,.C9 _ _|_,_,_,_,n2,_,.E8 _ _|_,_,_,_,n2,_,.DL _ _|_,_,_,_,n2,_,.ins _ _ _=>by rw[Aq] at n2;cases n2
theorem Dc (I:Inv X pins σ H s):∀ {v:List V}{d d':List D},GD d=true->GD d'=true->Ac X.K H v d->Ac X.K H v d'->d=d'
 |_,_,_,_,_,.nil,.nil=>rfl
 |_,_,_,n1,n2,.cons h r,.cons h' r'=>by
  rw[GD,zJ] at n1 n2;rw[Ro I n1.1 n2.1 h h',Dc I n1.2 n2.2 r r']
end
theorem O7 {xs:List V}{aa:List Value}(r:Vals xs aa)(j:Nat)(h:j<aa.toArray.size):∃x,xs[j]?=some x/\RelV x aa.toArray[j]:=by
 have h':j<aa.length:=by simpa using h
 have hx:j<xs.length:=by rw[r.length];exact h'
 obtain⟨u,hu,ru⟩:=r.get (zr hx);rw[zr h'] at hu;refine⟨xs[j],zr hx,?_⟩;have e:aa.toArray[j]=u:=by simpa using hu
 rw[e];exact ru
theorem Bi {ds:List D}{j:Nat}{d:D}(h:ds[j]?=some d):ds.getD j .Ax=d:=by rw[List.getD_eq_getElem?_getD,h];rfl
theorem Ju (I:Inv X pins σ H s):∀(n:Nat) (A:Around) (d e:D) (v w:V) (u1 u2:Value),EF d<=n->Aq d=true->Aq e=true->A.units+n<cLine->B4 X.K H v d->B4 X.K H w e->RelV v u1->RelV w u2->SeqAt.EqAt A s u1 u2 (Al d e):=by
 intro n;induction n with
 |zero =>
  intro A d e v w u1 u2 hd aj ac hu h1 h2 r1 r2;have af:A.units<cLine:=by omega
  cases h1 with
  |C9 _ _|E8 _ _|DL _ _|ins _ _ _=>simp[Aq] at aj
  |Ax =>
   cases r1;cases h2 with
   |C9 _ _|E8 _ _|DL _ _|ins _ _ _=>simp[Aq] at ac
   |Ax=>cases r2;simp only[Al];exact .same _
   |bl b=>cases r2;simp only[Al];exact .none_bool _
   |int b=>obtain⟨t,rfl⟩:=r2;simp only[Al];exact .none_int _ _
   |str b=>obtain⟨t,rfl⟩:=r2;simp only[Al];exact .none_str _ _
   |tup h r=>cases r2;simp only[Al];obtain⟨_,_,p,_⟩:=I.tuple (.of h);exact .none_tuple p af
   |lst h r=>cases r2;simp only[Al];obtain⟨_,_,p,_⟩:=I.list h;exact .none_list p.isList af
  |bl a =>
   cases r1;cases h2 with
   |C9 _ _|E8 _ _|DL _ _|ins _ _ _=>simp[Aq] at ac
   |Ax=>cases r2;simp only[Al];exact .bool_none _
   |bl b=>cases r2;simp only[Al];exact .bool_bool _ _
   |int b=>obtain⟨t,rfl⟩:=r2;simp only[Al];exact .bool_int _ _ _
   |str b=>obtain⟨t,rfl⟩:=r2;simp only[Al];exact .bool_str _ _ _
   |tup h r=>cases r2;simp only[Al];obtain⟨_,_,p,_⟩:=I.tuple (.of h);exact .bool_tuple _ p af
   |lst h r=>cases r2;simp only[Al];obtain⟨_,_,p,_⟩:=I.list h;exact .bool_list _ p.isList af
  |int a =>
   obtain⟨t',rfl⟩:=r1;cases h2 with
   |C9 _ _|E8 _ _|DL _ _|ins _ _ _=>simp[Aq] at ac
   |Ax=>cases r2;simp only[Al];exact .int_none _ _
   |bl b=>cases r2;simp only[Al];exact .int_bool _ _ _
   |int b=>obtain⟨t,rfl⟩:=r2;simp only[Al];exact .int_int _ _ _ _
   |str b=>obtain⟨t,rfl⟩:=r2;simp only[Al];exact .int_str _ _ _ _
   |tup h r=>cases r2;simp only[Al];obtain⟨_,_,p,_⟩:=I.tuple (.of h);exact .int_tuple _ _ p af
   |lst h r=>cases r2;simp only[Al];obtain⟨_,_,p,_⟩:=I.list h;exact .int_list _ _ p.isList af
  |str a =>
   obtain⟨t',rfl⟩:=r1;cases h2 with
   |C9 _ _|E8 _ _|DL _ _|ins _ _ _=>simp[Aq] at ac
   |Ax=>cases r2;simp only[Al];exact .str_none _ _
   |bl b=>cases r2;simp only[Al];exact .str_bool _ _ _
   |int b=>obtain⟨t,rfl⟩:=r2;simp only[Al];exact .str_int _ _ _ _
   |str b=>obtain⟨t,rfl⟩:=r2;simp only[Al];exact .str_str _ _ _ _
   |tup h r=>cases r2;simp only[Al];obtain⟨_,_,p,_⟩:=I.tuple (.of h);exact .str_tuple _ _ p af
   |lst h r=>cases r2;simp only[Al];obtain⟨_,_,p,_⟩:=I.list h;exact .str_list _ _ p.isList af
  |tup h r|lst h r=>rw[EF] at hd;omega
 |succ n ih =>
  intro A d e v w u1 u2 hd aj ac hu h1 h2 r1 r2;have af:A.units<cLine:=by omega
  have fW:A.in1.units+n<cLine:=by show A.units+1+n<cLine;omega
  by_cases cC:EF d<=n
  ·exact ih A d e v w u1 u2 cC aj ac (by omega) h1 h2 r1 r2
  cases h1 with
  |C9 _ _|E8 _ _|DL _ _|ins _ _ _=>simp[Aq] at aj
  |Ax|bl _|int _|str _=>exact absurd (by simp[EF]) cC
  | @tup a xs ds h r =>
   cases r1;obtain⟨aa,rv,p,_⟩:=I.tuple (.of h);cases h2 with
   |C9 _ _|E8 _ _|DL _ _|ins _ _ _=>simp[Aq] at ac
   |Ax=>cases r2;simp only[Al];exact .tuple_none p af
   |bl b=>cases r2;simp only[Al];exact .tuple_bool _ p af
   |int b=>obtain⟨t,rfl⟩:=r2;simp only[Al];exact .tuple_int _ _ p af
   |str b=>obtain⟨t,rfl⟩:=r2;simp only[Al];exact .tuple_str _ _ p af
   | @lst a2 aW es h' r'=>cases r2;simp only[Al];obtain⟨_,_,p',_⟩:=I.list h';exact .tuple_list p p'.isList af
   | @tup a2 aW es h' r' =>
    cases r2;by_cases ha:a=a2
    ·subst ha;have e':=I.II (.of h) (.of h');subst e';have e2:=Dc I (by rw[Aq] at aj;exact aj) (by rw[Aq] at ac;exact ac) r r';subst e2;rw[EE];exact .same _
    ·obtain⟨its',ap,p',_⟩:=I.tuple (.of h');refine .of_refs ha ?_;have q:=SeqAt.RcAt.tuples (A:=A) (e:=λ j=>Al (ds.getD j .Ax) (es.getD j .Ax)) p p' af λ j h1 h2=>?_
     ·have z1:aa.toArray.size=ds.length:=by rw[zo,<-rv.length,r.length]
      have z2:its'.toArray.size=es.length:=by rw[zo,<-ap.length,r'.length]
      rw[z1,z2,GF] at q;simp only[Al];exact q
     ·obtain⟨x,hx,rx⟩:=O7 rv j h1;obtain⟨y,hy,ry⟩:=O7 ap j h2;obtain⟨dx,ex,aX⟩:=r.F8 hx;obtain⟨dy,ey,aY⟩:=r'.F8 hy;rw[Bi ex,Bi ey];refine ih A.in1 dx dy x y _ _ ?_ (B7 (zi ex) (by rw[Aq] at aj;exact aj)) (B7 (zi ey) (by rw[Aq] at ac;exact ac)) fW aX aY rx ry;rw[EF] at hd;have:=CG (zi ex);omega
  | @lst a xs ds h r =>
   cases r1;obtain⟨aa,rv,p,_⟩:=I.list h;cases h2 with
   |C9 _ _|E8 _ _|DL _ _|ins _ _ _=>simp[Aq] at ac
   |Ax=>cases r2;simp only[Al];exact .list_none p.isList af
   |bl b=>cases r2;simp only[Al];exact .list_bool _ p.isList af
   |int b=>obtain⟨t,rfl⟩:=r2;simp only[Al];exact .list_int _ _ p.isList af
   |str b=>obtain⟨t,rfl⟩:=r2;simp only[Al];exact .list_str _ _ p.isList af
   | @tup a2 aW es h' r'=>cases r2;simp only[Al];obtain⟨_,_,p',_⟩:=I.tuple (.of h');exact .list_tuple p.isList p' af
   | @lst a2 aW es h' r' =>
    cases r2;by_cases ha:a=a2
    ·subst ha;have e':=I.Ez h h';subst e';have e2:=Dc I (by rw[Aq] at aj;exact aj) (by rw[Aq] at ac;exact ac) r r';subst e2;rw[EE];exact .same _
    ·obtain⟨its',ap,p',_⟩:=I.list h';refine .of_refs ha ?_;have z1:aa.toArray.size=ds.length:=by rw[zo,<-rv.length,r.length]
     have z2:its'.toArray.size=es.length:=by rw[zo,<-ap.length,r'.length]
     by_cases hz:aa.toArray.size=its'.toArray.size
     ·have q:=SeqAt.RcAt.lists (A:=A) (e:=λ j=>Al (ds.getD j .Ax) (es.getD j .Ax)) p.isList p'.isList hz af λ j h1 h2=>?_
      ·rw[z1,BX ds es (by rw[<-z1,<-z2,hz])] at q;simp only[Al];exact q
      ·obtain⟨x,hx,rx⟩:=O7 rv j h1;obtain⟨y,hy,ry⟩:=O7 ap j h2;obtain⟨dx,ex,aX⟩:=r.F8 hx;obtain⟨dy,ey,aY⟩:=r'.F8 hy;rw[Bi ex,Bi ey];refine ih A.in1 dx dy x y _ _ ?_ (B7 (zi ex) (by rw[Aq] at aj;exact aj)) (B7 (zi ey) (by rw[Aq] at ac;exact ac)) fW aX aY rx ry;rw[EF] at hd;have:=CG (zi ex);omega
     ·have q:=SeqAt.RcAt.lists_lengths (A:=A) p.isList p'.isList (by simpa using hz) af;simp only[Al];rw[G4 (by rw[<-z1,<-z2];exact hz)];exact q
theorem Xj (I:Inv X pins σ H s)(A:Around)(d e:D)(v w:V)(u1 u2:Value)(hd:A.units+EF d<cLine)(aj:Aq d=true)(ac:Aq e=true)(h1:B4 X.K H v d)(h2:B4 X.K H w e)(r1:RelV v u1)(r2:RelV w u2):SeqAt.RcAt A s u1 u2 (Al d e):=by
 have af:A.units<cLine:=by omega
 cases h1 with
 |C9 _ _|E8 _ _|DL _ _|ins _ _ _=>simp[Aq] at aj
 |Ax =>
  cases r1;cases h2 with
  |C9 _ _|E8 _ _|DL _ _|ins _ _ _=>simp[Aq] at ac
  |Ax=>cases r2;simp only[Al];exact .none_none
  |bl b=>cases r2;simp only[Al];exact .none_bool _
  |int b=>obtain⟨t,rfl⟩:=r2;simp only[Al];exact .none_int _ _
  |str b=>obtain⟨t,rfl⟩:=r2;simp only[Al];exact .none_str _ _
  |tup h r=>cases r2;simp only[Al];obtain⟨_,_,p,_⟩:=I.tuple (.of h);exact .none_tuple  p af
  |lst h r=>cases r2;simp only[Al];obtain⟨_,_,p,_⟩:=I.list h;exact .none_list  p.isList af
 |bl a =>
  cases r1;cases h2 with
  |C9 _ _|E8 _ _|DL _ _|ins _ _ _=>simp[Aq] at ac
  |Ax=>cases r2;simp only[Al];exact .bool_none _
  |bl b=>cases r2;simp only[Al];exact .bool_bool _ _
  |int b=>obtain⟨t,rfl⟩:=r2;simp only[Al];exact .bool_int _ _ _
  |str b=>obtain⟨t,rfl⟩:=r2;simp only[Al];exact .bool_str _ _ _
  |tup h r=>cases r2;simp only[Al];obtain⟨_,_,p,_⟩:=I.tuple (.of h);exact .bool_tuple _ p af
  |lst h r=>cases r2;simp only[Al];obtain⟨_,_,p,_⟩:=I.list h;exact .bool_list _ p.isList af
 |int a =>
  obtain⟨t',rfl⟩:=r1;cases h2 with
  |C9 _ _|E8 _ _|DL _ _|ins _ _ _=>simp[Aq] at ac
  |Ax=>cases r2;simp only[Al];exact .int_none _ _
  |bl b=>cases r2;simp only[Al];exact .int_bool _ _ _
  |int b=>obtain⟨t,rfl⟩:=r2;simp only[Al];exact .int_int _ _ _ _
  |str b=>obtain⟨t,rfl⟩:=r2;simp only[Al];exact .int_str _ _ _ _
  |tup h r=>cases r2;simp only[Al];obtain⟨_,_,p,_⟩:=I.tuple (.of h);exact .int_tuple _ _ p af
  |lst h r=>cases r2;simp only[Al];obtain⟨_,_,p,_⟩:=I.list h;exact .int_list _ _ p.isList af
 |str a =>
  obtain⟨t',rfl⟩:=r1;cases h2 with
  |C9 _ _|E8 _ _|DL _ _|ins _ _ _=>simp[Aq] at ac
  |Ax=>cases r2;simp only[Al];exact .str_none _ _
  |bl b=>cases r2;simp only[Al];exact .str_bool _ _ _
  |int b=>obtain⟨t,rfl⟩:=r2;simp only[Al];exact .str_int _ _ _ _
  |str b=>obtain⟨t,rfl⟩:=r2;simp only[Al];exact .str_str _ _ _ _
  |tup h r=>cases r2;simp only[Al];obtain⟨_,_,p,_⟩:=I.tuple (.of h);exact .str_tuple _ _ p af
  |lst h r=>cases r2;simp only[Al];obtain⟨_,_,p,_⟩:=I.list h;exact .str_list _ _ p.isList af
 | @tup a xs ds h r =>
  cases r1;obtain⟨aa,rv,p,_⟩:=I.tuple (.of h);cases h2 with
  |C9 _ _|E8 _ _|DL _ _|ins _ _ _=>simp[Aq] at ac
  |Ax=>cases r2;simp only[Al];exact .tuple_none  p af
  |bl b=>cases r2;simp only[Al];exact .tuple_bool _ p af
  |int b=>obtain⟨t,rfl⟩:=r2;simp only[Al];exact .tuple_int _ _ p af
  |str b=>obtain⟨t,rfl⟩:=r2;simp only[Al];exact .tuple_str _ _ p af
  | @lst a2 aW es h' r'=>cases r2;simp only[Al];obtain⟨_,_,p',_⟩:=I.list h';exact .tuple_list p p'.isList af
  | @tup a2 aW es h' r' =>
   cases r2;obtain⟨its',ap,p',_⟩:=I.tuple (.of h');have z1:aa.toArray.size=ds.length:=by rw[zo,<-rv.length,r.length]
   have z2:its'.toArray.size=es.length:=by rw[zo,<-ap.length,r'.length]
   have q:=SeqAt.RcAt.tuples (A:=A) (e:=λ j=>Al (ds.getD j .Ax) (es.getD j .Ax)) p p' af λ j h1 h2=>?_
   ·rw[z1,z2,GF] at q;simp only[Al];exact q
   ·obtain⟨x,hx,rx⟩:=O7 rv j h1;obtain⟨y,hy,ry⟩:=O7 ap j h2;obtain⟨dx,ex,aX⟩:=r.F8 hx;obtain⟨dy,ey,aY⟩:=r'.F8 hy;rw[Bi ex,Bi ey];rw[EF] at hd;have:=CG (zi ex);exact Ju I (FX ds) A.in1 dx dy x y _ _ this (B7 (zi ex) (by rw[Aq] at aj;exact aj)) (B7 (zi ey) (by rw[Aq] at ac;exact ac)) (by show A.units+1+_<cLine;omega) aX aY rx ry
 | @lst a xs ds h r =>
  cases r1;obtain⟨aa,rv,p,_⟩:=I.list h;cases h2 with
  |C9 _ _|E8 _ _|DL _ _|ins _ _ _=>simp[Aq] at ac
  |Ax=>cases r2;simp only[Al];exact .list_none  p.isList af
  |bl b=>cases r2;simp only[Al];exact .list_bool _ p.isList af
  |int b=>obtain⟨t,rfl⟩:=r2;simp only[Al];exact .list_int _ _ p.isList af
  |str b=>obtain⟨t,rfl⟩:=r2;simp only[Al];exact .list_str _ _ p.isList af
  | @tup a2 aW es h' r'=>cases r2;simp only[Al];obtain⟨_,_,p',_⟩:=I.tuple (.of h');exact .list_tuple p.isList p' af
  | @lst a2 aW es h' r' =>
   cases r2;obtain⟨its',ap,p',_⟩:=I.list h';have z1:aa.toArray.size=ds.length:=by rw[zo,<-rv.length,r.length]
   have z2:its'.toArray.size=es.length:=by rw[zo,<-ap.length,r'.length]
   by_cases hz:aa.toArray.size=its'.toArray.size
   ·have q:=SeqAt.RcAt.lists (A:=A) (e:=λ j=>Al (ds.getD j .Ax) (es.getD j .Ax)) p.isList p'.isList hz af λ j h1 h2=>?_
    ·rw[z1,BX ds es (by rw[<-z1,<-z2,hz])] at q;simp only[Al];exact q
    ·obtain⟨x,hx,rx⟩:=O7 rv j h1;obtain⟨y,hy,ry⟩:=O7 ap j h2;obtain⟨dx,ex,aX⟩:=r.F8 hx;obtain⟨dy,ey,aY⟩:=r'.F8 hy;rw[Bi ex,Bi ey];rw[EF] at hd;have:=CG (zi ex);exact Ju I (FX ds) A.in1 dx dy x y _ _ this (B7 (zi ex) (by rw[Aq] at aj;exact aj)) (B7 (zi ey) (by rw[Aq] at ac;exact ac)) (by show A.units+1+_<cLine;omega) aX aY rx ry
   ·have q:=SeqAt.RcAt.lists_lengths (A:=A) p.isList p'.isList (by simpa using hz) af;simp only[Al];rw[G4 (by rw[<-z1,<-z2];exact hz)];exact q
theorem VM (I:Inv X pins σ H s)(A:Around)(d e:D)(v w:V)(u1 u2:Value)(hd:A.units+EF d<cLine)(aj:Aq d=true)(ac:Aq e=true)(h1:B4 X.K H v d)(h2:B4 X.K H w e)(r1:RelV v u1)(r2:RelV w u2):SeqAt.RcNeAt A s u1 u2 (!Al d e):=by
 have af:A.units<cLine:=by omega
 cases h1 with
 |C9 _ _|E8 _ _|DL _ _|ins _ _ _=>simp[Aq] at aj
 |Ax =>
  cases r1;cases h2 with
  |C9 _ _|E8 _ _|DL _ _|ins _ _ _=>simp[Aq] at ac
  |Ax=>cases r2;simp only[Al];exact .none_none
  |bl b=>cases r2;simp only[Al];exact .none_bool _
  |int b=>obtain⟨t,rfl⟩:=r2;simp only[Al];exact .none_int _ _
  |str b=>obtain⟨t,rfl⟩:=r2;simp only[Al];exact .none_str _ _
  |tup h r=>cases r2;simp only[Al];obtain⟨_,_,p,_⟩:=I.tuple (.of h);exact .none_tuple  p af
  |lst h r=>cases r2;simp only[Al];obtain⟨_,_,p,_⟩:=I.list h;exact .none_list  p.isList af
 |bl a =>
  cases r1;cases h2 with
  |C9 _ _|E8 _ _|DL _ _|ins _ _ _=>simp[Aq] at ac
  |Ax=>cases r2;simp only[Al];exact .bool_none _
  |bl b=>cases r2;simp only[Al];exact .bool_bool _ _
  |int b=>obtain⟨t,rfl⟩:=r2;simp only[Al];exact .bool_int _ _ _
  |str b=>obtain⟨t,rfl⟩:=r2;simp only[Al];exact .bool_str _ _ _
  |tup h r=>cases r2;simp only[Al];obtain⟨_,_,p,_⟩:=I.tuple (.of h);exact .bool_tuple _ p af
  |lst h r=>cases r2;simp only[Al];obtain⟨_,_,p,_⟩:=I.list h;exact .bool_list _ p.isList af
 |int a =>
  obtain⟨t',rfl⟩:=r1;cases h2 with
  |C9 _ _|E8 _ _|DL _ _|ins _ _ _=>simp[Aq] at ac
  |Ax=>cases r2;simp only[Al];exact .int_none _ _
  |bl b=>cases r2;simp only[Al];exact .int_bool _ _ _
  |int b=>obtain⟨t,rfl⟩:=r2;simp only[Al];exact .int_int _ _ _ _
  |str b=>obtain⟨t,rfl⟩:=r2;simp only[Al];exact .int_str _ _ _ _
  |tup h r=>cases r2;simp only[Al];obtain⟨_,_,p,_⟩:=I.tuple (.of h);exact .int_tuple _ _ p af
  |lst h r=>cases r2;simp only[Al];obtain⟨_,_,p,_⟩:=I.list h;exact .int_list _ _ p.isList af
 |str a =>
  obtain⟨t',rfl⟩:=r1;cases h2 with
  |C9 _ _|E8 _ _|DL _ _|ins _ _ _=>simp[Aq] at ac
  |Ax=>cases r2;simp only[Al];exact .str_none _ _
  |bl b=>cases r2;simp only[Al];exact .str_bool _ _ _
  |int b=>obtain⟨t,rfl⟩:=r2;simp only[Al];exact .str_int _ _ _ _
  |str b=>obtain⟨t,rfl⟩:=r2;simp only[Al];exact .str_str _ _ _ _
  |tup h r=>cases r2;simp only[Al];obtain⟨_,_,p,_⟩:=I.tuple (.of h);exact .str_tuple _ _ p af
  |lst h r=>cases r2;simp only[Al];obtain⟨_,_,p,_⟩:=I.list h;exact .str_list _ _ p.isList af
 | @tup a xs ds h r =>
  cases r1;obtain⟨aa,rv,p,_⟩:=I.tuple (.of h);cases h2 with
  |C9 _ _|E8 _ _|DL _ _|ins _ _ _=>simp[Aq] at ac
  |Ax=>cases r2;simp only[Al];exact .tuple_none  p af
  |bl b=>cases r2;simp only[Al];exact .tuple_bool _ p af
  |int b=>obtain⟨t,rfl⟩:=r2;simp only[Al];exact .tuple_int _ _ p af
  |str b=>obtain⟨t,rfl⟩:=r2;simp only[Al];exact .tuple_str _ _ p af
  | @lst a2 aW es h' r'=>cases r2;simp only[Al];obtain⟨_,_,p',_⟩:=I.list h';exact .tuple_list p p'.isList af
  | @tup a2 aW es h' r' =>
   cases r2;obtain⟨its',ap,p',_⟩:=I.tuple (.of h');have z1:aa.toArray.size=ds.length:=by rw[zo,<-rv.length,r.length]
   have z2:its'.toArray.size=es.length:=by rw[zo,<-ap.length,r'.length]
   have q:=SeqAt.RcNeAt.tuples (A:=A) (e:=λ j=>Al (ds.getD j .Ax) (es.getD j .Ax)) p p' af λ j h1 h2=>?_
   ·rw[z1,z2,GF] at q;simp only[Al];exact q
   ·obtain⟨x,hx,rx⟩:=O7 rv j h1;obtain⟨y,hy,ry⟩:=O7 ap j h2;obtain⟨dx,ex,aX⟩:=r.F8 hx;obtain⟨dy,ey,aY⟩:=r'.F8 hy;rw[Bi ex,Bi ey];rw[EF] at hd;have:=CG (zi ex);exact Ju I (FX ds) A.in1 dx dy x y _ _ this (B7 (zi ex) (by rw[Aq] at aj;exact aj)) (B7 (zi ey) (by rw[Aq] at ac;exact ac)) (by show A.units+1+_<cLine;omega) aX aY rx ry
 | @lst a xs ds h r =>
  cases r1;obtain⟨aa,rv,p,_⟩:=I.list h;cases h2 with
  |C9 _ _|E8 _ _|DL _ _|ins _ _ _=>simp[Aq] at ac
  |Ax=>cases r2;simp only[Al];exact .list_none  p.isList af
  |bl b=>cases r2;simp only[Al];exact .list_bool _ p.isList af
  |int b=>obtain⟨t,rfl⟩:=r2;simp only[Al];exact .list_int _ _ p.isList af
  |str b=>obtain⟨t,rfl⟩:=r2;simp only[Al];exact .list_str _ _ p.isList af
  | @tup a2 aW es h' r'=>cases r2;simp only[Al];obtain⟨_,_,p',_⟩:=I.tuple (.of h');exact .list_tuple p.isList p' af
  | @lst a2 aW es h' r' =>
   cases r2;obtain⟨its',ap,p',_⟩:=I.list h';have z1:aa.toArray.size=ds.length:=by rw[zo,<-rv.length,r.length]
   have z2:its'.toArray.size=es.length:=by rw[zo,<-ap.length,r'.length]
   by_cases hz:aa.toArray.size=its'.toArray.size
   ·have q:=SeqAt.RcNeAt.lists (A:=A) (e:=λ j=>Al (ds.getD j .Ax) (es.getD j .Ax)) p.isList p'.isList hz af λ j h1 h2=>?_
    ·rw[z1,BX ds es (by rw[<-z1,<-z2,hz])] at q;simp only[Al];exact q
    ·obtain⟨x,hx,rx⟩:=O7 rv j h1;obtain⟨y,hy,ry⟩:=O7 ap j h2;obtain⟨dx,ex,aX⟩:=r.F8 hx;obtain⟨dy,ey,aY⟩:=r'.F8 hy;rw[Bi ex,Bi ey];rw[EF] at hd;have:=CG (zi ex);exact Ju I (FX ds) A.in1 dx dy x y _ _ this (B7 (zi ex) (by rw[Aq] at aj;exact aj)) (B7 (zi ey) (by rw[Aq] at ac;exact ac)) (by show A.units+1+_<cLine;omega) aX aY rx ry
   ·have q:=SeqAt.RcNeAt.lists_lengths (A:=A) p.isList p'.isList (by simpa using hz) af;simp only[Al];rw[G4 (by rw[<-z1,<-z2];exact hz)];exact q
noncomputable def Rp (K:za)(A:Around)(neg:Bool):R2:=λ x y H Q=>∃d e,B4 K H x d/\B4 K H y e/\A.units+EF d<cLine/\Aq d=true/\Aq e=true/\Q (.bl (if neg=true then !Al d e else Al d e)) H
theorem Th:F5 X (compareOp .Eq) (Rp X.K X.A false):=by
 intro pins s σ H x y v u Q I rx ry h;obtain⟨d,e,hd,he,hu,n1,n2,q⟩:=h;exact Xj I X.A d e x y v u hu n1 n2 hd he rx ry X.prog X.w X.xe _ ⟨.bl _,H,I,rfl,q⟩
theorem Ti:F5 X (compareOp .NotEq) (Rp X.K X.A true):=by
 intro pins s σ H x y v u Q I rx ry h;obtain⟨d,e,hd,he,hu,n1,n2,q⟩:=h;exact VM I X.A d e x y v u hu n1 n2 hd he rx ry X.prog X.w X.xe _ ⟨.bl _,H,I,rfl,q⟩
end
inductive OT where
 |sh (d:D)|lst (ts:List OT)|tup (ts:List OT)|B0 (t:Bool) (ks:List D) (ts:List OT)|ins (x:Str) (ns:List Str) (ts:List OT)
inductive Ow where
 |rows (D4:List (List D))
 |G5 (p:Nat) (ds:List D)
 |tree (p:Option Nat) (t:OT)
inductive Cl where
 |val (d:D)|own (ds:List D)|ow (o:Ow)
noncomputable abbrev A8:=List (Option Cl)
inductive M (α:Type) where
 |ok (a:α)|ex (c:Str)|bad
noncomputable def M.bind {α β:Type}(m:M α)(k:α->M β):M β:=match m with
 | .ok a=>k a
 | .ex c=>.ex c
 | .bad=>.bad
@[simp] theorem M.Aa {α β:Type}(a:α) (k:α->M β):(M.ok a).bind k=k a:=rfl
noncomputable def del (H:Hp)(P:Addr->Prop):Hp:=λ a=>open Classical in if P a then none else H a
theorem Aj {H:Hp}{P:Addr->Prop}{a:Addr}(h:¬ P a):del H P a=H a:=by unfold del;rw[if_neg h]
theorem Eg {H:Hp}{P:Addr->Prop}{a:Addr}(h:P a):del H P a=none:=by unfold del;rw[if_pos h]
theorem Ag {H:Hp}{P:Addr->Prop}{a:Addr}{o:HO}(h:del H P a=some o):¬ P a/\H a=some o:=by
 by_cases hp:P a
 ·rw[Eg hp] at h;cases h
 ·rw[Aj hp] at h;exact⟨hp,h⟩
theorem Rd.B9 {H:Hp}{P:Addr->Prop}{a:Addr}{u:HO}(r:Rd (del H P) a u):Rd H a u:=r.elim (λ h=>.inl (Ag h).2) λ⟨o,h⟩=>.inr ⟨o,(Ag h).2⟩
theorem Ab.del {H H':Hp}{P:Addr->Prop}(e:Ab H H'):Ab (del H P) (del H' P):=λ b o h=>by
 obtain⟨h1,h2⟩:=Ag h;rw[Aj h1];exact e b o h2
theorem Bt {H:Hp}{P P':Addr->Prop}(h:∀a,P' a->P a):Ab (L2.del H P) (L2.del H P'):=λ b o e=>by
 obtain⟨h1,h2⟩:=Ag e;rw[Aj λ z=>h1 (h b z)];exact h2
theorem Cq {H:Hp}{P:Addr->Prop}:Ab (L2.del H P) H:=λ b o e=>(Ag e).2
def Cr (H:Hp)(a:Addr):Prop:=∃o,H a=some o/\∀xs,o≠.tup xs/\∀z,o≠.Cm z (.tup xs)
theorem Cr.same {H H':Hp}{a:Addr}(h:Cr H a)(e:Ab H H'):Cr H' a:=let ⟨o,q,r⟩:=h;⟨o,e a o q,r⟩
theorem Cr.no {H:Hp}{a:Addr}(h:Cr H a)(e:H a=none):False:=by
 obtain⟨o,q,r⟩:=h;rw[e] at q;cases q
theorem Cr.lst {H:Hp}{a:Addr}{xs:List V}(h:H a=some (.lst xs)):Cr H a:=⟨_,h,λ _=>⟨λ z=>(by cases z),λ _ z=>by cases z⟩⟩
mutual
inductive B3 (K:za) (H:Hp) (P:Addr->Prop):V->OT->List Addr->Prop
 |sh {v d}:B4 K (del H P) v d->B3 K H P v (.sh d) []
 |lst {p xs ts fp}:H p=some (.lst xs)->Ao K H P xs ts fp->B3 K H P (.ref p) (.lst ts) (p::fp)
 |tup {p xs ts fp}:del H P p=some (.tup xs)->Ao K H P xs ts fp->B3 K H P (.ref p) (.tup ts) fp
 |dK {p kvs ts fp}:H p=some (.dK kvs)->Ao K H P (kvs.map yj) ts fp->B3 K H P (.ref p) (.B0 false (kvs.map λ kv=>BB kv.1) ts) (p::fp)
 |dT {p kvs ts fp}:H p=some (.dT kvs)->Ao K H P (kvs.map yj) ts fp->B3 K H P (.ref p) (.B0 true (kvs.map λ kv=>.tup (kv.1.map BB)) ts) (p::fp)
 |ins {p C dx fs ts fp x}:zg K mainGlobals x=some (some (.ref C))->H p=some (.ins C dx fs)->Ao K H P (fs.map yj) ts fp->B3 K H P (.ref p) (.ins x (fs.map zG) ts) (p::fp)
inductive Ao (K:za) (H:Hp) (P:Addr->Prop):List V->List OT->List Addr->Prop
 |nil:Ao K H P [] [] []
 |cons {v t fp vs ts fq}:B3 K H P v t fp->Ao K H P vs ts fq->Ao K H P (v::vs) (t::ts) (fp++fq)
end
mutual
noncomputable def er:OT->D
 | .sh d=>d
 | .lst ts=>.lst (OO ts)
 | .tup ts=>.tup (OO ts)
 | .B0 t ks ts=>.B0 t ks (OO ts)
 | .ins x ns ts=>.ins x ns (OO ts)
noncomputable def OO:List OT->List D
 |[]=>[]
 |t::r=>er t::OO r
end
mutual
theorem B3.move {K:za}{H H':Hp}{P P':Addr->Prop}(sm:Ab (del H P) (del H' P')):∀ {v:V}{t:OT}{fp:List Addr},(∀a∈fp,H' a=H a)->B3 K H P v t fp->B3 K H' P' v t fp
 |_,_,_,_,.sh h=>.sh (h.mono sm)
 |_,_,_,k,.lst h r=>.lst ((k _ zb).trans h) (Ao.move sm (λ a ha=>k a (zd _ ha)) r)
 |_,_,_,k,.tup h r=>.tup (sm _ _ h) (Ao.move sm k r)
 |_,_,_,k,.dK h r=>.dK ((k _ zb).trans h) (Ao.move sm (λ a ha=>k a (zd _ ha)) r)
 |_,_,_,k,.dT h r=>.dT ((k _ zb).trans h) (Ao.move sm (λ a ha=>k a (zd _ ha)) r)
 |_,_,_,k,.ins n h r=>.ins n ((k _ zb).trans h) (Ao.move sm (λ a ha=>k a (zd _ ha)) r)
theorem Ao.move {K:za}{H H':Hp}{P P':Addr->Prop}(sm:Ab (del H P) (del H' P')):∀ {v:List V}{t:List OT}{fp:List Addr},(∀a∈fp,H' a=H a)->Ao K H P v t fp->Ao K H' P' v t fp
 |_,_,_,_,.nil=>.nil
 |_,_,_,k,.cons h r=>.cons (B3.move sm (λ a ha=>k a (zx _ ha)) h) (Ao.move sm (λ a ha=>k a (ze _ ha)) r)
end
mutual
theorem B3.BS {K:za}{H:Hp}{P:Addr->Prop}:∀ {v:V}{t:OT}{fp:List Addr},B3 K H P v t fp->∀a∈fp,Cr H a
 |_,_,_,.sh h,a,ha=>by cases ha
 |_,_,_,.lst h r,a,ha=>by
  rcases zk.mp ha with rfl|ha
  ·exact .lst h
  ·exact Ao.BS r a ha
 |_,_,_,.tup h r,a,ha=>Ao.BS r a ha
 |_,_,_,.dK h r,a,ha=>by
  rcases zk.mp ha with rfl|ha
  ·exact⟨_,h,λ _=>⟨λ z=>(by cases z),λ _ z=>by cases z⟩⟩
  ·exact Ao.BS r a ha
 |_,_,_,.dT h r,a,ha=>by
  rcases zk.mp ha with rfl|ha
  ·exact⟨_,h,λ _=>⟨λ z=>(by cases z),λ _ z=>by cases z⟩⟩
  ·exact Ao.BS r a ha
 |_,_,_,.ins n h r,a,ha=>by
  rcases zk.mp ha with rfl|ha
  ·exact⟨_,h,λ _=>⟨λ z=>(by cases z),λ _ z=>by cases z⟩⟩
  ·exact Ao.BS r a ha
theorem Ao.BS {K:za}{H:Hp}{P:Addr->Prop}:∀ {v:List V}{t:List OT}{fp:List Addr},Ao K H P v t fp->∀a∈fp,Cr H a
 |_,_,_,.nil,a,ha=>by cases ha
 |_,_,_,.cons h r,a,ha=>by
  rcases zC.mp ha with ha|ha
  ·exact B3.BS h a ha
  ·exact Ao.BS r a ha
end
mutual
theorem B3.Bu {K:za}{H:Hp}{P P':Addr->Prop}:∀ {v:V}{t:OT}{fp ad:List Addr},B3 K H P v t fp->B3 K H P' v t ad->fp=ad
 |_,_,_,_,.sh _,.sh _=>rfl
 |_,_,_,_,.lst h r,.lst h' r'=>by
  rw[h] at h';cases h';rw[Ao.Bu r r']
 |_,_,_,_,.tup h r,.tup h' r'=>by
  have e:=(Ag h).2.symm.trans (Ag h').2;cases e;exact Ao.Bu r r'
 |_,_,_,_,.dK (kvs:=kvs) (ts:=ts) h r,x=>by
  generalize ht:OT.B0 false (kvs.map λ kv=>BB kv.1) ts=t at x;cases x with
  |dK h' r' =>
   rw[h] at h';cases h';injection ht with _ _ e
   subst e;rw[Ao.Bu r r']
  |dT h' r'=>rw[h] at h';cases h'
  |_=>cases ht
 |_,_,_,_,.dT (kvs:=kvs) (ts:=ts) h r,x=>by
  generalize ht:OT.B0 true (kvs.map λ kv=>D.tup (kv.1.map BB)) ts=t at x;cases x with
  |dT h' r' =>
   rw[h] at h';cases h';injection ht with _ _ e
   subst e;rw[Ao.Bu r r']
  |dK h' r'=>rw[h] at h';cases h'
  |_=>cases ht
 |_,_,_,_,.ins (fs:=fs) (ts:=ts) (x:=y) n h r,x=>by
  generalize ht:OT.ins y (fs.map zG) ts=t at x;cases x with
  |ins n' h' r' =>
   rw[h] at h';cases h';injection ht with _ _ e
   subst e;rw[Ao.Bu r r']
  |_=>cases ht
theorem Ao.Bu {K:za}{H:Hp}{P P':Addr->Prop}:∀ {v:List V}{t:List OT}{fp ad:List Addr},Ao K H P v t fp->Ao K H P' v t ad->fp=ad
 |_,_,_,_,.nil,.nil=>rfl
 |_,_,_,_,.cons h r,.cons h' r'=>by rw[B3.Bu h h',Ao.Bu r r']
end
mutual
theorem B3.has {K:za}{H:Hp}{P P0:Addr->Prop}(hs:∀a,P0 a->P a):∀ {v:V}{t:OT}{fp:List Addr},(∀a∈fp,¬ P0 a)->B3 K H P v t fp->B4 K (del H P0) v (er t)
 |_,_,_,_,.sh h=>by rw[er];exact h.mono (Bt hs)
 |_,_,_,k,.lst h r=>by rw[er];exact .lst (.of (show del H P0 _=_ by rw[Aj (k _ zb)];exact h)) (Ao.has hs (λ a ha=>k a (zd _ ha)) r)
 |_,_,_,k,.tup h r=>by rw[er];exact .tup (Bt hs _ _ h) (Ao.has hs k r)
 |_,_,_,k,.dK h r=>by rw[er];exact .E8 (.inl (show del H P0 _=_ by rw[Aj (k _ zb)];exact h)) (Ao.has hs (λ a ha=>k a (zd _ ha)) r)
 |_,_,_,k,.dT h r=>by rw[er];exact .DL (.inl (show del H P0 _=_ by rw[Aj (k _ zb)];exact h)) (Ao.has hs (λ a ha=>k a (zd _ ha)) r)
 |_,_,_,k,.ins n h r=>by rw[er];exact .ins n (show del H P0 _=_ by rw[Aj (k _ zb)];exact h) (Ao.has hs (λ a ha=>k a (zd _ ha)) r)
theorem Ao.has {K:za}{H:Hp}{P P0:Addr->Prop}(hs:∀a,P0 a->P a):∀ {v:List V}{t:List OT}{fp:List Addr},(∀a∈fp,¬ P0 a)->Ao K H P v t fp->Ac K (del H P0) v (OO t)
 |_,_,_,_,.nil=>by rw[OO];exact .nil
 |_,_,_,k,.cons h r=>by rw[OO];exact .cons (B3.has hs (λ a ha=>k a (zx _ ha)) h) (Ao.has hs (λ a ha=>k a (ze _ ha)) r)
end
inductive Bv (K:za) (H:Hp) (P:Addr->Prop):List Addr->List (List D)->Prop
 |nil:Bv K H P [] []
 |cons {q:Addr} {xs:List V} {ds:List D} {ps:List Addr} {D4:List (List D)}:H q=some (.lst xs)->Ac K (del H P) xs ds->Bv K H P ps D4->Bv K H P (q::ps) (ds::D4)
def Bz (K:za)(H:Hp)(P:Addr->Prop):Cl->V->List Addr->Prop
 | .own ds,v,fp=>∃p xs,v=.ref p/\fp=[p]/\H p=some (.lst xs)/\Ac K (del H P) xs ds
 | .ow (.rows D4),v,fp=>∃p ps,v=.ref p/\fp=p::ps/\H p=some (.lst (ps.map V.ref))/\Bv K H P ps D4
 | .ow (.G5 _ ds),v,fp=>∃p xs,v=.ref p/\fp=[p]/\H p=some (.lst xs)/\Ac K (del H P) xs ds
 | .ow (.tree _ t),v,fp=>B3 K H P v t fp
 | .val _,_,_=>False
noncomputable def Dd:Cl->Bool
 | .val _=>false
 |_=>true
theorem Bv.move {K:za}{H H':Hp}{P P':Addr->Prop}(sm:Ab (del H P) (del H' P')):∀ {ps:List Addr}{D4:List (List D)},(∀a∈ps,H' a=H a)->Bv K H P ps D4->Bv K H' P' ps D4
 |_,_,_,.nil=>.nil
 |_,_,k,.cons h r t=>.cons ((k _ zb).trans h) (r.mono sm) (Bv.move sm (λ a ha=>k a (zd _ ha)) t)
theorem Bv.at {K:za}{H:Hp}{P:Addr->Prop}:∀ {ps:List Addr}{D4:List (List D)},Bv K H P ps D4->∀a∈ps,∃xs,H a=some (.lst xs)
 |_,_,.nil,a,h=>by cases h
 |_,_,.cons h r t,a,ha=>by
  rcases zk.mp ha with rfl|ha
  ·exact⟨_,h⟩
  ·exact t.at a ha
theorem KJ:∀ {ps qs:List Addr},ps.map V.ref=qs.map V.ref->ps=qs
 |[],[],_=>rfl
 |[],_::_,h|_::_,[],h=>by cases h
 |p::ps,q::qs,h=>by
  rw[zh,zh] at h;injection h with h1 h2
  injection h1 with h1
  rw[h1,KJ h2]
theorem Bz.move {K:za}{H H':Hp}{P P':Addr->Prop}(sm:Ab (del H P) (del H' P')){c:Cl}{v:V}{fp:List Addr}(k:∀a∈fp,H' a=H a)(h:Bz K H P c v fp):Bz K H' P' c v fp:=by
 cases c with
 |val d=>exact h
 |own ds =>
  obtain⟨p,xs,rfl,rfl,h1,h2⟩:=h;exact⟨p,xs,rfl,rfl,(k p zb).trans h1,h2.mono sm⟩
 |ow o =>
  cases o with
  |rows D4 =>
   obtain⟨p,ps,rfl,rfl,h1,h2⟩:=h;exact⟨p,ps,rfl,rfl,(k p zb).trans h1,h2.move sm λ a ha=>k a (zd _ ha)⟩
  |G5 p ds =>
   obtain⟨p,xs,rfl,rfl,h1,h2⟩:=h;exact⟨p,xs,rfl,rfl,(k p zb).trans h1,h2.mono sm⟩
  |tree p t=>exact B3.move sm k h
theorem Bz.at {K:za}{H:Hp}{P:Addr->Prop}{c:Cl}{v:V}{fp:List Addr}(h:Bz K H P c v fp):∀a∈fp,∃o,H a=some o:=by
 cases c with
 |val d=>exact h.elim
 |own ds =>
  obtain⟨p,xs,rfl,rfl,h1,h2⟩:=h;exact λ a ha=>⟨.lst xs,by rw[zj.mp ha];exact h1⟩
 |ow o =>
  cases o with
  |rows D4 =>
   obtain⟨p,ps,rfl,rfl,h1,h2⟩:=h;intro a ha;rcases zk.mp ha with rfl|ha
   ·exact⟨_,h1⟩
   ·obtain⟨xs,q⟩:=h2.at a ha;exact⟨_,q⟩
  |G5 p ds =>
   obtain⟨p,xs,rfl,rfl,h1,h2⟩:=h;exact λ a ha=>⟨.lst xs,by rw[zj.mp ha];exact h1⟩
  |tree p t =>
   intro a ha;obtain⟨o,q,_⟩:=B3.BS h a ha;exact⟨o,q⟩
theorem Bz.same {K:za}{H H':Hp}{P:Addr->Prop}(e:Ab H H'){c:Cl}{v:V}{fp:List Addr}(h:Bz K H P c v fp):Bz K H' P c v fp:=
 h.move e.del λ a ha=>by obtain⟨xs,q⟩:=h.at a ha;rw[q];exact e _ _ q
theorem Bz.Bu {K:za}{H:Hp}{P P':Addr->Prop}{c:Cl}{v:V}{fp ad:List Addr}(h:Bz K H P c v fp)(h':Bz K H P' c v ad):fp=ad:=by
 cases c with
 |val d=>exact h.elim
 |own ds =>
  obtain⟨p,xs,rfl,rfl,h1,h2⟩:=h;obtain⟨p',b5,e,rfl,dh,dY⟩:=h';cases e;rfl
 |ow o =>
  cases o with
  |rows D4 =>
   obtain⟨p,ps,rfl,rfl,h1,h2⟩:=h;obtain⟨p',jj,e,rfl,dh,dY⟩:=h';cases e;rw[h1] at dh;injection dh with e
   injection e with e
   rw[KJ e]
  |G5 p ds =>
   obtain⟨p,xs,rfl,rfl,h1,h2⟩:=h;obtain⟨p',b5,e,rfl,dh,dY⟩:=h';cases e;rfl
  |tree p t=>exact B3.Bu h h'
structure C6 where
 pr:Addr->Prop
 g:Nat->Addr
instance:CoeFun C6 (λ _=>Addr->Prop):=⟨C6.pr⟩
instance:Coe C6 (Addr->Prop):=⟨C6.pr⟩
noncomputable def IW:Cl->Option Nat
 | .ow (.G5 n _)=>some n
 | .ow (.tree (some n) _)=>some n
 |_=>none
structure Ae (K:za)(P0:C6)(P:Addr->Prop)(H:Hp)(σ:St)(ρ:A8):Prop where
 sub:∀a,P0 a->P a
 BS:∀a,P a->Cr H a
 val:∀(i:Nat) d,ρ[i]?=some (some (.val d))->∃v,σ[i]?=some (some v)/\B4 K (del H P) v d
 ows:∀(i:Nat) c,ρ[i]?=some (some c)->Dd c=true->∃v fp,σ[i]?=some (some v)/\Bz K H P c v fp/\(∀a∈fp,P a/\¬ P0 a)/\fp.Nodup
 apart:∀(i j:Nat) c c' v v' fp ad,ρ[i]?=some (some c)->ρ[j]?=some (some c')->σ[i]?=some (some v)->σ[j]?=some (some v')->Bz K H P c v fp->Bz K H P c' v' ad->i≠j->∀a∈fp,a∉ad
 len:σ.length=ρ.length
 pin:∀(i:Nat) c n,ρ[i]?=some (some c)->IW c=some n->σ[i]?=some (some (.ref (P0.g n)))
theorem Ae.own {K:za}{P0:C6}{P:Addr->Prop}{H:Hp}{σ:St}{ρ:A8}(E:Ae K P0 P H σ ρ)(i:Nat)(ds:List D)(h:ρ[i]?=some (some (.own ds))):
 ∃p xs,σ[i]?=some (some (.ref p))/\H p=some (.lst xs)/\P p/\¬ P0 p/\Ac K (del H P) xs ds:=by
 obtain⟨v,fp,h1,⟨p,xs,rfl,rfl,h2,h3⟩,h4,_⟩:=E.ows i _ h rfl;exact⟨p,xs,h1,h2,(h4 p zb).1,(h4 p zb).2,h3⟩
theorem Ae.OP {K:za}{P0:C6}{P P':Addr->Prop}{H H':Hp}{σ:St}{ρ:A8}(E:Ae K P0 P H σ ρ)(sm:Ab (del H P) (del H' P')){i j:Nat}{c c':Cl}{v v':V}{fp ad:List Addr}
 (ki:∀v fp,σ[i]?=some (some v)->Bz K H P c v fp->∀a∈fp,H' a=H a) (kj:∀v fp,σ[j]?=some (some v)->Bz K H P c' v fp->∀a∈fp,H' a=H a)
 (hi:ρ[i]?=some (some c)) (hj:ρ[j]?=some (some c')) (si:σ[i]?=some (some v)) (sj:σ[j]?=some (some v')) (h:Bz K H' P' c v fp) (h':Bz K H' P' c' v' ad) (ab:i≠j):∀a∈fp,a∉ad:=by
 have key:∀(k:Nat) (d:Cl) (w:V) (fq:List Addr),ρ[k]?=some (some d)->σ[k]?=some (some w)->(∀v fp,σ[k]?=some (some v)->Bz K H P d v fp->∀a∈fp,H' a=H a)->Bz K H' P' d w fq->Bz K H P d w fq:=λ k d w fq hk sk kk ho=>by
  have io:Dd d=true:=by cases d<;>first|rfl|exact ho.elim
  obtain⟨w',aM,s2,o2,_⟩:=E.ows k d hk io;rw[sk] at s2;cases s2;have o3:=o2.move sm (kk _ _ sk o2);rw[ho.Bu o3];exact o2
 exact E.apart i j c c' v v' fp ad hi hj si sj (key i c v fp hi si ki h) (key j c' v' ad hj sj kj h') ab
theorem Ae.same {K:za}{P0:C6}{P:Addr->Prop}{H H':Hp}{σ:St}{ρ:A8}(E:Ae K P0 P H σ ρ)(e:Ab H H'):Ae K P0 P H' σ ρ:=
 ⟨E.sub,λ a h=>(E.BS a h).same e,λ i d h=>let ⟨v,h1,h2⟩:=E.val i d h;⟨v,h1,h2.mono e.del⟩,
  λ i c h io=>let ⟨v,fp,h1,h2,h3,h4⟩:=E.ows i c h io;⟨v,fp,h1,h2.same e,h3,h4⟩,
  λ i j c c' v v' fp ad hi hj si sj h h' ab=>E.OP e.del (λ v fp _ o a ha=>by obtain⟨xs,q⟩:=o.at a ha;rw[q];exact e _ _ q) (λ v fp _ o a ha=>by obtain⟨xs,q⟩:=o.at a ha;rw[q];exact e _ _ q) hi hj si sj h h' ab,E.len,E.pin⟩
def gV (K:za)(WX:Str->Hp->Prop)(P:Addr->Prop)(H:Hp)(Q:VK):M D->Prop
 | .ok d=>∀v H',Ab H H'->B4 K (del H' P) v d->Q v H'
 | .ex x=>∀H',Ab H H'->WX x H'
 | .bad=>False
def gA (K:za)(WX:Str->Hp->Prop)(P:Addr->Prop)(H:Hp)(Q:List V->Hp->Prop):M (List D)->Prop
 | .ok d=>∀v H',Ab H H'->Ac K (del H' P) v d->Q v H'
 | .ex x=>∀H',Ab H H'->WX x H'
 | .bad=>False
def gT (WX:Str->Hp->Prop)(H:Hp)(Q:Bool->Hp->Prop):M Bool->Prop
 | .ok b=>∀H',Ab H H'->Q b H'
 | .ex x=>∀H',Ab H H'->WX x H'
 | .bad=>False
section
variable {K:za}{WX:Str->Hp->Prop}{P:Addr->Prop}{H H':Hp}
theorem gV.same {Q:VK}{m:M D}(h:gV K WX P H Q m)(e:Ab H H'):gV K WX P H' Q m:=by
 cases m with
 |ok d=>exact λ v H2 q hv=>h v H2 (e.trans q) hv
 |ex x=>exact λ H2 q=>h H2 (e.trans q)
 |bad=>exact h
theorem gA.same {Q:List V->Hp->Prop}{m:M (List D)}(h:gA K WX P H Q m)(e:Ab H H'):gA K WX P H' Q m:=by
 cases m with
 |ok d=>exact λ v H2 q hv=>h v H2 (e.trans q) hv
 |ex x=>exact λ H2 q=>h H2 (e.trans q)
 |bad=>exact h
theorem gT.same {Q:Bool->Hp->Prop}{m:M Bool}(h:gT WX H Q m)(e:Ab H H'):gT WX H' Q m:=by
 cases m with
 |ok d|ex x=>exact λ H2 q=>h H2 (e.trans q)
 |bad=>exact h
end
def Lv (c:Bool)(P0:C6)(P:Addr->Prop):Addr->Prop:=if c=true then P else P0.pr
def DE (X:Cx)(WX:Str->Hp->Prop)(c:Bool)(e:Expr)(f:A8->M D):Prop:=
 ∃t,PE X e t/\∀P0 P σ H Q ρ,Ae X.K P0 P H σ ρ->gV X.K WX (Lv c P0 P) H Q (f ρ)->t σ H Q
def DA (X:Cx)(WX:Str->Hp->Prop)(c:Bool)(es:List Expr)(f:A8->M (List D)):Prop:=
 ∃t,PA X es t/\(∀P0 P σ H Q ρ,Ae X.K P0 P H σ ρ->gA X.K WX (Lv c P0 P) H Q (f ρ)->t σ H Q)/\∀ρ ds,f ρ=.ok ds->ds.length=es.length
def DT (X:Cx)(WX:Str->Hp->Prop)(e:Expr)(f:A8->M Bool):Prop:=
 ∃t,PT X e t/\∀P0 P σ H Q ρ,Ae X.K P0 P H σ ρ->gT WX H Q (f ρ)->t σ H Q
def DW (X:Cx)(WX:Str->Hp->Prop)(e:Expr)(f:A8->M Bool):Prop:=
 ∃t,PW X e t/\∀P0 P σ H Q ρ,Ae X.K P0 P H σ ρ->gT WX H Q (f ρ)->t σ H Q
theorem DW.dt {X:Cx}{WX:Str->Hp->Prop}{e:Expr}{f:A8->M Bool}(h:DW X WX e f):DT X WX e f:=let ⟨t,h1,h2⟩:=h;⟨t,h1.pt,h2⟩
section
variable {X:Cx}{WX:Str->Hp->Prop}{c:Bool}{P0:C6}{P:Addr->Prop}{H:Hp}{σ:St}{ρ:A8}
theorem Ae.lv (E:Ae X.K P0 P H σ ρ)(c:Bool):∀a,Lv c P0 P a->P a:=λ a h=>by
 cases c with
 |true=>exact h
 |false=>exact E.sub a h
theorem Ae.VN (E:Ae X.K P0 P H σ ρ)(c:Bool):∀a,Lv c P0 P a->Cr H a:=λ a h=>E.BS a (E.lv c a h)
theorem OQ {e:Expr}{f:A8->M D}(h:DE X WX true e f):DE X WX false e f:=by
 obtain⟨t,h1,h2⟩:=h;refine⟨t,h1,λ P0 P σ H Q ρ E g=>h2 P0 P σ H Q ρ E ?_⟩;cases e:f ρ with
 |ok d=>rw[e] at g;exact λ v H' s hv=>g v H' s (hv.mono (Bt E.sub))
 |ex x|bad=>rw[e] at g;exact g
noncomputable def VO:D->Bool
 | .tup _ | .lst _ | .C9 _ | .B0 _ _ _ | .ins _ _ _=>false
 |_=>true
noncomputable def fl (m:M D):M D:=m.bind λ d=>if VO d=true then .ok d else .bad
noncomputable def rv (i:Nat)(ρ:A8):M D:=match ρ[i]? with | some (some (.val d))=>.ok d | _=>.bad
theorem A1 (i:Nat){x:Str}{pos:Pos}(h:PE X (.Name x pos) (Nd i)):DE X WX true (.Name x pos) (rv i):=by
 refine⟨_,h,λ P0 P σ H Q ρ E g=>?_⟩;unfold rv at g;split at g
 ·rename_i d e;obtain⟨v,h1,h2⟩:=E.val i d e;exact⟨v,h1,g v H (Ab.refl H) h2⟩
 ·exact g.elim
theorem A6 {i j pos}:DE X WX c (.Constant (.int i) j pos) (λ _=>.ok (.int i)):=⟨_,SN,λ P0 P σ H Q ρ E g=>g _ H (Ab.refl H) (.int i)⟩
theorem De {b j pos}:DE X WX c (.Constant (.bool b) j pos) (λ _=>.ok (.bl b)):=⟨_,Vf,λ P0 P σ H Q ρ E g=>g _ H (Ab.refl H) (.bl b)⟩
theorem GG {j pos}:DE X WX c (.Constant .none j pos) (λ _=>.ok .Ax):=⟨_,SO,λ P0 P σ H Q ρ E g=>g _ H (Ab.refl H) .Ax⟩
def MF (K:za)(WX:Str->Hp->Prop)(r:R2)(a5:D->D->M D):Prop:=
 ∀(P:Addr->Prop) (H:Hp) (x y:D) (v w:V) (Q:VK),(∀a,P a->Cr H a)->B4 K (del H P) v x->B4 K (del H P) w y->gV K WX P H Q (a5 x y)->r v w H Q
variable {a b:Expr}{f g:A8->M D}{pos:Pos}
theorem KL {ta tb:TE}{r:R2}{a5:D->D->M D}(ha:∀P0 P σ H Q ρ,Ae X.K P0 P H σ ρ->gV X.K WX (Lv c P0 P) H Q (f ρ)->ta σ H Q)(hb:∀P0 P σ H Q ρ,Ae X.K P0 P H σ ρ->gV X.K WX (Lv c P0 P) H Q (g ρ)->tb σ H Q)
 (hr:MF X.K WX r a5) {Q:VK} (E:Ae X.K P0 P H σ ρ) (h:gV X.K WX (Lv c P0 P) H Q ((f ρ).bind λ x=>(g ρ).bind λ y=>a5 x y)):Vr r ta tb σ H Q:=by
 refine ha P0 P σ H _ ρ E ?_;cases e:f ρ with
 |bad|ex x=>rw[e] at h;exact h
 |ok x =>
  rw[e] at h;intro v H1 s1 hv;refine hb P0 P σ H1 _ ρ (E.same s1) ?_;cases e2:g ρ with
  |bad=>rw[e2] at h;exact h
  |ex y=>rw[e2] at h;exact gV.same (m:=.ex y) h s1
  |ok y =>
   rw[e2] at h;intro w H2 s2 hw;exact hr _ H2 x y v w Q (λ a q=>((E.same s1).same s2).VN c a q) (hv.mono s2.del) hw ((gV.same h s1).same s2)
theorem IX {op:Operator}{r:R2}{a5:D->D->M D}(ho:F5 X (binaryOp op) r)(hr:MF X.K WX r a5)(ha:DE X WX c a f)(hb:DE X WX c b g):DE X WX c (.BinOp a op b pos) (λ ρ=>(f ρ).bind λ x=>(g ρ).bind λ y=>a5 x y):=by
 obtain⟨ta,a1,a2⟩:=ha;obtain⟨tb,b1,b2⟩:=hb;exact⟨_,Vs ho a1 b1,λ P0 P σ H Q ρ E h=>KL a2 b2 hr E h⟩
theorem Tj {op:CmpOp}{r:R2}{a5:D->D->M D}(ho:F5 X (compareOp op) r)(hr:MF X.K WX r a5)(ha:DE X WX c a f)(hb:DE X WX c b g)(hm:behindInMarks op b=false):DE X WX c (.Compare a [op] [b] pos) (λ ρ=>(f ρ).bind λ x=>(g ρ).bind λ y=>a5 x y):=by
 obtain⟨ta,a1,a2⟩:=ha;obtain⟨tb,b1,b2⟩:=hb;exact⟨_,QW ho a1 b1 hm,λ P0 P σ H Q ρ E h=>KL a2 b2 hr E h⟩
theorem VP {r:R2}{a5:D->D->M D}(ho:R6 X r)(hr:MF X.K WX r a5)(ha:DE X WX c a f)(hb:DE X WX c b g)(hs:Jo b):DE X WX c (.Subscript a b pos) (λ ρ=>(f ρ).bind λ x=>(g ρ).bind λ y=>a5 x y):=by
 obtain⟨ta,a1,a2⟩:=ha;obtain⟨tb,b1,b2⟩:=hb;exact⟨_,VD ho a1 b1 hs,λ P0 P σ H Q ρ E h=>KL a2 b2 hr E h⟩
noncomputable def AW (k:Int->Int->M D)(x y:D):M D:=match x,y with | .int i,.int j=>k i j | _,_=>.bad
theorem B4.int_inv {K:za}{H:Hp}{v:V}{i:Int}(h:B4 K H v (.int i)):v=.int i:=by cases h;rfl
theorem B4.Jv {K:za}{H:Hp}{v:V}{i:Bool}(h:B4 K H v (.bl i)):v=.bl i:=by cases h;rfl
theorem Jw {C:Int->Int->Prop}{gv:Int->Int->V}{gd:Int->Int->D}[∀i j,Decidable (C i j)](hg:∀i j K H,B4 K H (gv i j) (gd i j)):MF X.K WX (rI C gv) (AW λ i j=>if C i j then .ok (gd i j) else .bad):=by
 intro P H x y v w Q ht hx hy h;unfold AW at h;split at h
 ·rename_i i j;rw[hx.int_inv,hy.int_inv];dsimp only at h;by_cases hc:C i j
  ·rw[if_pos hc] at h;exact⟨i,j,rfl,rfl,hc,h _ H (Ab.refl H) (hg i j _ _)⟩
  ·rw[if_neg hc] at h;exact h.elim
 ·exact h.elim
theorem Jx {gv:Int->Int->V}{gd:Int->Int->D}(hg:∀i j K H,B4 K H (gv i j) (gd i j)):MF X.K WX (UZ gv) (AW λ i j=>.ok (gd i j)):=by
 intro P H x y v w Q ht hx hy h;unfold AW at h;split at h
 ·rename_i i j;rw[hx.int_inv,hy.int_inv];exact⟨i,j,rfl,rfl,h _ H (Ab.refl H) (hg i j _ _)⟩
 ·exact h.elim
instance (i j:Int):Decidable (Kt i j):=by unfold Kt;infer_instance
instance (i j:Int):Decidable (QU i j):=by unfold QU;infer_instance
instance (i j:Int):Decidable (Ov i j):=by unfold Ov;infer_instance
noncomputable def OR:=AW λ i j=>.ok (.int (i+j))
noncomputable def Tn:=AW λ i j=>.ok (.int (i-j))
noncomputable def Eh:=AW λ i j=>if 0<j then .ok (.int (i%j)) else .bad
noncomputable def IY:=AW λ i j=>if Kt i j then .ok (.int (i / j)) else .bad
noncomputable def To:=AW λ i j=>if QU i j then .ok (.int (i^j.toNat)) else .bad
noncomputable def Y8:=AW λ i j=>.ok (.bl (decide (i<j)))
noncomputable def Y9:=AW λ i j=>.ok (.bl (decide (i<=j)))
noncomputable def XN:=AW λ i j=>.ok (.bl (decide (j<i)))
noncomputable def Yb:=AW λ i j=>.ok (.bl (decide (j<=i)))
theorem Bl (ha:DE X WX c a f)(hb:DE X WX c b g):DE X WX c (.BinOp a .Add b pos) (λ ρ=>(f ρ).bind λ x=>(g ρ).bind λ y=>OR x y):=IX SX (Jx λ _ _ _ _=>.int _) ha hb
theorem Tp (ha:DE X WX c a f)(hb:DE X WX c b g):DE X WX c (.BinOp a .Sub b pos) (λ ρ=>(f ρ).bind λ x=>(g ρ).bind λ y=>Tn x y):=IX SY (Jx λ _ _ _ _=>.int _) ha hb
theorem Bd (ha:DE X WX c a f)(hb:DE X WX c b g):DE X WX c (.BinOp a .Mod b pos) (λ ρ=>(f ρ).bind λ x=>(g ρ).bind λ y=>Eh x y):=IX T2 (Jw λ _ _ _ _=>.int _) ha hb
theorem G6 (ha:DE X WX c a f)(hb:DE X WX c b g):DE X WX c (.BinOp a .FloorDiv b pos) (λ ρ=>(f ρ).bind λ x=>(g ρ).bind λ y=>IY x y):=IX QV (Jw λ _ _ _ _=>.int _) ha hb
theorem LO (ha:DE X WX c a f)(hb:DE X WX c b g):DE X WX c (.BinOp a .Pow b pos) (λ ρ=>(f ρ).bind λ x=>(g ρ).bind λ y=>To x y):=IX T3 (Jw λ _ _ _ _=>.int _) ha hb
noncomputable def Si (n:Nat)(x y:D):M D:=if EF x<=n/\Aq x=true/\Aq y=true then .ok (.bl (Al x y)) else .bad
noncomputable def Sj (n:Nat)(x y:D):M D:=if EF x<=n/\Aq x=true/\Aq y=true then .ok (.bl (!Al x y)) else .bad
theorem Tq {n:Nat}(hu:X.A.units+n<cLine):MF X.K WX (Rp X.K X.A false) (Si n):=by
 intro P H x y v w Q ht hx hy h;unfold Si at h;by_cases hd:EF x<=n/\Aq x=true/\Aq y=true
 ·rw[if_pos hd] at h;exact⟨x,y,hx.mono Cq,hy.mono Cq,by omega,hd.2.1,hd.2.2,h _ H (Ab.refl H) (.bl _)⟩
 ·rw[if_neg hd] at h;exact h.elim
theorem Ts {n:Nat}(hu:X.A.units+n<cLine):MF X.K WX (Rp X.K X.A true) (Sj n):=by
 intro P H x y v w Q ht hx hy h;unfold Sj at h;by_cases hd:EF x<=n/\Aq x=true/\Aq y=true
 ·rw[if_pos hd] at h;exact⟨x,y,hx.mono Cq,hy.mono Cq,by omega,hd.2.1,hd.2.2,h _ H (Ab.refl H) (.bl _)⟩
 ·rw[if_neg hd] at h;exact h.elim
noncomputable def BO:D->Bool
 | .Ax=>true
 |_=>false
theorem B4.XO {K:za}{H:Hp}{v:V}{d:D}(h:B4 K H v d):decide (v=.Ax)=BO d:=by
 cases h<;>simp[BO]
noncomputable def Xk (x y:D):M D:=match x,y with
 | .tup ds,.int i| .lst ds,.int i=>(match O5 ds i with|some d=>.ok d|none=>.bad)
 |_,_=>.bad
theorem Ac.O5 {K:za}{H:Hp}{xs:List V}{ds:List D}{i:Int}{d:D}(h:Ac K H xs ds)(e:L2.O5 ds i=some d):∃v,L2.O5 xs i=some v/\B4 K H v d:=by
 unfold L2.O5 at e ⊢;rw[<-h.length] at e;cases q:VC xs.length i with
 |none=>rw[q] at e;cases e
 |some j =>
  rw[q] at e;exact h.get e
theorem CC.B9 {K:za}{H:Hp}{P:Addr->Prop}{a:Addr}{xs:List V}(h:CC K (del H P) a xs):CC K H a xs:=Cq.seq h
theorem Df:MF X.K WX (λ x y H Q=>T9 X.K x y H Q\/Ta X.K x y H Q) Xk:=by
 intro P H x y v w Q ht hx hy h;unfold Xk at h;split at h
 ·rename_i ds i;split at h
  ·rename_i d e;cases hy;cases hx with
   |tup hs hl =>
    obtain⟨u,h1,h2⟩:=hl.O5 e;exact .inr ⟨_,_,i,u,rfl,rfl,IH.of (Ag hs).2,h1,h _ H (Ab.refl H) h2⟩
  ·exact h.elim
 ·rename_i ds i;split at h
  ·rename_i d e;cases hy;cases hx with
   |lst hs hl =>
    obtain⟨u,h1,h2⟩:=hl.O5 e;exact .inl ⟨_,_,i,u,rfl,rfl,hs.B9,h1,h _ H (Ab.refl H) h2⟩
  ·exact h.elim
 ·exact h.elim
theorem Ah:DA X WX c [] (λ _=>.ok []):=⟨_,D7,λ P0 P σ H Q ρ E h=>h [] H (Ab.refl H) .nil,λ ρ ds h=>by cases h;rfl⟩
theorem A2 {e:Expr}{es:List Expr}{f:A8->M D}{fs:A8->M (List D)}(he:DE X WX c e f)(hr:DA X WX c es fs)(hs:starEach (e::es) X.env=(false,eval e X.env)::starEach es X.env:=by rfl):
 DA X WX c (e::es) (λ ρ=>(f ρ).bind λ d=>(fs ρ).bind λ ds=>.ok (d::ds)):=by
 obtain⟨te,e1,e2⟩:=he;obtain⟨tr,r1,r2,r3⟩:=hr;refine⟨_,BF e1 r1 hs,λ P0 P σ H Q ρ E h=>?_,λ ρ ds h=>?_⟩
 rotate_left
 ·dsimp only at h;cases q:f ρ with
  |bad|ex x=>rw[q] at h;cases h
  |ok x =>
   rw[q] at h;cases q2:fs ρ with
   |bad|ex x=>rw[q2] at h;cases h
   |ok xs =>
    rw[q2] at h;cases h;rw[zp,zp,r3 ρ xs q2]
 dsimp only at h;refine e2 P0 P σ H _ ρ E ?_;cases q:f ρ with
 |bad|ex x=>rw[q] at h;exact h
 |ok x =>
  rw[q] at h;intro v H1 s1 hv;refine r2 P0 P σ H1 _ ρ (E.same s1) ?_;cases q2:fs ρ with
  |bad=>rw[q2] at h;exact h
  |ex y=>rw[q2] at h;exact gA.same (m:=.ex y) h s1
  |ok ds =>
   rw[q2] at h;exact λ vs H2 s2 aA=>h _ H2 (s1.trans s2) (.cons (hv.mono s2.del) aA)
theorem EG {H:Hp}{P:Addr->Prop}{p:Addr}{o:HO}(hn:H p=none)(ht:∀a,P a->Cr H a):del (upd H p o) P p=some o:=by
 rw[Aj λ z=>(ht p z).no hn];exact Ad
theorem AG {es:List Expr}{fs:A8->M (List D)}{x1}(ha:DA X WX c es fs)(hz:es.length<=1000:=by decide):DE X WX c (.Tuple es x1 pos) (λ ρ=>(fs ρ).bind λ ds=>if ds.length<=1000 then .ok (.tup ds) else .bad):=by
 obtain⟨ta,a1,a2,a3⟩:=ha;refine⟨_,T6 a1,λ P0 P σ H Q ρ E h=>?_⟩;dsimp only at h;refine a2 P0 P σ H _ ρ E ?_;cases q:fs ρ with
 |bad|ex y=>rw[q] at h;exact h
 |ok ds =>
  rw[q] at h;simp only[M.Aa] at h;by_cases hd:ds.length<=1000
  ·rw[if_pos hd] at h;intro vs H1 s1 aA;refine⟨yw (AZ (by rw[aA.length];exact hd)),λ p hp=>h _ _ (s1.trans (Ay hp _)) (.tup (EG hp λ a q=>(E.same s1).VN c a q) (aA.mono (Ay hp _).del))⟩
  ·rw[if_neg hd] at h;exact h.elim
theorem OS {es:List Expr}{fs:A8->M (List D)}(ha:DA X WX c es fs):DE X WX c (.List es pos) (λ ρ=>(fs ρ).bind λ ds=>if ds.length<=1000 then .ok (.lst ds) else .bad):=by
 obtain⟨ta,a1,a2,a3⟩:=ha;refine⟨_,Oy a1,λ P0 P σ H Q ρ E h=>?_⟩;dsimp only at h;refine a2 P0 P σ H _ ρ E ?_;cases q:fs ρ with
 |bad|ex y=>rw[q] at h;exact h
 |ok ds =>
  rw[q] at h;simp only[M.Aa] at h;by_cases hd:ds.length<=1000
  ·rw[if_pos hd] at h;intro vs H1 s1 aA;refine⟨yw (AZ (by rw[aA.length];exact hd)),λ p hp=>h _ _ (s1.trans (Ay hp _)) (.lst (.of (EG hp λ a q=>(E.same s1).VN c a q)) (aA.mono (Ay hp _).del))⟩
  ·rw[if_neg hd] at h;exact h.elim
end
noncomputable def MG (d:D):M Bool:=match d with | .bl b=>.ok b | _=>.bad
section
variable {X:Cx}{WX:Str->Hp->Prop}{c:Bool}{P0:C6}{P:Addr->Prop}{H:Hp}{σ:St}{ρ:A8}{a b e:Expr}{f g:A8->M D}{ft gt:A8->M Bool}{pos:Pos}
theorem VQ {WX:Str->Hp->Prop}{P:Addr->Prop}{K:za}{H:Hp}{Q:Bool->Hp->Prop}{m:M D}(h:gT WX H Q (m.bind MG)):gV K WX P H (λ x H'=>∃k,x=.bl k/\Q k H') m:=by
 cases m with
 |bad|ex x=>exact h
 |ok d =>
  intro v H' s hv;simp only[M.Aa] at h;unfold MG at h;split at h
  ·rename_i b;exact⟨b,hv.Jv,h H' s⟩
  ·exact h.elim
theorem DM {op:CmpOp}{r:R2}{a5:D->D->M D}(ho:F5 X (compareOp op) r)(hr:MF X.K WX r a5)(ha:DE X WX c a f)(hb:DE X WX c b g)(hm:behindInMarks op b=false):DT X WX (.Compare a [op] [b] pos) (λ ρ=>((f ρ).bind λ x=>(g ρ).bind λ y=>a5 x y).bind MG):=by
 obtain⟨ta,a1,a2⟩:=ha;obtain⟨tb,b1,b2⟩:=hb;exact⟨_,QX ho a1 b1 hm,λ P0 P σ H Q ρ E h=>KL a2 b2 hr E (VQ h)⟩
theorem VR (ha:DE X WX c a f)(hb:DE X WX c b g):DT X WX (.Compare a [.Gt] [b] pos) (λ ρ=>((f ρ).bind λ x=>(g ρ).bind λ y=>XN x y).bind MG):=DM Vv (Jx λ _ _ _ _=>.bl _) ha hb (Gq _)
theorem GH {n:Nat}(hu:X.A.units+n<cLine)(ha:DE X WX c a f)(hb:DE X WX c b g):DT X WX (.Compare a [.Eq] [b] pos) (λ ρ=>((f ρ).bind λ x=>(g ρ).bind λ y=>Si n x y).bind MG):=DM Th (Tq hu) ha hb (Gq _)
theorem KN {n:Nat}(hu:X.A.units+n<cLine)(ha:DE X WX c a f)(hb:DE X WX c b g):DT X WX (.Compare a [.NotEq] [b] pos) (λ ρ=>((f ρ).bind λ x=>(g ρ).bind λ y=>Sj n x y).bind MG):=DM Ti (Ts hu) ha hb (Gq _)
theorem Jy {j pos'}(ha:DE X WX c a f):DT X WX (.Compare a [.Is] [.Constant .none j pos'] pos) (λ ρ=>(f ρ).bind λ x=>.ok (BO x)):=by
 obtain⟨ta,a1,a2⟩:=ha;refine⟨_,Oh (SQ a1),λ P0 P σ H Q ρ E h=>?_⟩;dsimp only at h;refine a2 P0 P σ H _ ρ E ?_;cases e:f ρ with
 |bad|ex x=>rw[e] at h;exact h
 |ok x=>rw[e] at h;exact λ v H1 s1 hv=>⟨_,rfl,by rw[hv.XO];exact h H1 s1⟩
theorem G7 {j pos'}(ha:DE X WX c a f):DT X WX (.Compare a [.IsNot] [.Constant .none j pos'] pos) (λ ρ=>(f ρ).bind λ x=>.ok (!BO x)):=by
 obtain⟨ta,a1,a2⟩:=ha;refine⟨_,Oh (QO a1),λ P0 P σ H Q ρ E h=>?_⟩;dsimp only at h;refine a2 P0 P σ H _ ρ E ?_;cases e:f ρ with
 |bad|ex x=>rw[e] at h;exact h
 |ok x=>rw[e] at h;exact λ v H1 s1 hv=>⟨_,rfl,by rw[hv.XO];exact h H1 s1⟩
theorem Tt (ha:DT X WX a ft):DT X WX (.UnaryOp .Not a pos) (λ ρ=>(ft ρ).bind λ b=>.ok (!b)):=by
 obtain⟨ta,a1,a2⟩:=ha;refine⟨_,SR a1,λ P0 P σ H Q ρ E h=>?_⟩;dsimp only at h;refine a2 P0 P σ H _ ρ E ?_;cases e:ft ρ with
 |bad|ex x=>rw[e] at h;exact h
 |ok x=>rw[e] at h;exact λ H1 s1=>h H1 s1
theorem G8 (ha:DT X WX a ft):DW X WX (.BoolOp .And [a] pos) ft:=let ⟨ta,a1,a2⟩:=ha;⟨_,pw_and1 a1,a2⟩
theorem F9 (ha:DT X WX a ft):DW X WX (.BoolOp .Or [a] pos) ft:=let ⟨ta,a1,a2⟩:=ha;⟨_,pw_or1 a1,a2⟩
theorem Fb {rest:List Expr}(ha:DT X WX a ft)(hb:DW X WX (.BoolOp .And (b::rest) pos) gt):DW X WX (.BoolOp .And (a::b::rest) pos) (λ ρ=>(ft ρ).bind λ k=>if k=true then gt ρ else .ok false):=by
 obtain⟨ta,a1,a2⟩:=ha;obtain⟨tb,b1,b2⟩:=hb;refine⟨_,pw_and a1 b1,λ P0 P σ H Q ρ E h=>?_⟩;dsimp only at h;refine a2 P0 P σ H _ ρ E ?_;cases e:ft ρ with
 |bad|ex x=>rw[e] at h;exact h
 |ok k =>
  rw[e] at h;intro H1 s1;cases k with
  |true =>
   simp only[M.Aa,if_true] at h ⊢;exact b2 P0 P σ H1 _ ρ (E.same s1) (h.same s1)
  |false =>
   simp only[M.Aa,zu,if_false] at h ⊢;exact h H1 s1
theorem FL {rest:List Expr}(ha:DT X WX a ft)(hb:DW X WX (.BoolOp .Or (b::rest) pos) gt):DW X WX (.BoolOp .Or (a::b::rest) pos) (λ ρ=>(ft ρ).bind λ k=>if k=true then .ok true else gt ρ):=by
 obtain⟨ta,a1,a2⟩:=ha;obtain⟨tb,b1,b2⟩:=hb;refine⟨_,pw_or a1 b1,λ P0 P σ H Q ρ E h=>?_⟩;dsimp only at h;refine a2 P0 P σ H _ ρ E ?_;cases e:ft ρ with
 |bad|ex x=>rw[e] at h;exact h
 |ok k =>
  rw[e] at h;intro H1 s1;cases k with
  |true =>
   simp only[M.Aa,if_true] at h ⊢;exact h H1 s1
  |false =>
   simp only[M.Aa,zu,if_false] at h ⊢;exact b2 P0 P σ H1 _ ρ (E.same s1) (h.same s1)
theorem Tu {op}(ha:DE X WX c a f):DE X WX c (.BoolOp op [a] pos) f:=let ⟨ta,a1,a2⟩:=ha;⟨_,Oi a1,a2⟩
theorem Tv {rest:List Expr}(ha:DE X WX c a f)(hb:DE X WX c (.BoolOp .And (b::rest) pos) g):DE X WX c (.BoolOp .And (a::b::rest) pos) (λ ρ=>((f ρ).bind MG).bind λ k=>if k=true then g ρ else .ok (.bl false)):=by
 obtain⟨ta,a1,a2⟩:=ha;obtain⟨tb,b1,b2⟩:=hb;refine⟨_,SS a1 b1,λ P0 P σ H Q ρ E h=>?_⟩;dsimp only at h;refine a2 P0 P σ H _ ρ E ?_;cases e:f ρ with
 |bad|ex x=>rw[e] at h;exact h
 |ok d =>
  rw[e] at h;simp only[M.Aa] at h;unfold MG at h;split at h
  ·rename_i k;intro v H1 s1 hv;refine⟨k,hv.Jv,?_⟩;cases k with
   |true =>
    simp only[M.Aa,if_true] at h ⊢;exact b2 P0 P σ H1 _ ρ (E.same s1) (h.same s1)
   |false =>
    simp only[M.Aa,zu,if_false] at h ⊢;exact h _ H1 s1 (.bl _)
  ·exact h.elim
theorem OU (ha:DE X WX c a f):DE X WX c (.UnaryOp .USub a pos) (λ ρ=>(f ρ).bind λ d=>match d with | .int i=>.ok (.int (-i)) | _=>.bad):=by
 obtain⟨ta,a1,a2⟩:=ha;refine⟨_,Vt T4 a1,λ P0 P σ H Q ρ E h=>?_⟩;dsimp only at h;refine a2 P0 P σ H _ ρ E ?_;cases e:f ρ with
 |bad|ex x=>rw[e] at h;exact h
 |ok d =>
  rw[e] at h;simp only[M.Aa] at h;split at h
  ·rename_i i;exact λ v H1 s1 hv=>⟨i,hv.int_inv,h _ H1 s1 (.int _)⟩
  ·exact h.elim
def KO (K:za)(WX:Str->Hp->Prop)(r:List V->Hp->VK->Prop)(dF:List D->M D):Prop:=
 ∀(P:Addr->Prop) (H:Hp) (ds:List D) (vs:List V) (Q:VK),(∀a,P a->Cr H a)->Ac K (del H P) vs ds->gV K WX P H Q (dF ds)->r vs H Q
variable {x:Str}{p:Pos}{es:List Expr}{fs:A8->M (List D)}{id T:String}{r:List V->Hp->VK->Prop}{dF:List D->M D}
theorem Tw {ta:TA}(ha:∀P0 P σ H Q ρ,Ae X.K P0 P H σ ρ->gA X.K WX (Lv c P0 P) H Q (fs ρ)->ta σ H Q)(hr:KO X.K WX r dF){Q:VK}(E:Ae X.K P0 P H σ ρ)(h:gV X.K WX (Lv c P0 P) H Q ((fs ρ).bind dF)):Xc r ta σ H Q:=by
 refine ha P0 P σ H _ ρ E ?_;cases e:fs ρ with
 |bad|ex x=>rw[e] at h;exact h
 |ok ds =>
  rw[e] at h;exact λ vs H1 s1 aA=>hr _ H1 ds vs Q (λ a q=>(E.same s1).VN c a q) aA (h.same s1)
theorem GI (hc:FK X (.builtin id) r)(hr:KO X.K WX r dF)(hg:Gl X x)(hm:X.mg x=none)(hv:bootBuiltins x=some (.builtin id))(ha:DA X WX c (e::es) fs)(hn:x ≠ "__name__" := by decide)(aP:(x==("__debug__" : Str))=false:=by decide)
 (he:starEach (e::es) X.env=(false,eval e X.env)::starEach es X.env:=by rfl) (hpl:(backTo pos (starEach es X.env)).any (·.1)=false:=by rfl):DE X WX c (.Call (.Name x p) (e::es) [] pos) (λ ρ=>(fs ρ).bind dF):=by
 obtain⟨ta,a1,a2,a3⟩:=ha;exact⟨_,Kv hc hg hm hv a1 hn aP he hpl,λ P0 P σ H Q ρ E h=>Tw a2 hr E h⟩
noncomputable def VS (ds:List D):M D:=match ds with
 |[.lst xs]|[.tup xs]=>.ok (.int xs.length)
 |_=>.bad
theorem Ac.one {K:za}{H:Hp}{vs:List V}{d:D}(h:Ac K H vs [d]):∃v,vs=[v]/\B4 K H v d:=by
 cases h with
 |cons h t=>cases t;exact⟨_,rfl,h⟩
theorem Ac.two {K:za}{H:Hp}{vs:List V}{d e:D}(h:Ac K H vs [d,e]):∃v w,vs=[v,w]/\B4 K H v d/\B4 K H w e:=by
 cases h with
 |cons h t =>
  obtain⟨w,rfl,hw⟩:=t.one;exact⟨_,w,rfl,h,hw⟩
noncomputable def V0:D->String
 | .Ax => "NoneType"
 | .bl _ => "bool"
 | .int _ => "int"
 | .str _ => "str"
 | .tup _ => "tuple"
 | .lst _ => "list"
 | .C9 _ => "NoneType"
 | .B0 _ _ _ => "dict"
 | .ins _ _ _ => "NoneType"
noncomputable def Cs (T:String)(d:D):Bool:=(V0 d==T)||(V0 d == "bool" && T == "int")
noncomputable def Dg (T:String)(d:D):M D:=match d with
 | .C9 _| .ins _ _ _=>.bad
 |d=>.ok (.bl (Cs T d))
noncomputable def VT:D->Bool
 | .C9 _| .ins _ _ _=>true
 |_=>false
theorem OV {T:String}{d:D}(h:VT d=false):Dg T d=.ok (.bl (Cs T d)):=by cases d<;>first | rfl | cases h
def Xl (K:za)(T:String):List V->Hp->VK->Prop:=λ xs H Q=>∃x d,xs=[x,.ty T]/\B4 K H x d/\VT d=false/\Q (.bl (Cs T d)) H
theorem OW {T:String}(hk:∀d:D,PySem.W.kitOne X.K (.type (V0 d)) (.type T)=some (Cs T d)):FK X (.builtin "isinstance") (Xl X.K T):=by
 intro pins s σ H xs us Q I r h;obtain⟨x,d,rfl,hd,hx,q⟩:=h;obtain⟨u,w,rfl,rx,aI⟩:=r.two;cases aI;have fin:∀tk,EP X pins σ Q (.bool (Cs T d)) {s with toks:=tk}:=λ tk=>⟨.bl _,H,I.tok tk,rfl,q⟩;have e:=hk d;cases hd with
 |C9 _ _|ins _ _ _=>cases hx
 |E8 hs hl =>
  cases rx;obtain⟨⟨o,h1,h2⟩,_,_⟩:=ON I (.inl ⟨_,hs⟩);exact yl PySem.W.kitx_dict I.Mw ⟨o,h1,h2⟩ e (λ z=>nomatch z) fin
 |DL hs hl =>
  cases rx;obtain⟨⟨o,h1,h2⟩,_,_⟩:=ON I (.inr ⟨_,hs⟩);exact yl PySem.W.kitx_dict I.Mw ⟨o,h1,h2⟩ e (λ z=>nomatch z) fin
 |Ax=>cases rx;exact yl PySem.W.kitx_none I.Mw True.intro e (λ z=>nomatch z) fin
 |bl b=>cases rx;exact yl PySem.W.kitx_bool I.Mw True.intro e (λ z=>nomatch z) fin
 |int b=>obtain⟨t,rfl⟩:=rx;exact yl PySem.W.kitx_int I.Mw True.intro e (λ z=>nomatch z) fin
 |str b=>obtain⟨t,rfl⟩:=rx;exact yl PySem.W.kitx_str I.Mw True.intro e (λ z=>nomatch z) fin
 |tup hs hl =>
  cases rx;obtain⟨_,_,⟨o,h1,h2,_⟩,_⟩:=I.tuple (.of hs);exact yl PySem.W.kitx_tuple I.Mw ⟨o,h1,h2⟩ e (λ z=>nomatch z) fin
 |lst hs hl =>
  cases rx;obtain⟨_,_,⟨o,n,h1,h2,_⟩,_⟩:=I.list hs;exact yl PySem.W.kitx_list I.Mw ⟨o,h1,h2⟩ e (λ z=>nomatch z) fin
theorem OX {T:String}{x2:Str}{p2:Pos}(hk:∀d:D,PySem.W.kitOne X.K (.type (V0 d)) (.type T)=some (Cs T d))(hg:Gl X "isinstance")(hm:X.mg "isinstance" = none)(ig:Gl X x2)(b6:X.mg x2=none)(ii:bootBuiltins x2=some (.type T))(ha:DE X WX c e f)
 (hb:bootBuiltins "isinstance" = some (.builtin "isinstance"):=by decide +kernel) (ao:x2 ≠ "__name__" := by decide) (dZ:(x2==("__debug__" : Str))=false:=by decide) (hs:starEach [e,.Name x2 p2] X.env=(false,eval e X.env)::starEach [.Name x2 p2] X.env:=by rfl) (bO:starEach [.Name x2 p2] X.env=[(false,eval (.Name x2 p2) X.env)]:=by rfl)
 (hpl:(backTo pos (starEach [.Name x2 p2] X.env)).any (·.1)=false:=by rfl):
 DE X WX c (.Call (.Name "isinstance" p) [e,.Name x2 p2] [] pos) (λ ρ=>(f ρ).bind λ d=>Dg T d):=by
 obtain⟨ta,a1,a2⟩:=ha;refine⟨_,Kv (OW hk) hg hm hb (BF a1 (BF (QN (v:=.ty T) ig b6 ii rfl ao dZ) D7 bO) hs) (by decide) (by decide) hs hpl,λ P0 P σ H Q ρ E h=>?_⟩;dsimp only at h;refine a2 P0 P σ H _ ρ E ?_;cases q:f ρ with
 |bad|ex x=>rw[q] at h;exact h
 |ok d =>
  rw[q] at h;simp only[M.Aa] at h;cases hx:VT d with
  |true=>cases d<;>first|exact h.elim|cases hx
  |false =>
   rw[OV hx] at h;exact λ v H1 s1 hv=>⟨v,d,rfl,hv.mono Cq,hx,h _ H1 s1 (.bl _)⟩
theorem Nt (K:za)(d:D):PySem.W.kitOne K (.type (V0 d)) (.type "bool")=some (Cs "bool" d):=by cases d<;>rfl
noncomputable def Sk (lo hi:Option Int)(d:D):M D:=match d with
 | .lst ds=>.ok (.lst ((ds.drop (HT.Gv ds.length 0 lo)).take (HT.Gv ds.length ds.length hi-HT.Gv ds.length 0 lo)))
 |_=>.bad
def DO (X:Cx)(WX:Str->Hp->Prop)(c:Bool)(e:Option Expr)(f:A8->M (Option Int)):Prop:=
 ∃t,PO X e t/\∀P0 P σ H Q ρ,Ae X.K P0 P H σ ρ->(match f ρ with | .ok o=>∀H',Ab H H'->Q o H' | .ex x=>∀H',Ab H H'->WX x H' | .bad=>False)->t σ H Q
theorem EH:DO X WX c none (λ _=>.ok none):=⟨_,R3,λ P0 P σ H Q ρ E h=>h H (Ab.refl H)⟩
noncomputable def XQ (d:D):M (Option Int):=match d with | .int i=>.ok (some i) | _=>.bad
theorem CH (ha:DE X WX c e f):DO X WX c (some e) (λ ρ=>(f ρ).bind XQ):=by
 obtain⟨ta,a1,a2⟩:=ha;refine⟨_,R4 a1,λ P0 P σ H Q ρ E h=>?_⟩;dsimp only at h;refine a2 P0 P σ H _ ρ E ?_;cases q:f ρ with
 |bad|ex x=>rw[q] at h;exact h
 |ok d =>
  rw[q] at h;cases d with
  |int i=>exact λ v H1 s1 hv=>⟨i,hv.int_inv,h H1 s1⟩
  |_=>exact h.elim
end
inductive Out where
 |ret (d:D)|next (ρ:A8)|brk (ρ:A8)|cont (ρ:A8)|Bm (c:Cl)|C7 (t:OT) (ρ:A8)
def Tr (P0 P:Addr->Prop)(H:Hp)(P':Addr->Prop)(H':Hp):Prop:=Ab (del H P) (del H' P')/\∀a,P0 a->H' a=H a
theorem Tr.refl {P0 P:Addr->Prop}{H:Hp}:Tr P0 P H P H:=⟨Ab.refl _,λ _ _=>rfl⟩
theorem Tr.trans {P0 P P1 P2:Addr->Prop}{H H1 H2:Hp}(a:Tr P0 P H P1 H1)(b:Tr P0 P1 H1 P2 H2):Tr P0 P H P2 H2:=⟨a.1.trans b.1,λ x h=>(b.2 x h).trans (a.2 x h)⟩
theorem Ae.tr {K:za}{P0:C6}{P:Addr->Prop}{H H':Hp}{σ:St}{ρ:A8}(E:Ae K P0 P H σ ρ)(e:Ab H H'):Tr P0 P H P H':=
 ⟨e.del,λ a h=>by obtain⟨o,q,_⟩:=E.BS a (E.sub a h);rw[e a o q,q]⟩
def gS (K:za)(WX:Str->Hp->Prop)(P0:C6)(P:Addr->Prop)(H:Hp)(Z:Ends):M Out->Prop
 | .ok (.ret d)=>∀v H' P',Tr P0 P H P' H'->B4 K (del H' P0) v d->Z.rt v H'
 | .ok (.next ρ)=>∀σ' H' P',Tr P0 P H P' H'->Ae K P0 P' H' σ' ρ->Z.nx σ' H'
 | .ok (.brk ρ)=>∀σ' H' P',Tr P0 P H P' H'->Ae K P0 P' H' σ' ρ->Z.bk σ' H'
 | .ok (.cont ρ)=>∀σ' H' P',Tr P0 P H P' H'->Ae K P0 P' H' σ' ρ->Z.ct σ' H'
 | .ok (.Bm c)=>∀v fp H' P',Tr P0 P H P' H'->(∀a,P0 a->P' a)->(∀a,P' a->Cr H' a)->Bz K H' P' c v fp->(∀a∈fp,P' a/\¬ P0 a)->fp.Nodup->Z.rt v H'
 | .ok (.C7 t ρ)=>∀v fp σ' H' P',Tr P0 P H P' H'->Ae K P0 P' H' σ' ρ->B3 K H' P' v t fp->fp.Nodup->(∀a∈fp,P' a/\¬ P0 a/\∀(j:Nat) c v' fq,ρ[j]?=some (some c)->σ'[j]?=some (some v')->Bz K H' P' c v' fq->a∉fq)->Z.rt v H'
 | .ex x=>∀H' P',Tr P0 P H P' H'->WX x H'
 | .bad=>False
theorem gS.tr {K:za}{WX:Str->Hp->Prop}{P0:C6}{P P':Addr->Prop}{H H':Hp}{Z:Ends}{m:M Out}(h:gS K WX P0 P H Z m)(t:Tr P0 P H P' H'):gS K WX P0 P' H' Z m:=by
 cases m with
 |bad=>exact h
 |ex x=>exact λ H2 P2 t2=>h H2 P2 (t.trans t2)
 |ok o =>
  cases o with
  |ret d=>exact λ v H2 P2 t2 hv=>h v H2 P2 (t.trans t2) hv
  |next ρ|brk ρ|cont ρ=>exact λ σ2 H2 P2 t2 hv=>h σ2 H2 P2 (t.trans t2) hv
  |Bm c=>exact λ v fp H2 P2 t2=>h v fp H2 P2 (t.trans t2)
  |C7 c ρ=>exact λ v fp σ2 H2 P2 t2=>h v fp σ2 H2 P2 (t.trans t2)
def DS (X:Cx)(WX:Str->Hp->Prop)(st:Stmt)(g:A8->M Out):Prop:=
 ∃t,PS X st t/\∀P0 P σ H Z ρ,Ae X.K P0 P H σ ρ->gS X.K WX P0 P H Z (g ρ)->t Z σ H
def MH (X:Cx)(WX:Str->Hp->Prop)(st:List Stmt)(g:A8->M Out):Prop:=
 ∃t,Mx X st t/\∀P0 P σ H Z ρ,Ae X.K P0 P H σ ρ->gS X.K WX P0 P H Z (g ρ)->t Z σ H
noncomputable def OY (m:M Out)(k:A8->M Out):M Out:=match m with
 | .ok (.next ρ)=>k ρ
 |m=>m
section
variable {X:Cx}{WX:Str->Hp->Prop}{c:Bool}{P0:C6}{P:Addr->Prop}{H:Hp}{σ:St}{ρ:A8}{a b e:Expr}{f g:A8->M D}{ft gt:A8->M Bool}{pos:Pos}{st:Stmt}{rest:List Stmt}{g1 g2:A8->M Out}
theorem AD:MH X WX [] (λ ρ=>.ok (.next ρ)):=⟨_,QP,λ P0 P σ H Z ρ E h=>h σ H P Tr.refl E⟩
theorem A9 (h:DS X WX st g1):MH X WX [st] g1:=let ⟨t,h1,h2⟩:=h;⟨_,QQ h1,h2⟩
theorem A7 (h:DS X WX st g1)(hr:MH X WX rest g2):MH X WX (st::rest) (λ ρ=>OY (g1 ρ) g2):=by
 obtain⟨t,h1,h2⟩:=h;obtain⟨u,r1,r2⟩:=hr;refine⟨_,Oj h1 r1,λ P0 P σ H Z ρ E h=>?_⟩;dsimp only at h;refine h2 P0 P σ H {Z with nx:=u Z} ρ E ?_;cases q:g1 ρ with
 |bad|ex x=>rw[q] at h;exact h
 |ok o =>
  rw[q] at h;cases o with
  |ret d|brk d|cont d|Bm d|C7 d ρ2=>exact h
  |next ρ'=>exact λ σ' H' P' t E'=>r2 P0 P' σ' H' Z ρ' E' (gS.tr h t)
theorem Tx (ha:DE X WX false e f):DS X WX (.Return (some e) pos) (λ ρ=>(f ρ).bind λ d=>.ok (.ret d)):=by
 obtain⟨ta,a1,a2⟩:=ha;refine⟨_,Jl a1,λ P0 P σ H Z ρ E h=>?_⟩;dsimp only at h;refine a2 P0 P σ H _ ρ E ?_;cases q:f ρ with
 |bad=>rw[q] at h;exact h
 |ex x=>rw[q] at h;exact λ H' s=>h H' P (E.tr s)
 |ok d=>rw[q] at h;exact λ v H' s hv=>h v H' P (E.tr s) hv
theorem Bf {c:Expr}{sa sb:List Stmt}(hc:DT X WX c ft)(ha:MH X WX sa g1)(hb:MH X WX sb g2):DS X WX (.If c sa sb pos) (λ ρ=>(ft ρ).bind λ k=>if k=true then g1 ρ else g2 ρ):=by
 obtain⟨tc,c1,c2⟩:=hc;obtain⟨ta,a1,a2⟩:=ha;obtain⟨tb,b1,b2⟩:=hb;refine⟨_,Vm c1 a1 b1,λ P0 P σ H Z ρ E h=>?_⟩;dsimp only at h;refine c2 P0 P σ H _ ρ E ?_;cases q:ft ρ with
 |bad=>rw[q] at h;exact h
 |ex x=>rw[q] at h;exact λ H' s=>h H' P (E.tr s)
 |ok k =>
  rw[q] at h;intro H1 s1;cases k with
  |true =>
   simp only[M.Aa,if_true] at h ⊢;exact a2 P0 P σ H1 Z ρ (E.same s1) (h.tr (E.tr s1))
  |false =>
   simp only[M.Aa,zu,if_false] at h ⊢;exact b2 P0 P σ H1 Z ρ (E.same s1) (h.tr (E.tr s1))
theorem get_set {α:Type}{l:List α}{i j:Nat}{x y:α}(h:(l.set i x)[j]?=some y):(i=j/\i<l.length/\x=y)\/(i≠j/\l[j]?=some y):=by
 by_cases e:i=j
 ·subst e;rw[List.getElem?_set_self'] at h;cases q:l[i]? with
  |none=>rw[q] at h;cases h
  |some z =>
   rw[q] at h;exact .inl ⟨rfl,(zD.mp q).1,by simpa using h⟩
 ·rw[yc e] at h;exact .inr ⟨e,h⟩
theorem Ae.Nu {K:za}(E:Ae K P0 P H σ ρ){i:Nat}{v:V}{d:D}(hv:B4 K (del H P) v d):Ae K P0 P H (σ.set i (some v)) (ρ.set i (some (.val d))):=by
 have gs:∀ {j:Nat},i≠j->(σ.set i (some v))[j]?=σ[j]? :=λ h=>yc h;refine⟨E.sub,E.BS,λ j e h=>?_,λ j c h io=>?_,λ j k c c' u u' fp ad h1 h2 h3 h4 h5 h6 ab=>?_,by rw[List.length_set,List.length_set];exact E.len,λ j c n h hp=>?_⟩
 rotate_left 3
 ·rcases get_set h with ⟨rfl,hl,e1⟩|⟨ab,h⟩
  ·cases e1;cases hp
  ·rw[gs ab];exact E.pin j c n h hp
 ·rcases get_set h with ⟨rfl,hl,e1⟩|⟨ab,h⟩
  ·cases e1;exact⟨v,zI (by rw[E.len];exact hl),hv⟩
  ·obtain⟨w,h1,h2⟩:=E.val j e h;exact⟨w,by rw[gs ab];exact h1,h2⟩
 ·rcases get_set h with ⟨rfl,hl,e1⟩|⟨ab,h⟩
  ·cases e1;cases io
  ·obtain⟨w,fp,h1,h2⟩:=E.ows j c h io;exact⟨w,fp,by rw[gs ab];exact h1,h2⟩
 ·rcases get_set h1 with ⟨rfl,hl,e1⟩|⟨bp,h1⟩
  ·cases e1;exact h5.elim
  ·rcases get_set h2 with ⟨rfl,hl,e1⟩|⟨ao,h2⟩
   ·cases e1;exact h6.elim
   ·rw[gs bp] at h3;rw[gs ao] at h4;exact E.apart j k c c' u u' fp ad h1 h2 h3 h4 h5 h6 ab
theorem Ae.Rq {K:za}(E:Ae K P0 P H σ ρ){P':Addr->Prop}{H':Hp}{i:Nat}{v:V}{c:Cl}{fp:List Addr}(hs:∀a,P a->P' a)(ht:∀a,P' a->Cr H' a)(sm:Ab (del H P) (del H' P'))
 (keep:∀(j:Nat) c' v' ad,i≠j->ρ[j]?=some (some c')->σ[j]?=some (some v')->Bz K H P c' v' ad->∀a∈ad,H' a=H a/\a∉fp)
 (new:Bz K H' P' c v fp) (hp:∀a∈fp,P' a/\¬ P0 a) (nd:fp.Nodup) (bP:∀n,IW c=some n->v=.ref (P0.g n):=by intro n z;cases z):Ae K P0 P' H' (σ.set i (some v)) (ρ.set i (some c)):=by
 have gs:∀ {j:Nat},i≠j->(σ.set i (some v))[j]?=σ[j]? :=λ h=>yc h;refine⟨λ a h=>hs a (E.sub a h),ht,λ j e h=>?_,λ j c' h io=>?_,λ j k c1 c2 u u' ak aM h1 h2 h3 h4 h5 h6 ab=>?_,by rw[List.length_set,List.length_set];exact E.len,λ j c' n h hp=>?_⟩
 rotate_left 3
 ·rcases get_set h with ⟨rfl,hl,e1⟩|⟨ab,h⟩
  ·cases e1;rw[zI (by rw[E.len];exact hl),bP n hp]
  ·rw[gs ab];exact E.pin j c' n h hp
 ·rcases get_set h with ⟨rfl,hl,e1⟩|⟨ab,h⟩
  ·cases e1;exact new.elim
  ·obtain⟨w,h1,h2⟩:=E.val j e h;exact⟨w,by rw[gs ab];exact h1,h2.mono sm⟩
 ·rcases get_set h with ⟨rfl,hl,e1⟩|⟨ab,h⟩
  ·cases e1;exact⟨v,fp,zI (by rw[E.len];exact hl),new,hp,nd⟩
  ·obtain⟨w,fq,h1,h2,h3,h4⟩:=E.ows j c' h io;exact⟨w,fq,by rw[gs ab];exact h1,h2.move sm λ a ha=>(keep j c' w fq ab h h1 h2 a ha).1,λ a ha=>⟨hs a (h3 a ha).1,(h3 a ha).2⟩,h4⟩
 ·have back:∀(l:Nat) (d:Cl) (w:V) (fq:List Addr),i≠l->ρ[l]?=some (some d)->σ[l]?=some (some w)->Bz K H' P' d w fq->∃fr,Bz K H P d w fr/\fr=fq:=λ l d w fq hn hk sk ho=>by
   have io:Dd d=true:=by cases d<;>first|rfl|exact ho.elim
   obtain⟨w',aM,s2,o2,_⟩:=E.ows l d hk io;rw[sk] at s2;cases s2;exact⟨aM,o2,(o2.move sm λ a ha=>(keep l d w aM hn hk sk o2 a ha).1).Bu ho⟩
  rcases get_set h1 with ⟨rfl,hl,e1⟩|⟨bp,h1⟩
  ·cases e1;rw[zI (by rw[E.len];exact hl)] at h3;cases h3;rcases get_set h2 with ⟨e,_⟩|⟨ao,h2⟩
   ·exact (ab e).elim
   ·rw[gs ao] at h4;obtain⟨fr,o,rfl⟩:=back k c2 u' aM ao h2 h4 h6;intro a ha hb;rw[new.Bu h5] at keep;exact (keep k c2 u' fr ao h2 h4 o a hb).2 ha
  ·rw[gs bp] at h3;obtain⟨fr,o,rfl⟩:=back j c1 u ak bp h1 h3 h5;rcases get_set h2 with ⟨rfl,hl,e1⟩|⟨ao,h2⟩
   ·cases e1;rw[zI (by rw[E.len];exact hl)] at h4;cases h4;intro a ha;rw[new.Bu h6] at keep;exact (keep j c1 u fr bp h1 h3 o a ha).2
   ·rw[gs ao] at h4;obtain⟨ee,o2,rfl⟩:=back k c2 u' aM ao h2 h4 h6;exact E.apart j k c1 c2 u u' fr ee h1 h2 h3 h4 o o2 ab
theorem Ae.VU {K:za}(E:Ae K P0 P H σ ρ){P':Addr->Prop}{H':Hp}{i:Nat}{v:V}{c:Cl}{fp:List Addr}(hs:∀a,P0 a->P' a)(ht:∀a,P' a->Cr H' a)(sm:Ab (del H P) (del H' P'))
 (keep:∀(j:Nat) c' v' ad,i≠j->ρ[j]?=some (some c')->σ[j]?=some (some v')->Bz K H P c' v' ad->∀a∈ad,H' a=H a/\a∉fp/\P' a)
 (new:Bz K H' P' c v fp) (hp:∀a∈fp,P' a/\¬ P0 a) (nd:fp.Nodup) (bP:∀n,IW c=some n->v=.ref (P0.g n):=by intro n z;cases z):Ae K P0 P' H' (σ.set i (some v)) (ρ.set i (some c)):=by
 have gs:∀ {j:Nat},i≠j->(σ.set i (some v))[j]?=σ[j]? :=λ h=>yc h;refine⟨hs,ht,λ j e h=>?_,λ j c' h io=>?_,λ j k c1 c2 u u' ak aM h1 h2 h3 h4 h5 h6 ab=>?_,by rw[List.length_set,List.length_set];exact E.len,λ j c' n h hp=>?_⟩
 rotate_left 3
 ·rcases get_set h with ⟨rfl,hl,e1⟩|⟨ab,h⟩
  ·cases e1;rw[zI (by rw[E.len];exact hl),bP n hp]
  ·rw[gs ab];exact E.pin j c' n h hp
 ·rcases get_set h with ⟨rfl,hl,e1⟩|⟨ab,h⟩
  ·cases e1;exact new.elim
  ·obtain⟨w,h1,h2⟩:=E.val j e h;exact⟨w,by rw[gs ab];exact h1,h2.mono sm⟩
 ·rcases get_set h with ⟨rfl,hl,e1⟩|⟨ab,h⟩
  ·cases e1;exact⟨v,fp,zI (by rw[E.len];exact hl),new,hp,nd⟩
  ·obtain⟨w,fq,h1,h2,h3,h4⟩:=E.ows j c' h io;exact⟨w,fq,by rw[gs ab];exact h1,h2.move sm λ a ha=>(keep j c' w fq ab h h1 h2 a ha).1,λ a ha=>⟨(keep j c' w fq ab h h1 h2 a ha).2.2,(h3 a ha).2⟩,h4⟩
 ·have back:∀(l:Nat) (d:Cl) (w:V) (fq:List Addr),i≠l->ρ[l]?=some (some d)->σ[l]?=some (some w)->Bz K H' P' d w fq->∃fr,Bz K H P d w fr/\fr=fq:=λ l d w fq hn hk sk ho=>by
   have io:Dd d=true:=by cases d<;>first|rfl|exact ho.elim
   obtain⟨w',aM,s2,o2,_⟩:=E.ows l d hk io;rw[sk] at s2;cases s2;exact⟨aM,o2,(o2.move sm λ a ha=>(keep l d w aM hn hk sk o2 a ha).1).Bu ho⟩
  rcases get_set h1 with ⟨rfl,hl,e1⟩|⟨bp,h1⟩
  ·cases e1;rw[zI (by rw[E.len];exact hl)] at h3;cases h3;rcases get_set h2 with ⟨e,_⟩|⟨ao,h2⟩
   ·exact (ab e).elim
   ·rw[gs ao] at h4;obtain⟨fr,o,rfl⟩:=back k c2 u' aM ao h2 h4 h6;intro a ha hb;rw[new.Bu h5] at keep;exact (keep k c2 u' fr ao h2 h4 o a hb).2.1 ha
  ·rw[gs bp] at h3;obtain⟨fr,o,rfl⟩:=back j c1 u ak bp h1 h3 h5;rcases get_set h2 with ⟨rfl,hl,e1⟩|⟨ao,h2⟩
   ·cases e1;rw[zI (by rw[E.len];exact hl)] at h4;cases h4;intro a ha;rw[new.Bu h6] at keep;exact (keep j c1 u fr bp h1 h3 o a ha).2.1
   ·rw[gs ao] at h4;obtain⟨ee,o2,rfl⟩:=back k c2 u' aM ao h2 h4 h6;exact E.apart j k c1 c2 u u' fr ee h1 h2 h3 h4 o o2 ab
theorem Jz {α:Type}:∀ {l:List α}{i:Nat}{x:α},l[i]?=some x->l.set i x=l
 |[],_,_,h=>by cases h
 |y::r,0,x,h=>by cases h;rfl
 |y::r,i+1,x,h=>by rw[zy,Jz (by simpa using h)]
theorem Ae.mut {K:za}(E:Ae K P0 P H σ ρ){i p:Nat}{xs:List V}{ds ef:List D}(ho:ρ[i]?=some (some (.own ds)))(hs:σ[i]?=some (some (.ref p)))(pP:P p)(fX:¬ P0 p)(hx:Ac K (del H P) xs ef):
 Ae K P0 P (upd H p (.lst xs)) σ (ρ.set i (some (.own ef)))/\Tr P0 P H P (upd H p (.lst xs)):=by
 have sd:del (upd H p (.lst xs)) P=del H P:=by
  funext b;by_cases hb:P b
  ·rw[Eg hb,Eg hb]
  ·rw[Aj hb,Aj hb,A5 (λ z=>hb (by rw[z];exact pP))]
 have sm:Ab (del H P) (del (upd H p (.lst xs)) P):=by rw[sd];exact Ab.refl _
 obtain⟨v,fp,s1,o1,_⟩:=E.ows i _ ho rfl;rw[hs] at s1;cases s1;have key:=E.Rq (P':=P) (H':=upd H p (.lst xs)) (i:=i) (v:=.ref p) (c:=.own ef) (fp:=[p]) (λ a h=>h) (λ a h=>?_) sm (λ j c' v' ad ab h1 h2 h3 a ha=>?_) ⟨p,xs,rfl,rfl,Ad,by rw[sd];exact hx⟩ (λ a ha=>by rw[zj.mp ha];exact⟨pP,fX⟩) (by simp)
 ·rw[Jz hs] at key;exact⟨key,sm,λ a h=>by rw[A5 (λ z=>fX (by rw[<-z];exact h))]⟩
 ·by_cases ha:a=p
  ·subst ha;exact Cr.lst Ad
  ·unfold Cr;rw[A5 ha];exact E.BS a h
 ·obtain⟨p',b5,e,rfl,_⟩:=o1;cases e;have hn:a≠p:=λ z=>E.apart j i c' _ v' _ ad [p] h1 ho h2 hs h3 ⟨p,b5,rfl,rfl,by assumption⟩ (zQ ab) a ha (by rw[z];exact zj.mpr rfl);exact⟨A5 hn,λ z=>hn (zj.mp z)⟩
theorem Az (i:Nat){x:Str}{pos':Pos}(hN:X.N.Nodup)(hi:X.N[i]?=some x)(hx:Loc X.env.scope x)(ha:DE X WX true e f)(hs:swapsWith e (some (.Name x pos')) pos.line X.env=pure false:=by rfl)(hf:X.fn x=true\/X.env.scope.names.lookup x=some .local:=by first | exact .inl rfl | exact .inr rfl | assumption):
 DS X WX (.Assign [.Name x pos'] e pos) (λ ρ=>(f ρ).bind λ d=>.ok (.next (ρ.set i (some (.val d))))):=by
 obtain⟨ta,a1,a2⟩:=ha;refine⟨_,LF hN hi hx a1 hs hf,λ P0 P σ H Z ρ E h=>?_⟩;dsimp only at h;refine a2 P0 P σ H _ ρ E ?_;cases q:f ρ with
 |bad=>rw[q] at h;exact h
 |ex x=>rw[q] at h;exact λ H' s=>h H' P (E.tr s)
 |ok d=>rw[q] at h;exact λ v H' s hv=>h _ H' P (E.tr s) ((E.same s).Nu hv)
noncomputable def Rr (i:Nat)(ρ:A8)(m:M D):M Out:=match ρ[i]? with
 |some (some (.own ds))=>m.bind λ d=>if ds.length<1000 then .ok (.next (ρ.set i (some (.own (ds++[d]))))) else .bad
 |_=>.bad
end
def gG (K:za)(P0:C6)(P:Addr->Prop)(H:Hp)(Q:St->Hp->Prop):M A8->Prop
 | .ok ρ=>∀σ',Ae K P0 P H σ' ρ->Q σ' H
 |_=>False
def DG (X:Cx)(tg:Expr)(gt:D->A8->M A8):Prop:=
 ∃g:TG,PG X tg g/\∀P0 P σ H Q ρ v d,Ae X.K P0 P H σ ρ->B4 X.K (del H P) v d->gG X.K P0 P H Q (gt d ρ)->g v σ H Q
def WA (X:Cx)(ij:List Expr)(gt:List D->A8->M A8):Prop:=
 ∃g:Se,Vn X ij g/\∀P0 P σ H Q ρ v d,Ae X.K P0 P H σ ρ->Ac X.K (del H P) v d->gG X.K P0 P H Q (gt d ρ)->g v σ H Q
structure Nv (K:za)(J:It)(P:Addr->Prop)(H:Hp)(ds:List D):Prop where
 go:∀(i:Nat) P' H',Ab (del H P) (del H' P')->i<ds.length->J.go i H'
 stop:∀(i:Nat) P' H',Ab (del H P) (del H' P')->ds.length<=i->J.stop i H'
 QS:∀(i:Nat) P' H' v bQ d,Ab (del H P) (del H' P')->(∀a,P' a->Cr H' a)->ds[i]?=some d->J.QS i H' v bQ->Ab H' bQ/\B4 K (del bQ P') v d
def DI (X:Cx)(WX:Str->Hp->Prop)(tg iter:Expr)(f:A8->M (List D)):Prop:=
 ∃wi,PI X tg iter wi/\∀P0 P σ H R ρ,Ae X.K P0 P H σ ρ->(match f ρ with | .ok ds=>∀J H',Ab H H'->Nv X.K J P H' ds->R J H' | .ex x=>∀H',Ab H H'->WX x H' | .bad=>False)->wi σ H R
noncomputable def forM (gt:D->A8->M A8)(body:A8->M Out):List D->A8->M Out
 |[],ρ=>.ok (.next ρ)
 |d::r,ρ=>match gt d ρ with
  | .ok ρ1=>(match body ρ1 with
   | .ok (.next ρ2)| .ok (.cont ρ2)=>forM gt body r ρ2
   | .ok (.brk ρ2)=>.ok (.next ρ2)
   |m=>m)
  |_=>.bad
section
variable {X:Cx}{WX:Str->Hp->Prop}{c:Bool}{P0:C6}{P:Addr->Prop}{H:Hp}{σ:St}{ρ:A8}{a b e tg iter:Expr}{f g:A8->M D}{ft:A8->M Bool}{pos:Pos}{gt:D->A8->M A8}{cD:List D->A8->M A8}{gb:A8->M Out}{fi:A8->M (List D)}
theorem AI (i:Nat){x:Str}(hN:X.N.Nodup)(hi:X.N[i]?=some x)(hx:Loc X.env.scope x)(hf:X.fn x=true\/X.env.scope.names.lookup x=some .local:=by first | exact .inl rfl | exact .inr rfl | assumption):DG X (.Name x pos) (λ d ρ=>.ok (ρ.set i (some (.val d)))):=
 ⟨_,MA hN hi hx hf,λ P0 P σ H Q ρ v d E hv h=>h _ (E.Nu hv)⟩
theorem JA:WA X [] (λ ds ρ=>match ds with | []=>.ok ρ | _=>.bad):=⟨_,QR,λ P0 P σ H Q ρ v d E hv h=>by
 cases hv with
 |nil=>exact⟨rfl,h σ E⟩
 |cons _ _=>exact h.elim⟩
theorem Bg {es:List Expr}(h1:DG X e gt)(h2:WA X es cD)(hs:(assignEach (e::es) X.env).map (·.2)=assign e X.env::(assignEach es X.env).map (·.2):=by rfl):
 WA X (e::es) (λ ds ρ=>match ds with|d::r=>(gt d ρ).bind (cD r)|[]=>.bad):=by
 obtain⟨t,a1,a2⟩:=h1;obtain⟨u,b1,b2⟩:=h2;refine⟨_,Ol a1 b1 hs,λ P0 P σ H Q ρ v d E hv h=>?_⟩;cases hv with
 |nil=>exact h.elim
 | @cons x d xs ds hx b7 =>
  refine⟨x,xs,rfl,a2 P0 P σ H _ ρ x d E hx ?_⟩;dsimp only at h;cases q:gt d ρ with
  |bad|ex y=>rw[q] at h;exact h
  |ok ρ1=>rw[q] at h;exact λ σ' E'=>b2 P0 P σ' H Q ρ1 xs ds E' b7 h
theorem LP {es:List Expr}{k n:Nat}(hc:X.calm=true)(h:WA X es cD)(hn:(assignEach es X.env).length=n:=by rfl)(ci:(assignEach es X.env).findIdx? (·.1)=none:=by rfl):
 DG X (.Tuple es k pos) (λ d ρ=>match d with | .tup ds=>if ds.length=n then cD ds ρ else .bad|_=>.bad):=by
 obtain⟨t,a1,a2⟩:=h;refine⟨_,SU hc a1 hn ci,λ P0 P σ H Q ρ v d E hv h=>?_⟩;cases hv with
 | @tup a xs ds hs hl =>
  dsimp only at h;by_cases hd:ds.length=n
  ·rw[if_pos hd] at h;exact⟨a,xs,rfl,IH.of (Ag hs).2,by rw[hl.length];exact hd,a2 P0 P σ H Q ρ xs ds E hl h⟩
  ·rw[if_neg hd] at h;exact h.elim
 |_=>exact h.elim
theorem BG (ha:DE X WX true e f):DI X WX tg e (λ ρ=>(f ρ).bind λ d=>match d with | .lst ds=>.ok ds | _=>.bad):=by
 obtain⟨ta,a1,a2⟩:=ha;refine⟨_,QT a1,λ P0 P σ H R ρ E h=>?_⟩;dsimp only at h;refine a2 P0 P σ H _ ρ E ?_;cases q:f ρ with
 |bad|ex x=>rw[q] at h;exact h
 |ok d =>
  rw[q] at h;cases d with
  |lst ds =>
   intro v H1 s1 hv;cases hv with
   | @lst a xs _ hs hl =>
    refine⟨a,rfl,⟨xs,hs.B9⟩,h _ H1 s1 ⟨λ i P' H' s hi=>?_,λ i P' H' s hi=>?_,λ i P' H' v bQ d s ht hd y=>?_⟩⟩
    ·obtain⟨x,hx,_⟩:=hl.get (zr hi);exact⟨xs,x,(s.seq hs).B9,hx⟩
    ·exact⟨xs,(s.seq hs).B9,by rw[hl.length];exact hi⟩
    ·obtain⟨rfl,y⟩:=y;obtain⟨x,hx,aB⟩:=hl.get hd;have e:=y xs (s.seq hs).B9;rw[hx] at e;cases e;exact⟨Ab.refl _,aB.mono s⟩
  |_=>exact h.elim
noncomputable def Ce (lo:Int):Nat->List D
 |0=>[]
 |n+1=>.int lo::Ce (lo+1) n
theorem CI (lo:Int):∀n:Nat,(Ce lo n).length=n:=by
 intro n;induction n generalizing lo with
 |zero=>rfl
 |succ n ih=>rw[Ce,zp,ih]
theorem GJ {lo:Int}{n i:Nat}{d:D}(h:(Ce lo n)[i]?=some d):d=.int (lo+i)/\i<n:=by
 have hi:i<n:=by
  have:=(zD.mp h).1;rw[CI] at this;exact this
 refine⟨?_,hi⟩;induction n generalizing lo i with
 |zero=>omega
 |succ n ih =>
  cases i with
  |zero=>rw[Ce] at h;simp at h;rw[<-h];simp
  |succ i =>
   rw[Ce,zK] at h;rw[ih h (by omega)];congr 1;omega
theorem LQ {K:za}{P:Addr->Prop}{H:Hp}(lo:Int)(n:Nat):Nv K (Ww lo n) P H (Ce lo n):=
 ⟨λ i P' H' _ hi=>by rw[CI] at hi;exact hi,λ i P' H' _ hi=>by rw[CI] at hi;exact hi,λ i P' H' v bQ d _ _ hd y=>by
  obtain⟨rfl,rfl⟩:=y;obtain⟨rfl,_⟩:=GJ hd;exact⟨Ab.refl _,.int _⟩⟩
noncomputable def Rt:D->M (List D)
 | .int j=>@ite _ (-(2^62)<=j/\j<2^62) (Classical.propDecidable _) (.ok (Ce 0 j.toNat)) .bad
 |_=>.bad
theorem KP {j:Int}(h1 : -(2^62)<=j)(h2:j<2^62):Rt (.int j)=.ok (Ce 0 j.toNat):=if_pos ⟨h1,h2⟩
theorem OZ {n:Nat}(h:n<=1000):Rt (.int (n:Int))=.ok (Ce 0 n):=by
 rw[KP (by omega) (by omega),Int.toNat_natCast]
theorem Nw {p:Pos}(hg:Gl X "range")(hm:X.mg "range" = none)(ha:DE X WX c a f)(hs:starEach [a] X.env=[(false,eval a X.env)]:=by rfl):
 DI X WX tg (.Call (.Name "range" p) [a] [] pos) (λ ρ=>(f ρ).bind Rt):=by
 obtain⟨ta,a1,a2⟩:=ha;refine⟨_,Ng hg hm (BF a1 D7 hs) hs,λ P0 P σ H R ρ E h=>?_⟩;dsimp only at h;refine a2 P0 P σ H _ ρ E ?_;cases q:f ρ with
 |bad|ex x=>rw[q] at h;exact h
 |ok d =>
  rw[q] at h;cases d with
  |int j =>
   simp only[M.Aa] at h;by_cases hj : -(2^62)<=j/\j<2^62
   ·rw[KP hj.1 hj.2] at h;exact λ v H1 s1 hv=>⟨j,by rw[hv.int_inv],hj.1,hj.2,h _ H1 s1 (LQ 0 _)⟩
   ·have e:Rt (.int j)=.bad:=if_neg hj;rw[e] at h;exact h.elim
  |_=>exact h.elim
noncomputable def FN (k:Nat):List D->List D
 |[]=>[]
 |d::r=>.tup [.int k,d]::FN (k+1) r
theorem Fc (k:Nat)(ds:List D):(FN k ds).length=ds.length:=by
 induction ds generalizing k with
 |nil=>rfl
 |cons d r ih=>rw[FN,zp,zp,ih]
theorem IZ {k i:Nat}{ds:List D}{e:D}(h:(FN k ds)[i]?=some e):∃d,ds[i]?=some d/\e=.tup [.int ((k+i:Nat):Int),d]:=by
 induction ds generalizing k i with
 |nil=>rw[FN] at h;simp at h
 |cons d r ih =>
  cases i with
  |zero=>rw[FN] at h;simp at h;exact⟨d,rfl,by rw[<-h];rfl⟩
  |succ i =>
   rw[FN,zK] at h;obtain⟨d',h1,h2⟩:=ih h;refine⟨d',by simpa using h1,?_⟩;rw[h2];congr 3;omega
theorem Ru {aV:List Expr}{x1}{aJ p:Pos}(hg:Gl X "enumerate")(hm:X.mg "enumerate" = none)(ha:DE X WX true a f)(hb:bootBuiltins "enumerate" = some (.type "enumerate"):=by decide +kernel)(hs:starEach [a] X.env=[(false,eval a X.env)]:=by rfl):
 DI X WX (.Tuple aV x1 aJ) (.Call (.Name "enumerate" p) [a] [] pos) (λ ρ=>(f ρ).bind λ d=>match d with | .lst ds=>.ok (FN 0 ds)|_=>.bad):=by
 obtain⟨ta,a1,a2⟩:=ha;refine⟨_,Rm hg hm (BF a1 D7 hs) hb hs,λ P0 P σ H R ρ E h=>?_⟩;dsimp only at h;refine a2 P0 P σ H _ ρ E ?_;cases q:f ρ with
 |bad|ex x=>rw[q] at h;exact h
 |ok d =>
  rw[q] at h;cases d with
  |lst ds =>
   intro v H1 s1 hv;cases hv with
   | @lst a xs _ hs hl =>
    refine⟨a,rfl,⟨xs,hs.B9⟩,h _ H1 s1 ⟨λ i P' H' s hi=>?_,λ i P' H' s hi=>?_,λ i P' H' v bQ d s ht hd y=>?_⟩⟩
    ·rw[Fc] at hi;obtain⟨x,hx,_⟩:=hl.get (zr hi);exact⟨xs,x,(s.seq hs).B9,hx⟩
    ·rw[Fc] at hi;exact⟨xs,(s.seq hs).B9,by rw[hl.length];exact hi⟩
    ·obtain⟨p,x,hn,rfl,y,rfl⟩:=y;obtain⟨d',cn,rfl⟩:=IZ hd;obtain⟨x',hx,aB⟩:=hl.get cn;have e:=y xs (s.seq hs).B9;rw[hx] at e;cases e;refine⟨Ay hn _,.tup (EG hn ht) (.cons ?_ (.cons ((aB.mono s).mono (Ay hn _).del) .nil))⟩;rw[Nat.zero_add];exact .int _
  |_=>exact h.elim
theorem Dh {α:Type}{l:List α}{i:Nat}(h:i<l.length):l.drop i=l[i]::l.drop (i+1):=y2 h
theorem Cf {body:List Stmt}(hp:PassesOwn (model X.prog X.w) X.A X.env X.xe)(hc:X.calm=true)(hi:DI X WX tg iter fi)(hg:DG X tg gt)(hb:MH X WX body gb)(hs:∀x,foldedSetIterable iter X.env x=pure x:=by intro _;rfl):
 DS X WX (.For tg iter body [] pos) (λ ρ=>(fi ρ).bind λ ds=>forM gt gb ds ρ):=by
 obtain⟨wi,i1,i2⟩:=hi;obtain⟨t,a1,a2⟩:=hg;obtain⟨tb,b1,b2⟩:=hb;refine⟨_,Ou hp hc i1 a1 b1 hs,λ P0 P σ H Z ρ E h=>?_⟩;dsimp only at h;refine i2 P0 P σ H _ ρ E ?_;cases q:fi ρ with
 |bad=>rw[q] at h;exact h
 |ex x=>rw[q] at h;exact λ H' s=>h H' P (E.tr s)
 |ok ds =>
  rw[q] at h;simp only[M.Aa] at h;intro J H1 s1 ok;refine⟨λ i m σ' H'=>m=ds.length-i/\i<=ds.length/\∃P' ρ',Tr P0 P H1 P' H'/\Ae X.K P0 P' H' σ' ρ'/\gS X.K WX P0 P' H' Z (forM gt gb (ds.drop i) ρ'),
   ⟨ds.length,by simp,zT _,P,ρ,Tr.refl,E.same s1,by rw[List.drop_zero];exact h.tr (E.tr s1)⟩,?_⟩
  rintro i m σ' H' ⟨rfl,hi,P',ρ',t',E',g'⟩;by_cases ag:i<ds.length
  ·refine .inr ⟨ok.go i P' H' t'.1 ag,λ σ2 H2=>i+1<=ds.length/\∃P2 ρ2,Tr P0 P H1 P2 H2/\Ae X.K P0 P2 H2 σ2 ρ2/\gS X.K WX P0 P2 H2 Z (forM gt gb (ds.drop (i+1)) ρ2),λ σ2 H2 hq=>⟨ds.length-(i+1),by omega,rfl,hq.1,hq.2⟩,λ v H2 y=>?_⟩;obtain⟨s2,hv⟩:=ok.QS i P' H' v H2 ds[i] t'.1 E'.BS (zr ag) y;rw[Dh ag,forM] at g';have E2:=E'.same s2;refine a2 P0 P' σ' H2 _ ρ' v ds[i] E2 hv ?_;cases q1:gt ds[i] ρ' with
   |bad=>rw[q1] at g';exact g'
   |ex x=>rw[q1] at g';exact g'.elim
   |ok ρ1 =>
    rw[q1] at g';dsimp only at g';intro σ3 E3;refine b2 P0 P' σ3 H2 _ ρ1 E3 ?_;have tt:Tr P0 P H1 P' H2:=t'.trans (E'.tr s2);cases q2:gb ρ1 with
    |bad=>rw[q2] at g';exact g'
    |ex x=>rw[q2] at g';exact gS.tr (m:=.ex x) g' (E'.tr s2)
    |ok o =>
     rw[q2] at g';cases o with
     |ret d=>exact gS.tr (m:=.ok (.ret d)) g' (E'.tr s2)
     |Bm d=>exact gS.tr (m:=.ok (.Bm d)) g' (E'.tr s2)
     |C7 d ρ2=>exact gS.tr (m:=.ok (.C7 d ρ2)) g' (E'.tr s2)
     |next ρ2|cont ρ2=>exact λ σ4 H4 P4 t4 E4=>⟨ag,P4,ρ2,tt.trans t4,E4,gS.tr g' ((E'.tr s2).trans t4)⟩
     |brk ρ2=>exact λ σ4 H4 P4 t4 E4=>g' σ4 H4 P4 ((E'.tr s2).trans t4) E4
  ·have e:i=ds.length:=by omega
   subst e;refine .inl ⟨ok.stop _ P' H' t'.1 (zm _),?_⟩;rw[y7,forM] at g';exact g' σ' H' P' Tr.refl E'
end
noncomputable def LR (K:za)(n:Nat)(F:List D->M D):Sp:=λ vs H Q _=>vs.length=n/\∃P ds,(∀a,P a->Cr H a)/\Ac K (del H P) vs ds/\gV K (λ _ _=>False) P H Q (F ds)
noncomputable def Ba (N:List Str)(ds:List D):A8:=ds.map (λ d=>some (.val d))++List.replicate (N.length-ds.length) none
noncomputable def Xm:Cl->M D
 | .val d=>.ok d
 | .own ds=>.ok (.lst ds)
 | .ow (.rows D4)=>.ok (.lst (D4.map D.lst))
 | .ow (.G5 _ _)=>.bad
 | .ow (.tree _ t)=>.ok (er t)
noncomputable def fin (m:M Out):M D:=match m with
 | .ok (.ret d)=>.ok d
 | .ok (.Bm c)=>Xm c
 | .ok (.next _)=>.ok .Ax
 |_=>.bad
theorem J0 {K:za}{P:Addr->Prop}{H:Hp}{N:List Str}{vs:List V}{ds:List D}(ht:∀a,P a->Cr H a)(h:Ac K (del H P) vs ds):Ae K ⟨P,λ _=>0⟩ P H (start N vs) (Ba N ds):=by
 have hl:=h.length;have key:∀(i:Nat) (c:Cl),(Ba N ds)[i]?=some (some c)->∃d,ds[i]?=some d/\c=.val d:=λ i c e=>by
  unfold Ba at e;by_cases hi:i<ds.length
  ·rw[zZ (by simpa using hi),zF] at e;cases q:ds[i]? with
   |none=>rw[q] at e;cases e
   |some d=>rw[q] at e;cases e;exact⟨d,rfl,rfl⟩
  ·rw[yg (by simpa using hi),List.getElem?_replicate] at e;split at e<;>cases e
 refine⟨λ _ h=>h,ht,λ i d e=>?_,λ i es e io=>?_,λ i j c c' v v' fp ad e _ _ _ ho _ _=>?_,?_,λ i c n e hp=>?_⟩
 rotate_left 4
 ·obtain⟨d',q,z⟩:=key i _ e;cases z;cases hp
 ·obtain⟨d',q,z⟩:=key i _ e;cases z;obtain⟨v,hv,hd⟩:=h.get q;refine⟨v,?_,hd⟩;unfold start;rw[zZ (by rw[zf];exact (zD.mp hv).1),zF,hv];rfl
 ·obtain⟨d',q,z⟩:=key i _ e;cases z;cases io
 ·obtain⟨d',q,z⟩:=key i _ e;cases z;exact ho.elim
 ·unfold start Ba;simp[hl]
theorem BU {P:Addr->Prop}{H H':Hp}{P':Addr->Prop}(t:Tr P P H P' H'):Ab H H':=λ b o e=>by
 by_cases hb:P b
 ·rw[t.2 b hb];exact e
 ·exact (Ag (t.1 b o (by rw[Aj hb];exact e))).2
theorem Bv.Tz {K:za}{H:Hp}{P P0:Addr->Prop}(hs:∀a,P0 a->P a):∀ {ps:List Addr}{D4:List (List D)},(∀a∈ps,¬ P0 a)->Bv K H P ps D4->Ac K (del H P0) (ps.map V.ref) (D4.map D.lst)
 |_,_,_,.nil=>.nil
 |_,_,k,.cons h r t=>.cons (.lst (.of (show del H P0 _=_ by rw[Aj (k _ zb)];exact h)) (r.mono (Bt hs))) (Bv.Tz hs (λ a ha=>k a (zd _ ha)) t)
theorem Rv {K:za}{WX:Str->Hp->Prop}{P P2:Addr->Prop}{H H':Hp}{Q:VK}{c:Cl}{v:V}{fp:List Addr}(h:gV K WX P H Q (Xm c))(t':Tr P P H P2 H')(hs:∀a,P a->P2 a)(ht:∀a,P2 a->Cr H' a)(ho:Bz K H' P2 c v fp)(hp:∀a∈fp,P2 a/\¬ P a):Q v H':=by
 cases c with
 |val d=>exact ho.elim
 |own ds =>
  obtain⟨p,xs,rfl,rfl,h1,h2⟩:=ho;exact h _ H' (BU t') (.lst (.of (show del H' P p=_ by rw[Aj (hp p zb).2];exact h1)) (h2.mono (Bt hs)))
 |ow o =>
  cases o with
  |rows D4 =>
   obtain⟨p,ps,rfl,rfl,h1,h2⟩:=ho;exact h _ H' (BU t') (.lst (.of (show del H' P p=_ by rw[Aj (hp p zb).2];exact h1)) (h2.Tz hs λ a ha=>(hp a (zd _ ha)).2))
  |G5 p ds=>exact h.elim
  |tree p t=>exact h _ H' (BU t') (B3.has hs (λ a ha=>(hp a ha).2) ho)
section
variable {P:Program}{w:World}{K:za}{mg:Str->Option Value}{base:Heap}
theorem VW {x qual:Str}{st:Stmt}{f:Addr}{fd:FuncData}{N ps:List Str}{k:Nat}(F:O6 K x qual st f fd)(S:Au N ps (A4 st))(g:A8->M Out)
 (hb:∀(Bk:Value) (A:Around) (outer:List Env) (s:Shared) (H:Hp) (E:XK),BI k (A.deeper (envOfC qual (A4 st) s.heap.objs.size f Bk))->MH (FV Ra P w K mg base N qual (A4 st) f Bk A outer s H E).Vj (λ _ _=>False) (AB st) g):
 E6 P w K mg base Ra (k+1) f fd ps (LR K ps.length λ ds=>fin (g (Ba N ds))):=by
 refine F.ok S (λ vs H Q E h=>h.1) λ Bk A outer s H vs Q E hr h=>?_;obtain⟨hl,P',ds,ht,hv,hq⟩:=h;obtain⟨t,h1,h2⟩:=hb Bk A outer s H E hr;refine⟨t,h1,h2 ⟨P',λ _=>0⟩ P' _ H _ _ (J0 ht hv) ?_⟩;dsimp only at hq;revert hq;cases g (Ba N ds) with
 |bad|ex x=>exact λ h=>h.elim
 |ok o =>
  cases o with
  |ret d=>exact λ h v H' P2 t hv=>h v H' (BU t) hv
  |next ρ=>exact λ h σ' H' P2 t E=>h .Ax H' (BU t) .Ax
  |brk ρ|cont ρ=>exact λ h=>h.elim
  |Bm c=>exact λ h v fp H' P2 t hs ht ho hp nd=>Rv h t hs ht ho hp
  |C7 d ρ=>exact λ h=>h.elim
end
section
variable {X:Cx}{WX:Str->Hp->Prop}{c:Bool}{P0:C6}{P:Addr->Prop}{H:Hp}{σ:St}{ρ:A8}{a b e tg iter:Expr}{f g:A8->M D}{ft:A8->M Bool}{pos:Pos}{gt:D->A8->M A8}{fi:A8->M (List D)}{es:List Expr}{fs:A8->M (List D)}
noncomputable def AU (μ:List (Option Nat))(ρ:A8):A8:=μ.map λ o=>o.bind λ i=>match ρ[i]? with | some (some (.val d))=>some (.val d) | _=>none
theorem DQ {μ:List (Option Nat)}{ρ:A8}{j:Nat}{cl:Cl}(h:(AU μ ρ)[j]?=some (some cl)):∃i d,μ[j]?=some (some i)/\ρ[i]?=some (some (.val d))/\cl=.val d:=by
 unfold AU at h;rw[zF] at h;cases q:μ[j]? with
 |none=>rw[q] at h;cases h
 |some o =>
  rw[q] at h;cases o with
  |none=>cases h
  |some i =>
   simp only[zY,Option.bind_some,Option.some.injEq] at h;split at h
   ·rename_i d e;cases h;exact⟨i,d,rfl,e,rfl⟩
   ·cases h
theorem Ae.block {K:za}(E:Ae K P0 P H σ ρ)(μ:List (Option Nat)):Ae K P0 P H (Ee μ σ) (AU μ ρ):=by
 refine⟨E.sub,E.BS,λ j d h=>?_,λ j ds h io=>?_,λ j k c c' v v' fp ad h _ _ _ ho _ _=>?_,by unfold Ee AU;simp,λ j c n h hp=>by obtain⟨i,d',h1,h2,h3⟩:=DQ h;subst h3;cases hp⟩
 ·obtain⟨i,d',h1,h2,h3⟩:=DQ h;cases h3;obtain⟨v,h4,h5⟩:=E.val i d h2;refine⟨v,?_,h5⟩;unfold Ee;rw[zF,h1];simp[h4]
 ·obtain⟨i,d',h1,h2,h3⟩:=DQ h;cases h3;cases io
 ·obtain⟨i,d',h1,h2,h3⟩:=DQ h;cases h3;exact ho.elim
noncomputable def Bb (gt:D->A8->M A8)(ft:A8->M Bool)(fe:A8->M D):List D->A8->M (List D)
 |[],_=>.ok []
 |d::r,ρ=>match gt d ρ with
  | .ok ρ1=>(match ft ρ1 with
   | .ok k=>if k=true then (match fe ρ1 with
    | .ok y=>(match Bb gt ft fe r ρ with | .ok ys=>.ok (y::ys)|_=>.bad)
    |_=>.bad) else Bb gt ft fe r ρ
   |_=>.bad)
  |_=>.bad
def Xn (X:Cx)(scope:Scope)(NB:List Str)(μ:List (Option Nat))(tg:Expr)(gt:D->A8->M A8):Prop:=
 ∃g:TG,(∀s H C ex,PG (blockOf X s H scope C NB ex) tg g)/\GC μ g/\∀P0 P σ H Q ρ v d,Ae X.K P0 P H σ ρ->B4 X.K (del H P) v d->gG X.K P0 P H Q (gt d ρ)->g v σ H Q
theorem GK {scope:Scope}{NB:List Str}{μ:List (Option Nat)}(i:Nat){x:Str}(hN:NB.Nodup)(hi:NB[i]?=some x)(hx:(relabel scope X.env).names.lookup x=some .local)(hm:μ[i]?=some none):Xn X scope NB μ (.Name x pos) (λ d ρ=>.ok (ρ.set i (some (.val d)))):=
 ⟨Mz i,λ s H C ex=>MA (X:=blockOf X s H scope C NB ex) hN hi (.inl hx) (.inr hx),Rj hm,λ P0 P σ H Q ρ v d E hv h=>h _ (E.Nu hv)⟩
def Xo (X:Cx)(cs:List Expr)(f:A8->M Bool):Prop:=
 ∃t,VI X cs t/\∀P0 P σ H Q ρ,Ae X.K P0 P H σ ρ->gT (λ _ _=>False) H Q (f ρ)->t σ H Q
theorem JB:Xo X [] (λ _=>.ok true):=⟨_,Ri,λ P0 P σ H Q ρ E h=>h H (Ab.refl H)⟩
noncomputable def GL (m:M (List D)):M D:=match m with | .ok ys=>.ok (.lst ys) | _=>.bad
theorem TB {μ:List (Option Nat)}{wi:TI}{gg:TG}{tc:Shared->Hp->Addr->List Addr->TT}{te:Shared->Hp->Addr->List Addr->TE}{fe:A8->M D}
 (i2:∀P0 P σ H R ρ,Ae X.K P0 P H σ ρ->(match fi ρ with | .ok ds=>∀J H',Ab H H'->Nv X.K J P H' ds->R J H' | .ex x=>∀H',Ab H H'->WX x H' | .bad=>False)->wi σ H R)
 (g2:∀P0 P σ H Q ρ v d,Ae X.K P0 P H σ ρ->B4 X.K (del H P) v d->gG X.K P0 P H Q (gt d ρ)->gg v σ H Q)
 (t2:∀s H' C ex P0 P σ H Q ρ,Ae X.K P0 P H σ ρ->gT (λ _ _=>False) H Q (ft ρ)->tc s H' C ex σ H Q)
 (e2:∀s H' C ex P0 P σ H Q ρ,Ae X.K P0 P H σ ρ->gV X.K (λ _ _=>False) (Lv c P0 P) H Q (fe ρ)->te s H' C ex σ H Q) {Q:VK}
 (E:Ae X.K P0 P H σ ρ) (h:gV X.K WX (Lv c P0 P) H Q ((fi ρ).bind λ ds=>if ds.length<=1000 then GL (Bb gt ft fe ds (AU μ ρ)) else .bad)):MD wi μ gg tc te σ H Q:=by
 refine i2 P0 P σ H _ ρ E ?_;cases q:fi ρ with
 |bad|ex x=>rw[q] at h;exact h
 |ok ds =>
  rw[q] at h;simp only[M.Aa] at h;by_cases hd:¬ ds.length<=1000
  ·rw[if_neg hd] at h;exact h.elim
  have hd:ds.length<=1000:=by omega
  rw[if_pos hd] at h;intro J H1 s1 ok s C ex;cases qc:Bb gt ft fe ds (AU μ ρ) with
  |bad|ex x=>rw[qc] at h;exact h.elim
  |ok total =>
   rw[qc] at h;unfold GL at h;dsimp only at h;have E1:=E.same s1;refine⟨λ i m ys H2=>m=ds.length-i/\i<=ds.length/\ys.length<=i/\Ab H1 H2/\∃es rest,Ac X.K (del H2 (Lv c P0 P)) ys es/\Bb gt ft fe (ds.drop i) (AU μ ρ)=.ok rest/\es++rest=total,
    ⟨ds.length,by simp,zT _,zm _,Ab.refl _,[],total,.nil,by rw[List.drop_zero];exact qc,rfl⟩,?_⟩
   rintro i m ys H2 ⟨rfl,hi,hy,s2,es,rest,aN,ae,aq⟩;by_cases ag:i<ds.length
   ·refine .inr ⟨ok.go i P H2 s2.del ag,Nat.lt_of_le_of_lt hy (AZ (by omega)),λ a4 H'=>i+1<=ds.length/\a4.length<=i+1/\Ab H1 H'/\∃es rest,Ac X.K (del H' (Lv c P0 P)) a4 es/\Bb gt ft fe (ds.drop (i+1)) (AU μ ρ)=.ok rest/\es++rest=total,λ a4 H' hq=>⟨ds.length-(i+1),by omega,rfl,hq.1,hq.2.1,hq.2.2.1,hq.2.2.2⟩,λ v H3 y=>?_⟩;have E2:=E1.same s2;obtain⟨s3,hv⟩:=ok.QS i P H2 v H3 ds[i] s2.del E2.BS (zr ag) y;rw[Dh ag,Bb] at ae;have E3:=(E2.same s3).block μ;refine g2 P0 P _ H3 _ (AU μ ρ) v ds[i] E3 hv ?_;cases q1:gt ds[i] (AU μ ρ) with
    |bad|ex x=>rw[q1] at ae;cases ae
    |ok ρ1 =>
     rw[q1] at ae;dsimp only at ae;intro σ4 E4;refine t2 s H1 C ex P0 P σ4 H3 _ ρ1 E4 ?_;cases q2:ft ρ1 with
     |bad|ex x=>rw[q2] at ae;cases ae
     |ok k =>
      rw[q2] at ae;dsimp only at ae;intro H5 s5;cases k with
      |false =>
       simp only[zu,if_false] at ae ⊢;exact⟨ag,by omega,(s2.trans s3).trans s5,es,rest,(aN.mono s3.del).mono s5.del,ae,aq⟩
      |true =>
       simp only[if_true] at ae ⊢;refine e2 s H1 C ex P0 P σ4 H5 _ ρ1 (E4.same s5) ?_;cases q3:fe ρ1 with
       |bad|ex x=>rw[q3] at ae;cases ae
       |ok y' =>
        rw[q3] at ae;dsimp only at ae;cases q4:Bb gt ft fe (ds.drop (i+1)) (AU μ ρ) with
        |bad|ex x=>rw[q4] at ae;cases ae
        |ok eg =>
         rw[q4] at ae;cases ae;intro w H6 s6 hw;refine⟨ag,by rw[zV,yr];omega,((s2.trans s3).trans s5).trans s6,es++[y'],eg,(((aN.mono s3.del).mono s5.del).mono s6.del).snoc hw,rfl,?_⟩;rw[List.append_assoc];exact aq
   ·have e:i=ds.length:=by omega
    subst e;rw[y7,Bb] at ae;cases ae;rw[ym] at aq;subst aq;refine .inl ⟨ok.stop _ P H2 s2.del (zm _),λ D0 hn=>h _ _ ((s1.trans s2).trans (Ay hn _)) (.lst (.of (EG hn λ a q=>(E1.same s2).VN c a q)) (aN.mono (Ay hn _).del))⟩
theorem MI {scope:Scope}{NB:List Str}{ifs:List Expr}{elt:Expr}{fe:A8->M D}(i:Nat){x:Str}{px aU:Pos}(μ:List (Option Nat))(hN:X.N.Nodup)(dS:X.N[i]?=some x)(hx:Loc X.env.scope x)(hc:X.calm=true)(hi:DI X WX tg iter fi)(am:F7 scope X.env.scope=true)(aK:KD X.N NB scope μ=true)(hg:Xn X scope NB μ tg gt)
 (ht:∀s H C ex,Xo (blockOf X s H scope C NB ex) ifs ft) (he:∀s H C ex,DE (blockOf X s H scope C NB ex) (λ _ _=>False) true elt fe)
 (cB:swapsWith (.ListComp elt [⟨tg,iter,ifs,0⟩] scope pos) (some (.Name x px)) aU.line X.env=pure true:=by rfl) (hs:∀x,foldedSetIterable iter X.env x=pure x:=by intro _;rfl) (hf:X.fn x=true\/X.env.scope.names.lookup x=some .local:=by first|exact .inl rfl|exact .inr rfl|assumption):
 DS X WX (.Assign [.Name x px] (.ListComp elt [⟨tg,iter,ifs,0⟩] scope pos) aU) (λ ρ=>((fi ρ).bind λ ds=>if ds.length<=1000 then GL (Bb gt ft fe ds (AU μ ρ)) else .bad).bind λ d=>.ok (.next (ρ.set i (some (.val d))))):=by
 obtain⟨wi,i1,i2⟩:=hi;obtain⟨gg,g1,gk,g2⟩:=hg;refine⟨_,Rl hN dS hx hc i1 am aK gk (λ s H C ex=>⟨g1 s H C ex,(zc (ht s H C ex)).1,(zc (he s H C ex)).1⟩) cB hs hf,λ P0 P σ H Z ρ E h=>?_⟩;refine TB (c:=true) i2 g2 (λ s H' C ex P0 P σ H Q ρ E h=>(zc (ht s H' C ex)).2 P0 P σ H Q ρ E h) (λ s H' C ex P0 P σ H Q ρ E h=>(zc (he s H' C ex)).2 P0 P σ H Q ρ E h) E ?_;dsimp only at h;revert h;cases ((fi ρ).bind λ ds=>if ds.length<=1000 then GL (Bb gt ft fe ds (AU μ ρ)) else .bad) with
 |bad=>exact λ h=>h
 |ex y=>exact λ h H' s=>h H' P (E.tr s)
 |ok d=>exact λ h v H' s hv=>h _ H' P (E.tr s) ((E.same s).Nu hv)
end
section
variable {X:Cx}{WX:Str->Hp->Prop}{c:Bool}{P0:C6}{P:Addr->Prop}{H:Hp}{σ:St}{ρ:A8}{a b e k:Expr}{f g:A8->M D}{te tk:TE}{pos p2:Pos}
noncomputable def Xp (K:za)(te tk:TE):TE:=λ σ H Q=>te σ H λ x H1=>tk σ H1 λ y H2=>∃a xs,x=.ref a/\y=.int (-1)/\CC K H2 a xs/\∀p,H2 p=none->Q (.ref p) (upd H2 p (.lst xs.reverse))
theorem TC (he:PE X e te)(hk:PE X k tk):PE X (.Subscript e (.Slice none none (some k) p2) pos) (Xp X.K te tk):=by
 intro pins s σ H Q I h;refine Subscript_ (B2 (he pins s σ H _ I h) λ v s1 ⟨x,H1,I1,r1,q1⟩=>?_);refine wpAny_Slice ?_;rw[evalPart_none];refine wpAny_pure ?_;refine wpAny_pure ?_;rw[evalPart_some];refine B2 (hk pins s1 σ H1 _ I1 q1) λ vk s3 ⟨y,H3,I3,r3,q3⟩=>?_;obtain⟨a,xs,rfl,rfl,hx,q⟩:=q3;cases r1;obtain⟨t,rfl⟩:=r3;have I4:Inv X pins σ H3 {s3 with heap:=s3.heap.push {cls:=.type "slice",data:=.fields #[.none,.none,.int (-1) t]} }:=I3.kept (t':=s3.toks) λ b ob q=>zq _ q;show wpAny (model X.prog X.w) X.A (subscriptTail e (.Slice none none (some k) p2) (.ref a) (.ref s3.heap.objs.size)) (EP X pins σ Q) X.xe {s3 with heap:=s3.heap.push {cls:=.type "slice",data:=.fields #[.none,.none,.int (-1) t]} };obtain⟨aa,r,ht,hz⟩:=I4.list hx;have hlen:=r.length;refine tail_any (ops:=[.ref a,.ref s3.heap.objs.size]) ht.isList.typeIs slot_list_getitem.lookup ?_ (by with_unfolding_all rfl);refine wpAny_getItem_list_slice ht.isList (Heap.IsSliceOf.new ..) .none .none (.int (-1) t) (by decide) ?_ (by rw[zo]<;>omega);rw[PySem.W.krv_pick];exact⟨.ref _,_,I4.laid (t':=s3.toks) (o:=.lst xs.reverse) (λ b ob q=>zq _ q) (zm _) ⟨by rw[List.length_reverse];exact hz,aa.reverse,0,r.reverse,zH _ rfl⟩,rfl,q _ (I4.As.fresh (zm _))⟩
noncomputable def TF (x y:D):M D:=match x,y with | .lst ds,.int i=>if i = -1 then .ok (.lst ds.reverse) else .bad | _,_=>.bad
theorem TH (ha:DE X WX c e f)(hb:DE X WX c k g):DE X WX c (.Subscript e (.Slice none none (some k) p2) pos) (λ ρ=>(f ρ).bind λ x=>(g ρ).bind λ y=>TF x y):=by
 obtain⟨ta,a1,a2⟩:=ha;obtain⟨tb,b1,b2⟩:=hb;refine⟨_,TC a1 b1,λ P0 P σ H Q ρ E h=>KL (r:=λ x y H2 Q=>∃a xs,x=.ref a/\y=.int (-1)/\CC X.K H2 a xs/\∀p,H2 p=none->Q (.ref p) (upd H2 p (.lst xs.reverse))) a2 b2 ?_ E h⟩;intro P H x y v w Q ht hx hy h;unfold TF at h;split at h
 ·rename_i ds i;by_cases hi:i = -1
  ·rw[if_pos hi] at h;subst hi;cases hx with
   |lst hs hl=>exact⟨_,_,rfl,hy.int_inv,hs.B9,λ p hn=>h _ _ (Ay hn _) (.lst (.of (EG hn ht)) (hl.reverse.mono (Ay hn _).del))⟩
  ·rw[if_neg hi] at h;exact h.elim
 ·exact h.elim
noncomputable def BQ:List D->Option (List Int)
 |[]=>some []
 | .int i::r=>(BQ r).map (i::·)
 |_=>none
theorem Fe {K:za}{H:Hp}:∀ {xs:List V}{ds:List D}{ns:List Int},Ac K H xs ds->BQ ds=some ns->xs=ns.map V.int
 |_,_,_,.nil,e=>by simp only[BQ] at e;cases e;rfl
 |_,_,_,.cons (d:=d) h t,e=>by
  cases d with
  |int i =>
   simp only[BQ] at e;cases q:BQ _ with
   |none=>rw[q] at e;cases e
   |some ns =>
    rw[q] at e;cases e;rw[h.int_inv,Fe t q];rfl
  |_=>simp[BQ] at e
end
theorem B1 {A:Around}{k:Nat}(hr:BI k A)(n:Nat)(hn:n<=64):A.units+n<cLine:=by have:=hr.units;omega
structure Bc (K:za)(mg:Str->Option Value)(x:Str)(st:Stmt)(ps:List Str):Prop where
 ex:∃f fd,O6 K x x st f fd/\mg x=some (.ref f)/\Binds K fd ps []
theorem P5 (ds:List D)(n:Nat):Sk none (some (n:Int)) (.lst ds)=.ok (.lst (ds.take n)):=by
 unfold Sk;dsimp only;rw[HT.Kw,HT.G3,List.drop_zero,Nat.sub_zero];congr 2;rw[Nat.min_def];split
 ·rfl
 ·rw[zX (zm _),zX (by omega)]
theorem AF.there {P:Program}{w:World}{H:Hp}{h:Heap}{a:Addr}{o:HO}(x:AF P w H h a o):∃ob,h.get? a=some ob:=by
 cases o with
 |lst xs=>obtain⟨_,_,_,_,e⟩:=x;exact⟨_,e⟩
 |tup xs=>obtain⟨_,_,_,o,e,_⟩:=x;exact⟨o,e⟩
 |dK kvs|dT kvs=>obtain⟨_,_,_,_,o,_,_,e,_⟩:=x;exact⟨_,e⟩
 |set S n=>obtain⟨o,_,_,_,e,_⟩:=x;exact⟨_,e⟩
 |ins C dx fs=>obtain⟨_,_,_,e,_⟩:=x;exact⟨_,e⟩
 |own y=>obtain⟨_,e⟩:=x;exact⟨_,e⟩
 |xd fs=>obtain⟨_,⟨_,_,_,e,_⟩,_⟩:=x;exact⟨_,e⟩
 |Wu lo hi=>obtain⟨_,_,_,e⟩:=x;exact⟨_,e⟩
 |Cm ob u=>obtain⟨e,_⟩:=x;exact⟨_,e⟩
 |S9 ps|met f y=>exact⟨_,(show h.get? a=some _ from x)⟩
 |ext φ=>obtain⟨_,⟨_,e⟩,_⟩:=x;exact⟨_,e⟩
theorem CD.gone {P:Program}{w:World}{H:Hp}{h:Heap}{a:Addr}(x:CD P w H h)(e:h.get? a=none):H a=none:=by
 cases q:H a with
 |none=>rfl
 |some o=>obtain⟨ob,z⟩:=(x a o q).there;rw[e] at z;cases z
structure TJ (base g:Heap)(H:Hp)(l:List Env)(ea c:Addr)(h:Heap):Prop where
 Yi:∃a0,Heap.FlyingW base l ea (.ref c) a0 h
 new:g.get? ea=none
 un:H ea=none
 tr:∀oe vs T,h.get? ea=some oe->oe.data=.fields vs->vs[1]?=some (.ref T)->H T=none/\g.get? T=none
noncomputable def Sl (P:Program)(w:World)(base:Heap):O3:=λ outer H s E ev s'=>∃(ea c:Addr) (H':Hp),ev=.ref ea/\s'.os=s.os/\AllBare s'.gens/\Un (FJ outer) [] H H' s.heap s'.heap/\CD P w H' s'.heap/\TJ base s.heap H' outer ea c s'.heap/\E (.ref c) none H'
section
variable {P:Program}{w:World}{K:za}{mg:Str->Option Value}{base:Heap}{N:List Str}{qual:Str}{scope:Scope}{f:Addr}{cd:Value}{A:Around}{outer:List Env}{s:Shared}{H:Hp}{E:XK}
noncomputable abbrev P6 (P:Program)(w:World)(K:za)(mg:Str->Option Value)(base:Heap)(N:List Str)(qual:Str)(scope:Scope)(f:Addr)(cd:Value)(A:Around)(outer:List Env)(s:Shared)(H:Hp)(E:XK):Cx:=
 FV (Sl P w base) P w K mg base N qual scope f cd A outer s H E
theorem Sn {pins:List (Addr×Obj)}{σ:St}{H1:Hp}{s1:Shared}{h' B:Heap}{ea c:Addr}{a0:Value}{hid:List Addr}(J:Inv (P6 P w K mg base N qual scope f cd A outer s H E) pins σ H1 s1)
 (hB:∀b o,s1.heap.get? b=some o->b∉FJ (envOfC qual scope s.heap.objs.size f cd::outer)->b∉hid->(H1 b≠none\/∃o',s.heap.get? b=some o')->B.get? b=some o) (ik:base.StaysIn B)
 (hh:∀b∈hid,H1 b=none/\s.heap.get? b=none) (hT:∀b,B.get? b=none->b∉FJ (envOfC qual scope s.heap.objs.size f cd::outer)->H1 b=none/\s.heap.get? b=none)
 (il:s.heap.get? ea=none) (eh:H1 ea=none) (F:Heap.FlyingW B outer ea (.ref c) a0 h') (b8:s1.heap.UpToSlots h') (q:E (.ref c) none H1):
 Sl P w base outer H s E (.ref ea) {s1 with heap:=h' }:=by
 have ei:∀b∈FJ outer,∃o,s1.heap.get? b=some o/\∀vs,o.data≠.fields vs:=λ b hb=>(J.F3.mem hb).2;have cE:∀b o,s.heap.get? b=some o->b≠s.heap.objs.size:=λ b o e=>zB (zl e);have Sa:∀b,b∈FJ (envOfC qual scope s.heap.objs.size f cd::outer)->b=s.heap.objs.size\/b∈FJ outer:=λ b hb=>by
  have aE:b∈s.heap.objs.size::FJ outer:=hb;exact zk.mp aE
 have U:Un (FJ outer) [] H H1 s.heap s1.heap:=J.base;have aZ:∀b o,s.heap.get? b=some o->b∉hid:=λ b o e hb=>by rw[(hh b hb).2] at e;cases e
 have cF:∀b o,H1 b≠none->s1.heap.get? b=some o->h'.get? b=some o:=λ b o hn e=>by
  refine F.1 b o (hB b o e (λ hb=>?_) (λ hb=>hn (hh b hb).1) (.inl hn));exact hn (J.Jk b hb)
 refine⟨ea,c,H1,rfl,J.os,J.bare,⟨λ b o e n hb hx=>?_,λ b o e n hb hx=>?_,U.free,λ b o e hx=>?_,U.Gn,U.F2,U.Gp⟩,λ b ob e=>?_,⟨⟨a0,?_⟩,il,eh,λ oe vs T h1 h2 h3=>?_⟩,q⟩
 ·refine F.1 b o (hB b o (U.keep b o e n hb hx) (λ z=>?_) (aZ b o e) (.inr ⟨o,e⟩));rcases Sa b z with z|z
  ·exact cE b o e z
  ·exact hb z
 ·obtain⟨sl,e1⟩:=U.slot b o e n hb hx;obtain⟨o2,e2,nf⟩:=ei b hb;rw[e1] at e2;obtain⟨cU,e3⟩:=b8 b _ e1 (by cases e2;exact nf);exact⟨cU,e3⟩
 ·obtain⟨o',e1⟩:=U.there b o e hx;by_cases hb:b∈FJ outer
  ·obtain⟨o2,e2,nf⟩:=ei b hb;obtain⟨cU,e3⟩:=b8 b _ e2 nf;exact⟨_,e3⟩
  ·refine⟨o',F.1 b o' (hB b o' e1 (λ z=>?_) (aZ b o e) (.inr ⟨o,e⟩))⟩;rcases Sa b z with z|z
   ·exact cE b o e z
   ·exact hb z
 ·refine (J.As b ob e).Gm (λ x v hx q=>cF x v ?_ q) (λ _ q=>q) λ _ _ q=>q;rcases hx with rfl|hx
  ·rw[e];intro z;cases z
  ·rw[hx];intro z;cases z
 ·exact PySem.W.flyingW_base ik F
 ·obtain⟨_,_,ff,jk,ar,T',oT,ts,k1,k2,k3,k4,k5,k6,k7,k8,k9⟩:=F;rw[show ({s1 with heap:=h' }:Shared).heap.get? ea=h'.get? ea from rfl,k1] at h1;cases h1;rw[k3] at h2;cases h2;rw[k4] at h3;cases h3;refine hT T k5 λ hb=>?_;rcases Sa T hb with z|z
  ·obtain⟨m,⟨oL,es,ep,d4,ej,_⟩,_⟩:=J.loc;obtain⟨sl,e3⟩:=b8 s.heap.objs.size oL d4 λ vs zz=>by rw[ej] at zz;cases zz
   rw[<-z,k7] at e3;cases e3;rw[show oL.data=_ from k8] at ej;cases ej
  ·obtain⟨o2,e2,nf⟩:=ei T z;obtain⟨sl,e3⟩:=b8 T o2 e2 nf;rw[k7] at e3;cases e3;exact nf ts k8
theorem P7 {l:List Env}:∀env∈l,∀a,env.frame=some a->a∈FJ l:=λ env he a ha=>List.mem_filterMap.mpr ⟨env,he,ha⟩
theorem Rw {pins:List (Addr×Obj)}{σ:St}{H1:Hp}{s2:Shared}{h1:Heap}{ea C:Addr}{vs:List Value}(J:Inv (P6 P w K mg base N qual scope f cd A outer s H E) pins σ H1 s2)(hx:Heap.MadeExcOf s2.heap h1 ea (.ref C) vs)(q:E (.ref C) none H1):
 (P6 P w K mg base N qual scope f cd A outer s H E).xe (.ref ea) {s2 with heap:=h1}:=by
 have J1:Inv (P6 P w K mg base N qual scope f cd A outer s H E) pins σ H1 {s2 with heap:=h1}:=J.kept (t':=s2.toks) hx.keeps;have fr:=J.stack;have bR:=P7 (l:=envOfC qual scope s.heap.objs.size f cd::outer);refine wpAny_leaves_madeW (base:=PySem.W.hideAll s2.heap (FJ (envOfC qual scope s.heap.objs.size f cd::outer))) (outer:=outer) (L:=s.heap.objs.size) J.ok.frames rfl (λ b o e=>PySem.W.of_hideAll _ e) (PySem.W.funFrames_hide fr bR) hx λ h' t F ht jl b8=>?_;have ba:∀b,s2.heap.get? b=none->H1 b=none/\s.heap.get? b=none:=λ b e=>by
  refine⟨J.As.gone e,?_⟩;cases q:s.heap.get? b with
  |none=>rfl
  |some o=>obtain⟨o',z⟩:=J.base.there b o q (by simp[FV]);rw[e] at z;cases z
 refine Sn (B:=PySem.W.hideAll s2.heap (FJ (envOfC qual scope s.heap.objs.size f cd::outer))) (hid:=[]) J1 (λ b o e hb _ im=>?_) (λ b o e=>?_) (λ b z=>by cases z) (λ b e hb=>?_) (ba ea hx.new).2 (ba ea hx.new).1 F b8 q
 ·have cZ:∃o2,s2.heap.get? b=some o2:=by
   rcases im with z|⟨o',z⟩
   ·cases q2:H1 b with
    |none=>exact absurd q2 z
    |some u=>exact (J.As b u q2).there
   ·exact J.base.there b o' z (by simp[FV])
  obtain⟨o2,e2⟩:=cZ;have e3:=hx.keeps b o2 e2;rw[show ({s2 with heap:=h1}:Shared).heap.get? b=h1.get? b from rfl,e3] at e;cases e;exact yf _ e2 hb
 ·refine yf _ (J.bk b o e) λ hb=>?_;have z:base.get? b=none:=(fr.mem hb).1;rw[show base.get? b=some o from e] at z;cases z
 ·refine ba b ?_;cases q2:s2.heap.get? b with
  |none=>rfl
  |some o=>rw[yf _ q2 hb] at e;cases e
theorem Rx:Jn (Sl P w base) (P6 P w K mg base N qual scope f cd A outer s H E) E:=by
 intro pins σ H0 s0 ev s1 I h;obtain⟨ea,c,H1,rfl,ip,iq,U,As,⟨⟨a0,F⟩,ax,fY,ir⟩,q⟩:=h;have J:Inv (P6 P w K mg base N qual scope f cd A outer s H E) pins σ H1 s1:=I.Sd (ch:=[]) ip U As iq λ b hb=>by cases hb
 obtain⟨f1,f2,f3,oe,vs,T,oT,ts,k1,k2,k3,k4,k5,k6,k7,k8,k9⟩:=F;have hT:=ir oe vs T k1 k3 k4;have fr:=J.stack;have entry:∀b,s0.heap.get? b=none->s.heap.get? b=none:=λ b e=>by
  cases q:s.heap.get? b with
  |none=>rfl
  |some o=>obtain⟨o',z⟩:=I.base.there b o q (by simp[FV]);rw[e] at z;cases z
 have bR:∀env∈(envOfC qual scope s.heap.objs.size f cd::outer),∀a,env.frame=some a->a∈FJ (envOfC qual scope s.heap.objs.size f cd::outer)++[ea,T]:=λ env he a ha=>zx _ (P7 env he a ha);have FB:Heap.FlyingW (PySem.W.hideAll s1.heap (FJ (envOfC qual scope s.heap.objs.size f cd::outer)++[ea,T])) (envOfC qual scope s.heap.objs.size f cd::outer) ea (.ref c) a0 s1.heap:=
  ⟨λ b o e=>PySem.W.of_hideAll _ e,PySem.W.hideAll_none _ (by simp),PySem.W.funFrames_hide fr bR,oe,vs,T,oT,ts,k1,k2,k3,k4,PySem.W.hideAll_none _ (by simp),k6,k7,k8,k9⟩
 refine wpAny_leaves_onW (outer:=outer) (L:=s.heap.objs.size) J.ok.frames rfl FB λ h' F' b8=>?_;have cG:∀b,s1.heap.get? b=none->H1 b=none/\s.heap.get? b=none:=λ b e=>by
  refine⟨J.As.gone e,?_⟩;cases q:s.heap.get? b with
  |none=>rfl
  |some o=>obtain⟨o',z⟩:=J.base.there b o q (by simp[FV]);rw[e] at z;cases z
 have hid:∀b∈[ea,T],H1 b=none/\s.heap.get? b=none:=λ b hb=>by
  rcases zk.mp hb with z|z
  ·rw[z];exact⟨fY,entry ea ax⟩
  ·rw[zj.mp z];exact⟨hT.1,entry T hT.2⟩
 refine Sn (hid:=[ea,T]) J (λ b o e hb b9 _=>yf _ e λ z=>(zC.mp z).elim hb b9) (λ b o e=>?_) hid (λ b e hb=>?_) (entry ea ax) fY F' b8 q
 ·refine yf _ (J.bk b o e) λ hb=>?_;rcases zC.mp hb with hb|hb
  ·have z:base.get? b=none:=(fr.mem hb).1;rw[show base.get? b=some o from e] at z;cases z
  ·rcases zk.mp hb with z|z
   ·rw[z] at e;rw[show base.get? ea=some o from e] at f2;cases f2
   ·rw[zj.mp z] at e;rw[show base.get? T=some o from e] at k5;cases k5
 ·by_cases b9:b∈[ea,T]
  ·exact hid b b9
  ·refine cG b ?_;cases q2:s1.heap.get? b with
   |none=>rfl
   |some o=>rw[yf _ q2 λ z=>(zC.mp z).elim hb b9] at e;cases e
end
structure XCall (X:Cx)(E:XK):Prop where
 call:Jn (Sl X.prog X.w X.base) X E
 own:PassesOwn (model X.prog X.w) X.A X.env X.xe
structure XR (X:Cx)(E:XK):Prop extends XCall X E where
 made:∀pins σ H s h' ea C vs,Inv X pins σ H s->Heap.MadeExcOf s.heap h' ea (.ref C) vs->E (.ref C) none H->X.xe (.ref ea) {s with heap:=h' }
theorem Ap {P:Program}{w:World}{K:za}{mg:Str->Option Value}{base:Heap}{N:List Str}{qual:Str}{scope:Scope}{f:Addr}{cd:Value}{A:Around}{outer:List Env}{s:Shared}{H:Hp}{E:XK}:
 XR (P6 P w K mg base N qual scope f cd A outer s H E) E:=⟨⟨Rx,PassesOwn.leaving⟩,λ _ _ _ _ _ _ _ _ J hx q=>Rw J hx q⟩
theorem GN {X:Cx}(h:X.xe=λ _ _=>False):XR X E0:=⟨⟨λ _ _ _ _ _ _ _ h=>by obtain⟨_,_,_,_,_,_,_,_,_,q⟩:=h;exact q.elim,by rw[h];exact PassesOwn.never⟩,λ _ _ _ _ _ _ _ _ _ _ q=>q.elim⟩
def GO (K:za)(E:XK):Str->Hp->Prop:=λ x H=>∃c,zg K mainGlobals x=some (some (.ref c))/\E (.ref c) none H
section
variable {X:Cx}{WX:Str->Hp->Prop}{c:Bool}{a b e:Expr}{f g:A8->M D}{pos p:Pos}
noncomputable def XS (x y:D):M D:=match x,y with
 | .int i,.int j=>.ok (.int (i+j))
 | .lst ds,.lst es=>if ds.length+es.length<=1000 then .ok (.lst (ds++es)) else .bad
 |_,_=>.bad
noncomputable def WB (neg:Bool)(x y:D):M D:=match x,y with
 | .int i,.lst ds=>(match BQ ds with|some ns=>.ok (.bl (if neg then !ns.contains i else ns.contains i))|none=>.bad)
 |_,_=>.bad
theorem P8 (i:Int)(ns:List Int):OG (.int i) (ns.map V.int)=ns.contains i:=by
 unfold OG;induction ns with
 |nil=>rfl
 |cons n r ih =>
  rw[zh,yz,ih,List.contains_cons];congr 1;show (n==i)=(i==n);rw[yv,beq_iff_eq,beq_iff_eq];exact eq_comm
theorem Nx (ns:List Int):(ns.map V.int).all EB=true:=by
 induction ns with
 |nil=>rfl
 |cons n r ih=>rw[zh,List.all_cons,ih];rfl
theorem Di {neg:Bool}:MF X.K WX (Wy X.K neg) (WB neg):=by
 intro P H x y v w Q ht hx hy h;unfold WB at h;split at h
 ·rename_i i ds;split at h
  ·rename_i ns hn;cases hx;cases hy with
   |lst h1 h2 =>
    have e:=Fe h2 hn;subst e;refine⟨_,_,rfl,.inl h1.B9,rfl,Nx ns,?_⟩;rw[P8];exact h _ H (Ab.refl H) (.bl _)
  ·exact h.elim
 ·exact h.elim
end
noncomputable def one (x:Str)(b:Bool):Str->Option Bool:=λ y=>if y=x then some b else none
def KQ (i j:Int):Prop:=(i.natAbs<2^1000/\j.natAbs<2^1000)\/Ov i j
instance (i j:Int):Decidable (KQ i j):=by unfold KQ;infer_instance
theorem J2 {i:Int}(h:i.natAbs<2^1000):zN i<=2^20:=by
 unfold zN;split
 ·exact zT _
 ·rename_i z;have h0:i.natAbs≠0:=λ q=>z (by rw[Int.natAbs_eq_zero.mp q];rfl);have:=(Nat.log2_lt h0).mpr h;have h3:(1000:Nat)<=2^20:=by decide
  exact zW this h3
theorem KQ.ok {i j:Int}(h:KQ i j):IntMulOk i j:=by
 rcases h with ⟨h1,h2⟩|h
 ·exact IntMulOk.of_bits (J2 h1) (J2 h2)
 ·exact h.ok
theorem Ff (ns:List Int):BQ (ns.map D.int)=some ns:=by
 induction ns with
 |nil=>rfl
 |cons n r ih=>rw[zh,BQ,ih];rfl
theorem P9 (ds:List D)(n:Nat):Sk (some (n:Int)) none (.lst ds)=.ok (.lst (ds.drop n)):=by
 unfold Sk;dsimp only;rw[HT.Kw,HT.G3];congr 2;by_cases h:n<=ds.length
 ·rw[Nat.min_eq_left h,zX (by rw[y6];exact zm _)]
 ·rw[Nat.min_eq_right (by omega),List.drop_of_length_le (zm _),List.drop_of_length_le (by omega),List.take_nil]
def Pl (n:Nat)(d:D):Prop:=EF d<=n/\Aq d=true
theorem JC {n:Nat}:∀ {ds:List D},(∀d∈ds,EF d<=n)->FX ds<=n
 |[],_=>by rw[FX];exact zT _
 |d::r,h=>by
  rw[FX];exact Nat.max_le.mpr ⟨h d zb,JC λ d hd=>h d (zd _ hd)⟩
theorem JD:∀ {ds:List D},(∀d∈ds,Aq d=true)->GD ds=true
 |[],_=>by rw[GD]
 |d::r,h=>by
  rw[GD,h d zb,JD λ d hd=>h d (zd _ hd)];rfl
theorem Bn {n:Nat}(i:Int):Pl n (.int i):=⟨by rw[EF];exact zT _;all_goals simp,by rw[Aq];all_goals simp⟩
theorem Pa {n:Nat}:Pl n .Ax:=⟨by rw[EF];exact zT _;all_goals simp,by rw[Aq];all_goals simp⟩
theorem GP {n:Nat}{ds:List D}(h:∀d∈ds,Pl n d):Pl (n+1) (.tup ds):=
 ⟨by rw[EF];exact Nat.succ_le_succ (JC λ d hd=>(h d hd).1),by rw[Aq];exact JD λ d hd=>(h d hd).2⟩
theorem Pb {n:Nat}{ds:List D}(h:∀d∈ds,Pl n d):Pl (n+1) (.lst ds):=
 ⟨by rw[EF];exact Nat.succ_le_succ (JC λ d hd=>(h d hd).1),by rw[Aq];exact JD λ d hd=>(h d hd).2⟩
theorem Ry {n:Nat}(ns:List Int):Pl (n+1) (.lst (ns.map D.int)):=Pb λ d hd=>by
 obtain⟨i,_,rfl⟩:=List.mem_map.mp hd;exact Bn i
theorem Pl.le {n m:Nat}{d:D}(h:Pl n d)(k:n<=m):Pl m d:=⟨zW h.1 k,h.2⟩
theorem GQ {n:Nat}:∀d∈([]:List D),Pl n d:=λ d h=>by cases h
theorem Bj {n:Nat}{d:D}{ds:List D}(h:Pl n d)(t:∀d∈ds,Pl n d):∀e∈d::ds,Pl n e:=λ e he=>by
 rcases zk.mp he with rfl|he
 ·exact h
 ·exact t e he
theorem LS {n:Nat}{x y:D}(h:Pl n x)(k:Pl n y):Si n x y=.ok (.bl (Al x y)):=by
 unfold Si;rw[if_pos ⟨h.1,h.2,k.2⟩]
theorem Pc {n:Nat}{x y:D}(h:Pl n x)(k:Pl n y):Sj n x y=.ok (.bl (!Al x y)):=by
 unfold Sj;rw[if_pos ⟨h.1,h.2,k.2⟩]
theorem KR {n:Nat}{x:D}(h:Pl n x):Sj n x x=.ok (.bl false):=by rw[Pc h h,EE];rfl
theorem Rz (ds:List D)(a b:Nat):Sk (some (a:Int)) (some (b:Int)) (.lst ds)=.ok (.lst ((ds.drop a).take (b-a))):=by
 unfold Sk;dsimp only;rw[HT.G3,HT.G3];congr 2;by_cases h:a<=ds.length
 ·rw[Nat.min_eq_left h];by_cases h2:b<=ds.length
  ·rw[Nat.min_eq_left h2]
  ·rw[Nat.min_eq_right (by omega),zX (by rw[y6];exact zm _),zX (by rw[y6];omega)]
 ·rw[Nat.min_eq_right (show ds.length<=a by omega),List.drop_of_length_le (zm _),List.drop_of_length_le (show ds.length<=a by omega),List.take_nil,List.take_nil]
section
variable {X:Cx}{WX:Str->Hp->Prop}{c:Bool}{P0:C6}{P:Addr->Prop}{H:Hp}{σ:St}{ρ:A8}{a b e:Expr}{f g:A8->M D}{ft gt:A8->M Bool}{pos:Pos}{st:Stmt}{rest:List Stmt}{g1 g2:A8->M Out}
noncomputable def Ak (c:A8->M Bool)(b:A8->M Out):Nat->A8->M Out
 |0,_=>.bad
 |n+1,ρ=>match c ρ with
  | .ok true=>(match b ρ with
   | .ok (.next ρ')| .ok (.cont ρ')=>Ak c b n ρ'
   | .ok (.brk ρ')=>.ok (.next ρ')
   |r=>r)
  | .ok false=>.ok (.next ρ)
  | .ex x=>.ex x
  | .bad=>.bad
noncomputable def FO (c:A8->M Bool)(b:A8->M Out)(ρ:A8):M Out:=
 @dite _ (∃n,Ak c b n ρ≠.bad) (Classical.propDecidable _) (λ h=>Ak c b (zv h) ρ) (λ _=>.bad)
theorem Bo {c:A8->M Bool}{b:A8->M Out}:∀ {n:Nat}{ρ:A8},Ak c b n ρ≠.bad->∀m,Ak c b (n+m) ρ=Ak c b n ρ
 |0,ρ,h,m=>(h rfl).elim
 |n+1,ρ,h,m=>by
  rw[show n+1+m=(n+m)+1 by omega];rw[Ak] at h;rw[Ak,Ak];cases q:c ρ with
  |bad|ex x=>rfl
  |ok k =>
   rw[q] at h;cases k with
   |false=>rfl
   |true =>
    dsimp only at h ⊢;cases q2:b ρ with
    |bad|ex x=>rfl
    |ok o =>
     rw[q2] at h;cases o with
     |next ρ'=>dsimp only at h ⊢;exact Bo h m
     |cont ρ'=>dsimp only at h ⊢;exact Bo h m
     |brk ρ'=>rfl
     |ret d|Bm d|C7 d ρ2=>rfl
theorem Pd {c:A8->M Bool}{b:A8->M Out}{n:Nat}{ρ:A8}(h:Ak c b n ρ≠.bad):FO c b ρ=Ak c b n ρ:=by
 unfold FO;have hx:∃n,Ak c b n ρ≠.bad:=⟨n,h⟩;rw[dif_pos hx];have hc:=zc hx;have e1:=Bo h (zv hx);have e2:=Bo hc n;rw[Nat.add_comm] at e2;rw[<-e1,e2]
theorem Ny {c:A8->M Bool}{b:A8->M Out}{ρ:A8}(h:FO c b ρ≠.bad):∃n,Ak c b n ρ≠.bad/\FO c b ρ=Ak c b n ρ:=by
 by_cases hx:∃n,Ak c b n ρ≠.bad
 ·obtain⟨n,hn⟩:=hx;exact⟨n,hn,Pd hn⟩
 ·exact (h (by unfold FO;rw[dif_neg hx])).elim
theorem VX {K:za}{Z:Ends}{m:M Out}(h:gS K WX P0 P H Z m):m≠.bad:=λ e=>by rw[e] at h;exact h
theorem Pe {body:List Stmt}(hp:PassesOwn (model X.prog X.w) X.A X.env X.xe)(hc:DT X WX a ft)(hb:MH X WX body g1):DS X WX (.While a body [] pos) (FO ft g1):=by
 obtain⟨tc,c1,c2⟩:=hc;obtain⟨tb,b1,b2⟩:=hb;refine⟨_,Om hp c1 b1,λ P0 P σ H Z ρ E h=>?_⟩;obtain⟨n,hn,en⟩:=Ny (VX h);rw[en] at h;refine⟨λ m σ' H'=>∃ρ' P',Ae X.K P0 P' H' σ' ρ'/\Tr P0 P H P' H'/\gS X.K WX P0 P' H' Z (Ak ft g1 m ρ'),⟨n,ρ,P,E,Tr.refl,h⟩,?_⟩;rintro m σ1 H1 ⟨ρ1,P1,E1,t1,h1⟩;cases m with
 |zero=>exact h1.elim
 |succ m =>
  rw[Ak] at h1;refine c2 P0 P1 σ1 H1 _ ρ1 E1 ?_;cases q:ft ρ1 with
  |bad=>rw[q] at h1;exact h1
  |ex x=>rw[q] at h1;exact λ H2 s2=>h1 H2 P1 (E1.tr s2)
  |ok k =>
   rw[q] at h1;intro H2 s2;have E2:=E1.same s2;cases k with
   |false =>
    rw[if_neg (by simp)];exact h1 σ1 H2 P1 (E1.tr s2) E2
   |true =>
    rw[if_pos rfl];dsimp only at h1;refine⟨λ σ' H'=>∃ρ' P',Ae X.K P0 P' H' σ' ρ'/\Tr P0 P H P' H'/\gS X.K WX P0 P' H' Z (Ak ft g1 m ρ'),λ σ' H' z=>⟨m,Nat.lt_succ_self m,z⟩,?_⟩;refine b2 P0 P1 σ1 H2 _ ρ1 E2 ?_;cases q2:g1 ρ1 with
    |bad=>rw[q2] at h1;exact h1
    |ex x=>rw[q2] at h1;exact λ H3 P3 t3=>h1 H3 P3 ((E1.tr s2).trans t3)
    |ok o =>
     rw[q2] at h1;have t2:=t1.trans (E1.tr s2);cases o with
     |next ρ'=>exact λ σ3 H3 P3 t3 E3=>⟨ρ',P3,E3,t2.trans t3,h1.tr ((E1.tr s2).trans t3)⟩
     |cont ρ'=>exact λ σ3 H3 P3 t3 E3=>⟨ρ',P3,E3,t2.trans t3,h1.tr ((E1.tr s2).trans t3)⟩
     |brk ρ'=>exact λ σ3 H3 P3 t3 E3=>h1 σ3 H3 P3 ((E1.tr s2).trans t3) E3
     |ret d=>exact λ v H3 P3 t3 hv=>h1 v H3 P3 ((E1.tr s2).trans t3) hv
     |Bm d=>exact λ v fp H3 P3 t3=>h1 v fp H3 P3 ((E1.tr s2).trans t3)
     |C7 d ρ2=>exact λ v fp σ3 H3 P3 t3=>h1 v fp σ3 H3 P3 ((E1.tr s2).trans t3)
noncomputable def GR:List D->Option (List Bool)
 |[]=>some []
 | .bl b::r=>(GR r).map (b::·)
 |_=>none
theorem GS (bs:List Bool):GR (bs.map D.bl)=some bs:=by
 induction bs with
 |nil=>rfl
 |cons b r ih=>rw[zh,GR,ih];rfl
noncomputable def VY (ds:List D):M D:=match ds with
 |[.lst xs]=>(match GR xs with|some bs=>.ok (.bl (bs.all id))|none=>.bad)
 |_=>.bad
end
def Sm (n:Int):Prop:=zN n<=2^20
theorem Pf:∀ {ns:List Int},W.WData.weightAll (ns.map W.WData.int)<=2^20->∀n∈ns,Sm n
 |m::r,h,n,hn=>by
  rw[zh,W.WData.weightAll,W.WData.weight] at h;rcases zk.mp hn with rfl|hn
  ·unfold Sm zN;omega
  ·exact Pf (by omega) n hn
theorem VZ {ns:List Int}(h:W.WData.layableAll [W.WData.list (ns.map W.WData.int)]=true):∀n∈ns,Sm n:=by
 unfold W.WData.layableAll at h;rw[List.all_cons,zJ] at h;have h1:=h.1;unfold W.WData.layable at h1;rw[zJ,decide_eq_true_eq,W.WData.weight] at h1;exact Pf h1.2
end L2
namespace HT
open PySem PySem.W PyProof.Rows Spec Calls fR
theorem J3 {l:OpenLaw}{n:Nat}{q:Program}{loose:List Str}{XP:(Str->Option Value)->Heap->Prop}{YP:World->Heap->Prop}{d:DefRec}
 (hn:l.most=some n) (bS:d.params.defaults=[])
 (run:∀(w:World) (s₀ s₁:Shared) (mg mb:Str->Option Value) (fa:Addr) (o:Obj) (pm cd doc:Value) (a:Addr) (vs:List Value) (ns:List Int),(∀n∈ns,L2.Sm n)->
  Ground q loose [] XP w s₀ mg mb s₁.heap->YP w s₁.heap->s₁.heap.get? fa=some o->o.data=.func (docDef d.name d.params d.body d.scope pm cd doc)->s₁.heap.CodeRec cd d.name->mg d.name=some (.ref fa)->
  s₁.heap.get? a=some {cls:=.type "list",data:=.seq vs.toArray}->IntsAre vs ns->ns.length<=n->s₁.gens=#[]->
  codeAny (model l.prog w) callerA (.call (.ref fa) ⟨[.ref a],[]⟩) (λ r s'=>r=.ok (.ret (.bool true))/\OldK s₁.heap s'.heap/\s'.os=s₁.os/\AllBare s'.gens) s₁):
 WalkO q loose XP YP l.row.toRowW d [] (λ f vs=>PySem.call f vs):=by
 intro w s₀ s₁ mg mb G Y fa o pm cd doc dV kV ho hd az hD bT hg args vals as bn em jm dH jn;obtain rfl:dV=.none:=Dflts.none hD bS;obtain rfl:kV=.none:=Dflts.noKw hD;obtain⟨a,vs,ns,rfl,rfl,bc,ay,hlen⟩:=Nl hn bn dH;refine enter_call (codeAny_mono (run w s₀ s₁ mg mb fa o pm cd doc a vs ns (L2.VZ em) G Y ho (fd_plain hd) az bT bc ay hlen hg) λ r s' hq=>?_);obtain⟨rfl,h2,h3,h4⟩:=hq;exact⟨.inl ⟨.bool true,.bool true,[],rfl,λ _=>rfl,.bool true,Nm l _,λ _=>⟨List.Pairwise.nil,λ _ hm=>(nomatch hm)⟩⟩,h2,h3,h4⟩
end HT
namespace L2
open PySem PySem.Spec PyProof.Rows
theorem WC {l:PySem.W.OpenLaw}{n k:Nat}{q:Program}{loose:List Str}{XP:(Str->Option Value)->Heap->Prop}{YP:World->Heap->Prop}{d:DefRec}{K:Params->za}{CX:World->O3}{sp:World->Sp}{x:Str}
 (hn:l.most=some n) (ao:n<=sizeLine) (bS:d.params.defaults=[]) (hr:BI k callerA) (hY:∀(w:World) (h:Heap),YP w h->(K w.params).In h)
 (F:∀(w:World) (mg:Str->Option Value) (fa:Addr) (h:Heap),(K w.params).In h->h.Ns mainGlobals mg->mg d.name=some (.ref fa)->∃fd:FuncData,(∀(s:Shared) (u:Value),BindsTo s fd ⟨[u],[]⟩ [(x,u)])/\
  ∀base:Heap,(K w.params).In base->base.Ns mainGlobals mg->E6 l.prog w (K w.params) mg base (CX w) k fa fd [x] (sp w))
 (bh:∀(w:World) (H:Hp) (a:Addr) (ns:List Int),(∀n∈ns,Sm n)->ns.length<=n->R9 H->CC (K w.params) H a (ns.map V.int)->sp w [.ref a] H (λ v _=>v=.bl true) λ _ _ _=>False)
 (c6:∀(w:World) (H:Hp) (s:Shared) (e:Value) (s':Shared),CX w [] H s (λ _ _ _=>False) e s'->False):PySem.W.WalkO q loose XP YP l.row.toRowW d [] (λ f vs=>PySem.call f vs):=by
 refine HT.J3 hn bS λ w s₀ s₁ mg mb fa o pm cd doc a vs ns bA G Y ho hd az bT bc ay hlen hg=>?_;have KX:=hY w _ Y;obtain⟨fd,hb,hF⟩:=F w mg fa _ KX G.T.g bT;exact Ky KX G.T.g G.T.b G.T.builtins G.T.nolimit hg bc ay (zW hlen ao) hr hF hb (λ H hO hS=>bh w H a ns bA hlen hO hS) λ H e s'=>c6 w H s₁ e s'
theorem RB {F:List D->M D}(h:∀ns:List Int,ns.length<=63->(∀n∈ns,Sm n)->F [.lst (ns.map D.int)]=.ok (.bl true))(K:za)(H:Hp)(a:Addr)(ns:List Int)(bA:∀n∈ns,Sm n)(hl:ns.length<=63)(hS:CC K H a (ns.map V.int)):LR K 1 F [.ref a] H (λ v _=>v=.bl true) λ _ _ _=>False:=by
 refine⟨rfl,λ _=>False,[.lst (ns.map D.int)],λ _ z=>z.elim,.cons (.lst ?_ (Ac.ints ns)) .nil,?_⟩
 ·have e:del H (λ _=>False)=H:=by funext b;exact Aj (λ z=>z)
  rw[e];exact hS
 ·rw[h ns hl bA];exact λ v H' s hv=>hv.Jv
def J4 (i j:Int):Prop:=(zN i<=2^20+1/\zN j<=2^10)\/KQ i j
theorem Nz {a b:Int}(h:zN a+zN b<=2^21):IntMulOk a b:=by
 have e:(2:Nat)^21=2097152:=by decide
 have h2:Builtin.Int.intTooBig (zN a+zN b)=false:=by
  unfold Builtin.Int.intTooBig bitsLine;exact decide_eq_false (by omega)
 unfold IntMulOk;rw[h2];simp
theorem J4.ok {i j:Int}(h:J4 i j):IntMulOk i j:=by
 rcases h with ⟨h1,h2⟩|h
 ·exact Nz (by omega)
 ·exact h.ok
theorem RC {X:Cx}:F5 X (binaryOp .Mult) (rI J4 λ i j=>.int (i*j)):=Wx λ _ _ _ _ _ _ _ hc q=>mul_int q hc.ok
noncomputable instance (i j:Int):Decidable (J4 i j):=Classical.propDecidable _
noncomputable def GU:=AW λ i j=>if J4 i j then .ok (.int (i*j)) else .bad
theorem EI {i j:Int}(h:J4 i j):GU (.int i) (.int j)=.ok (.int (i*j)):=by
 unfold GU AW;dsimp only;rw[if_pos h]
theorem G9 {X:Cx}{WX:Str->Hp->Prop}{c:Bool}{a b:Expr}{f g:A8->M D}{pos:Pos}(ha:DE X WX c a f)(hb:DE X WX c b g):DE X WX c (.BinOp a .Mult b pos) (λ ρ=>(f ρ).bind λ x=>(g ρ).bind λ y=>GU x y):=IX RC (Jw λ _ _ _ _=>.int _) ha hb
mutual
noncomputable def J5:D->Bool
 | .tup a=>Pg a
 | .lst _| .C9 _| .B0 _ _ _| .ins _ _ _=>false
 |_=>true
noncomputable def Pg:List D->Bool
 |[]=>true
 |a::r=>J5 a&&Pg r
end
theorem MJ {H:Hp}{P0 P:Addr->Prop}{a:Addr}{xs:List V}(ht:∀a,P a->Cr H a)(h:del H P0 a=some (.tup xs)):del H P a=some (.tup xs):=by
 obtain⟨h1,h2⟩:=Ag h;rw[Aj λ z=>by
  obtain⟨o',q,r⟩:=ht a z;rw[h2] at q;cases q;exact (r xs).1 rfl]
 exact h2
mutual
theorem B4.J5 {K:za}{H:Hp}{P0 P:Addr->Prop}(ht:∀a,P a->Cr H a):∀ {v:V}{d:D},J5 d=true->B4 K (del H P0) v d->B4 K (del H P) v d
 |_,_,_,.Ax=>.Ax
 |_,_,_,.bl b=>.bl b
 |_,_,_,.int i=>.int i
 |_,_,_,.str x=>.str x
 |_,_,n,.tup h r=>.tup (MJ ht h) (Ac.J5 ht (by rw[L2.J5] at n;exact n) r)
 |_,_,n,.lst h r|_,_,n,.C9 h r|_,_,n,.E8 h r|_,_,n,.DL h r|_,_,n,.ins _ h r=>by rw[L2.J5] at n;cases n
theorem Ac.J5 {K:za}{H:Hp}{P0 P:Addr->Prop}(ht:∀a,P a->Cr H a):∀ {vs:List V}{ds:List D},Pg ds=true->Ac K (del H P0) vs ds->Ac K (del H P) vs ds
 |_,_,_,.nil=>.nil
 |_,_,n,.cons h t=>by
  rw[Pg,zJ] at n;exact .cons (B4.J5 ht n.1 h) (Ac.J5 ht n.2 t)
end
noncomputable def dp (m:M D):M D:=m.bind λ d=>if J5 d=true then .ok d else .bad
theorem RD {X:Cx}{WX:Str->Hp->Prop}{e:Expr}{f:A8->M D}(h:DE X WX false e f):DE X WX true e (λ ρ=>dp (f ρ)):=by
 obtain⟨t,h1,h2⟩:=h;refine⟨t,h1,λ P0 P σ H Q ρ E g=>h2 P0 P σ H Q ρ E ?_⟩;unfold dp at g;dsimp only at g;cases e:f ρ with
 |ok d =>
  rw[e] at g;simp only[M.Aa] at g;by_cases hf:J5 d=true
  ·rw[if_pos hf] at g;exact λ v H' s hv=>g v H' s (hv.J5 (E.same s).BS hf)
  ·rw[if_neg hf] at g;exact g.elim
 |ex x|bad=>rw[e] at g;exact g
section
variable {α:Type}(lt:α->α->Prop)
def GV:List α->List α->Prop
 |y::ys,x::xs=>(lt y x/\ys.length=xs.length)\/(y=x/\GV ys xs)
 |_,_=>False
theorem GV.len:∀ {ys xs:List α},GV lt ys xs->ys.length=xs.length
 |y::ys,x::xs,h=>by
  rcases h with ⟨_,h⟩|⟨_,h⟩
  ·rw[zp,zp,h]
  ·rw[zp,zp,GV.len h]
 |[],[],h|[],_::_,h|_::_,[],h=>h.elim
theorem Ph (n:Nat)(ih:∀xs:List α,xs.length=n->Acc (GV lt) xs){x:α}(hx:Acc lt x):∀ {xs:List α},xs.length=n->Acc (GV lt) xs->Acc (GV lt) (x::xs):=by
 induction hx with
 |intro x _ iu =>
  intro xs hl b7;induction b7 with
  |intro xs _ eu =>
   refine .intro _ λ zs h=>?_;cases zs with
   |nil=>exact h.elim
   |cons y ys =>
    rcases h with ⟨h1,h2⟩|⟨h1,h2⟩
    ·exact iu y h1 (h2.trans hl) (ih ys (h2.trans hl))
    ·subst h1;exact eu ys h2 ((GV.len lt h2).trans hl)
theorem GW (h:∀x,Acc lt x):∀(n:Nat) (xs:List α),xs.length=n->Acc (GV lt) xs
 |0,[],_=>.intro _ λ zs h=>by cases zs<;>exact h.elim
 |n+1,x::xs,e=>Ph lt n (GW h n) (h x) (by simpa using e) (GW h n xs (by simpa using e))
theorem MK:∀ {xs:List α}{i:Nat}{y:α}{x:α},xs[i]?=some x->lt y x->GV lt (xs.set i y) xs
 |[],_,_,_,h,_=>by cases h
 |z::zs,0,y,x,h,hl=>by
  cases h;exact .inl ⟨hl,rfl⟩
 |z::zs,i+1,y,x,h,hl=>.inr ⟨rfl,MK (by simpa using h) hl⟩
theorem GV.trans (ht:∀a b c,lt a b->lt b c->lt a c):∀ {xs ys zs:List α},GV lt xs ys->GV lt ys zs->GV lt xs zs
 |x::xs,y::ys,z::zs,h1,h2=>by
  rcases h1 with ⟨a,b⟩|⟨rfl,b⟩
  ·rcases h2 with ⟨c,d⟩|⟨rfl,d⟩
   ·exact .inl ⟨ht _ _ _ a c,b.trans d⟩
   ·exact .inl ⟨a,b.trans (GV.len lt d)⟩
  ·rcases h2 with ⟨c,d⟩|⟨rfl,d⟩
   ·exact .inl ⟨c,(GV.len lt b).trans d⟩
   ·exact .inr ⟨rfl,GV.trans ht b d⟩
 |[],_,_,h,_|_::_,[],_,h,_|_::_,_::_,[],_,h=>by cases h
end
section
variable {X:Cx}{WX:Str->Hp->Prop}{c:Bool}{P0:C6}{P:Addr->Prop}{H:Hp}{σ:St}{ρ:A8}{a b e:Expr}{f g g2:A8->M D}{pos:Pos}
theorem EJ:∀ {ns:List Int}{us:List Value},Vals (ns.map V.int) us->IntsAre us ns
 |[],_,.nil=>.nil
 |n::r,_,.cons h t=>by obtain⟨tk,rfl⟩:=h;exact .cons _ _ (EJ t)
theorem DR:∀ {ds:List D}{ns:List Int},BQ ds=some ns->ds=ns.map D.int
 |[],ns,h=>by cases h;rfl
 | .int b::r,bs,h=>by
  rw[BQ] at h;cases q:BQ r with
  |none=>rw[q] at h;cases h
  |some jo=>rw[q] at h;cases h;rw[DR q];rfl
 | .Ax::r,bs,h| .bl _::r,bs,h| .str _::r,bs,h| .tup _::r,bs,h| .lst _::r,bs,h| .C9 _::r,bs,h| .B0 _ _ _::r,bs,h| .ins _ _ _::r,bs,h=>by cases h
theorem CJ {K:za}{H:Hp}:∀ {vs:List V}{bs:List Int},Ac K H vs (bs.map D.int)->vs=bs.map V.int
 |_,[],.nil=>rfl
 |_,b::r,.cons h t=>by cases h;rw[CJ t];rfl
end
theorem TK {P P2:Addr->Prop}{H H':Hp}(t:Tr P P H P2 H'){a:Addr}(h:P2 a)(hn:¬ P a):H a=none:=by
 cases q:H a with
 |none=>rfl
 |some o =>
  have:=t.1 a o (by rw[Aj hn];exact q);exact ((Ag this).1 h).elim
section
variable {X:Cx}{WX:Str->Hp->Prop}{c:Bool}{P0:C6}{P:Addr->Prop}{H:Hp}{σ:St}{ρ:A8}{a b e:Expr}{f g:A8->M D}{pos:Pos}
def RE:V->List V->Hp->VK->Prop:=λ x vs H Q=>∃(l:Addr) (xs:List V) (k:Nat) (y:V),x=.ref l/\vs=[.int (k:Int),y]/\H l=some (.lst xs)/\k<=xs.length/\xs.length<sizeLine/\Q .Ax (upd H l (.lst (xs.take k++y::xs.drop k)))
theorem KS:∀ {xs:List V}{us:List Value}{y:V}{w:Value},Vals xs us->∀k:Nat,RelV y w->Vals (xs.take k++y::xs.drop k) (us.take k++w::us.drop k)
 |_,_,_,_,r,0,h=>.cons h r
 |_,_,_,_,.nil,k+1,h=>.cons h .nil
 |_,_,_,_,.cons a t,k+1,h=>.cons a (KS t k h)
theorem Pj {prog:Program}{wd:World}{A:Around}{E:Value->Shared->Prop}{s:Shared}{Q:Value->Shared->Prop}{l:Addr}{items:Array Value}{n:Nat}(x:Int)(u:Tok)(y:Value)(hc:¬(!Builtin.List.listFitsIndex x)=true)(hs:items.size<=sizeLine)
 (e:s.heap.get? l=some {cls:=.type "list",data:=.seq items n})
 (h:Q .none {s with heap:=s.heap.update l (Obj.mapSeq λ xs=>(xs.extract 0 (if x<0 then (x+(xs.size:Int)).toNat else min x.toNat xs.size)).push y++xs.extract (if x<0 then (x+(xs.size:Int)).toNat else min x.toNat xs.size)),toks:=s.toks}):wpAny (model prog wd) A (call (.builtin "list.insert") [.ref l,.int x u,y]) Q E s:=by
 have hm:=PySem.AutoSeq1.list_insert_list_int_val_1 l items n x u y hc hs;have ha:=PySem.F.args_list_insert_3 (.ref l) (.int x u) y;exact call_meets PySem.F.slot_list_insert ⟨_,e,rfl⟩ PySem.F.entry_list_insert ha hm ⟨e,h⟩
theorem NA:Y6 X "list.insert" RE:=by
 intro pins s σ H x vs v us Q I rx rv h;obtain⟨l,xs,k,y,rfl,rfl,hH,hk,hz,q⟩:=h;cases rx;obtain⟨u,w,rfl,ru,aI⟩:=rv.two;obtain⟨tk,rfl⟩:=ru;obtain⟨z,aa,n,r,hl,e⟩:=I.Xf hH;have hlen:=r.length;have jp:=Jm;have ez:¬ (!Builtin.List.listFitsIndex (k:Int))=true:=by
  unfold Builtin.List.listFitsIndex;simp;omega
 have hsz:aa.toArray.size<=sizeLine:=by rw[zo,<-hl];exact yw hz
 refine Pj (k:Int) tk w ez hsz e ?_;refine⟨.Ax,_,I.Xe (its':=aa.take k++w::aa.drop k) hH e ?_ ?_ ?_,rfl,q⟩
 ·have e1:¬ ((k:Int)<0):=by omega
  have e2:min (k:Int).toNat aa.toArray.size=k:=by rw[Int.toNat_natCast,zo];omega
  simp only[e1,if_false,e2];apply Array.toList_inj.mp;simp;rw[zX (by rw[y6];exact zm _)]
 ·exact KS r k aI
 ·rw[zV,zp,yi,y6];omega
noncomputable def NC (i:Nat)(ρ:A8)(mk md:M D):M Out:=match ρ[i]? with
 |some (some (.own ds))=>mk.bind λ k=>md.bind λ d=>match k with
  | .int j=>if 0<=j/\j.toNat<=ds.length/\ds.length<1000 then .ok (.next (ρ.set i (some (.own (ds.take j.toNat++d::ds.drop j.toNat))))) else .bad
  |_=>.bad
 |_=>.bad
theorem J6 {K:za}{H:Hp}:∀ {vs:List V}{ds:List D}(n:Nat),Ac K H vs ds->Ac K H (vs.take n) (ds.take n)
 |_,_,0,_=>by rw[List.take_zero,List.take_zero];exact .nil
 |_,_,_+1,.nil=>.nil
 |_,_,n+1,.cons h t=>by rw[List.take_succ_cons,List.take_succ_cons];exact .cons h (J6 n t)
theorem J7 {K:za}{H:Hp}:∀ {vs:List V}{ds:List D}(n:Nat),Ac K H vs ds->Ac K H (vs.drop n) (ds.drop n)
 |_,_,0,h=>h
 |_,_,_+1,.nil=>.nil
 |_,_,n+1,.cons h t=>by rw[List.drop_succ_cons,List.drop_succ_cons];exact J7 n t
theorem KU {K:za}{H:Hp}:∀ {vs ws:List V}{ds es:List D},Ac K H vs ds->Ac K H ws es->Ac K H (vs++ws) (ds++es)
 |_,_,_,_,.nil,k=>k
 |_,_,_,_,.cons h t,k=>.cons h (KU t k)
theorem ND (i:Nat){x:Str}{p1 apos ai:Pos}(hv:PE X (.Name x p1) (Nd i))(hk:DE X WX true a f)(hd:DE X WX true b g)(hs:starEach [a,b] X.env=(false,eval a X.env)::starEach [b] X.env:=by rfl)(bO:starEach [b] X.env=[(false,eval b X.env)]:=by rfl)
 (cB:swapsWith (.Call (.Attribute (.Name x p1) "insert" apos) [a,b] [] ai) none pos.line X.env=pure false:=by rfl)
 (av:attributeBase (.Name x p1) "insert" X.env (eval (.Name x p1) X.env)=eval (.Name x p1) X.env:=by rfl)
 (aR:((backTo ai (starEach [a,b] X.env)).all (λ x => !x.1)&&(backToKw ai (keywordEach [] X.env)).all (λ x=>x.1.isSome)&&decide (([a,b]:List Expr).length+([]:List Keyword).length+(if ([]:List Keyword).isEmpty then 0 else 1)<30))=true:=by rfl)
 (aw:(apos.endLine==ai.line)=true:=by rfl) (a7:(backTo ai (starEach [b] X.env)).any (·.1)=false:=by rfl):
 DS X WX (.Expr (.Call (.Attribute (.Name x p1) "insert" apos) [a,b] [] ai) pos) (λ ρ=>NC i ρ (f ρ) (g ρ)):=by
 obtain⟨ta,a1,a2⟩:=hk;obtain⟨tb,b1,b2⟩:=hd;refine⟨_,My (Sg PySem.F.plainAttrs_list PySem.F.slot_list_insert PySem.F.type_list_insert NA hv (BF a1 (BF b1 D7 bO) hs) av aR aw hs a7) cB,λ P0 P σ H Z ρ E h=>?_⟩;dsimp only at h;unfold NC at h;split at h
 ·rename_i ds e1;obtain⟨p,xs,h1,h2,h3,h4,h5⟩:=E.own i ds e1;refine⟨_,h1,.inl ⟨rfl,xs,.of h2⟩,a2 P0 P σ H _ ρ E ?_⟩;cases q:f ρ with
  |bad=>rw[q] at h;exact h
  |ex y=>rw[q] at h;exact λ H' s=>h H' P (E.tr s)
  |ok k =>
   rw[q] at h;simp only[M.Aa] at h;intro w H1 s1 hw;have E1:=E.same s1;refine b2 P0 P σ H1 _ ρ E1 ?_;cases q2:g ρ with
   |bad=>rw[q2] at h;exact h
   |ex y=>rw[q2] at h;exact λ H' s=>h H' P ((E.tr s1).trans (E1.tr s))
   |ok d =>
    rw[q2] at h;simp only[M.Aa] at h;intro v H2 s2 iw;have E2:=E1.same s2;have e6:=s1.trans s2;split at h
    ·rename_i j;cases hw;by_cases hj:0<=j/\j.toNat<=ds.length/\ds.length<1000
     ·rw[if_pos hj] at h;have ix:((j.toNat:Nat):Int)=j:=Int.toNat_of_nonneg hj.1;have fZ:=h5.mono e6.del;refine⟨p,xs,j.toNat,v,rfl,by rw[ix],e6 _ _ h2,by rw[h5.length];exact hj.2.1,AZ (by rw[h5.length];exact yw hj.2.2),?_⟩;obtain⟨E3,t3⟩:=E2.mut e1 h1 h3 h4 (KU (J6 j.toNat fZ) (.cons iw (J7 j.toNat fZ)));exact h _ _ _ ((E.tr e6).trans t3) E3
     ·rw[if_neg hj] at h;exact h.elim
    ·exact h.elim
 ·exact h.elim
noncomputable def W0 (ds:List D):M D:=match ds with
 |[.lst xs]=>(match GR xs with|some bs=>.ok (.bl (bs.any id))|none=>.bad)
 |_=>.bad
end
noncomputable def kids:OT->List OT
 | .sh _=>[]
 | .lst ts| .tup ts| .B0 _ _ ts| .ins _ _ ts=>ts
noncomputable def Ga:OT->List OT->OT
 | .sh d,_=>.sh d
 | .lst _,ts=>.lst ts
 | .tup _,ts=>.tup ts
 | .B0 b ks _,ts=>.B0 b ks ts
 | .ins x ns _,ts=>.ins x ns ts
noncomputable def Fg:OT->List Nat->Option OT
 |t,[]=>some t
 |t,j::π=>match (kids t)[j]? with|some s=>Fg s π|none=>none
noncomputable def CK:OT->List Nat->OT->OT
 |_,[],u=>u
 |t,j::π,u=>match (kids t)[j]? with|some s=>Ga t ((kids t).set j (CK s π u))|none=>t
@[simp] theorem Pk (t:OT):Fg t []=some t:=by unfold Fg;rfl
@[simp] theorem Dj (t u:OT):CK t [] u=u:=by unfold CK;rfl
theorem NE {t s:OT}{j:Nat}{π:List Nat}(h:(kids t)[j]?=some s):Fg t (j::π)=Fg s π:=by rw[Fg,h]
theorem NF {t s u:OT}{j:Nat}{π:List Nat}(h:(kids t)[j]?=some s):CK t (j::π) u=Ga t ((kids t).set j (CK s π u)):=by rw[CK,h]
section
variable {K:za}{H H':Hp}{P P':Addr->Prop}
def BK (K:za)(H:Hp)(P:Addr->Prop)(v:V)(t:OT)(q:List Addr)(xs:List V):Prop:=match t with
 | .sh _=>False
 | .lst ts=>∃p,v=.ref p/\q=[p]/\H p=some (.lst xs)
 | .tup ts=>∃p,v=.ref p/\q=[]/\del H P p=some (.tup xs)
 | .B0 false ks ts=>∃p kvs,v=.ref p/\q=[p]/\H p=some (.dK kvs)/\ks=(kvs.map λ kv=>BB kv.1)/\xs=kvs.map yj
 | .B0 true ks ts=>∃p kvs,v=.ref p/\q=[p]/\H p=some (.dT kvs)/\ks=(kvs.map λ kv=>.tup (kv.1.map BB))/\xs=kvs.map yj
 | .ins x ns ts=>∃p C dx fs,v=.ref p/\q=[p]/\zg K mainGlobals x=some (some (.ref C))/\H p=some (.ins C dx fs)/\ns=fs.map zG/\xs=fs.map yj
theorem BK.own {v:V}{t:OT}{q:List Addr}{xs:List V}{fp:List Addr}(h:BK K H P v t q xs)(r:Ao K H P xs (kids t) fp):B3 K H P v t (q++fp):=by
 cases t with
 |sh d=>exact h.elim
 |lst ts=>obtain⟨p,rfl,rfl,h⟩:=h;exact .lst h r
 |tup ts=>obtain⟨p,rfl,rfl,h⟩:=h;exact .tup h r
 |B0 b ks ts =>
  cases b with
  |false=>obtain⟨p,kvs,rfl,rfl,h,rfl,rfl⟩:=h;exact .dK h r
  |true=>obtain⟨p,kvs,rfl,rfl,h,rfl,rfl⟩:=h;exact .dT h r
 |ins x ns ts=>obtain⟨p,C,dx,fs,rfl,rfl,n,h,rfl,rfl⟩:=h;exact .ins n h r
theorem B3.node {v:V}{t:OT}{fp:List Addr}(h:B3 K H P v t fp)(hk:kids t≠[]\/∀d,t≠.sh d):∃q xs fq,fp=q++fq/\BK K H P v t q xs/\Ao K H P xs (kids t) fq:=by
 cases h with
 |sh h=>rcases hk with hk|hk;exact (hk rfl).elim;exact (hk _ rfl).elim
 |lst h r=>exact⟨[_],_,_,rfl,⟨_,rfl,rfl,h⟩,r⟩
 |tup h r=>exact⟨[],_,_,rfl,⟨_,rfl,rfl,h⟩,r⟩
 |dK h r|dT h r=>exact⟨[_],_,_,rfl,⟨_,_,rfl,rfl,h,rfl,rfl⟩,r⟩
 |ins n h r=>exact⟨[_],_,_,rfl,⟨_,_,_,_,rfl,rfl,n,h,rfl,rfl⟩,r⟩
theorem BK.move (sm:Ab (del H P) (del H' P')){v:V}{t:OT}{q:List Addr}{xs:List V}(k:∀a∈q,H' a=H a)(h:BK K H P v t q xs):BK K H' P' v t q xs:=by
 cases t with
 |sh d=>exact h.elim
 |lst ts=>obtain⟨p,rfl,rfl,h⟩:=h;exact⟨p,rfl,rfl,(k p zb).trans h⟩
 |tup ts=>obtain⟨p,rfl,rfl,h⟩:=h;exact⟨p,rfl,rfl,sm _ _ h⟩
 |B0 b ks ts =>
  cases b with
  |false|true=>obtain⟨p,kvs,rfl,rfl,h,rfl,rfl⟩:=h;exact⟨p,kvs,rfl,rfl,(k p zb).trans h,rfl,rfl⟩
 |ins x ns ts=>obtain⟨p,C,dx,fs,rfl,rfl,n,h,rfl,rfl⟩:=h;exact⟨p,C,dx,fs,rfl,rfl,n,(k p zb).trans h,rfl,rfl⟩
theorem BK.kids {v:V}{t:OT}{q:List Addr}{xs:List V}(h:BK K H P v t q xs)(ts:List OT):BK K H P v (Ga t ts) q xs:=by
 cases t with
 |sh d=>exact h.elim
 |lst us|tup us=>exact h
 |B0 b ks us=>cases b<;>exact h
 |ins x ns us=>exact h
theorem JE {v:V}{t:OT}{q:List Addr}{xs:List V}(h:BK K H P v t q xs)(ts:List OT):L2.kids (Ga t ts)=ts:=by
 cases t with
 |sh d=>exact h.elim
 |lst us|tup us|B0 b ks us|ins x ns us=>rfl
theorem BK.inj {v:V}{t:OT}{q q':List Addr}{xs b5:List V}(h:BK K H P v t q xs)(h':BK K H P v t q' b5):q=q'/\xs=b5:=by
 cases t with
 |sh d=>exact h.elim
 |lst ts|tup ts=>obtain⟨p,rfl,rfl,h⟩:=h;obtain⟨p',e,rfl,h'⟩:=h';cases e;rw[h] at h';cases h';exact⟨rfl,rfl⟩
 |B0 b ks ts =>
  cases b with
  |false|true=>obtain⟨p,kvs,rfl,rfl,h,_,rfl⟩:=h;obtain⟨p',e7,e,rfl,h',_,rfl⟩:=h';cases e;rw[h] at h';cases h';exact⟨rfl,rfl⟩
 |ins x ns ts=>obtain⟨p,C,dx,fs,rfl,rfl,n,h,_,rfl⟩:=h;obtain⟨p',C',jq,bf,e,rfl,n',h',_,rfl⟩:=h';cases e;rw[h] at h';cases h';exact⟨rfl,rfl⟩
inductive GX (K:za) (H:Hp) (P:Addr->Prop):V->OT->List Nat->V->OT->Prop
 |nil {v t}:GX K H P v t [] v t
 |cons {v t q xs j x s π v1 t1}:BK K H P v t q xs->xs[j]?=some x->(kids t)[j]?=some s->GX K H P x s π v1 t1->GX K H P v t (j::π) v1 t1
theorem GX.sub {v v1:V}{t t1:OT}{π:List Nat}(h:GX K H P v t π v1 t1):Fg t π=some t1:=by
 induction h with
 |nil=>exact Pk _
 |cons _ _ hs _ ih=>rw[NE hs];exact ih
theorem Ao.get:∀ {xs:List V}{ts:List OT}{fp:List Addr}{j:Nat}{x:V}{s:OT},Ao K H P xs ts fp->xs[j]?=some x->ts[j]?=some s->∃pre fs post,fp=pre++fs++post/\B3 K H P x s fs
 |_,_,_,_,_,_,.nil,e,_=>by simp at e
 |_,_,_,0,_,_,.cons h r,e,e'=>by
  simp at e e';subst e;subst e';exact⟨[],_,_,rfl,h⟩
 |_,_,_,j+1,_,_,.cons (fp:=f1) h r,e,e'=>by
  obtain⟨pre,fs,post,z,q⟩:=Ao.get r (by simpa using e) (by simpa using e');exact⟨f1++pre,fs,post,by rw[z];simp,q⟩
theorem Ao.len:∀ {xs:List V}{ts:List OT}{fp:List Addr},Ao K H P xs ts fp->xs.length=ts.length
 |_,_,_,.nil=>rfl
 |_,_,_,.cons _ r=>by rw[zp,zp,r.len]
theorem B3.part {v v1:V}{t t1:OT}{π:List Nat}{fp:List Addr}(h:B3 K H P v t fp)(s:GX K H P v t π v1 t1):∃ak,B3 K H P v1 t1 ak/\(∀a∈ak,a∈fp)/\(fp.Nodup->ak.Nodup):=by
 induction s generalizing fp with
 |nil=>exact⟨fp,h,λ _ h=>h,λ h=>h⟩
 |cons n hx hs _ ih =>
  obtain⟨q,xs,fq,rfl,n',r⟩:=h.node (.inl λ z=>by rw[z] at hs;cases hs);obtain⟨rfl,rfl⟩:=n.inj n';obtain⟨pre,fs,post,rfl,o⟩:=r.get hx hs;obtain⟨ak,o1,k,kn⟩:=ih o;exact⟨ak,o1,λ a ha=>ze _ (zx _ (ze _ (k a ha))),λ nd=>kn (zE.mp (zE.mp (zE.mp nd).2.1).1).2.1⟩
theorem Ao.put (sm:Ab (del H P) (del H' P')):∀ {xs:List V}{ts:List OT}{fp:List Addr}{j:Nat}{x:V}{s s':OT}{fs bf:List Addr},Ao K H P xs ts fp->xs[j]?=some x->ts[j]?=some s->B3 K H P x s fs->B3 K H' P' x s' bf->(∀a∈fp,a∉fs->H' a=H a)->fp.Nodup->bf.Nodup->(∀a∈bf,a∈fp->a∈fs)->
 ∃ad,Ao K H' P' xs (ts.set j s') ad/\ad.Nodup/\∀a∈ad,a∈bf\/(a∈fp/\a∉fs)
 |_,_,_,_,_,_,_,_,_,.nil,e,_,_,_,_,_,_,_=>by simp at e
 |_,_,_,0,x,s,s',fs,bf,.cons (fp:=f1) (fq:=f2) h r,e,e',o,o',k,nd,cH,dj=>by
  simp at e e';subst e;subst e';have:=h.Bu o;subst this;have aO:=zE.mp nd;have k2:∀a∈f2,a∉f1:=λ a ha hb=>aO.2.2 a hb a ha rfl;refine⟨bf++f2,.cons o' (r.move sm λ a ha=>k a (ze _ ha) (k2 a ha)),zE.mpr ⟨cH,aO.2.1,λ a ha b hb z=>?_⟩,λ a ha=>?_⟩
  ·subst z;exact k2 a hb (dj a ha (ze _ hb))
  ·rcases zC.mp ha with ha|ha
   ·exact .inl ha
   ·exact .inr ⟨ze _ ha,k2 a ha⟩
 |_,_,_,j+1,x,s,s',fs,bf,.cons (vs:=fT) (ts:=iy) (fp:=f1) (fq:=f2) h r,e,e',o,o',k,nd,cH,dj=>by
  have aO:=zE.mp nd;have e2:fT[j]?=some x:=by simpa using e
  have e3:iy[j]?=some s:=by simpa using e'
  obtain⟨pre,fx,post,hf,ox⟩:=r.get e2 e3;have:=ox.Bu o;subst this;have k1:∀a∈f1,a∉fx:=λ a ha hb=>aO.2.2 a ha a (by rw[hf];exact zx _ (ze _ hb)) rfl;obtain⟨ad,q1,q2,q3⟩:=Ao.put sm r e2 e3 o o' (λ a ha hn=>k a (ze _ ha) hn) aO.2.1 cH (λ a ha hb=>dj a ha (ze _ hb));refine⟨f1++ad,.cons (h.move sm λ a ha=>k a (zx _ ha) (k1 a ha)) q1,zE.mpr ⟨aO.1,q2,λ a ha b hb z=>?_⟩,λ a ha=>?_⟩
  ·subst z;rcases q3 a hb with z|z
   ·exact k1 a ha (dj a z (zx _ ha))
   ·exact aO.2.2 a ha a z.1 rfl
  ·rcases zC.mp ha with ha|ha
   ·exact .inr ⟨zx _ ha,k1 a ha⟩
   ·rcases q3 a ha with z|z
    ·exact .inl z
    ·exact .inr ⟨ze _ z.1,z.2⟩
theorem B3.put (sm:Ab (del H P) (del H' P')){v v1:V}{t t1 u:OT}{π:List Nat}{fp ak fu:List Addr}(h:B3 K H P v t fp)(s:GX K H P v t π v1 t1)(o:B3 K H P v1 t1 ak)(o':B3 K H' P' v1 u fu)(k:∀a∈fp,a∉ak->H' a=H a)(nd:fp.Nodup)(cH:fu.Nodup)(dj:∀a∈fu,a∈fp->a∈ak):
 ∃ad,B3 K H' P' v (CK t π u) ad/\ad.Nodup/\∀a∈ad,a∈fu\/(a∈fp/\a∉ak):=by
 induction s generalizing fp with
 |nil =>
  rw[Dj];exact⟨fu,o',cH,λ a ha=>.inl ha⟩
 | @cons v t q xs j x s π v1 t1 n hx hs s1 ih =>
  obtain⟨q',b5,fq,rfl,n',r⟩:=h.node (.inl λ z=>by rw[z] at hs;cases hs);obtain⟨rfl,rfl⟩:=n.inj n';have cI:=zE.mp nd;obtain⟨pre,fs,post,hf,ox⟩:=r.get hx hs;have sub:∀a∈fs,a∈fq:=λ a ha=>by rw[hf];exact zx _ (ze _ ha)
  have iz:fs.Nodup:=by
   have:=cI.2.1;rw[hf] at this;exact (zE.mp (zE.mp this).1).2.1
  obtain⟨fz,oz,kz,_⟩:=ox.part s1;have:=oz.Bu o;subst this;obtain⟨bf,q1,q2,q3⟩:=ih ox o o' (λ a ha hn=>k a (ze _ (sub a ha)) hn) iz (λ a ha hb=>dj a ha (ze _ (sub a hb)));have qf:∀a∈q,a∉fs:=λ a ha hb=>cI.2.2 a ha a (sub a hb) rfl;have kq:∀a∈q,H' a=H a:=λ a ha=>k a (zx _ ha) λ z=>qf a ha (kz a z);obtain⟨ad,p1,p2,p3⟩:=r.put sm hx hs ox q1 (λ a ha hn=>k a (ze _ ha) λ z=>hn (kz a z)) cI.2.1 q2 (λ a ha hb=>by
   rcases q3 a ha with z|z
   ·exact kz a (dj a z (ze _ hb))
   ·exact z.1)
  rw[NF hs];have n2:=(n.move sm kq).kids ((kids t).set j (CK s π u));have o2:=n2.own (fp:=ad) (by rw[JE n];exact p1);refine⟨q++ad,o2,zE.mpr ⟨cI.1,p2,λ a ha b hb z=>?_⟩,λ a ha=>?_⟩
  ·subst z;rcases p3 a hb with z|z
   ·rcases q3 a z with y|y
    ·exact qf a ha (kz a (dj a y (zx _ ha)))
    ·exact qf a ha y.1
   ·exact cI.2.2 a ha a z.1 rfl
  ·rcases zC.mp ha with ha|ha
   ·exact .inr ⟨zx _ ha,λ z=>qf a ha (kz a z)⟩
   ·rcases p3 a ha with z|z
    ·rcases q3 a z with y|y
     ·exact .inl y
     ·exact .inr ⟨ze _ (sub a y.1),y.2⟩
    ·exact .inr ⟨ze _ z.1,λ y=>z.2 (kz a y)⟩
end
def PU (P:Addr->Prop)(fp:List Addr):Addr->Prop:=λ a=>P a\/a∈fp
theorem JF {P:Addr->Prop}{fp:List Addr}:∀a,P a->PU P fp a:=λ a h=>.inl h
theorem CL {P:Addr->Prop}{fp:List Addr}{H H':Hp}(s:Ab H H')(hn:∀a∈fp,H a=none):Ab (del H P) (del H' (PU P fp)):=λ b o e=>by
 obtain⟨h1,h2⟩:=Ag e;rw[Aj λ z=>z.elim h1 λ w=>by rw[hn b w] at h2;cases h2];exact s b o h2
theorem LU {P:Addr->Prop}{H:Hp}:del H (PU P [])=del H P:=by
 funext b;by_cases h:P b
 ·rw[Eg h,Eg (.inl h)]
 ·rw[Aj h,Aj λ z=>z.elim h λ w=>by cases w]
theorem JG {P:Addr->Prop}{fp:List Addr}{K:za}{H':Hp}{Q:Addr->Prop}{v:V}{t:OT}(hP:∀a,P a->Cr H' a)(o:B3 K H' Q v t fp):∀a,PU P fp a->Cr H' a:=λ a h=>h.elim (hP a) (o.BS a)
theorem RF {P:Addr->Prop}{fp:List Addr}{K:za}{H':Hp}{Q:Addr->Prop}{v:List V}{t:List OT}(hP:∀a,P a->Cr H' a)(o:Ao K H' Q v t fp):∀a,PU P fp a->Cr H' a:=λ a h=>h.elim (hP a) (o.BS a)
theorem Ae.more {K:za}{P0:C6}{P P':Addr->Prop}{H H':Hp}{σ:St}{ρ:A8}(E:Ae K P0 P H σ ρ)(e:Ab H H')(hs:∀a,P a->P' a)(ht:∀a,P' a->Cr H' a)(sm:Ab (del H P) (del H' P')):Ae K P0 P' H' σ ρ:=by
 have keep:∀(c:Cl) (v:V) (fp:List Addr),Bz K H P c v fp->∀a∈fp,H' a=H a:=λ c v fp o a ha=>by
  obtain⟨xs,q⟩:=o.at a ha;rw[q];exact e _ _ q
 exact⟨λ a h=>hs a (E.sub a h),ht,λ i d h=>let ⟨v,h1,h2⟩:=E.val i d h;⟨v,h1,h2.mono sm⟩,
  λ i c h io=>let ⟨v,fp,h1,h2,h3,h4⟩:=E.ows i c h io;⟨v,fp,h1,h2.move sm (keep c v fp h2),λ a ha=>⟨hs a (h3 a ha).1,(h3 a ha).2⟩,h4⟩,
  λ i j c c' v v' fp ad hi hj si sj h h' ab=>E.OP sm (λ v fp _ o a ha=>keep _ _ _ o a ha) (λ v fp _ o a ha=>keep _ _ _ o a ha) hi hj si sj h h' ab,E.len,E.pin⟩
def RG (K:za)(WX:Str->Hp->Prop)(P:Addr->Prop)(H:Hp)(Q:VK):M OT->Prop
 | .ok t=>∀v fp H',Ab H H'->(∀a∈fp,H a=none)->fp.Nodup->B3 K H' (PU P fp) v t fp->Q v H'
 | .ex x=>∀H',Ab H H'->WX x H'
 | .bad=>False
def Yc (K:za)(WX:Str->Hp->Prop)(P:Addr->Prop)(H:Hp)(Q:List V->Hp->Prop):M (List OT)->Prop
 | .ok t=>∀v fp H',Ab H H'->(∀a∈fp,H a=none)->fp.Nodup->Ao K H' (PU P fp) v t fp->Q v H'
 | .ex x=>∀H',Ab H H'->WX x H'
 | .bad=>False
theorem DU {H H':Hp}(s:Ab H H'){a:Addr}(h:H' a=none):H a=none:=by
 cases q:H a with
 |none=>rfl
 |some o=>rw[s a o q] at h;cases h
section
variable {K:za}{WX:Str->Hp->Prop}{P:Addr->Prop}{H H':Hp}
theorem RG.same {Q:VK}{m:M OT}(h:RG K WX P H Q m)(e:Ab H H'):RG K WX P H' Q m:=by
 cases m with
 |ok d=>exact λ v fp H2 q hn nd o=>h v fp H2 (e.trans q) (λ a ha=>DU e (hn a ha)) nd o
 |ex x=>exact λ H2 q=>h H2 (e.trans q)
 |bad=>exact h
end
def DN (X:Cx)(WX:Str->Hp->Prop)(e:Expr)(f:A8->M OT):Prop:=
 ∃t,PE X e t/\∀P0 P σ H Q ρ,Ae X.K P0 P H σ ρ->RG X.K WX P H Q (f ρ)->t σ H Q
def XT (X:Cx)(WX:Str->Hp->Prop)(es:List Expr)(f:A8->M (List OT)):Prop:=
 ∃t,PA X es t/\(∀P0 P σ H Q ρ,Ae X.K P0 P H σ ρ->Yc X.K WX P H Q (f ρ)->t σ H Q)/\∀ρ ts,f ρ=.ok ts->ts.length=es.length
noncomputable def W3 (d:D):M OT:=.ok (.sh d)
noncomputable def W4 (t:OT):M D:=.ok (er t)
section
variable {X:Cx}{WX:Str->Hp->Prop}{c:Bool}{P0:C6}{P:Addr->Prop}{H:Hp}{σ:St}{ρ:A8}{a b e:Expr}{f g:A8->M D}{fn:A8->M OT}{pos:Pos}{es:List Expr}
theorem Bp (h:DE X WX true e f):DN X WX e (λ ρ=>(f ρ).bind W3):=by
 obtain⟨t,h1,h2⟩:=h;refine⟨t,h1,λ P0 P σ H Q ρ E g=>h2 P0 P σ H Q ρ E ?_⟩;dsimp only at g;cases q:f ρ with
 |bad|ex x=>rw[q] at g;exact g
 |ok d=>rw[q] at g;exact λ v H' s hv=>g v [] H' s (λ a ha=>by cases ha) yk (.sh (by rw[LU];exact hv))
theorem AO (h:DN X WX e fn):DE X WX c e (λ ρ=>(fn ρ).bind W4):=by
 suffices z:DE X WX true e (λ ρ=>(fn ρ).bind W4) by
  cases c with
  |true=>exact z
  |false=>exact OQ z
 obtain⟨t,h1,h2⟩:=h;refine⟨t,h1,λ P0 P σ H Q ρ E g=>h2 P0 P σ H Q ρ E ?_⟩;dsimp only at g;cases q:fn ρ with
 |bad|ex x=>rw[q] at g;exact g
 |ok d =>
  rw[q] at g;exact λ v fp H' s hn nd o=>g v H' s (o.has JF λ a ha z=>(E.BS a z).no (hn a ha))
theorem RH:XT X WX [] (λ _=>.ok []):=⟨_,D7,λ P0 P σ H Q ρ E h=>h [] [] H (Ab.refl H) (λ a ha=>by cases ha) yk .nil,λ ρ ds h=>by cases h;rfl⟩
theorem TM {P:Addr->Prop}{fp:List Addr}{p:Addr}{H:Hp}{o:HO}(hn:H p=none)(hP:∀a,PU P fp a->Cr H a):Ab (del H (PU P fp)) (del (upd H p o) (PU P (p::fp))):=λ b u e=>by
 obtain⟨h1,h2⟩:=Ag e;have hb:b≠p:=Aw h2 hn;rw[Aj λ z=>z.elim (λ z=>h1 (.inl z)) λ w=>(zk.mp w).elim hb λ w=>h1 (.inr w),A5 hb];exact h2
theorem TN {fs:A8->M (List OT)}(ha:XT X WX es fs)(hz:es.length<=1000:=by decide):DN X WX (.List es pos) (λ ρ=>(fs ρ).bind λ ts=>.ok (.lst ts)):=by
 obtain⟨ta,a1,a2,a3⟩:=ha;refine⟨_,Oy a1,λ P0 P σ H Q ρ E h=>?_⟩;dsimp only at h;refine a2 P0 P σ H _ ρ E ?_;cases q:fs ρ with
 |bad|ex y=>rw[q] at h;exact h
 |ok ts =>
  rw[q] at h;simp only[M.Aa] at h;intro vs fp H1 s1 n1 e8 o1;have hP:=RF (E.same s1).BS o1;refine⟨yw (AZ (by rw[o1.len,a3 ρ ts q];exact hz)),λ p hp=>?_⟩;have ab:∀a∈fp,a≠p:=λ a ha z=>(o1.BS a ha).no (by rw[z];exact hp);exact h _ (p::fp) _ (s1.trans (Ay hp _)) (λ a ha=>(zk.mp ha).elim (λ z=>by rw[z];exact DU s1 hp) (n1 a)) (zR.mpr ⟨λ z=>ab p z rfl,e8⟩) (.lst Ad (o1.move (TM hp hP) λ a ha=>A5 (ab a ha)))
theorem Ac.ows {K:za}{H:Hp}{P:Addr->Prop}:∀ {xs:List V}{ds:List D},Ac K (del H P) xs ds->Ao K H P xs (ds.map .sh) []
 |_,_,.nil=>.nil
 |_,_,.cons h t=>.cons (.sh h) t.ows
theorem RG.Iv {K:za}{WX:Str->Hp->Prop}{P:Addr->Prop}{H H1:Hp}{Q:VK}{xs:List V}{ds:List D}(h:RG K WX P H Q (.ok (.lst (ds.map .sh))))(s1:Ab H H1)(hx:Ac K (del H1 P) xs ds):∀p,H1 p=none->Q (.ref p) (upd H1 p (.lst xs)):=λ p hp=>by
 have hn:∀a∈[p],H1 a=none:=λ a ha=>by rw[zj.mp ha];exact hp
 exact h _ [p] _ (s1.trans (Ay hp _)) (λ a ha=>DU s1 (hn a ha)) (by simp) (.lst Ad (hx.mono (CL (Ay hp _) hn)).ows)
theorem Ao.WD {K:za}{H:Hp}{P:Addr->Prop}:∀ {xs:List V}{ds:List D}{fp:List Addr},Ao K H P xs (ds.map .sh) fp->fp=[]/\Ac K (del H P) xs ds
 |_,[],_,.nil=>⟨rfl,.nil⟩
 |_,d::ds,_,.cons (.sh h) r=>by
  obtain⟨rfl,q⟩:=Ao.WD r;exact⟨rfl,.cons h q⟩
noncomputable def FY:Cl->Cl
 | .val d=>.val d
 | .own ds=>.val (.lst ds)
 | .ow (.rows D4)=>.val (.lst (D4.map D.lst))
 | .ow (.G5 _ ds)=>.val (.lst ds)
 | .ow (.tree _ t)=>.val (er t)
noncomputable def D5 (ρ:A8):A8:=ρ.map λ o=>o.map FY
@[simp] theorem GY:D5 []=[]:=rfl
@[simp] theorem Fh (ρ:A8):D5 (none::ρ)=none::D5 ρ:=rfl
@[simp] theorem Fi (c:Cl) (ρ:A8):D5 (some c::ρ)=some (FY c)::D5 ρ:=rfl
theorem Ae.low {K:za}{P0:C6}{P:Addr->Prop}{H:Hp}{σ:St}{ρ:A8}(E:Ae K P0 P H σ ρ):Ae K P0 P0 H σ (D5 ρ):=by
 have key:∀(i:Nat) (c:Cl),(D5 ρ)[i]?=some (some c)->∃c',ρ[i]?=some (some c')/\c=FY c':=λ i c h=>by
  unfold D5 at h;rw[zF] at h;cases q:ρ[i]? with
  |none=>rw[q] at h;cases h
  |some o =>
   rw[q] at h;cases o with
   |none=>cases h
   |some c'=>cases h;exact⟨c',rfl,rfl⟩
 have e9:∀c,Dd (FY c)=false:=λ c=>by
  cases c with
  |val d|own ds=>rfl
  |ow o=>cases o<;>rfl
 have cJ:∀c,IW (FY c)=none:=λ c=>by
  cases c with
  |val d|own ds=>rfl
  |ow o=>cases o<;>rfl
 have i4:∀c v fp,¬ Bz K H P0 (FY c) v fp:=λ c v fp h=>by
  cases c with
  |val d|own ds=>exact h
  |ow o=>cases o<;>exact h
 refine⟨λ _ h=>h,λ a h=>E.BS a (E.sub a h),λ i d h=>?_,λ i c h io=>?_,λ i j c c' v v' fp ad hi hj si sj h h' ab=>?_,by unfold D5;rw[zf];exact E.len,λ i c n h hp=>by obtain⟨c',h1,rfl⟩:=key i _ h;rw[cJ] at hp;cases hp⟩
 ·obtain⟨c,h1,h2⟩:=key i _ h;cases c with
  |val d' =>
   cases h2;obtain⟨v,q1,q2⟩:=E.val i d h1;exact⟨v,q1,q2.mono (Bt E.sub)⟩
  |own ds =>
   cases h2;obtain⟨p,xs,q1,q2,q3,q4,q5⟩:=E.own i ds h1;exact⟨_,q1,.lst (.of (show del H P0 p=_ by rw[Aj q4];exact q2)) (q5.mono (Bt E.sub))⟩
  |ow o =>
   obtain⟨v,fp,q1,q2,q3,q4⟩:=E.ows i _ h1 rfl;cases o with
   |rows D4 =>
    cases h2;obtain⟨p,ps,rfl,rfl,q5,q6⟩:=q2;exact⟨_,q1,.lst (.of (show del H P0 p=_ by rw[Aj (q3 p zb).2];exact q5)) (q6.Tz E.sub λ a ha=>(q3 a (zd _ ha)).2)⟩
   |G5 p ds =>
    cases h2;obtain⟨p,xs,rfl,rfl,q5,q6⟩:=q2;exact⟨_,q1,.lst (.of (show del H P0 p=_ by rw[Aj (q3 p zb).2];exact q5)) (q6.mono (Bt E.sub))⟩
   |tree p t =>
    cases h2;exact⟨_,q1,B3.has E.sub (λ a ha=>(q3 a ha).2) q2⟩
 ·obtain⟨c',h1,rfl⟩:=key i _ h;rw[e9] at io;cases io
 ·obtain⟨c1,h1,rfl⟩:=key i _ hi;exact (i4 _ _ _ h).elim
theorem TQ {c:Bool}(h:DE X WX c e f):DE X WX false e (λ ρ=>f (D5 ρ)):=by
 obtain⟨t,h1,h2⟩:=h;refine⟨t,h1,λ P0 P σ H Q ρ E g=>h2 P0 P0 σ H Q (D5 ρ) E.low ?_⟩;have e:Lv c P0 P0=P0:=by cases c<;>rfl
 rw[e];exact g
theorem LV {ft:A8->M Bool}(h:DT X WX e ft):DT X WX e (λ ρ=>ft (D5 ρ)):=by
 obtain⟨t,h1,h2⟩:=h;exact⟨t,h1,λ P0 P σ H Q ρ E g=>h2 P0 P0 σ H Q (D5 ρ) E.low g⟩
mutual
noncomputable def Iw:OT->Bool
 | .sh d=>J5 d
 | .lst ts| .tup ts| .B0 _ _ ts| .ins _ _ ts=>GZ ts
noncomputable def GZ:List OT->Bool
 |[]=>true
 |t::r=>Iw t&&GZ r
end
mutual
theorem B3.clean {K:za}{H:Hp}{P P':Addr->Prop}(ht:∀a,P' a->Cr H a):∀ {v:V}{t:OT}{fp:List Addr},Iw t=true->B3 K H P v t fp->B3 K H P' v t fp
 |_,_,_,n,.sh h=>.sh (h.J5 ht (by rw[Iw] at n;exact n))
 |_,_,_,n,.lst h r=>.lst h (Ao.clean ht (by rw[Iw] at n;exact n) r)
 |_,_,_,n,.tup h r=>.tup (MJ ht h) (Ao.clean ht (by rw[Iw] at n;exact n) r)
 |_,_,_,n,.dK h r=>.dK h (Ao.clean ht (by rw[Iw] at n;exact n) r)
 |_,_,_,n,.dT h r=>.dT h (Ao.clean ht (by rw[Iw] at n;exact n) r)
 |_,_,_,n,.ins x h r=>.ins x h (Ao.clean ht (by rw[Iw] at n;exact n) r)
theorem Ao.clean {K:za}{H:Hp}{P P':Addr->Prop}(ht:∀a,P' a->Cr H a):∀ {v:List V}{t:List OT}{fp:List Addr},GZ t=true->Ao K H P v t fp->Ao K H P' v t fp
 |_,_,_,_,.nil=>.nil
 |_,_,_,n,.cons h r=>by
  rw[GZ,zJ] at n;exact .cons (B3.clean ht n.1 h) (Ao.clean ht n.2 r)
end
noncomputable def Xq (m:M OT):M OT:=m.bind λ t=>if Iw t=true then .ok t else .bad
theorem TR (h:DN X WX e fn):DN X WX e (λ ρ=>Xq (fn (D5 ρ))):=by
 obtain⟨t,h1,h2⟩:=h;refine⟨t,h1,λ P0 P σ H Q ρ E g=>h2 P0 P0 σ H Q (D5 ρ) E.low ?_⟩;unfold Xq at g;dsimp only at g;cases q:fn (D5 ρ) with
 |bad|ex x=>rw[q] at g;exact g
 |ok t =>
  rw[q] at g;simp only[M.Aa] at g;by_cases hf:Iw t=true
  ·rw[if_pos hf] at g;exact λ v fp H' s hn nd o=>g v fp H' s hn nd (o.clean (JG (E.same s).BS o) hf)
  ·rw[if_neg hf] at g;exact g.elim
noncomputable def Iv (d:D):M OT:=match d with
 | .lst ds| .tup ds=>.ok (.lst (ds.map .sh))
 |_=>.bad
theorem ML {p:Pos}(hg:Gl X "list")(hm:X.mg "list" = none)(ha:DE X WX true e f)(hb:bootBuiltins "list" = some (.type "list"):=by decide +kernel)(ci:starEach [e] X.env=[(false,eval e X.env)]:=by rfl):
 DN X WX (.Call (.Name "list" p) [e] [] pos) (λ ρ=>(f ρ).bind Iv):=by
 obtain⟨ta,a1,a2⟩:=ha;refine⟨_,Nj Jr hg hm hb (BF a1 D7 ci) (he:=ci),λ P0 P σ H Q ρ E h=>?_⟩;dsimp only at h;refine a2 P0 P σ H _ ρ E ?_;cases q:f ρ with
 |bad|ex x=>rw[q] at h;exact h
 |ok d =>
  rw[q] at h;simp only[M.Aa] at h;intro v H1 s1 hv;unfold Iv at h;split at h
  ·cases hv with
   |lst hs hh=>exact⟨_,_,rfl,.inl hs.B9,h.Iv s1 hh⟩
  ·cases hv with
   |tup hs hh=>exact⟨_,_,rfl,.inr (IH.of (Ag hs).2),h.Iv s1 hh⟩
  ·exact h.elim
end
noncomputable def spT (K:za)(n:Nat)(F:List D->M OT):Sp:=λ vs H Q E=>vs.length=n/\∃P ds,(∀a,P a->Cr H a)/\Ac K (del H P) vs ds/\RG K (GO K E) P H Q (F ds)
noncomputable def W5:Cl->M OT
 | .val d=>.ok (.sh d)
 | .own ds=>.ok (.lst (ds.map .sh))
 | .ow (.rows D4)=>.ok (.lst (D4.map λ ds=>.lst (ds.map .sh)))
 | .ow (.G5 _ _)=>.bad
 | .ow (.tree none t)=>.ok t
 | .ow (.tree (some _) _)=>.bad
noncomputable def Pm (m:M Out):M OT:=match m with
 | .ok (.ret d)=>.ok (.sh d)
 | .ok (.Bm c)=>W5 c
 | .ok (.next _)=>.ok (.sh .Ax)
 | .ex x=>.ex x
 |_=>.bad
theorem Bv.ows {K:za}{H:Hp}{P:Addr->Prop}:∀ {ps:List Addr}{D4:List (List D)},Bv K H P ps D4->Ao K H P (ps.map V.ref) (D4.map λ ds=>.lst (ds.map .sh)) ps
 |_,_,.nil=>.nil
 |_,_,.cons h r t=>.cons (.lst h r.ows) t.ows
theorem Bz.tree {K:za}{H:Hp}{P:Addr->Prop}{c:Cl}{v:V}{fp:List Addr}{t:OT}(h:Bz K H P c v fp)(e:W5 c=.ok t):B3 K H P v t fp:=by
 cases c with
 |val d=>exact h.elim
 |own ds =>
  cases e;obtain⟨p,xs,rfl,rfl,h1,h2⟩:=h;exact .lst h1 h2.ows
 |ow o =>
  cases o with
  |rows D4 =>
   cases e;obtain⟨p,ps,rfl,rfl,h1,h2⟩:=h;exact .lst h1 h2.ows
  |G5 p ds=>cases e
  |tree p t' =>
   cases p with
   |none=>cases e;exact h
   |some q=>cases e
section
variable {P:Program}{w:World}{K:za}{mg:Str->Option Value}{base:Heap}
theorem RI {WX:Str->Hp->Prop}{P P2:Addr->Prop}{H H':Hp}{Q:VK}{c:Cl}{v:V}{fp:List Addr}(h:RG K WX P H Q (W5 c))(t:Tr P P H P2 H')(hs:∀a,P a->P2 a)(ho:Bz K H' P2 c v fp)(hp:∀a∈fp,P2 a/\¬ P a)(nd:fp.Nodup):Q v H':=by
 cases q:W5 c with
 |bad=>rw[q] at h;exact h.elim
 |ex x=>cases c with
  |val d|own ds=>cases q
  |ow o =>
   cases o with
   |rows D4|G5 p ds=>cases q
   |tree p t'=>cases p<;>cases q
 |ok u =>
  rw[q] at h;have o:=ho.tree q;refine h v fp H' (BU t) (λ a ha=>TK t (hp a ha).1 (hp a ha).2) nd (o.move (Bt λ a ha=>ha.elim (hs a) λ z=>(hp a z).1) λ _ _=>rfl)
theorem Xr {x qual:Str}{st:Stmt}{f:Addr}{fd:FuncData}{N ps:List Str}{k:Nat}(F:O6 K x qual st f fd)(S:Au N ps (A4 st))(g:A8->M Out)
 (hb:∀(Bk:Value) (A:Around) (outer:List Env) (s:Shared) (H:Hp) (E:XK),BI k (A.deeper (envOfC qual (A4 st) s.heap.objs.size f Bk))->MH (P6 P w K mg base N qual (A4 st) f Bk A outer s H E) (GO K E) (AB st) g):
 E6 P w K mg base (Sl P w base) (k+1) f fd ps (spT K ps.length λ ds=>Pm (g (Ba N ds))):=by
 obtain⟨oc,od,kV,doc,pm,an,Bk,ct,O4,rfl,lk,az⟩:=F.ex;refine Oz lk az S (λ vs H Q E h=>h.1) λ A outer s H vs Q E hr h=>?_;obtain⟨hl,P',ds,ht,hv,hq⟩:=h;obtain⟨t,h1,h2⟩:=hb Bk A outer s H E hr;refine⟨t,h1,h2 ⟨P',λ _=>0⟩ P' _ H _ _ (J0 ht hv) ?_⟩;dsimp only at hq;revert hq;cases g (Ba N ds) with
 |bad=>exact λ h=>h.elim
 |ex x=>exact λ h H' P2 t=>h H' (BU t)
 |ok o =>
  cases o with
  |ret d=>exact λ h v H' P2 t hv=>h v [] H' (BU t) (λ a ha=>by cases ha) yk (.sh (by rw[LU];exact hv))
  |next ρ=>exact λ h σ' H' P2 t E=>h .Ax [] H' (BU t) (λ a ha=>by cases ha) yk (.sh .Ax)
  |brk ρ|cont ρ=>exact λ h=>h.elim
  |Bm c=>exact λ h v fp H' P2 t hs ht ho hp nd=>RI h t hs ho hp nd
  |C7 d ρ=>exact λ h=>h.elim
end
structure Ew (P:Program)(w:World)(K:za)(mg:Str->Option Value)(base:Heap)(x:Str)(k n:Nat)(F:List D->M OT):Prop where
 ex:∃fa fd ps,E6 P w K mg base (Sl P w base) k fa fd ps (spT K n F)/\mg x=some (.ref fa)/\zP K (.ref fa)=true/\Binds K fd ps []
theorem Bw {P:Program}{w:World}{K:za}{mg:Str->Option Value}{base:Heap}{x:Str}{st:Stmt}{N ps:List Str}{k n:Nat}(T:Bc K mg x st ps)(S:Au N ps (A4 st))(g:A8->M Out)
 (hb:∀(f:Addr) (Bk:Value) (A:Around) (outer:List Env) (s:Shared) (H:Hp) (E:XK),BI k (A.deeper (envOfC x (A4 st) s.heap.objs.size f Bk))->MH (P6 P w K mg base N x (A4 st) f Bk A outer s H E) (GO K E) (AB st) g) (hn:ps.length=n:=by rfl):
 Ew P w K mg base x (k+1) n (λ ds=>Pm (g (Ba N ds))):=by
 obtain⟨f,fd,F,hm,hB⟩:=T.ex;subst hn;exact⟨⟨f,fd,ps,Xr F S g (hb f),hm,F.kp,hB⟩⟩
section
variable {X:Cx}{E:XK}{WX:Str->Hp->Prop}{c:Bool}{e:Expr}{es:List Expr}{fs:A8->M (List D)}{f:A8->M D}{fn:A8->M OT}{ft:A8->M Bool}{pos:Pos}
theorem AJ {k n:Nat}{F:List D->M OT}{x:Str}{p:Pos}(xo:XCall X E)(G:Ew X.prog X.w X.K X.mg X.base x k n F)(hr:BI k X.A)(hg:Gl X x)(ha:DA X (GO X.K E) true (e::es) fs)(hn:(e::es).length=n)
 (aP:(x==("__debug__" : Str))=false:=by decide) (he:starEach (e::es) X.env=(false,eval e X.env)::starEach es X.env:=by rfl) (hpl:(backTo pos (starEach es X.env)).any (·.1)=false:=by rfl):
 DN X (GO X.K E) (.Call (.Name x p) (e::es) [] pos) (λ ρ=>(fs ρ).bind F):=by
 obtain⟨fa,fd,ps,hF,hm,hk,hb⟩:=G.ex;obtain⟨ta,a1,a2,a3⟩:=ha;refine⟨_,MB hF hr hg hm hk hb .nil xo.call a1 aP he hpl,λ P0 P σ H Q ρ E h=>?_⟩;dsimp only at h;refine a2 P0 P σ H _ ρ E ?_;cases q:fs ρ with
 |bad|ex x=>rw[q] at h;exact h
 |ok ds =>
  rw[q] at h;simp only[M.Aa] at h;intro vs H1 s1 aA;rw[ym];exact⟨by rw[aA.length,a3 ρ ds q];exact hn,P,ds,(E.same s1).BS,aA,h.same s1⟩
theorem H9 (h:DN X WX e fn):DN X (λ _ _=>False) e fn:=by
 obtain⟨t,h1,h2⟩:=h;refine⟨t,h1,λ P0 P σ H Q ρ E g=>h2 P0 P σ H Q ρ E ?_⟩;cases q:fn ρ with
 |bad=>rw[q] at g;exact g
 |ex x=>rw[q] at g;exact (g H (Ab.refl H)).elim
 |ok t=>rw[q] at g;exact g
noncomputable def NG (t:OT):M Out:=match t with
 | .sh d=>.ok (.ret d)
 |t=>.ok (.Bm (.ow (.tree none t)))
end
section
variable {X:Cx}{WX:Str->Hp->Prop}{c:Bool}{P0:C6}{P:Addr->Prop}{H:Hp}{σ:St}{ρ:A8}{a b e:Expr}{f g:A8->M D}{fn:A8->M OT}{pos:Pos}
theorem Ae.Xs {K:za}{H':Hp}{fp:List Addr}(E:Ae K P0 P H σ ρ)(s:Ab H H')(hn:∀a∈fp,H a=none):Tr P0 P H (PU P fp) H':=
 ⟨CL s hn,λ a ha=>by obtain⟨o,q,_⟩:=E.BS a (E.sub a ha);rw[q];exact s _ _ q⟩
theorem AE (ha:DN X WX e fn):DS X WX (.Return (some e) pos) (λ ρ=>(fn ρ).bind NG):=by
 obtain⟨ta,a1,a2⟩:=ha;refine⟨_,Jl a1,λ P0 P σ H Z ρ E h=>?_⟩;dsimp only at h;refine a2 P0 P σ H _ ρ E ?_;cases q:fn ρ with
 |bad=>rw[q] at h;exact h
 |ex x=>rw[q] at h;exact λ H' s=>h H' P (E.tr s)
 |ok t =>
  rw[q] at h;simp only[M.Aa] at h;intro v fp H' s hn nd o;have key:gS X.K WX P0 P H Z (.ok (.Bm (.ow (.tree none t))))->Z.rt v H':=λ h =>
   h v fp H' (PU P fp) (E.Xs s hn) (λ a ha=>.inl (E.sub a ha)) (JG (E.same s).BS o) o (λ a ha=>⟨.inr ha,λ z=>(E.BS a (E.sub a z)).no (hn a ha)⟩) nd
  cases t with
  |sh d =>
   cases o with
   |sh hv=>exact h v H' P (E.tr s) (hv.mono (Bt λ a ha=>.inl (E.sub a ha)))
  |lst ts|tup ts|B0 b ks ts|ins x ns ts=>exact key h
noncomputable def Ct:List OT->Option (List D)
 |[]=>some []
 | .sh d::r=>(Ct r).map (d::·)
 |_::_=>none
theorem Bq:∀ds:List D,Ct (ds.map .sh)=some ds
 |[]=>rfl
 |d::r=>by rw[zh,Ct,Bq r];rfl
theorem Ei:∀ {ts:List OT}{ds:List D},Ct ts=some ds->ts=ds.map .sh
 |[],ds,h=>by cases h;rfl
 | .sh d::r,ds,h=>by
  rw[Ct] at h;cases q:Ct r with
  |none=>rw[q] at h;cases h
  |some es=>rw[q] at h;cases h;rw[zh,<-Ei q]
 | .lst _::r,ds,h| .tup _::r,ds,h| .B0 _ _ _::r,ds,h| .ins _ _ _::r,ds,h=>by cases h
noncomputable def toCl (p:Option Nat)(t:OT):Cl:=match t with
 | .lst ts=>(match Ct ts with
  |some ds=>(match p with|none=>.own ds|some q=>.ow (.G5 q ds))
  |none=>.ow (.tree p (.lst ts)))
 |t=>.ow (.tree p t)
@[simp] theorem toCl_list (ds:List D):toCl none (.lst (ds.map .sh))=.own ds:=by unfold toCl;simp only[Bq]
@[simp] theorem toCl_listP (q:Nat) (ds:List D):toCl (some q) (.lst (ds.map .sh))=.ow (.G5 q ds):=by unfold toCl;simp only[Bq]
@[simp] theorem toCl_dct (p:Option Nat) (b:Bool) (ks:List D) (ts:List OT):toCl p (.B0 b ks ts)=.ow (.tree p (.B0 b ks ts)):=rfl
noncomputable def treeOf:Cl->Option (Option Nat×OT)
 | .own ds=>some (none,.lst (ds.map .sh))
 | .ow (.G5 p ds)=>some (some p,.lst (ds.map .sh))
 | .ow (.rows D4)=>some (none,.lst (D4.map λ ds=>.lst (ds.map .sh)))
 | .ow (.tree p t)=>some (p,t)
 | .val _=>none
theorem Bz.toT {K:za}{H:Hp}{P:Addr->Prop}{c:Cl}{v:V}{fp:List Addr}{p:Option Nat}{t:OT}(h:Bz K H P c v fp)(e:treeOf c=some (p,t)):B3 K H P v t fp:=by
 cases c with
 |val d=>exact h.elim
 |own ds =>
  cases e;obtain⟨p,xs,rfl,rfl,h1,h2⟩:=h;exact .lst h1 h2.ows
 |ow o =>
  cases o with
  |rows D4 =>
   cases e;obtain⟨p,ps,rfl,rfl,h1,h2⟩:=h;exact .lst h1 h2.ows
  |G5 p ds =>
   cases e;obtain⟨p,xs,rfl,rfl,h1,h2⟩:=h;exact .lst h1 h2.ows
  |tree p t'=>cases e;exact h
theorem Bz.toCl {K:za}{H:Hp}{P:Addr->Prop}{v:V}{fp:List Addr}{p:Option Nat}{t:OT}(h:B3 K H P v t fp):Bz K H P (toCl p t) v fp:=by
 unfold L2.toCl;split
 ·rename_i ts;cases q:Ct ts with
  |none=>exact h
  |some ds =>
   have e:=Ei q;subst e;cases h with
   |lst h1 h2 =>
    obtain⟨rfl,h3⟩:=h2.WD;cases p with
    |none|some q=>exact⟨_,_,rfl,rfl,h1,h3⟩
 ·exact h
theorem CM (p:Option Nat)(t:OT):IW (toCl p t)=p:=by
 unfold toCl;split
 ·rename_i ts;cases q:Ct ts with
  |none|some ds=>cases p<;>rfl
 ·cases p<;>rfl
theorem Ej {c:Cl}{p:Option Nat}{t:OT}(h:treeOf c=some (p,t)):IW c=p:=by
 cases c with
 |val d=>cases h
 |own ds=>cases h;rfl
 |ow o =>
  cases o with
  |rows D4|G5 p ds=>cases h;rfl
  |tree p t=>cases h;cases p<;>rfl
noncomputable def KW (i:Nat)(ρ:A8)(t:OT):M Out:=match t with
 | .sh d=>.ok (.next (ρ.set i (some (.val d))))
 |t=>.ok (.next (ρ.set i (some (toCl none t))))
theorem W6 {K:za}{i:Nat}{t:OT}{v:V}{fp:List Addr}{H':Hp}{Z:Ends}(E:Ae K P0 P H σ ρ)(s:Ab H H')(hn:∀a∈fp,H a=none)(nd:fp.Nodup)(o:B3 K H' (PU P fp) v t fp)(h:gS K WX P0 P H Z (KW i ρ t)):Z.nx (σ.set i (some v)) H':=by
 have key:gS K WX P0 P H Z (.ok (.next (ρ.set i (some (toCl none t)))))->Z.nx (σ.set i (some v)) H':=λ h=>by
  refine h _ H' (PU P fp) (E.Xs s hn) (E.Rq JF (JG (E.same s).BS o) (CL s hn) (λ j c' v' ad ab g1 g2 g3 a ha=>?_) (Bz.toCl o) (λ a ha=>⟨.inr ha,λ z=>(E.BS a (E.sub a z)).no (hn a ha)⟩) nd (λ n z=>by rw[CM] at z;cases z));obtain⟨xs,z⟩:=g3.at a ha;exact⟨by rw[z];exact s _ _ z,λ w=>by rw[hn a w] at z;cases z⟩
 cases t with
 |sh d =>
  cases o with
  |sh hv=>exact h _ H' P (E.tr s) ((E.same s).Nu (by rw[LU] at hv;exact hv))
 |lst ts|tup ts|B0 b ks ts|ins x ns ts=>exact key h
theorem Gb (i:Nat){x:Str}{pos':Pos}(hN:X.N.Nodup)(hi:X.N[i]?=some x)(hx:Loc X.env.scope x)(ha:DN X WX e fn)(hs:swapsWith e (some (.Name x pos')) pos.line X.env=pure false:=by rfl)(hf:X.fn x=true\/X.env.scope.names.lookup x=some .local:=by first | exact .inl rfl | exact .inr rfl | assumption):
 DS X WX (.Assign [.Name x pos'] e pos) (λ ρ=>(fn ρ).bind (KW i ρ)):=by
 obtain⟨ta,a1,a2⟩:=ha;refine⟨_,LF hN hi hx a1 hs hf,λ P0 P σ H Z ρ E h=>?_⟩;dsimp only at h;refine a2 P0 P σ H _ ρ E ?_;cases q:fn ρ with
 |bad=>rw[q] at h;exact h
 |ex x=>rw[q] at h;exact λ H' s=>h H' P (E.tr s)
 |ok t =>
  rw[q] at h;exact λ v fp H' s hn nd o=>W6 E s hn nd o h
noncomputable def LW (i:Nat)(ρ:A8):M Out:=match ρ[i]? with
 |some (some (.val d))=>.ok (.ret d)
 |some (some c)=>.ok (.Bm c)
 |_=>.bad
theorem Gd (i:Nat){x:Str}{p1:Pos}(hv:PE X (.Name x p1) (Nd i)):DS X WX (.Return (some (.Name x p1)) pos) (LW i):=by
 refine⟨_,Jl hv,λ P0 P σ H Z ρ E h=>?_⟩;unfold LW at h;split at h
 ·rename_i d e1;obtain⟨v,h1,h2⟩:=E.val i d e1;exact⟨v,h1,h v H P Tr.refl (h2.mono (Bt E.sub))⟩
 ·rename_i c hc e1;have io:Dd c=true:=by
   cases c with
   |val d=>exact (hc d rfl).elim
   |own ds|ow o=>rfl
  obtain⟨v,fp,h1,h2,h3,h4⟩:=E.ows i _ e1 io;exact⟨v,h1,h v fp H P Tr.refl E.sub E.BS h2 h3 h4⟩
 ·exact h.elim
theorem LX:∀ds:List D,OO (ds.map .sh)=ds
 |[]=>rfl
 |d::r=>by rw[zh,OO,er,LX r]
noncomputable def Pn (i:Nat)(ρ:A8):A8:=match ρ[i]? with
 |some (some c)=>ρ.set i (some (FY c))
 |_=>ρ
end
section
variable {K:za}{H H':Hp}{P P':Addr->Prop}
theorem BK.same {v:V}{t:OT}{q:List Addr}{xs:List V}(e:Ab H H')(h:BK K H P v t q xs):BK K H' P v t q xs:=by
 cases t with
 |sh d=>exact h.elim
 |lst ts=>obtain⟨p,rfl,rfl,h⟩:=h;exact⟨p,rfl,rfl,e _ _ h⟩
 |tup ts=>obtain⟨p,rfl,rfl,h⟩:=h;exact⟨p,rfl,rfl,e.del _ _ h⟩
 |B0 b ks ts =>
  cases b with
  |false|true=>obtain⟨p,kvs,rfl,rfl,h,rfl,rfl⟩:=h;exact⟨p,kvs,rfl,rfl,e _ _ h,rfl,rfl⟩
 |ins x ns ts=>obtain⟨p,C,dx,fs,rfl,rfl,n,h,rfl,rfl⟩:=h;exact⟨p,C,dx,fs,rfl,rfl,n,e _ _ h,rfl,rfl⟩
theorem GX.same {v v1:V}{t t1:OT}{π:List Nat}(e:Ab H H')(h:GX K H P v t π v1 t1):GX K H' P v t π v1 t1:=by
 induction h with
 |nil=>exact .nil
 |cons n hx hs _ ih=>exact .cons (n.same e) hx hs ih
end
noncomputable def Po (i:Nat)(ρ:A8)(π:List Nat):Option OT:=match ρ[i]? with
 |some (some c)=>(match treeOf c with|some (_,t)=>Fg t π|none=>none)
 |_=>none
structure BC (K:za)(P:Addr->Prop)(H:Hp)(σ:St)(ρ:A8)(i:Nat)(π:List Nat)(v:V)(t1:OT):Prop where
 ex:∃v0 c p t,ρ[i]?=some (some c)/\treeOf c=some (p,t)/\σ[i]?=some (some v0)/\GX K H P v0 t π v t1
theorem BC.at {K:za}{P:Addr->Prop}{H:Hp}{σ:St}{ρ:A8}{i:Nat}{π:List Nat}{v:V}{t1:OT}(h:BC K P H σ ρ i π v t1):Po i ρ π=some t1:=by
 obtain⟨v0,c,p,t,h1,h2,h3,h4⟩:=h.ex;unfold Po;simp only[h1,h2];exact h4.sub
theorem BC.same {K:za}{P:Addr->Prop}{H H':Hp}{σ:St}{ρ:A8}{i:Nat}{π:List Nat}{v:V}{t1:OT}(e:Ab H H')(h:BC K P H σ ρ i π v t1):BC K P H' σ ρ i π v t1:=by
 obtain⟨v0,c,p,t,h1,h2,h3,h4⟩:=h.ex;exact⟨v0,c,p,t,h1,h2,h3,h4.same e⟩
theorem BC.own {K:za}{P0:C6}{P:Addr->Prop}{H:Hp}{σ:St}{ρ:A8}{i:Nat}{π:List Nat}{v:V}{t1:OT}(h:BC K P H σ ρ i π v t1)(E:Ae K P0 P H σ ρ):∃ak,B3 K H P v t1 ak/\(∀a∈ak,P a/\¬ P0 a)/\ak.Nodup:=by
 obtain⟨v0,c,p,t,h1,h2,h3,h4⟩:=h.ex;have io:Dd c=true:=by cases c<;>first|rfl|cases h2
 obtain⟨w,fp,k1,k2,k3,k4⟩:=E.ows i c h1 io;rw[h3] at k1;cases k1;obtain⟨ak,o1,hk,kn⟩:=(k2.toT h2).part h4;exact⟨ak,o1,λ a ha=>k3 a (hk a ha),kn k4⟩
def gP (K:za)(WX:Str->Hp->Prop)(P:Addr->Prop)(H:Hp)(σ:St)(ρ:A8)(i:Nat)(Q:VK):M (List Nat)->Prop
 | .ok π=>∀v t1 H',Ab H H'->BC K P H' σ ρ i π v t1->Q v H'
 | .ex x=>∀H',Ab H H'->WX x H'
 | .bad=>False
def DP (X:Cx)(WX:Str->Hp->Prop)(e:Expr)(i:Nat)(f:A8->M (List Nat)):Prop:=
 ∃t,PE X e t/\∀P0 P σ H Q ρ,Ae X.K P0 P H σ ρ->gP X.K WX P H σ ρ i Q (f ρ)->t σ H Q
section
variable {X:Cx}{WX:Str->Hp->Prop}{c:Bool}{P0:C6}{P:Addr->Prop}{H:Hp}{σ:St}{ρ:A8}{a b e:Expr}{f g:A8->M D}{fn:A8->M OT}{fp:A8->M (List Nat)}{pos:Pos}{i:Nat}
noncomputable def KY (i:Nat)(ρ:A8):M (List Nat):=match Po i ρ [] with | some _=>.ok [] | none=>.bad
theorem CN (i:Nat){x:Str}{p1:Pos}(hv:PE X (.Name x p1) (Nd i)):DP X WX (.Name x p1) i (KY i):=by
 refine⟨_,hv,λ P0 P σ H Q ρ E h=>?_⟩;unfold KY at h;split at h
 ·rename_i t e;unfold Po at e;split at e
  ·rename_i cl e1;split at e
   ·rename_i p t0 e2;have io:Dd cl=true:=by cases cl<;>first|rfl|cases e2
    obtain⟨v,fp,h1,h2,h3,h4⟩:=E.ows i cl e1 io;exact⟨v,h1,h v t0 H (Ab.refl H) ⟨v,cl,p,t0,e1,e2,h1,.nil⟩⟩
   ·cases e
  ·cases e
 ·exact h.elim
theorem Ae.Xu {K:za}{P':Addr->Prop}{H':Hp}{π:List Nat}{v1:V}{t1 u:OT}{ak fu:List Addr}(E:Ae K P0 P H σ ρ)(pl:BC K P H σ ρ i π v1 t1)(o:B3 K H P v1 t1 ak)(hs:∀a,P a->P' a)(ht:∀a,P' a->Cr H' a)(sm:Ab (del H P) (del H' P'))(keep:∀a,P a->a∉ak->H' a=H a)
 (o':B3 K H' P' v1 u fu) (nd:fu.Nodup) (hf:∀a∈fu,a∈ak\/(P' a/\¬ P0 a/\∀(j:Nat) c v fp,ρ[j]?=some (some c)->σ[j]?=some (some v)->Bz K H P c v fp->a∉fp)):
 ∃c p t,ρ[i]?=some (some c)/\treeOf c=some (p,t)/\Ae K P0 P' H' σ (ρ.set i (some (toCl p (CK t π u))))/\Tr P0 P H P' H':=by
 obtain⟨v0,c,p,t,h1,h2,h3,h4⟩:=pl.ex;have io:Dd c=true:=by cases c<;>first|rfl|cases h2
 obtain⟨w,fp,k1,k2,k3,k4⟩:=E.ows i c h1 io;rw[h3] at k1;cases k1;have ot:=k2.toT h2;obtain⟨fz,oz,kz,_⟩:=ot.part h4;have:=oz.Bu o;subst this;obtain⟨ad,q1,q2,q3⟩:=ot.put sm h4 o o' (λ a ha hn=>keep a (k3 a ha).1 hn) k4 nd (λ a ha hb=>(hf a ha).elim id λ z=>(z.2.2 i c v0 fp h1 h3 k2 hb).elim);refine⟨c,p,t,h1,h2,?_,sm,λ a ha=>keep a (E.sub a ha) λ z=>(k3 a (kz a z)).2 ha⟩;have key:=E.Rq (P':=P') (H':=H') (i:=i) (v:=v0) (c:=toCl p (CK t π u)) (fp:=ad) hs ht sm (λ j c' v' fq ab g1 g2 g3 a ha=>?_) (Bz.toCl q1) (λ a ha=>?_) q2 (λ n z=>by rw[CM] at z;subst z;have:=E.pin i c n h1 (Ej h2);rw[h3] at this;cases this;rfl)
 ·rw[Jz h3] at key;exact key
 ·have eA:a∉fp:=E.apart j i c' c v' v0 fq fp g1 h1 g2 h3 g3 k2 (zQ ab) a ha;have cK:Dd c'=true:=by cases c'<;>first|rfl|exact g3.elim
  obtain⟨w',fr,m1,m2,m3,m4⟩:=E.ows j c' g1 cK;rw[g2] at m1;cases m1;have:=m2.Bu g3;subst this;refine⟨keep a (m3 a ha).1 λ z=>eA (kz a z),λ z=>?_⟩;rcases q3 a z with y|y
  ·rcases hf a y with x|x
   ·exact eA (kz a x)
   ·exact x.2.2 j c' v' fr g1 g2 g3 ha
  ·exact eA y.1
 ·rcases q3 a ha with y|y
  ·rcases hf a y with x|x
   ·exact⟨hs a (k3 a (kz a x)).1,(k3 a (kz a x)).2⟩
   ·exact⟨x.1,x.2.1⟩
  ·exact⟨hs a (k3 a y.1).1,(k3 a y.1).2⟩
end
noncomputable def kd:D->Option Key
 | .int i=>some (.inl i)
 | .str x=>some (.inr x)
 |_=>none
noncomputable def V1:List D->Option (List Key)
 |[]=>some []
 |d::r=>match kd d,V1 r with|some k,some ks=>some (k::ks)|_,_=>none
theorem So {d:D}{k:Key}(h:kd d=some k):d=BB k:=by
 cases d<;>simp[kd] at h<;>subst h<;>rfl
theorem Pp:∀ {ds:List D}{ks:List Key},V1 ds=some ks->ds=ks.map BB
 |[],ks,h=>by cases h;rfl
 |d::r,ks,h=>by
  rw[V1] at h;cases q:kd d with
  |none=>rw[q] at h;cases h
  |some k =>
   cases q2:V1 r with
   |none=>rw[q,q2] at h;cases h
   |some i5 =>
    rw[q,q2] at h;cases h;rw[zh,<-So q,<-Pp q2]
inductive RJ:Bool->D->Prop
 |k (κ:Key):RJ false (BB κ)
 |t (κ:List Key):RJ true (.tup (κ.map BB))
noncomputable def keyOk (b:Bool)(d:D):Bool:=match b,d with
 |false,d=>(kd d).isSome
 |true,.tup ds=>(V1 ds).isSome
 |_,_=>false
theorem Dk {b:Bool}{d:D}(h:keyOk b d=true):RJ b d:=by
 cases b with
 |false =>
  obtain⟨k,hk⟩:=y4.mp (show (kd d).isSome=true from h);rw[So hk];exact .k k
 |true =>
  cases d with
  |tup ds =>
   obtain⟨k,hk⟩:=y4.mp (show (V1 ds).isSome=true from h);rw[Pp hk];exact .t k
  |_=>cases h
theorem Ha (a b:Key):Al (BB a) (BB b)=decide (a=b):=by
 cases a with
 |inl i =>
  cases b with
  |inl j=>simp only[BB,Al];rw[yv];simp
  |inr y=>simp[BB,Al]
 |inr x =>
  cases b with
  |inl j=>simp[BB,Al]
  |inr y=>simp only[BB,Al];rw[yv];simp
theorem Ge:∀a b:List Key,BJ (a.map BB) (b.map BB)=decide (a=b)
 |[],[]|[],_::_|_::_,[]=>by simp[BJ]
 |a::r,b::t=>by
  rw[zh,zh,BJ,Ha,Ge r t,yv];simp
noncomputable def EK {α:Type}:List D->List α->D->Option α
 |k::ks,v::vs,y=>if Al k y=true then some v else EK ks vs y
 |_,_,_=>none
noncomputable def FZ {α:Type}:List D->List α->D->α->List α
 |k::ks,v::vs,y,z=>(if Al k y=true then z else v)::FZ ks vs y z
 |_,vs,_,_=>vs
noncomputable def JH (ks:List D)(y:D):Bool:=ks.any λ k=>Al k y
section
variable {κ:Type} [DecidableEq κ] {fk:κ->D}(hf:∀a b,Al (fk a) (fk b)=decide (a=b))
include hf
theorem Hb {α:Type}:∀(kvs:List (κ×α)) (k:κ),EK (kvs.map λ kv=>fk kv.1) (kvs.map yj) (fk k)=(kvs.find? λ kv=>decide (kv.1=k)).map (·.2)
 |[],k=>rfl
 |p::r,k=>by
  rw[zh,zh,EK,hf,yu];by_cases e:p.1=k
  ·rw[decide_eq_true e];rfl
  ·rw[decide_eq_false e];simp only[zu,if_false];exact Hb r k
theorem Hc {α:Type}(kvs:List (κ×α))(k:κ):JH (kvs.map λ kv=>fk kv.1) (fk k)=kvs.any λ kv=>decide (kv.1=k):=by
 unfold JH;rw[List.any_map];congr 1;funext kv;exact hf _ _
theorem EL (k:κ)(v:V):∀(kvs:List (κ×V)),FZ (kvs.map λ kv=>fk kv.1) (kvs.map yj) (fk k) v=(kvs.map λ kv=>if kv.1=k then (kv.1,v) else kv).map yj
 |[]=>rfl
 |p::r=>by
  rw[zh,zh,FZ,hf,zh,zh,EL k v r];by_cases e:p.1=k
  ·rw[decide_eq_true e,if_pos e];rfl
  ·rw[decide_eq_false e,if_neg e];rfl
theorem EM (k:κ)(v:V):∀(kvs:List (κ×V)),(kvs.map λ kv=>if kv.1=k then (kv.1,v) else kv).map (λ kv=>fk kv.1)=kvs.map λ kv=>fk kv.1
 |[]=>rfl
 |p::r=>by
  rw[zh,zh,zh,EM k v r];by_cases e:p.1=k
  ·rw[if_pos e]
  ·rw[if_neg e]
end
theorem KZ {K:za}{H:Hp}:∀ {ks:List D}{xs:List V}{ds:List D}{y d:D},Ac K H xs ds->EK ks ds y=some d->∃x,EK ks xs y=some x/\B4 K H x d
 |[],_,_,_,_,_,e|_::_,_,_,_,_,.nil,e=>by simp[EK] at e
 |k::ks,_,_,y,d,.cons h t,e=>by
  rw[EK] at e ⊢;by_cases q:Al k y=true
  ·rw[if_pos q] at e ⊢;cases e;exact⟨_,rfl,h⟩
  ·rw[if_neg q] at e ⊢;exact KZ t e
theorem J8 {α:Type}:∀ {ks:List D}{xs:List α}{y:D},xs.length=ks.length->JH ks y=(EK ks xs y).isSome
 |[],[],y,_=>rfl
 |k::ks,x::xs,y,h=>by
  unfold JH;rw[yz,EK];cases q:Al k y with
  |true=>rfl
  |false =>
   simp only[Bool.false_or,zu,if_false];exact J8 (by simpa using h)
 |[],_::_,_,h|_::_,[],_,h=>by cases h
theorem EN {K:za}{H:Hp}{P:Addr->Prop}{y d:D}{v:V}(hv:B4 K (del H P) v d):∀ {ks:List D}{xs:List V}{ds:List D},Ac K (del H P) xs ds->Ac K (del H P) (FZ ks xs y v) (FZ ks ds y d)
 |[],_,_,h=>by simp only[FZ];exact h
 |_::_,_,_,.nil=>by simp only[FZ];exact .nil
 |k::ks,_,_,.cons h t=>by
  rw[FZ,FZ];refine .cons ?_ (EN hv t);by_cases q:Al k y=true
  ·rw[if_pos q,if_pos q];exact hv
  ·rw[if_neg q,if_neg q];exact h
section
variable {K:za}{H:Hp}{P:Addr->Prop}
theorem Ac.keys:∀ {xs:List V}(κ:List Key),Ac K H xs (κ.map BB)->xs=κ.map kV
 |_,[],.nil=>rfl
 |_,k::r,.cons h t=>by
  rw[zh,<-Ac.keys r t];congr 1;cases k with
  |inl i=>exact h.int_inv
  |inr x=>cases h;rfl
theorem B4.TU {y:V}{κ:Key}(h:B4 K H y (BB κ)):y=kV κ:=by
 cases κ with
 |inl i=>exact h.int_inv
 |inr x=>cases h;rfl
theorem MM {v y:V}{b:Bool}{ks vs:List D}{k:D}(hv:B4 K (del H P) v (.B0 b ks vs))(hy:B4 K (del H P) y k)(hk:RJ b k):∃a xs,v=.ref a/\LL H a y (EK ks xs k)/\Ac K (del H P) xs vs/\xs.length=ks.length:=by
 cases hv with
 |E8 hh hl =>
  cases hk with
  |k κ =>
   refine⟨_,_,rfl,?_,hl,by simp⟩;rw[hy.TU,Hb Ha];exact .inl ⟨_,κ,hh.B9,rfl,rfl⟩
 |DL hh hl =>
  cases hk with
  |t κ =>
   cases hy with
   |tup ht bU =>
    have e:=Ac.keys κ bU;subst e;refine⟨_,_,rfl,?_,hl,by simp⟩;rw[Hb (fk:=λ κ:List Key=>D.tup (κ.map BB)) (λ a b=>by simp only[Al];exact Ge a b)];exact .inr ⟨_,κ,_,hh.B9,rfl,(Ag ht).2,rfl⟩
end
section
variable {X:Cx}{WX:Str->Hp->Prop}{c:Bool}{P0:C6}{P:Addr->Prop}{H:Hp}{σ:St}{ρ:A8}{a b e:Expr}{f g:A8->M D}{fn:A8->M OT}{fp:A8->M (List Nat)}{pos:Pos}{i:Nat}
noncomputable def W7:R2:=λ x y H Q=>∃a v,x=.ref a/\LL H a y (some v)/\Q v H
theorem RK (hu:X.A.units+1<cLine):R6 X W7:=by
 intro value slice pins s σ H x y v u Q I rx ry h hs;obtain⟨a,z,rfl,g,q⟩:=h;cases rx;have hT:=KA I g;have h₂:wpAny (model X.prog X.w) X.A (getItem (.ref a) u) (EP X pins σ Q) X.xe s:=Nn hu I g ry λ w' s3 I3 aI=>⟨z,H,I3,aI,q⟩;unfold subscriptTail;refine wpAny_bind ?_;rw[getitemInPython_of_ne hT.not_modules];refine wpAny_bind (wpAny_specialOf hT PySem.F.slot_dict_getitem.lookup ?_);have fin:wpAny (model X.prog X.w) X.A (subscripted slice false (.ref a) u) (λ r s₃=>wpAny (model X.prog X.w) X.A (letTemporaryGo value (.ref a) r >>= λ _=>pure r) (EP X pins σ Q) X.xe s₃) X.xe s:=by
  rw[hs];exact wpAny_operating (wpAny_mono h₂ (λ r s₃ h₃=>wpAny_bind (wpAny_letTemporaryGo (wpAny_pure h₃))) λ _ _ x=>x)
 first
  |exact wpAny_pure (wpAny_bind fin)
  |exact wpAny_bind (wpAny_pure (wpAny_bind fin))
  |exact wpAny_bind fin
noncomputable def Be (x y:D):M D:=match x with
 | .B0 b ks vs=>if keyOk b y=true then (match EK ks vs y with|some d=>.ok d|none=>.bad) else .bad
 |x=>Xk x y
theorem RL:MF X.K WX (λ x y H Q=>(T9 X.K x y H Q\/Ta X.K x y H Q)\/W7 x y H Q) Be:=by
 intro P H x y v w Q ht hx hy h;cases x with
 |B0 b ks vs =>
  simp only[Be] at h;by_cases hk:keyOk b y=true
  ·rw[if_pos hk] at h;obtain⟨a,xs,rfl,g,hl,_⟩:=MM hx hy (Dk hk);split at h
   ·rename_i d e;obtain⟨u,e1,e2⟩:=KZ hl e;rw[e1] at g;exact .inr ⟨a,u,rfl,g,h _ H (Ab.refl H) e2⟩
   ·exact h.elim
  ·rw[if_neg hk] at h;exact h.elim
 |Ax|bl b|int b|str b|tup b|lst b|C9 b|ins b _ _=>exact .inl (Df P H _ y v w Q ht hx hy h)
theorem Ai {n:Nat}(hu:X.A.units+n<cLine)(ha:DE X WX c a f)(hb:DE X WX c b g)(hs:Jo b:=by exact λ _ _=>rfl)(hn:1<=n:=by decide):DE X WX c (.Subscript a b pos) (λ ρ=>(f ρ).bind λ x=>(g ρ).bind λ y=>Be x y):=VP ((R7.or Tb).or (RK (by omega))) RL ha hb hs
noncomputable def TV (neg:Bool):R2:=λ y x H Q=>∃a o,x=.ref a/\LL H a y o/\Q (.bl (if neg=true then !o.isSome else o.isSome)) H
theorem LY (hu:X.A.units+1<cLine):F5 X (compareOp .In) (TV false):=by
 intro pins s σ H x y v u Q I rx ry h;obtain⟨a,o,rfl,g,q⟩:=h;cases ry;exact Xg hu I g rx λ s3 I3=>⟨.bl o.isSome,H,I3,rfl,q⟩
theorem Iy (hu:X.A.units+1<cLine):F5 X (compareOp .NotIn) (TV true):=by
 intro pins s σ H x y v u Q I rx ry h;obtain⟨a,o,rfl,g,q⟩:=h;cases ry;exact Rb hu I g rx λ s3 I3=>⟨.bl (!o.isSome),H,I3,rfl,q⟩
noncomputable def EO (neg:Bool)(y x:D):M D:=match x with
 | .B0 b ks vs=>if keyOk b y=true then .ok (.bl (if neg=true then !JH ks y else JH ks y)) else .bad
 |x=>WB neg y x
theorem MN {neg:Bool}:MF X.K WX (λ x y H Q=>Wy X.K neg x y H Q\/TV neg x y H Q) (EO neg):=by
 intro P H x y v w Q ht hx hy h;cases y with
 |B0 b ks vs =>
  simp only[EO] at h;by_cases hk:keyOk b x=true
  ·rw[if_pos hk] at h;obtain⟨a,xs,rfl,g,hl,hn⟩:=MM hy hx (Dk hk);rw[J8 (xs:=xs) hn] at h;exact .inr ⟨a,_,rfl,g,h _ H (Ab.refl H) (.bl _)⟩
  ·rw[if_neg hk] at h;exact h.elim
 |Ax|bl b|int b|str b|tup b|lst b|C9 b|ins b _ _=>exact .inl (Di P H x _ v w Q ht hx hy h)
theorem Hd {n:Nat}(hu:X.A.units+n<cLine)(ha:DE X WX c a f)(hb:DE X WX c b g)(hm:behindInMarks .In b=false:=by rfl)(hn:1<=n:=by decide):DT X WX (.Compare a [.In] [b] pos) (λ ρ=>((f ρ).bind λ x=>(g ρ).bind λ y=>EO false x y).bind MG):=DM (Nk.or (LY (by omega))) MN ha hb hm
theorem Gf {n:Nat}(hu:X.A.units+n<cLine)(ha:DE X WX c a f)(hb:DE X WX c b g)(hm:behindInMarks .NotIn b=false:=by rfl)(hn:1<=n:=by decide):DT X WX (.Compare a [.NotIn] [b] pos) (λ ρ=>((f ρ).bind λ x=>(g ρ).bind λ y=>EO true x y).bind MG):=DM (Jq.or (Iy (by omega))) MN ha hb hm
noncomputable def G0:D->M Bool
 | .Ax=>.ok false
 | .bl b=>.ok b
 | .int i=>.ok (i != 0)
 | .tup ds| .lst ds=>.ok (!ds.isEmpty)
 |_=>.bad
theorem EQ {K:za}{H:Hp}{xs:List V}{ds:List D}(h:Ac K H xs ds):(!ds.isEmpty) = !xs.isEmpty:=by cases h<;>rfl
theorem JI (h:DE X WX c e f)(he:∀whole,isTrue e X.env whole=(do let v <-whole;standAt e.pos;holding [v] (truthy v)):=by intro _;rfl):DT X WX e (λ ρ=>(f ρ).bind G0):=by
 obtain⟨t,h1,h2⟩:=h;refine⟨_,Ox h1 he,λ P0 P σ H Q ρ E h=>h2 P0 P σ H _ ρ E ?_⟩;dsimp only at h;cases q:f ρ with
 |bad|ex x=>rw[q] at h;exact h
 |ok d =>
  rw[q] at h;simp only[M.Aa] at h;intro v H' s hv;cases hv with
  |Ax=>exact⟨false,rfl,h H' s⟩
  |bl b=>exact⟨b,rfl,h H' s⟩
  |int i=>exact⟨_,rfl,h H' s⟩
  |tup hs hl=>exact⟨_,.inr (.inl ⟨_,IH.of (Ag hs).2,rfl⟩),by rw[<-EQ hl];exact h H' s⟩
  |lst hs hl=>exact⟨_,.inl ⟨_,hs.B9,rfl⟩,by rw[<-EQ hl];exact h H' s⟩
  |_=>exact h.elim
end
noncomputable def J9 (m:M (List D)):M OT:=match m with | .ok ys=>.ok (.lst (ys.map .sh)) | _=>.bad
def Xv (K:za)(WX:Str->Hp->Prop)(P:Addr->Prop)(p:Addr)(fp:List Addr)(H:Hp)(Q:VK):M (OT×OT)->Prop
 | .ok (t,r)=>∀v H' P' ad fr,(∀a,P a->a∉fp->P' a/\H' a=H a)->(∀a,P' a->Cr H' a)->Ab (del H P) (del H' P')->B3 K H' P' (.ref p) t ad->ad.Nodup->B3 K H' P' v r fr->fr.Nodup->(∀a∈fr,a∉ad)->
  (∀a∈ad,P' a/\(P a->a∈fp))->(∀a∈fr,P' a/\(P a->a∈fp))->Q v H'
 | .ex _| .bad=>False
noncomputable def Pq (K:za)(n:Nat)(F:OT->List D->M (OT×OT)):Sp:=λ vs H Q E=>vs.length=n/\∃P p t fp rest al,vs=.ref p::rest/\(∀a,P a->Cr H a)/\(∀a∈fp,P a)/\fp.Nodup/\B3 K H P (.ref p) t fp/\Ac K (del H P) rest al/\Xv K (GO K E) P p fp H Q (F t al)
noncomputable def BY (N:List Str)(t:OT)(al:List D):A8:=some (toCl (some 0) t)::(al.map (λ d=>some (.val d))++List.replicate (N.length-(al.length+1)) none)
noncomputable def Dl (ρ:A8):Option OT:=match ρ[0]? with
 |some (some c)=>(match treeOf c with|some (some 0,t)=>some t|_=>none)
 |_=>none
noncomputable def Ek (m:M Out):M (OT×OT):=match m with
 | .ok (.next ρ)=>(match Dl ρ with|some t=>.ok (t,.sh .Ax)|none=>.bad)
 | .ok (.C7 r ρ)=>(match Dl ρ with|some t=>.ok (t,r)|none=>.bad)
 |_=>.bad
theorem NH (p:Option Nat)(t:OT):Dd (toCl p t)=true:=by
 unfold toCl;split
 ·rename_i ts;cases q:Ct ts with
  |none=>rfl
  |some ds=>cases p<;>rfl
 ·rfl
theorem JJ {K:za}{P:Addr->Prop}{H:Hp}{N:List Str}{p:Addr}{t:OT}{fp:List Addr}{rest:List V}{al:List D}(ht:∀a,P a->Cr H a)(hp:∀a∈fp,P a)(nd:fp.Nodup)(o:B3 K H P (.ref p) t fp)(h:Ac K (del H P) rest al):
 Ae K ⟨λ a=>P a/\a∉fp,λ _=>p⟩ P H (start N (.ref p::rest)) (BY N t al):=by
 have hl:=h.length;have key:∀(i:Nat) (c:Cl),(al.map (λ d=>some (Cl.val d))++List.replicate (N.length-(al.length+1)) none)[i]?=some (some c)->∃d,al[i]?=some d/\c=.val d:=λ i c e=>by
  by_cases hi:i<al.length
  ·rw[zZ (by simpa using hi),zF] at e;cases q:al[i]? with
   |none=>rw[q] at e;cases e
   |some d=>rw[q] at e;cases e;exact⟨d,rfl,rfl⟩
  ·rw[yg (by simpa using hi),List.getElem?_replicate] at e;split at e<;>cases e
 have ga:(start N (.ref p::rest))[0]?=some (some (.ref p)):=by unfold start;rfl
 refine⟨λ a h=>h.1,ht,λ i d e=>?_,λ i c e io=>?_,λ i j c c' v v' fp ad e1 e2 _ _ o1 o2 ab=>?_,?_,λ i c n e i6=>?_⟩
 rotate_left 4
 ·cases i with
  |zero=>exact ga
  |succ i =>
   obtain⟨d',q,z⟩:=key i _ (by unfold BY at e;simpa using e);cases z;cases i6
 ·cases i with
  |zero =>
   have e':some (toCl (some 0) t)=some (.val d):=by simpa [BY] using e
   have:=NH (some 0) t;rw[zw e'] at this;cases this
  |succ i =>
   obtain⟨d',q,z⟩:=key i _ (by unfold BY at e;simpa using e);cases z;obtain⟨v,hv,hd⟩:=h.get q;refine⟨v,?_,hd⟩;unfold start;rw[zh,y8,zK,zZ (by rw[zf];exact (zD.mp hv).1),zF,hv];rfl
 ·cases i with
  |zero =>
   have e':toCl (some 0) t=c:=by simpa [BY] using e
   subst e';exact⟨_,fp,ga,Bz.toCl o,λ a ha=>⟨hp a ha,λ z=>z.2 ha⟩,nd⟩
  |succ i =>
   obtain⟨d',q,z⟩:=key i _ (by unfold BY at e;simpa using e);cases z;cases io
 ·cases i with
  |zero =>
   cases j with
   |zero=>exact (ab rfl).elim
   |succ j =>
    obtain⟨d',q,z⟩:=key j _ (by unfold BY at e2;simpa using e2);cases z;exact o2.elim
  |succ i =>
   obtain⟨d',q,z⟩:=key i _ (by unfold BY at e1;simpa using e1);cases z;exact o1.elim
 ·unfold start BY;simp[hl]
section
variable {P:Program}{w:World}{K:za}{mg:Str->Option Value}{base:Heap}
theorem MO {P0:C6}{P':Addr->Prop}{H':Hp}{σ':St}{ρ:A8}{t:OT}(E:Ae K P0 P' H' σ' ρ)(h:Dl ρ=some t):∃c ad,ρ[0]?=some (some c)/\σ'[0]?=some (some (.ref (P0.g 0)))/\Bz K H' P' c (.ref (P0.g 0)) ad/\B3 K H' P' (.ref (P0.g 0)) t ad/\ad.Nodup/\∀a∈ad,P' a/\¬ P0 a:=by
 unfold Dl at h;split at h
 ·rename_i c e;split at h
  ·rename_i t' e2;cases h;have io:Dd c=true:=by cases c<;>first|rfl|cases e2
   obtain⟨v,fp,k1,k2,k3,k4⟩:=E.ows 0 c e io;have:=E.pin 0 c 0 e (Ej e2);rw[k1] at this;cases this;exact⟨c,fp,e,k1,k2,k2.toT e2,k4,k3⟩
  ·cases h
 ·cases h
theorem TX {x qual:Str}{st:Stmt}{f:Addr}{fd:FuncData}{N ps:List Str}{k:Nat}(F:O6 K x qual st f fd)(S:Au N ps (A4 st))(g:A8->M Out)
 (hb:∀(Bk:Value) (A:Around) (outer:List Env) (s:Shared) (H:Hp) (E:XK),BI k (A.deeper (envOfC qual (A4 st) s.heap.objs.size f Bk))->MH (P6 P w K mg base N qual (A4 st) f Bk A outer s H E) (GO K E) (AB st) g):
 E6 P w K mg base (Sl P w base) (k+1) f fd ps (Pq K ps.length λ t al=>Ek (g (BY N t al))):=by
 obtain⟨oc,od,kV,doc,pm,an,Bk,ct,O4,rfl,lk,az⟩:=F.ex;refine Oz lk az S (λ vs H Q E h=>h.1) λ A outer s H vs Q E hr h=>?_;obtain⟨hl,P',p,t,fp,rest,al,rfl,ht,hp,nd,ho,hv,hq⟩:=h;obtain⟨tt,h1,h2⟩:=hb Bk A outer s H E hr;refine⟨tt,h1,h2 ⟨λ a=>P' a/\a∉fp,λ _=>p⟩ P' _ H _ _ (JJ ht hp nd ho hv) ?_⟩;dsimp only at hq;revert hq;cases g (BY N t al) with
 |bad|ex x=>exact λ h=>h.elim
 |ok o =>
  have sub:∀ {P2:Addr->Prop} {H2:Hp} {σ2:St} {ρ:A8},Ae K ⟨λ a=>P' a/\a∉fp,λ _=>p⟩ P2 H2 σ2 ρ->∀a,P2 a/\¬ (P' a/\a∉fp)->P2 a/\(P' a->a∈fp):=λ E a ha=>⟨ha.1,λ z=>Classical.byContradiction λ w=>ha.2 ⟨z,w⟩⟩;cases o with
  |ret d|Bm d=>exact λ h=>h.elim
  |next ρ =>
   intro hq σ' H' P2 t2 E2;unfold Ek at hq;dsimp only at hq;split at hq
   ·rename_i t' e;obtain⟨c,ad,k1,k2,k3,k4,k5,k6⟩:=MO E2 e;exact hq .Ax H' P2 ad [] (λ a ha hn=>⟨E2.sub a ⟨ha,hn⟩,t2.2 a ⟨ha,hn⟩⟩) E2.BS t2.1 k4 k5 (.sh .Ax) yk (λ a ha=>by cases ha) (λ a ha=>sub E2 a (k6 a ha)) (λ a ha=>by cases ha)
   ·exact hq.elim
  |C7 r ρ =>
   intro hq v fr σ' H' P2 t2 E2 o2 aO hf;unfold Ek at hq;dsimp only at hq;split at hq
   ·rename_i t' e;obtain⟨c,ad,k1,k2,k3,k4,k5,k6⟩:=MO E2 e;exact hq v H' P2 ad fr (λ a ha hn=>⟨E2.sub a ⟨ha,hn⟩,t2.2 a ⟨ha,hn⟩⟩) E2.BS t2.1 k4 k5 o2 aO (λ a ha=>(hf a ha).2.2 0 c _ ad k1 k2 k3) (λ a ha=>sub E2 a (k6 a ha)) (λ a ha=>sub E2 a ⟨(hf a ha).1,(hf a ha).2.1⟩)
   ·exact hq.elim
  |brk ρ|cont ρ=>exact λ h=>h.elim
end
structure FQ (P:Program)(w:World)(K:za)(mg:Str->Option Value)(base:Heap)(x:Str)(k n:Nat)(F:OT->List D->M (OT×OT)):Prop where
 ex:∃fa fd ps,E6 P w K mg base (Sl P w base) k fa fd ps (Pq K n F)/\mg x=some (.ref fa)/\zP K (.ref fa)=true/\Binds K fd ps []
theorem He {P:Program}{w:World}{K:za}{mg:Str->Option Value}{base:Heap}{x:Str}{st:Stmt}{N ps:List Str}{k n:Nat}(T:Bc K mg x st ps)(S:Au N ps (A4 st))(g:A8->M Out)
 (hb:∀(f:Addr) (Bk:Value) (A:Around) (outer:List Env) (s:Shared) (H:Hp) (E:XK),BI k (A.deeper (envOfC x (A4 st) s.heap.objs.size f Bk))->MH (P6 P w K mg base N x (A4 st) f Bk A outer s H E) (GO K E) (AB st) g) (hn:ps.length=n:=by rfl):
 FQ P w K mg base x (k+1) n (λ t al=>Ek (g (BY N t al))):=by
 obtain⟨f,fd,F,hm,hB⟩:=T.ex;subst hn;exact⟨⟨f,fd,ps,TX F S g (hb f),hm,F.kp,hB⟩⟩
section
variable {X:Cx}{WX:Str->Hp->Prop}{c:Bool}{P0:C6}{P:Addr->Prop}{H:Hp}{σ:St}{ρ:A8}{a b e:Expr}{f g:A8->M D}{fn:A8->M OT}{fp:A8->M (List Nat)}{pos:Pos}{i:Nat}{es:List Expr}{fs:A8->M (List D)}
theorem Ae.new {K:za}{P':Addr->Prop}{H':Hp}(E:Ae K P0 P H σ ρ)(s:Ab H H')(sm:Ab (del H P) (del H' P')){a:Addr}(hn:H a=none):∀(j:Nat) c v fq,ρ[j]?=some (some c)->σ[j]?=some (some v)->Bz K H' P' c v fq->a∉fq:=λ j c v fq h1 h2 h3 ha=>by
 have io:Dd c=true:=by cases c<;>first|rfl|exact h3.elim
 obtain⟨w,fr,k1,k2,k3,k4⟩:=E.ows j c h1 io;rw[h2] at k1;cases k1;have m:=k2.move sm λ b hb=>by obtain⟨o,q⟩:=k2.at b hb;rw[q];exact s _ _ q
 rw[h3.Bu m] at ha;obtain⟨o,q⟩:=k2.at a ha;rw[hn] at q;cases q
theorem MQ (ha:DN X WX e fn):DS X WX (.Return (some e) pos) (λ ρ=>(fn ρ).bind λ t=>.ok (.C7 t ρ)):=by
 obtain⟨ta,a1,a2⟩:=ha;refine⟨_,Jl a1,λ P0 P σ H Z ρ E h=>?_⟩;dsimp only at h;refine a2 P0 P σ H _ ρ E ?_;cases q:fn ρ with
 |bad=>rw[q] at h;exact h
 |ex x=>rw[q] at h;exact λ H' s=>h H' P (E.tr s)
 |ok t =>
  rw[q] at h;simp only[M.Aa] at h;intro v fp H' s hn nd o;exact h v fp σ H' (PU P fp) (E.Xs s hn) (E.more s JF (JG (E.same s).BS o) (CL s hn)) o nd λ a ha=>⟨.inr ha,λ z=>(E.BS a (E.sub a z)).no (hn a ha),E.new s (CL s hn) (hn a ha)⟩
theorem Ae.W8 {K:za}{P':Addr->Prop}{H':Hp}{π:List Nat}{v1 v2:V}{t1 u r:OT}{ak fu fr:List Addr}(E:Ae K P0 P H σ ρ)(pl:BC K P H σ ρ i π v1 t1)(o:B3 K H P v1 t1 ak)(hs:∀a,P a->a∉ak->P' a/\H' a=H a)(ht:∀a,P' a->Cr H' a)(sm:Ab (del H P) (del H' P'))
 (o':B3 K H' P' v1 u fu) (nd:fu.Nodup) (hf:∀a∈fu,P' a/\(P a->a∈ak)) (or:B3 K H' P' v2 r fr) (jr:fr.Nodup) (hr:∀a∈fr,P' a/\(P a->a∈ak)) (dj:∀a∈fr,a∉fu):
 ∃c p t,ρ[i]?=some (some c)/\treeOf c=some (p,t)/\Ae K P0 P' H' σ (ρ.set i (some (toCl p (CK t π u))))/\Tr P0 P H P' H'/\
  ∀a∈fr,P' a/\¬ P0 a/\∀(j:Nat) c' v fq,(ρ.set i (some (toCl p (CK t π u))))[j]?=some (some c')->σ[j]?=some (some v)->Bz K H' P' c' v fq->a∉fq:=by
 obtain⟨v0,c,p,t,h1,h2,h3,h4⟩:=pl.ex;have io:Dd c=true:=by cases c<;>first|rfl|cases h2
 obtain⟨w,fp,k1,k2,k3,k4⟩:=E.ows i c h1 io;rw[h3] at k1;cases k1;have ot:=k2.toT h2;obtain⟨fz,oz,kz,_⟩:=ot.part h4;have:=oz.Bu o;subst this;obtain⟨ad,q1,q2,q3⟩:=ot.put sm h4 o o' (λ a ha hn=>(hs a (k3 a ha).1 hn).2) k4 nd (λ a ha hb=>(hf a ha).2 (k3 a hb).1);have gc:∀(j:Nat) c' v' fq,i≠j->ρ[j]?=some (some c')->σ[j]?=some (some v')->Bz K H P c' v' fq->∀a∈fq,P a/\a∉fp:=λ j c' v' fq ab g1 g2 g3 a ha=>by
  have cK:Dd c'=true:=by cases c'<;>first|rfl|exact g3.elim
  obtain⟨w',eB,m1,m2,m3,m4⟩:=E.ows j c' g1 cK;rw[g2] at m1;cases m1;have:=m2.Bu g3;subst this;exact⟨(m3 a ha).1,E.apart j i c' c v' v0 eB fp g1 h1 g2 h3 g3 k2 (zQ ab) a ha⟩
 have key:=E.VU (P':=P') (H':=H') (i:=i) (v:=v0) (c:=toCl p (CK t π u)) (fp:=ad) (λ a ha=>(hs a (E.sub a ha) λ z=>(k3 a (kz a z)).2 ha).1) ht sm (λ j c' v' fq ab g1 g2 g3 a ha=>?_) (Bz.toCl q1) (λ a ha=>?_) q2 (λ n z=>by rw[CM] at z;subst z;have:=E.pin i c n h1 (Ej h2);rw[h3] at this;cases this;rfl)
 ·rw[Jz h3] at key;refine⟨c,p,t,h1,h2,key,⟨sm,λ a ha=>(hs a (E.sub a ha) λ z=>(k3 a (kz a z)).2 ha).2⟩,λ a ha=>⟨(hr a ha).1,λ z=>(k3 a (kz a ((hr a ha).2 (E.sub a z)))).2 z,λ j c' v fq g1 g2 g3 hb=>?_⟩⟩;rcases get_set g1 with ⟨rfl,hl,z⟩|⟨ab,g1⟩
  ·cases z;rw[h3] at g2;cases g2;rw[g3.Bu (Bz.toCl q1)] at hb;rcases q3 a hb with y|y
   ·exact dj a ha y
   ·exact y.2 ((hr a ha).2 (k3 a y.1).1)
  ·have cK:Dd c'=true:=by cases c'<;>first|rfl|exact g3.elim
   obtain⟨w',eB,m1,m2,m3,m4⟩:=E.ows j c' g1 cK;rw[g2] at m1;cases m1;have o2:=gc j c' v eB ab g1 g2 m2;have mv:=m2.move sm λ b aE=>(hs b (o2 b aE).1 λ z=>(o2 b aE).2 (kz b z)).2;rw[g3.Bu mv] at hb;exact (o2 a hb).2 (kz a ((hr a ha).2 (o2 a hb).1))
 ·have o2:=gc j c' v' fq ab g1 g2 g3 a ha;have hk:=hs a o2.1 λ z=>o2.2 (kz a z);refine⟨hk.2,λ z=>?_,hk.1⟩;rcases q3 a z with y|y
  ·exact o2.2 (kz a ((hf a y).2 o2.1))
  ·exact o2.2 y.1
 ·rcases q3 a ha with y|y
  ·exact⟨(hf a y).1,λ z=>(k3 a (kz a ((hf a y).2 (E.sub a z)))).2 z⟩
  ·exact⟨(hs a (k3 a y.1).1 y.2).1,(k3 a y.1).2⟩
end
noncomputable def G1 (i:Nat)(ρ:A8)(π:List Nat)(u:OT):M Out:=match ρ[i]? with
 |some (some c)=>(match treeOf c with|some (p,t)=>.ok (.next (ρ.set i (some (toCl p (CK t π u)))))|none=>.bad)
 |_=>.bad
noncomputable def FR (i:Nat)(ρ:A8)(π:List Nat):M (List OT):=match Po i ρ π with | some (.lst ts)=>.ok ts | _=>.bad
theorem MR {i:Nat}{ρ:A8}{π:List Nat}{u:OT}{c:Cl}{p:Option Nat}{t:OT}(h:ρ[i]?=some (some c))(ht:treeOf c=some (p,t)):G1 i ρ π u=.ok (.next (ρ.set i (some (toCl p (CK t π u))))):=by
 unfold G1;simp only[h,ht]
section
variable {X:Cx}{WX:Str->Hp->Prop}{c:Bool}{P0:C6}{P:Addr->Prop}{H:Hp}{σ:St}{ρ:A8}{a b e:Expr}{f g:A8->M D}{fn:A8->M OT}{fp:A8->M (List Nat)}{pos:Pos}{i:Nat}{es:List Expr}{fs:A8->M (List D)}
noncomputable def TY {α:Type}(o:Option α):M α:=match o with | some x=>.ok x | none=>.bad
noncomputable def Sq (i:Nat)(ρ:A8)(π:List Nat):M (List D):=match Po i ρ π with | some (.lst ts)=>(match Ct ts with | some ds=>.ok ds | none=>.bad) | _=>.bad
noncomputable def W9 (t:OT):M (List D):=match t with | .lst us=>TY (Ct us) | _=>.bad
end
def gX (K:za)(WX:Str->Hp->Prop)(P0:C6)(P:Addr->Prop)(H:Hp)(σ:St)(Q:VK):M (A8×OT)->Prop
 | .ok (ρ,t)=>∀v fp H' P',Tr P0 P H P' H'->Ae K P0 P' H' σ ρ->B3 K H' P' v t fp->fp.Nodup->(∀a∈fp,P' a/\¬ P0 a/\∀(j:Nat) c v' fq,ρ[j]?=some (some c)->σ[j]?=some (some v')->Bz K H' P' c v' fq->a∉fq)->Q v H'
 | .ex x=>∀H' P',Tr P0 P H P' H'->WX x H'
 | .bad=>False
def DX (X:Cx)(WX:Str->Hp->Prop)(e:Expr)(f:A8->M (A8×OT)):Prop:=
 ∃t,PE X e t/\∀P0 P σ H Q ρ,Ae X.K P0 P H σ ρ->gX X.K WX P0 P H σ Q (f ρ)->t σ H Q
noncomputable def Pr:OT->Bool
 | .sh _=>false
 |_=>true
noncomputable def L0 (i:Nat)(F:OT->List D->M (OT×OT))(ρ:A8)(π:List Nat)(al:List D):M (A8×OT):=match ρ[i]? with
 |some (some c)=>(match treeOf c with
  |some (p,t)=>(match Fg t π with
   |some t1=>if Pr t1=true then (match F t1 al with | .ok (t2,r)=>.ok (ρ.set i (some (toCl p (CK t π t2))),r)|_=>.bad) else .bad
   |none=>.bad)
  |none=>.bad)
 |_=>.bad
section
variable {X:Cx}{E:XK}{WX:Str->Hp->Prop}{c:Bool}{P0:C6}{P:Addr->Prop}{H:Hp}{σ:St}{ρ:A8}{a b e:Expr}{f g:A8->M D}{fn:A8->M OT}{fx:A8->M (A8×OT)}{fp:A8->M (List Nat)}{pos:Pos}{i:Nat}{es:List Expr}{fs:A8->M (List D)}
theorem Pt {F:OT->List D->M (OT×OT)}{π:List Nat}{al:List D}{c:Cl}{p:Option Nat}{t t1 t2 r:OT}(h:ρ[i]?=some (some c))(ht:treeOf c=some (p,t))(hs:Fg t π=some t1)(hN:Pr t1=true)(hF:F t1 al=.ok (t2,r)):L0 i F ρ π al=.ok (ρ.set i (some (toCl p (CK t π t2))),r):=by
 unfold L0;simp only[h,ht,hs,hN,if_true,hF]
theorem MS {k n:Nat}{F:OT->List D->M (OT×OT)}{x:Str}{p:Pos}(xo:XCall X E)(G:FQ X.prog X.w X.K X.mg X.base x k n F)(hr:BI k X.A)(hg:Gl X x)(hp:DP X (GO X.K E) a i fp)(ha:DA X (GO X.K E) true es fs)(hn:es.length+1=n)
 (aP:(x==("__debug__" : Str))=false:=by decide) (he:starEach (a::es) X.env=(false,eval a X.env)::starEach es X.env:=by rfl) (hpl:(backTo pos (starEach es X.env)).any (·.1)=false:=by rfl):
 DX X (GO X.K E) (.Call (.Name x p) (a::es) [] pos) (λ ρ=>(fp ρ).bind λ π=>(fs ρ).bind λ al=>L0 i F ρ π al):=by
 obtain⟨fa,fd,ps,hF,hm,hk,hb⟩:=G.ex;obtain⟨tp,p1,p2⟩:=hp;obtain⟨ta,a1,a2,a3⟩:=ha;refine⟨_,MB hF hr hg hm hk hb .nil xo.call (BF p1 a1 he) aP he hpl,λ P0 P σ H Q ρ Ev h=>?_⟩;dsimp only at h;refine p2 P0 P σ H _ ρ Ev ?_;cases q:fp ρ with
 |bad=>rw[q] at h;exact h
 |ex x=>rw[q] at h;exact λ H' s=>h H' P (Ev.tr s)
 |ok π =>
  rw[q] at h;simp only[M.Aa] at h;intro v t1 H1 s1 pl;have E1:=Ev.same s1;refine a2 P0 P σ H1 _ ρ E1 ?_;cases q2:fs ρ with
  |bad=>rw[q2] at h;exact h
  |ex y=>rw[q2] at h;exact λ H' s=>h H' P ((Ev.tr s1).trans (E1.tr s))
  |ok al =>
   rw[q2] at h;simp only[M.Aa] at h;intro vs H2 s2 aA;have E2:=E1.same s2;have bV:=pl.same s2;show Pq X.K n F ((v::vs)++[]) H2 Q E;rw[ym];obtain⟨v0,c,pp,t,g1,g2,g3,g4⟩:=bV.ex;unfold L0 at h;simp only[g1,g2,g4.sub] at h;by_cases hx:Pr t1=true
   ·rw[if_pos hx] at h;obtain⟨ak,o1,eC,e8⟩:=bV.own E2;have eE:∃l,v=.ref l:=by
     cases o1 with
     |sh hv=>exact absurd hx (by simp[Pr])
     |lst _ _|tup _ _|dK _ _|dT _ _|ins _ _ _=>exact⟨_,rfl⟩
    obtain⟨l,rfl⟩:=eE;refine⟨by rw[zp,aA.length,a3 ρ al q2];exact hn,P,l,t1,ak,vs,al,rfl,E2.BS,λ b hb=>(eC b hb).1,e8,o1,aA,?_⟩;cases qF:F t1 al with
    |bad|ex x=>rw[qF] at h;exact h.elim
    |ok z =>
    obtain⟨t2,r⟩:=z;rw[qF] at h;intro w H' P' fu fr k1 k2 k3 k4 k5 k6 k7 k8 k9 i7;obtain⟨c',p',t',m1,m2,m3,m4,m5⟩:=E2.W8 bV o1 k1 k2 k3 k4 k5 k9 k6 k7 i7 k8;rw[g1] at m1;cases m1;rw[g2] at m2;cases m2;exact h w fr H' P' (((Ev.tr s1).trans (E1.tr s2)).trans m4) m3 k6 k7 m5
   ·rw[if_neg hx] at h;exact h.elim
theorem Hf (he:DX X WX e fx)(hs:swapsWith e none pos.line X.env=pure false:=by rfl):DS X WX (.Expr e pos) (λ ρ=>(fx ρ).bind λ z=>.ok (.next z.1)):=by
 obtain⟨te,e1,e2⟩:=he;refine⟨_,My e1 hs,λ P0 P σ H Z ρ E h=>?_⟩;dsimp only at h;refine e2 P0 P σ H _ ρ E ?_;cases q:fx ρ with
 |bad|ex x=>rw[q] at h;exact h
 |ok z=>rw[q] at h;exact λ v fp H' P' t E' o nd hf=>h σ H' P' t E'
theorem RM (j:Nat){x:Str}{pos':Pos}(hN:X.N.Nodup)(hi:X.N[j]?=some x)(hx:Loc X.env.scope x)(he:DX X WX e fx)(hs:swapsWith e (some (.Name x pos')) pos.line X.env=pure false:=by rfl)(hf:X.fn x=true\/X.env.scope.names.lookup x=some .local:=by first | exact .inl rfl | exact .inr rfl | assumption):
 DS X WX (.Assign [.Name x pos'] e pos) (λ ρ=>(fx ρ).bind λ z=>KW j z.1 z.2):=by
 obtain⟨te,e1,e2⟩:=he;refine⟨_,LF hN hi hx e1 hs hf,λ P0 P σ H Z ρ E h=>?_⟩;dsimp only at h;refine e2 P0 P σ H _ ρ E ?_;cases q:fx ρ with
 |bad|ex x=>rw[q] at h;exact h
 |ok z =>
  rw[q] at h;simp only[M.Aa] at h;intro v fp H' P' tr E' o nd hf;have h':=h.tr tr;have key:gS X.K WX P0 P' H' Z (.ok (.next (z.1.set j (some (toCl none z.2)))))->Z.nx (σ.set j (some v)) H':=λ h=>by
   refine h _ H' P' Tr.refl (E'.Rq (λ _ h=>h) E'.BS (Ab.refl _) (λ k c' v' ad ab g1 g2 g3 b hb=>⟨rfl,λ w=>(hf b w).2.2 k c' v' ad g1 g2 g3 hb⟩) (Bz.toCl o) (λ b hb=>⟨(hf b hb).1,(hf b hb).2.1⟩) nd (λ n z=>by rw[CM] at z;cases z))
  obtain⟨ρ1,u⟩:=z;cases u with
  |sh d =>
   cases o with
   |sh hv=>exact h' _ H' P' Tr.refl (E'.Nu hv)
  |lst ts|tup ts|B0 b ks ts|ins x ns ts=>exact key h'
theorem Wa {d:Expr}(he:DX X WX e fx)(hd:DE X WX true d f):DX X WX (.BoolOp .Or [e,d] pos) (λ ρ=>(fx ρ).bind λ z=>match z.2 with | .sh (.bl true)=>.ok (z.1,.sh (.bl true)) | .sh (.bl false)=>(f z.1).bind λ y=>.ok (z.1,.sh y) | _=>.bad):=by
 obtain⟨te,e1,e2⟩:=he;obtain⟨td,d1,d2⟩:=hd;refine⟨_,Vi e1 (Oi d1),λ P0 P σ H Q ρ E h=>?_⟩;dsimp only at h;refine e2 P0 P σ H _ ρ E ?_;cases q:fx ρ with
 |bad|ex x=>rw[q] at h;exact h
 |ok z =>
  rw[q] at h;simp only[M.Aa] at h;obtain⟨ρ1,u⟩:=z;intro v fp H' P' tr E' o nd hf;dsimp only at h;cases u with
  |sh d' =>
   cases o with
   |sh hv =>
    cases d' with
    |bl k =>
     have:=hv.Jv;subst this;cases k with
     |true=>exact⟨true,rfl,by simp only[if_true];exact h _ [] H' P' tr E' (.sh (.bl true)) yk λ a ha=>by cases ha⟩
     |false =>
      refine⟨false,rfl,?_⟩;simp only[zu,if_false];refine d2 P0 P' σ H' _ ρ1 E' ?_;dsimp only at h;cases q2:f ρ1 with
      |bad=>rw[q2] at h;exact h
      |ex y=>rw[q2] at h;exact λ H2 s2=>h H2 P' (tr.trans (E'.tr s2))
      |ok y=>rw[q2] at h;exact λ w H2 s2 hw=>h w [] H2 P' (tr.trans (E'.tr s2)) (E'.same s2) (.sh hw) yk λ a ha=>by cases ha
    |_=>exact h.elim
  |_=>exact h.elim
end
noncomputable def Cu (i:Nat)(ρ:A8)(π:List Nat):M (Bool×List D×List D):=match Po i ρ π with
 |some (.B0 b ks ts)=>(match Ct ts with|some vs=>.ok (b,ks,vs)|none=>.bad)
 |_=>.bad
noncomputable def putD (ks vs:List D)(k v:D):List D×List D:=if JH ks k=true then (ks,FZ ks vs k v) else (ks++[k],vs++[v])
section
variable {X:Cx}{E:XK}{WX:Str->Hp->Prop}{c:Bool}{P0:C6}{P:Addr->Prop}{H:Hp}{σ:St}{ρ:A8}{a b e:Expr}{f g:A8->M D}{fn:A8->M OT}{fx:A8->M (A8×OT)}{fp:A8->M (List Nat)}{pos:Pos}{i:Nat}{es:List Expr}{fs:A8->M (List D)}
theorem BC.B0 {K:za}{π:List Nat}{v:V}{t1:OT}{bl:Bool}{ks vs:List D}(pl:BC K P H σ ρ i π v t1)(E:Ae K P0 P H σ ρ)(h:Cu i ρ π=.ok (bl,ks,vs)):t1=.B0 bl ks (vs.map .sh)/\∃l xs,v=.ref l/\P l/\Ac K (del H P) xs vs/\B3 K H P (.ref l) (.B0 bl ks (vs.map .sh)) [l]/\
 ((bl=false/\∃kvs,H l=some (.dK kvs)/\ks=(kvs.map λ kv=>BB kv.1)/\xs=kvs.map yj)\/(bl=true/\∃kvs,H l=some (.dT kvs)/\ks=(kvs.map λ kv=>.tup (kv.1.map BB))/\xs=kvs.map yj)):=by
 unfold Cu at h;rw[pl.at] at h;split at h
 ·rename_i b' i5 js e;split at h
  ·rename_i ar e';cases e;cases h;have z:=Ei e';subst z;obtain⟨ak,o1,hp,nd⟩:=pl.own E;generalize ht:OT.B0 bl ks (vs.map .sh)=t at o1;cases o1 with
   |dK hh hr =>
    injection ht with h1 h2 h3
    subst h1 h2 h3;obtain⟨rfl,hs⟩:=hr.WD;exact⟨rfl,_,_,rfl,(hp _ zb).1,hs,.dK hh hr,.inl ⟨rfl,_,hh,rfl,rfl⟩⟩
   |dT hh hr =>
    injection ht with h1 h2 h3
    subst h1 h2 h3;obtain⟨rfl,hs⟩:=hr.WD;exact⟨rfl,_,_,rfl,(hp _ zb).1,hs,.dT hh hr,.inr ⟨rfl,_,hh,rfl,rfl⟩⟩
   |_=>cases ht
  ·cases h
 ·cases h
theorem Pu {π:List Nat}{x:Str}(h:Cu i ρ π=.ex x):False:=by
 unfold Cu at h;split at h
 ·split at h<;>cases h
 ·cases h
theorem Ae.Wb {K:za}{π:List Nat}{l:Addr}{t1 u:OT}{o':HO}(E:Ae K P0 P H σ ρ)(pl:BC K P H σ ρ i π (.ref l) t1)(ot:B3 K H P (.ref l) t1 [l])(hn:∀xs,o'≠.tup xs/\∀z,o'≠.Cm z (.tup xs))(new:Ab (del H P) (del (upd H l o') P)->B3 K (upd H l o') P (.ref l) u [l]):
 ∃c p t,ρ[i]?=some (some c)/\treeOf c=some (p,t)/\Ae K P0 P (upd H l o') σ (ρ.set i (some (toCl p (CK t π u))))/\Tr P0 P H P (upd H l o'):=by
 obtain⟨ak,o1,hp,_⟩:=pl.own E;have:=o1.Bu ot;subst this;have pP:P l:=(hp l zb).1;have sd:del (upd H l o') P=del H P:=by
  funext b;by_cases hb:P b
  ·rw[Eg hb,Eg hb]
  ·rw[Aj hb,Aj hb,A5 (λ z=>hb (by rw[z];exact pP))]
 have sm:Ab (del H P) (del (upd H l o') P):=by rw[sd];exact Ab.refl _
 refine E.Xu pl ot (λ _ h=>h) (λ a h=>?_) sm (λ a ha hn=>A5 λ z=>hn (by rw[z];exact zb)) (new sm) (by simp) (λ a ha=>.inl ha);by_cases ha:a=l
 ·subst ha;exact⟨_,Ad,hn⟩
 ·unfold Cr;rw[A5 ha];exact E.BS a h
theorem JK {n:Nat}(hu:X.A.units+n<cLine)(ha:DP X WX a i fp)(hk:DE X WX true b g)(hv:DE X WX true e f){pos':Pos}(hs:swapsWith e (some (.Subscript a b pos')) pos.line X.env=pure false:=by rfl)(hn:1<=n:=by decide):
 DS X WX (.Assign [.Subscript a b pos'] e pos) (λ ρ=>(f ρ).bind λ v=>(fp ρ).bind λ π=>(g ρ).bind λ k=>(Cu i ρ π).bind λ z=>if keyOk z.1 k=true/\z.2.1.length<1000 then G1 i ρ π (.B0 z.1 (putD z.2.1 z.2.2 k v).1 ((putD z.2.1 z.2.2 k v).2.map .sh)) else .bad):=by
 obtain⟨ta,a1,a2⟩:=ha;obtain⟨tk,k1,k2⟩:=hk;obtain⟨tv,v1,v2⟩:=hv;refine⟨_,Rc (by omega) a1 k1 v1 hs,λ P0 P σ H Z ρ E h=>?_⟩;dsimp only at h;refine v2 P0 P σ H _ ρ E ?_;cases q0:f ρ with
 |bad=>rw[q0] at h;exact h
 |ex x=>rw[q0] at h;exact λ H' s=>h H' P (E.tr s)
 |ok d =>
  rw[q0] at h;simp only[M.Aa] at h;intro w H0 s0 hw;have E0:=E.same s0;refine a2 P0 P σ H0 _ ρ E0 ?_;cases q:fp ρ with
  |bad=>rw[q] at h;exact h
  |ex x=>rw[q] at h;exact λ H' s=>h H' P ((E.tr s0).trans (E0.tr s))
  |ok π =>
   rw[q] at h;simp only[M.Aa] at h;intro v t1 H1 s1 pl;have E1:=E0.same s1;refine k2 P0 P σ H1 _ ρ E1 ?_;cases q2:g ρ with
   |bad=>rw[q2] at h;exact h
   |ex y=>rw[q2] at h;exact λ H' s=>h H' P (((E.tr s0).trans (E0.tr s1)).trans (E1.tr s))
   |ok k =>
    rw[q2] at h;simp only[M.Aa] at h;intro y H2 s2 hy;have E2:=E1.same s2;have bV:=pl.same s2;have di:=(hw.mono s1.del).mono s2.del;have ge:=((E.tr s0).trans (E0.tr s1)).trans (E1.tr s2);cases q3:Cu i ρ π with
    |bad=>rw[q3] at h;exact h.elim
    |ex x=>exact (Pu q3).elim
    |ok z =>
     obtain⟨bb,ks,vs⟩:=z;rw[q3] at h;simp only[M.Aa] at h;by_cases hc:keyOk bb k=true/\ks.length<1000
     ·rw[if_pos hc] at h;obtain⟨rfl,l,xs,rfl,hP,b7,ot,cL⟩:=bV.B0 E2 q3;have hK:=Dk hc.1;rcases cL with ⟨rfl,kvs,hH,rfl,rfl⟩|⟨rfl,kvs,hH,rfl,rfl⟩
      ·cases hK with
       |k κ =>
        have ey:=hy.TU;refine⟨l,_,rfl,.inl ⟨kvs,κ,hH,ey,AZ (by have:=hc.2;rw[zf] at this;omega),rfl⟩,?_⟩;have ax:∃ar,(putD (kvs.map λ kv=>BB kv.1) vs (BB κ) d)=((putK kvs κ w).map (λ kv=>BB kv.1),ar)/\Ac X.K (del H2 P) ((putK kvs κ w).map yj) ar:=by
         unfold putD putK;rw[Hc Ha];by_cases hh:(kvs.any λ kv=>decide (kv.1=κ))=true
         ·rw[if_pos hh,if_pos hh];refine⟨_,by rw[EM (fk:=BB) Ha],?_⟩;rw[<-EL (fk:=BB) Ha];exact EN di b7
         ·rw[if_neg hh,if_neg hh];refine⟨_,by rw[zS];rfl,?_⟩;rw[zS];exact b7.snoc di
        obtain⟨ar,e1,e2⟩:=ax;obtain⟨c,p,t0,g1,g2,E3,t3⟩:=E2.Wb (o':=.dK (putK kvs κ w)) (u:=.B0 false ((putK kvs κ w).map λ kv=>BB kv.1) (ar.map .sh)) bV ot (λ _=>⟨λ z=>(by cases z),λ _ z=>by cases z⟩) (λ mv=>.dK Ad (e2.mono mv).ows);rw[e1,MR g1 g2] at h;exact h _ _ _ (ge.trans t3) E3
      ·cases hK with
       |t κ =>
        cases hy with
        |tup ht bU =>
         have ey:=Ac.keys κ bU;subst ey;refine⟨l,_,rfl,.inr ⟨kvs,κ,_,hH,rfl,(Ag ht).2,AZ (by have:=hc.2;rw[zf] at this;omega),rfl⟩,?_⟩;have hf:∀a b:List Key,Al (.tup (a.map BB)) (.tup (b.map BB))=decide (a=b):=λ a b=>by simp only[Al];exact Ge a b
         have ax:∃ar,(putD (kvs.map λ kv=>.tup (kv.1.map BB)) vs (.tup (κ.map BB)) d)=((putK kvs κ w).map (λ kv=>.tup (kv.1.map BB)),ar)/\Ac X.K (del H2 P) ((putK kvs κ w).map yj) ar:=by
          unfold putD putK;rw[Hc (fk:=λ κ:List Key=>D.tup (κ.map BB)) hf];by_cases hh:(kvs.any λ kv=>decide (kv.1=κ))=true
          ·rw[if_pos hh,if_pos hh];refine⟨_,by rw[EM (fk:=λ κ:List Key=>D.tup (κ.map BB)) hf],?_⟩;rw[<-EL (fk:=λ κ:List Key=>D.tup (κ.map BB)) hf];exact EN di b7
          ·rw[if_neg hh,if_neg hh];refine⟨_,by rw[zS];rfl,?_⟩;rw[zS];exact b7.snoc di
         obtain⟨ar,e1,e2⟩:=ax;obtain⟨c,p,t0,g1,g2,E3,t3⟩:=E2.Wb (o':=.dT (putK kvs κ w)) (u:=.B0 true ((putK kvs κ w).map λ kv=>.tup (kv.1.map BB)) (ar.map .sh)) bV ot (λ _=>⟨λ z=>(by cases z),λ _ z=>by cases z⟩) (λ mv=>.dT Ad (e2.mono mv).ows);rw[e1,MR g1 g2] at h;exact h _ _ _ (ge.trans t3) E3
     ·rw[if_neg hc] at h;exact h.elim
theorem L1 (tk:Bool):DN X WX (.Dict [] [] pos) (λ _=>.ok (.B0 tk [] [])):=by
 cases tk with
 |false =>
  refine⟨_,OK,λ P0 P σ H Q ρ E h p hp=>?_⟩;exact h _ [p] _ (Ay hp _) (λ a ha=>by rw[zj.mp ha];exact hp) (by simp) (.dK (kvs:=[]) Ad .nil)
 |true =>
  refine⟨_,OL,λ P0 P σ H Q ρ E h p hp=>?_⟩;exact h _ [p] _ (Ay hp _) (λ a ha=>by rw[zj.mp ha];exact hp) (by simp) (.dT (kvs:=[]) Ad .nil)
end
section
variable {X:Cx}{WX:Str->Hp->Prop}{c:Bool}{P0:C6}{P:Addr->Prop}{H:Hp}{σ:St}{ρ:A8}{a b e:Expr}{f g:A8->M D}{fn:A8->M OT}{pos:Pos}{te:TE}
theorem NI (hc:X.calm=true):FK X (.builtin "sum") (λ xs H Q=>∃p ns,xs=[.ref p]/\CC X.K H p (List.map V.int ns)/\Q (.int ns.sum) H):=by
 intro pins s σ H xs us Q I r h;obtain⟨p,ns,rfl,hq,q⟩:=h;obtain⟨u,rfl,rx⟩:=r.one;cases rx;obtain⟨aa,r',pl,hz⟩:=I.list hq;have hl:=pl.isList;have hi:=EJ r';obtain⟨ys,e⟩:=hi.allInts.items;have bK:ns=ys.toList.map (·.1):=by rw[<-hi.numsOf,<-nums_intItems,<-e]
 rw[e] at hl;refine sum_intListG (I.ok.hd hc) hl λ h' tk t' hk=>?_;have e2:preSum (numAt ys) ys.size=ns.sum:=by rw[preSum_eq,zX (by simp),bK]
 rw[e2];exact⟨.int ns.sum,H,I.kept (t':=tk) hk,⟨t',rfl⟩,q⟩
noncomputable def Pw (ds:List D):M D:=match ds with
 |[.lst xs]=>(match BQ xs with|some ns=>.ok (.int ns.sum)|none=>.bad)
 |_=>.bad
theorem TZ:KO X.K WX (λ xs H Q=>∃p ns,xs=[.ref p]/\CC X.K H p (List.map V.int ns)/\Q (.int ns.sum) H) Pw:=by
 intro P H ds vs Q ht hl h;unfold Pw at h;split at h
 ·rename_i xs;obtain⟨v,rfl,hv⟩:=hl.one;split at h
  ·rename_i ns eb;have:=DR eb;subst this;cases hv with
   |lst hs hh =>
    have:=CJ hh;subst this;exact⟨_,ns,rfl,hs.B9,h _ H (Ab.refl H) (.int _)⟩
  ·exact h.elim
 ·exact h.elim
theorem Px {p:Pos}(hc:X.calm=true)(hg:Gl X "sum")(hm:X.mg "sum" = none)(ha:DE X WX c e f)(hb:bootBuiltins "sum" = some (.builtin "sum"):=by decide +kernel)(hs:starEach [e] X.env=[(false,eval e X.env)]:=by rfl):DE X WX c (.Call (.Name "sum" p) [e] [] pos) (λ ρ=>((f ρ).bind λ d=>(M.ok []).bind λ ds=>.ok (d::ds)).bind Pw):=
 GI (NI hc) TZ hg hm hb (A2 ha Ah hs) (he:=hs)
noncomputable def NJ (lo hi:Option Int)(d:D):M OT:=match d with
 | .lst ds=>.ok (.lst (((ds.drop (HT.Gv ds.length 0 lo)).take (HT.Gv ds.length ds.length hi-HT.Gv ds.length 0 lo)).map .sh))
 |_=>.bad
theorem Cv {lo hi:Option Expr}{eF fh:A8->M (Option Int)}{p2:Pos}(ha:DE X WX true e f)(hl:DO X WX true lo eF)(hh:DO X WX true hi fh):DN X WX (.Subscript e (.Slice lo hi none p2) pos) (λ ρ=>(f ρ).bind λ d=>(eF ρ).bind λ l=>(fh ρ).bind λ u=>NJ l u d):=by
 obtain⟨ta,a1,a2⟩:=ha;obtain⟨tl,l1,l2⟩:=hl;obtain⟨th,h1,h2⟩:=hh;refine⟨_,OC R8 a1 l1 h1,λ P0 P σ H Q ρ E h=>?_⟩;dsimp only at h;refine a2 P0 P σ H _ ρ E ?_;cases q:f ρ with
 |bad|ex x=>rw[q] at h;exact h
 |ok d =>
  rw[q] at h;intro v H1 s1 hv;refine l2 P0 P σ H1 _ ρ (E.same s1) ?_;cases q2:eF ρ with
  |bad=>rw[q2] at h;exact h
  |ex y=>rw[q2] at h;exact λ H' s=>h H' (s1.trans s)
  |ok l =>
   rw[q2] at h;intro H2 s2;refine h2 P0 P σ H2 _ ρ ((E.same s1).same s2) ?_;cases q3:fh ρ with
   |bad=>rw[q3] at h;exact h
   |ex y=>rw[q3] at h;exact λ H' s=>h H' ((s1.trans s2).trans s)
   |ok u =>
    rw[q3] at h;simp only[M.Aa] at h;intro H3 s3;unfold NJ at h;split at h
    ·cases hv with
     |lst hs hl =>
      refine⟨_,_,rfl,(s3.seq (s2.seq hs.B9)),λ p hp=>h.Iv ((s1.trans s2).trans s3) ?_ p hp⟩;unfold OD;rw[hl.length];exact ((((hl.drop _).take _).mono s2.del).mono s3.del)
    ·exact h.elim
variable {cD:List D->A8->M A8}{gt:D->A8->M A8}{es:List Expr}
end
theorem NK (K:za)(d:D):PySem.W.kitOne K (.type (V0 d)) (.type "dict")=some (Cs "dict" d):=by cases d<;>rfl
section
variable {X:Cx}{E:XK}{WX:Str->Hp->Prop}{c:Bool}{P0:C6}{P:Addr->Prop}{H:Hp}{σ:St}{ρ:A8}{a b e:Expr}{f g:A8->M D}{fn:A8->M OT}{fx:A8->M (A8×OT)}{fp:A8->M (List Nat)}{pos:Pos}{i:Nat}{te:TE}
theorem RN:KO X.K WX (λ xs H Q=>∃i j,xs=[.int i,.int j]/\Q (.int (if j<i then j else i)) H) (λ ds=>match ds with | [.int i,.int j]=>.ok (.int (if j<i then j else i)) | _=>.bad):=by
 intro P H ds vs Q ht hl h;dsimp only at h;split at h
 ·obtain⟨v,w,rfl,h1,h2⟩:=hl.two;exact⟨_,_,by rw[h1.int_inv,h2.int_inv],h _ H (Ab.refl H) (.int _)⟩
 ·exact h.elim
theorem MT {p:Pos}(hc:X.calm=true)(hg:Gl X "min")(hm:X.mg "min" = none)(ha:DE X WX c a f)(b9:DE X WX c b g)(hb:bootBuiltins "min" = some (.builtin "min"):=by decide +kernel)(hs:starEach [a,b] X.env=(false,eval a X.env)::starEach [b] X.env:=by rfl)(bO:starEach [b] X.env=[(false,eval b X.env)]:=by rfl)
 (hpl:(backTo pos (starEach [b] X.env)).any (·.1)=false:=by rfl):
 DE X WX c (.Call (.Name "min" p) [a,b] [] pos) (λ ρ=>((f ρ).bind λ d=>((g ρ).bind λ d2=>(M.ok []).bind λ ds=>.ok (d2::ds)).bind λ ds=>.ok (d::ds)).bind (λ ds=>match ds with|[.int i,.int j]=>.ok (.int (if j<i then j else i))|_=>.bad)):=
 GI (Nh hc) RN hg hm hb (A2 ha (A2 b9 Ah bO) hs) (he:=hs) (hpl:=hpl)
end
def WP (m:M Out)(nx:A8->Prop)(rt:Out->Prop)(ex:Str->Prop):Prop:=match m with
 | .ok (.next ρ)=>nx ρ
 | .ok o=>rt o
 | .ex x=>ex x
 | .bad=>False
section
variable {nx:A8->Prop}{rt:Out->Prop}{ex:Str->Prop}{m:M Out}{k:A8->M Out}{ρ ρ':A8}
theorem AQ (h:m=.ok (.next ρ'))(hn:nx ρ'):WP m nx rt ex:=by rw[h];exact hn
theorem WP.mono {gf:A8->Prop}{gh:Out->Prop}{dw:Str->Prop}(h:WP m nx rt ex)(h1:∀ρ,nx ρ->gf ρ)(h2:∀o,rt o->gh o)(h3:∀x,ex x->dw x):WP m gf gh dw:=by
 cases m with
 |bad=>exact h
 |ex x=>exact h3 x h
 |ok o =>
  cases o with
  |next ρ=>exact h1 ρ h
  |ret d|brk d|cont d|Bm d|C7 d ρ=>exact h2 _ h
theorem wp_seq (h:WP m (λ ρ=>WP (k ρ) nx rt ex) rt ex):WP (OY m k) nx rt ex:=by
 cases m with
 |bad|ex x=>exact h
 |ok o =>
  cases o with
  |next ρ|ret d|brk d|cont d|Bm d|C7 d ρ=>exact h
theorem wp_step (h:m=.ok (.next ρ'))(hk:WP (k ρ') nx rt ex):WP (OY m k) nx rt ex:=by rw[h];exact hk
theorem BP {I:A8->Prop}(h:WP m I rt ex)(hk:∀ρ,I ρ->WP (k ρ) nx rt ex):WP (OY m k) nx rt ex:=wp_seq (h.mono hk (λ _ h=>h) λ _ h=>h)
def inLoop (I:A8->Prop)(nx:A8->Prop)(rt:Out->Prop)(o:Out):Prop:=match o with
 | .cont ρ=>I ρ
 | .brk ρ=>nx ρ
 |o=>rt o
theorem BZ {gt:D->A8->M A8}{gb:A8->M Out}{ds:List D}(I:Nat->A8->Prop)(h0:I 0 ρ)
 (step:∀i d ρ,ds[i]?=some d->I i ρ->∃ρ1,gt d ρ=.ok ρ1/\WP (gb ρ1) (I (i+1)) (inLoop (I (i+1)) nx rt) ex) (done:∀ρ,I ds.length ρ->nx ρ):WP (forM gt gb ds ρ) nx rt ex:=by
 have key:∀(n i:Nat) (ρ:A8),i+n=ds.length->I i ρ->WP (forM gt gb (ds.drop i) ρ) nx rt ex:=by
  intro n;induction n with
  |zero =>
   intro i ρ hi h;have e:i=ds.length:=by omega
   subst e;rw[y7,forM];exact done ρ h
  |succ n ih =>
   intro i ρ hi h;have ag:i<ds.length:=by omega
   obtain⟨ρ1,h1,h2⟩:=step i ds[i] ρ (zr ag) h;rw[Dh ag,forM,h1];dsimp only;cases q:gb ρ1 with
   |bad|ex x=>rw[q] at h2;exact h2
   |ok o =>
    rw[q] at h2;cases o with
    |next ρ2=>exact ih (i+1) ρ2 (by omega) h2
    |ret d|Bm d|C7 d ρ2=>exact h2
    |cont ρ2=>exact ih (i+1) ρ2 (by omega) h2
    |brk ρ2=>exact h2
 have:=key ds.length 0 ρ (by omega) h0;rw[List.drop_zero] at this;exact this
theorem Py {α:Type}{c:A8->M Bool}{b:A8->M Out}{lt:α->α->Prop}(J:α->A8->Prop){x:α}(hx:Acc lt x)(h0:J x ρ)
 (step:∀x ρ,J x ρ->(c ρ=.ok false/\nx ρ)\/(c ρ=.ok true/\WP (b ρ) (λ ρ2=>∃y,lt y x/\J y ρ2) (inLoop (λ ρ2=>∃y,lt y x/\J y ρ2) nx rt) ex)):WP (FO c b ρ) nx rt ex:=by
 have key:∀x,Acc lt x->∀ρ,J x ρ->∃n,Ak c b n ρ≠.bad/\WP (Ak c b n ρ) nx rt ex:=by
  intro x hx;induction hx with
  |intro x _ ih =>
   intro ρ h;rcases step x ρ h with ⟨h1,h2⟩|⟨h1,h2⟩
   ·refine⟨1,?_,?_⟩
    ·rw[Ak,h1];intro z;cases z
    ·rw[Ak,h1];exact h2
   ·cases q:b ρ with
    |bad=>rw[q] at h2;exact h2.elim
    |ex y =>
     rw[q] at h2;refine⟨1,?_,?_⟩
     ·rw[Ak,h1];dsimp only;rw[q];intro z;cases z
     ·rw[Ak,h1];dsimp only;rw[q];exact h2
    |ok o =>
     rw[q] at h2;have go:∀ρ2,(∃y,lt y x/\J y ρ2)->(∀n,Ak c b (n+1) ρ=Ak c b n ρ2)->∃n,Ak c b n ρ≠.bad/\WP (Ak c b n ρ) nx rt ex:=by
      rintro ρ2 ⟨y,hy,hJ⟩ e;obtain⟨n,h3,h4⟩:=ih y hy ρ2 hJ;exact⟨n+1,by rw[e];exact h3,by rw[e];exact h4⟩
     cases o with
     |next ρ2|cont ρ2=>exact go ρ2 h2 λ n=>by rw[Ak,h1];dsimp only;rw[q]
     |brk ρ2 =>
      refine⟨1,?_,?_⟩
      ·rw[Ak,h1];dsimp only;rw[q];intro z;cases z
      ·rw[Ak,h1];dsimp only;rw[q];exact h2
     |ret d =>
      refine⟨1,?_,?_⟩
      ·rw[Ak,h1];dsimp only;rw[q];intro z;cases z
      ·rw[Ak,h1];dsimp only;rw[q];exact h2
     |Bm d =>
      refine⟨1,?_,?_⟩
      ·rw[Ak,h1];dsimp only;rw[q];intro z;cases z
      ·rw[Ak,h1];dsimp only;rw[q];exact h2
     |C7 d ρ2 =>
      refine⟨1,?_,?_⟩
      ·rw[Ak,h1];dsimp only;rw[q];intro z;cases z
      ·rw[Ak,h1];dsimp only;rw[q];exact h2
 obtain⟨n,h1,h2⟩:=key x hx ρ h0;unfold FO;have hx:∃n,Ak c b n ρ≠.bad:=⟨n,h1⟩;rw[dif_pos hx];have e:Ak c b (zv hx) ρ=Ak c b n ρ:=by
  have a:=Bo (zc hx) n;have b':=Bo h1 (zv hx);rw[Nat.add_comm] at b';rw[<-a,<-b']
 rw[e];exact h2
def XU (Q:OT->Prop)(o:Out):Prop:=match o with
 | .ret d=>Q (.sh d)
 | .Bm c=>∃t,W5 c=.ok t/\Q t
 |_=>False
theorem MU {Q:OT->Prop}(h:WP m (λ _=>Q (.sh .Ax)) (XU Q) (λ _=>False)):∃t,Pm m=.ok t/\Q t:=by
 cases m with
 |bad|ex x=>exact h.elim
 |ok o =>
  cases o with
  |next ρ|ret d=>exact⟨_,rfl,h⟩
  |Bm c=>exact h
  |C7 c ρ|brk ρ|cont ρ=>exact h.elim
theorem ER {t:OT}(h:WP m (λ _=>OT.sh .Ax=t) (XU (·=t)) (λ _=>False)):Pm m=.ok t:=by
 obtain⟨u,h1,h2⟩:=MU (Q:=(·=t)) h;rw[h1,h2]
def XW (Q:D->Prop)(o:Out):Prop:=match o with
 | .ret d=>Q d
 | .Bm c=>∃t,Xm c=.ok t/\Q t
 |_=>False
theorem Wc {Q:D->Prop}(h:WP m (λ _=>Q .Ax) (XW Q) (λ _=>False)):∃t,fin m=.ok t/\Q t:=by
 cases m with
 |bad|ex x=>exact h.elim
 |ok o =>
  cases o with
  |next ρ|ret d=>exact⟨_,rfl,h⟩
  |Bm c=>exact h
  |C7 c ρ|brk ρ|cont ρ=>exact h.elim
theorem Wd {d:D}(h:WP m (λ _=>D.Ax=d) (XW (·=d)) (λ _=>False)):fin m=.ok d:=by
 obtain⟨u,h1,h2⟩:=Wc (Q:=(·=d)) h;rw[h1,h2]
end
section
variable {d:D}{ds es:List D}{ρ ρ':A8}{o:Option Cl}{i n:Nat}{p:Option Nat}{t u:OT}{π:List Nat}{b:Bool}{ks vs:List D}{ts:List OT}{m:M D}
theorem WE:rv 0 (some (.val d)::ρ)=.ok d:=rfl
theorem WG:rv (i+1) (o::ρ)=rv i ρ:=rfl
noncomputable def L3 (f:A8->A8)(m:M Out):M Out:=match m with
 | .ok (.next ρ)=>.ok (.next (f ρ))
 |m=>m
theorem Hg {f:A8->A8}:L3 f (.ok (.next ρ))=.ok (.next (f ρ)):=rfl
theorem Hh:KY 0 (some (.own ds)::ρ)=.ok []:=rfl
theorem Hi:KY 0 (some (.ow (.G5 n ds))::ρ)=.ok []:=rfl
theorem Fj:KY 0 (some (.ow (.tree p t))::ρ)=.ok []:=by unfold KY Po;simp[treeOf]
theorem Pz:KY (i+1) (o::ρ)=KY i ρ:=rfl
theorem MV:Po 0 (some (.own ds)::ρ) π=Fg (.lst (ds.map .sh)) π:=rfl
theorem MW:Po 0 (some (.ow (.G5 n ds))::ρ) π=Fg (.lst (ds.map .sh)) π:=rfl
theorem Hj:Po 0 (some (.ow (.tree p t))::ρ) π=Fg t π:=rfl
theorem JL:Sq 0 (some (.own ds)::ρ) []=.ok ds:=by unfold Sq;simp[MV,Bq]
theorem JM:Sq 0 (some (.ow (.G5 n ds))::ρ) []=.ok ds:=by unfold Sq;simp[MW,Bq]
theorem Hk:Sq 0 (some (.ow (.tree p (.lst (ds.map .sh))))::ρ) []=.ok ds:=by unfold Sq;simp[Hj,Bq]
theorem U0:Sq (i+1) (o::ρ) π=Sq i ρ π:=rfl
theorem Fl:FR 0 (some (.own ds)::ρ) []=.ok (ds.map .sh):=by unfold FR;simp[MV]
theorem Fm:FR 0 (some (.ow (.G5 n ds))::ρ) []=.ok (ds.map .sh):=by unfold FR;simp[MW]
theorem El:FR 0 (some (.ow (.tree p (.lst ts)))::ρ) []=.ok ts:=by unfold FR;simp[Hj]
theorem LZ:FR (i+1) (o::ρ) π=FR i ρ π:=rfl
theorem BD:Cu 0 (some (.ow (.tree p (.B0 b ks (vs.map .sh))))::ρ) []=.ok (b,ks,vs):=by unfold Cu;simp[Hj,Bq]
theorem M0:Cu (i+1) (o::ρ) π=Cu i ρ π:=rfl
theorem Hl:G1 0 (some (.own ds)::ρ) [] u=.ok (.next (some (toCl none u)::ρ)):=by unfold G1;simp[treeOf]
theorem Hm:G1 0 (some (.ow (.G5 n ds))::ρ) [] u=.ok (.next (some (toCl (some n) u)::ρ)):=by unfold G1;simp[treeOf]
theorem Fn:G1 0 (some (.ow (.tree p t))::ρ) π u=.ok (.next (some (toCl p (CK t π u))::ρ)):=by unfold G1;simp[treeOf]
theorem PB:G1 (i+1) (o::ρ) π u=L3 (o::·) (G1 i ρ π u):=by
 unfold G1 L3;simp only[zK,zy];split
 ·rename_i c e;split<;>simp_all
 ·simp_all
theorem Hn:Rr 0 (some (.own ds)::ρ) (.ok d)=if ds.length<1000 then .ok (.next (some (.own (ds++[d]))::ρ)) else .bad:=rfl
theorem PD:Rr (i+1) (o::ρ) m=L3 (o::·) (Rr i ρ m):=by
 unfold Rr;rw[zK];cases q:ρ[i]? with
 |none=>rfl
 |some oo =>
  cases oo with
  |none=>rfl
  |some c =>
   cases c with
   |own ds =>
    cases m with
    |ok d =>
     simp only[M.Aa,zy];by_cases h:ds.length<1000
     ·rw[if_pos h,if_pos h];rfl
     ·rw[if_neg h,if_neg h];rfl
    |ex x|bad=>rfl
   |val d|ow w=>rfl
theorem Ho {j:Int}:NC 0 (some (.own ds)::ρ) (.ok (.int j)) (.ok d)=if 0<=j/\j.toNat<=ds.length/\ds.length<1000 then .ok (.next (some (.own (ds.take j.toNat++d::ds.drop j.toNat))::ρ)) else .bad:=rfl
theorem PF {m2:M D}:NC (i+1) (o::ρ) m m2=L3 (o::·) (NC i ρ m m2):=by
 unfold NC;rw[zK];cases q:ρ[i]? with
 |none=>rfl
 |some oo =>
  cases oo with
  |none=>rfl
  |some c =>
   cases c with
   |own ds =>
    cases m with
    |ok d =>
     cases m2 with
     |ok d2 =>
      simp only[M.Aa,zy];cases d with
      |int j =>
       dsimp only;by_cases h:0<=j/\j.toNat<=ds.length/\ds.length<1000
       ·rw[if_pos h,if_pos h];rfl
       ·rw[if_neg h,if_neg h];rfl
      |_=>rfl
     |ex x|bad=>rfl
    |ex x|bad=>rfl
   |val d|ow w=>rfl
theorem Hq:LW 0 (some (.val d)::ρ)=.ok (.ret d):=rfl
theorem Hr:LW 0 (some (.own ds)::ρ)=.ok (.Bm (.own ds)):=rfl
theorem JN {w:Ow}:LW 0 (some (.ow w)::ρ)=.ok (.Bm (.ow w)):=rfl
theorem PH:LW (i+1) (o::ρ)=LW i ρ:=rfl
theorem U1:Pn (i+1) (o::ρ)=o::Pn i ρ:=by
 unfold Pn;simp only[zK,zy];split<;>simp_all
theorem U2 {c:Cl}:Pn 0 (some c::ρ)=some (FY c)::ρ:=rfl
theorem Hs:FY (.val d)=.val d:=rfl
theorem Ht:FY (.own ds)=.val (.lst ds):=rfl
theorem Hu:FY (.ow (.G5 n ds))=.val (.lst ds):=rfl
theorem JO:FY (.ow (.tree p t))=.val (er t):=rfl
theorem Em:er (.B0 b ks (vs.map .sh))=.B0 b ks vs:=by rw[er,LX]
theorem M1:er (.lst (ds.map .sh))=.lst ds:=by rw[er,LX]
theorem PJ:er (.sh d)=d:=rfl
theorem Xw {l:List (Option Nat)}:AU (none::l) ρ=none::AU l ρ:=rfl
theorem Xx:AU [] ρ=[]:=rfl
theorem U3 {l:List (Option Nat)}:AU (some i::l) ρ=(match ρ[i]? with | some (some (.val d))=>some (.val d) | _=>none)::AU l ρ:=rfl
theorem U4 {α:Type}{x y:α}:(if ([]:List D).length<=1000 then x else y)=x:=if_pos (by show 0<=1000;decide)
theorem U5 {α:Type}{x y:α}{a:D}:(if [a].length<=1000 then x else y)=x:=if_pos (by show 1<=1000;decide)
theorem U6 {α:Type}{x y:α}{a b:D}:(if [a,b].length<=1000 then x else y)=x:=if_pos (by show 2<=1000;decide)
theorem U7 {α:Type}{x y:α}{a b c:D}:(if [a,b,c].length<=1000 then x else y)=x:=if_pos (by show 3<=1000;decide)
theorem U8 {α:Type}{x y:α}{a b c d:D}:(if [a,b,c,d].length<=1000 then x else y)=x:=if_pos (by show 4<=1000;decide)
theorem toCl_nil:toCl none (.lst [])=.own []:=rfl
theorem Hv {α:Type}{gt:D->A8->M A8}{ft:A8->M Bool}{fe:A8->M D}{g:α->D}(p:α->Bool)(f:α->D):∀ {l:List α},(∀x∈l,∃ρ1,gt (g x) ρ=.ok ρ1/\ft ρ1=.ok (p x)/\(p x=true->fe ρ1=.ok (f x)))->Bb gt ft fe (l.map g) ρ=.ok ((l.filter p).map f)
 |[],_=>rfl
 |x::r,h=>by
  obtain⟨ρ1,h1,h2,h3⟩:=h x zb;have ih:=Hv (gt:=gt) (ft:=ft) (fe:=fe) (g:=g) p f (l:=r) λ y hy=>h y (zd _ hy);rw[zh,Bb,h1];dsimp only;rw[h2];dsimp only;rw[List.filter_cons];cases hp:p x with
  |true =>
   rw[if_pos rfl,h3 hp];dsimp only;rw[ih];simp
  |false=>simp[ih]
theorem En {α:Type}{gt:D->A8->M A8}{ft:A8->M Bool}{fe:A8->M D}{g:α->D}(f:α->D){l:List α}(h:∀x∈l,∃ρ1,gt (g x) ρ=.ok ρ1/\ft ρ1=.ok true/\fe ρ1=.ok (f x)):Bb gt ft fe (l.map g) ρ=.ok (l.map f):=by
 have:=Hv (gt:=gt) (ft:=ft) (fe:=fe) (ρ:=ρ) (g:=g) (λ _=>true) f (l:=l) λ x hx=>by
  obtain⟨ρ1,h1,h2,h3⟩:=h x hx;exact⟨ρ1,h1,h2,λ _=>h3⟩
 rw[this,List.filter_eq_self.mpr (λ _ _=>rfl)]
theorem Bh {α:Type}{g:α->D}{l:List α}{i:Nat}{d:D}(h:(l.map g)[i]?=some d):∃x,l[i]?=some x/\d=g x:=by
 rw[zF] at h;cases q:l[i]? with
 |none=>rw[q] at h;cases h
 |some x=>rw[q] at h;cases h;exact⟨x,rfl,rfl⟩
theorem M2:W9 (.lst (ds.map .sh))=.ok ds:=by unfold W9;simp[Bq,TY]
theorem Fo {α:Type}{x:α}:TY (some x)=.ok x:=rfl
theorem JP:KW i ρ (.sh d)=.ok (.next (ρ.set i (some (.val d)))):=rfl
theorem Hw:KW i ρ (.lst ts)=.ok (.next (ρ.set i (some (toCl none (.lst ts))))):=rfl
theorem Hx:KW i ρ (.tup ts)=.ok (.next (ρ.set i (some (.ow (.tree none (.tup ts)))))):=rfl
theorem Hy:KW i ρ (.B0 b ks ts)=.ok (.next (ρ.set i (some (.ow (.tree none (.B0 b ks ts)))))):=rfl
theorem Hz {x:Str}{ns:List Str}:KW i ρ (.ins x ns ts)=.ok (.next (ρ.set i (some (.ow (.tree none (.ins x ns ts)))))):=rfl
theorem JQ:NG (.sh d)=.ok (.ret d):=rfl
theorem HA:NG (.lst ts)=.ok (.Bm (.ow (.tree none (.lst ts)))):=rfl
theorem HB:NG (.tup ts)=.ok (.Bm (.ow (.tree none (.tup ts)))):=rfl
theorem HC:NG (.B0 b ks ts)=.ok (.Bm (.ow (.tree none (.B0 b ks ts)))):=rfl
theorem U9 {a s m:Int}(h0:0<=a)(h1:a<m)(s0:1<=s)(s1:s<m):(a+s)%m≠a:=by
 by_cases h:a+s<m
 ·rw[Int.emod_eq_of_lt (by omega) h];omega
 ·have e:(a+s)%m=(a+s-m)%m:=by rw[Int.sub_emod_right]
  rw[e,Int.emod_eq_of_lt (by omega) (by omega)];omega
theorem JR {k:Nat}(i j:Int):Si k (.int i) (.int j)=.ok (.bl (decide (i=j))):=by
 rw[LS (Bn _) (Bn _)];simp only[Al,Bool.beq_eq_decide_eq]
theorem JS {k:Nat}(i j:Int):Sj k (.int i) (.int j)=.ok (.bl (!decide (i=j))):=by
 rw[Pc (Bn _) (Bn _)];simp only[Al,Bool.beq_eq_decide_eq]
theorem HD {i j:Int}:OR (.int i) (.int j)=.ok (.int (i+j)):=rfl
theorem HE {i j:Int}:Tn (.int i) (.int j)=.ok (.int (i-j)):=rfl
theorem JT {i j:Int}:Y8 (.int i) (.int j)=.ok (.bl (decide (i<j))):=rfl
theorem JU {i j:Int}:Y9 (.int i) (.int j)=.ok (.bl (decide (i<=j))):=rfl
theorem JV {i j:Int}:XN (.int i) (.int j)=.ok (.bl (decide (j<i))):=rfl
theorem JW {i j:Int}:Yb (.int i) (.int j)=.ok (.bl (decide (j<=i))):=rfl
theorem JX {i:Int}:XQ (.int i)=.ok (some i):=rfl
theorem HF:VS [.lst ds]=.ok (.int ds.length):=rfl
theorem HG:VS [.tup ds]=.ok (.int ds.length):=rfl
theorem ite_tt {α:Type}{x y:α}:(if true=true then x else y)=x:=rfl
theorem ite_ff {α:Type}{x y:α}:(if false=true then x else y)=y:=rfl
theorem M3 {lo hi:Option Int}{x:D}(h:Sk lo hi x=.ok (.lst ds)):NJ lo hi x=.ok (.lst (ds.map .sh)):=by
 unfold Sk at h;unfold NJ;cases x with
 |lst xs=>dsimp only at h ⊢;injection h with h;injection h with h;rw[h]
 |_=>cases h
theorem ES (xs:List D)(k:Nat):NJ none (some (k:Int)) (.lst xs)=.ok (.lst ((xs.take k).map .sh)):=M3 (P5 xs k)
theorem PK (xs:List D)(k:Nat):NJ (some (k:Int)) none (.lst xs)=.ok (.lst ((xs.drop k).map .sh)):=M3 (P9 xs k)
theorem RO (xs:List D)(a b:Nat):NJ (some (a:Int)) (some (b:Int)) (.lst xs)=.ok (.lst (((xs.drop a).take (b-a)).map .sh)):=M3 (Rz xs a b)
theorem HH:Iv (.lst ds)=.ok (.lst (ds.map .sh)):=rfl
theorem HI:Iv (.tup ds)=.ok (.lst (ds.map .sh)):=rfl
theorem Fp {ns:List Int}:Pw [.lst (ns.map D.int)]=.ok (.int ns.sum):=by unfold Pw;dsimp only;rw[Ff]
theorem Fq {T:String}:Dg T (.lst ds)=.ok (.bl (Cs T (.lst ds))):=rfl
theorem Fs {T:String}:Dg T (.tup ds)=.ok (.bl (Cs T (.tup ds))):=rfl
theorem Ft {T:String}{k:Int}:Dg T (.int k)=.ok (.bl (Cs T (.int k))):=rfl
theorem Fu {T:String}:Dg T .Ax=.ok (.bl (Cs T .Ax)):=rfl
theorem HJ {T:String}{k:Bool}:Dg T (.bl k)=.ok (.bl (Cs T (.bl k))):=rfl
theorem Fv {T:String}{k:Str}:Dg T (.str k)=.ok (.bl (Cs T (.str k))):=rfl
theorem Fw {T:String}:Dg T (.B0 b ks vs)=.ok (.bl (Cs T (.B0 b ks vs))):=rfl
theorem PL:Cs "list" (.lst ds)=true:=rfl
theorem PM:Cs "tuple" (.tup ds)=true:=rfl
theorem PN {k:Int}:Cs "int" (.int k)=true:=rfl
theorem PP {k:Int}:Cs "bool" (.int k)=false:=rfl
theorem PQ:Cs "dict" (.B0 b ks vs)=true:=rfl
theorem Fx {neg:Bool}{k:Int}{ns:List Int}:EO neg (.int k) (.lst (ns.map D.int))=.ok (.bl (if neg then !ns.contains k else ns.contains k)):=by
 unfold EO WB;dsimp only;rw[Ff]
noncomputable def vO (s:Option D):Option Cl:=s.map .val
theorem JY {s:Option D}:D5 (vO s::ρ)=vO s::D5 ρ:=by cases s<;>rfl
end
section
variable {X:Cx}{E:XK}{WX:Str->Hp->Prop}{c:Bool}{P0:C6}{P:Addr->Prop}{H:Hp}{σ:St}{ρ:A8}{a b e:Expr}{es:List Expr}{f g:A8->M D}{fs:A8->M (List D)}{fn:A8->M OT}{pos:Pos}{te:TE}
structure We (K:za)(x m qual:Str)(st:Stmt)(ps:List Str):Prop where
 ex:∃C f fd,zg K mainGlobals x=some (some (.ref C))/\XE K C/\Meth K C m f/\O6 K m qual st f fd/\Binds K fd ps []
end
end L2
set_option maxRecDepth 1000000
set_option maxHeartbeats 0
namespace L2
open PySem
theorem Ja:entryFor table "dict.update.loop" = some Builtin.«dict.update.loop»:=by unfold entryFor;rfl
open PySem PySem.Spec PySem.Calls PyProof.Rows PySem.W PySem.Builtin PySem.Builtin.ObjectAttr
section
variable {prog:Program}{w:World}{A:Around}{E:Value->Shared->Prop}{s:Shared}
theorem call_meets {T id:String}{nm:Str}{B:Builtin}{self:Value}{rest:List Value}{Sp:PySem.Spec}{Q:Value->Shared->Prop}(SL:Slot T nm id)(hB:entryFor table id=some B)(ht:s.TypeIs self T)(ha:argsOk id ⟨self::rest,[]⟩)(m:Meets (B ⟨self::rest,[]⟩) Sp)
 (h:Sp A (λ r s'=>match r with | .ok (.ret v)=>Q v s' | .ok _=>False | .error e=>E e s') s):wpAny (model prog w) A (call (.builtin id) (self::rest)) Q E s:=
 wpAny_call (codeAny_call_builtin SL.plain hB (SL.check _ _ _ _ _ _ _ _ ht ha (m prog w A _ s h)))
theorem L4 {l:Addr}{xs:Array Value}{k:Nat}{sl:Array (Option Value)}{Q:Option Value->Shared->Prop}(hh:A.handled=none)(hl:s.heap.get? l=some {cls:=.type "list",data:=.seq xs k,slots:=sl})
 (h:∀h' tk,(∀b o,s.heap.get? b=some o->h'.get? b=some o)->Q none {s with heap:=h',toks:=tk}):wpAny (model prog w) A (getAttr? (.ref l) "keys") Q E s:=by
 have miss:typeLookup (.type "list") "keys" = pure none:=am_miss_of_fast (by decide +kernel);have T0:∀hp:Heap,hp.get? l=some {cls:=.type "list",data:=.seq xs k,slots:=sl}->Looks (model prog w) hp (typeOf (.ref l)) (.type "list"):=λ hp e=>(Looks.ld e).andThen .now;have SL:=PySem.F.slot_list_getattribute;have aj:(onTheHeap (Value.type "list")&&Value.builtin "list.__getattribute__" == Value.builtin "object.__getattribute__")=false:=rfl;have i8:(false&&onTheHeap (Value.builtin "list.__getattribute__"))=false:=rfl;unfold getAttr? getAttrBy?;refine wpAny_bind (wpAny_mkText (wpAny_bind (wpAny_attempt ?_)));unfold getAttrBy;refine wpAny_holding (wpAny_bind ((T0 _ hl).at (wpAny_bind ?_)));rw[SL.lookup];refine wpAny_pure ?_;dsimp only;rw[aj,if_neg zA];unfold getAttrByItsOwn hookBefore;rw[if_neg (show ¬ onTheHeap (Value.type "list")=true from zA)];refine wpAny_bind (wpAny_pure (wpAny_bind (wpAny_attempt (wpAny_holding ?_))));unfold callGetattribute;rw[i8,if_neg zA];unfold boundAndCalled;rw[SL.bind];refine wpAny_bind (wpAny_pure ?_);dsimp only;refine call_meets SL am_entry_list_getattribute ⟨_,hl,rfl⟩ (PySem.F.args_list_getattribute_2 _ _) (meets_getattribute_miss_list l xs k sl "keys" s.toks miss rfl (by decide)) ⟨hl,hh,λ h' tk e ne=>?_⟩;dsimp only;obtain⟨kp,nw,t,u,he⟩:=ne;have T1:Looks (model prog w) h' (typeOf (.ref e)) (.type "AttributeError"):=(Looks.ld he).andThen .now;unfold getattributeRaised isInstance;refine wpAny_bind (wpAny_bind (T1.at ?_));rw[sub_AttributeError];refine wpAny_pure ?_;rw[if_pos rfl];unfold hookBehind;rw[if_neg (show ¬ onTheHeap (Value.type "list")=true from zA),am_list_getattr_none];refine wpAny_bind (wpAny_pure ?_);unfold hookOrError attributeErrorLeaves;dsimp only;rw[if_pos (show (!false)=true from rfl)];refine wpAny_bind (wpAny_throw ?_);refine wpAny_bind (wpAny_bind (T1.at ?_));rw[sub_AttributeError];refine wpAny_pure ?_;rw[if_pos rfl];exact wpAny_pure (h h' tk kp)
theorem NL {t:Addr}{aa:Array Value}{Q:List Value->Shared->Prop}(ht:IsTup s.heap t aa)(h:Q aa.toList s):wpAny (model prog w) A (Dict.pairItems (.ref t)) Q E s:=by
 obtain⟨o,h1,h2,n,h3⟩:=ht;have T0:Looks (model prog w) s.heap (typeOf (.ref t)) (.type "tuple"):=h2▸(Looks.ld h1).andThen .now;unfold Dict.pairItems;refine wpAny_bind (T0.at ?_);have hx:(Value.type "tuple" == Value.type "list" || Value.type "tuple" == Value.type "tuple")=true:=by decide
 rw[if_pos hx];exact wpAny_bind (wpAny_seqItems h1 h3 (wpAny_pure h))
theorem DV:plainId "dict.update.loop" = true:=by decide +kernel
theorem HK {K:Type}[DecidableEq K]{knd:KeyKind prog w K}{h h':Heap}{d I l:Addr}{i:Nat}{xs:List (List K×Addr×Value)}(hd:h.DictOfH (tupleKind knd) d xs)(hit:h.IsListIter I l i)(sb:∀b o,b≠I->h.get? b=some o->h'.get? b=some o):
 h'.DictOfH (tupleKind knd) d xs:=by
 obtain⟨o,es,ep,h1,h2,h3,h4,h5,h6⟩:=hd;obtain⟨oi,i1,i2,i3⟩:=hit;refine⟨o,es,ep,sb d o (λ z=>?_) h1,h2,h3,h4,λ x hx=>?_,h6⟩
 ·subst z;rw[i1] at h1;cases h1;rw[i3] at h3;cases h3
 ·obtain⟨ok,aa,n,k1,k2,k3,k4⟩:=h5 x hx;refine⟨ok,aa,n,sb _ _ (λ z=>?_) k1,k2,k3,k4⟩;rw[z,i1] at k1;cases k1;rw[i3] at k3;cases k3
theorem M4 {K:Type}[DecidableEq K]{knd:KeyKind prog w K}{R:Result->Shared->Prop}{d I l:Addr}{items:Array Value}{h0:Heap}(ps:List (List K×Addr×Value))(hh:A.handled=none)(eG:A.in1.units<cLine)(gi:l≠I)(i9:d≠I)(gj:l≠d)
 (gl:ps.length=items.size) (hsz:items.size+1<=sizeLine) (hl:h0.IsList l items)
 (hp:∀(j:Nat) p,ps[j]?=some p->(p.2.1≠d/\p.2.1≠I/\(tupleKind knd).is h0 p.1 p.2.1)/\∃t,items[j]?=some (.ref t)/\t≠d/\t≠I/\IsTup h0 t #[.ref p.2.1,p.2.2]):
 ∀(m i:Nat) (xs:List (List K×Addr×Value)) (s:Shared),items.size-i=m->i<=items.size->xs.length<=i->s.heap.IsListIter I l i->s.heap.DictOfH (tupleKind knd) d xs->(∀b o,b≠d->b≠I->h0.get? b=some o->s.heap.get? b=some o)->
  (∀h' tk,h'.DictOfH (tupleKind knd) d ((ps.drop i).foldl (λ acc p=>storedH acc p.1 p.2.1 p.2.2) xs)->(∀b o,b≠d->b≠I->h0.get? b=some o->h'.get? b=some o)->R (.ok (.ret .none)) {s with heap:=h',toks:=tk})->
  codeAny (model prog w) A (.builtin "dict.update.loop" ⟨[.ref d,.ref I,rawInt i,.none],[]⟩) R s:=by
 intro m;induction m with
 |zero =>
  intro i xs s hm hi iA hit hd hf h;have bW:i=items.size:=by omega
  refine codeAny_builtin Ja ?_;rw[Around.under_plainId DV _];show wpAny _ A.in1 (pyNext (.ref I) >>= _) _ _ s;refine wpAny_bind (wpAny_pyNext_list_end (A:=A.in1) hh hit (hl.at λ o e=>hf l o gj gi e) (by simp[bW]) λ h' eb=>?_);have hd2:=HK hd hit λ b o hb e=>eb b o hb e;show wpAny _ A.in1 (Dict.addKeywords d [] >>= _) _ _ _;unfold Dict.addKeywords;refine wpAny_bind (wpAny_bind ?_);refine wpAny_pure (wpAny_pure (wpAny_pure ?_));have ed:ps.drop i=[]:=by rw[List.drop_eq_nil_iff];omega
  rw[ed] at h;exact h h' s.toks hd2 λ b o h1 h2 e=>eb b o h2 (hf b o h1 h2 e)
 |succ m ih =>
  intro i xs s hm hi iA hit hd hf h;have ag:i<items.size:=by omega
  obtain⟨p,eI⟩:∃p,ps[i]?=some p:=⟨ps[i]'(by omega),zr _⟩;obtain⟨⟨p1,p2,p3⟩,t,ht,t1,t2,t3⟩:=hp i p eI;refine codeAny_builtin Ja ?_;rw[Around.under_plainId DV _];show wpAny _ A.in1 (pyNext (.ref I) >>= _) _ _ s;refine wpAny_bind (wpAny_pyNext_list_item (A:=A.in1) hit (hl.at λ o e=>hf l o gj gi e) ht λ h' bq sb=>?_);have hd2:h'.DictOfH (tupleKind knd) d xs:=HK hd hit λ b o hb e=>(sb.2 b hb).trans e;have eJ:∀b o,b≠d->b≠I->h0.get? b=some o->h'.get? b=some o:=λ b o h1 h2 e=>(sb.2 b h2).trans (hf b o h1 h2 e);have t4:IsTup h' t #[.ref p.2.1,p.2.2]:=by
   obtain⟨o,e1,e2⟩:=t3;exact⟨o,eJ t o t1 t2 e1,e2⟩
  have p4:(tupleKind knd).is h' p.1 p.2.1:=by
   obtain⟨o,aa,n,e1,e2⟩:=p3;exact⟨o,aa,n,eJ _ o p1 p2 e1,e2⟩
  dsimp only;refine wpAny_bind (wpAny_holding (wpAny_bind (wpAny_tryCatch (NL t4 ?_))));show wpAny _ A.in1 (holding [.ref p.2.1,p.2.2] (dictSet d (.ref p.2.1) p.2.2)) _ _ _;refine wpAny_holding (wpAny_dictSet_heap (knd:=tupleKind knd) (hsz:=by omega) eG p4 hd2 λ h3 eK gm=>?_);refine wpAny_pure ⟨plainId_quiet DV _,?_⟩;have eL:h3.IsListIter I l (i+1):=by
   obtain⟨o,e1,e2⟩:=bq;exact⟨o,(gm.2 I (zQ i9)).trans e1,e2⟩
  have ed:ps.drop i=p::ps.drop (i+1):=by
   rw[y2 (by omega:i<ps.length)];rw[zr (by omega:i<ps.length)] at eI;rw[zw eI]
  rw[ed,yt] at h;have iB:(storedH xs p.1 p.2.1 p.2.2).length<=i+1:=by
   unfold storedH;split
   ·rw[zf];omega
   ·rw[zV,yr];omega
  have q:=ih (i+1) (storedH xs p.1 p.2.1 p.2.2) {s with heap:=h3,toks:=s.toks+(tupleKind knd).draws p.1} (by omega) (by omega) iB eL eK (λ b o h1 h2 e=>(gm.2 b h1).trans (eJ b o h1 h2 e)) h;exact q
theorem G2 {K:Type}[DecidableEq K]{knd:KeyKind prog w K}{Q:Value->Shared->Prop}{l:Addr}{items:Array Value}{n:Nat}{sl:Array (Option Value)}(ps:List (List K×Addr×Value))(hh:A.handled=none)(eG:A.units+2<cLine)
 (gl:ps.length=items.size) (hsz:items.size+1<=sizeLine) (hl:s.heap.get? l=some {cls:=.type "list",data:=.seq items n,slots:=sl})
 (hp:∀(j:Nat) p,ps[j]?=some p->(tupleKind knd).is s.heap p.1 p.2.1/\∃t,items[j]?=some (.ref t)/\IsTup s.heap t #[.ref p.2.1,p.2.2])
 (h:∀h' tk,h'.DictOfH (tupleKind knd) s.heap.objs.size (ps.foldl (λ acc p=>storedH acc p.1 p.2.1 p.2.2) [])->(∀b o,s.heap.get? b=some o->h'.get? b=some o)->Q (.ref s.heap.objs.size) {s with heap:=h',toks:=tk}):
 wpAny (model prog w) A (call (.type "dict") [.ref l]) Q E s:=by
 refine callType_codes (Q₁:=λ obj s₁=>obj=.ref s.heap.objs.size/\s₁={s with heap:=s.heap.push {cls:=.type "dict",data:=.dict #[]} }) PySem.F.kt_called_dict (PySem.F.kt_typeCall_dict_1 _) PySem.F.entry_dict_init
  (kt_code_dict_new _ ⟨rfl,rfl⟩) λ obj s₁ h₁=>?_
 obtain⟨rfl,rfl⟩:=h₁;have hS:(s.heap.push {cls:=.type "dict",data:=.dict #[]}).get? s.heap.objs.size=some {cls:=.type "dict",data:=.dict #[]}:=zH _ rfl;have ll:l<s.heap.objs.size:=zl hl;have cM:(s.heap.push {cls:=.type "dict",data:=.dict #[]}).get? l=some {cls:=.type "list",data:=.seq items n,slots:=sl}:=zq _ hl;refine⟨⟨_,hS,rfl⟩,PySem.F.args_dict_init_2 _ _,?_⟩;have TD:Looks (model prog w) (s.heap.push {cls:=.type "dict",data:=.dict #[]}) (typeOf (.ref s.heap.objs.size)) (.type "dict"):=(Looks.ld hS).andThen .now;have TL:Looks (model prog w) (s.heap.push {cls:=.type "dict",data:=.dict #[]}) (typeOf (.ref l)) (.type "list"):=(Looks.ld cM).andThen .now;unfold Builtin.«dict.__init__» Dict.selfAndRest Dict.notOrdered;dsimp only;rw[if_pos (by decide)];refine wpAny_bind (wpAny_bind (wpAny_bind (TD.at ?_)));rw[if_neg (by decide)];refine wpAny_pure ?_;unfold Dict.addrOf;refine wpAny_bind (wpAny_pure (wpAny_pure ?_));unfold Dict.updateCommon Dict.updateFrom;dsimp only;refine wpAny_bind (TL.at ?_);rw[if_pos (by decide)];refine wpAny_bind (L4 (A:=A.in1.in1) hh cM λ h2 jt eM=>?_);rw[if_pos (show (none:Option Value).isNone=true from rfl)];refine wpAny_bind (wpAny_rule ?_);have bU:h2.IsList l items:=⟨_,eM _ _ cM,rfl,n,rfl⟩;have gn:=eM _ _ hS;refine wpAny_bind (wpAny_pyIter_list bU ?_);refine wpAny_pure ⟨plainId_quiet DV _,?_⟩;have lz:s.heap.objs.size<h2.objs.size:=zl gn;have iC:∀b o,s.heap.get? b=some o->(h2.push {cls:=.type "list_iterator",data:=.fields #[.ref l,.int 0 0]}).get? b=some o:=λ b o e=>zq _ (eM _ _ (zq _ e));have eK:(h2.push {cls:=.type "list_iterator",data:=.fields #[.ref l,.int 0 0]}).DictOfH (tupleKind knd) s.heap.objs.size []:=
  ⟨_,#[],0,zq _ gn,⟨rfl,rfl,rfl⟩,rfl,rfl,λ x hx=>absurd hx List.not_mem_nil,yk⟩
 have ag:∀b o,s.heap.get? b=some o->b≠s.heap.objs.size/\b≠h2.objs.size:=λ b o e=>by
  have:=zl e;exact⟨zB this,zB (Nat.lt_trans this lz)⟩
 refine M4 (A:=A.in1) (knd:=knd) (l:=l) (h0:=s.heap) ps hh eG (zB (Nat.lt_trans ll lz)) (zB lz) (zB ll) gl hsz ⟨_,hl,rfl,n,rfl⟩ (λ j p hj=>?_) items.size 0 [] _ (by omega) (by omega) (by simp) ⟨_,zH _ rfl,rfl,rfl⟩ eK (λ b o h1 dY e=>iC b o e) λ h' tk aB iD=>?_
 ·obtain⟨q1,t,q2,q3⟩:=hp j p hj;obtain⟨o1,_,_,e1,_⟩:=id q1;obtain⟨o2,e2,_⟩:=id q3;exact⟨⟨(ag _ _ e1).1,(ag _ _ e1).2,q1⟩,t,q2,(ag _ _ e2).1,(ag _ _ e2).2,q3⟩
 ·exact⟨rfl,h h' tk aB λ b o e=>iD b o (ag _ _ e).1 (ag _ _ e).2 e⟩
end
structure NM where
 (t:Addr) (κ:List Key) (b:Addr) (v:V)
def RP (H:Hp)(p:NM):Prop:=H p.t=some (.tup [.ref p.b,p.v])/\H p.b=some (.tup (p.κ.map kV))
noncomputable def WH (ps:List NM):List (List Key×V):=ps.foldl (λ acc p=>putK acc p.κ p.v) []
noncomputable def Yd (X:Cx)(te:TE):TE:=λ σ H Q=>te σ H λ x H1=>∃(l:Addr) (ps:List NM),x=.ref l/\CC X.K H1 l (ps.map λ p=>V.ref p.t)/\(∀p∈ps,RP H1 p)/\ps.length<=1000/\∀r,H1 r=none->Q (.ref r) (upd H1 r (.dT (WH ps)))
theorem L5:∀ {ps:List NM}{us:List Value},Vals (ps.map λ p=>V.ref p.t) us->us=ps.map λ p=>yp p.t
 |[],_,.nil=>rfl
 |p::ps,_,.cons h t=>by
  cases h;rw[zh,<-L5 t]
theorem Sr {H:Hp}:∀ {ps:List NM}{qs:List (List Key×Addr×Value)}{kvs:List (List Key×V)}{xs:List (List Key×Addr×Value)},(∀p∈ps,RP H p)->Paired (λ(p:NM) (q:List Key×Addr×Value)=>p.κ=q.1/\p.b=q.2.1/\RelV p.v q.2.2) ps qs->KT H kvs xs->KT H (ps.foldl (λ acc p=>putK acc p.κ p.v) kvs) (qs.foldl (λ acc p=>storedH acc p.1 p.2.1 p.2.2) xs)
 |[],_,_,_,_,.nil,h=>h
 |p::ps,_,_,_,ho,.cons (b:=q) hq t,h=>by
  obtain⟨q1,q2,q3⟩:=q;obtain⟨e1,e2,e3⟩:=hq;dsimp only at e1 e2 e3;subst e1 e2;have r:=Sr (ps:=ps) (λ p' hp=>ho p' (zd _ hp)) t (h.put p.κ (ho p zb).2 e3);exact r
theorem PR:∀(ps:List NM) (kvs:List (List Key×V)),(ps.foldl (λ acc p=>putK acc p.κ p.v) kvs).length<=kvs.length+ps.length
 |[],kvs=>zm _
 |p::ps,kvs=>by
  have h1:=PR ps (putK kvs p.κ p.v);have h2:=C8 kvs p.κ p.v;rw[yt,zp];omega
theorem MX {h:Heap}{H:Hp}{P:Program}{w:World}(ok:CD P w H h):∀ {ps:List NM},(∀p∈ps,RP H p)->∃qs:List (List Key×Addr×Value),Paired (λ(p:NM) (q:List Key×Addr×Value)=>p.κ=q.1/\p.b=q.2.1/\RelV p.v q.2.2) ps qs/\
 ∀(j:Nat) q,qs[j]?=some q->(tupleKind (AH P w)).is h q.1 q.2.1/\∃t,(ps.map λ p=>yp p.t)[j]?=some (.ref t)/\IsTup h t #[.ref q.2.1,q.2.2]
 |[],_=>⟨[],.nil,λ j q e=>by simp at e⟩
 |p::ps,ho=>by
  obtain⟨qs,h1,h2⟩:=MX ok λ p hp=>ho p (zd _ hp);obtain⟨o1,o2⟩:=ho p zb;obtain⟨_,aa,r,it⟩:=(show AF P w H h p.t (.tup [.ref p.b,p.v]) from ok p.t _ o1);obtain⟨u,v,rfl,ru,rv⟩:=r.two;cases ru;refine⟨(p.κ,p.b,v)::qs,.cons ⟨rfl,rfl,rv⟩ h1,λ j q e=>?_⟩;cases j with
  |zero =>
   rw[List.getElem?_cons_zero] at e;cases e;exact⟨F6 ok o2,p.t,by simp,it⟩
  |succ j =>
   rw[zK] at e;obtain⟨a1,t,a2,a3⟩:=h2 j q e;exact⟨a1,t,by simpa using a2,a3⟩
section
variable {X:Cx}{WX:Str->Hp->Prop}{c:Bool}{P0:C6}{P:Addr->Prop}{H:Hp}{σ:St}{ρ:A8}{a b e:Expr}{f g:A8->M D}{fn:A8->M OT}{pos:Pos}{te:TE}
theorem PV {p:Pos}{n:Nat}(hc:X.calm=true)(hu:X.A.units+n<cLine)(hg:Gl X "dict")(hm:X.mg "dict" = none)(he:PE X e te)
 (hv:bootBuiltins "dict" = some (.type "dict"):=by decide +kernel)
 (hs:starEach [e] X.env=[(false,eval e X.env)]:=by rfl) (hn:2<=n:=by decide):
 PE X (.Call (.Name "dict" p) [e] [] pos) (Yd X te):=by
 intro pins s σ H Q I h;refine wpAny_Call_Name_kw (F4 I hg hm hv ?_);refine yo ?_ hs;rw[hs];refine Calls.spliced_cons (B2 (he pins s σ H _ I h) λ u s1 ⟨x,H1,I1,r1,q1⟩=>?_);obtain⟨l,ps,rfl,hq,ho,hlen,q⟩:=q1;cases r1;refine Calls.spliced_nil ?_;obtain⟨aa,r',pl,hz⟩:=I1.list hq;have hits:=L5 r';subst hits;obtain⟨⟨eN,gp,gq,eO⟩,n0,o1,o2,o3,o4⟩:=pl;dsimp only at o2 o3 o4;subst o2 o3 o4;obtain⟨qs,h1,h2⟩:=MX I1.As ho;refine G2 (knd:=AH X.prog X.w) qs (I1.ok.hd hc) (by omega) (by rw[zo,zf,<-h1.length]) (AZ (by rw[zo,zf];omega)) o1 (λ j p hj=>?_) λ h' tk hd kp=>?_
 ·obtain⟨a1,t,a2,a3⟩:=h2 j p hj;exact⟨a1,t,by rw[List.getElem?_toArray];exact a2,a3⟩
 ·have iE:=Sr ho h1 (show KT H1 [] [] from .nil);have gr:s1.heap.objs.size<=s1.heap.objs.size:=zm _;have bB:=I1.As.fresh gr;have iF:=PR ps [];obtain⟨o,es,ep,g1,g2,g3,g4,g5,g6⟩:=hd;refine⟨.ref _,_,I1.laid (t':=tk) (o:=.dT (WH ps)) kp gr ⟨yw (AZ (by unfold WH;simp at iF;omega)),beq_eq_false_iff_ne.mpr (zQ (zB I1.big)),_,iE.keeps (λ b ys eb=>by rw[A5 (λ z=>by rw[z,bB] at eb;cases eb)];exact eb),o,es,ep,g1,g2,g3,g4,g6⟩,rfl,q _ bB⟩
noncomputable def NO:List D->Option (List (D×D))
 |[]=>some []
 | .tup [k,v]::r=>(NO r).map ((k,v)::·)
 |_=>none
noncomputable def WI (l:List (D×D)):List D×List D:=l.foldl (λ z kv=>putD z.1 z.2 kv.1 kv.2) ([],[])
noncomputable def RQ (d:D):M OT:=match d with
 | .lst xs=>(match NO xs with|some l=>if l.length<=1000/\(l.all λ kv=>keyOk true kv.1)=true then .ok (.B0 true (WI l).1 ((WI l).2.map .sh)) else .bad|none=>.bad)
 |_=>.bad
theorem MY {K:za}{H:Hp}{P:Addr->Prop}:∀ {xs:List V}{ds:List D}{l:List (D×D)},Ac K (del H P) xs ds->NO ds=some l->(l.all λ kv=>keyOk true kv.1)=true->
 ∃ps:List NM,xs=ps.map (λ p=>V.ref p.t)/\(∀p∈ps,RP H p)/\Paired (λ(p:NM) (kv:D×D)=>kv.1=.tup (p.κ.map BB)/\B4 K (del H P) p.v kv.2) ps l
 |_,[],l,.nil,e,_=>by cases e;exact⟨[],rfl,λ p hp=>(by cases hp),.nil⟩
 |_,d::ds,l,.cons hd ht,e,hk=>by
  unfold NO at e;split at e
  ·rename_i eP;cases eP
  ·rename_i k v r eP;cases eP;obtain⟨l',e1,e2⟩:=Option.map_eq_some_iff.mp e;subst e2;rw[List.all_cons,zJ] at hk;obtain⟨ps,q1,q2,q3⟩:=MY ht e1 hk.2;have hK:=Dk hk.1;cases hK with
   |t κ =>
    cases hd with
    |tup h1 h2 =>
     obtain⟨x,y,rfl,hx,hy⟩:=h2.two;cases hx with
     |tup g1 g2 =>
      rename_i tt bb b5;have ey:=Ac.keys κ g2;subst ey;refine⟨⟨tt,κ,bb,y⟩::ps,by rw[zh,q1],λ p hp=>?_,.cons ⟨rfl,hy⟩ q3⟩;rcases zk.mp hp with rfl|hp
      ·exact⟨(Ag h1).2,(Ag g1).2⟩
      ·exact q2 p hp
  ·cases e
theorem PX {K:za}{H:Hp}{P:Addr->Prop}:∀ {ps:List NM}{l:List (D×D)}{kvs:List (List Key×V)}{vs:List D},Paired (λ(p:NM) (kv:D×D)=>kv.1=.tup (p.κ.map BB)/\B4 K (del H P) p.v kv.2) ps l->Ac K (del H P) (kvs.map yj) vs->
 ∃ar,l.foldl (λ z kv=>putD z.1 z.2 kv.1 kv.2) (kvs.map (λ kv=>D.tup (kv.1.map BB)),vs)=((ps.foldl (λ acc p=>putK acc p.κ p.v) kvs).map (λ kv=>D.tup (kv.1.map BB)),ar)/\Ac K (del H P) ((ps.foldl (λ acc p=>putK acc p.κ p.v) kvs).map yj) ar
 |[],_,kvs,vs,.nil,h=>⟨vs,rfl,h⟩
 |p::ps,_,kvs,vs,.cons (b:=kv) hq t,h=>by
  obtain⟨k,d⟩:=kv;obtain⟨e1,e2⟩:=hq;dsimp only at e1 e2;subst e1;have hf:∀a b:List Key,Al (.tup (a.map BB)) (.tup (b.map BB))=decide (a=b):=λ a b=>by simp only[Al];exact Ge a b
  have ax:∃ar,(putD (kvs.map λ kv=>.tup (kv.1.map BB)) vs (.tup (p.κ.map BB)) d)=((putK kvs p.κ p.v).map (λ kv=>.tup (kv.1.map BB)),ar)/\Ac K (del H P) ((putK kvs p.κ p.v).map yj) ar:=by
   unfold putD putK;rw[Hc (fk:=λ κ:List Key=>D.tup (κ.map BB)) hf];by_cases hh:(kvs.any λ kv=>decide (kv.1=p.κ))=true
   ·rw[if_pos hh,if_pos hh];refine⟨_,by rw[EM (fk:=λ κ:List Key=>D.tup (κ.map BB)) hf],?_⟩;rw[<-EL (fk:=λ κ:List Key=>D.tup (κ.map BB)) hf];exact EN e2 h
   ·rw[if_neg hh,if_neg hh];refine⟨_,by rw[zS];rfl,?_⟩;rw[zS];exact h.snoc e2
  obtain⟨ju,g1,g2⟩:=ax;obtain⟨iG,g3,g4⟩:=PX t g2;refine⟨iG,?_,g4⟩;rw[yt];dsimp only;rw[g1];exact g3
theorem PY {p:Pos}{n:Nat}(hc:X.calm=true)(hu:X.A.units+n<cLine)(hg:Gl X "dict")(hm:X.mg "dict" = none)(he:DE X WX true e f)
 (hv:bootBuiltins "dict" = some (.type "dict"):=by decide +kernel)
 (hs:starEach [e] X.env=[(false,eval e X.env)]:=by rfl) (hn:2<=n:=by decide):
 DN X WX (.Call (.Name "dict" p) [e] [] pos) (λ ρ=>(f ρ).bind RQ):=by
 obtain⟨te,e1,e2⟩:=he;refine⟨_,PV hc hu hg hm e1 hv hs hn,λ P0 P σ H Q ρ E h=>?_⟩;refine e2 P0 P σ H _ ρ E ?_;dsimp only at h;cases q:f ρ with
 |bad|ex x=>rw[q] at h;exact h
 |ok d =>
  rw[q] at h;simp only[M.Aa] at h;intro v H1 s1 hv;unfold RQ at h;split at h
  ·rename_i xs;split at h
   ·rename_i l eb;split at h
    ·rename_i hl;cases hv with
     |lst hs hh =>
      obtain⟨ps,q1,q2,q3⟩:=MY hh eb hl.2;subst q1;obtain⟨ar,g1,g2⟩:=PX (kvs:=[]) q3 .nil;refine⟨_,ps,rfl,hs.B9,q2,by rw[q3.length];exact hl.1,λ r hr=>?_⟩;have e3:WI l=((WH ps).map (λ kv=>D.tup (kv.1.map BB)),ar):=g1;rw[e3] at h;have cV:∀a∈[r],H1 a=none:=λ a ha=>by rw[zj.mp ha];exact hr
      exact h _ [r] _ (s1.trans (Ay hr _)) (λ a ha=>DU s1 (cV a ha)) (by simp) (.dT Ad (g2.mono (CL (Ay hr _) cV)).ows)
    ·exact h.elim
   ·exact h.elim
  ·exact h.elim
end
open PySem PySem.Spec PyProof.Rows
section
variable {X:Cx}{WX:Str->Hp->Prop}{c:Bool}{P0:C6}{P:Addr->Prop}{H:Hp}{σ:St}{ρ:A8}{a b e:Expr}{f g:A8->M D}{fn:A8->M OT}{pos:Pos}{te:TE}
noncomputable def PZ (x y:D):M D:=match x,y with
 | .tup xs,.tup ys=>(match BQ xs,BQ ys with|some ns,some ms=>.ok (.bl (HT.lexLt ns ms))|_,_=>.bad)
 |_,_=>.bad
theorem MZ:MF X.K WX (VB X.K) PZ:=by
 intro P H x y v w Q ht hx hy h;unfold PZ at h;split at h
 ·rename_i xs ys;split at h
  ·rename_i ns ms e1 e2;have:=DR e1;subst this;have:=DR e2;subst this;cases hx with
   |tup h1 h2 =>
    cases hy with
    |tup h3 h4 =>
     have:=CJ h2;subst this;have:=CJ h4;subst this;exact⟨_,_,ns,ms,rfl,rfl,IH.of (Ag h1).2,IH.of (Ag h3).2,h _ H (Ab.refl H) (.bl _)⟩
  ·exact h.elim
 ·exact h.elim
theorem Xy {n:Nat}(hu:X.A.units+n<cLine)(ha:DE X WX c a f)(hb:DE X WX c b g):DE X WX c (.Compare a [.Lt] [b] pos) (λ ρ=>(f ρ).bind λ x=>(g ρ).bind λ y=>PZ x y):=Tj (OE (by omega)) MZ ha hb (Gq _)
theorem Q0 {n:Nat}(hu:X.A.units+n<cLine)(ha:DE X WX c a f)(hb:DE X WX c b g):DT X WX (.Compare a [.Lt] [b] pos) (λ ρ=>((f ρ).bind λ x=>(g ρ).bind λ y=>PZ x y).bind MG):=DM (OE (by omega)) MZ ha hb (Gq _)
theorem Q1 (hk:DE X WX true a f)(hv:DE X WX true b g):DN X WX (.Dict [some a] [b] pos) (λ ρ=>(f ρ).bind λ k=>(g ρ).bind λ v=>if keyOk false k=true then .ok (.B0 false [k] [.sh v]) else .bad):=by
 obtain⟨tk,k1,k2⟩:=hk;obtain⟨tv,v1,v2⟩:=hv;refine⟨_,Rg (OM k1 v1 Rf) rfl rfl (by simp) (by simp),λ P0 P σ H Q ρ E h p hp=>?_⟩;dsimp only at h;have hn:∀a∈[p],H a=none:=λ a ha=>by rw[zj.mp ha];exact hp
 have s0:Ab H (upd H p (.dK [])):=Ay hp _;have E1:Ae X.K P0 (PU P [p]) (upd H p (.dK [])) σ ρ:=E.more s0 JF (λ a ha=>ha.elim (λ z=>(E.BS a z).same s0) λ z=>by
  rw[zj.mp z];exact⟨_,Ad,λ _=>⟨λ z=>(by cases z),λ _ z=>by cases z⟩⟩) (CL s0 hn)
 refine k2 P0 (PU P [p]) σ _ _ ρ E1 ?_;cases q:f ρ with
 |bad=>rw[q] at h;exact h
 |ex x=>rw[q] at h;exact λ H' s=>h H' (s0.trans s)
 |ok k =>
  rw[q] at h;simp only[M.Aa] at h;intro y H2 s2 hy;have E2:=E1.same s2;refine v2 P0 (PU P [p]) σ H2 _ ρ E2 ?_;cases q2:g ρ with
  |bad=>rw[q2] at h;exact h
  |ex x=>rw[q2] at h;exact λ H' s=>h H' ((s0.trans s2).trans s)
  |ok d =>
   rw[q2] at h;simp only[M.Aa] at h;intro w H3 s3 hw;by_cases hc:keyOk false k=true
   ·rw[if_pos hc] at h;have hK:=Dk hc;cases hK with
    |k κ =>
     have ey:=hy.TU;subst ey;refine⟨s3 _ _ (s2 _ _ Ad),[(κ,w)],rfl,by simp,?_⟩;have s4:Ab H (upd H3 p (.dK (D9 [] [(κ,w)]))):=λ a o ha=>by
      rw[A5 (λ z=>by rw[z,hp] at ha;cases ha)];exact s3 _ _ (s2 _ _ (s0 _ _ ha))
     have s5:Ab (del H3 (PU P [p])) (del (upd H3 p (.dK (D9 [] [(κ,w)]))) (PU P [p])):=λ a o ha=>by
      obtain⟨n1,n2⟩:=Ag ha;rw[Aj n1,A5 (λ z=>n1 (.inr (by rw[z];exact zj.mpr rfl)))];exact n2
     refine h _ [p] _ s4 hn (by simp) ?_;have e1:D9 [] [(κ,w)]=[(κ,w)]:=rfl;rw[e1] at s5 ⊢;exact .dK (kvs:=[(κ,w)]) Ad (.cons (.sh (hw.mono s5)) .nil)
   ·rw[if_neg hc] at h;exact h.elim
end
theorem BL {K:za}{mg:Str->Option Value}{h:Heap}{x:Str}{st:Stmt}{ps:List Str}(X:K.In h)(G:h.Ns mainGlobals mg)(p:FP K x st)(hb:∀(kV dc pm:Value) (an:Option Addr) (cd ct:Value) (us:List Value),us.length=ps.length->bindArgs (zO x x (AV st) (AB st) (A4 st) .none kV dc pm an cd ct) ⟨us,[]⟩=pure (ps.zip us):=by first | exact (λ _ _ _ _ _ _ us hl=>match us,hl with | [_],_=>rfl) | exact (λ _ _ _ _ _ _ us hl=>match us,hl with | [_,_],_=>rfl) | exact (λ _ _ _ _ _ _ us hl=>match us,hl with | [_,_,_],_=>rfl) | exact (λ _ _ _ _ _ _ us hl=>match us,hl with | [_,_,_,_],_=>rfl)):Bc K mg x st ps:=by
 obtain⟨f,oc,od,an,sl,kV,dc,pm,cd,ct,a,l,c,k⟩:=p.ex;have F:=LK (st:=st) l c k;exact⟨⟨_,_,F,PySem.W.mg_of X G a,F.binds hb⟩⟩
theorem XX {K:za}{C:Addr}{x m qual:Str}{st:Stmt}{ps:List Str}(aC:zg K mainGlobals x=some (some (.ref C)))(cl:XE K C)(p:MP K C m qual st)(hb:∀(kV dc pm:Value) (an:Option Addr) (cd ct:Value) (us:List Value),us.length=ps.length->bindArgs (zO m qual (AV st) (AB st) (A4 st) .none kV dc pm an cd ct) ⟨us,[]⟩=pure (ps.zip us):=by first | exact (λ _ _ _ _ _ _ us hl=>match us,hl with | [_],_=>rfl) | exact (λ _ _ _ _ _ _ us hl=>match us,hl with | [_,_],_=>rfl) | exact (λ _ _ _ _ _ _ us hl=>match us,hl with | [_,_,_],_=>rfl) | exact (λ _ _ _ _ _ _ us hl=>match us,hl with | [_,_,_,_],_=>rfl)):We K x m qual st ps:=by
 obtain⟨f,oc,od,an,sl,kV,dc,pm,cd,ct,a,i,l,c,k⟩:=p.ex;have F:=LK (st:=st) l c k;exact⟨⟨_,_,_,aC,cl,⟨a,i,k⟩,F,F.binds hb⟩⟩
open PySem PySem.W PySem.Calls PyProof.Rows
noncomputable def R0:Rn:=⟨topRun,Heap.nsMap,importEnds,fenceModules?,PySem.start,treeTable⟩
theorem Ua:R0=R1:=by
 unfold R0 R1;rw[PySem.W.Fast.te14082659384304107361,PySem.W.Fast.te8920871248978507458,PySem.W.Fast.te10274390034422433532,PySem.W.Fast.te14289696077712309145,PySem.W.Fast.te1435165496053646825,PySem.W.Fast.te14364793385576792824]
theorem N0 (p:Program)(w:World)(N:Nat):openEnds treeTable p w N=Gk R0 p w N:=by
 unfold openEnds fencedOpening Gk;rfl
theorem HL {h:Heap}{a:Addr}{o:Obj}:∀ {as:List Addr},(Ws h as).lookup a=some o->h.get? a=some o
 |[],e=>by cases e
 |b::r,e=>by
  unfold Ws at e;rw[List.filterMap_cons] at e;cases q:h.get? b with
  |none=>rw[q] at e;exact HL (as:=r) e
  |some u =>
   rw[q] at e;dsimp only [zY] at e;rw[List.lookup_cons] at e;cases c:a==b with
   |true=>rw[c] at e;cases e;rw[eq_of_beq c];exact q
   |false=>rw[c] at e;exact HL (as:=r) e
def Wf (h h':Heap):Prop:=∀(b:Addr) (o:Obj),h.get? b=some o->h'.get? b=some o
theorem Ub {h h':Heap}{as:List Addr}(s:Wf h h'):(Ws h as).In h':=λ a o e=>s a o (HL e)
theorem RS {p q:Program}{Xt:Shared->Bool}{N:Nat}(h:∀w:World,(openEnds treeTable p w N).map (λ s=>openSeen q [] (importedModules p.main.body) Xt true s)=some (openGood q [])):LeftO p q [] Xt (λ s=>s.heap) (λ w=>Oa R0 p w N) N:=λ w=>by
 have e:=h w;unfold Oa;dsimp only;rw[<-N0];cases q':openEnds treeTable p w N with
 |none=>rw[q'] at e;cases e
 |some s =>
  rw[q'] at e;rw[zY] at e ⊢;dsimp only;rw[zw e]
theorem JZ {α β γ:Type}{o:Option γ}{f:γ->α×β}{a:α×β}(h:o.map (λ s=>(f s).1)=some a.1)(k:o.map (λ s=>(f s).2)=some a.2):o.map f=some a:=by
 cases o with
 |none=>cases h
 |some s =>
  rw[zY] at h k ⊢;exact congrArg some (Prod.ext (zw h) (zw k))
theorem Wg {l:PySem.W.OpenLaw}{n k:Nat}{q:Program}{loose:List Str}{XP:(Str->Option Value)->Heap->Prop}{YP:World->Heap->Prop}{d:DefRec}{K:World->za}{CX:World->O3}{sp:World->Sp}{x:Str}
 (hn:l.most=some n) (ao:n<=sizeLine) (bS:d.params.defaults=[]) (hr:BI k callerA) (hY:∀(w:World) (h:Heap),YP w h->(K w).In h)
 (F:∀(w:World) (mg:Str->Option Value) (fa:Addr) (h:Heap),(K w).In h->h.Ns mainGlobals mg->mg d.name=some (.ref fa)->∃fd:FuncData,(∀(s:Shared) (u:Value),BindsTo s fd ⟨[u],[]⟩ [(x,u)])/\
  ∀base:Heap,(K w).In base->base.Ns mainGlobals mg->E6 l.prog w (K w) mg base (CX w) k fa fd [x] (sp w))
 (bh:∀(w:World) (H:Hp) (a:Addr) (ns:List Int),(∀n∈ns,Sm n)->ns.length<=n->R9 H->CC (K w) H a (ns.map V.int)->sp w [.ref a] H (λ v _=>v=.bl true) λ _ _ _=>False)
 (c6:∀(w:World) (H:Hp) (s:Shared) (e:Value) (s':Shared),CX w [] H s (λ _ _ _=>False) e s'->False):PySem.W.WalkO q loose XP YP l.row.toRowW d [] (λ f vs=>PySem.call f vs):=by
 refine HT.J3 hn bS λ w s₀ s₁ mg mb fa o pm cd doc a vs ns bA G Y ho hd az bT bc ay hlen hg=>?_;have KX:=hY w _ Y;obtain⟨fd,hb,hF⟩:=F w mg fa _ KX G.T.g bT;exact Ky KX G.T.g G.T.b G.T.builtins G.T.nolimit hg bc ay (zW hlen ao) hr hF hb (λ H hO hS=>bh w H a ns bA hlen hO hS) λ H e s'=>c6 w H s₁ e s'
noncomputable def cst:Option (Int×Int)->D
 |none=>.Ax
 |some p=>.tup [.int p.1,.int p.2]
noncomputable def Bs:Option (Int×Int)->Option (Int×Int)->Option (Int×Int)
 |some p,some q=>some (p.1+q.1,p.2+q.2)
 |_,_=>none
noncomputable def Wh (p q:Int×Int):Int×Int:=if p.1<q.1\/(p.1=q.1/\p.2<=q.2) then p else q
noncomputable def QC:Option (Int×Int)->Option (Int×Int)->Option (Int×Int)
 |none,b=>b
 |some p,none=>some p
 |some p,some q=>some (Wh p q)
noncomputable abbrev Co:=Option (Int×Int)
def BR:Co->Co->Prop
 |_,none=>True
 |none,some _=>False
 |some p,some q=>p.1<q.1\/(p.1=q.1/\p.2<=q.2)
theorem BM:∀a:Co,BR a a
 |none=>trivial
 |some p=>.inr ⟨rfl,Int.le_refl _⟩
theorem AK:∀ {a b c:Co},BR a b->BR b c->BR a c
 |_,_,none,_,_=>trivial
 |none,none,some _,_,h|some _,none,some _,_,h|none,some _,some _,h,_=>h.elim
 |some p,some q,some r,h1,h2=>by simp only[BR] at *;omega
theorem HM:∀ {a b:Co},BR a b->BR b a->a=b
 |none,none,_,_=>rfl
 |none,some _,h,_|some _,none,_,h=>h.elim
 |some p,some q,h1,h2=>by
  obtain⟨p1,p2⟩:=p;obtain⟨q1,q2⟩:=q;simp only[BR] at h1 h2;have e1:p1=q1:=by omega
  have e2:p2=q2:=by omega
  rw[e1,e2]
theorem Fy:∀a b:Co,(QC a b=a/\BR a b)\/(QC a b=b/\BR b a/\a≠b)
 |none,none=>.inl ⟨rfl,trivial⟩
 |none,some q=>.inr ⟨rfl,trivial,λ h=>by cases h⟩
 |some p,none=>.inl ⟨rfl,trivial⟩
 |some p,some q=>by
  unfold QC Wh;by_cases h:p.1<q.1\/(p.1=q.1/\p.2<=q.2)
  ·dsimp only;rw[if_pos h];exact .inl ⟨rfl,h⟩
  ·dsimp only;rw[if_neg h];refine .inr ⟨rfl,?_,λ e=>?_⟩
   ·simp only[BR];omega
   ·cases e;exact h (.inr ⟨rfl,Int.le_refl _⟩)
theorem K0 (a b:Co):BR (QC a b) a:=by
 rcases Fy a b with ⟨e,h⟩|⟨e,h,_⟩
 ·rw[e];exact BM a
 ·rw[e];exact h
theorem K1 (a b:Co):BR (QC a b) b:=by
 rcases Fy a b with ⟨e,h⟩|⟨e,h,_⟩
 ·rw[e];exact h
 ·rw[e];exact BM b
def NN:Co->Prop
 |none=>True
 |some p=>0<=p.1/\0<=p.2
def ltN (a b:Co):Prop:=NN a/\BR a b/\a≠b
theorem Jb (a b c:Co)(h1:ltN a b)(h2:ltN b c):ltN a c:=
 ⟨h1.1,AK h1.2.1 h2.2.1,λ e=>by subst e;exact h1.2.2 (HM h1.2.1 h2.2.1)⟩
noncomputable def rank:Co->Nat×Nat×Nat
 |none=>(1,0,0)
 |some p=>(0,p.1.toNat,p.2.toNat)
theorem Uc:∀a:Co,NN a->Acc ltN a:=by
 have wf:WellFounded (InvImage (Prod.Lex (· < ·) (Prod.Lex (· < ·) (· < ·))) rank):=InvImage.wf rank (Prod.lex Nat.lt_wfRel (Prod.lex Nat.lt_wfRel Nat.lt_wfRel)).wf;intro a;induction a using wf.induction with
 |h a ih =>
  intro ha;refine .intro _ λ b ⟨hb,hl,ab⟩=>ih b ?_ hb;cases b with
  |none=>cases a with
   |none=>exact (ab rfl).elim
   |some p=>exact hl.elim
  |some q=>cases a with
   |none=>exact Prod.Lex.left _ _ (by decide)
   |some p =>
    obtain⟨p1,p2⟩:=p;obtain⟨q1,q2⟩:=q;simp only[BR,NN] at hl ha hb;show Prod.Lex _ _ (0,q1.toNat,q2.toNat) (0,p1.toNat,p2.toNat);refine Prod.Lex.right _ ?_;by_cases h:q1<p1
    ·exact Prod.Lex.left _ _ (by omega)
    ·have e:q1=p1:=by omega
     subst e;have h2:q2≠p2:=λ e=>ab (by rw[e]);exact Prod.Lex.right _ (by omega)
theorem RT (a:Co):Acc ltN a:=.intro _ λ b h=>Uc b h.1
theorem NP (cs:List Co):Acc (GV ltN) cs:=GW ltN RT cs.length cs rfl
structure Road where
 a:Int
 b:Int
 l:Option Int
 w:Int
noncomputable def AX:Option Int->D
 |none=>.Ax
 |some i=>.int i
noncomputable def Jc (r:Road):D:=.tup [.int r.a,.int r.b,AX r.l,.int r.w]
noncomputable def An (m:Int)(rs:List Road):D:=.tup [.int m,.lst (rs.map Jc)]
noncomputable def Ex (r:Road):Co:=match r.l with | none=>none | some l=>some (l,1)
structure Fz (m:Nat)(r:Road):Prop where
 a0:0<=r.a
 a1:r.a<m
 b0:0<=r.b
 b1:r.b<m
 l0:∀l,r.l=some l->0<=l
noncomputable def atC (cs:List Co)(i:Int):Co:=cs.getD i.toNat none
theorem Q2 {n:Nat}(c:Co):Pl (n+1) (cst c):=by
 cases c with
 |none=>exact Pa
 |some p=>exact GP (Bj (Bn _) (Bj (Bn _) GQ))
theorem RU (a b:Co):Al (cst a) (cst b)=decide (a=b):=by
 rcases a with _|⟨a1,a2⟩<;>rcases b with _|⟨b1,b2⟩
 ·simp[cst,Al]
 ·simp[cst,Al]
 ·simp[cst,Al]
 ·rw[yv];simp[cst,Al,BJ]
theorem N1 (a b:Co):Si 16 (cst a) (cst b)=.ok (.bl (decide (a=b))):=by rw[LS (Q2 (n:=15) a) (Q2 (n:=15) b),RU]
theorem RV (c:Co):J5 (cst c)=true:=by
 cases c<;>simp[cst,J5,Pg]
theorem M5 (c:Co):dp (.ok (cst c))=.ok (cst c):=by
 unfold dp;rw[M.Aa,if_pos (RV c)]
theorem Ud {n:Nat}(l:Option Int):Pl n (AX l):=by
 cases l with
 |none=>exact Pa
 |some i=>exact Bn i
theorem Wj (r:Road):Pl 1 (Jc r):=GP (Bj (Bn _) (Bj (Bn _) (Bj (Ud r.l) (Bj (Bn _) GQ))))
theorem Ue (m:Int)(rs:List Road):Pl 3 (An m rs):=GP (Bj (Bn _) (Bj (Pb λ d hd=>by
 obtain⟨r,_,rfl⟩:=List.mem_map.mp hd;exact Wj r) GQ))
theorem AY {a b:Int}(h:0<b):Eh (.int a) (.int b)=.ok (.int (a%b)):=by
 unfold Eh AW;dsimp only;rw[if_pos h]
theorem FA {a b:Int}(h:Kt a b):IY (.int a) (.int b)=.ok (.int (a / b)):=by
 unfold IY AW;dsimp only;rw[if_pos h]
inductive Wk (rs:List Road):Int->Int->Int×Int->Prop
 |nil (u:Int):Wk rs u u (0,0)
 |cons {r:Road} {l:Int} {w:Int} {c:Int×Int}:r∈rs->r.l=some l->Wk rs r.b w c->Wk rs r.a w (l+c.1,1+c.2)
theorem Wk.trans {rs:List Road}{u v w:Int}{c d:Int×Int}(h:Wk rs u v c)(k:Wk rs v w d):Wk rs u w (c.1+d.1,c.2+d.2):=by
 induction h with
 |nil u=>simpa using k
 |cons hr hl _ ih =>
  have:=Wk.cons hr hl (ih k);simpa [Int.add_assoc] using this
theorem Wk.one {rs:List Road}{r:Road}{l:Int}(hr:r∈rs)(hl:r.l=some l):Wk rs r.a r.b (l,1):=by
 have:=Wk.cons hr hl (Wk.nil (rs:=rs) r.b);simpa using this
theorem L6 {r:Road}{c:Int×Int}(h:Ex r=some c):∃l,r.l=some l/\c=(l,1):=by
 unfold Ex at h;split at h
 ·cases h
 ·rename_i l e;cases h;exact⟨l,e,rfl⟩
theorem Jd {a b:Co}{c:Int×Int}(h:Bs a b=some c):∃p q,a=some p/\b=some q/\c=(p.1+q.1,p.2+q.2):=by
 cases a with
 |none=>cases h
 |some p=>cases b with
  |none=>cases h
  |some q=>cases h;exact⟨p,q,rfl,rfl,rfl⟩
noncomputable def hit (rs:List Road)(cs:List Co)(p:Nat)(k:Nat):Bool:=match rs[k]? with
 |some r=>decide (r.b=(p:Int))&&decide (Bs (atC cs r.a) (Ex r)≠none)&&decide (Bs (atC cs r.a) (Ex r)=atC cs (p:Int))
 |none=>false
theorem Wk.nn {m:Nat}{rs:List Road}(As:∀r∈rs,Fz m r){u w:Int}{c:Int×Int}(h:Wk rs u w c):0<=c.1/\0<=c.2:=by
 induction h with
 |nil=>exact⟨Int.le_refl _,Int.le_refl _⟩
 |cons hr hl _ ih =>
  have:=(As _ hr).l0 _ hl;simp only;omega
noncomputable def pD (p:Int×Int):D:=.tup [.int p.1,.int p.2]
theorem Cg (p q:Int×Int):Al (pD p) (pD q)=decide (p=q):=by
 obtain⟨a,b⟩:=p;obtain⟨c,d⟩:=q;unfold pD;simp only[Al,BJ,Bool.and_true];rw[yv];simp
theorem Cw (p:Int×Int):keyOk true (pD p)=true:=rfl
theorem DY {α:Type}[DecidableEq α]:∀ {l u:List α},l.Nodup->(∀x∈l,x∈u)->l.length<=u.length
 |[],_,_,_=>zT _
 |x::r,u,nd,h=>by
  have aO:=zR.mp nd;have hx:=h x zb;have ih:=DY (l:=r) (u:=u.erase x) aO.2 λ y hy=>(List.mem_erase_of_ne (λ z=>aO.1 (by rw[<-z];exact hy))).mpr (h y (zd _ hy));have e:=List.length_erase_of_mem hx;have:0<u.length:=List.length_pos_of_mem hx;rw[zp];omega
noncomputable def B5 (m:Nat):List Int:=(yy m).map λ i:Nat=>(i:Int)
theorem L7 (m:Nat):(B5 m).length=m:=by unfold B5;simp
theorem L8 {m:Nat}{p:Int}:p∈B5 m↔0<=p/\p<m:=by
 unfold B5;constructor
 ·intro h;obtain⟨i,hi,rfl⟩:=List.mem_map.mp h;have:=List.mem_range.mp hi;omega
 ·rintro ⟨h0,h1⟩;exact List.mem_map.mpr ⟨p.toNat,List.mem_range.mpr (by omega),by omega⟩
def Ug (B:List (Int×Int)):Prop:=∀x,(x,x)∉B
structure M6 (m:Nat)(B:List (Int×Int)):Prop where
 nd:B.Nodup
 no:Ug B
 Ye:∀p∈B,(0<=p.1/\p.1<m)/\(0<=p.2/\p.2<m)
theorem M6.len {m:Nat}{B:List (Int×Int)}(h:M6 m B)(hm:m<=20):B.length<1000:=by
 have key:=DY (l:=B) (u:=(yy m).flatMap λ i:Nat=>(yy m).map λ j:Nat=>((i:Int),(j:Int))) h.nd λ p hp=>by
  obtain⟨h1,h2⟩:=h.Ye p hp;refine List.mem_flatMap.mpr ⟨p.1.toNat,List.mem_range.mpr (by omega),List.mem_map.mpr ⟨p.2.toNat,List.mem_range.mpr (by omega),?_⟩⟩;rw[Int.toNat_of_nonneg h1.1,Int.toNat_of_nonneg h2.1]
 have e:((yy m).flatMap λ i:Nat=>(yy m).map λ j:Nat=>((i:Int),(j:Int))).length=m*m:=by
  rw[List.length_flatMap];simp[List.map_const',List.sum_replicate_nat]
 rw[e] at key;have:m*m<=20*20:=Nat.mul_le_mul hm hm;omega
theorem Uh (a b c d:Int):HT.lexLt [a,b] [c,d]=decide (a<c\/(a=c/\b<d)):=by
 rw[HT.Ed,HT.Ed,HT.E9,yv];by_cases h1:a=c
 ·subst h1;by_cases h2:b=d
  ·subst h2;simp
  ·simp[h2]
 ·simp[h1]
theorem FC {f:Int->Int->M D}{a b:Int}:AW f (.int a) (.int b)=f a b:=rfl
theorem HN {bs:List Bool}:VY [.lst (bs.map D.bl)]=.ok (.bl (bs.all id)):=by unfold VY;dsimp only;rw[GS]
theorem HP {bs:List Bool}:W0 [.lst (bs.map D.bl)]=.ok (.bl (bs.any id)):=by unfold W0;dsimp only;rw[GS]
theorem M7 (m:Nat):(B5 m).Nodup:=by
 unfold B5 List.Nodup;rw[List.pairwise_map];exact (List.pairwise_lt_range (n:=m)).imp λ h=>by omega
theorem Q3 {m:Nat}{L:List Int}(h:L.Perm (B5 m)):L.length=m:=by rw[h.length_eq,L7]
theorem AR {m:Nat}{L:List Int}(h:L.Perm (B5 m)){p:Int}:p∈L↔0<=p/\p<m:=by rw[h.mem_iff,L8]
theorem C1 {m:Nat}{L:List Int}(h:L.Perm (B5 m)):L.Nodup:=h.nodup_iff.mpr (M7 m)
theorem NQ {i:Nat}{L:List Int}(h:L.Perm (B5 i))(n:Nat):(L.take n++(i:Int)::L.drop n).Perm (B5 (i+1)):=by
 have e:B5 (i+1)=B5 i++[(i:Int)]:=by unfold B5;rw[List.range_succ,zS];rfl
 rw[e];refine List.perm_middle.trans ?_;rw[List.take_append_drop];exact ((h.cons _).trans (List.perm_append_singleton _ _).symm)
theorem Ui {ρ:A8}:Pn 0 (none::ρ)=none::ρ:=rfl
def cl:Nat->D->Prop
 |0,d=>VT d=false
 |n+1,d=>VT d=false/\∀ds,(d=.tup ds\/d=.lst ds)->∀e∈ds,cl n e
section
variable {α β:Type}{a b c d e f g:α}{x y:β}
theorem Uj:(if [a,b,c,d,e].length<=1000 then x else y)=x:=rfl
theorem Uk:(if [a,b,c,d,e,f].length<=1000 then x else y)=x:=rfl
theorem Ul:(if [a,b,c,d,e,f,g].length<=1000 then x else y)=x:=rfl
theorem K2 {t:Bool}:er (.B0 t [] [])=.B0 t [] []:=by simp[er,OO]
end
structure Yg (m:Nat)(rs:List Road)(rk:Int->Nat)(Af:Int->Int->Co):Prop where
 snd:∀x y c,Af x y=some c->Wk rs x y c/\x≠y/\(0<=x/\x<m)/\0<=y/\y<m
 road:∀r∈rs,BR (Af r.a r.b) (Ex r)
 Wl:∀p x y,x≠y->rk p<rk x->rk p<rk y->BR (Af x y) (Bs (Af x p) (Af p y))
 inj:∀x y:Int,0<=x->x<m->0<=y->y<m->rk x=rk y->x=y
 nn:∀x y c,Wk rs x y c->0<=c.1/\0<=c.2
inductive V2 (Af:Int->Int->Co) (rk:Int->Nat) (s:Int):Int->Int×Int->Prop
 |nil:V2 Af rk s s (0,0)
 |snoc {x y:Int} {c d:Int×Int}:V2 Af rk s x c->rk x<rk y->Af x y=some d->V2 Af rk s y (c.1+d.1,c.2+d.2)
inductive V3 (Af:Int->Int->Co) (rk:Int->Nat) (t:Int):Nat->Int->Int×Int->Prop
 |nil:V3 Af rk t 0 t (0,0)
 |snoc {n:Nat} {x y:Int} {c d:Int×Int}:V3 Af rk t n x c->rk y<rk x->Af x y=some d->V3 Af rk t (n+1) y (c.1+d.1,c.2+d.2)
def O8 (p q:Int×Int):Prop:=p.1<q.1\/(p.1=q.1/\p.2<=q.2)
theorem K3 {a:Co}{q:Int×Int}(h:BR a (some q)):∃p,a=some p/\O8 p q:=by
 cases a with
 |none=>exact h.elim
 |some p=>exact⟨p,rfl,h⟩
def UD (Af:Int->Int->Co)(rk:Int->Nat)(s w:Int)(c:Int×Int):Prop:=∃t n c1 c2,V2 Af rk s t c1/\V3 Af rk t n w c2/\O8 (c1.1+c2.1,c1.2+c2.2) c
section
variable {κ β:Type} [DecidableEq κ]
noncomputable def Av:List (κ×β)->κ->Option β
 |[],_=>none
 |(k,v)::r,x=>if k=x then some v else Av r x
noncomputable def B8 (A:List (κ×β))(k:κ)(v:β):List (κ×β):=if (Av A k).isSome=true then A.map λ kv=>if kv.1=k then (kv.1,v) else kv else A++[(k,v)]
theorem K4 (k j:κ)(v:β):∀A:List (κ×β),Av (A.map λ kv=>if kv.1=k then (kv.1,v) else kv) j=if j=k then (Av A j).map λ _=>v else Av A j
 |[]=>by simp[Av]
 |(k',v')::r=>by
  rw[zh];by_cases h1:k'=k
  ·rw[if_pos h1];subst h1;simp only[Av];by_cases h2:k'=j
   ·subst h2;simp
   ·rw[if_neg h2,if_neg h2,K4 k' j v r]
  ·rw[if_neg h1];simp only[Av];by_cases h2:k'=j
   ·subst h2;rw[if_pos rfl,if_pos rfl,if_neg h1]
   ·rw[if_neg h2,if_neg h2,K4 k j v r]
theorem L9 (k j:κ)(v:β):∀A:List (κ×β),Av A k=none->Av (A++[(k,v)]) j=if j=k then some v else Av A j
 |[],_=>by
  simp only[List.nil_append,Av];by_cases h:k=j
  ·subst h;simp
  ·rw[if_neg h,if_neg (zQ h)]
 |(k',v')::r,h=>by
  simp only[Av] at h;by_cases h1:k'=k
  ·rw[if_pos h1] at h;cases h
  ·rw[if_neg h1] at h;rw[y8];simp only[Av];rw[L9 k j v r h];by_cases h2:k'=j
   ·subst h2;rw[if_pos rfl,if_pos rfl,if_neg h1]
   ·rw[if_neg h2,if_neg h2]
theorem Ca (A:List (κ×β))(k j:κ)(v:β):Av (B8 A k v) j=if j=k then some v else Av A j:=by
 unfold B8;by_cases h:(Av A k).isSome=true
 ·rw[if_pos h,K4];by_cases hj:j=k
  ·subst hj;rw[if_pos rfl,if_pos rfl];obtain⟨x,hx⟩:=y4.mp h;rw[hx];rfl
  ·rw[if_neg hj,if_neg hj]
 ·rw[if_neg h];exact L9 k j v A (by cases e:Av A k with|none=>rfl|some x=>rw[e] at h;exact (h rfl).elim)
theorem Cb:∀ {A:List (κ×β)}{k:κ},(Av A k).isSome=true↔k∈A.map zG
 |[],k=>by simp[Av]
 |(k',v')::r,k=>by
  simp only[Av,zh,zk];by_cases h:k'=k
  ·rw[if_pos h];simp[h]
  ·rw[if_neg h,Cb];simp[zQ h]
theorem Q4 {A:List (κ×β)}{k:κ}:Av A k=none↔k∉A.map zG:=by
 rw[<-Cb];cases Av A k<;>simp
theorem La (A:List (κ×β))(k:κ)(v:β):(B8 A k v).map zG=if (Av A k).isSome=true then A.map zG else A.map zG++[k]:=by
 unfold B8;split
 ·rw[List.map_map];refine List.map_congr_left λ kv _=>?_;dsimp only [Function.comp];split<;>rfl
 ·rw[zS];rfl
theorem DZ {A:List (κ×β)}{k:κ}{v:β}(h:(A.map zG).Nodup):((B8 A k v).map zG).Nodup:=by
 rw[La];split
 ·exact h
 ·rename_i hn;rw[Cb] at hn;rw[zE];exact⟨h,by simp,λ x hx y hy=>by rw[zj.mp hy];exact λ e=>hn (e▸hx)⟩
theorem HQ {A:List (κ×β)}{k x:κ}{v:β}(h:x∈(B8 A k v).map zG):x∈A.map zG\/x=k:=by
 rw[La] at h;split at h
 ·exact .inl h
 ·rcases zC.mp h with h|h
  ·exact .inl h
  ·exact .inr (zj.mp h)
theorem M8:∀ {A:List (κ×β)}{k:κ}{v:β},(A.map zG).Nodup->(k,v)∈A->Av A k=some v
 |(k',v')::r,k,v,hn,h=>by
  rw[zh,zR] at hn;simp only[Av];rcases zk.mp h with e|h
  ·cases e;rw[if_pos rfl]
  ·have:k'≠k:=λ e=>hn.1 (e▸List.mem_map.mpr ⟨_,h,rfl⟩);rw[if_neg this];exact M8 hn.2 h
variable {kf:κ->D}{vf:β->D}(he:∀a b,Al (kf a) (kf b)=decide (a=b))
include he
theorem Dm (A:List (κ×β))(k:κ):JH (A.map λ kv=>kf kv.1) (kf k)=(Av A k).isSome:=by
 induction A with
 |nil=>rfl
 |cons kv r ih =>
  obtain⟨k',v'⟩:=kv;unfold JH at ih ⊢;rw[zh,yz,ih,he];simp only[Av];by_cases h:k'=k
  ·rw[if_pos h,decide_eq_true h];rfl
  ·rw[if_neg h,decide_eq_false h];rfl
theorem ET (A:List (κ×β))(k:κ):EK (A.map λ kv=>kf kv.1) (A.map λ kv=>vf kv.2) (kf k)=(Av A k).map vf:=by
 induction A with
 |nil=>rfl
 |cons kv r ih =>
  obtain⟨k',v'⟩:=kv;rw[zh,zh,EK,he,ih];simp only[Av];by_cases h:k'=k
  ·rw[decide_eq_true h,if_pos rfl,if_pos h];rfl
  ·rw[decide_eq_false h,if_neg zA,if_neg h]
theorem Q5 (k:κ)(v:β)(A:List (κ×β)):FZ (A.map λ kv=>kf kv.1) (A.map λ kv=>vf kv.2) (kf k) (vf v)=(A.map λ kv=>if kv.1=k then (kv.1,v) else kv).map λ kv=>vf kv.2:=by
 induction A with
 |nil=>rfl
 |cons kv r ih =>
  obtain⟨k',v'⟩:=kv;rw[zh,zh,FZ,he,ih,zh,zh];by_cases h:k'=k
  ·rw[decide_eq_true h,if_pos rfl,if_pos h]
  ·rw[decide_eq_false h,if_neg zA,if_neg h]
theorem EU (A:List (κ×β))(k:κ)(v:β):putD (A.map λ kv=>kf kv.1) (A.map λ kv=>vf kv.2) (kf k) (vf v)=((B8 A k v).map (λ kv=>kf kv.1),(B8 A k v).map λ kv=>vf kv.2):=by
 unfold putD B8;rw[Dm he];by_cases h:(Av A k).isSome=true
 ·rw[if_pos h,if_pos h,Q5 he];refine Prod.ext ?_ rfl;dsimp only;rw[List.map_map];refine List.map_congr_left λ kv _=>?_;dsimp only [Function.comp];split<;>rfl
 ·rw[if_neg h,if_neg h,zS,zS];rfl
end
theorem HR (a b:Int):Al (.int a) (.int b)=decide (a=b):=by
 simp only[Al];by_cases h:a=b
 ·subst h;simp
 ·simp[h]
noncomputable abbrev LA:=List ((Int×Int)×((Int×Int)×Option Int))
noncomputable def Q6 (v:(Int×Int)×Option Int):D:=.tup [cst (some v.1),AX v.2]
noncomputable def QD (A:LA):D:=.B0 true (A.map λ kv=>pD kv.1) (A.map λ kv=>Q6 kv.2)
noncomputable def FD (A:LA):OT:=.B0 true (A.map λ kv=>pD kv.1) ((A.map λ kv=>Q6 kv.2).map .sh)
noncomputable def A3 (A:LA)(p:Int×Int):Co:=(Av A p).map zG
noncomputable def layA (A:LA)(p:Int×Int)(c:Co)(mid:Option Int):LA:=match c with
 |none=>A
 |some c=>(match Av A p with
  |none=>B8 A p (c,mid)
  |some z=>if c.1<z.1.1\/(c.1=z.1.1/\c.2<z.1.2) then B8 A p (c,mid) else A)
theorem Dn (A:LA)(p q:Int×Int)(c:Co)(mid:Option Int):A3 (layA A p c mid) q=if q=p then QC (A3 A p) c else A3 A q:=by
 unfold layA A3;cases c with
 |none =>
  by_cases h:q=p
  ·subst h;rw[if_pos rfl];cases Av A q<;>rfl
  ·rw[if_neg h]
 |some c =>
  cases e:Av A p with
  |none =>
   dsimp only;rw[Ca];by_cases h:q=p
   ·rw[if_pos h,if_pos h];rfl
   ·rw[if_neg h,if_neg h]
  |some z =>
   dsimp only;by_cases hc:c.1<z.1.1\/(c.1=z.1.1/\c.2<z.1.2)
   ·rw[if_pos hc,Ca];by_cases h:q=p
    ·rw[if_pos h,if_pos h];simp only[zY,QC,Wh];rw[if_neg (by omega)]
    ·rw[if_neg h,if_neg h]
   ·rw[if_neg hc];by_cases h:q=p
    ·subst h;rw[if_pos rfl,e];simp only[zY,QC,Wh];rw[if_pos (by omega)]
    ·rw[if_neg h]
theorem M9 (A:LA)(p q:Int×Int)(c:Co)(mid:Option Int):BR (A3 (layA A p c mid) q) (A3 A q):=by
 rw[Dn];split
 ·rename_i h;subst h;exact K0 _ _
 ·exact BM _
theorem Q7 {A:LA}{p x:Int×Int}{c:Co}{mid:Option Int}(h:x∈(layA A p c mid).map zG):x∈A.map zG\/x=p:=by
 unfold layA at h;split at h
 ·exact .inl h
 ·split at h
  ·exact HQ h
  ·split at h
   ·exact HQ h
   ·exact .inl h
theorem NR {A:LA}{p:Int×Int}{c:Co}{mid:Option Int}(h:(A.map zG).Nodup):((layA A p c mid).map zG).Nodup:=by
 unfold layA;split
 ·exact h
 ·split
  ·exact DZ h
  ·split
   ·exact DZ h
   ·exact h
noncomputable def Gg (p u:Int)(A:LA)(w:Int):LA:=if u=w then A else layA A (u,w) (Bs (A3 A (u,p)) (A3 A (p,w))) (some p)
noncomputable def NS (p:Int)(H:List Int)(A:LA)(u:Int):LA:=H.foldl (Gg p u) A
noncomputable def QE (A:LA)(p:Int)(H:List Int):LA:=H.foldl (NS p H) A
noncomputable def Ii:LA->List Int->LA
 |A,[]=>A
 |A,p::r=>Ii (QE A p r) r
noncomputable def lay0 (rs:List Road):LA:=rs.foldl (λ A r=>layA A (r.a,r.b) (Ex r) none) []
noncomputable def Am (rs:List Road)(L:List Int):LA:=Ii (lay0 rs) L
structure Dp (m:Nat)(A:LA):Prop where
 nd:(A.map zG).Nodup
 rg:∀p∈A.map zG,p.1≠p.2/\(0<=p.1/\p.1<m)/\0<=p.2/\p.2<m
theorem Dp.lay {m:Nat}{A:LA}(h:Dp m A){p:Int×Int}{c:Co}{mid:Option Int}(hp:p.1≠p.2/\(0<=p.1/\p.1<m)/\0<=p.2/\p.2<m):Dp m (layA A p c mid):=
 ⟨NR h.nd,λ q hq=>(Q7 hq).elim (h.rg q) λ e=>e▸hp⟩
theorem Dp.len {m:Nat}{A:LA}(h:Dp m A)(hm:m<=20):A.length<1000:=by
 have:=M6.len (B:=A.map zG) (m:=m) ⟨h.nd,λ x hx=>(h.rg _ hx).1 rfl,λ q hq=>⟨(h.rg q hq).2.1,(h.rg q hq).2.2⟩⟩ hm;rwa[zf] at this
theorem Cy {α β:Type}{f:β->α->β}(P:List α->β->Prop):∀ {L pre:List α}{b:β},P pre b->(∀a∈L,∀pre b,P pre b->P (pre++[a]) (f b a))->P (pre++L) (L.foldl f b)
 |[],pre,b,h,_=>by rw[ym];exact h
 |a::L,pre,b,h,hs=>by
  have:=Cy P (L:=L) (hs a zb pre b h) λ x hx=>hs x (zd _ hx);rw[List.append_assoc] at this;exact this
def RW (rs:List Road)(A:LA):Prop:=∀x y c,A3 A (x,y)=some c->Wk rs x y c
theorem RW.lay {rs:List Road}{A:LA}(h:RW rs A){x y:Int}{c:Co}{mid:Option Int}(hc:∀p,c=some p->Wk rs x y p):RW rs (layA A (x,y) c mid):=λ u w d hd=>by
 rw[Dn] at hd;split at hd
 ·rename_i e;cases e;rcases Fy (A3 A (x,y)) c with ⟨e,_⟩|⟨e,_⟩
  ·rw[e] at hd;exact h _ _ _ hd
  ·rw[e] at hd;exact hc d hd
 ·exact h _ _ _ hd
structure Over (m:Nat)(rs:List Road)(p:Int)(H:List Int)(A0 A:LA):Prop where
 ok:Dp m A
 sd:RW rs A
 le:∀q,BR (A3 A q) (A3 A0 q)
 sm:∀x y,(x∉H\/y∉H)->A3 A (x,y)=A3 A0 (x,y)
theorem NT {m:Nat}{rs:List Road}{p:Int}{H:List Int}{A0 A:LA}(hp:p∉H)(hH:∀x∈H,0<=x/\x<m)(h:Over m rs p H A0 A){u w:Int}(hu:u∈H)(hw:w∈H):Over m rs p H A0 (Gg p u A w)/\(u≠w->BR (A3 (Gg p u A w) (u,w)) (Bs (A3 A0 (u,p)) (A3 A0 (p,w)))):=by
 unfold Gg;by_cases e:u=w
 ·rw[if_pos e];exact⟨h,λ z=>(z e).elim⟩
 ·rw[if_neg e];have e1:=h.sm u p (.inr hp);have e2:=h.sm p w (.inl hp);refine⟨⟨h.ok.lay ⟨e,hH u hu,hH w hw⟩,h.sd.lay λ c hc=>?_,λ q=>AK (M9 _ _ _ _ _) (h.le q),λ x y gu=>?_⟩,λ _=>?_⟩
  ·obtain⟨a,b,ha,hb,rfl⟩:=Jd hc;exact (h.sd _ _ _ ha).trans (h.sd _ _ _ hb)
  ·rw[Dn,if_neg (λ z=>by cases z;exact gu.elim (λ q=>q hu) λ q=>q hw)];exact h.sm x y gu
  ·rw[Dn,if_pos rfl,e1,e2];exact K1 _ _
theorem Ss {p u:Int}{A:LA}{w:Int}(q:Int×Int):BR (A3 (Gg p u A w) q) (A3 A q):=by
 unfold Gg;split
 ·exact BM _
 ·exact M9 _ _ _ _ _
theorem Su {p u:Int}(q:Int×Int):∀(H:List Int) (A:LA),BR (A3 (H.foldl (Gg p u) A) q) (A3 A q)
 |[],A=>BM _
 |w::H,A=>AK (Su q H (Gg p u A w)) (Ss q)
theorem Um {m:Nat}{rs:List Road}{p:Int}{H:List Int}{A0 A:LA}(hp:p∉H)(hH:∀x∈H,0<=x/\x<m)(h:Over m rs p H A0 A){u:Int}(hu:u∈H):Over m rs p H A0 (NS p H A u)/\∀w∈H,u≠w->BR (A3 (NS p H A u) (u,w)) (Bs (A3 A0 (u,p)) (A3 A0 (p,w))):=by
 unfold NS;have:=Cy (L:=H) (pre:=[]) (f:=Gg p u) (b:=A) (λ W A=>Over m rs p H A0 A/\∀w∈W,u≠w->BR (A3 A (u,w)) (Bs (A3 A0 (u,p)) (A3 A0 (p,w)))) ⟨h,λ w hw=>by cases hw⟩ λ w hw W B hB=>by
  obtain⟨b1,b2⟩:=hB;obtain⟨c1,c2⟩:=NT hp hH b1 hu hw;refine⟨c1,λ x hx ab=>?_⟩;rcases zC.mp hx with hx|hx
  ·exact AK (Ss _) (b2 x hx ab)
  ·rw[zj.mp hx] at ab ⊢;exact c2 ab
 exact this
theorem Q8 {m:Nat}{rs:List Road}{p:Int}{H:List Int}{A:LA}(hp:p∉H)(hH:∀x∈H,0<=x/\x<m)(h1:Dp m A)(h2:RW rs A):Over m rs p H A (QE A p H)/\∀u∈H,∀w∈H,u≠w->BR (A3 (QE A p H) (u,w)) (Bs (A3 A (u,p)) (A3 A (p,w))):=by
 unfold QE;have:=Cy (L:=H) (pre:=[]) (f:=NS p H) (b:=A) (λ U B=>Over m rs p H A B/\∀u∈U,∀w∈H,u≠w->BR (A3 B (u,w)) (Bs (A3 A (u,p)) (A3 A (p,w)))) ⟨⟨h1,h2,λ q=>BM _,λ x y _=>rfl⟩,λ u hu=>by cases hu⟩ λ u hu U B hB=>by
  obtain⟨b1,b2⟩:=hB;obtain⟨c1,c2⟩:=Um hp hH b1 hu;refine⟨c1,λ x hx w hw ab=>?_⟩;rcases zC.mp hx with hx|hx
  ·exact AK (Su _ H B) (b2 x hx w hw ab)
  ·rw[zj.mp hx] at ab ⊢;exact c2 w hw ab
 exact this
theorem Gh {m:Nat}{rs:List Road}(As:∀r∈rs,Fz m r/\r.a≠r.b):Dp m (lay0 rs)/\RW rs (lay0 rs)/\∀r∈rs,BR (A3 (lay0 rs) (r.a,r.b)) (Ex r):=by
 unfold lay0;have:=Cy (L:=rs) (pre:=[]) (f:=λ A r=>layA A (r.a,r.b) (Ex r) none) (b:=[]) (λ W A=>Dp m A/\RW rs A/\∀r∈W,BR (A3 A (r.a,r.b)) (Ex r)) ⟨⟨by simp,λ p hp=>by cases hp⟩,⟨(λ _ _ _ h=>by cases h),λ r hr=>by cases hr⟩⟩ λ r hr W B hB=>by
  obtain⟨b1,b2,b3⟩:=hB;obtain⟨o1,o2⟩:=As r hr;refine⟨b1.lay ⟨o2,⟨o1.a0,o1.a1⟩,o1.b0,o1.b1⟩,b2.lay λ c hc=>?_,λ x hx=>?_⟩
  ·obtain⟨l,hl,rfl⟩:=L6 hc;exact Wk.one hr hl
  ·rcases zC.mp hx with hx|hx
   ·exact AK (M9 _ _ _ _ _) (b3 x hx)
   ·rw[zj.mp hx,Dn,if_pos rfl];exact K1 _ _
 exact this
noncomputable def AS:List Int->Int->Nat
 |[],_=>0
 |a::l,x=>if a=x then 0 else AS l x+1
theorem Lb:∀ {pre post:List Int}{p:Int},p∉pre->AS (pre++p::post) p=pre.length
 |[],post,p,_=>by simp[AS]
 |a::pre,post,p,h=>by
  rw[zk,not_or] at h;rw[y8,AS,if_neg (zQ h.1),Lb h.2];rfl
theorem Q9:∀ {pre post:List Int}{x:Int},x∈pre->AS (pre++post) x<pre.length
 |a::pre,post,x,h=>by
  rw[y8,AS];by_cases e:a=x
  ·rw[if_pos e];simp
  ·rw[if_neg e,zp];have:=Q9 (post:=post) ((zk.mp h).resolve_left (zQ e));omega
theorem N2:∀ {pre post:List Int}{x:Int},x∉pre->pre.length<=AS (pre++post) x
 |[],post,x,_=>zT _
 |a::pre,post,x,h=>by
  rw[zk,not_or] at h;rw[y8,AS,if_neg (zQ h.1),zp];have:=N2 (post:=post) h.2;omega
theorem K5:∀ {L:List Int}{x y:Int},x∈L->y∈L->AS L x=AS L y->x=y
 |a::l,x,y,hx,hy,e=>by
  rw[AS,AS] at e;by_cases h1:a=x
  ·by_cases h2:a=y
   ·rw[<-h1,<-h2]
   ·rw[if_pos h1,if_neg h2] at e;omega
  ·by_cases h2:a=y
   ·rw[if_neg h1,if_pos h2] at e;omega
   ·rw[if_neg h1,if_neg h2] at e;exact K5 ((zk.mp hx).resolve_left (zQ h1)) ((zk.mp hy).resolve_left (zQ h2)) (by omega)
theorem Uo {L:List Int}{x:Int}(h:AS L x<L.length):x∈L:=by
 refine Classical.byContradiction λ hn=>?_;have:=N2 (pre:=L) (post:=[]) hn;rw[ym] at this;omega
theorem Sv:∀(L:List Int) (x:Int),AS L x<=L.length
 |[],_=>zm _
 |a::l,x=>by
  rw[AS,zp];split
  ·omega
  ·have:=Sv l x;omega
theorem Dq:∀ {L:List Int}{p:Int},p∈L->∃pre post,L=pre++p::post/\p∉pre
 |a::l,p,h=>by
  by_cases ha:a=p
  ·subst ha;exact⟨[],l,rfl,by simp⟩
  ·obtain⟨pre,post,e2,hn⟩:=Dq ((zk.mp h).resolve_left (zQ ha));exact⟨a::pre,post,by rw[y8,<-e2],by simp[zQ ha,hn]⟩
theorem Qa {L:List Int}{p:Int}(h:AS L p<L.length):∃pre post,L=pre++p::post/\p∉pre/\∀x,AS L p<AS L x->x∈L->x∈post:=by
 obtain⟨pre,post,e,hn⟩:=Dq (Uo h);refine⟨pre,post,e,hn,λ x hr hx=>?_⟩;subst e;rw[Lb hn] at hr;rcases zC.mp hx with hx|hx
 ·have:=Q9 (post:=p::post) hx;omega
 ·rcases zk.mp hx with rfl|hx
  ·rw[Lb hn] at hr;omega
  ·exact hx
theorem Up {m:Nat}{rs:List Road}{L:List Int}(hL:L.Nodup)(hr:∀x∈L,0<=x/\x<m):∀(post pre:List Int) (A:LA),L=pre++post->Dp m A->RW rs A->(∀r∈rs,BR (A3 A (r.a,r.b)) (Ex r))->
 (∀pa p pb,L=pa++p::pb->pa.length<pre.length->∀x∈pb,∀y∈pb,x≠y->BR (A3 A (x,y)) (Bs (A3 A (x,p)) (A3 A (p,y))))->
 Dp m (Ii A post)/\RW rs (Ii A post)/\(∀r∈rs,BR (A3 (Ii A post) (r.a,r.b)) (Ex r))/\∀pa p pb,L=pa++p::pb->∀x∈pb,∀y∈pb,x≠y->BR (A3 (Ii A post) (x,y)) (Bs (A3 (Ii A post) (x,p)) (A3 (Ii A post) (p,y))):=by
 intro post;induction post with
 |nil =>
  intro pre A e h1 h2 h3 h4;rw[ym] at e;refine⟨h1,h2,h3,λ pa p pb e2=>h4 pa p pb e2 ?_⟩;rw[<-e,e2,zV,zp];omega
 |cons p post ih =>
  intro pre A e h1 h2 h3 h4;rw[Ii];have hn:(pre++p::post).Nodup:=e▸hL;rw[zE,zR] at hn;have bW:∀x∈post,0<=x/\x<m:=λ x hx=>hr x (by rw[e];simp[hx]);obtain⟨o,ov⟩:=Q8 (p:=p) hn.2.1.1 bW h1 h2;refine ih (pre++[p]) (QE A p post) (by rw[e];simp) o.ok o.sd (λ r bC=>AK (o.le _) (h3 r bC)) λ pa q pb e2 ag x hx y hy ab=>?_;rw[zV,yr] at ag;by_cases hq:pa.length<pre.length
  ·-- an dk one
   have gw:q∉post:=λ iH=>by
    have e3:pre++p::post=pa++q::pb:=by rw[<-e,e2]
    have q1:q∈pre:=by
     have:=congrArg (λ l=>l[pa.length]?) e3;rw[zZ hq,yg (zm _),Nat.sub_self] at this;exact zi this
    exact hn.2.2 q q1 q (zd _ iH) rfl
   rw[o.sm x q (.inr gw),o.sm q y (.inl gw)];exact AK (o.le _) (h4 pa q pb e2 hq x hx y hy ab)
  ·have hpl:pa.length=pre.length:=by omega
   have e3:pa++q::pb=pre++p::post:=by rw[<-e2,e]
   obtain⟨rfl,e4⟩:=List.append_inj e3 hpl;cases e4;rw[o.sm x p (.inr hn.2.1.1),o.sm p y (.inl hn.2.1.1)];exact ov x hx y hy ab
theorem BN {m:Nat}{rs:List Road}{L:List Int}(hL:L.Perm (B5 m))(As:∀r∈rs,Fz m r/\r.a≠r.b):Dp m (Am rs L)/\Yg m rs (AS L) (λ x y=>A3 (Am rs L) (x,y)):=by
 have eE:L.Nodup:=C1 hL;obtain⟨a1,a2,a3⟩:=Gh As;obtain⟨b1,b2,b3,b4⟩:=Up eE (λ x hx=>(AR hL).mp hx) L [] (lay0 rs) rfl a1 a2 a3 (λ pa p pb _ h=>by simp at h);refine⟨b1,λ x y c h=>?_,b3,λ p x y ab h1 h2=>?_,λ x y x0 x1 y0 y1 e=>K5 ((AR hL).mpr ⟨x0,x1⟩) ((AR hL).mpr ⟨y0,y1⟩) e,λ x y c h=>Wk.nn (λ r hr=>(As r hr).1) h⟩
 ·have hm:(x,y)∈(Ii (lay0 rs) L).map zG:=by
   rw[<-Cb];unfold A3 at h;cases q:Av (Am rs L) (x,y) with
   |none=>rw[q] at h;cases h
   |some z=>unfold Am at q;rw[q];rfl
  have:=b1.rg _ hm;exact⟨b2 _ _ _ h,this.1,this.2.1,this.2.2⟩
 ·have bd:∀ {x y:Int} {c:Int×Int},A3 (Am rs L) (x,y)=some c->x∈L/\y∈L:=fun {x y c} h=>by
   have hm:(x,y)∈(Ii (lay0 rs) L).map zG:=by
    rw[<-Cb];unfold A3 at h;cases q:Av (Am rs L) (x,y) with
    |none=>rw[q] at h;cases h
    |some z=>unfold Am at q;rw[q];rfl
   have:=b1.rg _ hm;exact⟨(AR hL).mpr this.2.1,(AR hL).mpr this.2.2⟩
  have hpl:AS L p<L.length:=zt h1 (Sv L x);obtain⟨pre,post,e,hn,bD⟩:=Qa hpl;cases q1:A3 (Am rs L) (x,p) with
  |none=>cases A3 (Am rs L) (x,y)<;>exact trivial
  |some c1 =>
   cases q2:A3 (Am rs L) (p,y) with
   |none=>cases A3 (Am rs L) (x,y)<;>exact trivial
   |some c2 =>
    have r:=b4 pre p post e x (bD x h1 (bd q1).1) y (bD y h2 (bd q2).2) ab;rw[<-q1,<-q2];exact r
noncomputable abbrev CA:=List ((Int×Int)×(Int×Int))
noncomputable def Je (C:CA):D:=.B0 true (C.map λ kv=>pD kv.1) (C.map λ kv=>cst (some kv.2))
noncomputable def QF (C:CA):OT:=.B0 true (C.map λ kv=>pD kv.1) ((C.map λ kv=>cst (some kv.2)).map .sh)
noncomputable abbrev RA:=List (Int×(Int×Int))
noncomputable def V4 (R:RA):D:=.B0 false (R.map λ kv=>D.int kv.1) (R.map λ kv=>cst (some kv.2))
noncomputable def Ij (R:RA):OT:=.B0 false (R.map λ kv=>D.int kv.1) ((R.map λ kv=>cst (some kv.2)).map .sh)
theorem Ma (A:LA):er (FD A)=QD A:=Em
theorem Mb (C:CA):er (QF C)=Je C:=Em
theorem Mc (R:RA):er (Ij R)=V4 R:=Em
theorem Jf (i:Int):keyOk false (.int i)=true:=rfl
theorem Qb (A:LA)(p:Int×Int)(neg:Bool):EO neg (pD p) (QD A)=.ok (.bl (if neg=true then !(Av A p).isSome else (Av A p).isSome)):=by
 unfold QD EO;dsimp only;rw[if_pos (Cw p),Dm Cg]
theorem Md {A:LA}{p:Int×Int}{v:(Int×Int)×Option Int}(h:Av A p=some v):Be (QD A) (pD p)=.ok (Q6 v):=by
 unfold QD Be;dsimp only;rw[if_pos (Cw p),ET Cg,h];rfl
theorem Qc (C:CA)(p:Int×Int)(neg:Bool):EO neg (pD p) (Je C)=.ok (.bl (if neg=true then !(Av C p).isSome else (Av C p).isSome)):=by
 unfold Je EO;dsimp only;rw[if_pos (Cw p),Dm Cg]
theorem K6 {C:CA}{p:Int×Int}{c:Int×Int}(h:Av C p=some c):Be (Je C) (pD p)=.ok (cst (some c)):=by
 unfold Je Be;dsimp only;rw[if_pos (Cw p),ET (vf:=λ c=>cst (some c)) Cg,h];rfl
theorem Me (R:RA)(p:Int)(neg:Bool):EO neg (.int p) (V4 R)=.ok (.bl (if neg=true then !(Av R p).isSome else (Av R p).isSome)):=by
 unfold V4 EO;dsimp only;rw[if_pos (Jf p),Dm (kf:=D.int) HR]
theorem Mf {R:RA}{p:Int}{c:Int×Int}(h:Av R p=some c):Be (V4 R) (.int p)=.ok (cst (some c)):=by
 unfold V4 Be;dsimp only;rw[if_pos (Jf p),ET (kf:=D.int) (vf:=λ c=>cst (some c)) HR,h];rfl
theorem Qd (A:LA)(p:Int×Int)(v:(Int×Int)×Option Int):putD (A.map λ kv=>pD kv.1) (A.map λ kv=>Q6 kv.2) (pD p) (Q6 v)=((B8 A p v).map (λ kv=>pD kv.1),(B8 A p v).map λ kv=>Q6 kv.2):=EU Cg A p v
theorem Qe (R:RA)(p:Int)(c:Int×Int):putD (R.map λ kv=>D.int kv.1) (R.map λ kv=>cst (some kv.2)) (.int p) (cst (some c))=((B8 R p c).map (λ kv=>D.int kv.1),(B8 R p c).map λ kv=>cst (some kv.2)):=EU (kf:=D.int) (vf:=λ c=>cst (some c)) HR R p c
theorem N3 {α:Type}(k v:α->D):∀l:List α,NO (l.map λ x=>.tup [k x,v x])=some (l.map λ x=>(k x,v x))
 |[]=>rfl
 |x::l=>by rw[zh,NO,N3 k v l];rfl
theorem Wm (p q:Int×Int):PZ (cst (some p)) (cst (some q))=.ok (.bl (decide (p.1<q.1\/(p.1=q.1/\p.2<q.2)))):=by
 rw[<-Uh];rfl
theorem Mg {m:M Out}{t r:OT}(h:WP m (λ ρ=>Dl ρ=some t/\OT.sh .Ax=r) (λ o=>match o with | .C7 r' ρ=>Dl ρ=some t/\r'=r | _=>False) (λ _=>False)):Ek m=.ok (t,r):=by
 cases m with
 |bad|ex x=>exact h.elim
 |ok o =>
  cases o with
  |next ρ=>obtain⟨h1,h2⟩:=(show Dl ρ=some t/\OT.sh .Ax=r from h);unfold Ek;dsimp only;rw[h1,<-h2]
  |C7 r' ρ=>obtain⟨h1,h2⟩:=(show Dl ρ=some t/\r'=r from h);unfold Ek;dsimp only;rw[h1,<-h2]
  |ret d|Bm d|brk d|cont d=>exact h.elim
theorem Cz {F:OT->List D->M (OT×OT)}{ρ:A8}{p:Option Nat}{t t2 r:OT}{al:List D}{i:Nat}(h:ρ[i]?=some (some (.ow (.tree p t))))(hN:Pr t=true)(hF:F t al=.ok (t2,r)):L0 i F ρ [] al=.ok (ρ.set i (some (toCl p t2)),r):=by
 rw[Pt h rfl rfl hN hF,Dj]
theorem CB {A:LA}{p:Option Nat}{ρ:A8}:Cu 0 (some (.ow (.tree p (FD A)))::ρ) []=.ok (true,A.map (λ kv=>pD kv.1),A.map λ kv=>Q6 kv.2):=BD
theorem FE {R:RA}{p:Option Nat}{ρ:A8}:Cu 0 (some (.ow (.tree p (Ij R)))::ρ) []=.ok (false,R.map (λ kv=>D.int kv.1),R.map λ kv=>cst (some kv.2)):=BD
theorem Dp.ov {m:Nat}{A:LA}(h:Dp m A){p u w:Int}(hu:0<=u/\u<m)(hw:0<=w/\w<m):Dp m (Gg p u A w):=by
 unfold Gg;split
 ·exact h
 ·rename_i e;exact h.lay ⟨e,hu,hw⟩
theorem Dp.ou {m:Nat}{p u:Int}(hu:0<=u/\u<m):∀ {H:List Int}{A:LA},Dp m A->(∀x∈H,0<=x/\x<m)->Dp m (H.foldl (Gg p u) A)
 |[],A,h,_=>h
 |w::H,A,h,hH=>by
  have r:=Dp.ou (A:=Gg p u A w) (H:=H) (p:=p) hu (h.ov hu (hH w zb)) λ x hx=>hH x (zd _ hx);exact r
theorem C2 {α β:Type}{f:β->α->β}{l:List α}{i:Nat}{x:α}{b:β}(h:l[i]?=some x):(l.take (i+1)).foldl f b=f ((l.take i).foldl f b) x:=by
 rw[yx,h,Option.toList_some,List.foldl_append];rfl
theorem Dp.lo {m:Nat}{p:Int}{H0:List Int}(h0:∀x∈H0,0<=x/\x<m):∀ {H:List Int}{A:LA},Dp m A->(∀x∈H,0<=x/\x<m)->Dp m (H.foldl (NS p H0) A)
 |[],A,h,_=>h
 |w::H,A,h,hH=>by
  have r:=Dp.lo (p:=p) (A:=NS p H0 A w) (H:=H) h0 (Dp.ou (hH w zb) h h0) λ x hx=>hH x (zd _ hx);exact r
theorem K7 (c:Co):Xq (.ok (.sh (cst c)))=.ok (.sh (cst c)):=by
 cases c<;>rfl
def Xz (a b:List Co×Bool):Prop:=b.2=true/\(a.2=false\/(a.2=true/\GV ltN a.1 b.1))
theorem Uq (x:List Co):Acc Xz (x,false):=.intro _ λ y h=>by cases h.1
theorem Ur (x:List Co):Acc Xz (x,true):=by
 have:=NP x;induction this with
 |intro x _ ih =>
  refine .intro _ λ y h=>?_;obtain⟨y,b⟩:=y;rcases h.2 with e|⟨e,h2⟩
  ·dsimp only at e;subst e;exact Uq y
  ·dsimp only at e;subst e;exact ih y h2
theorem Us {L:List Int}(hn:L.Nodup){i:Nat}{x:Int}(h:L[i]?=some x):AS L x=i:=by
 have ag:=(zD.mp h).1;have e:L=L.take i++x::L.drop (i+1):=by
  have h2:L.drop i=x::L.drop (i+1):=by
   rw[y2 ag];rw[zr ag] at h;rw[zw h]
  rw[<-h2,List.take_append_drop]
 have hx:x∉L.take i:=λ hm=>by
  rw[e,zE] at hn;exact hn.2.2 x hm x zb rfl
 rw[e,Lb hx,yi];omega
noncomputable abbrev Ar:=Option ((Int×Int)×Option Int)
noncomputable def Eo (v:Ar)(c:Co)(mid:Option Int):Ar:=match c with
 |none=>v
 |some c=>(match v with
  |none=>some (c,mid)
  |some z=>if c.1<z.1.1\/(c.1=z.1.1/\c.2<z.1.2) then some (c,mid) else v)
theorem N4 (A:LA)(p q:Int×Int)(c:Co)(mid:Option Int):Av (layA A p c mid) q=if q=p then Eo (Av A p) c mid else Av A q:=by
 unfold layA Eo;cases c with
 |none =>
  dsimp only;by_cases h:q=p
  ·rw[if_pos h,h]
  ·rw[if_neg h]
 |some c =>
  cases e:Av A p with
  |none=>dsimp only;rw[Ca]
  |some z =>
   dsimp only;by_cases hc:c.1<z.1.1\/(c.1=z.1.1/\c.2<z.1.2)
   ·rw[if_pos hc,if_pos hc,Ca]
   ·rw[if_neg hc,if_neg hc];by_cases h:q=p
    ·rw[if_pos h,h,e]
    ·rw[if_neg h]
theorem Mh (p u w:Int)(A:LA)(x y:Int):Av (Gg p u A w) (x,y)=if x=u/\y=w/\x≠y then Eo (Av A (x,y)) (Bs (A3 A (x,p)) (A3 A (p,y))) (some p) else Av A (x,y):=by
 unfold Gg;by_cases e:u=w
 ·rw[if_pos e,if_neg (λ h=>h.2.2 (h.1.trans (e.trans h.2.1.symm)))]
 ·rw[if_neg e,N4];by_cases h:(x,y)=(u,w)
  ·cases h;rw[if_pos rfl,if_pos ⟨rfl,rfl,e⟩]
  ·rw[if_neg h,if_neg (λ z=>h (by rw[z.1,z.2.1]))]
theorem Qf {p u:Int}(hu:u≠p)(x y:Int):∀ {H:List Int}{A:LA},H.Nodup->p∉H->Av (H.foldl (Gg p u) A) (x,y)=if x=u/\y∈H/\x≠y then Eo (Av A (x,y)) (Bs (A3 A (x,p)) (A3 A (p,y))) (some p) else Av A (x,y)
 |[],A,_,_=>by rw[List.foldl_nil,if_neg (λ h=>by cases h.2.1)]
 |w::H,A,hn,hp=>by
  rw[zR] at hn;have iI:p≠w:=λ e=>hp (by rw[e];exact zb);have iJ:p∉H:=λ e=>hp (zd _ e);have c1:A3 (Gg p u A w) (x,p)=A3 A (x,p):=by unfold A3;rw[Mh,if_neg (λ h=>iI h.2.1)]
  have c2:A3 (Gg p u A w) (p,y)=A3 A (p,y):=by unfold A3;rw[Mh,if_neg (λ h=>hu h.1.symm)]
  rw[yt,Qf hu x y hn.2 iJ,c1,c2,Mh];by_cases h1:x=u
  ·by_cases h2:x=y
   ·rw[if_neg (λ h=>h.2.2 h2),if_neg (λ h=>h.2.2 h2),if_neg (λ h=>h.2.2 h2)]
   ·by_cases h3:y=w
    ·have h4:y∉H:=by rw[h3];exact hn.1
     rw[if_neg (λ h=>h4 h.2.1),if_pos ⟨h1,h3,h2⟩,if_pos ⟨h1,by rw[h3];exact zb,h2⟩]
    ·by_cases h4:y∈H
     ·rw[if_pos ⟨h1,h4,h2⟩,if_neg (λ h=>h3 h.2.1),if_pos ⟨h1,zd _ h4,h2⟩]
     ·rw[if_neg (λ h=>h4 h.2.1),if_neg (λ h=>h3 h.2.1),if_neg (λ h=>by rcases zk.mp h.2.1 with z|z;exact h3 z;exact h4 z)]
  ·rw[if_neg (λ h=>h1 h.1),if_neg (λ h=>h1 h.1),if_neg (λ h=>h1 h.1)]
theorem Lc {p:Int}{H:List Int}(hn:H.Nodup)(hp:p∉H)(x y:Int):∀ {U:List Int}{A:LA},U.Nodup->p∉U->Av (U.foldl (NS p H) A) (x,y)=if x∈U/\y∈H/\x≠y then Eo (Av A (x,y)) (Bs (A3 A (x,p)) (A3 A (p,y))) (some p) else Av A (x,y)
 |[],A,_,_=>by rw[List.foldl_nil,if_neg (λ h=>by cases h.1)]
 |u::U,A,hU,gx=>by
  rw[zR] at hU;have gy:u≠p:=λ e=>gx (by rw[e];exact zb);have iK:p∉U:=λ e=>gx (zd _ e);have at':∀x y,Av (NS p H A u) (x,y)=if x=u/\y∈H/\x≠y then Eo (Av A (x,y)) (Bs (A3 A (x,p)) (A3 A (p,y))) (some p) else Av A (x,y):=λ x y=>Qf gy x y hn hp
  have c1:A3 (NS p H A u) (x,p)=A3 A (x,p):=by unfold A3;rw[at',if_neg (λ h=>hp h.2.1)]
  have c2:A3 (NS p H A u) (p,y)=A3 A (p,y):=by unfold A3;rw[at',if_neg (λ h=>gy h.1.symm)]
  rw[yt,Lc hn hp x y hU.2 iK,c1,c2,at'];by_cases h2:y∈H/\x≠y
  ·by_cases h1:x=u
   ·have h3:x∉U:=by rw[h1];exact hU.1
    rw[if_neg (λ h=>h3 h.1),if_pos ⟨h1,h2⟩,if_pos ⟨by rw[h1];exact zb,h2⟩]
   ·by_cases h3:x∈U
    ·rw[if_pos ⟨h3,h2⟩,if_neg (λ h=>h1 h.1),if_pos ⟨zd _ h3,h2⟩]
    ·rw[if_neg (λ h=>h3 h.1),if_neg (λ h=>h1 h.1),if_neg (λ h=>by rcases zk.mp h.1 with z|z;exact h1 z;exact h3 z)]
  ·rw[if_neg (λ h=>h2 h.2),if_neg (λ h=>h2 h.2),if_neg (λ h=>h2 h.2)]
theorem FF {p:Int}{H:List Int}(hn:H.Nodup)(hp:p∉H)(A:LA)(x y:Int):Av (QE A p H) (x,y)=if x∈H/\y∈H/\x≠y then Eo (Av A (x,y)) (Bs (A3 A (x,p)) (A3 A (p,y))) (some p) else Av A (x,y):=Lc hn hp x y hn hp
noncomputable def Qg (A:LA)(x y:Int)(W:List Int)(v:Ar):Ar:=W.foldl (λ v p=>Eo v (Bs (A3 A (x,p)) (A3 A (p,y))) (some p)) v
theorem HS {x y:Int}:∀ {L:List Int}{A:LA},L.Nodup->(x∉L\/y∉L)->Av (Ii A L) (x,y)=Av A (x,y)
 |[],A,_,_=>rfl
 |p::r,A,hn,h=>by
  rw[zR] at hn;have h':x∉r\/y∉r:=h.imp (λ z w=>z (zd _ w)) λ z w=>z (zd _ w);rw[Ii,HS hn.2 h',FF hn.2 hn.1,if_neg (λ z=>h'.elim (λ w=>w z.1) λ w=>w z.2.1)]
theorem N5 {x y:Int}(ab:x≠y):∀ {L:List Int}{A:LA},L.Nodup->x∈L->y∈L->Av (Ii A L) (x,y)=Qg (Ii A L) x y (L.take (min (AS L x) (AS L y))) (Av A (x,y))
 |[],A,_,h,_=>by cases h
 |p::r,A,hn,hx,hy=>by
  rw[zR] at hn;have gz:∀z,z≠p->AS (p::r) z=AS r z+1:=λ z hz=>by show (if p=z then 0 else AS r z+1)=_;rw[if_neg (zQ hz)]
  have g0:AS (p::r) p=0:=by show (if p=p then 0 else AS r p+1)=_;rw[if_pos rfl]
  rw[Ii];by_cases h1:x=p
  ·rw[HS hn.2 (.inl (by rw[h1];exact hn.1)),FF hn.2 hn.1,if_neg (λ z=>hn.1 (by rw[<-h1];exact z.1)),h1,g0,Nat.zero_min];rfl
  by_cases h2:y=p
  ·rw[HS hn.2 (.inr (by rw[h2];exact hn.1)),FF hn.2 hn.1,if_neg (λ z=>hn.1 (by rw[<-h2];exact z.2.1)),h2,g0,Nat.min_zero];rfl
  have g7:x∈r:=(zk.mp hx).resolve_left h1;have g8:y∈r:=(zk.mp hy).resolve_left h2;have e1:A3 (Ii (QE A p r) r) (x,p)=A3 A (x,p):=by unfold A3;rw[HS hn.2 (.inr hn.1),FF hn.2 hn.1,if_neg (λ z=>hn.1 z.2.1)]
  have e2:A3 (Ii (QE A p r) r) (p,y)=A3 A (p,y):=by unfold A3;rw[HS hn.2 (.inl hn.1),FF hn.2 hn.1,if_neg (λ z=>hn.1 z.1)]
  have et:(p::r).take (min (AS (p::r) x) (AS (p::r) y))=p::r.take (min (AS r x) (AS r y)):=by
   rw[gz x h1,gz y h2,Nat.add_min_add_right,List.take_succ_cons]
  rw[et,N5 ab hn.2 g7 g8,FF hn.2 hn.1,if_pos ⟨g7,g8,ab⟩];unfold Qg;rw[yt,e1,e2]
theorem Jg {rs:List Road}{L:List Int}{x y:Int}(hn:L.Nodup)(hx:x∈L)(hy:y∈L)(ab:x≠y):Av (Am rs L) (x,y)=Qg (Am rs L) x y (L.take (min (AS L x) (AS L y))) (Av (lay0 rs) (x,y)):=N5 ab hn hx hy
theorem Gi (rs:List Road):∀x y c mid,Av (lay0 rs) (x,y)=some (c,mid)->mid=none/\∃r∈rs,r.a=x/\r.b=y/\Ex r=some c:=by
 unfold lay0;have:=Cy (L:=rs) (pre:=[]) (f:=λ A r=>layA A (r.a,r.b) (Ex r) none) (b:=[]) (λ _ A=>∀x y c mid,Av A (x,y)=some (c,mid)->mid=none/\∃r∈rs,r.a=x/\r.b=y/\Ex r=some c) (λ _ _ _ _ h=>by cases h) λ r hr W B hB x y c mid h=>by
  rw[N4] at h;by_cases e:(x,y)=(r.a,r.b)
  ·cases e;rw[if_pos rfl] at h;unfold Eo at h;cases q:Ex r with
   |none=>rw[q] at h;exact hB _ _ _ _ h
   |some d =>
    rw[q] at h;dsimp only at h;split at h
    ·cases h;exact⟨rfl,r,hr,rfl,rfl,q⟩
    ·rename_i z hz;split at h
     ·cases h;exact⟨rfl,r,hr,rfl,rfl,q⟩
     ·exact hB _ _ _ _ h
  ·rw[if_neg e] at h;exact hB _ _ _ _ h
 exact this
noncomputable def O9 (v:Ar):Co:=v.map zG
theorem RX (v:Ar)(c:Co)(mid:Option Int):O9 (Eo v c mid)=QC (O9 v) c:=by
 unfold Eo O9;cases c with
 |none=>cases v<;>rfl
 |some c =>
  cases v with
  |none=>rfl
  |some z =>
   dsimp only;simp only[zY,QC,Wh];by_cases hc:c.1<z.1.1\/(c.1=z.1.1/\c.2<z.1.2)
   ·rw[if_pos hc,if_neg (by omega)];rfl
   ·rw[if_neg hc,if_pos (by omega)];rfl
structure Fd (cd:Int->Co)(v0:Ar)(W:List Int)(v:Ar):Prop where
 XA:BR (O9 v) (O9 v0)
 XY:∀p∈W,BR (O9 v) (cd p)
 Ax:∀c,v=some (c,none)->v0=some (c,none)
 mid:∀c p,v=some (c,some p)->(∃W1 W2,W=W1++p::W2/\cd p=some c/\∀q∈W1,cd q≠some c)/\O9 v0≠some c
theorem Qh {cd:Int->Co}{v0:Ar}(h0:∀c p,v0≠some (c,some p))(W:List Int):Fd cd v0 W (W.foldl (λ v p=>Eo v (cd p) (some p)) v0):=by
 have:=Cy (L:=W) (pre:=[]) (f:=λ v p=>Eo v (cd p) (some p)) (b:=v0) (λ W v=>Fd cd v0 W v) ⟨BM _,(λ p hp=>by cases hp),λ c h=>h,λ c p h=>absurd h (h0 c p)⟩ λ p hp W v hv=>by
  have dl:=RX v (cd p) (some p);refine⟨?_,λ q hq=>?_,λ c h=>?_,λ c q h=>?_⟩
  ·rw[dl];exact AK (K0 _ _) hv.XA
  ·rw[dl];rcases zC.mp hq with hq|hq
   ·exact AK (K0 _ _) (hv.XY q hq)
   ·rw[zj.mp hq];exact K1 _ _
  ·unfold Eo at h;split at h
   ·exact hv.Ax c h
   ·split at h
    ·cases h
    ·rename_i z;split at h
     ·cases h
     ·exact hv.Ax c h
  ·have keep:v=some (c,some q)->(∃W1 W2,W++[p]=W1++q::W2/\cd q=some c/\∀q∈W1,cd q≠some c)/\O9 v0≠some c:=λ h=>by
    obtain⟨⟨W1,W2,e1,e2,e3⟩,e4⟩:=hv.mid c q h;exact⟨⟨W1,W2++[p],by rw[e1];simp,e2,e3⟩,e4⟩
   have new:∀d:Int×Int,cd p=some d->(∀z,O9 v=some z->d.1<z.1\/(d.1=z.1/\d.2<z.2))->(∃W1 W2,W++[p]=W1++p::W2/\cd p=some d/\∀q∈W1,cd q≠some d)/\O9 v0≠some d:=λ d hd ag=>by
    have no:∀o:Co,BR (O9 v) o->o≠some d:=λ o ho e=>by
     subst e;obtain⟨z,hz,hle⟩:=K3 ho;have:=ag z hz;simp only[O8] at hle;omega
    exact⟨⟨W,[],rfl,hd,λ q hq=>no _ (hv.XY q hq)⟩,no _ hv.XA⟩
   unfold Eo at h;split at h
   ·exact keep h
   ·rename_i c' hd;split at h
    ·cases h;exact new _ hd λ z hz=>by cases hz
    ·rename_i z;split at h
     ·rename_i hc;cases h;exact new _ hd λ z' hz=>by cases hz;exact hc
     ·exact keep h
 exact this
inductive Wi (rs:List Road) (s:Int) (W:List Int):Int->Int×Int->Prop
 |nil:Wi rs s W s (0,0)
 |snoc {x:Int} {c:Int×Int} {r:Road} {l:Int}:Wi rs s W x c->r∈rs->r.a=x->r.l=some l->(x=s\/x∈W)->Wi rs s W r.b (c.1+l,c.2+1)
theorem Wi.more {rs:List Road}{s y:Int}{W W':List Int}{c:Int×Int}(h:Wi rs s W y c)(k:∀x∈W,x∈W'):Wi rs s W' y c:=by
 induction h with
 |nil=>exact .nil
 |snoc _ h1 h2 h3 h4 ih=>exact .snoc ih h1 h2 h3 (h4.imp id (k _))
theorem Wi.trans {rs:List Road}{s p y:Int}{W W':List Int}{c d:Int×Int}(h:Wi rs s W p c)(hp:p∈W)(h2:Wi rs p W' y d)(k:∀x∈W',x∈W):Wi rs s W y (c.1+d.1,c.2+d.2):=by
 induction h2 with
 |nil=>simpa using h
 | @snoc x d r l _ h1 h2 h3 h4 ih =>
  have:=Wi.snoc ih h1 h2 h3 (h4.elim (λ e=>.inr (by rw[e];exact hp)) λ e=>.inr (k _ e));simpa [Int.add_assoc] using this
section
variable {m:Nat}{rs:List Road}{L:List Int}
theorem Dr {L:List Int}(hn:L.Nodup){k:Nat}{x:Int}(h:x∈L.take k):x∈L/\AS L x<k:=by
 obtain⟨i,hi⟩:=List.mem_iff_getElem?.mp h;rw[List.getElem?_take] at hi;split at hi
 ·rename_i hk;exact⟨zi hi,by rw[Us hn hi];exact hk⟩
 ·cases hi
theorem Le {L:List Int}{k:Nat}{x:Int}(hx:x∈L)(h:AS L x<k):x∈L.take k:=by
 obtain⟨pre,post,e,iL⟩:=Dq hx;subst e;rw[Lb iL] at h;refine List.mem_iff_getElem?.mpr ⟨pre.length,?_⟩;rw[List.getElem?_take,if_pos h,yg (zm _),Nat.sub_self];rfl
theorem Mi (hL:L.Perm (B5 m))(As:∀r∈rs,Fz m r/\r.a≠r.b):∀(k:Nat){x y:Int}{c:Int×Int},x∈L->y∈L->x≠y->min (AS L x) (AS L y)=k->A3 (Am rs L) (x,y)=some c->Wi rs x (L.take k) y c:=by
 have hn:=C1 hL;have bd:∀ {x y:Int} {c:Int×Int},A3 (Am rs L) (x,y)=some c->x≠y:=fun {x y c} h=>((BN hL As).2.snd x y c h).2.1;intro k;induction k using Nat.strongRecOn with
 |ind k ih =>
  intro x y c hx hy ab hk hc;have hf:=Jg (rs:=rs) hn hx hy ab;have h0:∀c p,Av (lay0 rs) (x,y)≠some (c,some p):=λ c p h=>by cases (Gi rs x y c _ h).1
  have hF:=Qh (cd:=λ p=>Bs (A3 (Am rs L) (x,p)) (A3 (Am rs L) (p,y))) h0 (L.take k);unfold Qg at hf;rw[hk] at hf;rw[<-hf] at hF;obtain⟨mid,hq⟩:∃mid,Av (Am rs L) (x,y)=some (c,mid):=by
   unfold A3 at hc;cases q:Av (Am rs L) (x,y) with
   |none=>rw[q] at hc;cases hc
   |some z=>rw[q] at hc;cases hc;exact⟨z.2,rfl⟩
  cases mid with
  |none =>
   have h1:=hF.Ax c hq;obtain⟨_,r,hr,ha,hb,eQ⟩:=Gi rs x y c none h1;obtain⟨l,hl,rfl⟩:=L6 eQ;have:=Wi.snoc (W:=L.take k) (.nil (rs:=rs) (s:=x)) hr ha hl (.inl rfl);rw[hb] at this;simpa using this
  |some p =>
   obtain⟨⟨W1,W2,e1,e2,_⟩,_⟩:=hF.mid c p hq;have hp:p∈L.take k:=by rw[e1];simp
   obtain⟨g9,gB⟩:=Dr hn hp;obtain⟨a,b,ha,hb,rfl⟩:=Jd e2;have g1:=ih (AS L p) gB hx g9 (bd ha) (by omega) ha;have g2:=ih (AS L p) gB g9 hy (bd hb) (by omega) hb;have sub:∀z∈L.take (AS L p),z∈L.take k:=λ z hz=>by
    obtain⟨z1,z2⟩:=Dr hn hz;exact Le z1 (by omega)
   exact (g1.more sub).trans hp g2 sub
end
theorem RY {rk:Int->Nat}{Af:Int->Int->Co}{s:Int}(snd:∀a b c,Af a b=some c->(0<=c.1/\0<=c.2)/\rk a≠rk b)(Wl:∀p x y,x≠y->rk p<rk x->rk p<rk y->BR (Af x y) (Bs (Af x p) (Af p y))):∀(n:Nat){t x y:Int}{c1 c2 d:Int×Int},V2 Af rk s t c1->V3 Af rk t n x c2->Af x y=some d->UD Af rk s y (c1.1+c2.1+d.1,c1.2+c2.2+d.2):=by
 intro n;induction n with
 |zero =>
  intro t x y c1 c2 d hu hd ha;have hq:=(snd _ _ _ ha).2;cases hd with
  |nil =>
   by_cases h:rk y<rk t
   ·exact⟨t,1,c1,_,hu,.snoc .nil h ha,by simp only[O8];omega⟩
   ·exact⟨y,0,_,_,.snoc hu (by omega) ha,.nil,by simp only[O8];omega⟩
 |succ n ih =>
  intro t x y c1 c2 d hu hd ha;obtain⟨n1,hq⟩:=snd _ _ _ ha;by_cases h:rk y<rk x
  ·exact⟨t,n+2,c1,_,hu,.snoc hd h ha,by simp only[O8];omega⟩
  ·have h2:rk x<rk y:=by omega
   cases hd with
   | @snoc _ z _ c e aB hr gC =>
    have n2:=(snd _ _ _ gC).1;by_cases hz:z=y
    ·subst hz;exact⟨t,n,c1,c,hu,aB,by simp only[O8];omega⟩
    ·have q:=Wl x z y hz hr h2;rw[gC,ha] at q;obtain⟨f,hf,hle⟩:=K3 q;obtain⟨t',n',eR,eS,g1,g2,g3⟩:=ih hu aB hf;refine⟨t',n',eR,eS,g1,g2,?_⟩;simp only[O8] at *;omega
theorem Sw {rk:Int->Nat}{Af:Int->Int->Co}{t x:Int}{n:Nat}{c:Int×Int}(h:V3 Af rk t n x c):rk x<=rk t/\(rk x=rk t->n=0/\x=t/\c=(0,0)):=by
 induction h with
 |nil=>exact⟨zm _,λ _=>⟨rfl,rfl,rfl⟩⟩
 |snoc _ hr _ ih=>exact⟨by omega,λ e=>by omega⟩
theorem Sx {rk:Int->Nat}{Af:Int->Int->Co}{s x:Int}{c:Int×Int}(h:V2 Af rk s x c):rk s<=rk x/\(rk x=rk s->x=s/\c=(0,0)):=by
 induction h with
 |nil=>exact⟨zm _,λ _=>⟨rfl,rfl⟩⟩
 |snoc _ hr _ ih=>exact⟨by omega,λ e=>by omega⟩
section
variable {m:Nat}{rs:List Road}{L:List Int}
theorem Qi (hL:L.Perm (B5 m))(As:∀r∈rs,Fz m r/\r.a≠r.b){x y:Int}{c:Int×Int}(hx:x∈L)(hy:y∈L)(ab:x≠y)(h:Wi rs x (L.take (min (AS L x) (AS L y))) y c):BR (A3 (Am rs L) (x,y)) (some c):=by
 have hn:=C1 hL;have Ld:=(BN hL As).2;obtain⟨W,hW⟩:∃W,W=L.take (min (AS L x) (AS L y)):=⟨_,rfl⟩;rw[<-hW] at h;have dm:∀z∈W,z∈L/\AS L z<AS L x/\AS L z<AS L y:=λ z hz=>by
  rw[hW] at hz;obtain⟨z1,z2⟩:=Dr hn hz;exact⟨z1,by omega,by omega⟩
 obtain⟨Af,eT⟩:∃Af:Int->Int->Co,∀a b,Af a b=if (a∈W\/a=x\/a=y)/\(b∈W\/b=x\/b=y) then A3 (Am rs L) (a,b) else none:=⟨_,λ a b=>rfl⟩
 have gD:∀a,(a∈W\/a=x\/a=y)->a∈L:=λ a ha=>by
  rcases ha with ha|ha|ha
  ·exact (dm a ha).1
  ·rw[ha];exact hx
  ·rw[ha];exact hy
 have OG:∀ {a b d},Af a b=some d->((a∈W\/a=x\/a=y)/\(b∈W\/b=x\/b=y))/\A3 (Am rs L) (a,b)=some d:=fun {a b d} e=>by
  rw[eT] at e;by_cases q:(a∈W\/a=x\/a=y)/\(b∈W\/b=x\/b=y)
  ·rw[if_pos q] at e;exact⟨q,e⟩
  ·rw[if_neg q] at e;cases e
 have snd:∀a b c,Af a b=some c->(0<=c.1/\0<=c.2)/\AS L a≠AS L b:=λ a b c e=>by
  obtain⟨⟨va,vb⟩,e2⟩:=OG e;obtain⟨w1,w2,w3,w4⟩:=Ld.snd a b c e2;exact⟨Ld.nn _ _ _ w1,λ z=>w2 (K5 (gD a va) (gD b vb) z)⟩
 have Wl:∀p a b,a≠b->AS L p<AS L a->AS L p<AS L b->BR (Af a b) (Bs (Af a p) (Af p b)):=λ p a b eU h1 h2=>by
  cases q1:Af a p with
  |none=>cases Af a b<;>exact trivial
  |some c1 =>
   cases q2:Af p b with
   |none=>cases Af a b<;>exact trivial
   |some c2 =>
    obtain⟨⟨va,vp⟩,e1⟩:=OG q1;obtain⟨⟨_,vb⟩,e2⟩:=OG q2;have:=Ld.Wl p a b eU h1 h2;rw[e1,e2] at this;rw[eT,if_pos ⟨va,vb⟩];exact this
 have key:∀ {z c},Wi rs x W z c->(z∈W\/z=x\/z=y)->UD Af (AS L) x z c:=fun {z c} hz=>by
  induction hz with
  |nil=>exact λ _=>⟨x,0,_,_,.nil,.nil,by simp[O8]⟩
  | @snoc z0 c r l _ h1 h2 h3 h4 ih =>
   intro hv;have gE:z0∈W\/z0=x\/z0=y:=h4.elim (λ e=>.inr (.inl e)) .inl;obtain⟨t,n,c1,c2,g1,g2,g3⟩:=ih gE;have aG:=Ld.road r h1;rw[h2] at aG;unfold Ex at aG;rw[h3] at aG;obtain⟨d,hd,hle⟩:=K3 aG;have hd2:Af z0 r.b=some d:=by rw[eT,if_pos ⟨gE,hv⟩];exact hd
   obtain⟨t',n',eR,eS,k1,k2,k3⟩:=RY snd Wl n g1 g2 hd2;exact⟨t',n',eR,eS,k1,k2,by simp only[O8] at *;omega⟩
 have jv:AS L x≠AS L y:=λ e=>ab (K5 hx hy e);obtain⟨t,n,c1,c2,g1,g2,g3⟩:=key h (.inr (.inr rfl));have eV:∃d,Af x y=some d/\O8 d c:=by
  cases g1 with
  |nil =>
   cases g2 with
   |nil=>exact absurd rfl ab
   | @snoc n z _ c d hd hr ha =>
    obtain⟨⟨vz,_⟩,e2⟩:=OG ha;have hz:z=x:=by
     rcases vz with vz|vz|vz
     ·have:=(dm z vz).2.2;omega
     ·exact vz
     ·rw[vz] at hr;omega
    subst hz;obtain⟨_,_,rfl⟩:=(Sw hd).2 rfl;exact⟨d,ha,by simpa using g3⟩
  | @snoc z _ c d hu hr ha =>
   obtain⟨⟨vz,vt⟩,e2⟩:=OG ha;have jw:=(Sx hu).1;have ht:t=y:=by
    rcases vt with vt|vt|vt
    ·have:=(dm t vt).2.1;omega
    ·rw[vt] at hr;omega
    ·exact vt
   subst ht;have hz:z=x:=by
    rcases vz with vz|vz|vz
    ·have:=(dm z vz).2.1;omega
    ·exact vz
    ·rw[vz] at hr;omega
   subst hz;obtain⟨_,rfl⟩:=(Sx hu).2 rfl;obtain⟨_,_,rfl⟩:=(Sw g2).2 rfl;exact⟨d,ha,by simpa using g3⟩
 obtain⟨d,hd,hle⟩:=eV;rw[(OG hd).2];exact hle
end
theorem Ut {α:Type}{a b c d e f g h:D}{x y:α}:(if [a,b,c,d,e,f,g,h].length<=1000 then x else y)=x:=if_pos (by simp)
theorem Qj (r:Road):dp (.ok (Jc r))=.ok (Jc r):=by
 obtain⟨a,b,l,w⟩:=r;cases l<;>rfl
theorem Mj (i:Int):dp (.ok (.int i))=.ok (.int i):=rfl
theorem RZ {K:za}{H:Hp}:∀k:Key,B4 K H (kV k) (BB k)
 | .inl i=>.int i
 | .inr x=>.str x
noncomputable def Uu:M Out->M Out
 | .ok (.next ρ)=>.ok (.next ρ)
 | .ok (.ret d)=>.ok (.ret d)
 |_=>.bad
section
variable {X:Cx}{WX:Str->Hp->Prop}{c:Bool}{P0:C6}{P:Addr->Prop}{H:Hp}{σ:St}{ρ:A8}{a b e:Expr}{f g:A8->M D}{fp:A8->M (List Nat)}{pos p:Pos}{i:Nat}
noncomputable def Lf (k:Int):List Int->Option Nat
 |[]=>none
 |x::r=>if x=k then some 0 else (Lf k r).map (· + 1)
noncomputable def S0 (x:D)(m:M D):M D:=match x with
 | .lst ds=>m.bind λ y=>(match BQ ds,y with|some ns,.int k=>(match Lf k ns with|some j=>.ok (.int j)|none=>.bad)|_,_=>.bad)
 |_=>.bad
theorem N6 {k:Int}:∀ {ns:List Int}{aa:List Value},Vals (ns.map V.int) aa->PySem.W.kf_ints aa=true/\PySem.W.kf_at k aa=Lf k ns
 |[],[],_=>⟨rfl,rfl⟩
 |[],_::_,h=>by cases h
 |n::r,aa,h=>by
  cases h with
  |cons h t =>
   obtain⟨tk,rfl⟩:=h;obtain⟨h1,h2⟩:=N6 (k:=k) t;refine⟨h1,?_⟩;simp only[PySem.W.kf_at,Lf,h2];by_cases e:n=k
   ·subst e;simp[isInt]
   ·rw[if_neg e];have:isInt k (.int n tk)=false:=by simp[isInt];omega
    rw[this];cases Lf k r<;>rfl
theorem Qk:XH X "list.index" (λ x vs H Q=>∃l ns k j,x=.ref l/\vs=[.int k]/\CC X.K H l (ns.map V.int)/\Lf k ns=some j/\Q (.int j) H):=by
 intro pins s σ H x vs v us Q I rx rv h;obtain⟨l,ns,k,j,rfl,rfl,hq,hj,q⟩:=h;cases rx;obtain⟨u,rfl,ru⟩:=rv.one;obtain⟨tk,rfl⟩:=ru;obtain⟨aa,r,pl,hz⟩:=I.list hq;obtain⟨h1,h2⟩:=N6 (k:=k) r;have hlen:=r.length;rw[hj] at h2;have iM:∃o n,s.heap.get? l=some o/\o.cls=.type "list" /\ o.dict=none/\o.data=.seq aa.toArray n:=pl;obtain⟨a,b,cc⟩:=PySem.W.kf_at_spec h2;rw[sizeLine_eq] at hz;obtain⟨o,n,e,ec,ed,es⟩:=iM;obtain⟨eN,od,iN,O4⟩:=o;dsimp only at ec ed es;subst ec ed es;have ht:s.TypeIs (.ref l) "list" := ⟨_,e,rfl⟩;refine PySem.call_meets PySem.F.slot_list_index ht PySem.F.entry_list_index (PySem.F.args_list_index_2 _ _)
  (PySem.SeqAt.list_indexAt l aa.toArray n none O4 (.int k tk) (isInt k) j (by simpa using a) (by omega) (by simpa using b) (λ i hi ag=>?_)) ⟨e,λ y hy=>(PySem.W.kf_eq h1 y (by simpa using hy)).at _ _,?_⟩
 ·exact cc i (by simpa using hi) ag
 ·exact⟨.int j,H,I.tok _,⟨_,rfl⟩,q⟩
theorem EV {o k:Expr}{apos ai:Pos}(ha:DE X WX true o f)(hb:DE X WX true k g)(av:attributeBase o "index" X.env (eval o X.env)=eval o X.env:=by rfl)
 (aR:((backTo ai (starEach [k] X.env)).all (λ x => !x.1)&&(backToKw ai (keywordEach [] X.env)).all (λ x=>x.1.isSome)
  && decide (([k]:List Expr).length+([]:List Keyword).length+(if ([]:List Keyword).isEmpty then 0 else 1)<30))=true:=by rfl)
 (aw:(apos.endLine==ai.line)=true:=by rfl) (hs:starEach [k] X.env=[(false,eval k X.env)]:=by rfl):
 DE X WX true (.Call (.Attribute o "index" apos) [k] [] ai) (λ ρ=>(f ρ).bind λ x=>S0 x (g ρ)):=by
 obtain⟨ta,a1,a2⟩:=ha;obtain⟨tb,b1,b2⟩:=hb;refine⟨_,Sg PySem.F.plainAttrs_list PySem.F.slot_list_index PySem.F.type_list_index Qk a1 (BF b1 D7 hs) av aR aw hs,λ P0 P σ H Q ρ E h=>?_⟩;dsimp only at h;refine a2 P0 P σ H _ ρ E ?_;cases q:f ρ with
 |bad|ex x=>rw[q] at h;exact h
 |ok x =>
  rw[q] at h;simp only[M.Aa] at h;intro v H1 s1 hv;unfold S0 at h;split at h
  ·rename_i ds;cases hv with
   | @lst l xs _ gF hl =>
    refine⟨.inl ⟨rfl,_,gF.B9⟩,b2 P0 P σ H1 _ ρ (E.same s1) ?_⟩;cases e2:g ρ with
    |bad=>rw[e2] at h;exact h
    |ex y=>rw[e2] at h;exact gV.same (m:=.ex y) h s1
    |ok y =>
     rw[e2] at h;simp only[M.Aa] at h;intro w H2 s2 hw;split at h
     ·rename_i ns k bK;split at h
      ·rename_i j hj;have ex:=Fe hl bK;subst ex;exact⟨l,ns,k,j,rfl,by rw[hw.int_inv],s2.seq gF.B9,hj,h _ _ (s1.trans s2) (.int _)⟩
      ·exact h.elim
     ·exact h.elim
  ·exact h.elim
end
section
variable {L:List Int}{C W:CA}{s:Int}{t:Nat}{R0 R:RA}
theorem Ql:∀ {L:List Int}{k:Int},k∈L->Lf k L=some (AS L k)
 |[],_,h=>by cases h
 |x::r,k,h=>by
  show (if x=k then some 0 else (Lf k r).map (· + 1))=_;by_cases e:x=k
  ·rw[if_pos e];show some 0=some (AS (x::r) k);unfold AS;rw[if_pos e]
  ·rw[if_neg e];rcases zk.mp h with h|h
   ·exact absurd h.symm e
   ·have q:AS (x::r) k=AS r k+1:=by show (if x=k then 0 else AS r k+1)=_;rw[if_neg e]
    rw[Ql h,q];rfl
theorem EW {L:List Int}{k:Int}(h:k∈L):S0 (.lst (L.map D.int)) (.ok (.int k))=.ok (.int (AS L k:Nat)):=by
 unfold S0;simp only[M.Aa,Ff,Ql h]
end
theorem S1 {m:M Out}{nx:A8->Prop}{rt:Out->Prop}{ex:Str->Prop}(h:WP m nx (λ _=>False) λ _=>False):WP (Uu m) nx rt ex:=by
 cases m with
 |bad=>exact h
 |ex x=>exact h.elim
 |ok o =>
  cases o with
  |next ρ=>exact h
  |_=>exact h.elim
structure NU (h:Heap)(d:Addr)(es:Array DictEntry)(ep:Nat):Prop where
 at':∃o,h.get? d=some o/\o.ExactDict/\o.data=.dict es ep
section
variable {prog:Program}{w:World}{A:Around}{E:Value->Shared->Prop}{s:Shared}{d it:Addr}{es:Array DictEntry}{ep i:Nat}
theorem NU.ty (x:NU s.heap d es ep):s.TypeIs (.ref d) "dict" := let ⟨o,h,c,_⟩:=x.at';⟨o,h,c.1⟩
theorem S2 {Q:Value->Shared->Prop}(hs:(d==sysModules)=false)(x:NU s.heap d es ep)
 (q:Q (.ref s.heap.objs.size) {s with heap:=s.heap.push {cls:=.type "dict_keyiterator",data:=.fields #[.ref d,.int 0 0,.int es.size 0,.int ep 0]} }):wpAny (model prog w) A (pyIter (.ref d)) Q E s:=by
 have t:=x.ty;obtain⟨o,h1,h2,h3⟩:=x.at';apply wpAny_pyIter_slot t F.slot_dict_iter;apply wpAny_call_entry F.slot_dict_iter t F.entry_dict_iter _ (F.args_dict_iter_1 _);rw[Builtin.«dict.__iter__»];apply wpAny_bind;rw[Builtin.Dict.dictSlotNone];apply wpAny_bind;apply wpAny_notOrdered_dict t;refine wpAny_pure (a:=yp d) ?_;refine wpAny_bind (m:=Builtin.Dict.showsAll d) ?_;rw[Builtin.Dict.showsAll,hs];refine wpAny_pure ?_;apply wpAny_bind;apply wpAny_dictEntries h1 h3;apply wpAny_bind;apply wpAny_dictEpoch h1 h3;apply wpAny_bind;refine wpAny_newObj_type (wpAny_pure ⟨_,rfl,"dict_keyiterator",_,⟨_,zH _ rfl,rfl⟩,F.slot_dict_keyiterator_next.lookup,?_⟩);simpa [rawInt] using q
theorem Lg {Q:Option Value->Shared->Prop}(hh:A.handled=none)(hit:s.heap.IsKeyIter it d i es.size ep)(x:NU s.heap d es ep)
 (go:∀(hi:i<es.size) (h':Heap),h'.IsKeyIter it d (i+1) es.size ep->Heap.SameBut it s.heap h'->Q (some es[i].key) {s with heap:=h' })
 (no:es.size<=i->∀h',Heap.ExtBut it s.heap h'->Q none {s with heap:=h' }):wpAny (model prog w) A (pyNext (.ref it)) Q E s:=by
 obtain⟨io,g1,g2,g3⟩:=id hit;obtain⟨o,h1,h2,h3⟩:=x.at';have t:=hit.typeIs;rw[pyNext];apply wpAny_bind;apply wpAny_attempt;apply wpAny_callSpecial?_slot (name:=Str.ofString "__next__") t F.slot_dict_keyiterator_next;apply wpAny_call_entry F.slot_dict_keyiterator_next t F.entry_dict_keyiterator_next _ (F.args_dict_keyiterator_next_1 _);apply wpAny_bind;refine wpAny_pure ?_;apply wpAny_bind;apply wpAny_bind;apply wpAny_bind;apply wpAny_typeNameOfWhole_keyiter t;refine wpAny_pure ?_;apply wpAny_bind;apply wpAny_fieldsOf g1 g3;rw[show Builtin.Dict_items.ownsTuple "dict_keyiterator" = false from by decide];show wpAny _ _ (ite ((yp d==Value.none)=true) _ _) _ _ s;have nn:¬ (yp d==Value.none)=true:=nofun;rw[if_neg nn];apply wpAny_bind;refine wpAny_pure (a:=d) ?_;apply wpAny_bind;apply wpAny_dictEntries h1 h3;rw[if_neg (by simp)];apply wpAny_bind;refine wpAny_pure (a:=d) ?_;apply wpAny_bind;apply wpAny_dictEpoch h1 h3;rw[if_neg (by simp)];refine wpAny_pure ?_;have i0:¬ (i:Int)<0:=by omega
 by_cases hi:i<es.size
 ·simp only[i0,if_false,Int.toNat_natCast,Array.getElem?_eq_getElem hi];apply wpAny_bind;apply wpAny_bind;apply wpAny_typeNameOfWhole_keyiter t;refine wpAny_pure ?_;apply wpAny_bind;apply wpAny_isOneOf_keyiter t;refine wpAny_bind (m:=setField (.ref it) 1 (rawInt ((i:Int)+1))) ?_;apply wpAny_setField g1 g3 (by simp);have st:(s.heap.update it (Obj.mapFields (·.setIfInBounds 1 (rawInt ((i:Int)+1))))).IsKeyIter it d (i+1) es.size ep:=
   ⟨_,Heap.get?_update_self _ g1 (Obj.isFreed_of_fields (Obj.data_mapFields g3 _)),(Obj.cls_mapFields ..).trans g2,by rw[Obj.data_mapFields g3];simp[rawInt]⟩
  apply wpAny_bind;apply wpAny_holding;apply wpAny_bind;apply wpAny_isOneOf_keyiter st.typeIs;refine wpAny_pure (a:=es[i].key) ?_;exact wpAny_pure ⟨_,rfl,wpAny_pure (go hi _ st (Heap.SameBut.update ..))⟩
 ·have cp:es.size<=i:=by omega
  simp only[i0,if_false,Int.toNat_natCast,Array.getElem?_eq_none cp];apply wpAny_bind;apply wpAny_bind;apply wpAny_typeNameOfWhole_keyiter t;refine wpAny_pure ?_;refine wpAny_bind (m:=setField (.ref it) 0 .none) ?_;apply wpAny_setField g1 g3 (by simp);apply wpAny_bind;rw[newExc];apply wpAny_bind;rw[newTuple];refine wpAny_newObj_type ?_ (by size_fits);apply wpAny_bind;refine wpAny_of_eq (a:=Value.none) (by simp only[firstArgMember];rfl) ?_;refine wpAny_newObj_type ?_ (by size_fits);simp only[raiseNew];apply wpAny_bind;apply wpAny_handled;rw[show A.in1.handled=none from hh];refine wpAny_bind (wpAny_pure (wpAny_throw ?_));refine wpAny_bind (wpAny_isInstance (T := "StopIteration") (b:=true) ⟨_,zH _ rfl,rfl⟩ isSubtype_stop ?_);exact wpAny_pure (no cp _ (((Heap.SameBut.update ..).extBut.push _).push _))
end
section
variable {X:Cx}{pins:List (Addr×Obj)}{σ:St}{H:Hp}{s:Shared}{a:Addr}{o:Obj}{kvs:List (List Key×V)}
noncomputable abbrev S3 (H:Hp)(kvs:List (List Key×V))(xs:List (List Key×Addr×Value)):Prop:=Paired (λ(p:List Key×V) (q:List Key×Addr×Value)=>p.1=q.1/\H q.2.1=some (.tup (p.1.map kV))/\RelV p.2 q.2.2) kvs xs
theorem S3.put {xs:List (List Key×Addr×Value)}{u v:HO}(r:S3 H kvs xs)(e:H a=some u)(hu:∀l,u≠.tup l):S3 (upd H a v) kvs xs:=
 Paired.QJ r λ p q h=>⟨h.1,by rw[A5 (λ z=>by have:=h.2.1;rw[z,e] at this;exact hu _ (zw this))];exact h.2.1,h.2.2⟩
theorem S3.get:∀ {kvs:List (List Key×V)}{xs:List (List Key×Addr×Value)},S3 H kvs xs->∀ {i:Nat}{q:List Key×Addr×Value},xs[i]?=some q->∃p,kvs[i]?=some p/\H q.2.1=some (.tup (p.1.map kV))
 |_,_,.nil,i,q,e=>by cases e
 |_,_,.cons h t,0,q,e=>by cases e;exact⟨_,rfl,h.2.1⟩
 |_,_,.cons h t,i+1,q,e=>S3.get t (i:=i) e
theorem Inv.S4 (I:Inv X pins σ H s)(e:H a=some (.dT kvs)):∃o,s.heap.get? a=some o/\Inv X pins σ (upd H a (.Cm o (.dT kvs))) s:=by
 obtain⟨z,y,xs,r,o,es,ep,ho,c⟩:=(show AF X.prog X.w H s.heap a (.dT kvs) from I.As a _ e);have ne:∀b u,H b=some u->u≠.dT kvs->b≠a:=λ b u q n hb=>n (by rw[hb,e] at q;exact (zw q).symm);have As:CD X.prog X.w (upd H a (.Cm o (.dT kvs))) s.heap:=λ b u q=>by
  by_cases hb:b=a
  ·subst hb;rw[Ad] at q;cases q;exact⟨ho,z,y,xs,S3.put r e (λ l z=>by cases z),o,es,ep,ho,c⟩
  ·rw[A5 hb] at q;exact (I.As b u q).Gm (λ _ _ _ w=>w) (λ d w=>by rw[A5 (ne d _ w (λ z=>by cases z))];exact w) λ d xs w=>by rw[A5 (ne d _ w (λ z=>by cases z))];exact w
 refine⟨o,ho,?_⟩;exact I.step (g':=s.gens) (d':=s.drawn) (t':=s.toks) (ch:=[]) (h':=s.heap) (H':=upd H a (.Cm o (.dT kvs))) (λ b hb=>by cases hb) (λ _ _ _ _ _ q _=>q) (λ b o _ _ _ q _=>⟨o.slots,q⟩) (λ b o _ _ n=>by rw[A5 (λ z=>by rw[z,e] at n;cases n)];exact n)
  (λ b o _ q=>⟨o,q⟩) (λ b xs q=>by rw[A5 (ne b _ q (λ z=>by cases z))];exact q) (λ b o u q=>by rw[A5 (ne b _ q (λ z=>by cases z))];exact q) (λ b ps q=>⟨#[],by rw[A5 (ne b _ q (λ z=>by cases z)),q];simp⟩) (λ _ q=>q) As I.bare
theorem Inv.Uv (I:Inv X pins σ H s)(e:H a=some (.dT kvs)):∀o u,X.H₀ a≠some (.Cm o u):=λ o u q=>by
 rw[I.base.F2 a o u q] at e;cases e
theorem Inv.NV (I:Inv X pins σ H s)(e:H a=some (.Cm o (.dT kvs)))(n0:∀o u,X.H₀ a≠some (.Cm o u)):Inv X pins σ (upd H a (.dT kvs)) s:=by
 have ne:∀b u,H b=some u->u≠.Cm o (.dT kvs)->b≠a:=λ b u q n hb=>n (by rw[hb,e] at q;exact (zw q).symm);have nn:∀b,H b=none->b≠a:=λ b q hb=>by rw[hb,e] at q;cases q
 refine⟨I.ok,I.os,I.bare,⟨I.base.keep,I.base.slot,λ b ob q n hx=>?_,I.base.there,λ b xs q=>?_,λ b ob u q=>?_,λ b ps q=>?_⟩,I.loc,I.cell,?_,λ x c h=>?_,λ p hp=>?_,λ b u q=>?_,I.len⟩
 ·have:=I.base.free b ob q n hx;rw[A5 (nn b this)];exact this
 ·have:=I.base.Gn b xs q;rw[A5 (ne b _ this (λ z=>by cases z))];exact this
 ·by_cases hb:b=a
  ·subst hb;exact absurd q (n0 ob u)
  ·rw[A5 hb];exact I.base.F2 b ob u q
 ·obtain⟨m,h⟩:=I.base.Gp b ps q;exact⟨m,by rw[A5 (ne b _ h (λ z=>by cases z))];exact h⟩
 ·rw[A5 (nn _ I.free)];exact I.free
 ·rw[A5 (nn _ (I.Cn x c h))];exact I.Cn x c h
 ·obtain⟨h1,h2,h3⟩:=I.pin p hp;exact⟨h1,by rw[A5 (nn _ h2)];exact h2,h3⟩
 ·by_cases hb:b=a
  ·subst hb;rw[Ad] at q;cases q;obtain⟨h1,z,y,xs,r,c⟩:=(show AF X.prog X.w H s.heap b (.Cm o (.dT kvs)) from I.As b _ e);exact⟨z,y,xs,S3.put r e (λ l z=>by cases z),c⟩
  ·rw[A5 hb] at q;exact (I.As b u q).Gm (λ _ _ _ w=>w) (λ d w=>by rw[A5 (ne d _ w (λ z=>by cases z))];exact w) λ d xs w=>by rw[A5 (ne d _ w (λ z=>by cases z))];exact w
end
noncomputable def Qm (a:Addr)(o:Obj)(kvs:List (List Key×V)):It:=
 ⟨λ i H=>H a=some (.Cm o (.dT kvs))/\i<kvs.length,λ i H v H'=>H'=H/\∃kv t,kvs[i]?=some kv/\v=.ref t/\H t=some (.tup (kv.1.map kV)),λ i H=>H a=some (.Cm o (.dT kvs))/\kvs.length<=i⟩
theorem Mk {P:Program}{w:World}{K:za}{tg:Expr}(a it:Addr)(o:Obj)(kvs:List (List Key×V))(es:Array DictEntry)(ep:Nat)(hx:o.ExactDict)(bX:o.data=.dict es ep)(hl:es.size=kvs.length):
 Turn P w K tg (Qm a o kvs) [it] it (λ i h=>i<=kvs.length/\h.IsKeyIter it a i es.size ep) where
 mem:=by simp
 obj:=λ i h st b hb=>by
  have e:b=it:=by simpa using hb
  subst e;obtain⟨_,o,e,c,d⟩:=st;exact⟨o,e,λ v z=>by rw[d] at z;cases z⟩
 keep:=λ i h h' st k=>⟨st.1,st.2.at λ o e=>k it (by simp) o e⟩
 item:=by
  intro X hP hw hK hc i pins s σ H E I hf st hg;subst hP hw hK;obtain⟨he,hi⟩:=hg;obtain⟨bY,z,y,xs,r,ob,jx,jy,ho,_,hd,aN,hn⟩:=(show AF X.prog X.w H s.heap a (.Cm o (.dT kvs)) from I.As a _ he);have eo:o=ob:=zw (bY.symm.trans ho);subst eo;rw[bX] at hd;cases hd;obtain⟨f0,f1,f2,f3,f4,f5⟩:=hf it (by simp);refine Lg (I.ok.hd hc) st.2 ⟨o,bY,hx,bX⟩ (λ cp h' bq sb=>?_) (λ z=>absurd z (by omega));have hq:=entry_at aN i;rw[Array.getElem?_eq_getElem cp] at hq;cases qx:xs[i]? with
  |none=>rw[qx] at hq;cases hq
  |some x =>
   rw[qx] at hq;have ek:es[i].key=.ref x.2.1:=by rw[zw hq];rfl
   obtain⟨p,hp,ht⟩:=S3.get r qx;have I1:Inv X pins σ H {s with heap:=h',toks:=s.toks}:=I.turned (t':=s.toks) (λ b o hb e=>sb.extBut b o hb e) f0 f1 f3 f4 f5;obtain⟨io,e,c,d⟩:=id bq;refine⟨_,rfl,?_⟩;rw[ek];exact Oq (s:={s with heap:=h',toks:=s.toks}) e c d (by decide) ⟨.ref x.2.1,H,I1,rfl,⟨rfl,p,x.2.1,hp,rfl,ht⟩,⟨hi,bq⟩,λ b hb=>(hf b hb).1⟩
 done:=by
  intro X hP hw hK hc i pins s σ H E I hf st hg;subst hP hw hK;obtain⟨he,hi⟩:=hg;have bY:s.heap.get? a=some o:=(show AF X.prog X.w H s.heap a (.Cm o (.dT kvs)) from I.As a _ he).1;obtain⟨f0,f1,f2,f3,f4,f5⟩:=hf it (by simp);exact Lg (I.ok.hd hc) st.2 ⟨o,bY,hx,bX⟩ (λ cp=>absurd cp (by omega)) λ _ h' eb=>⟨rfl,I.turned (t':=s.toks) (λ b o hb e=>eb b o hb e) f0 f1 f3 f4 f5⟩
 self:=λ _ _ _ _ _ st h=>wpAny_pyIter_keyiter st.2 h
section
variable {X:Cx}{WX:Str->Hp->Prop}{tg e:Expr}{f g:A8->M D}{pos p:Pos}{te:TE}
noncomputable def Uw (H0:Hp)(te:TE):TI:=λ σ H R=>te σ H λ v H1=>∃a kvs,v=.ref a/\((H1 a=some (.dT kvs)/\∀o,(∀o u,H0 a≠some (.Cm o u))->R (Qm a o kvs) (upd H1 a (.Cm o (.dT kvs))))\/∃o,H1 a=some (.Cm o (.dT kvs))/\R (Qm a o kvs) H1)
theorem Qn (ha:PE X e te):PI X tg e (Uw X.H₀ te):=by
 intro pins s σ H R I h;refine B2 (ha pins s σ H _ I h) λ v s1 ⟨x,H1,I1,r1,q1⟩=>?_;obtain⟨a,kvs,rfl,q⟩:=q1;cases r1;have fin:∀(H2:Hp) (o:Obj),Inv X pins σ H2 s1->H2 a=some (.Cm o (.dT kvs))->R (Qm a o kvs) H2->wpAny (model X.prog X.w) X.A (pyIter (.ref a)) (X3 X pins σ tg R) X.xe s1:=λ H2 o I2 e2 q2=>by
  obtain⟨bY,z,y,xs,r,ob,es,ep,ho,hx,hd,aN,hn⟩:=(show AF X.prog X.w H2 s1.heap a (.Cm o (.dT kvs)) from I2.As a _ e2);have eo:o=ob:=zw (bY.symm.trans ho);subst eo;have hl:es.size=kvs.length:=by rw[size_of_entries aN];exact (Paired.length r).symm
  refine S2 y ⟨o,bY,hx,hd⟩ ?_;refine⟨s1.heap.objs.size,[s1.heap.objs.size],_,_,H2,rfl,I2.kept (t':=s1.toks) λ b o e=>zq _ e,Mk a _ o kvs es ep hx hd hl,⟨zT _,_,zH _ rfl,rfl,rfl⟩,λ b hb=>?_,q2⟩;have e:b=s1.heap.objs.size:=by simpa using hb
  subst e;exact I2.Oo (zm _) (I2.As.fresh (zm _))
 rcases q with ⟨e1,q⟩|⟨o,e1,q⟩
 ·obtain⟨o,ho,I2⟩:=I1.S4 e1;exact fin _ o I2 Ad (q o (I1.Uv e1))
 ·exact fin H1 o I1 e1 q
end
def Ik (H H':Hp):Prop:=∀b u,H b=some u->H' b=some u\/(∃o kvs,u=.Cm o (.dT kvs)/\H' b=some (.dT kvs))\/∃o kvs,u=.dT kvs/\H' b=some (.Cm o (.dT kvs))
theorem Ik.tup {H H':Hp}(e:Ik H H'){a:Addr}{xs:List V}(h:H a=some (.tup xs)):H' a=some (.tup xs):=by
 rcases e _ _ h with q|⟨o,k,q,_⟩|⟨o,k,q,_⟩
 ·exact q
 ·cases q
 ·cases q
theorem Ik.dK {H H':Hp}(e:Ik H H'){a:Addr}{kvs:List (Key×V)}(h:Rd H a (.dK kvs)):Rd H' a (.dK kvs):=by
 rcases h with h|⟨o,h⟩
 ·rcases e _ _ h with q|⟨o,k,q,_⟩|⟨o,k,q,_⟩
  ·exact .inl q
  ·cases q
  ·cases q
 ·rcases e _ _ h with q|⟨o,k,q,_⟩|⟨o,k,q,_⟩
  ·exact .inr ⟨_,q⟩
  ·cases q
  ·cases q
theorem Ik.dT {H H':Hp}(e:Ik H H'){a:Addr}{kvs:List (List Key×V)}(h:Rd H a (.dT kvs)):Rd H' a (.dT kvs):=by
 rcases h with h|⟨o,h⟩
 ·rcases e _ _ h with q|⟨o,k,q,_⟩|⟨o,k,q,r⟩
  ·exact .inl q
  ·cases q
  ·cases q;exact .inr ⟨_,r⟩
 ·rcases e _ _ h with q|⟨o,k,q,r⟩|⟨o,k,q,_⟩
  ·exact .inr ⟨_,q⟩
  ·cases q;exact .inl r
  ·cases q
theorem Ik.ins {H H':Hp}(e:Ik H H'){a C dx:Addr}{fs:List (Str×V)}(h:H a=some (.ins C dx fs)):H' a=some (.ins C dx fs):=by
 rcases e _ _ h with q|⟨o,k,q,_⟩|⟨o,k,q,_⟩
 ·exact q
 ·cases q
 ·cases q
theorem Ik.ext {H H':Hp}(e:Ik H H'){a:Addr}{φ:Heap->Prop}(h:H a=some (.ext φ)):H' a=some (.ext φ):=by
 rcases e _ _ h with q|⟨o,k,q,_⟩|⟨o,k,q,_⟩
 ·exact q
 ·cases q
 ·cases q
theorem Ik.seq {K:za}{H H':Hp}(e:Ik H H'){a:Addr}{xs:List V}(h:CC K H a xs):CC K H' a xs:=by
 rcases h with (h|⟨o,h⟩)|h
 ·rcases e _ _ h with q|⟨o,k,q,_⟩|⟨o,k,q,_⟩
  ·exact .inl (.inl q)
  ·cases q
  ·cases q
 ·rcases e _ _ h with q|⟨o,k,q,_⟩|⟨o,k,q,_⟩
  ·exact .inl (.inr ⟨_,q⟩)
  ·cases q
  ·cases q
 ·exact .inr h
mutual
theorem B4.Ds {K:za}{H H':Hp}(e:Ik H H'):∀ {v:V}{d:D},B4 K H v d->B4 K H' v d
 |_,_,.Ax=>.Ax
 |_,_,.bl b=>.bl b
 |_,_,.int i=>.int i
 |_,_,.str x=>.str x
 |_,_,.tup h r=>.tup (e.tup h) (Ac.Ds e r)
 |_,_,.lst h r=>.lst (e.seq h) (Ac.Ds e r)
 |_,_,.E8 h r=>.E8 (e.dK h) (Ac.Ds e r)
 |_,_,.DL h r=>.DL (e.dT h) (Ac.Ds e r)
 |_,_,.ins n h r=>.ins n (e.ins h) (Ac.Ds e r)
 |_,_,.C9 h r=>.C9 h (e.ext r)
theorem Ac.Ds {K:za}{H H':Hp}(e:Ik H H'):∀ {vs:List V}{ds:List D},Ac K H vs ds->Ac K H' vs ds
 |_,_,.nil=>.nil
 |_,_,.cons h t=>.cons (B4.Ds e h) (Ac.Ds e t)
end
mutual
theorem B3.Ds {K:za}{H H':Hp}{P P':Addr->Prop}(sm:Ik (del H P) (del H' P')):∀ {v:V}{t:OT}{fp:List Addr},(∀a∈fp,H' a=H a)->B3 K H P v t fp->B3 K H' P' v t fp
 |_,_,_,_,.sh h=>.sh (h.Ds sm)
 |_,_,_,k,.lst h r=>.lst ((k _ zb).trans h) (Ao.Ds sm (λ a ha=>k a (zd _ ha)) r)
 |_,_,_,k,.tup h r=>.tup (sm.tup h) (Ao.Ds sm k r)
 |_,_,_,k,.dT h r=>.dT ((k _ zb).trans h) (Ao.Ds sm (λ a ha=>k a (zd _ ha)) r)
 |_,_,_,k,.dK h r=>.dK ((k _ zb).trans h) (Ao.Ds sm (λ a ha=>k a (zd _ ha)) r)
 |_,_,_,k,.ins n h r=>.ins n ((k _ zb).trans h) (Ao.Ds sm (λ a ha=>k a (zd _ ha)) r)
theorem Ao.Ds {K:za}{H H':Hp}{P P':Addr->Prop}(sm:Ik (del H P) (del H' P')):∀ {v:List V}{t:List OT}{fp:List Addr},(∀a∈fp,H' a=H a)->Ao K H P v t fp->Ao K H' P' v t fp
 |_,_,_,_,.nil=>.nil
 |_,_,_,k,.cons h r=>.cons (B3.Ds sm (λ a ha=>k a (zx _ ha)) h) (Ao.Ds sm (λ a ha=>k a (ze _ ha)) r)
end
theorem Bv.Ds {K:za}{H H':Hp}{P P':Addr->Prop}(sm:Ik (del H P) (del H' P')):∀ {ps:List Addr}{D4:List (List D)},(∀a∈ps,H' a=H a)->Bv K H P ps D4->Bv K H' P' ps D4
 |_,_,_,.nil=>.nil
 |_,_,k,.cons h r t=>.cons ((k _ zb).trans h) (r.Ds sm) (Bv.Ds sm (λ a ha=>k a (zd _ ha)) t)
theorem Bz.Ds {K:za}{H H':Hp}{P P':Addr->Prop}(sm:Ik (del H P) (del H' P')){c:Cl}{v:V}{fp:List Addr}(k:∀a∈fp,H' a=H a)(h:Bz K H P c v fp):Bz K H' P' c v fp:=by
 cases c with
 |val d=>exact h
 |own ds =>
  obtain⟨p,xs,rfl,rfl,h1,h2⟩:=h;exact⟨p,xs,rfl,rfl,(k p zb).trans h1,h2.Ds sm⟩
 |ow o =>
  cases o with
  |rows D4 =>
   obtain⟨p,ps,rfl,rfl,h1,h2⟩:=h;exact⟨p,ps,rfl,rfl,(k p zb).trans h1,h2.Ds sm λ a ha=>k a (zd _ ha)⟩
  |G5 p ds =>
   obtain⟨p,xs,rfl,rfl,h1,h2⟩:=h;exact⟨p,xs,rfl,rfl,(k p zb).trans h1,h2.Ds sm⟩
  |tree p t=>exact B3.Ds sm k h
theorem Ae.Ds {K:za}{P0:C6}{P:Addr->Prop}{H H':Hp}{σ:St}{ρ:A8}(E:Ae K P0 P H σ ρ)(k:∀a,P a->H' a=H a)(sm:Ik (del H P) (del H' P)):Ae K P0 P H' σ ρ:=by
 have key:∀(j:Nat) (d:Cl) (w:V) (fq:List Addr),ρ[j]?=some (some d)->σ[j]?=some (some w)->Bz K H' P d w fq->Bz K H P d w fq:=λ j d w fq hk sk ho=>by
  have io:Dd d=true:=by cases d<;>first|rfl|exact ho.elim
  obtain⟨w',aM,s2,o2,h3,_⟩:=E.ows j d hk io;rw[sk] at s2;cases s2;have o3:=o2.Ds sm λ a ha=>k a (h3 a ha).1;rw[ho.Bu o3];exact o2
 exact⟨E.sub,λ a h=>by obtain⟨o,z,y⟩:=E.BS a h;exact⟨o,(k a h).trans z,y⟩,λ i d h=>let ⟨v,h1,h2⟩:=E.val i d h;⟨v,h1,h2.Ds sm⟩,
  λ i c h io=>let ⟨v,fp,h1,h2,h3,h4⟩:=E.ows i c h io;⟨v,fp,h1,h2.Ds sm λ a ha=>k a (h3 a ha).1,h3,h4⟩,
  λ i j c c' v v' fp ad hi hj si sj h h' ab=>E.apart i j c c' v v' fp ad hi hj si sj (key i c v fp hi si h) (key j c' v' ad hj sj h') ab,E.len,E.pin⟩
def XB (H0:Hp)(H H':Hp):Prop:=H'=H\/∃a o kvs,H a=some (.dT kvs)/\H'=upd H a (.Cm o (.dT kvs))/\∀o u,H0 a≠some (.Cm o u)
def V5 (H0:Hp)(H H':Hp):Prop:=H'=H\/∃a o kvs,H a=some (.Cm o (.dT kvs))/\H'=upd H a (.dT kvs)/\∀o u,H0 a≠some (.Cm o u)
theorem Inv.Wn {X:Cx}{pins:List (Addr×Obj)}{σ:St}{H H':Hp}{s:Shared}(I:Inv X pins σ H s)(u:V5 X.H₀ H H'):Inv X pins σ H' s:=by
 rcases u with rfl|⟨a,o,kvs,e,rfl,n0⟩
 ·exact I
 ·exact I.NV e n0
noncomputable def Ux (H0:Hp)(t:TE):TE:=λ σ H Q=>t σ H λ v H2=>∃H3,V5 H0 H2 H3/\Q v H3
theorem Uy {X:Cx}{e:Expr}{t:TE}(h:PE X e t):PE X e (Ux X.H₀ t):=by
 intro pins s σ H Q I q;refine B2 (h pins s σ H _ I q) λ v s1 ⟨x,H1,I1,r1,q1⟩=>?_;obtain⟨H3,u,q⟩:=q1;exact⟨x,H3,I1.Wn u,r1,q⟩
def Uz (X:Cx)(WX:Str->Hp->Prop)(tg iter:Expr)(f:A8->M (List D)):Prop:=
 ∃wi,PI X tg iter wi/\∀P0 P σ H R ρ,Ae X.K P0 P H σ ρ->(match f ρ with | .ok ds=>∀J H1 H',Ab H H1->XB X.H₀ H1 H'->(∀b,P b->H' b=H1 b)->Ik (del H1 P) (del H' P)->Nv X.K J P H' ds->R J H' | .ex x=>∀H',Ab H H'->WX x H' | .bad=>False)->wi σ H R
noncomputable def N7 (d:D):M (List D):=match d with | .B0 true ks _=>.ok ks | _=>.bad
theorem HU {K:za}{H:Hp}:∀ks:List Key,Ac K H (ks.map kV) (ks.map BB)
 |[]=>.nil
 |k::ks=>.cons (RZ k) (HU ks)
theorem N8 {K:za}{P:Addr->Prop}{H:Hp}{a:Addr}{o:Obj}{kvs:List (List Key×V)}(nP:¬ P a)(e:H a=some (.Cm o (.dT kvs))):Nv K (Qm a o kvs) P H (kvs.map λ kv=>.tup (kv.1.map BB)):=by
 have at':∀ {P':Addr->Prop} {H':Hp},Ab (del H P) (del H' P')->H' a=some (.Cm o (.dT kvs)):=λ s=>(Ag (s a _ (by rw[Aj nP];exact e))).2;refine⟨λ i P' H' s hi=>⟨at' s,by rw[zf] at hi;exact hi⟩,λ i P' H' s hi=>⟨at' s,by rw[zf] at hi;exact hi⟩,λ i P' H' v bQ d s ht hd y=>?_⟩;obtain⟨rfl,kv,t,hk,rfl,gH⟩:=y;rw[zF,hk] at hd;cases hd;have nt:¬ P' t:=λ z=>by
  obtain⟨ob,z1,z2⟩:=ht t z;rw[gH] at z1;cases z1;exact (z2 _).1 rfl
 exact⟨Ab.refl _,.tup (by rw[Aj nt];exact gH) (HU _)⟩
section
variable {X:Cx}{WX:Str->Hp->Prop}{c:Bool}{P0:C6}{P:Addr->Prop}{H:Hp}{σ:St}{ρ:A8}{a b e tg iter:Expr}{f g:A8->M D}{ft:A8->M Bool}{pos:Pos}{gt:D->A8->M A8}{fi:A8->M (List D)}{es:List Expr}{fs:A8->M (List D)}
theorem Lh (ha:DE X WX true e f):Uz X WX tg e (λ ρ=>(f ρ).bind N7):=by
 obtain⟨ta,a1,a2⟩:=ha;refine⟨_,Qn a1,λ P0 P σ H R ρ E h=>?_⟩;dsimp only at h;refine a2 P0 P σ H _ ρ E ?_;cases q:f ρ with
 |bad|ex x=>rw[q] at h;exact h
 |ok d =>
  rw[q] at h;simp only[M.Aa] at h;unfold N7 at h;cases d with
  |B0 t ks vs =>
   intro v H1 s1 hv;cases hv with
   | @DL a kvs _ hh hl =>
    rcases hh with hh|⟨o,hh⟩
    ·obtain⟨nP,ea⟩:=Ag hh;refine⟨a,kvs,rfl,.inl ⟨ea,λ o n0=>h _ H1 _ s1 (.inr ⟨a,o,kvs,ea,rfl,n0⟩) (λ b hb=>A5 λ z=>nP (by rw[<-z];exact hb)) (λ b u q=>?_) (N8 nP Ad)⟩⟩;obtain⟨n,q'⟩:=Ag q;by_cases hb:b=a
     ·subst hb;rw[ea] at q';cases q';exact .inr (.inr ⟨o,kvs,rfl,by rw[Aj n];exact Ad⟩)
     ·exact .inl (by rw[Aj n,A5 hb];exact q')
    ·obtain⟨nP,ea⟩:=Ag hh;exact⟨a,kvs,rfl,.inr ⟨o,ea,h _ H1 H1 s1 (.inl rfl) (λ _ _=>rfl) (λ _ _ q=>.inl q) (N8 nP ea)⟩⟩
   |E8 _ _=>exact h.elim
  |_=>exact h.elim
theorem Qo {μ:List (Option Nat)}{wi:TI}{gg:TG}{tc:Shared->Hp->Addr->List Addr->TT}{te:Shared->Hp->Addr->List Addr->TE}{fe:A8->M D}
 (i2:∀P0 P σ H R ρ,Ae X.K P0 P H σ ρ->(match fi ρ with | .ok ds=>∀J H1 H',Ab H H1->XB X.H₀ H1 H'->(∀b,P b->H' b=H1 b)->Ik (del H1 P) (del H' P)->Nv X.K J P H' ds->R J H' | .ex x=>∀H',Ab H H'->WX x H' | .bad=>False)->wi σ H R)
 (g2:∀P0 P σ H Q ρ v d,Ae X.K P0 P H σ ρ->B4 X.K (del H P) v d->gG X.K P0 P H Q (gt d ρ)->gg v σ H Q)
 (t2:∀s H' C ex P0 P σ H Q ρ,Ae X.K P0 P H σ ρ->gT (λ _ _=>False) H Q (ft ρ)->tc s H' C ex σ H Q)
 (e2:∀s H' C ex P0 P σ H Q ρ,Ae X.K P0 P H σ ρ->gV X.K (λ _ _=>False) (Lv true P0 P) H Q (fe ρ)->te s H' C ex σ H Q) {Q:VK}
 (E:Ae X.K P0 P H σ ρ) (h:RG X.K WX P H Q ((fi ρ).bind λ ds=>if ds.length<=1000 then J9 (Bb gt ft fe ds (AU μ ρ)) else .bad)):Ux X.H₀ (MD wi μ gg tc te) σ H Q:=by
 unfold Ux;refine i2 P0 P σ H _ ρ E ?_;cases q:fi ρ with
 |bad|ex x=>rw[q] at h;exact h
 |ok ds =>
  rw[q] at h;simp only[M.Aa] at h;by_cases hd:¬ ds.length<=1000
  ·rw[if_neg hd] at h;exact h.elim
  have hd:ds.length<=1000:=by omega
  rw[if_pos hd] at h;intro J H0 H1 s0 fz kP rz ok s C ex;cases qc:Bb gt ft fe ds (AU μ ρ) with
  |bad|ex x=>rw[qc] at h;exact h.elim
  |ok total =>
   rw[qc] at h;unfold J9 at h;dsimp only at h;have E1:Ae X.K P0 P H1 σ ρ:=(E.same s0).Ds kP rz;refine⟨λ i m ys H2=>m=ds.length-i/\i<=ds.length/\ys.length<=i/\Ab H1 H2/\∃es rest,Ac X.K (del H2 P) ys es/\Bb gt ft fe (ds.drop i) (AU μ ρ)=.ok rest/\es++rest=total,
    ⟨ds.length,by simp,zT _,zm _,Ab.refl _,[],total,.nil,by rw[List.drop_zero];exact qc,rfl⟩,?_⟩
   rintro i m ys H2 ⟨rfl,hi,hy,s2,es,rest,aN,ae,aq⟩;by_cases ag:i<ds.length
   ·refine .inr ⟨ok.go i P H2 s2.del ag,Nat.lt_of_le_of_lt hy (AZ (by omega)),λ a4 H'=>i+1<=ds.length/\a4.length<=i+1/\Ab H1 H'/\∃es rest,Ac X.K (del H' P) a4 es/\Bb gt ft fe (ds.drop (i+1)) (AU μ ρ)=.ok rest/\es++rest=total,λ a4 H' hq=>⟨ds.length-(i+1),by omega,rfl,hq.1,hq.2.1,hq.2.2.1,hq.2.2.2⟩,λ v H3 y=>?_⟩;have E2:=E1.same s2;obtain⟨s3,hv⟩:=ok.QS i P H2 v H3 ds[i] s2.del E2.BS (zr ag) y;rw[Dh ag,Bb] at ae;have E3:=(E2.same s3).block μ;refine g2 P0 P _ H3 _ (AU μ ρ) v ds[i] E3 hv ?_;cases q1:gt ds[i] (AU μ ρ) with
    |bad|ex x=>rw[q1] at ae;cases ae
    |ok ρ1 =>
     rw[q1] at ae;dsimp only at ae;intro σ4 E4;refine t2 s H1 C ex P0 P σ4 H3 _ ρ1 E4 ?_;cases q2:ft ρ1 with
     |bad|ex x=>rw[q2] at ae;cases ae
     |ok k =>
      rw[q2] at ae;dsimp only at ae;intro H5 s5;cases k with
      |false =>
       simp only[zu,if_false] at ae ⊢;exact⟨ag,by omega,(s2.trans s3).trans s5,es,rest,(aN.mono s3.del).mono s5.del,ae,aq⟩
      |true =>
       simp only[if_true] at ae ⊢;refine e2 s H1 C ex P0 P σ4 H5 _ ρ1 (E4.same s5) ?_;cases q3:fe ρ1 with
       |bad|ex x=>rw[q3] at ae;cases ae
       |ok y' =>
        rw[q3] at ae;dsimp only at ae;cases q4:Bb gt ft fe (ds.drop (i+1)) (AU μ ρ) with
        |bad|ex x=>rw[q4] at ae;cases ae
        |ok eg =>
         rw[q4] at ae;cases ae;intro w H6 s6 hw;refine⟨ag,by rw[zV,yr];omega,((s2.trans s3).trans s5).trans s6,es++[y'],eg,(((aN.mono s3.del).mono s5.del).mono s6.del).snoc hw,rfl,?_⟩;rw[List.append_assoc];exact aq
   ·have e:i=ds.length:=by omega
    subst e;rw[y7,Bb] at ae;cases ae;rw[ym] at aq;subst aq;refine .inl ⟨ok.stop _ P H2 s2.del (zm _),λ D0 hn=>?_⟩;rcases fz with rfl|⟨a,o,kvs,ea,rfl,n0⟩
    ·exact⟨_,.inl rfl,h.Iv (s0.trans s2) aN D0 hn⟩
    ·have e2:H2 a=some (.Cm o (.dT kvs)):=s2 a _ Ad;have nP:¬ P a:=λ z=>by
      have:=kP a z;rw[Ad,ea] at this;cases this
     have ab:a≠D0:=λ z=>by rw[<-z,e2] at hn;cases hn
     have ec:upd (upd H2 D0 (.lst ys)) a (.dT kvs)=upd (upd H2 a (.dT kvs)) D0 (.lst ys):=by
      funext b;by_cases hb:b=a
      ·subst hb;rw[Ad,A5 ab,Ad]
      ·rw[A5 hb];by_cases hd:b=D0
       ·subst hd;rw[Ad,Ad]
       ·rw[A5 hd,A5 hd,A5 hb]
     refine⟨upd (upd H2 D0 (.lst ys)) a (.dT kvs),.inr ⟨a,o,kvs,by rw[A5 ab];exact e2,rfl,n0⟩,?_⟩;rw[ec];have su:Ab H (upd H2 a (.dT kvs)):=s0.trans λ b u q=>by
      by_cases hb:b=a
      ·subst hb;rw[ea] at q;cases q;exact Ad
      ·rw[A5 hb];exact s2 b u (by rw[A5 hb];exact q)
     refine h.Iv su (aN.Ds λ b u q=>?_) D0 (by rw[A5 (zQ ab)];exact hn);by_cases hb:b=a
     ·subst hb;rw[Aj nP,e2] at q;cases q;exact .inr (.inl ⟨o,kvs,rfl,by rw[Aj nP];exact Ad⟩)
     ·refine .inl ?_;obtain⟨n,q'⟩:=Ag q;rw[Aj n,A5 hb];exact q'
theorem NW {scope:Scope}{NB:List Str}{ifs:List Expr}{elt:Expr}{fe:A8->M D}(μ:List (Option Nat))(hc:X.calm=true)(hi:Uz X WX tg iter fi)(am:F7 scope X.env.scope=true)(aK:KD X.N NB scope μ=true)(hg:Xn X scope NB μ tg gt)
 (ht:∀s H C ex,Xo (blockOf X s H scope C NB ex) ifs ft) (he:∀s H C ex,DE (blockOf X s H scope C NB ex) (λ _ _=>False) true elt fe) (hs:∀x,foldedSetIterable iter X.env x=pure x:=by intro _;rfl):
 DN X WX (.ListComp elt [⟨tg,iter,ifs,0⟩] scope pos) (λ ρ=>(fi ρ).bind λ ds=>if ds.length<=1000 then J9 (Bb gt ft fe ds (AU μ ρ)) else .bad):=by
 obtain⟨wi,i1,i2⟩:=hi;obtain⟨gg,g1,gk,g2⟩:=hg;refine⟨_,Uy (Rk hc i1 am aK gk (λ s H C ex=>⟨g1 s H C ex,(zc (ht s H C ex)).1,(zc (he s H C ex)).1⟩) hs),λ P0 P σ H Q ρ E h=>?_⟩;exact Qo i2 g2 (λ s H' C ex P0 P σ H Q ρ E h=>(zc (ht s H' C ex)).2 P0 P σ H Q ρ E h) (λ s H' C ex P0 P σ H Q ρ E h=>(zc (he s H' C ex)).2 P0 P σ H Q ρ E h) E h
end
noncomputable def NX (H0:Hp)(Z:Ends):Ends:={nx:=λ σ H=>∃H3,V5 H0 H H3/\Z.nx σ H3,bk:=λ σ H=>∃H3,V5 H0 H H3/\Z.bk σ H3,ct:=λ σ H=>∃H3,V5 H0 H H3/\Z.ct σ H3,rt:=λ v H=>∃H3,V5 H0 H H3/\Z.rt v H3}
theorem UA {X:Cx}{pins:List (Addr×Obj)}{D:Ends}{f:Flow}{s:Shared}(h:SP X pins (NX X.H₀ D) f s):SP X pins D f s:=by
 cases f with
 |next|brk|cont=>obtain⟨σ,H,I,H3,u,q⟩:=h;exact⟨σ,H3,I.Wn u,q⟩
 |ret u=>obtain⟨v,σ,H,I,r,H3,u,q⟩:=h;exact⟨v,σ,H3,I.Wn u,r,q⟩
theorem gS.Yh {K:za}{WX:Str->Hp->Prop}{P0:C6}{P:Addr->Prop}{H0 H H1:Hp}{Z:Ends}{m:M Out}(h0:∀a,P0 a->P a)(fz:XB H0 H H1)(kP:∀b,P b->H1 b=H b)(h:gS K WX P0 P H Z (Uu m)):gS K WX P0 P H1 (NX H0 Z) m:=by
 rcases fz with rfl|⟨a,o,kvs,ea,rfl,n0⟩
 ·cases m with
  |bad=>exact h
  |ex x=>exact h.elim
  |ok u =>
   cases u with
   |next ρ=>exact λ σ2 H2 P2 t2 hv=>⟨_,.inl rfl,h σ2 H2 P2 t2 hv⟩
   |ret d=>exact λ v H2 P2 t2 hv=>⟨_,.inl rfl,h v H2 P2 t2 hv⟩
   |_=>exact h.elim
 ·have nP:¬ P a:=λ z=>by
   have:=kP a z;rw[Ad,ea] at this;cases this
  have back:∀ {H2:Hp} {P2:Addr->Prop},Tr P0 P (upd H a (.Cm o (.dT kvs))) P2 H2->¬ P2 a/\H2 a=some (.Cm o (.dT kvs))/\Tr P0 P H P2 (upd H2 a (.dT kvs))/\Ik (del H2 P2) (del (upd H2 a (.dT kvs)) P2)/\(∀b,P2 b->upd H2 a (.dT kvs) b=H2 b):=fun {H2 P2} t2=>by
   obtain⟨n2,e2⟩:=Ag (t2.1 a (.Cm o (.dT kvs)) (by rw[Aj nP];exact Ad));refine⟨n2,e2,⟨λ b u q=>?_,λ b hb=>?_⟩,λ b u q=>?_,λ b hb=>A5 λ z=>n2 (by rw[<-z];exact hb)⟩
   ·obtain⟨nb,q'⟩:=Ag q;by_cases hb:b=a
    ·subst hb;rw[ea] at q';cases q';rw[Aj n2];exact Ad
    ·obtain⟨m1,m2⟩:=Ag (t2.1 b u (by rw[Aj nb,A5 hb];exact q'));rw[Aj m1,A5 hb];exact m2
   ·have aE:b≠a:=λ z=>nP (by rw[<-z];exact h0 b hb);have:=t2.2 b hb;rw[A5 aE] at this ⊢;exact this
   ·obtain⟨nb,q'⟩:=Ag q;by_cases hb:b=a
    ·subst hb;rw[e2] at q';cases q';exact .inr (.inl ⟨o,kvs,rfl,by rw[Aj n2];exact Ad⟩)
    ·exact .inl (by rw[Aj nb,A5 hb];exact q')
  cases m with
  |bad=>exact h
  |ex x=>exact h.elim
  |ok u =>
   cases u with
   |next ρ =>
    intro σ2 H2 P2 t2 hv;obtain⟨n2,e2,t3,rz,k2⟩:=back t2;exact⟨_,.inr ⟨a,o,kvs,e2,rfl,n0⟩,h σ2 _ P2 t3 (hv.Ds k2 rz)⟩
   |ret d =>
    intro v H2 P2 t2 hv;obtain⟨n2,e2,t3,rz,k2⟩:=back t2;refine⟨_,.inr ⟨a,o,kvs,e2,rfl,n0⟩,h v _ P2 t3 (hv.Ds λ b u q=>?_)⟩;obtain⟨nb,q'⟩:=Ag q;by_cases hb:b=a
    ·subst hb;rw[e2] at q';cases q';exact .inr (.inl ⟨o,kvs,rfl,by rw[Aj nb];exact Ad⟩)
    ·exact .inl (by rw[Aj nb,A5 hb];exact q')
   |_=>exact h.elim
section
variable {X:Cx}{WX:Str->Hp->Prop}{tg iter:Expr}{pos:Pos}{gt:D->A8->M A8}{gb:A8->M Out}{fi:A8->M (List D)}
theorem Qp {body:List Stmt}(hp:PassesOwn (model X.prog X.w) X.A X.env X.xe)(hc:X.calm=true)(hi:Uz X WX tg iter fi)(hg:DG X tg gt)(hb:MH X WX body gb)(hs:∀x,foldedSetIterable iter X.env x=pure x:=by intro _;rfl):
 DS X WX (.For tg iter body [] pos) (λ ρ=>(fi ρ).bind λ ds=>Uu (forM gt gb ds ρ)):=by
 obtain⟨wi,i1,i2⟩:=hi;obtain⟨t,a1,a2⟩:=hg;obtain⟨tb,b1,b2⟩:=hb;have ps:=Ou (pos:=pos) hp hc i1 a1 b1 hs;refine⟨λ Z σ H=>_,λ pins s σ H Z I q=>wpAny_mono (ps pins s σ H (NX X.H₀ Z) I q) (λ _ _ h=>UA h) λ _ _ h=>h,λ P0 P σ H Z ρ E h=>?_⟩;dsimp only at h;refine i2 P0 P σ H _ ρ E ?_;cases q:fi ρ with
 |bad=>rw[q] at h;exact h
 |ex x=>rw[q] at h;exact λ H' s=>h H' P (E.tr s)
 |ok ds =>
  rw[q] at h;simp only[M.Aa] at h;intro J H0 H1 s0 fz kP rz ok;have E1:Ae X.K P0 P H1 σ ρ:=(E.same s0).Ds kP rz;have h1:gS X.K WX P0 P H1 (NX X.H₀ Z) (forM gt gb ds ρ):=gS.Yh E.sub fz kP (h.tr (E.tr s0));refine⟨λ i m σ' H'=>m=ds.length-i/\i<=ds.length/\∃P' ρ',Tr P0 P H1 P' H'/\Ae X.K P0 P' H' σ' ρ'/\gS X.K WX P0 P' H' (NX X.H₀ Z) (forM gt gb (ds.drop i) ρ'),
   ⟨ds.length,by simp,zT _,P,ρ,Tr.refl,E1,by rw[List.drop_zero];exact h1⟩,?_⟩
  rintro i m σ' H' ⟨rfl,hi,P',ρ',t',E',g'⟩;by_cases ag:i<ds.length
  ·refine .inr ⟨ok.go i P' H' t'.1 ag,λ σ2 H2=>i+1<=ds.length/\∃P2 ρ2,Tr P0 P H1 P2 H2/\Ae X.K P0 P2 H2 σ2 ρ2/\gS X.K WX P0 P2 H2 (NX X.H₀ Z) (forM gt gb (ds.drop (i+1)) ρ2),λ σ2 H2 hq=>⟨ds.length-(i+1),by omega,rfl,hq.1,hq.2⟩,λ v H2 y=>?_⟩;obtain⟨s2,hv⟩:=ok.QS i P' H' v H2 ds[i] t'.1 E'.BS (zr ag) y;rw[Dh ag,forM] at g';have E2:=E'.same s2;refine a2 P0 P' σ' H2 _ ρ' v ds[i] E2 hv ?_;cases q1:gt ds[i] ρ' with
   |bad=>rw[q1] at g';exact g'
   |ex x=>rw[q1] at g';exact g'.elim
   |ok ρ1 =>
    rw[q1] at g';dsimp only at g';intro σ3 E3;refine b2 P0 P' σ3 H2 _ ρ1 E3 ?_;have tt:Tr P0 P H1 P' H2:=t'.trans (E'.tr s2);cases q2:gb ρ1 with
    |bad=>rw[q2] at g';exact g'
    |ex x=>rw[q2] at g';exact gS.tr (m:=.ex x) g' (E'.tr s2)
    |ok o =>
     rw[q2] at g';cases o with
     |ret d=>exact gS.tr (m:=.ok (.ret d)) g' (E'.tr s2)
     |Bm d=>exact gS.tr (m:=.ok (.Bm d)) g' (E'.tr s2)
     |C7 d ρ2=>exact gS.tr (m:=.ok (.C7 d ρ2)) g' (E'.tr s2)
     |next ρ2|cont ρ2=>exact λ σ4 H4 P4 t4 E4=>⟨ag,P4,ρ2,tt.trans t4,E4,gS.tr g' ((E'.tr s2).trans t4)⟩
     |brk ρ2=>exact λ σ4 H4 P4 t4 E4=>g' σ4 H4 P4 ((E'.tr s2).trans t4) E4
  ·have e:i=ds.length:=by omega
   subst e;refine .inl ⟨ok.stop _ P' H' t'.1 (zm _),?_⟩;rw[y7,forM] at g';exact g' σ' H' P' Tr.refl E'
end
theorem S5 {P:Program}{w:World}{d:Addr}(hs:(d==sysModules)=false):MeetsIn P w (Builtin.«dict.__len__» ⟨[.ref d],[]⟩) (λ _ R s=>∃es ep,NU s.heap d es ep/\R (.ok (.ret (.int es.size s.toks))) {s with toks:=s.toks+1}):=by
 apply MeetsIn.of_wp;rintro A R s ⟨es,ep,x,q⟩;obtain⟨o,h1,_,h3⟩:=x.at';refine wpAny_bind (m:=dictSize d) ?_;rw[dictSize];apply wpAny_bind;apply wpAny_dictEntries h1 h3;refine wpAny_pure ?_;refine wpAny_bind (m:=Builtin.Dict.pendingCount d) ?_;apply wpAny_pendingCount_other hs;exact wpAny_ret_mkInt q
theorem UB {P:Program}{w:World}{A:Around}{E:Value->Shared->Prop}{s:Shared}{d:Addr}{es:Array DictEntry}{ep:Nat}{Q:Value->Shared->Prop}(hs:(d==sysModules)=false)(x:NU s.heap d es ep)(hz:es.size<2^63)
 (q:Q (.int es.size (s.toks+1)) {s with toks:=s.toks+1+1}):wpAny (model P w) A (call (.builtin "len") [.ref d]) Q E s:=by
 apply Calls.call_function_entry kind_len plain_len entry_len (args_len1 _);rw[Builtin.«len»];refine wpAny_bind (m:=oneArg "len" _) (wpAny_pure (a:=yp d) ?_);refine wpAny_bind (m:=callSpecial? (.ref d) (Str.ofString "__len__")) ?_;apply wpAny_callSpecial?_slot (name:=Str.ofString "__len__") x.ty F.slot_dict_len;refine call_meetsIn F.slot_dict_len x.ty F.entry_dict_len (F.args_dict_len_1 _) (S5 hs) ⟨es,ep,x,?_⟩;show wpAny _ _ _ _ _ {s with toks:=s.toks+1};refine wpAny_bind (wpAny_holding (wpAny_pure ?_));apply wpAny_bind;apply wpAny_letGo;have z:¬ (es.size:Int)<0:=by omega
 have y:¬ (es.size:Int) >= 2^63:=by omega
 show wpAny _ _ (ite ((es.size:Int)<0) _ _) _ _ _;rw[if_neg z];show wpAny _ _ (ite ((es.size:Int) >= 2^63) _ _) _ _ _;rw[if_neg y];apply wpAny_bind;exact wpAny_mkInt (wpAny_pure ⟨_,rfl,q⟩)
section
variable {X:Cx}{WX:Str->Hp->Prop}{c:Bool}{P0:C6}{P:Addr->Prop}{H:Hp}{σ:St}{ρ:A8}{a b e:Expr}{f g:A8->M D}{pos p:Pos}{i:Nat}
theorem NY:FK X (.builtin "len") (λ xs H Q=>∃a kvs,xs=[V.ref a]/\Rd H a (.dT kvs)/\Q (.int kvs.length) H):=by
 intro pins s σ H xs us Q I r h;obtain⟨a,kvs,rfl,ha,q⟩:=h;obtain⟨u,rfl,ru⟩:=vals1 r;cases ru;obtain⟨z,y,xs,rl,o,es,ep,h1,h2,h3,h4,_⟩:=(show AF X.prog X.w H s.heap a (.dT kvs) from OH I.As ha);have hl:es.size=kvs.length:=by rw[size_of_entries h4];exact (Paired.length rl).symm
 refine UB y ⟨o,h1,h2,h3⟩ (by rw[sizeLine_eq] at z;omega) ?_;rw[hl];exact⟨.int kvs.length,H,I.tok _,⟨_,rfl⟩,q⟩
noncomputable def HV (ds:List D):M D:=match ds with
 |[.B0 true ks _]=>.ok (.int ks.length)
 |_=>.bad
theorem S6:KO X.K WX (λ xs H Q=>∃a kvs,xs=[V.ref a]/\Rd H a (.dT kvs)/\Q (.int kvs.length) H) HV:=by
 intro P H ds vs Q ht hl h;unfold HV at h;split at h
 ·obtain⟨v,rfl,hv⟩:=hl.one;cases hv with
  | @DL a kvs _ hh hl=>exact⟨a,kvs,rfl,hh.B9,by have:=h _ H (Ab.refl H) (.int _);rw[zf] at this;exact this⟩
 ·exact h.elim
theorem Li (hg:Gl X "len")(hm:X.mg "len" = none)(ha:DE X WX c e f)(hs:starEach [e] X.env=[(false,eval e X.env)]:=by rfl):DE X WX c (.Call (.Name "len" p) [e] [] pos) (λ ρ=>((f ρ).bind λ d=>(M.ok []).bind λ ds=>.ok (d::ds)).bind HV):=
 GI NY S6 hg hm PySem.boot_len (A2 ha Ah hs) (he:=hs)
end
noncomputable def BE (m:Nat)(R:RA):List Co:=(yy m).map λ i:Nat=>Av R (i:Int)
noncomputable def bt (R:RA)(y:Int)(v:Int×Int):Bool:=match Av R y with
 |none=>true
 |some z=>decide (v.1<z.1\/(v.1=z.1/\v.2<z.2))
theorem Wo {R:RA}{y:Int}{v:Int×Int}(h:bt R y v=true):BR (some v) (Av R y)/\some v≠Av R y:=by
 unfold bt at h;cases q:Av R y with
 |none=>exact⟨trivial,λ z=>by cases z⟩
 |some z =>
  rw[q] at h;have h':v.1<z.1\/(v.1=z.1/\v.2<z.2):=by simpa using h
  refine⟨by simp only[BR];omega,λ e=>?_⟩;cases e;omega
theorem Sy {R:RA}{y:Int}{v:Int×Int}(h:bt R y v=false):BR (Av R y) (some v):=by
 unfold bt at h;cases q:Av R y with
 |none=>rw[q] at h;cases h
 |some z =>
  rw[q] at h;have h':¬ (v.1<z.1\/(v.1=z.1/\v.2<z.2)):=by simpa using h
  simp only[BR];omega
theorem Ml {m:Nat}{R:RA}{y:Int}{v:Int×Int}(h0:0<=y):BE m (B8 R y v)=(BE m R).set y.toNat (some v):=by
 unfold BE;apply List.ext_getElem?;intro i;rw[List.getElem?_set,zF,zF,zf,List.length_range];by_cases hi:i<m
 ·rw[List.getElem?_range hi,zY,zY,Ca];by_cases e:y.toNat=i
  ·rw[if_pos e,if_pos (by omega),if_pos (by omega)]
  ·rw[if_neg e,if_neg (by omega)]
 ·rw[List.getElem?_eq_none (by rw[List.length_range];omega)];by_cases e:y.toNat=i
  ·rw[if_pos e,if_neg (by omega)];rfl
  ·rw[if_neg e];rfl
theorem NZ {m:Nat}{R:RA}{y:Int}(h0:0<=y)(h1:y<m):(BE m R)[y.toNat]?=some (Av R y):=by
 unfold BE;rw[zF,List.getElem?_range (by omega),zY,Int.toNat_of_nonneg h0]
structure QG (m:Nat)(rs:List Road)(s:Int)(W:List Int)(R:RA):Prop where
 nd:(R.map zG).Nodup
 rg:∀k∈R.map zG,0<=k/\k<(m:Int)
 sd:∀y c,Av R y=some c->Wi rs s W y c
 st:BR (Av R s) (some (0,0))
def WJ (rs:List Road)(s:Int)(W:List Int)(R:RA):Prop:=∀r∈rs,∀l c,r.l=some l->Av R r.a=some c->(r.a=s\/r.a∈W)->BR (Av R r.b) (some (c.1+l,c.2+1))
section
variable {m:Nat}{rs:List Road}{s:Int}{W:List Int}{R:RA}
theorem QG.start (h0:0<=s)(h1:s<m):QG m rs s W [(s,(0,0))]:=by
 have e:∀y,Av ([(s,(0,0))]:RA) y=if s=y then some (0,0) else none:=λ y=>rfl
 refine⟨by simp,λ k hk=>by simp at hk;omega,λ y c h=>?_,?_⟩
 ·rw[e] at h;by_cases q:s=y
  ·rw[if_pos q] at h;cases h;subst q;exact .nil
  ·rw[if_neg q] at h;cases h
 ·rw[e,if_pos rfl];exact BM _
theorem Wi.nn (As:∀r∈rs,Fz m r){y:Int}{c:Int×Int}(h:Wi rs s W y c):0<=c.1/\0<=c.2:=by
 induction h with
 |nil=>exact⟨Int.le_refl _,Int.le_refl _⟩
 | @snoc x c r l _ h1 h2 h3 h4 ih =>
  have:=(As r h1).l0 l h3;exact⟨by dsimp only;omega,by dsimp only;omega⟩
theorem QG.put (h:QG m rs s W R)(As:∀r∈rs,Fz m r){r:Road}{l:Int}{c:Int×Int}(hr:r∈rs)(hl:r.l=some l)(hc:Av R r.a=some c)(hi:r.a=s\/r.a∈W)(hb:bt R r.b (c.1+l,c.2+1)=true):
 QG m rs s W (B8 R r.b (c.1+l,c.2+1))/\GV ltN (BE m (B8 R r.b (c.1+l,c.2+1))) (BE m R):=by
 have ok:=As r hr;have wi:Wi rs s W r.b (c.1+l,c.2+1):=.snoc (h.sd _ _ hc) hr rfl hl hi;obtain⟨b1,b2⟩:=Wo hb;refine⟨⟨DZ h.nd,λ k hk=>?_,λ y d hd=>?_,?_⟩,?_⟩
 ·rcases HQ hk with hk|hk
  ·exact h.rg k hk
  ·rw[hk];exact⟨ok.b0,ok.b1⟩
 ·rw[Ca] at hd;by_cases e:y=r.b
  ·rw[if_pos e] at hd;cases hd;rw[e];exact wi
  ·rw[if_neg e] at hd;exact h.sd y d hd
 ·rw[Ca];by_cases e:s=r.b
  ·rw[if_pos e];rw[<-e] at b1;exact AK b1 h.st
  ·rw[if_neg e];exact h.st
 ·rw[Ml ok.b0];exact MK ltN (NZ ok.b0 ok.b1) ⟨by have:=wi.nn As;simp only[NN];omega,b1,b2⟩
structure V6 (m:Nat)(rs:List Road)(s:Int)(W:List Int)(R:RA):Prop where
 nd:(R.map zG).Nodup
 rg:∀k∈R.map zG,0<=k/\k<(m:Int)
 sd:∀y c,Av R y=some c->Wi rs s W y c
 le:∀y c,Wi rs s W y c->BR (Av R y) (some c)
theorem QG.fin (h:QG m rs s W R)(hc:WJ rs s W R):V6 m rs s W R:=by
 refine⟨h.nd,h.rg,h.sd,λ y c hw=>?_⟩;induction hw with
 |nil=>exact h.st
 | @snoc x c r l _ h1 h2 h3 h4 ih =>
  obtain⟨d,hd,hle⟩:=K3 ih;rw[<-h2] at hd h4;refine AK (hc r h1 l d h3 hd h4) ?_;simp only[BR,O8] at *;omega
end
theorem UC {m:Nat}{rs:List Road}{L:List Int}(hL:L.Perm (B5 m))(As:∀r∈rs,Fz m r/\r.a≠r.b){x y:Int}(hx:x∈L)(hy:y∈L)(ab:x≠y){R:RA}(h:V6 m rs x (L.take (min (AS L x) (AS L y))) R):Av R y=A3 (Am rs L) (x,y):=by
 have a:∀c,A3 (Am rs L) (x,y)=some c->BR (Av R y) (some c):=λ c e=>h.le y c (Mi hL As _ hx hy ab rfl e);have b:∀c,Av R y=some c->BR (A3 (Am rs L) (x,y)) (some c):=λ c e=>Qi hL As hx hy ab (h.sd y c e);cases e1:Av R y with
 |none =>
  cases e2:A3 (Am rs L) (x,y) with
  |none=>rfl
  |some c=>have:=a c e2;rw[e1] at this;exact this.elim
 |some c =>
  cases e2:A3 (Am rs L) (x,y) with
  |none=>have:=b c e1;rw[e2] at this;exact this.elim
  |some c' =>
   have p:=a c' e2;have q:=b c e1;rw[e1] at p;rw[e2] at q;exact HM p q
theorem UE (C:CA)(p:Int×Int)(c:Int×Int):putD (C.map λ kv=>pD kv.1) (C.map λ kv=>cst (some kv.2)) (pD p) (cst (some c))=((B8 C p c).map (λ kv=>pD kv.1),(B8 C p c).map λ kv=>cst (some kv.2)):=EU (kf:=pD) (vf:=λ c=>cst (some c)) Cg C p c
theorem O0 {C:CA}{p:Option Nat}{ρ:A8}:Cu 0 (some (.ow (.tree p (QF C)))::ρ) []=.ok (true,C.map (λ kv=>pD kv.1),C.map λ kv=>cst (some kv.2)):=BD
theorem N9 (a b:Nat):(if (b:Int)<a then (b:Int) else a)=((min a b:Nat):Int):=by split<;>omega
theorem Gj {α:Type}{a b:Prop}[Decidable a][Decidable b]{x y:α}(h:a↔b):(if a then x else y)=if b then x else y:=by
 by_cases e:a
 ·rw[if_pos e,if_pos (h.mp e)]
 ·rw[if_neg e,if_neg (λ z=>e (h.mpr z))]
structure Il (L:List Int)(A:LA)(U:List Int)(u:Int)(V:List Int)(C:CA):Prop where
 nd:(C.map zG).Nodup
 at':∀x y,Av C (x,y)=if (x∈U\/(x=u/\y∈V))/\y∈L/\x≠y then A3 A (x,y) else none
section
variable {L U V:List Int}{A:LA}{u w:Int}{C:CA}
theorem Il.start:Il L A [] u [] []:=⟨by simp,λ x y=>by rw[if_neg (λ h=>by rcases h.1 with z | z;cases z;cases z.2)];rfl⟩
theorem Il.none (h:Il L A U u V C)(hw:u=w\/A3 A (u,w)=none):Il L A U u (V++[w]) C:=by
 refine⟨h.nd,λ x y=>?_⟩;rw[h.at'];by_cases e:x=u/\y=w
 ·obtain⟨rfl,rfl⟩:=e;rcases hw with hw|hw
  ·rw[if_neg (λ z=>z.2.2 hw),if_neg (λ z=>z.2.2 hw)]
  ·rw[hw];split<;>split<;>rfl
 ·have:(x∈U\/(x=u/\y∈V))↔(x∈U\/(x=u/\y∈V++[w])):=by
   rw[zC,zj];constructor
   ·rintro (z|z)
    ·exact .inl z
    ·exact .inr ⟨z.1,.inl z.2⟩
   ·rintro (z|⟨z1,z2|z2⟩)
    ·exact .inl z
    ·exact .inr ⟨z1,z2⟩
    ·exact absurd ⟨z1,z2⟩ e
  exact Gj (and_congr this Iff.rfl)
theorem Il.put (h:Il L A U u V C){c:Int×Int}(hc:A3 A (u,w)=some c)(hw:w∈L)(ab:u≠w):Il L A U u (V++[w]) (B8 C (u,w) c):=by
 refine⟨DZ h.nd,λ x y=>?_⟩;rw[Ca];by_cases e:(x,y)=(u,w)
 ·cases e;rw[if_pos rfl,if_pos ⟨.inr ⟨rfl,by simp⟩,hw,ab⟩,hc]
 ·rw[if_neg e,h.at'];have:(x∈U\/(x=u/\y∈V))↔(x∈U\/(x=u/\y∈V++[w])):=by
   rw[zC,zj];constructor
   ·rintro (z|z)
    ·exact .inl z
    ·exact .inr ⟨z.1,.inl z.2⟩
   ·rintro (z|⟨z1,z2|z2⟩)
    ·exact .inl z
    ·exact .inr ⟨z1,z2⟩
    ·exact absurd (by rw[z1,z2]) e
  exact Gj (and_congr this Iff.rfl)
theorem Il.next (h:Il L A U u L C)(u':Int):Il L A (U++[u]) u' [] C:=by
 refine⟨h.nd,λ x y=>?_⟩;rw[h.at'];by_cases hy:y∈L
 ·have:(x∈U\/(x=u/\y∈L))↔(x∈U++[u]\/(x=u'/\y∈([]:List Int))):=by
   rw[zC,zj];constructor
   ·rintro (z|z)
    ·exact .inl (.inl z)
    ·exact .inl (.inr z.1)
   ·rintro ((z|z)|z)
    ·exact .inl z
    ·exact .inr ⟨z,hy⟩
    ·cases z.2
  exact Gj (and_congr this Iff.rfl)
 ·rw[if_neg (λ z=>hy z.2.1),if_neg (λ z=>hy z.2.1)]
theorem Il.any (h:Il L A U u [] C)(u':Int):Il L A U u' [] C:=⟨h.nd,λ x y=>by
 rw[h.at'];have:(x∈U\/(x=u/\y∈([]:List Int)))↔(x∈U\/(x=u'/\y∈([]:List Int))):=⟨(λ z=>z.imp id λ q=>by cases q.2),(λ z=>z.imp id λ q=>by cases q.2)⟩;exact Gj (and_congr this Iff.rfl)⟩
theorem Il.len {m:Nat}(h:Il L A U u V C)(hA:Dp m A)(hm:m<=20):C.length<1000:=by
 have:=DY h.nd (u:=A.map zG) λ p hp=>by
  rw[<-Cb] at hp ⊢;obtain⟨x,y⟩:=p;rw[h.at'] at hp;split at hp
  ·unfold A3 at hp;cases q:Av A (x,y) with
   |none=>rw[q] at hp;cases hp
   |some z=>rfl
  ·cases hp
 rw[zf,zf] at this;have:=hA.len hm;omega
theorem Il.fin {m:Nat}{rs:List Road}(hL:L.Perm (B5 m))(As:∀r∈rs,Fz m r/\r.a≠r.b)(h:Il L (Am rs L) L u [] C)(p:Int×Int):Av C p=A3 (Am rs L) p:=by
 obtain⟨x,y⟩:=p;rw[h.at'];by_cases e:(x∈L\/(x=u/\y∈([]:List Int)))/\y∈L/\x≠y
 ·rw[if_pos e]
 ·rw[if_neg e];cases q:A3 (Am rs L) (x,y) with
  |none=>rfl
  |some c =>
   obtain⟨_,h2,h3,h4⟩:=(BN hL As).2.snd x y c q;exact absurd ⟨.inl ((AR hL).mpr h3),(AR hL).mpr h4,h2⟩ e
end
noncomputable def Qq (rs:List Road)(p c:Int×Int):Bool:=rs.any λ r=>decide (r.a=p.1/\r.b=p.2/\Ex r=some c)
noncomputable def LC (A:LA):D:=.B0 true (A.map λ kv=>pD kv.1) (A.map λ kv=>AX kv.2.2)
noncomputable def WK (A:LA):OT:=.B0 true (A.map λ kv=>pD kv.1) ((A.map λ kv=>AX kv.2.2).map .sh)
noncomputable def Iz (C:CA)(p:Int×Int)(c:Int×Int)(W:List Int):Option Int:=W.find? λ q=>decide (Bs (Av C (p.1,q)) (Av C (q,p.2))=some c)
theorem Sz {n:Nat}(p:Int×Int):Pl (n+1) (pD p):=GP (Bj (Bn _) (Bj (Bn _) GQ))
theorem UG (p q:Int×Int):Si 16 (pD p) (pD q)=.ok (.bl (decide (p=q))):=by rw[LS (Sz (n:=15) p) (Sz (n:=15) q),Cg]
theorem SA:∀(C C0:LA),((C0++C).map zG).Nodup->(C.map λ kv=>(pD kv.1,AX kv.2.2)).foldl (λ z kv=>putD z.1 z.2 kv.1 kv.2) (C0.map (λ kv=>pD kv.1),C0.map λ kv=>AX kv.2.2)=((C0++C).map (λ kv=>pD kv.1),(C0++C).map λ kv=>AX kv.2.2)
 |[],C0,_=>by simp
 |kv::C,C0,hn=>by
  obtain⟨p,c⟩:=kv;rw[zh,yt];dsimp only;have h0:Av C0 p=none:=by
   rw[Q4];intro hm;rw[zS,zE] at hn;exact hn.2.2 p hm p (by simp) rfl
  have e:B8 C0 p c=C0++[(p,c)]:=by unfold B8;rw[h0];rfl
  rw[EU (vf:=λ c:(Int×Int)×Option Int=>AX c.2) Cg,e,SA C (C0++[(p,c)]) (by rw[List.append_assoc];exact hn),List.append_assoc];rfl
theorem UH {A:LA}(hn:(A.map zG).Nodup)(hl:A.length<=1000):RQ (.lst (A.map λ kv=>.tup [pD kv.1,AX kv.2.2]))=.ok (WK A):=by
 unfold RQ;dsimp only;rw[N3 (λ kv:(Int×Int)×((Int×Int)×Option Int)=>pD kv.1) (λ kv=>AX kv.2.2)];dsimp only;have e:=SA A [] hn;rw[if_pos ⟨by rw[zf];exact hl,by rw[List.all_map];exact List.all_eq_true.mpr λ x _=>rfl⟩];have e2:WI (A.map λ kv=>(pD kv.1,AX kv.2.2))=(A.map (λ kv=>pD kv.1),A.map λ kv=>AX kv.2.2):=e;rw[e2];rfl
theorem UI (A:LA):er (WK A)=LC A:=Em
theorem UJ (A:LA)(p:Int×Int)(neg:Bool):EO neg (pD p) (LC A)=.ok (.bl (if neg=true then !(Av A p).isSome else (Av A p).isSome)):=by
 unfold LC EO;dsimp only;rw[if_pos (Cw p),Dm Cg]
theorem UK {A:LA}{p:Int×Int}{v:(Int×Int)×Option Int}(h:Av A p=some v):Be (LC A) (pD p)=.ok (AX v.2):=by
 unfold LC Be;dsimp only;rw[if_pos (Cw p),ET (vf:=λ v:(Int×Int)×Option Int=>AX v.2) Cg,h];rfl
theorem UL (A:LA):HV [LC A]=.ok (.int (A.length:Nat)):=by
 unfold LC HV;dsimp only;rw[zf]
theorem UM (C:CA):HV [Je C]=.ok (.int (C.length:Nat)):=by
 unfold Je HV;dsimp only;rw[zf]
theorem UN (A:LA):N7 (QD A)=.ok (A.map λ kv=>pD kv.1):=rfl
theorem UO (C:CA):N7 (Je C)=.ok (C.map λ kv=>pD kv.1):=rfl
section
variable {m:Nat}{rs:List Road}{L:List Int}{C:CA}
theorem UP (hL:L.Perm (B5 m))(As:∀r∈rs,Fz m r/\r.a≠r.b)(hC:∀p,Av C p=A3 (Am rs L) p){p c:Int×Int}{mid:Option Int}(h:Av (Am rs L) p=some (c,mid)):
 (Qq rs p c=true->mid=none)/\(Qq rs p c=false->∃q,mid=some q/\Iz C p c (L.take (min (AS L p.1) (AS L p.2)))=some q):=by
 obtain⟨x,y⟩:=p;have hn:=C1 hL;have dl:A3 (Am rs L) (x,y)=some c:=by unfold A3;rw[h];rfl
 obtain⟨_,ab,iO,iP⟩:=(BN hL As).2.snd x y c dl;have hx:=(AR hL).mpr iO;have hy:=(AR hL).mpr iP;have hf:=Jg (rs:=rs) hn hx hy ab;have h0:∀c p,Av (lay0 rs) (x,y)≠some (c,some p):=λ c p h=>by cases (Gi rs x y c _ h).1
 have hF:=Qh (cd:=λ p=>Bs (A3 (Am rs L) (x,p)) (A3 (Am rs L) (p,y))) h0 (L.take (min (AS L x) (AS L y)));unfold Qg at hf;rw[<-hf] at hF;refine⟨λ hb=>?_,λ hb=>?_⟩
 ·cases mid with
  |none=>rfl
  |some q =>
   have iQ:=(hF.mid c q h).2;obtain⟨r,hr,hd⟩:=List.any_eq_true.mp hb;have aB:r.a=x/\r.b=y/\Ex r=some c:=by simpa using hd
   have h1:=(Gh As).2.2 r hr;rw[aB.1,aB.2.1,aB.2.2] at h1;have h2:=hF.XA;have e1:O9 (Av (Am rs L) (x,y))=some c:=by rw[h];rfl
   rw[e1] at h2;exact absurd (HM h1 h2) iQ
 ·cases mid with
  |none =>
   have h1:=hF.Ax c h;obtain⟨_,r,hr,ha,b9,eQ⟩:=Gi rs x y c none h1;have:Qq rs (x,y) c=true:=List.any_eq_true.mpr ⟨r,hr,by simp[ha,b9,eQ]⟩;rw[this] at hb;cases hb
  |some q =>
   obtain⟨⟨W1,W2,e1,e2,e3⟩,_⟩:=hF.mid c q h;refine⟨q,rfl,?_⟩;unfold Iz;rw[e1,List.find?_append,List.find?_eq_none.mpr λ z hz=>by simpa [hC] using e3 z hz];rw[Option.none_or,List.find?_cons_of_pos];simp only[hC];exact decide_eq_true e2
theorem Qr (iR:((Am rs L).map zG).Nodup)(hn:(C.map zG).Nodup)(hC:∀p,Av C p=A3 (Am rs L) p):C.length=(Am rs L).length:=by
 have hm:∀y,y∈C.map zG↔y∈(Am rs L).map zG:=λ y=>by
  rw[<-Cb,<-Cb,hC];unfold A3;cases Av (Am rs L) y<;>simp
 have:=((List.perm_ext_iff_of_nodup hn iR).mpr hm).length_eq;rwa[zf,zf] at this
end
end L2
set_option maxHeartbeats 4000000
namespace bj
open PySem L2
noncomputable def top (i:Nat):Stmt:=PySem.Challenge.pw_nodeladder_k23_middles_lowest.main.body.getD i (.Pass ⟨0,0,0,0⟩)
noncomputable abbrev K8:Stmt:=top 1
theorem Qs:Au ["one","other"] ["one","other"] (A4 K8):=⟨rfl,rfl,rfl,by decide +kernel,rfl,by decide +kernel,by decide +kernel⟩
noncomputable abbrev Dt:Stmt:=top 2
theorem K9:Au ["road"] ["road"] (A4 Dt):=⟨rfl,rfl,rfl,by decide +kernel,rfl,by decide +kernel,by decide +kernel⟩
noncomputable abbrev Ci:Stmt:=top 4
theorem HW:Au ["laid","pair"] ["laid","pair"] (A4 Ci):=⟨rfl,rfl,rfl,by decide +kernel,rfl,by decide +kernel,by decide +kernel⟩
noncomputable abbrev Qt:Stmt:=top 5
theorem UQ:Au ["laid","pair","cost","middle"] ["laid","pair","cost","middle"] (A4 Qt):=⟨rfl,rfl,rfl,by decide +kernel,rfl,by decide +kernel,by decide +kernel⟩
noncomputable abbrev Ep:Stmt:=top 6
theorem Cc:Au ["laid","place","higher","u","w","cost"] ["laid","place","higher"] (A4 Ep):=⟨rfl,rfl,rfl,by decide +kernel,rfl,by decide +kernel,by decide +kernel⟩
noncomputable abbrev Du:Stmt:=top 7
theorem Bx:Au ["net","order","laid","road","rank","place"] ["net","order"] (A4 Du):=⟨rfl,rfl,rfl,by decide +kernel,rfl,by decide +kernel,by decide +kernel⟩
noncomputable abbrev FG:Stmt:=top 8
theorem HX:Au ["net","order","laid"] ["net","order"] (A4 FG):=⟨rfl,rfl,rfl,by decide +kernel,rfl,by decide +kernel,by decide +kernel⟩
noncomputable abbrev Dv:Stmt:=top 10
theorem CO:Au ["_law_cell","_law_k","_law_number"] ["_law_cell","_law_k"] (A4 Dv):=⟨rfl,rfl,rfl,by decide +kernel,rfl,by decide +kernel,by decide +kernel⟩
noncomputable abbrev Er:Stmt:=top 11
theorem AN:Au ["_law_cell","_law_many","_law_mixed_here","_law_one","_law_other","_law_way","_law_length"] ["_law_cell","_law_many"] (A4 Er):=⟨rfl,rfl,rfl,by decide +kernel,rfl,by decide +kernel,by decide +kernel⟩
noncomputable abbrev FH:Stmt:=top 12
theorem C3:Au ["_law_cells","_law_most","_law_head","_law_many","_law_roads"] ["_law_cells","_law_most"] (A4 FH):=⟨rfl,rfl,rfl,by decide +kernel,rfl,by decide +kernel,by decide +kernel⟩
noncomputable abbrev Dw:Stmt:=top 13
theorem CP:Au ["_law_many","_law_cell","_law_order_here","_law_k"] ["_law_many","_law_cell"] (A4 Dw):=⟨rfl,rfl,rfl,by decide +kernel,rfl,by decide +kernel,by decide +kernel⟩
noncomputable abbrev Dx:Stmt:=top 14
theorem Ka:Au ["_law_found","_law_place","_law_cost"] ["_law_found","_law_place","_law_cost"] (A4 Dx):=⟨rfl,rfl,rfl,by decide +kernel,rfl,by decide +kernel,by decide +kernel⟩
noncomputable abbrev Dy:Stmt:=top 15
theorem AA:Au ["_law_land","_law_start","_law_inner","_law_found","_law_better","_law_one","_law_other","_law_length","_law_width","_law_cost"] ["_law_land","_law_start","_law_inner"] (A4 Dy):=⟨rfl,rfl,rfl,by decide +kernel,rfl,by decide +kernel,by decide +kernel⟩
noncomputable abbrev Es:Stmt:=top 16
theorem Br:Au ["_law_land","_law_order_here","_law_arcs_here","_law_u","_law_w","_law_inner","_law_found"] ["_law_land","_law_order_here"] (A4 Es):=⟨rfl,rfl,rfl,by decide +kernel,rfl,by decide +kernel,by decide +kernel⟩
noncomputable abbrev Cj:Stmt:=top 17
theorem B6:Au ["_law_land","_law_pair","_law_cost","_law_one","_law_other","_law_length","_law_width"] ["_law_land","_law_pair","_law_cost"] (A4 Cj):=⟨rfl,rfl,rfl,by decide +kernel,rfl,by decide +kernel,by decide +kernel⟩
noncomputable abbrev CQ:Stmt:=top 18
theorem BH:Au ["_law_arcs_here","_law_order_here","_law_pair","_law_place","_law_one","_law_other"] ["_law_arcs_here","_law_order_here","_law_pair"] (A4 CQ):=⟨rfl,rfl,rfl,by decide +kernel,rfl,by decide +kernel,by decide +kernel⟩
noncomputable abbrev Dz:Stmt:=top 19
theorem By:Au ["_law_land","_law_order_here","_law_handed","_law_found","_law_arcs_here","_law_pair"] ["_law_land","_law_order_here"] (A4 Dz):=⟨rfl,rfl,rfl,by decide +kernel,rfl,by decide +kernel,by decide +kernel⟩
noncomputable abbrev D3:Stmt:=top 20
theorem Kb:Au ["_law_script","_law_cells","_law_land","_law_order_here"] ["_law_script"] (A4 D3):=⟨rfl,rfl,rfl,by decide +kernel,rfl,by decide +kernel,by decide +kernel⟩
structure Txt (K:za)(mg:Str->Option Value):Prop where
 S7:Bc K mg "added" K8 ["one","other"]
 Lj:Bc K mg "road_cost" Dt ["road"]
 IA:Bc K mg "cost_so_far" Ci ["laid","pair"]
 Wq:Bc K mg "lay" Qt ["laid","pair","cost","middle"]
 Mm:Bc K mg "lay_over" Ep ["laid","place","higher"]
 Lk:Bc K mg "laid_arcs" Du ["net","order"]
 O1:Bc K mg "middles" FG ["net","order"]
 Ll:Bc K mg "_law_mixed" Dv ["_law_cell","_law_k"]
 Mn:Bc K mg "_law_road" Er ["_law_cell","_law_many"]
 O2:Bc K mg "_law_map" FH ["_law_cells","_law_most"]
 Lm:Bc K mg "_law_order" Dw ["_law_many","_law_cell"]
 Ln:Bc K mg "_law_least" Dx ["_law_found","_law_place","_law_cost"]
 Lo:Bc K mg "_law_costs" Dy ["_law_land","_law_start","_law_inner"]
 Mo:Bc K mg "_law_arcs" Es ["_law_land","_law_order_here"]
 IB:Bc K mg "_law_by_road" Cj ["_law_land","_law_pair","_law_cost"]
 Kc:Bc K mg "_law_middle" CQ ["_law_arcs_here","_law_order_here","_law_pair"]
 Lp:Bc K mg "_law_right" Dz ["_law_land","_law_order_here"]
 XZ:Bc K mg "law" D3 ["_law_script"]
 UR:mg "bool" = none
 Qu:mg "dict" = none
 Lq:mg "enumerate" = none
 EX:mg "isinstance" = none
 SD:mg "len" = none
 Qv:mg "list" = none
 SE:mg "min" = none
 S8:mg "range" = none
 SF:mg "sum" = none
local macro_rules | `(tactic| simp_arith [$xs,*])=>`(tactic| simp only [WE,WG,JY,List.set_cons_zero,List.set_cons_succ,M.Aa,Fi,Fh,GY,Hs,Ht,Hu,JO,Em,M1,PJ,Hh,Hi,Fj,Pz,JL,JM,Hk,U0,Fl,Fm,El,LZ,BD,M0,Hl,Hm,Fn,PB,Hg,Dj,toCl_list,toCl_listP,toCl_dct,JP,Hw,Hx,Hy,Hz,JQ,HA,HB,HC,W4,W3,Hn,PD,Ho,PF,Hq,Hr,JN,PH,Xw,Xx,U3,U4,U5,U6,U7,U8,toCl_nil,GL,J9,MG,M2,Fo,JR,JS,HD,HE,JT,JU,JV,JW,JX,HF,HG,HH,HI,Fp,Fq,Fs,Ft,Fu,HJ,Fv,Fw,PL,PM,PN,PP,PQ,Fx,ite_tt,ite_ff,Bool.not_true,Bool.not_false,List.getElem?_cons_zero,List.getElem?_cons_succ,FC,HN,HP,U2,Ui,U1,Uj,Uk,Ul,K2,Ma,Mb,Mc,CB,FE,K7,M5,Ut,Qj,Mj,$xs,*])
variable {P:Program}{w:World}{K:za}{mg:Str->Option Value}{base:Heap}
theorem HY:∃F:List D->M OT,(∀ {P w K mg base},Txt K mg->Ew P w K mg base "added" 1 2 F)/\(∀a b:Co,F [cst a,cst b]=.ok (.sh (cst (Bs a b)))):=by
 refine⟨_,λ T=>Bw (k:=0) T.S7 Qs _ (λ f Bk A outer s H E hr=>(A7 (Bf (DW.dt (FL (Jy (c:=true) (A1 0 (pv 0))) (F9 (Jy (c:=true) (A1 1 (pv 1)))))) (A9 (AE (Bp GG))) AD) (A9 (AE (Bp (AG (A2 (Bl (Ai (B1 hr 16 (by decide)) (A1 0 (pv 0)) A6) (Ai (B1 hr 16 (by decide)) (A1 1 (pv 1)) A6)) (A2 (Bl (Ai (B1 hr 16 (by decide)) (A1 0 (pv 0)) A6) (Ai (B1 hr 16 (by decide)) (A1 1 (pv 1)) A6)) Ah)))))))),?_⟩;intro a b;rcases a with _|⟨a1,a2⟩<;>rcases b with _|⟨b1,b2⟩<;>rfl
noncomputable def Qw:List D->M OT:=zv HY
theorem Qx:Txt K mg->Ew P w K mg base "added" 1 2 Qw:=(zc HY).1
theorem Qy:∀a b:Co,Qw [cst a,cst b]=.ok (.sh (cst (Bs a b))):=(zc HY).2
theorem CS:∃F:List D->M OT,(∀ {P w K mg base},Txt K mg->Ew P w K mg base "road_cost" 1 1 F)/\(∀r:Road,F [Jc r]=.ok (.sh (cst (Ex r)))):=by
 refine⟨_,λ T=>Bw (k:=0) T.Lj K9 _ (λ f Bk A outer s H E hr=>(A7 (Bf (Jy (c:=true) (Ai (B1 hr 16 (by decide)) (A1 0 (pv 0)) A6)) (A9 (AE (Bp GG))) AD) (A9 (AE (Bp (AG (A2 (Ai (B1 hr 16 (by decide)) (A1 0 (pv 0)) A6) (A2 A6 Ah)))))))),?_⟩;intro r;obtain⟨a,b,l,w⟩:=r;cases l<;>rfl
noncomputable def HZ:List D->M OT:=zv CS
theorem Kd:Txt K mg->Ew P w K mg base "road_cost" 1 1 HZ:=(zc CS).1
theorem Ke:∀r:Road,HZ [Jc r]=.ok (.sh (cst (Ex r))):=(zc CS).2
theorem C4:∃F:List D->M OT,(∀ {P w K mg base},Txt K mg->Ew P w K mg base "cost_so_far" 1 2 F)/\(∀(A:LA) (p:Int×Int),F [QD A,pD p]=.ok (.sh (cst (A3 A p)))):=by
 refine⟨_,λ T=>Bw (k:=0) T.IA HW _ (λ f Bk A outer s H E hr=>(A7 (Bf (Gf (c:=true) (B1 hr 16 (by decide)) (A1 1 (pv 1)) (A1 0 (pv 0))) (A9 (AE (Bp GG))) AD) (A9 (AE (Bp (Ai (B1 hr 16 (by decide)) (Ai (B1 hr 16 (by decide)) (A1 0 (pv 0)) (A1 1 (pv 1))) A6)))))),?_⟩;intro A p;have e0:Ba ["laid","pair"] [QD A,pD p]=[some (.val (QD A)),some (.val (pD p))]:=rfl;rw[e0];refine ER ?_;have hm:=Qb A p true;unfold A3;cases q:Av A p with
 |none =>
  rw[q] at hm;simp_arith[hm,G0];rfl
 |some v =>
  rw[q] at hm;have hi:=Md q;have h0:Be (Q6 v) (.int 0)=.ok (cst (some v.1)):=rfl;apply wp_step
  ·simp_arith[hm,G0];rfl
  simp_arith[hi,h0];rfl
noncomputable def EY:List D->M OT:=zv C4
theorem DB:Txt K mg->Ew P w K mg base "cost_so_far" 1 2 EY:=(zc C4).1
theorem DC:∀(A:LA) (p:Int×Int),EY [QD A,pD p]=.ok (.sh (cst (A3 A p))):=(zc C4).2
theorem Mp:∃F:OT->List D->M (OT×OT),(∀ {P w K mg base},Txt K mg->FQ P w K mg base "lay" 1 4 F)/\(∀(A:LA) (p:Int×Int) (c:Co) (mid:Option Int),A.length<1000->F (FD A) [pD p,cst c,AX mid]=.ok (FD (layA A p c mid),.sh .Ax)):=by
 refine⟨_,λ T=>He (k:=0) T.Wq UQ _ (λ f Bk A outer s H E hr=>(A9 (Bf (LV (DW.dt (Fb (G7 (c:=true) (A1 2 (pv 2))) (G8 (DW.dt (FL (Gf (c:=true) (B1 hr 16 (by decide)) (A1 1 (pv 1)) (A1 0 (pv 0))) (F9 (Q0 (c:=true) (B1 hr 16 (by decide)) (A1 2 (pv 2)) (Ai (B1 hr 16 (by decide)) (Ai (B1 hr 16 (by decide)) (A1 0 (pv 0)) (A1 1 (pv 1))) A6))))))))) (A9 (JK (B1 hr 16 (by decide)) (CN 0 (pv 0)) (A1 1 (pv 1)) (AG (A2 (A1 2 (pv 2)) (A2 (A1 3 (pv 3)) Ah))))) AD))),?_⟩;intro A p c mid hA;have e0:BY ["laid","pair","cost","middle"] (FD A) [pD p,cst c,AX mid]=[some (.ow (.tree (some 0) (FD A))),some (.val (pD p)),some (.val (cst c)),some (.val (AX mid))]:=rfl;rw[e0];refine Mg ?_;have hm:=Qb A p true;have gI:∀c:Int×Int,D.tup [cst (some c),AX mid]=Q6 (c,mid):=λ c=>rfl;have hl:(A.map λ kv=>pD kv.1).length<1000:=by rw[zf];exact hA
 have br:keyOk true (pD p)=true:=rfl;have ag:∀v,(List.map (λ kv=>pD kv.1) (B8 A p v))=(List.map (λ kv=>pD kv.1) (B8 A p v)):=λ _=>rfl;cases c with
 |none =>
  refine AQ (ρ':=_) (by simp_arith[cst,BO];rfl) ⟨rfl,rfl⟩
 |some c =>
  have au:BO (cst (some c))=false:=rfl;cases q:Av A p with
  |none =>
   rw[q] at hm;have el:layA A p (some c) mid=B8 A p (c,mid):=by unfold layA;dsimp only;rw[q]
   rw[el];refine AQ (ρ':=[some (.ow (.tree (some 0) (FD (B8 A p (c,mid))))),some (.val (pD p)),some (.val (cst (some c))),some (.val (AX mid))]) (by
    simp_arith[au,hm,G0,CB,gI,if_pos (And.intro br hl),Qd,br,hl,and_self,if_true];rfl) ⟨rfl,rfl⟩
  |some z =>
   rw[q] at hm;have hi:=Md q;have h0:Be (Q6 z) (.int 0)=.ok (cst (some z.1)):=rfl;have hx:=Wm c z.1;by_cases hc:c.1<z.1.1\/(c.1=z.1.1/\c.2<z.1.2)
   ·have el:layA A p (some c) mid=B8 A p (c,mid):=by unfold layA;dsimp only;rw[q];dsimp only;rw[if_pos hc]
    rw[decide_eq_true hc] at hx;rw[el];refine AQ (ρ':=[some (.ow (.tree (some 0) (FD (B8 A p (c,mid))))),some (.val (pD p)),some (.val (cst (some c))),some (.val (AX mid))]) (by
     simp_arith[au,hm,hi,h0,hx,G0,CB,gI,if_pos (And.intro br hl),Qd,br,hl,and_self,if_true];rfl) ⟨rfl,rfl⟩
   ·have el:layA A p (some c) mid=A:=by unfold layA;dsimp only;rw[q];dsimp only;rw[if_neg hc]
    rw[decide_eq_false hc] at hx;rw[el];refine AQ (ρ':=_) (by simp_arith[au,hm,hi,h0,hx,G0];rfl) ⟨rfl,rfl⟩
noncomputable def Wr:OT->List D->M (OT×OT):=zv Mp
theorem Qz:Txt K mg->FQ P w K mg base "lay" 1 4 Wr:=(zc Mp).1
theorem QA:∀(A:LA) (p:Int×Int) (c:Co) (mid:Option Int),A.length<1000->Wr (FD A) [pD p,cst c,AX mid]=.ok (FD (layA A p c mid),.sh .Ax):=(zc Mp).2
theorem DD:∃F:OT->List D->M (OT×OT),(∀ {P w K mg base},Txt K mg->FQ P w K mg base "lay_over" 2 3 F)/\(∀(m:Nat) (A:LA) (p:Int) (H:List Int),m<=20->Dp m A->(∀x∈H,0<=x/\x<m)->F (FD A) [.int p,.lst (H.map D.int)]=.ok (FD (QE A p H),.sh .Ax)):=by
 refine⟨_,λ T=>He (k:=1) T.Mm Cc _ (λ f Bk A outer s H E hr=>(A9 (Cf Ap.toXCall.own rfl (BG (A1 2 (pv 2))) (AI 3 Cc.nd rfl (zM rfl)) (A9 (Cf Ap.toXCall.own rfl (BG (A1 2 (pv 2))) (AI 4 Cc.nd rfl (zM rfl)) (A9 (Bf (KN (c:=true) (B1 hr 16 (by decide)) (A1 3 (pv 3)) (A1 4 (pv 4))) (A7 (Az 5 Cc.nd rfl (zM rfl) (AO (TR (AJ Ap.toXCall (Qx T) (hr.mono (by decide)) rfl (A2 (AO (AJ Ap.toXCall (DB T) (hr.mono (by decide)) rfl (A2 (A1 0 (pv 0)) (A2 (AG (A2 (A1 3 (pv 3)) (A2 (A1 1 (pv 1)) Ah))) Ah)) rfl)) (A2 (AO (AJ Ap.toXCall (DB T) (hr.mono (by decide)) rfl (A2 (A1 0 (pv 0)) (A2 (AG (A2 (A1 1 (pv 1)) (A2 (A1 4 (pv 4)) Ah))) Ah)) rfl)) Ah)) rfl)))) (A9 (Hf (MS Ap.toXCall (Qz T) (hr.mono (by decide)) rfl (CN 0 (pv 0)) (A2 (AG (A2 (A1 3 (pv 3)) (A2 (A1 4 (pv 4)) Ah))) (A2 (A1 5 (pv 5)) (A2 (A1 1 (pv 1)) Ah))) rfl)))) AD))))))),?_⟩;intro m A p H hm hA hH;have e0:BY ["laid","place","higher","u","w","cost"] (FD A) [.int p,.lst (H.map D.int)]=[some (.ow (.tree (some 0) (FD A))),some (.val (.int p)),some (.val (.lst (H.map D.int))),none,none,none]:=rfl;rw[e0];refine Mg ?_;simp_arith[];refine BZ (λ i ρ=>∃s3 s4 s5:Option Cl,ρ=[some (.ow (.tree (some 0) (FD ((H.take i).foldl (NS p H) A)))),some (.val (.int p)),some (.val (.lst (H.map D.int))),s3,s4,s5]) ⟨none,none,none,rfl⟩ ?_ ?_
 ·rintro i d ρ hd ⟨s3,s4,s5,rfl⟩;obtain⟨u,hu,rfl⟩:=Bh hd;have iS:=hH u (zi hu);refine⟨_,rfl,?_⟩;obtain⟨B,hB⟩:∃B,B=(H.take i).foldl (NS p H) A:=⟨_,rfl⟩;have bZ:Dp m B:=by rw[hB];exact Dp.lo hH hA λ x hx=>hH x (List.mem_of_mem_take hx)
  rw[<-hB,C2 hu,<-hB];simp_arith[];refine BZ (λ j ρ=>∃s4 s5:Option Cl,ρ=[some (.ow (.tree (some 0) (FD ((H.take j).foldl (Gg p u) B)))),some (.val (.int p)),some (.val (.lst (H.map D.int))),some (.val (.int u)),s4,s5]) ⟨s4,s5,rfl⟩ ?_ ?_
  ·rintro j d ρ hd ⟨s4,s5,rfl⟩;obtain⟨w,hw,rfl⟩:=Bh hd;have jz:=hH w (zi hw);refine⟨_,rfl,?_⟩;obtain⟨C,hC⟩:∃C,C=(H.take j).foldl (Gg p u) B:=⟨_,rfl⟩;have eW:Dp m C:=by rw[hC];exact Dp.ou iS bZ λ x hx=>hH x (List.mem_of_mem_take hx)
   rw[C2 hw,<-hC];by_cases e:u=w
   ·have ev:Gg p u C w=C:=by unfold Gg;rw[if_pos e]
    rw[ev];refine AQ (ρ':=_) (by simp_arith[decide_eq_true e];rfl) ⟨_,_,rfl⟩
   ·have ev:Gg p u C w=layA C (u,w) (Bs (A3 C (u,p)) (A3 C (p,w))) (some p):=by unfold Gg;rw[if_neg e]
    rw[ev];have h1:=DC C (u,p);have h2:=DC C (p,w);have h3:=Qy (A3 C (u,p)) (A3 C (p,w));have h4:=QA C (u,w) (Bs (A3 C (u,p)) (A3 C (p,w))) (some p) (eW.len hm);have t1:∀a b:Int,D.tup [.int a,.int b]=pD (a,b):=λ a b=>rfl;have t2:AX (some p)=.int p:=rfl;rw[t2] at h4;have h5:=Cz (ρ:=[some (.ow (.tree (some 0) (FD C))),some (.val (.int p)),some (.val (.lst (H.map D.int))),some (.val (.int u)),some (.val (.int w)),some (.val (cst (Bs (A3 C (u,p)) (A3 C (p,w)))))]) (i:=0) rfl rfl h4;simp_arith[decide_eq_false e,if_true];apply wp_step
    ·simp_arith[t1,h1,h2,h3];rfl
    refine AQ (ρ':=_) (by simp_arith[t1,h5];rfl) ⟨_,_,rfl⟩
  ·rintro ρ ⟨s4,s5,rfl⟩;rw[zf,yh];exact⟨_,s4,s5,rfl⟩
 ·rintro ρ ⟨s3,s4,s5,rfl⟩;rw[zf,yh];exact⟨rfl,trivial⟩
noncomputable def Jh:OT->List D->M (OT×OT):=zv DD
theorem Lr:Txt K mg->FQ P w K mg base "lay_over" 2 3 Jh:=(zc DD).1
theorem Ls:∀(m:Nat) (A:LA) (p:Int) (H:List Int),m<=20->Dp m A->(∀x∈H,0<=x/\x<m)->Jh (FD A) [.int p,.lst (H.map D.int)]=.ok (FD (QE A p H),.sh .Ax):=(zc DD).2
theorem CT:∃F:List D->M OT,(∀ {P w K mg base},Txt K mg->Ew P w K mg base "laid_arcs" 3 2 F)/\(∀(m:Nat) (rs:List Road) (L:List Int),m<=20->L.Perm (B5 m)->(∀r∈rs,Fz m r/\r.a≠r.b)->F [An m rs,.lst (L.map D.int)]=.ok (FD (Am rs L))):=by
 refine⟨_,λ T=>Bw (k:=2) T.Lk Bx _ (λ f Bk A outer s H E hr=>(A7 (Gb 2 Bx.nd rfl (zM rfl) (L1 true)) (A7 (Cf Ap.toXCall.own rfl (BG (Ai (B1 hr 16 (by decide)) (A1 0 (pv 0)) A6)) (AI 3 Bx.nd rfl (zM rfl)) (A9 (Hf (MS Ap.toXCall (Qz T) (hr.mono (by decide)) rfl (CN 2 (pv 2)) (A2 (AG (A2 (Ai (B1 hr 16 (by decide)) (A1 3 (pv 3)) A6) (A2 (Ai (B1 hr 16 (by decide)) (A1 3 (pv 3)) A6) Ah))) (A2 (AO (AJ Ap.toXCall (Kd T) (hr.mono (by decide)) rfl (A2 (A1 3 (pv 3)) Ah) rfl)) (A2 GG Ah))) rfl)))) (A7 (Cf Ap.toXCall.own rfl (Ru rfl T.Lq (A1 1 (pv 1))) (LP (n:=2) rfl (Bg (AI 4 Bx.nd rfl (zM rfl)) (Bg (AI 5 Bx.nd rfl (zM rfl)) JA))) (A9 (Hf (MS Ap.toXCall (Lr T) (hr.mono (by decide)) rfl (CN 2 (pv 2)) (A2 (A1 5 (pv 5)) (A2 (AO (Cv (A1 1 (pv 1)) (CH (Bl (A1 4 (pv 4)) A6)) EH)) Ah)) rfl)))) (A9 (Gd 2 (pv 2))))))),?_⟩;intro m rs L hm hL As;have e0:Ba ["net","order","laid","road","rank","place"] [An m rs,.lst (L.map D.int)]=[some (.val (An m rs)),some (.val (.lst (L.map D.int))),none,none,none,none]:=rfl;rw[e0];refine ER ?_;have n1:Be (An m rs) (.int 1)=.ok (.lst (rs.map Jc)):=rfl;apply wp_step
 ·rfl
 try simp only[zL,zy]
 have ca:∀i,i<=rs.length->Dp m ((rs.take i).foldl (λ A r=>layA A (r.a,r.b) (Ex r) none) []):=λ i hi=>by
  have:=(Gh (m:=m) (rs:=rs.take i) λ r hr=>As r (List.mem_of_mem_take hr)).1;exact this
 refine BP (I:=λ ρ=>∃s3 s4 s5:Option Cl,ρ=[some (.val (An m rs)),some (.val (.lst (L.map D.int))),some (.ow (.tree none (FD (lay0 rs)))),s3,s4,s5]) ?_ ?_
 ·simp_arith[n1];refine BZ (λ i ρ=>i<=rs.length/\∃s3 s4 s5:Option Cl,ρ=[some (.val (An m rs)),some (.val (.lst (L.map D.int))),some (.ow (.tree none (FD ((rs.take i).foldl (λ A r=>layA A (r.a,r.b) (Ex r) none) [])))),s3,s4,s5]) ⟨zT _,none,none,none,rfl⟩ ?_ ?_
  ·rintro i d ρ hd ⟨hi,s3,s4,s5,rfl⟩;obtain⟨r,hr,rfl⟩:=Bh hd;have ag:=(zD.mp hr).1;refine⟨_,rfl,?_⟩;rw[C2 hr];obtain⟨B,hB⟩:∃B,B=(rs.take i).foldl (λ A r=>layA A (r.a,r.b) (Ex r) none) []:=⟨_,rfl⟩;have bZ:Dp m B:=by rw[hB];exact ca i hi
   rw[<-hB];have i0:Be (Jc r) (.int 0)=.ok (.int r.a):=rfl;have i1:Be (Jc r) (.int 1)=.ok (.int r.b):=rfl;have h1:=Ke r;have h2:=QA B (r.a,r.b) (Ex r) none (bZ.len hm);have t1:∀a b:Int,D.tup [.int a,.int b]=pD (a,b):=λ a b=>rfl;have t2:AX none=.Ax:=rfl;rw[t2] at h2;have h5:=Cz (ρ:=[some (.val (An m rs)),some (.val (.lst (L.map D.int))),some (.ow (.tree none (FD B))),some (.val (Jc r)),s4,s5]) (i:=2) rfl rfl h2;refine AQ (ρ':=_) (by simp_arith[i0,i1,h1,t1,h5];rfl) ⟨ag,_,_,_,rfl⟩
  ·rintro ρ ⟨_,s3,s4,s5,rfl⟩;rw[zf,yh];exact⟨s3,s4,s5,rfl⟩
 ·rintro ρ ⟨s3,s4,s5,rfl⟩;have eX:=Gh As;refine BP (I:=λ ρ=>∃s3 s4 s5:Option Cl,ρ=[some (.val (An m rs)),some (.val (.lst (L.map D.int))),some (.ow (.tree none (FD (Am rs L)))),s3,s4,s5]) ?_ ?_
  ·simp_arith[];refine BZ (λ i ρ=>i<=L.length/\∃(G:LA) (s3 s4 s5:Option Cl),ρ=[some (.val (An m rs)),some (.val (.lst (L.map D.int))),some (.ow (.tree none (FD G))),s3,s4,s5]/\Dp m G/\Ii G (L.drop i)=Ii (lay0 rs) L) ⟨zT _,lay0 rs,s3,s4,s5,rfl,eX.1,rfl⟩ ?_ ?_
   ·rintro i d ρ hd ⟨hi,G,s3,s4,s5,rfl,hG,cN⟩;obtain⟨d',cn,rfl⟩:=IZ hd;obtain⟨p,hp,rfl⟩:=Bh cn;have ag:=(zD.mp hp).1;rw[Nat.zero_add];refine⟨_,rfl,?_⟩;have bW:∀x∈L.drop (i+1),0<=x/\x<m:=λ x hx=>(AR hL).mp (List.mem_of_mem_drop hx);have ed:L.drop i=p::L.drop (i+1):=by
     rw[y2 ag];rw[zr ag] at hp;rw[zw hp]
    rw[ed,Ii] at cN;have h2:=Ls m G p (L.drop (i+1)) hm hG bW;have sl:NJ (some ((i:Int)+1)) none (.lst (L.map D.int))=.ok (.lst (((L.drop (i+1)).map D.int).map .sh)):=by rw[List.map_drop];exact PK _ (i+1)
    have h5:=Cz (ρ:=[some (.val (An m rs)),some (.val (.lst (L.map D.int))),some (.ow (.tree none (FD G))),s3,some (.val (.int i)),some (.val (.int p))]) (i:=2) rfl rfl h2;refine AQ (ρ':=_) (by simp_arith[sl,h5];rfl) ⟨ag,_,_,_,_,rfl,Dp.lo bW hG bW,cN⟩
   ·rintro ρ ⟨_,G,s3,s4,s5,rfl,hG,cN⟩;rw[Fc,zf,y7,Ii] at cN;exact⟨s3,s4,s5,by rw[cN];rfl⟩
  ·rintro ρ ⟨s3,s4,s5,rfl⟩;exact⟨_,rfl,rfl⟩
noncomputable def I0:List D->M OT:=zv CT
theorem Kf:Txt K mg->Ew P w K mg base "laid_arcs" 3 2 I0:=(zc CT).1
theorem Kg:∀(m:Nat) (rs:List Road) (L:List Int),m<=20->L.Perm (B5 m)->(∀r∈rs,Fz m r/\r.a≠r.b)->I0 [An m rs,.lst (L.map D.int)]=.ok (FD (Am rs L)):=(zc CT).2
theorem Et:∃F:List D->M OT,(∀ {P w K mg base},Txt K mg->Ew P w K mg base "middles" 4 2 F)/\(∀(m:Nat) (rs:List Road) (L:List Int),m<=20->L.Perm (B5 m)->(∀r∈rs,Fz m r/\r.a≠r.b)->F [An m rs,.lst (L.map D.int)]=.ok (WK (Am rs L))):=by
 refine⟨_,λ T=>Bw (k:=3) T.O1 HX _ (λ f Bk A outer s H E hr=>(A7 (Az 2 HX.nd rfl (Or.inr rfl) (AO (AJ Ap.toXCall (Kf T) (hr.mono (by decide)) rfl (A2 (A1 0 (pv 0)) (A2 (A1 1 (pv 1)) Ah)) rfl))) (A9 (AE (PY rfl (B1 hr 16 (by decide)) rfl T.Qu (AO (NW (NB:=["pair","laid"]) [none,some 2] rfl (Lh (A1 2 (pv 2))) rfl rfl (GK 0 (by decide) rfl rfl rfl) (λ _ _ _ _=>JB) (λ _ _ _ _=>(AG (A2 (A1 0 (pv 0)) (A2 (Ai (B1 hr 16 (by decide)) (Ai (B1 hr 16 (by decide)) (A1 1 (pv 1)) (A1 0 (pv 0))) A6) Ah))))))))))),?_⟩;intro m rs L hm hL As;have e0:Ba ["net","order","laid"] [An m rs,.lst (L.map D.int)]=[some (.val (An m rs)),some (.val (.lst (L.map D.int))),none]:=rfl;rw[e0];refine ER ?_;have h1:=Kg m rs L hm hL As;have hA:=(BN hL As).1;have hl:=hA.len hm;obtain⟨A,iT⟩:∃A,A=Am rs L:=⟨_,rfl⟩;rw[<-iT] at h1 hA hl ⊢;apply wp_step
 ·simp_arith[h1];rfl
 try simp only[zL,zy]
 have bU:(A.map λ kv=>pD kv.1).length<=1000:=by rw[zf];omega
 have hd:=UH hA.nd (by omega);simp_arith[UN,if_pos bU];rw[En (λ kv:(Int×Int)×((Int×Int)×Option Int)=>D.tup [pD kv.1,AX kv.2.2]) (λ kv eY=>⟨_,rfl,rfl,by
  have i1:=Md (M8 hA.nd eY);have i2:Be (Q6 kv.2) (.int 1)=.ok (AX kv.2.2):=rfl;simp_arith[i1,i2];try rfl⟩)]
 simp_arith[hd];exact⟨_,rfl,rfl⟩
noncomputable def Lu:List D->M OT:=zv Et
theorem Mq:Txt K mg->Ew P w K mg base "middles" 4 2 Lu:=(zc Et).1
theorem Mr:∀(m:Nat) (rs:List Road) (L:List Int),m<=20->L.Perm (B5 m)->(∀r∈rs,Fz m r/\r.a≠r.b)->Lu [An m rs,.lst (L.map D.int)]=.ok (WK (Am rs L)):=(zc Et).2
theorem CU:∃F:List D->M OT,(∀ {P w K mg base},Txt K mg->Ew P w K mg base "_law_mixed" 1 2 F)/\(∀c k:Int,0<=k->k<=1000->∃v:Int,0<=v/\F [.int c,.int k]=.ok (.sh (.int v))):=by
 refine⟨_,λ T=>Bw (k:=0) T.Ll CO _ (λ f Bk A outer s H E hr=>(A7 (Az 2 CO.nd rfl (zM rfl) (Bd (Bl (Bd (A1 0 (pv 0)) A6) (G9 A6 (Bl (A1 1 (pv 1)) A6))) A6)) (A7 (Az 2 CO.nd rfl (zM rfl) (Bd (Bl (Bl (G9 (A1 2 (pv 2)) (A1 2 (pv 2))) (G9 A6 (A1 1 (pv 1)))) A6) A6)) (A9 (AE (Bp (Bd (G9 (A1 2 (pv 2)) (A1 2 (pv 2))) A6))))))),?_⟩;intro c k h0 h1;have e0:Ba ["_law_cell","_law_k","_law_number"] [.int c,.int k]=[some (.val (.int c)),some (.val (.int k)),none]:=rfl;rw[e0];have m1:GU (.int 48271) (.int (k+1))=.ok (.int (48271*(k+1))):=EI (.inr (.inr (.inr ⟨by omega,by omega⟩)));obtain⟨x,hx⟩:∃x,x=(c%2147483629+48271*(k+1))%2147483647:=⟨_,rfl⟩;have x0:0<=x:=by omega
 have x1:x<2147483647:=by omega
 have m2:GU (.int x) (.int x)=.ok (.int (x*x)):=EI (.inr (.inr (.inr ⟨by omega,by omega⟩)));have m3:GU (.int 69621) (.int k)=.ok (.int (69621*k)):=EI (.inr (.inr (.inr ⟨by omega,by omega⟩)));obtain⟨y,hy⟩:∃y,y=(x*x+69621*k+7)%2147483587:=⟨_,rfl⟩;have y0:0<=y:=by rw[hy];exact yn _ (by decide)
 have y1:y<2147483587:=by rw[hy];exact Int.emod_lt_of_pos _ (by decide)
 have m4:GU (.int y) (.int y)=.ok (.int (y*y)):=EI (.inr (.inr (.inr ⟨by omega,by omega⟩)));refine⟨y*y%2147483579,yn _ (by decide),?_⟩;simp[WE,WG,m1,OR,Eh,AW,<-hx,m2,m3,<-hy,m4,Pm,OY,W3,NG]
noncomputable def I9:List D->M OT:=zv CU
theorem CV:Txt K mg->Ew P w K mg base "_law_mixed" 1 2 I9:=(zc CU).1
theorem CW:∀c k:Int,0<=k->k<=1000->∃v:Int,0<=v/\I9 [.int c,.int k]=.ok (.sh (.int v)):=(zc CU).2
theorem DF:∃F:List D->M OT,(∀ {P w K mg base},Txt K mg->Ew P w K mg base "_law_road" 2 2 F)/\(∀(c:Int) (m:Nat),2<=m->m<=20->0<=c->∃r:Road,(Fz m r/\r.a≠r.b)/\F [.int c,.int m]=.ok (.sh (Jc r))):=by
 refine⟨_,λ T=>Bw (k:=1) T.Mn AN _ (λ f Bk A outer s H E hr=>(A7 (Az 2 AN.nd rfl (zM rfl) (AO (AJ Ap.toXCall (CV T) (hr.mono (by decide)) rfl (A2 (A1 0 (pv 0)) (A2 A6 Ah)) rfl))) (A7 (Az 3 AN.nd rfl (zM rfl) (Bd (A1 2 (pv 2)) (A1 1 (pv 1)))) (A7 (Az 4 AN.nd rfl (zM rfl) (Bd (Bl (Bl (A1 3 (pv 3)) A6) (Bd (G6 (A1 2 (pv 2)) A6) (Tp (A1 1 (pv 1)) A6))) (A1 1 (pv 1)))) (A7 (Az 5 AN.nd rfl (zM rfl) (Bd (G6 (A1 2 (pv 2)) A6) A6)) (A7 (Az 6 AN.nd rfl (zM rfl) (Bd (G6 (A1 2 (pv 2)) A6) A6)) (A7 (Bf (GH (c:=true) (B1 hr 16 (by decide)) (A1 5 (pv 5)) A6) (A9 (Az 6 AN.nd rfl (zM rfl) GG)) AD) (A7 (Bf (GH (c:=true) (B1 hr 16 (by decide)) (A1 5 (pv 5)) A6) (A9 (Az 6 AN.nd rfl (zM rfl) (Bd (A1 0 (pv 0)) (LO A6 A6)))) AD) (A7 (Bf (GH (c:=true) (B1 hr 16 (by decide)) (A1 5 (pv 5)) A6) (A9 (Az 6 AN.nd rfl (zM rfl) (Bd (G6 (A1 2 (pv 2)) A6) A6))) AD) (A9 (AE (Bp (AG (A2 (A1 3 (pv 3)) (A2 (A1 4 (pv 4)) (A2 (A1 6 (pv 6)) (A2 (Bd (AO (AJ Ap.toXCall (CV T) (hr.mono (by decide)) rfl (A2 (A1 0 (pv 0)) (A2 A6 Ah)) rfl)) (Ai (B1 hr 16 (by decide)) (OS (A2 A6 (A2 (LO A6 A6) Ah))) (Bd (A1 0 (pv 0)) A6))) Ah))))))))))))))))),?_⟩;intro c m b6 hm hc;have e0:Ba ["_law_cell","_law_many","_law_mixed_here","_law_one","_law_other","_law_way","_law_length"] [.int c,.int m]=[some (.val (.int c)),some (.val (.int m)),none,none,none,none,none]:=rfl;rw[e0];obtain⟨x,x0,hx⟩:=CW c 1 (by omega) (by omega);obtain⟨y,y0,hy⟩:=CW c 2 (by omega) (by omega);have dn:(0:Int)<(m:Int):=by omega
 have cO:(0:Int)<(m:Int)-1:=by omega
 obtain⟨a,ha⟩:∃a,a=x%(m:Int):=⟨_,rfl⟩;have a0:0<=a:=by rw[ha];exact yn _ (by omega)
 have a1:a<m:=by rw[ha];exact Int.emod_lt_of_pos _ dn
 obtain⟨s,hs⟩:∃s,s=x / 16%((m:Int)-1):=⟨_,rfl⟩;have s0:0<=s:=by rw[hs];exact yn _ (by omega)
 have s1:s<(m:Int)-1:=by rw[hs];exact Int.emod_lt_of_pos _ cO
 obtain⟨b,hb⟩:∃b,b=(a+1+s)%(m:Int):=⟨_,rfl⟩;have b0:0<=b:=by rw[hb];exact yn _ (by omega)
 have b1:b<m:=by rw[hb];exact Int.emod_lt_of_pos _ dn
 have eU:a≠b:=by
  have:=U9 (a:=a) (s:=1+s) (m:=m) a0 a1 (by omega) (by omega);rw[hb,Int.add_assoc];exact λ z=>this z.symm
 have iU:IY (.int x) (.int 16)=.ok (.int (x / 16)):=FA (by unfold Kt;omega);have eZ:IY (.int x) (.int 256)=.ok (.int (x / 256)):=FA (by unfold Kt;omega);have bE:IY (.int x) (.int 1536)=.ok (.int (x / 1536)):=FA (by unfold Kt;omega);have ma:Eh (.int x) (.int (m:Int))=.ok (.int a):=by rw[ha];exact AY dn
 have sb:Tn (.int (m:Int)) (.int 1)=.ok (.int ((m:Int)-1)):=rfl;have ms:Eh (.int (x / 16)) (.int ((m:Int)-1))=.ok (.int s):=by rw[hs];exact AY cO
 have iV:OR (.int a) (.int 1)=.ok (.int (a+1)):=rfl;have iW:OR (.int (a+1)) (.int s)=.ok (.int (a+1+s)):=rfl;have mb:Eh (.int (a+1+s)) (.int (m:Int))=.ok (.int b):=by rw[hb];exact AY dn
 have m6:Eh (.int (x / 256)) (.int 6)=.ok (.int (x / 256%6)):=AY (by decide);have m4:Eh (.int (x / 1536)) (.int 4)=.ok (.int (x / 1536%4)):=AY (by decide);have fb:Eh (.int (x / 1536)) (.int 101)=.ok (.int (x / 1536%101)):=AY (by decide);have m2:Eh (.int c) (.int 2)=.ok (.int (c%2)):=AY (by decide);obtain⟨T,dq,hT⟩:∃T:Int,0<T/\To (.int 10) (.int 60)=.ok (.int T):=⟨10^60,by decide,rfl⟩;have mT:Eh (.int c) (.int T)=.ok (.int (c%T)):=AY dq;obtain⟨w,w0,hw⟩:∃w,0<w/\Be (.lst [.int 5,.int T]) (.int (c%2))=.ok (.int w):=by
  have h:c%2=0\/c%2=1:=by omega
  rcases h with h|h
  ·rw[h];exact⟨5,by decide,rfl⟩
  ·rw[h];exact⟨T,dq,rfl⟩
 have mw:Eh (.int y) (.int w)=.ok (.int (y%w)):=AY w0;obtain⟨k,hk⟩:∃k,k=x / 256%6:=⟨_,rfl⟩;obtain⟨l,eX,hl⟩:∃l:Option Int,(∀z,l=some z->0<=z)/\l=(if k=2 then some (x / 1536%101) else if k=1 then some (c%T) else if k=0 then none else some (x / 1536%4)):=by
  refine⟨_,λ z hz=>?_,rfl⟩;split at hz
  ·cases hz;omega
  ·split at hz
   ·cases hz;exact yn _ (by omega)
   ·split at hz
    ·cases hz
    ·cases hz;omega
 refine⟨⟨a,b,l,y%w⟩,⟨⟨a0,a1,b0,b1,eX⟩,eU⟩,ER ?_⟩;rw[<-hk] at m6;apply wp_step
 ·simp_arith[hx];rfl
 apply wp_step
 ·simp_arith[ma];rfl
 apply wp_step
 ·simp_arith[iV,iU,sb,ms,iW,mb];rfl
 apply wp_step
 ·simp_arith[eZ,m6];rfl
 apply wp_step
 ·simp_arith[bE,m4];rfl
 refine BP (I:=λ ρ=>ρ=[some (.val (.int c)),some (.val (.int m)),some (.val (.int x)),some (.val (.int a)),some (.val (.int b)),some (.val (.int k)),some (.val (AX (if k=0 then none else some (x / 1536%4))))]) ?_ ?_
 ·simp_arith[];by_cases h:k=0
  ·simp only[h,decide_true,if_true];rfl
  ·simp only[h,decide_false,zu,if_false];rfl
 rintro ρ rfl;refine BP (I:=λ ρ=>ρ=[some (.val (.int c)),some (.val (.int m)),some (.val (.int x)),some (.val (.int a)),some (.val (.int b)),some (.val (.int k)),some (.val (AX (if k=1 then some (c%T) else if k=0 then none else some (x / 1536%4))))]) ?_ ?_
 ·simp_arith[];by_cases h:k=1
  ·simp only[h,decide_true,if_true,WE,WG,JY,zL,zy,M.Aa,Fi,Fh,GY,Hs,Ht,Hu,JO,Em,M1,PJ,Hh,Hi,Fj,Pz,JL,JM,Hk,U0,Fl,Fm,El,LZ,BD,M0,Hl,Hm,Fn,PB,Hg,Dj,toCl_list,toCl_listP,toCl_dct,JP,Hw,Hx,Hy,Hz,JQ,HA,HB,HC,W4,W3,Hn,PD,Ho,PF,Hq,Hr,JN,PH,Xw,Xx,U3,U4,U5,U6,U7,U8,toCl_nil,GL,J9,MG,M2,Fo,JR,JS,HD,HE,JT,JU,JV,JW,JX,HF,HG,HH,HI,Fp,Fq,Fs,Ft,Fu,HJ,Fv,Fw,PL,PM,PN,PP,PQ,Fx,ite_tt,ite_ff,Bool.not_true,Bool.not_false,List.getElem?_cons_zero,zK,FC,HN,HP,U2,Ui,U1,Uj,Uk,Ul,K2,Ma,Mb,Mc,CB,FE,K7,M5,Ut,Qj,Mj,hT,mT];rfl
  ·simp only[h,decide_false,zu,if_false];rfl
 rintro ρ rfl;refine BP (I:=λ ρ=>ρ=[some (.val (.int c)),some (.val (.int m)),some (.val (.int x)),some (.val (.int a)),some (.val (.int b)),some (.val (.int k)),some (.val (AX l))]) ?_ ?_
 ·rw[hl];simp_arith[];by_cases h:k=2
  ·simp only[h,decide_true,if_true,WE,WG,JY,zL,zy,M.Aa,Fi,Fh,GY,Hs,Ht,Hu,JO,Em,M1,PJ,Hh,Hi,Fj,Pz,JL,JM,Hk,U0,Fl,Fm,El,LZ,BD,M0,Hl,Hm,Fn,PB,Hg,Dj,toCl_list,toCl_listP,toCl_dct,JP,Hw,Hx,Hy,Hz,JQ,HA,HB,HC,W4,W3,Hn,PD,Ho,PF,Hq,Hr,JN,PH,Xw,Xx,U3,U4,U5,U6,U7,U8,toCl_nil,GL,J9,MG,M2,Fo,JR,JS,HD,HE,JT,JU,JV,JW,JX,HF,HG,HH,HI,Fp,Fq,Fs,Ft,Fu,HJ,Fv,Fw,PL,PM,PN,PP,PQ,Fx,ite_tt,ite_ff,Bool.not_true,Bool.not_false,List.getElem?_cons_zero,zK,FC,HN,HP,U2,Ui,U1,Uj,Uk,Ul,K2,Ma,Mb,Mc,CB,FE,K7,M5,Ut,Qj,Mj,bE,fb];rfl
  ·simp only[h,decide_false,zu,if_false];rfl
 rintro ρ rfl;simp_arith[hy,hT,m2,hw,mw];rfl
noncomputable def E5:List D->M OT:=zv DF
theorem Lw:Txt K mg->Ew P w K mg base "_law_road" 2 2 E5:=(zc DF).1
theorem Lx:∀(c:Int) (m:Nat),2<=m->m<=20->0<=c->∃r:Road,(Fz m r/\r.a≠r.b)/\E5 [.int c,.int m]=.ok (.sh (Jc r)):=(zc DF).2
theorem Eu:∃F:List D->M OT,(∀ {P w K mg base},Txt K mg->Ew P w K mg base "_law_map" 3 2 F)/\(∀(cs:List Int),cs.length<=25->(∀c∈cs,0<=c)->∃(m:Nat) (rs:List Road),1<=m/\m<=7/\rs.length<=24/\(∀r∈rs,Fz m r/\r.a≠r.b)/\F [.lst (cs.map .int),.int 7]=.ok (.sh (An m rs))):=by
 refine⟨_,λ T=>Bw (k:=2) T.O2 C3 _ (λ f Bk A outer s H E hr=>(A7 (Az 2 C3.nd rfl (zM rfl) (Px rfl rfl T.SF (AO (Cv (A1 0 (pv 0)) EH (CH A6))))) (A7 (Az 3 C3.nd rfl (Or.inr rfl) (Bl A6 (Bd (A1 2 (pv 2)) (A1 1 (pv 1))))) (A7 (Az 4 C3.nd rfl (zM rfl) (OS Ah)) (A7 (Bf (VR (c:=true) (A1 3 (pv 3)) A6) (A9 (MI (NB:=["_law_cell","_law_many"]) 4 [none,some 3] C3.nd rfl (zM rfl) rfl (BG (AO (Cv (A1 0 (pv 0)) (CH A6) (CH A6)))) rfl rfl (GK 0 (by decide) rfl rfl rfl) (λ _ _ _ _=>JB) (λ _ _ _ _=>(AO (H9 (AJ (GN rfl).toXCall (Lw T) (hr.mono (by decide)) rfl (A2 (A1 0 (pv 0)) (A2 (A1 1 (pv 1)) Ah)) rfl)))))) AD) (A9 (AE (Bp (AG (A2 (A1 3 (pv 3)) (A2 (A1 4 (pv 4)) Ah))))))))))),?_⟩;intro cs hl hc;have e0:Ba ["_law_cells","_law_most","_law_head","_law_many","_law_roads"] [.lst (cs.map .int),.int 7]=[some (.val (.lst (cs.map .int))),some (.val (.int 7)),none,none,none]:=rfl;rw[e0];obtain⟨h,hh⟩:∃h:Int,h=(cs.take 1).sum:=⟨_,rfl⟩;obtain⟨m,hm⟩:∃m:Nat,(m:Int)=1+h%7:=⟨(1+h%7).toNat,by omega⟩;have cb:1<=m:=by omega
 have b6:m<=7:=by omega
 have s1:NJ none (some 1) (.lst (cs.map D.int))=.ok (.lst (((cs.take 1).map D.int).map .sh)):=by rw[List.map_take];exact ES _ 1
 have s2:NJ (some 1) (some 25) (.lst (cs.map D.int))=.ok (.lst ((((cs.drop 1).take 24).map D.int).map .sh)):=by rw[List.map_take,List.map_drop];exact RO _ 1 25
 have m7:Eh (.int h) (.int 7)=.ok (.int (h%7)):=AY (by decide);have hlen:((((cs.drop 1).take 24).map D.int)).length<=1000:=by rw[zf,yi];omega
 by_cases j2:1<m
 ·obtain⟨g,hg⟩:∃g:Int->Road,∀c,0<=c->((Fz m (g c)/\(g c).a≠(g c).b)/\E5 [.int c,.int m]=.ok (.sh (Jc (g c)))):=by
   have this:∀c:Int,∃r:Road,0<=c->((Fz m r/\r.a≠r.b)/\E5 [.int c,.int m]=.ok (.sh (Jc r))):=λ c=>by
    by_cases gJ:0<=c
    ·obtain⟨r,hr⟩:=Lx c m (by omega) (by omega) gJ;exact⟨r,λ _=>hr⟩
    ·exact⟨⟨0,0,none,0⟩,λ z=>(gJ z).elim⟩
   exact⟨λ c=>zv (this c),λ c=>zc (this c)⟩
  have gK:∀c∈(cs.drop 1).take 24,0<=c:=λ c ae=>hc c (List.mem_of_mem_drop (List.mem_of_mem_take ae));refine⟨m,((cs.drop 1).take 24).map g,cb,b6,by rw[zf,yi];omega,λ r hr=>?_,ER ?_⟩
  ·obtain⟨c,ae,rfl⟩:=List.mem_map.mp hr;exact (hg c (gK c ae)).1
  apply wp_step
  ·simp_arith[s1];rfl
  rw[<-hh];apply wp_step
  ·simp_arith[m7,<-hm];rfl
  apply wp_step
  ·rfl
  refine BP (I:=λ ρ=>ρ=[some (.val (.lst (cs.map .int))),some (.val (.int 7)),some (.val (.int h)),some (.val (.int m)),some (.val (.lst ((((cs.drop 1).take 24).map g).map Jc)))]) ?_ ?_
  ·have fc:(1:Int)<(m:Int):=by omega
   simp_arith[decide_eq_true fc,s2,if_pos hlen];rw[En (λ c=>Jc (g c)) (λ c ae=>⟨_,rfl,rfl,by
    have:=(hg c (gK c ae)).2;simp_arith[this]⟩)]
   simp_arith[];show _=_;rw[List.map_map];rfl
  rintro ρ rfl;simp_arith[];rfl
 ·refine⟨m,[],cb,b6,by simp,(λ r hr=>by cases hr),ER ?_⟩;apply wp_step
  ·simp_arith[s1];rfl
  rw[<-hh];apply wp_step
  ·simp_arith[m7,<-hm];rfl
  apply wp_step
  ·rfl
  have fc:¬ (1:Int)<(m:Int):=by omega
  apply wp_step
  ·simp_arith[decide_eq_false fc];rfl
  simp_arith[];rfl
noncomputable def Ly:List D->M OT:=zv Eu
theorem Ms:Txt K mg->Ew P w K mg base "_law_map" 3 2 Ly:=(zc Eu).1
theorem Mt:∀(cs:List Int),cs.length<=25->(∀c∈cs,0<=c)->∃(m:Nat) (rs:List Road),1<=m/\m<=7/\rs.length<=24/\(∀r∈rs,Fz m r/\r.a≠r.b)/\Ly [.lst (cs.map .int),.int 7]=.ok (.sh (An m rs)):=(zc Eu).2
theorem CY:∃F:List D->M OT,(∀ {P w K mg base},Txt K mg->Ew P w K mg base "_law_order" 2 2 F)/\(∀(m:Nat) (c:Int),m<=60->∃L:List Int,L.Perm (B5 m)/\F [.int m,.int c]=.ok (.lst ((L.map D.int).map .sh))):=by
 refine⟨_,λ T=>Bw (k:=1) T.Lm CP _ (λ f Bk A outer s H E hr=>(A7 (Gb 2 CP.nd rfl (zM rfl) (TN RH)) (A7 (Cf Ap.toXCall.own rfl (Nw (c:=true) rfl T.S8 (A1 0 (pv 0))) (AI 3 CP.nd rfl (zM rfl)) (A9 (ND 2 (pv 2) (Bd (AO (AJ Ap.toXCall (CV T) (hr.mono (by decide)) rfl (A2 (A1 1 (pv 1)) (A2 (A1 3 (pv 3)) Ah)) rfl)) (Bl (A1 3 (pv 3)) A6)) (A1 3 (pv 3))))) (A9 (Gd 2 (pv 2)))))),?_⟩;intro m c hm;have e0:Ba ["_law_many","_law_cell","_law_order_here","_law_k"] [.int m,.int c]=[some (.val (.int m)),some (.val (.int c)),none,none]:=rfl;rw[e0];refine (λ h:∃t,_/\∃L:List Int,t=OT.lst ((L.map D.int).map .sh)/\L.Perm (B5 m)=>by
  obtain⟨t,h1,L,rfl,h2⟩:=h;exact⟨L,h2,h1⟩) (MU ?_)
 have hr:=OZ (n:=m) (by omega);apply wp_step
 ·rfl
 try simp only[zL,zy]
 refine BP (I:=λ ρ=>∃(L:List Int) (s3:Option Cl),ρ=[some (.val (.int m)),some (.val (.int c)),some (.own (L.map D.int)),s3]/\L.Perm (B5 m)) ?_ ?_
 ·simp_arith[hr];refine BZ (λ i ρ=>i<=m/\∃(L:List Int) (s3:Option Cl),ρ=[some (.val (.int m)),some (.val (.int c)),some (.own (L.map D.int)),s3]/\L.Perm (B5 i)) ⟨zT _,[],none,rfl,.refl _⟩ ?_ ?_
  ·rintro i d ρ hd ⟨_,L,s3,rfl,hL⟩;obtain⟨cn,hi⟩:=GJ hd;rw[Int.zero_add] at cn;subst cn;have hlen:=Q3 hL;refine⟨_,rfl,?_⟩;obtain⟨v,v0,hv⟩:=CW c i (by omega) (by omega);have cb:Eh (.int v) (.int ((i:Int)+1))=.ok (.int (v%((i:Int)+1))):=AY (by omega);have b0:0<=v%((i:Int)+1):=yn _ (by omega);have b1:v%((i:Int)+1)<(i:Int)+1:=Int.emod_lt_of_pos _ (by omega);refine AQ (ρ':=[some (.val (.int m)),some (.val (.int c)),some (.own ((L.take (v%((i:Int)+1)).toNat++(i:Int)::L.drop (v%((i:Int)+1)).toNat).map D.int)),some (.val (.int i))]) ?_ ⟨by omega,_,_,rfl,NQ hL _⟩;simp_arith[hv,cb];rw[if_pos ⟨b0,by rw[zf];omega,by rw[zf];omega⟩];simp only[zS,zh,List.map_take,List.map_drop];rfl
  ·rintro ρ ⟨_,L,s3,rfl,hL⟩;exact⟨L,s3,rfl,by rw[CI] at hL;exact hL⟩
 ·rintro ρ ⟨L,s3,rfl,hL⟩;exact⟨_,rfl,L,rfl,hL⟩
noncomputable def Ia:List D->M OT:=zv CY
theorem Kh:Txt K mg->Ew P w K mg base "_law_order" 2 2 Ia:=(zc CY).1
theorem Ki:∀(m:Nat) (c:Int),m<=60->∃L:List Int,L.Perm (B5 m)/\Ia [.int m,.int c]=.ok (.lst ((L.map D.int).map .sh)):=(zc CY).2
theorem CZ:∃F:OT->List D->M (OT×OT),(∀ {P w K mg base},Txt K mg->FQ P w K mg base "_law_least" 1 3 F)/\(∀(R:RA) (y:Int) (v:Int×Int),R.length<1000->F (Ij R) [.int y,cst (some v)]=.ok (Ij (if bt R y v=true then B8 R y v else R),.sh (.bl (bt R y v)))):=by
 refine⟨_,λ T=>He (k:=0) T.Ln Ka _ (λ f Bk A outer s H E hr=>(A7 (Bf (LV (DW.dt (FL (Gf (c:=true) (B1 hr 16 (by decide)) (A1 1 (pv 1)) (A1 0 (pv 0))) (F9 (Q0 (c:=true) (B1 hr 16 (by decide)) (A1 2 (pv 2)) (Ai (B1 hr 16 (by decide)) (A1 0 (pv 0)) (A1 1 (pv 1)))))))) (A7 (JK (B1 hr 16 (by decide)) (CN 0 (pv 0)) (A1 1 (pv 1)) (A1 2 (pv 2))) (A9 (MQ (Bp De)))) AD) (A9 (MQ (Bp De))))),?_⟩;intro R y v hR;have e0:BY ["_law_found","_law_place","_law_cost"] (Ij R) [.int y,cst (some v)]=[some (.ow (.tree (some 0) (Ij R))),some (.val (.int y)),some (.val (cst (some v)))]:=rfl;rw[e0];refine Mg ?_;have hm:=Me R y true;have hl:(R.map λ kv=>D.int kv.1).length<1000:=by rw[zf];exact hR
 have br:keyOk false (.int y)=true:=rfl;cases q:Av R y with
 |none =>
  have hb:bt R y v=true:=by unfold bt;rw[q]
  rw[q] at hm;rw[hb,if_pos rfl];simp_arith[hm,hl,br,and_self,if_true,Qe,Option.isSome_none,G0];exact⟨rfl,rfl⟩
 |some z =>
  have hx:=Wm v z;have hi:=Mf q;rw[q] at hm;by_cases hc:v.1<z.1\/(v.1=z.1/\v.2<z.2)
  ·have hb:bt R y v=true:=by unfold bt;rw[q];exact decide_eq_true hc
   rw[decide_eq_true hc] at hx;rw[hb,if_pos rfl];simp_arith[hm,hi,hx,hl,br,and_self,if_true,Qe,ya,G0];exact⟨rfl,rfl⟩
  ·have hb:bt R y v=false:=by unfold bt;rw[q];exact decide_eq_false hc
   rw[decide_eq_false hc] at hx;rw[hb,if_neg zA];simp_arith[hm,hi,hx,if_true,ya,G0];exact⟨rfl,rfl⟩
noncomputable def Ib:OT->List D->M (OT×OT):=zv CZ
theorem Kj:Txt K mg->FQ P w K mg base "_law_least" 1 3 Ib:=(zc CZ).1
theorem Kk:∀(R:RA) (y:Int) (v:Int×Int),R.length<1000->Ib (Ij R) [.int y,cst (some v)]=.ok (Ij (if bt R y v=true then B8 R y v else R),.sh (.bl (bt R y v))):=(zc CZ).2
theorem D1:∃F:List D->M OT,(∀ {P w K mg base},Txt K mg->Ew P w K mg base "_law_costs" 2 3 F)/\(∀(m:Nat) (rs:List Road) (s:Int) (W:List Int),m<=20->(∀r∈rs,Fz m r)->0<=s->s<m->∃R:RA,F [An m rs,.int s,.lst (W.map D.int)]=.ok (Ij R)/\V6 m rs s W R):=by
 refine⟨_,λ T=>Bw (k:=1) T.Lo AA _ (λ f Bk A outer s H E hr=>(A7 (Gb 3 AA.nd rfl (zM rfl) (Q1 (A1 1 (pv 1)) (AG (A2 A6 (A2 A6 Ah))))) (A7 (Az 4 AA.nd rfl (zM rfl) De) (A7 (Pe Ap.toXCall.own (JI (c:=true) (A1 4 (pv 4))) (A7 (Az 4 AA.nd rfl (zM rfl) De) (A9 (Cf Ap.toXCall.own rfl (BG (Ai (B1 hr 16 (by decide)) (A1 0 (pv 0)) A6)) (LP (n:=4) rfl (Bg (AI 5 AA.nd rfl (zM rfl)) (Bg (AI 6 AA.nd rfl (zM rfl)) (Bg (AI 7 AA.nd rfl (zM rfl)) (Bg (AI 8 AA.nd rfl (zM rfl)) JA))))) (A9 (Bf (LV (DW.dt (Fb (G7 (c:=true) (A1 7 (pv 7))) (Fb (Hd (c:=true) (B1 hr 16 (by decide)) (A1 5 (pv 5)) (A1 3 (pv 3))) (G8 (DW.dt (FL (GH (c:=true) (B1 hr 16 (by decide)) (A1 5 (pv 5)) (A1 1 (pv 1))) (F9 (Hd (c:=true) (B1 hr 16 (by decide)) (A1 5 (pv 5)) (A1 2 (pv 2))))))))))) (A7 (Az 9 AA.nd rfl (zM rfl) (RD (TQ (c:=true) (AG (A2 (Bl (Ai (B1 hr 16 (by decide)) (Ai (B1 hr 16 (by decide)) (A1 3 (pv 3)) (A1 5 (pv 5))) A6) (A1 7 (pv 7))) (A2 (Bl (Ai (B1 hr 16 (by decide)) (Ai (B1 hr 16 (by decide)) (A1 3 (pv 3)) (A1 5 (pv 5))) A6) A6) Ah)))))) (A9 (RM 4 AA.nd rfl (zM rfl) (Wa (MS Ap.toXCall (Kj T) (hr.mono (by decide)) rfl (CN 3 (pv 3)) (A2 (A1 6 (pv 6)) (A2 (A1 9 (pv 9)) Ah)) rfl) (A1 4 (pv 4)))))) AD)))))) (A9 (Gd 3 (pv 3))))))),?_⟩;intro m rs s W hm As h0 h1;have e0:Ba ["_law_land","_law_start","_law_inner","_law_found","_law_better","_law_one","_law_other","_law_length","_law_width","_law_cost"] [An m rs,.int s,.lst (W.map D.int)]=[some (.val (An m rs)),some (.val (.int s)),some (.val (.lst (W.map D.int))),none,none,none,none,none,none,none]:=rfl;rw[e0];refine (λ h:∃t,_/\∃R:RA,t=Ij R/\V6 m rs s W R=>by
  obtain⟨t,h1,R,rfl,h2⟩:=h;exact⟨R,h1,h2⟩) (MU ?_)
 have n1:Be (An m rs) (.int 1)=.ok (.lst (rs.map Jc)):=rfl;refine wp_step (ρ':=[some (.val (An m rs)),some (.val (.int s)),some (.val (.lst (W.map D.int))),some (.ow (.tree none (Ij [(s,(0,0))]))),none,none,none,none,none,none]) (by rfl) ?_;refine wp_step (ρ':=[some (.val (An m rs)),some (.val (.int s)),some (.val (.lst (W.map D.int))),some (.ow (.tree none (Ij [(s,(0,0))]))),some (.val (.bl true)),none,none,none,none,none]) (by rfl) ?_;refine BP (I:=λ ρ=>∃(R:RA) (s4 s5 s6 s7 s8 s9:Option Cl),ρ=[some (.val (An m rs)),some (.val (.int s)),some (.val (.lst (W.map D.int))),some (.ow (.tree none (Ij R))),s4,s5,s6,s7,s8,s9]/\V6 m rs s W R) ?_ ?_
 ·refine Py (lt:=Xz) (λ z ρ=>∃(R:RA) (s5 s6 s7 s8:Option Cl) (o9:Option D),ρ=[some (.val (An m rs)),some (.val (.int s)),some (.val (.lst (W.map D.int))),some (.ow (.tree none (Ij R))),some (.val (.bl z.2)),s5,s6,s7,s8,vO o9]/\z.1=BE m R/\QG m rs s W R/\(z.2=false->WJ rs s W R)) (Ur (BE m [(s,(0,0))])) ⟨_,none,none,none,none,none,rfl,rfl,QG.start h0 h1,λ e=>by cases e⟩ ?_;rintro ⟨cs,b⟩ ρ ⟨R0,s5,s6,s7,s8,o9,rfl,gL,g,hR⟩;dsimp only at gL;cases b with
  |false=>exact .inl ⟨rfl,R0,_,s5,s6,s7,s8,_,rfl,g.fin (hR rfl)⟩
  |true =>
   refine .inr ⟨rfl,?_⟩;apply wp_step
   ·rfl
   try simp only[zL,zy]
   simp_arith[n1];refine BZ (λ i ρ=>∃(R:RA) (ch:Bool) (s5 s6 s7 s8:Option Cl) (o9:Option D),ρ=[some (.val (An m rs)),some (.val (.int s)),some (.val (.lst (W.map D.int))),some (.ow (.tree none (Ij R))),some (.val (.bl ch)),s5,s6,s7,s8,vO o9]/\QG m rs s W R/\(ch=true->GV ltN (BE m R) (BE m R0))/\(ch=false->R=R0/\WJ (rs.take i) s W R0)) ⟨R0,false,s5,s6,s7,s8,o9,rfl,g,(λ h=>by cases h),λ _=>⟨rfl,λ r hr=>by rw[List.take_zero] at hr;cases hr⟩⟩ ?_ ?_
   ·rintro i d ρ hd ⟨R,ch,s5,s6,s7,s8,o9,rfl,g1,k1,k2⟩;obtain⟨r,hq,rfl⟩:=Bh hd;have hr:=zi hq;have ok:=As r hr;have et:rs.take (i+1)=rs.take i++[r]:=by rw[yx,hq];rfl
    refine⟨_,rfl,?_⟩;have skip:(∀l c,r.l=some l->Av R r.a=some c->(r.a=s\/r.a∈W)->BR (Av R r.b) (some (c.1+l,c.2+1)))->ch=false->R=R0/\WJ (rs.take (i+1)) s W R0:=λ hs hf=>by
     obtain⟨e1,e2⟩:=k2 hf;subst e1;refine⟨rfl,λ r' bC=>?_⟩;rw[et] at bC;rcases zC.mp bC with bC|bC
     ·exact e2 r' bC
     ·rw[zj.mp bC];exact hs
    cases ql:r.l with
    |none =>
     have au:BO (AX none)=true:=rfl;refine AQ (ρ':=_) (by simp_arith[ql,au];rfl) ⟨R,ch,_,_,_,_,_,rfl,g1,k1,skip λ l c e=>by rw[ql] at e;cases e⟩
    |some l =>
     have au:BO (AX (some l))=false:=rfl;have aH:=Me R r.a false;cases qa:Av R r.a with
     |none =>
      rw[qa] at aH;refine AQ (ρ':=_) (by simp_arith[ql,au,aH];rfl) ⟨R,ch,_,_,_,_,_,rfl,g1,k1,skip λ l c _ e=>by rw[qa] at e;cases e⟩
     |some c0 =>
      rw[qa] at aH;have i1:=Mf qa;have j0:Be (cst (some c0)) (.int 0)=.ok (.int c0.1):=rfl;have j1:Be (cst (some c0)) (.int 1)=.ok (.int c0.2):=rfl;have ll:AX (some l)=.int l:=rfl;have tt:D.tup [.int (c0.1+l),.int (c0.2+1)]=cst (some (c0.1+l,c0.2+1)):=rfl;have hlen:R.length<1000:=by
       have:=DY g1.nd (u:=B5 m) λ k hk=>L8.mpr (g1.rg k hk);rw[zf,L7] at this;omega
      have h5:=Kk R r.b (c0.1+l,c0.2+1) hlen;by_cases hi:r.a=s\/r.a∈W
      ·by_cases e1:r.a=s
       ·simp_arith[ql,au,aH,decide_eq_true e1,ya,zu,if_false,if_true];apply wp_step
        ·simp_arith[i1,j0,j1,ll];rfl
        try simp only[zL,zy]
        have h6:=Cz (ρ:=[some (.val (An m rs)),some (.val (.int s)),some (.val (.lst (W.map D.int))),some (.ow (.tree none (Ij R))),some (.val (.bl ch)),some (.val (.int r.a)),some (.val (.int r.b)),some (.val (.int l)),some (.val (.int r.w)),some (.val (cst (some (c0.1+l,c0.2+1))))]) (i:=3) rfl rfl h5;cases hb:bt R r.b (c0.1+l,c0.2+1) with
        |true =>
         rw[hb,if_pos rfl] at h6;obtain⟨g2,g3⟩:=g1.put As hr ql qa hi hb;refine AQ (ρ':=[some (.val (An m rs)),some (.val (.int s)),some (.val (.lst (W.map D.int))),some (.ow (.tree none (Ij (B8 R r.b (c0.1+l,c0.2+1))))),some (.val (.bl true)),some (.val (.int r.a)),some (.val (.int r.b)),some (.val (.int l)),some (.val (.int r.w)),vO (some (cst (some (c0.1+l,c0.2+1))))]) (by
          simp_arith[ll,tt];rw[h6];rfl) ⟨_,true,_,_,_,_,_,rfl,g2,λ _=>?_,λ hf=>by cases hf⟩
         cases ch with
         |false=>obtain⟨e1,_⟩:=k2 rfl;subst e1;exact g3
         |true=>exact GV.trans ltN Jb g3 (k1 rfl)
        |false =>
         rw[hb,if_neg zA] at h6;refine AQ (ρ':=[some (.val (An m rs)),some (.val (.int s)),some (.val (.lst (W.map D.int))),some (.ow (.tree none (Ij R))),some (.val (.bl ch)),some (.val (.int r.a)),some (.val (.int r.b)),some (.val (.int l)),some (.val (.int r.w)),vO (some (cst (some (c0.1+l,c0.2+1))))]) (by
          simp_arith[ll,tt];rw[h6];rfl) ⟨R,ch,_,_,_,_,_,rfl,g1,k1,skip λ l' c' q1 q2 _=>by rw[ql] at q1;cases q1;rw[qa] at q2;cases q2;exact Sy hb⟩
       ·have e2:W.contains r.a=true:=by simpa using hi.resolve_left e1
        simp_arith[ql,au,aH,decide_eq_false e1,e2,ya,zu,if_false,if_true];apply wp_step
        ·simp_arith[i1,j0,j1,ll];rfl
        try simp only[zL,zy]
        have h6:=Cz (ρ:=[some (.val (An m rs)),some (.val (.int s)),some (.val (.lst (W.map D.int))),some (.ow (.tree none (Ij R))),some (.val (.bl ch)),some (.val (.int r.a)),some (.val (.int r.b)),some (.val (.int l)),some (.val (.int r.w)),some (.val (cst (some (c0.1+l,c0.2+1))))]) (i:=3) rfl rfl h5;cases hb:bt R r.b (c0.1+l,c0.2+1) with
        |true =>
         rw[hb,if_pos rfl] at h6;obtain⟨g2,g3⟩:=g1.put As hr ql qa hi hb;refine AQ (ρ':=[some (.val (An m rs)),some (.val (.int s)),some (.val (.lst (W.map D.int))),some (.ow (.tree none (Ij (B8 R r.b (c0.1+l,c0.2+1))))),some (.val (.bl true)),some (.val (.int r.a)),some (.val (.int r.b)),some (.val (.int l)),some (.val (.int r.w)),vO (some (cst (some (c0.1+l,c0.2+1))))]) (by
          simp_arith[ll,tt];rw[h6];rfl) ⟨_,true,_,_,_,_,_,rfl,g2,λ _=>?_,λ hf=>by cases hf⟩
         cases ch with
         |false=>obtain⟨e1,_⟩:=k2 rfl;subst e1;exact g3
         |true=>exact GV.trans ltN Jb g3 (k1 rfl)
        |false =>
         rw[hb,if_neg zA] at h6;refine AQ (ρ':=[some (.val (An m rs)),some (.val (.int s)),some (.val (.lst (W.map D.int))),some (.ow (.tree none (Ij R))),some (.val (.bl ch)),some (.val (.int r.a)),some (.val (.int r.b)),some (.val (.int l)),some (.val (.int r.w)),vO (some (cst (some (c0.1+l,c0.2+1))))]) (by
          simp_arith[ll,tt];rw[h6];rfl) ⟨R,ch,_,_,_,_,_,rfl,g1,k1,skip λ l' c' q1 q2 _=>by rw[ql] at q1;cases q1;rw[qa] at q2;cases q2;exact Sy hb⟩
      ·have e1:¬ r.a=s:=λ e=>hi (.inl e);have e2:W.contains r.a=false:=by simpa using λ e=>hi (.inr e)
       refine AQ (ρ':=_) (by simp_arith[ql,au,aH,decide_eq_false e1,e2];rfl) ⟨R,ch,_,_,_,_,_,rfl,g1,k1,skip λ l c _ _ e=>(hi e).elim⟩
   ·rintro ρ ⟨R,ch,s5,s6,s7,s8,o9,rfl,g1,k1,k2⟩;cases ch with
    |true=>exact⟨(BE m R,true),⟨rfl,.inr ⟨rfl,by rw[gL];exact k1 rfl⟩⟩,R,s5,s6,s7,s8,o9,rfl,rfl,g1,λ e=>by cases e⟩
    |false =>
     obtain⟨e1,e2⟩:=k2 rfl;subst e1;rw[zf,yh] at e2;exact⟨(BE m R,false),⟨rfl,.inl rfl⟩,R,s5,s6,s7,s8,o9,rfl,rfl,g1,λ _=>e2⟩
 ·rintro ρ ⟨R,s4,s5,s6,s7,s8,s9,rfl,hR⟩;exact⟨_,rfl,R,rfl,hR⟩
noncomputable def Ic:List D->M OT:=zv D1
theorem Kl:Txt K mg->Ew P w K mg base "_law_costs" 2 3 Ic:=(zc D1).1
theorem Km:∀(m:Nat) (rs:List Road) (s:Int) (W:List Int),m<=20->(∀r∈rs,Fz m r)->0<=s->s<m->∃R:RA,Ic [An m rs,.int s,.lst (W.map D.int)]=.ok (Ij R)/\V6 m rs s W R:=(zc D1).2
theorem DH:∃F:List D->M OT,(∀ {P w K mg base},Txt K mg->Ew P w K mg base "_law_arcs" 3 2 F)/\(∀(m:Nat) (rs:List Road) (L:List Int),m<=20->L.Perm (B5 m)->(∀r∈rs,Fz m r/\r.a≠r.b)->∃C:CA,F [An m rs,.lst (L.map D.int)]=.ok (QF C)/\(C.map zG).Nodup/\∀p,Av C p=A3 (Am rs L) p):=by
 refine⟨_,λ T=>Bw (k:=2) T.Mo Br _ (λ f Bk A outer s H E hr=>(A7 (Gb 2 Br.nd rfl (zM rfl) (L1 true)) (A7 (Cf Ap.toXCall.own rfl (BG (A1 1 (pv 1))) (AI 3 Br.nd rfl (zM rfl)) (A9 (Cf Ap.toXCall.own rfl (BG (A1 1 (pv 1))) (AI 4 Br.nd rfl (zM rfl)) (A9 (Bf (KN (c:=true) (B1 hr 16 (by decide)) (A1 3 (pv 3)) (A1 4 (pv 4))) (A7 (Az 5 Br.nd rfl (zM rfl) (AO (Cv (A1 1 (pv 1)) EH (CH (MT rfl rfl T.SE (EV (A1 1 (pv 1)) (A1 3 (pv 3))) (EV (A1 1 (pv 1)) (A1 4 (pv 4)))))))) (A7 (Az 6 Br.nd rfl (zM rfl) (AO (AJ Ap.toXCall (Kl T) (hr.mono (by decide)) rfl (A2 (A1 0 (pv 0)) (A2 (A1 3 (pv 3)) (A2 (A1 5 (pv 5)) Ah))) rfl))) (A9 (Bf (Hd (c:=true) (B1 hr 16 (by decide)) (A1 4 (pv 4)) (A1 6 (pv 6))) (A9 (JK (B1 hr 16 (by decide)) (CN 2 (pv 2)) (AG (A2 (A1 3 (pv 3)) (A2 (A1 4 (pv 4)) Ah))) (Ai (B1 hr 16 (by decide)) (A1 6 (pv 6)) (A1 4 (pv 4))))) AD)))) AD))))) (A9 (Gd 2 (pv 2)))))),?_⟩;intro m rs L hm hL As;have hn:=C1 hL;have ce:=(BN hL As).1;have fg:∀r∈rs,Fz m r:=λ r hr=>(As r hr).1;have e0:Ba ["_law_land","_law_order_here","_law_arcs_here","_law_u","_law_w","_law_inner","_law_found"] [An m rs,.lst (L.map D.int)]=[some (.val (An m rs)),some (.val (.lst (L.map D.int))),none,none,none,none,none]:=rfl;rw[e0];refine (λ h:∃t,_/\∃C:CA,t=QF C/\(C.map zG).Nodup/\∀p,Av C p=A3 (Am rs L) p=>by
  obtain⟨t,h1,C,rfl,h2⟩:=h;exact⟨C,h1,h2⟩) (MU ?_)
 refine wp_step (ρ':=[some (.val (An m rs)),some (.val (.lst (L.map D.int))),some (.ow (.tree none (QF []))),none,none,none,none]) (by rfl) ?_;refine BP (I:=λ ρ=>∃(C:CA) (s3 s4 s5 s6:Option Cl),ρ=[some (.val (An m rs)),some (.val (.lst (L.map D.int))),some (.ow (.tree none (QF C))),s3,s4,s5,s6]/\Il L (Am rs L) L 0 [] C) ?_ ?_
 ·simp_arith[];refine BZ (λ i ρ=>∃(C:CA) (s3 s4:Option Cl) (o5 o6:Option D),ρ=[some (.val (An m rs)),some (.val (.lst (L.map D.int))),some (.ow (.tree none (QF C))),s3,s4,vO o5,vO o6]/\Il L (Am rs L) (L.take i) 0 [] C) ⟨[],none,none,none,none,rfl,Il.start⟩ ?_ ?_
  ·rintro i d ρ hd ⟨C0,s3,s4,o5,o6,rfl,iX⟩;obtain⟨u,hu,rfl⟩:=Bh hd;have fj:=zi hu;have gM:=(AR hL).mp fj;have et:L.take (i+1)=L.take i++[u]:=by rw[yx,hu];rfl
   refine⟨_,rfl,?_⟩;rw[et];simp_arith[];refine BZ (λ j ρ=>∃(C:CA) (s4:Option Cl) (o5 o6:Option D),ρ=[some (.val (An m rs)),some (.val (.lst (L.map D.int))),some (.ow (.tree none (QF C))),some (.val (.int u)),s4,vO o5,vO o6]/\Il L (Am rs L) (L.take i) u (L.take j) C) ⟨C0,s4,o5,o6,rfl,iX.any u⟩ ?_ ?_
   ·rintro j d ρ hd ⟨C,s4,o5,o6,rfl,hC⟩;obtain⟨w,hw,rfl⟩:=Bh hd;have fm:=zi hw;have iY:L.take (j+1)=L.take j++[w]:=by rw[yx,hw];rfl
    refine⟨_,rfl,?_⟩;rw[iY];by_cases e:u=w
    ·refine AQ (ρ':=_) (by simp_arith[decide_eq_true e];rfl) ⟨C,_,_,_,rfl,hC.none (.inl e)⟩
    ·have x1:=EW fj;have x2:=EW fm;have mn:=N9 (AS L u) (AS L w);obtain⟨k,hk⟩:∃k,k=min (AS L u) (AS L w):=⟨_,rfl⟩;rw[<-hk] at mn;have sl:NJ none (some (k:Int)) (.lst (L.map D.int))=.ok (.lst (((L.take k).map D.int).map .sh)):=by rw[List.map_take];exact ES _ k
     obtain⟨R,hF,hR⟩:=Km m rs u (L.take k) hm fg gM.1 gM.2;have dr:=UC hL As fj fm e (R:=R) (by rw[<-hk];exact hR);have aH:=Me R w false;simp_arith[decide_eq_false e,if_true];apply wp_step
     ·simp_arith[x1,x2,mn,sl];rfl
     try simp only[zL,zy]
     apply wp_step
     ·simp_arith[hF];rfl
     try simp only[zL,zy]
     cases q:Av R w with
     |none =>
      rw[q] at aH dr;refine AQ (ρ':=_) (by simp_arith[aH];rfl) ⟨C,_,some _,some _,rfl,hC.none (.inr dr.symm)⟩
     |some c =>
      rw[q] at aH dr;have i1:=Mf q;have hl:(C.map λ kv=>pD kv.1).length<1000:=by rw[zf];exact hC.len ce hm
      have br:keyOk true (pD (u,w))=true:=rfl;have t1:D.tup [.int u,.int w]=pD (u,w):=rfl;refine AQ (ρ':=[some (.val (An m rs)),some (.val (.lst (L.map D.int))),some (.ow (.tree none (QF (B8 C (u,w) c)))),some (.val (.int u)),some (.val (.int w)),vO (some (.lst ((L.take k).map D.int))),vO (some (V4 R))]) (by
       simp_arith[aH,i1,t1,hl,br,O0,and_self,if_true,UE,ya,zu,if_false];rfl) ⟨_,_,_,_,rfl,hC.put dr.symm fm e⟩
   ·rintro ρ ⟨C,s4,o5,o6,rfl,hC⟩;rw[zf,yh] at hC;exact⟨C,_,s4,o5,o6,rfl,hC.next 0⟩
  ·rintro ρ ⟨C,s3,s4,o5,o6,rfl,hC⟩;rw[zf,yh] at hC;exact⟨C,s3,s4,_,_,rfl,hC⟩
 ·rintro ρ ⟨C,s3,s4,s5,s6,rfl,hC⟩;exact⟨_,rfl,C,rfl,hC.nd,λ p=>hC.fin hL As p⟩
noncomputable def Ji:List D->M OT:=zv DH
theorem Lz:Txt K mg->Ew P w K mg base "_law_arcs" 3 2 Ji:=(zc DH).1
theorem LB:∀(m:Nat) (rs:List Road) (L:List Int),m<=20->L.Perm (B5 m)->(∀r∈rs,Fz m r/\r.a≠r.b)->∃C:CA,Ji [An m rs,.lst (L.map D.int)]=.ok (QF C)/\(C.map zG).Nodup/\∀p,Av C p=A3 (Am rs L) p:=(zc DH).2
theorem C5:∃F:List D->M OT,(∀ {P w K mg base},Txt K mg->Ew P w K mg base "_law_by_road" 1 3 F)/\(∀(m:Nat) (rs:List Road) (p c:Int×Int),F [An m rs,pD p,cst (some c)]=.ok (.sh (.bl (Qq rs p c)))):=by
 refine⟨_,λ T=>Bw (k:=0) T.IB B6 _ (λ f Bk A outer s H E hr=>(A7 (Cf Ap.toXCall.own rfl (BG (Ai (B1 hr 16 (by decide)) (A1 0 (pv 0)) A6)) (LP (n:=4) rfl (Bg (AI 3 B6.nd rfl (zM rfl)) (Bg (AI 4 B6.nd rfl (zM rfl)) (Bg (AI 5 B6.nd rfl (zM rfl)) (Bg (AI 6 B6.nd rfl (zM rfl)) JA))))) (A9 (Bf (DW.dt (Fb (GH (c:=true) (B1 hr 16 (by decide)) (AG (A2 (A1 3 (pv 3)) (A2 (A1 4 (pv 4)) Ah))) (A1 1 (pv 1))) (Fb (G7 (c:=true) (A1 5 (pv 5))) (G8 (GH (c:=true) (B1 hr 16 (by decide)) (AG (A2 (A1 5 (pv 5)) (A2 A6 Ah))) (A1 2 (pv 2))))))) (A9 (AE (Bp De))) AD))) (A9 (AE (Bp De))))),?_⟩;intro m rs p c;have e0:Ba ["_law_land","_law_pair","_law_cost","_law_one","_law_other","_law_length","_law_width"] [An m rs,pD p,cst (some c)]=[some (.val (An m rs)),some (.val (pD p)),some (.val (cst (some c))),none,none,none,none]:=rfl;rw[e0];refine ER ?_;have n1:Be (An m rs) (.int 1)=.ok (.lst (rs.map Jc)):=rfl;refine BP (I:=λ ρ=>Qq rs p c=false) ?_ ?_
 ·simp_arith[n1];refine BZ (λ i ρ=>∃s3 s4 s5 s6:Option Cl,ρ=[some (.val (An m rs)),some (.val (pD p)),some (.val (cst (some c))),s3,s4,s5,s6]/\Qq (rs.take i) p c=false) ⟨none,none,none,none,rfl,rfl⟩ ?_ ?_
  ·rintro i d ρ hd ⟨s3,s4,s5,s6,rfl,hb⟩;obtain⟨r,hq,rfl⟩:=Bh hd;have hr:=zi hq;have eb:Qq (rs.take (i+1)) p c=decide (r.a=p.1/\r.b=p.2/\Ex r=some c):=by
    unfold Qq at hb ⊢;rw[yx,hq,List.any_append,hb];simp
   refine⟨_,rfl,?_⟩;rw[eb];have t1:D.tup [.int r.a,.int r.b]=pD (r.a,r.b):=rfl;have be:=UG (r.a,r.b) p;have no:¬ (r.a=p.1/\r.b=p.2/\Ex r=some c)->decide (r.a=p.1/\r.b=p.2/\Ex r=some c)=false:=λ h=>decide_eq_false h;by_cases e1:(r.a,r.b)=p
   ·rw[decide_eq_true e1] at be;cases ql:r.l with
    |none =>
     have au:BO (AX none)=true:=rfl;refine AQ (ρ':=_) (by simp_arith[t1,be,ql,au];rfl) ⟨_,_,_,_,rfl,no λ h=>by have:=h.2.2;unfold Ex at this;rw[ql] at this;cases this⟩
    |some l =>
     have au:BO (AX (some l))=false:=rfl;have ll:AX (some l)=.int l:=rfl;have t2:D.tup [.int l,.int 1]=cst (some (l,1)):=rfl;have hd2:=N1 (some (l,1)) (some c);have er:Ex r=some (l,1):=by unfold Ex;rw[ql]
     by_cases e2:some (l,1)=some c
     ·rw[decide_eq_true e2] at hd2;have cq:Qq rs p c=true:=List.any_eq_true.mpr ⟨r,hr,by rw[er,e2,<-e1];simp⟩;simp_arith[t1,be,ql,au,ll,t2,hd2,if_true];rw[cq];rfl
     ·rw[decide_eq_false e2] at hd2;refine AQ (ρ':=_) (by simp_arith[t1,be,ql,au,ll,t2,hd2];rfl) ⟨_,_,_,_,rfl,no λ h=>e2 (er▸h.2.2)⟩
   ·rw[decide_eq_false e1] at be;refine AQ (ρ':=_) (by simp_arith[t1,be];rfl) ⟨_,_,_,_,rfl,no λ h=>e1 (Prod.ext h.1 h.2.1)⟩
  ·rintro ρ ⟨s3,s4,s5,s6,rfl,hb⟩;rw[zf,yh] at hb;exact hb
 ·intro ρ hb;rw[hb];rfl
noncomputable def EZ:List D->M OT:=zv C5
theorem Ie:Txt K mg->Ew P w K mg base "_law_by_road" 1 3 EZ:=(zc C5).1
theorem Ig:∀(m:Nat) (rs:List Road) (p c:Int×Int),EZ [An m rs,pD p,cst (some c)]=.ok (.sh (.bl (Qq rs p c))):=(zc C5).2
theorem Ck:∃F:List D->M OT,(∀ {P w K mg base},Txt K mg->Ew P w K mg base "_law_middle" 1 3 F)/\(∀(C:CA) (L:List Int) (p c:Int×Int),p.1∈L->p.2∈L->Av C p=some c->F [Je C,.lst (L.map D.int),pD p]=.ok (.sh (.int ((Iz C p c (L.take (min (AS L p.1) (AS L p.2)))).getD (-1))))):=by
 refine⟨_,λ T=>Bw (k:=0) T.Kc BH _ (λ f Bk A outer s H E hr=>(A7 (Cf Ap.toXCall.own rfl (BG (AO (Cv (A1 1 (pv 1)) EH (CH (MT rfl rfl T.SE (EV (A1 1 (pv 1)) (Ai (B1 hr 16 (by decide)) (A1 2 (pv 2)) A6)) (EV (A1 1 (pv 1)) (Ai (B1 hr 16 (by decide)) (A1 2 (pv 2)) A6))))))) (AI 3 BH.nd rfl (zM rfl)) (A9 (Bf (DW.dt (Fb (Hd (c:=true) (B1 hr 16 (by decide)) (AG (A2 (Ai (B1 hr 16 (by decide)) (A1 2 (pv 2)) A6) (A2 (A1 3 (pv 3)) Ah))) (A1 0 (pv 0))) (G8 (Hd (c:=true) (B1 hr 16 (by decide)) (AG (A2 (A1 3 (pv 3)) (A2 (Ai (B1 hr 16 (by decide)) (A1 2 (pv 2)) A6) Ah))) (A1 0 (pv 0)))))) (A7 (Az 4 BH.nd rfl (zM rfl) (Ai (B1 hr 16 (by decide)) (A1 0 (pv 0)) (AG (A2 (Ai (B1 hr 16 (by decide)) (A1 2 (pv 2)) A6) (A2 (A1 3 (pv 3)) Ah))))) (A7 (Az 5 BH.nd rfl (zM rfl) (Ai (B1 hr 16 (by decide)) (A1 0 (pv 0)) (AG (A2 (A1 3 (pv 3)) (A2 (Ai (B1 hr 16 (by decide)) (A1 2 (pv 2)) A6) Ah))))) (A9 (Bf (GH (c:=true) (B1 hr 16 (by decide)) (AG (A2 (Bl (Ai (B1 hr 16 (by decide)) (A1 4 (pv 4)) A6) (Ai (B1 hr 16 (by decide)) (A1 5 (pv 5)) A6)) (A2 (Bl (Ai (B1 hr 16 (by decide)) (A1 4 (pv 4)) A6) (Ai (B1 hr 16 (by decide)) (A1 5 (pv 5)) A6)) Ah))) (Ai (B1 hr 16 (by decide)) (A1 0 (pv 0)) (A1 2 (pv 2)))) (A9 (AE (Bp (A1 3 (pv 3))))) AD)))) AD))) (A9 (AE (Bp (OU A6)))))),?_⟩;intro C L p c eC dL hc;have e0:Ba ["_law_arcs_here","_law_order_here","_law_pair","_law_place","_law_one","_law_other"] [Je C,.lst (L.map D.int),pD p]=[some (.val (Je C)),some (.val (.lst (L.map D.int))),some (.val (pD p)),none,none,none]:=rfl;rw[e0];refine ER ?_;have x1:=EW eC;have x2:=EW dL;have mn:=N9 (AS L p.1) (AS L p.2);obtain⟨k,hk⟩:∃k,k=min (AS L p.1) (AS L p.2):=⟨_,rfl⟩;rw[<-hk] at mn ⊢;have sl:NJ none (some (k:Int)) (.lst (L.map D.int))=.ok (.lst (((L.take k).map D.int).map .sh)):=by rw[List.map_take];exact ES _ k
 have p0:Be (pD p) (.int 0)=.ok (.int p.1):=rfl;have p1:Be (pD p) (.int 1)=.ok (.int p.2):=rfl;refine BP (I:=λ ρ=>Iz C p c (L.take k)=none) ?_ ?_
 ·simp_arith[p0,p1,x1,x2,mn,sl];refine BZ (λ i ρ=>∃s3 s4 s5:Option Cl,ρ=[some (.val (Je C)),some (.val (.lst (L.map D.int))),some (.val (pD p)),s3,s4,s5]/\Iz C p c ((L.take k).take i)=none) ⟨none,none,none,rfl,rfl⟩ ?_ ?_
  ·rintro i d ρ hd ⟨s3,s4,s5,rfl,hb⟩;obtain⟨q,hq,rfl⟩:=Bh hd;have es:(L.take k).take (i+1)=(L.take k).take i++[q]:=by rw[yx,hq];rfl
   have no:Bs (Av C (p.1,q)) (Av C (q,p.2))≠some c->Iz C p c ((L.take k).take (i+1))=none:=λ h=>by
    unfold Iz at hb ⊢;rw[es,List.find?_append,hb];simp[h]
   refine⟨_,rfl,?_⟩;have t1:∀a b:Int,D.tup [.int a,.int b]=pD (a,b):=λ a b=>rfl;have m1:=Qc C (p.1,q) false;have m2:=Qc C (q,p.2) false;cases q1:Av C (p.1,q) with
   |none =>
    rw[q1] at m1;refine AQ (ρ':=_) (by simp_arith[p0,p1,t1,m1];rfl) ⟨_,_,_,rfl,no (by rw[q1];cases Av C (q,p.2)<;>exact λ z=>by cases z)⟩
   |some a =>
    cases q2:Av C (q,p.2) with
    |none =>
     rw[q1] at m1;rw[q2] at m2;refine AQ (ρ':=_) (by simp_arith[p0,p1,t1,m1,m2];rfl) ⟨_,_,_,rfl,no (by rw[q1,q2];exact λ z=>by cases z)⟩
    |some b =>
     rw[q1] at m1;rw[q2] at m2;have i1:=K6 q1;have i2:=K6 q2;have i3:=K6 hc;have a0:Be (cst (some a)) (.int 0)=.ok (.int a.1):=rfl;have a1:Be (cst (some a)) (.int 1)=.ok (.int a.2):=rfl;have b0:Be (cst (some b)) (.int 0)=.ok (.int b.1):=rfl;have b1:Be (cst (some b)) (.int 1)=.ok (.int b.2):=rfl;have t3:pD (a.1+b.1,a.2+b.2)=cst (some (a.1+b.1,a.2+b.2)):=rfl;have be:=N1 (some (a.1+b.1,a.2+b.2)) (some c);have gN:Bs (Av C (p.1,q)) (Av C (q,p.2))=some (a.1+b.1,a.2+b.2):=by rw[q1,q2];rfl
     simp_arith[p0,p1,t1,m1,m2,ya,zu,if_false,if_true];apply wp_step
     ·simp_arith[p0,p1,t1,i1];rfl
     try simp only[zL,zy]
     apply wp_step
     ·simp_arith[p0,p1,t1,i2];rfl
     try simp only[zL,zy]
     by_cases e:some (a.1+b.1,a.2+b.2)=some c
     ·rw[decide_eq_true e] at be;have bu:Iz C p c (L.take k)=some q:=by
       unfold Iz at hb ⊢;have e4:L.take k=(L.take k).take i++q::(L.take k).drop (i+1):=by
        conv=>lhs;rw[<-List.take_append_drop i (L.take k)]
        congr 1;exact (List.drop_eq_getElem?_toList_append (l:=L.take k) (i:=i)).trans (by rw[hq];rfl)
       rw[e4,List.find?_append,hb];rw[Option.none_or,List.find?_cons_of_pos];rw[gN];exact decide_eq_true e
      rw[bu];simp_arith[a0,a1,b0,b1,t1,t3,i3,be,if_true];rfl
     ·rw[decide_eq_false e] at be;refine AQ (ρ':=_) (by simp_arith[a0,a1,b0,b1,t1,t3,i3,be];rfl) ⟨_,_,_,rfl,no (by rw[gN];exact e)⟩
  ·rintro ρ ⟨s3,s4,s5,rfl,hb⟩;rw[zf,yh] at hb;exact hb
 ·intro ρ hb;rw[hb];rfl
noncomputable def FT:List D->M OT:=zv Ck
theorem IC:Txt K mg->Ew P w K mg base "_law_middle" 1 3 FT:=(zc Ck).1
theorem ID:∀(C:CA) (L:List Int) (p c:Int×Int),p.1∈L->p.2∈L->Av C p=some c->FT [Je C,.lst (L.map D.int),pD p]=.ok (.sh (.int ((Iz C p c (L.take (min (AS L p.1) (AS L p.2)))).getD (-1)))):=(zc Ck).2
theorem D2:∃F:List D->M OT,(∀ {P w K mg base},Txt K mg->Ew P w K mg base "_law_right" 5 2 F)/\(∀(m:Nat) (rs:List Road) (L:List Int),m<=20->rs.length<=900->L.Perm (B5 m)->(∀r∈rs,Fz m r/\r.a≠r.b)->F [An m rs,.lst (L.map D.int)]=.ok (.sh (.bl true))):=by
 refine⟨_,λ T=>Bw (k:=4) T.Lp By _ (λ f Bk A outer s H E hr=>(A7 (Az 2 By.nd rfl (zM rfl) (AG (A2 (AG (A2 (Ai (B1 hr 16 (by decide)) (A1 0 (pv 0)) A6) (A2 (AO (ML rfl T.Qv (Ai (B1 hr 16 (by decide)) (A1 0 (pv 0)) A6))) Ah))) (A2 (AO (ML rfl T.Qv (A1 1 (pv 1)))) Ah)))) (A7 (Az 3 By.nd rfl (zM rfl) (AO (AJ Ap.toXCall (Mq T) (hr.mono (by decide)) rfl (A2 (Ai (B1 hr 16 (by decide)) (A1 2 (pv 2)) A6) (A2 (Ai (B1 hr 16 (by decide)) (A1 2 (pv 2)) A6) Ah)) rfl))) (A7 (Az 4 By.nd rfl (zM rfl) (AO (AJ Ap.toXCall (Lz T) (hr.mono (by decide)) rfl (A2 (A1 0 (pv 0)) (A2 (A1 1 (pv 1)) Ah)) rfl))) (A7 (Bf (DW.dt (FL (Tt (JI (c:=true) (OX (NK _) rfl T.EX rfl T.Qu (by decide +kernel) (A1 3 (pv 3))))) (FL (KN (c:=true) (B1 hr 16 (by decide)) (Li rfl T.SD (A1 3 (pv 3))) (Li rfl T.SD (A1 4 (pv 4)))) (F9 (KN (c:=true) (B1 hr 16 (by decide)) (A1 2 (pv 2)) (AG (A2 (A1 0 (pv 0)) (A2 (A1 1 (pv 1)) Ah)))))))) (A9 (AE (Bp De))) AD) (A7 (Qp Ap.toXCall.own rfl (Lh (A1 4 (pv 4))) (AI 5 By.nd rfl (zM rfl)) (A7 (Bf (Gf (c:=true) (B1 hr 16 (by decide)) (A1 5 (pv 5)) (A1 3 (pv 3))) (A9 (AE (Bp De))) AD) (A9 (Bf (JI (c:=true) (AO (AJ Ap.toXCall (Ie T) (hr.mono (by decide)) rfl (A2 (A1 0 (pv 0)) (A2 (A1 5 (pv 5)) (A2 (Ai (B1 hr 16 (by decide)) (A1 4 (pv 4)) (A1 5 (pv 5))) Ah))) rfl))) (A9 (Bf (G7 (c:=true) (Ai (B1 hr 16 (by decide)) (A1 3 (pv 3)) (A1 5 (pv 5)))) (A9 (AE (Bp De))) AD)) (A9 (Bf (DW.dt (FL (Jy (c:=true) (Ai (B1 hr 16 (by decide)) (A1 3 (pv 3)) (A1 5 (pv 5)))) (FL (JI (c:=true) (OX (Nt _) rfl T.EX rfl T.UR (by decide +kernel) (Ai (B1 hr 16 (by decide)) (A1 3 (pv 3)) (A1 5 (pv 5))))) (F9 (KN (c:=true) (B1 hr 16 (by decide)) (Ai (B1 hr 16 (by decide)) (A1 3 (pv 3)) (A1 5 (pv 5))) (AO (AJ Ap.toXCall (IC T) (hr.mono (by decide)) rfl (A2 (A1 4 (pv 4)) (A2 (A1 1 (pv 1)) (A2 (A1 5 (pv 5)) Ah))) rfl))))))) (A9 (AE (Bp De))) AD)))))) (A9 (AE (Bp De))))))))),?_⟩;intro m rs L hm iZ hL As;have e0:Ba ["_law_land","_law_order_here","_law_handed","_law_found","_law_arcs_here","_law_pair"] [An m rs,.lst (L.map D.int)]=[some (.val (An m rs)),some (.val (.lst (L.map D.int))),none,none,none,none]:=rfl;rw[e0];refine ER ?_;have ce:=(BN hL As).1;have n0:Be (An m rs) (.int 0)=.ok (.int m):=rfl;have n1:Be (An m rs) (.int 1)=.ok (.lst (rs.map Jc)):=rfl;have nd:D.tup [.int m,.lst (rs.map Jc)]=An m rs:=rfl;have h0:Be (.tup [An m rs,.lst (L.map D.int)]) (.int 0)=.ok (An m rs):=rfl;have h1:Be (.tup [An m rs,.lst (L.map D.int)]) (.int 1)=.ok (.lst (L.map D.int)):=rfl;have gO:=Mr m rs L hm hL As;obtain⟨C,hF,gQ,hC⟩:=LB m rs L hm hL As;have hlen:=Qr ce.nd gQ hC;have bu:=fun {p c:Int×Int} {mid:Option Int}=>UP hL As hC (p:=p) (c:=c) (mid:=mid);have gR:=λ(x y:Int) (c:Int×Int) h=>((BN hL As).2.snd x y c h).2.2;obtain⟨A,hA⟩:∃A,A=Am rs L:=⟨_,rfl⟩;rw[<-hA] at gO hlen hC bu gR;have ja:=UI A;have hpl:Pl 16 (.tup [An m rs,.lst (L.map D.int)]):=GP (n:=15) (Bj ((Ue m rs).le (by omega)) (Bj (Ry (n:=14) _) GQ));have ab:=KR hpl;have l1:=UL A;have l2:=UM C;rw[hlen] at l2;have dG:Dg "dict" (LC A)=.ok (.bl true):=rfl;refine wp_step (ρ':=[some (.val (An m rs)),some (.val (.lst (L.map D.int))),some (.val (.tup [An m rs,.lst (L.map D.int)])),none,none,none]) (by simp_arith[n0,n1,nd];try rfl) ?_;refine wp_step (ρ':=[some (.val (An m rs)),some (.val (.lst (L.map D.int))),some (.val (.tup [An m rs,.lst (L.map D.int)])),some (.val (LC A)),none,none]) (by simp_arith[h0,h1,gO,ja];try rfl) ?_;refine wp_step (ρ':=[some (.val (An m rs)),some (.val (.lst (L.map D.int))),some (.val (.tup [An m rs,.lst (L.map D.int)])),some (.val (LC A)),some (.val (Je C)),none]) (by simp_arith[hF];try rfl) ?_;refine wp_step (ρ':=[some (.val (An m rs)),some (.val (.lst (L.map D.int))),some (.val (.tup [An m rs,.lst (L.map D.int)])),some (.val (LC A)),some (.val (Je C)),none]) (by simp_arith[dG,l1,l2,ab,decide_true];try rfl) ?_;refine BP (I:=λ ρ=>∃s,ρ=[some (.val (An m rs)),some (.val (.lst (L.map D.int))),some (.val (.tup [An m rs,.lst (L.map D.int)])),some (.val (LC A)),some (.val (Je C)),s]) ?_ ?_
 ·simp_arith[UO];refine S1 ?_;refine BZ (λ i ρ=>∃s,ρ=[some (.val (An m rs)),some (.val (.lst (L.map D.int))),some (.val (.tup [An m rs,.lst (L.map D.int)])),some (.val (LC A)),some (.val (Je C)),s]) ⟨none,rfl⟩ ?_ ?_
  ·rintro i d ρ hd ⟨s,rfl⟩;obtain⟨⟨p,c⟩,eY,rfl⟩:=Bh hd;have f2:Av C p=some c:=M8 gQ (zi eY);have f1:A3 A p=some c:=by rw[<-hC];exact f2
   obtain⟨mid,f3⟩:∃mid,Av A p=some (c,mid):=by
    unfold A3 at f1;cases q:Av A p with
    |none=>rw[q] at f1;cases f1
    |some z=>rw[q] at f1;cases f1;exact⟨z.2,rfl⟩
   obtain⟨cb,b6⟩:=bu f3;have hr:=gR p.1 p.2 c f1;have aH:=UJ A p true;rw[f3] at aH;have i1:=K6 f2;have i2:=UK f3;have cq:=Ig m rs p c;refine⟨_,rfl,?_⟩;refine wp_step (ρ':=[some (.val (An m rs)),some (.val (.lst (L.map D.int))),some (.val (.tup [An m rs,.lst (L.map D.int)])),some (.val (LC A)),some (.val (Je C)),some (.val (pD p))]) (by simp_arith[aH,ya,if_true];try rfl) ?_;cases hb:Qq rs p c with
   |true =>
    rw[hb] at cq;have:=cb hb;subst this;have au:BO (AX none)=true:=rfl;refine AQ (ρ':=[some (.val (An m rs)),some (.val (.lst (L.map D.int))),some (.val (.tup [An m rs,.lst (L.map D.int)])),some (.val (LC A)),some (.val (Je C)),some (.val (pD p))]) (by simp_arith[i1,i2,cq,au,G0,if_true];try rfl) ⟨_,rfl⟩
   |false =>
    rw[hb] at cq;obtain⟨q,rfl,hq⟩:=b6 hb;have gU:=ID C L p c ((AR hL).mpr hr.1) ((AR hL).mpr hr.2) f2;rw[hq] at gU;have au:BO (AX (some q))=false:=rfl;have jb:Dg "bool" (AX (some q))=.ok (.bl false):=rfl;have fo:Sj 16 (AX (some q)) (.int ((some q).getD (-1)))=.ok (.bl false):=KR (Bn (n:=16) q);refine AQ (ρ':=[some (.val (An m rs)),some (.val (.lst (L.map D.int))),some (.val (.tup [An m rs,.lst (L.map D.int)])),some (.val (LC A)),some (.val (Je C)),some (.val (pD p))]) (by simp_arith[i1,i2,cq,au,jb,gU,fo,G0,if_true,if_false,zu];try rfl) ⟨_,rfl⟩
  ·rintro ρ ⟨s,rfl⟩;exact⟨s,rfl⟩
 ·rintro ρ ⟨s,rfl⟩;rfl
noncomputable def Ih:List D->M OT:=zv D2
theorem F0:Txt K mg->Ew P w K mg base "_law_right" 5 2 Ih:=(zc D2).1
theorem F1:∀(m:Nat) (rs:List Road) (L:List Int),m<=20->rs.length<=900->L.Perm (B5 m)->(∀r∈rs,Fz m r/\r.a≠r.b)->Ih [An m rs,.lst (L.map D.int)]=.ok (.sh (.bl true)):=(zc D2).2
theorem Mu:∃F:List D->M D,(∀ {P w K mg base f fd},Txt K mg->O6 K "law" "law" D3 f fd->E6 P w K mg base Ra 6 f fd ["_law_script"] (LR K 1 F))/\(∀ns:List Int,ns.length<=63->(∀n∈ns,Sm n)->F [.lst (ns.map D.int)]=.ok (.bl true)):=by
 refine⟨_,fun {P w K mg base f fd} T F=>VW (k:=5) F Kb _ (λ Bk A outer s H E hr=>(A7 (MI (NB:=["_law_cell"]) 1 [none] Kb.nd rfl (zM rfl) rfl (BG (AO (Cv (A1 0 (pv 0)) EH (CH A6)))) rfl rfl (GK 0 (by decide) rfl rfl rfl) (λ _ _ _ _=>JB) (λ _ _ _ _=>(Bd (A1 0 (pv 0)) (LO A6 A6)))) (A7 (Az 2 Kb.nd rfl (zM rfl) (AO (H9 (AJ (GN rfl).toXCall (Ms T) (hr.mono (by decide)) rfl (A2 (A1 1 (pv 1)) (A2 A6 Ah)) rfl)))) (A7 (Az 3 Kb.nd rfl (zM rfl) (AO (H9 (AJ (GN rfl).toXCall (Kh T) (hr.mono (by decide)) rfl (A2 (Ai (B1 hr 16 (by decide)) (A1 2 (pv 2)) A6) (A2 (Px rfl rfl T.SF (A1 1 (pv 1))) Ah)) rfl)))) (A9 (Tx (OQ (Tv (AO (H9 (AJ (GN rfl).toXCall (F0 T) (hr.mono (by decide)) rfl (A2 (A1 2 (pv 2)) (A2 (A1 3 (pv 3)) Ah)) rfl))) (Tu (AO (H9 (AJ (GN rfl).toXCall (F0 T) (hr.mono (by decide)) rfl (A2 (A1 2 (pv 2)) (A2 (TH (A1 3 (pv 3)) (OU A6)) Ah)) rfl)))))))))))),?_⟩;intro ns bK bA;have e0:Ba ["_law_script","_law_cells","_law_land","_law_order_here"] [.lst (ns.map D.int)]=[some (.val (.lst (ns.map D.int))),none,none,none]:=rfl;rw[e0];refine Wd ?_;obtain⟨T,dq,hT⟩:∃T:Int,0<T/\To (.int 10) (.int 60)=.ok (.int T):=⟨10^60,by decide,rfl⟩;have s1:NJ none (some 25) (.lst (ns.map D.int))=.ok (.lst (((ns.take 25).map D.int).map .sh)):=by rw[List.map_take];exact ES _ 25
 have cM:((ns.take 25).map D.int).length<=1000:=by rw[zf,yi];omega
 obtain⟨m,rs,cb,b6,iZ,As,hF⟩:=Mt ((ns.take 25).map λ c=>c%T) (by rw[zf,yi];omega) (λ c hc=>by obtain⟨x,_,rfl⟩:=List.mem_map.mp hc;exact yn _ (by omega));apply wp_step
 ·simp_arith[s1,if_pos cM];rw[En (λ c=>D.int (c%T)) (λ c hc=>⟨_,rfl,rfl,by simp_arith[hT,AY dq]⟩)];simp_arith[];rfl
 have e1:((ns.take 25).map λ c=>D.int (c%T))=((ns.take 25).map λ c=>c%T).map D.int:=by rw[List.map_map];rfl
 rw[e1];apply wp_step
 ·simp_arith[hF];rfl
 have n0:Be (An m rs) (.int 0)=.ok (.int m):=rfl;obtain⟨L,hL,jc⟩:=Ki m ((ns.take 25).map λ c=>c%T).sum (by omega);have jd:L.reverse.Perm (B5 m):=(List.reverse_perm L).trans hL;have r1:=F1 m rs L (by omega) (by omega) hL As;have r2:=F1 m rs L.reverse (by omega) (by omega) jd As;have je:TF (.lst (L.map D.int)) (.int (-1))=.ok (.lst (L.reverse.map D.int)):=by rw[List.map_reverse];rfl
 apply wp_step
 ·simp_arith[n0,jc];rfl
 simp_arith[r1,je,r2,G0,if_true];rfl
noncomputable def QB:List D->M D:=zv Mu
theorem US {P w K mg base f fd}:Txt K mg->O6 K "law" "law" D3 f fd->E6 P w K mg base Ra 6 f fd ["_law_script"] (LR K 1 QB):=(zc Mu).1
theorem UT:∀ns:List Int,ns.length<=63->(∀n∈ns,Sm n)->QB [.lst (ns.map D.int)]=.ok (.bl true):=(zc Mu).2
theorem all_mk {l:PySem.W.OpenLaw}{w:World}{K:za}{h:Heap}{mg:Str->Option Value}{fa:Addr}(X:K.In h)(G:h.Ns mainGlobals mg)(jf:mg "law" = some (.ref fa))
 {fv:Addr} {fw cP:Option Addr} {f6:Array (Option Value)} {f7 cQ cR cS cf cT:Value}
 (p1:FP K "added" K8)
 (p2:FP K "road_cost" Dt)
 (p3:FP K "cost_so_far" Ci)
 (p4:FP K "lay" Qt)
 (p5:FP K "lay_over" Ep)
 (p6:FP K "laid_arcs" Du)
 (p7:FP K "middles" FG)
 (p8:FP K "_law_mixed" Dv)
 (p9:FP K "_law_road" Er)
 (f8:FP K "_law_map" FH)
 (f9:FP K "_law_order" Dw)
 (fA:FP K "_law_least" Dx)
 (fB:FP K "_law_costs" Dy)
 (fC:FP K "_law_arcs" Es)
 (fD:FP K "_law_by_road" Cj)
 (fE:FP K "_law_middle" CQ)
 (fF:FP K "_law_right" Dz)
 (du:zg K mainGlobals "law" = some (some (.ref fv)))
 (fG:K.lookup fv=some ⟨f7,fw,.func (zO "law" "law" (AV D3) (AB D3) (A4 D3) .none cQ cR cS cP cf cT),f6⟩) (fH:yb K cf "law" = true) (fI:zP K (.ref fv)=true)
 (z1:zg K mainGlobals "bool" = some none)
 (z2:zg K mainGlobals "dict" = some none)
 (z3:zg K mainGlobals "enumerate" = some none)
 (z4:zg K mainGlobals "isinstance" = some none)
 (z5:zg K mainGlobals "len" = some none)
 (z6:zg K mainGlobals "list" = some none)
 (z7:zg K mainGlobals "min" = some none)
 (z8:zg K mainGlobals "range" = some none)
 (z9:zg K mainGlobals "sum" = some none):
 ∃fd:FuncData,(∀(s:Shared) (v:Value),BindsTo s fd ⟨[v],[]⟩ [("_law_script",v)])/\∀base:Heap,K.In base->base.Ns mainGlobals mg->E6 l.prog w K mg base Ra 6 fa fd ["_law_script"] (LR K 1 QB):=by
 have e:=jf.symm.trans (PySem.W.mg_of X G du);cases e;have fJ:=LK (st:=D3) fG fH fI;have jg:Bc K mg "law" D3 ["_law_script"]:=⟨_,_,fJ,PySem.W.mg_of X G du,fJ.binds λ _ _ _ _ _ _ us hl=>match us,hl with|[_],_=>rfl⟩;have T:Txt K mg:=⟨BL X G p1,BL X G p2,BL X G p3,BL X G p4,BL X G p5,BL X G p6,BL X G p7,BL X G p8,BL X G p9,BL X G f8,BL X G f9,BL X G fA,BL X G fB,BL X G fC,BL X G fD,BL X G fE,BL X G fF,jg,zU X G z1,zU X G z2,zU X G z3,zU X G z4,zU X G z5,zU X G z6,zU X G z7,zU X G z8,zU X G z9⟩;refine⟨zO "law" "law" (AV D3) (AB D3) (A4 D3) .none cQ cR cS cP cf cT,λ s v=>.of_eq rfl,λ base _ _=>?_⟩;exact US T fJ
set_option maxHeartbeats 0 in
set_option maxHeartbeats 0 in
set_option maxHeartbeats 0 in
set_option maxHeartbeats 0 in
theorem left (w:World):(PySem.W.openEnds treeTable PySem.Challenge.pw_nodeladder_k23_middles_lowest w 6100).map (λ s=>PySem.W.openSeen (BA PySem.Challenge.pw_nodeladder_k23_middles_lowest) [] (importedModules PySem.Challenge.pw_nodeladder_k23_middles_lowest.main.body) (λ s=>PySem.W.xlAt (BA PySem.Challenge.pw_nodeladder_k23_middles_lowest) [] s&&PySem.W.recOk [] s) true s)=some (PySem.W.openGood (BA PySem.Challenge.pw_nodeladder_k23_middles_lowest) []):=by
 rw[N0,Ua,PySem.W.Fast.te4187177175401517315,PySem.W.Fast.te5923862056798008813,PySem.W.Fast.te5403354039363784261];exact JZ (V8 w) (JZ (V9 w) (JZ (Va w) (Vb w)))
set_option maxHeartbeats 0 in
theorem UU (w:World):Ob (Kp R0 PySem.Challenge.pw_nodeladder_k23_middles_lowest w) PySem.Challenge.pw_nodeladder_k23_middles_lowest:=by
 rw[Ua,PySem.W.Fast.te5403354039363784261];exact QH w
set_option maxHeartbeats 0 in
theorem UW (w:World):Oc (Kp R0 PySem.Challenge.pw_nodeladder_k23_middles_lowest w) PySem.Challenge.pw_nodeladder_k23_middles_lowest:=by
 rw[Ua,PySem.W.Fast.te5403354039363784261];exact QI w
theorem walk {l:PySem.W.OpenLaw}{q:Program}{loose:List Str}{XP:(Str->Option Value)->Heap->Prop}{YP:World->Heap->Prop}{d:DefRec}{K:World->za}(hn:l.most=some 63)(bS:d.params.defaults=[])
 (hY:∀(w:World) (h:Heap),YP w h->(K w).In h)
 (F:∀(w:World) (mg:Str->Option Value) (fa:Addr) (h:Heap),(K w).In h->h.Ns mainGlobals mg->mg d.name=some (.ref fa)->
  ∃fd:FuncData,(∀(s:Shared) (u:Value),BindsTo s fd ⟨[u],[]⟩ [("_law_script",u)])/\∀base:Heap,(K w).In base->base.Ns mainGlobals mg->E6 l.prog w (K w) mg base Ra 6 fa fd ["_law_script"] (LR (K w) 1 QB)):
 PySem.W.WalkO q loose XP YP l.row.toRowW d [] (λ f vs=>PySem.call f vs):=
 L2.Wg (n:=63) (k:=6) (x := "_law_script") (CX:=λ _=>Ra) (sp:=λ w=>LR (K w) 1 QB) hn (by decide) bS ⟨rfl,by decide,by decide⟩ hY F (λ w H a ns bA hl _ hS=>RB UT (K w) H a ns bA hl hS) λ _ _ _ _ _ z=>z
end bj
open PySem PySem.W PyProof.Rows L2
set_option maxRecDepth 100000 in
set_option maxHeartbeats 0 in
theorem PySem.Challenge.cw_nodeladder_k23_middles_lowest_holds : PySem.Challenge.rw_nodeladder_k23_middles_lowest.Holds := by
 w_on;o_law
 refine holds_open (q:=BA PySem.Challenge.pw_nodeladder_k23_middles_lowest) (loose:=[]) (Xt:=λ s=>xlAt (BA PySem.Challenge.pw_nodeladder_k23_middles_lowest) [] s&&recOk [] s) (XP:=XL (BA PySem.Challenge.pw_nodeladder_k23_middles_lowest) []) (Yf:=λ s=>s.heap) (Ya:=λ w=>Oa R0 PySem.Challenge.pw_nodeladder_k23_middles_lowest w 6100) (YP:=λ w h=>Wf (Oa R0 PySem.Challenge.pw_nodeladder_k23_middles_lowest w 6100) h) (N:=6100) (RS bj.left) (λ w s e b o q=>by rw[<-e] at q;exact q) (λ w h h' a b c o q=>b c o (a c o q)) (λ s e=>xl_of s (Bool.and_eq_true_iff.mp e).1) XL.keeps (by rfl) (by rfl) (by rfl) (λ s e=>recFacts_of (Bool.and_eq_true_iff.mp e).2) (by rfl) (by first|assumption|decide +kernel) (by decide +kernel) ⟨rfl,rfl,rfl,rfl,rfl,by decide +kernel⟩ ?hw ?hc;case hw=>w_witness2
 case hc =>
  refine bj.walk (l:=PySem.Challenge.rw_nodeladder_k23_middles_lowest) (K:=bj.Kp R0 PySem.Challenge.pw_nodeladder_k23_middles_lowest) rfl rfl (λ w h Y=>Ub Y) ?F;intro w mg fa h KX G bT;obtain⟨p1,p2,p3,p4,p5,p6,p7,p8,p9,f8,f9,fA,fB,fC,fD⟩:=bj.UU w;obtain⟨fE,fF,du,fG,fH,fI,z1,z2,z3,z4,z5,z6,z7,z8,z9⟩:=bj.UW w;exact bj.all_mk KX G bT p1 p2 p3 p4 p5 p6 p7 p8 p9 f8 f9 fA fB fC fD fE fF du fG fH fI z1 z2 z3 z4 z5 z6 z7 z8 z9
