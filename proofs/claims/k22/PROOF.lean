import PyProof.Rows.All
import Wide.All
import OpenK.AllK
import Wide.FinOn
import Lean
import PyProof.EqAt
import PyProof.EqKinds
import PyProof.TupleCall
import PyProof.NeKinds
import KE.KRevSl
import KE.KIsAll
import PyProof.ExcArgsOwn
import PyProof.ExcAttrAll.ValueError
import PyProof.ExcBaseAll.ValueError
import PyProof.FitsBits
import KE.LcSums
import KE.KRevIter
import PyProof.ListRange
import PyProof.Rows.SumAny
import PyProof.Rows.SortWalk
import PyProof.AttrMissHeap
import KE.KDictOf
import PyProof.ZipIter
import PyProof.DictWalks
import KE.KDictList
import KE.KFind
import PySem.Challenge.RW_nodeladder_k22_arcs_by_ways
set_option Elab.async false
set_option linter.all false
set_option maxRecDepth 1000000
open PySem.W renaming Frag→zc,nsIn→zi,mg_none_of→zN,fnOf→zP,keepIn→zQ,codeIn→yc,hideAll_get→yh,kia_one→yo
open List renaming mem_cons_self→zd,mem_cons_of_mem→zf,mem_append_right→zg,length_map→zh,map_cons→zj,mem_of_getElem?→zk,mem_singleton→zl,size_toArray→zm,mem_cons→zo,length_cons→zt,getElem?_eq_getElem→zu,getElem?_map→zy,mem_append_left→zB,mem_append→zE,getElem?_eq_some_iff→zH,set_cons_succ→zI,nodup_append→zJ,getElem?_set_self→zK,getElem?_cons_succ→zM,set_cons_zero→zS,length_append→zT,nodup_cons→zV,map_append→zW,take_of_length_le→zZ,getElem?_append_left→yb,getElem?_set_ne→yd,nodup_nil→yi,append_nil→yk,getElem?_append_right→yl,length_take→ym,length_singleton→yn,range→yt,foldl_cons→yx,find?_cons→yy,append_assoc→y3,any_cons→y4,drop_eq_getElem_cons→y6,take_length→y9,length_drop→yA,drop_length→yB,cons_append→yC
open Classical renaming choose_spec→ze,choose→zA
open Nat renaming le_refl→zp,lt_of_lt_of_le→zw,ne_of_lt→zC,zero_le→zR,le_trans→zY,le_of_lt→yz
open PySem.Heap renaming lt_size→zq,get?_push_of_some→zr,get?_push_size→zG
open Bool renaming false_eq_true→zv,false_ne_true→zD,and_eq_true→zL
open Option.some renaming inj→zx
open Prod renaming fst→zF,snd→yg
open PySem.Builtin.Int renaming intBits→zO
open Ne renaming symm→zU
open Or renaming inl→zX
open Option renaming map_some→ya,isSome_some→yr,isSome_iff_exists→y8
open PySem.W.Fast renaming tw5923862056798008813→ye,tw4187177175401517315→yf
open PySem.Value renaming ref→yj
open Int renaming emod_nonneg→yp
open PyProof.Rows renaming callWith_type1→yq
open PySem.NameKind renaming free→yu
open PySem.Builtin.Dict renaming dictSlotArgs→yv
open PySem.Paired renaming length→yw
open True renaming intro→y2
open PySem renaming mem_of_lookup→y7
open ForInStep renaming yield→yD
section
set_option maxHeartbeats 0
namespace L2
open PySem PySem.Spec PyProof.Rows PySem.W PySem.Calls
noncomputable def AO (s:Stmt):Arguments:=match s with
 | .FunctionDef _ a _ _ _ _ _ _ _ _=>a
 |_=>{posonlyargs:=[],args:=[],vararg:=none,kwonlyargs:=[],kw_defaults:=[],kwarg:=none,defaults:=[]}
noncomputable def AA (s:Stmt):List Stmt:=match s with
 | .FunctionDef _ _ b _ _ _ _ _ _ _=>b
 |_=>[]
noncomputable def A4 (s:Stmt):Scope:=match s with
 | .FunctionDef _ _ _ _ _ _ sc _ _ _=>sc
 |_=>{kind:=.function,names:=[],isGenerator:=false,isCoroutine:=false}
structure FP (K:zc)(x:Str)(st:Stmt):Prop where
 ex:∃(f:Addr) (oc:Value) (od an:Option Addr) (sl:Array (Option Value)) (kV dc pm cd ct:Value),zi K mainGlobals x=some (some (.ref f))/\K.lookup f=some ⟨oc,od,.func (zP x x (AO st) (AA st) (A4 st) .none kV dc pm an cd ct),sl⟩/\yc K cd x=true/\zQ K (.ref f)=true
theorem Vk {K:zc}{x:Str}{st:Stmt}{f:Addr}{oc:Value}{od an:Option Addr}{sl:Array (Option Value)}{kV dc pm cd ct:Value}(a:zi K mainGlobals x=some (some (.ref f)))(l:K.lookup f=some ⟨oc,od,.func (zP x x (AO st) (AA st) (A4 st) .none kV dc pm an cd ct),sl⟩)(c:yc K cd x=true)(k:zQ K (.ref f)=true):FP K x st:=⟨⟨f,oc,od,an,sl,kV,dc,pm,cd,ct,a,l,c,k⟩⟩
structure MP (K:zc)(C:Addr)(m qual:Str)(st:Stmt):Prop where
 ex:∃(f:Addr) (oc:Value) (od an:Option Addr) (sl:Array (Option Value)) (kV dc pm cd ct:Value),PySem.W.findIn K (.ref C) m=some (some (.ref f))/\PySem.W.isFn K (.ref f)=true/\K.lookup f=some ⟨oc,od,.func (zP m qual (AO st) (AA st) (A4 st) .none kV dc pm an cd ct),sl⟩/\yc K cd qual=true/\zQ K (.ref f)=true
theorem XZ {K:zc}{C:Addr}{m qual:Str}{st:Stmt}{f:Addr}{oc:Value}{od an:Option Addr}{sl:Array (Option Value)}{kV dc pm cd ct:Value}(a:PySem.W.findIn K (.ref C) m=some (some (.ref f)))(i:PySem.W.isFn K (.ref f)=true)(l:K.lookup f=some ⟨oc,od,.func (zP m qual (AO st) (AA st) (A4 st) .none kV dc pm an cd ct),sl⟩)(c:yc K cd qual=true)(k:zQ K (.ref f)=true):MP K C m qual st:=⟨⟨f,oc,od,an,sl,kV,dc,pm,cd,ct,a,i,l,c,k⟩⟩
noncomputable def Bn (p:Program):Program:={p with main:={p.main with body:=p.main.body.filter λ s=>match s with | .FunctionDef .. =>true | .ClassDef .. =>true | _=>false} }
structure Rn where
 run:(String->Option Builtin)->Program->World->Nat->Option Value->Nat->Shared->Thread->Option Shared
 ns:Heap->Addr->Str->Option Value
 imp:(String->Option Builtin)->Program->World->Nat->Shared->Thread->Option Shared
 Yo:Program->Shared->Option Shared
 st:Program->Shared×Thread
 tb:String->Option Builtin
noncomputable def Gd (R:Rn)(p:Program)(w:World)(N:Nat):Option Shared:=
 ((R.imp R.tb (opening p) w N (R.st (opening p)).fst (R.st (opening p)).snd).bind (R.Yo p)).bind λ s₀ =>
 match s₀.heap.isNs mainGlobals&&s₀.gens.size==0 with
 |true=>(R.run R.tb p w s₀.heap.objs.size (R.ns s₀.heap mainGlobals (Str.ofString "__annotations__")) N s₀ (topStub p)).bind λ s₁ =>
  match staticsOk (importedModules p.main.body) s₀.heap s₁.heap&&namesBound p s₁.heap&&gensDone s₁&&laidKept s₀.heap s₁.heap with
  |true=>some s₁
  |false=>none
 |false=>none
noncomputable def R1:Rn:=⟨PySem.W.Fast.tw14082659384304107361,PySem.W.Fast.tw8920871248978507458,PySem.W.Fast.tw10274390034422433532,PySem.W.Fast.tw14289696077712309145,PySem.W.Fast.tw1435165496053646825,PySem.W.Fast.tw14364793385576792824⟩
noncomputable def Ol (R:Rn)(p:Program)(w:World)(N:Nat):Heap:=match Gd R p w N with | some s=>s.heap | none=>⟨#[],default⟩
noncomputable def WJ (h:Heap)(as:List Addr):zc:=as.filterMap λ a=>(h.get? a).map λ o=>(a,o)
noncomputable def FG (v:Option (Option Value)):Addr:=match v with | some (some (.ref f))=>f | _=>0
noncomputable def Ir (K:zc)(f:Addr):Obj:=(K.lookup f).getD ⟨.none,none,.plain,#[]⟩
noncomputable def MF (d:Data)(st:Stmt):FuncData:=match d with | .func fd=>fd | _=>zP Str.empty Str.empty (AO st) [] (A4 st) .none .none .none .none none .none .none
theorem AL {K:zc}{x:Str}{st:Stmt}(a:zi K mainGlobals x=some (some (.ref (FG (zi K mainGlobals x)))):=by kernel_rfl)
 (l:K.lookup (FG (zi K mainGlobals x))=some ⟨(Ir K (FG (zi K mainGlobals x))).cls,(Ir K (FG (zi K mainGlobals x))).dict,.func (zP x x (AO st) (AA st) (A4 st) .none (MF (Ir K (FG (zi K mainGlobals x))).data st).kwdefaults (MF (Ir K (FG (zi K mainGlobals x))).data st).doc (MF (Ir K (FG (zi K mainGlobals x))).data st).pyModule (MF (Ir K (FG (zi K mainGlobals x))).data st).annotations (MF (Ir K (FG (zi K mainGlobals x))).data st).code (MF (Ir K (FG (zi K mainGlobals x))).data st).closureTuple),(Ir K (FG (zi K mainGlobals x))).slots⟩:=by kernel_rfl)
 (c:yc K (MF (Ir K (FG (zi K mainGlobals x))).data st).code x=true:=by kernel_rfl) (k:zQ K (.ref (FG (zi K mainGlobals x)))=true:=by kernel_rfl):FP K x st:=Vk a l c k
end L2
namespace bv
open PySem L2
theorem prim:(PySem.W.chainsOk PySem.Challenge.pw_nodeladder_k22_arcs_by_ways||true)=true:=by k_qdec
theorem Vl (w:World):(Gd R1 PySem.W.Fast.tw2869667211042257646 w 6100).map (λ s=>(yf (Bn PySem.W.Fast.tw2869667211042257646) [] (ye PySem.W.Fast.tw2869667211042257646.main.body) (λ s=>PySem.W.xlAt (Bn PySem.W.Fast.tw2869667211042257646) [] s&&PySem.W.recOk [] s) true s).1)=some (PySem.W.openGood (Bn PySem.W.Fast.tw2869667211042257646) []).1:=by kernel_rfl
theorem Vm (w:World):(Gd R1 PySem.W.Fast.tw2869667211042257646 w 6100).map (λ s=>(yf (Bn PySem.W.Fast.tw2869667211042257646) [] (ye PySem.W.Fast.tw2869667211042257646.main.body) (λ s=>PySem.W.xlAt (Bn PySem.W.Fast.tw2869667211042257646) [] s&&PySem.W.recOk [] s) true s).2.1)=some (PySem.W.openGood (Bn PySem.W.Fast.tw2869667211042257646) []).2.1:=by kernel_rfl
theorem Vn (w:World):(Gd R1 PySem.W.Fast.tw2869667211042257646 w 6100).map (λ s=>(yf (Bn PySem.W.Fast.tw2869667211042257646) [] (ye PySem.W.Fast.tw2869667211042257646.main.body) (λ s=>PySem.W.xlAt (Bn PySem.W.Fast.tw2869667211042257646) [] s&&PySem.W.recOk [] s) true s).2.2.1)=some (PySem.W.openGood (Bn PySem.W.Fast.tw2869667211042257646) []).2.2.1:=by kernel_rfl
theorem Vo (w:World):(Gd R1 PySem.W.Fast.tw2869667211042257646 w 6100).map (λ s=>(yf (Bn PySem.W.Fast.tw2869667211042257646) [] (ye PySem.W.Fast.tw2869667211042257646.main.body) (λ s=>PySem.W.xlAt (Bn PySem.W.Fast.tw2869667211042257646) [] s&&PySem.W.recOk [] s) true s).2.2.2)=some (PySem.W.openGood (Bn PySem.W.Fast.tw2869667211042257646) []).2.2.2:=by kernel_rfl
noncomputable def topP (p:Program)(i:Nat):Stmt:=p.main.body.getD i (.Pass ⟨0,0,0,0⟩)
noncomputable def Kp (R:Rn)(p:Program)(w:World):zc:=WJ (Ol R p w 6100) (yt 440)
def Om (K:zc)(p:Program):Prop:=
 (FP K "added" (topP p 1))/\
 (FP K "road_cost" (topP p 2))/\
 (FP K "cost_so_far" (topP p 4))/\
 (FP K "lay" (topP p 5))/\
 (FP K "lay_over" (topP p 6))/\
 (FP K "laid_arcs" (topP p 7))/\
 (FP K "arc_costs" (topP p 8))/\
 (FP K "_law_mixed" (topP p 10))/\
 (FP K "_law_road" (topP p 11))/\
 (FP K "_law_map" (topP p 12))/\
 (FP K "_law_order" (topP p 13))/\
 (FP K "_law_least" (topP p 14))/\
 (FP K "_law_costs" (topP p 15))/\
 (FP K "_law_arcs" (topP p 16))/\
 (FP K "_law_cost" (topP p 17))/\
 (FP K "_law_right" (topP p 18))
theorem QR (w:World):Om (Kp R1 PySem.W.Fast.tw2869667211042257646 w) PySem.W.Fast.tw2869667211042257646:=
 ⟨AL,AL,AL,AL,AL,AL,AL,AL,AL,AL,AL,AL,AL,AL,AL,AL⟩
def Oo (K:zc)(p:Program):Prop:=
 (zi K mainGlobals "law" = some (some (.ref (FG (zi K mainGlobals "law")))))/\
 (K.lookup (FG (zi K mainGlobals "law"))=some ⟨(Ir K (FG (zi K mainGlobals "law"))).cls,(Ir K (FG (zi K mainGlobals "law"))).dict,.func (zP "law" "law" (AO (topP p 19)) (AA (topP p 19)) (A4 (topP p 19)) .none (MF (Ir K (FG (zi K mainGlobals "law"))).data (topP p 19)).kwdefaults (MF (Ir K (FG (zi K mainGlobals "law"))).data (topP p 19)).doc (MF (Ir K (FG (zi K mainGlobals "law"))).data (topP p 19)).pyModule (MF (Ir K (FG (zi K mainGlobals "law"))).data (topP p 19)).annotations (MF (Ir K (FG (zi K mainGlobals "law"))).data (topP p 19)).code (MF (Ir K (FG (zi K mainGlobals "law"))).data (topP p 19)).closureTuple),(Ir K (FG (zi K mainGlobals "law"))).slots⟩)/\
 (yc K (MF (Ir K (FG (zi K mainGlobals "law"))).data (topP p 19)).code "law" = true)/\
 (zQ K (.ref (FG (zi K mainGlobals "law")))=true)/\
 (zi K mainGlobals "all" = some none)/\
 (zi K mainGlobals "bool" = some none)/\
 (zi K mainGlobals "dict" = some none)/\
 (zi K mainGlobals "enumerate" = some none)/\
 (zi K mainGlobals "int" = some none)/\
 (zi K mainGlobals "isinstance" = some none)/\
 (zi K mainGlobals "len" = some none)/\
 (zi K mainGlobals "list" = some none)/\
 (zi K mainGlobals "min" = some none)/\
 (zi K mainGlobals "range" = some none)/\
 (zi K mainGlobals "sum" = some none)/\
 (zi K mainGlobals "tuple" = some none)
theorem QS (w:World):Oo (Kp R1 PySem.W.Fast.tw2869667211042257646 w) PySem.W.Fast.tw2869667211042257646:=
 ⟨by kernel_rfl,by kernel_rfl,by kernel_rfl,by kernel_rfl,by kernel_rfl,by kernel_rfl,by kernel_rfl,by kernel_rfl,by kernel_rfl,by kernel_rfl,by kernel_rfl,by kernel_rfl,by kernel_rfl,by kernel_rfl,by kernel_rfl,by kernel_rfl⟩
end bv
end
set_option Elab.async false
set_option linter.all false
set_option maxRecDepth 100000
namespace L2
open PySem PySem.Spec PyProof.Rows
noncomputable abbrev Key:=Sum Int Str
noncomputable def Iv:Key->Value->Bool
 | .inl k,v=>Value.isInt k v
 | .inr x,v=>Value.isStrOf x v
noncomputable def X5 (w:World):Key->Int
 | .inl k=>hashInt k
 | .inr x=>hashStr w x
theorem AJ:∀ {k:Key}{v:Value},Iv k v=true->(∃i t,k=Sum.inl i/\v=Value.int i t)\/(∃x t,k=Sum.inr x/\v=Value.str x t)
 | .inl i,v,h=>by
  obtain⟨t,e⟩:=Value.isInt_shape (k:=i) (v:=v) h;exact .inl ⟨i,t,rfl,e⟩
 | .inr x,v,h=>by
  obtain⟨t,e⟩:=Value.isStrOf_shape (x:=x) (v:=v) h;exact .inr ⟨x,t,rfl,e⟩
theorem Np (i:Int)(t:Tok):Iv (.inl i) (.int i t)=true:=by simp[Iv,Value.isInt]
theorem Nq (x:Str)(t:Tok):Iv (.inr x) (.str x t)=true:=by simp[Iv,Value.isStrOf]
theorem SQ (a b:Int):decide ((Sum.inl a:Key)=Sum.inl b)=(a==b):=by
 by_cases e:a=b
 ·subst e;simp
 ·have h:¬ (Sum.inl a:Key)=Sum.inl b:=λ q=>e (Sum.inl.inj q);rw[decide_eq_false h];exact (beq_eq_false_iff_ne.mpr e).symm
theorem SR (a b:Str):decide ((Sum.inr a:Key)=Sum.inr b)=decide (a=b):=by
 by_cases e:a=b
 ·subst e;simp
 ·have h:¬ (Sum.inr a:Key)=Sum.inr b:=λ q=>e (Sum.inr.inj q);rw[decide_eq_false h,decide_eq_false e]
theorem SS (a:Int)(b:Str):decide ((Sum.inl a:Key)=Sum.inr b)=false:=decide_eq_false (λ q=>nomatch q)
theorem SU (a:Str)(b:Int):decide ((Sum.inr a:Key)=Sum.inl b)=false:=decide_eq_false (λ q=>nomatch q)
noncomputable def AD (prog:Program)(w:World):PySem.KeyKind prog w Key where
 is:=Iv
 hash:=X5 w
 inj:=λ v a b ha hb=>by
  rcases AJ ha with ⟨i,t,rfl,rfl⟩|⟨x,t,rfl,rfl⟩
  ·rcases AJ hb with ⟨j,u,rfl,e⟩|⟨y,u,rfl,e⟩
   ·injection e with e1 _;rw[e1]
   ·exact nomatch e
  ·rcases AJ hb with ⟨j,u,rfl,e⟩|⟨y,u,rfl,e⟩
   ·exact nomatch e
   ·injection e with e1 _;rw[e1]
 byValue:=λ k v h=>by
  rcases AJ h with ⟨i,t,rfl,rfl⟩|⟨x,t,rfl,rfl⟩<;>rfl
 pyHash:=λ hv h=>by
  rcases AJ hv with ⟨i,t,rfl,rfl⟩|⟨x,t,rfl,rfl⟩
  ·exact wpAny_pyHash_int h
  ·exact wpAny_pyHash_str h
 eqBool:=λ hu hv h=>by
  rcases AJ hu with ⟨i,t,rfl,rfl⟩|⟨x,t,rfl,rfl⟩
  ·rcases AJ hv with ⟨j,u,rfl,rfl⟩|⟨y,u,rfl,rfl⟩
   ·rw[SQ] at h;exact wpAny_eqBool_int h
   ·rw[SS] at h;exact SeqAt.EqAt.int_str i t y u _ _ _ _ h
  ·rcases AJ hv with ⟨j,u,rfl,rfl⟩|⟨y,u,rfl,rfl⟩
   ·rw[SU] at h;exact SeqAt.EqAt.str_int x t j u _ _ _ _ h
   ·rw[SR] at h;exact wpAny_eqBool_str h
 «strs»:=λ k x t v h=>by
  rcases AJ h with ⟨i,u,rfl,e⟩|⟨y,u,rfl,e⟩
  ·exact nomatch e
  ·injection e with e1 _
   subst e1;cases v<;>rfl
theorem Kj (prog:Program)(w:World)(i:Int)(t:Tok):(AD prog w).is (.inl i) (.int i t)=true:=Np i t
theorem Kk (prog:Program)(w:World)(x:Str)(t:Tok):(AD prog w).is (.inr x) (.str x t)=true:=Nq x t
inductive V where
 |Aw|bl (b:Bool)|int (i:Int)|str (x:Str)|Vb (b:Array UInt8)|WK (b:UInt64)|ref (a:Addr)|ty (n:String)
 deriving DecidableEq
def RelV:V->Value->Prop
 | .Aw,u=>u=Value.none
 | .bl b,u=>u=Value.bool b
 | .int i,u=>∃t,u=Value.int i t
 | .str x,u=>∃t,u=Value.str x t
 | .Vb b,u=>∃t,u=Value.bytes b t
 | .WK b,u=>∃t,u=Value.float b t
 | .ref a,u=>u=yj a
 | .ty n,u=>u=Value.type n
noncomputable abbrev Vals:List V->List Value->Prop:=Paired RelV
theorem Vals.length {xs:List V}{us:List Value}(r:Vals xs us):xs.length=us.length:=yw r
theorem Vals.get:∀ {xs:List V}{us:List Value}{i:Nat}{x:V},Vals xs us->xs[i]?=some x->∃u,us[i]?=some u/\RelV x u
 |_,_,_,_,.nil,e=>by simp at e
 |_,_,0,_,.cons r _,e=>by simp at e;subst e;exact⟨_,rfl,r⟩
 |_,_,i+1,x,.cons _ t,e=>by
  obtain⟨u,h1,h2⟩:=Vals.get (i:=i) (x:=x) t (by simpa using e);exact⟨u,by simpa using h1,h2⟩
theorem Vals.append:∀ {xs ys:List V}{us ws:List Value},Vals xs us->Vals ys ws->Vals (xs++ys) (us++ws)
 |_,_,_,_,.nil,s=>s
 |_,_,_,_,.cons r t,s=>.cons r (Vals.append t s)
theorem Vals.take:∀ {xs:List V}{us:List Value}(n:Nat),Vals xs us->Vals (xs.take n) (us.take n)
 |_,_,0,_|_,_,_+1,.nil=>.nil
 |_,_,n+1,.cons r t=>.cons r (Vals.take n t)
theorem Vals.drop:∀ {xs:List V}{us:List Value}(n:Nat),Vals xs us->Vals (xs.drop n) (us.drop n)
 |_,_,0,r=>r
 |_,_,_+1,.nil=>.nil
 |_,_,n+1,.cons _ t=>Vals.drop n t
def Ig:Option V->Option Value->Prop
 |some v,some u=>RelV v u
 |none,none=>True
 |_,_=>False
def KV {κ:Type}:List (κ×V)->List (κ×Value)->Prop:=Paired λ(p:κ×V) (q:κ×Value)=>p.1=q.1/\RelV p.2 q.2
noncomputable def kV:Key->V
 | .inl i=>.int i
 | .inr x=>.str x
inductive HO where
 |lst (xs:List V)
 |tup (xs:List V)
 |dK (kvs:List (Key×V))|dT (kvs:List (List Key×V))
 |set (S:Int->Bool) (n:Nat)
 |ins (C dx:Addr) (fs:List (Str×V))
 |own (x:Addr)
 |xd (fs:List (Str×V))
 |met (f x:Addr)
 |WL (lo hi:Int)
 |Cn (o:Obj) (u:HO)
 |Sk (ps:Array Value)
 |ext (φ:Heap->Prop)
noncomputable abbrev Hp:=Addr->Option HO
noncomputable def upd (H:Hp)(a:Addr)(o:HO):Hp:=λ b=>if b=a then some o else H b
theorem Ae {H:Hp}{a:Addr}{o:HO}:upd H a o a=some o:=by unfold upd;rw[if_pos rfl]
theorem A5 {H:Hp}{a b:Addr}{o:HO}(h:b≠a):upd H a o b=H b:=by unfold upd;rw[if_neg h]
theorem Vp {H:Hp}{a b:Addr}{o u:HO}(h:H a=some o)(h':H b=some u)(d:o≠u):a≠b:=by
 intro e;subst e;rw[h] at h';exact d (zx h')
theorem Au {H:Hp}{a b:Addr}{o:HO}(h:H a=some o)(h':H b=none):a≠b:=by
 intro e;subst e;rw[h] at h';cases h'
section
variable (P:Program) (w:World)
def AF (H:Hp)(h:Heap)(a:Addr):HO->Prop
 | .lst xs=>xs.length<=sizeLine/\∃(aa:List Value) (n:Nat),Vals xs aa/\h.get? a=some {cls:=.type "list",data:=.seq aa.toArray n}
 | .tup xs=>xs.length<=sizeLine/\∃aa:List Value,Vals xs aa/\IsTup h a aa.toArray
 | .dK kvs=>kvs.length<=sizeLine/\(a==sysModules)=false/\∃vs,KV kvs vs/\h.DictOf (AD P w) a vs
 | .dT kvs=>kvs.length<=sizeLine/\(a==sysModules)=false/\∃xs:List (List Key×Addr×Value),
  Paired (λ(p:List Key×V) (q:List Key×Addr×Value)=>p.1=q.1/\H q.2.1=some (.tup (p.1.map kV))/\RelV p.2 q.2.2) kvs xs/\
  ∃o es ep,h.get? a=some o/\o.ExactDict/\o.data=.dict es ep/\es.toList=xs.map (entryOfKey (tupleKind (AD P w)))/\(xs.map (·.1)).Nodup
 | .set S n=>h.SetOf (intKind P w) a S n
 | .ins C dx fs=>H dx=some (.own a)/\fs.length<=1000/\dx≠a/\h.get? a=some (PySem.W.instObj C dx)/\
  ∃mA,h.Ns1 dx mA/\(∀f,Ig (fs.lookup f) (mA f))/\PySem.Within mA (fs.map (·.1))
 | .own _=>∃o,h.get? a=some o
 | .xd fs=>∃mA,h.Ns1 a mA/\∀f,Ig (fs.lookup f) (mA f)
 | .WL lo hi=>∃t u v,h.get? a=some {cls:=.type "range",data:=.fields #[.int lo t,.int hi u,.int 1 v]}
 | .Cn o u=>h.get? a=some o/\AF H h a u
 | .Sk ps=>h.get? a=some {cls:=.none,data:=.fields ps}
 | .met f x=>h.get? a=some (PySem.W.methodObj (.ref f) (.ref x))
 | .ext φ=>φ h/\(∃o,h.get? a=some o)/\∀h1 h2:Heap,φ h1->(∀o,h1.get? a=some o->h2.get? a=some o)->φ h2
def Cp (H:Hp)(h:Heap):Prop:=∀a o,H a=some o->AF P w H h a o
end
section
variable {P:Program}{w:World}{H H':Hp}{h h':Heap}{a:Addr}{o:HO}
theorem AF.lt (x:AF P w H h a o):a<h.objs.size:=by
 cases o with
 |lst xs=>obtain⟨_,_,_,_,e⟩:=x;exact zq e
 |tup xs=>obtain⟨_,_,_,p⟩:=x;exact p.lt
 |dK kvs|dT kvs=>obtain⟨_,_,_,_,o,_,_,e,_⟩:=x;exact zq e
 |set S n=>obtain⟨o,_,_,_,e,_⟩:=x;exact zq e
 |ins C dx fs=>obtain⟨_,_,_,e,_⟩:=x;exact zq e
 |own y=>obtain⟨_,e⟩:=x;exact zq e
 |xd fs=>obtain⟨_,⟨_,_,_,e,_⟩,_⟩:=x;exact zq e
 |WL lo hi=>obtain⟨_,_,_,e⟩:=x;exact zq e
 |Cn ob u=>obtain⟨e,_⟩:=x;exact zq e
 |Sk ps|met f y=>exact zq (show h.get? a=some _ from x)
 |ext φ=>obtain⟨_,⟨_,e⟩,_⟩:=x;exact zq e
theorem Paired.QT {α β:Type}{F G:α->β->Prop}:∀ {l₁:List α}{l₂:List β},Paired F l₁ l₂->(∀a b,F a b->G a b)->Paired G l₁ l₂
 |_,_,.nil,_=>.nil
 |_,_,.cons r t,f=>.cons (f _ _ r) (Paired.QT t f)
theorem AF.Ge (x:AF P w H h a o)(k:∀b u,(b=a\/H b=some (.own a))->h.get? b=some u->h'.get? b=some u)
 (ho:∀b,H b=some (.own a)->H' b=some (.own a)) (ht:∀b xs,H b=some (.tup xs)->H' b=some (.tup xs)):AF P w H' h' a o:=by
 induction o with
 |lst xs=>obtain⟨z,aa,n,r,e⟩:=x;exact⟨z,aa,n,r,k _ _ (.inl rfl) e⟩
 |tup xs=>obtain⟨z,aa,r,ob,e,c⟩:=x;exact⟨z,aa,r,ob,k _ _ (.inl rfl) e,c⟩
 |dK kvs=>obtain⟨z,y,vs,r,ob,es,ep,e,c⟩:=x;exact⟨z,y,vs,r,ob,es,ep,k _ _ (.inl rfl) e,c⟩
 |dT kvs =>
  obtain⟨z,y,xs,r,ob,es,ep,e,c⟩:=x;exact⟨z,y,xs,Paired.QT r λ p q z=>⟨z.1,ht _ _ z.2.1,z.2.2⟩,ob,es,ep,k _ _ (.inl rfl) e,c⟩
 |set S n=>obtain⟨ob,es,ep,t,e,c⟩:=x;exact⟨ob,es,ep,t,k _ _ (.inl rfl) e,c⟩
 |ins C dx fs =>
  obtain⟨d,z,ne,e,mA,⟨od,es,ep,e2,c⟩,r⟩:=x;exact⟨ho _ d,z,ne,k _ _ (.inl rfl) e,mA,⟨od,es,ep,k _ _ (.inr d) e2,c⟩,r⟩
 |own y=>obtain⟨ob,e⟩:=x;exact⟨ob,k _ _ (.inl rfl) e⟩
 |xd fs=>obtain⟨mA,⟨od,es,ep,e,c⟩,r⟩:=x;exact⟨mA,⟨od,es,ep,k _ _ (.inl rfl) e,c⟩,r⟩
 |WL lo hi=>obtain⟨t,u,v,e⟩:=x;exact⟨t,u,v,k _ _ (.inl rfl) e⟩
 |Cn ob u ih=>obtain⟨e,q⟩:=x;exact⟨k _ _ (.inl rfl) e,ih q⟩
 |Sk ps =>
  have e:h.get? a=some {cls:=.none,data:=.fields ps}:=x;show h'.get? a=some {cls:=.none,data:=.fields ps};exact k a _ (.inl rfl) e
 |met f y =>
  have e:h.get? a=some (PySem.W.methodObj (.ref f) (.ref y)):=x;show h'.get? a=some (PySem.W.methodObj (.ref f) (.ref y));exact k a _ (.inl rfl) e
 |ext φ=>obtain⟨p,⟨o,e⟩,st⟩:=x;exact⟨st _ _ p λ o q=>k _ _ (.inl rfl) q,⟨o,k _ _ (.inl rfl) e⟩,st⟩
theorem Cp.lt (x:Cp P w H h)(e:H a=some o):a<h.objs.size:=(x a o e).lt
theorem Cp.fresh (x:Cp P w H h)(e:h.objs.size<=a):H a=none:=by
 cases q:H a with
 |none=>rfl
 |some u=>exact absurd (zw (x.lt q) e) (Nat.lt_irrefl _)
theorem Cp.kept (x:Cp P w H h)(k:∀b u,h.get? b=some u->h'.get? b=some u):Cp P w H h':=λ a o e =>
 (x a o e).Ge (λ b u _ q=>k b u q) (λ _ q=>q) λ _ _ q=>q
theorem Cp.laid (x:Cp P w H h)(k:∀b u,h.get? b=some u->h'.get? b=some u)(hp:h.objs.size<=a)(new:AF P w (upd H a o) h' a o):Cp P w (upd H a o) h':=λ b u e=>by
 have hn:=x.fresh hp;by_cases hb:b=a
 ·subst hb;rw[Ae] at e;cases e;exact new
 ·rw[A5 hb] at e;exact (x b u e).Ge (λ c v _ q=>k c v q) (λ c q=>by rw[A5 (Au q hn)];exact q) λ c xs q=>by rw[A5 (Au q hn)];exact q
end
def Rd (H:Hp)(a:Addr)(u:HO):Prop:=H a=some u\/∃o,H a=some (.Cn o u)
theorem Rd.ok {P:Program}{w:World}{H:Hp}{h:Heap}{a:Addr}{u:HO}(r:Rd H a u)(x:Cp P w H h):AF P w H h a u:=by
 rcases r with r|⟨o,r⟩
 ·exact x a u r
 ·obtain⟨_,q⟩:=x a _ r;exact q
def Vq:Option HO->Prop
 |some (.lst _)|some (.dK _)|some (.dT _)|some (.set _ _)|some (.ins _ _ _)|some (.ext _)=>True
 |_=>False
section
variable {P:Program}{w:World}{H:Hp}{h h':Heap}{x e:Addr}{o':HO}
theorem Cp.write (ok:Cp P w H h)(mu:Vq (H x))(he:e=x\/H e=some (.own x))(k:∀b u,b≠e->h.get? b=some u->h'.get? b=some u)(bA:∃u,h'.get? e=some u)
 (new:AF P w (upd H x o') h' x o'):Cp P w (upd H x o') h':=λ b u q=>by
 have cv:∀c y,H c=some (.own y)->c≠x:=λ c y r z=>by subst z;rw[r] at mu;exact mu
 have d8:∀c xs,H c=some (.tup xs)->c≠x:=λ c xs r z=>by subst z;rw[r] at mu;exact mu
 by_cases hb:b=x
 ·subst hb;rw[Ae] at q;cases q;exact new
 ·rw[A5 hb] at q;by_cases bL:b=e
  ·have q':H b=some (.own x):=by
    rcases he with z|z
    ·exact absurd (bL.trans z) hb
    ·rw[bL];exact z
   rw[q] at q';cases q';obtain⟨v,hv⟩:=bA;exact⟨v,by rw[bL];exact hv⟩
  ·refine (ok b u q).Ge (λ c v hc r=>k c v ?_ r) (λ c r=>by rw[A5 (cv c b r)];exact r) λ c xs r=>by rw[A5 (d8 c xs r)];exact r
   rcases hc with rfl|hc
   ·exact bL
   ·rintro rfl;rcases he with z|z
    ·exact cv c b hc z
    ·rw[hc] at z;cases z;exact hb rfl
end
structure Un (fs ex:List Addr)(H H':Hp)(h h':Heap):Prop where
 keep:∀b o,h.get? b=some o->H b=none->b∉fs->b∉ex->h'.get? b=some o
 slot:∀b o,h.get? b=some o->H b=none->b∈fs->b∉ex->∃sl,h'.get? b=some {o with slots:=sl}
 free:∀b o,h.get? b=some o->H b=none->b∉ex->H' b=none
 there:∀b o,h.get? b=some o->b∉ex->∃o',h'.get? b=some o'
 Gf:∀b xs,H b=some (.tup xs)->H' b=some (.tup xs)
 EZ:∀b o u,H b=some (.Cn o u)->H' b=some (.Cn o u)
 Gg:∀b ps,H b=some (.Sk ps)->∃more,H' b=some (.Sk (ps++more))
section
variable {fs bm ex d9:List Addr}{H H1 H2:Hp}{h h1 h2 h':Heap}{a x e:Addr}{o:HO}
theorem Un.any (u:Un fs ex H H1 h h1){b:Addr}{ob:Obj}(q:h.get? b=some ob)(n:H b=none)(hx:b∉ex):∃sl,h1.get? b=some {ob with slots:=sl}:=by
 by_cases hb:b∈fs
 ·exact u.slot b ob q n hb hx
 ·exact⟨ob.slots,u.keep b ob q n hb hx⟩
theorem Un.kept (k:∀b u,h.get? b=some u->h'.get? b=some u):Un fs ex H H h h':=
 ⟨λ b ob q _ _ _=>k b ob q,λ b ob q _ _ _=>⟨ob.slots,k b ob q⟩,λ _ _ _ n _=>n,λ b ob q _=>⟨ob,k b ob q⟩,λ _ _ q=>q,λ _ _ _ q=>q,λ _ ps q=>⟨#[],by rw[q];simp⟩⟩
theorem Un.refl:Un fs ex H H h h:=Un.kept λ _ _ q=>q
theorem Un.laid (k:∀b u,h.get? b=some u->h'.get? b=some u)(hp:h.objs.size<=a)(hn:H a=none):Un fs ex H (upd H a o) h h' where
 keep:=λ b u q _ _ _=>k b u q
 slot:=λ b u q _ _ _=>⟨u.slots,k b u q⟩
 free:=λ b u q n _=>by rw[A5 (zC (zw (zq q) hp))];exact n
 there:=λ b u q _=>⟨u,k b u q⟩
 Gf:=λ b xs q=>by rw[A5 (Au q hn)];exact q
 EZ:=λ b u xs q=>by rw[A5 (Au q hn)];exact q
 Gg:=λ b ps q=>⟨#[],by rw[A5 (Au q hn),q];simp⟩
theorem Un.write (mu:Vq (H x))(he:e=x\/H e=some (.own x))(k:∀b u,b≠e->h.get? b=some u->h'.get? b=some u)(bA:∃u,h'.get? e=some u):Un fs ex H (upd H x o) h h':=by
 have hx:∀b,H b=none->b≠x:=λ b n z=>by subst z;rw[n] at mu;exact mu
 have hb:∀b,H b=none->b≠e:=λ b n z=>by
  subst z;rcases he with r|r
  ·exact hx b n r
  ·rw[n] at r;cases r
 have hm:∀b u,H b=some u->¬ Vq (some u)->b≠x:=λ b u q nm z=>by subst z;rw[q] at mu;exact nm mu
 refine⟨λ b u q n _ _=>k b u (hb b n) q,λ b u q n _ _=>⟨u.slots,k b u (hb b n) q⟩,λ b u q n _=>by rw[A5 (hx b n)];exact n,λ b u q _=>?_,
  λ b xs q=>by rw[A5 (hm b _ q λ z=>z)];exact q,λ b u xs q=>by rw[A5 (hm b _ q λ z=>z)];exact q,λ b ps q=>⟨#[],by rw[A5 (hm b _ q λ z=>z),q];simp⟩⟩
 by_cases bL:b=e
 ·subst bL;exact bA
 ·exact⟨u,k b u bL q⟩
end
noncomputable def BG (h:Heap)(H:Hp):List Addr:=(yt h.objs.size).filter λ a=>(H a).isSome
noncomputable def J8 (h:Heap)(H:Hp):Heap:=PySem.W.hideAll h (BG h H)
theorem Nr (h:Heap)(H:Hp):(J8 h H).objs.size=h.objs.size:=PySem.W.hideAll_size _ _
theorem Oq {h:Heap}{H:Hp}{b:Addr}{o:Obj}(e:h.get? b=some o)(n:H b=none):(J8 h H).get? b=some o:=
 yh _ e λ hm=>by
  have q:(H b).isSome=true:=(List.mem_filter.mp hm).2;rw[n] at q;simp at q
theorem QU {h:Heap}{H:Hp}{b:Addr}{o:Obj}(e:(J8 h H).get? b=some o):h.get? b=some o/\H b=none:=by
 have e':h.get? b=some o:=PySem.W.of_hideAll (BG h H) e;refine⟨e',?_⟩;cases q:H b with
 |none=>rfl
 |some x =>
  have hm:b∈BG h H:=List.mem_filter.mpr ⟨List.mem_range.mpr (zq e'),by simp[q]⟩;have z:(J8 h H).get? b=none:=PySem.W.hideAll_none (BG h H) hm;rw[z] at e;cases e
noncomputable def QV (g h:Heap)(L:Addr):List (Addr×Obj):=(yt h.objs.size).filterMap λ a=>if a=L\/(g.get? a).isSome=true then none else (h.get? a).map λ o=>(a,o)
noncomputable def rest (g h:Heap)(L d:Addr):List (Addr×Obj):=(QV g h L).filter λ p=>decide (p.1≠d)
structure Mod (K:zc)(mg:Str->Option Value)(base:Heap):Prop where
 X6:K.In base
 glob:base.Ns mainGlobals mg
 blt:∃mb,base.Ns builtinsNs mb/\∀x:Str,x ≠ "__name__" -> mb x=bootBuiltins x
 nolimit:base.NoLimit
structure Cx where
 prog:Program
 w:World
 K:zc
 mg:Str->Option Value
 base:Heap
 A:Around
 N:List Str
 s₀:Shared
 H₀:Hp
 env:Env
 outer:List Env
 stack:List Env
 ex:List Addr
 fn:Str->Bool
 calm:Bool
 pn:List (Addr×Obj)
 xe:Value->Shared->Prop
noncomputable def FH (l:List Env):List Addr:=l.filterMap (·.frame)
noncomputable abbrev Cx.fs (X:Cx):List Addr:=FH X.outer
def X7 (sc:Scope)(x:Str):Prop:=sc.names.lookup x=some .local\/sc.names.lookup x=some .cell\/sc.names.lookup x=some .free
def Loc (sc:Scope)(x:Str):Prop:=sc.names.lookup x=some .local\/sc.names.lookup x=some .cell
def Look (env:Env)(h:Heap)(m:Str->Option Value)(x:Str)(u:Value):Prop:=
 (env.kindOf x=some .local/\m x=some u)\/((env.kindOf x=some .cell\/env.kindOf x=some .free)/\∃c,env.cells.lookup x=some c/\h.IsCell c (some u))
structure Cx.Ok (X:Cx):Prop where
 mod:Mod X.K X.mg X.base
 kind:X.env.scope.kind=.function
 glob:X.env.globals=mainGlobals
 blt:X.env.builtins=builtinsNs
 above:X.s₀.heap.objs.size<=X.env.locals
 inj:∀x y c,X.env.cells.lookup x=some c->X.env.cells.lookup y=some c->x=y
 has:∀x,(X.env.kindOf x=some .cell\/X.env.kindOf x=some .free)->∃c,X.env.cells.lookup x=some c
 Vr:∀x c,X.fn x=true->X.env.cells.lookup x=some c->X.s₀.heap.objs.size<=c
 hd:X.calm=true->X.A.handled=none
 frames:X.A.frames=some X.stack
 Sl:X.stack=X.outer\/(X.stack=X.env::X.outer/\X.env.frame=some X.env.locals)
 WM:∀b∈X.ex,b≠X.env.locals/\∀x c,X.env.cells.lookup x=some c->c≠b
 bs:∀b o,X.base.get? b=some o->X.s₀.heap.get? b=some o/\X.H₀ b=none
 Sn:X.base.objs.size<=X.s₀.heap.objs.size
 Ot:∀b o,X.base.get? b=some o->b∉X.ex
 Ou:∀b∈X.ex,b∉X.fs
 F0:X.s₀.heap.FunFrames X.base X.outer
 Vc:∀b∈X.fs,X.H₀ b=none
structure Inv (X:Cx)(pins:List (Addr×Obj))(σ:List (Option V))(H:Hp)(s:Shared):Prop where
 ok:X.Ok
 os:s.os=X.s₀.os
 bare:AllBare s.gens
 base:Un X.fs X.ex X.H₀ H X.s₀.heap s.heap
 loc:∃m,s.heap.Ns X.env.locals m/\∀(i:Nat) (x:Str) (v:V),X.N[i]?=some x->σ[i]?=some (some v)->X7 X.env.scope x->∃u,RelV v u/\Look X.env s.heap m x u
 cell:∀x c,X.env.cells.lookup x=some c->∃v,s.heap.IsCell c v
 free:H X.env.locals=none
 Cb:∀x c,X.env.cells.lookup x=some c->H c=none
 pin:∀p∈X.pn++pins,s.heap.get? p.1=some p.2/\H p.1=none/\p.1≠X.env.locals/\p.1∉X.fs/\∀v,p.2.data≠.cell v
 An:Cp X.prog X.w H s.heap
 len:σ.length=X.N.length
section
variable {X:Cx}{pins:List (Addr×Obj)}{σ:List (Option V)}{H H':Hp}{s:Shared}{h':Heap}
theorem Cx.Ok.X8 (ok:X.Ok){b:Addr}{o:Obj}(e:X.base.get? b=some o):b∉X.fs:=λ hb=>by
 have:=(ok.F0.mem hb).1;rw[e] at this;cases this
theorem Inv.bs (I:Inv X pins σ H s):∀b o,X.base.get? b=some o->s.heap.get? b=some o/\H b=none:=λ b o e =>
 ⟨I.base.keep b o (I.ok.bs b o e).1 (I.ok.bs b o e).2 (I.ok.X8 e) (I.ok.Ot b o e),I.base.free b o (I.ok.bs b o e).1 (I.ok.bs b o e).2 (I.ok.Ot b o e)⟩
theorem Inv.bk (I:Inv X pins σ H s):∀b o,X.base.get? b=some o->s.heap.get? b=some o:=λ b o e=>(I.bs b o e).1
theorem Inv.mod (I:Inv X pins σ H s):Mod X.K X.mg X.base:=I.ok.mod
theorem Inv.MG (I:Inv X pins σ H s):X.K.In s.heap:=I.ok.mod.X6.keeps I.bk
theorem Inv.fr (I:Inv X pins σ H s):∃m,Fr X.base X.env.locals s.heap m:=
 let ⟨m,hn,_⟩:=I.loc
 ⟨m,hn,I.bk,zY I.ok.Sn I.ok.above⟩
theorem Inv.lt (I:Inv X pins σ H s):X.env.locals<s.heap.objs.size:=let ⟨_,hn,_⟩:=I.loc;hn.lt
theorem Inv.sz (I:Inv X pins σ H s):X.s₀.heap.objs.size<=s.heap.objs.size:=zY I.ok.above (yz I.lt)
theorem Inv.X9 (I:Inv X pins σ H s){a:Addr}(h:s.heap.objs.size<=a):a∉X.fs:=λ hb=>by
 obtain⟨_,o,ho,_⟩:=I.ok.F0.mem hb;exact absurd (zw (zq ho) (zY I.sz h)) (Nat.lt_irrefl _)
theorem Inv.SV (I:Inv X pins σ H s):∀x c,X.env.cells.lookup x=some c->c≠X.env.locals:=λ x c e z=>by
 obtain⟨v,o,ho,hd⟩:=I.cell x c e;obtain⟨m,⟨o',es,ep,bM,aO,_⟩,_⟩:=I.loc;rw[z,bM] at ho;cases ho;rw[aO] at hd;cases hd
theorem Inv.F0 (I:Inv X pins σ H s):s.heap.FunFrames X.base X.outer:=by
 have all:∀(l:List Env),(∀b∈FH l,b∈X.fs)->X.s₀.heap.FunFrames X.base l->s.heap.FunFrames X.base l:=by
  intro l;induction l with
  |nil=>intro _ _;trivial
  |cons env r ih =>
   intro hs hl;obtain⟨hk,⟨L,o,hf,hn,ho,hd⟩,hr⟩:=hl;have hL:L∈X.fs:=hs L (by unfold FH;rw[List.filterMap_cons,hf];exact zd);obtain⟨sl,e⟩:=I.base.slot L o ho (I.ok.Vc L hL) hL λ z=>I.ok.Ou L z hL;exact⟨hk,⟨L,_,hf,hn,e,hd⟩,ih (λ b hb=>hs b (by unfold FH;rw[List.filterMap_cons,hf];exact zf _ hb)) hr⟩
 exact all X.outer (λ _ hb=>hb) I.ok.F0
theorem Inv.stack (I:Inv X pins σ H s):s.heap.FunFrames X.base X.stack:=by
 rcases I.ok.Sl with e|⟨e,hf⟩
 ·rw[e];exact I.F0
 ·rw[e];obtain⟨m,hn,_⟩:=I.loc;refine .cons (by rw[I.ok.kind];decide) hf hn ?_ I.F0;exact Heap.get?_none_of_le (zY I.ok.Sn I.ok.above)
theorem Inv.LF (I:Inv X pins σ H s):∀b∈FH X.stack,b∈X.env.locals::X.fs:=λ b hb=>by
 rcases I.ok.Sl with e|⟨e,hf⟩
 ·rw[e] at hb;exact zf _ hb
 ·rw[e] at hb;unfold FH at hb;rw[List.filterMap_cons,hf] at hb;exact hb
theorem Inv.J9 (I:Inv X pins σ H s):∀b∈FH X.stack,H b=none:=λ b hb=>by
 rcases zo.mp (I.LF b hb) with e|hb
 ·rw[e];exact I.free
 ·obtain⟨_,o,ho,_⟩:=I.ok.F0.mem hb;exact I.base.free b o ho (I.ok.Vc b hb) λ z=>I.ok.Ou b z hb
theorem Inv.step {g':Array GenState}{t':Nat}{d':Drawn}{ch:List Addr}(I:Inv X pins σ H s)
 (bn:∀b∈ch,(b∈X.ex\/X.s₀.heap.objs.size<=b)/\b≠X.env.locals/\(∀x c,X.env.cells.lookup x=some c->c≠b)/\∀p∈X.pn++pins,p.1≠b)
 (keep:∀b o,b≠X.env.locals->b∉X.fs->b∉ch->s.heap.get? b=some o->H b=none->h'.get? b=some o)
 (slot:∀b o,b≠X.env.locals->b∈X.fs->b∉ch->s.heap.get? b=some o->H b=none->∃sl,h'.get? b=some {o with slots:=sl}) (free:∀b o,b∉ch->s.heap.get? b=some o->H b=none->H' b=none)
 (there:∀b o,b∉ch->s.heap.get? b=some o->∃o',h'.get? b=some o')
 (Gf:∀b xs,H b=some (.tup xs)->H' b=some (.tup xs)) (EZ:∀b o u,H b=some (.Cn o u)->H' b=some (.Cn o u)) (Gg:∀b ps,H b=some (.Sk ps)->∃more,H' b=some (.Sk (ps++more)))
 (ns:∀m,s.heap.Ns X.env.locals m->h'.Ns X.env.locals m) (An:Cp X.prog X.w H' h') (hg:AllBare g'):
 Inv X pins σ H' {s with heap:=h',gens:=g',drawn:=d',toks:=t' }:=by
 have fQ:∀b o,X.s₀.heap.get? b=some o->b≠X.env.locals:=λ b o e=>zC (zw (zq e) I.ok.above);have ci:∀b o,X.s₀.heap.get? b=some o->b∉X.ex->b∉ch:=λ b o e hx hb=>by
  rcases (bn b hb).1 with z|z
  ·exact hx z
  ·exact absurd (zw (zq e) z) (Nat.lt_irrefl _)
 have cellK:∀x c,X.env.cells.lookup x=some c->∀v,s.heap.IsCell c v->h'.IsCell c v:=λ x c e v ⟨o,ho,hd⟩=>by
  have cw:c∉ch:=λ z=>(bn c z).2.2.1 x c e rfl;by_cases hc:c∈X.fs
  ·obtain⟨sl,q⟩:=slot c o (I.SV x c e) hc cw ho (I.Cb x c e);exact⟨_,q,hd⟩
  ·exact⟨o,keep c o (I.SV x c e) hc cw ho (I.Cb x c e),hd⟩
 refine⟨I.ok,I.os,hg,⟨λ b o e n hb hx=>?_,λ b o e n hb hx=>?_,λ b o e n hx=>?_,λ b o e hx=>?_,λ b xs e=>Gf b xs (I.base.Gf b xs e),λ b o xs e=>EZ b o xs (I.base.EZ b o xs e),λ b ps e=>?_⟩,?_,λ x c e=>?_,?_,λ x c e=>?_,λ p hp=>?_,An,I.len⟩
 ·exact keep b o (fQ b o e) hb (ci b o e hx) (I.base.keep b o e n hb hx) (I.base.free b o e n hx)
 ·obtain⟨sl,e1⟩:=I.base.slot b o e n hb hx;obtain⟨cY,e2⟩:=slot b _ (fQ b o e) hb (ci b o e hx) e1 (I.base.free b o e n hx);exact⟨cY,e2⟩
 ·obtain⟨o',e1⟩:=I.base.there b o e hx;exact free b o' (ci b o e hx) e1 (I.base.free b o e n hx)
 ·obtain⟨o',e1⟩:=I.base.there b o e hx;exact there b o' (ci b o e hx) e1
 ·obtain⟨m1,e1⟩:=I.base.Gg b ps e;obtain⟨m2,e2⟩:=Gg b _ e1;exact⟨m1++m2,by rw[e2,Array.append_assoc]⟩
 ·obtain⟨m,hn,hl⟩:=I.loc;refine⟨m,ns m hn,λ i x v e1 e2 e3=>?_⟩;obtain⟨u,r,l⟩:=hl i x v e1 e2 e3;refine⟨u,r,?_⟩;rcases l with l|⟨k,c,e,z⟩
  ·exact .inl l
  ·exact .inr ⟨k,c,e,cellK x c e _ z⟩
 ·obtain⟨v,z⟩:=I.cell x c e;exact⟨v,cellK x c e v z⟩
 ·obtain⟨m,⟨o,_,_,ho,_⟩,_⟩:=I.loc;exact free _ o (λ z=>(bn _ z).2.1 rfl) ho I.free
 ·obtain⟨v,o,ho,hd⟩:=I.cell x c e;exact free c o (λ z=>(bn c z).2.2.1 x c e rfl) ho (I.Cb x c e)
 ·obtain⟨e,n,ne,nf,d⟩:=I.pin p hp;have cw:p.1∉ch:=λ z=>(bn p.1 z).2.2.2 p hp rfl;exact⟨keep p.1 p.2 ne nf cw e n,free p.1 p.2 cw e n,ne,nf,d⟩
theorem Inv.un {t':Nat}(I:Inv X pins σ H s)(u:Un X.fs [] H H' s.heap h')(An:Cp X.prog X.w H' h'):Inv X pins σ H' {s with heap:=h',toks:=t' }:=by
 obtain⟨m,⟨o,es,ep,ho,r⟩,_⟩:=id I.loc;obtain⟨sl,hL⟩:=u.any ho I.free (by simp);exact I.step (g':=s.gens) (d':=s.drawn) (ch:=[]) (λ _ z=>nomatch z) (λ b o _ hb _ e n=>u.keep b o e n hb (by simp)) (λ b o _ hb _ e n=>u.slot b o e n hb (by simp)) (λ b o _ e n=>u.free b o e n (by simp)) (λ b o _ e=>u.there b o e (by simp)) u.Gf u.EZ u.Gg (λ m' hm=>by
  obtain⟨o',aP,aI,bM,r'⟩:=hm;rw[ho] at bM;cases bM;exact⟨_,aP,aI,hL,r'⟩) An I.bare
theorem Inv.call {g':Array GenState}{t':Nat}{d':Drawn}{ch:List Addr}(I:Inv X pins σ H s)(u:Un (FH X.stack) ch H H' s.heap h')(An:Cp X.prog X.w H' h')(hg:AllBare g')
 (bn:∀b∈ch,(b∈X.ex\/X.s₀.heap.objs.size<=b)/\b≠X.env.locals/\(∀x c,X.env.cells.lookup x=some c->c≠b)/\∀p∈X.pn++pins,p.1≠b):
 Inv X pins σ H' {s with heap:=h',gens:=g',drawn:=d',toks:=t' }:=by
 obtain⟨m,⟨o,es,ep,ho,r⟩,_⟩:=id I.loc;obtain⟨sl,hL⟩:=u.any ho I.free λ z=>(bn _ z).2.1 rfl;exact I.step (ch:=ch) bn (λ b o hL hb hc e n=>u.keep b o e n (λ z=>(zo.mp (I.LF b z)).elim hL hb) hc) (λ b o _ _ hc e n=>u.any e n hc) (λ b o hc e n=>u.free b o e n hc) (λ b o hc e=>u.there b o e hc) u.Gf u.EZ u.Gg (λ m' hm=>by
  obtain⟨o',aP,aI,bM,r'⟩:=hm;rw[ho] at bM;cases bM;exact⟨_,aP,aI,hL,r'⟩) An hg
theorem Inv.turned {t':Nat}{it:Addr}(I:Inv X pins σ H s)(k:∀b o,b≠it->s.heap.get? b=some o->h'.get? b=some o)(hn:H it=none)(hL:it≠X.env.locals)
 (h1:it∈X.ex\/X.s₀.heap.objs.size<=it) (h2:∀x c,X.env.cells.lookup x=some c->c≠it) (h3:∀p∈X.pn++pins,p.1≠it):Inv X pins σ H {s with heap:=h',toks:=t' }:=by
 have fR:∀b u,H b=some u->b≠it:=λ b u e z=>by rw[z,hn] at e;cases e
 refine I.step (g':=s.gens) (d':=s.drawn) (ch:=[it]) (λ b hb=>?_) (λ b o _ _ hc e _=>k b o (λ z=>hc (by simp[z])) e) (λ b o _ _ hc e _=>⟨o.slots,k b o (λ z=>hc (by simp[z])) e⟩) (λ _ _ _ _ n=>n)
  (λ b o hc e=>⟨o,k b o (λ z=>hc (by simp[z])) e⟩) (λ _ _ e=>e) (λ _ _ _ e=>e) (λ b ps e=>⟨#[],by rw[e];simp⟩) (λ m hm=>?_) (λ b u e=>?_) I.bare
 ·have e:b=it:=by simpa using hb
  subst e;exact⟨h1,hL,h2,h3⟩
 ·obtain⟨o,es,ep,ho,r⟩:=hm;exact⟨o,es,ep,k _ o (zU hL) ho,r⟩
 ·refine (I.An b u e).Ge (λ c v hc q=>k c v ?_ q) (λ _ q=>q) λ _ _ q=>q;rcases hc with z|z
  ·rw[z];exact fR b u e
  ·exact fR c _ z
theorem Inv.tok (I:Inv X pins σ H s)(t:Nat):Inv X pins σ H {s with toks:=t}:=I.un (h':=s.heap) (t':=t) Un.refl I.An
theorem Inv.kept {t':Nat}(I:Inv X pins σ H s)(k:∀b u,s.heap.get? b=some u->h'.get? b=some u):Inv X pins σ H {s with heap:=h',toks:=t' }:=I.un (Un.kept k) (I.An.kept k)
theorem Inv.laid {a:Addr}{o:HO}{t':Nat}(I:Inv X pins σ H s)(k:∀b u,s.heap.get? b=some u->h'.get? b=some u)(hp:s.heap.objs.size<=a)(new:AF X.prog X.w (upd H a o) h' a o):
 Inv X pins σ (upd H a o) {s with heap:=h',toks:=t' }:=I.un (Un.laid k hp (I.An.fresh hp)) (I.An.laid k hp new)
theorem Inv.write {x e:Addr}{o:HO}{t':Nat}(I:Inv X pins σ H s)(mu:Vq (H x))(he:e=x\/H e=some (.own x))(k:∀b u,b≠e->s.heap.get? b=some u->h'.get? b=some u)(bA:∃u,h'.get? e=some u)
 (new:AF X.prog X.w (upd H x o) h' x o):Inv X pins σ (upd H x o) {s with heap:=h',toks:=t' }:=I.un (Un.write mu he k bA) (I.An.write mu he k bA new)
theorem Inv.weak {σ':List (Option V)}(I:Inv X pins σ H s)(hl:σ'.length=σ.length)(w:∀(i:Nat) v,σ'[i]?=some (some v)->σ[i]?=some (some v)):Inv X pins σ' H s:=
 ⟨I.ok,I.os,I.bare,I.base,let ⟨m,hn,dA⟩:=I.loc;⟨m,hn,λ i x v e1 e2 e3=>dA i x v e1 (w i v e2) e3⟩,I.cell,I.free,I.Cb,I.pin,I.An,hl.trans I.len⟩
theorem Inv.Et {bB:List (Addr×Obj)}(I:Inv X pins σ H s)(h:∀p∈bB,s.heap.get? p.1=some p.2/\H p.1=none/\p.1≠X.env.locals/\p.1∉X.fs/\∀v,p.2.data≠.cell v):Inv X bB σ H s:=
 ⟨I.ok,I.os,I.bare,I.base,I.loc,I.cell,I.free,I.Cb,λ p hp=>(zE.mp hp).elim (λ z=>I.pin p (zB _ z)) (h p),I.An,I.len⟩
theorem Kl {N:List Str}(hN:N.Nodup){i j:Nat}{x:Str}(a:N[i]?=some x)(b:N[j]?=some x):i=j:=by
 obtain⟨h1,e1⟩:=zH.mp a;obtain⟨h2,e2⟩:=zH.mp b;exact (List.getElem_inj hN).mp (e1.trans e2.symm)
theorem Iw {M:Model}{A:Around}{E:Value->Shared->Prop}{i:Nat}{x:Str}{v:V}{u:Value}{Q:Unit->Shared->Prop}(I:Inv X pins σ H s)(hN:X.N.Nodup)(hi:X.N[i]?=some x)(hx:Loc X.env.scope x)(r:RelV v u)
 (h:∀s',Inv X pins (σ.set i (some v)) H s'->(∃a,Heap.SameBut a s.heap s'.heap/\(a=X.env.locals\/X.env.cells.lookup x=some a))->Q () s') (hf:X.fn x=true\/X.env.scope.names.lookup x=some .local:=by first|exact .inl rfl|exact .inr rfl|assumption):wpAny M A (storeName X.env x u) Q E s:=by
 obtain⟨m,hn,hl⟩:=id I.loc;have dB:(X.env.scope.kind==.class||(X.env.scope.kind==.module&&X.env.locals != X.env.globals))=false:=by rw[I.ok.kind];rfl
 have hiσ:i<σ.length:=by rw[I.len];exact (zH.mp hi).1
 have SV:=I.SV;have tracked:∀ {a:Addr} {h':Heap},(∃o,s.heap.get? a=some o/\H a=none)->Heap.SameBut a s.heap h'->Cp X.prog X.w H h':=fun {a h'} ha hs b ob e=>by
  obtain⟨_,_,bC⟩:=ha;refine (I.An b ob e).Ge (λ c w' hc q=>(hs.2 c ?_).trans q) (λ _ q=>q) λ _ _ q=>q;rintro rfl;rcases hc with rfl|hc
  ·rw[bC] at e;cases e
  ·rw[bC] at hc;cases hc
 rcases hx with hk|hk
 ·refine wpAny_storeName_local hk hn (λ h' cZ hs=>?_) dB;obtain⟨oL,_,_,dC,_⟩:=id hn;refine h _ ⟨I.ok,I.os,I.bare,⟨λ b o e n hb hx=>?_,λ b o e n hb hx=>?_,I.base.free,λ b o e hx=>?_,I.base.Gf,I.base.EZ,I.base.Gg⟩,⟨_,cZ,λ j y v' e1 e2 e3=>?_⟩,λ y c e=>?_,I.free,I.Cb,λ p hp=>?_,tracked ⟨oL,dC,I.free⟩ hs,by simpa using I.len⟩ ⟨_,hs,.inl rfl⟩
  ·exact (hs.2 b (zC (zw (zq e) I.ok.above))).trans (I.base.keep b o e n hb hx)
  ·obtain⟨sl,e1⟩:=I.base.slot b o e n hb hx;exact⟨sl,(hs.2 b (zC (zw (zq e) I.ok.above))).trans e1⟩
  ·obtain⟨o',e1⟩:=I.base.there b o e hx;exact⟨o',(hs.2 b (zC (zw (zq e) I.ok.above))).trans e1⟩
  ·by_cases hj:j=i
   ·subst hj;rw[hi] at e1;cases e1;rw[zK hiσ] at e2;cases e2;exact⟨u,r,.inl ⟨hk,by simp⟩⟩
   ·rw[yd (zU hj)] at e2;obtain⟨u',r',q⟩:=hl j y v' e1 e2 e3;refine⟨u',r',?_⟩;rcases q with ⟨k,e⟩|⟨k,c,e,z⟩
    ·refine .inl ⟨k,?_⟩;have:y≠x:=λ e=>hj (Kl hN e1 (e▸hi));simp[this,e]
    ·exact .inr ⟨k,c,e,z.sameBut hs (SV y c e)⟩
  ·obtain⟨w',z⟩:=I.cell y c e;exact⟨w',z.sameBut hs (SV y c e)⟩
  ·obtain⟨e,n,ne,nf,d⟩:=I.pin p hp;exact⟨(hs.2 p.1 ne).trans e,n,ne,nf,d⟩
 ·have dD:X.fn x=true:=by
   rcases hf with z|z
   ·exact z
   ·rw[z] at hk;cases hk
  obtain⟨c,hc⟩:=I.ok.has x (.inl hk);obtain⟨w',z⟩:=I.cell x c hc;refine wpAny_storeName_cell I.ok.kind hk hc z (λ h' fS hs=>?_);obtain⟨oc,fT,dE⟩:=id z;refine h {s with heap:=h' } ⟨I.ok,I.os,I.bare,⟨λ b o e n hb hx=>?_,λ b o e n hb hx=>?_,I.base.free,λ b o e hx=>?_,I.base.Gf,I.base.EZ,I.base.Gg⟩,⟨m,hn.sameBut hs (zU (SV x c hc)),λ j y v' e1 e2 e3=>?_⟩,λ y c' e=>?_,I.free,I.Cb,λ p hp=>?_,tracked ⟨oc,fT,I.Cb x c hc⟩ hs,by simpa using I.len⟩ ⟨c,hs,.inr hc⟩
  ·exact (hs.2 b (zC (zw (zq e) (I.ok.Vr x c dD hc)))).trans (I.base.keep b o e n hb hx)
  ·obtain⟨sl,e1⟩:=I.base.slot b o e n hb hx;exact⟨sl,(hs.2 b (zC (zw (zq e) (I.ok.Vr x c dD hc)))).trans e1⟩
  ·obtain⟨o',e1⟩:=I.base.there b o e hx;exact⟨o',(hs.2 b (zC (zw (zq e) (I.ok.Vr x c dD hc)))).trans e1⟩
  ·by_cases hj:j=i
   ·subst hj;rw[hi] at e1;cases e1;rw[zK hiσ] at e2;cases e2;exact⟨u,r,.inr ⟨.inl hk,c,hc,fS⟩⟩
   ·rw[yd (zU hj)] at e2;obtain⟨u',r',q⟩:=hl j y v' e1 e2 e3;refine⟨u',r',?_⟩;rcases q with q|⟨k,c',e,z'⟩
    ·exact .inl q
    ·refine .inr ⟨k,c',e,z'.sameBut hs ?_⟩;rintro rfl;exact hj (Kl hN e1 (I.ok.inj _ _ _ e hc▸hi))
  ·by_cases fU:c'=c
   ·subst fU;exact⟨_,fS⟩
   ·obtain⟨w2,z2⟩:=I.cell y c' e;exact⟨w2,z2.sameBut hs fU⟩
  ·obtain⟨e,n,ne,nf,d⟩:=I.pin p hp;refine⟨(hs.2 p.1 ?_).trans e,n,ne,nf,d⟩;intro q;rw[q,fT] at e;have q':oc=p.2:=zx e;exact d w' (by rw[<-q'];exact dE)
theorem Km {M:Model}{A:Around}{E:Value->Shared->Prop}{i:Nat}{x:Str}{v:V}{u:Value}{Q:Unit->Shared->Prop}(I:Inv X pins σ H s)(hN:X.N.Nodup)(hi:X.N[i]?=some x)(hx:Loc X.env.scope x)(r:RelV v u)
 (h:∀s',Inv X pins (σ.set i (some v)) H s'->Q () s') (hf:X.fn x=true\/X.env.scope.names.lookup x=some .local:=by first|exact .inl rfl|exact .inr rfl|assumption):wpAny M A (storeName X.env x u) Q E s:=
 Iw I hN hi hx r (λ s' I' _=>h s' I') hf
theorem Inv.So {s':Shared}{ch:List Addr}(I:Inv X pins σ H s)(ho:s'.os=s.os)(u:Un (FH X.stack) ch H H' s.heap s'.heap)(An:Cp X.prog X.w H' s'.heap)(hg:AllBare s'.gens)
 (bn:∀b∈ch,(b∈X.ex\/X.s₀.heap.objs.size<=b)/\b≠X.env.locals/\(∀x c,X.env.cells.lookup x=some c->c≠b)/\∀p∈X.pn++pins,p.1≠b):Inv X pins σ H' s':=by
 obtain⟨h',g',d',t',o'⟩:=s';have e:o'=s.os:=ho;subst e;exact I.call (g':=g') (t':=t') (d':=d') u An hg bn
end
noncomputable abbrev XK:=Value->Option Addr->Hp->Prop
noncomputable abbrev St:=List (Option V)
noncomputable abbrev VK:=V->Hp->Prop
noncomputable abbrev TE:=St->Hp->VK->Prop
noncomputable abbrev TT:=St->Hp->(Bool->Hp->Prop)->Prop
noncomputable abbrev TA:=St->Hp->(List V->Hp->Prop)->Prop
structure Ends where
 nx:St->Hp->Prop
 rt:VK
 bk:St->Hp->Prop:=λ _ _=>False
 ct:St->Hp->Prop:=λ _ _=>False
noncomputable abbrev TS:=Ends->St->Hp->Prop
def EP (X:Cx)(pins:List (Addr×Obj))(σ:St)(Q:VK)(u:Value)(s':Shared):Prop:=∃v H',Inv X pins σ H' s'/\RelV v u/\Q v H'
def TP (X:Cx)(pins:List (Addr×Obj))(σ:St)(Q:Bool->Hp->Prop)(b:Bool)(s':Shared):Prop:=∃H',Inv X pins σ H' s'/\Q b H'
def AP (X:Cx)(pins:List (Addr×Obj))(σ:St)(Q:List V->Hp->Prop)(us:List Value)(s':Shared):Prop:=∃vs H',Inv X pins σ H' s'/\Vals vs us/\Q vs H'
def SP (X:Cx)(pins:List (Addr×Obj))(D:Ends)(f:Flow)(s':Shared):Prop:=
 match f with
 | .next=>∃σ' H',Inv X pins σ' H' s'/\D.nx σ' H'
 | .brk=>∃σ' H',Inv X pins σ' H' s'/\D.bk σ' H'
 | .cont=>∃σ' H',Inv X pins σ' H' s'/\D.ct σ' H'
 | .ret u=>∃v σ' H',Inv X pins σ' H' s'/\RelV v u/\D.rt v H'
def PE (X:Cx)(e:Expr)(t:TE):Prop:=
 ∀(pins:List (Addr×Obj)) (s:Shared) (σ:St) (H:Hp) (Q:VK),Inv X pins σ H s->t σ H Q->wpAny (model X.prog X.w) X.A (eval e X.env) (EP X pins σ Q) X.xe s
def PT (X:Cx)(e:Expr)(t:TT):Prop:=
 ∀(pins:List (Addr×Obj)) (s:Shared) (σ:St) (H:Hp) (Q:Bool->Hp->Prop),Inv X pins σ H s->t σ H Q->wpAny (model X.prog X.w) X.A (isTrue e X.env (eval e X.env)) (TP X pins σ Q) X.xe s
def PW (X:Cx)(e:Expr)(t:TT):Prop:=
 ∀(whole:Sem Value) (pins:List (Addr×Obj)) (s:Shared) (σ:St) (H:Hp) (Q:Bool->Hp->Prop),Inv X pins σ H s->t σ H Q->wpAny (model X.prog X.w) X.A (isTrue e X.env whole) (TP X pins σ Q) X.xe s
theorem PW.pt {X:Cx}{e:Expr}{t:TT}(h:PW X e t):PT X e t:=h _
def PA (X:Cx)(es:List Expr)(t:TA):Prop:=
 ∀(pos:Pos) (pins:List (Addr×Obj)) (s:Shared) (σ:St) (H:Hp) (Q:List V->Hp->Prop),Inv X pins σ H s->t σ H Q->wpAny (model X.prog X.w) X.A (spliced (backTo pos (starEach es X.env))) (AP X pins σ Q) X.xe s
def PS (X:Cx)(st:Stmt)(t:TS):Prop:=
 ∀(pins:List (Addr×Obj)) (s:Shared) (σ:St) (H:Hp) (D:Ends),Inv X pins σ H s->t D σ H->wpAny (model X.prog X.w) X.A (exec st X.env) (SP X pins D) X.xe s
def MH (X:Cx)(st:List Stmt)(t:TS):Prop:=
 ∀(pins:List (Addr×Obj)) (s:Shared) (σ:St) (H:Hp) (D:Ends),Inv X pins σ H s->t D σ H->wpAny (model X.prog X.w) X.A (execs st X.env) (SP X pins D) X.xe s
theorem AV {α:Type}{t:Sem α}{Q Q':α->Shared->Prop}{M:Model}{A:Around}{E:Value->Shared->Prop}{s:Shared}(h:wpAny M A t Q E s)(hQ:∀a s,Q a s->Q' a s):wpAny M A t Q' E s:=wpAny_mono h hQ λ _ _ x=>x
section
variable {X:Cx}
theorem bin {a b:Expr}{ta tb:TE}(ha:PE X a ta)(hb:PE X b tb){pins:List (Addr×Obj)}{s:Shared}{σ:St}{H:Hp}{R:V->V->Hp->Prop}(I:Inv X pins σ H s)(h:ta σ H λ x H1=>tb σ H1 λ y H2=>R x y H2)
 {α:Type} {Q:α->Shared->Prop} {f:Value->Value->Sem α}
 (hf:∀v u s2 x y H2,Inv X pins σ H2 s2->RelV x v->RelV y u->R x y H2->wpAny (model X.prog X.w) X.A (f v u) Q X.xe s2):
 wpAny (model X.prog X.w) X.A (eval a X.env) (λ v s₁=>wpAny (model X.prog X.w) X.A (eval b X.env) (λ u s₂=>wpAny (model X.prog X.w) X.A (f v u) Q X.xe s₂) X.xe s₁) X.xe s:=by
 refine AV (ha pins s σ H _ I h) λ v s1 ⟨x,H1,I1,r1,q1⟩=>?_;refine AV (hb pins s1 σ H1 _ I1 q1) λ u s2 ⟨y,H2,I2,r2,q2⟩=>?_;exact hf v u s2 x y H2 I2 r1 r2 q2
noncomputable def Nt (i:Nat):TE:=λ σ H Q=>∃v,σ[i]?=some (some v)/\Q v H
noncomputable def tC (v:V):TE:=λ _ H Q=>Q v H
theorem SW {i:Nat}{x:Str}{pos:Pos}(hN:X.N[i]?=some x)(hv:X7 X.env.scope x)(hd:(x==("__debug__" : Str))=false:=by decide)(a4:(x==("__classdict__" : Str))=false:=by decide):PE X (.Name x pos) (Nt i):=by
 intro pins s σ H Q I h;obtain⟨v,e,h⟩:=h;obtain⟨m,hn,hl⟩:=I.loc;obtain⟨u,r,l⟩:=hl i x v hN e hv;have fin:EP X pins σ Q u s:=⟨v,H,I,r,h⟩;rcases l with ⟨hk,hm⟩|⟨hk,c,hc,aF⟩
 ·exact wpAny_Name (wpAny_loadName_local I.ok.kind hk hn hm fin) hd
 ·rcases hk with hk|hk
  ·exact wpAny_Name (wpAny_loadName_cell I.ok.kind hk hc aF fin) hd
  ·exact wpAny_Name (wpAny_loadName_free I.ok.kind hk hc aF fin a4) hd
theorem SX {i j pos}:PE X (.Constant (.int i) j pos) (tC (.int i)):=λ _ _ _ H _ I h=>wpAny_Constant_int ⟨.int i,H,I.tok _,⟨_,rfl⟩,h⟩
theorem Vs {b j pos}:PE X (.Constant (.bool b) j pos) (tC (.bl b)):=λ _ _ _ H _ I h=>Constant_bool ⟨.bl b,H,I,rfl,h⟩
theorem SY {j pos}:PE X (.Constant .none j pos) (tC .Aw):=λ _ _ _ H _ I h=>Constant_none ⟨.Aw,H,I,rfl,h⟩
def Gl (X:Cx)(x:Str):Prop:=X.env.kindOf x=some .globalImplicit
theorem QW {E:Value->Shared->Prop}{pins:List (Addr×Obj)}{s:Shared}{σ:St}{H:Hp}{x:Str}{u:Value}{pos:Pos}{Q:Value->Shared->Prop}(I:Inv X pins σ H s)(hg:Gl X x)(hm:X.mg x=some u)(h:Q u s)
 (hd:(x==("__debug__" : Str))=false:=by decide):wpAny (model X.prog X.w) X.A (eval (.Name x pos) X.env) Q E s:=
 Calls.Name_function_global I.ok.kind hg (Calls.loadGlobal_global (by rw[I.ok.glob];exact I.mod.glob.keeps I.bk) hm h) hd
theorem F1 {E:Value->Shared->Prop}{pins:List (Addr×Obj)}{s:Shared}{σ:St}{H:Hp}{x:Str}{u:Value}{pos:Pos}{Q:Value->Shared->Prop}(I:Inv X pins σ H s)(hg:Gl X x)(hm:X.mg x=none)(hv:bootBuiltins x=some u)(h:Q u s)
 (hn:x ≠ "__name__" := by decide) (hd:(x==("__debug__" : Str))=false:=by decide):wpAny (model X.prog X.w) X.A (eval (.Name x pos) X.env) Q E s:=by
 obtain⟨mb,h1,h2⟩:=I.mod.blt;exact Calls.Name_function_global I.ok.kind hg (Calls.loadGlobal_builtin (by rw[I.ok.glob];exact I.mod.glob.keeps I.bk) hm (by rw[I.ok.blt];exact h1.keeps I.bk) ((h2 x hn).trans hv) h) hd
theorem QX {x:Str}{v:V}{u:Value}{pos:Pos}(hg:Gl X x)(hm:X.mg x=none)(hv:bootBuiltins x=some u)(r:RelV v u)(hn:x ≠ "__name__" := by decide)(hd:(x==("__debug__" : Str))=false:=by decide):PE X (.Name x pos) (tC v):=
 λ _ _ _ H _ I h=>F1 I hg hm hv ⟨v,H,I,r,h⟩ hn hd
variable {a b:Expr}{ta tb:TE}{pos:Pos}
def PC (X:Cx)(op:CmpOp)(a b:Expr)(t:TE):Prop:=
 ∀(pins:List (Addr×Obj)) (s:Shared) (σ:St) (H:Hp) (Q:VK),Inv X pins σ H s->t σ H Q->
  wpAny (model X.prog X.w) X.A (eval a X.env) (λ v s₁=>wpAny (model X.prog X.w) X.A (eval b X.env) (λ u s₂=>wpAny (model X.prog X.w) X.A (compareOp op v u) (EP X pins σ Q) X.xe s₂) X.xe s₁) X.xe s
theorem Ov (b:Expr){op:CmpOp}(h:op≠.In)(h2:op≠.NotIn):behindInMarks op b=false:=by
 have e1:(op==CmpOp.In)=false:=by cases op<;>first|rfl|exact absurd rfl h
 have e2:(op==CmpOp.NotIn)=false:=by cases op<;>first|rfl|exact absurd rfl h2
 cases b<;>simp[behindInMarks,e1,e2]
noncomputable def Xa (ta:TE):TE:=λ σ H Q=>ta σ H λ x H1=>Q (.bl (decide (x=.Aw))) H1
noncomputable def Vt (ta:TE):TE:=λ σ H Q=>ta σ H λ x H1=>Q (.bl (!decide (x=.Aw))) H1
theorem RelV.Kn {x:V}{v:Value}(r:RelV x v):(v==Value.none)=decide (x=.Aw):=by
 cases x with
 |Aw|bl _=>cases r;rfl
 |int _|str _|Vb _|WK _=>obtain⟨t,rfl⟩:=r;rfl
 |ref _|ty _=>cases r;rfl
theorem T2 {j pos'}(ha:PE X a ta):PC X .Is a (.Constant .none j pos') (Xa ta):=by
 intro pins s σ H Q I h;refine AV (ha pins s σ H _ I h) λ v s1 ⟨x,H1,I1,r1,q1⟩=>?_;exact Constant_none (is_none_gen ⟨.bl _,H1,I1,by rw[r1.Kn];rfl,q1⟩)
theorem QY {j pos'}(ha:PE X a ta):PC X .IsNot a (.Constant .none j pos') (Vt ta):=by
 intro pins s σ H Q I h;refine AV (ha pins s σ H _ I h) λ v s1 ⟨x,H1,I1,r1,q1⟩=>?_;exact Constant_none (isnot_none_gen ⟨.bl _,H1,I1,by rw[r1.Kn];rfl,q1⟩)
noncomputable def tB (t:TE):TT:=λ σ H Q=>t σ H λ x H1=>∃c,x=.bl c/\Q c H1
theorem Ox {op:CmpOp}{t:TE}(h:PC X op a b t)(h1:behindInMarks op b=false:=by first | exact Ov _ (by decide) (by decide) | rfl):PT X (.Compare a [op] [b] pos) (tB t):=by
 intro pins s σ H Q I hw;refine wpAny_isTrue_Compare1 (AV (h pins s σ H _ I hw) λ v s1 h1=>AV h1 λ u s2 h2=>AV h2 λ c s3 ⟨x,H1,I1,r1,q1⟩=>?_) h1;obtain⟨d,rfl,q⟩:=q1;cases r1;exact wpAny_truthy_bool ⟨H1,I1,q⟩
variable {tA de:TT}{rest:List Expr}
noncomputable def Xb (t u:TT):TT:=λ σ H Q=>t σ H λ c H1=>if c=true then u σ H1 Q else Q false H1
noncomputable def Yp (t u:TT):TT:=λ σ H Q=>t σ H λ c H1=>if c=true then Q true H1 else u σ H1 Q
noncomputable def Xc (t:TT):TT:=λ σ H Q=>t σ H λ c H1=>Q (!c) H1
theorem pw_and1 (ha:PT X a tA):PW X (.BoolOp .And [a] pos) tA:=by
 intro wh pins s σ H Q I h;refine isTrue_and (AV (ha pins s σ H Q I h) λ c s1 e=>?_);cases c with
 |true=>exact isTrue_and_nil e
 |false=>exact e
theorem pw_or1 (ha:PT X a tA):PW X (.BoolOp .Or [a] pos) tA:=by
 intro wh pins s σ H Q I h;refine isTrue_or (AV (ha pins s σ H Q I h) λ c s1 e=>?_);cases c with
 |false=>exact isTrue_or_nil e
 |true=>exact e
theorem pw_and (ha:PT X a tA)(hb:PW X (.BoolOp .And (b::rest) pos) de):PW X (.BoolOp .And (a::b::rest) pos) (Xb tA de):=by
 intro wh pins s σ H Q I h;refine isTrue_and (AV (ha pins s σ H _ I h) λ c s1 ⟨H1,I1,q1⟩=>?_);cases c with
 |true=>exact hb wh pins s1 σ H1 Q I1 q1
 |false=>exact⟨H1,I1,q1⟩
theorem pw_or (ha:PT X a tA)(hb:PW X (.BoolOp .Or (b::rest) pos) de):PW X (.BoolOp .Or (a::b::rest) pos) (Yp tA de):=by
 intro wh pins s σ H Q I h;refine isTrue_or (AV (ha pins s σ H _ I h) λ c s1 ⟨H1,I1,q1⟩=>?_);cases c with
 |true=>exact⟨H1,I1,q1⟩
 |false=>exact hb wh pins s1 σ H1 Q I1 q1
theorem T3 (ha:PT X a tA):PT X (.UnaryOp .Not a pos) (Xc tA):=by
 intro pins s σ H Q I h;exact isTrue_not (ha pins s σ H (λ c H1=>Q (!c) H1) I h)
noncomputable def Vu (ta tb:TE):TE:=λ σ H Q=>ta σ H λ x H1=>∃c,x=.bl c/\if c=true then tb σ H1 Q else Q (.bl false) H1
noncomputable def Xd (ta tb:TE):TE:=λ σ H Q=>ta σ H λ x H1=>∃c,x=.bl c/\if c=true then Q (.bl true) H1 else tb σ H1 Q
noncomputable def Vv (ta:TE):TE:=λ σ H Q=>ta σ H λ x H1=>∃c,x=.bl c/\Q (.bl (!c)) H1
theorem Oy {op}{t:TE}(h:PE X a t):PE X (.BoolOp op [a] pos) t:=λ pins s σ H Q I hw=>BoolOp_one (h pins s σ H Q I hw)
theorem T4 (ha:PE X a ta)(hb:PE X (.BoolOp .And (b::rest) pos) tb):PE X (.BoolOp .And (a::b::rest) pos) (Vu ta tb):=by
 intro pins s σ H Q I h;refine BoolOp_and (AV (ha pins s σ H _ I h) λ v s1 ⟨x,H1,I1,r1,q1⟩=>?_);obtain⟨c,rfl,q1⟩:=q1;cases r1;refine wpAny_truthy_bool ?_;cases c with
 |true=>exact hb pins s1 σ H1 Q I1 q1
 |false=>exact⟨.bl false,H1,I1,rfl,q1⟩
theorem Vw (ha:PE X a ta)(hb:PE X (.BoolOp .Or (b::rest) pos) tb):PE X (.BoolOp .Or (a::b::rest) pos) (Xd ta tb):=by
 intro pins s σ H Q I h;refine BoolOp_or (AV (ha pins s σ H _ I h) λ v s1 ⟨x,H1,I1,r1,q1⟩=>?_);obtain⟨c,rfl,q1⟩:=q1;cases r1;refine wpAny_truthy_bool ?_;cases c with
 |false=>exact hb pins s1 σ H1 Q I1 q1
 |true=>exact⟨.bl true,H1,I1,rfl,q1⟩
theorem T5 (ha:PE X a ta):PE X (.UnaryOp .Not a pos) (Vv ta):=by
 intro pins s σ H Q I h;refine UnaryOp_ (AV (ha pins s σ H _ I h) λ v s1 ⟨x,H1,I1,r1,q1⟩=>?_);obtain⟨c,rfl,q1⟩:=q1;cases r1;exact not_of (wpAny_truthy_bool ⟨.bl (!c),H1,I1,rfl,q1⟩)
end
def C1 (K:zc)(H:Hp)(a:Addr)(xs:List V):Prop:=
 Rd H a (.lst xs) \/
  ∃(o:Obj) (aa:Array Value) (n:Nat),K.lookup a=some o/\o.cls=.type "list" /\ o.dict=none/\o.data=.seq aa n/\aa.size<=sizeLine/\Vals xs aa.toList
def EX (K:zc)(H:Hp)(a:Addr)(xs:List V):Prop:=
 Rd H a (.tup xs) \/
  ∃(o:Obj) (aa:Array Value) (n:Nat),K.lookup a=some o/\o.cls=.type "tuple" /\ o.data=.seq aa n/\aa.size<=sizeLine/\Vals xs aa.toList
noncomputable def Xe:Value->Option V
 | .none=>some .Aw
 | .bool b=>some (.bl b)
 | .int i _=>some (.int i)
 | .str x _=>some (.str x)
 | .bytes b _=>some (.Vb b)
 | .float b _=>some (.WK b)
 | .ref a=>some (.ref a)
 | .type n=>some (.ty n)
 |_=>none
theorem RelV.abs {x:V}{u:Value}(r:RelV x u):Xe u=some x:=by
 cases x with
 |Aw|bl _=>cases r;rfl
 |int _|str _|Vb _|WK _=>obtain⟨t,rfl⟩:=r;rfl
 |ref _|ty _=>cases r;rfl
theorem RelV.inj {x y:V}{u:Value}(r:RelV x u)(q:RelV y u):x=y:=zx (r.abs.symm.trans q.abs)
theorem Vals.inj:∀ {xs ys:List V}{us:List Value},Vals xs us->Vals ys us->xs=ys
 |_,_,_,.nil,.nil=>rfl
 |_,_,_,.cons r t,.cons r' t'=>by rw[r.inj r',Vals.inj t t']
section
variable {X:Cx}{pins:List (Addr×Obj)}{σ:St}{H:Hp}{s:Shared}{a:Addr}{xs ys:List V}
theorem C1.of {K:zc}(h:H a=some (.lst xs)):C1 K H a xs:=.inl (.inl h)
theorem EX.of {K:zc}(h:H a=some (.tup xs)):EX K H a xs:=.inl (.inl h)
theorem Inv.list (I:Inv X pins σ H s)(h:C1 X.K H a xs):∃aa:List Value,Vals xs aa/\PlainL s.heap a aa.toArray/\xs.length<=sizeLine:=by
 rcases h with h|⟨o,aa,n,hk,hc,hd,hs,hz,r⟩
 ·obtain⟨z,aa,n,r,e⟩:=h.ok I.An;exact⟨aa,r,⟨_,n,e,rfl,rfl,rfl⟩,z⟩
 ·refine⟨aa.toList,r,⟨o,n,I.MG a o hk,hc,hd,by simpa using hs⟩,?_⟩;have e:=r.length;simp only[Array.length_toList] at e;omega
theorem Inv.tuple (I:Inv X pins σ H s)(h:EX X.K H a xs):∃aa:List Value,Vals xs aa/\IsTup s.heap a aa.toArray/\xs.length<=sizeLine:=by
 rcases h with h|⟨o,aa,n,hk,hc,hs,hz,r⟩
 ·obtain⟨z,aa,r,p⟩:=h.ok I.An;exact⟨aa,r,p,z⟩
 ·refine⟨aa.toList,r,⟨o,I.MG a o hk,hc,n,by simpa using hs⟩,?_⟩;have e:=r.length;simp only[Array.length_toList] at e;omega
theorem Inv.Eu (I:Inv X pins σ H s)(h:C1 X.K H a xs)(h':C1 X.K H a ys):xs=ys:=by
 obtain⟨aa,r,⟨o,n,e,_,_,d⟩,_⟩:=I.list h;obtain⟨its',r',⟨o',n',e',_,_,d'⟩,_⟩:=I.list h';rw[e] at e';cases e';rw[d] at d';injection d' with d1 _
 have:aa=its':=by simpa using congrArg Array.toList d1
 subst this;exact r.inj r'
theorem Inv.F2 (I:Inv X pins σ H s)(h:EX X.K H a xs)(h':EX X.K H a ys):xs=ys:=by
 obtain⟨aa,r,⟨o,e,_,n,d⟩,_⟩:=I.tuple h;obtain⟨its',r',⟨o',e',_,n',d'⟩,_⟩:=I.tuple h';rw[e] at e';cases e';rw[d] at d';injection d' with d1 _
 have:aa=its':=by simpa using congrArg Array.toList d1
 subst this;exact r.inj r'
end
noncomputable abbrev Cx.Ih (X:Cx)(E:Value->Shared->Prop):Cx:={X with xe:=E}
noncomputable abbrev Cx.Vx (X:Cx):Cx:=X.Ih λ _ _=>False
theorem Cx.Ok.Ih {X:Cx}(ok:X.Ok)(E:Value->Shared->Prop):(X.Ih E).Ok:=
 ⟨ok.mod,ok.kind,ok.glob,ok.blt,ok.above,ok.inj,ok.has,ok.Vr,ok.hd,ok.frames,ok.Sl,ok.WM,ok.bs,ok.Sn,ok.Ot,ok.Ou,ok.F0,ok.Vc⟩
theorem Cx.Ok.CV {X:Cx}{E:Value->Shared->Prop}(ok:(X.Ih E).Ok):X.Ok:=
 ⟨ok.mod,ok.kind,ok.glob,ok.blt,ok.above,ok.inj,ok.has,ok.Vr,ok.hd,ok.frames,ok.Sl,ok.WM,ok.bs,ok.Sn,ok.Ot,ok.Ou,ok.F0,ok.Vc⟩
section
variable {X:Cx}{pins:List (Addr×Obj)}{σ:St}{H:Hp}{s:Shared}{E:Value->Shared->Prop}
theorem Inv.Ih (I:Inv X pins σ H s)(E:Value->Shared->Prop):Inv (X.Ih E) pins σ H s:=⟨I.ok.Ih E,I.os,I.bare,I.base,I.loc,I.cell,I.free,I.Cb,I.pin,I.An,I.len⟩
theorem Inv.CV (I:Inv (X.Ih E) pins σ H s):Inv X pins σ H s:=⟨I.ok.CV,I.os,I.bare,I.base,I.loc,I.cell,I.free,I.Cb,I.pin,I.An,I.len⟩
theorem SP.CV {D:Ends}{f:Flow}{s':Shared}(h:SP (X.Ih E) pins D f s'):SP X pins D f s':=by
 cases f with
 |next|brk|cont=>obtain⟨σ',H',I,q⟩:=h;exact⟨σ',H',I.CV,q⟩
 |ret u=>obtain⟨v,σ',H',I,r,q⟩:=h;exact⟨v,σ',H',I.CV,r,q⟩
theorem MH.Vx {st:List Stmt}{t:TS}(h:MH X.Vx st t):MH X st t:=λ pins s σ H D I hw =>
 wpAny_mono (h pins s σ H D (I.Ih _) hw) (λ _ _ q=>q.CV) λ _ _ z=>False.elim z
end
section
variable {X:Cx}{st:Stmt}{rest:List Stmt}{t u:TS}{e:Expr}{te:TE}{pos:Pos}
noncomputable def Vy:TS:=λ D σ H=>D.nx σ H
noncomputable def Xf (t u:TS):TS:=λ D σ H=>t {D with nx:=u D} σ H
theorem QZ:MH X [] Vy:=λ _ _ σ H _ I h=>wpAny_execs_nil ⟨σ,H,I,h⟩
theorem Oz (h1:PS X st t)(h2:MH X rest u):MH X (st::rest) (Xf t u):=by
 intro pins s σ H D I h;refine wpAny_execs_cons (AV (h1 pins s σ H {D with nx:=u D} I h) λ f s1 q=>?_);cases f with
 |next =>
  obtain⟨σ',H',I',q⟩:=q;exact h2 pins s1 σ' H' D I' q
 |ret v|brk|cont=>exact q
theorem R3 (h1:PS X st t):MH X [st] t:=by
 intro pins s σ H D I h;refine wpAny_execs_cons (AV (h1 pins s σ H D I h) λ f s1 q=>?_);cases f with
 |next=>exact wpAny_execs_nil q
 |ret v|brk|cont=>exact q
theorem Inv.quiet {pins:List (Addr×Obj)}{σ:St}{H:Hp}{s:Shared}(I:Inv X pins σ H s):interactive X.env=false:=by simp[interactive,I.ok.kind]
noncomputable def Vz (te:TE):TS:=λ D σ H=>te σ H λ _ H1=>D.nx σ H1
theorem Ja (he:PE X e te)(hs:swapsWith e none pos.line X.env=pure false:=by rfl):PS X (.Expr e pos) (Vz te):=by
 intro pins s σ H D I h;exact wpAny_Expr_any (AV (he pins s σ H _ I h) λ v s1 ⟨x,H1,I1,r1,q1⟩=>⟨σ,H1,I1,q1⟩) I.quiet hs
noncomputable def Xg (te:TE):TS:=λ D σ H=>te σ H D.rt
theorem Jb (he:PE X e te):PS X (.Return (some e) pos) (Xg te):=by
 intro pins s σ H D I h;exact wpAny_Return_some (AV (he pins s σ H _ I h) λ v s1 ⟨x,H1,I1,r1,q1⟩=>⟨x,σ,H1,I1,r1,q1⟩)
noncomputable def Xh (c:TT)(t u:TS):TS:=λ D σ H=>c σ H λ b H1=>if b=true then t D σ H1 else u D σ H1
theorem VA {c:Expr}{a b:List Stmt}{tc:TT}(hc:PT X c tc)(ha:MH X a t)(hb:MH X b u):PS X (.If c a b pos) (Xh tc t u):=by
 intro pins s σ H D I h;refine wpAny_If (AV (hc pins s σ H _ I h) λ d s1 ⟨H1,I1,q1⟩=>?_);cases d with
 |true=>exact ha pins s1 σ H1 D I1 q1
 |false=>exact hb pins s1 σ H1 D I1 q1
end
noncomputable abbrev TG:=V->St->Hp->(St->Hp->Prop)->Prop
noncomputable abbrev Sq:=List V->St->Hp->(St->Hp->Prop)->Prop
def PG (X:Cx)(target:Expr)(t:TG):Prop:=
 ∀(pins:List (Addr×Obj)) (s:Shared) (σ:St) (H:Hp) (v:V) (u:Value) (Q:St->Hp->Prop),Inv X pins σ H s->RelV v u->t v σ H Q->
  wpAny (model X.prog X.w) X.A (assign target X.env u) (λ _ s'=>∃σ' H',Inv X pins σ' H' s'/\Q σ' H') X.xe s
def VB (X:Cx)(ts:List Expr)(t:Sq):Prop:=
 ∀(pins:List (Addr×Obj)) (s:Shared) (σ:St) (H:Hp) (vs:List V) (us:List Value) (Q:St->Hp->Prop),Inv X pins σ H s->Vals vs us->t vs σ H Q->
  wpAny (model X.prog X.w) X.A (assignInOrder ((assignEach ts X.env).map (·.2)) us) (λ _ s'=>∃σ' H',Inv X pins σ' H' s'/\Q σ' H') X.xe s
section
variable {X:Cx}{pos:Pos}
noncomputable def MI (i:Nat):TG:=λ v σ H Q=>Q (σ.set i (some v)) H
theorem MJ {i:Nat}{x:Str}(hN:X.N.Nodup)(hi:X.N[i]?=some x)(hx:Loc X.env.scope x)(hf:X.fn x=true\/X.env.scope.names.lookup x=some .local:=by first | exact .inl rfl | exact .inr rfl | assumption):PG X (.Name x pos) (MI i):=by
 intro pins s σ H v u Q I r h;exact wpAny_assign_Name (Km I hN hi hx r (λ s' I'=>⟨_,H,I',h⟩) hf)
noncomputable def Xi:Sq:=λ vs σ H Q=>vs=[]/\Q σ H
noncomputable def VC (t:TG)(u:Sq):Sq:=λ vs σ H Q=>∃v r,vs=v::r/\t v σ H λ σ' H'=>u r σ' H' Q
theorem R4:VB X [] Xi:=by
 intro pins s σ H vs us Q I r h;obtain⟨e,h⟩:=h;subst e;cases r;exact assignInOrder_nil ⟨σ,H,I,h⟩
theorem OA {e:Expr}{es:List Expr}{t:TG}{u:Sq}(h1:PG X e t)(h2:VB X es u)
 (hs:(assignEach (e::es) X.env).map (·.2)=assign e X.env::(assignEach es X.env).map (·.2):=by rfl):VB X (e::es) (VC t u):=by
 intro pins s σ H vs us Q I r h;obtain⟨v,vr,e1,h⟩:=h;subst e1;cases r with
 |cons r rr =>
  rw[hs];refine assignInOrder_cons (AV (h1 pins s σ H _ _ _ I r h) λ _ s1 ⟨σ1,H1,I1,q1⟩=>?_);exact h2 pins s1 σ1 H1 _ _ Q I1 rr q1
noncomputable def Xj (K:zc)(n:Nat)(t:Sq):TG:=λ v σ H Q=>∃a xs,v=.ref a/\EX K H a xs/\xs.length=n/\t xs σ H Q
theorem T6 {es:List Expr}{k:Nat}{t:Sq}{n:Nat}(hc:X.calm=true)(h:VB X es t)
 (hn:(assignEach es X.env).length=n:=by rfl) (bD:(assignEach es X.env).findIdx? (·.1)=none:=by rfl):PG X (.Tuple es k pos) (Xj X.K n t):=by
 intro pins s σ H v u Q I r hw;obtain⟨a,xs,e1,hq,hl,hw⟩:=hw;subst e1;cases r;obtain⟨aa,rv,ht,hz⟩:=I.tuple hq;refine assign_Tuple_tuple (I.ok.hd hc) ht (by simp[hn,<-hl,rv.length]) bD λ h' hx=>?_;have I1:Inv X pins σ H {s with heap:=h' }:=I.kept (t':=s.toks) λ b o e=>hx b o (zC (zq e)) e;exact h pins _ σ H xs _ Q I1 (by simpa using rv) hw
noncomputable def Xk (te:TE)(g:TG):TS:=λ D σ H=>te σ H λ x H1=>g x σ H1 D.nx
theorem LG {i:Nat}{x:Str}{e:Expr}{te:TE}{pos':Pos}(hN:X.N.Nodup)(hi:X.N[i]?=some x)(hx:Loc X.env.scope x)(he:PE X e te)(hs:swapsWith e (some (.Name x pos')) pos.line X.env=pure false:=by rfl)(hf:X.fn x=true\/X.env.scope.names.lookup x=some .local:=by first | exact .inl rfl | exact .inr rfl | assumption):
 PS X (.Assign [.Name x pos'] e pos) (Xk te (MI i)):=by
 intro pins s σ H D I h;refine wpAny_Assign_Name (AV (he pins s σ H _ I h) λ v s1 ⟨y,H1,I1,r1,q1⟩=>?_) hs;exact Km I1 hN hi hx r1 (λ s2 I2=>⟨_,H1,I2,q1⟩) hf
end
section
variable {X:Cx}{pos:Pos}
noncomputable def T7 (c:TT)(tb:TS):TS:=λ D σ H=>∃W:Nat->St->Hp->Prop,(∃m,W m σ H)/\∀m σ H,W m σ H->
 c σ H λ b H1=>if b=true then ∃N:St->Hp->Prop,(∀σ' H',N σ' H'->∃m',m'<m/\W m' σ' H')/\tb {D with nx:=N,ct:=N,bk:=D.nx} σ H1 else D.nx σ H1
theorem OB {c:Expr}{body:List Stmt}{tc:TT}{tb:TS}(hp:PassesOwn (model X.prog X.w) X.A X.env X.xe)(hc:PT X c tc)(hb:MH X body tb):PS X (.While c body [] pos) (T7 tc tb):=by
 intro pins s σ H D I h;obtain⟨W,⟨m0,w0⟩,turn⟩:=h;refine wpAny_While (codeAny_whileLoop (λ n s'=>∃σ' H',Inv X pins σ' H' s'/\W n σ' H') ?_ m0 ⟨σ,H,I,w0⟩);rintro n s1 ⟨σ1,H1,I1,w1⟩;refine wpAny_passesOwn hp (AV (hc pins s1 σ1 H1 _ I1 (turn n σ1 H1 w1)) λ b s2 ⟨H2,I2,q2⟩=>?_);cases b with
 |true =>
  obtain⟨N,hN,q2⟩:=q2;rw[if_pos rfl];refine wpAny_passesOwn hp (AV (hb pins s2 σ1 H2 _ I2 q2) λ f s3 q3=>?_);cases f with
  |next =>
   obtain⟨σ3,H3,I3,n3⟩:=q3;obtain⟨m',hm,w3⟩:=hN σ3 H3 n3;exact⟨m',hm,σ3,H3,I3,w3⟩
  |cont =>
   obtain⟨σ3,H3,I3,n3⟩:=q3;obtain⟨m',hm,w3⟩:=hN σ3 H3 n3;exact⟨m',hm,σ3,H3,I3,w3⟩
  |brk|ret v=>exact q3
 |false =>
  rw[if_neg zD];exact wpAny_execs_nil ⟨σ1,H2,I2,q2⟩
end
structure It where
 go:Nat->Hp->Prop
 R5:Nat->Hp->V->Hp->Prop
 stop:Nat->Hp->Prop
def FQ (X:Cx)(pins:List (Addr×Obj))(H:Hp)(b:Addr):Prop:=
 H b=none/\b≠X.env.locals/\b∉X.fs/\(b∈X.ex\/X.s₀.heap.objs.size<=b)/\(∀x c,X.env.cells.lookup x=some c->c≠b)/\∀p∈X.pn++pins,p.1≠b
theorem Inv.Nu {X:Cx}{pins:List (Addr×Obj)}{σ:St}{H H':Hp}{s:Shared}{b:Addr}(I:Inv X pins σ H s)(hb:s.heap.objs.size<=b)(hn:H' b=none):FQ X pins H' b:=by
 refine⟨hn,Nat.ne_of_gt (zw I.lt hb),I.X9 hb,.inr (zY I.sz hb),λ x c e z=>?_,λ p hp z=>?_⟩
 ·obtain⟨v,q⟩:=I.cell x c e;exact absurd (zw q.lt (by rw[z];exact hb)) (Nat.lt_irrefl _)
 ·exact absurd (zw (zq (I.pin p hp).1) (by rw[z];exact hb)) (Nat.lt_irrefl _)
structure Turn (P:Program)(w:World)(K:zc)(tg:Expr)(J:It)(fp:List Addr)(it:Addr)(tn:Nat->Heap->Prop):Prop where
 mem:it∈fp
 obj:∀i h,tn i h->∀b∈fp,∃o,h.get? b=some o/\∀v,o.data≠.cell v
 keep:∀i h h',tn i h->(∀b∈fp,∀o,h.get? b=some o->h'.get? b=some o)->tn i h'
 item:∀(X:Cx),X.prog=P->X.w=w->X.K=K->X.calm=true->∀(i:Nat) (pins:List (Addr×Obj)) (s:Shared) (σ:St) (H:Hp) (E:Value->Shared->Prop),Inv X pins σ H s->(∀b∈fp,FQ X pins H b)->tn i s.heap->J.go i H->
  wpAny (model P w) X.A (pyNext (.ref it)) (λ r s1=>∃u,r=some u/\
   wpAny (model P w) X.A (letOwnedTupleGo tg (.ref it) u) (λ _ s2=>∃x H',Inv X pins σ H' s2/\RelV x u/\J.R5 i H x H'/\tn (i+1) s2.heap/\∀b∈fp,H' b=none) E s1) E s
 done:∀(X:Cx),X.prog=P->X.w=w->X.K=K->X.calm=true->∀(i:Nat) (pins:List (Addr×Obj)) (s:Shared) (σ:St) (H:Hp) (E:Value->Shared->Prop),Inv X pins σ H s->(∀b∈fp,FQ X pins H b)->tn i s.heap->J.stop i H->
  wpAny (model P w) X.A (pyNext (.ref it)) (λ r s1=>r=none/\Inv X pins σ H s1) E s
 self:∀(A:Around) (i:Nat) (s:Shared) (Q:Value->Shared->Prop) (E:Value->Shared->Prop),tn i s.heap->Q (.ref it) s->wpAny (model P w) A (pyIter (.ref it)) Q E s
noncomputable abbrev TI:=St->Hp->(It->Hp->Prop)->Prop
def Xl (X:Cx)(pins:List (Addr×Obj))(σ:St)(tg:Expr)(R:It->Hp->Prop)(df:Value)(s2:Shared):Prop:=
 ∃(it:Addr) (fp:List Addr) (tn:Nat->Heap->Prop) (J:It) (H':Hp),df=.ref it/\Inv X pins σ H' s2/\Turn X.prog X.w X.K tg J fp it tn/\tn 0 s2.heap/\(∀b∈fp,FQ X pins H' b)/\R J H'
def PI (X:Cx)(tg iter:Expr)(wi:TI):Prop:=
 ∀(pins:List (Addr×Obj)) (s:Shared) (σ:St) (H:Hp) (R:It->Hp->Prop),Inv X pins σ H s->wi σ H R->
  wpAny (model X.prog X.w) X.A (eval iter X.env) (λ v s1=>wpAny (model X.prog X.w) X.A (pyIter v) (Xl X pins σ tg R) X.xe s1) X.xe s
theorem MK {M:Model}{A:Around}{E:Value->Shared->Prop}{s:Shared}{tg:Expr}{it:Addr}{u:Value}{o:Obj}{n:String}{vs:Array Value}{Q:Unit->Shared->Prop}(ho:s.heap.get? it=some o)(hc:o.cls=.type n)(hd:o.data=.fields vs)
 (hn:["enumerate","zip","dict_itemiterator","dict_reverseitemiterator","odict_iterator","itertools.zip_longest","itertools.pairwise"].contains n=false) (hQ:Q () s):wpAny M A (letOwnedTupleGo tg (.ref it) u) Q E s:=by
 unfold letOwnedTupleGo;cases tg<;>first
  |exact wpAny_pure hQ
  |(cases u<;>first
   |exact wpAny_pure hQ
   |(
    refine wpAny_bind (wpAny_load ho ?_);rw[hc,hd];show wpAny M A (if (["enumerate","zip","dict_itemiterator","dict_reverseitemiterator","odict_iterator","itertools.zip_longest","itertools.pairwise"].contains n&&vs[0]?== some (rawInt _))=true then _ else _) Q E s;rw[if_neg (by intro h;rw[hn,Bool.false_and] at h;cases h)];exact wpAny_pure hQ))
noncomputable def Y0 (K:zc)(a:Addr):It:=
 ⟨λ i H=>∃xs x,C1 K H a xs/\xs[i]?=some x,λ i H x H'=>H'=H/\∀xs,C1 K H a xs->xs[i]?=some x,λ i H=>∃xs,C1 K H a xs/\xs.length<=i⟩
noncomputable def Y1 (K:zc)(a:Addr):It:=
 ⟨λ i H=>∃xs x,EX K H a xs/\xs[i]?=some x,λ i H x H'=>H'=H/\∀xs,EX K H a xs->xs[i]?=some x,λ i H=>∃xs,EX K H a xs/\xs.length<=i⟩
noncomputable def WN (lo:Int)(n:Nat):It:=⟨λ i _=>i<n,λ i H x H'=>H'=H/\x=.int (lo+i),λ i _=>n<=i⟩
theorem Nv {P:Program}{w:World}{K:zc}{tg:Expr}(a it:Addr):Turn P w K tg (Y0 K a) [it] it (λ i h=>h.IsListIter it a i) where
 mem:=by simp
 obj:=λ i h st b hb=>by
  have e:b=it:=by simpa using hb
  subst e;obtain⟨o,e,c,d⟩:=st;exact⟨o,e,λ v z=>by rw[d] at z;cases z⟩
 keep:=λ i h h' st k=>st.at λ o e=>k it (by simp) o e
 item:=by
  intro X hP hw hK hc i pins s σ H E I hf st hg;subst hP hw hK;obtain⟨xs,x,hq,hx⟩:=hg;obtain⟨aa,rv,p,hz⟩:=I.list hq;obtain⟨u,hu,ru⟩:=rv.get hx;obtain⟨f0,f1,f2,f3,f4,f5⟩:=hf it (by simp);refine wpAny_pyNext_list_item st p.isList (x:=u) (by simpa using hu) λ h' bo sb=>?_;have I1:Inv X pins σ H {s with heap:=h' }:=I.turned (t':=s.toks) (λ b o hb e=>(sb.2 b hb).trans e) f0 f1 f3 f4 f5;obtain⟨o,e,c,d⟩:=id bo;exact⟨u,rfl,MK (s:={s with heap:=h' }) e c d (by decide) ⟨x,H,I1,ru,⟨rfl,λ ys hy=>by rw[I.Eu hy hq];exact hx⟩,bo,λ b hb=>(hf b hb).1⟩⟩
 done:=by
  intro X hP hw hK hc i pins s σ H E I hf st hg;subst hP hw hK;obtain⟨xs,hq,hx⟩:=hg;obtain⟨aa,rv,p,hz⟩:=I.list hq;obtain⟨f0,f1,f2,f3,f4,f5⟩:=hf it (by simp);have hl:=rv.length;exact wpAny_pyNext_list_end (I.ok.hd hc) st p.isList (by simp;omega) λ h' eb=>⟨rfl,I.turned (t':=s.toks) (λ b o hb e=>eb b o hb e) f0 f1 f3 f4 f5⟩
 self:=λ _ _ _ _ _ st h=>wpAny_pyIter_listiter st h
theorem LH {P:Program}{w:World}{K:zc}{tg:Expr}(a it:Addr):Turn P w K tg (Y1 K a) [it] it (λ i h=>h.IsTupleIter it a i) where
 mem:=by simp
 obj:=λ i h st b hb=>by
  have e:b=it:=by simpa using hb
  subst e;obtain⟨o,e,c,d⟩:=st;exact⟨o,e,λ v z=>by rw[d] at z;cases z⟩
 keep:=λ i h h' st k=>st.at λ o e=>k it (by simp) o e
 item:=by
  intro X hP hw hK hc i pins s σ H E I hf st hg;subst hP hw hK;obtain⟨xs,x,hq,hx⟩:=hg;obtain⟨aa,rv,p,hz⟩:=I.tuple hq;obtain⟨u,hu,ru⟩:=rv.get hx;obtain⟨f0,f1,f2,f3,f4,f5⟩:=hf it (by simp);refine wpAny_pyNext_tuple_item st (show s.heap.IsTuple a aa.toArray from p) (x:=u) (by simpa using hu) λ h' bo sb=>?_;have I1:Inv X pins σ H {s with heap:=h' }:=I.turned (t':=s.toks) (λ b o hb e=>(sb.2 b hb).trans e) f0 f1 f3 f4 f5;obtain⟨o,e,c,d⟩:=id bo;exact⟨u,rfl,MK (s:={s with heap:=h' }) e c d (by decide) ⟨x,H,I1,ru,⟨rfl,λ ys hy=>by rw[I.F2 hy hq];exact hx⟩,bo,λ b hb=>(hf b hb).1⟩⟩
 done:=by
  intro X hP hw hK hc i pins s σ H E I hf st hg;subst hP hw hK;obtain⟨xs,hq,hx⟩:=hg;obtain⟨aa,rv,p,hz⟩:=I.tuple hq;obtain⟨f0,f1,f2,f3,f4,f5⟩:=hf it (by simp);have hl:=rv.length;exact wpAny_pyNext_tuple_end (I.ok.hd hc) st (show s.heap.IsTuple a aa.toArray from p) (by simp;omega) λ h' eb=>⟨rfl,I.turned (t':=s.toks) (λ b o hb e=>eb b o hb e) f0 f1 f3 f4 f5⟩
 self:=λ _ _ _ _ _ st h=>wpAny_pyIter_tupleiter st h
theorem LI {P:Program}{w:World}{K:zc}{tg:Expr}(it:Addr)(lo:Int)(n:Nat):Turn P w K tg (WN lo n) [it] it (λ i h=>IsRangeIter h it (lo+(i:Nat)*1) ((n:Int)-(i:Nat)) 1) where
 mem:=by simp
 obj:=λ i h st b hb=>by
  have e:b=it:=by simpa using hb
  subst e;exact⟨_,st,λ v z=>by
   have z':Data.fields _=Data.cell v:=z;cases z'⟩
 keep:=λ i h h' st k=>k it (by simp) _ st
 item:=by
  intro X hP hw hK hc i pins s σ H E I hf st hg;subst hP hw hK;obtain⟨f0,f1,f2,f3,f4,f5⟩:=hf it (by simp);have W:=Walks.range (prog:=X.prog) (w:=X.w) (I.ok.hd hc) it lo 1 n;refine W.item i s _ _ hg st λ v h' tk hv bo kk=>?_;obtain⟨t,rfl⟩:=hv;have I1:Inv X pins σ H {s with heap:=h',toks:=tk}:=I.turned (λ b o hb e=>kk b o (by simpa using hb) e) f0 f1 f3 f4 f5;refine⟨_,rfl,MK (s:={s with heap:=h',toks:=tk}) (n := "range_iterator") bo rfl rfl (by decide) ⟨.int (lo+i),H,I1,⟨t,?_⟩,⟨rfl,rfl⟩,bo,λ b hb=>(hf b hb).1⟩⟩;rw[Int.mul_one]
 done:=by
  intro X hP hw hK hc i pins s σ H E I hf st hg;subst hP hw hK;obtain⟨f0,f1,f2,f3,f4,f5⟩:=hf it (by simp);exact wpAny_pyNext_range_end (I.ok.hd hc) st (by have:n<=i:=hg;omega) λ h' eb=>⟨rfl,I.turned (t':=s.toks) (λ b o hb e=>eb b o hb e) f0 f1 f3 f4 f5⟩
 self:=λ _ _ _ _ _ st h=>wpAny_pyIter_rangeiter st h
section
variable {X:Cx}{tg:Expr}
noncomputable def VD (K:zc)(tl:TE):TI:=λ σ H R=>tl σ H λ x H1=>∃a,x=.ref a/\(∃xs,C1 K H1 a xs)/\R (Y0 K a) H1
noncomputable def Xm (K:zc)(tl:TE):TI:=λ σ H R=>tl σ H λ x H1=>∃a,x=.ref a/\(∃xs,EX K H1 a xs)/\R (Y1 K a) H1
theorem R6 {l:Expr}{tl:TE}(hl:PE X l tl):PI X tg l (VD X.K tl):=by
 intro pins s σ H R I h;refine AV (hl pins s σ H _ I h) λ v s1 ⟨x,H1,I1,r1,q1⟩=>?_;obtain⟨a,e,⟨xs,hq⟩,q⟩:=q1;subst e;cases r1;obtain⟨aa,rv,p,hz⟩:=I1.list hq;refine wpAny_pyIter_list p.isList ?_;refine⟨s1.heap.objs.size,[s1.heap.objs.size],_,_,H1,rfl,I1.kept (t':=s1.toks) λ b o e=>zr _ e,Nv a _,⟨_,zG _ rfl,rfl,rfl⟩,λ b hb=>?_,q⟩;have e:b=s1.heap.objs.size:=by simpa using hb
 subst e;exact I1.Nu (zp _) (I1.An.fresh (zp _))
theorem T8 {l:Expr}{tl:TE}(hl:PE X l tl):PI X tg l (Xm X.K tl):=by
 intro pins s σ H R I h;refine AV (hl pins s σ H _ I h) λ v s1 ⟨x,H1,I1,r1,q1⟩=>?_;obtain⟨a,e,⟨xs,hq⟩,q⟩:=q1;subst e;cases r1;obtain⟨aa,rv,p,hz⟩:=I1.tuple hq;refine wpAny_pyIter_tuple (show s1.heap.IsTuple a aa.toArray from p) ?_;refine⟨s1.heap.objs.size,[s1.heap.objs.size],_,_,H1,rfl,I1.kept (t':=s1.toks) λ b o e=>zr _ e,LH a _,⟨_,zG _ rfl,rfl,rfl⟩,λ b hb=>?_,q⟩;have e:b=s1.heap.objs.size:=by simpa using hb
 subst e;exact I1.Nu (zp _) (I1.An.fresh (zp _))
theorem OC {pins:List (Addr×Obj)}{σ:St}{H:Hp}{s:Shared}{R:It->Hp->Prop}{E:Value->Shared->Prop}{lo hi:Int}{t u v:Tok}{tk:Nat}(I:Inv X pins σ H s)(h1 : -(2^62)<=lo)(h2:lo<2^62)(h3 : -(2^62)<=hi)(h4:hi<2^62)
 (q:R (WN lo (hi-lo).toNat) H):wpAny (model X.prog X.w) X.A (pyIter (.ref s.heap.objs.size)) (Xl X pins σ tg R) E {s with heap:=s.heap.push {cls:=.type "range",data:=.fields #[.int lo t,.int hi u,.int 1 v]},toks:=tk}:=by
 refine wpAny_pyIter_range (IsRange.new ..) (small_one h1 h2 h3 h4) ?_;have I1:Inv X pins σ H {s with heap:=s.heap.push {cls:=.type "range",data:=.fields #[.int lo t,.int hi u,.int 1 v]},toks:=tk}:=I.kept λ b o e=>zr _ e;refine⟨(s.heap.push {cls:=.type "range",data:=.fields #[.int lo t,.int hi u,.int 1 v]}).objs.size,[(s.heap.push {cls:=.type "range",data:=.fields #[.int lo t,.int hi u,.int 1 v]}).objs.size],_,_,H,rfl,
  I1.kept (t':=tk) λ b o e=>zr _ e,LI _ lo (hi-lo).toNat,?_,λ b hb=>?_,q⟩
 ·have e1:lo+((0:Nat):Int)*1=lo:=by simp
  have e2:(((hi-lo).toNat:Nat):Int)-((0:Nat):Int)=Builtin.Range.rangeSize lo hi 1:=by rw[rangeSize_one];split<;>omega
  show IsRangeIter _ _ (lo+((0:Nat):Int)*1) ((((hi-lo).toNat:Nat):Int)-((0:Nat):Int)) 1;rw[e1,e2];exact zG _ rfl
 ·have e:b=(s.heap.push {cls:=.type "range",data:=.fields #[.int lo t,.int hi u,.int 1 v]}).objs.size:=by simpa using hb
  subst e;exact I1.Nu (zp _) (I1.An.fresh (zp _))
noncomputable def VE (ta:TA):TI:=λ σ H R=>ta σ H λ vs H1=>∃j:Int,vs=[.int j]/\-(2^62)<=j/\j<2^62/\R (WN 0 j.toNat) H1
theorem Nw {a:Expr}{ta:TA}{p pos:Pos}(hg:Gl X "range")(hm:X.mg "range" = none)(ha:PA X [a] ta)(hs:starEach [a] X.env=[(false,eval a X.env)]:=by rfl):PI X tg (.Call (.Name "range" p) [a] [] pos) (VE ta):=by
 intro pins s σ H R I h;refine Call_ (F1 I hg hm boot_range (yq (AV (ha pos pins s σ H _ I h) λ us s1 ⟨vs,H1,I1,r1,q1⟩=>?_) hs rfl));obtain⟨j,e,q1,q2,q⟩:=q1;subst e;cases r1 with
 |cons r rr =>
  cases rr;obtain⟨t,rfl⟩:=r;exact call_range_1 (OC I1 (by omega) (by omega) q1 q2 (by simpa using q))
noncomputable def Xn (wi:TI)(g:TG)(tb:TS):TS:=λ D σ H=>wi σ H λ J H1=>∃W:Nat->Nat->St->Hp->Prop,(∃m,W 0 m σ H1)/\∀i m σ H,W i m σ H->
 (J.stop i H/\D.nx σ H)\/(J.go i H/\∃N:St->Hp->Prop,(∀σ' H',N σ' H'->∃m',m'<m/\W (i+1) m' σ' H')/\∀x H',J.R5 i H x H'->g x σ H' λ σ2 H2=>tb {D with nx:=N,ct:=N,bk:=D.nx} σ2 H2)
noncomputable def Ec (fp:List Addr)(h:Heap):List (Addr×Obj):=fp.filterMap λ b=>(h.get? b).map λ o=>(b,o)
theorem Cq {fp:List Addr}{h:Heap}{b:Addr}{o:Obj}(hb:b∈fp)(e:h.get? b=some o):(b,o)∈Ec fp h:=List.mem_filterMap.mpr ⟨b,hb,by rw[e];rfl⟩
theorem Iy {fp:List Addr}{h:Heap}{p:Addr×Obj}(hp:p∈Ec fp h):p.1∈fp/\h.get? p.1=some p.2:=by
 obtain⟨b,hb,e⟩:=List.mem_filterMap.mp hp;cases q:h.get? b with
 |none=>rw[q] at e;cases e
 |some o =>
  rw[q] at e;have e':(b,o)=p:=zx e;subst e';exact⟨hb,q⟩
theorem Inv.pinned {pins:List (Addr×Obj)}{σ:St}{H:Hp}{s:Shared}{fp:List Addr}(I:Inv X pins σ H s)(hf:∀b∈fp,FQ X pins H b)(ho:∀b∈fp,∃o,s.heap.get? b=some o/\∀v,o.data≠.cell v):Inv X (pins++Ec fp s.heap) σ H s:=
 I.Et λ p hp=>(zE.mp hp).elim (λ z=>I.pin p (zg _ z)) λ z=>by
  obtain⟨hb,e⟩:=Iy z;obtain⟨f0,f1,f2,_⟩:=hf p.1 hb;obtain⟨o,e',d⟩:=ho p.1 hb;rw[e] at e';cases e';exact⟨e,f0,f1,f2,d⟩
theorem Inv.Ew {pins pl:List (Addr×Obj)}{σ:St}{H:Hp}{s:Shared}(I:Inv X (pins++pl) σ H s):Inv X pins σ H s:=I.Et λ p hp=>I.pin p (zg _ (zB _ hp))
theorem T9 {iter:Expr}{body:List Stmt}{wi:TI}{g:TG}{tb:TS}{pos:Pos}(hp:PassesOwn (model X.prog X.w) X.A X.env X.xe)(hc:X.calm=true)(hi:PI X tg iter wi)(hg:PG X tg g)(hb:MH X body tb)
 (hs:∀x,foldedSetIterable iter X.env x=pure x:=by intro _;rfl):PS X (.For tg iter body [] pos) (Xn wi g tb):=by
 intro pins s σ H D I h;refine wpAny_For (AV (hi pins s σ H _ I h) λ v s1 h1=>AV h1 λ df s2 h2=>?_) hs;obtain⟨it,fp,tn,J,H2,e,I2,T,bw,f2,W,⟨m0,w0⟩,turn⟩:=h2;subst e;have a7:∀ {H':Hp},(∀b∈fp,H' b=none)->∀b∈fp,FQ X pins H' b:=λ hn b hb=>⟨hn b hb,(f2 b hb).2⟩;refine codeAny_forLoop_any (λ n s'=>∃i σ' H',Inv X pins σ' H' s'/\tn i s'.heap/\(∀b∈fp,H' b=none)/\W i n σ' H') ?_ m0 ⟨0,σ,H2,I2,bw,λ b hb=>(f2 b hb).1,w0⟩;rintro n s3 ⟨i,σ3,H3,I3,cx,cy,w3⟩;rcases turn i n σ3 H3 w3 with ⟨stop,qn⟩|⟨go,N,hN,step⟩
 ·refine wpAny_passesOwn hp (AV (T.done X rfl rfl rfl hc i pins s3 σ3 H3 X.xe I3 (a7 cy) cx stop) λ r s4 ⟨hr,I4⟩=>?_);subst hr;exact wpAny_execs_nil ⟨σ3,H3,I4,qn⟩
 ·refine wpAny_passesOwn hp (AV (T.item X rfl rfl rfl hc i pins s3 σ3 H3 X.xe I3 (a7 cy) cx go) λ r s4 ⟨u,hr,h4⟩=>?_);subst hr;refine wpAny_passesOwn hp (AV h4 λ _ s5 ⟨x,H5,I5,r5,y5,bN,dG⟩=>?_);have dH:=I5.pinned (a7 dG) (T.obj _ _ bN);refine wpAny_passesOwn hp (AV (hg _ s5 σ3 H5 x u _ dH r5 (step x H5 y5)) λ _ s6 ⟨σ6,H6,I6,q6⟩=>?_);refine wpAny_passesOwn hp (AV (hb _ s6 σ6 H6 _ I6 q6) λ f s7 q7=>?_);have again:∀ {σ7:St} {H7:Hp},Inv X (pins++Ec fp s5.heap) σ7 H7 s7->N σ7 H7->∃m,m<n/\∃i σ' H',Inv X pins σ' H' s7/\tn i s7.heap/\(∀b∈fp,H' b=none)/\W i m σ' H':=fun {σ7 H7} I7 n7=>by
   obtain⟨m',hm,w7⟩:=hN σ7 H7 n7;refine⟨m',hm,i+1,σ7,H7,I7.Ew,T.keep _ _ _ bN λ b hb o e=>(I7.pin (b,o) (zg _ (zg _ (Cq hb e)))).1,λ b hb=>?_,w7⟩;obtain⟨o,e,d⟩:=T.obj _ _ bN b hb;exact (I7.pin (b,o) (zg _ (zg _ (Cq hb e)))).2.1
  cases f with
  |next|cont=>obtain⟨σ7,H7,I7,n7⟩:=q7;exact again I7 n7
  |brk=>obtain⟨σ7,H7,I7,q7⟩:=q7;exact⟨σ7,H7,I7.Ew,q7⟩
  |ret v=>obtain⟨x7,σ7,H7,I7,r7,q7⟩:=q7;exact⟨x7,σ7,H7,I7.Ew,r7,q7⟩
end
noncomputable abbrev R2:=V->V->Hp->VK->Prop
def Ex (X:Cx)(f:Value->Value->Sem Value)(r:R2):Prop:=
 ∀(pins:List (Addr×Obj)) (s:Shared) (σ:St) (H:Hp) (x y:V) (v u:Value) (Q:VK),Inv X pins σ H s->RelV x v->RelV y u->r x y H Q->
  wpAny (model X.prog X.w) X.A (f v u) (EP X pins σ Q) X.xe s
def Xo (X:Cx)(f:Value->Sem Value)(r:V->Hp->VK->Prop):Prop:=
 ∀(pins:List (Addr×Obj)) (s:Shared) (σ:St) (H:Hp) (x:V) (v:Value) (Q:VK),Inv X pins σ H s->RelV x v->r x H Q->
  wpAny (model X.prog X.w) X.A (f v) (EP X pins σ Q) X.xe s
def Ey (X:Cx)(f:Value)(r:List V->Hp->VK->Prop):Prop:=
 ∀(pins:List (Addr×Obj)) (s:Shared) (σ:St) (H:Hp) (xs:List V) (us:List Value) (Q:VK),Inv X pins σ H s->Vals xs us->r xs H Q->
  wpAny (model X.prog X.w) X.A (call f us) (EP X pins σ Q) X.xe s
def Xp (X:Cx)(r:V->Hp->(Bool->Hp->Prop)->Prop):Prop:=
 ∀(pins:List (Addr×Obj)) (s:Shared) (σ:St) (H:Hp) (x:V) (v:Value) (Q:Bool->Hp->Prop),Inv X pins σ H s->RelV x v->r x H Q->
  wpAny (model X.prog X.w) X.A (truthy v) (TP X pins σ Q) X.xe s
noncomputable def VF (r:R2)(ta tb:TE):TE:=λ σ H Q=>ta σ H λ x H1=>tb σ H1 λ y H2=>r x y H2 Q
noncomputable def Yq (r:V->Hp->VK->Prop)(ta:TE):TE:=λ σ H Q=>ta σ H λ x H1=>r x H1 Q
noncomputable def rI (C:Int->Int->Prop)(g:Int->Int->V):R2:=λ x y H Q=>∃i j,x=.int i/\y=.int j/\C i j/\Q (g i j) H
noncomputable def Vd (g:Int->Int->V):R2:=λ x y H Q=>∃i j,x=.int i/\y=.int j/\Q (g i j) H
def rU (g:Int->V):V->Hp->VK->Prop:=λ x H Q=>∃i,x=.int i/\Q (g i) H
section
variable {X:Cx}{a b c:Expr}{ta tb tc:TE}{pos:Pos}
theorem Ta (ha:PE X a ta)(hb:PE X b tb){pins:List (Addr×Obj)}{s:Shared}{σ:St}{H:Hp}{R:V->V->Hp->Prop}(I:Inv X pins σ H s)
 (h:ta σ H λ x H1=>tb σ H1 λ y H2=>R x y H2) {Q:Value->Shared->Prop} {f:Value->Value->Sem Value}
 (hf:∀v u s2 x y H2,Inv X pins σ H2 s2->RelV x v->RelV y u->R x y H2->wpAny (model X.prog X.w) X.A (f v u) Q X.xe s2):
 wpAny (model X.prog X.w) X.A (eval a X.env) (λ v s₁=>wpAny (model X.prog X.w) X.A (eval b X.env) (λ u s₂=>wpAny (model X.prog X.w) X.A (f v u) Q X.xe s₂) X.xe s₁) X.xe s:=by
 refine AV (ha pins s σ H _ I h) λ v s1 ⟨x,H1,I1,r1,q1⟩=>?_;refine AV (hb pins s1 σ H1 _ I1 q1) λ u s2 ⟨y,H2,I2,r2,q2⟩=>?_;exact hf v u s2 x y H2 I2 r1 r2 q2
theorem VG {op:Operator}{r:R2}(ho:Ex X (binaryOp op) r)(ha:PE X a ta)(hb:PE X b tb):PE X (.BinOp a op b pos) (VF r ta tb):=by
 intro pins s σ H Q I h;exact wpAny_BinOp (Ta ha hb I h λ v u s2 x y H2 I2 rx ry q=>ho pins s2 σ H2 x y v u Q I2 rx ry q)
theorem VH {op:UnaryOp}{r:V->Hp->VK->Prop}(ho:Xo X (unaryOp op) r)(ha:PE X a ta):PE X (.UnaryOp op a pos) (Yq r ta):=by
 intro pins s σ H Q I h;exact UnaryOp_ (AV (ha pins s σ H _ I h) λ v s1 ⟨x,H1,I1,r1,q1⟩=>ho pins s1 σ H1 x v Q I1 r1 q1)
theorem WO {f:Value->Value->Sem Value}{C:Int->Int->Prop}{g:Int->Int->Int}
 (rule:∀(i j:Int) (t u:Tok) (s:Shared) (Q:Value->Shared->Prop) (E:Value->Shared->Prop),C i j->Q (.int (g i j) s.toks) {s with toks:=s.toks+1}->wpAny (model X.prog X.w) X.A (f (.int i t) (.int j u)) Q E s):
 Ex X f (rI C λ i j=>.int (g i j)):=by
 intro pins s σ H x y v u Q I rx ry h;obtain⟨i,j,rfl,rfl,hc,q⟩:=h;obtain⟨t,rfl⟩:=rx;obtain⟨t',rfl⟩:=ry;exact rule i j t t' s _ _ hc ⟨.int (g i j),H,I.tok _,⟨_,rfl⟩,q⟩
theorem VI {f:Value->Value->Sem Value}{g:Int->Int->Int}
 (rule:∀(i j:Int) (t u:Tok) (s:Shared) (Q:Value->Shared->Prop) (E:Value->Shared->Prop),Q (.int (g i j) s.toks) {s with toks:=s.toks+1}->wpAny (model X.prog X.w) X.A (f (.int i t) (.int j u)) Q E s):
 Ex X f (Vd λ i j=>.int (g i j)):=by
 intro pins s σ H x y v u Q I rx ry h;obtain⟨i,j,rfl,rfl,q⟩:=h;obtain⟨t,rfl⟩:=rx;obtain⟨t',rfl⟩:=ry;exact rule i j t t' s _ _ ⟨.int (g i j),H,I.tok _,⟨_,rfl⟩,q⟩
theorem Xq {f:Value->Value->Sem Value}{g:Int->Int->Bool}
 (rule:∀(i j:Int) (t u:Tok) (s:Shared) (Q:Value->Shared->Prop) (E:Value->Shared->Prop),Q (.bool (g i j)) s->wpAny (model X.prog X.w) X.A (f (.int i t) (.int j u)) Q E s):
 Ex X f (Vd λ i j=>.bl (g i j)):=by
 intro pins s σ H x y v u Q I rx ry h;obtain⟨i,j,rfl,rfl,q⟩:=h;obtain⟨t,rfl⟩:=rx;obtain⟨t',rfl⟩:=ry;exact rule i j t t' s _ _ ⟨.bl (g i j),H,I,rfl,q⟩
def Ko (i j:Int):Prop:=0<j/\j<1073741824
def R7 (i j:Int):Prop:=0<=j/\j<=1000000/\i.natAbs<2^64
def OD (i j:Int):Prop:=(-(2^64)<i/\i<2^64)\/(-(2^64)<j/\j<2^64)
theorem OD.ok {i j:Int}(h:OD i j):IntMulOk i j:=by
 rcases h with ⟨h1,h2⟩|⟨h1,h2⟩
 ·exact .of_left (intBits_le_64 h1 h2)
 ·exact .of_right (intBits_le_64 h1 h2)
theorem Tb:Ex X (binaryOp .Add) (Vd λ i j=>.int (i+j)):=VI λ _ _ _ _ _ _ _ q=>add_int q
theorem Tc:Ex X (binaryOp .Sub) (Vd λ i j=>.int (i-j)):=VI λ _ _ _ _ _ _ _ q=>sub_int q
theorem R8:Ex X (binaryOp .FloorDiv) (rI Ko λ i j=>.int (i / j)):=WO λ i j _ _ _ _ _ hc q=>by
 have h1:(0:Int)<j:=hc.1;have h2:j<1073741824:=hc.2;exact floordiv_int (by omega) (by rw[Int.fdiv_eq_ediv_of_nonneg i (by omega)];exact q) (.inl (PyProof.noPylong_small (by omega)))
theorem Td:Ex X (binaryOp .Mod) (rI (λ _ j=>0<j) λ i j=>.int (i%j)):=WO λ i j _ _ _ _ _ hc q=>by
 have h1:(0:Int)<j:=hc;exact mod_int' (by omega) (by rw[Int.fmod_eq_emod_of_nonneg i (by omega)];exact q)
theorem Te:Ex X (binaryOp .Pow) (rI R7 λ i j=>.int (i^j.toNat)):=WO λ _ _ _ _ _ _ _ hc q=>pow_int_small hc.1 hc.2.1 hc.2.2 q
theorem Yr {f:Value->Sem Value}{g:Int->Int}
 (rule:∀(i:Int) (t:Tok) (s:Shared) (Q:Value->Shared->Prop) (E:Value->Shared->Prop),Q (.int (g i) s.toks) {s with toks:=s.toks+1}->wpAny (model X.prog X.w) X.A (f (.int i t)) Q E s):
 Xo X f (rU λ i=>.int (g i)):=by
 intro pins s σ H x v Q I rx h;obtain⟨i,rfl,q⟩:=h;obtain⟨t,rfl⟩:=rx;exact rule i t s _ _ ⟨.int (g i),H,I.tok _,⟨_,rfl⟩,q⟩
theorem Tf:Xo X (unaryOp .USub) (rU λ i=>.int (-i)):=Yr λ _ _ _ _ _ q=>neg_int q
end
section
variable {X:Cx}{a b c:Expr}{ta tb tc:TE}{pos:Pos}
theorem VJ:Ex X (compareOp .Gt) (Vd λ i j=>.bl (decide (j<i))):=Xq λ _ _ _ _ _ _ _ q=>gt_int q
theorem Ex.or {f:Value->Value->Sem Value}{r r':R2}(h:Ex X f r)(h':Ex X f r'):Ex X f (λ x y H Q=>r x y H Q\/r' x y H Q):=by
 intro pins s σ H x y v u Q I rx ry q;rcases q with q|q
 ·exact h pins s σ H x y v u Q I rx ry q
 ·exact h' pins s σ H x y v u Q I rx ry q
theorem CW (b:Expr){op:CmpOp}(h:op≠.In:=by decide)(h2:op≠.NotIn:=by decide):behindInMarks op b=false:=by
 have e1:(op==CmpOp.In)=false:=by cases op<;>first|rfl|exact absurd rfl h
 have e2:(op==CmpOp.NotIn)=false:=by cases op<;>first|rfl|exact absurd rfl h2
 cases b<;>simp[behindInMarks,e1,e2]
theorem R9 {op:CmpOp}{r:R2}(ho:Ex X (compareOp op) r)(ha:PE X a ta)(hb:PE X b tb)(hm:behindInMarks op b=false):PE X (.Compare a [op] [b] pos) (VF r ta tb):=by
 intro pins s σ H Q I h;exact wpAny_Compare1 (Ta ha hb I h λ v u s2 x y H2 I2 rx ry q=>ho pins s2 σ H2 x y v u Q I2 rx ry q) hm
noncomputable def VL (t:TE):TT:=λ σ H Q=>t σ H λ x H'=>∃k,x=.bl k/\Q k H'
theorem Ra {op:CmpOp}{r:R2}(ho:Ex X (compareOp op) r)(ha:PE X a ta)(hb:PE X b tb)(hm:behindInMarks op b=false):PT X (.Compare a [op] [b] pos) (VL (VF r ta tb)):=by
 intro pins s σ H Q I h;refine wpAny_isTrue_Compare1 (AV (ha pins s σ H _ I h) λ v s1 ⟨x,H1,I1,r1,q1⟩=>AV (hb pins s1 σ H1 _ I1 q1) λ u s2 ⟨y,H2,I2,r2,q2⟩ =>
  AV (ho pins s2 σ H2 x y v u _ I2 r1 r2 q2) λ c s3 ⟨z,H3,I3,r3,k,e,q3⟩=>?_) hm
 subst e;cases r3;exact wpAny_truthy_bool ⟨H3,I3,q3⟩
def VM (K:zc)(x:V)(H:Hp)(k:Bool):Prop:=
 match x with
 | .Aw=>k=false
 | .bl b=>k=b
 | .int i=>k=(i != 0)
 | .str y=>y.length<=sizeLine/\k=((y.length:Int) != 0)
 | .Vb y=>y.size<=sizeLine/\k=((y.size:Int) != 0)
 | .ref p=>(∃xs,C1 K H p xs/\k = !xs.isEmpty)\/(∃xs,EX K H p xs/\k = !xs.isEmpty)\/∃kvs,H p=some (.dK kvs)/\k = !kvs.isEmpty
 |_=>False
theorem LJ {κ:Type}{kvs:List (κ×V)}{vs:List (κ×Value)}(r:KV kvs vs):(!vs.isEmpty) = !kvs.isEmpty:=by
 cases r<;>rfl
theorem Gh {xs:List V}{aa:List Value}(r:Vals xs aa):(!aa.toArray.isEmpty) = !xs.isEmpty:=by
 cases r<;>simp
theorem Gi:(sizeLine:Nat)<2^63:=by rw[sizeLine_eq];decide
theorem Tg:Xp X (λ x H Q=>∃k,VM X.K x H k/\Q k H):=by
 intro pins s σ H x v Q I rx h;obtain⟨k,e,q⟩:=h;have hl:=Gi;have hs:sizeLine=16777216:=sizeLine_eq;cases x with
 |Aw =>
  cases rx;have e':k=false:=e;subst e';exact truthy_none ⟨H,I,q⟩
 |bl b =>
  cases rx;have e':k=b:=e;subst e';exact wpAny_truthy_bool ⟨H,I,q⟩
 |int i =>
  obtain⟨t,rfl⟩:=rx;have e':k=(i != 0):=e;subst e';exact PySem.P.truthy_int ⟨H,I,q⟩
 |str y =>
  obtain⟨t,rfl⟩:=rx;obtain⟨hy,e'⟩:y.length<=sizeLine/\k=((y.length:Int) != 0):=e;subst e';exact PySem.P.truthy_str (by omega) ⟨H,I.tok _,q⟩
 |Vb y =>
  obtain⟨t,rfl⟩:=rx;obtain⟨hy,e'⟩:y.size<=sizeLine/\k=((y.size:Int) != 0):=e;subst e';exact PySem.W.truthy_bytes (by omega) ⟨H,I.tok _,q⟩
 |ref p =>
  cases rx;have e':(∃xs,C1 X.K H p xs/\k = !xs.isEmpty)\/(∃xs,EX X.K H p xs/\k = !xs.isEmpty)\/∃kvs,H p=some (.dK kvs)/\k = !kvs.isEmpty:=e;rcases e' with ⟨xs,hx,e'⟩|⟨xs,hx,e'⟩|⟨kvs,hx,e'⟩
  ·subst e';obtain⟨aa,r,pl,hz⟩:=I.list hx;have hlen:=r.length;exact wpAny_truthy_list pl.isList (by simp only[zm];omega) ⟨H,I.tok _,by rw[Gh r];exact q⟩
  ·subst e';obtain⟨aa,r,pl,hz⟩:=I.tuple hx;have hlen:=r.length;exact truthy_tuple pl (by simp only[zm];omega) ⟨H,I.tok _,by rw[Gh r];exact q⟩
  ·subst e';obtain⟨hz,hS,vs,r,m⟩:kvs.length<=sizeLine/\(p==sysModules)=false/\∃vs,KV kvs vs/\s.heap.DictOf (AD X.prog X.w) p vs:=I.An p _ hx;have hlen:kvs.length=vs.length:=yw r;exact wpAny_truthy_dict hS m (by omega) ⟨H,I.tok _,by rw[LJ r];exact q⟩
 |_=>exact (show False from e).elim
theorem OE (ha:PE X a ta)(he:∀whole,isTrue a X.env whole=(do let v <-whole;standAt a.pos;holding [v] (truthy v))):
 PT X a (λ σ H Q=>ta σ H λ x H'=>∃k,VM X.K x H' k/\Q k H'):=by
 intro pins s σ H Q I h;exact isTrue_plain (AV (ha pins s σ H _ I h) λ v s1 ⟨x,H1,I1,r1,q1⟩=>Tg pins s1 σ H1 x v Q I1 r1 q1) (he _)
theorem vals1 {x:V}{us:List Value}(r:Vals [x] us):∃u,us=[u]/\RelV x u:=by
 cases r with
 |cons r1 r2=>cases r2;exact⟨_,rfl,r1⟩
theorem vals2 {x y:V}{us:List Value}(r:Vals [x,y] us):∃u w',us=[u,w']/\RelV x u/\RelV y w':=by
 cases r with
 |cons r1 r2 =>
  cases r2 with
  |cons r3 r4=>cases r4;exact⟨_,_,rfl,r1,r3⟩
theorem Nx (hc:X.calm=true):Ey X (.builtin "min") (λ xs H Q=>∃i j,xs=[.int i,.int j]/\Q (.int (if j<i then j else i)) H):=by
 intro pins s σ H xs us Q I r h;obtain⟨i,j,rfl,q⟩:=h;obtain⟨u,w',rfl,⟨t,rfl⟩,⟨t',rfl⟩⟩:=vals2 r;refine min_two_ints (I.ok.hd hc) λ h' tk k=>⟨_,H,I.kept k,?_,q⟩;by_cases hj:j<i
 ·rw[if_pos hj,if_pos hj];exact⟨_,rfl⟩
 ·rw[if_neg hj,if_neg hj];exact⟨_,rfl⟩
end
theorem Ig.some_of {v:V}{o:Option Value}(r:Ig (some v) o):∃u,o=some u/\RelV v u:=by
 cases o with
 |none=>exact (show False from r).elim
 |some u=>exact⟨u,rfl,r⟩
structure Y2 (K:zc)(C:Addr):Prop where
 pg:PySem.W.plainGet K C Str.empty=true
 hd:PySem.W.hasDictIn K C=true
 po:PySem.W.plainOver K C=true
 sa:PySem.W.findIn K (.ref C) "__setattr__" = some (some (.builtin "object.__setattr__"))
structure Meth (K:zc)(C:Addr)(m:Str)(f:Addr):Prop where
 at_:PySem.W.findIn K (.ref C) m=some (some (.ref f))
 fn:PySem.W.isFn K (.ref f)=true
 kp:zQ K (.ref f)=true
structure Bv (k:Nat)(A:Around):Prop where
 hd:A.handled=none
 dp:A.depth+3*k+5<recursionLimit
 un:A.units+16*k+200<cLine
theorem Bv.mono {j k:Nat}{A:Around}(r:Bv k A)(h:j<=k):Bv j A:=⟨r.hd,by have:=r.dp;omega,by have:=r.un;omega⟩
theorem Bv.deeper {k:Nat}{A:Around}(r:Bv (k+1) A)(env:Env):Bv k (A.deeper env):=
 ⟨r.hd,by have:=r.dp;show A.depth+1+3*k+5<_;omega,by have:=r.un;show A.units+3+16*k+200<_;omega⟩
theorem Bv.depth {k:Nat}{A:Around}(r:Bv k A):A.depth<recursionLimit:=by have:=r.dp;omega
theorem Bv.units {k:Nat}{A:Around}(r:Bv k A):A.units+64<cLine:=by have:=r.un;omega
noncomputable def Xr:TA:=λ _ H Q=>Q [] H
noncomputable def VN (ta:TE)(tr:TA):TA:=λ σ H Q=>ta σ H λ x H1=>tr σ H1 λ xs H2=>Q (x::xs) H2
section
variable {X:Cx}{e:Expr}{es:List Expr}{te:TE}{t:TA}{pos:Pos}
theorem CY:PA X [] Xr:=λ _ _ _ _ H Q I h=>Calls.spliced_nil ⟨[],H,I,.nil,h⟩
theorem Bt (ha:PE X e te)(hr:PA X es t)(hs:starEach (e::es) X.env=(false,eval e X.env)::starEach es X.env:=by rfl):PA X (e::es) (VN te t):=by
 intro pos pins s σ H Q I h;rw[hs];show wpAny _ _ (spliced ((false,eval e X.env)::backTo pos (starEach es X.env))) _ _ s;refine Calls.spliced_cons (AV (ha pins s σ H _ I h) λ u s1 ⟨x,H1,I1,r1,q1⟩=>?_);exact AV (hr pos pins s1 σ H1 _ I1 q1) λ us s2 ⟨xs,H2,I2,r2,q2⟩=>⟨x::xs,H2,I2,.cons r1 r2,q2⟩
noncomputable def Xs (t:TA):TE:=λ σ H Q=>t σ H λ xs H1=>xs.length<=sizeLine/\∀p,H1 p=none->Q (.ref p) (upd H1 p (.tup xs))
noncomputable def Xu (t:TA):TE:=λ σ H Q=>t σ H λ xs H1=>xs.length<=sizeLine/\∀p,H1 p=none->Q (.ref p) (upd H1 p (.lst xs))
theorem Th {x1}(h:PA X es t):PE X (.Tuple es x1 pos) (Xs t):=by
 intro pins s σ H Q I hq;refine wpAny_Tuple_spliced (AV (h pos pins s σ H _ I hq) λ us s1 ⟨xs,H1,I1,r,z,q⟩=>⟨by rw[<-r.length];exact z,?_⟩);have hf:H1 s1.heap.objs.size=none:=I1.An.fresh (zp _);refine⟨.ref s1.heap.objs.size,upd H1 s1.heap.objs.size (.tup xs),I1.laid (t':=s1.toks) (λ b u e=>zr _ e) (zp _) ?_,rfl,q _ hf⟩;exact⟨z,us,r,⟨_,zG _ rfl,rfl,_,rfl⟩⟩
theorem OF (h:PA X es t):PE X (.List es pos) (Xu t):=by
 intro pins s σ H Q I hq;refine wpAny_List_spliced (AV (h pos pins s σ H _ I hq) λ us s1 ⟨xs,H1,I1,r,z,q⟩=>⟨by rw[<-r.length];exact z,?_⟩);have hf:H1 s1.heap.objs.size=none:=I1.An.fresh (zp _);refine⟨.ref s1.heap.objs.size,upd H1 s1.heap.objs.size (.lst xs),I1.laid (t':=s1.toks) (λ b u e=>zr _ e) (zp _) ?_,rfl,q _ hf⟩;exact⟨z,us,0,r,zG _ rfl⟩
end
noncomputable abbrev Sp:=List V->Hp->VK->XK->Prop
noncomputable abbrev Od:=List Env->Hp->Shared->XK->Value->Shared->Prop
structure Rb (P:Program)(w:World)(K:zc)(mg:Str->Option Value)(base:Heap)(A:Around)(outer:List Env)(s:Shared)(H:Hp):Prop where
 frames:A.frames=some outer
 mod:Mod K mg base
 bs:∀b o,base.get? b=some o->s.heap.get? b=some o/\H b=none
 Sn:base.objs.size<=s.heap.objs.size
 F0:s.heap.FunFrames base outer
 Vc:∀b∈FH outer,H b=none
 An:Cp P w H s.heap
 bare:AllBare s.gens
def CE (outer:List Env)(P:Program)(w:World)(H:Hp)(s:Shared)(Q:VK)(u:Value)(s':Shared):Prop:=
 ∃v H',s'.os=s.os/\AllBare s'.gens/\Un (FH outer) [] H H' s.heap s'.heap/\Cp P w H' s'.heap/\RelV v u/\Q v H'
def CR (CX:Od)(outer:List Env)(P:Program)(w:World)(H:Hp)(s:Shared)(Q:VK)(E:XK)(r:Result)(s':Shared):Prop:=
 match r with
 | .ok (.ret u)=>CE outer P w H s Q u s'
 | .ok _=>False
 | .error e=>CX outer H s E e s'
structure DY (P:Program)(w:World)(K:zc)(mg:Str->Option Value)(base:Heap)(CX:Od)(k:Nat)(f:Addr)(fd:FuncData)(ps:List Str)(sp:Sp):Prop where
 len:∀vs H Q E,sp vs H Q E->vs.length=ps.length
 run:∀(A:Around) (outer:List Env) (s:Shared) (H:Hp) (args:Args) (us:List Value) (vs:List V) (Q:VK) (E:XK),Bv k A->Rb P w K mg base A outer s H->BindsTo s fd args (ps.zip us)->Vals vs us->sp vs H Q E->
  codeAny (model P w) A (.call (.ref f) args) (CR CX outer P w H s Q E) s
section
variable {X:Cx}{pins:List (Addr×Obj)}{σ:St}{H:Hp}{s s':Shared}
theorem Inv.Xv (I:Inv X pins σ H s):Rb X.prog X.w X.K X.mg X.base X.A X.stack s H:=
 ⟨I.ok.frames,I.ok.mod,I.bs,zY I.ok.Sn I.sz,I.stack,I.J9,I.An,I.bare⟩
theorem Inv.after {Q:VK}{u:Value}(I:Inv X pins σ H s)(h:CE X.stack X.prog X.w H s Q u s'):EP X pins σ Q u s':=by
 obtain⟨v,H',os,bare,un,An,r,q⟩:=h;obtain⟨hh,g,d,t,gY⟩:=s';obtain rfl:gY=s.os:=os;exact⟨v,H',I.call (h':=hh) (g':=g) (d':=d) (t':=t) (ch:=[]) un An bare (λ b z=>absurd z (by simp)),r,q⟩
end
noncomputable def VO (sp:Sp)(bE:List V)(E:XK)(t:TA):TE:=λ σ H Q=>t σ H λ vs H1=>sp (vs++bE) H1 Q E
def Binds (K:zc)(fd:FuncData)(ps:List Str)(ds:List Value):Prop:=
 ∀(s:Shared) (us:List Value),K.In s.heap->(us++ds).length=ps.length->BindsTo s fd ⟨us,[]⟩ (ps.zip (us++ds))
theorem Binds.all {K:zc}{fd:FuncData}{ps:List Str}(h:∀us:List Value,us.length=ps.length->bindArgs fd ⟨us,[]⟩=pure (ps.zip us)):Binds K fd ps []:=λ s us _ hl=>by
 rw[yk] at hl ⊢;exact .of_eq (h us hl)
def Jc (CX:Od)(X:Cx)(E:XK):Prop:=∀(pins:List (Addr×Obj)) (σ:St) (H:Hp) (s:Shared) (e:Value) (s':Shared),Inv X pins σ H s->CX X.stack H s E e s'->X.xe e s'
section
variable {X:Cx}{CX:Od}{k:Nat}{f C:Addr}{fd:FuncData}{ps:List Str}{sp:Sp}{bE:List V}{ds:List Value}{E:XK}{x m:Str}{p pos apos:Pos}{e o:Expr}{es:List Expr}{ta:TE}{t:TA}
theorem Ti {pins:List (Addr×Obj)}{σ:St}{H:Hp}{s:Shared}{Q:VK}{us:List Value}{vs:List V}(F:DY X.prog X.w X.K X.mg X.base CX k f fd ps sp)(hr:Bv k X.A)(hb:Binds X.K fd ps ds)(hd:Vals bE ds)(hx:Jc CX X E)
 (I:Inv X pins σ H s) (r:Vals vs us) (h:sp (vs++bE) H Q E):wpAny (model X.prog X.w) X.A (call (.ref f) us) (EP X pins σ Q) X.xe s:=by
 have r2:Vals (vs++bE) (us++ds):=r.append hd;have hl:(us++ds).length=ps.length:=by rw[<-r2.length];exact F.len _ _ _ _ h
 refine wpAny_call (codeAny_mono (F.run X.A X.stack s H ⟨us,[]⟩ (us++ds) (vs++bE) Q E hr I.Xv (hb s us I.MG hl) r2 h) λ r s' hq=>?_);cases r with
 |error e=>exact hx pins σ H s e s' I hq
 |ok fl =>
  cases fl with
  |ret u=>exact I.after hq
  |next|brk|cont=>exact False.elim hq
theorem ML (F:DY X.prog X.w X.K X.mg X.base CX k f fd ps sp)(hr:Bv k X.A)(hg:Gl X x)(hm:X.mg x=some (.ref f))(hk:zQ X.K (.ref f)=true)(hb:Binds X.K fd ps ds)(hd:Vals bE ds)(hx:Jc CX X E)
 (ha:PA X (e::es) t) (aS:(x==("__debug__" : Str))=false:=by decide) (he:starEach (e::es) X.env=(false,eval e X.env)::starEach es X.env:=by rfl) (hpl:(backTo pos (starEach es X.env)).any (·.1)=false:=by rfl):
 PE X (.Call (.Name x p) (e::es) [] pos) (VO sp bE E t):=by
 intro pins s σ H Q I h;refine wpAny_Call_Name_kw (QW I hg hm ?_ aS);refine PySem.W.callWith_K (h₀:=X.base) I.ok.mod.X6 hk (AV (ha pos pins s σ H _ I h) λ us s1 ⟨vs,H1,I1,r,q⟩=>⟨I1.MG,?_⟩) he hpl;exact Ti F hr hb hd hx I1 r q
end
structure Aq (N P:List Str)(sc:Scope):Prop where
 kind:sc.kind=.function
 co:sc.isCoroutine=false
 gen:sc.isGenerator=false
 nd:N.Nodup
 pre:N.take P.length=P
 Y3:∀x∈P,sc.names.lookup x=some .local\/sc.names.lookup x=some .cell
 Tj:∀y∈sc.names,y.2≠.free
theorem Iz {kindOf:Str->Option NameKind}{x:Str}:∀ {binds:List (Str×Value)}{m:Str->Option Value},(∀v,(x,v)∉binds)->bindL kindOf binds m x=m x
 |[],_,_=>rfl
 |(n,v)::r,m,h=>by
  unfold bindL;rw[Iz λ w hw=>h w (zf _ hw)];split
  ·have:x≠n:=by rintro rfl;exact h v zd
   simp[this]
  ·rfl
theorem IA {kindOf:Str->Option NameKind}{x:Str}:∀ {binds:List (Str×Value)}{m:Str->Option Value},(∀v,(x,v)∉binds)->bindC kindOf binds m x=m x
 |[],_,_=>rfl
 |(n,v)::r,m,h=>by
  unfold bindC;rw[IA λ w hw=>h w (zf _ hw)];split
  ·rfl
  ·have:x≠n:=by rintro rfl;exact h v zd
   simp[this]
theorem IB {kindOf:Str->Option NameKind}{x:Str}{v:Value}:∀ {P:List Str}{vs:List Value}{i:Nat}{m:Str->Option Value},P.Nodup->P[i]?=some x->vs[i]?=some v->kindOf x=some .local->
 bindL kindOf (P.zip vs) m x=some v
 |[],_,_,_,_,h,_,_|_::_,[],_,_,_,_,h,_=>by simp at h
 |p::P,w::vs,0,m,nd,h1,h2,hk=>by
  simp at h1 h2;subst h1;subst h2;show bindL kindOf ((p,w)::P.zip vs) m p=_;unfold bindL;rw[Iz λ v hv=>(zV.mp nd).1 (List.of_mem_zip hv).1,if_pos hk];simp
 |p::P,w::vs,i+1,m,nd,h1,h2,hk=>by
  show bindL kindOf ((p,w)::P.zip vs) m x=_;unfold bindL;exact IB (i:=i) (zV.mp nd).2 (by simpa using h1) (by simpa using h2) hk
theorem IC {kindOf:Str->Option NameKind}{x:Str}{v:Value}:∀ {P:List Str}{vs:List Value}{i:Nat}{m:Str->Option Value},P.Nodup->P[i]?=some x->vs[i]?=some v->kindOf x≠some .local->
 bindC kindOf (P.zip vs) m x=some v
 |[],_,_,_,_,h,_,_|_::_,[],_,_,_,_,h,_=>by simp at h
 |p::P,w::vs,0,m,nd,h1,h2,hk=>by
  simp at h1 h2;subst h1;subst h2;show bindC kindOf ((p,w)::P.zip vs) m p=_;unfold bindC;rw[IA λ v hv=>(zV.mp nd).1 (List.of_mem_zip hv).1,if_neg hk];simp
 |p::P,w::vs,i+1,m,nd,h1,h2,hk=>by
  show bindC kindOf ((p,w)::P.zip vs) m x=_;unfold bindC;exact IC (i:=i) (zV.mp nd).2 (by simpa using h1) (by simpa using h2) hk
noncomputable def start (N:List Str)(vs:List V):St:=vs.map some++List.replicate (N.length-vs.length) none
noncomputable def FR (CX:Od)(P:Program)(w:World)(K:zc)(mg:Str->Option Value)(base:Heap)(N:List Str)(qual:Str)(scope:Scope)(f:Addr)(cd:Value)(A:Around)(outer:List Env)(s:Shared)(H:Hp)(E:XK):Cx where
 prog:=P
 w:=w
 K:=K
 mg:=mg
 base:=base
 A:=A.deeper (envOfC qual scope s.heap.objs.size f cd)
 N:=N
 s₀:=s
 H₀:=H
 env:=envOfC qual scope s.heap.objs.size f cd
 outer:=outer
 stack:=envOfC qual scope s.heap.objs.size f cd::outer
 ex:=[]
 calm:=true
 fn:=λ _=>true
 pn:=[]
 xe:=λ e s'=>wpAny (model P w) (A.deeper (envOfC qual scope s.heap.objs.size f cd)) (leaving (envOfC qual scope s.heap.objs.size f cd) e) (λ _ cz=>CX outer H s E e cz) (λ e' cz=>CX outer H s E e' cz) s'
theorem Kq {sc:Scope}{n:Nat}{x:Str}(h:sc.names.lookup x=some .cell):∃c,(cellsFrom n sc.names []).lookup x=some c:=by
 have q:=PySem.W.cellsFrom_some sc.names n [] (.inl h);exact y8.mp q
theorem Ny {CX:Od}{P:Program}{w:World}{K:zc}{mg:Str->Option Value}{base:Heap}{N ps:List Str}{qual:Str}{scope:Scope}{f:Addr}{cd:Value}{A:Around}{outer:List Env}{s s1:Shared}{H:Hp}{E:XK}{us:List Value}{vs:List V}
 (S:Aq N ps scope) (hd:A.handled=none) (e0:Rb P w K mg base A outer s H) (hl:vs.length=ps.length) (r:Vals vs us)
 (x:InCallC s s.heap.objs.size (bindL (envOfC qual scope s.heap.objs.size f cd).kindOf (ps.zip us) λ _=>none) (cellsFrom (s.heap.objs.size+1) scope.names []) (bindC (envOfC qual scope s.heap.objs.size f cd).kindOf (ps.zip us) λ _=>none) s1):
 Inv (FR CX P w K mg base N qual scope f cd A outer s H E) [] (start N vs) H s1:=by
 have hpl:ps.length<=N.length:=by have:=congrArg List.length S.pre;rw[ym] at this;omega
 obtain⟨h1,tk,rfl,hk⟩:=x.done;have c3:∀b:Addr,b∉(FR CX P w K mg base N qual scope f cd A outer s H E).ex:=λ b z=>absurd (show b∈([]:List Addr) from z) (by simp);refine⟨⟨e0.mod,S.kind,rfl,rfl,zp _,λ y z c h1 h2=>?_,λ y hy=>?_,λ y c _ h=>?_,λ _=>hd,Around.frames_deeper e0.frames,.inr ⟨rfl,rfl⟩,λ b z=>absurd z (c3 b),e0.bs,e0.Sn,λ b _ _=>c3 b,λ b z=>absurd z (c3 b),e0.F0,e0.Vc⟩,
  rfl,e0.bare,Un.kept hk,⟨_,x.toInCall.ns,λ i y v h1 h2 h3=>?_⟩,λ y c h=>⟨_,x.cell y c h⟩,e0.An.fresh (zp _),λ y c h=>?_,λ p hp=>absurd (show p∈([]:List (Addr×Obj)) from hp) (by simp),e0.An.kept hk,?_⟩
 ·exact name_of_addr x.apart (y7 h1) (y7 h2)
 ·have hy:scope.names.lookup y=some .cell\/scope.names.lookup y=some .free:=hy;rcases hy with hy|hy
  ·exact Kq hy
  ·exact absurd rfl (S.Tj _ (y7 hy))
 ·exact yz (x.above y c (y7 h))
 ·have hi:i<vs.length:=by
   unfold start at h2;by_cases hi:i<vs.length
   ·exact hi
   ·rw[yl (by simpa using hi)] at h2;rw[List.getElem?_replicate] at h2;split at h2<;>cases h2
  have ha:vs[i]?=some v:=by
   unfold start at h2;rw[yb (by simpa using hi),zy] at h2;cases e:vs[i]? with
   |none=>rw[e] at h2;cases h2
   |some a=>rw[e] at h2;cases h2;rfl
  obtain⟨u,hu,rv⟩:=r.get ha;have hp:ps[i]?=some y:=by
   rw[<-S.pre,List.getElem?_take_of_lt (by omega)];exact h1
  have fV:ps.Nodup:=by rw[<-S.pre];exact S.nd.sublist (List.take_sublist _ _)
  refine⟨u,rv,?_⟩;rcases S.Y3 y (zk hp) with k|k
  ·exact .inl ⟨k,IB fV hp hu k⟩
  ·obtain⟨c,e⟩:=Kq (n:=s.heap.objs.size+1) k;refine .inr ⟨.inl k,c,e,?_⟩;have q:=x.cell y c e;rw[IC fV hp hu (by show scope.names.lookup y≠_;rw[k];decide)] at q;exact q
 ·exact e0.An.fresh (yz (x.above y c (y7 h)))
 ·unfold start;show _=N.length;rw[zT,zh,List.length_replicate];omega
theorem OG {CX:Od}{P:Program}{w:World}{K:zc}{mg:Str->Option Value}{base:Heap}{k:Nat}{f:Addr}{name qual:Str}{params:Arguments}{body:List Stmt}{scope:Scope}{dV kV doc pm Ba ct oc:Value}{an od:Option Addr}
 {Oe:Array (Option Value)} {N ps:List Str} {sp:Sp} (lk:K.lookup f=some ⟨oc,od,.func (zP name qual params body scope dV kV doc pm an Ba ct),Oe⟩) (a4:yc K Ba qual=true) (S:Aq N ps scope)
 (len:∀vs H Q E,sp vs H Q E->vs.length=ps.length)
 (aT:∀(A:Around) (outer:List Env) (s:Shared) (H:Hp) (vs:List V) (Q:VK) (E:XK),Bv k (A.deeper (envOfC qual scope s.heap.objs.size f Ba))->sp vs H Q E->
  ∃t,MH (FR CX P w K mg base N qual scope f Ba A outer s H E) body t/\t {nx:=λ _ H'=>Q .Aw H',rt:=Q} (start N vs) H):
 DY P w K mg base CX (k+1) f (zP name qual params body scope dV kV doc pm an Ba ct) ps sp:=by
 refine⟨len,λ A outer s H args us vs Q E hr e0 hb r bp=>?_⟩;have hl:=len _ _ _ _ bp;have KX:K.In s.heap:=e0.mod.X6.keeps λ b o e=>(e0.bs b o e).1;have lim:s.heap.NoLimit:=e0.mod.nolimit.keeps λ b o e=>(e0.bs b o e).1;have c4:∀y∈ps.zip us,scope.names.lookup y.1=some .local\/(scope.names.lookup y.1=some .cell/\((cellsFrom (s.heap.objs.size+1) scope.names []).lookup y.1).isSome=true):=λ⟨n,v⟩ hy=>by
  rcases S.Y3 n (List.of_mem_zip hy).1 with q|q
  ·exact .inl q
  ·exact .inr ⟨q,PySem.W.cellsFrom_some _ _ _ (.inl q)⟩
 refine codeAny_call_function hr.depth (KX _ _ lk) rfl S.co S.gen rfl (PySem.W.codeRec_of KX a4) (hb _ _ _ _ ?_);refine wpAny_newFunctionEnv_cells S.kind c4 λ env he s1 x=>?_;subst he;refine⟨lim.keeps x.toInCall.keep,codeAny_func ?_⟩;obtain⟨t,ht,hq⟩:=aT A outer s H vs Q E (hr.deeper _) bp;have I:Inv (FR CX P w K mg base N qual scope f Ba A outer s H E) [] (start N vs) H s1:=Ny S hr.hd e0 hl r x;refine wpAny_mono (ht [] s1 (start N vs) H _ I hq) (λ fl s' hs=>?_) λ e s' hs=>hs;have fin:∀ {σ':St} {H':Hp} {v:V} {u:Value},Inv (FR CX P w K mg base N qual scope f Ba A outer s H E) [] σ' H' s'->RelV v u->Q v H'->CE outer P w H s Q u s':=
  fun {σ' H' v u} J rv q=>⟨v,H',J.os,J.bare,J.base,J.An,rv,q⟩
 cases fl with
 |ret u =>
  obtain⟨v,σ',H',J,rv,q⟩:=hs;exact fin J rv q
 |next =>
  obtain⟨σ',H',J,q⟩:=hs;exact fin (v:=V.Aw) (u:=Value.none) J rfl q
 |brk =>
  obtain⟨_,_,_,q⟩:=hs;exact False.elim q
 |cont =>
  obtain⟨_,_,_,q⟩:=hs;exact False.elim q
section
variable {X:Cx}{x:Str}{p pos:Pos}{e:Expr}{es:List Expr}{t:TA}{id T:String}{r:List V->Hp->VK->Prop}
noncomputable def Xw (r:List V->Hp->VK->Prop)(t:TA):TE:=λ σ H Q=>t σ H λ vs H1=>r vs H1 Q
theorem Kr (hc:Ey X (.builtin id) r)(hg:Gl X x)(hm:X.mg x=none)(hv:bootBuiltins x=some (.builtin id))(ha:PA X (e::es) t)(hn:x ≠ "__name__" := by decide)(aS:(x==("__debug__" : Str))=false:=by decide)
 (he:starEach (e::es) X.env=(false,eval e X.env)::starEach es X.env:=by rfl) (hpl:(backTo pos (starEach es X.env)).any (·.1)=false:=by rfl):PE X (.Call (.Name x p) (e::es) [] pos) (Xw r t):=by
 intro pins s σ H Q I h;refine wpAny_Call_Name_kw (F1 I hg hm hv ?_ hn aS);exact PyProof.Rows.callWith_builtin1 (AV (ha pos pins s σ H _ I h) λ us s1 ⟨vs,H1,I1,r1,q1⟩=>hc pins s1 σ H1 vs us Q I1 r1 q1) he hpl
theorem Nz (hc:Ey X (.type T) r)(hg:Gl X x)(hm:X.mg x=none)(hv:bootBuiltins x=some (.type T))(ha:PA X (e::es) t)(hn:x ≠ "__name__" := by decide)(aS:(x==("__debug__" : Str))=false:=by decide)
 (he:starEach (e::es) X.env=(false,eval e X.env)::starEach es X.env:=by rfl) (hpl:(backTo pos (starEach es X.env)).any (·.1)=false:=by rfl):PE X (.Call (.Name x p) (e::es) [] pos) (Xw r t):=by
 intro pins s σ H Q I h;refine wpAny_Call_Name_kw (F1 I hg hm hv ?_ hn aS);exact yq (AV (ha pos pins s σ H _ I h) λ us s1 ⟨vs,H1,I1,r1,q1⟩=>hc pins s1 σ H1 vs us Q I1 r1 q1) he hpl
end
end L2
namespace HT
open PySem PyProof.Rows
noncomputable def lexLt:List Int->List Int->Bool
 |[],[]=>false
 |[],_::_=>true
 |_::_,[]=>false
 |x::xs,y::ys=>if x=y then lexLt xs ys else decide (x<y)
theorem Ed (x y:Int)(xs ys:List Int):lexLt (x::xs) (y::ys)=if x=y then lexLt xs ys else decide (x<y):=rfl
theorem E6:lexLt [] []=false:=rfl
theorem Gj (y:Int)(ys:List Int):lexLt [] (y::ys)=true:=rfl
theorem Gk (x:Int)(xs:List Int):lexLt (x::xs) []=false:=rfl
theorem OH (A:Around)(s:Shared)(a:Int)(t:Tok)(c:Int)(u:Tok):∃e,SeqAt.EqAt A s (.int a t) (.int c u) e/\(e=true↔a=c):=
 ⟨(a==c),SeqAt.EqAt.int_int a t c u,by simp⟩
theorem OI (A:Around)(s:Shared)(a:Int)(t:Tok)(c:Int)(u:Tok)(prog:Program)(w:World)(E:Value->Shared->Prop)(Q:Value->Shared->Prop)(h:Q (.bool (decide (a<c))) s):
 wpAny (model prog w) A (richCompare .Lt (.int a t) (.int c u)) Q E s:=
 (PyProof.Rows.lt_int h:wpAny (model prog w) A (compareOp .Lt (.int a t) (.int c u)) Q E s)
section
open PySem.SeqAt
open PySem.AutoSeq1 (wpAny_loadPart')
open PySem.MeetsSeq PySem.MeetsSeq2 PySem.MeetsSeq3
theorem Ii (l b:Addr)(items ai:Array Value)(n n2:Nat)(dd dI:Option Addr)(sl dJ:Array (Option Value))(ns ms:List Int)(hi:IntsAre items.toList ns)(hj:IntsAre ai.toList ms):
 Meets (Builtin.«tuple.__lt__» ⟨[.ref l,.ref b],[]⟩)
  (λ _ R s=>s.heap.get? l=some {cls:=.type "tuple",dict:=dd,data:=.seq items n,slots:=sl}/\s.heap.get? b=some {cls:=.type "tuple",dict:=dI,data:=.seq ai n2,slots:=dJ}/\
   R (.ok (.ret (.bool (lexLt ns ms)))) s):=
 .of_wp λ prog w A R s h=>by
  obtain⟨hp,g,d,tk,os⟩:=s;obtain⟨hl,hb,h⟩:=h;have f2:=AutoSeq1.sub_tuple_tuple;have z1:items.size=ns.length:=by rw[<-hi.length];simp
  have z2:ai.size=ms.length:=by rw[<-hj.length];simp
  wp_walk using wpAny_loadPart' hl,wpAny_loadPart' hb,wpAny_forIn_list _ (λ rest b s'=>b.1=none/\s'=⟨hp,g,d,tk,os⟩/\∃(vs ws:List Value) (cj ck:List Int),rest=vs.zip ws/\
   IntsAre vs cj/\IntsAre ws ck/\cj.length+ai.size=ck.length+items.size/\R (.ok (.ret (.bool (lexLt cj ck)))) ⟨hp,g,d,tk,os⟩) _
  case turn =>
   rintro ⟨y,x⟩ rest b s' ⟨aQ,rfl,vs,ws,cj,ck,hz,dL,dg,hlen,hR⟩;cases dL with
   |nil=>rw[List.zip_nil_left] at hz;cases hz
   |cons a t dM =>
    cases dg with
    |nil=>rw[List.zip_nil_right] at hz;cases hz
    |cons c u dN =>
     rw[List.zip_cons_cons] at hz;injection hz with gZ c5
     injection gZ with hy hx
     subst hy hx;rw[Ed] at hR;simp only[zt] at hlen;obtain⟨e,he,c6⟩:=OH A.in1 ⟨hp,g,d,tk,os⟩ a t c u;refine wpAny_bind (he prog w _ _ ?_);cases e with
     |true =>
      rw[if_pos (c6.mp rfl)] at hR
      wp_walk
      exact⟨rfl,rfl,_,_,_,_,c5,dM,dN,by omega,hR⟩
     |false =>
      rw[if_neg (λ q=>absurd (c6.mpr q) zD)] at hR;have h7:=OI A.in1 ⟨hp,g,d,tk,os⟩ a t c u prog w
      wp_walk using h7
      exact⟨_,rfl,by simpa using hR⟩
  case fin =>
   rintro ⟨b1,b2⟩ s' ⟨aQ,rfl,vs,ws,cj,ck,hz,dL,dg,hlen,hR⟩;simp only at aQ;subst aQ;have hv:lexLt cj ck=decide (items.size<ai.size):=by
    cases dL with
    |nil =>
     cases dg with
     |nil =>
      simp only[List.length_nil] at hlen;rw[E6];exact (decide_eq_false (by omega)).symm
     |cons c u hw =>
      simp only[List.length_nil,zt] at hlen;rw[Gj];exact (decide_eq_true (by omega)).symm
    |cons a t hv =>
     cases dg with
     |nil =>
      simp only[List.length_nil,zt] at hlen;rw[Gk];exact (decide_eq_false (by omega)).symm
     |cons c u hw =>
      rw[List.zip_cons_cons] at hz;cases hz
   rw[hv] at hR
   wp_walk
   exact⟨_,rfl,by simpa [Builtin.Tuple.tupleCompareSizes] using hR⟩
  case h =>
   exact⟨rfl,rfl,items.toList,ai.toList,ns,ms,rfl,hi,hj,by omega,h⟩
end
section
variable {prog:Program}{w:World}{A:Around}{E:Value->Shared->Prop}{s:Shared}
theorem LK {l b:Addr}{items ai:Array Value}{ns ms:List Int}{Q:Value->Shared->Prop}(hl:IsTup s.heap l items)(hb:IsTup s.heap b ai)(hi:IntsAre items.toList ns)(hj:IntsAre ai.toList ms)
 (hu:A.units<cLine) (h:Q (.bool (lexLt ns ms)) s):wpAny (model prog w) A (compareOp .Lt (.ref l) (.ref b)) Q E s:=by
 obtain⟨⟨cls,dd,data,sl⟩,ho,hc,n,hd⟩:=id hl;obtain⟨⟨h8,dI,data2,dJ⟩,dh,fW,n2,hd2⟩:=id hb;simp only at hc hd fW hd2;subst hc hd fW hd2;exact richCompare_meets_room (op:=.Lt) ⟨_,ho,rfl⟩ ⟨_,dh,rfl⟩ PySem.F.slot_tuple_lt PySem.F.entry_tuple_lt (PySem.F.args_tuple_lt_2 _ _) (Ii l b items ai n n2 dd dI sl dJ ns ms hi hj)
  ⟨ho,dh,show Value.bool (lexLt ns ms)≠Value.notImplemented/\Q (.bool (lexLt ns ms)) s from ⟨(λ x=>nomatch x),h⟩⟩ hu
noncomputable def Gm (n d:Nat):Option Int->Nat
 |none=>d
 |some v=>if v<0 then (v+(n:Int)).toNat else min v.toNat n
theorem Ks (n d:Nat):Gm n d none=d:=rfl
theorem G0 (n d k:Nat):Gm n d (some (k:Int))=min k n:=by
 show (if (k:Int)<0 then ((k:Int)+(n:Int)).toNat else min (k:Int).toNat n)=min k n;rw[if_neg (by omega),Int.toNat_natCast]
end
end HT
namespace L2
open PySem PySem.Spec PyProof.Rows
noncomputable abbrev TO:=St->Hp->(Option Int->Hp->Prop)->Prop
def PO (X:Cx)(e:Option Expr)(t:TO):Prop:=
 ∀(pins:List (Addr×Obj)) (s:Shared) (σ:St) (H:Hp) (Q:Option Int->Hp->Prop),Inv X pins σ H s->t σ H Q->
  wpAny (model X.prog X.w) X.A (evalPart e X.env) (λ u s'=>∃o H',Inv X pins σ H' s'/\IsPart u o/\Q o H') X.xe s
noncomputable def Rc:TO:=λ _ H Q=>Q none H
noncomputable def VP (t:TE):TO:=λ σ H Q=>t σ H λ x H1=>∃i,x=.int i/\Q (some i) H1
theorem intsAre_of {ns:List Int}:∀ {us:List Value},Vals (ns.map V.int) us->IntsAre us ns:=by
 induction ns with
 |nil=>intro us r;rw[List.map_nil] at r;cases r;exact .nil
 |cons n ns ih =>
  intro us r;rw[zj] at r;cases r with
  |cons r1 r2 =>
   obtain⟨t,e⟩:=r1;subst e;exact .cons n t (ih r2)
section
variable {X:Cx}{e:Expr}{te:TE}{lo hi:Option Expr}{tl th:TO}{pos p2:Pos}
theorem Rf:PO X none Rc:=by
 intro pins s σ H Q I h;rw[evalPart_none];exact wpAny_pure ⟨none,H,I,.none,h⟩
theorem Rg (h:PE X e te):PO X (some e) (VP te):=by
 intro pins s σ H Q I hw;rw[evalPart_some];refine AV (h pins s σ H _ I hw) λ u s1 ⟨x,H1,I1,r1,q1⟩=>?_;obtain⟨i,rfl,q⟩:=q1;obtain⟨t,rfl⟩:=r1;exact⟨some i,H1,I1,.int i t,q⟩
def Y4 (X:Cx)(r:V->Option Int->Option Int->Hp->VK->Prop):Prop:=
 ∀(pins:List (Addr×Obj)) (s:Shared) (σ:St) (H:Hp) (x:V) (v vl vu:Value) (lo hi:Option Int) (sl:Addr) (Q:VK),Inv X pins σ H s->RelV x v->s.heap.IsSliceOf sl vl vu .none->IsPart vl lo->IsPart vu hi->r x lo hi H Q->
  ∃T id,typeLookup (.type T) "__getitem__" = pure (some (.builtin id))/\s.TypeIs v T/\wpAny (model X.prog X.w) X.A (getItem v (.ref sl)) (EP X pins σ Q) X.xe s
noncomputable def Ys (r:V->Option Int->Option Int->Hp->VK->Prop)(te:TE)(tl th:TO):TE:=λ σ H Q=>te σ H λ x H1=>tl σ H1 λ l H2=>th σ H2 λ u H3=>r x l u H3 Q
theorem OJ {r:V->Option Int->Option Int->Hp->VK->Prop}(hr:Y4 X r)(he:PE X e te)(hl:PO X lo tl)(hu:PO X hi th):PE X (.Subscript e (.Slice lo hi none p2) pos) (Ys r te tl th):=by
 intro pins s σ H Q I h;refine Subscript_ (AV (he pins s σ H _ I h) λ v s1 ⟨x,H1,I1,r1,q1⟩=>?_);refine wpAny_Slice (AV (hl pins s1 σ H1 _ I1 q1) λ vl s2 ⟨l,H2,I2,pl,q2⟩=>AV (hu pins s2 σ H2 _ I2 q2) λ vu s3 ⟨u,H3,I3,pu,q3⟩=>?_);rw[evalPart_none];refine wpAny_pure ?_;have I4:Inv X pins σ H3 {s3 with heap:=s3.heap.push {cls:=.type "slice",data:=.fields #[vl,vu,.none]} }:=I3.kept (t':=s3.toks) λ b ob q=>zr _ q;obtain⟨T,id,hT,ht,hg⟩:=hr pins {s3 with heap:=s3.heap.push {cls:=.type "slice",data:=.fields #[vl,vu,.none]} } σ H3 x v vl vu l u s3.heap.objs.size Q I4 r1 (Heap.IsSliceOf.new ..) pl pu q3;show wpAny (model X.prog X.w) X.A (subscriptTail e (.Slice lo hi none p2) v (.ref s3.heap.objs.size)) (EP X pins σ Q) X.xe {s3 with heap:=s3.heap.push {cls:=.type "slice",data:=.fields #[vl,vu,.none]} };exact tail_any (ops:=[.ref s3.heap.objs.size,v]) ht hT hg (by with_unfolding_all rfl)
noncomputable def OK (xs:List V)(lo hi:Option Int):List V:=(xs.drop (HT.Gm xs.length 0 lo)).take (HT.Gm xs.length xs.length hi-HT.Gm xs.length 0 lo)
theorem Kt (xs:List V)(lo hi:Option Int):(OK xs lo hi).length<=xs.length:=by
 unfold OK;rw[ym,yA];omega
noncomputable def VQ (K:zc):R2:=λ x y H Q=>∃a b ns ms,x=.ref a/\y=.ref b/\EX K H a (ns.map V.int)/\EX K H b (ms.map V.int)/\Q (.bl (HT.lexLt ns ms)) H
theorem OL (hu:X.A.units<cLine):Ex X (compareOp .Lt) (VQ X.K):=by
 intro pins s σ H x y v u Q I rx ry h;obtain⟨a,b,ns,ms,rfl,rfl,ha,hb,q⟩:=h;cases rx;cases ry;obtain⟨aa,r1,p1,_⟩:=I.tuple ha;obtain⟨dO,r2,p2,_⟩:=I.tuple hb;have i1:IntsAre aa.toArray.toList ns:=intsAre_of r1;have i2:IntsAre dO.toArray.toList ms:=intsAre_of r2;exact HT.LK p1 p2 i1 i2 hu ⟨.bl (HT.lexLt ns ms),H,I,rfl,q⟩
end
noncomputable def VR (n:Nat)(i:Int):Option Nat:=if 0<=i then (if i<n then some i.toNat else none) else if -(n:Int)<=i then some (i+n).toNat else none
noncomputable def Of {α:Type}(xs:List α)(i:Int):Option α:=(VR xs.length i).bind λ j=>xs[j]?
theorem Rh {n:Nat}{i:Int}{j:Nat}(h:VR n i=some j):seqIndex? i n=some j/\j<n/\-(n:Int)<=i/\i<n:=by
 unfold VR at h;by_cases h0:0<=i
 ·rw[if_pos h0] at h;by_cases h1:i<n
  ·rw[if_pos h1] at h;have e:i.toNat=j:=zx h;exact⟨by rw[seqIndex_of h0 h1,e],by omega,by omega,h1⟩
  ·rw[if_neg h1] at h;cases h
 ·rw[if_neg h0] at h;by_cases h1 : -(n:Int)<=i
  ·rw[if_pos h1] at h;have e:(i+n).toNat=j:=zx h;exact⟨by rw[seqIndex_neg (by omega) h1,e],by omega,h1,by omega⟩
  ·rw[if_neg h1] at h;cases h
theorem MM {α:Type}{xs:List α}{i:Int}{v:α}(h:Of xs i=some v):∃j,seqIndex? i xs.length=some j/\xs[j]?=some v/\j<xs.length/\-(xs.length:Int)<=i/\i<xs.length:=by
 unfold Of at h;cases e:VR xs.length i with
 |none=>rw[e] at h;cases h
 |some j =>
  rw[e] at h;obtain⟨h1,h2,h3,h4⟩:=Rh e;exact⟨j,h1,h,h2,h3,h4⟩
def Jd (b:Expr):Prop:=∀o i,subscripted b false o i=operate [o,i] (getItem o i)
def Ri (X:Cx)(r:R2):Prop:=
 ∀(value slice:Expr) (pins:List (Addr×Obj)) (s:Shared) (σ:St) (H:Hp) (x y:V) (v u:Value) (Q:VK),Inv X pins σ H s->RelV x v->RelV y u->r x y H Q->
  subscripted slice false v u=operate [v,u] (getItem v u)->wpAny (model X.prog X.w) X.A (subscriptTail value slice v u) (EP X pins σ Q) X.xe s
def WQ (X:Cx)(id:String)(r:V->List V->Hp->VK->Prop):Prop:=
 ∀(pins:List (Addr×Obj)) (s:Shared) (σ:St) (H:Hp) (x:V) (xs:List V) (v:Value) (us:List Value) (Q:VK),Inv X pins σ H s->RelV x v->Vals xs us->r x xs H Q->
  wpAny (model X.prog X.w) X.A (call (.builtin id) (v::us)) (EP X pins σ Q) X.xe s
section
variable {X:Cx}{a b:Expr}{ta tb:TE}{pos:Pos}
theorem Ri.or {r r':R2}(h:Ri X r)(h':Ri X r'):Ri X (λ x y H Q=>r x y H Q\/r' x y H Q):=by
 intro value slice pins s σ H x y v u Q I rx ry q hs;rcases q with q|q
 ·exact h value slice pins s σ H x y v u Q I rx ry q hs
 ·exact h' value slice pins s σ H x y v u Q I rx ry q hs
theorem VS {r:R2}(hr:Ri X r)(ha:PE X a ta)(hb:PE X b tb)(hs:Jd b):PE X (.Subscript a b pos) (VF r ta tb):=by
 intro pins s σ H Q I h;exact Subscript_ (Ta ha hb I h λ v u s2 x y H2 I2 rx ry q=>hr a b pins s2 σ H2 x y v u Q I2 rx ry q (hs _ _))
noncomputable def Tn (K:zc):R2:=λ x y H Q=>∃p xs i v,x=.ref p/\y=.int i/\C1 K H p xs/\Of xs i=some v/\Q v H
noncomputable def To (K:zc):R2:=λ x y H Q=>∃p xs i v,x=.ref p/\y=.int i/\EX K H p xs/\Of xs i=some v/\Q v H
theorem Rj:Ri X (Tn X.K):=by
 intro value slice pins s σ H x y v u Q I rx ry h hs;obtain⟨p,xs,i,z,rfl,rfl,hq,he,q⟩:=h;cases rx;obtain⟨t,rfl⟩:=ry;obtain⟨aa,r,pl,hz⟩:=I.list hq;obtain⟨j,h1,h2,h3,h4,h5⟩:=MM he;obtain⟨w,ew,aJ⟩:=r.get h2;have hl:=r.length;have hn:=Gi;have fin:EP X pins σ Q w s:=⟨z,H,I,aJ,q⟩;by_cases h0:0<=i
 ·have hj:i.toNat=j:=by
   rw[seqIndex_of h0 h5] at h1;exact zx h1
  exact item_listR pl.isList h0 (by omega) (by rw[hj];simpa using ew) fin hs
 ·have hj:(i+(aa.toArray.size:Int)).toNat=j:=by
   rw[seqIndex_neg (by omega) h4] at h1;rw[zm,<-hl];exact zx h1
  exact subscriptTail_builtinR (x:=w) pl.isList.typeIs slot_list_getitem.lookup
   (wpAny_getItem_list_neg (Q:=λ r s'=>r=w/\EP X pins σ Q r s') pl.isList (by omega) (by rw[zm]<;>omega) (by omega) (by rw[hj];simpa using ew) ⟨rfl,fin⟩) hs
theorem Tp:Ri X (To X.K):=by
 intro value slice pins s σ H x y v u Q I rx ry h hs;obtain⟨p,xs,i,z,rfl,rfl,hq,he,q⟩:=h;cases rx;obtain⟨t,rfl⟩:=ry;obtain⟨aa,r,pl,hz⟩:=I.tuple hq;obtain⟨j,h1,h2,h3,h4,h5⟩:=MM he;obtain⟨w,ew,aJ⟩:=r.get h2;have hl:=r.length;have hn:=Gi;have fin:EP X pins σ Q w s:=⟨z,H,I,aJ,q⟩;exact subscriptTail_builtinR (x:=w) pl.typeIs slot_tuple_getitem.lookup
  (getItem_tuple (j:=j) (Q:=λ r s'=>r=w/\EP X pins σ Q r s') pl (by omega) (by omega) (by rw[zm,<-hl];exact h1) (by simpa using ew) ⟨rfl,fin⟩) hs
theorem Je (lo hi:Option Int)(n:Nat):(sliceBounds lo hi none n).1=((HT.Gm n 0 lo:Nat):Int)/\(sliceBounds lo hi none n).2.1=((HT.Gm n n hi:Nat):Int)/\(sliceBounds lo hi none n).2.2=1:=by
 refine⟨?_,?_,rfl⟩
 ·cases lo with
  |none=>simp[sliceBounds,HT.Gm]
  |some i =>
   simp only[sliceBounds,HT.Gm,Option.getD_none,show (1:Int) > 0 by decide,if_true];by_cases h:i<0
   ·simp only[h,if_true]<;>omega
   ·simp only[h,if_false]<;>omega
 ·cases hi with
  |none=>simp[sliceBounds,HT.Gm]
  |some i =>
   simp only[sliceBounds,HT.Gm,Option.getD_none,show (1:Int) > 0 by decide,if_true];by_cases h:i<0
   ·simp only[h,if_true]<;>omega
   ·simp only[h,if_false]<;>omega
theorem Ij (aa:List Value)(lo hi:Option Int):slicePick aa.toArray lo hi none=((aa.drop (HT.Gm aa.length 0 lo)).take (HT.Gm aa.length aa.length hi-HT.Gm aa.length 0 lo)).toArray:=by
 obtain⟨h1,h2,h3⟩:=Je lo hi aa.toArray.size;unfold slicePick;rw[h1,h2,h3];simp only[sliceRange_one,pick_run,zm]<;>rfl
def Xx (K:zc):V->Option Int->Option Int->Hp->VK->Prop:=λ x lo hi H Q=>∃a xs,x=.ref a/\C1 K H a xs/\∀p,H p=none->Q (.ref p) (upd H p (.lst (OK xs lo hi)))
theorem Rk:Y4 X (Xx X.K):=by
 intro pins s σ H x v vl vu lo hi sl Q I rx hs pl pu h;obtain⟨a,xs,rfl,hx,q⟩:=h;cases rx;obtain⟨aa,r,ht,hz⟩:=I.list hx;have hlen:=r.length;refine⟨"list",_,slot_list_getitem.lookup,ht.isList.typeIs,?_⟩;refine wpAny_getItem_list_slice ht.isList hs pl pu .none (by simp) ?_ (by rw[zm]<;>omega);rw[Ij,<-hlen];refine⟨.ref s.heap.objs.size,_,I.laid (t':=s.toks) (o:=.lst (OK xs lo hi)) (λ b ob q=>zr _ q) (zp _) ?_,rfl,q _ (I.An.fresh (zp _))⟩;exact⟨zY (Kt xs lo hi) hz,_,0,(r.drop (HT.Gm xs.length 0 lo)).take (HT.Gm xs.length xs.length hi-HT.Gm xs.length 0 lo),zG _ rfl⟩
noncomputable def Ez:V->Bool
 | .Aw| .bl _| .int _| .str _=>true
 |_=>false
noncomputable def Sr:V->V->Bool
 | .Aw,.Aw=>true
 | .bl a,.bl b=>a==b
 | .bl a,.int b=>(if a then 1 else 0)==b
 | .int a,.bl b=>a==(if b then 1 else 0)
 | .int a,.int b| .str a,.str b=>a==b
 |_,_=>false
theorem Tq {A:Around}{s:Shared}{y x:V}{u v:Value}(ry:RelV y u)(rx:RelV x v)(fy:Ez y=true)(fx:Ez x=true):SeqAt.EqAt A s u v (Sr y x):=by
 cases y with
 |Aw =>
  cases ry;cases x with
  |Aw=>cases rx;exact SeqAt.EqAt.same _
  |bl b=>cases rx;exact SeqAt.EqAt.none_bool b
  |int b=>obtain⟨t,rfl⟩:=rx;exact SeqAt.EqAt.none_int b t
  |str b=>obtain⟨t,rfl⟩:=rx;exact SeqAt.EqAt.none_str b t
  |_=>exact absurd (show false=true from fx) zD
 |bl a =>
  cases ry;cases x with
  |Aw=>cases rx;exact SeqAt.EqAt.bool_none a
  |bl b=>cases rx;exact SeqAt.EqAt.bool_bool a b
  |int b=>obtain⟨t,rfl⟩:=rx;exact SeqAt.EqAt.bool_int a b t
  |str b=>obtain⟨t,rfl⟩:=rx;exact SeqAt.EqAt.bool_str a b t
  |_=>exact absurd (show false=true from fx) zD
 |int a =>
  obtain⟨t',rfl⟩:=ry;cases x with
  |Aw=>cases rx;exact SeqAt.EqAt.int_none a t'
  |bl b=>cases rx;exact SeqAt.EqAt.int_bool a t' b
  |int b=>obtain⟨t,rfl⟩:=rx;exact SeqAt.EqAt.int_int a t' b t
  |str b=>obtain⟨t,rfl⟩:=rx;exact SeqAt.EqAt.int_str a t' b t
  |_=>exact absurd (show false=true from fx) zD
 |str a =>
  obtain⟨t',rfl⟩:=ry;cases x with
  |Aw=>cases rx;exact SeqAt.EqAt.str_none a t'
  |bl b=>cases rx;exact SeqAt.EqAt.str_bool a t' b
  |int b=>obtain⟨t,rfl⟩:=rx;exact SeqAt.EqAt.str_int a t' b t
  |str b=>obtain⟨t,rfl⟩:=rx;exact SeqAt.EqAt.str_str a t' b t
  |_=>exact absurd (show false=true from fx) zD
 |_=>exact absurd (show false=true from fy) zD
noncomputable def LL (x:V)(u:Value):Bool:=match u with
 | .none=>Sr .Aw x
 | .bool b=>Sr (.bl b) x
 | .int i _=>Sr (.int i) x
 | .str z _=>Sr (.str z) x
 |_=>false
theorem OM {x y:V}{u:Value}(r:RelV y u)(f:Ez y=true):LL x u=Sr y x:=by
 cases y with
 |Aw|bl b=>cases r;rfl
 |int i|str z=>obtain⟨t,rfl⟩:=r;rfl
 |_=>exact absurd (show false=true from f) zD
theorem EA {x:V}:∀ {xs:List V}{us:List Value},Vals xs us->xs.all Ez=true->us.any (LL x)=xs.any λ y=>Sr y x
 |_,_,.nil,_=>rfl
 |y::xs,u::us,.cons r t,f=>by
  rw[List.all_cons,zL] at f;rw[y4,y4,OM r f.1,EA t f.2]
theorem CZ {A:Around}{s:Shared}{x:V}{v:Value}(rx:RelV x v)(fx:Ez x=true):∀ {xs:List V}{us:List Value},Vals xs us->xs.all Ez=true->∀u∈us,SeqAt.EqAt A s u v (LL x u)
 |_,_,.nil,_=>λ u hu=>by cases hu
 |y::xs,u::us,.cons r t,f=>λ u' hu=>by
  rw[List.all_cons,zL] at f;rcases zo.mp hu with rfl|hu
  ·rw[OM r f.1];exact Tq r rx f.1 fx
  ·exact CZ rx fx t f.2 u' hu
noncomputable def ON (x:V)(xs:List V):Bool:=xs.any λ y=>Sr y x
noncomputable def WR (K:zc)(neg:Bool):R2:=λ x y H Q=>∃p xs,y=.ref p/\(C1 K H p xs\/EX K H p xs)/\Ez x=true/\xs.all Ez=true/\Q (.bl (if neg then !ON x xs else ON x xs)) H
theorem NA:Ex X (compareOp .In) (WR X.K false):=by
 intro pins s σ H x y v u Q I rx ry h;obtain⟨p,xs,rfl,hq,fx,fs,q⟩:=h;cases ry;rcases hq with hq|hq
 ·obtain⟨aa,r,pl,hz⟩:=I.list hq;refine SeqAt.in_listAt (LL x) pl.isList (λ w hw=>CZ rx fx r fs w (by simpa using hw)) ⟨.bl _,H,I,rfl,?_⟩;rw[show aa.toArray.any (LL x)=aa.any (LL x) by simp,EA r fs];exact q
 ·obtain⟨aa,r,pl,hz⟩:=I.tuple hq;refine SeqAt.in_tupleAt (LL x) pl (λ w hw=>CZ rx fx r fs w (by simpa using hw)) ⟨.bl _,H,I,rfl,?_⟩;rw[show aa.toArray.any (LL x)=aa.any (LL x) by simp,EA r fs];exact q
theorem Jf:Ex X (compareOp .NotIn) (WR X.K true):=by
 intro pins s σ H x y v u Q I rx ry h;obtain⟨p,xs,rfl,hq,fx,fs,q⟩:=h;cases ry;rcases hq with hq|hq
 ·obtain⟨aa,r,pl,hz⟩:=I.list hq;refine SeqAt.notIn_listAt (LL x) pl.isList (λ w hw=>CZ rx fx r fs w (by simpa using hw)) ⟨.bl _,H,I,rfl,?_⟩;rw[show aa.toArray.any (LL x)=aa.any (LL x) by simp,EA r fs];exact q
 ·obtain⟨aa,r,pl,hz⟩:=I.tuple hq;refine SeqAt.notIn_tupleAt (LL x) pl (λ w hw=>CZ rx fx r fs w (by simpa using hw)) ⟨.bl _,H,I,rfl,?_⟩;rw[show aa.toArray.any (LL x)=aa.any (LL x) by simp,EA r fs];exact q
theorem Jg:Ey X (.builtin "len") (λ xs H Q=>∃p ys,xs=[.ref p]/\(C1 X.K H p ys\/EX X.K H p ys)/\Q (.int ys.length) H):=by
 intro pins s σ H xs us Q I r h;obtain⟨p,ys,rfl,hq,q⟩:=h;obtain⟨u,rfl,rx⟩:=vals1 r;cases rx;have hn:=Gi;rcases hq with hq|hq
 ·obtain⟨aa,r',pl,hz⟩:=I.list hq;have hlen:=r'.length;exact Calls.call_len_list pl.isList (by simp only[zm]<;>omega) ⟨.int ys.length,H,I.tok _,⟨s.toks+1,by rw[zm,hlen]⟩,q⟩
 ·obtain⟨aa,r',pl,hz⟩:=I.tuple hq;have hlen:=r'.length;exact len_tuple pl (by simp only[zm]<;>omega) ⟨.int ys.length,H,I.tok _,⟨s.toks+1,by rw[zm,hlen]⟩,q⟩
theorem Jh:Ey X (.type "list") (λ xs H Q=>∃p ys,xs=[.ref p]/\(C1 X.K H p ys\/EX X.K H p ys)/\∀l,H l=none->Q (.ref l) (upd H l (.lst ys))):=by
 intro pins s σ H xs us Q I r h;obtain⟨p,ys,rfl,hq,q⟩:=h;obtain⟨u,rfl,rx⟩:=vals1 r;cases rx;have fin:∀(aa:List Value),Vals ys aa->ys.length<=sizeLine->∀(h':Heap) (c':Nat),(∀b o',s.heap.get? b=some o'->h'.get? b=some o')->
  h'.get? s.heap.objs.size=some {cls:=.type "list",dict:=none,data:=.seq aa.toArray c',slots:=#[]}->EP X pins σ Q (.ref s.heap.objs.size) {s with heap:=h' }:=λ aa r' hz h' c' kp e =>
  ⟨.ref s.heap.objs.size,_,I.laid (t':=s.toks) kp (zp _) (show AF X.prog X.w _ h' _ (.lst ys) from ⟨hz,aa,c',r',e⟩),rfl,q _ (I.An.fresh (zp _))⟩
 rcases hq with hq|hq
 ·obtain⟨aa,r',pl,hz⟩:=I.list hq;have hlen:=r'.length;obtain⟨o,ho,hc,n,hd⟩:=pl.isList;exact call_list_seq p (.inl rfl) ho hc hd (λ h' c' kp e=>fin aa r' hz h' c' kp e) (by simp only[zm]<;>omega)
 ·obtain⟨aa,r',pl,hz⟩:=I.tuple hq;have hlen:=r'.length;obtain⟨o,ho,hc,n,hd⟩:=pl;exact call_list_seq p (.inr rfl) ho hc hd (λ h' c' kp e=>fin aa r' hz h' c' kp e) (by simp only[zm]<;>omega)
def Xy (K:zc)(T:String)(x:V)(H:Hp):Prop:=match x with
 | .str _=>T = "str"
 | .int _=>T = "int"
 | .ref p=>(T = "list" /\ ∃xs,C1 K H p xs)\/(T = "tuple" /\ ∃o,K.lookup p=some o/\o.cls=.type "tuple" /\ o.dict=none) \/
  (T = "dict" /\ ((∃kvs,H p=some (.dK kvs))\/∃kvs,H p=some (.dT kvs)))\/(T = "set" /\ ∃S n,H p=some (.set S n))
 |_=>False
theorem OO {pins:List (Addr×Obj)}{σ:St}{H:Hp}{s:Shared}{T:String}{x:V}{v:Value}(I:Inv X pins σ H s)(r:RelV x v)(ty:Xy X.K T x H):
 s.TypeIs v T/\∀a,v=.ref a->∃ob,s.heap.get? a=some ob/\ob.dict=none:=by
 cases x with
 |str z =>
  obtain⟨t,rfl⟩:=r;cases (show T = "str" from ty);exact⟨typeIs_str s z t,λ _ e=>nomatch e⟩
 |int i =>
  obtain⟨t,rfl⟩:=r;cases (show T = "int" from ty);exact⟨typeIs_int s i t,λ _ e=>nomatch e⟩
 |ref p =>
  cases r;rcases ty with ⟨rfl,xs,hq⟩|⟨rfl,o,hk,hc,hd⟩|⟨rfl,hk⟩|⟨rfl,S,n,hk⟩
  ·obtain⟨aa,_,pl,_⟩:=I.list hq;refine⟨pl.isList.typeIs,λ a e=>?_⟩;cases e;obtain⟨o,n,e,c,hd,_⟩:=pl;exact⟨o,e,hd⟩
  ·refine⟨⟨o,I.MG p o hk,hc⟩,λ a e=>?_⟩;cases e;exact⟨o,I.MG _ o hk,hd⟩
  ·have z:∃o,s.heap.get? p=some o/\o.ExactDict:=by
    rcases hk with ⟨kvs,hk⟩|⟨kvs,hk⟩
    ·obtain⟨_,_,_,_,o,_,_,e,ex,_⟩:=I.An p _ hk;exact⟨o,e,ex⟩
    ·obtain⟨_,_,_,_,o,_,_,e,ex,_⟩:=I.An p _ hk;exact⟨o,e,ex⟩
   obtain⟨o,e,ex⟩:=z;refine⟨⟨o,e,ex.1⟩,λ a e2=>?_⟩;cases e2;exact⟨o,e,ex.2.1⟩
  ·obtain⟨o,_,_,_,e,ex,_⟩:=I.An p _ hk;refine⟨⟨o,e,ex.1⟩,λ a e2=>?_⟩;cases e2;exact⟨o,e,ex.2.1⟩
 |_=>exact False.elim ty
noncomputable def Xz (K:zc)(T:String)(r:V->List V->Hp->VK->Prop)(to:TE):TE:=λ σ H Q=>to σ H λ x H1=>Xy K T x H1/\r x [] H1 Q
noncomputable def Yt (K:zc)(T:String)(r:V->List V->Hp->VK->Prop)(to:TE)(t:TA):TE:=λ σ H Q=>to σ H λ x H1=>Xy K T x H1/\t σ H1 λ xs H2=>r x xs H2 Q
variable {o e:Expr}{es:List Expr}{to:TE}{t:TA}{name:Str}{apos ah:Pos}{T id:String}{r:V->List V->Hp->VK->Prop}
theorem Ts (pa:PlainAttrs T)(slot:Slot T name id)(c7:typeOf (.builtin id)=pure (.type "method_descriptor"))(hm:WQ X id r)(ho:PE X o to)
 (ao:attributeBase o name X.env (eval o X.env)=eval o X.env:=by rfl) (ap:(apos.endLine==ah.line)=true:=by rfl):PE X (.Call (.Attribute o name apos) [] [] ah) (Xz X.K T r to):=by
 intro pins s σ H Q I h;refine wpAny_Call_method0_late ao ap (AV (ho pins s σ H _ I h) λ v s1 ⟨x,H1,I1,r1,ty,q1⟩=>?_);obtain⟨h1,h2⟩:=OO I1 r1 ty;exact⟨T,id,pa,slot,c7,h1,h2,Calls.callWith_builtin rfl (PySem.evalArgs_none (hm pins s1 σ H1 x [] v [] Q I1 r1 .nil q1))⟩
theorem Ss (pa:PlainAttrs T)(slot:Slot T name id)(c7:typeOf (.builtin id)=pure (.type "method_descriptor"))(hm:WQ X id r)(ho:PE X o to)(ha:PA X (e::es) t)
 (ao:attributeBase o name X.env (eval o X.env)=eval o X.env:=by rfl)
 (aU:((backTo ah (starEach (e::es) X.env)).all (λ x => !x.1)&&(backToKw ah (keywordEach [] X.env)).all (λ x=>x.1.isSome)
  && decide ((e::es).length+([]:List Keyword).length+(if ([]:List Keyword).isEmpty then 0 else 1)<30))=true:=by rfl)
 (ap:(apos.endLine==ah.line)=true:=by rfl) (hs:starEach (e::es) X.env=(false,eval e X.env)::starEach es X.env:=by rfl) (a8:(backTo ah (starEach es X.env)).any (·.1)=false:=by rfl):
 PE X (.Call (.Attribute o name apos) (e::es) [] ah) (Yt X.K T r to t):=by
 intro pins s σ H Q I h;refine wpAny_Call_method_late ao aU ap rfl (AV (ho pins s σ H _ I h) λ v s1 ⟨x,H1,I1,r1,ty,q1⟩=>?_);obtain⟨h1,h2⟩:=OO I1 r1 ty;refine⟨T,id,pa,slot,c7,h1,h2,?_⟩;have hA:=ha ah pins s1 σ H1 _ I1 q1;rw[hs] at hA ⊢;refine Calls.callWith_builtin (by show (false||(backTo ah (starEach es X.env)).any (·.1))=false;rw[a8]<;>rfl) (Calls.evalArgs_plain ?_);exact AV hA λ us s2 ⟨vs,H2,I2,r2,q2⟩=>hm pins s2 σ H2 x vs v us Q I2 r1 r2 q2
end
def Yu (X:Cx)(id:String)(r:V->List V->Hp->VK->Prop):Prop:=
 ∀(pins:List (Addr×Obj)) (s:Shared) (σ:St) (H:Hp) (x:V) (xs:List V) (v:Value) (us:List Value) (Q:VK),Inv X pins σ H s->RelV x v->Vals xs us->r x xs H Q->
  wpAny (model X.prog X.w) X.A (call (.builtin id) (v::us)) (EP X pins σ Q) X.xe s
theorem Vals.one:∀ {x:V}{us:List Value},Vals [x] us->∃u,us=[u]/\RelV x u
 |_,_,.cons r .nil=>⟨_,rfl,r⟩
theorem Vals.two:∀ {x y:V}{us:List Value},Vals [x,y] us->∃u v,us=[u,v]/\RelV x u/\RelV y v
 |_,_,_,.cons r (.cons q .nil)=>⟨_,_,rfl,r,q⟩
theorem Vals.zero:∀ {us:List Value},Vals [] us->us=[]
 |_,.nil=>rfl
theorem Vals.dropLast {xs:List V}{us:List Value}(h:Vals xs us):Vals xs.dropLast us.dropLast:=by
 induction h with
 |nil=>exact .nil
 |cons r t ih =>
  cases t with
  |nil=>exact .nil
  |cons q t'=>exact .cons r ih
theorem Vals.reverse {xs:List V}{us:List Value}(h:Vals xs us):Vals xs.reverse us.reverse:=by
 induction h with
 |nil=>exact .nil
 |cons r t ih=>rw[List.reverse_cons,List.reverse_cons];exact Vals.append ih (.cons r .nil)
section
variable {X:Cx}{pins:List (Addr×Obj)}{σ:St}{H:Hp}{s:Shared}{l b:Addr}{xs ys zs:List V}
theorem Inv.XA {aa its':List Value}{n:Nat}{f:Array Value->Array Value}{t':Nat}(I:Inv X pins σ H s)(hH:H l=some (.lst xs))
 (e:s.heap.get? l=some {cls:=.type "list",data:=.seq aa.toArray n}) (hf:f aa.toArray=its'.toArray) (hv:Vals ys its') (hz:ys.length<=sizeLine):
 Inv X pins σ (upd H l (.lst ys)) {s with heap:=s.heap.update l (Obj.mapSeq f),toks:=t' }:=by
 have q:=PySem.IsL.update e f;rw[hf] at q;refine I.write (x:=l) (e:=l) (by rw[hH];exact trivial) (.inl rfl) (λ b' u hb hu=>(Heap.get?_update_other s.heap (Obj.mapSeq f) (zU hb)).trans hu) ⟨_,q⟩ ?_;exact⟨hz,its',_,hv,q⟩
theorem Inv.XB (I:Inv X pins σ H s)(hH:H l=some (.lst xs)):xs.length<=sizeLine/\∃(aa:List Value) (n:Nat),Vals xs aa/\xs.length=aa.length/\s.heap.get? l=some {cls:=.type "list",data:=.seq aa.toArray n}:=by
 obtain⟨z,aa,n,r,e⟩:=I.An l _ hH;exact⟨z,aa,n,r,r.length,e⟩
end
end L2
namespace fX
open PySem PySem.W PySem.Calls PyProof.Rows
theorem FT {P:Params}{h:Heap}:∀(ns:List Int) (vs:List Value),WellAll P h vs (ns.map WData.int)->IntsAre vs ns:=by
 intro ns;induction ns with
 |nil =>
  intro vs w;rw[List.map_nil] at w;cases w;exact .nil
 |cons n ns ih =>
  intro vs w;rw[zj] at w;cases w with
  |cons a b =>
   cases a;exact .cons _ _ (ih _ b)
theorem NC {l:OpenLaw}{n:Nat}(hn:l.most=some n){P:Params}{h:Heap}{args:List WData}{vals:List Value}
 (bx:l.row.toRowW.claim.pre args=true) (dP:WellAll P h vals args):
 ∃a vs ns,vals=[yj a]/\args=[WData.list (ns.map WData.int)]/\h.get? a=some {cls:=.type "list",data:=.seq vs.toArray}/\IntsAre vs ns/\ns.length<=n:=by
 have h9:WShape.hasAll [] args [.list .int]=true:=(pre_splitW bx).1;have hc:l.pre.holds [] {args:=args}=true:=(pre_splitW bx).2;obtain⟨d,r,rfl,h1,h2⟩:=hasAllW_cons h9;obtain rfl:=hasAllW_nil h2;obtain⟨xs,rfl,h3⟩:=hasW_list h1;obtain⟨ns,rfl⟩:=items_int h3;have hlen:ns.length<=n:=by
  unfold OpenLaw.pre at hc;have h4:(WTm.not (.lt (.lit (.int (n:Int))) (.len (.arg 0)))).holds [] {args:=[.list (ns.map .int)]}=true:=by
   have h4:=(holds_andW hc).1;rw[hn] at h4;exact h4
  have h5:=condW_of h4 (w_not (w_lt w_lit (w_len_list (w_arg rfl))));rw[zh] at h5;refine Nat.le_of_not_lt λ q=>?_;have q':(n:Int)<((ns.length:Nat):Int):=by omega
  first
   |(rw[decide_eq_true q'] at h5;exact absurd h5 (by decide))
   |(simp at h5;omega)
 cases dP with
 |cons w1 w2 =>
  cases w2;cases w1 with
  |list ho aV=>exact⟨_,_,ns,rfl,rfl,ho,FT ns _ aV,hlen⟩
theorem ND (l:OpenLaw)(args:List WData):l.row.toRowW.claim.post args (.bool true) args=true:=
 postW_of (r:=l.row.toRowW) (X:=(true==true))
  (show WShape.has [] (.bool true) .bool=true by first|rfl|decide|simp[WShape.has,WShape.arms,WShape.armsAll])
  (show (WTm.eq .res (.lit (.bool true))).value [] {args:=args,res:=some (.bool true),after:=args}=some (.bool (true==true)) from w_eq_bool (w_res rfl) w_lit) rfl
end fX
namespace L2
open PySem PySem.Spec PyProof.Rows
theorem ID:∀ {vs:List Value}{ns:List Int},IntsAre vs ns->Vals (ns.map V.int) vs
 |_,_,.nil=>.nil
 |_,_,.cons n t h=>.cons ⟨t,rfl⟩ (ID h)
def Rl (H:Hp):Prop:=∀b,H b=none\/∃o xs,H b=some (.Cn o (.lst xs))
theorem Ku {P:Program}{w:World}{K:zc}{mg mb:Str->Option Value}{CX:Od}{k:Nat}{fa a:Addr}{fd:FuncData}{x:Str}{sp:Sp}{s₁:Shared}{vs:List Value}{ns:List Int}
 (KX:K.In s₁.heap) (bO:s₁.heap.Ns mainGlobals mg) (hb:s₁.heap.Ns builtinsNs mb) (hE:∀x:Str,x ≠ "__name__" -> mb x=bootBuiltins x) (dQ:s₁.heap.NoLimit) (hg:s₁.gens=#[])
 (ha:s₁.heap.get? a=some {cls:=.type "list",data:=.seq vs.toArray}) (hi:IntsAre vs ns) (hl:ns.length<=sizeLine) (hr:Bv k callerA)
 (F:∀base:Heap,K.In base->base.Ns mainGlobals mg->DY P w K mg base CX k fa fd [x] sp) (c8:∀(s:Shared) (u:Value),BindsTo s fd ⟨[u],[]⟩ [(x,u)])
 (bp:∀H:Hp,Rl H->C1 K H a (ns.map V.int)->sp [.ref a] H (λ v _=>v=.bl true) λ _ _ _=>False)
 (c9:∀H e s',CX [] H s₁ (λ _ _ _=>False) e s'->False):
 codeAny (model P w) callerA (.call (.ref fa) ⟨[.ref a],[]⟩) (λ r s'=>r=.ok (.ret (.bool true))/\OldK s₁.heap s'.heap/\s'.os=s₁.os/\AllBare s'.gens) s₁:=by
 have rv:=ID hi;have dR:=hi.length;have core:∀H:Hp,Rl H->C1 K H a (ns.map V.int)->Cp P w H s₁.heap->(∀b,H b≠none->b=a)->(H a≠none->K.lookup a=none)->
  codeAny (model P w) callerA (.call (.ref fa) ⟨[.ref a],[]⟩) (λ r s'=>r=.ok (.ret (.bool true))/\OldK s₁.heap s'.heap/\s'.os=s₁.os/\AllBare s'.gens) s₁:=by
  intro H hO hS An hA hK;have aG:∀ {b:Addr} {o:Obj},s₁.heap.get? b=some o->H b=none->(J8 s₁.heap H).get? b=some o:=λ e n=>Oq e n;have c3:∀ {b:Addr} {o:Obj} {es:Array DictEntry} {ep:Nat},s₁.heap.get? b=some o->o.data=.dict es ep->H b=none:=fun {b o es ep} e d=>by
   cases q:H b with
   |none=>rfl
   |some u =>
    have e':b=a:=hA b (by rw[q];simp);subst e';rw[ha] at e;cases e;have d':Data.seq vs.toArray _=Data.dict es ep:=d;cases d'
  have di:∀ {b:Addr} {m:Str->Option Value},s₁.heap.Ns b m->(J8 s₁.heap H).Ns b m:=fun {b m} ⟨o,es,ep,e,d,r⟩=>⟨o,es,ep,aG e (c3 e d),d,r⟩;have fY:K.In (J8 s₁.heap H):=λ b o e=>aG (KX b o e) (by
   cases q:H b with
   |none=>rfl
   |some u =>
    have e':b=a:=hA b (by rw[q];simp);subst e';rw[hK (by rw[q];simp)] at e;cases e)
  have hM:Mod K mg (J8 s₁.heap H):=⟨fY,di bO,⟨mb,di hb,hE⟩,let ⟨mc,h1,h2⟩:=dQ;⟨mc,di h1,h2⟩⟩;have e0:Rb P w K mg (J8 s₁.heap H) callerA [] s₁ H:=⟨rfl,hM,λ b o e=>QU e,Nat.le_of_eq (Nr _ _),trivial,λ b hb=>absurd (show b∈([]:List Addr) from hb) (by simp),An,.of_eq hg⟩;refine codeAny_mono ((F _ fY (di bO)).run callerA [] s₁ H ⟨[.ref a],[]⟩ [.ref a] [.ref a] _ _ hr e0 (c8 s₁ (.ref a)) (.cons rfl .nil) (bp H hO hS)) λ r s' h=>?_;cases r with
  |error e=>exact (c9 H e s' h).elim
  |ok fl =>
   cases fl with
   |next|brk|cont=>exact False.elim h
   |ret u =>
    obtain⟨v,H',os,bare,un,bP,r',q⟩:=h;have q':v=.bl true:=q;subst q';obtain rfl:u=Value.bool true:=r';refine⟨rfl,OldK.of_keep λ b o e=>?_,os,bare⟩;cases q:H b with
    |none=>exact un.keep b o e q (by intro z;exact absurd (show b∈([]:List Addr) from z) (by simp)) (by simp)
    |some u =>
     rcases hO b with z|⟨ob,xs,z⟩
     ·rw[q] at z;cases z
     ·have z2:=un.EZ b ob _ z;obtain⟨e1,_⟩:=An b _ z;obtain⟨e2,_⟩:=bP b _ z2;rw[e] at e1;cases e1;exact e2
 cases hk:K.lookup a with
 |some o =>
  have e:=KX a o hk;rw[ha] at e;cases e;refine core (λ _=>none) (λ _=>.inl rfl) (.inr ⟨_,vs.toArray,_,hk,rfl,rfl,rfl,by rw[zm,dR];exact hl,by simpa using rv⟩) (λ b u z=>by have z':(none:Option HO)=some u:=z;cases z') (λ b z=>absurd rfl z) λ z=>absurd rfl z
 |none =>
  refine core (λ b=>if b=a then some (.Cn {cls:=.type "list",data:=.seq vs.toArray} (.lst (ns.map V.int))) else none) (λ b=>?_) (.inl (.inr ⟨{cls:=.type "list",data:=.seq vs.toArray},if_pos rfl⟩)) (λ b u z=>?_) (λ b z=>?_) λ _=>hk
  ·by_cases hb:b=a
   ·exact .inr ⟨_,_,if_pos hb⟩
   ·exact .inl (if_neg hb)
  ·by_cases hb:b=a
   ·have z':=(if_pos hb).symm.trans z;cases z';subst hb;exact⟨ha,by rw[zh];exact hl,vs,_,rv,ha⟩
   ·have z':=(if_neg hb).symm.trans z;cases z'
  ·by_cases hb:b=a
   ·exact hb
   ·exact absurd (if_neg hb) z
noncomputable abbrev Rm:Od:=λ _ _ _ _ _ _=>False
noncomputable abbrev E0:XK:=λ _ _ _=>False
structure Og (K:zc)(x qual:Str)(st:Stmt)(f:Addr)(fd:FuncData):Prop where
 ex:∃(oc:Value) (od:Option Addr) (kV doc pm:Value) (an:Option Addr) (Ba ct:Value) (Oe:Array (Option Value)),
  fd=zP x qual (AO st) (AA st) (A4 st) .none kV doc pm an Ba ct/\K.lookup f=some ⟨oc,od,.func fd,Oe⟩/\yc K Ba qual=true
 kp:zQ K (.ref f)=true
section
variable {P:Program}{w:World}{K:zc}{mg:Str->Option Value}{base:Heap}
theorem Og.ok {x qual:Str}{st:Stmt}{f:Addr}{fd:FuncData}{N ps:List Str}{k:Nat}{sp:Sp}(F:Og K x qual st f fd)(S:Aq N ps (A4 st))(len:∀vs H Q E,sp vs H Q E->vs.length=ps.length)
 (aT:∀(Ba:Value) (A:Around) (outer:List Env) (s:Shared) (H:Hp) (vs:List V) (Q:VK) (E:XK),Bv k (A.deeper (envOfC qual (A4 st) s.heap.objs.size f Ba))->sp vs H Q E->
  ∃t,MH (FR Rm P w K mg base N qual (A4 st) f Ba A outer s H E).Vx (AA st) t/\t {nx:=λ _ H'=>Q .Aw H',rt:=Q} (start N vs) H):DY P w K mg base Rm (k+1) f fd ps sp:=by
 obtain⟨oc,od,kV,doc,pm,an,Ba,ct,Oe,rfl,lk,a4⟩:=F.ex;refine OG lk a4 S len λ A outer s H vs Q E hr bp=>?_;obtain⟨t,h,q⟩:=aT Ba A outer s H vs Q E hr bp;exact⟨t,h.Vx,q⟩
theorem Og.binds {x qual:Str}{st:Stmt}{f:Addr}{fd:FuncData}{ps:List Str}(F:Og K x qual st f fd)
 (h:∀(kV doc pm:Value) (an:Option Addr) (Ba ct:Value) (us:List Value),us.length=ps.length->bindArgs (zP x qual (AO st) (AA st) (A4 st) .none kV doc pm an Ba ct) ⟨us,[]⟩=pure (ps.zip us)):Binds K fd ps []:=by
 obtain⟨oc,od,kV,doc,pm,an,Ba,ct,Oe,rfl,lk,a4⟩:=F.ex;exact .all (h kV doc pm an Ba ct)
theorem LM {x qual:Str}{st:Stmt}{f:Addr}{oc:Value}{od an:Option Addr}{Oe:Array (Option Value)}{kV doc pm Ba ct:Value}(l:K.lookup f=some ⟨oc,od,.func (zP x qual (AO st) (AA st) (A4 st) .none kV doc pm an Ba ct),Oe⟩)
 (c:yc K Ba qual=true) (k:zQ K (.ref f)=true):Og K x qual st f (zP x qual (AO st) (AA st) (A4 st) .none kV doc pm an Ba ct):=⟨⟨oc,od,kV,doc,pm,an,Ba,ct,Oe,rfl,l,c⟩,k⟩
end
theorem AM {n:Nat}(h:n<=1000):n<sizeLine:=Nat.lt_of_le_of_lt h (by decide)
section
variable {X:Cx}
theorem pv (i:Nat){x:Str}{pos:Pos}(hN:X.N[i]?=some x:=by rfl)(hv:X7 X.env.scope x:=by first | exact zX rfl | exact Or.inr (zX rfl) | exact Or.inr (Or.inr rfl))(hd:(x==("__debug__" : Str))=false:=by decide)
 (a4:(x==("__classdict__" : Str))=false:=by decide):PE X (.Name x pos) (Nt i):=SW hN hv hd a4
end
def A9 (H H':Hp):Prop:=∀b o,H b=some o->H' b=some o
theorem A9.refl (H:Hp):A9 H H:=λ _ _ h=>h
theorem A9.trans {H H1 H2:Hp}(a:A9 H H1)(b:A9 H1 H2):A9 H H2:=λ c o h=>b c o (a c o h)
theorem A9.seq {K:zc}{H H':Hp}{a:Addr}{xs:List V}(e:A9 H H')(h:C1 K H a xs):C1 K H' a xs:=by
 rcases h with (h|⟨o,h⟩)|h
 ·exact .inl (.inl (e _ _ h))
 ·exact .inl (.inr ⟨o,e _ _ h⟩)
 ·exact .inr h
section
variable {κ:Type} [DecidableEq κ]
noncomputable def Ik (kvs:List (κ×V))(k:κ):Option V:=(kvs.find? λ kv=>decide (kv.1=k)).map (·.2)
noncomputable def putK (kvs:List (κ×V))(k:κ)(v:V):List (κ×V):=
 if (kvs.any λ kv=>decide (kv.1=k))=true then kvs.map (λ kv=>if kv.1=k then (kv.1,v) else kv) else kvs++[(k,v)]
theorem Gn {p:κ×V}{r:List (κ×V)}{k:κ}(e:p.1=k):Ik (p::r) k=some p.2:=by simp[Ik,yy,e]
theorem Gp {p:κ×V}{r:List (κ×V)}{k:κ}(e:¬ p.1=k):Ik (p::r) k=Ik r k:=by simp[Ik,yy,e]
theorem Kv (k:κ):∀kvs:List (κ×V),(kvs.any λ kv=>decide (kv.1=k))=(Ik kvs k).isSome
 |[]=>rfl
 |p::r=>by
  rw[y4];by_cases e:p.1=k
  ·simp only[Gn e,decide_eq_true e,Bool.true_or,yr]
  ·rw[Gp e,decide_eq_false e,Bool.false_or];exact Kv k r
theorem C2 (kvs:List (κ×V))(k:κ)(v:V):(putK kvs k v).length<=kvs.length+1:=by
 unfold putK;split
 ·rw[zh];omega
 ·rw[zT,zt,List.length_nil];omega
theorem Ig.Cc {o:Option V}{u:Option Value}(r:Ig o u):o.isSome=u.isSome:=by
 cases o with
 |none=>cases u with
  |none=>rfl
  |some _=>exact (show False from r).elim
 |some _=>cases u with
  |none=>exact (show False from r).elim
  |some _=>rfl
theorem KV.val {kvs:List (κ×V)}{vs:List (κ×Value)}(r:KV kvs vs)(k:κ):Ig (Ik kvs k) (valueAt vs k):=by
 unfold KV at r;induction r with
 |nil=>exact y2
 | @cons p q ps qs h t ih =>
  obtain⟨h1,h2⟩:=h;by_cases e:p.1=k
  ·have e':q.1=k:=h1.symm.trans e;have b:valueAt (q::qs) k=some q.2:=by simp[valueAt,yy,e']
   rw[Gn e,b];exact h2
  ·have e':¬ q.1=k:=λ z=>e (h1.trans z);have b:valueAt (q::qs) k=valueAt qs k:=by simp[valueAt,yy,e']
   rw[Gp e,b];exact ih
theorem KV.any {kvs:List (κ×V)}{vs:List (κ×Value)}(r:KV kvs vs)(k:κ):(kvs.any λ kv=>decide (kv.1=k))=vs.any λ kv=>decide (kv.1=k):=by
 unfold KV at r;induction r with
 |nil=>rfl
 |cons h t ih=>rw[y4,y4,ih,h.1]
theorem KV.Tt {kvs:List (κ×V)}{vs:List (κ×Value)}(r:KV kvs vs)(k:κ){y:V}{u:Value}(ry:RelV y u):
 KV (kvs.map λ kv=>if kv.1=k then (kv.1,y) else kv) (vs.map λ kv=>if kv.1=k then (kv.1,u) else kv):=by
 unfold KV at r ⊢;induction r with
 |nil=>exact .nil
 | @cons p q ps qs h t ih =>
  rw[zj,zj];refine .cons ?_ ih;obtain⟨h1,h2⟩:=h;by_cases e:p.1=k
  ·rw[if_pos e,if_pos (h1.symm.trans e)];exact⟨h1,ry⟩
  ·rw[if_neg e,if_neg (λ z=>e (h1.trans z))];exact⟨h1,h2⟩
theorem KV.put {kvs:List (κ×V)}{vs:List (κ×Value)}(r:KV kvs vs)(k:κ){y:V}{u:Value}(ry:RelV y u):KV (putK kvs k y) (stored vs k u):=by
 unfold putK stored;rw[r.any k];by_cases e:(vs.any λ kv=>decide (kv.1=k))=true
 ·rw[if_pos e,if_pos e];exact r.Tt k ry
 ·rw[if_neg e,if_neg e];exact Paired.snoc r ⟨rfl,ry⟩
theorem KV.length {kvs:List (κ×V)}{vs:List (κ×Value)}(r:KV kvs vs):kvs.length=vs.length:=yw r
end
theorem IE {P:Program}{w:World}{k:Key}{u:Value}(r:RelV (kV k) u):(AD P w).is k u=true:=by
 cases k with
 |inl i=>obtain⟨t,e⟩:=(show ∃t,u=Value.int i t from r);subst e;exact Kj P w i t
 |inr x=>obtain⟨t,e⟩:=(show ∃t,u=Value.str x t from r);subst e;exact Kk P w x t
theorem IF {P:Program}{w:World}:∀ {ks:List Key}{us:List Value},Vals (ks.map kV) us->ItemsAre (AD P w) ks us
 |[],_,r=>by rw[List.map_nil] at r;cases r;exact .nil
 |k::ks,_,r=>by
  rw[zj] at r;cases r with
  |cons h t=>exact .cons (IE h) (IF t)
noncomputable abbrev KT (H:Hp):List (List Key×V)->List (List Key×Addr×Value)->Prop:=Paired λ p q=>p.1=q.1/\H q.2.1=some (.tup (p.1.map kV))/\RelV p.2 q.2.2
theorem KT.val {H:Hp}{kvs:List (List Key×V)}{xs:List (List Key×Addr×Value)}(r:KT H kvs xs)(k:List Key):Ig (Ik kvs k) ((atKey xs k).map (·.2)):=by
 induction r with
 |nil=>exact y2
 | @cons p q ps qs h t ih =>
  obtain⟨h1,_,h2⟩:=h;by_cases e:p.1=k
  ·have e':q.1=k:=h1.symm.trans e;have b:atKey (q::qs) k=some q.2:=by simp[atKey,yy,e']
   rw[Gn e,b];exact h2
  ·have e':¬ q.1=k:=λ z=>e (h1.trans z);have b:atKey (q::qs) k=atKey qs k:=by simp[atKey,yy,e']
   rw[Gp e,b];exact ih
theorem KT.Tt {H:Hp}{kvs:List (List Key×V)}{xs:List (List Key×Addr×Value)}(r:KT H kvs xs)(k:List Key){y:V}{u:Value}(ry:RelV y u):
 KT H (kvs.map λ kv=>if kv.1=k then (kv.1,y) else kv) (xs.map (putAt k u)):=by
 induction r with
 |nil=>exact .nil
 | @cons p q ps qs h t ih =>
  rw[zj,zj];refine .cons ?_ ih;obtain⟨h1,h2,h3⟩:=h;unfold putAt;by_cases e:p.1=k
  ·rw[if_pos e,if_pos (h1.symm.trans e)];exact⟨h1,h2,ry⟩
  ·rw[if_neg e,if_neg (λ z=>e (h1.trans z))];exact⟨h1,h2,h3⟩
theorem KT.put {H:Hp}{kvs:List (List Key×V)}{xs:List (List Key×Addr×Value)}(r:KT H kvs xs)(k:List Key){b:Addr}{y:V}{u:Value}(hb:H b=some (.tup (k.map kV)))(ry:RelV y u):
 KT H (putK kvs k y) (storedH xs k b u):=by
 have e:(kvs.any λ kv=>decide (kv.1=k))=(atKey xs k).isSome:=by
  rw[Kv,(r.val k).Cc,Option.isSome_map]
 unfold putK storedH;rw[e];by_cases q:(atKey xs k).isSome=true
 ·rw[if_pos q,if_pos q];exact r.Tt k ry
 ·rw[if_neg q,if_neg q];exact Paired.snoc r ⟨rfl,hb,ry⟩
theorem KT.keeps {H H':Hp}{kvs:List (List Key×V)}{xs:List (List Key×Addr×Value)}(r:KT H kvs xs)(ht:∀b ys,H b=some (.tup ys)->H' b=some (.tup ys)):KT H' kvs xs:=
 Paired.QT r λ _ _ z=>⟨z.1,ht _ _ z.2.1,z.2.2⟩
section
variable {P:Program}{w:World}{H:Hp}{h:Heap}{a:Addr}
theorem OP {u:HO}(ok:Cp P w H h)(e:Rd H a u):AF P w H h a u:=e.ok ok
theorem IG {kvs:List (Key×V)}(ok:Cp P w H h)(e:Rd H a (.dK kvs)):kvs.length<=sizeLine/\(a==sysModules)=false/\∃vs,KV kvs vs/\h.DictOf (AD P w) a vs:=
 show AF P w H h a (.dK kvs) from OP ok e
theorem Su {kvs:List (Key×V)}(ok:Cp P w H h)(e:H a=some (.dK kvs)):kvs.length<=sizeLine/\(a==sysModules)=false/\∃vs,KV kvs vs/\h.DictOf (AD P w) a vs:=IG ok (.inl e)
theorem F3 {ks:List Key}(ok:Cp P w H h)(e:H a=some (.tup (ks.map kV))):(tupleKind (AD P w)).is h ks a:=by
 obtain⟨_,aa,r,o,h1,h2,n,h3⟩:=(show AF P w H h a (.tup (ks.map kV)) from ok a _ e);exact⟨o,aa.toArray,n,h1,h2,h3,by simpa using IF r⟩
theorem Gq {kvs:List (List Key×V)}(ok:Cp P w H h)(e:Rd H a (.dT kvs)):kvs.length<=sizeLine/\(a==sysModules)=false/\
 ∃xs,KT H kvs xs/\h.DictOfH (tupleKind (AD P w)) a xs:=by
 obtain⟨z,y,xs,r,o,es,ep,h1,h2,h3,h4,h5⟩:=(show AF P w H h a (.dT kvs) from OP ok e);refine⟨z,y,xs,r,o,es,ep,h1,h2,h3,h4,λ x hx=>?_,h5⟩;have all:∀ {l:List (List Key×V)} {m:List (List Key×Addr×Value)},KT H l m->∀x∈m,(tupleKind (AD P w)).is h x.1 x.2.1:=by
  intro l m q;induction q with
  |nil=>intro x hx;exact nomatch hx
  | @cons p q ps qs hq t ih =>
   intro x hx;rcases zo.mp hx with e|hx
   ·subst e;exact F3 ok (by rw[<-hq.1];exact hq.2.1)
   ·exact ih x hx
 exact all r x hx
theorem VT {kvs:List (List Key×V)}(ok:Cp P w H h)(e:H a=some (.dT kvs)):kvs.length<=sizeLine/\(a==sysModules)=false/\
 ∃xs,KT H kvs xs/\h.DictOfH (tupleKind (AD P w)) a xs:=Gq ok (.inl e)
end
def LN (H:Hp)(a:Addr)(y:V)(r:Option V):Prop:=
 (∃kvs k,Rd H a (.dK kvs)/\y=kV k/\r=Ik kvs k)\/∃kvs k b,Rd H a (.dT kvs)/\y=.ref b/\H b=some (.tup (k.map kV))/\r=Ik kvs k
def VU (H:Hp)(a:Addr)(y v:V)(H':Hp):Prop:=
 (∃kvs k,H a=some (.dK kvs)/\y=kV k/\kvs.length<sizeLine/\H'=upd H a (.dK (putK kvs k v))) \/
 ∃kvs k b,H a=some (.dT kvs)/\y=.ref b/\H b=some (.tup (k.map kV))/\kvs.length<sizeLine/\H'=upd H a (.dT (putK kvs k v))
section
variable {X:Cx}{pins:List (Addr×Obj)}{σ:St}{H:Hp}{s:Shared}{a:Addr}{y v:V}{u r:Value}{o:Option V}{A:Around}{E:Value->Shared->Prop}
theorem Inv.big (I:Inv X pins σ H s):sysModules<s.heap.objs.size:=by
 have h:mainGlobals<s.heap.objs.size:=(I.mod.glob.keeps I.bk).lt;exact Nat.lt_trans (by decide) h
theorem NE {Q:Value->Shared->Prop}(hu:A.units+1<cLine)(I:Inv X pins σ H s)(g:LN H a y (some v))(ry:RelV y u)(h:∀w' s',Inv X pins σ H s'->RelV v w'->Q w' s'):
 wpAny (model X.prog X.w) A (getItem (.ref a) u) Q E s:=by
 rcases g with ⟨kvs,k,e,ey,l⟩|⟨kvs,k,b,e,ey,eb,l⟩
 ·subst ey;obtain⟨z,hd,vs,rel,dd⟩:=IG I.An e;obtain⟨w',hw,aJ⟩:=Ig.some_of (v:=v) (o:=valueAt vs k) (by rw[l];exact rel.val k);exact wpAny_getItem_of (IE ry) dd.mapOf hw (h w' _ (I.tok _) aJ)
 ·subst ey;cases (show u=yj b from ry);obtain⟨z,hd,xs,rel,dd⟩:=Gq I.An e;obtain⟨w',hw,aJ⟩:=Ig.some_of (v:=v) (o:=(atKey xs k).map (·.2)) (by rw[l];exact rel.val k);obtain⟨p,hp,hV⟩:=Option.map_eq_some_iff.mp hw;refine wpAny_getItem_heap (tupleKind_room_in1 hu) (F3 I.An eb) dd hp ?_;rw[hV];exact h w' _ (I.tok _) aJ
theorem XC {Q:Value->Shared->Prop}(hu:A.units+1<cLine)(I:Inv X pins σ H s)(g:LN H a y o)(ry:RelV y u)(h:∀s',Inv X pins σ H s'->Q (.bool o.isSome) s'):
 wpAny (model X.prog X.w) A (compareOp .In u (.ref a)) Q E s:=by
 rcases g with ⟨kvs,k,e,ey,l⟩|⟨kvs,k,b,e,ey,eb,l⟩
 ·subst ey;obtain⟨z,hd,vs,rel,dd⟩:=IG I.An e;refine wpAny_in_of (IE ry) hd dd.mapOf ?_;rw[<-(rel.val k).Cc,<-l];exact h _ (I.tok _)
 ·subst ey;cases (show u=yj b from ry);obtain⟨z,hd,xs,rel,dd⟩:=Gq I.An e;refine wpAny_in_heap (tupleKind_room_in1 hu) (F3 I.An eb) hd dd ?_;have q:=(rel.val k).Cc;rw[Option.isSome_map] at q;rw[<-q,<-l];exact h _ (I.tok _)
theorem Ro {Q:Value->Shared->Prop}(hu:A.units+1<cLine)(I:Inv X pins σ H s)(g:LN H a y o)(ry:RelV y u)(h:∀s',Inv X pins σ H s'->Q (.bool (!o.isSome)) s'):
 wpAny (model X.prog X.w) A (compareOp .NotIn u (.ref a)) Q E s:=by
 rcases g with ⟨kvs,k,e,ey,l⟩|⟨kvs,k,b,e,ey,eb,l⟩
 ·subst ey;obtain⟨z,hd,vs,rel,dd⟩:=IG I.An e;refine wpAny_notIn_of (IE ry) hd dd.mapOf ?_;rw[<-(rel.val k).Cc,<-l];exact h _ (I.tok _)
 ·subst ey;cases (show u=yj b from ry);obtain⟨z,hd,xs,rel,dd⟩:=Gq I.An e;refine wpAny_notIn_heap (tupleKind_room_in1 hu) (F3 I.An eb) hd dd ?_;have q:=(rel.val k).Cc;rw[Option.isSome_map] at q;rw[<-q,<-l];exact h _ (I.tok _)
theorem G1 {h':Heap}{t':Nat}{ob:HO}(I:Inv X pins σ H s)(mu:Vq (H a))(hs:Heap.SameBut a s.heap h')(he:∃q,h'.get? a=some q)(new:AF X.prog X.w (upd H a ob) h' a ob):
 Inv X pins σ (upd H a ob) {s with heap:=h',toks:=t' }:=
 I.write (x:=a) (e:=a) mu (.inl rfl) (λ b q hb z=>(hs.2 b hb).trans z) he new
theorem OQ {P:Program}{w:World}{H':Hp}{h':Heap}{kvs:List (Key×V)}{vs:List (Key×Value)}(z:kvs.length<=sizeLine)(hd:(a==sysModules)=false)(rel:KV kvs vs)(dd:h'.DictOf (AD P w) a vs):
 AF P w H' h' a (.dK kvs):=⟨z,hd,vs,rel,dd⟩
theorem NF {H':Hp}{Q:Unit->Shared->Prop}(hu:A.units+1<cLine)(I:Inv X pins σ H s)(g:VU H a y v H')(ry:RelV y u)(rv:RelV v r)(h:∀s',Inv X pins σ H' s'->Q () s'):
 wpAny (model X.prog X.w) A (setItem (.ref a) u r) Q E s:=by
 rcases g with ⟨kvs,k,e,ey,l,eH⟩|⟨kvs,k,b,e,ey,eb,l,eH⟩
 ·subst ey eH;obtain⟨z,hd,vs,rel,dd⟩:=Su I.An e;have hz:vs.length<=sizeLine:=by rw[<-rel.length];exact z
  have hl:(putK kvs k v).length<=sizeLine:=by have:=C2 kvs k v;omega
  refine wpAny_setItem_pairs (hsz:=hz) (IE ry) dd λ h' bQ hs=>h _ ?_;have he:∃q,h'.get? a=some q:=let ⟨q,_,_,hq,_⟩:=bQ;⟨q,hq⟩;exact G1 I (by rw[e];exact y2) hs he (OQ hl hd (rel.put k rv) bQ)
 ·subst ey eH;cases (show u=yj b from ry);obtain⟨z,hd,xs,rel,dd⟩:=VT I.An e;have hz:xs.length<=sizeLine:=by rw[<-yw rel];exact z
  have hl:(putK kvs k v).length<=sizeLine:=by have:=C2 kvs k v;omega
  refine wpAny_setItem_heap (hsz:=hz) (tupleKind_room_in1 hu) (F3 I.An eb) dd λ h' bQ hs=>h _ ?_;obtain⟨q,es,ep,hq,h2,h3,h4,_,h5⟩:=bQ;refine G1 I (by rw[e];exact y2) hs ⟨q,hq⟩ ⟨hl,hd,_,(rel.put k eb rv).keeps λ c ys ec=>?_,q,es,ep,hq,h2,h3,h4,h5⟩;rw[A5 (Vp ec e (λ z=>nomatch z))];exact ec
end
theorem Kw {X:Cx}{pins:List (Addr×Obj)}{σ:St}{H:Hp}{s:Shared}{a:Addr}{y:V}{o:Option V}(I:Inv X pins σ H s)(g:LN H a y o):s.TypeIs (.ref a) "dict" := by
 rcases g with ⟨kvs,k,e,_,_⟩|⟨kvs,k,b,e,_,_,_⟩
 ·obtain⟨_,_,vs,_,dd⟩:=IG I.An e;exact dd.typeIs
 ·obtain⟨_,_,xs,_,dd⟩:=Gq I.An e;exact dd.typeIs
noncomputable def VW (td ty tv:TE):TS:=λ D σ H=>tv σ H λ v H1=>td σ H1 λ x H2=>ty σ H2 λ y H3=>∃a H4,x=.ref a/\VU H3 a y v H4/\D.nx σ H4
section
variable {X:Cx}{o i e value:Expr}{pos pos' aK:Pos}{td ty tv:TE}
theorem Rp (hu:X.A.units+1<cLine)(ho:PE X o td)(hi:PE X i ty)(hv:PE X value tv)(hs:swapsWith value (some (.Subscript o i pos')) pos.line X.env=pure false):
 PS X (.Assign [.Subscript o i pos'] value pos) (VW td ty tv):=by
 intro pins s σ H D I h;refine wpAny_Assign_Subscript (AV (hv pins s σ H _ I h) λ r s1 ⟨v,H1,I1,rv,q1⟩=>AV (ho pins s1 σ H1 _ I1 q1) λ u s2 ⟨x,H2,I2,rx,q2⟩=>AV (hi pins s2 σ H2 _ I2 q2) λ iv s3 ⟨y,H3,I3,ry,a,H4,ex,g,q3⟩=>?_) hs;subst ex;obtain rfl:u=yj a:=rx;exact NF hu I3 g ry rv λ s4 I4=>⟨σ,H4,I4,q3⟩
end
theorem Kx {P:Program}{w:World}{H:Hp}(h:Heap)(hb:sysModules<h.objs.size):AF P w H (h.push {cls:=.type "dict",data:=.dict #[]}) h.objs.size (.dK []):=
 ⟨zR _,beq_eq_false_iff_ne.mpr (zU (zC hb)),[],.nil,Heap.DictOf.new h⟩
theorem OR {P:Program}{w:World}{H:Hp}(h:Heap)(hb:sysModules<h.objs.size):AF P w H (h.push {cls:=.type "dict",data:=.dict #[]}) h.objs.size (.dT []):=
 ⟨zR _,beq_eq_false_iff_ne.mpr (zU (zC hb)),[],.nil,_,#[],0,zG _ rfl,⟨rfl,rfl,rfl⟩,rfl,rfl,yi⟩
noncomputable def Tu:TE:=λ _ H Q=>∀p,H p=none->Q (.ref p) (upd H p (.dK []))
noncomputable def Tv:TE:=λ _ H Q=>∀p,H p=none->Q (.ref p) (upd H p (.dT []))
section
variable {X:Cx}{pos:Pos}
theorem OS:PE X (.Dict [] [] pos) Tu:=λ pins s σ H Q I h =>
 wpAny_Dict_empty ⟨.ref s.heap.objs.size,_,I.laid (a:=s.heap.objs.size) (o:=.dK []) (t':=s.toks) (λ _ _ q=>zr _ q) (zp _) (Kx s.heap I.big),rfl,h _ (I.An.fresh (zp _))⟩
theorem OU:PE X (.Dict [] [] pos) Tv:=λ pins s σ H Q I h =>
 wpAny_Dict_empty ⟨.ref s.heap.objs.size,_,I.laid (a:=s.heap.objs.size) (o:=.dT []) (t':=s.toks) (λ _ _ q=>zr _ q) (zp _) (OR s.heap I.big),rfl,h _ (I.An.fresh (zp _))⟩
end
def LO:List (TE×TE)->St->Hp->(List (V×V)->Hp->Prop)->Prop
 |[],_,H,Q=>Q [] H
 |(tk,tv)::r,σ,H,Q=>tk σ H λ x H1=>tv σ H1 λ y H2=>LO r σ H2 λ ps H3=>Q ((x,y)::ps) H3
noncomputable abbrev VV:List (V×V)->List (Value×Value)->Prop:=Paired λ p q=>RelV p.1 q.1/\RelV p.2 q.2
def WS (X:Cx)(pos:Pos)(keys:List (Option Expr))(values:List Expr)(bz:List (TE×TE)):Prop:=
 ∀(pins:List (Addr×Obj)) (s:Shared) (σ:St) (H:Hp) (Q:List (V×V)->Hp->Prop),Inv X pins σ H s->LO bz σ H Q->
  wpAny (model X.prog X.w) X.A (evalPairs (pairTrees keys values X.env pos)) (λ vs s'=>∃ps H',Inv X pins σ H' s'/\VV ps vs/\Q ps H') X.xe s
theorem Rq {X:Cx}{pos:Pos}:WS X pos [] [] []:=λ pins s σ H Q I h=>pairTrees_nil_walk ⟨[],H,I,.nil,h⟩
theorem OV {X:Cx}{pos:Pos}{k v:Expr}{ks:List (Option Expr)}{vs:List Expr}{tk tv:TE}{bz:List (TE×TE)}(hk:PE X k tk)(hv:PE X v tv)(hr:WS X pos ks vs bz):
 WS X pos (some k::ks) (v::vs) ((tk,tv)::bz):=λ pins s σ H Q I h =>
 pairTrees_cons_walk (AV (hk pins s σ H _ I h) λ u s1 ⟨x,H1,I1,rx,q1⟩=>AV (hv pins s1 σ H1 _ I1 q1) λ w2 s2 ⟨y,H2,I2,ry,q2⟩ =>
  AV (hr pins s2 σ H2 _ I2 q2) λ ws s3 ⟨ps,H3,I3,rel,q3⟩=>⟨(x,y)::ps,H3,I3,.cons ⟨rx,ry⟩ rel,q3⟩)
noncomputable def D1 (kvs more:List (Key×V)):List (Key×V):=more.foldl (λ acc kv=>putK acc kv.1 kv.2) kvs
theorem KV.merge:∀ {more:List (Key×V)}{rs:List (Key×Value)}{kvs:List (Key×V)}{vs:List (Key×Value)},KV more rs->KV kvs vs->KV (D1 kvs more) (merged vs rs):=by
 intro more rs kvs vs r;unfold KV at r;induction r generalizing kvs vs with
 |nil=>intro q;exact q
 | @cons p q ps qs h t ih =>
  intro r0;have e:KV (putK kvs p.1 p.2) (stored vs q.1 q.2):=by
   have:=r0.put p.1 h.2;rw[<-h.1];exact this
  exact ih e
theorem E7:∀(more kvs:List (Key×V)),(D1 kvs more).length<=kvs.length+more.length
 |[],kvs=>by show kvs.length<=kvs.length+0;omega
 |p::r,kvs=>by
  have h1:=E7 r (putK kvs p.1 p.2);have h2:=C2 kvs p.1 p.2;show (D1 (putK kvs p.1 p.2) r).length<=_;rw[zt];omega
theorem Gr {P:Program}{w:World}:∀ {kvs:List (Key×V)}{ws:List (Value×Value)},VV (kvs.map λ kv=>(kV kv.1,kv.2)) ws->∃rs,Carries (AD P w) ws rs/\KV kvs rs
 |[],_,r=>by rw[List.map_nil] at r;cases r;exact⟨[],y2,.nil⟩
 |p::kvs,_,r=>by
  rw[zj] at r;cases r with
  | @cons a b as bs h t =>
   obtain⟨rs,c,q⟩:=Gr (P:=P) (w:=w) t;obtain⟨b1,b2⟩:=b;exact⟨(p.1,b2)::rs,⟨IE h.1,rfl,c⟩,.cons ⟨rfl,h.2⟩ q⟩
noncomputable def VX (bz:List (TE×TE)):TE:=λ σ H Q=>∀p,H p=none->LO bz σ (upd H p (.dK [])) λ ps H2=>H2 p=some (.dK [])/\∃kvs:List (Key×V),ps=kvs.map (λ kv=>(kV kv.1,kv.2))/\kvs.length<=15/\Q (.ref p) (upd H2 p (.dK (D1 [] kvs)))
theorem Rr {X:Cx}{pos:Pos}{keys:List (Option Expr)}{values:List Expr}{bz:List (TE×TE)}(h:WS X pos keys values bz)(aV:keys.all (·.isSome)=true)(hl:keys.length=values.length)(h0:keys≠[])
 (hX:keys.length<=15):PE X (.Dict keys values pos) (VX bz):=by
 intro pins s σ H Q I q;have hn:=I.An.fresh (zp s.heap.objs.size);have I1:=I.laid (a:=s.heap.objs.size) (o:=.dK []) (h':=s.heap.push {cls:=.type "dict",data:=.dict #[]}) (t':=s.toks) (λ _ _ q=>zr _ q) (zp _) (Kx s.heap I.big);refine wpAny_Dict_walk (knd:=AD X.prog X.w) aV hl h0 hX (AV (h pins _ σ _ _ I1 (q _ hn)) λ ws s2 ⟨ps,H2,I2,rel,e,kvs,ep,lk,q2⟩=>?_);subst ep;obtain⟨rs,c,rk⟩:=Gr (P:=X.prog) (w:=X.w) rel;obtain⟨z,hd,fZ,r0,dd⟩:=Su I2.An e;cases r0;refine⟨rs,c,dd,λ h' bQ hs=>⟨.ref s.heap.objs.size,_,?_,rfl,q2⟩⟩;have hz:(D1 [] kvs).length<=sizeLine:=by
  have h1:=E7 kvs [];rw[List.length_nil] at h1;rw[sizeLine_eq];omega
 have he:∃q,h'.get? s.heap.objs.size=some q:=let ⟨q,_,_,hq,_⟩:=bQ;⟨q,hq⟩;exact G1 I2 (by rw[e];exact y2) hs he (OQ hz hd (rk.merge .nil) bQ)
def Yv (H:Hp)(a:Addr):Prop:=(∃kvs,Rd H a (.dK kvs))\/∃kvs,Rd H a (.dT kvs)
theorem OW {X:Cx}{pins:List (Addr×Obj)}{σ:St}{H:Hp}{s:Shared}{a:Addr}(I:Inv X pins σ H s)(d:Yv H a):
 s.TypeIs (.ref a) "dict" /\ (∀b,yj a=.ref b->∃ob,s.heap.get? b=some ob/\ob.dict=none)/\(a==sysModules)=false:=by
 rcases d with ⟨kvs,e⟩|⟨kvs,e⟩
 ·obtain⟨_,hd,vs,_,dd⟩:=IG I.An e;refine⟨dd.typeIs,λ b q=>?_,hd⟩;cases q;obtain⟨ob,_,_,h1,h2,_⟩:=dd;exact⟨ob,h1,h2.2.1⟩
 ·obtain⟨_,hd,xs,_,dd⟩:=Gq I.An e;refine⟨dd.typeIs,λ b q=>?_,hd⟩;cases q;obtain⟨ob,_,_,h1,h2,_⟩:=dd;exact⟨ob,h1,h2.2.1⟩
noncomputable def EB (sc outer:Scope):Bool:=
 decide (sc.kind=.function)&&sc.names.all λ y=>decide (y.2≠.cell)&&(decide (y.2≠.free)||decide (outer.names.lookup y.1=some .cell)||decide (outer.names.lookup y.1=some .free))&&(decide (y.2≠.local)||decide (sc.names.lookup y.1=some .local))
noncomputable def Ji (N NB:List Str)(sc:Scope)(μ:List (Option Nat)):Bool:=
 decide (NB.length=μ.length)&&(NB.zip μ).all λ p=>match p.2 with
  |none=>true
  |some i=>decide (N[i]?=some p.1)&&decide (sc.names.lookup p.1=some .free)
noncomputable def Ee (μ:List (Option Nat))(σ:St):St:=μ.map λ o=>o.bind λ i=>(σ[i]?).join
noncomputable def DZ (cells:List (Str×Addr)):List (Str×NameKind)->List (Str×Addr)->List (Str×Addr)
 |[],cs=>cs
 |(n,k)::r,cs=>DZ cells r (if (k==.free)=true then (n,(cells.lookup n).getD 0)::cs else cs)
theorem E8 {scope:Scope}{env:Env}(h:∀y∈scope.names,y.2=.free->∃c,env.cells.lookup y.1=some c):closureFor scope env=pure (DZ env.cells scope.names []):=by
 unfold closureFor;have key:∀(names:List (Str×NameKind)) (cs:List (Str×Addr)),(∀y∈names,y.2=.free->∃c,env.cells.lookup y.1=some c)->
  (forIn names cs λ(x:Str×NameKind) r=>match x with
   |(name,kind)=>if (kind==yu)=true then do
    let __do_lift <-cellOf env name
    pure (yD ((name,__do_lift)::r))
    else pure (yD r):Sem _)=pure (DZ env.cells names cs):=by
  intro names;induction names with
  |nil=>intro cs _;rfl
  |cons y r ih =>
   intro cs hy;obtain⟨n,k⟩:=y;rw[List.forIn_cons];by_cases hk:k=.free
   ·subst hk;obtain⟨c,hc⟩:=hy (n,.free) zd rfl;have e:cellOf env n=pure c:=by unfold cellOf;rw[show env.cells.lookup n=some c from hc]
    simp only[e,beq_self_eq_true,if_true,pure_bind];rw[ih _ λ z hz=>hy z (zf _ hz)];simp only[DZ,beq_self_eq_true,if_true];rw[show env.cells.lookup n=some c from hc];rfl
   ·have hb:(k==yu)=false:=by simpa using hk
    simp only[hb,zv,if_false,pure_bind];rw[ih _ λ z hz=>hy z (zf _ hz)];simp only[DZ,hb,zv,if_false]
 have q:=key scope.names [] h;simp only[bind_pure];exact q
theorem Ky {cells:List (Str×Addr)}:∀ {names:List (Str×NameKind)}{cs:List (Str×Addr)}{x:Str}{c:Addr},(x,c)∈DZ cells names cs->(x,c)∈cs\/((x,.free)∈names/\c=(cells.lookup x).getD 0)
 |[],cs,x,c,h=>.inl h
 |(n,k)::r,cs,x,c,h=>by
  rcases Ky (names:=r) h with q|⟨q,e⟩
  ·by_cases hk:k=.free
   ·subst hk;simp only[beq_self_eq_true,if_true] at q;rcases zo.mp q with z|z
    ·cases z;exact .inr ⟨zd,rfl⟩
    ·exact .inl z
   ·have hb:(k==yu)=false:=by simpa using hk
    simp only[hb,zv,if_false] at q;exact .inl q
  ·exact .inr ⟨zf _ q,e⟩
theorem Gs {cells:List (Str×Addr)}:∀ {names:List (Str×NameKind)}{cs:List (Str×Addr)}{p:Str×Addr},p∈cs->p∈DZ cells names cs
 |[],_,_,h=>h
 |(n,k)::r,cs,p,h=>by
  show p∈DZ cells r _;refine Gs ?_;by_cases hk:(k==yu)=true
  ·rw[if_pos hk];exact zf _ h
  ·rw[if_neg hk];exact h
theorem Gu {cells:List (Str×Addr)}:∀ {names:List (Str×NameKind)}{cs:List (Str×Addr)}{x:Str},(x,.free)∈names->∃c,(x,c)∈DZ cells names cs
 |(n,k)::r,cs,x,h=>by
  rcases zo.mp h with z|z
  ·cases z;refine⟨(cells.lookup n).getD 0,?_⟩;show _∈DZ cells r (if (yu==yu)=true then _ else _);exact Gs (by rw[if_pos (beq_self_eq_true _)];exact zd)
  ·exact Gu (names:=r) z
theorem C8 {x:Str}{c:Addr}:∀ {l:List (Str×Addr)},(x,c)∈l->∃c',l.lookup x=some c'
 |(y,d)::r,h=>by
  rw[List.lookup_cons];by_cases e:(x==y)=true
  ·rw[e];exact⟨d,rfl⟩
  ·rw[Bool.eq_false_iff.mpr e];rcases zo.mp h with z|z
   ·cases z;exact absurd (beq_self_eq_true x) e
   ·exact C8 z
theorem EC {scope:Scope}{env:Env}{x:Str}{k:NameKind}(h:(relabel scope env).names.lookup x=some k):∃k',scope.names.lookup x=some k'/\(k=k'\/(k'=.free/\k=.cell)):=by
 unfold relabel at h;dsimp only at h;revert h;induction scope.names with
 |nil=>intro h;cases h
 |cons y r ih =>
  obtain⟨n,k'⟩:=y;intro h;rw[zj,List.lookup_cons] at h;rw[List.lookup_cons];by_cases hc:(k'==yu&&env.scope.kind==.function&&env.kindOf n==some .cell)=true
  ·dsimp only at h;rw[if_pos hc] at h;dsimp only at h;cases e:x==n with
   |true =>
    rw[e] at h;have hf:k'=.free:=by
     have:=hc;simp only[zL] at this;simpa using this.1.1
    exact⟨k',rfl,.inr ⟨hf,(zx h).symm⟩⟩
   |false=>rw[e] at h;exact ih h
  ·dsimp only at h;rw[if_neg hc] at h;dsimp only at h;cases e:x==n with
   |true=>rw[e] at h;exact⟨k',rfl,.inl (zx h).symm⟩
   |false=>rw[e] at h;exact ih h
theorem lookup_mem {α:Type}{x:Str}{k:α}:∀ {l:List (Str×α)},l.lookup x=some k->(x,k)∈l
 |(y,d)::r,h=>by
  rw[List.lookup_cons] at h;cases e:x==y with
  |true =>
   rw[e] at h;cases h;have:x=y:=by simpa using e
   subst this;exact zd
  |false=>rw[e] at h;exact zf _ (lookup_mem h)
noncomputable def blockOf (X:Cx)(s:Shared)(H:Hp)(scope:Scope)(C:Addr)(NB:List Str)(ex:List Addr):Cx:=
 {X with N:=NB,s₀:=s,H₀:=H,env:=compEnvC scope (DZ X.env.cells scope.names []) C X.env,outer:=X.stack,stack:=X.stack,ex:=ex,fn:=λ _=>false,pn:=[],xe:=λ _ _=>False}
section
variable {X:Cx}{pins:List (Addr×Obj)}{σ:St}{H:Hp}{s s4:Shared}{scope:Scope}{NB:List Str}{μ:List (Option Nat)}{fp:List Addr}{C:Addr}
theorem DF (h:EB scope X.env.scope=true):scope.kind=.function:=by
 unfold EB at h;simp only[zL,decide_eq_true_eq] at h;exact h.1
theorem DH {sc outer:Scope}(h:EB sc outer=true){y:Str×NameKind}(hy:y∈sc.names):y.2≠.cell/\(y.2=.free->outer.names.lookup y.1=some .cell\/outer.names.lookup y.1=some .free)/\(y.2=.local->sc.names.lookup y.1=some .local):=by
 unfold EB at h;simp only[zL,decide_eq_true_eq,List.all_eq_true,Bool.or_eq_true] at h;obtain⟨⟨h1,h2⟩,h3⟩:=h.2 y hy;exact⟨h1,λ e=>by
  rcases h2 with (q|q)|q
  ·exact absurd e q
  ·exact .inl q
  ·exact .inr q,λ e=>h3.elim (λ q=>absurd e q) id⟩
theorem Ef (I:Inv X pins σ H s)(h:EB scope X.env.scope=true){x:Str}(hx:(x,.free)∈scope.names):∃c,X.env.cells.lookup x=some c:=I.ok.has x ((DH h hx).2.1 rfl)
theorem BM (I:Inv X pins σ H s)(h:EB scope X.env.scope=true){x:Str}{c:Addr}(e:(DZ X.env.cells scope.names []).lookup x=some c):X.env.cells.lookup x=some c:=by
 rcases Ky (lookup_mem e) with q|⟨q,r⟩
 ·cases q
 ·obtain⟨c',e'⟩:=Ef I h q;rw[e'] at r;rw[e',r];rfl
theorem Gv {env:Env}(h:EB scope env.scope=true){x:Str}{k:NameKind}(hk:(relabel scope env).names.lookup x=some k)(hc:k=.cell\/k=.free):(x,.free)∈scope.names:=by
 obtain⟨k',e,q⟩:=EC hk;have m:=lookup_mem e;have n:=(DH h m).1;rcases q with q|⟨q,_⟩
 ·subst q;rcases hc with z|z
  ·exact absurd z n
  ·subst z;exact m
 ·subst q;exact m
theorem Rt (h:Ji X.N NB scope μ=true):NB.length=μ.length/\∀(j i:Nat),μ[j]?=some (some i)->∃x,NB[j]?=some x/\X.N[i]?=some x/\scope.names.lookup x=some .free:=by
 unfold Ji at h;simp only[zL,decide_eq_true_eq,List.all_eq_true] at h;refine⟨h.1,λ j i e=>?_⟩;have hj:j<NB.length:=by rw[h.1];exact (zH.mp e).1
 have m:(NB[j],some i)∈NB.zip μ:=by
  refine List.mem_iff_getElem?.mpr ⟨j,?_⟩;rw[List.getElem?_zip_eq_some];exact⟨zu hj,e⟩
 have q:=h.2 _ m;dsimp only at q;simp only[zL,decide_eq_true_eq] at q;exact⟨NB[j],zu hj,q.1,q.2⟩
theorem Kz (I:Inv X pins σ H s)(am:EB scope X.env.scope=true)(a9:Ji X.N NB scope μ=true)(cm:∀b∈fp,FQ X pins H b)(dk:∀b∈fp,∃o,s.heap.get? b=some o)
 (hC:s.heap.objs.size<=C) {h4:Heap} {t4:Nat} (ns:h4.Ns C λ _=>none) (k:∀b o,s.heap.get? b=some o->h4.get? b=some o):
 Inv (blockOf X s H scope C NB fp) [] (Ee μ σ) H {s with heap:=h4,toks:=t4}:=by
 obtain⟨hlen,a9⟩:=Rt a9;have ga:∀b o,s.heap.get? b=some o->b≠C:=λ b o e=>zC (zw (zq e) hC);have dl:∀x c,X.env.cells.lookup x=some c->c≠C:=λ x c e=>by
  obtain⟨v,o,ho,_⟩:=I.cell x c e;exact ga c o ho
 refine⟨⟨I.ok.mod,(show scope.kind=_ from DF am),I.ok.glob,I.ok.blt,hC,λ x y c h1 h2=>I.ok.inj x y c (BM I am h1) (BM I am h2),λ x hx=>?_,λ x c h _=>(by cases h),I.ok.hd,I.ok.frames,.inl rfl,λ b hb=>?_,I.bs,zY I.ok.Sn I.sz,λ b o e hb=>?_,λ b hb hz=>?_,I.stack,I.J9⟩,
  rfl,I.bare,Un.kept k,⟨_,ns,λ j x v e1 e2 e3=>?_⟩,λ x c e=>?_,I.An.fresh hC,λ x c e=>I.Cb x c (BM I am e),λ p hp=>(by cases hp),I.An.kept k,?_⟩
 ·have q:(x,yu)∈scope.names:=by
   rcases hx with hx|hx
   ·exact Gv am hx (.inl rfl)
   ·exact Gv am hx (.inr rfl)
  obtain⟨c,m⟩:=Gu (cells:=X.env.cells) (cs:=[]) q;exact C8 m
 ·obtain⟨o,ho⟩:=dk b hb;refine⟨ga b o ho,λ x c e z=>?_⟩;exact (cm b hb).2.2.2.2.1 x c (BM I am e) z
 ·rcases (cm b hb).2.2.2.1 with z|z
  ·exact I.ok.Ot b o e z
  ·exact absurd (zw (zq (I.ok.bs b o e).1) z) (Nat.lt_irrefl _)
 ·rcases zo.mp (I.LF b hz) with e|e
  ·exact (cm b hb).2.1 e
  ·exact (cm b hb).2.2.1 e
 ·have cA:(μ[j]?).map (λ o=>o.bind λ i=>(σ[i]?).join)=some (some v):=by
   rw[<-zy];exact e2
  cases q:μ[j]? with
  |none=>rw[q] at cA;cases cA
  |some o =>
   rw[q] at cA;cases o with
   |none=>cases cA
   |some i =>
    have e4:(σ[i]?).join=some v:=by simpa using cA
    have e5:σ[i]?=some (some v):=by
     cases z:σ[i]? with
     |none=>rw[z] at e4;cases e4
     |some w=>rw[z] at e4;simp at e4;rw[e4]
    obtain⟨x',n1,n2,n3⟩:=a9 j i q;have ex:x'=x:=zx (n1.symm.trans e1);subst ex;have m:=lookup_mem n3;have ov:=(DH am m).2.1 rfl;obtain⟨mm,hn,hl⟩:=I.loc;obtain⟨u,r,l⟩:=hl i x' v n2 e5 (ov.elim (λ z=>.inr (.inl z)) λ z=>.inr (.inr z));refine⟨u,r,.inr ⟨?_,?_⟩⟩
    ·rcases e3 with z|z|z
     ·obtain⟨k',z1,z2⟩:=EC (k:=.local) z;rw[n3] at z1;cases z1;rcases z2 with z2|⟨_,z2⟩<;>cases z2
     ·exact .inl z
     ·exact .inr z
    ·rcases l with ⟨l,_⟩|⟨_,c,l1,l2⟩
     ·rcases ov with z|z<;>(rw[show X.env.kindOf x'=_ from z] at l;cases l)
     ·obtain⟨c',m'⟩:=Gu (cells:=X.env.cells) (cs:=[]) m;obtain⟨jk,l3⟩:=C8 m';have l4:=BM I am l3;rw[l1] at l4;cases l4;refine⟨c,l3,?_⟩;obtain⟨o,ho,hd⟩:=l2;exact⟨o,k _ _ ho,hd⟩
 ·obtain⟨v,o,ho,hd⟩:=I.cell x c (BM I am e);exact⟨v,o,k _ _ ho,hd⟩
 ·show (Ee μ σ).length=NB.length;unfold Ee;rw[zh,hlen]
theorem Cp.adopt {P:Program}{w:World}{H:Hp}{h:Heap}{a:Addr}{o:HO}(x:Cp P w H h)(hn:H a=none)(new:AF P w (upd H a o) h a o):Cp P w (upd H a o) h:=λ b u e=>by
 by_cases hb:b=a
 ·subst hb;rw[Ae] at e;cases e;exact new
 ·rw[A5 hb] at e;exact (x b u e).Ge (λ c v _ q=>q) (λ c q=>by rw[A5 (Au q hn)];exact q) λ c xs q=>by rw[A5 (Au q hn)];exact q
theorem NG {H':Hp}{s':Shared}{h':Heap}{D:Addr}{pl:List (Addr×Obj)}{σ':St}{aa:List Value}{ys:List V}{n:Nat}(I:Inv X pins σ H s)(cm:∀b∈fp,FQ X pins H b)(J:Inv (blockOf X s H scope C NB fp) pl σ' H' s')
 (hC:s.heap.objs.size<=C) (hD:s.heap.objs.size<=D) (bq:D≠C) (eD:s'.heap.get? D=some {cls:=.type "list",data:=.seq aa.toArray n}) (nD:H' D=none) (r:Vals ys aa) (hz:ys.length<=sizeLine)
 (sb:Heap.SameBut C s'.heap h'):Inv X pins σ (upd H' D (.lst ys)) {s' with heap:=h' }:=by
 have bR:∀b o,s.heap.get? b=some o->b≠C:=λ b o e=>zC (zw (zq e) hC);have dS:∀b o,s.heap.get? b=some o->b≠D:=λ b o e=>zC (zw (zq e) hD);have freshD:H D=none:=I.An.fresh hD;have nC:H' C=none:=J.free;have u:Un (FH X.stack) fp H H' s.heap s'.heap:=J.base;have bP:Cp X.prog X.w H' h':=λ b ob e=>(J.An b ob e).Ge (λ c v hc q=>(sb.2 c (by
  intro z;subst z;rcases hc with rfl|hc
  ·rw[nC] at e;cases e
  ·rw[nC] at hc;cases hc)).trans q) (λ _ q=>q) λ _ _ q=>q
 refine I.So (ch:=fp) J.os ⟨λ b o e n hb hx=>?_,λ b o e n hb hx=>?_,λ b o e n hx=>?_,λ b o e hx=>?_,λ b xs e=>?_,λ b o u' e=>?_,λ b ps e=>?_⟩ (bP.adopt nD ⟨hz,aa,n,r,(sb.2 D bq).trans eD⟩) J.bare λ b hb=>?_
 ·exact (sb.2 b (bR b o e)).trans (u.keep b o e n hb hx)
 ·obtain⟨sl,q⟩:=u.slot b o e n hb hx;exact⟨sl,(sb.2 b (bR b o e)).trans q⟩
 ·rw[A5 (dS b o e)];exact u.free b o e n hx
 ·obtain⟨o',q⟩:=u.there b o e hx;exact⟨o',(sb.2 b (bR b o e)).trans q⟩
 ·rw[A5 (Au e freshD)];exact u.Gf b xs e
 ·rw[A5 (Au e freshD)];exact u.EZ b o u' e
 ·rw[A5 (Au e freshD)];exact u.Gg b ps e
 ·obtain⟨_,f1,_,f3,f4,f5⟩:=cm b hb;exact⟨f3,f1,f4,f5⟩
end
theorem Jj {prog:Program}{w:World}{A:Around}{R:Result->Shared->Prop}{s:Shared}{elt target iter:Expr}{ifs:List Expr}{scope:Scope}{pos:Pos}{it acc:Value}{env:Env}(I:Nat->Shared->Prop)
 (turn:∀n s,I n s->wpAny (model prog w) A (pyNext it) (λ r s₁=>match r with
  |none=>R (.ok .next) s₁
  |some v=>wpAny (model prog w) A (letOwnedTupleGo target it v) (λ _ s₁'=>wpAny (model prog w) A (assign target env v) (λ _ s₂ =>
   wpAny (model prog w) A (forIn ifs true λ c r=>if r=true then do let ok <-isTrue c env (eval c env);pure (yD ok) else pure (yD r)) (λ ok s₃ =>
    if ok=true then wpAny (model prog w) A (eval elt env) (λ x s₄ =>
     wpAny (model prog w) A (call (.builtin "list.append") [acc,x]) (λ _ s₅=>∃m,m<n/\I m s₅) (λ _ _=>False) s₄) (λ _ _=>False) s₃
    else ∃m,m<n/\I m s₃) (λ _ _=>False) s₂) (λ _ _=>False) s₁') (λ _ _=>False) s₁) (λ _ _=>False) s)
 (n:Nat) (h:I n s):
 codeAny (model prog w) A (.compLoop (.ListComp elt [⟨target,iter,ifs,0⟩] scope pos) 0 it acc env) R s:=by
 refine codeAny_loop rfl I (λ n s hI=>?_) n h;show wpAny _ A ((compTurn (.ListComp elt [⟨target,iter,ifs,0⟩] scope pos) 0 it acc env).onRaise (λ x=>do noteFrame x env;theTreesLotGoes x)) _ _ s;refine wpAny_noted ?_;rw[compTurn_list];refine wpAny_bind (wpAny_standAt (wpAny_bind (wpAny_mono (turn n s hI) (λ r s₁ h₁=>?_) λ _ _ h'=>h'.elim)));cases r with
 |none=>exact wpAny_pure h₁
 |some v =>
  refine wpAny_bind (wpAny_mono h₁ (λ _ s₁' h₁'=>?_) λ _ _ h'=>h'.elim);refine wpAny_bind (wpAny_mono h₁' (λ _ s₂ h₂=>wpAny_bind (wpAny_mono h₂ (λ ok s₃ h₃=>?_) λ _ _ h'=>h'.elim)) λ _ _ h'=>h'.elim);cases ok with
  |false=>exact wpAny_pure ⟨rfl,h₃⟩
  |true =>
   exact wpAny_bind (wpAny_bind (wpAny_mono h₃ (λ x s₄ h₄=>wpAny_bind (wpAny_mono h₄ (λ _ s₅ h₅=>wpAny_pure (wpAny_pure ⟨rfl,h₅⟩)) λ _ _ h'=>h'.elim)) λ _ _ h'=>h'.elim))
def VY (X:Cx)(cs:List Expr)(t:TT):Prop:=
 ∀(pins:List (Addr×Obj)) (s:Shared) (σ:St) (H:Hp) (Q:Bool->Hp->Prop),Inv X pins σ H s->t σ H Q->
  wpAny (model X.prog X.w) X.A (forIn cs true λ c r=>if r=true then do let ok <-isTrue c X.env (eval c X.env);pure (yD ok) else pure (yD r)) (TP X pins σ Q) X.xe s
noncomputable def XD:TT:=λ _ H Q=>Q true H
theorem Ru {X:Cx}:VY X [] XD:=λ _ _ _ H _ I h=>wpAny_tests_nil ⟨H,I,h⟩
def Gw (μ:List (Option Nat))(g:TG):Prop:=∀σ x H Q,g x (Ee μ σ) H Q->g x (Ee μ σ) H λ σ' H'=>Q σ' H'/\∀(j:Nat) v,(Ee μ σ)[j]?=some (some v)->σ'[j]?=some (some v)
theorem Rv {μ:List (Option Nat)}{i:Nat}(h:μ[i]?=some none):Gw μ (MI i):=λ σ x H Q q=>by
 refine⟨q,λ j v e=>?_⟩;have ac:j≠i:=λ z=>by
  subst z;unfold Ee at e;rw[zy,h] at e;cases e
 rw[yd (zU ac)];exact e
def Y5 (J:It)(H1:Hp)(Q:VK)(st:V->Hp->(St->Hp->Prop)->Prop)(tc:TT)(te:TE):Prop:=
 ∃W:Nat->Nat->List V->Hp->Prop,(∃m,W 0 m [] H1)/\∀i m ys H2,W i m ys H2->
  (J.stop i H2/\∀D,H2 D=none->Q (.ref D) (upd H2 D (.lst ys))) \/
  (J.go i H2/\ys.length<sizeLine/\∃N:List V->Hp->Prop,(∀aw H',N aw H'->∃m',m'<m/\W (i+1) m' aw H')/\∀x H3,J.R5 i H2 x H3->st x H3 λ σ4 H4=>tc σ4 H4 λ b H5=>if b=true then te σ4 H5 λ y H6=>N (ys++[y]) H6 else N ys H5)
noncomputable def KA (wi:TI)(μ:List (Option Nat))(g:TG)(tc:Shared->Hp->Addr->List Addr->TT)(te:Shared->Hp->Addr->List Addr->TE):TE:=λ σ H Q=>wi σ H λ J H1=>∀s C ex,Y5 J H1 Q (λ x H K=>g x (Ee μ σ) H K) (tc s H1 C ex) (te s H1 C ex)
section
variable {X:Cx}{pins:List (Addr×Obj)}{σ:St}{H2:Hp}{s2:Shared}{tg elt iter:Expr}{ifs:List Expr}{scope:Scope}{pos:Pos}{NB:List Str}{μ:List (Option Nat)}{g:TG}{tc:Shared->Hp->Addr->List Addr->TT}{te:Shared->Hp->Addr->List Addr->TE}{fp:List Addr}{it:Addr}{tn:Nat->Heap->Prop}{J:It}{Q:VK}
theorem IH (hc:X.calm=true)(I2:Inv X pins σ H2 s2)(T:Turn X.prog X.w X.K tg J fp it tn)(bw:tn 0 s2.heap)(f2:∀b∈fp,FQ X pins H2 b)
 (am:EB scope X.env.scope=true) (a9:Ji X.N NB scope μ=true) (cB:Gw μ g)
 (hb:∀(s:Shared) (H:Hp) (C:Addr) (ex:List Addr),PG (blockOf X s H scope C NB ex) tg g/\VY (blockOf X s H scope C NB ex) ifs (tc s H C ex)/\PE (blockOf X s H scope C NB ex) elt (te s H C ex))
 (q:∀C,Y5 J H2 Q (λ x H K=>g x (Ee μ σ) H K) (tc s2 H2 C fp) (te s2 H2 C fp)) {RR:Value->Addr->Result->Shared->Prop} {E:Value->Shared->Prop}
 (fin:∀(D C:Addr) (s':Shared) (H':Hp) (ys:List V) (m:Str->Option Value),s2.heap.objs.size<=D->s2.heap.objs.size<=C->D≠C->s'.heap.Ns C m->H' C=none->(∀h',Heap.SameBut C s'.heap h'->Inv X pins σ (upd H' D (.lst ys)) {s' with heap:=h' })->Q (.ref D) (upd H' D (.lst ys))->RR (.ref D) C (.ok .next) s'):
 wpAny (model X.prog X.w) X.A (newList []) (λ acc s₃=>wpAny (model X.prog X.w) X.A (newFunctionEnv scope X.env.globals (DZ X.env.cells scope.names []) [] X.env.qual none .none (some X.env)) (λ cC s₄ =>
  codeAny (model X.prog X.w) X.A (.compStart (.ListComp elt [⟨tg,iter,ifs,0⟩] scope pos) 0 (.ref it) acc {cC with scope:=relabel scope X.env}) (RR acc cC.locals) s₄) E s₃) E s2:=by
 have aF:∀y∈scope.names,y.2≠.cell:=λ y hy=>(DH am hy).1;refine wpAny_newObj_type (wpAny_newFunctionEnv aF (by intro y hy;simp at hy) (λ h₁ hns₁ hsb₁=>?_) (DF am));dsimp only at hns₁ hsb₁ ⊢;generalize dU:s2.heap.push {cls:=.type "list",dict:=none,data:=.seq ([]:List Value).toArray}=dm at hns₁ hsb₁ ⊢;have hC:dm.objs.size=s2.heap.objs.size+1:=by rw[<-dU,Heap.size_push]
 have bq:s2.heap.objs.size≠dm.objs.size:=by rw[hC];exact zC (Nat.lt_succ_self _)
 have cD:s2.heap.objs.size<=dm.objs.size:=by rw[hC];exact Nat.le_succ _
 have old:∀b o,s2.heap.get? b=some o->h₁.get? b=some o:=λ b o e=>hsb₁.extBut b o (by rw[hC];exact zC (Nat.lt_succ_of_lt (zq e))) (zr _ (dU▸zr _ e));have eD:h₁.get? s2.heap.objs.size=some {cls:=.type "list",data:=.seq ([]:List Value).toArray}:=hsb₁.extBut _ _ bq (zr _ (dU▸zG _ rfl));have dk:∀b∈fp,∃o,s2.heap.get? b=some o:=λ b hb=>let ⟨o,e,_⟩:=T.obj _ _ bw b hb;⟨o,e⟩;have dW:∀b∈fp,b≠s2.heap.objs.size:=λ b hb=>let ⟨o,e⟩:=dk b hb;zC (zq e);generalize gc:s2.heap.objs.size=D at cD bq eD dW ⊢;generalize jl:dm.objs.size=C at *;have aL:s2.heap.objs.size<=D:=by rw[gc];exact zp _
 have aW:s2.heap.objs.size<=C:=by rw[gc];exact cD
 have I4:Inv (blockOf X s2 H2 scope C NB fp) [] (Ee μ σ) H2 {s2 with heap:=h₁,toks:=s2.toks+([]:List (Str×Value)).length}:=Kz I2 am a9 f2 dk aW (by simpa using hns₁) old;have a7:∀ {H':Hp} {pl:List (Addr×Obj)},(∀b∈fp,H' b=none)->(∀p∈pl,p.1=D)->∀b∈fp,FQ (blockOf X s2 H2 scope C NB fp) pl H' b:=fun {H' pl} hn hp b hb=>by
  refine⟨hn b hb,(I4.ok.WM b hb).1,I4.ok.Ou b hb,.inl hb,λ x c e z=>(I4.ok.WM b hb).2 x c e z,λ p dX z=>?_⟩;have dY:p∈pl:=by simpa [blockOf] using dX
  exact dW b hb (z▸hp p dY)
 have hZ:D∉(blockOf X s2 H2 scope C NB fp).fs:=λ z=>by
  obtain⟨_,o,ho,_⟩:=I4.ok.F0.mem z;exact absurd (zq ho) (Nat.not_lt.mpr aL)
 obtain⟨W,⟨m0,w0⟩,turn⟩:=q C;have loop:∀s₃:Shared,s₃={s2 with heap:=h₁,toks:=s2.toks+([]:List (Str×Value)).length} ->
  codeAny (model X.prog X.w) X.A (.compLoop (.ListComp elt [⟨tg,iter,ifs,0⟩] scope pos) 0 (.ref it) (.ref D) (compEnvC scope (DZ X.env.cells scope.names []) C X.env)) (RR (.ref D) C) s₃:=by
  rintro s₃ rfl;refine Jj (λ n s'=>∃i ys aa k H',Inv (blockOf X s2 H2 scope C NB fp) [(D,{cls:=.type "list",data:=.seq aa k})] (Ee μ σ) H' s'/\tn i s'.heap/\(∀b∈fp,H' b=none)/\Vals ys aa.toList/\ys.length<=sizeLine/\W i n ys H') ?_ m0
   ⟨0,[],#[],0,H2,I4.Et λ p hp=>?_,T.keep _ _ _ bw λ b hb o e=>old b o e,λ b hb=>(f2 b hb).1,.nil,zR _,w0⟩
  rotate_left
  ·have e:=zl.mp hp;subst e;exact⟨eD,I2.An.fresh aL,bq,hZ,λ v=>by simp⟩
  rintro n s3 ⟨i,ys,aa,k,H3,I3,cx,cy,rv,hz,w3⟩;rcases turn i n ys H3 w3 with ⟨stop,qn⟩|⟨go,ag,N,hN,step⟩
  ·refine wpAny_mono (T.done (blockOf X s2 H2 scope C NB fp) rfl rfl rfl hc i _ s3 _ H3 (λ _ _=>False) I3 (a7 cy (by simp)) cx stop) (λ r s4 ⟨hr,dn⟩=>?_) λ _ _ e=>e;subst hr;obtain⟨p1,p2,p3,p4,p5⟩:=dn.pin _ (zg _ zd);obtain⟨m,hn,_⟩:=id dn.loc;have e1:s4.heap.get? D=some {cls:=.type "list",data:=.seq aa.toList.toArray k}:=by simpa using p1
   exact fin D C s4 H3 ys m aL aW bq hn dn.free (λ h' sb=>NG I2 f2 dn aW aL bq e1 p2 rv hz sb) (qn D p2)
  ·refine wpAny_mono (T.item (blockOf X s2 H2 scope C NB fp) rfl rfl rfl hc i _ s3 _ H3 (λ _ _=>False) I3 (a7 cy (by simp)) cx go) (λ r s4 ⟨u,hr,h4⟩=>?_) λ _ _ e=>e;subst hr;refine AV h4 λ _ s5 ⟨x,H5,I5,r5,y5,bN,dG⟩=>?_;have dH:=I5.pinned (a7 dG (by simp)) (T.obj _ _ bN);have bo:=cB σ x H5 _ (step x H5 y5);obtain⟨hg,ht,he⟩:=hb s2 H2 C fp;refine AV (hg _ s5 _ H5 x u _ dH r5 bo) λ _ s6 ⟨σ6,H6,I6,q6,k6⟩=>?_;refine AV (ht _ s6 σ6 H6 _ I6 q6) λ ok s7 ⟨H7,I7,q7⟩=>?_;have again:∀ {H8:Hp} {s8:Shared} {its':Array Value} {k':Nat} {aw:List V},Inv (blockOf X s2 H2 scope C NB fp) ([(D,{cls:=.type "list",data:=.seq its' k' })]++Ec fp s5.heap) σ6 H8 s8->Vals aw its'.toList->aw.length<=sizeLine->(∃m,m<n/\W (i+1) m aw H8)->
    ∃m,m<n/\∃i ys aa k H',Inv (blockOf X s2 H2 scope C NB fp) [(D,{cls:=.type "list",data:=.seq aa k})] (Ee μ σ) H' s8/\tn i s8.heap/\(∀b∈fp,H' b=none)/\Vals ys aa.toList/\ys.length<=sizeLine/\W i m ys H':=fun {H8 s8 its' k' aw} I8 ax ia n8=>by
    obtain⟨m',hm,w8⟩:=n8;refine⟨m',hm,i+1,aw,its',k',H8,(I8.Ew.weak ?_ k6),T.keep _ _ _ bN λ b hb o e=>(I8.pin (b,o) (zg _ (zg _ (Cq hb e)))).1,λ b hb=>?_,ax,ia,w8⟩
    ·rw[I8.len];exact I4.len
    ·obtain⟨o,e,d⟩:=T.obj _ _ bN b hb;exact (I8.pin (b,o) (zg _ (zg _ (Cq hb e)))).2.1
   cases ok with
   |false =>
    simp only[zv,if_false] at q7 ⊢;exact again I7 rv hz (hN _ _ q7)
   |true =>
    simp only[if_true] at q7 ⊢;refine AV (he _ s7 σ6 H7 _ I7 q7) λ uy s8 ⟨y,H8,I8,r8,q8⟩=>?_;obtain⟨p1,p2,p3,p4,p5⟩:=I8.pin (D,_) (zg _ (zB _ zd));have e1:s8.heap.get? D=some {cls:=.type "list",data:=.seq aa k}:=p1;have hsz:aa.size=ys.length:=by rw[<-Array.length_toList];exact rv.length.symm
    refine call_meets F.slot_list_append ⟨_,e1,rfl⟩ F.entry_list_append (F.args_list_append_2 _ _) (PySem.list_append D aa k uy (by rw[hsz];omega)) ⟨e1,?_⟩;have dZ:=PySem.IsL.update e1 (·.push uy);have Iu:Inv (blockOf X s2 H2 scope C NB fp) (Ec fp s5.heap) σ6 H8 s8:=I8.Et λ p hp=>I8.pin p (zg _ (zg _ hp));have It:=Iu.turned (it:=D) (h':=s8.heap.update D (Obj.mapSeq (·.push uy))) (t':=s8.toks) (λ b o hb e=>(Heap.get?_update_other _ _ (zU hb)).trans e) p2 p3 (.inr aL) (λ x c e z=>?_) (λ p hp z=>?_)
    ·refine again (its':=aa.push uy) (k':=if (aa.push uy).size==aa.size then k else k+1) (It.Et λ p hp=>?_) (by simpa using rv.append (.cons r8 .nil)) (by rw[zT,yn];omega) (hN _ _ q8);rcases zE.mp hp with hp|hp
     ·have e:=zl.mp hp;subst e;exact⟨dZ,p2,p3,p4,λ v=>by simp⟩
     ·exact It.pin p (zg _ hp)
    ·have e':=BM I2 am e;obtain⟨v,o,ho,_⟩:=I2.cell x c e';exact absurd (zq ho) (by rw[z];exact Nat.not_lt.mpr aL)
    ·have dX:p∈Ec fp s5.heap:=by simpa [blockOf] using hp
     exact dW p.1 (Iy dX).1 z
 exact codeAny_compStart_list (loop _ rfl) (T.self _ 0 _ _ _ (T.keep _ _ _ bw λ b hb o e=>old b o e) (loop _ rfl))
theorem MN {wi:TI}(hc:X.calm=true)(hi:PI X tg iter wi)(am:EB scope X.env.scope=true)(a9:Ji X.N NB scope μ=true)(cB:Gw μ g)
 (hb:∀(s:Shared) (H:Hp) (C:Addr) (ex:List Addr),PG (blockOf X s H scope C NB ex) tg g/\VY (blockOf X s H scope C NB ex) ifs (tc s H C ex)/\PE (blockOf X s H scope C NB ex) elt (te s H C ex))
 (hs:∀x,foldedSetIterable iter X.env x=pure x:=by intro _;rfl):PE X (.ListComp elt [⟨tg,iter,ifs,0⟩] scope pos) (KA wi μ g tc te):=by
 intro pins s σ H Q I h;have aA:∀y∈scope.names,y.2=.local->scope.names.lookup y.1=some .local:=λ y hy=>(DH am hy).2.2;have aX:closureFor scope X.env=pure (DZ X.env.cells scope.names []):=E8 λ y hy e=>Ef I am (x:=y.1) (by rw[<-e];exact hy);rw[eval_ListComp];refine wpAny_comprehension_free (use:=none) rfl hs aX (DF am) aA (AV (hi pins s σ H _ I h) λ v s1 h1=>AV h1 λ df s2 h2=>?_);obtain⟨it,fp,tn,J,H2,e,I2,T,bw,f2,q⟩:=h2;subst e;refine IH (RR:=λ acc C=>compPost (model X.prog X.w) X.A X.xe none (EP X pins σ Q) acc C) hc I2 T bw f2 am a9 cB hb (λ C=>q s2 C fp) ?_;intro D C s' H' ys m hD hC bq hn nC hI hq;exact⟨m,hn,λ h' sb=>⟨.ref D,_,hI h' sb,rfl,hq⟩⟩
noncomputable def VZ (i:Nat)(te:TE):TS:=λ D σ H=>te σ H λ x H1=>D.nx (σ.set i (some x)) H1
theorem Rw {wi:TI}{i:Nat}{y:Str}{py aY:Pos}(hN:X.N.Nodup)(ee:X.N[i]?=some y)(hy:Loc X.env.scope y)(hc:X.calm=true)(hi:PI X tg iter wi)(am:EB scope X.env.scope=true)(a9:Ji X.N NB scope μ=true)(cB:Gw μ g)
 (hb:∀(s:Shared) (H:Hp) (C:Addr) (ex:List Addr),PG (blockOf X s H scope C NB ex) tg g/\VY (blockOf X s H scope C NB ex) ifs (tc s H C ex)/\PE (blockOf X s H scope C NB ex) elt (te s H C ex))
 (bS:swapsWith (.ListComp elt [⟨tg,iter,ifs,0⟩] scope pos) (some (.Name y py)) aY.line X.env=pure true:=by rfl)
 (hs:∀x,foldedSetIterable iter X.env x=pure x:=by intro _;rfl) (hf:X.fn y=true\/X.env.scope.names.lookup y=some .local:=by first|exact .inl rfl|exact .inr rfl|assumption):
 PS X (.Assign [.Name y py] (.ListComp elt [⟨tg,iter,ifs,0⟩] scope pos) aY) (VZ i (KA wi μ g tc te)):=by
 intro pins s σ H D' I h;have aA:∀y∈scope.names,y.2=.local->scope.names.lookup y.1=some .local:=λ y hy=>(DH am hy).2.2;have aX:closureFor scope X.env=pure (DZ X.env.cells scope.names []):=E8 λ y hy e=>Ef I am (x:=y.1) (by rw[<-e];exact hy);rw[exec_Assign_Name_used _ _ _ _ bS];refine wpAny_bind (wpAny_standAt (wpAny_bind ?_));show wpAny _ X.A (do let _ <-comprehension (.ListComp elt [⟨tg,iter,ifs,0⟩] scope pos) scope X.env _ (newList []) false (eval iter X.env) (some (assign (.Name y py) X.env))) _ _ s;refine wpAny_bind (wpAny_mono (wpAny_comprehension_free (use:=some (assign (.Name y py) X.env)) (Q:=λ _ s'=>SP X pins D' .next s') rfl hs aX (DF am) aA (AV (hi pins s σ H _ I h) λ v s1 h1=>AV h1 λ df s2 h2=>?_)) (λ _ s' hq=>wpAny_pure (wpAny_pure hq)) λ _ _ e=>e);obtain⟨it,fp,tn,J,H2,e,I2,T,bw,f2,q⟩:=h2;subst e;refine IH (RR:=λ acc C=>compPost (model X.prog X.w) X.A X.xe (some (assign (.Name y py) X.env)) (λ _ s'=>SP X pins D' .next s') acc C) hc I2 T bw f2 am a9 cB hb (λ C=>q s2 C fp) ?_;intro D C s' H' ys m hD hC bq hn nC hI hq;have I':=hI s'.heap (.refl ..);show wpAny _ X.A (assign (.Name y py) X.env (.ref D)) _ _ _;refine wpAny_assign_Name (Iw (i:=i) (v:=.ref D) I' hN ee hy rfl (λ cz ib ef=>?_) hf);obtain⟨a,sb,ha⟩:=ef;have ci:a≠C:=by
  rcases ha with z|z
  ·rw[z];exact zC (zw I2.lt hC)
  ·obtain⟨v,o,ho,_⟩:=I2.cell y a z;exact zC (zw (zq ho) hC)
 refine⟨m,hn.sameBut sb (zU ci),λ h' ic=>?_⟩;refine⟨_,_,ib.turned (it:=C) (t':=cz.toks) (λ b o hb e=>(ic.2 b hb).trans e) (by rw[A5 (zU bq)];exact nC) (Nat.ne_of_gt (zw I2.lt hC)) (.inr (zY I2.sz hC)) (λ x c e z=>?_) (λ p hp z=>?_),hq⟩
 ·obtain⟨v,o,ho,_⟩:=I2.cell x c e;exact absurd (zq ho) (by rw[z];exact Nat.not_lt.mpr hC)
 ·exact absurd (zq (I2.pin p hp).1) (by rw[z];exact Nat.not_lt.mpr hC)
end
noncomputable def Y6 (K:zc)(a:Addr):It:=
 ⟨λ i H=>∃xs x,C1 K H a xs/\xs[i]?=some x,λ i H v H'=>∃p x,H p=none/\v=.ref p/\(∀xs,C1 K H a xs->xs[i]?=some x)/\H'=upd H p (.tup [.int i,x]),λ i H=>∃xs,C1 K H a xs/\xs.length<=i⟩
theorem LP {X:Cx}{pins:List (Addr×Obj)}{σ:St}{H:Hp}{s:Shared}{h':Heap}{t':Nat}{e it:Addr}(I:Inv X pins σ H s)(he:FQ X pins H e)(hi:FQ X pins H it)(k:∀b o,b≠e->b≠it->s.heap.get? b=some o->h'.get? b=some o):Inv X pins σ H {s with heap:=h',toks:=t' }:=by
 obtain⟨e0,e1,e2,e3,e4,e5⟩:=he;obtain⟨f0,f1,f2,f3,f4,f5⟩:=hi;have ne:∀b u,H b=some u->b≠e/\b≠it:=λ b u q=>⟨λ z=>(by rw[z,e0] at q;cases q),λ z=>(by rw[z,f0] at q;cases q)⟩;refine I.step (g':=s.gens) (d':=s.drawn) (ch:=[e,it]) (λ b hb=>?_) (λ b o _ _ hc q _=>k b o (λ z=>hc (by simp[z])) (λ z=>hc (by simp[z])) q) (λ b o _ _ hc q _=>⟨o.slots,k b o (λ z=>hc (by simp[z])) (λ z=>hc (by simp[z])) q⟩) (λ _ _ _ _ n=>n)
  (λ b o hc q=>⟨o,k b o (λ z=>hc (by simp[z])) (λ z=>hc (by simp[z])) q⟩) (λ _ _ q=>q) (λ _ _ _ q=>q) (λ b ps q=>⟨#[],by rw[q];simp⟩) (λ m hm=>?_) (λ b u q=>?_) I.bare
 ·rcases zo.mp hb with z|z
  ·subst z;exact⟨e3,e1,e4,e5⟩
  ·have z:=zl.mp z;subst z;exact⟨f3,f1,f4,f5⟩
 ·obtain⟨o,es,ep,ho,r⟩:=hm;exact⟨o,es,ep,k _ o (zU e1) (zU f1) ho,r⟩
 ·refine (I.An b u q).Ge (λ c v hc z=>k c v ?_ ?_ z) (λ _ z=>z) λ _ _ z=>z
  ·rcases hc with z|z
   ·rw[z];exact (ne b u q).1
   ·exact (ne c _ z).1
  ·rcases hc with z|z
   ·rw[z];exact (ne b u q).2
   ·exact (ne c _ z).2
theorem NH {P:Program}{w:World}{K:zc}{aZ:List Expr}{x1}{aK:Pos}(a e it:Addr)(ac:e≠it):
 Turn P w K (.Tuple aZ x1 aK) (Y6 K a) [e,it] e (λ i h=>(∃old,IsEnum h e it i old)/\h.IsListIter it a i) where
 mem:=by simp
 obj:=λ i h st b hb=>by
  obtain⟨⟨old,h1⟩,o,h2,c,d⟩:=st;rcases zo.mp hb with z|z
  ·subst z;exact⟨_,h1,λ v z=>by cases z⟩
  ·have z:=zl.mp z;subst z;exact⟨o,h2,λ v z=>by rw[d] at z;cases z⟩
 keep:=λ i h h' st k=>⟨let ⟨old,h1⟩:=st.1;⟨old,k e (by simp) _ h1⟩,st.2.at λ o e=>k it (by simp) o e⟩
 item:=by
  intro X hP hw hK hc i pins s σ H E I hf st hg;subst hP hw hK;obtain⟨xs,x,hq,hx⟩:=hg;obtain⟨⟨old,he⟩,hit⟩:=st;obtain⟨aa,rv,p,hz⟩:=I.list hq;obtain⟨u,hu,ru⟩:=rv.get hx;have fe:=hf e (by simp);have fi:=hf it (by simp);refine wpAny_pyNext_enum_item he hit p.isList (x:=u) (by simpa using hu) ac λ h1 bA eg ht hsz hk=>?_;refine⟨_,rfl,wpAny_letOwnedTupleGo_enum (s:={s with heap:=h1,toks:=s.toks+1}) bA λ h2 ie bT=>?_⟩;have aB:Heap.SameBut e h1 h2:=bT;have nt:s.heap.objs.size≠e:=Nat.ne_of_gt (zq he);have ig:s.heap.objs.size≠it:=by
   obtain⟨o,ho,_⟩:=hit;exact Nat.ne_of_gt (zq ho)
  have I1:Inv X pins σ H {s with heap:=h2,toks:=s.toks+1}:=LP I fe fi λ b o hb aQ q=>(aB.2 b hb).trans (hk b o hb aQ q);have tup:h2.get? s.heap.objs.size=some {cls:=.type "tuple",data:=.seq #[.int i s.toks,u]}:=(aB.2 _ nt).trans ht;have nH:H s.heap.objs.size=none:=I.An.fresh (zp _);have vv:Vals [.int i,x] [.int i s.toks,u]:=.cons ⟨_,rfl⟩ (.cons ru .nil);have eh:Cp X.prog X.w (upd H s.heap.objs.size (.tup [.int i,x])) h2:=I1.An.adopt nH ⟨by show 2<=sizeLine;decide,_,vv,⟨_,tup,rfl,_,rfl⟩⟩;have I2:Inv X pins σ (upd H s.heap.objs.size (.tup [.int i,x])) {s with heap:=h2,toks:=s.toks+1}:=by
   refine I.step (g':=s.gens) (d':=s.drawn) (ch:=[e,it]) (λ b hb=>?_) (λ b o _ _ hc q _=>(aB.2 b (λ z=>hc (by simp[z]))).trans (hk b o (λ z=>hc (by simp[z])) (λ z=>hc (by simp[z])) q)) (λ b o _ _ hc q _=>⟨o.slots,(aB.2 b (λ z=>hc (by simp[z]))).trans (hk b o (λ z=>hc (by simp[z])) (λ z=>hc (by simp[z])) q)⟩)
    (λ b o hc q n=>by rw[A5 (zC (zq q))];exact n) (λ b o hc q=>⟨o,(aB.2 b (λ z=>hc (by simp[z]))).trans (hk b o (λ z=>hc (by simp[z])) (λ z=>hc (by simp[z])) q)⟩)
    (λ b xs q=>by rw[A5 (Au q nH)];exact q) (λ b o u q=>by rw[A5 (Au q nH)];exact q) (λ b ps q=>⟨#[],by rw[A5 (Au q nH),q];simp⟩) (λ m hm=>?_) eh I.bare
   ·rcases zo.mp hb with z|z
    ·subst z;exact⟨fe.2.2.2.1,fe.2.1,fe.2.2.2.2.1,fe.2.2.2.2.2⟩
    ·have z:=zl.mp z;subst z;exact⟨fi.2.2.2.1,fi.2.1,fi.2.2.2.2.1,fi.2.2.2.2.2⟩
   ·obtain⟨o,es,ep,ho,r⟩:=hm;exact⟨o,es,ep,(aB.2 _ (zU fe.2.1)).trans (hk _ o (zU fe.2.1) (zU fi.2.1) ho),r⟩
  refine⟨.ref s.heap.objs.size,_,I2,rfl,⟨_,x,nH,rfl,λ ys hy=>by rw[I.Eu hy hq];exact hx,rfl⟩,⟨⟨u,ie⟩,eg.at λ o q=>(aB.2 it (zU ac)).trans q⟩,λ b hb=>?_⟩;have aQ:b≠s.heap.objs.size:=by
   rcases zo.mp hb with z|z
   ·rw[z];exact zU nt
   ·rw[zl.mp z];exact zU ig
  rw[A5 aQ];exact (hf b hb).1
 done:=by
  intro X hP hw hK hc i pins s σ H E I hf st hg;subst hP hw hK;obtain⟨xs,hq,hx⟩:=hg;obtain⟨⟨old,he⟩,hit⟩:=st;obtain⟨aa,rv,p,hz⟩:=I.list hq;have hl:=rv.length;obtain⟨f0,f1,f2,f3,f4,f5⟩:=hf it (by simp);exact wpAny_pyNext_enum_end (I.ok.hd hc) he hit p.isList (by simp;omega) λ h' eb=>⟨rfl,I.turned (t':=s.toks) (λ b o hb e=>eb b o hb e) f0 f1 f3 f4 f5⟩
 self:=λ _ _ _ _ _ st h=>let ⟨_,he⟩:=st.1;wpAny_pyIter_enum he h
section
variable {X:Cx}
noncomputable def W0 (K:zc)(ta:TA):TI:=λ σ H R=>ta σ H λ vs H1=>∃a,vs=[.ref a]/\(∃xs,C1 K H1 a xs)/\R (Y6 K a) H1
theorem Rx {aZ:List Expr}{x1}{aK:Pos}{a:Expr}{ta:TA}{p pos:Pos}(hg:Gl X "enumerate")(hm:X.mg "enumerate" = none)(ha:PA X [a] ta)(hb:bootBuiltins "enumerate" = some (.type "enumerate"):=by decide +kernel)(hs:starEach [a] X.env=[(false,eval a X.env)]:=by rfl):
 PI X (.Tuple aZ x1 aK) (.Call (.Name "enumerate" p) [a] [] pos) (W0 X.K ta):=by
 intro pins s σ H R I h;refine Call_ (F1 I hg hm hb (yq (AV (ha pos pins s σ H _ I h) λ us s1 ⟨vs,H1,I1,r1,q1⟩=>?_) hs rfl));obtain⟨j,e,⟨xs,hq⟩,q⟩:=q1;subst e;cases r1 with
 |cons r rr =>
  cases rr;cases r;obtain⟨aa,rv,p,hz⟩:=I1.list hq;refine call_enumerate_list p.isList λ h' he hit hsz hk=>?_;refine wpAny_pyIter_enum (s:={s1 with heap:=h' }) he ?_;have I2:Inv X pins σ H1 {s1 with heap:=h' }:=I1.kept (t':=s1.toks) hk;refine⟨_,[s1.heap.objs.size+1,s1.heap.objs.size],_,_,H1,rfl,I2,NH j _ _ (Nat.succ_ne_self _),⟨⟨_,he⟩,hit⟩,λ b hb=>?_,q⟩;rcases zo.mp hb with z|z
  ·rw[z];exact I1.Nu (Nat.le_succ _) (I1.An.fresh (Nat.le_succ _))
  ·rw[zl.mp z];exact I1.Nu (zp _) (I1.An.fresh (zp _))
end
inductive D where
 |Aw|bl (b:Bool)|int (i:Int)|str (x:Str)|tup (ds:List D)|lst (ds:List D)|BY (x:Str)|AS (t:Bool) (ks vs:List D)|ins (x:Str) (ns:List Str) (ds:List D)
noncomputable def Be:Key->D
 | .inl i=>.int i
 | .inr x=>.str x
def XE (a c:Addr)(h:Heap):Prop:=∃o,h.get? a=some o/\o.cls=.ref c/\PySem.W.notCls o=true
theorem Rd.same {H H':Hp}{a:Addr}{u:HO}(r:Rd H a u)(e:A9 H H'):Rd H' a u:=r.elim (λ h=>.inl (e _ _ h)) λ⟨o,h⟩=>.inr ⟨o,e _ _ h⟩
mutual
inductive AW (K:zc) (H:Hp):V->D->Prop
 |Aw:AW K H .Aw .Aw
 |bl (b):AW K H (.bl b) (.bl b)
 |int (i):AW K H (.int i) (.int i)
 |str (x):AW K H (.str x) (.str x)
 |tup {a xs ds}:H a=some (.tup xs)->Ab K H xs ds->AW K H (.ref a) (.tup ds)
 |lst {a xs ds}:C1 K H a xs->Ab K H xs ds->AW K H (.ref a) (.lst ds)
 |E5 {a kvs ds}:Rd H a (.dK kvs)->Ab K H (kvs.map yg) ds->AW K H (.ref a) (.AS false (kvs.map λ kv=>Be kv.1) ds)
 |D2 {a kvs ds}:Rd H a (.dT kvs)->Ab K H (kvs.map yg) ds->AW K H (.ref a) (.AS true (kvs.map λ kv=>.tup (kv.1.map Be)) ds)
 |ins {a C dx fs x ds}:zi K mainGlobals x=some (some (.ref C))->H a=some (.ins C dx fs)->Ab K H (fs.map yg) ds->AW K H (.ref a) (.ins x (fs.map zF) ds)
 |BY {a c x}:zi K mainGlobals x=some (some (.ref c))->H a=some (.ext (XE a c))->AW K H (.ref a) (.BY x)
inductive Ab (K:zc) (H:Hp):List V->List D->Prop
 |nil:Ab K H [] []
 |cons {x d xs ds}:AW K H x d->Ab K H xs ds->Ab K H (x::xs) (d::ds)
end
theorem Ab.length {K:zc}{H:Hp}:∀ {xs:List V}{ds:List D},Ab K H xs ds->xs.length=ds.length
 |_,_,.nil=>rfl
 |_,_,.cons _ t=>by rw[zt,zt,Ab.length t]
theorem Ab.get {K:zc}{H:Hp}:∀ {xs:List V}{ds:List D}{i:Nat}{d:D},Ab K H xs ds->ds[i]?=some d->∃x,xs[i]?=some x/\AW K H x d
 |_,_,_,_,.nil,e=>by simp at e
 |_,_,0,_,.cons r _,e=>by simp at e;subst e;exact⟨_,rfl,r⟩
 |_,_,i+1,d,.cons _ t,e=>by
  obtain⟨u,h1,h2⟩:=Ab.get (i:=i) (d:=d) t (by simpa using e);exact⟨u,by simpa using h1,h2⟩
theorem Ab.F4 {K:zc}{H:Hp}:∀ {xs:List V}{ds:List D}{i:Nat}{x:V},Ab K H xs ds->xs[i]?=some x->∃d,ds[i]?=some d/\AW K H x d
 |_,_,_,_,.nil,e=>by simp at e
 |_,_,0,_,.cons r _,e=>by simp at e;subst e;exact⟨_,rfl,r⟩
 |_,_,i+1,d,.cons _ t,e=>by
  obtain⟨u,h1,h2⟩:=Ab.F4 (i:=i) (x:=d) t (by simpa using e);exact⟨u,by simpa using h1,h2⟩
theorem Ab.append {K:zc}{H:Hp}:∀ {xs ys:List V}{ds es:List D},Ab K H xs ds->Ab K H ys es->Ab K H (xs++ys) (ds++es)
 |_,_,_,_,.nil,h=>h
 |_,_,_,_,.cons r t,h=>.cons r (Ab.append t h)
theorem Ab.snoc {K:zc}{H:Hp}{xs:List V}{ds:List D}{x:V}{d:D}(h:Ab K H xs ds)(r:AW K H x d):Ab K H (xs++[x]) (ds++[d]):=h.append (.cons r .nil)
theorem Ab.take {K:zc}{H:Hp}:∀ {xs:List V}{ds:List D}(n:Nat),Ab K H xs ds->Ab K H (xs.take n) (ds.take n)
 |_,_,0,_|_,_,_+1,.nil=>.nil
 |_,_,n+1,.cons r t=>.cons r (Ab.take n t)
theorem Ab.drop {K:zc}{H:Hp}:∀ {xs:List V}{ds:List D}(n:Nat),Ab K H xs ds->Ab K H (xs.drop n) (ds.drop n)
 |_,_,0,r=>r
 |_,_,_+1,.nil=>.nil
 |_,_,n+1,.cons _ t=>Ab.drop n t
theorem Ab.reverse {K:zc}{H:Hp}:∀ {xs:List V}{ds:List D},Ab K H xs ds->Ab K H xs.reverse ds.reverse
 |_,_,.nil=>.nil
 |_,_,.cons r t=>by rw[List.reverse_cons,List.reverse_cons];exact (Ab.reverse t).snoc r
theorem Ab.ints {K:zc}{H:Hp}:∀(ns:List Int),Ab K H (ns.map V.int) (ns.map D.int)
 |[]=>.nil
 |n::r=>.cons (.int n) (Ab.ints r)
mutual
theorem AW.mono {K:zc}{H H':Hp}(e:A9 H H'):∀ {v:V}{d:D},AW K H v d->AW K H' v d
 |_,_,.Aw=>.Aw
 |_,_,.bl b=>.bl b
 |_,_,.int i=>.int i
 |_,_,.str x=>.str x
 |_,_,.tup h r=>.tup (e _ _ h) (Ab.mono e r)
 |_,_,.lst h r=>.lst (e.seq h) (Ab.mono e r)
 |_,_,.E5 h r=>.E5 (h.same e) (Ab.mono e r)
 |_,_,.D2 h r=>.D2 (h.same e) (Ab.mono e r)
 |_,_,.ins n h r=>.ins n (e _ _ h) (Ab.mono e r)
 |_,_,.BY h r=>.BY h (e _ _ r)
theorem Ab.mono {K:zc}{H H':Hp}(e:A9 H H'):∀ {vs:List V}{ds:List D},Ab K H vs ds->Ab K H' vs ds
 |_,_,.nil=>.nil
 |_,_,.cons h t=>.cons (AW.mono e h) (Ab.mono e t)
end
theorem Ay {H:Hp}{p:Addr}(h:H p=none)(o:HO):A9 H (upd H p o):=λ b u q=>by rw[A5 (Au q h)];exact q
mutual
noncomputable def Aj:D->D->Bool
 | .Aw,.Aw=>true
 | .bl a,.bl b| .int a,.int b| .str a,.str b=>a==b
 | .bl a,.int b=>(if a then 1 else 0)==b
 | .int a,.bl b=>a==(if b then 1 else 0)
 | .tup a,.tup b| .lst a,.lst b=>BB a b
 | .BY a,.BY b=>a==b
 | .AS s a b,.AS t c d=>(s==t)&&(BB a c&&BB b d)
 | .ins x n a,.ins y m b=>(x==y)&&((n==m)&&BB a b)
 |_,_=>false
noncomputable def BB:List D->List D->Bool
 |[],[]=>true
 |a::r,b::t=>Aj a b&&BB r t
 |_,_=>false
end
mutual
theorem D3:∀d:D,Aj d d=true
 | .Aw=>by simp[Aj]
 | .bl b| .int b| .str b=>by simp[Aj]
 | .tup b| .lst b=>by simp only[Aj];exact BL b
 | .BY b=>by simp[Aj]
 | .AS s a b=>by simp only[Aj];rw[BL a,BL b];simp
 | .ins x n a=>by simp only[Aj];rw[BL a];simp
theorem BL:∀d:List D,BB d d=true
 |[]=>by simp[BB]
 |a::r=>by simp only[BB,D3 a,BL r,Bool.and_true]
end
mutual
noncomputable def Am:D->Bool
 | .tup a| .lst a=>Gx a
 | .BY _| .AS _ _ _| .ins _ _ _=>false
 |_=>true
noncomputable def Gx:List D->Bool
 |[]=>true
 |a::r=>Am a&&Gx r
end
theorem B1:∀ {ds:List D}{d:D},d∈ds->Gx ds=true->Am d=true
 |a::r,d,h,q=>by
  rw[Gx,zL] at q;rcases zo.mp h with z|z
  ·subst z;exact q.1
  ·exact B1 z q.2
mutual
noncomputable def E9:D->Nat
 | .tup a| .lst a=>FU a+1
 |_=>0
noncomputable def FU:List D->Nat
 |[]=>0
 |a::r=>max (E9 a) (FU r)
end
theorem Cr:∀ {ds:List D}{d:D},d∈ds->E9 d<=FU ds
 |a::r,d,h=>by
  rw[FU];rcases zo.mp h with z|z
  ·subst z;exact Nat.le_max_left _ _
  ·exact zY (Cr z) (Nat.le_max_right _ _)
theorem KC:∀ {a b:List D},BB a b=true->a.length=b.length
 |[],[],_=>rfl
 |[],_::_,h|_::_,[],h=>by simp[BB] at h
 |a::r,b::t,h=>by
  simp only[BB,zL] at h;rw[zt,zt,KC h.2]
theorem BN:∀(a b:List D),a.length=b.length->(yt a.length).all (λ j=>Aj (a.getD j .Aw) (b.getD j .Aw))=BB a b
 |[],[],_=>by simp[BB]
 |a::r,b::t,h=>by
  have ih:=BN r t (by simpa using h);rw[zt,List.range_succ_eq_map,List.all_cons,List.all_map,BB,<-ih];simp[Function.comp_def]
 |[],_::_,h|_::_,[],h=>by cases h
theorem G2 {a b:List D}(h:a.length≠b.length):BB a b=false:=by
 cases e:BB a b with
 |false=>rfl
 |true=>exact absurd (KC e) h
theorem Gy (a b:List D):((yt (min a.length b.length)).all (λ j=>Aj (a.getD j .Aw) (b.getD j .Aw))&&(a.length==b.length))=BB a b:=by
 by_cases h:a.length=b.length
 ·rw[<-BN a b h,h];simp
 ·rw[G2 h,beq_false_of_ne h,Bool.and_false]
section
variable {X:Cx}{pins:List (Addr×Obj)}{σ:St}{H:Hp}{s:Shared}
theorem MO (I:Inv X pins σ H s){a:Addr}{xs ys:List V}(h:C1 X.K H a xs)(h':EX X.K H a ys):False:=by
 obtain⟨aa,_,⟨o,n,e,c,_,_⟩,_⟩:=I.list h;obtain⟨its',_,⟨o',e',c',_⟩,_⟩:=I.tuple h';rw[e] at e';cases e';rw[c] at c';revert c';decide
mutual
theorem Ry (I:Inv X pins σ H s):∀ {v:V}{d d':D},Am d=true->Am d'=true->AW X.K H v d->AW X.K H v d'->d=d'
 |_,_,_,_,_,.Aw,.Aw|_,_,_,_,_,.bl _,.bl _|_,_,_,_,_,.int _,.int _|_,_,_,_,_,.str _,.str _=>rfl
 |_,_,_,n1,n2,.tup h r,.tup h' r'=>by
  have e:=I.F2 (.of h) (.of h');subst e;rw[D4 I (by rw[Am] at n1;exact n1) (by rw[Am] at n2;exact n2) r r']
 |_,_,_,n1,n2,.lst h r,.lst h' r'=>by
  have e:=I.Eu h h';subst e;rw[D4 I (by rw[Am] at n1;exact n1) (by rw[Am] at n2;exact n2) r r']
 |_,_,_,_,_,.tup h _,.lst h' _=>(MO I h' (.of h)).elim
 |_,_,_,_,_,.lst h _,.tup h' _=>(MO I h (.of h')).elim
 |_,_,_,n1,_,.BY _ _,_|_,_,_,n1,_,.E5 _ _,_|_,_,_,n1,_,.D2 _ _,_|_,_,_,n1,_,.ins _ _ _,_=>by rw[Am] at n1;cases n1
 |_,_,_,_,n2,_,.BY _ _|_,_,_,_,n2,_,.E5 _ _|_,_,_,_,n2,_,.D2 _ _|_,_,_,_,n2,_,.ins _ _ _=>by rw[Am] at n2;cases n2
theorem D4 (I:Inv X pins σ H s):∀ {v:List V}{d d':List D},Gx d=true->Gx d'=true->Ab X.K H v d->Ab X.K H v d'->d=d'
 |_,_,_,_,_,.nil,.nil=>rfl
 |_,_,_,n1,n2,.cons h r,.cons h' r'=>by
  rw[Gx,zL] at n1 n2;rw[Ry I n1.1 n2.1 h h',D4 I n1.2 n2.2 r r']
end
theorem Oh {xs:List V}{aa:List Value}(r:Vals xs aa)(j:Nat)(h:j<aa.toArray.size):∃x,xs[j]?=some x/\RelV x aa.toArray[j]:=by
 have h':j<aa.length:=by simpa using h
 have hx:j<xs.length:=by rw[r.length];exact h'
 obtain⟨u,hu,ru⟩:=r.get (zu hx);rw[zu h'] at hu;refine⟨xs[j],zu hx,?_⟩;have e:aa.toArray[j]=u:=by simpa using hu
 rw[e];exact ru
theorem B8 {ds:List D}{j:Nat}{d:D}(h:ds[j]?=some d):ds.getD j .Aw=d:=by rw[List.getD_eq_getElem?_getD,h];rfl
theorem Gz (I:Inv X pins σ H s):∀(n:Nat) (A:Around) (d e:D) (v w:V) (u1 u2:Value),E9 d<=n->Am d=true->Am e=true->A.units+n<cLine->AW X.K H v d->AW X.K H w e->RelV v u1->RelV w u2->SeqAt.EqAt A s u1 u2 (Aj d e):=by
 intro n;induction n with
 |zero =>
  intro A d e v w u1 u2 hd aj ad hu h1 h2 r1 r2;have af:A.units<cLine:=by omega
  cases h1 with
  |BY _ _|E5 _ _|D2 _ _|ins _ _ _=>simp[Am] at aj
  |Aw =>
   cases r1;cases h2 with
   |BY _ _|E5 _ _|D2 _ _|ins _ _ _=>simp[Am] at ad
   |Aw=>cases r2;simp only[Aj];exact .same _
   |bl b=>cases r2;simp only[Aj];exact .none_bool _
   |int b=>obtain⟨t,rfl⟩:=r2;simp only[Aj];exact .none_int _ _
   |str b=>obtain⟨t,rfl⟩:=r2;simp only[Aj];exact .none_str _ _
   |tup h r=>cases r2;simp only[Aj];obtain⟨_,_,p,_⟩:=I.tuple (.of h);exact .none_tuple p af
   |lst h r=>cases r2;simp only[Aj];obtain⟨_,_,p,_⟩:=I.list h;exact .none_list p.isList af
  |bl a =>
   cases r1;cases h2 with
   |BY _ _|E5 _ _|D2 _ _|ins _ _ _=>simp[Am] at ad
   |Aw=>cases r2;simp only[Aj];exact .bool_none _
   |bl b=>cases r2;simp only[Aj];exact .bool_bool _ _
   |int b=>obtain⟨t,rfl⟩:=r2;simp only[Aj];exact .bool_int _ _ _
   |str b=>obtain⟨t,rfl⟩:=r2;simp only[Aj];exact .bool_str _ _ _
   |tup h r=>cases r2;simp only[Aj];obtain⟨_,_,p,_⟩:=I.tuple (.of h);exact .bool_tuple _ p af
   |lst h r=>cases r2;simp only[Aj];obtain⟨_,_,p,_⟩:=I.list h;exact .bool_list _ p.isList af
  |int a =>
   obtain⟨t',rfl⟩:=r1;cases h2 with
   |BY _ _|E5 _ _|D2 _ _|ins _ _ _=>simp[Am] at ad
   |Aw=>cases r2;simp only[Aj];exact .int_none _ _
   |bl b=>cases r2;simp only[Aj];exact .int_bool _ _ _
   |int b=>obtain⟨t,rfl⟩:=r2;simp only[Aj];exact .int_int _ _ _ _
   |str b=>obtain⟨t,rfl⟩:=r2;simp only[Aj];exact .int_str _ _ _ _
   |tup h r=>cases r2;simp only[Aj];obtain⟨_,_,p,_⟩:=I.tuple (.of h);exact .int_tuple _ _ p af
   |lst h r=>cases r2;simp only[Aj];obtain⟨_,_,p,_⟩:=I.list h;exact .int_list _ _ p.isList af
  |str a =>
   obtain⟨t',rfl⟩:=r1;cases h2 with
   |BY _ _|E5 _ _|D2 _ _|ins _ _ _=>simp[Am] at ad
   |Aw=>cases r2;simp only[Aj];exact .str_none _ _
   |bl b=>cases r2;simp only[Aj];exact .str_bool _ _ _
   |int b=>obtain⟨t,rfl⟩:=r2;simp only[Aj];exact .str_int _ _ _ _
   |str b=>obtain⟨t,rfl⟩:=r2;simp only[Aj];exact .str_str _ _ _ _
   |tup h r=>cases r2;simp only[Aj];obtain⟨_,_,p,_⟩:=I.tuple (.of h);exact .str_tuple _ _ p af
   |lst h r=>cases r2;simp only[Aj];obtain⟨_,_,p,_⟩:=I.list h;exact .str_list _ _ p.isList af
  |tup h r|lst h r=>rw[E9] at hd;omega
 |succ n ih =>
  intro A d e v w u1 u2 hd aj ad hu h1 h2 r1 r2;have af:A.units<cLine:=by omega
  have ge:A.in1.units+n<cLine:=by show A.units+1+n<cLine;omega
  by_cases cE:E9 d<=n
  ·exact ih A d e v w u1 u2 cE aj ad (by omega) h1 h2 r1 r2
  cases h1 with
  |BY _ _|E5 _ _|D2 _ _|ins _ _ _=>simp[Am] at aj
  |Aw|bl _|int _|str _=>exact absurd (by simp[E9]) cE
  | @tup a xs ds h r =>
   cases r1;obtain⟨aa,rv,p,_⟩:=I.tuple (.of h);cases h2 with
   |BY _ _|E5 _ _|D2 _ _|ins _ _ _=>simp[Am] at ad
   |Aw=>cases r2;simp only[Aj];exact .tuple_none p af
   |bl b=>cases r2;simp only[Aj];exact .tuple_bool _ p af
   |int b=>obtain⟨t,rfl⟩:=r2;simp only[Aj];exact .tuple_int _ _ p af
   |str b=>obtain⟨t,rfl⟩:=r2;simp only[Aj];exact .tuple_str _ _ p af
   | @lst a2 aM es h' r'=>cases r2;simp only[Aj];obtain⟨_,_,p',_⟩:=I.list h';exact .tuple_list p p'.isList af
   | @tup a2 aM es h' r' =>
    cases r2;by_cases ha:a=a2
    ·subst ha;have e':=I.F2 (.of h) (.of h');subst e';have e2:=D4 I (by rw[Am] at aj;exact aj) (by rw[Am] at ad;exact ad) r r';subst e2;rw[D3];exact .same _
    ·obtain⟨its',ax,p',_⟩:=I.tuple (.of h');refine .of_refs ha ?_;have q:=SeqAt.RcAt.tuples (A:=A) (e:=λ j=>Aj (ds.getD j .Aw) (es.getD j .Aw)) p p' af λ j h1 h2=>?_
     ·have z1:aa.toArray.size=ds.length:=by rw[zm,<-rv.length,r.length]
      have z2:its'.toArray.size=es.length:=by rw[zm,<-ax.length,r'.length]
      rw[z1,z2,Gy] at q;simp only[Aj];exact q
     ·obtain⟨x,hx,rx⟩:=Oh rv j h1;obtain⟨y,hy,ry⟩:=Oh ax j h2;obtain⟨dx,ex,ba⟩:=r.F4 hx;obtain⟨dy,ey,bc⟩:=r'.F4 hy;rw[B8 ex,B8 ey];refine ih A.in1 dx dy x y _ _ ?_ (B1 (zk ex) (by rw[Am] at aj;exact aj)) (B1 (zk ey) (by rw[Am] at ad;exact ad)) ge ba bc rx ry;rw[E9] at hd;have:=Cr (zk ex);omega
  | @lst a xs ds h r =>
   cases r1;obtain⟨aa,rv,p,_⟩:=I.list h;cases h2 with
   |BY _ _|E5 _ _|D2 _ _|ins _ _ _=>simp[Am] at ad
   |Aw=>cases r2;simp only[Aj];exact .list_none p.isList af
   |bl b=>cases r2;simp only[Aj];exact .list_bool _ p.isList af
   |int b=>obtain⟨t,rfl⟩:=r2;simp only[Aj];exact .list_int _ _ p.isList af
   |str b=>obtain⟨t,rfl⟩:=r2;simp only[Aj];exact .list_str _ _ p.isList af
   | @tup a2 aM es h' r'=>cases r2;simp only[Aj];obtain⟨_,_,p',_⟩:=I.tuple (.of h');exact .list_tuple p.isList p' af
   | @lst a2 aM es h' r' =>
    cases r2;by_cases ha:a=a2
    ·subst ha;have e':=I.Eu h h';subst e';have e2:=D4 I (by rw[Am] at aj;exact aj) (by rw[Am] at ad;exact ad) r r';subst e2;rw[D3];exact .same _
    ·obtain⟨its',ax,p',_⟩:=I.list h';refine .of_refs ha ?_;have z1:aa.toArray.size=ds.length:=by rw[zm,<-rv.length,r.length]
     have z2:its'.toArray.size=es.length:=by rw[zm,<-ax.length,r'.length]
     by_cases hz:aa.toArray.size=its'.toArray.size
     ·have q:=SeqAt.RcAt.lists (A:=A) (e:=λ j=>Aj (ds.getD j .Aw) (es.getD j .Aw)) p.isList p'.isList hz af λ j h1 h2=>?_
      ·rw[z1,BN ds es (by rw[<-z1,<-z2,hz])] at q;simp only[Aj];exact q
      ·obtain⟨x,hx,rx⟩:=Oh rv j h1;obtain⟨y,hy,ry⟩:=Oh ax j h2;obtain⟨dx,ex,ba⟩:=r.F4 hx;obtain⟨dy,ey,bc⟩:=r'.F4 hy;rw[B8 ex,B8 ey];refine ih A.in1 dx dy x y _ _ ?_ (B1 (zk ex) (by rw[Am] at aj;exact aj)) (B1 (zk ey) (by rw[Am] at ad;exact ad)) ge ba bc rx ry;rw[E9] at hd;have:=Cr (zk ex);omega
     ·have q:=SeqAt.RcAt.lists_lengths (A:=A) p.isList p'.isList (by simpa using hz) af;simp only[Aj];rw[G2 (by rw[<-z1,<-z2];exact hz)];exact q
theorem XF (I:Inv X pins σ H s)(A:Around)(d e:D)(v w:V)(u1 u2:Value)(hd:A.units+E9 d<cLine)(aj:Am d=true)(ad:Am e=true)(h1:AW X.K H v d)(h2:AW X.K H w e)(r1:RelV v u1)(r2:RelV w u2):SeqAt.RcAt A s u1 u2 (Aj d e):=by
 have af:A.units<cLine:=by omega
 cases h1 with
 |BY _ _|E5 _ _|D2 _ _|ins _ _ _=>simp[Am] at aj
 |Aw =>
  cases r1;cases h2 with
  |BY _ _|E5 _ _|D2 _ _|ins _ _ _=>simp[Am] at ad
  |Aw=>cases r2;simp only[Aj];exact .none_none
  |bl b=>cases r2;simp only[Aj];exact .none_bool _
  |int b=>obtain⟨t,rfl⟩:=r2;simp only[Aj];exact .none_int _ _
  |str b=>obtain⟨t,rfl⟩:=r2;simp only[Aj];exact .none_str _ _
  |tup h r=>cases r2;simp only[Aj];obtain⟨_,_,p,_⟩:=I.tuple (.of h);exact .none_tuple  p af
  |lst h r=>cases r2;simp only[Aj];obtain⟨_,_,p,_⟩:=I.list h;exact .none_list  p.isList af
 |bl a =>
  cases r1;cases h2 with
  |BY _ _|E5 _ _|D2 _ _|ins _ _ _=>simp[Am] at ad
  |Aw=>cases r2;simp only[Aj];exact .bool_none _
  |bl b=>cases r2;simp only[Aj];exact .bool_bool _ _
  |int b=>obtain⟨t,rfl⟩:=r2;simp only[Aj];exact .bool_int _ _ _
  |str b=>obtain⟨t,rfl⟩:=r2;simp only[Aj];exact .bool_str _ _ _
  |tup h r=>cases r2;simp only[Aj];obtain⟨_,_,p,_⟩:=I.tuple (.of h);exact .bool_tuple _ p af
  |lst h r=>cases r2;simp only[Aj];obtain⟨_,_,p,_⟩:=I.list h;exact .bool_list _ p.isList af
 |int a =>
  obtain⟨t',rfl⟩:=r1;cases h2 with
  |BY _ _|E5 _ _|D2 _ _|ins _ _ _=>simp[Am] at ad
  |Aw=>cases r2;simp only[Aj];exact .int_none _ _
  |bl b=>cases r2;simp only[Aj];exact .int_bool _ _ _
  |int b=>obtain⟨t,rfl⟩:=r2;simp only[Aj];exact .int_int _ _ _ _
  |str b=>obtain⟨t,rfl⟩:=r2;simp only[Aj];exact .int_str _ _ _ _
  |tup h r=>cases r2;simp only[Aj];obtain⟨_,_,p,_⟩:=I.tuple (.of h);exact .int_tuple _ _ p af
  |lst h r=>cases r2;simp only[Aj];obtain⟨_,_,p,_⟩:=I.list h;exact .int_list _ _ p.isList af
 |str a =>
  obtain⟨t',rfl⟩:=r1;cases h2 with
  |BY _ _|E5 _ _|D2 _ _|ins _ _ _=>simp[Am] at ad
  |Aw=>cases r2;simp only[Aj];exact .str_none _ _
  |bl b=>cases r2;simp only[Aj];exact .str_bool _ _ _
  |int b=>obtain⟨t,rfl⟩:=r2;simp only[Aj];exact .str_int _ _ _ _
  |str b=>obtain⟨t,rfl⟩:=r2;simp only[Aj];exact .str_str _ _ _ _
  |tup h r=>cases r2;simp only[Aj];obtain⟨_,_,p,_⟩:=I.tuple (.of h);exact .str_tuple _ _ p af
  |lst h r=>cases r2;simp only[Aj];obtain⟨_,_,p,_⟩:=I.list h;exact .str_list _ _ p.isList af
 | @tup a xs ds h r =>
  cases r1;obtain⟨aa,rv,p,_⟩:=I.tuple (.of h);cases h2 with
  |BY _ _|E5 _ _|D2 _ _|ins _ _ _=>simp[Am] at ad
  |Aw=>cases r2;simp only[Aj];exact .tuple_none  p af
  |bl b=>cases r2;simp only[Aj];exact .tuple_bool _ p af
  |int b=>obtain⟨t,rfl⟩:=r2;simp only[Aj];exact .tuple_int _ _ p af
  |str b=>obtain⟨t,rfl⟩:=r2;simp only[Aj];exact .tuple_str _ _ p af
  | @lst a2 aM es h' r'=>cases r2;simp only[Aj];obtain⟨_,_,p',_⟩:=I.list h';exact .tuple_list p p'.isList af
  | @tup a2 aM es h' r' =>
   cases r2;obtain⟨its',ax,p',_⟩:=I.tuple (.of h');have z1:aa.toArray.size=ds.length:=by rw[zm,<-rv.length,r.length]
   have z2:its'.toArray.size=es.length:=by rw[zm,<-ax.length,r'.length]
   have q:=SeqAt.RcAt.tuples (A:=A) (e:=λ j=>Aj (ds.getD j .Aw) (es.getD j .Aw)) p p' af λ j h1 h2=>?_
   ·rw[z1,z2,Gy] at q;simp only[Aj];exact q
   ·obtain⟨x,hx,rx⟩:=Oh rv j h1;obtain⟨y,hy,ry⟩:=Oh ax j h2;obtain⟨dx,ex,ba⟩:=r.F4 hx;obtain⟨dy,ey,bc⟩:=r'.F4 hy;rw[B8 ex,B8 ey];rw[E9] at hd;have:=Cr (zk ex);exact Gz I (FU ds) A.in1 dx dy x y _ _ this (B1 (zk ex) (by rw[Am] at aj;exact aj)) (B1 (zk ey) (by rw[Am] at ad;exact ad)) (by show A.units+1+_<cLine;omega) ba bc rx ry
 | @lst a xs ds h r =>
  cases r1;obtain⟨aa,rv,p,_⟩:=I.list h;cases h2 with
  |BY _ _|E5 _ _|D2 _ _|ins _ _ _=>simp[Am] at ad
  |Aw=>cases r2;simp only[Aj];exact .list_none  p.isList af
  |bl b=>cases r2;simp only[Aj];exact .list_bool _ p.isList af
  |int b=>obtain⟨t,rfl⟩:=r2;simp only[Aj];exact .list_int _ _ p.isList af
  |str b=>obtain⟨t,rfl⟩:=r2;simp only[Aj];exact .list_str _ _ p.isList af
  | @tup a2 aM es h' r'=>cases r2;simp only[Aj];obtain⟨_,_,p',_⟩:=I.tuple (.of h');exact .list_tuple p.isList p' af
  | @lst a2 aM es h' r' =>
   cases r2;obtain⟨its',ax,p',_⟩:=I.list h';have z1:aa.toArray.size=ds.length:=by rw[zm,<-rv.length,r.length]
   have z2:its'.toArray.size=es.length:=by rw[zm,<-ax.length,r'.length]
   by_cases hz:aa.toArray.size=its'.toArray.size
   ·have q:=SeqAt.RcAt.lists (A:=A) (e:=λ j=>Aj (ds.getD j .Aw) (es.getD j .Aw)) p.isList p'.isList hz af λ j h1 h2=>?_
    ·rw[z1,BN ds es (by rw[<-z1,<-z2,hz])] at q;simp only[Aj];exact q
    ·obtain⟨x,hx,rx⟩:=Oh rv j h1;obtain⟨y,hy,ry⟩:=Oh ax j h2;obtain⟨dx,ex,ba⟩:=r.F4 hx;obtain⟨dy,ey,bc⟩:=r'.F4 hy;rw[B8 ex,B8 ey];rw[E9] at hd;have:=Cr (zk ex);exact Gz I (FU ds) A.in1 dx dy x y _ _ this (B1 (zk ex) (by rw[Am] at aj;exact aj)) (B1 (zk ey) (by rw[Am] at ad;exact ad)) (by show A.units+1+_<cLine;omega) ba bc rx ry
   ·have q:=SeqAt.RcAt.lists_lengths (A:=A) p.isList p'.isList (by simpa using hz) af;simp only[Aj];rw[G2 (by rw[<-z1,<-z2];exact hz)];exact q
theorem W3 (I:Inv X pins σ H s)(A:Around)(d e:D)(v w:V)(u1 u2:Value)(hd:A.units+E9 d<cLine)(aj:Am d=true)(ad:Am e=true)(h1:AW X.K H v d)(h2:AW X.K H w e)(r1:RelV v u1)(r2:RelV w u2):SeqAt.RcNeAt A s u1 u2 (!Aj d e):=by
 have af:A.units<cLine:=by omega
 cases h1 with
 |BY _ _|E5 _ _|D2 _ _|ins _ _ _=>simp[Am] at aj
 |Aw =>
  cases r1;cases h2 with
  |BY _ _|E5 _ _|D2 _ _|ins _ _ _=>simp[Am] at ad
  |Aw=>cases r2;simp only[Aj];exact .none_none
  |bl b=>cases r2;simp only[Aj];exact .none_bool _
  |int b=>obtain⟨t,rfl⟩:=r2;simp only[Aj];exact .none_int _ _
  |str b=>obtain⟨t,rfl⟩:=r2;simp only[Aj];exact .none_str _ _
  |tup h r=>cases r2;simp only[Aj];obtain⟨_,_,p,_⟩:=I.tuple (.of h);exact .none_tuple  p af
  |lst h r=>cases r2;simp only[Aj];obtain⟨_,_,p,_⟩:=I.list h;exact .none_list  p.isList af
 |bl a =>
  cases r1;cases h2 with
  |BY _ _|E5 _ _|D2 _ _|ins _ _ _=>simp[Am] at ad
  |Aw=>cases r2;simp only[Aj];exact .bool_none _
  |bl b=>cases r2;simp only[Aj];exact .bool_bool _ _
  |int b=>obtain⟨t,rfl⟩:=r2;simp only[Aj];exact .bool_int _ _ _
  |str b=>obtain⟨t,rfl⟩:=r2;simp only[Aj];exact .bool_str _ _ _
  |tup h r=>cases r2;simp only[Aj];obtain⟨_,_,p,_⟩:=I.tuple (.of h);exact .bool_tuple _ p af
  |lst h r=>cases r2;simp only[Aj];obtain⟨_,_,p,_⟩:=I.list h;exact .bool_list _ p.isList af
 |int a =>
  obtain⟨t',rfl⟩:=r1;cases h2 with
  |BY _ _|E5 _ _|D2 _ _|ins _ _ _=>simp[Am] at ad
  |Aw=>cases r2;simp only[Aj];exact .int_none _ _
  |bl b=>cases r2;simp only[Aj];exact .int_bool _ _ _
  |int b=>obtain⟨t,rfl⟩:=r2;simp only[Aj];exact .int_int _ _ _ _
  |str b=>obtain⟨t,rfl⟩:=r2;simp only[Aj];exact .int_str _ _ _ _
  |tup h r=>cases r2;simp only[Aj];obtain⟨_,_,p,_⟩:=I.tuple (.of h);exact .int_tuple _ _ p af
  |lst h r=>cases r2;simp only[Aj];obtain⟨_,_,p,_⟩:=I.list h;exact .int_list _ _ p.isList af
 |str a =>
  obtain⟨t',rfl⟩:=r1;cases h2 with
  |BY _ _|E5 _ _|D2 _ _|ins _ _ _=>simp[Am] at ad
  |Aw=>cases r2;simp only[Aj];exact .str_none _ _
  |bl b=>cases r2;simp only[Aj];exact .str_bool _ _ _
  |int b=>obtain⟨t,rfl⟩:=r2;simp only[Aj];exact .str_int _ _ _ _
  |str b=>obtain⟨t,rfl⟩:=r2;simp only[Aj];exact .str_str _ _ _ _
  |tup h r=>cases r2;simp only[Aj];obtain⟨_,_,p,_⟩:=I.tuple (.of h);exact .str_tuple _ _ p af
  |lst h r=>cases r2;simp only[Aj];obtain⟨_,_,p,_⟩:=I.list h;exact .str_list _ _ p.isList af
 | @tup a xs ds h r =>
  cases r1;obtain⟨aa,rv,p,_⟩:=I.tuple (.of h);cases h2 with
  |BY _ _|E5 _ _|D2 _ _|ins _ _ _=>simp[Am] at ad
  |Aw=>cases r2;simp only[Aj];exact .tuple_none  p af
  |bl b=>cases r2;simp only[Aj];exact .tuple_bool _ p af
  |int b=>obtain⟨t,rfl⟩:=r2;simp only[Aj];exact .tuple_int _ _ p af
  |str b=>obtain⟨t,rfl⟩:=r2;simp only[Aj];exact .tuple_str _ _ p af
  | @lst a2 aM es h' r'=>cases r2;simp only[Aj];obtain⟨_,_,p',_⟩:=I.list h';exact .tuple_list p p'.isList af
  | @tup a2 aM es h' r' =>
   cases r2;obtain⟨its',ax,p',_⟩:=I.tuple (.of h');have z1:aa.toArray.size=ds.length:=by rw[zm,<-rv.length,r.length]
   have z2:its'.toArray.size=es.length:=by rw[zm,<-ax.length,r'.length]
   have q:=SeqAt.RcNeAt.tuples (A:=A) (e:=λ j=>Aj (ds.getD j .Aw) (es.getD j .Aw)) p p' af λ j h1 h2=>?_
   ·rw[z1,z2,Gy] at q;simp only[Aj];exact q
   ·obtain⟨x,hx,rx⟩:=Oh rv j h1;obtain⟨y,hy,ry⟩:=Oh ax j h2;obtain⟨dx,ex,ba⟩:=r.F4 hx;obtain⟨dy,ey,bc⟩:=r'.F4 hy;rw[B8 ex,B8 ey];rw[E9] at hd;have:=Cr (zk ex);exact Gz I (FU ds) A.in1 dx dy x y _ _ this (B1 (zk ex) (by rw[Am] at aj;exact aj)) (B1 (zk ey) (by rw[Am] at ad;exact ad)) (by show A.units+1+_<cLine;omega) ba bc rx ry
 | @lst a xs ds h r =>
  cases r1;obtain⟨aa,rv,p,_⟩:=I.list h;cases h2 with
  |BY _ _|E5 _ _|D2 _ _|ins _ _ _=>simp[Am] at ad
  |Aw=>cases r2;simp only[Aj];exact .list_none  p.isList af
  |bl b=>cases r2;simp only[Aj];exact .list_bool _ p.isList af
  |int b=>obtain⟨t,rfl⟩:=r2;simp only[Aj];exact .list_int _ _ p.isList af
  |str b=>obtain⟨t,rfl⟩:=r2;simp only[Aj];exact .list_str _ _ p.isList af
  | @tup a2 aM es h' r'=>cases r2;simp only[Aj];obtain⟨_,_,p',_⟩:=I.tuple (.of h');exact .list_tuple p.isList p' af
  | @lst a2 aM es h' r' =>
   cases r2;obtain⟨its',ax,p',_⟩:=I.list h';have z1:aa.toArray.size=ds.length:=by rw[zm,<-rv.length,r.length]
   have z2:its'.toArray.size=es.length:=by rw[zm,<-ax.length,r'.length]
   by_cases hz:aa.toArray.size=its'.toArray.size
   ·have q:=SeqAt.RcNeAt.lists (A:=A) (e:=λ j=>Aj (ds.getD j .Aw) (es.getD j .Aw)) p.isList p'.isList hz af λ j h1 h2=>?_
    ·rw[z1,BN ds es (by rw[<-z1,<-z2,hz])] at q;simp only[Aj];exact q
    ·obtain⟨x,hx,rx⟩:=Oh rv j h1;obtain⟨y,hy,ry⟩:=Oh ax j h2;obtain⟨dx,ex,ba⟩:=r.F4 hx;obtain⟨dy,ey,bc⟩:=r'.F4 hy;rw[B8 ex,B8 ey];rw[E9] at hd;have:=Cr (zk ex);exact Gz I (FU ds) A.in1 dx dy x y _ _ this (B1 (zk ex) (by rw[Am] at aj;exact aj)) (B1 (zk ey) (by rw[Am] at ad;exact ad)) (by show A.units+1+_<cLine;omega) ba bc rx ry
   ·have q:=SeqAt.RcNeAt.lists_lengths (A:=A) p.isList p'.isList (by simpa using hz) af;simp only[Aj];rw[G2 (by rw[<-z1,<-z2];exact hz)];exact q
noncomputable def Rz (K:zc)(A:Around)(neg:Bool):R2:=λ x y H Q=>∃d e,AW K H x d/\AW K H y e/\A.units+E9 d<cLine/\Am d=true/\Am e=true/\Q (.bl (if neg=true then !Aj d e else Aj d e)) H
theorem OX:Ex X (compareOp .Eq) (Rz X.K X.A false):=by
 intro pins s σ H x y v u Q I rx ry h;obtain⟨d,e,hd,he,hu,n1,n2,q⟩:=h;exact XF I X.A d e x y v u hu n1 n2 hd he rx ry X.prog X.w X.xe _ ⟨.bl _,H,I,rfl,q⟩
theorem Tw:Ex X (compareOp .NotEq) (Rz X.K X.A true):=by
 intro pins s σ H x y v u Q I rx ry h;obtain⟨d,e,hd,he,hu,n1,n2,q⟩:=h;exact W3 I X.A d e x y v u hu n1 n2 hd he rx ry X.prog X.w X.xe _ ⟨.bl _,H,I,rfl,q⟩
end
inductive OT where
 |sh (d:D)|lst (ts:List OT)|tup (ts:List OT)|AS (t:Bool) (ks:List D) (ts:List OT)|ins (x:Str) (ns:List Str) (ts:List OT)
inductive Ow where
 |rows (CS:List (List D))
 |G3 (p:Nat) (ds:List D)
 |tree (p:Option Nat) (t:OT)
inductive Cl where
 |val (d:D)|own (ds:List D)|ow (o:Ow)
noncomputable abbrev A6:=List (Option Cl)
inductive M (α:Type) where
 |ok (a:α)|ex (c:Str)|bad
noncomputable def M.bind {α β:Type}(m:M α)(k:α->M β):M β:=match m with
 | .ok a=>k a
 | .ex c=>.ex c
 | .bad=>.bad
@[simp] theorem M.A7 {α β:Type}(a:α) (k:α->M β):(M.ok a).bind k=k a:=rfl
noncomputable def del (H:Hp)(P:Addr->Prop):Hp:=λ a=>open Classical in if P a then none else H a
theorem Ao {H:Hp}{P:Addr->Prop}{a:Addr}(h:¬ P a):del H P a=H a:=by unfold del;rw[if_neg h]
theorem Eg {H:Hp}{P:Addr->Prop}{a:Addr}(h:P a):del H P a=none:=by unfold del;rw[if_pos h]
theorem Ag {H:Hp}{P:Addr->Prop}{a:Addr}{o:HO}(h:del H P a=some o):¬ P a/\H a=some o:=by
 by_cases hp:P a
 ·rw[Eg hp] at h;cases h
 ·rw[Ao hp] at h;exact⟨hp,h⟩
theorem Rd.AZ {H:Hp}{P:Addr->Prop}{a:Addr}{u:HO}(r:Rd (del H P) a u):Rd H a u:=r.elim (λ h=>.inl (Ag h).2) λ⟨o,h⟩=>.inr ⟨o,(Ag h).2⟩
theorem A9.del {H H':Hp}{P:Addr->Prop}(e:A9 H H'):A9 (del H P) (del H' P):=λ b o h=>by
 obtain⟨h1,h2⟩:=Ag h;rw[Ao h1];exact e b o h2
theorem Bf {H:Hp}{P P':Addr->Prop}(h:∀a,P' a->P a):A9 (L2.del H P) (L2.del H P'):=λ b o e=>by
 obtain⟨h1,h2⟩:=Ag e;rw[Ao λ z=>h1 (h b z)];exact h2
theorem Bw {H:Hp}{P:Addr->Prop}:A9 (L2.del H P) H:=λ b o e=>(Ag e).2
def Cd (H:Hp)(a:Addr):Prop:=∃o,H a=some o/\∀xs,o≠.tup xs/\∀z,o≠.Cn z (.tup xs)
theorem Cd.same {H H':Hp}{a:Addr}(h:Cd H a)(e:A9 H H'):Cd H' a:=let ⟨o,q,r⟩:=h;⟨o,e a o q,r⟩
theorem Cd.no {H:Hp}{a:Addr}(h:Cd H a)(e:H a=none):False:=by
 obtain⟨o,q,r⟩:=h;rw[e] at q;cases q
theorem Cd.lst {H:Hp}{a:Addr}{xs:List V}(h:H a=some (.lst xs)):Cd H a:=⟨_,h,λ _=>⟨λ z=>(by cases z),λ _ z=>by cases z⟩⟩
mutual
inductive AY (K:zc) (H:Hp) (P:Addr->Prop):V->OT->List Addr->Prop
 |sh {v d}:AW K (del H P) v d->AY K H P v (.sh d) []
 |lst {p xs ts fp}:H p=some (.lst xs)->Ak K H P xs ts fp->AY K H P (.ref p) (.lst ts) (p::fp)
 |tup {p xs ts fp}:del H P p=some (.tup xs)->Ak K H P xs ts fp->AY K H P (.ref p) (.tup ts) fp
 |dK {p kvs ts fp}:H p=some (.dK kvs)->Ak K H P (kvs.map yg) ts fp->AY K H P (.ref p) (.AS false (kvs.map λ kv=>Be kv.1) ts) (p::fp)
 |dT {p kvs ts fp}:H p=some (.dT kvs)->Ak K H P (kvs.map yg) ts fp->AY K H P (.ref p) (.AS true (kvs.map λ kv=>.tup (kv.1.map Be)) ts) (p::fp)
 |ins {p C dx fs ts fp x}:zi K mainGlobals x=some (some (.ref C))->H p=some (.ins C dx fs)->Ak K H P (fs.map yg) ts fp->AY K H P (.ref p) (.ins x (fs.map zF) ts) (p::fp)
inductive Ak (K:zc) (H:Hp) (P:Addr->Prop):List V->List OT->List Addr->Prop
 |nil:Ak K H P [] [] []
 |cons {v t fp vs ts fq}:AY K H P v t fp->Ak K H P vs ts fq->Ak K H P (v::vs) (t::ts) (fp++fq)
end
mutual
noncomputable def er:OT->D
 | .sh d=>d
 | .lst ts=>.lst (OY ts)
 | .tup ts=>.tup (OY ts)
 | .AS t ks ts=>.AS t ks (OY ts)
 | .ins x ns ts=>.ins x ns (OY ts)
noncomputable def OY:List OT->List D
 |[]=>[]
 |t::r=>er t::OY r
end
mutual
theorem AY.move {K:zc}{H H':Hp}{P P':Addr->Prop}(sm:A9 (del H P) (del H' P')):∀ {v:V}{t:OT}{fp:List Addr},(∀a∈fp,H' a=H a)->AY K H P v t fp->AY K H' P' v t fp
 |_,_,_,_,.sh h=>.sh (h.mono sm)
 |_,_,_,k,.lst h r=>.lst ((k _ zd).trans h) (Ak.move sm (λ a ha=>k a (zf _ ha)) r)
 |_,_,_,k,.tup h r=>.tup (sm _ _ h) (Ak.move sm k r)
 |_,_,_,k,.dK h r=>.dK ((k _ zd).trans h) (Ak.move sm (λ a ha=>k a (zf _ ha)) r)
 |_,_,_,k,.dT h r=>.dT ((k _ zd).trans h) (Ak.move sm (λ a ha=>k a (zf _ ha)) r)
 |_,_,_,k,.ins n h r=>.ins n ((k _ zd).trans h) (Ak.move sm (λ a ha=>k a (zf _ ha)) r)
theorem Ak.move {K:zc}{H H':Hp}{P P':Addr->Prop}(sm:A9 (del H P) (del H' P')):∀ {v:List V}{t:List OT}{fp:List Addr},(∀a∈fp,H' a=H a)->Ak K H P v t fp->Ak K H' P' v t fp
 |_,_,_,_,.nil=>.nil
 |_,_,_,k,.cons h r=>.cons (AY.move sm (λ a ha=>k a (zB _ ha)) h) (Ak.move sm (λ a ha=>k a (zg _ ha)) r)
end
mutual
theorem AY.BG {K:zc}{H:Hp}{P:Addr->Prop}:∀ {v:V}{t:OT}{fp:List Addr},AY K H P v t fp->∀a∈fp,Cd H a
 |_,_,_,.sh h,a,ha=>by cases ha
 |_,_,_,.lst h r,a,ha=>by
  rcases zo.mp ha with rfl|ha
  ·exact .lst h
  ·exact Ak.BG r a ha
 |_,_,_,.tup h r,a,ha=>Ak.BG r a ha
 |_,_,_,.dK h r,a,ha=>by
  rcases zo.mp ha with rfl|ha
  ·exact⟨_,h,λ _=>⟨λ z=>(by cases z),λ _ z=>by cases z⟩⟩
  ·exact Ak.BG r a ha
 |_,_,_,.dT h r,a,ha=>by
  rcases zo.mp ha with rfl|ha
  ·exact⟨_,h,λ _=>⟨λ z=>(by cases z),λ _ z=>by cases z⟩⟩
  ·exact Ak.BG r a ha
 |_,_,_,.ins n h r,a,ha=>by
  rcases zo.mp ha with rfl|ha
  ·exact⟨_,h,λ _=>⟨λ z=>(by cases z),λ _ z=>by cases z⟩⟩
  ·exact Ak.BG r a ha
theorem Ak.BG {K:zc}{H:Hp}{P:Addr->Prop}:∀ {v:List V}{t:List OT}{fp:List Addr},Ak K H P v t fp->∀a∈fp,Cd H a
 |_,_,_,.nil,a,ha=>by cases ha
 |_,_,_,.cons h r,a,ha=>by
  rcases zE.mp ha with ha|ha
  ·exact AY.BG h a ha
  ·exact Ak.BG r a ha
end
mutual
theorem AY.Bg {K:zc}{H:Hp}{P P':Addr->Prop}:∀ {v:V}{t:OT}{fp ae:List Addr},AY K H P v t fp->AY K H P' v t ae->fp=ae
 |_,_,_,_,.sh _,.sh _=>rfl
 |_,_,_,_,.lst h r,.lst h' r'=>by
  rw[h] at h';cases h';rw[Ak.Bg r r']
 |_,_,_,_,.tup h r,.tup h' r'=>by
  have e:=(Ag h).2.symm.trans (Ag h').2;cases e;exact Ak.Bg r r'
 |_,_,_,_,.dK (kvs:=kvs) (ts:=ts) h r,x=>by
  generalize ht:OT.AS false (kvs.map λ kv=>Be kv.1) ts=t at x;cases x with
  |dK h' r' =>
   rw[h] at h';cases h';injection ht with _ _ e
   subst e;rw[Ak.Bg r r']
  |dT h' r'=>rw[h] at h';cases h'
  |_=>cases ht
 |_,_,_,_,.dT (kvs:=kvs) (ts:=ts) h r,x=>by
  generalize ht:OT.AS true (kvs.map λ kv=>D.tup (kv.1.map Be)) ts=t at x;cases x with
  |dT h' r' =>
   rw[h] at h';cases h';injection ht with _ _ e
   subst e;rw[Ak.Bg r r']
  |dK h' r'=>rw[h] at h';cases h'
  |_=>cases ht
 |_,_,_,_,.ins (fs:=fs) (ts:=ts) (x:=y) n h r,x=>by
  generalize ht:OT.ins y (fs.map zF) ts=t at x;cases x with
  |ins n' h' r' =>
   rw[h] at h';cases h';injection ht with _ _ e
   subst e;rw[Ak.Bg r r']
  |_=>cases ht
theorem Ak.Bg {K:zc}{H:Hp}{P P':Addr->Prop}:∀ {v:List V}{t:List OT}{fp ae:List Addr},Ak K H P v t fp->Ak K H P' v t ae->fp=ae
 |_,_,_,_,.nil,.nil=>rfl
 |_,_,_,_,.cons h r,.cons h' r'=>by rw[AY.Bg h h',Ak.Bg r r']
end
mutual
theorem AY.has {K:zc}{H:Hp}{P P0:Addr->Prop}(hs:∀a,P0 a->P a):∀ {v:V}{t:OT}{fp:List Addr},(∀a∈fp,¬ P0 a)->AY K H P v t fp->AW K (del H P0) v (er t)
 |_,_,_,_,.sh h=>by rw[er];exact h.mono (Bf hs)
 |_,_,_,k,.lst h r=>by rw[er];exact .lst (.of (show del H P0 _=_ by rw[Ao (k _ zd)];exact h)) (Ak.has hs (λ a ha=>k a (zf _ ha)) r)
 |_,_,_,k,.tup h r=>by rw[er];exact .tup (Bf hs _ _ h) (Ak.has hs k r)
 |_,_,_,k,.dK h r=>by rw[er];exact .E5 (.inl (show del H P0 _=_ by rw[Ao (k _ zd)];exact h)) (Ak.has hs (λ a ha=>k a (zf _ ha)) r)
 |_,_,_,k,.dT h r=>by rw[er];exact .D2 (.inl (show del H P0 _=_ by rw[Ao (k _ zd)];exact h)) (Ak.has hs (λ a ha=>k a (zf _ ha)) r)
 |_,_,_,k,.ins n h r=>by rw[er];exact .ins n (show del H P0 _=_ by rw[Ao (k _ zd)];exact h) (Ak.has hs (λ a ha=>k a (zf _ ha)) r)
theorem Ak.has {K:zc}{H:Hp}{P P0:Addr->Prop}(hs:∀a,P0 a->P a):∀ {v:List V}{t:List OT}{fp:List Addr},(∀a∈fp,¬ P0 a)->Ak K H P v t fp->Ab K (del H P0) v (OY t)
 |_,_,_,_,.nil=>by rw[OY];exact .nil
 |_,_,_,k,.cons h r=>by rw[OY];exact .cons (AY.has hs (λ a ha=>k a (zB _ ha)) h) (Ak.has hs (λ a ha=>k a (zg _ ha)) r)
end
inductive Bh (K:zc) (H:Hp) (P:Addr->Prop):List Addr->List (List D)->Prop
 |nil:Bh K H P [] []
 |cons {q:Addr} {xs:List V} {ds:List D} {ps:List Addr} {CS:List (List D)}:H q=some (.lst xs)->Ab K (del H P) xs ds->Bh K H P ps CS->Bh K H P (q::ps) (ds::CS)
def Bm (K:zc)(H:Hp)(P:Addr->Prop):Cl->V->List Addr->Prop
 | .own ds,v,fp=>∃p xs,v=.ref p/\fp=[p]/\H p=some (.lst xs)/\Ab K (del H P) xs ds
 | .ow (.rows CS),v,fp=>∃p ps,v=.ref p/\fp=p::ps/\H p=some (.lst (ps.map V.ref))/\Bh K H P ps CS
 | .ow (.G3 _ ds),v,fp=>∃p xs,v=.ref p/\fp=[p]/\H p=some (.lst xs)/\Ab K (del H P) xs ds
 | .ow (.tree _ t),v,fp=>AY K H P v t fp
 | .val _,_,_=>False
noncomputable def D5:Cl->Bool
 | .val _=>false
 |_=>true
theorem Bh.move {K:zc}{H H':Hp}{P P':Addr->Prop}(sm:A9 (del H P) (del H' P')):∀ {ps:List Addr}{CS:List (List D)},(∀a∈ps,H' a=H a)->Bh K H P ps CS->Bh K H' P' ps CS
 |_,_,_,.nil=>.nil
 |_,_,k,.cons h r t=>.cons ((k _ zd).trans h) (r.mono sm) (Bh.move sm (λ a ha=>k a (zf _ ha)) t)
theorem Bh.at {K:zc}{H:Hp}{P:Addr->Prop}:∀ {ps:List Addr}{CS:List (List D)},Bh K H P ps CS->∀a∈ps,∃xs,H a=some (.lst xs)
 |_,_,.nil,a,h=>by cases h
 |_,_,.cons h r t,a,ha=>by
  rcases zo.mp ha with rfl|ha
  ·exact⟨_,h⟩
  ·exact t.at a ha
theorem KD:∀ {ps qs:List Addr},ps.map V.ref=qs.map V.ref->ps=qs
 |[],[],_=>rfl
 |[],_::_,h|_::_,[],h=>by cases h
 |p::ps,q::qs,h=>by
  rw[zj,zj] at h;injection h with h1 h2
  injection h1 with h1
  rw[h1,KD h2]
theorem Bm.move {K:zc}{H H':Hp}{P P':Addr->Prop}(sm:A9 (del H P) (del H' P')){c:Cl}{v:V}{fp:List Addr}(k:∀a∈fp,H' a=H a)(h:Bm K H P c v fp):Bm K H' P' c v fp:=by
 cases c with
 |val d=>exact h
 |own ds =>
  obtain⟨p,xs,rfl,rfl,h1,h2⟩:=h;exact⟨p,xs,rfl,rfl,(k p zd).trans h1,h2.mono sm⟩
 |ow o =>
  cases o with
  |rows CS =>
   obtain⟨p,ps,rfl,rfl,h1,h2⟩:=h;exact⟨p,ps,rfl,rfl,(k p zd).trans h1,h2.move sm λ a ha=>k a (zf _ ha)⟩
  |G3 p ds =>
   obtain⟨p,xs,rfl,rfl,h1,h2⟩:=h;exact⟨p,xs,rfl,rfl,(k p zd).trans h1,h2.mono sm⟩
  |tree p t=>exact AY.move sm k h
theorem Bm.at {K:zc}{H:Hp}{P:Addr->Prop}{c:Cl}{v:V}{fp:List Addr}(h:Bm K H P c v fp):∀a∈fp,∃o,H a=some o:=by
 cases c with
 |val d=>exact h.elim
 |own ds =>
  obtain⟨p,xs,rfl,rfl,h1,h2⟩:=h;exact λ a ha=>⟨.lst xs,by rw[zl.mp ha];exact h1⟩
 |ow o =>
  cases o with
  |rows CS =>
   obtain⟨p,ps,rfl,rfl,h1,h2⟩:=h;intro a ha;rcases zo.mp ha with rfl|ha
   ·exact⟨_,h1⟩
   ·obtain⟨xs,q⟩:=h2.at a ha;exact⟨_,q⟩
  |G3 p ds =>
   obtain⟨p,xs,rfl,rfl,h1,h2⟩:=h;exact λ a ha=>⟨.lst xs,by rw[zl.mp ha];exact h1⟩
  |tree p t =>
   intro a ha;obtain⟨o,q,_⟩:=AY.BG h a ha;exact⟨o,q⟩
theorem Bm.same {K:zc}{H H':Hp}{P:Addr->Prop}(e:A9 H H'){c:Cl}{v:V}{fp:List Addr}(h:Bm K H P c v fp):Bm K H' P c v fp:=
 h.move e.del λ a ha=>by obtain⟨xs,q⟩:=h.at a ha;rw[q];exact e _ _ q
theorem Bm.Bg {K:zc}{H:Hp}{P P':Addr->Prop}{c:Cl}{v:V}{fp ae:List Addr}(h:Bm K H P c v fp)(h':Bm K H P' c v ae):fp=ae:=by
 cases c with
 |val d=>exact h.elim
 |own ds =>
  obtain⟨p,xs,rfl,rfl,h1,h2⟩:=h;obtain⟨p',ar,e,rfl,dq,ei⟩:=h';cases e;rfl
 |ow o =>
  cases o with
  |rows CS =>
   obtain⟨p,ps,rfl,rfl,h1,h2⟩:=h;obtain⟨p',jm,e,rfl,dq,ei⟩:=h';cases e;rw[h1] at dq;injection dq with e
   injection e with e
   rw[KD e]
  |G3 p ds =>
   obtain⟨p,xs,rfl,rfl,h1,h2⟩:=h;obtain⟨p',ar,e,rfl,dq,ei⟩:=h';cases e;rfl
  |tree p t=>exact AY.Bg h h'
structure BO where
 pr:Addr->Prop
 g:Nat->Addr
instance:CoeFun BO (λ _=>Addr->Prop):=⟨BO.pr⟩
instance:Coe BO (Addr->Prop):=⟨BO.pr⟩
noncomputable def II:Cl->Option Nat
 | .ow (.G3 n _)=>some n
 | .ow (.tree (some n) _)=>some n
 |_=>none
structure Ac (K:zc)(P0:BO)(P:Addr->Prop)(H:Hp)(σ:St)(ρ:A6):Prop where
 sub:∀a,P0 a->P a
 BG:∀a,P a->Cd H a
 val:∀(i:Nat) d,ρ[i]?=some (some (.val d))->∃v,σ[i]?=some (some v)/\AW K (del H P) v d
 ows:∀(i:Nat) c,ρ[i]?=some (some c)->D5 c=true->∃v fp,σ[i]?=some (some v)/\Bm K H P c v fp/\(∀a∈fp,P a/\¬ P0 a)/\fp.Nodup
 apart:∀(i j:Nat) c c' v v' fp ae,ρ[i]?=some (some c)->ρ[j]?=some (some c')->σ[i]?=some (some v)->σ[j]?=some (some v')->Bm K H P c v fp->Bm K H P c' v' ae->i≠j->∀a∈fp,a∉ae
 len:σ.length=ρ.length
 pin:∀(i:Nat) c n,ρ[i]?=some (some c)->II c=some n->σ[i]?=some (some (.ref (P0.g n)))
theorem Ac.own {K:zc}{P0:BO}{P:Addr->Prop}{H:Hp}{σ:St}{ρ:A6}(E:Ac K P0 P H σ ρ)(i:Nat)(ds:List D)(h:ρ[i]?=some (some (.own ds))):
 ∃p xs,σ[i]?=some (some (.ref p))/\H p=some (.lst xs)/\P p/\¬ P0 p/\Ab K (del H P) xs ds:=by
 obtain⟨v,fp,h1,⟨p,xs,rfl,rfl,h2,h3⟩,h4,_⟩:=E.ows i _ h rfl;exact⟨p,xs,h1,h2,(h4 p zd).1,(h4 p zd).2,h3⟩
theorem Ac.OZ {K:zc}{P0:BO}{P P':Addr->Prop}{H H':Hp}{σ:St}{ρ:A6}(E:Ac K P0 P H σ ρ)(sm:A9 (del H P) (del H' P')){i j:Nat}{c c':Cl}{v v':V}{fp ae:List Addr}
 (ki:∀v fp,σ[i]?=some (some v)->Bm K H P c v fp->∀a∈fp,H' a=H a) (kj:∀v fp,σ[j]?=some (some v)->Bm K H P c' v fp->∀a∈fp,H' a=H a)
 (hi:ρ[i]?=some (some c)) (hj:ρ[j]?=some (some c')) (si:σ[i]?=some (some v)) (sj:σ[j]?=some (some v')) (h:Bm K H' P' c v fp) (h':Bm K H' P' c' v' ae) (ac:i≠j):∀a∈fp,a∉ae:=by
 have key:∀(k:Nat) (d:Cl) (w:V) (fq:List Addr),ρ[k]?=some (some d)->σ[k]?=some (some w)->(∀v fp,σ[k]?=some (some v)->Bm K H P d v fp->∀a∈fp,H' a=H a)->Bm K H' P' d w fq->Bm K H P d w fq:=λ k d w fq hk sk kk ho=>by
  have io:D5 d=true:=by cases d<;>first|rfl|exact ho.elim
  obtain⟨w',aN,s2,o2,_⟩:=E.ows k d hk io;rw[sk] at s2;cases s2;have o3:=o2.move sm (kk _ _ sk o2);rw[ho.Bg o3];exact o2
 exact E.apart i j c c' v v' fp ae hi hj si sj (key i c v fp hi si ki h) (key j c' v' ae hj sj kj h') ac
theorem Ac.same {K:zc}{P0:BO}{P:Addr->Prop}{H H':Hp}{σ:St}{ρ:A6}(E:Ac K P0 P H σ ρ)(e:A9 H H'):Ac K P0 P H' σ ρ:=
 ⟨E.sub,λ a h=>(E.BG a h).same e,λ i d h=>let ⟨v,h1,h2⟩:=E.val i d h;⟨v,h1,h2.mono e.del⟩,
  λ i c h io=>let ⟨v,fp,h1,h2,h3,h4⟩:=E.ows i c h io;⟨v,fp,h1,h2.same e,h3,h4⟩,
  λ i j c c' v v' fp ae hi hj si sj h h' ac=>E.OZ e.del (λ v fp _ o a ha=>by obtain⟨xs,q⟩:=o.at a ha;rw[q];exact e _ _ q) (λ v fp _ o a ha=>by obtain⟨xs,q⟩:=o.at a ha;rw[q];exact e _ _ q) hi hj si sj h h' ac,E.len,E.pin⟩
def gV (K:zc)(WX:Str->Hp->Prop)(P:Addr->Prop)(H:Hp)(Q:VK):M D->Prop
 | .ok d=>∀v H',A9 H H'->AW K (del H' P) v d->Q v H'
 | .ex x=>∀H',A9 H H'->WX x H'
 | .bad=>False
def gA (K:zc)(WX:Str->Hp->Prop)(P:Addr->Prop)(H:Hp)(Q:List V->Hp->Prop):M (List D)->Prop
 | .ok d=>∀v H',A9 H H'->Ab K (del H' P) v d->Q v H'
 | .ex x=>∀H',A9 H H'->WX x H'
 | .bad=>False
def gT (WX:Str->Hp->Prop)(H:Hp)(Q:Bool->Hp->Prop):M Bool->Prop
 | .ok b=>∀H',A9 H H'->Q b H'
 | .ex x=>∀H',A9 H H'->WX x H'
 | .bad=>False
section
variable {K:zc}{WX:Str->Hp->Prop}{P:Addr->Prop}{H H':Hp}
theorem gV.same {Q:VK}{m:M D}(h:gV K WX P H Q m)(e:A9 H H'):gV K WX P H' Q m:=by
 cases m with
 |ok d=>exact λ v H2 q hv=>h v H2 (e.trans q) hv
 |ex x=>exact λ H2 q=>h H2 (e.trans q)
 |bad=>exact h
theorem gA.same {Q:List V->Hp->Prop}{m:M (List D)}(h:gA K WX P H Q m)(e:A9 H H'):gA K WX P H' Q m:=by
 cases m with
 |ok d=>exact λ v H2 q hv=>h v H2 (e.trans q) hv
 |ex x=>exact λ H2 q=>h H2 (e.trans q)
 |bad=>exact h
theorem gT.same {Q:Bool->Hp->Prop}{m:M Bool}(h:gT WX H Q m)(e:A9 H H'):gT WX H' Q m:=by
 cases m with
 |ok d|ex x=>exact λ H2 q=>h H2 (e.trans q)
 |bad=>exact h
end
def Lv (c:Bool)(P0:BO)(P:Addr->Prop):Addr->Prop:=if c=true then P else P0.pr
def DE (X:Cx)(WX:Str->Hp->Prop)(c:Bool)(e:Expr)(f:A6->M D):Prop:=
 ∃t,PE X e t/\∀P0 P σ H Q ρ,Ac X.K P0 P H σ ρ->gV X.K WX (Lv c P0 P) H Q (f ρ)->t σ H Q
def DA (X:Cx)(WX:Str->Hp->Prop)(c:Bool)(es:List Expr)(f:A6->M (List D)):Prop:=
 ∃t,PA X es t/\(∀P0 P σ H Q ρ,Ac X.K P0 P H σ ρ->gA X.K WX (Lv c P0 P) H Q (f ρ)->t σ H Q)/\∀ρ ds,f ρ=.ok ds->ds.length=es.length
def DT (X:Cx)(WX:Str->Hp->Prop)(e:Expr)(f:A6->M Bool):Prop:=
 ∃t,PT X e t/\∀P0 P σ H Q ρ,Ac X.K P0 P H σ ρ->gT WX H Q (f ρ)->t σ H Q
def DW (X:Cx)(WX:Str->Hp->Prop)(e:Expr)(f:A6->M Bool):Prop:=
 ∃t,PW X e t/\∀P0 P σ H Q ρ,Ac X.K P0 P H σ ρ->gT WX H Q (f ρ)->t σ H Q
theorem DW.dt {X:Cx}{WX:Str->Hp->Prop}{e:Expr}{f:A6->M Bool}(h:DW X WX e f):DT X WX e f:=let ⟨t,h1,h2⟩:=h;⟨t,h1.pt,h2⟩
section
variable {X:Cx}{WX:Str->Hp->Prop}{c:Bool}{P0:BO}{P:Addr->Prop}{H:Hp}{σ:St}{ρ:A6}
theorem Ac.lv (E:Ac X.K P0 P H σ ρ)(c:Bool):∀a,Lv c P0 P a->P a:=λ a h=>by
 cases c with
 |true=>exact h
 |false=>exact E.sub a h
theorem Ac.W4 (E:Ac X.K P0 P H σ ρ)(c:Bool):∀a,Lv c P0 P a->Cd H a:=λ a h=>E.BG a (E.lv c a h)
theorem P5 {e:Expr}{f:A6->M D}(h:DE X WX true e f):DE X WX false e f:=by
 obtain⟨t,h1,h2⟩:=h;refine⟨t,h1,λ P0 P σ H Q ρ E g=>h2 P0 P σ H Q ρ E ?_⟩;cases e:f ρ with
 |ok d=>rw[e] at g;exact λ v H' s hv=>g v H' s (hv.mono (Bf E.sub))
 |ex x|bad=>rw[e] at g;exact g
noncomputable def W5:D->Bool
 | .tup _ | .lst _ | .BY _ | .AS _ _ _ | .ins _ _ _=>false
 |_=>true
noncomputable def fl (m:M D):M D:=m.bind λ d=>if W5 d=true then .ok d else .bad
noncomputable def rv (i:Nat)(ρ:A6):M D:=match ρ[i]? with | some (some (.val d))=>.ok d | _=>.bad
theorem A1 (i:Nat){x:Str}{pos:Pos}(h:PE X (.Name x pos) (Nt i)):DE X WX true (.Name x pos) (rv i):=by
 refine⟨_,h,λ P0 P σ H Q ρ E g=>?_⟩;unfold rv at g;split at g
 ·rename_i d e;obtain⟨v,h1,h2⟩:=E.val i d e;exact⟨v,h1,g v H (A9.refl H) h2⟩
 ·exact g.elim
theorem A8 {i j pos}:DE X WX c (.Constant (.int i) j pos) (λ _=>.ok (.int i)):=⟨_,SX,λ P0 P σ H Q ρ E g=>g _ H (A9.refl H) (.int i)⟩
theorem IJ {b j pos}:DE X WX c (.Constant (.bool b) j pos) (λ _=>.ok (.bl b)):=⟨_,Vs,λ P0 P σ H Q ρ E g=>g _ H (A9.refl H) (.bl b)⟩
theorem GA {j pos}:DE X WX c (.Constant .none j pos) (λ _=>.ok .Aw):=⟨_,SY,λ P0 P σ H Q ρ E g=>g _ H (A9.refl H) .Aw⟩
def LQ (K:zc)(WX:Str->Hp->Prop)(r:R2)(a5:D->D->M D):Prop:=
 ∀(P:Addr->Prop) (H:Hp) (x y:D) (v w:V) (Q:VK),(∀a,P a->Cd H a)->AW K (del H P) v x->AW K (del H P) w y->gV K WX P H Q (a5 x y)->r v w H Q
variable {a b:Expr}{f g:A6->M D}{pos:Pos}
theorem KG {ta tb:TE}{r:R2}{a5:D->D->M D}(ha:∀P0 P σ H Q ρ,Ac X.K P0 P H σ ρ->gV X.K WX (Lv c P0 P) H Q (f ρ)->ta σ H Q)(hb:∀P0 P σ H Q ρ,Ac X.K P0 P H σ ρ->gV X.K WX (Lv c P0 P) H Q (g ρ)->tb σ H Q)
 (hr:LQ X.K WX r a5) {Q:VK} (E:Ac X.K P0 P H σ ρ) (h:gV X.K WX (Lv c P0 P) H Q ((f ρ).bind λ x=>(g ρ).bind λ y=>a5 x y)):VF r ta tb σ H Q:=by
 refine ha P0 P σ H _ ρ E ?_;cases e:f ρ with
 |bad|ex x=>rw[e] at h;exact h
 |ok x =>
  rw[e] at h;intro v H1 s1 hv;refine hb P0 P σ H1 _ ρ (E.same s1) ?_;cases e2:g ρ with
  |bad=>rw[e2] at h;exact h
  |ex y=>rw[e2] at h;exact gV.same (m:=.ex y) h s1
  |ok y =>
   rw[e2] at h;intro w H2 s2 hw;exact hr _ H2 x y v w Q (λ a q=>((E.same s1).same s2).W4 c a q) (hv.mono s2.del) hw ((gV.same h s1).same s2)
theorem IK {op:Operator}{r:R2}{a5:D->D->M D}(ho:Ex X (binaryOp op) r)(hr:LQ X.K WX r a5)(ha:DE X WX c a f)(hb:DE X WX c b g):DE X WX c (.BinOp a op b pos) (λ ρ=>(f ρ).bind λ x=>(g ρ).bind λ y=>a5 x y):=by
 obtain⟨ta,a1,a2⟩:=ha;obtain⟨tb,b1,b2⟩:=hb;exact⟨_,VG ho a1 b1,λ P0 P σ H Q ρ E h=>KG a2 b2 hr E h⟩
theorem LR {op:CmpOp}{r:R2}{a5:D->D->M D}(ho:Ex X (compareOp op) r)(hr:LQ X.K WX r a5)(ha:DE X WX c a f)(hb:DE X WX c b g)(hm:behindInMarks op b=false):DE X WX c (.Compare a [op] [b] pos) (λ ρ=>(f ρ).bind λ x=>(g ρ).bind λ y=>a5 x y):=by
 obtain⟨ta,a1,a2⟩:=ha;obtain⟨tb,b1,b2⟩:=hb;exact⟨_,R9 ho a1 b1 hm,λ P0 P σ H Q ρ E h=>KG a2 b2 hr E h⟩
theorem W6 {r:R2}{a5:D->D->M D}(ho:Ri X r)(hr:LQ X.K WX r a5)(ha:DE X WX c a f)(hb:DE X WX c b g)(hs:Jd b):DE X WX c (.Subscript a b pos) (λ ρ=>(f ρ).bind λ x=>(g ρ).bind λ y=>a5 x y):=by
 obtain⟨ta,a1,a2⟩:=ha;obtain⟨tb,b1,b2⟩:=hb;exact⟨_,VS ho a1 b1 hs,λ P0 P σ H Q ρ E h=>KG a2 b2 hr E h⟩
noncomputable def AQ (k:Int->Int->M D)(x y:D):M D:=match x,y with | .int i,.int j=>k i j | _,_=>.bad
theorem AW.int_inv {K:zc}{H:Hp}{v:V}{i:Int}(h:AW K H v (.int i)):v=.int i:=by cases h;rfl
theorem AW.GB {K:zc}{H:Hp}{v:V}{i:Bool}(h:AW K H v (.bl i)):v=.bl i:=by cases h;rfl
theorem Jk {C:Int->Int->Prop}{gv:Int->Int->V}{gd:Int->Int->D}[∀i j,Decidable (C i j)](hg:∀i j K H,AW K H (gv i j) (gd i j)):LQ X.K WX (rI C gv) (AQ λ i j=>if C i j then .ok (gd i j) else .bad):=by
 intro P H x y v w Q ht hx hy h;unfold AQ at h;split at h
 ·rename_i i j;rw[hx.int_inv,hy.int_inv];dsimp only at h;by_cases hc:C i j
  ·rw[if_pos hc] at h;exact⟨i,j,rfl,rfl,hc,h _ H (A9.refl H) (hg i j _ _)⟩
  ·rw[if_neg hc] at h;exact h.elim
 ·exact h.elim
theorem Jl {gv:Int->Int->V}{gd:Int->Int->D}(hg:∀i j K H,AW K H (gv i j) (gd i j)):LQ X.K WX (Vd gv) (AQ λ i j=>.ok (gd i j)):=by
 intro P H x y v w Q ht hx hy h;unfold AQ at h;split at h
 ·rename_i i j;rw[hx.int_inv,hy.int_inv];exact⟨i,j,rfl,rfl,h _ H (A9.refl H) (hg i j _ _)⟩
 ·exact h.elim
instance (i j:Int):Decidable (Ko i j):=by unfold Ko;infer_instance
instance (i j:Int):Decidable (R7 i j):=by unfold R7;infer_instance
instance (i j:Int):Decidable (OD i j):=by unfold OD;infer_instance
noncomputable def P6:=AQ λ i j=>.ok (.int (i+j))
noncomputable def Tx:=AQ λ i j=>.ok (.int (i-j))
noncomputable def Eh:=AQ λ i j=>if 0<j then .ok (.int (i%j)) else .bad
noncomputable def IL:=AQ λ i j=>if Ko i j then .ok (.int (i / j)) else .bad
noncomputable def Tz:=AQ λ i j=>if R7 i j then .ok (.int (i^j.toNat)) else .bad
noncomputable def Yw:=AQ λ i j=>.ok (.bl (decide (i<j)))
noncomputable def Yx:=AQ λ i j=>.ok (.bl (decide (i<=j)))
noncomputable def Y7:=AQ λ i j=>.ok (.bl (decide (j<i)))
noncomputable def Yy:=AQ λ i j=>.ok (.bl (decide (j<=i)))
theorem Bo (ha:DE X WX c a f)(hb:DE X WX c b g):DE X WX c (.BinOp a .Add b pos) (λ ρ=>(f ρ).bind λ x=>(g ρ).bind λ y=>P6 x y):=IK Tb (Jl λ _ _ _ _=>.int _) ha hb
theorem TB (ha:DE X WX c a f)(hb:DE X WX c b g):DE X WX c (.BinOp a .Sub b pos) (λ ρ=>(f ρ).bind λ x=>(g ρ).bind λ y=>Tx x y):=IK Tc (Jl λ _ _ _ _=>.int _) ha hb
theorem B4 (ha:DE X WX c a f)(hb:DE X WX c b g):DE X WX c (.BinOp a .Mod b pos) (λ ρ=>(f ρ).bind λ x=>(g ρ).bind λ y=>Eh x y):=IK Td (Jk λ _ _ _ _=>.int _) ha hb
theorem G4 (ha:DE X WX c a f)(hb:DE X WX c b g):DE X WX c (.BinOp a .FloorDiv b pos) (λ ρ=>(f ρ).bind λ x=>(g ρ).bind λ y=>IL x y):=IK R8 (Jk λ _ _ _ _=>.int _) ha hb
theorem LS (ha:DE X WX c a f)(hb:DE X WX c b g):DE X WX c (.BinOp a .Pow b pos) (λ ρ=>(f ρ).bind λ x=>(g ρ).bind λ y=>Tz x y):=IK Te (Jk λ _ _ _ _=>.int _) ha hb
noncomputable def Sv (n:Nat)(x y:D):M D:=if E9 x<=n/\Am x=true/\Am y=true then .ok (.bl (Aj x y)) else .bad
noncomputable def Ve (n:Nat)(x y:D):M D:=if E9 x<=n/\Am x=true/\Am y=true then .ok (.bl (!Aj x y)) else .bad
theorem P7 {n:Nat}(hu:X.A.units+n<cLine):LQ X.K WX (Rz X.K X.A false) (Sv n):=by
 intro P H x y v w Q ht hx hy h;unfold Sv at h;by_cases hd:E9 x<=n/\Am x=true/\Am y=true
 ·rw[if_pos hd] at h;exact⟨x,y,hx.mono Bw,hy.mono Bw,by omega,hd.2.1,hd.2.2,h _ H (A9.refl H) (.bl _)⟩
 ·rw[if_neg hd] at h;exact h.elim
theorem TC {n:Nat}(hu:X.A.units+n<cLine):LQ X.K WX (Rz X.K X.A true) (Ve n):=by
 intro P H x y v w Q ht hx hy h;unfold Ve at h;by_cases hd:E9 x<=n/\Am x=true/\Am y=true
 ·rw[if_pos hd] at h;exact⟨x,y,hx.mono Bw,hy.mono Bw,by omega,hd.2.1,hd.2.2,h _ H (A9.refl H) (.bl _)⟩
 ·rw[if_neg hd] at h;exact h.elim
theorem W7 {n:Nat}(hu:X.A.units+n<cLine)(ha:DE X WX c a f)(hb:DE X WX c b g):DE X WX c (.Compare a [.Eq] [b] pos) (λ ρ=>(f ρ).bind λ x=>(g ρ).bind λ y=>Sv n x y):=LR OX (P7 hu) ha hb (CW _)
noncomputable def D6:D->Bool
 | .Aw=>true
 |_=>false
theorem AW.Y8 {K:zc}{H:Hp}{v:V}{d:D}(h:AW K H v d):decide (v=.Aw)=D6 d:=by
 cases h<;>simp[D6]
noncomputable def XG (x y:D):M D:=match x,y with
 | .tup ds,.int i| .lst ds,.int i=>(match Of ds i with|some d=>.ok d|none=>.bad)
 |_,_=>.bad
theorem Ab.Of {K:zc}{H:Hp}{xs:List V}{ds:List D}{i:Int}{d:D}(h:Ab K H xs ds)(e:L2.Of ds i=some d):∃v,L2.Of xs i=some v/\AW K H v d:=by
 unfold L2.Of at e ⊢;rw[<-h.length] at e;cases q:VR xs.length i with
 |none=>rw[q] at e;cases e
 |some j =>
  rw[q] at e;exact h.get e
theorem C1.AZ {K:zc}{H:Hp}{P:Addr->Prop}{a:Addr}{xs:List V}(h:C1 K (del H P) a xs):C1 K H a xs:=Bw.seq h
theorem D7:LQ X.K WX (λ x y H Q=>Tn X.K x y H Q\/To X.K x y H Q) XG:=by
 intro P H x y v w Q ht hx hy h;unfold XG at h;split at h
 ·rename_i ds i;split at h
  ·rename_i d e;cases hy;cases hx with
   |tup hs hl =>
    obtain⟨u,h1,h2⟩:=hl.Of e;exact .inr ⟨_,_,i,u,rfl,rfl,EX.of (Ag hs).2,h1,h _ H (A9.refl H) h2⟩
  ·exact h.elim
 ·rename_i ds i;split at h
  ·rename_i d e;cases hy;cases hx with
   |lst hs hl =>
    obtain⟨u,h1,h2⟩:=hl.Of e;exact .inl ⟨_,_,i,u,rfl,rfl,hs.AZ,h1,h _ H (A9.refl H) h2⟩
  ·exact h.elim
 ·exact h.elim
theorem Ah:DA X WX c [] (λ _=>.ok []):=⟨_,CY,λ P0 P σ H Q ρ E h=>h [] H (A9.refl H) .nil,λ ρ ds h=>by cases h;rfl⟩
theorem A2 {e:Expr}{es:List Expr}{f:A6->M D}{fs:A6->M (List D)}(he:DE X WX c e f)(hr:DA X WX c es fs)(hs:starEach (e::es) X.env=(false,eval e X.env)::starEach es X.env:=by rfl):
 DA X WX c (e::es) (λ ρ=>(f ρ).bind λ d=>(fs ρ).bind λ ds=>.ok (d::ds)):=by
 obtain⟨te,e1,e2⟩:=he;obtain⟨tr,r1,r2,r3⟩:=hr;refine⟨_,Bt e1 r1 hs,λ P0 P σ H Q ρ E h=>?_,λ ρ ds h=>?_⟩
 rotate_left
 ·dsimp only at h;cases q:f ρ with
  |bad|ex x=>rw[q] at h;cases h
  |ok x =>
   rw[q] at h;cases q2:fs ρ with
   |bad|ex x=>rw[q2] at h;cases h
   |ok xs =>
    rw[q2] at h;cases h;rw[zt,zt,r3 ρ xs q2]
 dsimp only at h;refine e2 P0 P σ H _ ρ E ?_;cases q:f ρ with
 |bad|ex x=>rw[q] at h;exact h
 |ok x =>
  rw[q] at h;intro v H1 s1 hv;refine r2 P0 P σ H1 _ ρ (E.same s1) ?_;cases q2:fs ρ with
  |bad=>rw[q2] at h;exact h
  |ex y=>rw[q2] at h;exact gA.same (m:=.ex y) h s1
  |ok ds =>
   rw[q2] at h;exact λ vs H2 s2 aD=>h _ H2 (s1.trans s2) (.cons (hv.mono s2.del) aD)
theorem ED {H:Hp}{P:Addr->Prop}{p:Addr}{o:HO}(hn:H p=none)(ht:∀a,P a->Cd H a):del (upd H p o) P p=some o:=by
 rw[Ao λ z=>(ht p z).no hn];exact Ae
theorem B5 {es:List Expr}{fs:A6->M (List D)}{x1}(ha:DA X WX c es fs)(hz:es.length<=1000:=by decide):DE X WX c (.Tuple es x1 pos) (λ ρ=>(fs ρ).bind λ ds=>if ds.length<=1000 then .ok (.tup ds) else .bad):=by
 obtain⟨ta,a1,a2,a3⟩:=ha;refine⟨_,Th a1,λ P0 P σ H Q ρ E h=>?_⟩;dsimp only at h;refine a2 P0 P σ H _ ρ E ?_;cases q:fs ρ with
 |bad|ex y=>rw[q] at h;exact h
 |ok ds =>
  rw[q] at h;simp only[M.A7] at h;by_cases hd:ds.length<=1000
  ·rw[if_pos hd] at h;intro vs H1 s1 aD;refine⟨yz (AM (by rw[aD.length];exact hd)),λ p hp=>h _ _ (s1.trans (Ay hp _)) (.tup (ED hp λ a q=>(E.same s1).W4 c a q) (aD.mono (Ay hp _).del))⟩
  ·rw[if_neg hd] at h;exact h.elim
theorem P8 {es:List Expr}{fs:A6->M (List D)}(ha:DA X WX c es fs):DE X WX c (.List es pos) (λ ρ=>(fs ρ).bind λ ds=>if ds.length<=1000 then .ok (.lst ds) else .bad):=by
 obtain⟨ta,a1,a2,a3⟩:=ha;refine⟨_,OF a1,λ P0 P σ H Q ρ E h=>?_⟩;dsimp only at h;refine a2 P0 P σ H _ ρ E ?_;cases q:fs ρ with
 |bad|ex y=>rw[q] at h;exact h
 |ok ds =>
  rw[q] at h;simp only[M.A7] at h;by_cases hd:ds.length<=1000
  ·rw[if_pos hd] at h;intro vs H1 s1 aD;refine⟨yz (AM (by rw[aD.length];exact hd)),λ p hp=>h _ _ (s1.trans (Ay hp _)) (.lst (.of (ED hp λ a q=>(E.same s1).W4 c a q)) (aD.mono (Ay hp _).del))⟩
  ·rw[if_neg hd] at h;exact h.elim
end
noncomputable def KH (d:D):M Bool:=match d with | .bl b=>.ok b | _=>.bad
section
variable {X:Cx}{WX:Str->Hp->Prop}{c:Bool}{P0:BO}{P:Addr->Prop}{H:Hp}{σ:St}{ρ:A6}{a b e:Expr}{f g:A6->M D}{ft gt:A6->M Bool}{pos:Pos}
theorem W8 {WX:Str->Hp->Prop}{P:Addr->Prop}{K:zc}{H:Hp}{Q:Bool->Hp->Prop}{m:M D}(h:gT WX H Q (m.bind KH)):gV K WX P H (λ x H'=>∃k,x=.bl k/\Q k H') m:=by
 cases m with
 |bad|ex x=>exact h
 |ok d =>
  intro v H' s hv;simp only[M.A7] at h;unfold KH at h;split at h
  ·rename_i b;exact⟨b,hv.GB,h H' s⟩
  ·exact h.elim
theorem Cs {op:CmpOp}{r:R2}{a5:D->D->M D}(ho:Ex X (compareOp op) r)(hr:LQ X.K WX r a5)(ha:DE X WX c a f)(hb:DE X WX c b g)(hm:behindInMarks op b=false):DT X WX (.Compare a [op] [b] pos) (λ ρ=>((f ρ).bind λ x=>(g ρ).bind λ y=>a5 x y).bind KH):=by
 obtain⟨ta,a1,a2⟩:=ha;obtain⟨tb,b1,b2⟩:=hb;exact⟨_,Ra ho a1 b1 hm,λ P0 P σ H Q ρ E h=>KG a2 b2 hr E (W8 h)⟩
theorem W9 (ha:DE X WX c a f)(hb:DE X WX c b g):DT X WX (.Compare a [.Gt] [b] pos) (λ ρ=>((f ρ).bind λ x=>(g ρ).bind λ y=>Y7 x y).bind KH):=Cs VJ (Jl λ _ _ _ _=>.bl _) ha hb (CW _)
theorem MQ {n:Nat}(hu:X.A.units+n<cLine)(ha:DE X WX c a f)(hb:DE X WX c b g):DT X WX (.Compare a [.Eq] [b] pos) (λ ρ=>((f ρ).bind λ x=>(g ρ).bind λ y=>Sv n x y).bind KH):=Cs OX (P7 hu) ha hb (CW _)
theorem P9 {n:Nat}(hu:X.A.units+n<cLine)(ha:DE X WX c a f)(hb:DE X WX c b g):DT X WX (.Compare a [.NotEq] [b] pos) (λ ρ=>((f ρ).bind λ x=>(g ρ).bind λ y=>Ve n x y).bind KH):=Cs Tw (TC hu) ha hb (CW _)
theorem LU {j pos'}(ha:DE X WX c a f):DT X WX (.Compare a [.Is] [.Constant .none j pos'] pos) (λ ρ=>(f ρ).bind λ x=>.ok (D6 x)):=by
 obtain⟨ta,a1,a2⟩:=ha;refine⟨_,Ox (T2 a1),λ P0 P σ H Q ρ E h=>?_⟩;dsimp only at h;refine a2 P0 P σ H _ ρ E ?_;cases e:f ρ with
 |bad|ex x=>rw[e] at h;exact h
 |ok x=>rw[e] at h;exact λ v H1 s1 hv=>⟨_,rfl,by rw[hv.Y8];exact h H1 s1⟩
theorem MR {j pos'}(ha:DE X WX c a f):DT X WX (.Compare a [.IsNot] [.Constant .none j pos'] pos) (λ ρ=>(f ρ).bind λ x=>.ok (!D6 x)):=by
 obtain⟨ta,a1,a2⟩:=ha;refine⟨_,Ox (QY a1),λ P0 P σ H Q ρ E h=>?_⟩;dsimp only at h;refine a2 P0 P σ H _ ρ E ?_;cases e:f ρ with
 |bad|ex x=>rw[e] at h;exact h
 |ok x=>rw[e] at h;exact λ v H1 s1 hv=>⟨_,rfl,by rw[hv.Y8];exact h H1 s1⟩
theorem LV (ha:DT X WX a ft):DT X WX (.UnaryOp .Not a pos) (λ ρ=>(ft ρ).bind λ b=>.ok (!b)):=by
 obtain⟨ta,a1,a2⟩:=ha;refine⟨_,T3 a1,λ P0 P σ H Q ρ E h=>?_⟩;dsimp only at h;refine a2 P0 P σ H _ ρ E ?_;cases e:ft ρ with
 |bad|ex x=>rw[e] at h;exact h
 |ok x=>rw[e] at h;exact λ H1 s1=>h H1 s1
theorem MS (ha:DT X WX a ft):DW X WX (.BoolOp .And [a] pos) ft:=let ⟨ta,a1,a2⟩:=ha;⟨_,pw_and1 a1,a2⟩
theorem F5 (ha:DT X WX a ft):DW X WX (.BoolOp .Or [a] pos) ft:=let ⟨ta,a1,a2⟩:=ha;⟨_,pw_or1 a1,a2⟩
theorem LW {rest:List Expr}(ha:DT X WX a ft)(hb:DW X WX (.BoolOp .And (b::rest) pos) gt):DW X WX (.BoolOp .And (a::b::rest) pos) (λ ρ=>(ft ρ).bind λ k=>if k=true then gt ρ else .ok false):=by
 obtain⟨ta,a1,a2⟩:=ha;obtain⟨tb,b1,b2⟩:=hb;refine⟨_,pw_and a1 b1,λ P0 P σ H Q ρ E h=>?_⟩;dsimp only at h;refine a2 P0 P σ H _ ρ E ?_;cases e:ft ρ with
 |bad|ex x=>rw[e] at h;exact h
 |ok k =>
  rw[e] at h;intro H1 s1;cases k with
  |true =>
   simp only[M.A7,if_true] at h ⊢;exact b2 P0 P σ H1 _ ρ (E.same s1) (h.same s1)
  |false =>
   simp only[M.A7,zv,if_false] at h ⊢;exact h H1 s1
theorem GC {rest:List Expr}(ha:DT X WX a ft)(hb:DW X WX (.BoolOp .Or (b::rest) pos) gt):DW X WX (.BoolOp .Or (a::b::rest) pos) (λ ρ=>(ft ρ).bind λ k=>if k=true then .ok true else gt ρ):=by
 obtain⟨ta,a1,a2⟩:=ha;obtain⟨tb,b1,b2⟩:=hb;refine⟨_,pw_or a1 b1,λ P0 P σ H Q ρ E h=>?_⟩;dsimp only at h;refine a2 P0 P σ H _ ρ E ?_;cases e:ft ρ with
 |bad|ex x=>rw[e] at h;exact h
 |ok k =>
  rw[e] at h;intro H1 s1;cases k with
  |true =>
   simp only[M.A7,if_true] at h ⊢;exact h H1 s1
  |false =>
   simp only[M.A7,zv,if_false] at h ⊢;exact b2 P0 P σ H1 _ ρ (E.same s1) (h.same s1)
theorem LX {op}(ha:DE X WX c a f):DE X WX c (.BoolOp op [a] pos) f:=let ⟨ta,a1,a2⟩:=ha;⟨_,Oy a1,a2⟩
theorem LY {rest:List Expr}(ha:DE X WX c a f)(hb:DE X WX c (.BoolOp .And (b::rest) pos) g):DE X WX c (.BoolOp .And (a::b::rest) pos) (λ ρ=>((f ρ).bind KH).bind λ k=>if k=true then g ρ else .ok (.bl false)):=by
 obtain⟨ta,a1,a2⟩:=ha;obtain⟨tb,b1,b2⟩:=hb;refine⟨_,T4 a1 b1,λ P0 P σ H Q ρ E h=>?_⟩;dsimp only at h;refine a2 P0 P σ H _ ρ E ?_;cases e:f ρ with
 |bad|ex x=>rw[e] at h;exact h
 |ok d =>
  rw[e] at h;simp only[M.A7] at h;unfold KH at h;split at h
  ·rename_i k;intro v H1 s1 hv;refine⟨k,hv.GB,?_⟩;cases k with
   |true =>
    simp only[M.A7,if_true] at h ⊢;exact b2 P0 P σ H1 _ ρ (E.same s1) (h.same s1)
   |false =>
    simp only[M.A7,zv,if_false] at h ⊢;exact h _ H1 s1 (.bl _)
  ·exact h.elim
theorem TF (ha:DE X WX c a f):DE X WX c (.UnaryOp .Not a pos) (λ ρ=>((f ρ).bind KH).bind λ k=>.ok (.bl (!k))):=by
 obtain⟨ta,a1,a2⟩:=ha;refine⟨_,T5 a1,λ P0 P σ H Q ρ E h=>?_⟩;dsimp only at h;refine a2 P0 P σ H _ ρ E ?_;cases e:f ρ with
 |bad|ex x=>rw[e] at h;exact h
 |ok d =>
  rw[e] at h;simp only[M.A7] at h;unfold KH at h;split at h
  ·rename_i k;exact λ v H1 s1 hv=>⟨k,hv.GB,h _ H1 s1 (.bl _)⟩
  ·exact h.elim
theorem TH (ha:DE X WX c a f):DE X WX c (.UnaryOp .USub a pos) (λ ρ=>(f ρ).bind λ d=>match d with | .int i=>.ok (.int (-i)) | _=>.bad):=by
 obtain⟨ta,a1,a2⟩:=ha;refine⟨_,VH Tf a1,λ P0 P σ H Q ρ E h=>?_⟩;dsimp only at h;refine a2 P0 P σ H _ ρ E ?_;cases e:f ρ with
 |bad|ex x=>rw[e] at h;exact h
 |ok d =>
  rw[e] at h;simp only[M.A7] at h;split at h
  ·rename_i i;exact λ v H1 s1 hv=>⟨i,hv.int_inv,h _ H1 s1 (.int _)⟩
  ·exact h.elim
def IM (K:zc)(WX:Str->Hp->Prop)(r:List V->Hp->VK->Prop)(dF:List D->M D):Prop:=
 ∀(P:Addr->Prop) (H:Hp) (ds:List D) (vs:List V) (Q:VK),(∀a,P a->Cd H a)->Ab K (del H P) vs ds->gV K WX P H Q (dF ds)->r vs H Q
variable {x:Str}{p:Pos}{es:List Expr}{fs:A6->M (List D)}{id T:String}{r:List V->Hp->VK->Prop}{dF:List D->M D}
theorem TJ {ta:TA}(ha:∀P0 P σ H Q ρ,Ac X.K P0 P H σ ρ->gA X.K WX (Lv c P0 P) H Q (fs ρ)->ta σ H Q)(hr:IM X.K WX r dF){Q:VK}(E:Ac X.K P0 P H σ ρ)(h:gV X.K WX (Lv c P0 P) H Q ((fs ρ).bind dF)):Xw r ta σ H Q:=by
 refine ha P0 P σ H _ ρ E ?_;cases e:fs ρ with
 |bad|ex x=>rw[e] at h;exact h
 |ok ds =>
  rw[e] at h;exact λ vs H1 s1 aD=>hr _ H1 ds vs Q (λ a q=>(E.same s1).W4 c a q) aD (h.same s1)
theorem EE (hc:Ey X (.builtin id) r)(hr:IM X.K WX r dF)(hg:Gl X x)(hm:X.mg x=none)(hv:bootBuiltins x=some (.builtin id))(ha:DA X WX c (e::es) fs)(hn:x ≠ "__name__" := by decide)(aS:(x==("__debug__" : Str))=false:=by decide)
 (he:starEach (e::es) X.env=(false,eval e X.env)::starEach es X.env:=by rfl) (hpl:(backTo pos (starEach es X.env)).any (·.1)=false:=by rfl):DE X WX c (.Call (.Name x p) (e::es) [] pos) (λ ρ=>(fs ρ).bind dF):=by
 obtain⟨ta,a1,a2,a3⟩:=ha;exact⟨_,Kr hc hg hm hv a1 hn aS he hpl,λ P0 P σ H Q ρ E h=>TJ a2 hr E h⟩
noncomputable def Pa (ds:List D):M D:=match ds with
 |[.lst xs]|[.tup xs]=>.ok (.int xs.length)
 |_=>.bad
theorem Ab.one {K:zc}{H:Hp}{vs:List V}{d:D}(h:Ab K H vs [d]):∃v,vs=[v]/\AW K H v d:=by
 cases h with
 |cons h t=>cases t;exact⟨_,rfl,h⟩
theorem Ab.two {K:zc}{H:Hp}{vs:List V}{d e:D}(h:Ab K H vs [d,e]):∃v w,vs=[v,w]/\AW K H v d/\AW K H w e:=by
 cases h with
 |cons h t =>
  obtain⟨w,rfl,hw⟩:=t.one;exact⟨_,w,rfl,h,hw⟩
theorem TM:IM X.K WX (λ xs H Q=>∃p ys,xs=[.ref p]/\(C1 X.K H p ys\/EX X.K H p ys)/\Q (.int ys.length) H) Pa:=by
 intro P H ds vs Q ht hl h;unfold Pa at h;split at h
 ·obtain⟨v,rfl,hv⟩:=hl.one;cases hv with
  |lst hs hh=>exact⟨_,_,rfl,.inl hs.AZ,by rw[hh.length];exact h _ H (A9.refl H) (.int _)⟩
 ·obtain⟨v,rfl,hv⟩:=hl.one;cases hv with
  |tup hs hh=>exact⟨_,_,rfl,.inr (EX.of (Ag hs).2),by rw[hh.length];exact h _ H (A9.refl H) (.int _)⟩
 ·exact h.elim
theorem TN (hg:Gl X "len")(hm:X.mg "len" = none)(ha:DE X WX c e f)(hs:starEach [e] X.env=[(false,eval e X.env)]:=by rfl):DE X WX c (.Call (.Name "len" p) [e] [] pos) (λ ρ=>((f ρ).bind λ d=>(M.ok []).bind λ ds=>.ok (d::ds)).bind Pa):=
 EE Jg TM hg hm PySem.boot_len (A2 ha Ah hs) (he:=hs)
noncomputable def Sw:D->String
 | .Aw => "NoneType"
 | .bl _ => "bool"
 | .int _ => "int"
 | .str _ => "str"
 | .tup _ => "tuple"
 | .lst _ => "list"
 | .BY _ => "NoneType"
 | .AS _ _ _ => "dict"
 | .ins _ _ _ => "NoneType"
noncomputable def BZ (T:String)(d:D):Bool:=(Sw d==T)||(Sw d == "bool" && T == "int")
noncomputable def Ea (T:String)(d:D):M D:=match d with
 | .BY _| .ins _ _ _=>.bad
 |d=>.ok (.bl (BZ T d))
noncomputable def Wa:D->Bool
 | .BY _| .ins _ _ _=>true
 |_=>false
theorem Pb {T:String}{d:D}(h:Wa d=false):Ea T d=.ok (.bl (BZ T d)):=by cases d<;>first | rfl | cases h
def XH (K:zc)(T:String):List V->Hp->VK->Prop:=λ xs H Q=>∃x d,xs=[x,.ty T]/\AW K H x d/\Wa d=false/\Q (.bl (BZ T d)) H
theorem Pc {T:String}(hk:∀d:D,PySem.W.kitOne X.K (.type (Sw d)) (.type T)=some (BZ T d)):Ey X (.builtin "isinstance") (XH X.K T):=by
 intro pins s σ H xs us Q I r h;obtain⟨x,d,rfl,hd,hx,q⟩:=h;obtain⟨u,w,rfl,rx,aJ⟩:=r.two;cases aJ;have fin:∀tk,EP X pins σ Q (.bool (BZ T d)) {s with toks:=tk}:=λ tk=>⟨.bl _,H,I.tok tk,rfl,q⟩;have e:=hk d;cases hd with
 |BY _ _|ins _ _ _=>cases hx
 |E5 hs hl =>
  cases rx;obtain⟨⟨o,h1,h2⟩,_,_⟩:=OW I (.inl ⟨_,hs⟩);exact yo PySem.W.kitx_dict I.MG ⟨o,h1,h2⟩ e (λ z=>nomatch z) fin
 |D2 hs hl =>
  cases rx;obtain⟨⟨o,h1,h2⟩,_,_⟩:=OW I (.inr ⟨_,hs⟩);exact yo PySem.W.kitx_dict I.MG ⟨o,h1,h2⟩ e (λ z=>nomatch z) fin
 |Aw=>cases rx;exact yo PySem.W.kitx_none I.MG y2 e (λ z=>nomatch z) fin
 |bl b=>cases rx;exact yo PySem.W.kitx_bool I.MG y2 e (λ z=>nomatch z) fin
 |int b=>obtain⟨t,rfl⟩:=rx;exact yo PySem.W.kitx_int I.MG y2 e (λ z=>nomatch z) fin
 |str b=>obtain⟨t,rfl⟩:=rx;exact yo PySem.W.kitx_str I.MG y2 e (λ z=>nomatch z) fin
 |tup hs hl =>
  cases rx;obtain⟨_,_,⟨o,h1,h2,_⟩,_⟩:=I.tuple (.of hs);exact yo PySem.W.kitx_tuple I.MG ⟨o,h1,h2⟩ e (λ z=>nomatch z) fin
 |lst hs hl =>
  cases rx;obtain⟨_,_,⟨o,n,h1,h2,_⟩,_⟩:=I.list hs;exact yo PySem.W.kitx_list I.MG ⟨o,h1,h2⟩ e (λ z=>nomatch z) fin
theorem Jm {T:String}{x2:Str}{p2:Pos}(hk:∀d:D,PySem.W.kitOne X.K (.type (Sw d)) (.type T)=some (BZ T d))(hg:Gl X "isinstance")(hm:X.mg "isinstance" = none)(ii:Gl X x2)(cn:X.mg x2=none)(ij:bootBuiltins x2=some (.type T))(ha:DE X WX c e f)
 (hb:bootBuiltins "isinstance" = some (.builtin "isinstance"):=by decide +kernel) (av:x2 ≠ "__name__" := by decide) (ej:(x2==("__debug__" : Str))=false:=by decide) (hs:starEach [e,.Name x2 p2] X.env=(false,eval e X.env)::starEach [.Name x2 p2] X.env:=by rfl) (bT:starEach [.Name x2 p2] X.env=[(false,eval (.Name x2 p2) X.env)]:=by rfl)
 (hpl:(backTo pos (starEach [.Name x2 p2] X.env)).any (·.1)=false:=by rfl):
 DE X WX c (.Call (.Name "isinstance" p) [e,.Name x2 p2] [] pos) (λ ρ=>(f ρ).bind λ d=>Ea T d):=by
 obtain⟨ta,a1,a2⟩:=ha;refine⟨_,Kr (Pc hk) hg hm hb (Bt a1 (Bt (QX (v:=.ty T) ii cn ij rfl av ej) CY bT) hs) (by decide) (by decide) hs hpl,λ P0 P σ H Q ρ E h=>?_⟩;dsimp only at h;refine a2 P0 P σ H _ ρ E ?_;cases q:f ρ with
 |bad|ex x=>rw[q] at h;exact h
 |ok d =>
  rw[q] at h;simp only[M.A7] at h;cases hx:Wa d with
  |true=>cases d<;>first|exact h.elim|cases hx
  |false =>
   rw[Pb hx] at h;exact λ v H1 s1 hv=>⟨v,d,rfl,hv.mono Bw,hx,h _ H1 s1 (.bl _)⟩
theorem LZ (K:zc)(d:D):PySem.W.kitOne K (.type (Sw d)) (.type "tuple")=some (BZ "tuple" d):=by cases d<;>rfl
theorem NI (K:zc)(d:D):PySem.W.kitOne K (.type (Sw d)) (.type "bool")=some (BZ "bool" d):=by cases d<;>rfl
theorem Pd (K:zc)(d:D):PySem.W.kitOne K (.type (Sw d)) (.type "int")=some (BZ "int" d):=by cases d<;>rfl
noncomputable def Sx (lo hi:Option Int)(d:D):M D:=match d with
 | .lst ds=>.ok (.lst ((ds.drop (HT.Gm ds.length 0 lo)).take (HT.Gm ds.length ds.length hi-HT.Gm ds.length 0 lo)))
 |_=>.bad
def DO (X:Cx)(WX:Str->Hp->Prop)(c:Bool)(e:Option Expr)(f:A6->M (Option Int)):Prop:=
 ∃t,PO X e t/\∀P0 P σ H Q ρ,Ac X.K P0 P H σ ρ->(match f ρ with | .ok o=>∀H',A9 H H'->Q o H' | .ex x=>∀H',A9 H H'->WX x H' | .bad=>False)->t σ H Q
theorem G5:DO X WX c none (λ _=>.ok none):=⟨_,Rf,λ P0 P σ H Q ρ E h=>h H (A9.refl H)⟩
noncomputable def Y9 (d:D):M (Option Int):=match d with | .int i=>.ok (some i) | _=>.bad
theorem DJ (ha:DE X WX c e f):DO X WX c (some e) (λ ρ=>(f ρ).bind Y9):=by
 obtain⟨ta,a1,a2⟩:=ha;refine⟨_,Rg a1,λ P0 P σ H Q ρ E h=>?_⟩;dsimp only at h;refine a2 P0 P σ H _ ρ E ?_;cases q:f ρ with
 |bad|ex x=>rw[q] at h;exact h
 |ok d =>
  rw[q] at h;cases d with
  |int i=>exact λ v H1 s1 hv=>⟨i,hv.int_inv,h H1 s1⟩
  |_=>exact h.elim
end
inductive Out where
 |ret (d:D)|next (ρ:A6)|brk (ρ:A6)|cont (ρ:A6)|Bi (c:Cl)|Ce (t:OT) (ρ:A6)
def Tr (P0 P:Addr->Prop)(H:Hp)(P':Addr->Prop)(H':Hp):Prop:=A9 (del H P) (del H' P')/\∀a,P0 a->H' a=H a
theorem Tr.refl {P0 P:Addr->Prop}{H:Hp}:Tr P0 P H P H:=⟨A9.refl _,λ _ _=>rfl⟩
theorem Tr.trans {P0 P P1 P2:Addr->Prop}{H H1 H2:Hp}(a:Tr P0 P H P1 H1)(b:Tr P0 P1 H1 P2 H2):Tr P0 P H P2 H2:=⟨a.1.trans b.1,λ x h=>(b.2 x h).trans (a.2 x h)⟩
theorem Ac.tr {K:zc}{P0:BO}{P:Addr->Prop}{H H':Hp}{σ:St}{ρ:A6}(E:Ac K P0 P H σ ρ)(e:A9 H H'):Tr P0 P H P H':=
 ⟨e.del,λ a h=>by obtain⟨o,q,_⟩:=E.BG a (E.sub a h);rw[e a o q,q]⟩
def gS (K:zc)(WX:Str->Hp->Prop)(P0:BO)(P:Addr->Prop)(H:Hp)(Z:Ends):M Out->Prop
 | .ok (.ret d)=>∀v H' P',Tr P0 P H P' H'->AW K (del H' P0) v d->Z.rt v H'
 | .ok (.next ρ)=>∀σ' H' P',Tr P0 P H P' H'->Ac K P0 P' H' σ' ρ->Z.nx σ' H'
 | .ok (.brk ρ)=>∀σ' H' P',Tr P0 P H P' H'->Ac K P0 P' H' σ' ρ->Z.bk σ' H'
 | .ok (.cont ρ)=>∀σ' H' P',Tr P0 P H P' H'->Ac K P0 P' H' σ' ρ->Z.ct σ' H'
 | .ok (.Bi c)=>∀v fp H' P',Tr P0 P H P' H'->(∀a,P0 a->P' a)->(∀a,P' a->Cd H' a)->Bm K H' P' c v fp->(∀a∈fp,P' a/\¬ P0 a)->fp.Nodup->Z.rt v H'
 | .ok (.Ce t ρ)=>∀v fp σ' H' P',Tr P0 P H P' H'->Ac K P0 P' H' σ' ρ->AY K H' P' v t fp->fp.Nodup->(∀a∈fp,P' a/\¬ P0 a/\∀(j:Nat) c v' fq,ρ[j]?=some (some c)->σ'[j]?=some (some v')->Bm K H' P' c v' fq->a∉fq)->Z.rt v H'
 | .ex x=>∀H' P',Tr P0 P H P' H'->WX x H'
 | .bad=>False
theorem gS.tr {K:zc}{WX:Str->Hp->Prop}{P0:BO}{P P':Addr->Prop}{H H':Hp}{Z:Ends}{m:M Out}(h:gS K WX P0 P H Z m)(t:Tr P0 P H P' H'):gS K WX P0 P' H' Z m:=by
 cases m with
 |bad=>exact h
 |ex x=>exact λ H2 P2 t2=>h H2 P2 (t.trans t2)
 |ok o =>
  cases o with
  |ret d=>exact λ v H2 P2 t2 hv=>h v H2 P2 (t.trans t2) hv
  |next ρ|brk ρ|cont ρ=>exact λ σ2 H2 P2 t2 hv=>h σ2 H2 P2 (t.trans t2) hv
  |Bi c=>exact λ v fp H2 P2 t2=>h v fp H2 P2 (t.trans t2)
  |Ce c ρ=>exact λ v fp σ2 H2 P2 t2=>h v fp σ2 H2 P2 (t.trans t2)
def DS (X:Cx)(WX:Str->Hp->Prop)(st:Stmt)(g:A6->M Out):Prop:=
 ∃t,PS X st t/\∀P0 P σ H Z ρ,Ac X.K P0 P H σ ρ->gS X.K WX P0 P H Z (g ρ)->t Z σ H
def NJ (X:Cx)(WX:Str->Hp->Prop)(st:List Stmt)(g:A6->M Out):Prop:=
 ∃t,MH X st t/\∀P0 P σ H Z ρ,Ac X.K P0 P H σ ρ->gS X.K WX P0 P H Z (g ρ)->t Z σ H
noncomputable def Pe (m:M Out)(k:A6->M Out):M Out:=match m with
 | .ok (.next ρ)=>k ρ
 |m=>m
section
variable {X:Cx}{WX:Str->Hp->Prop}{c:Bool}{P0:BO}{P:Addr->Prop}{H:Hp}{σ:St}{ρ:A6}{a b e:Expr}{f g:A6->M D}{ft gt:A6->M Bool}{pos:Pos}{st:Stmt}{rest:List Stmt}{g1 g2:A6->M Out}
theorem AR:NJ X WX [] (λ ρ=>.ok (.next ρ)):=⟨_,QZ,λ P0 P σ H Z ρ E h=>h σ H P Tr.refl E⟩
theorem Ad (h:DS X WX st g1):NJ X WX [st] g1:=let ⟨t,h1,h2⟩:=h;⟨_,R3 h1,h2⟩
theorem Aa (h:DS X WX st g1)(hr:NJ X WX rest g2):NJ X WX (st::rest) (λ ρ=>Pe (g1 ρ) g2):=by
 obtain⟨t,h1,h2⟩:=h;obtain⟨u,r1,r2⟩:=hr;refine⟨_,Oz h1 r1,λ P0 P σ H Z ρ E h=>?_⟩;dsimp only at h;refine h2 P0 P σ H {Z with nx:=u Z} ρ E ?_;cases q:g1 ρ with
 |bad|ex x=>rw[q] at h;exact h
 |ok o =>
  rw[q] at h;cases o with
  |ret d|brk d|cont d|Bi d|Ce d ρ2=>exact h
  |next ρ'=>exact λ σ' H' P' t E'=>r2 P0 P' σ' H' Z ρ' E' (gS.tr h t)
theorem TQ (ha:DE X WX false e f):DS X WX (.Return (some e) pos) (λ ρ=>(f ρ).bind λ d=>.ok (.ret d)):=by
 obtain⟨ta,a1,a2⟩:=ha;refine⟨_,Jb a1,λ P0 P σ H Z ρ E h=>?_⟩;dsimp only at h;refine a2 P0 P σ H _ ρ E ?_;cases q:f ρ with
 |bad=>rw[q] at h;exact h
 |ex x=>rw[q] at h;exact λ H' s=>h H' P (E.tr s)
 |ok d=>rw[q] at h;exact λ v H' s hv=>h v H' P (E.tr s) hv
theorem BP {c:Expr}{sa sb:List Stmt}(hc:DT X WX c ft)(ha:NJ X WX sa g1)(hb:NJ X WX sb g2):DS X WX (.If c sa sb pos) (λ ρ=>(ft ρ).bind λ k=>if k=true then g1 ρ else g2 ρ):=by
 obtain⟨tc,c1,c2⟩:=hc;obtain⟨ta,a1,a2⟩:=ha;obtain⟨tb,b1,b2⟩:=hb;refine⟨_,VA c1 a1 b1,λ P0 P σ H Z ρ E h=>?_⟩;dsimp only at h;refine c2 P0 P σ H _ ρ E ?_;cases q:ft ρ with
 |bad=>rw[q] at h;exact h
 |ex x=>rw[q] at h;exact λ H' s=>h H' P (E.tr s)
 |ok k =>
  rw[q] at h;intro H1 s1;cases k with
  |true =>
   simp only[M.A7,if_true] at h ⊢;exact a2 P0 P σ H1 Z ρ (E.same s1) (h.tr (E.tr s1))
  |false =>
   simp only[M.A7,zv,if_false] at h ⊢;exact b2 P0 P σ H1 Z ρ (E.same s1) (h.tr (E.tr s1))
theorem get_set {α:Type}{l:List α}{i j:Nat}{x y:α}(h:(l.set i x)[j]?=some y):(i=j/\i<l.length/\x=y)\/(i≠j/\l[j]?=some y):=by
 by_cases e:i=j
 ·subst e;rw[List.getElem?_set_self'] at h;cases q:l[i]? with
  |none=>rw[q] at h;cases h
  |some z =>
   rw[q] at h;exact .inl ⟨rfl,(zH.mp q).1,by simpa using h⟩
 ·rw[yd e] at h;exact .inr ⟨e,h⟩
theorem Ac.NK {K:zc}(E:Ac K P0 P H σ ρ){i:Nat}{v:V}{d:D}(hv:AW K (del H P) v d):Ac K P0 P H (σ.set i (some v)) (ρ.set i (some (.val d))):=by
 have gs:∀ {j:Nat},i≠j->(σ.set i (some v))[j]?=σ[j]? :=λ h=>yd h;refine⟨E.sub,E.BG,λ j e h=>?_,λ j c h io=>?_,λ j k c c' u u' fp ae h1 h2 h3 h4 h5 h6 ac=>?_,by rw[List.length_set,List.length_set];exact E.len,λ j c n h hp=>?_⟩
 rotate_left 3
 ·rcases get_set h with ⟨rfl,hl,e1⟩|⟨ac,h⟩
  ·cases e1;cases hp
  ·rw[gs ac];exact E.pin j c n h hp
 ·rcases get_set h with ⟨rfl,hl,e1⟩|⟨ac,h⟩
  ·cases e1;exact⟨v,zK (by rw[E.len];exact hl),hv⟩
  ·obtain⟨w,h1,h2⟩:=E.val j e h;exact⟨w,by rw[gs ac];exact h1,h2⟩
 ·rcases get_set h with ⟨rfl,hl,e1⟩|⟨ac,h⟩
  ·cases e1;cases io
  ·obtain⟨w,fp,h1,h2⟩:=E.ows j c h io;exact⟨w,fp,by rw[gs ac];exact h1,h2⟩
 ·rcases get_set h1 with ⟨rfl,hl,e1⟩|⟨b5,h1⟩
  ·cases e1;exact h5.elim
  ·rcases get_set h2 with ⟨rfl,hl,e1⟩|⟨av,h2⟩
   ·cases e1;exact h6.elim
   ·rw[gs b5] at h3;rw[gs av] at h4;exact E.apart j k c c' u u' fp ae h1 h2 h3 h4 h5 h6 ac
theorem Ac.RB {K:zc}(E:Ac K P0 P H σ ρ){P':Addr->Prop}{H':Hp}{i:Nat}{v:V}{c:Cl}{fp:List Addr}(hs:∀a,P a->P' a)(ht:∀a,P' a->Cd H' a)(sm:A9 (del H P) (del H' P'))
 (keep:∀(j:Nat) c' v' ae,i≠j->ρ[j]?=some (some c')->σ[j]?=some (some v')->Bm K H P c' v' ae->∀a∈ae,H' a=H a/\a∉fp)
 (new:Bm K H' P' c v fp) (hp:∀a∈fp,P' a/\¬ P0 a) (nd:fp.Nodup) (bU:∀n,II c=some n->v=.ref (P0.g n):=by intro n z;cases z):Ac K P0 P' H' (σ.set i (some v)) (ρ.set i (some c)):=by
 have gs:∀ {j:Nat},i≠j->(σ.set i (some v))[j]?=σ[j]? :=λ h=>yd h;refine⟨λ a h=>hs a (E.sub a h),ht,λ j e h=>?_,λ j c' h io=>?_,λ j k c1 c2 u u' ak aN h1 h2 h3 h4 h5 h6 ac=>?_,by rw[List.length_set,List.length_set];exact E.len,λ j c' n h hp=>?_⟩
 rotate_left 3
 ·rcases get_set h with ⟨rfl,hl,e1⟩|⟨ac,h⟩
  ·cases e1;rw[zK (by rw[E.len];exact hl),bU n hp]
  ·rw[gs ac];exact E.pin j c' n h hp
 ·rcases get_set h with ⟨rfl,hl,e1⟩|⟨ac,h⟩
  ·cases e1;exact new.elim
  ·obtain⟨w,h1,h2⟩:=E.val j e h;exact⟨w,by rw[gs ac];exact h1,h2.mono sm⟩
 ·rcases get_set h with ⟨rfl,hl,e1⟩|⟨ac,h⟩
  ·cases e1;exact⟨v,fp,zK (by rw[E.len];exact hl),new,hp,nd⟩
  ·obtain⟨w,fq,h1,h2,h3,h4⟩:=E.ows j c' h io;exact⟨w,fq,by rw[gs ac];exact h1,h2.move sm λ a ha=>(keep j c' w fq ac h h1 h2 a ha).1,λ a ha=>⟨hs a (h3 a ha).1,(h3 a ha).2⟩,h4⟩
 ·have back:∀(l:Nat) (d:Cl) (w:V) (fq:List Addr),i≠l->ρ[l]?=some (some d)->σ[l]?=some (some w)->Bm K H' P' d w fq->∃fr,Bm K H P d w fr/\fr=fq:=λ l d w fq hn hk sk ho=>by
   have io:D5 d=true:=by cases d<;>first|rfl|exact ho.elim
   obtain⟨w',aN,s2,o2,_⟩:=E.ows l d hk io;rw[sk] at s2;cases s2;exact⟨aN,o2,(o2.move sm λ a ha=>(keep l d w aN hn hk sk o2 a ha).1).Bg ho⟩
  rcases get_set h1 with ⟨rfl,hl,e1⟩|⟨b5,h1⟩
  ·cases e1;rw[zK (by rw[E.len];exact hl)] at h3;cases h3;rcases get_set h2 with ⟨e,_⟩|⟨av,h2⟩
   ·exact (ac e).elim
   ·rw[gs av] at h4;obtain⟨fr,o,rfl⟩:=back k c2 u' aN av h2 h4 h6;intro a ha hb;rw[new.Bg h5] at keep;exact (keep k c2 u' fr av h2 h4 o a hb).2 ha
  ·rw[gs b5] at h3;obtain⟨fr,o,rfl⟩:=back j c1 u ak b5 h1 h3 h5;rcases get_set h2 with ⟨rfl,hl,e1⟩|⟨av,h2⟩
   ·cases e1;rw[zK (by rw[E.len];exact hl)] at h4;cases h4;intro a ha;rw[new.Bg h6] at keep;exact (keep j c1 u fr b5 h1 h3 o a ha).2
   ·rw[gs av] at h4;obtain⟨em,o2,rfl⟩:=back k c2 u' aN av h2 h4 h6;exact E.apart j k c1 c2 u u' fr em h1 h2 h3 h4 o o2 ac
theorem Ac.Wb {K:zc}(E:Ac K P0 P H σ ρ){P':Addr->Prop}{H':Hp}{i:Nat}{v:V}{c:Cl}{fp:List Addr}(hs:∀a,P0 a->P' a)(ht:∀a,P' a->Cd H' a)(sm:A9 (del H P) (del H' P'))
 (keep:∀(j:Nat) c' v' ae,i≠j->ρ[j]?=some (some c')->σ[j]?=some (some v')->Bm K H P c' v' ae->∀a∈ae,H' a=H a/\a∉fp/\P' a)
 (new:Bm K H' P' c v fp) (hp:∀a∈fp,P' a/\¬ P0 a) (nd:fp.Nodup) (bU:∀n,II c=some n->v=.ref (P0.g n):=by intro n z;cases z):Ac K P0 P' H' (σ.set i (some v)) (ρ.set i (some c)):=by
 have gs:∀ {j:Nat},i≠j->(σ.set i (some v))[j]?=σ[j]? :=λ h=>yd h;refine⟨hs,ht,λ j e h=>?_,λ j c' h io=>?_,λ j k c1 c2 u u' ak aN h1 h2 h3 h4 h5 h6 ac=>?_,by rw[List.length_set,List.length_set];exact E.len,λ j c' n h hp=>?_⟩
 rotate_left 3
 ·rcases get_set h with ⟨rfl,hl,e1⟩|⟨ac,h⟩
  ·cases e1;rw[zK (by rw[E.len];exact hl),bU n hp]
  ·rw[gs ac];exact E.pin j c' n h hp
 ·rcases get_set h with ⟨rfl,hl,e1⟩|⟨ac,h⟩
  ·cases e1;exact new.elim
  ·obtain⟨w,h1,h2⟩:=E.val j e h;exact⟨w,by rw[gs ac];exact h1,h2.mono sm⟩
 ·rcases get_set h with ⟨rfl,hl,e1⟩|⟨ac,h⟩
  ·cases e1;exact⟨v,fp,zK (by rw[E.len];exact hl),new,hp,nd⟩
  ·obtain⟨w,fq,h1,h2,h3,h4⟩:=E.ows j c' h io;exact⟨w,fq,by rw[gs ac];exact h1,h2.move sm λ a ha=>(keep j c' w fq ac h h1 h2 a ha).1,λ a ha=>⟨(keep j c' w fq ac h h1 h2 a ha).2.2,(h3 a ha).2⟩,h4⟩
 ·have back:∀(l:Nat) (d:Cl) (w:V) (fq:List Addr),i≠l->ρ[l]?=some (some d)->σ[l]?=some (some w)->Bm K H' P' d w fq->∃fr,Bm K H P d w fr/\fr=fq:=λ l d w fq hn hk sk ho=>by
   have io:D5 d=true:=by cases d<;>first|rfl|exact ho.elim
   obtain⟨w',aN,s2,o2,_⟩:=E.ows l d hk io;rw[sk] at s2;cases s2;exact⟨aN,o2,(o2.move sm λ a ha=>(keep l d w aN hn hk sk o2 a ha).1).Bg ho⟩
  rcases get_set h1 with ⟨rfl,hl,e1⟩|⟨b5,h1⟩
  ·cases e1;rw[zK (by rw[E.len];exact hl)] at h3;cases h3;rcases get_set h2 with ⟨e,_⟩|⟨av,h2⟩
   ·exact (ac e).elim
   ·rw[gs av] at h4;obtain⟨fr,o,rfl⟩:=back k c2 u' aN av h2 h4 h6;intro a ha hb;rw[new.Bg h5] at keep;exact (keep k c2 u' fr av h2 h4 o a hb).2.1 ha
  ·rw[gs b5] at h3;obtain⟨fr,o,rfl⟩:=back j c1 u ak b5 h1 h3 h5;rcases get_set h2 with ⟨rfl,hl,e1⟩|⟨av,h2⟩
   ·cases e1;rw[zK (by rw[E.len];exact hl)] at h4;cases h4;intro a ha;rw[new.Bg h6] at keep;exact (keep j c1 u fr b5 h1 h3 o a ha).2.1
   ·rw[gs av] at h4;obtain⟨em,o2,rfl⟩:=back k c2 u' aN av h2 h4 h6;exact E.apart j k c1 c2 u u' fr em h1 h2 h3 h4 o o2 ac
theorem Jn {α:Type}:∀ {l:List α}{i:Nat}{x:α},l[i]?=some x->l.set i x=l
 |[],_,_,h=>by cases h
 |y::r,0,x,h=>by cases h;rfl
 |y::r,i+1,x,h=>by rw[zI,Jn (by simpa using h)]
theorem Ac.mut {K:zc}(E:Ac K P0 P H σ ρ){i p:Nat}{xs:List V}{ds cp:List D}(ho:ρ[i]?=some (some (.own ds)))(hs:σ[i]?=some (some (.ref p)))(pP:P p)(gf:¬ P0 p)(hx:Ab K (del H P) xs cp):
 Ac K P0 P (upd H p (.lst xs)) σ (ρ.set i (some (.own cp)))/\Tr P0 P H P (upd H p (.lst xs)):=by
 have sd:del (upd H p (.lst xs)) P=del H P:=by
  funext b;by_cases hb:P b
  ·rw[Eg hb,Eg hb]
  ·rw[Ao hb,Ao hb,A5 (λ z=>hb (by rw[z];exact pP))]
 have sm:A9 (del H P) (del (upd H p (.lst xs)) P):=by rw[sd];exact A9.refl _
 obtain⟨v,fp,s1,o1,_⟩:=E.ows i _ ho rfl;rw[hs] at s1;cases s1;have key:=E.RB (P':=P) (H':=upd H p (.lst xs)) (i:=i) (v:=.ref p) (c:=.own cp) (fp:=[p]) (λ a h=>h) (λ a h=>?_) sm (λ j c' v' ae ac h1 h2 h3 a ha=>?_) ⟨p,xs,rfl,rfl,Ae,by rw[sd];exact hx⟩ (λ a ha=>by rw[zl.mp ha];exact⟨pP,gf⟩) (by simp)
 ·rw[Jn hs] at key;exact⟨key,sm,λ a h=>by rw[A5 (λ z=>gf (by rw[<-z];exact h))]⟩
 ·by_cases ha:a=p
  ·subst ha;exact Cd.lst Ae
  ·unfold Cd;rw[A5 ha];exact E.BG a h
 ·obtain⟨p',ar,e,rfl,_⟩:=o1;cases e;have hn:a≠p:=λ z=>E.apart j i c' _ v' _ ae [p] h1 ho h2 hs h3 ⟨p,ar,rfl,rfl,by assumption⟩ (zU ac) a ha (by rw[z];exact zl.mpr rfl);exact⟨A5 hn,λ z=>hn (zl.mp z)⟩
theorem AE (i:Nat){x:Str}{pos':Pos}(hN:X.N.Nodup)(hi:X.N[i]?=some x)(hx:Loc X.env.scope x)(ha:DE X WX true e f)(hs:swapsWith e (some (.Name x pos')) pos.line X.env=pure false:=by rfl)(hf:X.fn x=true\/X.env.scope.names.lookup x=some .local:=by first | exact .inl rfl | exact .inr rfl | assumption):
 DS X WX (.Assign [.Name x pos'] e pos) (λ ρ=>(f ρ).bind λ d=>.ok (.next (ρ.set i (some (.val d))))):=by
 obtain⟨ta,a1,a2⟩:=ha;refine⟨_,LG hN hi hx a1 hs hf,λ P0 P σ H Z ρ E h=>?_⟩;dsimp only at h;refine a2 P0 P σ H _ ρ E ?_;cases q:f ρ with
 |bad=>rw[q] at h;exact h
 |ex x=>rw[q] at h;exact λ H' s=>h H' P (E.tr s)
 |ok d=>rw[q] at h;exact λ v H' s hv=>h _ H' P (E.tr s) ((E.same s).NK hv)
noncomputable def RC (i:Nat)(ρ:A6)(m:M D):M Out:=match ρ[i]? with
 |some (some (.own ds))=>m.bind λ d=>if ds.length<1000 then .ok (.next (ρ.set i (some (.own (ds++[d]))))) else .bad
 |_=>.bad
end
def gG (K:zc)(P0:BO)(P:Addr->Prop)(H:Hp)(Q:St->Hp->Prop):M A6->Prop
 | .ok ρ=>∀σ',Ac K P0 P H σ' ρ->Q σ' H
 |_=>False
def DG (X:Cx)(tg:Expr)(gt:D->A6->M A6):Prop:=
 ∃g:TG,PG X tg g/\∀P0 P σ H Q ρ v d,Ac X.K P0 P H σ ρ->AW X.K (del H P) v d->gG X.K P0 P H Q (gt d ρ)->g v σ H Q
def WT (X:Cx)(ik:List Expr)(gt:List D->A6->M A6):Prop:=
 ∃g:Sq,VB X ik g/\∀P0 P σ H Q ρ v d,Ac X.K P0 P H σ ρ->Ab X.K (del H P) v d->gG X.K P0 P H Q (gt d ρ)->g v σ H Q
structure M0 (K:zc)(J:It)(P:Addr->Prop)(H:Hp)(ds:List D):Prop where
 go:∀(i:Nat) P' H',A9 (del H P) (del H' P')->i<ds.length->J.go i H'
 stop:∀(i:Nat) P' H',A9 (del H P) (del H' P')->ds.length<=i->J.stop i H'
 R5:∀(i:Nat) P' H' v bF d,A9 (del H P) (del H' P')->(∀a,P' a->Cd H' a)->ds[i]?=some d->J.R5 i H' v bF->A9 H' bF/\AW K (del bF P') v d
def DI (X:Cx)(WX:Str->Hp->Prop)(tg iter:Expr)(f:A6->M (List D)):Prop:=
 ∃wi,PI X tg iter wi/\∀P0 P σ H R ρ,Ac X.K P0 P H σ ρ->(match f ρ with | .ok ds=>∀J H',A9 H H'->M0 X.K J P H' ds->R J H' | .ex x=>∀H',A9 H H'->WX x H' | .bad=>False)->wi σ H R
noncomputable def forM (gt:D->A6->M A6)(body:A6->M Out):List D->A6->M Out
 |[],ρ=>.ok (.next ρ)
 |d::r,ρ=>match gt d ρ with
  | .ok ρ1=>(match body ρ1 with
   | .ok (.next ρ2)| .ok (.cont ρ2)=>forM gt body r ρ2
   | .ok (.brk ρ2)=>.ok (.next ρ2)
   |m=>m)
  |_=>.bad
section
variable {X:Cx}{WX:Str->Hp->Prop}{c:Bool}{P0:BO}{P:Addr->Prop}{H:Hp}{σ:St}{ρ:A6}{a b e tg iter:Expr}{f g:A6->M D}{ft:A6->M Bool}{pos:Pos}{gt:D->A6->M A6}{cF:List D->A6->M A6}{gb:A6->M Out}{fi:A6->M (List D)}
theorem B9 (i:Nat){x:Str}(hN:X.N.Nodup)(hi:X.N[i]?=some x)(hx:Loc X.env.scope x)(hf:X.fn x=true\/X.env.scope.names.lookup x=some .local:=by first | exact .inl rfl | exact .inr rfl | assumption):DG X (.Name x pos) (λ d ρ=>.ok (ρ.set i (some (.val d)))):=
 ⟨_,MJ hN hi hx hf,λ P0 P σ H Q ρ v d E hv h=>h _ (E.NK hv)⟩
theorem MT:WT X [] (λ ds ρ=>match ds with | []=>.ok ρ | _=>.bad):=⟨_,R4,λ P0 P σ H Q ρ v d E hv h=>by
 cases hv with
 |nil=>exact⟨rfl,h σ E⟩
 |cons _ _=>exact h.elim⟩
theorem Cf {es:List Expr}(h1:DG X e gt)(h2:WT X es cF)(hs:(assignEach (e::es) X.env).map (·.2)=assign e X.env::(assignEach es X.env).map (·.2):=by rfl):
 WT X (e::es) (λ ds ρ=>match ds with|d::r=>(gt d ρ).bind (cF r)|[]=>.bad):=by
 obtain⟨t,a1,a2⟩:=h1;obtain⟨u,b1,b2⟩:=h2;refine⟨_,OA a1 b1 hs,λ P0 P σ H Q ρ v d E hv h=>?_⟩;cases hv with
 |nil=>exact h.elim
 | @cons x d xs ds hx b6 =>
  refine⟨x,xs,rfl,a2 P0 P σ H _ ρ x d E hx ?_⟩;dsimp only at h;cases q:gt d ρ with
  |bad|ex y=>rw[q] at h;exact h
  |ok ρ1=>rw[q] at h;exact λ σ' E'=>b2 P0 P σ' H Q ρ1 xs ds E' b6 h
theorem Pf {es:List Expr}{k n:Nat}(hc:X.calm=true)(h:WT X es cF)(hn:(assignEach es X.env).length=n:=by rfl)(bD:(assignEach es X.env).findIdx? (·.1)=none:=by rfl):
 DG X (.Tuple es k pos) (λ d ρ=>match d with | .tup ds=>if ds.length=n then cF ds ρ else .bad|_=>.bad):=by
 obtain⟨t,a1,a2⟩:=h;refine⟨_,T6 hc a1 hn bD,λ P0 P σ H Q ρ v d E hv h=>?_⟩;cases hv with
 | @tup a xs ds hs hl =>
  dsimp only at h;by_cases hd:ds.length=n
  ·rw[if_pos hd] at h;exact⟨a,xs,rfl,EX.of (Ag hs).2,by rw[hl.length];exact hd,a2 P0 P σ H Q ρ xs ds E hl h⟩
  ·rw[if_neg hd] at h;exact h.elim
 |_=>exact h.elim
theorem C3 (ha:DE X WX true e f):DI X WX tg e (λ ρ=>(f ρ).bind λ d=>match d with | .lst ds=>.ok ds | _=>.bad):=by
 obtain⟨ta,a1,a2⟩:=ha;refine⟨_,R6 a1,λ P0 P σ H R ρ E h=>?_⟩;dsimp only at h;refine a2 P0 P σ H _ ρ E ?_;cases q:f ρ with
 |bad|ex x=>rw[q] at h;exact h
 |ok d =>
  rw[q] at h;cases d with
  |lst ds =>
   intro v H1 s1 hv;cases hv with
   | @lst a xs _ hs hl =>
    refine⟨a,rfl,⟨xs,hs.AZ⟩,h _ H1 s1 ⟨λ i P' H' s hi=>?_,λ i P' H' s hi=>?_,λ i P' H' v bF d s ht hd y=>?_⟩⟩
    ·obtain⟨x,hx,_⟩:=hl.get (zu hi);exact⟨xs,x,(s.seq hs).AZ,hx⟩
    ·exact⟨xs,(s.seq hs).AZ,by rw[hl.length];exact hi⟩
    ·obtain⟨rfl,y⟩:=y;obtain⟨x,hx,aO⟩:=hl.get hd;have e:=y xs (s.seq hs).AZ;rw[hx] at e;cases e;exact⟨A9.refl _,aO.mono s⟩
  |_=>exact h.elim
noncomputable def C9 (lo:Int):Nat->List D
 |0=>[]
 |n+1=>.int lo::C9 (lo+1) n
theorem Ct (lo:Int):∀n:Nat,(C9 lo n).length=n:=by
 intro n;induction n generalizing lo with
 |zero=>rfl
 |succ n ih=>rw[C9,zt,ih]
theorem GD {lo:Int}{n i:Nat}{d:D}(h:(C9 lo n)[i]?=some d):d=.int (lo+i)/\i<n:=by
 have hi:i<n:=by
  have:=(zH.mp h).1;rw[Ct] at this;exact this
 refine⟨?_,hi⟩;induction n generalizing lo i with
 |zero=>omega
 |succ n ih =>
  cases i with
  |zero=>rw[C9] at h;simp at h;rw[<-h];simp
  |succ i =>
   rw[C9,zM] at h;rw[ih h (by omega)];congr 1;omega
theorem M1 {K:zc}{P:Addr->Prop}{H:Hp}(lo:Int)(n:Nat):M0 K (WN lo n) P H (C9 lo n):=
 ⟨λ i P' H' _ hi=>by rw[Ct] at hi;exact hi,λ i P' H' _ hi=>by rw[Ct] at hi;exact hi,λ i P' H' v bF d _ _ hd y=>by
  obtain⟨rfl,rfl⟩:=y;obtain⟨rfl,_⟩:=GD hd;exact⟨A9.refl _,.int _⟩⟩
noncomputable def RD:D->M (List D)
 | .int j=>@ite _ (-(2^62)<=j/\j<2^62) (Classical.propDecidable _) (.ok (C9 0 j.toNat)) .bad
 |_=>.bad
theorem KI {j:Int}(h1 : -(2^62)<=j)(h2:j<2^62):RD (.int j)=.ok (C9 0 j.toNat):=if_pos ⟨h1,h2⟩
theorem Pg {n:Nat}(h:n<=1000):RD (.int (n:Int))=.ok (C9 0 n):=by
 rw[KI (by omega) (by omega),Int.toNat_natCast]
theorem NL {p:Pos}(hg:Gl X "range")(hm:X.mg "range" = none)(ha:DE X WX c a f)(hs:starEach [a] X.env=[(false,eval a X.env)]:=by rfl):
 DI X WX tg (.Call (.Name "range" p) [a] [] pos) (λ ρ=>(f ρ).bind RD):=by
 obtain⟨ta,a1,a2⟩:=ha;refine⟨_,Nw hg hm (Bt a1 CY hs) hs,λ P0 P σ H R ρ E h=>?_⟩;dsimp only at h;refine a2 P0 P σ H _ ρ E ?_;cases q:f ρ with
 |bad|ex x=>rw[q] at h;exact h
 |ok d =>
  rw[q] at h;cases d with
  |int j =>
   simp only[M.A7] at h;by_cases hj : -(2^62)<=j/\j<2^62
   ·rw[KI hj.1 hj.2] at h;exact λ v H1 s1 hv=>⟨j,by rw[hv.int_inv],hj.1,hj.2,h _ H1 s1 (M1 0 _)⟩
   ·have e:RD (.int j)=.bad:=if_neg hj;rw[e] at h;exact h.elim
  |_=>exact h.elim
noncomputable def FI (k:Nat):List D->List D
 |[]=>[]
 |d::r=>.tup [.int k,d]::FI (k+1) r
theorem F6 (k:Nat)(ds:List D):(FI k ds).length=ds.length:=by
 induction ds generalizing k with
 |nil=>rfl
 |cons d r ih=>rw[FI,zt,zt,ih]
theorem IP {k i:Nat}{ds:List D}{e:D}(h:(FI k ds)[i]?=some e):∃d,ds[i]?=some d/\e=.tup [.int ((k+i:Nat):Int),d]:=by
 induction ds generalizing k i with
 |nil=>rw[FI] at h;simp at h
 |cons d r ih =>
  cases i with
  |zero=>rw[FI] at h;simp at h;exact⟨d,rfl,by rw[<-h];rfl⟩
  |succ i =>
   rw[FI,zM] at h;obtain⟨d',h1,h2⟩:=ih h;refine⟨d',by simpa using h1,?_⟩;rw[h2];congr 3;omega
theorem RE {aZ:List Expr}{x1}{aK p:Pos}(hg:Gl X "enumerate")(hm:X.mg "enumerate" = none)(ha:DE X WX true a f)(hb:bootBuiltins "enumerate" = some (.type "enumerate"):=by decide +kernel)(hs:starEach [a] X.env=[(false,eval a X.env)]:=by rfl):
 DI X WX (.Tuple aZ x1 aK) (.Call (.Name "enumerate" p) [a] [] pos) (λ ρ=>(f ρ).bind λ d=>match d with | .lst ds=>.ok (FI 0 ds)|_=>.bad):=by
 obtain⟨ta,a1,a2⟩:=ha;refine⟨_,Rx hg hm (Bt a1 CY hs) hb hs,λ P0 P σ H R ρ E h=>?_⟩;dsimp only at h;refine a2 P0 P σ H _ ρ E ?_;cases q:f ρ with
 |bad|ex x=>rw[q] at h;exact h
 |ok d =>
  rw[q] at h;cases d with
  |lst ds =>
   intro v H1 s1 hv;cases hv with
   | @lst a xs _ hs hl =>
    refine⟨a,rfl,⟨xs,hs.AZ⟩,h _ H1 s1 ⟨λ i P' H' s hi=>?_,λ i P' H' s hi=>?_,λ i P' H' v bF d s ht hd y=>?_⟩⟩
    ·rw[F6] at hi;obtain⟨x,hx,_⟩:=hl.get (zu hi);exact⟨xs,x,(s.seq hs).AZ,hx⟩
    ·rw[F6] at hi;exact⟨xs,(s.seq hs).AZ,by rw[hl.length];exact hi⟩
    ·obtain⟨p,x,hn,rfl,y,rfl⟩:=y;obtain⟨d',cq,rfl⟩:=IP hd;obtain⟨x',hx,aO⟩:=hl.get cq;have e:=y xs (s.seq hs).AZ;rw[hx] at e;cases e;refine⟨Ay hn _,.tup (ED hn ht) (.cons ?_ (.cons ((aO.mono s).mono (Ay hn _).del) .nil))⟩;rw[Nat.zero_add];exact .int _
  |_=>exact h.elim
theorem D8 {α:Type}{l:List α}{i:Nat}(h:i<l.length):l.drop i=l[i]::l.drop (i+1):=y6 h
theorem D9 {body:List Stmt}(hp:PassesOwn (model X.prog X.w) X.A X.env X.xe)(hc:X.calm=true)(hi:DI X WX tg iter fi)(hg:DG X tg gt)(hb:NJ X WX body gb)(hs:∀x,foldedSetIterable iter X.env x=pure x:=by intro _;rfl):
 DS X WX (.For tg iter body [] pos) (λ ρ=>(fi ρ).bind λ ds=>forM gt gb ds ρ):=by
 obtain⟨wi,i1,i2⟩:=hi;obtain⟨t,a1,a2⟩:=hg;obtain⟨tb,b1,b2⟩:=hb;refine⟨_,T9 hp hc i1 a1 b1 hs,λ P0 P σ H Z ρ E h=>?_⟩;dsimp only at h;refine i2 P0 P σ H _ ρ E ?_;cases q:fi ρ with
 |bad=>rw[q] at h;exact h
 |ex x=>rw[q] at h;exact λ H' s=>h H' P (E.tr s)
 |ok ds =>
  rw[q] at h;simp only[M.A7] at h;intro J H1 s1 ok;refine⟨λ i m σ' H'=>m=ds.length-i/\i<=ds.length/\∃P' ρ',Tr P0 P H1 P' H'/\Ac X.K P0 P' H' σ' ρ'/\gS X.K WX P0 P' H' Z (forM gt gb (ds.drop i) ρ'),
   ⟨ds.length,by simp,zR _,P,ρ,Tr.refl,E.same s1,by rw[List.drop_zero];exact h.tr (E.tr s1)⟩,?_⟩
  rintro i m σ' H' ⟨rfl,hi,P',ρ',t',E',g'⟩;by_cases ag:i<ds.length
  ·refine .inr ⟨ok.go i P' H' t'.1 ag,λ σ2 H2=>i+1<=ds.length/\∃P2 ρ2,Tr P0 P H1 P2 H2/\Ac X.K P0 P2 H2 σ2 ρ2/\gS X.K WX P0 P2 H2 Z (forM gt gb (ds.drop (i+1)) ρ2),λ σ2 H2 hq=>⟨ds.length-(i+1),by omega,rfl,hq.1,hq.2⟩,λ v H2 y=>?_⟩;obtain⟨s2,hv⟩:=ok.R5 i P' H' v H2 ds[i] t'.1 E'.BG (zu ag) y;rw[D8 ag,forM] at g';have E2:=E'.same s2;refine a2 P0 P' σ' H2 _ ρ' v ds[i] E2 hv ?_;cases q1:gt ds[i] ρ' with
   |bad=>rw[q1] at g';exact g'
   |ex x=>rw[q1] at g';exact g'.elim
   |ok ρ1 =>
    rw[q1] at g';dsimp only at g';intro σ3 E3;refine b2 P0 P' σ3 H2 _ ρ1 E3 ?_;have tt:Tr P0 P H1 P' H2:=t'.trans (E'.tr s2);cases q2:gb ρ1 with
    |bad=>rw[q2] at g';exact g'
    |ex x=>rw[q2] at g';exact gS.tr (m:=.ex x) g' (E'.tr s2)
    |ok o =>
     rw[q2] at g';cases o with
     |ret d=>exact gS.tr (m:=.ok (.ret d)) g' (E'.tr s2)
     |Bi d=>exact gS.tr (m:=.ok (.Bi d)) g' (E'.tr s2)
     |Ce d ρ2=>exact gS.tr (m:=.ok (.Ce d ρ2)) g' (E'.tr s2)
     |next ρ2|cont ρ2=>exact λ σ4 H4 P4 t4 E4=>⟨ag,P4,ρ2,tt.trans t4,E4,gS.tr g' ((E'.tr s2).trans t4)⟩
     |brk ρ2=>exact λ σ4 H4 P4 t4 E4=>g' σ4 H4 P4 ((E'.tr s2).trans t4) E4
  ·have e:i=ds.length:=by omega
   subst e;refine .inl ⟨ok.stop _ P' H' t'.1 (zp _),?_⟩;rw[yB,forM] at g';exact g' σ' H' P' Tr.refl E'
end
noncomputable def M2 (K:zc)(n:Nat)(F:List D->M D):Sp:=λ vs H Q _=>vs.length=n/\∃P ds,(∀a,P a->Cd H a)/\Ab K (del H P) vs ds/\gV K (λ _ _=>False) P H Q (F ds)
noncomputable def B6 (N:List Str)(ds:List D):A6:=ds.map (λ d=>some (.val d))++List.replicate (N.length-ds.length) none
noncomputable def XI:Cl->M D
 | .val d=>.ok d
 | .own ds=>.ok (.lst ds)
 | .ow (.rows CS)=>.ok (.lst (CS.map D.lst))
 | .ow (.G3 _ _)=>.bad
 | .ow (.tree _ t)=>.ok (er t)
noncomputable def fin (m:M Out):M D:=match m with
 | .ok (.ret d)=>.ok d
 | .ok (.Bi c)=>XI c
 | .ok (.next _)=>.ok .Aw
 |_=>.bad
theorem IQ {K:zc}{P:Addr->Prop}{H:Hp}{N:List Str}{vs:List V}{ds:List D}(ht:∀a,P a->Cd H a)(h:Ab K (del H P) vs ds):Ac K ⟨P,λ _=>0⟩ P H (start N vs) (B6 N ds):=by
 have hl:=h.length;have key:∀(i:Nat) (c:Cl),(B6 N ds)[i]?=some (some c)->∃d,ds[i]?=some d/\c=.val d:=λ i c e=>by
  unfold B6 at e;by_cases hi:i<ds.length
  ·rw[yb (by simpa using hi),zy] at e;cases q:ds[i]? with
   |none=>rw[q] at e;cases e
   |some d=>rw[q] at e;cases e;exact⟨d,rfl,rfl⟩
  ·rw[yl (by simpa using hi),List.getElem?_replicate] at e;split at e<;>cases e
 refine⟨λ _ h=>h,ht,λ i d e=>?_,λ i es e io=>?_,λ i j c c' v v' fp ae e _ _ _ ho _ _=>?_,?_,λ i c n e hp=>?_⟩
 rotate_left 4
 ·obtain⟨d',q,z⟩:=key i _ e;cases z;cases hp
 ·obtain⟨d',q,z⟩:=key i _ e;cases z;obtain⟨v,hv,hd⟩:=h.get q;refine⟨v,?_,hd⟩;unfold start;rw[yb (by rw[zh];exact (zH.mp hv).1),zy,hv];rfl
 ·obtain⟨d',q,z⟩:=key i _ e;cases z;cases io
 ·obtain⟨d',q,z⟩:=key i _ e;cases z;exact ho.elim
 ·unfold start B6;simp[hl]
theorem BH {P:Addr->Prop}{H H':Hp}{P':Addr->Prop}(t:Tr P P H P' H'):A9 H H':=λ b o e=>by
 by_cases hb:P b
 ·rw[t.2 b hb];exact e
 ·exact (Ag (t.1 b o (by rw[Ao hb];exact e))).2
theorem Bh.TR {K:zc}{H:Hp}{P P0:Addr->Prop}(hs:∀a,P0 a->P a):∀ {ps:List Addr}{CS:List (List D)},(∀a∈ps,¬ P0 a)->Bh K H P ps CS->Ab K (del H P0) (ps.map V.ref) (CS.map D.lst)
 |_,_,_,.nil=>.nil
 |_,_,k,.cons h r t=>.cons (.lst (.of (show del H P0 _=_ by rw[Ao (k _ zd)];exact h)) (r.mono (Bf hs))) (Bh.TR hs (λ a ha=>k a (zf _ ha)) t)
theorem RF {K:zc}{WX:Str->Hp->Prop}{P P2:Addr->Prop}{H H':Hp}{Q:VK}{c:Cl}{v:V}{fp:List Addr}(h:gV K WX P H Q (XI c))(t':Tr P P H P2 H')(hs:∀a,P a->P2 a)(ht:∀a,P2 a->Cd H' a)(ho:Bm K H' P2 c v fp)(hp:∀a∈fp,P2 a/\¬ P a):Q v H':=by
 cases c with
 |val d=>exact ho.elim
 |own ds =>
  obtain⟨p,xs,rfl,rfl,h1,h2⟩:=ho;exact h _ H' (BH t') (.lst (.of (show del H' P p=_ by rw[Ao (hp p zd).2];exact h1)) (h2.mono (Bf hs)))
 |ow o =>
  cases o with
  |rows CS =>
   obtain⟨p,ps,rfl,rfl,h1,h2⟩:=ho;exact h _ H' (BH t') (.lst (.of (show del H' P p=_ by rw[Ao (hp p zd).2];exact h1)) (h2.TR hs λ a ha=>(hp a (zf _ ha)).2))
  |G3 p ds=>exact h.elim
  |tree p t=>exact h _ H' (BH t') (AY.has hs (λ a ha=>(hp a ha).2) ho)
section
variable {P:Program}{w:World}{K:zc}{mg:Str->Option Value}{base:Heap}
theorem Wc {x qual:Str}{st:Stmt}{f:Addr}{fd:FuncData}{N ps:List Str}{k:Nat}(F:Og K x qual st f fd)(S:Aq N ps (A4 st))(g:A6->M Out)
 (hb:∀(Ba:Value) (A:Around) (outer:List Env) (s:Shared) (H:Hp) (E:XK),Bv k (A.deeper (envOfC qual (A4 st) s.heap.objs.size f Ba))->NJ (FR Rm P w K mg base N qual (A4 st) f Ba A outer s H E).Vx (λ _ _=>False) (AA st) g):
 DY P w K mg base Rm (k+1) f fd ps (M2 K ps.length λ ds=>fin (g (B6 N ds))):=by
 refine F.ok S (λ vs H Q E h=>h.1) λ Ba A outer s H vs Q E hr h=>?_;obtain⟨hl,P',ds,ht,hv,hq⟩:=h;obtain⟨t,h1,h2⟩:=hb Ba A outer s H E hr;refine⟨t,h1,h2 ⟨P',λ _=>0⟩ P' _ H _ _ (IQ ht hv) ?_⟩;dsimp only at hq;revert hq;cases g (B6 N ds) with
 |bad|ex x=>exact λ h=>h.elim
 |ok o =>
  cases o with
  |ret d=>exact λ h v H' P2 t hv=>h v H' (BH t) hv
  |next ρ=>exact λ h σ' H' P2 t E=>h .Aw H' (BH t) .Aw
  |brk ρ|cont ρ=>exact λ h=>h.elim
  |Bi c=>exact λ h v fp H' P2 t hs ht ho hp nd=>RF h t hs ht ho hp
  |Ce d ρ=>exact λ h=>h.elim
end
section
variable {X:Cx}{WX:Str->Hp->Prop}{c:Bool}{P0:BO}{P:Addr->Prop}{H:Hp}{σ:St}{ρ:A6}{a b e tg iter:Expr}{f g:A6->M D}{ft:A6->M Bool}{pos:Pos}{gt:D->A6->M A6}{fi:A6->M (List D)}{es:List Expr}{fs:A6->M (List D)}
noncomputable def AB (μ:List (Option Nat))(ρ:A6):A6:=μ.map λ o=>o.bind λ i=>match ρ[i]? with | some (some (.val d))=>some (.val d) | _=>none
theorem DK {μ:List (Option Nat)}{ρ:A6}{j:Nat}{cl:Cl}(h:(AB μ ρ)[j]?=some (some cl)):∃i d,μ[j]?=some (some i)/\ρ[i]?=some (some (.val d))/\cl=.val d:=by
 unfold AB at h;rw[zy] at h;cases q:μ[j]? with
 |none=>rw[q] at h;cases h
 |some o =>
  rw[q] at h;cases o with
  |none=>cases h
  |some i =>
   simp only[ya,Option.bind_some,Option.some.injEq] at h;split at h
   ·rename_i d e;cases h;exact⟨i,d,rfl,e,rfl⟩
   ·cases h
theorem Ac.block {K:zc}(E:Ac K P0 P H σ ρ)(μ:List (Option Nat)):Ac K P0 P H (Ee μ σ) (AB μ ρ):=by
 refine⟨E.sub,E.BG,λ j d h=>?_,λ j ds h io=>?_,λ j k c c' v v' fp ae h _ _ _ ho _ _=>?_,by unfold Ee AB;simp,λ j c n h hp=>by obtain⟨i,d',h1,h2,h3⟩:=DK h;subst h3;cases hp⟩
 ·obtain⟨i,d',h1,h2,h3⟩:=DK h;cases h3;obtain⟨v,h4,h5⟩:=E.val i d h2;refine⟨v,?_,h5⟩;unfold Ee;rw[zy,h1];simp[h4]
 ·obtain⟨i,d',h1,h2,h3⟩:=DK h;cases h3;cases io
 ·obtain⟨i,d',h1,h2,h3⟩:=DK h;cases h3;exact ho.elim
noncomputable def AH (gt:D->A6->M A6)(ft:A6->M Bool)(fe:A6->M D):List D->A6->M (List D)
 |[],_=>.ok []
 |d::r,ρ=>match gt d ρ with
  | .ok ρ1=>(match ft ρ1 with
   | .ok k=>if k=true then (match fe ρ1 with
    | .ok y=>(match AH gt ft fe r ρ with | .ok ys=>.ok (y::ys)|_=>.bad)
    |_=>.bad) else AH gt ft fe r ρ
   |_=>.bad)
  |_=>.bad
def WU (X:Cx)(scope:Scope)(NB:List Str)(μ:List (Option Nat))(tg:Expr)(gt:D->A6->M A6):Prop:=
 ∃g:TG,(∀s H C ex,PG (blockOf X s H scope C NB ex) tg g)/\Gw μ g/\∀P0 P σ H Q ρ v d,Ac X.K P0 P H σ ρ->AW X.K (del H P) v d->gG X.K P0 P H Q (gt d ρ)->g v σ H Q
theorem Dc {scope:Scope}{NB:List Str}{μ:List (Option Nat)}(i:Nat){x:Str}(hN:NB.Nodup)(hi:NB[i]?=some x)(hx:(relabel scope X.env).names.lookup x=some .local)(hm:μ[i]?=some none):WU X scope NB μ (.Name x pos) (λ d ρ=>.ok (ρ.set i (some (.val d)))):=
 ⟨MI i,λ s H C ex=>MJ (X:=blockOf X s H scope C NB ex) hN hi (.inl hx) (.inr hx),Rv hm,λ P0 P σ H Q ρ v d E hv h=>h _ (E.NK hv)⟩
def WV (X:Cx)(cs:List Expr)(f:A6->M Bool):Prop:=
 ∃t,VY X cs t/\∀P0 P σ H Q ρ,Ac X.K P0 P H σ ρ->gT (λ _ _=>False) H Q (f ρ)->t σ H Q
theorem EF:WV X [] (λ _=>.ok true):=⟨_,Ru,λ P0 P σ H Q ρ E h=>h H (A9.refl H)⟩
noncomputable def GF (m:M (List D)):M D:=match m with | .ok ys=>.ok (.lst ys) | _=>.bad
theorem TU {μ:List (Option Nat)}{wi:TI}{gg:TG}{tc:Shared->Hp->Addr->List Addr->TT}{te:Shared->Hp->Addr->List Addr->TE}{fe:A6->M D}
 (i2:∀P0 P σ H R ρ,Ac X.K P0 P H σ ρ->(match fi ρ with | .ok ds=>∀J H',A9 H H'->M0 X.K J P H' ds->R J H' | .ex x=>∀H',A9 H H'->WX x H' | .bad=>False)->wi σ H R)
 (g2:∀P0 P σ H Q ρ v d,Ac X.K P0 P H σ ρ->AW X.K (del H P) v d->gG X.K P0 P H Q (gt d ρ)->gg v σ H Q)
 (t2:∀s H' C ex P0 P σ H Q ρ,Ac X.K P0 P H σ ρ->gT (λ _ _=>False) H Q (ft ρ)->tc s H' C ex σ H Q)
 (e2:∀s H' C ex P0 P σ H Q ρ,Ac X.K P0 P H σ ρ->gV X.K (λ _ _=>False) (Lv c P0 P) H Q (fe ρ)->te s H' C ex σ H Q) {Q:VK}
 (E:Ac X.K P0 P H σ ρ) (h:gV X.K WX (Lv c P0 P) H Q ((fi ρ).bind λ ds=>if ds.length<=1000 then GF (AH gt ft fe ds (AB μ ρ)) else .bad)):KA wi μ gg tc te σ H Q:=by
 refine i2 P0 P σ H _ ρ E ?_;cases q:fi ρ with
 |bad|ex x=>rw[q] at h;exact h
 |ok ds =>
  rw[q] at h;simp only[M.A7] at h;by_cases hd:¬ ds.length<=1000
  ·rw[if_neg hd] at h;exact h.elim
  have hd:ds.length<=1000:=by omega
  rw[if_pos hd] at h;intro J H1 s1 ok s C ex;cases qc:AH gt ft fe ds (AB μ ρ) with
  |bad|ex x=>rw[qc] at h;exact h.elim
  |ok total =>
   rw[qc] at h;unfold GF at h;dsimp only at h;have E1:=E.same s1;refine⟨λ i m ys H2=>m=ds.length-i/\i<=ds.length/\ys.length<=i/\A9 H1 H2/\∃es rest,Ab X.K (del H2 (Lv c P0 P)) ys es/\AH gt ft fe (ds.drop i) (AB μ ρ)=.ok rest/\es++rest=total,
    ⟨ds.length,by simp,zR _,zp _,A9.refl _,[],total,.nil,by rw[List.drop_zero];exact qc,rfl⟩,?_⟩
   rintro i m ys H2 ⟨rfl,hi,hy,s2,es,rest,a6,ab,aq⟩;by_cases ag:i<ds.length
   ·refine .inr ⟨ok.go i P H2 s2.del ag,Nat.lt_of_le_of_lt hy (AM (by omega)),λ aw H'=>i+1<=ds.length/\aw.length<=i+1/\A9 H1 H'/\∃es rest,Ab X.K (del H' (Lv c P0 P)) aw es/\AH gt ft fe (ds.drop (i+1)) (AB μ ρ)=.ok rest/\es++rest=total,λ aw H' hq=>⟨ds.length-(i+1),by omega,rfl,hq.1,hq.2.1,hq.2.2.1,hq.2.2.2⟩,λ v H3 y=>?_⟩;have E2:=E1.same s2;obtain⟨s3,hv⟩:=ok.R5 i P H2 v H3 ds[i] s2.del E2.BG (zu ag) y;rw[D8 ag,AH] at ab;have E3:=(E2.same s3).block μ;refine g2 P0 P _ H3 _ (AB μ ρ) v ds[i] E3 hv ?_;cases q1:gt ds[i] (AB μ ρ) with
    |bad|ex x=>rw[q1] at ab;cases ab
    |ok ρ1 =>
     rw[q1] at ab;dsimp only at ab;intro σ4 E4;refine t2 s H1 C ex P0 P σ4 H3 _ ρ1 E4 ?_;cases q2:ft ρ1 with
     |bad|ex x=>rw[q2] at ab;cases ab
     |ok k =>
      rw[q2] at ab;dsimp only at ab;intro H5 s5;cases k with
      |false =>
       simp only[zv,if_false] at ab ⊢;exact⟨ag,by omega,(s2.trans s3).trans s5,es,rest,(a6.mono s3.del).mono s5.del,ab,aq⟩
      |true =>
       simp only[if_true] at ab ⊢;refine e2 s H1 C ex P0 P σ4 H5 _ ρ1 (E4.same s5) ?_;cases q3:fe ρ1 with
       |bad|ex x=>rw[q3] at ab;cases ab
       |ok y' =>
        rw[q3] at ab;dsimp only at ab;cases q4:AH gt ft fe (ds.drop (i+1)) (AB μ ρ) with
        |bad|ex x=>rw[q4] at ab;cases ab
        |ok cG =>
         rw[q4] at ab;cases ab;intro w H6 s6 hw;refine⟨ag,by rw[zT,yn];omega,((s2.trans s3).trans s5).trans s6,es++[y'],cG,(((a6.mono s3.del).mono s5.del).mono s6.del).snoc hw,rfl,?_⟩;rw[y3];exact aq
   ·have e:i=ds.length:=by omega
    subst e;rw[yB,AH] at ab;cases ab;rw[yk] at aq;subst aq;refine .inl ⟨ok.stop _ P H2 s2.del (zp _),λ D0 hn=>h _ _ ((s1.trans s2).trans (Ay hn _)) (.lst (.of (ED hn λ a q=>(E1.same s2).W4 c a q)) (a6.mono (Ay hn _).del))⟩
theorem MU {scope:Scope}{NB:List Str}{ifs:List Expr}{elt:Expr}{fe:A6->M D}(i:Nat){x:Str}{px aY:Pos}(μ:List (Option Nat))(hN:X.N.Nodup)(ee:X.N[i]?=some x)(hx:Loc X.env.scope x)(hc:X.calm=true)(hi:DI X WX tg iter fi)(am:EB scope X.env.scope=true)(a9:Ji X.N NB scope μ=true)(hg:WU X scope NB μ tg gt)
 (ht:∀s H C ex,WV (blockOf X s H scope C NB ex) ifs ft) (he:∀s H C ex,DE (blockOf X s H scope C NB ex) (λ _ _=>False) true elt fe)
 (bS:swapsWith (.ListComp elt [⟨tg,iter,ifs,0⟩] scope pos) (some (.Name x px)) aY.line X.env=pure true:=by rfl) (hs:∀x,foldedSetIterable iter X.env x=pure x:=by intro _;rfl) (hf:X.fn x=true\/X.env.scope.names.lookup x=some .local:=by first|exact .inl rfl|exact .inr rfl|assumption):
 DS X WX (.Assign [.Name x px] (.ListComp elt [⟨tg,iter,ifs,0⟩] scope pos) aY) (λ ρ=>((fi ρ).bind λ ds=>if ds.length<=1000 then GF (AH gt ft fe ds (AB μ ρ)) else .bad).bind λ d=>.ok (.next (ρ.set i (some (.val d))))):=by
 obtain⟨wi,i1,i2⟩:=hi;obtain⟨gg,g1,gk,g2⟩:=hg;refine⟨_,Rw hN ee hx hc i1 am a9 gk (λ s H C ex=>⟨g1 s H C ex,(ze (ht s H C ex)).1,(ze (he s H C ex)).1⟩) bS hs hf,λ P0 P σ H Z ρ E h=>?_⟩;refine TU (c:=true) i2 g2 (λ s H' C ex P0 P σ H Q ρ E h=>(ze (ht s H' C ex)).2 P0 P σ H Q ρ E h) (λ s H' C ex P0 P σ H Q ρ E h=>(ze (he s H' C ex)).2 P0 P σ H Q ρ E h) E ?_;dsimp only at h;revert h;cases ((fi ρ).bind λ ds=>if ds.length<=1000 then GF (AH gt ft fe ds (AB μ ρ)) else .bad) with
 |bad=>exact λ h=>h
 |ex y=>exact λ h H' s=>h H' P (E.tr s)
 |ok d=>exact λ h v H' s hv=>h _ H' P (E.tr s) ((E.same s).NK hv)
end
section
variable {X:Cx}{WX:Str->Hp->Prop}{c:Bool}{P0:BO}{P:Addr->Prop}{H:Hp}{σ:St}{ρ:A6}{a b e k:Expr}{f g:A6->M D}{te tk:TE}{pos p2:Pos}
noncomputable def XJ (K:zc)(te tk:TE):TE:=λ σ H Q=>te σ H λ x H1=>tk σ H1 λ y H2=>∃a xs,x=.ref a/\y=.int (-1)/\C1 K H2 a xs/\∀p,H2 p=none->Q (.ref p) (upd H2 p (.lst xs.reverse))
theorem TV (he:PE X e te)(hk:PE X k tk):PE X (.Subscript e (.Slice none none (some k) p2) pos) (XJ X.K te tk):=by
 intro pins s σ H Q I h;refine Subscript_ (AV (he pins s σ H _ I h) λ v s1 ⟨x,H1,I1,r1,q1⟩=>?_);refine wpAny_Slice ?_;rw[evalPart_none];refine wpAny_pure ?_;refine wpAny_pure ?_;rw[evalPart_some];refine AV (hk pins s1 σ H1 _ I1 q1) λ vk s3 ⟨y,H3,I3,r3,q3⟩=>?_;obtain⟨a,xs,rfl,rfl,hx,q⟩:=q3;cases r1;obtain⟨t,rfl⟩:=r3;have I4:Inv X pins σ H3 {s3 with heap:=s3.heap.push {cls:=.type "slice",data:=.fields #[.none,.none,.int (-1) t]} }:=I3.kept (t':=s3.toks) λ b ob q=>zr _ q;show wpAny (model X.prog X.w) X.A (subscriptTail e (.Slice none none (some k) p2) (.ref a) (.ref s3.heap.objs.size)) (EP X pins σ Q) X.xe {s3 with heap:=s3.heap.push {cls:=.type "slice",data:=.fields #[.none,.none,.int (-1) t]} };obtain⟨aa,r,ht,hz⟩:=I4.list hx;have hlen:=r.length;refine tail_any (ops:=[.ref a,.ref s3.heap.objs.size]) ht.isList.typeIs slot_list_getitem.lookup ?_ (by with_unfolding_all rfl);refine wpAny_getItem_list_slice ht.isList (Heap.IsSliceOf.new ..) .none .none (.int (-1) t) (by decide) ?_ (by rw[zm]<;>omega);rw[PySem.W.krv_pick];exact⟨.ref _,_,I4.laid (t':=s3.toks) (o:=.lst xs.reverse) (λ b ob q=>zr _ q) (zp _) ⟨by rw[List.length_reverse];exact hz,aa.reverse,0,r.reverse,zG _ rfl⟩,rfl,q _ (I4.An.fresh (zp _))⟩
noncomputable def TX (x y:D):M D:=match x,y with | .lst ds,.int i=>if i = -1 then .ok (.lst ds.reverse) else .bad | _,_=>.bad
theorem TY (ha:DE X WX c e f)(hb:DE X WX c k g):DE X WX c (.Subscript e (.Slice none none (some k) p2) pos) (λ ρ=>(f ρ).bind λ x=>(g ρ).bind λ y=>TX x y):=by
 obtain⟨ta,a1,a2⟩:=ha;obtain⟨tb,b1,b2⟩:=hb;refine⟨_,TV a1 b1,λ P0 P σ H Q ρ E h=>KG (r:=λ x y H2 Q=>∃a xs,x=.ref a/\y=.int (-1)/\C1 X.K H2 a xs/\∀p,H2 p=none->Q (.ref p) (upd H2 p (.lst xs.reverse))) a2 b2 ?_ E h⟩;intro P H x y v w Q ht hx hy h;unfold TX at h;split at h
 ·rename_i ds i;by_cases hi:i = -1
  ·rw[if_pos hi] at h;subst hi;cases hx with
   |lst hs hl=>exact⟨_,_,rfl,hy.int_inv,hs.AZ,λ p hn=>h _ _ (Ay hn _) (.lst (.of (ED hn ht)) (hl.reverse.mono (Ay hn _).del))⟩
  ·rw[if_neg hi] at h;exact h.elim
 ·exact h.elim
noncomputable def BD:List D->Option (List Int)
 |[]=>some []
 | .int i::r=>(BD r).map (i::·)
 |_=>none
theorem F7 {K:zc}{H:Hp}:∀ {xs:List V}{ds:List D}{ns:List Int},Ab K H xs ds->BD ds=some ns->xs=ns.map V.int
 |_,_,_,.nil,e=>by simp only[BD] at e;cases e;rfl
 |_,_,_,.cons (d:=d) h t,e=>by
  cases d with
  |int i =>
   simp only[BD] at e;cases q:BD _ with
   |none=>rw[q] at e;cases e
   |some ns =>
    rw[q] at e;cases e;rw[h.int_inv,F7 t q];rfl
  |_=>simp[BD] at e
end
theorem Bx {A:Around}{k:Nat}(hr:Bv k A)(n:Nat)(hn:n<=64):A.units+n<cLine:=by have:=hr.units;omega
structure B7 (K:zc)(mg:Str->Option Value)(x:Str)(st:Stmt)(ps:List Str):Prop where
 ex:∃f fd,Og K x x st f fd/\mg x=some (.ref f)/\Binds K fd ps []
theorem Ph (ds:List D)(n:Nat):Sx none (some (n:Int)) (.lst ds)=.ok (.lst (ds.take n)):=by
 unfold Sx;dsimp only;rw[HT.Ks,HT.G0,List.drop_zero,Nat.sub_zero];congr 2;rw[Nat.min_def];split
 ·rfl
 ·rw[zZ (zp _),zZ (by omega)]
theorem AF.there {P:Program}{w:World}{H:Hp}{h:Heap}{a:Addr}{o:HO}(x:AF P w H h a o):∃ob,h.get? a=some ob:=by
 cases o with
 |lst xs=>obtain⟨_,_,_,_,e⟩:=x;exact⟨_,e⟩
 |tup xs=>obtain⟨_,_,_,o,e,_⟩:=x;exact⟨o,e⟩
 |dK kvs|dT kvs=>obtain⟨_,_,_,_,o,_,_,e,_⟩:=x;exact⟨_,e⟩
 |set S n=>obtain⟨o,_,_,_,e,_⟩:=x;exact⟨_,e⟩
 |ins C dx fs=>obtain⟨_,_,_,e,_⟩:=x;exact⟨_,e⟩
 |own y=>obtain⟨_,e⟩:=x;exact⟨_,e⟩
 |xd fs=>obtain⟨_,⟨_,_,_,e,_⟩,_⟩:=x;exact⟨_,e⟩
 |WL lo hi=>obtain⟨_,_,_,e⟩:=x;exact⟨_,e⟩
 |Cn ob u=>obtain⟨e,_⟩:=x;exact⟨_,e⟩
 |Sk ps|met f y=>exact⟨_,(show h.get? a=some _ from x)⟩
 |ext φ=>obtain⟨_,⟨_,e⟩,_⟩:=x;exact⟨_,e⟩
theorem Cp.gone {P:Program}{w:World}{H:Hp}{h:Heap}{a:Addr}(x:Cp P w H h)(e:h.get? a=none):H a=none:=by
 cases q:H a with
 |none=>rfl
 |some o=>obtain⟨ob,z⟩:=(x a o q).there;rw[e] at z;cases z
structure TZ (base g:Heap)(H:Hp)(l:List Env)(ea c:Addr)(h:Heap):Prop where
 YE:∃a0,Heap.FlyingW base l ea (.ref c) a0 h
 new:g.get? ea=none
 un:H ea=none
 tr:∀oe vs T,h.get? ea=some oe->oe.data=.fields vs->vs[1]?=some (.ref T)->H T=none/\g.get? T=none
noncomputable def Sy (P:Program)(w:World)(base:Heap):Od:=λ outer H s E ev s'=>∃(ea c:Addr) (H':Hp),ev=.ref ea/\s'.os=s.os/\AllBare s'.gens/\Un (FH outer) [] H H' s.heap s'.heap/\Cp P w H' s'.heap/\TZ base s.heap H' outer ea c s'.heap/\E (.ref c) none H'
section
variable {P:Program}{w:World}{K:zc}{mg:Str->Option Value}{base:Heap}{N:List Str}{qual:Str}{scope:Scope}{f:Addr}{cd:Value}{A:Around}{outer:List Env}{s:Shared}{H:Hp}{E:XK}
noncomputable abbrev Pj (P:Program)(w:World)(K:zc)(mg:Str->Option Value)(base:Heap)(N:List Str)(qual:Str)(scope:Scope)(f:Addr)(cd:Value)(A:Around)(outer:List Env)(s:Shared)(H:Hp)(E:XK):Cx:=
 FR (Sy P w base) P w K mg base N qual scope f cd A outer s H E
theorem Sz {pins:List (Addr×Obj)}{σ:St}{H1:Hp}{s1:Shared}{h' B:Heap}{ea c:Addr}{a0:Value}{hid:List Addr}(J:Inv (Pj P w K mg base N qual scope f cd A outer s H E) pins σ H1 s1)
 (hB:∀b o,s1.heap.get? b=some o->b∉FH (envOfC qual scope s.heap.objs.size f cd::outer)->b∉hid->(H1 b≠none\/∃o',s.heap.get? b=some o')->B.get? b=some o) (il:base.StaysIn B)
 (hh:∀b∈hid,H1 b=none/\s.heap.get? b=none) (hT:∀b,B.get? b=none->b∉FH (envOfC qual scope s.heap.objs.size f cd::outer)->H1 b=none/\s.heap.get? b=none)
 (im:s.heap.get? ea=none) (eu:H1 ea=none) (F:Heap.FlyingW B outer ea (.ref c) a0 h') (bG:s1.heap.UpToSlots h') (q:E (.ref c) none H1):
 Sy P w base outer H s E (.ref ea) {s1 with heap:=h' }:=by
 have ez:∀b∈FH outer,∃o,s1.heap.get? b=some o/\∀vs,o.data≠.fields vs:=λ b hb=>(J.F0.mem hb).2;have cH:∀b o,s.heap.get? b=some o->b≠s.heap.objs.size:=λ b o e=>zC (zq e);have Sl:∀b,b∈FH (envOfC qual scope s.heap.objs.size f cd::outer)->b=s.heap.objs.size\/b∈FH outer:=λ b hb=>by
  have aQ:b∈s.heap.objs.size::FH outer:=hb;exact zo.mp aQ
 have U:Un (FH outer) [] H H1 s.heap s1.heap:=J.base;have bd:∀b o,s.heap.get? b=some o->b∉hid:=λ b o e hb=>by rw[(hh b hb).2] at e;cases e
 have cI:∀b o,H1 b≠none->s1.heap.get? b=some o->h'.get? b=some o:=λ b o hn e=>by
  refine F.1 b o (hB b o e (λ hb=>?_) (λ hb=>hn (hh b hb).1) (.inl hn));exact hn (J.J9 b hb)
 refine⟨ea,c,H1,rfl,J.os,J.bare,⟨λ b o e n hb hx=>?_,λ b o e n hb hx=>?_,U.free,λ b o e hx=>?_,U.Gf,U.EZ,U.Gg⟩,λ b ob e=>?_,⟨⟨a0,?_⟩,im,eu,λ oe vs T h1 h2 h3=>?_⟩,q⟩
 ·refine F.1 b o (hB b o (U.keep b o e n hb hx) (λ z=>?_) (bd b o e) (.inr ⟨o,e⟩));rcases Sl b z with z|z
  ·exact cH b o e z
  ·exact hb z
 ·obtain⟨sl,e1⟩:=U.slot b o e n hb hx;obtain⟨o2,e2,nf⟩:=ez b hb;rw[e1] at e2;obtain⟨cY,e3⟩:=bG b _ e1 (by cases e2;exact nf);exact⟨cY,e3⟩
 ·obtain⟨o',e1⟩:=U.there b o e hx;by_cases hb:b∈FH outer
  ·obtain⟨o2,e2,nf⟩:=ez b hb;obtain⟨cY,e3⟩:=bG b _ e2 nf;exact⟨_,e3⟩
  ·refine⟨o',F.1 b o' (hB b o' e1 (λ z=>?_) (bd b o e) (.inr ⟨o,e⟩))⟩;rcases Sl b z with z|z
   ·exact cH b o e z
   ·exact hb z
 ·refine (J.An b ob e).Ge (λ x v hx q=>cI x v ?_ q) (λ _ q=>q) λ _ _ q=>q;rcases hx with rfl|hx
  ·rw[e];intro z;cases z
  ·rw[hx];intro z;cases z
 ·exact PySem.W.flyingW_base il F
 ·obtain⟨_,_,ff,jn,au,T',oT,ts,k1,k2,k3,k4,k5,k6,k7,k8,k9⟩:=F;rw[show ({s1 with heap:=h' }:Shared).heap.get? ea=h'.get? ea from rfl,k1] at h1;cases h1;rw[k3] at h2;cases h2;rw[k4] at h3;cases h3;refine hT T k5 λ hb=>?_;rcases Sl T hb with z|z
  ·obtain⟨m,⟨oL,es,ep,dC,e6,_⟩,_⟩:=J.loc;obtain⟨sl,e3⟩:=bG s.heap.objs.size oL dC λ vs zz=>by rw[e6] at zz;cases zz
   rw[<-z,k7] at e3;cases e3;rw[show oL.data=_ from k8] at e6;cases e6
  ·obtain⟨o2,e2,nf⟩:=ez T z;obtain⟨sl,e3⟩:=bG T o2 e2 nf;rw[k7] at e3;cases e3;exact nf ts k8
theorem Pk {l:List Env}:∀env∈l,∀a,env.frame=some a->a∈FH l:=λ env he a ha=>List.mem_filterMap.mpr ⟨env,he,ha⟩
theorem RG {pins:List (Addr×Obj)}{σ:St}{H1:Hp}{s2:Shared}{h1:Heap}{ea C:Addr}{vs:List Value}(J:Inv (Pj P w K mg base N qual scope f cd A outer s H E) pins σ H1 s2)(hx:Heap.MadeExcOf s2.heap h1 ea (.ref C) vs)(q:E (.ref C) none H1):
 (Pj P w K mg base N qual scope f cd A outer s H E).xe (.ref ea) {s2 with heap:=h1}:=by
 have J1:Inv (Pj P w K mg base N qual scope f cd A outer s H E) pins σ H1 {s2 with heap:=h1}:=J.kept (t':=s2.toks) hx.keeps;have fr:=J.stack;have bV:=Pk (l:=envOfC qual scope s.heap.objs.size f cd::outer);refine wpAny_leaves_madeW (base:=PySem.W.hideAll s2.heap (FH (envOfC qual scope s.heap.objs.size f cd::outer))) (outer:=outer) (L:=s.heap.objs.size) J.ok.frames rfl (λ b o e=>PySem.W.of_hideAll _ e) (PySem.W.funFrames_hide fr bV) hx λ h' t F ht jo bG=>?_;have be:∀b,s2.heap.get? b=none->H1 b=none/\s.heap.get? b=none:=λ b e=>by
  refine⟨J.An.gone e,?_⟩;cases q:s.heap.get? b with
  |none=>rfl
  |some o=>obtain⟨o',z⟩:=J.base.there b o q (by simp[FR]);rw[e] at z;cases z
 refine Sz (B:=PySem.W.hideAll s2.heap (FH (envOfC qual scope s.heap.objs.size f cd::outer))) (hid:=[]) J1 (λ b o e hb _ ip=>?_) (λ b o e=>?_) (λ b z=>by cases z) (λ b e hb=>?_) (be ea hx.new).2 (be ea hx.new).1 F bG q
 ·have dh:∃o2,s2.heap.get? b=some o2:=by
   rcases ip with z|⟨o',z⟩
   ·cases q2:H1 b with
    |none=>exact absurd q2 z
    |some u=>exact (J.An b u q2).there
   ·exact J.base.there b o' z (by simp[FR])
  obtain⟨o2,e2⟩:=dh;have e3:=hx.keeps b o2 e2;rw[show ({s2 with heap:=h1}:Shared).heap.get? b=h1.get? b from rfl,e3] at e;cases e;exact yh _ e2 hb
 ·refine yh _ (J.bk b o e) λ hb=>?_;have z:base.get? b=none:=(fr.mem hb).1;rw[show base.get? b=some o from e] at z;cases z
 ·refine be b ?_;cases q2:s2.heap.get? b with
  |none=>rfl
  |some o=>rw[yh _ q2 hb] at e;cases e
theorem RH:Jc (Sy P w base) (Pj P w K mg base N qual scope f cd A outer s H E) E:=by
 intro pins σ H0 s0 ev s1 I h;obtain⟨ea,c,H1,rfl,iq,ir,U,An,⟨⟨a0,F⟩,ay,gh,iu⟩,q⟩:=h;have J:Inv (Pj P w K mg base N qual scope f cd A outer s H E) pins σ H1 s1:=I.So (ch:=[]) iq U An ir λ b hb=>by cases hb
 obtain⟨f1,f2,f3,oe,vs,T,oT,ts,k1,k2,k3,k4,k5,k6,k7,k8,k9⟩:=F;have hT:=iu oe vs T k1 k3 k4;have fr:=J.stack;have entry:∀b,s0.heap.get? b=none->s.heap.get? b=none:=λ b e=>by
  cases q:s.heap.get? b with
  |none=>rfl
  |some o=>obtain⟨o',z⟩:=I.base.there b o q (by simp[FR]);rw[e] at z;cases z
 have bV:∀env∈(envOfC qual scope s.heap.objs.size f cd::outer),∀a,env.frame=some a->a∈FH (envOfC qual scope s.heap.objs.size f cd::outer)++[ea,T]:=λ env he a ha=>zB _ (Pk env he a ha);have FB:Heap.FlyingW (PySem.W.hideAll s1.heap (FH (envOfC qual scope s.heap.objs.size f cd::outer)++[ea,T])) (envOfC qual scope s.heap.objs.size f cd::outer) ea (.ref c) a0 s1.heap:=
  ⟨λ b o e=>PySem.W.of_hideAll _ e,PySem.W.hideAll_none _ (by simp),PySem.W.funFrames_hide fr bV,oe,vs,T,oT,ts,k1,k2,k3,k4,PySem.W.hideAll_none _ (by simp),k6,k7,k8,k9⟩
 refine wpAny_leaves_onW (outer:=outer) (L:=s.heap.objs.size) J.ok.frames rfl FB λ h' F' bG=>?_;have cJ:∀b,s1.heap.get? b=none->H1 b=none/\s.heap.get? b=none:=λ b e=>by
  refine⟨J.An.gone e,?_⟩;cases q:s.heap.get? b with
  |none=>rfl
  |some o=>obtain⟨o',z⟩:=J.base.there b o q (by simp[FR]);rw[e] at z;cases z
 have hid:∀b∈[ea,T],H1 b=none/\s.heap.get? b=none:=λ b hb=>by
  rcases zo.mp hb with z|z
  ·rw[z];exact⟨gh,entry ea ay⟩
  ·rw[zl.mp z];exact⟨hT.1,entry T hT.2⟩
 refine Sz (hid:=[ea,T]) J (λ b o e hb cr _=>yh _ e λ z=>(zE.mp z).elim hb cr) (λ b o e=>?_) hid (λ b e hb=>?_) (entry ea ay) gh F' bG q
 ·refine yh _ (J.bk b o e) λ hb=>?_;rcases zE.mp hb with hb|hb
  ·have z:base.get? b=none:=(fr.mem hb).1;rw[show base.get? b=some o from e] at z;cases z
  ·rcases zo.mp hb with z|z
   ·rw[z] at e;rw[show base.get? ea=some o from e] at f2;cases f2
   ·rw[zl.mp z] at e;rw[show base.get? T=some o from e] at k5;cases k5
 ·by_cases cr:b∈[ea,T]
  ·exact hid b cr
  ·refine cJ b ?_;cases q2:s1.heap.get? b with
   |none=>rfl
   |some o=>rw[yh _ q2 λ z=>(zE.mp z).elim hb cr] at e;cases e
end
structure XCall (X:Cx)(E:XK):Prop where
 call:Jc (Sy X.prog X.w X.base) X E
 own:PassesOwn (model X.prog X.w) X.A X.env X.xe
structure Yb (X:Cx)(E:XK):Prop extends XCall X E where
 made:∀pins σ H s h' ea C vs,Inv X pins σ H s->Heap.MadeExcOf s.heap h' ea (.ref C) vs->E (.ref C) none H->X.xe (.ref ea) {s with heap:=h' }
theorem As {P:Program}{w:World}{K:zc}{mg:Str->Option Value}{base:Heap}{N:List Str}{qual:Str}{scope:Scope}{f:Addr}{cd:Value}{A:Around}{outer:List Env}{s:Shared}{H:Hp}{E:XK}:
 Yb (Pj P w K mg base N qual scope f cd A outer s H E) E:=⟨⟨RH,PassesOwn.leaving⟩,λ _ _ _ _ _ _ _ _ J hx q=>RG J hx q⟩
theorem F8 {X:Cx}(h:X.xe=λ _ _=>False):Yb X E0:=⟨⟨λ _ _ _ _ _ _ _ h=>by obtain⟨_,_,_,_,_,_,_,_,_,q⟩:=h;exact q.elim,by rw[h];exact PassesOwn.never⟩,λ _ _ _ _ _ _ _ _ _ _ q=>q.elim⟩
def GG (K:zc)(E:XK):Str->Hp->Prop:=λ x H=>∃c,zi K mainGlobals x=some (some (.ref c))/\E (.ref c) none H
section
variable {X:Cx}{WX:Str->Hp->Prop}{c:Bool}{a b e:Expr}{f g:A6->M D}{pos p:Pos}
noncomputable def Yc (x y:D):M D:=match x,y with
 | .int i,.int j=>.ok (.int (i+j))
 | .lst ds,.lst es=>if ds.length+es.length<=1000 then .ok (.lst (ds++es)) else .bad
 |_,_=>.bad
noncomputable def WW (neg:Bool)(x y:D):M D:=match x,y with
 | .int i,.lst ds=>(match BD ds with|some ns=>.ok (.bl (if neg then !ns.contains i else ns.contains i))|none=>.bad)
 |_,_=>.bad
theorem Pm (i:Int)(ns:List Int):ON (.int i) (ns.map V.int)=ns.contains i:=by
 unfold ON;induction ns with
 |nil=>rfl
 |cons n r ih =>
  rw[zj,y4,ih,List.contains_cons];congr 1;show (n==i)=(i==n);rw[Bool.eq_iff_iff,beq_iff_eq,beq_iff_eq];exact eq_comm
theorem NM (ns:List Int):(ns.map V.int).all Ez=true:=by
 induction ns with
 |nil=>rfl
 |cons n r ih=>rw[zj,List.all_cons,ih];rfl
theorem Dd {neg:Bool}:LQ X.K WX (WR X.K neg) (WW neg):=by
 intro P H x y v w Q ht hx hy h;unfold WW at h;split at h
 ·rename_i i ds;split at h
  ·rename_i ns hn;cases hx;cases hy with
   |lst h1 h2 =>
    have e:=F7 h2 hn;subst e;refine⟨_,_,rfl,.inl h1.AZ,rfl,NM ns,?_⟩;rw[Pm];exact h _ H (A9.refl H) (.bl _)
  ·exact h.elim
 ·exact h.elim
end
noncomputable def one (x:Str)(b:Bool):Str->Option Bool:=λ y=>if y=x then some b else none
def KJ (i j:Int):Prop:=(i.natAbs<2^1000/\j.natAbs<2^1000)\/OD i j
instance (i j:Int):Decidable (KJ i j):=by unfold KJ;infer_instance
theorem IR {i:Int}(h:i.natAbs<2^1000):zO i<=2^20:=by
 unfold zO;split
 ·exact zR _
 ·rename_i z;have h0:i.natAbs≠0:=λ q=>z (by rw[Int.natAbs_eq_zero.mp q];rfl);have:=(Nat.log2_lt h0).mpr h;have h3:(1000:Nat)<=2^20:=by decide
  exact zY this h3
theorem KJ.ok {i j:Int}(h:KJ i j):IntMulOk i j:=by
 rcases h with ⟨h1,h2⟩|h
 ·exact IntMulOk.of_bits (IR h1) (IR h2)
 ·exact h.ok
theorem F9 (ns:List Int):BD (ns.map D.int)=some ns:=by
 induction ns with
 |nil=>rfl
 |cons n r ih=>rw[zj,BD,ih];rfl
theorem Pn (ds:List D)(n:Nat):Sx (some (n:Int)) none (.lst ds)=.ok (.lst (ds.drop n)):=by
 unfold Sx;dsimp only;rw[HT.Ks,HT.G0];congr 2;by_cases h:n<=ds.length
 ·rw[Nat.min_eq_left h,zZ (by rw[yA];exact zp _)]
 ·rw[Nat.min_eq_right (by omega),List.drop_of_length_le (zp _),List.drop_of_length_le (by omega),List.take_nil]
def Pl (n:Nat)(d:D):Prop:=E9 d<=n/\Am d=true
theorem Jo {n:Nat}:∀ {ds:List D},(∀d∈ds,E9 d<=n)->FU ds<=n
 |[],_=>by rw[FU];exact zR _
 |d::r,h=>by
  rw[FU];exact Nat.max_le.mpr ⟨h d zd,Jo λ d hd=>h d (zf _ hd)⟩
theorem Jp:∀ {ds:List D},(∀d∈ds,Am d=true)->Gx ds=true
 |[],_=>by rw[Gx]
 |d::r,h=>by
  rw[Gx,h d zd,Jp λ d hd=>h d (zf _ hd)];rfl
theorem BC {n:Nat}(i:Int):Pl n (.int i):=⟨by rw[E9];exact zR _;all_goals simp,by rw[Am];all_goals simp⟩
theorem Po {n:Nat}:Pl n .Aw:=⟨by rw[E9];exact zR _;all_goals simp,by rw[Am];all_goals simp⟩
theorem Jq {n:Nat}{ds:List D}(h:∀d∈ds,Pl n d):Pl (n+1) (.tup ds):=
 ⟨by rw[E9];exact Nat.succ_le_succ (Jo λ d hd=>(h d hd).1),by rw[Am];exact Jp λ d hd=>(h d hd).2⟩
theorem Pp {n:Nat}{ds:List D}(h:∀d∈ds,Pl n d):Pl (n+1) (.lst ds):=
 ⟨by rw[E9];exact Nat.succ_le_succ (Jo λ d hd=>(h d hd).1),by rw[Am];exact Jp λ d hd=>(h d hd).2⟩
theorem RI {n:Nat}(ns:List Int):Pl (n+1) (.lst (ns.map D.int)):=Pp λ d hd=>by
 obtain⟨i,_,rfl⟩:=List.mem_map.mp hd;exact BC i
theorem Pl.le {n m:Nat}{d:D}(h:Pl n d)(k:n<=m):Pl m d:=⟨zY h.1 k,h.2⟩
theorem Jr {n:Nat}:∀d∈([]:List D),Pl n d:=λ d h=>by cases h
theorem Bu {n:Nat}{d:D}{ds:List D}(h:Pl n d)(t:∀d∈ds,Pl n d):∀e∈d::ds,Pl n e:=λ e he=>by
 rcases zo.mp he with rfl|he
 ·exact h
 ·exact t e he
theorem Pq {n:Nat}{x y:D}(h:Pl n x)(k:Pl n y):Sv n x y=.ok (.bl (Aj x y)):=by
 unfold Sv;rw[if_pos ⟨h.1,h.2,k.2⟩]
theorem U0 {n:Nat}{x y:D}(h:Pl n x)(k:Pl n y):Ve n x y=.ok (.bl (!Aj x y)):=by
 unfold Ve;rw[if_pos ⟨h.1,h.2,k.2⟩]
theorem Pr {n:Nat}{x:D}(h:Pl n x):Sv n x x=.ok (.bl true):=by rw[Pq h h,D3]
theorem RJ (ds:List D)(a b:Nat):Sx (some (a:Int)) (some (b:Int)) (.lst ds)=.ok (.lst ((ds.drop a).take (b-a))):=by
 unfold Sx;dsimp only;rw[HT.G0,HT.G0];congr 2;by_cases h:a<=ds.length
 ·rw[Nat.min_eq_left h];by_cases h2:b<=ds.length
  ·rw[Nat.min_eq_left h2]
  ·rw[Nat.min_eq_right (by omega),zZ (by rw[yA];exact zp _),zZ (by rw[yA];omega)]
 ·rw[Nat.min_eq_right (show ds.length<=a by omega),List.drop_of_length_le (zp _),List.drop_of_length_le (show ds.length<=a by omega),List.take_nil,List.take_nil]
section
variable {X:Cx}{WX:Str->Hp->Prop}{c:Bool}{P0:BO}{P:Addr->Prop}{H:Hp}{σ:St}{ρ:A6}{a b e:Expr}{f g:A6->M D}{ft gt:A6->M Bool}{pos:Pos}{st:Stmt}{rest:List Stmt}{g1 g2:A6->M Out}
noncomputable def Ai (c:A6->M Bool)(b:A6->M Out):Nat->A6->M Out
 |0,_=>.bad
 |n+1,ρ=>match c ρ with
  | .ok true=>(match b ρ with
   | .ok (.next ρ')| .ok (.cont ρ')=>Ai c b n ρ'
   | .ok (.brk ρ')=>.ok (.next ρ')
   |r=>r)
  | .ok false=>.ok (.next ρ)
  | .ex x=>.ex x
  | .bad=>.bad
noncomputable def FJ (c:A6->M Bool)(b:A6->M Out)(ρ:A6):M Out:=
 @dite _ (∃n,Ai c b n ρ≠.bad) (Classical.propDecidable _) (λ h=>Ai c b (zA h) ρ) (λ _=>.bad)
theorem Bb {c:A6->M Bool}{b:A6->M Out}:∀ {n:Nat}{ρ:A6},Ai c b n ρ≠.bad->∀m,Ai c b (n+m) ρ=Ai c b n ρ
 |0,ρ,h,m=>(h rfl).elim
 |n+1,ρ,h,m=>by
  rw[show n+1+m=(n+m)+1 by omega];rw[Ai] at h;rw[Ai,Ai];cases q:c ρ with
  |bad|ex x=>rfl
  |ok k =>
   rw[q] at h;cases k with
   |false=>rfl
   |true =>
    dsimp only at h ⊢;cases q2:b ρ with
    |bad|ex x=>rfl
    |ok o =>
     rw[q2] at h;cases o with
     |next ρ'=>dsimp only at h ⊢;exact Bb h m
     |cont ρ'=>dsimp only at h ⊢;exact Bb h m
     |brk ρ'=>rfl
     |ret d|Bi d|Ce d ρ2=>rfl
theorem Pt {c:A6->M Bool}{b:A6->M Out}{n:Nat}{ρ:A6}(h:Ai c b n ρ≠.bad):FJ c b ρ=Ai c b n ρ:=by
 unfold FJ;have hx:∃n,Ai c b n ρ≠.bad:=⟨n,h⟩;rw[dif_pos hx];have hc:=ze hx;have e1:=Bb h (zA hx);have e2:=Bb hc n;rw[Nat.add_comm] at e2;rw[<-e1,e2]
theorem NO {c:A6->M Bool}{b:A6->M Out}{ρ:A6}(h:FJ c b ρ≠.bad):∃n,Ai c b n ρ≠.bad/\FJ c b ρ=Ai c b n ρ:=by
 by_cases hx:∃n,Ai c b n ρ≠.bad
 ·obtain⟨n,hn⟩:=hx;exact⟨n,hn,Pt hn⟩
 ·exact (h (by unfold FJ;rw[dif_neg hx])).elim
theorem Wd {K:zc}{Z:Ends}{m:M Out}(h:gS K WX P0 P H Z m):m≠.bad:=λ e=>by rw[e] at h;exact h
theorem Pu {body:List Stmt}(hp:PassesOwn (model X.prog X.w) X.A X.env X.xe)(hc:DT X WX a ft)(hb:NJ X WX body g1):DS X WX (.While a body [] pos) (FJ ft g1):=by
 obtain⟨tc,c1,c2⟩:=hc;obtain⟨tb,b1,b2⟩:=hb;refine⟨_,OB hp c1 b1,λ P0 P σ H Z ρ E h=>?_⟩;obtain⟨n,hn,en⟩:=NO (Wd h);rw[en] at h;refine⟨λ m σ' H'=>∃ρ' P',Ac X.K P0 P' H' σ' ρ'/\Tr P0 P H P' H'/\gS X.K WX P0 P' H' Z (Ai ft g1 m ρ'),⟨n,ρ,P,E,Tr.refl,h⟩,?_⟩;rintro m σ1 H1 ⟨ρ1,P1,E1,t1,h1⟩;cases m with
 |zero=>exact h1.elim
 |succ m =>
  rw[Ai] at h1;refine c2 P0 P1 σ1 H1 _ ρ1 E1 ?_;cases q:ft ρ1 with
  |bad=>rw[q] at h1;exact h1
  |ex x=>rw[q] at h1;exact λ H2 s2=>h1 H2 P1 (E1.tr s2)
  |ok k =>
   rw[q] at h1;intro H2 s2;have E2:=E1.same s2;cases k with
   |false =>
    rw[if_neg (by simp)];exact h1 σ1 H2 P1 (E1.tr s2) E2
   |true =>
    rw[if_pos rfl];dsimp only at h1;refine⟨λ σ' H'=>∃ρ' P',Ac X.K P0 P' H' σ' ρ'/\Tr P0 P H P' H'/\gS X.K WX P0 P' H' Z (Ai ft g1 m ρ'),λ σ' H' z=>⟨m,Nat.lt_succ_self m,z⟩,?_⟩;refine b2 P0 P1 σ1 H2 _ ρ1 E2 ?_;cases q2:g1 ρ1 with
    |bad=>rw[q2] at h1;exact h1
    |ex x=>rw[q2] at h1;exact λ H3 P3 t3=>h1 H3 P3 ((E1.tr s2).trans t3)
    |ok o =>
     rw[q2] at h1;have t2:=t1.trans (E1.tr s2);cases o with
     |next ρ'=>exact λ σ3 H3 P3 t3 E3=>⟨ρ',P3,E3,t2.trans t3,h1.tr ((E1.tr s2).trans t3)⟩
     |cont ρ'=>exact λ σ3 H3 P3 t3 E3=>⟨ρ',P3,E3,t2.trans t3,h1.tr ((E1.tr s2).trans t3)⟩
     |brk ρ'=>exact λ σ3 H3 P3 t3 E3=>h1 σ3 H3 P3 ((E1.tr s2).trans t3) E3
     |ret d=>exact λ v H3 P3 t3 hv=>h1 v H3 P3 ((E1.tr s2).trans t3) hv
     |Bi d=>exact λ v fp H3 P3 t3=>h1 v fp H3 P3 ((E1.tr s2).trans t3)
     |Ce d ρ2=>exact λ v fp σ3 H3 P3 t3=>h1 v fp σ3 H3 P3 ((E1.tr s2).trans t3)
noncomputable def Yd (ds:List D):M D:=match ds with
 |[.int i]=>.ok (.int i)
 |[.bl b]=>.ok (.int (if b then 1 else 0))
 |_=>.bad
noncomputable def De:List D->Option (List Bool)
 |[]=>some []
 | .bl b::r=>(De r).map (b::·)
 |_=>none
theorem GH (bs:List Bool):De (bs.map D.bl)=some bs:=by
 induction bs with
 |nil=>rfl
 |cons b r ih=>rw[zj,De,ih];rfl
theorem GI:∀ {ds:List D}{bs:List Bool},De ds=some bs->ds=bs.map D.bl
 |[],bs,h=>by cases h;rfl
 | .bl b::r,bs,h=>by
  rw[De] at h;cases q:De r with
  |none=>rw[q] at h;cases h
  |some iw=>rw[q] at h;cases h;rw[GI q];rfl
 | .Aw::r,bs,h| .int _::r,bs,h| .str _::r,bs,h| .tup _::r,bs,h| .lst _::r,bs,h| .BY _::r,bs,h| .AS _ _ _::r,bs,h| .ins _ _ _::r,bs,h=>by cases h
theorem GJ {K:zc}{H:Hp}:∀ {vs:List V}{bs:List Bool},Ab K H vs (bs.map D.bl)->vs=bs.map V.bl
 |_,[],.nil=>rfl
 |_,b::r,.cons h t=>by cases h;rw[GJ t];rfl
theorem GK:∀ {bs:List Bool}{us:List Value},Vals (bs.map V.bl) us->LSm.BoolsAre us bs
 |[],_,.nil=>.nil
 |b::r,_,.cons h t=>by cases h;exact .cons b (GK t)
theorem GL (hc:X.calm=true):Ey X (.builtin "all") (λ xs H Q=>∃p bs,xs=[.ref p]/\C1 X.K H p (List.map V.bl bs)/\Q (.bl (bs.all id)) H):=by
 intro pins s σ H xs us Q I r h;obtain⟨p,bs,rfl,hq,q⟩:=h;obtain⟨u,rfl,rx⟩:=vals1 r;cases rx;obtain⟨aa,r',pl,hz⟩:=I.list hq;have hl:=pl.isList;have hb:=GK r';have ag:p<s.heap.objs.size:=by obtain⟨_,e,_⟩:=hl;exact zq e
 refine call_all_walk (wpAny_pyIter_list hl ?_);refine⟨s.heap.objs.size,[s.heap.objs.size,p],[s.heap.objs.size],aa.toArray.size,_,_,λ i=>(bs[i]?).getD true,rfl,Walks.list (A:=X.A.in1) (I.ok.hd hc) _ p (zC ag) aa.toArray,
  ⟨⟨_,zG _ rfl,rfl,rfl⟩,hl.push _⟩,λ i v s' Q' E' hP hQ=>?_,λ h' tk hk=>?_⟩
 ·obtain⟨b,e,rfl⟩:=hb.get i v (by simpa using hP);simp only[e,Option.getD_some] at hQ;exact wpAny_truthy_bool hQ
 ·have e:((yt aa.toArray.size).all λ i=>(bs[i]?).getD true)=bs.all id:=by
   rw[zm,hb.length];exact LSm.range_all bs
  rw[e];exact⟨.bl _,H,I.kept (t':=tk) (LSm.kept_iter hk),rfl,q⟩
noncomputable def M3 (ds:List D):M D:=match ds with
 |[.lst xs]=>(match De xs with|some bs=>.ok (.bl (bs.all id))|none=>.bad)
 |_=>.bad
theorem U1:IM X.K WX (λ xs H Q=>∃p bs,xs=[.ref p]/\C1 X.K H p (List.map V.bl bs)/\Q (.bl (bs.all id)) H) M3:=by
 intro P H ds vs Q ht hl h;unfold M3 at h;split at h
 ·rename_i xs;obtain⟨v,rfl,hv⟩:=hl.one;split at h
  ·rename_i bs eb;have:=GI eb;subst this;cases hv with
   |lst hs hh =>
    have:=GJ hh;subst this;exact⟨_,bs,rfl,hs.AZ,h _ H (A9.refl H) (.bl _)⟩
  ·exact h.elim
 ·exact h.elim
theorem Pw {p:Pos}(hc:X.calm=true)(hg:Gl X "all")(hm:X.mg "all" = none)(ha:DE X WX c e f)(hb:bootBuiltins "all" = some (.builtin "all"):=by decide +kernel)(hs:starEach [e] X.env=[(false,eval e X.env)]:=by rfl):DE X WX c (.Call (.Name "all" p) [e] [] pos) (λ ρ=>((f ρ).bind λ d=>(M.ok []).bind λ ds=>.ok (d::ds)).bind M3):=
 EE (GL hc) U1 hg hm hb (A2 ha Ah hs) (he:=hs)
end
def Sm (n:Int):Prop:=zO n<=2^20
theorem Px:∀ {ns:List Int},W.WData.weightAll (ns.map W.WData.int)<=2^20->∀n∈ns,Sm n
 |m::r,h,n,hn=>by
  rw[zj,W.WData.weightAll,W.WData.weight] at h;rcases zo.mp hn with rfl|hn
  ·unfold Sm zO;omega
  ·exact Px (by omega) n hn
theorem We {ns:List Int}(h:W.WData.layableAll [W.WData.list (ns.map W.WData.int)]=true):∀n∈ns,Sm n:=by
 unfold W.WData.layableAll at h;rw[List.all_cons,zL] at h;have h1:=h.1;unfold W.WData.layable at h1;rw[zL,decide_eq_true_eq,W.WData.weight] at h1;exact Px h1.2
end L2
namespace HT
open PySem PySem.W PyProof.Rows Spec Calls fX
theorem IS {l:OpenLaw}{n:Nat}{q:Program}{loose:List Str}{XP:(Str->Option Value)->Heap->Prop}{YP:World->Heap->Prop}{d:DefRec}
 (hn:l.most=some n) (bW:d.params.defaults=[])
 (run:∀(w:World) (s₀ s₁:Shared) (mg mb:Str->Option Value) (fa:Addr) (o:Obj) (pm cd doc:Value) (a:Addr) (vs:List Value) (ns:List Int),(∀n∈ns,L2.Sm n)->
  Ground q loose [] XP w s₀ mg mb s₁.heap->YP w s₁.heap->s₁.heap.get? fa=some o->o.data=.func (docDef d.name d.params d.body d.scope pm cd doc)->s₁.heap.CodeRec cd d.name->mg d.name=some (.ref fa)->
  s₁.heap.get? a=some {cls:=.type "list",data:=.seq vs.toArray}->IntsAre vs ns->ns.length<=n->s₁.gens=#[]->
  codeAny (model l.prog w) callerA (.call (.ref fa) ⟨[.ref a],[]⟩) (λ r s'=>r=.ok (.ret (.bool true))/\OldK s₁.heap s'.heap/\s'.os=s₁.os/\AllBare s'.gens) s₁):
 WalkO q loose XP YP l.row.toRowW d [] (λ f vs=>PySem.call f vs):=by
 intro w s₀ s₁ mg mb G Y fa o pm cd doc dV kV ho hd a4 hD bX hg args vals as bx e7 jp dP jq;obtain rfl:dV=.none:=Dflts.none hD bW;obtain rfl:kV=.none:=Dflts.noKw hD;obtain⟨a,vs,ns,rfl,rfl,bf,az,hlen⟩:=NC hn bx dP;refine enter_call (codeAny_mono (run w s₀ s₁ mg mb fa o pm cd doc a vs ns (L2.We e7) G Y ho (fd_plain hd) a4 bX bf az hlen hg) λ r s' hq=>?_);obtain⟨rfl,h2,h3,h4⟩:=hq;exact⟨.inl ⟨.bool true,.bool true,[],rfl,λ _=>rfl,.bool true,ND l _,λ _=>⟨List.Pairwise.nil,λ _ hm=>(nomatch hm)⟩⟩,h2,h3,h4⟩
end HT
namespace L2
open PySem PySem.Spec PyProof.Rows
theorem WY {l:PySem.W.OpenLaw}{n k:Nat}{q:Program}{loose:List Str}{XP:(Str->Option Value)->Heap->Prop}{YP:World->Heap->Prop}{d:DefRec}{K:Params->zc}{CX:World->Od}{sp:World->Sp}{x:Str}
 (hn:l.most=some n) (av:n<=sizeLine) (bW:d.params.defaults=[]) (hr:Bv k callerA) (hY:∀(w:World) (h:Heap),YP w h->(K w.params).In h)
 (F:∀(w:World) (mg:Str->Option Value) (fa:Addr) (h:Heap),(K w.params).In h->h.Ns mainGlobals mg->mg d.name=some (.ref fa)->∃fd:FuncData,(∀(s:Shared) (u:Value),BindsTo s fd ⟨[u],[]⟩ [(x,u)])/\
  ∀base:Heap,(K w.params).In base->base.Ns mainGlobals mg->DY l.prog w (K w.params) mg base (CX w) k fa fd [x] (sp w))
 (bp:∀(w:World) (H:Hp) (a:Addr) (ns:List Int),(∀n∈ns,Sm n)->ns.length<=n->Rl H->C1 (K w.params) H a (ns.map V.int)->sp w [.ref a] H (λ v _=>v=.bl true) λ _ _ _=>False)
 (c9:∀(w:World) (H:Hp) (s:Shared) (e:Value) (s':Shared),CX w [] H s (λ _ _ _=>False) e s'->False):PySem.W.WalkO q loose XP YP l.row.toRowW d [] (λ f vs=>PySem.call f vs):=by
 refine HT.IS hn bW λ w s₀ s₁ mg mb fa o pm cd doc a vs ns bg G Y ho hd a4 bX bf az hlen hg=>?_;have KX:=hY w _ Y;obtain⟨fd,hb,hF⟩:=F w mg fa _ KX G.T.g bX;exact Ku KX G.T.g G.T.b G.T.builtins G.T.nolimit hg bf az (zY hlen av) hr hF hb (λ H hO hS=>bp w H a ns bg hlen hO hS) λ H e s'=>c9 w H s₁ e s'
theorem RK {F:List D->M D}(h:∀ns:List Int,ns.length<=63->(∀n∈ns,Sm n)->F [.lst (ns.map D.int)]=.ok (.bl true))(K:zc)(H:Hp)(a:Addr)(ns:List Int)(bg:∀n∈ns,Sm n)(hl:ns.length<=63)(hS:C1 K H a (ns.map V.int)):M2 K 1 F [.ref a] H (λ v _=>v=.bl true) λ _ _ _=>False:=by
 refine⟨rfl,λ _=>False,[.lst (ns.map D.int)],λ _ z=>z.elim,.cons (.lst ?_ (Ab.ints ns)) .nil,?_⟩
 ·have e:del H (λ _=>False)=H:=by funext b;exact Ao (λ z=>z)
  rw[e];exact hS
 ·rw[h ns hl bg];exact λ v H' s hv=>hv.GB
def IT (i j:Int):Prop:=(zO i<=2^20+1/\zO j<=2^10)\/KJ i j
theorem NP {a b:Int}(h:zO a+zO b<=2^21):IntMulOk a b:=by
 have e:(2:Nat)^21=2097152:=by decide
 have h2:Builtin.Int.intTooBig (zO a+zO b)=false:=by
  unfold Builtin.Int.intTooBig bitsLine;exact decide_eq_false (by omega)
 unfold IntMulOk;rw[h2];simp
theorem IT.ok {i j:Int}(h:IT i j):IntMulOk i j:=by
 rcases h with ⟨h1,h2⟩|h
 ·exact NP (by omega)
 ·exact h.ok
theorem RL {X:Cx}:Ex X (binaryOp .Mult) (rI IT λ i j=>.int (i*j)):=WO λ _ _ _ _ _ _ _ hc q=>mul_int q hc.ok
noncomputable instance (i j:Int):Decidable (IT i j):=Classical.propDecidable _
noncomputable def GN:=AQ λ i j=>if IT i j then .ok (.int (i*j)) else .bad
theorem EG {i j:Int}(h:IT i j):GN (.int i) (.int j)=.ok (.int (i*j)):=by
 unfold GN AQ;dsimp only;rw[if_pos h]
theorem G6 {X:Cx}{WX:Str->Hp->Prop}{c:Bool}{a b:Expr}{f g:A6->M D}{pos:Pos}(ha:DE X WX c a f)(hb:DE X WX c b g):DE X WX c (.BinOp a .Mult b pos) (λ ρ=>(f ρ).bind λ x=>(g ρ).bind λ y=>GN x y):=IK RL (Jk λ _ _ _ _=>.int _) ha hb
mutual
noncomputable def IU:D->Bool
 | .tup a=>Py a
 | .lst _| .BY _| .AS _ _ _| .ins _ _ _=>false
 |_=>true
noncomputable def Py:List D->Bool
 |[]=>true
 |a::r=>IU a&&Py r
end
theorem MV {H:Hp}{P0 P:Addr->Prop}{a:Addr}{xs:List V}(ht:∀a,P a->Cd H a)(h:del H P0 a=some (.tup xs)):del H P a=some (.tup xs):=by
 obtain⟨h1,h2⟩:=Ag h;rw[Ao λ z=>by
  obtain⟨o',q,r⟩:=ht a z;rw[h2] at q;cases q;exact (r xs).1 rfl]
 exact h2
mutual
theorem AW.IU {K:zc}{H:Hp}{P0 P:Addr->Prop}(ht:∀a,P a->Cd H a):∀ {v:V}{d:D},IU d=true->AW K (del H P0) v d->AW K (del H P) v d
 |_,_,_,.Aw=>.Aw
 |_,_,_,.bl b=>.bl b
 |_,_,_,.int i=>.int i
 |_,_,_,.str x=>.str x
 |_,_,n,.tup h r=>.tup (MV ht h) (Ab.IU ht (by rw[L2.IU] at n;exact n) r)
 |_,_,n,.lst h r|_,_,n,.BY h r|_,_,n,.E5 h r|_,_,n,.D2 h r|_,_,n,.ins _ h r=>by rw[L2.IU] at n;cases n
theorem Ab.IU {K:zc}{H:Hp}{P0 P:Addr->Prop}(ht:∀a,P a->Cd H a):∀ {vs:List V}{ds:List D},Py ds=true->Ab K (del H P0) vs ds->Ab K (del H P) vs ds
 |_,_,_,.nil=>.nil
 |_,_,n,.cons h t=>by
  rw[Py,zL] at n;exact .cons (AW.IU ht n.1 h) (Ab.IU ht n.2 t)
end
noncomputable def dp (m:M D):M D:=m.bind λ d=>if IU d=true then .ok d else .bad
theorem RM {X:Cx}{WX:Str->Hp->Prop}{e:Expr}{f:A6->M D}(h:DE X WX false e f):DE X WX true e (λ ρ=>dp (f ρ)):=by
 obtain⟨t,h1,h2⟩:=h;refine⟨t,h1,λ P0 P σ H Q ρ E g=>h2 P0 P σ H Q ρ E ?_⟩;unfold dp at g;dsimp only at g;cases e:f ρ with
 |ok d =>
  rw[e] at g;simp only[M.A7] at g;by_cases hf:IU d=true
  ·rw[if_pos hf] at g;exact λ v H' s hv=>g v H' s (hv.IU (E.same s).BG hf)
  ·rw[if_neg hf] at g;exact g.elim
 |ex x|bad=>rw[e] at g;exact g
section
variable {α:Type}(lt:α->α->Prop)
def GO:List α->List α->Prop
 |y::ys,x::xs=>(lt y x/\ys.length=xs.length)\/(y=x/\GO ys xs)
 |_,_=>False
theorem GO.len:∀ {ys xs:List α},GO lt ys xs->ys.length=xs.length
 |y::ys,x::xs,h=>by
  rcases h with ⟨_,h⟩|⟨_,h⟩
  ·rw[zt,zt,h]
  ·rw[zt,zt,GO.len h]
 |[],[],h|[],_::_,h|_::_,[],h=>h.elim
theorem Pz (n:Nat)(ih:∀xs:List α,xs.length=n->Acc (GO lt) xs){x:α}(hx:Acc lt x):∀ {xs:List α},xs.length=n->Acc (GO lt) xs->Acc (GO lt) (x::xs):=by
 induction hx with
 |intro x _ ix =>
  intro xs hl b6;induction b6 with
  |intro xs _ e8 =>
   refine .intro _ λ zs h=>?_;cases zs with
   |nil=>exact h.elim
   |cons y ys =>
    rcases h with ⟨h1,h2⟩|⟨h1,h2⟩
    ·exact ix y h1 (h2.trans hl) (ih ys (h2.trans hl))
    ·subst h1;exact e8 ys h2 ((GO.len lt h2).trans hl)
theorem GP (h:∀x,Acc lt x):∀(n:Nat) (xs:List α),xs.length=n->Acc (GO lt) xs
 |0,[],_=>.intro _ λ zs h=>by cases zs<;>exact h.elim
 |n+1,x::xs,e=>Pz lt n (GP h n) (h x) (by simpa using e) (GP h n xs (by simpa using e))
theorem MW:∀ {xs:List α}{i:Nat}{y:α}{x:α},xs[i]?=some x->lt y x->GO lt (xs.set i y) xs
 |[],_,_,_,h,_=>by cases h
 |z::zs,0,y,x,h,hl=>by
  cases h;exact .inl ⟨hl,rfl⟩
 |z::zs,i+1,y,x,h,hl=>.inr ⟨rfl,MW (by simpa using h) hl⟩
theorem GO.trans (ht:∀a b c,lt a b->lt b c->lt a c):∀ {xs ys zs:List α},GO lt xs ys->GO lt ys zs->GO lt xs zs
 |x::xs,y::ys,z::zs,h1,h2=>by
  rcases h1 with ⟨a,b⟩|⟨rfl,b⟩
  ·rcases h2 with ⟨c,d⟩|⟨rfl,d⟩
   ·exact .inl ⟨ht _ _ _ a c,b.trans d⟩
   ·exact .inl ⟨a,b.trans (GO.len lt d)⟩
  ·rcases h2 with ⟨c,d⟩|⟨rfl,d⟩
   ·exact .inl ⟨c,(GO.len lt b).trans d⟩
   ·exact .inr ⟨rfl,GO.trans ht b d⟩
 |[],_,_,h,_|_::_,[],_,h,_|_::_,_::_,[],_,h=>by cases h
end
section
variable {X:Cx}{WX:Str->Hp->Prop}{c:Bool}{P0:BO}{P:Addr->Prop}{H:Hp}{σ:St}{ρ:A6}{a b e:Expr}{f g g2:A6->M D}{pos:Pos}
theorem EH:∀ {ns:List Int}{us:List Value},Vals (ns.map V.int) us->IntsAre us ns
 |[],_,.nil=>.nil
 |n::r,_,.cons h t=>by obtain⟨tk,rfl⟩:=h;exact .cons _ _ (EH t)
theorem DL:∀ {ds:List D}{ns:List Int},BD ds=some ns->ds=ns.map D.int
 |[],ns,h=>by cases h;rfl
 | .int b::r,bs,h=>by
  rw[BD] at h;cases q:BD r with
  |none=>rw[q] at h;cases h
  |some iw=>rw[q] at h;cases h;rw[DL q];rfl
 | .Aw::r,bs,h| .bl _::r,bs,h| .str _::r,bs,h| .tup _::r,bs,h| .lst _::r,bs,h| .BY _::r,bs,h| .AS _ _ _::r,bs,h| .ins _ _ _::r,bs,h=>by cases h
theorem Cu {K:zc}{H:Hp}:∀ {vs:List V}{bs:List Int},Ab K H vs (bs.map D.int)->vs=bs.map V.int
 |_,[],.nil=>rfl
 |_,b::r,.cons h t=>by cases h;rw[Cu t];rfl
end
theorem U2 {P P2:Addr->Prop}{H H':Hp}(t:Tr P P H P2 H'){a:Addr}(h:P2 a)(hn:¬ P a):H a=none:=by
 cases q:H a with
 |none=>rfl
 |some o =>
  have:=t.1 a o (by rw[Ao hn];exact q);exact ((Ag this).1 h).elim
section
variable {X:Cx}{WX:Str->Hp->Prop}{c:Bool}{P0:BO}{P:Addr->Prop}{H:Hp}{σ:St}{ρ:A6}{a b e:Expr}{f g:A6->M D}{pos:Pos}
def RN:V->List V->Hp->VK->Prop:=λ x vs H Q=>∃(l:Addr) (xs:List V) (k:Nat) (y:V),x=.ref l/\vs=[.int (k:Int),y]/\H l=some (.lst xs)/\k<=xs.length/\xs.length<sizeLine/\Q .Aw (upd H l (.lst (xs.take k++y::xs.drop k)))
theorem KL:∀ {xs:List V}{us:List Value}{y:V}{w:Value},Vals xs us->∀k:Nat,RelV y w->Vals (xs.take k++y::xs.drop k) (us.take k++w::us.drop k)
 |_,_,_,_,r,0,h=>.cons h r
 |_,_,_,_,.nil,k+1,h=>.cons h .nil
 |_,_,_,_,.cons a t,k+1,h=>.cons a (KL t k h)
theorem PB {prog:Program}{wd:World}{A:Around}{E:Value->Shared->Prop}{s:Shared}{Q:Value->Shared->Prop}{l:Addr}{items:Array Value}{n:Nat}(x:Int)(u:Tok)(y:Value)(hc:¬(!Builtin.List.listFitsIndex x)=true)(hs:items.size<=sizeLine)
 (e:s.heap.get? l=some {cls:=.type "list",data:=.seq items n})
 (h:Q .none {s with heap:=s.heap.update l (Obj.mapSeq λ xs=>(xs.extract 0 (if x<0 then (x+(xs.size:Int)).toNat else min x.toNat xs.size)).push y++xs.extract (if x<0 then (x+(xs.size:Int)).toNat else min x.toNat xs.size)),toks:=s.toks}):wpAny (model prog wd) A (call (.builtin "list.insert") [.ref l,.int x u,y]) Q E s:=by
 have hm:=PySem.AutoSeq1.list_insert_list_int_val_1 l items n x u y hc hs;have ha:=PySem.F.args_list_insert_3 (.ref l) (.int x u) y;exact call_meets PySem.F.slot_list_insert ⟨_,e,rfl⟩ PySem.F.entry_list_insert ha hm ⟨e,h⟩
theorem NQ:Yu X "list.insert" RN:=by
 intro pins s σ H x vs v us Q I rx rv h;obtain⟨l,xs,k,y,rfl,rfl,hH,hk,hz,q⟩:=h;cases rx;obtain⟨u,w,rfl,ru,aJ⟩:=rv.two;obtain⟨tk,rfl⟩:=ru;obtain⟨z,aa,n,r,hl,e⟩:=I.XB hH;have hlen:=r.length;have jr:=Gi;have e9:¬ (!Builtin.List.listFitsIndex (k:Int))=true:=by
  unfold Builtin.List.listFitsIndex;simp;omega
 have hsz:aa.toArray.size<=sizeLine:=by rw[zm,<-hl];exact yz hz
 refine PB (k:Int) tk w e9 hsz e ?_;refine⟨.Aw,_,I.XA (its':=aa.take k++w::aa.drop k) hH e ?_ ?_ ?_,rfl,q⟩
 ·have e1:¬ ((k:Int)<0):=by omega
  have e2:min (k:Int).toNat aa.toArray.size=k:=by rw[Int.toNat_natCast,zm];omega
  simp only[e1,if_false,e2];apply Array.toList_inj.mp;simp;rw[zZ (by rw[yA];exact zp _)]
 ·exact KL r k aJ
 ·rw[zT,zt,ym,yA];omega
noncomputable def NR (i:Nat)(ρ:A6)(mk md:M D):M Out:=match ρ[i]? with
 |some (some (.own ds))=>mk.bind λ k=>md.bind λ d=>match k with
  | .int j=>if 0<=j/\j.toNat<=ds.length/\ds.length<1000 then .ok (.next (ρ.set i (some (.own (ds.take j.toNat++d::ds.drop j.toNat))))) else .bad
  |_=>.bad
 |_=>.bad
theorem IV {K:zc}{H:Hp}:∀ {vs:List V}{ds:List D}(n:Nat),Ab K H vs ds->Ab K H (vs.take n) (ds.take n)
 |_,_,0,_=>by rw[List.take_zero,List.take_zero];exact .nil
 |_,_,_+1,.nil=>.nil
 |_,_,n+1,.cons h t=>by rw[List.take_succ_cons,List.take_succ_cons];exact .cons h (IV n t)
theorem IW {K:zc}{H:Hp}:∀ {vs:List V}{ds:List D}(n:Nat),Ab K H vs ds->Ab K H (vs.drop n) (ds.drop n)
 |_,_,0,h=>h
 |_,_,_+1,.nil=>.nil
 |_,_,n+1,.cons h t=>by rw[List.drop_succ_cons,List.drop_succ_cons];exact IW n t
theorem KN {K:zc}{H:Hp}:∀ {vs ws:List V}{ds es:List D},Ab K H vs ds->Ab K H ws es->Ab K H (vs++ws) (ds++es)
 |_,_,_,_,.nil,k=>k
 |_,_,_,_,.cons h t,k=>.cons h (KN t k)
theorem NS (i:Nat){x:Str}{p1 apos ah:Pos}(hv:PE X (.Name x p1) (Nt i))(hk:DE X WX true a f)(hd:DE X WX true b g)(hs:starEach [a,b] X.env=(false,eval a X.env)::starEach [b] X.env:=by rfl)(bT:starEach [b] X.env=[(false,eval b X.env)]:=by rfl)
 (bS:swapsWith (.Call (.Attribute (.Name x p1) "insert" apos) [a,b] [] ah) none pos.line X.env=pure false:=by rfl)
 (ao:attributeBase (.Name x p1) "insert" X.env (eval (.Name x p1) X.env)=eval (.Name x p1) X.env:=by rfl)
 (aU:((backTo ah (starEach [a,b] X.env)).all (λ x => !x.1)&&(backToKw ah (keywordEach [] X.env)).all (λ x=>x.1.isSome)&&decide (([a,b]:List Expr).length+([]:List Keyword).length+(if ([]:List Keyword).isEmpty then 0 else 1)<30))=true:=by rfl)
 (ap:(apos.endLine==ah.line)=true:=by rfl) (a8:(backTo ah (starEach [b] X.env)).any (·.1)=false:=by rfl):
 DS X WX (.Expr (.Call (.Attribute (.Name x p1) "insert" apos) [a,b] [] ah) pos) (λ ρ=>NR i ρ (f ρ) (g ρ)):=by
 obtain⟨ta,a1,a2⟩:=hk;obtain⟨tb,b1,b2⟩:=hd;refine⟨_,Ja (Ss PySem.F.plainAttrs_list PySem.F.slot_list_insert PySem.F.type_list_insert NQ hv (Bt a1 (Bt b1 CY bT) hs) ao aU ap hs a8) bS,λ P0 P σ H Z ρ E h=>?_⟩;dsimp only at h;unfold NR at h;split at h
 ·rename_i ds e1;obtain⟨p,xs,h1,h2,h3,h4,h5⟩:=E.own i ds e1;refine⟨_,h1,.inl ⟨rfl,xs,.of h2⟩,a2 P0 P σ H _ ρ E ?_⟩;cases q:f ρ with
  |bad=>rw[q] at h;exact h
  |ex y=>rw[q] at h;exact λ H' s=>h H' P (E.tr s)
  |ok k =>
   rw[q] at h;simp only[M.A7] at h;intro w H1 s1 hw;have E1:=E.same s1;refine b2 P0 P σ H1 _ ρ E1 ?_;cases q2:g ρ with
   |bad=>rw[q2] at h;exact h
   |ex y=>rw[q2] at h;exact λ H' s=>h H' P ((E.tr s1).trans (E1.tr s))
   |ok d =>
    rw[q2] at h;simp only[M.A7] at h;intro v H2 s2 iy;have E2:=E1.same s2;have eA:=s1.trans s2;split at h
    ·rename_i j;cases hw;by_cases hj:0<=j/\j.toNat<=ds.length/\ds.length<1000
     ·rw[if_pos hj] at h;have iz:((j.toNat:Nat):Int)=j:=Int.toNat_of_nonneg hj.1;have gi:=h5.mono eA.del;refine⟨p,xs,j.toNat,v,rfl,by rw[iz],eA _ _ h2,by rw[h5.length];exact hj.2.1,AM (by rw[h5.length];exact yz hj.2.2),?_⟩;obtain⟨E3,t3⟩:=E2.mut e1 h1 h3 h4 (KN (IV j.toNat gi) (.cons iy (IW j.toNat gi)));exact h _ _ _ ((E.tr eA).trans t3) E3
     ·rw[if_neg hj] at h;exact h.elim
    ·exact h.elim
 ·exact h.elim
noncomputable def Wf (ds:List D):M D:=match ds with
 |[.lst xs]=>(match De xs with|some bs=>.ok (.bl (bs.any id))|none=>.bad)
 |_=>.bad
end
noncomputable def kids:OT->List OT
 | .sh _=>[]
 | .lst ts| .tup ts| .AS _ _ ts| .ins _ _ ts=>ts
noncomputable def G7:OT->List OT->OT
 | .sh d,_=>.sh d
 | .lst _,ts=>.lst ts
 | .tup _,ts=>.tup ts
 | .AS b ks _,ts=>.AS b ks ts
 | .ins x ns _,ts=>.ins x ns ts
noncomputable def Fb:OT->List Nat->Option OT
 |t,[]=>some t
 |t,j::π=>match (kids t)[j]? with|some s=>Fb s π|none=>none
noncomputable def Cv:OT->List Nat->OT->OT
 |_,[],u=>u
 |t,j::π,u=>match (kids t)[j]? with|some s=>G7 t ((kids t).set j (Cv s π u))|none=>t
@[simp] theorem PD (t:OT):Fb t []=some t:=by unfold Fb;rfl
@[simp] theorem Df (t u:OT):Cv t [] u=u:=by unfold Cv;rfl
theorem NT {t s:OT}{j:Nat}{π:List Nat}(h:(kids t)[j]?=some s):Fb t (j::π)=Fb s π:=by rw[Fb,h]
theorem NU {t s u:OT}{j:Nat}{π:List Nat}(h:(kids t)[j]?=some s):Cv t (j::π) u=G7 t ((kids t).set j (Cv s π u)):=by rw[Cv,h]
section
variable {K:zc}{H H':Hp}{P P':Addr->Prop}
def By (K:zc)(H:Hp)(P:Addr->Prop)(v:V)(t:OT)(q:List Addr)(xs:List V):Prop:=match t with
 | .sh _=>False
 | .lst ts=>∃p,v=.ref p/\q=[p]/\H p=some (.lst xs)
 | .tup ts=>∃p,v=.ref p/\q=[]/\del H P p=some (.tup xs)
 | .AS false ks ts=>∃p kvs,v=.ref p/\q=[p]/\H p=some (.dK kvs)/\ks=(kvs.map λ kv=>Be kv.1)/\xs=kvs.map yg
 | .AS true ks ts=>∃p kvs,v=.ref p/\q=[p]/\H p=some (.dT kvs)/\ks=(kvs.map λ kv=>.tup (kv.1.map Be))/\xs=kvs.map yg
 | .ins x ns ts=>∃p C dx fs,v=.ref p/\q=[p]/\zi K mainGlobals x=some (some (.ref C))/\H p=some (.ins C dx fs)/\ns=fs.map zF/\xs=fs.map yg
theorem By.own {v:V}{t:OT}{q:List Addr}{xs:List V}{fp:List Addr}(h:By K H P v t q xs)(r:Ak K H P xs (kids t) fp):AY K H P v t (q++fp):=by
 cases t with
 |sh d=>exact h.elim
 |lst ts=>obtain⟨p,rfl,rfl,h⟩:=h;exact .lst h r
 |tup ts=>obtain⟨p,rfl,rfl,h⟩:=h;exact .tup h r
 |AS b ks ts =>
  cases b with
  |false=>obtain⟨p,kvs,rfl,rfl,h,rfl,rfl⟩:=h;exact .dK h r
  |true=>obtain⟨p,kvs,rfl,rfl,h,rfl,rfl⟩:=h;exact .dT h r
 |ins x ns ts=>obtain⟨p,C,dx,fs,rfl,rfl,n,h,rfl,rfl⟩:=h;exact .ins n h r
theorem AY.node {v:V}{t:OT}{fp:List Addr}(h:AY K H P v t fp)(hk:kids t≠[]\/∀d,t≠.sh d):∃q xs fq,fp=q++fq/\By K H P v t q xs/\Ak K H P xs (kids t) fq:=by
 cases h with
 |sh h=>rcases hk with hk|hk;exact (hk rfl).elim;exact (hk _ rfl).elim
 |lst h r=>exact⟨[_],_,_,rfl,⟨_,rfl,rfl,h⟩,r⟩
 |tup h r=>exact⟨[],_,_,rfl,⟨_,rfl,rfl,h⟩,r⟩
 |dK h r|dT h r=>exact⟨[_],_,_,rfl,⟨_,_,rfl,rfl,h,rfl,rfl⟩,r⟩
 |ins n h r=>exact⟨[_],_,_,rfl,⟨_,_,_,_,rfl,rfl,n,h,rfl,rfl⟩,r⟩
theorem By.move (sm:A9 (del H P) (del H' P')){v:V}{t:OT}{q:List Addr}{xs:List V}(k:∀a∈q,H' a=H a)(h:By K H P v t q xs):By K H' P' v t q xs:=by
 cases t with
 |sh d=>exact h.elim
 |lst ts=>obtain⟨p,rfl,rfl,h⟩:=h;exact⟨p,rfl,rfl,(k p zd).trans h⟩
 |tup ts=>obtain⟨p,rfl,rfl,h⟩:=h;exact⟨p,rfl,rfl,sm _ _ h⟩
 |AS b ks ts =>
  cases b with
  |false|true=>obtain⟨p,kvs,rfl,rfl,h,rfl,rfl⟩:=h;exact⟨p,kvs,rfl,rfl,(k p zd).trans h,rfl,rfl⟩
 |ins x ns ts=>obtain⟨p,C,dx,fs,rfl,rfl,n,h,rfl,rfl⟩:=h;exact⟨p,C,dx,fs,rfl,rfl,n,(k p zd).trans h,rfl,rfl⟩
theorem By.kids {v:V}{t:OT}{q:List Addr}{xs:List V}(h:By K H P v t q xs)(ts:List OT):By K H P v (G7 t ts) q xs:=by
 cases t with
 |sh d=>exact h.elim
 |lst us|tup us=>exact h
 |AS b ks us=>cases b<;>exact h
 |ins x ns us=>exact h
theorem Js {v:V}{t:OT}{q:List Addr}{xs:List V}(h:By K H P v t q xs)(ts:List OT):L2.kids (G7 t ts)=ts:=by
 cases t with
 |sh d=>exact h.elim
 |lst us|tup us|AS b ks us|ins x ns us=>rfl
theorem By.inj {v:V}{t:OT}{q q':List Addr}{xs ar:List V}(h:By K H P v t q xs)(h':By K H P v t q' ar):q=q'/\xs=ar:=by
 cases t with
 |sh d=>exact h.elim
 |lst ts|tup ts=>obtain⟨p,rfl,rfl,h⟩:=h;obtain⟨p',e,rfl,h'⟩:=h';cases e;rw[h] at h';cases h';exact⟨rfl,rfl⟩
 |AS b ks ts =>
  cases b with
  |false|true=>obtain⟨p,kvs,rfl,rfl,h,_,rfl⟩:=h;obtain⟨p',eB,e,rfl,h',_,rfl⟩:=h';cases e;rw[h] at h';cases h';exact⟨rfl,rfl⟩
 |ins x ns ts=>obtain⟨p,C,dx,fs,rfl,rfl,n,h,_,rfl⟩:=h;obtain⟨p',C',js,bm,e,rfl,n',h',_,rfl⟩:=h';cases e;rw[h] at h';cases h';exact⟨rfl,rfl⟩
inductive GQ (K:zc) (H:Hp) (P:Addr->Prop):V->OT->List Nat->V->OT->Prop
 |nil {v t}:GQ K H P v t [] v t
 |cons {v t q xs j x s π v1 t1}:By K H P v t q xs->xs[j]?=some x->(kids t)[j]?=some s->GQ K H P x s π v1 t1->GQ K H P v t (j::π) v1 t1
theorem GQ.sub {v v1:V}{t t1:OT}{π:List Nat}(h:GQ K H P v t π v1 t1):Fb t π=some t1:=by
 induction h with
 |nil=>exact PD _
 |cons _ _ hs _ ih=>rw[NT hs];exact ih
theorem Ak.get:∀ {xs:List V}{ts:List OT}{fp:List Addr}{j:Nat}{x:V}{s:OT},Ak K H P xs ts fp->xs[j]?=some x->ts[j]?=some s->∃pre fs post,fp=pre++fs++post/\AY K H P x s fs
 |_,_,_,_,_,_,.nil,e,_=>by simp at e
 |_,_,_,0,_,_,.cons h r,e,e'=>by
  simp at e e';subst e;subst e';exact⟨[],_,_,rfl,h⟩
 |_,_,_,j+1,_,_,.cons (fp:=f1) h r,e,e'=>by
  obtain⟨pre,fs,post,z,q⟩:=Ak.get r (by simpa using e) (by simpa using e');exact⟨f1++pre,fs,post,by rw[z];simp,q⟩
theorem Ak.len:∀ {xs:List V}{ts:List OT}{fp:List Addr},Ak K H P xs ts fp->xs.length=ts.length
 |_,_,_,.nil=>rfl
 |_,_,_,.cons _ r=>by rw[zt,zt,r.len]
theorem AY.part {v v1:V}{t t1:OT}{π:List Nat}{fp:List Addr}(h:AY K H P v t fp)(s:GQ K H P v t π v1 t1):∃ak,AY K H P v1 t1 ak/\(∀a∈ak,a∈fp)/\(fp.Nodup->ak.Nodup):=by
 induction s generalizing fp with
 |nil=>exact⟨fp,h,λ _ h=>h,λ h=>h⟩
 |cons n hx hs _ ih =>
  obtain⟨q,xs,fq,rfl,n',r⟩:=h.node (.inl λ z=>by rw[z] at hs;cases hs);obtain⟨rfl,rfl⟩:=n.inj n';obtain⟨pre,fs,post,rfl,o⟩:=r.get hx hs;obtain⟨ak,o1,k,kn⟩:=ih o;exact⟨ak,o1,λ a ha=>zg _ (zB _ (zg _ (k a ha))),λ nd=>kn (zJ.mp (zJ.mp (zJ.mp nd).2.1).1).2.1⟩
theorem Ak.put (sm:A9 (del H P) (del H' P')):∀ {xs:List V}{ts:List OT}{fp:List Addr}{j:Nat}{x:V}{s s':OT}{fs bm:List Addr},Ak K H P xs ts fp->xs[j]?=some x->ts[j]?=some s->AY K H P x s fs->AY K H' P' x s' bm->(∀a∈fp,a∉fs->H' a=H a)->fp.Nodup->bm.Nodup->(∀a∈bm,a∈fp->a∈fs)->
 ∃ae,Ak K H' P' xs (ts.set j s') ae/\ae.Nodup/\∀a∈ae,a∈bm\/(a∈fp/\a∉fs)
 |_,_,_,_,_,_,_,_,_,.nil,e,_,_,_,_,_,_,_=>by simp at e
 |_,_,_,0,x,s,s',fs,bm,.cons (fp:=f1) (fq:=f2) h r,e,e',o,o',k,nd,cK,dj=>by
  simp at e e';subst e;subst e';have:=h.Bg o;subst this;have aR:=zJ.mp nd;have k2:∀a∈f2,a∉f1:=λ a ha hb=>aR.2.2 a hb a ha rfl;refine⟨bm++f2,.cons o' (r.move sm λ a ha=>k a (zg _ ha) (k2 a ha)),zJ.mpr ⟨cK,aR.2.1,λ a ha b hb z=>?_⟩,λ a ha=>?_⟩
  ·subst z;exact k2 a hb (dj a ha (zg _ hb))
  ·rcases zE.mp ha with ha|ha
   ·exact .inl ha
   ·exact .inr ⟨zg _ ha,k2 a ha⟩
 |_,_,_,j+1,x,s,s',fs,bm,.cons (vs:=fZ) (ts:=i4) (fp:=f1) (fq:=f2) h r,e,e',o,o',k,nd,cK,dj=>by
  have aR:=zJ.mp nd;have e2:fZ[j]?=some x:=by simpa using e
  have e3:i4[j]?=some s:=by simpa using e'
  obtain⟨pre,fx,post,hf,ox⟩:=r.get e2 e3;have:=ox.Bg o;subst this;have k1:∀a∈f1,a∉fx:=λ a ha hb=>aR.2.2 a ha a (by rw[hf];exact zB _ (zg _ hb)) rfl;obtain⟨ae,q1,q2,q3⟩:=Ak.put sm r e2 e3 o o' (λ a ha hn=>k a (zg _ ha) hn) aR.2.1 cK (λ a ha hb=>dj a ha (zg _ hb));refine⟨f1++ae,.cons (h.move sm λ a ha=>k a (zB _ ha) (k1 a ha)) q1,zJ.mpr ⟨aR.1,q2,λ a ha b hb z=>?_⟩,λ a ha=>?_⟩
  ·subst z;rcases q3 a hb with z|z
   ·exact k1 a ha (dj a z (zB _ ha))
   ·exact aR.2.2 a ha a z.1 rfl
  ·rcases zE.mp ha with ha|ha
   ·exact .inr ⟨zB _ ha,k1 a ha⟩
   ·rcases q3 a ha with z|z
    ·exact .inl z
    ·exact .inr ⟨zg _ z.1,z.2⟩
theorem AY.put (sm:A9 (del H P) (del H' P')){v v1:V}{t t1 u:OT}{π:List Nat}{fp ak fu:List Addr}(h:AY K H P v t fp)(s:GQ K H P v t π v1 t1)(o:AY K H P v1 t1 ak)(o':AY K H' P' v1 u fu)(k:∀a∈fp,a∉ak->H' a=H a)(nd:fp.Nodup)(cK:fu.Nodup)(dj:∀a∈fu,a∈fp->a∈ak):
 ∃ae,AY K H' P' v (Cv t π u) ae/\ae.Nodup/\∀a∈ae,a∈fu\/(a∈fp/\a∉ak):=by
 induction s generalizing fp with
 |nil =>
  rw[Df];exact⟨fu,o',cK,λ a ha=>.inl ha⟩
 | @cons v t q xs j x s π v1 t1 n hx hs s1 ih =>
  obtain⟨q',ar,fq,rfl,n',r⟩:=h.node (.inl λ z=>by rw[z] at hs;cases hs);obtain⟨rfl,rfl⟩:=n.inj n';have cL:=zJ.mp nd;obtain⟨pre,fs,post,hf,ox⟩:=r.get hx hs;have sub:∀a∈fs,a∈fq:=λ a ha=>by rw[hf];exact zB _ (zg _ ha)
  have i5:fs.Nodup:=by
   have:=cL.2.1;rw[hf] at this;exact (zJ.mp (zJ.mp this).1).2.1
  obtain⟨fz,oz,kz,_⟩:=ox.part s1;have:=oz.Bg o;subst this;obtain⟨bm,q1,q2,q3⟩:=ih ox o o' (λ a ha hn=>k a (zg _ (sub a ha)) hn) i5 (λ a ha hb=>dj a ha (zg _ (sub a hb)));have qf:∀a∈q,a∉fs:=λ a ha hb=>cL.2.2 a ha a (sub a hb) rfl;have kq:∀a∈q,H' a=H a:=λ a ha=>k a (zB _ ha) λ z=>qf a ha (kz a z);obtain⟨ae,p1,p2,p3⟩:=r.put sm hx hs ox q1 (λ a ha hn=>k a (zg _ ha) λ z=>hn (kz a z)) cL.2.1 q2 (λ a ha hb=>by
   rcases q3 a ha with z|z
   ·exact kz a (dj a z (zg _ hb))
   ·exact z.1)
  rw[NU hs];have n2:=(n.move sm kq).kids ((kids t).set j (Cv s π u));have o2:=n2.own (fp:=ae) (by rw[Js n];exact p1);refine⟨q++ae,o2,zJ.mpr ⟨cL.1,p2,λ a ha b hb z=>?_⟩,λ a ha=>?_⟩
  ·subst z;rcases p3 a hb with z|z
   ·rcases q3 a z with y|y
    ·exact qf a ha (kz a (dj a y (zB _ ha)))
    ·exact qf a ha y.1
   ·exact cL.2.2 a ha a z.1 rfl
  ·rcases zE.mp ha with ha|ha
   ·exact .inr ⟨zB _ ha,λ z=>qf a ha (kz a z)⟩
   ·rcases p3 a ha with z|z
    ·rcases q3 a z with y|y
     ·exact .inl y
     ·exact .inr ⟨zg _ (sub a y.1),y.2⟩
    ·exact .inr ⟨zg _ z.1,λ y=>z.2 (kz a y)⟩
end
def PU (P:Addr->Prop)(fp:List Addr):Addr->Prop:=λ a=>P a\/a∈fp
theorem Jt {P:Addr->Prop}{fp:List Addr}:∀a,P a->PU P fp a:=λ a h=>.inl h
theorem Cw {P:Addr->Prop}{fp:List Addr}{H H':Hp}(s:A9 H H')(hn:∀a∈fp,H a=none):A9 (del H P) (del H' (PU P fp)):=λ b o e=>by
 obtain⟨h1,h2⟩:=Ag e;rw[Ao λ z=>z.elim h1 λ w=>by rw[hn b w] at h2;cases h2];exact s b o h2
theorem M4 {P:Addr->Prop}{H:Hp}:del H (PU P [])=del H P:=by
 funext b;by_cases h:P b
 ·rw[Eg h,Eg (.inl h)]
 ·rw[Ao h,Ao λ z=>z.elim h λ w=>by cases w]
theorem Ju {P:Addr->Prop}{fp:List Addr}{K:zc}{H':Hp}{Q:Addr->Prop}{v:V}{t:OT}(hP:∀a,P a->Cd H' a)(o:AY K H' Q v t fp):∀a,PU P fp a->Cd H' a:=λ a h=>h.elim (hP a) (o.BG a)
theorem RO {P:Addr->Prop}{fp:List Addr}{K:zc}{H':Hp}{Q:Addr->Prop}{v:List V}{t:List OT}(hP:∀a,P a->Cd H' a)(o:Ak K H' Q v t fp):∀a,PU P fp a->Cd H' a:=λ a h=>h.elim (hP a) (o.BG a)
theorem Ac.more {K:zc}{P0:BO}{P P':Addr->Prop}{H H':Hp}{σ:St}{ρ:A6}(E:Ac K P0 P H σ ρ)(e:A9 H H')(hs:∀a,P a->P' a)(ht:∀a,P' a->Cd H' a)(sm:A9 (del H P) (del H' P')):Ac K P0 P' H' σ ρ:=by
 have keep:∀(c:Cl) (v:V) (fp:List Addr),Bm K H P c v fp->∀a∈fp,H' a=H a:=λ c v fp o a ha=>by
  obtain⟨xs,q⟩:=o.at a ha;rw[q];exact e _ _ q
 exact⟨λ a h=>hs a (E.sub a h),ht,λ i d h=>let ⟨v,h1,h2⟩:=E.val i d h;⟨v,h1,h2.mono sm⟩,
  λ i c h io=>let ⟨v,fp,h1,h2,h3,h4⟩:=E.ows i c h io;⟨v,fp,h1,h2.move sm (keep c v fp h2),λ a ha=>⟨hs a (h3 a ha).1,(h3 a ha).2⟩,h4⟩,
  λ i j c c' v v' fp ae hi hj si sj h h' ac=>E.OZ sm (λ v fp _ o a ha=>keep _ _ _ o a ha) (λ v fp _ o a ha=>keep _ _ _ o a ha) hi hj si sj h h' ac,E.len,E.pin⟩
def QM (K:zc)(WX:Str->Hp->Prop)(P:Addr->Prop)(H:Hp)(Q:VK):M OT->Prop
 | .ok t=>∀v fp H',A9 H H'->(∀a∈fp,H a=none)->fp.Nodup->AY K H' (PU P fp) v t fp->Q v H'
 | .ex x=>∀H',A9 H H'->WX x H'
 | .bad=>False
def Yz (K:zc)(WX:Str->Hp->Prop)(P:Addr->Prop)(H:Hp)(Q:List V->Hp->Prop):M (List OT)->Prop
 | .ok t=>∀v fp H',A9 H H'->(∀a∈fp,H a=none)->fp.Nodup->Ak K H' (PU P fp) v t fp->Q v H'
 | .ex x=>∀H',A9 H H'->WX x H'
 | .bad=>False
theorem DM {H H':Hp}(s:A9 H H'){a:Addr}(h:H' a=none):H a=none:=by
 cases q:H a with
 |none=>rfl
 |some o=>rw[s a o q] at h;cases h
section
variable {K:zc}{WX:Str->Hp->Prop}{P:Addr->Prop}{H H':Hp}
theorem QM.same {Q:VK}{m:M OT}(h:QM K WX P H Q m)(e:A9 H H'):QM K WX P H' Q m:=by
 cases m with
 |ok d=>exact λ v fp H2 q hn nd o=>h v fp H2 (e.trans q) (λ a ha=>DM e (hn a ha)) nd o
 |ex x=>exact λ H2 q=>h H2 (e.trans q)
 |bad=>exact h
end
def DN (X:Cx)(WX:Str->Hp->Prop)(e:Expr)(f:A6->M OT):Prop:=
 ∃t,PE X e t/\∀P0 P σ H Q ρ,Ac X.K P0 P H σ ρ->QM X.K WX P H Q (f ρ)->t σ H Q
def Ye (X:Cx)(WX:Str->Hp->Prop)(es:List Expr)(f:A6->M (List OT)):Prop:=
 ∃t,PA X es t/\(∀P0 P σ H Q ρ,Ac X.K P0 P H σ ρ->Yz X.K WX P H Q (f ρ)->t σ H Q)/\∀ρ ts,f ρ=.ok ts->ts.length=es.length
noncomputable def Wg (d:D):M OT:=.ok (.sh d)
noncomputable def Wh (t:OT):M D:=.ok (er t)
section
variable {X:Cx}{WX:Str->Hp->Prop}{c:Bool}{P0:BO}{P:Addr->Prop}{H:Hp}{σ:St}{ρ:A6}{a b e:Expr}{f g:A6->M D}{fn:A6->M OT}{pos:Pos}{es:List Expr}
theorem BQ (h:DE X WX true e f):DN X WX e (λ ρ=>(f ρ).bind Wg):=by
 obtain⟨t,h1,h2⟩:=h;refine⟨t,h1,λ P0 P σ H Q ρ E g=>h2 P0 P σ H Q ρ E ?_⟩;dsimp only at g;cases q:f ρ with
 |bad|ex x=>rw[q] at g;exact g
 |ok d=>rw[q] at g;exact λ v H' s hv=>g v [] H' s (λ a ha=>by cases ha) yi (.sh (by rw[M4];exact hv))
theorem AN (h:DN X WX e fn):DE X WX c e (λ ρ=>(fn ρ).bind Wh):=by
 suffices z:DE X WX true e (λ ρ=>(fn ρ).bind Wh) by
  cases c with
  |true=>exact z
  |false=>exact P5 z
 obtain⟨t,h1,h2⟩:=h;refine⟨t,h1,λ P0 P σ H Q ρ E g=>h2 P0 P σ H Q ρ E ?_⟩;dsimp only at g;cases q:fn ρ with
 |bad|ex x=>rw[q] at g;exact g
 |ok d =>
  rw[q] at g;exact λ v fp H' s hn nd o=>g v H' s (o.has Jt λ a ha z=>(E.BG a z).no (hn a ha))
theorem RP:Ye X WX [] (λ _=>.ok []):=⟨_,CY,λ P0 P σ H Q ρ E h=>h [] [] H (A9.refl H) (λ a ha=>by cases ha) yi .nil,λ ρ ds h=>by cases h;rfl⟩
theorem U3 {P:Addr->Prop}{fp:List Addr}{p:Addr}{H:Hp}{o:HO}(hn:H p=none)(hP:∀a,PU P fp a->Cd H a):A9 (del H (PU P fp)) (del (upd H p o) (PU P (p::fp))):=λ b u e=>by
 obtain⟨h1,h2⟩:=Ag e;have hb:b≠p:=Au h2 hn;rw[Ao λ z=>z.elim (λ z=>h1 (.inl z)) λ w=>(zo.mp w).elim hb λ w=>h1 (.inr w),A5 hb];exact h2
theorem U4 {fs:A6->M (List OT)}(ha:Ye X WX es fs)(hz:es.length<=1000:=by decide):DN X WX (.List es pos) (λ ρ=>(fs ρ).bind λ ts=>.ok (.lst ts)):=by
 obtain⟨ta,a1,a2,a3⟩:=ha;refine⟨_,OF a1,λ P0 P σ H Q ρ E h=>?_⟩;dsimp only at h;refine a2 P0 P σ H _ ρ E ?_;cases q:fs ρ with
 |bad|ex y=>rw[q] at h;exact h
 |ok ts =>
  rw[q] at h;simp only[M.A7] at h;intro vs fp H1 s1 n1 eC o1;have hP:=RO (E.same s1).BG o1;refine⟨yz (AM (by rw[o1.len,a3 ρ ts q];exact hz)),λ p hp=>?_⟩;have ac:∀a∈fp,a≠p:=λ a ha z=>(o1.BG a ha).no (by rw[z];exact hp);exact h _ (p::fp) _ (s1.trans (Ay hp _)) (λ a ha=>(zo.mp ha).elim (λ z=>by rw[z];exact DM s1 hp) (n1 a)) (zV.mpr ⟨λ z=>ac p z rfl,eC⟩) (.lst Ae (o1.move (U3 hp hP) λ a ha=>A5 (ac a ha)))
theorem Ab.ows {K:zc}{H:Hp}{P:Addr->Prop}:∀ {xs:List V}{ds:List D},Ab K (del H P) xs ds->Ak K H P xs (ds.map .sh) []
 |_,_,.nil=>.nil
 |_,_,.cons h t=>.cons (.sh h) t.ows
theorem QM.GR {K:zc}{WX:Str->Hp->Prop}{P:Addr->Prop}{H H1:Hp}{Q:VK}{xs:List V}{ds:List D}(h:QM K WX P H Q (.ok (.lst (ds.map .sh))))(s1:A9 H H1)(hx:Ab K (del H1 P) xs ds):∀p,H1 p=none->Q (.ref p) (upd H1 p (.lst xs)):=λ p hp=>by
 have hn:∀a∈[p],H1 a=none:=λ a ha=>by rw[zl.mp ha];exact hp
 exact h _ [p] _ (s1.trans (Ay hp _)) (λ a ha=>DM s1 (hn a ha)) (by simp) (.lst Ae (hx.mono (Cw (Ay hp _) hn)).ows)
theorem Ak.WZ {K:zc}{H:Hp}{P:Addr->Prop}:∀ {xs:List V}{ds:List D}{fp:List Addr},Ak K H P xs (ds.map .sh) fp->fp=[]/\Ab K (del H P) xs ds
 |_,[],_,.nil=>⟨rfl,.nil⟩
 |_,d::ds,_,.cons (.sh h) r=>by
  obtain⟨rfl,q⟩:=Ak.WZ r;exact⟨rfl,.cons h q⟩
noncomputable def FV:Cl->Cl
 | .val d=>.val d
 | .own ds=>.val (.lst ds)
 | .ow (.rows CS)=>.val (.lst (CS.map D.lst))
 | .ow (.G3 _ ds)=>.val (.lst ds)
 | .ow (.tree _ t)=>.val (er t)
noncomputable def CT (ρ:A6):A6:=ρ.map λ o=>o.map FV
@[simp] theorem GS:CT []=[]:=rfl
@[simp] theorem Fc (ρ:A6):CT (none::ρ)=none::CT ρ:=rfl
@[simp] theorem Fe (c:Cl) (ρ:A6):CT (some c::ρ)=some (FV c)::CT ρ:=rfl
theorem Ac.low {K:zc}{P0:BO}{P:Addr->Prop}{H:Hp}{σ:St}{ρ:A6}(E:Ac K P0 P H σ ρ):Ac K P0 P0 H σ (CT ρ):=by
 have key:∀(i:Nat) (c:Cl),(CT ρ)[i]?=some (some c)->∃c',ρ[i]?=some (some c')/\c=FV c':=λ i c h=>by
  unfold CT at h;rw[zy] at h;cases q:ρ[i]? with
  |none=>rw[q] at h;cases h
  |some o =>
   rw[q] at h;cases o with
   |none=>cases h
   |some c'=>cases h;exact⟨c',rfl,rfl⟩
 have eE:∀c,D5 (FV c)=false:=λ c=>by
  cases c with
  |val d|own ds=>rfl
  |ow o=>cases o<;>rfl
 have cM:∀c,II (FV c)=none:=λ c=>by
  cases c with
  |val d|own ds=>rfl
  |ow o=>cases o<;>rfl
 have i6:∀c v fp,¬ Bm K H P0 (FV c) v fp:=λ c v fp h=>by
  cases c with
  |val d|own ds=>exact h
  |ow o=>cases o<;>exact h
 refine⟨λ _ h=>h,λ a h=>E.BG a (E.sub a h),λ i d h=>?_,λ i c h io=>?_,λ i j c c' v v' fp ae hi hj si sj h h' ac=>?_,by unfold CT;rw[zh];exact E.len,λ i c n h hp=>by obtain⟨c',h1,rfl⟩:=key i _ h;rw[cM] at hp;cases hp⟩
 ·obtain⟨c,h1,h2⟩:=key i _ h;cases c with
  |val d' =>
   cases h2;obtain⟨v,q1,q2⟩:=E.val i d h1;exact⟨v,q1,q2.mono (Bf E.sub)⟩
  |own ds =>
   cases h2;obtain⟨p,xs,q1,q2,q3,q4,q5⟩:=E.own i ds h1;exact⟨_,q1,.lst (.of (show del H P0 p=_ by rw[Ao q4];exact q2)) (q5.mono (Bf E.sub))⟩
  |ow o =>
   obtain⟨v,fp,q1,q2,q3,q4⟩:=E.ows i _ h1 rfl;cases o with
   |rows CS =>
    cases h2;obtain⟨p,ps,rfl,rfl,q5,q6⟩:=q2;exact⟨_,q1,.lst (.of (show del H P0 p=_ by rw[Ao (q3 p zd).2];exact q5)) (q6.TR E.sub λ a ha=>(q3 a (zf _ ha)).2)⟩
   |G3 p ds =>
    cases h2;obtain⟨p,xs,rfl,rfl,q5,q6⟩:=q2;exact⟨_,q1,.lst (.of (show del H P0 p=_ by rw[Ao (q3 p zd).2];exact q5)) (q6.mono (Bf E.sub))⟩
   |tree p t =>
    cases h2;exact⟨_,q1,AY.has E.sub (λ a ha=>(q3 a ha).2) q2⟩
 ·obtain⟨c',h1,rfl⟩:=key i _ h;rw[eE] at io;cases io
 ·obtain⟨c1,h1,rfl⟩:=key i _ hi;exact (i6 _ _ _ h).elim
theorem U5 {c:Bool}(h:DE X WX c e f):DE X WX false e (λ ρ=>f (CT ρ)):=by
 obtain⟨t,h1,h2⟩:=h;refine⟨t,h1,λ P0 P σ H Q ρ E g=>h2 P0 P0 σ H Q (CT ρ) E.low ?_⟩;have e:Lv c P0 P0=P0:=by cases c<;>rfl
 rw[e];exact g
theorem Jv {ft:A6->M Bool}(h:DT X WX e ft):DT X WX e (λ ρ=>ft (CT ρ)):=by
 obtain⟨t,h1,h2⟩:=h;exact⟨t,h1,λ P0 P σ H Q ρ E g=>h2 P0 P0 σ H Q (CT ρ) E.low g⟩
mutual
noncomputable def Il:OT->Bool
 | .sh d=>IU d
 | .lst ts| .tup ts| .AS _ _ ts| .ins _ _ ts=>GU ts
noncomputable def GU:List OT->Bool
 |[]=>true
 |t::r=>Il t&&GU r
end
mutual
theorem AY.clean {K:zc}{H:Hp}{P P':Addr->Prop}(ht:∀a,P' a->Cd H a):∀ {v:V}{t:OT}{fp:List Addr},Il t=true->AY K H P v t fp->AY K H P' v t fp
 |_,_,_,n,.sh h=>.sh (h.IU ht (by rw[Il] at n;exact n))
 |_,_,_,n,.lst h r=>.lst h (Ak.clean ht (by rw[Il] at n;exact n) r)
 |_,_,_,n,.tup h r=>.tup (MV ht h) (Ak.clean ht (by rw[Il] at n;exact n) r)
 |_,_,_,n,.dK h r=>.dK h (Ak.clean ht (by rw[Il] at n;exact n) r)
 |_,_,_,n,.dT h r=>.dT h (Ak.clean ht (by rw[Il] at n;exact n) r)
 |_,_,_,n,.ins x h r=>.ins x h (Ak.clean ht (by rw[Il] at n;exact n) r)
theorem Ak.clean {K:zc}{H:Hp}{P P':Addr->Prop}(ht:∀a,P' a->Cd H a):∀ {v:List V}{t:List OT}{fp:List Addr},GU t=true->Ak K H P v t fp->Ak K H P' v t fp
 |_,_,_,_,.nil=>.nil
 |_,_,_,n,.cons h r=>by
  rw[GU,zL] at n;exact .cons (AY.clean ht n.1 h) (Ak.clean ht n.2 r)
end
noncomputable def XM (m:M OT):M OT:=m.bind λ t=>if Il t=true then .ok t else .bad
theorem U6 (h:DN X WX e fn):DN X WX e (λ ρ=>XM (fn (CT ρ))):=by
 obtain⟨t,h1,h2⟩:=h;refine⟨t,h1,λ P0 P σ H Q ρ E g=>h2 P0 P0 σ H Q (CT ρ) E.low ?_⟩;unfold XM at g;dsimp only at g;cases q:fn (CT ρ) with
 |bad|ex x=>rw[q] at g;exact g
 |ok t =>
  rw[q] at g;simp only[M.A7] at g;by_cases hf:Il t=true
  ·rw[if_pos hf] at g;exact λ v fp H' s hn nd o=>g v fp H' s hn nd (o.clean (Ju (E.same s).BG o) hf)
  ·rw[if_neg hf] at g;exact g.elim
noncomputable def GR (d:D):M OT:=match d with
 | .lst ds| .tup ds=>.ok (.lst (ds.map .sh))
 |_=>.bad
theorem MX {p:Pos}(hg:Gl X "list")(hm:X.mg "list" = none)(ha:DE X WX true e f)(hb:bootBuiltins "list" = some (.type "list"):=by decide +kernel)(bD:starEach [e] X.env=[(false,eval e X.env)]:=by rfl):
 DN X WX (.Call (.Name "list" p) [e] [] pos) (λ ρ=>(f ρ).bind GR):=by
 obtain⟨ta,a1,a2⟩:=ha;refine⟨_,Nz Jh hg hm hb (Bt a1 CY bD) (he:=bD),λ P0 P σ H Q ρ E h=>?_⟩;dsimp only at h;refine a2 P0 P σ H _ ρ E ?_;cases q:f ρ with
 |bad|ex x=>rw[q] at h;exact h
 |ok d =>
  rw[q] at h;simp only[M.A7] at h;intro v H1 s1 hv;unfold GR at h;split at h
  ·cases hv with
   |lst hs hh=>exact⟨_,_,rfl,.inl hs.AZ,h.GR s1 hh⟩
  ·cases hv with
   |tup hs hh=>exact⟨_,_,rfl,.inr (EX.of (Ag hs).2),h.GR s1 hh⟩
  ·exact h.elim
end
noncomputable def spT (K:zc)(n:Nat)(F:List D->M OT):Sp:=λ vs H Q E=>vs.length=n/\∃P ds,(∀a,P a->Cd H a)/\Ab K (del H P) vs ds/\QM K (GG K E) P H Q (F ds)
noncomputable def Wj:Cl->M OT
 | .val d=>.ok (.sh d)
 | .own ds=>.ok (.lst (ds.map .sh))
 | .ow (.rows CS)=>.ok (.lst (CS.map λ ds=>.lst (ds.map .sh)))
 | .ow (.G3 _ _)=>.bad
 | .ow (.tree none t)=>.ok t
 | .ow (.tree (some _) _)=>.bad
noncomputable def PF (m:M Out):M OT:=match m with
 | .ok (.ret d)=>.ok (.sh d)
 | .ok (.Bi c)=>Wj c
 | .ok (.next _)=>.ok (.sh .Aw)
 | .ex x=>.ex x
 |_=>.bad
theorem Bh.ows {K:zc}{H:Hp}{P:Addr->Prop}:∀ {ps:List Addr}{CS:List (List D)},Bh K H P ps CS->Ak K H P (ps.map V.ref) (CS.map λ ds=>.lst (ds.map .sh)) ps
 |_,_,.nil=>.nil
 |_,_,.cons h r t=>.cons (.lst h r.ows) t.ows
theorem Bm.tree {K:zc}{H:Hp}{P:Addr->Prop}{c:Cl}{v:V}{fp:List Addr}{t:OT}(h:Bm K H P c v fp)(e:Wj c=.ok t):AY K H P v t fp:=by
 cases c with
 |val d=>exact h.elim
 |own ds =>
  cases e;obtain⟨p,xs,rfl,rfl,h1,h2⟩:=h;exact .lst h1 h2.ows
 |ow o =>
  cases o with
  |rows CS =>
   cases e;obtain⟨p,ps,rfl,rfl,h1,h2⟩:=h;exact .lst h1 h2.ows
  |G3 p ds=>cases e
  |tree p t' =>
   cases p with
   |none=>cases e;exact h
   |some q=>cases e
section
variable {P:Program}{w:World}{K:zc}{mg:Str->Option Value}{base:Heap}
theorem RQ {WX:Str->Hp->Prop}{P P2:Addr->Prop}{H H':Hp}{Q:VK}{c:Cl}{v:V}{fp:List Addr}(h:QM K WX P H Q (Wj c))(t:Tr P P H P2 H')(hs:∀a,P a->P2 a)(ho:Bm K H' P2 c v fp)(hp:∀a∈fp,P2 a/\¬ P a)(nd:fp.Nodup):Q v H':=by
 cases q:Wj c with
 |bad=>rw[q] at h;exact h.elim
 |ex x=>cases c with
  |val d|own ds=>cases q
  |ow o =>
   cases o with
   |rows CS|G3 p ds=>cases q
   |tree p t'=>cases p<;>cases q
 |ok u =>
  rw[q] at h;have o:=ho.tree q;refine h v fp H' (BH t) (λ a ha=>U2 t (hp a ha).1 (hp a ha).2) nd (o.move (Bf λ a ha=>ha.elim (hs a) λ z=>(hp a z).1) λ _ _=>rfl)
theorem XN {x qual:Str}{st:Stmt}{f:Addr}{fd:FuncData}{N ps:List Str}{k:Nat}(F:Og K x qual st f fd)(S:Aq N ps (A4 st))(g:A6->M Out)
 (hb:∀(Ba:Value) (A:Around) (outer:List Env) (s:Shared) (H:Hp) (E:XK),Bv k (A.deeper (envOfC qual (A4 st) s.heap.objs.size f Ba))->NJ (Pj P w K mg base N qual (A4 st) f Ba A outer s H E) (GG K E) (AA st) g):
 DY P w K mg base (Sy P w base) (k+1) f fd ps (spT K ps.length λ ds=>PF (g (B6 N ds))):=by
 obtain⟨oc,od,kV,doc,pm,an,Ba,ct,Oe,rfl,lk,a4⟩:=F.ex;refine OG lk a4 S (λ vs H Q E h=>h.1) λ A outer s H vs Q E hr h=>?_;obtain⟨hl,P',ds,ht,hv,hq⟩:=h;obtain⟨t,h1,h2⟩:=hb Ba A outer s H E hr;refine⟨t,h1,h2 ⟨P',λ _=>0⟩ P' _ H _ _ (IQ ht hv) ?_⟩;dsimp only at hq;revert hq;cases g (B6 N ds) with
 |bad=>exact λ h=>h.elim
 |ex x=>exact λ h H' P2 t=>h H' (BH t)
 |ok o =>
  cases o with
  |ret d=>exact λ h v H' P2 t hv=>h v [] H' (BH t) (λ a ha=>by cases ha) yi (.sh (by rw[M4];exact hv))
  |next ρ=>exact λ h σ' H' P2 t E=>h .Aw [] H' (BH t) (λ a ha=>by cases ha) yi (.sh .Aw)
  |brk ρ|cont ρ=>exact λ h=>h.elim
  |Bi c=>exact λ h v fp H' P2 t hs ht ho hp nd=>RQ h t hs ho hp nd
  |Ce d ρ=>exact λ h=>h.elim
end
structure EY (P:Program)(w:World)(K:zc)(mg:Str->Option Value)(base:Heap)(x:Str)(k n:Nat)(F:List D->M OT):Prop where
 ex:∃fa fd ps,DY P w K mg base (Sy P w base) k fa fd ps (spT K n F)/\mg x=some (.ref fa)/\zQ K (.ref fa)=true/\Binds K fd ps []
theorem Bp {P:Program}{w:World}{K:zc}{mg:Str->Option Value}{base:Heap}{x:Str}{st:Stmt}{N ps:List Str}{k n:Nat}(T:B7 K mg x st ps)(S:Aq N ps (A4 st))(g:A6->M Out)
 (hb:∀(f:Addr) (Ba:Value) (A:Around) (outer:List Env) (s:Shared) (H:Hp) (E:XK),Bv k (A.deeper (envOfC x (A4 st) s.heap.objs.size f Ba))->NJ (Pj P w K mg base N x (A4 st) f Ba A outer s H E) (GG K E) (AA st) g) (hn:ps.length=n:=by rfl):
 EY P w K mg base x (k+1) n (λ ds=>PF (g (B6 N ds))):=by
 obtain⟨f,fd,F,hm,hB⟩:=T.ex;subst hn;exact⟨⟨f,fd,ps,XN F S g (hb f),hm,F.kp,hB⟩⟩
section
variable {X:Cx}{E:XK}{WX:Str->Hp->Prop}{c:Bool}{e:Expr}{es:List Expr}{fs:A6->M (List D)}{f:A6->M D}{fn:A6->M OT}{ft:A6->M Bool}{pos:Pos}
theorem AG {k n:Nat}{F:List D->M OT}{x:Str}{p:Pos}(xo:XCall X E)(G:EY X.prog X.w X.K X.mg X.base x k n F)(hr:Bv k X.A)(hg:Gl X x)(ha:DA X (GG X.K E) true (e::es) fs)(hn:(e::es).length=n)
 (aS:(x==("__debug__" : Str))=false:=by decide) (he:starEach (e::es) X.env=(false,eval e X.env)::starEach es X.env:=by rfl) (hpl:(backTo pos (starEach es X.env)).any (·.1)=false:=by rfl):
 DN X (GG X.K E) (.Call (.Name x p) (e::es) [] pos) (λ ρ=>(fs ρ).bind F):=by
 obtain⟨fa,fd,ps,hF,hm,hk,hb⟩:=G.ex;obtain⟨ta,a1,a2,a3⟩:=ha;refine⟨_,ML hF hr hg hm hk hb .nil xo.call a1 aS he hpl,λ P0 P σ H Q ρ E h=>?_⟩;dsimp only at h;refine a2 P0 P σ H _ ρ E ?_;cases q:fs ρ with
 |bad|ex x=>rw[q] at h;exact h
 |ok ds =>
  rw[q] at h;simp only[M.A7] at h;intro vs H1 s1 aD;rw[yk];exact⟨by rw[aD.length,a3 ρ ds q];exact hn,P,ds,(E.same s1).BG,aD,h.same s1⟩
theorem Ff (h:DN X WX e fn):DN X (λ _ _=>False) e fn:=by
 obtain⟨t,h1,h2⟩:=h;refine⟨t,h1,λ P0 P σ H Q ρ E g=>h2 P0 P σ H Q ρ E ?_⟩;cases q:fn ρ with
 |bad=>rw[q] at g;exact g
 |ex x=>rw[q] at g;exact (g H (A9.refl H)).elim
 |ok t=>rw[q] at g;exact g
noncomputable def NV (t:OT):M Out:=match t with
 | .sh d=>.ok (.ret d)
 |t=>.ok (.Bi (.ow (.tree none t)))
end
section
variable {X:Cx}{WX:Str->Hp->Prop}{c:Bool}{P0:BO}{P:Addr->Prop}{H:Hp}{σ:St}{ρ:A6}{a b e:Expr}{f g:A6->M D}{fn:A6->M OT}{pos:Pos}
theorem Ac.XO {K:zc}{H':Hp}{fp:List Addr}(E:Ac K P0 P H σ ρ)(s:A9 H H')(hn:∀a∈fp,H a=none):Tr P0 P H (PU P fp) H':=
 ⟨Cw s hn,λ a ha=>by obtain⟨o,q,_⟩:=E.BG a (E.sub a ha);rw[q];exact s _ _ q⟩
theorem AX (ha:DN X WX e fn):DS X WX (.Return (some e) pos) (λ ρ=>(fn ρ).bind NV):=by
 obtain⟨ta,a1,a2⟩:=ha;refine⟨_,Jb a1,λ P0 P σ H Z ρ E h=>?_⟩;dsimp only at h;refine a2 P0 P σ H _ ρ E ?_;cases q:fn ρ with
 |bad=>rw[q] at h;exact h
 |ex x=>rw[q] at h;exact λ H' s=>h H' P (E.tr s)
 |ok t =>
  rw[q] at h;simp only[M.A7] at h;intro v fp H' s hn nd o;have key:gS X.K WX P0 P H Z (.ok (.Bi (.ow (.tree none t))))->Z.rt v H':=λ h =>
   h v fp H' (PU P fp) (E.XO s hn) (λ a ha=>.inl (E.sub a ha)) (Ju (E.same s).BG o) o (λ a ha=>⟨.inr ha,λ z=>(E.BG a (E.sub a z)).no (hn a ha)⟩) nd
  cases t with
  |sh d =>
   cases o with
   |sh hv=>exact h v H' P (E.tr s) (hv.mono (Bf λ a ha=>.inl (E.sub a ha)))
  |lst ts|tup ts|AS b ks ts|ins x ns ts=>exact key h
noncomputable def Cg:List OT->Option (List D)
 |[]=>some []
 | .sh d::r=>(Cg r).map (d::·)
 |_::_=>none
theorem Bc:∀ds:List D,Cg (ds.map .sh)=some ds
 |[]=>rfl
 |d::r=>by rw[zj,Cg,Bc r];rfl
theorem Ei:∀ {ts:List OT}{ds:List D},Cg ts=some ds->ts=ds.map .sh
 |[],ds,h=>by cases h;rfl
 | .sh d::r,ds,h=>by
  rw[Cg] at h;cases q:Cg r with
  |none=>rw[q] at h;cases h
  |some es=>rw[q] at h;cases h;rw[zj,<-Ei q]
 | .lst _::r,ds,h| .tup _::r,ds,h| .AS _ _ _::r,ds,h| .ins _ _ _::r,ds,h=>by cases h
noncomputable def toCl (p:Option Nat)(t:OT):Cl:=match t with
 | .lst ts=>(match Cg ts with
  |some ds=>(match p with|none=>.own ds|some q=>.ow (.G3 q ds))
  |none=>.ow (.tree p (.lst ts)))
 |t=>.ow (.tree p t)
@[simp] theorem toCl_list (ds:List D):toCl none (.lst (ds.map .sh))=.own ds:=by unfold toCl;simp only[Bc]
@[simp] theorem toCl_listP (q:Nat) (ds:List D):toCl (some q) (.lst (ds.map .sh))=.ow (.G3 q ds):=by unfold toCl;simp only[Bc]
@[simp] theorem toCl_dct (p:Option Nat) (b:Bool) (ks:List D) (ts:List OT):toCl p (.AS b ks ts)=.ow (.tree p (.AS b ks ts)):=rfl
noncomputable def treeOf:Cl->Option (Option Nat×OT)
 | .own ds=>some (none,.lst (ds.map .sh))
 | .ow (.G3 p ds)=>some (some p,.lst (ds.map .sh))
 | .ow (.rows CS)=>some (none,.lst (CS.map λ ds=>.lst (ds.map .sh)))
 | .ow (.tree p t)=>some (p,t)
 | .val _=>none
theorem Bm.toT {K:zc}{H:Hp}{P:Addr->Prop}{c:Cl}{v:V}{fp:List Addr}{p:Option Nat}{t:OT}(h:Bm K H P c v fp)(e:treeOf c=some (p,t)):AY K H P v t fp:=by
 cases c with
 |val d=>exact h.elim
 |own ds =>
  cases e;obtain⟨p,xs,rfl,rfl,h1,h2⟩:=h;exact .lst h1 h2.ows
 |ow o =>
  cases o with
  |rows CS =>
   cases e;obtain⟨p,ps,rfl,rfl,h1,h2⟩:=h;exact .lst h1 h2.ows
  |G3 p ds =>
   cases e;obtain⟨p,xs,rfl,rfl,h1,h2⟩:=h;exact .lst h1 h2.ows
  |tree p t'=>cases e;exact h
theorem Bm.toCl {K:zc}{H:Hp}{P:Addr->Prop}{v:V}{fp:List Addr}{p:Option Nat}{t:OT}(h:AY K H P v t fp):Bm K H P (toCl p t) v fp:=by
 unfold L2.toCl;split
 ·rename_i ts;cases q:Cg ts with
  |none=>exact h
  |some ds =>
   have e:=Ei q;subst e;cases h with
   |lst h1 h2 =>
    obtain⟨rfl,h3⟩:=h2.WZ;cases p with
    |none|some q=>exact⟨_,_,rfl,rfl,h1,h3⟩
 ·exact h
theorem Cy (p:Option Nat)(t:OT):II (toCl p t)=p:=by
 unfold toCl;split
 ·rename_i ts;cases q:Cg ts with
  |none|some ds=>cases p<;>rfl
 ·cases p<;>rfl
theorem Ej {c:Cl}{p:Option Nat}{t:OT}(h:treeOf c=some (p,t)):II c=p:=by
 cases c with
 |val d=>cases h
 |own ds=>cases h;rfl
 |ow o =>
  cases o with
  |rows CS|G3 p ds=>cases h;rfl
  |tree p t=>cases h;cases p<;>rfl
noncomputable def KO (i:Nat)(ρ:A6)(t:OT):M Out:=match t with
 | .sh d=>.ok (.next (ρ.set i (some (.val d))))
 |t=>.ok (.next (ρ.set i (some (toCl none t))))
theorem Wl {K:zc}{i:Nat}{t:OT}{v:V}{fp:List Addr}{H':Hp}{Z:Ends}(E:Ac K P0 P H σ ρ)(s:A9 H H')(hn:∀a∈fp,H a=none)(nd:fp.Nodup)(o:AY K H' (PU P fp) v t fp)(h:gS K WX P0 P H Z (KO i ρ t)):Z.nx (σ.set i (some v)) H':=by
 have key:gS K WX P0 P H Z (.ok (.next (ρ.set i (some (toCl none t)))))->Z.nx (σ.set i (some v)) H':=λ h=>by
  refine h _ H' (PU P fp) (E.XO s hn) (E.RB Jt (Ju (E.same s).BG o) (Cw s hn) (λ j c' v' ae ac g1 g2 g3 a ha=>?_) (Bm.toCl o) (λ a ha=>⟨.inr ha,λ z=>(E.BG a (E.sub a z)).no (hn a ha)⟩) nd (λ n z=>by rw[Cy] at z;cases z));obtain⟨xs,z⟩:=g3.at a ha;exact⟨by rw[z];exact s _ _ z,λ w=>by rw[hn a w] at z;cases z⟩
 cases t with
 |sh d =>
  cases o with
  |sh hv=>exact h _ H' P (E.tr s) ((E.same s).NK (by rw[M4] at hv;exact hv))
 |lst ts|tup ts|AS b ks ts|ins x ns ts=>exact key h
theorem EI (i:Nat){x:Str}{pos':Pos}(hN:X.N.Nodup)(hi:X.N[i]?=some x)(hx:Loc X.env.scope x)(ha:DN X WX e fn)(hs:swapsWith e (some (.Name x pos')) pos.line X.env=pure false:=by rfl)(hf:X.fn x=true\/X.env.scope.names.lookup x=some .local:=by first | exact .inl rfl | exact .inr rfl | assumption):
 DS X WX (.Assign [.Name x pos'] e pos) (λ ρ=>(fn ρ).bind (KO i ρ)):=by
 obtain⟨ta,a1,a2⟩:=ha;refine⟨_,LG hN hi hx a1 hs hf,λ P0 P σ H Z ρ E h=>?_⟩;dsimp only at h;refine a2 P0 P σ H _ ρ E ?_;cases q:fn ρ with
 |bad=>rw[q] at h;exact h
 |ex x=>rw[q] at h;exact λ H' s=>h H' P (E.tr s)
 |ok t =>
  rw[q] at h;exact λ v fp H' s hn nd o=>Wl E s hn nd o h
noncomputable def M5 (i:Nat)(ρ:A6):M Out:=match ρ[i]? with
 |some (some (.val d))=>.ok (.ret d)
 |some (some c)=>.ok (.Bi c)
 |_=>.bad
theorem G8 (i:Nat){x:Str}{p1:Pos}(hv:PE X (.Name x p1) (Nt i)):DS X WX (.Return (some (.Name x p1)) pos) (M5 i):=by
 refine⟨_,Jb hv,λ P0 P σ H Z ρ E h=>?_⟩;unfold M5 at h;split at h
 ·rename_i d e1;obtain⟨v,h1,h2⟩:=E.val i d e1;exact⟨v,h1,h v H P Tr.refl (h2.mono (Bf E.sub))⟩
 ·rename_i c hc e1;have io:D5 c=true:=by
   cases c with
   |val d=>exact (hc d rfl).elim
   |own ds|ow o=>rfl
  obtain⟨v,fp,h1,h2,h3,h4⟩:=E.ows i _ e1 io;exact⟨v,h1,h v fp H P Tr.refl E.sub E.BG h2 h3 h4⟩
 ·exact h.elim
theorem M6:∀ds:List D,OY (ds.map .sh)=ds
 |[]=>rfl
 |d::r=>by rw[zj,OY,er,M6 r]
noncomputable def PH (i:Nat)(ρ:A6):A6:=match ρ[i]? with
 |some (some c)=>ρ.set i (some (FV c))
 |_=>ρ
end
section
variable {K:zc}{H H':Hp}{P P':Addr->Prop}
theorem By.same {v:V}{t:OT}{q:List Addr}{xs:List V}(e:A9 H H')(h:By K H P v t q xs):By K H' P v t q xs:=by
 cases t with
 |sh d=>exact h.elim
 |lst ts=>obtain⟨p,rfl,rfl,h⟩:=h;exact⟨p,rfl,rfl,e _ _ h⟩
 |tup ts=>obtain⟨p,rfl,rfl,h⟩:=h;exact⟨p,rfl,rfl,e.del _ _ h⟩
 |AS b ks ts =>
  cases b with
  |false|true=>obtain⟨p,kvs,rfl,rfl,h,rfl,rfl⟩:=h;exact⟨p,kvs,rfl,rfl,e _ _ h,rfl,rfl⟩
 |ins x ns ts=>obtain⟨p,C,dx,fs,rfl,rfl,n,h,rfl,rfl⟩:=h;exact⟨p,C,dx,fs,rfl,rfl,n,e _ _ h,rfl,rfl⟩
theorem GQ.same {v v1:V}{t t1:OT}{π:List Nat}(e:A9 H H')(h:GQ K H P v t π v1 t1):GQ K H' P v t π v1 t1:=by
 induction h with
 |nil=>exact .nil
 |cons n hx hs _ ih=>exact .cons (n.same e) hx hs ih
end
noncomputable def PJ (i:Nat)(ρ:A6)(π:List Nat):Option OT:=match ρ[i]? with
 |some (some c)=>(match treeOf c with|some (_,t)=>Fb t π|none=>none)
 |_=>none
structure Bq (K:zc)(P:Addr->Prop)(H:Hp)(σ:St)(ρ:A6)(i:Nat)(π:List Nat)(v:V)(t1:OT):Prop where
 ex:∃v0 c p t,ρ[i]?=some (some c)/\treeOf c=some (p,t)/\σ[i]?=some (some v0)/\GQ K H P v0 t π v t1
theorem Bq.at {K:zc}{P:Addr->Prop}{H:Hp}{σ:St}{ρ:A6}{i:Nat}{π:List Nat}{v:V}{t1:OT}(h:Bq K P H σ ρ i π v t1):PJ i ρ π=some t1:=by
 obtain⟨v0,c,p,t,h1,h2,h3,h4⟩:=h.ex;unfold PJ;simp only[h1,h2];exact h4.sub
theorem Bq.same {K:zc}{P:Addr->Prop}{H H':Hp}{σ:St}{ρ:A6}{i:Nat}{π:List Nat}{v:V}{t1:OT}(e:A9 H H')(h:Bq K P H σ ρ i π v t1):Bq K P H' σ ρ i π v t1:=by
 obtain⟨v0,c,p,t,h1,h2,h3,h4⟩:=h.ex;exact⟨v0,c,p,t,h1,h2,h3,h4.same e⟩
theorem Bq.own {K:zc}{P0:BO}{P:Addr->Prop}{H:Hp}{σ:St}{ρ:A6}{i:Nat}{π:List Nat}{v:V}{t1:OT}(h:Bq K P H σ ρ i π v t1)(E:Ac K P0 P H σ ρ):∃ak,AY K H P v t1 ak/\(∀a∈ak,P a/\¬ P0 a)/\ak.Nodup:=by
 obtain⟨v0,c,p,t,h1,h2,h3,h4⟩:=h.ex;have io:D5 c=true:=by cases c<;>first|rfl|cases h2
 obtain⟨w,fp,k1,k2,k3,k4⟩:=E.ows i c h1 io;rw[h3] at k1;cases k1;obtain⟨ak,o1,hk,kn⟩:=(k2.toT h2).part h4;exact⟨ak,o1,λ a ha=>k3 a (hk a ha),kn k4⟩
def gP (K:zc)(WX:Str->Hp->Prop)(P:Addr->Prop)(H:Hp)(σ:St)(ρ:A6)(i:Nat)(Q:VK):M (List Nat)->Prop
 | .ok π=>∀v t1 H',A9 H H'->Bq K P H' σ ρ i π v t1->Q v H'
 | .ex x=>∀H',A9 H H'->WX x H'
 | .bad=>False
def DP (X:Cx)(WX:Str->Hp->Prop)(e:Expr)(i:Nat)(f:A6->M (List Nat)):Prop:=
 ∃t,PE X e t/\∀P0 P σ H Q ρ,Ac X.K P0 P H σ ρ->gP X.K WX P H σ ρ i Q (f ρ)->t σ H Q
section
variable {X:Cx}{WX:Str->Hp->Prop}{c:Bool}{P0:BO}{P:Addr->Prop}{H:Hp}{σ:St}{ρ:A6}{a b e:Expr}{f g:A6->M D}{fn:A6->M OT}{fp:A6->M (List Nat)}{pos:Pos}{i:Nat}
noncomputable def KP (i:Nat)(ρ:A6):M (List Nat):=match PJ i ρ [] with | some _=>.ok [] | none=>.bad
theorem C4 (i:Nat){x:Str}{p1:Pos}(hv:PE X (.Name x p1) (Nt i)):DP X WX (.Name x p1) i (KP i):=by
 refine⟨_,hv,λ P0 P σ H Q ρ E h=>?_⟩;unfold KP at h;split at h
 ·rename_i t e;unfold PJ at e;split at e
  ·rename_i cl e1;split at e
   ·rename_i p t0 e2;have io:D5 cl=true:=by cases cl<;>first|rfl|cases e2
    obtain⟨v,fp,h1,h2,h3,h4⟩:=E.ows i cl e1 io;exact⟨v,h1,h v t0 H (A9.refl H) ⟨v,cl,p,t0,e1,e2,h1,.nil⟩⟩
   ·cases e
  ·cases e
 ·exact h.elim
theorem Ac.XQ {K:zc}{P':Addr->Prop}{H':Hp}{π:List Nat}{v1:V}{t1 u:OT}{ak fu:List Addr}(E:Ac K P0 P H σ ρ)(pl:Bq K P H σ ρ i π v1 t1)(o:AY K H P v1 t1 ak)(hs:∀a,P a->P' a)(ht:∀a,P' a->Cd H' a)(sm:A9 (del H P) (del H' P'))(keep:∀a,P a->a∉ak->H' a=H a)
 (o':AY K H' P' v1 u fu) (nd:fu.Nodup) (hf:∀a∈fu,a∈ak\/(P' a/\¬ P0 a/\∀(j:Nat) c v fp,ρ[j]?=some (some c)->σ[j]?=some (some v)->Bm K H P c v fp->a∉fp)):
 ∃c p t,ρ[i]?=some (some c)/\treeOf c=some (p,t)/\Ac K P0 P' H' σ (ρ.set i (some (toCl p (Cv t π u))))/\Tr P0 P H P' H':=by
 obtain⟨v0,c,p,t,h1,h2,h3,h4⟩:=pl.ex;have io:D5 c=true:=by cases c<;>first|rfl|cases h2
 obtain⟨w,fp,k1,k2,k3,k4⟩:=E.ows i c h1 io;rw[h3] at k1;cases k1;have ot:=k2.toT h2;obtain⟨fz,oz,kz,_⟩:=ot.part h4;have:=oz.Bg o;subst this;obtain⟨ae,q1,q2,q3⟩:=ot.put sm h4 o o' (λ a ha hn=>keep a (k3 a ha).1 hn) k4 nd (λ a ha hb=>(hf a ha).elim id λ z=>(z.2.2 i c v0 fp h1 h3 k2 hb).elim);refine⟨c,p,t,h1,h2,?_,sm,λ a ha=>keep a (E.sub a ha) λ z=>(k3 a (kz a z)).2 ha⟩;have key:=E.RB (P':=P') (H':=H') (i:=i) (v:=v0) (c:=toCl p (Cv t π u)) (fp:=ae) hs ht sm (λ j c' v' fq ac g1 g2 g3 a ha=>?_) (Bm.toCl q1) (λ a ha=>?_) q2 (λ n z=>by rw[Cy] at z;subst z;have:=E.pin i c n h1 (Ej h2);rw[h3] at this;cases this;rfl)
 ·rw[Jn h3] at key;exact key
 ·have eF:a∉fp:=E.apart j i c' c v' v0 fq fp g1 h1 g2 h3 g3 k2 (zU ac) a ha;have cN:D5 c'=true:=by cases c'<;>first|rfl|exact g3.elim
  obtain⟨w',fr,m1,m2,m3,m4⟩:=E.ows j c' g1 cN;rw[g2] at m1;cases m1;have:=m2.Bg g3;subst this;refine⟨keep a (m3 a ha).1 λ z=>eF (kz a z),λ z=>?_⟩;rcases q3 a z with y|y
  ·rcases hf a y with x|x
   ·exact eF (kz a x)
   ·exact x.2.2 j c' v' fr g1 g2 g3 ha
  ·exact eF y.1
 ·rcases q3 a ha with y|y
  ·rcases hf a y with x|x
   ·exact⟨hs a (k3 a (kz a x)).1,(k3 a (kz a x)).2⟩
   ·exact⟨x.1,x.2.1⟩
  ·exact⟨hs a (k3 a y.1).1,(k3 a y.1).2⟩
end
noncomputable def kd:D->Option Key
 | .int i=>some (.inl i)
 | .str x=>some (.inr x)
 |_=>none
noncomputable def Vf:List D->Option (List Key)
 |[]=>some []
 |d::r=>match kd d,Vf r with|some k,some ks=>some (k::ks)|_,_=>none
theorem SA {d:D}{k:Key}(h:kd d=some k):d=Be k:=by
 cases d<;>simp[kd] at h<;>subst h<;>rfl
theorem PK:∀ {ds:List D}{ks:List Key},Vf ds=some ks->ds=ks.map Be
 |[],ks,h=>by cases h;rfl
 |d::r,ks,h=>by
  rw[Vf] at h;cases q:kd d with
  |none=>rw[q] at h;cases h
  |some k =>
   cases q2:Vf r with
   |none=>rw[q,q2] at h;cases h
   |some br =>
    rw[q,q2] at h;cases h;rw[zj,<-SA q,<-PK q2]
inductive RS:Bool->D->Prop
 |k (κ:Key):RS false (Be κ)
 |t (κ:List Key):RS true (.tup (κ.map Be))
noncomputable def keyOk (b:Bool)(d:D):Bool:=match b,d with
 |false,d=>(kd d).isSome
 |true,.tup ds=>(Vf ds).isSome
 |_,_=>false
theorem Dg {b:Bool}{d:D}(h:keyOk b d=true):RS b d:=by
 cases b with
 |false =>
  obtain⟨k,hk⟩:=y8.mp (show (kd d).isSome=true from h);rw[SA hk];exact .k k
 |true =>
  cases d with
  |tup ds =>
   obtain⟨k,hk⟩:=y8.mp (show (Vf ds).isSome=true from h);rw[PK hk];exact .t k
  |_=>cases h
theorem GV (a b:Key):Aj (Be a) (Be b)=decide (a=b):=by
 cases a with
 |inl i =>
  cases b with
  |inl j=>simp only[Be,Aj];rw[Bool.eq_iff_iff];simp
  |inr y=>simp[Be,Aj]
 |inr x =>
  cases b with
  |inl j=>simp[Be,Aj]
  |inr y=>simp only[Be,Aj];rw[Bool.eq_iff_iff];simp
theorem G9:∀a b:List Key,BB (a.map Be) (b.map Be)=decide (a=b)
 |[],[]|[],_::_|_::_,[]=>by simp[BB]
 |a::r,b::t=>by
  rw[zj,zj,BB,GV,G9 r t,Bool.eq_iff_iff];simp
noncomputable def EJ {α:Type}:List D->List α->D->Option α
 |k::ks,v::vs,y=>if Aj k y=true then some v else EJ ks vs y
 |_,_,_=>none
noncomputable def FW {α:Type}:List D->List α->D->α->List α
 |k::ks,v::vs,y,z=>(if Aj k y=true then z else v)::FW ks vs y z
 |_,vs,_,_=>vs
noncomputable def Jw (ks:List D)(y:D):Bool:=ks.any λ k=>Aj k y
section
variable {κ:Type} [DecidableEq κ] {fk:κ->D}(hf:∀a b,Aj (fk a) (fk b)=decide (a=b))
include hf
theorem GW {α:Type}:∀(kvs:List (κ×α)) (k:κ),EJ (kvs.map λ kv=>fk kv.1) (kvs.map yg) (fk k)=(kvs.find? λ kv=>decide (kv.1=k)).map (·.2)
 |[],k=>rfl
 |p::r,k=>by
  rw[zj,zj,EJ,hf,yy];by_cases e:p.1=k
  ·rw[decide_eq_true e];rfl
  ·rw[decide_eq_false e];simp only[zv,if_false];exact GW r k
theorem GX {α:Type}(kvs:List (κ×α))(k:κ):Jw (kvs.map λ kv=>fk kv.1) (fk k)=kvs.any λ kv=>decide (kv.1=k):=by
 unfold Jw;rw[List.any_map];congr 1;funext kv;exact hf _ _
theorem EK (k:κ)(v:V):∀(kvs:List (κ×V)),FW (kvs.map λ kv=>fk kv.1) (kvs.map yg) (fk k) v=(kvs.map λ kv=>if kv.1=k then (kv.1,v) else kv).map yg
 |[]=>rfl
 |p::r=>by
  rw[zj,zj,FW,hf,zj,zj,EK k v r];by_cases e:p.1=k
  ·rw[decide_eq_true e,if_pos e];rfl
  ·rw[decide_eq_false e,if_neg e];rfl
theorem EL (k:κ)(v:V):∀(kvs:List (κ×V)),(kvs.map λ kv=>if kv.1=k then (kv.1,v) else kv).map (λ kv=>fk kv.1)=kvs.map λ kv=>fk kv.1
 |[]=>rfl
 |p::r=>by
  rw[zj,zj,zj,EL k v r];by_cases e:p.1=k
  ·rw[if_pos e]
  ·rw[if_neg e]
end
theorem KQ {K:zc}{H:Hp}:∀ {ks:List D}{xs:List V}{ds:List D}{y d:D},Ab K H xs ds->EJ ks ds y=some d->∃x,EJ ks xs y=some x/\AW K H x d
 |[],_,_,_,_,_,e|_::_,_,_,_,_,.nil,e=>by simp[EJ] at e
 |k::ks,_,_,y,d,.cons h t,e=>by
  rw[EJ] at e ⊢;by_cases q:Aj k y=true
  ·rw[if_pos q] at e ⊢;cases e;exact⟨_,rfl,h⟩
  ·rw[if_neg q] at e ⊢;exact KQ t e
theorem IX {α:Type}:∀ {ks:List D}{xs:List α}{y:D},xs.length=ks.length->Jw ks y=(EJ ks xs y).isSome
 |[],[],y,_=>rfl
 |k::ks,x::xs,y,h=>by
  unfold Jw;rw[y4,EJ];cases q:Aj k y with
  |true=>rfl
  |false =>
   simp only[Bool.false_or,zv,if_false];exact IX (by simpa using h)
 |[],_::_,_,h|_::_,[],_,h=>by cases h
theorem EM {K:zc}{H:Hp}{P:Addr->Prop}{y d:D}{v:V}(hv:AW K (del H P) v d):∀ {ks:List D}{xs:List V}{ds:List D},Ab K (del H P) xs ds->Ab K (del H P) (FW ks xs y v) (FW ks ds y d)
 |[],_,_,h=>by simp only[FW];exact h
 |_::_,_,_,.nil=>by simp only[FW];exact .nil
 |k::ks,_,_,.cons h t=>by
  rw[FW,FW];refine .cons ?_ (EM hv t);by_cases q:Aj k y=true
  ·rw[if_pos q,if_pos q];exact hv
  ·rw[if_neg q,if_neg q];exact h
section
variable {K:zc}{H:Hp}{P:Addr->Prop}
theorem Ab.keys:∀ {xs:List V}(κ:List Key),Ab K H xs (κ.map Be)->xs=κ.map kV
 |_,[],.nil=>rfl
 |_,k::r,.cons h t=>by
  rw[zj,<-Ab.keys r t];congr 1;cases k with
  |inl i=>exact h.int_inv
  |inr x=>cases h;rfl
theorem AW.U7 {y:V}{κ:Key}(h:AW K H y (Be κ)):y=kV κ:=by
 cases κ with
 |inl i=>exact h.int_inv
 |inr x=>cases h;rfl
theorem MY {v y:V}{b:Bool}{ks vs:List D}{k:D}(hv:AW K (del H P) v (.AS b ks vs))(hy:AW K (del H P) y k)(hk:RS b k):∃a xs,v=.ref a/\LN H a y (EJ ks xs k)/\Ab K (del H P) xs vs/\xs.length=ks.length:=by
 cases hv with
 |E5 hh hl =>
  cases hk with
  |k κ =>
   refine⟨_,_,rfl,?_,hl,by simp⟩;rw[hy.U7,GW GV];exact .inl ⟨_,κ,hh.AZ,rfl,rfl⟩
 |D2 hh hl =>
  cases hk with
  |t κ =>
   cases hy with
   |tup ht b7 =>
    have e:=Ab.keys κ b7;subst e;refine⟨_,_,rfl,?_,hl,by simp⟩;rw[GW (fk:=λ κ:List Key=>D.tup (κ.map Be)) (λ a b=>by simp only[Aj];exact G9 a b)];exact .inr ⟨_,κ,_,hh.AZ,rfl,(Ag ht).2,rfl⟩
end
section
variable {X:Cx}{WX:Str->Hp->Prop}{c:Bool}{P0:BO}{P:Addr->Prop}{H:Hp}{σ:St}{ρ:A6}{a b e:Expr}{f g:A6->M D}{fn:A6->M OT}{fp:A6->M (List Nat)}{pos:Pos}{i:Nat}
noncomputable def Wm:R2:=λ x y H Q=>∃a v,x=.ref a/\LN H a y (some v)/\Q v H
theorem RT (hu:X.A.units+1<cLine):Ri X Wm:=by
 intro value slice pins s σ H x y v u Q I rx ry h hs;obtain⟨a,z,rfl,g,q⟩:=h;cases rx;have hT:=Kw I g;have h₂:wpAny (model X.prog X.w) X.A (getItem (.ref a) u) (EP X pins σ Q) X.xe s:=NE hu I g ry λ w' s3 I3 aJ=>⟨z,H,I3,aJ,q⟩;unfold subscriptTail;refine wpAny_bind ?_;rw[getitemInPython_of_ne hT.not_modules];refine wpAny_bind (wpAny_specialOf hT PySem.F.slot_dict_getitem.lookup ?_);have fin:wpAny (model X.prog X.w) X.A (subscripted slice false (.ref a) u) (λ r s₃=>wpAny (model X.prog X.w) X.A (letTemporaryGo value (.ref a) r >>= λ _=>pure r) (EP X pins σ Q) X.xe s₃) X.xe s:=by
  rw[hs];exact wpAny_operating (wpAny_mono h₂ (λ r s₃ h₃=>wpAny_bind (wpAny_letTemporaryGo (wpAny_pure h₃))) λ _ _ x=>x)
 first
  |exact wpAny_pure (wpAny_bind fin)
  |exact wpAny_bind (wpAny_pure (wpAny_bind fin))
  |exact wpAny_bind fin
noncomputable def BI (x y:D):M D:=match x with
 | .AS b ks vs=>if keyOk b y=true then (match EJ ks vs y with|some d=>.ok d|none=>.bad) else .bad
 |x=>XG x y
theorem RU:LQ X.K WX (λ x y H Q=>(Tn X.K x y H Q\/To X.K x y H Q)\/Wm x y H Q) BI:=by
 intro P H x y v w Q ht hx hy h;cases x with
 |AS b ks vs =>
  simp only[BI] at h;by_cases hk:keyOk b y=true
  ·rw[if_pos hk] at h;obtain⟨a,xs,rfl,g,hl,_⟩:=MY hx hy (Dg hk);split at h
   ·rename_i d e;obtain⟨u,e1,e2⟩:=KQ hl e;rw[e1] at g;exact .inr ⟨a,u,rfl,g,h _ H (A9.refl H) e2⟩
   ·exact h.elim
  ·rw[if_neg hk] at h;exact h.elim
 |Aw|bl b|int b|str b|tup b|lst b|BY b|ins b _ _=>exact .inl (D7 P H _ y v w Q ht hx hy h)
theorem Av {n:Nat}(hu:X.A.units+n<cLine)(ha:DE X WX c a f)(hb:DE X WX c b g)(hs:Jd b:=by exact λ _ _=>rfl)(hn:1<=n:=by decide):DE X WX c (.Subscript a b pos) (λ ρ=>(f ρ).bind λ x=>(g ρ).bind λ y=>BI x y):=W6 ((Rj.or Tp).or (RT (by omega))) RU ha hb hs
noncomputable def U8 (neg:Bool):R2:=λ y x H Q=>∃a o,x=.ref a/\LN H a y o/\Q (.bl (if neg=true then !o.isSome else o.isSome)) H
theorem M7 (hu:X.A.units+1<cLine):Ex X (compareOp .In) (U8 false):=by
 intro pins s σ H x y v u Q I rx ry h;obtain⟨a,o,rfl,g,q⟩:=h;cases ry;exact XC hu I g rx λ s3 I3=>⟨.bl o.isSome,H,I3,rfl,q⟩
theorem Im (hu:X.A.units+1<cLine):Ex X (compareOp .NotIn) (U8 true):=by
 intro pins s σ H x y v u Q I rx ry h;obtain⟨a,o,rfl,g,q⟩:=h;cases ry;exact Ro hu I g rx λ s3 I3=>⟨.bl (!o.isSome),H,I3,rfl,q⟩
noncomputable def Io (neg:Bool)(y x:D):M D:=match x with
 | .AS b ks vs=>if keyOk b y=true then .ok (.bl (if neg=true then !Jw ks y else Jw ks y)) else .bad
 |x=>WW neg y x
theorem MZ {neg:Bool}:LQ X.K WX (λ x y H Q=>WR X.K neg x y H Q\/U8 neg x y H Q) (Io neg):=by
 intro P H x y v w Q ht hx hy h;cases y with
 |AS b ks vs =>
  simp only[Io] at h;by_cases hk:keyOk b x=true
  ·rw[if_pos hk] at h;obtain⟨a,xs,rfl,g,hl,hn⟩:=MY hy hx (Dg hk);rw[IX (xs:=xs) hn] at h;exact .inr ⟨a,_,rfl,g,h _ H (A9.refl H) (.bl _)⟩
  ·rw[if_neg hk] at h;exact h.elim
 |Aw|bl b|int b|str b|tup b|lst b|BY b|ins b _ _=>exact .inl (Dd P H x _ v w Q ht hx hy h)
theorem M8 {n:Nat}(hu:X.A.units+n<cLine)(ha:DE X WX c a f)(hb:DE X WX c b g)(hm:behindInMarks .In b=false:=by rfl)(hn:1<=n:=by decide):DT X WX (.Compare a [.In] [b] pos) (λ ρ=>((f ρ).bind λ x=>(g ρ).bind λ y=>Io false x y).bind KH):=Cs (NA.or (M7 (by omega))) MZ ha hb hm
theorem Jx {n:Nat}(hu:X.A.units+n<cLine)(ha:DE X WX c a f)(hb:DE X WX c b g)(hm:behindInMarks .NotIn b=false:=by rfl)(hn:1<=n:=by decide):DT X WX (.Compare a [.NotIn] [b] pos) (λ ρ=>((f ρ).bind λ x=>(g ρ).bind λ y=>Io true x y).bind KH):=Cs (Jf.or (Im (by omega))) MZ ha hb hm
noncomputable def FX:D->M Bool
 | .Aw=>.ok false
 | .bl b=>.ok b
 | .int i=>.ok (i != 0)
 | .tup ds| .lst ds=>.ok (!ds.isEmpty)
 |_=>.bad
theorem EN {K:zc}{H:Hp}{xs:List V}{ds:List D}(h:Ab K H xs ds):(!ds.isEmpty) = !xs.isEmpty:=by cases h<;>rfl
theorem Jy (h:DE X WX c e f)(he:∀whole,isTrue e X.env whole=(do let v <-whole;standAt e.pos;holding [v] (truthy v)):=by intro _;rfl):DT X WX e (λ ρ=>(f ρ).bind FX):=by
 obtain⟨t,h1,h2⟩:=h;refine⟨_,OE h1 he,λ P0 P σ H Q ρ E h=>h2 P0 P σ H _ ρ E ?_⟩;dsimp only at h;cases q:f ρ with
 |bad|ex x=>rw[q] at h;exact h
 |ok d =>
  rw[q] at h;simp only[M.A7] at h;intro v H' s hv;cases hv with
  |Aw=>exact⟨false,rfl,h H' s⟩
  |bl b=>exact⟨b,rfl,h H' s⟩
  |int i=>exact⟨_,rfl,h H' s⟩
  |tup hs hl=>exact⟨_,.inr (.inl ⟨_,EX.of (Ag hs).2,rfl⟩),by rw[<-EN hl];exact h H' s⟩
  |lst hs hl=>exact⟨_,.inl ⟨_,hs.AZ,rfl⟩,by rw[<-EN hl];exact h H' s⟩
  |_=>exact h.elim
end
noncomputable def EO (m:M (List D)):M OT:=match m with | .ok ys=>.ok (.lst (ys.map .sh)) | _=>.bad
section
variable {X:Cx}{WX:Str->Hp->Prop}{c:Bool}{P0:BO}{P:Addr->Prop}{H:Hp}{σ:St}{ρ:A6}{a b e tg iter:Expr}{f g:A6->M D}{ft:A6->M Bool}{pos:Pos}{gt:D->A6->M A6}{fi:A6->M (List D)}{es:List Expr}{fs:A6->M (List D)}
theorem U9 {μ:List (Option Nat)}{wi:TI}{gg:TG}{tc:Shared->Hp->Addr->List Addr->TT}{te:Shared->Hp->Addr->List Addr->TE}{fe:A6->M D}
 (i2:∀P0 P σ H R ρ,Ac X.K P0 P H σ ρ->(match fi ρ with | .ok ds=>∀J H',A9 H H'->M0 X.K J P H' ds->R J H' | .ex x=>∀H',A9 H H'->WX x H' | .bad=>False)->wi σ H R)
 (g2:∀P0 P σ H Q ρ v d,Ac X.K P0 P H σ ρ->AW X.K (del H P) v d->gG X.K P0 P H Q (gt d ρ)->gg v σ H Q)
 (t2:∀s H' C ex P0 P σ H Q ρ,Ac X.K P0 P H σ ρ->gT (λ _ _=>False) H Q (ft ρ)->tc s H' C ex σ H Q)
 (e2:∀s H' C ex P0 P σ H Q ρ,Ac X.K P0 P H σ ρ->gV X.K (λ _ _=>False) (Lv true P0 P) H Q (fe ρ)->te s H' C ex σ H Q) {Q:VK}
 (E:Ac X.K P0 P H σ ρ) (h:QM X.K WX P H Q ((fi ρ).bind λ ds=>if ds.length<=1000 then EO (AH gt ft fe ds (AB μ ρ)) else .bad)):KA wi μ gg tc te σ H Q:=by
 refine i2 P0 P σ H _ ρ E ?_;cases q:fi ρ with
 |bad|ex x=>rw[q] at h;exact h
 |ok ds =>
  rw[q] at h;simp only[M.A7] at h;by_cases hd:¬ ds.length<=1000
  ·rw[if_neg hd] at h;exact h.elim
  have hd:ds.length<=1000:=by omega
  rw[if_pos hd] at h;intro J H1 s1 ok s C ex;cases qc:AH gt ft fe ds (AB μ ρ) with
  |bad|ex x=>rw[qc] at h;exact h.elim
  |ok total =>
   rw[qc] at h;unfold EO at h;dsimp only at h;have E1:=E.same s1;refine⟨λ i m ys H2=>m=ds.length-i/\i<=ds.length/\ys.length<=i/\A9 H1 H2/\∃es rest,Ab X.K (del H2 P) ys es/\AH gt ft fe (ds.drop i) (AB μ ρ)=.ok rest/\es++rest=total,
    ⟨ds.length,by simp,zR _,zp _,A9.refl _,[],total,.nil,by rw[List.drop_zero];exact qc,rfl⟩,?_⟩
   rintro i m ys H2 ⟨rfl,hi,hy,s2,es,rest,a6,ab,aq⟩;by_cases ag:i<ds.length
   ·refine .inr ⟨ok.go i P H2 s2.del ag,Nat.lt_of_le_of_lt hy (AM (by omega)),λ aw H'=>i+1<=ds.length/\aw.length<=i+1/\A9 H1 H'/\∃es rest,Ab X.K (del H' P) aw es/\AH gt ft fe (ds.drop (i+1)) (AB μ ρ)=.ok rest/\es++rest=total,λ aw H' hq=>⟨ds.length-(i+1),by omega,rfl,hq.1,hq.2.1,hq.2.2.1,hq.2.2.2⟩,λ v H3 y=>?_⟩;have E2:=E1.same s2;obtain⟨s3,hv⟩:=ok.R5 i P H2 v H3 ds[i] s2.del E2.BG (zu ag) y;rw[D8 ag,AH] at ab;have E3:=(E2.same s3).block μ;refine g2 P0 P _ H3 _ (AB μ ρ) v ds[i] E3 hv ?_;cases q1:gt ds[i] (AB μ ρ) with
    |bad|ex x=>rw[q1] at ab;cases ab
    |ok ρ1 =>
     rw[q1] at ab;dsimp only at ab;intro σ4 E4;refine t2 s H1 C ex P0 P σ4 H3 _ ρ1 E4 ?_;cases q2:ft ρ1 with
     |bad|ex x=>rw[q2] at ab;cases ab
     |ok k =>
      rw[q2] at ab;dsimp only at ab;intro H5 s5;cases k with
      |false =>
       simp only[zv,if_false] at ab ⊢;exact⟨ag,by omega,(s2.trans s3).trans s5,es,rest,(a6.mono s3.del).mono s5.del,ab,aq⟩
      |true =>
       simp only[if_true] at ab ⊢;refine e2 s H1 C ex P0 P σ4 H5 _ ρ1 (E4.same s5) ?_;cases q3:fe ρ1 with
       |bad|ex x=>rw[q3] at ab;cases ab
       |ok y' =>
        rw[q3] at ab;dsimp only at ab;cases q4:AH gt ft fe (ds.drop (i+1)) (AB μ ρ) with
        |bad|ex x=>rw[q4] at ab;cases ab
        |ok cG =>
         rw[q4] at ab;cases ab;intro w H6 s6 hw;refine⟨ag,by rw[zT,yn];omega,((s2.trans s3).trans s5).trans s6,es++[y'],cG,(((a6.mono s3.del).mono s5.del).mono s6.del).snoc hw,rfl,?_⟩;rw[y3];exact aq
   ·have e:i=ds.length:=by omega
    subst e;rw[yB,AH] at ab;cases ab;rw[yk] at aq;subst aq;exact .inl ⟨ok.stop _ P H2 s2.del (zp _),λ D0 hn=>h.GR (s1.trans s2) a6 D0 hn⟩
theorem RV {scope:Scope}{NB:List Str}{ifs:List Expr}{elt:Expr}{fe:A6->M D}(μ:List (Option Nat))(hc:X.calm=true)(hi:DI X WX tg iter fi)(am:EB scope X.env.scope=true)(a9:Ji X.N NB scope μ=true)(hg:WU X scope NB μ tg gt)
 (ht:∀s H C ex,WV (blockOf X s H scope C NB ex) ifs ft) (he:∀s H C ex,DE (blockOf X s H scope C NB ex) (λ _ _=>False) true elt fe) (hs:∀x,foldedSetIterable iter X.env x=pure x:=by intro _;rfl):
 DN X WX (.ListComp elt [⟨tg,iter,ifs,0⟩] scope pos) (λ ρ=>(fi ρ).bind λ ds=>if ds.length<=1000 then EO (AH gt ft fe ds (AB μ ρ)) else .bad):=by
 obtain⟨wi,i1,i2⟩:=hi;obtain⟨gg,g1,gk,g2⟩:=hg;refine⟨_,MN hc i1 am a9 gk (λ s H C ex=>⟨g1 s H C ex,(ze (ht s H C ex)).1,(ze (he s H C ex)).1⟩) hs,λ P0 P σ H Q ρ E h=>?_⟩;exact U9 i2 g2 (λ s H' C ex P0 P σ H Q ρ E h=>(ze (ht s H' C ex)).2 P0 P σ H Q ρ E h) (λ s H' C ex P0 P σ H Q ρ E h=>(ze (he s H' C ex)).2 P0 P σ H Q ρ E h) E h
end
def XR (K:zc)(WX:Str->Hp->Prop)(P:Addr->Prop)(p:Addr)(fp:List Addr)(H:Hp)(Q:VK):M (OT×OT)->Prop
 | .ok (t,r)=>∀v H' P' ae fr,(∀a,P a->a∉fp->P' a/\H' a=H a)->(∀a,P' a->Cd H' a)->A9 (del H P) (del H' P')->AY K H' P' (.ref p) t ae->ae.Nodup->AY K H' P' v r fr->fr.Nodup->(∀a∈fr,a∉ae)->
  (∀a∈ae,P' a/\(P a->a∈fp))->(∀a∈fr,P' a/\(P a->a∈fp))->Q v H'
 | .ex _| .bad=>False
noncomputable def PL (K:zc)(n:Nat)(F:OT->List D->M (OT×OT)):Sp:=λ vs H Q E=>vs.length=n/\∃P p t fp rest al,vs=.ref p::rest/\(∀a,P a->Cd H a)/\(∀a∈fp,P a)/\fp.Nodup/\AY K H P (.ref p) t fp/\Ab K (del H P) rest al/\XR K (GG K E) P p fp H Q (F t al)
noncomputable def BR (N:List Str)(t:OT)(al:List D):A6:=some (toCl (some 0) t)::(al.map (λ d=>some (.val d))++List.replicate (N.length-(al.length+1)) none)
noncomputable def Dh (ρ:A6):Option OT:=match ρ[0]? with
 |some (some c)=>(match treeOf c with|some (some 0,t)=>some t|_=>none)
 |_=>none
noncomputable def Ek (m:M Out):M (OT×OT):=match m with
 | .ok (.next ρ)=>(match Dh ρ with|some t=>.ok (t,.sh .Aw)|none=>.bad)
 | .ok (.Ce r ρ)=>(match Dh ρ with|some t=>.ok (t,r)|none=>.bad)
 |_=>.bad
theorem NW (p:Option Nat)(t:OT):D5 (toCl p t)=true:=by
 unfold toCl;split
 ·rename_i ts;cases q:Cg ts with
  |none=>rfl
  |some ds=>cases p<;>rfl
 ·rfl
theorem Jz {K:zc}{P:Addr->Prop}{H:Hp}{N:List Str}{p:Addr}{t:OT}{fp:List Addr}{rest:List V}{al:List D}(ht:∀a,P a->Cd H a)(hp:∀a∈fp,P a)(nd:fp.Nodup)(o:AY K H P (.ref p) t fp)(h:Ab K (del H P) rest al):
 Ac K ⟨λ a=>P a/\a∉fp,λ _=>p⟩ P H (start N (.ref p::rest)) (BR N t al):=by
 have hl:=h.length;have key:∀(i:Nat) (c:Cl),(al.map (λ d=>some (Cl.val d))++List.replicate (N.length-(al.length+1)) none)[i]?=some (some c)->∃d,al[i]?=some d/\c=.val d:=λ i c e=>by
  by_cases hi:i<al.length
  ·rw[yb (by simpa using hi),zy] at e;cases q:al[i]? with
   |none=>rw[q] at e;cases e
   |some d=>rw[q] at e;cases e;exact⟨d,rfl,rfl⟩
  ·rw[yl (by simpa using hi),List.getElem?_replicate] at e;split at e<;>cases e
 have gj:(start N (.ref p::rest))[0]?=some (some (.ref p)):=by unfold start;rfl
 refine⟨λ a h=>h.1,ht,λ i d e=>?_,λ i c e io=>?_,λ i j c c' v v' fp ae e1 e2 _ _ o1 o2 ac=>?_,?_,λ i c n e i7=>?_⟩
 rotate_left 4
 ·cases i with
  |zero=>exact gj
  |succ i =>
   obtain⟨d',q,z⟩:=key i _ (by unfold BR at e;simpa using e);cases z;cases i7
 ·cases i with
  |zero =>
   have e':some (toCl (some 0) t)=some (.val d):=by simpa [BR] using e
   have:=NW (some 0) t;rw[zx e'] at this;cases this
  |succ i =>
   obtain⟨d',q,z⟩:=key i _ (by unfold BR at e;simpa using e);cases z;obtain⟨v,hv,hd⟩:=h.get q;refine⟨v,?_,hd⟩;unfold start;rw[zj,yC,zM,yb (by rw[zh];exact (zH.mp hv).1),zy,hv];rfl
 ·cases i with
  |zero =>
   have e':toCl (some 0) t=c:=by simpa [BR] using e
   subst e';exact⟨_,fp,gj,Bm.toCl o,λ a ha=>⟨hp a ha,λ z=>z.2 ha⟩,nd⟩
  |succ i =>
   obtain⟨d',q,z⟩:=key i _ (by unfold BR at e;simpa using e);cases z;cases io
 ·cases i with
  |zero =>
   cases j with
   |zero=>exact (ac rfl).elim
   |succ j =>
    obtain⟨d',q,z⟩:=key j _ (by unfold BR at e2;simpa using e2);cases z;exact o2.elim
  |succ i =>
   obtain⟨d',q,z⟩:=key i _ (by unfold BR at e1;simpa using e1);cases z;exact o1.elim
 ·unfold start BR;simp[hl]
section
variable {P:Program}{w:World}{K:zc}{mg:Str->Option Value}{base:Heap}
theorem N0 {P0:BO}{P':Addr->Prop}{H':Hp}{σ':St}{ρ:A6}{t:OT}(E:Ac K P0 P' H' σ' ρ)(h:Dh ρ=some t):∃c ae,ρ[0]?=some (some c)/\σ'[0]?=some (some (.ref (P0.g 0)))/\Bm K H' P' c (.ref (P0.g 0)) ae/\AY K H' P' (.ref (P0.g 0)) t ae/\ae.Nodup/\∀a∈ae,P' a/\¬ P0 a:=by
 unfold Dh at h;split at h
 ·rename_i c e;split at h
  ·rename_i t' e2;cases h;have io:D5 c=true:=by cases c<;>first|rfl|cases e2
   obtain⟨v,fp,k1,k2,k3,k4⟩:=E.ows 0 c e io;have:=E.pin 0 c 0 e (Ej e2);rw[k1] at this;cases this;exact⟨c,fp,e,k1,k2,k2.toT e2,k4,k3⟩
  ·cases h
 ·cases h
theorem Ua {x qual:Str}{st:Stmt}{f:Addr}{fd:FuncData}{N ps:List Str}{k:Nat}(F:Og K x qual st f fd)(S:Aq N ps (A4 st))(g:A6->M Out)
 (hb:∀(Ba:Value) (A:Around) (outer:List Env) (s:Shared) (H:Hp) (E:XK),Bv k (A.deeper (envOfC qual (A4 st) s.heap.objs.size f Ba))->NJ (Pj P w K mg base N qual (A4 st) f Ba A outer s H E) (GG K E) (AA st) g):
 DY P w K mg base (Sy P w base) (k+1) f fd ps (PL K ps.length λ t al=>Ek (g (BR N t al))):=by
 obtain⟨oc,od,kV,doc,pm,an,Ba,ct,Oe,rfl,lk,a4⟩:=F.ex;refine OG lk a4 S (λ vs H Q E h=>h.1) λ A outer s H vs Q E hr h=>?_;obtain⟨hl,P',p,t,fp,rest,al,rfl,ht,hp,nd,ho,hv,hq⟩:=h;obtain⟨tt,h1,h2⟩:=hb Ba A outer s H E hr;refine⟨tt,h1,h2 ⟨λ a=>P' a/\a∉fp,λ _=>p⟩ P' _ H _ _ (Jz ht hp nd ho hv) ?_⟩;dsimp only at hq;revert hq;cases g (BR N t al) with
 |bad|ex x=>exact λ h=>h.elim
 |ok o =>
  have sub:∀ {P2:Addr->Prop} {H2:Hp} {σ2:St} {ρ:A6},Ac K ⟨λ a=>P' a/\a∉fp,λ _=>p⟩ P2 H2 σ2 ρ->∀a,P2 a/\¬ (P' a/\a∉fp)->P2 a/\(P' a->a∈fp):=λ E a ha=>⟨ha.1,λ z=>Classical.byContradiction λ w=>ha.2 ⟨z,w⟩⟩;cases o with
  |ret d|Bi d=>exact λ h=>h.elim
  |next ρ =>
   intro hq σ' H' P2 t2 E2;unfold Ek at hq;dsimp only at hq;split at hq
   ·rename_i t' e;obtain⟨c,ae,k1,k2,k3,k4,k5,k6⟩:=N0 E2 e;exact hq .Aw H' P2 ae [] (λ a ha hn=>⟨E2.sub a ⟨ha,hn⟩,t2.2 a ⟨ha,hn⟩⟩) E2.BG t2.1 k4 k5 (.sh .Aw) yi (λ a ha=>by cases ha) (λ a ha=>sub E2 a (k6 a ha)) (λ a ha=>by cases ha)
   ·exact hq.elim
  |Ce r ρ =>
   intro hq v fr σ' H' P2 t2 E2 o2 aR hf;unfold Ek at hq;dsimp only at hq;split at hq
   ·rename_i t' e;obtain⟨c,ae,k1,k2,k3,k4,k5,k6⟩:=N0 E2 e;exact hq v H' P2 ae fr (λ a ha hn=>⟨E2.sub a ⟨ha,hn⟩,t2.2 a ⟨ha,hn⟩⟩) E2.BG t2.1 k4 k5 o2 aR (λ a ha=>(hf a ha).2.2 0 c _ ae k1 k2 k3) (λ a ha=>sub E2 a (k6 a ha)) (λ a ha=>sub E2 a ⟨(hf a ha).1,(hf a ha).2.1⟩)
   ·exact hq.elim
  |brk ρ|cont ρ=>exact λ h=>h.elim
end
structure FK (P:Program)(w:World)(K:zc)(mg:Str->Option Value)(base:Heap)(x:Str)(k n:Nat)(F:OT->List D->M (OT×OT)):Prop where
 ex:∃fa fd ps,DY P w K mg base (Sy P w base) k fa fd ps (PL K n F)/\mg x=some (.ref fa)/\zQ K (.ref fa)=true/\Binds K fd ps []
theorem GY {P:Program}{w:World}{K:zc}{mg:Str->Option Value}{base:Heap}{x:Str}{st:Stmt}{N ps:List Str}{k n:Nat}(T:B7 K mg x st ps)(S:Aq N ps (A4 st))(g:A6->M Out)
 (hb:∀(f:Addr) (Ba:Value) (A:Around) (outer:List Env) (s:Shared) (H:Hp) (E:XK),Bv k (A.deeper (envOfC x (A4 st) s.heap.objs.size f Ba))->NJ (Pj P w K mg base N x (A4 st) f Ba A outer s H E) (GG K E) (AA st) g) (hn:ps.length=n:=by rfl):
 FK P w K mg base x (k+1) n (λ t al=>Ek (g (BR N t al))):=by
 obtain⟨f,fd,F,hm,hB⟩:=T.ex;subst hn;exact⟨⟨f,fd,ps,Ua F S g (hb f),hm,F.kp,hB⟩⟩
section
variable {X:Cx}{WX:Str->Hp->Prop}{c:Bool}{P0:BO}{P:Addr->Prop}{H:Hp}{σ:St}{ρ:A6}{a b e:Expr}{f g:A6->M D}{fn:A6->M OT}{fp:A6->M (List Nat)}{pos:Pos}{i:Nat}{es:List Expr}{fs:A6->M (List D)}
theorem Ac.new {K:zc}{P':Addr->Prop}{H':Hp}(E:Ac K P0 P H σ ρ)(s:A9 H H')(sm:A9 (del H P) (del H' P')){a:Addr}(hn:H a=none):∀(j:Nat) c v fq,ρ[j]?=some (some c)->σ[j]?=some (some v)->Bm K H' P' c v fq->a∉fq:=λ j c v fq h1 h2 h3 ha=>by
 have io:D5 c=true:=by cases c<;>first|rfl|exact h3.elim
 obtain⟨w,fr,k1,k2,k3,k4⟩:=E.ows j c h1 io;rw[h2] at k1;cases k1;have m:=k2.move sm λ b hb=>by obtain⟨o,q⟩:=k2.at b hb;rw[q];exact s _ _ q
 rw[h3.Bg m] at ha;obtain⟨o,q⟩:=k2.at a ha;rw[hn] at q;cases q
theorem N1 (ha:DN X WX e fn):DS X WX (.Return (some e) pos) (λ ρ=>(fn ρ).bind λ t=>.ok (.Ce t ρ)):=by
 obtain⟨ta,a1,a2⟩:=ha;refine⟨_,Jb a1,λ P0 P σ H Z ρ E h=>?_⟩;dsimp only at h;refine a2 P0 P σ H _ ρ E ?_;cases q:fn ρ with
 |bad=>rw[q] at h;exact h
 |ex x=>rw[q] at h;exact λ H' s=>h H' P (E.tr s)
 |ok t =>
  rw[q] at h;simp only[M.A7] at h;intro v fp H' s hn nd o;exact h v fp σ H' (PU P fp) (E.XO s hn) (E.more s Jt (Ju (E.same s).BG o) (Cw s hn)) o nd λ a ha=>⟨.inr ha,λ z=>(E.BG a (E.sub a z)).no (hn a ha),E.new s (Cw s hn) (hn a ha)⟩
theorem Ac.Wn {K:zc}{P':Addr->Prop}{H':Hp}{π:List Nat}{v1 v2:V}{t1 u r:OT}{ak fu fr:List Addr}(E:Ac K P0 P H σ ρ)(pl:Bq K P H σ ρ i π v1 t1)(o:AY K H P v1 t1 ak)(hs:∀a,P a->a∉ak->P' a/\H' a=H a)(ht:∀a,P' a->Cd H' a)(sm:A9 (del H P) (del H' P'))
 (o':AY K H' P' v1 u fu) (nd:fu.Nodup) (hf:∀a∈fu,P' a/\(P a->a∈ak)) (or:AY K H' P' v2 r fr) (jt:fr.Nodup) (hr:∀a∈fr,P' a/\(P a->a∈ak)) (dj:∀a∈fr,a∉fu):
 ∃c p t,ρ[i]?=some (some c)/\treeOf c=some (p,t)/\Ac K P0 P' H' σ (ρ.set i (some (toCl p (Cv t π u))))/\Tr P0 P H P' H'/\
  ∀a∈fr,P' a/\¬ P0 a/\∀(j:Nat) c' v fq,(ρ.set i (some (toCl p (Cv t π u))))[j]?=some (some c')->σ[j]?=some (some v)->Bm K H' P' c' v fq->a∉fq:=by
 obtain⟨v0,c,p,t,h1,h2,h3,h4⟩:=pl.ex;have io:D5 c=true:=by cases c<;>first|rfl|cases h2
 obtain⟨w,fp,k1,k2,k3,k4⟩:=E.ows i c h1 io;rw[h3] at k1;cases k1;have ot:=k2.toT h2;obtain⟨fz,oz,kz,_⟩:=ot.part h4;have:=oz.Bg o;subst this;obtain⟨ae,q1,q2,q3⟩:=ot.put sm h4 o o' (λ a ha hn=>(hs a (k3 a ha).1 hn).2) k4 nd (λ a ha hb=>(hf a ha).2 (k3 a hb).1);have gl:∀(j:Nat) c' v' fq,i≠j->ρ[j]?=some (some c')->σ[j]?=some (some v')->Bm K H P c' v' fq->∀a∈fq,P a/\a∉fp:=λ j c' v' fq ac g1 g2 g3 a ha=>by
  have cN:D5 c'=true:=by cases c'<;>first|rfl|exact g3.elim
  obtain⟨w',eG,m1,m2,m3,m4⟩:=E.ows j c' g1 cN;rw[g2] at m1;cases m1;have:=m2.Bg g3;subst this;exact⟨(m3 a ha).1,E.apart j i c' c v' v0 eG fp g1 h1 g2 h3 g3 k2 (zU ac) a ha⟩
 have key:=E.Wb (P':=P') (H':=H') (i:=i) (v:=v0) (c:=toCl p (Cv t π u)) (fp:=ae) (λ a ha=>(hs a (E.sub a ha) λ z=>(k3 a (kz a z)).2 ha).1) ht sm (λ j c' v' fq ac g1 g2 g3 a ha=>?_) (Bm.toCl q1) (λ a ha=>?_) q2 (λ n z=>by rw[Cy] at z;subst z;have:=E.pin i c n h1 (Ej h2);rw[h3] at this;cases this;rfl)
 ·rw[Jn h3] at key;refine⟨c,p,t,h1,h2,key,⟨sm,λ a ha=>(hs a (E.sub a ha) λ z=>(k3 a (kz a z)).2 ha).2⟩,λ a ha=>⟨(hr a ha).1,λ z=>(k3 a (kz a ((hr a ha).2 (E.sub a z)))).2 z,λ j c' v fq g1 g2 g3 hb=>?_⟩⟩;rcases get_set g1 with ⟨rfl,hl,z⟩|⟨ac,g1⟩
  ·cases z;rw[h3] at g2;cases g2;rw[g3.Bg (Bm.toCl q1)] at hb;rcases q3 a hb with y|y
   ·exact dj a ha y
   ·exact y.2 ((hr a ha).2 (k3 a y.1).1)
  ·have cN:D5 c'=true:=by cases c'<;>first|rfl|exact g3.elim
   obtain⟨w',eG,m1,m2,m3,m4⟩:=E.ows j c' g1 cN;rw[g2] at m1;cases m1;have o2:=gl j c' v eG ac g1 g2 m2;have mv:=m2.move sm λ b aQ=>(hs b (o2 b aQ).1 λ z=>(o2 b aQ).2 (kz b z)).2;rw[g3.Bg mv] at hb;exact (o2 a hb).2 (kz a ((hr a ha).2 (o2 a hb).1))
 ·have o2:=gl j c' v' fq ac g1 g2 g3 a ha;have hk:=hs a o2.1 λ z=>o2.2 (kz a z);refine⟨hk.2,λ z=>?_,hk.1⟩;rcases q3 a z with y|y
  ·exact o2.2 (kz a ((hf a y).2 o2.1))
  ·exact o2.2 y.1
 ·rcases q3 a ha with y|y
  ·exact⟨(hf a y).1,λ z=>(k3 a (kz a ((hf a y).2 (E.sub a z)))).2 z⟩
  ·exact⟨(hs a (k3 a y.1).1 y.2).1,(k3 a y.1).2⟩
end
noncomputable def Fg (i:Nat)(ρ:A6)(π:List Nat)(u:OT):M Out:=match ρ[i]? with
 |some (some c)=>(match treeOf c with|some (p,t)=>.ok (.next (ρ.set i (some (toCl p (Cv t π u)))))|none=>.bad)
 |_=>.bad
noncomputable def FL (i:Nat)(ρ:A6)(π:List Nat):M (List OT):=match PJ i ρ π with | some (.lst ts)=>.ok ts | _=>.bad
theorem JA {i:Nat}{ρ:A6}{π:List Nat}{u:OT}{c:Cl}{p:Option Nat}{t:OT}(h:ρ[i]?=some (some c))(ht:treeOf c=some (p,t)):Fg i ρ π u=.ok (.next (ρ.set i (some (toCl p (Cv t π u))))):=by
 unfold Fg;simp only[h,ht]
section
variable {X:Cx}{WX:Str->Hp->Prop}{c:Bool}{P0:BO}{P:Addr->Prop}{H:Hp}{σ:St}{ρ:A6}{a b e:Expr}{f g:A6->M D}{fn:A6->M OT}{fp:A6->M (List Nat)}{pos:Pos}{i:Nat}{es:List Expr}{fs:A6->M (List D)}
noncomputable def Ub {α:Type}(o:Option α):M α:=match o with | some x=>.ok x | none=>.bad
noncomputable def SD (i:Nat)(ρ:A6)(π:List Nat):M (List D):=match PJ i ρ π with | some (.lst ts)=>(match Cg ts with | some ds=>.ok ds | none=>.bad) | _=>.bad
noncomputable def Wo (t:OT):M (List D):=match t with | .lst us=>Ub (Cg us) | _=>.bad
end
def gX (K:zc)(WX:Str->Hp->Prop)(P0:BO)(P:Addr->Prop)(H:Hp)(σ:St)(Q:VK):M (A6×OT)->Prop
 | .ok (ρ,t)=>∀v fp H' P',Tr P0 P H P' H'->Ac K P0 P' H' σ ρ->AY K H' P' v t fp->fp.Nodup->(∀a∈fp,P' a/\¬ P0 a/\∀(j:Nat) c v' fq,ρ[j]?=some (some c)->σ[j]?=some (some v')->Bm K H' P' c v' fq->a∉fq)->Q v H'
 | .ex x=>∀H' P',Tr P0 P H P' H'->WX x H'
 | .bad=>False
def DX (X:Cx)(WX:Str->Hp->Prop)(e:Expr)(f:A6->M (A6×OT)):Prop:=
 ∃t,PE X e t/\∀P0 P σ H Q ρ,Ac X.K P0 P H σ ρ->gX X.K WX P0 P H σ Q (f ρ)->t σ H Q
noncomputable def PM:OT->Bool
 | .sh _=>false
 |_=>true
noncomputable def KR (i:Nat)(F:OT->List D->M (OT×OT))(ρ:A6)(π:List Nat)(al:List D):M (A6×OT):=match ρ[i]? with
 |some (some c)=>(match treeOf c with
  |some (p,t)=>(match Fb t π with
   |some t1=>if PM t1=true then (match F t1 al with | .ok (t2,r)=>.ok (ρ.set i (some (toCl p (Cv t π t2))),r)|_=>.bad) else .bad
   |none=>.bad)
  |none=>.bad)
 |_=>.bad
section
variable {X:Cx}{E:XK}{WX:Str->Hp->Prop}{c:Bool}{P0:BO}{P:Addr->Prop}{H:Hp}{σ:St}{ρ:A6}{a b e:Expr}{f g:A6->M D}{fn:A6->M OT}{fx:A6->M (A6×OT)}{fp:A6->M (List Nat)}{pos:Pos}{i:Nat}{es:List Expr}{fs:A6->M (List D)}
theorem PN {F:OT->List D->M (OT×OT)}{π:List Nat}{al:List D}{c:Cl}{p:Option Nat}{t t1 t2 r:OT}(h:ρ[i]?=some (some c))(ht:treeOf c=some (p,t))(hs:Fb t π=some t1)(hN:PM t1=true)(hF:F t1 al=.ok (t2,r)):KR i F ρ π al=.ok (ρ.set i (some (toCl p (Cv t π t2))),r):=by
 unfold KR;simp only[h,ht,hs,hN,if_true,hF]
theorem N2 {k n:Nat}{F:OT->List D->M (OT×OT)}{x:Str}{p:Pos}(xo:XCall X E)(G:FK X.prog X.w X.K X.mg X.base x k n F)(hr:Bv k X.A)(hg:Gl X x)(hp:DP X (GG X.K E) a i fp)(ha:DA X (GG X.K E) true es fs)(hn:es.length+1=n)
 (aS:(x==("__debug__" : Str))=false:=by decide) (he:starEach (a::es) X.env=(false,eval a X.env)::starEach es X.env:=by rfl) (hpl:(backTo pos (starEach es X.env)).any (·.1)=false:=by rfl):
 DX X (GG X.K E) (.Call (.Name x p) (a::es) [] pos) (λ ρ=>(fp ρ).bind λ π=>(fs ρ).bind λ al=>KR i F ρ π al):=by
 obtain⟨fa,fd,ps,hF,hm,hk,hb⟩:=G.ex;obtain⟨tp,p1,p2⟩:=hp;obtain⟨ta,a1,a2,a3⟩:=ha;refine⟨_,ML hF hr hg hm hk hb .nil xo.call (Bt p1 a1 he) aS he hpl,λ P0 P σ H Q ρ Ev h=>?_⟩;dsimp only at h;refine p2 P0 P σ H _ ρ Ev ?_;cases q:fp ρ with
 |bad=>rw[q] at h;exact h
 |ex x=>rw[q] at h;exact λ H' s=>h H' P (Ev.tr s)
 |ok π =>
  rw[q] at h;simp only[M.A7] at h;intro v t1 H1 s1 pl;have E1:=Ev.same s1;refine a2 P0 P σ H1 _ ρ E1 ?_;cases q2:fs ρ with
  |bad=>rw[q2] at h;exact h
  |ex y=>rw[q2] at h;exact λ H' s=>h H' P ((Ev.tr s1).trans (E1.tr s))
  |ok al =>
   rw[q2] at h;simp only[M.A7] at h;intro vs H2 s2 aD;have E2:=E1.same s2;have bY:=pl.same s2;show PL X.K n F ((v::vs)++[]) H2 Q E;rw[yk];obtain⟨v0,c,pp,t,g1,g2,g3,g4⟩:=bY.ex;unfold KR at h;simp only[g1,g2,g4.sub] at h;by_cases hx:PM t1=true
   ·rw[if_pos hx] at h;obtain⟨ak,o1,i8,eC⟩:=bY.own E2;have eI:∃l,v=.ref l:=by
     cases o1 with
     |sh hv=>exact absurd hx (by simp[PM])
     |lst _ _|tup _ _|dK _ _|dT _ _|ins _ _ _=>exact⟨_,rfl⟩
    obtain⟨l,rfl⟩:=eI;refine⟨by rw[zt,aD.length,a3 ρ al q2];exact hn,P,l,t1,ak,vs,al,rfl,E2.BG,λ b hb=>(i8 b hb).1,eC,o1,aD,?_⟩;cases qF:F t1 al with
    |bad|ex x=>rw[qF] at h;exact h.elim
    |ok z =>
    obtain⟨t2,r⟩:=z;rw[qF] at h;intro w H' P' fu fr k1 k2 k3 k4 k5 k6 k7 k8 k9 i9;obtain⟨c',p',t',m1,m2,m3,m4,m5⟩:=E2.Wn bY o1 k1 k2 k3 k4 k5 k9 k6 k7 i9 k8;rw[g1] at m1;cases m1;rw[g2] at m2;cases m2;exact h w fr H' P' (((Ev.tr s1).trans (E1.tr s2)).trans m4) m3 k6 k7 m5
   ·rw[if_neg hx] at h;exact h.elim
theorem GZ (he:DX X WX e fx)(hs:swapsWith e none pos.line X.env=pure false:=by rfl):DS X WX (.Expr e pos) (λ ρ=>(fx ρ).bind λ z=>.ok (.next z.1)):=by
 obtain⟨te,e1,e2⟩:=he;refine⟨_,Ja e1 hs,λ P0 P σ H Z ρ E h=>?_⟩;dsimp only at h;refine e2 P0 P σ H _ ρ E ?_;cases q:fx ρ with
 |bad|ex x=>rw[q] at h;exact h
 |ok z=>rw[q] at h;exact λ v fp H' P' t E' o nd hf=>h σ H' P' t E'
theorem RW (j:Nat){x:Str}{pos':Pos}(hN:X.N.Nodup)(hi:X.N[j]?=some x)(hx:Loc X.env.scope x)(he:DX X WX e fx)(hs:swapsWith e (some (.Name x pos')) pos.line X.env=pure false:=by rfl)(hf:X.fn x=true\/X.env.scope.names.lookup x=some .local:=by first | exact .inl rfl | exact .inr rfl | assumption):
 DS X WX (.Assign [.Name x pos'] e pos) (λ ρ=>(fx ρ).bind λ z=>KO j z.1 z.2):=by
 obtain⟨te,e1,e2⟩:=he;refine⟨_,LG hN hi hx e1 hs hf,λ P0 P σ H Z ρ E h=>?_⟩;dsimp only at h;refine e2 P0 P σ H _ ρ E ?_;cases q:fx ρ with
 |bad|ex x=>rw[q] at h;exact h
 |ok z =>
  rw[q] at h;simp only[M.A7] at h;intro v fp H' P' tr E' o nd hf;have h':=h.tr tr;have key:gS X.K WX P0 P' H' Z (.ok (.next (z.1.set j (some (toCl none z.2)))))->Z.nx (σ.set j (some v)) H':=λ h=>by
   refine h _ H' P' Tr.refl (E'.RB (λ _ h=>h) E'.BG (A9.refl _) (λ k c' v' ae ac g1 g2 g3 b hb=>⟨rfl,λ w=>(hf b w).2.2 k c' v' ae g1 g2 g3 hb⟩) (Bm.toCl o) (λ b hb=>⟨(hf b hb).1,(hf b hb).2.1⟩) nd (λ n z=>by rw[Cy] at z;cases z))
  obtain⟨ρ1,u⟩:=z;cases u with
  |sh d =>
   cases o with
   |sh hv=>exact h' _ H' P' Tr.refl (E'.NK hv)
  |lst ts|tup ts|AS b ks ts|ins x ns ts=>exact key h'
theorem Wq {d:Expr}(he:DX X WX e fx)(hd:DE X WX true d f):DX X WX (.BoolOp .Or [e,d] pos) (λ ρ=>(fx ρ).bind λ z=>match z.2 with | .sh (.bl true)=>.ok (z.1,.sh (.bl true)) | .sh (.bl false)=>(f z.1).bind λ y=>.ok (z.1,.sh y) | _=>.bad):=by
 obtain⟨te,e1,e2⟩:=he;obtain⟨td,d1,d2⟩:=hd;refine⟨_,Vw e1 (Oy d1),λ P0 P σ H Q ρ E h=>?_⟩;dsimp only at h;refine e2 P0 P σ H _ ρ E ?_;cases q:fx ρ with
 |bad|ex x=>rw[q] at h;exact h
 |ok z =>
  rw[q] at h;simp only[M.A7] at h;obtain⟨ρ1,u⟩:=z;intro v fp H' P' tr E' o nd hf;dsimp only at h;cases u with
  |sh d' =>
   cases o with
   |sh hv =>
    cases d' with
    |bl k =>
     have:=hv.GB;subst this;cases k with
     |true=>exact⟨true,rfl,by simp only[if_true];exact h _ [] H' P' tr E' (.sh (.bl true)) yi λ a ha=>by cases ha⟩
     |false =>
      refine⟨false,rfl,?_⟩;simp only[zv,if_false];refine d2 P0 P' σ H' _ ρ1 E' ?_;dsimp only at h;cases q2:f ρ1 with
      |bad=>rw[q2] at h;exact h
      |ex y=>rw[q2] at h;exact λ H2 s2=>h H2 P' (tr.trans (E'.tr s2))
      |ok y=>rw[q2] at h;exact λ w H2 s2 hw=>h w [] H2 P' (tr.trans (E'.tr s2)) (E'.same s2) (.sh hw) yi λ a ha=>by cases ha
    |_=>exact h.elim
  |_=>exact h.elim
end
noncomputable def BS (i:Nat)(ρ:A6)(π:List Nat):M (Bool×List D×List D):=match PJ i ρ π with
 |some (.AS b ks ts)=>(match Cg ts with|some vs=>.ok (b,ks,vs)|none=>.bad)
 |_=>.bad
noncomputable def putD (ks vs:List D)(k v:D):List D×List D:=if Jw ks k=true then (ks,FW ks vs k v) else (ks++[k],vs++[v])
section
variable {X:Cx}{E:XK}{WX:Str->Hp->Prop}{c:Bool}{P0:BO}{P:Addr->Prop}{H:Hp}{σ:St}{ρ:A6}{a b e:Expr}{f g:A6->M D}{fn:A6->M OT}{fx:A6->M (A6×OT)}{fp:A6->M (List Nat)}{pos:Pos}{i:Nat}{es:List Expr}{fs:A6->M (List D)}
theorem Bq.AS {K:zc}{π:List Nat}{v:V}{t1:OT}{bl:Bool}{ks vs:List D}(pl:Bq K P H σ ρ i π v t1)(E:Ac K P0 P H σ ρ)(h:BS i ρ π=.ok (bl,ks,vs)):t1=.AS bl ks (vs.map .sh)/\∃l xs,v=.ref l/\P l/\Ab K (del H P) xs vs/\AY K H P (.ref l) (.AS bl ks (vs.map .sh)) [l]/\
 ((bl=false/\∃kvs,H l=some (.dK kvs)/\ks=(kvs.map λ kv=>Be kv.1)/\xs=kvs.map yg)\/(bl=true/\∃kvs,H l=some (.dT kvs)/\ks=(kvs.map λ kv=>.tup (kv.1.map Be))/\xs=kvs.map yg)):=by
 unfold BS at h;rw[pl.at] at h;split at h
 ·rename_i b' br ju e;split at h
  ·rename_i au e';cases e;cases h;have z:=Ei e';subst z;obtain⟨ak,o1,hp,nd⟩:=pl.own E;generalize ht:OT.AS bl ks (vs.map .sh)=t at o1;cases o1 with
   |dK hh hr =>
    injection ht with h1 h2 h3
    subst h1 h2 h3;obtain⟨rfl,hs⟩:=hr.WZ;exact⟨rfl,_,_,rfl,(hp _ zd).1,hs,.dK hh hr,.inl ⟨rfl,_,hh,rfl,rfl⟩⟩
   |dT hh hr =>
    injection ht with h1 h2 h3
    subst h1 h2 h3;obtain⟨rfl,hs⟩:=hr.WZ;exact⟨rfl,_,_,rfl,(hp _ zd).1,hs,.dT hh hr,.inr ⟨rfl,_,hh,rfl,rfl⟩⟩
   |_=>cases ht
  ·cases h
 ·cases h
theorem KS {π:List Nat}{x:Str}(h:BS i ρ π=.ex x):False:=by
 unfold BS at h;split at h
 ·split at h<;>cases h
 ·cases h
theorem Ac.Uc {K:zc}{π:List Nat}{l:Addr}{t1 u:OT}{o':HO}(E:Ac K P0 P H σ ρ)(pl:Bq K P H σ ρ i π (.ref l) t1)(ot:AY K H P (.ref l) t1 [l])(hn:∀xs,o'≠.tup xs/\∀z,o'≠.Cn z (.tup xs))(new:A9 (del H P) (del (upd H l o') P)->AY K (upd H l o') P (.ref l) u [l]):
 ∃c p t,ρ[i]?=some (some c)/\treeOf c=some (p,t)/\Ac K P0 P (upd H l o') σ (ρ.set i (some (toCl p (Cv t π u))))/\Tr P0 P H P (upd H l o'):=by
 obtain⟨ak,o1,hp,_⟩:=pl.own E;have:=o1.Bg ot;subst this;have pP:P l:=(hp l zd).1;have sd:del (upd H l o') P=del H P:=by
  funext b;by_cases hb:P b
  ·rw[Eg hb,Eg hb]
  ·rw[Ao hb,Ao hb,A5 (λ z=>hb (by rw[z];exact pP))]
 have sm:A9 (del H P) (del (upd H l o') P):=by rw[sd];exact A9.refl _
 refine E.XQ pl ot (λ _ h=>h) (λ a h=>?_) sm (λ a ha hn=>A5 λ z=>hn (by rw[z];exact zd)) (new sm) (by simp) (λ a ha=>.inl ha);by_cases ha:a=l
 ·subst ha;exact⟨_,Ae,hn⟩
 ·unfold Cd;rw[A5 ha];exact E.BG a h
theorem JB {n:Nat}(hu:X.A.units+n<cLine)(ha:DP X WX a i fp)(hk:DE X WX true b g)(hv:DE X WX true e f){pos':Pos}(hs:swapsWith e (some (.Subscript a b pos')) pos.line X.env=pure false:=by rfl)(hn:1<=n:=by decide):
 DS X WX (.Assign [.Subscript a b pos'] e pos) (λ ρ=>(f ρ).bind λ v=>(fp ρ).bind λ π=>(g ρ).bind λ k=>(BS i ρ π).bind λ z=>if keyOk z.1 k=true/\z.2.1.length<1000 then Fg i ρ π (.AS z.1 (putD z.2.1 z.2.2 k v).1 ((putD z.2.1 z.2.2 k v).2.map .sh)) else .bad):=by
 obtain⟨ta,a1,a2⟩:=ha;obtain⟨tk,k1,k2⟩:=hk;obtain⟨tv,v1,v2⟩:=hv;refine⟨_,Rp (by omega) a1 k1 v1 hs,λ P0 P σ H Z ρ E h=>?_⟩;dsimp only at h;refine v2 P0 P σ H _ ρ E ?_;cases q0:f ρ with
 |bad=>rw[q0] at h;exact h
 |ex x=>rw[q0] at h;exact λ H' s=>h H' P (E.tr s)
 |ok d =>
  rw[q0] at h;simp only[M.A7] at h;intro w H0 s0 hw;have E0:=E.same s0;refine a2 P0 P σ H0 _ ρ E0 ?_;cases q:fp ρ with
  |bad=>rw[q] at h;exact h
  |ex x=>rw[q] at h;exact λ H' s=>h H' P ((E.tr s0).trans (E0.tr s))
  |ok π =>
   rw[q] at h;simp only[M.A7] at h;intro v t1 H1 s1 pl;have E1:=E0.same s1;refine k2 P0 P σ H1 _ ρ E1 ?_;cases q2:g ρ with
   |bad=>rw[q2] at h;exact h
   |ex y=>rw[q2] at h;exact λ H' s=>h H' P (((E.tr s0).trans (E0.tr s1)).trans (E1.tr s))
   |ok k =>
    rw[q2] at h;simp only[M.A7] at h;intro y H2 s2 hy;have E2:=E1.same s2;have bY:=pl.same s2;have dr:=(hw.mono s1.del).mono s2.del;have gm:=((E.tr s0).trans (E0.tr s1)).trans (E1.tr s2);cases q3:BS i ρ π with
    |bad=>rw[q3] at h;exact h.elim
    |ex x=>exact (KS q3).elim
    |ok z =>
     obtain⟨bb,ks,vs⟩:=z;rw[q3] at h;simp only[M.A7] at h;by_cases hc:keyOk bb k=true/\ks.length<1000
     ·rw[if_pos hc] at h;obtain⟨rfl,l,xs,rfl,hP,b6,ot,bh⟩:=bY.AS E2 q3;have hK:=Dg hc.1;rcases bh with ⟨rfl,kvs,hH,rfl,rfl⟩|⟨rfl,kvs,hH,rfl,rfl⟩
      ·cases hK with
       |k κ =>
        have ey:=hy.U7;refine⟨l,_,rfl,.inl ⟨kvs,κ,hH,ey,AM (by have:=hc.2;rw[zh] at this;omega),rfl⟩,?_⟩;have ay:∃au,(putD (kvs.map λ kv=>Be kv.1) vs (Be κ) d)=((putK kvs κ w).map (λ kv=>Be kv.1),au)/\Ab X.K (del H2 P) ((putK kvs κ w).map yg) au:=by
         unfold putD putK;rw[GX GV];by_cases hh:(kvs.any λ kv=>decide (kv.1=κ))=true
         ·rw[if_pos hh,if_pos hh];refine⟨_,by rw[EL (fk:=Be) GV],?_⟩;rw[<-EK (fk:=Be) GV];exact EM dr b6
         ·rw[if_neg hh,if_neg hh];refine⟨_,by rw[zW];rfl,?_⟩;rw[zW];exact b6.snoc dr
        obtain⟨au,e1,e2⟩:=ay;obtain⟨c,p,t0,g1,g2,E3,t3⟩:=E2.Uc (o':=.dK (putK kvs κ w)) (u:=.AS false ((putK kvs κ w).map λ kv=>Be kv.1) (au.map .sh)) bY ot (λ _=>⟨λ z=>(by cases z),λ _ z=>by cases z⟩) (λ mv=>.dK Ae (e2.mono mv).ows);rw[e1,JA g1 g2] at h;exact h _ _ _ (gm.trans t3) E3
      ·cases hK with
       |t κ =>
        cases hy with
        |tup ht b7 =>
         have ey:=Ab.keys κ b7;subst ey;refine⟨l,_,rfl,.inr ⟨kvs,κ,_,hH,rfl,(Ag ht).2,AM (by have:=hc.2;rw[zh] at this;omega),rfl⟩,?_⟩;have hf:∀a b:List Key,Aj (.tup (a.map Be)) (.tup (b.map Be))=decide (a=b):=λ a b=>by simp only[Aj];exact G9 a b
         have ay:∃au,(putD (kvs.map λ kv=>.tup (kv.1.map Be)) vs (.tup (κ.map Be)) d)=((putK kvs κ w).map (λ kv=>.tup (kv.1.map Be)),au)/\Ab X.K (del H2 P) ((putK kvs κ w).map yg) au:=by
          unfold putD putK;rw[GX (fk:=λ κ:List Key=>D.tup (κ.map Be)) hf];by_cases hh:(kvs.any λ kv=>decide (kv.1=κ))=true
          ·rw[if_pos hh,if_pos hh];refine⟨_,by rw[EL (fk:=λ κ:List Key=>D.tup (κ.map Be)) hf],?_⟩;rw[<-EK (fk:=λ κ:List Key=>D.tup (κ.map Be)) hf];exact EM dr b6
          ·rw[if_neg hh,if_neg hh];refine⟨_,by rw[zW];rfl,?_⟩;rw[zW];exact b6.snoc dr
         obtain⟨au,e1,e2⟩:=ay;obtain⟨c,p,t0,g1,g2,E3,t3⟩:=E2.Uc (o':=.dT (putK kvs κ w)) (u:=.AS true ((putK kvs κ w).map λ kv=>.tup (kv.1.map Be)) (au.map .sh)) bY ot (λ _=>⟨λ z=>(by cases z),λ _ z=>by cases z⟩) (λ mv=>.dT Ae (e2.mono mv).ows);rw[e1,JA g1 g2] at h;exact h _ _ _ (gm.trans t3) E3
     ·rw[if_neg hc] at h;exact h.elim
theorem KU (tk:Bool):DN X WX (.Dict [] [] pos) (λ _=>.ok (.AS tk [] [])):=by
 cases tk with
 |false =>
  refine⟨_,OS,λ P0 P σ H Q ρ E h p hp=>?_⟩;exact h _ [p] _ (Ay hp _) (λ a ha=>by rw[zl.mp ha];exact hp) (by simp) (.dK (kvs:=[]) Ae .nil)
 |true =>
  refine⟨_,OU,λ P0 P σ H Q ρ E h p hp=>?_⟩;exact h _ [p] _ (Ay hp _) (λ a ha=>by rw[zl.mp ha];exact hp) (by simp) (.dT (kvs:=[]) Ae .nil)
end
section
variable {X:Cx}{WX:Str->Hp->Prop}{c:Bool}{P0:BO}{P:Addr->Prop}{H:Hp}{σ:St}{ρ:A6}{a b e:Expr}{f g:A6->M D}{fn:A6->M OT}{pos:Pos}{te:TE}
theorem NX (hc:X.calm=true):Ey X (.builtin "sum") (λ xs H Q=>∃p ns,xs=[.ref p]/\C1 X.K H p (List.map V.int ns)/\Q (.int ns.sum) H):=by
 intro pins s σ H xs us Q I r h;obtain⟨p,ns,rfl,hq,q⟩:=h;obtain⟨u,rfl,rx⟩:=r.one;cases rx;obtain⟨aa,r',pl,hz⟩:=I.list hq;have hl:=pl.isList;have hi:=EH r';obtain⟨ys,e⟩:=hi.allInts.items;have bO:ns=ys.toList.map (·.1):=by rw[<-hi.numsOf,<-nums_intItems,<-e]
 rw[e] at hl;refine sum_intListG (I.ok.hd hc) hl λ h' tk t' hk=>?_;have e2:preSum (numAt ys) ys.size=ns.sum:=by rw[preSum_eq,zZ (by simp),bO]
 rw[e2];exact⟨.int ns.sum,H,I.kept (t':=tk) hk,⟨t',rfl⟩,q⟩
noncomputable def PP (ds:List D):M D:=match ds with
 |[.lst xs]=>(match BD xs with|some ns=>.ok (.int ns.sum)|none=>.bad)
 |_=>.bad
theorem Ud:IM X.K WX (λ xs H Q=>∃p ns,xs=[.ref p]/\C1 X.K H p (List.map V.int ns)/\Q (.int ns.sum) H) PP:=by
 intro P H ds vs Q ht hl h;unfold PP at h;split at h
 ·rename_i xs;obtain⟨v,rfl,hv⟩:=hl.one;split at h
  ·rename_i ns eb;have:=DL eb;subst this;cases hv with
   |lst hs hh =>
    have:=Cu hh;subst this;exact⟨_,ns,rfl,hs.AZ,h _ H (A9.refl H) (.int _)⟩
  ·exact h.elim
 ·exact h.elim
theorem PQ {p:Pos}(hc:X.calm=true)(hg:Gl X "sum")(hm:X.mg "sum" = none)(ha:DE X WX c e f)(hb:bootBuiltins "sum" = some (.builtin "sum"):=by decide +kernel)(hs:starEach [e] X.env=[(false,eval e X.env)]:=by rfl):DE X WX c (.Call (.Name "sum" p) [e] [] pos) (λ ρ=>((f ρ).bind λ d=>(M.ok []).bind λ ds=>.ok (d::ds)).bind PP):=
 EE (NX hc) Ud hg hm hb (A2 ha Ah hs) (he:=hs)
noncomputable def Oi (lo hi:Option Int)(d:D):M OT:=match d with
 | .lst ds=>.ok (.lst (((ds.drop (HT.Gm ds.length 0 lo)).take (HT.Gm ds.length ds.length hi-HT.Gm ds.length 0 lo)).map .sh))
 |_=>.bad
theorem Di {lo hi:Option Expr}{eJ fh:A6->M (Option Int)}{p2:Pos}(ha:DE X WX true e f)(hl:DO X WX true lo eJ)(hh:DO X WX true hi fh):DN X WX (.Subscript e (.Slice lo hi none p2) pos) (λ ρ=>(f ρ).bind λ d=>(eJ ρ).bind λ l=>(fh ρ).bind λ u=>Oi l u d):=by
 obtain⟨ta,a1,a2⟩:=ha;obtain⟨tl,l1,l2⟩:=hl;obtain⟨th,h1,h2⟩:=hh;refine⟨_,OJ Rk a1 l1 h1,λ P0 P σ H Q ρ E h=>?_⟩;dsimp only at h;refine a2 P0 P σ H _ ρ E ?_;cases q:f ρ with
 |bad|ex x=>rw[q] at h;exact h
 |ok d =>
  rw[q] at h;intro v H1 s1 hv;refine l2 P0 P σ H1 _ ρ (E.same s1) ?_;cases q2:eJ ρ with
  |bad=>rw[q2] at h;exact h
  |ex y=>rw[q2] at h;exact λ H' s=>h H' (s1.trans s)
  |ok l =>
   rw[q2] at h;intro H2 s2;refine h2 P0 P σ H2 _ ρ ((E.same s1).same s2) ?_;cases q3:fh ρ with
   |bad=>rw[q3] at h;exact h
   |ex y=>rw[q3] at h;exact λ H' s=>h H' ((s1.trans s2).trans s)
   |ok u =>
    rw[q3] at h;simp only[M.A7] at h;intro H3 s3;unfold Oi at h;split at h
    ·cases hv with
     |lst hs hl =>
      refine⟨_,_,rfl,(s3.seq (s2.seq hs.AZ)),λ p hp=>h.GR ((s1.trans s2).trans s3) ?_ p hp⟩;unfold OK;rw[hl.length];exact ((((hl.drop _).take _).mono s2.del).mono s3.del)
    ·exact h.elim
variable {cF:List D->A6->M A6}{gt:D->A6->M A6}{es:List Expr}
end
theorem NY (K:zc)(d:D):PySem.W.kitOne K (.type (Sw d)) (.type "dict")=some (BZ "dict" d):=by cases d<;>rfl
section
variable {X:Cx}{E:XK}{WX:Str->Hp->Prop}{c:Bool}{P0:BO}{P:Addr->Prop}{H:Hp}{σ:St}{ρ:A6}{a b e:Expr}{f g:A6->M D}{fn:A6->M OT}{fx:A6->M (A6×OT)}{fp:A6->M (List Nat)}{pos:Pos}{i:Nat}{te:TE}
theorem RX:IM X.K WX (λ xs H Q=>∃i j,xs=[.int i,.int j]/\Q (.int (if j<i then j else i)) H) (λ ds=>match ds with | [.int i,.int j]=>.ok (.int (if j<i then j else i)) | _=>.bad):=by
 intro P H ds vs Q ht hl h;dsimp only at h;split at h
 ·obtain⟨v,w,rfl,h1,h2⟩:=hl.two;exact⟨_,_,by rw[h1.int_inv,h2.int_inv],h _ H (A9.refl H) (.int _)⟩
 ·exact h.elim
theorem RY {p:Pos}(hc:X.calm=true)(hg:Gl X "min")(hm:X.mg "min" = none)(ha:DE X WX c a f)(cr:DE X WX c b g)(hb:bootBuiltins "min" = some (.builtin "min"):=by decide +kernel)(hs:starEach [a,b] X.env=(false,eval a X.env)::starEach [b] X.env:=by rfl)(bT:starEach [b] X.env=[(false,eval b X.env)]:=by rfl)
 (hpl:(backTo pos (starEach [b] X.env)).any (·.1)=false:=by rfl):
 DE X WX c (.Call (.Name "min" p) [a,b] [] pos) (λ ρ=>((f ρ).bind λ d=>((g ρ).bind λ d2=>(M.ok []).bind λ ds=>.ok (d2::ds)).bind λ ds=>.ok (d::ds)).bind (λ ds=>match ds with|[.int i,.int j]=>.ok (.int (if j<i then j else i))|_=>.bad)):=
 EE (Nx hc) RX hg hm hb (A2 ha (A2 cr Ah bT) hs) (he:=hs) (hpl:=hpl)
end
def WP (m:M Out)(nx:A6->Prop)(rt:Out->Prop)(ex:Str->Prop):Prop:=match m with
 | .ok (.next ρ)=>nx ρ
 | .ok o=>rt o
 | .ex x=>ex x
 | .bad=>False
section
variable {nx:A6->Prop}{rt:Out->Prop}{ex:Str->Prop}{m:M Out}{k:A6->M Out}{ρ ρ':A6}
theorem Bj (h:m=.ok (.next ρ'))(hn:nx ρ'):WP m nx rt ex:=by rw[h];exact hn
theorem WP.mono {gn:A6->Prop}{gp:Out->Prop}{d9:Str->Prop}(h:WP m nx rt ex)(h1:∀ρ,nx ρ->gn ρ)(h2:∀o,rt o->gp o)(h3:∀x,ex x->d9 x):WP m gn gp d9:=by
 cases m with
 |bad=>exact h
 |ex x=>exact h3 x h
 |ok o =>
  cases o with
  |next ρ=>exact h1 ρ h
  |ret d|brk d|cont d|Bi d|Ce d ρ=>exact h2 _ h
theorem wp_seq (h:WP m (λ ρ=>WP (k ρ) nx rt ex) rt ex):WP (Pe m k) nx rt ex:=by
 cases m with
 |bad|ex x=>exact h
 |ok o =>
  cases o with
  |next ρ|ret d|brk d|cont d|Bi d|Ce d ρ=>exact h
theorem wp_step (h:m=.ok (.next ρ'))(hk:WP (k ρ') nx rt ex):WP (Pe m k) nx rt ex:=by rw[h];exact hk
theorem Cz {I:A6->Prop}(h:WP m I rt ex)(hk:∀ρ,I ρ->WP (k ρ) nx rt ex):WP (Pe m k) nx rt ex:=wp_seq (h.mono hk (λ _ h=>h) λ _ h=>h)
def inLoop (I:A6->Prop)(nx:A6->Prop)(rt:Out->Prop)(o:Out):Prop:=match o with
 | .cont ρ=>I ρ
 | .brk ρ=>nx ρ
 |o=>rt o
theorem Dj {gt:D->A6->M A6}{gb:A6->M Out}{ds:List D}(I:Nat->A6->Prop)(h0:I 0 ρ)
 (step:∀i d ρ,ds[i]?=some d->I i ρ->∃ρ1,gt d ρ=.ok ρ1/\WP (gb ρ1) (I (i+1)) (inLoop (I (i+1)) nx rt) ex) (done:∀ρ,I ds.length ρ->nx ρ):WP (forM gt gb ds ρ) nx rt ex:=by
 have key:∀(n i:Nat) (ρ:A6),i+n=ds.length->I i ρ->WP (forM gt gb (ds.drop i) ρ) nx rt ex:=by
  intro n;induction n with
  |zero =>
   intro i ρ hi h;have e:i=ds.length:=by omega
   subst e;rw[yB,forM];exact done ρ h
  |succ n ih =>
   intro i ρ hi h;have ag:i<ds.length:=by omega
   obtain⟨ρ1,h1,h2⟩:=step i ds[i] ρ (zu ag) h;rw[D8 ag,forM,h1];dsimp only;cases q:gb ρ1 with
   |bad|ex x=>rw[q] at h2;exact h2
   |ok o =>
    rw[q] at h2;cases o with
    |next ρ2=>exact ih (i+1) ρ2 (by omega) h2
    |ret d|Bi d|Ce d ρ2=>exact h2
    |cont ρ2=>exact ih (i+1) ρ2 (by omega) h2
    |brk ρ2=>exact h2
 have:=key ds.length 0 ρ (by omega) h0;rw[List.drop_zero] at this;exact this
theorem PR {α:Type}{c:A6->M Bool}{b:A6->M Out}{lt:α->α->Prop}(J:α->A6->Prop){x:α}(hx:Acc lt x)(h0:J x ρ)
 (step:∀x ρ,J x ρ->(c ρ=.ok false/\nx ρ)\/(c ρ=.ok true/\WP (b ρ) (λ ρ2=>∃y,lt y x/\J y ρ2) (inLoop (λ ρ2=>∃y,lt y x/\J y ρ2) nx rt) ex)):WP (FJ c b ρ) nx rt ex:=by
 have key:∀x,Acc lt x->∀ρ,J x ρ->∃n,Ai c b n ρ≠.bad/\WP (Ai c b n ρ) nx rt ex:=by
  intro x hx;induction hx with
  |intro x _ ih =>
   intro ρ h;rcases step x ρ h with ⟨h1,h2⟩|⟨h1,h2⟩
   ·refine⟨1,?_,?_⟩
    ·rw[Ai,h1];intro z;cases z
    ·rw[Ai,h1];exact h2
   ·cases q:b ρ with
    |bad=>rw[q] at h2;exact h2.elim
    |ex y =>
     rw[q] at h2;refine⟨1,?_,?_⟩
     ·rw[Ai,h1];dsimp only;rw[q];intro z;cases z
     ·rw[Ai,h1];dsimp only;rw[q];exact h2
    |ok o =>
     rw[q] at h2;have go:∀ρ2,(∃y,lt y x/\J y ρ2)->(∀n,Ai c b (n+1) ρ=Ai c b n ρ2)->∃n,Ai c b n ρ≠.bad/\WP (Ai c b n ρ) nx rt ex:=by
      rintro ρ2 ⟨y,hy,hJ⟩ e;obtain⟨n,h3,h4⟩:=ih y hy ρ2 hJ;exact⟨n+1,by rw[e];exact h3,by rw[e];exact h4⟩
     cases o with
     |next ρ2|cont ρ2=>exact go ρ2 h2 λ n=>by rw[Ai,h1];dsimp only;rw[q]
     |brk ρ2 =>
      refine⟨1,?_,?_⟩
      ·rw[Ai,h1];dsimp only;rw[q];intro z;cases z
      ·rw[Ai,h1];dsimp only;rw[q];exact h2
     |ret d =>
      refine⟨1,?_,?_⟩
      ·rw[Ai,h1];dsimp only;rw[q];intro z;cases z
      ·rw[Ai,h1];dsimp only;rw[q];exact h2
     |Bi d =>
      refine⟨1,?_,?_⟩
      ·rw[Ai,h1];dsimp only;rw[q];intro z;cases z
      ·rw[Ai,h1];dsimp only;rw[q];exact h2
     |Ce d ρ2 =>
      refine⟨1,?_,?_⟩
      ·rw[Ai,h1];dsimp only;rw[q];intro z;cases z
      ·rw[Ai,h1];dsimp only;rw[q];exact h2
 obtain⟨n,h1,h2⟩:=key x hx ρ h0;unfold FJ;have hx:∃n,Ai c b n ρ≠.bad:=⟨n,h1⟩;rw[dif_pos hx];have e:Ai c b (zA hx) ρ=Ai c b n ρ:=by
  have a:=Bb (ze hx) n;have b':=Bb h1 (zA hx);rw[Nat.add_comm] at b';rw[<-a,<-b']
 rw[e];exact h2
def Yg (Q:OT->Prop)(o:Out):Prop:=match o with
 | .ret d=>Q (.sh d)
 | .Bi c=>∃t,Wj c=.ok t/\Q t
 |_=>False
theorem N3 {Q:OT->Prop}(h:WP m (λ _=>Q (.sh .Aw)) (Yg Q) (λ _=>False)):∃t,PF m=.ok t/\Q t:=by
 cases m with
 |bad|ex x=>exact h.elim
 |ok o =>
  cases o with
  |next ρ|ret d=>exact⟨_,rfl,h⟩
  |Bi c=>exact h
  |Ce c ρ|brk ρ|cont ρ=>exact h.elim
theorem FN {t:OT}(h:WP m (λ _=>OT.sh .Aw=t) (Yg (·=t)) (λ _=>False)):PF m=.ok t:=by
 obtain⟨u,h1,h2⟩:=N3 (Q:=(·=t)) h;rw[h1,h2]
def Yh (Q:D->Prop)(o:Out):Prop:=match o with
 | .ret d=>Q d
 | .Bi c=>∃t,XI c=.ok t/\Q t
 |_=>False
theorem Wr {Q:D->Prop}(h:WP m (λ _=>Q .Aw) (Yh Q) (λ _=>False)):∃t,fin m=.ok t/\Q t:=by
 cases m with
 |bad|ex x=>exact h.elim
 |ok o =>
  cases o with
  |next ρ|ret d=>exact⟨_,rfl,h⟩
  |Bi c=>exact h
  |Ce c ρ|brk ρ|cont ρ=>exact h.elim
theorem Ws {d:D}(h:WP m (λ _=>D.Aw=d) (Yh (·=d)) (λ _=>False)):fin m=.ok d:=by
 obtain⟨u,h1,h2⟩:=Wr (Q:=(·=d)) h;rw[h1,h2]
end
section
variable {d:D}{ds es:List D}{ρ ρ':A6}{o:Option Cl}{i n:Nat}{p:Option Nat}{t u:OT}{π:List Nat}{b:Bool}{ks vs:List D}{ts:List OT}{m:M D}
theorem X0:rv 0 (some (.val d)::ρ)=.ok d:=rfl
theorem X1:rv (i+1) (o::ρ)=rv i ρ:=rfl
noncomputable def KW (f:A6->A6)(m:M Out):M Out:=match m with
 | .ok (.next ρ)=>.ok (.next (f ρ))
 |m=>m
theorem H9 {f:A6->A6}:KW f (.ok (.next ρ))=.ok (.next (f ρ)):=rfl
theorem Ha:KP 0 (some (.own ds)::ρ)=.ok []:=rfl
theorem Hb:KP 0 (some (.ow (.G3 n ds))::ρ)=.ok []:=rfl
theorem Fh:KP 0 (some (.ow (.tree p t))::ρ)=.ok []:=by unfold KP PJ;simp[treeOf]
theorem PV:KP (i+1) (o::ρ)=KP i ρ:=rfl
theorem N4:PJ 0 (some (.own ds)::ρ) π=Fb (.lst (ds.map .sh)) π:=rfl
theorem N5:PJ 0 (some (.ow (.G3 n ds))::ρ) π=Fb (.lst (ds.map .sh)) π:=rfl
theorem Hc:PJ 0 (some (.ow (.tree p t))::ρ) π=Fb t π:=rfl
theorem JC:SD 0 (some (.own ds)::ρ) []=.ok ds:=by unfold SD;simp[N4,Bc]
theorem JD:SD 0 (some (.ow (.G3 n ds))::ρ) []=.ok ds:=by unfold SD;simp[N5,Bc]
theorem Hd:SD 0 (some (.ow (.tree p (.lst (ds.map .sh))))::ρ) []=.ok ds:=by unfold SD;simp[Hc,Bc]
theorem Ue:SD (i+1) (o::ρ) π=SD i ρ π:=rfl
theorem Fi:FL 0 (some (.own ds)::ρ) []=.ok (ds.map .sh):=by unfold FL;simp[N4]
theorem Fj:FL 0 (some (.ow (.G3 n ds))::ρ) []=.ok (ds.map .sh):=by unfold FL;simp[N5]
theorem El:FL 0 (some (.ow (.tree p (.lst ts)))::ρ) []=.ok ts:=by unfold FL;simp[Hc]
theorem M9:FL (i+1) (o::ρ) π=FL i ρ π:=rfl
theorem Br:BS 0 (some (.ow (.tree p (.AS b ks (vs.map .sh))))::ρ) []=.ok (b,ks,vs):=by unfold BS;simp[Hc,Bc]
theorem Ma:BS (i+1) (o::ρ) π=BS i ρ π:=rfl
theorem He:Fg 0 (some (.own ds)::ρ) [] u=.ok (.next (some (toCl none u)::ρ)):=by unfold Fg;simp[treeOf]
theorem Hf:Fg 0 (some (.ow (.G3 n ds))::ρ) [] u=.ok (.next (some (toCl (some n) u)::ρ)):=by unfold Fg;simp[treeOf]
theorem Fl:Fg 0 (some (.ow (.tree p t))::ρ) π u=.ok (.next (some (toCl p (Cv t π u))::ρ)):=by unfold Fg;simp[treeOf]
theorem PX:Fg (i+1) (o::ρ) π u=KW (o::·) (Fg i ρ π u):=by
 unfold Fg KW;simp only[zM,zI];split
 ·rename_i c e;split<;>simp_all
 ·simp_all
theorem Hg:RC 0 (some (.own ds)::ρ) (.ok d)=if ds.length<1000 then .ok (.next (some (.own (ds++[d]))::ρ)) else .bad:=rfl
theorem PY:RC (i+1) (o::ρ) m=KW (o::·) (RC i ρ m):=by
 unfold RC;rw[zM];cases q:ρ[i]? with
 |none=>rfl
 |some oo =>
  cases oo with
  |none=>rfl
  |some c =>
   cases c with
   |own ds =>
    cases m with
    |ok d =>
     simp only[M.A7,zI];by_cases h:ds.length<1000
     ·rw[if_pos h,if_pos h];rfl
     ·rw[if_neg h,if_neg h];rfl
    |ex x|bad=>rfl
   |val d|ow w=>rfl
theorem Hh {j:Int}:NR 0 (some (.own ds)::ρ) (.ok (.int j)) (.ok d)=if 0<=j/\j.toNat<=ds.length/\ds.length<1000 then .ok (.next (some (.own (ds.take j.toNat++d::ds.drop j.toNat))::ρ)) else .bad:=rfl
theorem PZ {m2:M D}:NR (i+1) (o::ρ) m m2=KW (o::·) (NR i ρ m m2):=by
 unfold NR;rw[zM];cases q:ρ[i]? with
 |none=>rfl
 |some oo =>
  cases oo with
  |none=>rfl
  |some c =>
   cases c with
   |own ds =>
    cases m with
    |ok d =>
     cases m2 with
     |ok d2 =>
      simp only[M.A7,zI];cases d with
      |int j =>
       dsimp only;by_cases h:0<=j/\j.toNat<=ds.length/\ds.length<1000
       ·rw[if_pos h,if_pos h];rfl
       ·rw[if_neg h,if_neg h];rfl
      |_=>rfl
     |ex x|bad=>rfl
    |ex x|bad=>rfl
   |val d|ow w=>rfl
theorem Hi:M5 0 (some (.val d)::ρ)=.ok (.ret d):=rfl
theorem Hj:M5 0 (some (.own ds)::ρ)=.ok (.Bi (.own ds)):=rfl
theorem JE {w:Ow}:M5 0 (some (.ow w)::ρ)=.ok (.Bi (.ow w)):=rfl
theorem Q0:M5 (i+1) (o::ρ)=M5 i ρ:=rfl
theorem Ug:PH (i+1) (o::ρ)=o::PH i ρ:=by
 unfold PH;simp only[zM,zI];split<;>simp_all
theorem Uh {c:Cl}:PH 0 (some c::ρ)=some (FV c)::ρ:=rfl
theorem Hk:FV (.val d)=.val d:=rfl
theorem Hl:FV (.own ds)=.val (.lst ds):=rfl
theorem Hm:FV (.ow (.G3 n ds))=.val (.lst ds):=rfl
theorem JF:FV (.ow (.tree p t))=.val (er t):=rfl
theorem Fm:er (.AS b ks (vs.map .sh))=.AS b ks vs:=by rw[er,M6]
theorem Mb:er (.lst (ds.map .sh))=.lst ds:=by rw[er,M6]
theorem Q1:er (.sh d)=d:=rfl
theorem XS {l:List (Option Nat)}:AB (none::l) ρ=none::AB l ρ:=rfl
theorem XT:AB [] ρ=[]:=rfl
theorem Ui {l:List (Option Nat)}:AB (some i::l) ρ=(match ρ[i]? with | some (some (.val d))=>some (.val d) | _=>none)::AB l ρ:=rfl
theorem Uj {α:Type}{x y:α}:(if ([]:List D).length<=1000 then x else y)=x:=if_pos (by show 0<=1000;decide)
theorem Uk {α:Type}{x y:α}{a:D}:(if [a].length<=1000 then x else y)=x:=if_pos (by show 1<=1000;decide)
theorem Ul {α:Type}{x y:α}{a b:D}:(if [a,b].length<=1000 then x else y)=x:=if_pos (by show 2<=1000;decide)
theorem Um {α:Type}{x y:α}{a b c:D}:(if [a,b,c].length<=1000 then x else y)=x:=if_pos (by show 3<=1000;decide)
theorem Uo {α:Type}{x y:α}{a b c d:D}:(if [a,b,c,d].length<=1000 then x else y)=x:=if_pos (by show 4<=1000;decide)
theorem toCl_nil:toCl none (.lst [])=.own []:=rfl
theorem Hn {α:Type}{gt:D->A6->M A6}{ft:A6->M Bool}{fe:A6->M D}{g:α->D}(p:α->Bool)(f:α->D):∀ {l:List α},(∀x∈l,∃ρ1,gt (g x) ρ=.ok ρ1/\ft ρ1=.ok (p x)/\(p x=true->fe ρ1=.ok (f x)))->AH gt ft fe (l.map g) ρ=.ok ((l.filter p).map f)
 |[],_=>rfl
 |x::r,h=>by
  obtain⟨ρ1,h1,h2,h3⟩:=h x zd;have ih:=Hn (gt:=gt) (ft:=ft) (fe:=fe) (g:=g) p f (l:=r) λ y hy=>h y (zf _ hy);rw[zj,AH,h1];dsimp only;rw[h2];dsimp only;rw[List.filter_cons];cases hp:p x with
  |true =>
   rw[if_pos rfl,h3 hp];dsimp only;rw[ih];simp
  |false=>simp[ih]
theorem CB {α:Type}{gt:D->A6->M A6}{ft:A6->M Bool}{fe:A6->M D}{g:α->D}(f:α->D){l:List α}(h:∀x∈l,∃ρ1,gt (g x) ρ=.ok ρ1/\ft ρ1=.ok true/\fe ρ1=.ok (f x)):AH gt ft fe (l.map g) ρ=.ok (l.map f):=by
 have:=Hn (gt:=gt) (ft:=ft) (fe:=fe) (ρ:=ρ) (g:=g) (λ _=>true) f (l:=l) λ x hx=>by
  obtain⟨ρ1,h1,h2,h3⟩:=h x hx;exact⟨ρ1,h1,h2,λ _=>h3⟩
 rw[this,List.filter_eq_self.mpr (λ _ _=>rfl)]
theorem BU {α:Type}{g:α->D}{l:List α}{i:Nat}{d:D}(h:(l.map g)[i]?=some d):∃x,l[i]?=some x/\d=g x:=by
 rw[zy] at h;cases q:l[i]? with
 |none=>rw[q] at h;cases h
 |some x=>rw[q] at h;cases h;exact⟨x,rfl,rfl⟩
theorem Mc:Wo (.lst (ds.map .sh))=.ok ds:=by unfold Wo;simp[Bc,Ub]
theorem Fn {α:Type}{x:α}:Ub (some x)=.ok x:=rfl
theorem JG:KO i ρ (.sh d)=.ok (.next (ρ.set i (some (.val d)))):=rfl
theorem Ho:KO i ρ (.lst ts)=.ok (.next (ρ.set i (some (toCl none (.lst ts))))):=rfl
theorem Hq:KO i ρ (.tup ts)=.ok (.next (ρ.set i (some (.ow (.tree none (.tup ts)))))):=rfl
theorem Hr:KO i ρ (.AS b ks ts)=.ok (.next (ρ.set i (some (.ow (.tree none (.AS b ks ts)))))):=rfl
theorem Hs {x:Str}{ns:List Str}:KO i ρ (.ins x ns ts)=.ok (.next (ρ.set i (some (.ow (.tree none (.ins x ns ts)))))):=rfl
theorem JH:NV (.sh d)=.ok (.ret d):=rfl
theorem Ht:NV (.lst ts)=.ok (.Bi (.ow (.tree none (.lst ts)))):=rfl
theorem Hu:NV (.tup ts)=.ok (.Bi (.ow (.tree none (.tup ts)))):=rfl
theorem Hv:NV (.AS b ks ts)=.ok (.Bi (.ow (.tree none (.AS b ks ts)))):=rfl
theorem Up {a s m:Int}(h0:0<=a)(h1:a<m)(s0:1<=s)(s1:s<m):(a+s)%m≠a:=by
 by_cases h:a+s<m
 ·rw[Int.emod_eq_of_lt (by omega) h];omega
 ·have e:(a+s)%m=(a+s-m)%m:=by rw[Int.sub_emod_right]
  rw[e,Int.emod_eq_of_lt (by omega) (by omega)];omega
theorem JI {k:Nat}(i j:Int):Sv k (.int i) (.int j)=.ok (.bl (decide (i=j))):=by
 rw[Pq (BC _) (BC _)];simp only[Aj,Bool.beq_eq_decide_eq]
theorem JJ {k:Nat}(i j:Int):Ve k (.int i) (.int j)=.ok (.bl (!decide (i=j))):=by
 rw[U0 (BC _) (BC _)];simp only[Aj,Bool.beq_eq_decide_eq]
theorem Hw {i j:Int}:P6 (.int i) (.int j)=.ok (.int (i+j)):=rfl
theorem Hx {i j:Int}:Tx (.int i) (.int j)=.ok (.int (i-j)):=rfl
theorem JK {i j:Int}:Yw (.int i) (.int j)=.ok (.bl (decide (i<j))):=rfl
theorem JL {i j:Int}:Yx (.int i) (.int j)=.ok (.bl (decide (i<=j))):=rfl
theorem JM {i j:Int}:Y7 (.int i) (.int j)=.ok (.bl (decide (j<i))):=rfl
theorem JN {i j:Int}:Yy (.int i) (.int j)=.ok (.bl (decide (j<=i))):=rfl
theorem JO {i:Int}:Y9 (.int i)=.ok (some i):=rfl
theorem Hy:Pa [.lst ds]=.ok (.int ds.length):=rfl
theorem Hz:Pa [.tup ds]=.ok (.int ds.length):=rfl
theorem ite_tt {α:Type}{x y:α}:(if true=true then x else y)=x:=rfl
theorem ite_ff {α:Type}{x y:α}:(if false=true then x else y)=y:=rfl
theorem Md {lo hi:Option Int}{x:D}(h:Sx lo hi x=.ok (.lst ds)):Oi lo hi x=.ok (.lst (ds.map .sh)):=by
 unfold Sx at h;unfold Oi;cases x with
 |lst xs=>dsimp only at h ⊢;injection h with h;injection h with h;rw[h]
 |_=>cases h
theorem HA (xs:List D)(k:Nat):Oi none (some (k:Int)) (.lst xs)=.ok (.lst ((xs.take k).map .sh)):=Md (Ph xs k)
theorem Q2 (xs:List D)(k:Nat):Oi (some (k:Int)) none (.lst xs)=.ok (.lst ((xs.drop k).map .sh)):=Md (Pn xs k)
theorem RZ (xs:List D)(a b:Nat):Oi (some (a:Int)) (some (b:Int)) (.lst xs)=.ok (.lst (((xs.drop a).take (b-a)).map .sh)):=Md (RJ xs a b)
theorem HB:GR (.lst ds)=.ok (.lst (ds.map .sh)):=rfl
theorem HC:GR (.tup ds)=.ok (.lst (ds.map .sh)):=rfl
theorem Fo {ns:List Int}:PP [.lst (ns.map D.int)]=.ok (.int ns.sum):=by unfold PP;dsimp only;rw[F9]
theorem Fp {T:String}:Ea T (.lst ds)=.ok (.bl (BZ T (.lst ds))):=rfl
theorem Fq {T:String}:Ea T (.tup ds)=.ok (.bl (BZ T (.tup ds))):=rfl
theorem Fs {T:String}{k:Int}:Ea T (.int k)=.ok (.bl (BZ T (.int k))):=rfl
theorem Ft {T:String}:Ea T .Aw=.ok (.bl (BZ T .Aw)):=rfl
theorem HD {T:String}{k:Bool}:Ea T (.bl k)=.ok (.bl (BZ T (.bl k))):=rfl
theorem Fu {T:String}{k:Str}:Ea T (.str k)=.ok (.bl (BZ T (.str k))):=rfl
theorem Fv {T:String}:Ea T (.AS b ks vs)=.ok (.bl (BZ T (.AS b ks vs))):=rfl
theorem Q3:BZ "list" (.lst ds)=true:=rfl
theorem Q4:BZ "tuple" (.tup ds)=true:=rfl
theorem Q5 {k:Int}:BZ "int" (.int k)=true:=rfl
theorem Q6 {k:Int}:BZ "bool" (.int k)=false:=rfl
theorem Q7:BZ "dict" (.AS b ks vs)=true:=rfl
theorem Fw {neg:Bool}{k:Int}{ns:List Int}:Io neg (.int k) (.lst (ns.map D.int))=.ok (.bl (if neg then !ns.contains k else ns.contains k)):=by
 unfold Io WW;dsimp only;rw[F9]
noncomputable def vO (s:Option D):Option Cl:=s.map .val
theorem JP {s:Option D}:CT (vO s::ρ)=vO s::CT ρ:=by cases s<;>rfl
end
section
variable {X:Cx}{E:XK}{WX:Str->Hp->Prop}{c:Bool}{P0:BO}{P:Addr->Prop}{H:Hp}{σ:St}{ρ:A6}{a b e:Expr}{es:List Expr}{f g:A6->M D}{fs:A6->M (List D)}{fn:A6->M OT}{pos:Pos}{te:TE}
structure Wt (K:zc)(x m qual:Str)(st:Stmt)(ps:List Str):Prop where
 ex:∃C f fd,zi K mainGlobals x=some (some (.ref C))/\Y2 K C/\Meth K C m f/\Og K m qual st f fd/\Binds K fd ps []
end
end L2
set_option maxRecDepth 1000000
set_option maxHeartbeats 0
namespace L2
open PySem
theorem IY:entryFor table "dict.update.loop" = some Builtin.«dict.update.loop»:=by unfold entryFor;rfl
open PySem PySem.Spec PySem.Calls PyProof.Rows PySem.W PySem.Builtin PySem.Builtin.ObjectAttr
section
variable {prog:Program}{w:World}{A:Around}{E:Value->Shared->Prop}{s:Shared}
theorem call_meets {T id:String}{nm:Str}{B:Builtin}{self:Value}{rest:List Value}{Sp:PySem.Spec}{Q:Value->Shared->Prop}(SL:Slot T nm id)(hB:entryFor table id=some B)(ht:s.TypeIs self T)(ha:argsOk id ⟨self::rest,[]⟩)(m:Meets (B ⟨self::rest,[]⟩) Sp)
 (h:Sp A (λ r s'=>match r with | .ok (.ret v)=>Q v s' | .ok _=>False | .error e=>E e s') s):wpAny (model prog w) A (call (.builtin id) (self::rest)) Q E s:=
 wpAny_call (codeAny_call_builtin SL.plain hB (SL.check _ _ _ _ _ _ _ _ ht ha (m prog w A _ s h)))
theorem KY {l:Addr}{xs:Array Value}{k:Nat}{sl:Array (Option Value)}{Q:Option Value->Shared->Prop}(hh:A.handled=none)(hl:s.heap.get? l=some {cls:=.type "list",data:=.seq xs k,slots:=sl})
 (h:∀h' tk,(∀b o,s.heap.get? b=some o->h'.get? b=some o)->Q none {s with heap:=h',toks:=tk}):wpAny (model prog w) A (getAttr? (.ref l) "keys") Q E s:=by
 have miss:typeLookup (.type "list") "keys" = pure none:=am_miss_of_fast (by decide +kernel);have T0:∀hp:Heap,hp.get? l=some {cls:=.type "list",data:=.seq xs k,slots:=sl}->Looks (model prog w) hp (typeOf (.ref l)) (.type "list"):=λ hp e=>(Looks.ld e).andThen .now;have SL:=PySem.F.slot_list_getattribute;have aj:(onTheHeap (Value.type "list")&&Value.builtin "list.__getattribute__" == Value.builtin "object.__getattribute__")=false:=rfl;have iA:(false&&onTheHeap (Value.builtin "list.__getattribute__"))=false:=rfl;unfold getAttr? getAttrBy?;refine wpAny_bind (wpAny_mkText (wpAny_bind (wpAny_attempt ?_)));unfold getAttrBy;refine wpAny_holding (wpAny_bind ((T0 _ hl).at (wpAny_bind ?_)));rw[SL.lookup];refine wpAny_pure ?_;dsimp only;rw[aj,if_neg zD];unfold getAttrByItsOwn hookBefore;rw[if_neg (show ¬ onTheHeap (Value.type "list")=true from zD)];refine wpAny_bind (wpAny_pure (wpAny_bind (wpAny_attempt (wpAny_holding ?_))));unfold callGetattribute;rw[iA,if_neg zD];unfold boundAndCalled;rw[SL.bind];refine wpAny_bind (wpAny_pure ?_);dsimp only;refine call_meets SL am_entry_list_getattribute ⟨_,hl,rfl⟩ (PySem.F.args_list_getattribute_2 _ _) (meets_getattribute_miss_list l xs k sl "keys" s.toks miss rfl (by decide)) ⟨hl,hh,λ h' tk e ne=>?_⟩;dsimp only;obtain⟨kp,nw,t,u,he⟩:=ne;have T1:Looks (model prog w) h' (typeOf (.ref e)) (.type "AttributeError"):=(Looks.ld he).andThen .now;unfold getattributeRaised isInstance;refine wpAny_bind (wpAny_bind (T1.at ?_));rw[sub_AttributeError];refine wpAny_pure ?_;rw[if_pos rfl];unfold hookBehind;rw[if_neg (show ¬ onTheHeap (Value.type "list")=true from zD),am_list_getattr_none];refine wpAny_bind (wpAny_pure ?_);unfold hookOrError attributeErrorLeaves;dsimp only;rw[if_pos (show (!false)=true from rfl)];refine wpAny_bind (wpAny_throw ?_);refine wpAny_bind (wpAny_bind (T1.at ?_));rw[sub_AttributeError];refine wpAny_pure ?_;rw[if_pos rfl];exact wpAny_pure (h h' tk kp)
theorem NZ {t:Addr}{aa:Array Value}{Q:List Value->Shared->Prop}(ht:IsTup s.heap t aa)(h:Q aa.toList s):wpAny (model prog w) A (Dict.pairItems (.ref t)) Q E s:=by
 obtain⟨o,h1,h2,n,h3⟩:=ht;have T0:Looks (model prog w) s.heap (typeOf (.ref t)) (.type "tuple"):=h2▸(Looks.ld h1).andThen .now;unfold Dict.pairItems;refine wpAny_bind (T0.at ?_);have hx:(Value.type "tuple" == Value.type "list" || Value.type "tuple" == Value.type "tuple")=true:=by decide
 rw[if_pos hx];exact wpAny_bind (wpAny_seqItems h1 h3 (wpAny_pure h))
theorem DQ:plainId "dict.update.loop" = true:=by decide +kernel
theorem HE {K:Type}[DecidableEq K]{knd:KeyKind prog w K}{h h':Heap}{d I l:Addr}{i:Nat}{xs:List (List K×Addr×Value)}(hd:h.DictOfH (tupleKind knd) d xs)(hit:h.IsListIter I l i)(sb:∀b o,b≠I->h.get? b=some o->h'.get? b=some o):
 h'.DictOfH (tupleKind knd) d xs:=by
 obtain⟨o,es,ep,h1,h2,h3,h4,h5,h6⟩:=hd;obtain⟨oi,i1,i2,i3⟩:=hit;refine⟨o,es,ep,sb d o (λ z=>?_) h1,h2,h3,h4,λ x hx=>?_,h6⟩
 ·subst z;rw[i1] at h1;cases h1;rw[i3] at h3;cases h3
 ·obtain⟨ok,aa,n,k1,k2,k3,k4⟩:=h5 x hx;refine⟨ok,aa,n,sb _ _ (λ z=>?_) k1,k2,k3,k4⟩;rw[z,i1] at k1;cases k1;rw[i3] at k3;cases k3
theorem Me {K:Type}[DecidableEq K]{knd:KeyKind prog w K}{R:Result->Shared->Prop}{d I l:Addr}{items:Array Value}{h0:Heap}(ps:List (List K×Addr×Value))(hh:A.handled=none)(eK:A.in1.units<cLine)(gq:l≠I)(iB:d≠I)(gr:l≠d)
 (gu:ps.length=items.size) (hsz:items.size+1<=sizeLine) (hl:h0.IsList l items)
 (hp:∀(j:Nat) p,ps[j]?=some p->(p.2.1≠d/\p.2.1≠I/\(tupleKind knd).is h0 p.1 p.2.1)/\∃t,items[j]?=some (.ref t)/\t≠d/\t≠I/\IsTup h0 t #[.ref p.2.1,p.2.2]):
 ∀(m i:Nat) (xs:List (List K×Addr×Value)) (s:Shared),items.size-i=m->i<=items.size->xs.length<=i->s.heap.IsListIter I l i->s.heap.DictOfH (tupleKind knd) d xs->(∀b o,b≠d->b≠I->h0.get? b=some o->s.heap.get? b=some o)->
  (∀h' tk,h'.DictOfH (tupleKind knd) d ((ps.drop i).foldl (λ acc p=>storedH acc p.1 p.2.1 p.2.2) xs)->(∀b o,b≠d->b≠I->h0.get? b=some o->h'.get? b=some o)->R (.ok (.ret .none)) {s with heap:=h',toks:=tk})->
  codeAny (model prog w) A (.builtin "dict.update.loop" ⟨[.ref d,.ref I,rawInt i,.none],[]⟩) R s:=by
 intro m;induction m with
 |zero =>
  intro i xs s hm hi iC hit hd hf h;have bZ:i=items.size:=by omega
  refine codeAny_builtin IY ?_;rw[Around.under_plainId DQ _];show wpAny _ A.in1 (pyNext (.ref I) >>= _) _ _ s;refine wpAny_bind (wpAny_pyNext_list_end (A:=A.in1) hh hit (hl.at λ o e=>hf l o gr gq e) (by simp[bZ]) λ h' eb=>?_);have hd2:=HE hd hit λ b o hb e=>eb b o hb e;show wpAny _ A.in1 (Dict.addKeywords d [] >>= _) _ _ _;unfold Dict.addKeywords;refine wpAny_bind (wpAny_bind ?_);refine wpAny_pure (wpAny_pure (wpAny_pure ?_));have ed:ps.drop i=[]:=by rw[List.drop_eq_nil_iff];omega
  rw[ed] at h;exact h h' s.toks hd2 λ b o h1 h2 e=>eb b o h2 (hf b o h1 h2 e)
 |succ m ih =>
  intro i xs s hm hi iC hit hd hf h;have ag:i<items.size:=by omega
  obtain⟨p,eL⟩:∃p,ps[i]?=some p:=⟨ps[i]'(by omega),zu _⟩;obtain⟨⟨p1,p2,p3⟩,t,ht,t1,t2,t3⟩:=hp i p eL;refine codeAny_builtin IY ?_;rw[Around.under_plainId DQ _];show wpAny _ A.in1 (pyNext (.ref I) >>= _) _ _ s;refine wpAny_bind (wpAny_pyNext_list_item (A:=A.in1) hit (hl.at λ o e=>hf l o gr gq e) ht λ h' b8 sb=>?_);have hd2:h'.DictOfH (tupleKind knd) d xs:=HE hd hit λ b o hb e=>(sb.2 b hb).trans e;have eM:∀b o,b≠d->b≠I->h0.get? b=some o->h'.get? b=some o:=λ b o h1 h2 e=>(sb.2 b h2).trans (hf b o h1 h2 e);have t4:IsTup h' t #[.ref p.2.1,p.2.2]:=by
   obtain⟨o,e1,e2⟩:=t3;exact⟨o,eM t o t1 t2 e1,e2⟩
  have p4:(tupleKind knd).is h' p.1 p.2.1:=by
   obtain⟨o,aa,n,e1,e2⟩:=p3;exact⟨o,aa,n,eM _ o p1 p2 e1,e2⟩
  dsimp only;refine wpAny_bind (wpAny_holding (wpAny_bind (wpAny_tryCatch (NZ t4 ?_))));show wpAny _ A.in1 (holding [.ref p.2.1,p.2.2] (dictSet d (.ref p.2.1) p.2.2)) _ _ _;refine wpAny_holding (wpAny_dictSet_heap (knd:=tupleKind knd) (hsz:=by omega) eK p4 hd2 λ h3 eN gw=>?_);refine wpAny_pure ⟨plainId_quiet DQ _,?_⟩;have eO:h3.IsListIter I l (i+1):=by
   obtain⟨o,e1,e2⟩:=b8;exact⟨o,(gw.2 I (zU iB)).trans e1,e2⟩
  have ed:ps.drop i=p::ps.drop (i+1):=by
   rw[y6 (by omega:i<ps.length)];rw[zu (by omega:i<ps.length)] at eL;rw[zx eL]
  rw[ed,yx] at h;have iD:(storedH xs p.1 p.2.1 p.2.2).length<=i+1:=by
   unfold storedH;split
   ·rw[zh];omega
   ·rw[zT,yn];omega
  have q:=ih (i+1) (storedH xs p.1 p.2.1 p.2.2) {s with heap:=h3,toks:=s.toks+(tupleKind knd).draws p.1} (by omega) (by omega) iD eO eN (λ b o h1 h2 e=>(gw.2 b h1).trans (eM b o h1 h2 e)) h;exact q
theorem FY {K:Type}[DecidableEq K]{knd:KeyKind prog w K}{Q:Value->Shared->Prop}{l:Addr}{items:Array Value}{n:Nat}{sl:Array (Option Value)}(ps:List (List K×Addr×Value))(hh:A.handled=none)(eK:A.units+2<cLine)
 (gu:ps.length=items.size) (hsz:items.size+1<=sizeLine) (hl:s.heap.get? l=some {cls:=.type "list",data:=.seq items n,slots:=sl})
 (hp:∀(j:Nat) p,ps[j]?=some p->(tupleKind knd).is s.heap p.1 p.2.1/\∃t,items[j]?=some (.ref t)/\IsTup s.heap t #[.ref p.2.1,p.2.2])
 (h:∀h' tk,h'.DictOfH (tupleKind knd) s.heap.objs.size (ps.foldl (λ acc p=>storedH acc p.1 p.2.1 p.2.2) [])->(∀b o,s.heap.get? b=some o->h'.get? b=some o)->Q (.ref s.heap.objs.size) {s with heap:=h',toks:=tk}):
 wpAny (model prog w) A (call (.type "dict") [.ref l]) Q E s:=by
 refine callType_codes (Q₁:=λ obj s₁=>obj=.ref s.heap.objs.size/\s₁={s with heap:=s.heap.push {cls:=.type "dict",data:=.dict #[]} }) PySem.F.kt_called_dict (PySem.F.kt_typeCall_dict_1 _) PySem.F.entry_dict_init
  (kt_code_dict_new _ ⟨rfl,rfl⟩) λ obj s₁ h₁=>?_
 obtain⟨rfl,rfl⟩:=h₁;have hS:(s.heap.push {cls:=.type "dict",data:=.dict #[]}).get? s.heap.objs.size=some {cls:=.type "dict",data:=.dict #[]}:=zG _ rfl;have ll:l<s.heap.objs.size:=zq hl;have cO:(s.heap.push {cls:=.type "dict",data:=.dict #[]}).get? l=some {cls:=.type "list",data:=.seq items n,slots:=sl}:=zr _ hl;refine⟨⟨_,hS,rfl⟩,PySem.F.args_dict_init_2 _ _,?_⟩;have TD:Looks (model prog w) (s.heap.push {cls:=.type "dict",data:=.dict #[]}) (typeOf (.ref s.heap.objs.size)) (.type "dict"):=(Looks.ld hS).andThen .now;have TL:Looks (model prog w) (s.heap.push {cls:=.type "dict",data:=.dict #[]}) (typeOf (.ref l)) (.type "list"):=(Looks.ld cO).andThen .now;unfold Builtin.«dict.__init__» Dict.selfAndRest Dict.notOrdered;dsimp only;rw[if_pos (by decide)];refine wpAny_bind (wpAny_bind (wpAny_bind (TD.at ?_)));rw[if_neg (by decide)];refine wpAny_pure ?_;unfold Dict.addrOf;refine wpAny_bind (wpAny_pure (wpAny_pure ?_));unfold Dict.updateCommon Dict.updateFrom;dsimp only;refine wpAny_bind (TL.at ?_);rw[if_pos (by decide)];refine wpAny_bind (KY (A:=A.in1.in1) hh cO λ h2 jv eP=>?_);rw[if_pos (show (none:Option Value).isNone=true from rfl)];refine wpAny_bind (wpAny_rule ?_);have b7:h2.IsList l items:=⟨_,eP _ _ cO,rfl,n,rfl⟩;have gx:=eP _ _ hS;refine wpAny_bind (wpAny_pyIter_list b7 ?_);refine wpAny_pure ⟨plainId_quiet DQ _,?_⟩;have lz:s.heap.objs.size<h2.objs.size:=zq gx;have iE:∀b o,s.heap.get? b=some o->(h2.push {cls:=.type "list_iterator",data:=.fields #[.ref l,.int 0 0]}).get? b=some o:=λ b o e=>zr _ (eP _ _ (zr _ e));have eN:(h2.push {cls:=.type "list_iterator",data:=.fields #[.ref l,.int 0 0]}).DictOfH (tupleKind knd) s.heap.objs.size []:=
  ⟨_,#[],0,zr _ gx,⟨rfl,rfl,rfl⟩,rfl,rfl,λ x hx=>absurd hx List.not_mem_nil,yi⟩
 have ag:∀b o,s.heap.get? b=some o->b≠s.heap.objs.size/\b≠h2.objs.size:=λ b o e=>by
  have:=zq e;exact⟨zC this,zC (Nat.lt_trans this lz)⟩
 refine Me (A:=A.in1) (knd:=knd) (l:=l) (h0:=s.heap) ps hh eK (zC (Nat.lt_trans ll lz)) (zC lz) (zC ll) gu hsz ⟨_,hl,rfl,n,rfl⟩ (λ j p hj=>?_) items.size 0 [] _ (by omega) (by omega) (by simp) ⟨_,zG _ rfl,rfl,rfl⟩ eN (λ b o h1 ei e=>iE b o e) λ h' tk aO iF=>?_
 ·obtain⟨q1,t,q2,q3⟩:=hp j p hj;obtain⟨o1,_,_,e1,_⟩:=id q1;obtain⟨o2,e2,_⟩:=id q3;exact⟨⟨(ag _ _ e1).1,(ag _ _ e1).2,q1⟩,t,q2,(ag _ _ e2).1,(ag _ _ e2).2,q3⟩
 ·exact⟨rfl,h h' tk aO λ b o e=>iF b o (ag _ _ e).1 (ag _ _ e).2 e⟩
end
structure O0 where
 (t:Addr) (κ:List Key) (b:Addr) (v:V)
def S0 (H:Hp)(p:O0):Prop:=H p.t=some (.tup [.ref p.b,p.v])/\H p.b=some (.tup (p.κ.map kV))
noncomputable def X2 (ps:List O0):List (List Key×V):=ps.foldl (λ acc p=>putK acc p.κ p.v) []
noncomputable def YA (X:Cx)(te:TE):TE:=λ σ H Q=>te σ H λ x H1=>∃(l:Addr) (ps:List O0),x=.ref l/\C1 X.K H1 l (ps.map λ p=>V.ref p.t)/\(∀p∈ps,S0 H1 p)/\ps.length<=1000/\∀r,H1 r=none->Q (.ref r) (upd H1 r (.dT (X2 ps)))
theorem KZ:∀ {ps:List O0}{us:List Value},Vals (ps.map λ p=>V.ref p.t) us->us=ps.map λ p=>yj p.t
 |[],_,.nil=>rfl
 |p::ps,_,.cons h t=>by
  cases h;rw[zj,<-KZ t]
theorem SE {H:Hp}:∀ {ps:List O0}{qs:List (List Key×Addr×Value)}{kvs:List (List Key×V)}{xs:List (List Key×Addr×Value)},(∀p∈ps,S0 H p)->Paired (λ(p:O0) (q:List Key×Addr×Value)=>p.κ=q.1/\p.b=q.2.1/\RelV p.v q.2.2) ps qs->KT H kvs xs->KT H (ps.foldl (λ acc p=>putK acc p.κ p.v) kvs) (qs.foldl (λ acc p=>storedH acc p.1 p.2.1 p.2.2) xs)
 |[],_,_,_,_,.nil,h=>h
 |p::ps,_,_,_,ho,.cons (b:=q) hq t,h=>by
  obtain⟨q1,q2,q3⟩:=q;obtain⟨e1,e2,e3⟩:=hq;dsimp only at e1 e2 e3;subst e1 e2;have r:=SE (ps:=ps) (λ p' hp=>ho p' (zf _ hp)) t (h.put p.κ (ho p zd).2 e3);exact r
theorem Q8:∀(ps:List O0) (kvs:List (List Key×V)),(ps.foldl (λ acc p=>putK acc p.κ p.v) kvs).length<=kvs.length+ps.length
 |[],kvs=>zp _
 |p::ps,kvs=>by
  have h1:=Q8 ps (putK kvs p.κ p.v);have h2:=C2 kvs p.κ p.v;rw[yx,zt];omega
theorem N6 {h:Heap}{H:Hp}{P:Program}{w:World}(ok:Cp P w H h):∀ {ps:List O0},(∀p∈ps,S0 H p)->∃qs:List (List Key×Addr×Value),Paired (λ(p:O0) (q:List Key×Addr×Value)=>p.κ=q.1/\p.b=q.2.1/\RelV p.v q.2.2) ps qs/\
 ∀(j:Nat) q,qs[j]?=some q->(tupleKind (AD P w)).is h q.1 q.2.1/\∃t,(ps.map λ p=>yj p.t)[j]?=some (.ref t)/\IsTup h t #[.ref q.2.1,q.2.2]
 |[],_=>⟨[],.nil,λ j q e=>by simp at e⟩
 |p::ps,ho=>by
  obtain⟨qs,h1,h2⟩:=N6 ok λ p hp=>ho p (zf _ hp);obtain⟨o1,o2⟩:=ho p zd;obtain⟨_,aa,r,it⟩:=(show AF P w H h p.t (.tup [.ref p.b,p.v]) from ok p.t _ o1);obtain⟨u,v,rfl,ru,rv⟩:=r.two;cases ru;refine⟨(p.κ,p.b,v)::qs,.cons ⟨rfl,rfl,rv⟩ h1,λ j q e=>?_⟩;cases j with
  |zero =>
   rw[List.getElem?_cons_zero] at e;cases e;exact⟨F3 ok o2,p.t,by simp,it⟩
  |succ j =>
   rw[zM] at e;obtain⟨a1,t,a2,a3⟩:=h2 j q e;exact⟨a1,t,by simpa using a2,a3⟩
section
variable {X:Cx}{WX:Str->Hp->Prop}{c:Bool}{P0:BO}{P:Addr->Prop}{H:Hp}{σ:St}{ρ:A6}{a b e:Expr}{f g:A6->M D}{fn:A6->M OT}{pos:Pos}{te:TE}
theorem Q9 {p:Pos}{n:Nat}(hc:X.calm=true)(hu:X.A.units+n<cLine)(hg:Gl X "dict")(hm:X.mg "dict" = none)(he:PE X e te)
 (hv:bootBuiltins "dict" = some (.type "dict"):=by decide +kernel)
 (hs:starEach [e] X.env=[(false,eval e X.env)]:=by rfl) (hn:2<=n:=by decide):
 PE X (.Call (.Name "dict" p) [e] [] pos) (YA X te):=by
 intro pins s σ H Q I h;refine wpAny_Call_Name_kw (F1 I hg hm hv ?_);refine yq ?_ hs;rw[hs];refine Calls.spliced_cons (AV (he pins s σ H _ I h) λ u s1 ⟨x,H1,I1,r1,q1⟩=>?_);obtain⟨l,ps,rfl,hq,ho,hlen,q⟩:=q1;cases r1;refine Calls.spliced_nil ?_;obtain⟨aa,r',pl,hz⟩:=I1.list hq;have hits:=KZ r';subst hits;obtain⟨⟨eQ,gy,gz,eR⟩,n0,o1,o2,o3,o4⟩:=pl;dsimp only at o2 o3 o4;subst o2 o3 o4;obtain⟨qs,h1,h2⟩:=N6 I1.An ho;refine FY (knd:=AD X.prog X.w) qs (I1.ok.hd hc) (by omega) (by rw[zm,zh,<-h1.length]) (AM (by rw[zm,zh];omega)) o1 (λ j p hj=>?_) λ h' tk hd kp=>?_
 ·obtain⟨a1,t,a2,a3⟩:=h2 j p hj;exact⟨a1,t,by rw[List.getElem?_toArray];exact a2,a3⟩
 ·have iG:=SE ho h1 (show KT H1 [] [] from .nil);have g0:s1.heap.objs.size<=s1.heap.objs.size:=zp _;have bH:=I1.An.fresh g0;have iH:=Q8 ps [];obtain⟨o,es,ep,g1,g2,g3,g4,g5,g6⟩:=hd;refine⟨.ref _,_,I1.laid (t':=tk) (o:=.dT (X2 ps)) kp g0 ⟨yz (AM (by unfold X2;simp at iH;omega)),beq_eq_false_iff_ne.mpr (zU (zC I1.big)),_,iG.keeps (λ b ys eb=>by rw[A5 (λ z=>by rw[z,bH] at eb;cases eb)];exact eb),o,es,ep,g1,g2,g3,g4,g6⟩,rfl,q _ bH⟩
noncomputable def O1:List D->Option (List (D×D))
 |[]=>some []
 | .tup [k,v]::r=>(O1 r).map ((k,v)::·)
 |_=>none
noncomputable def X3 (l:List (D×D)):List D×List D:=l.foldl (λ z kv=>putD z.1 z.2 kv.1 kv.2) ([],[])
noncomputable def S1 (d:D):M OT:=match d with
 | .lst xs=>(match O1 xs with|some l=>if l.length<=1000/\(l.all λ kv=>keyOk true kv.1)=true then .ok (.AS true (X3 l).1 ((X3 l).2.map .sh)) else .bad|none=>.bad)
 |_=>.bad
theorem N7 {K:zc}{H:Hp}{P:Addr->Prop}:∀ {xs:List V}{ds:List D}{l:List (D×D)},Ab K (del H P) xs ds->O1 ds=some l->(l.all λ kv=>keyOk true kv.1)=true->
 ∃ps:List O0,xs=ps.map (λ p=>V.ref p.t)/\(∀p∈ps,S0 H p)/\Paired (λ(p:O0) (kv:D×D)=>kv.1=.tup (p.κ.map Be)/\AW K (del H P) p.v kv.2) ps l
 |_,[],l,.nil,e,_=>by cases e;exact⟨[],rfl,λ p hp=>(by cases hp),.nil⟩
 |_,d::ds,l,.cons hd ht,e,hk=>by
  unfold O1 at e;split at e
  ·rename_i cP;cases cP
  ·rename_i k v r cP;cases cP;obtain⟨l',e1,e2⟩:=Option.map_eq_some_iff.mp e;subst e2;rw[List.all_cons,zL] at hk;obtain⟨ps,q1,q2,q3⟩:=N7 ht e1 hk.2;have hK:=Dg hk.1;cases hK with
   |t κ =>
    cases hd with
    |tup h1 h2 =>
     obtain⟨x,y,rfl,hx,hy⟩:=h2.two;cases hx with
     |tup g1 g2 =>
      rename_i tt bb ar;have ey:=Ab.keys κ g2;subst ey;refine⟨⟨tt,κ,bb,y⟩::ps,by rw[zj,q1],λ p hp=>?_,.cons ⟨rfl,hy⟩ q3⟩;rcases zo.mp hp with rfl|hp
      ·exact⟨(Ag h1).2,(Ag g1).2⟩
      ·exact q2 p hp
  ·cases e
theorem Qa {K:zc}{H:Hp}{P:Addr->Prop}:∀ {ps:List O0}{l:List (D×D)}{kvs:List (List Key×V)}{vs:List D},Paired (λ(p:O0) (kv:D×D)=>kv.1=.tup (p.κ.map Be)/\AW K (del H P) p.v kv.2) ps l->Ab K (del H P) (kvs.map yg) vs->
 ∃au,l.foldl (λ z kv=>putD z.1 z.2 kv.1 kv.2) (kvs.map (λ kv=>D.tup (kv.1.map Be)),vs)=((ps.foldl (λ acc p=>putK acc p.κ p.v) kvs).map (λ kv=>D.tup (kv.1.map Be)),au)/\Ab K (del H P) ((ps.foldl (λ acc p=>putK acc p.κ p.v) kvs).map yg) au
 |[],_,kvs,vs,.nil,h=>⟨vs,rfl,h⟩
 |p::ps,_,kvs,vs,.cons (b:=kv) hq t,h=>by
  obtain⟨k,d⟩:=kv;obtain⟨e1,e2⟩:=hq;dsimp only at e1 e2;subst e1;have hf:∀a b:List Key,Aj (.tup (a.map Be)) (.tup (b.map Be))=decide (a=b):=λ a b=>by simp only[Aj];exact G9 a b
  have ay:∃au,(putD (kvs.map λ kv=>.tup (kv.1.map Be)) vs (.tup (p.κ.map Be)) d)=((putK kvs p.κ p.v).map (λ kv=>.tup (kv.1.map Be)),au)/\Ab K (del H P) ((putK kvs p.κ p.v).map yg) au:=by
   unfold putD putK;rw[GX (fk:=λ κ:List Key=>D.tup (κ.map Be)) hf];by_cases hh:(kvs.any λ kv=>decide (kv.1=p.κ))=true
   ·rw[if_pos hh,if_pos hh];refine⟨_,by rw[EL (fk:=λ κ:List Key=>D.tup (κ.map Be)) hf],?_⟩;rw[<-EK (fk:=λ κ:List Key=>D.tup (κ.map Be)) hf];exact EM e2 h
   ·rw[if_neg hh,if_neg hh];refine⟨_,by rw[zW];rfl,?_⟩;rw[zW];exact h.snoc e2
  obtain⟨jw,g1,g2⟩:=ay;obtain⟨iI,g3,g4⟩:=Qa t g2;refine⟨iI,?_,g4⟩;rw[yx];dsimp only;rw[g1];exact g3
theorem Qb {p:Pos}{n:Nat}(hc:X.calm=true)(hu:X.A.units+n<cLine)(hg:Gl X "dict")(hm:X.mg "dict" = none)(he:DE X WX true e f)
 (hv:bootBuiltins "dict" = some (.type "dict"):=by decide +kernel)
 (hs:starEach [e] X.env=[(false,eval e X.env)]:=by rfl) (hn:2<=n:=by decide):
 DN X WX (.Call (.Name "dict" p) [e] [] pos) (λ ρ=>(f ρ).bind S1):=by
 obtain⟨te,e1,e2⟩:=he;refine⟨_,Q9 hc hu hg hm e1 hv hs hn,λ P0 P σ H Q ρ E h=>?_⟩;refine e2 P0 P σ H _ ρ E ?_;dsimp only at h;cases q:f ρ with
 |bad|ex x=>rw[q] at h;exact h
 |ok d =>
  rw[q] at h;simp only[M.A7] at h;intro v H1 s1 hv;unfold S1 at h;split at h
  ·rename_i xs;split at h
   ·rename_i l eb;split at h
    ·rename_i hl;cases hv with
     |lst hs hh =>
      obtain⟨ps,q1,q2,q3⟩:=N7 hh eb hl.2;subst q1;obtain⟨au,g1,g2⟩:=Qa (kvs:=[]) q3 .nil;refine⟨_,ps,rfl,hs.AZ,q2,by rw[q3.length];exact hl.1,λ r hr=>?_⟩;have e3:X3 l=((X2 ps).map (λ kv=>D.tup (kv.1.map Be)),au):=g1;rw[e3] at h;have cZ:∀a∈[r],H1 a=none:=λ a ha=>by rw[zl.mp ha];exact hr
      exact h _ [r] _ (s1.trans (Ay hr _)) (λ a ha=>DM s1 (cZ a ha)) (by simp) (.dT Ae (g2.mono (Cw (Ay hr _) cZ)).ows)
    ·exact h.elim
   ·exact h.elim
  ·exact h.elim
end
open PySem PySem.Spec PyProof.Rows
section
variable {X:Cx}{WX:Str->Hp->Prop}{c:Bool}{P0:BO}{P:Addr->Prop}{H:Hp}{σ:St}{ρ:A6}{a b e:Expr}{f g:A6->M D}{fn:A6->M OT}{pos:Pos}{te:TE}
noncomputable def Qc (x y:D):M D:=match x,y with
 | .tup xs,.tup ys=>(match BD xs,BD ys with|some ns,some ms=>.ok (.bl (HT.lexLt ns ms))|_,_=>.bad)
 |_,_=>.bad
theorem N8:LQ X.K WX (VQ X.K) Qc:=by
 intro P H x y v w Q ht hx hy h;unfold Qc at h;split at h
 ·rename_i xs ys;split at h
  ·rename_i ns ms e1 e2;have:=DL e1;subst this;have:=DL e2;subst this;cases hx with
   |tup h1 h2 =>
    cases hy with
    |tup h3 h4 =>
     have:=Cu h2;subst this;have:=Cu h4;subst this;exact⟨_,_,ns,ms,rfl,rfl,EX.of (Ag h1).2,EX.of (Ag h3).2,h _ H (A9.refl H) (.bl _)⟩
  ·exact h.elim
 ·exact h.elim
theorem XU {n:Nat}(hu:X.A.units+n<cLine)(ha:DE X WX c a f)(hb:DE X WX c b g):DE X WX c (.Compare a [.Lt] [b] pos) (λ ρ=>(f ρ).bind λ x=>(g ρ).bind λ y=>Qc x y):=LR (OL (by omega)) N8 ha hb (CW _)
theorem Qd {n:Nat}(hu:X.A.units+n<cLine)(ha:DE X WX c a f)(hb:DE X WX c b g):DT X WX (.Compare a [.Lt] [b] pos) (λ ρ=>((f ρ).bind λ x=>(g ρ).bind λ y=>Qc x y).bind KH):=Cs (OL (by omega)) N8 ha hb (CW _)
theorem Qe (hk:DE X WX true a f)(hv:DE X WX true b g):DN X WX (.Dict [some a] [b] pos) (λ ρ=>(f ρ).bind λ k=>(g ρ).bind λ v=>if keyOk false k=true then .ok (.AS false [k] [.sh v]) else .bad):=by
 obtain⟨tk,k1,k2⟩:=hk;obtain⟨tv,v1,v2⟩:=hv;refine⟨_,Rr (OV k1 v1 Rq) rfl rfl (by simp) (by simp),λ P0 P σ H Q ρ E h p hp=>?_⟩;dsimp only at h;have hn:∀a∈[p],H a=none:=λ a ha=>by rw[zl.mp ha];exact hp
 have s0:A9 H (upd H p (.dK [])):=Ay hp _;have E1:Ac X.K P0 (PU P [p]) (upd H p (.dK [])) σ ρ:=E.more s0 Jt (λ a ha=>ha.elim (λ z=>(E.BG a z).same s0) λ z=>by
  rw[zl.mp z];exact⟨_,Ae,λ _=>⟨λ z=>(by cases z),λ _ z=>by cases z⟩⟩) (Cw s0 hn)
 refine k2 P0 (PU P [p]) σ _ _ ρ E1 ?_;cases q:f ρ with
 |bad=>rw[q] at h;exact h
 |ex x=>rw[q] at h;exact λ H' s=>h H' (s0.trans s)
 |ok k =>
  rw[q] at h;simp only[M.A7] at h;intro y H2 s2 hy;have E2:=E1.same s2;refine v2 P0 (PU P [p]) σ H2 _ ρ E2 ?_;cases q2:g ρ with
  |bad=>rw[q2] at h;exact h
  |ex x=>rw[q2] at h;exact λ H' s=>h H' ((s0.trans s2).trans s)
  |ok d =>
   rw[q2] at h;simp only[M.A7] at h;intro w H3 s3 hw;by_cases hc:keyOk false k=true
   ·rw[if_pos hc] at h;have hK:=Dg hc;cases hK with
    |k κ =>
     have ey:=hy.U7;subst ey;refine⟨s3 _ _ (s2 _ _ Ae),[(κ,w)],rfl,by simp,?_⟩;have s4:A9 H (upd H3 p (.dK (D1 [] [(κ,w)]))):=λ a o ha=>by
      rw[A5 (λ z=>by rw[z,hp] at ha;cases ha)];exact s3 _ _ (s2 _ _ (s0 _ _ ha))
     have s5:A9 (del H3 (PU P [p])) (del (upd H3 p (.dK (D1 [] [(κ,w)]))) (PU P [p])):=λ a o ha=>by
      obtain⟨n1,n2⟩:=Ag ha;rw[Ao n1,A5 (λ z=>n1 (.inr (by rw[z];exact zl.mpr rfl)))];exact n2
     refine h _ [p] _ s4 hn (by simp) ?_;have e1:D1 [] [(κ,w)]=[(κ,w)]:=rfl;rw[e1] at s5 ⊢;exact .dK (kvs:=[(κ,w)]) Ae (.cons (.sh (hw.mono s5)) .nil)
   ·rw[if_neg hc] at h;exact h.elim
end
theorem BE {K:zc}{mg:Str->Option Value}{h:Heap}{x:Str}{st:Stmt}{ps:List Str}(X:K.In h)(G:h.Ns mainGlobals mg)(p:FP K x st)(hb:∀(kV dc pm:Value) (an:Option Addr) (cd ct:Value) (us:List Value),us.length=ps.length->bindArgs (zP x x (AO st) (AA st) (A4 st) .none kV dc pm an cd ct) ⟨us,[]⟩=pure (ps.zip us):=by first | exact (λ _ _ _ _ _ _ us hl=>match us,hl with | [_],_=>rfl) | exact (λ _ _ _ _ _ _ us hl=>match us,hl with | [_,_],_=>rfl) | exact (λ _ _ _ _ _ _ us hl=>match us,hl with | [_,_,_],_=>rfl) | exact (λ _ _ _ _ _ _ us hl=>match us,hl with | [_,_,_,_],_=>rfl)):B7 K mg x st ps:=by
 obtain⟨f,oc,od,an,sl,kV,dc,pm,cd,ct,a,l,c,k⟩:=p.ex;have F:=LM (st:=st) l c k;exact⟨⟨_,_,F,PySem.W.mg_of X G a,F.binds hb⟩⟩
theorem Yi {K:zc}{C:Addr}{x m qual:Str}{st:Stmt}{ps:List Str}(aC:zi K mainGlobals x=some (some (.ref C)))(cl:Y2 K C)(p:MP K C m qual st)(hb:∀(kV dc pm:Value) (an:Option Addr) (cd ct:Value) (us:List Value),us.length=ps.length->bindArgs (zP m qual (AO st) (AA st) (A4 st) .none kV dc pm an cd ct) ⟨us,[]⟩=pure (ps.zip us):=by first | exact (λ _ _ _ _ _ _ us hl=>match us,hl with | [_],_=>rfl) | exact (λ _ _ _ _ _ _ us hl=>match us,hl with | [_,_],_=>rfl) | exact (λ _ _ _ _ _ _ us hl=>match us,hl with | [_,_,_],_=>rfl) | exact (λ _ _ _ _ _ _ us hl=>match us,hl with | [_,_,_,_],_=>rfl)):Wt K x m qual st ps:=by
 obtain⟨f,oc,od,an,sl,kV,dc,pm,cd,ct,a,i,l,c,k⟩:=p.ex;have F:=LM (st:=st) l c k;exact⟨⟨_,_,_,aC,cl,⟨a,i,k⟩,F,F.binds hb⟩⟩
open PySem PySem.W PySem.Calls PyProof.Rows
noncomputable def R0:Rn:=⟨topRun,Heap.nsMap,importEnds,fenceModules?,PySem.start,treeTable⟩
theorem Uq:R0=R1:=by
 unfold R0 R1;rw[PySem.W.Fast.te14082659384304107361,PySem.W.Fast.te8920871248978507458,PySem.W.Fast.te10274390034422433532,PySem.W.Fast.te14289696077712309145,PySem.W.Fast.te1435165496053646825,PySem.W.Fast.te14364793385576792824]
theorem N9 (p:Program)(w:World)(N:Nat):openEnds treeTable p w N=Gd R0 p w N:=by
 unfold openEnds fencedOpening Gd;rfl
theorem HF {h:Heap}{a:Addr}{o:Obj}:∀ {as:List Addr},(WJ h as).lookup a=some o->h.get? a=some o
 |[],e=>by cases e
 |b::r,e=>by
  unfold WJ at e;rw[List.filterMap_cons] at e;cases q:h.get? b with
  |none=>rw[q] at e;exact HF (as:=r) e
  |some u =>
   rw[q] at e;dsimp only [ya] at e;rw[List.lookup_cons] at e;cases c:a==b with
   |true=>rw[c] at e;cases e;rw[eq_of_beq c];exact q
   |false=>rw[c] at e;exact HF (as:=r) e
def Wu (h h':Heap):Prop:=∀(b:Addr) (o:Obj),h.get? b=some o->h'.get? b=some o
theorem Ur {h h':Heap}{as:List Addr}(s:Wu h h'):(WJ h as).In h':=λ a o e=>s a o (HF e)
theorem S2 {p q:Program}{Xt:Shared->Bool}{N:Nat}(h:∀w:World,(openEnds treeTable p w N).map (λ s=>openSeen q [] (importedModules p.main.body) Xt true s)=some (openGood q [])):LeftO p q [] Xt (λ s=>s.heap) (λ w=>Ol R0 p w N) N:=λ w=>by
 have e:=h w;unfold Ol;dsimp only;rw[<-N9];cases q':openEnds treeTable p w N with
 |none=>rw[q'] at e;cases e
 |some s =>
  rw[q'] at e;rw[ya] at e ⊢;dsimp only;rw[zx e]
theorem JQ {α β γ:Type}{o:Option γ}{f:γ->α×β}{a:α×β}(h:o.map (λ s=>(f s).1)=some a.1)(k:o.map (λ s=>(f s).2)=some a.2):o.map f=some a:=by
 cases o with
 |none=>cases h
 |some s =>
  rw[ya] at h k ⊢;exact congrArg some (Prod.ext (zx h) (zx k))
theorem Wv {l:PySem.W.OpenLaw}{n k:Nat}{q:Program}{loose:List Str}{XP:(Str->Option Value)->Heap->Prop}{YP:World->Heap->Prop}{d:DefRec}{K:World->zc}{CX:World->Od}{sp:World->Sp}{x:Str}
 (hn:l.most=some n) (av:n<=sizeLine) (bW:d.params.defaults=[]) (hr:Bv k callerA) (hY:∀(w:World) (h:Heap),YP w h->(K w).In h)
 (F:∀(w:World) (mg:Str->Option Value) (fa:Addr) (h:Heap),(K w).In h->h.Ns mainGlobals mg->mg d.name=some (.ref fa)->∃fd:FuncData,(∀(s:Shared) (u:Value),BindsTo s fd ⟨[u],[]⟩ [(x,u)])/\
  ∀base:Heap,(K w).In base->base.Ns mainGlobals mg->DY l.prog w (K w) mg base (CX w) k fa fd [x] (sp w))
 (bp:∀(w:World) (H:Hp) (a:Addr) (ns:List Int),(∀n∈ns,Sm n)->ns.length<=n->Rl H->C1 (K w) H a (ns.map V.int)->sp w [.ref a] H (λ v _=>v=.bl true) λ _ _ _=>False)
 (c9:∀(w:World) (H:Hp) (s:Shared) (e:Value) (s':Shared),CX w [] H s (λ _ _ _=>False) e s'->False):PySem.W.WalkO q loose XP YP l.row.toRowW d [] (λ f vs=>PySem.call f vs):=by
 refine HT.IS hn bW λ w s₀ s₁ mg mb fa o pm cd doc a vs ns bg G Y ho hd a4 bX bf az hlen hg=>?_;have KX:=hY w _ Y;obtain⟨fd,hb,hF⟩:=F w mg fa _ KX G.T.g bX;exact Ku KX G.T.g G.T.b G.T.builtins G.T.nolimit hg bf az (zY hlen av) hr hF hb (λ H hO hS=>bp w H a ns bg hlen hO hS) λ H e s'=>c9 w H s₁ e s'
noncomputable def cst:Option (Int×Int)->D
 |none=>.Aw
 |some p=>.tup [.int p.1,.int p.2]
noncomputable def Bz:Option (Int×Int)->Option (Int×Int)->Option (Int×Int)
 |some p,some q=>some (p.1+q.1,p.2+q.2)
 |_,_=>none
noncomputable def Ww (p q:Int×Int):Int×Int:=if p.1<q.1\/(p.1=q.1/\p.2<=q.2) then p else q
noncomputable def QN:Option (Int×Int)->Option (Int×Int)->Option (Int×Int)
 |none,b=>b
 |some p,none=>some p
 |some p,some q=>some (Ww p q)
noncomputable abbrev Co:=Option (Int×Int)
def BF:Co->Co->Prop
 |_,none=>True
 |none,some _=>False
 |some p,some q=>p.1<q.1\/(p.1=q.1/\p.2<=q.2)
theorem BA:∀a:Co,BF a a
 |none=>trivial
 |some p=>.inr ⟨rfl,Int.le_refl _⟩
theorem AI:∀ {a b c:Co},BF a b->BF b c->BF a c
 |_,_,none,_,_=>trivial
 |none,none,some _,_,h|some _,none,some _,_,h|none,some _,some _,h,_=>h.elim
 |some p,some q,some r,h1,h2=>by simp only[BF] at *;omega
theorem L0:∀ {a b:Co},BF a b->BF b a->a=b
 |none,none,_,_=>rfl
 |none,some _,h,_|some _,none,_,h=>h.elim
 |some p,some q,h1,h2=>by
  obtain⟨p1,p2⟩:=p;obtain⟨q1,q2⟩:=q;simp only[BF] at h1 h2;have e1:p1=q1:=by omega
  have e2:p2=q2:=by omega
  rw[e1,e2]
theorem Fx:∀a b:Co,(QN a b=a/\BF a b)\/(QN a b=b/\BF b a/\a≠b)
 |none,none=>.inl ⟨rfl,trivial⟩
 |none,some q=>.inr ⟨rfl,trivial,λ h=>by cases h⟩
 |some p,none=>.inl ⟨rfl,trivial⟩
 |some p,some q=>by
  unfold QN Ww;by_cases h:p.1<q.1\/(p.1=q.1/\p.2<=q.2)
  ·dsimp only;rw[if_pos h];exact .inl ⟨rfl,h⟩
  ·dsimp only;rw[if_neg h];refine .inr ⟨rfl,?_,λ e=>?_⟩
   ·simp only[BF];omega
   ·cases e;exact h (.inr ⟨rfl,Int.le_refl _⟩)
theorem JR (a b:Co):BF (QN a b) a:=by
 rcases Fx a b with ⟨e,h⟩|⟨e,h,_⟩
 ·rw[e];exact BA a
 ·rw[e];exact h
theorem JS (a b:Co):BF (QN a b) b:=by
 rcases Fx a b with ⟨e,h⟩|⟨e,h,_⟩
 ·rw[e];exact h
 ·rw[e];exact BA b
def NN:Co->Prop
 |none=>True
 |some p=>0<=p.1/\0<=p.2
def ltN (a b:Co):Prop:=NN a/\BF a b/\a≠b
theorem IZ (a b c:Co)(h1:ltN a b)(h2:ltN b c):ltN a c:=
 ⟨h1.1,AI h1.2.1 h2.2.1,λ e=>by subst e;exact h1.2.2 (L0 h1.2.1 h2.2.1)⟩
noncomputable def rank:Co->Nat×Nat×Nat
 |none=>(1,0,0)
 |some p=>(0,p.1.toNat,p.2.toNat)
theorem Us:∀a:Co,NN a->Acc ltN a:=by
 have wf:WellFounded (InvImage (Prod.Lex (· < ·) (Prod.Lex (· < ·) (· < ·))) rank):=InvImage.wf rank (Prod.lex Nat.lt_wfRel (Prod.lex Nat.lt_wfRel Nat.lt_wfRel)).wf;intro a;induction a using wf.induction with
 |h a ih =>
  intro ha;refine .intro _ λ b ⟨hb,hl,ac⟩=>ih b ?_ hb;cases b with
  |none=>cases a with
   |none=>exact (ac rfl).elim
   |some p=>exact hl.elim
  |some q=>cases a with
   |none=>exact Prod.Lex.left _ _ (by decide)
   |some p =>
    obtain⟨p1,p2⟩:=p;obtain⟨q1,q2⟩:=q;simp only[BF,NN] at hl ha hb;show Prod.Lex _ _ (0,q1.toNat,q2.toNat) (0,p1.toNat,p2.toNat);refine Prod.Lex.right _ ?_;by_cases h:q1<p1
    ·exact Prod.Lex.left _ _ (by omega)
    ·have e:q1=p1:=by omega
     subst e;have h2:q2≠p2:=λ e=>ac (by rw[e]);exact Prod.Lex.right _ (by omega)
theorem S3 (a:Co):Acc ltN a:=.intro _ λ b h=>Us b h.1
theorem O2 (cs:List Co):Acc (GO ltN) cs:=GP ltN S3 cs.length cs rfl
structure Road where
 a:Int
 b:Int
 l:Option Int
 w:Int
noncomputable def CU:Option Int->D
 |none=>.Aw
 |some i=>.int i
noncomputable def JT (r:Road):D:=.tup [.int r.a,.int r.b,CU r.l,.int r.w]
noncomputable def Ap (m:Int)(rs:List Road):D:=.tup [.int m,.lst (rs.map JT)]
noncomputable def Ia (r:Road):Co:=match r.l with | none=>none | some l=>some (l,1)
structure FO (m:Nat)(r:Road):Prop where
 a0:0<=r.a
 a1:r.a<m
 b0:0<=r.b
 b1:r.b<m
 l0:∀l,r.l=some l->0<=l
noncomputable def atC (cs:List Co)(i:Int):Co:=cs.getD i.toNat none
theorem Ut {n:Nat}(c:Co):Pl (n+1) (cst c):=by
 cases c with
 |none=>exact Po
 |some p=>exact Jq (Bu (BC _) (Bu (BC _) Jr))
theorem S4 (c:Co):IU (cst c)=true:=by
 cases c<;>simp[cst,IU,Py]
theorem Mf (c:Co):dp (.ok (cst c))=.ok (cst c):=by
 unfold dp;rw[M.A7,if_pos (S4 c)]
theorem Uu {n:Nat}(l:Option Int):Pl n (CU l):=by
 cases l with
 |none=>exact Po
 |some i=>exact BC i
theorem Wx (r:Road):Pl 1 (JT r):=Jq (Bu (BC _) (Bu (BC _) (Bu (Uu r.l) (Bu (BC _) Jr))))
theorem Uv (m:Int)(rs:List Road):Pl 3 (Ap m rs):=Jq (Bu (BC _) (Bu (Pp λ d hd=>by
 obtain⟨r,_,rfl⟩:=List.mem_map.mp hd;exact Wx r) Jr))
theorem AU {a b:Int}(h:0<b):Eh (.int a) (.int b)=.ok (.int (a%b)):=by
 unfold Eh AQ;dsimp only;rw[if_pos h]
theorem Fy {a b:Int}(h:Ko a b):IL (.int a) (.int b)=.ok (.int (a / b)):=by
 unfold IL AQ;dsimp only;rw[if_pos h]
inductive Wk (rs:List Road):Int->Int->Int×Int->Prop
 |nil (u:Int):Wk rs u u (0,0)
 |cons {r:Road} {l:Int} {w:Int} {c:Int×Int}:r∈rs->r.l=some l->Wk rs r.b w c->Wk rs r.a w (l+c.1,1+c.2)
theorem Wk.trans {rs:List Road}{u v w:Int}{c d:Int×Int}(h:Wk rs u v c)(k:Wk rs v w d):Wk rs u w (c.1+d.1,c.2+d.2):=by
 induction h with
 |nil u=>simpa using k
 |cons hr hl _ ih =>
  have:=Wk.cons hr hl (ih k);simpa [Int.add_assoc] using this
theorem Wk.one {rs:List Road}{r:Road}{l:Int}(hr:r∈rs)(hl:r.l=some l):Wk rs r.a r.b (l,1):=by
 have:=Wk.cons hr hl (Wk.nil (rs:=rs) r.b);simpa using this
theorem L1 {r:Road}{c:Int×Int}(h:Ia r=some c):∃l,r.l=some l/\c=(l,1):=by
 unfold Ia at h;split at h
 ·cases h
 ·rename_i l e;cases h;exact⟨l,e,rfl⟩
theorem J0 {a b:Co}{c:Int×Int}(h:Bz a b=some c):∃p q,a=some p/\b=some q/\c=(p.1+q.1,p.2+q.2):=by
 cases a with
 |none=>cases h
 |some p=>cases b with
  |none=>cases h
  |some q=>cases h;exact⟨p,q,rfl,rfl,rfl⟩
noncomputable def hit (rs:List Road)(cs:List Co)(p:Nat)(k:Nat):Bool:=match rs[k]? with
 |some r=>decide (r.b=(p:Int))&&decide (Bz (atC cs r.a) (Ia r)≠none)&&decide (Bz (atC cs r.a) (Ia r)=atC cs (p:Int))
 |none=>false
theorem Wk.nn {m:Nat}{rs:List Road}(An:∀r∈rs,FO m r){u w:Int}{c:Int×Int}(h:Wk rs u w c):0<=c.1/\0<=c.2:=by
 induction h with
 |nil=>exact⟨Int.le_refl _,Int.le_refl _⟩
 |cons hr hl _ ih =>
  have:=(An _ hr).l0 _ hl;simp only;omega
noncomputable def pD (p:Int×Int):D:=.tup [.int p.1,.int p.2]
theorem Fz (p q:Int×Int):Aj (pD p) (pD q)=decide (p=q):=by
 obtain⟨a,b⟩:=p;obtain⟨c,d⟩:=q;unfold pD;simp only[Aj,BB,Bool.and_true];rw[Bool.eq_iff_iff];simp
theorem HG (p:Int×Int):keyOk true (pD p)=true:=rfl
theorem DR {α:Type}[DecidableEq α]:∀ {l u:List α},l.Nodup->(∀x∈l,x∈u)->l.length<=u.length
 |[],_,_,_=>zR _
 |x::r,u,nd,h=>by
  have aR:=zV.mp nd;have hx:=h x zd;have ih:=DR (l:=r) (u:=u.erase x) aR.2 λ y hy=>(List.mem_erase_of_ne (λ z=>aR.1 (by rw[<-z];exact hy))).mpr (h y (zf _ hy));have e:=List.length_erase_of_mem hx;have:0<u.length:=List.length_pos_of_mem hx;rw[zt];omega
noncomputable def B2 (m:Nat):List Int:=(yt m).map λ i:Nat=>(i:Int)
theorem L3 (m:Nat):(B2 m).length=m:=by unfold B2;simp
theorem L4 {m:Nat}{p:Int}:p∈B2 m↔0<=p/\p<m:=by
 unfold B2;constructor
 ·intro h;obtain⟨i,hi,rfl⟩:=List.mem_map.mp h;have:=List.mem_range.mp hi;omega
 ·rintro ⟨h0,h1⟩;exact List.mem_map.mpr ⟨p.toNat,List.mem_range.mpr (by omega),by omega⟩
def Uw (B:List (Int×Int)):Prop:=∀x,(x,x)∉B
structure Mg (m:Nat)(B:List (Int×Int)):Prop where
 nd:B.Nodup
 no:Uw B
 YB:∀p∈B,(0<=p.1/\p.1<m)/\(0<=p.2/\p.2<m)
theorem Mg.len {m:Nat}{B:List (Int×Int)}(h:Mg m B)(hm:m<=20):B.length<1000:=by
 have key:=DR (l:=B) (u:=(yt m).flatMap λ i:Nat=>(yt m).map λ j:Nat=>((i:Int),(j:Int))) h.nd λ p hp=>by
  obtain⟨h1,h2⟩:=h.YB p hp;refine List.mem_flatMap.mpr ⟨p.1.toNat,List.mem_range.mpr (by omega),List.mem_map.mpr ⟨p.2.toNat,List.mem_range.mpr (by omega),?_⟩⟩;rw[Int.toNat_of_nonneg h1.1,Int.toNat_of_nonneg h2.1]
 have e:((yt m).flatMap λ i:Nat=>(yt m).map λ j:Nat=>((i:Int),(j:Int))).length=m*m:=by
  rw[List.length_flatMap];simp[List.map_const',List.sum_replicate_nat]
 rw[e] at key;have:m*m<=20*20:=Nat.mul_le_mul hm hm;omega
theorem Ux (a b c d:Int):HT.lexLt [a,b] [c,d]=decide (a<c\/(a=c/\b<d)):=by
 rw[HT.Ed,HT.Ed,HT.E6,Bool.eq_iff_iff];by_cases h1:a=c
 ·subst h1;by_cases h2:b=d
  ·subst h2;simp
  ·simp[h2]
 ·simp[h1]
theorem FA {f:Int->Int->M D}{a b:Int}:AQ f (.int a) (.int b)=f a b:=rfl
theorem EQ {bs:List Bool}:M3 [.lst (bs.map D.bl)]=.ok (.bl (bs.all id)):=by unfold M3;dsimp only;rw[GH]
theorem HH {bs:List Bool}:Wf [.lst (bs.map D.bl)]=.ok (.bl (bs.any id)):=by unfold Wf;dsimp only;rw[GH]
theorem Mh (m:Nat):(B2 m).Nodup:=by
 unfold B2 List.Nodup;rw[List.pairwise_map];exact (List.pairwise_lt_range (n:=m)).imp λ h=>by omega
theorem Qf {m:Nat}{L:List Int}(h:L.Perm (B2 m)):L.length=m:=by rw[h.length_eq,L3]
theorem Bk {m:Nat}{L:List Int}(h:L.Perm (B2 m)){p:Int}:p∈L↔0<=p/\p<m:=by rw[h.mem_iff,L4]
theorem CC {m:Nat}{L:List Int}(h:L.Perm (B2 m)):L.Nodup:=h.nodup_iff.mpr (Mh m)
theorem O3 {i:Nat}{L:List Int}(h:L.Perm (B2 i))(n:Nat):(L.take n++(i:Int)::L.drop n).Perm (B2 (i+1)):=by
 have e:B2 (i+1)=B2 i++[(i:Int)]:=by unfold B2;rw[List.range_succ,zW];rfl
 rw[e];refine List.perm_middle.trans ?_;rw[List.take_append_drop];exact ((h.cons _).trans (List.perm_append_singleton _ _).symm)
theorem Uy {ρ:A6}:PH 0 (none::ρ)=none::ρ:=rfl
def cl:Nat->D->Prop
 |0,d=>Wa d=false
 |n+1,d=>Wa d=false/\∀ds,(d=.tup ds\/d=.lst ds)->∀e∈ds,cl n e
section
variable {α β:Type}{a b c d e f g:α}{x y:β}
theorem Uz:(if [a,b,c,d,e].length<=1000 then x else y)=x:=rfl
theorem UA:(if [a,b,c,d,e,f].length<=1000 then x else y)=x:=rfl
theorem UB:(if [a,b,c,d,e,f,g].length<=1000 then x else y)=x:=rfl
theorem JU {t:Bool}:er (.AS t [] [])=.AS t [] []:=by simp[er,OY]
end
structure YC (m:Nat)(rs:List Road)(rk:Int->Nat)(Af:Int->Int->Co):Prop where
 snd:∀x y c,Af x y=some c->Wk rs x y c/\x≠y/\(0<=x/\x<m)/\0<=y/\y<m
 road:∀r∈rs,BF (Af r.a r.b) (Ia r)
 Wy:∀p x y,x≠y->rk p<rk x->rk p<rk y->BF (Af x y) (Bz (Af x p) (Af p y))
 inj:∀x y:Int,0<=x->x<m->0<=y->y<m->rk x=rk y->x=y
 nn:∀x y c,Wk rs x y c->0<=c.1/\0<=c.2
inductive Vg (Af:Int->Int->Co) (rk:Int->Nat) (s:Int):Int->Int×Int->Prop
 |nil:Vg Af rk s s (0,0)
 |snoc {x y:Int} {c d:Int×Int}:Vg Af rk s x c->rk x<rk y->Af x y=some d->Vg Af rk s y (c.1+d.1,c.2+d.2)
inductive Vh (Af:Int->Int->Co) (rk:Int->Nat) (t:Int):Nat->Int->Int×Int->Prop
 |nil:Vh Af rk t 0 t (0,0)
 |snoc {n:Nat} {x y:Int} {c d:Int×Int}:Vh Af rk t n x c->rk y<rk x->Af x y=some d->Vh Af rk t (n+1) y (c.1+d.1,c.2+d.2)
def Oj (p q:Int×Int):Prop:=p.1<q.1\/(p.1=q.1/\p.2<=q.2)
theorem JV {a:Co}{q:Int×Int}(h:BF a (some q)):∃p,a=some p/\Oj p q:=by
 cases a with
 |none=>exact h.elim
 |some p=>exact⟨p,rfl,h⟩
def UD (Af:Int->Int->Co)(rk:Int->Nat)(s w:Int)(c:Int×Int):Prop:=∃t n c1 c2,Vg Af rk s t c1/\Vh Af rk t n w c2/\Oj (c1.1+c2.1,c1.2+c2.2) c
section
variable {κ β:Type} [DecidableEq κ]
noncomputable def Ax:List (κ×β)->κ->Option β
 |[],_=>none
 |(k,v)::r,x=>if k=x then some v else Ax r x
noncomputable def B3 (A:List (κ×β))(k:κ)(v:β):List (κ×β):=if (Ax A k).isSome=true then A.map λ kv=>if kv.1=k then (kv.1,v) else kv else A++[(k,v)]
theorem JW (k j:κ)(v:β):∀A:List (κ×β),Ax (A.map λ kv=>if kv.1=k then (kv.1,v) else kv) j=if j=k then (Ax A j).map λ _=>v else Ax A j
 |[]=>by simp[Ax]
 |(k',v')::r=>by
  rw[zj];by_cases h1:k'=k
  ·rw[if_pos h1];subst h1;simp only[Ax];by_cases h2:k'=j
   ·subst h2;simp
   ·rw[if_neg h2,if_neg h2,JW k' j v r]
  ·rw[if_neg h1];simp only[Ax];by_cases h2:k'=j
   ·subst h2;rw[if_pos rfl,if_pos rfl,if_neg h1]
   ·rw[if_neg h2,if_neg h2,JW k j v r]
theorem L5 (k j:κ)(v:β):∀A:List (κ×β),Ax A k=none->Ax (A++[(k,v)]) j=if j=k then some v else Ax A j
 |[],_=>by
  simp only[List.nil_append,Ax];by_cases h:k=j
  ·subst h;simp
  ·rw[if_neg h,if_neg (zU h)]
 |(k',v')::r,h=>by
  simp only[Ax] at h;by_cases h1:k'=k
  ·rw[if_pos h1] at h;cases h
  ·rw[if_neg h1] at h;rw[yC];simp only[Ax];rw[L5 k j v r h];by_cases h2:k'=j
   ·subst h2;rw[if_pos rfl,if_pos rfl,if_neg h1]
   ·rw[if_neg h2,if_neg h2]
theorem C5 (A:List (κ×β))(k j:κ)(v:β):Ax (B3 A k v) j=if j=k then some v else Ax A j:=by
 unfold B3;by_cases h:(Ax A k).isSome=true
 ·rw[if_pos h,JW];by_cases hj:j=k
  ·subst hj;rw[if_pos rfl,if_pos rfl];obtain⟨x,hx⟩:=y8.mp h;rw[hx];rfl
  ·rw[if_neg hj,if_neg hj]
 ·rw[if_neg h];exact L5 k j v A (by cases e:Ax A k with|none=>rfl|some x=>rw[e] at h;exact (h rfl).elim)
theorem C6:∀ {A:List (κ×β)}{k:κ},(Ax A k).isSome=true↔k∈A.map zF
 |[],k=>by simp[Ax]
 |(k',v')::r,k=>by
  simp only[Ax,zj,zo];by_cases h:k'=k
  ·rw[if_pos h];simp[h]
  ·rw[if_neg h,C6];simp[zU h]
theorem Qg {A:List (κ×β)}{k:κ}:Ax A k=none↔k∉A.map zF:=by
 rw[<-C6];cases Ax A k<;>simp
theorem L6 (A:List (κ×β))(k:κ)(v:β):(B3 A k v).map zF=if (Ax A k).isSome=true then A.map zF else A.map zF++[k]:=by
 unfold B3;split
 ·rw[List.map_map];refine List.map_congr_left λ kv _=>?_;dsimp only [Function.comp];split<;>rfl
 ·rw[zW];rfl
theorem DU {A:List (κ×β)}{k:κ}{v:β}(h:(A.map zF).Nodup):((B3 A k v).map zF).Nodup:=by
 rw[L6];split
 ·exact h
 ·rename_i hn;rw[C6] at hn;rw[zJ];exact⟨h,by simp,λ x hx y hy=>by rw[zl.mp hy];exact λ e=>hn (e▸hx)⟩
theorem HI {A:List (κ×β)}{k x:κ}{v:β}(h:x∈(B3 A k v).map zF):x∈A.map zF\/x=k:=by
 rw[L6] at h;split at h
 ·exact .inl h
 ·rcases zE.mp h with h|h
  ·exact .inl h
  ·exact .inr (zl.mp h)
theorem Qh:∀ {A:List (κ×β)}{k:κ}{v:β},Ax A k=some v->(k,v)∈A
 |(k',v')::r,k,v,h=>by
  simp only[Ax] at h;split at h
  ·rename_i e;cases h;subst e;exact zd
  ·exact zf _ (Qh h)
theorem JX:∀ {A:List (κ×β)}{k:κ}{v:β},(A.map zF).Nodup->(k,v)∈A->Ax A k=some v
 |(k',v')::r,k,v,hn,h=>by
  rw[zj,zV] at hn;simp only[Ax];rcases zo.mp h with e|h
  ·cases e;rw[if_pos rfl]
  ·have:k'≠k:=λ e=>hn.1 (e▸List.mem_map.mpr ⟨_,h,rfl⟩);rw[if_neg this];exact JX hn.2 h
variable {kf:κ->D}{vf:β->D}(he:∀a b,Aj (kf a) (kf b)=decide (a=b))
include he
theorem HJ (A:List (κ×β))(k:κ):Jw (A.map λ kv=>kf kv.1) (kf k)=(Ax A k).isSome:=by
 induction A with
 |nil=>rfl
 |cons kv r ih =>
  obtain⟨k',v'⟩:=kv;unfold Jw at ih ⊢;rw[zj,y4,ih,he];simp only[Ax];by_cases h:k'=k
  ·rw[if_pos h,decide_eq_true h];rfl
  ·rw[if_neg h,decide_eq_false h];rfl
theorem HK (A:List (κ×β))(k:κ):EJ (A.map λ kv=>kf kv.1) (A.map λ kv=>vf kv.2) (kf k)=(Ax A k).map vf:=by
 induction A with
 |nil=>rfl
 |cons kv r ih =>
  obtain⟨k',v'⟩:=kv;rw[zj,zj,EJ,he,ih];simp only[Ax];by_cases h:k'=k
  ·rw[decide_eq_true h,if_pos rfl,if_pos h];rfl
  ·rw[decide_eq_false h,if_neg zD,if_neg h]
theorem Qi (k:κ)(v:β)(A:List (κ×β)):FW (A.map λ kv=>kf kv.1) (A.map λ kv=>vf kv.2) (kf k) (vf v)=(A.map λ kv=>if kv.1=k then (kv.1,v) else kv).map λ kv=>vf kv.2:=by
 induction A with
 |nil=>rfl
 |cons kv r ih =>
  obtain⟨k',v'⟩:=kv;rw[zj,zj,FW,he,ih,zj,zj];by_cases h:k'=k
  ·rw[decide_eq_true h,if_pos rfl,if_pos h]
  ·rw[decide_eq_false h,if_neg zD,if_neg h]
theorem ER (A:List (κ×β))(k:κ)(v:β):putD (A.map λ kv=>kf kv.1) (A.map λ kv=>vf kv.2) (kf k) (vf v)=((B3 A k v).map (λ kv=>kf kv.1),(B3 A k v).map λ kv=>vf kv.2):=by
 unfold putD B3;rw[HJ he];by_cases h:(Ax A k).isSome=true
 ·rw[if_pos h,if_pos h,Qi he];refine Prod.ext ?_ rfl;dsimp only;rw[List.map_map];refine List.map_congr_left λ kv _=>?_;dsimp only [Function.comp];split<;>rfl
 ·rw[if_neg h,if_neg h,zW,zW];rfl
end
theorem HL (a b:Int):Aj (.int a) (.int b)=decide (a=b):=by
 simp only[Aj];by_cases h:a=b
 ·subst h;simp
 ·simp[h]
noncomputable abbrev LA:=List ((Int×Int)×((Int×Int)×Option Int))
noncomputable def Qj (v:(Int×Int)×Option Int):D:=.tup [cst (some v.1),CU v.2]
noncomputable def QO (A:LA):D:=.AS true (A.map λ kv=>pD kv.1) (A.map λ kv=>Qj kv.2)
noncomputable def FC (A:LA):OT:=.AS true (A.map λ kv=>pD kv.1) ((A.map λ kv=>Qj kv.2).map .sh)
noncomputable def A3 (A:LA)(p:Int×Int):Co:=(Ax A p).map zF
noncomputable def layA (A:LA)(p:Int×Int)(c:Co)(mid:Option Int):LA:=match c with
 |none=>A
 |some c=>(match Ax A p with
  |none=>B3 A p (c,mid)
  |some z=>if c.1<z.1.1\/(c.1=z.1.1/\c.2<z.1.2) then B3 A p (c,mid) else A)
theorem Dk (A:LA)(p q:Int×Int)(c:Co)(mid:Option Int):A3 (layA A p c mid) q=if q=p then QN (A3 A p) c else A3 A q:=by
 unfold layA A3;cases c with
 |none =>
  by_cases h:q=p
  ·subst h;rw[if_pos rfl];cases Ax A q<;>rfl
  ·rw[if_neg h]
 |some c =>
  cases e:Ax A p with
  |none =>
   dsimp only;rw[C5];by_cases h:q=p
   ·rw[if_pos h,if_pos h];rfl
   ·rw[if_neg h,if_neg h]
  |some z =>
   dsimp only;by_cases hc:c.1<z.1.1\/(c.1=z.1.1/\c.2<z.1.2)
   ·rw[if_pos hc,C5];by_cases h:q=p
    ·rw[if_pos h,if_pos h];simp only[ya,QN,Ww];rw[if_neg (by omega)]
    ·rw[if_neg h,if_neg h]
   ·rw[if_neg hc];by_cases h:q=p
    ·subst h;rw[if_pos rfl,e];simp only[ya,QN,Ww];rw[if_pos (by omega)]
    ·rw[if_neg h]
theorem Mi (A:LA)(p q:Int×Int)(c:Co)(mid:Option Int):BF (A3 (layA A p c mid) q) (A3 A q):=by
 rw[Dk];split
 ·rename_i h;subst h;exact JR _ _
 ·exact BA _
theorem Qk {A:LA}{p x:Int×Int}{c:Co}{mid:Option Int}(h:x∈(layA A p c mid).map zF):x∈A.map zF\/x=p:=by
 unfold layA at h;split at h
 ·exact .inl h
 ·split at h
  ·exact HI h
  ·split at h
   ·exact HI h
   ·exact .inl h
theorem O4 {A:LA}{p:Int×Int}{c:Co}{mid:Option Int}(h:(A.map zF).Nodup):((layA A p c mid).map zF).Nodup:=by
 unfold layA;split
 ·exact h
 ·split
  ·exact DU h
  ·split
   ·exact DU h
   ·exact h
noncomputable def Ga (p u:Int)(A:LA)(w:Int):LA:=if u=w then A else layA A (u,w) (Bz (A3 A (u,p)) (A3 A (p,w))) (some p)
noncomputable def O5 (p:Int)(H:List Int)(A:LA)(u:Int):LA:=H.foldl (Ga p u) A
noncomputable def QP (A:LA)(p:Int)(H:List Int):LA:=H.foldl (O5 p H) A
noncomputable def Ib:LA->List Int->LA
 |A,[]=>A
 |A,p::r=>Ib (QP A p r) r
noncomputable def lay0 (rs:List Road):LA:=rs.foldl (λ A r=>layA A (r.a,r.b) (Ia r) none) []
noncomputable def Al (rs:List Road)(L:List Int):LA:=Ib (lay0 rs) L
structure Dl (m:Nat)(A:LA):Prop where
 nd:(A.map zF).Nodup
 rg:∀p∈A.map zF,p.1≠p.2/\(0<=p.1/\p.1<m)/\0<=p.2/\p.2<m
theorem Dl.lay {m:Nat}{A:LA}(h:Dl m A){p:Int×Int}{c:Co}{mid:Option Int}(hp:p.1≠p.2/\(0<=p.1/\p.1<m)/\0<=p.2/\p.2<m):Dl m (layA A p c mid):=
 ⟨O4 h.nd,λ q hq=>(Qk hq).elim (h.rg q) λ e=>e▸hp⟩
theorem Dl.len {m:Nat}{A:LA}(h:Dl m A)(hm:m<=20):A.length<1000:=by
 have:=Mg.len (B:=A.map zF) (m:=m) ⟨h.nd,λ x hx=>(h.rg _ hx).1 rfl,λ q hq=>⟨(h.rg q hq).2.1,(h.rg q hq).2.2⟩⟩ hm;rwa[zh] at this
theorem Ci {α β:Type}{f:β->α->β}(P:List α->β->Prop):∀ {L pre:List α}{b:β},P pre b->(∀a∈L,∀pre b,P pre b->P (pre++[a]) (f b a))->P (pre++L) (L.foldl f b)
 |[],pre,b,h,_=>by rw[yk];exact h
 |a::L,pre,b,h,hs=>by
  have:=Ci P (L:=L) (hs a zd pre b h) λ x hx=>hs x (zf _ hx);rw[y3] at this;exact this
def S5 (rs:List Road)(A:LA):Prop:=∀x y c,A3 A (x,y)=some c->Wk rs x y c
theorem S5.lay {rs:List Road}{A:LA}(h:S5 rs A){x y:Int}{c:Co}{mid:Option Int}(hc:∀p,c=some p->Wk rs x y p):S5 rs (layA A (x,y) c mid):=λ u w d hd=>by
 rw[Dk] at hd;split at hd
 ·rename_i e;cases e;rcases Fx (A3 A (x,y)) c with ⟨e,_⟩|⟨e,_⟩
  ·rw[e] at hd;exact h _ _ _ hd
  ·rw[e] at hd;exact hc d hd
 ·exact h _ _ _ hd
structure Over (m:Nat)(rs:List Road)(p:Int)(H:List Int)(A0 A:LA):Prop where
 ok:Dl m A
 sd:S5 rs A
 le:∀q,BF (A3 A q) (A3 A0 q)
 sm:∀x y,(x∉H\/y∉H)->A3 A (x,y)=A3 A0 (x,y)
theorem O6 {m:Nat}{rs:List Road}{p:Int}{H:List Int}{A0 A:LA}(hp:p∉H)(hH:∀x∈H,0<=x/\x<m)(h:Over m rs p H A0 A){u w:Int}(hu:u∈H)(hw:w∈H):Over m rs p H A0 (Ga p u A w)/\(u≠w->BF (A3 (Ga p u A w) (u,w)) (Bz (A3 A0 (u,p)) (A3 A0 (p,w)))):=by
 unfold Ga;by_cases e:u=w
 ·rw[if_pos e];exact⟨h,λ z=>(z e).elim⟩
 ·rw[if_neg e];have e1:=h.sm u p (.inr hp);have e2:=h.sm p w (.inl hp);refine⟨⟨h.ok.lay ⟨e,hH u hu,hH w hw⟩,h.sd.lay λ c hc=>?_,λ q=>AI (Mi _ _ _ _ _) (h.le q),λ x y g7=>?_⟩,λ _=>?_⟩
  ·obtain⟨a,b,ha,hb,rfl⟩:=J0 hc;exact (h.sd _ _ _ ha).trans (h.sd _ _ _ hb)
  ·rw[Dk,if_neg (λ z=>by cases z;exact g7.elim (λ q=>q hu) λ q=>q hw)];exact h.sm x y g7
  ·rw[Dk,if_pos rfl,e1,e2];exact JS _ _
theorem SF {p u:Int}{A:LA}{w:Int}(q:Int×Int):BF (A3 (Ga p u A w) q) (A3 A q):=by
 unfold Ga;split
 ·exact BA _
 ·exact Mi _ _ _ _ _
theorem SG {p u:Int}(q:Int×Int):∀(H:List Int) (A:LA),BF (A3 (H.foldl (Ga p u) A) q) (A3 A q)
 |[],A=>BA _
 |w::H,A=>AI (SG q H (Ga p u A w)) (SF q)
theorem UC {m:Nat}{rs:List Road}{p:Int}{H:List Int}{A0 A:LA}(hp:p∉H)(hH:∀x∈H,0<=x/\x<m)(h:Over m rs p H A0 A){u:Int}(hu:u∈H):Over m rs p H A0 (O5 p H A u)/\∀w∈H,u≠w->BF (A3 (O5 p H A u) (u,w)) (Bz (A3 A0 (u,p)) (A3 A0 (p,w))):=by
 unfold O5;have:=Ci (L:=H) (pre:=[]) (f:=Ga p u) (b:=A) (λ W A=>Over m rs p H A0 A/\∀w∈W,u≠w->BF (A3 A (u,w)) (Bz (A3 A0 (u,p)) (A3 A0 (p,w)))) ⟨h,λ w hw=>by cases hw⟩ λ w hw W B hB=>by
  obtain⟨b1,b2⟩:=hB;obtain⟨c1,c2⟩:=O6 hp hH b1 hu hw;refine⟨c1,λ x hx ac=>?_⟩;rcases zE.mp hx with hx|hx
  ·exact AI (SF _) (b2 x hx ac)
  ·rw[zl.mp hx] at ac ⊢;exact c2 ac
 exact this
theorem Ql {m:Nat}{rs:List Road}{p:Int}{H:List Int}{A:LA}(hp:p∉H)(hH:∀x∈H,0<=x/\x<m)(h1:Dl m A)(h2:S5 rs A):Over m rs p H A (QP A p H)/\∀u∈H,∀w∈H,u≠w->BF (A3 (QP A p H) (u,w)) (Bz (A3 A (u,p)) (A3 A (p,w))):=by
 unfold QP;have:=Ci (L:=H) (pre:=[]) (f:=O5 p H) (b:=A) (λ U B=>Over m rs p H A B/\∀u∈U,∀w∈H,u≠w->BF (A3 B (u,w)) (Bz (A3 A (u,p)) (A3 A (p,w)))) ⟨⟨h1,h2,λ q=>BA _,λ x y _=>rfl⟩,λ u hu=>by cases hu⟩ λ u hu U B hB=>by
  obtain⟨b1,b2⟩:=hB;obtain⟨c1,c2⟩:=UC hp hH b1 hu;refine⟨c1,λ x hx w hw ac=>?_⟩;rcases zE.mp hx with hx|hx
  ·exact AI (SG _ H B) (b2 x hx w hw ac)
  ·rw[zl.mp hx] at ac ⊢;exact c2 w hw ac
 exact this
theorem JY {m:Nat}{rs:List Road}(An:∀r∈rs,FO m r/\r.a≠r.b):Dl m (lay0 rs)/\S5 rs (lay0 rs)/\∀r∈rs,BF (A3 (lay0 rs) (r.a,r.b)) (Ia r):=by
 unfold lay0;have:=Ci (L:=rs) (pre:=[]) (f:=λ A r=>layA A (r.a,r.b) (Ia r) none) (b:=[]) (λ W A=>Dl m A/\S5 rs A/\∀r∈W,BF (A3 A (r.a,r.b)) (Ia r)) ⟨⟨by simp,λ p hp=>by cases hp⟩,⟨(λ _ _ _ h=>by cases h),λ r hr=>by cases hr⟩⟩ λ r hr W B hB=>by
  obtain⟨b1,b2,b3⟩:=hB;obtain⟨o1,o2⟩:=An r hr;refine⟨b1.lay ⟨o2,⟨o1.a0,o1.a1⟩,o1.b0,o1.b1⟩,b2.lay λ c hc=>?_,λ x hx=>?_⟩
  ·obtain⟨l,hl,rfl⟩:=L1 hc;exact Wk.one hr hl
  ·rcases zE.mp hx with hx|hx
   ·exact AI (Mi _ _ _ _ _) (b3 x hx)
   ·rw[zl.mp hx,Dk,if_pos rfl];exact JS _ _
 exact this
noncomputable def B0:List Int->Int->Nat
 |[],_=>0
 |a::l,x=>if a=x then 0 else B0 l x+1
theorem L7:∀ {pre post:List Int}{p:Int},p∉pre->B0 (pre++p::post) p=pre.length
 |[],post,p,_=>by simp[B0]
 |a::pre,post,p,h=>by
  rw[zo,not_or] at h;rw[yC,B0,if_neg (zU h.1),L7 h.2];rfl
theorem Qm:∀ {pre post:List Int}{x:Int},x∈pre->B0 (pre++post) x<pre.length
 |a::pre,post,x,h=>by
  rw[yC,B0];by_cases e:a=x
  ·rw[if_pos e];simp
  ·rw[if_neg e,zt];have:=Qm (post:=post) ((zo.mp h).resolve_left (zU e));omega
theorem Na:∀ {pre post:List Int}{x:Int},x∉pre->pre.length<=B0 (pre++post) x
 |[],post,x,_=>zR _
 |a::pre,post,x,h=>by
  rw[zo,not_or] at h;rw[yC,B0,if_neg (zU h.1),zt];have:=Na (post:=post) h.2;omega
theorem JZ:∀ {L:List Int}{x y:Int},x∈L->y∈L->B0 L x=B0 L y->x=y
 |a::l,x,y,hx,hy,e=>by
  rw[B0,B0] at e;by_cases h1:a=x
  ·by_cases h2:a=y
   ·rw[<-h1,<-h2]
   ·rw[if_pos h1,if_neg h2] at e;omega
  ·by_cases h2:a=y
   ·rw[if_neg h1,if_pos h2] at e;omega
   ·rw[if_neg h1,if_neg h2] at e;exact JZ ((zo.mp hx).resolve_left (zU h1)) ((zo.mp hy).resolve_left (zU h2)) (by omega)
theorem UE {L:List Int}{x:Int}(h:B0 L x<L.length):x∈L:=by
 refine Classical.byContradiction λ hn=>?_;have:=Na (pre:=L) (post:=[]) hn;rw[yk] at this;omega
theorem SH:∀(L:List Int) (x:Int),B0 L x<=L.length
 |[],_=>zp _
 |a::l,x=>by
  rw[B0,zt];split
  ·omega
  ·have:=SH l x;omega
theorem Dm:∀ {L:List Int}{p:Int},p∈L->∃pre post,L=pre++p::post/\p∉pre
 |a::l,p,h=>by
  by_cases ha:a=p
  ·subst ha;exact⟨[],l,rfl,by simp⟩
  ·obtain⟨pre,post,e2,hn⟩:=Dm ((zo.mp h).resolve_left (zU ha));exact⟨a::pre,post,by rw[yC,<-e2],by simp[zU ha,hn]⟩
theorem Qn {L:List Int}{p:Int}(h:B0 L p<L.length):∃pre post,L=pre++p::post/\p∉pre/\∀x,B0 L p<B0 L x->x∈L->x∈post:=by
 obtain⟨pre,post,e,hn⟩:=Dm (UE h);refine⟨pre,post,e,hn,λ x hr hx=>?_⟩;subst e;rw[L7 hn] at hr;rcases zE.mp hx with hx|hx
 ·have:=Qm (post:=p::post) hx;omega
 ·rcases zo.mp hx with rfl|hx
  ·rw[L7 hn] at hr;omega
  ·exact hx
theorem UG {m:Nat}{rs:List Road}{L:List Int}(hL:L.Nodup)(hr:∀x∈L,0<=x/\x<m):∀(post pre:List Int) (A:LA),L=pre++post->Dl m A->S5 rs A->(∀r∈rs,BF (A3 A (r.a,r.b)) (Ia r))->
 (∀pa p pb,L=pa++p::pb->pa.length<pre.length->∀x∈pb,∀y∈pb,x≠y->BF (A3 A (x,y)) (Bz (A3 A (x,p)) (A3 A (p,y))))->
 Dl m (Ib A post)/\S5 rs (Ib A post)/\(∀r∈rs,BF (A3 (Ib A post) (r.a,r.b)) (Ia r))/\∀pa p pb,L=pa++p::pb->∀x∈pb,∀y∈pb,x≠y->BF (A3 (Ib A post) (x,y)) (Bz (A3 (Ib A post) (x,p)) (A3 (Ib A post) (p,y))):=by
 intro post;induction post with
 |nil =>
  intro pre A e h1 h2 h3 h4;rw[yk] at e;refine⟨h1,h2,h3,λ pa p pb e2=>h4 pa p pb e2 ?_⟩;rw[<-e,e2,zT,zt];omega
 |cons p post ih =>
  intro pre A e h1 h2 h3 h4;rw[Ib];have hn:(pre++p::post).Nodup:=e▸hL;rw[zJ,zV] at hn;have bZ:∀x∈post,0<=x/\x<m:=λ x hx=>hr x (by rw[e];simp[hx]);obtain⟨o,ov⟩:=Ql (p:=p) hn.2.1.1 bZ h1 h2;refine ih (pre++[p]) (QP A p post) (by rw[e];simp) o.ok o.sd (λ r bI=>AI (o.le _) (h3 r bI)) λ pa q pb e2 ag x hx y hy ac=>?_;rw[zT,yn] at ag;by_cases hq:pa.length<pre.length
  ·-- an du one
   have g8:q∉post:=λ iJ=>by
    have e3:pre++p::post=pa++q::pb:=by rw[<-e,e2]
    have q1:q∈pre:=by
     have:=congrArg (λ l=>l[pa.length]?) e3;rw[yb hq,yl (zp _),Nat.sub_self] at this;exact zk this
    exact hn.2.2 q q1 q (zf _ iJ) rfl
   rw[o.sm x q (.inr g8),o.sm q y (.inl g8)];exact AI (o.le _) (h4 pa q pb e2 hq x hx y hy ac)
  ·have hpl:pa.length=pre.length:=by omega
   have e3:pa++q::pb=pre++p::post:=by rw[<-e2,e]
   obtain⟨rfl,e4⟩:=List.append_inj e3 hpl;cases e4;rw[o.sm x p (.inr hn.2.1.1),o.sm p y (.inl hn.2.1.1)];exact ov x hx y hy ac
theorem Cj {m:Nat}{rs:List Road}{L:List Int}(hL:L.Perm (B2 m))(An:∀r∈rs,FO m r/\r.a≠r.b):Dl m (Al rs L)/\YC m rs (B0 L) (λ x y=>A3 (Al rs L) (x,y)):=by
 have eI:L.Nodup:=CC hL;obtain⟨a1,a2,a3⟩:=JY An;obtain⟨b1,b2,b3,b4⟩:=UG eI (λ x hx=>(Bk hL).mp hx) L [] (lay0 rs) rfl a1 a2 a3 (λ pa p pb _ h=>by simp at h);refine⟨b1,λ x y c h=>?_,b3,λ p x y ac h1 h2=>?_,λ x y x0 x1 y0 y1 e=>JZ ((Bk hL).mpr ⟨x0,x1⟩) ((Bk hL).mpr ⟨y0,y1⟩) e,λ x y c h=>Wk.nn (λ r hr=>(An r hr).1) h⟩
 ·have hm:(x,y)∈(Ib (lay0 rs) L).map zF:=by
   rw[<-C6];unfold A3 at h;cases q:Ax (Al rs L) (x,y) with
   |none=>rw[q] at h;cases h
   |some z=>unfold Al at q;rw[q];rfl
  have:=b1.rg _ hm;exact⟨b2 _ _ _ h,this.1,this.2.1,this.2.2⟩
 ·have bi:∀ {x y:Int} {c:Int×Int},A3 (Al rs L) (x,y)=some c->x∈L/\y∈L:=fun {x y c} h=>by
   have hm:(x,y)∈(Ib (lay0 rs) L).map zF:=by
    rw[<-C6];unfold A3 at h;cases q:Ax (Al rs L) (x,y) with
    |none=>rw[q] at h;cases h
    |some z=>unfold Al at q;rw[q];rfl
   have:=b1.rg _ hm;exact⟨(Bk hL).mpr this.2.1,(Bk hL).mpr this.2.2⟩
  have hpl:B0 L p<L.length:=zw h1 (SH L x);obtain⟨pre,post,e,hn,bJ⟩:=Qn hpl;cases q1:A3 (Al rs L) (x,p) with
  |none=>cases A3 (Al rs L) (x,y)<;>exact trivial
  |some c1 =>
   cases q2:A3 (Al rs L) (p,y) with
   |none=>cases A3 (Al rs L) (x,y)<;>exact trivial
   |some c2 =>
    have r:=b4 pre p post e x (bJ x h1 (bi q1).1) y (bJ y h2 (bi q2).2) ac;rw[<-q1,<-q2];exact r
noncomputable abbrev CA:=List ((Int×Int)×(Int×Int))
noncomputable def Qo (C:CA):D:=.AS true (C.map λ kv=>pD kv.1) (C.map λ kv=>cst (some kv.2))
noncomputable def L8 (C:CA):OT:=.AS true (C.map λ kv=>pD kv.1) ((C.map λ kv=>cst (some kv.2)).map .sh)
noncomputable abbrev RA:=List (Int×(Int×Int))
noncomputable def Vi (R:RA):D:=.AS false (R.map λ kv=>D.int kv.1) (R.map λ kv=>cst (some kv.2))
noncomputable def Ic (R:RA):OT:=.AS false (R.map λ kv=>D.int kv.1) ((R.map λ kv=>cst (some kv.2)).map .sh)
theorem Mj (A:LA):er (FC A)=QO A:=Fm
theorem Mk (C:CA):er (L8 C)=Qo C:=Fm
theorem Ml (R:RA):er (Ic R)=Vi R:=Fm
theorem J2 (i:Int):keyOk false (.int i)=true:=rfl
theorem Qp (A:LA)(p:Int×Int)(neg:Bool):Io neg (pD p) (QO A)=.ok (.bl (if neg=true then !(Ax A p).isSome else (Ax A p).isSome)):=by
 unfold QO Io;dsimp only;rw[if_pos (HG p),HJ Fz]
theorem Mm {A:LA}{p:Int×Int}{v:(Int×Int)×Option Int}(h:Ax A p=some v):BI (QO A) (pD p)=.ok (Qj v):=by
 unfold QO BI;dsimp only;rw[if_pos (HG p),HK Fz,h];rfl
theorem UH {C:CA}{p:Int×Int}{c:Int×Int}(h:Ax C p=some c):BI (Qo C) (pD p)=.ok (cst (some c)):=by
 unfold Qo BI;dsimp only;rw[if_pos (HG p),HK (vf:=λ c=>cst (some c)) Fz,h];rfl
theorem Mn (R:RA)(p:Int)(neg:Bool):Io neg (.int p) (Vi R)=.ok (.bl (if neg=true then !(Ax R p).isSome else (Ax R p).isSome)):=by
 unfold Vi Io;dsimp only;rw[if_pos (J2 p),HJ (kf:=D.int) HL]
theorem Mo {R:RA}{p:Int}{c:Int×Int}(h:Ax R p=some c):BI (Vi R) (.int p)=.ok (cst (some c)):=by
 unfold Vi BI;dsimp only;rw[if_pos (J2 p),HK (kf:=D.int) (vf:=λ c=>cst (some c)) HL,h];rfl
theorem Qq (A:LA)(p:Int×Int)(v:(Int×Int)×Option Int):putD (A.map λ kv=>pD kv.1) (A.map λ kv=>Qj kv.2) (pD p) (Qj v)=((B3 A p v).map (λ kv=>pD kv.1),(B3 A p v).map λ kv=>Qj kv.2):=ER Fz A p v
theorem Qr (R:RA)(p:Int)(c:Int×Int):putD (R.map λ kv=>D.int kv.1) (R.map λ kv=>cst (some kv.2)) (.int p) (cst (some c))=((B3 R p c).map (λ kv=>D.int kv.1),(B3 R p c).map λ kv=>cst (some kv.2)):=ER (kf:=D.int) (vf:=λ c=>cst (some c)) HL R p c
theorem Nb {α:Type}(k v:α->D):∀l:List α,O1 (l.map λ x=>.tup [k x,v x])=some (l.map λ x=>(k x,v x))
 |[]=>rfl
 |x::l=>by rw[zj,O1,Nb k v l];rfl
theorem SI:∀(C C0:CA),((C0++C).map zF).Nodup->(C.map λ kv=>(pD kv.1,cst (some kv.2))).foldl (λ z kv=>putD z.1 z.2 kv.1 kv.2) (C0.map (λ kv=>pD kv.1),C0.map λ kv=>cst (some kv.2))=((C0++C).map (λ kv=>pD kv.1),(C0++C).map λ kv=>cst (some kv.2))
 |[],C0,_=>by simp
 |kv::C,C0,hn=>by
  obtain⟨p,c⟩:=kv;rw[zj,yx];dsimp only;have h0:Ax C0 p=none:=by
   rw[Qg];intro hm;rw[zW,zJ] at hn;exact hn.2.2 p hm p (by simp) rfl
  have e:B3 C0 p c=C0++[(p,c)]:=by unfold B3;rw[h0];rfl
  rw[ER (vf:=λ c=>cst (some c)) Fz,e,SI C (C0++[(p,c)]) (by rw[y3];exact hn),y3];rfl
theorem UI {C:CA}(hn:(C.map zF).Nodup)(hl:C.length<=1000):S1 (.lst (C.map λ kv=>.tup [pD kv.1,cst (some kv.2)]))=.ok (L8 C):=by
 unfold S1;dsimp only;rw[Nb (λ kv:(Int×Int)×(Int×Int)=>pD kv.1) (λ kv=>cst (some kv.2))];dsimp only;have e:=SI C [] hn;rw[if_pos ⟨by rw[zh];exact hl,by rw[List.all_map];exact List.all_eq_true.mpr λ x _=>rfl⟩];have e2:X3 (C.map λ kv=>(pD kv.1,cst (some kv.2)))=(C.map (λ kv=>pD kv.1),C.map λ kv=>cst (some kv.2)):=e;rw[e2];rfl
theorem Wz (p q:Int×Int):Qc (cst (some p)) (cst (some q))=.ok (.bl (decide (p.1<q.1\/(p.1=q.1/\p.2<q.2)))):=by
 rw[<-Ux];rfl
theorem Mp {m:M Out}{t r:OT}(h:WP m (λ ρ=>Dh ρ=some t/\OT.sh .Aw=r) (λ o=>match o with | .Ce r' ρ=>Dh ρ=some t/\r'=r | _=>False) (λ _=>False)):Ek m=.ok (t,r):=by
 cases m with
 |bad|ex x=>exact h.elim
 |ok o =>
  cases o with
  |next ρ=>obtain⟨h1,h2⟩:=(show Dh ρ=some t/\OT.sh .Aw=r from h);unfold Ek;dsimp only;rw[h1,<-h2]
  |Ce r' ρ=>obtain⟨h1,h2⟩:=(show Dh ρ=some t/\r'=r from h);unfold Ek;dsimp only;rw[h1,<-h2]
  |ret d|Bi d|brk d|cont d=>exact h.elim
theorem Ck {F:OT->List D->M (OT×OT)}{ρ:A6}{p:Option Nat}{t t2 r:OT}{al:List D}{i:Nat}(h:ρ[i]?=some (some (.ow (.tree p t))))(hN:PM t=true)(hF:F t al=.ok (t2,r)):KR i F ρ [] al=.ok (ρ.set i (some (toCl p t2)),r):=by
 rw[PN h rfl rfl hN hF,Df]
theorem Cm {A:LA}{p:Option Nat}{ρ:A6}:BS 0 (some (.ow (.tree p (FC A)))::ρ) []=.ok (true,A.map (λ kv=>pD kv.1),A.map λ kv=>Qj kv.2):=Br
theorem FD {R:RA}{p:Option Nat}{ρ:A6}:BS 0 (some (.ow (.tree p (Ic R)))::ρ) []=.ok (false,R.map (λ kv=>D.int kv.1),R.map λ kv=>cst (some kv.2)):=Br
theorem Dl.ov {m:Nat}{A:LA}(h:Dl m A){p u w:Int}(hu:0<=u/\u<m)(hw:0<=w/\w<m):Dl m (Ga p u A w):=by
 unfold Ga;split
 ·exact h
 ·rename_i e;exact h.lay ⟨e,hu,hw⟩
theorem Dl.ou {m:Nat}{p u:Int}(hu:0<=u/\u<m):∀ {H:List Int}{A:LA},Dl m A->(∀x∈H,0<=x/\x<m)->Dl m (H.foldl (Ga p u) A)
 |[],A,h,_=>h
 |w::H,A,h,hH=>by
  have r:=Dl.ou (A:=Ga p u A w) (H:=H) (p:=p) hu (h.ov hu (hH w zd)) λ x hx=>hH x (zf _ hx);exact r
theorem BV {α β:Type}{f:β->α->β}{l:List α}{i:Nat}{x:α}{b:β}(h:l[i]?=some x):(l.take (i+1)).foldl f b=f ((l.take i).foldl f b) x:=by
 rw[List.take_add_one,h,Option.toList_some,List.foldl_append];rfl
theorem Dl.lo {m:Nat}{p:Int}{H0:List Int}(h0:∀x∈H0,0<=x/\x<m):∀ {H:List Int}{A:LA},Dl m A->(∀x∈H,0<=x/\x<m)->Dl m (H.foldl (O5 p H0) A)
 |[],A,h,_=>h
 |w::H,A,h,hH=>by
  have r:=Dl.lo (p:=p) (A:=O5 p H0 A w) (H:=H) h0 (Dl.ou (hH w zd) h h0) λ x hx=>hH x (zf _ hx);exact r
theorem K0 (c:Co):XM (.ok (.sh (cst c)))=.ok (.sh (cst c)):=by
 cases c<;>rfl
def XW (a b:List Co×Bool):Prop:=b.2=true/\(a.2=false\/(a.2=true/\GO ltN a.1 b.1))
theorem UJ (x:List Co):Acc XW (x,false):=.intro _ λ y h=>by cases h.1
theorem UK (x:List Co):Acc XW (x,true):=by
 have:=O2 x;induction this with
 |intro x _ ih =>
  refine .intro _ λ y h=>?_;obtain⟨y,b⟩:=y;rcases h.2 with e|⟨e,h2⟩
  ·dsimp only at e;subst e;exact UJ y
  ·dsimp only at e;subst e;exact ih y h2
theorem UL {L:List Int}(hn:L.Nodup){i:Nat}{x:Int}(h:L[i]?=some x):B0 L x=i:=by
 have ag:=(zH.mp h).1;have e:L=L.take i++x::L.drop (i+1):=by
  have h2:L.drop i=x::L.drop (i+1):=by
   rw[y6 ag];rw[zu ag] at h;rw[zx h]
  rw[<-h2,List.take_append_drop]
 have hx:x∉L.take i:=λ hm=>by
  rw[e,zJ] at hn;exact hn.2.2 x hm x zd rfl
 rw[e,L7 hx,ym];omega
noncomputable abbrev Ar:=Option ((Int×Int)×Option Int)
noncomputable def Em (v:Ar)(c:Co)(mid:Option Int):Ar:=match c with
 |none=>v
 |some c=>(match v with
  |none=>some (c,mid)
  |some z=>if c.1<z.1.1\/(c.1=z.1.1/\c.2<z.1.2) then some (c,mid) else v)
theorem Nc (A:LA)(p q:Int×Int)(c:Co)(mid:Option Int):Ax (layA A p c mid) q=if q=p then Em (Ax A p) c mid else Ax A q:=by
 unfold layA Em;cases c with
 |none =>
  dsimp only;by_cases h:q=p
  ·rw[if_pos h,h]
  ·rw[if_neg h]
 |some c =>
  cases e:Ax A p with
  |none=>dsimp only;rw[C5]
  |some z =>
   dsimp only;by_cases hc:c.1<z.1.1\/(c.1=z.1.1/\c.2<z.1.2)
   ·rw[if_pos hc,if_pos hc,C5]
   ·rw[if_neg hc,if_neg hc];by_cases h:q=p
    ·rw[if_pos h,h,e]
    ·rw[if_neg h]
theorem Mq (p u w:Int)(A:LA)(x y:Int):Ax (Ga p u A w) (x,y)=if x=u/\y=w/\x≠y then Em (Ax A (x,y)) (Bz (A3 A (x,p)) (A3 A (p,y))) (some p) else Ax A (x,y):=by
 unfold Ga;by_cases e:u=w
 ·rw[if_pos e,if_neg (λ h=>h.2.2 (h.1.trans (e.trans h.2.1.symm)))]
 ·rw[if_neg e,Nc];by_cases h:(x,y)=(u,w)
  ·cases h;rw[if_pos rfl,if_pos ⟨rfl,rfl,e⟩]
  ·rw[if_neg h,if_neg (λ z=>h (by rw[z.1,z.2.1]))]
theorem Qs {p u:Int}(hu:u≠p)(x y:Int):∀ {H:List Int}{A:LA},H.Nodup->p∉H->Ax (H.foldl (Ga p u) A) (x,y)=if x=u/\y∈H/\x≠y then Em (Ax A (x,y)) (Bz (A3 A (x,p)) (A3 A (p,y))) (some p) else Ax A (x,y)
 |[],A,_,_=>by rw[List.foldl_nil,if_neg (λ h=>by cases h.2.1)]
 |w::H,A,hn,hp=>by
  rw[zV] at hn;have iK:p≠w:=λ e=>hp (by rw[e];exact zd);have iL:p∉H:=λ e=>hp (zf _ e);have c1:A3 (Ga p u A w) (x,p)=A3 A (x,p):=by unfold A3;rw[Mq,if_neg (λ h=>iK h.2.1)]
  have c2:A3 (Ga p u A w) (p,y)=A3 A (p,y):=by unfold A3;rw[Mq,if_neg (λ h=>hu h.1.symm)]
  rw[yx,Qs hu x y hn.2 iL,c1,c2,Mq];by_cases h1:x=u
  ·by_cases h2:x=y
   ·rw[if_neg (λ h=>h.2.2 h2),if_neg (λ h=>h.2.2 h2),if_neg (λ h=>h.2.2 h2)]
   ·by_cases h3:y=w
    ·have h4:y∉H:=by rw[h3];exact hn.1
     rw[if_neg (λ h=>h4 h.2.1),if_pos ⟨h1,h3,h2⟩,if_pos ⟨h1,by rw[h3];exact zd,h2⟩]
    ·by_cases h4:y∈H
     ·rw[if_pos ⟨h1,h4,h2⟩,if_neg (λ h=>h3 h.2.1),if_pos ⟨h1,zf _ h4,h2⟩]
     ·rw[if_neg (λ h=>h4 h.2.1),if_neg (λ h=>h3 h.2.1),if_neg (λ h=>by rcases zo.mp h.2.1 with z|z;exact h3 z;exact h4 z)]
  ·rw[if_neg (λ h=>h1 h.1),if_neg (λ h=>h1 h.1),if_neg (λ h=>h1 h.1)]
theorem L9 {p:Int}{H:List Int}(hn:H.Nodup)(hp:p∉H)(x y:Int):∀ {U:List Int}{A:LA},U.Nodup->p∉U->Ax (U.foldl (O5 p H) A) (x,y)=if x∈U/\y∈H/\x≠y then Em (Ax A (x,y)) (Bz (A3 A (x,p)) (A3 A (p,y))) (some p) else Ax A (x,y)
 |[],A,_,_=>by rw[List.foldl_nil,if_neg (λ h=>by cases h.1)]
 |u::U,A,hU,g9=>by
  rw[zV] at hU;have gB:u≠p:=λ e=>g9 (by rw[e];exact zd);have iM:p∉U:=λ e=>g9 (zf _ e);have at':∀x y,Ax (O5 p H A u) (x,y)=if x=u/\y∈H/\x≠y then Em (Ax A (x,y)) (Bz (A3 A (x,p)) (A3 A (p,y))) (some p) else Ax A (x,y):=λ x y=>Qs gB x y hn hp
  have c1:A3 (O5 p H A u) (x,p)=A3 A (x,p):=by unfold A3;rw[at',if_neg (λ h=>hp h.2.1)]
  have c2:A3 (O5 p H A u) (p,y)=A3 A (p,y):=by unfold A3;rw[at',if_neg (λ h=>gB h.1.symm)]
  rw[yx,L9 hn hp x y hU.2 iM,c1,c2,at'];by_cases h2:y∈H/\x≠y
  ·by_cases h1:x=u
   ·have h3:x∉U:=by rw[h1];exact hU.1
    rw[if_neg (λ h=>h3 h.1),if_pos ⟨h1,h2⟩,if_pos ⟨by rw[h1];exact zd,h2⟩]
   ·by_cases h3:x∈U
    ·rw[if_pos ⟨h3,h2⟩,if_neg (λ h=>h1 h.1),if_pos ⟨zf _ h3,h2⟩]
    ·rw[if_neg (λ h=>h3 h.1),if_neg (λ h=>h1 h.1),if_neg (λ h=>by rcases zo.mp h.1 with z|z;exact h1 z;exact h3 z)]
  ·rw[if_neg (λ h=>h2 h.2),if_neg (λ h=>h2 h.2),if_neg (λ h=>h2 h.2)]
theorem FE {p:Int}{H:List Int}(hn:H.Nodup)(hp:p∉H)(A:LA)(x y:Int):Ax (QP A p H) (x,y)=if x∈H/\y∈H/\x≠y then Em (Ax A (x,y)) (Bz (A3 A (x,p)) (A3 A (p,y))) (some p) else Ax A (x,y):=L9 hn hp x y hn hp
noncomputable def S6 (A:LA)(x y:Int)(W:List Int)(v:Ar):Ar:=W.foldl (λ v p=>Em v (Bz (A3 A (x,p)) (A3 A (p,y))) (some p)) v
theorem HM {x y:Int}:∀ {L:List Int}{A:LA},L.Nodup->(x∉L\/y∉L)->Ax (Ib A L) (x,y)=Ax A (x,y)
 |[],A,_,_=>rfl
 |p::r,A,hn,h=>by
  rw[zV] at hn;have h':x∉r\/y∉r:=h.imp (λ z w=>z (zf _ w)) λ z w=>z (zf _ w);rw[Ib,HM hn.2 h',FE hn.2 hn.1,if_neg (λ z=>h'.elim (λ w=>w z.1) λ w=>w z.2.1)]
theorem Nd {x y:Int}(ac:x≠y):∀ {L:List Int}{A:LA},L.Nodup->x∈L->y∈L->Ax (Ib A L) (x,y)=S6 (Ib A L) x y (L.take (min (B0 L x) (B0 L y))) (Ax A (x,y))
 |[],A,_,h,_=>by cases h
 |p::r,A,hn,hx,hy=>by
  rw[zV] at hn;have gC:∀z,z≠p->B0 (p::r) z=B0 r z+1:=λ z hz=>by show (if p=z then 0 else B0 r z+1)=_;rw[if_neg (zU hz)]
  have gD:B0 (p::r) p=0:=by show (if p=p then 0 else B0 r p+1)=_;rw[if_pos rfl]
  rw[Ib];by_cases h1:x=p
  ·rw[HM hn.2 (.inl (by rw[h1];exact hn.1)),FE hn.2 hn.1,if_neg (λ z=>hn.1 (by rw[<-h1];exact z.1)),h1,gD,Nat.zero_min];rfl
  by_cases h2:y=p
  ·rw[HM hn.2 (.inr (by rw[h2];exact hn.1)),FE hn.2 hn.1,if_neg (λ z=>hn.1 (by rw[<-h2];exact z.2.1)),h2,gD,Nat.min_zero];rfl
  have dv:x∈r:=(zo.mp hx).resolve_left h1;have dw:y∈r:=(zo.mp hy).resolve_left h2;have e1:A3 (Ib (QP A p r) r) (x,p)=A3 A (x,p):=by unfold A3;rw[HM hn.2 (.inr hn.1),FE hn.2 hn.1,if_neg (λ z=>hn.1 z.2.1)]
  have e2:A3 (Ib (QP A p r) r) (p,y)=A3 A (p,y):=by unfold A3;rw[HM hn.2 (.inl hn.1),FE hn.2 hn.1,if_neg (λ z=>hn.1 z.1)]
  have et:(p::r).take (min (B0 (p::r) x) (B0 (p::r) y))=p::r.take (min (B0 r x) (B0 r y)):=by
   rw[gC x h1,gC y h2,Nat.add_min_add_right,List.take_succ_cons]
  rw[et,Nd ac hn.2 dv dw,FE hn.2 hn.1,if_pos ⟨dv,dw,ac⟩];unfold S6;rw[yx,e1,e2]
theorem O7 {rs:List Road}{L:List Int}{x y:Int}(hn:L.Nodup)(hx:x∈L)(hy:y∈L)(ac:x≠y):Ax (Al rs L) (x,y)=S6 (Al rs L) x y (L.take (min (B0 L x) (B0 L y))) (Ax (lay0 rs) (x,y)):=Nd ac hn hx hy
theorem Nf (rs:List Road):∀x y c mid,Ax (lay0 rs) (x,y)=some (c,mid)->mid=none/\∃r∈rs,r.a=x/\r.b=y/\Ia r=some c:=by
 unfold lay0;have:=Ci (L:=rs) (pre:=[]) (f:=λ A r=>layA A (r.a,r.b) (Ia r) none) (b:=[]) (λ _ A=>∀x y c mid,Ax A (x,y)=some (c,mid)->mid=none/\∃r∈rs,r.a=x/\r.b=y/\Ia r=some c) (λ _ _ _ _ h=>by cases h) λ r hr W B hB x y c mid h=>by
  rw[Nc] at h;by_cases e:(x,y)=(r.a,r.b)
  ·cases e;rw[if_pos rfl] at h;unfold Em at h;cases q:Ia r with
   |none=>rw[q] at h;exact hB _ _ _ _ h
   |some d =>
    rw[q] at h;dsimp only at h;split at h
    ·cases h;exact⟨rfl,r,hr,rfl,rfl,q⟩
    ·rename_i z hz;split at h
     ·cases h;exact⟨rfl,r,hr,rfl,rfl,q⟩
     ·exact hB _ _ _ _ h
  ·rw[if_neg e] at h;exact hB _ _ _ _ h
 exact this
noncomputable def Qt (v:Ar):Co:=v.map zF
theorem S7 (v:Ar)(c:Co)(mid:Option Int):Qt (Em v c mid)=QN (Qt v) c:=by
 unfold Em Qt;cases c with
 |none=>cases v<;>rfl
 |some c =>
  cases v with
  |none=>rfl
  |some z =>
   dsimp only;simp only[ya,QN,Ww];by_cases hc:c.1<z.1.1\/(c.1=z.1.1/\c.2<z.1.2)
   ·rw[if_pos hc,if_neg (by omega)];rfl
   ·rw[if_neg hc,if_pos (by omega)];rfl
structure Fd (cd:Int->Co)(v0:Ar)(W:List Int)(v:Ar):Prop where
 Yj:BF (Qt v) (Qt v0)
 Yk:∀p∈W,BF (Qt v) (cd p)
 Aw:∀c,v=some (c,none)->v0=some (c,none)
 mid:∀c p,v=some (c,some p)->(∃W1 W2,W=W1++p::W2/\cd p=some c/\∀q∈W1,cd q≠some c)/\Qt v0≠some c
theorem UM {cd:Int->Co}{v0:Ar}(h0:∀c p,v0≠some (c,some p))(W:List Int):Fd cd v0 W (W.foldl (λ v p=>Em v (cd p) (some p)) v0):=by
 have:=Ci (L:=W) (pre:=[]) (f:=λ v p=>Em v (cd p) (some p)) (b:=v0) (λ W v=>Fd cd v0 W v) ⟨BA _,(λ p hp=>by cases hp),λ c h=>h,λ c p h=>absurd h (h0 c p)⟩ λ p hp W v hv=>by
  have dz:=S7 v (cd p) (some p);refine⟨?_,λ q hq=>?_,λ c h=>?_,λ c q h=>?_⟩
  ·rw[dz];exact AI (JR _ _) hv.Yj
  ·rw[dz];rcases zE.mp hq with hq|hq
   ·exact AI (JR _ _) (hv.Yk q hq)
   ·rw[zl.mp hq];exact JS _ _
  ·unfold Em at h;split at h
   ·exact hv.Aw c h
   ·split at h
    ·cases h
    ·rename_i z;split at h
     ·cases h
     ·exact hv.Aw c h
  ·have keep:v=some (c,some q)->(∃W1 W2,W++[p]=W1++q::W2/\cd q=some c/\∀q∈W1,cd q≠some c)/\Qt v0≠some c:=λ h=>by
    obtain⟨⟨W1,W2,e1,e2,e3⟩,e4⟩:=hv.mid c q h;exact⟨⟨W1,W2++[p],by rw[e1];simp,e2,e3⟩,e4⟩
   have new:∀d:Int×Int,cd p=some d->(∀z,Qt v=some z->d.1<z.1\/(d.1=z.1/\d.2<z.2))->(∃W1 W2,W++[p]=W1++p::W2/\cd p=some d/\∀q∈W1,cd q≠some d)/\Qt v0≠some d:=λ d hd ag=>by
    have no:∀o:Co,BF (Qt v) o->o≠some d:=λ o ho e=>by
     subst e;obtain⟨z,hz,hle⟩:=JV ho;have:=ag z hz;simp only[Oj] at hle;omega
    exact⟨⟨W,[],rfl,hd,λ q hq=>no _ (hv.Yk q hq)⟩,no _ hv.Yj⟩
   unfold Em at h;split at h
   ·exact keep h
   ·rename_i c' hd;split at h
    ·cases h;exact new _ hd λ z hz=>by cases hz
    ·rename_i z;split at h
     ·rename_i hc;cases h;exact new _ hd λ z' hz=>by cases hz;exact hc
     ·exact keep h
 exact this
inductive Wi (rs:List Road) (s:Int) (W:List Int):Int->Int×Int->Prop
 |nil:Wi rs s W s (0,0)
 |snoc {x:Int} {c:Int×Int} {r:Road} {l:Int}:Wi rs s W x c->r∈rs->r.a=x->r.l=some l->(x=s\/x∈W)->Wi rs s W r.b (c.1+l,c.2+1)
theorem Wi.more {rs:List Road}{s y:Int}{W W':List Int}{c:Int×Int}(h:Wi rs s W y c)(k:∀x∈W,x∈W'):Wi rs s W' y c:=by
 induction h with
 |nil=>exact .nil
 |snoc _ h1 h2 h3 h4 ih=>exact .snoc ih h1 h2 h3 (h4.imp id (k _))
theorem Wi.trans {rs:List Road}{s p y:Int}{W W':List Int}{c d:Int×Int}(h:Wi rs s W p c)(hp:p∈W)(h2:Wi rs p W' y d)(k:∀x∈W',x∈W):Wi rs s W y (c.1+d.1,c.2+d.2):=by
 induction h2 with
 |nil=>simpa using h
 | @snoc x d r l _ h1 h2 h3 h4 ih =>
  have:=Wi.snoc ih h1 h2 h3 (h4.elim (λ e=>.inr (by rw[e];exact hp)) λ e=>.inr (k _ e));simpa [Int.add_assoc] using this
section
variable {m:Nat}{rs:List Road}{L:List Int}
theorem Dn {L:List Int}(hn:L.Nodup){k:Nat}{x:Int}(h:x∈L.take k):x∈L/\B0 L x<k:=by
 obtain⟨i,hi⟩:=List.mem_iff_getElem?.mp h;rw[List.getElem?_take] at hi;split at hi
 ·rename_i hk;exact⟨zk hi,by rw[UL hn hi];exact hk⟩
 ·cases hi
theorem La {L:List Int}{k:Nat}{x:Int}(hx:x∈L)(h:B0 L x<k):x∈L.take k:=by
 obtain⟨pre,post,e,iN⟩:=Dm hx;subst e;rw[L7 iN] at h;refine List.mem_iff_getElem?.mpr ⟨pre.length,?_⟩;rw[List.getElem?_take,if_pos h,yl (zp _),Nat.sub_self];rfl
theorem Mr (hL:L.Perm (B2 m))(An:∀r∈rs,FO m r/\r.a≠r.b):∀(k:Nat){x y:Int}{c:Int×Int},x∈L->y∈L->x≠y->min (B0 L x) (B0 L y)=k->A3 (Al rs L) (x,y)=some c->Wi rs x (L.take k) y c:=by
 have hn:=CC hL;have bi:∀ {x y:Int} {c:Int×Int},A3 (Al rs L) (x,y)=some c->x≠y:=fun {x y c} h=>((Cj hL An).2.snd x y c h).2.1;intro k;induction k using Nat.strongRecOn with
 |ind k ih =>
  intro x y c hx hy ac hk hc;have hf:=O7 (rs:=rs) hn hx hy ac;have h0:∀c p,Ax (lay0 rs) (x,y)≠some (c,some p):=λ c p h=>by cases (Nf rs x y c _ h).1
  have hF:=UM (cd:=λ p=>Bz (A3 (Al rs L) (x,p)) (A3 (Al rs L) (p,y))) h0 (L.take k);unfold S6 at hf;rw[hk] at hf;rw[<-hf] at hF;obtain⟨mid,hq⟩:∃mid,Ax (Al rs L) (x,y)=some (c,mid):=by
   unfold A3 at hc;cases q:Ax (Al rs L) (x,y) with
   |none=>rw[q] at hc;cases hc
   |some z=>rw[q] at hc;cases hc;exact⟨z.2,rfl⟩
  cases mid with
  |none =>
   have h1:=hF.Aw c hq;obtain⟨_,r,hr,ha,hb,iO⟩:=Nf rs x y c none h1;obtain⟨l,hl,rfl⟩:=L1 iO;have:=Wi.snoc (W:=L.take k) (.nil (rs:=rs) (s:=x)) hr ha hl (.inl rfl);rw[hb] at this;simpa using this
  |some p =>
   obtain⟨⟨W1,W2,e1,e2,_⟩,_⟩:=hF.mid c p hq;have hp:p∈L.take k:=by rw[e1];simp
   obtain⟨gE,gF⟩:=Dn hn hp;obtain⟨a,b,ha,hb,rfl⟩:=J0 e2;have g1:=ih (B0 L p) gF hx gE (bi ha) (by omega) ha;have g2:=ih (B0 L p) gF gE hy (bi hb) (by omega) hb;have sub:∀z∈L.take (B0 L p),z∈L.take k:=λ z hz=>by
    obtain⟨z1,z2⟩:=Dn hn hz;exact La z1 (by omega)
   exact (g1.more sub).trans hp g2 sub
end
theorem S8 {rk:Int->Nat}{Af:Int->Int->Co}{s:Int}(snd:∀a b c,Af a b=some c->(0<=c.1/\0<=c.2)/\rk a≠rk b)(Wy:∀p x y,x≠y->rk p<rk x->rk p<rk y->BF (Af x y) (Bz (Af x p) (Af p y))):∀(n:Nat){t x y:Int}{c1 c2 d:Int×Int},Vg Af rk s t c1->Vh Af rk t n x c2->Af x y=some d->UD Af rk s y (c1.1+c2.1+d.1,c1.2+c2.2+d.2):=by
 intro n;induction n with
 |zero =>
  intro t x y c1 c2 d hu hd ha;have hq:=(snd _ _ _ ha).2;cases hd with
  |nil =>
   by_cases h:rk y<rk t
   ·exact⟨t,1,c1,_,hu,.snoc .nil h ha,by simp only[Oj];omega⟩
   ·exact⟨y,0,_,_,.snoc hu (by omega) ha,.nil,by simp only[Oj];omega⟩
 |succ n ih =>
  intro t x y c1 c2 d hu hd ha;obtain⟨n1,hq⟩:=snd _ _ _ ha;by_cases h:rk y<rk x
  ·exact⟨t,n+2,c1,_,hu,.snoc hd h ha,by simp only[Oj];omega⟩
  ·have h2:rk x<rk y:=by omega
   cases hd with
   | @snoc _ z _ c e aO hr gH =>
    have n2:=(snd _ _ _ gH).1;by_cases hz:z=y
    ·subst hz;exact⟨t,n,c1,c,hu,aO,by simp only[Oj];omega⟩
    ·have q:=Wy x z y hz hr h2;rw[gH,ha] at q;obtain⟨f,hf,hle⟩:=JV q;obtain⟨t',n',eS,eT,g1,g2,g3⟩:=ih hu aO hf;refine⟨t',n',eS,eT,g1,g2,?_⟩;simp only[Oj] at *;omega
theorem SJ {rk:Int->Nat}{Af:Int->Int->Co}{t x:Int}{n:Nat}{c:Int×Int}(h:Vh Af rk t n x c):rk x<=rk t/\(rk x=rk t->n=0/\x=t/\c=(0,0)):=by
 induction h with
 |nil=>exact⟨zp _,λ _=>⟨rfl,rfl,rfl⟩⟩
 |snoc _ hr _ ih=>exact⟨by omega,λ e=>by omega⟩
theorem SK {rk:Int->Nat}{Af:Int->Int->Co}{s x:Int}{c:Int×Int}(h:Vg Af rk s x c):rk s<=rk x/\(rk x=rk s->x=s/\c=(0,0)):=by
 induction h with
 |nil=>exact⟨zp _,λ _=>⟨rfl,rfl⟩⟩
 |snoc _ hr _ ih=>exact⟨by omega,λ e=>by omega⟩
section
variable {m:Nat}{rs:List Road}{L:List Int}
theorem Qu (hL:L.Perm (B2 m))(An:∀r∈rs,FO m r/\r.a≠r.b){x y:Int}{c:Int×Int}(hx:x∈L)(hy:y∈L)(ac:x≠y)(h:Wi rs x (L.take (min (B0 L x) (B0 L y))) y c):BF (A3 (Al rs L) (x,y)) (some c):=by
 have hn:=CC hL;have Ld:=(Cj hL An).2;obtain⟨W,hW⟩:∃W,W=L.take (min (B0 L x) (B0 L y)):=⟨_,rfl⟩;rw[<-hW] at h;have d0:∀z∈W,z∈L/\B0 L z<B0 L x/\B0 L z<B0 L y:=λ z hz=>by
  rw[hW] at hz;obtain⟨z1,z2⟩:=Dn hn hz;exact⟨z1,by omega,by omega⟩
 obtain⟨Af,eU⟩:∃Af:Int->Int->Co,∀a b,Af a b=if (a∈W\/a=x\/a=y)/\(b∈W\/b=x\/b=y) then A3 (Al rs L) (a,b) else none:=⟨_,λ a b=>rfl⟩
 have gI:∀a,(a∈W\/a=x\/a=y)->a∈L:=λ a ha=>by
  rcases ha with ha|ha|ha
  ·exact (d0 a ha).1
  ·rw[ha];exact hx
  ·rw[ha];exact hy
 have ON:∀ {a b d},Af a b=some d->((a∈W\/a=x\/a=y)/\(b∈W\/b=x\/b=y))/\A3 (Al rs L) (a,b)=some d:=fun {a b d} e=>by
  rw[eU] at e;by_cases q:(a∈W\/a=x\/a=y)/\(b∈W\/b=x\/b=y)
  ·rw[if_pos q] at e;exact⟨q,e⟩
  ·rw[if_neg q] at e;cases e
 have snd:∀a b c,Af a b=some c->(0<=c.1/\0<=c.2)/\B0 L a≠B0 L b:=λ a b c e=>by
  obtain⟨⟨va,vb⟩,e2⟩:=ON e;obtain⟨w1,w2,w3,w4⟩:=Ld.snd a b c e2;exact⟨Ld.nn _ _ _ w1,λ z=>w2 (JZ (gI a va) (gI b vb) z)⟩
 have Wy:∀p a b,a≠b->B0 L p<B0 L a->B0 L p<B0 L b->BF (Af a b) (Bz (Af a p) (Af p b)):=λ p a b eV h1 h2=>by
  cases q1:Af a p with
  |none=>cases Af a b<;>exact trivial
  |some c1 =>
   cases q2:Af p b with
   |none=>cases Af a b<;>exact trivial
   |some c2 =>
    obtain⟨⟨va,vp⟩,e1⟩:=ON q1;obtain⟨⟨_,vb⟩,e2⟩:=ON q2;have:=Ld.Wy p a b eV h1 h2;rw[e1,e2] at this;rw[eU,if_pos ⟨va,vb⟩];exact this
 have key:∀ {z c},Wi rs x W z c->(z∈W\/z=x\/z=y)->UD Af (B0 L) x z c:=fun {z c} hz=>by
  induction hz with
  |nil=>exact λ _=>⟨x,0,_,_,.nil,.nil,by simp[Oj]⟩
  | @snoc z0 c r l _ h1 h2 h3 h4 ih =>
   intro hv;have gJ:z0∈W\/z0=x\/z0=y:=h4.elim (λ e=>.inr (.inl e)) .inl;obtain⟨t,n,c1,c2,g1,g2,g3⟩:=ih gJ;have aH:=Ld.road r h1;rw[h2] at aH;unfold Ia at aH;rw[h3] at aH;obtain⟨d,hd,hle⟩:=JV aH;have hd2:Af z0 r.b=some d:=by rw[eU,if_pos ⟨gJ,hv⟩];exact hd
   obtain⟨t',n',eS,eT,k1,k2,k3⟩:=S8 snd Wy n g1 g2 hd2;exact⟨t',n',eS,eT,k1,k2,by simp only[Oj] at *;omega⟩
 have jx:B0 L x≠B0 L y:=λ e=>ac (JZ hx hy e);obtain⟨t,n,c1,c2,g1,g2,g3⟩:=key h (.inr (.inr rfl));have eW:∃d,Af x y=some d/\Oj d c:=by
  cases g1 with
  |nil =>
   cases g2 with
   |nil=>exact absurd rfl ac
   | @snoc n z _ c d hd hr ha =>
    obtain⟨⟨vz,_⟩,e2⟩:=ON ha;have hz:z=x:=by
     rcases vz with vz|vz|vz
     ·have:=(d0 z vz).2.2;omega
     ·exact vz
     ·rw[vz] at hr;omega
    subst hz;obtain⟨_,_,rfl⟩:=(SJ hd).2 rfl;exact⟨d,ha,by simpa using g3⟩
  | @snoc z _ c d hu hr ha =>
   obtain⟨⟨vz,vt⟩,e2⟩:=ON ha;have jy:=(SK hu).1;have ht:t=y:=by
    rcases vt with vt|vt|vt
    ·have:=(d0 t vt).2.1;omega
    ·rw[vt] at hr;omega
    ·exact vt
   subst ht;have hz:z=x:=by
    rcases vz with vz|vz|vz
    ·have:=(d0 z vz).2.1;omega
    ·exact vz
    ·rw[vz] at hr;omega
   subst hz;obtain⟨_,rfl⟩:=(SK hu).2 rfl;obtain⟨_,_,rfl⟩:=(SJ g2).2 rfl;exact⟨d,ha,by simpa using g3⟩
 obtain⟨d,hd,hle⟩:=eW;rw[(ON hd).2];exact hle
end
theorem UN {α:Type}{a b c d e f g h:D}{x y:α}:(if [a,b,c,d,e,f,g,h].length<=1000 then x else y)=x:=if_pos (by simp)
theorem Qv (r:Road):dp (.ok (JT r))=.ok (JT r):=by
 obtain⟨a,b,l,w⟩:=r;cases l<;>rfl
theorem Ms (i:Int):dp (.ok (.int i))=.ok (.int i):=rfl
theorem S9 {K:zc}{H:Hp}:∀k:Key,AW K H (kV k) (Be k)
 | .inl i=>.int i
 | .inr x=>.str x
section
variable {X:Cx}{WX:Str->Hp->Prop}{c:Bool}{P0:BO}{P:Addr->Prop}{H:Hp}{σ:St}{ρ:A6}{a b e tg iter:Expr}{f g:A6->M D}{ft:A6->M Bool}{pos:Pos}{gt:D->A6->M A6}{fi:A6->M (List D)}
theorem UO (ha:DE X WX true e f):DI X WX tg e (λ ρ=>(f ρ).bind λ d=>match d with | .tup ds=>.ok ds | _=>.bad):=by
 obtain⟨ta,a1,a2⟩:=ha;refine⟨_,T8 a1,λ P0 P σ H R ρ E h=>?_⟩;dsimp only at h;refine a2 P0 P σ H _ ρ E ?_;cases q:f ρ with
 |bad|ex x=>rw[q] at h;exact h
 |ok d =>
  rw[q] at h;cases d with
  |tup ds =>
   intro v H1 s1 hv;cases hv with
   | @tup a xs _ hh hl =>
    have at':∀ {P':Addr->Prop} {H':Hp},A9 (del H1 P) (del H' P')->EX X.K H' a xs:=λ s=>.inl (.inl (Ag (s a _ hh)).2);refine⟨a,rfl,⟨xs,.inl (.inl (Ag hh).2)⟩,h _ H1 s1 ⟨λ i P' H' s hi=>?_,λ i P' H' s hi=>?_,λ i P' H' v bF d s ht hd y=>?_⟩⟩
    ·obtain⟨x,hx,_⟩:=hl.get (zu hi);exact⟨xs,x,at' s,hx⟩
    ·exact⟨xs,at' s,by rw[hl.length];exact hi⟩
    ·obtain⟨rfl,y⟩:=y;obtain⟨x,hx,aO⟩:=hl.get hd;have e:=y xs (at' s);rw[hx] at e;cases e;exact⟨A9.refl _,aO.mono s⟩
  |_=>exact h.elim
end
section
variable {X:Cx}{WX:Str->Hp->Prop}{c:Bool}{P0:BO}{P:Addr->Prop}{H:Hp}{σ:St}{ρ:A6}{a b e:Expr}{f g:A6->M D}{fp:A6->M (List Nat)}{pos p:Pos}{i:Nat}
noncomputable def Lb (k:Int):List Int->Option Nat
 |[]=>none
 |x::r=>if x=k then some 0 else (Lb k r).map (· + 1)
noncomputable def Sa (x:D)(m:M D):M D:=match x with
 | .lst ds=>m.bind λ y=>(match BD ds,y with|some ns,.int k=>(match Lb k ns with|some j=>.ok (.int j)|none=>.bad)|_,_=>.bad)
 |_=>.bad
theorem Ng {k:Int}:∀ {ns:List Int}{aa:List Value},Vals (ns.map V.int) aa->PySem.W.kf_ints aa=true/\PySem.W.kf_at k aa=Lb k ns
 |[],[],_=>⟨rfl,rfl⟩
 |[],_::_,h=>by cases h
 |n::r,aa,h=>by
  cases h with
  |cons h t =>
   obtain⟨tk,rfl⟩:=h;obtain⟨h1,h2⟩:=Ng (k:=k) t;refine⟨h1,?_⟩;simp only[PySem.W.kf_at,Lb,h2];by_cases e:n=k
   ·subst e;simp[isInt]
   ·rw[if_neg e];have:isInt k (.int n tk)=false:=by simp[isInt];omega
    rw[this];cases Lb k r<;>rfl
theorem Qw:WQ X "list.index" (λ x vs H Q=>∃l ns k j,x=.ref l/\vs=[.int k]/\C1 X.K H l (ns.map V.int)/\Lb k ns=some j/\Q (.int j) H):=by
 intro pins s σ H x vs v us Q I rx rv h;obtain⟨l,ns,k,j,rfl,rfl,hq,hj,q⟩:=h;cases rx;obtain⟨u,rfl,ru⟩:=rv.one;obtain⟨tk,rfl⟩:=ru;obtain⟨aa,r,pl,hz⟩:=I.list hq;obtain⟨h1,h2⟩:=Ng (k:=k) r;have hlen:=r.length;rw[hj] at h2;have iP:∃o n,s.heap.get? l=some o/\o.cls=.type "list" /\ o.dict=none/\o.data=.seq aa.toArray n:=pl;obtain⟨a,b,cc⟩:=PySem.W.kf_at_spec h2;rw[sizeLine_eq] at hz;obtain⟨o,n,e,ec,ed,es⟩:=iP;obtain⟨eQ,od,iQ,Oe⟩:=o;dsimp only at ec ed es;subst ec ed es;have ht:s.TypeIs (.ref l) "list" := ⟨_,e,rfl⟩;refine PySem.call_meets PySem.F.slot_list_index ht PySem.F.entry_list_index (PySem.F.args_list_index_2 _ _)
  (PySem.SeqAt.list_indexAt l aa.toArray n none Oe (.int k tk) (isInt k) j (by simpa using a) (by omega) (by simpa using b) (λ i hi ag=>?_)) ⟨e,λ y hy=>(PySem.W.kf_eq h1 y (by simpa using hy)).at _ _,?_⟩
 ·exact cc i (by simpa using hi) ag
 ·exact⟨.int j,H,I.tok _,⟨_,rfl⟩,q⟩
theorem Lc {o k:Expr}{apos ah:Pos}(ha:DE X WX true o f)(hb:DE X WX true k g)(ao:attributeBase o "index" X.env (eval o X.env)=eval o X.env:=by rfl)
 (aU:((backTo ah (starEach [k] X.env)).all (λ x => !x.1)&&(backToKw ah (keywordEach [] X.env)).all (λ x=>x.1.isSome)
  && decide (([k]:List Expr).length+([]:List Keyword).length+(if ([]:List Keyword).isEmpty then 0 else 1)<30))=true:=by rfl)
 (ap:(apos.endLine==ah.line)=true:=by rfl) (hs:starEach [k] X.env=[(false,eval k X.env)]:=by rfl):
 DE X WX true (.Call (.Attribute o "index" apos) [k] [] ah) (λ ρ=>(f ρ).bind λ x=>Sa x (g ρ)):=by
 obtain⟨ta,a1,a2⟩:=ha;obtain⟨tb,b1,b2⟩:=hb;refine⟨_,Ss PySem.F.plainAttrs_list PySem.F.slot_list_index PySem.F.type_list_index Qw a1 (Bt b1 CY hs) ao aU ap hs,λ P0 P σ H Q ρ E h=>?_⟩;dsimp only at h;refine a2 P0 P σ H _ ρ E ?_;cases q:f ρ with
 |bad|ex x=>rw[q] at h;exact h
 |ok x =>
  rw[q] at h;simp only[M.A7] at h;intro v H1 s1 hv;unfold Sa at h;split at h
  ·rename_i ds;cases hv with
   | @lst l xs _ gK hl =>
    refine⟨.inl ⟨rfl,_,gK.AZ⟩,b2 P0 P σ H1 _ ρ (E.same s1) ?_⟩;cases e2:g ρ with
    |bad=>rw[e2] at h;exact h
    |ex y=>rw[e2] at h;exact gV.same (m:=.ex y) h s1
    |ok y =>
     rw[e2] at h;simp only[M.A7] at h;intro w H2 s2 hw;split at h
     ·rename_i ns k bO;split at h
      ·rename_i j hj;have ex:=F7 hl bO;subst ex;exact⟨l,ns,k,j,rfl,by rw[hw.int_inv],s2.seq gK.AZ,hj,h _ _ (s1.trans s2) (.int _)⟩
      ·exact h.elim
     ·exact h.elim
  ·exact h.elim
end
section
variable {L:List Int}{C W:CA}{s:Int}{t:Nat}{R0 R:RA}
theorem Qx:∀ {L:List Int}{k:Int},k∈L->Lb k L=some (B0 L k)
 |[],_,h=>by cases h
 |x::r,k,h=>by
  show (if x=k then some 0 else (Lb k r).map (· + 1))=_;by_cases e:x=k
  ·rw[if_pos e];show some 0=some (B0 (x::r) k);unfold B0;rw[if_pos e]
  ·rw[if_neg e];rcases zo.mp h with h|h
   ·exact absurd h.symm e
   ·have q:B0 (x::r) k=B0 r k+1:=by show (if x=k then 0 else B0 r k+1)=_;rw[if_neg e]
    rw[Qx h,q];rfl
theorem Le {L:List Int}{k:Int}(h:k∈L):Sa (.lst (L.map D.int)) (.ok (.int k))=.ok (.int (B0 L k:Nat)):=by
 unfold Sa;simp only[M.A7,F9,Qx h]
end
structure K1 (h:Heap)(d:Addr)(es:Array DictEntry)(ep:Nat):Prop where
 at':∃o,h.get? d=some o/\o.ExactDict/\o.data=.dict es ep
section
variable {prog:Program}{w:World}{A:Around}{E:Value->Shared->Prop}{s:Shared}{d it:Addr}{es:Array DictEntry}{ep i:Nat}
theorem K1.ty (x:K1 s.heap d es ep):s.TypeIs (.ref d) "dict" := let ⟨o,h,c,_⟩:=x.at';⟨o,h,c.1⟩
theorem Sb {Q:Value->Shared->Prop}(hs:(d==sysModules)=false)(x:K1 s.heap d es ep)
 (q:Q (.ref s.heap.objs.size) {s with heap:=s.heap.push {cls:=.type "dict_keyiterator",data:=.fields #[.ref d,.int 0 0,.int es.size 0,.int ep 0]} }):wpAny (model prog w) A (pyIter (.ref d)) Q E s:=by
 have t:=x.ty;obtain⟨o,h1,h2,h3⟩:=x.at';apply wpAny_pyIter_slot t F.slot_dict_iter;apply wpAny_call_entry F.slot_dict_iter t F.entry_dict_iter _ (F.args_dict_iter_1 _);rw[Builtin.«dict.__iter__»];apply wpAny_bind;rw[Builtin.Dict.dictSlotNone];apply wpAny_bind;apply wpAny_notOrdered_dict t;refine wpAny_pure (a:=yj d) ?_;refine wpAny_bind (m:=Builtin.Dict.showsAll d) ?_;rw[Builtin.Dict.showsAll,hs];refine wpAny_pure ?_;apply wpAny_bind;apply wpAny_dictEntries h1 h3;apply wpAny_bind;apply wpAny_dictEpoch h1 h3;apply wpAny_bind;refine wpAny_newObj_type (wpAny_pure ⟨_,rfl,"dict_keyiterator",_,⟨_,zG _ rfl,rfl⟩,F.slot_dict_keyiterator_next.lookup,?_⟩);simpa [rawInt] using q
theorem Lf {Q:Option Value->Shared->Prop}(hh:A.handled=none)(hit:s.heap.IsKeyIter it d i es.size ep)(x:K1 s.heap d es ep)
 (go:∀(hi:i<es.size) (h':Heap),h'.IsKeyIter it d (i+1) es.size ep->Heap.SameBut it s.heap h'->Q (some es[i].key) {s with heap:=h' })
 (no:es.size<=i->∀h',Heap.ExtBut it s.heap h'->Q none {s with heap:=h' }):wpAny (model prog w) A (pyNext (.ref it)) Q E s:=by
 obtain⟨io,g1,g2,g3⟩:=id hit;obtain⟨o,h1,h2,h3⟩:=x.at';have t:=hit.typeIs;rw[pyNext];apply wpAny_bind;apply wpAny_attempt;apply wpAny_callSpecial?_slot (name:=Str.ofString "__next__") t F.slot_dict_keyiterator_next;apply wpAny_call_entry F.slot_dict_keyiterator_next t F.entry_dict_keyiterator_next _ (F.args_dict_keyiterator_next_1 _);apply wpAny_bind;refine wpAny_pure ?_;apply wpAny_bind;apply wpAny_bind;apply wpAny_bind;apply wpAny_typeNameOfWhole_keyiter t;refine wpAny_pure ?_;apply wpAny_bind;apply wpAny_fieldsOf g1 g3;rw[show Builtin.Dict_items.ownsTuple "dict_keyiterator" = false from by decide];show wpAny _ _ (ite ((yj d==Value.none)=true) _ _) _ _ s;have nn:¬ (yj d==Value.none)=true:=nofun;rw[if_neg nn];apply wpAny_bind;refine wpAny_pure (a:=d) ?_;apply wpAny_bind;apply wpAny_dictEntries h1 h3;rw[if_neg (by simp)];apply wpAny_bind;refine wpAny_pure (a:=d) ?_;apply wpAny_bind;apply wpAny_dictEpoch h1 h3;rw[if_neg (by simp)];refine wpAny_pure ?_;have i0:¬ (i:Int)<0:=by omega
 by_cases hi:i<es.size
 ·simp only[i0,if_false,Int.toNat_natCast,Array.getElem?_eq_getElem hi];apply wpAny_bind;apply wpAny_bind;apply wpAny_typeNameOfWhole_keyiter t;refine wpAny_pure ?_;apply wpAny_bind;apply wpAny_isOneOf_keyiter t;refine wpAny_bind (m:=setField (.ref it) 1 (rawInt ((i:Int)+1))) ?_;apply wpAny_setField g1 g3 (by simp);have st:(s.heap.update it (Obj.mapFields (·.setIfInBounds 1 (rawInt ((i:Int)+1))))).IsKeyIter it d (i+1) es.size ep:=
   ⟨_,Heap.get?_update_self _ g1 (Obj.isFreed_of_fields (Obj.data_mapFields g3 _)),(Obj.cls_mapFields ..).trans g2,by rw[Obj.data_mapFields g3];simp[rawInt]⟩
  apply wpAny_bind;apply wpAny_holding;apply wpAny_bind;apply wpAny_isOneOf_keyiter st.typeIs;refine wpAny_pure (a:=es[i].key) ?_;exact wpAny_pure ⟨_,rfl,wpAny_pure (go hi _ st (Heap.SameBut.update ..))⟩
 ·have cu:es.size<=i:=by omega
  simp only[i0,if_false,Int.toNat_natCast,Array.getElem?_eq_none cu];apply wpAny_bind;apply wpAny_bind;apply wpAny_typeNameOfWhole_keyiter t;refine wpAny_pure ?_;refine wpAny_bind (m:=setField (.ref it) 0 .none) ?_;apply wpAny_setField g1 g3 (by simp);apply wpAny_bind;rw[newExc];apply wpAny_bind;rw[newTuple];refine wpAny_newObj_type ?_ (by size_fits);apply wpAny_bind;refine wpAny_of_eq (a:=Value.none) (by simp only[firstArgMember];rfl) ?_;refine wpAny_newObj_type ?_ (by size_fits);simp only[raiseNew];apply wpAny_bind;apply wpAny_handled;rw[show A.in1.handled=none from hh];refine wpAny_bind (wpAny_pure (wpAny_throw ?_));refine wpAny_bind (wpAny_isInstance (T := "StopIteration") (b:=true) ⟨_,zG _ rfl,rfl⟩ isSubtype_stop ?_);exact wpAny_pure (no cu _ (((Heap.SameBut.update ..).extBut.push _).push _))
end
section
variable {X:Cx}{pins:List (Addr×Obj)}{σ:St}{H:Hp}{s:Shared}{a:Addr}{o:Obj}{kvs:List (List Key×V)}
noncomputable abbrev Ki (H:Hp)(kvs:List (List Key×V))(xs:List (List Key×Addr×Value)):Prop:=Paired (λ(p:List Key×V) (q:List Key×Addr×Value)=>p.1=q.1/\H q.2.1=some (.tup (p.1.map kV))/\RelV p.2 q.2.2) kvs xs
theorem Ki.put {xs:List (List Key×Addr×Value)}{u v:HO}(r:Ki H kvs xs)(e:H a=some u)(hu:∀l,u≠.tup l):Ki (upd H a v) kvs xs:=
 Paired.QT r λ p q h=>⟨h.1,by rw[A5 (λ z=>by have:=h.2.1;rw[z,e] at this;exact hu _ (zx this))];exact h.2.1,h.2.2⟩
theorem Ki.get:∀ {kvs:List (List Key×V)}{xs:List (List Key×Addr×Value)},Ki H kvs xs->∀ {i:Nat}{q:List Key×Addr×Value},xs[i]?=some q->∃p,kvs[i]?=some p/\H q.2.1=some (.tup (p.1.map kV))
 |_,_,.nil,i,q,e=>by cases e
 |_,_,.cons h t,0,q,e=>by cases e;exact⟨_,rfl,h.2.1⟩
 |_,_,.cons h t,i+1,q,e=>Ki.get t (i:=i) e
theorem Inv.Sd (I:Inv X pins σ H s)(e:H a=some (.dT kvs)):∃o,s.heap.get? a=some o/\Inv X pins σ (upd H a (.Cn o (.dT kvs))) s:=by
 obtain⟨z,y,xs,r,o,es,ep,ho,c⟩:=(show AF X.prog X.w H s.heap a (.dT kvs) from I.An a _ e);have ne:∀b u,H b=some u->u≠.dT kvs->b≠a:=λ b u q n hb=>n (by rw[hb,e] at q;exact (zx q).symm);have An:Cp X.prog X.w (upd H a (.Cn o (.dT kvs))) s.heap:=λ b u q=>by
  by_cases hb:b=a
  ·subst hb;rw[Ae] at q;cases q;exact⟨ho,z,y,xs,Ki.put r e (λ l z=>by cases z),o,es,ep,ho,c⟩
  ·rw[A5 hb] at q;exact (I.An b u q).Ge (λ _ _ _ w=>w) (λ d w=>by rw[A5 (ne d _ w (λ z=>by cases z))];exact w) λ d xs w=>by rw[A5 (ne d _ w (λ z=>by cases z))];exact w
 refine⟨o,ho,?_⟩;exact I.step (g':=s.gens) (d':=s.drawn) (t':=s.toks) (ch:=[]) (h':=s.heap) (H':=upd H a (.Cn o (.dT kvs))) (λ b hb=>by cases hb) (λ _ _ _ _ _ q _=>q) (λ b o _ _ _ q _=>⟨o.slots,q⟩) (λ b o _ _ n=>by rw[A5 (λ z=>by rw[z,e] at n;cases n)];exact n)
  (λ b o _ q=>⟨o,q⟩) (λ b xs q=>by rw[A5 (ne b _ q (λ z=>by cases z))];exact q) (λ b o u q=>by rw[A5 (ne b _ q (λ z=>by cases z))];exact q) (λ b ps q=>⟨#[],by rw[A5 (ne b _ q (λ z=>by cases z)),q];simp⟩) (λ _ q=>q) An I.bare
theorem Inv.UP (I:Inv X pins σ H s)(e:H a=some (.dT kvs)):∀o u,X.H₀ a≠some (.Cn o u):=λ o u q=>by
 rw[I.base.EZ a o u q] at e;cases e
theorem Inv.O8 (I:Inv X pins σ H s)(e:H a=some (.Cn o (.dT kvs)))(n0:∀o u,X.H₀ a≠some (.Cn o u)):Inv X pins σ (upd H a (.dT kvs)) s:=by
 have ne:∀b u,H b=some u->u≠.Cn o (.dT kvs)->b≠a:=λ b u q n hb=>n (by rw[hb,e] at q;exact (zx q).symm);have nn:∀b,H b=none->b≠a:=λ b q hb=>by rw[hb,e] at q;cases q
 refine⟨I.ok,I.os,I.bare,⟨I.base.keep,I.base.slot,λ b ob q n hx=>?_,I.base.there,λ b xs q=>?_,λ b ob u q=>?_,λ b ps q=>?_⟩,I.loc,I.cell,?_,λ x c h=>?_,λ p hp=>?_,λ b u q=>?_,I.len⟩
 ·have:=I.base.free b ob q n hx;rw[A5 (nn b this)];exact this
 ·have:=I.base.Gf b xs q;rw[A5 (ne b _ this (λ z=>by cases z))];exact this
 ·by_cases hb:b=a
  ·subst hb;exact absurd q (n0 ob u)
  ·rw[A5 hb];exact I.base.EZ b ob u q
 ·obtain⟨m,h⟩:=I.base.Gg b ps q;exact⟨m,by rw[A5 (ne b _ h (λ z=>by cases z))];exact h⟩
 ·rw[A5 (nn _ I.free)];exact I.free
 ·rw[A5 (nn _ (I.Cb x c h))];exact I.Cb x c h
 ·obtain⟨h1,h2,h3⟩:=I.pin p hp;exact⟨h1,by rw[A5 (nn _ h2)];exact h2,h3⟩
 ·by_cases hb:b=a
  ·subst hb;rw[Ae] at q;cases q;obtain⟨h1,z,y,xs,r,c⟩:=(show AF X.prog X.w H s.heap b (.Cn o (.dT kvs)) from I.An b _ e);exact⟨z,y,xs,Ki.put r e (λ l z=>by cases z),c⟩
  ·rw[A5 hb] at q;exact (I.An b u q).Ge (λ _ _ _ w=>w) (λ d w=>by rw[A5 (ne d _ w (λ z=>by cases z))];exact w) λ d xs w=>by rw[A5 (ne d _ w (λ z=>by cases z))];exact w
end
noncomputable def Qy (a:Addr)(o:Obj)(kvs:List (List Key×V)):It:=
 ⟨λ i H=>H a=some (.Cn o (.dT kvs))/\i<kvs.length,λ i H v H'=>H'=H/\∃kv t,kvs[i]?=some kv/\v=.ref t/\H t=some (.tup (kv.1.map kV)),λ i H=>H a=some (.Cn o (.dT kvs))/\kvs.length<=i⟩
theorem Mt {P:Program}{w:World}{K:zc}{tg:Expr}(a it:Addr)(o:Obj)(kvs:List (List Key×V))(es:Array DictEntry)(ep:Nat)(hx:o.ExactDict)(ca:o.data=.dict es ep)(hl:es.size=kvs.length):
 Turn P w K tg (Qy a o kvs) [it] it (λ i h=>i<=kvs.length/\h.IsKeyIter it a i es.size ep) where
 mem:=by simp
 obj:=λ i h st b hb=>by
  have e:b=it:=by simpa using hb
  subst e;obtain⟨_,o,e,c,d⟩:=st;exact⟨o,e,λ v z=>by rw[d] at z;cases z⟩
 keep:=λ i h h' st k=>⟨st.1,st.2.at λ o e=>k it (by simp) o e⟩
 item:=by
  intro X hP hw hK hc i pins s σ H E I hf st hg;subst hP hw hK;obtain⟨he,hi⟩:=hg;obtain⟨cb,z,y,xs,r,ob,gL,gM,ho,_,hd,a6,hn⟩:=(show AF X.prog X.w H s.heap a (.Cn o (.dT kvs)) from I.An a _ he);have eo:o=ob:=zx (cb.symm.trans ho);subst eo;rw[ca] at hd;cases hd;obtain⟨f0,f1,f2,f3,f4,f5⟩:=hf it (by simp);refine Lf (I.ok.hd hc) st.2 ⟨o,cb,hx,ca⟩ (λ cu h' b8 sb=>?_) (λ z=>absurd z (by omega));have hq:=entry_at a6 i;rw[Array.getElem?_eq_getElem cu] at hq;cases qx:xs[i]? with
  |none=>rw[qx] at hq;cases hq
  |some x =>
   rw[qx] at hq;have ek:es[i].key=.ref x.2.1:=by rw[zx hq];rfl
   obtain⟨p,hp,ht⟩:=Ki.get r qx;have I1:Inv X pins σ H {s with heap:=h',toks:=s.toks}:=I.turned (t':=s.toks) (λ b o hb e=>sb.extBut b o hb e) f0 f1 f3 f4 f5;obtain⟨io,e,c,d⟩:=id b8;refine⟨_,rfl,?_⟩;rw[ek];exact MK (s:={s with heap:=h',toks:=s.toks}) e c d (by decide) ⟨.ref x.2.1,H,I1,rfl,⟨rfl,p,x.2.1,hp,rfl,ht⟩,⟨hi,b8⟩,λ b hb=>(hf b hb).1⟩
 done:=by
  intro X hP hw hK hc i pins s σ H E I hf st hg;subst hP hw hK;obtain⟨he,hi⟩:=hg;have cb:s.heap.get? a=some o:=(show AF X.prog X.w H s.heap a (.Cn o (.dT kvs)) from I.An a _ he).1;obtain⟨f0,f1,f2,f3,f4,f5⟩:=hf it (by simp);exact Lf (I.ok.hd hc) st.2 ⟨o,cb,hx,ca⟩ (λ cu=>absurd cu (by omega)) λ _ h' eb=>⟨rfl,I.turned (t':=s.toks) (λ b o hb e=>eb b o hb e) f0 f1 f3 f4 f5⟩
 self:=λ _ _ _ _ _ st h=>wpAny_pyIter_keyiter st.2 h
section
variable {X:Cx}{WX:Str->Hp->Prop}{tg e:Expr}{f g:A6->M D}{pos p:Pos}{te:TE}
noncomputable def UQ (H0:Hp)(te:TE):TI:=λ σ H R=>te σ H λ v H1=>∃a kvs,v=.ref a/\((H1 a=some (.dT kvs)/\∀o,(∀o u,H0 a≠some (.Cn o u))->R (Qy a o kvs) (upd H1 a (.Cn o (.dT kvs))))\/∃o,H1 a=some (.Cn o (.dT kvs))/\R (Qy a o kvs) H1)
theorem Qz (ha:PE X e te):PI X tg e (UQ X.H₀ te):=by
 intro pins s σ H R I h;refine AV (ha pins s σ H _ I h) λ v s1 ⟨x,H1,I1,r1,q1⟩=>?_;obtain⟨a,kvs,rfl,q⟩:=q1;cases r1;have fin:∀(H2:Hp) (o:Obj),Inv X pins σ H2 s1->H2 a=some (.Cn o (.dT kvs))->R (Qy a o kvs) H2->wpAny (model X.prog X.w) X.A (pyIter (.ref a)) (Xl X pins σ tg R) X.xe s1:=λ H2 o I2 e2 q2=>by
  obtain⟨cb,z,y,xs,r,ob,es,ep,ho,hx,hd,a6,hn⟩:=(show AF X.prog X.w H2 s1.heap a (.Cn o (.dT kvs)) from I2.An a _ e2);have eo:o=ob:=zx (cb.symm.trans ho);subst eo;have hl:es.size=kvs.length:=by rw[size_of_entries a6];exact (yw r).symm
  refine Sb y ⟨o,cb,hx,hd⟩ ?_;refine⟨s1.heap.objs.size,[s1.heap.objs.size],_,_,H2,rfl,I2.kept (t':=s1.toks) λ b o e=>zr _ e,Mt a _ o kvs es ep hx hd hl,⟨zR _,_,zG _ rfl,rfl,rfl⟩,λ b hb=>?_,q2⟩;have e:b=s1.heap.objs.size:=by simpa using hb
  subst e;exact I2.Nu (zp _) (I2.An.fresh (zp _))
 rcases q with ⟨e1,q⟩|⟨o,e1,q⟩
 ·obtain⟨o,ho,I2⟩:=I1.Sd e1;exact fin _ o I2 Ae (q o (I1.UP e1))
 ·exact fin H1 o I1 e1 q
end
def Ip (H H':Hp):Prop:=∀b u,H b=some u->H' b=some u\/(∃o kvs,u=.Cn o (.dT kvs)/\H' b=some (.dT kvs))\/∃o kvs,u=.dT kvs/\H' b=some (.Cn o (.dT kvs))
theorem Ip.tup {H H':Hp}(e:Ip H H'){a:Addr}{xs:List V}(h:H a=some (.tup xs)):H' a=some (.tup xs):=by
 rcases e _ _ h with q|⟨o,k,q,_⟩|⟨o,k,q,_⟩
 ·exact q
 ·cases q
 ·cases q
theorem Ip.dK {H H':Hp}(e:Ip H H'){a:Addr}{kvs:List (Key×V)}(h:Rd H a (.dK kvs)):Rd H' a (.dK kvs):=by
 rcases h with h|⟨o,h⟩
 ·rcases e _ _ h with q|⟨o,k,q,_⟩|⟨o,k,q,_⟩
  ·exact .inl q
  ·cases q
  ·cases q
 ·rcases e _ _ h with q|⟨o,k,q,_⟩|⟨o,k,q,_⟩
  ·exact .inr ⟨_,q⟩
  ·cases q
  ·cases q
theorem Ip.dT {H H':Hp}(e:Ip H H'){a:Addr}{kvs:List (List Key×V)}(h:Rd H a (.dT kvs)):Rd H' a (.dT kvs):=by
 rcases h with h|⟨o,h⟩
 ·rcases e _ _ h with q|⟨o,k,q,_⟩|⟨o,k,q,r⟩
  ·exact .inl q
  ·cases q
  ·cases q;exact .inr ⟨_,r⟩
 ·rcases e _ _ h with q|⟨o,k,q,r⟩|⟨o,k,q,_⟩
  ·exact .inr ⟨_,q⟩
  ·cases q;exact .inl r
  ·cases q
theorem Ip.ins {H H':Hp}(e:Ip H H'){a C dx:Addr}{fs:List (Str×V)}(h:H a=some (.ins C dx fs)):H' a=some (.ins C dx fs):=by
 rcases e _ _ h with q|⟨o,k,q,_⟩|⟨o,k,q,_⟩
 ·exact q
 ·cases q
 ·cases q
theorem Ip.ext {H H':Hp}(e:Ip H H'){a:Addr}{φ:Heap->Prop}(h:H a=some (.ext φ)):H' a=some (.ext φ):=by
 rcases e _ _ h with q|⟨o,k,q,_⟩|⟨o,k,q,_⟩
 ·exact q
 ·cases q
 ·cases q
theorem Ip.seq {K:zc}{H H':Hp}(e:Ip H H'){a:Addr}{xs:List V}(h:C1 K H a xs):C1 K H' a xs:=by
 rcases h with (h|⟨o,h⟩)|h
 ·rcases e _ _ h with q|⟨o,k,q,_⟩|⟨o,k,q,_⟩
  ·exact .inl (.inl q)
  ·cases q
  ·cases q
 ·rcases e _ _ h with q|⟨o,k,q,_⟩|⟨o,k,q,_⟩
  ·exact .inl (.inr ⟨_,q⟩)
  ·cases q
  ·cases q
 ·exact .inr h
mutual
theorem AW.Eb {K:zc}{H H':Hp}(e:Ip H H'):∀ {v:V}{d:D},AW K H v d->AW K H' v d
 |_,_,.Aw=>.Aw
 |_,_,.bl b=>.bl b
 |_,_,.int i=>.int i
 |_,_,.str x=>.str x
 |_,_,.tup h r=>.tup (e.tup h) (Ab.Eb e r)
 |_,_,.lst h r=>.lst (e.seq h) (Ab.Eb e r)
 |_,_,.E5 h r=>.E5 (e.dK h) (Ab.Eb e r)
 |_,_,.D2 h r=>.D2 (e.dT h) (Ab.Eb e r)
 |_,_,.ins n h r=>.ins n (e.ins h) (Ab.Eb e r)
 |_,_,.BY h r=>.BY h (e.ext r)
theorem Ab.Eb {K:zc}{H H':Hp}(e:Ip H H'):∀ {vs:List V}{ds:List D},Ab K H vs ds->Ab K H' vs ds
 |_,_,.nil=>.nil
 |_,_,.cons h t=>.cons (AW.Eb e h) (Ab.Eb e t)
end
mutual
theorem AY.Eb {K:zc}{H H':Hp}{P P':Addr->Prop}(sm:Ip (del H P) (del H' P')):∀ {v:V}{t:OT}{fp:List Addr},(∀a∈fp,H' a=H a)->AY K H P v t fp->AY K H' P' v t fp
 |_,_,_,_,.sh h=>.sh (h.Eb sm)
 |_,_,_,k,.lst h r=>.lst ((k _ zd).trans h) (Ak.Eb sm (λ a ha=>k a (zf _ ha)) r)
 |_,_,_,k,.tup h r=>.tup (sm.tup h) (Ak.Eb sm k r)
 |_,_,_,k,.dT h r=>.dT ((k _ zd).trans h) (Ak.Eb sm (λ a ha=>k a (zf _ ha)) r)
 |_,_,_,k,.dK h r=>.dK ((k _ zd).trans h) (Ak.Eb sm (λ a ha=>k a (zf _ ha)) r)
 |_,_,_,k,.ins n h r=>.ins n ((k _ zd).trans h) (Ak.Eb sm (λ a ha=>k a (zf _ ha)) r)
theorem Ak.Eb {K:zc}{H H':Hp}{P P':Addr->Prop}(sm:Ip (del H P) (del H' P')):∀ {v:List V}{t:List OT}{fp:List Addr},(∀a∈fp,H' a=H a)->Ak K H P v t fp->Ak K H' P' v t fp
 |_,_,_,_,.nil=>.nil
 |_,_,_,k,.cons h r=>.cons (AY.Eb sm (λ a ha=>k a (zB _ ha)) h) (Ak.Eb sm (λ a ha=>k a (zg _ ha)) r)
end
theorem Bh.Eb {K:zc}{H H':Hp}{P P':Addr->Prop}(sm:Ip (del H P) (del H' P')):∀ {ps:List Addr}{CS:List (List D)},(∀a∈ps,H' a=H a)->Bh K H P ps CS->Bh K H' P' ps CS
 |_,_,_,.nil=>.nil
 |_,_,k,.cons h r t=>.cons ((k _ zd).trans h) (r.Eb sm) (Bh.Eb sm (λ a ha=>k a (zf _ ha)) t)
theorem Bm.Eb {K:zc}{H H':Hp}{P P':Addr->Prop}(sm:Ip (del H P) (del H' P')){c:Cl}{v:V}{fp:List Addr}(k:∀a∈fp,H' a=H a)(h:Bm K H P c v fp):Bm K H' P' c v fp:=by
 cases c with
 |val d=>exact h
 |own ds =>
  obtain⟨p,xs,rfl,rfl,h1,h2⟩:=h;exact⟨p,xs,rfl,rfl,(k p zd).trans h1,h2.Eb sm⟩
 |ow o =>
  cases o with
  |rows CS =>
   obtain⟨p,ps,rfl,rfl,h1,h2⟩:=h;exact⟨p,ps,rfl,rfl,(k p zd).trans h1,h2.Eb sm λ a ha=>k a (zf _ ha)⟩
  |G3 p ds =>
   obtain⟨p,xs,rfl,rfl,h1,h2⟩:=h;exact⟨p,xs,rfl,rfl,(k p zd).trans h1,h2.Eb sm⟩
  |tree p t=>exact AY.Eb sm k h
theorem Ac.Eb {K:zc}{P0:BO}{P:Addr->Prop}{H H':Hp}{σ:St}{ρ:A6}(E:Ac K P0 P H σ ρ)(k:∀a,P a->H' a=H a)(sm:Ip (del H P) (del H' P)):Ac K P0 P H' σ ρ:=by
 have key:∀(j:Nat) (d:Cl) (w:V) (fq:List Addr),ρ[j]?=some (some d)->σ[j]?=some (some w)->Bm K H' P d w fq->Bm K H P d w fq:=λ j d w fq hk sk ho=>by
  have io:D5 d=true:=by cases d<;>first|rfl|exact ho.elim
  obtain⟨w',aN,s2,o2,h3,_⟩:=E.ows j d hk io;rw[sk] at s2;cases s2;have o3:=o2.Eb sm λ a ha=>k a (h3 a ha).1;rw[ho.Bg o3];exact o2
 exact⟨E.sub,λ a h=>by obtain⟨o,z,y⟩:=E.BG a h;exact⟨o,(k a h).trans z,y⟩,λ i d h=>let ⟨v,h1,h2⟩:=E.val i d h;⟨v,h1,h2.Eb sm⟩,
  λ i c h io=>let ⟨v,fp,h1,h2,h3,h4⟩:=E.ows i c h io;⟨v,fp,h1,h2.Eb sm λ a ha=>k a (h3 a ha).1,h3,h4⟩,
  λ i j c c' v v' fp ae hi hj si sj h h' ac=>E.apart i j c c' v v' fp ae hi hj si sj (key i c v fp hi si h) (key j c' v' ae hj sj h') ac,E.len,E.pin⟩
def Yl (H0:Hp)(H H':Hp):Prop:=H'=H\/∃a o kvs,H a=some (.dT kvs)/\H'=upd H a (.Cn o (.dT kvs))/\∀o u,H0 a≠some (.Cn o u)
def Ym (H0:Hp)(H H':Hp):Prop:=H'=H\/∃a o kvs,H a=some (.Cn o (.dT kvs))/\H'=upd H a (.dT kvs)/\∀o u,H0 a≠some (.Cn o u)
theorem Inv.YD {X:Cx}{pins:List (Addr×Obj)}{σ:St}{H H':Hp}{s:Shared}(I:Inv X pins σ H s)(u:Ym X.H₀ H H'):Inv X pins σ H' s:=by
 rcases u with rfl|⟨a,o,kvs,e,rfl,n0⟩
 ·exact I
 ·exact I.O8 e n0
noncomputable def UR (H0:Hp)(t:TE):TE:=λ σ H Q=>t σ H λ v H2=>∃H3,Ym H0 H2 H3/\Q v H3
theorem US {X:Cx}{e:Expr}{t:TE}(h:PE X e t):PE X e (UR X.H₀ t):=by
 intro pins s σ H Q I q;refine AV (h pins s σ H _ I q) λ v s1 ⟨x,H1,I1,r1,q1⟩=>?_;obtain⟨H3,u,q⟩:=q1;exact⟨x,H3,I1.YD u,r1,q⟩
def WA (X:Cx)(WX:Str->Hp->Prop)(tg iter:Expr)(f:A6->M (List D)):Prop:=
 ∃wi,PI X tg iter wi/\∀P0 P σ H R ρ,Ac X.K P0 P H σ ρ->(match f ρ with | .ok ds=>∀J H1 H',A9 H H1->Yl X.H₀ H1 H'->(∀b,P b->H' b=H1 b)->Ip (del H1 P) (del H' P)->M0 X.K J P H' ds->R J H' | .ex x=>∀H',A9 H H'->WX x H' | .bad=>False)->wi σ H R
noncomputable def Nh (d:D):M (List D):=match d with | .AS true ks _=>.ok ks | _=>.bad
theorem HN {K:zc}{H:Hp}:∀ks:List Key,Ab K H (ks.map kV) (ks.map Be)
 |[]=>.nil
 |k::ks=>.cons (S9 k) (HN ks)
theorem Ni {K:zc}{P:Addr->Prop}{H:Hp}{a:Addr}{o:Obj}{kvs:List (List Key×V)}(nP:¬ P a)(e:H a=some (.Cn o (.dT kvs))):M0 K (Qy a o kvs) P H (kvs.map λ kv=>.tup (kv.1.map Be)):=by
 have at':∀ {P':Addr->Prop} {H':Hp},A9 (del H P) (del H' P')->H' a=some (.Cn o (.dT kvs)):=λ s=>(Ag (s a _ (by rw[Ao nP];exact e))).2;refine⟨λ i P' H' s hi=>⟨at' s,by rw[zh] at hi;exact hi⟩,λ i P' H' s hi=>⟨at' s,by rw[zh] at hi;exact hi⟩,λ i P' H' v bF d s ht hd y=>?_⟩;obtain⟨rfl,kv,t,hk,rfl,gN⟩:=y;rw[zy,hk] at hd;cases hd;have nt:¬ P' t:=λ z=>by
  obtain⟨ob,z1,z2⟩:=ht t z;rw[gN] at z1;cases z1;exact (z2 _).1 rfl
 exact⟨A9.refl _,.tup (by rw[Ao nt];exact gN) (HN _)⟩
section
variable {X:Cx}{WX:Str->Hp->Prop}{c:Bool}{P0:BO}{P:Addr->Prop}{H:Hp}{σ:St}{ρ:A6}{a b e tg iter:Expr}{f g:A6->M D}{ft:A6->M Bool}{pos:Pos}{gt:D->A6->M A6}{fi:A6->M (List D)}{es:List Expr}{fs:A6->M (List D)}
theorem Lg (ha:DE X WX true e f):WA X WX tg e (λ ρ=>(f ρ).bind Nh):=by
 obtain⟨ta,a1,a2⟩:=ha;refine⟨_,Qz a1,λ P0 P σ H R ρ E h=>?_⟩;dsimp only at h;refine a2 P0 P σ H _ ρ E ?_;cases q:f ρ with
 |bad|ex x=>rw[q] at h;exact h
 |ok d =>
  rw[q] at h;simp only[M.A7] at h;unfold Nh at h;cases d with
  |AS t ks vs =>
   intro v H1 s1 hv;cases hv with
   | @D2 a kvs _ hh hl =>
    rcases hh with hh|⟨o,hh⟩
    ·obtain⟨nP,ea⟩:=Ag hh;refine⟨a,kvs,rfl,.inl ⟨ea,λ o n0=>h _ H1 _ s1 (.inr ⟨a,o,kvs,ea,rfl,n0⟩) (λ b hb=>A5 λ z=>nP (by rw[<-z];exact hb)) (λ b u q=>?_) (Ni nP Ae)⟩⟩;obtain⟨n,q'⟩:=Ag q;by_cases hb:b=a
     ·subst hb;rw[ea] at q';cases q';exact .inr (.inr ⟨o,kvs,rfl,by rw[Ao n];exact Ae⟩)
     ·exact .inl (by rw[Ao n,A5 hb];exact q')
    ·obtain⟨nP,ea⟩:=Ag hh;exact⟨a,kvs,rfl,.inr ⟨o,ea,h _ H1 H1 s1 (.inl rfl) (λ _ _=>rfl) (λ _ _ q=>.inl q) (Ni nP ea)⟩⟩
   |E5 _ _=>exact h.elim
  |_=>exact h.elim
theorem QA {μ:List (Option Nat)}{wi:TI}{gg:TG}{tc:Shared->Hp->Addr->List Addr->TT}{te:Shared->Hp->Addr->List Addr->TE}{fe:A6->M D}
 (i2:∀P0 P σ H R ρ,Ac X.K P0 P H σ ρ->(match fi ρ with | .ok ds=>∀J H1 H',A9 H H1->Yl X.H₀ H1 H'->(∀b,P b->H' b=H1 b)->Ip (del H1 P) (del H' P)->M0 X.K J P H' ds->R J H' | .ex x=>∀H',A9 H H'->WX x H' | .bad=>False)->wi σ H R)
 (g2:∀P0 P σ H Q ρ v d,Ac X.K P0 P H σ ρ->AW X.K (del H P) v d->gG X.K P0 P H Q (gt d ρ)->gg v σ H Q)
 (t2:∀s H' C ex P0 P σ H Q ρ,Ac X.K P0 P H σ ρ->gT (λ _ _=>False) H Q (ft ρ)->tc s H' C ex σ H Q)
 (e2:∀s H' C ex P0 P σ H Q ρ,Ac X.K P0 P H σ ρ->gV X.K (λ _ _=>False) (Lv true P0 P) H Q (fe ρ)->te s H' C ex σ H Q) {Q:VK}
 (E:Ac X.K P0 P H σ ρ) (h:QM X.K WX P H Q ((fi ρ).bind λ ds=>if ds.length<=1000 then EO (AH gt ft fe ds (AB μ ρ)) else .bad)):UR X.H₀ (KA wi μ gg tc te) σ H Q:=by
 unfold UR;refine i2 P0 P σ H _ ρ E ?_;cases q:fi ρ with
 |bad|ex x=>rw[q] at h;exact h
 |ok ds =>
  rw[q] at h;simp only[M.A7] at h;by_cases hd:¬ ds.length<=1000
  ·rw[if_neg hd] at h;exact h.elim
  have hd:ds.length<=1000:=by omega
  rw[if_pos hd] at h;intro J H0 H1 s0 fz kP rz ok s C ex;cases qc:AH gt ft fe ds (AB μ ρ) with
  |bad|ex x=>rw[qc] at h;exact h.elim
  |ok total =>
   rw[qc] at h;unfold EO at h;dsimp only at h;have E1:Ac X.K P0 P H1 σ ρ:=(E.same s0).Eb kP rz;refine⟨λ i m ys H2=>m=ds.length-i/\i<=ds.length/\ys.length<=i/\A9 H1 H2/\∃es rest,Ab X.K (del H2 P) ys es/\AH gt ft fe (ds.drop i) (AB μ ρ)=.ok rest/\es++rest=total,
    ⟨ds.length,by simp,zR _,zp _,A9.refl _,[],total,.nil,by rw[List.drop_zero];exact qc,rfl⟩,?_⟩
   rintro i m ys H2 ⟨rfl,hi,hy,s2,es,rest,a6,ab,aq⟩;by_cases ag:i<ds.length
   ·refine .inr ⟨ok.go i P H2 s2.del ag,Nat.lt_of_le_of_lt hy (AM (by omega)),λ aw H'=>i+1<=ds.length/\aw.length<=i+1/\A9 H1 H'/\∃es rest,Ab X.K (del H' P) aw es/\AH gt ft fe (ds.drop (i+1)) (AB μ ρ)=.ok rest/\es++rest=total,λ aw H' hq=>⟨ds.length-(i+1),by omega,rfl,hq.1,hq.2.1,hq.2.2.1,hq.2.2.2⟩,λ v H3 y=>?_⟩;have E2:=E1.same s2;obtain⟨s3,hv⟩:=ok.R5 i P H2 v H3 ds[i] s2.del E2.BG (zu ag) y;rw[D8 ag,AH] at ab;have E3:=(E2.same s3).block μ;refine g2 P0 P _ H3 _ (AB μ ρ) v ds[i] E3 hv ?_;cases q1:gt ds[i] (AB μ ρ) with
    |bad|ex x=>rw[q1] at ab;cases ab
    |ok ρ1 =>
     rw[q1] at ab;dsimp only at ab;intro σ4 E4;refine t2 s H1 C ex P0 P σ4 H3 _ ρ1 E4 ?_;cases q2:ft ρ1 with
     |bad|ex x=>rw[q2] at ab;cases ab
     |ok k =>
      rw[q2] at ab;dsimp only at ab;intro H5 s5;cases k with
      |false =>
       simp only[zv,if_false] at ab ⊢;exact⟨ag,by omega,(s2.trans s3).trans s5,es,rest,(a6.mono s3.del).mono s5.del,ab,aq⟩
      |true =>
       simp only[if_true] at ab ⊢;refine e2 s H1 C ex P0 P σ4 H5 _ ρ1 (E4.same s5) ?_;cases q3:fe ρ1 with
       |bad|ex x=>rw[q3] at ab;cases ab
       |ok y' =>
        rw[q3] at ab;dsimp only at ab;cases q4:AH gt ft fe (ds.drop (i+1)) (AB μ ρ) with
        |bad|ex x=>rw[q4] at ab;cases ab
        |ok cG =>
         rw[q4] at ab;cases ab;intro w H6 s6 hw;refine⟨ag,by rw[zT,yn];omega,((s2.trans s3).trans s5).trans s6,es++[y'],cG,(((a6.mono s3.del).mono s5.del).mono s6.del).snoc hw,rfl,?_⟩;rw[y3];exact aq
   ·have e:i=ds.length:=by omega
    subst e;rw[yB,AH] at ab;cases ab;rw[yk] at aq;subst aq;refine .inl ⟨ok.stop _ P H2 s2.del (zp _),λ D0 hn=>?_⟩;rcases fz with rfl|⟨a,o,kvs,ea,rfl,n0⟩
    ·exact⟨_,.inl rfl,h.GR (s0.trans s2) a6 D0 hn⟩
    ·have e2:H2 a=some (.Cn o (.dT kvs)):=s2 a _ Ae;have nP:¬ P a:=λ z=>by
      have:=kP a z;rw[Ae,ea] at this;cases this
     have ac:a≠D0:=λ z=>by rw[<-z,e2] at hn;cases hn
     have ec:upd (upd H2 D0 (.lst ys)) a (.dT kvs)=upd (upd H2 a (.dT kvs)) D0 (.lst ys):=by
      funext b;by_cases hb:b=a
      ·subst hb;rw[Ae,A5 ac,Ae]
      ·rw[A5 hb];by_cases hd:b=D0
       ·subst hd;rw[Ae,Ae]
       ·rw[A5 hd,A5 hd,A5 hb]
     refine⟨upd (upd H2 D0 (.lst ys)) a (.dT kvs),.inr ⟨a,o,kvs,by rw[A5 ac];exact e2,rfl,n0⟩,?_⟩;rw[ec];have su:A9 H (upd H2 a (.dT kvs)):=s0.trans λ b u q=>by
      by_cases hb:b=a
      ·subst hb;rw[ea] at q;cases q;exact Ae
      ·rw[A5 hb];exact s2 b u (by rw[A5 hb];exact q)
     refine h.GR su (a6.Eb λ b u q=>?_) D0 (by rw[A5 (zU ac)];exact hn);by_cases hb:b=a
     ·subst hb;rw[Ao nP,e2] at q;cases q;exact .inr (.inl ⟨o,kvs,rfl,by rw[Ao nP];exact Ae⟩)
     ·refine .inl ?_;obtain⟨n,q'⟩:=Ag q;rw[Ao n,A5 hb];exact q'
theorem J3 {scope:Scope}{NB:List Str}{ifs:List Expr}{elt:Expr}{fe:A6->M D}(μ:List (Option Nat))(hc:X.calm=true)(hi:WA X WX tg iter fi)(am:EB scope X.env.scope=true)(a9:Ji X.N NB scope μ=true)(hg:WU X scope NB μ tg gt)
 (ht:∀s H C ex,WV (blockOf X s H scope C NB ex) ifs ft) (he:∀s H C ex,DE (blockOf X s H scope C NB ex) (λ _ _=>False) true elt fe) (hs:∀x,foldedSetIterable iter X.env x=pure x:=by intro _;rfl):
 DN X WX (.ListComp elt [⟨tg,iter,ifs,0⟩] scope pos) (λ ρ=>(fi ρ).bind λ ds=>if ds.length<=1000 then EO (AH gt ft fe ds (AB μ ρ)) else .bad):=by
 obtain⟨wi,i1,i2⟩:=hi;obtain⟨gg,g1,gk,g2⟩:=hg;refine⟨_,US (MN hc i1 am a9 gk (λ s H C ex=>⟨g1 s H C ex,(ze (ht s H C ex)).1,(ze (he s H C ex)).1⟩) hs),λ P0 P σ H Q ρ E h=>?_⟩;exact QA i2 g2 (λ s H' C ex P0 P σ H Q ρ E h=>(ze (ht s H' C ex)).2 P0 P σ H Q ρ E h) (λ s H' C ex P0 P σ H Q ρ E h=>(ze (he s H' C ex)).2 P0 P σ H Q ρ E h) E h
end
noncomputable def Bs (m:Nat)(R:RA):List Co:=(yt m).map λ i:Nat=>Ax R (i:Int)
noncomputable def bt (R:RA)(y:Int)(v:Int×Int):Bool:=match Ax R y with
 |none=>true
 |some z=>decide (v.1<z.1\/(v.1=z.1/\v.2<z.2))
theorem WB {R:RA}{y:Int}{v:Int×Int}(h:bt R y v=true):BF (some v) (Ax R y)/\some v≠Ax R y:=by
 unfold bt at h;cases q:Ax R y with
 |none=>exact⟨trivial,λ z=>by cases z⟩
 |some z =>
  rw[q] at h;have h':v.1<z.1\/(v.1=z.1/\v.2<z.2):=by simpa using h
  refine⟨by simp only[BF];omega,λ e=>?_⟩;cases e;omega
theorem SM {R:RA}{y:Int}{v:Int×Int}(h:bt R y v=false):BF (Ax R y) (some v):=by
 unfold bt at h;cases q:Ax R y with
 |none=>rw[q] at h;cases h
 |some z =>
  rw[q] at h;have h':¬ (v.1<z.1\/(v.1=z.1/\v.2<z.2)):=by simpa using h
  simp only[BF];omega
theorem Mu {m:Nat}{R:RA}{y:Int}{v:Int×Int}(h0:0<=y):Bs m (B3 R y v)=(Bs m R).set y.toNat (some v):=by
 unfold Bs;apply List.ext_getElem?;intro i;rw[List.getElem?_set,zy,zy,zh,List.length_range];by_cases hi:i<m
 ·rw[List.getElem?_range hi,ya,ya,C5];by_cases e:y.toNat=i
  ·rw[if_pos e,if_pos (by omega),if_pos (by omega)]
  ·rw[if_neg e,if_neg (by omega)]
 ·rw[List.getElem?_eq_none (by rw[List.length_range];omega)];by_cases e:y.toNat=i
  ·rw[if_pos e,if_neg (by omega)];rfl
  ·rw[if_neg e];rfl
theorem O9 {m:Nat}{R:RA}{y:Int}(h0:0<=y)(h1:y<m):(Bs m R)[y.toNat]?=some (Ax R y):=by
 unfold Bs;rw[zy,List.getElem?_range (by omega),ya,Int.toNat_of_nonneg h0]
structure QQ (m:Nat)(rs:List Road)(s:Int)(W:List Int)(R:RA):Prop where
 nd:(R.map zF).Nodup
 rg:∀k∈R.map zF,0<=k/\k<(m:Int)
 sd:∀y c,Ax R y=some c->Wi rs s W y c
 st:BF (Ax R s) (some (0,0))
def X4 (rs:List Road)(s:Int)(W:List Int)(R:RA):Prop:=∀r∈rs,∀l c,r.l=some l->Ax R r.a=some c->(r.a=s\/r.a∈W)->BF (Ax R r.b) (some (c.1+l,c.2+1))
section
variable {m:Nat}{rs:List Road}{s:Int}{W:List Int}{R:RA}
theorem QQ.start (h0:0<=s)(h1:s<m):QQ m rs s W [(s,(0,0))]:=by
 have e:∀y,Ax ([(s,(0,0))]:RA) y=if s=y then some (0,0) else none:=λ y=>rfl
 refine⟨by simp,λ k hk=>by simp at hk;omega,λ y c h=>?_,?_⟩
 ·rw[e] at h;by_cases q:s=y
  ·rw[if_pos q] at h;cases h;subst q;exact .nil
  ·rw[if_neg q] at h;cases h
 ·rw[e,if_pos rfl];exact BA _
theorem Wi.nn (An:∀r∈rs,FO m r){y:Int}{c:Int×Int}(h:Wi rs s W y c):0<=c.1/\0<=c.2:=by
 induction h with
 |nil=>exact⟨Int.le_refl _,Int.le_refl _⟩
 | @snoc x c r l _ h1 h2 h3 h4 ih =>
  have:=(An r h1).l0 l h3;exact⟨by dsimp only;omega,by dsimp only;omega⟩
theorem QQ.put (h:QQ m rs s W R)(An:∀r∈rs,FO m r){r:Road}{l:Int}{c:Int×Int}(hr:r∈rs)(hl:r.l=some l)(hc:Ax R r.a=some c)(hi:r.a=s\/r.a∈W)(hb:bt R r.b (c.1+l,c.2+1)=true):
 QQ m rs s W (B3 R r.b (c.1+l,c.2+1))/\GO ltN (Bs m (B3 R r.b (c.1+l,c.2+1))) (Bs m R):=by
 have ok:=An r hr;have wi:Wi rs s W r.b (c.1+l,c.2+1):=.snoc (h.sd _ _ hc) hr rfl hl hi;obtain⟨b1,b2⟩:=WB hb;refine⟨⟨DU h.nd,λ k hk=>?_,λ y d hd=>?_,?_⟩,?_⟩
 ·rcases HI hk with hk|hk
  ·exact h.rg k hk
  ·rw[hk];exact⟨ok.b0,ok.b1⟩
 ·rw[C5] at hd;by_cases e:y=r.b
  ·rw[if_pos e] at hd;cases hd;rw[e];exact wi
  ·rw[if_neg e] at hd;exact h.sd y d hd
 ·rw[C5];by_cases e:s=r.b
  ·rw[if_pos e];rw[<-e] at b1;exact AI b1 h.st
  ·rw[if_neg e];exact h.st
 ·rw[Mu ok.b0];exact MW ltN (O9 ok.b0 ok.b1) ⟨by have:=wi.nn An;simp only[NN];omega,b1,b2⟩
structure Vj (m:Nat)(rs:List Road)(s:Int)(W:List Int)(R:RA):Prop where
 nd:(R.map zF).Nodup
 rg:∀k∈R.map zF,0<=k/\k<(m:Int)
 sd:∀y c,Ax R y=some c->Wi rs s W y c
 le:∀y c,Wi rs s W y c->BF (Ax R y) (some c)
theorem QQ.fin (h:QQ m rs s W R)(hc:X4 rs s W R):Vj m rs s W R:=by
 refine⟨h.nd,h.rg,h.sd,λ y c hw=>?_⟩;induction hw with
 |nil=>exact h.st
 | @snoc x c r l _ h1 h2 h3 h4 ih =>
  obtain⟨d,hd,hle⟩:=JV ih;rw[<-h2] at hd h4;refine AI (hc r h1 l d h3 hd h4) ?_;simp only[BF,Oj] at *;omega
end
theorem UT {m:Nat}{rs:List Road}{L:List Int}(hL:L.Perm (B2 m))(An:∀r∈rs,FO m r/\r.a≠r.b){x y:Int}(hx:x∈L)(hy:y∈L)(ac:x≠y){R:RA}(h:Vj m rs x (L.take (min (B0 L x) (B0 L y))) R):Ax R y=A3 (Al rs L) (x,y):=by
 have a:∀c,A3 (Al rs L) (x,y)=some c->BF (Ax R y) (some c):=λ c e=>h.le y c (Mr hL An _ hx hy ac rfl e);have b:∀c,Ax R y=some c->BF (A3 (Al rs L) (x,y)) (some c):=λ c e=>Qu hL An hx hy ac (h.sd y c e);cases e1:Ax R y with
 |none =>
  cases e2:A3 (Al rs L) (x,y) with
  |none=>rfl
  |some c=>have:=a c e2;rw[e1] at this;exact this.elim
 |some c =>
  cases e2:A3 (Al rs L) (x,y) with
  |none=>have:=b c e1;rw[e2] at this;exact this.elim
  |some c' =>
   have p:=a c' e2;have q:=b c e1;rw[e1] at p;rw[e2] at q;exact L0 p q
theorem UU (C:CA)(p:Int×Int)(c:Int×Int):putD (C.map λ kv=>pD kv.1) (C.map λ kv=>cst (some kv.2)) (pD p) (cst (some c))=((B3 C p c).map (λ kv=>pD kv.1),(B3 C p c).map λ kv=>cst (some kv.2)):=ER (kf:=pD) (vf:=λ c=>cst (some c)) Fz C p c
theorem J4 {C:CA}{p:Option Nat}{ρ:A6}:BS 0 (some (.ow (.tree p (L8 C)))::ρ) []=.ok (true,C.map (λ kv=>pD kv.1),C.map λ kv=>cst (some kv.2)):=Br
theorem Se (a b:Nat):(if (b:Int)<a then (b:Int) else a)=((min a b:Nat):Int):=by split<;>omega
theorem Gb {α:Type}{a b:Prop}[Decidable a][Decidable b]{x y:α}(h:a↔b):(if a then x else y)=if b then x else y:=by
 by_cases e:a
 ·rw[if_pos e,if_pos (h.mp e)]
 ·rw[if_neg e,if_neg (λ z=>e (h.mpr z))]
structure Ie (L:List Int)(A:LA)(U:List Int)(u:Int)(V:List Int)(C:CA):Prop where
 nd:(C.map zF).Nodup
 at':∀x y,Ax C (x,y)=if (x∈U\/(x=u/\y∈V))/\y∈L/\x≠y then A3 A (x,y) else none
section
variable {L U V:List Int}{A:LA}{u w:Int}{C:CA}
theorem Ie.start:Ie L A [] u [] []:=⟨by simp,λ x y=>by rw[if_neg (λ h=>by rcases h.1 with z | z;cases z;cases z.2)];rfl⟩
theorem Ie.none (h:Ie L A U u V C)(hw:u=w\/A3 A (u,w)=none):Ie L A U u (V++[w]) C:=by
 refine⟨h.nd,λ x y=>?_⟩;rw[h.at'];by_cases e:x=u/\y=w
 ·obtain⟨rfl,rfl⟩:=e;rcases hw with hw|hw
  ·rw[if_neg (λ z=>z.2.2 hw),if_neg (λ z=>z.2.2 hw)]
  ·rw[hw];split<;>split<;>rfl
 ·have:(x∈U\/(x=u/\y∈V))↔(x∈U\/(x=u/\y∈V++[w])):=by
   rw[zE,zl];constructor
   ·rintro (z|z)
    ·exact .inl z
    ·exact .inr ⟨z.1,.inl z.2⟩
   ·rintro (z|⟨z1,z2|z2⟩)
    ·exact .inl z
    ·exact .inr ⟨z1,z2⟩
    ·exact absurd ⟨z1,z2⟩ e
  exact Gb (and_congr this Iff.rfl)
theorem Ie.put (h:Ie L A U u V C){c:Int×Int}(hc:A3 A (u,w)=some c)(hw:w∈L)(ac:u≠w):Ie L A U u (V++[w]) (B3 C (u,w) c):=by
 refine⟨DU h.nd,λ x y=>?_⟩;rw[C5];by_cases e:(x,y)=(u,w)
 ·cases e;rw[if_pos rfl,if_pos ⟨.inr ⟨rfl,by simp⟩,hw,ac⟩,hc]
 ·rw[if_neg e,h.at'];have:(x∈U\/(x=u/\y∈V))↔(x∈U\/(x=u/\y∈V++[w])):=by
   rw[zE,zl];constructor
   ·rintro (z|z)
    ·exact .inl z
    ·exact .inr ⟨z.1,.inl z.2⟩
   ·rintro (z|⟨z1,z2|z2⟩)
    ·exact .inl z
    ·exact .inr ⟨z1,z2⟩
    ·exact absurd (by rw[z1,z2]) e
  exact Gb (and_congr this Iff.rfl)
theorem Ie.next (h:Ie L A U u L C)(u':Int):Ie L A (U++[u]) u' [] C:=by
 refine⟨h.nd,λ x y=>?_⟩;rw[h.at'];by_cases hy:y∈L
 ·have:(x∈U\/(x=u/\y∈L))↔(x∈U++[u]\/(x=u'/\y∈([]:List Int))):=by
   rw[zE,zl];constructor
   ·rintro (z|z)
    ·exact .inl (.inl z)
    ·exact .inl (.inr z.1)
   ·rintro ((z|z)|z)
    ·exact .inl z
    ·exact .inr ⟨z,hy⟩
    ·cases z.2
  exact Gb (and_congr this Iff.rfl)
 ·rw[if_neg (λ z=>hy z.2.1),if_neg (λ z=>hy z.2.1)]
theorem Ie.any (h:Ie L A U u [] C)(u':Int):Ie L A U u' [] C:=⟨h.nd,λ x y=>by
 rw[h.at'];have:(x∈U\/(x=u/\y∈([]:List Int)))↔(x∈U\/(x=u'/\y∈([]:List Int))):=⟨(λ z=>z.imp id λ q=>by cases q.2),(λ z=>z.imp id λ q=>by cases q.2)⟩;exact Gb (and_congr this Iff.rfl)⟩
theorem Ie.len {m:Nat}(h:Ie L A U u V C)(hA:Dl m A)(hm:m<=20):C.length<1000:=by
 have:=DR h.nd (u:=A.map zF) λ p hp=>by
  rw[<-C6] at hp ⊢;obtain⟨x,y⟩:=p;rw[h.at'] at hp;split at hp
  ·unfold A3 at hp;cases q:Ax A (x,y) with
   |none=>rw[q] at hp;cases hp
   |some z=>rfl
  ·cases hp
 rw[zh,zh] at this;have:=hA.len hm;omega
theorem Ie.fin {m:Nat}{rs:List Road}(hL:L.Perm (B2 m))(An:∀r∈rs,FO m r/\r.a≠r.b)(h:Ie L (Al rs L) L u [] C)(p:Int×Int):Ax C p=A3 (Al rs L) p:=by
 obtain⟨x,y⟩:=p;rw[h.at'];by_cases e:(x∈L\/(x=u/\y∈([]:List Int)))/\y∈L/\x≠y
 ·rw[if_pos e]
 ·rw[if_neg e];cases q:A3 (Al rs L) (x,y) with
  |none=>rfl
  |some c =>
   obtain⟨_,h2,h3,h4⟩:=(Cj hL An).2.snd x y c q;exact absurd ⟨.inl ((Bk hL).mpr h3),(Bk hL).mpr h4,h2⟩ e
end
theorem UW (A:LA):Nh (QO A)=.ok (A.map λ kv=>pD kv.1):=rfl
theorem UX (C:CA):Nh (Qo C)=.ok (C.map λ kv=>pD kv.1):=rfl
section
variable {m:Nat}{rs:List Road}{L:List Int}{C:CA}
theorem QB (iR:((Al rs L).map zF).Nodup)(hn:(C.map zF).Nodup)(hC:∀p,Ax C p=A3 (Al rs L) p):C.length=(Al rs L).length:=by
 have hm:∀y,y∈C.map zF↔y∈(Al rs L).map zF:=λ y=>by
  rw[<-C6,<-C6,hC];unfold A3;cases Ax (Al rs L) y<;>simp
 have:=((List.perm_ext_iff_of_nodup hn iR).mpr hm).length_eq;rwa[zh,zh] at this
end
section
variable {P:Program}{w:World}{A:Around}{E:Value->Shared->Prop}{s:Shared}{a b:Addr}
noncomputable abbrev TK (P:Program)(w:World):=tupleKind (AD P w)
structure UY (P:Program)(w:World)(h:Heap)(d:Addr)(es:Array DictEntry)(ep:Nat)(xs:List (List Key×Addr×Value)):Prop where
 ob:K1 h d es ep
 en:es.toList=xs.map (entryOfKey (TK P w))
 is:∀x∈xs,(TK P w).is h x.1 x.2.1
 nd:(xs.map (·.1)).Nodup
theorem Nj {nm:String}{es aP:Array DictEntry}{ep aI:Nat}{xs ar:List (List Key×Addr×Value)}{Q:Bool->Shared->Prop}(ha:(a==sysModules)=false)(hb:(b==sysModules)=false)(hu:(TK P w).room A)
 (da:UY P w s.heap a es ep xs) (db:UY P w s.heap b aP aI ar) (hz:xs.length=ar.length) (hv:∀(i:Nat) x,xs[i]?=some x->∃(j:Nat) (p:Addr×Value),ar[j]?=some (x.1,p)/\SeqAt.EqAt A s x.2.2 p.2 true) (q:Q true s):wpAny (model P w) A (Builtin.Dict.samePairs nm a b) Q E s:=by
 obtain⟨oa,a1,_,a3⟩:=da.ob.at';obtain⟨ob,b1,_,b3⟩:=db.ob.at';have za:=size_of_entries da.en;have zb:=size_of_entries db.en;rw[Builtin.Dict.samePairs];apply wpAny_bind;rw[Builtin.Dict.showsAll,ha];refine wpAny_pure ?_;apply wpAny_bind;rw[Builtin.Dict.showsAll,hb];refine wpAny_pure ?_;apply wpAny_bind;apply wpAny_dictEntries a1 a3;dsimp only;apply wpAny_bind;apply wpAny_dictEntries b1 b3;rw[if_neg (by rw[za,zb,hz];simp)];apply wpAny_bind;apply wpAny_dictEpoch a1 a3;apply wpAny_bind;rw[Std.Legacy.Range.forIn_eq_forIn_range'];simp only[Std.Legacy.Range.size,Nat.sub_zero,Nat.add_sub_cancel,Nat.div_one];apply wpAny_forIn_list _ (λ rest z s'=>s'=s/\z=(none,())/\∀i∈rest,i<es.size) _ ?_ ?_ _ _ ⟨rfl,rfl,λ i hi=>by simpa using hi⟩
 ·rintro i rest z s' ⟨rfl,rfl,hr⟩;have hi:=hr i zd;apply wpAny_bind;apply wpAny_dictEntries a1 a3;obtain⟨x,hx⟩:∃x,xs[i]?=some x:=⟨xs[i]'(by omega),zu _⟩;have ex:es[i]?=some (entryOfKey (TK P w) x):=by rw[entry_at da.en i,hx];rfl
  rw[ex];obtain⟨j,p,hj,he⟩:=hv i x hx;refine wpAny_bind (m:=holding [(entryOfKey (TK P w) x).key,(entryOfKey (TK P w) x).val] _) ?_;apply wpAny_holding;refine wpAny_bind (m:=dictFind b (.ref x.2.1) ((TK P w).hash x.1)) ?_;refine wpAny_dictFind_heap (a:=x.2.1) (k:=x.1) hu (da.is x (zk hx)) b1 b3 db.en db.is db.nd (λ iS=>absurd hj (iS j p)) λ j' p' d3=>?_;have aI:p'=p:=by
   have:=idxH_unique db.nd d3 hj;subst this;rw[hj] at d3;cases d3;rfl
  subst aI;apply wpAny_bind;apply wpAny_dictEntries b1 b3;have ey:aP[j']?=some (entryOfKey (TK P w) (x.1,p')):=by rw[entry_at db.en j',d3];rfl
  rw[ey];apply wpAny_holding;apply he P w;show wpAny _ _ (ite ((!true)=true) _ _) _ _ _;rw[if_neg (by decide)];apply wpAny_bind;apply wpAny_dictEpoch a1 a3;rw[if_neg (by simp)];exact wpAny_pure ⟨rfl,rfl,λ k hk=>hr k (zf _ hk)⟩
 ·rintro z s' ⟨rfl,rfl,_⟩;exact wpAny_pure q
end
section
variable {P:Program}{w:World}{A:Around}{E:Value->Shared->Prop}{s:Shared}{a b:Addr}
theorem Sf {es aP:Array DictEntry}{ep aI:Nat}{xs ar:List (List Key×Addr×Value)}{Q:Value->Shared->Prop}(ha:(a==sysModules)=false)(hb:(b==sysModules)=false)(hu:A.units+1<cLine)
 (da:UY P w s.heap a es ep xs) (db:UY P w s.heap b aP aI ar) (hz:xs.length=ar.length) (hv:∀(i:Nat) x,xs[i]?=some x->∃(j:Nat) (p:Addr×Value),ar[j]?=some (x.1,p)/\SeqAt.EqAt A.in1 s x.2.2 p.2 true) (q:Q (.bool true) s):wpAny (model P w) A (compareOp .Eq (.ref a) (.ref b)) Q E s:=by
 have t1:=da.ob.ty;have t2:=db.ob.ty;refine wpAny_richCompare_same_room (op:=.Eq) t1 t2 F.slot_dict_eq ?_ (by omega);apply wpAny_call_entry F.slot_dict_eq t1 F.entry_dict_eq _ (F.args_dict_eq_2 _ _);refine wpAny_bind (m:=yv "__eq__" ⟨[.ref a,.ref b],[]⟩) ?_;rw[yv];apply wpAny_bind;apply wpAny_notOrdered_dict t1;refine wpAny_pure (a:=(yj a,yj b)) ?_;apply wpAny_bind;apply wpAny_isInstance (T := "dict") t2 F.sub_dict_dict;simp only[Bool.not_true,zv,if_false];refine wpAny_bind (wpAny_pure (wpAny_bind (wpAny_pure ?_)));apply wpAny_bind;refine Nj ha hb (tupleKind_room_in1 hu) da db hz hv ?_;exact wpAny_pure ⟨_,rfl,nofun,q⟩
theorem Sg {es aP:Array DictEntry}{ep aI:Nat}{xs ar:List (List Key×Addr×Value)}{Q:Value->Shared->Prop}(ha:(a==sysModules)=false)(hb:(b==sysModules)=false)(hu:A.units+1<cLine)
 (da:UY P w s.heap a es ep xs) (db:UY P w s.heap b aP aI ar) (hz:xs.length=ar.length) (hv:∀(i:Nat) x,xs[i]?=some x->∃(j:Nat) (p:Addr×Value),ar[j]?=some (x.1,p)/\SeqAt.EqAt A.in1 s x.2.2 p.2 true) (q:Q (.bool false) s):wpAny (model P w) A (compareOp .NotEq (.ref a) (.ref b)) Q E s:=by
 have t1:=da.ob.ty;have t2:=db.ob.ty;refine wpAny_richCompare_same_room (op:=.NotEq) t1 t2 F.slot_dict_ne ?_ (by omega);apply wpAny_call_entry F.slot_dict_ne t1 F.entry_dict_ne _ (F.args_dict_ne_2 _ _);refine wpAny_bind (m:=yv "__ne__" ⟨[.ref a,.ref b],[]⟩) ?_;rw[yv];apply wpAny_bind;apply wpAny_notOrdered_dict t1;refine wpAny_pure (a:=(yj a,yj b)) ?_;apply wpAny_bind;apply wpAny_isInstance (T := "dict") t2 F.sub_dict_dict;simp only[Bool.not_true,zv,if_false];refine wpAny_bind (wpAny_pure (wpAny_bind (wpAny_pure ?_)));apply wpAny_bind;refine Nj ha hb (tupleKind_room_in1 hu) da db hz hv ?_;exact wpAny_pure ⟨_,rfl,nofun,q⟩
end
section
variable {X:Cx}{WX:Str->Hp->Prop}{c:Bool}{P0:BO}{P:Addr->Prop}{H:Hp}{σ:St}{ρ:A6}{a b e:Expr}{f g:A6->M D}{pos p:Pos}
def XX (K:zc)(H:Hp)(ka kb:List (List Key×V)):Prop:=ka.length=kb.length/\∀(i:Nat) kv,ka[i]?=some kv->∃(j:Nat) (v:V) (d:D),kb[j]?=some (kv.1,v)/\AW K H kv.2 d/\AW K H v d/\E9 d<=8/\Am d=true
noncomputable def UZ (K:zc)(A:Around)(neg:Bool):R2:=λ x y H Q=>∃a b ka kb,x=.ref a/\y=.ref b/\Rd H a (.dT ka)/\Rd H b (.dT kb)/\A.units+16<cLine/\XX K H ka kb/\Q (.bl (!neg)) H
theorem K2 {s:Shared}{pins:List (Addr×Obj)}{l:Addr}{ka:List (List Key×V)}(I:Inv X pins σ H s)(h:Rd H l (.dT ka)):(l==sysModules)=false/\∃es ep xs,Ki H ka xs/\UY X.prog X.w s.heap l es ep xs:=by
 obtain⟨z,y,xs,r,o,es,ep,h1,h2,h3,h4,h5⟩:=(show AF X.prog X.w H s.heap l (.dT ka) from OP I.An h);obtain⟨_,_,aM,r2,o2,gL,gM,g1,g2,g3,g4,g5,g6⟩:=Gq I.An h;exact⟨y,gL,gM,aM,r2,⟨⟨o2,g1,g2,g3⟩,g4,g5,g6⟩⟩
theorem Ki.of:∀ {kvs:List (List Key×V)}{xs:List (List Key×Addr×Value)},Ki H kvs xs->∀ {i:Nat}{q:List Key×Addr×Value},xs[i]?=some q->∃p,kvs[i]?=some p/\p.1=q.1/\RelV p.2 q.2.2
 |_,_,.nil,i,q,e=>by cases e
 |_,_,.cons h t,0,q,e=>by cases e;exact⟨_,rfl,h.1,h.2.2⟩
 |_,_,.cons h t,i+1,q,e=>Ki.of t (i:=i) e
theorem Ki.fo:∀ {kvs:List (List Key×V)}{xs:List (List Key×Addr×Value)},Ki H kvs xs->∀ {i:Nat}{p:List Key×V},kvs[i]?=some p->∃q,xs[i]?=some q/\p.1=q.1/\RelV p.2 q.2.2
 |_,_,.nil,i,q,e=>by cases e
 |_,_,.cons h t,0,q,e=>by cases e;exact⟨_,rfl,h.1,h.2.2⟩
 |_,_,.cons h t,i+1,q,e=>Ki.fo t (i:=i) e
theorem Lh {s:Shared}{pins:List (Addr×Obj)}{ka kb:List (List Key×V)}{xs ar:List (List Key×Addr×Value)}(I:Inv X pins σ H s)(hu:X.A.units+16<cLine)(r:Ki H ka xs)(r':Ki H kb ar)(h:XX X.K H ka kb):
 xs.length=ar.length/\∀(i:Nat) x,xs[i]?=some x->∃(j:Nat) (p:Addr×Value),ar[j]?=some (x.1,p)/\SeqAt.EqAt X.A.in1 s x.2.2 p.2 true:=by
 refine⟨by rw[<-yw r,<-yw r'];exact h.1,λ i x hx=>?_⟩;obtain⟨kv,h1,h2,h3⟩:=r.of hx;obtain⟨j,v,d,g1,g2,g3,g4,g5⟩:=h.2 i kv h1;obtain⟨q,k1,k2,k3⟩:=r'.fo g1;refine⟨j,q.2,by rw[k1,<-h2];exact congrArg some (Prod.ext k2.symm rfl),?_⟩;have:=Gz I 8 X.A.in1 d d kv.2 v x.2.2 q.2.2 g4 g5 g5 (by show X.A.units+1+8<cLine;omega) g2 g3 h3 k3;rw[D3] at this;exact this
theorem V0:Ex X (compareOp .Eq) (UZ X.K X.A false):=by
 intro pins s σ H x y v u Q I rx ry h;obtain⟨a,b,ka,kb,rfl,rfl,ha,hb,hu,hs,q⟩:=h;cases rx;cases ry;obtain⟨n1,es,ep,xs,r,da⟩:=K2 I ha;obtain⟨n2,aP,aI,ar,r',db⟩:=K2 I hb;obtain⟨z,hv⟩:=Lh I hu r r' hs;exact Sf n1 n2 (by omega) da db z hv ⟨.bl true,H,I,rfl,q⟩
theorem V1:Ex X (compareOp .NotEq) (UZ X.K X.A true):=by
 intro pins s σ H x y v u Q I rx ry h;obtain⟨a,b,ka,kb,rfl,rfl,ha,hb,hu,hs,q⟩:=h;cases rx;cases ry;obtain⟨n1,es,ep,xs,r,da⟩:=K2 I ha;obtain⟨n2,aP,aI,ar,r',db⟩:=K2 I hb;obtain⟨z,hv⟩:=Lh I hu r r' hs;exact Sg n1 n2 (by omega) da db z hv ⟨.bl false,H,I,rfl,q⟩
def XY (ks vs br au:List D):Prop:=ks.length=br.length/\∀(i:Nat) k d,ks[i]?=some k->vs[i]?=some d->∃j:Nat,br[j]?=some k/\au[j]?=some d/\E9 d<=8/\Am d=true
open Classical in
noncomputable def Oa (neg:Bool)(x y:D):M D:=match x,y with
 | .AS true ks vs,.AS true br au=>if XY ks vs br au then .ok (.bl (!neg)) else .bad
 |_,_=>.bad
theorem HP {K:zc}{H:Hp}:∀ {vs:List V}{ds:List D},Ab K H vs ds->∀ {i:Nat}{v:V},vs[i]?=some v->∃d,ds[i]?=some d/\AW K H v d
 |_,_,.nil,i,v,e=>by cases e
 |_,_,.cons h t,0,v,e=>by cases e;exact⟨_,rfl,h⟩
 |_,_,.cons h t,i+1,v,e=>HP t (i:=i) e
theorem Nk:∀ {ks br:List Key},ks.map Be=br.map Be->ks=br
 |[],[],_=>rfl
 |[],_::_,h|_::_,[],h=>by cases h
 |k::ks,k'::br,h=>by
  rw[zj,zj] at h;injection h with h1 h2
  have e:k=k':=by
   cases k<;>cases k'<;>first|(cases h1;rfl)|cases h1
  rw[e,Nk h2]
theorem V2 {K:zc}{H:Hp}{ka kb:List (List Key×V)}{ds cp:List D}(h1:Ab K H (ka.map yg) ds)(h2:Ab K H (kb.map yg) cp)(h:XY (ka.map λ kv=>.tup (kv.1.map Be)) ds (kb.map λ kv=>.tup (kv.1.map Be)) cp):XX K H ka kb:=by
 refine⟨by have:=h.1;rw[zh,zh] at this;exact this,λ i kv hi=>?_⟩;obtain⟨d,g1,g2⟩:=HP h1 (i:=i) (v:=kv.2) (by rw[zy,hi];rfl);obtain⟨j,k1,k2,k3,k4⟩:=h.2 i (.tup (kv.1.map Be)) d (by rw[zy,hi];rfl) g1;rw[zy] at k1;cases q:kb[j]? with
 |none=>rw[q] at k1;cases k1
 |some eX =>
  rw[q] at k1;have e:eX.1=kv.1:=by
   have:=zx k1;injection this with this
   exact Nk this
  obtain⟨d',g3,g4⟩:=HP h2 (i:=j) (v:=eX.2) (by rw[zy,q];rfl);rw[k2] at g3;cases g3;exact⟨j,eX.2,d,by rw[q,<-e],g2,g4,k3,k4⟩
theorem Nl {neg:Bool}(hu:X.A.units+16<cLine):LQ X.K WX (UZ X.K X.A neg) (Oa neg):=by
 intro P H x y v w Q ht hx hy h;unfold Oa at h;split at h
 ·split at h
  ·rename_i hs;have dv:=hx.mono Bw;have dw:=hy.mono Bw;cases dv with
   | @D2 a ka _ ha hl =>
    cases dw with
    | @D2 b kb _ hb dA=>exact⟨a,b,ka,kb,rfl,rfl,ha,hb,hu,V2 hl dA hs,h _ H (A9.refl H) (.bl _)⟩
  ·exact h.elim
 ·exact h.elim
theorem V3 (hu:X.A.units+16<cLine)(ha:DE X WX c a f)(hb:DE X WX c b g):DE X WX c (.Compare a [.Eq] [b] pos) (λ ρ=>(f ρ).bind λ x=>(g ρ).bind λ y=>Oa false x y):=LR V0 (Nl hu) ha hb (CW _)
theorem V4 (hu:X.A.units+16<cLine)(ha:DE X WX c a f)(hb:DE X WX c b g):DT X WX (.Compare a [.NotEq] [b] pos) (λ ρ=>((f ρ).bind λ x=>(g ρ).bind λ y=>Oa true x y).bind KH):=Cs V1 (Nl hu) ha hb (CW _)
end
theorem Ob {P:Program}{w:World}{d:Addr}:MeetsIn P w (Builtin.«dict.clear» ⟨[.ref d],[]⟩) (λ _ R s=>∃es ep,K1 s.heap d es ep/\es.size<=sizeLine/\∀h',K1 h' d #[] (ep+1)->Heap.SameBut d s.heap h'->R (.ok (.ret .none)) {s with heap:=h' }):=by
 apply MeetsIn.of_wp;rintro A R s ⟨es,ep,x,hz,q⟩;obtain⟨o,h1,h2,h3⟩:=x.at';rw[Builtin.«dict.clear»];apply wpAny_bind;rw[Builtin.Dict.noArgs];apply wpAny_bind;apply wpAny_notOrdered_dict x.ty;refine wpAny_pure (a:=d) ?_;apply wpAny_bind;apply wpAny_dictEntries h1 h3;apply wpAny_bind;rw[bearsInstanceDictMark];apply wpAny_bind;apply wpAny_load h1;refine wpAny_pure ?_;apply wpAny_bind;apply wpAny_updateDictKeys (hz:=hz) h1 h3;have st:K1 (s.heap.update d (Obj.mapDictKeys λ _=>#[])) d #[] (ep+1):=⟨_,Heap.get?_update_self _ h1 (Obj.isFreed_of_dict (Obj.data_mapDictKeys h3 _)),h2.mapDictKeys _,Obj.data_mapDictKeys h3 _⟩;have e:=q _ st (Heap.SameBut.update ..);split
 ·exact wpAny_bind (wpAny_letGo (wpAny_pure ⟨.none,rfl,e⟩))
 ·exact wpAny_bind (wpAny_pure (wpAny_pure ⟨.none,rfl,e⟩))
section
variable {X:Cx}{WX:Str->Hp->Prop}{c:Bool}{P0:BO}{P:Addr->Prop}{H:Hp}{σ:St}{ρ:A6}{a b e:Expr}{f g:A6->M D}{fp:A6->M (List Nat)}{pos p:Pos}{i:Nat}
theorem Mv:WQ X "dict.clear" (λ x vs H Q=>∃l kvs,x=.ref l/\vs=[]/\H l=some (.dT kvs)/\Q .Aw (upd H l (.dT []))):=by
 intro pins s σ H x vs v us Q I rx rv h;obtain⟨l,kvs,rfl,rfl,hH,q⟩:=h;cases rx;have iT:=rv.zero;subst iT;obtain⟨z,y,xs,r,o,es,ep,h1,h2,h3,h4,_⟩:=(show AF X.prog X.w H s.heap l (.dT kvs) from I.An l _ hH);have hl:es.size=kvs.length:=by rw[size_of_entries h4];exact (yw r).symm
 have x:K1 s.heap l es ep:=⟨o,h1,h2,h3⟩;refine call_meetsIn PySem.F.slot_dict_clear x.ty PySem.F.entry_dict_clear (PySem.F.args_dict_clear_1 _) Ob ⟨es,ep,x,by omega,λ h' st sb=>?_⟩;obtain⟨o',g1,g2,g3⟩:=st.at';exact⟨.Aw,_,G1 (ob:=.dT []) (t':=s.toks) I (by rw[hH];exact y2) sb ⟨o',g1⟩ ⟨zR _,y,[],.nil,o',#[],ep+1,g1,g2,g3,rfl,yi⟩,rfl,q⟩
theorem Mw (ha:DP X WX a i fp){apos ah:Pos}(bS:swapsWith (.Call (.Attribute a "clear" apos) [] [] ah) none pos.line X.env=pure false:=by rfl)
 (ao:attributeBase a "clear" X.env (eval a X.env)=eval a X.env:=by rfl) (ap:(apos.endLine==ah.line)=true:=by rfl):
 DS X WX (.Expr (.Call (.Attribute a "clear" apos) [] [] ah) pos) (λ ρ=>(fp ρ).bind λ π=>(BS i ρ π).bind λ z=>if z.1=true then Fg i ρ π (.AS true [] []) else .bad):=by
 obtain⟨ta,a1,a2⟩:=ha;refine⟨_,Ja (Ts PySem.F.plainAttrs_dict PySem.F.slot_dict_clear PySem.F.type_dict_clear Mv a1 ao ap) bS,λ P0 P σ H Z ρ E h=>?_⟩;dsimp only at h;refine a2 P0 P σ H _ ρ E ?_;cases q:fp ρ with
 |bad=>rw[q] at h;exact h
 |ex x=>rw[q] at h;exact λ H' s=>h H' P (E.tr s)
 |ok π =>
  rw[q] at h;simp only[M.A7] at h;intro v t1 H1 s1 pl;have E1:=E.same s1;cases q1:BS i ρ π with
  |bad=>rw[q1] at h;exact h.elim
  |ex x=>exact (KS q1).elim
  |ok z =>
   obtain⟨bb,ks,vs⟩:=z;rw[q1] at h;simp only[M.A7] at h;by_cases hb:bb=true
   ·subst hb;rw[if_pos rfl] at h;obtain⟨rfl,l,xs,rfl,hP,b6,ot,bh⟩:=pl.AS E1 q1;rcases bh with ⟨z,_⟩|⟨_,kvs,hH,rfl,rfl⟩
    ·cases z
    ·refine⟨.inr (.inr (.inl ⟨rfl,.inr ⟨kvs,hH⟩⟩)),l,kvs,rfl,rfl,hH,?_⟩;obtain⟨c,p,t0,g1,g2,E3,t3⟩:=E1.Uc (o':=.dT []) (u:=.AS true [] []) pl ot (λ _=>⟨λ z=>(by cases z),λ _ z=>by cases z⟩) (λ mv=>.dT (kvs:=[]) Ae .nil);rw[JA g1 g2] at h;exact h _ _ _ ((E.tr s1).trans t3) E3
   ·rw[if_neg hb] at h;exact h.elim
end
noncomputable def FZ (A:LA):CA:=A.map λ kv=>(kv.1,kv.2.1)
theorem HQ (A:LA):(FZ A).map zF=A.map zF:=by unfold FZ;rw[List.map_map];rfl
theorem Nm (p:Int×Int):∀A:LA,Ax (FZ A) p=A3 A p
 |[]=>rfl
 |(q,v)::A=>by
  have ih:=Nm p A;unfold A3 at ih ⊢;show (if q=p then some v.1 else Ax (FZ A) p)=(if q=p then some v else Ax A p).map zF;by_cases e:q=p
  ·rw[if_pos e,if_pos e];rfl
  ·rw[if_neg e,if_neg e];exact ih
theorem Nn (c:Int×Int):E9 (cst (some c))<=8/\Am (cst (some c))=true:=Ut (n:=7) (some c)
theorem WC {A:LA}{C:CA}{neg:Bool}(hn:(A.map zF).Nodup)(eY:(C.map zF).Nodup)(hC:∀p,Ax C p=A3 A p)(hl:C.length=A.length):Oa neg (Qo (FZ A)) (Qo C)=.ok (.bl (!neg)):=by
 have h:XY ((FZ A).map λ kv=>pD kv.1) ((FZ A).map λ kv=>cst (some kv.2)) (C.map λ kv=>pD kv.1) (C.map λ kv=>cst (some kv.2)):=by
  refine⟨by unfold FZ;rw[zh,zh,zh,hl],λ i k d h1 h2=>?_⟩;rw[zy] at h1 h2;cases q:(FZ A)[i]? with
  |none=>rw[q] at h1;cases h1
  |some kv =>
   rw[q] at h1 h2;cases h1;cases h2;have f1:Ax (FZ A) kv.1=some kv.2:=JX (by rw[HQ];exact hn) (zk q);rw[Nm,<-hC] at f1;obtain⟨j,hj⟩:=List.mem_iff_getElem?.mp (Qh f1);exact⟨j,by rw[zy,hj];rfl,by rw[zy,hj];rfl,(Nn kv.2).1,(Nn kv.2).2⟩
 unfold Qo Oa;dsimp only;rw[if_pos h]
theorem all_true {α:Type}(l:List α):M3 [.lst (l.map λ _=>D.bl true)]=.ok (.bl true):=by
 have e:(l.map λ _=>D.bl true)=(l.map λ _=>true).map D.bl:=by rw[List.map_map];rfl
 rw[e,EQ];simp
end L2
set_option maxHeartbeats 4000000
namespace bv
open PySem L2
noncomputable def top (i:Nat):Stmt:=PySem.Challenge.pw_nodeladder_k22_arcs_by_ways.main.body.getD i (.Pass ⟨0,0,0,0⟩)
noncomputable abbrev K3:Stmt:=top 1
theorem QC:Aq ["one","other"] ["one","other"] (A4 K3):=⟨rfl,rfl,rfl,by decide +kernel,rfl,by decide +kernel,by decide +kernel⟩
noncomputable abbrev Dp:Stmt:=top 2
theorem K4:Aq ["road"] ["road"] (A4 Dp):=⟨rfl,rfl,rfl,by decide +kernel,rfl,by decide +kernel,by decide +kernel⟩
noncomputable abbrev Ca:Stmt:=top 4
theorem HR:Aq ["laid","pair"] ["laid","pair"] (A4 Ca):=⟨rfl,rfl,rfl,by decide +kernel,rfl,by decide +kernel,by decide +kernel⟩
noncomputable abbrev QD:Stmt:=top 5
theorem V5:Aq ["laid","pair","cost","middle"] ["laid","pair","cost","middle"] (A4 QD):=⟨rfl,rfl,rfl,by decide +kernel,rfl,by decide +kernel,by decide +kernel⟩
noncomputable abbrev En:Stmt:=top 6
theorem C7:Aq ["laid","place","higher","u","w","cost"] ["laid","place","higher"] (A4 En):=⟨rfl,rfl,rfl,by decide +kernel,rfl,by decide +kernel,by decide +kernel⟩
noncomputable abbrev Dq:Stmt:=top 7
theorem Bl:Aq ["net","order","laid","road","rank","place"] ["net","order"] (A4 Dq):=⟨rfl,rfl,rfl,by decide +kernel,rfl,by decide +kernel,by decide +kernel⟩
noncomputable abbrev Dr:Stmt:=top 8
theorem ES:Aq ["net","order","laid"] ["net","order"] (A4 Dr):=⟨rfl,rfl,rfl,by decide +kernel,rfl,by decide +kernel,by decide +kernel⟩
noncomputable abbrev Ds:Stmt:=top 10
theorem CD:Aq ["_law_cell","_law_k","_law_number"] ["_law_cell","_law_k"] (A4 Ds):=⟨rfl,rfl,rfl,by decide +kernel,rfl,by decide +kernel,by decide +kernel⟩
noncomputable abbrev Eo:Stmt:=top 11
theorem AK:Aq ["_law_cell","_law_many","_law_mixed_here","_law_one","_law_other","_law_way","_law_length"] ["_law_cell","_law_many"] (A4 Eo):=⟨rfl,rfl,rfl,by decide +kernel,rfl,by decide +kernel,by decide +kernel⟩
noncomputable abbrev FF:Stmt:=top 12
theorem BW:Aq ["_law_cells","_law_most","_law_head","_law_many","_law_roads"] ["_law_cells","_law_most"] (A4 FF):=⟨rfl,rfl,rfl,by decide +kernel,rfl,by decide +kernel,by decide +kernel⟩
noncomputable abbrev Dt:Stmt:=top 13
theorem CF:Aq ["_law_many","_law_cell","_law_order_here","_law_k"] ["_law_many","_law_cell"] (A4 Dt):=⟨rfl,rfl,rfl,by decide +kernel,rfl,by decide +kernel,by decide +kernel⟩
noncomputable abbrev Du:Stmt:=top 14
theorem K5:Aq ["_law_found","_law_place","_law_cost_here"] ["_law_found","_law_place","_law_cost_here"] (A4 Du):=⟨rfl,rfl,rfl,by decide +kernel,rfl,by decide +kernel,by decide +kernel⟩
noncomputable abbrev Dv:Stmt:=top 15
theorem Az:Aq ["_law_land","_law_start","_law_inner","_law_found","_law_better","_law_one","_law_other","_law_length","_law_width","_law_cost_here"] ["_law_land","_law_start","_law_inner"] (A4 Dv):=⟨rfl,rfl,rfl,by decide +kernel,rfl,by decide +kernel,by decide +kernel⟩
noncomputable abbrev Ep:Stmt:=top 16
theorem Bd:Aq ["_law_land","_law_order_here","_law_arcs_here","_law_u","_law_w","_law_inner","_law_found"] ["_law_land","_law_order_here"] (A4 Ep):=⟨rfl,rfl,rfl,by decide +kernel,rfl,by decide +kernel,by decide +kernel⟩
noncomputable abbrev Er:Stmt:=top 17
theorem Li:Aq ["_law_found"] ["_law_found"] (A4 Er):=⟨rfl,rfl,rfl,by decide +kernel,rfl,by decide +kernel,by decide +kernel⟩
noncomputable abbrev Dw:Stmt:=top 18
theorem BJ:Aq ["_law_land","_law_order_here","_law_handed","_law_found","_law_due"] ["_law_land","_law_order_here"] (A4 Dw):=⟨rfl,rfl,rfl,by decide +kernel,rfl,by decide +kernel,by decide +kernel⟩
noncomputable abbrev CQ:Stmt:=top 19
theorem K6:Aq ["_law_script","_law_cells","_law_land","_law_order_here"] ["_law_script"] (A4 CQ):=⟨rfl,rfl,rfl,by decide +kernel,rfl,by decide +kernel,by decide +kernel⟩
structure Txt (K:zc)(mg:Str->Option Value):Prop where
 Sh:B7 K mg "added" K3 ["one","other"]
 Lj:B7 K mg "road_cost" Dp ["road"]
 Iq:B7 K mg "cost_so_far" Ca ["laid","pair"]
 WD:B7 K mg "lay" QD ["laid","pair","cost","middle"]
 Mx:B7 K mg "lay_over" En ["laid","place","higher"]
 Lk:B7 K mg "laid_arcs" Dq ["net","order"]
 Ll:B7 K mg "arc_costs" Dr ["net","order"]
 Lm:B7 K mg "_law_mixed" Ds ["_law_cell","_law_k"]
 My:B7 K mg "_law_road" Eo ["_law_cell","_law_many"]
 Oc:B7 K mg "_law_map" FF ["_law_cells","_law_most"]
 Ln:B7 K mg "_law_order" Dt ["_law_many","_law_cell"]
 Lo:B7 K mg "_law_least" Du ["_law_found","_law_place","_law_cost_here"]
 Lp:B7 K mg "_law_costs" Dv ["_law_land","_law_start","_law_inner"]
 Mz:B7 K mg "_law_arcs" Ep ["_law_land","_law_order_here"]
 MA:B7 K mg "_law_cost" Er ["_law_found"]
 Lq:B7 K mg "_law_right" Dw ["_law_land","_law_order_here"]
 Yn:B7 K mg "law" CQ ["_law_script"]
 SN:mg "all" = none
 V6:mg "bool" = none
 QE:mg "dict" = none
 Lr:mg "enumerate" = none
 WE:mg "int" = none
 BK:mg "isinstance" = none
 WG:mg "len" = none
 QF:mg "list" = none
 WH:mg "min" = none
 Si:mg "range" = none
 SO:mg "sum" = none
 Sj:mg "tuple" = none
local macro_rules | `(tactic| simp_arith [$xs,*])=>`(tactic| simp only [X0,X1,JP,List.set_cons_zero,List.set_cons_succ,M.A7,Fe,Fc,GS,Hk,Hl,Hm,JF,Fm,Mb,Q1,Ha,Hb,Fh,PV,JC,JD,Hd,Ue,Fi,Fj,El,M9,Br,Ma,He,Hf,Fl,PX,H9,Df,toCl_list,toCl_listP,toCl_dct,JG,Ho,Hq,Hr,Hs,JH,Ht,Hu,Hv,Wh,Wg,Hg,PY,Hh,PZ,Hi,Hj,JE,Q0,XS,XT,Ui,Uj,Uk,Ul,Um,Uo,toCl_nil,GF,EO,KH,Mc,Fn,JI,JJ,Hw,Hx,JK,JL,JM,JN,JO,Hy,Hz,HB,HC,Fo,Fp,Fq,Fs,Ft,HD,Fu,Fv,Q3,Q4,Q5,Q6,Q7,Fw,ite_tt,ite_ff,Bool.not_true,Bool.not_false,List.getElem?_cons_zero,List.getElem?_cons_succ,FA,EQ,HH,Uh,Uy,Ug,Uz,UA,UB,JU,Mj,Mk,Ml,Cm,FD,K0,Mf,UN,Qv,Ms,$xs,*])
variable {P:Program}{w:World}{K:zc}{mg:Str->Option Value}{base:Heap}
theorem HS:∃F:List D->M OT,(∀ {P w K mg base},Txt K mg->EY P w K mg base "added" 1 2 F)/\(∀a b:Co,F [cst a,cst b]=.ok (.sh (cst (Bz a b)))):=by
 refine⟨_,λ T=>Bp (k:=0) T.Sh QC _ (λ f Ba A outer s H E hr=>(Aa (BP (DW.dt (GC (LU (c:=true) (A1 0 (pv 0))) (F5 (LU (c:=true) (A1 1 (pv 1)))))) (Ad (AX (BQ GA))) AR) (Ad (AX (BQ (B5 (A2 (Bo (Av (Bx hr 16 (by decide)) (A1 0 (pv 0)) A8) (Av (Bx hr 16 (by decide)) (A1 1 (pv 1)) A8)) (A2 (Bo (Av (Bx hr 16 (by decide)) (A1 0 (pv 0)) A8) (Av (Bx hr 16 (by decide)) (A1 1 (pv 1)) A8)) Ah)))))))),?_⟩;intro a b;rcases a with _|⟨a1,a2⟩<;>rcases b with _|⟨b1,b2⟩<;>rfl
noncomputable def QG:List D->M OT:=zA HS
theorem QH:Txt K mg->EY P w K mg base "added" 1 2 QG:=(ze HS).1
theorem QI:∀a b:Co,QG [cst a,cst b]=.ok (.sh (cst (Bz a b))):=(ze HS).2
theorem CG:∃F:List D->M OT,(∀ {P w K mg base},Txt K mg->EY P w K mg base "road_cost" 1 1 F)/\(∀r:Road,F [JT r]=.ok (.sh (cst (Ia r)))):=by
 refine⟨_,λ T=>Bp (k:=0) T.Lj K4 _ (λ f Ba A outer s H E hr=>(Aa (BP (LU (c:=true) (Av (Bx hr 16 (by decide)) (A1 0 (pv 0)) A8)) (Ad (AX (BQ GA))) AR) (Ad (AX (BQ (B5 (A2 (Av (Bx hr 16 (by decide)) (A1 0 (pv 0)) A8) (A2 A8 Ah)))))))),?_⟩;intro r;obtain⟨a,b,l,w⟩:=r;cases l<;>rfl
noncomputable def HU:List D->M OT:=zA CG
theorem K7:Txt K mg->EY P w K mg base "road_cost" 1 1 HU:=(ze CG).1
theorem K8:∀r:Road,HU [JT r]=.ok (.sh (cst (Ia r))):=(ze CG).2
theorem BX:∃F:List D->M OT,(∀ {P w K mg base},Txt K mg->EY P w K mg base "cost_so_far" 1 2 F)/\(∀(A:LA) (p:Int×Int),F [QO A,pD p]=.ok (.sh (cst (A3 A p)))):=by
 refine⟨_,λ T=>Bp (k:=0) T.Iq HR _ (λ f Ba A outer s H E hr=>(Aa (BP (Jx (c:=true) (Bx hr 16 (by decide)) (A1 1 (pv 1)) (A1 0 (pv 0))) (Ad (AX (BQ GA))) AR) (Ad (AX (BQ (Av (Bx hr 16 (by decide)) (Av (Bx hr 16 (by decide)) (A1 0 (pv 0)) (A1 1 (pv 1))) A8)))))),?_⟩;intro A p;have e0:B6 ["laid","pair"] [QO A,pD p]=[some (.val (QO A)),some (.val (pD p))]:=rfl;rw[e0];refine FN ?_;have hm:=Qp A p true;unfold A3;cases q:Ax A p with
 |none =>
  rw[q] at hm;simp_arith[hm,FX];rfl
 |some v =>
  rw[q] at hm;have hi:=Mm q;have h0:BI (Qj v) (.int 0)=.ok (cst (some v.1)):=rfl;apply wp_step
  ·simp_arith[hm,FX];rfl
  simp_arith[hi,h0];rfl
noncomputable def ET:List D->M OT:=zA BX
theorem Dx:Txt K mg->EY P w K mg base "cost_so_far" 1 2 ET:=(ze BX).1
theorem Dy:∀(A:LA) (p:Int×Int),ET [QO A,pD p]=.ok (.sh (cst (A3 A p))):=(ze BX).2
theorem MB:∃F:OT->List D->M (OT×OT),(∀ {P w K mg base},Txt K mg->FK P w K mg base "lay" 1 4 F)/\(∀(A:LA) (p:Int×Int) (c:Co) (mid:Option Int),A.length<1000->F (FC A) [pD p,cst c,CU mid]=.ok (FC (layA A p c mid),.sh .Aw)):=by
 refine⟨_,λ T=>GY (k:=0) T.WD V5 _ (λ f Ba A outer s H E hr=>(Ad (BP (Jv (DW.dt (LW (MR (c:=true) (A1 2 (pv 2))) (MS (DW.dt (GC (Jx (c:=true) (Bx hr 16 (by decide)) (A1 1 (pv 1)) (A1 0 (pv 0))) (F5 (Qd (c:=true) (Bx hr 16 (by decide)) (A1 2 (pv 2)) (Av (Bx hr 16 (by decide)) (Av (Bx hr 16 (by decide)) (A1 0 (pv 0)) (A1 1 (pv 1))) A8))))))))) (Ad (JB (Bx hr 16 (by decide)) (C4 0 (pv 0)) (A1 1 (pv 1)) (B5 (A2 (A1 2 (pv 2)) (A2 (A1 3 (pv 3)) Ah))))) AR))),?_⟩;intro A p c mid hA;have e0:BR ["laid","pair","cost","middle"] (FC A) [pD p,cst c,CU mid]=[some (.ow (.tree (some 0) (FC A))),some (.val (pD p)),some (.val (cst c)),some (.val (CU mid))]:=rfl;rw[e0];refine Mp ?_;have hm:=Qp A p true;have gO:∀c:Int×Int,D.tup [cst (some c),CU mid]=Qj (c,mid):=λ c=>rfl;have hl:(A.map λ kv=>pD kv.1).length<1000:=by rw[zh];exact hA
 have b9:keyOk true (pD p)=true:=rfl;have ag:∀v,(List.map (λ kv=>pD kv.1) (B3 A p v))=(List.map (λ kv=>pD kv.1) (B3 A p v)):=λ _=>rfl;cases c with
 |none =>
  refine Bj (ρ':=_) (by simp_arith[cst,D6];rfl) ⟨rfl,rfl⟩
 |some c =>
  have bu:D6 (cst (some c))=false:=rfl;cases q:Ax A p with
  |none =>
   rw[q] at hm;have el:layA A p (some c) mid=B3 A p (c,mid):=by unfold layA;dsimp only;rw[q]
   rw[el];refine Bj (ρ':=[some (.ow (.tree (some 0) (FC (B3 A p (c,mid))))),some (.val (pD p)),some (.val (cst (some c))),some (.val (CU mid))]) (by
    simp_arith[bu,hm,FX,Cm,gO,if_pos (And.intro b9 hl),Qq,b9,hl,and_self,if_true];rfl) ⟨rfl,rfl⟩
  |some z =>
   rw[q] at hm;have hi:=Mm q;have h0:BI (Qj z) (.int 0)=.ok (cst (some z.1)):=rfl;have hx:=Wz c z.1;by_cases hc:c.1<z.1.1\/(c.1=z.1.1/\c.2<z.1.2)
   ·have el:layA A p (some c) mid=B3 A p (c,mid):=by unfold layA;dsimp only;rw[q];dsimp only;rw[if_pos hc]
    rw[decide_eq_true hc] at hx;rw[el];refine Bj (ρ':=[some (.ow (.tree (some 0) (FC (B3 A p (c,mid))))),some (.val (pD p)),some (.val (cst (some c))),some (.val (CU mid))]) (by
     simp_arith[bu,hm,hi,h0,hx,FX,Cm,gO,if_pos (And.intro b9 hl),Qq,b9,hl,and_self,if_true];rfl) ⟨rfl,rfl⟩
   ·have el:layA A p (some c) mid=A:=by unfold layA;dsimp only;rw[q];dsimp only;rw[if_neg hc]
    rw[decide_eq_false hc] at hx;rw[el];refine Bj (ρ':=_) (by simp_arith[bu,hm,hi,h0,hx,FX];rfl) ⟨rfl,rfl⟩
noncomputable def WI:OT->List D->M (OT×OT):=zA MB
theorem QJ:Txt K mg->FK P w K mg base "lay" 1 4 WI:=(ze MB).1
theorem QK:∀(A:LA) (p:Int×Int) (c:Co) (mid:Option Int),A.length<1000->WI (FC A) [pD p,cst c,CU mid]=.ok (FC (layA A p c mid),.sh .Aw):=(ze MB).2
theorem Dz:∃F:OT->List D->M (OT×OT),(∀ {P w K mg base},Txt K mg->FK P w K mg base "lay_over" 2 3 F)/\(∀(m:Nat) (A:LA) (p:Int) (H:List Int),m<=20->Dl m A->(∀x∈H,0<=x/\x<m)->F (FC A) [.int p,.lst (H.map D.int)]=.ok (FC (QP A p H),.sh .Aw)):=by
 refine⟨_,λ T=>GY (k:=1) T.Mx C7 _ (λ f Ba A outer s H E hr=>(Ad (D9 As.toXCall.own rfl (C3 (A1 2 (pv 2))) (B9 3 C7.nd rfl (zX rfl)) (Ad (D9 As.toXCall.own rfl (C3 (A1 2 (pv 2))) (B9 4 C7.nd rfl (zX rfl)) (Ad (BP (P9 (c:=true) (Bx hr 16 (by decide)) (A1 3 (pv 3)) (A1 4 (pv 4))) (Aa (AE 5 C7.nd rfl (zX rfl) (AN (U6 (AG As.toXCall (QH T) (hr.mono (by decide)) rfl (A2 (AN (AG As.toXCall (Dx T) (hr.mono (by decide)) rfl (A2 (A1 0 (pv 0)) (A2 (B5 (A2 (A1 3 (pv 3)) (A2 (A1 1 (pv 1)) Ah))) Ah)) rfl)) (A2 (AN (AG As.toXCall (Dx T) (hr.mono (by decide)) rfl (A2 (A1 0 (pv 0)) (A2 (B5 (A2 (A1 1 (pv 1)) (A2 (A1 4 (pv 4)) Ah))) Ah)) rfl)) Ah)) rfl)))) (Ad (GZ (N2 As.toXCall (QJ T) (hr.mono (by decide)) rfl (C4 0 (pv 0)) (A2 (B5 (A2 (A1 3 (pv 3)) (A2 (A1 4 (pv 4)) Ah))) (A2 (A1 5 (pv 5)) (A2 (A1 1 (pv 1)) Ah))) rfl)))) AR))))))),?_⟩;intro m A p H hm hA hH;have e0:BR ["laid","place","higher","u","w","cost"] (FC A) [.int p,.lst (H.map D.int)]=[some (.ow (.tree (some 0) (FC A))),some (.val (.int p)),some (.val (.lst (H.map D.int))),none,none,none]:=rfl;rw[e0];refine Mp ?_;simp_arith[];refine Dj (λ i ρ=>∃s3 s4 s5:Option Cl,ρ=[some (.ow (.tree (some 0) (FC ((H.take i).foldl (O5 p H) A)))),some (.val (.int p)),some (.val (.lst (H.map D.int))),s3,s4,s5]) ⟨none,none,none,rfl⟩ ?_ ?_
 ·rintro i d ρ hd ⟨s3,s4,s5,rfl⟩;obtain⟨u,hu,rfl⟩:=BU hd;have iU:=hH u (zk hu);refine⟨_,rfl,?_⟩;obtain⟨B,hB⟩:∃B,B=(H.take i).foldl (O5 p H) A:=⟨_,rfl⟩;have ce:Dl m B:=by rw[hB];exact Dl.lo hH hA λ x hx=>hH x (List.mem_of_mem_take hx)
  rw[<-hB,BV hu,<-hB];simp_arith[];refine Dj (λ j ρ=>∃s4 s5:Option Cl,ρ=[some (.ow (.tree (some 0) (FC ((H.take j).foldl (Ga p u) B)))),some (.val (.int p)),some (.val (.lst (H.map D.int))),some (.val (.int u)),s4,s5]) ⟨s4,s5,rfl⟩ ?_ ?_
  ·rintro j d ρ hd ⟨s4,s5,rfl⟩;obtain⟨w,hw,rfl⟩:=BU hd;have jz:=hH w (zk hw);refine⟨_,rfl,?_⟩;obtain⟨C,hC⟩:∃C,C=(H.take j).foldl (Ga p u) B:=⟨_,rfl⟩;have eZ:Dl m C:=by rw[hC];exact Dl.ou iU ce λ x hx=>hH x (List.mem_of_mem_take hx)
   rw[BV hw,<-hC];by_cases e:u=w
   ·have ev:Ga p u C w=C:=by unfold Ga;rw[if_pos e]
    rw[ev];refine Bj (ρ':=_) (by simp_arith[decide_eq_true e];rfl) ⟨_,_,rfl⟩
   ·have ev:Ga p u C w=layA C (u,w) (Bz (A3 C (u,p)) (A3 C (p,w))) (some p):=by unfold Ga;rw[if_neg e]
    rw[ev];have h1:=Dy C (u,p);have h2:=Dy C (p,w);have h3:=QI (A3 C (u,p)) (A3 C (p,w));have h4:=QK C (u,w) (Bz (A3 C (u,p)) (A3 C (p,w))) (some p) (eZ.len hm);have t1:∀a b:Int,D.tup [.int a,.int b]=pD (a,b):=λ a b=>rfl;have t2:CU (some p)=.int p:=rfl;rw[t2] at h4;have h5:=Ck (ρ:=[some (.ow (.tree (some 0) (FC C))),some (.val (.int p)),some (.val (.lst (H.map D.int))),some (.val (.int u)),some (.val (.int w)),some (.val (cst (Bz (A3 C (u,p)) (A3 C (p,w)))))]) (i:=0) rfl rfl h4;simp_arith[decide_eq_false e,if_true];apply wp_step
    ·simp_arith[t1,h1,h2,h3];rfl
    refine Bj (ρ':=_) (by simp_arith[t1,h5];rfl) ⟨_,_,rfl⟩
  ·rintro ρ ⟨s4,s5,rfl⟩;rw[zh,y9];exact⟨_,s4,s5,rfl⟩
 ·rintro ρ ⟨s3,s4,s5,rfl⟩;rw[zh,y9];exact⟨rfl,trivial⟩
noncomputable def J5:OT->List D->M (OT×OT):=zA Dz
theorem Ls:Txt K mg->FK P w K mg base "lay_over" 2 3 J5:=(ze Dz).1
theorem Lu:∀(m:Nat) (A:LA) (p:Int) (H:List Int),m<=20->Dl m A->(∀x∈H,0<=x/\x<m)->J5 (FC A) [.int p,.lst (H.map D.int)]=.ok (FC (QP A p H),.sh .Aw):=(ze Dz).2
theorem CH:∃F:List D->M OT,(∀ {P w K mg base},Txt K mg->EY P w K mg base "laid_arcs" 3 2 F)/\(∀(m:Nat) (rs:List Road) (L:List Int),m<=20->L.Perm (B2 m)->(∀r∈rs,FO m r/\r.a≠r.b)->F [Ap m rs,.lst (L.map D.int)]=.ok (FC (Al rs L))):=by
 refine⟨_,λ T=>Bp (k:=2) T.Lk Bl _ (λ f Ba A outer s H E hr=>(Aa (EI 2 Bl.nd rfl (zX rfl) (KU true)) (Aa (D9 As.toXCall.own rfl (C3 (Av (Bx hr 16 (by decide)) (A1 0 (pv 0)) A8)) (B9 3 Bl.nd rfl (zX rfl)) (Ad (GZ (N2 As.toXCall (QJ T) (hr.mono (by decide)) rfl (C4 2 (pv 2)) (A2 (B5 (A2 (Av (Bx hr 16 (by decide)) (A1 3 (pv 3)) A8) (A2 (Av (Bx hr 16 (by decide)) (A1 3 (pv 3)) A8) Ah))) (A2 (AN (AG As.toXCall (K7 T) (hr.mono (by decide)) rfl (A2 (A1 3 (pv 3)) Ah) rfl)) (A2 GA Ah))) rfl)))) (Aa (D9 As.toXCall.own rfl (RE rfl T.Lr (A1 1 (pv 1))) (Pf (n:=2) rfl (Cf (B9 4 Bl.nd rfl (zX rfl)) (Cf (B9 5 Bl.nd rfl (zX rfl)) MT))) (Ad (GZ (N2 As.toXCall (Ls T) (hr.mono (by decide)) rfl (C4 2 (pv 2)) (A2 (A1 5 (pv 5)) (A2 (AN (Di (A1 1 (pv 1)) (DJ (Bo (A1 4 (pv 4)) A8)) G5)) Ah)) rfl)))) (Ad (G8 2 (pv 2))))))),?_⟩;intro m rs L hm hL An;have e0:B6 ["net","order","laid","road","rank","place"] [Ap m rs,.lst (L.map D.int)]=[some (.val (Ap m rs)),some (.val (.lst (L.map D.int))),none,none,none,none]:=rfl;rw[e0];refine FN ?_;have n1:BI (Ap m rs) (.int 1)=.ok (.lst (rs.map JT)):=rfl;apply wp_step
 ·rfl
 try simp only[zS,zI]
 have cf:∀i,i<=rs.length->Dl m ((rs.take i).foldl (λ A r=>layA A (r.a,r.b) (Ia r) none) []):=λ i hi=>by
  have:=(JY (m:=m) (rs:=rs.take i) λ r hr=>An r (List.mem_of_mem_take hr)).1;exact this
 refine Cz (I:=λ ρ=>∃s3 s4 s5:Option Cl,ρ=[some (.val (Ap m rs)),some (.val (.lst (L.map D.int))),some (.ow (.tree none (FC (lay0 rs)))),s3,s4,s5]) ?_ ?_
 ·simp_arith[n1];refine Dj (λ i ρ=>i<=rs.length/\∃s3 s4 s5:Option Cl,ρ=[some (.val (Ap m rs)),some (.val (.lst (L.map D.int))),some (.ow (.tree none (FC ((rs.take i).foldl (λ A r=>layA A (r.a,r.b) (Ia r) none) [])))),s3,s4,s5]) ⟨zR _,none,none,none,rfl⟩ ?_ ?_
  ·rintro i d ρ hd ⟨hi,s3,s4,s5,rfl⟩;obtain⟨r,hr,rfl⟩:=BU hd;have ag:=(zH.mp hr).1;refine⟨_,rfl,?_⟩;rw[BV hr];obtain⟨B,hB⟩:∃B,B=(rs.take i).foldl (λ A r=>layA A (r.a,r.b) (Ia r) none) []:=⟨_,rfl⟩;have ce:Dl m B:=by rw[hB];exact cf i hi
   rw[<-hB];have i0:BI (JT r) (.int 0)=.ok (.int r.a):=rfl;have i1:BI (JT r) (.int 1)=.ok (.int r.b):=rfl;have h1:=K8 r;have h2:=QK B (r.a,r.b) (Ia r) none (ce.len hm);have t1:∀a b:Int,D.tup [.int a,.int b]=pD (a,b):=λ a b=>rfl;have t2:CU none=.Aw:=rfl;rw[t2] at h2;have h5:=Ck (ρ:=[some (.val (Ap m rs)),some (.val (.lst (L.map D.int))),some (.ow (.tree none (FC B))),some (.val (JT r)),s4,s5]) (i:=2) rfl rfl h2;refine Bj (ρ':=_) (by simp_arith[i0,i1,h1,t1,h5];rfl) ⟨ag,_,_,_,rfl⟩
  ·rintro ρ ⟨_,s3,s4,s5,rfl⟩;rw[zh,y9];exact⟨s3,s4,s5,rfl⟩
 ·rintro ρ ⟨s3,s4,s5,rfl⟩;have fb:=JY An;refine Cz (I:=λ ρ=>∃s3 s4 s5:Option Cl,ρ=[some (.val (Ap m rs)),some (.val (.lst (L.map D.int))),some (.ow (.tree none (FC (Al rs L)))),s3,s4,s5]) ?_ ?_
  ·simp_arith[];refine Dj (λ i ρ=>i<=L.length/\∃(G:LA) (s3 s4 s5:Option Cl),ρ=[some (.val (Ap m rs)),some (.val (.lst (L.map D.int))),some (.ow (.tree none (FC G))),s3,s4,s5]/\Dl m G/\Ib G (L.drop i)=Ib (lay0 rs) L) ⟨zR _,lay0 rs,s3,s4,s5,rfl,fb.1,rfl⟩ ?_ ?_
   ·rintro i d ρ hd ⟨hi,G,s3,s4,s5,rfl,hG,cQ⟩;obtain⟨d',cq,rfl⟩:=IP hd;obtain⟨p,hp,rfl⟩:=BU cq;have ag:=(zH.mp hp).1;rw[Nat.zero_add];refine⟨_,rfl,?_⟩;have bZ:∀x∈L.drop (i+1),0<=x/\x<m:=λ x hx=>(Bk hL).mp (List.mem_of_mem_drop hx);have ed:L.drop i=p::L.drop (i+1):=by
     rw[y6 ag];rw[zu ag] at hp;rw[zx hp]
    rw[ed,Ib] at cQ;have h2:=Lu m G p (L.drop (i+1)) hm hG bZ;have sl:Oi (some ((i:Int)+1)) none (.lst (L.map D.int))=.ok (.lst (((L.drop (i+1)).map D.int).map .sh)):=by rw[List.map_drop];exact Q2 _ (i+1)
    have h5:=Ck (ρ:=[some (.val (Ap m rs)),some (.val (.lst (L.map D.int))),some (.ow (.tree none (FC G))),s3,some (.val (.int i)),some (.val (.int p))]) (i:=2) rfl rfl h2;refine Bj (ρ':=_) (by simp_arith[sl,h5];rfl) ⟨ag,_,_,_,_,rfl,Dl.lo bZ hG bZ,cQ⟩
   ·rintro ρ ⟨_,G,s3,s4,s5,rfl,hG,cQ⟩;rw[F6,zh,yB,Ib] at cQ;exact⟨s3,s4,s5,by rw[cQ];rfl⟩
  ·rintro ρ ⟨s3,s4,s5,rfl⟩;exact⟨_,rfl,rfl⟩
noncomputable def HV:List D->M OT:=zA CH
theorem K9:Txt K mg->EY P w K mg base "laid_arcs" 3 2 HV:=(ze CH).1
theorem Ka:∀(m:Nat) (rs:List Road) (L:List Int),m<=20->L.Perm (B2 m)->(∀r∈rs,FO m r/\r.a≠r.b)->HV [Ap m rs,.lst (L.map D.int)]=.ok (FC (Al rs L)):=(ze CH).2
theorem CI:∃F:List D->M OT,(∀ {P w K mg base},Txt K mg->EY P w K mg base "arc_costs" 4 2 F)/\(∀(m:Nat) (rs:List Road) (L:List Int),m<=20->L.Perm (B2 m)->(∀r∈rs,FO m r/\r.a≠r.b)->F [Ap m rs,.lst (L.map D.int)]=.ok (L8 (FZ (Al rs L)))):=by
 refine⟨_,λ T=>Bp (k:=3) T.Ll ES _ (λ f Ba A outer s H E hr=>(Aa (AE 2 ES.nd rfl (Or.inr rfl) (AN (AG As.toXCall (K9 T) (hr.mono (by decide)) rfl (A2 (A1 0 (pv 0)) (A2 (A1 1 (pv 1)) Ah)) rfl))) (Ad (AX (Qb rfl (Bx hr 16 (by decide)) rfl T.QE (AN (J3 (NB:=["pair","laid"]) [none,some 2] rfl (Lg (A1 2 (pv 2))) rfl rfl (Dc 0 (by decide) rfl rfl rfl) (λ _ _ _ _=>EF) (λ _ _ _ _=>(B5 (A2 (A1 0 (pv 0)) (A2 (Av (Bx hr 16 (by decide)) (Av (Bx hr 16 (by decide)) (A1 1 (pv 1)) (A1 0 (pv 0))) A8) Ah))))))))))),?_⟩;intro m rs L hm hL An;have e0:B6 ["net","order","laid"] [Ap m rs,.lst (L.map D.int)]=[some (.val (Ap m rs)),some (.val (.lst (L.map D.int))),none]:=rfl;rw[e0];refine FN ?_;have h1:=Ka m rs L hm hL An;have hA:=(Cj hL An).1;have hl:=hA.len hm;obtain⟨A,iV⟩:∃A,A=Al rs L:=⟨_,rfl⟩;rw[<-iV] at h1 hA hl ⊢;apply wp_step
 ·simp_arith[h1];rfl
 try simp only[zS,zI]
 have b7:(A.map λ kv=>pD kv.1).length<=1000:=by rw[zh];omega
 have hd:=UI (C:=FZ A) (by rw[HQ];exact hA.nd) (by unfold FZ;rw[zh];omega);have hq:(FZ A).map (λ kv=>D.tup [pD kv.1,cst (some kv.2)])=A.map λ kv=>D.tup [pD kv.1,cst (some kv.2.1)]:=by unfold FZ;rw[List.map_map];rfl
 rw[hq] at hd;simp_arith[UW,if_pos b7];rw[CB (λ kv:(Int×Int)×((Int×Int)×Option Int)=>D.tup [pD kv.1,cst (some kv.2.1)]) (λ kv fc=>⟨_,rfl,rfl,by
  have i1:=Mm (JX hA.nd fc);have i2:BI (Qj kv.2) (.int 0)=.ok (cst (some kv.2.1)):=rfl;simp_arith[i1,i2];try rfl⟩)]
 simp_arith[hd];exact⟨_,rfl,rfl⟩
noncomputable def HW:List D->M OT:=zA CI
theorem EU:Txt K mg->EY P w K mg base "arc_costs" 4 2 HW:=(ze CI).1
theorem Kb:∀(m:Nat) (rs:List Road) (L:List Int),m<=20->L.Perm (B2 m)->(∀r∈rs,FO m r/\r.a≠r.b)->HW [Ap m rs,.lst (L.map D.int)]=.ok (L8 (FZ (Al rs L))):=(ze CI).2
theorem CJ:∃F:List D->M OT,(∀ {P w K mg base},Txt K mg->EY P w K mg base "_law_mixed" 1 2 F)/\(∀c k:Int,0<=k->k<=1000->∃v:Int,0<=v/\F [.int c,.int k]=.ok (.sh (.int v))):=by
 refine⟨_,λ T=>Bp (k:=0) T.Lm CD _ (λ f Ba A outer s H E hr=>(Aa (AE 2 CD.nd rfl (zX rfl) (B4 (Bo (B4 (A1 0 (pv 0)) A8) (G6 A8 (Bo (A1 1 (pv 1)) A8))) A8)) (Aa (AE 2 CD.nd rfl (zX rfl) (B4 (Bo (Bo (G6 (A1 2 (pv 2)) (A1 2 (pv 2))) (G6 A8 (A1 1 (pv 1)))) A8) A8)) (Ad (AX (BQ (B4 (G6 (A1 2 (pv 2)) (A1 2 (pv 2))) A8))))))),?_⟩;intro c k h0 h1;have e0:B6 ["_law_cell","_law_k","_law_number"] [.int c,.int k]=[some (.val (.int c)),some (.val (.int k)),none]:=rfl;rw[e0];have m1:GN (.int 48271) (.int (k+1))=.ok (.int (48271*(k+1))):=EG (.inr (.inr (.inr ⟨by omega,by omega⟩)));obtain⟨x,hx⟩:∃x,x=(c%2147483629+48271*(k+1))%2147483647:=⟨_,rfl⟩;have x0:0<=x:=by omega
 have x1:x<2147483647:=by omega
 have m2:GN (.int x) (.int x)=.ok (.int (x*x)):=EG (.inr (.inr (.inr ⟨by omega,by omega⟩)));have m3:GN (.int 69621) (.int k)=.ok (.int (69621*k)):=EG (.inr (.inr (.inr ⟨by omega,by omega⟩)));obtain⟨y,hy⟩:∃y,y=(x*x+69621*k+7)%2147483587:=⟨_,rfl⟩;have y0:0<=y:=by rw[hy];exact yp _ (by decide)
 have y1:y<2147483587:=by rw[hy];exact Int.emod_lt_of_pos _ (by decide)
 have m4:GN (.int y) (.int y)=.ok (.int (y*y)):=EG (.inr (.inr (.inr ⟨by omega,by omega⟩)));refine⟨y*y%2147483579,yp _ (by decide),?_⟩;simp[X0,X1,m1,P6,Eh,AQ,<-hx,m2,m3,<-hy,m4,PF,Pe,Wg,NV]
noncomputable def HX:List D->M OT:=zA CJ
theorem CK:Txt K mg->EY P w K mg base "_law_mixed" 1 2 HX:=(ze CJ).1
theorem CL:∀c k:Int,0<=k->k<=1000->∃v:Int,0<=v/\HX [.int c,.int k]=.ok (.sh (.int v)):=(ze CJ).2
theorem DB:∃F:List D->M OT,(∀ {P w K mg base},Txt K mg->EY P w K mg base "_law_road" 2 2 F)/\(∀(c:Int) (m:Nat),2<=m->m<=20->0<=c->∃r:Road,(FO m r/\r.a≠r.b)/\F [.int c,.int m]=.ok (.sh (JT r))):=by
 refine⟨_,λ T=>Bp (k:=1) T.My AK _ (λ f Ba A outer s H E hr=>(Aa (AE 2 AK.nd rfl (zX rfl) (AN (AG As.toXCall (CK T) (hr.mono (by decide)) rfl (A2 (A1 0 (pv 0)) (A2 A8 Ah)) rfl))) (Aa (AE 3 AK.nd rfl (zX rfl) (B4 (A1 2 (pv 2)) (A1 1 (pv 1)))) (Aa (AE 4 AK.nd rfl (zX rfl) (B4 (Bo (Bo (A1 3 (pv 3)) A8) (B4 (G4 (A1 2 (pv 2)) A8) (TB (A1 1 (pv 1)) A8))) (A1 1 (pv 1)))) (Aa (AE 5 AK.nd rfl (zX rfl) (B4 (G4 (A1 2 (pv 2)) A8) A8)) (Aa (AE 6 AK.nd rfl (zX rfl) (B4 (G4 (A1 2 (pv 2)) A8) A8)) (Aa (BP (MQ (c:=true) (Bx hr 16 (by decide)) (A1 5 (pv 5)) A8) (Ad (AE 6 AK.nd rfl (zX rfl) GA)) AR) (Aa (BP (MQ (c:=true) (Bx hr 16 (by decide)) (A1 5 (pv 5)) A8) (Ad (AE 6 AK.nd rfl (zX rfl) (B4 (A1 0 (pv 0)) (LS A8 A8)))) AR) (Aa (BP (MQ (c:=true) (Bx hr 16 (by decide)) (A1 5 (pv 5)) A8) (Ad (AE 6 AK.nd rfl (zX rfl) (B4 (G4 (A1 2 (pv 2)) A8) A8))) AR) (Ad (AX (BQ (B5 (A2 (A1 3 (pv 3)) (A2 (A1 4 (pv 4)) (A2 (A1 6 (pv 6)) (A2 (B4 (AN (AG As.toXCall (CK T) (hr.mono (by decide)) rfl (A2 (A1 0 (pv 0)) (A2 A8 Ah)) rfl)) (Av (Bx hr 16 (by decide)) (P8 (A2 A8 (A2 (LS A8 A8) Ah))) (B4 (A1 0 (pv 0)) A8))) Ah))))))))))))))))),?_⟩;intro c m cn hm hc;have e0:B6 ["_law_cell","_law_many","_law_mixed_here","_law_one","_law_other","_law_way","_law_length"] [.int c,.int m]=[some (.val (.int c)),some (.val (.int m)),none,none,none,none,none]:=rfl;rw[e0];obtain⟨x,x0,hx⟩:=CL c 1 (by omega) (by omega);obtain⟨y,y0,hy⟩:=CL c 2 (by omega) (by omega);have d4:(0:Int)<(m:Int):=by omega
 have cR:(0:Int)<(m:Int)-1:=by omega
 obtain⟨a,ha⟩:∃a,a=x%(m:Int):=⟨_,rfl⟩;have a0:0<=a:=by rw[ha];exact yp _ (by omega)
 have a1:a<m:=by rw[ha];exact Int.emod_lt_of_pos _ d4
 obtain⟨s,hs⟩:∃s,s=x / 16%((m:Int)-1):=⟨_,rfl⟩;have s0:0<=s:=by rw[hs];exact yp _ (by omega)
 have s1:s<(m:Int)-1:=by rw[hs];exact Int.emod_lt_of_pos _ cR
 obtain⟨b,hb⟩:∃b,b=(a+1+s)%(m:Int):=⟨_,rfl⟩;have b0:0<=b:=by rw[hb];exact yp _ (by omega)
 have b1:b<m:=by rw[hb];exact Int.emod_lt_of_pos _ d4
 have eV:a≠b:=by
  have:=Up (a:=a) (s:=1+s) (m:=m) a0 a1 (by omega) (by omega);rw[hb,Int.add_assoc];exact λ z=>this z.symm
 have iW:IL (.int x) (.int 16)=.ok (.int (x / 16)):=Fy (by unfold Ko;omega);have fg:IL (.int x) (.int 256)=.ok (.int (x / 256)):=Fy (by unfold Ko;omega);have bK:IL (.int x) (.int 1536)=.ok (.int (x / 1536)):=Fy (by unfold Ko;omega);have ma:Eh (.int x) (.int (m:Int))=.ok (.int a):=by rw[ha];exact AU d4
 have sb:Tx (.int (m:Int)) (.int 1)=.ok (.int ((m:Int)-1)):=rfl;have ms:Eh (.int (x / 16)) (.int ((m:Int)-1))=.ok (.int s):=by rw[hs];exact AU cR
 have iX:P6 (.int a) (.int 1)=.ok (.int (a+1)):=rfl;have iY:P6 (.int (a+1)) (.int s)=.ok (.int (a+1+s)):=rfl;have mb:Eh (.int (a+1+s)) (.int (m:Int))=.ok (.int b):=by rw[hb];exact AU d4
 have m6:Eh (.int (x / 256)) (.int 6)=.ok (.int (x / 256%6)):=AU (by decide);have m4:Eh (.int (x / 1536)) (.int 4)=.ok (.int (x / 1536%4)):=AU (by decide);have fj:Eh (.int (x / 1536)) (.int 101)=.ok (.int (x / 1536%101)):=AU (by decide);have m2:Eh (.int c) (.int 2)=.ok (.int (c%2)):=AU (by decide);obtain⟨T,d5,hT⟩:∃T:Int,0<T/\Tz (.int 10) (.int 60)=.ok (.int T):=⟨10^60,by decide,rfl⟩;have mT:Eh (.int c) (.int T)=.ok (.int (c%T)):=AU d5;obtain⟨w,w0,hw⟩:∃w,0<w/\BI (.lst [.int 5,.int T]) (.int (c%2))=.ok (.int w):=by
  have h:c%2=0\/c%2=1:=by omega
  rcases h with h|h
  ·rw[h];exact⟨5,by decide,rfl⟩
  ·rw[h];exact⟨T,d5,rfl⟩
 have mw:Eh (.int y) (.int w)=.ok (.int (y%w)):=AU w0;obtain⟨k,hk⟩:∃k,k=x / 256%6:=⟨_,rfl⟩;obtain⟨l,fb,hl⟩:∃l:Option Int,(∀z,l=some z->0<=z)/\l=(if k=2 then some (x / 1536%101) else if k=1 then some (c%T) else if k=0 then none else some (x / 1536%4)):=by
  refine⟨_,λ z hz=>?_,rfl⟩;split at hz
  ·cases hz;omega
  ·split at hz
   ·cases hz;exact yp _ (by omega)
   ·split at hz
    ·cases hz
    ·cases hz;omega
 refine⟨⟨a,b,l,y%w⟩,⟨⟨a0,a1,b0,b1,fb⟩,eV⟩,FN ?_⟩;rw[<-hk] at m6;apply wp_step
 ·simp_arith[hx];rfl
 apply wp_step
 ·simp_arith[ma];rfl
 apply wp_step
 ·simp_arith[iX,iW,sb,ms,iY,mb];rfl
 apply wp_step
 ·simp_arith[fg,m6];rfl
 apply wp_step
 ·simp_arith[bK,m4];rfl
 refine Cz (I:=λ ρ=>ρ=[some (.val (.int c)),some (.val (.int m)),some (.val (.int x)),some (.val (.int a)),some (.val (.int b)),some (.val (.int k)),some (.val (CU (if k=0 then none else some (x / 1536%4))))]) ?_ ?_
 ·simp_arith[];by_cases h:k=0
  ·simp only[h,decide_true,if_true];rfl
  ·simp only[h,decide_false,zv,if_false];rfl
 rintro ρ rfl;refine Cz (I:=λ ρ=>ρ=[some (.val (.int c)),some (.val (.int m)),some (.val (.int x)),some (.val (.int a)),some (.val (.int b)),some (.val (.int k)),some (.val (CU (if k=1 then some (c%T) else if k=0 then none else some (x / 1536%4))))]) ?_ ?_
 ·simp_arith[];by_cases h:k=1
  ·simp only[h,decide_true,if_true,X0,X1,JP,zS,zI,M.A7,Fe,Fc,GS,Hk,Hl,Hm,JF,Fm,Mb,Q1,Ha,Hb,Fh,PV,JC,JD,Hd,Ue,Fi,Fj,El,M9,Br,Ma,He,Hf,Fl,PX,H9,Df,toCl_list,toCl_listP,toCl_dct,JG,Ho,Hq,Hr,Hs,JH,Ht,Hu,Hv,Wh,Wg,Hg,PY,Hh,PZ,Hi,Hj,JE,Q0,XS,XT,Ui,Uj,Uk,Ul,Um,Uo,toCl_nil,GF,EO,KH,Mc,Fn,JI,JJ,Hw,Hx,JK,JL,JM,JN,JO,Hy,Hz,HB,HC,Fo,Fp,Fq,Fs,Ft,HD,Fu,Fv,Q3,Q4,Q5,Q6,Q7,Fw,ite_tt,ite_ff,Bool.not_true,Bool.not_false,List.getElem?_cons_zero,zM,FA,EQ,HH,Uh,Uy,Ug,Uz,UA,UB,JU,Mj,Mk,Ml,Cm,FD,K0,Mf,UN,Qv,Ms,hT,mT];rfl
  ·simp only[h,decide_false,zv,if_false];rfl
 rintro ρ rfl;refine Cz (I:=λ ρ=>ρ=[some (.val (.int c)),some (.val (.int m)),some (.val (.int x)),some (.val (.int a)),some (.val (.int b)),some (.val (.int k)),some (.val (CU l))]) ?_ ?_
 ·rw[hl];simp_arith[];by_cases h:k=2
  ·simp only[h,decide_true,if_true,X0,X1,JP,zS,zI,M.A7,Fe,Fc,GS,Hk,Hl,Hm,JF,Fm,Mb,Q1,Ha,Hb,Fh,PV,JC,JD,Hd,Ue,Fi,Fj,El,M9,Br,Ma,He,Hf,Fl,PX,H9,Df,toCl_list,toCl_listP,toCl_dct,JG,Ho,Hq,Hr,Hs,JH,Ht,Hu,Hv,Wh,Wg,Hg,PY,Hh,PZ,Hi,Hj,JE,Q0,XS,XT,Ui,Uj,Uk,Ul,Um,Uo,toCl_nil,GF,EO,KH,Mc,Fn,JI,JJ,Hw,Hx,JK,JL,JM,JN,JO,Hy,Hz,HB,HC,Fo,Fp,Fq,Fs,Ft,HD,Fu,Fv,Q3,Q4,Q5,Q6,Q7,Fw,ite_tt,ite_ff,Bool.not_true,Bool.not_false,List.getElem?_cons_zero,zM,FA,EQ,HH,Uh,Uy,Ug,Uz,UA,UB,JU,Mj,Mk,Ml,Cm,FD,K0,Mf,UN,Qv,Ms,bK,fj];rfl
  ·simp only[h,decide_false,zv,if_false];rfl
 rintro ρ rfl;simp_arith[hy,hT,m2,hw,mw];rfl
noncomputable def DV:List D->M OT:=zA DB
theorem Lw:Txt K mg->EY P w K mg base "_law_road" 2 2 DV:=(ze DB).1
theorem Lx:∀(c:Int) (m:Nat),2<=m->m<=20->0<=c->∃r:Road,(FO m r/\r.a≠r.b)/\DV [.int c,.int m]=.ok (.sh (JT r)):=(ze DB).2
theorem Es:∃F:List D->M OT,(∀ {P w K mg base},Txt K mg->EY P w K mg base "_law_map" 3 2 F)/\(∀(cs:List Int),cs.length<=25->(∀c∈cs,0<=c)->∃(m:Nat) (rs:List Road),1<=m/\m<=7/\rs.length<=24/\(∀r∈rs,FO m r/\r.a≠r.b)/\F [.lst (cs.map .int),.int 7]=.ok (.sh (Ap m rs))):=by
 refine⟨_,λ T=>Bp (k:=2) T.Oc BW _ (λ f Ba A outer s H E hr=>(Aa (AE 2 BW.nd rfl (zX rfl) (PQ rfl rfl T.SO (AN (Di (A1 0 (pv 0)) G5 (DJ A8))))) (Aa (AE 3 BW.nd rfl (Or.inr rfl) (Bo A8 (B4 (A1 2 (pv 2)) (A1 1 (pv 1))))) (Aa (AE 4 BW.nd rfl (zX rfl) (P8 Ah)) (Aa (BP (W9 (c:=true) (A1 3 (pv 3)) A8) (Ad (MU (NB:=["_law_cell","_law_many"]) 4 [none,some 3] BW.nd rfl (zX rfl) rfl (C3 (AN (Di (A1 0 (pv 0)) (DJ A8) (DJ A8)))) rfl rfl (Dc 0 (by decide) rfl rfl rfl) (λ _ _ _ _=>EF) (λ _ _ _ _=>(AN (Ff (AG (F8 rfl).toXCall (Lw T) (hr.mono (by decide)) rfl (A2 (A1 0 (pv 0)) (A2 (A1 1 (pv 1)) Ah)) rfl)))))) AR) (Ad (AX (BQ (B5 (A2 (A1 3 (pv 3)) (A2 (A1 4 (pv 4)) Ah))))))))))),?_⟩;intro cs hl hc;have e0:B6 ["_law_cells","_law_most","_law_head","_law_many","_law_roads"] [.lst (cs.map .int),.int 7]=[some (.val (.lst (cs.map .int))),some (.val (.int 7)),none,none,none]:=rfl;rw[e0];obtain⟨h,hh⟩:∃h:Int,h=(cs.take 1).sum:=⟨_,rfl⟩;obtain⟨m,hm⟩:∃m:Nat,(m:Int)=1+h%7:=⟨(1+h%7).toNat,by omega⟩;have cS:1<=m:=by omega
 have cn:m<=7:=by omega
 have s1:Oi none (some 1) (.lst (cs.map D.int))=.ok (.lst (((cs.take 1).map D.int).map .sh)):=by rw[List.map_take];exact HA _ 1
 have s2:Oi (some 1) (some 25) (.lst (cs.map D.int))=.ok (.lst ((((cs.drop 1).take 24).map D.int).map .sh)):=by rw[List.map_take,List.map_drop];exact RZ _ 1 25
 have m7:Eh (.int h) (.int 7)=.ok (.int (h%7)):=AU (by decide);have hlen:((((cs.drop 1).take 24).map D.int)).length<=1000:=by rw[zh,ym];omega
 by_cases j2:1<m
 ·obtain⟨g,hg⟩:∃g:Int->Road,∀c,0<=c->((FO m (g c)/\(g c).a≠(g c).b)/\DV [.int c,.int m]=.ok (.sh (JT (g c)))):=by
   have this:∀c:Int,∃r:Road,0<=c->((FO m r/\r.a≠r.b)/\DV [.int c,.int m]=.ok (.sh (JT r))):=λ c=>by
    by_cases gQ:0<=c
    ·obtain⟨r,hr⟩:=Lx c m (by omega) (by omega) gQ;exact⟨r,λ _=>hr⟩
    ·exact⟨⟨0,0,none,0⟩,λ z=>(gQ z).elim⟩
   exact⟨λ c=>zA (this c),λ c=>ze (this c)⟩
  have gR:∀c∈(cs.drop 1).take 24,0<=c:=λ c ab=>hc c (List.mem_of_mem_drop (List.mem_of_mem_take ab));refine⟨m,((cs.drop 1).take 24).map g,cS,cn,by rw[zh,ym];omega,λ r hr=>?_,FN ?_⟩
  ·obtain⟨c,ab,rfl⟩:=List.mem_map.mp hr;exact (hg c (gR c ab)).1
  apply wp_step
  ·simp_arith[s1];rfl
  rw[<-hh];apply wp_step
  ·simp_arith[m7,<-hm];rfl
  apply wp_step
  ·rfl
  refine Cz (I:=λ ρ=>ρ=[some (.val (.lst (cs.map .int))),some (.val (.int 7)),some (.val (.int h)),some (.val (.int m)),some (.val (.lst ((((cs.drop 1).take 24).map g).map JT)))]) ?_ ?_
  ·have fm:(1:Int)<(m:Int):=by omega
   simp_arith[decide_eq_true fm,s2,if_pos hlen];rw[CB (λ c=>JT (g c)) (λ c ab=>⟨_,rfl,rfl,by
    have:=(hg c (gR c ab)).2;simp_arith[this]⟩)]
   simp_arith[];show _=_;rw[List.map_map];rfl
  rintro ρ rfl;simp_arith[];rfl
 ·refine⟨m,[],cS,cn,by simp,(λ r hr=>by cases hr),FN ?_⟩;apply wp_step
  ·simp_arith[s1];rfl
  rw[<-hh];apply wp_step
  ·simp_arith[m7,<-hm];rfl
  apply wp_step
  ·rfl
  have fm:¬ (1:Int)<(m:Int):=by omega
  apply wp_step
  ·simp_arith[decide_eq_false fm];rfl
  simp_arith[];rfl
noncomputable def Ly:List D->M OT:=zA Es
theorem MC:Txt K mg->EY P w K mg base "_law_map" 3 2 Ly:=(ze Es).1
theorem MD:∀(cs:List Int),cs.length<=25->(∀c∈cs,0<=c)->∃(m:Nat) (rs:List Road),1<=m/\m<=7/\rs.length<=24/\(∀r∈rs,FO m r/\r.a≠r.b)/\Ly [.lst (cs.map .int),.int 7]=.ok (.sh (Ap m rs)):=(ze Es).2
theorem CM:∃F:List D->M OT,(∀ {P w K mg base},Txt K mg->EY P w K mg base "_law_order" 2 2 F)/\(∀(m:Nat) (c:Int),m<=60->∃L:List Int,L.Perm (B2 m)/\F [.int m,.int c]=.ok (.lst ((L.map D.int).map .sh))):=by
 refine⟨_,λ T=>Bp (k:=1) T.Ln CF _ (λ f Ba A outer s H E hr=>(Aa (EI 2 CF.nd rfl (zX rfl) (U4 RP)) (Aa (D9 As.toXCall.own rfl (NL (c:=true) rfl T.Si (A1 0 (pv 0))) (B9 3 CF.nd rfl (zX rfl)) (Ad (NS 2 (pv 2) (B4 (AN (AG As.toXCall (CK T) (hr.mono (by decide)) rfl (A2 (A1 1 (pv 1)) (A2 (A1 3 (pv 3)) Ah)) rfl)) (Bo (A1 3 (pv 3)) A8)) (A1 3 (pv 3))))) (Ad (G8 2 (pv 2)))))),?_⟩;intro m c hm;have e0:B6 ["_law_many","_law_cell","_law_order_here","_law_k"] [.int m,.int c]=[some (.val (.int m)),some (.val (.int c)),none,none]:=rfl;rw[e0];refine (λ h:∃t,_/\∃L:List Int,t=OT.lst ((L.map D.int).map .sh)/\L.Perm (B2 m)=>by
  obtain⟨t,h1,L,rfl,h2⟩:=h;exact⟨L,h2,h1⟩) (N3 ?_)
 have hr:=Pg (n:=m) (by omega);apply wp_step
 ·rfl
 try simp only[zS,zI]
 refine Cz (I:=λ ρ=>∃(L:List Int) (s3:Option Cl),ρ=[some (.val (.int m)),some (.val (.int c)),some (.own (L.map D.int)),s3]/\L.Perm (B2 m)) ?_ ?_
 ·simp_arith[hr];refine Dj (λ i ρ=>i<=m/\∃(L:List Int) (s3:Option Cl),ρ=[some (.val (.int m)),some (.val (.int c)),some (.own (L.map D.int)),s3]/\L.Perm (B2 i)) ⟨zR _,[],none,rfl,.refl _⟩ ?_ ?_
  ·rintro i d ρ hd ⟨_,L,s3,rfl,hL⟩;obtain⟨cq,hi⟩:=GD hd;rw[Int.zero_add] at cq;subst cq;have hlen:=Qf hL;refine⟨_,rfl,?_⟩;obtain⟨v,v0,hv⟩:=CL c i (by omega) (by omega);have cS:Eh (.int v) (.int ((i:Int)+1))=.ok (.int (v%((i:Int)+1))):=AU (by omega);have b0:0<=v%((i:Int)+1):=yp _ (by omega);have b1:v%((i:Int)+1)<(i:Int)+1:=Int.emod_lt_of_pos _ (by omega);refine Bj (ρ':=[some (.val (.int m)),some (.val (.int c)),some (.own ((L.take (v%((i:Int)+1)).toNat++(i:Int)::L.drop (v%((i:Int)+1)).toNat).map D.int)),some (.val (.int i))]) ?_ ⟨by omega,_,_,rfl,O3 hL _⟩;simp_arith[hv,cS];rw[if_pos ⟨b0,by rw[zh];omega,by rw[zh];omega⟩];simp only[zW,zj,List.map_take,List.map_drop];rfl
  ·rintro ρ ⟨_,L,s3,rfl,hL⟩;exact⟨L,s3,rfl,by rw[Ct] at hL;exact hL⟩
 ·rintro ρ ⟨L,s3,rfl,hL⟩;exact⟨_,rfl,L,rfl,hL⟩
noncomputable def HY:List D->M OT:=zA CM
theorem Kc:Txt K mg->EY P w K mg base "_law_order" 2 2 HY:=(ze CM).1
theorem Kd:∀(m:Nat) (c:Int),m<=60->∃L:List Int,L.Perm (B2 m)/\HY [.int m,.int c]=.ok (.lst ((L.map D.int).map .sh)):=(ze CM).2
theorem CN:∃F:OT->List D->M (OT×OT),(∀ {P w K mg base},Txt K mg->FK P w K mg base "_law_least" 1 3 F)/\(∀(R:RA) (y:Int) (v:Int×Int),R.length<1000->F (Ic R) [.int y,cst (some v)]=.ok (Ic (if bt R y v=true then B3 R y v else R),.sh (.bl (bt R y v)))):=by
 refine⟨_,λ T=>GY (k:=0) T.Lo K5 _ (λ f Ba A outer s H E hr=>(Aa (BP (Jv (DW.dt (GC (Jx (c:=true) (Bx hr 16 (by decide)) (A1 1 (pv 1)) (A1 0 (pv 0))) (F5 (Qd (c:=true) (Bx hr 16 (by decide)) (A1 2 (pv 2)) (Av (Bx hr 16 (by decide)) (A1 0 (pv 0)) (A1 1 (pv 1)))))))) (Aa (JB (Bx hr 16 (by decide)) (C4 0 (pv 0)) (A1 1 (pv 1)) (A1 2 (pv 2))) (Ad (N1 (BQ IJ)))) AR) (Ad (N1 (BQ IJ))))),?_⟩;intro R y v hR;have e0:BR ["_law_found","_law_place","_law_cost_here"] (Ic R) [.int y,cst (some v)]=[some (.ow (.tree (some 0) (Ic R))),some (.val (.int y)),some (.val (cst (some v)))]:=rfl;rw[e0];refine Mp ?_;have hm:=Mn R y true;have hl:(R.map λ kv=>D.int kv.1).length<1000:=by rw[zh];exact hR
 have b9:keyOk false (.int y)=true:=rfl;cases q:Ax R y with
 |none =>
  have hb:bt R y v=true:=by unfold bt;rw[q]
  rw[q] at hm;rw[hb,if_pos rfl];simp_arith[hm,hl,b9,and_self,if_true,Qr,Option.isSome_none,FX];exact⟨rfl,rfl⟩
 |some z =>
  have hx:=Wz v z;have hi:=Mo q;rw[q] at hm;by_cases hc:v.1<z.1\/(v.1=z.1/\v.2<z.2)
  ·have hb:bt R y v=true:=by unfold bt;rw[q];exact decide_eq_true hc
   rw[decide_eq_true hc] at hx;rw[hb,if_pos rfl];simp_arith[hm,hi,hx,hl,b9,and_self,if_true,Qr,yr,FX];exact⟨rfl,rfl⟩
  ·have hb:bt R y v=false:=by unfold bt;rw[q];exact decide_eq_false hc
   rw[decide_eq_false hc] at hx;rw[hb,if_neg zD];simp_arith[hm,hi,hx,if_true,yr,FX];exact⟨rfl,rfl⟩
noncomputable def HZ:OT->List D->M (OT×OT):=zA CN
theorem Ke:Txt K mg->FK P w K mg base "_law_least" 1 3 HZ:=(ze CN).1
theorem Kf:∀(R:RA) (y:Int) (v:Int×Int),R.length<1000->HZ (Ic R) [.int y,cst (some v)]=.ok (Ic (if bt R y v=true then B3 R y v else R),.sh (.bl (bt R y v))):=(ze CN).2
theorem CO:∃F:List D->M OT,(∀ {P w K mg base},Txt K mg->EY P w K mg base "_law_costs" 2 3 F)/\(∀(m:Nat) (rs:List Road) (s:Int) (W:List Int),m<=20->(∀r∈rs,FO m r)->0<=s->s<m->∃R:RA,F [Ap m rs,.int s,.lst (W.map D.int)]=.ok (Ic R)/\Vj m rs s W R):=by
 refine⟨_,λ T=>Bp (k:=1) T.Lp Az _ (λ f Ba A outer s H E hr=>(Aa (EI 3 Az.nd rfl (zX rfl) (Qe (A1 1 (pv 1)) (B5 (A2 A8 (A2 A8 Ah))))) (Aa (AE 4 Az.nd rfl (zX rfl) IJ) (Aa (Pu As.toXCall.own (Jy (c:=true) (A1 4 (pv 4))) (Aa (AE 4 Az.nd rfl (zX rfl) IJ) (Ad (D9 As.toXCall.own rfl (C3 (Av (Bx hr 16 (by decide)) (A1 0 (pv 0)) A8)) (Pf (n:=4) rfl (Cf (B9 5 Az.nd rfl (zX rfl)) (Cf (B9 6 Az.nd rfl (zX rfl)) (Cf (B9 7 Az.nd rfl (zX rfl)) (Cf (B9 8 Az.nd rfl (zX rfl)) MT))))) (Ad (BP (Jv (DW.dt (LW (MR (c:=true) (A1 7 (pv 7))) (LW (M8 (c:=true) (Bx hr 16 (by decide)) (A1 5 (pv 5)) (A1 3 (pv 3))) (MS (DW.dt (GC (MQ (c:=true) (Bx hr 16 (by decide)) (A1 5 (pv 5)) (A1 1 (pv 1))) (F5 (M8 (c:=true) (Bx hr 16 (by decide)) (A1 5 (pv 5)) (A1 2 (pv 2))))))))))) (Aa (AE 9 Az.nd rfl (zX rfl) (RM (U5 (c:=true) (B5 (A2 (Bo (Av (Bx hr 16 (by decide)) (Av (Bx hr 16 (by decide)) (A1 3 (pv 3)) (A1 5 (pv 5))) A8) (A1 7 (pv 7))) (A2 (Bo (Av (Bx hr 16 (by decide)) (Av (Bx hr 16 (by decide)) (A1 3 (pv 3)) (A1 5 (pv 5))) A8) A8) Ah)))))) (Ad (RW 4 Az.nd rfl (zX rfl) (Wq (N2 As.toXCall (Ke T) (hr.mono (by decide)) rfl (C4 3 (pv 3)) (A2 (A1 6 (pv 6)) (A2 (A1 9 (pv 9)) Ah)) rfl) (A1 4 (pv 4)))))) AR)))))) (Ad (G8 3 (pv 3))))))),?_⟩;intro m rs s W hm An h0 h1;have e0:B6 ["_law_land","_law_start","_law_inner","_law_found","_law_better","_law_one","_law_other","_law_length","_law_width","_law_cost_here"] [Ap m rs,.int s,.lst (W.map D.int)]=[some (.val (Ap m rs)),some (.val (.int s)),some (.val (.lst (W.map D.int))),none,none,none,none,none,none,none]:=rfl;rw[e0];refine (λ h:∃t,_/\∃R:RA,t=Ic R/\Vj m rs s W R=>by
  obtain⟨t,h1,R,rfl,h2⟩:=h;exact⟨R,h1,h2⟩) (N3 ?_)
 have n1:BI (Ap m rs) (.int 1)=.ok (.lst (rs.map JT)):=rfl;refine wp_step (ρ':=[some (.val (Ap m rs)),some (.val (.int s)),some (.val (.lst (W.map D.int))),some (.ow (.tree none (Ic [(s,(0,0))]))),none,none,none,none,none,none]) (by rfl) ?_;refine wp_step (ρ':=[some (.val (Ap m rs)),some (.val (.int s)),some (.val (.lst (W.map D.int))),some (.ow (.tree none (Ic [(s,(0,0))]))),some (.val (.bl true)),none,none,none,none,none]) (by rfl) ?_;refine Cz (I:=λ ρ=>∃(R:RA) (s4 s5 s6 s7 s8 s9:Option Cl),ρ=[some (.val (Ap m rs)),some (.val (.int s)),some (.val (.lst (W.map D.int))),some (.ow (.tree none (Ic R))),s4,s5,s6,s7,s8,s9]/\Vj m rs s W R) ?_ ?_
 ·refine PR (lt:=XW) (λ z ρ=>∃(R:RA) (s5 s6 s7 s8:Option Cl) (o9:Option D),ρ=[some (.val (Ap m rs)),some (.val (.int s)),some (.val (.lst (W.map D.int))),some (.ow (.tree none (Ic R))),some (.val (.bl z.2)),s5,s6,s7,s8,vO o9]/\z.1=Bs m R/\QQ m rs s W R/\(z.2=false->X4 rs s W R)) (UK (Bs m [(s,(0,0))])) ⟨_,none,none,none,none,none,rfl,rfl,QQ.start h0 h1,λ e=>by cases e⟩ ?_;rintro ⟨cs,b⟩ ρ ⟨R0,s5,s6,s7,s8,o9,rfl,gU,g,hR⟩;dsimp only at gU;cases b with
  |false=>exact .inl ⟨rfl,R0,_,s5,s6,s7,s8,_,rfl,g.fin (hR rfl)⟩
  |true =>
   refine .inr ⟨rfl,?_⟩;apply wp_step
   ·rfl
   try simp only[zS,zI]
   simp_arith[n1];refine Dj (λ i ρ=>∃(R:RA) (ch:Bool) (s5 s6 s7 s8:Option Cl) (o9:Option D),ρ=[some (.val (Ap m rs)),some (.val (.int s)),some (.val (.lst (W.map D.int))),some (.ow (.tree none (Ic R))),some (.val (.bl ch)),s5,s6,s7,s8,vO o9]/\QQ m rs s W R/\(ch=true->GO ltN (Bs m R) (Bs m R0))/\(ch=false->R=R0/\X4 (rs.take i) s W R0)) ⟨R0,false,s5,s6,s7,s8,o9,rfl,g,(λ h=>by cases h),λ _=>⟨rfl,λ r hr=>by rw[List.take_zero] at hr;cases hr⟩⟩ ?_ ?_
   ·rintro i d ρ hd ⟨R,ch,s5,s6,s7,s8,o9,rfl,g1,k1,k2⟩;obtain⟨r,hq,rfl⟩:=BU hd;have hr:=zk hq;have ok:=An r hr;have et:rs.take (i+1)=rs.take i++[r]:=by rw[List.take_add_one,hq];rfl
    refine⟨_,rfl,?_⟩;have skip:(∀l c,r.l=some l->Ax R r.a=some c->(r.a=s\/r.a∈W)->BF (Ax R r.b) (some (c.1+l,c.2+1)))->ch=false->R=R0/\X4 (rs.take (i+1)) s W R0:=λ hs hf=>by
     obtain⟨e1,e2⟩:=k2 hf;subst e1;refine⟨rfl,λ r' bI=>?_⟩;rw[et] at bI;rcases zE.mp bI with bI|bI
     ·exact e2 r' bI
     ·rw[zl.mp bI];exact hs
    cases ql:r.l with
    |none =>
     have bu:D6 (CU none)=true:=rfl;refine Bj (ρ':=_) (by simp_arith[ql,bu];rfl) ⟨R,ch,_,_,_,_,_,rfl,g1,k1,skip λ l c e=>by rw[ql] at e;cases e⟩
    |some l =>
     have bu:D6 (CU (some l))=false:=rfl;have bj:=Mn R r.a false;cases qa:Ax R r.a with
     |none =>
      rw[qa] at bj;refine Bj (ρ':=_) (by simp_arith[ql,bu,bj];rfl) ⟨R,ch,_,_,_,_,_,rfl,g1,k1,skip λ l c _ e=>by rw[qa] at e;cases e⟩
     |some c0 =>
      rw[qa] at bj;have i1:=Mo qa;have j0:BI (cst (some c0)) (.int 0)=.ok (.int c0.1):=rfl;have j1:BI (cst (some c0)) (.int 1)=.ok (.int c0.2):=rfl;have ll:CU (some l)=.int l:=rfl;have tt:D.tup [.int (c0.1+l),.int (c0.2+1)]=cst (some (c0.1+l,c0.2+1)):=rfl;have hlen:R.length<1000:=by
       have:=DR g1.nd (u:=B2 m) λ k hk=>L4.mpr (g1.rg k hk);rw[zh,L3] at this;omega
      have h5:=Kf R r.b (c0.1+l,c0.2+1) hlen;by_cases hi:r.a=s\/r.a∈W
      ·by_cases e1:r.a=s
       ·simp_arith[ql,bu,bj,decide_eq_true e1,yr,zv,if_false,if_true];apply wp_step
        ·simp_arith[i1,j0,j1,ll];rfl
        try simp only[zS,zI]
        have h6:=Ck (ρ:=[some (.val (Ap m rs)),some (.val (.int s)),some (.val (.lst (W.map D.int))),some (.ow (.tree none (Ic R))),some (.val (.bl ch)),some (.val (.int r.a)),some (.val (.int r.b)),some (.val (.int l)),some (.val (.int r.w)),some (.val (cst (some (c0.1+l,c0.2+1))))]) (i:=3) rfl rfl h5;cases hb:bt R r.b (c0.1+l,c0.2+1) with
        |true =>
         rw[hb,if_pos rfl] at h6;obtain⟨g2,g3⟩:=g1.put An hr ql qa hi hb;refine Bj (ρ':=[some (.val (Ap m rs)),some (.val (.int s)),some (.val (.lst (W.map D.int))),some (.ow (.tree none (Ic (B3 R r.b (c0.1+l,c0.2+1))))),some (.val (.bl true)),some (.val (.int r.a)),some (.val (.int r.b)),some (.val (.int l)),some (.val (.int r.w)),vO (some (cst (some (c0.1+l,c0.2+1))))]) (by
          simp_arith[ll,tt];rw[h6];rfl) ⟨_,true,_,_,_,_,_,rfl,g2,λ _=>?_,λ hf=>by cases hf⟩
         cases ch with
         |false=>obtain⟨e1,_⟩:=k2 rfl;subst e1;exact g3
         |true=>exact GO.trans ltN IZ g3 (k1 rfl)
        |false =>
         rw[hb,if_neg zD] at h6;refine Bj (ρ':=[some (.val (Ap m rs)),some (.val (.int s)),some (.val (.lst (W.map D.int))),some (.ow (.tree none (Ic R))),some (.val (.bl ch)),some (.val (.int r.a)),some (.val (.int r.b)),some (.val (.int l)),some (.val (.int r.w)),vO (some (cst (some (c0.1+l,c0.2+1))))]) (by
          simp_arith[ll,tt];rw[h6];rfl) ⟨R,ch,_,_,_,_,_,rfl,g1,k1,skip λ l' c' q1 q2 _=>by rw[ql] at q1;cases q1;rw[qa] at q2;cases q2;exact SM hb⟩
       ·have e2:W.contains r.a=true:=by simpa using hi.resolve_left e1
        simp_arith[ql,bu,bj,decide_eq_false e1,e2,yr,zv,if_false,if_true];apply wp_step
        ·simp_arith[i1,j0,j1,ll];rfl
        try simp only[zS,zI]
        have h6:=Ck (ρ:=[some (.val (Ap m rs)),some (.val (.int s)),some (.val (.lst (W.map D.int))),some (.ow (.tree none (Ic R))),some (.val (.bl ch)),some (.val (.int r.a)),some (.val (.int r.b)),some (.val (.int l)),some (.val (.int r.w)),some (.val (cst (some (c0.1+l,c0.2+1))))]) (i:=3) rfl rfl h5;cases hb:bt R r.b (c0.1+l,c0.2+1) with
        |true =>
         rw[hb,if_pos rfl] at h6;obtain⟨g2,g3⟩:=g1.put An hr ql qa hi hb;refine Bj (ρ':=[some (.val (Ap m rs)),some (.val (.int s)),some (.val (.lst (W.map D.int))),some (.ow (.tree none (Ic (B3 R r.b (c0.1+l,c0.2+1))))),some (.val (.bl true)),some (.val (.int r.a)),some (.val (.int r.b)),some (.val (.int l)),some (.val (.int r.w)),vO (some (cst (some (c0.1+l,c0.2+1))))]) (by
          simp_arith[ll,tt];rw[h6];rfl) ⟨_,true,_,_,_,_,_,rfl,g2,λ _=>?_,λ hf=>by cases hf⟩
         cases ch with
         |false=>obtain⟨e1,_⟩:=k2 rfl;subst e1;exact g3
         |true=>exact GO.trans ltN IZ g3 (k1 rfl)
        |false =>
         rw[hb,if_neg zD] at h6;refine Bj (ρ':=[some (.val (Ap m rs)),some (.val (.int s)),some (.val (.lst (W.map D.int))),some (.ow (.tree none (Ic R))),some (.val (.bl ch)),some (.val (.int r.a)),some (.val (.int r.b)),some (.val (.int l)),some (.val (.int r.w)),vO (some (cst (some (c0.1+l,c0.2+1))))]) (by
          simp_arith[ll,tt];rw[h6];rfl) ⟨R,ch,_,_,_,_,_,rfl,g1,k1,skip λ l' c' q1 q2 _=>by rw[ql] at q1;cases q1;rw[qa] at q2;cases q2;exact SM hb⟩
      ·have e1:¬ r.a=s:=λ e=>hi (.inl e);have e2:W.contains r.a=false:=by simpa using λ e=>hi (.inr e)
       refine Bj (ρ':=_) (by simp_arith[ql,bu,bj,decide_eq_false e1,e2];rfl) ⟨R,ch,_,_,_,_,_,rfl,g1,k1,skip λ l c _ _ e=>(hi e).elim⟩
   ·rintro ρ ⟨R,ch,s5,s6,s7,s8,o9,rfl,g1,k1,k2⟩;cases ch with
    |true=>exact⟨(Bs m R,true),⟨rfl,.inr ⟨rfl,by rw[gU];exact k1 rfl⟩⟩,R,s5,s6,s7,s8,o9,rfl,rfl,g1,λ e=>by cases e⟩
    |false =>
     obtain⟨e1,e2⟩:=k2 rfl;subst e1;rw[zh,y9] at e2;exact⟨(Bs m R,false),⟨rfl,.inl rfl⟩,R,s5,s6,s7,s8,o9,rfl,rfl,g1,λ _=>e2⟩
 ·rintro ρ ⟨R,s4,s5,s6,s7,s8,s9,rfl,hR⟩;exact⟨_,rfl,R,rfl,hR⟩
noncomputable def I0:List D->M OT:=zA CO
theorem Kg:Txt K mg->EY P w K mg base "_law_costs" 2 3 I0:=(ze CO).1
theorem Kh:∀(m:Nat) (rs:List Road) (s:Int) (W:List Int),m<=20->(∀r∈rs,FO m r)->0<=s->s<m->∃R:RA,I0 [Ap m rs,.int s,.lst (W.map D.int)]=.ok (Ic R)/\Vj m rs s W R:=(ze CO).2
theorem DC:∃F:List D->M OT,(∀ {P w K mg base},Txt K mg->EY P w K mg base "_law_arcs" 3 2 F)/\(∀(m:Nat) (rs:List Road) (L:List Int),m<=20->L.Perm (B2 m)->(∀r∈rs,FO m r/\r.a≠r.b)->∃C:CA,F [Ap m rs,.lst (L.map D.int)]=.ok (L8 C)/\(C.map zF).Nodup/\∀p,Ax C p=A3 (Al rs L) p):=by
 refine⟨_,λ T=>Bp (k:=2) T.Mz Bd _ (λ f Ba A outer s H E hr=>(Aa (EI 2 Bd.nd rfl (zX rfl) (KU true)) (Aa (D9 As.toXCall.own rfl (C3 (A1 1 (pv 1))) (B9 3 Bd.nd rfl (zX rfl)) (Ad (D9 As.toXCall.own rfl (C3 (A1 1 (pv 1))) (B9 4 Bd.nd rfl (zX rfl)) (Ad (BP (P9 (c:=true) (Bx hr 16 (by decide)) (A1 3 (pv 3)) (A1 4 (pv 4))) (Aa (AE 5 Bd.nd rfl (zX rfl) (AN (Di (A1 1 (pv 1)) G5 (DJ (RY rfl rfl T.WH (Lc (A1 1 (pv 1)) (A1 3 (pv 3))) (Lc (A1 1 (pv 1)) (A1 4 (pv 4)))))))) (Aa (AE 6 Bd.nd rfl (zX rfl) (AN (AG As.toXCall (Kg T) (hr.mono (by decide)) rfl (A2 (A1 0 (pv 0)) (A2 (A1 3 (pv 3)) (A2 (A1 5 (pv 5)) Ah))) rfl))) (Ad (BP (M8 (c:=true) (Bx hr 16 (by decide)) (A1 4 (pv 4)) (A1 6 (pv 6))) (Ad (JB (Bx hr 16 (by decide)) (C4 2 (pv 2)) (B5 (A2 (A1 3 (pv 3)) (A2 (A1 4 (pv 4)) Ah))) (Av (Bx hr 16 (by decide)) (A1 6 (pv 6)) (A1 4 (pv 4))))) AR)))) AR))))) (Ad (G8 2 (pv 2)))))),?_⟩;intro m rs L hm hL An;have hn:=CC hL;have aE:=(Cj hL An).1;have fv:∀r∈rs,FO m r:=λ r hr=>(An r hr).1;have e0:B6 ["_law_land","_law_order_here","_law_arcs_here","_law_u","_law_w","_law_inner","_law_found"] [Ap m rs,.lst (L.map D.int)]=[some (.val (Ap m rs)),some (.val (.lst (L.map D.int))),none,none,none,none,none]:=rfl;rw[e0];refine (λ h:∃t,_/\∃C:CA,t=L8 C/\(C.map zF).Nodup/\∀p,Ax C p=A3 (Al rs L) p=>by
  obtain⟨t,h1,C,rfl,h2⟩:=h;exact⟨C,h1,h2⟩) (N3 ?_)
 refine wp_step (ρ':=[some (.val (Ap m rs)),some (.val (.lst (L.map D.int))),some (.ow (.tree none (L8 []))),none,none,none,none]) (by rfl) ?_;refine Cz (I:=λ ρ=>∃(C:CA) (s3 s4 s5 s6:Option Cl),ρ=[some (.val (Ap m rs)),some (.val (.lst (L.map D.int))),some (.ow (.tree none (L8 C))),s3,s4,s5,s6]/\Ie L (Al rs L) L 0 [] C) ?_ ?_
 ·simp_arith[];refine Dj (λ i ρ=>∃(C:CA) (s3 s4:Option Cl) (o5 o6:Option D),ρ=[some (.val (Ap m rs)),some (.val (.lst (L.map D.int))),some (.ow (.tree none (L8 C))),s3,s4,vO o5,vO o6]/\Ie L (Al rs L) (L.take i) 0 [] C) ⟨[],none,none,none,none,rfl,Ie.start⟩ ?_ ?_
  ·rintro i d ρ hd ⟨C0,s3,s4,o5,o6,rfl,iZ⟩;obtain⟨u,hu,rfl⟩:=BU hd;have fw:=zk hu;have gW:=(Bk hL).mp fw;have et:L.take (i+1)=L.take i++[u]:=by rw[List.take_add_one,hu];rfl
   refine⟨_,rfl,?_⟩;rw[et];simp_arith[];refine Dj (λ j ρ=>∃(C:CA) (s4:Option Cl) (o5 o6:Option D),ρ=[some (.val (Ap m rs)),some (.val (.lst (L.map D.int))),some (.ow (.tree none (L8 C))),some (.val (.int u)),s4,vO o5,vO o6]/\Ie L (Al rs L) (L.take i) u (L.take j) C) ⟨C0,s4,o5,o6,rfl,iZ.any u⟩ ?_ ?_
   ·rintro j d ρ hd ⟨C,s4,o5,o6,rfl,hC⟩;obtain⟨w,hw,rfl⟩:=BU hd;have f6:=zk hw;have ja:L.take (j+1)=L.take j++[w]:=by rw[List.take_add_one,hw];rfl
    refine⟨_,rfl,?_⟩;rw[ja];by_cases e:u=w
    ·refine Bj (ρ':=_) (by simp_arith[decide_eq_true e];rfl) ⟨C,_,_,_,rfl,hC.none (.inl e)⟩
    ·have x1:=Le fw;have x2:=Le f6;have mn:=Se (B0 L u) (B0 L w);obtain⟨k,hk⟩:∃k,k=min (B0 L u) (B0 L w):=⟨_,rfl⟩;rw[<-hk] at mn;have sl:Oi none (some (k:Int)) (.lst (L.map D.int))=.ok (.lst (((L.take k).map D.int).map .sh)):=by rw[List.map_take];exact HA _ k
     obtain⟨R,hF,hR⟩:=Kh m rs u (L.take k) hm fv gW.1 gW.2;have d6:=UT hL An fw f6 e (R:=R) (by rw[<-hk];exact hR);have bj:=Mn R w false;simp_arith[decide_eq_false e,if_true];apply wp_step
     ·simp_arith[x1,x2,mn,sl];rfl
     try simp only[zS,zI]
     apply wp_step
     ·simp_arith[hF];rfl
     try simp only[zS,zI]
     cases q:Ax R w with
     |none =>
      rw[q] at bj d6;refine Bj (ρ':=_) (by simp_arith[bj];rfl) ⟨C,_,some _,some _,rfl,hC.none (.inr d6.symm)⟩
     |some c =>
      rw[q] at bj d6;have i1:=Mo q;have hl:(C.map λ kv=>pD kv.1).length<1000:=by rw[zh];exact hC.len aE hm
      have b9:keyOk true (pD (u,w))=true:=rfl;have t1:D.tup [.int u,.int w]=pD (u,w):=rfl;refine Bj (ρ':=[some (.val (Ap m rs)),some (.val (.lst (L.map D.int))),some (.ow (.tree none (L8 (B3 C (u,w) c)))),some (.val (.int u)),some (.val (.int w)),vO (some (.lst ((L.take k).map D.int))),vO (some (Vi R))]) (by
       simp_arith[bj,i1,t1,hl,b9,J4,and_self,if_true,UU,yr,zv,if_false];rfl) ⟨_,_,_,_,rfl,hC.put d6.symm f6 e⟩
   ·rintro ρ ⟨C,s4,o5,o6,rfl,hC⟩;rw[zh,y9] at hC;exact⟨C,_,s4,o5,o6,rfl,hC.next 0⟩
  ·rintro ρ ⟨C,s3,s4,o5,o6,rfl,hC⟩;rw[zh,y9] at hC;exact⟨C,s3,s4,_,_,rfl,hC⟩
 ·rintro ρ ⟨C,s3,s4,s5,s6,rfl,hC⟩;exact⟨_,rfl,C,rfl,hC.nd,λ p=>hC.fin hL An p⟩
noncomputable def J6:List D->M OT:=zA DC
theorem Lz:Txt K mg->EY P w K mg base "_law_arcs" 3 2 J6:=(ze DC).1
theorem LB:∀(m:Nat) (rs:List Road) (L:List Int),m<=20->L.Perm (B2 m)->(∀r∈rs,FO m r/\r.a≠r.b)->∃C:CA,J6 [Ap m rs,.lst (L.map D.int)]=.ok (L8 C)/\(C.map zF).Nodup/\∀p,Ax C p=A3 (Al rs L) p:=(ze DC).2
theorem DD:∃F:List D->M OT,(∀ {P w K mg base},Txt K mg->EY P w K mg base "_law_cost" 1 1 F)/\(∀c:Int×Int,F [cst (some c)]=.ok (.sh (.bl true))):=by
 refine⟨_,λ T=>Bp (k:=0) T.MA Li _ (λ f Ba A outer s H E hr=>(Aa (BP (DW.dt (GC (LV (Jy (c:=true) (Jm (LZ _) rfl T.BK rfl T.Sj (by decide +kernel) (A1 0 (pv 0))))) (F5 (P9 (c:=true) (Bx hr 16 (by decide)) (TN rfl T.WG (A1 0 (pv 0))) A8)))) (Ad (AX (BQ IJ))) AR) (Ad (AX (BQ (Pw rfl rfl T.SN (AN (RV (NB:=["_law_part"]) [none] rfl (UO (A1 0 (pv 0))) rfl rfl (Dc 0 (by decide) rfl rfl rfl) (λ _ _ _ _=>EF) (λ _ _ _ _=>(LY (Jm (Pd _) rfl T.BK rfl T.WE (by decide +kernel) (A1 0 (pv 0))) (LX (TF (Jm (NI _) rfl T.BK rfl T.V6 (by decide +kernel) (A1 0 (pv 0))))))))))))))),?_⟩;intro c;have e0:B6 ["_law_found"] [cst (some c)]=[some (.val (cst (some c)))]:=rfl;rw[e0];refine FN ?_;have ht:cst (some c)=.tup [.int c.1,.int c.2]:=rfl;apply wp_step
 ·simp_arith[ht];rfl
 simp_arith[ht];rfl
noncomputable def J7:List D->M OT:=zA DD
theorem LC:Txt K mg->EY P w K mg base "_law_cost" 1 1 J7:=(ze DD).1
theorem LD:∀c:Int×Int,J7 [cst (some c)]=.ok (.sh (.bl true)):=(ze DD).2
theorem CP:∃F:List D->M OT,(∀ {P w K mg base},Txt K mg->EY P w K mg base "_law_right" 5 2 F)/\(∀(m:Nat) (rs:List Road) (L:List Int),m<=20->rs.length<=900->L.Perm (B2 m)->(∀r∈rs,FO m r/\r.a≠r.b)->F [Ap m rs,.lst (L.map D.int)]=.ok (.sh (.bl true))):=by
 refine⟨_,λ T=>Bp (k:=4) T.Lq BJ _ (λ f Ba A outer s H E hr=>(Aa (AE 2 BJ.nd rfl (zX rfl) (B5 (A2 (B5 (A2 (Av (Bx hr 16 (by decide)) (A1 0 (pv 0)) A8) (A2 (AN (MX rfl T.QF (Av (Bx hr 16 (by decide)) (A1 0 (pv 0)) A8))) Ah))) (A2 (AN (MX rfl T.QF (A1 1 (pv 1)))) Ah)))) (Aa (EI 3 BJ.nd rfl (Or.inr rfl) (AG As.toXCall (EU T) (hr.mono (by decide)) rfl (A2 (Av (Bx hr 16 (by decide)) (A1 2 (pv 2)) A8) (A2 (Av (Bx hr 16 (by decide)) (A1 2 (pv 2)) A8) Ah)) rfl)) (Aa (AE 4 BJ.nd rfl (zX rfl) (AN (AG As.toXCall (Lz T) (hr.mono (by decide)) rfl (A2 (A1 0 (pv 0)) (A2 (A1 1 (pv 1)) Ah)) rfl))) (Aa (BP (Jv (DW.dt (GC (LV (Jy (c:=true) (Jm (NY _) rfl T.BK rfl T.QE (by decide +kernel) (A1 3 (pv 3))))) (GC (V4 (c:=true) (Bx hr 16 (by decide)) (A1 3 (pv 3)) (A1 4 (pv 4))) (F5 (LV (Jy (c:=true) (Pw rfl rfl T.SN (AN (J3 (NB:=["_law_pair","_law_found"]) [none,some 3] rfl (Lg (A1 3 (pv 3))) rfl rfl (Dc 0 (by decide) rfl rfl rfl) (λ _ _ _ _=>EF) (λ _ _ _ _=>(AN (Ff (AG (F8 rfl).toXCall (LC T) (hr.mono (by decide)) rfl (A2 (Av (Bx hr 16 (by decide)) (A1 1 (pv 1)) (A1 0 (pv 0))) Ah) rfl)))))))))))))) (Ad (AX (BQ IJ))) AR) (Aa (Mw (C4 3 (pv 3))) (Ad (AX (BQ (LY (W7 (Bx hr 16 (by decide)) (A1 2 (pv 2)) (B5 (A2 (A1 0 (pv 0)) (A2 (A1 1 (pv 1)) Ah)))) (LX (V3 (Bx hr 16 (by decide)) (AN (AG As.toXCall (EU T) (hr.mono (by decide)) rfl (A2 (Av (Bx hr 16 (by decide)) (A1 2 (pv 2)) A8) (A2 (Av (Bx hr 16 (by decide)) (A1 2 (pv 2)) A8) Ah)) rfl)) (A1 4 (pv 4)))))))))))))),?_⟩;intro m rs L hm jb hL An;have e0:B6 ["_law_land","_law_order_here","_law_handed","_law_found","_law_due"] [Ap m rs,.lst (L.map D.int)]=[some (.val (Ap m rs)),some (.val (.lst (L.map D.int))),none,none,none]:=rfl;rw[e0];refine FN ?_;have aE:=(Cj hL An).1;have jc:=aE.len hm;have n0:BI (Ap m rs) (.int 0)=.ok (.int m):=rfl;have n1:BI (Ap m rs) (.int 1)=.ok (.lst (rs.map JT)):=rfl;have nd:D.tup [.int m,.lst (rs.map JT)]=Ap m rs:=rfl;have h0:BI (.tup [Ap m rs,.lst (L.map D.int)]) (.int 0)=.ok (Ap m rs):=rfl;have h1:BI (.tup [Ap m rs,.lst (L.map D.int)]) (.int 1)=.ok (.lst (L.map D.int)):=rfl;have f7:=Kb m rs L hm hL An;obtain⟨C,hF,eY,hC⟩:=LB m rs L hm hL An;have hlen:=QB aE.nd eY hC;obtain⟨A,hA⟩:∃A,A=Al rs L:=⟨_,rfl⟩;rw[<-hA] at f7 hlen hC aE jc;have bg:=λ neg=>WC (neg:=neg) aE.nd eY hC hlen;have hpl:Pl 16 (.tup [Ap m rs,.lst (L.map D.int)]):=Jq (n:=15) (Bu ((Uv m rs).le (by omega)) (Bu (RI (n:=14) _) Jr));have cP:=Pr hpl;have c7:Ea "dict" (Qo (FZ A))=.ok (.bl true):=rfl;have b7:((FZ A).map λ kv=>pD kv.1).length<=1000:=by unfold FZ;rw[zh,zh];omega
 have jd:((FZ A).map zF).Nodup:=by rw[HQ];exact aE.nd
 have aV:M3 [.lst ((FZ A).map λ _=>D.bl true)]=.ok (.bl true):=all_true (FZ A);have je:=bg true;have bD:=bg false;refine wp_step (ρ':=[some (.val (Ap m rs)),some (.val (.lst (L.map D.int))),some (.val (.tup [Ap m rs,.lst (L.map D.int)])),none,none]) (by simp_arith[n0,n1,nd];try rfl) ?_;refine wp_step (ρ':=[some (.val (Ap m rs)),some (.val (.lst (L.map D.int))),some (.val (.tup [Ap m rs,.lst (L.map D.int)])),some (.ow (.tree none (L8 (FZ A)))),none]) (by simp_arith[h0,h1,f7];try rfl) ?_;refine wp_step (ρ':=[some (.val (Ap m rs)),some (.val (.lst (L.map D.int))),some (.val (.tup [Ap m rs,.lst (L.map D.int)])),some (.ow (.tree none (L8 (FZ A)))),some (.val (Qo C))]) (by simp_arith[hF];try rfl) ?_;refine wp_step (ρ':=[some (.val (Ap m rs)),some (.val (.lst (L.map D.int))),some (.val (.tup [Ap m rs,.lst (L.map D.int)])),some (.ow (.tree none (L8 (FZ A)))),some (.val (Qo C))]) (by
  simp_arith[c7,je,UX,if_pos b7,Bool.not_true,zv,if_false];rw[CB (λ kv:(Int×Int)×(Int×Int)=>D.bl true) (λ kv fc=>⟨_,rfl,rfl,by
   have i1:=UH (JX jd fc);have dz:=LD kv.2;simp_arith[i1,dz];try rfl⟩)]
  simp_arith[FX,aV];try rfl) ?_
 refine wp_step (ρ':=[some (.val (Ap m rs)),some (.val (.lst (L.map D.int))),some (.val (.tup [Ap m rs,.lst (L.map D.int)])),some (.ow (.tree none (L8 []))),some (.val (Qo C))]) (by simp_arith[J4,if_true];try rfl) ?_;simp_arith[cP,h0,h1,f7,bD,FX,if_true];rfl
noncomputable def I9:List D->M OT:=zA CP
theorem EV:Txt K mg->EY P w K mg base "_law_right" 5 2 I9:=(ze CP).1
theorem EW:∀(m:Nat) (rs:List Road) (L:List Int),m<=20->rs.length<=900->L.Perm (B2 m)->(∀r∈rs,FO m r/\r.a≠r.b)->I9 [Ap m rs,.lst (L.map D.int)]=.ok (.sh (.bl true)):=(ze CP).2
theorem ME:∃F:List D->M D,(∀ {P w K mg base f fd},Txt K mg->Og K "law" "law" CQ f fd->DY P w K mg base Rm 6 f fd ["_law_script"] (M2 K 1 F))/\(∀ns:List Int,ns.length<=63->(∀n∈ns,Sm n)->F [.lst (ns.map D.int)]=.ok (.bl true)):=by
 refine⟨_,fun {P w K mg base f fd} T F=>Wc (k:=5) F K6 _ (λ Ba A outer s H E hr=>(Aa (MU (NB:=["_law_cell"]) 1 [none] K6.nd rfl (zX rfl) rfl (C3 (AN (Di (A1 0 (pv 0)) G5 (DJ A8)))) rfl rfl (Dc 0 (by decide) rfl rfl rfl) (λ _ _ _ _=>EF) (λ _ _ _ _=>(B4 (A1 0 (pv 0)) (LS A8 A8)))) (Aa (AE 2 K6.nd rfl (zX rfl) (AN (Ff (AG (F8 rfl).toXCall (MC T) (hr.mono (by decide)) rfl (A2 (A1 1 (pv 1)) (A2 A8 Ah)) rfl)))) (Aa (AE 3 K6.nd rfl (zX rfl) (AN (Ff (AG (F8 rfl).toXCall (Kc T) (hr.mono (by decide)) rfl (A2 (Av (Bx hr 16 (by decide)) (A1 2 (pv 2)) A8) (A2 (PQ rfl rfl T.SO (A1 1 (pv 1))) Ah)) rfl)))) (Ad (TQ (P5 (LY (AN (Ff (AG (F8 rfl).toXCall (EV T) (hr.mono (by decide)) rfl (A2 (A1 2 (pv 2)) (A2 (A1 3 (pv 3)) Ah)) rfl))) (LX (AN (Ff (AG (F8 rfl).toXCall (EV T) (hr.mono (by decide)) rfl (A2 (A1 2 (pv 2)) (A2 (TY (A1 3 (pv 3)) (TH A8)) Ah)) rfl)))))))))))),?_⟩;intro ns bO bg;have e0:B6 ["_law_script","_law_cells","_law_land","_law_order_here"] [.lst (ns.map D.int)]=[some (.val (.lst (ns.map D.int))),none,none,none]:=rfl;rw[e0];refine Ws ?_;obtain⟨T,d5,hT⟩:∃T:Int,0<T/\Tz (.int 10) (.int 60)=.ok (.int T):=⟨10^60,by decide,rfl⟩;have s1:Oi none (some 25) (.lst (ns.map D.int))=.ok (.lst (((ns.take 25).map D.int).map .sh)):=by rw[List.map_take];exact HA _ 25
 have cO:((ns.take 25).map D.int).length<=1000:=by rw[zh,ym];omega
 obtain⟨m,rs,cS,cn,jb,An,hF⟩:=MD ((ns.take 25).map λ c=>c%T) (by rw[zh,ym];omega) (λ c hc=>by obtain⟨x,_,rfl⟩:=List.mem_map.mp hc;exact yp _ (by omega));apply wp_step
 ·simp_arith[s1,if_pos cO];rw[CB (λ c=>D.int (c%T)) (λ c hc=>⟨_,rfl,rfl,by simp_arith[hT,AU d5]⟩)];simp_arith[];rfl
 have e1:((ns.take 25).map λ c=>D.int (c%T))=((ns.take 25).map λ c=>c%T).map D.int:=by rw[List.map_map];rfl
 rw[e1];apply wp_step
 ·simp_arith[hF];rfl
 have n0:BI (Ap m rs) (.int 0)=.ok (.int m):=rfl;obtain⟨L,hL,jf⟩:=Kd m ((ns.take 25).map λ c=>c%T).sum (by omega);have jg:L.reverse.Perm (B2 m):=(List.reverse_perm L).trans hL;have r1:=EW m rs L (by omega) (by omega) hL An;have r2:=EW m rs L.reverse (by omega) (by omega) jg An;have jh:TX (.lst (L.map D.int)) (.int (-1))=.ok (.lst (L.reverse.map D.int)):=by rw[List.map_reverse];rfl
 apply wp_step
 ·simp_arith[n0,jf];rfl
 simp_arith[r1,jh,r2,FX,if_true];rfl
noncomputable def QL:List D->M D:=zA ME
theorem V7 {P w K mg base f fd}:Txt K mg->Og K "law" "law" CQ f fd->DY P w K mg base Rm 6 f fd ["_law_script"] (M2 K 1 QL):=(ze ME).1
theorem V8:∀ns:List Int,ns.length<=63->(∀n∈ns,Sm n)->QL [.lst (ns.map D.int)]=.ok (.bl true):=(ze ME).2
theorem all_mk {l:PySem.W.OpenLaw}{w:World}{K:zc}{h:Heap}{mg:Str->Option Value}{fa:Addr}(X:K.In h)(G:h.Ns mainGlobals mg)(ji:mg "law" = some (.ref fa))
 {f8:Addr} {f9 cT:Option Addr} {fA:Array (Option Value)} {fB cU cV cW cg cX:Value}
 (p1:FP K "added" K3)
 (p2:FP K "road_cost" Dp)
 (p3:FP K "cost_so_far" Ca)
 (p4:FP K "lay" QD)
 (p5:FP K "lay_over" En)
 (p6:FP K "laid_arcs" Dq)
 (p7:FP K "arc_costs" Dr)
 (p8:FP K "_law_mixed" Ds)
 (p9:FP K "_law_road" Eo)
 (fC:FP K "_law_map" FF)
 (fD:FP K "_law_order" Dt)
 (fE:FP K "_law_least" Du)
 (fF:FP K "_law_costs" Dv)
 (fG:FP K "_law_arcs" Ep)
 (fH:FP K "_law_cost" Er)
 (fI:FP K "_law_right" Dw)
 (d7:zi K mainGlobals "law" = some (some (.ref f8)))
 (fJ:K.lookup f8=some ⟨fB,f9,.func (zP "law" "law" (AO CQ) (AA CQ) (A4 CQ) .none cU cV cW cT cg cX),fA⟩) (fK:yc K cg "law" = true) (fL:zQ K (.ref f8)=true)
 (z1:zi K mainGlobals "all" = some none)
 (z2:zi K mainGlobals "bool" = some none)
 (z3:zi K mainGlobals "dict" = some none)
 (z4:zi K mainGlobals "enumerate" = some none)
 (z5:zi K mainGlobals "int" = some none)
 (z6:zi K mainGlobals "isinstance" = some none)
 (z7:zi K mainGlobals "len" = some none)
 (z8:zi K mainGlobals "list" = some none)
 (z9:zi K mainGlobals "min" = some none)
 (fM:zi K mainGlobals "range" = some none)
 (fN:zi K mainGlobals "sum" = some none)
 (fO:zi K mainGlobals "tuple" = some none):
 ∃fd:FuncData,(∀(s:Shared) (v:Value),BindsTo s fd ⟨[v],[]⟩ [("_law_script",v)])/\∀base:Heap,K.In base->base.Ns mainGlobals mg->DY l.prog w K mg base Rm 6 fa fd ["_law_script"] (M2 K 1 QL):=by
 have e:=ji.symm.trans (PySem.W.mg_of X G d7);cases e;have fP:=LM (st:=CQ) fJ fK fL;have jj:B7 K mg "law" CQ ["_law_script"]:=⟨_,_,fP,PySem.W.mg_of X G d7,fP.binds λ _ _ _ _ _ _ us hl=>match us,hl with|[_],_=>rfl⟩;have T:Txt K mg:=⟨BE X G p1,BE X G p2,BE X G p3,BE X G p4,BE X G p5,BE X G p6,BE X G p7,BE X G p8,BE X G p9,BE X G fC,BE X G fD,BE X G fE,BE X G fF,BE X G fG,BE X G fH,BE X G fI,jj,zN X G z1,zN X G z2,zN X G z3,zN X G z4,zN X G z5,zN X G z6,zN X G z7,zN X G z8,zN X G z9,zN X G fM,zN X G fN,zN X G fO⟩;refine⟨zP "law" "law" (AO CQ) (AA CQ) (A4 CQ) .none cU cV cW cT cg cX,λ s v=>.of_eq rfl,λ base _ _=>?_⟩;exact V7 T fP
set_option maxHeartbeats 0 in
set_option maxHeartbeats 0 in
set_option maxHeartbeats 0 in
set_option maxHeartbeats 0 in
theorem left (w:World):(PySem.W.openEnds treeTable PySem.Challenge.pw_nodeladder_k22_arcs_by_ways w 6100).map (λ s=>PySem.W.openSeen (Bn PySem.Challenge.pw_nodeladder_k22_arcs_by_ways) [] (importedModules PySem.Challenge.pw_nodeladder_k22_arcs_by_ways.main.body) (λ s=>PySem.W.xlAt (Bn PySem.Challenge.pw_nodeladder_k22_arcs_by_ways) [] s&&PySem.W.recOk [] s) true s)=some (PySem.W.openGood (Bn PySem.Challenge.pw_nodeladder_k22_arcs_by_ways) []):=by
 rw[N9,Uq,PySem.W.Fast.te4187177175401517315,PySem.W.Fast.te5923862056798008813,PySem.W.Fast.te2869667211042257646];exact JQ (Vl w) (JQ (Vm w) (JQ (Vn w) (Vo w)))
set_option maxHeartbeats 0 in
theorem V9 (w:World):Om (Kp R0 PySem.Challenge.pw_nodeladder_k22_arcs_by_ways w) PySem.Challenge.pw_nodeladder_k22_arcs_by_ways:=by
 rw[Uq,PySem.W.Fast.te2869667211042257646];exact QR w
set_option maxHeartbeats 0 in
theorem Va (w:World):Oo (Kp R0 PySem.Challenge.pw_nodeladder_k22_arcs_by_ways w) PySem.Challenge.pw_nodeladder_k22_arcs_by_ways:=by
 rw[Uq,PySem.W.Fast.te2869667211042257646];exact QS w
theorem walk {l:PySem.W.OpenLaw}{q:Program}{loose:List Str}{XP:(Str->Option Value)->Heap->Prop}{YP:World->Heap->Prop}{d:DefRec}{K:World->zc}(hn:l.most=some 63)(bW:d.params.defaults=[])
 (hY:∀(w:World) (h:Heap),YP w h->(K w).In h)
 (F:∀(w:World) (mg:Str->Option Value) (fa:Addr) (h:Heap),(K w).In h->h.Ns mainGlobals mg->mg d.name=some (.ref fa)->
  ∃fd:FuncData,(∀(s:Shared) (u:Value),BindsTo s fd ⟨[u],[]⟩ [("_law_script",u)])/\∀base:Heap,(K w).In base->base.Ns mainGlobals mg->DY l.prog w (K w) mg base Rm 6 fa fd ["_law_script"] (M2 (K w) 1 QL)):
 PySem.W.WalkO q loose XP YP l.row.toRowW d [] (λ f vs=>PySem.call f vs):=
 L2.Wv (n:=63) (k:=6) (x := "_law_script") (CX:=λ _=>Rm) (sp:=λ w=>M2 (K w) 1 QL) hn (by decide) bW ⟨rfl,by decide,by decide⟩ hY F (λ w H a ns bg hl _ hS=>RK V8 (K w) H a ns bg hl hS) λ _ _ _ _ _ z=>z
end bv
open PySem PySem.W PyProof.Rows L2
set_option maxRecDepth 100000 in
set_option maxHeartbeats 0 in
theorem PySem.Challenge.cw_nodeladder_k22_arcs_by_ways_holds : PySem.Challenge.rw_nodeladder_k22_arcs_by_ways.Holds := by
 w_on;o_law
 refine holds_open (q:=Bn PySem.Challenge.pw_nodeladder_k22_arcs_by_ways) (loose:=[]) (Xt:=λ s=>xlAt (Bn PySem.Challenge.pw_nodeladder_k22_arcs_by_ways) [] s&&recOk [] s) (XP:=XL (Bn PySem.Challenge.pw_nodeladder_k22_arcs_by_ways) []) (Yf:=λ s=>s.heap) (Ya:=λ w=>Ol R0 PySem.Challenge.pw_nodeladder_k22_arcs_by_ways w 6100) (YP:=λ w h=>Wu (Ol R0 PySem.Challenge.pw_nodeladder_k22_arcs_by_ways w 6100) h) (N:=6100) (S2 bv.left) (λ w s e b o q=>by rw[<-e] at q;exact q) (λ w h h' a b c o q=>b c o (a c o q)) (λ s e=>xl_of s (Bool.and_eq_true_iff.mp e).1) XL.keeps (by rfl) (by rfl) (by rfl) (λ s e=>recFacts_of (Bool.and_eq_true_iff.mp e).2) (by rfl) (by first|assumption|decide +kernel) (by decide +kernel) ⟨rfl,rfl,rfl,rfl,rfl,by decide +kernel⟩ ?hw ?hc;case hw=>w_witness2
 case hc =>
  refine bv.walk (l:=PySem.Challenge.rw_nodeladder_k22_arcs_by_ways) (K:=bv.Kp R0 PySem.Challenge.pw_nodeladder_k22_arcs_by_ways) rfl rfl (λ w h Y=>Ur Y) ?F;intro w mg fa h KX G bX;obtain⟨p1,p2,p3,p4,p5,p6,p7,p8,p9,fC,fD,fE,fF,fG,fH,fI⟩:=bv.V9 w;obtain⟨d7,fJ,fK,fL,z1,z2,z3,z4,z5,z6,z7,z8,z9,fM,fN,fO⟩:=bv.Va w;exact bv.all_mk KX G bX p1 p2 p3 p4 p5 p6 p7 p8 p9 fC fD fE fF fG fH fI d7 fJ fK fL z1 z2 z3 z4 z5 z6 z7 z8 z9 fM fN fO
