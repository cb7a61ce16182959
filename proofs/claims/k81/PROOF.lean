import PyProof.Rows.All
import Wide.All
import OpenK.AllK
import Wide.FinOn
import Lean
import PyProof.EqAt
import PyProof.EqKinds
import PyProof.TupleCall
import PyProof.NeKinds
import KE.KRevSl
import KE.KIsAll
import PyProof.ExcArgsOwn
import PyProof.ExcAttrAll.ValueError
import PyProof.ExcBaseAll.ValueError
import PyProof.FitsBits
import KE.LcSums
import KE.KRevIter
import PyProof.ListRange
import PyProof.Rows.SumAny
import PyProof.Rows.SortWalk
import PyProof.AttrMissHeap
import KE.KDictOf
import PyProof.ZipIter
import PyProof.DictWalks
import KE.KDictList
import KE.KFind
import KE.KDictSum
import KE.KSortTup
import PyProof.StrWalks
import PyProof.StrCalls2
import PyProof.Rows.StrJoin2
import PyProof.FString
import KE.KIntText
import PyProof.Rows.StrSplitJoin
import PyProof.StrLawsTight
import KE.IntTextText
import PySem.Challenge.RW_nodeladder_k81_maps_written
set_option Elab.async false
set_option linter.all false
set_option maxRecDepth 1000000
open PySem.W renaming Frag→za,nsIn→zg,fnOf→zD,keepIn→zL,mg_none_of→zO,codeIn→zQ,hideAll_get→zT,kia_one→zY,kitOne→yj
open PySem.Str renaming ofString→zb,join→zX
open Classical renaming choose_spec→zc,choose→zo
open List renaming mem_cons_self→zd,mem_cons_of_mem→ze,mem_append_right→zf,size_toArray→zh,mem_of_getElem?→zi,length_map→zj,getElem?_eq_getElem→zk,mem_cons→zm,map_cons→zq,length_cons→zt,mem_append_left→zu,mem_singleton→zv,getElem?_eq_some_iff→zw,mem_append→zx,nodup_append→zA,getElem?_map→zH,length_append→zM,getElem?_set_self→zN,set_cons_succ→zP,mem_map→zU,getElem?_set_ne→yb,nodup_cons→yc,append_assoc→yd,length_take→yf,take_of_length_le→yg,find?_cons→yi,getElem?_append_right→yk,getElem?_append_left→yl,drop_zero→ym
open PySem.Heap renaming lt_size→zl,get?_push_of_some→zy,get?_push_size→zF
open Nat renaming le_refl→zp,lt_of_lt_of_le→zr,le_trans→z9,ne_of_lt→zG,zero_le→zW,le_of_lt→ye
open PySem.Builtin.Int renaming intBits→z0
open Option.some renaming inj→zB
open Bool renaming false_eq_true→zC,and_eq_true→zK
open PySem.Builtin.Str renaming occurrences→zE,strKind→zZ
open Int renaming emod_lt_of_pos→zI,emod_nonneg→zJ
open PySem.W.Fast renaming tw5923862056798008813→zR,tw4187177175401517315→zS
open PySem.Txt renaming split→zV
open Or renaming inl→ya
open PySem.NameKind renaming free→yh
open PySem renaming mem_of_lookup→yn
open ForInStep renaming yield→yo
open Array renaming length_toList→yp
section
set_option maxHeartbeats 0
namespace L2
open PySem PySem.Spec PyProof.Rows PySem.W PySem.Calls
noncomputable def AE (s:Stmt):Arguments:=match s with
 | .FunctionDef _ a _ _ _ _ _ _ _ _=>a
 |_=>{posonlyargs:=[],args:=[],vararg:=none,kwonlyargs:=[],kw_defaults:=[],kwarg:=none,defaults:=[]}
noncomputable def Ax (s:Stmt):List Stmt:=match s with
 | .FunctionDef _ _ b _ _ _ _ _ _ _=>b
 |_=>[]
noncomputable def A4 (s:Stmt):Scope:=match s with
 | .FunctionDef _ _ _ _ _ _ sc _ _ _=>sc
 |_=>{kind:=.function,names:=[],isGenerator:=false,isCoroutine:=false}
structure FP (K:za)(x:Str)(st:Stmt):Prop where
 ex:∃(f:Addr) (oc:Value) (od an:Option Addr) (sl:Array (Option Value)) (kV dc pm cd ct:Value),zg K mainGlobals x=some (some (.ref f))/\K.lookup f=some ⟨oc,od,.func (zD x x (AE st) (Ax st) (A4 st) .none kV dc pm an cd ct),sl⟩/\zQ K cd x=true/\zL K (.ref f)=true
theorem RN {K:za}{x:Str}{st:Stmt}{f:Addr}{oc:Value}{od an:Option Addr}{sl:Array (Option Value)}{kV dc pm cd ct:Value}(a:zg K mainGlobals x=some (some (.ref f)))(l:K.lookup f=some ⟨oc,od,.func (zD x x (AE st) (Ax st) (A4 st) .none kV dc pm an cd ct),sl⟩)(c:zQ K cd x=true)(k:zL K (.ref f)=true):FP K x st:=⟨⟨f,oc,od,an,sl,kV,dc,pm,cd,ct,a,l,c,k⟩⟩
structure MP (K:za)(C:Addr)(m qual:Str)(st:Stmt):Prop where
 ex:∃(f:Addr) (oc:Value) (od an:Option Addr) (sl:Array (Option Value)) (kV dc pm cd ct:Value),PySem.W.findIn K (.ref C) m=some (some (.ref f))/\PySem.W.isFn K (.ref f)=true/\K.lookup f=some ⟨oc,od,.func (zD m qual (AE st) (Ax st) (A4 st) .none kV dc pm an cd ct),sl⟩/\zQ K cd qual=true/\zL K (.ref f)=true
theorem UD {K:za}{C:Addr}{m qual:Str}{st:Stmt}{f:Addr}{oc:Value}{od an:Option Addr}{sl:Array (Option Value)}{kV dc pm cd ct:Value}(a:PySem.W.findIn K (.ref C) m=some (some (.ref f)))(i:PySem.W.isFn K (.ref f)=true)(l:K.lookup f=some ⟨oc,od,.func (zD m qual (AE st) (Ax st) (A4 st) .none kV dc pm an cd ct),sl⟩)(c:zQ K cd qual=true)(k:zL K (.ref f)=true):MP K C m qual st:=⟨⟨f,oc,od,an,sl,kV,dc,pm,cd,ct,a,i,l,c,k⟩⟩
noncomputable def Bg (p:Program):Program:={p with main:={p.main with body:=p.main.body.filter λ s=>match s with | .FunctionDef .. =>true | .ClassDef .. =>true | _=>false} }
structure Rn where
 run:(String->Option Builtin)->Program->World->Nat->Option Value->Nat->Shared->Thread->Option Shared
 ns:Heap->Addr->Str->Option Value
 imp:(String->Option Builtin)->Program->World->Nat->Shared->Thread->Option Shared
 V6:Program->Shared->Option Shared
 st:Program->Shared×Thread
 tb:String->Option Builtin
noncomputable def F9 (R:Rn)(p:Program)(w:World)(N:Nat):Option Shared:=
 ((R.imp R.tb (opening p) w N (R.st (opening p)).fst (R.st (opening p)).snd).bind (R.V6 p)).bind λ s₀ =>
 match s₀.heap.isNs mainGlobals&&s₀.gens.size==0 with
 |true=>(R.run R.tb p w s₀.heap.objs.size (R.ns s₀.heap mainGlobals (zb "__annotations__")) N s₀ (topStub p)).bind λ s₁ =>
  match staticsOk (importedModules p.main.body) s₀.heap s₁.heap&&namesBound p s₁.heap&&gensDone s₁&&laidKept s₀.heap s₁.heap with
  |true=>some s₁
  |false=>none
 |false=>none
noncomputable def R1:Rn:=⟨PySem.W.Fast.tw14082659384304107361,PySem.W.Fast.tw8920871248978507458,PySem.W.Fast.tw10274390034422433532,PySem.W.Fast.tw14289696077712309145,PySem.W.Fast.tw1435165496053646825,PySem.W.Fast.tw14364793385576792824⟩
noncomputable def LP (R:Rn)(p:Program)(w:World)(N:Nat):Heap:=match F9 R p w N with | some s=>s.heap | none=>⟨#[],default⟩
noncomputable def T7 (h:Heap)(as:List Addr):za:=as.filterMap λ a=>(h.get? a).map λ o=>(a,o)
noncomputable def Em (v:Option (Option Value)):Addr:=match v with | some (some (.ref f))=>f | _=>0
noncomputable def GA (K:za)(f:Addr):Obj:=(K.lookup f).getD ⟨.none,none,.plain,#[]⟩
noncomputable def K4 (d:Data)(st:Stmt):FuncData:=match d with | .func fd=>fd | _=>zD Str.empty Str.empty (AE st) [] (A4 st) .none .none .none .none none .none .none
theorem Ay {K:za}{x:Str}{st:Stmt}(a:zg K mainGlobals x=some (some (.ref (Em (zg K mainGlobals x)))):=by kernel_rfl)
 (l:K.lookup (Em (zg K mainGlobals x))=some ⟨(GA K (Em (zg K mainGlobals x))).cls,(GA K (Em (zg K mainGlobals x))).dict,.func (zD x x (AE st) (Ax st) (A4 st) .none (K4 (GA K (Em (zg K mainGlobals x))).data st).kwdefaults (K4 (GA K (Em (zg K mainGlobals x))).data st).doc (K4 (GA K (Em (zg K mainGlobals x))).data st).pyModule (K4 (GA K (Em (zg K mainGlobals x))).data st).annotations (K4 (GA K (Em (zg K mainGlobals x))).data st).code (K4 (GA K (Em (zg K mainGlobals x))).data st).closureTuple),(GA K (Em (zg K mainGlobals x))).slots⟩:=by kernel_rfl)
 (c:zQ K (K4 (GA K (Em (zg K mainGlobals x))).data st).code x=true:=by kernel_rfl) (k:zL K (.ref (Em (zg K mainGlobals x)))=true:=by kernel_rfl):FP K x st:=RN a l c k
end L2
namespace bd
open PySem L2
theorem prim:(PySem.W.chainsOk PySem.Challenge.pw_nodeladder_k81_maps_written||true)=true:=by k_qdec
theorem RO (w:World):(F9 R1 PySem.W.Fast.tw2063096783627910905 w 6100).map (λ s=>(zS (Bg PySem.W.Fast.tw2063096783627910905) [] (zR PySem.W.Fast.tw2063096783627910905.main.body) (λ s=>PySem.W.xlAt (Bg PySem.W.Fast.tw2063096783627910905) [] s&&PySem.W.recOk [] s) true s).1)=some (PySem.W.openGood (Bg PySem.W.Fast.tw2063096783627910905) []).1:=by kernel_rfl
theorem RP (w:World):(F9 R1 PySem.W.Fast.tw2063096783627910905 w 6100).map (λ s=>(zS (Bg PySem.W.Fast.tw2063096783627910905) [] (zR PySem.W.Fast.tw2063096783627910905.main.body) (λ s=>PySem.W.xlAt (Bg PySem.W.Fast.tw2063096783627910905) [] s&&PySem.W.recOk [] s) true s).2.1)=some (PySem.W.openGood (Bg PySem.W.Fast.tw2063096783627910905) []).2.1:=by kernel_rfl
theorem RQ (w:World):(F9 R1 PySem.W.Fast.tw2063096783627910905 w 6100).map (λ s=>(zS (Bg PySem.W.Fast.tw2063096783627910905) [] (zR PySem.W.Fast.tw2063096783627910905.main.body) (λ s=>PySem.W.xlAt (Bg PySem.W.Fast.tw2063096783627910905) [] s&&PySem.W.recOk [] s) true s).2.2.1)=some (PySem.W.openGood (Bg PySem.W.Fast.tw2063096783627910905) []).2.2.1:=by kernel_rfl
theorem RS (w:World):(F9 R1 PySem.W.Fast.tw2063096783627910905 w 6100).map (λ s=>(zS (Bg PySem.W.Fast.tw2063096783627910905) [] (zR PySem.W.Fast.tw2063096783627910905.main.body) (λ s=>PySem.W.xlAt (Bg PySem.W.Fast.tw2063096783627910905) [] s&&PySem.W.recOk [] s) true s).2.2.2)=some (PySem.W.openGood (Bg PySem.W.Fast.tw2063096783627910905) []).2.2.2:=by kernel_rfl
noncomputable def topP (p:Program)(i:Nat):Stmt:=p.main.body.getD i (.Pass ⟨0,0,0,0⟩)
noncomputable def Kp (R:Rn)(p:Program)(w:World):za:=T7 (LP R p w 6100) (List.range 440)
def LQ (K:za)(p:Program):Prop:=
 (FP K "is_whole_below" (topP p 4))/\
 (FP K "is_measure" (topP p 5))/\
 (FP K "is_road" (topP p 6))/\
 (FP K "is_map" (topP p 7))/\
 (FP K "is_number" (topP p 9))/\
 (FP K "length_shown" (topP p 10))/\
 (FP K "road_shown" (topP p 11))/\
 (FP K "map_shown" (topP p 12))/\
 (FP K "words_read" (topP p 13))/\
 (FP K "number_read" (topP p 14))/\
 (FP K "length_read" (topP p 15))/\
 (FP K "road_read" (topP p 16))/\
 (FP K "map_read" (topP p 17))/\
 (FP K "_law_cell_at" (topP p 19))/\
 (FP K "_law_length" (topP p 20))/\
 (FP K "_law_map" (topP p 21))
theorem NW (w:World):LQ (Kp R1 PySem.W.Fast.tw2063096783627910905 w) PySem.W.Fast.tw2063096783627910905:=
 ⟨Ay,Ay,Ay,Ay,Ay,Ay,Ay,Ay,Ay,Ay,Ay,Ay,Ay,Ay,Ay,Ay⟩
def LR (K:za)(p:Program):Prop:=
 (FP K "_law_text" (topP p 22))/\
 (FP K "_law_right" (topP p 23))/\
 (zg K mainGlobals "law" = some (some (.ref (Em (zg K mainGlobals "law")))))/\
 (K.lookup (Em (zg K mainGlobals "law"))=some ⟨(GA K (Em (zg K mainGlobals "law"))).cls,(GA K (Em (zg K mainGlobals "law"))).dict,.func (zD "law" "law" (AE (topP p 24)) (Ax (topP p 24)) (A4 (topP p 24)) .none (K4 (GA K (Em (zg K mainGlobals "law"))).data (topP p 24)).kwdefaults (K4 (GA K (Em (zg K mainGlobals "law"))).data (topP p 24)).doc (K4 (GA K (Em (zg K mainGlobals "law"))).data (topP p 24)).pyModule (K4 (GA K (Em (zg K mainGlobals "law"))).data (topP p 24)).annotations (K4 (GA K (Em (zg K mainGlobals "law"))).data (topP p 24)).code (K4 (GA K (Em (zg K mainGlobals "law"))).data (topP p 24)).closureTuple),(GA K (Em (zg K mainGlobals "law"))).slots⟩)/\
 (zQ K (K4 (GA K (Em (zg K mainGlobals "law"))).data (topP p 24)).code "law" = true)/\
 (zL K (.ref (Em (zg K mainGlobals "law")))=true)/\
 (zg K mainGlobals "all" = some none)/\
 (zg K mainGlobals "bool" = some none)/\
 (zg K mainGlobals "int" = some none)/\
 (zg K mainGlobals "isinstance" = some none)/\
 (zg K mainGlobals "len" = some none)/\
 (zg K mainGlobals "list" = some none)/\
 (zg K mainGlobals "str" = some none)/\
 (zg K mainGlobals "tuple" = some none)/\
 (zg K mainGlobals "NoText" = some (some (.ref (Em (zg K mainGlobals "NoText")))))/\
 (PySem.W.excIn K (Em (zg K mainGlobals "NoText")) [.type "ValueError",.type "Exception",.type "BaseException",.type "object"] "ValueError.__new__" = true)
theorem NX (w:World):LR (Kp R1 PySem.W.Fast.tw2063096783627910905 w) PySem.W.Fast.tw2063096783627910905:=
 ⟨Ay,Ay,by kernel_rfl,by kernel_rfl,by kernel_rfl,by kernel_rfl,by kernel_rfl,by kernel_rfl,by kernel_rfl,by kernel_rfl,by kernel_rfl,by kernel_rfl,by kernel_rfl,by kernel_rfl,by kernel_rfl,by kernel_rfl⟩
end bd
end
set_option Elab.async false
set_option linter.all false
set_option maxRecDepth 100000
namespace L2
open PySem PySem.Spec PyProof.Rows
noncomputable abbrev Key:=Sum Int Str
noncomputable def GB:Key->Value->Bool
 | .inl k,v=>Value.isInt k v
 | .inr x,v=>Value.isStrOf x v
noncomputable def To (w:World):Key->Int
 | .inl k=>hashInt k
 | .inr x=>hashStr w x
theorem AA:∀ {k:Key}{v:Value},GB k v=true->(∃i t,k=Sum.inl i/\v=Value.int i t)\/(∃x t,k=Sum.inr x/\v=Value.str x t)
 | .inl i,v,h=>by
  obtain⟨t,e⟩:=Value.isInt_shape (k:=i) (v:=v) h;exact .inl ⟨i,t,rfl,e⟩
 | .inr x,v,h=>by
  obtain⟨t,e⟩:=Value.isStrOf_shape (x:=x) (v:=v) h;exact .inr ⟨x,t,rfl,e⟩
theorem KO (i:Int)(t:Tok):GB (.inl i) (.int i t)=true:=by simp[GB,Value.isInt]
theorem KP (x:Str)(t:Tok):GB (.inr x) (.str x t)=true:=by simp[GB,Value.isStrOf]
theorem Qi (a b:Int):decide ((Sum.inl a:Key)=Sum.inl b)=(a==b):=by
 by_cases e:a=b
 ·subst e;simp
 ·have h:¬ (Sum.inl a:Key)=Sum.inl b:=λ q=>e (Sum.inl.inj q);rw[decide_eq_false h];exact (beq_eq_false_iff_ne.mpr e).symm
theorem Qj (a b:Str):decide ((Sum.inr a:Key)=Sum.inr b)=decide (a=b):=by
 by_cases e:a=b
 ·subst e;simp
 ·have h:¬ (Sum.inr a:Key)=Sum.inr b:=λ q=>e (Sum.inr.inj q);rw[decide_eq_false h,decide_eq_false e]
theorem Qk (a:Int)(b:Str):decide ((Sum.inl a:Key)=Sum.inr b)=false:=decide_eq_false (λ q=>nomatch q)
theorem Ql (a:Str)(b:Int):decide ((Sum.inr a:Key)=Sum.inl b)=false:=decide_eq_false (λ q=>nomatch q)
noncomputable def B8 (prog:Program)(w:World):PySem.KeyKind prog w Key where
 is:=GB
 hash:=To w
 inj:=λ v a b ha hb=>by
  rcases AA ha with ⟨i,t,rfl,rfl⟩|⟨x,t,rfl,rfl⟩
  ·rcases AA hb with ⟨j,u,rfl,e⟩|⟨y,u,rfl,e⟩
   ·injection e with e1 _;rw[e1]
   ·exact nomatch e
  ·rcases AA hb with ⟨j,u,rfl,e⟩|⟨y,u,rfl,e⟩
   ·exact nomatch e
   ·injection e with e1 _;rw[e1]
 byValue:=λ k v h=>by
  rcases AA h with ⟨i,t,rfl,rfl⟩|⟨x,t,rfl,rfl⟩<;>rfl
 pyHash:=λ hv h=>by
  rcases AA hv with ⟨i,t,rfl,rfl⟩|⟨x,t,rfl,rfl⟩
  ·exact wpAny_pyHash_int h
  ·exact wpAny_pyHash_str h
 eqBool:=λ hu hv h=>by
  rcases AA hu with ⟨i,t,rfl,rfl⟩|⟨x,t,rfl,rfl⟩
  ·rcases AA hv with ⟨j,u,rfl,rfl⟩|⟨y,u,rfl,rfl⟩
   ·rw[Qi] at h;exact wpAny_eqBool_int h
   ·rw[Qk] at h;exact SeqAt.EqAt.int_str i t y u _ _ _ _ h
  ·rcases AA hv with ⟨j,u,rfl,rfl⟩|⟨y,u,rfl,rfl⟩
   ·rw[Ql] at h;exact SeqAt.EqAt.str_int x t j u _ _ _ _ h
   ·rw[Qj] at h;exact wpAny_eqBool_str h
 «strs»:=λ k x t v h=>by
  rcases AA h with ⟨i,u,rfl,e⟩|⟨y,u,rfl,e⟩
  ·exact nomatch e
  ·injection e with e1 _
   subst e1;cases v<;>rfl
theorem Ig (prog:Program)(w:World)(i:Int)(t:Tok):(B8 prog w).is (.inl i) (.int i t)=true:=KO i t
theorem Ih (prog:Program)(w:World)(x:Str)(t:Tok):(B8 prog w).is (.inr x) (.str x t)=true:=KP x t
inductive V where
 |Av|bl (b:Bool)|int (i:Int)|str (x:Str)|RJ (b:Array UInt8)|T8 (b:UInt64)|ref (a:Addr)|ty (n:String)
 deriving DecidableEq
def RelV:V->Value->Prop
 | .Av,u=>u=Value.none
 | .bl b,u=>u=Value.bool b
 | .int i,u=>∃t,u=Value.int i t
 | .str x,u=>∃t,u=Value.str x t
 | .RJ b,u=>∃t,u=Value.bytes b t
 | .T8 b,u=>∃t,u=Value.float b t
 | .ref a,u=>u=Value.ref a
 | .ty n,u=>u=Value.type n
noncomputable abbrev Vals:List V->List Value->Prop:=Paired RelV
theorem Vals.length {xs:List V}{us:List Value}(r:Vals xs us):xs.length=us.length:=Paired.length r
theorem Vals.get:∀ {xs:List V}{us:List Value}{i:Nat}{x:V},Vals xs us->xs[i]?=some x->∃u,us[i]?=some u/\RelV x u
 |_,_,_,_,.nil,e=>by simp at e
 |_,_,0,_,.cons r _,e=>by simp at e;subst e;exact⟨_,rfl,r⟩
 |_,_,i+1,x,.cons _ t,e=>by
  obtain⟨u,h1,h2⟩:=Vals.get (i:=i) (x:=x) t (by simpa using e);exact⟨u,by simpa using h1,h2⟩
theorem Vals.append:∀ {xs ys:List V}{us ws:List Value},Vals xs us->Vals ys ws->Vals (xs++ys) (us++ws)
 |_,_,_,_,.nil,s=>s
 |_,_,_,_,.cons r t,s=>.cons r (Vals.append t s)
theorem Vals.take:∀ {xs:List V}{us:List Value}(n:Nat),Vals xs us->Vals (xs.take n) (us.take n)
 |_,_,0,_|_,_,_+1,.nil=>.nil
 |_,_,n+1,.cons r t=>.cons r (Vals.take n t)
theorem Vals.drop:∀ {xs:List V}{us:List Value}(n:Nat),Vals xs us->Vals (xs.drop n) (us.drop n)
 |_,_,0,r=>r
 |_,_,_+1,.nil=>.nil
 |_,_,n+1,.cons _ t=>Vals.drop n t
def Ii:Option V->Option Value->Prop
 |some v,some u=>RelV v u
 |none,none=>True
 |_,_=>False
def KV {κ:Type}:List (κ×V)->List (κ×Value)->Prop:=Paired λ(p:κ×V) (q:κ×Value)=>p.1=q.1/\RelV p.2 q.2
noncomputable def kV:Key->V
 | .inl i=>.int i
 | .inr x=>.str x
inductive HO where
 |lst (xs:List V)
 |tup (xs:List V)
 |dK (kvs:List (Key×V))|dT (kvs:List (List Key×V))
 |set (S:Int->Bool) (n:Nat)
 |ins (C dx:Addr) (fs:List (Str×V))
 |own (x:Addr)
 |xd (fs:List (Str×V))
 |met (f x:Addr)
 |T9 (lo hi:Int)
 |K5 (o:Obj) (u:HO)
 |PN (ps:Array Value)
 |ext (φ:Heap->Prop)
noncomputable abbrev Hp:=Addr->Option HO
noncomputable def upd (H:Hp)(a:Addr)(o:HO):Hp:=λ b=>if b=a then some o else H b
theorem AM {H:Hp}{a:Addr}{o:HO}:upd H a o a=some o:=by unfold upd;rw[if_pos rfl]
theorem Ah {H:Hp}{a b:Addr}{o:HO}(h:b≠a):upd H a o b=H b:=by unfold upd;rw[if_neg h]
theorem Aq {H:Hp}{a b:Addr}{o:HO}(h:H a=some o)(h':H b=none):a≠b:=by
 intro e;subst e;rw[h] at h';cases h'
section
variable (P:Program) (w:World)
def B6 (H:Hp)(h:Heap)(a:Addr):HO->Prop
 | .lst xs=>xs.length<=sizeLine/\∃(aa:List Value) (n:Nat),Vals xs aa/\h.get? a=some {cls:=.type "list",data:=.seq aa.toArray n}
 | .tup xs=>xs.length<=sizeLine/\∃aa:List Value,Vals xs aa/\IsTup h a aa.toArray
 | .dK kvs=>kvs.length<=sizeLine/\(a==sysModules)=false/\∃vs,KV kvs vs/\h.DictOf (B8 P w) a vs
 | .dT kvs=>kvs.length<=sizeLine/\(a==sysModules)=false/\∃xs:List (List Key×Addr×Value),
  Paired (λ(p:List Key×V) (q:List Key×Addr×Value)=>p.1=q.1/\H q.2.1=some (.tup (p.1.map kV))/\RelV p.2 q.2.2) kvs xs/\
  ∃o es ep,h.get? a=some o/\o.ExactDict/\o.data=.dict es ep/\es.toList=xs.map (entryOfKey (tupleKind (B8 P w)))/\(xs.map (·.1)).Nodup
 | .set S n=>h.SetOf (intKind P w) a S n
 | .ins C dx fs=>H dx=some (.own a)/\fs.length<=1000/\dx≠a/\h.get? a=some (PySem.W.instObj C dx)/\
  ∃mA,h.Ns1 dx mA/\(∀f,Ii (fs.lookup f) (mA f))/\PySem.Within mA (fs.map (·.1))
 | .own _=>∃o,h.get? a=some o
 | .xd fs=>∃mA,h.Ns1 a mA/\∀f,Ii (fs.lookup f) (mA f)
 | .T9 lo hi=>∃t u v,h.get? a=some {cls:=.type "range",data:=.fields #[.int lo t,.int hi u,.int 1 v]}
 | .K5 o u=>h.get? a=some o/\B6 H h a u
 | .PN ps=>h.get? a=some {cls:=.none,data:=.fields ps}
 | .met f x=>h.get? a=some (PySem.W.methodObj (.ref f) (.ref x))
 | .ext φ=>φ h/\(∃o,h.get? a=some o)/\∀h1 h2:Heap,φ h1->(∀o,h1.get? a=some o->h2.get? a=some o)->φ h2
def D4 (H:Hp)(h:Heap):Prop:=∀a o,H a=some o->B6 P w H h a o
end
section
variable {P:Program}{w:World}{H H':Hp}{h h':Heap}{a:Addr}{o:HO}
theorem B6.lt (x:B6 P w H h a o):a<h.objs.size:=by
 cases o with
 |lst xs=>obtain⟨_,_,_,_,e⟩:=x;exact zl e
 |tup xs=>obtain⟨_,_,_,p⟩:=x;exact p.lt
 |dK kvs|dT kvs=>obtain⟨_,_,_,_,o,_,_,e,_⟩:=x;exact zl e
 |set S n=>obtain⟨o,_,_,_,e,_⟩:=x;exact zl e
 |ins C dx fs=>obtain⟨_,_,_,e,_⟩:=x;exact zl e
 |own y=>obtain⟨_,e⟩:=x;exact zl e
 |xd fs=>obtain⟨_,⟨_,_,_,e,_⟩,_⟩:=x;exact zl e
 |T9 lo hi=>obtain⟨_,_,_,e⟩:=x;exact zl e
 |K5 ob u=>obtain⟨e,_⟩:=x;exact zl e
 |PN ps|met f y=>exact zl (show h.get? a=some _ from x)
 |ext φ=>obtain⟨_,⟨_,e⟩,_⟩:=x;exact zl e
theorem Paired.RT {α β:Type}{F G:α->β->Prop}:∀ {l₁:List α}{l₂:List β},Paired F l₁ l₂->(∀a b,F a b->G a b)->Paired G l₁ l₂
 |_,_,.nil,_=>.nil
 |_,_,.cons r t,f=>.cons (f _ _ r) (Paired.RT t f)
theorem B6.Ij (x:B6 P w H h a o)(k:∀b u,(b=a\/H b=some (.own a))->h.get? b=some u->h'.get? b=some u)
 (ho:∀b,H b=some (.own a)->H' b=some (.own a)) (ht:∀b xs,H b=some (.tup xs)->H' b=some (.tup xs)):B6 P w H' h' a o:=by
 induction o with
 |lst xs=>obtain⟨z,aa,n,r,e⟩:=x;exact⟨z,aa,n,r,k _ _ (.inl rfl) e⟩
 |tup xs=>obtain⟨z,aa,r,ob,e,c⟩:=x;exact⟨z,aa,r,ob,k _ _ (.inl rfl) e,c⟩
 |dK kvs=>obtain⟨z,y,vs,r,ob,es,ep,e,c⟩:=x;exact⟨z,y,vs,r,ob,es,ep,k _ _ (.inl rfl) e,c⟩
 |dT kvs =>
  obtain⟨z,y,xs,r,ob,es,ep,e,c⟩:=x;exact⟨z,y,xs,Paired.RT r λ p q z=>⟨z.1,ht _ _ z.2.1,z.2.2⟩,ob,es,ep,k _ _ (.inl rfl) e,c⟩
 |set S n=>obtain⟨ob,es,ep,t,e,c⟩:=x;exact⟨ob,es,ep,t,k _ _ (.inl rfl) e,c⟩
 |ins C dx fs =>
  obtain⟨d,z,ne,e,mA,⟨od,es,ep,e2,c⟩,r⟩:=x;exact⟨ho _ d,z,ne,k _ _ (.inl rfl) e,mA,⟨od,es,ep,k _ _ (.inr d) e2,c⟩,r⟩
 |own y=>obtain⟨ob,e⟩:=x;exact⟨ob,k _ _ (.inl rfl) e⟩
 |xd fs=>obtain⟨mA,⟨od,es,ep,e,c⟩,r⟩:=x;exact⟨mA,⟨od,es,ep,k _ _ (.inl rfl) e,c⟩,r⟩
 |T9 lo hi=>obtain⟨t,u,v,e⟩:=x;exact⟨t,u,v,k _ _ (.inl rfl) e⟩
 |K5 ob u ih=>obtain⟨e,q⟩:=x;exact⟨k _ _ (.inl rfl) e,ih q⟩
 |PN ps =>
  have e:h.get? a=some {cls:=.none,data:=.fields ps}:=x;show h'.get? a=some {cls:=.none,data:=.fields ps};exact k a _ (.inl rfl) e
 |met f y =>
  have e:h.get? a=some (PySem.W.methodObj (.ref f) (.ref y)):=x;show h'.get? a=some (PySem.W.methodObj (.ref f) (.ref y));exact k a _ (.inl rfl) e
 |ext φ=>obtain⟨p,⟨o,e⟩,st⟩:=x;exact⟨st _ _ p λ o q=>k _ _ (.inl rfl) q,⟨o,k _ _ (.inl rfl) e⟩,st⟩
theorem D4.lt (x:D4 P w H h)(e:H a=some o):a<h.objs.size:=(x a o e).lt
theorem D4.fresh (x:D4 P w H h)(e:h.objs.size<=a):H a=none:=by
 cases q:H a with
 |none=>rfl
 |some u=>exact absurd (zr (x.lt q) e) (Nat.lt_irrefl _)
theorem D4.kept (x:D4 P w H h)(k:∀b u,h.get? b=some u->h'.get? b=some u):D4 P w H h':=λ a o e =>
 (x a o e).Ij (λ b u _ q=>k b u q) (λ _ q=>q) λ _ _ q=>q
theorem D4.laid (x:D4 P w H h)(k:∀b u,h.get? b=some u->h'.get? b=some u)(hp:h.objs.size<=a)(new:B6 P w (upd H a o) h' a o):D4 P w (upd H a o) h':=λ b u e=>by
 have hn:=x.fresh hp;by_cases hb:b=a
 ·subst hb;rw[AM] at e;cases e;exact new
 ·rw[Ah hb] at e;exact (x b u e).Ij (λ c v _ q=>k c v q) (λ c q=>by rw[Ah (Aq q hn)];exact q) λ c xs q=>by rw[Ah (Aq q hn)];exact q
end
def Rd (H:Hp)(a:Addr)(u:HO):Prop:=H a=some u\/∃o,H a=some (.K5 o u)
theorem Rd.ok {P:Program}{w:World}{H:Hp}{h:Heap}{a:Addr}{u:HO}(r:Rd H a u)(x:D4 P w H h):B6 P w H h a u:=by
 rcases r with r|⟨o,r⟩
 ·exact x a u r
 ·obtain⟨_,q⟩:=x a _ r;exact q
def Ta:Option HO->Prop
 |some (.lst _)|some (.dK _)|some (.dT _)|some (.set _ _)|some (.ins _ _ _)|some (.ext _)=>True
 |_=>False
section
variable {P:Program}{w:World}{H:Hp}{h h':Heap}{x e:Addr}{o':HO}
theorem D4.write (ok:D4 P w H h)(mu:Ta (H x))(he:e=x\/H e=some (.own x))(k:∀b u,b≠e->h.get? b=some u->h'.get? b=some u)(bD:∃u,h'.get? e=some u)
 (new:B6 P w (upd H x o') h' x o'):D4 P w (upd H x o') h':=λ b u q=>by
 have bM:∀c y,H c=some (.own y)->c≠x:=λ c y r z=>by subst z;rw[r] at mu;exact mu
 have cH:∀c xs,H c=some (.tup xs)->c≠x:=λ c xs r z=>by subst z;rw[r] at mu;exact mu
 by_cases hb:b=x
 ·subst hb;rw[AM] at q;cases q;exact new
 ·rw[Ah hb] at q;by_cases bt:b=e
  ·have q':H b=some (.own x):=by
    rcases he with z|z
    ·exact absurd (bt.trans z) hb
    ·rw[bt];exact z
   rw[q] at q';cases q';obtain⟨v,hv⟩:=bD;exact⟨v,by rw[bt];exact hv⟩
  ·refine (ok b u q).Ij (λ c v hc r=>k c v ?_ r) (λ c r=>by rw[Ah (bM c b r)];exact r) λ c xs r=>by rw[Ah (cH c xs r)];exact r
   rcases hc with rfl|hc
   ·exact bt
   ·rintro rfl;rcases he with z|z
    ·exact bM c b hc z
    ·rw[hc] at z;cases z;exact hb rfl
end
structure Un (fs ex:List Addr)(H H':Hp)(h h':Heap):Prop where
 keep:∀b o,h.get? b=some o->H b=none->b∉fs->b∉ex->h'.get? b=some o
 slot:∀b o,h.get? b=some o->H b=none->b∈fs->b∉ex->∃sl,h'.get? b=some {o with slots:=sl}
 free:∀b o,h.get? b=some o->H b=none->b∉ex->H' b=none
 there:∀b o,h.get? b=some o->b∉ex->∃o',h'.get? b=some o'
 Gf:∀b xs,H b=some (.tup xs)->H' b=some (.tup xs)
 Fb:∀b o u,H b=some (.K5 o u)->H' b=some (.K5 o u)
 Gg:∀b ps,H b=some (.PN ps)->∃more,H' b=some (.PN (ps++more))
section
variable {fs aY ex cI:List Addr}{H H1 H2:Hp}{h h1 h2 h':Heap}{a x e:Addr}{o:HO}
theorem Un.any (u:Un fs ex H H1 h h1){b:Addr}{ob:Obj}(q:h.get? b=some ob)(n:H b=none)(hx:b∉ex):∃sl,h1.get? b=some {ob with slots:=sl}:=by
 by_cases hb:b∈fs
 ·exact u.slot b ob q n hb hx
 ·exact⟨ob.slots,u.keep b ob q n hb hx⟩
theorem Un.kept (k:∀b u,h.get? b=some u->h'.get? b=some u):Un fs ex H H h h':=
 ⟨λ b ob q _ _ _=>k b ob q,λ b ob q _ _ _=>⟨ob.slots,k b ob q⟩,λ _ _ _ n _=>n,λ b ob q _=>⟨ob,k b ob q⟩,λ _ _ q=>q,λ _ _ _ q=>q,λ _ ps q=>⟨#[],by rw[q];simp⟩⟩
theorem Un.refl:Un fs ex H H h h:=Un.kept λ _ _ q=>q
theorem Un.laid (k:∀b u,h.get? b=some u->h'.get? b=some u)(hp:h.objs.size<=a)(hn:H a=none):Un fs ex H (upd H a o) h h' where
 keep:=λ b u q _ _ _=>k b u q
 slot:=λ b u q _ _ _=>⟨u.slots,k b u q⟩
 free:=λ b u q n _=>by rw[Ah (zG (zr (zl q) hp))];exact n
 there:=λ b u q _=>⟨u,k b u q⟩
 Gf:=λ b xs q=>by rw[Ah (Aq q hn)];exact q
 Fb:=λ b u xs q=>by rw[Ah (Aq q hn)];exact q
 Gg:=λ b ps q=>⟨#[],by rw[Ah (Aq q hn),q];simp⟩
theorem Un.write (mu:Ta (H x))(he:e=x\/H e=some (.own x))(k:∀b u,b≠e->h.get? b=some u->h'.get? b=some u)(bD:∃u,h'.get? e=some u):Un fs ex H (upd H x o) h h':=by
 have hx:∀b,H b=none->b≠x:=λ b n z=>by subst z;rw[n] at mu;exact mu
 have hb:∀b,H b=none->b≠e:=λ b n z=>by
  subst z;rcases he with r|r
  ·exact hx b n r
  ·rw[n] at r;cases r
 have hm:∀b u,H b=some u->¬ Ta (some u)->b≠x:=λ b u q nm z=>by subst z;rw[q] at mu;exact nm mu
 refine⟨λ b u q n _ _=>k b u (hb b n) q,λ b u q n _ _=>⟨u.slots,k b u (hb b n) q⟩,λ b u q n _=>by rw[Ah (hx b n)];exact n,λ b u q _=>?_,
  λ b xs q=>by rw[Ah (hm b _ q λ z=>z)];exact q,λ b u xs q=>by rw[Ah (hm b _ q λ z=>z)];exact q,λ b ps q=>⟨#[],by rw[Ah (hm b _ q λ z=>z),q];simp⟩⟩
 by_cases bt:b=e
 ·subst bt;exact bD
 ·exact⟨u,k b u bt q⟩
end
noncomputable def Bp (h:Heap)(H:Hp):List Addr:=(List.range h.objs.size).filter λ a=>(H a).isSome
noncomputable def Hm (h:Heap)(H:Hp):Heap:=PySem.W.hideAll h (Bp h H)
theorem KQ (h:Heap)(H:Hp):(Hm h H).objs.size=h.objs.size:=PySem.W.hideAll_size _ _
theorem LS {h:Heap}{H:Hp}{b:Addr}{o:Obj}(e:h.get? b=some o)(n:H b=none):(Hm h H).get? b=some o:=
 zT _ e λ hm=>by
  have q:(H b).isSome=true:=(List.mem_filter.mp hm).2;rw[n] at q;simp at q
theorem NY {h:Heap}{H:Hp}{b:Addr}{o:Obj}(e:(Hm h H).get? b=some o):h.get? b=some o/\H b=none:=by
 have e':h.get? b=some o:=PySem.W.of_hideAll (Bp h H) e;refine⟨e',?_⟩;cases q:H b with
 |none=>rfl
 |some x =>
  have hm:b∈Bp h H:=List.mem_filter.mpr ⟨List.mem_range.mpr (zl e'),by simp[q]⟩;have z:(Hm h H).get? b=none:=PySem.W.hideAll_none (Bp h H) hm;rw[z] at e;cases e
noncomputable def NZ (g h:Heap)(L:Addr):List (Addr×Obj):=(List.range h.objs.size).filterMap λ a=>if a=L\/(g.get? a).isSome=true then none else (h.get? a).map λ o=>(a,o)
noncomputable def rest (g h:Heap)(L d:Addr):List (Addr×Obj):=(NZ g h L).filter λ p=>decide (p.1≠d)
structure Mod (K:za)(mg:Str->Option Value)(base:Heap):Prop where
 Tb:K.In base
 glob:base.Ns mainGlobals mg
 blt:∃mb,base.Ns builtinsNs mb/\∀x:Str,x ≠ "__name__" -> mb x=bootBuiltins x
 nolimit:base.NoLimit
structure Cx where
 prog:Program
 w:World
 K:za
 mg:Str->Option Value
 base:Heap
 A:Around
 N:List Str
 s₀:Shared
 H₀:Hp
 env:Env
 outer:List Env
 stack:List Env
 ex:List Addr
 fn:Str->Bool
 calm:Bool
 pn:List (Addr×Obj)
 xe:Value->Shared->Prop
noncomputable def EI (l:List Env):List Addr:=l.filterMap (·.frame)
noncomputable abbrev Cx.fs (X:Cx):List Addr:=EI X.outer
def Tp (sc:Scope)(x:Str):Prop:=sc.names.lookup x=some .local\/sc.names.lookup x=some .cell\/sc.names.lookup x=some .free
def Loc (sc:Scope)(x:Str):Prop:=sc.names.lookup x=some .local\/sc.names.lookup x=some .cell
def Look (env:Env)(h:Heap)(m:Str->Option Value)(x:Str)(u:Value):Prop:=
 (env.kindOf x=some .local/\m x=some u)\/((env.kindOf x=some .cell\/env.kindOf x=some .free)/\∃c,env.cells.lookup x=some c/\h.IsCell c (some u))
structure Cx.Ok (X:Cx):Prop where
 mod:Mod X.K X.mg X.base
 kind:X.env.scope.kind=.function
 glob:X.env.globals=mainGlobals
 blt:X.env.builtins=builtinsNs
 above:X.s₀.heap.objs.size<=X.env.locals
 inj:∀x y c,X.env.cells.lookup x=some c->X.env.cells.lookup y=some c->x=y
 has:∀x,(X.env.kindOf x=some .cell\/X.env.kindOf x=some .free)->∃c,X.env.cells.lookup x=some c
 RU:∀x c,X.fn x=true->X.env.cells.lookup x=some c->X.s₀.heap.objs.size<=c
 hd:X.calm=true->X.A.handled=none
 frames:X.A.frames=some X.stack
 PP:X.stack=X.outer\/(X.stack=X.env::X.outer/\X.env.frame=some X.env.locals)
 Tc:∀b∈X.ex,b≠X.env.locals/\∀x c,X.env.cells.lookup x=some c->c≠b
 bs:∀b o,X.base.get? b=some o->X.s₀.heap.get? b=some o/\X.H₀ b=none
 PQ:X.base.objs.size<=X.s₀.heap.objs.size
 LU:∀b o,X.base.get? b=some o->b∉X.ex
 LV:∀b∈X.ex,b∉X.fs
 En:X.s₀.heap.FunFrames X.base X.outer
 RK:∀b∈X.fs,X.H₀ b=none
structure Inv (X:Cx)(pins:List (Addr×Obj))(σ:List (Option V))(H:Hp)(s:Shared):Prop where
 ok:X.Ok
 os:s.os=X.s₀.os
 bare:AllBare s.gens
 base:Un X.fs X.ex X.H₀ H X.s₀.heap s.heap
 loc:∃m,s.heap.Ns X.env.locals m/\∀(i:Nat) (x:Str) (v:V),X.N[i]?=some x->σ[i]?=some (some v)->Tp X.env.scope x->∃u,RelV v u/\Look X.env s.heap m x u
 cell:∀x c,X.env.cells.lookup x=some c->∃v,s.heap.IsCell c v
 free:H X.env.locals=none
 CG:∀x c,X.env.cells.lookup x=some c->H c=none
 pin:∀p∈X.pn++pins,s.heap.get? p.1=some p.2/\H p.1=none/\p.1≠X.env.locals/\p.1∉X.fs/\∀v,p.2.data≠.cell v
 Az:D4 X.prog X.w H s.heap
 len:σ.length=X.N.length
section
variable {X:Cx}{pins:List (Addr×Obj)}{σ:List (Option V)}{H H':Hp}{s:Shared}{h':Heap}
theorem Cx.Ok.Tq (ok:X.Ok){b:Addr}{o:Obj}(e:X.base.get? b=some o):b∉X.fs:=λ hb=>by
 have:=(ok.En.mem hb).1;rw[e] at this;cases this
theorem Inv.bs (I:Inv X pins σ H s):∀b o,X.base.get? b=some o->s.heap.get? b=some o/\H b=none:=λ b o e =>
 ⟨I.base.keep b o (I.ok.bs b o e).1 (I.ok.bs b o e).2 (I.ok.Tq e) (I.ok.LU b o e),I.base.free b o (I.ok.bs b o e).1 (I.ok.bs b o e).2 (I.ok.LU b o e)⟩
theorem Inv.bk (I:Inv X pins σ H s):∀b o,X.base.get? b=some o->s.heap.get? b=some o:=λ b o e=>(I.bs b o e).1
theorem Inv.mod (I:Inv X pins σ H s):Mod X.K X.mg X.base:=I.ok.mod
theorem Inv.K6 (I:Inv X pins σ H s):X.K.In s.heap:=I.ok.mod.Tb.keeps I.bk
theorem Inv.fr (I:Inv X pins σ H s):∃m,Fr X.base X.env.locals s.heap m:=
 let ⟨m,hn,_⟩:=I.loc
 ⟨m,hn,I.bk,z9 I.ok.PQ I.ok.above⟩
theorem Inv.lt (I:Inv X pins σ H s):X.env.locals<s.heap.objs.size:=let ⟨_,hn,_⟩:=I.loc;hn.lt
theorem Inv.sz (I:Inv X pins σ H s):X.s₀.heap.objs.size<=s.heap.objs.size:=z9 I.ok.above (ye I.lt)
theorem Inv.Ts (I:Inv X pins σ H s){a:Addr}(h:s.heap.objs.size<=a):a∉X.fs:=λ hb=>by
 obtain⟨_,o,ho,_⟩:=I.ok.En.mem hb;exact absurd (zr (zl ho) (z9 I.sz h)) (Nat.lt_irrefl _)
theorem Inv.Qm (I:Inv X pins σ H s):∀x c,X.env.cells.lookup x=some c->c≠X.env.locals:=λ x c e z=>by
 obtain⟨v,o,ho,hd⟩:=I.cell x c e;obtain⟨m,⟨o',es,ep,a9,bN,_⟩,_⟩:=I.loc;rw[z,a9] at ho;cases ho;rw[bN] at hd;cases hd
theorem Inv.En (I:Inv X pins σ H s):s.heap.FunFrames X.base X.outer:=by
 have all:∀(l:List Env),(∀b∈EI l,b∈X.fs)->X.s₀.heap.FunFrames X.base l->s.heap.FunFrames X.base l:=by
  intro l;induction l with
  |nil=>intro _ _;trivial
  |cons env r ih =>
   intro hs hl;obtain⟨hk,⟨L,o,hf,hn,ho,hd⟩,hr⟩:=hl;have hL:L∈X.fs:=hs L (by unfold EI;rw[List.filterMap_cons,hf];exact zd);obtain⟨sl,e⟩:=I.base.slot L o ho (I.ok.RK L hL) hL λ z=>I.ok.LV L z hL;exact⟨hk,⟨L,_,hf,hn,e,hd⟩,ih (λ b hb=>hs b (by unfold EI;rw[List.filterMap_cons,hf];exact ze _ hb)) hr⟩
 exact all X.outer (λ _ hb=>hb) I.ok.En
theorem Inv.stack (I:Inv X pins σ H s):s.heap.FunFrames X.base X.stack:=by
 rcases I.ok.PP with e|⟨e,hf⟩
 ·rw[e];exact I.En
 ·rw[e];obtain⟨m,hn,_⟩:=I.loc;refine .cons (by rw[I.ok.kind];decide) hf hn ?_ I.En;exact Heap.get?_none_of_le (z9 I.ok.PQ I.ok.above)
theorem Inv.Jl (I:Inv X pins σ H s):∀b∈EI X.stack,b∈X.env.locals::X.fs:=λ b hb=>by
 rcases I.ok.PP with e|⟨e,hf⟩
 ·rw[e] at hb;exact ze _ hb
 ·rw[e] at hb;unfold EI at hb;rw[List.filterMap_cons,hf] at hb;exact hb
theorem Inv.Hn (I:Inv X pins σ H s):∀b∈EI X.stack,H b=none:=λ b hb=>by
 rcases zm.mp (I.Jl b hb) with e|hb
 ·rw[e];exact I.free
 ·obtain⟨_,o,ho,_⟩:=I.ok.En.mem hb;exact I.base.free b o ho (I.ok.RK b hb) λ z=>I.ok.LV b z hb
theorem Inv.step {g':Array GenState}{t':Nat}{d':Drawn}{ch:List Addr}(I:Inv X pins σ H s)
 (aZ:∀b∈ch,(b∈X.ex\/X.s₀.heap.objs.size<=b)/\b≠X.env.locals/\(∀x c,X.env.cells.lookup x=some c->c≠b)/\∀p∈X.pn++pins,p.1≠b)
 (keep:∀b o,b≠X.env.locals->b∉X.fs->b∉ch->s.heap.get? b=some o->H b=none->h'.get? b=some o)
 (slot:∀b o,b≠X.env.locals->b∈X.fs->b∉ch->s.heap.get? b=some o->H b=none->∃sl,h'.get? b=some {o with slots:=sl}) (free:∀b o,b∉ch->s.heap.get? b=some o->H b=none->H' b=none)
 (there:∀b o,b∉ch->s.heap.get? b=some o->∃o',h'.get? b=some o')
 (Gf:∀b xs,H b=some (.tup xs)->H' b=some (.tup xs)) (Fb:∀b o u,H b=some (.K5 o u)->H' b=some (.K5 o u)) (Gg:∀b ps,H b=some (.PN ps)->∃more,H' b=some (.PN (ps++more)))
 (ns:∀m,s.heap.Ns X.env.locals m->h'.Ns X.env.locals m) (Az:D4 X.prog X.w H' h') (hg:AllBare g'):
 Inv X pins σ H' {s with heap:=h',gens:=g',drawn:=d',toks:=t' }:=by
 have dW:∀b o,X.s₀.heap.get? b=some o->b≠X.env.locals:=λ b o e=>zG (zr (zl e) I.ok.above);have c3:∀b o,X.s₀.heap.get? b=some o->b∉X.ex->b∉ch:=λ b o e hx hb=>by
  rcases (aZ b hb).1 with z|z
  ·exact hx z
  ·exact absurd (zr (zl e) z) (Nat.lt_irrefl _)
 have cellK:∀x c,X.env.cells.lookup x=some c->∀v,s.heap.IsCell c v->h'.IsCell c v:=λ x c e v ⟨o,ho,hd⟩=>by
  have bO:c∉ch:=λ z=>(aZ c z).2.2.1 x c e rfl;by_cases hc:c∈X.fs
  ·obtain⟨sl,q⟩:=slot c o (I.Qm x c e) hc bO ho (I.CG x c e);exact⟨_,q,hd⟩
  ·exact⟨o,keep c o (I.Qm x c e) hc bO ho (I.CG x c e),hd⟩
 refine⟨I.ok,I.os,hg,⟨λ b o e n hb hx=>?_,λ b o e n hb hx=>?_,λ b o e n hx=>?_,λ b o e hx=>?_,λ b xs e=>Gf b xs (I.base.Gf b xs e),λ b o xs e=>Fb b o xs (I.base.Fb b o xs e),λ b ps e=>?_⟩,?_,λ x c e=>?_,?_,λ x c e=>?_,λ p hp=>?_,Az,I.len⟩
 ·exact keep b o (dW b o e) hb (c3 b o e hx) (I.base.keep b o e n hb hx) (I.base.free b o e n hx)
 ·obtain⟨sl,e1⟩:=I.base.slot b o e n hb hx;obtain⟨c4,e2⟩:=slot b _ (dW b o e) hb (c3 b o e hx) e1 (I.base.free b o e n hx);exact⟨c4,e2⟩
 ·obtain⟨o',e1⟩:=I.base.there b o e hx;exact free b o' (c3 b o e hx) e1 (I.base.free b o e n hx)
 ·obtain⟨o',e1⟩:=I.base.there b o e hx;exact there b o' (c3 b o e hx) e1
 ·obtain⟨m1,e1⟩:=I.base.Gg b ps e;obtain⟨m2,e2⟩:=Gg b _ e1;exact⟨m1++m2,by rw[e2,Array.append_assoc]⟩
 ·obtain⟨m,hn,hl⟩:=I.loc;refine⟨m,ns m hn,λ i x v e1 e2 e3=>?_⟩;obtain⟨u,r,l⟩:=hl i x v e1 e2 e3;refine⟨u,r,?_⟩;rcases l with l|⟨k,c,e,z⟩
  ·exact .inl l
  ·exact .inr ⟨k,c,e,cellK x c e _ z⟩
 ·obtain⟨v,z⟩:=I.cell x c e;exact⟨v,cellK x c e v z⟩
 ·obtain⟨m,⟨o,_,_,ho,_⟩,_⟩:=I.loc;exact free _ o (λ z=>(aZ _ z).2.1 rfl) ho I.free
 ·obtain⟨v,o,ho,hd⟩:=I.cell x c e;exact free c o (λ z=>(aZ c z).2.2.1 x c e rfl) ho (I.CG x c e)
 ·obtain⟨e,n,ne,nf,d⟩:=I.pin p hp;have bO:p.1∉ch:=λ z=>(aZ p.1 z).2.2.2 p hp rfl;exact⟨keep p.1 p.2 ne nf bO e n,free p.1 p.2 bO e n,ne,nf,d⟩
theorem Inv.un {t':Nat}(I:Inv X pins σ H s)(u:Un X.fs [] H H' s.heap h')(Az:D4 X.prog X.w H' h'):Inv X pins σ H' {s with heap:=h',toks:=t' }:=by
 obtain⟨m,⟨o,es,ep,ho,r⟩,_⟩:=id I.loc;obtain⟨sl,hL⟩:=u.any ho I.free (by simp);exact I.step (g':=s.gens) (d':=s.drawn) (ch:=[]) (λ _ z=>nomatch z) (λ b o _ hb _ e n=>u.keep b o e n hb (by simp)) (λ b o _ hb _ e n=>u.slot b o e n hb (by simp)) (λ b o _ e n=>u.free b o e n (by simp)) (λ b o _ e=>u.there b o e (by simp)) u.Gf u.Fb u.Gg (λ m' hm=>by
  obtain⟨o',cJ,cK,a9,r'⟩:=hm;rw[ho] at a9;cases a9;exact⟨_,cJ,cK,hL,r'⟩) Az I.bare
theorem Inv.call {g':Array GenState}{t':Nat}{d':Drawn}{ch:List Addr}(I:Inv X pins σ H s)(u:Un (EI X.stack) ch H H' s.heap h')(Az:D4 X.prog X.w H' h')(hg:AllBare g')
 (aZ:∀b∈ch,(b∈X.ex\/X.s₀.heap.objs.size<=b)/\b≠X.env.locals/\(∀x c,X.env.cells.lookup x=some c->c≠b)/\∀p∈X.pn++pins,p.1≠b):
 Inv X pins σ H' {s with heap:=h',gens:=g',drawn:=d',toks:=t' }:=by
 obtain⟨m,⟨o,es,ep,ho,r⟩,_⟩:=id I.loc;obtain⟨sl,hL⟩:=u.any ho I.free λ z=>(aZ _ z).2.1 rfl;exact I.step (ch:=ch) aZ (λ b o hL hb hc e n=>u.keep b o e n (λ z=>(zm.mp (I.Jl b z)).elim hL hb) hc) (λ b o _ _ hc e n=>u.any e n hc) (λ b o hc e n=>u.free b o e n hc) (λ b o hc e=>u.there b o e hc) u.Gf u.Fb u.Gg (λ m' hm=>by
  obtain⟨o',cJ,cK,a9,r'⟩:=hm;rw[ho] at a9;cases a9;exact⟨_,cJ,cK,hL,r'⟩) Az hg
theorem Inv.turned {t':Nat}{it:Addr}(I:Inv X pins σ H s)(k:∀b o,b≠it->s.heap.get? b=some o->h'.get? b=some o)(hn:H it=none)(hL:it≠X.env.locals)
 (h1:it∈X.ex\/X.s₀.heap.objs.size<=it) (h2:∀x c,X.env.cells.lookup x=some c->c≠it) (h3:∀p∈X.pn++pins,p.1≠it):Inv X pins σ H {s with heap:=h',toks:=t' }:=by
 have dX:∀b u,H b=some u->b≠it:=λ b u e z=>by rw[z,hn] at e;cases e
 refine I.step (g':=s.gens) (d':=s.drawn) (ch:=[it]) (λ b hb=>?_) (λ b o _ _ hc e _=>k b o (λ z=>hc (by simp[z])) e) (λ b o _ _ hc e _=>⟨o.slots,k b o (λ z=>hc (by simp[z])) e⟩) (λ _ _ _ _ n=>n)
  (λ b o hc e=>⟨o,k b o (λ z=>hc (by simp[z])) e⟩) (λ _ _ e=>e) (λ _ _ _ e=>e) (λ b ps e=>⟨#[],by rw[e];simp⟩) (λ m hm=>?_) (λ b u e=>?_) I.bare
 ·have e:b=it:=by simpa using hb
  subst e;exact⟨h1,hL,h2,h3⟩
 ·obtain⟨o,es,ep,ho,r⟩:=hm;exact⟨o,es,ep,k _ o (Ne.symm hL) ho,r⟩
 ·refine (I.Az b u e).Ij (λ c v hc q=>k c v ?_ q) (λ _ q=>q) λ _ _ q=>q;rcases hc with z|z
  ·rw[z];exact dX b u e
  ·exact dX c _ z
theorem Inv.tok (I:Inv X pins σ H s)(t:Nat):Inv X pins σ H {s with toks:=t}:=I.un (h':=s.heap) (t':=t) Un.refl I.Az
theorem Inv.kept {t':Nat}(I:Inv X pins σ H s)(k:∀b u,s.heap.get? b=some u->h'.get? b=some u):Inv X pins σ H {s with heap:=h',toks:=t' }:=I.un (Un.kept k) (I.Az.kept k)
theorem Inv.laid {a:Addr}{o:HO}{t':Nat}(I:Inv X pins σ H s)(k:∀b u,s.heap.get? b=some u->h'.get? b=some u)(hp:s.heap.objs.size<=a)(new:B6 X.prog X.w (upd H a o) h' a o):
 Inv X pins σ (upd H a o) {s with heap:=h',toks:=t' }:=I.un (Un.laid k hp (I.Az.fresh hp)) (I.Az.laid k hp new)
theorem Inv.write {x e:Addr}{o:HO}{t':Nat}(I:Inv X pins σ H s)(mu:Ta (H x))(he:e=x\/H e=some (.own x))(k:∀b u,b≠e->s.heap.get? b=some u->h'.get? b=some u)(bD:∃u,h'.get? e=some u)
 (new:B6 X.prog X.w (upd H x o) h' x o):Inv X pins σ (upd H x o) {s with heap:=h',toks:=t' }:=I.un (Un.write mu he k bD) (I.Az.write mu he k bD new)
theorem Inv.weak {σ':List (Option V)}(I:Inv X pins σ H s)(hl:σ'.length=σ.length)(w:∀(i:Nat) v,σ'[i]?=some (some v)->σ[i]?=some (some v)):Inv X pins σ' H s:=
 ⟨I.ok,I.os,I.bare,I.base,let ⟨m,hn,bP⟩:=I.loc;⟨m,hn,λ i x v e1 e2 e3=>bP i x v e1 (w i v e2) e3⟩,I.cell,I.free,I.CG,I.pin,I.Az,hl.trans I.len⟩
theorem Inv.DQ {bi:List (Addr×Obj)}(I:Inv X pins σ H s)(h:∀p∈bi,s.heap.get? p.1=some p.2/\H p.1=none/\p.1≠X.env.locals/\p.1∉X.fs/\∀v,p.2.data≠.cell v):Inv X bi σ H s:=
 ⟨I.ok,I.os,I.bare,I.base,I.loc,I.cell,I.free,I.CG,λ p hp=>(zx.mp hp).elim (λ z=>I.pin p (zu _ z)) (h p),I.Az,I.len⟩
theorem Ik {N:List Str}(hN:N.Nodup){i j:Nat}{x:Str}(a:N[i]?=some x)(b:N[j]?=some x):i=j:=by
 obtain⟨h1,e1⟩:=zw.mp a;obtain⟨h2,e2⟩:=zw.mp b;exact (List.getElem_inj hN).mp (e1.trans e2.symm)
theorem KR {M:Model}{A:Around}{E:Value->Shared->Prop}{i:Nat}{x:Str}{v:V}{u:Value}{Q:Unit->Shared->Prop}(I:Inv X pins σ H s)(hN:X.N.Nodup)(hi:X.N[i]?=some x)(hx:Loc X.env.scope x)(r:RelV v u)
 (h:∀s',Inv X pins (σ.set i (some v)) H s'->(∃a,Heap.SameBut a s.heap s'.heap/\(a=X.env.locals\/X.env.cells.lookup x=some a))->Q () s') (hf:X.fn x=true\/X.env.scope.names.lookup x=some .local:=by first|exact .inl rfl|exact .inr rfl|assumption):wpAny M A (storeName X.env x u) Q E s:=by
 obtain⟨m,hn,hl⟩:=id I.loc;have cL:(X.env.scope.kind==.class||(X.env.scope.kind==.module&&X.env.locals != X.env.globals))=false:=by rw[I.ok.kind];rfl
 have hiσ:i<σ.length:=by rw[I.len];exact (zw.mp hi).1
 have Qm:=I.Qm;have tracked:∀ {a:Addr} {h':Heap},(∃o,s.heap.get? a=some o/\H a=none)->Heap.SameBut a s.heap h'->D4 X.prog X.w H h':=fun {a h'} ha hs b ob e=>by
  obtain⟨_,_,bj⟩:=ha;refine (I.Az b ob e).Ij (λ c w' hc q=>(hs.2 c ?_).trans q) (λ _ q=>q) λ _ _ q=>q;rintro rfl;rcases hc with rfl|hc
  ·rw[bj] at e;cases e
  ·rw[bj] at hc;cases hc
 rcases hx with hk|hk
 ·refine wpAny_storeName_local hk hn (λ h' eC hs=>?_) cL;obtain⟨oL,_,_,cM,_⟩:=id hn;refine h _ ⟨I.ok,I.os,I.bare,⟨λ b o e n hb hx=>?_,λ b o e n hb hx=>?_,I.base.free,λ b o e hx=>?_,I.base.Gf,I.base.Fb,I.base.Gg⟩,⟨_,eC,λ j y v' e1 e2 e3=>?_⟩,λ y c e=>?_,I.free,I.CG,λ p hp=>?_,tracked ⟨oL,cM,I.free⟩ hs,by simpa using I.len⟩ ⟨_,hs,.inl rfl⟩
  ·exact (hs.2 b (zG (zr (zl e) I.ok.above))).trans (I.base.keep b o e n hb hx)
  ·obtain⟨sl,e1⟩:=I.base.slot b o e n hb hx;exact⟨sl,(hs.2 b (zG (zr (zl e) I.ok.above))).trans e1⟩
  ·obtain⟨o',e1⟩:=I.base.there b o e hx;exact⟨o',(hs.2 b (zG (zr (zl e) I.ok.above))).trans e1⟩
  ·by_cases hj:j=i
   ·subst hj;rw[hi] at e1;cases e1;rw[zN hiσ] at e2;cases e2;exact⟨u,r,.inl ⟨hk,by simp⟩⟩
   ·rw[yb (Ne.symm hj)] at e2;obtain⟨u',r',q⟩:=hl j y v' e1 e2 e3;refine⟨u',r',?_⟩;rcases q with ⟨k,e⟩|⟨k,c,e,z⟩
    ·refine .inl ⟨k,?_⟩;have:y≠x:=λ e=>hj (Ik hN e1 (e▸hi));simp[this,e]
    ·exact .inr ⟨k,c,e,z.sameBut hs (Qm y c e)⟩
  ·obtain⟨w',z⟩:=I.cell y c e;exact⟨w',z.sameBut hs (Qm y c e)⟩
  ·obtain⟨e,n,ne,nf,d⟩:=I.pin p hp;exact⟨(hs.2 p.1 ne).trans e,n,ne,nf,d⟩
 ·have cN:X.fn x=true:=by
   rcases hf with z|z
   ·exact z
   ·rw[z] at hk;cases hk
  obtain⟨c,hc⟩:=I.ok.has x (.inl hk);obtain⟨w',z⟩:=I.cell x c hc;refine wpAny_storeName_cell I.ok.kind hk hc z (λ h' dY hs=>?_);obtain⟨oc,dZ,cO⟩:=id z;refine h {s with heap:=h' } ⟨I.ok,I.os,I.bare,⟨λ b o e n hb hx=>?_,λ b o e n hb hx=>?_,I.base.free,λ b o e hx=>?_,I.base.Gf,I.base.Fb,I.base.Gg⟩,⟨m,hn.sameBut hs (Ne.symm (Qm x c hc)),λ j y v' e1 e2 e3=>?_⟩,λ y c' e=>?_,I.free,I.CG,λ p hp=>?_,tracked ⟨oc,dZ,I.CG x c hc⟩ hs,by simpa using I.len⟩ ⟨c,hs,.inr hc⟩
  ·exact (hs.2 b (zG (zr (zl e) (I.ok.RU x c cN hc)))).trans (I.base.keep b o e n hb hx)
  ·obtain⟨sl,e1⟩:=I.base.slot b o e n hb hx;exact⟨sl,(hs.2 b (zG (zr (zl e) (I.ok.RU x c cN hc)))).trans e1⟩
  ·obtain⟨o',e1⟩:=I.base.there b o e hx;exact⟨o',(hs.2 b (zG (zr (zl e) (I.ok.RU x c cN hc)))).trans e1⟩
  ·by_cases hj:j=i
   ·subst hj;rw[hi] at e1;cases e1;rw[zN hiσ] at e2;cases e2;exact⟨u,r,.inr ⟨.inl hk,c,hc,dY⟩⟩
   ·rw[yb (Ne.symm hj)] at e2;obtain⟨u',r',q⟩:=hl j y v' e1 e2 e3;refine⟨u',r',?_⟩;rcases q with q|⟨k,c',e,z'⟩
    ·exact .inl q
    ·refine .inr ⟨k,c',e,z'.sameBut hs ?_⟩;rintro rfl;exact hj (Ik hN e1 (I.ok.inj _ _ _ e hc▸hi))
  ·by_cases ec:c'=c
   ·subst ec;exact⟨_,dY⟩
   ·obtain⟨w2,z2⟩:=I.cell y c' e;exact⟨w2,z2.sameBut hs ec⟩
  ·obtain⟨e,n,ne,nf,d⟩:=I.pin p hp;refine⟨(hs.2 p.1 ?_).trans e,n,ne,nf,d⟩;intro q;rw[q,dZ] at e;have q':oc=p.2:=zB e;exact d w' (by rw[<-q'];exact cO)
theorem Il {M:Model}{A:Around}{E:Value->Shared->Prop}{i:Nat}{x:Str}{v:V}{u:Value}{Q:Unit->Shared->Prop}(I:Inv X pins σ H s)(hN:X.N.Nodup)(hi:X.N[i]?=some x)(hx:Loc X.env.scope x)(r:RelV v u)
 (h:∀s',Inv X pins (σ.set i (some v)) H s'->Q () s') (hf:X.fn x=true\/X.env.scope.names.lookup x=some .local:=by first|exact .inl rfl|exact .inr rfl|assumption):wpAny M A (storeName X.env x u) Q E s:=
 KR I hN hi hx r (λ s' I' _=>h s' I') hf
theorem Inv.PR {s':Shared}{ch:List Addr}(I:Inv X pins σ H s)(ho:s'.os=s.os)(u:Un (EI X.stack) ch H H' s.heap s'.heap)(Az:D4 X.prog X.w H' s'.heap)(hg:AllBare s'.gens)
 (aZ:∀b∈ch,(b∈X.ex\/X.s₀.heap.objs.size<=b)/\b≠X.env.locals/\(∀x c,X.env.cells.lookup x=some c->c≠b)/\∀p∈X.pn++pins,p.1≠b):Inv X pins σ H' s':=by
 obtain⟨h',g',d',t',o'⟩:=s';have e:o'=s.os:=ho;subst e;exact I.call (g':=g') (t':=t') (d':=d') u Az hg aZ
end
noncomputable abbrev XK:=Value->Option Addr->Hp->Prop
noncomputable abbrev St:=List (Option V)
noncomputable abbrev VK:=V->Hp->Prop
noncomputable abbrev TE:=St->Hp->VK->Prop
noncomputable abbrev TT:=St->Hp->(Bool->Hp->Prop)->Prop
noncomputable abbrev TA:=St->Hp->(List V->Hp->Prop)->Prop
structure Ends where
 nx:St->Hp->Prop
 rt:VK
 bk:St->Hp->Prop:=λ _ _=>False
 ct:St->Hp->Prop:=λ _ _=>False
noncomputable abbrev TS:=Ends->St->Hp->Prop
def EP (X:Cx)(pins:List (Addr×Obj))(σ:St)(Q:VK)(u:Value)(s':Shared):Prop:=∃v H',Inv X pins σ H' s'/\RelV v u/\Q v H'
def TP (X:Cx)(pins:List (Addr×Obj))(σ:St)(Q:Bool->Hp->Prop)(b:Bool)(s':Shared):Prop:=∃H',Inv X pins σ H' s'/\Q b H'
def AP (X:Cx)(pins:List (Addr×Obj))(σ:St)(Q:List V->Hp->Prop)(us:List Value)(s':Shared):Prop:=∃vs H',Inv X pins σ H' s'/\Vals vs us/\Q vs H'
def SP (X:Cx)(pins:List (Addr×Obj))(D:Ends)(f:Flow)(s':Shared):Prop:=
 match f with
 | .next=>∃σ' H',Inv X pins σ' H' s'/\D.nx σ' H'
 | .brk=>∃σ' H',Inv X pins σ' H' s'/\D.bk σ' H'
 | .cont=>∃σ' H',Inv X pins σ' H' s'/\D.ct σ' H'
 | .ret u=>∃v σ' H',Inv X pins σ' H' s'/\RelV v u/\D.rt v H'
def PE (X:Cx)(e:Expr)(t:TE):Prop:=
 ∀(pins:List (Addr×Obj)) (s:Shared) (σ:St) (H:Hp) (Q:VK),Inv X pins σ H s->t σ H Q->wpAny (model X.prog X.w) X.A (eval e X.env) (EP X pins σ Q) X.xe s
def PT (X:Cx)(e:Expr)(t:TT):Prop:=
 ∀(pins:List (Addr×Obj)) (s:Shared) (σ:St) (H:Hp) (Q:Bool->Hp->Prop),Inv X pins σ H s->t σ H Q->wpAny (model X.prog X.w) X.A (isTrue e X.env (eval e X.env)) (TP X pins σ Q) X.xe s
def PW (X:Cx)(e:Expr)(t:TT):Prop:=
 ∀(whole:Sem Value) (pins:List (Addr×Obj)) (s:Shared) (σ:St) (H:Hp) (Q:Bool->Hp->Prop),Inv X pins σ H s->t σ H Q->wpAny (model X.prog X.w) X.A (isTrue e X.env whole) (TP X pins σ Q) X.xe s
theorem PW.pt {X:Cx}{e:Expr}{t:TT}(h:PW X e t):PT X e t:=h _
def PA (X:Cx)(es:List Expr)(t:TA):Prop:=
 ∀(pos:Pos) (pins:List (Addr×Obj)) (s:Shared) (σ:St) (H:Hp) (Q:List V->Hp->Prop),Inv X pins σ H s->t σ H Q->wpAny (model X.prog X.w) X.A (spliced (backTo pos (starEach es X.env))) (AP X pins σ Q) X.xe s
def PS (X:Cx)(st:Stmt)(t:TS):Prop:=
 ∀(pins:List (Addr×Obj)) (s:Shared) (σ:St) (H:Hp) (D:Ends),Inv X pins σ H s->t D σ H->wpAny (model X.prog X.w) X.A (exec st X.env) (SP X pins D) X.xe s
def KS (X:Cx)(st:List Stmt)(t:TS):Prop:=
 ∀(pins:List (Addr×Obj)) (s:Shared) (σ:St) (H:Hp) (D:Ends),Inv X pins σ H s->t D σ H->wpAny (model X.prog X.w) X.A (execs st X.env) (SP X pins D) X.xe s
theorem AZ {α:Type}{t:Sem α}{Q Q':α->Shared->Prop}{M:Model}{A:Around}{E:Value->Shared->Prop}{s:Shared}(h:wpAny M A t Q E s)(hQ:∀a s,Q a s->Q' a s):wpAny M A t Q' E s:=wpAny_mono h hQ λ _ _ x=>x
section
variable {X:Cx}
theorem bin {a b:Expr}{ta tb:TE}(ha:PE X a ta)(hb:PE X b tb){pins:List (Addr×Obj)}{s:Shared}{σ:St}{H:Hp}{R:V->V->Hp->Prop}(I:Inv X pins σ H s)(h:ta σ H λ x H1=>tb σ H1 λ y H2=>R x y H2)
 {α:Type} {Q:α->Shared->Prop} {f:Value->Value->Sem α}
 (hf:∀v u s2 x y H2,Inv X pins σ H2 s2->RelV x v->RelV y u->R x y H2->wpAny (model X.prog X.w) X.A (f v u) Q X.xe s2):
 wpAny (model X.prog X.w) X.A (eval a X.env) (λ v s₁=>wpAny (model X.prog X.w) X.A (eval b X.env) (λ u s₂=>wpAny (model X.prog X.w) X.A (f v u) Q X.xe s₂) X.xe s₁) X.xe s:=by
 refine AZ (ha pins s σ H _ I h) λ v s1 ⟨x,H1,I1,r1,q1⟩=>?_;refine AZ (hb pins s1 σ H1 _ I1 q1) λ u s2 ⟨y,H2,I2,r2,q2⟩=>?_;exact hf v u s2 x y H2 I2 r1 r2 q2
noncomputable def KU (i:Nat):TE:=λ σ H Q=>∃v,σ[i]?=some (some v)/\Q v H
noncomputable def tC (v:V):TE:=λ _ H Q=>Q v H
theorem Qn {i:Nat}{x:Str}{pos:Pos}(hN:X.N[i]?=some x)(hv:Tp X.env.scope x)(hd:(x==("__debug__" : Str))=false:=by decide)(aG:(x==("__classdict__" : Str))=false:=by decide):PE X (.Name x pos) (KU i):=by
 intro pins s σ H Q I h;obtain⟨v,e,h⟩:=h;obtain⟨m,hn,hl⟩:=I.loc;obtain⟨u,r,l⟩:=hl i x v hN e hv;have fin:EP X pins σ Q u s:=⟨v,H,I,r,h⟩;rcases l with ⟨hk,hm⟩|⟨hk,c,hc,aH⟩
 ·exact wpAny_Name (wpAny_loadName_local I.ok.kind hk hn hm fin) hd
 ·rcases hk with hk|hk
  ·exact wpAny_Name (wpAny_loadName_cell I.ok.kind hk hc aH fin) hd
  ·exact wpAny_Name (wpAny_loadName_free I.ok.kind hk hc aH fin aG) hd
theorem Qo {i j pos}:PE X (.Constant (.int i) j pos) (tC (.int i)):=λ _ _ _ H _ I h=>wpAny_Constant_int ⟨.int i,H,I.tok _,⟨_,rfl⟩,h⟩
theorem RV {b j pos}:PE X (.Constant (.bool b) j pos) (tC (.bl b)):=λ _ _ _ H _ I h=>Constant_bool ⟨.bl b,H,I,rfl,h⟩
theorem Qp {j pos}:PE X (.Constant .none j pos) (tC .Av):=λ _ _ _ H _ I h=>Constant_none ⟨.Av,H,I,rfl,h⟩
theorem Qq {x j pos}:PE X (.Constant (.str x) j pos) (tC (.str x)):=λ _ _ _ H _ I h=>Calls.Constant_str ⟨.str x,H,I.tok _,⟨_,rfl⟩,h⟩
def Gl (X:Cx)(x:Str):Prop:=X.env.kindOf x=some .globalImplicit
theorem K7 {E:Value->Shared->Prop}{pins:List (Addr×Obj)}{s:Shared}{σ:St}{H:Hp}{x:Str}{u:Value}{pos:Pos}{Q:Value->Shared->Prop}(I:Inv X pins σ H s)(hg:Gl X x)(hm:X.mg x=some u)(h:Q u s)
 (hd:(x==("__debug__" : Str))=false:=by decide):wpAny (model X.prog X.w) X.A (eval (.Name x pos) X.env) Q E s:=
 Calls.Name_function_global I.ok.kind hg (Calls.loadGlobal_global (by rw[I.ok.glob];exact I.mod.glob.keeps I.bk) hm h) hd
theorem Jm {E:Value->Shared->Prop}{pins:List (Addr×Obj)}{s:Shared}{σ:St}{H:Hp}{x:Str}{u:Value}{pos:Pos}{Q:Value->Shared->Prop}(I:Inv X pins σ H s)(hg:Gl X x)(hm:X.mg x=none)(hv:bootBuiltins x=some u)(h:Q u s)
 (hn:x ≠ "__name__" := by decide) (hd:(x==("__debug__" : Str))=false:=by decide):wpAny (model X.prog X.w) X.A (eval (.Name x pos) X.env) Q E s:=by
 obtain⟨mb,h1,h2⟩:=I.mod.blt;exact Calls.Name_function_global I.ok.kind hg (Calls.loadGlobal_builtin (by rw[I.ok.glob];exact I.mod.glob.keeps I.bk) hm (by rw[I.ok.blt];exact h1.keeps I.bk) ((h2 x hn).trans hv) h) hd
theorem O0 {x:Str}{v:V}{u:Value}{pos:Pos}(hg:Gl X x)(hm:X.mg x=none)(hv:bootBuiltins x=some u)(r:RelV v u)(hn:x ≠ "__name__" := by decide)(hd:(x==("__debug__" : Str))=false:=by decide):PE X (.Name x pos) (tC v):=
 λ _ _ _ H _ I h=>Jm I hg hm hv ⟨v,H,I,r,h⟩ hn hd
variable {a b:Expr}{ta tb:TE}{pos:Pos}
def PC (X:Cx)(op:CmpOp)(a b:Expr)(t:TE):Prop:=
 ∀(pins:List (Addr×Obj)) (s:Shared) (σ:St) (H:Hp) (Q:VK),Inv X pins σ H s->t σ H Q->
  wpAny (model X.prog X.w) X.A (eval a X.env) (λ v s₁=>wpAny (model X.prog X.w) X.A (eval b X.env) (λ u s₂=>wpAny (model X.prog X.w) X.A (compareOp op v u) (EP X pins σ Q) X.xe s₂) X.xe s₁) X.xe s
theorem Im (b:Expr){op:CmpOp}(h:op≠.In)(h2:op≠.NotIn):behindInMarks op b=false:=by
 have e1:(op==CmpOp.In)=false:=by cases op<;>first|rfl|exact absurd rfl h
 have e2:(op==CmpOp.NotIn)=false:=by cases op<;>first|rfl|exact absurd rfl h2
 cases b<;>simp[behindInMarks,e1,e2]
noncomputable def Tt (ta:TE):TE:=λ σ H Q=>ta σ H λ x H1=>Q (.bl (decide (x=.Av))) H1
noncomputable def RW (ta:TE):TE:=λ σ H Q=>ta σ H λ x H1=>Q (.bl (!decide (x=.Av))) H1
theorem RelV.Io {x:V}{v:Value}(r:RelV x v):(v==Value.none)=decide (x=.Av):=by
 cases x with
 |Av|bl _=>cases r;rfl
 |int _|str _|RJ _|T8 _=>obtain⟨t,rfl⟩:=r;rfl
 |ref _|ty _=>cases r;rfl
theorem LW {j pos'}(ha:PE X a ta):PC X .Is a (.Constant .none j pos') (Tt ta):=by
 intro pins s σ H Q I h;refine AZ (ha pins s σ H _ I h) λ v s1 ⟨x,H1,I1,r1,q1⟩=>?_;exact Constant_none (is_none_gen ⟨.bl _,H1,I1,by rw[r1.Io];rfl,q1⟩)
theorem O1 {j pos'}(ha:PE X a ta):PC X .IsNot a (.Constant .none j pos') (RW ta):=by
 intro pins s σ H Q I h;refine AZ (ha pins s σ H _ I h) λ v s1 ⟨x,H1,I1,r1,q1⟩=>?_;exact Constant_none (isnot_none_gen ⟨.bl _,H1,I1,by rw[r1.Io];rfl,q1⟩)
noncomputable def tB (t:TE):TT:=λ σ H Q=>t σ H λ x H1=>∃c,x=.bl c/\Q c H1
theorem Qr {op:CmpOp}{t:TE}(h:PC X op a b t)(h1:behindInMarks op b=false:=by first | exact Im _ (by decide) (by decide) | rfl):PE X (.Compare a [op] [b] pos) t:=λ pins s σ H Q I hw=>wpAny_Compare1 (h pins s σ H Q I hw) h1
theorem LX {op:CmpOp}{t:TE}(h:PC X op a b t)(h1:behindInMarks op b=false:=by first | exact Im _ (by decide) (by decide) | rfl):PT X (.Compare a [op] [b] pos) (tB t):=by
 intro pins s σ H Q I hw;refine wpAny_isTrue_Compare1 (AZ (h pins s σ H _ I hw) λ v s1 h1=>AZ h1 λ u s2 h2=>AZ h2 λ c s3 ⟨x,H1,I1,r1,q1⟩=>?_) h1;obtain⟨d,rfl,q⟩:=q1;cases r1;exact wpAny_truthy_bool ⟨H1,I1,q⟩
variable {tA ed:TT}{rest:List Expr}
noncomputable def V7 (t u:TT):TT:=λ σ H Q=>t σ H λ c H1=>if c=true then Q true H1 else u σ H1 Q
noncomputable def Tu (t:TT):TT:=λ σ H Q=>t σ H λ c H1=>Q (!c) H1
theorem pw_and1 (ha:PT X a tA):PW X (.BoolOp .And [a] pos) tA:=by
 intro wh pins s σ H Q I h;refine isTrue_and (AZ (ha pins s σ H Q I h) λ c s1 e=>?_);cases c with
 |true=>exact isTrue_and_nil e
 |false=>exact e
theorem pw_or1 (ha:PT X a tA):PW X (.BoolOp .Or [a] pos) tA:=by
 intro wh pins s σ H Q I h;refine isTrue_or (AZ (ha pins s σ H Q I h) λ c s1 e=>?_);cases c with
 |false=>exact isTrue_or_nil e
 |true=>exact e
theorem pw_or (ha:PT X a tA)(hb:PW X (.BoolOp .Or (b::rest) pos) ed):PW X (.BoolOp .Or (a::b::rest) pos) (V7 tA ed):=by
 intro wh pins s σ H Q I h;refine isTrue_or (AZ (ha pins s σ H _ I h) λ c s1 ⟨H1,I1,q1⟩=>?_);cases c with
 |true=>exact⟨H1,I1,q1⟩
 |false=>exact hb wh pins s1 σ H1 Q I1 q1
theorem Qs (ha:PT X a tA):PT X (.UnaryOp .Not a pos) (Tu tA):=by
 intro pins s σ H Q I h;exact isTrue_not (ha pins s σ H (λ c H1=>Q (!c) H1) I h)
noncomputable def RX (ta tb:TE):TE:=λ σ H Q=>ta σ H λ x H1=>∃c,x=.bl c/\if c=true then tb σ H1 Q else Q (.bl false) H1
noncomputable def Tv (ta tb:TE):TE:=λ σ H Q=>ta σ H λ x H1=>∃c,x=.bl c/\if c=true then Q (.bl true) H1 else tb σ H1 Q
noncomputable def RY (ta:TE):TE:=λ σ H Q=>ta σ H λ x H1=>∃c,x=.bl c/\Q (.bl (!c)) H1
theorem Qt {op}{t:TE}(h:PE X a t):PE X (.BoolOp op [a] pos) t:=λ pins s σ H Q I hw=>BoolOp_one (h pins s σ H Q I hw)
theorem Qu (ha:PE X a ta)(hb:PE X (.BoolOp .And (b::rest) pos) tb):PE X (.BoolOp .And (a::b::rest) pos) (RX ta tb):=by
 intro pins s σ H Q I h;refine BoolOp_and (AZ (ha pins s σ H _ I h) λ v s1 ⟨x,H1,I1,r1,q1⟩=>?_);obtain⟨c,rfl,q1⟩:=q1;cases r1;refine wpAny_truthy_bool ?_;cases c with
 |true=>exact hb pins s1 σ H1 Q I1 q1
 |false=>exact⟨.bl false,H1,I1,rfl,q1⟩
theorem RZ (ha:PE X a ta)(hb:PE X (.BoolOp .Or (b::rest) pos) tb):PE X (.BoolOp .Or (a::b::rest) pos) (Tv ta tb):=by
 intro pins s σ H Q I h;refine BoolOp_or (AZ (ha pins s σ H _ I h) λ v s1 ⟨x,H1,I1,r1,q1⟩=>?_);obtain⟨c,rfl,q1⟩:=q1;cases r1;refine wpAny_truthy_bool ?_;cases c with
 |false=>exact hb pins s1 σ H1 Q I1 q1
 |true=>exact⟨.bl true,H1,I1,rfl,q1⟩
theorem Qv (ha:PE X a ta):PE X (.UnaryOp .Not a pos) (RY ta):=by
 intro pins s σ H Q I h;refine UnaryOp_ (AZ (ha pins s σ H _ I h) λ v s1 ⟨x,H1,I1,r1,q1⟩=>?_);obtain⟨c,rfl,q1⟩:=q1;cases r1;exact not_of (wpAny_truthy_bool ⟨.bl (!c),H1,I1,rfl,q1⟩)
end
def D5 (K:za)(H:Hp)(a:Addr)(xs:List V):Prop:=
 Rd H a (.lst xs) \/
  ∃(o:Obj) (aa:Array Value) (n:Nat),K.lookup a=some o/\o.cls=.type "list" /\ o.dict=none/\o.data=.seq aa n/\aa.size<=sizeLine/\Vals xs aa.toList
def Fc (K:za)(H:Hp)(a:Addr)(xs:List V):Prop:=
 Rd H a (.tup xs) \/
  ∃(o:Obj) (aa:Array Value) (n:Nat),K.lookup a=some o/\o.cls=.type "tuple" /\ o.data=.seq aa n/\aa.size<=sizeLine/\Vals xs aa.toList
noncomputable def Tw:Value->Option V
 | .none=>some .Av
 | .bool b=>some (.bl b)
 | .int i _=>some (.int i)
 | .str x _=>some (.str x)
 | .bytes b _=>some (.RJ b)
 | .float b _=>some (.T8 b)
 | .ref a=>some (.ref a)
 | .type n=>some (.ty n)
 |_=>none
theorem RelV.abs {x:V}{u:Value}(r:RelV x u):Tw u=some x:=by
 cases x with
 |Av|bl _=>cases r;rfl
 |int _|str _|RJ _|T8 _=>obtain⟨t,rfl⟩:=r;rfl
 |ref _|ty _=>cases r;rfl
theorem RelV.inj {x y:V}{u:Value}(r:RelV x u)(q:RelV y u):x=y:=zB (r.abs.symm.trans q.abs)
theorem Vals.inj:∀ {xs ys:List V}{us:List Value},Vals xs us->Vals ys us->xs=ys
 |_,_,_,.nil,.nil=>rfl
 |_,_,_,.cons r t,.cons r' t'=>by rw[r.inj r',Vals.inj t t']
section
variable {X:Cx}{pins:List (Addr×Obj)}{σ:St}{H:Hp}{s:Shared}{a:Addr}{xs ys:List V}
theorem D5.of {K:za}(h:H a=some (.lst xs)):D5 K H a xs:=.inl (.inl h)
theorem Fc.of {K:za}(h:H a=some (.tup xs)):Fc K H a xs:=.inl (.inl h)
theorem Inv.list (I:Inv X pins σ H s)(h:D5 X.K H a xs):∃aa:List Value,Vals xs aa/\PlainL s.heap a aa.toArray/\xs.length<=sizeLine:=by
 rcases h with h|⟨o,aa,n,hk,hc,hd,hs,hz,r⟩
 ·obtain⟨z,aa,n,r,e⟩:=h.ok I.Az;exact⟨aa,r,⟨_,n,e,rfl,rfl,rfl⟩,z⟩
 ·refine⟨aa.toList,r,⟨o,n,I.K6 a o hk,hc,hd,by simpa using hs⟩,?_⟩;have e:=r.length;simp only[yp] at e;omega
theorem Inv.tuple (I:Inv X pins σ H s)(h:Fc X.K H a xs):∃aa:List Value,Vals xs aa/\IsTup s.heap a aa.toArray/\xs.length<=sizeLine:=by
 rcases h with h|⟨o,aa,n,hk,hc,hs,hz,r⟩
 ·obtain⟨z,aa,r,p⟩:=h.ok I.Az;exact⟨aa,r,p,z⟩
 ·refine⟨aa.toList,r,⟨o,I.K6 a o hk,hc,n,by simpa using hs⟩,?_⟩;have e:=r.length;simp only[yp] at e;omega
theorem Inv.Fd (I:Inv X pins σ H s)(h:D5 X.K H a xs)(h':D5 X.K H a ys):xs=ys:=by
 obtain⟨aa,r,⟨o,n,e,_,_,d⟩,_⟩:=I.list h;obtain⟨its',r',⟨o',n',e',_,_,d'⟩,_⟩:=I.list h';rw[e] at e';cases e';rw[d] at d';injection d' with d1 _
 have:aa=its':=by simpa using congrArg Array.toList d1
 subst this;exact r.inj r'
theorem Inv.Eo (I:Inv X pins σ H s)(h:Fc X.K H a xs)(h':Fc X.K H a ys):xs=ys:=by
 obtain⟨aa,r,⟨o,e,_,n,d⟩,_⟩:=I.tuple h;obtain⟨its',r',⟨o',e',_,n',d'⟩,_⟩:=I.tuple h';rw[e] at e';cases e';rw[d] at d';injection d' with d1 _
 have:aa=its':=by simpa using congrArg Array.toList d1
 subst this;exact r.inj r'
end
noncomputable abbrev Cx.Gh (X:Cx)(E:Value->Shared->Prop):Cx:={X with xe:=E}
noncomputable abbrev Cx.S0 (X:Cx):Cx:=X.Gh λ _ _=>False
theorem Cx.Ok.Gh {X:Cx}(ok:X.Ok)(E:Value->Shared->Prop):(X.Gh E).Ok:=
 ⟨ok.mod,ok.kind,ok.glob,ok.blt,ok.above,ok.inj,ok.has,ok.RU,ok.hd,ok.frames,ok.PP,ok.Tc,ok.bs,ok.PQ,ok.LU,ok.LV,ok.En,ok.RK⟩
theorem Cx.Ok.CH {X:Cx}{E:Value->Shared->Prop}(ok:(X.Gh E).Ok):X.Ok:=
 ⟨ok.mod,ok.kind,ok.glob,ok.blt,ok.above,ok.inj,ok.has,ok.RU,ok.hd,ok.frames,ok.PP,ok.Tc,ok.bs,ok.PQ,ok.LU,ok.LV,ok.En,ok.RK⟩
section
variable {X:Cx}{pins:List (Addr×Obj)}{σ:St}{H:Hp}{s:Shared}{E:Value->Shared->Prop}
theorem Inv.Gh (I:Inv X pins σ H s)(E:Value->Shared->Prop):Inv (X.Gh E) pins σ H s:=⟨I.ok.Gh E,I.os,I.bare,I.base,I.loc,I.cell,I.free,I.CG,I.pin,I.Az,I.len⟩
theorem Inv.CH (I:Inv (X.Gh E) pins σ H s):Inv X pins σ H s:=⟨I.ok.CH,I.os,I.bare,I.base,I.loc,I.cell,I.free,I.CG,I.pin,I.Az,I.len⟩
theorem SP.CH {D:Ends}{f:Flow}{s':Shared}(h:SP (X.Gh E) pins D f s'):SP X pins D f s':=by
 cases f with
 |next|brk|cont=>obtain⟨σ',H',I,q⟩:=h;exact⟨σ',H',I.CH,q⟩
 |ret u=>obtain⟨v,σ',H',I,r,q⟩:=h;exact⟨v,σ',H',I.CH,r,q⟩
theorem KS.S0 {st:List Stmt}{t:TS}(h:KS X.S0 st t):KS X st t:=λ pins s σ H D I hw =>
 wpAny_mono (h pins s σ H D (I.Gh _) hw) (λ _ _ q=>q.CH) λ _ _ z=>False.elim z
end
section
variable {X:Cx}{st:Stmt}{rest:List Stmt}{t u:TS}{e:Expr}{te:TE}{pos:Pos}
noncomputable def S1:TS:=λ D σ H=>D.nx σ H
noncomputable def Tx (t u:TS):TS:=λ D σ H=>t {D with nx:=u D} σ H
theorem O2:KS X [] S1:=λ _ _ σ H _ I h=>wpAny_execs_nil ⟨σ,H,I,h⟩
theorem LY (h1:PS X st t)(h2:KS X rest u):KS X (st::rest) (Tx t u):=by
 intro pins s σ H D I h;refine wpAny_execs_cons (AZ (h1 pins s σ H {D with nx:=u D} I h) λ f s1 q=>?_);cases f with
 |next =>
  obtain⟨σ',H',I',q⟩:=q;exact h2 pins s1 σ' H' D I' q
 |ret v|brk|cont=>exact q
theorem O3 (h1:PS X st t):KS X [st] t:=by
 intro pins s σ H D I h;refine wpAny_execs_cons (AZ (h1 pins s σ H D I h) λ f s1 q=>?_);cases f with
 |next=>exact wpAny_execs_nil q
 |ret v|brk|cont=>exact q
theorem Inv.quiet {pins:List (Addr×Obj)}{σ:St}{H:Hp}{s:Shared}(I:Inv X pins σ H s):interactive X.env=false:=by simp[interactive,I.ok.kind]
noncomputable def S2 (te:TE):TS:=λ D σ H=>te σ H λ _ H1=>D.nx σ H1
theorem K8 (he:PE X e te)(hs:swapsWith e none pos.line X.env=pure false:=by rfl):PS X (.Expr e pos) (S2 te):=by
 intro pins s σ H D I h;exact wpAny_Expr_any (AZ (he pins s σ H _ I h) λ v s1 ⟨x,H1,I1,r1,q1⟩=>⟨σ,H1,I1,q1⟩) I.quiet hs
noncomputable def Tz (te:TE):TS:=λ D σ H=>te σ H D.rt
theorem Jn (he:PE X e te):PS X (.Return (some e) pos) (Tz te):=by
 intro pins s σ H D I h;exact wpAny_Return_some (AZ (he pins s σ H _ I h) λ v s1 ⟨x,H1,I1,r1,q1⟩=>⟨x,σ,H1,I1,r1,q1⟩)
noncomputable def TB (c:TT)(t u:TS):TS:=λ D σ H=>c σ H λ b H1=>if b=true then t D σ H1 else u D σ H1
theorem S3 {c:Expr}{a b:List Stmt}{tc:TT}(hc:PT X c tc)(ha:KS X a t)(hb:KS X b u):PS X (.If c a b pos) (TB tc t u):=by
 intro pins s σ H D I h;refine wpAny_If (AZ (hc pins s σ H _ I h) λ d s1 ⟨H1,I1,q1⟩=>?_);cases d with
 |true=>exact ha pins s1 σ H1 D I1 q1
 |false=>exact hb pins s1 σ H1 D I1 q1
end
noncomputable abbrev TG:=V->St->Hp->(St->Hp->Prop)->Prop
noncomputable abbrev PV:=List V->St->Hp->(St->Hp->Prop)->Prop
def PG (X:Cx)(target:Expr)(t:TG):Prop:=
 ∀(pins:List (Addr×Obj)) (s:Shared) (σ:St) (H:Hp) (v:V) (u:Value) (Q:St->Hp->Prop),Inv X pins σ H s->RelV v u->t v σ H Q->
  wpAny (model X.prog X.w) X.A (assign target X.env u) (λ _ s'=>∃σ' H',Inv X pins σ' H' s'/\Q σ' H') X.xe s
def S4 (X:Cx)(ts:List Expr)(t:PV):Prop:=
 ∀(pins:List (Addr×Obj)) (s:Shared) (σ:St) (H:Hp) (vs:List V) (us:List Value) (Q:St->Hp->Prop),Inv X pins σ H s->Vals vs us->t vs σ H Q->
  wpAny (model X.prog X.w) X.A (assignInOrder ((assignEach ts X.env).map (·.2)) us) (λ _ s'=>∃σ' H',Inv X pins σ' H' s'/\Q σ' H') X.xe s
section
variable {X:Cx}{pos:Pos}
noncomputable def K9 (i:Nat):TG:=λ v σ H Q=>Q (σ.set i (some v)) H
theorem Ka {i:Nat}{x:Str}(hN:X.N.Nodup)(hi:X.N[i]?=some x)(hx:Loc X.env.scope x)(hf:X.fn x=true\/X.env.scope.names.lookup x=some .local:=by first | exact .inl rfl | exact .inr rfl | assumption):PG X (.Name x pos) (K9 i):=by
 intro pins s σ H v u Q I r h;exact wpAny_assign_Name (Il I hN hi hx r (λ s' I'=>⟨_,H,I',h⟩) hf)
noncomputable def TC:PV:=λ vs σ H Q=>vs=[]/\Q σ H
noncomputable def S5 (t:TG)(u:PV):PV:=λ vs σ H Q=>∃v r,vs=v::r/\t v σ H λ σ' H'=>u r σ' H' Q
theorem O4:S4 X [] TC:=by
 intro pins s σ H vs us Q I r h;obtain⟨e,h⟩:=h;subst e;cases r;exact assignInOrder_nil ⟨σ,H,I,h⟩
theorem LZ {e:Expr}{es:List Expr}{t:TG}{u:PV}(h1:PG X e t)(h2:S4 X es u)
 (hs:(assignEach (e::es) X.env).map (·.2)=assign e X.env::(assignEach es X.env).map (·.2):=by rfl):S4 X (e::es) (S5 t u):=by
 intro pins s σ H vs us Q I r h;obtain⟨v,vr,e1,h⟩:=h;subst e1;cases r with
 |cons r rr =>
  rw[hs];refine assignInOrder_cons (AZ (h1 pins s σ H _ _ _ I r h) λ _ s1 ⟨σ1,H1,I1,q1⟩=>?_);exact h2 pins s1 σ1 H1 _ _ Q I1 rr q1
noncomputable def TF (K:za)(n:Nat)(t:PV):TG:=λ v σ H Q=>∃a xs,v=.ref a/\Fc K H a xs/\xs.length=n/\t xs σ H Q
theorem Qw {es:List Expr}{k:Nat}{t:PV}{n:Nat}(hc:X.calm=true)(h:S4 X es t)
 (hn:(assignEach es X.env).length=n:=by rfl) (bE:(assignEach es X.env).findIdx? (·.1)=none:=by rfl):PG X (.Tuple es k pos) (TF X.K n t):=by
 intro pins s σ H v u Q I r hw;obtain⟨a,xs,e1,hq,hl,hw⟩:=hw;subst e1;cases r;obtain⟨aa,rv,ht,hz⟩:=I.tuple hq;refine assign_Tuple_tuple (I.ok.hd hc) ht (by simp[hn,<-hl,rv.length]) bE λ h' hx=>?_;have I1:Inv X pins σ H {s with heap:=h' }:=I.kept (t':=s.toks) λ b o e=>hx b o (zG (zl e)) e;exact h pins _ σ H xs _ Q I1 (by simpa using rv) hw
noncomputable def TH (te:TE)(g:TG):TS:=λ D σ H=>te σ H λ x H1=>g x σ H1 D.nx
theorem M0 {i:Nat}{x:Str}{e:Expr}{te:TE}{pos':Pos}(hN:X.N.Nodup)(hi:X.N[i]?=some x)(hx:Loc X.env.scope x)(he:PE X e te)(hs:swapsWith e (some (.Name x pos')) pos.line X.env=pure false:=by rfl)(hf:X.fn x=true\/X.env.scope.names.lookup x=some .local:=by first | exact .inl rfl | exact .inr rfl | assumption):
 PS X (.Assign [.Name x pos'] e pos) (TH te (K9 i)):=by
 intro pins s σ H D I h;refine wpAny_Assign_Name (AZ (he pins s σ H _ I h) λ v s1 ⟨y,H1,I1,r1,q1⟩=>?_) hs;exact Il I1 hN hi hx r1 (λ s2 I2=>⟨_,H1,I2,q1⟩) hf
end
structure It where
 go:Nat->Hp->Prop
 Qx:Nat->Hp->V->Hp->Prop
 stop:Nat->Hp->Prop
def Gi (X:Cx)(pins:List (Addr×Obj))(H:Hp)(b:Addr):Prop:=
 H b=none/\b≠X.env.locals/\b∉X.fs/\(b∈X.ex\/X.s₀.heap.objs.size<=b)/\(∀x c,X.env.cells.lookup x=some c->c≠b)/\∀p∈X.pn++pins,p.1≠b
theorem Inv.Qy {X:Cx}{pins:List (Addr×Obj)}{σ:St}{H H':Hp}{s:Shared}{b:Addr}(I:Inv X pins σ H s)(hb:s.heap.objs.size<=b)(hn:H' b=none):Gi X pins H' b:=by
 refine⟨hn,Nat.ne_of_gt (zr I.lt hb),I.Ts hb,.inr (z9 I.sz hb),λ x c e z=>?_,λ p hp z=>?_⟩
 ·obtain⟨v,q⟩:=I.cell x c e;exact absurd (zr q.lt (by rw[z];exact hb)) (Nat.lt_irrefl _)
 ·exact absurd (zr (zl (I.pin p hp).1) (by rw[z];exact hb)) (Nat.lt_irrefl _)
structure Turn (P:Program)(w:World)(K:za)(tg:Expr)(J:It)(fp:List Addr)(it:Addr)(tn:Nat->Heap->Prop):Prop where
 mem:it∈fp
 obj:∀i h,tn i h->∀b∈fp,∃o,h.get? b=some o/\∀v,o.data≠.cell v
 keep:∀i h h',tn i h->(∀b∈fp,∀o,h.get? b=some o->h'.get? b=some o)->tn i h'
 item:∀(X:Cx),X.prog=P->X.w=w->X.K=K->X.calm=true->∀(i:Nat) (pins:List (Addr×Obj)) (s:Shared) (σ:St) (H:Hp) (E:Value->Shared->Prop),Inv X pins σ H s->(∀b∈fp,Gi X pins H b)->tn i s.heap->J.go i H->
  wpAny (model P w) X.A (pyNext (.ref it)) (λ r s1=>∃u,r=some u/\
   wpAny (model P w) X.A (letOwnedTupleGo tg (.ref it) u) (λ _ s2=>∃x H',Inv X pins σ H' s2/\RelV x u/\J.Qx i H x H'/\tn (i+1) s2.heap/\∀b∈fp,H' b=none) E s1) E s
 done:∀(X:Cx),X.prog=P->X.w=w->X.K=K->X.calm=true->∀(i:Nat) (pins:List (Addr×Obj)) (s:Shared) (σ:St) (H:Hp) (E:Value->Shared->Prop),Inv X pins σ H s->(∀b∈fp,Gi X pins H b)->tn i s.heap->J.stop i H->
  wpAny (model P w) X.A (pyNext (.ref it)) (λ r s1=>r=none/\Inv X pins σ H s1) E s
 self:∀(A:Around) (i:Nat) (s:Shared) (Q:Value->Shared->Prop) (E:Value->Shared->Prop),tn i s.heap->Q (.ref it) s->wpAny (model P w) A (pyIter (.ref it)) Q E s
noncomputable abbrev TI:=St->Hp->(It->Hp->Prop)->Prop
def V8 (X:Cx)(pins:List (Addr×Obj))(σ:St)(tg:Expr)(R:It->Hp->Prop)(cP:Value)(s2:Shared):Prop:=
 ∃(it:Addr) (fp:List Addr) (tn:Nat->Heap->Prop) (J:It) (H':Hp),cP=.ref it/\Inv X pins σ H' s2/\Turn X.prog X.w X.K tg J fp it tn/\tn 0 s2.heap/\(∀b∈fp,Gi X pins H' b)/\R J H'
def PI (X:Cx)(tg iter:Expr)(wi:TI):Prop:=
 ∀(pins:List (Addr×Obj)) (s:Shared) (σ:St) (H:Hp) (R:It->Hp->Prop),Inv X pins σ H s->wi σ H R->
  wpAny (model X.prog X.w) X.A (eval iter X.env) (λ v s1=>wpAny (model X.prog X.w) X.A (pyIter v) (V8 X pins σ tg R) X.xe s1) X.xe s
theorem M1 {M:Model}{A:Around}{E:Value->Shared->Prop}{s:Shared}{tg:Expr}{it:Addr}{u:Value}{o:Obj}{n:String}{vs:Array Value}{Q:Unit->Shared->Prop}(ho:s.heap.get? it=some o)(hc:o.cls=.type n)(hd:o.data=.fields vs)
 (hn:["enumerate","zip","dict_itemiterator","dict_reverseitemiterator","odict_iterator","itertools.zip_longest","itertools.pairwise"].contains n=false) (hQ:Q () s):wpAny M A (letOwnedTupleGo tg (.ref it) u) Q E s:=by
 unfold letOwnedTupleGo;cases tg<;>first
  |exact wpAny_pure hQ
  |(cases u<;>first
   |exact wpAny_pure hQ
   |(
    refine wpAny_bind (wpAny_load ho ?_);rw[hc,hd];show wpAny M A (if (["enumerate","zip","dict_itemiterator","dict_reverseitemiterator","odict_iterator","itertools.zip_longest","itertools.pairwise"].contains n&&vs[0]?== some (rawInt _))=true then _ else _) Q E s;rw[if_neg (by intro h;rw[hn,Bool.false_and] at h;cases h)];exact wpAny_pure hQ))
noncomputable def UE (K:za)(a:Addr):It:=
 ⟨λ i H=>∃xs x,D5 K H a xs/\xs[i]?=some x,λ i H x H'=>H'=H/\∀xs,D5 K H a xs->xs[i]?=some x,λ i H=>∃xs,D5 K H a xs/\xs.length<=i⟩
noncomputable def UG (K:za)(a:Addr):It:=
 ⟨λ i H=>∃xs x,Fc K H a xs/\xs[i]?=some x,λ i H x H'=>H'=H/\∀xs,Fc K H a xs->xs[i]?=some x,λ i H=>∃xs,Fc K H a xs/\xs.length<=i⟩
theorem KW {P:Program}{w:World}{K:za}{tg:Expr}(a it:Addr):Turn P w K tg (UE K a) [it] it (λ i h=>h.IsListIter it a i) where
 mem:=by simp
 obj:=λ i h st b hb=>by
  have e:b=it:=by simpa using hb
  subst e;obtain⟨o,e,c,d⟩:=st;exact⟨o,e,λ v z=>by rw[d] at z;cases z⟩
 keep:=λ i h h' st k=>st.at λ o e=>k it (by simp) o e
 item:=by
  intro X hP hw hK hc i pins s σ H E I hf st hg;subst hP hw hK;obtain⟨xs,x,hq,hx⟩:=hg;obtain⟨aa,rv,p,hz⟩:=I.list hq;obtain⟨u,hu,ru⟩:=rv.get hx;obtain⟨f0,f1,f2,f3,f4,f5⟩:=hf it (by simp);refine wpAny_pyNext_list_item st p.isList (x:=u) (by simpa using hu) λ h' ba sb=>?_;have I1:Inv X pins σ H {s with heap:=h' }:=I.turned (t':=s.toks) (λ b o hb e=>(sb.2 b hb).trans e) f0 f1 f3 f4 f5;obtain⟨o,e,c,d⟩:=id ba;exact⟨u,rfl,M1 (s:={s with heap:=h' }) e c d (by decide) ⟨x,H,I1,ru,⟨rfl,λ ys hy=>by rw[I.Fd hy hq];exact hx⟩,ba,λ b hb=>(hf b hb).1⟩⟩
 done:=by
  intro X hP hw hK hc i pins s σ H E I hf st hg;subst hP hw hK;obtain⟨xs,hq,hx⟩:=hg;obtain⟨aa,rv,p,hz⟩:=I.list hq;obtain⟨f0,f1,f2,f3,f4,f5⟩:=hf it (by simp);have hl:=rv.length;exact wpAny_pyNext_list_end (I.ok.hd hc) st p.isList (by simp;omega) λ h' eb=>⟨rfl,I.turned (t':=s.toks) (λ b o hb e=>eb b o hb e) f0 f1 f3 f4 f5⟩
 self:=λ _ _ _ _ _ st h=>wpAny_pyIter_listiter st h
theorem Jo {P:Program}{w:World}{K:za}{tg:Expr}(a it:Addr):Turn P w K tg (UG K a) [it] it (λ i h=>h.IsTupleIter it a i) where
 mem:=by simp
 obj:=λ i h st b hb=>by
  have e:b=it:=by simpa using hb
  subst e;obtain⟨o,e,c,d⟩:=st;exact⟨o,e,λ v z=>by rw[d] at z;cases z⟩
 keep:=λ i h h' st k=>st.at λ o e=>k it (by simp) o e
 item:=by
  intro X hP hw hK hc i pins s σ H E I hf st hg;subst hP hw hK;obtain⟨xs,x,hq,hx⟩:=hg;obtain⟨aa,rv,p,hz⟩:=I.tuple hq;obtain⟨u,hu,ru⟩:=rv.get hx;obtain⟨f0,f1,f2,f3,f4,f5⟩:=hf it (by simp);refine wpAny_pyNext_tuple_item st (show s.heap.IsTuple a aa.toArray from p) (x:=u) (by simpa using hu) λ h' ba sb=>?_;have I1:Inv X pins σ H {s with heap:=h' }:=I.turned (t':=s.toks) (λ b o hb e=>(sb.2 b hb).trans e) f0 f1 f3 f4 f5;obtain⟨o,e,c,d⟩:=id ba;exact⟨u,rfl,M1 (s:={s with heap:=h' }) e c d (by decide) ⟨x,H,I1,ru,⟨rfl,λ ys hy=>by rw[I.Eo hy hq];exact hx⟩,ba,λ b hb=>(hf b hb).1⟩⟩
 done:=by
  intro X hP hw hK hc i pins s σ H E I hf st hg;subst hP hw hK;obtain⟨xs,hq,hx⟩:=hg;obtain⟨aa,rv,p,hz⟩:=I.tuple hq;obtain⟨f0,f1,f2,f3,f4,f5⟩:=hf it (by simp);have hl:=rv.length;exact wpAny_pyNext_tuple_end (I.ok.hd hc) st (show s.heap.IsTuple a aa.toArray from p) (by simp;omega) λ h' eb=>⟨rfl,I.turned (t':=s.toks) (λ b o hb e=>eb b o hb e) f0 f1 f3 f4 f5⟩
 self:=λ _ _ _ _ _ st h=>wpAny_pyIter_tupleiter st h
section
variable {X:Cx}{tg:Expr}
noncomputable def S6 (K:za)(tl:TE):TI:=λ σ H R=>tl σ H λ x H1=>∃a,x=.ref a/\(∃xs,D5 K H1 a xs)/\R (UE K a) H1
noncomputable def TJ (K:za)(tl:TE):TI:=λ σ H R=>tl σ H λ x H1=>∃a,x=.ref a/\(∃xs,Fc K H1 a xs)/\R (UG K a) H1
theorem Kb {l:Expr}{tl:TE}(hl:PE X l tl):PI X tg l (S6 X.K tl):=by
 intro pins s σ H R I h;refine AZ (hl pins s σ H _ I h) λ v s1 ⟨x,H1,I1,r1,q1⟩=>?_;obtain⟨a,e,⟨xs,hq⟩,q⟩:=q1;subst e;cases r1;obtain⟨aa,rv,p,hz⟩:=I1.list hq;refine wpAny_pyIter_list p.isList ?_;refine⟨s1.heap.objs.size,[s1.heap.objs.size],_,_,H1,rfl,I1.kept (t':=s1.toks) λ b o e=>zy _ e,KW a _,⟨_,zF _ rfl,rfl,rfl⟩,λ b hb=>?_,q⟩;have e:b=s1.heap.objs.size:=by simpa using hb
 subst e;exact I1.Qy (zp _) (I1.Az.fresh (zp _))
theorem Qz {l:Expr}{tl:TE}(hl:PE X l tl):PI X tg l (TJ X.K tl):=by
 intro pins s σ H R I h;refine AZ (hl pins s σ H _ I h) λ v s1 ⟨x,H1,I1,r1,q1⟩=>?_;obtain⟨a,e,⟨xs,hq⟩,q⟩:=q1;subst e;cases r1;obtain⟨aa,rv,p,hz⟩:=I1.tuple hq;refine wpAny_pyIter_tuple (show s1.heap.IsTuple a aa.toArray from p) ?_;refine⟨s1.heap.objs.size,[s1.heap.objs.size],_,_,H1,rfl,I1.kept (t':=s1.toks) λ b o e=>zy _ e,Jo a _,⟨_,zF _ rfl,rfl,rfl⟩,λ b hb=>?_,q⟩;have e:b=s1.heap.objs.size:=by simpa using hb
 subst e;exact I1.Qy (zp _) (I1.Az.fresh (zp _))
noncomputable def TK (wi:TI)(g:TG)(tb:TS):TS:=λ D σ H=>wi σ H λ J H1=>∃W:Nat->Nat->St->Hp->Prop,(∃m,W 0 m σ H1)/\∀i m σ H,W i m σ H->
 (J.stop i H/\D.nx σ H)\/(J.go i H/\∃N:St->Hp->Prop,(∀σ' H',N σ' H'->∃m',m'<m/\W (i+1) m' σ' H')/\∀x H',J.Qx i H x H'->g x σ H' λ σ2 H2=>tb {D with nx:=N,ct:=N,bk:=D.nx} σ2 H2)
noncomputable def Dv (fp:List Addr)(h:Heap):List (Addr×Obj):=fp.filterMap λ b=>(h.get? b).map λ o=>(b,o)
theorem Cd {fp:List Addr}{h:Heap}{b:Addr}{o:Obj}(hb:b∈fp)(e:h.get? b=some o):(b,o)∈Dv fp h:=List.mem_filterMap.mpr ⟨b,hb,by rw[e];rfl⟩
theorem GC {fp:List Addr}{h:Heap}{p:Addr×Obj}(hp:p∈Dv fp h):p.1∈fp/\h.get? p.1=some p.2:=by
 obtain⟨b,hb,e⟩:=List.mem_filterMap.mp hp;cases q:h.get? b with
 |none=>rw[q] at e;cases e
 |some o =>
  rw[q] at e;have e':(b,o)=p:=zB e;subst e';exact⟨hb,q⟩
theorem Inv.pinned {pins:List (Addr×Obj)}{σ:St}{H:Hp}{s:Shared}{fp:List Addr}(I:Inv X pins σ H s)(hf:∀b∈fp,Gi X pins H b)(ho:∀b∈fp,∃o,s.heap.get? b=some o/\∀v,o.data≠.cell v):Inv X (pins++Dv fp s.heap) σ H s:=
 I.DQ λ p hp=>(zx.mp hp).elim (λ z=>I.pin p (zf _ z)) λ z=>by
  obtain⟨hb,e⟩:=GC z;obtain⟨f0,f1,f2,_⟩:=hf p.1 hb;obtain⟨o,e',d⟩:=ho p.1 hb;rw[e] at e';cases e';exact⟨e,f0,f1,f2,d⟩
theorem Inv.DR {pins pl:List (Addr×Obj)}{σ:St}{H:Hp}{s:Shared}(I:Inv X (pins++pl) σ H s):Inv X pins σ H s:=I.DQ λ p hp=>I.pin p (zf _ (zu _ hp))
theorem M2 {iter:Expr}{body:List Stmt}{wi:TI}{g:TG}{tb:TS}{pos:Pos}(hp:PassesOwn (model X.prog X.w) X.A X.env X.xe)(hc:X.calm=true)(hi:PI X tg iter wi)(hg:PG X tg g)(hb:KS X body tb)
 (hs:∀x,foldedSetIterable iter X.env x=pure x:=by intro _;rfl):PS X (.For tg iter body [] pos) (TK wi g tb):=by
 intro pins s σ H D I h;refine wpAny_For (AZ (hi pins s σ H _ I h) λ v s1 h1=>AZ h1 λ cP s2 h2=>?_) hs;obtain⟨it,fp,tn,J,H2,e,I2,T,bu,f2,W,⟨m0,w0⟩,turn⟩:=h2;subst e;have aA:∀ {H':Hp},(∀b∈fp,H' b=none)->∀b∈fp,Gi X pins H' b:=λ hn b hb=>⟨hn b hb,(f2 b hb).2⟩;refine codeAny_forLoop_any (λ n s'=>∃i σ' H',Inv X pins σ' H' s'/\tn i s'.heap/\(∀b∈fp,H' b=none)/\W i n σ' H') ?_ m0 ⟨0,σ,H2,I2,bu,λ b hb=>(f2 b hb).1,w0⟩;rintro n s3 ⟨i,σ3,H3,I3,bQ,bR,w3⟩;rcases turn i n σ3 H3 w3 with ⟨stop,qn⟩|⟨go,N,hN,step⟩
 ·refine wpAny_passesOwn hp (AZ (T.done X rfl rfl rfl hc i pins s3 σ3 H3 X.xe I3 (aA bR) bQ stop) λ r s4 ⟨hr,I4⟩=>?_);subst hr;exact wpAny_execs_nil ⟨σ3,H3,I4,qn⟩
 ·refine wpAny_passesOwn hp (AZ (T.item X rfl rfl rfl hc i pins s3 σ3 H3 X.xe I3 (aA bR) bQ go) λ r s4 ⟨u,hr,h4⟩=>?_);subst hr;refine wpAny_passesOwn hp (AZ h4 λ _ s5 ⟨x,H5,I5,r5,y5,bv,cQ⟩=>?_);have cR:=I5.pinned (aA cQ) (T.obj _ _ bv);refine wpAny_passesOwn hp (AZ (hg _ s5 σ3 H5 x u _ cR r5 (step x H5 y5)) λ _ s6 ⟨σ6,H6,I6,q6⟩=>?_);refine wpAny_passesOwn hp (AZ (hb _ s6 σ6 H6 _ I6 q6) λ f s7 q7=>?_);have again:∀ {σ7:St} {H7:Hp},Inv X (pins++Dv fp s5.heap) σ7 H7 s7->N σ7 H7->∃m,m<n/\∃i σ' H',Inv X pins σ' H' s7/\tn i s7.heap/\(∀b∈fp,H' b=none)/\W i m σ' H':=fun {σ7 H7} I7 n7=>by
   obtain⟨m',hm,w7⟩:=hN σ7 H7 n7;refine⟨m',hm,i+1,σ7,H7,I7.DR,T.keep _ _ _ bv λ b hb o e=>(I7.pin (b,o) (zf _ (zf _ (Cd hb e)))).1,λ b hb=>?_,w7⟩;obtain⟨o,e,d⟩:=T.obj _ _ bv b hb;exact (I7.pin (b,o) (zf _ (zf _ (Cd hb e)))).2.1
  cases f with
  |next|cont=>obtain⟨σ7,H7,I7,n7⟩:=q7;exact again I7 n7
  |brk=>obtain⟨σ7,H7,I7,q7⟩:=q7;exact⟨σ7,H7,I7.DR,q7⟩
  |ret v=>obtain⟨x7,σ7,H7,I7,r7,q7⟩:=q7;exact⟨x7,σ7,H7,I7.DR,r7,q7⟩
end
noncomputable abbrev R2:=V->V->Hp->VK->Prop
def Dw (X:Cx)(f:Value->Value->Sem Value)(r:R2):Prop:=
 ∀(pins:List (Addr×Obj)) (s:Shared) (σ:St) (H:Hp) (x y:V) (v u:Value) (Q:VK),Inv X pins σ H s->RelV x v->RelV y u->r x y H Q->
  wpAny (model X.prog X.w) X.A (f v u) (EP X pins σ Q) X.xe s
def TL (X:Cx)(f:Value->Sem Value)(r:V->Hp->VK->Prop):Prop:=
 ∀(pins:List (Addr×Obj)) (s:Shared) (σ:St) (H:Hp) (x:V) (v:Value) (Q:VK),Inv X pins σ H s->RelV x v->r x H Q->
  wpAny (model X.prog X.w) X.A (f v) (EP X pins σ Q) X.xe s
def CI (X:Cx)(f:Value)(r:List V->Hp->VK->Prop):Prop:=
 ∀(pins:List (Addr×Obj)) (s:Shared) (σ:St) (H:Hp) (xs:List V) (us:List Value) (Q:VK),Inv X pins σ H s->Vals xs us->r xs H Q->
  wpAny (model X.prog X.w) X.A (call f us) (EP X pins σ Q) X.xe s
def TM (X:Cx)(r:V->Hp->(Bool->Hp->Prop)->Prop):Prop:=
 ∀(pins:List (Addr×Obj)) (s:Shared) (σ:St) (H:Hp) (x:V) (v:Value) (Q:Bool->Hp->Prop),Inv X pins σ H s->RelV x v->r x H Q->
  wpAny (model X.prog X.w) X.A (truthy v) (TP X pins σ Q) X.xe s
noncomputable def QA (r:R2)(ta tb:TE):TE:=λ σ H Q=>ta σ H λ x H1=>tb σ H1 λ y H2=>r x y H2 Q
noncomputable def V9 (r:V->Hp->VK->Prop)(ta:TE):TE:=λ σ H Q=>ta σ H λ x H1=>r x H1 Q
noncomputable def rI (C:Int->Int->Prop)(g:Int->Int->V):R2:=λ x y H Q=>∃i j,x=.int i/\y=.int j/\C i j/\Q (g i j) H
noncomputable def LL (g:Int->Int->V):R2:=λ x y H Q=>∃i j,x=.int i/\y=.int j/\Q (g i j) H
def rU (g:Int->V):V->Hp->VK->Prop:=λ x H Q=>∃i,x=.int i/\Q (g i) H
section
variable {X:Cx}{a b c:Expr}{ta tb tc:TE}{pos:Pos}
theorem O5 (ha:PE X a ta)(hb:PE X b tb){pins:List (Addr×Obj)}{s:Shared}{σ:St}{H:Hp}{R:V->V->Hp->Prop}(I:Inv X pins σ H s)
 (h:ta σ H λ x H1=>tb σ H1 λ y H2=>R x y H2) {Q:Value->Shared->Prop} {f:Value->Value->Sem Value}
 (hf:∀v u s2 x y H2,Inv X pins σ H2 s2->RelV x v->RelV y u->R x y H2->wpAny (model X.prog X.w) X.A (f v u) Q X.xe s2):
 wpAny (model X.prog X.w) X.A (eval a X.env) (λ v s₁=>wpAny (model X.prog X.w) X.A (eval b X.env) (λ u s₂=>wpAny (model X.prog X.w) X.A (f v u) Q X.xe s₂) X.xe s₁) X.xe s:=by
 refine AZ (ha pins s σ H _ I h) λ v s1 ⟨x,H1,I1,r1,q1⟩=>?_;refine AZ (hb pins s1 σ H1 _ I1 q1) λ u s2 ⟨y,H2,I2,r2,q2⟩=>?_;exact hf v u s2 x y H2 I2 r1 r2 q2
theorem PX {op:Operator}{r:R2}(ho:Dw X (binaryOp op) r)(ha:PE X a ta)(hb:PE X b tb):PE X (.BinOp a op b pos) (QA r ta tb):=by
 intro pins s σ H Q I h;exact wpAny_BinOp (O5 ha hb I h λ v u s2 x y H2 I2 rx ry q=>ho pins s2 σ H2 x y v u Q I2 rx ry q)
theorem S7 {op:UnaryOp}{r:V->Hp->VK->Prop}(ho:TL X (unaryOp op) r)(ha:PE X a ta):PE X (.UnaryOp op a pos) (V9 r ta):=by
 intro pins s σ H Q I h;exact UnaryOp_ (AZ (ha pins s σ H _ I h) λ v s1 ⟨x,H1,I1,r1,q1⟩=>ho pins s1 σ H1 x v Q I1 r1 q1)
theorem Td {f:Value->Value->Sem Value}{C:Int->Int->Prop}{g:Int->Int->Int}
 (rule:∀(i j:Int) (t u:Tok) (s:Shared) (Q:Value->Shared->Prop) (E:Value->Shared->Prop),C i j->Q (.int (g i j) s.toks) {s with toks:=s.toks+1}->wpAny (model X.prog X.w) X.A (f (.int i t) (.int j u)) Q E s):
 Dw X f (rI C λ i j=>.int (g i j)):=by
 intro pins s σ H x y v u Q I rx ry h;obtain⟨i,j,rfl,rfl,hc,q⟩:=h;obtain⟨t,rfl⟩:=rx;obtain⟨t',rfl⟩:=ry;exact rule i j t t' s _ _ hc ⟨.int (g i j),H,I.tok _,⟨_,rfl⟩,q⟩
theorem S8 {f:Value->Value->Sem Value}{g:Int->Int->Int}
 (rule:∀(i j:Int) (t u:Tok) (s:Shared) (Q:Value->Shared->Prop) (E:Value->Shared->Prop),Q (.int (g i j) s.toks) {s with toks:=s.toks+1}->wpAny (model X.prog X.w) X.A (f (.int i t) (.int j u)) Q E s):
 Dw X f (LL λ i j=>.int (g i j)):=by
 intro pins s σ H x y v u Q I rx ry h;obtain⟨i,j,rfl,rfl,q⟩:=h;obtain⟨t,rfl⟩:=rx;obtain⟨t',rfl⟩:=ry;exact rule i j t t' s _ _ ⟨.int (g i j),H,I.tok _,⟨_,rfl⟩,q⟩
theorem QB {f:Value->Value->Sem Value}{g:Int->Int->Bool}
 (rule:∀(i j:Int) (t u:Tok) (s:Shared) (Q:Value->Shared->Prop) (E:Value->Shared->Prop),Q (.bool (g i j)) s->wpAny (model X.prog X.w) X.A (f (.int i t) (.int j u)) Q E s):
 Dw X f (LL λ i j=>.bl (g i j)):=by
 intro pins s σ H x y v u Q I rx ry h;obtain⟨i,j,rfl,rfl,q⟩:=h;obtain⟨t,rfl⟩:=rx;obtain⟨t',rfl⟩:=ry;exact rule i j t t' s _ _ ⟨.bl (g i j),H,I,rfl,q⟩
def M3 (i j:Int):Prop:=0<j/\j<1073741824
def O6 (i j:Int):Prop:=0<=j/\j<=1000000/\i.natAbs<2^64
def M4 (i j:Int):Prop:=(-(2^64)<i/\i<2^64)\/(-(2^64)<j/\j<2^64)
theorem M4.ok {i j:Int}(h:M4 i j):IntMulOk i j:=by
 rcases h with ⟨h1,h2⟩|⟨h1,h2⟩
 ·exact .of_left (intBits_le_64 h1 h2)
 ·exact .of_right (intBits_le_64 h1 h2)
theorem QC:Dw X (binaryOp .Add) (LL λ i j=>.int (i+j)):=S8 λ _ _ _ _ _ _ _ q=>add_int q
theorem QD:Dw X (binaryOp .Sub) (LL λ i j=>.int (i-j)):=S8 λ _ _ _ _ _ _ _ q=>sub_int q
theorem O7:Dw X (binaryOp .FloorDiv) (rI M3 λ i j=>.int (i / j)):=Td λ i j _ _ _ _ _ hc q=>by
 have h1:(0:Int)<j:=hc.1;have h2:j<1073741824:=hc.2;exact floordiv_int (by omega) (by rw[Int.fdiv_eq_ediv_of_nonneg i (by omega)];exact q) (.inl (PyProof.noPylong_small (by omega)))
theorem QE:Dw X (binaryOp .Mod) (rI (λ _ j=>0<j) λ i j=>.int (i%j)):=Td λ i j _ _ _ _ _ hc q=>by
 have h1:(0:Int)<j:=hc;exact mod_int' (by omega) (by rw[Int.fmod_eq_emod_of_nonneg i (by omega)];exact q)
theorem QF:Dw X (binaryOp .Pow) (rI O6 λ i j=>.int (i^j.toNat)):=Td λ _ _ _ _ _ _ _ hc q=>pow_int_small hc.1 hc.2.1 hc.2.2 q
theorem Va {f:Value->Sem Value}{g:Int->Int}
 (rule:∀(i:Int) (t:Tok) (s:Shared) (Q:Value->Shared->Prop) (E:Value->Shared->Prop),Q (.int (g i) s.toks) {s with toks:=s.toks+1}->wpAny (model X.prog X.w) X.A (f (.int i t)) Q E s):
 TL X f (rU λ i=>.int (g i)):=by
 intro pins s σ H x v Q I rx h;obtain⟨i,rfl,q⟩:=h;obtain⟨t,rfl⟩:=rx;exact rule i t s _ _ ⟨.int (g i),H,I.tok _,⟨_,rfl⟩,q⟩
theorem QG:TL X (unaryOp .USub) (rU λ i=>.int (-i)):=Va λ _ _ _ _ _ q=>neg_int q
end
section
variable {X:Cx}{a b c:Expr}{ta tb tc:TE}{pos:Pos}
theorem QH {pins:List (Addr×Obj)}{σ:St}{H:Hp}{s:Shared}{Q:VK}{k k':Bool}(I:Inv X pins σ H s)(q:Q (.bl k) H)(e:k=k'):EP X pins σ Q (.bool k') s:=by
 subst e;exact⟨.bl k,H,I,rfl,q⟩
theorem PY:Dw X (compareOp .Lt) (LL λ i j=>.bl (decide (i<j))):=QB λ _ _ _ _ _ _ _ q=>lt_int q
theorem M5:Dw X (compareOp .LtE) (LL λ i j=>.bl (decide (i<=j))):=QB λ _ _ _ _ _ _ _ q=>le_int q
theorem S9:Dw X (compareOp .Gt) (LL λ i j=>.bl (decide (j<i))):=QB λ _ _ _ _ _ _ _ q=>gt_int q
theorem KY:Dw X (compareOp .In) (λ x y H Q=>∃i j,x=.str i/\y=.str j/\Q (.bl (!(zE j i 0 j.length 1).isEmpty)) H):=by
 intro pins s σ H x y v u Q I rx ry h;obtain⟨i,j,rfl,rfl,q⟩:=h;obtain⟨t,rfl⟩:=rx;obtain⟨t',rfl⟩:=ry;exact in_str (QH I q rfl)
theorem Ep (b:Expr){op:CmpOp}(h:op≠.In:=by decide)(h2:op≠.NotIn:=by decide):behindInMarks op b=false:=by
 have e1:(op==CmpOp.In)=false:=by cases op<;>first|rfl|exact absurd rfl h
 have e2:(op==CmpOp.NotIn)=false:=by cases op<;>first|rfl|exact absurd rfl h2
 cases b<;>simp[behindInMarks,e1,e2]
theorem O8 {op:CmpOp}{r:R2}(ho:Dw X (compareOp op) r)(ha:PE X a ta)(hb:PE X b tb)(hm:behindInMarks op b=false):PE X (.Compare a [op] [b] pos) (QA r ta tb):=by
 intro pins s σ H Q I h;exact wpAny_Compare1 (O5 ha hb I h λ v u s2 x y H2 I2 rx ry q=>ho pins s2 σ H2 x y v u Q I2 rx ry q) hm
noncomputable def M6 (t:TE):TT:=λ σ H Q=>t σ H λ x H'=>∃k,x=.bl k/\Q k H'
theorem O9 {op:CmpOp}{r:R2}(ho:Dw X (compareOp op) r)(ha:PE X a ta)(hb:PE X b tb)(hm:behindInMarks op b=false):PT X (.Compare a [op] [b] pos) (M6 (QA r ta tb)):=by
 intro pins s σ H Q I h;refine wpAny_isTrue_Compare1 (AZ (ha pins s σ H _ I h) λ v s1 ⟨x,H1,I1,r1,q1⟩=>AZ (hb pins s1 σ H1 _ I1 q1) λ u s2 ⟨y,H2,I2,r2,q2⟩ =>
  AZ (ho pins s2 σ H2 x y v u _ I2 r1 r2 q2) λ c s3 ⟨z,H3,I3,r3,k,e,q3⟩=>?_) hm
 subst e;cases r3;exact wpAny_truthy_bool ⟨H3,I3,q3⟩
noncomputable def M7 (r r':R2)(ta tb tc:TE):TE:=λ σ H Q=>ta σ H λ x H1=>tb σ H1 λ y H2=>r x y H2 λ z H3=>∃k,z=.bl k/\
 (if k=true then tc σ H3 λ w' H4=>r' y w' H4 Q else Q (.bl false) H3)
theorem M8 {op aB:CmpOp}{r r':R2}(ho:Dw X (compareOp op) r)(a9:Dw X (compareOp aB) r')(ha:PE X a ta)(hb:PE X b tb)(hc:PE X c tc)
 (hm:lastMarks [op,aB] [b,c]=false:=by with_unfolding_all rfl):PE X (.Compare a [op,aB] [b,c] pos) (M7 r r' ta tb tc):=by
 intro pins s σ H Q I h;refine Compare_chain (AZ (ha pins s σ H _ I h) λ v s1 ⟨x,H1,I1,r1,q1⟩=>chain_link (AZ (hb pins s1 σ H1 _ I1 q1) λ u s2 ⟨y,H2,I2,r2,q2⟩ =>
  AZ (ho pins s2 σ H2 x y v u _ I2 r1 r2 q2) λ d s3 ⟨z,H3,I3,r3,k,e,q3⟩=>?_)) hm
 subst e;cases r3;refine wpAny_truthy_bool ?_;cases k with
 |false=>exact ite_ff ⟨.bl false,H3,I3,rfl,q3⟩
 |true=>exact ite_tt (chain_last (AZ (hc pins s3 σ H3 _ I3 q3) λ w' s4 ⟨z',H4,I4,r4,q4⟩=>a9 pins s4 σ H4 y z' u w' Q I4 r2 r4 q4))
theorem M9 {op aB:CmpOp}{r r':R2}(ho:Dw X (compareOp op) r)(a9:Dw X (compareOp aB) r')(ha:PE X a ta)(hb:PE X b tb)(hc:PE X c tc)
 (hm:lastMarks [op,aB] [b,c]=false:=by with_unfolding_all rfl):PT X (.Compare a [op,aB] [b,c] pos) (M6 (M7 r r' ta tb tc)):=by
 intro pins s σ H Q I h;refine isTrue_chain (AZ (ha pins s σ H _ I h) λ v s1 ⟨x,H1,I1,r1,q1⟩=>test_link (AZ (hb pins s1 σ H1 _ I1 q1) λ u s2 ⟨y,H2,I2,r2,q2⟩ =>
  AZ (ho pins s2 σ H2 x y v u _ I2 r1 r2 q2) λ d s3 ⟨z,H3,I3,r3,k,e,q3⟩=>?_)) hm
 subst e;cases r3;refine wpAny_truthy_bool ?_;cases k with
 |false =>
  obtain⟨k',e',q'⟩:=q3;cases e';exact ite_ff ⟨H3,I3,q'⟩
 |true =>
  refine ite_tt (test_last (AZ (hc pins s3 σ H3 _ I3 q3) λ w' s4 ⟨z',H4,I4,r4,q4⟩=>AZ (a9 pins s4 σ H4 y z' u w' _ I4 r2 r4 q4) λ d' s5 ⟨z2,H5,I5,r5,k2,e2,q5⟩=>?_));subst e2;cases r5;exact wpAny_truthy_bool ⟨H5,I5,q5⟩
def Sa (K:za)(x:V)(H:Hp)(k:Bool):Prop:=
 match x with
 | .Av=>k=false
 | .bl b=>k=b
 | .int i=>k=(i != 0)
 | .str y=>y.length<=sizeLine/\k=((y.length:Int) != 0)
 | .RJ y=>y.size<=sizeLine/\k=((y.size:Int) != 0)
 | .ref p=>(∃xs,D5 K H p xs/\k = !xs.isEmpty)\/(∃xs,Fc K H p xs/\k = !xs.isEmpty)\/∃kvs,H p=some (.dK kvs)/\k = !kvs.isEmpty
 |_=>False
theorem Jp {κ:Type}{kvs:List (κ×V)}{vs:List (κ×Value)}(r:KV kvs vs):(!vs.isEmpty) = !kvs.isEmpty:=by
 cases r<;>rfl
theorem Fe {xs:List V}{aa:List Value}(r:Vals xs aa):(!aa.toArray.isEmpty) = !xs.isEmpty:=by
 cases r<;>simp
theorem Ff:(sizeLine:Nat)<2^63:=by rw[sizeLine_eq];decide
theorem QI:TM X (λ x H Q=>∃k,Sa X.K x H k/\Q k H):=by
 intro pins s σ H x v Q I rx h;obtain⟨k,e,q⟩:=h;have hl:=Ff;have hs:sizeLine=16777216:=sizeLine_eq;cases x with
 |Av =>
  cases rx;have e':k=false:=e;subst e';exact truthy_none ⟨H,I,q⟩
 |bl b =>
  cases rx;have e':k=b:=e;subst e';exact wpAny_truthy_bool ⟨H,I,q⟩
 |int i =>
  obtain⟨t,rfl⟩:=rx;have e':k=(i != 0):=e;subst e';exact PySem.P.truthy_int ⟨H,I,q⟩
 |str y =>
  obtain⟨t,rfl⟩:=rx;obtain⟨hy,e'⟩:y.length<=sizeLine/\k=((y.length:Int) != 0):=e;subst e';exact PySem.P.truthy_str (by omega) ⟨H,I.tok _,q⟩
 |RJ y =>
  obtain⟨t,rfl⟩:=rx;obtain⟨hy,e'⟩:y.size<=sizeLine/\k=((y.size:Int) != 0):=e;subst e';exact PySem.W.truthy_bytes (by omega) ⟨H,I.tok _,q⟩
 |ref p =>
  cases rx;have e':(∃xs,D5 X.K H p xs/\k = !xs.isEmpty)\/(∃xs,Fc X.K H p xs/\k = !xs.isEmpty)\/∃kvs,H p=some (.dK kvs)/\k = !kvs.isEmpty:=e;rcases e' with ⟨xs,hx,e'⟩|⟨xs,hx,e'⟩|⟨kvs,hx,e'⟩
  ·subst e';obtain⟨aa,r,pl,hz⟩:=I.list hx;have hlen:=r.length;exact wpAny_truthy_list pl.isList (by simp only[zh];omega) ⟨H,I.tok _,by rw[Fe r];exact q⟩
  ·subst e';obtain⟨aa,r,pl,hz⟩:=I.tuple hx;have hlen:=r.length;exact truthy_tuple pl (by simp only[zh];omega) ⟨H,I.tok _,by rw[Fe r];exact q⟩
  ·subst e';obtain⟨hz,hS,vs,r,m⟩:kvs.length<=sizeLine/\(p==sysModules)=false/\∃vs,KV kvs vs/\s.heap.DictOf (B8 X.prog X.w) p vs:=I.Az p _ hx;have hlen:kvs.length=vs.length:=Paired.length r;exact wpAny_truthy_dict hS m (by omega) ⟨H,I.tok _,by rw[Jp r];exact q⟩
 |_=>exact (show False from e).elim
theorem Ma (ha:PE X a ta)(he:∀whole,isTrue a X.env whole=(do let v <-whole;standAt a.pos;holding [v] (truthy v))):
 PT X a (λ σ H Q=>ta σ H λ x H'=>∃k,Sa X.K x H' k/\Q k H'):=by
 intro pins s σ H Q I h;exact isTrue_plain (AZ (ha pins s σ H _ I h) λ v s1 ⟨x,H1,I1,r1,q1⟩=>QI pins s1 σ H1 x v Q I1 r1 q1) (he _)
theorem Jq:Dw X (binaryOp .Add) (λ x y H Q=>∃i j,x=.str i/\y=.str j/\i.length+j.length<=sizeLine/\Q (.str (i++j)) H):=by
 intro pins s σ H x y v u Q I rx ry h;obtain⟨i,j,rfl,rfl,hz,q⟩:=h;obtain⟨t,rfl⟩:=rx;obtain⟨t',rfl⟩:=ry;exact add_str (λ t' tk=>⟨.str (i++j),H,I.tok _,⟨_,rfl⟩,q⟩) hz
def Ip (b:Expr):Prop:=∀o i,subscripted b false o i=operate [o,i] (getItem o i)
theorem Iq (ha:PE X a ta)(hb:PE X b tb)(hs:Ip b):
 PE X (.Subscript a b pos) (QA (λ x y H Q=>∃z i c,x=.str z/\y=.int i/\0<=i/\i<2^63/\i<z.length/\z.cps[i.toNat]?=some c/\Q (.str ⟨#[c]⟩) H) ta tb):=by
 intro pins s σ H Q I h;refine Subscript_ (O5 ha hb I h λ v u s2 x y H2 I2 rx ry q=>?_);obtain⟨z,i,c,rfl,rfl,h0,fV,h1,hc,q⟩:=q;obtain⟨t,rfl⟩:=rx;obtain⟨t',rfl⟩:=ry;have e:seqIndex? i z.length=some i.toNat:=PySem.StrLaws.seqIndex_nonneg h0 h1;exact tail_any (typeIs_str s2 z t) slot_str_getitem.lookup (getItem_str (c:=c) (by
  have e1:decide (i < -(2^63:Int))=false:=decide_eq_false (by omega);have e2:decide (i >= 2^63)=false:=decide_eq_false (by omega);rw[e1,e2]<;>rfl) (by rw[e];exact hc) ⟨.str ⟨#[c]⟩,H2,I2.tok _,⟨_,rfl⟩,q⟩) (hs _ _)
theorem vals1 {x:V}{us:List Value}(r:Vals [x] us):∃u,us=[u]/\RelV x u:=by
 cases r with
 |cons r1 r2=>cases r2;exact⟨_,rfl,r1⟩
theorem Ho:CI X (.type "str") (λ xs H Q=>∃i,xs=[.int i]/\i.natAbs.log2<1920/\Q (.str (toString i)) H):=by
 intro pins s σ H xs us Q I r h;obtain⟨i,rfl,hz,q⟩:=h;obtain⟨u,rfl,t,rfl⟩:=vals1 r;exact PySem.P.str_of_int hz ⟨.str _,H,I.tok _,⟨_,rfl⟩,q⟩
end
theorem Ii.some_of {v:V}{o:Option Value}(r:Ii (some v) o):∃u,o=some u/\RelV v u:=by
 cases o with
 |none=>exact (show False from r).elim
 |some u=>exact⟨u,rfl,r⟩
structure UH (K:za)(C:Addr):Prop where
 pg:PySem.W.plainGet K C Str.empty=true
 hd:PySem.W.hasDictIn K C=true
 po:PySem.W.plainOver K C=true
 sa:PySem.W.findIn K (.ref C) "__setattr__" = some (some (.builtin "object.__setattr__"))
structure Meth (K:za)(C:Addr)(m:Str)(f:Addr):Prop where
 at_:PySem.W.findIn K (.ref C) m=some (some (.ref f))
 fn:PySem.W.isFn K (.ref f)=true
 kp:zL K (.ref f)=true
structure BB (k:Nat)(A:Around):Prop where
 hd:A.handled=none
 dp:A.depth+3*k+5<recursionLimit
 un:A.units+16*k+200<cLine
theorem BB.mono {j k:Nat}{A:Around}(r:BB k A)(h:j<=k):BB j A:=⟨r.hd,by have:=r.dp;omega,by have:=r.un;omega⟩
theorem BB.deeper {k:Nat}{A:Around}(r:BB (k+1) A)(env:Env):BB k (A.deeper env):=
 ⟨r.hd,by have:=r.dp;show A.depth+1+3*k+5<_;omega,by have:=r.un;show A.units+3+16*k+200<_;omega⟩
theorem BB.depth {k:Nat}{A:Around}(r:BB k A):A.depth<recursionLimit:=by have:=r.dp;omega
theorem BB.units {k:Nat}{A:Around}(r:BB k A):A.units+64<cLine:=by have:=r.un;omega
noncomputable def TN:TA:=λ _ H Q=>Q [] H
noncomputable def Sb (ta:TE)(tr:TA):TA:=λ σ H Q=>ta σ H λ x H1=>tr σ H1 λ xs H2=>Q (x::xs) H2
section
variable {X:Cx}{e:Expr}{es:List Expr}{te:TE}{t:TA}{pos:Pos}
theorem Ce:PA X [] TN:=λ _ _ _ _ H Q I h=>Calls.spliced_nil ⟨[],H,I,.nil,h⟩
theorem Bl (ha:PE X e te)(hr:PA X es t)(hs:starEach (e::es) X.env=(false,eval e X.env)::starEach es X.env:=by rfl):PA X (e::es) (Sb te t):=by
 intro pos pins s σ H Q I h;rw[hs];show wpAny _ _ (spliced ((false,eval e X.env)::backTo pos (starEach es X.env))) _ _ s;refine Calls.spliced_cons (AZ (ha pins s σ H _ I h) λ u s1 ⟨x,H1,I1,r1,q1⟩=>?_);exact AZ (hr pos pins s1 σ H1 _ I1 q1) λ us s2 ⟨xs,H2,I2,r2,q2⟩=>⟨x::xs,H2,I2,.cons r1 r2,q2⟩
noncomputable def TQ (t:TA):TE:=λ σ H Q=>t σ H λ xs H1=>xs.length<=sizeLine/\∀p,H1 p=none->Q (.ref p) (upd H1 p (.tup xs))
noncomputable def TR (t:TA):TE:=λ σ H Q=>t σ H λ xs H1=>xs.length<=sizeLine/\∀p,H1 p=none->Q (.ref p) (upd H1 p (.lst xs))
theorem Mb {x1}(h:PA X es t):PE X (.Tuple es x1 pos) (TQ t):=by
 intro pins s σ H Q I hq;refine wpAny_Tuple_spliced (AZ (h pos pins s σ H _ I hq) λ us s1 ⟨xs,H1,I1,r,z,q⟩=>⟨by rw[<-r.length];exact z,?_⟩);have hf:H1 s1.heap.objs.size=none:=I1.Az.fresh (zp _);refine⟨.ref s1.heap.objs.size,upd H1 s1.heap.objs.size (.tup xs),I1.laid (t':=s1.toks) (λ b u e=>zy _ e) (zp _) ?_,rfl,q _ hf⟩;exact⟨z,us,r,⟨_,zF _ rfl,rfl,_,rfl⟩⟩
theorem Mc (h:PA X es t):PE X (.List es pos) (TR t):=by
 intro pins s σ H Q I hq;refine wpAny_List_spliced (AZ (h pos pins s σ H _ I hq) λ us s1 ⟨xs,H1,I1,r,z,q⟩=>⟨by rw[<-r.length];exact z,?_⟩);have hf:H1 s1.heap.objs.size=none:=I1.Az.fresh (zp _);refine⟨.ref s1.heap.objs.size,upd H1 s1.heap.objs.size (.lst xs),I1.laid (t':=s1.toks) (λ b u e=>zy _ e) (zp _) ?_,rfl,q _ hf⟩;exact⟨z,us,0,r,zF _ rfl⟩
end
noncomputable abbrev Sp:=List V->Hp->VK->XK->Prop
noncomputable abbrev LM:=List Env->Hp->Shared->XK->Value->Shared->Prop
structure Oa (P:Program)(w:World)(K:za)(mg:Str->Option Value)(base:Heap)(A:Around)(outer:List Env)(s:Shared)(H:Hp):Prop where
 frames:A.frames=some outer
 mod:Mod K mg base
 bs:∀b o,base.get? b=some o->s.heap.get? b=some o/\H b=none
 PQ:base.objs.size<=s.heap.objs.size
 En:s.heap.FunFrames base outer
 RK:∀b∈EI outer,H b=none
 Az:D4 P w H s.heap
 bare:AllBare s.gens
def CE (outer:List Env)(P:Program)(w:World)(H:Hp)(s:Shared)(Q:VK)(u:Value)(s':Shared):Prop:=
 ∃v H',s'.os=s.os/\AllBare s'.gens/\Un (EI outer) [] H H' s.heap s'.heap/\D4 P w H' s'.heap/\RelV v u/\Q v H'
def CR (CX:LM)(outer:List Env)(P:Program)(w:World)(H:Hp)(s:Shared)(Q:VK)(E:XK)(r:Result)(s':Shared):Prop:=
 match r with
 | .ok (.ret u)=>CE outer P w H s Q u s'
 | .ok _=>False
 | .error e=>CX outer H s E e s'
structure DU (P:Program)(w:World)(K:za)(mg:Str->Option Value)(base:Heap)(CX:LM)(k:Nat)(f:Addr)(fd:FuncData)(ps:List Str)(sp:Sp):Prop where
 len:∀vs H Q E,sp vs H Q E->vs.length=ps.length
 run:∀(A:Around) (outer:List Env) (s:Shared) (H:Hp) (args:Args) (us:List Value) (vs:List V) (Q:VK) (E:XK),BB k A->Oa P w K mg base A outer s H->BindsTo s fd args (ps.zip us)->Vals vs us->sp vs H Q E->
  codeAny (model P w) A (.call (.ref f) args) (CR CX outer P w H s Q E) s
section
variable {X:Cx}{pins:List (Addr×Obj)}{σ:St}{H:Hp}{s s':Shared}
theorem Inv.TU (I:Inv X pins σ H s):Oa X.prog X.w X.K X.mg X.base X.A X.stack s H:=
 ⟨I.ok.frames,I.ok.mod,I.bs,z9 I.ok.PQ I.sz,I.stack,I.Hn,I.Az,I.bare⟩
theorem Inv.after {Q:VK}{u:Value}(I:Inv X pins σ H s)(h:CE X.stack X.prog X.w H s Q u s'):EP X pins σ Q u s':=by
 obtain⟨v,H',os,bare,un,Az,r,q⟩:=h;obtain⟨hh,g,d,t,eE⟩:=s';obtain rfl:eE=s.os:=os;exact⟨v,H',I.call (h':=hh) (g':=g) (d':=d) (t':=t) (ch:=[]) un Az bare (λ b z=>absurd z (by simp)),r,q⟩
end
noncomputable def Sd (sp:Sp)(bn:List V)(E:XK)(t:TA):TE:=λ σ H Q=>t σ H λ vs H1=>sp (vs++bn) H1 Q E
def Binds (K:za)(fd:FuncData)(ps:List Str)(ds:List Value):Prop:=
 ∀(s:Shared) (us:List Value),K.In s.heap->(us++ds).length=ps.length->BindsTo s fd ⟨us,[]⟩ (ps.zip (us++ds))
theorem Binds.all {K:za}{fd:FuncData}{ps:List Str}(h:∀us:List Value,us.length=ps.length->bindArgs fd ⟨us,[]⟩=pure (ps.zip us)):Binds K fd ps []:=λ s us _ hl=>by
 rw[List.append_nil] at hl ⊢;exact .of_eq (h us hl)
def Hq (CX:LM)(X:Cx)(E:XK):Prop:=∀(pins:List (Addr×Obj)) (σ:St) (H:Hp) (s:Shared) (e:Value) (s':Shared),Inv X pins σ H s->CX X.stack H s E e s'->X.xe e s'
section
variable {X:Cx}{CX:LM}{k:Nat}{f C:Addr}{fd:FuncData}{ps:List Str}{sp:Sp}{bn:List V}{ds:List Value}{E:XK}{x m:Str}{p pos apos:Pos}{e o:Expr}{es:List Expr}{ta:TE}{t:TA}
theorem QJ {pins:List (Addr×Obj)}{σ:St}{H:Hp}{s:Shared}{Q:VK}{us:List Value}{vs:List V}(F:DU X.prog X.w X.K X.mg X.base CX k f fd ps sp)(hr:BB k X.A)(hb:Binds X.K fd ps ds)(hd:Vals bn ds)(hx:Hq CX X E)
 (I:Inv X pins σ H s) (r:Vals vs us) (h:sp (vs++bn) H Q E):wpAny (model X.prog X.w) X.A (call (.ref f) us) (EP X pins σ Q) X.xe s:=by
 have r2:Vals (vs++bn) (us++ds):=r.append hd;have hl:(us++ds).length=ps.length:=by rw[<-r2.length];exact F.len _ _ _ _ h
 refine wpAny_call (codeAny_mono (F.run X.A X.stack s H ⟨us,[]⟩ (us++ds) (vs++bn) Q E hr I.TU (hb s us I.K6 hl) r2 h) λ r s' hq=>?_);cases r with
 |error e=>exact hx pins σ H s e s' I hq
 |ok fl =>
  cases fl with
  |ret u=>exact I.after hq
  |next|brk|cont=>exact False.elim hq
theorem Ob (F:DU X.prog X.w X.K X.mg X.base CX k f fd ps sp)(hr:BB k X.A)(hg:Gl X x)(hm:X.mg x=some (.ref f))(hk:zL X.K (.ref f)=true)(hb:Binds X.K fd ps ds)(hd:Vals bn ds)(hx:Hq CX X E)
 (ha:PA X (e::es) t) (aD:(x==("__debug__" : Str))=false:=by decide) (he:starEach (e::es) X.env=(false,eval e X.env)::starEach es X.env:=by rfl) (aI:(backTo pos (starEach es X.env)).any (·.1)=false:=by rfl):
 PE X (.Call (.Name x p) (e::es) [] pos) (Sd sp bn E t):=by
 intro pins s σ H Q I h;refine wpAny_Call_Name_kw (K7 I hg hm ?_ aD);refine PySem.W.callWith_K (h₀:=X.base) I.ok.mod.Tb hk (AZ (ha pos pins s σ H _ I h) λ us s1 ⟨vs,H1,I1,r,q⟩=>⟨I1.K6,?_⟩) he aI;exact QJ F hr hb hd hx I1 r q
end
structure Ak (N P:List Str)(sc:Scope):Prop where
 kind:sc.kind=.function
 co:sc.isCoroutine=false
 gen:sc.isGenerator=false
 nd:N.Nodup
 pre:N.take P.length=P
 UI:∀x∈P,sc.names.lookup x=some .local\/sc.names.lookup x=some .cell
 QK:∀y∈sc.names,y.2≠.free
theorem GD {kindOf:Str->Option NameKind}{x:Str}:∀ {binds:List (Str×Value)}{m:Str->Option Value},(∀v,(x,v)∉binds)->bindL kindOf binds m x=m x
 |[],_,_=>rfl
 |(n,v)::r,m,h=>by
  unfold bindL;rw[GD λ w hw=>h w (ze _ hw)];split
  ·have:x≠n:=by rintro rfl;exact h v zd
   simp[this]
  ·rfl
theorem GF {kindOf:Str->Option NameKind}{x:Str}:∀ {binds:List (Str×Value)}{m:Str->Option Value},(∀v,(x,v)∉binds)->bindC kindOf binds m x=m x
 |[],_,_=>rfl
 |(n,v)::r,m,h=>by
  unfold bindC;rw[GF λ w hw=>h w (ze _ hw)];split
  ·rfl
  ·have:x≠n:=by rintro rfl;exact h v zd
   simp[this]
theorem GG {kindOf:Str->Option NameKind}{x:Str}{v:Value}:∀ {P:List Str}{vs:List Value}{i:Nat}{m:Str->Option Value},P.Nodup->P[i]?=some x->vs[i]?=some v->kindOf x=some .local->
 bindL kindOf (P.zip vs) m x=some v
 |[],_,_,_,_,h,_,_|_::_,[],_,_,_,_,h,_=>by simp at h
 |p::P,w::vs,0,m,nd,h1,h2,hk=>by
  simp at h1 h2;subst h1;subst h2;show bindL kindOf ((p,w)::P.zip vs) m p=_;unfold bindL;rw[GD λ v hv=>(yc.mp nd).1 (List.of_mem_zip hv).1,if_pos hk];simp
 |p::P,w::vs,i+1,m,nd,h1,h2,hk=>by
  show bindL kindOf ((p,w)::P.zip vs) m x=_;unfold bindL;exact GG (i:=i) (yc.mp nd).2 (by simpa using h1) (by simpa using h2) hk
theorem GH {kindOf:Str->Option NameKind}{x:Str}{v:Value}:∀ {P:List Str}{vs:List Value}{i:Nat}{m:Str->Option Value},P.Nodup->P[i]?=some x->vs[i]?=some v->kindOf x≠some .local->
 bindC kindOf (P.zip vs) m x=some v
 |[],_,_,_,_,h,_,_|_::_,[],_,_,_,_,h,_=>by simp at h
 |p::P,w::vs,0,m,nd,h1,h2,hk=>by
  simp at h1 h2;subst h1;subst h2;show bindC kindOf ((p,w)::P.zip vs) m p=_;unfold bindC;rw[GF λ v hv=>(yc.mp nd).1 (List.of_mem_zip hv).1,if_neg hk];simp
 |p::P,w::vs,i+1,m,nd,h1,h2,hk=>by
  show bindC kindOf ((p,w)::P.zip vs) m x=_;unfold bindC;exact GH (i:=i) (yc.mp nd).2 (by simpa using h1) (by simpa using h2) hk
noncomputable def start (N:List Str)(vs:List V):St:=vs.map some++List.replicate (N.length-vs.length) none
noncomputable def ER (CX:LM)(P:Program)(w:World)(K:za)(mg:Str->Option Value)(base:Heap)(N:List Str)(qual:Str)(scope:Scope)(f:Addr)(cd:Value)(A:Around)(outer:List Env)(s:Shared)(H:Hp)(E:XK):Cx where
 prog:=P
 w:=w
 K:=K
 mg:=mg
 base:=base
 A:=A.deeper (envOfC qual scope s.heap.objs.size f cd)
 N:=N
 s₀:=s
 H₀:=H
 env:=envOfC qual scope s.heap.objs.size f cd
 outer:=outer
 stack:=envOfC qual scope s.heap.objs.size f cd::outer
 ex:=[]
 calm:=true
 fn:=λ _=>true
 pn:=[]
 xe:=λ e s'=>wpAny (model P w) (A.deeper (envOfC qual scope s.heap.objs.size f cd)) (leaving (envOfC qual scope s.heap.objs.size f cd) e) (λ _ cS=>CX outer H s E e cS) (λ e' cS=>CX outer H s E e' cS) s'
theorem Ir {sc:Scope}{n:Nat}{x:Str}(h:sc.names.lookup x=some .cell):∃c,(cellsFrom n sc.names []).lookup x=some c:=by
 have q:=PySem.W.cellsFrom_some sc.names n [] (.inl h);exact Option.isSome_iff_exists.mp q
theorem KZ {CX:LM}{P:Program}{w:World}{K:za}{mg:Str->Option Value}{base:Heap}{N ps:List Str}{qual:Str}{scope:Scope}{f:Addr}{cd:Value}{A:Around}{outer:List Env}{s s1:Shared}{H:Hp}{E:XK}{us:List Value}{vs:List V}
 (S:Ak N ps scope) (hd:A.handled=none) (e0:Oa P w K mg base A outer s H) (hl:vs.length=ps.length) (r:Vals vs us)
 (x:InCallC s s.heap.objs.size (bindL (envOfC qual scope s.heap.objs.size f cd).kindOf (ps.zip us) λ _=>none) (cellsFrom (s.heap.objs.size+1) scope.names []) (bindC (envOfC qual scope s.heap.objs.size f cd).kindOf (ps.zip us) λ _=>none) s1):
 Inv (ER CX P w K mg base N qual scope f cd A outer s H E) [] (start N vs) H s1:=by
 have aI:ps.length<=N.length:=by have:=congrArg List.length S.pre;rw[yf] at this;omega
 obtain⟨h1,tk,rfl,hk⟩:=x.done;have bS:∀b:Addr,b∉(ER CX P w K mg base N qual scope f cd A outer s H E).ex:=λ b z=>absurd (show b∈([]:List Addr) from z) (by simp);refine⟨⟨e0.mod,S.kind,rfl,rfl,zp _,λ y z c h1 h2=>?_,λ y hy=>?_,λ y c _ h=>?_,λ _=>hd,Around.frames_deeper e0.frames,.inr ⟨rfl,rfl⟩,λ b z=>absurd z (bS b),e0.bs,e0.PQ,λ b _ _=>bS b,λ b z=>absurd z (bS b),e0.En,e0.RK⟩,
  rfl,e0.bare,Un.kept hk,⟨_,x.toInCall.ns,λ i y v h1 h2 h3=>?_⟩,λ y c h=>⟨_,x.cell y c h⟩,e0.Az.fresh (zp _),λ y c h=>?_,λ p hp=>absurd (show p∈([]:List (Addr×Obj)) from hp) (by simp),e0.Az.kept hk,?_⟩
 ·exact name_of_addr x.apart (yn h1) (yn h2)
 ·have hy:scope.names.lookup y=some .cell\/scope.names.lookup y=some .free:=hy;rcases hy with hy|hy
  ·exact Ir hy
  ·exact absurd rfl (S.QK _ (yn hy))
 ·exact ye (x.above y c (yn h))
 ·have hi:i<vs.length:=by
   unfold start at h2;by_cases hi:i<vs.length
   ·exact hi
   ·rw[yk (by simpa using hi)] at h2;rw[List.getElem?_replicate] at h2;split at h2<;>cases h2
  have ha:vs[i]?=some v:=by
   unfold start at h2;rw[yl (by simpa using hi),zH] at h2;cases e:vs[i]? with
   |none=>rw[e] at h2;cases h2
   |some a=>rw[e] at h2;cases h2;rfl
  obtain⟨u,hu,rv⟩:=r.get ha;have hp:ps[i]?=some y:=by
   rw[<-S.pre,List.getElem?_take_of_lt (by omega)];exact h1
  have ee:ps.Nodup:=by rw[<-S.pre];exact S.nd.sublist (List.take_sublist _ _)
  refine⟨u,rv,?_⟩;rcases S.UI y (zi hp) with k|k
  ·exact .inl ⟨k,GG ee hp hu k⟩
  ·obtain⟨c,e⟩:=Ir (n:=s.heap.objs.size+1) k;refine .inr ⟨.inl k,c,e,?_⟩;have q:=x.cell y c e;rw[GH ee hp hu (by show scope.names.lookup y≠_;rw[k];decide)] at q;exact q
 ·exact e0.Az.fresh (ye (x.above y c (yn h)))
 ·unfold start;show _=N.length;rw[zM,zj,List.length_replicate];omega
theorem PZ {CX:LM}{P:Program}{w:World}{K:za}{mg:Str->Option Value}{base:Heap}{k:Nat}{f:Addr}{name qual:Str}{params:Arguments}{body:List Stmt}{scope:Scope}{dV kV doc pm Bh ct oc:Value}{an od:Option Addr}
 {Oc:Array (Option Value)} {N ps:List Str} {sp:Sp} (lk:K.lookup f=some ⟨oc,od,.func (zD name qual params body scope dV kV doc pm an Bh ct),Oc⟩) (aG:zQ K Bh qual=true) (S:Ak N ps scope)
 (len:∀vs H Q E,sp vs H Q E->vs.length=ps.length)
 (aP:∀(A:Around) (outer:List Env) (s:Shared) (H:Hp) (vs:List V) (Q:VK) (E:XK),BB k (A.deeper (envOfC qual scope s.heap.objs.size f Bh))->sp vs H Q E->
  ∃t,KS (ER CX P w K mg base N qual scope f Bh A outer s H E) body t/\t {nx:=λ _ H'=>Q .Av H',rt:=Q} (start N vs) H):
 DU P w K mg base CX (k+1) f (zD name qual params body scope dV kV doc pm an Bh ct) ps sp:=by
 refine⟨len,λ A outer s H args us vs Q E hr e0 hb r bb=>?_⟩;have hl:=len _ _ _ _ bb;have KX:K.In s.heap:=e0.mod.Tb.keeps λ b o e=>(e0.bs b o e).1;have lim:s.heap.NoLimit:=e0.mod.nolimit.keeps λ b o e=>(e0.bs b o e).1;have bT:∀y∈ps.zip us,scope.names.lookup y.1=some .local\/(scope.names.lookup y.1=some .cell/\((cellsFrom (s.heap.objs.size+1) scope.names []).lookup y.1).isSome=true):=λ⟨n,v⟩ hy=>by
  rcases S.UI n (List.of_mem_zip hy).1 with q|q
  ·exact .inl q
  ·exact .inr ⟨q,PySem.W.cellsFrom_some _ _ _ (.inl q)⟩
 refine codeAny_call_function hr.depth (KX _ _ lk) rfl S.co S.gen rfl (PySem.W.codeRec_of KX aG) (hb _ _ _ _ ?_);refine wpAny_newFunctionEnv_cells S.kind bT λ env he s1 x=>?_;subst he;refine⟨lim.keeps x.toInCall.keep,codeAny_func ?_⟩;obtain⟨t,ht,hq⟩:=aP A outer s H vs Q E (hr.deeper _) bb;have I:Inv (ER CX P w K mg base N qual scope f Bh A outer s H E) [] (start N vs) H s1:=KZ S hr.hd e0 hl r x;refine wpAny_mono (ht [] s1 (start N vs) H _ I hq) (λ fl s' hs=>?_) λ e s' hs=>hs;have fin:∀ {σ':St} {H':Hp} {v:V} {u:Value},Inv (ER CX P w K mg base N qual scope f Bh A outer s H E) [] σ' H' s'->RelV v u->Q v H'->CE outer P w H s Q u s':=
  fun {σ' H' v u} J rv q=>⟨v,H',J.os,J.bare,J.base,J.Az,rv,q⟩
 cases fl with
 |ret u =>
  obtain⟨v,σ',H',J,rv,q⟩:=hs;exact fin J rv q
 |next =>
  obtain⟨σ',H',J,q⟩:=hs;exact fin (v:=V.Av) (u:=Value.none) J rfl q
 |brk =>
  obtain⟨_,_,_,q⟩:=hs;exact False.elim q
 |cont =>
  obtain⟨_,_,_,q⟩:=hs;exact False.elim q
section
variable {X:Cx}{x:Str}{p pos:Pos}{e:Expr}{es:List Expr}{t:TA}{id T:String}{r:List V->Hp->VK->Prop}
noncomputable def TV (r:List V->Hp->VK->Prop)(t:TA):TE:=λ σ H Q=>t σ H λ vs H1=>r vs H1 Q
theorem Iv (hc:CI X (.builtin id) r)(hg:Gl X x)(hm:X.mg x=none)(hv:bootBuiltins x=some (.builtin id))(ha:PA X (e::es) t)(hn:x ≠ "__name__" := by decide)(aD:(x==("__debug__" : Str))=false:=by decide)
 (he:starEach (e::es) X.env=(false,eval e X.env)::starEach es X.env:=by rfl) (aI:(backTo pos (starEach es X.env)).any (·.1)=false:=by rfl):PE X (.Call (.Name x p) (e::es) [] pos) (TV r t):=by
 intro pins s σ H Q I h;refine wpAny_Call_Name_kw (Jm I hg hm hv ?_ hn aD);exact PyProof.Rows.callWith_builtin1 (AZ (ha pos pins s σ H _ I h) λ us s1 ⟨vs,H1,I1,r1,q1⟩=>hc pins s1 σ H1 vs us Q I1 r1 q1) he aI
theorem GI (hc:CI X (.type T) r)(hg:Gl X x)(hm:X.mg x=none)(hv:bootBuiltins x=some (.type T))(ha:PA X (e::es) t)(hn:x ≠ "__name__" := by decide)(aD:(x==("__debug__" : Str))=false:=by decide)
 (he:starEach (e::es) X.env=(false,eval e X.env)::starEach es X.env:=by rfl) (aI:(backTo pos (starEach es X.env)).any (·.1)=false:=by rfl):PE X (.Call (.Name x p) (e::es) [] pos) (TV r t):=by
 intro pins s σ H Q I h;refine wpAny_Call_Name_kw (Jm I hg hm hv ?_ hn aD);exact PyProof.Rows.callWith_type1 (AZ (ha pos pins s σ H _ I h) λ us s1 ⟨vs,H1,I1,r1,q1⟩=>hc pins s1 σ H1 vs us Q I1 r1 q1) he aI
end
end L2
namespace HT
open PySem PyProof.Rows
section
variable {prog:Program}{w:World}{A:Around}{E:Value->Shared->Prop}{s:Shared}
noncomputable def Fg (n d:Nat):Option Int->Nat
 |none=>d
 |some v=>if v<0 then (v+(n:Int)).toNat else min v.toNat n
theorem Iw (n d:Nat):Fg n d none=d:=rfl
theorem EY (n d k:Nat):Fg n d (some (k:Int))=min k n:=by
 show (if (k:Int)<0 then ((k:Int)+(n:Int)).toNat else min (k:Int).toNat n)=min k n;rw[if_neg (by omega),Int.toNat_natCast]
end
end HT
namespace L2
open PySem PySem.Spec PyProof.Rows
noncomputable abbrev TO:=St->Hp->(Option Int->Hp->Prop)->Prop
def PO (X:Cx)(e:Option Expr)(t:TO):Prop:=
 ∀(pins:List (Addr×Obj)) (s:Shared) (σ:St) (H:Hp) (Q:Option Int->Hp->Prop),Inv X pins σ H s->t σ H Q->
  wpAny (model X.prog X.w) X.A (evalPart e X.env) (λ u s'=>∃o H',Inv X pins σ H' s'/\IsPart u o/\Q o H') X.xe s
noncomputable def Od:TO:=λ _ H Q=>Q none H
noncomputable def Se (t:TE):TO:=λ σ H Q=>t σ H λ x H1=>∃i,x=.int i/\Q (some i) H1
section
variable {X:Cx}{e:Expr}{te:TE}{lo hi:Option Expr}{tl th:TO}{pos p2:Pos}
theorem Oe:PO X none Od:=by
 intro pins s σ H Q I h;rw[evalPart_none];exact wpAny_pure ⟨none,H,I,.none,h⟩
theorem Of (h:PE X e te):PO X (some e) (Se te):=by
 intro pins s σ H Q I hw;rw[evalPart_some];refine AZ (h pins s σ H _ I hw) λ u s1 ⟨x,H1,I1,r1,q1⟩=>?_;obtain⟨i,rfl,q⟩:=q1;obtain⟨t,rfl⟩:=r1;exact⟨some i,H1,I1,.int i t,q⟩
def UJ (X:Cx)(r:V->Option Int->Option Int->Hp->VK->Prop):Prop:=
 ∀(pins:List (Addr×Obj)) (s:Shared) (σ:St) (H:Hp) (x:V) (v vl vu:Value) (lo hi:Option Int) (sl:Addr) (Q:VK),Inv X pins σ H s->RelV x v->s.heap.IsSliceOf sl vl vu .none->IsPart vl lo->IsPart vu hi->r x lo hi H Q->
  ∃T id,typeLookup (.type T) "__getitem__" = pure (some (.builtin id))/\s.TypeIs v T/\wpAny (model X.prog X.w) X.A (getItem v (.ref sl)) (EP X pins σ Q) X.xe s
noncomputable def Vb (r:V->Option Int->Option Int->Hp->VK->Prop)(te:TE)(tl th:TO):TE:=λ σ H Q=>te σ H λ x H1=>tl σ H1 λ l H2=>th σ H2 λ u H3=>r x l u H3 Q
theorem Md {r:V->Option Int->Option Int->Hp->VK->Prop}(hr:UJ X r)(he:PE X e te)(hl:PO X lo tl)(hu:PO X hi th):PE X (.Subscript e (.Slice lo hi none p2) pos) (Vb r te tl th):=by
 intro pins s σ H Q I h;refine Subscript_ (AZ (he pins s σ H _ I h) λ v s1 ⟨x,H1,I1,r1,q1⟩=>?_);refine wpAny_Slice (AZ (hl pins s1 σ H1 _ I1 q1) λ vl s2 ⟨l,H2,I2,pl,q2⟩=>AZ (hu pins s2 σ H2 _ I2 q2) λ vu s3 ⟨u,H3,I3,pu,q3⟩=>?_);rw[evalPart_none];refine wpAny_pure ?_;have I4:Inv X pins σ H3 {s3 with heap:=s3.heap.push {cls:=.type "slice",data:=.fields #[vl,vu,.none]} }:=I3.kept (t':=s3.toks) λ b ob q=>zy _ q;obtain⟨T,id,hT,ht,hg⟩:=hr pins {s3 with heap:=s3.heap.push {cls:=.type "slice",data:=.fields #[vl,vu,.none]} } σ H3 x v vl vu l u s3.heap.objs.size Q I4 r1 (Heap.IsSliceOf.new ..) pl pu q3;show wpAny (model X.prog X.w) X.A (subscriptTail e (.Slice lo hi none p2) v (.ref s3.heap.objs.size)) (EP X pins σ Q) X.xe {s3 with heap:=s3.heap.push {cls:=.type "slice",data:=.fields #[vl,vu,.none]} };exact tail_any (ops:=[.ref s3.heap.objs.size,v]) ht hT hg (by with_unfolding_all rfl)
noncomputable def Me (xs:List V)(lo hi:Option Int):List V:=(xs.drop (HT.Fg xs.length 0 lo)).take (HT.Fg xs.length xs.length hi-HT.Fg xs.length 0 lo)
theorem Iy (xs:List V)(lo hi:Option Int):(Me xs lo hi).length<=xs.length:=by
 unfold Me;rw[yf,List.length_drop];omega
end
noncomputable def Mf (n:Nat)(i:Int):Option Nat:=if 0<=i then (if i<n then some i.toNat else none) else if -(n:Int)<=i then some (i+n).toNat else none
noncomputable def Jj {α:Type}(xs:List α)(i:Int):Option α:=(Mf xs.length i).bind λ j=>xs[j]?
theorem Og {n:Nat}{i:Int}{j:Nat}(h:Mf n i=some j):seqIndex? i n=some j/\j<n/\-(n:Int)<=i/\i<n:=by
 unfold Mf at h;by_cases h0:0<=i
 ·rw[if_pos h0] at h;by_cases h1:i<n
  ·rw[if_pos h1] at h;have e:i.toNat=j:=zB h;exact⟨by rw[seqIndex_of h0 h1,e],by omega,by omega,h1⟩
  ·rw[if_neg h1] at h;cases h
 ·rw[if_neg h0] at h;by_cases h1 : -(n:Int)<=i
  ·rw[if_pos h1] at h;have e:(i+n).toNat=j:=zB h;exact⟨by rw[seqIndex_neg (by omega) h1,e],by omega,h1,by omega⟩
  ·rw[if_neg h1] at h;cases h
theorem Kc {α:Type}{xs:List α}{i:Int}{v:α}(h:Jj xs i=some v):∃j,seqIndex? i xs.length=some j/\xs[j]?=some v/\j<xs.length/\-(xs.length:Int)<=i/\i<xs.length:=by
 unfold Jj at h;cases e:Mf xs.length i with
 |none=>rw[e] at h;cases h
 |some j =>
  rw[e] at h;obtain⟨h1,h2,h3,h4⟩:=Og e;exact⟨j,h1,h,h2,h3,h4⟩
def EZ (b:Expr):Prop:=∀o i,subscripted b false o i=operate [o,i] (getItem o i)
def Oh (X:Cx)(r:R2):Prop:=
 ∀(value slice:Expr) (pins:List (Addr×Obj)) (s:Shared) (σ:St) (H:Hp) (x y:V) (v u:Value) (Q:VK),Inv X pins σ H s->RelV x v->RelV y u->r x y H Q->
  subscripted slice false v u=operate [v,u] (getItem v u)->wpAny (model X.prog X.w) X.A (subscriptTail value slice v u) (EP X pins σ Q) X.xe s
def Vc (X:Cx)(id:String)(r:V->List V->Hp->VK->Prop):Prop:=
 ∀(pins:List (Addr×Obj)) (s:Shared) (σ:St) (H:Hp) (x:V) (xs:List V) (v:Value) (us:List Value) (Q:VK),Inv X pins σ H s->RelV x v->Vals xs us->r x xs H Q->
  wpAny (model X.prog X.w) X.A (call (.builtin id) (v::us)) (EP X pins σ Q) X.xe s
section
variable {X:Cx}{a b:Expr}{ta tb:TE}{pos:Pos}
theorem Oh.or {r r':R2}(h:Oh X r)(h':Oh X r'):Oh X (λ x y H Q=>r x y H Q\/r' x y H Q):=by
 intro value slice pins s σ H x y v u Q I rx ry q hs;rcases q with q|q
 ·exact h value slice pins s σ H x y v u Q I rx ry q hs
 ·exact h' value slice pins s σ H x y v u Q I rx ry q hs
theorem Q1 {r:R2}(hr:Oh X r)(ha:PE X a ta)(hb:PE X b tb)(hs:EZ b):PE X (.Subscript a b pos) (QA r ta tb):=by
 intro pins s σ H Q I h;exact Subscript_ (O5 ha hb I h λ v u s2 x y H2 I2 rx ry q=>hr a b pins s2 σ H2 x y v u Q I2 rx ry q (hs _ _))
noncomputable def QL (K:za):R2:=λ x y H Q=>∃p xs i v,x=.ref p/\y=.int i/\D5 K H p xs/\Jj xs i=some v/\Q v H
noncomputable def QM (K:za):R2:=λ x y H Q=>∃p xs i v,x=.ref p/\y=.int i/\Fc K H p xs/\Jj xs i=some v/\Q v H
theorem Kd:Oh X (QL X.K):=by
 intro value slice pins s σ H x y v u Q I rx ry h hs;obtain⟨p,xs,i,z,rfl,rfl,hq,he,q⟩:=h;cases rx;obtain⟨t,rfl⟩:=ry;obtain⟨aa,r,pl,hz⟩:=I.list hq;obtain⟨j,h1,h2,h3,h4,h5⟩:=Kc he;obtain⟨w,ew,aQ⟩:=r.get h2;have hl:=r.length;have hn:=Ff;have fin:EP X pins σ Q w s:=⟨z,H,I,aQ,q⟩;by_cases h0:0<=i
 ·have hj:i.toNat=j:=by
   rw[seqIndex_of h0 h5] at h1;exact zB h1
  exact item_listR pl.isList h0 (by omega) (by rw[hj];simpa using ew) fin hs
 ·have hj:(i+(aa.toArray.size:Int)).toNat=j:=by
   rw[seqIndex_neg (by omega) h4] at h1;rw[zh,<-hl];exact zB h1
  exact subscriptTail_builtinR (x:=w) pl.isList.typeIs slot_list_getitem.lookup
   (wpAny_getItem_list_neg (Q:=λ r s'=>r=w/\EP X pins σ Q r s') pl.isList (by omega) (by rw[zh]<;>omega) (by omega) (by rw[hj];simpa using ew) ⟨rfl,fin⟩) hs
theorem Mg:Oh X (QM X.K):=by
 intro value slice pins s σ H x y v u Q I rx ry h hs;obtain⟨p,xs,i,z,rfl,rfl,hq,he,q⟩:=h;cases rx;obtain⟨t,rfl⟩:=ry;obtain⟨aa,r,pl,hz⟩:=I.tuple hq;obtain⟨j,h1,h2,h3,h4,h5⟩:=Kc he;obtain⟨w,ew,aQ⟩:=r.get h2;have hl:=r.length;have hn:=Ff;have fin:EP X pins σ Q w s:=⟨z,H,I,aQ,q⟩;exact subscriptTail_builtinR (x:=w) pl.typeIs slot_tuple_getitem.lookup
  (getItem_tuple (j:=j) (Q:=λ r s'=>r=w/\EP X pins σ Q r s') pl (by omega) (by omega) (by rw[zh,<-hl];exact h1) (by simpa using ew) ⟨rfl,fin⟩) hs
theorem Hr (lo hi:Option Int)(n:Nat):(sliceBounds lo hi none n).1=((HT.Fg n 0 lo:Nat):Int)/\(sliceBounds lo hi none n).2.1=((HT.Fg n n hi:Nat):Int)/\(sliceBounds lo hi none n).2.2=1:=by
 refine⟨?_,?_,rfl⟩
 ·cases lo with
  |none=>simp[sliceBounds,HT.Fg]
  |some i =>
   simp only[sliceBounds,HT.Fg,Option.getD_none,show (1:Int) > 0 by decide,if_true];by_cases h:i<0
   ·simp only[h,if_true]<;>omega
   ·simp only[h,if_false]<;>omega
 ·cases hi with
  |none=>simp[sliceBounds,HT.Fg]
  |some i =>
   simp only[sliceBounds,HT.Fg,Option.getD_none,show (1:Int) > 0 by decide,if_true];by_cases h:i<0
   ·simp only[h,if_true]<;>omega
   ·simp only[h,if_false]<;>omega
theorem Gj (aa:List Value)(lo hi:Option Int):slicePick aa.toArray lo hi none=((aa.drop (HT.Fg aa.length 0 lo)).take (HT.Fg aa.length aa.length hi-HT.Fg aa.length 0 lo)).toArray:=by
 obtain⟨h1,h2,h3⟩:=Hr lo hi aa.toArray.size;unfold slicePick;rw[h1,h2,h3];simp only[sliceRange_one,pick_run,zh]<;>rfl
def TX (K:za):V->Option Int->Option Int->Hp->VK->Prop:=λ x lo hi H Q=>∃a xs,x=.ref a/\D5 K H a xs/\∀p,H p=none->Q (.ref p) (upd H p (.lst (Me xs lo hi)))
theorem Oi:UJ X (TX X.K):=by
 intro pins s σ H x v vl vu lo hi sl Q I rx hs pl pu h;obtain⟨a,xs,rfl,hx,q⟩:=h;cases rx;obtain⟨aa,r,ht,hz⟩:=I.list hx;have hlen:=r.length;refine⟨"list",_,slot_list_getitem.lookup,ht.isList.typeIs,?_⟩;refine wpAny_getItem_list_slice ht.isList hs pl pu .none (by simp) ?_ (by rw[zh]<;>omega);rw[Gj,<-hlen];refine⟨.ref s.heap.objs.size,_,I.laid (t':=s.toks) (o:=.lst (Me xs lo hi)) (λ b ob q=>zy _ q) (zp _) ?_,rfl,q _ (I.Az.fresh (zp _))⟩;exact⟨z9 (Iy xs lo hi) hz,_,0,(r.drop (HT.Fg xs.length 0 lo)).take (HT.Fg xs.length xs.length hi-HT.Fg xs.length 0 lo),zF _ rfl⟩
theorem Hs:CI X (.builtin "len") (λ xs H Q=>∃p ys,xs=[.ref p]/\(D5 X.K H p ys\/Fc X.K H p ys)/\Q (.int ys.length) H):=by
 intro pins s σ H xs us Q I r h;obtain⟨p,ys,rfl,hq,q⟩:=h;obtain⟨u,rfl,rx⟩:=vals1 r;cases rx;have hn:=Ff;rcases hq with hq|hq
 ·obtain⟨aa,r',pl,hz⟩:=I.list hq;have hlen:=r'.length;exact Calls.call_len_list pl.isList (by simp only[zh]<;>omega) ⟨.int ys.length,H,I.tok _,⟨s.toks+1,by rw[zh,hlen]⟩,q⟩
 ·obtain⟨aa,r',pl,hz⟩:=I.tuple hq;have hlen:=r'.length;exact len_tuple pl (by simp only[zh]<;>omega) ⟨.int ys.length,H,I.tok _,⟨s.toks+1,by rw[zh,hlen]⟩,q⟩
theorem Ht:CI X (.builtin "len") (λ xs H Q=>∃z,xs=[.str z]/\z.length<=sizeLine/\Q (.int z.length) H):=by
 intro pins s σ H xs us Q I r h;obtain⟨z,rfl,hz,q⟩:=h;obtain⟨u,rfl,t,rfl⟩:=vals1 r;have hn:=Ff;exact len_str (by omega) ⟨.int z.length,H,I.tok _,⟨_,rfl⟩,q⟩
theorem Hu:CI X (.type "list") (λ xs H Q=>∃p ys,xs=[.ref p]/\(D5 X.K H p ys\/Fc X.K H p ys)/\∀l,H l=none->Q (.ref l) (upd H l (.lst ys))):=by
 intro pins s σ H xs us Q I r h;obtain⟨p,ys,rfl,hq,q⟩:=h;obtain⟨u,rfl,rx⟩:=vals1 r;cases rx;have fin:∀(aa:List Value),Vals ys aa->ys.length<=sizeLine->∀(h':Heap) (c':Nat),(∀b o',s.heap.get? b=some o'->h'.get? b=some o')->
  h'.get? s.heap.objs.size=some {cls:=.type "list",dict:=none,data:=.seq aa.toArray c',slots:=#[]}->EP X pins σ Q (.ref s.heap.objs.size) {s with heap:=h' }:=λ aa r' hz h' c' kp e =>
  ⟨.ref s.heap.objs.size,_,I.laid (t':=s.toks) kp (zp _) (show B6 X.prog X.w _ h' _ (.lst ys) from ⟨hz,aa,c',r',e⟩),rfl,q _ (I.Az.fresh (zp _))⟩
 rcases hq with hq|hq
 ·obtain⟨aa,r',pl,hz⟩:=I.list hq;have hlen:=r'.length;obtain⟨o,ho,hc,n,hd⟩:=pl.isList;exact call_list_seq p (.inl rfl) ho hc hd (λ h' c' kp e=>fin aa r' hz h' c' kp e) (by simp only[zh]<;>omega)
 ·obtain⟨aa,r',pl,hz⟩:=I.tuple hq;have hlen:=r'.length;obtain⟨o,ho,hc,n,hd⟩:=pl;exact call_list_seq p (.inr rfl) ho hc hd (λ h' c' kp e=>fin aa r' hz h' c' kp e) (by simp only[zh]<;>omega)
def UK (K:za)(T:String)(x:V)(H:Hp):Prop:=match x with
 | .str _=>T = "str"
 | .int _=>T = "int"
 | .ref p=>(T = "list" /\ ∃xs,D5 K H p xs)\/(T = "tuple" /\ ∃o,K.lookup p=some o/\o.cls=.type "tuple" /\ o.dict=none) \/
  (T = "dict" /\ ((∃kvs,H p=some (.dK kvs))\/∃kvs,H p=some (.dT kvs)))\/(T = "set" /\ ∃S n,H p=some (.set S n))
 |_=>False
theorem QN {pins:List (Addr×Obj)}{σ:St}{H:Hp}{s:Shared}{T:String}{x:V}{v:Value}(I:Inv X pins σ H s)(r:RelV x v)(ty:UK X.K T x H):
 s.TypeIs v T/\∀a,v=.ref a->∃ob,s.heap.get? a=some ob/\ob.dict=none:=by
 cases x with
 |str z =>
  obtain⟨t,rfl⟩:=r;cases (show T = "str" from ty);exact⟨typeIs_str s z t,λ _ e=>nomatch e⟩
 |int i =>
  obtain⟨t,rfl⟩:=r;cases (show T = "int" from ty);exact⟨typeIs_int s i t,λ _ e=>nomatch e⟩
 |ref p =>
  cases r;rcases ty with ⟨rfl,xs,hq⟩|⟨rfl,o,hk,hc,hd⟩|⟨rfl,hk⟩|⟨rfl,S,n,hk⟩
  ·obtain⟨aa,_,pl,_⟩:=I.list hq;refine⟨pl.isList.typeIs,λ a e=>?_⟩;cases e;obtain⟨o,n,e,c,hd,_⟩:=pl;exact⟨o,e,hd⟩
  ·refine⟨⟨o,I.K6 p o hk,hc⟩,λ a e=>?_⟩;cases e;exact⟨o,I.K6 _ o hk,hd⟩
  ·have z:∃o,s.heap.get? p=some o/\o.ExactDict:=by
    rcases hk with ⟨kvs,hk⟩|⟨kvs,hk⟩
    ·obtain⟨_,_,_,_,o,_,_,e,ex,_⟩:=I.Az p _ hk;exact⟨o,e,ex⟩
    ·obtain⟨_,_,_,_,o,_,_,e,ex,_⟩:=I.Az p _ hk;exact⟨o,e,ex⟩
   obtain⟨o,e,ex⟩:=z;refine⟨⟨o,e,ex.1⟩,λ a e2=>?_⟩;cases e2;exact⟨o,e,ex.2.1⟩
  ·obtain⟨o,_,_,_,e,ex,_⟩:=I.Az p _ hk;refine⟨⟨o,e,ex.1⟩,λ a e2=>?_⟩;cases e2;exact⟨o,e,ex.2.1⟩
 |_=>exact False.elim ty
noncomputable def Vd (K:za)(T:String)(r:V->List V->Hp->VK->Prop)(to:TE)(t:TA):TE:=λ σ H Q=>to σ H λ x H1=>UK K T x H1/\t σ H1 λ xs H2=>r x xs H2 Q
variable {o e:Expr}{es:List Expr}{to:TE}{t:TA}{name:Str}{apos ad:Pos}{T id:String}{r:V->List V->Hp->VK->Prop}
theorem Ke (pa:PlainAttrs T)(slot:Slot T name id)(bU:typeOf (.builtin id)=pure (.type "method_descriptor"))(hm:Vc X id r)(ho:PE X o to)(ha:PA X (e::es) t)
 (ak:attributeBase o name X.env (eval o X.env)=eval o X.env:=by rfl)
 (ax:((backTo ad (starEach (e::es) X.env)).all (λ x => !x.1)&&(backToKw ad (keywordEach [] X.env)).all (λ x=>x.1.isSome)
  && decide ((e::es).length+([]:List Keyword).length+(if ([]:List Keyword).isEmpty then 0 else 1)<30))=true:=by rfl)
 (al:(apos.endLine==ad.line)=true:=by rfl) (hs:starEach (e::es) X.env=(false,eval e X.env)::starEach es X.env:=by rfl) (ag:(backTo ad (starEach es X.env)).any (·.1)=false:=by rfl):
 PE X (.Call (.Attribute o name apos) (e::es) [] ad) (Vd X.K T r to t):=by
 intro pins s σ H Q I h;refine wpAny_Call_method_late ak ax al rfl (AZ (ho pins s σ H _ I h) λ v s1 ⟨x,H1,I1,r1,ty,q1⟩=>?_);obtain⟨h1,h2⟩:=QN I1 r1 ty;refine⟨T,id,pa,slot,bU,h1,h2,?_⟩;have hA:=ha ad pins s1 σ H1 _ I1 q1;rw[hs] at hA ⊢;refine Calls.callWith_builtin (by show (false||(backTo ad (starEach es X.env)).any (·.1))=false;rw[ag]<;>rfl) (Calls.evalArgs_plain ?_);exact AZ hA λ us s2 ⟨vs,H2,I2,r2,q2⟩=>hm pins s2 σ H2 x vs v us Q I2 r1 r2 q2
end
def TY (X:Cx)(id:String)(r:V->List V->Hp->VK->Prop):Prop:=
 ∀(pins:List (Addr×Obj)) (s:Shared) (σ:St) (H:Hp) (x:V) (xs:List V) (v:Value) (us:List Value) (Q:VK),Inv X pins σ H s->RelV x v->Vals xs us->r x xs H Q->
  wpAny (model X.prog X.w) X.A (call (.builtin id) (v::us)) (EP X pins σ Q) X.xe s
theorem Vals.one:∀ {x:V}{us:List Value},Vals [x] us->∃u,us=[u]/\RelV x u
 |_,_,.cons r .nil=>⟨_,rfl,r⟩
theorem Vals.two:∀ {x y:V}{us:List Value},Vals [x,y] us->∃u v,us=[u,v]/\RelV x u/\RelV y v
 |_,_,_,.cons r (.cons q .nil)=>⟨_,_,rfl,r,q⟩
theorem Vals.dropLast {xs:List V}{us:List Value}(h:Vals xs us):Vals xs.dropLast us.dropLast:=by
 induction h with
 |nil=>exact .nil
 |cons r t ih =>
  cases t with
  |nil=>exact .nil
  |cons q t'=>exact .cons r ih
section
variable {X:Cx}{pins:List (Addr×Obj)}{σ:St}{H:Hp}{s:Shared}{l b:Addr}{xs ys zs:List V}
theorem Inv.TZ {aa its':List Value}{n:Nat}{f:Array Value->Array Value}{t':Nat}(I:Inv X pins σ H s)(hH:H l=some (.lst xs))
 (e:s.heap.get? l=some {cls:=.type "list",data:=.seq aa.toArray n}) (hf:f aa.toArray=its'.toArray) (hv:Vals ys its') (hz:ys.length<=sizeLine):
 Inv X pins σ (upd H l (.lst ys)) {s with heap:=s.heap.update l (Obj.mapSeq f),toks:=t' }:=by
 have q:=PySem.IsL.update e f;rw[hf] at q;refine I.write (x:=l) (e:=l) (by rw[hH];exact trivial) (.inl rfl) (λ b' u hb hu=>(Heap.get?_update_other s.heap (Obj.mapSeq f) (Ne.symm hb)).trans hu) ⟨_,q⟩ ?_;exact⟨hz,its',_,hv,q⟩
theorem Inv.U0 {aa:List Value}{t':Nat}(I:Inv X pins σ H s)(hv:Vals ys aa)(hz:ys.length<=sizeLine):
 Inv X pins σ (upd H s.heap.objs.size (.lst ys)) {s with heap:=s.heap.push {cls:=.type "list",data:=.seq aa.toArray},toks:=t' }:=
 I.laid (λ _ _ q=>zy _ q) (zp _) ⟨hz,aa,0,hv,zF _ rfl⟩
theorem Inv.fresh (I:Inv X pins σ H s):H s.heap.objs.size=none:=I.Az.fresh (zp _)
theorem Inv.U1 (I:Inv X pins σ H s)(hH:H l=some (.lst xs)):xs.length<=sizeLine/\∃(aa:List Value) (n:Nat),Vals xs aa/\xs.length=aa.length/\s.heap.get? l=some {cls:=.type "list",data:=.seq aa.toArray n}:=by
 obtain⟨z,aa,n,r,e⟩:=I.Az l _ hH;exact⟨z,aa,n,r,r.length,e⟩
end
section
variable {X:Cx}
def Oj:V->List V->Hp->VK->Prop:=λ x vs H Q=>∃l xs y,x=.ref l/\vs=[y]/\H l=some (.lst xs)/\xs.length<sizeLine/\Q .Av (upd H l (.lst (xs++[y])))
theorem GJ:TY X "list.append" Oj:=by
 intro pins s σ H x vs v us Q I rx rv h;obtain⟨l,xs,y,rfl,rfl,hH,hz,q⟩:=h;cases rx;obtain⟨u,rfl,ru⟩:=rv.one;obtain⟨z,aa,n,r,hl,e⟩:=I.U1 hH;refine call_meets F.slot_list_append ⟨_,e,rfl⟩ F.entry_list_append (F.args_list_append_2 _ _) (PySem.list_append l aa.toArray n u (by rw[zh];omega)) ⟨e,?_⟩;refine⟨.Av,_,I.TZ (its':=aa++[u]) hH e (by simp) (r.append (.cons ru .nil)) ?_,rfl,q⟩;rw[zM,List.length_singleton];omega
end
end L2
namespace eg
open PySem PySem.W PySem.Calls PyProof.Rows
theorem ES {P:Params}{h:Heap}:∀(ns:List Int) (vs:List Value),WellAll P h vs (ns.map WData.int)->IntsAre vs ns:=by
 intro ns;induction ns with
 |nil =>
  intro vs w;rw[List.map_nil] at w;cases w;exact .nil
 |cons n ns ih =>
  intro vs w;rw[zq] at w;cases w with
  |cons a b =>
   cases a;exact .cons _ _ (ih _ b)
theorem L0 {l:OpenLaw}{n:Nat}(hn:l.most=some n){P:Params}{h:Heap}{args:List WData}{vals:List Value}
 (be:l.row.toRowW.claim.pre args=true) (cT:WellAll P h vals args):
 ∃a vs ns,vals=[Value.ref a]/\args=[WData.list (ns.map WData.int)]/\h.get? a=some {cls:=.type "list",data:=.seq vs.toArray}/\IntsAre vs ns/\ns.length<=n:=by
 have eF:WShape.hasAll [] args [.list .int]=true:=(pre_splitW be).1;have hc:l.pre.holds [] {args:=args}=true:=(pre_splitW be).2;obtain⟨d,r,rfl,h1,h2⟩:=hasAllW_cons eF;obtain rfl:=hasAllW_nil h2;obtain⟨xs,rfl,h3⟩:=hasW_list h1;obtain⟨ns,rfl⟩:=items_int h3;have hlen:ns.length<=n:=by
  unfold OpenLaw.pre at hc;have h4:(WTm.not (.lt (.lit (.int (n:Int))) (.len (.arg 0)))).holds [] {args:=[.list (ns.map .int)]}=true:=by
   have h4:=(holds_andW hc).1;rw[hn] at h4;exact h4
  have h5:=condW_of h4 (w_not (w_lt w_lit (w_len_list (w_arg rfl))));rw[zj] at h5;refine Nat.le_of_not_lt λ q=>?_;have q':(n:Int)<((ns.length:Nat):Int):=by omega
  first
   |(rw[decide_eq_true q'] at h5;exact absurd h5 (by decide))
   |(simp at h5;omega)
 cases cT with
 |cons w1 w2 =>
  cases w2;cases w1 with
  |list ho cU=>exact⟨_,_,ns,rfl,rfl,ho,ES ns _ cU,hlen⟩
theorem L1 (l:OpenLaw)(args:List WData):l.row.toRowW.claim.post args (.bool true) args=true:=
 postW_of (r:=l.row.toRowW) (X:=(true==true))
  (show WShape.has [] (.bool true) .bool=true by first|rfl|decide|simp[WShape.has,WShape.arms,WShape.armsAll])
  (show (WTm.eq .res (.lit (.bool true))).value [] {args:=args,res:=some (.bool true),after:=args}=some (.bool (true==true)) from w_eq_bool (w_res rfl) w_lit) rfl
end eg
namespace L2
open PySem PySem.Spec PyProof.Rows
theorem GK:∀ {vs:List Value}{ns:List Int},IntsAre vs ns->Vals (ns.map V.int) vs
 |_,_,.nil=>.nil
 |_,_,.cons n t h=>.cons ⟨t,rfl⟩ (GK h)
def Ol (H:Hp):Prop:=∀b,H b=none\/∃o xs,H b=some (.K5 o (.lst xs))
theorem Iz {P:Program}{w:World}{K:za}{mg mb:Str->Option Value}{CX:LM}{k:Nat}{fa a:Addr}{fd:FuncData}{x:Str}{sp:Sp}{s₁:Shared}{vs:List Value}{ns:List Int}
 (KX:K.In s₁.heap) (bV:s₁.heap.Ns mainGlobals mg) (hb:s₁.heap.Ns builtinsNs mb) (eG:∀x:Str,x ≠ "__name__" -> mb x=bootBuiltins x) (cV:s₁.heap.NoLimit) (hg:s₁.gens=#[])
 (ha:s₁.heap.get? a=some {cls:=.type "list",data:=.seq vs.toArray}) (hi:IntsAre vs ns) (hl:ns.length<=sizeLine) (hr:BB k callerA)
 (F:∀base:Heap,K.In base->base.Ns mainGlobals mg->DU P w K mg base CX k fa fd [x] sp) (bW:∀(s:Shared) (u:Value),BindsTo s fd ⟨[u],[]⟩ [(x,u)])
 (bb:∀H:Hp,Ol H->D5 K H a (ns.map V.int)->sp [.ref a] H (λ v _=>v=.bl true) λ _ _ _=>False)
 (bX:∀H e s',CX [] H s₁ (λ _ _ _=>False) e s'->False):
 codeAny (model P w) callerA (.call (.ref fa) ⟨[.ref a],[]⟩) (λ r s'=>r=.ok (.ret (.bool true))/\OldK s₁.heap s'.heap/\s'.os=s₁.os/\AllBare s'.gens) s₁:=by
 have rv:=GK hi;have cW:=hi.length;have core:∀H:Hp,Ol H->D5 K H a (ns.map V.int)->D4 P w H s₁.heap->(∀b,H b≠none->b=a)->(H a≠none->K.lookup a=none)->
  codeAny (model P w) callerA (.call (.ref fa) ⟨[.ref a],[]⟩) (λ r s'=>r=.ok (.ret (.bool true))/\OldK s₁.heap s'.heap/\s'.os=s₁.os/\AllBare s'.gens) s₁:=by
  intro H hO hS Az hA hK;have aJ:∀ {b:Addr} {o:Obj},s₁.heap.get? b=some o->H b=none->(Hm s₁.heap H).get? b=some o:=λ e n=>LS e n;have bS:∀ {b:Addr} {o:Obj} {es:Array DictEntry} {ep:Nat},s₁.heap.get? b=some o->o.data=.dict es ep->H b=none:=fun {b o es ep} e d=>by
   cases q:H b with
   |none=>rfl
   |some u =>
    have e':b=a:=hA b (by rw[q];simp);subst e';rw[ha] at e;cases e;have d':Data.seq vs.toArray _=Data.dict es ep:=d;cases d'
  have c5:∀ {b:Addr} {m:Str->Option Value},s₁.heap.Ns b m->(Hm s₁.heap H).Ns b m:=fun {b m} ⟨o,es,ep,e,d,r⟩=>⟨o,es,ep,aJ e (bS e d),d,r⟩;have eh:K.In (Hm s₁.heap H):=λ b o e=>aJ (KX b o e) (by
   cases q:H b with
   |none=>rfl
   |some u =>
    have e':b=a:=hA b (by rw[q];simp);subst e';rw[hK (by rw[q];simp)] at e;cases e)
  have hM:Mod K mg (Hm s₁.heap H):=⟨eh,c5 bV,⟨mb,c5 hb,eG⟩,let ⟨mc,h1,h2⟩:=cV;⟨mc,c5 h1,h2⟩⟩;have e0:Oa P w K mg (Hm s₁.heap H) callerA [] s₁ H:=⟨rfl,hM,λ b o e=>NY e,Nat.le_of_eq (KQ _ _),trivial,λ b hb=>absurd (show b∈([]:List Addr) from hb) (by simp),Az,.of_eq hg⟩;refine codeAny_mono ((F _ eh (c5 bV)).run callerA [] s₁ H ⟨[.ref a],[]⟩ [.ref a] [.ref a] _ _ hr e0 (bW s₁ (.ref a)) (.cons rfl .nil) (bb H hO hS)) λ r s' h=>?_;cases r with
  |error e=>exact (bX H e s' h).elim
  |ok fl =>
   cases fl with
   |next|brk|cont=>exact False.elim h
   |ret u =>
    obtain⟨v,H',os,bare,un,bw,r',q⟩:=h;have q':v=.bl true:=q;subst q';obtain rfl:u=Value.bool true:=r';refine⟨rfl,OldK.of_keep λ b o e=>?_,os,bare⟩;cases q:H b with
    |none=>exact un.keep b o e q (by intro z;exact absurd (show b∈([]:List Addr) from z) (by simp)) (by simp)
    |some u =>
     rcases hO b with z|⟨ob,xs,z⟩
     ·rw[q] at z;cases z
     ·have z2:=un.Fb b ob _ z;obtain⟨e1,_⟩:=Az b _ z;obtain⟨e2,_⟩:=bw b _ z2;rw[e] at e1;cases e1;exact e2
 cases hk:K.lookup a with
 |some o =>
  have e:=KX a o hk;rw[ha] at e;cases e;refine core (λ _=>none) (λ _=>.inl rfl) (.inr ⟨_,vs.toArray,_,hk,rfl,rfl,rfl,by rw[zh,cW];exact hl,by simpa using rv⟩) (λ b u z=>by have z':(none:Option HO)=some u:=z;cases z') (λ b z=>absurd rfl z) λ z=>absurd rfl z
 |none =>
  refine core (λ b=>if b=a then some (.K5 {cls:=.type "list",data:=.seq vs.toArray} (.lst (ns.map V.int))) else none) (λ b=>?_) (.inl (.inr ⟨{cls:=.type "list",data:=.seq vs.toArray},if_pos rfl⟩)) (λ b u z=>?_) (λ b z=>?_) λ _=>hk
  ·by_cases hb:b=a
   ·exact .inr ⟨_,_,if_pos hb⟩
   ·exact .inl (if_neg hb)
  ·by_cases hb:b=a
   ·have z':=(if_pos hb).symm.trans z;cases z';subst hb;exact⟨ha,by rw[zj];exact hl,vs,_,rv,ha⟩
   ·have z':=(if_neg hb).symm.trans z;cases z'
  ·by_cases hb:b=a
   ·exact hb
   ·exact absurd (if_neg hb) z
noncomputable abbrev Om:LM:=λ _ _ _ _ _ _=>False
noncomputable abbrev E0:XK:=λ _ _ _=>False
structure Mh (K:za)(x qual:Str)(st:Stmt)(f:Addr)(fd:FuncData):Prop where
 ex:∃(oc:Value) (od:Option Addr) (kV doc pm:Value) (an:Option Addr) (Bh ct:Value) (Oc:Array (Option Value)),
  fd=zD x qual (AE st) (Ax st) (A4 st) .none kV doc pm an Bh ct/\K.lookup f=some ⟨oc,od,.func fd,Oc⟩/\zQ K Bh qual=true
 kp:zL K (.ref f)=true
section
variable {P:Program}{w:World}{K:za}{mg:Str->Option Value}{base:Heap}
theorem Mh.ok {x qual:Str}{st:Stmt}{f:Addr}{fd:FuncData}{N ps:List Str}{k:Nat}{sp:Sp}(F:Mh K x qual st f fd)(S:Ak N ps (A4 st))(len:∀vs H Q E,sp vs H Q E->vs.length=ps.length)
 (aP:∀(Bh:Value) (A:Around) (outer:List Env) (s:Shared) (H:Hp) (vs:List V) (Q:VK) (E:XK),BB k (A.deeper (envOfC qual (A4 st) s.heap.objs.size f Bh))->sp vs H Q E->
  ∃t,KS (ER Om P w K mg base N qual (A4 st) f Bh A outer s H E).S0 (Ax st) t/\t {nx:=λ _ H'=>Q .Av H',rt:=Q} (start N vs) H):DU P w K mg base Om (k+1) f fd ps sp:=by
 obtain⟨oc,od,kV,doc,pm,an,Bh,ct,Oc,rfl,lk,aG⟩:=F.ex;refine PZ lk aG S len λ A outer s H vs Q E hr bb=>?_;obtain⟨t,h,q⟩:=aP Bh A outer s H vs Q E hr bb;exact⟨t,h.S0,q⟩
theorem Mh.binds {x qual:Str}{st:Stmt}{f:Addr}{fd:FuncData}{ps:List Str}(F:Mh K x qual st f fd)
 (h:∀(kV doc pm:Value) (an:Option Addr) (Bh ct:Value) (us:List Value),us.length=ps.length->bindArgs (zD x qual (AE st) (Ax st) (A4 st) .none kV doc pm an Bh ct) ⟨us,[]⟩=pure (ps.zip us)):Binds K fd ps []:=by
 obtain⟨oc,od,kV,doc,pm,an,Bh,ct,Oc,rfl,lk,aG⟩:=F.ex;exact .all (h kV doc pm an Bh ct)
theorem Jr {x qual:Str}{st:Stmt}{f:Addr}{oc:Value}{od an:Option Addr}{Oc:Array (Option Value)}{kV doc pm Bh ct:Value}(l:K.lookup f=some ⟨oc,od,.func (zD x qual (AE st) (Ax st) (A4 st) .none kV doc pm an Bh ct),Oc⟩)
 (c:zQ K Bh qual=true) (k:zL K (.ref f)=true):Mh K x qual st f (zD x qual (AE st) (Ax st) (A4 st) .none kV doc pm an Bh ct):=⟨⟨oc,od,kV,doc,pm,an,Bh,ct,Oc,rfl,l,c⟩,k⟩
end
theorem AU {n:Nat}(h:n<=1000):n<sizeLine:=Nat.lt_of_le_of_lt h (by decide)
section
variable {X:Cx}
theorem pv (i:Nat){x:Str}{pos:Pos}(hN:X.N[i]?=some x:=by rfl)(hv:Tp X.env.scope x:=by first | exact ya rfl | exact Or.inr (ya rfl) | exact Or.inr (Or.inr rfl))(hd:(x==("__debug__" : Str))=false:=by decide)
 (aG:(x==("__classdict__" : Str))=false:=by decide):PE X (.Name x pos) (KU i):=Qn hN hv hd aG
end
def A7 (H H':Hp):Prop:=∀b o,H b=some o->H' b=some o
theorem A7.refl (H:Hp):A7 H H:=λ _ _ h=>h
theorem A7.trans {H H1 H2:Hp}(a:A7 H H1)(b:A7 H1 H2):A7 H H2:=λ c o h=>b c o (a c o h)
theorem A7.seq {K:za}{H H':Hp}{a:Addr}{xs:List V}(e:A7 H H')(h:D5 K H a xs):D5 K H' a xs:=by
 rcases h with (h|⟨o,h⟩)|h
 ·exact .inl (.inl (e _ _ h))
 ·exact .inl (.inr ⟨o,e _ _ h⟩)
 ·exact .inr h
section
variable {κ:Type} [DecidableEq κ]
noncomputable def Hv (kvs:List (κ×V))(k:κ):Option V:=(kvs.find? λ kv=>decide (kv.1=k)).map (·.2)
theorem IA {p:κ×V}{r:List (κ×V)}{k:κ}(e:p.1=k):Hv (p::r) k=some p.2:=by simp[Hv,yi,e]
theorem IB {p:κ×V}{r:List (κ×V)}{k:κ}(e:¬ p.1=k):Hv (p::r) k=Hv r k:=by simp[Hv,yi,e]
theorem KV.val {kvs:List (κ×V)}{vs:List (κ×Value)}(r:KV kvs vs)(k:κ):Ii (Hv kvs k) (valueAt vs k):=by
 unfold KV at r;induction r with
 |nil=>exact True.intro
 | @cons p q ps qs h t ih =>
  obtain⟨h1,h2⟩:=h;by_cases e:p.1=k
  ·have e':q.1=k:=h1.symm.trans e;have b:valueAt (q::qs) k=some q.2:=by simp[valueAt,yi,e']
   rw[IA e,b];exact h2
  ·have e':¬ q.1=k:=λ z=>e (h1.trans z);have b:valueAt (q::qs) k=valueAt qs k:=by simp[valueAt,yi,e']
   rw[IB e,b];exact ih
end
theorem Q2 {P:Program}{w:World}{k:Key}{u:Value}(r:RelV (kV k) u):(B8 P w).is k u=true:=by
 cases k with
 |inl i=>obtain⟨t,e⟩:=(show ∃t,u=Value.int i t from r);subst e;exact Ig P w i t
 |inr x=>obtain⟨t,e⟩:=(show ∃t,u=Value.str x t from r);subst e;exact Ih P w x t
theorem GL {P:Program}{w:World}:∀ {ks:List Key}{us:List Value},Vals (ks.map kV) us->ItemsAre (B8 P w) ks us
 |[],_,r=>by rw[List.map_nil] at r;cases r;exact .nil
 |k::ks,_,r=>by
  rw[zq] at r;cases r with
  |cons h t=>exact .cons (Q2 h) (GL t)
noncomputable abbrev KT (H:Hp):List (List Key×V)->List (List Key×Addr×Value)->Prop:=Paired λ p q=>p.1=q.1/\H q.2.1=some (.tup (p.1.map kV))/\RelV p.2 q.2.2
theorem KT.val {H:Hp}{kvs:List (List Key×V)}{xs:List (List Key×Addr×Value)}(r:KT H kvs xs)(k:List Key):Ii (Hv kvs k) ((atKey xs k).map (·.2)):=by
 induction r with
 |nil=>exact True.intro
 | @cons p q ps qs h t ih =>
  obtain⟨h1,_,h2⟩:=h;by_cases e:p.1=k
  ·have e':q.1=k:=h1.symm.trans e;have b:atKey (q::qs) k=some q.2:=by simp[atKey,yi,e']
   rw[IA e,b];exact h2
  ·have e':¬ q.1=k:=λ z=>e (h1.trans z);have b:atKey (q::qs) k=atKey qs k:=by simp[atKey,yi,e']
   rw[IB e,b];exact ih
section
variable {P:Program}{w:World}{H:Hp}{h:Heap}{a:Addr}
theorem Q3 {u:HO}(ok:D4 P w H h)(e:Rd H a u):B6 P w H h a u:=e.ok ok
theorem Mi {kvs:List (Key×V)}(ok:D4 P w H h)(e:Rd H a (.dK kvs)):kvs.length<=sizeLine/\(a==sysModules)=false/\∃vs,KV kvs vs/\h.DictOf (B8 P w) a vs:=
 show B6 P w H h a (.dK kvs) from Q3 ok e
theorem Mj {ks:List Key}(ok:D4 P w H h)(e:H a=some (.tup (ks.map kV))):(tupleKind (B8 P w)).is h ks a:=by
 obtain⟨_,aa,r,o,h1,h2,n,h3⟩:=(show B6 P w H h a (.tup (ks.map kV)) from ok a _ e);exact⟨o,aa.toArray,n,h1,h2,h3,by simpa using GL r⟩
theorem Mk {kvs:List (List Key×V)}(ok:D4 P w H h)(e:Rd H a (.dT kvs)):kvs.length<=sizeLine/\(a==sysModules)=false/\
 ∃xs,KT H kvs xs/\h.DictOfH (tupleKind (B8 P w)) a xs:=by
 obtain⟨z,y,xs,r,o,es,ep,h1,h2,h3,h4,h5⟩:=(show B6 P w H h a (.dT kvs) from Q3 ok e);refine⟨z,y,xs,r,o,es,ep,h1,h2,h3,h4,λ x hx=>?_,h5⟩;have all:∀ {l:List (List Key×V)} {m:List (List Key×Addr×Value)},KT H l m->∀x∈m,(tupleKind (B8 P w)).is h x.1 x.2.1:=by
  intro l m q;induction q with
  |nil=>intro x hx;exact nomatch hx
  | @cons p q ps qs hq t ih =>
   intro x hx;rcases zm.mp hx with e|hx
   ·subst e;exact Mj ok (by rw[<-hq.1];exact hq.2.1)
   ·exact ih x hx
 exact all r x hx
end
def Oo (H:Hp)(a:Addr)(y:V)(r:Option V):Prop:=
 (∃kvs k,Rd H a (.dK kvs)/\y=kV k/\r=Hv kvs k)\/∃kvs k b,Rd H a (.dT kvs)/\y=.ref b/\H b=some (.tup (k.map kV))/\r=Hv kvs k
section
variable {X:Cx}{pins:List (Addr×Obj)}{σ:St}{H:Hp}{s:Shared}{a:Addr}{y v:V}{u r:Value}{o:Option V}{A:Around}{E:Value->Shared->Prop}
theorem L3 {Q:Value->Shared->Prop}(hu:A.units+1<cLine)(I:Inv X pins σ H s)(g:Oo H a y (some v))(ry:RelV y u)(h:∀w' s',Inv X pins σ H s'->RelV v w'->Q w' s'):
 wpAny (model X.prog X.w) A (getItem (.ref a) u) Q E s:=by
 rcases g with ⟨kvs,k,e,ey,l⟩|⟨kvs,k,b,e,ey,eb,l⟩
 ·subst ey;obtain⟨z,hd,vs,rel,dd⟩:=Mi I.Az e;obtain⟨w',hw,aQ⟩:=Ii.some_of (v:=v) (o:=valueAt vs k) (by rw[l];exact rel.val k);exact wpAny_getItem_of (Q2 ry) dd.mapOf hw (h w' _ (I.tok _) aQ)
 ·subst ey;cases (show u=Value.ref b from ry);obtain⟨z,hd,xs,rel,dd⟩:=Mk I.Az e;obtain⟨w',hw,aQ⟩:=Ii.some_of (v:=v) (o:=(atKey xs k).map (·.2)) (by rw[l];exact rel.val k);obtain⟨p,hp,eH⟩:=Option.map_eq_some_iff.mp hw;refine wpAny_getItem_heap (tupleKind_room_in1 hu) (Mj I.Az eb) dd hp ?_;rw[eH];exact h w' _ (I.tok _) aQ
end
theorem IC {X:Cx}{pins:List (Addr×Obj)}{σ:St}{H:Hp}{s:Shared}{a:Addr}{y:V}{o:Option V}(I:Inv X pins σ H s)(g:Oo H a y o):s.TypeIs (.ref a) "dict" := by
 rcases g with ⟨kvs,k,e,_,_⟩|⟨kvs,k,b,e,_,_,_⟩
 ·obtain⟨_,_,vs,_,dd⟩:=Mi I.Az e;exact dd.typeIs
 ·obtain⟨_,_,xs,_,dd⟩:=Mk I.Az e;exact dd.typeIs
def Ve (H:Hp)(a:Addr):Prop:=(∃kvs,Rd H a (.dK kvs))\/∃kvs,Rd H a (.dT kvs)
theorem Ml {X:Cx}{pins:List (Addr×Obj)}{σ:St}{H:Hp}{s:Shared}{a:Addr}(I:Inv X pins σ H s)(d:Ve H a):
 s.TypeIs (.ref a) "dict" /\ (∀b,Value.ref a=.ref b->∃ob,s.heap.get? b=some ob/\ob.dict=none)/\(a==sysModules)=false:=by
 rcases d with ⟨kvs,e⟩|⟨kvs,e⟩
 ·obtain⟨_,hd,vs,_,dd⟩:=Mi I.Az e;refine⟨dd.typeIs,λ b q=>?_,hd⟩;cases q;obtain⟨ob,_,_,h1,h2,_⟩:=dd;exact⟨ob,h1,h2.2.1⟩
 ·obtain⟨_,hd,xs,_,dd⟩:=Mk I.Az e;refine⟨dd.typeIs,λ b q=>?_,hd⟩;cases q;obtain⟨ob,_,_,h1,h2,_⟩:=dd;exact⟨ob,h1,h2.2.1⟩
noncomputable def Fh (sc outer:Scope):Bool:=
 decide (sc.kind=.function)&&sc.names.all λ y=>decide (y.2≠.cell)&&(decide (y.2≠.free)||decide (outer.names.lookup y.1=some .cell)||decide (outer.names.lookup y.1=some .free))&&(decide (y.2≠.local)||decide (sc.names.lookup y.1=some .local))
noncomputable def L4 (N NB:List Str)(sc:Scope)(μ:List (Option Nat)):Bool:=
 decide (NB.length=μ.length)&&(NB.zip μ).all λ p=>match p.2 with
  |none=>true
  |some i=>decide (N[i]?=some p.1)&&decide (sc.names.lookup p.1=some .free)
noncomputable def Dx (μ:List (Option Nat))(σ:St):St:=μ.map λ o=>o.bind λ i=>(σ[i]?).join
noncomputable def Dy (cells:List (Str×Addr)):List (Str×NameKind)->List (Str×Addr)->List (Str×Addr)
 |[],cs=>cs
 |(n,k)::r,cs=>Dy cells r (if (k==.free)=true then (n,(cells.lookup n).getD 0)::cs else cs)
theorem Gk {scope:Scope}{env:Env}(h:∀y∈scope.names,y.2=.free->∃c,env.cells.lookup y.1=some c):closureFor scope env=pure (Dy env.cells scope.names []):=by
 unfold closureFor;have key:∀(names:List (Str×NameKind)) (cs:List (Str×Addr)),(∀y∈names,y.2=.free->∃c,env.cells.lookup y.1=some c)->
  (forIn names cs λ(x:Str×NameKind) r=>match x with
   |(name,kind)=>if (kind==yh)=true then do
    let __do_lift <-cellOf env name
    pure (yo ((name,__do_lift)::r))
    else pure (yo r):Sem _)=pure (Dy env.cells names cs):=by
  intro names;induction names with
  |nil=>intro cs _;rfl
  |cons y r ih =>
   intro cs hy;obtain⟨n,k⟩:=y;rw[List.forIn_cons];by_cases hk:k=.free
   ·subst hk;obtain⟨c,hc⟩:=hy (n,.free) zd rfl;have e:cellOf env n=pure c:=by unfold cellOf;rw[show env.cells.lookup n=some c from hc]
    simp only[e,beq_self_eq_true,if_true,pure_bind];rw[ih _ λ z hz=>hy z (ze _ hz)];simp only[Dy,beq_self_eq_true,if_true];rw[show env.cells.lookup n=some c from hc];rfl
   ·have hb:(k==yh)=false:=by simpa using hk
    simp only[hb,zC,if_false,pure_bind];rw[ih _ λ z hz=>hy z (ze _ hz)];simp only[Dy,hb,zC,if_false]
 have q:=key scope.names [] h;simp only[bind_pure];exact q
theorem ID {cells:List (Str×Addr)}:∀ {names:List (Str×NameKind)}{cs:List (Str×Addr)}{x:Str}{c:Addr},(x,c)∈Dy cells names cs->(x,c)∈cs\/((x,.free)∈names/\c=(cells.lookup x).getD 0)
 |[],cs,x,c,h=>.inl h
 |(n,k)::r,cs,x,c,h=>by
  rcases ID (names:=r) h with q|⟨q,e⟩
  ·by_cases hk:k=.free
   ·subst hk;simp only[beq_self_eq_true,if_true] at q;rcases zm.mp q with z|z
    ·cases z;exact .inr ⟨zd,rfl⟩
    ·exact .inl z
   ·have hb:(k==yh)=false:=by simpa using hk
    simp only[hb,zC,if_false] at q;exact .inl q
  ·exact .inr ⟨ze _ q,e⟩
theorem Fi {cells:List (Str×Addr)}:∀ {names:List (Str×NameKind)}{cs:List (Str×Addr)}{p:Str×Addr},p∈cs->p∈Dy cells names cs
 |[],_,_,h=>h
 |(n,k)::r,cs,p,h=>by
  show p∈Dy cells r _;refine Fi ?_;by_cases hk:(k==yh)=true
  ·rw[if_pos hk];exact ze _ h
  ·rw[if_neg hk];exact h
theorem Fj {cells:List (Str×Addr)}:∀ {names:List (Str×NameKind)}{cs:List (Str×Addr)}{x:Str},(x,.free)∈names->∃c,(x,c)∈Dy cells names cs
 |(n,k)::r,cs,x,h=>by
  rcases zm.mp h with z|z
  ·cases z;refine⟨(cells.lookup n).getD 0,?_⟩;show _∈Dy cells r (if (yh==yh)=true then _ else _);exact Fi (by rw[if_pos (beq_self_eq_true _)];exact zd)
  ·exact Fj (names:=r) z
theorem C0 {x:Str}{c:Addr}:∀ {l:List (Str×Addr)},(x,c)∈l->∃c',l.lookup x=some c'
 |(y,d)::r,h=>by
  rw[List.lookup_cons];by_cases e:(x==y)=true
  ·rw[e];exact⟨d,rfl⟩
  ·rw[Bool.eq_false_iff.mpr e];rcases zm.mp h with z|z
   ·cases z;exact absurd (beq_self_eq_true x) e
   ·exact C0 z
theorem DV {scope:Scope}{env:Env}{x:Str}{k:NameKind}(h:(relabel scope env).names.lookup x=some k):∃k',scope.names.lookup x=some k'/\(k=k'\/(k'=.free/\k=.cell)):=by
 unfold relabel at h;dsimp only at h;revert h;induction scope.names with
 |nil=>intro h;cases h
 |cons y r ih =>
  obtain⟨n,k'⟩:=y;intro h;rw[zq,List.lookup_cons] at h;rw[List.lookup_cons];by_cases hc:(k'==yh&&env.scope.kind==.function&&env.kindOf n==some .cell)=true
  ·dsimp only at h;rw[if_pos hc] at h;dsimp only at h;cases e:x==n with
   |true =>
    rw[e] at h;have hf:k'=.free:=by
     have:=hc;simp only[zK] at this;simpa using this.1.1
    exact⟨k',rfl,.inr ⟨hf,(zB h).symm⟩⟩
   |false=>rw[e] at h;exact ih h
  ·dsimp only at h;rw[if_neg hc] at h;dsimp only at h;cases e:x==n with
   |true=>rw[e] at h;exact⟨k',rfl,.inl (zB h).symm⟩
   |false=>rw[e] at h;exact ih h
theorem lookup_mem {α:Type}{x:Str}{k:α}:∀ {l:List (Str×α)},l.lookup x=some k->(x,k)∈l
 |(y,d)::r,h=>by
  rw[List.lookup_cons] at h;cases e:x==y with
  |true =>
   rw[e] at h;cases h;have:x=y:=by simpa using e
   subst this;exact zd
  |false=>rw[e] at h;exact ze _ (lookup_mem h)
noncomputable def blockOf (X:Cx)(s:Shared)(H:Hp)(scope:Scope)(C:Addr)(NB:List Str)(ex:List Addr):Cx:=
 {X with N:=NB,s₀:=s,H₀:=H,env:=compEnvC scope (Dy X.env.cells scope.names []) C X.env,outer:=X.stack,stack:=X.stack,ex:=ex,fn:=λ _=>false,pn:=[],xe:=λ _ _=>False}
section
variable {X:Cx}{pins:List (Addr×Obj)}{σ:St}{H:Hp}{s s4:Shared}{scope:Scope}{NB:List Str}{μ:List (Option Nat)}{fp:List Addr}{C:Addr}
theorem Er (h:Fh scope X.env.scope=true):scope.kind=.function:=by
 unfold Fh at h;simp only[zK,decide_eq_true_eq] at h;exact h.1
theorem DX {sc outer:Scope}(h:Fh sc outer=true){y:Str×NameKind}(hy:y∈sc.names):y.2≠.cell/\(y.2=.free->outer.names.lookup y.1=some .cell\/outer.names.lookup y.1=some .free)/\(y.2=.local->sc.names.lookup y.1=some .local):=by
 unfold Fh at h;simp only[zK,decide_eq_true_eq,List.all_eq_true,Bool.or_eq_true] at h;obtain⟨⟨h1,h2⟩,h3⟩:=h.2 y hy;exact⟨h1,λ e=>by
  rcases h2 with (q|q)|q
  ·exact absurd e q
  ·exact .inl q
  ·exact .inr q,λ e=>h3.elim (λ q=>absurd e q) id⟩
theorem Fl (I:Inv X pins σ H s)(h:Fh scope X.env.scope=true){x:Str}(hx:(x,.free)∈scope.names):∃c,X.env.cells.lookup x=some c:=I.ok.has x ((DX h hx).2.1 rfl)
theorem BC (I:Inv X pins σ H s)(h:Fh scope X.env.scope=true){x:Str}{c:Addr}(e:(Dy X.env.cells scope.names []).lookup x=some c):X.env.cells.lookup x=some c:=by
 rcases ID (lookup_mem e) with q|⟨q,r⟩
 ·cases q
 ·obtain⟨c',e'⟩:=Fl I h q;rw[e'] at r;rw[e',r];rfl
theorem Fm {env:Env}(h:Fh scope env.scope=true){x:Str}{k:NameKind}(hk:(relabel scope env).names.lookup x=some k)(hc:k=.cell\/k=.free):(x,.free)∈scope.names:=by
 obtain⟨k',e,q⟩:=DV hk;have m:=lookup_mem e;have n:=(DX h m).1;rcases q with q|⟨q,_⟩
 ·subst q;rcases hc with z|z
  ·exact absurd z n
  ·subst z;exact m
 ·subst q;exact m
theorem Oq (h:L4 X.N NB scope μ=true):NB.length=μ.length/\∀(j i:Nat),μ[j]?=some (some i)->∃x,NB[j]?=some x/\X.N[i]?=some x/\scope.names.lookup x=some .free:=by
 unfold L4 at h;simp only[zK,decide_eq_true_eq,List.all_eq_true] at h;refine⟨h.1,λ j i e=>?_⟩;have hj:j<NB.length:=by rw[h.1];exact (zw.mp e).1
 have m:(NB[j],some i)∈NB.zip μ:=by
  refine List.mem_iff_getElem?.mpr ⟨j,?_⟩;rw[List.getElem?_zip_eq_some];exact⟨zk hj,e⟩
 have q:=h.2 _ m;dsimp only at q;simp only[zK,decide_eq_true_eq] at q;exact⟨NB[j],zk hj,q.1,q.2⟩
theorem IE (I:Inv X pins σ H s)(av:Fh scope X.env.scope=true)(bf:L4 X.N NB scope μ=true)(bF:∀b∈fp,Gi X pins H b)(c6:∀b∈fp,∃o,s.heap.get? b=some o)
 (hC:s.heap.objs.size<=C) {h4:Heap} {t4:Nat} (ns:h4.Ns C λ _=>none) (k:∀b o,s.heap.get? b=some o->h4.get? b=some o):
 Inv (blockOf X s H scope C NB fp) [] (Dx μ σ) H {s with heap:=h4,toks:=t4}:=by
 obtain⟨hlen,bf⟩:=Oq bf;have ei:∀b o,s.heap.get? b=some o->b≠C:=λ b o e=>zG (zr (zl e) hC);have c7:∀x c,X.env.cells.lookup x=some c->c≠C:=λ x c e=>by
  obtain⟨v,o,ho,_⟩:=I.cell x c e;exact ei c o ho
 refine⟨⟨I.ok.mod,(show scope.kind=_ from Er av),I.ok.glob,I.ok.blt,hC,λ x y c h1 h2=>I.ok.inj x y c (BC I av h1) (BC I av h2),λ x hx=>?_,λ x c h _=>(by cases h),I.ok.hd,I.ok.frames,.inl rfl,λ b hb=>?_,I.bs,z9 I.ok.PQ I.sz,λ b o e hb=>?_,λ b hb hz=>?_,I.stack,I.Hn⟩,
  rfl,I.bare,Un.kept k,⟨_,ns,λ j x v e1 e2 e3=>?_⟩,λ x c e=>?_,I.Az.fresh hC,λ x c e=>I.CG x c (BC I av e),λ p hp=>(by cases hp),I.Az.kept k,?_⟩
 ·have q:(x,yh)∈scope.names:=by
   rcases hx with hx|hx
   ·exact Fm av hx (.inl rfl)
   ·exact Fm av hx (.inr rfl)
  obtain⟨c,m⟩:=Fj (cells:=X.env.cells) (cs:=[]) q;exact C0 m
 ·obtain⟨o,ho⟩:=c6 b hb;refine⟨ei b o ho,λ x c e z=>?_⟩;exact (bF b hb).2.2.2.2.1 x c (BC I av e) z
 ·rcases (bF b hb).2.2.2.1 with z|z
  ·exact I.ok.LU b o e z
  ·exact absurd (zr (zl (I.ok.bs b o e).1) z) (Nat.lt_irrefl _)
 ·rcases zm.mp (I.Jl b hz) with e|e
  ·exact (bF b hb).2.1 e
  ·exact (bF b hb).2.2.1 e
 ·have bY:(μ[j]?).map (λ o=>o.bind λ i=>(σ[i]?).join)=some (some v):=by
   rw[<-zH];exact e2
  cases q:μ[j]? with
  |none=>rw[q] at bY;cases bY
  |some o =>
   rw[q] at bY;cases o with
   |none=>cases bY
   |some i =>
    have e4:(σ[i]?).join=some v:=by simpa using bY
    have e5:σ[i]?=some (some v):=by
     cases z:σ[i]? with
     |none=>rw[z] at e4;cases e4
     |some w=>rw[z] at e4;simp at e4;rw[e4]
    obtain⟨x',n1,n2,n3⟩:=bf j i q;have ex:x'=x:=zB (n1.symm.trans e1);subst ex;have m:=lookup_mem n3;have ov:=(DX av m).2.1 rfl;obtain⟨mm,hn,hl⟩:=I.loc;obtain⟨u,r,l⟩:=hl i x' v n2 e5 (ov.elim (λ z=>.inr (.inl z)) λ z=>.inr (.inr z));refine⟨u,r,.inr ⟨?_,?_⟩⟩
    ·rcases e3 with z|z|z
     ·obtain⟨k',z1,z2⟩:=DV (k:=.local) z;rw[n3] at z1;cases z1;rcases z2 with z2|⟨_,z2⟩<;>cases z2
     ·exact .inl z
     ·exact .inr z
    ·rcases l with ⟨l,_⟩|⟨_,c,l1,l2⟩
     ·rcases ov with z|z<;>(rw[show X.env.kindOf x'=_ from z] at l;cases l)
     ·obtain⟨c',m'⟩:=Fj (cells:=X.env.cells) (cs:=[]) m;obtain⟨fW,l3⟩:=C0 m';have l4:=BC I av l3;rw[l1] at l4;cases l4;refine⟨c,l3,?_⟩;obtain⟨o,ho,hd⟩:=l2;exact⟨o,k _ _ ho,hd⟩
 ·obtain⟨v,o,ho,hd⟩:=I.cell x c (BC I av e);exact⟨v,o,k _ _ ho,hd⟩
 ·show (Dx μ σ).length=NB.length;unfold Dx;rw[zj,hlen]
theorem D4.adopt {P:Program}{w:World}{H:Hp}{h:Heap}{a:Addr}{o:HO}(x:D4 P w H h)(hn:H a=none)(new:B6 P w (upd H a o) h a o):D4 P w (upd H a o) h:=λ b u e=>by
 by_cases hb:b=a
 ·subst hb;rw[AM] at e;cases e;exact new
 ·rw[Ah hb] at e;exact (x b u e).Ij (λ c v _ q=>q) (λ c q=>by rw[Ah (Aq q hn)];exact q) λ c xs q=>by rw[Ah (Aq q hn)];exact q
theorem L5 {H':Hp}{s':Shared}{h':Heap}{D:Addr}{pl:List (Addr×Obj)}{σ':St}{aa:List Value}{ys:List V}{n:Nat}(I:Inv X pins σ H s)(bF:∀b∈fp,Gi X pins H b)(J:Inv (blockOf X s H scope C NB fp) pl σ' H' s')
 (hC:s.heap.objs.size<=C) (hD:s.heap.objs.size<=D) (bo:D≠C) (eD:s'.heap.get? D=some {cls:=.type "list",data:=.seq aa.toArray n}) (nD:H' D=none) (r:Vals ys aa) (hz:ys.length<=sizeLine)
 (sb:Heap.SameBut C s'.heap h'):Inv X pins σ (upd H' D (.lst ys)) {s' with heap:=h' }:=by
 have bx:∀b o,s.heap.get? b=some o->b≠C:=λ b o e=>zG (zr (zl e) hC);have cX:∀b o,s.heap.get? b=some o->b≠D:=λ b o e=>zG (zr (zl e) hD);have freshD:H D=none:=I.Az.fresh hD;have nC:H' C=none:=J.free;have u:Un (EI X.stack) fp H H' s.heap s'.heap:=J.base;have bw:D4 X.prog X.w H' h':=λ b ob e=>(J.Az b ob e).Ij (λ c v hc q=>(sb.2 c (by
  intro z;subst z;rcases hc with rfl|hc
  ·rw[nC] at e;cases e
  ·rw[nC] at hc;cases hc)).trans q) (λ _ q=>q) λ _ _ q=>q
 refine I.PR (ch:=fp) J.os ⟨λ b o e n hb hx=>?_,λ b o e n hb hx=>?_,λ b o e n hx=>?_,λ b o e hx=>?_,λ b xs e=>?_,λ b o u' e=>?_,λ b ps e=>?_⟩ (bw.adopt nD ⟨hz,aa,n,r,(sb.2 D bo).trans eD⟩) J.bare λ b hb=>?_
 ·exact (sb.2 b (bx b o e)).trans (u.keep b o e n hb hx)
 ·obtain⟨sl,q⟩:=u.slot b o e n hb hx;exact⟨sl,(sb.2 b (bx b o e)).trans q⟩
 ·rw[Ah (cX b o e)];exact u.free b o e n hx
 ·obtain⟨o',q⟩:=u.there b o e hx;exact⟨o',(sb.2 b (bx b o e)).trans q⟩
 ·rw[Ah (Aq e freshD)];exact u.Gf b xs e
 ·rw[Ah (Aq e freshD)];exact u.Fb b o u' e
 ·rw[Ah (Aq e freshD)];exact u.Gg b ps e
 ·obtain⟨_,f1,_,f3,f4,f5⟩:=bF b hb;exact⟨f3,f1,f4,f5⟩
end
theorem Hw {prog:Program}{w:World}{A:Around}{R:Result->Shared->Prop}{s:Shared}{elt target iter:Expr}{ifs:List Expr}{scope:Scope}{pos:Pos}{it acc:Value}{env:Env}(I:Nat->Shared->Prop)
 (turn:∀n s,I n s->wpAny (model prog w) A (pyNext it) (λ r s₁=>match r with
  |none=>R (.ok .next) s₁
  |some v=>wpAny (model prog w) A (letOwnedTupleGo target it v) (λ _ s₁'=>wpAny (model prog w) A (assign target env v) (λ _ s₂ =>
   wpAny (model prog w) A (forIn ifs true λ c r=>if r=true then do let ok <-isTrue c env (eval c env);pure (yo ok) else pure (yo r)) (λ ok s₃ =>
    if ok=true then wpAny (model prog w) A (eval elt env) (λ x s₄ =>
     wpAny (model prog w) A (call (.builtin "list.append") [acc,x]) (λ _ s₅=>∃m,m<n/\I m s₅) (λ _ _=>False) s₄) (λ _ _=>False) s₃
    else ∃m,m<n/\I m s₃) (λ _ _=>False) s₂) (λ _ _=>False) s₁') (λ _ _=>False) s₁) (λ _ _=>False) s)
 (n:Nat) (h:I n s):
 codeAny (model prog w) A (.compLoop (.ListComp elt [⟨target,iter,ifs,0⟩] scope pos) 0 it acc env) R s:=by
 refine codeAny_loop rfl I (λ n s hI=>?_) n h;show wpAny _ A ((compTurn (.ListComp elt [⟨target,iter,ifs,0⟩] scope pos) 0 it acc env).onRaise (λ x=>do noteFrame x env;theTreesLotGoes x)) _ _ s;refine wpAny_noted ?_;rw[compTurn_list];refine wpAny_bind (wpAny_standAt (wpAny_bind (wpAny_mono (turn n s hI) (λ r s₁ h₁=>?_) λ _ _ h'=>h'.elim)));cases r with
 |none=>exact wpAny_pure h₁
 |some v =>
  refine wpAny_bind (wpAny_mono h₁ (λ _ s₁' h₁'=>?_) λ _ _ h'=>h'.elim);refine wpAny_bind (wpAny_mono h₁' (λ _ s₂ h₂=>wpAny_bind (wpAny_mono h₂ (λ ok s₃ h₃=>?_) λ _ _ h'=>h'.elim)) λ _ _ h'=>h'.elim);cases ok with
  |false=>exact wpAny_pure ⟨rfl,h₃⟩
  |true =>
   exact wpAny_bind (wpAny_bind (wpAny_mono h₃ (λ x s₄ h₄=>wpAny_bind (wpAny_mono h₄ (λ _ s₅ h₅=>wpAny_pure (wpAny_pure ⟨rfl,h₅⟩)) λ _ _ h'=>h'.elim)) λ _ _ h'=>h'.elim))
def Te (X:Cx)(cs:List Expr)(t:TT):Prop:=
 ∀(pins:List (Addr×Obj)) (s:Shared) (σ:St) (H:Hp) (Q:Bool->Hp->Prop),Inv X pins σ H s->t σ H Q->
  wpAny (model X.prog X.w) X.A (forIn cs true λ c r=>if r=true then do let ok <-isTrue c X.env (eval c X.env);pure (yo ok) else pure (yo r)) (TP X pins σ Q) X.xe s
noncomputable def U2:TT:=λ _ H Q=>Q true H
theorem Ot {X:Cx}:Te X [] U2:=λ _ _ _ H _ I h=>wpAny_tests_nil ⟨H,I,h⟩
def Hx (μ:List (Option Nat))(g:TG):Prop:=∀σ x H Q,g x (Dx μ σ) H Q->g x (Dx μ σ) H λ σ' H'=>Q σ' H'/\∀(j:Nat) v,(Dx μ σ)[j]?=some (some v)->σ'[j]?=some (some v)
theorem Ou {μ:List (Option Nat)}{i:Nat}(h:μ[i]?=some none):Hx μ (K9 i):=λ σ x H Q q=>by
 refine⟨q,λ j v e=>?_⟩;have af:j≠i:=λ z=>by
  subst z;unfold Dx at e;rw[zH,h] at e;cases e
 rw[yb (Ne.symm af)];exact e
def UL (J:It)(H1:Hp)(Q:VK)(st:V->Hp->(St->Hp->Prop)->Prop)(tc:TT)(te:TE):Prop:=
 ∃W:Nat->Nat->List V->Hp->Prop,(∃m,W 0 m [] H1)/\∀i m ys H2,W i m ys H2->
  (J.stop i H2/\∀D,H2 D=none->Q (.ref D) (upd H2 D (.lst ys))) \/
  (J.go i H2/\ys.length<sizeLine/\∃N:List V->Hp->Prop,(∀aN H',N aN H'->∃m',m'<m/\W (i+1) m' aN H')/\∀x H3,J.Qx i H2 x H3->st x H3 λ σ4 H4=>tc σ4 H4 λ b H5=>if b=true then te σ4 H5 λ y H6=>N (ys++[y]) H6 else N ys H5)
noncomputable def Q4 (wi:TI)(μ:List (Option Nat))(g:TG)(tc:Shared->Hp->Addr->List Addr->TT)(te:Shared->Hp->Addr->List Addr->TE):TE:=λ σ H Q=>wi σ H λ J H1=>∀s C ex,UL J H1 Q (λ x H K=>g x (Dx μ σ) H K) (tc s H1 C ex) (te s H1 C ex)
section
variable {X:Cx}{pins:List (Addr×Obj)}{σ:St}{H2:Hp}{s2:Shared}{tg elt iter:Expr}{ifs:List Expr}{scope:Scope}{pos:Pos}{NB:List Str}{μ:List (Option Nat)}{g:TG}{tc:Shared->Hp->Addr->List Addr->TT}{te:Shared->Hp->Addr->List Addr->TE}{fp:List Addr}{it:Addr}{tn:Nat->Heap->Prop}{J:It}{Q:VK}
theorem L6 (hc:X.calm=true)(I2:Inv X pins σ H2 s2)(T:Turn X.prog X.w X.K tg J fp it tn)(bu:tn 0 s2.heap)(f2:∀b∈fp,Gi X pins H2 b)
 (av:Fh scope X.env.scope=true) (bf:L4 X.N NB scope μ=true) (cY:Hx μ g)
 (hb:∀(s:Shared) (H:Hp) (C:Addr) (ex:List Addr),PG (blockOf X s H scope C NB ex) tg g/\Te (blockOf X s H scope C NB ex) ifs (tc s H C ex)/\PE (blockOf X s H scope C NB ex) elt (te s H C ex))
 (q:∀C,UL J H2 Q (λ x H K=>g x (Dx μ σ) H K) (tc s2 H2 C fp) (te s2 H2 C fp)) {RR:Value->Addr->Result->Shared->Prop} {E:Value->Shared->Prop}
 (fin:∀(D C:Addr) (s':Shared) (H':Hp) (ys:List V) (m:Str->Option Value),s2.heap.objs.size<=D->s2.heap.objs.size<=C->D≠C->s'.heap.Ns C m->H' C=none->(∀h',Heap.SameBut C s'.heap h'->Inv X pins σ (upd H' D (.lst ys)) {s' with heap:=h' })->Q (.ref D) (upd H' D (.lst ys))->RR (.ref D) C (.ok .next) s'):
 wpAny (model X.prog X.w) X.A (newList []) (λ acc s₃=>wpAny (model X.prog X.w) X.A (newFunctionEnv scope X.env.globals (Dy X.env.cells scope.names []) [] X.env.qual none .none (some X.env)) (λ bZ s₄ =>
  codeAny (model X.prog X.w) X.A (.compStart (.ListComp elt [⟨tg,iter,ifs,0⟩] scope pos) 0 (.ref it) acc {bZ with scope:=relabel scope X.env}) (RR acc bZ.locals) s₄) E s₃) E s2:=by
 have aH:∀y∈scope.names,y.2≠.cell:=λ y hy=>(DX av hy).1;refine wpAny_newObj_type (wpAny_newFunctionEnv aH (by intro y hy;simp at hy) (λ h₁ hns₁ hsb₁=>?_) (Er av));dsimp only at hns₁ hsb₁ ⊢;generalize cZ:s2.heap.push {cls:=.type "list",dict:=none,data:=.seq ([]:List Value).toArray}=c8 at hns₁ hsb₁ ⊢;have hC:c8.objs.size=s2.heap.objs.size+1:=by rw[<-cZ,Heap.size_push]
 have bo:s2.heap.objs.size≠c8.objs.size:=by rw[hC];exact zG (Nat.lt_succ_self _)
 have ca:s2.heap.objs.size<=c8.objs.size:=by rw[hC];exact Nat.le_succ _
 have old:∀b o,s2.heap.get? b=some o->h₁.get? b=some o:=λ b o e=>hsb₁.extBut b o (by rw[hC];exact zG (Nat.lt_succ_of_lt (zl e))) (zy _ (cZ▸zy _ e));have eD:h₁.get? s2.heap.objs.size=some {cls:=.type "list",data:=.seq ([]:List Value).toArray}:=hsb₁.extBut _ _ bo (zy _ (cZ▸zF _ rfl));have c6:∀b∈fp,∃o,s2.heap.get? b=some o:=λ b hb=>let ⟨o,e,_⟩:=T.obj _ _ bu b hb;⟨o,e⟩;have da:∀b∈fp,b≠s2.heap.objs.size:=λ b hb=>let ⟨o,e⟩:=c6 b hb;zG (zl e);generalize ej:s2.heap.objs.size=D at ca bo eD da ⊢;generalize fX:c8.objs.size=C at *;have aK:s2.heap.objs.size<=D:=by rw[ej];exact zp _
 have aR:s2.heap.objs.size<=C:=by rw[ej];exact ca
 have I4:Inv (blockOf X s2 H2 scope C NB fp) [] (Dx μ σ) H2 {s2 with heap:=h₁,toks:=s2.toks+([]:List (Str×Value)).length}:=IE I2 av bf f2 c6 aR (by simpa using hns₁) old;have aA:∀ {H':Hp} {pl:List (Addr×Obj)},(∀b∈fp,H' b=none)->(∀p∈pl,p.1=D)->∀b∈fp,Gi (blockOf X s2 H2 scope C NB fp) pl H' b:=fun {H' pl} hn hp b hb=>by
  refine⟨hn b hb,(I4.ok.Tc b hb).1,I4.ok.LV b hb,.inl hb,λ x c e z=>(I4.ok.Tc b hb).2 x c e z,λ p bp z=>?_⟩;have db:p∈pl:=by simpa [blockOf] using bp
  exact da b hb (z▸hp p db)
 have eI:D∉(blockOf X s2 H2 scope C NB fp).fs:=λ z=>by
  obtain⟨_,o,ho,_⟩:=I4.ok.En.mem z;exact absurd (zl ho) (Nat.not_lt.mpr aK)
 obtain⟨W,⟨m0,w0⟩,turn⟩:=q C;have loop:∀s₃:Shared,s₃={s2 with heap:=h₁,toks:=s2.toks+([]:List (Str×Value)).length} ->
  codeAny (model X.prog X.w) X.A (.compLoop (.ListComp elt [⟨tg,iter,ifs,0⟩] scope pos) 0 (.ref it) (.ref D) (compEnvC scope (Dy X.env.cells scope.names []) C X.env)) (RR (.ref D) C) s₃:=by
  rintro s₃ rfl;refine Hw (λ n s'=>∃i ys aa k H',Inv (blockOf X s2 H2 scope C NB fp) [(D,{cls:=.type "list",data:=.seq aa k})] (Dx μ σ) H' s'/\tn i s'.heap/\(∀b∈fp,H' b=none)/\Vals ys aa.toList/\ys.length<=sizeLine/\W i n ys H') ?_ m0
   ⟨0,[],#[],0,H2,I4.DQ λ p hp=>?_,T.keep _ _ _ bu λ b hb o e=>old b o e,λ b hb=>(f2 b hb).1,.nil,zW _,w0⟩
  rotate_left
  ·have e:=zv.mp hp;subst e;exact⟨eD,I2.Az.fresh aK,bo,eI,λ v=>by simp⟩
  rintro n s3 ⟨i,ys,aa,k,H3,I3,bQ,bR,rv,hz,w3⟩;rcases turn i n ys H3 w3 with ⟨stop,qn⟩|⟨go,am,N,hN,step⟩
  ·refine wpAny_mono (T.done (blockOf X s2 H2 scope C NB fp) rfl rfl rfl hc i _ s3 _ H3 (λ _ _=>False) I3 (aA bR (by simp)) bQ stop) (λ r s4 ⟨hr,c9⟩=>?_) λ _ _ e=>e;subst hr;obtain⟨p1,p2,p3,p4,p5⟩:=c9.pin _ (zf _ zd);obtain⟨m,hn,_⟩:=id c9.loc;have e1:s4.heap.get? D=some {cls:=.type "list",data:=.seq aa.toList.toArray k}:=by simpa using p1
   exact fin D C s4 H3 ys m aK aR bo hn c9.free (λ h' sb=>L5 I2 f2 c9 aR aK bo e1 p2 rv hz sb) (qn D p2)
  ·refine wpAny_mono (T.item (blockOf X s2 H2 scope C NB fp) rfl rfl rfl hc i _ s3 _ H3 (λ _ _=>False) I3 (aA bR (by simp)) bQ go) (λ r s4 ⟨u,hr,h4⟩=>?_) λ _ _ e=>e;subst hr;refine AZ h4 λ _ s5 ⟨x,H5,I5,r5,y5,bv,cQ⟩=>?_;have cR:=I5.pinned (aA cQ (by simp)) (T.obj _ _ bv);have ba:=cY σ x H5 _ (step x H5 y5);obtain⟨hg,ht,he⟩:=hb s2 H2 C fp;refine AZ (hg _ s5 _ H5 x u _ cR r5 ba) λ _ s6 ⟨σ6,H6,I6,q6,k6⟩=>?_;refine AZ (ht _ s6 σ6 H6 _ I6 q6) λ ok s7 ⟨H7,I7,q7⟩=>?_;have again:∀ {H8:Hp} {s8:Shared} {its':Array Value} {k':Nat} {aN:List V},Inv (blockOf X s2 H2 scope C NB fp) ([(D,{cls:=.type "list",data:=.seq its' k' })]++Dv fp s5.heap) σ6 H8 s8->Vals aN its'.toList->aN.length<=sizeLine->(∃m,m<n/\W (i+1) m aN H8)->
    ∃m,m<n/\∃i ys aa k H',Inv (blockOf X s2 H2 scope C NB fp) [(D,{cls:=.type "list",data:=.seq aa k})] (Dx μ σ) H' s8/\tn i s8.heap/\(∀b∈fp,H' b=none)/\Vals ys aa.toList/\ys.length<=sizeLine/\W i m ys H':=fun {H8 s8 its' k' aN} I8 ay eJ n8=>by
    obtain⟨m',hm,w8⟩:=n8;refine⟨m',hm,i+1,aN,its',k',H8,(I8.DR.weak ?_ k6),T.keep _ _ _ bv λ b hb o e=>(I8.pin (b,o) (zf _ (zf _ (Cd hb e)))).1,λ b hb=>?_,ay,eJ,w8⟩
    ·rw[I8.len];exact I4.len
    ·obtain⟨o,e,d⟩:=T.obj _ _ bv b hb;exact (I8.pin (b,o) (zf _ (zf _ (Cd hb e)))).2.1
   cases ok with
   |false =>
    simp only[zC,if_false] at q7 ⊢;exact again I7 rv hz (hN _ _ q7)
   |true =>
    simp only[if_true] at q7 ⊢;refine AZ (he _ s7 σ6 H7 _ I7 q7) λ uy s8 ⟨y,H8,I8,r8,q8⟩=>?_;obtain⟨p1,p2,p3,p4,p5⟩:=I8.pin (D,_) (zf _ (zu _ zd));have e1:s8.heap.get? D=some {cls:=.type "list",data:=.seq aa k}:=p1;have eK:aa.size=ys.length:=by rw[<-yp];exact rv.length.symm
    refine call_meets F.slot_list_append ⟨_,e1,rfl⟩ F.entry_list_append (F.args_list_append_2 _ _) (PySem.list_append D aa k uy (by rw[eK];omega)) ⟨e1,?_⟩;have de:=PySem.IsL.update e1 (·.push uy);have Iu:Inv (blockOf X s2 H2 scope C NB fp) (Dv fp s5.heap) σ6 H8 s8:=I8.DQ λ p hp=>I8.pin p (zf _ (zf _ hp));have It:=Iu.turned (it:=D) (h':=s8.heap.update D (Obj.mapSeq (·.push uy))) (t':=s8.toks) (λ b o hb e=>(Heap.get?_update_other _ _ (Ne.symm hb)).trans e) p2 p3 (.inr aK) (λ x c e z=>?_) (λ p hp z=>?_)
    ·refine again (its':=aa.push uy) (k':=if (aa.push uy).size==aa.size then k else k+1) (It.DQ λ p hp=>?_) (by simpa using rv.append (.cons r8 .nil)) (by rw[zM,List.length_singleton];omega) (hN _ _ q8);rcases zx.mp hp with hp|hp
     ·have e:=zv.mp hp;subst e;exact⟨de,p2,p3,p4,λ v=>by simp⟩
     ·exact It.pin p (zf _ hp)
    ·have e':=BC I2 av e;obtain⟨v,o,ho,_⟩:=I2.cell x c e';exact absurd (zl ho) (by rw[z];exact Nat.not_lt.mpr aK)
    ·have bp:p∈Dv fp s5.heap:=by simpa [blockOf] using hp
     exact da p.1 (GC bp).1 z
 exact codeAny_compStart_list (loop _ rfl) (T.self _ 0 _ _ _ (T.keep _ _ _ bu λ b hb o e=>old b o e) (loop _ rfl))
theorem Ov {wi:TI}(hc:X.calm=true)(hi:PI X tg iter wi)(av:Fh scope X.env.scope=true)(bf:L4 X.N NB scope μ=true)(cY:Hx μ g)
 (hb:∀(s:Shared) (H:Hp) (C:Addr) (ex:List Addr),PG (blockOf X s H scope C NB ex) tg g/\Te (blockOf X s H scope C NB ex) ifs (tc s H C ex)/\PE (blockOf X s H scope C NB ex) elt (te s H C ex))
 (hs:∀x,foldedSetIterable iter X.env x=pure x:=by intro _;rfl):PE X (.ListComp elt [⟨tg,iter,ifs,0⟩] scope pos) (Q4 wi μ g tc te):=by
 intro pins s σ H Q I h;have bz:∀y∈scope.names,y.2=.local->scope.names.lookup y.1=some .local:=λ y hy=>(DX av hy).2.2;have cb:closureFor scope X.env=pure (Dy X.env.cells scope.names []):=Gk λ y hy e=>Fl I av (x:=y.1) (by rw[<-e];exact hy);rw[eval_ListComp];refine wpAny_comprehension_free (use:=none) rfl hs cb (Er av) bz (AZ (hi pins s σ H _ I h) λ v s1 h1=>AZ h1 λ cP s2 h2=>?_);obtain⟨it,fp,tn,J,H2,e,I2,T,bu,f2,q⟩:=h2;subst e;refine L6 (RR:=λ acc C=>compPost (model X.prog X.w) X.A X.xe none (EP X pins σ Q) acc C) hc I2 T bu f2 av bf cY hb (λ C=>q s2 C fp) ?_;intro D C s' H' ys m hD hC bo hn nC hI hq;exact⟨m,hn,λ h' sb=>⟨.ref D,_,hI h' sb,rfl,hq⟩⟩
end
inductive D where
 |Av|bl (b:Bool)|int (i:Int)|str (x:Str)|tup (ds:List D)|lst (ds:List D)|BU (x:Str)|Bc (t:Bool) (ks vs:List D)|ins (x:Str) (ns:List Str) (ds:List D)
noncomputable def Fn:Key->D
 | .inl i=>.int i
 | .inr x=>.str x
def U3 (a c:Addr)(h:Heap):Prop:=∃o,h.get? a=some o/\o.cls=.ref c/\PySem.W.notCls o=true
theorem Rd.same {H H':Hp}{a:Addr}{u:HO}(r:Rd H a u)(e:A7 H H'):Rd H' a u:=r.elim (λ h=>.inl (e _ _ h)) λ⟨o,h⟩=>.inr ⟨o,e _ _ h⟩
mutual
inductive B9 (K:za) (H:Hp):V->D->Prop
 |Av:B9 K H .Av .Av
 |bl (b):B9 K H (.bl b) (.bl b)
 |int (i):B9 K H (.int i) (.int i)
 |str (x):B9 K H (.str x) (.str x)
 |tup {a xs ds}:H a=some (.tup xs)->Aa K H xs ds->B9 K H (.ref a) (.tup ds)
 |lst {a xs ds}:D5 K H a xs->Aa K H xs ds->B9 K H (.ref a) (.lst ds)
 |DY {a kvs ds}:Rd H a (.dK kvs)->Aa K H (kvs.map Prod.snd) ds->B9 K H (.ref a) (.Bc false (kvs.map λ kv=>Fn kv.1) ds)
 |DZ {a kvs ds}:Rd H a (.dT kvs)->Aa K H (kvs.map Prod.snd) ds->B9 K H (.ref a) (.Bc true (kvs.map λ kv=>.tup (kv.1.map Fn)) ds)
 |ins {a C dx fs x ds}:zg K mainGlobals x=some (some (.ref C))->H a=some (.ins C dx fs)->Aa K H (fs.map Prod.snd) ds->B9 K H (.ref a) (.ins x (fs.map Prod.fst) ds)
 |BU {a c x}:zg K mainGlobals x=some (some (.ref c))->H a=some (.ext (U3 a c))->B9 K H (.ref a) (.BU x)
inductive Aa (K:za) (H:Hp):List V->List D->Prop
 |nil:Aa K H [] []
 |cons {x d xs ds}:B9 K H x d->Aa K H xs ds->Aa K H (x::xs) (d::ds)
end
theorem Aa.length {K:za}{H:Hp}:∀ {xs:List V}{ds:List D},Aa K H xs ds->xs.length=ds.length
 |_,_,.nil=>rfl
 |_,_,.cons _ t=>by rw[zt,zt,Aa.length t]
theorem Aa.get {K:za}{H:Hp}:∀ {xs:List V}{ds:List D}{i:Nat}{d:D},Aa K H xs ds->ds[i]?=some d->∃x,xs[i]?=some x/\B9 K H x d
 |_,_,_,_,.nil,e=>by simp at e
 |_,_,0,_,.cons r _,e=>by simp at e;subst e;exact⟨_,rfl,r⟩
 |_,_,i+1,d,.cons _ t,e=>by
  obtain⟨u,h1,h2⟩:=Aa.get (i:=i) (d:=d) t (by simpa using e);exact⟨u,by simpa using h1,h2⟩
theorem Aa.Es {K:za}{H:Hp}:∀ {xs:List V}{ds:List D}{i:Nat}{x:V},Aa K H xs ds->xs[i]?=some x->∃d,ds[i]?=some d/\B9 K H x d
 |_,_,_,_,.nil,e=>by simp at e
 |_,_,0,_,.cons r _,e=>by simp at e;subst e;exact⟨_,rfl,r⟩
 |_,_,i+1,d,.cons _ t,e=>by
  obtain⟨u,h1,h2⟩:=Aa.Es (i:=i) (x:=d) t (by simpa using e);exact⟨u,by simpa using h1,h2⟩
theorem Aa.append {K:za}{H:Hp}:∀ {xs ys:List V}{ds es:List D},Aa K H xs ds->Aa K H ys es->Aa K H (xs++ys) (ds++es)
 |_,_,_,_,.nil,h=>h
 |_,_,_,_,.cons r t,h=>.cons r (Aa.append t h)
theorem Aa.snoc {K:za}{H:Hp}{xs:List V}{ds:List D}{x:V}{d:D}(h:Aa K H xs ds)(r:B9 K H x d):Aa K H (xs++[x]) (ds++[d]):=h.append (.cons r .nil)
theorem Aa.take {K:za}{H:Hp}:∀ {xs:List V}{ds:List D}(n:Nat),Aa K H xs ds->Aa K H (xs.take n) (ds.take n)
 |_,_,0,_|_,_,_+1,.nil=>.nil
 |_,_,n+1,.cons r t=>.cons r (Aa.take n t)
theorem Aa.drop {K:za}{H:Hp}:∀ {xs:List V}{ds:List D}(n:Nat),Aa K H xs ds->Aa K H (xs.drop n) (ds.drop n)
 |_,_,0,r=>r
 |_,_,_+1,.nil=>.nil
 |_,_,n+1,.cons _ t=>Aa.drop n t
theorem Aa.ints {K:za}{H:Hp}:∀(ns:List Int),Aa K H (ns.map V.int) (ns.map D.int)
 |[]=>.nil
 |n::r=>.cons (.int n) (Aa.ints r)
mutual
theorem B9.mono {K:za}{H H':Hp}(e:A7 H H'):∀ {v:V}{d:D},B9 K H v d->B9 K H' v d
 |_,_,.Av=>.Av
 |_,_,.bl b=>.bl b
 |_,_,.int i=>.int i
 |_,_,.str x=>.str x
 |_,_,.tup h r=>.tup (e _ _ h) (Aa.mono e r)
 |_,_,.lst h r=>.lst (e.seq h) (Aa.mono e r)
 |_,_,.DY h r=>.DY (h.same e) (Aa.mono e r)
 |_,_,.DZ h r=>.DZ (h.same e) (Aa.mono e r)
 |_,_,.ins n h r=>.ins n (e _ _ h) (Aa.mono e r)
 |_,_,.BU h r=>.BU h (e _ _ r)
theorem Aa.mono {K:za}{H H':Hp}(e:A7 H H'):∀ {vs:List V}{ds:List D},Aa K H vs ds->Aa K H' vs ds
 |_,_,.nil=>.nil
 |_,_,.cons h t=>.cons (B9.mono e h) (Aa.mono e t)
end
theorem Bm {H:Hp}{p:Addr}(h:H p=none)(o:HO):A7 H (upd H p o):=λ b u q=>by rw[Ah (Aq q h)];exact q
mutual
noncomputable def Ad:D->D->Bool
 | .Av,.Av=>true
 | .bl a,.bl b| .int a,.int b| .str a,.str b=>a==b
 | .bl a,.int b=>(if a then 1 else 0)==b
 | .int a,.bl b=>a==(if b then 1 else 0)
 | .tup a,.tup b| .lst a,.lst b=>Bu a b
 | .BU a,.BU b=>a==b
 | .Bc s a b,.Bc t c d=>(s==t)&&(Bu a c&&Bu b d)
 | .ins x n a,.ins y m b=>(x==y)&&((n==m)&&Bu a b)
 |_,_=>false
noncomputable def Bu:List D->List D->Bool
 |[],[]=>true
 |a::r,b::t=>Ad a b&&Bu r t
 |_,_=>false
end
mutual
theorem CJ:∀d:D,Ad d d=true
 | .Av=>by simp[Ad]
 | .bl b| .int b| .str b=>by simp[Ad]
 | .tup b| .lst b=>by simp only[Ad];exact BA b
 | .BU b=>by simp[Ad]
 | .Bc s a b=>by simp only[Ad];rw[BA a,BA b];simp
 | .ins x n a=>by simp only[Ad];rw[BA a];simp
theorem BA:∀d:List D,Bu d d=true
 |[]=>by simp[Bu]
 |a::r=>by simp only[Bu,CJ a,BA r,Bool.and_true]
end
mutual
noncomputable def Ag:D->Bool
 | .tup a| .lst a=>Fo a
 | .BU _| .Bc _ _ _| .ins _ _ _=>false
 |_=>true
noncomputable def Fo:List D->Bool
 |[]=>true
 |a::r=>Ag a&&Fo r
end
theorem AV:∀ {ds:List D}{d:D},d∈ds->Fo ds=true->Ag d=true
 |a::r,d,h,q=>by
  rw[Fo,zK] at q;rcases zm.mp h with z|z
  ·subst z;exact q.1
  ·exact AV z q.2
mutual
noncomputable def E5:D->Nat
 | .tup a| .lst a=>ET a+1
 |_=>0
noncomputable def ET:List D->Nat
 |[]=>0
 |a::r=>max (E5 a) (ET r)
end
theorem Cf:∀ {ds:List D}{d:D},d∈ds->E5 d<=ET ds
 |a::r,d,h=>by
  rw[ET];rcases zm.mp h with z|z
  ·subst z;exact Nat.le_max_left _ _
  ·exact z9 (Cf z) (Nat.le_max_right _ _)
theorem IF:∀ {a b:List D},Bu a b=true->a.length=b.length
 |[],[],_=>rfl
 |[],_::_,h|_::_,[],h=>by simp[Bu] at h
 |a::r,b::t,h=>by
  simp only[Bu,zK] at h;rw[zt,zt,IF h.2]
theorem BD:∀(a b:List D),a.length=b.length->(List.range a.length).all (λ j=>Ad (a.getD j .Av) (b.getD j .Av))=Bu a b
 |[],[],_=>by simp[Bu]
 |a::r,b::t,h=>by
  have ih:=BD r t (by simpa using h);rw[zt,List.range_succ_eq_map,List.all_cons,List.all_map,Bu,<-ih];simp[Function.comp_def]
 |[],_::_,h|_::_,[],h=>by cases h
theorem F0 {a b:List D}(h:a.length≠b.length):Bu a b=false:=by
 cases e:Bu a b with
 |false=>rfl
 |true=>exact absurd (IF e) h
theorem Fp (a b:List D):((List.range (min a.length b.length)).all (λ j=>Ad (a.getD j .Av) (b.getD j .Av))&&(a.length==b.length))=Bu a b:=by
 by_cases h:a.length=b.length
 ·rw[<-BD a b h,h];simp
 ·rw[F0 h,beq_false_of_ne h,Bool.and_false]
section
variable {X:Cx}{pins:List (Addr×Obj)}{σ:St}{H:Hp}{s:Shared}
theorem Kf (I:Inv X pins σ H s){a:Addr}{xs ys:List V}(h:D5 X.K H a xs)(h':Fc X.K H a ys):False:=by
 obtain⟨aa,_,⟨o,n,e,c,_,_⟩,_⟩:=I.list h;obtain⟨its',_,⟨o',e',c',_⟩,_⟩:=I.tuple h';rw[e] at e';cases e';rw[c] at c';revert c';decide
mutual
theorem Ox (I:Inv X pins σ H s):∀ {v:V}{d d':D},Ag d=true->Ag d'=true->B9 X.K H v d->B9 X.K H v d'->d=d'
 |_,_,_,_,_,.Av,.Av|_,_,_,_,_,.bl _,.bl _|_,_,_,_,_,.int _,.int _|_,_,_,_,_,.str _,.str _=>rfl
 |_,_,_,n1,n2,.tup h r,.tup h' r'=>by
  have e:=I.Eo (.of h) (.of h');subst e;rw[CK I (by rw[Ag] at n1;exact n1) (by rw[Ag] at n2;exact n2) r r']
 |_,_,_,n1,n2,.lst h r,.lst h' r'=>by
  have e:=I.Fd h h';subst e;rw[CK I (by rw[Ag] at n1;exact n1) (by rw[Ag] at n2;exact n2) r r']
 |_,_,_,_,_,.tup h _,.lst h' _=>(Kf I h' (.of h)).elim
 |_,_,_,_,_,.lst h _,.tup h' _=>(Kf I h (.of h')).elim
 |_,_,_,n1,_,.BU _ _,_|_,_,_,n1,_,.DY _ _,_|_,_,_,n1,_,.DZ _ _,_|_,_,_,n1,_,.ins _ _ _,_=>by rw[Ag] at n1;cases n1
 |_,_,_,_,n2,_,.BU _ _|_,_,_,_,n2,_,.DY _ _|_,_,_,_,n2,_,.DZ _ _|_,_,_,_,n2,_,.ins _ _ _=>by rw[Ag] at n2;cases n2
theorem CK (I:Inv X pins σ H s):∀ {v:List V}{d d':List D},Fo d=true->Fo d'=true->Aa X.K H v d->Aa X.K H v d'->d=d'
 |_,_,_,_,_,.nil,.nil=>rfl
 |_,_,_,n1,n2,.cons h r,.cons h' r'=>by
  rw[Fo,zK] at n1 n2;rw[Ox I n1.1 n2.1 h h',CK I n1.2 n2.2 r r']
end
theorem LN {xs:List V}{aa:List Value}(r:Vals xs aa)(j:Nat)(h:j<aa.toArray.size):∃x,xs[j]?=some x/\RelV x aa.toArray[j]:=by
 have h':j<aa.length:=by simpa using h
 have hx:j<xs.length:=by rw[r.length];exact h'
 obtain⟨u,hu,ru⟩:=r.get (zk hx);rw[zk h'] at hu;refine⟨xs[j],zk hx,?_⟩;have e:aa.toArray[j]=u:=by simpa using hu
 rw[e];exact ru
theorem B2 {ds:List D}{j:Nat}{d:D}(h:ds[j]?=some d):ds.getD j .Av=d:=by rw[List.getD_eq_getElem?_getD,h];rfl
theorem Hy (I:Inv X pins σ H s):∀(n:Nat) (A:Around) (d e:D) (v w:V) (u1 u2:Value),E5 d<=n->Ag d=true->Ag e=true->A.units+n<cLine->B9 X.K H v d->B9 X.K H w e->RelV v u1->RelV w u2->SeqAt.EqAt A s u1 u2 (Ad d e):=by
 intro n;induction n with
 |zero =>
  intro A d e v w u1 u2 hd ai ac hu h1 h2 r1 r2;have ae:A.units<cLine:=by omega
  cases h1 with
  |BU _ _|DY _ _|DZ _ _|ins _ _ _=>simp[Ag] at ai
  |Av =>
   cases r1;cases h2 with
   |BU _ _|DY _ _|DZ _ _|ins _ _ _=>simp[Ag] at ac
   |Av=>cases r2;simp only[Ad];exact .same _
   |bl b=>cases r2;simp only[Ad];exact .none_bool _
   |int b=>obtain⟨t,rfl⟩:=r2;simp only[Ad];exact .none_int _ _
   |str b=>obtain⟨t,rfl⟩:=r2;simp only[Ad];exact .none_str _ _
   |tup h r=>cases r2;simp only[Ad];obtain⟨_,_,p,_⟩:=I.tuple (.of h);exact .none_tuple p ae
   |lst h r=>cases r2;simp only[Ad];obtain⟨_,_,p,_⟩:=I.list h;exact .none_list p.isList ae
  |bl a =>
   cases r1;cases h2 with
   |BU _ _|DY _ _|DZ _ _|ins _ _ _=>simp[Ag] at ac
   |Av=>cases r2;simp only[Ad];exact .bool_none _
   |bl b=>cases r2;simp only[Ad];exact .bool_bool _ _
   |int b=>obtain⟨t,rfl⟩:=r2;simp only[Ad];exact .bool_int _ _ _
   |str b=>obtain⟨t,rfl⟩:=r2;simp only[Ad];exact .bool_str _ _ _
   |tup h r=>cases r2;simp only[Ad];obtain⟨_,_,p,_⟩:=I.tuple (.of h);exact .bool_tuple _ p ae
   |lst h r=>cases r2;simp only[Ad];obtain⟨_,_,p,_⟩:=I.list h;exact .bool_list _ p.isList ae
  |int a =>
   obtain⟨t',rfl⟩:=r1;cases h2 with
   |BU _ _|DY _ _|DZ _ _|ins _ _ _=>simp[Ag] at ac
   |Av=>cases r2;simp only[Ad];exact .int_none _ _
   |bl b=>cases r2;simp only[Ad];exact .int_bool _ _ _
   |int b=>obtain⟨t,rfl⟩:=r2;simp only[Ad];exact .int_int _ _ _ _
   |str b=>obtain⟨t,rfl⟩:=r2;simp only[Ad];exact .int_str _ _ _ _
   |tup h r=>cases r2;simp only[Ad];obtain⟨_,_,p,_⟩:=I.tuple (.of h);exact .int_tuple _ _ p ae
   |lst h r=>cases r2;simp only[Ad];obtain⟨_,_,p,_⟩:=I.list h;exact .int_list _ _ p.isList ae
  |str a =>
   obtain⟨t',rfl⟩:=r1;cases h2 with
   |BU _ _|DY _ _|DZ _ _|ins _ _ _=>simp[Ag] at ac
   |Av=>cases r2;simp only[Ad];exact .str_none _ _
   |bl b=>cases r2;simp only[Ad];exact .str_bool _ _ _
   |int b=>obtain⟨t,rfl⟩:=r2;simp only[Ad];exact .str_int _ _ _ _
   |str b=>obtain⟨t,rfl⟩:=r2;simp only[Ad];exact .str_str _ _ _ _
   |tup h r=>cases r2;simp only[Ad];obtain⟨_,_,p,_⟩:=I.tuple (.of h);exact .str_tuple _ _ p ae
   |lst h r=>cases r2;simp only[Ad];obtain⟨_,_,p,_⟩:=I.list h;exact .str_list _ _ p.isList ae
  |tup h r|lst h r=>rw[E5] at hd;omega
 |succ n ih =>
  intro A d e v w u1 u2 hd ai ac hu h1 h2 r1 r2;have ae:A.units<cLine:=by omega
  have ek:A.in1.units+n<cLine:=by show A.units+1+n<cLine;omega
  by_cases cc:E5 d<=n
  ·exact ih A d e v w u1 u2 cc ai ac (by omega) h1 h2 r1 r2
  cases h1 with
  |BU _ _|DY _ _|DZ _ _|ins _ _ _=>simp[Ag] at ai
  |Av|bl _|int _|str _=>exact absurd (by simp[E5]) cc
  | @tup a xs ds h r =>
   cases r1;obtain⟨aa,rv,p,_⟩:=I.tuple (.of h);cases h2 with
   |BU _ _|DY _ _|DZ _ _|ins _ _ _=>simp[Ag] at ac
   |Av=>cases r2;simp only[Ad];exact .tuple_none p ae
   |bl b=>cases r2;simp only[Ad];exact .tuple_bool _ p ae
   |int b=>obtain⟨t,rfl⟩:=r2;simp only[Ad];exact .tuple_int _ _ p ae
   |str b=>obtain⟨t,rfl⟩:=r2;simp only[Ad];exact .tuple_str _ _ p ae
   | @lst a2 aL es h' r'=>cases r2;simp only[Ad];obtain⟨_,_,p',_⟩:=I.list h';exact .tuple_list p p'.isList ae
   | @tup a2 aL es h' r' =>
    cases r2;by_cases ha:a=a2
    ·subst ha;have e':=I.Eo (.of h) (.of h');subst e';have e2:=CK I (by rw[Ag] at ai;exact ai) (by rw[Ag] at ac;exact ac) r r';subst e2;rw[CJ];exact .same _
    ·obtain⟨its',ay,p',_⟩:=I.tuple (.of h');refine .of_refs ha ?_;have q:=SeqAt.RcAt.tuples (A:=A) (e:=λ j=>Ad (ds.getD j .Av) (es.getD j .Av)) p p' ae λ j h1 h2=>?_
     ·have z1:aa.toArray.size=ds.length:=by rw[zh,<-rv.length,r.length]
      have z2:its'.toArray.size=es.length:=by rw[zh,<-ay.length,r'.length]
      rw[z1,z2,Fp] at q;simp only[Ad];exact q
     ·obtain⟨x,hx,rx⟩:=LN rv j h1;obtain⟨y,hy,ry⟩:=LN ay j h2;obtain⟨dx,ex,aS⟩:=r.Es hx;obtain⟨dy,ey,aT⟩:=r'.Es hy;rw[B2 ex,B2 ey];refine ih A.in1 dx dy x y _ _ ?_ (AV (zi ex) (by rw[Ag] at ai;exact ai)) (AV (zi ey) (by rw[Ag] at ac;exact ac)) ek aS aT rx ry;rw[E5] at hd;have:=Cf (zi ex);omega
  | @lst a xs ds h r =>
   cases r1;obtain⟨aa,rv,p,_⟩:=I.list h;cases h2 with
   |BU _ _|DY _ _|DZ _ _|ins _ _ _=>simp[Ag] at ac
   |Av=>cases r2;simp only[Ad];exact .list_none p.isList ae
   |bl b=>cases r2;simp only[Ad];exact .list_bool _ p.isList ae
   |int b=>obtain⟨t,rfl⟩:=r2;simp only[Ad];exact .list_int _ _ p.isList ae
   |str b=>obtain⟨t,rfl⟩:=r2;simp only[Ad];exact .list_str _ _ p.isList ae
   | @tup a2 aL es h' r'=>cases r2;simp only[Ad];obtain⟨_,_,p',_⟩:=I.tuple (.of h');exact .list_tuple p.isList p' ae
   | @lst a2 aL es h' r' =>
    cases r2;by_cases ha:a=a2
    ·subst ha;have e':=I.Fd h h';subst e';have e2:=CK I (by rw[Ag] at ai;exact ai) (by rw[Ag] at ac;exact ac) r r';subst e2;rw[CJ];exact .same _
    ·obtain⟨its',ay,p',_⟩:=I.list h';refine .of_refs ha ?_;have z1:aa.toArray.size=ds.length:=by rw[zh,<-rv.length,r.length]
     have z2:its'.toArray.size=es.length:=by rw[zh,<-ay.length,r'.length]
     by_cases hz:aa.toArray.size=its'.toArray.size
     ·have q:=SeqAt.RcAt.lists (A:=A) (e:=λ j=>Ad (ds.getD j .Av) (es.getD j .Av)) p.isList p'.isList hz ae λ j h1 h2=>?_
      ·rw[z1,BD ds es (by rw[<-z1,<-z2,hz])] at q;simp only[Ad];exact q
      ·obtain⟨x,hx,rx⟩:=LN rv j h1;obtain⟨y,hy,ry⟩:=LN ay j h2;obtain⟨dx,ex,aS⟩:=r.Es hx;obtain⟨dy,ey,aT⟩:=r'.Es hy;rw[B2 ex,B2 ey];refine ih A.in1 dx dy x y _ _ ?_ (AV (zi ex) (by rw[Ag] at ai;exact ai)) (AV (zi ey) (by rw[Ag] at ac;exact ac)) ek aS aT rx ry;rw[E5] at hd;have:=Cf (zi ex);omega
     ·have q:=SeqAt.RcAt.lists_lengths (A:=A) p.isList p'.isList (by simpa using hz) ae;simp only[Ad];rw[F0 (by rw[<-z1,<-z2];exact hz)];exact q
theorem U4 (I:Inv X pins σ H s)(A:Around)(d e:D)(v w:V)(u1 u2:Value)(hd:A.units+E5 d<cLine)(ai:Ag d=true)(ac:Ag e=true)(h1:B9 X.K H v d)(h2:B9 X.K H w e)(r1:RelV v u1)(r2:RelV w u2):SeqAt.RcAt A s u1 u2 (Ad d e):=by
 have ae:A.units<cLine:=by omega
 cases h1 with
 |BU _ _|DY _ _|DZ _ _|ins _ _ _=>simp[Ag] at ai
 |Av =>
  cases r1;cases h2 with
  |BU _ _|DY _ _|DZ _ _|ins _ _ _=>simp[Ag] at ac
  |Av=>cases r2;simp only[Ad];exact .none_none
  |bl b=>cases r2;simp only[Ad];exact .none_bool _
  |int b=>obtain⟨t,rfl⟩:=r2;simp only[Ad];exact .none_int _ _
  |str b=>obtain⟨t,rfl⟩:=r2;simp only[Ad];exact .none_str _ _
  |tup h r=>cases r2;simp only[Ad];obtain⟨_,_,p,_⟩:=I.tuple (.of h);exact .none_tuple  p ae
  |lst h r=>cases r2;simp only[Ad];obtain⟨_,_,p,_⟩:=I.list h;exact .none_list  p.isList ae
 |bl a =>
  cases r1;cases h2 with
  |BU _ _|DY _ _|DZ _ _|ins _ _ _=>simp[Ag] at ac
  |Av=>cases r2;simp only[Ad];exact .bool_none _
  |bl b=>cases r2;simp only[Ad];exact .bool_bool _ _
  |int b=>obtain⟨t,rfl⟩:=r2;simp only[Ad];exact .bool_int _ _ _
  |str b=>obtain⟨t,rfl⟩:=r2;simp only[Ad];exact .bool_str _ _ _
  |tup h r=>cases r2;simp only[Ad];obtain⟨_,_,p,_⟩:=I.tuple (.of h);exact .bool_tuple _ p ae
  |lst h r=>cases r2;simp only[Ad];obtain⟨_,_,p,_⟩:=I.list h;exact .bool_list _ p.isList ae
 |int a =>
  obtain⟨t',rfl⟩:=r1;cases h2 with
  |BU _ _|DY _ _|DZ _ _|ins _ _ _=>simp[Ag] at ac
  |Av=>cases r2;simp only[Ad];exact .int_none _ _
  |bl b=>cases r2;simp only[Ad];exact .int_bool _ _ _
  |int b=>obtain⟨t,rfl⟩:=r2;simp only[Ad];exact .int_int _ _ _ _
  |str b=>obtain⟨t,rfl⟩:=r2;simp only[Ad];exact .int_str _ _ _ _
  |tup h r=>cases r2;simp only[Ad];obtain⟨_,_,p,_⟩:=I.tuple (.of h);exact .int_tuple _ _ p ae
  |lst h r=>cases r2;simp only[Ad];obtain⟨_,_,p,_⟩:=I.list h;exact .int_list _ _ p.isList ae
 |str a =>
  obtain⟨t',rfl⟩:=r1;cases h2 with
  |BU _ _|DY _ _|DZ _ _|ins _ _ _=>simp[Ag] at ac
  |Av=>cases r2;simp only[Ad];exact .str_none _ _
  |bl b=>cases r2;simp only[Ad];exact .str_bool _ _ _
  |int b=>obtain⟨t,rfl⟩:=r2;simp only[Ad];exact .str_int _ _ _ _
  |str b=>obtain⟨t,rfl⟩:=r2;simp only[Ad];exact .str_str _ _ _ _
  |tup h r=>cases r2;simp only[Ad];obtain⟨_,_,p,_⟩:=I.tuple (.of h);exact .str_tuple _ _ p ae
  |lst h r=>cases r2;simp only[Ad];obtain⟨_,_,p,_⟩:=I.list h;exact .str_list _ _ p.isList ae
 | @tup a xs ds h r =>
  cases r1;obtain⟨aa,rv,p,_⟩:=I.tuple (.of h);cases h2 with
  |BU _ _|DY _ _|DZ _ _|ins _ _ _=>simp[Ag] at ac
  |Av=>cases r2;simp only[Ad];exact .tuple_none  p ae
  |bl b=>cases r2;simp only[Ad];exact .tuple_bool _ p ae
  |int b=>obtain⟨t,rfl⟩:=r2;simp only[Ad];exact .tuple_int _ _ p ae
  |str b=>obtain⟨t,rfl⟩:=r2;simp only[Ad];exact .tuple_str _ _ p ae
  | @lst a2 aL es h' r'=>cases r2;simp only[Ad];obtain⟨_,_,p',_⟩:=I.list h';exact .tuple_list p p'.isList ae
  | @tup a2 aL es h' r' =>
   cases r2;obtain⟨its',ay,p',_⟩:=I.tuple (.of h');have z1:aa.toArray.size=ds.length:=by rw[zh,<-rv.length,r.length]
   have z2:its'.toArray.size=es.length:=by rw[zh,<-ay.length,r'.length]
   have q:=SeqAt.RcAt.tuples (A:=A) (e:=λ j=>Ad (ds.getD j .Av) (es.getD j .Av)) p p' ae λ j h1 h2=>?_
   ·rw[z1,z2,Fp] at q;simp only[Ad];exact q
   ·obtain⟨x,hx,rx⟩:=LN rv j h1;obtain⟨y,hy,ry⟩:=LN ay j h2;obtain⟨dx,ex,aS⟩:=r.Es hx;obtain⟨dy,ey,aT⟩:=r'.Es hy;rw[B2 ex,B2 ey];rw[E5] at hd;have:=Cf (zi ex);exact Hy I (ET ds) A.in1 dx dy x y _ _ this (AV (zi ex) (by rw[Ag] at ai;exact ai)) (AV (zi ey) (by rw[Ag] at ac;exact ac)) (by show A.units+1+_<cLine;omega) aS aT rx ry
 | @lst a xs ds h r =>
  cases r1;obtain⟨aa,rv,p,_⟩:=I.list h;cases h2 with
  |BU _ _|DY _ _|DZ _ _|ins _ _ _=>simp[Ag] at ac
  |Av=>cases r2;simp only[Ad];exact .list_none  p.isList ae
  |bl b=>cases r2;simp only[Ad];exact .list_bool _ p.isList ae
  |int b=>obtain⟨t,rfl⟩:=r2;simp only[Ad];exact .list_int _ _ p.isList ae
  |str b=>obtain⟨t,rfl⟩:=r2;simp only[Ad];exact .list_str _ _ p.isList ae
  | @tup a2 aL es h' r'=>cases r2;simp only[Ad];obtain⟨_,_,p',_⟩:=I.tuple (.of h');exact .list_tuple p.isList p' ae
  | @lst a2 aL es h' r' =>
   cases r2;obtain⟨its',ay,p',_⟩:=I.list h';have z1:aa.toArray.size=ds.length:=by rw[zh,<-rv.length,r.length]
   have z2:its'.toArray.size=es.length:=by rw[zh,<-ay.length,r'.length]
   by_cases hz:aa.toArray.size=its'.toArray.size
   ·have q:=SeqAt.RcAt.lists (A:=A) (e:=λ j=>Ad (ds.getD j .Av) (es.getD j .Av)) p.isList p'.isList hz ae λ j h1 h2=>?_
    ·rw[z1,BD ds es (by rw[<-z1,<-z2,hz])] at q;simp only[Ad];exact q
    ·obtain⟨x,hx,rx⟩:=LN rv j h1;obtain⟨y,hy,ry⟩:=LN ay j h2;obtain⟨dx,ex,aS⟩:=r.Es hx;obtain⟨dy,ey,aT⟩:=r'.Es hy;rw[B2 ex,B2 ey];rw[E5] at hd;have:=Cf (zi ex);exact Hy I (ET ds) A.in1 dx dy x y _ _ this (AV (zi ex) (by rw[Ag] at ai;exact ai)) (AV (zi ey) (by rw[Ag] at ac;exact ac)) (by show A.units+1+_<cLine;omega) aS aT rx ry
   ·have q:=SeqAt.RcAt.lists_lengths (A:=A) p.isList p'.isList (by simpa using hz) ae;simp only[Ad];rw[F0 (by rw[<-z1,<-z2];exact hz)];exact q
theorem Sf (I:Inv X pins σ H s)(A:Around)(d e:D)(v w:V)(u1 u2:Value)(hd:A.units+E5 d<cLine)(ai:Ag d=true)(ac:Ag e=true)(h1:B9 X.K H v d)(h2:B9 X.K H w e)(r1:RelV v u1)(r2:RelV w u2):SeqAt.RcNeAt A s u1 u2 (!Ad d e):=by
 have ae:A.units<cLine:=by omega
 cases h1 with
 |BU _ _|DY _ _|DZ _ _|ins _ _ _=>simp[Ag] at ai
 |Av =>
  cases r1;cases h2 with
  |BU _ _|DY _ _|DZ _ _|ins _ _ _=>simp[Ag] at ac
  |Av=>cases r2;simp only[Ad];exact .none_none
  |bl b=>cases r2;simp only[Ad];exact .none_bool _
  |int b=>obtain⟨t,rfl⟩:=r2;simp only[Ad];exact .none_int _ _
  |str b=>obtain⟨t,rfl⟩:=r2;simp only[Ad];exact .none_str _ _
  |tup h r=>cases r2;simp only[Ad];obtain⟨_,_,p,_⟩:=I.tuple (.of h);exact .none_tuple  p ae
  |lst h r=>cases r2;simp only[Ad];obtain⟨_,_,p,_⟩:=I.list h;exact .none_list  p.isList ae
 |bl a =>
  cases r1;cases h2 with
  |BU _ _|DY _ _|DZ _ _|ins _ _ _=>simp[Ag] at ac
  |Av=>cases r2;simp only[Ad];exact .bool_none _
  |bl b=>cases r2;simp only[Ad];exact .bool_bool _ _
  |int b=>obtain⟨t,rfl⟩:=r2;simp only[Ad];exact .bool_int _ _ _
  |str b=>obtain⟨t,rfl⟩:=r2;simp only[Ad];exact .bool_str _ _ _
  |tup h r=>cases r2;simp only[Ad];obtain⟨_,_,p,_⟩:=I.tuple (.of h);exact .bool_tuple _ p ae
  |lst h r=>cases r2;simp only[Ad];obtain⟨_,_,p,_⟩:=I.list h;exact .bool_list _ p.isList ae
 |int a =>
  obtain⟨t',rfl⟩:=r1;cases h2 with
  |BU _ _|DY _ _|DZ _ _|ins _ _ _=>simp[Ag] at ac
  |Av=>cases r2;simp only[Ad];exact .int_none _ _
  |bl b=>cases r2;simp only[Ad];exact .int_bool _ _ _
  |int b=>obtain⟨t,rfl⟩:=r2;simp only[Ad];exact .int_int _ _ _ _
  |str b=>obtain⟨t,rfl⟩:=r2;simp only[Ad];exact .int_str _ _ _ _
  |tup h r=>cases r2;simp only[Ad];obtain⟨_,_,p,_⟩:=I.tuple (.of h);exact .int_tuple _ _ p ae
  |lst h r=>cases r2;simp only[Ad];obtain⟨_,_,p,_⟩:=I.list h;exact .int_list _ _ p.isList ae
 |str a =>
  obtain⟨t',rfl⟩:=r1;cases h2 with
  |BU _ _|DY _ _|DZ _ _|ins _ _ _=>simp[Ag] at ac
  |Av=>cases r2;simp only[Ad];exact .str_none _ _
  |bl b=>cases r2;simp only[Ad];exact .str_bool _ _ _
  |int b=>obtain⟨t,rfl⟩:=r2;simp only[Ad];exact .str_int _ _ _ _
  |str b=>obtain⟨t,rfl⟩:=r2;simp only[Ad];exact .str_str _ _ _ _
  |tup h r=>cases r2;simp only[Ad];obtain⟨_,_,p,_⟩:=I.tuple (.of h);exact .str_tuple _ _ p ae
  |lst h r=>cases r2;simp only[Ad];obtain⟨_,_,p,_⟩:=I.list h;exact .str_list _ _ p.isList ae
 | @tup a xs ds h r =>
  cases r1;obtain⟨aa,rv,p,_⟩:=I.tuple (.of h);cases h2 with
  |BU _ _|DY _ _|DZ _ _|ins _ _ _=>simp[Ag] at ac
  |Av=>cases r2;simp only[Ad];exact .tuple_none  p ae
  |bl b=>cases r2;simp only[Ad];exact .tuple_bool _ p ae
  |int b=>obtain⟨t,rfl⟩:=r2;simp only[Ad];exact .tuple_int _ _ p ae
  |str b=>obtain⟨t,rfl⟩:=r2;simp only[Ad];exact .tuple_str _ _ p ae
  | @lst a2 aL es h' r'=>cases r2;simp only[Ad];obtain⟨_,_,p',_⟩:=I.list h';exact .tuple_list p p'.isList ae
  | @tup a2 aL es h' r' =>
   cases r2;obtain⟨its',ay,p',_⟩:=I.tuple (.of h');have z1:aa.toArray.size=ds.length:=by rw[zh,<-rv.length,r.length]
   have z2:its'.toArray.size=es.length:=by rw[zh,<-ay.length,r'.length]
   have q:=SeqAt.RcNeAt.tuples (A:=A) (e:=λ j=>Ad (ds.getD j .Av) (es.getD j .Av)) p p' ae λ j h1 h2=>?_
   ·rw[z1,z2,Fp] at q;simp only[Ad];exact q
   ·obtain⟨x,hx,rx⟩:=LN rv j h1;obtain⟨y,hy,ry⟩:=LN ay j h2;obtain⟨dx,ex,aS⟩:=r.Es hx;obtain⟨dy,ey,aT⟩:=r'.Es hy;rw[B2 ex,B2 ey];rw[E5] at hd;have:=Cf (zi ex);exact Hy I (ET ds) A.in1 dx dy x y _ _ this (AV (zi ex) (by rw[Ag] at ai;exact ai)) (AV (zi ey) (by rw[Ag] at ac;exact ac)) (by show A.units+1+_<cLine;omega) aS aT rx ry
 | @lst a xs ds h r =>
  cases r1;obtain⟨aa,rv,p,_⟩:=I.list h;cases h2 with
  |BU _ _|DY _ _|DZ _ _|ins _ _ _=>simp[Ag] at ac
  |Av=>cases r2;simp only[Ad];exact .list_none  p.isList ae
  |bl b=>cases r2;simp only[Ad];exact .list_bool _ p.isList ae
  |int b=>obtain⟨t,rfl⟩:=r2;simp only[Ad];exact .list_int _ _ p.isList ae
  |str b=>obtain⟨t,rfl⟩:=r2;simp only[Ad];exact .list_str _ _ p.isList ae
  | @tup a2 aL es h' r'=>cases r2;simp only[Ad];obtain⟨_,_,p',_⟩:=I.tuple (.of h');exact .list_tuple p.isList p' ae
  | @lst a2 aL es h' r' =>
   cases r2;obtain⟨its',ay,p',_⟩:=I.list h';have z1:aa.toArray.size=ds.length:=by rw[zh,<-rv.length,r.length]
   have z2:its'.toArray.size=es.length:=by rw[zh,<-ay.length,r'.length]
   by_cases hz:aa.toArray.size=its'.toArray.size
   ·have q:=SeqAt.RcNeAt.lists (A:=A) (e:=λ j=>Ad (ds.getD j .Av) (es.getD j .Av)) p.isList p'.isList hz ae λ j h1 h2=>?_
    ·rw[z1,BD ds es (by rw[<-z1,<-z2,hz])] at q;simp only[Ad];exact q
    ·obtain⟨x,hx,rx⟩:=LN rv j h1;obtain⟨y,hy,ry⟩:=LN ay j h2;obtain⟨dx,ex,aS⟩:=r.Es hx;obtain⟨dy,ey,aT⟩:=r'.Es hy;rw[B2 ex,B2 ey];rw[E5] at hd;have:=Cf (zi ex);exact Hy I (ET ds) A.in1 dx dy x y _ _ this (AV (zi ex) (by rw[Ag] at ai;exact ai)) (AV (zi ey) (by rw[Ag] at ac;exact ac)) (by show A.units+1+_<cLine;omega) aS aT rx ry
   ·have q:=SeqAt.RcNeAt.lists_lengths (A:=A) p.isList p'.isList (by simpa using hz) ae;simp only[Ad];rw[F0 (by rw[<-z1,<-z2];exact hz)];exact q
noncomputable def Oy (K:za)(A:Around)(neg:Bool):R2:=λ x y H Q=>∃d e,B9 K H x d/\B9 K H y e/\A.units+E5 d<cLine/\Ag d=true/\Ag e=true/\Q (.bl (if neg=true then !Ad d e else Ad d e)) H
theorem Mm:Dw X (compareOp .Eq) (Oy X.K X.A false):=by
 intro pins s σ H x y v u Q I rx ry h;obtain⟨d,e,hd,he,hu,n1,n2,q⟩:=h;exact U4 I X.A d e x y v u hu n1 n2 hd he rx ry X.prog X.w X.xe _ ⟨.bl _,H,I,rfl,q⟩
theorem Mn:Dw X (compareOp .NotEq) (Oy X.K X.A true):=by
 intro pins s σ H x y v u Q I rx ry h;obtain⟨d,e,hd,he,hu,n1,n2,q⟩:=h;exact Sf I X.A d e x y v u hu n1 n2 hd he rx ry X.prog X.w X.xe _ ⟨.bl _,H,I,rfl,q⟩
end
inductive OT where
 |sh (d:D)|lst (ts:List OT)|tup (ts:List OT)|Bc (t:Bool) (ks:List D) (ts:List OT)|ins (x:Str) (ns:List Str) (ts:List OT)
inductive Ow where
 |rows (D6:List (List D))
 |EU (p:Nat) (ds:List D)
 |tree (p:Option Nat) (t:OT)
inductive Cl where
 |val (d:D)|own (ds:List D)|ow (o:Ow)
noncomputable abbrev A5:=List (Option Cl)
inductive M (α:Type) where
 |ok (a:α)|ex (c:Str)|bad
noncomputable def M.bind {α β:Type}(m:M α)(k:α->M β):M β:=match m with
 | .ok a=>k a
 | .ex c=>.ex c
 | .bad=>.bad
@[simp] theorem M.A6 {α β:Type}(a:α) (k:α->M β):(M.ok a).bind k=k a:=rfl
noncomputable def del (H:Hp)(P:Addr->Prop):Hp:=λ a=>open Classical in if P a then none else H a
theorem Ar {H:Hp}{P:Addr->Prop}{a:Addr}(h:¬ P a):del H P a=H a:=by unfold del;rw[if_neg h]
theorem Dz {H:Hp}{P:Addr->Prop}{a:Addr}(h:P a):del H P a=none:=by unfold del;rw[if_pos h]
theorem Aj {H:Hp}{P:Addr->Prop}{a:Addr}{o:HO}(h:del H P a=some o):¬ P a/\H a=some o:=by
 by_cases hp:P a
 ·rw[Dz hp] at h;cases h
 ·rw[Ar hp] at h;exact⟨hp,h⟩
theorem Rd.Bs {H:Hp}{P:Addr->Prop}{a:Addr}{u:HO}(r:Rd (del H P) a u):Rd H a u:=r.elim (λ h=>.inl (Aj h).2) λ⟨o,h⟩=>.inr ⟨o,(Aj h).2⟩
theorem A7.del {H H':Hp}{P:Addr->Prop}(e:A7 H H'):A7 (del H P) (del H' P):=λ b o h=>by
 obtain⟨h1,h2⟩:=Aj h;rw[Ar h1];exact e b o h2
theorem AW {H:Hp}{P P':Addr->Prop}(h:∀a,P' a->P a):A7 (L2.del H P) (L2.del H P'):=λ b o e=>by
 obtain⟨h1,h2⟩:=Aj e;rw[Ar λ z=>h1 (h b z)];exact h2
theorem C9 {H:Hp}{P:Addr->Prop}:A7 (L2.del H P) H:=λ b o e=>(Aj e).2
def D7 (H:Hp)(a:Addr):Prop:=∃o,H a=some o/\∀xs,o≠.tup xs/\∀z,o≠.K5 z (.tup xs)
theorem D7.same {H H':Hp}{a:Addr}(h:D7 H a)(e:A7 H H'):D7 H' a:=let ⟨o,q,r⟩:=h;⟨o,e a o q,r⟩
theorem D7.no {H:Hp}{a:Addr}(h:D7 H a)(e:H a=none):False:=by
 obtain⟨o,q,r⟩:=h;rw[e] at q;cases q
theorem D7.lst {H:Hp}{a:Addr}{xs:List V}(h:H a=some (.lst xs)):D7 H a:=⟨_,h,λ _=>⟨λ z=>(by cases z),λ _ z=>by cases z⟩⟩
mutual
inductive Bn (K:za) (H:Hp) (P:Addr->Prop):V->OT->List Addr->Prop
 |sh {v d}:B9 K (del H P) v d->Bn K H P v (.sh d) []
 |lst {p xs ts fp}:H p=some (.lst xs)->Ai K H P xs ts fp->Bn K H P (.ref p) (.lst ts) (p::fp)
 |tup {p xs ts fp}:del H P p=some (.tup xs)->Ai K H P xs ts fp->Bn K H P (.ref p) (.tup ts) fp
 |dK {p kvs ts fp}:H p=some (.dK kvs)->Ai K H P (kvs.map Prod.snd) ts fp->Bn K H P (.ref p) (.Bc false (kvs.map λ kv=>Fn kv.1) ts) (p::fp)
 |dT {p kvs ts fp}:H p=some (.dT kvs)->Ai K H P (kvs.map Prod.snd) ts fp->Bn K H P (.ref p) (.Bc true (kvs.map λ kv=>.tup (kv.1.map Fn)) ts) (p::fp)
 |ins {p C dx fs ts fp x}:zg K mainGlobals x=some (some (.ref C))->H p=some (.ins C dx fs)->Ai K H P (fs.map Prod.snd) ts fp->Bn K H P (.ref p) (.ins x (fs.map Prod.fst) ts) (p::fp)
inductive Ai (K:za) (H:Hp) (P:Addr->Prop):List V->List OT->List Addr->Prop
 |nil:Ai K H P [] [] []
 |cons {v t fp vs ts fq}:Bn K H P v t fp->Ai K H P vs ts fq->Ai K H P (v::vs) (t::ts) (fp++fq)
end
mutual
noncomputable def er:OT->D
 | .sh d=>d
 | .lst ts=>.lst (Jk ts)
 | .tup ts=>.tup (Jk ts)
 | .Bc t ks ts=>.Bc t ks (Jk ts)
 | .ins x ns ts=>.ins x ns (Jk ts)
noncomputable def Jk:List OT->List D
 |[]=>[]
 |t::r=>er t::Jk r
end
theorem Kg:∀ts:List OT,Jk ts=ts.map er
 |[]=>rfl
 |t::r=>by rw[Jk,Kg r,zq]
mutual
theorem Bn.move {K:za}{H H':Hp}{P P':Addr->Prop}(sm:A7 (del H P) (del H' P')):∀ {v:V}{t:OT}{fp:List Addr},(∀a∈fp,H' a=H a)->Bn K H P v t fp->Bn K H' P' v t fp
 |_,_,_,_,.sh h=>.sh (h.mono sm)
 |_,_,_,k,.lst h r=>.lst ((k _ zd).trans h) (Ai.move sm (λ a ha=>k a (ze _ ha)) r)
 |_,_,_,k,.tup h r=>.tup (sm _ _ h) (Ai.move sm k r)
 |_,_,_,k,.dK h r=>.dK ((k _ zd).trans h) (Ai.move sm (λ a ha=>k a (ze _ ha)) r)
 |_,_,_,k,.dT h r=>.dT ((k _ zd).trans h) (Ai.move sm (λ a ha=>k a (ze _ ha)) r)
 |_,_,_,k,.ins n h r=>.ins n ((k _ zd).trans h) (Ai.move sm (λ a ha=>k a (ze _ ha)) r)
theorem Ai.move {K:za}{H H':Hp}{P P':Addr->Prop}(sm:A7 (del H P) (del H' P')):∀ {v:List V}{t:List OT}{fp:List Addr},(∀a∈fp,H' a=H a)->Ai K H P v t fp->Ai K H' P' v t fp
 |_,_,_,_,.nil=>.nil
 |_,_,_,k,.cons h r=>.cons (Bn.move sm (λ a ha=>k a (zu _ ha)) h) (Ai.move sm (λ a ha=>k a (zf _ ha)) r)
end
mutual
theorem Bn.Bp {K:za}{H:Hp}{P:Addr->Prop}:∀ {v:V}{t:OT}{fp:List Addr},Bn K H P v t fp->∀a∈fp,D7 H a
 |_,_,_,.sh h,a,ha=>by cases ha
 |_,_,_,.lst h r,a,ha=>by
  rcases zm.mp ha with rfl|ha
  ·exact .lst h
  ·exact Ai.Bp r a ha
 |_,_,_,.tup h r,a,ha=>Ai.Bp r a ha
 |_,_,_,.dK h r,a,ha=>by
  rcases zm.mp ha with rfl|ha
  ·exact⟨_,h,λ _=>⟨λ z=>(by cases z),λ _ z=>by cases z⟩⟩
  ·exact Ai.Bp r a ha
 |_,_,_,.dT h r,a,ha=>by
  rcases zm.mp ha with rfl|ha
  ·exact⟨_,h,λ _=>⟨λ z=>(by cases z),λ _ z=>by cases z⟩⟩
  ·exact Ai.Bp r a ha
 |_,_,_,.ins n h r,a,ha=>by
  rcases zm.mp ha with rfl|ha
  ·exact⟨_,h,λ _=>⟨λ z=>(by cases z),λ _ z=>by cases z⟩⟩
  ·exact Ai.Bp r a ha
theorem Ai.Bp {K:za}{H:Hp}{P:Addr->Prop}:∀ {v:List V}{t:List OT}{fp:List Addr},Ai K H P v t fp->∀a∈fp,D7 H a
 |_,_,_,.nil,a,ha=>by cases ha
 |_,_,_,.cons h r,a,ha=>by
  rcases zx.mp ha with ha|ha
  ·exact Bn.Bp h a ha
  ·exact Ai.Bp r a ha
end
mutual
theorem Bn.BQ {K:za}{H:Hp}{P P':Addr->Prop}:∀ {v:V}{t:OT}{fp ah:List Addr},Bn K H P v t fp->Bn K H P' v t ah->fp=ah
 |_,_,_,_,.sh _,.sh _=>rfl
 |_,_,_,_,.lst h r,.lst h' r'=>by
  rw[h] at h';cases h';rw[Ai.BQ r r']
 |_,_,_,_,.tup h r,.tup h' r'=>by
  have e:=(Aj h).2.symm.trans (Aj h').2;cases e;exact Ai.BQ r r'
 |_,_,_,_,.dK (kvs:=kvs) (ts:=ts) h r,x=>by
  generalize ht:OT.Bc false (kvs.map λ kv=>Fn kv.1) ts=t at x;cases x with
  |dK h' r' =>
   rw[h] at h';cases h';injection ht with _ _ e
   subst e;rw[Ai.BQ r r']
  |dT h' r'=>rw[h] at h';cases h'
  |_=>cases ht
 |_,_,_,_,.dT (kvs:=kvs) (ts:=ts) h r,x=>by
  generalize ht:OT.Bc true (kvs.map λ kv=>D.tup (kv.1.map Fn)) ts=t at x;cases x with
  |dT h' r' =>
   rw[h] at h';cases h';injection ht with _ _ e
   subst e;rw[Ai.BQ r r']
  |dK h' r'=>rw[h] at h';cases h'
  |_=>cases ht
 |_,_,_,_,.ins (fs:=fs) (ts:=ts) (x:=y) n h r,x=>by
  generalize ht:OT.ins y (fs.map Prod.fst) ts=t at x;cases x with
  |ins n' h' r' =>
   rw[h] at h';cases h';injection ht with _ _ e
   subst e;rw[Ai.BQ r r']
  |_=>cases ht
theorem Ai.BQ {K:za}{H:Hp}{P P':Addr->Prop}:∀ {v:List V}{t:List OT}{fp ah:List Addr},Ai K H P v t fp->Ai K H P' v t ah->fp=ah
 |_,_,_,_,.nil,.nil=>rfl
 |_,_,_,_,.cons h r,.cons h' r'=>by rw[Bn.BQ h h',Ai.BQ r r']
end
mutual
theorem Bn.has {K:za}{H:Hp}{P P0:Addr->Prop}(hs:∀a,P0 a->P a):∀ {v:V}{t:OT}{fp:List Addr},(∀a∈fp,¬ P0 a)->Bn K H P v t fp->B9 K (del H P0) v (er t)
 |_,_,_,_,.sh h=>by rw[er];exact h.mono (AW hs)
 |_,_,_,k,.lst h r=>by rw[er];exact .lst (.of (show del H P0 _=_ by rw[Ar (k _ zd)];exact h)) (Ai.has hs (λ a ha=>k a (ze _ ha)) r)
 |_,_,_,k,.tup h r=>by rw[er];exact .tup (AW hs _ _ h) (Ai.has hs k r)
 |_,_,_,k,.dK h r=>by rw[er];exact .DY (.inl (show del H P0 _=_ by rw[Ar (k _ zd)];exact h)) (Ai.has hs (λ a ha=>k a (ze _ ha)) r)
 |_,_,_,k,.dT h r=>by rw[er];exact .DZ (.inl (show del H P0 _=_ by rw[Ar (k _ zd)];exact h)) (Ai.has hs (λ a ha=>k a (ze _ ha)) r)
 |_,_,_,k,.ins n h r=>by rw[er];exact .ins n (show del H P0 _=_ by rw[Ar (k _ zd)];exact h) (Ai.has hs (λ a ha=>k a (ze _ ha)) r)
theorem Ai.has {K:za}{H:Hp}{P P0:Addr->Prop}(hs:∀a,P0 a->P a):∀ {v:List V}{t:List OT}{fp:List Addr},(∀a∈fp,¬ P0 a)->Ai K H P v t fp->Aa K (del H P0) v (Jk t)
 |_,_,_,_,.nil=>by rw[Jk];exact .nil
 |_,_,_,k,.cons h r=>by rw[Jk];exact .cons (Bn.has hs (λ a ha=>k a (zu _ ha)) h) (Ai.has hs (λ a ha=>k a (zf _ ha)) r)
end
inductive BE (K:za) (H:Hp) (P:Addr->Prop):List Addr->List (List D)->Prop
 |nil:BE K H P [] []
 |cons {q:Addr} {xs:List V} {ds:List D} {ps:List Addr} {D6:List (List D)}:H q=some (.lst xs)->Aa K (del H P) xs ds->BE K H P ps D6->BE K H P (q::ps) (ds::D6)
def BR (K:za)(H:Hp)(P:Addr->Prop):Cl->V->List Addr->Prop
 | .own ds,v,fp=>∃p xs,v=.ref p/\fp=[p]/\H p=some (.lst xs)/\Aa K (del H P) xs ds
 | .ow (.rows D6),v,fp=>∃p ps,v=.ref p/\fp=p::ps/\H p=some (.lst (ps.map V.ref))/\BE K H P ps D6
 | .ow (.EU _ ds),v,fp=>∃p xs,v=.ref p/\fp=[p]/\H p=some (.lst xs)/\Aa K (del H P) xs ds
 | .ow (.tree _ t),v,fp=>Bn K H P v t fp
 | .val _,_,_=>False
noncomputable def Et:Cl->Bool
 | .val _=>false
 |_=>true
theorem BE.move {K:za}{H H':Hp}{P P':Addr->Prop}(sm:A7 (del H P) (del H' P')):∀ {ps:List Addr}{D6:List (List D)},(∀a∈ps,H' a=H a)->BE K H P ps D6->BE K H' P' ps D6
 |_,_,_,.nil=>.nil
 |_,_,k,.cons h r t=>.cons ((k _ zd).trans h) (r.mono sm) (BE.move sm (λ a ha=>k a (ze _ ha)) t)
theorem BE.at {K:za}{H:Hp}{P:Addr->Prop}:∀ {ps:List Addr}{D6:List (List D)},BE K H P ps D6->∀a∈ps,∃xs,H a=some (.lst xs)
 |_,_,.nil,a,h=>by cases h
 |_,_,.cons h r t,a,ha=>by
  rcases zm.mp ha with rfl|ha
  ·exact⟨_,h⟩
  ·exact t.at a ha
theorem IG:∀ {ps qs:List Addr},ps.map V.ref=qs.map V.ref->ps=qs
 |[],[],_=>rfl
 |[],_::_,h|_::_,[],h=>by cases h
 |p::ps,q::qs,h=>by
  rw[zq,zq] at h;injection h with h1 h2
  injection h1 with h1
  rw[h1,IG h2]
theorem BR.move {K:za}{H H':Hp}{P P':Addr->Prop}(sm:A7 (del H P) (del H' P')){c:Cl}{v:V}{fp:List Addr}(k:∀a∈fp,H' a=H a)(h:BR K H P c v fp):BR K H' P' c v fp:=by
 cases c with
 |val d=>exact h
 |own ds =>
  obtain⟨p,xs,rfl,rfl,h1,h2⟩:=h;exact⟨p,xs,rfl,rfl,(k p zd).trans h1,h2.mono sm⟩
 |ow o =>
  cases o with
  |rows D6 =>
   obtain⟨p,ps,rfl,rfl,h1,h2⟩:=h;exact⟨p,ps,rfl,rfl,(k p zd).trans h1,h2.move sm λ a ha=>k a (ze _ ha)⟩
  |EU p ds =>
   obtain⟨p,xs,rfl,rfl,h1,h2⟩:=h;exact⟨p,xs,rfl,rfl,(k p zd).trans h1,h2.mono sm⟩
  |tree p t=>exact Bn.move sm k h
theorem BR.at {K:za}{H:Hp}{P:Addr->Prop}{c:Cl}{v:V}{fp:List Addr}(h:BR K H P c v fp):∀a∈fp,∃o,H a=some o:=by
 cases c with
 |val d=>exact h.elim
 |own ds =>
  obtain⟨p,xs,rfl,rfl,h1,h2⟩:=h;exact λ a ha=>⟨.lst xs,by rw[zv.mp ha];exact h1⟩
 |ow o =>
  cases o with
  |rows D6 =>
   obtain⟨p,ps,rfl,rfl,h1,h2⟩:=h;intro a ha;rcases zm.mp ha with rfl|ha
   ·exact⟨_,h1⟩
   ·obtain⟨xs,q⟩:=h2.at a ha;exact⟨_,q⟩
  |EU p ds =>
   obtain⟨p,xs,rfl,rfl,h1,h2⟩:=h;exact λ a ha=>⟨.lst xs,by rw[zv.mp ha];exact h1⟩
  |tree p t =>
   intro a ha;obtain⟨o,q,_⟩:=Bn.Bp h a ha;exact⟨o,q⟩
theorem BR.same {K:za}{H H':Hp}{P:Addr->Prop}(e:A7 H H'){c:Cl}{v:V}{fp:List Addr}(h:BR K H P c v fp):BR K H' P c v fp:=
 h.move e.del λ a ha=>by obtain⟨xs,q⟩:=h.at a ha;rw[q];exact e _ _ q
theorem BR.BQ {K:za}{H:Hp}{P P':Addr->Prop}{c:Cl}{v:V}{fp ah:List Addr}(h:BR K H P c v fp)(h':BR K H P' c v ah):fp=ah:=by
 cases c with
 |val d=>exact h.elim
 |own ds =>
  obtain⟨p,xs,rfl,rfl,h1,h2⟩:=h;obtain⟨p',b3,e,rfl,cA,ce⟩:=h';cases e;rfl
 |ow o =>
  cases o with
  |rows D6 =>
   obtain⟨p,ps,rfl,rfl,h1,h2⟩:=h;obtain⟨p',fY,e,rfl,cA,ce⟩:=h';cases e;rw[h1] at cA;injection cA with e
   injection e with e
   rw[IG e]
  |EU p ds =>
   obtain⟨p,xs,rfl,rfl,h1,h2⟩:=h;obtain⟨p',b3,e,rfl,cA,ce⟩:=h';cases e;rfl
  |tree p t=>exact Bn.BQ h h'
structure Cc where
 pr:Addr->Prop
 g:Nat->Addr
instance:CoeFun Cc (λ _=>Addr->Prop):=⟨Cc.pr⟩
instance:Coe Cc (Addr->Prop):=⟨Cc.pr⟩
noncomputable def E6:Cl->Option Nat
 | .ow (.EU n _)=>some n
 | .ow (.tree (some n) _)=>some n
 |_=>none
structure A9 (K:za)(P0:Cc)(P:Addr->Prop)(H:Hp)(σ:St)(ρ:A5):Prop where
 sub:∀a,P0 a->P a
 Bp:∀a,P a->D7 H a
 val:∀(i:Nat) d,ρ[i]?=some (some (.val d))->∃v,σ[i]?=some (some v)/\B9 K (del H P) v d
 ows:∀(i:Nat) c,ρ[i]?=some (some c)->Et c=true->∃v fp,σ[i]?=some (some v)/\BR K H P c v fp/\(∀a∈fp,P a/\¬ P0 a)/\fp.Nodup
 apart:∀(i j:Nat) c c' v v' fp ah,ρ[i]?=some (some c)->ρ[j]?=some (some c')->σ[i]?=some (some v)->σ[j]?=some (some v')->BR K H P c v fp->BR K H P c' v' ah->i≠j->∀a∈fp,a∉ah
 len:σ.length=ρ.length
 pin:∀(i:Nat) c n,ρ[i]?=some (some c)->E6 c=some n->σ[i]?=some (some (.ref (P0.g n)))
theorem A9.own {K:za}{P0:Cc}{P:Addr->Prop}{H:Hp}{σ:St}{ρ:A5}(E:A9 K P0 P H σ ρ)(i:Nat)(ds:List D)(h:ρ[i]?=some (some (.own ds))):
 ∃p xs,σ[i]?=some (some (.ref p))/\H p=some (.lst xs)/\P p/\¬ P0 p/\Aa K (del H P) xs ds:=by
 obtain⟨v,fp,h1,⟨p,xs,rfl,rfl,h2,h3⟩,h4,_⟩:=E.ows i _ h rfl;exact⟨p,xs,h1,h2,(h4 p zd).1,(h4 p zd).2,h3⟩
theorem A9.Mo {K:za}{P0:Cc}{P P':Addr->Prop}{H H':Hp}{σ:St}{ρ:A5}(E:A9 K P0 P H σ ρ)(sm:A7 (del H P) (del H' P')){i j:Nat}{c c':Cl}{v v':V}{fp ah:List Addr}
 (ki:∀v fp,σ[i]?=some (some v)->BR K H P c v fp->∀a∈fp,H' a=H a) (kj:∀v fp,σ[j]?=some (some v)->BR K H P c' v fp->∀a∈fp,H' a=H a)
 (hi:ρ[i]?=some (some c)) (hj:ρ[j]?=some (some c')) (si:σ[i]?=some (some v)) (sj:σ[j]?=some (some v')) (h:BR K H' P' c v fp) (h':BR K H' P' c' v' ah) (af:i≠j):∀a∈fp,a∉ah:=by
 have key:∀(k:Nat) (d:Cl) (w:V) (fq:List Addr),ρ[k]?=some (some d)->σ[k]?=some (some w)->(∀v fp,σ[k]?=some (some v)->BR K H P d v fp->∀a∈fp,H' a=H a)->BR K H' P' d w fq->BR K H P d w fq:=λ k d w fq hk sk kk ho=>by
  have io:Et d=true:=by cases d<;>first|rfl|exact ho.elim
  obtain⟨w',bG,s2,o2,_⟩:=E.ows k d hk io;rw[sk] at s2;cases s2;have o3:=o2.move sm (kk _ _ sk o2);rw[ho.BQ o3];exact o2
 exact E.apart i j c c' v v' fp ah hi hj si sj (key i c v fp hi si ki h) (key j c' v' ah hj sj kj h') af
theorem A9.same {K:za}{P0:Cc}{P:Addr->Prop}{H H':Hp}{σ:St}{ρ:A5}(E:A9 K P0 P H σ ρ)(e:A7 H H'):A9 K P0 P H' σ ρ:=
 ⟨E.sub,λ a h=>(E.Bp a h).same e,λ i d h=>let ⟨v,h1,h2⟩:=E.val i d h;⟨v,h1,h2.mono e.del⟩,
  λ i c h io=>let ⟨v,fp,h1,h2,h3,h4⟩:=E.ows i c h io;⟨v,fp,h1,h2.same e,h3,h4⟩,
  λ i j c c' v v' fp ah hi hj si sj h h' af=>E.Mo e.del (λ v fp _ o a ha=>by obtain⟨xs,q⟩:=o.at a ha;rw[q];exact e _ _ q) (λ v fp _ o a ha=>by obtain⟨xs,q⟩:=o.at a ha;rw[q];exact e _ _ q) hi hj si sj h h' af,E.len,E.pin⟩
def gV (K:za)(WX:Str->Hp->Prop)(P:Addr->Prop)(H:Hp)(Q:VK):M D->Prop
 | .ok d=>∀v H',A7 H H'->B9 K (del H' P) v d->Q v H'
 | .ex x=>∀H',A7 H H'->WX x H'
 | .bad=>False
def gA (K:za)(WX:Str->Hp->Prop)(P:Addr->Prop)(H:Hp)(Q:List V->Hp->Prop):M (List D)->Prop
 | .ok d=>∀v H',A7 H H'->Aa K (del H' P) v d->Q v H'
 | .ex x=>∀H',A7 H H'->WX x H'
 | .bad=>False
def gT (WX:Str->Hp->Prop)(H:Hp)(Q:Bool->Hp->Prop):M Bool->Prop
 | .ok b=>∀H',A7 H H'->Q b H'
 | .ex x=>∀H',A7 H H'->WX x H'
 | .bad=>False
section
variable {K:za}{WX:Str->Hp->Prop}{P:Addr->Prop}{H H':Hp}
theorem gV.same {Q:VK}{m:M D}(h:gV K WX P H Q m)(e:A7 H H'):gV K WX P H' Q m:=by
 cases m with
 |ok d=>exact λ v H2 q hv=>h v H2 (e.trans q) hv
 |ex x=>exact λ H2 q=>h H2 (e.trans q)
 |bad=>exact h
theorem gA.same {Q:List V->Hp->Prop}{m:M (List D)}(h:gA K WX P H Q m)(e:A7 H H'):gA K WX P H' Q m:=by
 cases m with
 |ok d=>exact λ v H2 q hv=>h v H2 (e.trans q) hv
 |ex x=>exact λ H2 q=>h H2 (e.trans q)
 |bad=>exact h
theorem gT.same {Q:Bool->Hp->Prop}{m:M Bool}(h:gT WX H Q m)(e:A7 H H'):gT WX H' Q m:=by
 cases m with
 |ok d|ex x=>exact λ H2 q=>h H2 (e.trans q)
 |bad=>exact h
end
def Lv (c:Bool)(P0:Cc)(P:Addr->Prop):Addr->Prop:=if c=true then P else P0.pr
def DE (X:Cx)(WX:Str->Hp->Prop)(c:Bool)(e:Expr)(f:A5->M D):Prop:=
 ∃t,PE X e t/\∀P0 P σ H Q ρ,A9 X.K P0 P H σ ρ->gV X.K WX (Lv c P0 P) H Q (f ρ)->t σ H Q
def DA (X:Cx)(WX:Str->Hp->Prop)(c:Bool)(es:List Expr)(f:A5->M (List D)):Prop:=
 ∃t,PA X es t/\(∀P0 P σ H Q ρ,A9 X.K P0 P H σ ρ->gA X.K WX (Lv c P0 P) H Q (f ρ)->t σ H Q)/\∀ρ ds,f ρ=.ok ds->ds.length=es.length
def DT (X:Cx)(WX:Str->Hp->Prop)(e:Expr)(f:A5->M Bool):Prop:=
 ∃t,PT X e t/\∀P0 P σ H Q ρ,A9 X.K P0 P H σ ρ->gT WX H Q (f ρ)->t σ H Q
def DW (X:Cx)(WX:Str->Hp->Prop)(e:Expr)(f:A5->M Bool):Prop:=
 ∃t,PW X e t/\∀P0 P σ H Q ρ,A9 X.K P0 P H σ ρ->gT WX H Q (f ρ)->t σ H Q
theorem DW.dt {X:Cx}{WX:Str->Hp->Prop}{e:Expr}{f:A5->M Bool}(h:DW X WX e f):DT X WX e f:=let ⟨t,h1,h2⟩:=h;⟨t,h1.pt,h2⟩
section
variable {X:Cx}{WX:Str->Hp->Prop}{c:Bool}{P0:Cc}{P:Addr->Prop}{H:Hp}{σ:St}{ρ:A5}
theorem A9.lv (E:A9 X.K P0 P H σ ρ)(c:Bool):∀a,Lv c P0 P a->P a:=λ a h=>by
 cases c with
 |true=>exact h
 |false=>exact E.sub a h
theorem A9.Tf (E:A9 X.K P0 P H σ ρ)(c:Bool):∀a,Lv c P0 P a->D7 H a:=λ a h=>E.Bp a (E.lv c a h)
theorem Js {e:Expr}{f:A5->M D}(h:DE X WX true e f):DE X WX false e f:=by
 obtain⟨t,h1,h2⟩:=h;refine⟨t,h1,λ P0 P σ H Q ρ E g=>h2 P0 P σ H Q ρ E ?_⟩;cases e:f ρ with
 |ok d=>rw[e] at g;exact λ v H' s hv=>g v H' s (hv.mono (AW E.sub))
 |ex x|bad=>rw[e] at g;exact g
noncomputable def Sg:D->Bool
 | .tup _ | .lst _ | .BU _ | .Bc _ _ _ | .ins _ _ _=>false
 |_=>true
noncomputable def fl (m:M D):M D:=m.bind λ d=>if Sg d=true then .ok d else .bad
noncomputable def rv (i:Nat)(ρ:A5):M D:=match ρ[i]? with | some (some (.val d))=>.ok d | _=>.bad
theorem A0 (i:Nat){x:Str}{pos:Pos}(h:PE X (.Name x pos) (KU i)):DE X WX true (.Name x pos) (rv i):=by
 refine⟨_,h,λ P0 P σ H Q ρ E g=>?_⟩;unfold rv at g;split at g
 ·rename_i d e;obtain⟨v,h1,h2⟩:=E.val i d e;exact⟨v,h1,g v H (A7.refl H) h2⟩
 ·exact g.elim
theorem A1 {i j pos}:DE X WX c (.Constant (.int i) j pos) (λ _=>.ok (.int i)):=⟨_,Qo,λ P0 P σ H Q ρ E g=>g _ H (A7.refl H) (.int i)⟩
theorem CL {b j pos}:DE X WX c (.Constant (.bool b) j pos) (λ _=>.ok (.bl b)):=⟨_,RV,λ P0 P σ H Q ρ E g=>g _ H (A7.refl H) (.bl b)⟩
theorem Jt {j pos}:DE X WX c (.Constant .none j pos) (λ _=>.ok .Av):=⟨_,Qp,λ P0 P σ H Q ρ E g=>g _ H (A7.refl H) .Av⟩
theorem Aw {x j pos}:DE X WX c (.Constant (.str x) j pos) (λ _=>.ok (.str x)):=⟨_,Qq,λ P0 P σ H Q ρ E g=>g _ H (A7.refl H) (.str x)⟩
def Mp (K:za)(WX:Str->Hp->Prop)(r:R2)(aw:D->D->M D):Prop:=
 ∀(P:Addr->Prop) (H:Hp) (x y:D) (v w:V) (Q:VK),(∀a,P a->D7 H a)->B9 K (del H P) v x->B9 K (del H P) w y->gV K WX P H Q (aw x y)->r v w H Q
variable {a b:Expr}{f g:A5->M D}{pos:Pos}
theorem IH {ta tb:TE}{r:R2}{aw:D->D->M D}(ha:∀P0 P σ H Q ρ,A9 X.K P0 P H σ ρ->gV X.K WX (Lv c P0 P) H Q (f ρ)->ta σ H Q)(hb:∀P0 P σ H Q ρ,A9 X.K P0 P H σ ρ->gV X.K WX (Lv c P0 P) H Q (g ρ)->tb σ H Q)
 (hr:Mp X.K WX r aw) {Q:VK} (E:A9 X.K P0 P H σ ρ) (h:gV X.K WX (Lv c P0 P) H Q ((f ρ).bind λ x=>(g ρ).bind λ y=>aw x y)):QA r ta tb σ H Q:=by
 refine ha P0 P σ H _ ρ E ?_;cases e:f ρ with
 |bad|ex x=>rw[e] at h;exact h
 |ok x =>
  rw[e] at h;intro v H1 s1 hv;refine hb P0 P σ H1 _ ρ (E.same s1) ?_;cases e2:g ρ with
  |bad=>rw[e2] at h;exact h
  |ex y=>rw[e2] at h;exact gV.same (m:=.ex y) h s1
  |ok y =>
   rw[e2] at h;intro w H2 s2 hw;exact hr _ H2 x y v w Q (λ a q=>((E.same s1).same s2).Tf c a q) (hv.mono s2.del) hw ((gV.same h s1).same s2)
theorem Fq {op:Operator}{r:R2}{aw:D->D->M D}(ho:Dw X (binaryOp op) r)(hr:Mp X.K WX r aw)(ha:DE X WX c a f)(hb:DE X WX c b g):DE X WX c (.BinOp a op b pos) (λ ρ=>(f ρ).bind λ x=>(g ρ).bind λ y=>aw x y):=by
 obtain⟨ta,a1,a2⟩:=ha;obtain⟨tb,b1,b2⟩:=hb;exact⟨_,PX ho a1 b1,λ P0 P σ H Q ρ E h=>IH a2 b2 hr E h⟩
theorem Ju {op:CmpOp}{r:R2}{aw:D->D->M D}(ho:Dw X (compareOp op) r)(hr:Mp X.K WX r aw)(ha:DE X WX c a f)(hb:DE X WX c b g)(hm:behindInMarks op b=false):DE X WX c (.Compare a [op] [b] pos) (λ ρ=>(f ρ).bind λ x=>(g ρ).bind λ y=>aw x y):=by
 obtain⟨ta,a1,a2⟩:=ha;obtain⟨tb,b1,b2⟩:=hb;exact⟨_,O8 ho a1 b1 hm,λ P0 P σ H Q ρ E h=>IH a2 b2 hr E h⟩
theorem Sh {r:R2}{aw:D->D->M D}(ho:Oh X r)(hr:Mp X.K WX r aw)(ha:DE X WX c a f)(hb:DE X WX c b g)(hs:EZ b):DE X WX c (.Subscript a b pos) (λ ρ=>(f ρ).bind λ x=>(g ρ).bind λ y=>aw x y):=by
 obtain⟨ta,a1,a2⟩:=ha;obtain⟨tb,b1,b2⟩:=hb;exact⟨_,Q1 ho a1 b1 hs,λ P0 P σ H Q ρ E h=>IH a2 b2 hr E h⟩
noncomputable def Au (k:Int->Int->M D)(x y:D):M D:=match x,y with | .int i,.int j=>k i j | _,_=>.bad
theorem B9.int_inv {K:za}{H:Hp}{v:V}{i:Int}(h:B9 K H v (.int i)):v=.int i:=by cases h;rfl
theorem B9.Fs {K:za}{H:Hp}{v:V}{i:Bool}(h:B9 K H v (.bl i)):v=.bl i:=by cases h;rfl
theorem Hz {C:Int->Int->Prop}{gv:Int->Int->V}{gd:Int->Int->D}[∀i j,Decidable (C i j)](hg:∀i j K H,B9 K H (gv i j) (gd i j)):Mp X.K WX (rI C gv) (Au λ i j=>if C i j then .ok (gd i j) else .bad):=by
 intro P H x y v w Q ht hx hy h;unfold Au at h;split at h
 ·rename_i i j;rw[hx.int_inv,hy.int_inv];dsimp only at h;by_cases hc:C i j
  ·rw[if_pos hc] at h;exact⟨i,j,rfl,rfl,hc,h _ H (A7.refl H) (hg i j _ _)⟩
  ·rw[if_neg hc] at h;exact h.elim
 ·exact h.elim
theorem F1 {gv:Int->Int->V}{gd:Int->Int->D}(hg:∀i j K H,B9 K H (gv i j) (gd i j)):Mp X.K WX (LL gv) (Au λ i j=>.ok (gd i j)):=by
 intro P H x y v w Q ht hx hy h;unfold Au at h;split at h
 ·rename_i i j;rw[hx.int_inv,hy.int_inv];exact⟨i,j,rfl,rfl,h _ H (A7.refl H) (hg i j _ _)⟩
 ·exact h.elim
instance (i j:Int):Decidable (M3 i j):=by unfold M3;infer_instance
instance (i j:Int):Decidable (O6 i j):=by unfold O6;infer_instance
instance (i j:Int):Decidable (M4 i j):=by unfold M4;infer_instance
noncomputable def Mq:=Au λ i j=>.ok (.int (i+j))
noncomputable def QO:=Au λ i j=>.ok (.int (i-j))
noncomputable def Dl:=Au λ i j=>if 0<j then .ok (.int (i%j)) else .bad
noncomputable def EJ:=Au λ i j=>if M3 i j then .ok (.int (i / j)) else .bad
noncomputable def II:=Au λ i j=>if O6 i j then .ok (.int (i^j.toNat)) else .bad
noncomputable def UM:=Au λ i j=>.ok (.bl (decide (i<j)))
noncomputable def Vf:=Au λ i j=>.ok (.bl (decide (i<=j)))
noncomputable def UN:=Au λ i j=>.ok (.bl (decide (j<i)))
noncomputable def Vg:=Au λ i j=>.ok (.bl (decide (j<=i)))
theorem Ft (ha:DE X WX c a f)(hb:DE X WX c b g):DE X WX c (.BinOp a .Add b pos) (λ ρ=>(f ρ).bind λ x=>(g ρ).bind λ y=>Mq x y):=Fq QC (F1 λ _ _ _ _=>.int _) ha hb
theorem QP (ha:DE X WX c a f)(hb:DE X WX c b g):DE X WX c (.BinOp a .Sub b pos) (λ ρ=>(f ρ).bind λ x=>(g ρ).bind λ y=>QO x y):=Fq QD (F1 λ _ _ _ _=>.int _) ha hb
theorem AN (ha:DE X WX c a f)(hb:DE X WX c b g):DE X WX c (.BinOp a .Mod b pos) (λ ρ=>(f ρ).bind λ x=>(g ρ).bind λ y=>Dl x y):=Fq QE (Hz λ _ _ _ _=>.int _) ha hb
theorem BV (ha:DE X WX c a f)(hb:DE X WX c b g):DE X WX c (.BinOp a .FloorDiv b pos) (λ ρ=>(f ρ).bind λ x=>(g ρ).bind λ y=>EJ x y):=Fq O7 (Hz λ _ _ _ _=>.int _) ha hb
theorem DB (ha:DE X WX c a f)(hb:DE X WX c b g):DE X WX c (.BinOp a .Pow b pos) (λ ρ=>(f ρ).bind λ x=>(g ρ).bind λ y=>II x y):=Fq QF (Hz λ _ _ _ _=>.int _) ha hb
noncomputable def Oz (n:Nat)(x y:D):M D:=if E5 x<=n/\Ag x=true/\Ag y=true then .ok (.bl (Ad x y)) else .bad
noncomputable def OA (n:Nat)(x y:D):M D:=if E5 x<=n/\Ag x=true/\Ag y=true then .ok (.bl (!Ad x y)) else .bad
theorem Mr {n:Nat}(hu:X.A.units+n<cLine):Mp X.K WX (Oy X.K X.A false) (Oz n):=by
 intro P H x y v w Q ht hx hy h;unfold Oz at h;by_cases hd:E5 x<=n/\Ag x=true/\Ag y=true
 ·rw[if_pos hd] at h;exact⟨x,y,hx.mono C9,hy.mono C9,by omega,hd.2.1,hd.2.2,h _ H (A7.refl H) (.bl _)⟩
 ·rw[if_neg hd] at h;exact h.elim
theorem Ms {n:Nat}(hu:X.A.units+n<cLine):Mp X.K WX (Oy X.K X.A true) (OA n):=by
 intro P H x y v w Q ht hx hy h;unfold OA at h;by_cases hd:E5 x<=n/\Ag x=true/\Ag y=true
 ·rw[if_pos hd] at h;exact⟨x,y,hx.mono C9,hy.mono C9,by omega,hd.2.1,hd.2.2,h _ H (A7.refl H) (.bl _)⟩
 ·rw[if_neg hd] at h;exact h.elim
theorem Mt {n:Nat}(hu:X.A.units+n<cLine)(ha:DE X WX c a f)(hb:DE X WX c b g):DE X WX c (.Compare a [.Eq] [b] pos) (λ ρ=>(f ρ).bind λ x=>(g ρ).bind λ y=>Oz n x y):=Ju Mm (Mr hu) ha hb (Ep _)
theorem Si {n:Nat}(hu:X.A.units+n<cLine)(ha:DE X WX c a f)(hb:DE X WX c b g):DE X WX c (.Compare a [.NotEq] [b] pos) (λ ρ=>(f ρ).bind λ x=>(g ρ).bind λ y=>OA n x y):=Ju Mn (Ms hu) ha hb (Ep _)
noncomputable def BF:D->Bool
 | .Av=>true
 |_=>false
theorem B9.U5 {K:za}{H:Hp}{v:V}{d:D}(h:B9 K H v d):decide (v=.Av)=BF d:=by
 cases h<;>simp[BF]
theorem QQ {j pos'}(ha:DE X WX c a f):DE X WX c (.Compare a [.Is] [.Constant .none j pos'] pos) (λ ρ=>(f ρ).bind λ x=>.ok (.bl (BF x))):=by
 obtain⟨ta,a1,a2⟩:=ha;refine⟨_,Qr (LW a1),λ P0 P σ H Q ρ E h=>?_⟩;dsimp only at h;refine a2 P0 P σ H _ ρ E ?_;cases e:f ρ with
 |bad|ex x=>rw[e] at h;exact h
 |ok x=>rw[e] at h;exact λ v H1 s1 hv=>h _ H1 s1 (by rw[hv.U5];exact .bl _)
noncomputable def Sj (x y:D):M D:=match x,y with
 | .tup ds,.int i| .lst ds,.int i=>(match Jj ds i with|some d=>.ok d|none=>.bad)
 |_,_=>.bad
theorem Aa.Jj {K:za}{H:Hp}{xs:List V}{ds:List D}{i:Int}{d:D}(h:Aa K H xs ds)(e:L2.Jj ds i=some d):∃v,L2.Jj xs i=some v/\B9 K H v d:=by
 unfold L2.Jj at e ⊢;rw[<-h.length] at e;cases q:Mf xs.length i with
 |none=>rw[q] at e;cases e
 |some j =>
  rw[q] at e;exact h.get e
theorem D5.Bs {K:za}{H:Hp}{P:Addr->Prop}{a:Addr}{xs:List V}(h:D5 K (del H P) a xs):D5 K H a xs:=C9.seq h
theorem CM:Mp X.K WX (λ x y H Q=>QL X.K x y H Q\/QM X.K x y H Q) Sj:=by
 intro P H x y v w Q ht hx hy h;unfold Sj at h;split at h
 ·rename_i ds i;split at h
  ·rename_i d e;cases hy;cases hx with
   |tup hs hl =>
    obtain⟨u,h1,h2⟩:=hl.Jj e;exact .inr ⟨_,_,i,u,rfl,rfl,Fc.of (Aj hs).2,h1,h _ H (A7.refl H) h2⟩
  ·exact h.elim
 ·rename_i ds i;split at h
  ·rename_i d e;cases hy;cases hx with
   |lst hs hl =>
    obtain⟨u,h1,h2⟩:=hl.Jj e;exact .inl ⟨_,_,i,u,rfl,rfl,hs.Bs,h1,h _ H (A7.refl H) h2⟩
  ·exact h.elim
 ·exact h.elim
theorem Ab:DA X WX c [] (λ _=>.ok []):=⟨_,Ce,λ P0 P σ H Q ρ E h=>h [] H (A7.refl H) .nil,λ ρ ds h=>by cases h;rfl⟩
theorem A2 {e:Expr}{es:List Expr}{f:A5->M D}{fs:A5->M (List D)}(he:DE X WX c e f)(hr:DA X WX c es fs)(hs:starEach (e::es) X.env=(false,eval e X.env)::starEach es X.env:=by rfl):
 DA X WX c (e::es) (λ ρ=>(f ρ).bind λ d=>(fs ρ).bind λ ds=>.ok (d::ds)):=by
 obtain⟨te,e1,e2⟩:=he;obtain⟨tr,r1,r2,r3⟩:=hr;refine⟨_,Bl e1 r1 hs,λ P0 P σ H Q ρ E h=>?_,λ ρ ds h=>?_⟩
 rotate_left
 ·dsimp only at h;cases q:f ρ with
  |bad|ex x=>rw[q] at h;cases h
  |ok x =>
   rw[q] at h;cases q2:fs ρ with
   |bad|ex x=>rw[q2] at h;cases h
   |ok xs =>
    rw[q2] at h;cases h;rw[zt,zt,r3 ρ xs q2]
 dsimp only at h;refine e2 P0 P σ H _ ρ E ?_;cases q:f ρ with
 |bad|ex x=>rw[q] at h;exact h
 |ok x =>
  rw[q] at h;intro v H1 s1 hv;refine r2 P0 P σ H1 _ ρ (E.same s1) ?_;cases q2:fs ρ with
  |bad=>rw[q2] at h;exact h
  |ex y=>rw[q2] at h;exact gA.same (m:=.ex y) h s1
  |ok ds =>
   rw[q2] at h;exact λ vs H2 s2 aO=>h _ H2 (s1.trans s2) (.cons (hv.mono s2.del) aO)
theorem Kh {H:Hp}{P:Addr->Prop}{p:Addr}{o:HO}(hn:H p=none)(ht:∀a,P a->D7 H a):del (upd H p o) P p=some o:=by
 rw[Ar λ z=>(ht p z).no hn];exact AM
theorem Fu {es:List Expr}{fs:A5->M (List D)}{x1}(ha:DA X WX c es fs)(hz:es.length<=1000:=by decide):DE X WX c (.Tuple es x1 pos) (λ ρ=>(fs ρ).bind λ ds=>if ds.length<=1000 then .ok (.tup ds) else .bad):=by
 obtain⟨ta,a1,a2,a3⟩:=ha;refine⟨_,Mb a1,λ P0 P σ H Q ρ E h=>?_⟩;dsimp only at h;refine a2 P0 P σ H _ ρ E ?_;cases q:fs ρ with
 |bad|ex y=>rw[q] at h;exact h
 |ok ds =>
  rw[q] at h;simp only[M.A6] at h;by_cases hd:ds.length<=1000
  ·rw[if_pos hd] at h;intro vs H1 s1 aO;refine⟨ye (AU (by rw[aO.length];exact hd)),λ p hp=>h _ _ (s1.trans (Bm hp _)) (.tup (Kh hp λ a q=>(E.same s1).Tf c a q) (aO.mono (Bm hp _).del))⟩
  ·rw[if_neg hd] at h;exact h.elim
theorem Jv {es:List Expr}{fs:A5->M (List D)}(ha:DA X WX c es fs):DE X WX c (.List es pos) (λ ρ=>(fs ρ).bind λ ds=>if ds.length<=1000 then .ok (.lst ds) else .bad):=by
 obtain⟨ta,a1,a2,a3⟩:=ha;refine⟨_,Mc a1,λ P0 P σ H Q ρ E h=>?_⟩;dsimp only at h;refine a2 P0 P σ H _ ρ E ?_;cases q:fs ρ with
 |bad|ex y=>rw[q] at h;exact h
 |ok ds =>
  rw[q] at h;simp only[M.A6] at h;by_cases hd:ds.length<=1000
  ·rw[if_pos hd] at h;intro vs H1 s1 aO;refine⟨ye (AU (by rw[aO.length];exact hd)),λ p hp=>h _ _ (s1.trans (Bm hp _)) (.lst (.of (Kh hp λ a q=>(E.same s1).Tf c a q)) (aO.mono (Bm hp _).del))⟩
  ·rw[if_neg hd] at h;exact h.elim
end
noncomputable def Jw (d:D):M Bool:=match d with | .bl b=>.ok b | _=>.bad
section
variable {X:Cx}{WX:Str->Hp->Prop}{c:Bool}{P0:Cc}{P:Addr->Prop}{H:Hp}{σ:St}{ρ:A5}{a b e:Expr}{f g:A5->M D}{ft gt:A5->M Bool}{pos:Pos}
theorem Q5 {WX:Str->Hp->Prop}{P:Addr->Prop}{K:za}{H:Hp}{Q:Bool->Hp->Prop}{m:M D}(h:gT WX H Q (m.bind Jw)):gV K WX P H (λ x H'=>∃k,x=.bl k/\Q k H') m:=by
 cases m with
 |bad|ex x=>exact h
 |ok d =>
  intro v H' s hv;simp only[M.A6] at h;unfold Jw at h;split at h
  ·rename_i b;exact⟨b,hv.Fs,h H' s⟩
  ·exact h.elim
theorem F2 {op:CmpOp}{r:R2}{aw:D->D->M D}(ho:Dw X (compareOp op) r)(hr:Mp X.K WX r aw)(ha:DE X WX c a f)(hb:DE X WX c b g)(hm:behindInMarks op b=false):DT X WX (.Compare a [op] [b] pos) (λ ρ=>((f ρ).bind λ x=>(g ρ).bind λ y=>aw x y).bind Jw):=by
 obtain⟨ta,a1,a2⟩:=ha;obtain⟨tb,b1,b2⟩:=hb;exact⟨_,O9 ho a1 b1 hm,λ P0 P σ H Q ρ E h=>IH a2 b2 hr E (Q5 h)⟩
theorem Q6 (ha:DE X WX c a f)(hb:DE X WX c b g):DT X WX (.Compare a [.Lt] [b] pos) (λ ρ=>((f ρ).bind λ x=>(g ρ).bind λ y=>UM x y).bind Jw):=F2 PY (F1 λ _ _ _ _=>.bl _) ha hb (Ep _)
theorem Q8 (ha:DE X WX c a f)(hb:DE X WX c b g):DT X WX (.Compare a [.Gt] [b] pos) (λ ρ=>((f ρ).bind λ x=>(g ρ).bind λ y=>UN x y).bind Jw):=F2 S9 (F1 λ _ _ _ _=>.bl _) ha hb (Ep _)
theorem IJ {n:Nat}(hu:X.A.units+n<cLine)(ha:DE X WX c a f)(hb:DE X WX c b g):DT X WX (.Compare a [.Eq] [b] pos) (λ ρ=>((f ρ).bind λ x=>(g ρ).bind λ y=>Oz n x y).bind Jw):=F2 Mm (Mr hu) ha hb (Ep _)
theorem GN {n:Nat}(hu:X.A.units+n<cLine)(ha:DE X WX c a f)(hb:DE X WX c b g):DT X WX (.Compare a [.NotEq] [b] pos) (λ ρ=>((f ρ).bind λ x=>(g ρ).bind λ y=>OA n x y).bind Jw):=F2 Mn (Ms hu) ha hb (Ep _)
theorem QR {j pos'}(ha:DE X WX c a f):DT X WX (.Compare a [.Is] [.Constant .none j pos'] pos) (λ ρ=>(f ρ).bind λ x=>.ok (BF x)):=by
 obtain⟨ta,a1,a2⟩:=ha;refine⟨_,LX (LW a1),λ P0 P σ H Q ρ E h=>?_⟩;dsimp only at h;refine a2 P0 P σ H _ ρ E ?_;cases e:f ρ with
 |bad|ex x=>rw[e] at h;exact h
 |ok x=>rw[e] at h;exact λ v H1 s1 hv=>⟨_,rfl,by rw[hv.U5];exact h H1 s1⟩
theorem OB {j pos'}(ha:DE X WX c a f):DT X WX (.Compare a [.IsNot] [.Constant .none j pos'] pos) (λ ρ=>(f ρ).bind λ x=>.ok (!BF x)):=by
 obtain⟨ta,a1,a2⟩:=ha;refine⟨_,LX (O1 a1),λ P0 P σ H Q ρ E h=>?_⟩;dsimp only at h;refine a2 P0 P σ H _ ρ E ?_;cases e:f ρ with
 |bad|ex x=>rw[e] at h;exact h
 |ok x=>rw[e] at h;exact λ v H1 s1 hv=>⟨_,rfl,by rw[hv.U5];exact h H1 s1⟩
theorem AH (ha:DT X WX a ft):DT X WX (.UnaryOp .Not a pos) (λ ρ=>(ft ρ).bind λ b=>.ok (!b)):=by
 obtain⟨ta,a1,a2⟩:=ha;refine⟨_,Qs a1,λ P0 P σ H Q ρ E h=>?_⟩;dsimp only at h;refine a2 P0 P σ H _ ρ E ?_;cases e:ft ρ with
 |bad|ex x=>rw[e] at h;exact h
 |ok x=>rw[e] at h;exact λ H1 s1=>h H1 s1
theorem Tg (ha:DT X WX a ft):DW X WX (.BoolOp .And [a] pos) ft:=let ⟨ta,a1,a2⟩:=ha;⟨_,pw_and1 a1,a2⟩
theorem BG (ha:DT X WX a ft):DW X WX (.BoolOp .Or [a] pos) ft:=let ⟨ta,a1,a2⟩:=ha;⟨_,pw_or1 a1,a2⟩
theorem Cy {rest:List Expr}(ha:DT X WX a ft)(hb:DW X WX (.BoolOp .Or (b::rest) pos) gt):DW X WX (.BoolOp .Or (a::b::rest) pos) (λ ρ=>(ft ρ).bind λ k=>if k=true then .ok true else gt ρ):=by
 obtain⟨ta,a1,a2⟩:=ha;obtain⟨tb,b1,b2⟩:=hb;refine⟨_,pw_or a1 b1,λ P0 P σ H Q ρ E h=>?_⟩;dsimp only at h;refine a2 P0 P σ H _ ρ E ?_;cases e:ft ρ with
 |bad|ex x=>rw[e] at h;exact h
 |ok k =>
  rw[e] at h;intro H1 s1;cases k with
  |true =>
   simp only[M.A6,if_true] at h ⊢;exact h H1 s1
  |false =>
   simp only[M.A6,zC,if_false] at h ⊢;exact b2 P0 P σ H1 _ ρ (E.same s1) (h.same s1)
theorem HA {op}(ha:DE X WX c a f):DE X WX c (.BoolOp op [a] pos) f:=let ⟨ta,a1,a2⟩:=ha;⟨_,Qt a1,a2⟩
theorem Jx {rest:List Expr}(ha:DE X WX c a f)(hb:DE X WX c (.BoolOp .And (b::rest) pos) g):DE X WX c (.BoolOp .And (a::b::rest) pos) (λ ρ=>((f ρ).bind Jw).bind λ k=>if k=true then g ρ else .ok (.bl false)):=by
 obtain⟨ta,a1,a2⟩:=ha;obtain⟨tb,b1,b2⟩:=hb;refine⟨_,Qu a1 b1,λ P0 P σ H Q ρ E h=>?_⟩;dsimp only at h;refine a2 P0 P σ H _ ρ E ?_;cases e:f ρ with
 |bad|ex x=>rw[e] at h;exact h
 |ok d =>
  rw[e] at h;simp only[M.A6] at h;unfold Jw at h;split at h
  ·rename_i k;intro v H1 s1 hv;refine⟨k,hv.Fs,?_⟩;cases k with
   |true =>
    simp only[M.A6,if_true] at h ⊢;exact b2 P0 P σ H1 _ ρ (E.same s1) (h.same s1)
   |false =>
    simp only[M.A6,zC,if_false] at h ⊢;exact h _ H1 s1 (.bl _)
  ·exact h.elim
theorem Q9 {rest:List Expr}(ha:DE X WX c a f)(hb:DE X WX c (.BoolOp .Or (b::rest) pos) g):DE X WX c (.BoolOp .Or (a::b::rest) pos) (λ ρ=>((f ρ).bind Jw).bind λ k=>if k=true then .ok (.bl true) else g ρ):=by
 obtain⟨ta,a1,a2⟩:=ha;obtain⟨tb,b1,b2⟩:=hb;refine⟨_,RZ a1 b1,λ P0 P σ H Q ρ E h=>?_⟩;dsimp only at h;refine a2 P0 P σ H _ ρ E ?_;cases e:f ρ with
 |bad|ex x=>rw[e] at h;exact h
 |ok d =>
  rw[e] at h;simp only[M.A6] at h;unfold Jw at h;split at h
  ·rename_i k;intro v H1 s1 hv;refine⟨k,hv.Fs,?_⟩;cases k with
   |true =>
    simp only[M.A6,if_true] at h ⊢;exact h _ H1 s1 (.bl _)
   |false =>
    simp only[M.A6,zC,if_false] at h ⊢;exact b2 P0 P σ H1 _ ρ (E.same s1) (h.same s1)
  ·exact h.elim
theorem Mu (ha:DE X WX c a f):DE X WX c (.UnaryOp .Not a pos) (λ ρ=>((f ρ).bind Jw).bind λ k=>.ok (.bl (!k))):=by
 obtain⟨ta,a1,a2⟩:=ha;refine⟨_,Qv a1,λ P0 P σ H Q ρ E h=>?_⟩;dsimp only at h;refine a2 P0 P σ H _ ρ E ?_;cases e:f ρ with
 |bad|ex x=>rw[e] at h;exact h
 |ok d =>
  rw[e] at h;simp only[M.A6] at h;unfold Jw at h;split at h
  ·rename_i k;exact λ v H1 s1 hv=>⟨k,hv.Fs,h _ H1 s1 (.bl _)⟩
  ·exact h.elim
theorem U6 (ha:DE X WX c a f):DE X WX c (.UnaryOp .USub a pos) (λ ρ=>(f ρ).bind λ d=>match d with | .int i=>.ok (.int (-i)) | _=>.bad):=by
 obtain⟨ta,a1,a2⟩:=ha;refine⟨_,S7 QG a1,λ P0 P σ H Q ρ E h=>?_⟩;dsimp only at h;refine a2 P0 P σ H _ ρ E ?_;cases e:f ρ with
 |bad|ex x=>rw[e] at h;exact h
 |ok d =>
  rw[e] at h;simp only[M.A6] at h;split at h
  ·rename_i i;exact λ v H1 s1 hv=>⟨i,hv.int_inv,h _ H1 s1 (.int _)⟩
  ·exact h.elim
theorem L7 {d:Expr}{h:A5->M D}{op aB:CmpOp}{p q:Int->Int->Bool}(ho:Dw X (compareOp op) (LL λ i j=>.bl (p i j)))(a9:Dw X (compareOp aB) (LL λ i j=>.bl (q i j)))(ha:DE X WX c a f)(hb:DE X WX c b g)(hd:DE X WX c d h)
 (hm:lastMarks [op,aB] [b,d]=false:=by with_unfolding_all rfl):DE X WX c (.Compare a [op,aB] [b,d] pos) (λ ρ=>(f ρ).bind λ x=>(g ρ).bind λ y=>Au (λ i j=>if p i j=true then (h ρ).bind λ z=>Au (λ _ k=>.ok (.bl (q j k))) (.int 0) z else .ok (.bl false)) x y):=by
 obtain⟨ta,a1,a2⟩:=ha;obtain⟨tb,b1,b2⟩:=hb;obtain⟨td,d1,d2⟩:=hd;refine⟨_,M8 ho a9 a1 b1 d1 hm,λ P0 P σ H Q ρ E hh=>?_⟩;dsimp only at hh;refine a2 P0 P σ H _ ρ E ?_;cases e:f ρ with
 |bad|ex x=>rw[e] at hh;exact hh
 |ok x =>
  rw[e] at hh;intro v H1 s1 hv;refine b2 P0 P σ H1 _ ρ (E.same s1) ?_;cases e2:g ρ with
  |bad=>rw[e2] at hh;exact hh
  |ex y=>rw[e2] at hh;exact gV.same (m:=.ex y) hh s1
  |ok y =>
   rw[e2] at hh;simp only[M.A6] at hh;unfold Au at hh;split at hh
   ·rename_i i j;intro w H2 s2 hw;refine⟨i,j,hv.int_inv,hw.int_inv,p i j,rfl,?_⟩;dsimp only at hh;by_cases hp:p i j=true
    ·rw[if_pos hp] at hh ⊢;refine d2 P0 P σ H2 _ ρ ((E.same s1).same s2) ?_;cases e3:h ρ with
     |bad=>rw[e3] at hh;exact hh
     |ex z=>rw[e3] at hh;exact gV.same (gV.same (m:=.ex z) hh s1) s2
     |ok z =>
      rw[e3] at hh;simp only[M.A6] at hh;cases z with
      |int k=>exact λ u H3 s3 hu=>⟨j,k,hw.int_inv,hu.int_inv,hh _ H3 ((s1.trans s2).trans s3) (.bl _)⟩
      |_=>exact hh.elim
    ·rw[if_neg hp] at hh ⊢;exact hh _ H2 (s1.trans s2) (.bl _)
   ·exact hh.elim
def EK (K:za)(WX:Str->Hp->Prop)(r:List V->Hp->VK->Prop)(dF:List D->M D):Prop:=
 ∀(P:Addr->Prop) (H:Hp) (ds:List D) (vs:List V) (Q:VK),(∀a,P a->D7 H a)->Aa K (del H P) vs ds->gV K WX P H Q (dF ds)->r vs H Q
variable {x:Str}{p:Pos}{es:List Expr}{fs:A5->M (List D)}{id T:String}{r:List V->Hp->VK->Prop}{dF:List D->M D}
theorem Mv {ta:TA}(ha:∀P0 P σ H Q ρ,A9 X.K P0 P H σ ρ->gA X.K WX (Lv c P0 P) H Q (fs ρ)->ta σ H Q)(hr:EK X.K WX r dF){Q:VK}(E:A9 X.K P0 P H σ ρ)(h:gV X.K WX (Lv c P0 P) H Q ((fs ρ).bind dF)):TV r ta σ H Q:=by
 refine ha P0 P σ H _ ρ E ?_;cases e:fs ρ with
 |bad|ex x=>rw[e] at h;exact h
 |ok ds =>
  rw[e] at h;exact λ vs H1 s1 aO=>hr _ H1 ds vs Q (λ a q=>(E.same s1).Tf c a q) aO (h.same s1)
theorem Fv (hc:CI X (.builtin id) r)(hr:EK X.K WX r dF)(hg:Gl X x)(hm:X.mg x=none)(hv:bootBuiltins x=some (.builtin id))(ha:DA X WX c (e::es) fs)(hn:x ≠ "__name__" := by decide)(aD:(x==("__debug__" : Str))=false:=by decide)
 (he:starEach (e::es) X.env=(false,eval e X.env)::starEach es X.env:=by rfl) (aI:(backTo pos (starEach es X.env)).any (·.1)=false:=by rfl):DE X WX c (.Call (.Name x p) (e::es) [] pos) (λ ρ=>(fs ρ).bind dF):=by
 obtain⟨ta,a1,a2,a3⟩:=ha;exact⟨_,Iv hc hg hm hv a1 hn aD he aI,λ P0 P σ H Q ρ E h=>Mv a2 hr E h⟩
theorem GO (hc:CI X (.type T) r)(hr:EK X.K WX r dF)(hg:Gl X x)(hm:X.mg x=none)(hv:bootBuiltins x=some (.type T))(ha:DA X WX c (e::es) fs)(hn:x ≠ "__name__" := by decide)(aD:(x==("__debug__" : Str))=false:=by decide)
 (he:starEach (e::es) X.env=(false,eval e X.env)::starEach es X.env:=by rfl) (aI:(backTo pos (starEach es X.env)).any (·.1)=false:=by rfl):DE X WX c (.Call (.Name x p) (e::es) [] pos) (λ ρ=>(fs ρ).bind dF):=by
 obtain⟨ta,a1,a2,a3⟩:=ha;exact⟨_,GI hc hg hm hv a1 hn aD he aI,λ P0 P σ H Q ρ E h=>Mv a2 hr E h⟩
noncomputable def Mw (ds:List D):M D:=match ds with
 |[.lst xs]|[.tup xs]=>.ok (.int xs.length)
 |_=>.bad
theorem Aa.one {K:za}{H:Hp}{vs:List V}{d:D}(h:Aa K H vs [d]):∃v,vs=[v]/\B9 K H v d:=by
 cases h with
 |cons h t=>cases t;exact⟨_,rfl,h⟩
theorem QS:EK X.K WX (λ xs H Q=>∃p ys,xs=[.ref p]/\(D5 X.K H p ys\/Fc X.K H p ys)/\Q (.int ys.length) H) Mw:=by
 intro P H ds vs Q ht hl h;unfold Mw at h;split at h
 ·obtain⟨v,rfl,hv⟩:=hl.one;cases hv with
  |lst hs hh=>exact⟨_,_,rfl,.inl hs.Bs,by rw[hh.length];exact h _ H (A7.refl H) (.int _)⟩
 ·obtain⟨v,rfl,hv⟩:=hl.one;cases hv with
  |tup hs hh=>exact⟨_,_,rfl,.inr (Fc.of (Aj hs).2),by rw[hh.length];exact h _ H (A7.refl H) (.int _)⟩
 ·exact h.elim
theorem Eu (hg:Gl X "len")(hm:X.mg "len" = none)(ha:DE X WX c e f)(hs:starEach [e] X.env=[(false,eval e X.env)]:=by rfl):DE X WX c (.Call (.Name "len" p) [e] [] pos) (λ ρ=>((f ρ).bind λ d=>(M.ok []).bind λ ds=>.ok (d::ds)).bind Mw):=
 Fv Hs QS hg hm PySem.boot_len (A2 ha Ab hs) (he:=hs)
noncomputable def OC:D->String
 | .Av => "NoneType"
 | .bl _ => "bool"
 | .int _ => "int"
 | .str _ => "str"
 | .tup _ => "tuple"
 | .lst _ => "list"
 | .BU _ => "NoneType"
 | .Bc _ _ _ => "dict"
 | .ins _ _ _ => "NoneType"
noncomputable def BH (T:String)(d:D):Bool:=(OC d==T)||(OC d == "bool" && T == "int")
noncomputable def Cz (T:String)(d:D):M D:=match d with
 | .BU _| .ins _ _ _=>.bad
 |d=>.ok (.bl (BH T d))
noncomputable def LO:D->Bool
 | .BU _| .ins _ _ _=>true
 |_=>false
theorem IK {T:String}{d:D}(h:LO d=false):Cz T d=.ok (.bl (BH T d)):=by cases d<;>first | rfl | cases h
def U7 (K:za)(T:String):List V->Hp->VK->Prop:=λ xs H Q=>∃x d,xs=[x,.ty T]/\B9 K H x d/\LO d=false/\Q (.bl (BH T d)) H
theorem Mx {T:String}(hk:∀d:D,yj X.K (.type (OC d)) (.type T)=some (BH T d)):CI X (.builtin "isinstance") (U7 X.K T):=by
 intro pins s σ H xs us Q I r h;obtain⟨x,d,rfl,hd,hx,q⟩:=h;obtain⟨u,w,rfl,rx,aQ⟩:=r.two;cases aQ;have fin:∀tk,EP X pins σ Q (.bool (BH T d)) {s with toks:=tk}:=λ tk=>⟨.bl _,H,I.tok tk,rfl,q⟩;have e:=hk d;cases hd with
 |BU _ _|ins _ _ _=>cases hx
 |DY hs hl =>
  cases rx;obtain⟨⟨o,h1,h2⟩,_,_⟩:=Ml I (.inl ⟨_,hs⟩);exact zY PySem.W.kitx_dict I.K6 ⟨o,h1,h2⟩ e (λ z=>nomatch z) fin
 |DZ hs hl =>
  cases rx;obtain⟨⟨o,h1,h2⟩,_,_⟩:=Ml I (.inr ⟨_,hs⟩);exact zY PySem.W.kitx_dict I.K6 ⟨o,h1,h2⟩ e (λ z=>nomatch z) fin
 |Av=>cases rx;exact zY PySem.W.kitx_none I.K6 True.intro e (λ z=>nomatch z) fin
 |bl b=>cases rx;exact zY PySem.W.kitx_bool I.K6 True.intro e (λ z=>nomatch z) fin
 |int b=>obtain⟨t,rfl⟩:=rx;exact zY PySem.W.kitx_int I.K6 True.intro e (λ z=>nomatch z) fin
 |str b=>obtain⟨t,rfl⟩:=rx;exact zY PySem.W.kitx_str I.K6 True.intro e (λ z=>nomatch z) fin
 |tup hs hl =>
  cases rx;obtain⟨_,_,⟨o,h1,h2,_⟩,_⟩:=I.tuple (.of hs);exact zY PySem.W.kitx_tuple I.K6 ⟨o,h1,h2⟩ e (λ z=>nomatch z) fin
 |lst hs hl =>
  cases rx;obtain⟨_,_,⟨o,n,h1,h2,_⟩,_⟩:=I.list hs;exact zY PySem.W.kitx_list I.K6 ⟨o,h1,h2⟩ e (λ z=>nomatch z) fin
theorem BI {T:String}{x2:Str}{p2:Pos}(hk:∀d:D,yj X.K (.type (OC d)) (.type T)=some (BH T d))(hg:Gl X "isinstance")(hm:X.mg "isinstance" = none)(eL:Gl X x2)(bH:X.mg x2=none)(eM:bootBuiltins x2=some (.type T))(ha:DE X WX c e f)
 (hb:bootBuiltins "isinstance" = some (.builtin "isinstance"):=by decide +kernel) (aE:x2 ≠ "__name__" := by decide) (df:(x2==("__debug__" : Str))=false:=by decide) (hs:starEach [e,.Name x2 p2] X.env=(false,eval e X.env)::starEach [.Name x2 p2] X.env:=by rfl) (dh:starEach [.Name x2 p2] X.env=[(false,eval (.Name x2 p2) X.env)]:=by rfl)
 (aI:(backTo pos (starEach [.Name x2 p2] X.env)).any (·.1)=false:=by rfl):
 DE X WX c (.Call (.Name "isinstance" p) [e,.Name x2 p2] [] pos) (λ ρ=>(f ρ).bind λ d=>Cz T d):=by
 obtain⟨ta,a1,a2⟩:=ha;refine⟨_,Iv (Mx hk) hg hm hb (Bl a1 (Bl (O0 (v:=.ty T) eL bH eM rfl aE df) Ce dh) hs) (by decide) (by decide) hs aI,λ P0 P σ H Q ρ E h=>?_⟩;dsimp only at h;refine a2 P0 P σ H _ ρ E ?_;cases q:f ρ with
 |bad|ex x=>rw[q] at h;exact h
 |ok d =>
  rw[q] at h;simp only[M.A6] at h;cases hx:LO d with
  |true=>cases d<;>first|exact h.elim|cases hx
  |false =>
   rw[IK hx] at h;exact λ v H1 s1 hv=>⟨v,d,rfl,hv.mono C9,hx,h _ H1 s1 (.bl _)⟩
theorem Cg (K:za)(d:D):yj K (.type (OC d)) (.type "tuple")=some (BH "tuple" d):=by cases d<;>rfl
theorem GP (K:za)(d:D):yj K (.type (OC d)) (.type "list")=some (BH "list" d):=by cases d<;>rfl
theorem GQ (K:za)(d:D):yj K (.type (OC d)) (.type "bool")=some (BH "bool" d):=by cases d<;>rfl
theorem My (K:za)(d:D):yj K (.type (OC d)) (.type "int")=some (BH "int" d):=by cases d<;>rfl
noncomputable def Qa (lo hi:Option Int)(d:D):M D:=match d with
 | .lst ds=>.ok (.lst ((ds.drop (HT.Fg ds.length 0 lo)).take (HT.Fg ds.length ds.length hi-HT.Fg ds.length 0 lo)))
 |_=>.bad
def DO (X:Cx)(WX:Str->Hp->Prop)(c:Bool)(e:Option Expr)(f:A5->M (Option Int)):Prop:=
 ∃t,PO X e t/\∀P0 P σ H Q ρ,A9 X.K P0 P H σ ρ->(match f ρ with | .ok o=>∀H',A7 H H'->Q o H' | .ex x=>∀H',A7 H H'->WX x H' | .bad=>False)->t σ H Q
theorem Ki:DO X WX c none (λ _=>.ok none):=⟨_,Oe,λ P0 P σ H Q ρ E h=>h H (A7.refl H)⟩
noncomputable def UO (d:D):M (Option Int):=match d with | .int i=>.ok (some i) | _=>.bad
theorem F3 (ha:DE X WX c e f):DO X WX c (some e) (λ ρ=>(f ρ).bind UO):=by
 obtain⟨ta,a1,a2⟩:=ha;refine⟨_,Of a1,λ P0 P σ H Q ρ E h=>?_⟩;dsimp only at h;refine a2 P0 P σ H _ ρ E ?_;cases q:f ρ with
 |bad|ex x=>rw[q] at h;exact h
 |ok d =>
  rw[q] at h;cases d with
  |int i=>exact λ v H1 s1 hv=>⟨i,hv.int_inv,h H1 s1⟩
  |_=>exact h.elim
end
inductive Out where
 |ret (d:D)|next (ρ:A5)|brk (ρ:A5)|cont (ρ:A5)|B3 (c:Cl)|Dm (t:OT) (ρ:A5)
def Tr (P0 P:Addr->Prop)(H:Hp)(P':Addr->Prop)(H':Hp):Prop:=A7 (del H P) (del H' P')/\∀a,P0 a->H' a=H a
theorem Tr.refl {P0 P:Addr->Prop}{H:Hp}:Tr P0 P H P H:=⟨A7.refl _,λ _ _=>rfl⟩
theorem Tr.trans {P0 P P1 P2:Addr->Prop}{H H1 H2:Hp}(a:Tr P0 P H P1 H1)(b:Tr P0 P1 H1 P2 H2):Tr P0 P H P2 H2:=⟨a.1.trans b.1,λ x h=>(b.2 x h).trans (a.2 x h)⟩
theorem A9.tr {K:za}{P0:Cc}{P:Addr->Prop}{H H':Hp}{σ:St}{ρ:A5}(E:A9 K P0 P H σ ρ)(e:A7 H H'):Tr P0 P H P H':=
 ⟨e.del,λ a h=>by obtain⟨o,q,_⟩:=E.Bp a (E.sub a h);rw[e a o q,q]⟩
def gS (K:za)(WX:Str->Hp->Prop)(P0:Cc)(P:Addr->Prop)(H:Hp)(Z:Ends):M Out->Prop
 | .ok (.ret d)=>∀v H' P',Tr P0 P H P' H'->B9 K (del H' P0) v d->Z.rt v H'
 | .ok (.next ρ)=>∀σ' H' P',Tr P0 P H P' H'->A9 K P0 P' H' σ' ρ->Z.nx σ' H'
 | .ok (.brk ρ)=>∀σ' H' P',Tr P0 P H P' H'->A9 K P0 P' H' σ' ρ->Z.bk σ' H'
 | .ok (.cont ρ)=>∀σ' H' P',Tr P0 P H P' H'->A9 K P0 P' H' σ' ρ->Z.ct σ' H'
 | .ok (.B3 c)=>∀v fp H' P',Tr P0 P H P' H'->(∀a,P0 a->P' a)->(∀a,P' a->D7 H' a)->BR K H' P' c v fp->(∀a∈fp,P' a/\¬ P0 a)->fp.Nodup->Z.rt v H'
 | .ok (.Dm t ρ)=>∀v fp σ' H' P',Tr P0 P H P' H'->A9 K P0 P' H' σ' ρ->Bn K H' P' v t fp->fp.Nodup->(∀a∈fp,P' a/\¬ P0 a/\∀(j:Nat) c v' fq,ρ[j]?=some (some c)->σ'[j]?=some (some v')->BR K H' P' c v' fq->a∉fq)->Z.rt v H'
 | .ex x=>∀H' P',Tr P0 P H P' H'->WX x H'
 | .bad=>False
theorem gS.tr {K:za}{WX:Str->Hp->Prop}{P0:Cc}{P P':Addr->Prop}{H H':Hp}{Z:Ends}{m:M Out}(h:gS K WX P0 P H Z m)(t:Tr P0 P H P' H'):gS K WX P0 P' H' Z m:=by
 cases m with
 |bad=>exact h
 |ex x=>exact λ H2 P2 t2=>h H2 P2 (t.trans t2)
 |ok o =>
  cases o with
  |ret d=>exact λ v H2 P2 t2 hv=>h v H2 P2 (t.trans t2) hv
  |next ρ|brk ρ|cont ρ=>exact λ σ2 H2 P2 t2 hv=>h σ2 H2 P2 (t.trans t2) hv
  |B3 c=>exact λ v fp H2 P2 t2=>h v fp H2 P2 (t.trans t2)
  |Dm c ρ=>exact λ v fp σ2 H2 P2 t2=>h v fp σ2 H2 P2 (t.trans t2)
def DS (X:Cx)(WX:Str->Hp->Prop)(st:Stmt)(g:A5->M Out):Prop:=
 ∃t,PS X st t/\∀P0 P σ H Z ρ,A9 X.K P0 P H σ ρ->gS X.K WX P0 P H Z (g ρ)->t Z σ H
def Mz (X:Cx)(WX:Str->Hp->Prop)(st:List Stmt)(g:A5->M Out):Prop:=
 ∃t,KS X st t/\∀P0 P σ H Z ρ,A9 X.K P0 P H σ ρ->gS X.K WX P0 P H Z (g ρ)->t Z σ H
noncomputable def MA (m:M Out)(k:A5->M Out):M Out:=match m with
 | .ok (.next ρ)=>k ρ
 |m=>m
section
variable {X:Cx}{WX:Str->Hp->Prop}{c:Bool}{P0:Cc}{P:Addr->Prop}{H:Hp}{σ:St}{ρ:A5}{a b e:Expr}{f g:A5->M D}{ft gt:A5->M Bool}{pos:Pos}{st:Stmt}{rest:List Stmt}{g1 g2:A5->M Out}
theorem Am:Mz X WX [] (λ ρ=>.ok (.next ρ)):=⟨_,O2,λ P0 P σ H Z ρ E h=>h σ H P Tr.refl E⟩
theorem A8 (h:DS X WX st g1):Mz X WX [st] g1:=let ⟨t,h1,h2⟩:=h;⟨_,O3 h1,h2⟩
theorem A3 (h:DS X WX st g1)(hr:Mz X WX rest g2):Mz X WX (st::rest) (λ ρ=>MA (g1 ρ) g2):=by
 obtain⟨t,h1,h2⟩:=h;obtain⟨u,r1,r2⟩:=hr;refine⟨_,LY h1 r1,λ P0 P σ H Z ρ E h=>?_⟩;dsimp only at h;refine h2 P0 P σ H {Z with nx:=u Z} ρ E ?_;cases q:g1 ρ with
 |bad|ex x=>rw[q] at h;exact h
 |ok o =>
  rw[q] at h;cases o with
  |ret d|brk d|cont d|B3 d|Dm d ρ2=>exact h
  |next ρ'=>exact λ σ' H' P' t E'=>r2 P0 P' σ' H' Z ρ' E' (gS.tr h t)
theorem MB (ha:DE X WX false e f):DS X WX (.Return (some e) pos) (λ ρ=>(f ρ).bind λ d=>.ok (.ret d)):=by
 obtain⟨ta,a1,a2⟩:=ha;refine⟨_,Jn a1,λ P0 P σ H Z ρ E h=>?_⟩;dsimp only at h;refine a2 P0 P σ H _ ρ E ?_;cases q:f ρ with
 |bad=>rw[q] at h;exact h
 |ex x=>rw[q] at h;exact λ H' s=>h H' P (E.tr s)
 |ok d=>rw[q] at h;exact λ v H' s hv=>h v H' P (E.tr s) hv
theorem AO {c:Expr}{sa sb:List Stmt}(hc:DT X WX c ft)(ha:Mz X WX sa g1)(hb:Mz X WX sb g2):DS X WX (.If c sa sb pos) (λ ρ=>(ft ρ).bind λ k=>if k=true then g1 ρ else g2 ρ):=by
 obtain⟨tc,c1,c2⟩:=hc;obtain⟨ta,a1,a2⟩:=ha;obtain⟨tb,b1,b2⟩:=hb;refine⟨_,S3 c1 a1 b1,λ P0 P σ H Z ρ E h=>?_⟩;dsimp only at h;refine c2 P0 P σ H _ ρ E ?_;cases q:ft ρ with
 |bad=>rw[q] at h;exact h
 |ex x=>rw[q] at h;exact λ H' s=>h H' P (E.tr s)
 |ok k =>
  rw[q] at h;intro H1 s1;cases k with
  |true =>
   simp only[M.A6,if_true] at h ⊢;exact a2 P0 P σ H1 Z ρ (E.same s1) (h.tr (E.tr s1))
  |false =>
   simp only[M.A6,zC,if_false] at h ⊢;exact b2 P0 P σ H1 Z ρ (E.same s1) (h.tr (E.tr s1))
theorem get_set {α:Type}{l:List α}{i j:Nat}{x y:α}(h:(l.set i x)[j]?=some y):(i=j/\i<l.length/\x=y)\/(i≠j/\l[j]?=some y):=by
 by_cases e:i=j
 ·subst e;rw[List.getElem?_set_self'] at h;cases q:l[i]? with
  |none=>rw[q] at h;cases h
  |some z =>
   rw[q] at h;exact .inl ⟨rfl,(zw.mp q).1,by simpa using h⟩
 ·rw[yb e] at h;exact .inr ⟨e,h⟩
theorem A9.OD {K:za}(E:A9 K P0 P H σ ρ){i:Nat}{v:V}{d:D}(hv:B9 K (del H P) v d):A9 K P0 P H (σ.set i (some v)) (ρ.set i (some (.val d))):=by
 have gs:∀ {j:Nat},i≠j->(σ.set i (some v))[j]?=σ[j]? :=λ h=>yb h;refine⟨E.sub,E.Bp,λ j e h=>?_,λ j c h io=>?_,λ j k c c' u u' fp ah h1 h2 h3 h4 h5 h6 af=>?_,by rw[List.length_set,List.length_set];exact E.len,λ j c n h hp=>?_⟩
 rotate_left 3
 ·rcases get_set h with ⟨rfl,hl,e1⟩|⟨af,h⟩
  ·cases e1;cases hp
  ·rw[gs af];exact E.pin j c n h hp
 ·rcases get_set h with ⟨rfl,hl,e1⟩|⟨af,h⟩
  ·cases e1;exact⟨v,zN (by rw[E.len];exact hl),hv⟩
  ·obtain⟨w,h1,h2⟩:=E.val j e h;exact⟨w,by rw[gs af];exact h1,h2⟩
 ·rcases get_set h with ⟨rfl,hl,e1⟩|⟨af,h⟩
  ·cases e1;cases io
  ·obtain⟨w,fp,h1,h2⟩:=E.ows j c h io;exact⟨w,fp,by rw[gs af];exact h1,h2⟩
 ·rcases get_set h1 with ⟨rfl,hl,e1⟩|⟨bI,h1⟩
  ·cases e1;exact h5.elim
  ·rcases get_set h2 with ⟨rfl,hl,e1⟩|⟨aE,h2⟩
   ·cases e1;exact h6.elim
   ·rw[gs bI] at h3;rw[gs aE] at h4;exact E.apart j k c c' u u' fp ah h1 h2 h3 h4 h5 h6 af
theorem A9.MC {K:za}(E:A9 K P0 P H σ ρ){P':Addr->Prop}{H':Hp}{i:Nat}{v:V}{c:Cl}{fp:List Addr}(hs:∀a,P a->P' a)(ht:∀a,P' a->D7 H' a)(sm:A7 (del H P) (del H' P'))
 (keep:∀(j:Nat) c' v' ah,i≠j->ρ[j]?=some (some c')->σ[j]?=some (some v')->BR K H P c' v' ah->∀a∈ah,H' a=H a/\a∉fp)
 (new:BR K H' P' c v fp) (hp:∀a∈fp,P' a/\¬ P0 a) (nd:fp.Nodup) (di:∀n,E6 c=some n->v=.ref (P0.g n):=by intro n z;cases z):A9 K P0 P' H' (σ.set i (some v)) (ρ.set i (some c)):=by
 have gs:∀ {j:Nat},i≠j->(σ.set i (some v))[j]?=σ[j]? :=λ h=>yb h;refine⟨λ a h=>hs a (E.sub a h),ht,λ j e h=>?_,λ j c' h io=>?_,λ j k c1 c2 u u' aq bG h1 h2 h3 h4 h5 h6 af=>?_,by rw[List.length_set,List.length_set];exact E.len,λ j c' n h hp=>?_⟩
 rotate_left 3
 ·rcases get_set h with ⟨rfl,hl,e1⟩|⟨af,h⟩
  ·cases e1;rw[zN (by rw[E.len];exact hl),di n hp]
  ·rw[gs af];exact E.pin j c' n h hp
 ·rcases get_set h with ⟨rfl,hl,e1⟩|⟨af,h⟩
  ·cases e1;exact new.elim
  ·obtain⟨w,h1,h2⟩:=E.val j e h;exact⟨w,by rw[gs af];exact h1,h2.mono sm⟩
 ·rcases get_set h with ⟨rfl,hl,e1⟩|⟨af,h⟩
  ·cases e1;exact⟨v,fp,zN (by rw[E.len];exact hl),new,hp,nd⟩
  ·obtain⟨w,fq,h1,h2,h3,h4⟩:=E.ows j c' h io;exact⟨w,fq,by rw[gs af];exact h1,h2.move sm λ a ha=>(keep j c' w fq af h h1 h2 a ha).1,λ a ha=>⟨hs a (h3 a ha).1,(h3 a ha).2⟩,h4⟩
 ·have back:∀(l:Nat) (d:Cl) (w:V) (fq:List Addr),i≠l->ρ[l]?=some (some d)->σ[l]?=some (some w)->BR K H' P' d w fq->∃fr,BR K H P d w fr/\fr=fq:=λ l d w fq hn hk sk ho=>by
   have io:Et d=true:=by cases d<;>first|rfl|exact ho.elim
   obtain⟨w',bG,s2,o2,_⟩:=E.ows l d hk io;rw[sk] at s2;cases s2;exact⟨bG,o2,(o2.move sm λ a ha=>(keep l d w bG hn hk sk o2 a ha).1).BQ ho⟩
  rcases get_set h1 with ⟨rfl,hl,e1⟩|⟨bI,h1⟩
  ·cases e1;rw[zN (by rw[E.len];exact hl)] at h3;cases h3;rcases get_set h2 with ⟨e,_⟩|⟨aE,h2⟩
   ·exact (af e).elim
   ·rw[gs aE] at h4;obtain⟨fr,o,rfl⟩:=back k c2 u' bG aE h2 h4 h6;intro a ha hb;rw[new.BQ h5] at keep;exact (keep k c2 u' fr aE h2 h4 o a hb).2 ha
  ·rw[gs bI] at h3;obtain⟨fr,o,rfl⟩:=back j c1 u aq bI h1 h3 h5;rcases get_set h2 with ⟨rfl,hl,e1⟩|⟨aE,h2⟩
   ·cases e1;rw[zN (by rw[E.len];exact hl)] at h4;cases h4;intro a ha;rw[new.BQ h6] at keep;exact (keep j c1 u fr bI h1 h3 o a ha).2
   ·rw[gs aE] at h4;obtain⟨eN,o2,rfl⟩:=back k c2 u' bG aE h2 h4 h6;exact E.apart j k c1 c2 u u' fr eN h1 h2 h3 h4 o o2 af
theorem Ew {α:Type}:∀ {l:List α}{i:Nat}{x:α},l[i]?=some x->l.set i x=l
 |[],_,_,h=>by cases h
 |y::r,0,x,h=>by cases h;rfl
 |y::r,i+1,x,h=>by rw[zP,Ew (by simpa using h)]
theorem A9.mut {K:za}(E:A9 K P0 P H σ ρ){i p:Nat}{xs:List V}{ds dk:List D}(ho:ρ[i]?=some (some (.own ds)))(hs:σ[i]?=some (some (.ref p)))(pP:P p)(cB:¬ P0 p)(hx:Aa K (del H P) xs dk):
 A9 K P0 P (upd H p (.lst xs)) σ (ρ.set i (some (.own dk)))/\Tr P0 P H P (upd H p (.lst xs)):=by
 have sd:del (upd H p (.lst xs)) P=del H P:=by
  funext b;by_cases hb:P b
  ·rw[Dz hb,Dz hb]
  ·rw[Ar hb,Ar hb,Ah (λ z=>hb (by rw[z];exact pP))]
 have sm:A7 (del H P) (del (upd H p (.lst xs)) P):=by rw[sd];exact A7.refl _
 obtain⟨v,fp,s1,o1,_⟩:=E.ows i _ ho rfl;rw[hs] at s1;cases s1;have key:=E.MC (P':=P) (H':=upd H p (.lst xs)) (i:=i) (v:=.ref p) (c:=.own dk) (fp:=[p]) (λ a h=>h) (λ a h=>?_) sm (λ j c' v' ah af h1 h2 h3 a ha=>?_) ⟨p,xs,rfl,rfl,AM,by rw[sd];exact hx⟩ (λ a ha=>by rw[zv.mp ha];exact⟨pP,cB⟩) (by simp)
 ·rw[Ew hs] at key;exact⟨key,sm,λ a h=>by rw[Ah (λ z=>cB (by rw[<-z];exact h))]⟩
 ·by_cases ha:a=p
  ·subst ha;exact D7.lst AM
  ·unfold D7;rw[Ah ha];exact E.Bp a h
 ·obtain⟨p',b3,e,rfl,_⟩:=o1;cases e;have hn:a≠p:=λ z=>E.apart j i c' _ v' _ ah [p] h1 ho h2 hs h3 ⟨p,b3,rfl,rfl,by assumption⟩ (Ne.symm af) a ha (by rw[z];exact zv.mpr rfl);exact⟨Ah hn,λ z=>hn (zv.mp z)⟩
theorem A9.grow {K:za}(E:A9 K P0 P H σ ρ){i p:Nat}{xs:List V}{ds:List D}{v:V}{d:D}(ho:ρ[i]?=some (some (.own ds)))(hs:σ[i]?=some (some (.ref p)))(hp:H p=some (.lst xs))(pP:P p)(cB:¬ P0 p)(hx:Aa K (del H P) xs ds)(hv:B9 K (del H P) v d):
 A9 K P0 P (upd H p (.lst (xs++[v]))) σ (ρ.set i (some (.own (ds++[d]))))/\Tr P0 P H P (upd H p (.lst (xs++[v]))):=E.mut ho hs pP cB (hx.snoc hv)
theorem AF (i:Nat){x:Str}{pos':Pos}(hN:X.N.Nodup)(hi:X.N[i]?=some x)(hx:Loc X.env.scope x)(ha:DE X WX true e f)(hs:swapsWith e (some (.Name x pos')) pos.line X.env=pure false:=by rfl)(hf:X.fn x=true\/X.env.scope.names.lookup x=some .local:=by first | exact .inl rfl | exact .inr rfl | assumption):
 DS X WX (.Assign [.Name x pos'] e pos) (λ ρ=>(f ρ).bind λ d=>.ok (.next (ρ.set i (some (.val d))))):=by
 obtain⟨ta,a1,a2⟩:=ha;refine⟨_,M0 hN hi hx a1 hs hf,λ P0 P σ H Z ρ E h=>?_⟩;dsimp only at h;refine a2 P0 P σ H _ ρ E ?_;cases q:f ρ with
 |bad=>rw[q] at h;exact h
 |ex x=>rw[q] at h;exact λ H' s=>h H' P (E.tr s)
 |ok d=>rw[q] at h;exact λ v H' s hv=>h _ H' P (E.tr s) ((E.same s).OD hv)
noncomputable def L8 (i:Nat)(ρ:A5)(m:M D):M Out:=match ρ[i]? with
 |some (some (.own ds))=>m.bind λ d=>if ds.length<1000 then .ok (.next (ρ.set i (some (.own (ds++[d]))))) else .bad
 |_=>.bad
theorem GR (i:Nat){x:Str}{p1 apos ad:Pos}(hv:PE X (.Name x p1) (KU i))(ha:DE X WX true e f)(hs:starEach [e] X.env=[(false,eval e X.env)]:=by rfl)
 (dl:swapsWith (.Call (.Attribute (.Name x p1) "append" apos) [e] [] ad) none pos.line X.env=pure false:=by rfl)
 (ak:attributeBase (.Name x p1) "append" X.env (eval (.Name x p1) X.env)=eval (.Name x p1) X.env:=by rfl)
 (ax:((backTo ad (starEach [e] X.env)).all (λ x => !x.1)&&(backToKw ad (keywordEach [] X.env)).all (λ x=>x.1.isSome)&&decide (([e]:List Expr).length+([]:List Keyword).length+(if ([]:List Keyword).isEmpty then 0 else 1)<30))=true:=by rfl)
 (al:(apos.endLine==ad.line)=true:=by rfl) (ag:(backTo ad (starEach [] X.env)).any (·.1)=false:=by rfl):
 DS X WX (.Expr (.Call (.Attribute (.Name x p1) "append" apos) [e] [] ad) pos) (λ ρ=>L8 i ρ (f ρ)):=by
 obtain⟨ta,a1,a2⟩:=ha;refine⟨_,K8 (Ke PySem.F.plainAttrs_list PySem.F.slot_list_append PySem.F.type_list_append GJ hv (Bl a1 Ce hs) ak ax al hs ag) dl,λ P0 P σ H Z ρ E h=>?_⟩;dsimp only at h;unfold L8 at h;split at h
 ·rename_i ds e1;obtain⟨p,xs,h1,h2,h3,h4,h5⟩:=E.own i ds e1;refine⟨_,h1,.inl ⟨rfl,xs,.of h2⟩,?_⟩;refine a2 P0 P σ H _ ρ E ?_;cases q:f ρ with
  |bad=>rw[q] at h;exact h
  |ex y=>rw[q] at h;exact λ H' s=>h H' P (E.tr s)
  |ok d =>
   rw[q] at h;simp only[M.A6] at h;by_cases hl:ds.length<1000
   ·rw[if_pos hl] at h;intro v H1 s1 hv;have E1:=E.same s1;have ce:H1 p=some (.lst xs):=s1 _ _ h2;refine⟨p,xs,v,rfl,rfl,ce,AU (by rw[h5.length];omega),?_⟩;obtain⟨E2,t2⟩:=E1.grow e1 h1 ce h3 h4 (h5.mono s1.del) hv;exact h _ _ _ ((E.tr s1).trans t2) E2
   ·rw[if_neg hl] at h;exact h.elim
 ·exact h.elim
end
def gG (K:za)(P0:Cc)(P:Addr->Prop)(H:Hp)(Q:St->Hp->Prop):M A5->Prop
 | .ok ρ=>∀σ',A9 K P0 P H σ' ρ->Q σ' H
 |_=>False
def DG (X:Cx)(tg:Expr)(gt:D->A5->M A5):Prop:=
 ∃g:TG,PG X tg g/\∀P0 P σ H Q ρ v d,A9 X.K P0 P H σ ρ->B9 X.K (del H P) v d->gG X.K P0 P H Q (gt d ρ)->g v σ H Q
def Th (X:Cx)(eO:List Expr)(gt:List D->A5->M A5):Prop:=
 ∃g:PV,S4 X eO g/\∀P0 P σ H Q ρ v d,A9 X.K P0 P H σ ρ->Aa X.K (del H P) v d->gG X.K P0 P H Q (gt d ρ)->g v σ H Q
structure Sk (K:za)(J:It)(P:Addr->Prop)(H:Hp)(ds:List D):Prop where
 go:∀(i:Nat) P' H',A7 (del H P) (del H' P')->i<ds.length->J.go i H'
 stop:∀(i:Nat) P' H',A7 (del H P) (del H' P')->ds.length<=i->J.stop i H'
 Qx:∀(i:Nat) P' H' v bJ d,A7 (del H P) (del H' P')->(∀a,P' a->D7 H' a)->ds[i]?=some d->J.Qx i H' v bJ->A7 H' bJ/\B9 K (del bJ P') v d
def DI (X:Cx)(WX:Str->Hp->Prop)(tg iter:Expr)(f:A5->M (List D)):Prop:=
 ∃wi,PI X tg iter wi/\∀P0 P σ H R ρ,A9 X.K P0 P H σ ρ->(match f ρ with | .ok ds=>∀J H',A7 H H'->Sk X.K J P H' ds->R J H' | .ex x=>∀H',A7 H H'->WX x H' | .bad=>False)->wi σ H R
noncomputable def forM (gt:D->A5->M A5)(body:A5->M Out):List D->A5->M Out
 |[],ρ=>.ok (.next ρ)
 |d::r,ρ=>match gt d ρ with
  | .ok ρ1=>(match body ρ1 with
   | .ok (.next ρ2)| .ok (.cont ρ2)=>forM gt body r ρ2
   | .ok (.brk ρ2)=>.ok (.next ρ2)
   |m=>m)
  |_=>.bad
section
variable {X:Cx}{WX:Str->Hp->Prop}{c:Bool}{P0:Cc}{P:Addr->Prop}{H:Hp}{σ:St}{ρ:A5}{a b e tg iter:Expr}{f g:A5->M D}{ft:A5->M Bool}{pos:Pos}{gt:D->A5->M A5}{cf:List D->A5->M A5}{gb:A5->M Out}{fi:A5->M (List D)}
theorem D8 (i:Nat){x:Str}(hN:X.N.Nodup)(hi:X.N[i]?=some x)(hx:Loc X.env.scope x)(hf:X.fn x=true\/X.env.scope.names.lookup x=some .local:=by first | exact .inl rfl | exact .inr rfl | assumption):DG X (.Name x pos) (λ d ρ=>.ok (ρ.set i (some (.val d)))):=
 ⟨_,Ka hN hi hx hf,λ P0 P σ H Q ρ v d E hv h=>h _ (E.OD hv)⟩
theorem OE:Th X [] (λ ds ρ=>match ds with | []=>.ok ρ | _=>.bad):=⟨_,O4,λ P0 P σ H Q ρ v d E hv h=>by
 cases hv with
 |nil=>exact⟨rfl,h σ E⟩
 |cons _ _=>exact h.elim⟩
theorem E7 {es:List Expr}(h1:DG X e gt)(h2:Th X es cf)(hs:(assignEach (e::es) X.env).map (·.2)=assign e X.env::(assignEach es X.env).map (·.2):=by rfl):
 Th X (e::es) (λ ds ρ=>match ds with|d::r=>(gt d ρ).bind (cf r)|[]=>.bad):=by
 obtain⟨t,a1,a2⟩:=h1;obtain⟨u,b1,b2⟩:=h2;refine⟨_,LZ a1 b1 hs,λ P0 P σ H Q ρ v d E hv h=>?_⟩;cases hv with
 |nil=>exact h.elim
 | @cons x d xs ds hx eQ =>
  refine⟨x,xs,rfl,a2 P0 P σ H _ ρ x d E hx ?_⟩;dsimp only at h;cases q:gt d ρ with
  |bad|ex y=>rw[q] at h;exact h
  |ok ρ1=>rw[q] at h;exact λ σ' E'=>b2 P0 P σ' H Q ρ1 xs ds E' eQ h
theorem QT {es:List Expr}{k n:Nat}(hc:X.calm=true)(h:Th X es cf)(hn:(assignEach es X.env).length=n:=by rfl)(bE:(assignEach es X.env).findIdx? (·.1)=none:=by rfl):
 DG X (.Tuple es k pos) (λ d ρ=>match d with | .tup ds=>if ds.length=n then cf ds ρ else .bad|_=>.bad):=by
 obtain⟨t,a1,a2⟩:=h;refine⟨_,Qw hc a1 hn bE,λ P0 P σ H Q ρ v d E hv h=>?_⟩;cases hv with
 | @tup a xs ds hs hl =>
  dsimp only at h;by_cases hd:ds.length=n
  ·rw[if_pos hd] at h;exact⟨a,xs,rfl,Fc.of (Aj hs).2,by rw[hl.length];exact hd,a2 P0 P σ H Q ρ xs ds E hl h⟩
  ·rw[if_neg hd] at h;exact h.elim
 |_=>exact h.elim
theorem D9 (ha:DE X WX true e f):DI X WX tg e (λ ρ=>(f ρ).bind λ d=>match d with | .lst ds=>.ok ds | _=>.bad):=by
 obtain⟨ta,a1,a2⟩:=ha;refine⟨_,Kb a1,λ P0 P σ H R ρ E h=>?_⟩;dsimp only at h;refine a2 P0 P σ H _ ρ E ?_;cases q:f ρ with
 |bad|ex x=>rw[q] at h;exact h
 |ok d =>
  rw[q] at h;cases d with
  |lst ds =>
   intro v H1 s1 hv;cases hv with
   | @lst a xs _ hs hl =>
    refine⟨a,rfl,⟨xs,hs.Bs⟩,h _ H1 s1 ⟨λ i P' H' s hi=>?_,λ i P' H' s hi=>?_,λ i P' H' v bJ d s ht hd y=>?_⟩⟩
    ·obtain⟨x,hx,_⟩:=hl.get (zk hi);exact⟨xs,x,(s.seq hs).Bs,hx⟩
    ·exact⟨xs,(s.seq hs).Bs,by rw[hl.length];exact hi⟩
    ·obtain⟨rfl,y⟩:=y;obtain⟨x,hx,bN⟩:=hl.get hd;have e:=y xs (s.seq hs).Bs;rw[hx] at e;cases e;exact⟨A7.refl _,bN.mono s⟩
  |_=>exact h.elim
theorem CN {α:Type}{l:List α}{i:Nat}(h:i<l.length):l.drop i=l[i]::l.drop (i+1):=List.drop_eq_getElem_cons h
theorem MD {body:List Stmt}(hp:PassesOwn (model X.prog X.w) X.A X.env X.xe)(hc:X.calm=true)(hi:DI X WX tg iter fi)(hg:DG X tg gt)(hb:Mz X WX body gb)(hs:∀x,foldedSetIterable iter X.env x=pure x:=by intro _;rfl):
 DS X WX (.For tg iter body [] pos) (λ ρ=>(fi ρ).bind λ ds=>forM gt gb ds ρ):=by
 obtain⟨wi,i1,i2⟩:=hi;obtain⟨t,a1,a2⟩:=hg;obtain⟨tb,b1,b2⟩:=hb;refine⟨_,M2 hp hc i1 a1 b1 hs,λ P0 P σ H Z ρ E h=>?_⟩;dsimp only at h;refine i2 P0 P σ H _ ρ E ?_;cases q:fi ρ with
 |bad=>rw[q] at h;exact h
 |ex x=>rw[q] at h;exact λ H' s=>h H' P (E.tr s)
 |ok ds =>
  rw[q] at h;simp only[M.A6] at h;intro J H1 s1 ok;refine⟨λ i m σ' H'=>m=ds.length-i/\i<=ds.length/\∃P' ρ',Tr P0 P H1 P' H'/\A9 X.K P0 P' H' σ' ρ'/\gS X.K WX P0 P' H' Z (forM gt gb (ds.drop i) ρ'),
   ⟨ds.length,by simp,zW _,P,ρ,Tr.refl,E.same s1,by rw[ym];exact h.tr (E.tr s1)⟩,?_⟩
  rintro i m σ' H' ⟨rfl,hi,P',ρ',t',E',g'⟩;by_cases am:i<ds.length
  ·refine .inr ⟨ok.go i P' H' t'.1 am,λ σ2 H2=>i+1<=ds.length/\∃P2 ρ2,Tr P0 P H1 P2 H2/\A9 X.K P0 P2 H2 σ2 ρ2/\gS X.K WX P0 P2 H2 Z (forM gt gb (ds.drop (i+1)) ρ2),λ σ2 H2 hq=>⟨ds.length-(i+1),by omega,rfl,hq.1,hq.2⟩,λ v H2 y=>?_⟩;obtain⟨s2,hv⟩:=ok.Qx i P' H' v H2 ds[i] t'.1 E'.Bp (zk am) y;rw[CN am,forM] at g';have E2:=E'.same s2;refine a2 P0 P' σ' H2 _ ρ' v ds[i] E2 hv ?_;cases q1:gt ds[i] ρ' with
   |bad=>rw[q1] at g';exact g'
   |ex x=>rw[q1] at g';exact g'.elim
   |ok ρ1 =>
    rw[q1] at g';dsimp only at g';intro σ3 E3;refine b2 P0 P' σ3 H2 _ ρ1 E3 ?_;have tt:Tr P0 P H1 P' H2:=t'.trans (E'.tr s2);cases q2:gb ρ1 with
    |bad=>rw[q2] at g';exact g'
    |ex x=>rw[q2] at g';exact gS.tr (m:=.ex x) g' (E'.tr s2)
    |ok o =>
     rw[q2] at g';cases o with
     |ret d=>exact gS.tr (m:=.ok (.ret d)) g' (E'.tr s2)
     |B3 d=>exact gS.tr (m:=.ok (.B3 d)) g' (E'.tr s2)
     |Dm d ρ2=>exact gS.tr (m:=.ok (.Dm d ρ2)) g' (E'.tr s2)
     |next ρ2|cont ρ2=>exact λ σ4 H4 P4 t4 E4=>⟨am,P4,ρ2,tt.trans t4,E4,gS.tr g' ((E'.tr s2).trans t4)⟩
     |brk ρ2=>exact λ σ4 H4 P4 t4 E4=>g' σ4 H4 P4 ((E'.tr s2).trans t4) E4
  ·have e:i=ds.length:=by omega
   subst e;refine .inl ⟨ok.stop _ P' H' t'.1 (zp _),?_⟩;rw[List.drop_length,forM] at g';exact g' σ' H' P' Tr.refl E'
end
noncomputable def Jy (K:za)(n:Nat)(F:List D->M D):Sp:=λ vs H Q _=>vs.length=n/\∃P ds,(∀a,P a->D7 H a)/\Aa K (del H P) vs ds/\gV K (λ _ _=>False) P H Q (F ds)
noncomputable def AB (N:List Str)(ds:List D):A5:=ds.map (λ d=>some (.val d))++List.replicate (N.length-ds.length) none
noncomputable def U8:Cl->M D
 | .val d=>.ok d
 | .own ds=>.ok (.lst ds)
 | .ow (.rows D6)=>.ok (.lst (D6.map D.lst))
 | .ow (.EU _ _)=>.bad
 | .ow (.tree _ t)=>.ok (er t)
noncomputable def fin (m:M Out):M D:=match m with
 | .ok (.ret d)=>.ok d
 | .ok (.B3 c)=>U8 c
 | .ok (.next _)=>.ok .Av
 |_=>.bad
theorem GS {K:za}{P:Addr->Prop}{H:Hp}{N:List Str}{vs:List V}{ds:List D}(ht:∀a,P a->D7 H a)(h:Aa K (del H P) vs ds):A9 K ⟨P,λ _=>0⟩ P H (start N vs) (AB N ds):=by
 have hl:=h.length;have key:∀(i:Nat) (c:Cl),(AB N ds)[i]?=some (some c)->∃d,ds[i]?=some d/\c=.val d:=λ i c e=>by
  unfold AB at e;by_cases hi:i<ds.length
  ·rw[yl (by simpa using hi),zH] at e;cases q:ds[i]? with
   |none=>rw[q] at e;cases e
   |some d=>rw[q] at e;cases e;exact⟨d,rfl,rfl⟩
  ·rw[yk (by simpa using hi),List.getElem?_replicate] at e;split at e<;>cases e
 refine⟨λ _ h=>h,ht,λ i d e=>?_,λ i es e io=>?_,λ i j c c' v v' fp ah e _ _ _ ho _ _=>?_,?_,λ i c n e hp=>?_⟩
 rotate_left 4
 ·obtain⟨d',q,z⟩:=key i _ e;cases z;cases hp
 ·obtain⟨d',q,z⟩:=key i _ e;cases z;obtain⟨v,hv,hd⟩:=h.get q;refine⟨v,?_,hd⟩;unfold start;rw[yl (by rw[zj];exact (zw.mp hv).1),zH,hv];rfl
 ·obtain⟨d',q,z⟩:=key i _ e;cases z;cases io
 ·obtain⟨d',q,z⟩:=key i _ e;cases z;exact ho.elim
 ·unfold start AB;simp[hl]
theorem Bv {P:Addr->Prop}{H H':Hp}{P':Addr->Prop}(t:Tr P P H P' H'):A7 H H':=λ b o e=>by
 by_cases hb:P b
 ·rw[t.2 b hb];exact e
 ·exact (Aj (t.1 b o (by rw[Ar hb];exact e))).2
theorem BE.QU {K:za}{H:Hp}{P P0:Addr->Prop}(hs:∀a,P0 a->P a):∀ {ps:List Addr}{D6:List (List D)},(∀a∈ps,¬ P0 a)->BE K H P ps D6->Aa K (del H P0) (ps.map V.ref) (D6.map D.lst)
 |_,_,_,.nil=>.nil
 |_,_,k,.cons h r t=>.cons (.lst (.of (show del H P0 _=_ by rw[Ar (k _ zd)];exact h)) (r.mono (AW hs))) (BE.QU hs (λ a ha=>k a (ze _ ha)) t)
theorem OF {K:za}{WX:Str->Hp->Prop}{P P2:Addr->Prop}{H H':Hp}{Q:VK}{c:Cl}{v:V}{fp:List Addr}(h:gV K WX P H Q (U8 c))(t':Tr P P H P2 H')(hs:∀a,P a->P2 a)(ht:∀a,P2 a->D7 H' a)(ho:BR K H' P2 c v fp)(hp:∀a∈fp,P2 a/\¬ P a):Q v H':=by
 cases c with
 |val d=>exact ho.elim
 |own ds =>
  obtain⟨p,xs,rfl,rfl,h1,h2⟩:=ho;exact h _ H' (Bv t') (.lst (.of (show del H' P p=_ by rw[Ar (hp p zd).2];exact h1)) (h2.mono (AW hs)))
 |ow o =>
  cases o with
  |rows D6 =>
   obtain⟨p,ps,rfl,rfl,h1,h2⟩:=ho;exact h _ H' (Bv t') (.lst (.of (show del H' P p=_ by rw[Ar (hp p zd).2];exact h1)) (h2.QU hs λ a ha=>(hp a (ze _ ha)).2))
  |EU p ds=>exact h.elim
  |tree p t=>exact h _ H' (Bv t') (Bn.has hs (λ a ha=>(hp a ha).2) ho)
section
variable {P:Program}{w:World}{K:za}{mg:Str->Option Value}{base:Heap}
theorem Sl {x qual:Str}{st:Stmt}{f:Addr}{fd:FuncData}{N ps:List Str}{k:Nat}(F:Mh K x qual st f fd)(S:Ak N ps (A4 st))(g:A5->M Out)
 (hb:∀(Bh:Value) (A:Around) (outer:List Env) (s:Shared) (H:Hp) (E:XK),BB k (A.deeper (envOfC qual (A4 st) s.heap.objs.size f Bh))->Mz (ER Om P w K mg base N qual (A4 st) f Bh A outer s H E).S0 (λ _ _=>False) (Ax st) g):
 DU P w K mg base Om (k+1) f fd ps (Jy K ps.length λ ds=>fin (g (AB N ds))):=by
 refine F.ok S (λ vs H Q E h=>h.1) λ Bh A outer s H vs Q E hr h=>?_;obtain⟨hl,P',ds,ht,hv,hq⟩:=h;obtain⟨t,h1,h2⟩:=hb Bh A outer s H E hr;refine⟨t,h1,h2 ⟨P',λ _=>0⟩ P' _ H _ _ (GS ht hv) ?_⟩;dsimp only at hq;revert hq;cases g (AB N ds) with
 |bad|ex x=>exact λ h=>h.elim
 |ok o =>
  cases o with
  |ret d=>exact λ h v H' P2 t hv=>h v H' (Bv t) hv
  |next ρ=>exact λ h σ' H' P2 t E=>h .Av H' (Bv t) .Av
  |brk ρ|cont ρ=>exact λ h=>h.elim
  |B3 c=>exact λ h v fp H' P2 t hs ht ho hp nd=>OF h t hs ht ho hp
  |Dm d ρ=>exact λ h=>h.elim
end
section
variable {X:Cx}{WX:Str->Hp->Prop}{c:Bool}{P0:Cc}{P:Addr->Prop}{H:Hp}{σ:St}{ρ:A5}{a b e tg iter:Expr}{f g:A5->M D}{ft:A5->M Bool}{pos:Pos}{gt:D->A5->M A5}{fi:A5->M (List D)}{es:List Expr}{fs:A5->M (List D)}
noncomputable def Bo (μ:List (Option Nat))(ρ:A5):A5:=μ.map λ o=>o.bind λ i=>match ρ[i]? with | some (some (.val d))=>some (.val d) | _=>none
theorem Dc {μ:List (Option Nat)}{ρ:A5}{j:Nat}{cl:Cl}(h:(Bo μ ρ)[j]?=some (some cl)):∃i d,μ[j]?=some (some i)/\ρ[i]?=some (some (.val d))/\cl=.val d:=by
 unfold Bo at h;rw[zH] at h;cases q:μ[j]? with
 |none=>rw[q] at h;cases h
 |some o =>
  rw[q] at h;cases o with
  |none=>cases h
  |some i =>
   simp only[Option.map_some,Option.bind_some,Option.some.injEq] at h;split at h
   ·rename_i d e;cases h;exact⟨i,d,rfl,e,rfl⟩
   ·cases h
theorem A9.block {K:za}(E:A9 K P0 P H σ ρ)(μ:List (Option Nat)):A9 K P0 P H (Dx μ σ) (Bo μ ρ):=by
 refine⟨E.sub,E.Bp,λ j d h=>?_,λ j ds h io=>?_,λ j k c c' v v' fp ah h _ _ _ ho _ _=>?_,by unfold Dx Bo;simp,λ j c n h hp=>by obtain⟨i,d',h1,h2,h3⟩:=Dc h;subst h3;cases hp⟩
 ·obtain⟨i,d',h1,h2,h3⟩:=Dc h;cases h3;obtain⟨v,h4,h5⟩:=E.val i d h2;refine⟨v,?_,h5⟩;unfold Dx;rw[zH,h1];simp[h4]
 ·obtain⟨i,d',h1,h2,h3⟩:=Dc h;cases h3;cases io
 ·obtain⟨i,d',h1,h2,h3⟩:=Dc h;cases h3;exact ho.elim
noncomputable def Bt (gt:D->A5->M A5)(ft:A5->M Bool)(fe:A5->M D):List D->A5->M (List D)
 |[],_=>.ok []
 |d::r,ρ=>match gt d ρ with
  | .ok ρ1=>(match ft ρ1 with
   | .ok k=>if k=true then (match fe ρ1 with
    | .ok y=>(match Bt gt ft fe r ρ with | .ok ys=>.ok (y::ys)|_=>.bad)
    |_=>.bad) else Bt gt ft fe r ρ
   |_=>.bad)
  |_=>.bad
def UP (X:Cx)(scope:Scope)(NB:List Str)(μ:List (Option Nat))(tg:Expr)(gt:D->A5->M A5):Prop:=
 ∃g:TG,(∀s H C ex,PG (blockOf X s H scope C NB ex) tg g)/\Hx μ g/\∀P0 P σ H Q ρ v d,A9 X.K P0 P H σ ρ->B9 X.K (del H P) v d->gG X.K P0 P H Q (gt d ρ)->g v σ H Q
theorem Ca {scope:Scope}{NB:List Str}{μ:List (Option Nat)}(i:Nat){x:Str}(hN:NB.Nodup)(hi:NB[i]?=some x)(hx:(relabel scope X.env).names.lookup x=some .local)(hm:μ[i]?=some none):UP X scope NB μ (.Name x pos) (λ d ρ=>.ok (ρ.set i (some (.val d)))):=
 ⟨K9 i,λ s H C ex=>Ka (X:=blockOf X s H scope C NB ex) hN hi (.inl hx) (.inr hx),Ou hm,λ P0 P σ H Q ρ v d E hv h=>h _ (E.OD hv)⟩
def UQ (X:Cx)(cs:List Expr)(f:A5->M Bool):Prop:=
 ∃t,Te X cs t/\∀P0 P σ H Q ρ,A9 X.K P0 P H σ ρ->gT (λ _ _=>False) H Q (f ρ)->t σ H Q
theorem Dd:UQ X [] (λ _=>.ok true):=⟨_,Ot,λ P0 P σ H Q ρ E h=>h H (A7.refl H)⟩
noncomputable def Sn (m:M (List D)):M D:=match m with | .ok ys=>.ok (.lst ys) | _=>.bad
end
section
variable {X:Cx}{WX:Str->Hp->Prop}{c:Bool}{P0:Cc}{P:Addr->Prop}{H:Hp}{σ:St}{ρ:A5}{a b e k:Expr}{f g:A5->M D}{te tk:TE}{pos p2:Pos}
noncomputable def IL:List D->Option (List Int)
 |[]=>some []
 | .int i::r=>(IL r).map (i::·)
 |_=>none
end
theorem BS {A:Around}{k:Nat}(hr:BB k A)(n:Nat)(hn:n<=64):A.units+n<cLine:=by have:=hr.units;omega
structure AY (K:za)(mg:Str->Option Value)(x:Str)(st:Stmt)(ps:List Str):Prop where
 ex:∃f fd,Mh K x x st f fd/\mg x=some (.ref f)/\Binds K fd ps []
theorem ME (ds:List D)(n:Nat):Qa none (some (n:Int)) (.lst ds)=.ok (.lst (ds.take n)):=by
 unfold Qa;dsimp only;rw[HT.Iw,HT.EY,ym,Nat.sub_zero];congr 2;rw[Nat.min_def];split
 ·rfl
 ·rw[yg (zp _),yg (by omega)]
theorem B6.there {P:Program}{w:World}{H:Hp}{h:Heap}{a:Addr}{o:HO}(x:B6 P w H h a o):∃ob,h.get? a=some ob:=by
 cases o with
 |lst xs=>obtain⟨_,_,_,_,e⟩:=x;exact⟨_,e⟩
 |tup xs=>obtain⟨_,_,_,o,e,_⟩:=x;exact⟨o,e⟩
 |dK kvs|dT kvs=>obtain⟨_,_,_,_,o,_,_,e,_⟩:=x;exact⟨_,e⟩
 |set S n=>obtain⟨o,_,_,_,e,_⟩:=x;exact⟨_,e⟩
 |ins C dx fs=>obtain⟨_,_,_,e,_⟩:=x;exact⟨_,e⟩
 |own y=>obtain⟨_,e⟩:=x;exact⟨_,e⟩
 |xd fs=>obtain⟨_,⟨_,_,_,e,_⟩,_⟩:=x;exact⟨_,e⟩
 |T9 lo hi=>obtain⟨_,_,_,e⟩:=x;exact⟨_,e⟩
 |K5 ob u=>obtain⟨e,_⟩:=x;exact⟨_,e⟩
 |PN ps|met f y=>exact⟨_,(show h.get? a=some _ from x)⟩
 |ext φ=>obtain⟨_,⟨_,e⟩,_⟩:=x;exact⟨_,e⟩
theorem D4.gone {P:Program}{w:World}{H:Hp}{h:Heap}{a:Addr}(x:D4 P w H h)(e:h.get? a=none):H a=none:=by
 cases q:H a with
 |none=>rfl
 |some o=>obtain⟨ob,z⟩:=(x a o q).there;rw[e] at z;cases z
structure QV (base g:Heap)(H:Hp)(l:List Env)(ea c:Addr)(h:Heap):Prop where
 Vs:∃a0,Heap.FlyingW base l ea (.ref c) a0 h
 new:g.get? ea=none
 un:H ea=none
 tr:∀oe vs T,h.get? ea=some oe->oe.data=.fields vs->vs[1]?=some (.ref T)->H T=none/\g.get? T=none
noncomputable def RL (P:Program)(w:World)(base:Heap):LM:=λ outer H s E ev s'=>∃(ea c:Addr) (H':Hp),ev=.ref ea/\s'.os=s.os/\AllBare s'.gens/\Un (EI outer) [] H H' s.heap s'.heap/\D4 P w H' s'.heap/\QV base s.heap H' outer ea c s'.heap/\E (.ref c) none H'
section
variable {P:Program}{w:World}{K:za}{mg:Str->Option Value}{base:Heap}{N:List Str}{qual:Str}{scope:Scope}{f:Addr}{cd:Value}{A:Around}{outer:List Env}{s:Shared}{H:Hp}{E:XK}
noncomputable abbrev OG (P:Program)(w:World)(K:za)(mg:Str->Option Value)(base:Heap)(N:List Str)(qual:Str)(scope:Scope)(f:Addr)(cd:Value)(A:Around)(outer:List Env)(s:Shared)(H:Hp)(E:XK):Cx:=
 ER (RL P w base) P w K mg base N qual scope f cd A outer s H E
theorem Qb {pins:List (Addr×Obj)}{σ:St}{H1:Hp}{s1:Shared}{h' B:Heap}{ea c:Addr}{a0:Value}{hid:List Addr}(J:Inv (OG P w K mg base N qual scope f cd A outer s H E) pins σ H1 s1)
 (hB:∀b o,s1.heap.get? b=some o->b∉EI (envOfC qual scope s.heap.objs.size f cd::outer)->b∉hid->(H1 b≠none\/∃o',s.heap.get? b=some o')->B.get? b=some o) (eR:base.StaysIn B)
 (hh:∀b∈hid,H1 b=none/\s.heap.get? b=none) (hT:∀b,B.get? b=none->b∉EI (envOfC qual scope s.heap.objs.size f cd::outer)->H1 b=none/\s.heap.get? b=none)
 (eS:s.heap.get? ea=none) (dm:H1 ea=none) (F:Heap.FlyingW B outer ea (.ref c) a0 h') (bc:s1.heap.UpToSlots h') (q:E (.ref c) none H1):
 RL P w base outer H s E (.ref ea) {s1 with heap:=h' }:=by
 have dn:∀b∈EI outer,∃o,s1.heap.get? b=some o/\∀vs,o.data≠.fields vs:=λ b hb=>(J.En.mem hb).2;have cg:∀b o,s.heap.get? b=some o->b≠s.heap.objs.size:=λ b o e=>zG (zl e);have PP:∀b,b∈EI (envOfC qual scope s.heap.objs.size f cd::outer)->b=s.heap.objs.size\/b∈EI outer:=λ b hb=>by
  have eT:b∈s.heap.objs.size::EI outer:=hb;exact zm.mp eT
 have U:Un (EI outer) [] H H1 s.heap s1.heap:=J.base;have aU:∀b o,s.heap.get? b=some o->b∉hid:=λ b o e hb=>by rw[(hh b hb).2] at e;cases e
 have ci:∀b o,H1 b≠none->s1.heap.get? b=some o->h'.get? b=some o:=λ b o hn e=>by
  refine F.1 b o (hB b o e (λ hb=>?_) (λ hb=>hn (hh b hb).1) (.inl hn));exact hn (J.Hn b hb)
 refine⟨ea,c,H1,rfl,J.os,J.bare,⟨λ b o e n hb hx=>?_,λ b o e n hb hx=>?_,U.free,λ b o e hx=>?_,U.Gf,U.Fb,U.Gg⟩,λ b ob e=>?_,⟨⟨a0,?_⟩,eS,dm,λ oe vs T h1 h2 h3=>?_⟩,q⟩
 ·refine F.1 b o (hB b o (U.keep b o e n hb hx) (λ z=>?_) (aU b o e) (.inr ⟨o,e⟩));rcases PP b z with z|z
  ·exact cg b o e z
  ·exact hb z
 ·obtain⟨sl,e1⟩:=U.slot b o e n hb hx;obtain⟨o2,e2,nf⟩:=dn b hb;rw[e1] at e2;obtain⟨c4,e3⟩:=bc b _ e1 (by cases e2;exact nf);exact⟨c4,e3⟩
 ·obtain⟨o',e1⟩:=U.there b o e hx;by_cases hb:b∈EI outer
  ·obtain⟨o2,e2,nf⟩:=dn b hb;obtain⟨c4,e3⟩:=bc b _ e2 nf;exact⟨_,e3⟩
  ·refine⟨o',F.1 b o' (hB b o' e1 (λ z=>?_) (aU b o e) (.inr ⟨o,e⟩))⟩;rcases PP b z with z|z
   ·exact cg b o e z
   ·exact hb z
 ·refine (J.Az b ob e).Ij (λ x v hx q=>ci x v ?_ q) (λ _ q=>q) λ _ _ q=>q;rcases hx with rfl|hx
  ·rw[e];intro z;cases z
  ·rw[hx];intro z;cases z
 ·exact PySem.W.flyingW_base eR F
 ·obtain⟨_,_,ff,fZ,ga,T',oT,ts,k1,k2,k3,k4,k5,k6,k7,k8,k9⟩:=F;rw[show ({s1 with heap:=h' }:Shared).heap.get? ea=h'.get? ea from rfl,k1] at h1;cases h1;rw[k3] at h2;cases h2;rw[k4] at h3;cases h3;refine hT T k5 λ hb=>?_;rcases PP T hb with z|z
  ·obtain⟨m,⟨oL,es,ep,cM,dq,_⟩,_⟩:=J.loc;obtain⟨sl,e3⟩:=bc s.heap.objs.size oL cM λ vs zz=>by rw[dq] at zz;cases zz
   rw[<-z,k7] at e3;cases e3;rw[show oL.data=_ from k8] at dq;cases dq
  ·obtain⟨o2,e2,nf⟩:=dn T z;obtain⟨sl,e3⟩:=bc T o2 e2 nf;rw[k7] at e3;cases e3;exact nf ts k8
theorem MF {l:List Env}:∀env∈l,∀a,env.frame=some a->a∈EI l:=λ env he a ha=>List.mem_filterMap.mpr ⟨env,he,ha⟩
theorem OH {pins:List (Addr×Obj)}{σ:St}{H1:Hp}{s2:Shared}{h1:Heap}{ea C:Addr}{vs:List Value}(J:Inv (OG P w K mg base N qual scope f cd A outer s H E) pins σ H1 s2)(hx:Heap.MadeExcOf s2.heap h1 ea (.ref C) vs)(q:E (.ref C) none H1):
 (OG P w K mg base N qual scope f cd A outer s H E).xe (.ref ea) {s2 with heap:=h1}:=by
 have J1:Inv (OG P w K mg base N qual scope f cd A outer s H E) pins σ H1 {s2 with heap:=h1}:=J.kept (t':=s2.toks) hx.keeps;have fr:=J.stack;have b4:=MF (l:=envOfC qual scope s.heap.objs.size f cd::outer);refine wpAny_leaves_madeW (base:=PySem.W.hideAll s2.heap (EI (envOfC qual scope s.heap.objs.size f cd::outer))) (outer:=outer) (L:=s.heap.objs.size) J.ok.frames rfl (λ b o e=>PySem.W.of_hideAll _ e) (PySem.W.funFrames_hide fr b4) hx λ h' t F ht gc bc=>?_;have aV:∀b,s2.heap.get? b=none->H1 b=none/\s.heap.get? b=none:=λ b e=>by
  refine⟨J.Az.gone e,?_⟩;cases q:s.heap.get? b with
  |none=>rfl
  |some o=>obtain⟨o',z⟩:=J.base.there b o q (by simp[ER]);rw[e] at z;cases z
 refine Qb (B:=PySem.W.hideAll s2.heap (EI (envOfC qual scope s.heap.objs.size f cd::outer))) (hid:=[]) J1 (λ b o e hb _ eU=>?_) (λ b o e=>?_) (λ b z=>by cases z) (λ b e hb=>?_) (aV ea hx.new).2 (aV ea hx.new).1 F bc q
 ·have eV:∃o2,s2.heap.get? b=some o2:=by
   rcases eU with z|⟨o',z⟩
   ·cases q2:H1 b with
    |none=>exact absurd q2 z
    |some u=>exact (J.Az b u q2).there
   ·exact J.base.there b o' z (by simp[ER])
  obtain⟨o2,e2⟩:=eV;have e3:=hx.keeps b o2 e2;rw[show ({s2 with heap:=h1}:Shared).heap.get? b=h1.get? b from rfl,e3] at e;cases e;exact zT _ e2 hb
 ·refine zT _ (J.bk b o e) λ hb=>?_;have z:base.get? b=none:=(fr.mem hb).1;rw[show base.get? b=some o from e] at z;cases z
 ·refine aV b ?_;cases q2:s2.heap.get? b with
  |none=>rfl
  |some o=>rw[zT _ q2 hb] at e;cases e
theorem OI:Hq (RL P w base) (OG P w K mg base N qual scope f cd A outer s H E) E:=by
 intro pins σ H0 s0 ev s1 I h;obtain⟨ea,c,H1,rfl,eW,eX,U,Az,⟨⟨a0,F⟩,cj,el,eY⟩,q⟩:=h;have J:Inv (OG P w K mg base N qual scope f cd A outer s H E) pins σ H1 s1:=I.PR (ch:=[]) eW U Az eX λ b hb=>by cases hb
 obtain⟨f1,f2,f3,oe,vs,T,oT,ts,k1,k2,k3,k4,k5,k6,k7,k8,k9⟩:=F;have hT:=eY oe vs T k1 k3 k4;have fr:=J.stack;have entry:∀b,s0.heap.get? b=none->s.heap.get? b=none:=λ b e=>by
  cases q:s.heap.get? b with
  |none=>rfl
  |some o=>obtain⟨o',z⟩:=I.base.there b o q (by simp[ER]);rw[e] at z;cases z
 have b4:∀env∈(envOfC qual scope s.heap.objs.size f cd::outer),∀a,env.frame=some a->a∈EI (envOfC qual scope s.heap.objs.size f cd::outer)++[ea,T]:=λ env he a ha=>zu _ (MF env he a ha);have FB:Heap.FlyingW (PySem.W.hideAll s1.heap (EI (envOfC qual scope s.heap.objs.size f cd::outer)++[ea,T])) (envOfC qual scope s.heap.objs.size f cd::outer) ea (.ref c) a0 s1.heap:=
  ⟨λ b o e=>PySem.W.of_hideAll _ e,PySem.W.hideAll_none _ (by simp),PySem.W.funFrames_hide fr b4,oe,vs,T,oT,ts,k1,k2,k3,k4,PySem.W.hideAll_none _ (by simp),k6,k7,k8,k9⟩
 refine wpAny_leaves_onW (outer:=outer) (L:=s.heap.objs.size) J.ok.frames rfl FB λ h' F' bc=>?_;have ck:∀b,s1.heap.get? b=none->H1 b=none/\s.heap.get? b=none:=λ b e=>by
  refine⟨J.Az.gone e,?_⟩;cases q:s.heap.get? b with
  |none=>rfl
  |some o=>obtain⟨o',z⟩:=J.base.there b o q (by simp[ER]);rw[e] at z;cases z
 have hid:∀b∈[ea,T],H1 b=none/\s.heap.get? b=none:=λ b hb=>by
  rcases zm.mp hb with z|z
  ·rw[z];exact⟨el,entry ea cj⟩
  ·rw[zv.mp z];exact⟨hT.1,entry T hT.2⟩
 refine Qb (hid:=[ea,T]) J (λ b o e hb cC _=>zT _ e λ z=>(zx.mp z).elim hb cC) (λ b o e=>?_) hid (λ b e hb=>?_) (entry ea cj) el F' bc q
 ·refine zT _ (J.bk b o e) λ hb=>?_;rcases zx.mp hb with hb|hb
  ·have z:base.get? b=none:=(fr.mem hb).1;rw[show base.get? b=some o from e] at z;cases z
  ·rcases zm.mp hb with z|z
   ·rw[z] at e;rw[show base.get? ea=some o from e] at f2;cases f2
   ·rw[zv.mp z] at e;rw[show base.get? T=some o from e] at k5;cases k5
 ·by_cases cC:b∈[ea,T]
  ·exact hid b cC
  ·refine ck b ?_;cases q2:s1.heap.get? b with
   |none=>rfl
   |some o=>rw[zT _ q2 λ z=>(zx.mp z).elim hb cC] at e;cases e
end
structure XCall (X:Cx)(E:XK):Prop where
 call:Hq (RL X.prog X.w X.base) X E
 own:PassesOwn (model X.prog X.w) X.A X.env X.xe
structure Ti (X:Cx)(E:XK):Prop extends XCall X E where
 made:∀pins σ H s h' ea C vs,Inv X pins σ H s->Heap.MadeExcOf s.heap h' ea (.ref C) vs->E (.ref C) none H->X.xe (.ref ea) {s with heap:=h' }
theorem Af {P:Program}{w:World}{K:za}{mg:Str->Option Value}{base:Heap}{N:List Str}{qual:Str}{scope:Scope}{f:Addr}{cd:Value}{A:Around}{outer:List Env}{s:Shared}{H:Hp}{E:XK}:
 Ti (OG P w K mg base N qual scope f cd A outer s H E) E:=⟨⟨OI,PassesOwn.leaving⟩,λ _ _ _ _ _ _ _ _ J hx q=>OH J hx q⟩
theorem CO {X:Cx}(h:X.xe=λ _ _=>False):Ti X E0:=⟨⟨λ _ _ _ _ _ _ _ h=>by obtain⟨_,_,_,_,_,_,_,_,_,q⟩:=h;exact q.elim,by rw[h];exact PassesOwn.never⟩,λ _ _ _ _ _ _ _ _ _ _ q=>q.elim⟩
def HB (K:za)(E:XK):Str->Hp->Prop:=λ x H=>∃c,zg K mainGlobals x=some (some (.ref c))/\E (.ref c) none H
section
variable {X:Cx}{E:XK}{WX:Str->Hp->Prop}{c:Bool}{e:Expr}{es:List Expr}{fs:A5->M (List D)}{f:A5->M D}{ft:A5->M Bool}{pos:Pos}
theorem OJ {K:za}{h₀:Heap}{C:Addr}{em:List Value}{newId:String}(X:K.In h₀)(q:PySem.W.excIn K C em newId=true):
 ∃bm N nm q bs hdct sn sub ab col dd k0 k1 k2 k3 k5 mN,h₀.get? C=some (excClassObj nm q C N bs bm hdct sn sub ab col dd k0 k1 k2 k3 k5 newId)/\h₀.Ns N mN/\mN "__init__" = none/\OwnTail h₀ em bm:=by
 unfold PySem.W.excIn at q;split at q
 ·rename_i dd cd sl ho;split at q
  ·rename_i C' bm k0 k1 k2 k3 n k5 hm hs;simp only[zK,beq_iff_eq,Bool.not_eq_true'] at q;obtain⟨⟨⟨⟨⟨rfl,rfl⟩,cm⟩,ht⟩,Az⟩,cD⟩:=q;obtain⟨nm,bs,mro,ns,qn,hd,sn,sub,ab,col,del⟩:=cd;dsimp only at hm cm Az cD;subst hm cm;have bc:sl=#[k0,k1,k2,k3,some (.builtin n),k5]:=by
    obtain⟨l⟩:=sl;simp only at hs;rw[hs]
   subst bc;exact⟨bm,ns,nm,qn,bs,hd,sn,sub,ab,col,dd,k0,k1,k2,k3,k5,_,X _ _ ho,.of_isNs (PySem.W.isNs_of_in X Az),PySem.W.nsMap_none_of_in X Az cD,PySem.W.tail_of_in X ht⟩
  ·cases q
 ·cases q
theorem MG {x:Str}{np ad:Pos}{C:Addr}{B newId b5:String}{bm:List Value}(xo:Ti X E)(hc:X.calm=true)(FB:ExcBaseFacts B newId b5 bm)(bV:zg X.K mainGlobals x=some (some (.ref C)))(hq:PySem.W.excIn X.K C bm newId=true)(hg:Gl X x)(hm:X.mg x=some (.ref C))
 (ha:DE X (HB X.K E) c e f) (aD:(x==("__debug__" : Str))=false:=by decide) (he:starEach [e] X.env=[(false,eval e X.env)]:=by rfl) (ag:(backTo ad (starEach [e] X.env)).any (·.1)=false:=by rfl):
 DS X (HB X.K E) (.Raise (some (.Call (.Name x np) [e] [] ad)) none pos) (λ ρ=>(f ρ).bind λ _=>.ex x):=by
 obtain⟨ta,a1,a2⟩:=ha;refine⟨λ Z σ H=>ta σ H λ y H1=>(([y]:List V).length=1/\E (.ref C) none H1),?_,λ P0 P σ H Z ρ E h=>?_⟩
 ·intro pins s σ H D I h;obtain⟨tl,N,nm,q,bs,hdct,sn,sub,ab,col,dd,k0,k1,k2,k3,k5,mN,hC,hN,cD,T⟩:=OJ I.mod.Tb hq;refine wpAny_Raise_call_subT (C:=C) (nm:=nm) (q:=q) (N:=N) (bs:=bs) (bm:=tl) (hdct:=hdct) (sn:=sn) (sub:=sub) (ab:=ab) (col:=col) (dd:=dd) (k0:=k0) (k1:=k1) (k2:=k2) (k3:=k3) (k5:=k5)
   FB (mN:=mN) (T.hasType FB.hasBase) (I.ok.hd hc) ag cD (K7 I hg hm ⟨rfl,?_⟩ aD)
  rw[he];have pa:=(Bl a1 Ce he) ad pins s σ H (λ vs H1=>vs.length=1/\E (.ref C) none H1) I ?_
  ·rw[he] at pa;refine Calls.evalArgs_plain (AZ pa λ vs s2 ⟨xs,H2,I2,r2,q2⟩=>⟨rfl,?_,I2.bk _ _ hC,hN.keeps I2.bk,T.keeps I2.bk,λ h' ea hx=>xo.made pins σ H2 s2 h' ea C _ I2 hx q2.2⟩);rw[<-r2.length,q2.1];exact ye (AU (by decide))
  ·exact h
 ·dsimp only at h;refine a2 P0 P σ H _ ρ E ?_;cases q:f ρ with
  |bad=>rw[q] at h;exact h
  |ex x=>rw[q] at h;exact λ H' s=>h H' P (E.tr s)
  |ok d =>
   rw[q] at h;intro v H1 s1 hv;obtain⟨c',h1,h2⟩:=h H1 P (E.tr s1);rw[bV] at h1;cases h1;exact⟨rfl,h2⟩
end
section
variable {X:Cx}{WX:Str->Hp->Prop}{c:Bool}{a b e:Expr}{f g:A5->M D}{pos p:Pos}
noncomputable def Qc (K:za):R2:=λ x y H Q=>∃l b xs zs,x=.ref l/\y=.ref b/\D5 K H l xs/\D5 K H b zs/\xs.length+zs.length<=sizeLine/\∀p,H p=none->Q (.ref p) (upd H p (.lst (xs++zs)))
theorem OK:Dw X (binaryOp .Add) (Qc X.K):=by
 intro pins s σ H x y v u Q I rx ry h;obtain⟨l,b,xs,zs,rfl,rfl,h1,h2,hz,q⟩:=h;cases rx;cases ry;obtain⟨aa,r,⟨⟨c1,d1,t1,eZ⟩,n,e1,q1,q2,q3⟩,ge⟩:=I.list h1;obtain⟨b7,r2,⟨⟨c2,d2,t2,fb⟩,n2,e2,q4,q5,q6⟩,gf⟩:=I.list h2;dsimp only at q1 q2 q3 q4 q5 q6;subst q1 q2 q3 q4 q5 q6;have l1:=r.length;have l2:=r2.length;refine concat_meets ⟨_,e1,rfl⟩ ⟨_,e2,rfl⟩ noFill_list_add seq_list_add PySem.F.slot_list_add PySem.F.entry_list_add (PySem.F.args_list_add_2 _ _) (list_addW l b aa.toArray b7.toArray n n2 none none eZ fb (by rw[zh,zh];omega)) ⟨e1,e2,?_⟩;rw[show aa.toArray++b7.toArray=(aa++b7).toArray by simp];exact⟨.ref _,_,I.U0 (t':=s.toks) (r.append r2) (by rw[zM];omega),rfl,q _ I.fresh⟩
theorem Aa.UR {K:za}{H:Hp}:∀ {xs ys:List V}{ds es:List D},Aa K H xs ds->Aa K H ys es->Aa K H (xs++ys) (ds++es)
 |_,_,_,_,.nil,h=>h
 |_,_,_,_,.cons a t,h=>.cons a (t.UR h)
noncomputable def US (neg:Bool)(x y:D):M D:=match x,y with
 | .int i,.lst ds=>(match IL ds with|some ns=>.ok (.bl (if neg then !ns.contains i else ns.contains i))|none=>.bad)
 |_,_=>.bad
end
structure ClsAt (K:za)(mg:Str->Option Value)(x:Str):Prop where
 ex:∃C,zg K mainGlobals x=some (some (.ref C))/\mg x=some (.ref C)/\PySem.W.excIn K C [.type "ValueError",.type "Exception",.type "BaseException",.type "object"] "ValueError.__new__" = true
section
variable {X:Cx}{E:XK}{WX:Str->Hp->Prop}{c:Bool}{e:Expr}{f:A5->M D}{pos p:Pos}
theorem De {x:Str}{np ad:Pos}(T:ClsAt X.K X.mg x)(xo:Ti X E)(hc:X.calm=true)(hg:Gl X x)(ha:DE X (HB X.K E) c e f)(aD:(x==("__debug__" : Str))=false:=by decide)(he:starEach [e] X.env=[(false,eval e X.env)]:=by rfl)(ag:(backTo ad (starEach [e] X.env)).any (·.1)=false:=by rfl):
 DS X (HB X.K E) (.Raise (some (.Call (.Name x np) [e] [] ad)) none pos) (λ ρ=>(f ρ).bind λ _=>.ex x):=by
 obtain⟨C,h1,h2,h3⟩:=T.ex;exact MG xo hc PySem.F.excBase_ValueError h1 h3 hg h2 ha aD he ag
end
def IM (i j:Int):Prop:=(i.natAbs<2^1000/\j.natAbs<2^1000)\/M4 i j
instance (i j:Int):Decidable (IM i j):=by unfold IM;infer_instance
theorem GU {i:Int}(h:i.natAbs<2^1000):z0 i<=2^20:=by
 unfold z0;split
 ·exact zW _
 ·rename_i z;have h0:i.natAbs≠0:=λ q=>z (by rw[Int.natAbs_eq_zero.mp q];rfl);have:=(Nat.log2_lt h0).mpr h;have h3:(1000:Nat)<=2^20:=by decide
  exact z9 this h3
theorem IM.ok {i j:Int}(h:IM i j):IntMulOk i j:=by
 rcases h with ⟨h1,h2⟩|h
 ·exact IntMulOk.of_bits (GU h1) (GU h2)
 ·exact h.ok
theorem E8 {gt:D->A5->M A5}{ft:A5->M Bool}{fe:A5->M D}{ρ:A5}(p:D->Bool)(f:D->D):∀(ds:List D),(∀d∈ds,∃ρ1,gt d ρ=.ok ρ1/\ft ρ1=.ok (p d)/\(p d=true->fe ρ1=.ok (f d)))->Bt gt ft fe ds ρ=.ok ((ds.filter p).map f)
 |[],_=>rfl
 |d::r,h=>by
  obtain⟨ρ1,h1,h2,h3⟩:=h d zd;have ih:=E8 p f r λ d hd=>h d (ze _ hd);rw[Bt,h1];dsimp only;rw[h2];dsimp only;by_cases hp:p d=true
  ·rw[if_pos hp,h3 hp];dsimp only;rw[ih,List.filter_cons_of_pos hp];rfl
  ·rw[if_neg hp,ih,List.filter_cons_of_neg hp]
theorem GV (ns:List Int):IL (ns.map D.int)=some ns:=by
 induction ns with
 |nil=>rfl
 |cons n r ih=>rw[zq,IL,ih];rfl
theorem MH (ds:List D)(n:Nat):Qa (some (n:Int)) none (.lst ds)=.ok (.lst (ds.drop n)):=by
 unfold Qa;dsimp only;rw[HT.Iw,HT.EY];congr 2;by_cases h:n<=ds.length
 ·rw[Nat.min_eq_left h,yg (by rw[List.length_drop];exact zp _)]
 ·rw[Nat.min_eq_right (by omega),List.drop_of_length_le (zp _),List.drop_of_length_le (by omega),List.take_nil]
def Pl (n:Nat)(d:D):Prop:=E5 d<=n/\Ag d=true
theorem HC {n:Nat}:∀ {ds:List D},(∀d∈ds,E5 d<=n)->ET ds<=n
 |[],_=>by rw[ET];exact zW _
 |d::r,h=>by
  rw[ET];exact Nat.max_le.mpr ⟨h d zd,HC λ d hd=>h d (ze _ hd)⟩
theorem HD:∀ {ds:List D},(∀d∈ds,Ag d=true)->Fo ds=true
 |[],_=>by rw[Fo]
 |d::r,h=>by
  rw[Fo,h d zd,HD λ d hd=>h d (ze _ hd)];rfl
theorem Ci {n:Nat}(i:Int):Pl n (.int i):=⟨by rw[E5];exact zW _;all_goals simp,by rw[Ag];all_goals simp⟩
theorem QW {n:Nat}:Pl n .Av:=⟨by rw[E5];exact zW _;all_goals simp,by rw[Ag];all_goals simp⟩
theorem MI {n:Nat}{ds:List D}(h:∀d∈ds,Pl n d):Pl (n+1) (.tup ds):=
 ⟨by rw[E5];exact Nat.succ_le_succ (HC λ d hd=>(h d hd).1),by rw[Ag];exact HD λ d hd=>(h d hd).2⟩
theorem QX {n:Nat}{ds:List D}(h:∀d∈ds,Pl n d):Pl (n+1) (.lst ds):=
 ⟨by rw[E5];exact Nat.succ_le_succ (HC λ d hd=>(h d hd).1),by rw[Ag];exact HD λ d hd=>(h d hd).2⟩
theorem Pl.le {n m:Nat}{d:D}(h:Pl n d)(k:n<=m):Pl m d:=⟨z9 h.1 k,h.2⟩
theorem MJ {n:Nat}:∀d∈([]:List D),Pl n d:=λ d h=>by cases h
theorem Df {n:Nat}{d:D}{ds:List D}(h:Pl n d)(t:∀d∈ds,Pl n d):∀e∈d::ds,Pl n e:=λ e he=>by
 rcases zm.mp he with rfl|he
 ·exact h
 ·exact t e he
theorem Jz {n:Nat}{x y:D}(h:Pl n x)(k:Pl n y):Oz n x y=.ok (.bl (Ad x y)):=by
 unfold Oz;rw[if_pos ⟨h.1,h.2,k.2⟩]
theorem JA {n:Nat}{x y:D}(h:Pl n x)(k:Pl n y):OA n x y=.ok (.bl (!Ad x y)):=by
 unfold OA;rw[if_pos ⟨h.1,h.2,k.2⟩]
theorem IP {n:Nat}{x:D}(h:Pl n x):Oz n x x=.ok (.bl true):=by rw[Jz h h,CJ]
theorem MK {n:Nat}{x:D}(h:Pl n x):OA n x x=.ok (.bl false):=by rw[JA h h,CJ];rfl
theorem GW {gt:D->A5->M A5}{ft:A5->M Bool}{fe:A5->M D}{ρ:A5}(f:D->D)(ds:List D)(h:∀d∈ds,∃ρ1,gt d ρ=.ok ρ1/\ft ρ1=.ok true/\fe ρ1=.ok (f d)):Bt gt ft fe ds ρ=.ok (ds.map f):=by
 rw[E8 (λ _=>true) f ds λ d hd=>by
  obtain⟨ρ1,h1,h2,h3⟩:=h d hd;exact⟨ρ1,h1,h2,λ _=>h3⟩]
 rw[List.filter_eq_self.mpr λ _ _=>rfl]
theorem OL (ds:List D)(a b:Nat):Qa (some (a:Int)) (some (b:Int)) (.lst ds)=.ok (.lst ((ds.drop a).take (b-a))):=by
 unfold Qa;dsimp only;rw[HT.EY,HT.EY];congr 2;by_cases h:a<=ds.length
 ·rw[Nat.min_eq_left h];by_cases h2:b<=ds.length
  ·rw[Nat.min_eq_left h2]
  ·rw[Nat.min_eq_right (by omega),yg (by rw[List.length_drop];exact zp _),yg (by rw[List.length_drop];omega)]
 ·rw[Nat.min_eq_right (show ds.length<=a by omega),List.drop_of_length_le (zp _),List.drop_of_length_le (show ds.length<=a by omega),List.take_nil,List.take_nil]
section
variable {X:Cx}{WX:Str->Hp->Prop}{c:Bool}{P0:Cc}{P:Addr->Prop}{H:Hp}{σ:St}{ρ:A5}{a b e:Expr}{f g:A5->M D}{ft gt:A5->M Bool}{pos:Pos}{st:Stmt}{rest:List Stmt}{g1 g2:A5->M Out}
noncomputable def UT (ds:List D):M D:=match ds with
 |[.int i]=>.ok (.int i)
 |[.bl b]=>.ok (.int (if b then 1 else 0))
 |_=>.bad
noncomputable def CP:List D->Option (List Bool)
 |[]=>some []
 | .bl b::r=>(CP r).map (b::·)
 |_=>none
theorem Fw (bs:List Bool):CP (bs.map D.bl)=some bs:=by
 induction bs with
 |nil=>rfl
 |cons b r ih=>rw[zq,CP,ih];rfl
theorem Fx:∀ {ds:List D}{bs:List Bool},CP ds=some bs->ds=bs.map D.bl
 |[],bs,h=>by cases h;rfl
 | .bl b::r,bs,h=>by
  rw[CP] at h;cases q:CP r with
  |none=>rw[q] at h;cases h
  |some gh=>rw[q] at h;cases h;rw[Fx q];rfl
 | .Av::r,bs,h| .int _::r,bs,h| .str _::r,bs,h| .tup _::r,bs,h| .lst _::r,bs,h| .BU _::r,bs,h| .Bc _ _ _::r,bs,h| .ins _ _ _::r,bs,h=>by cases h
theorem Fy {K:za}{H:Hp}:∀ {vs:List V}{bs:List Bool},Aa K H vs (bs.map D.bl)->vs=bs.map V.bl
 |_,[],.nil=>rfl
 |_,b::r,.cons h t=>by cases h;rw[Fy t];rfl
theorem Fz:∀ {bs:List Bool}{us:List Value},Vals (bs.map V.bl) us->LSm.BoolsAre us bs
 |[],_,.nil=>.nil
 |b::r,_,.cons h t=>by cases h;exact .cons b (Fz t)
theorem FA (hc:X.calm=true):CI X (.builtin "all") (λ xs H Q=>∃p bs,xs=[.ref p]/\D5 X.K H p (List.map V.bl bs)/\Q (.bl (bs.all id)) H):=by
 intro pins s σ H xs us Q I r h;obtain⟨p,bs,rfl,hq,q⟩:=h;obtain⟨u,rfl,rx⟩:=vals1 r;cases rx;obtain⟨aa,r',pl,hz⟩:=I.list hq;have hl:=pl.isList;have hb:=Fz r';have am:p<s.heap.objs.size:=by obtain⟨_,e,_⟩:=hl;exact zl e
 refine call_all_walk (wpAny_pyIter_list hl ?_);refine⟨s.heap.objs.size,[s.heap.objs.size,p],[s.heap.objs.size],aa.toArray.size,_,_,λ i=>(bs[i]?).getD true,rfl,Walks.list (A:=X.A.in1) (I.ok.hd hc) _ p (zG am) aa.toArray,
  ⟨⟨_,zF _ rfl,rfl,rfl⟩,hl.push _⟩,λ i v s' Q' E' hP hQ=>?_,λ h' tk hk=>?_⟩
 ·obtain⟨b,e,rfl⟩:=hb.get i v (by simpa using hP);simp only[e,Option.getD_some] at hQ;exact wpAny_truthy_bool hQ
 ·have e:((List.range aa.toArray.size).all λ i=>(bs[i]?).getD true)=bs.all id:=by
   rw[zh,hb.length];exact LSm.range_all bs
  rw[e];exact⟨.bl _,H,I.kept (t':=tk) (LSm.kept_iter hk),rfl,q⟩
noncomputable def L9 (ds:List D):M D:=match ds with
 |[.lst xs]=>(match CP xs with|some bs=>.ok (.bl (bs.all id))|none=>.bad)
 |_=>.bad
theorem QY:EK X.K WX (λ xs H Q=>∃p bs,xs=[.ref p]/\D5 X.K H p (List.map V.bl bs)/\Q (.bl (bs.all id)) H) L9:=by
 intro P H ds vs Q ht hl h;unfold L9 at h;split at h
 ·rename_i xs;obtain⟨v,rfl,hv⟩:=hl.one;split at h
  ·rename_i bs eb;have:=Fx eb;subst this;cases hv with
   |lst hs hh =>
    have:=Fy hh;subst this;exact⟨_,bs,rfl,hs.Bs,h _ H (A7.refl H) (.bl _)⟩
  ·exact h.elim
 ·exact h.elim
theorem JB {p:Pos}(hc:X.calm=true)(hg:Gl X "all")(hm:X.mg "all" = none)(ha:DE X WX c e f)(hb:bootBuiltins "all" = some (.builtin "all"):=by decide +kernel)(hs:starEach [e] X.env=[(false,eval e X.env)]:=by rfl):DE X WX c (.Call (.Name "all" p) [e] [] pos) (λ ρ=>((f ρ).bind λ d=>(M.ok []).bind λ ds=>.ok (d::ds)).bind L9):=
 Fv (FA hc) QY hg hm hb (A2 ha Ab hs) (he:=hs)
end
def Sm (n:Int):Prop:=z0 n<=2^20
theorem ML:∀ {ns:List Int},W.WData.weightAll (ns.map W.WData.int)<=2^20->∀n∈ns,Sm n
 |m::r,h,n,hn=>by
  rw[zq,W.WData.weightAll,W.WData.weight] at h;rcases zm.mp hn with rfl|hn
  ·unfold Sm z0;omega
  ·exact ML (by omega) n hn
theorem So {ns:List Int}(h:W.WData.layableAll [W.WData.list (ns.map W.WData.int)]=true):∀n∈ns,Sm n:=by
 unfold W.WData.layableAll at h;rw[List.all_cons,zK] at h;have h1:=h.1;unfold W.WData.layable at h1;rw[zK,decide_eq_true_eq,W.WData.weight] at h1;exact ML h1.2
end L2
namespace HT
open PySem PySem.W PyProof.Rows Spec Calls eg
theorem GX {l:OpenLaw}{n:Nat}{q:Program}{loose:List Str}{XP:(Str->Option Value)->Heap->Prop}{YP:World->Heap->Prop}{d:DefRec}
 (hn:l.most=some n) (b8:d.params.defaults=[])
 (run:∀(w:World) (s₀ s₁:Shared) (mg mb:Str->Option Value) (fa:Addr) (o:Obj) (pm cd doc:Value) (a:Addr) (vs:List Value) (ns:List Int),(∀n∈ns,L2.Sm n)->
  Ground q loose [] XP w s₀ mg mb s₁.heap->YP w s₁.heap->s₁.heap.get? fa=some o->o.data=.func (docDef d.name d.params d.body d.scope pm cd doc)->s₁.heap.CodeRec cd d.name->mg d.name=some (.ref fa)->
  s₁.heap.get? a=some {cls:=.type "list",data:=.seq vs.toArray}->IntsAre vs ns->ns.length<=n->s₁.gens=#[]->
  codeAny (model l.prog w) callerA (.call (.ref fa) ⟨[.ref a],[]⟩) (λ r s'=>r=.ok (.ret (.bool true))/\OldK s₁.heap s'.heap/\s'.os=s₁.os/\AllBare s'.gens) s₁):
 WalkO q loose XP YP l.row.toRowW d [] (λ f vs=>PySem.call f vs):=by
 intro w s₀ s₁ mg mb G Y fa o pm cd doc dV kV ho hd aG hD b9 hg args vals as be dr gi cT gj;obtain rfl:dV=.none:=Dflts.none hD b8;obtain rfl:kV=.none:=Dflts.noKw hD;obtain⟨a,vs,ns,rfl,rfl,aW,az,hlen⟩:=L0 hn be cT;refine enter_call (codeAny_mono (run w s₀ s₁ mg mb fa o pm cd doc a vs ns (L2.So dr) G Y ho (fd_plain hd) aG b9 aW az hlen hg) λ r s' hq=>?_);obtain⟨rfl,h2,h3,h4⟩:=hq;exact⟨.inl ⟨.bool true,.bool true,[],rfl,λ _=>rfl,.bool true,L1 l _,λ _=>⟨List.Pairwise.nil,λ _ hm=>(nomatch hm)⟩⟩,h2,h3,h4⟩
end HT
namespace L2
open PySem PySem.Spec PyProof.Rows
theorem Tj {l:PySem.W.OpenLaw}{n k:Nat}{q:Program}{loose:List Str}{XP:(Str->Option Value)->Heap->Prop}{YP:World->Heap->Prop}{d:DefRec}{K:Params->za}{CX:World->LM}{sp:World->Sp}{x:Str}
 (hn:l.most=some n) (aE:n<=sizeLine) (b8:d.params.defaults=[]) (hr:BB k callerA) (hY:∀(w:World) (h:Heap),YP w h->(K w.params).In h)
 (F:∀(w:World) (mg:Str->Option Value) (fa:Addr) (h:Heap),(K w.params).In h->h.Ns mainGlobals mg->mg d.name=some (.ref fa)->∃fd:FuncData,(∀(s:Shared) (u:Value),BindsTo s fd ⟨[u],[]⟩ [(x,u)])/\
  ∀base:Heap,(K w.params).In base->base.Ns mainGlobals mg->DU l.prog w (K w.params) mg base (CX w) k fa fd [x] (sp w))
 (bb:∀(w:World) (H:Hp) (a:Addr) (ns:List Int),(∀n∈ns,Sm n)->ns.length<=n->Ol H->D5 (K w.params) H a (ns.map V.int)->sp w [.ref a] H (λ v _=>v=.bl true) λ _ _ _=>False)
 (bX:∀(w:World) (H:Hp) (s:Shared) (e:Value) (s':Shared),CX w [] H s (λ _ _ _=>False) e s'->False):PySem.W.WalkO q loose XP YP l.row.toRowW d [] (λ f vs=>PySem.call f vs):=by
 refine HT.GX hn b8 λ w s₀ s₁ mg mb fa o pm cd doc a vs ns bq G Y ho hd aG b9 aW az hlen hg=>?_;have KX:=hY w _ Y;obtain⟨fd,hb,hF⟩:=F w mg fa _ KX G.T.g b9;exact Iz KX G.T.g G.T.b G.T.builtins G.T.nolimit hg aW az (z9 hlen aE) hr hF hb (λ H hO hS=>bb w H a ns bq hlen hO hS) λ H e s'=>bX w H s₁ e s'
theorem OM {F:List D->M D}(h:∀ns:List Int,ns.length<=63->(∀n∈ns,Sm n)->F [.lst (ns.map D.int)]=.ok (.bl true))(K:za)(H:Hp)(a:Addr)(ns:List Int)(bq:∀n∈ns,Sm n)(hl:ns.length<=63)(hS:D5 K H a (ns.map V.int)):Jy K 1 F [.ref a] H (λ v _=>v=.bl true) λ _ _ _=>False:=by
 refine⟨rfl,λ _=>False,[.lst (ns.map D.int)],λ _ z=>z.elim,.cons (.lst ?_ (Aa.ints ns)) .nil,?_⟩
 ·have e:del H (λ _=>False)=H:=by funext b;exact Ar (λ z=>z)
  rw[e];exact hS
 ·rw[h ns hl bq];exact λ v H' s hv=>hv.Fs
def GY (i j:Int):Prop:=(z0 i<=2^20+1/\z0 j<=2^10)\/IM i j
theorem La {a b:Int}(h:z0 a+z0 b<=2^21):IntMulOk a b:=by
 have e:(2:Nat)^21=2097152:=by decide
 have h2:Builtin.Int.intTooBig (z0 a+z0 b)=false:=by
  unfold Builtin.Int.intTooBig bitsLine;exact decide_eq_false (by omega)
 unfold IntMulOk;rw[h2];simp
theorem GY.ok {i j:Int}(h:GY i j):IntMulOk i j:=by
 rcases h with ⟨h1,h2⟩|h
 ·exact La (by omega)
 ·exact h.ok
theorem ON {X:Cx}:Dw X (binaryOp .Mult) (rI GY λ i j=>.int (i*j)):=Td λ _ _ _ _ _ _ _ hc q=>mul_int q hc.ok
noncomputable instance (i j:Int):Decidable (GY i j):=Classical.propDecidable _
noncomputable def GZ:=Au λ i j=>if GY i j then .ok (.int (i*j)) else .bad
theorem MM {i j:Int}(h:GY i j):GZ (.int i) (.int j)=.ok (.int (i*j)):=by
 unfold GZ Au;dsimp only;rw[if_pos h]
theorem Kj {X:Cx}{WX:Str->Hp->Prop}{c:Bool}{a b:Expr}{f g:A5->M D}{pos:Pos}(ha:DE X WX c a f)(hb:DE X WX c b g):DE X WX c (.BinOp a .Mult b pos) (λ ρ=>(f ρ).bind λ x=>(g ρ).bind λ y=>GZ x y):=Fq ON (Hz λ _ _ _ _=>.int _) ha hb
theorem bits_le {n:Int}{k:Nat}(h:n.natAbs<2^k):z0 n<=k:=by
 unfold z0;split
 ·exact zW _
 ·rename_i hn;have hp:n.natAbs≠0:=by simpa using hn
  exact (Nat.log2_lt hp).mpr h
mutual
noncomputable def Sq:D->Bool
 | .tup a=>QZ a
 | .lst _| .BU _| .Bc _ _ _| .ins _ _ _=>false
 |_=>true
noncomputable def QZ:List D->Bool
 |[]=>true
 |a::r=>Sq a&&QZ r
end
noncomputable def dp (m:M D):M D:=m.bind λ d=>if Sq d=true then .ok d else .bad
section
variable {X:Cx}{WX:Str->Hp->Prop}{c:Bool}{P0:Cc}{P:Addr->Prop}{H:Hp}{σ:St}{ρ:A5}{a b e:Expr}{f g g2:A5->M D}{pos:Pos}
theorem MN {m:Nat}{k:Int}{n:Nat}(h:Mf m k=some n):n<m:=by
 unfold Mf at h;split at h
 ·split at h
  ·cases h;omega
  ·cases h
 ·split at h
  ·cases h;omega
  ·cases h
end
theorem R3 {P P2:Addr->Prop}{H H':Hp}(t:Tr P P H P2 H'){a:Addr}(h:P2 a)(hn:¬ P a):H a=none:=by
 cases q:H a with
 |none=>rfl
 |some o =>
  have:=t.1 a o (by rw[Ar hn];exact q);exact ((Aj this).1 h).elim
section
variable {X:Cx}{WX:Str->Hp->Prop}{c:Bool}{P0:Cc}{P:Addr->Prop}{H:Hp}{σ:St}{ρ:A5}{a b e:Expr}{f g:A5->M D}{pos:Pos}
noncomputable def OO (i:Nat)(ρ:A5)(mk md:M D):M Out:=match ρ[i]? with
 |some (some (.own ds))=>mk.bind λ k=>md.bind λ d=>match k with
  | .int j=>if 0<=j/\j.toNat<=ds.length/\ds.length<1000 then .ok (.next (ρ.set i (some (.own (ds.take j.toNat++d::ds.drop j.toNat))))) else .bad
  |_=>.bad
 |_=>.bad
noncomputable def Kk (ds:List D):M D:=match ds with
 |[.int i]=>if i.natAbs.log2<1920 then .ok (.str (toString i)) else .bad
 |_=>.bad
theorem OP:EK X.K WX (λ xs H Q=>∃i,xs=[.int i]/\i.natAbs.log2<1920/\Q (.str (toString i)) H) Kk:=by
 intro P H ds vs Q ht hl h;unfold Kk at h;split at h
 ·rename_i i;obtain⟨v,rfl,hv⟩:=hl.one;cases hv;by_cases hi:i.natAbs.log2<1920
  ·rw[if_pos hi] at h;exact⟨_,rfl,hi,h _ H (A7.refl H) (.str _)⟩
  ·rw[if_neg hi] at h;exact h.elim
 ·exact h.elim
theorem Bw {p:Pos}(hg:Gl X "str")(hm:X.mg "str" = none)(ha:DE X WX c e f)(hb:bootBuiltins "str" = some (.type "str"):=by decide +kernel)(hs:starEach [e] X.env=[(false,eval e X.env)]:=by rfl):DE X WX c (.Call (.Name "str" p) [e] [] pos) (λ ρ=>((f ρ).bind λ d=>(M.ok []).bind λ ds=>.ok (d::ds)).bind Kk):=
 GO Ho OP hg hm hb (A2 ha Ab hs) (he:=hs)
noncomputable def Sr (ds:List D):M D:=match ds with
 |[.lst xs]=>(match CP xs with|some bs=>.ok (.bl (bs.any id))|none=>.bad)
 |_=>.bad
end
noncomputable def kids:OT->List OT
 | .sh _=>[]
 | .lst ts| .tup ts| .Bc _ _ ts| .ins _ _ ts=>ts
noncomputable def E9:OT->List OT->OT
 | .sh d,_=>.sh d
 | .lst _,ts=>.lst ts
 | .tup _,ts=>.tup ts
 | .Bc b ks _,ts=>.Bc b ks ts
 | .ins x ns _,ts=>.ins x ns ts
noncomputable def Ea:OT->List Nat->Option OT
 |t,[]=>some t
 |t,j::π=>match (kids t)[j]? with|some s=>Ea s π|none=>none
noncomputable def DC:OT->List Nat->OT->OT
 |_,[],u=>u
 |t,j::π,u=>match (kids t)[j]? with|some s=>E9 t ((kids t).set j (DC s π u))|none=>t
@[simp] theorem MO (t:OT):Ea t []=some t:=by unfold Ea;rfl
@[simp] theorem IQ (t u:OT):DC t [] u=u:=by unfold DC;rfl
theorem Lb {t s:OT}{j:Nat}{π:List Nat}(h:(kids t)[j]?=some s):Ea t (j::π)=Ea s π:=by rw[Ea,h]
theorem Lc {t s u:OT}{j:Nat}{π:List Nat}(h:(kids t)[j]?=some s):DC t (j::π) u=E9 t ((kids t).set j (DC s π u)):=by rw[DC,h]
section
variable {K:za}{H H':Hp}{P P':Addr->Prop}
def B0 (K:za)(H:Hp)(P:Addr->Prop)(v:V)(t:OT)(q:List Addr)(xs:List V):Prop:=match t with
 | .sh _=>False
 | .lst ts=>∃p,v=.ref p/\q=[p]/\H p=some (.lst xs)
 | .tup ts=>∃p,v=.ref p/\q=[]/\del H P p=some (.tup xs)
 | .Bc false ks ts=>∃p kvs,v=.ref p/\q=[p]/\H p=some (.dK kvs)/\ks=(kvs.map λ kv=>Fn kv.1)/\xs=kvs.map Prod.snd
 | .Bc true ks ts=>∃p kvs,v=.ref p/\q=[p]/\H p=some (.dT kvs)/\ks=(kvs.map λ kv=>.tup (kv.1.map Fn))/\xs=kvs.map Prod.snd
 | .ins x ns ts=>∃p C dx fs,v=.ref p/\q=[p]/\zg K mainGlobals x=some (some (.ref C))/\H p=some (.ins C dx fs)/\ns=fs.map Prod.fst/\xs=fs.map Prod.snd
theorem B0.own {v:V}{t:OT}{q:List Addr}{xs:List V}{fp:List Addr}(h:B0 K H P v t q xs)(r:Ai K H P xs (kids t) fp):Bn K H P v t (q++fp):=by
 cases t with
 |sh d=>exact h.elim
 |lst ts=>obtain⟨p,rfl,rfl,h⟩:=h;exact .lst h r
 |tup ts=>obtain⟨p,rfl,rfl,h⟩:=h;exact .tup h r
 |Bc b ks ts =>
  cases b with
  |false=>obtain⟨p,kvs,rfl,rfl,h,rfl,rfl⟩:=h;exact .dK h r
  |true=>obtain⟨p,kvs,rfl,rfl,h,rfl,rfl⟩:=h;exact .dT h r
 |ins x ns ts=>obtain⟨p,C,dx,fs,rfl,rfl,n,h,rfl,rfl⟩:=h;exact .ins n h r
theorem Bn.node {v:V}{t:OT}{fp:List Addr}(h:Bn K H P v t fp)(hk:kids t≠[]\/∀d,t≠.sh d):∃q xs fq,fp=q++fq/\B0 K H P v t q xs/\Ai K H P xs (kids t) fq:=by
 cases h with
 |sh h=>rcases hk with hk|hk;exact (hk rfl).elim;exact (hk _ rfl).elim
 |lst h r=>exact⟨[_],_,_,rfl,⟨_,rfl,rfl,h⟩,r⟩
 |tup h r=>exact⟨[],_,_,rfl,⟨_,rfl,rfl,h⟩,r⟩
 |dK h r|dT h r=>exact⟨[_],_,_,rfl,⟨_,_,rfl,rfl,h,rfl,rfl⟩,r⟩
 |ins n h r=>exact⟨[_],_,_,rfl,⟨_,_,_,_,rfl,rfl,n,h,rfl,rfl⟩,r⟩
theorem B0.move (sm:A7 (del H P) (del H' P')){v:V}{t:OT}{q:List Addr}{xs:List V}(k:∀a∈q,H' a=H a)(h:B0 K H P v t q xs):B0 K H' P' v t q xs:=by
 cases t with
 |sh d=>exact h.elim
 |lst ts=>obtain⟨p,rfl,rfl,h⟩:=h;exact⟨p,rfl,rfl,(k p zd).trans h⟩
 |tup ts=>obtain⟨p,rfl,rfl,h⟩:=h;exact⟨p,rfl,rfl,sm _ _ h⟩
 |Bc b ks ts =>
  cases b with
  |false|true=>obtain⟨p,kvs,rfl,rfl,h,rfl,rfl⟩:=h;exact⟨p,kvs,rfl,rfl,(k p zd).trans h,rfl,rfl⟩
 |ins x ns ts=>obtain⟨p,C,dx,fs,rfl,rfl,n,h,rfl,rfl⟩:=h;exact⟨p,C,dx,fs,rfl,rfl,n,(k p zd).trans h,rfl,rfl⟩
theorem B0.kids {v:V}{t:OT}{q:List Addr}{xs:List V}(h:B0 K H P v t q xs)(ts:List OT):B0 K H P v (E9 t ts) q xs:=by
 cases t with
 |sh d=>exact h.elim
 |lst us|tup us=>exact h
 |Bc b ks us=>cases b<;>exact h
 |ins x ns us=>exact h
theorem HE {v:V}{t:OT}{q:List Addr}{xs:List V}(h:B0 K H P v t q xs)(ts:List OT):L2.kids (E9 t ts)=ts:=by
 cases t with
 |sh d=>exact h.elim
 |lst us|tup us|Bc b ks us|ins x ns us=>rfl
theorem B0.inj {v:V}{t:OT}{q q':List Addr}{xs b3:List V}(h:B0 K H P v t q xs)(h':B0 K H P v t q' b3):q=q'/\xs=b3:=by
 cases t with
 |sh d=>exact h.elim
 |lst ts|tup ts=>obtain⟨p,rfl,rfl,h⟩:=h;obtain⟨p',e,rfl,h'⟩:=h';cases e;rw[h] at h';cases h';exact⟨rfl,rfl⟩
 |Bc b ks ts =>
  cases b with
  |false|true=>obtain⟨p,kvs,rfl,rfl,h,_,rfl⟩:=h;obtain⟨p',du,e,rfl,h',_,rfl⟩:=h';cases e;rw[h] at h';cases h';exact⟨rfl,rfl⟩
 |ins x ns ts=>obtain⟨p,C,dx,fs,rfl,rfl,n,h,_,rfl⟩:=h;obtain⟨p',C',gl,aY,e,rfl,n',h',_,rfl⟩:=h';cases e;rw[h] at h';cases h';exact⟨rfl,rfl⟩
inductive CQ (K:za) (H:Hp) (P:Addr->Prop):V->OT->List Nat->V->OT->Prop
 |nil {v t}:CQ K H P v t [] v t
 |cons {v t q xs j x s π v1 t1}:B0 K H P v t q xs->xs[j]?=some x->(kids t)[j]?=some s->CQ K H P x s π v1 t1->CQ K H P v t (j::π) v1 t1
theorem CQ.sub {v v1:V}{t t1:OT}{π:List Nat}(h:CQ K H P v t π v1 t1):Ea t π=some t1:=by
 induction h with
 |nil=>exact MO _
 |cons _ _ hs _ ih=>rw[Lb hs];exact ih
theorem CQ.snoc {v v1 x:V}{t t1 s:OT}{π:List Nat}{q:List Addr}{xs:List V}{j:Nat}(h:CQ K H P v t π v1 t1)(n:B0 K H P v1 t1 q xs)(hx:xs[j]?=some x)(hs:(kids t1)[j]?=some s):CQ K H P v t (π++[j]) x s:=by
 induction h with
 |nil=>exact .cons n hx hs .nil
 |cons n' fc fg _ ih=>exact .cons n' fc fg (ih n hs)
theorem Ai.get:∀ {xs:List V}{ts:List OT}{fp:List Addr}{j:Nat}{x:V}{s:OT},Ai K H P xs ts fp->xs[j]?=some x->ts[j]?=some s->∃pre fs post,fp=pre++fs++post/\Bn K H P x s fs
 |_,_,_,_,_,_,.nil,e,_=>by simp at e
 |_,_,_,0,_,_,.cons h r,e,e'=>by
  simp at e e';subst e;subst e';exact⟨[],_,_,rfl,h⟩
 |_,_,_,j+1,_,_,.cons (fp:=f1) h r,e,e'=>by
  obtain⟨pre,fs,post,z,q⟩:=Ai.get r (by simpa using e) (by simpa using e');exact⟨f1++pre,fs,post,by rw[z];simp,q⟩
theorem Ai.len:∀ {xs:List V}{ts:List OT}{fp:List Addr},Ai K H P xs ts fp->xs.length=ts.length
 |_,_,_,.nil=>rfl
 |_,_,_,.cons _ r=>by rw[zt,zt,r.len]
theorem Ai.UU:∀ {xs:List V}{ts:List OT}{fp:List Addr}{j:Nat}{s:OT},Ai K H P xs ts fp->ts[j]?=some s->∃x,xs[j]?=some x:=fun {xs ts fp j s} h e=>by
 have hl:j<xs.length:=by rw[h.len];exact (zw.mp e).1
 exact⟨_,zk hl⟩
theorem Bn.part {v v1:V}{t t1:OT}{π:List Nat}{fp:List Addr}(h:Bn K H P v t fp)(s:CQ K H P v t π v1 t1):∃aq,Bn K H P v1 t1 aq/\(∀a∈aq,a∈fp)/\(fp.Nodup->aq.Nodup):=by
 induction s generalizing fp with
 |nil=>exact⟨fp,h,λ _ h=>h,λ h=>h⟩
 |cons n hx hs _ ih =>
  obtain⟨q,xs,fq,rfl,n',r⟩:=h.node (.inl λ z=>by rw[z] at hs;cases hs);obtain⟨rfl,rfl⟩:=n.inj n';obtain⟨pre,fs,post,rfl,o⟩:=r.get hx hs;obtain⟨aq,o1,k,kn⟩:=ih o;exact⟨aq,o1,λ a ha=>zf _ (zu _ (zf _ (k a ha))),λ nd=>kn (zA.mp (zA.mp (zA.mp nd).2.1).1).2.1⟩
theorem Ai.put (sm:A7 (del H P) (del H' P')):∀ {xs:List V}{ts:List OT}{fp:List Addr}{j:Nat}{x:V}{s s':OT}{fs aY:List Addr},Ai K H P xs ts fp->xs[j]?=some x->ts[j]?=some s->Bn K H P x s fs->Bn K H' P' x s' aY->(∀a∈fp,a∉fs->H' a=H a)->fp.Nodup->aY.Nodup->(∀a∈aY,a∈fp->a∈fs)->
 ∃ah,Ai K H' P' xs (ts.set j s') ah/\ah.Nodup/\∀a∈ah,a∈aY\/(a∈fp/\a∉fs)
 |_,_,_,_,_,_,_,_,_,.nil,e,_,_,_,_,_,_,_=>by simp at e
 |_,_,_,0,x,s,s',fs,aY,.cons (fp:=f1) (fq:=f2) h r,e,e',o,o',k,nd,cn,dj=>by
  simp at e e';subst e;subst e';have:=h.BQ o;subst this;have aM:=zA.mp nd;have k2:∀a∈f2,a∉f1:=λ a ha hb=>aM.2.2 a hb a ha rfl;refine⟨aY++f2,.cons o' (r.move sm λ a ha=>k a (zf _ ha) (k2 a ha)),zA.mpr ⟨cn,aM.2.1,λ a ha b hb z=>?_⟩,λ a ha=>?_⟩
  ·subst z;exact k2 a hb (dj a ha (zf _ hb))
  ·rcases zx.mp ha with ha|ha
   ·exact .inl ha
   ·exact .inr ⟨zf _ ha,k2 a ha⟩
 |_,_,_,j+1,x,s,s',fs,aY,.cons (vs:=fj) (ts:=fm) (fp:=f1) (fq:=f2) h r,e,e',o,o',k,nd,cn,dj=>by
  have aM:=zA.mp nd;have e2:fj[j]?=some x:=by simpa using e
  have e3:fm[j]?=some s:=by simpa using e'
  obtain⟨pre,fx,post,hf,ox⟩:=r.get e2 e3;have:=ox.BQ o;subst this;have k1:∀a∈f1,a∉fx:=λ a ha hb=>aM.2.2 a ha a (by rw[hf];exact zu _ (zf _ hb)) rfl;obtain⟨ah,q1,q2,q3⟩:=Ai.put sm r e2 e3 o o' (λ a ha hn=>k a (zf _ ha) hn) aM.2.1 cn (λ a ha hb=>dj a ha (zf _ hb));refine⟨f1++ah,.cons (h.move sm λ a ha=>k a (zu _ ha) (k1 a ha)) q1,zA.mpr ⟨aM.1,q2,λ a ha b hb z=>?_⟩,λ a ha=>?_⟩
  ·subst z;rcases q3 a hb with z|z
   ·exact k1 a ha (dj a z (zu _ ha))
   ·exact aM.2.2 a ha a z.1 rfl
  ·rcases zx.mp ha with ha|ha
   ·exact .inr ⟨zu _ ha,k1 a ha⟩
   ·rcases q3 a ha with z|z
    ·exact .inl z
    ·exact .inr ⟨zf _ z.1,z.2⟩
theorem Bn.put (sm:A7 (del H P) (del H' P')){v v1:V}{t t1 u:OT}{π:List Nat}{fp aq fu:List Addr}(h:Bn K H P v t fp)(s:CQ K H P v t π v1 t1)(o:Bn K H P v1 t1 aq)(o':Bn K H' P' v1 u fu)(k:∀a∈fp,a∉aq->H' a=H a)(nd:fp.Nodup)(cn:fu.Nodup)(dj:∀a∈fu,a∈fp->a∈aq):
 ∃ah,Bn K H' P' v (DC t π u) ah/\ah.Nodup/\∀a∈ah,a∈fu\/(a∈fp/\a∉aq):=by
 induction s generalizing fp with
 |nil =>
  rw[IQ];exact⟨fu,o',cn,λ a ha=>.inl ha⟩
 | @cons v t q xs j x s π v1 t1 n hx hs s1 ih =>
  obtain⟨q',b3,fq,rfl,n',r⟩:=h.node (.inl λ z=>by rw[z] at hs;cases hs);obtain⟨rfl,rfl⟩:=n.inj n';have cp:=zA.mp nd;obtain⟨pre,fs,post,hf,ox⟩:=r.get hx hs;have sub:∀a∈fs,a∈fq:=λ a ha=>by rw[hf];exact zu _ (zf _ ha)
  have fo:fs.Nodup:=by
   have:=cp.2.1;rw[hf] at this;exact (zA.mp (zA.mp this).1).2.1
  obtain⟨fz,oz,kz,_⟩:=ox.part s1;have:=oz.BQ o;subst this;obtain⟨aY,q1,q2,q3⟩:=ih ox o o' (λ a ha hn=>k a (zf _ (sub a ha)) hn) fo (λ a ha hb=>dj a ha (zf _ (sub a hb)));have qf:∀a∈q,a∉fs:=λ a ha hb=>cp.2.2 a ha a (sub a hb) rfl;have kq:∀a∈q,H' a=H a:=λ a ha=>k a (zu _ ha) λ z=>qf a ha (kz a z);obtain⟨ah,p1,p2,p3⟩:=r.put sm hx hs ox q1 (λ a ha hn=>k a (zf _ ha) λ z=>hn (kz a z)) cp.2.1 q2 (λ a ha hb=>by
   rcases q3 a ha with z|z
   ·exact kz a (dj a z (zf _ hb))
   ·exact z.1)
  rw[Lc hs];have n2:=(n.move sm kq).kids ((kids t).set j (DC s π u));have o2:=n2.own (fp:=ah) (by rw[HE n];exact p1);refine⟨q++ah,o2,zA.mpr ⟨cp.1,p2,λ a ha b hb z=>?_⟩,λ a ha=>?_⟩
  ·subst z;rcases p3 a hb with z|z
   ·rcases q3 a z with y|y
    ·exact qf a ha (kz a (dj a y (zu _ ha)))
    ·exact qf a ha y.1
   ·exact cp.2.2 a ha a z.1 rfl
  ·rcases zx.mp ha with ha|ha
   ·exact .inr ⟨zu _ ha,λ z=>qf a ha (kz a z)⟩
   ·rcases p3 a ha with z|z
    ·rcases q3 a z with y|y
     ·exact .inl y
     ·exact .inr ⟨zf _ (sub a y.1),y.2⟩
    ·exact .inr ⟨zf _ z.1,λ y=>z.2 (kz a y)⟩
end
def PU (P:Addr->Prop)(fp:List Addr):Addr->Prop:=λ a=>P a\/a∈fp
theorem HF {P:Addr->Prop}{fp:List Addr}:∀a,P a->PU P fp a:=λ a h=>.inl h
theorem Dg {P:Addr->Prop}{fp:List Addr}{H H':Hp}(s:A7 H H')(hn:∀a∈fp,H a=none):A7 (del H P) (del H' (PU P fp)):=λ b o e=>by
 obtain⟨h1,h2⟩:=Aj e;rw[Ar λ z=>z.elim h1 λ w=>by rw[hn b w] at h2;cases h2];exact s b o h2
theorem JC {P:Addr->Prop}{H:Hp}:del H (PU P [])=del H P:=by
 funext b;by_cases h:P b
 ·rw[Dz h,Dz (.inl h)]
 ·rw[Ar h,Ar λ z=>z.elim h λ w=>by cases w]
theorem HG {P:Addr->Prop}{fp:List Addr}{K:za}{H':Hp}{Q:Addr->Prop}{v:V}{t:OT}(hP:∀a,P a->D7 H' a)(o:Bn K H' Q v t fp):∀a,PU P fp a->D7 H' a:=λ a h=>h.elim (hP a) (o.Bp a)
theorem Kl {P:Addr->Prop}{fp:List Addr}{K:za}{H':Hp}{Q:Addr->Prop}{v:List V}{t:List OT}(hP:∀a,P a->D7 H' a)(o:Ai K H' Q v t fp):∀a,PU P fp a->D7 H' a:=λ a h=>h.elim (hP a) (o.Bp a)
theorem A9.more {K:za}{P0:Cc}{P P':Addr->Prop}{H H':Hp}{σ:St}{ρ:A5}(E:A9 K P0 P H σ ρ)(e:A7 H H')(hs:∀a,P a->P' a)(ht:∀a,P' a->D7 H' a)(sm:A7 (del H P) (del H' P')):A9 K P0 P' H' σ ρ:=by
 have keep:∀(c:Cl) (v:V) (fp:List Addr),BR K H P c v fp->∀a∈fp,H' a=H a:=λ c v fp o a ha=>by
  obtain⟨xs,q⟩:=o.at a ha;rw[q];exact e _ _ q
 exact⟨λ a h=>hs a (E.sub a h),ht,λ i d h=>let ⟨v,h1,h2⟩:=E.val i d h;⟨v,h1,h2.mono sm⟩,
  λ i c h io=>let ⟨v,fp,h1,h2,h3,h4⟩:=E.ows i c h io;⟨v,fp,h1,h2.move sm (keep c v fp h2),λ a ha=>⟨hs a (h3 a ha).1,(h3 a ha).2⟩,h4⟩,
  λ i j c c' v v' fp ah hi hj si sj h h' af=>E.Mo sm (λ v fp _ o a ha=>keep _ _ _ o a ha) (λ v fp _ o a ha=>keep _ _ _ o a ha) hi hj si sj h h' af,E.len,E.pin⟩
def MQ (K:za)(WX:Str->Hp->Prop)(P:Addr->Prop)(H:Hp)(Q:VK):M OT->Prop
 | .ok t=>∀v fp H',A7 H H'->(∀a∈fp,H a=none)->fp.Nodup->Bn K H' (PU P fp) v t fp->Q v H'
 | .ex x=>∀H',A7 H H'->WX x H'
 | .bad=>False
def Vh (K:za)(WX:Str->Hp->Prop)(P:Addr->Prop)(H:Hp)(Q:List V->Hp->Prop):M (List OT)->Prop
 | .ok t=>∀v fp H',A7 H H'->(∀a∈fp,H a=none)->fp.Nodup->Ai K H' (PU P fp) v t fp->Q v H'
 | .ex x=>∀H',A7 H H'->WX x H'
 | .bad=>False
theorem Dh {H H':Hp}(s:A7 H H'){a:Addr}(h:H' a=none):H a=none:=by
 cases q:H a with
 |none=>rfl
 |some o=>rw[s a o q] at h;cases h
section
variable {K:za}{WX:Str->Hp->Prop}{P:Addr->Prop}{H H':Hp}
theorem MQ.same {Q:VK}{m:M OT}(h:MQ K WX P H Q m)(e:A7 H H'):MQ K WX P H' Q m:=by
 cases m with
 |ok d=>exact λ v fp H2 q hn nd o=>h v fp H2 (e.trans q) (λ a ha=>Dh e (hn a ha)) nd o
 |ex x=>exact λ H2 q=>h H2 (e.trans q)
 |bad=>exact h
end
def DN (X:Cx)(WX:Str->Hp->Prop)(e:Expr)(f:A5->M OT):Prop:=
 ∃t,PE X e t/\∀P0 P σ H Q ρ,A9 X.K P0 P H σ ρ->MQ X.K WX P H Q (f ρ)->t σ H Q
def Ss (X:Cx)(WX:Str->Hp->Prop)(es:List Expr)(f:A5->M (List OT)):Prop:=
 ∃t,PA X es t/\(∀P0 P σ H Q ρ,A9 X.K P0 P H σ ρ->Vh X.K WX P H Q (f ρ)->t σ H Q)/\∀ρ ts,f ρ=.ok ts->ts.length=es.length
noncomputable def U9 (d:D):M OT:=.ok (.sh d)
noncomputable def Ua (t:OT):M D:=.ok (er t)
section
variable {X:Cx}{WX:Str->Hp->Prop}{c:Bool}{P0:Cc}{P:Addr->Prop}{H:Hp}{σ:St}{ρ:A5}{a b e:Expr}{f g:A5->M D}{fn:A5->M OT}{pos:Pos}{es:List Expr}
theorem As (h:DE X WX true e f):DN X WX e (λ ρ=>(f ρ).bind U9):=by
 obtain⟨t,h1,h2⟩:=h;refine⟨t,h1,λ P0 P σ H Q ρ E g=>h2 P0 P σ H Q ρ E ?_⟩;dsimp only at g;cases q:f ρ with
 |bad|ex x=>rw[q] at g;exact g
 |ok d=>rw[q] at g;exact λ v H' s hv=>g v [] H' s (λ a ha=>by cases ha) List.nodup_nil (.sh (by rw[JC];exact hv))
theorem An (h:DN X WX e fn):DE X WX c e (λ ρ=>(fn ρ).bind Ua):=by
 suffices z:DE X WX true e (λ ρ=>(fn ρ).bind Ua) by
  cases c with
  |true=>exact z
  |false=>exact Js z
 obtain⟨t,h1,h2⟩:=h;refine⟨t,h1,λ P0 P σ H Q ρ E g=>h2 P0 P σ H Q ρ E ?_⟩;dsimp only at g;cases q:fn ρ with
 |bad|ex x=>rw[q] at g;exact g
 |ok d =>
  rw[q] at g;exact λ v fp H' s hn nd o=>g v H' s (o.has HF λ a ha z=>(E.Bp a z).no (hn a ha))
theorem HH:Ss X WX [] (λ _=>.ok []):=⟨_,Ce,λ P0 P σ H Q ρ E h=>h [] [] H (A7.refl H) (λ a ha=>by cases ha) List.nodup_nil .nil,λ ρ ds h=>by cases h;rfl⟩
theorem FC {es:List Expr}{fs:A5->M (List OT)}(he:DN X WX e fn)(hr:Ss X WX es fs)(hs:starEach (e::es) X.env=(false,eval e X.env)::starEach es X.env:=by rfl):
 Ss X WX (e::es) (λ ρ=>(fn ρ).bind λ d=>(fs ρ).bind λ ds=>.ok (d::ds)):=by
 obtain⟨te,e1,e2⟩:=he;obtain⟨tr,r1,r2,r3⟩:=hr;refine⟨_,Bl e1 r1 hs,λ P0 P σ H Q ρ E h=>?_,λ ρ ds h=>?_⟩
 rotate_left
 ·dsimp only at h;cases q:fn ρ with
  |bad|ex x=>rw[q] at h;cases h
  |ok x =>
   rw[q] at h;cases q2:fs ρ with
   |bad|ex x=>rw[q2] at h;cases h
   |ok xs =>
    rw[q2] at h;cases h;rw[zt,zt,r3 ρ xs q2]
 dsimp only at h;refine e2 P0 P σ H _ ρ E ?_;cases q:fn ρ with
 |bad|ex x=>rw[q] at h;exact h
 |ok x =>
  rw[q] at h;intro v fp H1 s1 n1 cq o1;have E1:A9 X.K P0 (PU P fp) H1 σ ρ:=E.more s1 HF (HG (E.same s1).Bp o1) (Dg s1 n1);refine r2 P0 (PU P fp) σ H1 _ ρ E1 ?_;cases q2:fs ρ with
  |bad=>rw[q2] at h;exact h
  |ex y=>rw[q2] at h;exact λ H' s=>h H' (s1.trans s)
  |ok ds =>
   rw[q2] at h;intro vs fq H2 s2 n2 aM o2;have dj:∀a∈fp,a∉fq:=λ a ha hb=>(o1.Bp a ha).no (n2 a hb);have eP:PU (PU P fp) fq=PU P (fp++fq):=by
    funext a;simp only[PU,zx,or_assoc]
   have sm:A7 (del H1 (PU P fp)) (del H2 (PU P (fp++fq))):=by rw[<-eP];exact Dg s2 n2
   refine h _ (fp++fq) H2 (s1.trans s2) (λ a ha=>?_) (zA.mpr ⟨cq,aM,λ a ha b hb z=>dj a ha (by rw[z];exact hb)⟩) (.cons (o1.move sm λ a ha=>?_) (by rw[<-eP];exact o2))
   ·rcases zx.mp ha with ha|ha
    ·exact n1 a ha
    ·exact Dh s1 (n2 a ha)
   ·obtain⟨o,z,_⟩:=o1.Bp a ha;rw[z];exact s2 _ _ z
theorem R4 {P:Addr->Prop}{fp:List Addr}{p:Addr}{H:Hp}{o:HO}(hn:H p=none)(hP:∀a,PU P fp a->D7 H a):A7 (del H (PU P fp)) (del (upd H p o) (PU P (p::fp))):=λ b u e=>by
 obtain⟨h1,h2⟩:=Aj e;have hb:b≠p:=Aq h2 hn;rw[Ar λ z=>z.elim (λ z=>h1 (.inl z)) λ w=>(zm.mp w).elim hb λ w=>h1 (.inr w),Ah hb];exact h2
theorem MR {fs:A5->M (List OT)}(ha:Ss X WX es fs)(hz:es.length<=1000:=by decide):DN X WX (.List es pos) (λ ρ=>(fs ρ).bind λ ts=>.ok (.lst ts)):=by
 obtain⟨ta,a1,a2,a3⟩:=ha;refine⟨_,Mc a1,λ P0 P σ H Q ρ E h=>?_⟩;dsimp only at h;refine a2 P0 P σ H _ ρ E ?_;cases q:fs ρ with
 |bad|ex y=>rw[q] at h;exact h
 |ok ts =>
  rw[q] at h;simp only[M.A6] at h;intro vs fp H1 s1 n1 cq o1;have hP:=Kl (E.same s1).Bp o1;refine⟨ye (AU (by rw[o1.len,a3 ρ ts q];exact hz)),λ p hp=>?_⟩;have af:∀a∈fp,a≠p:=λ a ha z=>(o1.Bp a ha).no (by rw[z];exact hp);exact h _ (p::fp) _ (s1.trans (Bm hp _)) (λ a ha=>(zm.mp ha).elim (λ z=>by rw[z];exact Dh s1 hp) (n1 a)) (yc.mpr ⟨λ z=>af p z rfl,cq⟩) (.lst AM (o1.move (R4 hp hP) λ a ha=>Ah (af a ha)))
theorem OQ {P:Addr->Prop}{fp:List Addr}{p:Addr}{H:Hp}{o:HO}(hn:H p=none)(hP:∀a,PU P fp a->D7 H a):A7 (del H (PU P fp)) (del (upd H p o) (PU P fp)):=λ b u e=>by
 obtain⟨h1,h2⟩:=Aj e;have hb:b≠p:=Aq h2 hn;rw[Ar h1,Ah hb];exact h2
theorem R5 {fs:A5->M (List OT)}{x1}(ha:Ss X WX es fs)(hz:es.length<=1000:=by decide):DN X WX (.Tuple es x1 pos) (λ ρ=>(fs ρ).bind λ ts=>.ok (.tup ts)):=by
 obtain⟨ta,a1,a2,a3⟩:=ha;refine⟨_,Mb a1,λ P0 P σ H Q ρ E h=>?_⟩;dsimp only at h;refine a2 P0 P σ H _ ρ E ?_;cases q:fs ρ with
 |bad|ex y=>rw[q] at h;exact h
 |ok ts =>
  rw[q] at h;simp only[M.A6] at h;intro vs fp H1 s1 n1 cq o1;have hP:=Kl (E.same s1).Bp o1;refine⟨ye (AU (by rw[o1.len,a3 ρ ts q];exact hz)),λ p hp=>?_⟩;have af:∀a∈fp,a≠p:=λ a ha z=>(o1.Bp a ha).no (by rw[z];exact hp);refine h _ fp _ (s1.trans (Bm hp _)) n1 cq (.tup ?_ (o1.move (OQ hp hP) λ a ha=>Ah (af a ha)));rw[Ar λ z=>(hP p z).no hp];exact AM
theorem Aa.ows {K:za}{H:Hp}{P:Addr->Prop}:∀ {xs:List V}{ds:List D},Aa K (del H P) xs ds->Ai K H P xs (ds.map .sh) []
 |_,_,.nil=>.nil
 |_,_,.cons h t=>.cons (.sh h) t.ows
theorem MQ.FD {K:za}{WX:Str->Hp->Prop}{P:Addr->Prop}{H H1:Hp}{Q:VK}{xs:List V}{ds:List D}(h:MQ K WX P H Q (.ok (.lst (ds.map .sh))))(s1:A7 H H1)(hx:Aa K (del H1 P) xs ds):∀p,H1 p=none->Q (.ref p) (upd H1 p (.lst xs)):=λ p hp=>by
 have hn:∀a∈[p],H1 a=none:=λ a ha=>by rw[zv.mp ha];exact hp
 exact h _ [p] _ (s1.trans (Bm hp _)) (λ a ha=>Dh s1 (hn a ha)) (by simp) (.lst AM (hx.mono (Dg (Bm hp _) hn)).ows)
theorem Ai.Ub {K:za}{H:Hp}{P:Addr->Prop}:∀ {xs:List V}{ds:List D}{fp:List Addr},Ai K H P xs (ds.map .sh) fp->fp=[]/\Aa K (del H P) xs ds
 |_,[],_,.nil=>⟨rfl,.nil⟩
 |_,d::ds,_,.cons (.sh h) r=>by
  obtain⟨rfl,q⟩:=Ai.Ub r;exact⟨rfl,.cons h q⟩
noncomputable def Eb:Cl->Cl
 | .val d=>.val d
 | .own ds=>.val (.lst ds)
 | .ow (.rows D6)=>.val (.lst (D6.map D.lst))
 | .ow (.EU _ ds)=>.val (.lst ds)
 | .ow (.tree _ t)=>.val (er t)
noncomputable def Ex (ρ:A5):A5:=ρ.map λ o=>o.map Eb
@[simp] theorem MS:Ex []=[]:=rfl
@[simp] theorem Ld (ρ:A5):Ex (none::ρ)=none::Ex ρ:=rfl
@[simp] theorem Le (c:Cl) (ρ:A5):Ex (some c::ρ)=some (Eb c)::Ex ρ:=rfl
theorem A9.low {K:za}{P0:Cc}{P:Addr->Prop}{H:Hp}{σ:St}{ρ:A5}(E:A9 K P0 P H σ ρ):A9 K P0 P0 H σ (Ex ρ):=by
 have key:∀(i:Nat) (c:Cl),(Ex ρ)[i]?=some (some c)->∃c',ρ[i]?=some (some c')/\c=Eb c':=λ i c h=>by
  unfold Ex at h;rw[zH] at h;cases q:ρ[i]? with
  |none=>rw[q] at h;cases h
  |some o =>
   rw[q] at h;cases o with
   |none=>cases h
   |some c'=>cases h;exact⟨c',rfl,rfl⟩
 have dv:∀c,Et (Eb c)=false:=λ c=>by
  cases c with
  |val d|own ds=>rfl
  |ow o=>cases o<;>rfl
 have cr:∀c,E6 (Eb c)=none:=λ c=>by
  cases c with
  |val d|own ds=>rfl
  |ow o=>cases o<;>rfl
 have fv:∀c v fp,¬ BR K H P0 (Eb c) v fp:=λ c v fp h=>by
  cases c with
  |val d|own ds=>exact h
  |ow o=>cases o<;>exact h
 refine⟨λ _ h=>h,λ a h=>E.Bp a (E.sub a h),λ i d h=>?_,λ i c h io=>?_,λ i j c c' v v' fp ah hi hj si sj h h' af=>?_,by unfold Ex;rw[zj];exact E.len,λ i c n h hp=>by obtain⟨c',h1,rfl⟩:=key i _ h;rw[cr] at hp;cases hp⟩
 ·obtain⟨c,h1,h2⟩:=key i _ h;cases c with
  |val d' =>
   cases h2;obtain⟨v,q1,q2⟩:=E.val i d h1;exact⟨v,q1,q2.mono (AW E.sub)⟩
  |own ds =>
   cases h2;obtain⟨p,xs,q1,q2,q3,q4,q5⟩:=E.own i ds h1;exact⟨_,q1,.lst (.of (show del H P0 p=_ by rw[Ar q4];exact q2)) (q5.mono (AW E.sub))⟩
  |ow o =>
   obtain⟨v,fp,q1,q2,q3,q4⟩:=E.ows i _ h1 rfl;cases o with
   |rows D6 =>
    cases h2;obtain⟨p,ps,rfl,rfl,q5,q6⟩:=q2;exact⟨_,q1,.lst (.of (show del H P0 p=_ by rw[Ar (q3 p zd).2];exact q5)) (q6.QU E.sub λ a ha=>(q3 a (ze _ ha)).2)⟩
   |EU p ds =>
    cases h2;obtain⟨p,xs,rfl,rfl,q5,q6⟩:=q2;exact⟨_,q1,.lst (.of (show del H P0 p=_ by rw[Ar (q3 p zd).2];exact q5)) (q6.mono (AW E.sub))⟩
   |tree p t =>
    cases h2;exact⟨_,q1,Bn.has E.sub (λ a ha=>(q3 a ha).2) q2⟩
 ·obtain⟨c',h1,rfl⟩:=key i _ h;rw[dv] at io;cases io
 ·obtain⟨c1,h1,rfl⟩:=key i _ hi;exact (fv _ _ _ h).elim
theorem MT {ft:A5->M Bool}(h:DT X WX e ft):DT X WX e (λ ρ=>ft (Ex ρ)):=by
 obtain⟨t,h1,h2⟩:=h;exact⟨t,h1,λ P0 P σ H Q ρ E g=>h2 P0 P0 σ H Q (Ex ρ) E.low g⟩
mutual
noncomputable def Su:OT->Bool
 | .sh d=>Sq d
 | .lst ts| .tup ts| .Bc _ _ ts| .ins _ _ ts=>IR ts
noncomputable def IR:List OT->Bool
 |[]=>true
 |t::r=>Su t&&IR r
end
noncomputable def Vi (m:M OT):M OT:=m.bind λ t=>if Su t=true then .ok t else .bad
noncomputable def FD (d:D):M OT:=match d with
 | .lst ds| .tup ds=>.ok (.lst (ds.map .sh))
 |_=>.bad
theorem OR {p:Pos}(hg:Gl X "list")(hm:X.mg "list" = none)(ha:DE X WX true e f)(hb:bootBuiltins "list" = some (.type "list"):=by decide +kernel)(bE:starEach [e] X.env=[(false,eval e X.env)]:=by rfl):
 DN X WX (.Call (.Name "list" p) [e] [] pos) (λ ρ=>(f ρ).bind FD):=by
 obtain⟨ta,a1,a2⟩:=ha;refine⟨_,GI Hu hg hm hb (Bl a1 Ce bE) (he:=bE),λ P0 P σ H Q ρ E h=>?_⟩;dsimp only at h;refine a2 P0 P σ H _ ρ E ?_;cases q:f ρ with
 |bad|ex x=>rw[q] at h;exact h
 |ok d =>
  rw[q] at h;simp only[M.A6] at h;intro v H1 s1 hv;unfold FD at h;split at h
  ·cases hv with
   |lst hs hh=>exact⟨_,_,rfl,.inl hs.Bs,h.FD s1 hh⟩
  ·cases hv with
   |tup hs hh=>exact⟨_,_,rfl,.inr (Fc.of (Aj hs).2),h.FD s1 hh⟩
  ·exact h.elim
def UW (K:za)(WX:Str->Hp->Prop)(r:R2)(aw:D->D->M OT):Prop:=
 ∀(P:Addr->Prop) (H:Hp) (x y:D) (v w:V) (Q:VK),(∀a,P a->D7 H a)->B9 K (del H P) v x->B9 K (del H P) w y->MQ K WX P H Q (aw x y)->r v w H Q
theorem Sv {ta tb:TE}{r:R2}{aw:D->D->M OT}(ha:∀P0 P σ H Q ρ,A9 X.K P0 P H σ ρ->gV X.K WX (Lv true P0 P) H Q (f ρ)->ta σ H Q)(hb:∀P0 P σ H Q ρ,A9 X.K P0 P H σ ρ->gV X.K WX (Lv true P0 P) H Q (g ρ)->tb σ H Q)
 (hr:UW X.K WX r aw) {Q:VK} (E:A9 X.K P0 P H σ ρ) (h:MQ X.K WX P H Q ((f ρ).bind λ x=>(g ρ).bind λ y=>aw x y)):QA r ta tb σ H Q:=by
 refine ha P0 P σ H _ ρ E ?_;cases e:f ρ with
 |bad|ex x=>rw[e] at h;exact h
 |ok x =>
  rw[e] at h;intro v H1 s1 hv;refine hb P0 P σ H1 _ ρ (E.same s1) ?_;cases e2:g ρ with
  |bad=>rw[e2] at h;exact h
  |ex y=>rw[e2] at h;exact λ H' s=>h H' (s1.trans s)
  |ok y =>
   rw[e2] at h;intro w H2 s2 hw;exact hr _ H2 x y v w Q ((E.same s1).same s2).Bp (hv.mono s2.del) hw ((h.same s1).same s2)
noncomputable def IS (x y:D):M OT:=match x,y with
 | .lst a,.lst b=>if a.length+b.length<=1000 then .ok (.lst ((a++b).map .sh)) else .bad
 |_,_=>.bad
end
noncomputable def spT (K:za)(n:Nat)(F:List D->M OT):Sp:=λ vs H Q E=>vs.length=n/\∃P ds,(∀a,P a->D7 H a)/\Aa K (del H P) vs ds/\MQ K (HB K E) P H Q (F ds)
noncomputable def Sw:Cl->M OT
 | .val d=>.ok (.sh d)
 | .own ds=>.ok (.lst (ds.map .sh))
 | .ow (.rows D6)=>.ok (.lst (D6.map λ ds=>.lst (ds.map .sh)))
 | .ow (.EU _ _)=>.bad
 | .ow (.tree none t)=>.ok t
 | .ow (.tree (some _) _)=>.bad
noncomputable def OS (m:M Out):M OT:=match m with
 | .ok (.ret d)=>.ok (.sh d)
 | .ok (.B3 c)=>Sw c
 | .ok (.next _)=>.ok (.sh .Av)
 | .ex x=>.ex x
 |_=>.bad
theorem BE.ows {K:za}{H:Hp}{P:Addr->Prop}:∀ {ps:List Addr}{D6:List (List D)},BE K H P ps D6->Ai K H P (ps.map V.ref) (D6.map λ ds=>.lst (ds.map .sh)) ps
 |_,_,.nil=>.nil
 |_,_,.cons h r t=>.cons (.lst h r.ows) t.ows
theorem BR.tree {K:za}{H:Hp}{P:Addr->Prop}{c:Cl}{v:V}{fp:List Addr}{t:OT}(h:BR K H P c v fp)(e:Sw c=.ok t):Bn K H P v t fp:=by
 cases c with
 |val d=>exact h.elim
 |own ds =>
  cases e;obtain⟨p,xs,rfl,rfl,h1,h2⟩:=h;exact .lst h1 h2.ows
 |ow o =>
  cases o with
  |rows D6 =>
   cases e;obtain⟨p,ps,rfl,rfl,h1,h2⟩:=h;exact .lst h1 h2.ows
  |EU p ds=>cases e
  |tree p t' =>
   cases p with
   |none=>cases e;exact h
   |some q=>cases e
section
variable {P:Program}{w:World}{K:za}{mg:Str->Option Value}{base:Heap}
theorem OU {WX:Str->Hp->Prop}{P P2:Addr->Prop}{H H':Hp}{Q:VK}{c:Cl}{v:V}{fp:List Addr}(h:MQ K WX P H Q (Sw c))(t:Tr P P H P2 H')(hs:∀a,P a->P2 a)(ho:BR K H' P2 c v fp)(hp:∀a∈fp,P2 a/\¬ P a)(nd:fp.Nodup):Q v H':=by
 cases q:Sw c with
 |bad=>rw[q] at h;exact h.elim
 |ex x=>cases c with
  |val d|own ds=>cases q
  |ow o =>
   cases o with
   |rows D6|EU p ds=>cases q
   |tree p t'=>cases p<;>cases q
 |ok u =>
  rw[q] at h;have o:=ho.tree q;refine h v fp H' (Bv t) (λ a ha=>R3 t (hp a ha).1 (hp a ha).2) nd (o.move (AW λ a ha=>ha.elim (hs a) λ z=>(hp a z).1) λ _ _=>rfl)
theorem Uc {x qual:Str}{st:Stmt}{f:Addr}{fd:FuncData}{N ps:List Str}{k:Nat}(F:Mh K x qual st f fd)(S:Ak N ps (A4 st))(g:A5->M Out)
 (hb:∀(Bh:Value) (A:Around) (outer:List Env) (s:Shared) (H:Hp) (E:XK),BB k (A.deeper (envOfC qual (A4 st) s.heap.objs.size f Bh))->Mz (OG P w K mg base N qual (A4 st) f Bh A outer s H E) (HB K E) (Ax st) g):
 DU P w K mg base (RL P w base) (k+1) f fd ps (spT K ps.length λ ds=>OS (g (AB N ds))):=by
 obtain⟨oc,od,kV,doc,pm,an,Bh,ct,Oc,rfl,lk,aG⟩:=F.ex;refine PZ lk aG S (λ vs H Q E h=>h.1) λ A outer s H vs Q E hr h=>?_;obtain⟨hl,P',ds,ht,hv,hq⟩:=h;obtain⟨t,h1,h2⟩:=hb Bh A outer s H E hr;refine⟨t,h1,h2 ⟨P',λ _=>0⟩ P' _ H _ _ (GS ht hv) ?_⟩;dsimp only at hq;revert hq;cases g (AB N ds) with
 |bad=>exact λ h=>h.elim
 |ex x=>exact λ h H' P2 t=>h H' (Bv t)
 |ok o =>
  cases o with
  |ret d=>exact λ h v H' P2 t hv=>h v [] H' (Bv t) (λ a ha=>by cases ha) List.nodup_nil (.sh (by rw[JC];exact hv))
  |next ρ=>exact λ h σ' H' P2 t E=>h .Av [] H' (Bv t) (λ a ha=>by cases ha) List.nodup_nil (.sh .Av)
  |brk ρ|cont ρ=>exact λ h=>h.elim
  |B3 c=>exact λ h v fp H' P2 t hs ht ho hp nd=>OU h t hs ho hp nd
  |Dm d ρ=>exact λ h=>h.elim
end
structure CB (P:Program)(w:World)(K:za)(mg:Str->Option Value)(base:Heap)(x:Str)(k n:Nat)(F:List D->M OT):Prop where
 ex:∃fa fd ps,DU P w K mg base (RL P w base) k fa fd ps (spT K n F)/\mg x=some (.ref fa)/\zL K (.ref fa)=true/\Binds K fd ps []
theorem AI {P:Program}{w:World}{K:za}{mg:Str->Option Value}{base:Heap}{x:Str}{st:Stmt}{N ps:List Str}{k n:Nat}(T:AY K mg x st ps)(S:Ak N ps (A4 st))(g:A5->M Out)
 (hb:∀(f:Addr) (Bh:Value) (A:Around) (outer:List Env) (s:Shared) (H:Hp) (E:XK),BB k (A.deeper (envOfC x (A4 st) s.heap.objs.size f Bh))->Mz (OG P w K mg base N x (A4 st) f Bh A outer s H E) (HB K E) (Ax st) g) (hn:ps.length=n:=by rfl):
 CB P w K mg base x (k+1) n (λ ds=>OS (g (AB N ds))):=by
 obtain⟨f,fd,F,hm,hB⟩:=T.ex;subst hn;exact⟨⟨f,fd,ps,Uc F S g (hb f),hm,F.kp,hB⟩⟩
section
variable {X:Cx}{E:XK}{WX:Str->Hp->Prop}{c:Bool}{e:Expr}{es:List Expr}{fs:A5->M (List D)}{f:A5->M D}{fn:A5->M OT}{ft:A5->M Bool}{pos:Pos}
theorem Ae {k n:Nat}{F:List D->M OT}{x:Str}{p:Pos}(xo:XCall X E)(G:CB X.prog X.w X.K X.mg X.base x k n F)(hr:BB k X.A)(hg:Gl X x)(ha:DA X (HB X.K E) true (e::es) fs)(hn:(e::es).length=n)
 (aD:(x==("__debug__" : Str))=false:=by decide) (he:starEach (e::es) X.env=(false,eval e X.env)::starEach es X.env:=by rfl) (aI:(backTo pos (starEach es X.env)).any (·.1)=false:=by rfl):
 DN X (HB X.K E) (.Call (.Name x p) (e::es) [] pos) (λ ρ=>(fs ρ).bind F):=by
 obtain⟨fa,fd,ps,hF,hm,hk,hb⟩:=G.ex;obtain⟨ta,a1,a2,a3⟩:=ha;refine⟨_,Ob hF hr hg hm hk hb .nil xo.call a1 aD he aI,λ P0 P σ H Q ρ E h=>?_⟩;dsimp only at h;refine a2 P0 P σ H _ ρ E ?_;cases q:fs ρ with
 |bad|ex x=>rw[q] at h;exact h
 |ok ds =>
  rw[q] at h;simp only[M.A6] at h;intro vs H1 s1 aO;rw[List.append_nil];exact⟨by rw[aO.length,a3 ρ ds q];exact hn,P,ds,(E.same s1).Bp,aO,h.same s1⟩
theorem CS (h:DN X WX e fn):DN X (λ _ _=>False) e fn:=by
 obtain⟨t,h1,h2⟩:=h;refine⟨t,h1,λ P0 P σ H Q ρ E g=>h2 P0 P σ H Q ρ E ?_⟩;cases q:fn ρ with
 |bad=>rw[q] at g;exact g
 |ex x=>rw[q] at g;exact (g H (A7.refl H)).elim
 |ok t=>rw[q] at g;exact g
noncomputable def MU (t:OT):M Out:=match t with
 | .sh d=>.ok (.ret d)
 |t=>.ok (.B3 (.ow (.tree none t)))
end
section
variable {X:Cx}{WX:Str->Hp->Prop}{c:Bool}{P0:Cc}{P:Addr->Prop}{H:Hp}{σ:St}{ρ:A5}{a b e:Expr}{f g:A5->M D}{fn:A5->M OT}{pos:Pos}
theorem A9.Ud {K:za}{H':Hp}{fp:List Addr}(E:A9 K P0 P H σ ρ)(s:A7 H H')(hn:∀a∈fp,H a=none):Tr P0 P H (PU P fp) H':=
 ⟨Dg s hn,λ a ha=>by obtain⟨o,q,_⟩:=E.Bp a (E.sub a ha);rw[q];exact s _ _ q⟩
theorem Ac (ha:DN X WX e fn):DS X WX (.Return (some e) pos) (λ ρ=>(fn ρ).bind MU):=by
 obtain⟨ta,a1,a2⟩:=ha;refine⟨_,Jn a1,λ P0 P σ H Z ρ E h=>?_⟩;dsimp only at h;refine a2 P0 P σ H _ ρ E ?_;cases q:fn ρ with
 |bad=>rw[q] at h;exact h
 |ex x=>rw[q] at h;exact λ H' s=>h H' P (E.tr s)
 |ok t =>
  rw[q] at h;simp only[M.A6] at h;intro v fp H' s hn nd o;have key:gS X.K WX P0 P H Z (.ok (.B3 (.ow (.tree none t))))->Z.rt v H':=λ h =>
   h v fp H' (PU P fp) (E.Ud s hn) (λ a ha=>.inl (E.sub a ha)) (HG (E.same s).Bp o) o (λ a ha=>⟨.inr ha,λ z=>(E.Bp a (E.sub a z)).no (hn a ha)⟩) nd
  cases t with
  |sh d =>
   cases o with
   |sh hv=>exact h v H' P (E.tr s) (hv.mono (AW λ a ha=>.inl (E.sub a ha)))
  |lst ts|tup ts|Bc b ks ts|ins x ns ts=>exact key h
noncomputable def BW:List OT->Option (List D)
 |[]=>some []
 | .sh d::r=>(BW r).map (d::·)
 |_::_=>none
theorem AX:∀ds:List D,BW (ds.map .sh)=some ds
 |[]=>rfl
 |d::r=>by rw[zq,BW,AX r];rfl
theorem DD:∀ {ts:List OT}{ds:List D},BW ts=some ds->ts=ds.map .sh
 |[],ds,h=>by cases h;rfl
 | .sh d::r,ds,h=>by
  rw[BW] at h;cases q:BW r with
  |none=>rw[q] at h;cases h
  |some es=>rw[q] at h;cases h;rw[zq,<-DD q]
 | .lst _::r,ds,h| .tup _::r,ds,h| .Bc _ _ _::r,ds,h| .ins _ _ _::r,ds,h=>by cases h
noncomputable def toCl (p:Option Nat)(t:OT):Cl:=match t with
 | .lst ts=>(match BW ts with
  |some ds=>(match p with|none=>.own ds|some q=>.ow (.EU q ds))
  |none=>.ow (.tree p (.lst ts)))
 |t=>.ow (.tree p t)
@[simp] theorem toCl_list (ds:List D):toCl none (.lst (ds.map .sh))=.own ds:=by unfold toCl;simp only[AX]
@[simp] theorem toCl_listP (q:Nat) (ds:List D):toCl (some q) (.lst (ds.map .sh))=.ow (.EU q ds):=by unfold toCl;simp only[AX]
@[simp] theorem toCl_dct (p:Option Nat) (b:Bool) (ks:List D) (ts:List OT):toCl p (.Bc b ks ts)=.ow (.tree p (.Bc b ks ts)):=rfl
noncomputable def treeOf:Cl->Option (Option Nat×OT)
 | .own ds=>some (none,.lst (ds.map .sh))
 | .ow (.EU p ds)=>some (some p,.lst (ds.map .sh))
 | .ow (.rows D6)=>some (none,.lst (D6.map λ ds=>.lst (ds.map .sh)))
 | .ow (.tree p t)=>some (p,t)
 | .val _=>none
theorem BR.toT {K:za}{H:Hp}{P:Addr->Prop}{c:Cl}{v:V}{fp:List Addr}{p:Option Nat}{t:OT}(h:BR K H P c v fp)(e:treeOf c=some (p,t)):Bn K H P v t fp:=by
 cases c with
 |val d=>exact h.elim
 |own ds =>
  cases e;obtain⟨p,xs,rfl,rfl,h1,h2⟩:=h;exact .lst h1 h2.ows
 |ow o =>
  cases o with
  |rows D6 =>
   cases e;obtain⟨p,ps,rfl,rfl,h1,h2⟩:=h;exact .lst h1 h2.ows
  |EU p ds =>
   cases e;obtain⟨p,xs,rfl,rfl,h1,h2⟩:=h;exact .lst h1 h2.ows
  |tree p t'=>cases e;exact h
theorem BR.toCl {K:za}{H:Hp}{P:Addr->Prop}{v:V}{fp:List Addr}{p:Option Nat}{t:OT}(h:Bn K H P v t fp):BR K H P (toCl p t) v fp:=by
 unfold L2.toCl;split
 ·rename_i ts;cases q:BW ts with
  |none=>exact h
  |some ds =>
   have e:=DD q;subst e;cases h with
   |lst h1 h2 =>
    obtain⟨rfl,h3⟩:=h2.Ub;cases p with
    |none|some q=>exact⟨_,_,rfl,rfl,h1,h3⟩
 ·exact h
theorem FE (p:Option Nat)(t:OT):E6 (toCl p t)=p:=by
 unfold toCl;split
 ·rename_i ts;cases q:BW ts with
  |none|some ds=>cases p<;>rfl
 ·cases p<;>rfl
theorem JD {c:Cl}{p:Option Nat}{t:OT}(h:treeOf c=some (p,t)):E6 c=p:=by
 cases c with
 |val d=>cases h
 |own ds=>cases h;rfl
 |ow o =>
  cases o with
  |rows D6|EU p ds=>cases h;rfl
  |tree p t=>cases h;cases p<;>rfl
noncomputable def JE (i:Nat)(ρ:A5)(t:OT):M Out:=match t with
 | .sh d=>.ok (.next (ρ.set i (some (.val d))))
 |t=>.ok (.next (ρ.set i (some (toCl none t))))
theorem Sx {K:za}{i:Nat}{t:OT}{v:V}{fp:List Addr}{H':Hp}{Z:Ends}(E:A9 K P0 P H σ ρ)(s:A7 H H')(hn:∀a∈fp,H a=none)(nd:fp.Nodup)(o:Bn K H' (PU P fp) v t fp)(h:gS K WX P0 P H Z (JE i ρ t)):Z.nx (σ.set i (some v)) H':=by
 have key:gS K WX P0 P H Z (.ok (.next (ρ.set i (some (toCl none t)))))->Z.nx (σ.set i (some v)) H':=λ h=>by
  refine h _ H' (PU P fp) (E.Ud s hn) (E.MC HF (HG (E.same s).Bp o) (Dg s hn) (λ j c' v' ah af g1 g2 g3 a ha=>?_) (BR.toCl o) (λ a ha=>⟨.inr ha,λ z=>(E.Bp a (E.sub a z)).no (hn a ha)⟩) nd (λ n z=>by rw[FE] at z;cases z));obtain⟨xs,z⟩:=g3.at a ha;exact⟨by rw[z];exact s _ _ z,λ w=>by rw[hn a w] at z;cases z⟩
 cases t with
 |sh d =>
  cases o with
  |sh hv=>exact h _ H' P (E.tr s) ((E.same s).OD (by rw[JC] at hv;exact hv))
 |lst ts|tup ts|Bc b ks ts|ins x ns ts=>exact key h
theorem F4 (i:Nat){x:Str}{pos':Pos}(hN:X.N.Nodup)(hi:X.N[i]?=some x)(hx:Loc X.env.scope x)(ha:DN X WX e fn)(hs:swapsWith e (some (.Name x pos')) pos.line X.env=pure false:=by rfl)(hf:X.fn x=true\/X.env.scope.names.lookup x=some .local:=by first | exact .inl rfl | exact .inr rfl | assumption):
 DS X WX (.Assign [.Name x pos'] e pos) (λ ρ=>(fn ρ).bind (JE i ρ)):=by
 obtain⟨ta,a1,a2⟩:=ha;refine⟨_,M0 hN hi hx a1 hs hf,λ P0 P σ H Z ρ E h=>?_⟩;dsimp only at h;refine a2 P0 P σ H _ ρ E ?_;cases q:fn ρ with
 |bad=>rw[q] at h;exact h
 |ex x=>rw[q] at h;exact λ H' s=>h H' P (E.tr s)
 |ok t =>
  rw[q] at h;exact λ v fp H' s hn nd o=>Sx E s hn nd o h
noncomputable def JF (i:Nat)(ρ:A5):M Out:=match ρ[i]? with
 |some (some (.val d))=>.ok (.ret d)
 |some (some c)=>.ok (.B3 c)
 |_=>.bad
theorem OV (i:Nat){x:Str}{p1:Pos}(hv:PE X (.Name x p1) (KU i)):DS X WX (.Return (some (.Name x p1)) pos) (JF i):=by
 refine⟨_,Jn hv,λ P0 P σ H Z ρ E h=>?_⟩;unfold JF at h;split at h
 ·rename_i d e1;obtain⟨v,h1,h2⟩:=E.val i d e1;exact⟨v,h1,h v H P Tr.refl (h2.mono (AW E.sub))⟩
 ·rename_i c hc e1;have io:Et c=true:=by
   cases c with
   |val d=>exact (hc d rfl).elim
   |own ds|ow o=>rfl
  obtain⟨v,fp,h1,h2,h3,h4⟩:=E.ows i _ e1 io;exact⟨v,h1,h v fp H P Tr.refl E.sub E.Bp h2 h3 h4⟩
 ·exact h.elim
theorem Ey:∀ds:List D,Jk (ds.map .sh)=ds
 |[]=>rfl
 |d::r=>by rw[zq,Jk,er,Ey r]
theorem Lf {c:Cl}{p:Option Nat}{t:OT}(e:treeOf c=some (p,t)):Eb c=.val (er t):=by
 cases c with
 |val d=>cases e
 |own ds=>cases e;rw[er,Ey];rfl
 |ow o =>
  cases o with
  |rows D6 =>
   cases e;rw[er,Kg,List.map_map];have:(er ∘ λ ds:List D=>OT.lst (ds.map .sh))=D.lst:=by funext ds;rw[Function.comp,er,Ey]
   rw[this];rfl
  |EU p ds=>cases e;rw[er,Ey];rfl
  |tree p t'=>cases e;rfl
theorem JG {c:Cl}(h:Et c=true):∃p t,treeOf c=some (p,t):=by
 cases c with
 |val d=>cases h
 |own ds=>exact⟨_,_,rfl⟩
 |ow o=>cases o<;>exact⟨_,_,rfl⟩
noncomputable def IT (i:Nat)(ρ:A5):A5:=match ρ[i]? with
 |some (some c)=>ρ.set i (some (Eb c))
 |_=>ρ
theorem A9.K5 {K:za}(E:A9 K P0 P H σ ρ)(i:Nat):∃P',(∀a,P' a->P a)/\A9 K P0 P' H σ (IT i ρ):=by
 unfold IT;split
 ·rename_i c e1;cases io:Et c with
  |false =>
   cases c with
   |val d =>
    refine⟨P,λ _ h=>h,?_⟩;have:ρ.set i (some (Eb (.val d)))=ρ:=Ew e1;rw[this];exact E
   |own ds|ow o=>cases io
  |true =>
   obtain⟨p,t,ht⟩:=JG io;obtain⟨v,fp,h1,h2,h3,h4⟩:=E.ows i c e1 io;rw[Lf ht];have o:=h2.toT ht;let P':Addr->Prop:=λ a=>P a/\a∉fp;have bA:∀a,P' a->P a:=λ a h=>h.1;have sm:A7 (del H P) (del H P'):=AW bA;have dj:∀(j:Nat) c' v' ah,i≠j->ρ[j]?=some (some c')->σ[j]?=some (some v')->BR K H P c' v' ah->∀a∈ah,a∉fp:=λ j c' v' ah af g1 g2 g3=>E.apart j i c' c v' v ah fp g1 e1 g2 h1 g3 h2 (Ne.symm af);have old:∀(j:Nat) (c':Cl) (v':V) (fq:List Addr),ρ[j]?=some (some c')->σ[j]?=some (some v')->BR K H P' c' v' fq->BR K H P c' v' fq:=λ j c' v' fq g1 g2 g3=>by
    have bK:Et c'=true:=by cases c'<;>first|rfl|exact g3.elim
    obtain⟨w,fr,k1,k2,k3,k4⟩:=E.ows j c' g1 bK;rw[g2] at k1;cases k1;rw[g3.BQ (k2.move sm λ _ _=>rfl)];exact k2
   refine⟨P',bA,⟨λ a h=>⟨E.sub a h,λ z=>(h3 a z).2 h⟩,λ a h=>E.Bp a h.1,λ j d h=>?_,λ j c' h bK=>?_,λ j k c1 c2 v1 v2 f1 f2 q1 q2 q3 q4 q5 q6 af=>?_,by rw[List.length_set];exact E.len,λ j c' n h hp=>?_⟩⟩
   rotate_left 3
   ·rcases get_set h with ⟨rfl,hl,z⟩|⟨af,h⟩
    ·cases z;cases hp
    ·exact E.pin j c' n h hp
   ·rcases get_set h with ⟨rfl,hl,z⟩|⟨af,h⟩
    ·cases z;exact⟨v,h1,o.has bA λ a ha z=>z.2 ha⟩
    ·obtain⟨w,k1,k2⟩:=E.val j d h;exact⟨w,k1,k2.mono sm⟩
   ·rcases get_set h with ⟨rfl,hl,z⟩|⟨af,h⟩
    ·cases z;cases bK
    ·obtain⟨w,fq,k1,k2,k3,k4⟩:=E.ows j c' h bK;exact⟨w,fq,k1,k2.move sm λ _ _=>rfl,λ a ha=>⟨⟨(k3 a ha).1,dj j c' w fq af h k1 k2 a ha⟩,(k3 a ha).2⟩,k4⟩
   ·rcases get_set q1 with ⟨rfl,hl,z⟩|⟨bI,q1⟩
    ·cases z;exact q5.elim
    ·rcases get_set q2 with ⟨rfl,hl,z⟩|⟨aE,q2⟩
     ·cases z;exact q6.elim
     ·exact E.apart j k c1 c2 v1 v2 f1 f2 q1 q2 q3 q4 (old j c1 v1 f1 q1 q3 q5) (old k c2 v2 f2 q2 q4 q6) af
 ·exact⟨P,λ _ h=>h,E⟩
theorem gS.less {K:za}{P':Addr->Prop}{Z:Ends}{m:M Out}(hs:∀a,P' a->P a)(h:gS K WX P0 P H Z m):gS K WX P0 P' H Z m:=by
 have tr:∀ {P2:Addr->Prop} {H2:Hp},Tr P0 P' H P2 H2->Tr P0 P H P2 H2:=λ t=>⟨(AW hs).trans t.1,t.2⟩;cases m with
 |bad=>exact h
 |ex x=>exact λ H2 P2 t2=>h H2 P2 (tr t2)
 |ok o =>
  cases o with
  |ret d=>exact λ v H2 P2 t2 hv=>h v H2 P2 (tr t2) hv
  |next ρ|brk ρ|cont ρ=>exact λ σ2 H2 P2 t2 hv=>h σ2 H2 P2 (tr t2) hv
  |B3 c=>exact λ v fp H2 P2 t2=>h v fp H2 P2 (tr t2)
  |Dm c ρ=>exact λ v fp σ2 H2 P2 t2=>h v fp σ2 H2 P2 (tr t2)
theorem MV (i:Nat){st:Stmt}{g1:A5->M Out}(h:DS X WX st g1):DS X WX st (λ ρ=>g1 (IT i ρ)):=by
 obtain⟨t,h1,h2⟩:=h;refine⟨t,h1,λ P0 P σ H Z ρ E h=>?_⟩;obtain⟨P',hs,E'⟩:=E.K5 i;exact h2 P0 P' σ H Z _ E' (h.less hs)
end
section
variable {K:za}{H H':Hp}{P P':Addr->Prop}
theorem B0.same {v:V}{t:OT}{q:List Addr}{xs:List V}(e:A7 H H')(h:B0 K H P v t q xs):B0 K H' P v t q xs:=by
 cases t with
 |sh d=>exact h.elim
 |lst ts=>obtain⟨p,rfl,rfl,h⟩:=h;exact⟨p,rfl,rfl,e _ _ h⟩
 |tup ts=>obtain⟨p,rfl,rfl,h⟩:=h;exact⟨p,rfl,rfl,e.del _ _ h⟩
 |Bc b ks ts =>
  cases b with
  |false|true=>obtain⟨p,kvs,rfl,rfl,h,rfl,rfl⟩:=h;exact⟨p,kvs,rfl,rfl,e _ _ h,rfl,rfl⟩
 |ins x ns ts=>obtain⟨p,C,dx,fs,rfl,rfl,n,h,rfl,rfl⟩:=h;exact⟨p,C,dx,fs,rfl,rfl,n,e _ _ h,rfl,rfl⟩
theorem CQ.same {v v1:V}{t t1:OT}{π:List Nat}(e:A7 H H')(h:CQ K H P v t π v1 t1):CQ K H' P v t π v1 t1:=by
 induction h with
 |nil=>exact .nil
 |cons n hx hs _ ih=>exact .cons (n.same e) hx hs ih
theorem B0.more {v:V}{t:OT}{q:List Addr}{xs:List V}(sm:A7 (del H P) (del H' P'))(e:A7 H H')(h:B0 K H P v t q xs):B0 K H' P' v t q xs:=by
 cases t with
 |sh d=>exact h.elim
 |lst ts=>obtain⟨p,rfl,rfl,h⟩:=h;exact⟨p,rfl,rfl,e _ _ h⟩
 |tup ts=>obtain⟨p,rfl,rfl,h⟩:=h;exact⟨p,rfl,rfl,sm _ _ h⟩
 |Bc b ks ts =>
  cases b with
  |false|true=>obtain⟨p,kvs,rfl,rfl,h,rfl,rfl⟩:=h;exact⟨p,kvs,rfl,rfl,e _ _ h,rfl,rfl⟩
 |ins x ns ts=>obtain⟨p,C,dx,fs,rfl,rfl,n,h,rfl,rfl⟩:=h;exact⟨p,C,dx,fs,rfl,rfl,n,e _ _ h,rfl,rfl⟩
theorem CQ.more {v v1:V}{t t1:OT}{π:List Nat}(sm:A7 (del H P) (del H' P'))(e:A7 H H')(h:CQ K H P v t π v1 t1):CQ K H' P' v t π v1 t1:=by
 induction h with
 |nil=>exact .nil
 |cons n hx hs _ ih=>exact .cons (n.more sm e) hx hs ih
end
noncomputable def IU (i:Nat)(ρ:A5)(π:List Nat):Option OT:=match ρ[i]? with
 |some (some c)=>(match treeOf c with|some (_,t)=>Ea t π|none=>none)
 |_=>none
structure B4 (K:za)(P:Addr->Prop)(H:Hp)(σ:St)(ρ:A5)(i:Nat)(π:List Nat)(v:V)(t1:OT):Prop where
 ex:∃v0 c p t,ρ[i]?=some (some c)/\treeOf c=some (p,t)/\σ[i]?=some (some v0)/\CQ K H P v0 t π v t1
theorem B4.at {K:za}{P:Addr->Prop}{H:Hp}{σ:St}{ρ:A5}{i:Nat}{π:List Nat}{v:V}{t1:OT}(h:B4 K P H σ ρ i π v t1):IU i ρ π=some t1:=by
 obtain⟨v0,c,p,t,h1,h2,h3,h4⟩:=h.ex;unfold IU;simp only[h1,h2];exact h4.sub
theorem B4.same {K:za}{P:Addr->Prop}{H H':Hp}{σ:St}{ρ:A5}{i:Nat}{π:List Nat}{v:V}{t1:OT}(e:A7 H H')(h:B4 K P H σ ρ i π v t1):B4 K P H' σ ρ i π v t1:=by
 obtain⟨v0,c,p,t,h1,h2,h3,h4⟩:=h.ex;exact⟨v0,c,p,t,h1,h2,h3,h4.same e⟩
theorem B4.more {K:za}{P P':Addr->Prop}{H H':Hp}{σ:St}{ρ:A5}{i:Nat}{π:List Nat}{v:V}{t1:OT}(sm:A7 (del H P) (del H' P'))(e:A7 H H')(h:B4 K P H σ ρ i π v t1):B4 K P' H' σ ρ i π v t1:=by
 obtain⟨v0,c,p,t,h1,h2,h3,h4⟩:=h.ex;exact⟨v0,c,p,t,h1,h2,h3,h4.more sm e⟩
theorem B4.own {K:za}{P0:Cc}{P:Addr->Prop}{H:Hp}{σ:St}{ρ:A5}{i:Nat}{π:List Nat}{v:V}{t1:OT}(h:B4 K P H σ ρ i π v t1)(E:A9 K P0 P H σ ρ):∃aq,Bn K H P v t1 aq/\(∀a∈aq,P a/\¬ P0 a)/\aq.Nodup:=by
 obtain⟨v0,c,p,t,h1,h2,h3,h4⟩:=h.ex;have io:Et c=true:=by cases c<;>first|rfl|cases h2
 obtain⟨w,fp,k1,k2,k3,k4⟩:=E.ows i c h1 io;rw[h3] at k1;cases k1;obtain⟨aq,o1,hk,kn⟩:=(k2.toT h2).part h4;exact⟨aq,o1,λ a ha=>k3 a (hk a ha),kn k4⟩
def gP (K:za)(WX:Str->Hp->Prop)(P:Addr->Prop)(H:Hp)(σ:St)(ρ:A5)(i:Nat)(Q:VK):M (List Nat)->Prop
 | .ok π=>∀v t1 H',A7 H H'->B4 K P H' σ ρ i π v t1->Q v H'
 | .ex x=>∀H',A7 H H'->WX x H'
 | .bad=>False
def DP (X:Cx)(WX:Str->Hp->Prop)(e:Expr)(i:Nat)(f:A5->M (List Nat)):Prop:=
 ∃t,PE X e t/\∀P0 P σ H Q ρ,A9 X.K P0 P H σ ρ->gP X.K WX P H σ ρ i Q (f ρ)->t σ H Q
section
variable {X:Cx}{WX:Str->Hp->Prop}{c:Bool}{P0:Cc}{P:Addr->Prop}{H:Hp}{σ:St}{ρ:A5}{a b e:Expr}{f g:A5->M D}{fn:A5->M OT}{fp:A5->M (List Nat)}{pos:Pos}{i:Nat}
noncomputable def Gm (i:Nat)(ρ:A5):M (List Nat):=match IU i ρ [] with | some _=>.ok [] | none=>.bad
theorem Km (i:Nat){x:Str}{p1:Pos}(hv:PE X (.Name x p1) (KU i)):DP X WX (.Name x p1) i (Gm i):=by
 refine⟨_,hv,λ P0 P σ H Q ρ E h=>?_⟩;unfold Gm at h;split at h
 ·rename_i t e;unfold IU at e;split at e
  ·rename_i cl e1;split at e
   ·rename_i p t0 e2;have io:Et cl=true:=by cases cl<;>first|rfl|cases e2
    obtain⟨v,fp,h1,h2,h3,h4⟩:=E.ows i cl e1 io;exact⟨v,h1,h v t0 H (A7.refl H) ⟨v,cl,p,t0,e1,e2,h1,.nil⟩⟩
   ·cases e
  ·cases e
 ·exact h.elim
noncomputable def OW (i:Nat)(ρ:A5)(π:List Nat)(d:D):M (List Nat):=match IU i ρ π,d with
 |some (.lst ts),.int j|some (.tup ts),.int j=>(match Mf ts.length j with|some k=>.ok (π++[k])|none=>.bad)
 |_,_=>.bad
theorem Kn (ha:DP X WX a i fp)(hb:DE X WX true b g)(hs:EZ b:=by exact λ _ _=>rfl):DP X WX (.Subscript a b pos) i (λ ρ=>(fp ρ).bind λ π=>(g ρ).bind (OW i ρ π)):=by
 obtain⟨ta,a1,a2⟩:=ha;obtain⟨tb,b1,b2⟩:=hb;refine⟨_,Q1 (Kd.or Mg) a1 b1 hs,λ P0 P σ H Q ρ E h=>?_⟩;dsimp only at h;refine a2 P0 P σ H _ ρ E ?_;cases q:fp ρ with
 |bad|ex x=>rw[q] at h;exact h
 |ok π =>
  rw[q] at h;simp only[M.A6] at h;intro v t1 H1 s1 pl;refine b2 P0 P σ H1 _ ρ (E.same s1) ?_;cases q2:g ρ with
  |bad=>rw[q2] at h;exact h
  |ex y=>rw[q2] at h;exact λ H' s=>h H' (s1.trans s)
  |ok d =>
   rw[q2] at h;simp only[M.A6] at h;intro w H2 s2 hw;have E2:=(E.same s1).same s2;have dw:=pl.same s2;obtain⟨aq,o1,_⟩:=dw.own E2;unfold OW at h;rw[dw.at] at h;obtain⟨v0,c,p,t,k1,k2,k3,k4⟩:=dw.ex;split at h
   ·rename_i ts j e;cases e;split at h
    ·rename_i k hk;cases o1 with
     |lst hh hr =>
      have hx:∃s,ts[k]?=some s:=⟨_,zk (MN hk)⟩;obtain⟨s,hs⟩:=hx;obtain⟨x,hx⟩:=hr.UU hs;refine .inl ⟨_,_,j,x,rfl,hw.int_inv,.of hh,?_,h x s H2 (s1.trans s2) ⟨v0,c,p,t,k1,k2,k3,k4.snoc (q:=[_]) (xs:=_) ⟨_,rfl,rfl,hh⟩ hx hs⟩⟩;unfold Jj;rw[hr.len,hk];exact hx
    ·exact h.elim
   ·rename_i ts j e;cases e;split at h
    ·rename_i k hk;cases o1 with
     |tup hh hr =>
      have hx:∃s,ts[k]?=some s:=⟨_,zk (MN hk)⟩;obtain⟨s,hs⟩:=hx;obtain⟨x,hx⟩:=hr.UU hs;refine .inr ⟨_,_,j,x,rfl,hw.int_inv,.of (Aj hh).2,?_,h x s H2 (s1.trans s2) ⟨v0,c,p,t,k1,k2,k3,k4.snoc (q:=[]) (xs:=_) ⟨_,rfl,rfl,hh⟩ hx hs⟩⟩;unfold Jj;rw[hr.len,hk];exact hx
    ·exact h.elim
   ·exact h.elim
noncomputable def Ue (i:Nat)(ρ:A5)(π:List Nat):M D:=match IU i ρ π with
 |some (.sh d)=>.ok d
 |_=>.bad
theorem A9.Ug {K:za}{P':Addr->Prop}{H':Hp}{π:List Nat}{v1:V}{t1 u:OT}{aq fu:List Addr}(E:A9 K P0 P H σ ρ)(pl:B4 K P H σ ρ i π v1 t1)(o:Bn K H P v1 t1 aq)(hs:∀a,P a->P' a)(ht:∀a,P' a->D7 H' a)(sm:A7 (del H P) (del H' P'))(keep:∀a,P a->a∉aq->H' a=H a)
 (o':Bn K H' P' v1 u fu) (nd:fu.Nodup) (hf:∀a∈fu,a∈aq\/(P' a/\¬ P0 a/\∀(j:Nat) c v fp,ρ[j]?=some (some c)->σ[j]?=some (some v)->BR K H P c v fp->a∉fp)):
 ∃c p t,ρ[i]?=some (some c)/\treeOf c=some (p,t)/\A9 K P0 P' H' σ (ρ.set i (some (toCl p (DC t π u))))/\Tr P0 P H P' H':=by
 obtain⟨v0,c,p,t,h1,h2,h3,h4⟩:=pl.ex;have io:Et c=true:=by cases c<;>first|rfl|cases h2
 obtain⟨w,fp,k1,k2,k3,k4⟩:=E.ows i c h1 io;rw[h3] at k1;cases k1;have ot:=k2.toT h2;obtain⟨fz,oz,kz,_⟩:=ot.part h4;have:=oz.BQ o;subst this;obtain⟨ah,q1,q2,q3⟩:=ot.put sm h4 o o' (λ a ha hn=>keep a (k3 a ha).1 hn) k4 nd (λ a ha hb=>(hf a ha).elim id λ z=>(z.2.2 i c v0 fp h1 h3 k2 hb).elim);refine⟨c,p,t,h1,h2,?_,sm,λ a ha=>keep a (E.sub a ha) λ z=>(k3 a (kz a z)).2 ha⟩;have key:=E.MC (P':=P') (H':=H') (i:=i) (v:=v0) (c:=toCl p (DC t π u)) (fp:=ah) hs ht sm (λ j c' v' fq af g1 g2 g3 a ha=>?_) (BR.toCl q1) (λ a ha=>?_) q2 (λ n z=>by rw[FE] at z;subst z;have:=E.pin i c n h1 (JD h2);rw[h3] at this;cases this;rfl)
 ·rw[Ew h3] at key;exact key
 ·have dz:a∉fp:=E.apart j i c' c v' v0 fq fp g1 h1 g2 h3 g3 k2 (Ne.symm af) a ha;have bK:Et c'=true:=by cases c'<;>first|rfl|exact g3.elim
  obtain⟨w',fr,m1,m2,m3,m4⟩:=E.ows j c' g1 bK;rw[g2] at m1;cases m1;have:=m2.BQ g3;subst this;refine⟨keep a (m3 a ha).1 λ z=>dz (kz a z),λ z=>?_⟩;rcases q3 a z with y|y
  ·rcases hf a y with x|x
   ·exact dz (kz a x)
   ·exact x.2.2 j c' v' fr g1 g2 g3 ha
  ·exact dz y.1
 ·rcases q3 a ha with y|y
  ·rcases hf a y with x|x
   ·exact⟨hs a (k3 a (kz a x)).1,(k3 a (kz a x)).2⟩
   ·exact⟨x.1,x.2.1⟩
  ·exact⟨hs a (k3 a y.1).1,(k3 a y.1).2⟩
theorem A9.Uh {K:za}{π:List Nat}{l:Addr}{xs ys:List V}{ts us:List OT}{fq fu:List Addr}(E:A9 K P0 P H σ ρ)(pl:B4 K P H σ ρ i π (.ref l) (.lst ts))(hH:H l=some (.lst xs))(o:Ai K H P xs ts fq)(o':Ai K H P ys us fu)(nd:fu.Nodup)(hl:l∉fu)
 (hf:∀a∈fu,a∈fq\/(P a/\¬ P0 a/\∀(j:Nat) c v fp,ρ[j]?=some (some c)->σ[j]?=some (some v)->BR K H P c v fp->a∉fp)):
 ∃c p t,ρ[i]?=some (some c)/\treeOf c=some (p,t)/\A9 K P0 P (upd H l (.lst ys)) σ (ρ.set i (some (toCl p (DC t π (.lst us)))))/\Tr P0 P H P (upd H l (.lst ys)):=by
 have ot:Bn K H P (.ref l) (.lst ts) (l::fq):=.lst hH o;obtain⟨aq,o1,hp,_⟩:=pl.own E;have:=o1.BQ ot;subst this;have pP:P l:=(hp l zd).1;have sd:del (upd H l (.lst ys)) P=del H P:=by
  funext b;by_cases hb:P b
  ·rw[Dz hb,Dz hb]
  ·rw[Ar hb,Ar hb,Ah (λ z=>hb (by rw[z];exact pP))]
 have sm:A7 (del H P) (del (upd H l (.lst ys)) P):=by rw[sd];exact A7.refl _
 refine E.Ug pl ot (λ _ h=>h) (λ a h=>?_) sm (λ a ha hn=>Ah λ z=>hn (by rw[z];exact zd)) (.lst AM (o'.move sm λ a ha=>Ah λ z=>hl (by rw[<-z];exact ha))) (yc.mpr ⟨hl,nd⟩) (λ a ha=>?_)
 ·by_cases ha:a=l
  ·subst ha;exact D7.lst AM
  ·unfold D7;rw[Ah ha];exact E.Bp a h
 ·rcases zm.mp ha with z|z
  ·exact .inl (by rw[z];exact zd)
  ·rcases hf a z with y|y
   ·exact .inl (ze _ y)
   ·exact .inr y
end
noncomputable def kd:D->Option Key
 | .int i=>some (.inl i)
 | .str x=>some (.inr x)
 |_=>none
noncomputable def RM:List D->Option (List Key)
 |[]=>some []
 |d::r=>match kd d,RM r with|some k,some ks=>some (k::ks)|_,_=>none
theorem Qd {d:D}{k:Key}(h:kd d=some k):d=Fn k:=by
 cases d<;>simp[kd] at h<;>subst h<;>rfl
theorem MW:∀ {ds:List D}{ks:List Key},RM ds=some ks->ds=ks.map Fn
 |[],ks,h=>by cases h;rfl
 |d::r,ks,h=>by
  rw[RM] at h;cases q:kd d with
  |none=>rw[q] at h;cases h
  |some k =>
   cases q2:RM r with
   |none=>rw[q,q2] at h;cases h
   |some gm =>
    rw[q,q2] at h;cases h;rw[zq,<-Qd q,<-MW q2]
inductive OX:Bool->D->Prop
 |k (κ:Key):OX false (Fn κ)
 |t (κ:List Key):OX true (.tup (κ.map Fn))
noncomputable def keyOk (b:Bool)(d:D):Bool:=match b,d with
 |false,d=>(kd d).isSome
 |true,.tup ds=>(RM ds).isSome
 |_,_=>false
theorem MX {b:Bool}{d:D}(h:keyOk b d=true):OX b d:=by
 cases b with
 |false =>
  obtain⟨k,hk⟩:=Option.isSome_iff_exists.mp (show (kd d).isSome=true from h);rw[Qd hk];exact .k k
 |true =>
  cases d with
  |tup ds =>
   obtain⟨k,hk⟩:=Option.isSome_iff_exists.mp (show (RM ds).isSome=true from h);rw[MW hk];exact .t k
  |_=>cases h
theorem MY (a b:Key):Ad (Fn a) (Fn b)=decide (a=b):=by
 cases a with
 |inl i =>
  cases b with
  |inl j=>simp only[Fn,Ad];rw[Bool.eq_iff_iff];simp
  |inr y=>simp[Fn,Ad]
 |inr x =>
  cases b with
  |inl j=>simp[Fn,Ad]
  |inr y=>simp only[Fn,Ad];rw[Bool.eq_iff_iff];simp
theorem Ko:∀a b:List Key,Bu (a.map Fn) (b.map Fn)=decide (a=b)
 |[],[]|[],_::_|_::_,[]=>by simp[Bu]
 |a::r,b::t=>by
  rw[zq,zq,Bu,MY,Ko r t,Bool.eq_iff_iff];simp
noncomputable def Gn {α:Type}:List D->List α->D->Option α
 |k::ks,v::vs,y=>if Ad k y=true then some v else Gn ks vs y
 |_,_,_=>none
noncomputable def Sy (ks:List D)(y:D):Bool:=ks.any λ k=>Ad k y
section
variable {κ:Type} [DecidableEq κ] {fk:κ->D}(hf:∀a b,Ad (fk a) (fk b)=decide (a=b))
include hf
theorem FF {α:Type}:∀(kvs:List (κ×α)) (k:κ),Gn (kvs.map λ kv=>fk kv.1) (kvs.map Prod.snd) (fk k)=(kvs.find? λ kv=>decide (kv.1=k)).map (·.2)
 |[],k=>rfl
 |p::r,k=>by
  rw[zq,zq,Gn,hf,yi];by_cases e:p.1=k
  ·rw[decide_eq_true e];rfl
  ·rw[decide_eq_false e];simp only[zC,if_false];exact FF r k
end
theorem IV {K:za}{H:Hp}:∀ {ks:List D}{xs:List V}{ds:List D}{y d:D},Aa K H xs ds->Gn ks ds y=some d->∃x,Gn ks xs y=some x/\B9 K H x d
 |[],_,_,_,_,_,e|_::_,_,_,_,_,.nil,e=>by simp[Gn] at e
 |k::ks,_,_,y,d,.cons h t,e=>by
  rw[Gn] at e ⊢;by_cases q:Ad k y=true
  ·rw[if_pos q] at e ⊢;cases e;exact⟨_,rfl,h⟩
  ·rw[if_neg q] at e ⊢;exact IV t e
section
variable {K:za}{H:Hp}{P:Addr->Prop}
theorem Aa.keys:∀ {xs:List V}(κ:List Key),Aa K H xs (κ.map Fn)->xs=κ.map kV
 |_,[],.nil=>rfl
 |_,k::r,.cons h t=>by
  rw[zq,<-Aa.keys r t];congr 1;cases k with
  |inl i=>exact h.int_inv
  |inr x=>cases h;rfl
theorem B9.Ui {y:V}{κ:Key}(h:B9 K H y (Fn κ)):y=kV κ:=by
 cases κ with
 |inl i=>exact h.int_inv
 |inr x=>cases h;rfl
theorem OY {v y:V}{b:Bool}{ks vs:List D}{k:D}(hv:B9 K (del H P) v (.Bc b ks vs))(hy:B9 K (del H P) y k)(hk:OX b k):∃a xs,v=.ref a/\Oo H a y (Gn ks xs k)/\Aa K (del H P) xs vs/\xs.length=ks.length:=by
 cases hv with
 |DY hh hl =>
  cases hk with
  |k κ =>
   refine⟨_,_,rfl,?_,hl,by simp⟩;rw[hy.Ui,FF MY];exact .inl ⟨_,κ,hh.Bs,rfl,rfl⟩
 |DZ hh hl =>
  cases hk with
  |t κ =>
   cases hy with
   |tup ht br =>
    have e:=Aa.keys κ br;subst e;refine⟨_,_,rfl,?_,hl,by simp⟩;rw[FF (fk:=λ κ:List Key=>D.tup (κ.map Fn)) (λ a b=>by simp only[Ad];exact Ko a b)];exact .inr ⟨_,κ,_,hh.Bs,rfl,(Aj ht).2,rfl⟩
end
section
variable {X:Cx}{WX:Str->Hp->Prop}{c:Bool}{P0:Cc}{P:Addr->Prop}{H:Hp}{σ:St}{ρ:A5}{a b e:Expr}{f g:A5->M D}{fn:A5->M OT}{fp:A5->M (List Nat)}{pos:Pos}{i:Nat}
noncomputable def Sz:R2:=λ x y H Q=>∃a v,x=.ref a/\Oo H a y (some v)/\Q v H
theorem OZ (hu:X.A.units+1<cLine):Oh X Sz:=by
 intro value slice pins s σ H x y v u Q I rx ry h hs;obtain⟨a,z,rfl,g,q⟩:=h;cases rx;have hT:=IC I g;have h₂:wpAny (model X.prog X.w) X.A (getItem (.ref a) u) (EP X pins σ Q) X.xe s:=L3 hu I g ry λ w' s3 I3 aQ=>⟨z,H,I3,aQ,q⟩;unfold subscriptTail;refine wpAny_bind ?_;rw[getitemInPython_of_ne hT.not_modules];refine wpAny_bind (wpAny_specialOf hT PySem.F.slot_dict_getitem.lookup ?_);have fin:wpAny (model X.prog X.w) X.A (subscripted slice false (.ref a) u) (λ r s₃=>wpAny (model X.prog X.w) X.A (letTemporaryGo value (.ref a) r >>= λ _=>pure r) (EP X pins σ Q) X.xe s₃) X.xe s:=by
  rw[hs];exact wpAny_operating (wpAny_mono h₂ (λ r s₃ h₃=>wpAny_bind (wpAny_letTemporaryGo (wpAny_pure h₃))) λ _ _ x=>x)
 first
  |exact wpAny_pure (wpAny_bind fin)
  |exact wpAny_bind (wpAny_pure (wpAny_bind fin))
  |exact wpAny_bind fin
noncomputable def Be (x y:D):M D:=match x with
 | .Bc b ks vs=>if keyOk b y=true then (match Gn ks vs y with|some d=>.ok d|none=>.bad) else .bad
 |x=>Sj x y
theorem P5:Mp X.K WX (λ x y H Q=>(QL X.K x y H Q\/QM X.K x y H Q)\/Sz x y H Q) Be:=by
 intro P H x y v w Q ht hx hy h;cases x with
 |Bc b ks vs =>
  simp only[Be] at h;by_cases hk:keyOk b y=true
  ·rw[if_pos hk] at h;obtain⟨a,xs,rfl,g,hl,_⟩:=OY hx hy (MX hk);split at h
   ·rename_i d e;obtain⟨u,e1,e2⟩:=IV hl e;rw[e1] at g;exact .inr ⟨a,u,rfl,g,h _ H (A7.refl H) e2⟩
   ·exact h.elim
  ·rw[if_neg hk] at h;exact h.elim
 |Av|bl b|int b|str b|tup b|lst b|BU b|ins b _ _=>exact .inl (CM P H _ y v w Q ht hx hy h)
theorem Al {n:Nat}(hu:X.A.units+n<cLine)(ha:DE X WX c a f)(hb:DE X WX c b g)(hs:EZ b:=by exact λ _ _=>rfl)(hn:1<=n:=by decide):DE X WX c (.Subscript a b pos) (λ ρ=>(f ρ).bind λ x=>(g ρ).bind λ y=>Be x y):=Sh ((Kd.or Mg).or (OZ (by omega))) P5 ha hb hs
noncomputable def SA (neg:Bool)(y x:D):M D:=match x with
 | .Bc b ks vs=>if keyOk b y=true then .ok (.bl (if neg=true then !Sy ks y else Sy ks y)) else .bad
 |x=>US neg y x
noncomputable def Cj:D->M Bool
 | .Av=>.ok false
 | .bl b=>.ok b
 | .int i=>.ok (i != 0)
 | .tup ds| .lst ds=>.ok (!ds.isEmpty)
 |_=>.bad
theorem Ec {K:za}{H:Hp}{xs:List V}{ds:List D}(h:Aa K H xs ds):(!ds.isEmpty) = !xs.isEmpty:=by cases h<;>rfl
theorem AQ (h:DE X WX c e f)(he:∀whole,isTrue e X.env whole=(do let v <-whole;standAt e.pos;holding [v] (truthy v)):=by intro _;rfl):DT X WX e (λ ρ=>(f ρ).bind Cj):=by
 obtain⟨t,h1,h2⟩:=h;refine⟨_,Ma h1 he,λ P0 P σ H Q ρ E h=>h2 P0 P σ H _ ρ E ?_⟩;dsimp only at h;cases q:f ρ with
 |bad|ex x=>rw[q] at h;exact h
 |ok d =>
  rw[q] at h;simp only[M.A6] at h;intro v H' s hv;cases hv with
  |Av=>exact⟨false,rfl,h H' s⟩
  |bl b=>exact⟨b,rfl,h H' s⟩
  |int i=>exact⟨_,rfl,h H' s⟩
  |tup hs hl=>exact⟨_,.inr (.inl ⟨_,Fc.of (Aj hs).2,rfl⟩),by rw[<-Ec hl];exact h H' s⟩
  |lst hs hl=>exact⟨_,.inl ⟨_,hs.Bs,rfl⟩,by rw[<-Ec hl];exact h H' s⟩
  |_=>exact h.elim
end
noncomputable def Kq (m:M (List D)):M OT:=match m with | .ok ys=>.ok (.lst (ys.map .sh)) | _=>.bad
section
variable {X:Cx}{WX:Str->Hp->Prop}{c:Bool}{P0:Cc}{P:Addr->Prop}{H:Hp}{σ:St}{ρ:A5}{a b e tg iter:Expr}{f g:A5->M D}{ft:A5->M Bool}{pos:Pos}{gt:D->A5->M A5}{fi:A5->M (List D)}{es:List Expr}{fs:A5->M (List D)}
theorem R6 {μ:List (Option Nat)}{wi:TI}{gg:TG}{tc:Shared->Hp->Addr->List Addr->TT}{te:Shared->Hp->Addr->List Addr->TE}{fe:A5->M D}
 (i2:∀P0 P σ H R ρ,A9 X.K P0 P H σ ρ->(match fi ρ with | .ok ds=>∀J H',A7 H H'->Sk X.K J P H' ds->R J H' | .ex x=>∀H',A7 H H'->WX x H' | .bad=>False)->wi σ H R)
 (g2:∀P0 P σ H Q ρ v d,A9 X.K P0 P H σ ρ->B9 X.K (del H P) v d->gG X.K P0 P H Q (gt d ρ)->gg v σ H Q)
 (t2:∀s H' C ex P0 P σ H Q ρ,A9 X.K P0 P H σ ρ->gT (λ _ _=>False) H Q (ft ρ)->tc s H' C ex σ H Q)
 (e2:∀s H' C ex P0 P σ H Q ρ,A9 X.K P0 P H σ ρ->gV X.K (λ _ _=>False) (Lv true P0 P) H Q (fe ρ)->te s H' C ex σ H Q) {Q:VK}
 (E:A9 X.K P0 P H σ ρ) (h:MQ X.K WX P H Q ((fi ρ).bind λ ds=>if ds.length<=1000 then Kq (Bt gt ft fe ds (Bo μ ρ)) else .bad)):Q4 wi μ gg tc te σ H Q:=by
 refine i2 P0 P σ H _ ρ E ?_;cases q:fi ρ with
 |bad|ex x=>rw[q] at h;exact h
 |ok ds =>
  rw[q] at h;simp only[M.A6] at h;by_cases hd:¬ ds.length<=1000
  ·rw[if_neg hd] at h;exact h.elim
  have hd:ds.length<=1000:=by omega
  rw[if_pos hd] at h;intro J H1 s1 ok s C ex;cases qc:Bt gt ft fe ds (Bo μ ρ) with
  |bad|ex x=>rw[qc] at h;exact h.elim
  |ok total =>
   rw[qc] at h;unfold Kq at h;dsimp only at h;have E1:=E.same s1;refine⟨λ i m ys H2=>m=ds.length-i/\i<=ds.length/\ys.length<=i/\A7 H1 H2/\∃es rest,Aa X.K (del H2 P) ys es/\Bt gt ft fe (ds.drop i) (Bo μ ρ)=.ok rest/\es++rest=total,
    ⟨ds.length,by simp,zW _,zp _,A7.refl _,[],total,.nil,by rw[ym];exact qc,rfl⟩,?_⟩
   rintro i m ys H2 ⟨rfl,hi,hy,s2,es,rest,d0,aj,bg⟩;by_cases am:i<ds.length
   ·refine .inr ⟨ok.go i P H2 s2.del am,Nat.lt_of_le_of_lt hy (AU (by omega)),λ aN H'=>i+1<=ds.length/\aN.length<=i+1/\A7 H1 H'/\∃es rest,Aa X.K (del H' P) aN es/\Bt gt ft fe (ds.drop (i+1)) (Bo μ ρ)=.ok rest/\es++rest=total,λ aN H' hq=>⟨ds.length-(i+1),by omega,rfl,hq.1,hq.2.1,hq.2.2.1,hq.2.2.2⟩,λ v H3 y=>?_⟩;have E2:=E1.same s2;obtain⟨s3,hv⟩:=ok.Qx i P H2 v H3 ds[i] s2.del E2.Bp (zk am) y;rw[CN am,Bt] at aj;have E3:=(E2.same s3).block μ;refine g2 P0 P _ H3 _ (Bo μ ρ) v ds[i] E3 hv ?_;cases q1:gt ds[i] (Bo μ ρ) with
    |bad|ex x=>rw[q1] at aj;cases aj
    |ok ρ1 =>
     rw[q1] at aj;dsimp only at aj;intro σ4 E4;refine t2 s H1 C ex P0 P σ4 H3 _ ρ1 E4 ?_;cases q2:ft ρ1 with
     |bad|ex x=>rw[q2] at aj;cases aj
     |ok k =>
      rw[q2] at aj;dsimp only at aj;intro H5 s5;cases k with
      |false =>
       simp only[zC,if_false] at aj ⊢;exact⟨am,by omega,(s2.trans s3).trans s5,es,rest,(d0.mono s3.del).mono s5.del,aj,bg⟩
      |true =>
       simp only[if_true] at aj ⊢;refine e2 s H1 C ex P0 P σ4 H5 _ ρ1 (E4.same s5) ?_;cases q3:fe ρ1 with
       |bad|ex x=>rw[q3] at aj;cases aj
       |ok y' =>
        rw[q3] at aj;dsimp only at aj;cases q4:Bt gt ft fe (ds.drop (i+1)) (Bo μ ρ) with
        |bad|ex x=>rw[q4] at aj;cases aj
        |ok fy =>
         rw[q4] at aj;cases aj;intro w H6 s6 hw;refine⟨am,by rw[zM,List.length_singleton];omega,((s2.trans s3).trans s5).trans s6,es++[y'],fy,(((d0.mono s3.del).mono s5.del).mono s6.del).snoc hw,rfl,?_⟩;rw[yd];exact bg
   ·have e:i=ds.length:=by omega
    subst e;rw[List.drop_length,Bt] at aj;cases aj;rw[List.append_nil] at bg;subst bg;exact .inl ⟨ok.stop _ P H2 s2.del (zp _),λ D0 hn=>h.FD (s1.trans s2) d0 D0 hn⟩
theorem Di {scope:Scope}{NB:List Str}{ifs:List Expr}{elt:Expr}{fe:A5->M D}(μ:List (Option Nat))(hc:X.calm=true)(hi:DI X WX tg iter fi)(av:Fh scope X.env.scope=true)(bf:L4 X.N NB scope μ=true)(hg:UP X scope NB μ tg gt)
 (ht:∀s H C ex,UQ (blockOf X s H scope C NB ex) ifs ft) (he:∀s H C ex,DE (blockOf X s H scope C NB ex) (λ _ _=>False) true elt fe) (hs:∀x,foldedSetIterable iter X.env x=pure x:=by intro _;rfl):
 DN X WX (.ListComp elt [⟨tg,iter,ifs,0⟩] scope pos) (λ ρ=>(fi ρ).bind λ ds=>if ds.length<=1000 then Kq (Bt gt ft fe ds (Bo μ ρ)) else .bad):=by
 obtain⟨wi,i1,i2⟩:=hi;obtain⟨gg,g1,gk,g2⟩:=hg;refine⟨_,Ov hc i1 av bf gk (λ s H C ex=>⟨g1 s H C ex,(zc (ht s H C ex)).1,(zc (he s H C ex)).1⟩) hs,λ P0 P σ H Q ρ E h=>?_⟩;exact R6 i2 g2 (λ s H' C ex P0 P σ H Q ρ E h=>(zc (ht s H' C ex)).2 P0 P σ H Q ρ E h) (λ s H' C ex P0 P σ H Q ρ E h=>(zc (he s H' C ex)).2 P0 P σ H Q ρ E h) E h
end
section
variable {X:Cx}{WX:Str->Hp->Prop}{c:Bool}{P0:Cc}{P:Addr->Prop}{H:Hp}{σ:St}{ρ:A5}{a b e:Expr}{f g:A5->M D}{fn:A5->M OT}{fp:A5->M (List Nat)}{pos:Pos}{i:Nat}{es:List Expr}{fs:A5->M (List D)}
theorem A9.new {K:za}{P':Addr->Prop}{H':Hp}(E:A9 K P0 P H σ ρ)(s:A7 H H')(sm:A7 (del H P) (del H' P')){a:Addr}(hn:H a=none):∀(j:Nat) c v fq,ρ[j]?=some (some c)->σ[j]?=some (some v)->BR K H' P' c v fq->a∉fq:=λ j c v fq h1 h2 h3 ha=>by
 have io:Et c=true:=by cases c<;>first|rfl|exact h3.elim
 obtain⟨w,fr,k1,k2,k3,k4⟩:=E.ows j c h1 io;rw[h2] at k1;cases k1;have m:=k2.move sm λ b hb=>by obtain⟨o,q⟩:=k2.at b hb;rw[q];exact s _ _ q
 rw[h3.BQ m] at ha;obtain⟨o,q⟩:=k2.at a ha;rw[hn] at q;cases q
end
noncomputable def Ez (i:Nat)(ρ:A5)(π:List Nat)(u:OT):M Out:=match ρ[i]? with
 |some (some c)=>(match treeOf c with|some (p,t)=>.ok (.next (ρ.set i (some (toCl p (DC t π u)))))|none=>.bad)
 |_=>.bad
noncomputable def BJ (i:Nat)(ρ:A5)(π:List Nat):M (List OT):=match IU i ρ π with | some (.lst ts)=>.ok ts | _=>.bad
theorem Kr {i:Nat}{ρ:A5}{π:List Nat}{u:OT}{c:Cl}{p:Option Nat}{t:OT}(h:ρ[i]?=some (some c))(ht:treeOf c=some (p,t)):Ez i ρ π u=.ok (.next (ρ.set i (some (toCl p (DC t π u))))):=by
 unfold Ez;simp only[h,ht]
theorem Ai.append {K:za}{H:Hp}{P:Addr->Prop}:∀ {xs ys:List V}{ts us:List OT}{fp fq:List Addr},Ai K H P xs ts fp->Ai K H P ys us fq->Ai K H P (xs++ys) (ts++us) (fp++fq)
 |_,_,_,_,_,_,.nil,h=>h
 |_,_,_,_,_,_,.cons a t,h=>by rw[yd];exact .cons a (t.append h)
section
variable {X:Cx}{WX:Str->Hp->Prop}{c:Bool}{P0:Cc}{P:Addr->Prop}{H:Hp}{σ:St}{ρ:A5}{a b e:Expr}{f g:A5->M D}{fn:A5->M OT}{fp:A5->M (List Nat)}{pos:Pos}{i:Nat}{es:List Expr}{fs:A5->M (List D)}
theorem B4.lst {K:za}{π:List Nat}{v:V}{t1:OT}{ts:List OT}(pl:B4 K P H σ ρ i π v t1)(E:A9 K P0 P H σ ρ)(h:BJ i ρ π=.ok ts):t1=.lst ts/\∃l xs fq,v=.ref l/\H l=some (.lst xs)/\Ai K H P xs ts fq/\l∉fq/\fq.Nodup:=by
 unfold BJ at h;rw[pl.at] at h;split at h
 ·rename_i gp e;cases e;cases h;obtain⟨aq,o1,hp,nd⟩:=pl.own E;cases o1 with
  |lst hh hr=>exact⟨rfl,_,_,_,rfl,hh,hr,(yc.mp nd).1,(yc.mp nd).2⟩
 ·cases h
theorem R7 (ha:DP X WX a i fp)(he:DN X WX e fn){apos ad:Pos}(hs:starEach [e] X.env=[(false,eval e X.env)]:=by rfl)
 (dl:swapsWith (.Call (.Attribute a "append" apos) [e] [] ad) none pos.line X.env=pure false:=by rfl)
 (ak:attributeBase a "append" X.env (eval a X.env)=eval a X.env:=by rfl)
 (ax:((backTo ad (starEach [e] X.env)).all (λ x => !x.1)&&(backToKw ad (keywordEach [] X.env)).all (λ x=>x.1.isSome)&&decide (([e]:List Expr).length+([]:List Keyword).length+(if ([]:List Keyword).isEmpty then 0 else 1)<30))=true:=by rfl)
 (al:(apos.endLine==ad.line)=true:=by rfl) (ag:(backTo ad (starEach [] X.env)).any (·.1)=false:=by rfl):
 DS X WX (.Expr (.Call (.Attribute a "append" apos) [e] [] ad) pos) (λ ρ=>(fp ρ).bind λ π=>(BJ i ρ π).bind λ ts=>(fn ρ).bind λ t=>if ts.length<1000 then Ez i ρ π (.lst (ts++[t])) else .bad):=by
 obtain⟨ta,a1,a2⟩:=ha;obtain⟨te,e1,e2⟩:=he;refine⟨_,K8 (Ke PySem.F.plainAttrs_list PySem.F.slot_list_append PySem.F.type_list_append GJ a1 (Bl e1 Ce hs) ak ax al hs ag) dl,λ P0 P σ H Z ρ E h=>?_⟩;dsimp only at h;refine a2 P0 P σ H _ ρ E ?_;cases q:fp ρ with
 |bad=>rw[q] at h;exact h
 |ex x=>rw[q] at h;exact λ H' s=>h H' P (E.tr s)
 |ok π =>
  rw[q] at h;simp only[M.A6] at h;intro v t1 H1 s1 pl;have E1:=E.same s1;cases q1:BJ i ρ π with
  |bad=>rw[q1] at h;exact h.elim
  |ex x=>unfold BJ at q1;split at q1<;>cases q1
  |ok ts =>
   rw[q1] at h;simp only[M.A6] at h;obtain⟨rfl,l,xs,fq,rfl,hl,ol,nl,f8⟩:=pl.lst E1 q1;refine⟨.inl ⟨rfl,xs,.of hl⟩,e2 P0 P σ H1 _ ρ E1 ?_⟩;cases q2:fn ρ with
   |bad=>rw[q2] at h;exact h
   |ex y=>rw[q2] at h;exact λ H' s=>h H' P ((E.tr s1).trans (E1.tr s))
   |ok t =>
    rw[q2] at h;simp only[M.A6] at h;by_cases hz:ts.length<1000
    ·rw[if_pos hz] at h;intro w fw H2 s2 n2 aM o2;have sm:=Dg (P:=P) s2 n2;have E2:A9 X.K P0 (PU P fw) H2 σ ρ:=E1.more s2 HF (HG (E1.same s2).Bp o2) sm;have keep:∀b∈fq,H2 b=H1 b:=λ b hb=>by obtain⟨o,z,_⟩:=ol.Bp b hb;rw[z];exact s2 _ _ z
     have en:=ol.move sm keep;have br:=s2 _ _ hl;have dj:∀b∈fq,b∉fw:=λ b hb hc=>(ol.Bp b hb).no (n2 b hc);obtain⟨c,p,t0,g1,g2,E3,t3⟩:=E2.Uh (pl.more sm s2) br en (us:=ts++[t]) (ys:=xs++[w]) (en.append (.cons o2 .nil)) (by rw[List.append_nil];exact zA.mpr ⟨f8,aM,λ b hb d hd z=>dj b hb (by rw[z];exact hd)⟩) (by
      rw[List.append_nil];intro z;rcases zx.mp z with z|z
      ·exact nl z
      ·rw[n2 l z] at hl;cases hl) (by
      intro b hb;rw[List.append_nil] at hb;rcases zx.mp hb with z|z
      ·exact .inl z
      ·exact .inr ⟨.inr z,λ y=>(E1.Bp b (E1.sub b y)).no (n2 b z),E1.new s2 sm (n2 b z)⟩)
     rw[Kr g1 g2] at h;exact⟨l,xs,w,rfl,rfl,br,AU (by rw[ol.len];exact ye hz),h _ _ _ (((E.tr s1).trans (E1.Ud s2 n2)).trans t3) E3⟩
    ·rw[if_neg hz] at h;exact h.elim
noncomputable def R8 {α:Type}(o:Option α):M α:=match o with | some x=>.ok x | none=>.bad
noncomputable def Qe (i:Nat)(ρ:A5)(π:List Nat):M (List D):=match IU i ρ π with | some (.lst ts)=>(match BW ts with | some ds=>.ok ds | none=>.bad) | _=>.bad
noncomputable def SD (t:OT):M (List D):=match t with | .lst us=>R8 (BW us) | _=>.bad
end
noncomputable def H9 (i:Nat)(ρ:A5)(π:List Nat):M (Bool×List D×List D):=match IU i ρ π with
 |some (.Bc b ks ts)=>(match BW ts with|some vs=>.ok (b,ks,vs)|none=>.bad)
 |_=>.bad
noncomputable def AJ (n:Nat)(ρ:A5):Bool:=ρ.all λ o=>match o with | some c => !(E6 c==some n) | none=>true
theorem IW {n:Nat}{ρ:A5}(h:AJ n ρ=true){j:Nat}{c:Cl}(e:ρ[j]?=some (some c)):E6 c≠some n:=λ z=>by
 have:=List.all_eq_true.mp h (some c) (zi e);simp[z] at this
section
variable {X:Cx}{E:XK}{WX:Str->Hp->Prop}{c:Bool}{P0:Cc}{P:Addr->Prop}{H:Hp}{σ:St}{ρ:A5}{a b e tg:Expr}{f g:A5->M D}{gt:D->A5->M A5}{gb:A5->M Out}{pos:Pos}{i n:Nat}
theorem A9.tok {K:za}{G:Nat->Addr}(E:A9 K P0 P H σ ρ)(h:∀(j:Nat) c m,ρ[j]?=some (some c)->E6 c=some m->G m=P0.g m):A9 K ⟨P0.pr,G⟩ P H σ ρ:=
 ⟨E.sub,E.Bp,E.val,E.ows,E.apart,E.len,λ j c m h1 h2=>by rw[E.pin j c m h1 h2,<-h j c m h1 h2]⟩
end
section
variable {X:Cx}{WX:Str->Hp->Prop}{c:Bool}{P0:Cc}{P:Addr->Prop}{H:Hp}{σ:St}{ρ:A5}{a b e:Expr}{f g:A5->M D}{fn:A5->M OT}{pos:Pos}{te:TE}
noncomputable def SE (ds:List D):M D:=match ds with
 |[.lst xs]=>(match IL xs with|some ns=>.ok (.int ns.sum)|none=>.bad)
 |_=>.bad
noncomputable def NV (lo hi:Option Int)(d:D):M OT:=match d with
 | .lst ds=>.ok (.lst (((ds.drop (HT.Fg ds.length 0 lo)).take (HT.Fg ds.length ds.length hi-HT.Fg ds.length 0 lo)).map .sh))
 |_=>.bad
theorem FG {lo hi:Option Expr}{d3 fh:A5->M (Option Int)}{p2:Pos}(ha:DE X WX true e f)(hl:DO X WX true lo d3)(hh:DO X WX true hi fh):DN X WX (.Subscript e (.Slice lo hi none p2) pos) (λ ρ=>(f ρ).bind λ d=>(d3 ρ).bind λ l=>(fh ρ).bind λ u=>NV l u d):=by
 obtain⟨ta,a1,a2⟩:=ha;obtain⟨tl,l1,l2⟩:=hl;obtain⟨th,h1,h2⟩:=hh;refine⟨_,Md Oi a1 l1 h1,λ P0 P σ H Q ρ E h=>?_⟩;dsimp only at h;refine a2 P0 P σ H _ ρ E ?_;cases q:f ρ with
 |bad|ex x=>rw[q] at h;exact h
 |ok d =>
  rw[q] at h;intro v H1 s1 hv;refine l2 P0 P σ H1 _ ρ (E.same s1) ?_;cases q2:d3 ρ with
  |bad=>rw[q2] at h;exact h
  |ex y=>rw[q2] at h;exact λ H' s=>h H' (s1.trans s)
  |ok l =>
   rw[q2] at h;intro H2 s2;refine h2 P0 P σ H2 _ ρ ((E.same s1).same s2) ?_;cases q3:fh ρ with
   |bad=>rw[q3] at h;exact h
   |ex y=>rw[q3] at h;exact λ H' s=>h H' ((s1.trans s2).trans s)
   |ok u =>
    rw[q3] at h;simp only[M.A6] at h;intro H3 s3;unfold NV at h;split at h
    ·cases hv with
     |lst hs hl =>
      refine⟨_,_,rfl,(s3.seq (s2.seq hs.Bs)),λ p hp=>h.FD ((s1.trans s2).trans s3) ?_ p hp⟩;unfold Me;rw[hl.length];exact ((((hl.drop _).take _).mono s2.del).mono s3.del)
    ·exact h.elim
theorem MZ:UW X.K WX (Qc X.K) IS:=by
 intro P H x y v w Q ht hx hy h;unfold IS at h;split at h
 ·rename_i ds es;by_cases hl:ds.length+es.length<=1000
  ·rw[if_pos hl] at h;cases hx with
   |lst h1 h2 =>
    cases hy with
    |lst h3 h4=>exact⟨_,_,_,_,rfl,rfl,h1.Bs,h3.Bs,ye (AU (by rw[h2.length,h4.length];exact hl)),h.FD (A7.refl _) (h2.UR h4)⟩
  ·rw[if_neg hl] at h;exact h.elim
 ·exact h.elim
theorem P6 (ha:DE X WX true a f)(hb:DE X WX true b g):DN X WX (.BinOp a .Add b pos) (λ ρ=>(f ρ).bind λ x=>(g ρ).bind λ y=>IS x y):=by
 obtain⟨ta,a1,a2⟩:=ha;obtain⟨tb,b1,b2⟩:=hb;exact⟨_,PX OK a1 b1,λ P0 P σ H Q ρ E h=>Sv a2 b2 MZ E h⟩
variable {cf:List D->A5->M A5}{gt:D->A5->M A5}{es:List Expr}
end
theorem IX (K:za)(d:D):yj K (.type (OC d)) (.type "str")=some (BH "str" d):=by cases d<;>rfl
def WP (m:M Out)(nx:A5->Prop)(rt:Out->Prop)(ex:Str->Prop):Prop:=match m with
 | .ok (.next ρ)=>nx ρ
 | .ok o=>rt o
 | .ex x=>ex x
 | .bad=>False
section
variable {nx:A5->Prop}{rt:Out->Prop}{ex:Str->Prop}{m:M Out}{k:A5->M Out}{ρ ρ':A5}
theorem Ks (h:m=.ok (.next ρ'))(hn:nx ρ'):WP m nx rt ex:=by rw[h];exact hn
theorem WP.mono {eo:A5->Prop}{eu:Out->Prop}{cI:Str->Prop}(h:WP m nx rt ex)(h1:∀ρ,nx ρ->eo ρ)(h2:∀o,rt o->eu o)(h3:∀x,ex x->cI x):WP m eo eu cI:=by
 cases m with
 |bad=>exact h
 |ex x=>exact h3 x h
 |ok o =>
  cases o with
  |next ρ=>exact h1 ρ h
  |ret d|brk d|cont d|B3 d|Dm d ρ=>exact h2 _ h
theorem wp_seq (h:WP m (λ ρ=>WP (k ρ) nx rt ex) rt ex):WP (MA m k) nx rt ex:=by
 cases m with
 |bad|ex x=>exact h
 |ok o =>
  cases o with
  |next ρ|ret d|brk d|cont d|B3 d|Dm d ρ=>exact h
theorem wp_step (h:m=.ok (.next ρ'))(hk:WP (k ρ') nx rt ex):WP (MA m k) nx rt ex:=by rw[h];exact hk
theorem JH {I:A5->Prop}(h:WP m I rt ex)(hk:∀ρ,I ρ->WP (k ρ) nx rt ex):WP (MA m k) nx rt ex:=wp_seq (h.mono hk (λ _ h=>h) λ _ h=>h)
def inLoop (I:A5->Prop)(nx:A5->Prop)(rt:Out->Prop)(o:Out):Prop:=match o with
 | .cont ρ=>I ρ
 | .brk ρ=>nx ρ
 |o=>rt o
theorem N0 {gt:D->A5->M A5}{gb:A5->M Out}{ds:List D}(I:Nat->A5->Prop)(h0:I 0 ρ)
 (step:∀i d ρ,ds[i]?=some d->I i ρ->∃ρ1,gt d ρ=.ok ρ1/\WP (gb ρ1) (I (i+1)) (inLoop (I (i+1)) nx rt) ex) (done:∀ρ,I ds.length ρ->nx ρ):WP (forM gt gb ds ρ) nx rt ex:=by
 have key:∀(n i:Nat) (ρ:A5),i+n=ds.length->I i ρ->WP (forM gt gb (ds.drop i) ρ) nx rt ex:=by
  intro n;induction n with
  |zero =>
   intro i ρ hi h;have e:i=ds.length:=by omega
   subst e;rw[List.drop_length,forM];exact done ρ h
  |succ n ih =>
   intro i ρ hi h;have am:i<ds.length:=by omega
   obtain⟨ρ1,h1,h2⟩:=step i ds[i] ρ (zk am) h;rw[CN am,forM,h1];dsimp only;cases q:gb ρ1 with
   |bad|ex x=>rw[q] at h2;exact h2
   |ok o =>
    rw[q] at h2;cases o with
    |next ρ2=>exact ih (i+1) ρ2 (by omega) h2
    |ret d|B3 d|Dm d ρ2=>exact h2
    |cont ρ2=>exact ih (i+1) ρ2 (by omega) h2
    |brk ρ2=>exact h2
 have:=key ds.length 0 ρ (by omega) h0;rw[ym] at this;exact this
def UX (Q:OT->Prop)(o:Out):Prop:=match o with
 | .ret d=>Q (.sh d)
 | .B3 c=>∃t,Sw c=.ok t/\Q t
 |_=>False
theorem Qf {Q:OT->Prop}(h:WP m (λ _=>Q (.sh .Av)) (UX Q) (λ _=>False)):∃t,OS m=.ok t/\Q t:=by
 cases m with
 |bad|ex x=>exact h.elim
 |ok o =>
  cases o with
  |next ρ|ret d=>exact⟨_,rfl,h⟩
  |B3 c=>exact h
  |Dm c ρ|brk ρ|cont ρ=>exact h.elim
theorem B1 {t:OT}(h:WP m (λ _=>OT.sh .Av=t) (UX (·=t)) (λ _=>False)):OS m=.ok t:=by
 obtain⟨u,h1,h2⟩:=Qf (Q:=(·=t)) h;rw[h1,h2]
def UY (Q:D->Prop)(o:Out):Prop:=match o with
 | .ret d=>Q d
 | .B3 c=>∃t,U8 c=.ok t/\Q t
 |_=>False
theorem SF {Q:D->Prop}(h:WP m (λ _=>Q .Av) (UY Q) (λ _=>False)):∃t,fin m=.ok t/\Q t:=by
 cases m with
 |bad|ex x=>exact h.elim
 |ok o =>
  cases o with
  |next ρ|ret d=>exact⟨_,rfl,h⟩
  |B3 c=>exact h
  |Dm c ρ|brk ρ|cont ρ=>exact h.elim
theorem SG {d:D}(h:WP m (λ _=>D.Av=d) (UY (·=d)) (λ _=>False)):fin m=.ok d:=by
 obtain⟨u,h1,h2⟩:=SF (Q:=(·=d)) h;rw[h1,h2]
end
section
variable {d:D}{ds es:List D}{ρ ρ':A5}{o:Option Cl}{i n:Nat}{p:Option Nat}{t u:OT}{π:List Nat}{b:Bool}{ks vs:List D}{ts:List OT}{m:M D}
theorem Vj:rv 0 (some (.val d)::ρ)=.ok d:=rfl
theorem Vk:rv (i+1) (o::ρ)=rv i ρ:=rfl
noncomputable def IY (f:A5->A5)(m:M Out):M Out:=match m with
 | .ok (.next ρ)=>.ok (.next (f ρ))
 |m=>m
theorem N1 {f:A5->A5}:IY f (.ok (.next ρ))=.ok (.next (f ρ)):=rfl
theorem N2:Gm 0 (some (.own ds)::ρ)=.ok []:=rfl
theorem N3:Gm 0 (some (.ow (.EU n ds))::ρ)=.ok []:=rfl
theorem Lg:Gm 0 (some (.ow (.tree p t))::ρ)=.ok []:=by unfold Gm IU;simp[treeOf]
theorem SH:Gm (i+1) (o::ρ)=Gm i ρ:=rfl
theorem Kt:IU 0 (some (.own ds)::ρ) π=Ea (.lst (ds.map .sh)) π:=rfl
theorem Ku:IU 0 (some (.ow (.EU n ds))::ρ) π=Ea (.lst (ds.map .sh)) π:=rfl
theorem FH:IU 0 (some (.ow (.tree p t))::ρ) π=Ea t π:=rfl
theorem P7:Qe 0 (some (.own ds)::ρ) []=.ok ds:=by unfold Qe;simp[Kt,AX]
theorem P8:Qe 0 (some (.ow (.EU n ds))::ρ) []=.ok ds:=by unfold Qe;simp[Ku,AX]
theorem N4:Qe 0 (some (.ow (.tree p (.lst (ds.map .sh))))::ρ) []=.ok ds:=by unfold Qe;simp[FH,AX]
theorem Uj:Qe (i+1) (o::ρ) π=Qe i ρ π:=rfl
theorem Lh:BJ 0 (some (.own ds)::ρ) []=.ok (ds.map .sh):=by unfold BJ;simp[Kt]
theorem Li:BJ 0 (some (.ow (.EU n ds))::ρ) []=.ok (ds.map .sh):=by unfold BJ;simp[Ku]
theorem JI:BJ 0 (some (.ow (.tree p (.lst ts)))::ρ) []=.ok ts:=by unfold BJ;simp[FH]
theorem R9:BJ (i+1) (o::ρ) π=BJ i ρ π:=rfl
theorem DF:H9 0 (some (.ow (.tree p (.Bc b ks (vs.map .sh))))::ρ) []=.ok (b,ks,vs):=by unfold H9;simp[FH,AX]
theorem Ra:H9 (i+1) (o::ρ) π=H9 i ρ π:=rfl
theorem N5:Ez 0 (some (.own ds)::ρ) [] u=.ok (.next (some (toCl none u)::ρ)):=by unfold Ez;simp[treeOf]
theorem N6:Ez 0 (some (.ow (.EU n ds))::ρ) [] u=.ok (.next (some (toCl (some n) u)::ρ)):=by unfold Ez;simp[treeOf]
theorem Lj:Ez 0 (some (.ow (.tree p t))::ρ) π u=.ok (.next (some (toCl p (DC t π u))::ρ)):=by unfold Ez;simp[treeOf]
theorem SI:Ez (i+1) (o::ρ) π u=IY (o::·) (Ez i ρ π u):=by
 unfold Ez IY;simp only[List.getElem?_cons_succ,zP];split
 ·rename_i c e;split<;>simp_all
 ·simp_all
theorem N7:L8 0 (some (.own ds)::ρ) (.ok d)=if ds.length<1000 then .ok (.next (some (.own (ds++[d]))::ρ)) else .bad:=rfl
theorem SJ:L8 (i+1) (o::ρ) m=IY (o::·) (L8 i ρ m):=by
 unfold L8;rw[List.getElem?_cons_succ];cases q:ρ[i]? with
 |none=>rfl
 |some oo =>
  cases oo with
  |none=>rfl
  |some c =>
   cases c with
   |own ds =>
    cases m with
    |ok d =>
     simp only[M.A6,zP];by_cases h:ds.length<1000
     ·rw[if_pos h,if_pos h];rfl
     ·rw[if_neg h,if_neg h];rfl
    |ex x|bad=>rfl
   |val d|ow w=>rfl
theorem N8 {j:Int}:OO 0 (some (.own ds)::ρ) (.ok (.int j)) (.ok d)=if 0<=j/\j.toNat<=ds.length/\ds.length<1000 then .ok (.next (some (.own (ds.take j.toNat++d::ds.drop j.toNat))::ρ)) else .bad:=rfl
theorem SK {m2:M D}:OO (i+1) (o::ρ) m m2=IY (o::·) (OO i ρ m m2):=by
 unfold OO;rw[List.getElem?_cons_succ];cases q:ρ[i]? with
 |none=>rfl
 |some oo =>
  cases oo with
  |none=>rfl
  |some c =>
   cases c with
   |own ds =>
    cases m with
    |ok d =>
     cases m2 with
     |ok d2 =>
      simp only[M.A6,zP];cases d with
      |int j =>
       dsimp only;by_cases h:0<=j/\j.toNat<=ds.length/\ds.length<1000
       ·rw[if_pos h,if_pos h];rfl
       ·rw[if_neg h,if_neg h];rfl
      |_=>rfl
     |ex x|bad=>rfl
    |ex x|bad=>rfl
   |val d|ow w=>rfl
theorem N9:JF 0 (some (.val d)::ρ)=.ok (.ret d):=rfl
theorem Na:JF 0 (some (.own ds)::ρ)=.ok (.B3 (.own ds)):=rfl
theorem P9 {w:Ow}:JF 0 (some (.ow w)::ρ)=.ok (.B3 (.ow w)):=rfl
theorem SM:JF (i+1) (o::ρ)=JF i ρ:=rfl
theorem UZ:Ue i ρ π=match IU i ρ π with | some (.sh d)=>.ok d | _=>.bad:=rfl
theorem Uk:IT (i+1) (o::ρ)=o::IT i ρ:=by
 unfold IT;simp only[List.getElem?_cons_succ,zP];split<;>simp_all
theorem Ul {c:Cl}:IT 0 (some c::ρ)=some (Eb c)::ρ:=rfl
theorem Nb:Eb (.val d)=.val d:=rfl
theorem Nc:Eb (.own ds)=.val (.lst ds):=rfl
theorem Nd:Eb (.ow (.EU n ds))=.val (.lst ds):=rfl
theorem Pa:Eb (.ow (.tree p t))=.val (er t):=rfl
theorem HI:er (.Bc b ks (vs.map .sh))=.Bc b ks vs:=by rw[er,Ey]
theorem Nf:er (.lst (ds.map .sh))=.lst ds:=by rw[er,Ey]
theorem Qg:er (.sh d)=d:=rfl
theorem Vl {l:List (Option Nat)}:Bo (none::l) ρ=none::Bo l ρ:=rfl
theorem Vm:Bo [] ρ=[]:=rfl
theorem Um {l:List (Option Nat)}:Bo (some i::l) ρ=(match ρ[i]? with | some (some (.val d))=>some (.val d) | _=>none)::Bo l ρ:=rfl
theorem Uo {α:Type}{x y:α}:(if ([]:List D).length<=1000 then x else y)=x:=if_pos (by show 0<=1000;decide)
theorem Up {α:Type}{x y:α}{a:D}:(if [a].length<=1000 then x else y)=x:=if_pos (by show 1<=1000;decide)
theorem Uq {α:Type}{x y:α}{a b:D}:(if [a,b].length<=1000 then x else y)=x:=if_pos (by show 2<=1000;decide)
theorem Ur {α:Type}{x y:α}{a b c:D}:(if [a,b,c].length<=1000 then x else y)=x:=if_pos (by show 3<=1000;decide)
theorem Us {α:Type}{x y:α}{a b c d:D}:(if [a,b,c,d].length<=1000 then x else y)=x:=if_pos (by show 4<=1000;decide)
theorem toCl_nil:toCl none (.lst [])=.own []:=rfl
theorem FI {α:Type}{gt:D->A5->M A5}{ft:A5->M Bool}{fe:A5->M D}{g:α->D}(p:α->Bool)(f:α->D):∀ {l:List α},(∀x∈l,∃ρ1,gt (g x) ρ=.ok ρ1/\ft ρ1=.ok (p x)/\(p x=true->fe ρ1=.ok (f x)))->Bt gt ft fe (l.map g) ρ=.ok ((l.filter p).map f)
 |[],_=>rfl
 |x::r,h=>by
  obtain⟨ρ1,h1,h2,h3⟩:=h x zd;have ih:=FI (gt:=gt) (ft:=ft) (fe:=fe) (g:=g) p f (l:=r) λ y hy=>h y (ze _ hy);rw[zq,Bt,h1];dsimp only;rw[h2];dsimp only;rw[List.filter_cons];cases hp:p x with
  |true =>
   rw[if_pos rfl,h3 hp];dsimp only;rw[ih];simp
  |false=>simp[ih]
theorem Ck {α:Type}{gt:D->A5->M A5}{ft:A5->M Bool}{fe:A5->M D}{g:α->D}(f:α->D){l:List α}(h:∀x∈l,∃ρ1,gt (g x) ρ=.ok ρ1/\ft ρ1=.ok true/\fe ρ1=.ok (f x)):Bt gt ft fe (l.map g) ρ=.ok (l.map f):=by
 have:=FI (gt:=gt) (ft:=ft) (fe:=fe) (ρ:=ρ) (g:=g) (λ _=>true) f (l:=l) λ x hx=>by
  obtain⟨ρ1,h1,h2,h3⟩:=h x hx;exact⟨ρ1,h1,h2,λ _=>h3⟩
 rw[this,List.filter_eq_self.mpr (λ _ _=>rfl)]
theorem FJ {α:Type}{g:α->D}{l:List α}{i:Nat}{d:D}(h:(l.map g)[i]?=some d):∃x,l[i]?=some x/\d=g x:=by
 rw[zH] at h;cases q:l[i]? with
 |none=>rw[q] at h;cases h
 |some x=>rw[q] at h;cases h;exact⟨x,rfl,rfl⟩
theorem Rb:SD (.lst (ds.map .sh))=.ok ds:=by unfold SD;simp[AX,R8]
theorem Lk {α:Type}{x:α}:R8 (some x)=.ok x:=rfl
theorem Pb:JE i ρ (.sh d)=.ok (.next (ρ.set i (some (.val d)))):=rfl
theorem Ng:JE i ρ (.lst ts)=.ok (.next (ρ.set i (some (toCl none (.lst ts))))):=rfl
theorem Nh:JE i ρ (.tup ts)=.ok (.next (ρ.set i (some (.ow (.tree none (.tup ts)))))):=rfl
theorem Ni:JE i ρ (.Bc b ks ts)=.ok (.next (ρ.set i (some (.ow (.tree none (.Bc b ks ts)))))):=rfl
theorem Nj {x:Str}{ns:List Str}:JE i ρ (.ins x ns ts)=.ok (.next (ρ.set i (some (.ow (.tree none (.ins x ns ts)))))):=rfl
theorem Pc:MU (.sh d)=.ok (.ret d):=rfl
theorem Nk:MU (.lst ts)=.ok (.B3 (.ow (.tree none (.lst ts)))):=rfl
theorem Nl:MU (.tup ts)=.ok (.B3 (.ow (.tree none (.tup ts)))):=rfl
theorem Nm:MU (.Bc b ks ts)=.ok (.B3 (.ow (.tree none (.Bc b ks ts)))):=rfl
theorem Rc {a s m:Int}(h0:0<=a)(h1:a<m)(s0:1<=s)(s1:s<m):(a+s)%m≠a:=by
 by_cases h:a+s<m
 ·rw[Int.emod_eq_of_lt (by omega) h];omega
 ·have e:(a+s)%m=(a+s-m)%m:=by rw[Int.sub_emod_right]
  rw[e,Int.emod_eq_of_lt (by omega) (by omega)];omega
theorem Pd {k:Nat}(i j:Int):Oz k (.int i) (.int j)=.ok (.bl (decide (i=j))):=by
 rw[Jz (Ci _) (Ci _)];simp only[Ad,Bool.beq_eq_decide_eq]
theorem Pe {k:Nat}(i j:Int):OA k (.int i) (.int j)=.ok (.bl (!decide (i=j))):=by
 rw[JA (Ci _) (Ci _)];simp only[Ad,Bool.beq_eq_decide_eq]
theorem Nn {i j:Int}:Mq (.int i) (.int j)=.ok (.int (i+j)):=rfl
theorem Np {i j:Int}:QO (.int i) (.int j)=.ok (.int (i-j)):=rfl
theorem Pf {i j:Int}:UM (.int i) (.int j)=.ok (.bl (decide (i<j))):=rfl
theorem Pg {i j:Int}:Vf (.int i) (.int j)=.ok (.bl (decide (i<=j))):=rfl
theorem Ph {i j:Int}:UN (.int i) (.int j)=.ok (.bl (decide (j<i))):=rfl
theorem Pj {i j:Int}:Vg (.int i) (.int j)=.ok (.bl (decide (j<=i))):=rfl
theorem Pk {i:Int}:UO (.int i)=.ok (some i):=rfl
theorem Nq:Mw [.lst ds]=.ok (.int ds.length):=rfl
theorem Nr:Mw [.tup ds]=.ok (.int ds.length):=rfl
theorem ite_tt {α:Type}{x y:α}:(if true=true then x else y)=x:=rfl
theorem ite_ff {α:Type}{x y:α}:(if false=true then x else y)=y:=rfl
theorem JJ {lo hi:Option Int}{x:D}(h:Qa lo hi x=.ok (.lst ds)):NV lo hi x=.ok (.lst (ds.map .sh)):=by
 unfold Qa at h;unfold NV;cases x with
 |lst xs=>dsimp only at h ⊢;injection h with h;injection h with h;rw[h]
 |_=>cases h
theorem Nt (xs:List D)(k:Nat):NV none (some (k:Int)) (.lst xs)=.ok (.lst ((xs.take k).map .sh)):=JJ (ME xs k)
theorem Nu (xs:List D)(k:Nat):NV (some (k:Int)) none (.lst xs)=.ok (.lst ((xs.drop k).map .sh)):=JJ (MH xs k)
theorem Pm (xs:List D)(a b:Nat):NV (some (a:Int)) (some (b:Int)) (.lst xs)=.ok (.lst (((xs.drop a).take (b-a)).map .sh)):=JJ (OL xs a b)
theorem Nv:FD (.lst ds)=.ok (.lst (ds.map .sh)):=rfl
theorem Nw:FD (.tup ds)=.ok (.lst (ds.map .sh)):=rfl
theorem Ll {ns:List Int}:SE [.lst (ns.map D.int)]=.ok (.int ns.sum):=by unfold SE;dsimp only;rw[GV]
theorem Lm {T:String}:Cz T (.lst ds)=.ok (.bl (BH T (.lst ds))):=rfl
theorem Ln {T:String}:Cz T (.tup ds)=.ok (.bl (BH T (.tup ds))):=rfl
theorem Lo {T:String}{k:Int}:Cz T (.int k)=.ok (.bl (BH T (.int k))):=rfl
theorem Lp {T:String}:Cz T .Av=.ok (.bl (BH T .Av)):=rfl
theorem Nx {T:String}{k:Bool}:Cz T (.bl k)=.ok (.bl (BH T (.bl k))):=rfl
theorem Lq {T:String}{k:Str}:Cz T (.str k)=.ok (.bl (BH T (.str k))):=rfl
theorem Lr {T:String}:Cz T (.Bc b ks vs)=.ok (.bl (BH T (.Bc b ks vs))):=rfl
theorem SN:BH "list" (.lst ds)=true:=rfl
theorem SO:BH "tuple" (.tup ds)=true:=rfl
theorem SQ {k:Int}:BH "int" (.int k)=true:=rfl
theorem SR {k:Int}:BH "bool" (.int k)=false:=rfl
theorem SS:BH "dict" (.Bc b ks vs)=true:=rfl
theorem Ls {neg:Bool}{k:Int}{ns:List Int}:SA neg (.int k) (.lst (ns.map D.int))=.ok (.bl (if neg then !ns.contains k else ns.contains k)):=by
 unfold SA US;dsimp only;rw[GV]
noncomputable def vO (s:Option D):Option Cl:=s.map .val
theorem Ha:AJ n []=true:=rfl
theorem FK:AJ n (none::ρ)=AJ n ρ:=rfl
theorem Hb:AJ n (some (.val d)::ρ)=AJ n ρ:=rfl
theorem Hc:AJ n (some (.own ds)::ρ)=AJ n ρ:=rfl
theorem FL:AJ n (some (.ow (.tree none t))::ρ)=AJ n ρ:=rfl
theorem Dj {k:Nat}(h:k≠n):AJ n (some (.ow (.EU k ds))::ρ)=AJ n ρ:=by
 unfold AJ;rw[List.all_cons];simp[E6,h]
theorem IZ {s:Option D}:AJ n (vO s::ρ)=AJ n ρ:=by cases s<;>rfl
theorem Pn {s:Option D}:Ex (vO s::ρ)=vO s::Ex ρ:=by cases s<;>rfl
end
section
variable {X:Cx}{E:XK}{WX:Str->Hp->Prop}{c:Bool}{P0:Cc}{P:Addr->Prop}{H:Hp}{σ:St}{ρ:A5}{a b e:Expr}{es:List Expr}{f g:A5->M D}{fs:A5->M (List D)}{fn:A5->M OT}{pos:Pos}{te:TE}
structure SU (K:za)(x m qual:Str)(st:Stmt)(ps:List Str):Prop where
 ex:∃C f fd,zg K mainGlobals x=some (some (.ref C))/\UH K C/\Meth K C m f/\Mh K m qual st f fd/\Binds K fd ps []
end
end L2
set_option maxRecDepth 1000000
set_option maxHeartbeats 0
namespace L2
open PySem PySem.Spec PySem.Calls PyProof.Rows PySem.W PySem.Builtin PySem.Builtin.ObjectAttr
section
variable {prog:Program}{w:World}{A:Around}{E:Value->Shared->Prop}{s:Shared}
theorem call_meets {T id:String}{nm:Str}{B:Builtin}{self:Value}{rest:List Value}{Sp:PySem.Spec}{Q:Value->Shared->Prop}(SL:Slot T nm id)(hB:entryFor table id=some B)(ht:s.TypeIs self T)(ha:argsOk id ⟨self::rest,[]⟩)(m:Meets (B ⟨self::rest,[]⟩) Sp)
 (h:Sp A (λ r s'=>match r with | .ok (.ret v)=>Q v s' | .ok _=>False | .error e=>E e s') s):wpAny (model prog w) A (call (.builtin id) (self::rest)) Q E s:=
 wpAny_call (codeAny_call_builtin SL.plain hB (SL.check _ _ _ _ _ _ _ _ ht ha (m prog w A _ s h)))
end
open PySem PySem.Spec PyProof.Rows
theorem Bi {K:za}{mg:Str->Option Value}{h:Heap}{x:Str}{st:Stmt}{ps:List Str}(X:K.In h)(G:h.Ns mainGlobals mg)(p:FP K x st)(hb:∀(kV dc pm:Value) (an:Option Addr) (cd ct:Value) (us:List Value),us.length=ps.length->bindArgs (zD x x (AE st) (Ax st) (A4 st) .none kV dc pm an cd ct) ⟨us,[]⟩=pure (ps.zip us):=by first | exact (λ _ _ _ _ _ _ us hl=>match us,hl with | [_],_=>rfl) | exact (λ _ _ _ _ _ _ us hl=>match us,hl with | [_,_],_=>rfl) | exact (λ _ _ _ _ _ _ us hl=>match us,hl with | [_,_,_],_=>rfl) | exact (λ _ _ _ _ _ _ us hl=>match us,hl with | [_,_,_,_],_=>rfl)):AY K mg x st ps:=by
 obtain⟨f,oc,od,an,sl,kV,dc,pm,cd,ct,a,l,c,k⟩:=p.ex;have F:=Jr (st:=st) l c k;exact⟨⟨_,_,F,PySem.W.mg_of X G a,F.binds hb⟩⟩
theorem V0 {K:za}{C:Addr}{x m qual:Str}{st:Stmt}{ps:List Str}(aC:zg K mainGlobals x=some (some (.ref C)))(cl:UH K C)(p:MP K C m qual st)(hb:∀(kV dc pm:Value) (an:Option Addr) (cd ct:Value) (us:List Value),us.length=ps.length->bindArgs (zD m qual (AE st) (Ax st) (A4 st) .none kV dc pm an cd ct) ⟨us,[]⟩=pure (ps.zip us):=by first | exact (λ _ _ _ _ _ _ us hl=>match us,hl with | [_],_=>rfl) | exact (λ _ _ _ _ _ _ us hl=>match us,hl with | [_,_],_=>rfl) | exact (λ _ _ _ _ _ _ us hl=>match us,hl with | [_,_,_],_=>rfl) | exact (λ _ _ _ _ _ _ us hl=>match us,hl with | [_,_,_,_],_=>rfl)):SU K x m qual st ps:=by
 obtain⟨f,oc,od,an,sl,kV,dc,pm,cd,ct,a,i,l,c,k⟩:=p.ex;have F:=Jr (st:=st) l c k;exact⟨⟨_,_,_,aC,cl,⟨a,i,k⟩,F,F.binds hb⟩⟩
open PySem PySem.W PySem.Calls PyProof.Rows
noncomputable def R0:Rn:=⟨topRun,Heap.nsMap,importEnds,fenceModules?,PySem.start,treeTable⟩
theorem Rf:R0=R1:=by
 unfold R0 R1;rw[PySem.W.Fast.te14082659384304107361,PySem.W.Fast.te8920871248978507458,PySem.W.Fast.te10274390034422433532,PySem.W.Fast.te14289696077712309145,PySem.W.Fast.te1435165496053646825,PySem.W.Fast.te14364793385576792824]
theorem Kv (p:Program)(w:World)(N:Nat):openEnds treeTable p w N=F9 R0 p w N:=by
 unfold openEnds fencedOpening F9;rfl
theorem FN {h:Heap}{a:Addr}{o:Obj}:∀ {as:List Addr},(T7 h as).lookup a=some o->h.get? a=some o
 |[],e=>by cases e
 |b::r,e=>by
  unfold T7 at e;rw[List.filterMap_cons] at e;cases q:h.get? b with
  |none=>rw[q] at e;exact FN (as:=r) e
  |some u =>
   rw[q] at e;dsimp only [Option.map_some] at e;rw[List.lookup_cons] at e;cases c:a==b with
   |true=>rw[c] at e;cases e;rw[eq_of_beq c];exact q
   |false=>rw[c] at e;exact FN (as:=r) e
def SV (h h':Heap):Prop:=∀(b:Addr) (o:Obj),h.get? b=some o->h'.get? b=some o
theorem Rg {h h':Heap}{as:List Addr}(s:SV h h'):(T7 h as).In h':=λ a o e=>s a o (FN e)
theorem Po {p q:Program}{Xt:Shared->Bool}{N:Nat}(h:∀w:World,(openEnds treeTable p w N).map (λ s=>openSeen q [] (importedModules p.main.body) Xt true s)=some (openGood q [])):LeftO p q [] Xt (λ s=>s.heap) (λ w=>LP R0 p w N) N:=λ w=>by
 have e:=h w;unfold LP;dsimp only;rw[<-Kv];cases q':openEnds treeTable p w N with
 |none=>rw[q'] at e;cases e
 |some s =>
  rw[q'] at e;rw[Option.map_some] at e ⊢;dsimp only;rw[zB e]
theorem HJ {α β γ:Type}{o:Option γ}{f:γ->α×β}{a:α×β}(h:o.map (λ s=>(f s).1)=some a.1)(k:o.map (λ s=>(f s).2)=some a.2):o.map f=some a:=by
 cases o with
 |none=>cases h
 |some s =>
  rw[Option.map_some] at h k ⊢;exact congrArg some (Prod.ext (zB h) (zB k))
theorem SW {l:PySem.W.OpenLaw}{n k:Nat}{q:Program}{loose:List Str}{XP:(Str->Option Value)->Heap->Prop}{YP:World->Heap->Prop}{d:DefRec}{K:World->za}{CX:World->LM}{sp:World->Sp}{x:Str}
 (hn:l.most=some n) (aE:n<=sizeLine) (b8:d.params.defaults=[]) (hr:BB k callerA) (hY:∀(w:World) (h:Heap),YP w h->(K w).In h)
 (F:∀(w:World) (mg:Str->Option Value) (fa:Addr) (h:Heap),(K w).In h->h.Ns mainGlobals mg->mg d.name=some (.ref fa)->∃fd:FuncData,(∀(s:Shared) (u:Value),BindsTo s fd ⟨[u],[]⟩ [(x,u)])/\
  ∀base:Heap,(K w).In base->base.Ns mainGlobals mg->DU l.prog w (K w) mg base (CX w) k fa fd [x] (sp w))
 (bb:∀(w:World) (H:Hp) (a:Addr) (ns:List Int),(∀n∈ns,Sm n)->ns.length<=n->Ol H->D5 (K w) H a (ns.map V.int)->sp w [.ref a] H (λ v _=>v=.bl true) λ _ _ _=>False)
 (bX:∀(w:World) (H:Hp) (s:Shared) (e:Value) (s':Shared),CX w [] H s (λ _ _ _=>False) e s'->False):PySem.W.WalkO q loose XP YP l.row.toRowW d [] (λ f vs=>PySem.call f vs):=by
 refine HT.GX hn b8 λ w s₀ s₁ mg mb fa o pm cd doc a vs ns bq G Y ho hd aG b9 aW az hlen hg=>?_;have KX:=hY w _ Y;obtain⟨fd,hb,hF⟩:=F w mg fa _ KX G.T.g b9;exact Iz KX G.T.g G.T.b G.T.builtins G.T.nolimit hg aW az (z9 hlen aE) hr hF hb (λ H hO hS=>bb w H a ns bq hlen hO hS) λ H e s'=>bX w H s₁ e s'
section
variable {X:Cx}{WX:Str->Hp->Prop}{c:Bool}{P0:Cc}{P:Addr->Prop}{H:Hp}{σ:St}{ρ:A5}{a b e tg iter:Expr}{f g:A5->M D}{ft:A5->M Bool}{pos:Pos}{gt:D->A5->M A5}{fi:A5->M (List D)}
theorem Rh (ha:DE X WX true e f):DI X WX tg e (λ ρ=>(f ρ).bind λ d=>match d with | .tup ds=>.ok ds | _=>.bad):=by
 obtain⟨ta,a1,a2⟩:=ha;refine⟨_,Qz a1,λ P0 P σ H R ρ E h=>?_⟩;dsimp only at h;refine a2 P0 P σ H _ ρ E ?_;cases q:f ρ with
 |bad|ex x=>rw[q] at h;exact h
 |ok d =>
  rw[q] at h;cases d with
  |tup ds =>
   intro v H1 s1 hv;cases hv with
   | @tup a xs _ hh hl =>
    have at':∀ {P':Addr->Prop} {H':Hp},A7 (del H1 P) (del H' P')->Fc X.K H' a xs:=λ s=>.inl (.inl (Aj (s a _ hh)).2);refine⟨a,rfl,⟨xs,.inl (.inl (Aj hh).2)⟩,h _ H1 s1 ⟨λ i P' H' s hi=>?_,λ i P' H' s hi=>?_,λ i P' H' v bJ d s ht hd y=>?_⟩⟩
    ·obtain⟨x,hx,_⟩:=hl.get (zk hi);exact⟨xs,x,at' s,hx⟩
    ·exact⟨xs,at' s,by rw[hl.length];exact hi⟩
    ·obtain⟨rfl,y⟩:=y;obtain⟨x,hx,bN⟩:=hl.get hd;have e:=y xs (at' s);rw[hx] at e;cases e;exact⟨A7.refl _,bN.mono s⟩
  |_=>exact h.elim
end
noncomputable def cst:Option (Int×Int)->D
 |none=>.Av
 |some p=>.tup [.int p.1,.int p.2]
noncomputable def SX:Option (Int×Int)->Option (Int×Int)->Option (Int×Int)
 |some p,some q=>some (p.1+q.1,p.2+q.2)
 |_,_=>none
noncomputable abbrev Co:=Option (Int×Int)
structure Road where
 a:Int
 b:Int
 l:Option Int
 w:Int
noncomputable def Bj:Option Int->D
 |none=>.Av
 |some i=>.int i
noncomputable def Bd (r:Road):D:=.tup [.int r.a,.int r.b,Bj r.l,.int r.w]
noncomputable def Ap (m:Int)(rs:List Road):D:=.tup [.int m,.lst (rs.map Bd)]
noncomputable def V1 (r:Road):Co:=match r.l with | none=>none | some l=>some (l,1)
noncomputable def atC (cs:List Co)(i:Int):Co:=cs.getD i.toNat none
theorem Ri {α:Type}{l:List α}{n:Int}(h:0<=n/\n<l.length):Jj l n=l[n.toNat]? :=by
 unfold Jj Mf;obtain⟨h1,h2⟩:=h;simp[h1,h2]
theorem HK {α:Type}{f:α->D}{l:List α}{n:Int}{x:α}(h0:0<=n)(h:l[n.toNat]?=some x):Sj (.lst (l.map f)) (.int n)=.ok (f x):=by
 have h1:=(zw.mp h).1;unfold Sj;dsimp only;rw[Ri (by rw[zj];omega),zH,h];rfl
theorem Pp (c:Co):Sq (cst c)=true:=by
 cases c<;>simp[cst,Sq,QZ]
theorem Rj (c:Co):dp (.ok (cst c))=.ok (cst c):=by
 unfold dp;rw[M.A6,if_pos (Pp c)]
theorem Rk {n:Nat}(l:Option Int):Pl n (Bj l):=by
 cases l with
 |none=>exact QW
 |some i=>exact Ci i
theorem SY (r:Road):Pl 1 (Bd r):=MI (Df (Ci _) (Df (Ci _) (Df (Rk r.l) (Df (Ci _) MJ))))
theorem JK (m:Int)(rs:List Road):Pl 3 (Ap m rs):=MI (Df (Ci _) (Df (QX λ d hd=>by
 obtain⟨r,_,rfl⟩:=zU.mp hd;exact SY r) MJ))
theorem AG {a b:Int}(h:0<b):Dl (.int a) (.int b)=.ok (.int (a%b)):=by
 unfold Dl Au;dsimp only;rw[if_pos h]
theorem Cb {a b:Int}(h:M3 a b):EJ (.int a) (.int b)=.ok (.int (a / b)):=by
 unfold EJ Au;dsimp only;rw[if_pos h]
noncomputable def hit (rs:List Road)(cs:List Co)(p:Nat)(k:Nat):Bool:=match rs[k]? with
 |some r=>decide (r.b=(p:Int))&&decide (SX (atC cs r.a) (V1 r)≠none)&&decide (SX (atC cs r.a) (V1 r)=atC cs (p:Int))
 |none=>false
noncomputable def pD (p:Int×Int):D:=.tup [.int p.1,.int p.2]
section
variable {X:Cx}{WX:Str->Hp->Prop}{c:Bool}{a b d:Expr}{f g h:A5->M D}{pos:Pos}
theorem Lu {op aB:CmpOp}{p q:Int->Int->Bool}(ho:Dw X (compareOp op) (LL λ i j=>.bl (p i j)))(a9:Dw X (compareOp aB) (LL λ i j=>.bl (q i j)))(ha:DE X WX c a f)(hb:DE X WX c b g)(hd:DE X WX c d h)
 (hm:lastMarks [op,aB] [b,d]=false:=by with_unfolding_all rfl):DT X WX (.Compare a [op,aB] [b,d] pos) (λ ρ=>((f ρ).bind λ x=>(g ρ).bind λ y=>Au (λ i j=>if p i j=true then (h ρ).bind λ z=>Au (λ _ k=>.ok (.bl (q j k))) (.int 0) z else .ok (.bl false)) x y).bind Jw):=by
 obtain⟨ta,a1,a2⟩:=ha;obtain⟨tb,b1,b2⟩:=hb;obtain⟨td,d1,d2⟩:=hd;refine⟨_,M9 ho a9 a1 b1 d1 hm,λ P0 P σ H Q0 ρ E f9=>?_⟩;unfold M6;have hh:=Q5 (K:=X.K) (P:=Lv c P0 P) f9;refine a2 P0 P σ H _ ρ E ?_;cases e:f ρ with
 |bad|ex x=>rw[e] at hh;exact hh
 |ok x =>
  rw[e] at hh;intro v H1 s1 hv;refine b2 P0 P σ H1 _ ρ (E.same s1) ?_;cases e2:g ρ with
  |bad=>rw[e2] at hh;exact hh
  |ex y=>rw[e2] at hh;exact gV.same (m:=.ex y) hh s1
  |ok y =>
   rw[e2] at hh;simp only[M.A6] at hh;unfold Au at hh;split at hh
   ·rename_i i j;intro w H2 s2 hw;refine⟨i,j,hv.int_inv,hw.int_inv,p i j,rfl,?_⟩;dsimp only at hh;by_cases hp:p i j=true
    ·rw[if_pos hp] at hh ⊢;refine d2 P0 P σ H2 _ ρ ((E.same s1).same s2) ?_;cases e3:h ρ with
     |bad=>rw[e3] at hh;exact hh
     |ex z=>rw[e3] at hh;exact gV.same (gV.same (m:=.ex z) hh s1) s2
     |ok z =>
      rw[e3] at hh;simp only[M.A6] at hh;cases z with
      |int k=>exact λ u H3 s3 hu=>⟨j,k,hw.int_inv,hu.int_inv,hh _ H3 ((s1.trans s2).trans s3) (.bl _)⟩
      |_=>exact hh.elim
    ·rw[if_neg hp] at hh ⊢;exact hh _ H2 (s1.trans s2) (.bl _)
   ·exact hh.elim
end
section
variable {X:Cx}{WX:Str->Hp->Prop}{c:Bool}{P0:Cc}{P:Addr->Prop}{H:Hp}{σ:St}{ρ:A5}{a b e tg:Expr}{f g:A5->M D}{fn:A5->M OT}{pos p apos ad:Pos}{ta te to:TE}
noncomputable def Kw (ds:List D):M D:=match ds with
 |[.str z]=>if z.length<=1000000 then .ok (.int z.length) else .bad
 |_=>.bad
theorem Pq:EK X.K WX (λ xs H Q=>∃z,xs=[.str z]/\z.length<=sizeLine/\Q (.int z.length) H) Kw:=by
 intro P H ds vs Q ht hl h;unfold Kw at h;split at h
 ·rename_i z;obtain⟨v,rfl,hv⟩:=hl.one;cases hv;by_cases hi:z.length<=1000000
  ·rw[if_pos hi] at h;exact⟨_,rfl,by rw[sizeLine_eq];omega,h _ H (A7.refl H) (.int _)⟩
  ·rw[if_neg hi] at h;exact h.elim
 ·exact h.elim
theorem Pr (hg:Gl X "len")(hm:X.mg "len" = none)(ha:DE X WX c e f)(hs:starEach [e] X.env=[(false,eval e X.env)]:=by rfl):DE X WX c (.Call (.Name "len" p) [e] [] pos) (λ ρ=>((f ρ).bind λ d=>(M.ok []).bind λ ds=>.ok (d::ds)).bind Kw):=
 Fv Ht Pq hg hm PySem.boot_len (A2 ha Ab hs) (he:=hs)
theorem Lw:CI X (.type "int") (λ xs H Q=>∃z n,xs=[.str z]/\PySem.intText? z=some n/\z.length<=640/\Q (.int n) H):=by
 intro pins s σ H xs us Q I r h;obtain⟨z,n,rfl,h1,h2,q⟩:=h;obtain⟨u,rfl,t,rfl⟩:=vals1 r;exact PySem.W.KIN.call_text h1 h2 ⟨.int n,H,I.tok _,⟨_,rfl⟩,q⟩
noncomputable def J0 (ds:List D):M D:=match ds with
 |[.str z]=>(match PySem.intText? z with|some n=>if z.length<=640 then .ok (.int n) else .bad|none=>.bad)
 |_=>.bad
theorem Pt:EK X.K WX (λ xs H Q=>∃z n,xs=[.str z]/\PySem.intText? z=some n/\z.length<=640/\Q (.int n) H) J0:=by
 intro P H ds vs Q ht hl h;unfold J0 at h;split at h
 ·rename_i z;obtain⟨v,rfl,hv⟩:=hl.one;cases hv;cases q:PySem.intText? z with
  |none=>rw[q] at h;exact h.elim
  |some n =>
   rw[q] at h;dsimp only at h;by_cases hi:z.length<=640
   ·rw[if_pos hi] at h;exact⟨_,n,rfl,q,hi,h _ H (A7.refl H) (.int _)⟩
   ·rw[if_neg hi] at h;exact h.elim
 ·exact h.elim
theorem Pu (hg:Gl X "int")(hm:X.mg "int" = none)(ha:DE X WX c e f)(hb:bootBuiltins "int" = some (.type "int"):=by decide +kernel)(hs:starEach [e] X.env=[(false,eval e X.env)]:=by rfl):DE X WX c (.Call (.Name "int" p) [e] [] pos) (λ ρ=>((f ρ).bind λ d=>(M.ok []).bind λ ds=>.ok (d::ds)).bind J0):=
 GO Lw Pt hg hm hb (A2 ha Ab hs) (he:=hs)
noncomputable def Kx (x y:D):M D:=match x,y with
 | .str i,.str j=>if i.length+j.length<=1000000 then .ok (.str (i++j)) else .bad
 |_,_=>.bad
theorem BX (ha:DE X WX c a f)(hb:DE X WX c b g):DE X WX c (.BinOp a .Add b pos) (λ ρ=>(f ρ).bind λ x=>(g ρ).bind λ y=>Kx x y):=by
 refine Fq Jq (λ P H x y v w Q ht hx hy h=>?_) ha hb;unfold Kx at h;split at h
 ·rename_i i j;cases hx;cases hy;by_cases hi:i.length+j.length<=1000000
  ·rw[if_pos hi] at h;exact⟨_,_,rfl,rfl,by rw[sizeLine_eq];omega,h _ H (A7.refl H) (.str _)⟩
  ·rw[if_neg hi] at h;exact h.elim
 ·exact h.elim
noncomputable def Pw (x y:D):M D:=match x,y with
 | .str i,.str j=>.ok (.bl (!(zE j i 0 j.length 1).isEmpty))
 |_,_=>.bad
theorem Rl (ha:DE X WX c a f)(hb:DE X WX c b g)(hm:behindInMarks .In b=false:=by rfl):DE X WX c (.Compare a [.In] [b] pos) (λ ρ=>(f ρ).bind λ x=>(g ρ).bind λ y=>Pw x y):=by
 refine Ju KY (λ P H x y v w Q ht hx hy h=>?_) ha hb hm;unfold Pw at h;split at h
 ·cases hx;cases hy;exact⟨_,_,rfl,rfl,h _ H (A7.refl H) (.bl _)⟩
 ·exact h.elim
noncomputable def Px (x y:D):M D:=match x,y with
 | .str z,.int i=>if 0<=i/\i<1000000/\i<z.length then (match z.cps[i.toNat]? with|some k=>.ok (.str ⟨#[k]⟩)|none=>.bad) else .bad
 |_,_=>.bad
theorem Rm (ha:DE X WX c a f)(hb:DE X WX c b g)(hs:Ip b:=by exact λ _ _=>rfl):DE X WX c (.Subscript a b pos) (λ ρ=>(f ρ).bind λ x=>(g ρ).bind λ y=>Px x y):=by
 obtain⟨ta,a1,a2⟩:=ha;obtain⟨tb,b1,b2⟩:=hb;refine⟨_,Iq a1 b1 hs,λ P0 P σ H Q ρ E h=>IH a2 b2 (λ P H x y v w Q ht hx hy h=>?_) E h⟩;unfold Px at h;split at h
 ·rename_i z i;cases hx;cases hy;by_cases hi:0<=i/\i<1000000/\i<z.length
  ·rw[if_pos hi] at h;cases q:z.cps[i.toNat]? with
   |none=>rw[q] at h;exact h.elim
   |some k =>
    rw[q] at h;exact⟨z,i,k,rfl,rfl,hi.1,by omega,hi.2.2,q,h _ H (A7.refl H) (.str _)⟩
  ·rw[if_neg hi] at h;exact h.elim
 ·exact h.elim
theorem J2:∀ {ys:List Str}{us:List Value},Vals (ys.map V.str) us->StrsAre us ys
 |[],_,h=>by cases h;exact .nil
 |y::ys,_,h=>by
  cases h with
  |cons r t=>obtain⟨k,rfl⟩:=r;exact .cons y k (J2 t)
theorem Py:TY X "str.join" (λ x xs H Q=>∃z l ys,x=.str z/\xs=[.ref l]/\D5 X.K H l (ys.map V.str)/\(ys.map (·.length)).sum+ys.length*z.length<=1000000/\Q (.str (zX z ys)) H):=by
 intro pins s σ H x vs v us Q I rx rv h;obtain⟨z,l,ys,rfl,rfl,hl,hb,q⟩:=h;obtain⟨t,rfl⟩:=rx;obtain⟨u,rfl,ru⟩:=rv.one;cases ru;obtain⟨aa,rv,p,hz⟩:=I.list hl;refine join_list p.isList (ys:=ys) (by simpa using J2 rv) (by omega) λ t' k=>?_;rw[show Txt.join z ys=zX z ys from PySem.StrLaws.glued_eq_join z ys];exact⟨.str _,H,I.tok _,⟨_,rfl⟩,q⟩
noncomputable def FO:List D->Option (List Str)
 |[]=>some []
 | .str z::r=>(FO r).map (z::·)
 |_::_=>none
theorem Hd:∀ys:List Str,FO (ys.map D.str)=some ys
 |[]=>rfl
 |y::ys=>by rw[zq,FO,Hd ys];rfl
theorem He:∀ {ds:List D}{ys:List Str},FO ds=some ys->ds=ys.map D.str
 |[],ys,h=>by cases h;rfl
 |d::r,ys,h=>by
  cases d with
  |str z =>
   unfold FO at h;obtain⟨es,h1,rfl⟩:=Option.map_eq_some_iff.mp h;rw[He h1];rfl
  |_=>cases h
theorem Hf {K:za}{H:Hp}:∀ {ys:List Str}{xs:List V},Aa K H xs (ys.map D.str)->xs=ys.map V.str
 |[],_,h=>by cases h;rfl
 |y::ys,_,h=>by
  cases h with
  |cons a t=>cases a;rw[Hf t];rfl
noncomputable def Pz (d:D):M Str:=match d with | .str z=>.ok z | _=>.bad
noncomputable def FQ (z:Str)(y:D):M D:=match y with
 | .lst ds=>(match FO ds with|some ys=>if (ys.map (·.length)).sum+ys.length*z.length<=1000000 then .ok (.str (zX z ys)) else .bad|none=>.bad)
 |_=>.bad
theorem HL (ha:DE X WX true a f)(he:DE X WX true e g)(hs:starEach [e] X.env=[(false,eval e X.env)]:=by rfl)
 (ak:attributeBase a "join" X.env (eval a X.env)=eval a X.env:=by rfl)
 (ax:((backTo ad (starEach [e] X.env)).all (λ x => !x.1)&&(backToKw ad (keywordEach [] X.env)).all (λ x=>x.1.isSome)&&decide (([e]:List Expr).length+([]:List Keyword).length+(if ([]:List Keyword).isEmpty then 0 else 1)<30))=true:=by rfl)
 (al:(apos.endLine==ad.line)=true:=by rfl) (ag:(backTo ad (starEach [] X.env)).any (·.1)=false:=by rfl):
 DE X WX true (.Call (.Attribute a "join" apos) [e] [] ad) (λ ρ=>(f ρ).bind λ x=>(Pz x).bind λ z=>(g ρ).bind λ y=>FQ z y):=by
 obtain⟨ta,a1,a2⟩:=ha;obtain⟨te,e1,e2⟩:=he;refine⟨_,Ke PySem.F.plainAttrs_str PySem.F.slot_str_join PySem.F.type_str_join Py a1 (Bl e1 Ce hs) ak ax al hs ag,λ P0 P σ H Q ρ E h=>?_⟩;dsimp only at h;refine a2 P0 P σ H _ ρ E ?_;cases q1:f ρ with
 |bad|ex x=>rw[q1] at h;exact h
 |ok x =>
  rw[q1] at h;simp only[M.A6] at h;intro v H1 s1 hv;cases x with
  |str z =>
   simp only[Pz,M.A6] at h;cases hv;refine⟨rfl,e2 P0 P σ H1 _ ρ (E.same s1) ?_⟩;cases q2:g ρ with
   |bad=>rw[q2] at h;exact h
   |ex x=>rw[q2] at h;exact λ H' s'=>h H' (s1.trans s')
   |ok y =>
    rw[q2] at h;simp only[M.A6] at h;intro w H2 s2 hw;unfold FQ at h;cases y with
    |lst ds =>
     dsimp only at h;cases q3:FO ds with
     |none=>rw[q3] at h;exact h.elim
     |some ys =>
      rw[q3] at h;dsimp only at h;have e3:=He q3;subst e3;by_cases hi:(ys.map (·.length)).sum+ys.length*z.length<=1000000
      ·rw[if_pos hi] at h;cases hw with
       |lst hs hh =>
        have:=Hf hh;subst this;exact⟨z,_,ys,rfl,rfl,hs.Bs,hi,h _ H2 (s1.trans s2) (.str _)⟩
      ·rw[if_neg hi] at h;exact h.elim
    |_=>exact h.elim
  |_=>exact h.elim
end
section
variable {X:Cx}{WX:Str->Hp->Prop}{c:Bool}{P0:Cc}{P:Addr->Prop}{H:Hp}{σ:St}{ρ:A5}{a b e tg:Expr}{f g:A5->M D}{fn:A5->M OT}{pos p apos ad:Pos}{ta te to:TE}
theorem Hg:∀(l:List Str) (k:Nat),Vals (l.map V.str) (strsFrom k l)
 |[],_=>.nil
 |y::r,k=>.cons ⟨k,rfl⟩ (Hg r (k+1))
theorem EA {pins:List (Addr×Obj)}{s:Shared}{Q:VK}{l:List Str}{us:List Value}{tk:Nat}(I:Inv X pins σ H s)(r:Vals (l.map V.str) us)(hl:l.length<=200000)(h:∀p,H p=none->Q (.ref p) (upd H p (.lst (l.map V.str)))):
 EP X pins σ Q (.ref s.heap.objs.size) {s with heap:=s.heap.push {cls:=.type "list",data:=.seq us.toArray},toks:=tk}:=
 ⟨.ref s.heap.objs.size,_,I.laid (t':=tk) (o:=.lst (l.map V.str)) (λ b o e=>zy _ e) (zp _) ⟨by rw[zj,sizeLine_eq];omega,us,0,r,zF _ rfl⟩,rfl,h _ (I.Az.fresh (zp _))⟩
theorem EB (z y:Str):((decide (z.length<y.length)||decide (zZ z<zZ y))=true->zV z y=[z])/\((decide (z.length<y.length)||decide (zZ z<zZ y))=false->((zE z y 0 z.length (z.length+1)).isEmpty=true->zV z y=[z])/\
 ((zE z y 0 z.length (z.length+1)).isEmpty=false->zV z y=Builtin.Str.partsBetween z (zE z y 0 z.length (z.length+1)) y.length)):=by
 unfold zV;refine⟨λ h=>if_pos h,λ h=>⟨λ h2=>?_,λ h2=>?_⟩⟩
 ·rw[if_neg (by rw[h];exact Bool.false_ne_true),if_pos h2]
 ·rw[if_neg (by rw[h];exact Bool.false_ne_true),if_neg (by rw[h2];exact Bool.false_ne_true)]
theorem FR {A:Around}{E:Value->Shared->Prop}{prog:Program}{w:World}{Q:Value->Shared->Prop}{x u:Value}{S:PySem.Spec}(s:Shared)(h:s.TypeIs x "str")(M:Meets (Builtin.«str.split» ⟨[x,u],[]⟩) S)(q:S A (wants Q E) s):wpAny (model prog w) A (call (.builtin "str.split") [x,u]) Q E s:=
 PySem.call_meets PySem.F.slot_str_split h PySem.F.entry_str_split (PySem.F.args_str_split_2 _ _) M q
theorem Lx {pins:List (Addr×Obj)}{s:Shared}{Q:VK}{z y:Str}{t k:Tok}(I:Inv X pins σ H s)(hy:1<=y.length)(hz:z.length<=100000)(q:∀r,H r=none->Q (.ref r) (upd H r (.lst ((zV z y).map V.str)))):
 wpAny (model X.prog X.w) X.A (call (.builtin "str.split") [.str z t,.str y k]) (EP X pins σ Q) X.xe s:=by
 have ez:(y.length==0)=false:=beq_eq_false_iff_ne.mpr (by omega);have hw:=split_weight z y hy;have bU:s.TypeIs (.str z t) "str" := typeIs_str s z t;obtain⟨q1,q2⟩:=EB z y;cases h1:(decide (z.length<y.length)||decide (zZ z<zZ y)) with
 |true =>
  rw[q1 h1] at q;exact FR s bU (meets_str_split_cannot_occur z y t k h1) (EA (us:=[.str z t]) I (.cons ⟨t,rfl⟩ .nil) (Nat.le_of_ble_eq_true rfl) q)
 |false =>
  obtain⟨q3,q4⟩:=q2 h1;cases h2:(zE z y 0 z.length (z.length+1)).isEmpty with
  |true =>
   rw[q3 h2] at q;exact FR s bU (meets_str_split_not_found z y t k h1 ez h2) (EA (us:=[.str z t]) I (.cons ⟨t,rfl⟩ .nil) (Nat.le_of_ble_eq_true rfl) q)
  |false =>
   rw[q4 h2] at q hw;have fA:z.length<=sizeLine:=by rw[sizeLine_eq];omega
   generalize hp:Builtin.Str.partsBetween z (zE z y 0 z.length (z.length+1)) y.length=l at q hw;have br:l.length<=200000:=by omega
   have dh:l.length<=sizeLine:=by rw[sizeLine_eq];omega
   have M:=meets_str_split_sep z y t k h1 ez h2 fA (by rw[hp];exact dh);rw[hp] at M;exact FR s bU M (EA I (Hg _ _) br q)
theorem Ny:TY X "str.split" (λ x xs H Q=>∃z y,x=.str z/\xs=[.str y]/\1<=y.length/\z.length<=100000/\∀r,H r=none->Q (.ref r) (upd H r (.lst ((zV z y).map V.str)))):=by
 intro pins s σ H x vs v us Q I rx rv h;obtain⟨z,y,rfl,rfl,hy,hz,q⟩:=h;obtain⟨t,rfl⟩:=rx;obtain⟨u,rfl,k,rfl⟩:=rv.one;exact Lx I hy hz q
theorem J3 {K:za}{H:Hp}:∀l:List Str,Aa K H (l.map V.str) (l.map D.str)
 |[]=>.nil
 |y::r=>.cons (.str y) (J3 r)
noncomputable def HM (z:Str)(y:D):M OT:=match y with
 | .str y=>if 1<=y.length/\z.length<=100000 then .ok (.lst (((zV z y).map D.str).map .sh)) else .bad
 |_=>.bad
theorem J4 (ha:DE X WX true a f)(he:DE X WX true e g)(hs:starEach [e] X.env=[(false,eval e X.env)]:=by rfl)
 (ak:attributeBase a "split" X.env (eval a X.env)=eval a X.env:=by rfl)
 (ax:((backTo ad (starEach [e] X.env)).all (λ x => !x.1)&&(backToKw ad (keywordEach [] X.env)).all (λ x=>x.1.isSome)&&decide (([e]:List Expr).length+([]:List Keyword).length+(if ([]:List Keyword).isEmpty then 0 else 1)<30))=true:=by rfl)
 (al:(apos.endLine==ad.line)=true:=by rfl) (ag:(backTo ad (starEach [] X.env)).any (·.1)=false:=by rfl):
 DN X WX (.Call (.Attribute a "split" apos) [e] [] ad) (λ ρ=>(f ρ).bind λ x=>(Pz x).bind λ z=>(g ρ).bind λ y=>HM z y):=by
 obtain⟨ta,a1,a2⟩:=ha;obtain⟨te,e1,e2⟩:=he;refine⟨_,Ke PySem.F.plainAttrs_str PySem.F.slot_str_split PySem.F.type_str_split Ny a1 (Bl e1 Ce hs) ak ax al hs ag,λ P0 P σ H Q ρ E h=>?_⟩;dsimp only at h;refine a2 P0 P σ H _ ρ E ?_;cases q1:f ρ with
 |bad|ex x=>rw[q1] at h;exact h
 |ok x =>
  rw[q1] at h;simp only[M.A6] at h;intro v H1 s1 hv;cases x with
  |str z =>
   simp only[Pz,M.A6] at h;cases hv;refine⟨rfl,e2 P0 P σ H1 _ ρ (E.same s1) ?_⟩;cases q2:g ρ with
   |bad=>rw[q2] at h;exact h
   |ex x=>rw[q2] at h;exact λ H' s'=>h H' (s1.trans s')
   |ok y =>
    rw[q2] at h;simp only[M.A6] at h;intro w H2 s2 hw;unfold HM at h;cases y with
    |str y =>
     dsimp only at h;by_cases hi:1<=y.length/\z.length<=100000
     ·rw[if_pos hi] at h;cases hw;exact⟨z,y,rfl,rfl,hi.1,hi.2,h.FD (s1.trans s2) (J3 _)⟩
     ·rw[if_neg hi] at h;exact h.elim
    |_=>exact h.elim
  |_=>exact h.elim
noncomputable def Vn (x:Str)(te:TE):TE:=λ σ H Q=>te σ H λ v H1=>∃i,v=.int i/\i.natAbs.log2<1920/\(x++zb (toString i)).length<=1000000/\Q (.str (x++zb (toString i))) H1
theorem str_len (x y:Str):(x++y).length=x.length+y.length:=by
 show (x.cps++y.cps).size=_;rw[Array.size_append];rfl
theorem PB {x:Str}{j:Nat}{p2:Pos}(he:PE X e te)(hx:x.length<=1000:=by decide):PE X (.JoinedStr [.Constant (.str x) j p,.FormattedValue e (-1) none p2] pos) (Vn x te):=by
 intro pins s σ H Q I h;refine wpAny_JoinedStr ?_;show wpAny _ _ (eval (.Constant (.str x) j p) X.env) _ _ s;refine Calls.Constant_str ⟨x,_,rfl,by rw[Str.empty_append,sizeLine_eq];omega,?_⟩;show wpAny _ _ (eval (.FormattedValue e (-1) none p2) X.env) _ _ _;refine wpAny_FormattedValue_plain (AZ (he pins _ σ H _ (I.tok _) h) λ v s1 ⟨y,H1,I1,r1,i,ey,hi,hl,q⟩=>?_);subst ey;obtain⟨t,rfl⟩:=r1;rw[Str.empty_append];refine wpAny_formatField_int hi ⟨_,_,rfl,by rw[sizeLine_eq];omega,?_⟩;exact⟨by rw[sizeLine_eq];omega,⟨.str _,H1,(I1.tok _).tok _,⟨_,rfl⟩,q⟩⟩
noncomputable def Ut (x:Str)(d:D):M D:=match d with
 | .int i=>if i.natAbs.log2<1920/\(x++zb (toString i)).length<=1000000 then .ok (.str (x++zb (toString i))) else .bad
 |_=>.bad
theorem PD {x:Str}{j:Nat}{p2:Pos}(he:DE X WX true e f)(hx:x.length<=1000:=by decide):DE X WX true (.JoinedStr [.Constant (.str x) j p,.FormattedValue e (-1) none p2] pos) (λ ρ=>(f ρ).bind (Ut x)):=by
 obtain⟨te,e1,e2⟩:=he;refine⟨_,PB e1 hx,λ P0 P σ H Q ρ E h=>?_⟩;dsimp only at h;refine e2 P0 P σ H _ ρ E ?_;cases q:f ρ with
 |bad|ex x=>rw[q] at h;exact h
 |ok d =>
  rw[q] at h;simp only[M.A6] at h;intro v H1 s1 hv;unfold Ut at h;split at h
  ·rename_i i;cases hv;by_cases hi:i.natAbs.log2<1920/\(x++zb (toString i)).length<=1000000
   ·rw[if_pos hi] at h;exact⟨i,rfl,hi.1,hi.2,h _ H1 s1 (.str _)⟩
   ·rw[if_neg hi] at h;exact h.elim
  ·exact h.elim
noncomputable def V2 (x:Str):It:=⟨λ i _=>i<x.cps.size,λ i H v H'=>H'=H/\∃k,x.cps[i]?=some k/\v=.str ⟨#[k]⟩,λ i _=>x.cps.size<=i⟩
theorem Nz {P:Program}{w:World}{K:za}{tg:Expr}(it:Addr)(x:Str)(t:Tok):Turn P w K tg (V2 x) [it] it (λ i h=>h.IsStrIter it "str_ascii_iterator" x t i) where
 mem:=by simp
 obj:=λ i h st b hb=>by
  have e:b=it:=by simpa using hb
  subst e;obtain⟨o,h1,h2,h3⟩:=st;exact⟨o,h1,λ v z=>by rw[h3] at z;cases z⟩
 keep:=λ i h h' st k=>let ⟨o,h1,r⟩:=st;⟨o,k it (by simp) o h1,r⟩
 item:=by
  intro X hP hw hK hc i pins s σ H E I hf st hg;subst hP hw hK;obtain⟨f0,f1,f2,f3,f4,f5⟩:=hf it (by simp);have hk:x.cps[i]?=some (x.cps[i]'hg):=Array.getElem?_eq_getElem hg;refine wpAny_pyNext_ascii_item st hk λ h' ba sb=>?_;have I1:Inv X pins σ H {s with heap:=h',toks:=s.toks+1}:=I.turned (λ b o hb e=>sb.extBut b o hb e) f0 f1 f3 f4 f5;obtain⟨o,g1,g2,g3⟩:=id ba;refine⟨_,rfl,M1 (s:={s with heap:=h',toks:=s.toks+1}) (n := "str_ascii_iterator") g1 g2 g3 (by decide) ⟨.str _,H,I1,⟨_,rfl⟩,⟨rfl,_,hk,rfl⟩,ba,λ b hb=>(hf b hb).1⟩⟩
 done:=by
  intro X hP hw hK hc i pins s σ H E I hf st hg;subst hP hw hK;obtain⟨f0,f1,f2,f3,f4,f5⟩:=hf it (by simp);exact wpAny_pyNext_ascii_end (I.ok.hd hc) st (Array.getElem?_eq_none hg) λ h' eb=>⟨rfl,I.turned (t':=s.toks) (λ b o hb e=>eb b o hb e) f0 f1 f3 f4 f5⟩
 self:=λ _ _ _ _ _ st h=>wpAny_pyIter_striter_ascii st h
noncomputable def Uu (te:TE):TI:=λ σ H R=>te σ H λ v H1=>∃x,v=.str x/\(x.cps.all λ k=>decide (k<128))=true/\R (V2 x) H1
theorem Ro (he:PE X e te):PI X tg e (Uu te):=by
 intro pins s σ H R I h;refine AZ (he pins s σ H _ I h) λ v s1 ⟨y,H1,I1,r1,x,ey,ha,q⟩=>?_;subst ey;obtain⟨t,rfl⟩:=r1;refine wpAny_pyIter_ascii ha ?_;refine⟨s1.heap.objs.size,[s1.heap.objs.size],_,_,H1,rfl,I1.kept (t':=s1.toks) λ b o e=>zy _ e,Nz _ x t,⟨_,zF _ rfl,rfl,rfl⟩,λ b hb=>?_,q⟩;have e:b=s1.heap.objs.size:=by simpa using hb
 subst e;exact I1.Qy (zp _) (I1.Az.fresh (zp _))
noncomputable def Tn (x:Str):List D:=x.cps.toList.map λ k=>D.str ⟨#[k]⟩
noncomputable def Uv (d:D):M (List D):=match d with
 | .str x=>if (x.cps.all λ k=>decide (k<128))=true then .ok (Tn x) else .bad
 |_=>.bad
theorem Rp (he:DE X WX true e f):DI X WX tg e (λ ρ=>(f ρ).bind Uv):=by
 obtain⟨te,e1,e2⟩:=he;refine⟨_,Ro e1,λ P0 P σ H R ρ E h=>?_⟩;dsimp only at h;refine e2 P0 P σ H _ ρ E ?_;cases q:f ρ with
 |bad|ex x=>rw[q] at h;exact h
 |ok d =>
  rw[q] at h;simp only[M.A6] at h;intro v H1 s1 hv;unfold Uv at h;cases d with
  |str x =>
   dsimp only at h;cases hv;by_cases hi:(x.cps.all λ k=>decide (k<128))=true
   ·rw[if_pos hi] at h;have hl:(Tn x).length=x.cps.size:=by unfold Tn;rw[zj,yp]
    refine⟨x,rfl,hi,h _ H1 s1 ⟨λ i P' H' s hi=>by rw[hl] at hi;exact hi,λ i P' H' s hi=>by rw[hl] at hi;exact hi,λ i P' H' v bJ d s ht hd y=>?_⟩⟩;obtain⟨rfl,k,hk,rfl⟩:=y;unfold Tn at hd;rw[zH,Array.getElem?_toList,hk] at hd;cases hd;exact⟨A7.refl _,.str _⟩
   ·rw[if_neg hi] at h;exact h.elim
  |_=>exact h.elim
end
noncomputable def JL (t0:OT)(ds:List D):OT:=.tup [t0,.lst (ds.map .sh)]
def JM (i n:Nat)(t0:OT)(ds:List D)(ρ:A5):Prop:=ρ[i]?=some (some (.ow (.tree (some n) (JL t0 ds))))
noncomputable def FT (i n:Nat)(t0:OT)(ds:List D)(gt:D->A5->M A5)(d:D)(ρ:A5):M A5:=@ite _ (JM i n t0 ds ρ) (Classical.propDecidable _) (gt d ρ) .bad
noncomputable def DH (i n:Nat)(t0:OT)(ds:List D)(m:M Out):M Out:=match m with
 | .ok (.next ρ)=>@ite _ (JM i n t0 ds ρ/\AJ n (ρ.set i (some (.ow (.tree none (JL t0 ds)))))=true) (Classical.propDecidable _) (.ok (.next (ρ.set i (some (.ow (.tree none (JL t0 ds))))))) .bad
 | .ok (.ret d)=>.ok (.ret d)
 | .ok (.B3 c)=>.ok (.B3 c)
 | .ok (.Dm _ _)| .ok (.brk _)| .ok (.cont _)=>.bad
 | .ex x=>.ex x
 | .bad=>.bad
noncomputable def F5 (i n:Nat)(π:List Nat)(gt:D->A5->M A5)(gb:A5->M Out)(ρ:A5):M Out:=match π,ρ[i]? with
 |[1],some (some (.ow (.tree none (.tup [t0,.lst ts]))))=>(match BW ts with
  |some ds=>if AJ n ρ=true then DH i n t0 ds (forM (FT i n t0 ds gt) gb ds (ρ.set i (some (.ow (.tree (some n) (JL t0 ds)))))) else .bad
  |none=>.bad)
 |_,_=>.bad
section
variable {X:Cx}{E:XK}{WX:Str->Hp->Prop}{c:Bool}{P0:Cc}{P:Addr->Prop}{H:Hp}{σ:St}{ρ:A5}{a b e tg:Expr}{f g:A5->M D}{gt:D->A5->M A5}{gb:A5->M Out}{pos:Pos}{i n:Nat}{fp:A5->M (List Nat)}{t0:OT}{ds:List D}
theorem NA {K:za}{v:V}{fq:List Addr}(h:Bn K H P v (JL t0 ds) fq):∃p x0 l xs,v=.ref p/\del H P p=some (.tup [x0,.ref l])/\H l=some (.lst xs)/\Aa K (del H P) xs ds:=by
 unfold JL at h;cases h with
 | @tup p xs _ _ h1 h2 =>
  cases h2 with
  |cons ha hb =>
   cases hb with
   |cons hc hd =>
    cases hd;cases hc with
    |lst h3 h4=>exact⟨_,_,_,_,rfl,h1,h3,h4.Ub.2⟩
theorem A9.Uw {K:za}{p:Addr}{t:OT}(E:A9 K P0 P H σ ρ)(h:ρ[i]?=some (some (.ow (.tree none t))))(hs:σ[i]?=some (some (.ref p)))(hn:AJ n ρ=true):A9 K ⟨P0.pr,λ m=>if m=n then p else P0.g m⟩ P H σ (ρ.set i (some (.ow (.tree (some n) t)))):=by
 have E1:A9 K ⟨P0.pr,λ m=>if m=n then p else P0.g m⟩ P H σ ρ:=E.tok λ j c m h1 h2=>if_neg λ z=>IW hn h1 (by rw[h2,z]);obtain⟨v,fp,k1,k2,k3,k4⟩:=E.ows i _ h rfl;rw[hs] at k1;cases k1;have key:=E1.MC (P':=P) (H':=H) (i:=i) (v:=.ref p) (c:=.ow (.tree (some n) t)) (fp:=fp) (λ _ h=>h) E.Bp (A7.refl _) (λ j c' v' ah af g1 g2 g3 b hb=>⟨rfl,E.apart j i c' _ v' _ ah fp g1 h g2 hs g3 k2 (Ne.symm af) b hb⟩) k2 k3 k4 (λ m z=>by cases z;simp);rw[Ew hs] at key;exact key
theorem A9.NC {K:za}{G:Nat->Addr}{t:OT}(E:A9 K ⟨P0.pr,G⟩ P H σ ρ)(hG:∀m,m≠n->G m=P0.g m)(h:ρ[i]?=some (some (.ow (.tree (some n) t))))(hn:AJ n (ρ.set i (some (.ow (.tree none t))))=true):A9 K P0 P H σ (ρ.set i (some (.ow (.tree none t)))):=by
 obtain⟨v,fp,k1,k2,k3,k4⟩:=E.ows i _ h rfl;have key:=E.MC (P':=P) (H':=H) (i:=i) (v:=v) (c:=.ow (.tree none t)) (fp:=fp) (λ _ h=>h) E.Bp (A7.refl _) (λ j c' v' ah af g1 g2 g3 b hb=>⟨rfl,E.apart j i c' _ v' _ ah fp g1 h g2 k1 g3 k2 (Ne.symm af) b hb⟩) k2 k3 k4;rw[Ew k1] at key;exact key.tok (P0:=⟨P0.pr,G⟩) (G:=P0.g) λ j c m h1 h2=>(hG m λ z=>IW hn h1 (by rw[h2,z])).symm
theorem JN (i n:Nat){body:List Stmt}(hp:PassesOwn (model X.prog X.w) X.A X.env X.xe)(hc:X.calm=true)(hv:DP X WX a i fp)(hg:DG X tg gt)(hb:Mz X WX body gb)(hs:∀y,foldedSetIterable a X.env y=pure y:=by intro _;rfl):
 DS X WX (.For tg a body [] pos) (λ ρ=>(fp ρ).bind λ π=>F5 i n π gt gb ρ):=by
 obtain⟨t,a1,a2⟩:=hg;obtain⟨tb,b1,b2⟩:=hb;obtain⟨tv,v1,v2⟩:=hv;refine⟨_,M2 hp hc (Kb v1) a1 b1 hs,λ P0 P σ H Z ρ E h=>?_⟩;dsimp only at h;refine v2 P0 P σ H _ ρ E ?_;cases q:fp ρ with
 |bad=>rw[q] at h;exact h
 |ex x=>rw[q] at h;exact λ H' s=>h H' P (E.tr s)
 |ok π =>
 rw[q] at h;simp only[M.A6] at h;intro v t1 H1 s1 pl;have E1:=E.same s1;have fB:=E.tr s1;unfold F5 at h;split at h
 rotate_left
 ·exact h.elim
 rename_i t0 ts e1;cases qs:BW ts with
 |none=>rw[qs] at h;exact h.elim
 |some ds =>
 rw[qs] at h;dsimp only at h;have:=DD qs;subst this;by_cases hn:AJ n ρ=true
 rotate_left
 ·rw[if_neg hn] at h;exact h.elim
 rw[if_pos hn] at h;obtain⟨v0,fq,k1,k2,k3,k4⟩:=E1.ows i _ e1 rfl;obtain⟨p,x0,l,fC,rfl,g1,g2,g3⟩:=NA (t0:=t0) (ds:=ds) (k2.toT rfl);have fD:v=.ref l:=by
  obtain⟨w0,c,pp,tt,y1,y2,y3,y4⟩:=pl.ex;rw[e1] at y1;cases y1;cases y2;rw[k1] at y3;cases y3;cases y4 with
  |cons nd hx hs hr =>
   obtain⟨p',e,_,hd⟩:=nd;cases e;rw[g1] at hd;cases hd;cases hx;cases hs;cases hr;rfl
 subst fD;let Q0:Cc:=⟨P0.pr,λ m=>if m=n then p else P0.g m⟩;have gn:Q0.g n=p:=if_pos rfl;have hG:∀m,m≠n->Q0.g m=P0.g m:=λ m hm=>if_neg hm;refine⟨l,rfl,⟨fC,.of g2⟩,?_⟩;have look:∀ {P':Addr->Prop} {H':Hp} {σ':St} {ρ':A5},Tr P0 P H1 P' H'->A9 X.K Q0 P' H' σ' ρ'->JM i n t0 ds ρ'->∃xs,H' l=some (.lst xs)/\Aa X.K (del H' P') xs ds:=λ t' E' bp=>by
  obtain⟨v,fp,k1,k2,k3,k4⟩:=E'.ows i _ bp rfl;obtain⟨p2,x2,l2,aL,rfl,z1,z2,z3⟩:=NA (t0:=t0) (ds:=ds) (k2.toT rfl);have:=E'.pin i _ n bp rfl;rw[k1] at this;cases this;rw[gn] at z1;have z4:=t'.1 p _ g1;rw[z1] at z4;cases z4;exact⟨aL,z2,z3⟩
 refine⟨λ k m σ' H'=>m=ds.length-k/\k<=ds.length/\∃P' ρ',Tr P0 P H1 P' H'/\A9 X.K Q0 P' H' σ' ρ'/\gS X.K WX P0 P' H' Z (DH i n t0 ds (forM (FT i n t0 ds gt) gb (ds.drop k) ρ')),
  ⟨ds.length,by simp,zW _,P,_,Tr.refl,E1.Uw e1 k1 hn,by rw[ym];exact gS.tr h fB⟩,?_⟩
 rintro k m σ' H' ⟨rfl,hk,P',ρ',t',E',g'⟩;by_cases am:k<ds.length
 ·rw[CN am,forM] at g';by_cases d4:JM i n t0 ds ρ'
  rotate_left
  ·have e:FT i n t0 ds gt ds[k] ρ'=.bad:=if_neg d4;rw[e] at g';exact g'.elim
  have e:FT i n t0 ds gt ds[k] ρ'=gt ds[k] ρ':=if_pos d4;rw[e] at g';obtain⟨xs,k2,k5⟩:=look t' E' d4;obtain⟨x0,e6,fE⟩:=k5.get (zk am);refine .inr ⟨⟨xs,x0,.of k2,e6⟩,λ σ2 H2=>k+1<=ds.length/\∃P2 ρ2,Tr P0 P H1 P2 H2/\A9 X.K Q0 P2 H2 σ2 ρ2/\gS X.K WX P0 P2 H2 Z (DH i n t0 ds (forM (FT i n t0 ds gt) gb (ds.drop (k+1)) ρ2)),λ σ2 H2 hq=>⟨ds.length-(k+1),by omega,rfl,hq.1,hq.2⟩,λ v H2 y=>?_⟩;obtain⟨rfl,y⟩:=y;have ev:=y xs (.of k2);rw[e6] at ev;cases ev;refine a2 Q0 P' σ' H2 _ ρ' x0 ds[k] E' fE ?_;cases q1:gt ds[k] ρ' with
  |bad=>rw[q1] at g';exact g'
  |ex x=>rw[q1] at g';exact g'.elim
  |ok ρ1 =>
   rw[q1] at g';dsimp only at g';intro σ3 E3;refine b2 Q0 P' σ3 H2 _ ρ1 E3 ?_;cases q2:gb ρ1 with
   |bad|ex x=>rw[q2] at g';exact g'
   |ok o =>
    rw[q2] at g';cases o with
    |ret d|B3 d=>exact g'
    |Dm d ρ2=>exact g'.elim
    |next ρ2|cont ρ2=>exact λ σ4 H4 P4 t4 E4=>⟨am,P4,ρ2,t'.trans t4,E4,gS.tr g' t4⟩
    |brk ρ2 =>
     intro σ4 H4 P4 t4 E4;dsimp only [DH] at g';by_cases hz:JM i n t0 ds ρ2/\AJ n (ρ2.set i (some (.ow (.tree none (JL t0 ds)))))=true
     ·rw[if_pos hz] at g';exact g' σ4 H4 P4 t4 (E4.NC hG hz.1 hz.2)
     ·rw[if_neg hz] at g';exact g'.elim
 ·have e:k=ds.length:=by omega
  subst e;rw[List.drop_length,forM] at g';dsimp only [DH] at g';by_cases hz:JM i n t0 ds ρ'/\AJ n (ρ'.set i (some (.ow (.tree none (JL t0 ds)))))=true
  ·rw[if_pos hz] at g';obtain⟨xs,k2,k5⟩:=look t' E' hz.1;exact .inl ⟨⟨xs,.of k2,by rw[k5.length];exact zp _⟩,g' σ' H' P' Tr.refl (E'.NC hG hz.1 hz.2)⟩
  ·rw[if_neg hz] at g';exact g'.elim
end
section
variable {ρ:A5}{i n:Nat}{t0:OT}{ds:List D}
theorem JO {nx:A5->Prop}{rt:Out->Prop}{ex:Str->Prop}{gt:D->A5->M A5}{gb:A5->M Out}(h:ρ[i]?=some (some (.ow (.tree none (.tup [t0,.lst (ds.map .sh)])))))(hn:AJ n ρ=true)(I:Nat->A5->Prop)(h0:I 0 (ρ.set i (some (.ow (.tree (some n) (JL t0 ds))))))(hI:∀k ρ,I k ρ->JM i n t0 ds ρ)
 (step:∀k d ρ,ds[k]?=some d->I k ρ->∃ρ1,gt d ρ=.ok ρ1/\WP (gb ρ1) (I (k+1)) (λ o=>match o with | .cont ρ=>I (k+1) ρ | .ret d=>rt (.ret d) | .B3 c=>rt (.B3 c)|_=>False) ex)
 (done:∀ρ,I ds.length ρ->AJ n (ρ.set i (some (.ow (.tree none (JL t0 ds)))))=true/\nx (ρ.set i (some (.ow (.tree none (JL t0 ds)))))):WP (F5 i n [1] gt gb ρ) nx rt ex:=by
 unfold F5;simp only[h,AX,if_pos hn];have key:∀(r k:Nat) (ρ:A5),k+r=ds.length->I k ρ->WP (DH i n t0 ds (forM (FT i n t0 ds gt) gb (ds.drop k) ρ)) nx rt ex:=by
  intro r;induction r with
  |zero =>
   intro k ρ hk hi;have e:k=ds.length:=by omega
   subst e;rw[List.drop_length,forM];have hd:=done ρ hi;have e2:DH i n t0 ds (.ok (.next ρ))=.ok (.next (ρ.set i (some (.ow (.tree none (JL t0 ds)))))):=if_pos ⟨hI _ _ hi,hd.1⟩;rw[e2];exact hd.2
  |succ r ih =>
   intro k ρ hk hi;have am:k<ds.length:=by omega
   obtain⟨ρ1,h1,h2⟩:=step k ds[k] ρ (zk am) hi;have e2:FT i n t0 ds gt ds[k] ρ=.ok ρ1:=(if_pos (hI _ _ hi)).trans h1;rw[CN am,forM,e2];dsimp only;cases q:gb ρ1 with
   |bad|ex x=>rw[q] at h2;exact h2
   |ok oo =>
    rw[q] at h2;cases oo with
    |next ρ2|cont ρ2=>exact ih (k+1) ρ2 (by omega) h2
    |ret d|B3 c=>exact h2
    |Dm _ _|brk _=>exact h2.elim
 have:=key ds.length 0 _ (by omega) h0;rw[ym] at this;exact this
end
theorem Hh {f:Int->Int->M D}{a b:Int}:Au f (.int a) (.int b)=f a b:=rfl
theorem J5 {bs:List Bool}:L9 [.lst (bs.map D.bl)]=.ok (.bl (bs.all id)):=by unfold L9;dsimp only;rw[Fw]
theorem ND {bs:List Bool}:Sr [.lst (bs.map D.bl)]=.ok (.bl (bs.any id)):=by unfold Sr;dsimp only;rw[Fw]
noncomputable def J6 (d:D)(n:Int):Bool:=match d with
 | .int j=>decide (0<=j)&&decide (j<n)
 |_=>false
theorem Ux {ρ:A5}:IT 0 (none::ρ)=none::ρ:=rfl
theorem NE:∃T Q:Int,II (.int 10) (.int 60)=.ok (.int T)/\II (.int 982451653) (.int 7)=.ok (.int Q)/\1000000<T/\T.natAbs<2^200/\0<Q/\Q.natAbs<2^250:=⟨10^60,982451653^7,rfl,rfl,by decide,by decide,by decide,by decide⟩
noncomputable def B7:Int:=zo NE
theorem Hi:∃Q:Int,II (.int 10) (.int 60)=.ok (.int B7)/\II (.int 982451653) (.int 7)=.ok (.int Q)/\1000000<B7/\B7.natAbs<2^200/\0<Q/\Q.natAbs<2^250:=zc NE
noncomputable def Q7:Int:=zo Hi
theorem Hj:II (.int 10) (.int 60)=.ok (.int B7):=(zc Hi).1
theorem T1:II (.int 982451653) (.int 7)=.ok (.int Q7):=(zc Hi).2.1
theorem Bq:1000000<B7:=(zc Hi).2.2.1
theorem NF:B7.natAbs<2^200:=(zc Hi).2.2.2.1
theorem T2:Q7.natAbs<2^250:=(zc Hi).2.2.2.2.2
theorem Ky {i j:Int}{k l:Nat}(hi:i.natAbs<2^k)(hk:k<=1000)(hj:j.natAbs<2^l)(hl:l<=1000):GZ (.int i) (.int j)=.ok (.int (i*j)):=
 MM (.inl ⟨z9 (bits_le hi) (z9 hk (by decide)),z9 (bits_le hj) (z9 hl (by decide))⟩)
theorem JP {i j:Int}{k:Nat}(h0:0<=i)(h:i<=j)(hj:j.natAbs<2^k):i.natAbs<2^k:=by omega
theorem F6 {i:Int}:Dl (.int i) (.int B7)=.ok (.int (i%B7)):=AG (by have:=Bq;omega)
theorem NG {i:Int}:Dl (.int i) (.int (B7+7))=.ok (.int (i%(B7+7))):=AG (by have:=Bq;omega)
def cl:Nat->D->Prop
 |0,d=>LO d=false
 |n+1,d=>LO d=false/\∀ds,(d=.tup ds\/d=.lst ds)->∀e∈ds,cl n e
theorem cl.x {n:Nat}{d:D}(h:cl n d):LO d=false:=by cases n with | zero=>exact h | succ n=>exact h.1
theorem NH {n:Nat}{ds:List D}(h:∀e∈ds,cl n e):cl (n+1) (.tup ds):=⟨rfl,λ es e x hx=>by rcases e with e | e<;>cases e;exact h x hx⟩
theorem Rq {n:Nat}{ds:List D}(h:∀e∈ds,cl n e):cl (n+1) (.lst ds):=⟨rfl,λ es e x hx=>by rcases e with e | e<;>cases e;exact h x hx⟩
theorem Kz {n:Nat}{d:D}(h:LO d=false)(h2:∀ds,d≠.tup ds)(h3:∀ds,d≠.lst ds):cl n d:=by
 cases n with
 |zero=>exact h
 |succ n=>exact⟨h,λ ds e=>by rcases e with e|e;exact (h2 ds e).elim;exact (h3 ds e).elim⟩
theorem FU {n:Nat}{i:Int}:cl n (.int i):=Kz rfl (λ _ h=>by cases h) (λ _ h=>by cases h)
theorem Rr {n:Nat}:cl n .Av:=Kz rfl (λ _ h=>by cases h) (λ _ h=>by cases h)
theorem Rt {n:Nat}{l:Option Int}:cl n (Bj l):=by cases l;exact Rr;exact FU
theorem NI {n:Nat}:∀e∈([]:List D),cl n e:=λ e h=>by cases h
theorem Dk {n:Nat}{d:D}{ds:List D}(h:cl n d)(t:∀e∈ds,cl n e):∀e∈d::ds,cl n e:=λ e he=>by
 rcases zm.mp he with rfl|he
 ·exact h
 ·exact t e he
theorem T3 {n:Nat}{r:Road}:cl (n+1) (Bd r):=NH (Dk FU (Dk FU (Dk Rt (Dk FU NI))))
theorem Ru {n:Nat}{rs:List Road}:∀e∈rs.map Bd,cl (n+1) e:=λ e he=>by
 obtain⟨r,_,rfl⟩:=zU.mp he;exact T3
noncomputable def C1 (m:Int):D->Bool
 | .tup [a,b,l,w]=>J6 a m&&(J6 b m&&(!Ad a b&&((BF l||J6 l B7)&&J6 w B7)))
 |_=>false
noncomputable def CC:D->Bool
 | .tup [.int m,.lst rs]=>(J6 (.int m) 17 && !decide (m=0))&&(decide (rs.length<=60)&&(rs.map (C1 m)).all id)
 |_=>false
theorem Ly {n:D}:CC (.tup [n])=false:=by cases n<;>rfl
theorem JQ {n r z:D}{t:List D}:CC (.tup (n::r::z::t))=false:=by cases n<;>cases r<;>rfl
structure Bf (m:Nat)(r:Road):Prop where
 a0:0<=r.a
 a1:r.a<m
 b0:0<=r.b
 b1:r.b<m
 ab:r.a≠r.b
 l0:∀l,r.l=some l->0<=l/\l<B7
 w0:0<=r.w
 w1:r.w<B7
theorem Ed {i n:Int}(h0:0<=i)(h1:i<n):J6 (.int i) n=true:=by unfold J6;simp[h0,h1]
theorem Lz {m:Nat}{r:Road}(h:Bf m r):C1 m (Bd r)=true:=by
 unfold Bd C1;dsimp only;rw[Ed h.a0 h.a1,Ed h.b0 h.b1,Ed h.w0 h.w1];have:Ad (.int r.a) (.int r.b)=false:=by rw[Ad];simp[h.ab]
 rw[this];cases hl:r.l with
 |none=>rfl
 |some l=>have:=h.l0 l hl;rw[show Bj (some l)=.int l from rfl,Ed this.1 this.2];rfl
theorem NJ {m:Nat}{rs:List Road}(h1:1<=m)(h2:m<=16)(hl:rs.length<=60)(h:∀r∈rs,Bf m r):CC (Ap m rs)=true:=by
 unfold Ap CC;dsimp only;rw[Ed (by omega) (by omega),zj,decide_eq_true hl,decide_eq_false (by omega)];have:(((rs.map Bd).map (C1 m)).all id)=true:=by
  rw[List.all_eq_true];intro b hb;rw[List.map_map] at hb;obtain⟨r,hr,rfl⟩:=zU.mp hb;exact Lz (h r hr)
 rw[this];rfl
section
variable {α β:Type}{a b c d e f g:α}{x y:β}
theorem Uy:(if [a,b,c,d,e].length<=1000 then x else y)=x:=rfl
theorem Uz:(if [a,b,c,d,e,f].length<=1000 then x else y)=x:=rfl
theorem UA:(if [a,b,c,d,e,f,g].length<=1000 then x else y)=x:=rfl
theorem PF {t:Bool}:er (.Bc t [] [])=.Bc t [] []:=by simp[er,Jk]
end
theorem T4 {i:Nat}{ρ:A5}{a u:OT}{ts:List OT}(h:ρ[i]?=some (some (.ow (.tree none (.tup [a,.lst ts]))))):
 Gm i ρ=.ok []/\OW i ρ [] (.int 1)=.ok [1]/\BJ i ρ [1]=.ok ts/\Ez i ρ [1] (.lst (ts++[u]))=.ok (.next (ρ.set i (some (.ow (.tree none (.tup [a,.lst (ts++[u])])))))):=by
 refine⟨?_,?_,?_,?_⟩
 ·simp[Gm,IU,h,treeOf,Ea,kids]
 ·simp[OW,IU,h,treeOf,Ea,kids,Mf]
 ·simp[BJ,IU,h,treeOf,Ea,kids]
 ·rw[Kr h rfl];simp[DC,kids,E9,toCl]
noncomputable abbrev LA:=List ((Int×Int)×((Int×Int)×Option Int))
noncomputable def UB (v:(Int×Int)×Option Int):D:=.tup [cst (some v.1),Bj v.2]
noncomputable def Vo (A:LA):D:=.Bc true (A.map λ kv=>pD kv.1) (A.map λ kv=>UB kv.2)
noncomputable def V3 (A:LA):OT:=.Bc true (A.map λ kv=>pD kv.1) ((A.map λ kv=>UB kv.2).map .sh)
noncomputable abbrev CA:=List ((Int×Int)×(Int×Int))
noncomputable def Vp (C:CA):D:=.Bc true (C.map λ kv=>pD kv.1) (C.map λ kv=>cst (some kv.2))
noncomputable def Vq (C:CA):OT:=.Bc true (C.map λ kv=>pD kv.1) ((C.map λ kv=>cst (some kv.2)).map .sh)
noncomputable abbrev RA:=List (Int×(Int×Int))
noncomputable def Vr (R:RA):D:=.Bc false (R.map λ kv=>D.int kv.1) (R.map λ kv=>cst (some kv.2))
noncomputable def V4 (R:RA):OT:=.Bc false (R.map λ kv=>D.int kv.1) ((R.map λ kv=>cst (some kv.2)).map .sh)
theorem Rv (A:LA):er (V3 A)=Vo A:=HI
theorem Rw (C:CA):er (Vq C)=Vp C:=HI
theorem Rx (R:RA):er (V4 R)=Vr R:=HI
theorem LB {A:LA}{p:Option Nat}{ρ:A5}:H9 0 (some (.ow (.tree p (V3 A)))::ρ) []=.ok (true,A.map (λ kv=>pD kv.1),A.map λ kv=>UB kv.2):=DF
theorem LC {R:RA}{p:Option Nat}{ρ:A5}:H9 0 (some (.ow (.tree p (V4 R)))::ρ) []=.ok (false,R.map (λ kv=>D.int kv.1),R.map λ kv=>cst (some kv.2)):=DF
theorem PH (c:Co):Vi (.ok (.sh (cst c)))=.ok (.sh (cst c)):=by
 cases c<;>rfl
theorem UC {α:Type}{a b c d e f g h:D}{x y:α}:(if [a,b,c,d,e,f,g,h].length<=1000 then x else y)=x:=if_pos (by simp)
theorem T5 (r:Road):dp (.ok (Bd r))=.ok (Bd r):=by
 obtain⟨a,b,l,w⟩:=r;cases l<;>rfl
theorem Ry (i:Int):dp (.ok (.int i))=.ok (.int i):=rfl
theorem KA (m:Nat)(rs:List Road):er (.tup [.sh (.int m),.lst ((rs.map Bd).map .sh)])=Ap m rs:=by
 rw[er,Jk,Qg,Jk,Nf,Jk];rfl
theorem all_true {α:Type}(l:List α):L9 [.lst (l.map λ _=>D.bl true)]=.ok (.bl true):=by
 have e:(l.map λ _=>D.bl true)=(l.map λ _=>true).map D.bl:=by rw[List.map_map];rfl
 rw[e,J5];simp
noncomputable def jn (y:List Nat):List (List Nat)->List Nat
 |[]=>[]
 |[p]=>p
 |p::q::r=>p++y++jn y (q::r)
noncomputable abbrev tl (x:Str):List Nat:=x.cps.toList
theorem FV (x y:Str):tl (x++y)=tl x++tl y:=by
 show (x.cps++y.cps).toList=_;rw[Array.toList_append]
theorem JR {x y:Str}(h:tl x=tl y):x=y:=by
 obtain⟨a⟩:=x;obtain⟨b⟩:=y;exact congrArg Str.mk (Array.toList_inj.mp h)
theorem Cm (x:Str):(tl x).length=x.length:=yp
theorem Bx (y:Str):∀ps:List Str,tl (zX y ps)=jn (tl y) (ps.map tl)
 |[]=>rfl
 |[p]=>rfl
 |p::q::r=>by
  show tl (p++y++zX y (q::r))=_;rw[FV,FV,Bx y (q::r)];rfl
theorem Rz {c:Nat}{y:List Nat}:∀ {ps qs:List (List Nat)},ps≠[]->qs≠[]->(∀p∈ps,c∉p)->(∀q∈qs,c∉q)->jn (c::y) ps=jn (c::y) qs->ps=qs:=by
 have cut:∀ {p q R S:List Nat},c∉p->c∉q->p++c::R=q++c::S->p=q/\R=S:=by
  intro p;induction p with
  |nil =>
   intro q R S _ hq h;cases q with
   |nil=>cases h;exact⟨rfl,rfl⟩
   |cons b q=>cases h;exact (hq zd).elim
  |cons a p ih =>
   intro q R S hp hq h;cases q with
   |nil=>cases h;exact (hp zd).elim
   |cons b q =>
    injection h with h1 h2
    obtain⟨e1,e2⟩:=ih (λ z=>hp (ze _ z)) (λ z=>hq (ze _ z)) h2;rw[h1,e1];exact⟨rfl,e2⟩
 intro ps;induction ps with
 |nil=>intro qs h;exact (h rfl).elim
 |cons p ps ih =>
  intro qs _ hq e7 e8 h;cases qs with
  |nil=>exact (hq rfl).elim
  |cons q qs =>
   have np:=e7 p zd;have nq:=e8 q zd;cases ps with
   |nil =>
    cases qs with
    |nil=>rw[show p=q from h]
    |cons q2 qs =>
     exfalso;have h':p=q++(c::y)++jn (c::y) (q2::qs):=h;exact np (by rw[h'];simp)
   |cons p2 ps =>
    cases qs with
    |nil =>
     exfalso;have h':p++(c::y)++jn (c::y) (p2::ps)=q:=h;exact nq (by rw[<-h'];simp)
    |cons q2 qs =>
     have h':p++(c::y)++jn (c::y) (p2::ps)=q++(c::y)++jn (c::y) (q2::qs):=h;rw[yd,yd,List.cons_append,List.cons_append] at h';obtain⟨e1,e2⟩:=cut np nq h';have e3:=List.append_cancel_left e2;rw[e1,ih (List.cons_ne_nil _ _) (List.cons_ne_nil _ _) (λ z hz=>e7 z (ze _ hz)) (λ z hz=>e8 z (ze _ hz)) e3]
theorem FW:∀ {ps qs:List Str},ps.map tl=qs.map tl->ps=qs
 |[],[],_=>rfl
 |[],_::_,h|_::_,[],h=>by cases h
 |p::ps,q::qs,h=>by
  rw[zq,zq] at h;injection h with h1 h2
  rw[JR h1,FW h2]
theorem NK (x y:Str)(hy:1<=y.length):zV x y≠[]:=λ h=>by
 have e:=PySem.StrLaws.join_split x y;rw[h] at e;have e2:x=Str.empty:=e.symm;have e3:x.length=0:=by rw[e2];rfl
 rw[(EB x y).1 (by rw[Bool.or_eq_true];exact .inl (decide_eq_true (by omega)))] at h;cases h
theorem FX {c:Nat}{y:Str}{r:List Nat}{ps:List Str}(hy:tl y=c::r)(hp:ps≠[])(hf:∀p∈ps,c∉tl p)(hs:∀p∈zV (zX y ps) y,c∉tl p):zV (zX y ps) y=ps:=by
 have e:=congrArg tl (PySem.StrLaws.join_split (zX y ps) y);rw[Bx,Bx,hy] at e;have fF:1<=y.length:=by rw[<-Cm,hy];simp
 refine FW (Rz (c:=c) (y:=r) ?_ ?_ ?_ ?_ e)
 ·intro z;exact NK _ _ fF (List.map_eq_nil_iff.mp z)
 ·intro z;exact hp (List.map_eq_nil_iff.mp z)
 ·intro p hp;obtain⟨q,hq,rfl⟩:=zU.mp hp;exact hs q hq
 ·intro p hp;obtain⟨q,hq,rfl⟩:=zU.mp hp;exact hf q hq
theorem J7 {ps:List Str}(hp:ps≠[])(hf:∀p∈ps,32∉tl p):zV (zX (zb " ") ps) (zb " ")=ps:=
 FX (c:=32) (r:=[]) rfl hp hf (PySem.StrLaws.split_free (zX (zb " ") ps) 32)
theorem KC:∀ {ps:List (List Nat)},(∀p∈ps,59∉p)->∀k:Nat,(jn [59,32] ps)[k]?=some 59->(jn [59,32] ps)[k+1]?=some 32
 |[],_,k,h=>by cases h
 |[p],hf,k,h=>(hf p zd (zi h)).elim
 |p::q::r,hf,k,h=>by
  have h':(p++([59,32]++jn [59,32] (q::r)))[k]?=some 59:=by rw[<-yd];exact h
  have g:jn [59,32] (p::q::r)=p++([59,32]++jn [59,32] (q::r)):=by rw[<-yd];rfl
  rw[g];by_cases hk:k<p.length
  ·rw[yl hk] at h';exact (hf p zd (zi h')).elim
  ·rw[yk (by omega)] at h';rw[yk (by omega)];obtain⟨j,hj⟩:∃j,k=p.length+j:=⟨k-p.length,by omega⟩;subst hj;rw[Nat.add_sub_cancel_left] at h';rw[show p.length+j+1-p.length=j+1 by omega]
   match j,h' with
   |0,_=>rfl
   |1,h'=>cases h'
   |j+2,h'=>exact KC (λ z hz=>hf z (ze _ hz)) j h'
open PySem.Builtin.Str in
theorem RB {x:Str}{k:Nat}(h1:(tl x)[k]?=some 59)(h2:(tl x)[k+1]?=some 32):PySem.StrLaws.At x (zb "; ") x.length k:=by
 have hl:k+1<x.length:=by rw[<-Cm];exact (zw.mp h2).1
 refine⟨by show k+2<=x.length;omega,?_⟩;rw[PySem.StrLaws.subAt_eq];show ((x.cps.toList.drop k).take 2==[59,32])=true;have e:(x.cps.toList.drop k).take 2=[59,32]:=by
  rw[List.drop_eq_getElem?_toList_append,h1,List.drop_eq_getElem?_toList_append,h2];rfl
 rw[e];rfl
open PySem.Builtin.Str PySem.StrLaws in
theorem FY {x y:Str}{c:Nat}(h:∀k,(tl x)[k]?=some c->At x y x.length k){a b:Nat}(hn:∀k,a<=k->k<b->¬ At x y x.length k):c∉tl (strSub x a b):=by
 intro hm;unfold tl at hm;rw[strSub_toList] at hm;obtain⟨j,hj⟩:=List.getElem?_of_mem hm;have am:j<b-a:=by
  have h1:=(zw.mp hj).1;rw[yf] at h1;omega
 rw[List.getElem?_take_of_lt am,List.getElem?_drop] at hj;exact hn (a+j) (by omega) (by omega) (h (a+j) hj)
open PySem.Builtin.Str PySem.StrLaws in
theorem J8 {x y:Str}{c:Nat}(h:∀k,(tl x)[k]?=some c->At x y x.length k):∀(bh:List Nat) (a f:Nat),ChainG x y x.length a bh f->(∀k,f<=k->¬ At x y x.length k)->∀p∈partsFrom x y.length a bh,c∉tl p:=by
 intro bh;induction bh with
 |nil =>
  intro a f hc hn p hp;have e:f=a:=hc;subst e;rw[zv.mp hp];exact FY h λ k h1 _=>hn k h1
 |cons d r ih =>
  intro a f hc hn p hp;rcases zm.mp hp with rfl|bp
  ·exact FY h hc.2.2.1
  ·exact ih _ f hc.2.2.2 hn p bp
open PySem.Builtin.Str PySem.StrLaws in
theorem JS {ps:List Str}(hp:ps≠[])(hf:∀p∈ps,59∉tl p):zV (zX (zb "; ") ps) (zb "; ")=ps:=by
 refine FX (c:=59) (r:=[32]) rfl hp hf ?_;have hA:∀k,(tl (zX (zb "; ") ps))[k]?=some 59->At (zX (zb "; ") ps) (zb "; ") (zX (zb "; ") ps).length k:=λ k hk=>by
  refine RB hk ?_;rw[Bx] at hk ⊢;exact KC (λ p hp=>by obtain⟨q,hq,rfl⟩:=zU.mp hp;exact hf q hq) k hk
 generalize zX (zb "; ") ps=x at hA;obtain⟨f,hG,hn⟩:=occ_tight x (zb "; ") (by decide);obtain⟨q1,q2⟩:=EB x (zb "; ");have whole:(∀k,¬ At x (zb "; ") x.length k)->∀p∈[x],59∉tl p:=λ hz p hp=>by
  rw[zv.mp hp];intro hm;obtain⟨j,hj⟩:=List.getElem?_of_mem hm;exact hz j (hA j hj)
 cases h1:(decide (x.length<(zb "; ").length)||decide (strKind x<strKind (zb "; "))) with
 |true =>
  rw[q1 h1];refine whole λ k hk=>?_;rw[Bool.or_eq_true,decide_eq_true_eq,decide_eq_true_eq] at h1;rcases h1 with h1|h1
  ·have:=hk.1;omega
  ·have e:strKind (zb "; ")=1:=by decide +kernel
   rw[e] at h1;unfold PySem.Builtin.Str.strKind at h1;split at h1
   ·omega
   ·split at h1<;>omega
 |false =>
  obtain⟨q3,q4⟩:=q2 h1;cases h2:(occurrences x (zb "; ") 0 x.length (x.length+1)).isEmpty with
  |true =>
   rw[q3 h2];rw[List.isEmpty_iff.mp h2] at hG;have ef:f=0:=hG;subst ef;exact whole λ k=>hn k (zW _)
  |false =>
   rw[q4 h2,partsBetween_eq];exact J8 hA _ 0 f hG hn
open PySem PySem.Spec PyProof.Rows PySem.NumText
noncomputable def dg (m:Nat):List Nat:=(Nat.toDigits 10 m).map Char.toNat
theorem NL:∀d:Nat,d<10->(Nat.digitChar d).toNat=48+d:=by decide
theorem HN {m:Nat}(h:m<10):dg m=[48+m]:=by
 unfold dg;rw[Nat.toDigits_of_lt_base h,zq,NL m h];rfl
theorem HP {m:Nat}(h:¬ m<10):dg m=dg (m / 10)++[48+m%10]:=by
 have hm:m%10<10:=Nat.mod_lt m (by decide);have t:Nat.toDigits 10 (m / 10)++Nat.toDigits 10 (m%10)=Nat.toDigits 10 (10*(m / 10)+m%10):=Nat.toDigits_append_toDigits (by decide) (by omega) hm;rw[Nat.div_add_mod] at t;unfold dg;rw[<-t,List.map_append,Nat.toDigits_of_lt_base hm,zq,NL _ hm];rfl
theorem HQ (m:Nat):∀c∈dg m,48<=c/\c<=57:=by
 induction m using Nat.strongRecOn with
 |_ m ih =>
  intro c hc;by_cases h:m<10
  ·rw[HN h] at hc;rw[zv.mp hc];omega
  ·rw[HP h] at hc;rcases zx.mp hc with hc|hc
   ·exact ih _ (by omega) c hc
   ·rw[zv.mp hc];omega
theorem RC:∀(k m:Nat),m<10^(k+1)->1<=(dg m).length/\(dg m).length<=k+1:=by
 intro k;induction k with
 |zero =>
  intro m h;rw[HN (by omega)];exact⟨zp _,zp _⟩
 |succ k ih =>
  intro m h;by_cases h1:m<10
  ·rw[HN h1];exact⟨zp _,by show 1<=k+1+1;omega⟩
  ·rw[HP h1,zM];have:=ih (m / 10) (by rw[Nat.pow_succ] at h;omega);show 1<=_+1/\_+1<=k+1+1;omega
theorem PJ (m:Nat)(h0:m≠0):∃c r,dg m=c::r/\c≠48:=by
 induction m using Nat.strongRecOn with
 |_ m ih =>
  by_cases h:m<10
  ·rw[HN h];exact⟨_,_,rfl,by omega⟩
  ·rw[HP h];obtain⟨c,r,e,hc⟩:=ih (m / 10) (by omega) (by omega);rw[e];exact⟨c,r++[48+m%10],rfl,hc⟩
noncomputable def nS (i:Int):Str:=zb (toString i)
theorem FZ {i:Int}(h:0<=i):tl (nS i)=dg i.toNat:=by
 obtain⟨m,rfl⟩:=Int.eq_ofNat_of_zero_le h;unfold nS;rw[Int.toNat_natCast];exact PySem.W.KIN.signs_num m
theorem KD {i:Int}(h0:0<=i)(h1:i<B7):i.toNat<10^(59+1):=by
 have e:B7=((10^(59+1):Nat):Int):=by
  have e:=Hj.symm.trans (show II (.int 10) (.int 60)=.ok (.int ((10^(59+1):Nat):Int)) from rfl);injection e with e
  injection e
 rw[e] at h1;omega
theorem BK {i:Int}(h0:0<=i)(h1:i<B7):1<=(nS i).length/\(nS i).length<=60:=by
 rw[<-Cm,FZ h0];exact RC 59 _ (KD h0 h1)
theorem RD {i:Int}(h0:0<=i)(h1:i<B7):PySem.intText? (nS i)=some i:=by
 have hd:AllDigits (nS i).cps.toList:=λ c hc=>HQ _ c (by rw[<-FZ h0];exact hc);have hl:=BK h0 h1;have af:(nS i).cps.toList≠[]:=λ e=>by
  have:(tl (nS i)).length=0:=by unfold tl;rw[e];rfl
  rw[Cm] at this;omega
 have e:=intText_digits hd af (by omega);have e2:(nS i).cps.toList=dg i.toNat:=FZ h0;rw[e2] at e;have e3:digitsVal (dg i.toNat)=i.toNat:=PySem.W.KIN.val_back _;rw[e3] at e;rw[e];congr 1;omega
theorem Cn {i:Int}(h0:0<=i){c:Nat}(hc:c<48\/57<c):c∉tl (nS i):=λ h=>by
 rw[FZ h0] at h;have:=HQ _ c h;omega
theorem RE {i:Int}(h0:0<=i):((nS i).cps.all λ k=>decide (k<128))=true:=by
 rw[<-Array.all_toList];exact List.all_eq_true.mpr λ c hc=>decide_eq_true (by
  have:=HQ i.toNat c (by rw[<-FZ h0];exact hc);omega)
theorem KG:nS 0=zb "0" := by decide +kernel
theorem T6 {i:Int}(h0:0<=i)(hz:i≠0):∃c,(nS i).cps[0]?=some c/\c≠48:=by
 obtain⟨c,r,e,hc⟩:=PJ i.toNat (by omega);have e2:=FZ h0;rw[e] at e2;exact⟨c,by rw[<-Array.getElem?_toList];show (tl (nS i))[0]?=_;rw[e2];rfl,hc⟩
theorem NM:∀k:Nat,k<58->48<=k->Pw (.str ⟨#[k]⟩) (.str (zb "0123456789"))=.ok (.bl true):=by
 have:∀k:Nat,k<58->48<=k->(!(zE (zb "0123456789") ⟨#[k]⟩ 0 (zb "0123456789").length 1).isEmpty)=true:=by decide +kernel
 intro k h1 h2;unfold Pw;dsimp only;rw[this k h1 h2]
theorem KH {i:Int}(h0:0<=i)(h1:i<B7):i.natAbs.log2<1920:=by
 have h2:=KD h0 h1;have e:i.natAbs=i.toNat:=by omega
 rw[e];by_cases hz:i.toNat=0
 ·rw[hz];decide
 ·refine (Nat.log2_lt hz).mpr (Nat.lt_trans h2 ?_)
  decide +kernel
theorem By {i:Int}(h0:0<=i)(h1:i<B7):Kk [.int i]=.ok (.str (nS i)):=if_pos (KH h0 h1)
theorem HR {n:Nat}(x:Str):Pl n (.str x):=⟨zW _,rfl⟩
theorem KI (x y:Str):Oz 16 (.str x) (.str y)=.ok (.bl (x==y)):=by
 rw[Jz (HR x) (HR y)];rfl
theorem HS (x y:Str):OA 16 (.str x) (.str y)=.ok (.bl (!(x==y))):=by
 rw[JA (HR x) (HR y)];rfl
theorem str_beq {x y:Str}(h:x≠y):(x==y)=false:=beq_eq_false_iff_ne.mpr h
noncomputable def lS (l:Option Int):Str:=match l with | none=>zb "-" |some z=>nS z
noncomputable def JT (r:Road):List Str:=[zb "road",nS r.a,nS r.b,lS r.l,nS r.w]
noncomputable def BL (r:Road):Str:=zX (zb " ") (JT r)
noncomputable def BY (m:Int)(rs:List Road):Str:=zX (zb "; ") ((zb "places " ++ nS m)::rs.map BL)
section
variable {m:Nat}{r:Road}{rs:List Road}
theorem NN {l:Option Int}(h:∀z,l=some z->0<=z/\z<B7):1<=(lS l).length/\(lS l).length<=60:=by
 cases l with
 |none=>exact⟨by decide,by decide⟩
 |some z=>exact BK (h z rfl).1 (h z rfl).2
theorem PK {l:Option Int}(h:∀z,l=some z->0<=z/\z<B7){c:Nat}(hc:(c<48\/57<c)/\c≠45):c∉tl (lS l):=by
 cases l with
 |none =>
  intro hm;have e:tl (lS none)=[45]:=by decide +kernel
  rw[e] at hm;exact hc.2 (zv.mp hm)
 |some z=>exact Cn (h z rfl).1 hc.1
theorem Dn {i:Int}{k:Nat}(h:i<k)(hk:k<=1000000):i<B7:=by
 have:=Bq;omega
theorem KJ (hm:m<=16)(ok:Bf m r):∀p∈JT r,p.length<=60:=by
 intro p hp;simp only[JT,zm,List.not_mem_nil,or_false] at hp;rcases hp with rfl|rfl|rfl|rfl|rfl
 ·decide
 ·exact (BK ok.a0 (Dn ok.a1 (by omega))).2
 ·exact (BK ok.b0 (Dn ok.b1 (by omega))).2
 ·exact (NN ok.l0).2
 ·exact (BK ok.w0 ok.w1).2
theorem J9 (hm:m<=16)(ok:Bf m r){c:Nat}(hc:c=32\/c=59):∀p∈JT r,c∉tl p:=by
 intro p hp;have h1:c<48\/57<c:=by omega
 have h2:c≠45:=by omega
 simp only[JT,zm,List.not_mem_nil,or_false] at hp;rcases hp with rfl|rfl|rfl|rfl|rfl
 ·have e:tl (zb "road")=[114,111,97,100]:=by decide +kernel
  rw[e];rcases hc with rfl|rfl<;>decide
 ·exact Cn ok.a0 h1
 ·exact Cn ok.b0 h1
 ·exact PK ok.l0 ⟨h1,h2⟩
 ·exact Cn ok.w0 h1
theorem KL {c:Nat}{y:List Nat}(hy:c∉y):∀ {ps:List (List Nat)},(∀p∈ps,c∉p)->c∉jn y ps
 |[],_,h=>by cases h
 |[p],hf,h=>hf p zd h
 |p::q::r,hf,h=>by
  have h':c∈p++y++jn y (q::r):=h;rcases zx.mp h' with h'|h'
  ·rcases zx.mp h' with h'|h'
   ·exact hf p zd h'
   ·exact hy h'
  ·exact KL hy (λ z hz=>hf z (ze _ hz)) h'
theorem JU {y:List Nat}{B:Nat}:∀ {ps:List (List Nat)},(∀p∈ps,p.length<=B)->(jn y ps).length<=ps.length*(B+y.length)
 |[],_=>zW _
 |[p],hf=>by
  have:=hf p zd;show p.length<=1*(B+y.length);omega
 |p::q::r,hf=>by
  have h1:=hf p zd;have h2:=JU (y:=y) (ps:=q::r) (λ z hz=>hf z (ze _ hz));show (p++y++jn y (q::r)).length<=_;rw[zM,zM];have e:(p::q::r).length*(B+y.length)=(q::r).length*(B+y.length)+(B+y.length):=by rw[zt,Nat.succ_mul]
  omega
theorem KN (hm:m<=16)(ok:Bf m r):(BL r).length<=305:=by
 rw[<-Cm];unfold BL;rw[Bx];have:=JU (y:=tl (zb " ")) (B:=60) (ps:=(JT r).map tl) λ p hp=>by
  obtain⟨q,hq,rfl⟩:=zU.mp hp;rw[Cm];exact KJ hm ok q hq
 exact z9 this (by rw[zj];exact zp _)
theorem NO (hm:m<=16)(ok:Bf m r):59∉tl (BL r):=by
 unfold BL;rw[Bx];refine KL (by decide +kernel) λ p hp=>?_;obtain⟨q,hq,rfl⟩:=zU.mp hp;exact J9 hm ok (.inr rfl) q hq
theorem LD (hm:m<=16)(ok:Bf m r):zV (BL r) (zb " ")=JT r:=J7 (List.cons_ne_nil _ _) (J9 hm ok (.inl rfl))
theorem F7 {i:Int}(h0:0<=i)(h1:i<B7):(zb "places " ++ nS i).length<=67:=by
 rw[str_len];have:=(BK h0 h1).2;have e:(zb "places ").length=7:=by decide
 omega
theorem NP {i:Int}:zb "places " ++ nS i=zX (zb " ") [zb "places",nS i]:=by
 apply JR;rw[FV,Bx];show _=tl (zb "places")++tl (zb " ")++tl (nS i);congr 1
theorem LF {i:Int}(h0:0<=i):zV (zb "places " ++ nS i) (zb " ")=[zb "places",nS i]:=by
 rw[NP];refine J7 (List.cons_ne_nil _ _) λ p hp=>?_;simp only[zm,List.not_mem_nil,or_false] at hp;rcases hp with rfl|rfl
 ·decide +kernel
 ·exact Cn h0 (by omega)
theorem parts_free {i:Int}(h0:0<=i)(hm:m<=16)(Az:∀r∈rs,Bf m r):∀p∈(zb "places " ++ nS i)::rs.map BL,59∉tl p:=by
 intro p hp;rcases zm.mp hp with rfl|hp
 ·rw[FV];intro h;rcases zx.mp h with h|h
  ·revert h;decide +kernel
  ·exact Cn h0 (by omega) h
 ·obtain⟨r,hr,rfl⟩:=zU.mp hp;exact NO hm (Az r hr)
theorem LG {i:Int}(h0:0<=i)(hm:m<=16)(Az:∀r∈rs,Bf m r):zV (BY i rs) (zb "; ")=(zb "places " ++ nS i)::rs.map BL:=JS (List.cons_ne_nil _ _) (parts_free h0 hm Az)
theorem NQ {B:Nat}:∀ {ps:List Str},(∀p∈ps,p.length<=B)->(ps.map (·.length)).sum<=ps.length*B
 |[],_=>zW _
 |p::r,h=>by
  have h1:=h p zd;have h2:=NQ (ps:=r) λ z hz=>h z (ze _ hz);rw[zq,List.sum_cons,zt,Nat.succ_mul];show p.length+_<=_;omega
theorem G0 {z:Str}{ys:List Str}{B:Nat}(h:∀p∈ys,p.length<=B)(hb:ys.length*B+ys.length*z.length<=1000000):FQ z (.lst (ys.map D.str))=.ok (.str (zX z ys)):=by
 unfold FQ;dsimp only;rw[Hd];dsimp only;rw[if_pos (by have:=NQ h;omega)]
theorem EC (h1:1<=m)(hm:m<=16)(Az:∀r∈rs,Bf m r):∀p∈(zb "places " ++ nS m)::rs.map BL,p.length<=305:=by
 intro p hp;rcases zm.mp hp with rfl|hp
 ·exact z9 (F7 (by omega) (by have:=Bq;omega)) (by omega)
 ·obtain⟨r,hr,rfl⟩:=zU.mp hp;exact KN hm (Az r hr)
theorem PL (h1:1<=m)(hm:m<=16)(aF:rs.length<=60)(Az:∀r∈rs,Bf m r):(BY m rs).length<=100000:=by
 rw[<-Cm];unfold BY;rw[Bx];have:=JU (y:=tl (zb "; ")) (B:=305) (ps:=((zb "places " ++ nS m)::rs.map BL).map tl) λ p hp=>by
  obtain⟨q,hq,rfl⟩:=zU.mp hp;rw[Cm];exact EC h1 hm Az q hq
 refine z9 this ?_;rw[zj,zt,zj];have e:(tl (zb "; ")).length=2:=by decide +kernel
 rw[e];omega
theorem PM:zb "road " ++ nS r.a++zb " " ++ nS r.b++zb " " ++ lS r.l++zb " " ++ nS r.w=BL r:=by
 apply JR;unfold BL;rw[Bx];simp only[FV];have e:tl (zb "road ")=tl (zb "road")++tl (zb " "):=by decide +kernel
 rw[e];simp only[JT,zq,List.map_nil,jn,yd]
end
end L2
set_option maxHeartbeats 4000000
namespace bd
open PySem L2
noncomputable def top (i:Nat):Stmt:=PySem.Challenge.pw_nodeladder_k81_maps_written.main.body.getD i (.Pass ⟨0,0,0,0⟩)
noncomputable abbrev Bk:Stmt:=top 4
theorem Ee:Ak ["thing","bound"] ["thing","bound"] (A4 Bk):=⟨rfl,rfl,rfl,by decide +kernel,rfl,by decide +kernel,by decide +kernel⟩
noncomputable abbrev Cp:Stmt:=top 5
theorem Gp:Ak ["thing"] ["thing"] (A4 Cp):=⟨rfl,rfl,rfl,by decide +kernel,rfl,by decide +kernel,by decide +kernel⟩
noncomputable abbrev ED:Stmt:=top 6
theorem JV:Ak ["thing","many"] ["thing","many"] (A4 ED):=⟨rfl,rfl,rfl,by decide +kernel,rfl,by decide +kernel,by decide +kernel⟩
noncomputable abbrev G1:Stmt:=top 7
theorem EE:Ak ["thing","many","roads"] ["thing"] (A4 G1):=⟨rfl,rfl,rfl,by decide +kernel,rfl,by decide +kernel,by decide +kernel⟩
noncomputable abbrev CT:Stmt:=top 9
theorem HU:Ak ["word"] ["word"] (A4 CT):=⟨rfl,rfl,rfl,by decide +kernel,rfl,by decide +kernel,by decide +kernel⟩
noncomputable abbrev BM:Stmt:=top 10
theorem EV:Ak ["length"] ["length"] (A4 BM):=⟨rfl,rfl,rfl,by decide +kernel,rfl,by decide +kernel,by decide +kernel⟩
noncomputable abbrev Cq:Stmt:=top 11
theorem Gq:Ak ["road"] ["road"] (A4 Cq):=⟨rfl,rfl,rfl,by decide +kernel,rfl,by decide +kernel,by decide +kernel⟩
noncomputable abbrev CU:Stmt:=top 12
theorem Ef:Ak ["net","many"] ["net"] (A4 CU):=⟨rfl,rfl,rfl,by decide +kernel,rfl,by decide +kernel,by decide +kernel⟩
noncomputable abbrev Cr:Stmt:=top 13
theorem Dp:Ak ["part","first","count","words"] ["part","first","count"] (A4 Cr):=⟨rfl,rfl,rfl,by decide +kernel,rfl,by decide +kernel,by decide +kernel⟩
noncomputable abbrev C2:Stmt:=top 14
theorem G2:Ak ["word"] ["word"] (A4 C2):=⟨rfl,rfl,rfl,by decide +kernel,rfl,by decide +kernel,by decide +kernel⟩
noncomputable abbrev C3:Stmt:=top 15
theorem G3:Ak ["word"] ["word"] (A4 C3):=⟨rfl,rfl,rfl,by decide +kernel,rfl,by decide +kernel,by decide +kernel⟩
noncomputable abbrev CV:Stmt:=top 16
theorem Eg:Ak ["part","words"] ["part"] (A4 CV):=⟨rfl,rfl,rfl,by decide +kernel,rfl,by decide +kernel,by decide +kernel⟩
noncomputable abbrev DJ:Stmt:=top 17
theorem BZ:Ak ["text","parts","many","net"] ["text"] (A4 DJ):=⟨rfl,rfl,rfl,by decide +kernel,rfl,by decide +kernel,by decide +kernel⟩
noncomputable abbrev C4:Stmt:=top 19
theorem G4:Ak ["_law_script","_law_k"] ["_law_script","_law_k"] (A4 C4):=⟨rfl,rfl,rfl,by decide +kernel,rfl,by decide +kernel,by decide +kernel⟩
noncomputable abbrev Cs:Stmt:=top 20
theorem Gr:Ak ["_law_cell"] ["_law_cell"] (A4 Cs):=⟨rfl,rfl,rfl,by decide +kernel,rfl,by decide +kernel,by decide +kernel⟩
noncomputable abbrev EF:Stmt:=top 21
theorem B5:Ak ["_law_cells","_law_many","_law_roads","_law_cell","_law_start","_law_end","_law_mixed","_law_width"] ["_law_cells","_law_many"] (A4 EF):=⟨rfl,rfl,rfl,by decide +kernel,rfl,by decide +kernel,by decide +kernel⟩
noncomputable abbrev DK:Stmt:=top 22
theorem AD:Ak ["_law_plan","_law_parts","_law_start","_law_end","_law_length_here","_law_width","_law_word"] ["_law_plan"] (A4 DK):=⟨rfl,rfl,rfl,by decide +kernel,rfl,by decide +kernel,by decide +kernel⟩
noncomputable abbrev CW:Stmt:=top 23
theorem Ba:Ak ["_law_plan","_law_text_here","_law_found","_law_told","_law_road"] ["_law_plan"] (A4 CW):=⟨rfl,rfl,rfl,by decide +kernel,rfl,by decide +kernel,by decide +kernel⟩
noncomputable abbrev CD:Stmt:=top 24
theorem G5:Ak ["_law_script","_law_many","_law_plan","_law_before","_law_cut"] ["_law_script"] (A4 CD):=⟨rfl,rfl,rfl,by decide +kernel,rfl,by decide +kernel,by decide +kernel⟩
structure Txt (K:za)(mg:Str->Option Value):Prop where
 EG:AY K mg "is_whole_below" Bk ["thing","bound"]
 HV:AY K mg "is_measure" Cp ["thing"]
 LH:AY K mg "is_road" ED ["thing","many"]
 NR:AY K mg "is_map" G1 ["thing"]
 Ja:AY K mg "is_number" CT ["word"]
 G6:AY K mg "length_shown" BM ["length"]
 HW:AY K mg "road_shown" Cq ["road"]
 Jb:AY K mg "map_shown" CU ["net"]
 HX:AY K mg "words_read" Cr ["part","first","count"]
 Gs:AY K mg "number_read" C2 ["word"]
 Gu:AY K mg "length_read" C3 ["word"]
 Jc:AY K mg "road_read" CV ["part"]
 JW:AY K mg "map_read" DJ ["text"]
 Gv:AY K mg "_law_cell_at" C4 ["_law_script","_law_k"]
 HY:AY K mg "_law_length" Cs ["_law_cell"]
 LI:AY K mg "_law_map" EF ["_law_cells","_law_many"]
 JX:AY K mg "_law_text" DK ["_law_plan"]
 Jd:AY K mg "_law_right" CW ["_law_plan"]
 V5:AY K mg "law" CD ["_law_script"]
 NS:mg "all" = none
 NT:mg "bool" = none
 Qh:mg "int" = none
 Ao:mg "isinstance" = none
 G7:mg "len" = none
 JY:mg "list" = none
 CY:mg "str" = none
 F8:mg "tuple" = none
 Eh:ClsAt K mg "NoText"
local macro_rules | `(tactic| simp_arith [$xs,*])=>`(tactic| simp only [Vj,Vk,Pn,List.set_cons_zero,List.set_cons_succ,M.A6,Le,Ld,MS,Nb,Nc,Nd,Pa,HI,Nf,Qg,N2,N3,Lg,SH,P7,P8,N4,Uj,Lh,Li,JI,R9,DF,Ra,N5,N6,Lj,SI,N1,IQ,toCl_list,toCl_listP,toCl_dct,Pb,Ng,Nh,Ni,Nj,Pc,Nk,Nl,Nm,Ua,U9,N7,SJ,N8,SK,N9,Na,P9,SM,Vl,Vm,Um,Uo,Up,Uq,Ur,Us,toCl_nil,Sn,Kq,Jw,Rb,Lk,Pd,Pe,Nn,Np,Pf,Pg,Ph,Pj,Pk,Nq,Nr,Nv,Nw,Ll,Lm,Ln,Lo,Lp,Nx,Lq,Lr,SN,SO,SQ,SR,SS,Ls,ite_tt,ite_ff,Bool.not_true,Bool.not_false,List.getElem?_cons_zero,List.getElem?_cons_succ,Hh,J5,ND,Ul,Ux,Uk,Uy,Uz,UA,PF,Rv,Rw,Rx,LB,LC,PH,Rj,UC,T5,Ry,$xs,*])
variable {P:Program}{w:World}{K:za}{mg:Str->Option Value}{base:Heap}
theorem Bb:∃F:List D->M OT,(∀ {P w K mg base},Txt K mg->CB P w K mg base "is_whole_below" 1 2 F)/\(∀(d:D) (n:Int),LO d=false->F [d,.int n]=.ok (.sh (.bl (J6 d n)))):=by
 refine⟨_,λ T=>AI (k:=0) T.EG Ee _ (λ f Bh A outer s H E hr=>(A8 (Ac (As (Jx (BI (My _) rfl T.Ao rfl T.Qh (by decide +kernel) (A0 0 (pv 0))) (Jx (Mu (BI (GQ _) rfl T.Ao rfl T.NT (by decide +kernel) (A0 0 (pv 0)))) (HA (L7 M5 PY A1 (A0 0 (pv 0)) (A0 1 (pv 1)))))))))),?_⟩;intro d n hx;have e0:AB ["thing","bound"] [d,.int n]=[some (.val d),some (.val (.int n))]:=rfl;rw[e0];refine B1 ?_;simp_arith[IK hx];cases d with
 |int j =>
  simp_arith[];unfold J6;by_cases h1:0<=j<;>by_cases h2:j<n<;>simp[h1,h2,Cj,Hh]<;>rfl
 |BU x|ins x n d=>cases hx
 |_=>rfl
noncomputable def CF:List D->M OT:=zo Bb
theorem AK:Txt K mg->CB P w K mg base "is_whole_below" 1 2 CF:=(zc Bb).1
theorem AL:∀(d:D) (n:Int),LO d=false->CF [d,.int n]=.ok (.sh (.bl (J6 d n))):=(zc Bb).2
theorem C5:∃F:List D->M OT,(∀ {P w K mg base},Txt K mg->CB P w K mg base "is_measure" 2 1 F)/\(∀d:D,LO d=false->F [d]=.ok (.sh (.bl (J6 d B7)))):=by
 refine⟨_,λ T=>AI (k:=1) T.HV Gp _ (λ f Bh A outer s H E hr=>(A8 (Ac (Ae Af.toXCall (AK T) (hr.mono (by decide)) rfl (A2 (A0 0 (pv 0)) (A2 (DB A1 A1) Ab)) rfl)))),?_⟩;intro d hx;have e0:AB ["thing"] [d]=[some (.val d)]:=rfl;rw[e0];have h1:=AL d B7 hx;refine B1 ?_;simp_arith[Hj,h1];rfl
noncomputable def EL:List D->M OT:=zo C5
theorem Dq:Txt K mg->CB P w K mg base "is_measure" 2 1 EL:=(zc C5).1
theorem Dr:∀d:D,LO d=false->EL [d]=.ok (.sh (.bl (J6 d B7))):=(zc C5).2
theorem DL:∃F:List D->M OT,(∀ {P w K mg base},Txt K mg->CB P w K mg base "is_road" 3 2 F)/\(∀(d:D) (m:Int),cl 1 d->F [d,.int m]=.ok (.sh (.bl (C1 m d)))):=by
 refine⟨_,λ T=>AI (k:=2) T.LH JV _ (λ f Bh A outer s H E hr=>(A3 (AO (DW.dt (Cy (AH (AQ (c:=true) (BI (Cg _) rfl T.Ao rfl T.F8 (by decide +kernel) (A0 0 (pv 0))))) (BG (GN (c:=true) (BS hr 16 (by decide)) (Eu rfl T.G7 (A0 0 (pv 0))) A1)))) (A8 (Ac (As CL))) Am) (A3 (AO (DW.dt (Cy (AH (AQ (c:=true) (An (Ae Af.toXCall (AK T) (hr.mono (by decide)) rfl (A2 (Al (BS hr 16 (by decide)) (A0 0 (pv 0)) A1) (A2 (A0 1 (pv 1)) Ab)) rfl)))) (BG (AH (AQ (c:=true) (An (Ae Af.toXCall (AK T) (hr.mono (by decide)) rfl (A2 (Al (BS hr 16 (by decide)) (A0 0 (pv 0)) A1) (A2 (A0 1 (pv 1)) Ab)) rfl))))))) (A8 (Ac (As CL))) Am) (A3 (AO (IJ (c:=true) (BS hr 16 (by decide)) (Al (BS hr 16 (by decide)) (A0 0 (pv 0)) A1) (Al (BS hr 16 (by decide)) (A0 0 (pv 0)) A1)) (A8 (Ac (As CL))) Am) (A8 (Ac (As (Jx (Q9 (QQ (Al (BS hr 16 (by decide)) (A0 0 (pv 0)) A1)) (HA (An (Ae Af.toXCall (Dq T) (hr.mono (by decide)) rfl (A2 (Al (BS hr 16 (by decide)) (A0 0 (pv 0)) A1) Ab) rfl)))) (HA (An (Ae Af.toXCall (Dq T) (hr.mono (by decide)) rfl (A2 (Al (BS hr 16 (by decide)) (A0 0 (pv 0)) A1) Ab) rfl))))))))))),?_⟩;intro d m hc;have e0:AB ["thing","many"] [d,.int m]=[some (.val d),some (.val (.int m))]:=rfl;rw[e0];have hx:=hc.x;refine B1 ?_;cases d with
 |tup ds =>
  have bB:∀e∈ds,LO e=false:=λ e he=>(hc.2 ds (.inl rfl) e he).x;rcases ds with _|⟨a,_|⟨b,_|⟨l,_|⟨w,_|⟨z,r⟩⟩⟩⟩⟩
  ·rfl
  ·rfl
  ·rfl
  ·rfl
  ·have i0:Be (.tup [a,b,l,w]) (.int 0)=.ok a:=rfl;have i1:Be (.tup [a,b,l,w]) (.int 1)=.ok b:=rfl;have i2:Be (.tup [a,b,l,w]) (.int 2)=.ok l:=rfl;have i3:Be (.tup [a,b,l,w]) (.int 3)=.ok w:=rfl;have ha:=AL a m (bB a (by simp));have hb:=AL b m (bB b (by simp));have hl:=Dr l (bB l (by simp));have hw:=Dr w (bB w (by simp));apply wp_step
   ·rfl
   unfold C1;dsimp only;cases qa:J6 a m with
   |false=>simp_arith[i0,ha,qa,Cj];rfl
   |true =>
    cases qb:J6 b m with
    |false=>simp_arith[i0,i1,ha,hb,qa,qb,Cj];rfl
    |true =>
     apply wp_step
     ·simp_arith[i0,i1,ha,hb,qa,qb,Cj];rfl
     cases a with
     |int x =>
      cases b with
      |int y =>
       have he:Ad (.int x) (.int y)=decide (x=y):=by rw[Ad];by_cases h:x=y<;>simp[h]
       rw[he];by_cases d5:x=y
       ·simp_arith[i0,i1,decide_eq_true d5];rfl
       ·apply wp_step
        ·simp_arith[i0,i1,decide_eq_false d5];rfl
        rw[decide_eq_false d5];simp_arith[i2,i3,hl,hw];cases BF l<;>cases J6 l B7<;>cases J6 w B7<;>rfl
      |_=>cases qb
     |_=>cases qa
  ·have af:¬ (((a::b::l::w::z::r).length:Nat):Int)=4:=by simp only[zt];omega
   simp_arith[decide_eq_false af];rfl
 |BU x|ins x n d=>cases hx
 |_=>rfl
noncomputable def Je:List D->M OT:=zo DL
theorem JZ:Txt K mg->CB P w K mg base "is_road" 3 2 Je:=(zc DL).1
theorem K0:∀(d:D) (m:Int),cl 1 d->Je [d,.int m]=.ok (.sh (.bl (C1 m d))):=(zc DL).2
theorem EH:∃F:List D->M OT,(∀ {P w K mg base},Txt K mg->CB P w K mg base "is_map" 4 1 F)/\(∀d:D,cl 3 d->F [d]=.ok (.sh (.bl (CC d)))):=by
 refine⟨_,λ T=>AI (k:=3) T.NR EE _ (λ f Bh A outer s H E hr=>(A3 (AO (DW.dt (Cy (AH (AQ (c:=true) (BI (Cg _) rfl T.Ao rfl T.F8 (by decide +kernel) (A0 0 (pv 0))))) (BG (GN (c:=true) (BS hr 16 (by decide)) (Eu rfl T.G7 (A0 0 (pv 0))) A1)))) (A8 (Ac (As CL))) Am) (A3 (AF 1 EE.nd rfl (Or.inr rfl) (Al (BS hr 16 (by decide)) (A0 0 (pv 0)) A1)) (A3 (AF 2 EE.nd rfl (ya rfl) (Al (BS hr 16 (by decide)) (A0 0 (pv 0)) A1)) (A3 (AO (DW.dt (Cy (AH (AQ (c:=true) (An (Ae Af.toXCall (AK T) (hr.mono (by decide)) rfl (A2 (A0 1 (pv 1)) (A2 A1 Ab)) rfl)))) (BG (IJ (c:=true) (BS hr 16 (by decide)) (A0 1 (pv 1)) A1)))) (A8 (Ac (As CL))) Am) (A3 (AO (DW.dt (Cy (AH (AQ (c:=true) (BI (GP _) rfl T.Ao rfl T.JY (by decide +kernel) (A0 2 (pv 2))))) (BG (Q8 (c:=true) (Eu rfl T.G7 (A0 2 (pv 2))) A1)))) (A8 (Ac (As CL))) Am) (A8 (Ac (As (JB rfl rfl T.NS (An (Di (NB:=["road","many"]) [none,some 1] rfl (D9 (A0 2 (pv 2))) rfl rfl (Ca 0 (by decide) rfl rfl rfl) (λ _ _ _ _=>Dd) (λ _ _ _ _=>(An (CS (Ae (CO rfl).toXCall (JZ T) (hr.mono (by decide)) rfl (A2 (A0 0 (pv 0)) (A2 (A0 1 (pv 1)) Ab)) rfl)))))))))))))))),?_⟩;intro d hc;have e0:AB ["thing","many","roads"] [d]=[some (.val d),none,none]:=rfl;rw[e0];have hx:=hc.x;refine B1 ?_;cases d with
 |tup ds =>
  have bB:∀e∈ds,cl 2 e:=λ e he=>hc.2 ds (.inl rfl) e he;rcases ds with _|⟨n,_|⟨r,_|⟨z,t⟩⟩⟩
  ·rfl
  ·rw[Ly];rfl
  ·have i0:Be (.tup [n,r]) (.int 0)=.ok n:=rfl;have i1:Be (.tup [n,r]) (.int 1)=.ok r:=rfl;have hn:=AL n 17 (bB n (by simp)).x;have hr:=bB r (by simp);have e9:=hr.x;apply wp_step
   ·rfl
   apply wp_step
   ·simp_arith[i0];rfl
   apply wp_step
   ·simp_arith[i1];rfl
   cases qn:J6 n 17 with
   |false =>
    have e1:CC (.tup [n,r])=false:=by
     cases n with
     |int m=>cases r with
      |lst rs=>unfold CC;dsimp only;rw[qn];rfl
      |_=>rfl
     |_=>rfl
    rw[e1];simp_arith[hn,qn,Cj];rfl
   |true =>
    cases n with
    |int m =>
     by_cases hm:m=0
     ·have e1:CC (.tup [.int m,r])=false:=by
       cases r with
       |lst rs=>unfold CC;dsimp only;rw[decide_eq_true hm];simp
       |_=>rfl
      rw[e1];simp_arith[hn,qn,Cj,decide_eq_true hm];rfl
     ·apply wp_step
      ·simp_arith[hn,qn,Cj,decide_eq_false hm];rfl
      cases r with
      |lst rs =>
       by_cases hl:rs.length<=60
       ·have bP:¬ (60:Int)<(rs.length:Int):=by omega
        have br:rs.length<=1000:=by omega
        apply wp_step
        ·simp_arith[decide_eq_false bP];rfl
        simp_arith[if_pos br];rw[GW (λ d=>.bl (C1 m d)) rs]
        ·have e2:(rs.map λ d=>D.bl (C1 m d))=(rs.map (C1 m)).map D.bl:=by rw[List.map_map];rfl
         rw[e2];unfold CC;dsimp only;rw[qn,decide_eq_true hl,decide_eq_false hm];simp_arith[Bool.true_and];rfl
        ·intro d hd;have:=K0 d m (hr.2 rs (.inr rfl) d hd);exact⟨_,rfl,rfl,by simp_arith[this]⟩
       ·have bP:(60:Int)<(rs.length:Int):=by omega
        unfold CC;dsimp only;rw[decide_eq_false hl];simp_arith[decide_eq_true bP,Bool.false_and,Bool.and_false];rfl
      |BU x|ins x n d=>cases e9
      |_=>rfl
    |_=>cases qn
  ·have af:¬ (((n::r::z::t).length:Nat):Int)=2:=by simp only[zt];omega
   rw[JQ];simp_arith[decide_eq_false af];rfl
 |BU x|ins x n d=>cases hx
 |_=>rfl
noncomputable def HZ:List D->M OT:=zo EH
theorem LJ:Txt K mg->CB P w K mg base "is_map" 4 1 HZ:=(zc EH).1
theorem LK:∀d:D,cl 3 d->HZ [d]=.ok (.sh (.bl (CC d))):=(zc EH).2
theorem Ct:∃F:List D->M OT,(∀ {P w K mg base},Txt K mg->CB P w K mg base "is_number" 1 1 F)/\(∀i:Int,0<=i->i<B7->F [.str (nS i)]=.ok (.sh (.bl true))):=by
 refine⟨_,λ T=>AI (k:=0) T.Ja HU _ (λ f Bh A outer s H E hr=>(A3 (AO (DW.dt (Cy (AH (Lu (c:=true) M5 M5 A1 (Pr rfl T.G7 (A0 0 (pv 0))) A1)) (BG (AH (AQ (c:=true) (JB rfl rfl T.NS (An (Di (NB:=["sign"]) [none] rfl (Rp (A0 0 (pv 0))) rfl rfl (Ca 0 (by decide) rfl rfl rfl) (λ _ _ _ _=>Dd) (λ _ _ _ _=>(Rl (A0 0 (pv 0)) Aw)))))))))) (A8 (Ac (As CL))) Am) (A8 (Ac (As (Q9 (Mt (BS hr 16 (by decide)) (A0 0 (pv 0)) Aw) (HA (Si (BS hr 16 (by decide)) (Rm (A0 0 (pv 0)) A1) Aw)))))))),?_⟩;intro i h0 h1;have e0:AB ["word"] [.str (nS i)]=[some (.val (.str (nS i)))]:=rfl;rw[e0];refine B1 ?_;obtain⟨l1,l2⟩:=BK h0 h1;have hl:Kw [.str (nS i)]=.ok (.int (nS i).length):=if_pos (by omega);have hit:Uv (.str (nS i))=.ok ((tl (nS i)).map λ k=>D.str ⟨#[k]⟩):=if_pos (RE h0);have fG:((tl (nS i)).map λ k=>D.str ⟨#[k]⟩).length<=1000:=by rw[zj,Cm];omega
 have c1:decide ((1:Int)<=((nS i).length:Int))=true:=decide_eq_true (by omega);have c2:decide (((nS i).length:Int)<=60)=true:=decide_eq_true (by omega);refine wp_step (ρ':=[some (.val (.str (nS i)))]) (by
  simp_arith[hl,Au,c1,c2,if_true,hit,if_pos fG];rw[Ck (λ _:Nat=>D.bl true) (λ k hk=>⟨_,rfl,rfl,by
   have d6:=HQ i.toNat k (by rw[<-FZ h0];exact hk);have:=NM k (by omega) d6.1;simp_arith[this];try rfl⟩)]
  simp_arith[all_true,Cj];try rfl) ?_
 have q1:=KI (nS i) (zb "0");by_cases hz:i=0
 ·rw[hz,KG,beq_self_eq_true] at q1;rw[hz,KG];simp_arith[q1,Cj];rfl
 ·obtain⟨c,hc,eA⟩:=T6 h0 hz;have q2:=str_beq (x:=nS i) (y:=zb "0") λ e=>by
   rw[e] at hc;cases hc;exact eA rfl
  rw[q2] at q1;have q3:Px (.str (nS i)) (.int 0)=.ok (.str ⟨#[c]⟩):=by
   unfold Px;dsimp only;rw[if_pos ⟨by omega,by omega,by omega⟩];show (match (nS i).cps[0]? with|some k=>M.ok (D.str ⟨#[k]⟩)|none=>.bad)=_;rw[hc]
  have q4:=HS ⟨#[c]⟩ (zb "0");rw[str_beq (x:=⟨#[c]⟩) (y:=zb "0") λ e=>eA (by have:=congrArg (λ z:Str=>z.cps[0]?) e;exact zB this)] at q4;simp_arith[q1,q3,q4,Cj];rfl
noncomputable def G8:List D->M OT:=zo Ct
theorem I0:Txt K mg->CB P w K mg base "is_number" 1 1 G8:=(zc Ct).1
theorem I9:∀i:Int,0<=i->i<B7->G8 [.str (nS i)]=.ok (.sh (.bl true)):=(zc Ct).2
theorem Br:∃F:List D->M OT,(∀ {P w K mg base},Txt K mg->CB P w K mg base "length_shown" 1 1 F)/\(∀l:Option Int,(∀z,l=some z->0<=z/\z<B7)->F [Bj l]=.ok (.sh (.str (lS l)))):=by
 refine⟨_,λ T=>AI (k:=0) T.G6 EV _ (λ f Bh A outer s H E hr=>(A3 (AO (QR (c:=true) (A0 0 (pv 0))) (A8 (Ac (As Aw))) Am) (A8 (Ac (As (Bw rfl T.CY (A0 0 (pv 0)))))))),?_⟩;intro l h;have e0:AB ["length"] [Bj l]=[some (.val (Bj l))]:=rfl;rw[e0];refine B1 ?_;cases l with
 |none =>
  have hn:BF (Bj none)=true:=rfl;simp_arith[hn];rfl
 |some z =>
  have hn:BF (Bj (some z))=false:=rfl;have hs:=By (h z rfl).1 (h z rfl).2;have e:Bj (some z)=.int z:=rfl;refine wp_step (ρ':=[some (.val (Bj (some z)))]) (by simp_arith[hn];try rfl) ?_;simp_arith[e,hs];rfl
noncomputable def Ds:List D->M OT:=zo Br
theorem EW:Txt K mg->CB P w K mg base "length_shown" 1 1 Ds:=(zc Br).1
theorem EX:∀l:Option Int,(∀z,l=some z->0<=z/\z<B7)->Ds [Bj l]=.ok (.sh (.str (lS l))):=(zc Br).2
theorem C6:∃F:List D->M OT,(∀ {P w K mg base},Txt K mg->CB P w K mg base "road_shown" 2 1 F)/\(∀(m:Nat) (r:Road),m<=16->Bf m r->F [Bd r]=.ok (.sh (.str (BL r)))):=by
 refine⟨_,λ T=>AI (k:=1) T.HW Gq _ (λ f Bh A outer s H E hr=>(A8 (Ac (As (HL Aw (Jv (A2 Aw (A2 (Bw rfl T.CY (Al (BS hr 16 (by decide)) (A0 0 (pv 0)) A1)) (A2 (Bw rfl T.CY (Al (BS hr 16 (by decide)) (A0 0 (pv 0)) A1)) (A2 (An (Ae Af.toXCall (EW T) (hr.mono (by decide)) rfl (A2 (Al (BS hr 16 (by decide)) (A0 0 (pv 0)) A1) Ab) rfl)) (A2 (Bw rfl T.CY (Al (BS hr 16 (by decide)) (A0 0 (pv 0)) A1)) Ab))))))))))),?_⟩;intro m r hm ok;have e0:AB ["road"] [Bd r]=[some (.val (Bd r))]:=rfl;rw[e0];refine B1 ?_;have r0:Be (Bd r) (.int 0)=.ok (.int r.a):=rfl;have r1:Be (Bd r) (.int 1)=.ok (.int r.b):=rfl;have r2:Be (Bd r) (.int 2)=.ok (Bj r.l):=rfl;have r3:Be (Bd r) (.int 3)=.ok (.int r.w):=rfl;have sa:=By ok.a0 (Dn ok.a1 (by omega));have sb:=By ok.b0 (Dn ok.b1 (by omega));have sw:=By ok.w0 ok.w1;have sl:=EX r.l ok.l0;have hj:FQ (zb " ") (.lst [.str (zb "road"),.str (nS r.a),.str (nS r.b),.str (lS r.l),.str (nS r.w)])=.ok (.str (BL r)):=G0 (ys:=JT r) (B:=60) (KJ hm ok) (by show 5*60+5*(zb " ").length<=1000000;decide);simp_arith[Pz,r0,r1,r2,r3,sa,sb,sw,sl,hj];rfl
noncomputable def EM:List D->M OT:=zo C6
theorem Gw:Txt K mg->CB P w K mg base "road_shown" 2 1 EM:=(zc C6).1
theorem Gx:∀(m:Nat) (r:Road),m<=16->Bf m r->EM [Bd r]=.ok (.sh (.str (BL r))):=(zc C6).2
theorem Cu:∃F:List D->M OT,(∀ {P w K mg base},Txt K mg->CB P w K mg base "map_shown" 3 1 F)/\(∀(m:Nat) (rs:List Road),1<=m->m<=16->rs.length<=60->(∀r∈rs,Bf m r)->F [Ap m rs]=.ok (.sh (.str (BY m rs)))):=by
 refine⟨_,λ T=>AI (k:=2) T.Jb Ef _ (λ f Bh A outer s H E hr=>(A3 (AF 1 Ef.nd rfl (ya rfl) (Al (BS hr 16 (by decide)) (A0 0 (pv 0)) A1)) (A8 (Ac (As (HL Aw (An (P6 (Jv (A2 (PD (A0 1 (pv 1))) Ab)) (An (Di (NB:=["road"]) [none] rfl (D9 (Al (BS hr 16 (by decide)) (A0 0 (pv 0)) A1)) rfl rfl (Ca 0 (by decide) rfl rfl rfl) (λ _ _ _ _=>Dd) (λ _ _ _ _=>(An (CS (Ae (CO rfl).toXCall (Gw T) (hr.mono (by decide)) rfl (A2 (A0 0 (pv 0)) Ab) rfl)))))))))))))),?_⟩;intro m rs h1 hm aF Az;have e0:AB ["net","many"] [Ap m rs]=[some (.val (Ap m rs)),none]:=rfl;rw[e0];refine B1 ?_;have n0:Be (Ap m rs) (.int 0)=.ok (.int m):=rfl;have n1:Be (Ap m rs) (.int 1)=.ok (.lst (rs.map Bd)):=rfl;have hl:(rs.map Bd).length<=1000:=by rw[zj];omega
 have ht:=Bq;have hf:Ut (zb "places ") (.int m)=.ok (.str (zb "places " ++ nS m)):=if_pos ⟨KH (by omega) (by omega),by have:=F7 (i:=m) (by omega) (by omega);unfold nS at this;omega⟩;have hp:IS (.lst [.str (zb "places " ++ nS m)]) (.lst (rs.map λ r=>D.str (BL r)))=.ok (.lst ((((zb "places " ++ nS m)::rs.map BL).map D.str).map .sh)):=by
  have e:(rs.map λ r=>D.str (BL r))=(rs.map BL).map D.str:=by rw[List.map_map];rfl
  rw[e];unfold IS;dsimp only;rw[if_pos (by simp only[zj,zt,List.length_nil];omega)];rfl
 have hj:FQ (zb "; ") (.lst (((zb "places " ++ nS m)::rs.map BL).map D.str))=.ok (.str (BY m rs)):=G0 (B:=305) (EC h1 hm Az) (by
  have e:(zb "; ").length=2:=by decide
  rw[e,zt,zj];omega)
 refine wp_step (ρ':=[some (.val (Ap m rs)),some (.val (.int m))]) (by simp_arith[n0];try rfl) ?_;simp_arith[Pz,hf,n1,if_pos hl];rw[Ck (λ r:Road=>D.str (BL r)) (λ r hr=>⟨_,rfl,rfl,by
  have h:=Gx m r hm (Az r hr);simp_arith[h];try rfl⟩)]
 simp_arith[hp,hj];rfl
noncomputable def G9:List D->M OT:=zo Cu
theorem Ia:Txt K mg->CB P w K mg base "map_shown" 3 1 G9:=(zc Cu).1
theorem Ib:∀(m:Nat) (rs:List Road),1<=m->m<=16->rs.length<=60->(∀r∈rs,Bf m r)->G9 [Ap m rs]=.ok (.sh (.str (BY m rs))):=(zc Cu).2
theorem C7:∃F:List D->M OT,(∀ {P w K mg base},Txt K mg->CB P w K mg base "words_read" 1 3 F)/\(∀(x y:Str) (ws:List Str) (n:Nat),x.length<=100000->zV x (zb " ")=ws->ws[0]?=some y->ws.length=n->F [.str x,.str y,.int n]=.ok (.sh (.lst (ws.map D.str)))):=by
 refine⟨_,λ T=>AI (k:=0) T.HX Dp _ (λ f Bh A outer s H E hr=>(A3 (AF 3 Dp.nd rfl (ya rfl) (An (J4 (A0 0 (pv 0)) Aw))) (A3 (AO (DW.dt (Cy (GN (c:=true) (BS hr 16 (by decide)) (Al (BS hr 16 (by decide)) (A0 3 (pv 3)) A1) (A0 1 (pv 1))) (BG (GN (c:=true) (BS hr 16 (by decide)) (Eu rfl T.G7 (A0 3 (pv 3))) (A0 2 (pv 2)))))) (A8 (De (c:=true) T.Eh Af rfl rfl Aw)) Am) (A8 (Ac (As (A0 3 (pv 3)))))))),?_⟩;intro x y ws n hx hs h0 hn;have e0:AB ["part","first","count","words"] [.str x,.str y,.int n]=[some (.val (.str x)),some (.val (.str y)),some (.val (.int n)),none]:=rfl;rw[e0];refine B1 ?_;have hp:HM x (.str (zb " "))=.ok (.lst ((ws.map D.str).map .sh)):=by
  rw[<-hs];exact if_pos ⟨by decide,hx⟩
 have hi:Be (.lst (ws.map D.str)) (.int 0)=.ok (.str y):=HK (by decide) h0;have q:=HS y y;rw[beq_self_eq_true] at q;have hlen:((ws.map D.str).length:Int)=n:=by rw[zj,hn]
 have af:decide (((ws.map D.str).length:Int)=(n:Int))=true:=decide_eq_true hlen;refine wp_step (ρ':=[some (.val (.str x)),some (.val (.str y)),some (.val (.int n)),some (.val (.lst (ws.map D.str)))]) (by simp_arith[Pz,hp];try rfl) ?_;refine wp_step (ρ':=[some (.val (.str x)),some (.val (.str y)),some (.val (.int n)),some (.val (.lst (ws.map D.str)))]) (by simp_arith[hi,q,af,Cj];try rfl) ?_;simp_arith[];rfl
noncomputable def EN:List D->M OT:=zo C7
theorem Dt:Txt K mg->CB P w K mg base "words_read" 1 3 EN:=(zc C7).1
theorem Du:∀(x y:Str) (ws:List Str) (n:Nat),x.length<=100000->zV x (zb " ")=ws->ws[0]?=some y->ws.length=n->EN [.str x,.str y,.int n]=.ok (.sh (.lst (ws.map D.str))):=(zc C7).2
theorem BN:∃F:List D->M OT,(∀ {P w K mg base},Txt K mg->CB P w K mg base "number_read" 2 1 F)/\(∀i:Int,0<=i->i<B7->F [.str (nS i)]=.ok (.sh (.int i))):=by
 refine⟨_,λ T=>AI (k:=1) T.Gs G2 _ (λ f Bh A outer s H E hr=>(A3 (AO (AH (AQ (c:=true) (An (Ae Af.toXCall (I0 T) (hr.mono (by decide)) rfl (A2 (A0 0 (pv 0)) Ab) rfl)))) (A8 (De (c:=true) T.Eh Af rfl rfl Aw)) Am) (A8 (Ac (As (Pu rfl T.Qh (A0 0 (pv 0)))))))),?_⟩;intro i h0 h1;have e0:AB ["word"] [.str (nS i)]=[some (.val (.str (nS i)))]:=rfl;rw[e0];refine B1 ?_;have h:=I9 i h0 h1;have hi:J0 [.str (nS i)]=.ok (.int i):=by
  unfold J0;dsimp only;rw[RD h0 h1];exact if_pos (by have:=(BK h0 h1).2;omega)
 refine wp_step (ρ':=[some (.val (.str (nS i)))]) (by simp_arith[h,Cj];try rfl) ?_;simp_arith[hi];rfl
noncomputable def Ei:List D->M OT:=zo BN
theorem AR:Txt K mg->CB P w K mg base "number_read" 2 1 Ei:=(zc BN).1
theorem AS:∀i:Int,0<=i->i<B7->Ei [.str (nS i)]=.ok (.sh (.int i)):=(zc BN).2
theorem BO:∃F:List D->M OT,(∀ {P w K mg base},Txt K mg->CB P w K mg base "length_read" 3 1 F)/\(∀l:Option Int,(∀z,l=some z->0<=z/\z<B7)->F [.str (lS l)]=.ok (.sh (Bj l))):=by
 refine⟨_,λ T=>AI (k:=2) T.Gu G3 _ (λ f Bh A outer s H E hr=>(A3 (AO (IJ (c:=true) (BS hr 16 (by decide)) (A0 0 (pv 0)) Aw) (A8 (Ac (As Jt))) Am) (A8 (Ac (Ae Af.toXCall (AR T) (hr.mono (by decide)) rfl (A2 (A0 0 (pv 0)) Ab) rfl))))),?_⟩;intro l h;have e0:AB ["word"] [.str (lS l)]=[some (.val (.str (lS l)))]:=rfl;rw[e0];refine B1 ?_;have q:=KI (lS l) (zb "-");cases l with
 |none =>
  rw[show lS none=zb "-" from rfl,beq_self_eq_true] at q;have e:lS none=zb "-" := rfl;simp_arith[e,q];rfl
 |some z =>
  have hz:=h z rfl;rw[str_beq (x:=lS (some z)) (y:=zb "-") λ e=>Cn hz.1 (c:=45) (by omega) (by
   have e2:tl (nS z)=tl (zb "-"):=congrArg tl e;rw[e2]
   decide +kernel)] at q
  have h1:=AS z hz.1 hz.2;have e:lS (some z)=nS z:=rfl;refine wp_step (ρ':=[some (.val (.str (lS (some z))))]) (by simp_arith[q];try rfl) ?_;simp_arith[e,h1];rfl
noncomputable def Ej:List D->M OT:=zo BO
theorem Ga:Txt K mg->CB P w K mg base "length_read" 3 1 Ej:=(zc BO).1
theorem Gb:∀l:Option Int,(∀z,l=some z->0<=z/\z<B7)->Ej [.str (lS l)]=.ok (.sh (Bj l)):=(zc BO).2
theorem Cv:∃F:List D->M OT,(∀ {P w K mg base},Txt K mg->CB P w K mg base "road_read" 4 1 F)/\(∀(m:Nat) (r:Road),m<=16->Bf m r->F [.str (BL r)]=.ok (.sh (Bd r))):=by
 refine⟨_,λ T=>AI (k:=3) T.Jc Eg _ (λ f Bh A outer s H E hr=>(A3 (AF 1 Eg.nd rfl (ya rfl) (An (Ae Af.toXCall (Dt T) (hr.mono (by decide)) rfl (A2 (A0 0 (pv 0)) (A2 Aw (A2 A1 Ab))) rfl))) (A8 (Ac (As (Fu (A2 (An (Ae Af.toXCall (AR T) (hr.mono (by decide)) rfl (A2 (Al (BS hr 16 (by decide)) (A0 1 (pv 1)) A1) Ab) rfl)) (A2 (An (Ae Af.toXCall (AR T) (hr.mono (by decide)) rfl (A2 (Al (BS hr 16 (by decide)) (A0 1 (pv 1)) A1) Ab) rfl)) (A2 (An (Ae Af.toXCall (Ga T) (hr.mono (by decide)) rfl (A2 (Al (BS hr 16 (by decide)) (A0 1 (pv 1)) A1) Ab) rfl)) (A2 (An (Ae Af.toXCall (AR T) (hr.mono (by decide)) rfl (A2 (Al (BS hr 16 (by decide)) (A0 1 (pv 1)) A1) Ab) rfl)) Ab)))))))))),?_⟩;intro m r hm ok;have e0:AB ["part","words"] [.str (BL r)]=[some (.val (.str (BL r))),none]:=rfl;rw[e0];refine B1 ?_;have hw:=Du (BL r) (zb "road") (JT r) 5 (by have:=KN hm ok;omega) (LD hm ok) rfl rfl;have ht:=Bq;have r1:=AS r.a ok.a0 (Dn ok.a1 (by omega));have r2:=AS r.b ok.b0 (Dn ok.b1 (by omega));have r3:=Gb r.l ok.l0;have r4:=AS r.w ok.w0 ok.w1;have i1:Be (.lst ((JT r).map D.str)) (.int 1)=.ok (.str (nS r.a)):=rfl;have i2:Be (.lst ((JT r).map D.str)) (.int 2)=.ok (.str (nS r.b)):=rfl;have i3:Be (.lst ((JT r).map D.str)) (.int 3)=.ok (.str (lS r.l)):=rfl;have i4:Be (.lst ((JT r).map D.str)) (.int 4)=.ok (.str (nS r.w)):=rfl;refine wp_step (ρ':=[some (.val (.str (BL r))),some (.val (.lst ((JT r).map D.str)))]) (by
  have h5:(5:Int)=((5:Nat):Int):=rfl;simp_arith[h5,hw];try rfl) ?_
 simp_arith[i1,i2,i3,i4,r1,r2,r3,r4];rfl
noncomputable def Gd:List D->M OT:=zo Cv
theorem Ic:Txt K mg->CB P w K mg base "road_read" 4 1 Gd:=(zc Cv).1
theorem Ie:∀(m:Nat) (r:Road),m<=16->Bf m r->Gd [.str (BL r)]=.ok (.sh (Bd r)):=(zc Cv).2
theorem CZ:∃F:List D->M OT,(∀ {P w K mg base},Txt K mg->CB P w K mg base "map_read" 5 1 F)/\(∀(m:Nat) (rs:List Road),1<=m->m<=16->rs.length<=60->(∀r∈rs,Bf m r)->F [.str (BY m rs)]=.ok (.tup [.sh (.int m),.lst ((rs.map Bd).map .sh)])):=by
 refine⟨_,λ T=>AI (k:=4) T.JW BZ _ (λ f Bh A outer s H E hr=>(A3 (AO (AH (AQ (c:=true) (BI (IX _) rfl T.Ao rfl T.CY (by decide +kernel) (A0 0 (pv 0))))) (A8 (De (c:=true) T.Eh Af rfl rfl Aw)) Am) (A3 (AF 1 BZ.nd rfl (ya rfl) (An (J4 (A0 0 (pv 0)) Aw))) (A3 (AF 2 BZ.nd rfl (ya rfl) (An (Ae Af.toXCall (AR T) (hr.mono (by decide)) rfl (A2 (Al (BS hr 16 (by decide)) (An (Ae Af.toXCall (Dt T) (hr.mono (by decide)) rfl (A2 (Al (BS hr 16 (by decide)) (A0 1 (pv 1)) A1) (A2 Aw (A2 A1 Ab))) rfl)) A1) Ab) rfl))) (A3 (F4 3 BZ.nd rfl (ya rfl) (R5 (FC (As (A0 2 (pv 2))) (FC (Di (NB:=["part"]) [none] rfl (D9 (An (FG (A0 1 (pv 1)) (F3 A1) Ki))) rfl rfl (Ca 0 (by decide) rfl rfl rfl) (λ _ _ _ _=>Dd) (λ _ _ _ _=>(An (CS (Ae (CO rfl).toXCall (Ic T) (hr.mono (by decide)) rfl (A2 (A0 0 (pv 0)) Ab) rfl))))) HH)))) (A3 (AO (MT (AH (AQ (c:=true) (An (Ae Af.toXCall (LJ T) (hr.mono (by decide)) rfl (A2 (A0 3 (pv 3)) Ab) rfl))))) (A8 (De (c:=true) T.Eh Af rfl rfl Aw)) Am) (A8 (OV 3 (pv 3))))))))),?_⟩;intro m rs h1 hm aF Az;have e0:AB ["text","parts","many","net"] [.str (BY m rs)]=[some (.val (.str (BY m rs))),none,none,none]:=rfl;rw[e0];refine B1 ?_;have ht:=Bq;have hp:HM (BY m rs) (.str (zb "; "))=.ok (.lst ((((zb "places " ++ nS m)::rs.map BL).map D.str).map .sh)):=by
  rw[<-LG (m:=m) (rs:=rs) (i:=m) (by omega) hm Az];exact if_pos ⟨by decide,PL h1 hm aF Az⟩
 have hw:=Du (zb "places " ++ nS m) (zb "places") [zb "places",nS m] 2 (by have:=F7 (i:=m) (by omega) (by omega);omega) (LF (by omega)) rfl rfl;have hn:=AS m (by omega) (by omega);have i0:Be (.lst (((zb "places " ++ nS m)::rs.map BL).map D.str)) (.int 0)=.ok (.str (zb "places " ++ nS m)):=HK (by decide) rfl;have i1:Be (.lst ([zb "places",nS m].map D.str)) (.int 1)=.ok (.str (nS m)):=rfl;have sl:NV (some (1:Int)) none (.lst (((zb "places " ++ nS m)::rs.map BL).map D.str))=.ok (.lst ((rs.map λ r=>D.str (BL r)).map .sh)):=by
  have:=Nu (((zb "places " ++ nS m)::rs.map BL).map D.str) 1;have e:(((zb "places " ++ nS m)::rs.map BL).map D.str).drop 1=rs.map λ r=>D.str (BL r):=by
   rw[zq,List.drop_succ_cons,ym,List.map_map];rfl
  rw[e] at this;exact this
 have hl:(rs.map λ r=>D.str (BL r)).length<=1000:=by rw[zj];omega
 have cE:=KA m rs;have d7:HZ [Ap m rs]=.ok (.sh (.bl true)):=by
  rw[LK (Ap m rs) (NH (Dk FU (Dk (Rq Ru) NI))),NJ h1 hm aF Az]
 refine wp_step (ρ':=[some (.val (.str (BY m rs))),none,none,none]) (by simp_arith[];try rfl) ?_;refine wp_step (ρ':=[some (.val (.str (BY m rs))),some (.val (.lst (((zb "places " ++ nS m)::rs.map BL).map D.str))),none,none]) (by simp_arith[Pz,hp];try rfl) ?_;refine wp_step (ρ':=[some (.val (.str (BY m rs))),some (.val (.lst (((zb "places " ++ nS m)::rs.map BL).map D.str))),some (.val (.int m)),none]) (by
  have h2:(2:Int)=((2:Nat):Int):=rfl;simp_arith[i0,h2,hw,i1,hn];try rfl) ?_
 refine wp_step (ρ':=[some (.val (.str (BY m rs))),some (.val (.lst (((zb "places " ++ nS m)::rs.map BL).map D.str))),some (.val (.int m)),some (.ow (.tree none (.tup [.sh (.int m),.lst ((rs.map Bd).map .sh)])))]) (by
  simp_arith[sl,if_pos hl];rw[Ck Bd (λ r hr=>⟨_,rfl,rfl,by
   have h:=Ie m r hm (Az r hr);simp_arith[h];try rfl⟩)]
  try rfl) ?_
 refine wp_step (ρ':=[some (.val (.str (BY m rs))),some (.val (.lst (((zb "places " ++ nS m)::rs.map BL).map D.str))),some (.val (.int m)),some (.ow (.tree none (.tup [.sh (.int m),.lst ((rs.map Bd).map .sh)])))]) (by simp_arith[cE,d7,Cj];try rfl) ?_;simp_arith[];exact⟨_,rfl,rfl⟩
noncomputable def Hk:List D->M OT:=zo CZ
theorem EO:Txt K mg->CB P w K mg base "map_read" 5 1 Hk:=(zc CZ).1
theorem Jf:∀(m:Nat) (rs:List Road),1<=m->m<=16->rs.length<=60->(∀r∈rs,Bf m r)->Hk [.str (BY m rs)]=.ok (.tup [.sh (.int m),.lst ((rs.map Bd).map .sh)]):=(zc CZ).2
theorem BP:∃F:List D->M OT,(∀ {P w K mg base},Txt K mg->CB P w K mg base "_law_cell_at" 1 2 F)/\(∀(ns:List Int) (k:Nat),∃v:Int,(0<=v/\v<B7)/\F [.lst (ns.map D.int),.int k]=.ok (.sh (.int v))):=by
 refine⟨_,λ T=>AI (k:=0) T.Gv G4 _ (λ f Bh A outer s H E hr=>(A3 (AO (Q6 (c:=true) (A0 1 (pv 1)) (Eu rfl T.G7 (A0 0 (pv 0)))) (A8 (Ac (As (AN (Al (BS hr 16 (by decide)) (A0 0 (pv 0)) (A0 1 (pv 1))) (DB A1 A1))))) Am) (A8 (Ac (As A1))))),?_⟩;intro ns k;have e0:AB ["_law_script","_law_k"] [.lst (ns.map D.int),.int k]=[some (.val (.lst (ns.map D.int))),some (.val (.int k))]:=rfl;rw[e0];have ht:=Bq;by_cases hk:(k:Int)<((ns.map D.int).length:Int)
 ·have d6:=hk;rw[zj] at d6;have i1:Be (.lst (ns.map D.int)) (.int k)=.ok (.int (ns[k]'(by omega))):=HK (by omega) (by rw[Int.toNat_natCast];exact zk _);refine⟨ns[k]'(by omega)%B7,⟨zJ _ (by omega),zI _ (by omega)⟩,B1 ?_⟩;simp_arith[decide_eq_true hk,i1,Hj,F6];rfl
 ·refine⟨0,⟨by omega,by omega⟩,B1 ?_⟩;simp_arith[decide_eq_false hk];rfl
noncomputable def Bz:List D->M OT:=zo BP
theorem D1:Txt K mg->CB P w K mg base "_law_cell_at" 1 2 Bz:=(zc BP).1
theorem D2:∀(ns:List Int) (k:Nat),∃v:Int,(0<=v/\v<B7)/\Bz [.lst (ns.map D.int),.int k]=.ok (.sh (.int v)):=(zc BP).2
theorem C8:∃F:List D->M OT,(∀ {P w K mg base},Txt K mg->CB P w K mg base "_law_length" 1 1 F)/\(∀c:Int,0<=c->c.natAbs<2^250->∃l:Option Int,(∀z,l=some z->0<=z/\z<B7)/\F [.int c]=.ok (.sh (Bj l))):=by
 refine⟨_,λ T=>AI (k:=0) T.HY Gr _ (λ f Bh A outer s H E hr=>(A3 (AO (IJ (c:=true) (BS hr 16 (by decide)) (AN (A0 0 (pv 0)) A1) A1) (A8 (Ac (As Jt))) Am) (A3 (AO (Q6 (c:=true) (AN (A0 0 (pv 0)) A1) A1) (A8 (Ac (As (AN (BV (A0 0 (pv 0)) A1) A1)))) Am) (A3 (AO (IJ (c:=true) (BS hr 16 (by decide)) (AN (A0 0 (pv 0)) A1) A1) (A8 (Ac (As (AN (BV (A0 0 (pv 0)) A1) A1)))) Am) (A8 (Ac (As (AN (Kj (BV (A0 0 (pv 0)) A1) (DB A1 A1)) (DB A1 A1))))))))),?_⟩;intro c h0 hb;have e0:AB ["_law_cell"] [.int c]=[some (.val (.int c))]:=rfl;rw[e0];have ht:=Bq;have w1:Dl (.int c) (.int 6)=.ok (.int (c%6)):=AG (by decide);have w2:EJ (.int c) (.int 6)=.ok (.int (c / 6)):=Cb ⟨by decide,by decide⟩;have w3:Dl (.int (c / 6)) (.int 4)=.ok (.int (c / 6%4)):=AG (by decide);have w4:Dl (.int (c / 6)) (.int 101)=.ok (.int (c / 6%101)):=AG (by decide);have w5:GZ (.int (c / 6)) (.int Q7)=.ok (.int (c / 6*Q7)):=Ky (JP (j:=c) (by omega) (by omega) hb) (by decide) T2 (by decide);by_cases c0:c%6=0
 ·refine⟨none,(λ z e=>by cases e),B1 ?_⟩;simp_arith[w1,decide_eq_true c0];rfl
 by_cases c1:c%6<3
 ·refine⟨some (c / 6%4),(λ z e=>by cases e;omega),B1 ?_⟩;apply wp_step
  ·simp_arith[w1,decide_eq_false c0];rfl
  simp_arith[w1,w2,w3,decide_eq_true c1];rfl
 by_cases c2:c%6=3
 ·refine⟨some (c / 6%101),(λ z e=>by cases e;omega),B1 ?_⟩;apply wp_step
  ·simp_arith[w1,decide_eq_false c0];rfl
  apply wp_step
  ·simp_arith[w1,decide_eq_false c1];rfl
  simp_arith[w1,w2,w4,decide_eq_true c2];rfl
 ·refine⟨some (c / 6*Q7%B7),(λ z e=>by cases e;exact⟨zJ _ (by omega),zI _ (by omega)⟩),B1 ?_⟩;apply wp_step
  ·simp_arith[w1,decide_eq_false c0];rfl
  apply wp_step
  ·simp_arith[w1,decide_eq_false c1];rfl
  apply wp_step
  ·simp_arith[w1,decide_eq_false c2];rfl
  simp_arith[w2,T1,w5,Hj,F6];rfl
noncomputable def EQ:List D->M OT:=zo C8
theorem Gy:Txt K mg->CB P w K mg base "_law_length" 1 1 EQ:=(zc C8).1
theorem Gz:∀c:Int,0<=c->c.natAbs<2^250->∃l:Option Int,(∀z,l=some z->0<=z/\z<B7)/\EQ [.int c]=.ok (.sh (Bj l)):=(zc C8).2
theorem DM:∃F:List D->M OT,(∀ {P w K mg base},Txt K mg->CB P w K mg base "_law_map" 2 2 F)/\(∀(cs:List Int) (m:Nat),1<=m->m<=16->cs.length<=60->(∀c∈cs,0<=c/\c<B7)->∃rs:List Road,rs.length<=60/\(∀r∈rs,Bf m r)/\F [.lst (cs.map D.int),.int m]=.ok (.sh (Ap m rs))):=by
 refine⟨_,λ T=>AI (k:=1) T.LI B5 _ (λ f Bh A outer s H E hr=>(A3 (F4 2 B5.nd rfl (ya rfl) (MR HH)) (A3 (MD Af.toXCall.own rfl (D9 (A0 0 (pv 0))) (D8 3 B5.nd rfl (ya rfl)) (A8 (AO (Q8 (c:=true) (A0 1 (pv 1)) A1) (A3 (AF 4 B5.nd rfl (ya rfl) (AN (A0 3 (pv 3)) (A0 1 (pv 1)))) (A3 (AF 5 B5.nd rfl (ya rfl) (AN (Ft (Ft (A0 4 (pv 4)) A1) (AN (BV (A0 3 (pv 3)) A1) (QP (A0 1 (pv 1)) A1))) (A0 1 (pv 1)))) (A3 (AF 6 B5.nd rfl (ya rfl) (AN (Kj (A0 3 (pv 3)) A1) (Ft (DB A1 A1) A1))) (A3 (AF 7 B5.nd rfl (ya rfl) (Al (BS hr 16 (by decide)) (Jv (A2 (AN (BV (A0 6 (pv 6)) A1) A1) (A2 (AN (BV (A0 6 (pv 6)) A1) (DB A1 A1)) Ab))) (AN (BV (A0 6 (pv 6)) A1) A1))) (A8 (GR 2 (pv 2) (Fu (A2 (A0 4 (pv 4)) (A2 (A0 5 (pv 5)) (A2 (An (Ae Af.toXCall (Gy T) (hr.mono (by decide)) rfl (A2 (BV (A0 6 (pv 6)) A1) Ab) rfl)) (A2 (A0 7 (pv 7)) Ab))))))))))) Am))) (A8 (MV 2 (Ac (As (Fu (A2 (A0 1 (pv 1)) (A2 (A0 2 (pv 2)) Ab)))))))))),?_⟩;intro cs m hm bH hl hc;have e0:AB ["_law_cells","_law_many","_law_roads","_law_cell","_law_start","_law_end","_law_mixed","_law_width"] [.lst (cs.map D.int),.int m]=[some (.val (.lst (cs.map D.int))),some (.val (.int m)),none,none,none,none,none,none]:=rfl;rw[e0];refine (λ h:∃t,_/\∃rs:List Road,t=OT.sh (Ap m rs)/\rs.length<=60/\(∀r∈rs,Bf m r)=>by
  obtain⟨t,h1,R,rfl,h2,h3⟩:=h;exact⟨R,h2,h3,h1⟩) (Qf ?_)
 have ht:=Bq;apply wp_step
 ·rfl
 try simp only[List.set_cons_zero,zP]
 refine JH (I:=λ ρ=>∃(rs:List Road) (s3 s4 s5 s6 s7:Option Cl),ρ=[some (.val (.lst (cs.map D.int))),some (.val (.int m)),some (.own (rs.map Bd)),s3,s4,s5,s6,s7]/\rs.length<=60/\∀r∈rs,Bf m r) ?_ ?_
 ·simp_arith[];refine N0 (λ i ρ=>i<=60/\∃(rs:List Road) (s3 s4 s5 s6 s7:Option Cl),ρ=[some (.val (.lst (cs.map D.int))),some (.val (.int m)),some (.own (rs.map Bd)),s3,s4,s5,s6,s7]/\rs.length<=i/\∀r∈rs,Bf m r) ⟨by omega,[],none,none,none,none,none,rfl,by simp,λ r hr=>by cases hr⟩ ?_ ?_
  ·rintro i d ρ hd ⟨_,rs,s3,s4,s5,s6,s7,rfl,aF,bL⟩;obtain⟨c,eB,rfl⟩:=FJ hd;have hi:=(zw.mp eB).1;obtain⟨c0,c1⟩:=hc c (zi eB);refine⟨_,rfl,?_⟩;by_cases hg:(1:Int)<(m:Int)
   ·have cF:(0:Int)<(m:Int):=by omega
    have cu:(0:Int)<(m:Int)-1:=by omega
    obtain⟨a,ha⟩:∃a,a=c%(m:Int):=⟨_,rfl⟩;have a0:0<=a:=by rw[ha];exact zJ _ (by omega)
    have a1:a<m:=by rw[ha];exact zI _ cF
    obtain⟨s,hs⟩:∃s,s=c / 16%((m:Int)-1):=⟨_,rfl⟩;have s0:0<=s:=by rw[hs];exact zJ _ (by omega)
    have s1:s<(m:Int)-1:=by rw[hs];exact zI _ cu
    obtain⟨b,hb⟩:∃b,b=(a+1+s)%(m:Int):=⟨_,rfl⟩;have b0:0<=b:=by rw[hb];exact zJ _ (by omega)
    have b1:b<m:=by rw[hb];exact zI _ cF
    have fH:a≠b:=by
     have:=Rc (a:=a) (s:=1+s) (m:=m) a0 a1 (by omega) (by omega);rw[hb,Int.add_assoc];exact λ z=>this z.symm
    obtain⟨x,hx⟩:∃x,x=c*48271%(B7+7):=⟨_,rfl⟩;have x0:0<=x:=by rw[hx];exact zJ _ (by omega)
    have x1:x<B7+7:=by rw[hx];exact zI _ (by omega)
    have ma:Dl (.int c) (.int m)=.ok (.int a):=by rw[ha];exact AG cF
    have fI:Mq (.int a) (.int 1)=.ok (.int (a+1)):=rfl;have fJ:EJ (.int c) (.int 16)=.ok (.int (c / 16)):=Cb ⟨by decide,by decide⟩;have sb:QO (.int (m:Int)) (.int 1)=.ok (.int ((m:Int)-1)):=rfl;have ms:Dl (.int (c / 16)) (.int ((m:Int)-1))=.ok (.int s):=by rw[hs];exact AG cu
    have fK:Mq (.int (a+1)) (.int s)=.ok (.int (a+1+s)):=rfl;have mb:Dl (.int (a+1+s)) (.int m)=.ok (.int b):=by rw[hb];exact AG cF
    have mu:GZ (.int c) (.int 48271)=.ok (.int (c*48271)):=Ky (k:=200) (l:=20) (JP c0 (by omega) NF) (by decide) (by decide) (by decide);have fL:Mq (.int B7) (.int 7)=.ok (.int (B7+7)):=rfl;have mx:Dl (.int (c*48271)) (.int (B7+7))=.ok (.int x):=by rw[hx];exact NG
    have f6:EJ (.int x) (.int 600)=.ok (.int (x / 600)):=Cb ⟨by decide,by decide⟩;have f1:EJ (.int x) (.int 100)=.ok (.int (x / 100)):=Cb ⟨by decide,by decide⟩;have f7:EJ (.int x) (.int 7)=.ok (.int (x / 7)):=Cb ⟨by decide,by decide⟩;have m5:Dl (.int (x / 600)) (.int 5)=.ok (.int (x / 600%5)):=AG (by decide);have m2:Dl (.int (x / 100)) (.int 2)=.ok (.int (x / 100%2)):=AG (by decide);have b6:0<=x / 600%B7/\x / 600%B7<B7:=⟨zJ _ (by omega),zI _ (by omega)⟩;obtain⟨w,w0,w1,hw⟩:∃w,0<=w/\w<B7/\Be (.lst [.int (x / 600%5),.int (x / 600%B7)]) (.int (x / 100%2))=.ok (.int w):=by
     have h:x / 100%2=0\/x / 100%2=1:=by omega
     rcases h with h|h
     ·rw[h];exact⟨x / 600%5,by omega,by omega,rfl⟩
     ·rw[h];exact⟨x / 600%B7,b6.1,b6.2,rfl⟩
    obtain⟨l,fM,hle⟩:=Gz (x / 7) (by omega) (Nat.lt_trans (JP (j:=B7) (by omega) (by omega) NF) (Nat.pow_lt_pow_right (by decide) (by decide)));have aX:(rs.map Bd).length<1000:=by rw[zj];omega
    refine Ks (ρ':=[some (.val (.lst (cs.map D.int))),some (.val (.int m)),some (.own ((rs++[Road.mk a b l w]).map Bd)),some (.val (.int c)),some (.val (.int a)),some (.val (.int b)),some (.val (.int x)),some (.val (.int w))]) ?_ ⟨by omega,_,_,_,_,_,_,rfl,by rw[zM];simp;omega,λ r hr=>?_⟩
    ·simp_arith[decide_eq_true hg];have z1:∀(A B:M Out),(if (True:Prop) then A else B)=A:=λ A B=>if_pos trivial;simp_arith[MA,ma,fI,fJ,sb,ms,fK,mb,mu,Hj,fL,mx,f6,f1,f7,m5,m2,F6,hw,hle,if_pos aX,z1];rw[List.map_append];rfl
    ·rcases zx.mp hr with hr|hr
     ·exact bL r hr
     ·rw[zv.mp hr];exact⟨a0,a1,b0,b1,fH,fM,w0,w1⟩
   ·refine Ks (ρ':=_) (by simp_arith[decide_eq_false hg];try rfl) ⟨by omega,rs,_,_,_,_,_,rfl,by omega,bL⟩
  ·rintro ρ ⟨_,rs,s3,s4,s5,s6,s7,rfl,aF,bL⟩;exact⟨rs,_,_,_,_,_,rfl,by omega,bL⟩
 ·rintro ρ ⟨rs,s3,s4,s5,s6,s7,rfl,aF,bL⟩;simp_arith[];exact⟨rs,rfl,aF,bL⟩
noncomputable def Jg:List D->M OT:=zo DM
theorem K1:Txt K mg->CB P w K mg base "_law_map" 2 2 Jg:=(zc DM).1
theorem K2:∀(cs:List Int) (m:Nat),1<=m->m<=16->cs.length<=60->(∀c∈cs,0<=c/\c<B7)->∃rs:List Road,rs.length<=60/\(∀r∈rs,Bf m r)/\Jg [.lst (cs.map D.int),.int m]=.ok (.sh (Ap m rs)):=(zc DM).2
theorem D3:∃F:List D->M OT,(∀ {P w K mg base},Txt K mg->CB P w K mg base "_law_text" 1 1 F)/\(∀(m:Nat) (rs:List Road),1<=m->m<=16->rs.length<=60->(∀r∈rs,Bf m r)->F [Ap m rs]=.ok (.sh (.str (BY m rs)))):=by
 refine⟨_,λ T=>AI (k:=0) T.JX AD _ (λ f Bh A outer s H E hr=>(A3 (F4 1 AD.nd rfl (ya rfl) (MR (FC (As (BX Aw (Bw rfl T.CY (Al (BS hr 16 (by decide)) (A0 0 (pv 0)) A1)))) HH))) (A3 (MD Af.toXCall.own rfl (D9 (Al (BS hr 16 (by decide)) (A0 0 (pv 0)) A1)) (QT (n:=4) rfl (E7 (D8 2 AD.nd rfl (ya rfl)) (E7 (D8 3 AD.nd rfl (ya rfl)) (E7 (D8 4 AD.nd rfl (ya rfl)) (E7 (D8 5 AD.nd rfl (ya rfl)) OE))))) (A3 (AF 6 AD.nd rfl (ya rfl) Aw) (A3 (AO (OB (c:=true) (A0 4 (pv 4))) (A8 (AF 6 AD.nd rfl (ya rfl) (Bw rfl T.CY (A0 4 (pv 4))))) Am) (A8 (GR 1 (pv 1) (BX (BX (BX (BX (BX (BX (BX Aw (Bw rfl T.CY (A0 2 (pv 2)))) Aw) (Bw rfl T.CY (A0 3 (pv 3)))) Aw) (A0 6 (pv 6))) Aw) (Bw rfl T.CY (A0 5 (pv 5))))))))) (A8 (MV 1 (Ac (As (HL Aw (A0 1 (pv 1)))))))))),?_⟩;intro m rs h1 hm aF Az;have e0:AB ["_law_plan","_law_parts","_law_start","_law_end","_law_length_here","_law_width","_law_word"] [Ap m rs]=[some (.val (Ap m rs)),none,none,none,none,none,none]:=rfl;rw[e0];refine B1 ?_;have n0:Be (Ap m rs) (.int 0)=.ok (.int m):=rfl;have n1:Be (Ap m rs) (.int 1)=.ok (.lst (rs.map Bd)):=rfl;have ht:=Bq;have sm:=By (i:=m) (by omega) (by omega);have ap:=F7 (i:=m) (by omega) (by omega);have d8:Kx (.str (zb "places ")) (.str (nS m))=.ok (.str (zb "places " ++ nS m)):=if_pos (by rw[<-str_len];omega);have hj:FQ (zb "; ") (.lst (((zb "places " ++ nS m)::rs.map BL).map D.str))=.ok (.str (BY m rs)):=G0 (B:=305) (EC h1 hm Az) (by
  have e:(zb "; ").length=2:=by decide
  rw[e,zt,zj];omega)
 refine wp_step (ρ':=[some (.val (Ap m rs)),some (.own [.str (zb "places " ++ nS m)]),none,none,none,none,none]) (by simp_arith[n0,sm,d8];try rfl) ?_;refine JH (I:=λ ρ=>∃s2 s3 s4 s5 s6:Option D,ρ=[some (.val (Ap m rs)),some (.own (((zb "places " ++ nS m)::rs.map BL).map D.str)),vO s2,vO s3,vO s4,vO s5,vO s6]) ?_ ?_
 ·simp_arith[n1];refine N0 (λ i ρ=>∃s2 s3 s4 s5 s6:Option D,ρ=[some (.val (Ap m rs)),some (.own (((zb "places " ++ nS m)::(rs.take i).map BL).map D.str)),vO s2,vO s3,vO s4,vO s5,vO s6]) ⟨none,none,none,none,none,rfl⟩ ?_ ?_
  ·rintro i d ρ hd ⟨s2,s3,s4,s5,s6,rfl⟩;obtain⟨r,hr,rfl⟩:=FJ hd;have ok:=Az r (zi hr);have et:rs.take (i+1)=rs.take i++[r]:=by rw[List.take_add_one,hr];rfl
   have aX:(((zb "places " ++ nS m)::(rs.take i).map BL).map D.str).length<1000:=by
    rw[zj,zt,zj,yf];omega
   have sa:=By ok.a0 (Dn ok.a1 (by omega));have sb:=By ok.b0 (Dn ok.b1 (by omega));have sw:=By ok.w0 ok.w1;have la:=(BK ok.a0 (Dn ok.a1 (by omega))).2;have lb:=(BK ok.b0 (Dn ok.b1 (by omega))).2;have ll:=(NN ok.l0).2;have lw:=(BK ok.w0 ok.w1).2;have l1:(zb " ").length=1:=by decide
   have l5:(zb "road ").length=5:=by decide
   have ar:∀x y:Str,x.length+y.length<=1000->Kx (.str x) (.str y)=.ok (.str (x++y)):=λ x y h=>if_pos (by omega);have a1:=ar (zb "road ") (nS r.a) (by omega);have a2:=ar (zb "road " ++ nS r.a) (zb " ") (by rw[str_len];omega);have a3:=ar (zb "road " ++ nS r.a++zb " ") (nS r.b) (by rw[str_len,str_len];omega);have a4:=ar (zb "road " ++ nS r.a++zb " " ++ nS r.b) (zb " ") (by rw[str_len,str_len,str_len];omega);have a5:=ar (zb "road " ++ nS r.a++zb " " ++ nS r.b++zb " ") (lS r.l) (by rw[str_len,str_len,str_len,str_len];omega);have a6:=ar (zb "road " ++ nS r.a++zb " " ++ nS r.b++zb " " ++ lS r.l) (zb " ") (by rw[str_len,str_len,str_len,str_len,str_len];omega);have a7:=ar (zb "road " ++ nS r.a++zb " " ++ nS r.b++zb " " ++ lS r.l++zb " ") (nS r.w) (by rw[str_len,str_len,str_len,str_len,str_len,str_len];omega);rw[PM] at a7;refine⟨_,rfl,?_⟩;rw[et,List.map_append,<-List.cons_append,List.map_append];refine wp_step (ρ':=[some (.val (Ap m rs)),some (.own (((zb "places " ++ nS m)::(rs.take i).map BL).map D.str)),some (.val (.int r.a)),some (.val (.int r.b)),some (.val (Bj r.l)),some (.val (.int r.w)),some (.val (.str (zb "-")))]) (by simp_arith[];try rfl) ?_;refine wp_step (ρ':=[some (.val (Ap m rs)),some (.own (((zb "places " ++ nS m)::(rs.take i).map BL).map D.str)),some (.val (.int r.a)),some (.val (.int r.b)),some (.val (Bj r.l)),some (.val (.int r.w)),some (.val (.str (lS r.l)))]) (by
    cases ql:r.l with
    |none =>
     have hn:BF (Bj none)=true:=rfl;simp_arith[hn];rfl
    |some z =>
     have hn:BF (Bj (some z))=false:=rfl;have e:Bj (some z)=.int z:=rfl;have hs:=By (ok.l0 z ql).1 (ok.l0 z ql).2;have e2:lS (some z)=nS z:=rfl;simp_arith[hn,zC,if_false,Bool.not_false,if_true];simp_arith[e,hs,e2];try rfl) ?_
   refine Ks (ρ':=[some (.val (Ap m rs)),some (.own (((zb "places " ++ nS m)::(rs.take i).map BL).map D.str++([r].map BL).map D.str)),vO (some (.int r.a)),vO (some (.int r.b)),vO (some (Bj r.l)),vO (some (.int r.w)),vO (some (.str (lS r.l)))]) (by
    simp_arith[sa,sb,sw,a1,a2,a3,a4,a5,a6,a7,if_pos aX];rfl) ⟨_,_,_,_,_,rfl⟩
  ·rintro ρ ⟨s2,s3,s4,s5,s6,rfl⟩;rw[zj,List.take_length];exact⟨s2,s3,s4,s5,s6,rfl⟩
 ·rintro ρ ⟨s2,s3,s4,s5,s6,rfl⟩;simp_arith[Pz,hj];rfl
noncomputable def Hl:List D->M OT:=zo D3
theorem Jh:Txt K mg->CB P w K mg base "_law_text" 1 1 Hl:=(zc D3).1
theorem Ji:∀(m:Nat) (rs:List Road),1<=m->m<=16->rs.length<=60->(∀r∈rs,Bf m r)->Hl [Ap m rs]=.ok (.sh (.str (BY m rs))):=(zc D3).2
theorem Cw:∃F:List D->M OT,(∀ {P w K mg base},Txt K mg->CB P w K mg base "_law_right" 6 1 F)/\(∀(m:Nat) (rs:List Road),1<=m->m<=16->rs.length<=60->(∀r∈rs,Bf m r)->F [Ap m rs]=.ok (.sh (.bl true))):=by
 refine⟨_,λ T=>AI (k:=5) T.Jd Ba _ (λ f Bh A outer s H E hr=>(A3 (AF 1 Ba.nd rfl (ya rfl) (An (Ae Af.toXCall (Jh T) (hr.mono (by decide)) rfl (A2 (A0 0 (pv 0)) Ab) rfl))) (A3 (AF 2 Ba.nd rfl (ya rfl) (An (Ae Af.toXCall (Ia T) (hr.mono (by decide)) rfl (A2 (A0 0 (pv 0)) Ab) rfl))) (A3 (AO (DW.dt (Cy (AH (AQ (c:=true) (BI (IX _) rfl T.Ao rfl T.CY (by decide +kernel) (A0 2 (pv 2))))) (BG (GN (c:=true) (BS hr 16 (by decide)) (A0 2 (pv 2)) (A0 1 (pv 1)))))) (A8 (Ac (As CL))) Am) (A3 (F4 3 Ba.nd rfl (ya rfl) (Ae Af.toXCall (EO T) (hr.mono (by decide)) rfl (A2 (A0 1 (pv 1)) Ab) rfl)) (A3 (AO (MT (DW.dt (Cy (AH (AQ (c:=true) (BI (Cg _) rfl T.Ao rfl T.F8 (by decide +kernel) (A0 3 (pv 3))))) (Cy (GN (c:=true) (BS hr 16 (by decide)) (A0 3 (pv 3)) (A0 0 (pv 0))) (BG (AH (AQ (c:=true) (BI (GP _) rfl T.Ao rfl T.JY (by decide +kernel) (Al (BS hr 16 (by decide)) (A0 3 (pv 3)) A1))))))))) (A8 (Ac (As CL))) Am) (A3 (JN 3 1 Af.toXCall.own rfl (Kn (Km 3 (pv 3)) A1) (D8 4 Ba.nd rfl (ya rfl)) (A8 (AO (DW.dt (Cy (AH (AQ (c:=true) (BI (Cg _) rfl T.Ao rfl T.F8 (by decide +kernel) (A0 4 (pv 4))))) (BG (AH (AQ (c:=true) (JB rfl rfl T.NS (An (Di (NB:=["_law_part"]) [none] rfl (Rh (A0 4 (pv 4))) rfl rfl (Ca 0 (by decide) rfl rfl rfl) (λ _ _ _ _=>Dd) (λ _ _ _ _=>(Mu (BI (GQ _) rfl T.Ao rfl T.NT (by decide +kernel) (A0 0 (pv 0))))))))))))) (A8 (Ac (As CL))) Am))) (A3 (R7 (Kn (Km 3 (pv 3)) A1) (As Jt)) (A8 (Ac (As (Mt (BS hr 16 (by decide)) (An (Ae Af.toXCall (EO T) (hr.mono (by decide)) rfl (A2 (A0 1 (pv 1)) Ab) rfl)) (A0 0 (pv 0)))))))))))))),?_⟩;intro m rs h1 hm aF Az;have e0:AB ["_law_plan","_law_text_here","_law_found","_law_told","_law_road"] [Ap m rs]=[some (.val (Ap m rs)),none,none,none,none]:=rfl;rw[e0];refine B1 ?_;have hx:=Ji m rs h1 hm aF Az;have hs:=Ib m rs h1 hm aF Az;have hr:=Jf m rs h1 hm aF Az;have qs:=HS (BY m rs) (BY m rs);rw[beq_self_eq_true] at qs;have cE:=KA m rs;have fN:=MK ((JK m rs).le (show 3<=16 by omega));have d9:=IP ((JK m rs).le (show 3<=16 by omega));have n1:Be (Ap m rs) (.int 1)=.ok (.lst (rs.map Bd)):=rfl;have fO:Cz "tuple" (Ap m rs)=.ok (.bl true):=rfl;refine wp_step (ρ':=[some (.val (Ap m rs)),some (.val (.str (BY m rs))),none,none,none]) (by simp_arith[hx];try rfl) ?_;refine wp_step (ρ':=[some (.val (Ap m rs)),some (.val (.str (BY m rs))),some (.val (.str (BY m rs))),none,none]) (by simp_arith[hs];try rfl) ?_;refine wp_step (ρ':=[some (.val (Ap m rs)),some (.val (.str (BY m rs))),some (.val (.str (BY m rs))),none,none]) (by simp_arith[qs,Cj];try rfl) ?_;refine wp_step (ρ':=[some (.val (Ap m rs)),some (.val (.str (BY m rs))),some (.val (.str (BY m rs))),some (.ow (.tree none (.tup [.sh (.int m),.lst ((rs.map Bd).map .sh)]))),none]) (by simp_arith[hr];try rfl) ?_;refine wp_step (ρ':=[some (.val (Ap m rs)),some (.val (.str (BY m rs))),some (.val (.str (BY m rs))),some (.ow (.tree none (.tup [.sh (.int m),.lst ((rs.map Bd).map .sh)]))),none]) (by simp_arith[cE,fO,fN,n1,Cj];try rfl) ?_;refine JH (I:=λ ρ=>∃o:Option D,ρ=[some (.val (Ap m rs)),some (.val (.str (BY m rs))),some (.val (.str (BY m rs))),some (.ow (.tree none (.tup [.sh (.int m),.lst ((rs.map Bd).map .sh)]))),vO o]) ?_ ?_
 ·obtain⟨p1,p2,_,_⟩:=T4 (i:=3) (ρ:=[some (.val (Ap m rs)),some (.val (.str (BY m rs))),some (.val (.str (BY m rs))),some (.ow (.tree none (.tup [.sh (.int m),.lst ((rs.map Bd).map .sh)]))),none]) (u:=.sh .Av) rfl;simp only[M.A6,p1,p2];refine JO (t0:=.sh (.int m)) (ds:=rs.map Bd) rfl (by simp only[Ha,FK,Hb,Hc,FL,IZ,Dj (show (1:Nat)≠2 by decide),Dj (show (2:Nat)≠1 by decide),List.set_cons_zero,zP]) (λ k ρ=>∃o:Option D,ρ=[some (.val (Ap m rs)),some (.val (.str (BY m rs))),some (.val (.str (BY m rs))),some (.ow (.tree (some 1) (JL (.sh (.int m)) (rs.map Bd)))),vO o]) ⟨none,rfl⟩ ?_ ?_ ?_
  ·rintro k ρ ⟨o,rfl⟩;rfl
  ·rintro k d ρ hd ⟨o,rfl⟩;obtain⟨r,hr,rfl⟩:=FJ hd;refine⟨[some (.val (Ap m rs)),some (.val (.str (BY m rs))),some (.val (.str (BY m rs))),some (.ow (.tree (some 1) (JL (.sh (.int m)) (rs.map Bd)))),some (.val (Bd r))],rfl,?_⟩;have er:Bd r=.tup [.int r.a,.int r.b,Bj r.l,.int r.w]:=rfl;have fP:Cz "tuple" (Bd r)=.ok (.bl true):=rfl;have fQ:[D.int r.a,.int r.b,Bj r.l,.int r.w].length<=1000:=by show 4<=1000;decide
   refine Ks (ρ':=[some (.val (Ap m rs)),some (.val (.str (BY m rs))),some (.val (.str (BY m rs))),some (.ow (.tree (some 1) (JL (.sh (.int m)) (rs.map Bd)))),vO (some (Bd r))]) (by
    simp_arith[fP,er,if_pos fQ];rw[GW (gt:=λ d ρ=>.ok (ρ.set 0 (some (.val d)))) (ft:=λ _=>.ok true) (ρ:=[none]) (λ _=>D.bl true) [D.int r.a,.int r.b,Bj r.l,.int r.w] (λ d hd=>⟨_,rfl,rfl,by
     have hb:Cz "bool" d=.ok (.bl false):=by
      simp only[zm,List.not_mem_nil,or_false] at hd;rcases hd with rfl|rfl|rfl|rfl
      ·rfl
      ·rfl
      ·cases r.l<;>rfl
      ·rfl
     simp_arith[hb,Cj];try rfl⟩)]
    simp_arith[all_true,Cj];try rfl) ⟨_,rfl⟩
  ·rintro ρ ⟨o,rfl⟩;exact⟨by simp only[Ha,FK,Hb,Hc,FL,IZ,Dj (show (1:Nat)≠2 by decide),Dj (show (2:Nat)≠1 by decide),List.set_cons_zero,zP],o,rfl⟩
 rintro ρ ⟨o,rfl⟩;have am:((rs.map Bd).map OT.sh).length<1000:=by rw[zj,zj];omega
 obtain⟨p1,p2,p3,p4⟩:=T4 (i:=3) (ρ:=[some (.val (Ap m rs)),some (.val (.str (BY m rs))),some (.val (.str (BY m rs))),some (.ow (.tree none (.tup [.sh (.int m),.lst ((rs.map Bd).map .sh)]))),vO o]) (u:=.sh .Av) rfl;refine wp_step (ρ':=[some (.val (Ap m rs)),some (.val (.str (BY m rs))),some (.val (.str (BY m rs))),some (.ow (.tree none (.tup [.sh (.int m),.lst ((rs.map Bd).map .sh++[.sh .Av])]))),vO o]) (by
  simp only[M.A6,p1,p2,p3,U9,if_pos am,p4];rfl) ?_
 simp_arith[hr,cE,d9];rfl
noncomputable def Ge:List D->M OT:=zo Cw
theorem Ek:Txt K mg->CB P w K mg base "_law_right" 6 1 Ge:=(zc Cw).1
theorem El:∀(m:Nat) (rs:List Road),1<=m->m<=16->rs.length<=60->(∀r∈rs,Bf m r)->Ge [Ap m rs]=.ok (.sh (.bl true)):=(zc Cw).2
theorem K3:∃F:List D->M D,(∀ {P w K mg base f fd},Txt K mg->Mh K "law" "law" CD f fd->DU P w K mg base Om 7 f fd ["_law_script"] (Jy K 1 F))/\(∀ns:List Int,ns.length<=63->(∀n∈ns,Sm n)->F [.lst (ns.map D.int)]=.ok (.bl true)):=by
 refine⟨_,fun {P w K mg base f fd} T F=>Sl (k:=6) F G5 _ (λ Bh A outer s H E hr=>(A3 (AF 1 G5.nd rfl (ya rfl) (Ft A1 (AN (An (CS (Ae (CO rfl).toXCall (D1 T) (hr.mono (by decide)) rfl (A2 (A0 0 (pv 0)) (A2 A1 Ab)) rfl))) A1))) (A3 (AF 2 G5.nd rfl (ya rfl) (An (CS (Ae (CO rfl).toXCall (K1 T) (hr.mono (by decide)) rfl (A2 (An (Di (NB:=["_law_cell"]) [none] rfl (D9 (An (FG (A0 0 (pv 0)) (F3 A1) (F3 A1)))) rfl rfl (Ca 0 (by decide) rfl rfl rfl) (λ _ _ _ _=>Dd) (λ _ _ _ _=>(AN (A0 0 (pv 0)) (DB A1 A1))))) (A2 (A0 1 (pv 1)) Ab)) rfl)))) (A3 (AF 3 G5.nd rfl (ya rfl) (Fu (A2 (A0 1 (pv 1)) (A2 (An (OR rfl T.JY (Al (BS hr 16 (by decide)) (A0 2 (pv 2)) A1))) Ab)))) (A3 (AF 4 G5.nd rfl (ya rfl) (AN (An (CS (Ae (CO rfl).toXCall (D1 T) (hr.mono (by decide)) rfl (A2 (A0 0 (pv 0)) (A2 A1 Ab)) rfl))) (Ft (Eu rfl T.G7 (Al (BS hr 16 (by decide)) (A0 2 (pv 2)) A1)) A1))) (A3 (AO (DW.dt (Cy (AH (AQ (c:=true) (An (CS (Ae (CO rfl).toXCall (Ek T) (hr.mono (by decide)) rfl (A2 (A0 2 (pv 2)) Ab) rfl))))) (BG (AH (AQ (c:=true) (An (CS (Ae (CO rfl).toXCall (Ek T) (hr.mono (by decide)) rfl (A2 (Fu (A2 (A0 1 (pv 1)) (A2 (An (FG (Al (BS hr 16 (by decide)) (A0 2 (pv 2)) A1) Ki (F3 (A0 4 (pv 4))))) Ab))) Ab) rfl)))))))) (A8 (MB (Js CL))) Am) (A8 (MB (Js (Mt (BS hr 16 (by decide)) (A0 2 (pv 2)) (A0 3 (pv 3)))))))))))),?_⟩;intro ns bV bq;have e0:AB ["_law_script","_law_many","_law_plan","_law_before","_law_cut"] [.lst (ns.map D.int)]=[some (.val (.lst (ns.map D.int))),none,none,none,none]:=rfl;rw[e0];refine SG ?_;have ht:=Bq;obtain⟨v,⟨v0,v1⟩,hv⟩:=D2 ns 0;obtain⟨w,⟨w0,w1⟩,hw⟩:=D2 ns 1;have hv:Bz [.lst (ns.map D.int),.int 0]=.ok (.sh (.int v)):=hv;have hw:Bz [.lst (ns.map D.int),.int 1]=.ok (.sh (.int w)):=hw;obtain⟨m,hm⟩:∃m:Nat,(m:Int)=1+v%16:=⟨(1+v%16).toNat,by have:=zJ v (show (16:Int)≠0 by decide);omega⟩;have dA:1<=m:=by have:=zJ v (show (16:Int)≠0 by decide);omega
 have bH:m<=16:=by have:=zI v (show (0:Int)<16 by decide);omega
 have fR:Dl (.int v) (.int 16)=.ok (.int (v%16)):=AG (by decide);have s1:NV (some 2) (some 62) (.lst (ns.map D.int))=.ok (.lst ((((ns.drop 2).take 60).map D.int).map .sh)):=by
  rw[List.map_take,List.map_drop];exact Pm _ 2 62
 have fS:(((ns.drop 2).take 60).map D.int).length<=1000:=by rw[zj,yf];omega
 obtain⟨rs,aF,Az,hF⟩:=K2 (((ns.drop 2).take 60).map λ c=>c%B7) m dA bH (by rw[zj,yf];omega) (λ c hc=>by
  obtain⟨x,_,rfl⟩:=zU.mp hc;exact⟨zJ _ (by omega),zI _ (by omega)⟩)
 have e1:(((ns.drop 2).take 60).map λ c=>D.int (c%B7))=(((ns.drop 2).take 60).map λ c=>c%B7).map D.int:=by rw[List.map_map];rfl
 have n1:Be (Ap m rs) (.int 1)=.ok (.lst (rs.map Bd)):=rfl;have nd:D.tup [.int m,.lst (rs.map Bd)]=Ap m rs:=rfl;refine wp_step (ρ':=[some (.val (.lst (ns.map D.int))),some (.val (.int m)),none,none,none]) (by
  simp_arith[hv,fR,hm];try rfl) ?_
 refine wp_step (ρ':=[some (.val (.lst (ns.map D.int))),some (.val (.int m)),some (.val (Ap m rs)),none,none]) (by
  simp_arith[s1,if_pos fS];rw[Ck (λ c=>D.int (c%B7)) (λ c hc=>⟨_,rfl,rfl,by simp_arith[Hj,F6]⟩),e1];simp_arith[hF];try rfl) ?_
 refine wp_step (ρ':=[some (.val (.lst (ns.map D.int))),some (.val (.int m)),some (.val (Ap m rs)),some (.val (Ap m rs)),none]) (by simp_arith[n1,nd];try rfl) ?_;obtain⟨k,gq,hk⟩:∃k:Nat,k<=rs.length/\Dl (.int w) (.int ((rs.map Bd).length+1))=.ok (.int k):=by
  have hp:(0:Int)<((rs.map Bd).length:Int)+1:=by omega
  refine⟨(w%(((rs.map Bd).length:Int)+1)).toNat,?_,?_⟩
  ·have a:=zJ w (show ((rs.map Bd).length:Int)+1≠0 by omega);have b:=zI w hp;rw[zj] at a b ⊢;omega
  ·have a:=zJ w (show ((rs.map Bd).length:Int)+1≠0 by omega);rw[AG hp];congr 2;omega
 refine wp_step (ρ':=[some (.val (.lst (ns.map D.int))),some (.val (.int m)),some (.val (Ap m rs)),some (.val (Ap m rs)),some (.val (.int k))]) (by simp_arith[hw,n1,hk];try rfl) ?_;have r1:=El m rs dA bH aF Az;have r2:=El m (rs.take k) dA bH (by rw[yf];omega) λ r hr=>Az r (List.mem_of_mem_take hr);have sk:NV none (some (k:Int)) (.lst (rs.map Bd))=.ok (.lst (((rs.take k).map Bd).map .sh)):=by rw[List.map_take];exact Nt _ k
 have aM:D.tup [.int m,.lst ((rs.take k).map Bd)]=Ap m (rs.take k):=rfl;have d9:=IP ((JK m rs).le (show 3<=16 by omega));refine wp_step (ρ':=[some (.val (.lst (ns.map D.int))),some (.val (.int m)),some (.val (Ap m rs)),some (.val (Ap m rs)),some (.val (.int k))]) (by simp_arith[r1,n1,sk,aM,r2,Cj];try rfl) ?_;simp_arith[d9];rfl
noncomputable def NU:List D->M D:=zo K3
theorem RF {P w K mg base f fd}:Txt K mg->Mh K "law" "law" CD f fd->DU P w K mg base Om 7 f fd ["_law_script"] (Jy K 1 NU):=(zc K3).1
theorem RG:∀ns:List Int,ns.length<=63->(∀n∈ns,Sm n)->NU [.lst (ns.map D.int)]=.ok (.bl true):=(zc K3).2
theorem all_mk {l:PySem.W.OpenLaw}{w:World}{K:za}{h:Heap}{mg:Str->Option Value}{fa:Addr}(X:K.In h)(G:h.Ns mainGlobals mg)(fT:mg "law" = some (.ref fa))
 {dB:Addr} {dC cv:Option Addr} {dD:Array (Option Value)} {dE cw cx cy bC cz:Value} {a8:Addr}
 (p1:FP K "is_whole_below" Bk)
 (p2:FP K "is_measure" Cp)
 (p3:FP K "is_road" ED)
 (p4:FP K "is_map" G1)
 (p5:FP K "is_number" CT)
 (p6:FP K "length_shown" BM)
 (p7:FP K "road_shown" Cq)
 (p8:FP K "map_shown" CU)
 (p9:FP K "words_read" Cr)
 (dG:FP K "number_read" C2)
 (dH:FP K "length_read" C3)
 (dI:FP K "road_read" CV)
 (dJ:FP K "map_read" DJ)
 (dL:FP K "_law_cell_at" C4)
 (dM:FP K "_law_length" Cs)
 (dN:FP K "_law_map" EF)
 (dO:FP K "_law_text" DK)
 (dP:FP K "_law_right" CW)
 (cG:zg K mainGlobals "law" = some (some (.ref dB)))
 (dQ:K.lookup dB=some ⟨dE,dC,.func (zD "law" "law" (AE CD) (Ax CD) (A4 CD) .none cw cx cy cv bC cz),dD⟩) (dR:zQ K bC "law" = true) (dS:zL K (.ref dB)=true)
 (z1:zg K mainGlobals "all" = some none)
 (z2:zg K mainGlobals "bool" = some none)
 (z3:zg K mainGlobals "int" = some none)
 (z4:zg K mainGlobals "isinstance" = some none)
 (z5:zg K mainGlobals "len" = some none)
 (z6:zg K mainGlobals "list" = some none)
 (z7:zg K mainGlobals "str" = some none)
 (z8:zg K mainGlobals "tuple" = some none)
 (ao:zg K mainGlobals "NoText" = some (some (.ref a8)))
 (au:PySem.W.excIn K a8 [.type "ValueError",.type "Exception",.type "BaseException",.type "object"] "ValueError.__new__" = true):
 ∃fd:FuncData,(∀(s:Shared) (v:Value),BindsTo s fd ⟨[v],[]⟩ [("_law_script",v)])/\∀base:Heap,K.In base->base.Ns mainGlobals mg->DU l.prog w K mg base Om 7 fa fd ["_law_script"] (Jy K 1 NU):=by
 have e:=fT.symm.trans (PySem.W.mg_of X G cG);cases e;have dU:=Jr (st:=CD) dQ dR dS;have fU:AY K mg "law" CD ["_law_script"]:=⟨_,_,dU,PySem.W.mg_of X G cG,dU.binds λ _ _ _ _ _ _ us hl=>match us,hl with|[_],_=>rfl⟩;have T:Txt K mg:=⟨Bi X G p1,Bi X G p2,Bi X G p3,Bi X G p4,Bi X G p5,Bi X G p6,Bi X G p7,Bi X G p8,Bi X G p9,Bi X G dG,Bi X G dH,Bi X G dI,Bi X G dJ,Bi X G dL,Bi X G dM,Bi X G dN,Bi X G dO,Bi X G dP,fU,zO X G z1,zO X G z2,zO X G z3,zO X G z4,zO X G z5,zO X G z6,zO X G z7,zO X G z8,⟨_,ao,PySem.W.mg_of X G ao,au⟩⟩;refine⟨zD "law" "law" (AE CD) (Ax CD) (A4 CD) .none cw cx cy cv bC cz,λ s v=>.of_eq rfl,λ base _ _=>?_⟩;exact RF T dU
set_option maxHeartbeats 0 in
set_option maxHeartbeats 0 in
set_option maxHeartbeats 0 in
set_option maxHeartbeats 0 in
theorem left (w:World):(PySem.W.openEnds treeTable PySem.Challenge.pw_nodeladder_k81_maps_written w 6100).map (λ s=>PySem.W.openSeen (Bg PySem.Challenge.pw_nodeladder_k81_maps_written) [] (importedModules PySem.Challenge.pw_nodeladder_k81_maps_written.main.body) (λ s=>PySem.W.xlAt (Bg PySem.Challenge.pw_nodeladder_k81_maps_written) [] s&&PySem.W.recOk [] s) true s)=some (PySem.W.openGood (Bg PySem.Challenge.pw_nodeladder_k81_maps_written) []):=by
 rw[Kv,Rf,PySem.W.Fast.te4187177175401517315,PySem.W.Fast.te5923862056798008813,PySem.W.Fast.te2063096783627910905];exact HJ (RO w) (HJ (RP w) (HJ (RQ w) (RS w)))
set_option maxHeartbeats 0 in
theorem RH (w:World):LQ (Kp R0 PySem.Challenge.pw_nodeladder_k81_maps_written w) PySem.Challenge.pw_nodeladder_k81_maps_written:=by
 rw[Rf,PySem.W.Fast.te2063096783627910905];exact NW w
set_option maxHeartbeats 0 in
theorem RI (w:World):LR (Kp R0 PySem.Challenge.pw_nodeladder_k81_maps_written w) PySem.Challenge.pw_nodeladder_k81_maps_written:=by
 rw[Rf,PySem.W.Fast.te2063096783627910905];exact NX w
theorem walk {l:PySem.W.OpenLaw}{q:Program}{loose:List Str}{XP:(Str->Option Value)->Heap->Prop}{YP:World->Heap->Prop}{d:DefRec}{K:World->za}(hn:l.most=some 63)(b8:d.params.defaults=[])
 (hY:∀(w:World) (h:Heap),YP w h->(K w).In h)
 (F:∀(w:World) (mg:Str->Option Value) (fa:Addr) (h:Heap),(K w).In h->h.Ns mainGlobals mg->mg d.name=some (.ref fa)->
  ∃fd:FuncData,(∀(s:Shared) (u:Value),BindsTo s fd ⟨[u],[]⟩ [("_law_script",u)])/\∀base:Heap,(K w).In base->base.Ns mainGlobals mg->DU l.prog w (K w) mg base Om 7 fa fd ["_law_script"] (Jy (K w) 1 NU)):
 PySem.W.WalkO q loose XP YP l.row.toRowW d [] (λ f vs=>PySem.call f vs):=
 L2.SW (n:=63) (k:=7) (x := "_law_script") (CX:=λ _=>Om) (sp:=λ w=>Jy (K w) 1 NU) hn (by decide) b8 ⟨rfl,by decide,by decide⟩ hY F (λ w H a ns bq hl _ hS=>OM RG (K w) H a ns bq hl hS) λ _ _ _ _ _ z=>z
end bd
open PySem PySem.W PyProof.Rows L2
set_option maxRecDepth 100000 in
set_option maxHeartbeats 0 in
theorem PySem.Challenge.cw_nodeladder_k81_maps_written_holds : PySem.Challenge.rw_nodeladder_k81_maps_written.Holds := by
 w_on;o_law
 refine holds_open (q:=Bg PySem.Challenge.pw_nodeladder_k81_maps_written) (loose:=[]) (Xt:=λ s=>xlAt (Bg PySem.Challenge.pw_nodeladder_k81_maps_written) [] s&&recOk [] s) (XP:=XL (Bg PySem.Challenge.pw_nodeladder_k81_maps_written) []) (Yf:=λ s=>s.heap) (Ya:=λ w=>LP R0 PySem.Challenge.pw_nodeladder_k81_maps_written w 6100) (YP:=λ w h=>SV (LP R0 PySem.Challenge.pw_nodeladder_k81_maps_written w 6100) h) (N:=6100) (Po bd.left) (λ w s e b o q=>by rw[<-e] at q;exact q) (λ w h h' a b c o q=>b c o (a c o q)) (λ s e=>xl_of s (Bool.and_eq_true_iff.mp e).1) XL.keeps (by rfl) (by rfl) (by rfl) (λ s e=>recFacts_of (Bool.and_eq_true_iff.mp e).2) (by rfl) (by first|assumption|decide +kernel) (by decide +kernel) ⟨rfl,rfl,rfl,rfl,rfl,by decide +kernel⟩ ?hw ?hc;case hw=>w_witness2
 case hc =>
  refine bd.walk (l:=PySem.Challenge.rw_nodeladder_k81_maps_written) (K:=bd.Kp R0 PySem.Challenge.pw_nodeladder_k81_maps_written) rfl rfl (λ w h Y=>Rg Y) ?F;intro w mg fa h KX G b9;obtain⟨p1,p2,p3,p4,p5,p6,p7,p8,p9,dG,dH,dI,dJ,dL,dM,dN⟩:=bd.RH w;obtain⟨dO,dP,cG,dQ,dR,dS,z1,z2,z3,z4,z5,z6,z7,z8,ao,au⟩:=bd.RI w;exact bd.all_mk KX G b9 p1 p2 p3 p4 p5 p6 p7 p8 p9 dG dH dI dJ dL dM dN dO dP cG dQ dR dS z1 z2 z3 z4 z5 z6 z7 z8 ao au
