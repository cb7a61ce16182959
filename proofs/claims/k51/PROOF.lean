import PyProof.Rows.All
import Wide.All
import OpenK.AllK
import Wide.FinOn
import Lean
import PyProof.EqAt
import PyProof.EqKinds
import PyProof.TupleCall
import PyProof.NeKinds
import KE.KRevSl
import KE.KIsAll
import PyProof.ExcArgsOwn
import PyProof.ExcAttrAll.ValueError
import PyProof.ExcBaseAll.ValueError
import PyProof.FitsBits
import KE.LcSums
import KE.KRevIter
import PyProof.ListRange
import PyProof.Rows.SumAny
import PyProof.Rows.SortWalk
import PyProof.AttrMissHeap
import KE.KDictOf
import PySem.Challenge.RW_nodeladder_k51_swept
set_option Elab.async false
set_option linter.all false
set_option maxRecDepth 100000
open PySem.W renaming Frag→za,nsIn→zD,mg_none_of→yf,findIn→yg,fnOf→yh,keepIn→yi,emptyDict→y2,codeIn→y3,hideAll_get→yA,kia_one→yI,instObj→yJ
open Classical renaming choose_spec→zb,choose→zi,byContradiction→yD
open List renaming length_map→zc,mem_cons_self→zd,mem_cons_of_mem→ze,map_cons→zf,mem_singleton→zg,size_toArray→zh,mem_of_getElem?→zj,length_cons→zk,set_cons_succ→zl,mem_append_right→zm,mem_cons→zo,getElem?_eq_getElem→zq,set_cons_zero→zr,replicate→zt,mem_append→zv,getElem?_eq_some_iff→zw,mem_map→zA,getD_eq_getElem?_getD→zB,getElem?_map→zF,nodup_append→zH,length_append→zJ,map_append→zL,mem_append_left→zN,getElem?_set_self→zQ,foldl_cons→zS,getElem?_cons_succ→zT,map_map→zY,nodup_cons→yk,length_set→yl,mem_of_mem_take→ym,getElem?_set_ne→yn,append_nil→yq,take_length→yr,length_take→yt,take_add_one→yu,getElem?_append_left→yw,length_reverse→yx,mem_filter→yy,range→yz,nodup_nil→y4,replicate_succ→y6,take_append_drop→y7,length_singleton→y8,getElem?_replicate→yB,getElem?_append_right→yE,getElem?_eq_none→yG,map_nil→yM,append_assoc→yN,getElem?_cons_zero→yR,find?_cons→yW,any_cons→yX,length_replicate→yY
open PySem.Heap renaming get?_push_of_some→zp,lt_size→zu,get?_push_size→zG,get?_update_other→yU,SameBut→yV
open Nat renaming le_refl→zx,lt_of_lt_of_le→zy,ne_of_lt→zC,zero_le→zP,le_of_lt→yj,le_trans→yo
open Bool renaming false_eq_true→zE,false_ne_true→zK,and_eq_true→zR,eq_iff_iff→yL
open Prod renaming fst→zI,snd→yv
open Option.some renaming inj→zM
open Or renaming inl→zO
open Ne renaming symm→zU
open PySem.Builtin.Int renaming intBits→zV
open PySem.F renaming plain_min_loop→zW,plainAttrs_list→y9
open Int renaming toNat_natCast→zX,emod_lt_of_pos→yH,emod_nonneg→yO,add_assoc→yZ
open PySem.Value renaming ref→zZ
open PyProof.Rows renaming callWith_type1→yp
open False renaming elim→yC
open PySem.Obj renaming mapSeq→yF
open PySem.Around renaming under_plainId→yK
open True renaming intro→yP
open PySem.Builtin.Builtins renaming bindParams→yQ
open PySem.NameKind renaming free→yS
open PySem.Calls renaming spliced_cons→yT
namespace L2
open PySem PySem.Spec PyProof.Rows
abbrev Key:=Sum Int Str
def O7:Key->Value->Bool
 | .inl k,v=>Value.isInt k v
 | .inr x,v=>Value.isStrOf x v
def qL (w:World):Key->Int
 | .inl k=>hashInt k
 | .inr x=>hashStr w x
theorem Bl:∀ {k:Key}{v:Value},O7 k v=true->(∃ i t,k=Sum.inl i/\v=Value.int i t)\/(∃ x t,k=Sum.inr x/\v=Value.str x t)
 | .inl i,v,h=>by
  obtain⟨t,e⟩:=Value.isInt_shape (k:=i) (v:=v) h
  exact .inl ⟨i,t,rfl,e⟩
 | .inr x,v,h=>by
  obtain⟨t,e⟩:=Value.isStrOf_shape (x:=x) (v:=v) h
  exact .inr ⟨x,t,rfl,e⟩
theorem Va (i:Int) (t:Tok):O7 (.inl i) (.int i t)=true:=by simp[O7,Value.isInt]
theorem Vb (x:Str) (t:Tok):O7 (.inr x) (.str x t)=true:=by simp[O7,Value.isStrOf]
theorem gU (a b:Int):decide ((Sum.inl a:Key)=Sum.inl b)=(a == b):=by
 by_cases e:a=b
 ·subst e;simp
 ·have h:¬ (Sum.inl a:Key)=Sum.inl b:=fun q=>e (Sum.inl.inj q)
  rw[decide_eq_false h]
  exact (beq_eq_false_iff_ne.mpr e).symm
theorem gW (a b:Str):decide ((Sum.inr a:Key)=Sum.inr b)=decide (a=b):=by
 by_cases e:a=b
 ·subst e;simp
 ·have h:¬ (Sum.inr a:Key)=Sum.inr b:=fun q=>e (Sum.inr.inj q)
  rw[decide_eq_false h,decide_eq_false e]
theorem gY (a:Int) (b:Str):decide ((Sum.inl a:Key)=Sum.inr b)=false:=decide_eq_false (fun q=>nomatch q)
theorem gZ (a:Str) (b:Int):decide ((Sum.inr a:Key)=Sum.inl b)=false:=decide_eq_false (fun q=>nomatch q)
def B4 (prog:Program) (w:World):PySem.KeyKind prog w Key where
 is:=O7
 hash:=qL w
 inj:=fun v a b ha hb=>by
  rcases Bl ha with ⟨i,t,rfl,rfl⟩|⟨x,t,rfl,rfl⟩
  ·rcases Bl hb with ⟨j,u,rfl,e⟩|⟨y,u,rfl,e⟩
   ·injection e with e1 _;rw[e1]
   ·exact nomatch e
  ·rcases Bl hb with ⟨j,u,rfl,e⟩|⟨y,u,rfl,e⟩
   ·exact nomatch e
   ·injection e with e1 _;rw[e1]
 byValue:=fun k v h=>by
  rcases Bl h with ⟨i,t,rfl,rfl⟩|⟨x,t,rfl,rfl⟩<;>rfl
 pyHash:=fun hv h=>by
  rcases Bl hv with ⟨i,t,rfl,rfl⟩|⟨x,t,rfl,rfl⟩
  ·exact wpAny_pyHash_int h
  ·exact wpAny_pyHash_str h
 eqBool:=fun hu hv h=>by
  rcases Bl hu with ⟨i,t,rfl,rfl⟩|⟨x,t,rfl,rfl⟩
  ·rcases Bl hv with ⟨j,u,rfl,rfl⟩|⟨y,u,rfl,rfl⟩
   ·rw[gU] at h;exact wpAny_eqBool_int h
   ·rw[gY] at h;exact SeqAt.EqAt.int_str i t y u _ _ _ _ h
  ·rcases Bl hv with ⟨j,u,rfl,rfl⟩|⟨y,u,rfl,rfl⟩
   ·rw[gZ] at h;exact SeqAt.EqAt.str_int x t j u _ _ _ _ h
   ·rw[gW] at h;exact wpAny_eqBool_str h
 «strs»:=fun k x t v h=>by
  rcases Bl h with ⟨i,u,rfl,e⟩|⟨y,u,rfl,e⟩
  ·exact nomatch e
  ·injection e with e1 _
   subst e1
   cases v<;>rfl
theorem Qz (prog:Program) (w:World) (i:Int) (t:Tok):(B4 prog w).is (.inl i) (.int i t)=true:=Va i t
theorem QA (prog:Program) (w:World) (x:Str) (t:Tok):(B4 prog w).is (.inr x) (.str x t)=true:=Vb x t
inductive V where
 |Az|bl (b:Bool)|int (i:Int)|str (x:Str)|hV (b:Array UInt8)|mJ (b:UInt64)|ref (a:Addr)|ty (n:String)
 deriving DecidableEq
def RelV:V->Value->Prop
 | .Az,u=>u=Value.none
 | .bl b,u=>u=Value.bool b
 | .int i,u=>∃ t,u=Value.int i t
 | .str x,u=>∃ t,u=Value.str x t
 | .hV b,u=>∃ t,u=Value.bytes b t
 | .mJ b,u=>∃ t,u=Value.float b t
 | .ref a,u=>u=zZ a
 | .ty n,u=>u=Value.type n
abbrev Vals:List V->List Value->Prop:=Paired RelV
theorem Vals.length {xs:List V}{us:List Value}(r:Vals xs us):xs.length=us.length:=Paired.length r
theorem Vals.get:∀ {xs:List V}{us:List Value}{i:Nat}{x:V},Vals xs us->xs[i]? =some x->∃ u,us[i]? =some u/\RelV x u
 |_,_,_,_,.nil,e=>by simp at e
 |_,_,0,_,.cons r _,e=>by simp at e;subst e;exact⟨_,rfl,r⟩
 |_,_,i + 1,x,.cons _ t,e=>by
  obtain⟨u,h1,h2⟩:=Vals.get (i:=i) (x:=x) t (by simpa using e)
  exact⟨u,by simpa using h1,h2⟩
theorem Vals.set {x:V}{u:Value}(r:RelV x u):∀ {xs:List V}{us:List Value}(i:Nat),Vals xs us->Vals (xs.set i x) (us.set i u)
 |_,_,_,.nil=>.nil
 |_,_,0,.cons _ t=>.cons r t
 |_,_,i + 1,.cons q t=>.cons q (Vals.set r i t)
theorem Vals.append:∀ {xs ys:List V}{us ws:List Value},Vals xs us->Vals ys ws->Vals (xs++ys) (us++ws)
 |_,_,_,_,.nil,s=>s
 |_,_,_,_,.cons r t,s=>.cons r (Vals.append t s)
theorem Vals.take:∀ {xs:List V}{us:List Value}(n:Nat),Vals xs us->Vals (xs.take n) (us.take n)
 |_,_,0,_=>.nil
 |_,_,_ + 1,.nil=>.nil
 |_,_,n + 1,.cons r t=>.cons r (Vals.take n t)
theorem Vals.drop:∀ {xs:List V}{us:List Value}(n:Nat),Vals xs us->Vals (xs.drop n) (us.drop n)
 |_,_,0,r=>r
 |_,_,_ + 1,.nil=>.nil
 |_,_,n + 1,.cons _ t=>Vals.drop n t
def Gf:Option V->Option Value->Prop
 |some v,some u=>RelV v u
 |none,none=>True
 |_,_=>False
def KV {κ:Type}:List (κ×V)->List (κ×Value)->Prop:=Paired fun (p:κ×V) (q:κ×Value)=>p.1=q.1/\RelV p.2 q.2
def kV:Key->V
 | .inl i=>.int i
 | .inr x=>.str x
inductive HO where
 |lst (xs:List V)
 |tup (xs:List V)
 |dK (kvs:List (Key×V))|dT (kvs:List (List Key×V))
 |set (S:Int->Bool) (n:Nat)
 |ins (C dx:Addr) (fs:List (Str×V))
 |own (x:Addr)
 |xd (fs:List (Str×V))
 |met (f x:Addr)
 |pR (lo hi:Int)
 |Vc (o:Obj) (u:HO)
 |fN (ps:Array Value)
 |ext (φ:Heap->Prop)
abbrev Hp:=Addr->Option HO
def upd (H:Hp) (a:Addr) (o:HO):Hp:=fun b=>if b=a then some o else H b
theorem Ar {H:Hp}{a:Addr}{o:HO}:upd H a o a=some o:=by unfold upd;rw[if_pos rfl]
theorem Ah {H:Hp}{a b:Addr}{o:HO}(h:b≠a):upd H a o b=H b:=by unfold upd;rw[if_neg h]
theorem mK {H:Hp}{a b:Addr}{o u:HO}(h:H a=some o) (h':H b=some u) (d:o≠u):a≠b:=by
 intro e;subst e;rw[h] at h';exact d (zM h')
theorem Ay {H:Hp}{a b:Addr}{o:HO}(h:H a=some o) (h':H b=none):a≠b:=by
 intro e;subst e;rw[h] at h';cases h'
section
variable (P:Program) (w:World)
def BB (H:Hp) (h:Heap) (a:Addr):HO->Prop
 | .lst xs=>xs.length<=sizeLine/\∃(aa:List Value) (n:Nat),Vals xs aa/\h.get? a=some { cls:=.type "list",data:=.seq aa.toArray n }
 | .tup xs=>xs.length<=sizeLine/\∃ aa:List Value,Vals xs aa/\IsTup h a aa.toArray
 | .dK kvs=>kvs.length<=sizeLine/\(a == sysModules)=false/\∃ vs,KV kvs vs/\h.DictOf (B4 P w) a vs
 | .dT kvs=>kvs.length<=sizeLine/\(a == sysModules)=false/\∃ xs:List (List Key×Addr×Value),
  Paired (fun (p:List Key×V) (q:List Key×Addr×Value)=>p.1=q.1/\H q.2.1=some (.tup (p.1.map kV))/\RelV p.2 q.2.2) kvs xs /\
  ∃ o es ep,h.get? a=some o/\o.ExactDict/\o.data=.dict es ep/\es.toList=xs.map (entryOfKey (tupleKind (B4 P w)))/\(xs.map (·.1)).Nodup
 | .set S n=>h.SetOf (intKind P w) a S n
 | .ins C dx fs=>H dx=some (.own a)/\fs.length<=1000/\dx≠a/\h.get? a=some (yJ C dx) /\
  ∃ mA,h.Ns1 dx mA/\(∀ f,Gf (fs.lookup f) (mA f))/\PySem.Within mA (fs.map (·.1))
 | .own _=>∃ o,h.get? a=some o
 | .xd fs=>∃ mA,h.Ns1 a mA/\∀ f,Gf (fs.lookup f) (mA f)
 | .pR lo hi=>∃ t u v,h.get? a=some { cls:=.type "range",data:=.fields #[.int lo t,.int hi u,.int 1 v] }
 | .Vc o u=>h.get? a=some o/\BB H h a u
 | .fN ps=>h.get? a=some { cls:=.none,data:=.fields ps }
 | .met f x=>h.get? a=some (PySem.W.methodObj (.ref f) (.ref x))
 | .ext φ=>φ h/\(∃ o,h.get? a=some o)/\∀ h1 h2:Heap,φ h1->(∀ o,h1.get? a=some o->h2.get? a=some o)->φ h2
def Fm (H:Hp) (h:Heap):Prop:=∀ a o,H a=some o->BB P w H h a o
end
section
variable {P:Program}{w:World}{H H':Hp}{h h':Heap}{a:Addr}{o:HO}
theorem BB.lt (x:BB P w H h a o):a < h.objs.size:=by
 cases o with
 |lst xs=>obtain⟨_,_,_,_,e⟩:=x;exact zu e
 |tup xs=>obtain⟨_,_,_,p⟩:=x;exact p.lt
 |dK kvs=>obtain⟨_,_,_,_,o,_,_,e,_⟩:=x;exact zu e
 |dT kvs=>obtain⟨_,_,_,_,o,_,_,e,_⟩:=x;exact zu e
 |set S n=>obtain⟨o,_,_,_,e,_⟩:=x;exact zu e
 |ins C dx fs=>obtain⟨_,_,_,e,_⟩:=x;exact zu e
 |own y=>obtain⟨_,e⟩:=x;exact zu e
 |xd fs=>obtain⟨_,⟨_,_,_,e,_⟩,_⟩:=x;exact zu e
 |pR lo hi=>obtain⟨_,_,_,e⟩:=x;exact zu e
 |Vc ob u=>obtain⟨e,_⟩:=x;exact zu e
 |fN ps=>exact zu (show h.get? a=some _ from x)
 |met f y=>exact zu (show h.get? a=some _ from x)
 |ext φ=>obtain⟨_,⟨_,e⟩,_⟩:=x;exact zu e
theorem Paired.hX {α β:Type}{F G:α->β->Prop}:∀ {l₁:List α}{l₂:List β},Paired F l₁ l₂->(∀ a b,F a b->G a b)->Paired G l₁ l₂
 |_,_,.nil,_=>.nil
 |_,_,.cons r t,f=>.cons (f _ _ r) (Paired.hX t f)
theorem BB.P8 (x:BB P w H h a o) (k:∀ b u,(b=a\/H b=some (.own a))->h.get? b=some u->h'.get? b=some u)
 (ho:∀ b,H b=some (.own a)->H' b=some (.own a)) (ht:∀ b xs,H b=some (.tup xs)->H' b=some (.tup xs)):BB P w H' h' a o:=by
 induction o with
 |lst xs=>obtain⟨z,aa,n,r,e⟩:=x;exact⟨z,aa,n,r,k _ _ (.inl rfl) e⟩
 |tup xs=>obtain⟨z,aa,r,ob,e,c⟩:=x;exact⟨z,aa,r,ob,k _ _ (.inl rfl) e,c⟩
 |dK kvs=>obtain⟨z,y,vs,r,ob,es,ep,e,c⟩:=x;exact⟨z,y,vs,r,ob,es,ep,k _ _ (.inl rfl) e,c⟩
 |dT kvs =>
  obtain⟨z,y,xs,r,ob,es,ep,e,c⟩:=x
  exact⟨z,y,xs,Paired.hX r fun p q z=>⟨z.1,ht _ _ z.2.1,z.2.2⟩,ob,es,ep,k _ _ (.inl rfl) e,c⟩
 |set S n=>obtain⟨ob,es,ep,t,e,c⟩:=x;exact⟨ob,es,ep,t,k _ _ (.inl rfl) e,c⟩
 |ins C dx fs =>
  obtain⟨d,z,ne,e,mA,⟨od,es,ep,e2,c⟩,r⟩:=x
  exact⟨ho _ d,z,ne,k _ _ (.inl rfl) e,mA,⟨od,es,ep,k _ _ (.inr d) e2,c⟩,r⟩
 |own y=>obtain⟨ob,e⟩:=x;exact⟨ob,k _ _ (.inl rfl) e⟩
 |xd fs=>obtain⟨mA,⟨od,es,ep,e,c⟩,r⟩:=x;exact⟨mA,⟨od,es,ep,k _ _ (.inl rfl) e,c⟩,r⟩
 |pR lo hi=>obtain⟨t,u,v,e⟩:=x;exact⟨t,u,v,k _ _ (.inl rfl) e⟩
 |Vc ob u ih=>obtain⟨e,q⟩:=x;exact⟨k _ _ (.inl rfl) e,ih q⟩
 |fN ps =>
  have e:h.get? a=some { cls:=.none,data:=.fields ps }:=x
  show h'.get? a=some { cls:=.none,data:=.fields ps }
  exact k a _ (.inl rfl) e
 |met f y =>
  have e:h.get? a=some (PySem.W.methodObj (.ref f) (.ref y)):=x
  show h'.get? a=some (PySem.W.methodObj (.ref f) (.ref y))
  exact k a _ (.inl rfl) e
 |ext φ=>obtain⟨p,⟨o,e⟩,st⟩:=x;exact⟨st _ _ p fun o q=>k _ _ (.inl rfl) q,⟨o,k _ _ (.inl rfl) e⟩,st⟩
theorem Fm.lt (x:Fm P w H h) (e:H a=some o):a < h.objs.size:=(x a o e).lt
theorem Fm.fresh (x:Fm P w H h) (e:h.objs.size<=a):H a=none:=by
 cases q:H a with
 |none=>rfl
 |some u=>exact absurd (zy (x.lt q) e) (Nat.lt_irrefl _)
theorem Fm.kept (x:Fm P w H h) (k:∀ b u,h.get? b=some u->h'.get? b=some u):Fm P w H h':=fun a o e =>
 (x a o e).P8 (fun b u _ q=>k b u q) (fun _ q=>q) fun _ _ q=>q
theorem Fm.laid (x:Fm P w H h) (k:∀ b u,h.get? b=some u->h'.get? b=some u) (hp:h.objs.size<=a) (new:BB P w (upd H a o) h' a o):Fm P w (upd H a o) h':=fun b u e=>by
 have hn:=x.fresh hp
 by_cases hb:b=a
 ·subst hb;rw[Ar] at e;cases e;exact new
 ·rw[Ah hb] at e
  exact (x b u e).P8 (fun c v _ q=>k c v q) (fun c q=>by rw[Ah (Ay q hn)];exact q) fun c xs q=>by rw[Ah (Ay q hn)];exact q
end
def Rd (H:Hp) (a:Addr) (u:HO):Prop:=H a=some u\/∃ o,H a=some (.Vc o u)
theorem Rd.ok {P:Program}{w:World}{H:Hp}{h:Heap}{a:Addr}{u:HO}(r:Rd H a u) (x:Fm P w H h):BB P w H h a u:=by
 rcases r with r|⟨o,r⟩
 ·exact x a u r
 ·obtain⟨_,q⟩:=x a _ r
  exact q
def mL:Option HO->Prop
 |some (.lst _)=>True
 |some (.dK _)=>True
 |some (.dT _)=>True
 |some (.set _ _)=>True
 |some (.ins _ _ _)=>True
 |some (.ext _)=>True
 |_=>False
section
variable {P:Program}{w:World}{H:Hp}{h h':Heap}{x e:Addr}{o':HO}
theorem Fm.write (ok:Fm P w H h) (mu:mL (H x)) (he:e=x\/H e=some (.own x)) (k:∀ b u,b≠e->h.get? b=some u->h'.get? b=some u) (dn:∃ u,h'.get? e=some u)
 (new:BB P w (upd H x o') h' x o'):Fm P w (upd H x o') h':=fun b u q=>by
 have ik:∀ c y,H c=some (.own y)->c≠x:=fun c y r z=>by subst z;rw[r] at mu;exact mu
 have l8:∀ c xs,H c=some (.tup xs)->c≠x:=fun c xs r z=>by subst z;rw[r] at mu;exact mu
 by_cases hb:b=x
 ·subst hb;rw[Ar] at q;cases q;exact new
 ·rw[Ah hb] at q
  by_cases ee:b=e
  ·have q':H b=some (.own x):=by
    rcases he with z|z
    ·exact absurd (ee.trans z) hb
    ·rw[ee];exact z
   rw[q] at q';cases q'
   obtain⟨v,hv⟩:=dn
   exact⟨v,by rw[ee];exact hv⟩
  ·refine (ok b u q).P8 (fun c v hc r=>k c v ?_ r) (fun c r=>by rw[Ah (ik c b r)];exact r) fun c xs r=>by rw[Ah (l8 c xs r)];exact r
   rcases hc with rfl|hc
   ·exact ee
   ·rintro rfl
    rcases he with z|z
    ·exact ik c b hc z
    ·rw[hc] at z;cases z;exact hb rfl
end
structure Un (fs ex:List Addr) (H H':Hp) (h h':Heap):Prop where
 keep:∀ b o,h.get? b=some o->H b=none->b∉fs->b∉ex->h'.get? b=some o
 slot:∀ b o,h.get? b=some o->H b=none->b∈fs->b∉ex->∃ sl,h'.get? b=some { o with slots:=sl }
 free:∀ b o,h.get? b=some o->H b=none->b∉ex->H' b=none
 there:∀ b o,h.get? b=some o->b∉ex->∃ o',h'.get? b=some o'
 NI:∀ b xs,H b=some (.tup xs)->H' b=some (.tup xs)
 Mc:∀ b o u,H b=some (.Vc o u)->H' b=some (.Vc o u)
 NJ:∀ b ps,H b=some (.fN ps)->∃ more,H' b=some (.fN (ps++more))
section
variable {fs cg ex l9:List Addr}{H H1 H2:Hp}{h h1 h2 h':Heap}{a x e:Addr}{o:HO}
theorem Un.any (u:Un fs ex H H1 h h1){b:Addr}{ob:Obj}(q:h.get? b=some ob) (n:H b=none) (hx:b∉ex):∃ sl,h1.get? b=some { ob with slots:=sl }:=by
 by_cases hb:b∈fs
 ·exact u.slot b ob q n hb hx
 ·exact⟨ob.slots,u.keep b ob q n hb hx⟩
theorem Un.kept (k:∀ b u,h.get? b=some u->h'.get? b=some u):Un fs ex H H h h' :=
 ⟨fun b ob q _ _ _=>k b ob q,fun b ob q _ _ _=>⟨ob.slots,k b ob q⟩,fun _ _ _ n _=>n,fun b ob q _=>⟨ob,k b ob q⟩,fun _ _ q=>q,fun _ _ _ q=>q,fun _ ps q=>⟨#[],by rw[q];simp⟩⟩
theorem Un.refl:Un fs ex H H h h:=Un.kept fun _ _ q=>q
theorem Un.laid (k:∀ b u,h.get? b=some u->h'.get? b=some u) (hp:h.objs.size<=a) (hn:H a=none):Un fs ex H (upd H a o) h h' where
 keep:=fun b u q _ _ _=>k b u q
 slot:=fun b u q _ _ _=>⟨u.slots,k b u q⟩
 free:=fun b u q n _=>by rw[Ah (zC (zy (zu q) hp))];exact n
 there:=fun b u q _=>⟨u,k b u q⟩
 NI:=fun b xs q=>by rw[Ah (Ay q hn)];exact q
 Mc:=fun b u xs q=>by rw[Ah (Ay q hn)];exact q
 NJ:=fun b ps q=>⟨#[],by rw[Ah (Ay q hn),q];simp⟩
theorem Un.write (mu:mL (H x)) (he:e=x\/H e=some (.own x)) (k:∀ b u,b≠e->h.get? b=some u->h'.get? b=some u) (dn:∃ u,h'.get? e=some u):Un fs ex H (upd H x o) h h':=by
 have hx:∀ b,H b=none->b≠x:=fun b n z=>by subst z;rw[n] at mu;exact mu
 have hb:∀ b,H b=none->b≠e:=fun b n z=>by
  subst z
  rcases he with r|r
  ·exact hx b n r
  ·rw[n] at r;cases r
 have hm:∀ b u,H b=some u->¬ mL (some u)->b≠x:=fun b u q nm z=>by subst z;rw[q] at mu;exact nm mu
 refine⟨fun b u q n _ _=>k b u (hb b n) q,fun b u q n _ _=>⟨u.slots,k b u (hb b n) q⟩,fun b u q n _=>by rw[Ah (hx b n)];exact n,fun b u q _=>?_,
  fun b xs q=>by rw[Ah (hm b _ q fun z=>z)];exact q,fun b u xs q=>by rw[Ah (hm b _ q fun z=>z)];exact q,fun b ps q=>⟨#[],by rw[Ah (hm b _ q fun z=>z),q];simp⟩⟩
 by_cases ee:b=e
 ·subst ee;exact dn
 ·exact⟨u,k b u ee q⟩
end
def Cn (h:Heap) (H:Hp):List Addr:=(yz h.objs.size).filter fun a=>(H a).isSome
def P9 (h:Heap) (H:Hp):Heap:=PySem.W.hideAll h (Cn h H)
theorem Vd (h:Heap) (H:Hp):(P9 h H).objs.size=h.objs.size:=PySem.W.hideAll_size _ _
theorem Wy {h:Heap}{H:Hp}{b:Addr}{o:Obj}(e:h.get? b=some o) (n:H b=none):(P9 h H).get? b=some o :=
 yA _ e fun hm=>by
  have q:(H b).isSome=true:=(yy.mp hm).2
  rw[n] at q;simp at q
theorem Z4 {h:Heap}{H:Hp}{b:Addr}{o:Obj}(e:(P9 h H).get? b=some o):h.get? b=some o/\H b=none:=by
 have e':h.get? b=some o:=PySem.W.of_hideAll (Cn h H) e
 refine⟨e',?_⟩
 cases q:H b with
 |none=>rfl
 |some x =>
  have hm:b∈Cn h H:=yy.mpr ⟨List.mem_range.mpr (zu e'),by simp[q]⟩
  have z:(P9 h H).get? b=none:=PySem.W.hideAll_none (Cn h H) hm
  rw[z] at e;cases e
def Z5 (g h:Heap) (L:Addr):List (Addr×Obj):=(yz h.objs.size).filterMap fun a=>if a=L\/(g.get? a).isSome=true then none else (h.get? a).map fun o=>(a,o)
def rest (g h:Heap) (L d:Addr):List (Addr×Obj):=(Z5 g h L).filter fun p=>decide (p.1≠d)
structure Mod (K:za) (mg:Str->Option Value) (base:Heap):Prop where
 Wu:K.In base
 glob:base.Ns mainGlobals mg
 blt:∃ mb,base.Ns builtinsNs mb/\∀ x:Str,x ≠ "__name__" -> mb x=bootBuiltins x
 nolimit:base.NoLimit
structure Cx where
 prog:Program
 w:World
 K:za
 mg:Str->Option Value
 base:Heap
 A:Around
 N:List Str
 s₀:Shared
 H₀:Hp
 env:Env
 outer:List Env
 stack:List Env
 ex:List Addr
 fn:Str->Bool
 calm:Bool
 pn:List (Addr×Obj)
 xe:Value->Shared->Prop
def KW (l:List Env):List Addr:=l.filterMap (·.frame)
abbrev Cx.fs (X:Cx):List Addr:=KW X.outer
def qM (sc:Scope) (x:Str):Prop:=sc.names.lookup x=some .local\/sc.names.lookup x=some .cell\/sc.names.lookup x=some .free
def Loc (sc:Scope) (x:Str):Prop:=sc.names.lookup x=some .local\/sc.names.lookup x=some .cell
def Look (env:Env) (h:Heap) (m:Str->Option Value) (x:Str) (u:Value):Prop :=
 (env.kindOf x=some .local/\m x=some u)\/((env.kindOf x=some .cell\/env.kindOf x=some .free)/\∃ c,env.cells.lookup x=some c/\h.IsCell c (some u))
structure Cx.Ok (X:Cx):Prop where
 mod:Mod X.K X.mg X.base
 kind:X.env.scope.kind=.function
 glob:X.env.globals=mainGlobals
 blt:X.env.builtins=builtinsNs
 above:X.s₀.heap.objs.size<=X.env.locals
 inj:∀ x y c,X.env.cells.lookup x=some c->X.env.cells.lookup y=some c->x=y
 has:∀ x,(X.env.kindOf x=some .cell\/X.env.kindOf x=some .free)->∃ c,X.env.cells.lookup x=some c
 mM:∀ x c,X.fn x=true->X.env.cells.lookup x=some c->X.s₀.heap.objs.size<=c
 hd:X.calm=true->X.A.handled=none
 frames:X.A.frames=some X.stack
 fO:X.stack=X.outer\/(X.stack=X.env::X.outer/\X.env.frame=some X.env.locals)
 pS:∀ b∈X.ex,b≠X.env.locals/\∀ x c,X.env.cells.lookup x=some c->c≠b
 bs:∀ b o,X.base.get? b=some o->X.s₀.heap.get? b=some o/\X.H₀ b=none
 Z6:X.base.objs.size<=X.s₀.heap.objs.size
 Wz:∀ b o,X.base.get? b=some o->b∉X.ex
 WA:∀ b∈X.ex,b∉X.fs
 IV:X.s₀.heap.FunFrames X.base X.outer
 hZ:∀ b∈X.fs,X.H₀ b=none
structure Inv (X:Cx) (pins:List (Addr×Obj)) (σ:List (Option V)) (H:Hp) (s:Shared):Prop where
 ok:X.Ok
 os:s.os=X.s₀.os
 bare:AllBare s.gens
 base:Un X.fs X.ex X.H₀ H X.s₀.heap s.heap
 loc:∃ m,s.heap.Ns X.env.locals m/\∀(i:Nat) (x:Str) (v:V),X.N[i]? =some x->σ[i]? =some (some v)->qM X.env.scope x->∃ u,RelV v u/\Look X.env s.heap m x u
 cell:∀ x c,X.env.cells.lookup x=some c->∃ v,s.heap.IsCell c v
 free:H X.env.locals=none
 Gj:∀ x c,X.env.cells.lookup x=some c->H c=none
 pin:∀ p∈X.pn++pins,s.heap.get? p.1=some p.2/\H p.1=none/\p.1≠X.env.locals/\p.1∉X.fs/\∀ v,p.2.data≠.cell v
 Au:Fm X.prog X.w H s.heap
 len:σ.length=X.N.length
section
variable {X:Cx}{pins:List (Addr×Obj)}{σ:List (Option V)}{H H':Hp}{s:Shared}{h':Heap}
theorem Cx.Ok.qN (ok:X.Ok){b:Addr}{o:Obj}(e:X.base.get? b=some o):b∉X.fs:=fun hb=>by
 have:=(ok.IV.mem hb).1
 rw[e] at this;cases this
theorem Inv.bs (I:Inv X pins σ H s):∀ b o,X.base.get? b=some o->s.heap.get? b=some o/\H b=none:=fun b o e =>
 ⟨I.base.keep b o (I.ok.bs b o e).1 (I.ok.bs b o e).2 (I.ok.qN e) (I.ok.Wz b o e),I.base.free b o (I.ok.bs b o e).1 (I.ok.bs b o e).2 (I.ok.Wz b o e)⟩
theorem Inv.bk (I:Inv X pins σ H s):∀ b o,X.base.get? b=some o->s.heap.get? b=some o:=fun b o e=>(I.bs b o e).1
theorem Inv.mod (I:Inv X pins σ H s):Mod X.K X.mg X.base:=I.ok.mod
theorem Inv.NG (I:Inv X pins σ H s):X.K.In s.heap:=I.ok.mod.Wu.keeps I.bk
theorem Inv.fr (I:Inv X pins σ H s):∃ m,Fr X.base X.env.locals s.heap m :=
 let ⟨m,hn,_⟩:=I.loc
 ⟨m,hn,I.bk,yo I.ok.Z6 I.ok.above⟩
theorem Inv.lt (I:Inv X pins σ H s):X.env.locals < s.heap.objs.size:=let ⟨_,hn,_⟩:=I.loc;hn.lt
theorem Inv.sz (I:Inv X pins σ H s):X.s₀.heap.objs.size<=s.heap.objs.size:=yo I.ok.above (yj I.lt)
theorem Inv.qO (I:Inv X pins σ H s){a:Addr}(h:s.heap.objs.size<=a):a∉X.fs:=fun hb=>by
 obtain⟨_,o,ho,_⟩:=I.ok.IV.mem hb
 exact absurd (zy (zu ho) (yo I.sz h)) (Nat.lt_irrefl _)
theorem Inv.iA (I:Inv X pins σ H s):∀ x c,X.env.cells.lookup x=some c->c≠X.env.locals:=fun x c e z=>by
 obtain⟨v,o,ho,hd⟩:=I.cell x c e
 obtain⟨m,⟨o',es,ep,b8,bM,_⟩,_⟩:=I.loc
 rw[z,b8] at ho;cases ho;rw[bM] at hd;cases hd
theorem Inv.IV (I:Inv X pins σ H s):s.heap.FunFrames X.base X.outer:=by
 have all:∀(l:List Env),(∀ b∈KW l,b∈X.fs)->X.s₀.heap.FunFrames X.base l->s.heap.FunFrames X.base l:=by
  intro l
  induction l with
  |nil=>intro _ _;trivial
  |cons env r ih =>
   intro hs hl
   obtain⟨hk,⟨L,o,hf,hn,ho,hd⟩,hr⟩:=hl
   have hL:L∈X.fs:=hs L (by unfold KW;rw[List.filterMap_cons,hf];exact zd)
   obtain⟨sl,e⟩:=I.base.slot L o ho (I.ok.hZ L hL) hL fun z=>I.ok.WA L z hL
   exact⟨hk,⟨L,_,hf,hn,e,hd⟩,ih (fun b hb=>hs b (by unfold KW;rw[List.filterMap_cons,hf];exact ze _ hb)) hr⟩
 exact all X.outer (fun _ hb=>hb) I.ok.IV
theorem Inv.stack (I:Inv X pins σ H s):s.heap.FunFrames X.base X.stack:=by
 rcases I.ok.fO with e|⟨e,hf⟩
 ·rw[e];exact I.IV
 ·rw[e]
  obtain⟨m,hn,_⟩:=I.loc
  refine .cons (by rw[I.ok.kind];decide) hf hn ?_ I.IV
  exact Heap.get?_none_of_le (yo I.ok.Z6 I.ok.above)
theorem Inv.Sk (I:Inv X pins σ H s):∀ b∈KW X.stack,b∈X.env.locals::X.fs:=fun b hb=>by
 rcases I.ok.fO with e|⟨e,hf⟩
 ·rw[e] at hb;exact ze _ hb
 ·rw[e] at hb
  unfold KW at hb
  rw[List.filterMap_cons,hf] at hb
  exact hb
theorem Inv.Pa (I:Inv X pins σ H s):∀ b∈KW X.stack,H b=none:=fun b hb=>by
 rcases zo.mp (I.Sk b hb) with e|hb
 ·rw[e];exact I.free
 ·obtain⟨_,o,ho,_⟩:=I.ok.IV.mem hb
  exact I.base.free b o ho (I.ok.hZ b hb) fun z=>I.ok.WA b z hb
theorem Inv.step {g':Array GenState}{t':Nat}{d':Drawn}{ch:List Addr}(I:Inv X pins σ H s)
 (cG:∀ b∈ch,(b∈X.ex\/X.s₀.heap.objs.size<=b)/\b≠X.env.locals/\(∀ x c,X.env.cells.lookup x=some c->c≠b)/\∀ p∈X.pn++pins,p.1≠b)
 (keep:∀ b o,b≠X.env.locals->b∉X.fs->b∉ch->s.heap.get? b=some o->H b=none->h'.get? b=some o)
 (slot:∀ b o,b≠X.env.locals->b∈X.fs->b∉ch->s.heap.get? b=some o->H b=none->∃ sl,h'.get? b=some { o with slots:=sl }) (free:∀ b o,b∉ch->s.heap.get? b=some o->H b=none->H' b=none)
 (there:∀ b o,b∉ch->s.heap.get? b=some o->∃ o',h'.get? b=some o')
 (NI:∀ b xs,H b=some (.tup xs)->H' b=some (.tup xs)) (Mc:∀ b o u,H b=some (.Vc o u)->H' b=some (.Vc o u)) (NJ:∀ b ps,H b=some (.fN ps)->∃ more,H' b=some (.fN (ps++more)))
 (ns:∀ m,s.heap.Ns X.env.locals m->h'.Ns X.env.locals m) (Au:Fm X.prog X.w H' h') (hg:AllBare g') :
 Inv X pins σ H' { s with heap:=h',gens:=g',drawn:=d',toks:=t' }:=by
 have tR:∀ b o,X.s₀.heap.get? b=some o->b≠X.env.locals:=fun b o e=>zC (zy (zu e) I.ok.above)
 have h7:∀ b o,X.s₀.heap.get? b=some o->b∉X.ex->b∉ch:=fun b o e hx hb=>by
  rcases (cG b hb).1 with z|z
  ·exact hx z
  ·exact absurd (zy (zu e) z) (Nat.lt_irrefl _)
 have cellK:∀ x c,X.env.cells.lookup x=some c->∀ v,s.heap.IsCell c v->h'.IsCell c v:=fun x c e v ⟨o,ho,hd⟩=>by
  have il:c∉ch:=fun z=>(cG c z).2.2.1 x c e rfl
  by_cases hc:c∈X.fs
  ·obtain⟨sl,q⟩:=slot c o (I.iA x c e) hc il ho (I.Gj x c e)
   exact⟨_,q,hd⟩
  ·exact⟨o,keep c o (I.iA x c e) hc il ho (I.Gj x c e),hd⟩
 refine⟨I.ok,I.os,hg,⟨fun b o e n hb hx=>?_,fun b o e n hb hx=>?_,fun b o e n hx=>?_,fun b o e hx=>?_,fun b xs e=>NI b xs (I.base.NI b xs e),fun b o xs e=>Mc b o xs (I.base.Mc b o xs e),fun b ps e=>?_⟩,?_,fun x c e=>?_,?_,fun x c e=>?_,fun p hp=>?_,Au,I.len⟩
 ·exact keep b o (tR b o e) hb (h7 b o e hx) (I.base.keep b o e n hb hx) (I.base.free b o e n hx)
 ·obtain⟨sl,e1⟩:=I.base.slot b o e n hb hx
  obtain⟨ku,e2⟩:=slot b _ (tR b o e) hb (h7 b o e hx) e1 (I.base.free b o e n hx)
  exact⟨ku,e2⟩
 ·obtain⟨o',e1⟩:=I.base.there b o e hx
  exact free b o' (h7 b o e hx) e1 (I.base.free b o e n hx)
 ·obtain⟨o',e1⟩:=I.base.there b o e hx
  exact there b o' (h7 b o e hx) e1
 ·obtain⟨m1,e1⟩:=I.base.NJ b ps e
  obtain⟨m2,e2⟩:=NJ b _ e1
  exact⟨m1++m2,by rw[e2,Array.append_assoc]⟩
 ·obtain⟨m,hn,hl⟩:=I.loc
  refine⟨m,ns m hn,fun i x v e1 e2 e3=>?_⟩
  obtain⟨u,r,l⟩:=hl i x v e1 e2 e3
  refine⟨u,r,?_⟩
  rcases l with l|⟨k,c,e,z⟩
  ·exact .inl l
  ·exact .inr ⟨k,c,e,cellK x c e _ z⟩
 ·obtain⟨v,z⟩:=I.cell x c e
  exact⟨v,cellK x c e v z⟩
 ·obtain⟨m,⟨o,_,_,ho,_⟩,_⟩:=I.loc
  exact free _ o (fun z=>(cG _ z).2.1 rfl) ho I.free
 ·obtain⟨v,o,ho,hd⟩:=I.cell x c e
  exact free c o (fun z=>(cG c z).2.2.1 x c e rfl) ho (I.Gj x c e)
 ·obtain⟨e,n,ne,nf,d⟩:=I.pin p hp
  have il:p.1∉ch:=fun z=>(cG p.1 z).2.2.2 p hp rfl
  exact⟨keep p.1 p.2 ne nf il e n,free p.1 p.2 il e n,ne,nf,d⟩
theorem Inv.un {t':Nat}(I:Inv X pins σ H s) (u:Un X.fs [] H H' s.heap h') (Au:Fm X.prog X.w H' h'):Inv X pins σ H' { s with heap:=h',toks:=t' }:=by
 obtain⟨m,⟨o,es,ep,ho,r⟩,_⟩:=id I.loc
 obtain⟨sl,hL⟩:=u.any ho I.free (by simp)
 exact I.step (g':=s.gens) (d':=s.drawn) (ch:=[]) (fun _ z=>nomatch z) (fun b o _ hb _ e n=>u.keep b o e n hb (by simp)) (fun b o _ hb _ e n=>u.slot b o e n hb (by simp)) (fun b o _ e n=>u.free b o e n (by simp)) (fun b o _ e=>u.there b o e (by simp)) u.NI u.Mc u.NJ (fun m' hm=>by
  obtain⟨o',me,mf,b8,r'⟩:=hm
  rw[ho] at b8;cases b8
  exact⟨_,me,mf,hL,r'⟩) Au I.bare
theorem Inv.call {g':Array GenState}{t':Nat}{d':Drawn}{ch:List Addr}(I:Inv X pins σ H s) (u:Un (KW X.stack) ch H H' s.heap h') (Au:Fm X.prog X.w H' h') (hg:AllBare g')
 (cG:∀ b∈ch,(b∈X.ex\/X.s₀.heap.objs.size<=b)/\b≠X.env.locals/\(∀ x c,X.env.cells.lookup x=some c->c≠b)/\∀ p∈X.pn++pins,p.1≠b) :
 Inv X pins σ H' { s with heap:=h',gens:=g',drawn:=d',toks:=t' }:=by
 obtain⟨m,⟨o,es,ep,ho,r⟩,_⟩:=id I.loc
 obtain⟨sl,hL⟩:=u.any ho I.free fun z=>(cG _ z).2.1 rfl
 exact I.step (ch:=ch) cG (fun b o hL hb hc e n=>u.keep b o e n (fun z=>(zo.mp (I.Sk b z)).elim hL hb) hc) (fun b o _ _ hc e n=>u.any e n hc) (fun b o hc e n=>u.free b o e n hc) (fun b o hc e=>u.there b o e hc) u.NI u.Mc u.NJ (fun m' hm=>by
  obtain⟨o',me,mf,b8,r'⟩:=hm
  rw[ho] at b8;cases b8
  exact⟨_,me,mf,hL,r'⟩) Au hg
theorem Inv.turned {t':Nat}{it:Addr}(I:Inv X pins σ H s) (k:∀ b o,b≠it->s.heap.get? b=some o->h'.get? b=some o) (hn:H it=none) (hL:it≠X.env.locals)
 (h1:it∈X.ex\/X.s₀.heap.objs.size<=it) (h2:∀ x c,X.env.cells.lookup x=some c->c≠it) (h3:∀ p∈X.pn++pins,p.1≠it):Inv X pins σ H { s with heap:=h',toks:=t' }:=by
 have tS:∀ b u,H b=some u->b≠it:=fun b u e z=>by rw[z,hn] at e;cases e
 refine I.step (g':=s.gens) (d':=s.drawn) (ch:=[it]) (fun b hb=>?_) (fun b o _ _ hc e _=>k b o (fun z=>hc (by simp[z])) e) (fun b o _ _ hc e _=>⟨o.slots,k b o (fun z=>hc (by simp[z])) e⟩) (fun _ _ _ _ n=>n)
  (fun b o hc e=>⟨o,k b o (fun z=>hc (by simp[z])) e⟩) (fun _ _ e=>e) (fun _ _ _ e=>e) (fun b ps e=>⟨#[],by rw[e];simp⟩) (fun m hm=>?_) (fun b u e=>?_) I.bare
 ·have e:b=it:=by simpa using hb
  subst e
  exact⟨h1,hL,h2,h3⟩
 ·obtain⟨o,es,ep,ho,r⟩:=hm
  exact⟨o,es,ep,k _ o (zU hL) ho,r⟩
 ·refine (I.Au b u e).P8 (fun c v hc q=>k c v ?_ q) (fun _ q=>q) fun _ _ q=>q
  rcases hc with z|z
  ·rw[z];exact tS b u e
  ·exact tS c _ z
theorem Inv.tok (I:Inv X pins σ H s) (t:Nat):Inv X pins σ H { s with toks:=t }:=I.un (h':=s.heap) (t':=t) Un.refl I.Au
theorem Inv.kept {t':Nat}(I:Inv X pins σ H s) (k:∀ b u,s.heap.get? b=some u->h'.get? b=some u):Inv X pins σ H { s with heap:=h',toks:=t' }:=I.un (Un.kept k) (I.Au.kept k)
theorem Inv.laid {a:Addr}{o:HO}{t':Nat}(I:Inv X pins σ H s) (k:∀ b u,s.heap.get? b=some u->h'.get? b=some u) (hp:s.heap.objs.size<=a) (new:BB X.prog X.w (upd H a o) h' a o) :
 Inv X pins σ (upd H a o) { s with heap:=h',toks:=t' }:=I.un (Un.laid k hp (I.Au.fresh hp)) (I.Au.laid k hp new)
theorem Inv.write {x e:Addr}{o:HO}{t':Nat}(I:Inv X pins σ H s) (mu:mL (H x)) (he:e=x\/H e=some (.own x)) (k:∀ b u,b≠e->s.heap.get? b=some u->h'.get? b=some u) (dn:∃ u,h'.get? e=some u)
 (new:BB X.prog X.w (upd H x o) h' x o):Inv X pins σ (upd H x o) { s with heap:=h',toks:=t' }:=I.un (Un.write mu he k dn) (I.Au.write mu he k dn new)
theorem Inv.weak {σ':List (Option V)}(I:Inv X pins σ H s) (hl:σ'.length=σ.length) (w:∀(i:Nat) v,σ'[i]? =some (some v)->σ[i]? =some (some v)):Inv X pins σ' H s :=
 ⟨I.ok,I.os,I.bare,I.base,let ⟨m,hn,bT⟩:=I.loc;⟨m,hn,fun i x v e1 e2 e3=>bT i x v e1 (w i v e2) e3⟩,I.cell,I.free,I.Gj,I.pin,I.Au,hl.trans I.len⟩
theorem Inv.IW {dq:List (Addr×Obj)}(I:Inv X pins σ H s) (h:∀ p∈dq,s.heap.get? p.1=some p.2/\H p.1=none/\p.1≠X.env.locals/\p.1∉X.fs/\∀ v,p.2.data≠.cell v):Inv X dq σ H s :=
 ⟨I.ok,I.os,I.bare,I.base,I.loc,I.cell,I.free,I.Gj,fun p hp=>(zv.mp hp).elim (fun z=>I.pin p (zN _ z)) (h p),I.Au,I.len⟩
theorem QB {N:List Str}(hN:N.Nodup){i j:Nat}{x:Str}(a:N[i]? =some x) (b:N[j]? =some x):i=j:=by
 obtain⟨h1,e1⟩:=zw.mp a
 obtain⟨h2,e2⟩:=zw.mp b
 exact (List.getElem_inj hN).mp (e1.trans e2.symm)
theorem O8 {M:Model}{A:Around}{E:Value->Shared->Prop}{i:Nat}{x:Str}{v:V}{u:Value}{Q:Unit->Shared->Prop}(I:Inv X pins σ H s) (hN:X.N.Nodup) (hi:X.N[i]? =some x) (hx:Loc X.env.scope x) (r:RelV v u)
 (h:∀ s',Inv X pins (σ.set i (some v)) H s'->(∃ a,yV a s.heap s'.heap/\(a=X.env.locals\/X.env.cells.lookup x=some a))->Q () s') (hf:X.fn x=true\/X.env.scope.names.lookup x=some .local:=by first|exact .inl rfl|exact .inr rfl|assumption):wpAny M A (storeName X.env x u) Q E s:=by
 obtain⟨m,hn,hl⟩:=id I.loc
 have mh:(X.env.scope.kind == .class || (X.env.scope.kind == .module && X.env.locals != X.env.globals))=false:=by rw[I.ok.kind];rfl
 have hiσ:i < σ.length:=by rw[I.len];exact (zw.mp hi).1
 have iA:=I.iA
 have tracked:∀ {a:Addr} {h':Heap},(∃ o,s.heap.get? a=some o/\H a=none)->yV a s.heap h'->Fm X.prog X.w H h':=fun {a h'} ha hs b ob e=>by
  obtain⟨_,_,dr⟩:=ha
  refine (I.Au b ob e).P8 (fun c w' hc q=>(hs.2 c ?_).trans q) (fun _ q=>q) fun _ _ q=>q
  rintro rfl
  rcases hc with rfl|hc
  ·rw[dr] at e;cases e
  ·rw[dr] at hc;cases hc
 rcases hx with hk|hk
 ·refine wpAny_storeName_local hk hn (fun h' bU hs=>?_) mh
  obtain⟨oL,_,_,mi,_⟩:=id hn
  refine h _ ⟨I.ok,I.os,I.bare,⟨fun b o e n hb hx=>?_,fun b o e n hb hx=>?_,I.base.free,fun b o e hx=>?_,I.base.NI,I.base.Mc,I.base.NJ⟩,⟨_,bU,fun j y v' e1 e2 e3=>?_⟩,fun y c e=>?_,I.free,I.Gj,fun p hp=>?_,tracked ⟨oL,mi,I.free⟩ hs,by simpa using I.len⟩ ⟨_,hs,.inl rfl⟩
  ·exact (hs.2 b (zC (zy (zu e) I.ok.above))).trans (I.base.keep b o e n hb hx)
  ·obtain⟨sl,e1⟩:=I.base.slot b o e n hb hx
   exact⟨sl,(hs.2 b (zC (zy (zu e) I.ok.above))).trans e1⟩
  ·obtain⟨o',e1⟩:=I.base.there b o e hx
   exact⟨o',(hs.2 b (zC (zy (zu e) I.ok.above))).trans e1⟩
  ·by_cases hj:j=i
   ·subst hj
    rw[hi] at e1;cases e1
    rw[zQ hiσ] at e2
    cases e2
    exact⟨u,r,.inl ⟨hk,by simp⟩⟩
   ·rw[yn (zU hj)] at e2
    obtain⟨u',r',q⟩:=hl j y v' e1 e2 e3
    refine⟨u',r',?_⟩
    rcases q with ⟨k,e⟩|⟨k,c,e,z⟩
    ·refine .inl ⟨k,?_⟩
     have:y≠x:=fun e=>hj (QB hN e1 (e▸hi))
     simp[this,e]
    ·exact .inr ⟨k,c,e,z.sameBut hs (iA y c e)⟩
  ·obtain⟨w',z⟩:=I.cell y c e
   exact⟨w',z.sameBut hs (iA y c e)⟩
  ·obtain⟨e,n,ne,nf,d⟩:=I.pin p hp
   exact⟨(hs.2 p.1 ne).trans e,n,ne,nf,d⟩
 ·have ml:X.fn x=true:=by
   rcases hf with z|z
   ·exact z
   ·rw[z] at hk;cases hk
  obtain⟨c,hc⟩:=I.ok.has x (.inl hk)
  obtain⟨w',z⟩:=I.cell x c hc
  refine wpAny_storeName_cell I.ok.kind hk hc z (fun h' bN hs=>?_)
  obtain⟨oc,tT,mn⟩:=id z
  refine h { s with heap:=h' } ⟨I.ok,I.os,I.bare,⟨fun b o e n hb hx=>?_,fun b o e n hb hx=>?_,I.base.free,fun b o e hx=>?_,I.base.NI,I.base.Mc,I.base.NJ⟩,⟨m,hn.sameBut hs (zU (iA x c hc)),fun j y v' e1 e2 e3=>?_⟩,fun y c' e=>?_,I.free,I.Gj,fun p hp=>?_,tracked ⟨oc,tT,I.Gj x c hc⟩ hs,by simpa using I.len⟩ ⟨c,hs,.inr hc⟩
  ·exact (hs.2 b (zC (zy (zu e) (I.ok.mM x c ml hc)))).trans (I.base.keep b o e n hb hx)
  ·obtain⟨sl,e1⟩:=I.base.slot b o e n hb hx
   exact⟨sl,(hs.2 b (zC (zy (zu e) (I.ok.mM x c ml hc)))).trans e1⟩
  ·obtain⟨o',e1⟩:=I.base.there b o e hx
   exact⟨o',(hs.2 b (zC (zy (zu e) (I.ok.mM x c ml hc)))).trans e1⟩
  ·by_cases hj:j=i
   ·subst hj
    rw[hi] at e1;cases e1
    rw[zQ hiσ] at e2
    cases e2
    exact⟨u,r,.inr ⟨.inl hk,c,hc,bN⟩⟩
   ·rw[yn (zU hj)] at e2
    obtain⟨u',r',q⟩:=hl j y v' e1 e2 e3
    refine⟨u',r',?_⟩
    rcases q with q|⟨k,c',e,z'⟩
    ·exact .inl q
    ·refine .inr ⟨k,c',e,z'.sameBut hs ?_⟩
     rintro rfl
     exact hj (QB hN e1 (I.ok.inj _ _ _ e hc▸hi))
  ·by_cases lb:c'=c
   ·subst lb;exact⟨_,bN⟩
   ·obtain⟨w2,z2⟩:=I.cell y c' e
    exact⟨w2,z2.sameBut hs lb⟩
  ·obtain⟨e,n,ne,nf,d⟩:=I.pin p hp
   refine⟨(hs.2 p.1 ?_).trans e,n,ne,nf,d⟩
   intro q
   rw[q,tT] at e
   have q':oc=p.2:=zM e
   exact d w' (by rw[<-q'];exact mn)
theorem QC {M:Model}{A:Around}{E:Value->Shared->Prop}{i:Nat}{x:Str}{v:V}{u:Value}{Q:Unit->Shared->Prop}(I:Inv X pins σ H s) (hN:X.N.Nodup) (hi:X.N[i]? =some x) (hx:Loc X.env.scope x) (r:RelV v u)
 (h:∀ s',Inv X pins (σ.set i (some v)) H s'->Q () s') (hf:X.fn x=true\/X.env.scope.names.lookup x=some .local:=by first|exact .inl rfl|exact .inr rfl|assumption):wpAny M A (storeName X.env x u) Q E s :=
 O8 I hN hi hx r (fun s' I' _=>h s' I') hf
theorem Inv.fP {s':Shared}{ch:List Addr}(I:Inv X pins σ H s) (ho:s'.os=s.os) (u:Un (KW X.stack) ch H H' s.heap s'.heap) (Au:Fm X.prog X.w H' s'.heap) (hg:AllBare s'.gens)
 (cG:∀ b∈ch,(b∈X.ex\/X.s₀.heap.objs.size<=b)/\b≠X.env.locals/\(∀ x c,X.env.cells.lookup x=some c->c≠b)/\∀ p∈X.pn++pins,p.1≠b):Inv X pins σ H' s':=by
 obtain⟨h',g',d',t',o'⟩:=s'
 have e:o'=s.os:=ho
 subst e
 exact I.call (g':=g') (t':=t') (d':=d') u Au hg cG
end
abbrev XK:=Value->Option Addr->Hp->Prop
abbrev St:=List (Option V)
abbrev VK:=V->Hp->Prop
abbrev TE:=St->Hp->VK->Prop
abbrev TT:=St->Hp->(Bool->Hp->Prop)->Prop
abbrev TA:=St->Hp->(List V->Hp->Prop)->Prop
structure Ends where
 nx:St->Hp->Prop
 rt:VK
 bk:St->Hp->Prop:=fun _ _=>False
 ct:St->Hp->Prop:=fun _ _=>False
abbrev TS:=Ends->St->Hp->Prop
def EP (X:Cx) (pins:List (Addr×Obj)) (σ:St) (Q:VK) (u:Value) (s':Shared):Prop:=∃ v H',Inv X pins σ H' s'/\RelV v u/\Q v H'
def TP (X:Cx) (pins:List (Addr×Obj)) (σ:St) (Q:Bool->Hp->Prop) (b:Bool) (s':Shared):Prop:=∃ H',Inv X pins σ H' s'/\Q b H'
def AP (X:Cx) (pins:List (Addr×Obj)) (σ:St) (Q:List V->Hp->Prop) (us:List Value) (s':Shared):Prop:=∃ vs H',Inv X pins σ H' s'/\Vals vs us/\Q vs H'
def SP (X:Cx) (pins:List (Addr×Obj)) (D:Ends) (f:Flow) (s':Shared):Prop :=
 match f with
 | .next=>∃ σ' H',Inv X pins σ' H' s'/\D.nx σ' H'
 | .brk=>∃ σ' H',Inv X pins σ' H' s'/\D.bk σ' H'
 | .cont=>∃ σ' H',Inv X pins σ' H' s'/\D.ct σ' H'
 | .ret u=>∃ v σ' H',Inv X pins σ' H' s'/\RelV v u/\D.rt v H'
def PE (X:Cx) (e:Expr) (t:TE):Prop :=
 ∀(pins:List (Addr×Obj)) (s:Shared) (σ:St) (H:Hp) (Q:VK),Inv X pins σ H s->t σ H Q->wpAny (model X.prog X.w) X.A (eval e X.env) (EP X pins σ Q) X.xe s
def PT (X:Cx) (e:Expr) (t:TT):Prop :=
 ∀(pins:List (Addr×Obj)) (s:Shared) (σ:St) (H:Hp) (Q:Bool->Hp->Prop),Inv X pins σ H s->t σ H Q->wpAny (model X.prog X.w) X.A (isTrue e X.env (eval e X.env)) (TP X pins σ Q) X.xe s
def PW (X:Cx) (e:Expr) (t:TT):Prop :=
 ∀(whole:Sem Value) (pins:List (Addr×Obj)) (s:Shared) (σ:St) (H:Hp) (Q:Bool->Hp->Prop),Inv X pins σ H s->t σ H Q->wpAny (model X.prog X.w) X.A (isTrue e X.env whole) (TP X pins σ Q) X.xe s
theorem PW.pt {X:Cx}{e:Expr}{t:TT}(h:PW X e t):PT X e t:=h _
def PA (X:Cx) (es:List Expr) (t:TA):Prop :=
 ∀(pos:Pos) (pins:List (Addr×Obj)) (s:Shared) (σ:St) (H:Hp) (Q:List V->Hp->Prop),Inv X pins σ H s->t σ H Q->wpAny (model X.prog X.w) X.A (spliced (backTo pos (starEach es X.env))) (AP X pins σ Q) X.xe s
def PS (X:Cx) (st:Stmt) (t:TS):Prop :=
 ∀(pins:List (Addr×Obj)) (s:Shared) (σ:St) (H:Hp) (D:Ends),Inv X pins σ H s->t D σ H->wpAny (model X.prog X.w) X.A (exec st X.env) (SP X pins D) X.xe s
def TX (X:Cx) (st:List Stmt) (t:TS):Prop :=
 ∀(pins:List (Addr×Obj)) (s:Shared) (σ:St) (H:Hp) (D:Ends),Inv X pins σ H s->t D σ H->wpAny (model X.prog X.w) X.A (execs st X.env) (SP X pins D) X.xe s
theorem Bb {α:Type}{t:Sem α}{Q Q':α->Shared->Prop}{M:Model}{A:Around}{E:Value->Shared->Prop}{s:Shared}(h:wpAny M A t Q E s) (hQ:∀ a s,Q a s->Q' a s):wpAny M A t Q' E s:=wpAny_mono h hQ fun _ _ x=>x
section
variable {X:Cx}
theorem bin {a b:Expr}{ta tb:TE}(ha:PE X a ta) (hb:PE X b tb){pins:List (Addr×Obj)}{s:Shared}{σ:St}{H:Hp}{R:V->V->Hp->Prop}(I:Inv X pins σ H s) (h:ta σ H fun x H1=>tb σ H1 fun y H2=>R x y H2)
 {α:Type} {Q:α->Shared->Prop} {f:Value->Value->Sem α}
 (hf:∀ v u s2 x y H2,Inv X pins σ H2 s2->RelV x v->RelV y u->R x y H2->wpAny (model X.prog X.w) X.A (f v u) Q X.xe s2) :
 wpAny (model X.prog X.w) X.A (eval a X.env) (fun v s₁=>wpAny (model X.prog X.w) X.A (eval b X.env) (fun u s₂=>wpAny (model X.prog X.w) X.A (f v u) Q X.xe s₂) X.xe s₁) X.xe s:=by
 refine Bb (ha pins s σ H _ I h) fun v s1 ⟨x,H1,I1,r1,q1⟩=>?_
 refine Bb (hb pins s1 σ H1 _ I1 q1) fun u s2 ⟨y,H2,I2,r2,q2⟩=>?_
 exact hf v u s2 x y H2 I2 r1 r2 q2
def Li (i:Nat):TE:=fun σ H Q=>∃ v,σ[i]? =some (some v)/\Q v H
def tC (v:V):TE:=fun _ H Q=>Q v H
theorem iB {i:Nat}{x:Str}{pos:Pos}(hN:X.N[i]? =some x) (hv:qM X.env.scope x) (hd:(x == ("__debug__" : Str))=false:=by decide) (bw:(x == ("__classdict__" : Str))=false:=by decide):PE X (.Name x pos) (Li i):=by
 intro pins s σ H Q I h
 obtain⟨v,e,h⟩:=h
 obtain⟨m,hn,hl⟩:=I.loc
 obtain⟨u,r,l⟩:=hl i x v hN e hv
 have fin:EP X pins σ Q u s:=⟨v,H,I,r,h⟩
 rcases l with ⟨hk,hm⟩|⟨hk,c,hc,bO⟩
 ·exact wpAny_Name (wpAny_loadName_local I.ok.kind hk hn hm fin) hd
 ·rcases hk with hk|hk
  ·exact wpAny_Name (wpAny_loadName_cell I.ok.kind hk hc bO fin) hd
  ·exact wpAny_Name (wpAny_loadName_free I.ok.kind hk hc bO fin bw) hd
theorem iC {i j pos}:PE X (.Constant (.int i) j pos) (tC (.int i)):=fun _ _ _ H _ I h=>wpAny_Constant_int ⟨.int i,H,I.tok _,⟨_,rfl⟩,h⟩
theorem mO {b j pos}:PE X (.Constant (.bool b) j pos) (tC (.bl b)):=fun _ _ _ H _ I h=>Constant_bool ⟨.bl b,H,I,rfl,h⟩
theorem iD {j pos}:PE X (.Constant .none j pos) (tC .Az):=fun _ _ _ H _ I h=>Constant_none ⟨.Az,H,I,rfl,h⟩
theorem iE {x j pos}:PE X (.Constant (.str x) j pos) (tC (.str x)):=fun _ _ _ H _ I h=>Calls.Constant_str ⟨.str x,H,I.tok _,⟨_,rfl⟩,h⟩
def Gl (X:Cx) (x:Str):Prop:=X.env.kindOf x=some .globalImplicit
theorem Pb {E:Value->Shared->Prop}{pins:List (Addr×Obj)}{s:Shared}{σ:St}{H:Hp}{x:Str}{u:Value}{pos:Pos}{Q:Value->Shared->Prop}(I:Inv X pins σ H s) (hg:Gl X x) (hm:X.mg x=some u) (h:Q u s)
 (hd:(x == ("__debug__" : Str))=false:=by decide):wpAny (model X.prog X.w) X.A (eval (.Name x pos) X.env) Q E s :=
 Calls.Name_function_global I.ok.kind hg (Calls.loadGlobal_global (by rw[I.ok.glob];exact I.mod.glob.keeps I.bk) hm h) hd
theorem DU {E:Value->Shared->Prop}{pins:List (Addr×Obj)}{s:Shared}{σ:St}{H:Hp}{x:Str}{u:Value}{pos:Pos}{Q:Value->Shared->Prop}(I:Inv X pins σ H s) (hg:Gl X x) (hm:X.mg x=none) (hv:bootBuiltins x=some u) (h:Q u s)
 (hn:x ≠ "__name__" := by decide) (hd:(x == ("__debug__" : Str))=false:=by decide):wpAny (model X.prog X.w) X.A (eval (.Name x pos) X.env) Q E s:=by
 obtain⟨mb,h1,h2⟩:=I.mod.blt
 exact Calls.Name_function_global I.ok.kind hg (Calls.loadGlobal_builtin (by rw[I.ok.glob];exact I.mod.glob.keeps I.bk) hm (by rw[I.ok.blt];exact h1.keeps I.bk) ((h2 x hn).trans hv) h) hd
theorem Z7 {x:Str}{v:V}{u:Value}{pos:Pos}(hg:Gl X x) (hm:X.mg x=none) (hv:bootBuiltins x=some u) (r:RelV v u) (hn:x ≠ "__name__" := by decide) (hd:(x == ("__debug__" : Str))=false:=by decide):PE X (.Name x pos) (tC v) :=
 fun _ _ _ H _ I h=>DU I hg hm hv ⟨v,H,I,r,h⟩ hn hd
variable {a b:Expr}{ta tb:TE}{pos:Pos}
def PC (X:Cx) (op:CmpOp) (a b:Expr) (t:TE):Prop :=
 ∀(pins:List (Addr×Obj)) (s:Shared) (σ:St) (H:Hp) (Q:VK),Inv X pins σ H s->t σ H Q->
  wpAny (model X.prog X.w) X.A (eval a X.env) (fun v s₁=>wpAny (model X.prog X.w) X.A (eval b X.env) (fun u s₂=>wpAny (model X.prog X.w) X.A (compareOp op v u) (EP X pins σ Q) X.xe s₂) X.xe s₁) X.xe s
theorem QD (b:Expr){op:CmpOp}(h:op≠.In) (h2:op≠.NotIn):behindInMarks op b=false:=by
 have e1:(op == CmpOp.In)=false:=by cases op<;>first|rfl|exact absurd rfl h
 have e2:(op == CmpOp.NotIn)=false:=by cases op<;>first|rfl|exact absurd rfl h2
 cases b<;>simp[behindInMarks,e1,e2]
def qP (ta:TE):TE:=fun σ H Q=>ta σ H fun x H1=>Q (.bl (decide (x=.Az))) H1
def mP (ta:TE):TE:=fun σ H Q=>ta σ H fun x H1=>Q (.bl (!decide (x=.Az))) H1
theorem RelV.QE {x:V}{v:Value}(r:RelV x v):(v == Value.none)=decide (x=.Az):=by
 cases x with
 |Az=>cases r;rfl
 |bl _=>cases r;rfl
 |int _=>obtain⟨t,rfl⟩:=r;rfl
 |str _=>obtain⟨t,rfl⟩:=r;rfl
 |hV _=>obtain⟨t,rfl⟩:=r;rfl
 |mJ _=>obtain⟨t,rfl⟩:=r;rfl
 |ref _=>cases r;rfl
 |ty _=>cases r;rfl
theorem WB {j pos'}(ha:PE X a ta):PC X .Is a (.Constant .none j pos') (qP ta):=by
 intro pins s σ H Q I h
 refine Bb (ha pins s σ H _ I h) fun v s1 ⟨x,H1,I1,r1,q1⟩=>?_
 exact Constant_none (is_none_gen ⟨.bl _,H1,I1,by rw[r1.QE];rfl,q1⟩)
theorem Z8 {j pos'}(ha:PE X a ta):PC X .IsNot a (.Constant .none j pos') (mP ta):=by
 intro pins s σ H Q I h
 refine Bb (ha pins s σ H _ I h) fun v s1 ⟨x,H1,I1,r1,q1⟩=>?_
 exact Constant_none (isnot_none_gen ⟨.bl _,H1,I1,by rw[r1.QE];rfl,q1⟩)
def tB (t:TE):TT:=fun σ H Q=>t σ H fun x H1=>∃ c,x=.bl c/\Q c H1
theorem iF {op:CmpOp}{t:TE}(h:PC X op a b t) (h1:behindInMarks op b=false:=by first | exact QD _ (by decide) (by decide) | rfl):PE X (.Compare a [op] [b] pos) t:=fun pins s σ H Q I hw=>wpAny_Compare1 (h pins s σ H Q I hw) h1
theorem WC {op:CmpOp}{t:TE}(h:PC X op a b t) (h1:behindInMarks op b=false:=by first | exact QD _ (by decide) (by decide) | rfl):PT X (.Compare a [op] [b] pos) (tB t):=by
 intro pins s σ H Q I hw
 refine wpAny_isTrue_Compare1 (Bb (h pins s σ H _ I hw) fun v s1 h1=>Bb h1 fun u s2 h2=>Bb h2 fun c s3 ⟨x,H1,I1,r1,q1⟩=>?_) h1
 obtain⟨d,rfl,q⟩:=q1
 cases r1
 exact wpAny_truthy_bool ⟨H1,I1,q⟩
variable {tA lc:TT}{rest:List Expr}
def qQ (t u:TT):TT:=fun σ H Q=>t σ H fun c H1=>if c=true then u σ H1 Q else Q false H1
def vA (t u:TT):TT:=fun σ H Q=>t σ H fun c H1=>if c=true then Q true H1 else u σ H1 Q
def qR (t:TT):TT:=fun σ H Q=>t σ H fun c H1=>Q (!c) H1
theorem pw_and1 (ha:PT X a tA):PW X (.BoolOp .And [a] pos) tA:=by
 intro wh pins s σ H Q I h
 refine isTrue_and (Bb (ha pins s σ H Q I h) fun c s1 e=>?_)
 cases c with
 |true=>exact isTrue_and_nil e
 |false=>exact e
theorem pw_or1 (ha:PT X a tA):PW X (.BoolOp .Or [a] pos) tA:=by
 intro wh pins s σ H Q I h
 refine isTrue_or (Bb (ha pins s σ H Q I h) fun c s1 e=>?_)
 cases c with
 |false=>exact isTrue_or_nil e
 |true=>exact e
theorem pw_and (ha:PT X a tA) (hb:PW X (.BoolOp .And (b::rest) pos) lc):PW X (.BoolOp .And (a::b::rest) pos) (qQ tA lc):=by
 intro wh pins s σ H Q I h
 refine isTrue_and (Bb (ha pins s σ H _ I h) fun c s1 ⟨H1,I1,q1⟩=>?_)
 cases c with
 |true=>exact hb wh pins s1 σ H1 Q I1 q1
 |false=>exact⟨H1,I1,q1⟩
theorem pw_or (ha:PT X a tA) (hb:PW X (.BoolOp .Or (b::rest) pos) lc):PW X (.BoolOp .Or (a::b::rest) pos) (vA tA lc):=by
 intro wh pins s σ H Q I h
 refine isTrue_or (Bb (ha pins s σ H _ I h) fun c s1 ⟨H1,I1,q1⟩=>?_)
 cases c with
 |true=>exact⟨H1,I1,q1⟩
 |false=>exact hb wh pins s1 σ H1 Q I1 q1
theorem iG (ha:PT X a tA):PT X (.UnaryOp .Not a pos) (qR tA):=by
 intro pins s σ H Q I h
 exact isTrue_not (ha pins s σ H (fun c H1=>Q (!c) H1) I h)
def mQ (ta tb:TE):TE:=fun σ H Q=>ta σ H fun x H1=>∃ c,x=.bl c/\if c=true then tb σ H1 Q else Q (.bl false) H1
def qS (ta tb:TE):TE:=fun σ H Q=>ta σ H fun x H1=>∃ c,x=.bl c/\if c=true then Q (.bl true) H1 else tb σ H1 Q
def mR (ta:TE):TE:=fun σ H Q=>ta σ H fun x H1=>∃ c,x=.bl c/\Q (.bl (!c)) H1
theorem iH {op}{t:TE}(h:PE X a t):PE X (.BoolOp op [a] pos) t:=fun pins s σ H Q I hw=>BoolOp_one (h pins s σ H Q I hw)
theorem iI (ha:PE X a ta) (hb:PE X (.BoolOp .And (b::rest) pos) tb):PE X (.BoolOp .And (a::b::rest) pos) (mQ ta tb):=by
 intro pins s σ H Q I h
 refine BoolOp_and (Bb (ha pins s σ H _ I h) fun v s1 ⟨x,H1,I1,r1,q1⟩=>?_)
 obtain⟨c,rfl,q1⟩:=q1
 cases r1
 refine wpAny_truthy_bool ?_
 cases c with
 |true=>exact hb pins s1 σ H1 Q I1 q1
 |false=>exact⟨.bl false,H1,I1,rfl,q1⟩
theorem mS (ha:PE X a ta) (hb:PE X (.BoolOp .Or (b::rest) pos) tb):PE X (.BoolOp .Or (a::b::rest) pos) (qS ta tb):=by
 intro pins s σ H Q I h
 refine BoolOp_or (Bb (ha pins s σ H _ I h) fun v s1 ⟨x,H1,I1,r1,q1⟩=>?_)
 obtain⟨c,rfl,q1⟩:=q1
 cases r1
 refine wpAny_truthy_bool ?_
 cases c with
 |false=>exact hb pins s1 σ H1 Q I1 q1
 |true=>exact⟨.bl true,H1,I1,rfl,q1⟩
theorem iJ (ha:PE X a ta):PE X (.UnaryOp .Not a pos) (mR ta):=by
 intro pins s σ H Q I h
 refine UnaryOp_ (Bb (ha pins s σ H _ I h) fun v s1 ⟨x,H1,I1,r1,q1⟩=>?_)
 obtain⟨c,rfl,q1⟩:=q1
 cases r1
 exact not_of (wpAny_truthy_bool ⟨.bl (!c),H1,I1,rfl,q1⟩)
end
def Dt (K:za) (H:Hp) (a:Addr) (xs:List V):Prop :=
 Rd H a (.lst xs) \/
  ∃(o:Obj) (aa:Array Value) (n:Nat),K.lookup a=some o/\o.cls=.type "list" /\ o.dict=none/\o.data=.seq aa n/\aa.size<=sizeLine/\Vals xs aa.toList
def Fn (K:za) (H:Hp) (a:Addr) (xs:List V):Prop :=
 Rd H a (.tup xs) \/
  ∃(o:Obj) (aa:Array Value) (n:Nat),K.lookup a=some o/\o.cls=.type "tuple" /\ o.data=.seq aa n/\aa.size<=sizeLine/\Vals xs aa.toList
def qT:Value->Option V
 | .none=>some .Az
 | .bool b=>some (.bl b)
 | .int i _=>some (.int i)
 | .str x _=>some (.str x)
 | .bytes b _=>some (.hV b)
 | .float b _=>some (.mJ b)
 | .ref a=>some (.ref a)
 | .type n=>some (.ty n)
 |_=>none
theorem RelV.abs {x:V}{u:Value}(r:RelV x u):qT u=some x:=by
 cases x with
 |Az=>cases r;rfl
 |bl _=>cases r;rfl
 |int _=>obtain⟨t,rfl⟩:=r;rfl
 |str _=>obtain⟨t,rfl⟩:=r;rfl
 |hV _=>obtain⟨t,rfl⟩:=r;rfl
 |mJ _=>obtain⟨t,rfl⟩:=r;rfl
 |ref _=>cases r;rfl
 |ty _=>cases r;rfl
theorem RelV.inj {x y:V}{u:Value}(r:RelV x u) (q:RelV y u):x=y:=zM (r.abs.symm.trans q.abs)
theorem Vals.inj:∀ {xs ys:List V}{us:List Value},Vals xs us->Vals ys us->xs=ys
 |_,_,_,.nil,.nil=>rfl
 |_,_,_,.cons r t,.cons r' t'=>by rw[r.inj r',Vals.inj t t']
section
variable {X:Cx}{pins:List (Addr×Obj)}{σ:St}{H:Hp}{s:Shared}{a:Addr}{xs ys:List V}
theorem Dt.of {K:za}(h:H a=some (.lst xs)):Dt K H a xs:=.inl (.inl h)
theorem Fn.of {K:za}(h:H a=some (.tup xs)):Fn K H a xs:=.inl (.inl h)
theorem Inv.list (I:Inv X pins σ H s) (h:Dt X.K H a xs):∃ aa:List Value,Vals xs aa/\PlainL s.heap a aa.toArray/\xs.length<=sizeLine:=by
 rcases h with h|⟨o,aa,n,hk,hc,hd,hs,hz,r⟩
 ·obtain⟨z,aa,n,r,e⟩:=h.ok I.Au
  exact⟨aa,r,⟨_,n,e,rfl,rfl,rfl⟩,z⟩
 ·refine⟨aa.toList,r,⟨o,n,I.NG a o hk,hc,hd,by simpa using hs⟩,?_⟩
  have e:=r.length
  simp only[Array.length_toList] at e
  omega
theorem Inv.tuple (I:Inv X pins σ H s) (h:Fn X.K H a xs):∃ aa:List Value,Vals xs aa/\IsTup s.heap a aa.toArray/\xs.length<=sizeLine:=by
 rcases h with h|⟨o,aa,n,hk,hc,hs,hz,r⟩
 ·obtain⟨z,aa,r,p⟩:=h.ok I.Au
  exact⟨aa,r,p,z⟩
 ·refine⟨aa.toList,r,⟨o,I.NG a o hk,hc,n,by simpa using hs⟩,?_⟩
  have e:=r.length
  simp only[Array.length_toList] at e
  omega
theorem Inv.Gk (I:Inv X pins σ H s) (h:Dt X.K H a xs) (h':Dt X.K H a ys):xs=ys:=by
 obtain⟨aa,r,⟨o,n,e,_,_,d⟩,_⟩:=I.list h
 obtain⟨its',r',⟨o',n',e',_,_,d'⟩,_⟩:=I.list h'
 rw[e] at e';cases e'
 rw[d] at d'
 injection d' with d1 _
 have:aa=its':=by simpa using congrArg Array.toList d1
 subst this
 exact r.inj r'
theorem Inv.Hf (I:Inv X pins σ H s) (h:Fn X.K H a xs) (h':Fn X.K H a ys):xs=ys:=by
 obtain⟨aa,r,⟨o,e,_,n,d⟩,_⟩:=I.tuple h
 obtain⟨its',r',⟨o',e',_,n',d'⟩,_⟩:=I.tuple h'
 rw[e] at e';cases e'
 rw[d] at d'
 injection d' with d1 _
 have:aa=its':=by simpa using congrArg Array.toList d1
 subst this
 exact r.inj r'
end
abbrev Cx.NK (X:Cx) (E:Value->Shared->Prop):Cx:={ X with xe:=E }
abbrev Cx.mT (X:Cx):Cx:=X.NK fun _ _=>False
theorem Cx.Ok.NK {X:Cx}(ok:X.Ok) (E:Value->Shared->Prop):(X.NK E).Ok :=
 ⟨ok.mod,ok.kind,ok.glob,ok.blt,ok.above,ok.inj,ok.has,ok.mM,ok.hd,ok.frames,ok.fO,ok.pS,ok.bs,ok.Z6,ok.Wz,ok.WA,ok.IV,ok.hZ⟩
theorem Cx.Ok.Gm {X:Cx}{E:Value->Shared->Prop}(ok:(X.NK E).Ok):X.Ok :=
 ⟨ok.mod,ok.kind,ok.glob,ok.blt,ok.above,ok.inj,ok.has,ok.mM,ok.hd,ok.frames,ok.fO,ok.pS,ok.bs,ok.Z6,ok.Wz,ok.WA,ok.IV,ok.hZ⟩
section
variable {X:Cx}{pins:List (Addr×Obj)}{σ:St}{H:Hp}{s:Shared}{E:Value->Shared->Prop}
theorem Inv.NK (I:Inv X pins σ H s) (E:Value->Shared->Prop):Inv (X.NK E) pins σ H s:=⟨I.ok.NK E,I.os,I.bare,I.base,I.loc,I.cell,I.free,I.Gj,I.pin,I.Au,I.len⟩
theorem Inv.Gm (I:Inv (X.NK E) pins σ H s):Inv X pins σ H s:=⟨I.ok.Gm,I.os,I.bare,I.base,I.loc,I.cell,I.free,I.Gj,I.pin,I.Au,I.len⟩
theorem SP.Gm {D:Ends}{f:Flow}{s':Shared}(h:SP (X.NK E) pins D f s'):SP X pins D f s':=by
 cases f with
 |next=>obtain⟨σ',H',I,q⟩:=h;exact⟨σ',H',I.Gm,q⟩
 |brk=>obtain⟨σ',H',I,q⟩:=h;exact⟨σ',H',I.Gm,q⟩
 |cont=>obtain⟨σ',H',I,q⟩:=h;exact⟨σ',H',I.Gm,q⟩
 |ret u=>obtain⟨v,σ',H',I,r,q⟩:=h;exact⟨v,σ',H',I.Gm,r,q⟩
theorem TX.mT {st:List Stmt}{t:TS}(h:TX X.mT st t):TX X st t:=fun pins s σ H D I hw =>
 wpAny_mono (h pins s σ H D (I.NK _) hw) (fun _ _ q=>q.Gm) fun _ _ z=>yC z
end
section
variable {X:Cx}{st:Stmt}{rest:List Stmt}{t u:TS}{e:Expr}{te:TE}{pos:Pos}
def mU:TS:=fun D σ H=>D.nx σ H
def qU (t u:TS):TS:=fun D σ H=>t { D with nx:=u D } σ H
theorem Z9:TX X [] mU:=fun _ _ σ H _ I h=>wpAny_execs_nil ⟨σ,H,I,h⟩
theorem WD (h1:PS X st t) (h2:TX X rest u):TX X (st::rest) (qU t u):=by
 intro pins s σ H D I h
 refine wpAny_execs_cons (Bb (h1 pins s σ H { D with nx:=u D } I h) fun f s1 q=>?_)
 cases f with
 |next =>
  obtain⟨σ',H',I',q⟩:=q
  exact h2 pins s1 σ' H' D I' q
 |ret v=>exact q
 |brk=>exact q
 |cont=>exact q
theorem Za (h1:PS X st t):TX X [st] t:=by
 intro pins s σ H D I h
 refine wpAny_execs_cons (Bb (h1 pins s σ H D I h) fun f s1 q=>?_)
 cases f with
 |next=>exact wpAny_execs_nil q
 |ret v=>exact q
 |brk=>exact q
 |cont=>exact q
theorem Inv.quiet {pins:List (Addr×Obj)}{σ:St}{H:Hp}{s:Shared}(I:Inv X pins σ H s):interactive X.env=false:=by simp[interactive,I.ok.kind]
def mV (te:TE):TS:=fun D σ H=>te σ H fun _ H1=>D.nx σ H1
theorem Fo (he:PE X e te) (hs:swapsWith e none pos.line X.env=pure false:=by rfl):PS X (.Expr e pos) (mV te):=by
 intro pins s σ H D I h
 exact wpAny_Expr_any (Bb (he pins s σ H _ I h) fun v s1 ⟨x,H1,I1,r1,q1⟩=>⟨σ,H1,I1,q1⟩) I.quiet hs
def qV (te:TE):TS:=fun D σ H=>te σ H D.rt
theorem Sl (he:PE X e te):PS X (.Return (some e) pos) (qV te):=by
 intro pins s σ H D I h
 exact wpAny_Return_some (Bb (he pins s σ H _ I h) fun v s1 ⟨x,H1,I1,r1,q1⟩=>⟨x,σ,H1,I1,r1,q1⟩)
def qW (c:TT) (t u:TS):TS:=fun D σ H=>c σ H fun b H1=>if b=true then t D σ H1 else u D σ H1
theorem mW {c:Expr}{a b:List Stmt}{tc:TT}(hc:PT X c tc) (ha:TX X a t) (hb:TX X b u):PS X (.If c a b pos) (qW tc t u):=by
 intro pins s σ H D I h
 refine wpAny_If (Bb (hc pins s σ H _ I h) fun d s1 ⟨H1,I1,q1⟩=>?_)
 cases d with
 |true=>exact ha pins s1 σ H1 D I1 q1
 |false=>exact hb pins s1 σ H1 D I1 q1
end
abbrev TG:=V->St->Hp->(St->Hp->Prop)->Prop
abbrev Wv:=List V->St->Hp->(St->Hp->Prop)->Prop
def PG (X:Cx) (target:Expr) (t:TG):Prop :=
 ∀(pins:List (Addr×Obj)) (s:Shared) (σ:St) (H:Hp) (v:V) (u:Value) (Q:St->Hp->Prop),Inv X pins σ H s->RelV v u->t v σ H Q->
  wpAny (model X.prog X.w) X.A (assign target X.env u) (fun _ s'=>∃ σ' H',Inv X pins σ' H' s'/\Q σ' H') X.xe s
def mC (X:Cx) (ts:List Expr) (t:Wv):Prop :=
 ∀(pins:List (Addr×Obj)) (s:Shared) (σ:St) (H:Hp) (vs:List V) (us:List Value) (Q:St->Hp->Prop),Inv X pins σ H s->Vals vs us->t vs σ H Q->
  wpAny (model X.prog X.w) X.A (assignInOrder ((assignEach ts X.env).map (·.2)) us) (fun _ s'=>∃ σ' H',Inv X pins σ' H' s'/\Q σ' H') X.xe s
abbrev iK:=V->V->V->Hp->(Hp->Prop)->Prop
def mX (X:Cx) (t:iK):Prop :=
 ∀(pins:List (Addr×Obj)) (s:Shared) (σ:St) (H:Hp) (o i v:V) (ov iv u:Value) (Q:Hp->Prop),Inv X pins σ H s->RelV o ov->RelV i iv->RelV v u->t o i v H Q->
  wpAny (model X.prog X.w) X.A (setItem ov iv u) (fun _ s'=>∃ H',Inv X pins σ H' s'/\Q H') X.xe s
section
variable {X:Cx}{pos:Pos}
def O9 (i:Nat):TG:=fun v σ H Q=>Q (σ.set i (some v)) H
theorem Pc {i:Nat}{x:Str}(hN:X.N.Nodup) (hi:X.N[i]? =some x) (hx:Loc X.env.scope x) (hf:X.fn x=true\/X.env.scope.names.lookup x=some .local:=by first | exact .inl rfl | exact .inr rfl | assumption):PG X (.Name x pos) (O9 i):=by
 intro pins s σ H v u Q I r h
 exact wpAny_assign_Name (QC I hN hi hx r (fun s' I'=>⟨_,H,I',h⟩) hf)
def iL:Wv:=fun vs σ H Q=>vs=[]/\Q σ H
def WE (t:TG) (u:Wv):Wv:=fun vs σ H Q=>∃ v r,vs=v::r/\t v σ H fun σ' H'=>u r σ' H' Q
theorem TY:mC X [] iL:=by
 intro pins s σ H vs us Q I r h
 obtain⟨e,h⟩:=h
 subst e
 cases r
 exact assignInOrder_nil ⟨σ,H,I,h⟩
theorem QF {e:Expr}{es:List Expr}{t:TG}{u:Wv}(h1:PG X e t) (h2:mC X es u)
 (hs:(assignEach (e::es) X.env).map (·.2)=assign e X.env::(assignEach es X.env).map (·.2):=by rfl):mC X (e::es) (WE t u):=by
 intro pins s σ H vs us Q I r h
 obtain⟨v,vr,e1,h⟩:=h
 subst e1
 cases r with
 |cons r rr =>
  rw[hs]
  refine assignInOrder_cons (Bb (h1 pins s σ H _ _ _ I r h) fun _ s1 ⟨σ1,H1,I1,q1⟩=>?_)
  exact h2 pins s1 σ1 H1 _ _ Q I1 rr q1
def iM (K:za) (n:Nat) (t:Wv):TG:=fun v σ H Q=>∃ a xs,v=.ref a/\Fn K H a xs/\xs.length=n/\t xs σ H Q
theorem WG {es:List Expr}{k:Nat}{t:Wv}{n:Nat}(hc:X.calm=true) (h:mC X es t)
 (hn:(assignEach es X.env).length=n:=by rfl) (aY:(assignEach es X.env).findIdx? (·.1)=none:=by rfl):PG X (.Tuple es k pos) (iM X.K n t):=by
 intro pins s σ H v u Q I r hw
 obtain⟨a,xs,e1,hq,hl,hw⟩:=hw
 subst e1
 cases r
 obtain⟨aa,rv,ht,hz⟩:=I.tuple hq
 refine assign_Tuple_tuple (I.ok.hd hc) ht (by simp[hn,<-hl,rv.length]) aY fun h' hx=>?_
 have I1:Inv X pins σ H { s with heap:=h' }:=I.kept (t':=s.toks) fun b o e=>hx b o (zC (zu e)) e
 exact h pins _ σ H xs _ Q I1 (by simpa using rv) hw
def qX (to ti:TE) (t:iK):TG:=fun v σ H Q=>to σ H fun o H1=>ti σ H1 fun i H2=>t o i v H2 fun H3=>Q σ H3
theorem WH {o i:Expr}{to ti:TE}{t:iK}(ho:PE X o to) (hi:PE X i ti) (hs:mX X t)
 (ha:∀ v,assign (.Subscript o i pos) X.env v=(do
  let ov <-holding [v] (eval o X.env)
  let iv <-holding [v,ov] (eval i X.env)
  standAt pos
  holding [v,ov,iv] (setItem ov iv v)
  release [v,ov,iv] []):=by intro _;rfl):PG X (.Subscript o i pos) (qX to ti t):=by
 intro pins s σ H v u Q I r h
 rw[ha]
 refine wpAny_bind (wpAny_holding (Bb (ho pins s σ H _ I h) fun ov s1 ⟨x,H1,I1,r1,q1⟩=>?_))
 refine wpAny_bind (wpAny_holding (Bb (hi pins s1 σ H1 _ I1 q1) fun iv s2 ⟨y,H2,I2,r2,q2⟩=>?_))
 refine wpAny_bind (wpAny_standAt (wpAny_bind (wpAny_holding (Bb (hs pins s2 σ H2 x y v ov iv u _ I2 r1 r2 r q2) fun _ s3 ⟨H3,I3,q3⟩=>?_))))
 exact wpAny_release ⟨σ,H3,I3,q3⟩
def mY (te:TE) (g:TG):TS:=fun D σ H=>te σ H fun x H1=>g x σ H1 D.nx
theorem WI {tg e:Expr}{te:TE}{g:TG}(he:PE X e te) (hg:PG X tg g) (hs:swapsWithSole [tg] e pos.line X.env=pure false:=by rfl) (hw:swappedStores [tg] e X.env=pure none:=by rfl)
 (h1:(assignEach [tg] X.env).map (·.2)=[assign tg X.env]:=by rfl):PS X (.Assign [tg] e pos) (mY te g):=by
 intro pins s σ H D I h
 refine wpAny_Assign_stores (Bb (he pins s σ H _ I h) fun v s1 ⟨x,H1,I1,r1,q1⟩=>?_) hs hw
 rw[h1]
 exact Bb (hg pins s1 σ H1 x v _ I1 r1 q1) fun _ s2 q=>q
theorem Sn {i:Nat}{x:Str}{e:Expr}{te:TE}{pos':Pos}(hN:X.N.Nodup) (hi:X.N[i]? =some x) (hx:Loc X.env.scope x) (he:PE X e te) (hs:swapsWith e (some (.Name x pos')) pos.line X.env=pure false:=by rfl) (hf:X.fn x=true\/X.env.scope.names.lookup x=some .local:=by first | exact .inl rfl | exact .inr rfl | assumption) :
 PS X (.Assign [.Name x pos'] e pos) (mY te (O9 i)):=by
 intro pins s σ H D I h
 refine wpAny_Assign_Name (Bb (he pins s σ H _ I h) fun v s1 ⟨y,H1,I1,r1,q1⟩=>?_) hs
 exact QC I1 hN hi hx r1 (fun s2 I2=>⟨_,H1,I2,q1⟩) hf
end
section
variable {X:Cx}{pos:Pos}
def iN (c:TT) (tb:TS):TS:=fun D σ H=>∃ W:Nat->St->Hp->Prop,(∃ m,W m σ H)/\∀ m σ H,W m σ H->
 c σ H fun b H1=>if b=true then ∃ N:St->Hp->Prop,(∀ σ' H',N σ' H'->∃ m',m' < m/\W m' σ' H')/\tb { D with nx:=N,ct:=N,bk:=D.nx } σ H1 else D.nx σ H1
theorem WJ {c:Expr}{body:List Stmt}{tc:TT}{tb:TS}(hp:PassesOwn (model X.prog X.w) X.A X.env X.xe) (hc:PT X c tc) (hb:TX X body tb):PS X (.While c body [] pos) (iN tc tb):=by
 intro pins s σ H D I h
 obtain⟨W,⟨m0,w0⟩,turn⟩:=h
 refine wpAny_While (codeAny_whileLoop (fun n s'=>∃ σ' H',Inv X pins σ' H' s'/\W n σ' H') ?_ m0 ⟨σ,H,I,w0⟩)
 rintro n s1 ⟨σ1,H1,I1,w1⟩
 refine wpAny_passesOwn hp (Bb (hc pins s1 σ1 H1 _ I1 (turn n σ1 H1 w1)) fun b s2 ⟨H2,I2,q2⟩=>?_)
 cases b with
 |true =>
  obtain⟨N,hN,q2⟩:=q2
  rw[if_pos rfl]
  refine wpAny_passesOwn hp (Bb (hb pins s2 σ1 H2 _ I2 q2) fun f s3 q3=>?_)
  cases f with
  |next =>
   obtain⟨σ3,H3,I3,n3⟩:=q3
   obtain⟨m',hm,w3⟩:=hN σ3 H3 n3
   exact⟨m',hm,σ3,H3,I3,w3⟩
  |cont =>
   obtain⟨σ3,H3,I3,n3⟩:=q3
   obtain⟨m',hm,w3⟩:=hN σ3 H3 n3
   exact⟨m',hm,σ3,H3,I3,w3⟩
  |brk=>exact q3
  |ret v=>exact q3
 |false =>
  rw[if_neg zK]
  exact wpAny_execs_nil ⟨σ1,H2,I2,q2⟩
end
structure It where
 go:Nat->Hp->Prop
 fQ:Nat->Hp->V->Hp->Prop
 stop:Nat->Hp->Prop
def Lj (X:Cx) (pins:List (Addr×Obj)) (H:Hp) (b:Addr):Prop :=
 H b=none/\b≠X.env.locals/\b∉X.fs/\(b∈X.ex\/X.s₀.heap.objs.size<=b)/\(∀ x c,X.env.cells.lookup x=some c->c≠b)/\∀ p∈X.pn++pins,p.1≠b
theorem Inv.WK {X:Cx}{pins:List (Addr×Obj)}{σ:St}{H H':Hp}{s:Shared}{b:Addr}(I:Inv X pins σ H s) (hb:s.heap.objs.size<=b) (hn:H' b=none):Lj X pins H' b:=by
 refine⟨hn,Nat.ne_of_gt (zy I.lt hb),I.qO hb,.inr (yo I.sz hb),fun x c e z=>?_,fun p hp z=>?_⟩
 ·obtain⟨v,q⟩:=I.cell x c e
  exact absurd (zy q.lt (by rw[z];exact hb)) (Nat.lt_irrefl _)
 ·exact absurd (zy (zu (I.pin p hp).1) (by rw[z];exact hb)) (Nat.lt_irrefl _)
structure Turn (P:Program) (w:World) (K:za) (tg:Expr) (J:It) (fp:List Addr) (it:Addr) (tn:Nat->Heap->Prop):Prop where
 mem:it∈fp
 obj:∀ i h,tn i h->∀ b∈fp,∃ o,h.get? b=some o/\∀ v,o.data≠.cell v
 keep:∀ i h h',tn i h->(∀ b∈fp,∀ o,h.get? b=some o->h'.get? b=some o)->tn i h'
 item:∀(X:Cx),X.prog=P->X.w=w->X.K=K->X.calm=true->∀(i:Nat) (pins:List (Addr×Obj)) (s:Shared) (σ:St) (H:Hp) (E:Value->Shared->Prop),Inv X pins σ H s->(∀ b∈fp,Lj X pins H b)->tn i s.heap->J.go i H->
  wpAny (model P w) X.A (pyNext (.ref it)) (fun r s1=>∃ u,r=some u /\
   wpAny (model P w) X.A (letOwnedTupleGo tg (.ref it) u) (fun _ s2=>∃ x H',Inv X pins σ H' s2/\RelV x u/\J.fQ i H x H'/\tn (i + 1) s2.heap/\∀ b∈fp,H' b=none) E s1) E s
 done:∀(X:Cx),X.prog=P->X.w=w->X.K=K->X.calm=true->∀(i:Nat) (pins:List (Addr×Obj)) (s:Shared) (σ:St) (H:Hp) (E:Value->Shared->Prop),Inv X pins σ H s->(∀ b∈fp,Lj X pins H b)->tn i s.heap->J.stop i H->
  wpAny (model P w) X.A (pyNext (.ref it)) (fun r s1=>r=none/\Inv X pins σ H s1) E s
 self:∀(A:Around) (i:Nat) (s:Shared) (Q:Value->Shared->Prop) (E:Value->Shared->Prop),tn i s.heap->Q (.ref it) s->wpAny (model P w) A (pyIter (.ref it)) Q E s
abbrev TI:=St->Hp->(It->Hp->Prop)->Prop
def tU (X:Cx) (pins:List (Addr×Obj)) (σ:St) (tg:Expr) (R:It->Hp->Prop) (lf:Value) (s2:Shared):Prop :=
 ∃(it:Addr) (fp:List Addr) (tn:Nat->Heap->Prop) (J:It) (H':Hp),lf=.ref it/\Inv X pins σ H' s2/\Turn X.prog X.w X.K tg J fp it tn/\tn 0 s2.heap/\(∀ b∈fp,Lj X pins H' b)/\R J H'
def PI (X:Cx) (tg iter:Expr) (wi:TI):Prop :=
 ∀(pins:List (Addr×Obj)) (s:Shared) (σ:St) (H:Hp) (R:It->Hp->Prop),Inv X pins σ H s->wi σ H R->
  wpAny (model X.prog X.w) X.A (eval iter X.env) (fun v s1=>wpAny (model X.prog X.w) X.A (pyIter v) (tU X pins σ tg R) X.xe s1) X.xe s
theorem WL {M:Model}{A:Around}{E:Value->Shared->Prop}{s:Shared}{tg:Expr}{it:Addr}{u:Value}{o:Obj}{n:String}{vs:Array Value}{Q:Unit->Shared->Prop}(ho:s.heap.get? it=some o) (hc:o.cls=.type n) (hd:o.data=.fields vs)
 (hn:["enumerate","zip","dict_itemiterator","dict_reverseitemiterator","odict_iterator","itertools.zip_longest","itertools.pairwise"].contains n=false) (hQ:Q () s):wpAny M A (letOwnedTupleGo tg (.ref it) u) Q E s:=by
 unfold letOwnedTupleGo
 cases tg<;>first
  |exact wpAny_pure hQ
  |(cases u<;>first
   |exact wpAny_pure hQ
   |(
    refine wpAny_bind (wpAny_load ho ?_)
    rw[hc,hd]
    show wpAny M A (if (["enumerate","zip","dict_itemiterator","dict_reverseitemiterator","odict_iterator","itertools.zip_longest","itertools.pairwise"].contains n && vs[0]? == some (rawInt _))=true then _ else _) Q E s
    rw[if_neg (by intro h;rw[hn,Bool.false_and] at h;cases h)]
    exact wpAny_pure hQ))
def tV (K:za) (a:Addr):It :=
 ⟨fun i H=>∃ xs x,Dt K H a xs/\xs[i]? =some x,fun i H x H'=>H'=H/\∀ xs,Dt K H a xs->xs[i]? =some x,fun i H=>∃ xs,Dt K H a xs/\xs.length<=i⟩
def pT (lo:Int) (n:Nat):It:=⟨fun i _=>i < n,fun i H x H'=>H'=H/\x=.int (lo + i),fun i _=>n<=i⟩
theorem Ve {P:Program}{w:World}{K:za}{tg:Expr}(a it:Addr):Turn P w K tg (tV K a) [it] it (fun i h=>h.IsListIter it a i) where
 mem:=by simp
 obj:=fun i h st b hb=>by
  have e:b=it:=by simpa using hb
  subst e
  obtain⟨o,e,c,d⟩:=st
  exact⟨o,e,fun v z=>by rw[d] at z;cases z⟩
 keep:=fun i h h' st k=>st.at fun o e=>k it (by simp) o e
 item:=by
  intro X hP hw hK hc i pins s σ H E I hf st hg
  subst hP hw hK
  obtain⟨xs,x,hq,hx⟩:=hg
  obtain⟨aa,rv,p,hz⟩:=I.list hq
  obtain⟨u,hu,ru⟩:=rv.get hx
  obtain⟨f0,f1,f2,f3,f4,f5⟩:=hf it (by simp)
  refine wpAny_pyNext_list_item st p.isList (x:=u) (by simpa using hu) fun h' ci sb=>?_
  have I1:Inv X pins σ H { s with heap:=h' }:=I.turned (t':=s.toks) (fun b o hb e=>(sb.2 b hb).trans e) f0 f1 f3 f4 f5
  obtain⟨o,e,c,d⟩:=id ci
  exact⟨u,rfl,WL (s:={ s with heap:=h' }) e c d (by decide) ⟨x,H,I1,ru,⟨rfl,fun ys hy=>by rw[I.Gk hy hq];exact hx⟩,ci,fun b hb=>(hf b hb).1⟩⟩
 done:=by
  intro X hP hw hK hc i pins s σ H E I hf st hg
  subst hP hw hK
  obtain⟨xs,hq,hx⟩:=hg
  obtain⟨aa,rv,p,hz⟩:=I.list hq
  obtain⟨f0,f1,f2,f3,f4,f5⟩:=hf it (by simp)
  have hl:=rv.length
  exact wpAny_pyNext_list_end (I.ok.hd hc) st p.isList (by simp;omega) fun h' eb=>⟨rfl,I.turned (t':=s.toks) (fun b o hb e=>eb b o hb e) f0 f1 f3 f4 f5⟩
 self:=fun _ _ _ _ _ st h=>wpAny_pyIter_listiter st h
theorem So {P:Program}{w:World}{K:za}{tg:Expr}(it:Addr) (lo:Int) (n:Nat):Turn P w K tg (pT lo n) [it] it (fun i h=>IsRangeIter h it (lo + (i:Nat) * 1) ((n:Int) - (i:Nat)) 1) where
 mem:=by simp
 obj:=fun i h st b hb=>by
  have e:b=it:=by simpa using hb
  subst e
  exact⟨_,st,fun v z=>by
   have z':Data.fields _=Data.cell v:=z
   cases z'⟩
 keep:=fun i h h' st k=>k it (by simp) _ st
 item:=by
  intro X hP hw hK hc i pins s σ H E I hf st hg
  subst hP hw hK
  obtain⟨f0,f1,f2,f3,f4,f5⟩:=hf it (by simp)
  have W:=Walks.range (prog:=X.prog) (w:=X.w) (I.ok.hd hc) it lo 1 n
  refine W.item i s _ _ hg st fun v h' tk hv ci kk=>?_
  obtain⟨t,rfl⟩:=hv
  have I1:Inv X pins σ H { s with heap:=h',toks:=tk }:=I.turned (fun b o hb e=>kk b o (by simpa using hb) e) f0 f1 f3 f4 f5
  refine⟨_,rfl,WL (s:={ s with heap:=h',toks:=tk }) (n := "range_iterator") ci rfl rfl (by decide) ⟨.int (lo + i),H,I1,⟨t,?_⟩,⟨rfl,rfl⟩,ci,fun b hb=>(hf b hb).1⟩⟩
  rw[Int.mul_one]
 done:=by
  intro X hP hw hK hc i pins s σ H E I hf st hg
  subst hP hw hK
  obtain⟨f0,f1,f2,f3,f4,f5⟩:=hf it (by simp)
  exact wpAny_pyNext_range_end (I.ok.hd hc) st (by have:n<=i:=hg;omega) fun h' eb=>⟨rfl,I.turned (t':=s.toks) (fun b o hb e=>eb b o hb e) f0 f1 f3 f4 f5⟩
 self:=fun _ _ _ _ _ st h=>wpAny_pyIter_rangeiter st h
section
variable {X:Cx}{tg:Expr}
def mZ (K:za) (tl:TE):TI:=fun σ H R=>tl σ H fun x H1=>∃ a,x=.ref a/\(∃ xs,Dt K H1 a xs)/\R (tV K a) H1
theorem Zb {l:Expr}{tl:TE}(hl:PE X l tl):PI X tg l (mZ X.K tl):=by
 intro pins s σ H R I h
 refine Bb (hl pins s σ H _ I h) fun v s1 ⟨x,H1,I1,r1,q1⟩=>?_
 obtain⟨a,e,⟨xs,hq⟩,q⟩:=q1
 subst e
 cases r1
 obtain⟨aa,rv,p,hz⟩:=I1.list hq
 refine wpAny_pyIter_list p.isList ?_
 refine⟨s1.heap.objs.size,[s1.heap.objs.size],_,_,H1,rfl,I1.kept (t':=s1.toks) fun b o e=>zp _ e,Ve a _,⟨_,zG _ rfl,rfl,rfl⟩,fun b hb=>?_,q⟩
 have e:b=s1.heap.objs.size:=by simpa using hb
 subst e
 exact I1.WK (zx _) (I1.Au.fresh (zx _))
theorem WM {pins:List (Addr×Obj)}{σ:St}{H:Hp}{s:Shared}{R:It->Hp->Prop}{E:Value->Shared->Prop}{lo hi:Int}{t u v:Tok}{tk:Nat}(I:Inv X pins σ H s) (h1 : -(2 ^ 62)<=lo) (h2:lo < 2 ^ 62) (h3 : -(2 ^ 62)<=hi) (h4:hi < 2 ^ 62)
 (q:R (pT lo (hi - lo).toNat) H):wpAny (model X.prog X.w) X.A (pyIter (.ref s.heap.objs.size)) (tU X pins σ tg R) E { s with heap:=s.heap.push { cls:=.type "range",data:=.fields #[.int lo t,.int hi u,.int 1 v] },toks:=tk }:=by
 refine wpAny_pyIter_range (IsRange.new ..) (small_one h1 h2 h3 h4) ?_
 have I1:Inv X pins σ H { s with heap:=s.heap.push { cls:=.type "range",data:=.fields #[.int lo t,.int hi u,.int 1 v] },toks:=tk }:=I.kept fun b o e=>zp _ e
 refine⟨(s.heap.push { cls:=.type "range",data:=.fields #[.int lo t,.int hi u,.int 1 v] }).objs.size,[(s.heap.push { cls:=.type "range",data:=.fields #[.int lo t,.int hi u,.int 1 v] }).objs.size],_,_,H,rfl,
  I1.kept (t':=tk) fun b o e=>zp _ e,So _ lo (hi - lo).toNat,?_,fun b hb=>?_,q⟩
 ·have e1:lo + ((0:Nat):Int) * 1=lo:=by simp
  have e2:(((hi - lo).toNat:Nat):Int) - ((0:Nat):Int)=Builtin.Range.rangeSize lo hi 1:=by rw[rangeSize_one];split<;>omega
  show IsRangeIter _ _ (lo + ((0:Nat):Int) * 1) ((((hi - lo).toNat:Nat):Int) - ((0:Nat):Int)) 1
  rw[e1,e2]
  exact zG _ rfl
 ·have e:b=(s.heap.push { cls:=.type "range",data:=.fields #[.int lo t,.int hi u,.int 1 v] }).objs.size:=by simpa using hb
  subst e
  exact I1.WK (zx _) (I1.Au.fresh (zx _))
def nA (ta:TA):TI:=fun σ H R=>ta σ H fun vs H1=>∃ j:Int,vs=[.int j]/\-(2 ^ 62)<=j/\j < 2 ^ 62/\R (pT 0 j.toNat) H1
theorem Vf {a:Expr}{ta:TA}{p pos:Pos}(hg:Gl X "range") (hm:X.mg "range" = none) (ha:PA X [a] ta) (hs:starEach [a] X.env=[(false,eval a X.env)]:=by rfl):PI X tg (.Call (.Name "range" p) [a] [] pos) (nA ta):=by
 intro pins s σ H R I h
 refine Call_ (DU I hg hm boot_range (yp (Bb (ha pos pins s σ H _ I h) fun us s1 ⟨vs,H1,I1,r1,q1⟩=>?_) hs rfl))
 obtain⟨j,e,q1,q2,q⟩:=q1
 subst e
 cases r1 with
 |cons r rr =>
  cases rr
  obtain⟨t,rfl⟩:=r
  exact call_range_1 (WM I1 (by omega) (by omega) q1 q2 (by simpa using q))
def qY (wi:TI) (g:TG) (tb:TS):TS:=fun D σ H=>wi σ H fun J H1=>∃ W:Nat->Nat->St->Hp->Prop,(∃ m,W 0 m σ H1)/\∀ i m σ H,W i m σ H->
 (J.stop i H/\D.nx σ H)\/(J.go i H/\∃ N:St->Hp->Prop,(∀ σ' H',N σ' H'->∃ m',m' < m/\W (i + 1) m' σ' H')/\∀ x H',J.fQ i H x H'->g x σ H' fun σ2 H2=>tb { D with nx:=N,ct:=N,bk:=D.nx } σ2 H2)
def Ih (fp:List Addr) (h:Heap):List (Addr×Obj):=fp.filterMap fun b=>(h.get? b).map fun o=>(b,o)
theorem Fp {fp:List Addr}{h:Heap}{b:Addr}{o:Obj}(hb:b∈fp) (e:h.get? b=some o):(b,o)∈Ih fp h:=List.mem_filterMap.mpr ⟨b,hb,by rw[e];rfl⟩
theorem Oa {fp:List Addr}{h:Heap}{p:Addr×Obj}(hp:p∈Ih fp h):p.1∈fp/\h.get? p.1=some p.2:=by
 obtain⟨b,hb,e⟩:=List.mem_filterMap.mp hp
 cases q:h.get? b with
 |none=>rw[q] at e;cases e
 |some o =>
  rw[q] at e
  have e':(b,o)=p:=zM e
  subst e'
  exact⟨hb,q⟩
theorem Inv.pinned {pins:List (Addr×Obj)}{σ:St}{H:Hp}{s:Shared}{fp:List Addr}(I:Inv X pins σ H s) (hf:∀ b∈fp,Lj X pins H b) (ho:∀ b∈fp,∃ o,s.heap.get? b=some o/\∀ v,o.data≠.cell v):Inv X (pins++Ih fp s.heap) σ H s :=
 I.IW fun p hp=>(zv.mp hp).elim (fun z=>I.pin p (zm _ z)) fun z=>by
  obtain⟨hb,e⟩:=Oa z
  obtain⟨f0,f1,f2,_⟩:=hf p.1 hb
  obtain⟨o,e',d⟩:=ho p.1 hb
  rw[e] at e';cases e'
  exact⟨e,f0,f1,f2,d⟩
theorem Inv.IX {pins pl:List (Addr×Obj)}{σ:St}{H:Hp}{s:Shared}(I:Inv X (pins++pl) σ H s):Inv X pins σ H s:=I.IW fun p hp=>I.pin p (zm _ (zN _ hp))
theorem iO {iter:Expr}{body:List Stmt}{wi:TI}{g:TG}{tb:TS}{pos:Pos}(hp:PassesOwn (model X.prog X.w) X.A X.env X.xe) (hc:X.calm=true) (hi:PI X tg iter wi) (hg:PG X tg g) (hb:TX X body tb)
 (hs:∀ x,foldedSetIterable iter X.env x=pure x:=by intro _;rfl):PS X (.For tg iter body [] pos) (qY wi g tb):=by
 intro pins s σ H D I h
 refine wpAny_For (Bb (hi pins s σ H _ I h) fun v s1 h1=>Bb h1 fun lf s2 h2=>?_) hs
 obtain⟨it,fp,tn,J,H2,e,I2,T,cJ,f2,W,⟨m0,w0⟩,turn⟩:=h2
 subst e
 have bB:∀ {H':Hp},(∀ b∈fp,H' b=none)->∀ b∈fp,Lj X pins H' b:=fun hn b hb=>⟨hn b hb,(f2 b hb).2⟩
 refine codeAny_forLoop_any (fun n s'=>∃ i σ' H',Inv X pins σ' H' s'/\tn i s'.heap/\(∀ b∈fp,H' b=none)/\W i n σ' H') ?_ m0 ⟨0,σ,H2,I2,cJ,fun b hb=>(f2 b hb).1,w0⟩
 rintro n s3 ⟨i,σ3,H3,I3,im,ip,w3⟩
 rcases turn i n σ3 H3 w3 with ⟨stop,qn⟩|⟨go,N,hN,step⟩
 ·refine wpAny_passesOwn hp (Bb (T.done X rfl rfl rfl hc i pins s3 σ3 H3 X.xe I3 (bB ip) im stop) fun r s4 ⟨hr,I4⟩=>?_)
  subst hr
  exact wpAny_execs_nil ⟨σ3,H3,I4,qn⟩
 ·refine wpAny_passesOwn hp (Bb (T.item X rfl rfl rfl hc i pins s3 σ3 H3 X.xe I3 (bB ip) im go) fun r s4 ⟨u,hr,h4⟩=>?_)
  subst hr
  refine wpAny_passesOwn hp (Bb h4 fun _ s5 ⟨x,H5,I5,r5,y5,ef,mo⟩=>?_)
  have mq:=I5.pinned (bB mo) (T.obj _ _ ef)
  refine wpAny_passesOwn hp (Bb (hg _ s5 σ3 H5 x u _ mq r5 (step x H5 y5)) fun _ s6 ⟨σ6,H6,I6,q6⟩=>?_)
  refine wpAny_passesOwn hp (Bb (hb _ s6 σ6 H6 _ I6 q6) fun f s7 q7=>?_)
  have again:∀ {σ7:St} {H7:Hp},Inv X (pins++Ih fp s5.heap) σ7 H7 s7->N σ7 H7->∃ m,m < n/\∃ i σ' H',Inv X pins σ' H' s7/\tn i s7.heap/\(∀ b∈fp,H' b=none)/\W i m σ' H':=fun {σ7 H7} I7 n7=>by
   obtain⟨m',hm,w7⟩:=hN σ7 H7 n7
   refine⟨m',hm,i + 1,σ7,H7,I7.IX,T.keep _ _ _ ef fun b hb o e=>(I7.pin (b,o) (zm _ (zm _ (Fp hb e)))).1,fun b hb=>?_,w7⟩
   obtain⟨o,e,d⟩:=T.obj _ _ ef b hb
   exact (I7.pin (b,o) (zm _ (zm _ (Fp hb e)))).2.1
  cases f with
  |next=>obtain⟨σ7,H7,I7,n7⟩:=q7;exact again I7 n7
  |cont=>obtain⟨σ7,H7,I7,n7⟩:=q7;exact again I7 n7
  |brk=>obtain⟨σ7,H7,I7,q7⟩:=q7;exact⟨σ7,H7,I7.IX,q7⟩
  |ret v=>obtain⟨x7,σ7,H7,I7,r7,q7⟩:=q7;exact⟨x7,σ7,H7,I7.IX,r7,q7⟩
end
abbrev R2:=V->V->Hp->VK->Prop
def Gn (X:Cx) (f:Value->Value->Sem Value) (r:R2):Prop :=
 ∀(pins:List (Addr×Obj)) (s:Shared) (σ:St) (H:Hp) (x y:V) (v u:Value) (Q:VK),Inv X pins σ H s->RelV x v->RelV y u->r x y H Q->
  wpAny (model X.prog X.w) X.A (f v u) (EP X pins σ Q) X.xe s
def qZ (X:Cx) (f:Value->Sem Value) (r:V->Hp->VK->Prop):Prop :=
 ∀(pins:List (Addr×Obj)) (s:Shared) (σ:St) (H:Hp) (x:V) (v:Value) (Q:VK),Inv X pins σ H s->RelV x v->r x H Q->
  wpAny (model X.prog X.w) X.A (f v) (EP X pins σ Q) X.xe s
def Gp (X:Cx) (f:Value) (r:List V->Hp->VK->Prop):Prop :=
 ∀(pins:List (Addr×Obj)) (s:Shared) (σ:St) (H:Hp) (xs:List V) (us:List Value) (Q:VK),Inv X pins σ H s->Vals xs us->r xs H Q->
  wpAny (model X.prog X.w) X.A (call f us) (EP X pins σ Q) X.xe s
def rA (X:Cx) (r:V->Hp->(Bool->Hp->Prop)->Prop):Prop :=
 ∀(pins:List (Addr×Obj)) (s:Shared) (σ:St) (H:Hp) (x:V) (v:Value) (Q:Bool->Hp->Prop),Inv X pins σ H s->RelV x v->r x H Q->
  wpAny (model X.prog X.w) X.A (truthy v) (TP X pins σ Q) X.xe s
def mD (r:R2) (ta tb:TE):TE:=fun σ H Q=>ta σ H fun x H1=>tb σ H1 fun y H2=>r x y H2 Q
def vB (r:V->Hp->VK->Prop) (ta:TE):TE:=fun σ H Q=>ta σ H fun x H1=>r x H1 Q
def rI (C:Int->Int->Prop) (g:Int->Int->V):R2:=fun x y H Q=>∃ i j,x=.int i/\y=.int j/\C i j/\Q (g i j) H
def Z2 (g:Int->Int->V):R2:=fun x y H Q=>∃ i j,x=.int i/\y=.int j/\Q (g i j) H
def rU (g:Int->V):V->Hp->VK->Prop:=fun x H Q=>∃ i,x=.int i/\Q (g i) H
section
variable {X:Cx}{a b c:Expr}{ta tb tc:TE}{pos:Pos}
theorem iP (ha:PE X a ta) (hb:PE X b tb){pins:List (Addr×Obj)}{s:Shared}{σ:St}{H:Hp}{R:V->V->Hp->Prop}(I:Inv X pins σ H s)
 (h:ta σ H fun x H1=>tb σ H1 fun y H2=>R x y H2) {Q:Value->Shared->Prop} {f:Value->Value->Sem Value}
 (hf:∀ v u s2 x y H2,Inv X pins σ H2 s2->RelV x v->RelV y u->R x y H2->wpAny (model X.prog X.w) X.A (f v u) Q X.xe s2) :
 wpAny (model X.prog X.w) X.A (eval a X.env) (fun v s₁=>wpAny (model X.prog X.w) X.A (eval b X.env) (fun u s₂=>wpAny (model X.prog X.w) X.A (f v u) Q X.xe s₂) X.xe s₁) X.xe s:=by
 refine Bb (ha pins s σ H _ I h) fun v s1 ⟨x,H1,I1,r1,q1⟩=>?_
 refine Bb (hb pins s1 σ H1 _ I1 q1) fun u s2 ⟨y,H2,I2,r2,q2⟩=>?_
 exact hf v u s2 x y H2 I2 r1 r2 q2
theorem WN {op:Operator}{r:R2}(ho:Gn X (binaryOp op) r) (ha:PE X a ta) (hb:PE X b tb):PE X (.BinOp a op b pos) (mD r ta tb):=by
 intro pins s σ H Q I h
 exact wpAny_BinOp (iP ha hb I h fun v u s2 x y H2 I2 rx ry q=>ho pins s2 σ H2 x y v u Q I2 rx ry q)
theorem nB {op:UnaryOp}{r:V->Hp->VK->Prop}(ho:qZ X (unaryOp op) r) (ha:PE X a ta):PE X (.UnaryOp op a pos) (vB r ta):=by
 intro pins s σ H Q I h
 exact UnaryOp_ (Bb (ha pins s σ H _ I h) fun v s1 ⟨x,H1,I1,r1,q1⟩=>ho pins s1 σ H1 x v Q I1 r1 q1)
theorem pU {f:Value->Value->Sem Value}{C:Int->Int->Prop}{g:Int->Int->Int}
 (rule:∀(i j:Int) (t u:Tok) (s:Shared) (Q:Value->Shared->Prop) (E:Value->Shared->Prop),C i j->Q (.int (g i j) s.toks) { s with toks:=s.toks + 1 }->wpAny (model X.prog X.w) X.A (f (.int i t) (.int j u)) Q E s) :
 Gn X f (rI C fun i j=>.int (g i j)):=by
 intro pins s σ H x y v u Q I rx ry h
 obtain⟨i,j,rfl,rfl,hc,q⟩:=h
 obtain⟨t,rfl⟩:=rx
 obtain⟨t',rfl⟩:=ry
 exact rule i j t t' s _ _ hc ⟨.int (g i j),H,I.tok _,⟨_,rfl⟩,q⟩
theorem nE {f:Value->Value->Sem Value}{g:Int->Int->Int}
 (rule:∀(i j:Int) (t u:Tok) (s:Shared) (Q:Value->Shared->Prop) (E:Value->Shared->Prop),Q (.int (g i j) s.toks) { s with toks:=s.toks + 1 }->wpAny (model X.prog X.w) X.A (f (.int i t) (.int j u)) Q E s) :
 Gn X f (Z2 fun i j=>.int (g i j)):=by
 intro pins s σ H x y v u Q I rx ry h
 obtain⟨i,j,rfl,rfl,q⟩:=h
 obtain⟨t,rfl⟩:=rx
 obtain⟨t',rfl⟩:=ry
 exact rule i j t t' s _ _ ⟨.int (g i j),H,I.tok _,⟨_,rfl⟩,q⟩
theorem iQ {f:Value->Value->Sem Value}{g:Int->Int->Bool}
 (rule:∀(i j:Int) (t u:Tok) (s:Shared) (Q:Value->Shared->Prop) (E:Value->Shared->Prop),Q (.bool (g i j)) s->wpAny (model X.prog X.w) X.A (f (.int i t) (.int j u)) Q E s) :
 Gn X f (Z2 fun i j=>.bl (g i j)):=by
 intro pins s σ H x y v u Q I rx ry h
 obtain⟨i,j,rfl,rfl,q⟩:=h
 obtain⟨t,rfl⟩:=rx
 obtain⟨t',rfl⟩:=ry
 exact rule i j t t' s _ _ ⟨.bl (g i j),H,I,rfl,q⟩
def WO (i j:Int):Prop:=0 < j/\j < 1073741824
def Zc (i j:Int):Prop:=0<=j/\j<=1000000/\i.natAbs < 2 ^ 64
def WQ (i j:Int):Prop:=(-(2 ^ 64) < i/\i < 2 ^ 64)\/(-(2 ^ 64) < j/\j < 2 ^ 64)
theorem WQ.ok {i j:Int}(h:WQ i j):IntMulOk i j:=by
 rcases h with ⟨h1,h2⟩|⟨h1,h2⟩
 ·exact .of_left (intBits_le_64 h1 h2)
 ·exact .of_right (intBits_le_64 h1 h2)
theorem iR:Gn X (binaryOp .Add) (Z2 fun i j=>.int (i + j)):=nE fun _ _ _ _ _ _ _ q=>add_int q
theorem iS:Gn X (binaryOp .Sub) (Z2 fun i j=>.int (i - j)):=nE fun _ _ _ _ _ _ _ q=>sub_int q
theorem Zd:Gn X (binaryOp .FloorDiv) (rI WO fun i j=>.int (i / j)):=pU fun i j _ _ _ _ _ hc q=>by
 have h1:(0:Int) < j:=hc.1
 have h2:j < 1073741824:=hc.2
 exact floordiv_int (by omega) (by rw[Int.fdiv_eq_ediv_of_nonneg i (by omega)];exact q) (.inl (PyProof.noPylong_small (by omega)))
theorem iT:Gn X (binaryOp .Mod) (rI (fun _ j=>0 < j) fun i j=>.int (i % j)):=pU fun i j _ _ _ _ _ hc q=>by
 have h1:(0:Int) < j:=hc
 exact mod_int' (by omega) (by rw[Int.fmod_eq_emod_of_nonneg i (by omega)];exact q)
theorem iU:Gn X (binaryOp .Pow) (rI Zc fun i j=>.int (i ^ j.toNat)):=pU fun _ _ _ _ _ _ _ hc q=>pow_int_small hc.1 hc.2.1 hc.2.2 q
theorem vC {f:Value->Sem Value}{g:Int->Int}
 (rule:∀(i:Int) (t:Tok) (s:Shared) (Q:Value->Shared->Prop) (E:Value->Shared->Prop),Q (.int (g i) s.toks) { s with toks:=s.toks + 1 }->wpAny (model X.prog X.w) X.A (f (.int i t)) Q E s) :
 qZ X f (rU fun i=>.int (g i)):=by
 intro pins s σ H x v Q I rx h
 obtain⟨i,rfl,q⟩:=h
 obtain⟨t,rfl⟩:=rx
 exact rule i t s _ _ ⟨.int (g i),H,I.tok _,⟨_,rfl⟩,q⟩
theorem iV:qZ X (unaryOp .USub) (rU fun i=>.int (-i)):=vC fun _ _ _ _ _ q=>neg_int q
end
section
variable {X:Cx}{a b c:Expr}{ta tb tc:TE}{pos:Pos}
theorem fR:Gn X (compareOp .Lt) (Z2 fun i j=>.bl (decide (i < j))):=iQ fun _ _ _ _ _ _ _ q=>lt_int q
theorem nF:Gn X (compareOp .LtE) (Z2 fun i j=>.bl (decide (i<=j))):=iQ fun _ _ _ _ _ _ _ q=>le_int q
theorem nG:Gn X (compareOp .Gt) (Z2 fun i j=>.bl (decide (j < i))):=iQ fun _ _ _ _ _ _ _ q=>gt_int q
theorem Gn.or {f:Value->Value->Sem Value}{r r':R2}(h:Gn X f r) (h':Gn X f r'):Gn X f (fun x y H Q=>r x y H Q\/r' x y H Q):=by
 intro pins s σ H x y v u Q I rx ry q
 rcases q with q|q
 ·exact h pins s σ H x y v u Q I rx ry q
 ·exact h' pins s σ H x y v u Q I rx ry q
theorem Ii (b:Expr){op:CmpOp}(h:op≠.In:=by decide) (h2:op≠.NotIn:=by decide):behindInMarks op b=false:=by
 have e1:(op == CmpOp.In)=false:=by cases op<;>first|rfl|exact absurd rfl h
 have e2:(op == CmpOp.NotIn)=false:=by cases op<;>first|rfl|exact absurd rfl h2
 cases b<;>simp[behindInMarks,e1,e2]
theorem Ze {op:CmpOp}{r:R2}(ho:Gn X (compareOp op) r) (ha:PE X a ta) (hb:PE X b tb) (hm:behindInMarks op b=false):PE X (.Compare a [op] [b] pos) (mD r ta tb):=by
 intro pins s σ H Q I h
 exact wpAny_Compare1 (iP ha hb I h fun v u s2 x y H2 I2 rx ry q=>ho pins s2 σ H2 x y v u Q I2 rx ry q) hm
def nI (t:TE):TT:=fun σ H Q=>t σ H fun x H'=>∃ k,x=.bl k/\Q k H'
theorem Zf {op:CmpOp}{r:R2}(ho:Gn X (compareOp op) r) (ha:PE X a ta) (hb:PE X b tb) (hm:behindInMarks op b=false):PT X (.Compare a [op] [b] pos) (nI (mD r ta tb)):=by
 intro pins s σ H Q I h
 refine wpAny_isTrue_Compare1 (Bb (ha pins s σ H _ I h) fun v s1 ⟨x,H1,I1,r1,q1⟩=>Bb (hb pins s1 σ H1 _ I1 q1) fun u s2 ⟨y,H2,I2,r2,q2⟩ =>
  Bb (ho pins s2 σ H2 x y v u _ I2 r1 r2 q2) fun c s3 ⟨z,H3,I3,r3,k,e,q3⟩=>?_) hm
 subst e
 cases r3
 exact wpAny_truthy_bool ⟨H3,I3,q3⟩
def iW (r r':R2) (ta tb tc:TE):TE:=fun σ H Q=>ta σ H fun x H1=>tb σ H1 fun y H2=>r x y H2 fun z H3=>∃ k,z=.bl k /\
 (if k=true then tc σ H3 fun w' H4=>r' y w' H4 Q else Q (.bl false) H3)
theorem WR {op eh:CmpOp}{r r':R2}(ho:Gn X (compareOp op) r) (b8:Gn X (compareOp eh) r') (ha:PE X a ta) (hb:PE X b tb) (hc:PE X c tc)
 (hm:lastMarks [op,eh] [b,c]=false:=by with_unfolding_all rfl):PE X (.Compare a [op,eh] [b,c] pos) (iW r r' ta tb tc):=by
 intro pins s σ H Q I h
 refine Compare_chain (Bb (ha pins s σ H _ I h) fun v s1 ⟨x,H1,I1,r1,q1⟩=>chain_link (Bb (hb pins s1 σ H1 _ I1 q1) fun u s2 ⟨y,H2,I2,r2,q2⟩ =>
  Bb (ho pins s2 σ H2 x y v u _ I2 r1 r2 q2) fun d s3 ⟨z,H3,I3,r3,k,e,q3⟩=>?_)) hm
 subst e
 cases r3
 refine wpAny_truthy_bool ?_
 cases k with
 |false=>exact ite_ff ⟨.bl false,H3,I3,rfl,q3⟩
 |true=>exact ite_tt (chain_last (Bb (hc pins s3 σ H3 _ I3 q3) fun w' s4 ⟨z',H4,I4,r4,q4⟩=>b8 pins s4 σ H4 y z' u w' Q I4 r2 r4 q4))
def nJ (K:za) (x:V) (H:Hp) (k:Bool):Prop :=
 match x with
 | .Az=>k=false
 | .bl b=>k=b
 | .int i=>k=(i != 0)
 | .str y=>y.length<=sizeLine/\k=((y.length:Int) != 0)
 | .hV y=>y.size<=sizeLine/\k=((y.size:Int) != 0)
 | .ref p=>(∃ xs,Dt K H p xs/\k = !xs.isEmpty)\/(∃ xs,Fn K H p xs/\k = !xs.isEmpty)\/∃ kvs,H p=some (.dK kvs)/\k = !kvs.isEmpty
 |_=>False
theorem Sq {κ:Type}{kvs:List (κ×V)}{vs:List (κ×Value)}(r:KV kvs vs):(!vs.isEmpty) = !kvs.isEmpty:=by
 cases r<;>rfl
theorem Md {xs:List V}{aa:List Value}(r:Vals xs aa):(!aa.toArray.isEmpty) = !xs.isEmpty:=by
 cases r<;>simp
theorem Kg:(sizeLine:Nat) < 2 ^ 63:=by rw[sizeLine_eq];decide
theorem iX:rA X (fun x H Q=>∃ k,nJ X.K x H k/\Q k H):=by
 intro pins s σ H x v Q I rx h
 obtain⟨k,e,q⟩:=h
 have hl:=Kg
 have hs:sizeLine=16777216:=sizeLine_eq
 cases x with
 |Az =>
  cases rx
  have e':k=false:=e
  subst e'
  exact truthy_none ⟨H,I,q⟩
 |bl b =>
  cases rx
  have e':k=b:=e
  subst e'
  exact wpAny_truthy_bool ⟨H,I,q⟩
 |int i =>
  obtain⟨t,rfl⟩:=rx
  have e':k=(i != 0):=e
  subst e'
  exact PySem.P.truthy_int ⟨H,I,q⟩
 |str y =>
  obtain⟨t,rfl⟩:=rx
  obtain⟨hy,e'⟩:y.length<=sizeLine/\k=((y.length:Int) != 0):=e
  subst e'
  exact PySem.P.truthy_str (by omega) ⟨H,I.tok _,q⟩
 |hV y =>
  obtain⟨t,rfl⟩:=rx
  obtain⟨hy,e'⟩:y.size<=sizeLine/\k=((y.size:Int) != 0):=e
  subst e'
  exact PySem.W.truthy_bytes (by omega) ⟨H,I.tok _,q⟩
 |ref p =>
  cases rx
  have e':(∃ xs,Dt X.K H p xs/\k = !xs.isEmpty)\/(∃ xs,Fn X.K H p xs/\k = !xs.isEmpty)\/∃ kvs,H p=some (.dK kvs)/\k = !kvs.isEmpty:=e
  rcases e' with ⟨xs,hx,e'⟩|⟨xs,hx,e'⟩|⟨kvs,hx,e'⟩
  ·subst e'
   obtain⟨aa,r,pl,hz⟩:=I.list hx
   have hlen:=r.length
   exact wpAny_truthy_list pl.isList (by simp only[zh];omega) ⟨H,I.tok _,by rw[Md r];exact q⟩
  ·subst e'
   obtain⟨aa,r,pl,hz⟩:=I.tuple hx
   have hlen:=r.length
   exact truthy_tuple pl (by simp only[zh];omega) ⟨H,I.tok _,by rw[Md r];exact q⟩
  ·subst e'
   obtain⟨hz,hS,vs,r,m⟩:kvs.length<=sizeLine/\(p == sysModules)=false/\∃ vs,KV kvs vs/\s.heap.DictOf (B4 X.prog X.w) p vs:=I.Au p _ hx
   have hlen:kvs.length=vs.length:=Paired.length r
   exact wpAny_truthy_dict hS m (by omega) ⟨H,I.tok _,by rw[Sq r];exact q⟩
 |_=>exact (show False from e).elim
theorem WS (ha:PE X a ta) (he:∀ whole,isTrue a X.env whole=(do let v <-whole;standAt a.pos;holding [v] (truthy v))) :
 PT X a (fun σ H Q=>ta σ H fun x H'=>∃ k,nJ X.K x H' k/\Q k H'):=by
 intro pins s σ H Q I h
 exact isTrue_plain (Bb (ha pins s σ H _ I h) fun v s1 ⟨x,H1,I1,r1,q1⟩=>iX pins s1 σ H1 x v Q I1 r1 q1) (he _)
theorem vals1 {x:V}{us:List Value}(r:Vals [x] us):∃ u,us=[u]/\RelV x u:=by
 cases r with
 |cons r1 r2=>cases r2;exact⟨_,rfl,r1⟩
theorem Vg:Gp X (.type "int") (fun xs H Q=>(∃ i,xs=[.int i]/\Q (.int i) H)\/∃ k,xs=[.bl k]/\Q (.int (if k then 1 else 0)) H):=by
 intro pins s σ H xs us Q I r h
 rcases h with ⟨i,rfl,q⟩|⟨k,rfl,q⟩
 ·obtain⟨u,rfl,t,rfl⟩:=vals1 r
  exact call_int_int ⟨.int i,H,I,⟨_,rfl⟩,q⟩
 ·obtain⟨u,rfl,r1⟩:=vals1 r
  cases r1
  exact call_int_bool ⟨.int (if k then 1 else 0),H,I.tok _,⟨_,rfl⟩,q⟩
end
structure Sr (h:Heap) (x dx C:Addr) (mA:Str->Option Value):Prop where
 obj:h.get? x=some (yJ C dx)
 ns:h.Ns1 dx mA
 ne:dx≠x
theorem Vh {h:Heap}{dx:Addr}{mA:Str->Option Value}(n:h.Ns1 dx mA):∃ od,h.get? dx=some od/\∀ name,PySem.W.lookIn name od=some (mA name):=by
 obtain⟨o,es,ep,ho,hd,hk,_,hm⟩:=n
 refine⟨o,ho,fun name=>?_⟩
 have e:=hm name
 unfold nsFind findBy at e
 rw[<-Array.find?_toList] at e
 unfold PySem.W.lookIn
 rw[hd]
 dsimp only
 split
 ·rename_i y q
  rw[q] at e
  exact congrArg some e
 ·rename_i q
  rw[q] at e
  have a:es.toList.any (·.refKey)=false:=by
   rw[List.any_eq_false]
   intro y hy
   obtain⟨z,t,mr⟩:=hk y (Array.mem_toList_iff.mp hy)
   simp[DictEntry.refKey,mr]
  have a':¬ es.toList.any (·.refKey)=true:=by rw[a];exact zK
  rw[if_neg a']
  exact congrArg some e
theorem Sr.look {h:Heap}{x dx C:Addr}{mA:Str->Option Value}(I:Sr h x dx C mA):∃ od,PySem.W.InstAt h x (yJ C dx) C (some od)/\∀ name,PySem.W.lookIn name od=some (mA name) :=
 let ⟨od,ho,hl⟩:=Vh I.ns
 ⟨od,⟨I.obj,rfl,rfl,ho⟩,hl⟩
section
variable {prog:Program}{w:World}{A:Around}{E:Value->Shared->Prop}{s:Shared}{K:za}{x dx C f:Addr}{mA:Str->Option Value}{name:Str}{v:Value}
theorem get_map {expr:Bool}{Q:Value->Shared->Prop}(X:K.In s.heap) (I:Sr s.heap x dx C mA) (hg:PySem.W.plainGet K C name=true) (hh:PySem.W.hasDictIn K C=true)
 (ha:yg K (.ref C) name=some none) (hv:mA name=some v) (vb:PySem.W.handedIn v=true) (h:Q v { s with toks:=s.toks + 1 }) :
 wpAny (model prog w) A (getAttr (.ref x) name expr) Q E s:=by
 obtain⟨od,J,hl⟩:=I.look
 exact PySem.W.get_value X J (PySem.W.plainGet_of hg).1 (PySem.W.findObj_own hh ha rfl (by rw[hl,hv])) vb h
theorem WT {pl:Sem Bool}{Q:Value×List Value->Shared->Prop}(X:K.In s.heap) (I:Sr s.heap x dx C mA) (hg:PySem.W.plainGet K C name=true)
 (hf:yg K (.ref C) name=some (some (.ref f))) (ht:PySem.W.isFn K (.ref f)=true) (hv:mA name=none) (h:Q (.ref f,[.ref x]) s) :
 wpAny (model prog w) A (getMethod (.ref x) name pl) Q E s:=by
 obtain⟨od,J,hl⟩:=I.look
 exact PySem.W.method_fn X J (PySem.W.plainGet_of hg).1 (PySem.W.plainGet_of hg).2 hf (beq_iff_eq.mp ht) (by show (PySem.W.lookIn name od).map (·.isSome)=some false;rw[hl,hv];rfl) h
theorem Zg {ns:List Str}{Q:Unit->Shared->Prop}(X:K.In s.heap) (I:Sr s.heap x dx C mA)
 (hs:yg K (.ref C) "__setattr__" = some (some (.builtin "object.__setattr__"))) (hp:PySem.W.plainOver K C=true) (ht:PySem.W.takerIn K C name=some none) (hh:PySem.W.hasDictIn K C=true)
 (hw:PySem.Within mA ns) (hsz:ns.length<=sizeLine)
 (h:∀ h',Sr h' x dx C (fun y=>if y=name then some v else mA y)->yV dx s.heap h'->Q () { s with heap:=h',toks:=s.toks + 2 }) :
 wpAny (model prog w) A (setAttr (.ref x) name v) Q E s:=by
 obtain⟨od,J,hl⟩:=I.look
 refine PySem.W.set_plain X J hs (PySem.W.osa_open (s:={ s with toks:=s.toks + 1 }) (r:=none) X J hp ht fun b=>?_)
 obtain⟨cd,hc,bM⟩:=PySem.W.any_some hh
 have hx:s.heap.get? x=some ⟨.ref C,some dx,.plain,#[]⟩:=I.obj
 refine wpAny_bind (wpAny_pure (wpAny_bind (wpAny_bind (wpAny_loadPart hx (wpAny_bind (PySem.W.Looks.here (s:={ s with toks:=s.toks + 1 }) (PySem.W.looks_clsIn X hc) ?_))))))
 rw[bM]
 refine wpAny_pure (a:=some dx) (wpAny_bind (wpAny_pure (wpAny_bind ?_)))
 refine wpAny_nsSet1 (s:={ s with toks:=s.toks + 1 }) I.ns fun h' aR bh=>?_
 obtain⟨oD,xL,xM,vc,vd,ve⟩:=aR.count (PySem.Within.cons name v hw)
 refine wpAny_bind (wpAny_lookBehind vc (by rw[vd];exact pastItsLine_dict (yo ve (by rw[zk];omega))) ?_)
 exact wpAny_pure (h _ ⟨(bh.2 _ (zU I.ne)).trans I.obj,aR,I.ne⟩ bh)
theorem WU {R:Result->Shared->Prop}{vs:List Value}{kw:List (Str×Value)}(X:K.In s.heap) (hm:PySem.W.makesIn K C=true)
 (hi:yg K (.ref C) "__init__" = some (some (.ref f))) (hf:PySem.W.typeIn K (.ref f)=some (.type "function"))
 (h:codeAny (model prog w) (A.under (.builtin "type.__call__" ⟨.ref C::vs,kw⟩)) (.call (.ref f) ⟨.ref (s.heap.objs.size + 1)::vs,kw⟩) (PySem.W.InitBack (s.heap.objs.size + 1) R)
  { s with heap:=(s.heap.push y2).push (yJ C s.heap.objs.size) }) :
 codeAny (model prog w) A (.call (.ref C) ⟨vs,kw⟩) R s:=by
 obtain⟨hh,g,d,t,os⟩:=s
 exact PySem.W.make_core (PySem.W.makes_of X hm) (PySem.W.looks_findIn X hi) (fun self=>PySem.W.bind_fn X self hf) (.inl rfl) h
end
def DV (f:Str) (v:V):List (Str×V)->List (Str×V)
 |[]=>[(f,v)]
 |(g,x)::r=>if g=f then (g,v)::r else (g,x)::DV f v r
theorem KY (f g:Str) (v:V):∀ fs:List (Str×V),(DV f v fs).lookup g=if g=f then some v else fs.lookup g
 |[]=>by
  show List.lookup g [(f,v)]=_
  by_cases h:g=f
  ·have hb:(g == f)=true:=beq_iff_eq.mpr h
   simp only[List.lookup,hb,if_pos h]
  ·have hb:(g == f)=false:=beq_eq_false_iff_ne.mpr h
   simp only[List.lookup,hb,if_neg h]
 |(k,x)::r=>by
  have ih:=KY f g v r
  rw[show DV f v ((k,x)::r)=(if k=f then (k,v)::r else (k,x)::DV f v r) from rfl]
  by_cases hk:k=f
  ·rw[if_pos hk]
   by_cases h:g=k
   ·have hb:(g == k)=true:=beq_iff_eq.mpr h
    simp only[List.lookup,hb,if_pos (h.trans hk)]
   ·have hb:(g == k)=false:=beq_eq_false_iff_ne.mpr h
    simp only[List.lookup,hb,if_neg (fun e:g=f=>h (e.trans hk.symm))]
  ·rw[if_neg hk]
   by_cases h:g=k
   ·have hb:(g == k)=true:=beq_iff_eq.mpr h
    simp only[List.lookup,hb,if_neg (fun e:g=f=>hk (h.symm.trans e))]
   ·have hb:(g == k)=false:=beq_eq_false_iff_ne.mpr h
    simp only[List.lookup,hb]
    exact ih
theorem Kh (f:Str) (v:V):∀ fs:List (Str×V),f∈(DV f v fs).map (·.1)/\∀ g,g∈fs.map (·.1)->g∈(DV f v fs).map (·.1)
 |[]=>⟨by simp[DV],fun g h=>by simp at h⟩
 |(k,x)::r=>by
  obtain⟨i1,i2⟩:=Kh f v r
  rw[show DV f v ((k,x)::r)=(if k=f then (k,v)::r else (k,x)::DV f v r) from rfl]
  by_cases hk:k=f
  ·rw[if_pos hk]
   subst hk
   exact⟨by simp,fun g h=>by simpa using h⟩
  ·rw[if_neg hk]
   refine⟨?_,fun g h=>?_⟩
   ·rw[zf]
    exact ze _ i1
   ·rw[zf] at h ⊢
    rcases zo.mp h with e|e
    ·exact zo.mpr (.inl e)
    ·exact ze _ (i2 g e)
theorem KZ (f:Str) (v:V):∀ fs:List (Str×V),(DV f v fs).length<=fs.length + 1
 |[]=>by simp[DV]
 |(k,x)::r=>by
  have ih:=KZ f v r
  rw[show DV f v ((k,x)::r)=(if k=f then (k,v)::r else (k,x)::DV f v r) from rfl]
  by_cases hk:k=f
  ·rw[if_pos hk,zk,zk];omega
  ·rw[if_neg hk,zk,zk];omega
theorem Gf.some_of {v:V}{o:Option Value}(r:Gf (some v) o):∃ u,o=some u/\RelV v u:=by
 cases o with
 |none=>exact (show False from r).elim
 |some u=>exact⟨u,rfl,r⟩
theorem Gf.none_of {o:Option Value}(r:Gf none o):o=none:=by
 cases o with
 |none=>rfl
 |some u=>exact (show False from r).elim
theorem Vi {v:V}{u:Value}(r:RelV v u):PySem.W.handedIn u=true:=by
 cases v with
 |Az=>cases (show u=Value.none from r);rfl
 |bl b=>cases (show u=Value.bool b from r);rfl
 |int i=>obtain⟨t,e⟩:=(show ∃ t,u=Value.int i t from r);cases e;rfl
 |str x=>obtain⟨t,e⟩:=(show ∃ t,u=Value.str x t from r);cases e;rfl
 |hV b=>obtain⟨t,e⟩:=(show ∃ t,u=Value.bytes b t from r);cases e;rfl
 |mJ b=>obtain⟨t,e⟩:=(show ∃ t,u=Value.float b t from r);cases e;rfl
 |ref a=>cases (show u=zZ a from r);rfl
 |ty n=>cases (show u=Value.type n from r);rfl
section
variable {P:Program}{w:World}{H H':Hp}{h h':Heap}{a C dx:Addr}{fs cg:List (Str×V)}
theorem Pd (Au:Fm P w H h) (e:H a=some (.ins C dx fs)):∃ mA,Sr h a dx C mA/\(∀ f,Gf (fs.lookup f) (mA f))/\PySem.Within mA (fs.map (·.1))/\fs.length<=1000/\H dx=some (.own a):=by
 obtain⟨d,z,ne,ob,mA,n,r,q⟩:=(show BB P w H h a (.ins C dx fs) from Au a _ e)
 exact⟨mA,⟨ob,n,ne⟩,r,q,z,d⟩
end
structure Vj (K:za) (C:Addr):Prop where
 pg:PySem.W.plainGet K C Str.empty=true
 hd:PySem.W.hasDictIn K C=true
 po:PySem.W.plainOver K C=true
 sa:yg K (.ref C) "__setattr__" = some (some (.builtin "object.__setattr__"))
theorem Vj.get {K:za}{C:Addr}(c:Vj K C) (f:Str):PySem.W.plainGet K C f=true:=c.pg
def Ij (K:za) (C:Addr) (f:Str):Prop:=yg K (.ref C) f=some none
theorem Ij.nK {K:za}{C:Addr}{f:Str}(n:Ij K C f):PySem.W.takerIn K C f=some none:=by
 unfold PySem.W.takerIn
 rw[show yg K (.ref C) f=some none from n]
 rfl
structure Meth (K:za) (C:Addr) (m:Str) (f:Addr):Prop where
 at_:yg K (.ref C) m=some (some (.ref f))
 fn:PySem.W.isFn K (.ref f)=true
 kp:yi K (.ref f)=true
section
variable {X:Cx}{pins:List (Addr×Obj)}{σ:St}{H:Hp}{s:Shared}{a C dx:Addr}{fs:List (Str×V)}{f:Str}{v:V}{A:Around}{E:Value->Shared->Prop}
theorem Ss {b:Bool}{Q:Value->Shared->Prop}(I:Inv X pins σ H s) (e:H a=some (.ins C dx fs)) (c:Vj X.K C) (n:Ij X.K C f) (l:fs.lookup f=some v)
 (h:∀ u s',Inv X pins σ H s'->RelV v u->Q u s'):wpAny (model X.prog X.w) A (getAttr (.ref a) f b) Q E s:=by
 obtain⟨mA,O,r,_,_,_⟩:=Pd I.Au e
 obtain⟨u,hu,ru⟩:=Gf.some_of (v:=v) (o:=mA f) (by rw[<-l];exact r f)
 exact get_map I.NG O (c.get f) c.hd n hu (Vi ru) (h u _ (I.tok _) ru)
theorem Me {m:Str}{g:Addr}{pl:Sem Bool}{Q:Value×List Value->Shared->Prop}(I:Inv X pins σ H s) (e:H a=some (.ins C dx fs)) (c:Vj X.K C) (k:Meth X.K C m g) (l:fs.lookup m=none)
 (h:Q (.ref g,[.ref a]) s):wpAny (model X.prog X.w) A (getMethod (.ref a) m pl) Q E s:=by
 obtain⟨mA,O,r,_,_,_⟩:=Pd I.Au e
 have hn:mA m=none:=Gf.none_of (by rw[<-l];exact r m)
 exact WT I.NG O (c.get m) k.at_ k.fn hn h
theorem Su {y:V}{u:Value}{Q:Unit->Shared->Prop}(I:Inv X pins σ H s) (e:H a=some (.ins C dx fs)) (c:Vj X.K C) (n:Ij X.K C f) (hl:fs.length < 1000) (ry:RelV y u)
 (h:∀ s',Inv X pins σ (upd H a (.ins C dx (DV f y fs))) s'->Q () s'):wpAny (model X.prog X.w) A (setAttr (.ref a) f u) Q E s:=by
 obtain⟨mA,O,r,wi,_,ho⟩:=Pd I.Au e
 have hz:(fs.map (·.1)).length<=sizeLine:=by rw[zc,sizeLine_eq];omega
 refine Zg I.NG O c.sa c.po n.nK c.hd wi hz fun h' O' sb=>h _ ?_
 have hd:∃ o,h'.get? dx=some o:=let ⟨o,_,_,e',_⟩:=O'.ns;⟨o,e'⟩
 refine I.write (x:=a) (e:=dx) (by rw[e];exact yP) (.inr ho) (fun b q hb z=>(sb.2 b hb).trans z) hd ?_
 refine⟨by rw[Ah O.ne];exact ho,?_,O.ne,O'.obj,_,O'.ns,fun g=>?_,fun g hg=>?_⟩
 ·have:=KZ f y fs;omega
 ·show Gf ((DV f y fs).lookup g) (if g=f then some u else mA g)
  rw[KY]
  by_cases q:g=f
  ·rw[if_pos q,if_pos q];exact ry
  ·rw[if_neg q,if_neg q];exact r g
 ·by_cases q:g=f
  ·rw[q];exact (Kh f y fs).1
  ·refine (Kh f y fs).2 g (wi g fun z=>hg ?_)
   show (if g=f then some u else mA g)=none
   rw[if_neg q];exact z
theorem Inv.made (I:Inv X pins σ H s):Inv X pins σ (upd (upd H s.heap.objs.size (.own (s.heap.objs.size + 1))) (s.heap.objs.size + 1) (.ins C s.heap.objs.size []))
 { s with heap:=(s.heap.push y2).push (yJ C s.heap.objs.size) }:=by
 have e1:(s.heap.push y2).get? s.heap.objs.size=some y2:=zG s.heap rfl
 have e2:((s.heap.push y2).push (yJ C s.heap.objs.size)).get? (s.heap.objs.size + 1)=some (yJ C s.heap.objs.size):=by
  have:=zG (s.heap.push y2) (o:=yJ C s.heap.objs.size) rfl
  rwa[Heap.size_push] at this
 have e3:(s.heap.push y2).Ns s.heap.objs.size (fun _=>none):=⟨y2,#[],_,e1,rfl,(fun e he=>absurd he (by simp)),fun _=>rfl⟩
 have I1:=I.laid (a:=s.heap.objs.size) (o:=.own (s.heap.objs.size + 1)) (h':=s.heap.push y2) (t':=s.toks) (fun b u q=>zp _ q) (zx _) ⟨_,e1⟩
 refine I1.laid (a:=s.heap.objs.size + 1) (o:=.ins C s.heap.objs.size []) (t':=s.toks) (fun b u q=>zp _ q) (Nat.le_of_eq (Heap.size_push _ _)) ?_
 have ne:s.heap.objs.size≠s.heap.objs.size + 1:=zC (Nat.lt_succ_self _)
 refine⟨by rw[Ah ne,Ar],zP _,ne,e2,fun _=>none,(Heap.Ns1.of_empty e3).at fun o q=>zp _ q,fun _=>yP,fun y hy=>absurd rfl hy⟩
theorem Zh {prog:Program}{w:World}{env:Env}{e:Expr}{f:Str}{pos:Pos}{s:Shared}{Q:Value->Shared->Prop}(hb:attributeBase e f env (eval e env)=eval e env)
 (h:wpAny (model prog w) A (eval e env) (fun o s₁=>wpAny (model prog w) A (getAttr o f true) Q E s₁) E s):wpAny (model prog w) A (eval (.Attribute e f pos) env) Q E s :=
 Attribute_any_ h (by rw[arm_eval_Attribute,hb])
end
def rB (K:za) (ta:TE) (f:Str):TE:=fun σ H Q=>ta σ H fun x H1=>∃ a C dx fs v,x=.ref a/\H1 a=some (.ins C dx fs)/\Vj K C/\Ij K C f/\fs.lookup f=some v/\Q v H1
def rC (K:za) (ta tv:TE) (f:Str):TS:=fun D σ H=>tv σ H fun y H1=>ta σ H1 fun x H2=>∃ a C dx fs,x=.ref a/\H2 a=some (.ins C dx fs)/\Vj K C/\Ij K C f/\fs.length < 1000 /\
 D.nx σ (upd H2 a (.ins C dx (DV f y fs)))
section
variable {X:Cx}{o e value:Expr}{f:Str}{pos pos' bC:Pos}{ta tv:TE}
theorem iY (he:PE X e ta) (hb:attributeBase e f X.env (eval e X.env)=eval e X.env):PE X (.Attribute e f pos) (rB X.K ta f):=by
 intro pins s σ H Q I h
 refine Zh hb (Bb (he pins s σ H _ I h) fun u s1 ⟨x,H1,I1,rx,a,C,dx,fs,v,ex,ea,c,n,l,q⟩=>?_)
 subst ex
 obtain rfl:u=zZ a:=rx
 exact Ss I1 ea c n l fun u' s2 I2 ru=>⟨v,H1,I2,ru,q⟩
theorem iZ (ha:PE X o ta) (hv:PE X value tv) (hs:swapsWith value (some (.Attribute o f pos')) pos.line X.env=pure false):PS X (.Assign [.Attribute o f pos'] value pos) (rC X.K ta tv f):=by
 intro pins s σ H D I h
 refine plainObj_wpAny_Assign_Attribute (Bb (hv pins s σ H _ I h) fun u s1 ⟨y,H1,I1,ry,q⟩=>Bb (ha pins s1 σ H1 _ I1 q) fun ov s2 ⟨x,H2,I2,rx,a,C,dx,fs,ex,ea,c,n,l,q2⟩=>?_) hs
 subst ex
 obtain rfl:ov=zZ a:=rx
 exact Su I2 ea c n l ry fun s3 I3=>⟨σ,_,I3,q2⟩
end
structure BI (k:Nat) (A:Around):Prop where
 hd:A.handled=none
 dp:A.depth + 3 * k + 5 < recursionLimit
 un:A.units + 16 * k + 200 < cLine
theorem BI.mono {j k:Nat}{A:Around}(r:BI k A) (h:j<=k):BI j A:=⟨r.hd,by have:=r.dp;omega,by have:=r.un;omega⟩
theorem BI.deeper {k:Nat}{A:Around}(r:BI (k + 1) A) (env:Env):BI k (A.deeper env) :=
 ⟨r.hd,by have:=r.dp;show A.depth + 1 + 3 * k + 5 < _;omega,by have:=r.un;show A.units + 3 + 16 * k + 200 < _;omega⟩
theorem Sv {A:Around}{C:Addr}{us:List Value}{kw:List (Str×Value)}:(A.under (.builtin "type.__call__" ⟨.ref C::us,kw⟩)).depth=A.depth + 1:=by
 first|rfl|simp[Around.under,Code.weight,Code.isCreation,Code.isGuard,Code.isCaller,Code.frames,Code.isFrame,guardIds]
theorem Sw {A:Around}{C:Addr}{us:List Value}{kw:List (Str×Value)}:(A.under (.builtin "type.__call__" ⟨.ref C::us,kw⟩)).units=A.units + 1:=by
 first|rfl|simp[Around.under,Code.cUnits,Code.frames,Code.isFrame]
theorem BI.make {k:Nat}{A:Around}(r:BI (k + 1) A) (C:Addr) (us:List Value) (kw:List (Str×Value)):BI k (A.under (.builtin "type.__call__" ⟨.ref C::us,kw⟩)) :=
 ⟨r.hd,by have:=r.dp;rw[Sv];omega,by have:=r.un;rw[Sw];omega⟩
theorem BI.depth {k:Nat}{A:Around}(r:BI k A):A.depth < recursionLimit:=by have:=r.dp;omega
theorem BI.units {k:Nat}{A:Around}(r:BI k A):A.units + 64 < cLine:=by have:=r.un;omega
def jA:TA:=fun _ H Q=>Q [] H
def fS (ta:TE) (tr:TA):TA:=fun σ H Q=>ta σ H fun x H1=>tr σ H1 fun xs H2=>Q (x::xs) H2
section
variable {X:Cx}{e:Expr}{es:List Expr}{te:TE}{t:TA}{pos:Pos}
theorem Cg:PA X [] jA:=fun _ _ _ _ H Q I h=>Calls.spliced_nil ⟨[],H,I,.nil,h⟩
theorem Be (ha:PE X e te) (hr:PA X es t) (hs:starEach (e::es) X.env=(false,eval e X.env)::starEach es X.env:=by rfl):PA X (e::es) (fS te t):=by
 intro pos pins s σ H Q I h
 rw[hs]
 show wpAny _ _ (spliced ((false,eval e X.env)::backTo pos (starEach es X.env))) _ _ s
 refine yT (Bb (ha pins s σ H _ I h) fun u s1 ⟨x,H1,I1,r1,q1⟩=>?_)
 exact Bb (hr pos pins s1 σ H1 _ I1 q1) fun us s2 ⟨xs,H2,I2,r2,q2⟩=>⟨x::xs,H2,I2,.cons r1 r2,q2⟩
def rD (t:TA):TE:=fun σ H Q=>t σ H fun xs H1=>xs.length<=sizeLine/\∀ p,H1 p=none->Q (.ref p) (upd H1 p (.tup xs))
def rE (t:TA):TE:=fun σ H Q=>t σ H fun xs H1=>xs.length<=sizeLine/\∀ p,H1 p=none->Q (.ref p) (upd H1 p (.lst xs))
theorem WV {x1}(h:PA X es t):PE X (.Tuple es x1 pos) (rD t):=by
 intro pins s σ H Q I hq
 refine wpAny_Tuple_spliced (Bb (h pos pins s σ H _ I hq) fun us s1 ⟨xs,H1,I1,r,z,q⟩=>⟨by rw[<-r.length];exact z,?_⟩)
 have hf:H1 s1.heap.objs.size=none:=I1.Au.fresh (zx _)
 refine⟨.ref s1.heap.objs.size,upd H1 s1.heap.objs.size (.tup xs),I1.laid (t':=s1.toks) (fun b u e=>zp _ e) (zx _) ?_,rfl,q _ hf⟩
 exact⟨z,us,r,⟨_,zG _ rfl,rfl,_,rfl⟩⟩
theorem Pe (h:PA X es t):PE X (.List es pos) (rE t):=by
 intro pins s σ H Q I hq
 refine wpAny_List_spliced (Bb (h pos pins s σ H _ I hq) fun us s1 ⟨xs,H1,I1,r,z,q⟩=>⟨by rw[<-r.length];exact z,?_⟩)
 have hf:H1 s1.heap.objs.size=none:=I1.Au.fresh (zx _)
 refine⟨.ref s1.heap.objs.size,upd H1 s1.heap.objs.size (.lst xs),I1.laid (t':=s1.toks) (fun b u e=>zp _ e) (zx _) ?_,rfl,q _ hf⟩
 exact⟨z,us,0,r,zG _ rfl⟩
end
abbrev Sp:=List V->Hp->VK->XK->Prop
abbrev Vk:=List Env->Hp->Shared->XK->Value->Shared->Prop
structure Sx (P:Program) (w:World) (K:za) (mg:Str->Option Value) (base:Heap) (A:Around) (outer:List Env) (s:Shared) (H:Hp):Prop where
 frames:A.frames=some outer
 mod:Mod K mg base
 bs:∀ b o,base.get? b=some o->s.heap.get? b=some o/\H b=none
 Z6:base.objs.size<=s.heap.objs.size
 IV:s.heap.FunFrames base outer
 hZ:∀ b∈KW outer,H b=none
 Au:Fm P w H s.heap
 bare:AllBare s.gens
def CE (outer:List Env) (P:Program) (w:World) (H:Hp) (s:Shared) (Q:VK) (u:Value) (s':Shared):Prop :=
 ∃ v H',s'.os=s.os/\AllBare s'.gens/\Un (KW outer) [] H H' s.heap s'.heap/\Fm P w H' s'.heap/\RelV v u/\Q v H'
def CR (CX:Vk) (outer:List Env) (P:Program) (w:World) (H:Hp) (s:Shared) (Q:VK) (E:XK) (r:Result) (s':Shared):Prop :=
 match r with
 | .ok (.ret u)=>CE outer P w H s Q u s'
 | .ok _=>False
 | .error e=>CX outer H s E e s'
structure Dv (P:Program) (w:World) (K:za) (mg:Str->Option Value) (base:Heap) (CX:Vk) (k:Nat) (f:Addr) (fd:FuncData) (ps:List Str) (sp:Sp):Prop where
 len:∀ vs H Q E,sp vs H Q E->vs.length=ps.length
 run:∀(A:Around) (outer:List Env) (s:Shared) (H:Hp) (args:Args) (us:List Value) (vs:List V) (Q:VK) (E:XK),BI k A->Sx P w K mg base A outer s H->BindsTo s fd args (ps.zip us)->Vals vs us->sp vs H Q E->
  codeAny (model P w) A (.call (.ref f) args) (CR CX outer P w H s Q E) s
theorem Sx.make {P:Program}{w:World}{K:za}{mg:Str->Option Value}{base:Heap}{A:Around}{outer:List Env}{s:Shared}{H:Hp}(e:Sx P w K mg base A outer s H) (C:Addr) (us:List Value) (kw:List (Str×Value)) :
 Sx P w K mg base (A.under (.builtin "type.__call__" ⟨.ref C::us,kw⟩)) outer s H:=⟨by first|exact e.frames|(simpa [Around.under,Code.envs,Code.isFrame,pushEnvs] using e.frames),e.mod,e.bs,e.Z6,e.IV,e.hZ,e.Au,e.bare⟩
section
variable {X:Cx}{pins:List (Addr×Obj)}{σ:St}{H:Hp}{s s':Shared}
theorem Inv.nL (I:Inv X pins σ H s):Sx X.prog X.w X.K X.mg X.base X.A X.stack s H :=
 ⟨I.ok.frames,I.ok.mod,I.bs,yo I.ok.Z6 I.sz,I.stack,I.Pa,I.Au,I.bare⟩
theorem Inv.after {Q:VK}{u:Value}(I:Inv X pins σ H s) (h:CE X.stack X.prog X.w H s Q u s'):EP X pins σ Q u s':=by
 obtain⟨v,H',os,bare,un,Au,r,q⟩:=h
 obtain⟨hh,g,d,t,vg⟩:=s'
 obtain rfl:vg=s.os:=os
 exact⟨v,H',I.call (h':=hh) (g':=g) (d':=d) (t':=t) (ch:=[]) un Au bare (fun b z=>absurd z (by simp)),r,q⟩
end
def nM (sp:Sp) (bD:List V) (E:XK) (t:TA):TE:=fun σ H Q=>t σ H fun vs H1=>sp (vs++bD) H1 Q E
def nN (C:Addr) (sp:Sp) (bD:List V) (E:XK) (t:TA):TE:=fun σ H Q=>t σ H fun vs H1=>∀ x dx,H1 x=none->H1 dx=none->dx≠x->
 sp (.ref x::(vs++bD)) (upd (upd H1 dx (.own x)) x (.ins C dx [])) (fun v H2=>v=.Az/\Q (.ref x) H2) E
def Binds (K:za) (fd:FuncData) (ps:List Str) (ds:List Value):Prop :=
 ∀(s:Shared) (us:List Value),K.In s.heap->(us++ds).length=ps.length->BindsTo s fd ⟨us,[]⟩ (ps.zip (us++ds))
theorem Binds.all {K:za}{fd:FuncData}{ps:List Str}(h:∀ us:List Value,us.length=ps.length->bindArgs fd ⟨us,[]⟩=pure (ps.zip us)):Binds K fd ps []:=fun s us _ hl=>by
 rw[yq] at hl ⊢
 exact .of_eq (h us hl)
def Gq (CX:Vk) (X:Cx) (E:XK):Prop:=∀(pins:List (Addr×Obj)) (σ:St) (H:Hp) (s:Shared) (e:Value) (s':Shared),Inv X pins σ H s->CX X.stack H s E e s'->X.xe e s'
section
variable {X:Cx}{CX:Vk}{k:Nat}{f C:Addr}{fd:FuncData}{ps:List Str}{sp:Sp}{bD:List V}{ds:List Value}{E:XK}{x m:Str}{p pos apos:Pos}{e o:Expr}{es:List Expr}{ta:TE}{t:TA}
theorem Sy {pins:List (Addr×Obj)}{σ:St}{H:Hp}{s:Shared}{Q:VK}{us:List Value}{vs:List V}(F:Dv X.prog X.w X.K X.mg X.base CX k f fd ps sp) (hr:BI k X.A) (hb:Binds X.K fd ps ds) (hd:Vals bD ds) (hx:Gq CX X E)
 (I:Inv X pins σ H s) (r:Vals vs us) (h:sp (vs++bD) H Q E):wpAny (model X.prog X.w) X.A (call (.ref f) us) (EP X pins σ Q) X.xe s:=by
 have r2:Vals (vs++bD) (us++ds):=r.append hd
 have hl:(us++ds).length=ps.length:=by rw[<-r2.length];exact F.len _ _ _ _ h
 refine wpAny_call (codeAny_mono (F.run X.A X.stack s H ⟨us,[]⟩ (us++ds) (vs++bD) Q E hr I.nL (hb s us I.NG hl) r2 h) fun r s' hq=>?_)
 cases r with
 |error e=>exact hx pins σ H s e s' I hq
 |ok fl =>
  cases fl with
  |ret u=>exact I.after hq
  |next=>exact yC hq
  |brk=>exact yC hq
  |cont=>exact yC hq
theorem TZ (F:Dv X.prog X.w X.K X.mg X.base CX k f fd ps sp) (hr:BI k X.A) (hg:Gl X x) (hm:X.mg x=some (.ref f)) (hk:yi X.K (.ref f)=true) (hb:Binds X.K fd ps ds) (hd:Vals bD ds) (hx:Gq CX X E)
 (ha:PA X (e::es) t) (aU:(x == ("__debug__" : Str))=false:=by decide) (he:starEach (e::es) X.env=(false,eval e X.env)::starEach es X.env:=by rfl) (a6:(backTo pos (starEach es X.env)).any (·.1)=false:=by rfl) :
 PE X (.Call (.Name x p) (e::es) [] pos) (nM sp bD E t):=by
 intro pins s σ H Q I h
 refine wpAny_Call_Name_kw (Pb I hg hm ?_ aU)
 refine PySem.W.callWith_K (h₀:=X.base) I.ok.mod.Wu hk (Bb (ha pos pins s σ H _ I h) fun us s1 ⟨vs,H1,I1,r,q⟩=>⟨I1.NG,?_⟩) he a6
 exact Sy F hr hb hd hx I1 r q
structure Mk (K:za) (C f:Addr):Prop where
 makes:PySem.W.makesIn K C=true
 init:yg K (.ref C) "__init__" = some (some (.ref f))
 fn:PySem.W.isFn K (.ref f)=true
 kp:yi K (.ref C)=true
theorem WW {pins:List (Addr×Obj)}{σ:St}{H:Hp}{s:Shared}{Q:VK}{us:List Value}{vs:List V}(M:Mk X.K C f) (F:Dv X.prog X.w X.K X.mg X.base CX k f fd ps sp) (hr:BI (k + 1) X.A) (hb:Binds X.K fd ps ds) (hd:Vals bD ds)
 (hx:Gq CX X E) (I:Inv X pins σ H s) (r:Vals vs us)
 (h:∀ x dx,H x=none->H dx=none->dx≠x->sp (.ref x::(vs++bD)) (upd (upd H dx (.own x)) x (.ins C dx [])) (fun v H2=>v=.Az/\Q (.ref x) H2) E) :
 wpAny (model X.prog X.w) X.A (call (.ref C) us) (EP X pins σ Q) X.xe s:=by
 have hq:=h (s.heap.objs.size + 1) s.heap.objs.size (I.Au.fresh (Nat.le_succ _)) (I.Au.fresh (zx _)) (zC (Nat.lt_succ_self _))
 have I2:=Inv.made (C:=C) I
 have r2:Vals (V.ref (s.heap.objs.size + 1)::(vs++bD)) (zZ (s.heap.objs.size + 1)::(us++ds)):=.cons rfl (r.append hd)
 have hl:(zZ (s.heap.objs.size + 1)::us++ds).length=ps.length:=by
  have e:=r2.length
  rw[F.len _ _ _ _ hq] at e
  exact e.symm
 refine wpAny_call (WU (f:=f) I.NG M.makes M.init (beq_iff_eq.mp M.fn) (codeAny_mono (F.run _ X.stack _ _ ⟨zZ (s.heap.objs.size + 1)::us,[]⟩ (zZ (s.heap.objs.size + 1)::(us++ds)) _ _ E (hr.make C us [])
  (I2.nL.make C us []) (hb _ (zZ (s.heap.objs.size + 1)::us) I2.NG hl) r2 hq) fun r s' eo=>?_))
 cases r with
 |error e=>exact hx pins σ _ _ e s' I2 eo
 |ok fl =>
  cases fl with
  |ret u =>
   obtain⟨v,H',I3,rv,ev,q3⟩:=I2.after eo
   subst ev
   exact⟨rv,⟨V.ref (s.heap.objs.size + 1),H',I3,rfl,q3⟩⟩
  |next=>exact yC eo
  |brk=>exact yC eo
  |cont=>exact yC eo
theorem U0 (M:Mk X.K C f) (F:Dv X.prog X.w X.K X.mg X.base CX k f fd ps sp) (hr:BI (k + 1) X.A) (hg:Gl X x) (hm:X.mg x=some (.ref C)) (hb:Binds X.K fd ps ds) (hd:Vals bD ds) (hx:Gq CX X E)
 (ha:PA X (e::es) t) (aU:(x == ("__debug__" : Str))=false:=by decide) (he:starEach (e::es) X.env=(false,eval e X.env)::starEach es X.env:=by rfl) (a6:(backTo pos (starEach es X.env)).any (·.1)=false:=by rfl) :
 PE X (.Call (.Name x p) (e::es) [] pos) (nN C sp bD E t):=by
 intro pins s σ H Q I h
 refine wpAny_Call_Name_kw (Pb I hg hm ?_ aU)
 refine PySem.W.callWith_K (h₀:=X.base) I.ok.mod.Wu M.kp (Bb (ha pos pins s σ H _ I h) fun us s1 ⟨vs,H1,I1,r,q⟩=>⟨I1.NG,?_⟩) he a6
 exact WW M F hr hb hd hx I1 r q
end
def PK (X:Cx) (iq:List Keyword) (t:TA):Prop :=
 ∀(pos:Pos) (pins:List (Addr×Obj)) (s:Shared) (σ:St) (H:Hp) (Q:List V->Hp->Prop),Inv X pins σ H s->t σ H Q->wpAny (model X.prog X.w) X.A (evalAll ((backToKw pos (keywordEach iq X.env)).map (·.2))) (AP X pins σ Q) X.xe s
section
variable {X:Cx}{CX:Vk}{k:Nat}{f C:Addr}{fd:FuncData}{ps ks:List Str}{sp:Sp}{E:XK}{x m:Str}{p pos apos mt:Pos}{e o:Expr}{es:List Expr}{iq:List Keyword}{te ta:TE}{t tk:TA}{nm:Option Str}
theorem jB:PK X [] jA:=fun _ _ _ _ H Q I h=>wpAny_evalAll_nil ⟨[],H,I,.nil,h⟩
theorem Zi (ha:PE X e te) (hr:PK X iq t):PK X (⟨nm,e,mt⟩::iq) (fS te t):=by
 intro pos pins s σ H Q I h
 show wpAny _ _ (evalAll ((do let v <-eval e X.env;standAt pos;pure v)::(backToKw pos (keywordEach iq X.env)).map (·.2))) _ _ s
 refine wpAny_evalAll_cons (wpAny_bind (Bb (ha pins s σ H _ I h) fun u s1 ⟨x,H1,I1,r1,q1⟩=>wpAny_bind (wpAny_standAt (wpAny_pure ?_))))
 exact Bb (hr pos pins s1 σ H1 _ I1 q1) fun us s2 ⟨xs,H2,I2,r2,q2⟩=>⟨x::xs,H2,I2,.cons r1 r2,q2⟩
variable {g:List Value->List Value->List Value}{gV:List V->List V->List V}
end
structure Ae (N P:List Str) (sc:Scope):Prop where
 kind:sc.kind=.function
 co:sc.isCoroutine=false
 gen:sc.isGenerator=false
 nd:N.Nodup
 pre:N.take P.length=P
 tW:∀ x∈P,sc.names.lookup x=some .local\/sc.names.lookup x=some .cell
 jC:∀ y∈sc.names,y.2≠.free
theorem Ob {kindOf:Str->Option NameKind}{x:Str}:∀ {binds:List (Str×Value)}{m:Str->Option Value},(∀ v,(x,v)∉binds)->bindL kindOf binds m x=m x
 |[],_,_=>rfl
 |(n,v)::r,m,h=>by
  unfold bindL
  rw[Ob fun w hw=>h w (ze _ hw)]
  split
  ·have:x≠n:=by rintro rfl;exact h v zd
   simp[this]
  ·rfl
theorem Oc {kindOf:Str->Option NameKind}{x:Str}:∀ {binds:List (Str×Value)}{m:Str->Option Value},(∀ v,(x,v)∉binds)->bindC kindOf binds m x=m x
 |[],_,_=>rfl
 |(n,v)::r,m,h=>by
  unfold bindC
  rw[Oc fun w hw=>h w (ze _ hw)]
  split
  ·rfl
  ·have:x≠n:=by rintro rfl;exact h v zd
   simp[this]
theorem Od {kindOf:Str->Option NameKind}{x:Str}{v:Value}:∀ {P:List Str}{vs:List Value}{i:Nat}{m:Str->Option Value},P.Nodup->P[i]? =some x->vs[i]? =some v->kindOf x=some .local->
 bindL kindOf (P.zip vs) m x=some v
 |[],_,_,_,_,h,_,_=>by simp at h
 |_::_,[],_,_,_,_,h,_=>by simp at h
 |p::P,w::vs,0,m,nd,h1,h2,hk=>by
  simp at h1 h2;subst h1;subst h2
  show bindL kindOf ((p,w)::P.zip vs) m p=_
  unfold bindL
  rw[Ob fun v hv=>(yk.mp nd).1 (List.of_mem_zip hv).1,if_pos hk]
  simp
 |p::P,w::vs,i + 1,m,nd,h1,h2,hk=>by
  show bindL kindOf ((p,w)::P.zip vs) m x=_
  unfold bindL
  exact Od (i:=i) (yk.mp nd).2 (by simpa using h1) (by simpa using h2) hk
theorem Oe {kindOf:Str->Option NameKind}{x:Str}{v:Value}:∀ {P:List Str}{vs:List Value}{i:Nat}{m:Str->Option Value},P.Nodup->P[i]? =some x->vs[i]? =some v->kindOf x≠some .local->
 bindC kindOf (P.zip vs) m x=some v
 |[],_,_,_,_,h,_,_=>by simp at h
 |_::_,[],_,_,_,_,h,_=>by simp at h
 |p::P,w::vs,0,m,nd,h1,h2,hk=>by
  simp at h1 h2;subst h1;subst h2
  show bindC kindOf ((p,w)::P.zip vs) m p=_
  unfold bindC
  rw[Oc fun v hv=>(yk.mp nd).1 (List.of_mem_zip hv).1,if_neg hk]
  simp
 |p::P,w::vs,i + 1,m,nd,h1,h2,hk=>by
  show bindC kindOf ((p,w)::P.zip vs) m x=_
  unfold bindC
  exact Oe (i:=i) (yk.mp nd).2 (by simpa using h1) (by simpa using h2) hk
def start (N:List Str) (vs:List V):St:=vs.map some++zt (N.length - vs.length) none
def Lk (CX:Vk) (P:Program) (w:World) (K:za) (mg:Str->Option Value) (base:Heap) (N:List Str) (qual:Str) (scope:Scope) (f:Addr) (cd:Value) (A:Around) (outer:List Env) (s:Shared) (H:Hp) (E:XK):Cx where
 prog:=P
 w:=w
 K:=K
 mg:=mg
 base:=base
 A:=A.deeper (envOfC qual scope s.heap.objs.size f cd)
 N:=N
 s₀:=s
 H₀:=H
 env:=envOfC qual scope s.heap.objs.size f cd
 outer:=outer
 stack:=envOfC qual scope s.heap.objs.size f cd::outer
 ex:=[]
 calm:=true
 fn:=fun _=>true
 pn:=[]
 xe:=fun e s'=>wpAny (model P w) (A.deeper (envOfC qual scope s.heap.objs.size f cd)) (leaving (envOfC qual scope s.heap.objs.size f cd) e) (fun _ ir=>CX outer H s E e ir) (fun e' ir=>CX outer H s E e' ir) s'
theorem QG {sc:Scope}{n:Nat}{x:Str}(h:sc.names.lookup x=some .cell):∃ c,(cellsFrom n sc.names []).lookup x=some c:=by
 have q:=PySem.W.cellsFrom_some sc.names n [] (.inl h)
 exact Option.isSome_iff_exists.mp q
theorem Vl {CX:Vk}{P:Program}{w:World}{K:za}{mg:Str->Option Value}{base:Heap}{N ps:List Str}{qual:Str}{scope:Scope}{f:Addr}{cd:Value}{A:Around}{outer:List Env}{s s1:Shared}{H:Hp}{E:XK}{us:List Value}{vs:List V}
 (S:Ae N ps scope) (hd:A.handled=none) (e0:Sx P w K mg base A outer s H) (hl:vs.length=ps.length) (r:Vals vs us)
 (x:InCallC s s.heap.objs.size (bindL (envOfC qual scope s.heap.objs.size f cd).kindOf (ps.zip us) fun _=>none) (cellsFrom (s.heap.objs.size + 1) scope.names []) (bindC (envOfC qual scope s.heap.objs.size f cd).kindOf (ps.zip us) fun _=>none) s1) :
 Inv (Lk CX P w K mg base N qual scope f cd A outer s H E) [] (start N vs) H s1:=by
 have a6:ps.length<=N.length:=by have:=congrArg List.length S.pre;rw[yt] at this;omega
 obtain⟨h1,tk,rfl,hk⟩:=x.done
 have iu:∀ b:Addr,b∉(Lk CX P w K mg base N qual scope f cd A outer s H E).ex:=fun b z=>absurd (show b∈([]:List Addr) from z) (by simp)
 refine⟨⟨e0.mod,S.kind,rfl,rfl,zx _,fun y z c h1 h2=>?_,fun y hy=>?_,fun y c _ h=>?_,fun _=>hd,Around.frames_deeper e0.frames,.inr ⟨rfl,rfl⟩,fun b z=>absurd z (iu b),e0.bs,e0.Z6,fun b _ _=>iu b,fun b z=>absurd z (iu b),e0.IV,e0.hZ⟩,
  rfl,e0.bare,Un.kept hk,⟨_,x.toInCall.ns,fun i y v h1 h2 h3=>?_⟩,fun y c h=>⟨_,x.cell y c h⟩,e0.Au.fresh (zx _),fun y c h=>?_,fun p hp=>absurd (show p∈([]:List (Addr×Obj)) from hp) (by simp),e0.Au.kept hk,?_⟩
 ·exact name_of_addr x.apart (PySem.mem_of_lookup h1) (PySem.mem_of_lookup h2)
 ·have hy:scope.names.lookup y=some .cell\/scope.names.lookup y=some .free:=hy
  rcases hy with hy|hy
  ·exact QG hy
  ·exact absurd rfl (S.jC _ (PySem.mem_of_lookup hy))
 ·exact yj (x.above y c (PySem.mem_of_lookup h))
 ·have hi:i < vs.length:=by
   unfold start at h2
   by_cases hi:i < vs.length
   ·exact hi
   ·rw[yE (by simpa using hi)] at h2
    rw[yB] at h2
    split at h2<;>cases h2
  have ha:vs[i]? =some v:=by
   unfold start at h2
   rw[yw (by simpa using hi),zF] at h2
   cases e:vs[i]? with
   |none=>rw[e] at h2;cases h2
   |some a=>rw[e] at h2;cases h2;rfl
  obtain⟨u,hu,rv⟩:=r.get ha
  have hp:ps[i]? =some y:=by
   rw[<-S.pre,List.getElem?_take_of_lt (by omega)];exact h1
  have tX:ps.Nodup:=by rw[<-S.pre];exact S.nd.sublist (List.take_sublist _ _)
  refine⟨u,rv,?_⟩
  rcases S.tW y (zj hp) with k|k
  ·exact .inl ⟨k,Od tX hp hu k⟩
  ·obtain⟨c,e⟩:=QG (n:=s.heap.objs.size + 1) k
   refine .inr ⟨.inl k,c,e,?_⟩
   have q:=x.cell y c e
   rw[Oe tX hp hu (by show scope.names.lookup y≠_;rw[k];decide)] at q
   exact q
 ·exact e0.Au.fresh (yj (x.above y c (PySem.mem_of_lookup h)))
 ·unfold start
  show _=N.length
  rw[zJ,zc,yY]
  omega
theorem U1 {CX:Vk}{P:Program}{w:World}{K:za}{mg:Str->Option Value}{base:Heap}{k:Nat}{f:Addr}{name qual:Str}{params:Arguments}{body:List Stmt}{scope:Scope}{dV kV doc pm AZ ct oc:Value}{an od:Option Addr}
 {Se:Array (Option Value)} {N ps:List Str} {sp:Sp} (lk:K.lookup f=some ⟨oc,od,.func (yh name qual params body scope dV kV doc pm an AZ ct),Se⟩) (bw:y3 K AZ qual=true) (S:Ae N ps scope)
 (len:∀ vs H Q E,sp vs H Q E->vs.length=ps.length)
 (cj:∀(A:Around) (outer:List Env) (s:Shared) (H:Hp) (vs:List V) (Q:VK) (E:XK),BI k (A.deeper (envOfC qual scope s.heap.objs.size f AZ))->sp vs H Q E->
  ∃ t,TX (Lk CX P w K mg base N qual scope f AZ A outer s H E) body t/\t { nx:=fun _ H'=>Q .Az H',rt:=Q } (start N vs) H) :
 Dv P w K mg base CX (k + 1) f (yh name qual params body scope dV kV doc pm an AZ ct) ps sp:=by
 refine⟨len,fun A outer s H args us vs Q E hr e0 hb r ck=>?_⟩
 have hl:=len _ _ _ _ ck
 have KX:K.In s.heap:=e0.mod.Wu.keeps fun b o e=>(e0.bs b o e).1
 have lim:s.heap.NoLimit:=e0.mod.nolimit.keeps fun b o e=>(e0.bs b o e).1
 have iw:∀ y∈ps.zip us,scope.names.lookup y.1=some .local\/(scope.names.lookup y.1=some .cell/\((cellsFrom (s.heap.objs.size + 1) scope.names []).lookup y.1).isSome=true):=fun ⟨n,v⟩ hy=>by
  rcases S.tW n (List.of_mem_zip hy).1 with q|q
  ·exact .inl q
  ·exact .inr ⟨q,PySem.W.cellsFrom_some _ _ _ (.inl q)⟩
 refine codeAny_call_function hr.depth (KX _ _ lk) rfl S.co S.gen rfl (PySem.W.codeRec_of KX bw) (hb _ _ _ _ ?_)
 refine wpAny_newFunctionEnv_cells S.kind iw fun env he s1 x=>?_
 subst he
 refine⟨lim.keeps x.toInCall.keep,codeAny_func ?_⟩
 obtain⟨t,ht,hq⟩:=cj A outer s H vs Q E (hr.deeper _) ck
 have I:Inv (Lk CX P w K mg base N qual scope f AZ A outer s H E) [] (start N vs) H s1:=Vl S hr.hd e0 hl r x
 refine wpAny_mono (ht [] s1 (start N vs) H _ I hq) (fun fl s' hs=>?_) fun e s' hs=>hs
 have fin:∀ {σ':St} {H':Hp} {v:V} {u:Value},Inv (Lk CX P w K mg base N qual scope f AZ A outer s H E) [] σ' H' s'->RelV v u->Q v H'->CE outer P w H s Q u s' :=
  fun {σ' H' v u} J rv q=>⟨v,H',J.os,J.bare,J.base,J.Au,rv,q⟩
 cases fl with
 |ret u =>
  obtain⟨v,σ',H',J,rv,q⟩:=hs
  exact fin J rv q
 |next =>
  obtain⟨σ',H',J,q⟩:=hs
  exact fin (v:=V.Az) (u:=Value.none) J rfl q
 |brk =>
  obtain⟨_,_,_,q⟩:=hs
  exact yC q
 |cont =>
  obtain⟨_,_,_,q⟩:=hs
  exact yC q
section
variable {X:Cx}{x:Str}{p pos:Pos}{e:Expr}{es:List Expr}{t:TA}{id T:String}{r:List V->Hp->VK->Prop}
def rF (r:List V->Hp->VK->Prop) (t:TA):TE:=fun σ H Q=>t σ H fun vs H1=>r vs H1 Q
theorem QH (hc:Gp X (.builtin id) r) (hg:Gl X x) (hm:X.mg x=none) (hv:bootBuiltins x=some (.builtin id)) (ha:PA X (e::es) t) (hn:x ≠ "__name__" := by decide) (aU:(x == ("__debug__" : Str))=false:=by decide)
 (he:starEach (e::es) X.env=(false,eval e X.env)::starEach es X.env:=by rfl) (a6:(backTo pos (starEach es X.env)).any (·.1)=false:=by rfl):PE X (.Call (.Name x p) (e::es) [] pos) (rF r t):=by
 intro pins s σ H Q I h
 refine wpAny_Call_Name_kw (DU I hg hm hv ?_ hn aU)
 exact PyProof.Rows.callWith_builtin1 (Bb (ha pos pins s σ H _ I h) fun us s1 ⟨vs,H1,I1,r1,q1⟩=>hc pins s1 σ H1 vs us Q I1 r1 q1) he a6
theorem Of (hc:Gp X (.type T) r) (hg:Gl X x) (hm:X.mg x=none) (hv:bootBuiltins x=some (.type T)) (ha:PA X (e::es) t) (hn:x ≠ "__name__" := by decide) (aU:(x == ("__debug__" : Str))=false:=by decide)
 (he:starEach (e::es) X.env=(false,eval e X.env)::starEach es X.env:=by rfl) (a6:(backTo pos (starEach es X.env)).any (·.1)=false:=by rfl):PE X (.Call (.Name x p) (e::es) [] pos) (rF r t):=by
 intro pins s σ H Q I h
 refine wpAny_Call_Name_kw (DU I hg hm hv ?_ hn aU)
 exact yp (Bb (ha pos pins s σ H _ I h) fun us s1 ⟨vs,H1,I1,r1,q1⟩=>hc pins s1 σ H1 vs us Q I1 r1 q1) he a6
end
end L2
namespace HT
open PySem PyProof.Rows
def lexLt:List Int->List Int->Bool
 |[],[]=>false
 |[],_::_=>true
 |_::_,[]=>false
 |x::xs,y::ys=>if x=y then lexLt xs ys else decide (x < y)
theorem Fq (x y:Int) (xs ys:List Int):lexLt (x::xs) (y::ys)=if x=y then lexLt xs ys else decide (x < y):=rfl
theorem ER:lexLt [] []=false:=rfl
theorem Mf (y:Int) (ys:List Int):lexLt [] (y::ys)=true:=rfl
theorem Mg (x:Int) (xs:List Int):lexLt (x::xs) []=false:=rfl
theorem WY (A:Around) (s:Shared) (a:Int) (t:Tok) (c:Int) (u:Tok):∃ e,SeqAt.EqAt A s (.int a t) (.int c u) e/\(e=true↔a=c) :=
 ⟨(a == c),SeqAt.EqAt.int_int a t c u,by simp⟩
theorem WZ (A:Around) (s:Shared) (a:Int) (t:Tok) (c:Int) (u:Tok) (prog:Program) (w:World) (E:Value->Shared->Prop) (Q:Value->Shared->Prop) (h:Q (.bool (decide (a < c))) s) :
 wpAny (model prog w) A (richCompare .Lt (.int a t) (.int c u)) Q E s :=
 (PyProof.Rows.lt_int h:wpAny (model prog w) A (compareOp .Lt (.int a t) (.int c u)) Q E s)
section
open PySem.SeqAt
open PySem.AutoSeq1 (wpAny_loadPart')
open PySem.MeetsSeq PySem.MeetsSeq2 PySem.MeetsSeq3
theorem NL (l b:Addr) (items a4:Array Value) (n n2:Nat) (dd mw:Option Addr) (sl ix:Array (Option Value)) (ns ms:List Int) (hi:IntsAre items.toList ns) (hj:IntsAre a4.toList ms) :
 Meets (Builtin.«tuple.__lt__» ⟨[.ref l,.ref b],[]⟩)
  (fun _ R s=>s.heap.get? l=some { cls:=.type "tuple",dict:=dd,data:=.seq items n,slots:=sl }/\s.heap.get? b=some { cls:=.type "tuple",dict:=mw,data:=.seq a4 n2,slots:=ix } /\
   R (.ok (.ret (.bool (lexLt ns ms)))) s) :=
 .of_wp fun prog w A R s h=>by
  obtain⟨hp,g,d,tk,os⟩:=s;obtain⟨hl,hb,h⟩:=h
  have f2:=AutoSeq1.sub_tuple_tuple
  have z1:items.size=ns.length:=by rw[<-hi.length];simp
  have z2:a4.size=ms.length:=by rw[<-hj.length];simp
  wp_walk using wpAny_loadPart' hl,wpAny_loadPart' hb,wpAny_forIn_list _ (fun rest b s'=>b.1=none/\s'=⟨hp,g,d,tk,os⟩/\∃(vs ws:List Value) (cK h8:List Int),rest=vs.zip ws /\
   IntsAre vs cK/\IntsAre ws h8/\cK.length + a4.size=h8.length + items.size/\R (.ok (.ret (.bool (lexLt cK h8)))) ⟨hp,g,d,tk,os⟩) _
  case turn =>
   rintro ⟨y,x⟩ rest b s' ⟨aE,rfl,vs,ws,cK,h8,hz,mx,lg,hlen,hR⟩
   cases mx with
   |nil=>rw[List.zip_nil_left] at hz;cases hz
   |cons a t my =>
    cases lg with
    |nil=>rw[List.zip_nil_right] at hz;cases hz
    |cons c u mz =>
     rw[List.zip_cons_cons] at hz
     injection hz with vh iy
     injection vh with hy hx
     subst hy hx
     rw[Fq] at hR
     simp only[zk] at hlen
     obtain⟨e,he,iz⟩:=WY A.in1 ⟨hp,g,d,tk,os⟩ a t c u
     refine wpAny_bind (he prog w _ _ ?_)
     cases e with
     |true =>
      rw[if_pos (iz.mp rfl)] at hR
      wp_walk
      exact⟨rfl,rfl,_,_,_,_,iy,my,mz,by omega,hR⟩
     |false =>
      rw[if_neg (fun q=>absurd (iz.mpr q) zK)] at hR
      have vi:=WZ A.in1 ⟨hp,g,d,tk,os⟩ a t c u prog w
      wp_walk using vi
      exact⟨_,rfl,by simpa using hR⟩
  case fin =>
   rintro ⟨b1,b2⟩ s' ⟨aE,rfl,vs,ws,cK,h8,hz,mx,lg,hlen,hR⟩
   simp only at aE
   subst aE
   have hv:lexLt cK h8=decide (items.size < a4.size):=by
    cases mx with
    |nil =>
     cases lg with
     |nil =>
      simp only[List.length_nil] at hlen
      rw[ER]
      exact (decide_eq_false (by omega)).symm
     |cons c u hw =>
      simp only[List.length_nil,zk] at hlen
      rw[Mf]
      exact (decide_eq_true (by omega)).symm
    |cons a t hv =>
     cases lg with
     |nil =>
      simp only[List.length_nil,zk] at hlen
      rw[Mg]
      exact (decide_eq_false (by omega)).symm
     |cons c u hw =>
      rw[List.zip_cons_cons] at hz
      cases hz
   rw[hv] at hR
   wp_walk
   exact⟨_,rfl,by simpa [Builtin.Tuple.tupleCompareSizes] using hR⟩
  case h =>
   exact⟨rfl,rfl,items.toList,a4.toList,ns,ms,rfl,hi,hj,by omega,h⟩
end
section
variable {prog:Program}{w:World}{A:Around}{E:Value->Shared->Prop}{s:Shared}
theorem Ik {l b:Addr}{items a4:Array Value}{ns ms:List Int}{Q:Value->Shared->Prop}(hl:IsTup s.heap l items) (hb:IsTup s.heap b a4) (hi:IntsAre items.toList ns) (hj:IntsAre a4.toList ms)
 (hu:A.units < cLine) (h:Q (.bool (lexLt ns ms)) s):wpAny (model prog w) A (compareOp .Lt (.ref l) (.ref b)) Q E s:=by
 obtain⟨⟨cls,dd,data,sl⟩,ho,hc,n,hd⟩:=id hl
 obtain⟨⟨vj,mw,data2,ix⟩,lh,tY,n2,hd2⟩:=id hb
 simp only at hc hd tY hd2
 subst hc hd tY hd2
 exact richCompare_meets_room (op:=.Lt) ⟨_,ho,rfl⟩ ⟨_,lh,rfl⟩ PySem.F.slot_tuple_lt PySem.F.entry_tuple_lt (PySem.F.args_tuple_lt_2 _ _) (NL l b items a4 n n2 dd mw sl ix ns ms hi hj)
  ⟨ho,lh,show Value.bool (lexLt ns ms)≠Value.notImplemented/\Q (.bool (lexLt ns ms)) s from ⟨(fun x=>nomatch x),h⟩⟩ hu
def Mh (n d:Nat):Option Int->Nat
 |none=>d
 |some v=>if v < 0 then (v + (n:Int)).toNat else min v.toNat n
theorem X0 (n d:Nat):Mh n d none=d:=rfl
theorem Pf (n d k:Nat):Mh n d (some (k:Int))=min k n:=by
 show (if (k:Int) < 0 then ((k:Int) + (n:Int)).toNat else min (k:Int).toNat n)=min k n
 rw[if_neg (by omega),zX]
end
end HT
namespace L2
open PySem PySem.Spec PyProof.Rows
abbrev TO:=St->Hp->(Option Int->Hp->Prop)->Prop
def PO (X:Cx) (e:Option Expr) (t:TO):Prop :=
 ∀(pins:List (Addr×Obj)) (s:Shared) (σ:St) (H:Hp) (Q:Option Int->Hp->Prop),Inv X pins σ H s->t σ H Q->
  wpAny (model X.prog X.w) X.A (evalPart e X.env) (fun u s'=>∃ o H',Inv X pins σ H' s'/\IsPart u o/\Q o H') X.xe s
def Zj:TO:=fun _ H Q=>Q none H
def nO (t:TE):TO:=fun σ H Q=>t σ H fun x H1=>∃ i,x=.int i/\Q (some i) H1
theorem intsAre_of {ns:List Int}:∀ {us:List Value},Vals (ns.map V.int) us->IntsAre us ns:=by
 induction ns with
 |nil=>intro us r;rw[yM] at r;cases r;exact .nil
 |cons n ns ih =>
  intro us r
  rw[zf] at r
  cases r with
  |cons r1 r2 =>
   obtain⟨t,e⟩:=r1
   subst e
   exact .cons n t (ih r2)
section
variable {X:Cx}{e:Expr}{te:TE}{lo hi:Option Expr}{tl th:TO}{pos p2:Pos}
theorem Zk:PO X none Zj:=by
 intro pins s σ H Q I h
 rw[evalPart_none]
 exact wpAny_pure ⟨none,H,I,.none,h⟩
theorem Zl (h:PE X e te):PO X (some e) (nO te):=by
 intro pins s σ H Q I hw
 rw[evalPart_some]
 refine Bb (h pins s σ H _ I hw) fun u s1 ⟨x,H1,I1,r1,q1⟩=>?_
 obtain⟨i,rfl,q⟩:=q1
 obtain⟨t,rfl⟩:=r1
 exact⟨some i,H1,I1,.int i t,q⟩
def tZ (X:Cx) (r:V->Option Int->Option Int->Hp->VK->Prop):Prop :=
 ∀(pins:List (Addr×Obj)) (s:Shared) (σ:St) (H:Hp) (x:V) (v vl vu:Value) (lo hi:Option Int) (sl:Addr) (Q:VK),Inv X pins σ H s->RelV x v->s.heap.IsSliceOf sl vl vu .none->IsPart vl lo->IsPart vu hi->r x lo hi H Q->
  ∃ T id,typeLookup (.type T) "__getitem__" = pure (some (.builtin id))/\s.TypeIs v T/\wpAny (model X.prog X.w) X.A (getItem v (.ref sl)) (EP X pins σ Q) X.xe s
def vD (r:V->Option Int->Option Int->Hp->VK->Prop) (te:TE) (tl th:TO):TE:=fun σ H Q=>te σ H fun x H1=>tl σ H1 fun l H2=>th σ H2 fun u H3=>r x l u H3 Q
theorem X1 {r:V->Option Int->Option Int->Hp->VK->Prop}(hr:tZ X r) (he:PE X e te) (hl:PO X lo tl) (hu:PO X hi th):PE X (.Subscript e (.Slice lo hi none p2) pos) (vD r te tl th):=by
 intro pins s σ H Q I h
 refine Subscript_ (Bb (he pins s σ H _ I h) fun v s1 ⟨x,H1,I1,r1,q1⟩=>?_)
 refine wpAny_Slice (Bb (hl pins s1 σ H1 _ I1 q1) fun vl s2 ⟨l,H2,I2,pl,q2⟩=>Bb (hu pins s2 σ H2 _ I2 q2) fun vu s3 ⟨u,H3,I3,pu,q3⟩=>?_)
 rw[evalPart_none]
 refine wpAny_pure ?_
 have I4:Inv X pins σ H3 { s3 with heap:=s3.heap.push { cls:=.type "slice",data:=.fields #[vl,vu,.none] } }:=I3.kept (t':=s3.toks) fun b ob q=>zp _ q
 obtain⟨T,id,hT,ht,hg⟩:=hr pins { s3 with heap:=s3.heap.push { cls:=.type "slice",data:=.fields #[vl,vu,.none] } } σ H3 x v vl vu l u s3.heap.objs.size Q I4 r1 (Heap.IsSliceOf.new ..) pl pu q3
 show wpAny (model X.prog X.w) X.A (subscriptTail e (.Slice lo hi none p2) v (.ref s3.heap.objs.size)) (EP X pins σ Q) X.xe { s3 with heap:=s3.heap.push { cls:=.type "slice",data:=.fields #[vl,vu,.none] } }
 exact tail_any (ops:=[.ref s3.heap.objs.size,v]) ht hT hg (by with_unfolding_all rfl)
def X2 (xs:List V) (lo hi:Option Int):List V:=(xs.drop (HT.Mh xs.length 0 lo)).take (HT.Mh xs.length xs.length hi - HT.Mh xs.length 0 lo)
theorem QI (xs:List V) (lo hi:Option Int):(X2 xs lo hi).length<=xs.length:=by
 unfold X2
 rw[yt,List.length_drop]
 omega
def nQ (K:za):R2:=fun x y H Q=>∃ a b ns ms,x=.ref a/\y=.ref b/\Fn K H a (ns.map V.int)/\Fn K H b (ms.map V.int)/\Q (.bl (HT.lexLt ns ms)) H
theorem X3 (hu:X.A.units < cLine):Gn X (compareOp .Lt) (nQ X.K):=by
 intro pins s σ H x y v u Q I rx ry h
 obtain⟨a,b,ns,ms,rfl,rfl,ha,hb,q⟩:=h
 cases rx
 cases ry
 obtain⟨aa,r1,p1,_⟩:=I.tuple ha
 obtain⟨ba,r2,p2,_⟩:=I.tuple hb
 have i1:IntsAre aa.toArray.toList ns:=intsAre_of r1
 have i2:IntsAre ba.toArray.toList ms:=intsAre_of r2
 exact HT.Ik p1 p2 i1 i2 hu ⟨.bl (HT.lexLt ns ms),H,I,rfl,q⟩
end
def Og (n:Nat) (i:Int):Option Nat:=if 0<=i then (if i < n then some i.toNat else none) else if -(n:Int)<=i then some (i + n).toNat else none
def QJ {α:Type}(xs:List α) (i:Int):Option α:=(Og xs.length i).bind fun j=>xs[j]?
theorem U2 {n:Nat}{i:Int}{j:Nat}(h:Og n i=some j):seqIndex? i n=some j/\j < n/\-(n:Int)<=i/\i < n:=by
 unfold Og at h
 by_cases h0:0<=i
 ·rw[if_pos h0] at h
  by_cases h1:i < n
  ·rw[if_pos h1] at h
   have e:i.toNat=j:=zM h
   exact⟨by rw[seqIndex_of h0 h1,e],by omega,by omega,h1⟩
  ·rw[if_neg h1] at h;cases h
 ·rw[if_neg h0] at h
  by_cases h1 : -(n:Int)<=i
  ·rw[if_pos h1] at h
   have e:(i + n).toNat=j:=zM h
   exact⟨by rw[seqIndex_neg (by omega) h1,e],by omega,h1,by omega⟩
  ·rw[if_neg h1] at h;cases h
theorem U3 {α:Type}{xs:List α}{i:Int}{v:α}(h:QJ xs i=some v):∃ j,seqIndex? i xs.length=some j/\xs[j]? =some v/\j < xs.length/\-(xs.length:Int)<=i/\i < xs.length:=by
 unfold QJ at h
 cases e:Og xs.length i with
 |none=>rw[e] at h;cases h
 |some j =>
  rw[e] at h
  obtain⟨h1,h2,h3,h4⟩:=U2 e
  exact⟨j,h1,h,h2,h3,h4⟩
def Hg (b:Expr):Prop:=∀ o i,subscripted b false o i=operate [o,i] (getItem o i)
def Zm (X:Cx) (r:R2):Prop :=
 ∀(value slice:Expr) (pins:List (Addr×Obj)) (s:Shared) (σ:St) (H:Hp) (x y:V) (v u:Value) (Q:VK),Inv X pins σ H s->RelV x v->RelV y u->r x y H Q->
  subscripted slice false v u=operate [v,u] (getItem v u)->wpAny (model X.prog X.w) X.A (subscriptTail value slice v u) (EP X pins σ Q) X.xe s
def uA (X:Cx) (id:String) (r:V->List V->Hp->VK->Prop):Prop :=
 ∀(pins:List (Addr×Obj)) (s:Shared) (σ:St) (H:Hp) (x:V) (xs:List V) (v:Value) (us:List Value) (Q:VK),Inv X pins σ H s->RelV x v->Vals xs us->r x xs H Q->
  wpAny (model X.prog X.w) X.A (call (.builtin id) (v::us)) (EP X pins σ Q) X.xe s
section
variable {X:Cx}{a b:Expr}{ta tb:TE}{pos:Pos}
theorem Zm.or {r r':R2}(h:Zm X r) (h':Zm X r'):Zm X (fun x y H Q=>r x y H Q\/r' x y H Q):=by
 intro value slice pins s σ H x y v u Q I rx ry q hs
 rcases q with q|q
 ·exact h value slice pins s σ H x y v u Q I rx ry q hs
 ·exact h' value slice pins s σ H x y v u Q I rx ry q hs
theorem U4 {r:R2}(hr:Zm X r) (ha:PE X a ta) (hb:PE X b tb) (hs:Hg b):PE X (.Subscript a b pos) (mD r ta tb):=by
 intro pins s σ H Q I h
 exact Subscript_ (iP ha hb I h fun v u s2 x y H2 I2 rx ry q=>hr a b pins s2 σ H2 x y v u Q I2 rx ry q (hs _ _))
def jD (K:za):R2:=fun x y H Q=>∃ p xs i v,x=.ref p/\y=.int i/\Dt K H p xs/\QJ xs i=some v/\Q v H
def jE (K:za):R2:=fun x y H Q=>∃ p xs i v,x=.ref p/\y=.int i/\Fn K H p xs/\QJ xs i=some v/\Q v H
theorem Lx:Zm X (jD X.K):=by
 intro value slice pins s σ H x y v u Q I rx ry h hs
 obtain⟨p,xs,i,z,rfl,rfl,hq,he,q⟩:=h
 cases rx
 obtain⟨t,rfl⟩:=ry
 obtain⟨aa,r,pl,hz⟩:=I.list hq
 obtain⟨j,h1,h2,h3,h4,h5⟩:=U3 he
 obtain⟨w,ew,bz⟩:=r.get h2
 have hl:=r.length
 have hn:=Kg
 have fin:EP X pins σ Q w s:=⟨z,H,I,bz,q⟩
 by_cases h0:0<=i
 ·have hj:i.toNat=j:=by
   rw[seqIndex_of h0 h5] at h1
   exact zM h1
  exact item_listR pl.isList h0 (by omega) (by rw[hj];simpa using ew) fin hs
 ·have hj:(i + (aa.toArray.size:Int)).toNat=j:=by
   rw[seqIndex_neg (by omega) h4] at h1
   rw[zh,<-hl]
   exact zM h1
  exact subscriptTail_builtinR (x:=w) pl.isList.typeIs slot_list_getitem.lookup
   (wpAny_getItem_list_neg (Q:=fun r s'=>r=w/\EP X pins σ Q r s') pl.isList (by omega) (by rw[zh]<;>omega) (by omega) (by rw[hj];simpa using ew) ⟨rfl,fin⟩) hs
theorem jF:Zm X (jE X.K):=by
 intro value slice pins s σ H x y v u Q I rx ry h hs
 obtain⟨p,xs,i,z,rfl,rfl,hq,he,q⟩:=h
 cases rx
 obtain⟨t,rfl⟩:=ry
 obtain⟨aa,r,pl,hz⟩:=I.tuple hq
 obtain⟨j,h1,h2,h3,h4,h5⟩:=U3 he
 obtain⟨w,ew,bz⟩:=r.get h2
 have hl:=r.length
 have hn:=Kg
 have fin:EP X pins σ Q w s:=⟨z,H,I,bz,q⟩
 exact subscriptTail_builtinR (x:=w) pl.typeIs slot_tuple_getitem.lookup
  (getItem_tuple (j:=j) (Q:=fun r s'=>r=w/\EP X pins σ Q r s') pl (by omega) (by omega) (by rw[zh,<-hl];exact h1) (by simpa using ew) ⟨rfl,fin⟩) hs
theorem Sz (aa:List Value) (n j:Nat) (u:Value):yF (·.setIfInBounds j u) { cls:=.type "list",data:=.seq aa.toArray n }={ cls:=.type "list",data:=.seq (aa.set j u).toArray n }:=by
 simp[yF]
theorem Inv.lst {pins:List (Addr×Obj)}{σ:St}{H:Hp}{s:Shared}{p:Addr}{xs:List V}(I:Inv X pins σ H s) (h:H p=some (.lst xs)) :
 ∃(aa:List Value) (n:Nat),Vals xs aa/\s.heap.get? p=some { cls:=.type "list",data:=.seq aa.toArray n }/\xs.length<=sizeLine:=by
 obtain⟨z,aa,n,r,e⟩:=I.Au p _ h
 exact⟨aa,n,r,e,z⟩
theorem Inv.jG {pins:List (Addr×Obj)}{σ:St}{H:Hp}{s:Shared}{p:Addr}{xs ys:List V}{aa its':List Value}{n n':Nat}{f:Obj->Obj}(I:Inv X pins σ H s) (h:H p=some (.lst xs))
 (ho:s.heap.get? p=some { cls:=.type "list",data:=.seq aa.toArray n }) (hf:f { cls:=.type "list",data:=.seq aa.toArray n }={ cls:=.type "list",data:=.seq its'.toArray n' }) (r:Vals ys its') (hz:ys.length<=sizeLine) (t:Nat) :
 Inv X pins σ (upd H p (.lst ys)) { s with heap:=s.heap.update p f,toks:=t }:=by
 have e:(s.heap.update p f).get? p=some { cls:=.type "list",data:=.seq its'.toArray n' }:=by
  rw[Heap.get?_update_self f ho (by rw[hf]<;>rfl),hf]
 refine I.write (x:=p) (e:=p) (by rw[h];trivial) (.inl rfl) (fun b u hb q=>(yU _ _ (zU hb)).trans q) ⟨_,e⟩ ?_
 exact⟨hz,its',n',r,e⟩
def nR:V->V->V->Hp->(Hp->Prop)->Prop:=fun o i v H Q=>∃ p xs k j,o=.ref p/\i=.int k/\H p=some (.lst xs)/\Og xs.length k=some j/\Q (upd H p (.lst (xs.set j v)))
theorem set_list:mX X nR:=by
 intro pins s σ H o i v ov iv u Q I ro ri rv h
 obtain⟨p,xs,k,j,rfl,rfl,hp,hj,q⟩:=h
 cases ro
 obtain⟨t,rfl⟩:=ri
 obtain⟨aa,n,r,ho,hz⟩:=I.lst hp
 obtain⟨h1,h2,h3,h4⟩:=U2 hj
 have hl:=r.length
 have hn:=Kg
 have I':Inv X pins σ (upd H p (.lst (xs.set j v))) { s with heap:=s.heap.update p (yF (·.setIfInBounds j u)) } :=
  I.jG hp ho (Sz aa n j u) (r.set rv j) (by rw[yl];exact hz) s.toks
 by_cases h0:0<=k
 ·have hk:k.toNat=j:=by
   rw[seqIndex_of h0 h4] at h1
   exact zM h1
  exact PySem.W.ki_setAt ho h0 (by omega) (by rw[zh,<-hl];exact h4) (by rw[hk];exact⟨_,I',q⟩)
 ·have hk:(k + (aa.toArray.size:Int)).toNat=j:=by
   rw[seqIndex_neg (by omega) h3] at h1
   rw[zh,<-hl]
   exact zM h1
  exact PySem.W.ki_setBack ho (by omega) (by rw[zh,<-hl];exact h3) (by omega) (by rw[hk];exact⟨_,I',q⟩)
theorem Pg (lo hi:Option Int) (n:Nat):(sliceBounds lo hi none n).1=((HT.Mh n 0 lo:Nat):Int)/\(sliceBounds lo hi none n).2.1=((HT.Mh n n hi:Nat):Int)/\(sliceBounds lo hi none n).2.2=1:=by
 refine⟨?_,?_,rfl⟩
 ·cases lo with
  |none=>simp[sliceBounds,HT.Mh]
  |some i =>
   simp only[sliceBounds,HT.Mh,Option.getD_none,show (1:Int) > 0 by decide,if_true]
   by_cases h:i < 0
   ·simp only[h,if_true]<;>omega
   ·simp only[h,if_false]<;>omega
 ·cases hi with
  |none=>simp[sliceBounds,HT.Mh]
  |some i =>
   simp only[sliceBounds,HT.Mh,Option.getD_none,show (1:Int) > 0 by decide,if_true]
   by_cases h:i < 0
   ·simp only[h,if_true]<;>omega
   ·simp only[h,if_false]<;>omega
theorem NM (aa:List Value) (lo hi:Option Int):slicePick aa.toArray lo hi none=((aa.drop (HT.Mh aa.length 0 lo)).take (HT.Mh aa.length aa.length hi - HT.Mh aa.length 0 lo)).toArray:=by
 obtain⟨h1,h2,h3⟩:=Pg lo hi aa.toArray.size
 unfold slicePick
 rw[h1,h2,h3]
 simp only[sliceRange_one,pick_run,zh]<;>rfl
def rG (K:za):V->Option Int->Option Int->Hp->VK->Prop:=fun x lo hi H Q=>∃ a xs,x=.ref a/\Dt K H a xs/\∀ p,H p=none->Q (.ref p) (upd H p (.lst (X2 xs lo hi)))
theorem Zn:tZ X (rG X.K):=by
 intro pins s σ H x v vl vu lo hi sl Q I rx hs pl pu h
 obtain⟨a,xs,rfl,hx,q⟩:=h
 cases rx
 obtain⟨aa,r,ht,hz⟩:=I.list hx
 have hlen:=r.length
 refine⟨"list",_,slot_list_getitem.lookup,ht.isList.typeIs,?_⟩
 refine wpAny_getItem_list_slice ht.isList hs pl pu .none (by simp) ?_ (by rw[zh]<;>omega)
 rw[NM,<-hlen]
 refine⟨.ref s.heap.objs.size,_,I.laid (t':=s.toks) (o:=.lst (X2 xs lo hi)) (fun b ob q=>zp _ q) (zx _) ?_,rfl,q _ (I.Au.fresh (zx _))⟩
 exact⟨yo (QI xs lo hi) hz,_,0,(r.drop (HT.Mh xs.length 0 lo)).take (HT.Mh xs.length xs.length hi - HT.Mh xs.length 0 lo),zG _ rfl⟩
def IY:V->Bool
 | .Az=>true
 | .bl _=>true
 | .int _=>true
 | .str _=>true
 |_=>false
def fT:V->V->Bool
 | .Az,.Az=>true
 | .bl a,.bl b=>a == b
 | .bl a,.int b=>(if a then 1 else 0) == b
 | .int a,.bl b=>a == (if b then 1 else 0)
 | .int a,.int b=>a == b
 | .str a,.str b=>a == b
 |_,_=>false
theorem jH {A:Around}{s:Shared}{y x:V}{u v:Value}(ry:RelV y u) (rx:RelV x v) (fy:IY y=true) (fx:IY x=true):SeqAt.EqAt A s u v (fT y x):=by
 cases y with
 |Az =>
  cases ry
  cases x with
  |Az=>cases rx;exact SeqAt.EqAt.same _
  |bl b=>cases rx;exact SeqAt.EqAt.none_bool b
  |int b=>obtain⟨t,rfl⟩:=rx;exact SeqAt.EqAt.none_int b t
  |str b=>obtain⟨t,rfl⟩:=rx;exact SeqAt.EqAt.none_str b t
  |_=>exact absurd (show false=true from fx) zK
 |bl a =>
  cases ry
  cases x with
  |Az=>cases rx;exact SeqAt.EqAt.bool_none a
  |bl b=>cases rx;exact SeqAt.EqAt.bool_bool a b
  |int b=>obtain⟨t,rfl⟩:=rx;exact SeqAt.EqAt.bool_int a b t
  |str b=>obtain⟨t,rfl⟩:=rx;exact SeqAt.EqAt.bool_str a b t
  |_=>exact absurd (show false=true from fx) zK
 |int a =>
  obtain⟨t',rfl⟩:=ry
  cases x with
  |Az=>cases rx;exact SeqAt.EqAt.int_none a t'
  |bl b=>cases rx;exact SeqAt.EqAt.int_bool a t' b
  |int b=>obtain⟨t,rfl⟩:=rx;exact SeqAt.EqAt.int_int a t' b t
  |str b=>obtain⟨t,rfl⟩:=rx;exact SeqAt.EqAt.int_str a t' b t
  |_=>exact absurd (show false=true from fx) zK
 |str a =>
  obtain⟨t',rfl⟩:=ry
  cases x with
  |Az=>cases rx;exact SeqAt.EqAt.str_none a t'
  |bl b=>cases rx;exact SeqAt.EqAt.str_bool a t' b
  |int b=>obtain⟨t,rfl⟩:=rx;exact SeqAt.EqAt.str_int a t' b t
  |str b=>obtain⟨t,rfl⟩:=rx;exact SeqAt.EqAt.str_str a t' b t
  |_=>exact absurd (show false=true from fx) zK
 |_=>exact absurd (show false=true from fy) zK
def SA (x:V) (u:Value):Bool:=match u with
 | .none=>fT .Az x
 | .bool b=>fT (.bl b) x
 | .int i _=>fT (.int i) x
 | .str z _=>fT (.str z) x
 |_=>false
theorem X4 {x y:V}{u:Value}(r:RelV y u) (f:IY y=true):SA x u=fT y x:=by
 cases y with
 |Az=>cases r;rfl
 |bl b=>cases r;rfl
 |int i=>obtain⟨t,rfl⟩:=r;rfl
 |str z=>obtain⟨t,rfl⟩:=r;rfl
 |_=>exact absurd (show false=true from f) zK
theorem IZ {x:V}:∀ {xs:List V}{us:List Value},Vals xs us->xs.all IY=true->us.any (SA x)=xs.any fun y=>fT y x
 |_,_,.nil,_=>rfl
 |y::xs,u::us,.cons r t,f=>by
  rw[List.all_cons,zR] at f
  rw[yX,yX,X4 r f.1,IZ t f.2]
theorem Gr {A:Around}{s:Shared}{x:V}{v:Value}(rx:RelV x v) (fx:IY x=true):∀ {xs:List V}{us:List Value},Vals xs us->xs.all IY=true->∀ u∈us,SeqAt.EqAt A s u v (SA x u)
 |_,_,.nil,_=>fun u hu=>by cases hu
 |y::xs,u::us,.cons r t,f=>fun u' hu=>by
  rw[List.all_cons,zR] at f
  rcases zo.mp hu with rfl|hu
  ·rw[X4 r f.1];exact jH r rx f.1 fx
  ·exact Gr rx fx t f.2 u' hu
def pV (x:V) (xs:List V):Bool:=xs.any fun y=>fT y x
def pW (K:za) (neg:Bool):R2:=fun x y H Q=>∃ p xs,y=.ref p/\(Dt K H p xs\/Fn K H p xs)/\IY x=true/\xs.all IY=true/\Q (.bl (if neg then !pV x xs else pV x xs)) H
theorem Vm:Gn X (compareOp .In) (pW X.K false):=by
 intro pins s σ H x y v u Q I rx ry h
 obtain⟨p,xs,rfl,hq,fx,fs,q⟩:=h
 cases ry
 rcases hq with hq|hq
 ·obtain⟨aa,r,pl,hz⟩:=I.list hq
  refine SeqAt.in_listAt (SA x) pl.isList (fun w hw=>Gr rx fx r fs w (by simpa using hw)) ⟨.bl _,H,I,rfl,?_⟩
  rw[show aa.toArray.any (SA x)=aa.any (SA x) by simp,IZ r fs]
  exact q
 ·obtain⟨aa,r,pl,hz⟩:=I.tuple hq
  refine SeqAt.in_tupleAt (SA x) pl (fun w hw=>Gr rx fx r fs w (by simpa using hw)) ⟨.bl _,H,I,rfl,?_⟩
  rw[show aa.toArray.any (SA x)=aa.any (SA x) by simp,IZ r fs]
  exact q
theorem Ph:Gn X (compareOp .NotIn) (pW X.K true):=by
 intro pins s σ H x y v u Q I rx ry h
 obtain⟨p,xs,rfl,hq,fx,fs,q⟩:=h
 cases ry
 rcases hq with hq|hq
 ·obtain⟨aa,r,pl,hz⟩:=I.list hq
  refine SeqAt.notIn_listAt (SA x) pl.isList (fun w hw=>Gr rx fx r fs w (by simpa using hw)) ⟨.bl _,H,I,rfl,?_⟩
  rw[show aa.toArray.any (SA x)=aa.any (SA x) by simp,IZ r fs]
  exact q
 ·obtain⟨aa,r,pl,hz⟩:=I.tuple hq
  refine SeqAt.notIn_tupleAt (SA x) pl (fun w hw=>Gr rx fx r fs w (by simpa using hw)) ⟨.bl _,H,I,rfl,?_⟩
  rw[show aa.toArray.any (SA x)=aa.any (SA x) by simp,IZ r fs]
  exact q
theorem Pj:Gp X (.builtin "len") (fun xs H Q=>∃ p ys,xs=[.ref p]/\(Dt X.K H p ys\/Fn X.K H p ys)/\Q (.int ys.length) H):=by
 intro pins s σ H xs us Q I r h
 obtain⟨p,ys,rfl,hq,q⟩:=h
 obtain⟨u,rfl,rx⟩:=vals1 r
 cases rx
 have hn:=Kg
 rcases hq with hq|hq
 ·obtain⟨aa,r',pl,hz⟩:=I.list hq
  have hlen:=r'.length
  exact Calls.call_len_list pl.isList (by simp only[zh]<;>omega) ⟨.int ys.length,H,I.tok _,⟨s.toks + 1,by rw[zh,hlen]⟩,q⟩
 ·obtain⟨aa,r',pl,hz⟩:=I.tuple hq
  have hlen:=r'.length
  exact len_tuple pl (by simp only[zh]<;>omega) ⟨.int ys.length,H,I.tok _,⟨s.toks + 1,by rw[zh,hlen]⟩,q⟩
theorem Pk:Gp X (.type "list") (fun xs H Q=>∃ p ys,xs=[.ref p]/\(Dt X.K H p ys\/Fn X.K H p ys)/\∀ l,H l=none->Q (.ref l) (upd H l (.lst ys))):=by
 intro pins s σ H xs us Q I r h
 obtain⟨p,ys,rfl,hq,q⟩:=h
 obtain⟨u,rfl,rx⟩:=vals1 r
 cases rx
 have fin:∀(aa:List Value),Vals ys aa->ys.length<=sizeLine->∀(h':Heap) (c':Nat),(∀ b o',s.heap.get? b=some o'->h'.get? b=some o')->
  h'.get? s.heap.objs.size=some { cls:=.type "list",dict:=none,data:=.seq aa.toArray c',slots:=#[] }->EP X pins σ Q (.ref s.heap.objs.size) { s with heap:=h' }:=fun aa r' hz h' c' kp e =>
  ⟨.ref s.heap.objs.size,_,I.laid (t':=s.toks) kp (zx _) (show BB X.prog X.w _ h' _ (.lst ys) from ⟨hz,aa,c',r',e⟩),rfl,q _ (I.Au.fresh (zx _))⟩
 rcases hq with hq|hq
 ·obtain⟨aa,r',pl,hz⟩:=I.list hq
  have hlen:=r'.length
  obtain⟨o,ho,hc,n,hd⟩:=pl.isList
  exact call_list_seq p (.inl rfl) ho hc hd (fun h' c' kp e=>fin aa r' hz h' c' kp e) (by simp only[zh]<;>omega)
 ·obtain⟨aa,r',pl,hz⟩:=I.tuple hq
  have hlen:=r'.length
  obtain⟨o,ho,hc,n,hd⟩:=pl
  exact call_list_seq p (.inr rfl) ho hc hd (fun h' c' kp e=>fin aa r' hz h' c' kp e) (by simp only[zh]<;>omega)
theorem NO:Gp X (.type "tuple") (fun xs H Q=>∃ p ys,xs=[.ref p]/\((Dt X.K H p ys/\∀ l,H l=none->Q (.ref l) (upd H l (.tup ys)))\/(Fn X.K H p ys/\Q (.ref p) H))):=by
 intro pins s σ H xs us Q I r h
 obtain⟨p,ys,rfl,h⟩:=h
 obtain⟨u,rfl,rx⟩:=vals1 r
 cases rx
 rcases h with ⟨hq,q⟩|⟨hq,q⟩
 ·obtain⟨aa,r',pl,hz⟩:=I.list hq
  have hlen:=r'.length
  refine call_tuple_list pl.isList (fun h' kp=>?_) (by simp only[zh]<;>omega)
  have I1:Inv X pins σ H { s with heap:=h' }:=I.kept (t':=s.toks) kp
  have I2:Inv X pins σ (upd H h'.objs.size (.tup ys)) { s with heap:=h'.push { cls:=.type "tuple",data:=.seq aa.toArray } } :=
   I1.laid (t':=s.toks) (fun b o e=>zp _ e) (zx _) (show BB X.prog X.w _ _ _ (.tup ys) from ⟨hz,aa,r',IsTup.new _ _⟩)
  exact⟨.ref h'.objs.size,_,I2,rfl,q _ (I1.Au.fresh (zx _))⟩
 ·obtain⟨aa,r',pl,hz⟩:=I.tuple hq
  exact call_tuple_same pl ⟨.ref p,H,I,rfl,q⟩
def rH (K:za) (T:String) (x:V) (H:Hp):Prop:=match x with
 | .str _=>T = "str"
 | .int _=>T = "int"
 | .ref p=>(T = "list" /\ ∃ xs,Dt K H p xs)\/(T = "tuple" /\ ∃ o,K.lookup p=some o/\o.cls=.type "tuple" /\ o.dict=none) \/
  (T = "dict" /\ ((∃ kvs,H p=some (.dK kvs))\/∃ kvs,H p=some (.dT kvs)))\/(T = "set" /\ ∃ S n,H p=some (.set S n))
 |_=>False
theorem X5 {pins:List (Addr×Obj)}{σ:St}{H:Hp}{s:Shared}{T:String}{x:V}{v:Value}(I:Inv X pins σ H s) (r:RelV x v) (ty:rH X.K T x H) :
 s.TypeIs v T/\∀ a,v=.ref a->∃ ob,s.heap.get? a=some ob/\ob.dict=none:=by
 cases x with
 |str z =>
  obtain⟨t,rfl⟩:=r
  cases (show T = "str" from ty)
  exact⟨typeIs_str s z t,fun _ e=>nomatch e⟩
 |int i =>
  obtain⟨t,rfl⟩:=r
  cases (show T = "int" from ty)
  exact⟨typeIs_int s i t,fun _ e=>nomatch e⟩
 |ref p =>
  cases r
  rcases ty with ⟨rfl,xs,hq⟩|⟨rfl,o,hk,hc,hd⟩|⟨rfl,hk⟩|⟨rfl,S,n,hk⟩
  ·obtain⟨aa,_,pl,_⟩:=I.list hq
   refine⟨pl.isList.typeIs,fun a e=>?_⟩
   cases e
   obtain⟨o,n,e,c,hd,_⟩:=pl
   exact⟨o,e,hd⟩
  ·refine⟨⟨o,I.NG p o hk,hc⟩,fun a e=>?_⟩
   cases e
   exact⟨o,I.NG _ o hk,hd⟩
  ·have z:∃ o,s.heap.get? p=some o/\o.ExactDict:=by
    rcases hk with ⟨kvs,hk⟩|⟨kvs,hk⟩
    ·obtain⟨_,_,_,_,o,_,_,e,ex,_⟩:=I.Au p _ hk
     exact⟨o,e,ex⟩
    ·obtain⟨_,_,_,_,o,_,_,e,ex,_⟩:=I.Au p _ hk
     exact⟨o,e,ex⟩
   obtain⟨o,e,ex⟩:=z
   refine⟨⟨o,e,ex.1⟩,fun a e2=>?_⟩
   cases e2
   exact⟨o,e,ex.2.1⟩
  ·obtain⟨o,_,_,_,e,ex,_⟩:=I.Au p _ hk
   refine⟨⟨o,e,ex.1⟩,fun a e2=>?_⟩
   cases e2
   exact⟨o,e,ex.2.1⟩
 |_=>exact yC ty
def rJ (K:za) (T:String) (r:V->List V->Hp->VK->Prop) (to:TE):TE:=fun σ H Q=>to σ H fun x H1=>rH K T x H1/\r x [] H1 Q
def vE (K:za) (T:String) (r:V->List V->Hp->VK->Prop) (to:TE) (t:TA):TE:=fun σ H Q=>to σ H fun x H1=>rH K T x H1/\t σ H1 fun xs H2=>r x xs H2 Q
variable {o e:Expr}{es:List Expr}{to:TE}{t:TA}{name:Str}{apos ac:Pos}{T id:String}{r:V->List V->Hp->VK->Prop}
theorem jI (pa:PlainAttrs T) (slot:Slot T name id) (i4:typeOf (.builtin id)=pure (.type "method_descriptor")) (hm:uA X id r) (ho:PE X o to)
 (av:attributeBase o name X.env (eval o X.env)=eval o X.env:=by rfl) (aw:(apos.endLine == ac.line)=true:=by rfl):PE X (.Call (.Attribute o name apos) [] [] ac) (rJ X.K T r to):=by
 intro pins s σ H Q I h
 refine wpAny_Call_method0_late av aw (Bb (ho pins s σ H _ I h) fun v s1 ⟨x,H1,I1,r1,ty,q1⟩=>?_)
 obtain⟨h1,h2⟩:=X5 I1 r1 ty
 exact⟨T,id,pa,slot,i4,h1,h2,Calls.callWith_builtin rfl (PySem.evalArgs_none (hm pins s1 σ H1 x [] v [] Q I1 r1 .nil q1))⟩
theorem QK (pa:PlainAttrs T) (slot:Slot T name id) (i4:typeOf (.builtin id)=pure (.type "method_descriptor")) (hm:uA X id r) (ho:PE X o to) (ha:PA X (e::es) t)
 (av:attributeBase o name X.env (eval o X.env)=eval o X.env:=by rfl)
 (aV:((backTo ac (starEach (e::es) X.env)).all (fun x => !x.1) && (backToKw ac (keywordEach [] X.env)).all (fun x=>x.1.isSome)
  && decide ((e::es).length + ([]:List Keyword).length + (if ([]:List Keyword).isEmpty then 0 else 1) < 30))=true:=by rfl)
 (aw:(apos.endLine == ac.line)=true:=by rfl) (hs:starEach (e::es) X.env=(false,eval e X.env)::starEach es X.env:=by rfl) (ar:(backTo ac (starEach es X.env)).any (·.1)=false:=by rfl) :
 PE X (.Call (.Attribute o name apos) (e::es) [] ac) (vE X.K T r to t):=by
 intro pins s σ H Q I h
 refine wpAny_Call_method_late av aV aw rfl (Bb (ho pins s σ H _ I h) fun v s1 ⟨x,H1,I1,r1,ty,q1⟩=>?_)
 obtain⟨h1,h2⟩:=X5 I1 r1 ty
 refine⟨T,id,pa,slot,i4,h1,h2,?_⟩
 have hA:=ha ac pins s1 σ H1 _ I1 q1
 rw[hs] at hA ⊢
 refine Calls.callWith_builtin (by show (false || (backTo ac (starEach es X.env)).any (·.1))=false;rw[ar]<;>rfl) (Calls.evalArgs_plain ?_)
 exact Bb hA fun us s2 ⟨vs,H2,I2,r2,q2⟩=>hm pins s2 σ H2 x vs v us Q I2 r1 r2 q2
end
def jJ (X:Cx) (id:String) (r:V->List V->Hp->VK->Prop):Prop :=
 ∀(pins:List (Addr×Obj)) (s:Shared) (σ:St) (H:Hp) (x:V) (xs:List V) (v:Value) (us:List Value) (Q:VK),Inv X pins σ H s->RelV x v->Vals xs us->r x xs H Q->
  wpAny (model X.prog X.w) X.A (call (.builtin id) (v::us)) (EP X pins σ Q) X.xe s
theorem Vals.one:∀ {x:V}{us:List Value},Vals [x] us->∃ u,us=[u]/\RelV x u
 |_,_,.cons r .nil=>⟨_,rfl,r⟩
theorem Vals.two:∀ {x y:V}{us:List Value},Vals [x,y] us->∃ u v,us=[u,v]/\RelV x u/\RelV y v
 |_,_,_,.cons r (.cons q .nil)=>⟨_,_,rfl,r,q⟩
theorem Vals.zero:∀ {us:List Value},Vals [] us->us=[]
 |_,.nil=>rfl
theorem Vals.dropLast {xs:List V}{us:List Value}(h:Vals xs us):Vals xs.dropLast us.dropLast:=by
 induction h with
 |nil=>exact .nil
 |cons r t ih =>
  cases t with
  |nil=>exact .nil
  |cons q t'=>exact .cons r ih
theorem Vals.eraseIdx:∀ {xs:List V}{us:List Value}(i:Nat),Vals xs us->Vals (xs.eraseIdx i) (us.eraseIdx i)
 |_,_,_,.nil=>.nil
 |_,_,0,.cons _ t=>t
 |_,_,i + 1,.cons r t=>.cons r (Vals.eraseIdx i t)
theorem Vals.rep {xs:List V}{us:List Value}(h:Vals xs us):∀ k:Nat,Vals (zt k xs).flatten (zt k us).flatten
 |0=>.nil
 |k + 1=>by
  rw[y6,y6,List.flatten_cons,List.flatten_cons]
  exact Vals.append h (Vals.rep h k)
theorem SD {α:Type}(l:List α):l.eraseIdx (l.length - 1)=l.dropLast:=by
 induction l with
 |nil=>rfl
 |cons a r ih =>
  cases r with
  |nil=>rfl
  |cons b r =>
   have e:(a::b::r).length - 1=((b::r).length - 1) + 1:=by
    have h1:(a::b::r).length=r.length + 2:=rfl
    have h2:(b::r).length=r.length + 1:=rfl
    omega
   rw[e,List.eraseIdx_cons_succ,ih]
   all_goals rfl
theorem foldl_rep (aa:List Value):∀(k:Nat) (acc:List Value),
 List.foldl (fun x1 x2=>x1++x2) acc.toArray (zt k aa.toArray)=(acc++(zt k aa).flatten).toArray
 |0,acc=>by simp
 |k + 1,acc=>by
  have e:acc.toArray++aa.toArray=(acc++aa).toArray:=by simp
  have e2:(acc++aa)++(zt k aa).flatten=acc++(zt (k + 1) aa).flatten:=by
   rw[y6,List.flatten_cons,yN]
  rw[<-e2,<-foldl_rep aa k (acc++aa),<-e,y6,zS]
section
variable {X:Cx}{pins:List (Addr×Obj)}{σ:St}{H:Hp}{s:Shared}{l b:Addr}{xs ys zs:List V}
theorem Inv.Vn {aa its':List Value}{n:Nat}{f:Array Value->Array Value}{t':Nat}(I:Inv X pins σ H s) (hH:H l=some (.lst xs))
 (e:s.heap.get? l=some { cls:=.type "list",data:=.seq aa.toArray n }) (hf:f aa.toArray=its'.toArray) (hv:Vals ys its') (hz:ys.length<=sizeLine) :
 Inv X pins σ (upd H l (.lst ys)) { s with heap:=s.heap.update l (yF f),toks:=t' }:=by
 have q:=PySem.IsL.update e f
 rw[hf] at q
 refine I.write (x:=l) (e:=l) (by rw[hH];exact trivial) (.inl rfl) (fun b' u hb hu=>(yU s.heap (yF f) (zU hb)).trans hu) ⟨_,q⟩ ?_
 exact⟨hz,its',_,hv,q⟩
theorem Inv.nS {aa:List Value}{t':Nat}(I:Inv X pins σ H s) (hv:Vals ys aa) (hz:ys.length<=sizeLine) :
 Inv X pins σ (upd H s.heap.objs.size (.lst ys)) { s with heap:=s.heap.push { cls:=.type "list",data:=.seq aa.toArray },toks:=t' } :=
 I.laid (fun _ _ q=>zp _ q) (zx _) ⟨hz,aa,0,hv,zG _ rfl⟩
theorem Inv.fresh (I:Inv X pins σ H s):H s.heap.objs.size=none:=I.Au.fresh (zx _)
theorem Inv.QL (I:Inv X pins σ H s) (hH:H l=some (.lst xs)):xs.length<=sizeLine/\∃(aa:List Value) (n:Nat),Vals xs aa/\xs.length=aa.length/\s.heap.get? l=some { cls:=.type "list",data:=.seq aa.toArray n }:=by
 obtain⟨z,aa,n,r,e⟩:=I.Au l _ hH
 exact⟨z,aa,n,r,r.length,e⟩
theorem QM {n:Nat}(h:n<=sizeLine):Builtin.List.listTooLong n=false:=by
 unfold Builtin.List.listTooLong
 exact decide_eq_false (by omega)
end
section
variable {X:Cx}
def Zo:V->List V->Hp->VK->Prop:=fun x vs H Q=>∃ l xs y,x=.ref l/\vs=[y]/\H l=some (.lst xs)/\xs.length < sizeLine/\Q .Az (upd H l (.lst (xs++[y])))
theorem Oh:jJ X "list.append" Zo:=by
 intro pins s σ H x vs v us Q I rx rv h
 obtain⟨l,xs,y,rfl,rfl,hH,hz,q⟩:=h
 cases rx
 obtain⟨u,rfl,ru⟩:=rv.one
 obtain⟨z,aa,n,r,hl,e⟩:=I.QL hH
 refine call_meets F.slot_list_append ⟨_,e,rfl⟩ F.entry_list_append (F.args_list_append_2 _ _) (PySem.list_append l aa.toArray n u (by rw[zh];omega)) ⟨e,?_⟩
 refine⟨.Az,_,I.Vn (its':=aa++[u]) hH e (by simp) (r.append (.cons ru .nil)) ?_,rfl,q⟩
 rw[zJ,y8]
 omega
def Zp:V->List V->Hp->VK->Prop:=fun x vs H Q=>∃ l b xs zs,x=.ref l/\vs=[.ref b]/\H l=some (.lst xs)/\H b=some (.lst zs)/\xs.length + zs.length<=sizeLine/\Q .Az (upd H l (.lst (xs++zs)))
theorem Vo:jJ X "list.extend" Zp:=by
 intro pins s σ H x vs v us Q I rx rv h
 obtain⟨l,b,xs,zs,rfl,rfl,hH,hB,hz,q⟩:=h
 cases rx
 obtain⟨u,rfl,ru⟩:=rv.one
 cases ru
 obtain⟨z,aa,n,r,hl,e⟩:=I.QL hH
 obtain⟨z2,ba,n2,r2,aZ,e2⟩:=I.QL hB
 have hsz:aa.toArray.size + ba.toArray.size<=sizeLine:=by rw[zh,zh];omega
 have cm:¬ (!aa.toArray.isEmpty && Builtin.List.listTooLong (aa.toArray.size + ba.toArray.size))=true:=by
  rw[QM hsz,Bool.and_false]
  exact zK
 refine call_meets F.slot_list_extend ⟨_,e,rfl⟩ F.entry_list_extend (F.args_list_extend_2 _ _)
  (AutoSeq1.list_extend_list_list_0 l aa.toArray n b ba.toArray n2 cm (by rw[zh];omega) (by omega)) ⟨e,e2,?_⟩
 refine⟨.Az,_,I.Vn (its':=aa++ba) hH e (by simp) (r.append r2) ?_,rfl,q⟩
 rw[zJ]
 omega
def rK:V->List V->Hp->VK->Prop:=fun x vs H Q=>∃ l xs y,x=.ref l/\vs=[]/\H l=some (.lst xs)/\xs[xs.length - 1]? =some y/\Q y (upd H l (.lst xs.dropLast))
theorem rL:jJ X "list.pop" rK:=by
 intro pins s σ H x vs v us Q I rx rv h
 obtain⟨l,xs,y,rfl,rfl,hH,hy,q⟩:=h
 cases rx
 have m6:=rv.zero
 subst m6
 obtain⟨z,aa,n,r,hl,e⟩:=I.QL hH
 obtain⟨u,hu,ru⟩:=r.get hy
 have vn:aa.toArray[aa.toArray.size - 1]? =some u:=by
  show aa.toArray[aa.length - 1]? =some u
  rw[<-Array.getElem?_toList,<-hl]
  exact hu
 refine call_meets F.slot_list_pop ⟨_,e,rfl⟩ F.entry_list_pop (F.args_list_pop_1 _) (MeetsSeq.list_pop_last l aa.toArray n u vn (by rw[zh];omega)) ⟨e,?_⟩
 refine⟨y,_,I.Vn (its':=aa.dropLast) hH e ?_ r.dropLast ?_,ru,q⟩
 ·show aa.toArray.eraseIdxIfInBounds (aa.toArray.size - 1)=aa.dropLast.toArray
  rw[zh,List.eraseIdxIfInBounds_toArray,SD]
 ·rw[List.length_dropLast]
  omega
def jK:V->List V->Hp->VK->Prop:=fun x vs H Q=>∃ l xs,x=.ref l/\vs=[]/\H l=some (.lst xs)/\Q .Az (upd H l (.lst []))
theorem X6:jJ X "list.clear" jK:=by
 intro pins s σ H x vs v us Q I rx rv h
 obtain⟨l,xs,rfl,rfl,hH,q⟩:=h
 cases rx
 have m6:=rv.zero
 subst m6
 obtain⟨z,aa,n,r,hl,e⟩:=I.QL hH
 refine call_meets F.slot_list_clear ⟨_,e,rfl⟩ F.entry_list_clear (F.args_list_clear_1 _) (AutoSeq1.list_clear_list_0 l aa.toArray n (by rw[zh];omega)) ⟨e,?_⟩
 exact⟨.Az,_,I.Vn (its':=[]) (ys:=[]) hH e rfl .nil (zP _),rfl,q⟩
def rM:R2:=fun x y H Q=>∃ l k xs,x=.ref l/\y=.int k/\H l=some (.lst xs)/\-(2 ^ 63)<=k/\k < 2 ^ 63/\xs.length * k.toNat<=sizeLine /\
 ∀ p,H p=none->Q (.ref p) (upd H p (.lst (zt k.toNat xs).flatten))
theorem len_rep {α:Type}(xs:List α) (k:Nat):(zt k xs).flatten.length=k * xs.length:=by
 induction k with
 |zero=>simp
 |succ k ih=>rw[y6,List.flatten_cons,zJ,ih,Nat.succ_mul,Nat.add_comm]
theorem jL:Gn X (binaryOp .Mult) rM:=by
 intro pins s σ H x y v u Q I rx ry h
 obtain⟨l,k,xs,rfl,rfl,hH,h1,h2,hz,q⟩:=h
 cases rx
 obtain⟨t,rfl⟩:=ry
 obtain⟨z,aa,n,r,hl,e⟩:=I.QL hH
 have hlen:aa.toArray.size * k.toNat<=sizeLine:=by rw[zh,<-hl];exact hz
 have m7:¬ aa.toArray.size * k.toNat > (2 ^ 63 - 1) / 8:=by
  have:(sizeLine:Nat)<=(2 ^ 63 - 1) / 8:=by decide
  omega
 have ez:¬ (!Builtin.List.listFitsIndex k)=true:=by
  rw[fitsIndex_both h1 h2]
  exact zK
 have cm:¬ Builtin.List.listTooLong (aa.toArray.size * k.toNat)=true:=by
  rw[QM hlen]
  exact zK
 have bc:List.foldl (fun x1 x2=>x1++x2) #[] (zt (if aa.toArray.isEmpty=true then 0 else k.toNat) aa.toArray)=(zt k.toNat aa).flatten.toArray:=by
  have f0:∀ m:Nat,List.foldl (fun x1 x2=>x1++x2) #[] (zt m aa.toArray)=(zt m aa).flatten.toArray:=fun m=>by
   have:=foldl_rep aa m []
   rw[List.nil_append] at this
   exact this
  rw[f0]
  cases aa with
  |nil=>simp
  |cons a r'=>rw[if_neg (by simp)]
 refine wpAny_binaryOp_repeat_ref (T := "list") (U := "int") (by decide) ⟨_,e,rfl⟩ (fun s'=>typeIs_int s' k t) noFill_list_mul F.fills_int_mul F.slot_int_rmul repeat_list F.slot_int_index.lookup
  (call_meets F.slot_int_rmul (typeIs_int s k t) F.entry_int_rmul (F.args_int_rmul_2 _ _) (int___rmul___int_list k t l aa.toArray n)
   ⟨e,rfl,⟨_,e,rfl⟩,call_meets F.slot_list_mul ⟨_,e,rfl⟩ F.entry_list_mul (F.args_list_mul_2 _ _) (AutoListH.list___mul___list_int_3 l aa.toArray n k t ez m7 cm) ⟨e,?_⟩⟩)
 rw[bc]
 exact⟨.ref _,_,I.nS (t':=s.toks) (r.rep k.toNat) (by rw[len_rep,Nat.mul_comm];exact hz),rfl,q _ I.fresh⟩
end
end L2
namespace ub
open PySem PySem.W PySem.Calls PyProof.Rows
theorem Ll {P:Params}{h:Heap}:∀(ns:List Int) (vs:List Value),WellAll P h vs (ns.map WData.int)->IntsAre vs ns:=by
 intro ns
 induction ns with
 |nil =>
  intro vs w
  rw[yM] at w
  cases w
  exact .nil
 |cons n ns ih =>
  intro vs w
  rw[zf] at w
  cases w with
  |cons a b =>
   cases a
   exact .cons _ _ (ih _ b)
theorem Vp {l:OpenLaw}{n:Nat}(hn:l.most=some n){P:Params}{h:Heap}{args:List WData}{vals:List Value}
 (cL:l.row.toRowW.claim.pre args=true) (m8:WellAll P h vals args) :
 ∃ a vs ns,vals=[zZ a]/\args=[WData.list (ns.map WData.int)]/\h.get? a=some { cls:=.type "list",data:=.seq vs.toArray }/\IntsAre vs ns/\ns.length<=n:=by
 have vo:WShape.hasAll [] args [.list .int]=true:=(pre_splitW cL).1
 have hc:l.pre.holds [] { args:=args }=true:=(pre_splitW cL).2
 obtain⟨d,r,rfl,h1,h2⟩:=hasAllW_cons vo
 obtain rfl:=hasAllW_nil h2
 obtain⟨xs,rfl,h3⟩:=hasW_list h1
 obtain⟨ns,rfl⟩:=items_int h3
 have hlen:ns.length<=n:=by
  unfold OpenLaw.pre at hc
  have h4:(WTm.not (.lt (.lit (.int (n:Int))) (.len (.arg 0)))).holds [] { args:=[.list (ns.map .int)] }=true:=by
   have h4:=(holds_andW hc).1
   rw[hn] at h4
   exact h4
  have h5:=condW_of h4 (w_not (w_lt w_lit (w_len_list (w_arg rfl))))
  rw[zc] at h5
  refine Nat.le_of_not_lt fun q=>?_
  have q':(n:Int) < ((ns.length:Nat):Int):=by omega
  first
   |(rw[decide_eq_true q'] at h5;exact absurd h5 (by decide))
   |(simp at h5;omega)
 cases m8 with
 |cons w1 w2 =>
  cases w2
  cases w1 with
  |list ho aF=>exact⟨_,_,ns,rfl,rfl,ho,Ll ns _ aF,hlen⟩
theorem Vq (l:OpenLaw) (args:List WData):l.row.toRowW.claim.post args (.bool true) args=true :=
 postW_of (r:=l.row.toRowW) (X:=(true == true))
  (show WShape.has [] (.bool true) .bool=true by first|rfl|decide|simp[WShape.has,WShape.arms,WShape.armsAll])
  (show (WTm.eq .res (.lit (.bool true))).value [] { args:=args,res:=some (.bool true),after:=args }=some (.bool (true == true)) from w_eq_bool (w_res rfl) w_lit) rfl
end ub
namespace L2
open PySem PySem.Spec PyProof.Rows
theorem Oi:∀ {vs:List Value}{ns:List Int},IntsAre vs ns->Vals (ns.map V.int) vs
 |_,_,.nil=>.nil
 |_,_,.cons n t h=>.cons ⟨t,rfl⟩ (Oi h)
def jM (H:Hp):Prop:=∀ b,H b=none\/∃ o xs,H b=some (.Vc o (.lst xs))
theorem X7 {P:Program}{w:World}{K:za}{mg mb:Str->Option Value}{CX:Vk}{k:Nat}{fa a:Addr}{fd:FuncData}{x:Str}{sp:Sp}{s₁:Shared}{vs:List Value}{ns:List Int}
 (KX:K.In s₁.heap) (i5:s₁.heap.Ns mainGlobals mg) (hb:s₁.heap.Ns builtinsNs mb) (vp:∀ x:Str,x ≠ "__name__" -> mb x=bootBuiltins x) (m9:s₁.heap.NoLimit) (hg:s₁.gens=#[])
 (ha:s₁.heap.get? a=some { cls:=.type "list",data:=.seq vs.toArray }) (hi:IntsAre vs ns) (hl:ns.length<=sizeLine) (hr:BI k callerA)
 (F:∀ base:Heap,K.In base->base.Ns mainGlobals mg->Dv P w K mg base CX k fa fd [x] sp) (i6:∀(s:Shared) (u:Value),BindsTo s fd ⟨[u],[]⟩ [(x,u)])
 (ck:∀ H:Hp,jM H->Dt K H a (ns.map V.int)->sp [.ref a] H (fun v _=>v=.bl true) fun _ _ _=>False)
 (na:∀ H e s',CX [] H s₁ (fun _ _ _=>False) e s'->False) :
 codeAny (model P w) callerA (.call (.ref fa) ⟨[.ref a],[]⟩) (fun r s'=>r=.ok (.ret (.bool true))/\OldK s₁.heap s'.heap/\s'.os=s₁.os/\AllBare s'.gens) s₁:=by
 have rv:=Oi hi
 have nc:=hi.length
 have core:∀ H:Hp,jM H->Dt K H a (ns.map V.int)->Fm P w H s₁.heap->(∀ b,H b≠none->b=a)->(H a≠none->K.lookup a=none)->
  codeAny (model P w) callerA (.call (.ref fa) ⟨[.ref a],[]⟩) (fun r s'=>r=.ok (.ret (.bool true))/\OldK s₁.heap s'.heap/\s'.os=s₁.os/\AllBare s'.gens) s₁:=by
  intro H hO hS Au hA hK
  have bP:∀ {b:Addr} {o:Obj},s₁.heap.get? b=some o->H b=none->(P9 s₁.heap H).get? b=some o:=fun e n=>Wy e n
  have iu:∀ {b:Addr} {o:Obj} {es:Array DictEntry} {ep:Nat},s₁.heap.get? b=some o->o.data=.dict es ep->H b=none:=fun {b o es ep} e d=>by
   cases q:H b with
   |none=>rfl
   |some u =>
    have e':b=a:=hA b (by rw[q];simp)
    subst e'
    rw[ha] at e;cases e
    have d':Data.seq vs.toArray _=Data.dict es ep:=d
    cases d'
  have li:∀ {b:Addr} {m:Str->Option Value},s₁.heap.Ns b m->(P9 s₁.heap H).Ns b m:=fun {b m} ⟨o,es,ep,e,d,r⟩=>⟨o,es,ep,bP e (iu e d),d,r⟩
  have uc:K.In (P9 s₁.heap H):=fun b o e=>bP (KX b o e) (by
   cases q:H b with
   |none=>rfl
   |some u =>
    have e':b=a:=hA b (by rw[q];simp)
    subst e'
    rw[hK (by rw[q];simp)] at e;cases e)
  have hM:Mod K mg (P9 s₁.heap H):=⟨uc,li i5,⟨mb,li hb,vp⟩,let ⟨mc,h1,h2⟩:=m9;⟨mc,li h1,h2⟩⟩
  have e0:Sx P w K mg (P9 s₁.heap H) callerA [] s₁ H:=⟨rfl,hM,fun b o e=>Z4 e,Nat.le_of_eq (Vd _ _),trivial,fun b hb=>absurd (show b∈([]:List Addr) from hb) (by simp),Au,.of_eq hg⟩
  refine codeAny_mono ((F _ uc (li i5)).run callerA [] s₁ H ⟨[.ref a],[]⟩ [.ref a] [.ref a] _ _ hr e0 (i6 s₁ (.ref a)) (.cons rfl .nil) (ck H hO hS)) fun r s' h=>?_
  cases r with
  |error e=>exact (na H e s' h).elim
  |ok fl =>
   cases fl with
   |next=>exact yC h
   |brk=>exact yC h
   |cont=>exact yC h
   |ret u =>
    obtain⟨v,H',os,bare,un,e7,r',q⟩:=h
    have q':v=.bl true:=q
    subst q'
    obtain rfl:u=Value.bool true:=r'
    refine⟨rfl,OldK.of_keep fun b o e=>?_,os,bare⟩
    cases q:H b with
    |none=>exact un.keep b o e q (by intro z;exact absurd (show b∈([]:List Addr) from z) (by simp)) (by simp)
    |some u =>
     rcases hO b with z|⟨ob,xs,z⟩
     ·rw[q] at z;cases z
     ·have z2:=un.Mc b ob _ z
      obtain⟨e1,_⟩:=Au b _ z
      obtain⟨e2,_⟩:=e7 b _ z2
      rw[e] at e1;cases e1
      exact e2
 cases hk:K.lookup a with
 |some o =>
  have e:=KX a o hk
  rw[ha] at e
  cases e
  refine core (fun _=>none) (fun _=>.inl rfl) (.inr ⟨_,vs.toArray,_,hk,rfl,rfl,rfl,by rw[zh,nc];exact hl,by simpa using rv⟩) (fun b u z=>by have z':(none:Option HO)=some u:=z;cases z') (fun b z=>absurd rfl z) fun z=>absurd rfl z
 |none =>
  refine core (fun b=>if b=a then some (.Vc { cls:=.type "list",data:=.seq vs.toArray } (.lst (ns.map V.int))) else none) (fun b=>?_) (.inl (.inr ⟨{ cls:=.type "list",data:=.seq vs.toArray },if_pos rfl⟩)) (fun b u z=>?_) (fun b z=>?_) fun _=>hk
  ·by_cases hb:b=a
   ·exact .inr ⟨_,_,if_pos hb⟩
   ·exact .inl (if_neg hb)
  ·by_cases hb:b=a
   ·have z':=(if_pos hb).symm.trans z
    cases z'
    subst hb
    exact⟨ha,by rw[zc];exact hl,vs,_,rv,ha⟩
   ·have z':=(if_neg hb).symm.trans z
    cases z'
  ·by_cases hb:b=a
   ·exact hb
   ·exact absurd (if_neg hb) z
def inClass (s:Stmt) (j:Nat):Stmt:=match s with
 | .ClassDef _ _ _ body _ _ _ _ _ _ _=>body.getD j (.Pass ⟨0,0,0,0⟩)
 |_=>.Pass ⟨0,0,0,0⟩
def Bf (s:Stmt):Arguments:=match s with
 | .FunctionDef _ a _ _ _ _ _ _ _ _=>a
 |_=>{ posonlyargs:=[],args:=[],vararg:=none,kwonlyargs:=[],kw_defaults:=[],kwarg:=none,defaults:=[] }
def AJ (s:Stmt):List Stmt:=match s with
 | .FunctionDef _ _ b _ _ _ _ _ _ _=>b
 |_=>[]
def A4 (s:Stmt):Scope:=match s with
 | .FunctionDef _ _ _ _ _ _ sc _ _ _=>sc
 |_=>{ kind:=.function,names:=[],isGenerator:=false,isCoroutine:=false }
abbrev Zq:Vk:=fun _ _ _ _ _ _=>False
abbrev E0:XK:=fun _ _ _=>False
structure Ww (K:za) (x qual:Str) (st:Stmt) (f:Addr) (fd:FuncData):Prop where
 ex:∃(oc:Value) (od:Option Addr) (kV doc pm:Value) (an:Option Addr) (AZ ct:Value) (Se:Array (Option Value)),
  fd=yh x qual (Bf st) (AJ st) (A4 st) .none kV doc pm an AZ ct/\K.lookup f=some ⟨oc,od,.func fd,Se⟩/\y3 K AZ qual=true
 kp:yi K (.ref f)=true
section
variable {P:Program}{w:World}{K:za}{mg:Str->Option Value}{base:Heap}
theorem Ww.ok {x qual:Str}{st:Stmt}{f:Addr}{fd:FuncData}{N ps:List Str}{k:Nat}{sp:Sp}(F:Ww K x qual st f fd) (S:Ae N ps (A4 st)) (len:∀ vs H Q E,sp vs H Q E->vs.length=ps.length)
 (cj:∀(AZ:Value) (A:Around) (outer:List Env) (s:Shared) (H:Hp) (vs:List V) (Q:VK) (E:XK),BI k (A.deeper (envOfC qual (A4 st) s.heap.objs.size f AZ))->sp vs H Q E->
  ∃ t,TX (Lk Zq P w K mg base N qual (A4 st) f AZ A outer s H E).mT (AJ st) t/\t { nx:=fun _ H'=>Q .Az H',rt:=Q } (start N vs) H):Dv P w K mg base Zq (k + 1) f fd ps sp:=by
 obtain⟨oc,od,kV,doc,pm,an,AZ,ct,Se,rfl,lk,bw⟩:=F.ex
 refine U1 lk bw S len fun A outer s H vs Q E hr ck=>?_
 obtain⟨t,h,q⟩:=cj AZ A outer s H vs Q E hr ck
 exact⟨t,h.mT,q⟩
theorem Ww.binds {x qual:Str}{st:Stmt}{f:Addr}{fd:FuncData}{ps:List Str}(F:Ww K x qual st f fd)
 (h:∀(kV doc pm:Value) (an:Option Addr) (AZ ct:Value) (us:List Value),us.length=ps.length->bindArgs (yh x qual (Bf st) (AJ st) (A4 st) .none kV doc pm an AZ ct) ⟨us,[]⟩=pure (ps.zip us)):Binds K fd ps []:=by
 obtain⟨oc,od,kV,doc,pm,an,AZ,ct,Se,rfl,lk,bw⟩:=F.ex
 exact .all (h kV doc pm an AZ ct)
theorem SE {x qual:Str}{st:Stmt}{f:Addr}{oc:Value}{od an:Option Addr}{Se:Array (Option Value)}{kV doc pm AZ ct:Value}(l:K.lookup f=some ⟨oc,od,.func (yh x qual (Bf st) (AJ st) (A4 st) .none kV doc pm an AZ ct),Se⟩)
 (c:y3 K AZ qual=true) (k:yi K (.ref f)=true):Ww K x qual st f (yh x qual (Bf st) (AJ st) (A4 st) .none kV doc pm an AZ ct):=⟨⟨oc,od,kV,doc,pm,an,AZ,ct,Se,rfl,l,c⟩,k⟩
end
theorem AF {n:Nat}(h:n<=1000):n < sizeLine:=Nat.lt_of_le_of_lt h (by decide)
section
variable {X:Cx}
theorem pv (i:Nat){x:Str}{pos:Pos}(hN:X.N[i]? =some x:=by rfl) (hv:qM X.env.scope x:=by first | exact zO rfl | exact Or.inr (zO rfl) | exact Or.inr (Or.inr rfl)) (hd:(x == ("__debug__" : Str))=false:=by decide)
 (bw:(x == ("__classdict__" : Str))=false:=by decide):PE X (.Name x pos) (Li i):=iB hN hv hd bw
end
def Ad (H H':Hp):Prop:=∀ b o,H b=some o->H' b=some o
theorem Ad.refl (H:Hp):Ad H H:=fun _ _ h=>h
theorem Ad.trans {H H1 H2:Hp}(a:Ad H H1) (b:Ad H1 H2):Ad H H2:=fun c o h=>b c o (a c o h)
theorem Ad.seq {K:za}{H H':Hp}{a:Addr}{xs:List V}(e:Ad H H') (h:Dt K H a xs):Dt K H' a xs:=by
 rcases h with (h|⟨o,h⟩)|h
 ·exact .inl (.inl (e _ _ h))
 ·exact .inl (.inr ⟨o,e _ _ h⟩)
 ·exact .inr h
section
variable {κ:Type} [DecidableEq κ]
def Lm (kvs:List (κ×V)) (k:κ):Option V:=(kvs.find? fun kv=>decide (kv.1=k)).map (·.2)
def putK (kvs:List (κ×V)) (k:κ) (v:V):List (κ×V) :=
 if (kvs.any fun kv=>decide (kv.1=k))=true then kvs.map (fun kv=>if kv.1=k then (kv.1,v) else kv) else kvs++[(k,v)]
theorem Mi {p:κ×V}{r:List (κ×V)}{k:κ}(e:p.1=k):Lm (p::r) k=some p.2:=by simp[Lm,yW,e]
theorem Mj {p:κ×V}{r:List (κ×V)}{k:κ}(e:¬ p.1=k):Lm (p::r) k=Lm r k:=by simp[Lm,yW,e]
theorem QN (k:κ):∀ kvs:List (κ×V),(kvs.any fun kv=>decide (kv.1=k))=(Lm kvs k).isSome
 |[]=>rfl
 |p::r=>by
  rw[yX]
  by_cases e:p.1=k
  ·simp only[Mi e,decide_eq_true e,Bool.true_or,Option.isSome_some]
  ·rw[Mj e,decide_eq_false e,Bool.false_or];exact QN k r
theorem EA (kvs:List (κ×V)) (k:κ) (v:V):(putK kvs k v).length<=kvs.length + 1:=by
 unfold putK
 split
 ·rw[zc];omega
 ·rw[zJ,zk,List.length_nil];omega
theorem Gf.F7 {o:Option V}{u:Option Value}(r:Gf o u):o.isSome=u.isSome:=by
 cases o with
 |none=>cases u with
  |none=>rfl
  |some _=>exact (show False from r).elim
 |some _=>cases u with
  |none=>exact (show False from r).elim
  |some _=>rfl
theorem Gf.getD {o:Option V}{u:Option Value}{d:V}{d':Value}(r:Gf o u) (rd:RelV d d'):RelV (o.getD d) (u.getD d'):=by
 cases o with
 |none=>cases u with
  |none=>exact rd
  |some _=>exact (show False from r).elim
 |some _=>cases u with
  |none=>exact (show False from r).elim
  |some _=>exact r
theorem KV.val {kvs:List (κ×V)}{vs:List (κ×Value)}(r:KV kvs vs) (k:κ):Gf (Lm kvs k) (valueAt vs k):=by
 unfold KV at r
 induction r with
 |nil=>exact yP
 | @cons p q ps qs h t ih =>
  obtain⟨h1,h2⟩:=h
  by_cases e:p.1=k
  ·have e':q.1=k:=h1.symm.trans e
   have b:valueAt (q::qs) k=some q.2:=by simp[valueAt,yW,e']
   rw[Mi e,b];exact h2
  ·have e':¬ q.1=k:=fun z=>e (h1.trans z)
   have b:valueAt (q::qs) k=valueAt qs k:=by simp[valueAt,yW,e']
   rw[Mj e,b];exact ih
theorem KV.any {kvs:List (κ×V)}{vs:List (κ×Value)}(r:KV kvs vs) (k:κ):(kvs.any fun kv=>decide (kv.1=k))=vs.any fun kv=>decide (kv.1=k):=by
 unfold KV at r
 induction r with
 |nil=>rfl
 |cons h t ih=>rw[yX,yX,ih,h.1]
theorem KV.jN {kvs:List (κ×V)}{vs:List (κ×Value)}(r:KV kvs vs) (k:κ){y:V}{u:Value}(ry:RelV y u) :
 KV (kvs.map fun kv=>if kv.1=k then (kv.1,y) else kv) (vs.map fun kv=>if kv.1=k then (kv.1,u) else kv):=by
 unfold KV at r ⊢
 induction r with
 |nil=>exact .nil
 | @cons p q ps qs h t ih =>
  rw[zf,zf]
  refine .cons ?_ ih
  obtain⟨h1,h2⟩:=h
  by_cases e:p.1=k
  ·rw[if_pos e,if_pos (h1.symm.trans e)];exact⟨h1,ry⟩
  ·rw[if_neg e,if_neg (fun z=>e (h1.trans z))];exact⟨h1,h2⟩
theorem KV.put {kvs:List (κ×V)}{vs:List (κ×Value)}(r:KV kvs vs) (k:κ){y:V}{u:Value}(ry:RelV y u):KV (putK kvs k y) (stored vs k u):=by
 unfold putK stored
 rw[r.any k]
 by_cases e:(vs.any fun kv=>decide (kv.1=k))=true
 ·rw[if_pos e,if_pos e];exact r.jN k ry
 ·rw[if_neg e,if_neg e];exact Paired.snoc r ⟨rfl,ry⟩
theorem KV.length {kvs:List (κ×V)}{vs:List (κ×Value)}(r:KV kvs vs):kvs.length=vs.length:=Paired.length r
end
theorem Ml {P:Program}{w:World}{k:Key}{u:Value}(r:RelV (kV k) u):(B4 P w).is k u=true:=by
 cases k with
 |inl i=>obtain⟨t,e⟩:=(show ∃ t,u=Value.int i t from r);subst e;exact Qz P w i t
 |inr x=>obtain⟨t,e⟩:=(show ∃ t,u=Value.str x t from r);subst e;exact QA P w x t
theorem Oj {P:Program}{w:World}:∀ {ks:List Key}{us:List Value},Vals (ks.map kV) us->ItemsAre (B4 P w) ks us
 |[],_,r=>by rw[yM] at r;cases r;exact .nil
 |k::ks,_,r=>by
  rw[zf] at r
  cases r with
  |cons h t=>exact .cons (Ml h) (Oj t)
abbrev KT (H:Hp):List (List Key×V)->List (List Key×Addr×Value)->Prop:=Paired fun p q=>p.1=q.1/\H q.2.1=some (.tup (p.1.map kV))/\RelV p.2 q.2.2
theorem KT.val {H:Hp}{kvs:List (List Key×V)}{xs:List (List Key×Addr×Value)}(r:KT H kvs xs) (k:List Key):Gf (Lm kvs k) ((atKey xs k).map (·.2)):=by
 induction r with
 |nil=>exact yP
 | @cons p q ps qs h t ih =>
  obtain⟨h1,_,h2⟩:=h
  by_cases e:p.1=k
  ·have e':q.1=k:=h1.symm.trans e
   have b:atKey (q::qs) k=some q.2:=by simp[atKey,yW,e']
   rw[Mi e,b];exact h2
  ·have e':¬ q.1=k:=fun z=>e (h1.trans z)
   have b:atKey (q::qs) k=atKey qs k:=by simp[atKey,yW,e']
   rw[Mj e,b];exact ih
theorem KT.jN {H:Hp}{kvs:List (List Key×V)}{xs:List (List Key×Addr×Value)}(r:KT H kvs xs) (k:List Key){y:V}{u:Value}(ry:RelV y u) :
 KT H (kvs.map fun kv=>if kv.1=k then (kv.1,y) else kv) (xs.map (putAt k u)):=by
 induction r with
 |nil=>exact .nil
 | @cons p q ps qs h t ih =>
  rw[zf,zf]
  refine .cons ?_ ih
  obtain⟨h1,h2,h3⟩:=h
  unfold putAt
  by_cases e:p.1=k
  ·rw[if_pos e,if_pos (h1.symm.trans e)];exact⟨h1,h2,ry⟩
  ·rw[if_neg e,if_neg (fun z=>e (h1.trans z))];exact⟨h1,h2,h3⟩
theorem KT.put {H:Hp}{kvs:List (List Key×V)}{xs:List (List Key×Addr×Value)}(r:KT H kvs xs) (k:List Key){b:Addr}{y:V}{u:Value}(hb:H b=some (.tup (k.map kV))) (ry:RelV y u) :
 KT H (putK kvs k y) (storedH xs k b u):=by
 have e:(kvs.any fun kv=>decide (kv.1=k))=(atKey xs k).isSome:=by
  rw[QN,(r.val k).F7,Option.isSome_map]
 unfold putK storedH
 rw[e]
 by_cases q:(atKey xs k).isSome=true
 ·rw[if_pos q,if_pos q];exact r.jN k ry
 ·rw[if_neg q,if_neg q];exact Paired.snoc r ⟨rfl,hb,ry⟩
theorem KT.keeps {H H':Hp}{kvs:List (List Key×V)}{xs:List (List Key×Addr×Value)}(r:KT H kvs xs) (ht:∀ b ys,H b=some (.tup ys)->H' b=some (.tup ys)):KT H' kvs xs :=
 Paired.hX r fun _ _ z=>⟨z.1,ht _ _ z.2.1,z.2.2⟩
section
variable {P:Program}{w:World}{H:Hp}{h:Heap}{a:Addr}
theorem fU {u:HO}(ok:Fm P w H h) (e:Rd H a u):BB P w H h a u:=e.ok ok
theorem Mm {kvs:List (Key×V)}(ok:Fm P w H h) (e:Rd H a (.dK kvs)):kvs.length<=sizeLine/\(a == sysModules)=false/\∃ vs,KV kvs vs/\h.DictOf (B4 P w) a vs :=
 show BB P w H h a (.dK kvs) from fU ok e
theorem fV {kvs:List (Key×V)}(ok:Fm P w H h) (e:H a=some (.dK kvs)):kvs.length<=sizeLine/\(a == sysModules)=false/\∃ vs,KV kvs vs/\h.DictOf (B4 P w) a vs:=Mm ok (.inl e)
theorem Il {ks:List Key}(ok:Fm P w H h) (e:H a=some (.tup (ks.map kV))):(tupleKind (B4 P w)).is h ks a:=by
 obtain⟨_,aa,r,o,h1,h2,n,h3⟩:=(show BB P w H h a (.tup (ks.map kV)) from ok a _ e)
 exact⟨o,aa.toArray,n,h1,h2,h3,by simpa using Oj r⟩
theorem Mn {kvs:List (List Key×V)}(ok:Fm P w H h) (e:Rd H a (.dT kvs)):kvs.length<=sizeLine/\(a == sysModules)=false /\
 ∃ xs,KT H kvs xs/\h.DictOfH (tupleKind (B4 P w)) a xs:=by
 obtain⟨z,y,xs,r,o,es,ep,h1,h2,h3,h4,h5⟩:=(show BB P w H h a (.dT kvs) from fU ok e)
 refine⟨z,y,xs,r,o,es,ep,h1,h2,h3,h4,fun x hx=>?_,h5⟩
 have all:∀ {l:List (List Key×V)} {m:List (List Key×Addr×Value)},KT H l m->∀ x∈m,(tupleKind (B4 P w)).is h x.1 x.2.1:=by
  intro l m q
  induction q with
  |nil=>intro x hx;exact nomatch hx
  | @cons p q ps qs hq t ih =>
   intro x hx
   rcases zo.mp hx with e|hx
   ·subst e
    exact Il ok (by rw[<-hq.1];exact hq.2.1)
   ·exact ih x hx
 exact all r x hx
theorem nT {kvs:List (List Key×V)}(ok:Fm P w H h) (e:H a=some (.dT kvs)):kvs.length<=sizeLine/\(a == sysModules)=false /\
 ∃ xs,KT H kvs xs/\h.DictOfH (tupleKind (B4 P w)) a xs:=Mn ok (.inl e)
end
def Im (H:Hp) (a:Addr) (y:V) (r:Option V):Prop :=
 (∃ kvs k,Rd H a (.dK kvs)/\y=kV k/\r=Lm kvs k)\/∃ kvs k b,Rd H a (.dT kvs)/\y=.ref b/\H b=some (.tup (k.map kV))/\r=Lm kvs k
def nU (H:Hp) (a:Addr) (y v:V) (H':Hp):Prop :=
 (∃ kvs k,H a=some (.dK kvs)/\y=kV k/\kvs.length < sizeLine/\H'=upd H a (.dK (putK kvs k v))) \/
 ∃ kvs k b,H a=some (.dT kvs)/\y=.ref b/\H b=some (.tup (k.map kV))/\kvs.length < sizeLine/\H'=upd H a (.dT (putK kvs k v))
theorem Im.k {H:Hp}{a:Addr}{kvs:List (Key×V)}{k:Key}(e:H a=some (.dK kvs)):Im H a (kV k) (Lm kvs k):=.inl ⟨kvs,k,.inl e,rfl,rfl⟩
theorem Im.t {H:Hp}{a b:Addr}{kvs:List (List Key×V)}{k:List Key}(e:H a=some (.dT kvs)) (eb:H b=some (.tup (k.map kV))):Im H a (.ref b) (Lm kvs k):=.inr ⟨kvs,k,b,.inl e,rfl,eb,rfl⟩
section
variable {X:Cx}{pins:List (Addr×Obj)}{σ:St}{H:Hp}{s:Shared}{a:Addr}{y v:V}{u r:Value}{o:Option V}{A:Around}{E:Value->Shared->Prop}
theorem Inv.big (I:Inv X pins σ H s):sysModules < s.heap.objs.size:=by
 have h:mainGlobals < s.heap.objs.size:=(I.mod.glob.keeps I.bk).lt
 exact Nat.lt_trans (by decide) h
theorem Vr {Q:Value->Shared->Prop}(hu:A.units + 1 < cLine) (I:Inv X pins σ H s) (g:Im H a y (some v)) (ry:RelV y u) (h:∀ w' s',Inv X pins σ H s'->RelV v w'->Q w' s') :
 wpAny (model X.prog X.w) A (getItem (.ref a) u) Q E s:=by
 rcases g with ⟨kvs,k,e,ey,l⟩|⟨kvs,k,b,e,ey,eb,l⟩
 ·subst ey
  obtain⟨z,hd,vs,rel,dd⟩:=Mm I.Au e
  obtain⟨w',hw,bz⟩:=Gf.some_of (v:=v) (o:=valueAt vs k) (by rw[l];exact rel.val k)
  exact wpAny_getItem_of (Ml ry) dd.mapOf hw (h w' _ (I.tok _) bz)
 ·subst ey
  cases (show u=zZ b from ry)
  obtain⟨z,hd,xs,rel,dd⟩:=Mn I.Au e
  obtain⟨w',hw,bz⟩:=Gf.some_of (v:=v) (o:=(atKey xs k).map (·.2)) (by rw[l];exact rel.val k)
  obtain⟨p,hp,vq⟩:=Option.map_eq_some_iff.mp hw
  refine wpAny_getItem_heap (tupleKind_room_in1 hu) (Il I.Au eb) dd hp ?_
  rw[vq]
  exact h w' _ (I.tok _) bz
theorem rN {Q:Value->Shared->Prop}(hu:A.units + 1 < cLine) (I:Inv X pins σ H s) (g:Im H a y o) (ry:RelV y u) (h:∀ s',Inv X pins σ H s'->Q (.bool o.isSome) s') :
 wpAny (model X.prog X.w) A (compareOp .In u (.ref a)) Q E s:=by
 rcases g with ⟨kvs,k,e,ey,l⟩|⟨kvs,k,b,e,ey,eb,l⟩
 ·subst ey
  obtain⟨z,hd,vs,rel,dd⟩:=Mm I.Au e
  refine wpAny_in_of (Ml ry) hd dd.mapOf ?_
  rw[<-(rel.val k).F7,<-l]
  exact h _ (I.tok _)
 ·subst ey
  cases (show u=zZ b from ry)
  obtain⟨z,hd,xs,rel,dd⟩:=Mn I.Au e
  refine wpAny_in_heap (tupleKind_room_in1 hu) (Il I.Au eb) hd dd ?_
  have q:=(rel.val k).F7
  rw[Option.isSome_map] at q
  rw[<-q,<-l]
  exact h _ (I.tok _)
theorem Zr {Q:Value->Shared->Prop}(hu:A.units + 1 < cLine) (I:Inv X pins σ H s) (g:Im H a y o) (ry:RelV y u) (h:∀ s',Inv X pins σ H s'->Q (.bool (!o.isSome)) s') :
 wpAny (model X.prog X.w) A (compareOp .NotIn u (.ref a)) Q E s:=by
 rcases g with ⟨kvs,k,e,ey,l⟩|⟨kvs,k,b,e,ey,eb,l⟩
 ·subst ey
  obtain⟨z,hd,vs,rel,dd⟩:=Mm I.Au e
  refine wpAny_notIn_of (Ml ry) hd dd.mapOf ?_
  rw[<-(rel.val k).F7,<-l]
  exact h _ (I.tok _)
 ·subst ey
  cases (show u=zZ b from ry)
  obtain⟨z,hd,xs,rel,dd⟩:=Mn I.Au e
  refine wpAny_notIn_heap (tupleKind_room_in1 hu) (Il I.Au eb) hd dd ?_
  have q:=(rel.val k).F7
  rw[Option.isSome_map] at q
  rw[<-q,<-l]
  exact h _ (I.tok _)
theorem Pm {h':Heap}{t':Nat}{ob:HO}(I:Inv X pins σ H s) (mu:mL (H a)) (hs:yV a s.heap h') (he:∃ q,h'.get? a=some q) (new:BB X.prog X.w (upd H a ob) h' a ob) :
 Inv X pins σ (upd H a ob) { s with heap:=h',toks:=t' } :=
 I.write (x:=a) (e:=a) mu (.inl rfl) (fun b q hb z=>(hs.2 b hb).trans z) he new
theorem X8 {P:Program}{w:World}{H':Hp}{h':Heap}{kvs:List (Key×V)}{vs:List (Key×Value)}(z:kvs.length<=sizeLine) (hd:(a == sysModules)=false) (rel:KV kvs vs) (dd:h'.DictOf (B4 P w) a vs) :
 BB P w H' h' a (.dK kvs):=⟨z,hd,vs,rel,dd⟩
theorem Vs {H':Hp}{Q:Unit->Shared->Prop}(hu:A.units + 1 < cLine) (I:Inv X pins σ H s) (g:nU H a y v H') (ry:RelV y u) (rv:RelV v r) (h:∀ s',Inv X pins σ H' s'->Q () s') :
 wpAny (model X.prog X.w) A (setItem (.ref a) u r) Q E s:=by
 rcases g with ⟨kvs,k,e,ey,l,eH⟩|⟨kvs,k,b,e,ey,eb,l,eH⟩
 ·subst ey eH
  obtain⟨z,hd,vs,rel,dd⟩:=fV I.Au e
  have hz:vs.length<=sizeLine:=by rw[<-rel.length];exact z
  have hl:(putK kvs k v).length<=sizeLine:=by have:=EA kvs k v;omega
  refine wpAny_setItem_pairs (hsz:=hz) (Ml ry) dd fun h' e8 hs=>h _ ?_
  have he:∃ q,h'.get? a=some q:=let ⟨q,_,_,hq,_⟩:=e8;⟨q,hq⟩
  exact Pm I (by rw[e];exact yP) hs he (X8 hl hd (rel.put k rv) e8)
 ·subst ey eH
  cases (show u=zZ b from ry)
  obtain⟨z,hd,xs,rel,dd⟩:=nT I.Au e
  have hz:xs.length<=sizeLine:=by rw[<-Paired.length rel];exact z
  have hl:(putK kvs k v).length<=sizeLine:=by have:=EA kvs k v;omega
  refine wpAny_setItem_heap (hsz:=hz) (tupleKind_room_in1 hu) (Il I.Au eb) dd fun h' e8 hs=>h _ ?_
  obtain⟨q,es,ep,hq,h2,h3,h4,_,h5⟩:=e8
  refine Pm I (by rw[e];exact yP) hs ⟨q,hq⟩ ⟨hl,hd,_,(rel.put k eb rv).keeps fun c ys ec=>?_,q,es,ep,hq,h2,h3,h4,h5⟩
  rw[Ah (mK ec e (fun z=>nomatch z))]
  exact ec
end
theorem QO {X:Cx}{pins:List (Addr×Obj)}{σ:St}{H:Hp}{s:Shared}{a:Addr}{y:V}{o:Option V}(I:Inv X pins σ H s) (g:Im H a y o):s.TypeIs (.ref a) "dict" := by
 rcases g with ⟨kvs,k,e,_,_⟩|⟨kvs,k,b,e,_,_,_⟩
 ·obtain⟨_,_,vs,_,dd⟩:=Mm I.Au e
  exact dd.typeIs
 ·obtain⟨_,_,xs,_,dd⟩:=Mn I.Au e
  exact dd.typeIs
def nV (td ty tv:TE):TS:=fun D σ H=>tv σ H fun v H1=>td σ H1 fun x H2=>ty σ H2 fun y H3=>∃ a H4,x=.ref a/\nU H3 a y v H4/\D.nx σ H4
section
variable {X:Cx}{o i e value:Expr}{pos pos' bC:Pos}{td ty tv:TE}
theorem Zs (hu:X.A.units + 1 < cLine) (ho:PE X o td) (hi:PE X i ty) (hv:PE X value tv) (hs:swapsWith value (some (.Subscript o i pos')) pos.line X.env=pure false) :
 PS X (.Assign [.Subscript o i pos'] value pos) (nV td ty tv):=by
 intro pins s σ H D I h
 refine wpAny_Assign_Subscript (Bb (hv pins s σ H _ I h) fun r s1 ⟨v,H1,I1,rv,q1⟩=>Bb (ho pins s1 σ H1 _ I1 q1) fun u s2 ⟨x,H2,I2,rx,q2⟩=>Bb (hi pins s2 σ H2 _ I2 q2) fun iv s3 ⟨y,H3,I3,ry,a,H4,ex,g,q3⟩=>?_) hs
 subst ex
 obtain rfl:u=zZ a:=rx
 exact Vs hu I3 g ry rv fun s4 I4=>⟨σ,H4,I4,q3⟩
end
theorem QP {P:Program}{w:World}{H:Hp}(h:Heap) (hb:sysModules < h.objs.size):BB P w H (h.push { cls:=.type "dict",data:=.dict #[] }) h.objs.size (.dK []) :=
 ⟨zP _,beq_eq_false_iff_ne.mpr (zU (zC hb)),[],.nil,Heap.DictOf.new h⟩
theorem X9 {P:Program}{w:World}{H:Hp}(h:Heap) (hb:sysModules < h.objs.size):BB P w H (h.push { cls:=.type "dict",data:=.dict #[] }) h.objs.size (.dT []) :=
 ⟨zP _,beq_eq_false_iff_ne.mpr (zU (zC hb)),[],.nil,_,#[],0,zG _ rfl,⟨rfl,rfl,rfl⟩,rfl,rfl,y4⟩
def jO:TE:=fun _ H Q=>∀ p,H p=none->Q (.ref p) (upd H p (.dK []))
def jP:TE:=fun _ H Q=>∀ p,H p=none->Q (.ref p) (upd H p (.dT []))
section
variable {X:Cx}{pos:Pos}
theorem Xa:PE X (.Dict [] [] pos) jO:=fun pins s σ H Q I h =>
 wpAny_Dict_empty ⟨.ref s.heap.objs.size,_,I.laid (a:=s.heap.objs.size) (o:=.dK []) (t':=s.toks) (fun _ _ q=>zp _ q) (zx _) (QP s.heap I.big),rfl,h _ (I.Au.fresh (zx _))⟩
theorem Xb:PE X (.Dict [] [] pos) jP:=fun pins s σ H Q I h =>
 wpAny_Dict_empty ⟨.ref s.heap.objs.size,_,I.laid (a:=s.heap.objs.size) (o:=.dT []) (t':=s.toks) (fun _ _ q=>zp _ q) (zx _) (X9 s.heap I.big),rfl,h _ (I.Au.fresh (zx _))⟩
end
def SF:List (TE×TE)->St->Hp->(List (V×V)->Hp->Prop)->Prop
 |[],_,H,Q=>Q [] H
 |(tk,tv)::r,σ,H,Q=>tk σ H fun x H1=>tv σ H1 fun y H2=>SF r σ H2 fun ps H3=>Q ((x,y)::ps) H3
abbrev VV:List (V×V)->List (Value×Value)->Prop:=Paired fun p q=>RelV p.1 q.1/\RelV p.2 q.2
def pX (X:Cx) (pos:Pos) (keys:List (Option Expr)) (values:List Expr) (cM:List (TE×TE)):Prop :=
 ∀(pins:List (Addr×Obj)) (s:Shared) (σ:St) (H:Hp) (Q:List (V×V)->Hp->Prop),Inv X pins σ H s->SF cM σ H Q->
  wpAny (model X.prog X.w) X.A (evalPairs (pairTrees keys values X.env pos)) (fun vs s'=>∃ ps H',Inv X pins σ H' s'/\VV ps vs/\Q ps H') X.xe s
theorem Zt {X:Cx}{pos:Pos}:pX X pos [] [] []:=fun pins s σ H Q I h=>pairTrees_nil_walk ⟨[],H,I,.nil,h⟩
theorem Xc {X:Cx}{pos:Pos}{k v:Expr}{ks:List (Option Expr)}{vs:List Expr}{tk tv:TE}{cM:List (TE×TE)}(hk:PE X k tk) (hv:PE X v tv) (hr:pX X pos ks vs cM) :
 pX X pos (some k::ks) (v::vs) ((tk,tv)::cM):=fun pins s σ H Q I h =>
 pairTrees_cons_walk (Bb (hk pins s σ H _ I h) fun u s1 ⟨x,H1,I1,rx,q1⟩=>Bb (hv pins s1 σ H1 _ I1 q1) fun w2 s2 ⟨y,H2,I2,ry,q2⟩ =>
  Bb (hr pins s2 σ H2 _ I2 q2) fun ws s3 ⟨ps,H3,I3,rel,q3⟩=>⟨(x,y)::ps,H3,I3,.cons ⟨rx,ry⟩ rel,q3⟩)
def Gs (kvs more:List (Key×V)):List (Key×V):=more.foldl (fun acc kv=>putK acc kv.1 kv.2) kvs
theorem KV.merge:∀ {more:List (Key×V)}{rs:List (Key×Value)}{kvs:List (Key×V)}{vs:List (Key×Value)},KV more rs->KV kvs vs->KV (Gs kvs more) (merged vs rs):=by
 intro more rs kvs vs r
 unfold KV at r
 induction r generalizing kvs vs with
 |nil=>intro q;exact q
 | @cons p q ps qs h t ih =>
  intro r0
  have e:KV (putK kvs p.1 p.2) (stored vs q.1 q.2):=by
   have:=r0.put p.1 h.2
   rw[<-h.1];exact this
  exact ih e
theorem HY:∀(more kvs:List (Key×V)),(Gs kvs more).length<=kvs.length + more.length
 |[],kvs=>by show kvs.length<=kvs.length + 0;omega
 |p::r,kvs=>by
  have h1:=HY r (putK kvs p.1 p.2)
  have h2:=EA kvs p.1 p.2
  show (Gs (putK kvs p.1 p.2) r).length<=_
  rw[zk];omega
theorem Mo {P:Program}{w:World}:∀ {kvs:List (Key×V)}{ws:List (Value×Value)},VV (kvs.map fun kv=>(kV kv.1,kv.2)) ws->∃ rs,Carries (B4 P w) ws rs/\KV kvs rs
 |[],_,r=>by rw[yM] at r;cases r;exact⟨[],yP,.nil⟩
 |p::kvs,_,r=>by
  rw[zf] at r
  cases r with
  | @cons a b as bs h t =>
   obtain⟨rs,c,q⟩:=Mo (P:=P) (w:=w) t
   obtain⟨b1,b2⟩:=b
   exact⟨(p.1,b2)::rs,⟨Ml h.1,rfl,c⟩,.cons ⟨rfl,h.2⟩ q⟩
def nW (cM:List (TE×TE)):TE:=fun σ H Q=>∀ p,H p=none->SF cM σ (upd H p (.dK [])) fun ps H2=>H2 p=some (.dK [])/\∃ kvs:List (Key×V),ps=kvs.map (fun kv=>(kV kv.1,kv.2))/\kvs.length<=15/\Q (.ref p) (upd H2 p (.dK (Gs [] kvs)))
theorem Zu {X:Cx}{pos:Pos}{keys:List (Option Expr)}{values:List Expr}{cM:List (TE×TE)}(h:pX X pos keys values cM) (aF:keys.all (·.isSome)=true) (hl:keys.length=values.length) (h0:keys≠[])
 (vt:keys.length<=15):PE X (.Dict keys values pos) (nW cM):=by
 intro pins s σ H Q I q
 have hn:=I.Au.fresh (zx s.heap.objs.size)
 have I1:=I.laid (a:=s.heap.objs.size) (o:=.dK []) (h':=s.heap.push { cls:=.type "dict",data:=.dict #[] }) (t':=s.toks) (fun _ _ q=>zp _ q) (zx _) (QP s.heap I.big)
 refine wpAny_Dict_walk (knd:=B4 X.prog X.w) aF hl h0 vt (Bb (h pins _ σ _ _ I1 (q _ hn)) fun ws s2 ⟨ps,H2,I2,rel,e,kvs,ep,lk,q2⟩=>?_)
 subst ep
 obtain⟨rs,c,rk⟩:=Mo (P:=X.prog) (w:=X.w) rel
 obtain⟨z,hd,ue,r0,dd⟩:=fV I2.Au e
 cases r0
 refine⟨rs,c,dd,fun h' e8 hs=>⟨.ref s.heap.objs.size,_,?_,rfl,q2⟩⟩
 have hz:(Gs [] kvs).length<=sizeLine:=by
  have h1:=HY kvs []
  rw[List.length_nil] at h1
  rw[sizeLine_eq];omega
 have he:∃ q,h'.get? s.heap.objs.size=some q:=let ⟨q,_,_,hq,_⟩:=e8;⟨q,hq⟩
 exact Pm I2 (by rw[e];exact yP) hs he (X8 hz hd (rk.merge .nil) e8)
structure M1 (X:Cx) (o:Expr) (m:Str) (apos:Pos) (e:Expr) (ac:Pos):Prop where
 base:attributeBase o m X.env (eval o X.env)=eval o X.env
 vF:((backTo ac (starEach [e] X.env)).all (fun x => !x.1) && (backToKw ac (keywordEach [] X.env)).all (fun x=>x.1.isSome)
  && decide (([e]:List Expr).length + ([]:List Keyword).length + (if ([]:List Keyword).isEmpty then 0 else 1) < 30))=true
 line:(apos.endLine == ac.line)=true
 nX:backTo ac (starEach [e] X.env)=[(false,eval e X.env)]
def rO (H:Hp) (a:Addr):Prop:=(∃ kvs,Rd H a (.dK kvs))\/∃ kvs,Rd H a (.dT kvs)
theorem SG {X:Cx}{pins:List (Addr×Obj)}{σ:St}{H:Hp}{s:Shared}{a:Addr}(I:Inv X pins σ H s) (d:rO H a) :
 s.TypeIs (.ref a) "dict" /\ (∀ b,zZ a=.ref b->∃ ob,s.heap.get? b=some ob/\ob.dict=none)/\(a == sysModules)=false:=by
 rcases d with ⟨kvs,e⟩|⟨kvs,e⟩
 ·obtain⟨_,hd,vs,_,dd⟩:=Mm I.Au e
  refine⟨dd.typeIs,fun b q=>?_,hd⟩
  cases q
  obtain⟨ob,_,_,h1,h2,_⟩:=dd
  exact⟨ob,h1,h2.2.1⟩
 ·obtain⟨_,hd,xs,_,dd⟩:=Mn I.Au e
  refine⟨dd.typeIs,fun b q=>?_,hd⟩
  cases q
  obtain⟨ob,_,_,h1,h2,_⟩:=dd
  exact⟨ob,h1,h2.2.1⟩
section
variable {X:Cx}{pins:List (Addr×Obj)}{σ:St}{H:Hp}{s:Shared}{a:Addr}{y d:V}{u r:Value}{o:Option V}{A:Around}{E:Value->Shared->Prop}
theorem jQ {Q:Value->Shared->Prop}(hu:A.units + 1 < cLine) (I:Inv X pins σ H s) (g:Im H a y o) (ry:RelV y u) (h:∀ w' s',Inv X pins σ H s'->RelV (o.getD .Az) w'->Q w' s') :
 wpAny (model X.prog X.w) A (call (.builtin "dict.get") [.ref a,u]) Q E s:=by
 rcases g with ⟨kvs,k,e,ey,l⟩|⟨kvs,k,b,e,ey,eb,l⟩
 ·subst ey
  obtain⟨z,hd,vs,rel,dd⟩:=Mm I.Au e
  refine call_meetsIn PySem.F.slot_dict_get dd.typeIs PySem.F.entry_dict_get (PySem.F.args_dict_get_2 _ _) (meets_dict_get (B4 X.prog X.w) a (Ml ry) hd) ⟨_,dd.mapOf,h _ _ (I.tok _) ?_⟩
  rw[l]
  exact (rel.val k).getD rfl
 ·subst ey
  cases (show u=zZ b from ry)
  obtain⟨z,hd,xs,rel,dd⟩:=Mn I.Au e
  refine call_meetsIn PySem.F.slot_dict_get dd.typeIs PySem.F.entry_dict_get (PySem.F.args_dict_get_2 _ _) (meetsH_dict_get (tupleKind (B4 X.prog X.w)) a b hd) ⟨tupleKind_room_in1 hu,k,xs,Il I.Au eb,dd,h _ _ (I.tok _) ?_⟩
  rw[l]
  exact (rel.val k).getD rfl
end
def jR (td ty:TE):TE:=fun σ H Q=>td σ H fun x H1=>∃ a,x=.ref a/\rO H1 a/\ty σ H1 fun y H2=>∃ o,Im H2 a y o/\Q (o.getD .Az) H2
section
variable {X:Cx}{o e f:Expr}{apos ac:Pos}{td ty tx:TE}
theorem Xd (hu:X.A.units + 1 < cLine) (ho:PE X o td) (he:PE X e ty) (m:M1 X o "get" apos e ac):PE X (.Call (.Attribute o "get" apos) [e] [] ac) (jR td ty):=by
 intro pins s σ H Q I h
 refine wpAny_Call_method m.base m.vF m.line PySem.F.plainAttrs_dict PySem.F.slot_dict_get PySem.F.type_dict_get (Bb (ho pins s σ H _ I h) fun u s1 ⟨x,H1,I1,rx,a,ex,d,q1⟩=>?_)
 subst ex
 obtain rfl:u=zZ a:=rx
 obtain⟨t1,t2,_⟩:=SG I1 d
 refine⟨t1,t2,?_⟩
 rw[m.nX]
 refine Calls.callWith_builtin rfl (Calls.evalArgs_plain (yT (Bb (he pins s1 σ H1 _ I1 q1) fun iv s2 ⟨y,H2,I2,ry,ov,g,q2⟩=>Calls.spliced_nil ?_)))
 exact jQ hu I2 g ry fun w' s3 I3 bz=>⟨_,H2,I3,bz,q2⟩
end
def J0 (sc outer:Scope):Bool :=
 decide (sc.kind=.function) && sc.names.all fun y=>decide (y.2≠.cell) && (decide (y.2≠.free) || decide (outer.names.lookup y.1=some .cell) || decide (outer.names.lookup y.1=some .free)) && (decide (y.2≠.local) || decide (sc.names.lookup y.1=some .local))
def Pn (N NB:List Str) (sc:Scope) (μ:List (Option Nat)):Bool :=
 decide (NB.length=μ.length) && (NB.zip μ).all fun p=>match p.2 with
  |none=>true
  |some i=>decide (N[i]? =some p.1) && decide (sc.names.lookup p.1=some .free)
def ES (μ:List (Option Nat)) (σ:St):St:=μ.map fun o=>o.bind fun i=>(σ[i]?).join
def HW (cells:List (Str×Addr)):List (Str×NameKind)->List (Str×Addr)->List (Str×Addr)
 |[],cs=>cs
 |(n,k)::r,cs=>HW cells r (if (k == .free)=true then (n,(cells.lookup n).getD 0)::cs else cs)
theorem HZ {scope:Scope}{env:Env}(h:∀ y∈scope.names,y.2=.free->∃ c,env.cells.lookup y.1=some c):closureFor scope env=pure (HW env.cells scope.names []):=by
 unfold closureFor
 have key:∀(names:List (Str×NameKind)) (cs:List (Str×Addr)),(∀ y∈names,y.2=.free->∃ c,env.cells.lookup y.1=some c)->
  (forIn names cs fun (x:Str×NameKind) r=>match x with
   |(name,kind)=>if (kind == yS)=true then do
    let __do_lift <-cellOf env name
    pure (ForInStep.yield ((name,__do_lift)::r))
    else pure (ForInStep.yield r):Sem _)=pure (HW env.cells names cs):=by
  intro names
  induction names with
  |nil=>intro cs _;rfl
  |cons y r ih =>
   intro cs hy
   obtain⟨n,k⟩:=y
   rw[List.forIn_cons]
   by_cases hk:k=.free
   ·subst hk
    obtain⟨c,hc⟩:=hy (n,.free) zd rfl
    have e:cellOf env n=pure c:=by unfold cellOf;rw[show env.cells.lookup n=some c from hc]
    simp only[e,beq_self_eq_true,if_true,pure_bind]
    rw[ih _ fun z hz=>hy z (ze _ hz)]
    simp only[HW,beq_self_eq_true,if_true]
    rw[show env.cells.lookup n=some c from hc];rfl
   ·have hb:(k == yS)=false:=by simpa using hk
    simp only[hb,zE,if_false,pure_bind]
    rw[ih _ fun z hz=>hy z (ze _ hz)]
    simp only[HW,hb,zE,if_false]
 have q:=key scope.names [] h
 simp only[bind_pure]
 exact q
theorem QQ {cells:List (Str×Addr)}:∀ {names:List (Str×NameKind)}{cs:List (Str×Addr)}{x:Str}{c:Addr},(x,c)∈HW cells names cs->(x,c)∈cs\/((x,.free)∈names/\c=(cells.lookup x).getD 0)
 |[],cs,x,c,h=>.inl h
 |(n,k)::r,cs,x,c,h=>by
  rcases QQ (names:=r) h with q|⟨q,e⟩
  ·by_cases hk:k=.free
   ·subst hk
    simp only[beq_self_eq_true,if_true] at q
    rcases zo.mp q with z|z
    ·cases z;exact .inr ⟨zd,rfl⟩
    ·exact .inl z
   ·have hb:(k == yS)=false:=by simpa using hk
    simp only[hb,zE,if_false] at q
    exact .inl q
  ·exact .inr ⟨ze _ q,e⟩
theorem Mp {cells:List (Str×Addr)}:∀ {names:List (Str×NameKind)}{cs:List (Str×Addr)}{p:Str×Addr},p∈cs->p∈HW cells names cs
 |[],_,_,h=>h
 |(n,k)::r,cs,p,h=>by
  show p∈HW cells r _
  refine Mp ?_
  by_cases hk:(k == yS)=true
  ·rw[if_pos hk];exact ze _ h
  ·rw[if_neg hk];exact h
theorem Mq {cells:List (Str×Addr)}:∀ {names:List (Str×NameKind)}{cs:List (Str×Addr)}{x:Str},(x,.free)∈names->∃ c,(x,c)∈HW cells names cs
 |(n,k)::r,cs,x,h=>by
  rcases zo.mp h with z|z
  ·cases z
   refine⟨(cells.lookup n).getD 0,?_⟩
   show _∈HW cells r (if (yS == yS)=true then _ else _)
   exact Mp (by rw[if_pos (beq_self_eq_true _)];exact zd)
  ·exact Mq (names:=r) z
theorem ET {x:Str}{c:Addr}:∀ {l:List (Str×Addr)},(x,c)∈l->∃ c',l.lookup x=some c'
 |(y,d)::r,h=>by
  rw[List.lookup_cons]
  by_cases e:(x == y)=true
  ·rw[e];exact⟨d,rfl⟩
  ·rw[Bool.eq_false_iff.mpr e]
   rcases zo.mp h with z|z
   ·cases z;exact absurd (beq_self_eq_true x) e
   ·exact ET z
theorem J2 {scope:Scope}{env:Env}{x:Str}{k:NameKind}(h:(relabel scope env).names.lookup x=some k):∃ k',scope.names.lookup x=some k'/\(k=k'\/(k'=.free/\k=.cell)):=by
 unfold relabel at h
 dsimp only at h
 revert h
 induction scope.names with
 |nil=>intro h;cases h
 |cons y r ih =>
  obtain⟨n,k'⟩:=y
  intro h
  rw[zf,List.lookup_cons] at h
  rw[List.lookup_cons]
  by_cases hc:(k' == yS && env.scope.kind == .function && env.kindOf n == some .cell)=true
  ·dsimp only at h
   rw[if_pos hc] at h
   dsimp only at h
   cases e:x == n with
   |true =>
    rw[e] at h
    have hf:k'=.free:=by
     have:=hc
     simp only[zR] at this
     simpa using this.1.1
    exact⟨k',rfl,.inr ⟨hf,(zM h).symm⟩⟩
   |false=>rw[e] at h;exact ih h
  ·dsimp only at h
   rw[if_neg hc] at h
   dsimp only at h
   cases e:x == n with
   |true=>rw[e] at h;exact⟨k',rfl,.inl (zM h).symm⟩
   |false=>rw[e] at h;exact ih h
theorem lookup_mem {α:Type}{x:Str}{k:α}:∀ {l:List (Str×α)},l.lookup x=some k->(x,k)∈l
 |(y,d)::r,h=>by
  rw[List.lookup_cons] at h
  cases e:x == y with
  |true =>
   rw[e] at h;cases h;have:x=y:=by simpa using e
   subst this;exact zd
  |false=>rw[e] at h;exact ze _ (lookup_mem h)
def blockOf (X:Cx) (s:Shared) (H:Hp) (scope:Scope) (C:Addr) (NB:List Str) (ex:List Addr):Cx :=
 { X with N:=NB,s₀:=s,H₀:=H,env:=compEnvC scope (HW X.env.cells scope.names []) C X.env,outer:=X.stack,stack:=X.stack,ex:=ex,fn:=fun _=>false,pn:=[],xe:=fun _ _=>False }
section
variable {X:Cx}{pins:List (Addr×Obj)}{σ:St}{H:Hp}{s s4:Shared}{scope:Scope}{NB:List Str}{μ:List (Option Nat)}{fp:List Addr}{C:Addr}
theorem Hh (h:J0 scope X.env.scope=true):scope.kind=.function:=by
 unfold J0 at h
 simp only[zR,decide_eq_true_eq] at h
 exact h.1
theorem Hi {sc outer:Scope}(h:J0 sc outer=true){y:Str×NameKind}(hy:y∈sc.names):y.2≠.cell/\(y.2=.free->outer.names.lookup y.1=some .cell\/outer.names.lookup y.1=some .free)/\(y.2=.local->sc.names.lookup y.1=some .local):=by
 unfold J0 at h
 simp only[zR,decide_eq_true_eq,List.all_eq_true,Bool.or_eq_true] at h
 obtain⟨⟨h1,h2⟩,h3⟩:=h.2 y hy
 exact⟨h1,fun e=>by
  rcases h2 with (q|q)|q
  ·exact absurd e q
  ·exact .inl q
  ·exact .inr q,fun e=>h3.elim (fun q=>absurd e q) id⟩
theorem Io (I:Inv X pins σ H s) (h:J0 scope X.env.scope=true){x:Str}(hx:(x,.free)∈scope.names):∃ c,X.env.cells.lookup x=some c:=I.ok.has x ((Hi h hx).2.1 rfl)
theorem DY (I:Inv X pins σ H s) (h:J0 scope X.env.scope=true){x:Str}{c:Addr}(e:(HW X.env.cells scope.names []).lookup x=some c):X.env.cells.lookup x=some c:=by
 rcases QQ (lookup_mem e) with q|⟨q,r⟩
 ·cases q
 ·obtain⟨c',e'⟩:=Io I h q
  rw[e'] at r
  rw[e',r];rfl
theorem Mr {env:Env}(h:J0 scope env.scope=true){x:Str}{k:NameKind}(hk:(relabel scope env).names.lookup x=some k) (hc:k=.cell\/k=.free):(x,.free)∈scope.names:=by
 obtain⟨k',e,q⟩:=J2 hk
 have m:=lookup_mem e
 have n:=(Hi h m).1
 rcases q with q|⟨q,_⟩
 ·subst q
  rcases hc with z|z
  ·exact absurd z n
  ·subst z;exact m
 ·subst q;exact m
theorem Zv (h:Pn X.N NB scope μ=true):NB.length=μ.length/\∀(j i:Nat),μ[j]? =some (some i)->∃ x,NB[j]? =some x/\X.N[i]? =some x/\scope.names.lookup x=some .free:=by
 unfold Pn at h
 simp only[zR,decide_eq_true_eq,List.all_eq_true] at h
 refine⟨h.1,fun j i e=>?_⟩
 have hj:j < NB.length:=by rw[h.1];exact (zw.mp e).1
 have m:(NB[j],some i)∈NB.zip μ:=by
  refine List.mem_iff_getElem?.mpr ⟨j,?_⟩
  rw[List.getElem?_zip_eq_some]
  exact⟨zq hj,e⟩
 have q:=h.2 _ m
 dsimp only at q
 simp only[zR,decide_eq_true_eq] at q
 exact⟨NB[j],zq hj,q.1,q.2⟩
theorem QR (I:Inv X pins σ H s) (aG:J0 scope X.env.scope=true) (bE:Pn X.N NB scope μ=true) (h9:∀ b∈fp,Lj X pins H b) (lj:∀ b∈fp,∃ o,s.heap.get? b=some o)
 (hC:s.heap.objs.size<=C) {h4:Heap} {t4:Nat} (ns:h4.Ns C fun _=>none) (k:∀ b o,s.heap.get? b=some o->h4.get? b=some o) :
 Inv (blockOf X s H scope C NB fp) [] (ES μ σ) H { s with heap:=h4,toks:=t4 }:=by
 obtain⟨hlen,bE⟩:=Zv bE
 have uf:∀ b o,s.heap.get? b=some o->b≠C:=fun b o e=>zC (zy (zu e) hC)
 have lm:∀ x c,X.env.cells.lookup x=some c->c≠C:=fun x c e=>by
  obtain⟨v,o,ho,_⟩:=I.cell x c e
  exact uf c o ho
 refine⟨⟨I.ok.mod,(show scope.kind=_ from Hh aG),I.ok.glob,I.ok.blt,hC,fun x y c h1 h2=>I.ok.inj x y c (DY I aG h1) (DY I aG h2),fun x hx=>?_,fun x c h _=>(by cases h),I.ok.hd,I.ok.frames,.inl rfl,fun b hb=>?_,I.bs,yo I.ok.Z6 I.sz,fun b o e hb=>?_,fun b hb hz=>?_,I.stack,I.Pa⟩,
  rfl,I.bare,Un.kept k,⟨_,ns,fun j x v e1 e2 e3=>?_⟩,fun x c e=>?_,I.Au.fresh hC,fun x c e=>I.Gj x c (DY I aG e),fun p hp=>(by cases hp),I.Au.kept k,?_⟩
 ·have q:(x,yS)∈scope.names:=by
   rcases hx with hx|hx
   ·exact Mr aG hx (.inl rfl)
   ·exact Mr aG hx (.inr rfl)
  obtain⟨c,m⟩:=Mq (cells:=X.env.cells) (cs:=[]) q
  exact ET m
 ·obtain⟨o,ho⟩:=lj b hb
  refine⟨uf b o ho,fun x c e z=>?_⟩
  exact (h9 b hb).2.2.2.2.1 x c (DY I aG e) z
 ·rcases (h9 b hb).2.2.2.1 with z|z
  ·exact I.ok.Wz b o e z
  ·exact absurd (zy (zu (I.ok.bs b o e).1) z) (Nat.lt_irrefl _)
 ·rcases zo.mp (I.Sk b hz) with e|e
  ·exact (h9 b hb).2.1 e
  ·exact (h9 b hb).2.2.1 e
 ·have i7:(μ[j]?).map (fun o=>o.bind fun i=>(σ[i]?).join)=some (some v):=by
   rw[<-zF];exact e2
  cases q:μ[j]? with
  |none=>rw[q] at i7;cases i7
  |some o =>
   rw[q] at i7
   cases o with
   |none=>cases i7
   |some i =>
    have e4:(σ[i]?).join=some v:=by simpa using i7
    have e5:σ[i]? =some (some v):=by
     cases z:σ[i]? with
     |none=>rw[z] at e4;cases e4
     |some w=>rw[z] at e4;simp at e4;rw[e4]
    obtain⟨x',n1,n2,n3⟩:=bE j i q
    have ex:x'=x:=zM (n1.symm.trans e1)
    subst ex
    have m:=lookup_mem n3
    have ov:=(Hi aG m).2.1 rfl
    obtain⟨mm,hn,hl⟩:=I.loc
    obtain⟨u,r,l⟩:=hl i x' v n2 e5 (ov.elim (fun z=>.inr (.inl z)) fun z=>.inr (.inr z))
    refine⟨u,r,.inr ⟨?_,?_⟩⟩
    ·rcases e3 with z|z|z
     ·obtain⟨k',z1,z2⟩:=J2 (k:=.local) z
      rw[n3] at z1
      cases z1
      rcases z2 with z2|⟨_,z2⟩<;>cases z2
     ·exact .inl z
     ·exact .inr z
    ·rcases l with ⟨l,_⟩|⟨_,c,l1,l2⟩
     ·rcases ov with z|z<;>(rw[show X.env.kindOf x'=_ from z] at l;cases l)
     ·obtain⟨c',m'⟩:=Mq (cells:=X.env.cells) (cs:=[]) m
      obtain⟨xN,l3⟩:=ET m'
      have l4:=DY I aG l3
      rw[l1] at l4
      cases l4
      refine⟨c,l3,?_⟩
      obtain⟨o,ho,hd⟩:=l2
      exact⟨o,k _ _ ho,hd⟩
 ·obtain⟨v,o,ho,hd⟩:=I.cell x c (DY I aG e)
  exact⟨v,o,k _ _ ho,hd⟩
 ·show (ES μ σ).length=NB.length
  unfold ES
  rw[zc,hlen]
theorem Fm.adopt {P:Program}{w:World}{H:Hp}{h:Heap}{a:Addr}{o:HO}(x:Fm P w H h) (hn:H a=none) (new:BB P w (upd H a o) h a o):Fm P w (upd H a o) h:=fun b u e=>by
 by_cases hb:b=a
 ·subst hb;rw[Ar] at e;cases e;exact new
 ·rw[Ah hb] at e
  exact (x b u e).P8 (fun c v _ q=>q) (fun c q=>by rw[Ah (Ay q hn)];exact q) fun c xs q=>by rw[Ah (Ay q hn)];exact q
theorem Vt {H':Hp}{s':Shared}{h':Heap}{D:Addr}{pl:List (Addr×Obj)}{σ':St}{aa:List Value}{ys:List V}{n:Nat}(I:Inv X pins σ H s) (h9:∀ b∈fp,Lj X pins H b) (J:Inv (blockOf X s H scope C NB fp) pl σ' H' s')
 (hC:s.heap.objs.size<=C) (hD:s.heap.objs.size<=D) (cH:D≠C) (eD:s'.heap.get? D=some { cls:=.type "list",data:=.seq aa.toArray n }) (nD:H' D=none) (r:Vals ys aa) (hz:ys.length<=sizeLine)
 (sb:yV C s'.heap h'):Inv X pins σ (upd H' D (.lst ys)) { s' with heap:=h' }:=by
 have e9:∀ b o,s.heap.get? b=some o->b≠C:=fun b o e=>zC (zy (zu e) hC)
 have ng:∀ b o,s.heap.get? b=some o->b≠D:=fun b o e=>zC (zy (zu e) hD)
 have freshD:H D=none:=I.Au.fresh hD
 have nC:H' C=none:=J.free
 have u:Un (KW X.stack) fp H H' s.heap s'.heap:=J.base
 have e7:Fm X.prog X.w H' h':=fun b ob e=>(J.Au b ob e).P8 (fun c v hc q=>(sb.2 c (by
  intro z
  subst z
  rcases hc with rfl|hc
  ·rw[nC] at e;cases e
  ·rw[nC] at hc;cases hc)).trans q) (fun _ q=>q) fun _ _ q=>q
 refine I.fP (ch:=fp) J.os ⟨fun b o e n hb hx=>?_,fun b o e n hb hx=>?_,fun b o e n hx=>?_,fun b o e hx=>?_,fun b xs e=>?_,fun b o u' e=>?_,fun b ps e=>?_⟩ (e7.adopt nD ⟨hz,aa,n,r,(sb.2 D cH).trans eD⟩) J.bare fun b hb=>?_
 ·exact (sb.2 b (e9 b o e)).trans (u.keep b o e n hb hx)
 ·obtain⟨sl,q⟩:=u.slot b o e n hb hx
  exact⟨sl,(sb.2 b (e9 b o e)).trans q⟩
 ·rw[Ah (ng b o e)];exact u.free b o e n hx
 ·obtain⟨o',q⟩:=u.there b o e hx
  exact⟨o',(sb.2 b (e9 b o e)).trans q⟩
 ·rw[Ah (Ay e freshD)];exact u.NI b xs e
 ·rw[Ah (Ay e freshD)];exact u.Mc b o u' e
 ·rw[Ah (Ay e freshD)];exact u.NJ b ps e
 ·obtain⟨_,f1,_,f3,f4,f5⟩:=h9 b hb
  exact⟨f3,f1,f4,f5⟩
end
theorem Po {prog:Program}{w:World}{A:Around}{R:Result->Shared->Prop}{s:Shared}{elt target iter:Expr}{ifs:List Expr}{scope:Scope}{pos:Pos}{it acc:Value}{env:Env}(I:Nat->Shared->Prop)
 (turn:∀ n s,I n s->wpAny (model prog w) A (pyNext it) (fun r s₁=>match r with
  |none=>R (.ok .next) s₁
  |some v=>wpAny (model prog w) A (letOwnedTupleGo target it v) (fun _ s₁'=>wpAny (model prog w) A (assign target env v) (fun _ s₂ =>
   wpAny (model prog w) A (forIn ifs true fun c r=>if r=true then do let ok <-isTrue c env (eval c env);pure (ForInStep.yield ok) else pure (ForInStep.yield r)) (fun ok s₃ =>
    if ok=true then wpAny (model prog w) A (eval elt env) (fun x s₄ =>
     wpAny (model prog w) A (call (.builtin "list.append") [acc,x]) (fun _ s₅=>∃ m,m < n/\I m s₅) (fun _ _=>False) s₄) (fun _ _=>False) s₃
    else ∃ m,m < n/\I m s₃) (fun _ _=>False) s₂) (fun _ _=>False) s₁') (fun _ _=>False) s₁) (fun _ _=>False) s)
 (n:Nat) (h:I n s) :
 codeAny (model prog w) A (.compLoop (.ListComp elt [⟨target,iter,ifs,0⟩] scope pos) 0 it acc env) R s:=by
 refine codeAny_loop rfl I (fun n s hI=>?_) n h
 show wpAny _ A ((compTurn (.ListComp elt [⟨target,iter,ifs,0⟩] scope pos) 0 it acc env).onRaise (fun x=>do noteFrame x env;theTreesLotGoes x)) _ _ s
 refine wpAny_noted ?_
 rw[compTurn_list]
 refine wpAny_bind (wpAny_standAt (wpAny_bind (wpAny_mono (turn n s hI) (fun r s₁ h₁=>?_) fun _ _ h'=>h'.elim)))
 cases r with
 |none=>exact wpAny_pure h₁
 |some v =>
  refine wpAny_bind (wpAny_mono h₁ (fun _ s₁' h₁'=>?_) fun _ _ h'=>h'.elim)
  refine wpAny_bind (wpAny_mono h₁' (fun _ s₂ h₂=>wpAny_bind (wpAny_mono h₂ (fun ok s₃ h₃=>?_) fun _ _ h'=>h'.elim)) fun _ _ h'=>h'.elim)
  cases ok with
  |false=>exact wpAny_pure ⟨rfl,h₃⟩
  |true =>
   exact wpAny_bind (wpAny_bind (wpAny_mono h₃ (fun x s₄ h₄=>wpAny_bind (wpAny_mono h₄ (fun _ s₅ h₅=>wpAny_pure (wpAny_pure ⟨rfl,h₅⟩)) fun _ _ h'=>h'.elim)) fun _ _ h'=>h'.elim))
def mE (X:Cx) (cs:List Expr) (t:TT):Prop :=
 ∀(pins:List (Addr×Obj)) (s:Shared) (σ:St) (H:Hp) (Q:Bool->Hp->Prop),Inv X pins σ H s->t σ H Q->
  wpAny (model X.prog X.w) X.A (forIn cs true fun c r=>if r=true then do let ok <-isTrue c X.env (eval c X.env);pure (ForInStep.yield ok) else pure (ForInStep.yield r)) (TP X pins σ Q) X.xe s
def rQ:TT:=fun _ H Q=>Q true H
theorem Zw {X:Cx}:mE X [] rQ:=fun _ _ _ H _ I h=>wpAny_tests_nil ⟨H,I,h⟩
theorem Zx {X:Cx}{c:Expr}{t:TT}(h:PT X c t):mE X [c] t:=fun pins s σ H Q I q=>wpAny_tests_one (h pins s σ H Q I q)
def Ki (μ:List (Option Nat)) (g:TG):Prop:=∀ σ x H Q,g x (ES μ σ) H Q->g x (ES μ σ) H fun σ' H'=>Q σ' H'/\∀(j:Nat) v,(ES μ σ)[j]? =some (some v)->σ'[j]? =some (some v)
theorem Zy {μ:List (Option Nat)}{i:Nat}(h:μ[i]? =some none):Ki μ (O9 i):=fun σ x H Q q=>by
 refine⟨q,fun j v e=>?_⟩
 have af:j≠i:=fun z=>by
  subst z
  unfold ES at e
  rw[zF,h] at e
  cases e
 rw[yn (zU af)]
 exact e
def uB (J:It) (H1:Hp) (Q:VK) (st:V->Hp->(St->Hp->Prop)->Prop) (tc:TT) (te:TE):Prop :=
 ∃ W:Nat->Nat->List V->Hp->Prop,(∃ m,W 0 m [] H1)/\∀ i m ys H2,W i m ys H2->
  (J.stop i H2/\∀ D,H2 D=none->Q (.ref D) (upd H2 D (.lst ys))) \/
  (J.go i H2/\ys.length < sizeLine/\∃ N:List V->Hp->Prop,(∀ b9 H',N b9 H'->∃ m',m' < m/\W (i + 1) m' b9 H')/\∀ x H3,J.fQ i H2 x H3->st x H3 fun σ4 H4=>tc σ4 H4 fun b H5=>if b=true then te σ4 H5 fun y H6=>N (ys++[y]) H6 else N ys H5)
def U5 (wi:TI) (μ:List (Option Nat)) (g:TG) (tc:Shared->Hp->Addr->List Addr->TT) (te:Shared->Hp->Addr->List Addr->TE):TE:=fun σ H Q=>wi σ H fun J H1=>∀ s C ex,uB J H1 Q (fun x H K=>g x (ES μ σ) H K) (tc s H1 C ex) (te s H1 C ex)
section
variable {X:Cx}{pins:List (Addr×Obj)}{σ:St}{H2:Hp}{s2:Shared}{tg elt iter:Expr}{ifs:List Expr}{scope:Scope}{pos:Pos}{NB:List Str}{μ:List (Option Nat)}{g:TG}{tc:Shared->Hp->Addr->List Addr->TT}{te:Shared->Hp->Addr->List Addr->TE}{fp:List Addr}{it:Addr}{tn:Nat->Heap->Prop}{J:It}{Q:VK}
theorem Ol (hc:X.calm=true) (I2:Inv X pins σ H2 s2) (T:Turn X.prog X.w X.K tg J fp it tn) (cJ:tn 0 s2.heap) (f2:∀ b∈fp,Lj X pins H2 b)
 (aG:J0 scope X.env.scope=true) (bE:Pn X.N NB scope μ=true) (i8:Ki μ g)
 (hb:∀(s:Shared) (H:Hp) (C:Addr) (ex:List Addr),PG (blockOf X s H scope C NB ex) tg g/\mE (blockOf X s H scope C NB ex) ifs (tc s H C ex)/\PE (blockOf X s H scope C NB ex) elt (te s H C ex))
 (q:∀ C,uB J H2 Q (fun x H K=>g x (ES μ σ) H K) (tc s2 H2 C fp) (te s2 H2 C fp)) {RR:Value->Addr->Result->Shared->Prop} {E:Value->Shared->Prop}
 (fin:∀(D C:Addr) (s':Shared) (H':Hp) (ys:List V) (m:Str->Option Value),s2.heap.objs.size<=D->s2.heap.objs.size<=C->D≠C->s'.heap.Ns C m->H' C=none->(∀ h',yV C s'.heap h'->Inv X pins σ (upd H' D (.lst ys)) { s' with heap:=h' })->Q (.ref D) (upd H' D (.lst ys))->RR (.ref D) C (.ok .next) s') :
 wpAny (model X.prog X.w) X.A (newList []) (fun acc s₃=>wpAny (model X.prog X.w) X.A (newFunctionEnv scope X.env.globals (HW X.env.cells scope.names []) [] X.env.qual none .none (some X.env)) (fun i9 s₄ =>
  codeAny (model X.prog X.w) X.A (.compStart (.ListComp elt [⟨tg,iter,ifs,0⟩] scope pos) 0 (.ref it) acc { i9 with scope:=relabel scope X.env }) (RR acc i9.locals) s₄) E s₃) E s2:=by
 have bO:∀ y∈scope.names,y.2≠.cell:=fun y hy=>(Hi aG hy).1
 refine wpAny_newObj_type (wpAny_newFunctionEnv bO (by intro y hy;simp at hy) (fun h₁ hns₁ hsb₁=>?_) (Hh aG))
 dsimp only at hns₁ hsb₁ ⊢
 generalize nh:s2.heap.push { cls:=.type "list",dict:=none,data:=.seq ([]:List Value).toArray }=ln at hns₁ hsb₁ ⊢
 have hC:ln.objs.size=s2.heap.objs.size + 1:=by rw[<-nh,Heap.size_push]
 have cH:s2.heap.objs.size≠ln.objs.size:=by rw[hC];exact zC (Nat.lt_succ_self _)
 have ja:s2.heap.objs.size<=ln.objs.size:=by rw[hC];exact Nat.le_succ _
 have old:∀ b o,s2.heap.get? b=some o->h₁.get? b=some o:=fun b o e=>hsb₁.extBut b o (by rw[hC];exact zC (Nat.lt_succ_of_lt (zu e))) (zp _ (nh▸zp _ e))
 have eD:h₁.get? s2.heap.objs.size=some { cls:=.type "list",data:=.seq ([]:List Value).toArray }:=hsb₁.extBut _ _ cH (zp _ (nh▸zG _ rfl))
 have lj:∀ b∈fp,∃ o,s2.heap.get? b=some o:=fun b hb=>let ⟨o,e,_⟩:=T.obj _ _ cJ b hb;⟨o,e⟩
 have ni:∀ b∈fp,b≠s2.heap.objs.size:=fun b hb=>let ⟨o,e⟩:=lj b hb;zC (zu e)
 generalize ug:s2.heap.objs.size=D at ja cH eD ni ⊢
 generalize xO:ln.objs.size=C at *
 have bV:s2.heap.objs.size<=D:=by rw[ug];exact zx _
 have cn:s2.heap.objs.size<=C:=by rw[ug];exact ja
 have I4:Inv (blockOf X s2 H2 scope C NB fp) [] (ES μ σ) H2 { s2 with heap:=h₁,toks:=s2.toks + ([]:List (Str×Value)).length }:=QR I2 aG bE f2 lj cn (by simpa using hns₁) old
 have bB:∀ {H':Hp} {pl:List (Addr×Obj)},(∀ b∈fp,H' b=none)->(∀ p∈pl,p.1=D)->∀ b∈fp,Lj (blockOf X s2 H2 scope C NB fp) pl H' b:=fun {H' pl} hn hp b hb=>by
  refine⟨hn b hb,(I4.ok.pS b hb).1,I4.ok.WA b hb,.inl hb,fun x c e z=>(I4.ok.pS b hb).2 x c e z,fun p jb z=>?_⟩
  have nj:p∈pl:=by simpa [blockOf] using jb
  exact ni b hb (z▸hp p nj)
 have vw:D∉(blockOf X s2 H2 scope C NB fp).fs:=fun z=>by
  obtain⟨_,o,ho,_⟩:=I4.ok.IV.mem z
  exact absurd (zu ho) (Nat.not_lt.mpr bV)
 obtain⟨W,⟨m0,w0⟩,turn⟩:=q C
 have loop:∀ s₃:Shared,s₃={ s2 with heap:=h₁,toks:=s2.toks + ([]:List (Str×Value)).length } ->
  codeAny (model X.prog X.w) X.A (.compLoop (.ListComp elt [⟨tg,iter,ifs,0⟩] scope pos) 0 (.ref it) (.ref D) (compEnvC scope (HW X.env.cells scope.names []) C X.env)) (RR (.ref D) C) s₃:=by
  rintro s₃ rfl
  refine Po (fun n s'=>∃ i ys aa k H',Inv (blockOf X s2 H2 scope C NB fp) [(D,{ cls:=.type "list",data:=.seq aa k })] (ES μ σ) H' s'/\tn i s'.heap/\(∀ b∈fp,H' b=none)/\Vals ys aa.toList/\ys.length<=sizeLine/\W i n ys H') ?_ m0
   ⟨0,[],#[],0,H2,I4.IW fun p hp=>?_,T.keep _ _ _ cJ fun b hb o e=>old b o e,fun b hb=>(f2 b hb).1,.nil,zP _,w0⟩
  rotate_left
  ·have e:=zg.mp hp
   subst e
   exact⟨eD,I2.Au.fresh bV,cH,vw,fun v=>by simp⟩
  rintro n s3 ⟨i,ys,aa,k,H3,I3,im,ip,rv,hz,w3⟩
  rcases turn i n ys H3 w3 with ⟨stop,qn⟩|⟨go,aj,N,hN,step⟩
  ·refine wpAny_mono (T.done (blockOf X s2 H2 scope C NB fp) rfl rfl rfl hc i _ s3 _ H3 (fun _ _=>False) I3 (bB ip (by simp)) im stop) (fun r s4 ⟨hr,lp⟩=>?_) fun _ _ e=>e
   subst hr
   obtain⟨p1,p2,p3,p4,p5⟩:=lp.pin _ (zm _ zd)
   obtain⟨m,hn,_⟩:=id lp.loc
   have e1:s4.heap.get? D=some { cls:=.type "list",data:=.seq aa.toList.toArray k }:=by simpa using p1
   exact fin D C s4 H3 ys m bV cn cH hn lp.free (fun h' sb=>Vt I2 f2 lp cn bV cH e1 p2 rv hz sb) (qn D p2)
  ·refine wpAny_mono (T.item (blockOf X s2 H2 scope C NB fp) rfl rfl rfl hc i _ s3 _ H3 (fun _ _=>False) I3 (bB ip (by simp)) im go) (fun r s4 ⟨u,hr,h4⟩=>?_) fun _ _ e=>e
   subst hr
   refine Bb h4 fun _ s5 ⟨x,H5,I5,r5,y5,ef,mo⟩=>?_
   have mq:=I5.pinned (bB mo (by simp)) (T.obj _ _ ef)
   have ci:=i8 σ x H5 _ (step x H5 y5)
   obtain⟨hg,ht,he⟩:=hb s2 H2 C fp
   refine Bb (hg _ s5 _ H5 x u _ mq r5 ci) fun _ s6 ⟨σ6,H6,I6,q6,k6⟩=>?_
   refine Bb (ht _ s6 σ6 H6 _ I6 q6) fun ok s7 ⟨H7,I7,q7⟩=>?_
   have again:∀ {H8:Hp} {s8:Shared} {its':Array Value} {k':Nat} {b9:List V},Inv (blockOf X s2 H2 scope C NB fp) ([(D,{ cls:=.type "list",data:=.seq its' k' })]++Ih fp s5.heap) σ6 H8 s8->Vals b9 its'.toList->b9.length<=sizeLine->(∃ m,m < n/\W (i + 1) m b9 H8)->
    ∃ m,m < n/\∃ i ys aa k H',Inv (blockOf X s2 H2 scope C NB fp) [(D,{ cls:=.type "list",data:=.seq aa k })] (ES μ σ) H' s8/\tn i s8.heap/\(∀ b∈fp,H' b=none)/\Vals ys aa.toList/\ys.length<=sizeLine/\W i m ys H':=fun {H8 s8 its' k' b9} I8 bi vx n8=>by
    obtain⟨m',hm,w8⟩:=n8
    refine⟨m',hm,i + 1,b9,its',k',H8,(I8.IX.weak ?_ k6),T.keep _ _ _ ef fun b hb o e=>(I8.pin (b,o) (zm _ (zm _ (Fp hb e)))).1,fun b hb=>?_,bi,vx,w8⟩
    ·rw[I8.len];exact I4.len
    ·obtain⟨o,e,d⟩:=T.obj _ _ ef b hb
     exact (I8.pin (b,o) (zm _ (zm _ (Fp hb e)))).2.1
   cases ok with
   |false =>
    simp only[zE,if_false] at q7 ⊢
    exact again I7 rv hz (hN _ _ q7)
   |true =>
    simp only[if_true] at q7 ⊢
    refine Bb (he _ s7 σ6 H7 _ I7 q7) fun uy s8 ⟨y,H8,I8,r8,q8⟩=>?_
    obtain⟨p1,p2,p3,p4,p5⟩:=I8.pin (D,_) (zm _ (zN _ zd))
    have e1:s8.heap.get? D=some { cls:=.type "list",data:=.seq aa k }:=p1
    have hsz:aa.size=ys.length:=by rw[<-Array.length_toList];exact rv.length.symm
    refine call_meets F.slot_list_append ⟨_,e1,rfl⟩ F.entry_list_append (F.args_list_append_2 _ _) (PySem.list_append D aa k uy (by rw[hsz];omega)) ⟨e1,?_⟩
    have nk:=PySem.IsL.update e1 (·.push uy)
    have Iu:Inv (blockOf X s2 H2 scope C NB fp) (Ih fp s5.heap) σ6 H8 s8:=I8.IW fun p hp=>I8.pin p (zm _ (zm _ hp))
    have It:=Iu.turned (it:=D) (h':=s8.heap.update D (yF (·.push uy))) (t':=s8.toks) (fun b o hb e=>(yU _ _ (zU hb)).trans e) p2 p3 (.inr bV) (fun x c e z=>?_) (fun p hp z=>?_)
    ·refine again (its':=aa.push uy) (k':=if (aa.push uy).size == aa.size then k else k + 1) (It.IW fun p hp=>?_) (by simpa using rv.append (.cons r8 .nil)) (by rw[zJ,y8];omega) (hN _ _ q8)
     rcases zv.mp hp with hp|hp
     ·have e:=zg.mp hp
      subst e
      exact⟨nk,p2,p3,p4,fun v=>by simp⟩
     ·exact It.pin p (zm _ hp)
    ·have e':=DY I2 aG e
     obtain⟨v,o,ho,_⟩:=I2.cell x c e'
     exact absurd (zu ho) (by rw[z];exact Nat.not_lt.mpr bV)
    ·have jb:p∈Ih fp s5.heap:=by simpa [blockOf] using hp
     exact ni p.1 (Oa jb).1 z
 exact codeAny_compStart_list (loop _ rfl) (T.self _ 0 _ _ _ (T.keep _ _ _ cJ fun b hb o e=>old b o e) (loop _ rfl))
theorem Zz {wi:TI}(hc:X.calm=true) (hi:PI X tg iter wi) (aG:J0 scope X.env.scope=true) (bE:Pn X.N NB scope μ=true) (i8:Ki μ g)
 (hb:∀(s:Shared) (H:Hp) (C:Addr) (ex:List Addr),PG (blockOf X s H scope C NB ex) tg g/\mE (blockOf X s H scope C NB ex) ifs (tc s H C ex)/\PE (blockOf X s H scope C NB ex) elt (te s H C ex))
 (hs:∀ x,foldedSetIterable iter X.env x=pure x:=by intro _;rfl):PE X (.ListComp elt [⟨tg,iter,ifs,0⟩] scope pos) (U5 wi μ g tc te):=by
 intro pins s σ H Q I h
 have bF:∀ y∈scope.names,y.2=.local->scope.names.lookup y.1=some .local:=fun y hy=>(Hi aG hy).2.2
 have cp:closureFor scope X.env=pure (HW X.env.cells scope.names []):=HZ fun y hy e=>Io I aG (x:=y.1) (by rw[<-e];exact hy)
 rw[eval_ListComp]
 refine wpAny_comprehension_free (use:=none) rfl hs cp (Hh aG) bF (Bb (hi pins s σ H _ I h) fun v s1 h1=>Bb h1 fun lf s2 h2=>?_)
 obtain⟨it,fp,tn,J,H2,e,I2,T,cJ,f2,q⟩:=h2
 subst e
 refine Ol (RR:=fun acc C=>compPost (model X.prog X.w) X.A X.xe none (EP X pins σ Q) acc C) hc I2 T cJ f2 aG bE i8 hb (fun C=>q s2 C fp) ?_
 intro D C s' H' ys m hD hC cH hn nC hI hq
 exact⟨m,hn,fun h' sb=>⟨.ref D,_,hI h' sb,rfl,hq⟩⟩
def nY (i:Nat) (te:TE):TS:=fun D σ H=>te σ H fun x H1=>D.nx (σ.set i (some x)) H1
theorem U6 {wi:TI}{i:Nat}{y:Str}{py ay:Pos}(hN:X.N.Nodup) (jc:X.N[i]? =some y) (hy:Loc X.env.scope y) (hc:X.calm=true) (hi:PI X tg iter wi) (aG:J0 scope X.env.scope=true) (bE:Pn X.N NB scope μ=true) (i8:Ki μ g)
 (hb:∀(s:Shared) (H:Hp) (C:Addr) (ex:List Addr),PG (blockOf X s H scope C NB ex) tg g/\mE (blockOf X s H scope C NB ex) ifs (tc s H C ex)/\PE (blockOf X s H scope C NB ex) elt (te s H C ex))
 (bj:swapsWith (.ListComp elt [⟨tg,iter,ifs,0⟩] scope pos) (some (.Name y py)) ay.line X.env=pure true:=by rfl)
 (hs:∀ x,foldedSetIterable iter X.env x=pure x:=by intro _;rfl) (hf:X.fn y=true\/X.env.scope.names.lookup y=some .local:=by first|exact .inl rfl|exact .inr rfl|assumption) :
 PS X (.Assign [.Name y py] (.ListComp elt [⟨tg,iter,ifs,0⟩] scope pos) ay) (nY i (U5 wi μ g tc te)):=by
 intro pins s σ H D' I h
 have bF:∀ y∈scope.names,y.2=.local->scope.names.lookup y.1=some .local:=fun y hy=>(Hi aG hy).2.2
 have cp:closureFor scope X.env=pure (HW X.env.cells scope.names []):=HZ fun y hy e=>Io I aG (x:=y.1) (by rw[<-e];exact hy)
 rw[exec_Assign_Name_used _ _ _ _ bj]
 refine wpAny_bind (wpAny_standAt (wpAny_bind ?_))
 show wpAny _ X.A (do let _ <-comprehension (.ListComp elt [⟨tg,iter,ifs,0⟩] scope pos) scope X.env _ (newList []) false (eval iter X.env) (some (assign (.Name y py) X.env))) _ _ s
 refine wpAny_bind (wpAny_mono (wpAny_comprehension_free (use:=some (assign (.Name y py) X.env)) (Q:=fun _ s'=>SP X pins D' .next s') rfl hs cp (Hh aG) bF (Bb (hi pins s σ H _ I h) fun v s1 h1=>Bb h1 fun lf s2 h2=>?_)) (fun _ s' hq=>wpAny_pure (wpAny_pure hq)) fun _ _ e=>e)
 obtain⟨it,fp,tn,J,H2,e,I2,T,cJ,f2,q⟩:=h2
 subst e
 refine Ol (RR:=fun acc C=>compPost (model X.prog X.w) X.A X.xe (some (assign (.Name y py) X.env)) (fun _ s'=>SP X pins D' .next s') acc C) hc I2 T cJ f2 aG bE i8 hb (fun C=>q s2 C fp) ?_
 intro D C s' H' ys m hD hC cH hn nC hI hq
 have I':=hI s'.heap (.refl ..)
 show wpAny _ X.A (assign (.Name y py) X.env (.ref D)) _ _ _
 refine wpAny_assign_Name (O8 (i:=i) (v:=.ref D) I' hN jc hy rfl (fun ir vy nl=>?_) hf)
 obtain⟨a,sb,ha⟩:=nl
 have h7:a≠C:=by
  rcases ha with z|z
  ·rw[z];exact zC (zy I2.lt hC)
  ·obtain⟨v,o,ho,_⟩:=I2.cell y a z
   exact zC (zy (zu ho) hC)
 refine⟨m,hn.sameBut sb (zU h7),fun h' bG=>?_⟩
 refine⟨_,_,vy.turned (it:=C) (t':=ir.toks) (fun b o hb e=>(bG.2 b hb).trans e) (by rw[Ah (zU cH)];exact nC) (Nat.ne_of_gt (zy I2.lt hC)) (.inr (yo I2.sz hC)) (fun x c e z=>?_) (fun p hp z=>?_),hq⟩
 ·obtain⟨v,o,ho,_⟩:=I2.cell x c e
  exact absurd (zu ho) (by rw[z];exact Nat.not_lt.mpr hC)
 ·exact absurd (zu (I2.pin p hp).1) (by rw[z];exact Nat.not_lt.mpr hC)
end
def uC (K:za) (a:Addr):It :=
 ⟨fun i H=>∃ xs x,Dt K H a xs/\xs[i]? =some x,fun i H v H'=>∃ p x,H p=none/\v=.ref p/\(∀ xs,Dt K H a xs->xs[i]? =some x)/\H'=upd H p (.tup [.int i,x]),fun i H=>∃ xs,Dt K H a xs/\xs.length<=i⟩
theorem SH {X:Cx}{pins:List (Addr×Obj)}{σ:St}{H:Hp}{s:Shared}{h':Heap}{t':Nat}{e it:Addr}(I:Inv X pins σ H s) (he:Lj X pins H e) (hi:Lj X pins H it) (k:∀ b o,b≠e->b≠it->s.heap.get? b=some o->h'.get? b=some o):Inv X pins σ H { s with heap:=h',toks:=t' }:=by
 obtain⟨e0,e1,e2,e3,e4,e5⟩:=he
 obtain⟨f0,f1,f2,f3,f4,f5⟩:=hi
 have ne:∀ b u,H b=some u->b≠e/\b≠it:=fun b u q=>⟨fun z=>(by rw[z,e0] at q;cases q),fun z=>(by rw[z,f0] at q;cases q)⟩
 refine I.step (g':=s.gens) (d':=s.drawn) (ch:=[e,it]) (fun b hb=>?_) (fun b o _ _ hc q _=>k b o (fun z=>hc (by simp[z])) (fun z=>hc (by simp[z])) q) (fun b o _ _ hc q _=>⟨o.slots,k b o (fun z=>hc (by simp[z])) (fun z=>hc (by simp[z])) q⟩) (fun _ _ _ _ n=>n)
  (fun b o hc q=>⟨o,k b o (fun z=>hc (by simp[z])) (fun z=>hc (by simp[z])) q⟩) (fun _ _ q=>q) (fun _ _ _ q=>q) (fun b ps q=>⟨#[],by rw[q];simp⟩) (fun m hm=>?_) (fun b u q=>?_) I.bare
 ·rcases zo.mp hb with z|z
  ·subst z;exact⟨e3,e1,e4,e5⟩
  ·have z:=zg.mp z
   subst z;exact⟨f3,f1,f4,f5⟩
 ·obtain⟨o,es,ep,ho,r⟩:=hm
  exact⟨o,es,ep,k _ o (zU e1) (zU f1) ho,r⟩
 ·refine (I.Au b u q).P8 (fun c v hc z=>k c v ?_ ?_ z) (fun _ z=>z) fun _ _ z=>z
  ·rcases hc with z|z
   ·rw[z];exact (ne b u q).1
   ·exact (ne c _ z).1
  ·rcases hc with z|z
   ·rw[z];exact (ne b u q).2
   ·exact (ne c _ z).2
theorem Vu {P:Program}{w:World}{K:za}{cq:List Expr}{x1}{bC:Pos}(a e it:Addr) (af:e≠it) :
 Turn P w K (.Tuple cq x1 bC) (uC K a) [e,it] e (fun i h=>(∃ old,IsEnum h e it i old)/\h.IsListIter it a i) where
 mem:=by simp
 obj:=fun i h st b hb=>by
  obtain⟨⟨old,h1⟩,o,h2,c,d⟩:=st
  rcases zo.mp hb with z|z
  ·subst z;exact⟨_,h1,fun v z=>by cases z⟩
  ·have z:=zg.mp z
   subst z;exact⟨o,h2,fun v z=>by rw[d] at z;cases z⟩
 keep:=fun i h h' st k=>⟨let ⟨old,h1⟩:=st.1;⟨old,k e (by simp) _ h1⟩,st.2.at fun o e=>k it (by simp) o e⟩
 item:=by
  intro X hP hw hK hc i pins s σ H E I hf st hg
  subst hP hw hK
  obtain⟨xs,x,hq,hx⟩:=hg
  obtain⟨⟨old,he⟩,hit⟩:=st
  obtain⟨aa,rv,p,hz⟩:=I.list hq
  obtain⟨u,hu,ru⟩:=rv.get hx
  have fe:=hf e (by simp)
  have fi:=hf it (by simp)
  refine wpAny_pyNext_enum_item he hit p.isList (x:=u) (by simpa using hu) af fun h1 dn nq ht hsz hk=>?_
  refine⟨_,rfl,wpAny_letOwnedTupleGo_enum (s:={ s with heap:=h1,toks:=s.toks + 1 }) dn fun h2 vz bh=>?_⟩
  have bH:yV e h1 h2:=bh
  have nt:s.heap.objs.size≠e:=Nat.ne_of_gt (zu he)
  have v3:s.heap.objs.size≠it:=by
   obtain⟨o,ho,_⟩:=hit
   exact Nat.ne_of_gt (zu ho)
  have I1:Inv X pins σ H { s with heap:=h2,toks:=s.toks + 1 }:=SH I fe fi fun b o hb aE q=>(bH.2 b hb).trans (hk b o hb aE q)
  have tup:h2.get? s.heap.objs.size=some { cls:=.type "tuple",data:=.seq #[.int i s.toks,u] }:=(bH.2 _ nt).trans ht
  have nH:H s.heap.objs.size=none:=I.Au.fresh (zx _)
  have vv:Vals [.int i,x] [.int i s.toks,u]:=.cons ⟨_,rfl⟩ (.cons ru .nil)
  have nr:Fm X.prog X.w (upd H s.heap.objs.size (.tup [.int i,x])) h2:=I1.Au.adopt nH ⟨by show 2<=sizeLine;decide,_,vv,⟨_,tup,rfl,_,rfl⟩⟩
  have I2:Inv X pins σ (upd H s.heap.objs.size (.tup [.int i,x])) { s with heap:=h2,toks:=s.toks + 1 }:=by
   refine I.step (g':=s.gens) (d':=s.drawn) (ch:=[e,it]) (fun b hb=>?_) (fun b o _ _ hc q _=>(bH.2 b (fun z=>hc (by simp[z]))).trans (hk b o (fun z=>hc (by simp[z])) (fun z=>hc (by simp[z])) q)) (fun b o _ _ hc q _=>⟨o.slots,(bH.2 b (fun z=>hc (by simp[z]))).trans (hk b o (fun z=>hc (by simp[z])) (fun z=>hc (by simp[z])) q)⟩)
    (fun b o hc q n=>by rw[Ah (zC (zu q))];exact n) (fun b o hc q=>⟨o,(bH.2 b (fun z=>hc (by simp[z]))).trans (hk b o (fun z=>hc (by simp[z])) (fun z=>hc (by simp[z])) q)⟩)
    (fun b xs q=>by rw[Ah (Ay q nH)];exact q) (fun b o u q=>by rw[Ah (Ay q nH)];exact q) (fun b ps q=>⟨#[],by rw[Ah (Ay q nH),q];simp⟩) (fun m hm=>?_) nr I.bare
   ·rcases zo.mp hb with z|z
    ·subst z;exact⟨fe.2.2.2.1,fe.2.1,fe.2.2.2.2.1,fe.2.2.2.2.2⟩
    ·have z:=zg.mp z
     subst z;exact⟨fi.2.2.2.1,fi.2.1,fi.2.2.2.2.1,fi.2.2.2.2.2⟩
   ·obtain⟨o,es,ep,ho,r⟩:=hm
    exact⟨o,es,ep,(bH.2 _ (zU fe.2.1)).trans (hk _ o (zU fe.2.1) (zU fi.2.1) ho),r⟩
  refine⟨.ref s.heap.objs.size,_,I2,rfl,⟨_,x,nH,rfl,fun ys hy=>by rw[I.Gk hy hq];exact hx,rfl⟩,⟨⟨u,vz⟩,nq.at fun o q=>(bH.2 it (zU af)).trans q⟩,fun b hb=>?_⟩
  have aE:b≠s.heap.objs.size:=by
   rcases zo.mp hb with z|z
   ·rw[z];exact zU nt
   ·rw[zg.mp z];exact zU v3
  rw[Ah aE]
  exact (hf b hb).1
 done:=by
  intro X hP hw hK hc i pins s σ H E I hf st hg
  subst hP hw hK
  obtain⟨xs,hq,hx⟩:=hg
  obtain⟨⟨old,he⟩,hit⟩:=st
  obtain⟨aa,rv,p,hz⟩:=I.list hq
  have hl:=rv.length
  obtain⟨f0,f1,f2,f3,f4,f5⟩:=hf it (by simp)
  exact wpAny_pyNext_enum_end (I.ok.hd hc) he hit p.isList (by simp;omega) fun h' eb=>⟨rfl,I.turned (t':=s.toks) (fun b o hb e=>eb b o hb e) f0 f1 f3 f4 f5⟩
 self:=fun _ _ _ _ _ st h=>let ⟨_,he⟩:=st.1;wpAny_pyIter_enum he h
section
variable {X:Cx}
def nZ (K:za) (ta:TA):TI:=fun σ H R=>ta σ H fun vs H1=>∃ a,vs=[.ref a]/\(∃ xs,Dt K H1 a xs)/\R (uC K a) H1
theorem ZA {cq:List Expr}{x1}{bC:Pos}{a:Expr}{ta:TA}{p pos:Pos}(hg:Gl X "enumerate") (hm:X.mg "enumerate" = none) (ha:PA X [a] ta) (hb:bootBuiltins "enumerate" = some (.type "enumerate"):=by decide +kernel) (hs:starEach [a] X.env=[(false,eval a X.env)]:=by rfl) :
 PI X (.Tuple cq x1 bC) (.Call (.Name "enumerate" p) [a] [] pos) (nZ X.K ta):=by
 intro pins s σ H R I h
 refine Call_ (DU I hg hm hb (yp (Bb (ha pos pins s σ H _ I h) fun us s1 ⟨vs,H1,I1,r1,q1⟩=>?_) hs rfl))
 obtain⟨j,e,⟨xs,hq⟩,q⟩:=q1
 subst e
 cases r1 with
 |cons r rr =>
  cases rr
  cases r
  obtain⟨aa,rv,p,hz⟩:=I1.list hq
  refine call_enumerate_list p.isList fun h' he hit hsz hk=>?_
  refine wpAny_pyIter_enum (s:={ s1 with heap:=h' }) he ?_
  have I2:Inv X pins σ H1 { s1 with heap:=h' }:=I1.kept (t':=s1.toks) hk
  refine⟨_,[s1.heap.objs.size + 1,s1.heap.objs.size],_,_,H1,rfl,I2,Vu j _ _ (Nat.succ_ne_self _),⟨⟨_,he⟩,hit⟩,fun b hb=>?_,q⟩
  rcases zo.mp hb with z|z
  ·rw[z];exact I1.WK (Nat.le_succ _) (I1.Au.fresh (Nat.le_succ _))
  ·rw[zg.mp z];exact I1.WK (zx _) (I1.Au.fresh (zx _))
end
def BG {α:Type}(o:Option (α×List Int)) (b:α×List Int):Option (α×List Int):=match o with | none=>some b | some c=>if HT.lexLt b.2 c.2=true then some b else some c
def AV {α:Type}(bs:List (α×List Int)):Option (α×List Int):=bs.foldl BG none
def Dk (bs:List (Addr×List Int)):Array Value:=match AV bs with | none=>#[] | some b=>#[.ref b.1,.ref b.1]
theorem CY {α:Type}(bs:List (α×List Int)) (b:α×List Int):AV (bs++[b])=match AV bs with | none=>some b | some c=>if HT.lexLt b.2 c.2=true then some b else some c:=by
 unfold AV;rw[List.foldl_append];rfl
theorem Kj {α:Type}:∀(bs:List (α×List Int)) (b:α×List Int),AV bs=some b->b∈bs:=by
 intro bs
 suffices h:∀(bs:List (α×List Int)) (o:Option (α×List Int)) (b:α×List Int),bs.foldl BG o=some b->b∈bs\/o=some b by
  intro b hb
  rcases h bs none b hb with q|q
  ·exact q
  ·cases q
 intro bs
 induction bs with
 |nil=>intro o b h;exact .inr h
 |cons x r ih =>
  intro o b h
  rw[zS] at h
  rcases ih _ _ h with q|q
  ·exact .inl (ze _ q)
  ·cases o with
   |none=>cases q;exact .inl zd
   |some c =>
    unfold BG at q
    dsimp only at q
    split at q
    ·cases q;exact .inl zd
    ·exact .inr q
theorem NP (a v:Value):argsOk "min" ⟨[a],[(Str.ofString "default",v)]⟩:=by unfold argsOk;kernel_rfl
section
variable {prog:Program}{w:World}{A:Around}{R:Result->Shared->Prop}
theorem Xe (bs:List (Addr×List Int)) (tv:Addr->Array Value) (l I S:Addr) (d:Value) (hh:A.handled=none) (hu:A.in1.units < cLine) (cN:S≠I) (ia:l≠I) (jd:l≠S) (fc:∀ b∈bs,b.1≠I/\b.1≠S)
 (hk:∀ b∈bs,IntsAre (tv b.1).toList b.2):∀(k j:Nat) (s:Shared) (c:Nat),bs.length - j=k->j<=bs.length->s.heap.IsListIter I l j->s.heap.IsList l (bs.map fun b=>zZ b.1).toArray->(∀ b∈bs,IsTup s.heap b.1 (tv b.1))->
  s.heap.get? S=some { cls:=.type "list",dict:=none,data:=.seq (Dk (bs.take j)) c,slots:=#[] } ->
  (∀ h' tk,(∀ b o,b≠I->b≠S->s.heap.get? b=some o->h'.get? b=some o)->R (.ok (.ret (match AV bs with|none=>d|some b=>.ref b.1))) { s with heap:=h',toks:=tk })->
  codeAny (model prog w) A (.builtin "min.loop" ⟨[.ref I,.none,.ref S],[(Str.ofString "default",d)]⟩) R s:=by
 have aB:(toString "min" ++ toString ".loop" : String) = "min.loop" := by decide
 intro k
 induction k with
 |zero =>
  intro j s c hr hj hit hl ht hS hR
  have bI:j=bs.length:=by omega
  subst bI
  rw[yr] at hS
  refine codeAny_builtin PySem.F.entry_min_loop ?_
  rw[yK zW _]
  show wpAny _ A.in1 (seqItems? (.ref S) >>= _) _ _ s
  refine wpAny_bind (wpAny_seqItems hS rfl ?_)
  show wpAny _ A.in1 (tryCatch (pyNext (.ref I)) _ >>= _) _ _ s
  refine wpAny_bind (wpAny_tryCatch (wpAny_pyNext_list_end (A:=A.in1) hh hit hl (by simp) fun h' eb=>?_))
  have aH:h'.get? S=_:=eb S _ cN hS
  unfold Dk at aH
  cases hb:AV bs with
  |none =>
   unfold Dk
   rw[hb]
   show wpAny _ A.in1 (rule _ >>= _) _ _ _
   refine wpAny_bind (wpAny_rule (wpAny_pure ?_))
   have q:=hR h' s.toks fun b o h1 h2 e=>eb b o h1 e
   rw[hb] at q
   exact q
  |some b =>
   rw[hb] at aH
   unfold Dk
   rw[hb]
   show wpAny _ A.in1 (updateSeq S (fun _=>#[]) >>= _) _ _ _
   refine wpAny_bind ?_
   refine wpAny_updateSeq aH rfl (wpAny_bind (wpAny_letGo (wpAny_pure ?_)))
   have q:=hR (h'.update S (yF fun _=>#[])) s.toks fun b o h1 h2 e=>(yU _ _ (zU h2)).trans (eb b o h1 e)
   rw[hb] at q
   exact q
 |succ k ih =>
  intro j s c hr hj hit hl ht hS hR
  have aj:j < bs.length:=by omega
  have ej:bs.take (j + 1)=bs.take j++[bs[j]]:=by rw[yu,zq aj];rfl
  have mj:bs[j]∈bs:=List.getElem_mem aj
  refine codeAny_builtin PySem.F.entry_min_loop ?_
  rw[yK zW _]
  show wpAny _ A.in1 (seqItems? (.ref S) >>= _) _ _ s
  refine wpAny_bind (wpAny_seqItems hS rfl ?_)
  show wpAny _ A.in1 (tryCatch (pyNext (.ref I)) _ >>= _) _ _ s
  refine wpAny_bind (wpAny_tryCatch (wpAny_pyNext_list_item (A:=A.in1) hit hl (x:=.ref bs[j].1) (by simp[aj]) fun h' bn sb=>?_))
  have bG:yV I s.heap h':=sb
  have aH:h'.get? S=_:=(bG.2 S cN).trans hS
  have bT:h'.IsList l (bs.map fun b=>zZ b.1).toArray:=hl.at fun o e=>(bG.2 l ia).trans e
  have cr:∀ b∈bs,IsTup h' b.1 (tv b.1):=fun b hb=>by
   obtain⟨o,ho,r⟩:=ht b hb
   exact⟨o,(bG.2 b.1 (fc b hb).1).trans ho,r⟩
  cases hb:AV (bs.take j) with
  |none =>
   unfold Dk at aH ⊢
   rw[hb] at aH ⊢
   show wpAny _ A.in1 (updateSeq S (fun _=>#[.ref bs[j].1,.ref bs[j].1]) >>= _) _ _ _
   refine wpAny_bind ?_
   refine wpAny_updateSeq aH rfl ?_
   rw[aB]
   have s1:=Heap.SameBut.update h' S (yF fun _=>(#[.ref bs[j].1,.ref bs[j].1]:Array Value))
   refine wpAny_pure ⟨plainId_quiet zW _,ih (j + 1) _ (c + 1) (by omega) aj (bn.at fun o e=>(s1.2 I (zU cN)).trans e) (bT.at fun o e=>(s1.2 l jd).trans e) (fun b hb=>?_) ?_ fun cu tk aW=>?_⟩
   ·obtain⟨o,ho,r⟩:=cr b hb
    exact⟨o,(s1.2 b.1 (fc b hb).2).trans ho,r⟩
   ·refine (Heap.get?_update_self _ aH rfl).trans ?_
    unfold Dk
    rw[ej,CY,hb]
    rfl
   ·exact hR cu tk fun b o h1 h2 e=>aW b o h1 h2 ((s1.2 b h2).trans ((bG.2 b h1).trans e))
  |some m =>
   have mm:m∈bs:=ym (Kj _ _ hb)
   unfold Dk at aH ⊢
   rw[hb] at aH ⊢
   show wpAny _ A.in1 (tryCatch (holding [.ref bs[j].1,.ref bs[j].1] (richCompare .Lt (.ref bs[j].1) (.ref m.1) >>= _)) _ >>= _) _ _ _
   refine wpAny_bind (wpAny_tryCatch (wpAny_holding (wpAny_bind (HT.Ik (cr _ mj) (cr _ mm) (hk _ mj) (hk _ mm) hu ?_))))
   refine wpAny_bind (wpAny_holding (wpAny_truthy_bool ?_))
   refine wpAny_bind (wpAny_letGo (wpAny_pure ?_))
   cases hc:HT.lexLt bs[j].2 m.2 with
   |true =>
    simp only[if_true]
    have s1:=Heap.SameBut.update h' S (yF fun _=>(#[.ref bs[j].1,.ref bs[j].1]:Array Value))
    refine wpAny_bind ?_
    refine wpAny_updateSeq aH rfl (wpAny_bind (wpAny_letGo ?_))
    rw[aB]
    refine wpAny_pure ⟨plainId_quiet zW _,ih (j + 1) _ c (by omega) aj (bn.at fun o e=>(s1.2 I (zU cN)).trans e) (bT.at fun o e=>(s1.2 l jd).trans e) (fun b hb=>?_) ?_ fun cu tk aW=>?_⟩
    ·obtain⟨o,ho,r⟩:=cr b hb
     exact⟨o,(s1.2 b.1 (fc b hb).2).trans ho,r⟩
    ·refine (Heap.get?_update_self _ aH rfl).trans ?_
     unfold Dk
     rw[ej,CY,hb]
     simp only[hc,if_true]
     rfl
    ·exact hR cu tk fun b o h1 h2 e=>aW b o h1 h2 ((s1.2 b h2).trans ((bG.2 b h1).trans e))
   |false =>
    simp only[zE,if_false]
    refine wpAny_bind (wpAny_letGo ?_)
    rw[aB]
    refine wpAny_pure ⟨plainId_quiet zW _,ih (j + 1) _ c (by omega) aj bn bT cr ?_ fun cu tk aW=>?_⟩
    ·refine aH.trans ?_
     unfold Dk
     rw[ej,CY,hb]
     simp only[hc,zE,if_false]
    ·exact hR cu tk fun b o h1 h2 e=>aW b o h1 h2 ((bG.2 b h1).trans e)
theorem NQ {E:Value->Shared->Prop}{s:Shared}{Q:Value->Shared->Prop}(bs:List (Addr×List Int)) (tv:Addr->Array Value) (l:Addr) (d:Value) (hh:A.handled=none) (hu:A.in1.units < cLine)
 (hl:s.heap.IsList l (bs.map fun b=>zZ b.1).toArray) (ht:∀ b∈bs,IsTup s.heap b.1 (tv b.1)) (hk:∀ b∈bs,IntsAre (tv b.1).toList b.2)
 (hQ:∀ h' tk,(∀ b o,s.heap.get? b=some o->h'.get? b=some o)->Q (match AV bs with|none=>d|some b=>.ref b.1) { s with heap:=h',toks:=tk }) :
 wpAny (model prog w) A (call (.builtin "min") [.ref l] [(Str.ofString "default",d)]) Q E s:=by
 have aB:(toString "min" ++ toString ".loop" : String) = "min.loop" := by decide
 obtain⟨ol,fg,_⟩:=id hl
 have v4:l < s.heap.objs.size:=zu fg
 refine kmk_tree PySem.F.kind_min PySem.F.plain_min PySem.F.entry_min (NP _ _) ?_
 show wpAny _ A.in1 (yQ "min" ["key","default"] 0 ⟨[],[(Str.ofString "default",d)]⟩ >>= _) _ _ s
 refine wpAny_bind (wpAny_of_eq (show yQ "min" ["key","default"] 0 ⟨[],[(Str.ofString "default",d)]⟩=pure [none,some d] from rfl) ?_)
 refine wpAny_bind (wpAny_pure ?_)
 refine wpAny_bind (wpAny_pyIter_list hl ?_)
 refine wpAny_bind (wpAny_newList ?_ (zP _))
 rw[aB]
 have hS:(s.heap.push { cls:=.type "list_iterator",data:=.fields #[.ref l,.int 0 0] }).objs.size=s.heap.objs.size + 1:=Heap.size_push ..
 have old:∀ b o,s.heap.get? b=some o->b≠s.heap.objs.size/\b≠(s.heap.push { cls:=.type "list_iterator",data:=.fields #[.ref l,.int 0 0] }).objs.size:=fun b o e=>⟨zC (zu e),by rw[hS];exact zC (Nat.lt_succ_of_lt (zu e))⟩
 have grow:∀ b o,s.heap.get? b=some o->((s.heap.push { cls:=.type "list_iterator",data:=.fields #[.ref l,.int 0 0] }).push { cls:=.type "list",data:=.seq #[] }).get? b=some o:=fun b o e=>zp _ (zp _ e)
 refine wpAny_pure ⟨plainId_quiet zW _,?_⟩
 refine Xe bs tv l s.heap.objs.size (s.heap.push { cls:=.type "list_iterator",data:=.fields #[.ref l,.int 0 0] }).objs.size d hh hu (by rw[hS];exact Nat.succ_ne_self _) (old l ol fg).1 (old l ol fg).2 (fun b hb=>?_) hk _ 0 _ 0 rfl (zP _) ?_ ?_ (fun b hb=>?_) ?_ ?_
 ·obtain⟨o,ho,_⟩:=ht b hb
  exact old b.1 o ho
 ·exact⟨_,zp _ (zG _ rfl),rfl,rfl⟩
 ·exact hl.at fun o e=>grow l o e
 ·obtain⟨o,ho,r⟩:=ht b hb
  exact⟨o,grow b.1 o ho,r⟩
 ·exact zG _ rfl
 ·intro h' tk fj
  exact hQ h' tk fun b o e=>fj b o (old b o e).1 (old b o e).2 (grow b o e)
end
section
variable {X:Cx}{e e2:Expr}{te td:TE}{p pos kp:Pos}
def oA (K:za) (te td:TE):TE:=fun σ H Q=>te σ H fun x H1=>td σ H1 fun d H2=>∃(a:Addr) (bs:List (Addr×List Int)),x=.ref a/\Dt K H2 a (bs.map fun b=>V.ref b.1)/\(∀ b∈bs,Fn K H2 b.1 (b.2.map V.int))/\Q (match AV bs with | none=>d | some b=>.ref b.1) H2
theorem Kk:∀ {bs:List (Addr×List Int)}{us:List Value},Vals (bs.map fun b=>V.ref b.1) us->us=bs.map fun b=>zZ b.1
 |[],_,.nil=>rfl
 |b::r,_,.cons h t=>by cases h;rw[Kk t];rfl
theorem ZC (hc:X.calm=true) (hu:X.A.units + 1 < cLine) (hg:Gl X "min") (hm:X.mg "min" = none) (he:PE X e te) (hd:PE X e2 td)
 (aY:starEach [e] X.env=[(false,eval e X.env)]:=by rfl) (aF:(backToKw pos (keywordEach [⟨some "default",e2,kp⟩] X.env)).all (·.1.isSome)=true:=by rfl) (nu:(backToKw pos (keywordEach [⟨some "default",e2,kp⟩] X.env)).filterMap (·.1)=([("default" : Str)]:List Str):=by rfl)
 (nv:(backToKw pos (keywordEach [⟨some "default",e2,kp⟩] X.env)).any (·.1.isNone)=false:=by rfl) (bW:backTo pos (starEach [e] X.env)=(false,eval e X.env)::backTo pos (starEach [] X.env):=by rfl) (a6:(backTo pos (starEach [e] X.env)).any (·.1)=false:=by rfl) :
 PE X (.Call (.Name "min" p) [e] [⟨some "default",e2,kp⟩] pos) (oA X.K te td):=by
 intro pins s σ H Q I h
 refine wpAny_Call_Name_kw (DU I hg hm boot_min ?_ (by decide) (by decide))
 refine callWith_kw (Bb ((Be he Cg (hs:=aY)) pos pins s σ H (fun vs H1=>match vs with|[x]=>td σ H1 fun d H2=>∃(a:Addr) (bs:List (Addr×List Int)),x=.ref a/\Dt X.K H2 a (bs.map fun b=>V.ref b.1)/\(∀ b∈bs,Fn X.K H2 b.1 (b.2.map V.int))/\Q (match AV bs with|none=>d|some b=>.ref b.1) H2|_=>False) I h) fun us s1 ⟨vs,H1,I1,r1,q1⟩=>?_) bW a6 aF nv
 obtain⟨x,rfl⟩:∃ x,vs=[x]:=by
  match vs,q1 with
  |[x],_=>exact⟨x,rfl⟩
 refine Bb ((Zi hd jB) pos pins s1 σ H1 (fun zs H2=>match zs with|[d]=>∃(a:Addr) (bs:List (Addr×List Int)),x=.ref a/\Dt X.K H2 a (bs.map fun b=>V.ref b.1)/\(∀ b∈bs,Fn X.K H2 b.1 (b.2.map V.int))/\Q (match AV bs with|none=>d|some b=>.ref b.1) H2|_=>False) I1 q1) fun ws s2 ⟨zs,H2,I2,r2,q2⟩=>?_
 obtain⟨d,rfl⟩:∃ d,zs=[d]:=by
  match zs,q2 with
  |[d],_=>exact⟨d,rfl⟩
 obtain⟨a,bs,rfl,hl,hb,q⟩:=q2
 obtain⟨ua,rfl,ra⟩:=r1.one
 obtain⟨ud,rfl,rd⟩:=r2.one
 cases ra
 rw[nu]
 obtain⟨aa,rv,pl,hz⟩:=I2.list hl
 have ei:=Kk rv
 subst ei
 have tv:∀ a:Addr,∃ t:Array Value,∀ b∈bs,b.1=a->IsTup s2.heap a t/\IntsAre t.toList b.2:=fun a=>by
  by_cases cv:∃ b∈bs,b.1=a
  ·obtain⟨b,cv,rfl⟩:=cv
   obtain⟨ts,rt,pt,_⟩:=I2.tuple (hb b cv)
   refine⟨ts.toArray,fun b' aE e=>⟨pt,?_⟩⟩
   have q2:=hb b' aE
   rw[e] at q2
   have e2:=I2.Hf q2 (hb b cv)
   rw[<-e2] at rt
   simpa using intsAre_of rt
  ·exact⟨#[],fun b aE e=>absurd ⟨b,aE,e⟩ cv⟩
 refine NQ bs (fun b=>zi (tv b)) a ud (I2.ok.hd hc) hu pl.isList (fun b aE=>(zb (tv b.1) b aE rfl).1) (fun b aE=>(zb (tv b.1) b aE rfl).2) fun h' tk hk=>?_
 refine⟨match AV bs with|none=>d|some b=>.ref b.1,H2,I2.kept (t':=tk) hk,?_,q⟩
 cases AV bs with
 |none=>exact rd
 |some b=>rfl
end
inductive D where
 |Az|bl (b:Bool)|int (i:Int)|str (x:Str)|tup (ds:List D)|lst (ds:List D)|DH (x:Str)|Bg (t:Bool) (ks vs:List D)|ins (x:Str) (ns:List Str) (ds:List D)
def Dl:Key->D
 | .inl i=>.int i
 | .inr x=>.str x
def rR (a c:Addr) (h:Heap):Prop:=∃ o,h.get? a=some o/\o.cls=.ref c/\PySem.W.notCls o=true
mutual
inductive BH (K:za) (H:Hp):V->D->Prop
 |Az:BH K H .Az .Az
 |bl (b):BH K H (.bl b) (.bl b)
 |int (i):BH K H (.int i) (.int i)
 |str (x):BH K H (.str x) (.str x)
 |tup {a xs ds}:H a=some (.tup xs)->Ag K H xs ds->BH K H (.ref a) (.tup ds)
 |lst {a xs ds}:Dt K H a xs->Ag K H xs ds->BH K H (.ref a) (.lst ds)
 |Ip {a kvs ds}:H a=some (.dK kvs)->Ag K H (kvs.map yv) ds->BH K H (.ref a) (.Bg false (kvs.map fun kv=>Dl kv.1) ds)
 |Iq {a kvs ds}:H a=some (.dT kvs)->Ag K H (kvs.map yv) ds->BH K H (.ref a) (.Bg true (kvs.map fun kv=>.tup (kv.1.map Dl)) ds)
 |ins {a C dx fs x ds}:zD K mainGlobals x=some (some (.ref C))->H a=some (.ins C dx fs)->Ag K H (fs.map yv) ds->BH K H (.ref a) (.ins x (fs.map zI) ds)
 |DH {a c x}:zD K mainGlobals x=some (some (.ref c))->H a=some (.ext (rR a c))->BH K H (.ref a) (.DH x)
inductive Ag (K:za) (H:Hp):List V->List D->Prop
 |nil:Ag K H [] []
 |cons {x d xs ds}:BH K H x d->Ag K H xs ds->Ag K H (x::xs) (d::ds)
end
theorem Ag.length {K:za}{H:Hp}:∀ {xs:List V}{ds:List D},Ag K H xs ds->xs.length=ds.length
 |_,_,.nil=>rfl
 |_,_,.cons _ t=>by rw[zk,zk,Ag.length t]
theorem Ag.get {K:za}{H:Hp}:∀ {xs:List V}{ds:List D}{i:Nat}{d:D},Ag K H xs ds->ds[i]? =some d->∃ x,xs[i]? =some x/\BH K H x d
 |_,_,_,_,.nil,e=>by simp at e
 |_,_,0,_,.cons r _,e=>by simp at e;subst e;exact⟨_,rfl,r⟩
 |_,_,i + 1,d,.cons _ t,e=>by
  obtain⟨u,h1,h2⟩:=Ag.get (i:=i) (d:=d) t (by simpa using e)
  exact⟨u,by simpa using h1,h2⟩
theorem Ag.Kl {K:za}{H:Hp}:∀ {xs:List V}{ds:List D}{i:Nat}{x:V},Ag K H xs ds->xs[i]? =some x->∃ d,ds[i]? =some d/\BH K H x d
 |_,_,_,_,.nil,e=>by simp at e
 |_,_,0,_,.cons r _,e=>by simp at e;subst e;exact⟨_,rfl,r⟩
 |_,_,i + 1,d,.cons _ t,e=>by
  obtain⟨u,h1,h2⟩:=Ag.Kl (i:=i) (x:=d) t (by simpa using e)
  exact⟨u,by simpa using h1,h2⟩
theorem Ag.append {K:za}{H:Hp}:∀ {xs ys:List V}{ds es:List D},Ag K H xs ds->Ag K H ys es->Ag K H (xs++ys) (ds++es)
 |_,_,_,_,.nil,h=>h
 |_,_,_,_,.cons r t,h=>.cons r (Ag.append t h)
theorem Ag.snoc {K:za}{H:Hp}{xs:List V}{ds:List D}{x:V}{d:D}(h:Ag K H xs ds) (r:BH K H x d):Ag K H (xs++[x]) (ds++[d]):=h.append (.cons r .nil)
theorem Ag.take {K:za}{H:Hp}:∀ {xs:List V}{ds:List D}(n:Nat),Ag K H xs ds->Ag K H (xs.take n) (ds.take n)
 |_,_,0,_=>.nil
 |_,_,_ + 1,.nil=>.nil
 |_,_,n + 1,.cons r t=>.cons r (Ag.take n t)
theorem Ag.drop {K:za}{H:Hp}:∀ {xs:List V}{ds:List D}(n:Nat),Ag K H xs ds->Ag K H (xs.drop n) (ds.drop n)
 |_,_,0,r=>r
 |_,_,_ + 1,.nil=>.nil
 |_,_,n + 1,.cons _ t=>Ag.drop n t
theorem Ag.ints {K:za}{H:Hp}:∀(ns:List Int),Ag K H (ns.map V.int) (ns.map D.int)
 |[]=>.nil
 |n::r=>.cons (.int n) (Ag.ints r)
theorem Ad.rS {K:za}{H H':Hp}{a:Addr}{xs:List V}(e:Ad H H') (h:Fn K H a xs):Fn K H' a xs:=by
 rcases h with (h|⟨o,h⟩)|h
 ·exact .inl (.inl (e _ _ h))
 ·exact .inl (.inr ⟨o,e _ _ h⟩)
 ·exact .inr h
mutual
theorem BH.mono {K:za}{H H':Hp}(e:Ad H H'):∀ {v:V}{d:D},BH K H v d->BH K H' v d
 |_,_,.Az=>.Az
 |_,_,.bl b=>.bl b
 |_,_,.int i=>.int i
 |_,_,.str x=>.str x
 |_,_,.tup h r=>.tup (e _ _ h) (Ag.mono e r)
 |_,_,.lst h r=>.lst (e.seq h) (Ag.mono e r)
 |_,_,.Ip h r=>.Ip (e _ _ h) (Ag.mono e r)
 |_,_,.Iq h r=>.Iq (e _ _ h) (Ag.mono e r)
 |_,_,.ins n h r=>.ins n (e _ _ h) (Ag.mono e r)
 |_,_,.DH h r=>.DH h (e _ _ r)
theorem Ag.mono {K:za}{H H':Hp}(e:Ad H H'):∀ {vs:List V}{ds:List D},Ag K H vs ds->Ag K H' vs ds
 |_,_,.nil=>.nil
 |_,_,.cons h t=>.cons (BH.mono e h) (Ag.mono e t)
end
theorem AM {H:Hp}{p:Addr}(h:H p=none) (o:HO):Ad H (upd H p o):=fun b u q=>by rw[Ah (Ay q h)];exact q
mutual
def Av:D->D->Bool
 | .Az,.Az=>true
 | .bl a,.bl b=>a == b
 | .int a,.int b=>a == b
 | .str a,.str b=>a == b
 | .bl a,.int b=>(if a then 1 else 0) == b
 | .int a,.bl b=>a == (if b then 1 else 0)
 | .tup a,.tup b=>Cv a b
 | .lst a,.lst b=>Cv a b
 | .DH a,.DH b=>a == b
 | .Bg s a b,.Bg t c d=>(s == t) && (Cv a c && Cv b d)
 | .ins x n a,.ins y m b=>(x == y) && ((n == m) && Cv a b)
 |_,_=>false
def Cv:List D->List D->Bool
 |[],[]=>true
 |a::r,b::t=>Av a b && Cv r t
 |_,_=>false
end
mutual
theorem J3:∀ d:D,Av d d=true
 | .Az=>by simp[Av]
 | .bl b=>by simp[Av]
 | .int b=>by simp[Av]
 | .str b=>by simp[Av]
 | .tup b=>by simp only[Av];exact DJ b
 | .lst b=>by simp only[Av];exact DJ b
 | .DH b=>by simp[Av]
 | .Bg s a b=>by simp only[Av];rw[DJ a,DJ b];simp
 | .ins x n a=>by simp only[Av];rw[DJ a];simp
theorem DJ:∀ d:List D,Cv d d=true
 |[]=>by simp[Cv]
 |a::r=>by simp only[Cv,J3 a,DJ r,Bool.and_true]
end
mutual
def AH:D->Bool
 | .tup a=>Ms a
 | .lst a=>Ms a
 | .DH _=>false
 | .Bg _ _ _=>false
 | .ins _ _ _=>false
 |_=>true
def Ms:List D->Bool
 |[]=>true
 |a::r=>AH a && Ms r
end
theorem C7:∀ {ds:List D}{d:D},d∈ds->Ms ds=true->AH d=true
 |a::r,d,h,q=>by
  rw[Ms,zR] at q
  rcases zo.mp h with z|z
  ·subst z;exact q.1
  ·exact C7 z q.2
mutual
def IT:D->Nat
 | .tup a=>Ln a + 1
 | .lst a=>Ln a + 1
 |_=>0
def Ln:List D->Nat
 |[]=>0
 |a::r=>max (IT a) (Ln r)
end
theorem Fs:∀ {ds:List D}{d:D},d∈ds->IT d<=Ln ds
 |a::r,d,h=>by
  rw[Ln]
  rcases zo.mp h with z|z
  ·subst z;exact Nat.le_max_left _ _
  ·exact yo (Fs z) (Nat.le_max_right _ _)
theorem QS:∀ {a b:List D},Cv a b=true->a.length=b.length
 |[],[],_=>rfl
 |[],_::_,h=>by simp[Cv] at h
 |_::_,[],h=>by simp[Cv] at h
 |a::r,b::t,h=>by
  simp only[Cv,zR] at h
  rw[zk,zk,QS h.2]
theorem DZ:∀(a b:List D),a.length=b.length->(yz a.length).all (fun j=>Av (a.getD j .Az) (b.getD j .Az))=Cv a b
 |[],[],_=>by simp[Cv]
 |a::r,b::t,h=>by
  have ih:=DZ r t (by simpa using h)
  rw[zk,List.range_succ_eq_map,List.all_cons,List.all_map,Cv,<-ih]
  simp[Function.comp_def]
 |[],_::_,h=>by cases h
 |_::_,[],h=>by cases h
theorem Ly {a b:List D}(h:a.length≠b.length):Cv a b=false:=by
 cases e:Cv a b with
 |false=>rfl
 |true=>exact absurd (QS e) h
theorem Mt (a b:List D):((yz (min a.length b.length)).all (fun j=>Av (a.getD j .Az) (b.getD j .Az)) && (a.length == b.length))=Cv a b:=by
 by_cases h:a.length=b.length
 ·rw[<-DZ a b h,h];simp
 ·rw[Ly h,beq_false_of_ne h,Bool.and_false]
section
variable {X:Cx}{pins:List (Addr×Obj)}{σ:St}{H:Hp}{s:Shared}
theorem U7 (I:Inv X pins σ H s){a:Addr}{xs ys:List V}(h:Dt X.K H a xs) (h':Fn X.K H a ys):False:=by
 obtain⟨aa,_,⟨o,n,e,c,_,_⟩,_⟩:=I.list h
 obtain⟨its',_,⟨o',e',c',_⟩,_⟩:=I.tuple h'
 rw[e] at e';cases e'
 rw[c] at c'
 revert c';decide
mutual
theorem ZD (I:Inv X pins σ H s):∀ {v:V}{d d':D},AH d=true->AH d'=true->BH X.K H v d->BH X.K H v d'->d=d'
 |_,_,_,_,_,.Az,.Az=>rfl
 |_,_,_,_,_,.bl _,.bl _=>rfl
 |_,_,_,_,_,.int _,.int _=>rfl
 |_,_,_,_,_,.str _,.str _=>rfl
 |_,_,_,n1,n2,.tup h r,.tup h' r'=>by
  have e:=I.Hf (.of h) (.of h')
  subst e
  rw[Gu I (by rw[AH] at n1;exact n1) (by rw[AH] at n2;exact n2) r r']
 |_,_,_,n1,n2,.lst h r,.lst h' r'=>by
  have e:=I.Gk h h'
  subst e
  rw[Gu I (by rw[AH] at n1;exact n1) (by rw[AH] at n2;exact n2) r r']
 |_,_,_,_,_,.tup h _,.lst h' _=>(U7 I h' (.of h)).elim
 |_,_,_,_,_,.lst h _,.tup h' _=>(U7 I h (.of h')).elim
 |_,_,_,n1,_,.DH _ _,_=>by rw[AH] at n1;cases n1
 |_,_,_,n1,_,.Ip _ _,_=>by rw[AH] at n1;cases n1
 |_,_,_,n1,_,.Iq _ _,_=>by rw[AH] at n1;cases n1
 |_,_,_,n1,_,.ins _ _ _,_=>by rw[AH] at n1;cases n1
 |_,_,_,_,n2,_,.DH _ _=>by rw[AH] at n2;cases n2
 |_,_,_,_,n2,_,.Ip _ _=>by rw[AH] at n2;cases n2
 |_,_,_,_,n2,_,.Iq _ _=>by rw[AH] at n2;cases n2
 |_,_,_,_,n2,_,.ins _ _ _=>by rw[AH] at n2;cases n2
theorem Gu (I:Inv X pins σ H s):∀ {v:List V}{d d':List D},Ms d=true->Ms d'=true->Ag X.K H v d->Ag X.K H v d'->d=d'
 |_,_,_,_,_,.nil,.nil=>rfl
 |_,_,_,n1,n2,.cons h r,.cons h' r'=>by
  rw[Ms,zR] at n1 n2
  rw[ZD I n1.1 n2.1 h h',Gu I n1.2 n2.2 r r']
end
theorem Wx {xs:List V}{aa:List Value}(r:Vals xs aa) (j:Nat) (h:j < aa.toArray.size):∃ x,xs[j]? =some x/\RelV x aa.toArray[j]:=by
 have h':j < aa.length:=by simpa using h
 have hx:j < xs.length:=by rw[r.length];exact h'
 obtain⟨u,hu,ru⟩:=r.get (zq hx)
 rw[zq h'] at hu
 refine⟨xs[j],zq hx,?_⟩
 have e:aa.toArray[j]=u:=by simpa using hu
 rw[e];exact ru
theorem Cr {ds:List D}{j:Nat}{d:D}(h:ds[j]? =some d):ds.getD j .Az=d:=by rw[zB,h];rfl
theorem Pp (I:Inv X pins σ H s):∀(n:Nat) (A:Around) (d e:D) (v w:V) (u1 u2:Value),IT d<=n->AH d=true->AH e=true->A.units + n < cLine->BH X.K H v d->BH X.K H w e->RelV v u1->RelV w u2->SeqAt.EqAt A s u1 u2 (Av d e):=by
 intro n
 induction n with
 |zero =>
  intro A d e v w u1 u2 hd ax ag hu h1 h2 r1 r2
  have ak:A.units < cLine:=by omega
  cases h1 with
  |DH _ _=>simp[AH] at ax
  |Ip _ _=>simp[AH] at ax
  |Iq _ _=>simp[AH] at ax
  |ins _ _ _=>simp[AH] at ax
  |Az =>
   cases r1
   cases h2 with
   |DH _ _=>simp[AH] at ag
   |Ip _ _=>simp[AH] at ag
   |Iq _ _=>simp[AH] at ag
   |ins _ _ _=>simp[AH] at ag
   |Az=>cases r2;simp only[Av];exact .same _
   |bl b=>cases r2;simp only[Av];exact .none_bool _
   |int b=>obtain⟨t,rfl⟩:=r2;simp only[Av];exact .none_int _ _
   |str b=>obtain⟨t,rfl⟩:=r2;simp only[Av];exact .none_str _ _
   |tup h r=>cases r2;simp only[Av];obtain⟨_,_,p,_⟩:=I.tuple (.of h);exact .none_tuple p ak
   |lst h r=>cases r2;simp only[Av];obtain⟨_,_,p,_⟩:=I.list h;exact .none_list p.isList ak
  |bl a =>
   cases r1
   cases h2 with
   |DH _ _=>simp[AH] at ag
   |Ip _ _=>simp[AH] at ag
   |Iq _ _=>simp[AH] at ag
   |ins _ _ _=>simp[AH] at ag
   |Az=>cases r2;simp only[Av];exact .bool_none _
   |bl b=>cases r2;simp only[Av];exact .bool_bool _ _
   |int b=>obtain⟨t,rfl⟩:=r2;simp only[Av];exact .bool_int _ _ _
   |str b=>obtain⟨t,rfl⟩:=r2;simp only[Av];exact .bool_str _ _ _
   |tup h r=>cases r2;simp only[Av];obtain⟨_,_,p,_⟩:=I.tuple (.of h);exact .bool_tuple _ p ak
   |lst h r=>cases r2;simp only[Av];obtain⟨_,_,p,_⟩:=I.list h;exact .bool_list _ p.isList ak
  |int a =>
   obtain⟨t',rfl⟩:=r1
   cases h2 with
   |DH _ _=>simp[AH] at ag
   |Ip _ _=>simp[AH] at ag
   |Iq _ _=>simp[AH] at ag
   |ins _ _ _=>simp[AH] at ag
   |Az=>cases r2;simp only[Av];exact .int_none _ _
   |bl b=>cases r2;simp only[Av];exact .int_bool _ _ _
   |int b=>obtain⟨t,rfl⟩:=r2;simp only[Av];exact .int_int _ _ _ _
   |str b=>obtain⟨t,rfl⟩:=r2;simp only[Av];exact .int_str _ _ _ _
   |tup h r=>cases r2;simp only[Av];obtain⟨_,_,p,_⟩:=I.tuple (.of h);exact .int_tuple _ _ p ak
   |lst h r=>cases r2;simp only[Av];obtain⟨_,_,p,_⟩:=I.list h;exact .int_list _ _ p.isList ak
  |str a =>
   obtain⟨t',rfl⟩:=r1
   cases h2 with
   |DH _ _=>simp[AH] at ag
   |Ip _ _=>simp[AH] at ag
   |Iq _ _=>simp[AH] at ag
   |ins _ _ _=>simp[AH] at ag
   |Az=>cases r2;simp only[Av];exact .str_none _ _
   |bl b=>cases r2;simp only[Av];exact .str_bool _ _ _
   |int b=>obtain⟨t,rfl⟩:=r2;simp only[Av];exact .str_int _ _ _ _
   |str b=>obtain⟨t,rfl⟩:=r2;simp only[Av];exact .str_str _ _ _ _
   |tup h r=>cases r2;simp only[Av];obtain⟨_,_,p,_⟩:=I.tuple (.of h);exact .str_tuple _ _ p ak
   |lst h r=>cases r2;simp only[Av];obtain⟨_,_,p,_⟩:=I.list h;exact .str_list _ _ p.isList ak
  |tup h r=>rw[IT] at hd;omega
  |lst h r=>rw[IT] at hd;omega
 |succ n ih =>
  intro A d e v w u1 u2 hd ax ag hu h1 h2 r1 r2
  have ak:A.units < cLine:=by omega
  have uh:A.in1.units + n < cLine:=by show A.units + 1 + n < cLine;omega
  by_cases je:IT d<=n
  ·exact ih A d e v w u1 u2 je ax ag (by omega) h1 h2 r1 r2
  cases h1 with
  |DH _ _=>simp[AH] at ax
  |Ip _ _=>simp[AH] at ax
  |Iq _ _=>simp[AH] at ax
  |ins _ _ _=>simp[AH] at ax
  |Az=>exact absurd (by simp[IT]) je
  |bl _=>exact absurd (by simp[IT]) je
  |int _=>exact absurd (by simp[IT]) je
  |str _=>exact absurd (by simp[IT]) je
  | @tup a xs ds h r =>
   cases r1
   obtain⟨aa,rv,p,_⟩:=I.tuple (.of h)
   cases h2 with
   |DH _ _=>simp[AH] at ag
   |Ip _ _=>simp[AH] at ag
   |Iq _ _=>simp[AH] at ag
   |ins _ _ _=>simp[AH] at ag
   |Az=>cases r2;simp only[Av];exact .tuple_none p ak
   |bl b=>cases r2;simp only[Av];exact .tuple_bool _ p ak
   |int b=>obtain⟨t,rfl⟩:=r2;simp only[Av];exact .tuple_int _ _ p ak
   |str b=>obtain⟨t,rfl⟩:=r2;simp only[Av];exact .tuple_str _ _ p ak
   | @lst a2 cz es h' r'=>cases r2;simp only[Av];obtain⟨_,_,p',_⟩:=I.list h';exact .tuple_list p p'.isList ak
   | @tup a2 cz es h' r' =>
    cases r2
    by_cases ha:a=a2
    ·subst ha
     have e':=I.Hf (.of h) (.of h')
     subst e'
     have e2:=Gu I (by rw[AH] at ax;exact ax) (by rw[AH] at ag;exact ag) r r'
     subst e2
     rw[J3]
     exact .same _
    ·obtain⟨its',bi,p',_⟩:=I.tuple (.of h')
     refine .of_refs ha ?_
     have q:=SeqAt.RcAt.tuples (A:=A) (e:=fun j=>Av (ds.getD j .Az) (es.getD j .Az)) p p' ak fun j h1 h2=>?_
     ·have z1:aa.toArray.size=ds.length:=by rw[zh,<-rv.length,r.length]
      have z2:its'.toArray.size=es.length:=by rw[zh,<-bi.length,r'.length]
      rw[z1,z2,Mt] at q
      simp only[Av]
      exact q
     ·obtain⟨x,hx,rx⟩:=Wx rv j h1
      obtain⟨y,hy,ry⟩:=Wx bi j h2
      obtain⟨dx,ex,c4⟩:=r.Kl hx
      obtain⟨dy,ey,c5⟩:=r'.Kl hy
      rw[Cr ex,Cr ey]
      refine ih A.in1 dx dy x y _ _ ?_ (C7 (zj ex) (by rw[AH] at ax;exact ax)) (C7 (zj ey) (by rw[AH] at ag;exact ag)) uh c4 c5 rx ry
      rw[IT] at hd
      have:=Fs (zj ex)
      omega
  | @lst a xs ds h r =>
   cases r1
   obtain⟨aa,rv,p,_⟩:=I.list h
   cases h2 with
   |DH _ _=>simp[AH] at ag
   |Ip _ _=>simp[AH] at ag
   |Iq _ _=>simp[AH] at ag
   |ins _ _ _=>simp[AH] at ag
   |Az=>cases r2;simp only[Av];exact .list_none p.isList ak
   |bl b=>cases r2;simp only[Av];exact .list_bool _ p.isList ak
   |int b=>obtain⟨t,rfl⟩:=r2;simp only[Av];exact .list_int _ _ p.isList ak
   |str b=>obtain⟨t,rfl⟩:=r2;simp only[Av];exact .list_str _ _ p.isList ak
   | @tup a2 cz es h' r'=>cases r2;simp only[Av];obtain⟨_,_,p',_⟩:=I.tuple (.of h');exact .list_tuple p.isList p' ak
   | @lst a2 cz es h' r' =>
    cases r2
    by_cases ha:a=a2
    ·subst ha
     have e':=I.Gk h h'
     subst e'
     have e2:=Gu I (by rw[AH] at ax;exact ax) (by rw[AH] at ag;exact ag) r r'
     subst e2
     rw[J3]
     exact .same _
    ·obtain⟨its',bi,p',_⟩:=I.list h'
     refine .of_refs ha ?_
     have z1:aa.toArray.size=ds.length:=by rw[zh,<-rv.length,r.length]
     have z2:its'.toArray.size=es.length:=by rw[zh,<-bi.length,r'.length]
     by_cases hz:aa.toArray.size=its'.toArray.size
     ·have q:=SeqAt.RcAt.lists (A:=A) (e:=fun j=>Av (ds.getD j .Az) (es.getD j .Az)) p.isList p'.isList hz ak fun j h1 h2=>?_
      ·rw[z1,DZ ds es (by rw[<-z1,<-z2,hz])] at q
       simp only[Av]
       exact q
      ·obtain⟨x,hx,rx⟩:=Wx rv j h1
       obtain⟨y,hy,ry⟩:=Wx bi j h2
       obtain⟨dx,ex,c4⟩:=r.Kl hx
       obtain⟨dy,ey,c5⟩:=r'.Kl hy
       rw[Cr ex,Cr ey]
       refine ih A.in1 dx dy x y _ _ ?_ (C7 (zj ex) (by rw[AH] at ax;exact ax)) (C7 (zj ey) (by rw[AH] at ag;exact ag)) uh c4 c5 rx ry
       rw[IT] at hd
       have:=Fs (zj ex)
       omega
     ·have q:=SeqAt.RcAt.lists_lengths (A:=A) p.isList p'.isList (by simpa using hz) ak
      simp only[Av]
      rw[Ly (by rw[<-z1,<-z2];exact hz)]
      exact q
theorem rT (I:Inv X pins σ H s) (A:Around) (d e:D) (v w:V) (u1 u2:Value) (hd:A.units + IT d < cLine) (ax:AH d=true) (ag:AH e=true) (h1:BH X.K H v d) (h2:BH X.K H w e) (r1:RelV v u1) (r2:RelV w u2):SeqAt.RcAt A s u1 u2 (Av d e):=by
 have ak:A.units < cLine:=by omega
 cases h1 with
 |DH _ _=>simp[AH] at ax
 |Ip _ _=>simp[AH] at ax
 |Iq _ _=>simp[AH] at ax
 |ins _ _ _=>simp[AH] at ax
 |Az =>
  cases r1
  cases h2 with
  |DH _ _=>simp[AH] at ag
  |Ip _ _=>simp[AH] at ag
  |Iq _ _=>simp[AH] at ag
  |ins _ _ _=>simp[AH] at ag
  |Az=>cases r2;simp only[Av];exact .none_none
  |bl b=>cases r2;simp only[Av];exact .none_bool _
  |int b=>obtain⟨t,rfl⟩:=r2;simp only[Av];exact .none_int _ _
  |str b=>obtain⟨t,rfl⟩:=r2;simp only[Av];exact .none_str _ _
  |tup h r=>cases r2;simp only[Av];obtain⟨_,_,p,_⟩:=I.tuple (.of h);exact .none_tuple  p ak
  |lst h r=>cases r2;simp only[Av];obtain⟨_,_,p,_⟩:=I.list h;exact .none_list  p.isList ak
 |bl a =>
  cases r1
  cases h2 with
  |DH _ _=>simp[AH] at ag
  |Ip _ _=>simp[AH] at ag
  |Iq _ _=>simp[AH] at ag
  |ins _ _ _=>simp[AH] at ag
  |Az=>cases r2;simp only[Av];exact .bool_none _
  |bl b=>cases r2;simp only[Av];exact .bool_bool _ _
  |int b=>obtain⟨t,rfl⟩:=r2;simp only[Av];exact .bool_int _ _ _
  |str b=>obtain⟨t,rfl⟩:=r2;simp only[Av];exact .bool_str _ _ _
  |tup h r=>cases r2;simp only[Av];obtain⟨_,_,p,_⟩:=I.tuple (.of h);exact .bool_tuple _ p ak
  |lst h r=>cases r2;simp only[Av];obtain⟨_,_,p,_⟩:=I.list h;exact .bool_list _ p.isList ak
 |int a =>
  obtain⟨t',rfl⟩:=r1
  cases h2 with
  |DH _ _=>simp[AH] at ag
  |Ip _ _=>simp[AH] at ag
  |Iq _ _=>simp[AH] at ag
  |ins _ _ _=>simp[AH] at ag
  |Az=>cases r2;simp only[Av];exact .int_none _ _
  |bl b=>cases r2;simp only[Av];exact .int_bool _ _ _
  |int b=>obtain⟨t,rfl⟩:=r2;simp only[Av];exact .int_int _ _ _ _
  |str b=>obtain⟨t,rfl⟩:=r2;simp only[Av];exact .int_str _ _ _ _
  |tup h r=>cases r2;simp only[Av];obtain⟨_,_,p,_⟩:=I.tuple (.of h);exact .int_tuple _ _ p ak
  |lst h r=>cases r2;simp only[Av];obtain⟨_,_,p,_⟩:=I.list h;exact .int_list _ _ p.isList ak
 |str a =>
  obtain⟨t',rfl⟩:=r1
  cases h2 with
  |DH _ _=>simp[AH] at ag
  |Ip _ _=>simp[AH] at ag
  |Iq _ _=>simp[AH] at ag
  |ins _ _ _=>simp[AH] at ag
  |Az=>cases r2;simp only[Av];exact .str_none _ _
  |bl b=>cases r2;simp only[Av];exact .str_bool _ _ _
  |int b=>obtain⟨t,rfl⟩:=r2;simp only[Av];exact .str_int _ _ _ _
  |str b=>obtain⟨t,rfl⟩:=r2;simp only[Av];exact .str_str _ _ _ _
  |tup h r=>cases r2;simp only[Av];obtain⟨_,_,p,_⟩:=I.tuple (.of h);exact .str_tuple _ _ p ak
  |lst h r=>cases r2;simp only[Av];obtain⟨_,_,p,_⟩:=I.list h;exact .str_list _ _ p.isList ak
 | @tup a xs ds h r =>
  cases r1
  obtain⟨aa,rv,p,_⟩:=I.tuple (.of h)
  cases h2 with
  |DH _ _=>simp[AH] at ag
  |Ip _ _=>simp[AH] at ag
  |Iq _ _=>simp[AH] at ag
  |ins _ _ _=>simp[AH] at ag
  |Az=>cases r2;simp only[Av];exact .tuple_none  p ak
  |bl b=>cases r2;simp only[Av];exact .tuple_bool _ p ak
  |int b=>obtain⟨t,rfl⟩:=r2;simp only[Av];exact .tuple_int _ _ p ak
  |str b=>obtain⟨t,rfl⟩:=r2;simp only[Av];exact .tuple_str _ _ p ak
  | @lst a2 cz es h' r'=>cases r2;simp only[Av];obtain⟨_,_,p',_⟩:=I.list h';exact .tuple_list p p'.isList ak
  | @tup a2 cz es h' r' =>
   cases r2
   obtain⟨its',bi,p',_⟩:=I.tuple (.of h')
   have z1:aa.toArray.size=ds.length:=by rw[zh,<-rv.length,r.length]
   have z2:its'.toArray.size=es.length:=by rw[zh,<-bi.length,r'.length]
   have q:=SeqAt.RcAt.tuples (A:=A) (e:=fun j=>Av (ds.getD j .Az) (es.getD j .Az)) p p' ak fun j h1 h2=>?_
   ·rw[z1,z2,Mt] at q
    simp only[Av]
    exact q
   ·obtain⟨x,hx,rx⟩:=Wx rv j h1
    obtain⟨y,hy,ry⟩:=Wx bi j h2
    obtain⟨dx,ex,c4⟩:=r.Kl hx
    obtain⟨dy,ey,c5⟩:=r'.Kl hy
    rw[Cr ex,Cr ey]
    rw[IT] at hd
    have:=Fs (zj ex)
    exact Pp I (Ln ds) A.in1 dx dy x y _ _ this (C7 (zj ex) (by rw[AH] at ax;exact ax)) (C7 (zj ey) (by rw[AH] at ag;exact ag)) (by show A.units + 1 + _ < cLine;omega) c4 c5 rx ry
 | @lst a xs ds h r =>
  cases r1
  obtain⟨aa,rv,p,_⟩:=I.list h
  cases h2 with
  |DH _ _=>simp[AH] at ag
  |Ip _ _=>simp[AH] at ag
  |Iq _ _=>simp[AH] at ag
  |ins _ _ _=>simp[AH] at ag
  |Az=>cases r2;simp only[Av];exact .list_none  p.isList ak
  |bl b=>cases r2;simp only[Av];exact .list_bool _ p.isList ak
  |int b=>obtain⟨t,rfl⟩:=r2;simp only[Av];exact .list_int _ _ p.isList ak
  |str b=>obtain⟨t,rfl⟩:=r2;simp only[Av];exact .list_str _ _ p.isList ak
  | @tup a2 cz es h' r'=>cases r2;simp only[Av];obtain⟨_,_,p',_⟩:=I.tuple (.of h');exact .list_tuple p.isList p' ak
  | @lst a2 cz es h' r' =>
   cases r2
   obtain⟨its',bi,p',_⟩:=I.list h'
   have z1:aa.toArray.size=ds.length:=by rw[zh,<-rv.length,r.length]
   have z2:its'.toArray.size=es.length:=by rw[zh,<-bi.length,r'.length]
   by_cases hz:aa.toArray.size=its'.toArray.size
   ·have q:=SeqAt.RcAt.lists (A:=A) (e:=fun j=>Av (ds.getD j .Az) (es.getD j .Az)) p.isList p'.isList hz ak fun j h1 h2=>?_
    ·rw[z1,DZ ds es (by rw[<-z1,<-z2,hz])] at q
     simp only[Av]
     exact q
    ·obtain⟨x,hx,rx⟩:=Wx rv j h1
     obtain⟨y,hy,ry⟩:=Wx bi j h2
     obtain⟨dx,ex,c4⟩:=r.Kl hx
     obtain⟨dy,ey,c5⟩:=r'.Kl hy
     rw[Cr ex,Cr ey]
     rw[IT] at hd
     have:=Fs (zj ex)
     exact Pp I (Ln ds) A.in1 dx dy x y _ _ this (C7 (zj ex) (by rw[AH] at ax;exact ax)) (C7 (zj ey) (by rw[AH] at ag;exact ag)) (by show A.units + 1 + _ < cLine;omega) c4 c5 rx ry
   ·have q:=SeqAt.RcAt.lists_lengths (A:=A) p.isList p'.isList (by simpa using hz) ak
    simp only[Av]
    rw[Ly (by rw[<-z1,<-z2];exact hz)]
    exact q
theorem oB (I:Inv X pins σ H s) (A:Around) (d e:D) (v w:V) (u1 u2:Value) (hd:A.units + IT d < cLine) (ax:AH d=true) (ag:AH e=true) (h1:BH X.K H v d) (h2:BH X.K H w e) (r1:RelV v u1) (r2:RelV w u2):SeqAt.RcNeAt A s u1 u2 (!Av d e):=by
 have ak:A.units < cLine:=by omega
 cases h1 with
 |DH _ _=>simp[AH] at ax
 |Ip _ _=>simp[AH] at ax
 |Iq _ _=>simp[AH] at ax
 |ins _ _ _=>simp[AH] at ax
 |Az =>
  cases r1
  cases h2 with
  |DH _ _=>simp[AH] at ag
  |Ip _ _=>simp[AH] at ag
  |Iq _ _=>simp[AH] at ag
  |ins _ _ _=>simp[AH] at ag
  |Az=>cases r2;simp only[Av];exact .none_none
  |bl b=>cases r2;simp only[Av];exact .none_bool _
  |int b=>obtain⟨t,rfl⟩:=r2;simp only[Av];exact .none_int _ _
  |str b=>obtain⟨t,rfl⟩:=r2;simp only[Av];exact .none_str _ _
  |tup h r=>cases r2;simp only[Av];obtain⟨_,_,p,_⟩:=I.tuple (.of h);exact .none_tuple  p ak
  |lst h r=>cases r2;simp only[Av];obtain⟨_,_,p,_⟩:=I.list h;exact .none_list  p.isList ak
 |bl a =>
  cases r1
  cases h2 with
  |DH _ _=>simp[AH] at ag
  |Ip _ _=>simp[AH] at ag
  |Iq _ _=>simp[AH] at ag
  |ins _ _ _=>simp[AH] at ag
  |Az=>cases r2;simp only[Av];exact .bool_none _
  |bl b=>cases r2;simp only[Av];exact .bool_bool _ _
  |int b=>obtain⟨t,rfl⟩:=r2;simp only[Av];exact .bool_int _ _ _
  |str b=>obtain⟨t,rfl⟩:=r2;simp only[Av];exact .bool_str _ _ _
  |tup h r=>cases r2;simp only[Av];obtain⟨_,_,p,_⟩:=I.tuple (.of h);exact .bool_tuple _ p ak
  |lst h r=>cases r2;simp only[Av];obtain⟨_,_,p,_⟩:=I.list h;exact .bool_list _ p.isList ak
 |int a =>
  obtain⟨t',rfl⟩:=r1
  cases h2 with
  |DH _ _=>simp[AH] at ag
  |Ip _ _=>simp[AH] at ag
  |Iq _ _=>simp[AH] at ag
  |ins _ _ _=>simp[AH] at ag
  |Az=>cases r2;simp only[Av];exact .int_none _ _
  |bl b=>cases r2;simp only[Av];exact .int_bool _ _ _
  |int b=>obtain⟨t,rfl⟩:=r2;simp only[Av];exact .int_int _ _ _ _
  |str b=>obtain⟨t,rfl⟩:=r2;simp only[Av];exact .int_str _ _ _ _
  |tup h r=>cases r2;simp only[Av];obtain⟨_,_,p,_⟩:=I.tuple (.of h);exact .int_tuple _ _ p ak
  |lst h r=>cases r2;simp only[Av];obtain⟨_,_,p,_⟩:=I.list h;exact .int_list _ _ p.isList ak
 |str a =>
  obtain⟨t',rfl⟩:=r1
  cases h2 with
  |DH _ _=>simp[AH] at ag
  |Ip _ _=>simp[AH] at ag
  |Iq _ _=>simp[AH] at ag
  |ins _ _ _=>simp[AH] at ag
  |Az=>cases r2;simp only[Av];exact .str_none _ _
  |bl b=>cases r2;simp only[Av];exact .str_bool _ _ _
  |int b=>obtain⟨t,rfl⟩:=r2;simp only[Av];exact .str_int _ _ _ _
  |str b=>obtain⟨t,rfl⟩:=r2;simp only[Av];exact .str_str _ _ _ _
  |tup h r=>cases r2;simp only[Av];obtain⟨_,_,p,_⟩:=I.tuple (.of h);exact .str_tuple _ _ p ak
  |lst h r=>cases r2;simp only[Av];obtain⟨_,_,p,_⟩:=I.list h;exact .str_list _ _ p.isList ak
 | @tup a xs ds h r =>
  cases r1
  obtain⟨aa,rv,p,_⟩:=I.tuple (.of h)
  cases h2 with
  |DH _ _=>simp[AH] at ag
  |Ip _ _=>simp[AH] at ag
  |Iq _ _=>simp[AH] at ag
  |ins _ _ _=>simp[AH] at ag
  |Az=>cases r2;simp only[Av];exact .tuple_none  p ak
  |bl b=>cases r2;simp only[Av];exact .tuple_bool _ p ak
  |int b=>obtain⟨t,rfl⟩:=r2;simp only[Av];exact .tuple_int _ _ p ak
  |str b=>obtain⟨t,rfl⟩:=r2;simp only[Av];exact .tuple_str _ _ p ak
  | @lst a2 cz es h' r'=>cases r2;simp only[Av];obtain⟨_,_,p',_⟩:=I.list h';exact .tuple_list p p'.isList ak
  | @tup a2 cz es h' r' =>
   cases r2
   obtain⟨its',bi,p',_⟩:=I.tuple (.of h')
   have z1:aa.toArray.size=ds.length:=by rw[zh,<-rv.length,r.length]
   have z2:its'.toArray.size=es.length:=by rw[zh,<-bi.length,r'.length]
   have q:=SeqAt.RcNeAt.tuples (A:=A) (e:=fun j=>Av (ds.getD j .Az) (es.getD j .Az)) p p' ak fun j h1 h2=>?_
   ·rw[z1,z2,Mt] at q
    simp only[Av]
    exact q
   ·obtain⟨x,hx,rx⟩:=Wx rv j h1
    obtain⟨y,hy,ry⟩:=Wx bi j h2
    obtain⟨dx,ex,c4⟩:=r.Kl hx
    obtain⟨dy,ey,c5⟩:=r'.Kl hy
    rw[Cr ex,Cr ey]
    rw[IT] at hd
    have:=Fs (zj ex)
    exact Pp I (Ln ds) A.in1 dx dy x y _ _ this (C7 (zj ex) (by rw[AH] at ax;exact ax)) (C7 (zj ey) (by rw[AH] at ag;exact ag)) (by show A.units + 1 + _ < cLine;omega) c4 c5 rx ry
 | @lst a xs ds h r =>
  cases r1
  obtain⟨aa,rv,p,_⟩:=I.list h
  cases h2 with
  |DH _ _=>simp[AH] at ag
  |Ip _ _=>simp[AH] at ag
  |Iq _ _=>simp[AH] at ag
  |ins _ _ _=>simp[AH] at ag
  |Az=>cases r2;simp only[Av];exact .list_none  p.isList ak
  |bl b=>cases r2;simp only[Av];exact .list_bool _ p.isList ak
  |int b=>obtain⟨t,rfl⟩:=r2;simp only[Av];exact .list_int _ _ p.isList ak
  |str b=>obtain⟨t,rfl⟩:=r2;simp only[Av];exact .list_str _ _ p.isList ak
  | @tup a2 cz es h' r'=>cases r2;simp only[Av];obtain⟨_,_,p',_⟩:=I.tuple (.of h');exact .list_tuple p.isList p' ak
  | @lst a2 cz es h' r' =>
   cases r2
   obtain⟨its',bi,p',_⟩:=I.list h'
   have z1:aa.toArray.size=ds.length:=by rw[zh,<-rv.length,r.length]
   have z2:its'.toArray.size=es.length:=by rw[zh,<-bi.length,r'.length]
   by_cases hz:aa.toArray.size=its'.toArray.size
   ·have q:=SeqAt.RcNeAt.lists (A:=A) (e:=fun j=>Av (ds.getD j .Az) (es.getD j .Az)) p.isList p'.isList hz ak fun j h1 h2=>?_
    ·rw[z1,DZ ds es (by rw[<-z1,<-z2,hz])] at q
     simp only[Av]
     exact q
    ·obtain⟨x,hx,rx⟩:=Wx rv j h1
     obtain⟨y,hy,ry⟩:=Wx bi j h2
     obtain⟨dx,ex,c4⟩:=r.Kl hx
     obtain⟨dy,ey,c5⟩:=r'.Kl hy
     rw[Cr ex,Cr ey]
     rw[IT] at hd
     have:=Fs (zj ex)
     exact Pp I (Ln ds) A.in1 dx dy x y _ _ this (C7 (zj ex) (by rw[AH] at ax;exact ax)) (C7 (zj ey) (by rw[AH] at ag;exact ag)) (by show A.units + 1 + _ < cLine;omega) c4 c5 rx ry
   ·have q:=SeqAt.RcNeAt.lists_lengths (A:=A) p.isList p'.isList (by simpa using hz) ak
    simp only[Av]
    rw[Ly (by rw[<-z1,<-z2];exact hz)]
    exact q
def ZE (K:za) (A:Around) (neg:Bool):R2:=fun x y H Q=>∃ d e,BH K H x d/\BH K H y e/\A.units + IT d < cLine/\AH d=true/\AH e=true/\Q (.bl (if neg=true then !Av d e else Av d e)) H
theorem Xf:Gn X (compareOp .Eq) (ZE X.K X.A false):=by
 intro pins s σ H x y v u Q I rx ry h
 obtain⟨d,e,hd,he,hu,n1,n2,q⟩:=h
 exact rT I X.A d e x y v u hu n1 n2 hd he rx ry X.prog X.w X.xe _ ⟨.bl _,H,I,rfl,q⟩
theorem jS:Gn X (compareOp .NotEq) (ZE X.K X.A true):=by
 intro pins s σ H x y v u Q I rx ry h
 obtain⟨d,e,hd,he,hu,n1,n2,q⟩:=h
 exact oB I X.A d e x y v u hu n1 n2 hd he rx ry X.prog X.w X.xe _ ⟨.bl _,H,I,rfl,q⟩
end
end L2
namespace L2
open PySem PySem.Spec PyProof.Rows
inductive OT where
 |sh (d:D)|lst (ts:List OT)|tup (ts:List OT)|Bg (t:Bool) (ks:List D) (ts:List OT)|ins (x:Str) (ns:List Str) (ts:List OT)
inductive Ow where
 |rows (BZ:List (List D))
 |Lz (p:Nat) (ds:List D)
 |tree (p:Option Nat) (t:OT)
inductive Cl where
 |val (d:D)|own (ds:List D)|ow (o:Ow)
abbrev Ab:=List (Option Cl)
inductive M (α:Type) where
 |ok (a:α)|ex (c:Str)|bad
def M.bind {α β:Type}(m:M α) (k:α->M β):M β:=match m with
 | .ok a=>k a
 | .ex c=>.ex c
 | .bad=>.bad
@[simp] theorem M.A7 {α β:Type}(a:α) (k:α->M β):(M.ok a).bind k=k a:=rfl
noncomputable def del (H:Hp) (P:Addr->Prop):Hp:=fun a=>open Classical in if P a then none else H a
theorem Aw {H:Hp}{P:Addr->Prop}{a:Addr}(h:¬ P a):del H P a=H a:=by unfold del;rw[if_neg h]
theorem CZ {H:Hp}{P:Addr->Prop}{a:Addr}(h:P a):del H P a=none:=by unfold del;rw[if_pos h]
theorem Al {H:Hp}{P:Addr->Prop}{a:Addr}{o:HO}(h:del H P a=some o):¬ P a/\H a=some o:=by
 by_cases hp:P a
 ·rw[CZ hp] at h;cases h
 ·rw[Aw hp] at h;exact⟨hp,h⟩
theorem Ad.del {H H':Hp}{P:Addr->Prop}(e:Ad H H'):Ad (del H P) (del H' P):=fun b o h=>by
 obtain⟨h1,h2⟩:=Al h
 rw[Aw h1];exact e b o h2
theorem CJ {H:Hp}{P P':Addr->Prop}(h:∀ a,P' a->P a):Ad (L2.del H P) (L2.del H P'):=fun b o e=>by
 obtain⟨h1,h2⟩:=Al e
 rw[Aw fun z=>h1 (h b z)];exact h2
theorem E5 {H:Hp}{P:Addr->Prop}:Ad (L2.del H P) H:=fun b o e=>(Al e).2
def Dn (H:Hp) (a:Addr):Prop:=∃ o,H a=some o/\∀ xs,o≠.tup xs/\∀ z,o≠.Vc z (.tup xs)
theorem Dn.same {H H':Hp}{a:Addr}(h:Dn H a) (e:Ad H H'):Dn H' a:=let ⟨o,q,r⟩:=h;⟨o,e a o q,r⟩
theorem Dn.no {H:Hp}{a:Addr}(h:Dn H a) (e:H a=none):False:=by
 obtain⟨o,q,r⟩:=h
 rw[e] at q;cases q
theorem Dn.lst {H:Hp}{a:Addr}{xs:List V}(h:H a=some (.lst xs)):Dn H a:=⟨_,h,fun _=>⟨fun z=>(by cases z),fun _ z=>by cases z⟩⟩
mutual
inductive C1 (K:za) (H:Hp) (P:Addr->Prop):V->OT->List Addr->Prop
 |sh {v d}:BH K (del H P) v d->C1 K H P v (.sh d) []
 |lst {p xs ts fp}:H p=some (.lst xs)->AI K H P xs ts fp->C1 K H P (.ref p) (.lst ts) (p::fp)
 |tup {p xs ts fp}:del H P p=some (.tup xs)->AI K H P xs ts fp->C1 K H P (.ref p) (.tup ts) fp
 |dK {p kvs ts fp}:H p=some (.dK kvs)->AI K H P (kvs.map yv) ts fp->C1 K H P (.ref p) (.Bg false (kvs.map fun kv=>Dl kv.1) ts) (p::fp)
 |dT {p kvs ts fp}:H p=some (.dT kvs)->AI K H P (kvs.map yv) ts fp->C1 K H P (.ref p) (.Bg true (kvs.map fun kv=>.tup (kv.1.map Dl)) ts) (p::fp)
 |ins {p C dx fs ts fp x}:zD K mainGlobals x=some (some (.ref C))->H p=some (.ins C dx fs)->AI K H P (fs.map yv) ts fp->C1 K H P (.ref p) (.ins x (fs.map zI) ts) (p::fp)
inductive AI (K:za) (H:Hp) (P:Addr->Prop):List V->List OT->List Addr->Prop
 |nil:AI K H P [] [] []
 |cons {v t fp vs ts fq}:C1 K H P v t fp->AI K H P vs ts fq->AI K H P (v::vs) (t::ts) (fp++fq)
end
mutual
def er:OT->D
 | .sh d=>d
 | .lst ts=>.lst (U8 ts)
 | .tup ts=>.tup (U8 ts)
 | .Bg t ks ts=>.Bg t ks (U8 ts)
 | .ins x ns ts=>.ins x ns (U8 ts)
def U8:List OT->List D
 |[]=>[]
 |t::r=>er t::U8 r
end
theorem U9:∀ ts:List OT,U8 ts=ts.map er
 |[]=>rfl
 |t::r=>by rw[U8,U9 r,zf]
mutual
theorem C1.move {K:za}{H H':Hp}{P P':Addr->Prop}(sm:Ad (del H P) (del H' P')):∀ {v:V}{t:OT}{fp:List Addr},(∀ a∈fp,H' a=H a)->C1 K H P v t fp->C1 K H' P' v t fp
 |_,_,_,_,.sh h=>.sh (h.mono sm)
 |_,_,_,k,.lst h r=>.lst ((k _ zd).trans h) (AI.move sm (fun a ha=>k a (ze _ ha)) r)
 |_,_,_,k,.tup h r=>.tup (sm _ _ h) (AI.move sm k r)
 |_,_,_,k,.dK h r=>.dK ((k _ zd).trans h) (AI.move sm (fun a ha=>k a (ze _ ha)) r)
 |_,_,_,k,.dT h r=>.dT ((k _ zd).trans h) (AI.move sm (fun a ha=>k a (ze _ ha)) r)
 |_,_,_,k,.ins n h r=>.ins n ((k _ zd).trans h) (AI.move sm (fun a ha=>k a (ze _ ha)) r)
theorem AI.move {K:za}{H H':Hp}{P P':Addr->Prop}(sm:Ad (del H P) (del H' P')):∀ {v:List V}{t:List OT}{fp:List Addr},(∀ a∈fp,H' a=H a)->AI K H P v t fp->AI K H' P' v t fp
 |_,_,_,_,.nil=>.nil
 |_,_,_,k,.cons h r=>.cons (C1.move sm (fun a ha=>k a (zN _ ha)) h) (AI.move sm (fun a ha=>k a (zm _ ha)) r)
end
mutual
theorem C1.Cn {K:za}{H:Hp}{P:Addr->Prop}:∀ {v:V}{t:OT}{fp:List Addr},C1 K H P v t fp->∀ a∈fp,Dn H a
 |_,_,_,.sh h,a,ha=>by cases ha
 |_,_,_,.lst h r,a,ha=>by
  rcases zo.mp ha with rfl|ha
  ·exact .lst h
  ·exact AI.Cn r a ha
 |_,_,_,.tup h r,a,ha=>AI.Cn r a ha
 |_,_,_,.dK h r,a,ha=>by
  rcases zo.mp ha with rfl|ha
  ·exact⟨_,h,fun _=>⟨fun z=>(by cases z),fun _ z=>by cases z⟩⟩
  ·exact AI.Cn r a ha
 |_,_,_,.dT h r,a,ha=>by
  rcases zo.mp ha with rfl|ha
  ·exact⟨_,h,fun _=>⟨fun z=>(by cases z),fun _ z=>by cases z⟩⟩
  ·exact AI.Cn r a ha
 |_,_,_,.ins n h r,a,ha=>by
  rcases zo.mp ha with rfl|ha
  ·exact⟨_,h,fun _=>⟨fun z=>(by cases z),fun _ z=>by cases z⟩⟩
  ·exact AI.Cn r a ha
theorem AI.Cn {K:za}{H:Hp}{P:Addr->Prop}:∀ {v:List V}{t:List OT}{fp:List Addr},AI K H P v t fp->∀ a∈fp,Dn H a
 |_,_,_,.nil,a,ha=>by cases ha
 |_,_,_,.cons h r,a,ha=>by
  rcases zv.mp ha with ha|ha
  ·exact C1.Cn h a ha
  ·exact AI.Cn r a ha
end
mutual
theorem C1.Cp {K:za}{H:Hp}{P P':Addr->Prop}:∀ {v:V}{t:OT}{fp ai:List Addr},C1 K H P v t fp->C1 K H P' v t ai->fp=ai
 |_,_,_,_,.sh _,.sh _=>rfl
 |_,_,_,_,.lst h r,.lst h' r'=>by
  rw[h] at h';cases h'
  rw[AI.Cp r r']
 |_,_,_,_,.tup h r,.tup h' r'=>by
  have e:=(Al h).2.symm.trans (Al h').2
  cases e
  exact AI.Cp r r'
 |_,_,_,_,.dK (kvs:=kvs) (ts:=ts) h r,x=>by
  generalize ht:OT.Bg false (kvs.map fun kv=>Dl kv.1) ts=t at x
  cases x with
  |dK h' r' =>
   rw[h] at h';cases h'
   injection ht with _ _ e
   subst e
   rw[AI.Cp r r']
  |dT h' r'=>rw[h] at h';cases h'
  |_=>cases ht
 |_,_,_,_,.dT (kvs:=kvs) (ts:=ts) h r,x=>by
  generalize ht:OT.Bg true (kvs.map fun kv=>D.tup (kv.1.map Dl)) ts=t at x
  cases x with
  |dT h' r' =>
   rw[h] at h';cases h'
   injection ht with _ _ e
   subst e
   rw[AI.Cp r r']
  |dK h' r'=>rw[h] at h';cases h'
  |_=>cases ht
 |_,_,_,_,.ins (fs:=fs) (ts:=ts) (x:=y) n h r,x=>by
  generalize ht:OT.ins y (fs.map zI) ts=t at x
  cases x with
  |ins n' h' r' =>
   rw[h] at h';cases h'
   injection ht with _ _ e
   subst e
   rw[AI.Cp r r']
  |_=>cases ht
theorem AI.Cp {K:za}{H:Hp}{P P':Addr->Prop}:∀ {v:List V}{t:List OT}{fp ai:List Addr},AI K H P v t fp->AI K H P' v t ai->fp=ai
 |_,_,_,_,.nil,.nil=>rfl
 |_,_,_,_,.cons h r,.cons h' r'=>by rw[C1.Cp h h',AI.Cp r r']
end
mutual
theorem C1.has {K:za}{H:Hp}{P P0:Addr->Prop}(hs:∀ a,P0 a->P a):∀ {v:V}{t:OT}{fp:List Addr},(∀ a∈fp,¬ P0 a)->C1 K H P v t fp->BH K (del H P0) v (er t)
 |_,_,_,_,.sh h=>by rw[er];exact h.mono (CJ hs)
 |_,_,_,k,.lst h r=>by rw[er];exact .lst (.of (show del H P0 _=_ by rw[Aw (k _ zd)];exact h)) (AI.has hs (fun a ha=>k a (ze _ ha)) r)
 |_,_,_,k,.tup h r=>by rw[er];exact .tup (CJ hs _ _ h) (AI.has hs k r)
 |_,_,_,k,.dK h r=>by rw[er];exact .Ip (show del H P0 _=_ by rw[Aw (k _ zd)];exact h) (AI.has hs (fun a ha=>k a (ze _ ha)) r)
 |_,_,_,k,.dT h r=>by rw[er];exact .Iq (show del H P0 _=_ by rw[Aw (k _ zd)];exact h) (AI.has hs (fun a ha=>k a (ze _ ha)) r)
 |_,_,_,k,.ins n h r=>by rw[er];exact .ins n (show del H P0 _=_ by rw[Aw (k _ zd)];exact h) (AI.has hs (fun a ha=>k a (ze _ ha)) r)
theorem AI.has {K:za}{H:Hp}{P P0:Addr->Prop}(hs:∀ a,P0 a->P a):∀ {v:List V}{t:List OT}{fp:List Addr},(∀ a∈fp,¬ P0 a)->AI K H P v t fp->Ag K (del H P0) v (U8 t)
 |_,_,_,_,.nil=>by rw[U8];exact .nil
 |_,_,_,k,.cons h r=>by rw[U8];exact .cons (C1.has hs (fun a ha=>k a (zN _ ha)) h) (AI.has hs (fun a ha=>k a (zm _ ha)) r)
end
inductive Bw (K:za) (H:Hp) (P:Addr->Prop):List Addr->List (List D)->Prop
 |nil:Bw K H P [] []
 |cons {q:Addr} {xs:List V} {ds:List D} {ps:List Addr} {BZ:List (List D)}:H q=some (.lst xs)->Ag K (del H P) xs ds->Bw K H P ps BZ->Bw K H P (q::ps) (ds::BZ)
def Dm (K:za) (H:Hp) (P:Addr->Prop):Cl->V->List Addr->Prop
 | .own ds,v,fp=>∃ p xs,v=.ref p/\fp=[p]/\H p=some (.lst xs)/\Ag K (del H P) xs ds
 | .ow (.rows BZ),v,fp=>∃ p ps,v=.ref p/\fp=p::ps/\H p=some (.lst (ps.map V.ref))/\Bw K H P ps BZ
 | .ow (.Lz _ ds),v,fp=>∃ p xs,v=.ref p/\fp=[p]/\H p=some (.lst xs)/\Ag K (del H P) xs ds
 | .ow (.tree _ t),v,fp=>C1 K H P v t fp
 | .val _,_,_=>False
def Ir:Cl->Bool
 | .val _=>false
 |_=>true
theorem Bw.move {K:za}{H H':Hp}{P P':Addr->Prop}(sm:Ad (del H P) (del H' P')):∀ {ps:List Addr}{BZ:List (List D)},(∀ a∈ps,H' a=H a)->Bw K H P ps BZ->Bw K H' P' ps BZ
 |_,_,_,.nil=>.nil
 |_,_,k,.cons h r t=>.cons ((k _ zd).trans h) (r.mono sm) (Bw.move sm (fun a ha=>k a (ze _ ha)) t)
theorem Bw.at {K:za}{H:Hp}{P:Addr->Prop}:∀ {ps:List Addr}{BZ:List (List D)},Bw K H P ps BZ->∀ a∈ps,∃ xs,H a=some (.lst xs)
 |_,_,.nil,a,h=>by cases h
 |_,_,.cons h r t,a,ha=>by
  rcases zo.mp ha with rfl|ha
  ·exact⟨_,h⟩
  ·exact t.at a ha
theorem Bw.length {K:za}{H:Hp}{P:Addr->Prop}:∀ {ps:List Addr}{BZ:List (List D)},Bw K H P ps BZ->ps.length=BZ.length
 |_,_,.nil=>rfl
 |_,_,.cons h r t=>by rw[zk,zk,t.length]
theorem Bw.get {K:za}{H:Hp}{P:Addr->Prop}:∀ {ps:List Addr}{BZ:List (List D)}{i:Nat}{ds:List D},Bw K H P ps BZ->BZ[i]? =some ds->∃ q xs,ps[i]? =some q/\H q=some (.lst xs)/\Ag K (del H P) xs ds
 |_,_,_,_,.nil,e=>by simp at e
 |_,_,0,_,.cons h r _,e=>by simp at e;subst e;exact⟨_,_,rfl,h,r⟩
 |_,_,i + 1,ds,.cons _ _ t,e=>by
  obtain⟨q,xs,h1,h2⟩:=Bw.get (i:=i) (ds:=ds) t (by simpa using e)
  exact⟨q,xs,by simpa using h1,h2⟩
theorem QT:∀ {ps qs:List Addr},ps.map V.ref=qs.map V.ref->ps=qs
 |[],[],_=>rfl
 |[],_::_,h=>by cases h
 |_::_,[],h=>by cases h
 |p::ps,q::qs,h=>by
  rw[zf,zf] at h
  injection h with h1 h2
  injection h1 with h1
  rw[h1,QT h2]
theorem Dm.move {K:za}{H H':Hp}{P P':Addr->Prop}(sm:Ad (del H P) (del H' P')){c:Cl}{v:V}{fp:List Addr}(k:∀ a∈fp,H' a=H a) (h:Dm K H P c v fp):Dm K H' P' c v fp:=by
 cases c with
 |val d=>exact h
 |own ds =>
  obtain⟨p,xs,rfl,rfl,h1,h2⟩:=h
  exact⟨p,xs,rfl,rfl,(k p zd).trans h1,h2.mono sm⟩
 |ow o =>
  cases o with
  |rows BZ =>
   obtain⟨p,ps,rfl,rfl,h1,h2⟩:=h
   exact⟨p,ps,rfl,rfl,(k p zd).trans h1,h2.move sm fun a ha=>k a (ze _ ha)⟩
  |Lz p ds =>
   obtain⟨p,xs,rfl,rfl,h1,h2⟩:=h
   exact⟨p,xs,rfl,rfl,(k p zd).trans h1,h2.mono sm⟩
  |tree p t=>exact C1.move sm k h
theorem Dm.at {K:za}{H:Hp}{P:Addr->Prop}{c:Cl}{v:V}{fp:List Addr}(h:Dm K H P c v fp):∀ a∈fp,∃ o,H a=some o:=by
 cases c with
 |val d=>exact h.elim
 |own ds =>
  obtain⟨p,xs,rfl,rfl,h1,h2⟩:=h
  exact fun a ha=>⟨.lst xs,by rw[zg.mp ha];exact h1⟩
 |ow o =>
  cases o with
  |rows BZ =>
   obtain⟨p,ps,rfl,rfl,h1,h2⟩:=h
   intro a ha
   rcases zo.mp ha with rfl|ha
   ·exact⟨_,h1⟩
   ·obtain⟨xs,q⟩:=h2.at a ha
    exact⟨_,q⟩
  |Lz p ds =>
   obtain⟨p,xs,rfl,rfl,h1,h2⟩:=h
   exact fun a ha=>⟨.lst xs,by rw[zg.mp ha];exact h1⟩
  |tree p t =>
   intro a ha
   obtain⟨o,q,_⟩:=C1.Cn h a ha
   exact⟨o,q⟩
theorem Dm.same {K:za}{H H':Hp}{P:Addr->Prop}(e:Ad H H'){c:Cl}{v:V}{fp:List Addr}(h:Dm K H P c v fp):Dm K H' P c v fp :=
 h.move e.del fun a ha=>by obtain⟨xs,q⟩:=h.at a ha;rw[q];exact e _ _ q
theorem Dm.Cp {K:za}{H:Hp}{P P':Addr->Prop}{c:Cl}{v:V}{fp ai:List Addr}(h:Dm K H P c v fp) (h':Dm K H P' c v ai):fp=ai:=by
 cases c with
 |val d=>exact h.elim
 |own ds =>
  obtain⟨p,xs,rfl,rfl,h1,h2⟩:=h
  obtain⟨p',du,e,rfl,dw,ib⟩:=h'
  cases e;rfl
 |ow o =>
  cases o with
  |rows BZ =>
   obtain⟨p,ps,rfl,rfl,h1,h2⟩:=h
   obtain⟨p',xP,e,rfl,dw,ib⟩:=h'
   cases e
   rw[h1] at dw
   injection dw with e
   injection e with e
   rw[QT e]
  |Lz p ds =>
   obtain⟨p,xs,rfl,rfl,h1,h2⟩:=h
   obtain⟨p',du,e,rfl,dw,ib⟩:=h'
   cases e;rfl
  |tree p t=>exact C1.Cp h h'
structure Ew where
 pr:Addr->Prop
 g:Nat->Addr
instance:CoeFun Ew (fun _=>Addr->Prop):=⟨Ew.pr⟩
instance:Coe Ew (Addr->Prop):=⟨Ew.pr⟩
def Om:Cl->Option Nat
 | .ow (.Lz n _)=>some n
 | .ow (.tree (some n) _)=>some n
 |_=>none
structure An (K:za) (P0:Ew) (P:Addr->Prop) (H:Hp) (σ:St) (ρ:Ab):Prop where
 sub:∀ a,P0 a->P a
 Cn:∀ a,P a->Dn H a
 val:∀(i:Nat) d,ρ[i]? =some (some (.val d))->∃ v,σ[i]? =some (some v)/\BH K (del H P) v d
 ows:∀(i:Nat) c,ρ[i]? =some (some c)->Ir c=true->∃ v fp,σ[i]? =some (some v)/\Dm K H P c v fp/\(∀ a∈fp,P a/\¬ P0 a)/\fp.Nodup
 apart:∀(i j:Nat) c c' v v' fp ai,ρ[i]? =some (some c)->ρ[j]? =some (some c')->σ[i]? =some (some v)->σ[j]? =some (some v')->Dm K H P c v fp->Dm K H P c' v' ai->i≠j->∀ a∈fp,a∉ai
 len:σ.length=ρ.length
 pin:∀(i:Nat) c n,ρ[i]? =some (some c)->Om c=some n->σ[i]? =some (some (.ref (P0.g n)))
theorem An.own {K:za}{P0:Ew}{P:Addr->Prop}{H:Hp}{σ:St}{ρ:Ab}(E:An K P0 P H σ ρ) (i:Nat) (ds:List D) (h:ρ[i]? =some (some (.own ds))) :
 ∃ p xs,σ[i]? =some (some (.ref p))/\H p=some (.lst xs)/\P p/\¬ P0 p/\Ag K (del H P) xs ds:=by
 obtain⟨v,fp,h1,⟨p,xs,rfl,rfl,h2,h3⟩,h4,_⟩:=E.ows i _ h rfl
 exact⟨p,xs,h1,h2,(h4 p zd).1,(h4 p zd).2,h3⟩
theorem An.Xg {K:za}{P0:Ew}{P P':Addr->Prop}{H H':Hp}{σ:St}{ρ:Ab}(E:An K P0 P H σ ρ) (sm:Ad (del H P) (del H' P')){i j:Nat}{c c':Cl}{v v':V}{fp ai:List Addr}
 (ki:∀ v fp,σ[i]? =some (some v)->Dm K H P c v fp->∀ a∈fp,H' a=H a) (kj:∀ v fp,σ[j]? =some (some v)->Dm K H P c' v fp->∀ a∈fp,H' a=H a)
 (hi:ρ[i]? =some (some c)) (hj:ρ[j]? =some (some c')) (si:σ[i]? =some (some v)) (sj:σ[j]? =some (some v')) (h:Dm K H' P' c v fp) (h':Dm K H' P' c' v' ai) (af:i≠j):∀ a∈fp,a∉ai:=by
 have key:∀(k:Nat) (d:Cl) (w:V) (fq:List Addr),ρ[k]? =some (some d)->σ[k]? =some (some w)->(∀ v fp,σ[k]? =some (some v)->Dm K H P d v fp->∀ a∈fp,H' a=H a)->Dm K H' P' d w fq->Dm K H P d w fq:=fun k d w fq hk sk kk ho=>by
  have io:Ir d=true:=by cases d<;>first|rfl|exact ho.elim
  obtain⟨w',cc,s2,o2,_⟩:=E.ows k d hk io
  rw[sk] at s2;cases s2
  have o3:=o2.move sm (kk _ _ sk o2)
  rw[ho.Cp o3]
  exact o2
 exact E.apart i j c c' v v' fp ai hi hj si sj (key i c v fp hi si ki h) (key j c' v' ai hj sj kj h') af
theorem An.same {K:za}{P0:Ew}{P:Addr->Prop}{H H':Hp}{σ:St}{ρ:Ab}(E:An K P0 P H σ ρ) (e:Ad H H'):An K P0 P H' σ ρ :=
 ⟨E.sub,fun a h=>(E.Cn a h).same e,fun i d h=>let ⟨v,h1,h2⟩:=E.val i d h;⟨v,h1,h2.mono e.del⟩,
  fun i c h io=>let ⟨v,fp,h1,h2,h3,h4⟩:=E.ows i c h io;⟨v,fp,h1,h2.same e,h3,h4⟩,
  fun i j c c' v v' fp ai hi hj si sj h h' af=>E.Xg e.del (fun v fp _ o a ha=>by obtain⟨xs,q⟩:=o.at a ha;rw[q];exact e _ _ q) (fun v fp _ o a ha=>by obtain⟨xs,q⟩:=o.at a ha;rw[q];exact e _ _ q) hi hj si sj h h' af,E.len,E.pin⟩
def gV (K:za) (WX:Str->Hp->Prop) (P:Addr->Prop) (H:Hp) (Q:VK):M D->Prop
 | .ok d=>∀ v H',Ad H H'->BH K (del H' P) v d->Q v H'
 | .ex x=>∀ H',Ad H H'->WX x H'
 | .bad=>False
def gA (K:za) (WX:Str->Hp->Prop) (P:Addr->Prop) (H:Hp) (Q:List V->Hp->Prop):M (List D)->Prop
 | .ok d=>∀ v H',Ad H H'->Ag K (del H' P) v d->Q v H'
 | .ex x=>∀ H',Ad H H'->WX x H'
 | .bad=>False
def gT (WX:Str->Hp->Prop) (H:Hp) (Q:Bool->Hp->Prop):M Bool->Prop
 | .ok b=>∀ H',Ad H H'->Q b H'
 | .ex x=>∀ H',Ad H H'->WX x H'
 | .bad=>False
section
variable {K:za}{WX:Str->Hp->Prop}{P:Addr->Prop}{H H':Hp}
theorem gV.same {Q:VK}{m:M D}(h:gV K WX P H Q m) (e:Ad H H'):gV K WX P H' Q m:=by
 cases m with
 |ok d=>exact fun v H2 q hv=>h v H2 (e.trans q) hv
 |ex x=>exact fun H2 q=>h H2 (e.trans q)
 |bad=>exact h
theorem gA.same {Q:List V->Hp->Prop}{m:M (List D)}(h:gA K WX P H Q m) (e:Ad H H'):gA K WX P H' Q m:=by
 cases m with
 |ok d=>exact fun v H2 q hv=>h v H2 (e.trans q) hv
 |ex x=>exact fun H2 q=>h H2 (e.trans q)
 |bad=>exact h
theorem gT.same {Q:Bool->Hp->Prop}{m:M Bool}(h:gT WX H Q m) (e:Ad H H'):gT WX H' Q m:=by
 cases m with
 |ok d=>exact fun H2 q=>h H2 (e.trans q)
 |ex x=>exact fun H2 q=>h H2 (e.trans q)
 |bad=>exact h
end
def Lv (c:Bool) (P0:Ew) (P:Addr->Prop):Addr->Prop:=if c=true then P else P0.pr
def DE (X:Cx) (WX:Str->Hp->Prop) (c:Bool) (e:Expr) (f:Ab->M D):Prop :=
 ∃ t,PE X e t/\∀ P0 P σ H Q ρ,An X.K P0 P H σ ρ->gV X.K WX (Lv c P0 P) H Q (f ρ)->t σ H Q
def DA (X:Cx) (WX:Str->Hp->Prop) (c:Bool) (es:List Expr) (f:Ab->M (List D)):Prop :=
 ∃ t,PA X es t/\(∀ P0 P σ H Q ρ,An X.K P0 P H σ ρ->gA X.K WX (Lv c P0 P) H Q (f ρ)->t σ H Q)/\∀ ρ ds,f ρ=.ok ds->ds.length=es.length
def DT (X:Cx) (WX:Str->Hp->Prop) (e:Expr) (f:Ab->M Bool):Prop :=
 ∃ t,PT X e t/\∀ P0 P σ H Q ρ,An X.K P0 P H σ ρ->gT WX H Q (f ρ)->t σ H Q
def DW (X:Cx) (WX:Str->Hp->Prop) (e:Expr) (f:Ab->M Bool):Prop :=
 ∃ t,PW X e t/\∀ P0 P σ H Q ρ,An X.K P0 P H σ ρ->gT WX H Q (f ρ)->t σ H Q
theorem DW.dt {X:Cx}{WX:Str->Hp->Prop}{e:Expr}{f:Ab->M Bool}(h:DW X WX e f):DT X WX e f:=let ⟨t,h1,h2⟩:=h;⟨t,h1.pt,h2⟩
section
variable {X:Cx}{WX:Str->Hp->Prop}{c:Bool}{P0:Ew}{P:Addr->Prop}{H:Hp}{σ:St}{ρ:Ab}
theorem An.lv (E:An X.K P0 P H σ ρ) (c:Bool):∀ a,Lv c P0 P a->P a:=fun a h=>by
 cases c with
 |true=>exact h
 |false=>exact E.sub a h
theorem An.oC (E:An X.K P0 P H σ ρ) (c:Bool):∀ a,Lv c P0 P a->Dn H a:=fun a h=>E.Cn a (E.lv c a h)
theorem Km {e:Expr}{f:Ab->M D}(h:DE X WX true e f):DE X WX false e f:=by
 obtain⟨t,h1,h2⟩:=h
 refine⟨t,h1,fun P0 P σ H Q ρ E g=>h2 P0 P σ H Q ρ E ?_⟩
 cases e:f ρ with
 |ok d=>rw[e] at g;exact fun v H' s hv=>g v H' s (hv.mono (CJ E.sub))
 |ex x=>rw[e] at g;exact g
 |bad=>rw[e] at g;exact g
def oE:D->Bool
 | .tup _ | .lst _ | .DH _ | .Bg _ _ _ | .ins _ _ _=>false
 |_=>true
def fl (m:M D):M D:=m.bind fun d=>if oE d=true then .ok d else .bad
def rv (i:Nat) (ρ:Ab):M D:=match ρ[i]? with | some (some (.val d))=>.ok d | _=>.bad
def ra (i:Nat) (ρ:Ab):M D:=match ρ[i]? with | some (some (.val d))=>.ok d | some (some (.own ds))=>.ok (.lst ds) | some (some (.ow (.rows BZ)))=>.ok (.lst (BZ.map D.lst)) | some (some (.ow (.Lz _ ds)))=>.ok (.lst ds) | some (some (.ow (.tree _ t)))=>.ok (er t) | _=>.bad
theorem A1 (i:Nat){x:Str}{pos:Pos}(h:PE X (.Name x pos) (Li i)):DE X WX true (.Name x pos) (rv i):=by
 refine⟨_,h,fun P0 P σ H Q ρ E g=>?_⟩
 unfold rv at g
 split at g
 ·rename_i d e
  obtain⟨v,h1,h2⟩:=E.val i d e
  exact⟨v,h1,g v H (Ad.refl H) h2⟩
 ·exact g.elim
theorem A6 {i j pos}:DE X WX c (.Constant (.int i) j pos) (fun _=>.ok (.int i)):=⟨_,iC,fun P0 P σ H Q ρ E g=>g _ H (Ad.refl H) (.int i)⟩
theorem CC {b j pos}:DE X WX c (.Constant (.bool b) j pos) (fun _=>.ok (.bl b)):=⟨_,mO,fun P0 P σ H Q ρ E g=>g _ H (Ad.refl H) (.bl b)⟩
theorem D1 {j pos}:DE X WX c (.Constant .none j pos) (fun _=>.ok .Az):=⟨_,iD,fun P0 P σ H Q ρ E g=>g _ H (Ad.refl H) .Az⟩
theorem SI {x j pos}:DE X WX c (.Constant (.str x) j pos) (fun _=>.ok (.str x)):=⟨_,iE,fun P0 P σ H Q ρ E g=>g _ H (Ad.refl H) (.str x)⟩
def Ua (K:za) (WX:Str->Hp->Prop) (r:R2) (bd:D->D->M D):Prop :=
 ∀(P:Addr->Prop) (H:Hp) (x y:D) (v w:V) (Q:VK),(∀ a,P a->Dn H a)->BH K (del H P) v x->BH K (del H P) w y->gV K WX P H Q (bd x y)->r v w H Q
variable {a b:Expr}{f g:Ab->M D}{pos:Pos}
theorem QU {ta tb:TE}{r:R2}{bd:D->D->M D}(ha:∀ P0 P σ H Q ρ,An X.K P0 P H σ ρ->gV X.K WX (Lv c P0 P) H Q (f ρ)->ta σ H Q) (hb:∀ P0 P σ H Q ρ,An X.K P0 P H σ ρ->gV X.K WX (Lv c P0 P) H Q (g ρ)->tb σ H Q)
 (hr:Ua X.K WX r bd) {Q:VK} (E:An X.K P0 P H σ ρ) (h:gV X.K WX (Lv c P0 P) H Q ((f ρ).bind fun x=>(g ρ).bind fun y=>bd x y)):mD r ta tb σ H Q:=by
 refine ha P0 P σ H _ ρ E ?_
 cases e:f ρ with
 |bad=>rw[e] at h;exact h
 |ex x=>rw[e] at h;exact h
 |ok x =>
  rw[e] at h
  intro v H1 s1 hv
  refine hb P0 P σ H1 _ ρ (E.same s1) ?_
  cases e2:g ρ with
  |bad=>rw[e2] at h;exact h
  |ex y=>rw[e2] at h;exact gV.same (m:=.ex y) h s1
  |ok y =>
   rw[e2] at h
   intro w H2 s2 hw
   exact hr _ H2 x y v w Q (fun a q=>((E.same s1).same s2).oC c a q) (hv.mono s2.del) hw ((gV.same h s1).same s2)
theorem Oo {op:Operator}{r:R2}{bd:D->D->M D}(ho:Gn X (binaryOp op) r) (hr:Ua X.K WX r bd) (ha:DE X WX c a f) (hb:DE X WX c b g):DE X WX c (.BinOp a op b pos) (fun ρ=>(f ρ).bind fun x=>(g ρ).bind fun y=>bd x y):=by
 obtain⟨ta,a1,a2⟩:=ha
 obtain⟨tb,b1,b2⟩:=hb
 exact⟨_,WN ho a1 b1,fun P0 P σ H Q ρ E h=>QU a2 b2 hr E h⟩
theorem Xh {op:CmpOp}{r:R2}{bd:D->D->M D}(ho:Gn X (compareOp op) r) (hr:Ua X.K WX r bd) (ha:DE X WX c a f) (hb:DE X WX c b g) (hm:behindInMarks op b=false):DE X WX c (.Compare a [op] [b] pos) (fun ρ=>(f ρ).bind fun x=>(g ρ).bind fun y=>bd x y):=by
 obtain⟨ta,a1,a2⟩:=ha
 obtain⟨tb,b1,b2⟩:=hb
 exact⟨_,Ze ho a1 b1 hm,fun P0 P σ H Q ρ E h=>QU a2 b2 hr E h⟩
theorem oF {r:R2}{bd:D->D->M D}(ho:Zm X r) (hr:Ua X.K WX r bd) (ha:DE X WX c a f) (hb:DE X WX c b g) (hs:Hg b):DE X WX c (.Subscript a b pos) (fun ρ=>(f ρ).bind fun x=>(g ρ).bind fun y=>bd x y):=by
 obtain⟨ta,a1,a2⟩:=ha
 obtain⟨tb,b1,b2⟩:=hb
 exact⟨_,U4 ho a1 b1 hs,fun P0 P σ H Q ρ E h=>QU a2 b2 hr E h⟩
def Bu (k:Int->Int->M D) (x y:D):M D:=match x,y with | .int i,.int j=>k i j | _,_=>.bad
theorem BH.int_inv {K:za}{H:Hp}{v:V}{i:Int}(h:BH K H v (.int i)):v=.int i:=by cases h;rfl
theorem BH.Mu {K:za}{H:Hp}{v:V}{i:Bool}(h:BH K H v (.bl i)):v=.bl i:=by cases h;rfl
theorem Pq {C:Int->Int->Prop}{gv:Int->Int->V}{gd:Int->Int->D} [∀ i j,Decidable (C i j)] (hg:∀ i j K H,BH K H (gv i j) (gd i j)):Ua X.K WX (rI C gv) (Bu fun i j=>if C i j then .ok (gd i j) else .bad):=by
 intro P H x y v w Q ht hx hy h
 unfold Bu at h
 split at h
 ·rename_i i j
  rw[hx.int_inv,hy.int_inv]
  dsimp only at h
  by_cases hc:C i j
  ·rw[if_pos hc] at h
   exact⟨i,j,rfl,rfl,hc,h _ H (Ad.refl H) (hg i j _ _)⟩
  ·rw[if_neg hc] at h;exact h.elim
 ·exact h.elim
theorem LB {gv:Int->Int->V}{gd:Int->Int->D}(hg:∀ i j K H,BH K H (gv i j) (gd i j)):Ua X.K WX (Z2 gv) (Bu fun i j=>.ok (gd i j)):=by
 intro P H x y v w Q ht hx hy h
 unfold Bu at h
 split at h
 ·rename_i i j
  rw[hx.int_inv,hy.int_inv]
  exact⟨i,j,rfl,rfl,h _ H (Ad.refl H) (hg i j _ _)⟩
 ·exact h.elim
instance (i j:Int):Decidable (WO i j):=by unfold WO;infer_instance
instance (i j:Int):Decidable (Zc i j):=by unfold Zc;infer_instance
instance (i j:Int):Decidable (WQ i j):=by unfold WQ;infer_instance
def oG:=Bu fun i j=>.ok (.int (i + j))
def oH:=Bu fun i j=>.ok (.int (i - j))
def Ex:=Bu fun i j=>if 0 < j then .ok (.int (i % j)) else .bad
def J4:=Bu fun i j=>if WO i j then .ok (.int (i / j)) else .bad
def Vv:=Bu fun i j=>if Zc i j then .ok (.int (i ^ j.toNat)) else .bad
def uD:=Bu fun i j=>.ok (.bl (decide (i < j)))
def vG:=Bu fun i j=>.ok (.bl (decide (i<=j)))
def uE:=Bu fun i j=>.ok (.bl (decide (j < i)))
def vH:=Bu fun i j=>.ok (.bl (decide (j<=i)))
theorem BU (ha:DE X WX c a f) (hb:DE X WX c b g):DE X WX c (.BinOp a .Add b pos) (fun ρ=>(f ρ).bind fun x=>(g ρ).bind fun y=>oG x y):=Oo iR (LB fun _ _ _ _=>.int _) ha hb
theorem jT (ha:DE X WX c a f) (hb:DE X WX c b g):DE X WX c (.BinOp a .Sub b pos) (fun ρ=>(f ρ).bind fun x=>(g ρ).bind fun y=>oH x y):=Oo iS (LB fun _ _ _ _=>.int _) ha hb
theorem BJ (ha:DE X WX c a f) (hb:DE X WX c b g):DE X WX c (.BinOp a .Mod b pos) (fun ρ=>(f ρ).bind fun x=>(g ρ).bind fun y=>Ex x y):=Oo iT (Pq fun _ _ _ _=>.int _) ha hb
theorem Ft (ha:DE X WX c a f) (hb:DE X WX c b g):DE X WX c (.BinOp a .FloorDiv b pos) (fun ρ=>(f ρ).bind fun x=>(g ρ).bind fun y=>J4 x y):=Oo Zd (Pq fun _ _ _ _=>.int _) ha hb
theorem Xi (ha:DE X WX c a f) (hb:DE X WX c b g):DE X WX c (.BinOp a .Pow b pos) (fun ρ=>(f ρ).bind fun x=>(g ρ).bind fun y=>Vv x y):=Oo iU (Pq fun _ _ _ _=>.int _) ha hb
def ZF (n:Nat) (x y:D):M D:=if IT x<=n/\AH x=true/\AH y=true then .ok (.bl (Av x y)) else .bad
def ZG (n:Nat) (x y:D):M D:=if IT x<=n/\AH x=true/\AH y=true then .ok (.bl (!Av x y)) else .bad
theorem Xj {n:Nat}(hu:X.A.units + n < cLine):Ua X.K WX (ZE X.K X.A false) (ZF n):=by
 intro P H x y v w Q ht hx hy h
 unfold ZF at h
 by_cases hd:IT x<=n/\AH x=true/\AH y=true
 ·rw[if_pos hd] at h
  exact⟨x,y,hx.mono E5,hy.mono E5,by omega,hd.2.1,hd.2.2,h _ H (Ad.refl H) (.bl _)⟩
 ·rw[if_neg hd] at h;exact h.elim
theorem jU {n:Nat}(hu:X.A.units + n < cLine):Ua X.K WX (ZE X.K X.A true) (ZG n):=by
 intro P H x y v w Q ht hx hy h
 unfold ZG at h
 by_cases hd:IT x<=n/\AH x=true/\AH y=true
 ·rw[if_pos hd] at h
  exact⟨x,y,hx.mono E5,hy.mono E5,by omega,hd.2.1,hd.2.2,h _ H (Ad.refl H) (.bl _)⟩
 ·rw[if_neg hd] at h;exact h.elim
theorem fW {n:Nat}(hu:X.A.units + n < cLine) (ha:DE X WX c a f) (hb:DE X WX c b g):DE X WX c (.Compare a [.Eq] [b] pos) (fun ρ=>(f ρ).bind fun x=>(g ρ).bind fun y=>ZF n x y):=Xh Xf (Xj hu) ha hb (Ii _)
def Cw:D->Bool
 | .Az=>true
 |_=>false
theorem BH.rV {K:za}{H:Hp}{v:V}{d:D}(h:BH K H v d):decide (v=.Az)=Cw d:=by
 cases h<;>simp[Cw]
theorem Xk {j pos'}(ha:DE X WX c a f):DE X WX c (.Compare a [.Is] [.Constant .none j pos'] pos) (fun ρ=>(f ρ).bind fun x=>.ok (.bl (Cw x))):=by
 obtain⟨ta,a1,a2⟩:=ha
 refine⟨_,iF (WB a1),fun P0 P σ H Q ρ E h=>?_⟩
 dsimp only at h
 refine a2 P0 P σ H _ ρ E ?_
 cases e:f ρ with
 |bad=>rw[e] at h;exact h
 |ex x=>rw[e] at h;exact h
 |ok x=>rw[e] at h;exact fun v H1 s1 hv=>h _ H1 s1 (by rw[hv.rV];exact .bl _)
def ZH (x y:D):M D:=match x,y with
 | .tup ds,.int i=>(match QJ ds i with|some d=>.ok d|none=>.bad)
 | .lst ds,.int i=>(match QJ ds i with|some d=>.ok d|none=>.bad)
 |_,_=>.bad
theorem Ag.QJ {K:za}{H:Hp}{xs:List V}{ds:List D}{i:Int}{d:D}(h:Ag K H xs ds) (e:L2.QJ ds i=some d):∃ v,L2.QJ xs i=some v/\BH K H v d:=by
 unfold L2.QJ at e ⊢
 rw[<-h.length] at e
 cases q:Og xs.length i with
 |none=>rw[q] at e;cases e
 |some j =>
  rw[q] at e
  exact h.get e
theorem Dt.Bm {K:za}{H:Hp}{P:Addr->Prop}{a:Addr}{xs:List V}(h:Dt K (del H P) a xs):Dt K H a xs:=E5.seq h
theorem Fn.Bm {K:za}{H:Hp}{P:Addr->Prop}{a:Addr}{xs:List V}(h:Fn K (del H P) a xs):Fn K H a xs:=E5.rS h
theorem Gv:Ua X.K WX (fun x y H Q=>jD X.K x y H Q\/jE X.K x y H Q) ZH:=by
 intro P H x y v w Q ht hx hy h
 unfold ZH at h
 split at h
 ·rename_i ds i
  split at h
  ·rename_i d e
   cases hy
   cases hx with
   |tup hs hl =>
    obtain⟨u,h1,h2⟩:=hl.QJ e
    exact .inr ⟨_,_,i,u,rfl,rfl,Fn.of (Al hs).2,h1,h _ H (Ad.refl H) h2⟩
  ·exact h.elim
 ·rename_i ds i
  split at h
  ·rename_i d e
   cases hy
   cases hx with
   |lst hs hl =>
    obtain⟨u,h1,h2⟩:=hl.QJ e
    exact .inl ⟨_,_,i,u,rfl,rfl,hs.Bm,h1,h _ H (Ad.refl H) h2⟩
  ·exact h.elim
 ·exact h.elim
theorem A8:DA X WX c [] (fun _=>.ok []):=⟨_,Cg,fun P0 P σ H Q ρ E h=>h [] H (Ad.refl H) .nil,fun ρ ds h=>by cases h;rfl⟩
theorem A2 {e:Expr}{es:List Expr}{f:Ab->M D}{fs:Ab->M (List D)}(he:DE X WX c e f) (hr:DA X WX c es fs) (hs:starEach (e::es) X.env=(false,eval e X.env)::starEach es X.env:=by rfl) :
 DA X WX c (e::es) (fun ρ=>(f ρ).bind fun d=>(fs ρ).bind fun ds=>.ok (d::ds)):=by
 obtain⟨te,e1,e2⟩:=he
 obtain⟨tr,r1,r2,r3⟩:=hr
 refine⟨_,Be e1 r1 hs,fun P0 P σ H Q ρ E h=>?_,fun ρ ds h=>?_⟩
 rotate_left
 ·dsimp only at h
  cases q:f ρ with
  |bad=>rw[q] at h;cases h
  |ex x=>rw[q] at h;cases h
  |ok x =>
   rw[q] at h
   cases q2:fs ρ with
   |bad=>rw[q2] at h;cases h
   |ex x=>rw[q2] at h;cases h
   |ok xs =>
    rw[q2] at h
    cases h
    rw[zk,zk,r3 ρ xs q2]
 dsimp only at h
 refine e2 P0 P σ H _ ρ E ?_
 cases q:f ρ with
 |bad=>rw[q] at h;exact h
 |ex x=>rw[q] at h;exact h
 |ok x =>
  rw[q] at h
  intro v H1 s1 hv
  refine r2 P0 P σ H1 _ ρ (E.same s1) ?_
  cases q2:fs ρ with
  |bad=>rw[q2] at h;exact h
  |ex y=>rw[q2] at h;exact gA.same (m:=.ex y) h s1
  |ok ds =>
   rw[q2] at h
   exact fun vs H2 s2 aI=>h _ H2 (s1.trans s2) (.cons (hv.mono s2.del) aI)
theorem J5 {H:Hp}{P:Addr->Prop}{p:Addr}{o:HO}(hn:H p=none) (ht:∀ a,P a->Dn H a):del (upd H p o) P p=some o:=by
 rw[Aw fun z=>(ht p z).no hn]
 exact Ar
theorem AK {es:List Expr}{fs:Ab->M (List D)}{x1}(ha:DA X WX c es fs) (hz:es.length<=1000:=by decide):DE X WX c (.Tuple es x1 pos) (fun ρ=>(fs ρ).bind fun ds=>if ds.length<=1000 then .ok (.tup ds) else .bad):=by
 obtain⟨ta,a1,a2,a3⟩:=ha
 refine⟨_,WV a1,fun P0 P σ H Q ρ E h=>?_⟩
 dsimp only at h
 refine a2 P0 P σ H _ ρ E ?_
 cases q:fs ρ with
 |bad=>rw[q] at h;exact h
 |ex y=>rw[q] at h;exact h
 |ok ds =>
  rw[q] at h
  simp only[M.A7] at h
  by_cases hd:ds.length<=1000
  ·rw[if_pos hd] at h
   intro vs H1 s1 aI
   refine⟨yj (AF (by rw[aI.length];exact hd)),fun p hp=>h _ _ (s1.trans (AM hp _)) (.tup (J5 hp fun a q=>(E.same s1).oC c a q) (aI.mono (AM hp _).del))⟩
  ·rw[if_neg hd] at h;exact h.elim
theorem Gw {es:List Expr}{fs:Ab->M (List D)}(ha:DA X WX c es fs):DE X WX c (.List es pos) (fun ρ=>(fs ρ).bind fun ds=>if ds.length<=1000 then .ok (.lst ds) else .bad):=by
 obtain⟨ta,a1,a2,a3⟩:=ha
 refine⟨_,Pe a1,fun P0 P σ H Q ρ E h=>?_⟩
 dsimp only at h
 refine a2 P0 P σ H _ ρ E ?_
 cases q:fs ρ with
 |bad=>rw[q] at h;exact h
 |ex y=>rw[q] at h;exact h
 |ok ds =>
  rw[q] at h
  simp only[M.A7] at h
  by_cases hd:ds.length<=1000
  ·rw[if_pos hd] at h
   intro vs H1 s1 aI
   refine⟨yj (AF (by rw[aI.length];exact hd)),fun p hp=>h _ _ (s1.trans (AM hp _)) (.lst (.of (J5 hp fun a q=>(E.same s1).oC c a q)) (aI.mono (AM hp _).del))⟩
  ·rw[if_neg hd] at h;exact h.elim
end
end L2
namespace L2
open PySem PySem.Spec PyProof.Rows
def Oq (d:D):M Bool:=match d with | .bl b=>.ok b | _=>.bad
section
variable {X:Cx}{WX:Str->Hp->Prop}{c:Bool}{P0:Ew}{P:Addr->Prop}{H:Hp}{σ:St}{ρ:Ab}{a b e:Expr}{f g:Ab->M D}{ft gt:Ab->M Bool}{pos:Pos}
theorem oI {WX:Str->Hp->Prop}{P:Addr->Prop}{K:za}{H:Hp}{Q:Bool->Hp->Prop}{m:M D}(h:gT WX H Q (m.bind Oq)):gV K WX P H (fun x H'=>∃ k,x=.bl k/\Q k H') m:=by
 cases m with
 |bad=>exact h
 |ex x=>exact h
 |ok d =>
  intro v H' s hv
  simp only[M.A7] at h
  unfold Oq at h
  split at h
  ·rename_i b
   exact⟨b,hv.Mu,h H' s⟩
  ·exact h.elim
theorem Fu {op:CmpOp}{r:R2}{bd:D->D->M D}(ho:Gn X (compareOp op) r) (hr:Ua X.K WX r bd) (ha:DE X WX c a f) (hb:DE X WX c b g) (hm:behindInMarks op b=false):DT X WX (.Compare a [op] [b] pos) (fun ρ=>((f ρ).bind fun x=>(g ρ).bind fun y=>bd x y).bind Oq):=by
 obtain⟨ta,a1,a2⟩:=ha
 obtain⟨tb,b1,b2⟩:=hb
 exact⟨_,Zf ho a1 b1 hm,fun P0 P σ H Q ρ E h=>QU a2 b2 hr E (oI h)⟩
theorem oJ (ha:DE X WX c a f) (hb:DE X WX c b g):DT X WX (.Compare a [.Lt] [b] pos) (fun ρ=>((f ρ).bind fun x=>(g ρ).bind fun y=>uD x y).bind Oq):=Fu fR (LB fun _ _ _ _=>.bl _) ha hb (Ii _)
theorem Ub (ha:DE X WX c a f) (hb:DE X WX c b g):DT X WX (.Compare a [.Gt] [b] pos) (fun ρ=>((f ρ).bind fun x=>(g ρ).bind fun y=>uE x y).bind Oq):=Fu nG (LB fun _ _ _ _=>.bl _) ha hb (Ii _)
theorem L0 {n:Nat}(hu:X.A.units + n < cLine) (ha:DE X WX c a f) (hb:DE X WX c b g):DT X WX (.Compare a [.Eq] [b] pos) (fun ρ=>((f ρ).bind fun x=>(g ρ).bind fun y=>ZF n x y).bind Oq):=Fu Xf (Xj hu) ha hb (Ii _)
theorem G3 {n:Nat}(hu:X.A.units + n < cLine) (ha:DE X WX c a f) (hb:DE X WX c b g):DT X WX (.Compare a [.NotEq] [b] pos) (fun ρ=>((f ρ).bind fun x=>(g ρ).bind fun y=>ZG n x y).bind Oq):=Fu jS (jU hu) ha hb (Ii _)
theorem Iv {j pos'}(ha:DE X WX c a f):DT X WX (.Compare a [.Is] [.Constant .none j pos'] pos) (fun ρ=>(f ρ).bind fun x=>.ok (Cw x)):=by
 obtain⟨ta,a1,a2⟩:=ha
 refine⟨_,WC (WB a1),fun P0 P σ H Q ρ E h=>?_⟩
 dsimp only at h
 refine a2 P0 P σ H _ ρ E ?_
 cases e:f ρ with
 |bad=>rw[e] at h;exact h
 |ex x=>rw[e] at h;exact h
 |ok x=>rw[e] at h;exact fun v H1 s1 hv=>⟨_,rfl,by rw[hv.rV];exact h H1 s1⟩
theorem LC {j pos'}(ha:DE X WX c a f):DT X WX (.Compare a [.IsNot] [.Constant .none j pos'] pos) (fun ρ=>(f ρ).bind fun x=>.ok (!Cw x)):=by
 obtain⟨ta,a1,a2⟩:=ha
 refine⟨_,WC (Z8 a1),fun P0 P σ H Q ρ E h=>?_⟩
 dsimp only at h
 refine a2 P0 P σ H _ ρ E ?_
 cases e:f ρ with
 |bad=>rw[e] at h;exact h
 |ex x=>rw[e] at h;exact h
 |ok x=>rw[e] at h;exact fun v H1 s1 hv=>⟨_,rfl,by rw[hv.rV];exact h H1 s1⟩
theorem Ci (ha:DT X WX a ft):DT X WX (.UnaryOp .Not a pos) (fun ρ=>(ft ρ).bind fun b=>.ok (!b)):=by
 obtain⟨ta,a1,a2⟩:=ha
 refine⟨_,iG a1,fun P0 P σ H Q ρ E h=>?_⟩
 dsimp only at h
 refine a2 P0 P σ H _ ρ E ?_
 cases e:ft ρ with
 |bad=>rw[e] at h;exact h
 |ex x=>rw[e] at h;exact h
 |ok x=>rw[e] at h;exact fun H1 s1=>h H1 s1
theorem Hj (ha:DT X WX a ft):DW X WX (.BoolOp .And [a] pos) ft:=let ⟨ta,a1,a2⟩:=ha;⟨_,pw_and1 a1,a2⟩
theorem CK (ha:DT X WX a ft):DW X WX (.BoolOp .Or [a] pos) ft:=let ⟨ta,a1,a2⟩:=ha;⟨_,pw_or1 a1,a2⟩
theorem Iw {rest:List Expr}(ha:DT X WX a ft) (hb:DW X WX (.BoolOp .And (b::rest) pos) gt):DW X WX (.BoolOp .And (a::b::rest) pos) (fun ρ=>(ft ρ).bind fun k=>if k=true then gt ρ else .ok false):=by
 obtain⟨ta,a1,a2⟩:=ha
 obtain⟨tb,b1,b2⟩:=hb
 refine⟨_,pw_and a1 b1,fun P0 P σ H Q ρ E h=>?_⟩
 dsimp only at h
 refine a2 P0 P σ H _ ρ E ?_
 cases e:ft ρ with
 |bad=>rw[e] at h;exact h
 |ex x=>rw[e] at h;exact h
 |ok k =>
  rw[e] at h
  intro H1 s1
  cases k with
  |true =>
   simp only[M.A7,if_true] at h ⊢
   exact b2 P0 P σ H1 _ ρ (E.same s1) (h.same s1)
  |false =>
   simp only[M.A7,zE,if_false] at h ⊢
   exact h H1 s1
theorem E6 {rest:List Expr}(ha:DT X WX a ft) (hb:DW X WX (.BoolOp .Or (b::rest) pos) gt):DW X WX (.BoolOp .Or (a::b::rest) pos) (fun ρ=>(ft ρ).bind fun k=>if k=true then .ok true else gt ρ):=by
 obtain⟨ta,a1,a2⟩:=ha
 obtain⟨tb,b1,b2⟩:=hb
 refine⟨_,pw_or a1 b1,fun P0 P σ H Q ρ E h=>?_⟩
 dsimp only at h
 refine a2 P0 P σ H _ ρ E ?_
 cases e:ft ρ with
 |bad=>rw[e] at h;exact h
 |ex x=>rw[e] at h;exact h
 |ok k =>
  rw[e] at h
  intro H1 s1
  cases k with
  |true =>
   simp only[M.A7,if_true] at h ⊢
   exact h H1 s1
  |false =>
   simp only[M.A7,zE,if_false] at h ⊢
   exact b2 P0 P σ H1 _ ρ (E.same s1) (h.same s1)
theorem Kn {op}(ha:DE X WX c a f):DE X WX c (.BoolOp op [a] pos) f:=let ⟨ta,a1,a2⟩:=ha;⟨_,iH a1,a2⟩
theorem Mv {rest:List Expr}(ha:DE X WX c a f) (hb:DE X WX c (.BoolOp .And (b::rest) pos) g):DE X WX c (.BoolOp .And (a::b::rest) pos) (fun ρ=>((f ρ).bind Oq).bind fun k=>if k=true then g ρ else .ok (.bl false)):=by
 obtain⟨ta,a1,a2⟩:=ha
 obtain⟨tb,b1,b2⟩:=hb
 refine⟨_,iI a1 b1,fun P0 P σ H Q ρ E h=>?_⟩
 dsimp only at h
 refine a2 P0 P σ H _ ρ E ?_
 cases e:f ρ with
 |bad=>rw[e] at h;exact h
 |ex x=>rw[e] at h;exact h
 |ok d =>
  rw[e] at h
  simp only[M.A7] at h
  unfold Oq at h
  split at h
  ·rename_i k
   intro v H1 s1 hv
   refine⟨k,hv.Mu,?_⟩
   cases k with
   |true =>
    simp only[M.A7,if_true] at h ⊢
    exact b2 P0 P σ H1 _ ρ (E.same s1) (h.same s1)
   |false =>
    simp only[M.A7,zE,if_false] at h ⊢
    exact h _ H1 s1 (.bl _)
  ·exact h.elim
theorem fX {rest:List Expr}(ha:DE X WX c a f) (hb:DE X WX c (.BoolOp .Or (b::rest) pos) g):DE X WX c (.BoolOp .Or (a::b::rest) pos) (fun ρ=>((f ρ).bind Oq).bind fun k=>if k=true then .ok (.bl true) else g ρ):=by
 obtain⟨ta,a1,a2⟩:=ha
 obtain⟨tb,b1,b2⟩:=hb
 refine⟨_,mS a1 b1,fun P0 P σ H Q ρ E h=>?_⟩
 dsimp only at h
 refine a2 P0 P σ H _ ρ E ?_
 cases e:f ρ with
 |bad=>rw[e] at h;exact h
 |ex x=>rw[e] at h;exact h
 |ok d =>
  rw[e] at h
  simp only[M.A7] at h
  unfold Oq at h
  split at h
  ·rename_i k
   intro v H1 s1 hv
   refine⟨k,hv.Mu,?_⟩
   cases k with
   |true =>
    simp only[M.A7,if_true] at h ⊢
    exact h _ H1 s1 (.bl _)
   |false =>
    simp only[M.A7,zE,if_false] at h ⊢
    exact b2 P0 P σ H1 _ ρ (E.same s1) (h.same s1)
  ·exact h.elim
theorem Xl (ha:DE X WX c a f):DE X WX c (.UnaryOp .Not a pos) (fun ρ=>((f ρ).bind Oq).bind fun k=>.ok (.bl (!k))):=by
 obtain⟨ta,a1,a2⟩:=ha
 refine⟨_,iJ a1,fun P0 P σ H Q ρ E h=>?_⟩
 dsimp only at h
 refine a2 P0 P σ H _ ρ E ?_
 cases e:f ρ with
 |bad=>rw[e] at h;exact h
 |ex x=>rw[e] at h;exact h
 |ok d =>
  rw[e] at h
  simp only[M.A7] at h
  unfold Oq at h
  split at h
  ·rename_i k
   exact fun v H1 s1 hv=>⟨k,hv.Mu,h _ H1 s1 (.bl _)⟩
  ·exact h.elim
theorem rW (ha:DE X WX c a f):DE X WX c (.UnaryOp .USub a pos) (fun ρ=>(f ρ).bind fun d=>match d with | .int i=>.ok (.int (-i)) | _=>.bad):=by
 obtain⟨ta,a1,a2⟩:=ha
 refine⟨_,nB iV a1,fun P0 P σ H Q ρ E h=>?_⟩
 dsimp only at h
 refine a2 P0 P σ H _ ρ E ?_
 cases e:f ρ with
 |bad=>rw[e] at h;exact h
 |ex x=>rw[e] at h;exact h
 |ok d =>
  rw[e] at h
  simp only[M.A7] at h
  split at h
  ·rename_i i
   exact fun v H1 s1 hv=>⟨i,hv.int_inv,h _ H1 s1 (.int _)⟩
  ·exact h.elim
theorem Vw {d:Expr}{h:Ab->M D}{op eh:CmpOp}{p q:Int->Int->Bool}(ho:Gn X (compareOp op) (Z2 fun i j=>.bl (p i j))) (b8:Gn X (compareOp eh) (Z2 fun i j=>.bl (q i j))) (ha:DE X WX c a f) (hb:DE X WX c b g) (hd:DE X WX c d h)
 (hm:lastMarks [op,eh] [b,d]=false:=by with_unfolding_all rfl):DE X WX c (.Compare a [op,eh] [b,d] pos) (fun ρ=>(f ρ).bind fun x=>(g ρ).bind fun y=>Bu (fun i j=>if p i j=true then (h ρ).bind fun z=>Bu (fun _ k=>.ok (.bl (q j k))) (.int 0) z else .ok (.bl false)) x y):=by
 obtain⟨ta,a1,a2⟩:=ha
 obtain⟨tb,b1,b2⟩:=hb
 obtain⟨td,d1,d2⟩:=hd
 refine⟨_,WR ho b8 a1 b1 d1 hm,fun P0 P σ H Q ρ E hh=>?_⟩
 dsimp only at hh
 refine a2 P0 P σ H _ ρ E ?_
 cases e:f ρ with
 |bad=>rw[e] at hh;exact hh
 |ex x=>rw[e] at hh;exact hh
 |ok x =>
  rw[e] at hh
  intro v H1 s1 hv
  refine b2 P0 P σ H1 _ ρ (E.same s1) ?_
  cases e2:g ρ with
  |bad=>rw[e2] at hh;exact hh
  |ex y=>rw[e2] at hh;exact gV.same (m:=.ex y) hh s1
  |ok y =>
   rw[e2] at hh
   simp only[M.A7] at hh
   unfold Bu at hh
   split at hh
   ·rename_i i j
    intro w H2 s2 hw
    refine⟨i,j,hv.int_inv,hw.int_inv,p i j,rfl,?_⟩
    dsimp only at hh
    by_cases hp:p i j=true
    ·rw[if_pos hp] at hh ⊢
     refine d2 P0 P σ H2 _ ρ ((E.same s1).same s2) ?_
     cases e3:h ρ with
     |bad=>rw[e3] at hh;exact hh
     |ex z=>rw[e3] at hh;exact gV.same (gV.same (m:=.ex z) hh s1) s2
     |ok z =>
      rw[e3] at hh
      simp only[M.A7] at hh
      cases z with
      |int k=>exact fun u H3 s3 hu=>⟨j,k,hw.int_inv,hu.int_inv,hh _ H3 ((s1.trans s2).trans s3) (.bl _)⟩
      |_=>exact hh.elim
    ·rw[if_neg hp] at hh ⊢
     exact hh _ H2 (s1.trans s2) (.bl _)
   ·exact hh.elim
def L1 (K:za) (WX:Str->Hp->Prop) (r:List V->Hp->VK->Prop) (dF:List D->M D):Prop :=
 ∀(P:Addr->Prop) (H:Hp) (ds:List D) (vs:List V) (Q:VK),(∀ a,P a->Dn H a)->Ag K (del H P) vs ds->gV K WX P H Q (dF ds)->r vs H Q
variable {x:Str}{p:Pos}{es:List Expr}{fs:Ab->M (List D)}{id T:String}{r:List V->Hp->VK->Prop}{dF:List D->M D}
theorem Xm {ta:TA}(ha:∀ P0 P σ H Q ρ,An X.K P0 P H σ ρ->gA X.K WX (Lv c P0 P) H Q (fs ρ)->ta σ H Q) (hr:L1 X.K WX r dF){Q:VK}(E:An X.K P0 P H σ ρ) (h:gV X.K WX (Lv c P0 P) H Q ((fs ρ).bind dF)):rF r ta σ H Q:=by
 refine ha P0 P σ H _ ρ E ?_
 cases e:fs ρ with
 |bad=>rw[e] at h;exact h
 |ex x=>rw[e] at h;exact h
 |ok ds =>
  rw[e] at h
  exact fun vs H1 s1 aI=>hr _ H1 ds vs Q (fun a q=>(E.same s1).oC c a q) aI (h.same s1)
theorem Mw (hc:Gp X (.builtin id) r) (hr:L1 X.K WX r dF) (hg:Gl X x) (hm:X.mg x=none) (hv:bootBuiltins x=some (.builtin id)) (ha:DA X WX c (e::es) fs) (hn:x ≠ "__name__" := by decide) (aU:(x == ("__debug__" : Str))=false:=by decide)
 (he:starEach (e::es) X.env=(false,eval e X.env)::starEach es X.env:=by rfl) (a6:(backTo pos (starEach es X.env)).any (·.1)=false:=by rfl):DE X WX c (.Call (.Name x p) (e::es) [] pos) (fun ρ=>(fs ρ).bind dF):=by
 obtain⟨ta,a1,a2,a3⟩:=ha
 exact⟨_,QH hc hg hm hv a1 hn aU he a6,fun P0 P σ H Q ρ E h=>Xm a2 hr E h⟩
theorem Ot (hc:Gp X (.type T) r) (hr:L1 X.K WX r dF) (hg:Gl X x) (hm:X.mg x=none) (hv:bootBuiltins x=some (.type T)) (ha:DA X WX c (e::es) fs) (hn:x ≠ "__name__" := by decide) (aU:(x == ("__debug__" : Str))=false:=by decide)
 (he:starEach (e::es) X.env=(false,eval e X.env)::starEach es X.env:=by rfl) (a6:(backTo pos (starEach es X.env)).any (·.1)=false:=by rfl):DE X WX c (.Call (.Name x p) (e::es) [] pos) (fun ρ=>(fs ρ).bind dF):=by
 obtain⟨ta,a1,a2,a3⟩:=ha
 exact⟨_,Of hc hg hm hv a1 hn aU he a6,fun P0 P σ H Q ρ E h=>Xm a2 hr E h⟩
def Vx (ds:List D):M D:=match ds with
 |[.lst xs]=>.ok (.int xs.length)
 |[.tup xs]=>.ok (.int xs.length)
 |_=>.bad
theorem Ag.one {K:za}{H:Hp}{vs:List V}{d:D}(h:Ag K H vs [d]):∃ v,vs=[v]/\BH K H v d:=by
 cases h with
 |cons h t=>cases t;exact⟨_,rfl,h⟩
theorem Ag.two {K:za}{H:Hp}{vs:List V}{d e:D}(h:Ag K H vs [d,e]):∃ v w,vs=[v,w]/\BH K H v d/\BH K H w e:=by
 cases h with
 |cons h t =>
  obtain⟨w,rfl,hw⟩:=t.one
  exact⟨_,w,rfl,h,hw⟩
theorem jV:L1 X.K WX (fun xs H Q=>∃ p ys,xs=[.ref p]/\(Dt X.K H p ys\/Fn X.K H p ys)/\Q (.int ys.length) H) Vx:=by
 intro P H ds vs Q ht hl h
 unfold Vx at h
 split at h
 ·obtain⟨v,rfl,hv⟩:=hl.one
  cases hv with
  |lst hs hh=>exact⟨_,_,rfl,.inl hs.Bm,by rw[hh.length];exact h _ H (Ad.refl H) (.int _)⟩
 ·obtain⟨v,rfl,hv⟩:=hl.one
  cases hv with
  |tup hs hh=>exact⟨_,_,rfl,.inr (Fn.of (Al hs).2),by rw[hh.length];exact h _ H (Ad.refl H) (.int _)⟩
 ·exact h.elim
theorem Dp (hg:Gl X "len") (hm:X.mg "len" = none) (ha:DE X WX c e f) (hs:starEach [e] X.env=[(false,eval e X.env)]:=by rfl):DE X WX c (.Call (.Name "len" p) [e] [] pos) (fun ρ=>((f ρ).bind fun d=>(M.ok []).bind fun ds=>.ok (d::ds)).bind Vx) :=
 Mw Pj jV hg hm PySem.boot_len (A2 ha A8 hs) (he:=hs)
def SJ (ds:List D):M D:=match ds with
 |[.lst xs]=>.ok (.tup xs)
 |[.tup xs]=>.ok (.tup xs)
 |_=>.bad
theorem Xn:L1 X.K WX (fun xs H Q=>∃ p ys,xs=[.ref p]/\((Dt X.K H p ys/\∀ l,H l=none->Q (.ref l) (upd H l (.tup ys)))\/(Fn X.K H p ys/\Q (.ref p) H))) SJ:=by
 intro P H ds vs Q ht hl h
 unfold SJ at h
 split at h
 ·obtain⟨v,rfl,hv⟩:=hl.one
  cases hv with
  |lst hs hh=>exact⟨_,_,rfl,.inl ⟨hs.Bm,fun l hn=>h _ _ (AM hn _) (.tup (J5 hn ht) (hh.mono (AM hn _).del))⟩⟩
 ·obtain⟨v,rfl,hv⟩:=hl.one
  cases hv with
  |tup hs hh=>exact⟨_,_,rfl,.inr ⟨Fn.of (Al hs).2,h _ H (Ad.refl H) (.tup hs hh)⟩⟩
 ·exact h.elim
theorem Xo (hg:Gl X "tuple") (hm:X.mg "tuple" = none) (ha:DE X WX c e f) (hb:bootBuiltins "tuple" = some (.type "tuple"):=by decide +kernel) (hs:starEach [e] X.env=[(false,eval e X.env)]:=by rfl):DE X WX c (.Call (.Name "tuple" p) [e] [] pos) (fun ρ=>((f ρ).bind fun d=>(M.ok []).bind fun ds=>.ok (d::ds)).bind SJ) :=
 Ot NO Xn hg hm hb (A2 ha A8 hs) (he:=hs)
def fY:D->String
 | .Az => "NoneType"
 | .bl _ => "bool"
 | .int _ => "int"
 | .str _ => "str"
 | .tup _ => "tuple"
 | .lst _ => "list"
 | .DH _ => "NoneType"
 | .Bg _ _ _ => "dict"
 | .ins _ _ _ => "NoneType"
def Ey (T:String) (d:D):Bool:=(fY d == T) || (fY d == "bool" && T == "int")
def J6 (T:String) (d:D):M D:=match d with
 | .DH _=>.bad
 | .ins _ _ _=>.bad
 |d=>.ok (.bl (Ey T d))
def Uc:D->Bool
 | .DH _=>true
 | .ins _ _ _=>true
 |_=>false
theorem QV {T:String}{d:D}(h:Uc d=false):J6 T d=.ok (.bl (Ey T d)):=by cases d<;>first | rfl | cases h
def rX (K:za) (T:String):List V->Hp->VK->Prop:=fun xs H Q=>∃ x d,xs=[x,.ty T]/\BH K H x d/\Uc d=false/\Q (.bl (Ey T d)) H
theorem Xp {T:String}(hk:∀ d:D,PySem.W.kitOne X.K (.type (fY d)) (.type T)=some (Ey T d)):Gp X (.builtin "isinstance") (rX X.K T):=by
 intro pins s σ H xs us Q I r h
 obtain⟨x,d,rfl,hd,hx,q⟩:=h
 obtain⟨u,w,rfl,rx,bz⟩:=r.two
 cases bz
 have fin:∀ tk,EP X pins σ Q (.bool (Ey T d)) { s with toks:=tk }:=fun tk=>⟨.bl _,H,I.tok tk,rfl,q⟩
 have e:=hk d
 cases hd with
 |DH _ _=>cases hx
 |ins _ _ _=>cases hx
 |Ip hs hl =>
  cases rx
  obtain⟨⟨o,h1,h2⟩,_,_⟩:=SG I (.inl ⟨_,.inl hs⟩)
  exact yI PySem.W.kitx_dict I.NG ⟨o,h1,h2⟩ e (fun z=>nomatch z) fin
 |Iq hs hl =>
  cases rx
  obtain⟨⟨o,h1,h2⟩,_,_⟩:=SG I (.inr ⟨_,.inl hs⟩)
  exact yI PySem.W.kitx_dict I.NG ⟨o,h1,h2⟩ e (fun z=>nomatch z) fin
 |Az=>cases rx;exact yI PySem.W.kitx_none I.NG yP e (fun z=>nomatch z) fin
 |bl b=>cases rx;exact yI PySem.W.kitx_bool I.NG yP e (fun z=>nomatch z) fin
 |int b=>obtain⟨t,rfl⟩:=rx;exact yI PySem.W.kitx_int I.NG yP e (fun z=>nomatch z) fin
 |str b=>obtain⟨t,rfl⟩:=rx;exact yI PySem.W.kitx_str I.NG yP e (fun z=>nomatch z) fin
 |tup hs hl =>
  cases rx
  obtain⟨_,_,⟨o,h1,h2,_⟩,_⟩:=I.tuple (.of hs)
  exact yI PySem.W.kitx_tuple I.NG ⟨o,h1,h2⟩ e (fun z=>nomatch z) fin
 |lst hs hl =>
  cases rx
  obtain⟨_,_,⟨o,n,h1,h2,_⟩,_⟩:=I.list hs
  exact yI PySem.W.kitx_list I.NG ⟨o,h1,h2⟩ e (fun z=>nomatch z) fin
theorem EU {T:String}{x2:Str}{p2:Pos}(hk:∀ d:D,PySem.W.kitOne X.K (.type (fY d)) (.type T)=some (Ey T d)) (hg:Gl X "isinstance") (hm:X.mg "isinstance" = none) (jf:Gl X x2) (bX:X.mg x2=none) (v5:bootBuiltins x2=some (.type T)) (ha:DE X WX c e f)
 (hb:bootBuiltins "isinstance" = some (.builtin "isinstance"):=by decide +kernel) (aR:x2 ≠ "__name__" := by decide) (ny:(x2 == ("__debug__" : Str))=false:=by decide) (hs:starEach [e,.Name x2 p2] X.env=(false,eval e X.env)::starEach [.Name x2 p2] X.env:=by rfl) (bh:starEach [.Name x2 p2] X.env=[(false,eval (.Name x2 p2) X.env)]:=by rfl)
 (a6:(backTo pos (starEach [.Name x2 p2] X.env)).any (·.1)=false:=by rfl) :
 DE X WX c (.Call (.Name "isinstance" p) [e,.Name x2 p2] [] pos) (fun ρ=>(f ρ).bind fun d=>J6 T d):=by
 obtain⟨ta,a1,a2⟩:=ha
 refine⟨_,QH (Xp hk) hg hm hb (Be a1 (Be (Z7 (v:=.ty T) jf bX v5 rfl aR ny) Cg bh) hs) (by decide) (by decide) hs a6,fun P0 P σ H Q ρ E h=>?_⟩
 dsimp only at h
 refine a2 P0 P σ H _ ρ E ?_
 cases q:f ρ with
 |bad=>rw[q] at h;exact h
 |ex x=>rw[q] at h;exact h
 |ok d =>
  rw[q] at h
  simp only[M.A7] at h
  cases hx:Uc d with
  |true=>cases d<;>first|exact h.elim|cases hx
  |false =>
   rw[QV hx] at h
   exact fun v H1 s1 hv=>⟨v,d,rfl,hv.mono E5,hx,h _ H1 s1 (.bl _)⟩
theorem Iy (K:za) (d:D):PySem.W.kitOne K (.type (fY d)) (.type "tuple")=some (Ey "tuple" d):=by cases d<;>rfl
theorem Ko (K:za) (d:D):PySem.W.kitOne K (.type (fY d)) (.type "list")=some (Ey "list" d):=by cases d<;>rfl
theorem Ou (K:za) (d:D):PySem.W.kitOne K (.type (fY d)) (.type "bool")=some (Ey "bool" d):=by cases d<;>rfl
theorem QW (K:za) (d:D):PySem.W.kitOne K (.type (fY d)) (.type "int")=some (Ey "int" d):=by cases d<;>rfl
def mF (lo hi:Option Int) (d:D):M D:=match d with
 | .lst ds=>.ok (.lst ((ds.drop (HT.Mh ds.length 0 lo)).take (HT.Mh ds.length ds.length hi - HT.Mh ds.length 0 lo)))
 |_=>.bad
def DO (X:Cx) (WX:Str->Hp->Prop) (c:Bool) (e:Option Expr) (f:Ab->M (Option Int)):Prop :=
 ∃ t,PO X e t/\∀ P0 P σ H Q ρ,An X.K P0 P H σ ρ->(match f ρ with | .ok o=>∀ H',Ad H H'->Q o H' | .ex x=>∀ H',Ad H H'->WX x H' | .bad=>False)->t σ H Q
theorem Ud:DO X WX c none (fun _=>.ok none):=⟨_,Zk,fun P0 P σ H Q ρ E h=>h H (Ad.refl H)⟩
def uF (d:D):M (Option Int):=match d with | .int i=>.ok (some i) | _=>.bad
theorem LD (ha:DE X WX c e f):DO X WX c (some e) (fun ρ=>(f ρ).bind uF):=by
 obtain⟨ta,a1,a2⟩:=ha
 refine⟨_,Zl a1,fun P0 P σ H Q ρ E h=>?_⟩
 dsimp only at h
 refine a2 P0 P σ H _ ρ E ?_
 cases q:f ρ with
 |bad=>rw[q] at h;exact h
 |ex x=>rw[q] at h;exact h
 |ok d =>
  rw[q] at h
  cases d with
  |int i=>exact fun v H1 s1 hv=>⟨i,hv.int_inv,h H1 s1⟩
  |_=>exact h.elim
end
end L2
namespace L2
open PySem PySem.Spec PyProof.Rows
inductive Out where
 |ret (d:D)|next (ρ:Ab)|brk (ρ:Ab)|cont (ρ:Ab)|CI (c:Cl)|F8 (t:OT) (ρ:Ab)
def Tr (P0 P:Addr->Prop) (H:Hp) (P':Addr->Prop) (H':Hp):Prop:=Ad (del H P) (del H' P')/\∀ a,P0 a->H' a=H a
theorem Tr.refl {P0 P:Addr->Prop}{H:Hp}:Tr P0 P H P H:=⟨Ad.refl _,fun _ _=>rfl⟩
theorem Tr.trans {P0 P P1 P2:Addr->Prop}{H H1 H2:Hp}(a:Tr P0 P H P1 H1) (b:Tr P0 P1 H1 P2 H2):Tr P0 P H P2 H2:=⟨a.1.trans b.1,fun x h=>(b.2 x h).trans (a.2 x h)⟩
theorem An.tr {K:za}{P0:Ew}{P:Addr->Prop}{H H':Hp}{σ:St}{ρ:Ab}(E:An K P0 P H σ ρ) (e:Ad H H'):Tr P0 P H P H' :=
 ⟨e.del,fun a h=>by obtain⟨o,q,_⟩:=E.Cn a (E.sub a h);rw[e a o q,q]⟩
def gS (K:za) (WX:Str->Hp->Prop) (P0:Ew) (P:Addr->Prop) (H:Hp) (Z:Ends):M Out->Prop
 | .ok (.ret d)=>∀ v H' P',Tr P0 P H P' H'->BH K (del H' P0) v d->Z.rt v H'
 | .ok (.next ρ)=>∀ σ' H' P',Tr P0 P H P' H'->An K P0 P' H' σ' ρ->Z.nx σ' H'
 | .ok (.brk ρ)=>∀ σ' H' P',Tr P0 P H P' H'->An K P0 P' H' σ' ρ->Z.bk σ' H'
 | .ok (.cont ρ)=>∀ σ' H' P',Tr P0 P H P' H'->An K P0 P' H' σ' ρ->Z.ct σ' H'
 | .ok (.CI c)=>∀ v fp H' P',Tr P0 P H P' H'->(∀ a,P0 a->P' a)->(∀ a,P' a->Dn H' a)->Dm K H' P' c v fp->(∀ a∈fp,P' a/\¬ P0 a)->fp.Nodup->Z.rt v H'
 | .ok (.F8 t ρ)=>∀ v fp σ' H' P',Tr P0 P H P' H'->An K P0 P' H' σ' ρ->C1 K H' P' v t fp->fp.Nodup->(∀ a∈fp,P' a/\¬ P0 a/\∀(j:Nat) c v' fq,ρ[j]? =some (some c)->σ'[j]? =some (some v')->Dm K H' P' c v' fq->a∉fq)->Z.rt v H'
 | .ex x=>∀ H' P',Tr P0 P H P' H'->WX x H'
 | .bad=>False
theorem gS.tr {K:za}{WX:Str->Hp->Prop}{P0:Ew}{P P':Addr->Prop}{H H':Hp}{Z:Ends}{m:M Out}(h:gS K WX P0 P H Z m) (t:Tr P0 P H P' H'):gS K WX P0 P' H' Z m:=by
 cases m with
 |bad=>exact h
 |ex x=>exact fun H2 P2 t2=>h H2 P2 (t.trans t2)
 |ok o =>
  cases o with
  |ret d=>exact fun v H2 P2 t2 hv=>h v H2 P2 (t.trans t2) hv
  |next ρ=>exact fun σ2 H2 P2 t2 hv=>h σ2 H2 P2 (t.trans t2) hv
  |brk ρ=>exact fun σ2 H2 P2 t2 hv=>h σ2 H2 P2 (t.trans t2) hv
  |cont ρ=>exact fun σ2 H2 P2 t2 hv=>h σ2 H2 P2 (t.trans t2) hv
  |CI c=>exact fun v fp H2 P2 t2=>h v fp H2 P2 (t.trans t2)
  |F8 c ρ=>exact fun v fp σ2 H2 P2 t2=>h v fp σ2 H2 P2 (t.trans t2)
def DS (X:Cx) (WX:Str->Hp->Prop) (st:Stmt) (g:Ab->M Out):Prop :=
 ∃ t,PS X st t/\∀ P0 P σ H Z ρ,An X.K P0 P H σ ρ->gS X.K WX P0 P H Z (g ρ)->t Z σ H
def Sf (X:Cx) (WX:Str->Hp->Prop) (st:List Stmt) (g:Ab->M Out):Prop :=
 ∃ t,TX X st t/\∀ P0 P σ H Z ρ,An X.K P0 P H σ ρ->gS X.K WX P0 P H Z (g ρ)->t Z σ H
def ZI (m:M Out) (k:Ab->M Out):M Out:=match m with
 | .ok (.next ρ)=>k ρ
 |m=>m
section
variable {X:Cx}{WX:Str->Hp->Prop}{c:Bool}{P0:Ew}{P:Addr->Prop}{H:Hp}{σ:St}{ρ:Ab}{a b e:Expr}{f g:Ab->M D}{ft gt:Ab->M Bool}{pos:Pos}{st:Stmt}{rest:List Stmt}{g1 g2:Ab->M Out}
theorem AA:Sf X WX [] (fun ρ=>.ok (.next ρ)):=⟨_,Z9,fun P0 P σ H Z ρ E h=>h σ H P Tr.refl E⟩
theorem A5 (h:DS X WX st g1):Sf X WX [st] g1:=let ⟨t,h1,h2⟩:=h;⟨_,Za h1,h2⟩
theorem A3 (h:DS X WX st g1) (hr:Sf X WX rest g2):Sf X WX (st::rest) (fun ρ=>ZI (g1 ρ) g2):=by
 obtain⟨t,h1,h2⟩:=h
 obtain⟨u,r1,r2⟩:=hr
 refine⟨_,WD h1 r1,fun P0 P σ H Z ρ E h=>?_⟩
 dsimp only at h
 refine h2 P0 P σ H { Z with nx:=u Z } ρ E ?_
 cases q:g1 ρ with
 |bad=>rw[q] at h;exact h
 |ex x=>rw[q] at h;exact h
 |ok o =>
  rw[q] at h
  cases o with
  |ret d=>exact h
  |brk d=>exact h
  |cont d=>exact h
  |CI d=>exact h
  |F8 d ρ2=>exact h
  |next ρ'=>exact fun σ' H' P' t E'=>r2 P0 P' σ' H' Z ρ' E' (gS.tr h t)
theorem Mx (ha:DE X WX false e f):DS X WX (.Return (some e) pos) (fun ρ=>(f ρ).bind fun d=>.ok (.ret d)):=by
 obtain⟨ta,a1,a2⟩:=ha
 refine⟨_,Sl a1,fun P0 P σ H Z ρ E h=>?_⟩
 dsimp only at h
 refine a2 P0 P σ H _ ρ E ?_
 cases q:f ρ with
 |bad=>rw[q] at h;exact h
 |ex x=>rw[q] at h;exact fun H' s=>h H' P (E.tr s)
 |ok d=>rw[q] at h;exact fun v H' s hv=>h v H' P (E.tr s) hv
theorem B5 {c:Expr}{sa sb:List Stmt}(hc:DT X WX c ft) (ha:Sf X WX sa g1) (hb:Sf X WX sb g2):DS X WX (.If c sa sb pos) (fun ρ=>(ft ρ).bind fun k=>if k=true then g1 ρ else g2 ρ):=by
 obtain⟨tc,c1,c2⟩:=hc
 obtain⟨ta,a1,a2⟩:=ha
 obtain⟨tb,b1,b2⟩:=hb
 refine⟨_,mW c1 a1 b1,fun P0 P σ H Z ρ E h=>?_⟩
 dsimp only at h
 refine c2 P0 P σ H _ ρ E ?_
 cases q:ft ρ with
 |bad=>rw[q] at h;exact h
 |ex x=>rw[q] at h;exact fun H' s=>h H' P (E.tr s)
 |ok k =>
  rw[q] at h
  intro H1 s1
  cases k with
  |true =>
   simp only[M.A7,if_true] at h ⊢
   exact a2 P0 P σ H1 Z ρ (E.same s1) (h.tr (E.tr s1))
  |false =>
   simp only[M.A7,zE,if_false] at h ⊢
   exact b2 P0 P σ H1 Z ρ (E.same s1) (h.tr (E.tr s1))
theorem get_set {α:Type}{l:List α}{i j:Nat}{x y:α}(h:(l.set i x)[j]? =some y):(i=j/\i < l.length/\x=y)\/(i≠j/\l[j]? =some y):=by
 by_cases e:i=j
 ·subst e
  rw[List.getElem?_set_self'] at h
  cases q:l[i]? with
  |none=>rw[q] at h;cases h
  |some z =>
   rw[q] at h
   exact .inl ⟨rfl,(zw.mp q).1,by simpa using h⟩
 ·rw[yn e] at h
  exact .inr ⟨e,h⟩
theorem An.Vy {K:za}(E:An K P0 P H σ ρ){i:Nat}{v:V}{d:D}(hv:BH K (del H P) v d):An K P0 P H (σ.set i (some v)) (ρ.set i (some (.val d))):=by
 have gs:∀ {j:Nat},i≠j->(σ.set i (some v))[j]? =σ[j]? :=fun h=>yn h
 refine⟨E.sub,E.Cn,fun j e h=>?_,fun j c h io=>?_,fun j k c c' u u' fp ai h1 h2 h3 h4 h5 h6 af=>?_,by rw[yl,yl];exact E.len,fun j c n h hp=>?_⟩
 rotate_left 3
 ·rcases get_set h with ⟨rfl,hl,e1⟩|⟨af,h⟩
  ·cases e1;cases hp
  ·rw[gs af];exact E.pin j c n h hp
 ·rcases get_set h with ⟨rfl,hl,e1⟩|⟨af,h⟩
  ·cases e1
   exact⟨v,zQ (by rw[E.len];exact hl),hv⟩
  ·obtain⟨w,h1,h2⟩:=E.val j e h
   exact⟨w,by rw[gs af];exact h1,h2⟩
 ·rcases get_set h with ⟨rfl,hl,e1⟩|⟨af,h⟩
  ·cases e1;cases io
  ·obtain⟨w,fp,h1,h2⟩:=E.ows j c h io
   exact⟨w,fp,by rw[gs af];exact h1,h2⟩
 ·rcases get_set h1 with ⟨rfl,hl,e1⟩|⟨bY,h1⟩
  ·cases e1;exact h5.elim
  ·rcases get_set h2 with ⟨rfl,hl,e1⟩|⟨aR,h2⟩
   ·cases e1;exact h6.elim
   ·rw[gs bY] at h3
    rw[gs aR] at h4
    exact E.apart j k c c' u u' fp ai h1 h2 h3 h4 h5 h6 af
theorem An.Vz {K:za}(E:An K P0 P H σ ρ){P':Addr->Prop}{H':Hp}{i:Nat}{v:V}{c:Cl}{fp:List Addr}(hs:∀ a,P a->P' a) (ht:∀ a,P' a->Dn H' a) (sm:Ad (del H P) (del H' P'))
 (keep:∀(j:Nat) c' v' ai,i≠j->ρ[j]? =some (some c')->σ[j]? =some (some v')->Dm K H P c' v' ai->∀ a∈ai,H' a=H a/\a∉fp)
 (new:Dm K H' P' c v fp) (hp:∀ a∈fp,P' a/\¬ P0 a) (nd:fp.Nodup) (fm:∀ n,Om c=some n->v=.ref (P0.g n):=by intro n z;cases z):An K P0 P' H' (σ.set i (some v)) (ρ.set i (some c)):=by
 have gs:∀ {j:Nat},i≠j->(σ.set i (some v))[j]? =σ[j]? :=fun h=>yn h
 refine⟨fun a h=>hs a (E.sub a h),ht,fun j e h=>?_,fun j c' h io=>?_,fun j k c1 c2 u u' aA cc h1 h2 h3 h4 h5 h6 af=>?_,by rw[yl,yl];exact E.len,fun j c' n h hp=>?_⟩
 rotate_left 3
 ·rcases get_set h with ⟨rfl,hl,e1⟩|⟨af,h⟩
  ·cases e1;rw[zQ (by rw[E.len];exact hl),fm n hp]
  ·rw[gs af];exact E.pin j c' n h hp
 ·rcases get_set h with ⟨rfl,hl,e1⟩|⟨af,h⟩
  ·cases e1;exact new.elim
  ·obtain⟨w,h1,h2⟩:=E.val j e h
   exact⟨w,by rw[gs af];exact h1,h2.mono sm⟩
 ·rcases get_set h with ⟨rfl,hl,e1⟩|⟨af,h⟩
  ·cases e1
   exact⟨v,fp,zQ (by rw[E.len];exact hl),new,hp,nd⟩
  ·obtain⟨w,fq,h1,h2,h3,h4⟩:=E.ows j c' h io
   exact⟨w,fq,by rw[gs af];exact h1,h2.move sm fun a ha=>(keep j c' w fq af h h1 h2 a ha).1,fun a ha=>⟨hs a (h3 a ha).1,(h3 a ha).2⟩,h4⟩
 ·have back:∀(l:Nat) (d:Cl) (w:V) (fq:List Addr),i≠l->ρ[l]? =some (some d)->σ[l]? =some (some w)->Dm K H' P' d w fq->∃ fr,Dm K H P d w fr/\fr=fq:=fun l d w fq hn hk sk ho=>by
   have io:Ir d=true:=by cases d<;>first|rfl|exact ho.elim
   obtain⟨w',cc,s2,o2,_⟩:=E.ows l d hk io
   rw[sk] at s2;cases s2
   exact⟨cc,o2,(o2.move sm fun a ha=>(keep l d w cc hn hk sk o2 a ha).1).Cp ho⟩
  rcases get_set h1 with ⟨rfl,hl,e1⟩|⟨bY,h1⟩
  ·cases e1
   rw[zQ (by rw[E.len];exact hl)] at h3
   cases h3
   rcases get_set h2 with ⟨e,_⟩|⟨aR,h2⟩
   ·exact (af e).elim
   ·rw[gs aR] at h4
    obtain⟨fr,o,rfl⟩:=back k c2 u' cc aR h2 h4 h6
    intro a ha hb
    rw[new.Cp h5] at keep
    exact (keep k c2 u' fr aR h2 h4 o a hb).2 ha
  ·rw[gs bY] at h3
   obtain⟨fr,o,rfl⟩:=back j c1 u aA bY h1 h3 h5
   rcases get_set h2 with ⟨rfl,hl,e1⟩|⟨aR,h2⟩
   ·cases e1
    rw[zQ (by rw[E.len];exact hl)] at h4
    cases h4
    intro a ha
    rw[new.Cp h6] at keep
    exact (keep j c1 u fr bY h1 h3 o a ha).2
   ·rw[gs aR] at h4
    obtain⟨nz,o2,rfl⟩:=back k c2 u' cc aR h2 h4 h6
    exact E.apart j k c1 c2 u u' fr nz h1 h2 h3 h4 o o2 af
theorem An.oK {K:za}(E:An K P0 P H σ ρ){P':Addr->Prop}{H':Hp}{i:Nat}{v:V}{c:Cl}{fp:List Addr}(hs:∀ a,P0 a->P' a) (ht:∀ a,P' a->Dn H' a) (sm:Ad (del H P) (del H' P'))
 (keep:∀(j:Nat) c' v' ai,i≠j->ρ[j]? =some (some c')->σ[j]? =some (some v')->Dm K H P c' v' ai->∀ a∈ai,H' a=H a/\a∉fp/\P' a)
 (new:Dm K H' P' c v fp) (hp:∀ a∈fp,P' a/\¬ P0 a) (nd:fp.Nodup) (fm:∀ n,Om c=some n->v=.ref (P0.g n):=by intro n z;cases z):An K P0 P' H' (σ.set i (some v)) (ρ.set i (some c)):=by
 have gs:∀ {j:Nat},i≠j->(σ.set i (some v))[j]? =σ[j]? :=fun h=>yn h
 refine⟨hs,ht,fun j e h=>?_,fun j c' h io=>?_,fun j k c1 c2 u u' aA cc h1 h2 h3 h4 h5 h6 af=>?_,by rw[yl,yl];exact E.len,fun j c' n h hp=>?_⟩
 rotate_left 3
 ·rcases get_set h with ⟨rfl,hl,e1⟩|⟨af,h⟩
  ·cases e1;rw[zQ (by rw[E.len];exact hl),fm n hp]
  ·rw[gs af];exact E.pin j c' n h hp
 ·rcases get_set h with ⟨rfl,hl,e1⟩|⟨af,h⟩
  ·cases e1;exact new.elim
  ·obtain⟨w,h1,h2⟩:=E.val j e h
   exact⟨w,by rw[gs af];exact h1,h2.mono sm⟩
 ·rcases get_set h with ⟨rfl,hl,e1⟩|⟨af,h⟩
  ·cases e1
   exact⟨v,fp,zQ (by rw[E.len];exact hl),new,hp,nd⟩
  ·obtain⟨w,fq,h1,h2,h3,h4⟩:=E.ows j c' h io
   exact⟨w,fq,by rw[gs af];exact h1,h2.move sm fun a ha=>(keep j c' w fq af h h1 h2 a ha).1,fun a ha=>⟨(keep j c' w fq af h h1 h2 a ha).2.2,(h3 a ha).2⟩,h4⟩
 ·have back:∀(l:Nat) (d:Cl) (w:V) (fq:List Addr),i≠l->ρ[l]? =some (some d)->σ[l]? =some (some w)->Dm K H' P' d w fq->∃ fr,Dm K H P d w fr/\fr=fq:=fun l d w fq hn hk sk ho=>by
   have io:Ir d=true:=by cases d<;>first|rfl|exact ho.elim
   obtain⟨w',cc,s2,o2,_⟩:=E.ows l d hk io
   rw[sk] at s2;cases s2
   exact⟨cc,o2,(o2.move sm fun a ha=>(keep l d w cc hn hk sk o2 a ha).1).Cp ho⟩
  rcases get_set h1 with ⟨rfl,hl,e1⟩|⟨bY,h1⟩
  ·cases e1
   rw[zQ (by rw[E.len];exact hl)] at h3
   cases h3
   rcases get_set h2 with ⟨e,_⟩|⟨aR,h2⟩
   ·exact (af e).elim
   ·rw[gs aR] at h4
    obtain⟨fr,o,rfl⟩:=back k c2 u' cc aR h2 h4 h6
    intro a ha hb
    rw[new.Cp h5] at keep
    exact (keep k c2 u' fr aR h2 h4 o a hb).2.1 ha
  ·rw[gs bY] at h3
   obtain⟨fr,o,rfl⟩:=back j c1 u aA bY h1 h3 h5
   rcases get_set h2 with ⟨rfl,hl,e1⟩|⟨aR,h2⟩
   ·cases e1
    rw[zQ (by rw[E.len];exact hl)] at h4
    cases h4
    intro a ha
    rw[new.Cp h6] at keep
    exact (keep j c1 u fr bY h1 h3 o a ha).2.1
   ·rw[gs aR] at h4
    obtain⟨nz,o2,rfl⟩:=back k c2 u' cc aR h2 h4 h6
    exact E.apart j k c1 c2 u u' fr nz h1 h2 h3 h4 o o2 af
theorem Kp {α:Type}:∀ {l:List α}{i:Nat}{x:α},l[i]? =some x->l.set i x=l
 |[],_,_,h=>by cases h
 |y::r,0,x,h=>by cases h;rfl
 |y::r,i + 1,x,h=>by rw[zl,Kp (by simpa using h)]
theorem An.mut {K:za}(E:An K P0 P H σ ρ){i p:Nat}{xs:List V}{ds jg:List D}(ho:ρ[i]? =some (some (.own ds))) (hs:σ[i]? =some (some (.ref p))) (pP:P p) (lq:¬ P0 p) (hx:Ag K (del H P) xs jg) :
 An K P0 P (upd H p (.lst xs)) σ (ρ.set i (some (.own jg)))/\Tr P0 P H P (upd H p (.lst xs)):=by
 have sd:del (upd H p (.lst xs)) P=del H P:=by
  funext b
  by_cases hb:P b
  ·rw[CZ hb,CZ hb]
  ·rw[Aw hb,Aw hb,Ah (fun z=>hb (by rw[z];exact pP))]
 have sm:Ad (del H P) (del (upd H p (.lst xs)) P):=by rw[sd];exact Ad.refl _
 obtain⟨v,fp,s1,o1,_⟩:=E.ows i _ ho rfl
 rw[hs] at s1;cases s1
 have key:=E.Vz (P':=P) (H':=upd H p (.lst xs)) (i:=i) (v:=.ref p) (c:=.own jg) (fp:=[p]) (fun a h=>h) (fun a h=>?_) sm (fun j c' v' ai af h1 h2 h3 a ha=>?_) ⟨p,xs,rfl,rfl,Ar,by rw[sd];exact hx⟩ (fun a ha=>by rw[zg.mp ha];exact⟨pP,lq⟩) (by simp)
 ·rw[Kp hs] at key
  exact⟨key,sm,fun a h=>by rw[Ah (fun z=>lq (by rw[<-z];exact h))]⟩
 ·by_cases ha:a=p
  ·subst ha;exact Dn.lst Ar
  ·unfold Dn;rw[Ah ha];exact E.Cn a h
 ·obtain⟨p',du,e,rfl,_⟩:=o1
  cases e
  have hn:a≠p:=fun z=>E.apart j i c' _ v' _ ai [p] h1 ho h2 hs h3 ⟨p,du,rfl,rfl,by assumption⟩ (zU af) a ha (by rw[z];exact zg.mpr rfl)
  exact⟨Ah hn,fun z=>hn (zg.mp z)⟩
theorem An.grow {K:za}(E:An K P0 P H σ ρ){i p:Nat}{xs:List V}{ds:List D}{v:V}{d:D}(ho:ρ[i]? =some (some (.own ds))) (hs:σ[i]? =some (some (.ref p))) (hp:H p=some (.lst xs)) (pP:P p) (lq:¬ P0 p) (hx:Ag K (del H P) xs ds) (hv:BH K (del H P) v d) :
 An K P0 P (upd H p (.lst (xs++[v]))) σ (ρ.set i (some (.own (ds++[d]))))/\Tr P0 P H P (upd H p (.lst (xs++[v]))):=E.mut ho hs pP lq (hx.snoc hv)
theorem B1 (i:Nat){x:Str}{pos':Pos}(hN:X.N.Nodup) (hi:X.N[i]? =some x) (hx:Loc X.env.scope x) (ha:DE X WX true e f) (hs:swapsWith e (some (.Name x pos')) pos.line X.env=pure false:=by rfl) (hf:X.fn x=true\/X.env.scope.names.lookup x=some .local:=by first | exact .inl rfl | exact .inr rfl | assumption) :
 DS X WX (.Assign [.Name x pos'] e pos) (fun ρ=>(f ρ).bind fun d=>.ok (.next (ρ.set i (some (.val d))))):=by
 obtain⟨ta,a1,a2⟩:=ha
 refine⟨_,Sn hN hi hx a1 hs hf,fun P0 P σ H Z ρ E h=>?_⟩
 dsimp only at h
 refine a2 P0 P σ H _ ρ E ?_
 cases q:f ρ with
 |bad=>rw[q] at h;exact h
 |ex x=>rw[q] at h;exact fun H' s=>h H' P (E.tr s)
 |ok d=>rw[q] at h;exact fun v H' s hv=>h _ H' P (E.tr s) ((E.same s).Vy hv)
def VA (i:Nat) (ρ:Ab) (m:M D):M Out:=match ρ[i]? with
 |some (some (.own ds))=>m.bind fun d=>if ds.length < 1000 then .ok (.next (ρ.set i (some (.own (ds++[d]))))) else .bad
 |_=>.bad
theorem Hk (i:Nat){x:Str}{p1 apos ac:Pos}(hv:PE X (.Name x p1) (Li i)) (ha:DE X WX true e f) (hs:starEach [e] X.env=[(false,eval e X.env)]:=by rfl)
 (bj:swapsWith (.Call (.Attribute (.Name x p1) "append" apos) [e] [] ac) none pos.line X.env=pure false:=by rfl)
 (av:attributeBase (.Name x p1) "append" X.env (eval (.Name x p1) X.env)=eval (.Name x p1) X.env:=by rfl)
 (aV:((backTo ac (starEach [e] X.env)).all (fun x => !x.1) && (backToKw ac (keywordEach [] X.env)).all (fun x=>x.1.isSome) && decide (([e]:List Expr).length + ([]:List Keyword).length + (if ([]:List Keyword).isEmpty then 0 else 1) < 30))=true:=by rfl)
 (aw:(apos.endLine == ac.line)=true:=by rfl) (ar:(backTo ac (starEach [] X.env)).any (·.1)=false:=by rfl) :
 DS X WX (.Expr (.Call (.Attribute (.Name x p1) "append" apos) [e] [] ac) pos) (fun ρ=>VA i ρ (f ρ)):=by
 obtain⟨ta,a1,a2⟩:=ha
 refine⟨_,Fo (QK y9 PySem.F.slot_list_append PySem.F.type_list_append Oh hv (Be a1 Cg hs) av aV aw hs ar) bj,fun P0 P σ H Z ρ E h=>?_⟩
 dsimp only at h
 unfold VA at h
 split at h
 ·rename_i ds e1
  obtain⟨p,xs,h1,h2,h3,h4,h5⟩:=E.own i ds e1
  refine⟨_,h1,.inl ⟨rfl,xs,.of h2⟩,?_⟩
  refine a2 P0 P σ H _ ρ E ?_
  cases q:f ρ with
  |bad=>rw[q] at h;exact h
  |ex y=>rw[q] at h;exact fun H' s=>h H' P (E.tr s)
  |ok d =>
   rw[q] at h
   simp only[M.A7] at h
   by_cases hl:ds.length < 1000
   ·rw[if_pos hl] at h
    intro v H1 s1 hv
    have E1:=E.same s1
    have ib:H1 p=some (.lst xs):=s1 _ _ h2
    refine⟨p,xs,v,rfl,rfl,ib,AF (by rw[h5.length];omega),?_⟩
    obtain⟨E2,t2⟩:=E1.grow e1 h1 ib h3 h4 (h5.mono s1.del) hv
    exact h _ _ _ ((E.tr s1).trans t2) E2
   ·rw[if_neg hl] at h;exact h.elim
 ·exact h.elim
end
end L2
namespace L2
open PySem PySem.Spec PyProof.Rows
def gG (K:za) (P0:Ew) (P:Addr->Prop) (H:Hp) (Q:St->Hp->Prop):M Ab->Prop
 | .ok ρ=>∀ σ',An K P0 P H σ' ρ->Q σ' H
 |_=>False
def DG (X:Cx) (tg:Expr) (gt:D->Ab->M Ab):Prop :=
 ∃ g:TG,PG X tg g/\∀ P0 P σ H Q ρ v d,An X.K P0 P H σ ρ->BH X.K (del H P) v d->gG X.K P0 P H Q (gt d ρ)->g v σ H Q
def pY (X:Cx) (v6:List Expr) (gt:List D->Ab->M Ab):Prop :=
 ∃ g:Wv,mC X v6 g/\∀ P0 P σ H Q ρ v d,An X.K P0 P H σ ρ->Ag X.K (del H P) v d->gG X.K P0 P H Q (gt d ρ)->g v σ H Q
structure ZJ (K:za) (J:It) (P:Addr->Prop) (H:Hp) (ds:List D):Prop where
 go:∀(i:Nat) P' H',Ad (del H P) (del H' P')->i < ds.length->J.go i H'
 stop:∀(i:Nat) P' H',Ad (del H P) (del H' P')->ds.length<=i->J.stop i H'
 fQ:∀(i:Nat) P' H' v fv d,Ad (del H P) (del H' P')->(∀ a,P' a->Dn H' a)->ds[i]? =some d->J.fQ i H' v fv->Ad H' fv/\BH K (del fv P') v d
def DI (X:Cx) (WX:Str->Hp->Prop) (tg iter:Expr) (f:Ab->M (List D)):Prop :=
 ∃ wi,PI X tg iter wi/\∀ P0 P σ H R ρ,An X.K P0 P H σ ρ->(match f ρ with | .ok ds=>∀ J H',Ad H H'->ZJ X.K J P H' ds->R J H' | .ex x=>∀ H',Ad H H'->WX x H' | .bad=>False)->wi σ H R
def forM (gt:D->Ab->M Ab) (body:Ab->M Out):List D->Ab->M Out
 |[],ρ=>.ok (.next ρ)
 |d::r,ρ=>match gt d ρ with
  | .ok ρ1=>(match body ρ1 with
   | .ok (.next ρ2)=>forM gt body r ρ2
   | .ok (.cont ρ2)=>forM gt body r ρ2
   | .ok (.brk ρ2)=>.ok (.next ρ2)
   |m=>m)
  |_=>.bad
section
variable {X:Cx}{WX:Str->Hp->Prop}{c:Bool}{P0:Ew}{P:Addr->Prop}{H:Hp}{σ:St}{ρ:Ab}{a b e tg iter:Expr}{f g:Ab->M D}{ft:Ab->M Bool}{pos:Pos}{gt:D->Ab->M Ab}{cO:List D->Ab->M Ab}{gb:Ab->M Out}{fi:Ab->M (List D)}
theorem AW (i:Nat){x:Str}(hN:X.N.Nodup) (hi:X.N[i]? =some x) (hx:Loc X.env.scope x) (hf:X.fn x=true\/X.env.scope.names.lookup x=some .local:=by first | exact .inl rfl | exact .inr rfl | assumption):DG X (.Name x pos) (fun d ρ=>.ok (ρ.set i (some (.val d)))) :=
 ⟨_,Pc hN hi hx hf,fun P0 P σ H Q ρ v d E hv h=>h _ (E.Vy hv)⟩
theorem Ue:pY X [] (fun ds ρ=>match ds with | []=>.ok ρ | _=>.bad):=⟨_,TY,fun P0 P σ H Q ρ v d E hv h=>by
 cases hv with
 |nil=>exact⟨rfl,h σ E⟩
 |cons _ _=>exact h.elim⟩
theorem J7 {es:List Expr}(h1:DG X e gt) (h2:pY X es cO) (hs:(assignEach (e::es) X.env).map (·.2)=assign e X.env::(assignEach es X.env).map (·.2):=by rfl) :
 pY X (e::es) (fun ds ρ=>match ds with|d::r=>(gt d ρ).bind (cO r)|[]=>.bad):=by
 obtain⟨t,a1,a2⟩:=h1
 obtain⟨u,b1,b2⟩:=h2
 refine⟨_,QF a1 b1 hs,fun P0 P σ H Q ρ v d E hv h=>?_⟩
 cases hv with
 |nil=>exact h.elim
 | @cons x d xs ds hx bZ =>
  refine⟨x,xs,rfl,a2 P0 P σ H _ ρ x d E hx ?_⟩
  dsimp only at h
  cases q:gt d ρ with
  |bad=>rw[q] at h;exact h
  |ex y=>rw[q] at h;exact h
  |ok ρ1=>rw[q] at h;exact fun σ' E'=>b2 P0 P σ' H Q ρ1 xs ds E' bZ h
theorem Xq {es:List Expr}{k n:Nat}(hc:X.calm=true) (h:pY X es cO) (hn:(assignEach es X.env).length=n:=by rfl) (aY:(assignEach es X.env).findIdx? (·.1)=none:=by rfl) :
 DG X (.Tuple es k pos) (fun d ρ=>match d with | .tup ds=>if ds.length=n then cO ds ρ else .bad|_=>.bad):=by
 obtain⟨t,a1,a2⟩:=h
 refine⟨_,WG hc a1 hn aY,fun P0 P σ H Q ρ v d E hv h=>?_⟩
 cases hv with
 | @tup a xs ds hs hl =>
  dsimp only at h
  by_cases hd:ds.length=n
  ·rw[if_pos hd] at h
   exact⟨a,xs,rfl,Fn.of (Al hs).2,by rw[hl.length];exact hd,a2 P0 P σ H Q ρ xs ds E hl h⟩
  ·rw[if_neg hd] at h;exact h.elim
 |_=>exact h.elim
theorem AN (ha:DE X WX true e f):DI X WX tg e (fun ρ=>(f ρ).bind fun d=>match d with | .lst ds=>.ok ds | _=>.bad):=by
 obtain⟨ta,a1,a2⟩:=ha
 refine⟨_,Zb a1,fun P0 P σ H R ρ E h=>?_⟩
 dsimp only at h
 refine a2 P0 P σ H _ ρ E ?_
 cases q:f ρ with
 |bad=>rw[q] at h;exact h
 |ex x=>rw[q] at h;exact h
 |ok d =>
  rw[q] at h
  cases d with
  |lst ds =>
   intro v H1 s1 hv
   cases hv with
   | @lst a xs _ hs hl =>
    refine⟨a,rfl,⟨xs,hs.Bm⟩,h _ H1 s1 ⟨fun i P' H' s hi=>?_,fun i P' H' s hi=>?_,fun i P' H' v fv d s ht hd y=>?_⟩⟩
    ·obtain⟨x,hx,_⟩:=hl.get (zq hi)
     exact⟨xs,x,(s.seq hs).Bm,hx⟩
    ·exact⟨xs,(s.seq hs).Bm,by rw[hl.length];exact hi⟩
    ·obtain⟨rfl,y⟩:=y
     obtain⟨x,hx,bM⟩:=hl.get hd
     have e:=y xs (s.seq hs).Bm
     rw[hx] at e
     cases e
     exact⟨Ad.refl _,bM.mono s⟩
  |_=>exact h.elim
def Cj (lo:Int):Nat->List D
 |0=>[]
 |n + 1=>.int lo::Cj (lo + 1) n
theorem Bc (lo:Int):∀ n:Nat,(Cj lo n).length=n:=by
 intro n
 induction n generalizing lo with
 |zero=>rfl
 |succ n ih=>rw[Cj,zk,ih]
theorem BK {lo:Int}{n i:Nat}{d:D}(h:(Cj lo n)[i]? =some d):d=.int (lo + i)/\i < n:=by
 have hi:i < n:=by
  have:=(zw.mp h).1
  rw[Bc] at this;exact this
 refine⟨?_,hi⟩
 induction n generalizing lo i with
 |zero=>omega
 |succ n ih =>
  cases i with
  |zero=>rw[Cj] at h;simp at h;rw[<-h];simp
  |succ i =>
   rw[Cj,zT] at h
   rw[ih h (by omega)]
   congr 1
   omega
theorem SK {K:za}{P:Addr->Prop}{H:Hp}(lo:Int) (n:Nat):ZJ K (pT lo n) P H (Cj lo n) :=
 ⟨fun i P' H' _ hi=>by rw[Bc] at hi;exact hi,fun i P' H' _ hi=>by rw[Bc] at hi;exact hi,fun i P' H' v fv d _ _ hd y=>by
  obtain⟨rfl,rfl⟩:=y
  obtain⟨rfl,_⟩:=BK hd
  exact⟨Ad.refl _,.int _⟩⟩
noncomputable def SM:D->M (List D)
 | .int j=>@ite _ (-(2 ^ 62)<=j/\j < 2 ^ 62) (Classical.propDecidable _) (.ok (Cj 0 j.toNat)) .bad
 |_=>.bad
theorem QX {j:Int}(h1 : -(2 ^ 62)<=j) (h2:j < 2 ^ 62):SM (.int j)=.ok (Cj 0 j.toNat):=if_pos ⟨h1,h2⟩
theorem Gx {n:Nat}(h:n<=1000):SM (.int (n:Int))=.ok (Cj 0 n):=by
 rw[QX (by omega) (by omega),zX]
theorem C8 {p:Pos}(hg:Gl X "range") (hm:X.mg "range" = none) (ha:DE X WX c a f) (hs:starEach [a] X.env=[(false,eval a X.env)]:=by rfl) :
 DI X WX tg (.Call (.Name "range" p) [a] [] pos) (fun ρ=>(f ρ).bind SM):=by
 obtain⟨ta,a1,a2⟩:=ha
 refine⟨_,Vf hg hm (Be a1 Cg hs) hs,fun P0 P σ H R ρ E h=>?_⟩
 dsimp only at h
 refine a2 P0 P σ H _ ρ E ?_
 cases q:f ρ with
 |bad=>rw[q] at h;exact h
 |ex x=>rw[q] at h;exact h
 |ok d =>
  rw[q] at h
  cases d with
  |int j =>
   simp only[M.A7] at h
   by_cases hj : -(2 ^ 62)<=j/\j < 2 ^ 62
   ·rw[QX hj.1 hj.2] at h
    exact fun v H1 s1 hv=>⟨j,by rw[hv.int_inv],hj.1,hj.2,h _ H1 s1 (SK 0 _)⟩
   ·have e:SM (.int j)=.bad:=if_neg hj
    rw[e] at h;exact h.elim
  |_=>exact h.elim
def L3 (k:Nat):List D->List D
 |[]=>[]
 |d::r=>.tup [.int k,d]::L3 (k + 1) r
theorem Hl (k:Nat) (ds:List D):(L3 k ds).length=ds.length:=by
 induction ds generalizing k with
 |nil=>rfl
 |cons d r ih=>rw[L3,zk,zk,ih]
theorem Kq {k i:Nat}{ds:List D}{e:D}(h:(L3 k ds)[i]? =some e):∃ d,ds[i]? =some d/\e=.tup [.int ((k + i:Nat):Int),d]:=by
 induction ds generalizing k i with
 |nil=>rw[L3] at h;simp at h
 |cons d r ih =>
  cases i with
  |zero=>rw[L3] at h;simp at h;exact⟨d,rfl,by rw[<-h];rfl⟩
  |succ i =>
   rw[L3,zT] at h
   obtain⟨d',h1,h2⟩:=ih h
   refine⟨d',by simpa using h1,?_⟩
   rw[h2]
   congr 3
   omega
theorem Ug {cq:List Expr}{x1}{bC p:Pos}(hg:Gl X "enumerate") (hm:X.mg "enumerate" = none) (ha:DE X WX true a f) (hb:bootBuiltins "enumerate" = some (.type "enumerate"):=by decide +kernel) (hs:starEach [a] X.env=[(false,eval a X.env)]:=by rfl) :
 DI X WX (.Tuple cq x1 bC) (.Call (.Name "enumerate" p) [a] [] pos) (fun ρ=>(f ρ).bind fun d=>match d with | .lst ds=>.ok (L3 0 ds)|_=>.bad):=by
 obtain⟨ta,a1,a2⟩:=ha
 refine⟨_,ZA hg hm (Be a1 Cg hs) hb hs,fun P0 P σ H R ρ E h=>?_⟩
 dsimp only at h
 refine a2 P0 P σ H _ ρ E ?_
 cases q:f ρ with
 |bad=>rw[q] at h;exact h
 |ex x=>rw[q] at h;exact h
 |ok d =>
  rw[q] at h
  cases d with
  |lst ds =>
   intro v H1 s1 hv
   cases hv with
   | @lst a xs _ hs hl =>
    refine⟨a,rfl,⟨xs,hs.Bm⟩,h _ H1 s1 ⟨fun i P' H' s hi=>?_,fun i P' H' s hi=>?_,fun i P' H' v fv d s ht hd y=>?_⟩⟩
    ·rw[Hl] at hi
     obtain⟨x,hx,_⟩:=hl.get (zq hi)
     exact⟨xs,x,(s.seq hs).Bm,hx⟩
    ·rw[Hl] at hi
     exact⟨xs,(s.seq hs).Bm,by rw[hl.length];exact hi⟩
    ·obtain⟨p,x,hn,rfl,y,rfl⟩:=y
     obtain⟨d',aQ,rfl⟩:=Kq hd
     obtain⟨x',hx,bM⟩:=hl.get aQ
     have e:=y xs (s.seq hs).Bm
     rw[hx] at e
     cases e
     refine⟨AM hn _,.tup (J5 hn ht) (.cons ?_ (.cons ((bM.mono s).mono (AM hn _).del) .nil))⟩
     rw[Nat.zero_add]
     exact .int _
  |_=>exact h.elim
theorem J8 {α:Type}{l:List α}{i:Nat}(h:i < l.length):l.drop i=l[i]::l.drop (i + 1):=List.drop_eq_getElem_cons h
theorem BC {body:List Stmt}(hp:PassesOwn (model X.prog X.w) X.A X.env X.xe) (hc:X.calm=true) (hi:DI X WX tg iter fi) (hg:DG X tg gt) (hb:Sf X WX body gb) (hs:∀ x,foldedSetIterable iter X.env x=pure x:=by intro _;rfl) :
 DS X WX (.For tg iter body [] pos) (fun ρ=>(fi ρ).bind fun ds=>forM gt gb ds ρ):=by
 obtain⟨wi,i1,i2⟩:=hi
 obtain⟨t,a1,a2⟩:=hg
 obtain⟨tb,b1,b2⟩:=hb
 refine⟨_,iO hp hc i1 a1 b1 hs,fun P0 P σ H Z ρ E h=>?_⟩
 dsimp only at h
 refine i2 P0 P σ H _ ρ E ?_
 cases q:fi ρ with
 |bad=>rw[q] at h;exact h
 |ex x=>rw[q] at h;exact fun H' s=>h H' P (E.tr s)
 |ok ds =>
  rw[q] at h
  simp only[M.A7] at h
  intro J H1 s1 ok
  refine⟨fun i m σ' H'=>m=ds.length - i/\i<=ds.length/\∃ P' ρ',Tr P0 P H1 P' H'/\An X.K P0 P' H' σ' ρ'/\gS X.K WX P0 P' H' Z (forM gt gb (ds.drop i) ρ'),
   ⟨ds.length,by simp,zP _,P,ρ,Tr.refl,E.same s1,by rw[List.drop_zero];exact h.tr (E.tr s1)⟩,?_⟩
  rintro i m σ' H' ⟨rfl,hi,P',ρ',t',E',g'⟩
  by_cases aj:i < ds.length
  ·refine .inr ⟨ok.go i P' H' t'.1 aj,fun σ2 H2=>i + 1<=ds.length/\∃ P2 ρ2,Tr P0 P H1 P2 H2/\An X.K P0 P2 H2 σ2 ρ2/\gS X.K WX P0 P2 H2 Z (forM gt gb (ds.drop (i + 1)) ρ2),fun σ2 H2 hq=>⟨ds.length - (i + 1),by omega,rfl,hq.1,hq.2⟩,fun v H2 y=>?_⟩
   obtain⟨s2,hv⟩:=ok.fQ i P' H' v H2 ds[i] t'.1 E'.Cn (zq aj) y
   rw[J8 aj,forM] at g'
   have E2:=E'.same s2
   refine a2 P0 P' σ' H2 _ ρ' v ds[i] E2 hv ?_
   cases q1:gt ds[i] ρ' with
   |bad=>rw[q1] at g';exact g'
   |ex x=>rw[q1] at g';exact g'.elim
   |ok ρ1 =>
    rw[q1] at g'
    dsimp only at g'
    intro σ3 E3
    refine b2 P0 P' σ3 H2 _ ρ1 E3 ?_
    have tt:Tr P0 P H1 P' H2:=t'.trans (E'.tr s2)
    cases q2:gb ρ1 with
    |bad=>rw[q2] at g';exact g'
    |ex x=>rw[q2] at g';exact gS.tr (m:=.ex x) g' (E'.tr s2)
    |ok o =>
     rw[q2] at g'
     cases o with
     |ret d=>exact gS.tr (m:=.ok (.ret d)) g' (E'.tr s2)
     |CI d=>exact gS.tr (m:=.ok (.CI d)) g' (E'.tr s2)
     |F8 d ρ2=>exact gS.tr (m:=.ok (.F8 d ρ2)) g' (E'.tr s2)
     |next ρ2=>exact fun σ4 H4 P4 t4 E4=>⟨aj,P4,ρ2,tt.trans t4,E4,gS.tr g' ((E'.tr s2).trans t4)⟩
     |cont ρ2=>exact fun σ4 H4 P4 t4 E4=>⟨aj,P4,ρ2,tt.trans t4,E4,gS.tr g' ((E'.tr s2).trans t4)⟩
     |brk ρ2=>exact fun σ4 H4 P4 t4 E4=>g' σ4 H4 P4 ((E'.tr s2).trans t4) E4
  ·have e:i=ds.length:=by omega
   subst e
   refine .inl ⟨ok.stop _ P' H' t'.1 (zx _),?_⟩
   rw[List.drop_length,forM] at g'
   exact g' σ' H' P' Tr.refl E'
end
end L2
namespace L2
open PySem PySem.Spec PyProof.Rows
def SN (K:za) (n:Nat) (F:List D->M D):Sp:=fun vs H Q _=>vs.length=n/\∃ P ds,(∀ a,P a->Dn H a)/\Ag K (del H P) vs ds/\gV K (fun _ _=>False) P H Q (F ds)
def AG (N:List Str) (ds:List D):Ab:=ds.map (fun d=>some (.val d))++zt (N.length - ds.length) none
def rY:Cl->M D
 | .val d=>.ok d
 | .own ds=>.ok (.lst ds)
 | .ow (.rows BZ)=>.ok (.lst (BZ.map D.lst))
 | .ow (.Lz _ _)=>.bad
 | .ow (.tree _ t)=>.ok (er t)
def fin (m:M Out):M D:=match m with
 | .ok (.ret d)=>.ok d
 | .ok (.CI c)=>rY c
 | .ok (.next _)=>.ok .Az
 |_=>.bad
theorem Ov {K:za}{P:Addr->Prop}{H:Hp}{N:List Str}{vs:List V}{ds:List D}(ht:∀ a,P a->Dn H a) (h:Ag K (del H P) vs ds):An K ⟨P,fun _=>0⟩ P H (start N vs) (AG N ds):=by
 have hl:=h.length
 have key:∀(i:Nat) (c:Cl),(AG N ds)[i]? =some (some c)->∃ d,ds[i]? =some d/\c=.val d:=fun i c e=>by
  unfold AG at e
  by_cases hi:i < ds.length
  ·rw[yw (by simpa using hi),zF] at e
   cases q:ds[i]? with
   |none=>rw[q] at e;cases e
   |some d=>rw[q] at e;cases e;exact⟨d,rfl,rfl⟩
  ·rw[yE (by simpa using hi),yB] at e
   split at e<;>cases e
 refine⟨fun _ h=>h,ht,fun i d e=>?_,fun i es e io=>?_,fun i j c c' v v' fp ai e _ _ _ ho _ _=>?_,?_,fun i c n e hp=>?_⟩
 rotate_left 4
 ·obtain⟨d',q,z⟩:=key i _ e
  cases z
  cases hp
 ·obtain⟨d',q,z⟩:=key i _ e
  cases z
  obtain⟨v,hv,hd⟩:=h.get q
  refine⟨v,?_,hd⟩
  unfold start
  rw[yw (by rw[zc];exact (zw.mp hv).1),zF,hv]
  rfl
 ·obtain⟨d',q,z⟩:=key i _ e
  cases z
  cases io
 ·obtain⟨d',q,z⟩:=key i _ e
  cases z
  exact ho.elim
 ·unfold start AG
  simp[hl]
theorem Dw {P:Addr->Prop}{H H':Hp}{P':Addr->Prop}(t:Tr P P H P' H'):Ad H H':=fun b o e=>by
 by_cases hb:P b
 ·rw[t.2 b hb];exact e
 ·exact (Al (t.1 b o (by rw[Aw hb];exact e))).2
theorem Bw.jW {K:za}{H:Hp}{P P0:Addr->Prop}(hs:∀ a,P0 a->P a):∀ {ps:List Addr}{BZ:List (List D)},(∀ a∈ps,¬ P0 a)->Bw K H P ps BZ->Ag K (del H P0) (ps.map V.ref) (BZ.map D.lst)
 |_,_,_,.nil=>.nil
 |_,_,k,.cons h r t=>.cons (.lst (.of (show del H P0 _=_ by rw[Aw (k _ zd)];exact h)) (r.mono (CJ hs))) (Bw.jW hs (fun a ha=>k a (ze _ ha)) t)
theorem ZK {K:za}{WX:Str->Hp->Prop}{P P2:Addr->Prop}{H H':Hp}{Q:VK}{c:Cl}{v:V}{fp:List Addr}(h:gV K WX P H Q (rY c)) (t':Tr P P H P2 H') (hs:∀ a,P a->P2 a) (ht:∀ a,P2 a->Dn H' a) (ho:Dm K H' P2 c v fp) (hp:∀ a∈fp,P2 a/\¬ P a):Q v H':=by
 cases c with
 |val d=>exact ho.elim
 |own ds =>
  obtain⟨p,xs,rfl,rfl,h1,h2⟩:=ho
  exact h _ H' (Dw t') (.lst (.of (show del H' P p=_ by rw[Aw (hp p zd).2];exact h1)) (h2.mono (CJ hs)))
 |ow o =>
  cases o with
  |rows BZ =>
   obtain⟨p,ps,rfl,rfl,h1,h2⟩:=ho
   exact h _ H' (Dw t') (.lst (.of (show del H' P p=_ by rw[Aw (hp p zd).2];exact h1)) (h2.jW hs fun a ha=>(hp a (ze _ ha)).2))
  |Lz p ds=>exact h.elim
  |tree p t=>exact h _ H' (Dw t') (C1.has hs (fun a ha=>(hp a ha).2) ho)
section
variable {P:Program}{w:World}{K:za}{mg:Str->Option Value}{base:Heap}
theorem oM {x qual:Str}{st:Stmt}{f:Addr}{fd:FuncData}{N ps:List Str}{k:Nat}(F:Ww K x qual st f fd) (S:Ae N ps (A4 st)) (g:Ab->M Out)
 (hb:∀(AZ:Value) (A:Around) (outer:List Env) (s:Shared) (H:Hp) (E:XK),BI k (A.deeper (envOfC qual (A4 st) s.heap.objs.size f AZ))->Sf (Lk Zq P w K mg base N qual (A4 st) f AZ A outer s H E).mT (fun _ _=>False) (AJ st) g) :
 Dv P w K mg base Zq (k + 1) f fd ps (SN K ps.length fun ds=>fin (g (AG N ds))):=by
 refine F.ok S (fun vs H Q E h=>h.1) fun AZ A outer s H vs Q E hr h=>?_
 obtain⟨hl,P',ds,ht,hv,hq⟩:=h
 obtain⟨t,h1,h2⟩:=hb AZ A outer s H E hr
 refine⟨t,h1,h2 ⟨P',fun _=>0⟩ P' _ H _ _ (Ov ht hv) ?_⟩
 dsimp only at hq
 revert hq
 cases g (AG N ds) with
 |bad=>exact fun h=>h.elim
 |ex x=>exact fun h=>h.elim
 |ok o =>
  cases o with
  |ret d=>exact fun h v H' P2 t hv=>h v H' (Dw t) hv
  |next ρ=>exact fun h σ' H' P2 t E=>h .Az H' (Dw t) .Az
  |brk ρ=>exact fun h=>h.elim
  |cont ρ=>exact fun h=>h.elim
  |CI c=>exact fun h v fp H' P2 t hs ht ho hp nd=>ZK h t hs ht ho hp
  |F8 d ρ=>exact fun h=>h.elim
end
section
variable {X:Cx}{WX:Str->Hp->Prop}{c:Bool}{P0:Ew}{P:Addr->Prop}{H:Hp}{σ:St}{ρ:Ab}{a b e tg iter:Expr}{f g:Ab->M D}{ft:Ab->M Bool}{pos:Pos}{gt:D->Ab->M Ab}{fi:Ab->M (List D)}{es:List Expr}{fs:Ab->M (List D)}
def Bx (μ:List (Option Nat)) (ρ:Ab):Ab:=μ.map fun o=>o.bind fun i=>match ρ[i]? with | some (some (.val d))=>some (.val d) | _=>none
theorem Hm {μ:List (Option Nat)}{ρ:Ab}{j:Nat}{cl:Cl}(h:(Bx μ ρ)[j]? =some (some cl)):∃ i d,μ[j]? =some (some i)/\ρ[i]? =some (some (.val d))/\cl=.val d:=by
 unfold Bx at h
 rw[zF] at h
 cases q:μ[j]? with
 |none=>rw[q] at h;cases h
 |some o =>
  rw[q] at h
  cases o with
  |none=>cases h
  |some i =>
   simp only[Option.map_some,Option.bind_some,Option.some.injEq] at h
   split at h
   ·rename_i d e
    cases h
    exact⟨i,d,rfl,e,rfl⟩
   ·cases h
theorem An.block {K:za}(E:An K P0 P H σ ρ) (μ:List (Option Nat)):An K P0 P H (ES μ σ) (Bx μ ρ):=by
 refine⟨E.sub,E.Cn,fun j d h=>?_,fun j ds h io=>?_,fun j k c c' v v' fp ai h _ _ _ ho _ _=>?_,by unfold ES Bx;simp,fun j c n h hp=>by obtain⟨i,d',h1,h2,h3⟩:=Hm h;subst h3;cases hp⟩
 ·obtain⟨i,d',h1,h2,h3⟩:=Hm h
  cases h3
  obtain⟨v,h4,h5⟩:=E.val i d h2
  refine⟨v,?_,h5⟩
  unfold ES
  rw[zF,h1]
  simp[h4]
 ·obtain⟨i,d',h1,h2,h3⟩:=Hm h
  cases h3
  cases io
 ·obtain⟨i,d',h1,h2,h3⟩:=Hm h
  cases h3
  exact ho.elim
def B6 (gt:D->Ab->M Ab) (ft:Ab->M Bool) (fe:Ab->M D):List D->Ab->M (List D)
 |[],_=>.ok []
 |d::r,ρ=>match gt d ρ with
  | .ok ρ1=>(match ft ρ1 with
   | .ok k=>if k=true then (match fe ρ1 with
    | .ok y=>(match B6 gt ft fe r ρ with | .ok ys=>.ok (y::ys)|_=>.bad)
    |_=>.bad) else B6 gt ft fe r ρ
   |_=>.bad)
  |_=>.bad
def oN (X:Cx) (scope:Scope) (NB:List Str) (μ:List (Option Nat)) (tg:Expr) (gt:D->Ab->M Ab):Prop :=
 ∃ g:TG,(∀ s H C ex,PG (blockOf X s H scope C NB ex) tg g)/\Ki μ g/\∀ P0 P σ H Q ρ v d,An X.K P0 P H σ ρ->BH X.K (del H P) v d->gG X.K P0 P H Q (gt d ρ)->g v σ H Q
theorem Bn {scope:Scope}{NB:List Str}{μ:List (Option Nat)}(i:Nat){x:Str}(hN:NB.Nodup) (hi:NB[i]? =some x) (hx:(relabel scope X.env).names.lookup x=some .local) (hm:μ[i]? =some none):oN X scope NB μ (.Name x pos) (fun d ρ=>.ok (ρ.set i (some (.val d)))) :=
 ⟨O9 i,fun s H C ex=>Pc (X:=blockOf X s H scope C NB ex) hN hi (.inl hx) (.inr hx),Zy hm,fun P0 P σ H Q ρ v d E hv h=>h _ (E.Vy hv)⟩
def oO (X:Cx) (cs:List Expr) (f:Ab->M Bool):Prop :=
 ∃ t,mE X cs t/\∀ P0 P σ H Q ρ,An X.K P0 P H σ ρ->gT (fun _ _=>False) H Q (f ρ)->t σ H Q
theorem Dc:oO X [] (fun _=>.ok true):=⟨_,Zw,fun P0 P σ H Q ρ E h=>h H (Ad.refl H)⟩
theorem Hn (h:DT X (fun _ _=>False) a ft):oO X [a] ft:=let ⟨t,h1,h2⟩:=h;⟨_,Zx h1,h2⟩
def J9 (m:M (List D)):M D:=match m with | .ok ys=>.ok (.lst ys) | _=>.bad
theorem jX {μ:List (Option Nat)}{wi:TI}{gg:TG}{tc:Shared->Hp->Addr->List Addr->TT}{te:Shared->Hp->Addr->List Addr->TE}{fe:Ab->M D}
 (i2:∀ P0 P σ H R ρ,An X.K P0 P H σ ρ->(match fi ρ with | .ok ds=>∀ J H',Ad H H'->ZJ X.K J P H' ds->R J H' | .ex x=>∀ H',Ad H H'->WX x H' | .bad=>False)->wi σ H R)
 (g2:∀ P0 P σ H Q ρ v d,An X.K P0 P H σ ρ->BH X.K (del H P) v d->gG X.K P0 P H Q (gt d ρ)->gg v σ H Q)
 (t2:∀ s H' C ex P0 P σ H Q ρ,An X.K P0 P H σ ρ->gT (fun _ _=>False) H Q (ft ρ)->tc s H' C ex σ H Q)
 (e2:∀ s H' C ex P0 P σ H Q ρ,An X.K P0 P H σ ρ->gV X.K (fun _ _=>False) (Lv c P0 P) H Q (fe ρ)->te s H' C ex σ H Q) {Q:VK}
 (E:An X.K P0 P H σ ρ) (h:gV X.K WX (Lv c P0 P) H Q ((fi ρ).bind fun ds=>if ds.length<=1000 then J9 (B6 gt ft fe ds (Bx μ ρ)) else .bad)):U5 wi μ gg tc te σ H Q:=by
 refine i2 P0 P σ H _ ρ E ?_
 cases q:fi ρ with
 |bad=>rw[q] at h;exact h
 |ex x=>rw[q] at h;exact h
 |ok ds =>
  rw[q] at h
  simp only[M.A7] at h
  by_cases hd:¬ ds.length<=1000
  ·rw[if_neg hd] at h;exact h.elim
  have hd:ds.length<=1000:=by omega
  rw[if_pos hd] at h
  intro J H1 s1 ok s C ex
  cases qc:B6 gt ft fe ds (Bx μ ρ) with
  |bad=>rw[qc] at h;exact h.elim
  |ex x=>rw[qc] at h;exact h.elim
  |ok total =>
   rw[qc] at h
   unfold J9 at h
   dsimp only at h
   have E1:=E.same s1
   refine⟨fun i m ys H2=>m=ds.length - i/\i<=ds.length/\ys.length<=i/\Ad H1 H2/\∃ es rest,Ag X.K (del H2 (Lv c P0 P)) ys es/\B6 gt ft fe (ds.drop i) (Bx μ ρ)=.ok rest/\es++rest=total,
    ⟨ds.length,by simp,zP _,zx _,Ad.refl _,[],total,.nil,by rw[List.drop_zero];exact qc,rfl⟩,?_⟩
   rintro i m ys H2 ⟨rfl,hi,hy,s2,es,rest,f6,aq,bo⟩
   by_cases aj:i < ds.length
   ·refine .inr ⟨ok.go i P H2 s2.del aj,Nat.lt_of_le_of_lt hy (AF (by omega)),fun b9 H'=>i + 1<=ds.length/\b9.length<=i + 1/\Ad H1 H'/\∃ es rest,Ag X.K (del H' (Lv c P0 P)) b9 es/\B6 gt ft fe (ds.drop (i + 1)) (Bx μ ρ)=.ok rest/\es++rest=total,fun b9 H' hq=>⟨ds.length - (i + 1),by omega,rfl,hq.1,hq.2.1,hq.2.2.1,hq.2.2.2⟩,fun v H3 y=>?_⟩
    have E2:=E1.same s2
    obtain⟨s3,hv⟩:=ok.fQ i P H2 v H3 ds[i] s2.del E2.Cn (zq aj) y
    rw[J8 aj,B6] at aq
    have E3:=(E2.same s3).block μ
    refine g2 P0 P _ H3 _ (Bx μ ρ) v ds[i] E3 hv ?_
    cases q1:gt ds[i] (Bx μ ρ) with
    |bad=>rw[q1] at aq;cases aq
    |ex x=>rw[q1] at aq;cases aq
    |ok ρ1 =>
     rw[q1] at aq
     dsimp only at aq
     intro σ4 E4
     refine t2 s H1 C ex P0 P σ4 H3 _ ρ1 E4 ?_
     cases q2:ft ρ1 with
     |bad=>rw[q2] at aq;cases aq
     |ex x=>rw[q2] at aq;cases aq
     |ok k =>
      rw[q2] at aq
      dsimp only at aq
      intro H5 s5
      cases k with
      |false =>
       simp only[zE,if_false] at aq ⊢
       exact⟨aj,by omega,(s2.trans s3).trans s5,es,rest,(f6.mono s3.del).mono s5.del,aq,bo⟩
      |true =>
       simp only[if_true] at aq ⊢
       refine e2 s H1 C ex P0 P σ4 H5 _ ρ1 (E4.same s5) ?_
       cases q3:fe ρ1 with
       |bad=>rw[q3] at aq;cases aq
       |ex x=>rw[q3] at aq;cases aq
       |ok y' =>
        rw[q3] at aq
        dsimp only at aq
        cases q4:B6 gt ft fe (ds.drop (i + 1)) (Bx μ ρ) with
        |bad=>rw[q4] at aq;cases aq
        |ex x=>rw[q4] at aq;cases aq
        |ok n4 =>
         rw[q4] at aq
         cases aq
         intro w H6 s6 hw
         refine⟨aj,by rw[zJ,y8];omega,((s2.trans s3).trans s5).trans s6,es++[y'],n4,(((f6.mono s3.del).mono s5.del).mono s6.del).snoc hw,rfl,?_⟩
         rw[yN];exact bo
   ·have e:i=ds.length:=by omega
    subst e
    rw[List.drop_length,B6] at aq
    cases aq
    rw[yq] at bo
    subst bo
    refine .inl ⟨ok.stop _ P H2 s2.del (zx _),fun D0 hn=>h _ _ ((s1.trans s2).trans (AM hn _)) (.lst (.of (J5 hn fun a q=>(E1.same s2).oC c a q)) (f6.mono (AM hn _).del))⟩
theorem Uh {scope:Scope}{NB:List Str}{ifs:List Expr}{elt:Expr}{fe:Ab->M D}(i:Nat){x:Str}{px ay:Pos}(μ:List (Option Nat)) (hN:X.N.Nodup) (jc:X.N[i]? =some x) (hx:Loc X.env.scope x) (hc:X.calm=true) (hi:DI X WX tg iter fi) (aG:J0 scope X.env.scope=true) (bE:Pn X.N NB scope μ=true) (hg:oN X scope NB μ tg gt)
 (ht:∀ s H C ex,oO (blockOf X s H scope C NB ex) ifs ft) (he:∀ s H C ex,DE (blockOf X s H scope C NB ex) (fun _ _=>False) true elt fe)
 (bj:swapsWith (.ListComp elt [⟨tg,iter,ifs,0⟩] scope pos) (some (.Name x px)) ay.line X.env=pure true:=by rfl) (hs:∀ x,foldedSetIterable iter X.env x=pure x:=by intro _;rfl) (hf:X.fn x=true\/X.env.scope.names.lookup x=some .local:=by first|exact .inl rfl|exact .inr rfl|assumption) :
 DS X WX (.Assign [.Name x px] (.ListComp elt [⟨tg,iter,ifs,0⟩] scope pos) ay) (fun ρ=>((fi ρ).bind fun ds=>if ds.length<=1000 then J9 (B6 gt ft fe ds (Bx μ ρ)) else .bad).bind fun d=>.ok (.next (ρ.set i (some (.val d))))):=by
 obtain⟨wi,i1,i2⟩:=hi
 obtain⟨gg,g1,gk,g2⟩:=hg
 refine⟨_,U6 hN jc hx hc i1 aG bE gk (fun s H C ex=>⟨g1 s H C ex,(zb (ht s H C ex)).1,(zb (he s H C ex)).1⟩) bj hs hf,fun P0 P σ H Z ρ E h=>?_⟩
 refine jX (c:=true) i2 g2 (fun s H' C ex P0 P σ H Q ρ E h=>(zb (ht s H' C ex)).2 P0 P σ H Q ρ E h) (fun s H' C ex P0 P σ H Q ρ E h=>(zb (he s H' C ex)).2 P0 P σ H Q ρ E h) E ?_
 dsimp only at h
 revert h
 cases ((fi ρ).bind fun ds=>if ds.length<=1000 then J9 (B6 gt ft fe ds (Bx μ ρ)) else .bad) with
 |bad=>exact fun h=>h
 |ex y=>exact fun h H' s=>h H' P (E.tr s)
 |ok d=>exact fun h v H' s hv=>h _ H' P (E.tr s) ((E.same s).Vy hv)
end
end L2
namespace L2
open PySem PySem.Spec PyProof.Rows
section
variable {X:Cx}{WX:Str->Hp->Prop}{c:Bool}{P0:Ew}{P:Addr->Prop}{H:Hp}{σ:St}{ρ:Ab}{a b e k:Expr}{f g:Ab->M D}{te tk:TE}{pos p2:Pos}
def vI (x y:D):M D:=match x,y with | .lst ds,.int i=>if i = -1 then .ok (.lst ds.reverse) else .bad | _,_=>.bad
def CD:List D->Option (List Int)
 |[]=>some []
 | .int i::r=>(CD r).map (i::·)
 |_=>none
def Xr:D->Option (List Int)
 | .tup ds=>CD ds
 |_=>none
def Gy:List D->Option (List (D×List Int))
 |[]=>some []
 |d::r=>(Xr d).bind fun k=>(Gy r).map ((d,k)::·)
def Ui (l d:D):M D:=match l with
 | .lst ds=>(match Gy ds with|some ks=>.ok (match AV ks with|none=>d|some b=>b.1)|none=>.bad)
 |_=>.bad
theorem Kr {K:za}{H:Hp}:∀ {xs:List V}{ds:List D}{ns:List Int},Ag K H xs ds->CD ds=some ns->xs=ns.map V.int
 |_,_,_,.nil,e=>by simp only[CD] at e;cases e;rfl
 |_,_,_,.cons (d:=d) h t,e=>by
  cases d with
  |int i =>
   simp only[CD] at e
   cases q:CD _ with
   |none=>rw[q] at e;cases e
   |some ns =>
    rw[q] at e
    cases e
    rw[h.int_inv,Kr t q];rfl
  |_=>simp[CD] at e
abbrev Alike (K:za) (H:Hp):List (Addr×List Int)->List (D×List Int)->Prop:=Paired fun p q=>p.2=q.2/\BH K H (.ref p.1) q.1
theorem Iz {K:za}{H:Hp}:∀ {xs:List V}{ds:List D}{ks:List (D×List Int)},Ag K H xs ds->Gy ds=some ks->∃ bs:List (Addr×List Int),xs=bs.map (fun b=>V.ref b.1)/\(∀ b∈bs,Fn K H b.1 (b.2.map V.int))/\Alike K H bs ks
 |_,_,_,.nil,e=>by simp only[Gy] at e;cases e;exact⟨[],rfl,by simp,.nil⟩
 |_,_,_,.cons (d:=d) h t,e=>by
  simp only[Gy] at e
  cases q:Xr d with
  |none=>rw[q] at e;cases e
  |some k =>
   rw[q] at e
   simp only[Option.bind_some] at e
   cases q2:Gy _ with
   |none=>rw[q2] at e;cases e
   |some ks =>
    rw[q2] at e
    cases e
    obtain⟨bs,h1,h2,h3⟩:=Iz t q2
    cases d with
    |tup es =>
     have h':=h
     cases h with
     | @tup a xs _ hs hl =>
      simp only[Xr] at q
      have e1:=Kr hl q
      subst e1
      refine⟨(a,k)::bs,by rw[h1];rfl,fun b hb=>?_,.cons ⟨rfl,h'⟩ h3⟩
      rcases zo.mp hb with z|z
      ·subst z;exact Fn.of hs
      ·exact h2 b z
    |_=>simp[Xr] at q
theorem My {K:za}{H:Hp}{bs:List (Addr×List Int)}{ks:List (D×List Int)}(h:Alike K H bs ks):(AV bs=none/\AV ks=none)\/∃ b k,AV bs=some b/\AV ks=some k/\b.2=k.2/\BH K H (.ref b.1) k.1:=by
 unfold AV
 suffices z:∀(o:Option (Addr×List Int)) (o':Option (D×List Int)),((o=none/\o'=none)\/∃ b k,o=some b/\o'=some k/\b.2=k.2/\BH K H (.ref b.1) k.1)->
  ((bs.foldl BG o=none/\ks.foldl BG o'=none) \/
   ∃ b k,bs.foldl BG o=some b/\ks.foldl BG o'=some k/\b.2=k.2/\BH K H (.ref b.1) k.1) from z none none (.inl ⟨rfl,rfl⟩)
 induction h with
 |nil=>intro o o' h;exact h
 | @cons b k bs ks hh t ih =>
  intro o o' h
  rw[zS,zS]
  refine ih _ _ ?_
  rcases h with ⟨rfl,rfl⟩|⟨b',k',rfl,rfl,e1,e2⟩
  ·exact .inr ⟨b,k,rfl,rfl,hh⟩
  ·unfold BG
   dsimp only
   rw[hh.1,e1]
   by_cases hl:HT.lexLt k.2 k'.2=true
   ·rw[if_pos hl,if_pos hl];exact .inr ⟨b,k,rfl,rfl,hh⟩
   ·rw[if_neg hl,if_neg hl];exact .inr ⟨b',k',rfl,rfl,e1,e2⟩
theorem Uj {p kp:Pos}{e2:Expr}(hc:X.calm=true) (hu:X.A.units + 1 < cLine) (hg:Gl X "min") (hm:X.mg "min" = none) (ha:DE X WX c e f) (hb:DE X WX c e2 g)
 (aY:starEach [e] X.env=[(false,eval e X.env)]:=by rfl) (aF:(backToKw pos (keywordEach [⟨some "default",e2,kp⟩] X.env)).all (·.1.isSome)=true:=by rfl) (nu:(backToKw pos (keywordEach [⟨some "default",e2,kp⟩] X.env)).filterMap (·.1)=([("default" : Str)]:List Str):=by rfl)
 (nv:(backToKw pos (keywordEach [⟨some "default",e2,kp⟩] X.env)).any (·.1.isNone)=false:=by rfl) (bW:backTo pos (starEach [e] X.env)=(false,eval e X.env)::backTo pos (starEach [] X.env):=by rfl) (a6:(backTo pos (starEach [e] X.env)).any (·.1)=false:=by rfl) :
 DE X WX c (.Call (.Name "min" p) [e] [⟨some "default",e2,kp⟩] pos) (fun ρ=>(f ρ).bind fun x=>(g ρ).bind fun y=>Ui x y):=by
 obtain⟨ta,a1,a2⟩:=ha
 obtain⟨tb,b1,b2⟩:=hb
 refine⟨_,ZC hc hu hg hm a1 b1 aY aF nu nv bW a6,fun P0 P σ H Q ρ E h=>QU (r:=fun x d H2 Q=>∃(a:Addr) (bs:List (Addr×List Int)),x=.ref a/\Dt X.K H2 a (bs.map fun b=>V.ref b.1)/\(∀ b∈bs,Fn X.K H2 b.1 (b.2.map V.int))/\Q (match AV bs with|none=>d|some b=>.ref b.1) H2) a2 b2 ?_ E h⟩
 intro P H x y v w Q ht hx hy h
 unfold Ui at h
 split at h
 ·rename_i ds
  split at h
  ·rename_i ks e1
   cases hx with
   | @lst a xs _ hs hl =>
    obtain⟨bs,rfl,h2,h3⟩:=Iz hl e1
    refine⟨a,bs,rfl,hs.Bm,fun b hb=>(h2 b hb).Bm,?_⟩
    rcases My h3 with ⟨q1,q2⟩|⟨b,k,q1,q2,_,q3⟩
    ·rw[q1]
     rw[q2] at h
     exact h _ H (Ad.refl H) hy
    ·rw[q1]
     rw[q2] at h
     exact h _ H (Ad.refl H) q3
  ·exact h.elim
 ·exact h.elim
end
end L2
namespace L2
open PySem PySem.Spec PyProof.Rows
theorem AO {A:Around}{k:Nat}(hr:BI k A) (n:Nat) (hn:n<=64):A.units + n < cLine:=by have:=hr.units;omega
structure Ai (K:za) (mg:Str->Option Value) (x:Str) (st:Stmt) (ps:List Str):Prop where
 ex:∃ f fd,Ww K x x st f fd/\mg x=some (.ref f)/\Binds K fd ps []
end L2
namespace L2
open PySem PySem.Spec PyProof.Rows
theorem BB.there {P:Program}{w:World}{H:Hp}{h:Heap}{a:Addr}{o:HO}(x:BB P w H h a o):∃ ob,h.get? a=some ob:=by
 cases o with
 |lst xs=>obtain⟨_,_,_,_,e⟩:=x;exact⟨_,e⟩
 |tup xs=>obtain⟨_,_,_,o,e,_⟩:=x;exact⟨o,e⟩
 |dK kvs=>obtain⟨_,_,_,_,o,_,_,e,_⟩:=x;exact⟨_,e⟩
 |dT kvs=>obtain⟨_,_,_,_,o,_,_,e,_⟩:=x;exact⟨_,e⟩
 |set S n=>obtain⟨o,_,_,_,e,_⟩:=x;exact⟨_,e⟩
 |ins C dx fs=>obtain⟨_,_,_,e,_⟩:=x;exact⟨_,e⟩
 |own y=>obtain⟨_,e⟩:=x;exact⟨_,e⟩
 |xd fs=>obtain⟨_,⟨_,_,_,e,_⟩,_⟩:=x;exact⟨_,e⟩
 |pR lo hi=>obtain⟨_,_,_,e⟩:=x;exact⟨_,e⟩
 |Vc ob u=>obtain⟨e,_⟩:=x;exact⟨_,e⟩
 |fN ps=>exact⟨_,(show h.get? a=some _ from x)⟩
 |met f y=>exact⟨_,(show h.get? a=some _ from x)⟩
 |ext φ=>obtain⟨_,⟨_,e⟩,_⟩:=x;exact⟨_,e⟩
theorem Fm.gone {P:Program}{w:World}{H:Hp}{h:Heap}{a:Addr}(x:Fm P w H h) (e:h.get? a=none):H a=none:=by
 cases q:H a with
 |none=>rfl
 |some o=>obtain⟨ob,z⟩:=(x a o q).there;rw[e] at z;cases z
structure jY (base g:Heap) (H:Hp) (l:List Env) (ea c:Addr) (h:Heap):Prop where
 xQ:∃ a0,Heap.FlyingW base l ea (.ref c) a0 h
 new:g.get? ea=none
 un:H ea=none
 tr:∀ oe vs T,h.get? ea=some oe->oe.data=.fields vs->vs[1]? =some (.ref T)->H T=none/\g.get? T=none
def SO (P:Program) (w:World) (base:Heap):Vk:=fun outer H s E ev s'=>∃(ea c:Addr) (H':Hp),ev=.ref ea/\s'.os=s.os/\AllBare s'.gens/\Un (KW outer) [] H H' s.heap s'.heap/\Fm P w H' s'.heap/\jY base s.heap H' outer ea c s'.heap/\E (.ref c) none H'
section
variable {P:Program}{w:World}{K:za}{mg:Str->Option Value}{base:Heap}{N:List Str}{qual:Str}{scope:Scope}{f:Addr}{cd:Value}{A:Around}{outer:List Env}{s:Shared}{H:Hp}{E:XK}
abbrev Uk (P:Program) (w:World) (K:za) (mg:Str->Option Value) (base:Heap) (N:List Str) (qual:Str) (scope:Scope) (f:Addr) (cd:Value) (A:Around) (outer:List Env) (s:Shared) (H:Hp) (E:XK):Cx :=
 Lk (SO P w base) P w K mg base N qual scope f cd A outer s H E
theorem fZ {pins:List (Addr×Obj)}{σ:St}{H1:Hp}{s1:Shared}{h' B:Heap}{ea c:Addr}{a0:Value}{hid:List Addr}(J:Inv (Uk P w K mg base N qual scope f cd A outer s H E) pins σ H1 s1)
 (hB:∀ b o,s1.heap.get? b=some o->b∉KW (envOfC qual scope s.heap.objs.size f cd::outer)->b∉hid->(H1 b≠none\/∃ o',s.heap.get? b=some o')->B.get? b=some o) (v7:base.StaysIn B)
 (hh:∀ b∈hid,H1 b=none/\s.heap.get? b=none) (hT:∀ b,B.get? b=none->b∉KW (envOfC qual scope s.heap.objs.size f cd::outer)->H1 b=none/\s.heap.get? b=none)
 (v8:s.heap.get? ea=none) (n5:H1 ea=none) (F:Heap.FlyingW B outer ea (.ref c) a0 h') (cI:s1.heap.UpToSlots h') (q:E (.ref c) none H1) :
 SO P w base outer H s E (.ref ea) { s1 with heap:=h' }:=by
 have n6:∀ b∈KW outer,∃ o,s1.heap.get? b=some o/\∀ vs,o.data≠.fields vs:=fun b hb=>(J.IV.mem hb).2
 have jh:∀ b o,s.heap.get? b=some o->b≠s.heap.objs.size:=fun b o e=>zC (zu e)
 have fO:∀ b,b∈KW (envOfC qual scope s.heap.objs.size f cd::outer)->b=s.heap.objs.size\/b∈KW outer:=fun b hb=>by
  have aE:b∈s.heap.objs.size::KW outer:=hb
  exact zo.mp aE
 have U:Un (KW outer) [] H H1 s.heap s1.heap:=J.base
 have c6:∀ b o,s.heap.get? b=some o->b∉hid:=fun b o e hb=>by rw[(hh b hb).2] at e;cases e
 have ji:∀ b o,H1 b≠none->s1.heap.get? b=some o->h'.get? b=some o:=fun b o hn e=>by
  refine F.1 b o (hB b o e (fun hb=>?_) (fun hb=>hn (hh b hb).1) (.inl hn))
  exact hn (J.Pa b hb)
 refine⟨ea,c,H1,rfl,J.os,J.bare,⟨fun b o e n hb hx=>?_,fun b o e n hb hx=>?_,U.free,fun b o e hx=>?_,U.NI,U.Mc,U.NJ⟩,fun b ob e=>?_,⟨⟨a0,?_⟩,v8,n5,fun oe vs T h1 h2 h3=>?_⟩,q⟩
 ·refine F.1 b o (hB b o (U.keep b o e n hb hx) (fun z=>?_) (c6 b o e) (.inr ⟨o,e⟩))
  rcases fO b z with z|z
  ·exact jh b o e z
  ·exact hb z
 ·obtain⟨sl,e1⟩:=U.slot b o e n hb hx
  obtain⟨o2,e2,nf⟩:=n6 b hb
  rw[e1] at e2
  obtain⟨ku,e3⟩:=cI b _ e1 (by cases e2;exact nf)
  exact⟨ku,e3⟩
 ·obtain⟨o',e1⟩:=U.there b o e hx
  by_cases hb:b∈KW outer
  ·obtain⟨o2,e2,nf⟩:=n6 b hb
   obtain⟨ku,e3⟩:=cI b _ e2 nf
   exact⟨_,e3⟩
  ·refine⟨o',F.1 b o' (hB b o' e1 (fun z=>?_) (c6 b o e) (.inr ⟨o,e⟩))⟩
   rcases fO b z with z|z
   ·exact jh b o e z
   ·exact hb z
 ·refine (J.Au b ob e).P8 (fun x v hx q=>ji x v ?_ q) (fun _ q=>q) fun _ _ q=>q
  rcases hx with rfl|hx
  ·rw[e];intro z;cases z
  ·rw[hx];intro z;cases z
 ·exact PySem.W.flyingW_base v7 F
 ·obtain⟨_,_,ff,xR,bf,T',oT,ts,k1,k2,k3,k4,k5,k6,k7,k8,k9⟩:=F
  rw[show ({ s1 with heap:=h' }:Shared).heap.get? ea=h'.get? ea from rfl,k1] at h1
  cases h1
  rw[k3] at h2
  cases h2
  rw[k4] at h3
  cases h3
  refine hT T k5 fun hb=>?_
  rcases fO T hb with z|z
  ·obtain⟨m,⟨oL,es,ep,mi,n9,_⟩,_⟩:=J.loc
   obtain⟨sl,e3⟩:=cI s.heap.objs.size oL mi fun vs zz=>by rw[n9] at zz;cases zz
   rw[<-z,k7] at e3
   cases e3
   rw[show oL.data=_ from k8] at n9
   cases n9
  ·obtain⟨o2,e2,nf⟩:=n6 T z
   obtain⟨sl,e3⟩:=cI T o2 e2 nf
   rw[k7] at e3
   cases e3
   exact nf ts k8
theorem Xs {l:List Env}:∀ env∈l,∀ a,env.frame=some a->a∈KW l:=fun env he a ha=>List.mem_filterMap.mpr ⟨env,he,ha⟩
theorem ZL {pins:List (Addr×Obj)}{σ:St}{H1:Hp}{s2:Shared}{h1:Heap}{ea C:Addr}{vs:List Value}(J:Inv (Uk P w K mg base N qual scope f cd A outer s H E) pins σ H1 s2) (hx:Heap.MadeExcOf s2.heap h1 ea (.ref C) vs) (q:E (.ref C) none H1) :
 (Uk P w K mg base N qual scope f cd A outer s H E).xe (.ref ea) { s2 with heap:=h1 }:=by
 have J1:Inv (Uk P w K mg base N qual scope f cd A outer s H E) pins σ H1 { s2 with heap:=h1 }:=J.kept (t':=s2.toks) hx.keeps
 have fr:=J.stack
 have f7:=Xs (l:=envOfC qual scope s.heap.objs.size f cd::outer)
 refine wpAny_leaves_madeW (base:=PySem.W.hideAll s2.heap (KW (envOfC qual scope s.heap.objs.size f cd::outer))) (outer:=outer) (L:=s.heap.objs.size) J.ok.frames rfl (fun b o e=>PySem.W.of_hideAll _ e) (PySem.W.funFrames_hide fr f7) hx fun h' t F ht xS cI=>?_
 have c7:∀ b,s2.heap.get? b=none->H1 b=none/\s.heap.get? b=none:=fun b e=>by
  refine⟨J.Au.gone e,?_⟩
  cases q:s.heap.get? b with
  |none=>rfl
  |some o=>obtain⟨o',z⟩:=J.base.there b o q (by simp[Lk]);rw[e] at z;cases z
 refine fZ (B:=PySem.W.hideAll s2.heap (KW (envOfC qual scope s.heap.objs.size f cd::outer))) (hid:=[]) J1 (fun b o e hb _ v9=>?_) (fun b o e=>?_) (fun b z=>by cases z) (fun b e hb=>?_) (c7 ea hx.new).2 (c7 ea hx.new).1 F cI q
 ·have lh:∃ o2,s2.heap.get? b=some o2:=by
   rcases v9 with z|⟨o',z⟩
   ·cases q2:H1 b with
    |none=>exact absurd q2 z
    |some u=>exact (J.Au b u q2).there
   ·exact J.base.there b o' z (by simp[Lk])
  obtain⟨o2,e2⟩:=lh
  have e3:=hx.keeps b o2 e2
  rw[show ({ s2 with heap:=h1 }:Shared).heap.get? b=h1.get? b from rfl,e3] at e
  cases e
  exact yA _ e2 hb
 ·refine yA _ (J.bk b o e) fun hb=>?_
  have z:base.get? b=none:=(fr.mem hb).1
  rw[show base.get? b=some o from e] at z;cases z
 ·refine c7 b ?_
  cases q2:s2.heap.get? b with
  |none=>rfl
  |some o=>rw[yA _ q2 hb] at e;cases e
theorem ZM:Gq (SO P w base) (Uk P w K mg base N qual scope f cd A outer s H E) E:=by
 intro pins σ H0 s0 ev s1 I h
 obtain⟨ea,c,H1,rfl,vJ,vK,U,Au,⟨⟨a0,F⟩,bc,ui,vL⟩,q⟩:=h
 have J:Inv (Uk P w K mg base N qual scope f cd A outer s H E) pins σ H1 s1:=I.fP (ch:=[]) vJ U Au vK fun b hb=>by cases hb
 obtain⟨f1,f2,f3,oe,vs,T,oT,ts,k1,k2,k3,k4,k5,k6,k7,k8,k9⟩:=F
 have hT:=vL oe vs T k1 k3 k4
 have fr:=J.stack
 have entry:∀ b,s0.heap.get? b=none->s.heap.get? b=none:=fun b e=>by
  cases q:s.heap.get? b with
  |none=>rfl
  |some o=>obtain⟨o',z⟩:=I.base.there b o q (by simp[Lk]);rw[e] at z;cases z
 have f7:∀ env∈(envOfC qual scope s.heap.objs.size f cd::outer),∀ a,env.frame=some a->a∈KW (envOfC qual scope s.heap.objs.size f cd::outer)++[ea,T]:=fun env he a ha=>zN _ (Xs env he a ha)
 have FB:Heap.FlyingW (PySem.W.hideAll s1.heap (KW (envOfC qual scope s.heap.objs.size f cd::outer)++[ea,T])) (envOfC qual scope s.heap.objs.size f cd::outer) ea (.ref c) a0 s1.heap :=
  ⟨fun b o e=>PySem.W.of_hideAll _ e,PySem.W.hideAll_none _ (by simp),PySem.W.funFrames_hide fr f7,oe,vs,T,oT,ts,k1,k2,k3,k4,PySem.W.hideAll_none _ (by simp),k6,k7,k8,k9⟩
 refine wpAny_leaves_onW (outer:=outer) (L:=s.heap.objs.size) J.ok.frames rfl FB fun h' F' cI=>?_
 have jj:∀ b,s1.heap.get? b=none->H1 b=none/\s.heap.get? b=none:=fun b e=>by
  refine⟨J.Au.gone e,?_⟩
  cases q:s.heap.get? b with
  |none=>rfl
  |some o=>obtain⟨o',z⟩:=J.base.there b o q (by simp[Lk]);rw[e] at z;cases z
 have hid:∀ b∈[ea,T],H1 b=none/\s.heap.get? b=none:=fun b hb=>by
  rcases zo.mp hb with z|z
  ·rw[z];exact⟨ui,entry ea bc⟩
  ·rw[zg.mp z];exact⟨hT.1,entry T hT.2⟩
 refine fZ (hid:=[ea,T]) J (fun b o e hb lr _=>yA _ e fun z=>(zv.mp z).elim hb lr) (fun b o e=>?_) hid (fun b e hb=>?_) (entry ea bc) ui F' cI q
 ·refine yA _ (J.bk b o e) fun hb=>?_
  rcases zv.mp hb with hb|hb
  ·have z:base.get? b=none:=(fr.mem hb).1
   rw[show base.get? b=some o from e] at z;cases z
  ·rcases zo.mp hb with z|z
   ·rw[z] at e;rw[show base.get? ea=some o from e] at f2;cases f2
   ·rw[zg.mp z] at e;rw[show base.get? T=some o from e] at k5;cases k5
 ·by_cases lr:b∈[ea,T]
  ·exact hid b lr
  ·refine jj b ?_
   cases q2:s1.heap.get? b with
   |none=>rfl
   |some o=>rw[yA _ q2 fun z=>(zv.mp z).elim hb lr] at e;cases e
end
end L2
namespace L2
open PySem PySem.Spec PyProof.Rows
structure XCall (X:Cx) (E:XK):Prop where
 call:Gq (SO X.prog X.w X.base) X E
 own:PassesOwn (model X.prog X.w) X.A X.env X.xe
structure pZ (X:Cx) (E:XK):Prop extends XCall X E where
 made:∀ pins σ H s h' ea C vs,Inv X pins σ H s->Heap.MadeExcOf s.heap h' ea (.ref C) vs->E (.ref C) none H->X.xe (.ref ea) { s with heap:=h' }
theorem A9 {P:Program}{w:World}{K:za}{mg:Str->Option Value}{base:Heap}{N:List Str}{qual:Str}{scope:Scope}{f:Addr}{cd:Value}{A:Around}{outer:List Env}{s:Shared}{H:Hp}{E:XK} :
 pZ (Uk P w K mg base N qual scope f cd A outer s H E) E:=⟨⟨ZM,PassesOwn.leaving⟩,fun _ _ _ _ _ _ _ _ J hx q=>ZL J hx q⟩
theorem Bd {X:Cx}(h:X.xe=fun _ _=>False):pZ X E0:=⟨⟨fun _ _ _ _ _ _ _ h=>by obtain⟨_,_,_,_,_,_,_,_,_,q⟩:=h;exact q.elim,by rw[h];exact PassesOwn.never⟩,fun _ _ _ _ _ _ _ _ _ _ q=>q.elim⟩
def D2 (K:za) (E:XK):Str->Hp->Prop:=fun x H=>∃ c,zD K mainGlobals x=some (some (.ref c))/\E (.ref c) none H
section
variable {X:Cx}{E:XK}{WX:Str->Hp->Prop}{c:Bool}{e:Expr}{es:List Expr}{fs:Ab->M (List D)}{f:Ab->M D}{ft:Ab->M Bool}{pos:Pos}
theorem ZN {K:za}{h₀:Heap}{C:Addr}{uj:List Value}{newId:String}(X:K.In h₀) (q:PySem.W.excIn K C uj newId=true) :
 ∃ bm N nm q bs hdct sn sub ab col dd k0 k1 k2 k3 k5 mN,h₀.get? C=some (excClassObj nm q C N bs bm hdct sn sub ab col dd k0 k1 k2 k3 k5 newId)/\h₀.Ns N mN/\mN "__init__" = none/\OwnTail h₀ uj bm:=by
 unfold PySem.W.excIn at q
 split at q
 ·rename_i dd cd sl ho
  split at q
  ·rename_i C' bm k0 k1 k2 k3 n k5 hm hs
   simp only[zR,beq_iff_eq,Bool.not_eq_true'] at q
   obtain⟨⟨⟨⟨⟨rfl,rfl⟩,jk⟩,ht⟩,Au⟩,ls⟩:=q
   obtain⟨nm,bs,mro,ns,qn,hd,sn,sub,ab,col,del⟩:=cd
   dsimp only at hm jk Au ls
   subst hm jk
   have cI:sl=#[k0,k1,k2,k3,some (.builtin n),k5]:=by
    obtain⟨l⟩:=sl
    simp only at hs
    rw[hs]
   subst cI
   exact⟨bm,ns,nm,qn,bs,hd,sn,sub,ab,col,dd,k0,k1,k2,k3,k5,_,X _ _ ho,.of_isNs (PySem.W.isNs_of_in X Au),PySem.W.nsMap_none_of_in X Au ls,PySem.W.tail_of_in X ht⟩
  ·cases q
 ·cases q
theorem Xt {x:Str}{np ac:Pos}{C:Addr}{B newId f8:String}{bm:List Value}(xo:pZ X E) (hc:X.calm=true) (FB:ExcBaseFacts B newId f8 bm) (i5:zD X.K mainGlobals x=some (some (.ref C))) (hq:PySem.W.excIn X.K C bm newId=true) (hg:Gl X x) (hm:X.mg x=some (.ref C))
 (ha:DE X (D2 X.K E) c e f) (aU:(x == ("__debug__" : Str))=false:=by decide) (he:starEach [e] X.env=[(false,eval e X.env)]:=by rfl) (ar:(backTo ac (starEach [e] X.env)).any (·.1)=false:=by rfl) :
 DS X (D2 X.K E) (.Raise (some (.Call (.Name x np) [e] [] ac)) none pos) (fun ρ=>(f ρ).bind fun _=>.ex x):=by
 obtain⟨ta,a1,a2⟩:=ha
 refine⟨fun Z σ H=>ta σ H fun y H1=>(([y]:List V).length=1/\E (.ref C) none H1),?_,fun P0 P σ H Z ρ E h=>?_⟩
 ·intro pins s σ H D I h
  obtain⟨tl,N,nm,q,bs,hdct,sn,sub,ab,col,dd,k0,k1,k2,k3,k5,mN,hC,hN,ls,T⟩:=ZN I.mod.Wu hq
  refine wpAny_Raise_call_subT (C:=C) (nm:=nm) (q:=q) (N:=N) (bs:=bs) (bm:=tl) (hdct:=hdct) (sn:=sn) (sub:=sub) (ab:=ab) (col:=col) (dd:=dd) (k0:=k0) (k1:=k1) (k2:=k2) (k3:=k3) (k5:=k5)
   FB (mN:=mN) (T.hasType FB.hasBase) (I.ok.hd hc) ar ls (Pb I hg hm ⟨rfl,?_⟩ aU)
  rw[he]
  have pa:=(Be a1 Cg he) ac pins s σ H (fun vs H1=>vs.length=1/\E (.ref C) none H1) I ?_
  ·rw[he] at pa
   refine Calls.evalArgs_plain (Bb pa fun vs s2 ⟨xs,H2,I2,r2,q2⟩=>⟨rfl,?_,I2.bk _ _ hC,hN.keeps I2.bk,T.keeps I2.bk,fun h' ea hx=>xo.made pins σ H2 s2 h' ea C _ I2 hx q2.2⟩)
   rw[<-r2.length,q2.1]
   exact yj (AF (by decide))
  ·exact h
 ·dsimp only at h
  refine a2 P0 P σ H _ ρ E ?_
  cases q:f ρ with
  |bad=>rw[q] at h;exact h
  |ex x=>rw[q] at h;exact fun H' s=>h H' P (E.tr s)
  |ok d =>
   rw[q] at h
   intro v H1 s1 hv
   obtain⟨c',h1,h2⟩:=h H1 P (E.tr s1)
   rw[i5] at h1
   cases h1
   exact⟨rfl,h2⟩
end
end L2
namespace L2
open PySem PySem.Spec PyProof.Rows
section
variable {X:Cx}{WX:Str->Hp->Prop}{c:Bool}{a b e:Expr}{f g:Ab->M D}{pos p:Pos}
def gB (K:za):R2:=fun x y H Q=>∃ l b xs zs,x=.ref l/\y=.ref b/\Dt K H l xs/\Dt K H b zs/\xs.length + zs.length<=sizeLine/\∀ p,H p=none->Q (.ref p) (upd H p (.lst (xs++zs)))
theorem ZO:Gn X (binaryOp .Add) (gB X.K):=by
 intro pins s σ H x y v u Q I rx ry h
 obtain⟨l,b,xs,zs,rfl,rfl,h1,h2,hz,q⟩:=h
 cases rx
 cases ry
 obtain⟨aa,r,⟨⟨c1,d1,t1,vM⟩,n,e1,q1,q2,q3⟩,bA⟩:=I.list h1
 obtain⟨ba,r2,⟨⟨c2,d2,t2,ix⟩,n2,e2,q4,q5,q6⟩,og⟩:=I.list h2
 dsimp only at q1 q2 q3 q4 q5 q6
 subst q1 q2 q3 q4 q5 q6
 have l1:=r.length
 have l2:=r2.length
 refine concat_meets ⟨_,e1,rfl⟩ ⟨_,e2,rfl⟩ noFill_list_add seq_list_add PySem.F.slot_list_add PySem.F.entry_list_add (PySem.F.args_list_add_2 _ _) (list_addW l b aa.toArray ba.toArray n n2 none none vM ix (by rw[zh,zh];omega)) ⟨e1,e2,?_⟩
 rw[show aa.toArray++ba.toArray=(aa++ba).toArray by simp]
 exact⟨.ref _,_,I.nS (t':=s.toks) (r.append r2) (by rw[zJ];omega),rfl,q _ I.fresh⟩
def uG (x y:D):M D:=match x,y with
 | .int i,.int j=>.ok (.int (i + j))
 | .lst ds,.lst es=>if ds.length + es.length<=1000 then .ok (.lst (ds++es)) else .bad
 |_,_=>.bad
theorem Ag.uH {K:za}{H:Hp}:∀ {xs ys:List V}{ds es:List D},Ag K H xs ds->Ag K H ys es->Ag K H (xs++ys) (ds++es)
 |_,_,_,_,.nil,h=>h
 |_,_,_,_,.cons a t,h=>.cons a (t.uH h)
def qA (neg:Bool) (x y:D):M D:=match x,y with
 | .int i,.lst ds=>(match CD ds with|some ns=>.ok (.bl (if neg then !ns.contains i else ns.contains i))|none=>.bad)
 |_,_=>.bad
theorem Xu (i:Int) (ns:List Int):pV (.int i) (ns.map V.int)=ns.contains i:=by
 unfold pV
 induction ns with
 |nil=>rfl
 |cons n r ih =>
  rw[zf,yX,ih,List.contains_cons]
  congr 1
  show (n == i)=(i == n)
  rw[yL,beq_iff_eq,beq_iff_eq]
  exact eq_comm
theorem VB (ns:List Int):(ns.map V.int).all IY=true:=by
 induction ns with
 |nil=>rfl
 |cons n r ih=>rw[zf,List.all_cons,ih];rfl
theorem Gz {neg:Bool}:Ua X.K WX (pW X.K neg) (qA neg):=by
 intro P H x y v w Q ht hx hy h
 unfold qA at h
 split at h
 ·rename_i i ds
  split at h
  ·rename_i ns hn
   cases hx
   cases hy with
   |lst h1 h2 =>
    have e:=Kr h2 hn
    subst e
    refine⟨_,_,rfl,.inl h1.Bm,rfl,VB ns,?_⟩
    rw[Xu]
    exact h _ H (Ad.refl H) (.bl _)
  ·exact h.elim
 ·exact h.elim
end
structure ClsAt (K:za) (mg:Str->Option Value) (x:Str):Prop where
 ex:∃ C,zD K mainGlobals x=some (some (.ref C))/\mg x=some (.ref C)/\PySem.W.excIn K C [.type "ValueError",.type "Exception",.type "BaseException",.type "object"] "ValueError.__new__" = true
def one (x:Str) (b:Bool):Str->Option Bool:=fun y=>if y=x then some b else none
section
variable {X:Cx}{E:XK}{WX:Str->Hp->Prop}{c:Bool}{e:Expr}{f:Ab->M D}{pos p:Pos}
theorem Ks {x:Str}{np ac:Pos}(T:ClsAt X.K X.mg x) (xo:pZ X E) (hc:X.calm=true) (hg:Gl X x) (ha:DE X (D2 X.K E) c e f) (aU:(x == ("__debug__" : Str))=false:=by decide) (he:starEach [e] X.env=[(false,eval e X.env)]:=by rfl) (ar:(backTo ac (starEach [e] X.env)).any (·.1)=false:=by rfl) :
 DS X (D2 X.K E) (.Raise (some (.Call (.Name x np) [e] [] ac)) none pos) (fun ρ=>(f ρ).bind fun _=>.ex x):=by
 obtain⟨C,h1,h2,h3⟩:=T.ex
 exact Xt xo hc PySem.F.excBase_ValueError h1 h3 hg h2 ha aU he ar
end
end L2
namespace L2
open PySem PySem.Spec PyProof.Rows
def QY (i j:Int):Prop:=(i.natAbs < 2 ^ 1000/\j.natAbs < 2 ^ 1000)\/WQ i j
instance (i j:Int):Decidable (QY i j):=by unfold QY;infer_instance
theorem Ox {i:Int}(h:i.natAbs < 2 ^ 1000):zV i<=2 ^ 20:=by
 unfold zV
 split
 ·exact zP _
 ·rename_i z
  have h0:i.natAbs≠0:=fun q=>z (by rw[Int.natAbs_eq_zero.mp q];rfl)
  have:=(Nat.log2_lt h0).mpr h
  have h3:(1000:Nat)<=2 ^ 20:=by decide
  exact yo this h3
theorem QY.ok {i j:Int}(h:QY i j):IntMulOk i j:=by
 rcases h with ⟨h1,h2⟩|h
 ·exact IntMulOk.of_bits (Ox h1) (Ox h2)
 ·exact h.ok
theorem Ja {gt:D->Ab->M Ab}{ft:Ab->M Bool}{fe:Ab->M D}{ρ:Ab}(p:D->Bool) (f:D->D):∀(ds:List D),(∀ d∈ds,∃ ρ1,gt d ρ=.ok ρ1/\ft ρ1=.ok (p d)/\(p d=true->fe ρ1=.ok (f d)))->B6 gt ft fe ds ρ=.ok ((ds.filter p).map f)
 |[],_=>rfl
 |d::r,h=>by
  obtain⟨ρ1,h1,h2,h3⟩:=h d zd
  have ih:=Ja p f r fun d hd=>h d (ze _ hd)
  rw[B6,h1]
  dsimp only
  rw[h2]
  dsimp only
  by_cases hp:p d=true
  ·rw[if_pos hp,h3 hp]
   dsimp only
   rw[ih,List.filter_cons_of_pos hp]
   rfl
  ·rw[if_neg hp,ih,List.filter_cons_of_neg hp]
theorem Mz (n:Nat):Cj 0 n=(yz n).map fun i:Nat=>D.int (i:Int):=by
 apply List.ext_getElem?
 intro i
 rw[zF]
 by_cases h:i < n
 ·have hi:i < (Cj 0 n).length:=by rw[Bc];exact h
  have e:=zq hi
  obtain⟨h1,_⟩:=BK e
  rw[e,h1,List.getElem?_range h,Int.zero_add]
  rfl
 ·rw[yG (by rw[Bc];omega),yG (by simp;omega)]
  rfl
theorem DK (ns:List Int):CD (ns.map D.int)=some ns:=by
 induction ns with
 |nil=>rfl
 |cons n r ih=>rw[zf,CD,ih];rfl
theorem Xv (ds:List D) (n:Nat):mF (some (n:Int)) none (.lst ds)=.ok (.lst (ds.drop n)):=by
 unfold mF
 dsimp only
 rw[HT.X0,HT.Pf]
 congr 2
 by_cases h:n<=ds.length
 ·rw[Nat.min_eq_left h,List.take_of_length_le (by rw[List.length_drop];exact zx _)]
 ·rw[Nat.min_eq_right (by omega),List.drop_of_length_le (zx _),List.drop_of_length_le (by omega),List.take_nil]
end L2
namespace L2
open PySem PySem.Spec PyProof.Rows
def Pl (n:Nat) (d:D):Prop:=IT d<=n/\AH d=true
theorem Pr {n:Nat}:∀ {ds:List D},(∀ d∈ds,IT d<=n)->Ln ds<=n
 |[],_=>by rw[Ln];exact zP _
 |d::r,h=>by
  rw[Ln]
  exact Nat.max_le.mpr ⟨h d zd,Pr fun d hd=>h d (ze _ hd)⟩
theorem Pt:∀ {ds:List D},(∀ d∈ds,AH d=true)->Ms ds=true
 |[],_=>by rw[Ms]
 |d::r,h=>by
  rw[Ms,h d zd,Pt fun d hd=>h d (ze _ hd)]
  rfl
theorem IA {n:Nat}(i:Int):Pl n (.int i):=⟨by rw[IT];exact zP _;all_goals simp,by rw[AH];all_goals simp⟩
theorem jZ {n:Nat}:Pl n .Az:=⟨by rw[IT];exact zP _;all_goals simp,by rw[AH];all_goals simp⟩
theorem kA {n:Nat}{ds:List D}(h:∀ d∈ds,Pl n d):Pl (n + 1) (.tup ds) :=
 ⟨by rw[IT];exact Nat.succ_le_succ (Pr fun d hd=>(h d hd).1),by rw[AH];exact Pt fun d hd=>(h d hd).2⟩
theorem Xw {n:Nat}{ds:List D}(h:∀ d∈ds,Pl n d):Pl (n + 1) (.lst ds) :=
 ⟨by rw[IT];exact Nat.succ_le_succ (Pr fun d hd=>(h d hd).1),by rw[AH];exact Pt fun d hd=>(h d hd).2⟩
theorem Ul {n:Nat}(ns:List Int):Pl (n + 1) (.lst (ns.map D.int)):=Xw fun d hd=>by
 obtain⟨i,_,rfl⟩:=zA.mp hd
 exact IA i
theorem Pl.le {n m:Nat}{d:D}(h:Pl n d) (k:n<=m):Pl m d:=⟨yo h.1 k,h.2⟩
theorem kB {n:Nat}:∀ d∈([]:List D),Pl n d:=fun d h=>by cases h
theorem Um {n:Nat}{d:D}{ds:List D}(h:Pl n d) (t:∀ d∈ds,Pl n d):∀ e∈d::ds,Pl n e:=fun e he=>by
 rcases zo.mp he with rfl|he
 ·exact h
 ·exact t e he
theorem SQ {n:Nat}{x y:D}(h:Pl n x) (k:Pl n y):ZF n x y=.ok (.bl (Av x y)):=by
 unfold ZF
 rw[if_pos ⟨h.1,h.2,k.2⟩]
theorem SR {n:Nat}{x y:D}(h:Pl n x) (k:Pl n y):ZG n x y=.ok (.bl (!Av x y)):=by
 unfold ZG
 rw[if_pos ⟨h.1,h.2,k.2⟩]
theorem QZ {n:Nat}{x:D}(h:Pl n x):ZG n x x=.ok (.bl false):=by rw[SR h h,J3];rfl
theorem Oy {gt:D->Ab->M Ab}{ft:Ab->M Bool}{fe:Ab->M D}{ρ:Ab}(f:D->D) (ds:List D) (h:∀ d∈ds,∃ ρ1,gt d ρ=.ok ρ1/\ft ρ1=.ok true/\fe ρ1=.ok (f d)):B6 gt ft fe ds ρ=.ok (ds.map f):=by
 rw[Ja (fun _=>true) f ds fun d hd=>by
  obtain⟨ρ1,h1,h2,h3⟩:=h d hd
  exact⟨ρ1,h1,h2,fun _=>h3⟩]
 rw[List.filter_eq_self.mpr fun _ _=>rfl]
theorem ZP (ds:List D) (a b:Nat):mF (some (a:Int)) (some (b:Int)) (.lst ds)=.ok (.lst ((ds.drop a).take (b - a))):=by
 unfold mF
 dsimp only
 rw[HT.Pf,HT.Pf]
 congr 2
 by_cases h:a<=ds.length
 ·rw[Nat.min_eq_left h]
  by_cases h2:b<=ds.length
  ·rw[Nat.min_eq_left h2]
  ·rw[Nat.min_eq_right (by omega),List.take_of_length_le (by rw[List.length_drop];exact zx _),List.take_of_length_le (by rw[List.length_drop];omega)]
 ·rw[Nat.min_eq_right (show ds.length<=a by omega),List.drop_of_length_le (zx _),List.drop_of_length_le (show ds.length<=a by omega),List.take_nil,List.take_nil]
end L2
namespace L2
open PySem PySem.Spec PyProof.Rows
section
variable {X:Cx}{WX:Str->Hp->Prop}{c:Bool}{P0:Ew}{P:Addr->Prop}{H:Hp}{σ:St}{ρ:Ab}{a b e:Expr}{f g:Ab->M D}{ft gt:Ab->M Bool}{pos:Pos}{st:Stmt}{rest:List Stmt}{g1 g2:Ab->M Out}
theorem R1 {K:za}{H:Hp}{v:V}{d:D}(h:BH K H v d):∀ n:Nat,Ag K H (zt n v) (zt n d)
 |0=>.nil
 |n + 1=>by rw[y6,y6];exact .cons h (R1 h n)
theorem MA {K:za}{H:Hp}{v:V}{d:D}(h:BH K H v d):∀ {vs:List V}{ds:List D}(n:Nat),Ag K H vs ds->Ag K H (vs.set n v) (ds.set n d)
 |_,_,_,.nil=>.nil
 |_,_,0,.cons _ t=>.cons h t
 |_,_,n + 1,.cons a t=>.cons a (MA h n t)
def vN (i:Nat) (ρ:Ab) (d k:D):M Out:=match k with
 | .int j=>if 0<=j/\j.toNat<=1000 then .ok (.next (ρ.set i (some (.own (zt j.toNat d))))) else .bad
 |_=>.bad
theorem Oz {α:Type}(v:α):∀ n:Nat,(zt n [v]).flatten=zt n v
 |0=>rfl
 |n + 1=>by rw[y6,List.flatten_cons,Oz v n];rfl
def kC (i:Nat) (ρ:Ab) (ds:List D) (d k:D):M Out:=match k with
 | .int j=>(match Og ds.length j with|some n=>.ok (.next (ρ.set i (some (.own (ds.set n d)))))|none=>.bad)
 |_=>.bad
def ZQ (i:Nat) (ρ:Ab) (m:M D) (d:D):M Out:=match ρ[i]? with
 |some (some (.own ds))=>m.bind (kC i ρ ds d)
 |_=>.bad
theorem Kt (i:Nat){x:Str}{p1 ay:Pos}(hv:PE X (.Name x p1) (Li i)) (ha:DE X WX true a f) (hk:DE X WX true b g)
 (hs:swapsWithSole [.Subscript (.Name x p1) b ay] a pos.line X.env=pure false:=by rfl) (hw:swappedStores [.Subscript (.Name x p1) b ay] a X.env=pure none:=by rfl) (h1:(assignEach [.Subscript (.Name x p1) b ay] X.env).map (·.2)=[assign (.Subscript (.Name x p1) b ay) X.env]:=by rfl)
 (f9:∀ v,assign (.Subscript (.Name x p1) b ay) X.env v=(do
  let ov <-holding [v] (eval (.Name x p1) X.env)
  let iv <-holding [v,ov] (eval b X.env)
  standAt ay
  holding [v,ov,iv] (setItem ov iv v)
  release [v,ov,iv] []):=by intro _;rfl) :
 DS X WX (.Assign [.Subscript (.Name x p1) b ay] a pos) (fun ρ=>(f ρ).bind (ZQ i ρ (g ρ))):=by
 obtain⟨ta,a1,a2⟩:=ha
 obtain⟨tb,b1,b2⟩:=hk
 refine⟨_,WI a1 (WH hv b1 set_list f9) hs hw h1,fun P0 P σ H Z ρ E h=>?_⟩
 dsimp only at h
 refine a2 P0 P σ H _ ρ E ?_
 cases q:f ρ with
 |bad=>rw[q] at h;exact h
 |ex x=>rw[q] at h;exact fun H' s=>h H' P (E.tr s)
 |ok d =>
  rw[q] at h
  simp only[M.A7] at h
  intro v H1 s1 hv
  have E1:=E.same s1
  unfold ZQ at h
  split at h
  ·rename_i ds e1
   obtain⟨p,xs,h1,h2,h3,h4,h5⟩:=E1.own i ds e1
   refine⟨_,h1,b2 P0 P σ H1 _ ρ E1 ?_⟩
   cases q2:g ρ with
   |bad=>rw[q2] at h;exact h.elim
   |ex x=>rw[q2] at h;exact fun H' s2=>h H' P ((E.tr s1).trans (E1.tr s2))
   |ok k =>
    rw[q2] at h
    simp only[M.A7] at h
    unfold kC at h
    intro w H2 s2 hw
    split at h
    ·rename_i j
     cases hw
     split at h
     ·rename_i n en
      have E2:=E1.same s2
      refine⟨p,xs,j,n,rfl,rfl,s2 _ _ h2,by rw[h5.length];exact en,?_⟩
      obtain⟨E3,t3⟩:=E2.mut e1 h1 h3 h4 (MA (hv.mono s2.del) n (h5.mono s2.del))
      exact h _ _ _ ((E.tr s1).trans ((E1.tr s2).trans t3)) E3
     ·exact h.elim
    ·exact h.elim
  ·exact h.elim
def Ax (c:Ab->M Bool) (b:Ab->M Out):Nat->Ab->M Out
 |0,_=>.bad
 |n + 1,ρ=>match c ρ with
  | .ok true=>(match b ρ with
   | .ok (.next ρ')=>Ax c b n ρ'
   | .ok (.cont ρ')=>Ax c b n ρ'
   | .ok (.brk ρ')=>.ok (.next ρ')
   |r=>r)
  | .ok false=>.ok (.next ρ)
  | .ex x=>.ex x
  | .bad=>.bad
noncomputable def L4 (c:Ab->M Bool) (b:Ab->M Out) (ρ:Ab):M Out :=
 @dite _ (∃ n,Ax c b n ρ≠.bad) (Classical.propDecidable _) (fun h=>Ax c b (zi h) ρ) (fun _=>.bad)
theorem CF {c:Ab->M Bool}{b:Ab->M Out}:∀ {n:Nat}{ρ:Ab},Ax c b n ρ≠.bad->∀ m,Ax c b (n + m) ρ=Ax c b n ρ
 |0,ρ,h,m=>(h rfl).elim
 |n + 1,ρ,h,m=>by
  rw[show n + 1 + m=(n + m) + 1 by omega]
  rw[Ax] at h
  rw[Ax,Ax]
  cases q:c ρ with
  |bad=>rfl
  |ex x=>rfl
  |ok k =>
   rw[q] at h
   cases k with
   |false=>rfl
   |true =>
    dsimp only at h ⊢
    cases q2:b ρ with
    |bad=>rfl
    |ex x=>rfl
    |ok o =>
     rw[q2] at h
     cases o with
     |next ρ'=>dsimp only at h ⊢;exact CF h m
     |cont ρ'=>dsimp only at h ⊢;exact CF h m
     |brk ρ'=>rfl
     |ret d=>rfl
     |CI d=>rfl
     |F8 d ρ2=>rfl
theorem Xx {c:Ab->M Bool}{b:Ab->M Out}{n:Nat}{ρ:Ab}(h:Ax c b n ρ≠.bad):L4 c b ρ=Ax c b n ρ:=by
 unfold L4
 have hx:∃ n,Ax c b n ρ≠.bad:=⟨n,h⟩
 rw[dif_pos hx]
 have hc:=zb hx
 have e1:=CF h (zi hx)
 have e2:=CF hc n
 rw[Nat.add_comm] at e2
 rw[<-e1,e2]
theorem VC {c:Ab->M Bool}{b:Ab->M Out}{ρ:Ab}(h:L4 c b ρ≠.bad):∃ n,Ax c b n ρ≠.bad/\L4 c b ρ=Ax c b n ρ:=by
 by_cases hx:∃ n,Ax c b n ρ≠.bad
 ·obtain⟨n,hn⟩:=hx
  exact⟨n,hn,Xx hn⟩
 ·exact (h (by unfold L4;rw[dif_neg hx])).elim
theorem gC {K:za}{Z:Ends}{m:M Out}(h:gS K WX P0 P H Z m):m≠.bad:=fun e=>by rw[e] at h;exact h
theorem R3 {body:List Stmt}(hp:PassesOwn (model X.prog X.w) X.A X.env X.xe) (hc:DT X WX a ft) (hb:Sf X WX body g1):DS X WX (.While a body [] pos) (L4 ft g1):=by
 obtain⟨tc,c1,c2⟩:=hc
 obtain⟨tb,b1,b2⟩:=hb
 refine⟨_,WJ hp c1 b1,fun P0 P σ H Z ρ E h=>?_⟩
 obtain⟨n,hn,en⟩:=VC (gC h)
 rw[en] at h
 refine⟨fun m σ' H'=>∃ ρ' P',An X.K P0 P' H' σ' ρ'/\Tr P0 P H P' H'/\gS X.K WX P0 P' H' Z (Ax ft g1 m ρ'),⟨n,ρ,P,E,Tr.refl,h⟩,?_⟩
 rintro m σ1 H1 ⟨ρ1,P1,E1,t1,h1⟩
 cases m with
 |zero=>exact h1.elim
 |succ m =>
  rw[Ax] at h1
  refine c2 P0 P1 σ1 H1 _ ρ1 E1 ?_
  cases q:ft ρ1 with
  |bad=>rw[q] at h1;exact h1
  |ex x=>rw[q] at h1;exact fun H2 s2=>h1 H2 P1 (E1.tr s2)
  |ok k =>
   rw[q] at h1
   intro H2 s2
   have E2:=E1.same s2
   cases k with
   |false =>
    rw[if_neg (by simp)]
    exact h1 σ1 H2 P1 (E1.tr s2) E2
   |true =>
    rw[if_pos rfl]
    dsimp only at h1
    refine⟨fun σ' H'=>∃ ρ' P',An X.K P0 P' H' σ' ρ'/\Tr P0 P H P' H'/\gS X.K WX P0 P' H' Z (Ax ft g1 m ρ'),fun σ' H' z=>⟨m,Nat.lt_succ_self m,z⟩,?_⟩
    refine b2 P0 P1 σ1 H2 _ ρ1 E2 ?_
    cases q2:g1 ρ1 with
    |bad=>rw[q2] at h1;exact h1
    |ex x=>rw[q2] at h1;exact fun H3 P3 t3=>h1 H3 P3 ((E1.tr s2).trans t3)
    |ok o =>
     rw[q2] at h1
     have t2:=t1.trans (E1.tr s2)
     cases o with
     |next ρ'=>exact fun σ3 H3 P3 t3 E3=>⟨ρ',P3,E3,t2.trans t3,h1.tr ((E1.tr s2).trans t3)⟩
     |cont ρ'=>exact fun σ3 H3 P3 t3 E3=>⟨ρ',P3,E3,t2.trans t3,h1.tr ((E1.tr s2).trans t3)⟩
     |brk ρ'=>exact fun σ3 H3 P3 t3 E3=>h1 σ3 H3 P3 ((E1.tr s2).trans t3) E3
     |ret d=>exact fun v H3 P3 t3 hv=>h1 v H3 P3 ((E1.tr s2).trans t3) hv
     |CI d=>exact fun v fp H3 P3 t3=>h1 v fp H3 P3 ((E1.tr s2).trans t3)
     |F8 d ρ2=>exact fun v fp σ3 H3 P3 t3=>h1 v fp σ3 H3 P3 ((E1.tr s2).trans t3)
def Uo (ds:List D):M D:=match ds with
 |[.int i]=>.ok (.int i)
 |[.bl b]=>.ok (.int (if b then 1 else 0))
 |_=>.bad
theorem ZR:L1 X.K WX (fun xs H Q=>(∃ i,xs=[.int i]/\Q (.int i) H)\/∃ k,xs=[.bl k]/\Q (.int (if k then 1 else 0)) H) Uo:=by
 intro P H ds vs Q ht hl h
 unfold Uo at h
 split at h
 ·obtain⟨v,rfl,hv⟩:=hl.one
  cases hv
  exact .inl ⟨_,rfl,h _ H (Ad.refl H) (.int _)⟩
 ·obtain⟨v,rfl,hv⟩:=hl.one
  cases hv
  exact .inr ⟨_,rfl,h _ H (Ad.refl H) (.int _)⟩
 ·exact h.elim
theorem ZS {p:Pos}(hg:Gl X "int") (hm:X.mg "int" = none) (ha:DE X WX c e f) (hb:bootBuiltins "int" = some (.type "int"):=by decide +kernel) (hs:starEach [e] X.env=[(false,eval e X.env)]:=by rfl):DE X WX c (.Call (.Name "int" p) [e] [] pos) (fun ρ=>((f ρ).bind fun d=>(M.ok []).bind fun ds=>.ok (d::ds)).bind Uo) :=
 Ot Vg ZR hg hm hb (A2 ha A8 hs) (he:=hs)
def GA:List D->Option (List Bool)
 |[]=>some []
 | .bl b::r=>(GA r).map (b::·)
 |_=>none
theorem MB (bs:List Bool):GA (bs.map D.bl)=some bs:=by
 induction bs with
 |nil=>rfl
 |cons b r ih=>rw[zf,GA,ih];rfl
theorem MC:∀ {ds:List D}{bs:List Bool},GA ds=some bs->ds=bs.map D.bl
 |[],bs,h=>by cases h;rfl
 | .bl b::r,bs,h=>by
  rw[GA] at h
  cases q:GA r with
  |none=>rw[q] at h;cases h
  |some vP=>rw[q] at h;cases h;rw[MC q];rfl
 | .Az::r,bs,h=>by cases h
 | .int _::r,bs,h=>by cases h
 | .str _::r,bs,h=>by cases h
 | .tup _::r,bs,h=>by cases h
 | .lst _::r,bs,h=>by cases h
 | .DH _::r,bs,h=>by cases h
 | .Bg _ _ _::r,bs,h=>by cases h
 | .ins _ _ _::r,bs,h=>by cases h
theorem MD {K:za}{H:Hp}:∀ {vs:List V}{bs:List Bool},Ag K H vs (bs.map D.bl)->vs=bs.map V.bl
 |_,[],.nil=>rfl
 |_,b::r,.cons h t=>by cases h;rw[MD t];rfl
theorem ME:∀ {bs:List Bool}{us:List Value},Vals (bs.map V.bl) us->LSm.BoolsAre us bs
 |[],_,.nil=>.nil
 |b::r,_,.cons h t=>by cases h;exact .cons b (ME t)
theorem MF (hc:X.calm=true):Gp X (.builtin "all") (fun xs H Q=>∃ p bs,xs=[.ref p]/\Dt X.K H p (List.map V.bl bs)/\Q (.bl (bs.all id)) H):=by
 intro pins s σ H xs us Q I r h
 obtain⟨p,bs,rfl,hq,q⟩:=h
 obtain⟨u,rfl,rx⟩:=vals1 r
 cases rx
 obtain⟨aa,r',pl,hz⟩:=I.list hq
 have hl:=pl.isList
 have hb:=ME r'
 have aj:p < s.heap.objs.size:=by obtain⟨_,e,_⟩:=hl;exact zu e
 refine call_all_walk (wpAny_pyIter_list hl ?_)
 refine⟨s.heap.objs.size,[s.heap.objs.size,p],[s.heap.objs.size],aa.toArray.size,_,_,fun i=>(bs[i]?).getD true,rfl,Walks.list (A:=X.A.in1) (I.ok.hd hc) _ p (zC aj) aa.toArray,
  ⟨⟨_,zG _ rfl,rfl,rfl⟩,hl.push _⟩,fun i v s' Q' E' hP hQ=>?_,fun h' tk hk=>?_⟩
 ·obtain⟨b,e,rfl⟩:=hb.get i v (by simpa using hP)
  simp only[e,Option.getD_some] at hQ
  exact wpAny_truthy_bool hQ
 ·have e:((yz aa.toArray.size).all fun i=>(bs[i]?).getD true)=bs.all id:=by
   rw[zh,hb.length];exact LSm.range_all bs
  rw[e]
  exact⟨.bl _,H,I.kept (t':=tk) (LSm.kept_iter hk),rfl,q⟩
def Xy (ds:List D):M D:=match ds with
 |[.lst xs]=>(match GA xs with|some bs=>.ok (.bl (bs.all id))|none=>.bad)
 |_=>.bad
theorem kD:L1 X.K WX (fun xs H Q=>∃ p bs,xs=[.ref p]/\Dt X.K H p (List.map V.bl bs)/\Q (.bl (bs.all id)) H) Xy:=by
 intro P H ds vs Q ht hl h
 unfold Xy at h
 split at h
 ·rename_i xs
  obtain⟨v,rfl,hv⟩:=hl.one
  split at h
  ·rename_i bs eb
   have:=MC eb
   subst this
   cases hv with
   |lst hs hh =>
    have:=MD hh
    subst this
    exact⟨_,bs,rfl,hs.Bm,h _ H (Ad.refl H) (.bl _)⟩
  ·exact h.elim
 ·exact h.elim
theorem SS {p:Pos}(hc:X.calm=true) (hg:Gl X "all") (hm:X.mg "all" = none) (ha:DE X WX c e f) (hb:bootBuiltins "all" = some (.builtin "all"):=by decide +kernel) (hs:starEach [e] X.env=[(false,eval e X.env)]:=by rfl):DE X WX c (.Call (.Name "all" p) [e] [] pos) (fun ρ=>((f ρ).bind fun d=>(M.ok []).bind fun ds=>.ok (d::ds)).bind Xy) :=
 Mw (MF hc) kD hg hm hb (A2 ha A8 hs) (he:=hs)
end
end L2
namespace L2
open PySem PySem.Spec PyProof.Rows
def Sm (n:Int):Prop:=zV n<=2 ^ 20
theorem Xz:∀ {ns:List Int},W.WData.weightAll (ns.map W.WData.int)<=2 ^ 20->∀ n∈ns,Sm n
 |m::r,h,n,hn=>by
  rw[zf,W.WData.weightAll,W.WData.weight] at h
  rcases zo.mp hn with rfl|hn
  ·unfold Sm zV
   omega
  ·exact Xz (by omega) n hn
theorem oP {ns:List Int}(h:W.WData.layableAll [W.WData.list (ns.map W.WData.int)]=true):∀ n∈ns,Sm n:=by
 unfold W.WData.layableAll at h
 rw[List.all_cons,zR] at h
 have h1:=h.1
 unfold W.WData.layable at h1
 rw[zR,decide_eq_true_eq,W.WData.weight] at h1
 exact Xz h1.2
end L2
namespace HT
open PySem PySem.W PyProof.Rows Spec Calls ub
theorem VD {l:OpenLaw}{n:Nat}{q:Program}{loose:List Str}{XP:(Str->Option Value)->Heap->Prop}{YP:World->Heap->Prop}{d:DefRec}
 (hn:l.most=some n) (jl:d.params.defaults=[])
 (run:∀(w:World) (s₀ s₁:Shared) (mg mb:Str->Option Value) (fa:Addr) (o:Obj) (pm cd doc:Value) (a:Addr) (vs:List Value) (ns:List Int),(∀ n∈ns,L2.Sm n)->
  Ground q loose [] XP w s₀ mg mb s₁.heap->YP w s₁.heap->s₁.heap.get? fa=some o->o.data=.func (docDef d.name d.params d.body d.scope pm cd doc)->s₁.heap.CodeRec cd d.name->mg d.name=some (.ref fa)->
  s₁.heap.get? a=some { cls:=.type "list",data:=.seq vs.toArray }->IntsAre vs ns->ns.length<=n->s₁.gens=#[]->
  codeAny (model l.prog w) callerA (.call (.ref fa) ⟨[.ref a],[]⟩) (fun r s'=>r=.ok (.ret (.bool true))/\OldK s₁.heap s'.heap/\s'.os=s₁.os/\AllBare s'.gens) s₁) :
 WalkO q loose XP YP l.row.toRowW d [] (fun f vs=>PySem.call f vs):=by
 intro w s₀ s₁ mg mb G Y fa o pm cd doc dV kV ho hd bw hD jm hg args vals as cL oh ga m8 xT
 obtain rfl:dV=.none:=Dflts.none hD jl
 obtain rfl:kV=.none:=Dflts.noKw hD
 obtain⟨a,vs,ns,rfl,rfl,gc,c8,hlen⟩:=Vp hn cL m8
 refine enter_call (codeAny_mono (run w s₀ s₁ mg mb fa o pm cd doc a vs ns (L2.oP oh) G Y ho (fd_plain hd) bw jm gc c8 hlen hg) fun r s' hq=>?_)
 obtain⟨rfl,h2,h3,h4⟩:=hq
 exact⟨.inl ⟨.bool true,.bool true,[],rfl,fun _=>rfl,.bool true,Vq l _,fun _=>⟨List.Pairwise.nil,fun _ hm=>(nomatch hm)⟩⟩,h2,h3,h4⟩
end HT
namespace L2
open PySem PySem.Spec PyProof.Rows
theorem ZT {l:PySem.W.OpenLaw}{n k:Nat}{q:Program}{loose:List Str}{XP:(Str->Option Value)->Heap->Prop}{YP:World->Heap->Prop}{d:DefRec}{K:Params->za}{CX:World->Vk}{sp:World->Sp}{x:Str}
 (hn:l.most=some n) (aR:n<=sizeLine) (jl:d.params.defaults=[]) (hr:BI k callerA) (hY:∀(w:World) (h:Heap),YP w h->(K w.params).In h)
 (F:∀(w:World) (mg:Str->Option Value) (fa:Addr) (h:Heap),(K w.params).In h->h.Ns mainGlobals mg->mg d.name=some (.ref fa)->∃ fd:FuncData,(∀(s:Shared) (u:Value),BindsTo s fd ⟨[u],[]⟩ [(x,u)]) /\
  ∀ base:Heap,(K w.params).In base->base.Ns mainGlobals mg->Dv l.prog w (K w.params) mg base (CX w) k fa fd [x] (sp w))
 (ck:∀(w:World) (H:Hp) (a:Addr) (ns:List Int),(∀ n∈ns,Sm n)->ns.length<=n->jM H->Dt (K w.params) H a (ns.map V.int)->sp w [.ref a] H (fun v _=>v=.bl true) fun _ _ _=>False)
 (na:∀(w:World) (H:Hp) (s:Shared) (e:Value) (s':Shared),CX w [] H s (fun _ _ _=>False) e s'->False):PySem.W.WalkO q loose XP YP l.row.toRowW d [] (fun f vs=>PySem.call f vs):=by
 refine HT.VD hn jl fun w s₀ s₁ mg mb fa o pm cd doc a vs ns bQ G Y ho hd bw jm gc c8 hlen hg=>?_
 have KX:=hY w _ Y
 obtain⟨fd,hb,hF⟩:=F w mg fa _ KX G.T.g jm
 exact X7 KX G.T.g G.T.b G.T.builtins G.T.nolimit hg gc c8 (yo hlen aR) hr hF hb (fun H hO hS=>ck w H a ns bQ hlen hO hS) fun H e s'=>na w H s₁ e s'
theorem ZU {F:List D->M D}(h:∀ ns:List Int,ns.length<=63->(∀ n∈ns,Sm n)->F [.lst (ns.map D.int)]=.ok (.bl true)) (K:za) (H:Hp) (a:Addr) (ns:List Int) (bQ:∀ n∈ns,Sm n) (hl:ns.length<=63) (hS:Dt K H a (ns.map V.int)):SN K 1 F [.ref a] H (fun v _=>v=.bl true) fun _ _ _=>False:=by
 refine⟨rfl,fun _=>False,[.lst (ns.map D.int)],fun _ z=>z.elim,.cons (.lst ?_ (Ag.ints ns)) .nil,?_⟩
 ·have e:del H (fun _=>False)=H:=by funext b;exact Aw (fun z=>z)
  rw[e];exact hS
 ·rw[h ns hl bQ]
  exact fun v H' s hv=>hv.Mu
def OA (i j:Int):Prop:=(zV i<=2 ^ 20 + 1/\zV j<=2 ^ 10)\/QY i j
theorem VE {a b:Int}(h:zV a + zV b<=2 ^ 21):IntMulOk a b:=by
 have e:(2:Nat) ^ 21=2097152:=by decide
 have h2:Builtin.Int.intTooBig (zV a + zV b)=false:=by
  unfold Builtin.Int.intTooBig bitsLine
  exact decide_eq_false (by omega)
 unfold IntMulOk
 rw[h2]
 simp
theorem OA.ok {i j:Int}(h:OA i j):IntMulOk i j:=by
 rcases h with ⟨h1,h2⟩|h
 ·exact VE (by omega)
 ·exact h.ok
theorem ZV {X:Cx}:Gn X (binaryOp .Mult) (rI OA fun i j=>.int (i * j)):=pU fun _ _ _ _ _ _ _ hc q=>mul_int q hc.ok
noncomputable instance (i j:Int):Decidable (OA i j):=Classical.propDecidable _
noncomputable def I0:=Bu fun i j=>if OA i j then .ok (.int (i * j)) else .bad
theorem E7 {i j:Int}(h:OA i j):I0 (.int i) (.int j)=.ok (.int (i * j)):=by
 unfold I0 Bu
 dsimp only
 rw[if_pos h]
theorem Fv {X:Cx}{WX:Str->Hp->Prop}{c:Bool}{a b:Expr}{f g:Ab->M D}{pos:Pos}(ha:DE X WX c a f) (hb:DE X WX c b g):DE X WX c (.BinOp a .Mult b pos) (fun ρ=>(f ρ).bind fun x=>(g ρ).bind fun y=>I0 x y):=Oo ZV (Pq fun _ _ _ _=>.int _) ha hb
theorem bits_le {n:Int}{k:Nat}(h:n.natAbs < 2 ^ k):zV n<=k:=by
 unfold zV
 split
 ·exact zP _
 ·rename_i hn
  have hp:n.natAbs≠0:=by simpa using hn
  exact (Nat.log2_lt hp).mpr h
theorem VF {c x:Int}(h:Sm c) (hx:x.natAbs < 2 ^ 20):zV (c + x)<=2 ^ 20 + 1:=by
 refine bits_le ?_
 have h1:=natAbs_lt_pow_bits c
 have h2:(2:Nat) ^ zV c<=2 ^ (2 ^ 20):=Nat.pow_le_pow_right (by omega) h
 have h3:(2:Nat) ^ 20<=2 ^ (2 ^ 20):=Nat.pow_le_pow_right (by omega) (by omega)
 have h4:(c + x).natAbs<=c.natAbs + x.natAbs:=Int.natAbs_add_le c x
 rw[Nat.pow_succ]
 omega
end L2
namespace L2
open PySem PySem.Spec PyProof.Rows
mutual
def Jb:D->Bool
 | .tup a=>Jc a
 | .lst _=>false
 | .DH _=>false
 | .Bg _ _ _=>false
 | .ins _ _ _=>false
 |_=>true
def Jc:List D->Bool
 |[]=>true
 |a::r=>Jb a && Jc r
end
theorem Up {H:Hp}{P0 P:Addr->Prop}{a:Addr}{xs:List V}(ht:∀ a,P a->Dn H a) (h:del H P0 a=some (.tup xs)):del H P a=some (.tup xs):=by
 obtain⟨h1,h2⟩:=Al h
 rw[Aw fun z=>by
  obtain⟨o',q,r⟩:=ht a z
  rw[h2] at q;cases q
  exact (r xs).1 rfl]
 exact h2
mutual
theorem BH.Jb {K:za}{H:Hp}{P0 P:Addr->Prop}(ht:∀ a,P a->Dn H a):∀ {v:V}{d:D},Jb d=true->BH K (del H P0) v d->BH K (del H P) v d
 |_,_,_,.Az=>.Az
 |_,_,_,.bl b=>.bl b
 |_,_,_,.int i=>.int i
 |_,_,_,.str x=>.str x
 |_,_,n,.tup h r=>.tup (Up ht h) (Ag.Jb ht (by rw[L2.Jb] at n;exact n) r)
 |_,_,n,.lst h r=>by rw[L2.Jb] at n;cases n
 |_,_,n,.DH h r=>by rw[L2.Jb] at n;cases n
 |_,_,n,.Ip h r=>by rw[L2.Jb] at n;cases n
 |_,_,n,.Iq h r=>by rw[L2.Jb] at n;cases n
 |_,_,n,.ins _ h r=>by rw[L2.Jb] at n;cases n
theorem Ag.Jb {K:za}{H:Hp}{P0 P:Addr->Prop}(ht:∀ a,P a->Dn H a):∀ {vs:List V}{ds:List D},Jc ds=true->Ag K (del H P0) vs ds->Ag K (del H P) vs ds
 |_,_,_,.nil=>.nil
 |_,_,n,.cons h t=>by
  rw[Jc,zR] at n
  exact .cons (BH.Jb ht n.1 h) (Ag.Jb ht n.2 t)
end
def dp (m:M D):M D:=m.bind fun d=>if Jb d=true then .ok d else .bad
theorem ZW {X:Cx}{WX:Str->Hp->Prop}{e:Expr}{f:Ab->M D}(h:DE X WX false e f):DE X WX true e (fun ρ=>dp (f ρ)):=by
 obtain⟨t,h1,h2⟩:=h
 refine⟨t,h1,fun P0 P σ H Q ρ E g=>h2 P0 P σ H Q ρ E ?_⟩
 unfold dp at g
 dsimp only at g
 cases e:f ρ with
 |ok d =>
  rw[e] at g
  simp only[M.A7] at g
  by_cases hf:Jb d=true
  ·rw[if_pos hf] at g
   exact fun v H' s hv=>g v H' s (hv.Jb (E.same s).Cn hf)
  ·rw[if_neg hf] at g;exact g.elim
 |ex x=>rw[e] at g;exact g
 |bad=>rw[e] at g;exact g
end L2
namespace L2
open PySem PySem.Spec PyProof.Rows
section
variable {α:Type}(lt:α->α->Prop)
def NH:List α->List α->Prop
 |y::ys,x::xs=>(lt y x/\ys.length=xs.length)\/(y=x/\NH ys xs)
 |_,_=>False
theorem NH.len:∀ {ys xs:List α},NH lt ys xs->ys.length=xs.length
 |y::ys,x::xs,h=>by
  rcases h with ⟨_,h⟩|⟨_,h⟩
  ·rw[zk,zk,h]
  ·rw[zk,zk,NH.len h]
 |[],[],h=>h.elim
 |[],_::_,h=>h.elim
 |_::_,[],h=>h.elim
theorem XA (n:Nat) (ih:∀ xs:List α,xs.length=n->Acc (NH lt) xs){x:α}(hx:Acc lt x):∀ {xs:List α},xs.length=n->Acc (NH lt) xs->Acc (NH lt) (x::xs):=by
 induction hx with
 |intro x _ vQ =>
  intro xs hl bZ
  induction bZ with
  |intro xs _ oj =>
   refine .intro _ fun zs h=>?_
   cases zs with
   |nil=>exact h.elim
   |cons y ys =>
    rcases h with ⟨h1,h2⟩|⟨h1,h2⟩
    ·exact vQ y h1 (h2.trans hl) (ih ys (h2.trans hl))
    ·subst h1
     exact oj ys h2 ((NH.len lt h2).trans hl)
theorem MG (h:∀ x,Acc lt x):∀(n:Nat) (xs:List α),xs.length=n->Acc (NH lt) xs
 |0,[],_=>.intro _ fun zs h=>by cases zs<;>exact h.elim
 |n + 1,x::xs,e=>XA lt n (MG h n) (h x) (by simpa using e) (MG h n xs (by simpa using e))
theorem Uq:∀ {xs:List α}{i:Nat}{y:α}{x:α},xs[i]? =some x->lt y x->NH lt (xs.set i y) xs
 |[],_,_,_,h,_=>by cases h
 |z::zs,0,y,x,h,hl=>by
  cases h
  exact .inl ⟨hl,rfl⟩
 |z::zs,i + 1,y,x,h,hl=>.inr ⟨rfl,Uq (by simpa using h) hl⟩
theorem NH.trans (ht:∀ a b c,lt a b->lt b c->lt a c):∀ {xs ys zs:List α},NH lt xs ys->NH lt ys zs->NH lt xs zs
 |x::xs,y::ys,z::zs,h1,h2=>by
  rcases h1 with ⟨a,b⟩|⟨rfl,b⟩
  ·rcases h2 with ⟨c,d⟩|⟨rfl,d⟩
   ·exact .inl ⟨ht _ _ _ a c,b.trans d⟩
   ·exact .inl ⟨a,b.trans (NH.len lt d)⟩
  ·rcases h2 with ⟨c,d⟩|⟨rfl,d⟩
   ·exact .inl ⟨c,(NH.len lt b).trans d⟩
   ·exact .inr ⟨rfl,NH.trans ht b d⟩
 |[],_,_,h,_=>by cases h
 |_::_,[],_,h,_=>by cases h
 |_::_,_::_,[],_,h=>by cases h
end
end L2
namespace L2
open PySem PySem.Spec PyProof.Rows
section
variable {X:Cx}{WX:Str->Hp->Prop}{c:Bool}{P0:Ew}{P:Addr->Prop}{H:Hp}{σ:St}{ρ:Ab}{a b e:Expr}{f g g2:Ab->M D}{pos:Pos}
theorem An.forget {K:za}(E:An K P0 P H σ ρ) (k:Nat):An K P0 P H σ (ρ.set k none):=by
 have key:∀(j:Nat) (cl:Cl),(ρ.set k none)[j]? =some (some cl)->k≠j/\ρ[j]? =some (some cl):=fun j cl h=>by
  rcases get_set h with ⟨_,_,z⟩|z
  ·cases z
  ·exact z
 exact⟨E.sub,E.Cn,fun j d h=>E.val j d (key j _ h).2,fun j d h io=>E.ows j d (key j _ h).2 io,fun i j c c' v v' fp ai h1 h2=>E.apart i j c c' v v' fp ai (key i _ h1).2 (key j _ h2).2,by rw[yl];exact E.len,fun j c n h hp=>E.pin j c n (key j _ h).2 hp⟩
theorem ZX (i:Nat){x:Str}{pos' cP:Pos}(hN:X.N.Nodup) (hi:X.N[i]? =some x) (hx:Loc X.env.scope x) (hs:swapsWith (.List [] cP) (some (.Name x pos')) pos.line X.env=pure false:=by rfl) (hf:X.fn x=true\/X.env.scope.names.lookup x=some .local:=by first | exact .inl rfl | exact .inr rfl | assumption) :
 DS X WX (.Assign [.Name x pos'] (.List [] cP) pos) (fun ρ=>.ok (.next (ρ.set i (some (.ow (.rows [])))))):=by
 refine⟨_,Sn hN hi hx (Pe Cg) hs hf,fun P0 P σ H Z ρ E h=>?_⟩
 refine⟨zP _,fun p hp=>?_⟩
 have nP:¬ P p:=fun z=>(E.Cn p z).no hp
 have sm:Ad (del H P) (del (upd H p (.lst [])) (fun a=>P a\/a=p)):=fun b o e=>by
  obtain⟨h1,h2⟩:=Al e
  have hb:b≠p:=Ay h2 hp
  rw[Aw (fun z=>z.elim h1 hb),Ah hb];exact h2
 refine h _ _ (fun a=>P a\/a=p) ⟨sm,fun a ha=>by rw[Ah (fun z=>nP (by rw[<-z];exact E.sub a ha))]⟩ (E.Vz (fp:=[p]) (fun a h=>.inl h) (fun a h=>?_) sm (fun j c' v' ai af h1 h2 h3 a ha=>?_) ⟨p,[],rfl,rfl,Ar,.nil⟩ (fun a ha=>?_) (by simp))
 ·by_cases ha:a=p
  ·subst ha;exact Dn.lst Ar
  ·rcases h with h|h
   ·unfold Dn;rw[Ah ha];exact E.Cn a h
   ·exact absurd h ha
 ·obtain⟨ys,q⟩:=h3.at a ha
  have hn:a≠p:=Ay q hp
  exact⟨Ah hn,fun z=>hn (zg.mp z)⟩
 ·rw[zg.mp ha]
  exact⟨.inr rfl,fun z=>nP (E.sub p z)⟩
theorem Bw.snoc {K:za}{H:Hp}{P:Addr->Prop}{q:Addr}{xs:List V}{ds:List D}(hq:H q=some (.lst xs)) (hx:Ag K (del H P) xs ds):∀ {ps:List Addr}{BZ:List (List D)},Bw K H P ps BZ->Bw K H P (ps++[q]) (BZ++[ds])
 |_,_,.nil=>.cons hq hx .nil
 |_,_,.cons h r t=>.cons h r (t.snoc hq hx)
def XB (i k:Nat) (ρ:Ab):M Out:=match ρ[i]?,ρ[k]? with
 |some (some (.ow (.rows BZ))),some (some (.own ds))=>if BZ.length < 1000/\i≠k then .ok (.next ((ρ.set k none).set i (some (.ow (.rows (BZ++[ds])))))) else .bad
 |_,_=>.bad
theorem ZY (i k:Nat){x y:Str}{p1 p2 apos ac:Pos}(hv:PE X (.Name x p1) (Li i)) (hw:PE X (.Name y p2) (Li k)) (hs:starEach [.Name y p2] X.env=[(false,eval (.Name y p2) X.env)]:=by rfl)
 (bj:swapsWith (.Call (.Attribute (.Name x p1) "append" apos) [.Name y p2] [] ac) none pos.line X.env=pure false:=by rfl)
 (av:attributeBase (.Name x p1) "append" X.env (eval (.Name x p1) X.env)=eval (.Name x p1) X.env:=by rfl)
 (aV:((backTo ac (starEach [.Name y p2] X.env)).all (fun x => !x.1) && (backToKw ac (keywordEach [] X.env)).all (fun x=>x.1.isSome) && decide (([.Name y p2]:List Expr).length + ([]:List Keyword).length + (if ([]:List Keyword).isEmpty then 0 else 1) < 30))=true:=by rfl)
 (aw:(apos.endLine == ac.line)=true:=by rfl) (ar:(backTo ac (starEach [] X.env)).any (·.1)=false:=by rfl) :
 DS X WX (.Expr (.Call (.Attribute (.Name x p1) "append" apos) [.Name y p2] [] ac) pos) (XB i k):=by
 refine⟨_,Fo (QK y9 PySem.F.slot_list_append PySem.F.type_list_append Oh hv (Be hw Cg hs) av aV aw hs ar) bj,fun P0 P σ H Z ρ E h=>?_⟩
 unfold XB at h
 split at h
 ·rename_i BZ ds e1 e2
  by_cases hl:BZ.length < 1000/\i≠k
  ·rw[if_pos hl] at h
   obtain⟨v,fp,h1,o1,h4,nd⟩:=E.ows i _ e1 rfl
   obtain⟨w,fq,k1,o2,k4,_⟩:=E.ows k _ e2 rfl
   have oa:=o1
   have ob:=o2
   obtain⟨p,ps,rfl,rfl,h2,h3⟩:=o1
   obtain⟨q,xs,rfl,rfl,k2,k3⟩:=o2
   refine⟨_,h1,.inl ⟨rfl,_,.of h2⟩,⟨_,k1,p,_,_,rfl,rfl,h2,AF (by rw[zc,h3.length];exact yj hl.1),?_⟩⟩
   have pP:=h4 p zd
   have sd:del (upd H p (.lst (ps.map V.ref++[V.ref q]))) P=del H P:=by
    funext b
    by_cases hb:P b
    ·rw[CZ hb,CZ hb]
    ·rw[Aw hb,Aw hb,Ah (fun z=>hb (by rw[z];exact pP.1))]
   have sm:Ad (del H P) (del (upd H p (.lst (ps.map V.ref++[V.ref q]))) P):=by rw[sd];exact Ad.refl _
   have qn:q∉p::ps:=fun z=>E.apart i k _ _ _ _ _ _ e1 e2 h1 k1 oa ob hl.2 q z (zg.mpr rfl)
   have qp:q≠p:=fun z=>qn (by rw[z];exact zd)
   have key:=(E.forget k).Vz (P':=P) (H':=upd H p (.lst (ps.map V.ref++[V.ref q]))) (i:=i) (v:=.ref p) (c:=.ow (.rows (BZ++[ds]))) (fp:=p::(ps++[q])) (fun a h=>h) (fun a h=>?_) sm (fun j c' v' ai af g1 g2 g3 a ha=>?_)
    ⟨p,ps++[q],rfl,rfl,by rw[zL];exact Ar,?_⟩ (fun a ha=>?_) ?_
   ·rw[Kp h1] at key
    exact h _ _ _ ⟨sm,fun a h=>by rw[Ah (fun z=>pP.2 (by rw[<-z];exact h))]⟩ key
   ·by_cases ha:a=p
    ·subst ha;exact Dn.lst Ar
    ·unfold Dn;rw[Ah ha];exact E.Cn a h
   ·have hj:k≠j/\ρ[j]? =some (some c'):=by
     rcases get_set g1 with ⟨_,_,z⟩|z
     ·cases z
     ·exact z
    have n1:=E.apart j i _ _ _ _ _ _ hj.2 e1 g2 h1 g3 oa (zU af) a ha
    have n2:=E.apart j k _ _ _ _ _ _ hj.2 e2 g2 k1 g3 ob (zU hj.1) a ha
    have ap:a≠p:=fun z=>n1 (by rw[z];exact zd)
    refine⟨Ah ap,fun z=>?_⟩
    rcases zo.mp z with z|z
    ·exact ap z
    ·rcases zv.mp z with z|z
     ·exact n1 (ze _ z)
     ·exact n2 z
   ·refine Bw.snoc (xs:=xs) (by rw[Ah qp];exact k2) (by rw[sd];exact k3) (h3.move sm fun a ha=>Ah fun z=>?_)
    rw[yk] at nd
    exact nd.1 (by rw[<-z];exact ha)
   ·rcases zo.mp ha with rfl|ha
    ·exact pP
    ·rcases zv.mp ha with ha|ha
     ·exact h4 a (ze _ ha)
     ·exact k4 a ha
   ·rw[yk] at nd ⊢
    refine⟨fun z=>?_,?_⟩
    ·rcases zv.mp z with z|z
     ·exact nd.1 z
     ·exact qp (zg.mp z).symm
    ·rw[zH]
     refine⟨nd.2,by simp,fun x hx y hy z=>?_⟩
     rw[zg.mp hy] at z
     exact qn (ze _ (z▸hx))
  ·rw[if_neg hl] at h;exact h.elim
 ·exact h.elim
theorem XC {α:Type}{l:List α}{k:Int}{n:Nat}(h:Og l.length k=some n):QJ l k=l[n]? :=by
 unfold QJ
 rw[h]
 rfl
def rowAt (BZ:List (List D)) (ka:D):M (List D):=match ka with
 | .int j=>(match Og BZ.length j with|some n=>(match BZ[n]? with|some ds=>.ok ds|none=>.bad)|none=>.bad)
 |_=>.bad
theorem OB {BZ:List (List D)}{ka:D}{m:M (List D)}(h:rowAt BZ ka=m) (hb:m≠.bad):∃ j n ds,ka=.int j/\Og BZ.length j=some n/\BZ[n]? =some ds/\m=.ok ds:=by
 subst h
 unfold rowAt at hb ⊢
 split at hb
 ·rename_i j
  split at hb
  ·rename_i n en
   split at hb
   ·rename_i ds ed
    exact⟨j,n,ds,rfl,en,ed,by simp only[en,ed]⟩
   ·exact (hb rfl).elim
  ·exact (hb rfl).elim
 ·exact (hb rfl).elim
def ZZ (i:Nat) (ρ:Ab) (ma mb:M D):M D:=match ρ[i]? with
 |some (some (.ow (.rows BZ)))=>ma.bind fun ka=>(rowAt BZ ka).bind fun ds=>mb.bind fun kb=>ZH (.lst ds) kb
 |_=>.bad
theorem oQ {K:za}{P:Addr->Prop}{Q:VK}{m:M D}(h:gV K WX P H Q m):m≠.bad:=fun e=>by rw[e] at h;exact h
theorem Ur {α β:Type}{m:M α}{k:α->M β}(h:m.bind k≠.bad):m≠.bad:=fun e=>by rw[e] at h;exact h rfl
theorem SU (i:Nat){x:Str}{p1 p2:Pos}(hv:PE X (.Name x p1) (Li i)) (ha:DE X WX true a f) (hb:DE X WX true b g) (hs:Hg a:=by exact fun _ _=>rfl) (bh:Hg b:=by exact fun _ _=>rfl) :
 DE X WX true (.Subscript (.Subscript (.Name x p1) a p2) b pos) (fun ρ=>ZZ i ρ (f ρ) (g ρ)):=by
 obtain⟨ta,a1,a2⟩:=ha
 obtain⟨tb,b1,b2⟩:=hb
 refine⟨_,U4 Lx (U4 Lx hv a1 hs) b1 bh,fun P0 P σ H Q ρ E h=>?_⟩
 dsimp only at h
 unfold ZZ at h
 split at h
 ·rename_i BZ e1
  obtain⟨v,fp,h1,⟨p,ps,rfl,rfl,h2,h3⟩,h4,nd⟩:=E.ows i _ e1 rfl
  refine⟨_,h1,a2 P0 P σ H _ ρ E ?_⟩
  cases q:f ρ with
  |bad=>rw[q] at h;exact h
  |ex x=>rw[q] at h;exact h
  |ok ka =>
   rw[q] at h
   simp only[M.A7] at h
   intro w H1 s1 hw
   obtain⟨j,n,ds,rfl,en,ed,em⟩:=OB rfl (Ur (oQ h))
   rw[em] at h
   simp only[M.A7] at h
   cases hw
   obtain⟨r,xs,r1,r2,r3⟩:=h3.get ed
   have hl:Og (ps.map V.ref).length j=some n:=by rw[zc,h3.length];exact en
   refine⟨p,_,j,.ref r,rfl,rfl,.of (s1 _ _ h2),by rw[XC hl,zF,r1];rfl,?_⟩
   refine b2 P0 P σ H1 _ ρ (E.same s1) ?_
   cases q2:g ρ with
   |bad=>rw[q2] at h;exact h.elim
   |ex x=>rw[q2] at h;exact fun H' s'=>h H' (s1.trans s')
   |ok kb =>
    rw[q2] at h
    simp only[M.A7] at h
    intro u H2 s2 hu
    unfold ZH at h
    split at h
    ·rename_i bW;cases bW
    ·rename_i jg j' bW
     cases bW
     split at h
     ·rename_i d e
      cases hu
      obtain⟨z,k1,k2⟩:=(r3.mono (s1.trans s2).del).QJ e
      exact⟨r,xs,j',z,rfl,rfl,.of (s2 _ _ (s1 _ _ r2)),k1,h _ H2 (s1.trans s2) k2⟩
     ·exact h.elim
    ·exact h.elim
 ·exact h.elim
theorem Bw.set {K:za}{H H':Hp}{P:Addr->Prop}(sm:Ad (del H P) (del H' P)){r:Addr}{xs:List V}{ds:List D}(hr:H' r=some (.lst xs)) (hx:Ag K (del H' P) xs ds) (k:∀ a,a≠r->H' a=H a):∀ {ps:List Addr}{BZ:List (List D)}{n:Nat},ps.Nodup->ps[n]? =some r->Bw K H P ps BZ->Bw K H' P ps (BZ.set n ds)
 |_,_,_,_,e,.nil=>by simp at e
 |_,_,0,nd,e,.cons h1 h2 t=>by
  simp at e;subst e
  rw[yk] at nd
  exact .cons hr hx (t.move sm fun a ha=>k a fun z=>nd.1 (by rw[<-z];exact ha))
 |q::ps,d::BZ,n + 1,nd,e,.cons h1 h2 t=>by
  rw[yk] at nd
  have e':ps[n]? =some r:=by simpa using e
  refine .cons ((k q fun z=>nd.1 (by rw[z];exact zj e')).trans h1) (h2.mono sm) (t.set sm hr hx k nd.2 e')
def cQ (i:Nat) (ρ:Ab) (BZ:List (List D)) (d ka:D) (ds:List D) (kb:D):M Out:=match ka,kb with
 | .int j,.int l=>(match Og BZ.length j,Og ds.length l with|some n,some m=>.ok (.next (ρ.set i (some (.ow (.rows (BZ.set n (ds.set m d)))))))|_,_=>.bad)
 |_,_=>.bad
def Us (i:Nat) (ρ:Ab) (ma mb:M D) (d:D):M Out:=match ρ[i]? with
 |some (some (.ow (.rows BZ)))=>ma.bind fun ka=>(rowAt BZ ka).bind fun ds=>mb.bind fun kb=>cQ i ρ BZ d ka ds kb
 |_=>.bad
theorem cR (i:Nat){x:Str}{p1 p2 ay:Pos}(hv:PE X (.Name x p1) (Li i)) (he:DE X WX true e g2) (ha:DE X WX true a f) (hb:DE X WX true b g) (vR:Hg a:=by exact fun _ _=>rfl)
 (hs:swapsWithSole [.Subscript (.Subscript (.Name x p1) a p2) b ay] e pos.line X.env=pure false:=by rfl) (hw:swappedStores [.Subscript (.Subscript (.Name x p1) a p2) b ay] e X.env=pure none:=by rfl) (h1:(assignEach [.Subscript (.Subscript (.Name x p1) a p2) b ay] X.env).map (·.2)=[assign (.Subscript (.Subscript (.Name x p1) a p2) b ay) X.env]:=by rfl)
 (f9:∀ v,assign (.Subscript (.Subscript (.Name x p1) a p2) b ay) X.env v=(do
  let ov <-holding [v] (eval (.Subscript (.Name x p1) a p2) X.env)
  let iv <-holding [v,ov] (eval b X.env)
  standAt ay
  holding [v,ov,iv] (setItem ov iv v)
  release [v,ov,iv] []):=by intro _;rfl) :
 DS X WX (.Assign [.Subscript (.Subscript (.Name x p1) a p2) b ay] e pos) (fun ρ=>(g2 ρ).bind (Us i ρ (f ρ) (g ρ))):=by
 obtain⟨te,e1,e2⟩:=he
 obtain⟨ta,a1,a2⟩:=ha
 obtain⟨tb,b1,b2⟩:=hb
 refine⟨_,WI e1 (WH (U4 Lx hv a1 vR) b1 set_list f9) hs hw h1,fun P0 P σ H Z ρ E h=>?_⟩
 dsimp only at h
 refine e2 P0 P σ H _ ρ E ?_
 cases q0:g2 ρ with
 |bad=>rw[q0] at h;exact h
 |ex x=>rw[q0] at h;exact fun H' s=>h H' P (E.tr s)
 |ok d =>
  rw[q0] at h
  simp only[M.A7] at h
  intro v H0 s0 om
  have E0:=E.same s0
  unfold Us at h
  split at h
  ·rename_i BZ uk
   obtain⟨v',fp,h1,o1,h4,nd⟩:=E0.ows i _ uk rfl
   have oa:=o1
   obtain⟨p,ps,rfl,rfl,h2,h3⟩:=o1
   refine⟨_,h1,a2 P0 P σ H0 _ ρ E0 ?_⟩
   cases q:f ρ with
   |bad=>rw[q] at h;exact h.elim
   |ex x=>rw[q] at h;exact fun H' s=>h H' P ((E.tr s0).trans (E0.tr s))
   |ok ka =>
    rw[q] at h
    simp only[M.A7] at h
    intro w H1 s1 hw
    obtain⟨j,n,ds,rfl,en,ed,em⟩:=OB rfl (Ur (gC h))
    rw[em] at h
    simp only[M.A7] at h
    cases hw
    obtain⟨r,xs,r1,r2,r3⟩:=h3.get ed
    have hl:Og (ps.map V.ref).length j=some n:=by rw[zc,h3.length];exact en
    refine⟨p,_,j,.ref r,rfl,rfl,.of (s1 _ _ h2),by rw[XC hl,zF,r1];rfl,?_⟩
    have E1:=E0.same s1
    refine b2 P0 P σ H1 _ ρ E1 ?_
    cases q2:g ρ with
    |bad=>rw[q2] at h;exact h.elim
    |ex x=>rw[q2] at h;exact fun H' s'=>h H' P ((E.tr s0).trans ((E0.tr s1).trans (E1.tr s')))
    |ok kb =>
     rw[q2] at h
     simp only[M.A7] at h
     intro u H2 s2 hu
     unfold cQ at h
     split at h
     ·rename_i j' l bW
      cases bW
      cases hu
      split at h
      ·rename_i n' m em vS
       rw[en] at em;cases em
       have E2:=E1.same s2
       have c9:=s1.trans s2
       have rm:r∈ps:=zj r1
       have rP:=h4 r (ze _ rm)
       have dz:=yk.mp nd
       have rp:r≠p:=fun z=>dz.1 (by rw[<-z];exact rm)
       have sd:del (upd H2 r (.lst (xs.set m v))) P=del H2 P:=by
        funext b
        by_cases hb:P b
        ·rw[CZ hb,CZ hb]
        ·rw[Aw hb,Aw hb,Ah (fun z=>hb (by rw[z];exact rP.1))]
       have sm:Ad (del H2 P) (del (upd H2 r (.lst (xs.set m v))) P):=by rw[sd];exact Ad.refl _
       have ob:=oa.same c9
       refine⟨r,xs,l,m,rfl,rfl,c9 _ _ r2,by rw[r3.length];exact vS,?_⟩
       have key:=E2.Vz (P':=P) (H':=upd H2 r (.lst (xs.set m v))) (i:=i) (v:=.ref p) (c:=.ow (.rows (BZ.set n (ds.set m d)))) (fp:=p::ps) (fun a h=>h) (fun a h=>?_) sm (fun j2 c' v' ai af g1 g2 g3 a ha=>?_)
        ⟨p,ps,rfl,rfl,by rw[Ah (zU rp)];exact c9 _ _ h2,?_⟩ h4 nd
       ·rw[Kp h1] at key
        exact h _ _ _ ((E.tr s0).trans ((E0.tr c9).trans ⟨sm,fun a h=>by rw[Ah (fun z=>rP.2 (by rw[<-z];exact h))]⟩)) key
       ·by_cases ha:a=r
        ·subst ha;exact Dn.lst Ar
        ·unfold Dn;rw[Ah ha];exact E2.Cn a h
       ·have n1:=E2.apart j2 i _ _ _ _ _ _ g1 uk g2 h1 g3 ob (zU af) a ha
        exact⟨Ah fun z=>n1 (by rw[z];exact ze _ rm),n1⟩
       ·have vT:Bw X.K H2 P ps BZ:=h3.move c9.del fun a ha=>by obtain⟨ys,z⟩:=h3.at a ha;rw[z];exact c9 _ _ z
        refine vT.set sm Ar ?_ (fun a ha=>Ah ha) dz.2 r1
        rw[sd]
        exact MA ((om.mono s1.del).mono s2.del) m (r3.mono c9.del)
      ·exact h.elim
     ·exact h.elim
  ·exact h.elim
end
end L2
namespace L2
open PySem PySem.Spec PyProof.Rows
section
variable {X:Cx}{WX:Str->Hp->Prop}{c:Bool}{P0:Ew}{P:Addr->Prop}{H:Hp}{σ:St}{ρ:Ab}{a b e:Expr}{f g g2:Ab->M D}{pos:Pos}
theorem DL:∀ {ds:List D}{ns:List Int},CD ds=some ns->ds=ns.map D.int
 |[],ns,h=>by cases h;rfl
 | .int b::r,bs,h=>by
  rw[CD] at h
  cases q:CD r with
  |none=>rw[q] at h;cases h
  |some vP=>rw[q] at h;cases h;rw[DL q];rfl
 | .Az::r,bs,h=>by cases h
 | .bl _::r,bs,h=>by cases h
 | .str _::r,bs,h=>by cases h
 | .tup _::r,bs,h=>by cases h
 | .lst _::r,bs,h=>by cases h
 | .DH _::r,bs,h=>by cases h
 | .Bg _ _ _::r,bs,h=>by cases h
 | .ins _ _ _::r,bs,h=>by cases h
theorem E8 {K:za}{H:Hp}:∀ {vs:List V}{bs:List Int},Ag K H vs (bs.map D.int)->vs=bs.map V.int
 |_,[],.nil=>rfl
 |_,b::r,.cons h t=>by cases h;rw[E8 t];rfl
end
end L2
namespace L2
open PySem PySem.Spec PyProof.Rows
def cst:Option (Int×Int)->D
 |none=>.Az
 |some p=>.tup [.int p.1,.int p.2]
def Aq:Option (Int×Int)->Option (Int×Int)->Option (Int×Int)
 |some p,some q=>some (p.1 + q.1,p.2 + q.2)
 |_,_=>none
def gD (p q:Int×Int):Int×Int:=if p.1 < q.1\/(p.1=q.1/\p.2<=q.2) then p else q
def Dx:Option (Int×Int)->Option (Int×Int)->Option (Int×Int)
 |none,b=>b
 |some p,none=>some p
 |some p,some q=>some (gD p q)
def Fw (cs:List (Option (Int×Int))):Option (Int×Int):=cs.foldl Dx none
theorem GB (cs:List (Option (Int×Int))):B6 (fun d ρ=>.ok (ρ.set 0 (some (.val d)))) (fun ρ=>(rv 0 ρ).bind fun x=>.ok (!Cw x)) (rv 0) (cs.map cst) [none]=.ok ((cs.filterMap id).map fun p=>cst (some p)):=by
 induction cs with
 |nil=>rfl
 |cons c r ih =>
  rw[zf,B6]
  cases c with
  |none =>
   show B6 _ _ _ (r.map cst) [none]=_
   rw[ih];rfl
  |some p =>
   show (match B6 _ _ _ (r.map cst) [none] with | .ok ys=>M.ok (cst (some p)::ys)|_=>.bad)=_
   rw[ih];rfl
theorem VG (ps:List (Int×Int)):Gy (ps.map fun p=>cst (some p))=some (ps.map fun p=>(cst (some p),[p.1,p.2])):=by
 induction ps with
 |nil=>rfl
 |cons p r ih=>rw[zf,Gy,ih];rfl
theorem XD (cs:List (Option (Int×Int))):AV ((cs.filterMap id).map fun p=>(cst (some p),[p.1,p.2]))=(Fw cs).map fun p=>(cst (some p),[p.1,p.2]):=by
 have key:∀(cs:List (Option (Int×Int))) (z:Option (Int×Int)),((cs.filterMap id).map fun p=>(cst (some p),[p.1,p.2])).foldl BG (z.map fun p=>(cst (some p),[p.1,p.2]))=(cs.foldl Dx z).map fun p=>(cst (some p),[p.1,p.2]):=by
  intro cs
  induction cs with
  |nil=>intro z;rfl
  |cons c r ih =>
   intro z
   cases c with
   |none =>
    rw[show List.filterMap id (none::r)=List.filterMap id r from rfl,zS,ih z]
    cases z<;>rfl
   |some q =>
    rw[show List.filterMap id (some q::r)=q::List.filterMap id r from rfl,zf,zS,zS,<-ih (Dx z (some q))]
    congr 1
    cases z with
    |none=>rfl
    |some p =>
     simp only[Option.map_some,BG,HT.Fq,HT.ER,Dx,gD]
     by_cases h1:q.1=p.1
     ·by_cases h2:q.2=p.2
      ·rw[if_pos (show p.1 < q.1\/(p.1=q.1/\p.2<=q.2) by omega)]
       simp[h1,h2]
      ·by_cases h3:q.2 < p.2
       ·rw[if_neg (show ¬ (p.1 < q.1\/(p.1=q.1/\p.2<=q.2)) by omega)]
        simp[h1,h2,h3]
       ·rw[if_pos (show p.1 < q.1\/(p.1=q.1/\p.2<=q.2) by omega)]
        simp[h1,h2,h3]
     ·by_cases h3:q.1 < p.1
      ·rw[if_neg (show ¬ (p.1 < q.1\/(p.1=q.1/\p.2<=q.2)) by omega)]
       simp[h1,h3]
      ·rw[if_pos (show p.1 < q.1\/(p.1=q.1/\p.2<=q.2) by omega)]
       simp[h1,h3]
 exact key cs none
theorem Ut (cs:List (Option (Int×Int))):Ui (.lst ((cs.filterMap id).map fun p=>cst (some p))) .Az=.ok (cst (Fw cs)):=by
 simp only[Ui,VG,XD]
 cases Fw cs<;>rfl
theorem R4 (cs:List (Option (Int×Int))):J9 (B6 (fun d ρ=>.ok (ρ.set 0 (some (.val d)))) (fun ρ=>(rv 0 ρ).bind fun x=>.ok (!Cw x)) (rv 0) (cs.map cst) [none])=.ok (.lst ((cs.filterMap id).map fun p=>cst (some p))):=by
 rw[GB];rfl
abbrev Co:=Option (Int×Int)
def BL:Co->Co->Prop
 |_,none=>True
 |none,some _=>False
 |some p,some q=>p.1 < q.1\/(p.1=q.1/\p.2<=q.2)
theorem C2:∀ a:Co,BL a a
 |none=>trivial
 |some p=>.inr ⟨rfl,Int.le_refl _⟩
theorem Ao:∀ {a b c:Co},BL a b->BL b c->BL a c
 |_,_,none,_,_=>trivial
 |none,none,some _,_,h=>h.elim
 |some _,none,some _,_,h=>h.elim
 |none,some _,some _,h,_=>h.elim
 |some p,some q,some r,h1,h2=>by simp only[BL] at *;omega
theorem MH:∀ {a b:Co},BL a b->BL b a->a=b
 |none,none,_,_=>rfl
 |none,some _,h,_=>h.elim
 |some _,none,_,h=>h.elim
 |some p,some q,h1,h2=>by
  obtain⟨p1,p2⟩:=p
  obtain⟨q1,q2⟩:=q
  simp only[BL] at h1 h2
  have e1:p1=q1:=by omega
  have e2:p2=q2:=by omega
  rw[e1,e2]
theorem Bk:∀ a b:Co,(Dx a b=a/\BL a b)\/(Dx a b=b/\BL b a/\a≠b)
 |none,none=>.inl ⟨rfl,trivial⟩
 |none,some q=>.inr ⟨rfl,trivial,fun h=>by cases h⟩
 |some p,none=>.inl ⟨rfl,trivial⟩
 |some p,some q=>by
  unfold Dx gD
  by_cases h:p.1 < q.1\/(p.1=q.1/\p.2<=q.2)
  ·dsimp only;rw[if_pos h];exact .inl ⟨rfl,h⟩
  ·dsimp only;rw[if_neg h]
   refine .inr ⟨rfl,?_,fun e=>?_⟩
   ·simp only[BL];omega
   ·cases e;exact h (.inr ⟨rfl,Int.le_refl _⟩)
theorem EB (a b:Co):BL (Dx a b) a:=by
 rcases Bk a b with ⟨e,h⟩|⟨e,h,_⟩
 ·rw[e];exact C2 a
 ·rw[e];exact h
theorem EC (a b:Co):BL (Dx a b) b:=by
 rcases Bk a b with ⟨e,h⟩|⟨e,h,_⟩
 ·rw[e];exact h
 ·rw[e];exact C2 b
theorem R5 (cs:List Co):∀ z:Co,BL (cs.foldl Dx z) z/\(∀ x∈cs,BL (cs.foldl Dx z) x)/\(cs.foldl Dx z=z\/cs.foldl Dx z∈cs):=by
 induction cs with
 |nil=>intro z;exact⟨C2 z,(fun x h=>by cases h),.inl rfl⟩
 |cons c r ih =>
  intro z
  obtain⟨h1,h2,h3⟩:=ih (Dx z c)
  rw[zS]
  refine⟨Ao h1 (EB z c),fun x hx=>?_,?_⟩
  ·rcases zo.mp hx with rfl|hx
   ·exact Ao h1 (EC z x)
   ·exact h2 x hx
  ·rcases h3 with h3|h3
   ·rw[h3]
    rcases Bk z c with ⟨e,_⟩|⟨e,_⟩
    ·exact .inl e
    ·rw[e];exact .inr zd
   ·exact .inr (ze _ h3)
theorem LF {cs:List Co}{x:Co}(h:x∈cs):BL (Fw cs) x:=(R5 cs none).2.1 x h
theorem Jd (cs:List Co):Fw cs=none\/Fw cs∈cs:=(R5 cs none).2.2
theorem cS {cs:List Co}{v:Co}(h1:∀ x∈cs,BL v x) (h2:v≠none->∃ x∈cs,BL x v):Fw cs=v:=by
 refine MH ?_ ?_
 ·cases v with
  |none=>cases Fw cs<;>exact trivial
  |some p =>
   obtain⟨x,hx,hl⟩:=h2 (by intro z;cases z)
   exact Ao (LF hx) hl
 ·rcases Jd cs with h|h
  ·rw[h];cases v<;>exact trivial
  ·exact h1 _ h
theorem C9:∀ a b:Co,Aq a b=Aq b a
 |none,none=>rfl
 |none,some _=>rfl
 |some _,none=>rfl
 |some p,some q=>by simp only[Aq];rw[Int.add_comm,Int.add_comm p.2]
theorem Ca:∀ {a b:Co}(c:Co),BL a b->BL (Aq a c) (Aq b c)
 |_,none,c,_=>by cases c<;>exact trivial
 |none,some _,c,h=>h.elim
 |some p,some q,none,h=>trivial
 |some p,some q,some r,h=>by simp only[Aq,BL] at *;omega
def NN:Co->Prop
 |none=>True
 |some p=>0<=p.1/\0<=p.2
theorem MI:∀ {a b:Co},NN a->NN b->NN (Aq a b)
 |none,none,_,_=>trivial
 |none,some _,_,_=>trivial
 |some _,none,_,_=>trivial
 |some p,some q,h1,h2=>by simp only[Aq,NN] at *;omega
theorem XE {a b:Co}(h1:NN a) (h2:NN b):NN (Dx a b):=by
 rcases Bk a b with ⟨e,_⟩|⟨e,_⟩
 ·rw[e];exact h1
 ·rw[e];exact h2
def ltN (a b:Co):Prop:=NN a/\BL a b/\a≠b
theorem VH (a b c:Co) (h1:ltN a b) (h2:ltN b c):ltN a c :=
 ⟨h1.1,Ao h1.2.1 h2.2.1,fun e=>by subst e;exact h1.2.2 (MH h1.2.1 h2.2.1)⟩
def rank:Co->Nat×Nat×Nat
 |none=>(1,0,0)
 |some p=>(0,p.1.toNat,p.2.toNat)
theorem kE:∀ a:Co,NN a->Acc ltN a:=by
 have wf:WellFounded (InvImage (Prod.Lex (· < ·) (Prod.Lex (· < ·) (· < ·))) rank):=InvImage.wf rank (Prod.lex Nat.lt_wfRel (Prod.lex Nat.lt_wfRel Nat.lt_wfRel)).wf
 intro a
 induction a using wf.induction with
 |h a ih =>
  intro ha
  refine .intro _ fun b ⟨hb,hl,af⟩=>ih b ?_ hb
  cases b with
  |none=>cases a with
   |none=>exact (af rfl).elim
   |some p=>exact hl.elim
  |some q=>cases a with
   |none=>exact Prod.Lex.left _ _ (by decide)
   |some p =>
    obtain⟨p1,p2⟩:=p
    obtain⟨q1,q2⟩:=q
    simp only[BL,NN] at hl ha hb
    show Prod.Lex _ _ (0,q1.toNat,q2.toNat) (0,p1.toNat,p2.toNat)
    refine Prod.Lex.right _ ?_
    by_cases h:q1 < p1
    ·exact Prod.Lex.left _ _ (by omega)
    ·have e:q1=p1:=by omega
     subst e
     have h2:q2≠p2:=fun e=>af (by rw[e])
     exact Prod.Lex.right _ (by omega)
theorem cT (a:Co):Acc ltN a:=.intro _ fun b h=>kE b h.1
theorem VI (cs:List Co):Acc (NH ltN) cs:=MG ltN cT cs.length cs rfl
structure Road where
 a:Int
 b:Int
 l:Option Int
 w:Int
def GC:Option Int->D
 |none=>.Az
 |some i=>.int i
def BF (r:Road):D:=.tup [.int r.a,.int r.b,GC r.l,.int r.w]
def As (m:Int) (rs:List Road):D:=.tup [.int m,.lst (rs.map BF)]
def C3 (r:Road):Co:=match r.l with | none=>none | some l=>some (l,1)
structure Ho (m:Nat) (r:Road):Prop where
 a0:0<=r.a
 a1:r.a < m
 b0:0<=r.b
 b1:r.b < m
 l0:∀ l,r.l=some l->0<=l
def Je (r:Road):Road:=⟨r.b,r.a,r.l,r.w⟩
theorem Uu {m:Nat}{r:Road}(h:Ho m r):NN (C3 r):=by
 unfold C3
 split
 ·trivial
 ·rename_i l e
  exact⟨h.l0 l e,by show (0:Int)<=1;decide⟩
def atC (cs:List Co) (i:Int):Co:=cs.getD i.toNat none
theorem Cs {cs:List Co}{i:Int}(h0:0<=i) (h1:i < cs.length):cs[i.toNat]? =some (atC cs i):=by
 unfold atC
 rw[zB,zq (show i.toNat < cs.length by omega)]
 rfl
theorem set_same {α:Type}:∀ {l:List α}{i:Nat}{x:α},l[i]? =some x->l.set i x=l
 |[],_,_,h=>by cases h
 |y::r,0,x,h=>by cases h;rfl
 |y::r,i + 1,x,h=>by rw[zl,set_same (by simpa using h)]
def D3 (r:Road) (cs:List Co):List Co:=cs.set r.b.toNat (Dx (atC cs r.b) (Aq (atC cs r.a) (C3 r)))
theorem Hq {cs:List Co}{i j:Int}{v:Co}(hi:0<=i) (hj:0<=j) (h1:i < cs.length):atC (cs.set i.toNat v) j=if j=i then v else atC cs j:=by
 unfold atC
 rw[zB,zB]
 by_cases h:j=i
 ·subst h
  rw[if_pos rfl,zQ (by omega)]
  rfl
 ·rw[if_neg h,yn (by omega)]
structure Good (m s:Nat) (rs:List Road) (cs:List Co):Prop where
 len:cs.length=m
 st:atC cs s=some (0,0)
 nn:∀ c∈cs,NN c
 sup:∀ p:Int,0<=p->p < m->p≠s->atC cs p≠none->∃ r∈rs,r.b=p/\BL (Aq (atC cs r.a) (C3 r)) (atC cs p)
theorem Good.gE {m s:Nat}{rs:List Road}{cs:List Co}(g:Good m s rs cs){i:Int}(h0:0<=i) (h1:i < m):NN (atC cs i) :=
 g.nn _ (zj (Cs h0 (by rw[g.len];exact h1)))
theorem VJ {m s:Nat}{rs:List Road}{cs:List Co}{r:Road}(g:Good m s rs cs) (hr:r∈rs) (Au:∀ r∈rs,Ho m r) :
 Good m s rs (D3 r cs)/\(∀ i:Int,0<=i->BL (atC (D3 r cs) i) (atC cs i))/\(Dx (atC cs r.b) (Aq (atC cs r.a) (C3 r))=atC cs r.b->D3 r cs=cs) /\
 (Dx (atC cs r.b) (Aq (atC cs r.a) (C3 r))≠atC cs r.b->NH ltN (D3 r cs) cs):=by
 have ok:=Au r hr
 have ce:r.b < cs.length:=by rw[g.len];exact ok.b1
 have hx:NN (Aq (atC cs r.a) (C3 r)):=MI (g.gE ok.a0 ok.a1) (Uu ok)
 have hv:NN (Dx (atC cs r.b) (Aq (atC cs r.a) (C3 r))):=XE (g.gE ok.b0 ok.b1) hx
 have bp:∀ i:Int,0<=i->atC (D3 r cs) i=if i=r.b then Dx (atC cs r.b) (Aq (atC cs r.a) (C3 r)) else atC cs i:=fun i hi=>Hq ok.b0 hi ce
 have le:∀ i:Int,0<=i->BL (atC (D3 r cs) i) (atC cs i):=fun i hi=>by
  rw[bp i hi]
  by_cases h:i=r.b
  ·rw[if_pos h,h];exact EB _ _
  ·rw[if_neg h];exact C2 _
 refine⟨⟨by unfold D3;rw[yl];exact g.len,?_,fun c hc=>?_,fun p h0 h1 hp hn=>?_⟩,le,fun h=>?_,fun h=>?_⟩
 ·rw[bp s (by omega)]
  by_cases h:(s:Int)=r.b
  ·rw[if_pos h,<-h,g.st]
   cases q:Aq (atC cs r.a) (C3 r) with
   |none=>rfl
   |some x =>
    rw[q] at hx
    unfold Dx gD
    dsimp only
    rw[if_pos (by simp only[NN] at hx;omega)]
  ·rw[if_neg h];exact g.st
 ·unfold D3 at hc
  rcases List.mem_or_eq_of_mem_set hc with h|h
  ·exact g.nn c h
  ·rw[h];exact hv
 ·rw[bp p h0] at hn ⊢
  by_cases h:p=r.b
  ·rw[if_pos h] at hn ⊢
   rcases Bk (atC cs r.b) (Aq (atC cs r.a) (C3 r)) with ⟨e,_⟩|⟨e,_⟩
   ·rw[e] at hn ⊢
    subst h
    obtain⟨r',h2,h3,h4⟩:=g.sup r.b h0 h1 hp hn
    exact⟨r',h2,h3,Ao (Ca _ (le r'.a (Au r' h2).a0)) h4⟩
   ·rw[e]
    exact⟨r,hr,h.symm,Ca _ (le r.a ok.a0)⟩
  ·rw[if_neg h] at hn ⊢
   obtain⟨r',h2,h3,h4⟩:=g.sup p h0 h1 hp hn
   exact⟨r',h2,h3,Ao (Ca _ (le r'.a (Au r' h2).a0)) h4⟩
 ·unfold D3
  rw[h]
  exact set_same (Cs ok.b0 ce)
 ·unfold D3
  exact Uq ltN (Cs ok.b0 ce) ⟨hv,EB _ _,h⟩
def Right (m s:Nat) (rs:List Road) (cs:List Co):Prop :=
 cs.length=m/\atC cs s=some (0,0)/\(∀ c∈cs,NN c)/\∀ p:Int,0<=p->p < m->p≠s->atC cs p=Fw ((rs.filter fun r=>decide (r.b=p)).map fun r=>Aq (C3 r) (atC cs r.a))
theorem right_of {m s:Nat}{rs:List Road}{cs:List Co}(g:Good m s rs cs) (h:∀ r∈rs,Dx (atC cs r.b) (Aq (atC cs r.a) (C3 r))=atC cs r.b):Right m s rs cs:=by
 refine⟨g.len,g.st,g.nn,fun p h0 h1 hp=>?_⟩
 symm
 refine cS (fun x hx=>?_) fun hn=>?_
 ·obtain⟨r,hr,rfl⟩:=zA.mp hx
  obtain⟨h2,h3⟩:=yy.mp hr
  have e:r.b=p:=by simpa using h3
  have:=EC (atC cs r.b) (Aq (atC cs r.a) (C3 r))
  rw[h r h2,e] at this
  rw[C9]
  exact this
 ·obtain⟨r,h2,h3,h4⟩:=g.sup p h0 h1 hp hn
  refine⟨_,zA.mpr ⟨r,yy.mpr ⟨h2,by simpa using h3⟩,rfl⟩,?_⟩
  rw[C9]
  exact h4
theorem MJ {m s:Nat}(rs:List Road) (h:s < m):Good m s rs ((zt m none).set s (some (0,0))):=by
 have hl:(zt m (none:Co)).length=m:=yY
 have bp:∀ i:Int,0<=i->atC ((zt m none).set s (some (0,0))) i=if i=s then some (0,0) else none:=fun i hi=>by
  have:=Hq (cs:=zt m none) (i:=(s:Int)) (j:=i) (v:=some (0,0)) (by omega) hi (by rw[hl];omega)
  rw[zX] at this
  rw[this]
  by_cases h:i=s
  ·rw[if_pos h,if_pos h]
  ·rw[if_neg h,if_neg h]
   unfold atC
   rw[zB,yB]
   split<;>rfl
 refine⟨by rw[yl,hl],?_,fun c hc=>?_,fun p h0 h1 hp hn=>?_⟩
 ·rw[bp s (by omega),if_pos rfl]
 ·rcases List.mem_or_eq_of_mem_set hc with h|h
  ·rw[List.eq_of_mem_replicate h];trivial
  ·rw[h];exact⟨Int.le_refl _,Int.le_refl _⟩
 ·rw[bp p h0,if_neg hp] at hn
  exact (hn rfl).elim
theorem kF {α:Type}{l:List α}{n:Int}(h:0<=n/\n < l.length):QJ l n=l[n.toNat]? :=by
 unfold QJ Og
 obtain⟨h1,h2⟩:=h
 simp[h1,h2]
theorem LG {n:Nat}{j:Int}(h:0<=j/\j < n):Og n j=some j.toNat:=by
 unfold Og
 obtain⟨h1,h2⟩:=h
 simp[h1,h2]
theorem Jf {α:Type}{f:α->D}{l:List α}{n:Int}{x:α}(h0:0<=n) (h:l[n.toNat]? =some x):ZH (.lst (l.map f)) (.int n)=.ok (f x):=by
 have h1:=(zw.mp h).1
 unfold ZH
 dsimp only
 rw[kF (by rw[zc];omega),zF,h]
 rfl
theorem E9 {cs:List Co}{i:Int}(h0:0<=i) (h1:i < cs.length):ZH (.lst (cs.map cst)) (.int i)=.ok (cst (atC cs i)):=Jf h0 (Cs h0 h1)
theorem MK {n:Nat}(c:Co):Pl (n + 1) (cst c):=by
 cases c with
 |none=>exact jZ
 |some p=>exact kA (Um (IA _) (Um (IA _) kB))
theorem Uv (a b:Co):Av (cst a) (cst b)=decide (a=b):=by
 rcases a with _|⟨a1,a2⟩<;>rcases b with _|⟨b1,b2⟩
 ·simp[cst,Av]
 ·simp[cst,Av]
 ·simp[cst,Av]
 ·rw[yL]
  simp[cst,Av,Cv]
theorem cU (a b:Co):ZG 16 (cst a) (cst b)=.ok (.bl (!decide (a=b))):=by rw[SR (MK (n:=15) a) (MK (n:=15) b),Uv]
theorem cV (a b:Co):ZF 16 (cst a) (cst b)=.ok (.bl (decide (a=b))):=by rw[SQ (MK (n:=15) a) (MK (n:=15) b),Uv]
theorem Uw (c:Co):Jb (cst c)=true:=by
 cases c<;>simp[cst,Jb,Jc]
theorem Pu (c:Co):dp (.ok (cst c))=.ok (cst c):=by
 unfold dp
 rw[M.A7,if_pos (Uw c)]
theorem AQ {a b:Int}(h:0 < b):Ex (.int a) (.int b)=.ok (.int (a % b)):=by
 unfold Ex Bu
 dsimp only
 rw[if_pos h]
theorem DM {a b:Int}(h:WO a b):J4 (.int a) (.int b)=.ok (.int (a / b)):=by
 unfold J4 Bu
 dsimp only
 rw[if_pos h]
end L2
namespace L2
open PySem PySem.Spec PyProof.Rows
inductive Wk (rs:List Road):Int->Int->Int×Int->Prop
 |nil (u:Int):Wk rs u u (0,0)
 |cons {r:Road} {l:Int} {w:Int} {c:Int×Int}:r∈rs->r.l=some l->Wk rs r.b w c->Wk rs r.a w (l + c.1,1 + c.2)
theorem Wk.trans {rs:List Road}{u v w:Int}{c d:Int×Int}(h:Wk rs u v c) (k:Wk rs v w d):Wk rs u w (c.1 + d.1,c.2 + d.2):=by
 induction h with
 |nil u=>simpa using k
 |cons hr hl _ ih =>
  have:=Wk.cons hr hl (ih k)
  simpa [yZ] using this
theorem Wk.one {rs:List Road}{r:Road}{l:Int}(hr:r∈rs) (hl:r.l=some l):Wk rs r.a r.b (l,1):=by
 have:=Wk.cons hr hl (Wk.nil (rs:=rs) r.b)
 simpa using this
def BO (rs:List Road) (u w:Int) (x:Co):Prop:=(∀ c,Wk rs u w c->BL x (some c))/\∀ p,x=some p->Wk rs u w p
theorem BO.Cp {rs:List Road}{u w:Int}{x y:Co}(h:BO rs u w x) (k:BO rs u w y):x=y:=by
 refine MH ?_ ?_
 ·cases y with
  |none=>cases x<;>exact trivial
  |some q=>exact h.1 q (k.2 q rfl)
 ·cases x with
  |none=>cases y<;>exact trivial
  |some q=>exact k.1 q (h.2 q rfl)
theorem Jg {r:Road}{c:Int×Int}(h:C3 r=some c):∃ l,r.l=some l/\c=(l,1):=by
 unfold C3 at h
 split at h
 ·cases h
 ·rename_i l e;cases h;exact⟨l,e,rfl⟩
theorem F9 {a b:Co}{c:Int×Int}(h:Aq a b=some c):∃ p q,a=some p/\b=some q/\c=(p.1 + q.1,p.2 + q.2):=by
 cases a with
 |none=>cases h
 |some p=>cases b with
  |none=>cases h
  |some q=>cases h;exact⟨p,q,rfl,rfl,rfl⟩
theorem Right.min_le {m s:Nat}{rs:List Road}{cs:List Co}(h:Right m s rs cs){r:Road}(hr:r∈rs) (Au:Ho m r):BL (atC cs r.b) (Aq (C3 r) (atC cs r.a)):=by
 obtain⟨h1,h2,h3,h4⟩:=h
 by_cases hs:r.b=s
 ·rw[hs,h2]
  have hn:NN (Aq (C3 r) (atC cs r.a)):=MI (Uu Au) (h3 _ (zj (Cs Au.a0 (by rw[h1];exact Au.a1))))
  cases q:Aq (C3 r) (atC cs r.a) with
  |none=>exact trivial
  |some p=>rw[q] at hn;simp only[NN] at hn;simp only[BL];omega
 ·rw[h4 r.b Au.b0 Au.b1 hs]
  exact LF (zA.mpr ⟨r,yy.mpr ⟨hr,by simp⟩,rfl⟩)
theorem VL {m s:Nat}{rs:List Road}{cs:List Co}(h:Right m s rs cs) (Au:∀ r∈rs,Ho m r){u w:Int}{c:Int×Int}(k:Wk rs u w c):BL (atC cs w) (Aq (atC cs u) (some c)):=by
 induction k with
 |nil u =>
  cases atC cs u with
  |none=>exact trivial
  |some p=>simp only[Aq,BL];omega
 | @cons r l w c hr hl _ ih =>
  refine Ao ih ?_
  have h1:=h.min_le hr (Au r hr)
  have e:C3 r=some (l,1):=by unfold C3;rw[hl]
  rw[e] at h1
  cases q:atC cs r.a with
  |none=>exact trivial
  |some p =>
   rw[q] at h1
   cases q2:atC cs r.b with
   |none=>rw[q2] at h1;exact h1.elim
   |some p2=>rw[q2] at h1;simp only[Aq,BL] at *;omega
theorem VM {m s:Nat}{rs:List Road}{cs:List Co}(h:Right m s rs cs) (Au:∀ r∈rs,Ho m r):∀(n:Nat) (w:Int) (p:Int×Int),0<=w->w < m->atC cs w=some p->p.2.toNat=n->Wk rs s w p:=by
 obtain⟨h1,h2,h3,h4⟩:=h
 intro n
 induction n with
 |zero =>
  intro w p h0 hw hp hn
  by_cases hs:w=s
  ·rw[hs,h2] at hp;cases hp;rw[hs];exact .nil _
  ·exfalso
   have e:=h4 w h0 hw hs
   rw[hp] at e
   rcases Jd ((rs.filter fun r=>decide (r.b=w)).map fun r=>Aq (C3 r) (atC cs r.a)) with z|z
   ·rw[z] at e;cases e
   ·rw[<-e] at z
    obtain⟨r,hr,e2⟩:=zA.mp z
    have d0:=(yy.mp hr).1
    obtain⟨p1,p2,e3,e4,e5⟩:=F9 e2
    obtain⟨l,hl,rfl⟩:=Jg e3
    have ok:=Au r d0
    have nn:=h3 _ (zj (Cs ok.a0 (by rw[h1];exact ok.a1)))
    rw[e4] at nn
    simp only[NN] at nn
    rw[e5] at hn
    simp only at hn
    omega
 |succ n ih =>
  intro w p h0 hw hp hn
  by_cases hs:w=s
  ·rw[hs,h2] at hp;cases hp;rw[hs];exact .nil _
  ·have e:=h4 w h0 hw hs
   rw[hp] at e
   rcases Jd ((rs.filter fun r=>decide (r.b=w)).map fun r=>Aq (C3 r) (atC cs r.a)) with z|z
   ·rw[z] at e;cases e
   ·rw[<-e] at z
    obtain⟨r,hr,e2⟩:=zA.mp z
    obtain⟨d0,on⟩:=yy.mp hr
    have on:r.b=w:=by simpa using on
    obtain⟨p1,p2,e3,e4,e5⟩:=F9 e2
    obtain⟨l,hl,rfl⟩:=Jg e3
    have ok:=Au r d0
    have nn:=h3 _ (zj (Cs ok.a0 (by rw[h1];exact ok.a1)))
    rw[e4] at nn
    simp only[NN] at nn
    subst e5
    simp only at hn
    have w1:=ih r.a p2 ok.a0 ok.a1 e4 (by omega)
    have w2:=w1.trans (Wk.one d0 hl)
    rw[on] at w2
    have e6:((l + p2.1,1 + p2.2):Int×Int)=(p2.1 + l,p2.2 + 1):=by rw[Int.add_comm l,Int.add_comm 1]
    show Wk rs s w (l + p2.1,1 + p2.2)
    rw[e6]
    exact w2
theorem Right.XF {m s:Nat}{rs:List Road}{cs:List Co}(h:Right m s rs cs) (Au:∀ r∈rs,Ho m r){w:Int}(h0:0<=w) (hw:w < m):BO rs s w (atC cs w):=by
 refine⟨fun c k=>?_,fun p hp=>VM h Au _ w p h0 hw hp rfl⟩
 have:=VL h Au k
 rw[h.2.1] at this
 have e:Aq (some (0,0)) (some c)=some c:=by simp[Aq]
 rw[e] at this
 exact this
theorem SV {a b c d:Co}(h:BL a b) (k:BL c d):BL (Aq a c) (Aq b d):=by
 refine Ao (Ca c h) ?_
 rw[C9 b c,C9 b d]
 exact Ca b k
theorem Ea:∀ a b c:Co,Aq (Aq a b) c=Aq a (Aq b c)
 |none,b,c=>by cases b<;>cases c<;>rfl
 |some p,none,c=>by cases c<;>rfl
 |some p,some q,none=>rfl
 |some p,some q,some r=>by simp only[Aq];rw[yZ,yZ]
theorem OC:∀ a:Co,Aq a (some (0,0))=a
 |none=>rfl
 |some p=>by simp[Aq]
theorem VN (a:Co):Aq (some (0,0)) a=a:=by rw[C9];exact OC a
theorem R6 (a:Co):Dx a a=a:=by rcases Bk a a with ⟨e,_⟩ | ⟨e,_⟩<;>exact e
theorem XG {a b:Co}(h:NN b):BL a (Aq a b):=by
 cases a with
 |none=>exact trivial
 |some p=>cases b with
  |none=>exact trivial
  |some q=>simp only[NN] at h;simp only[Aq,BL];omega
structure FW (m k:Nat) (rs:List Road) (A:Int->Int->Co):Prop where
 dg:∀ x:Int,0<=x->x < m->A x x=some (0,0)
 nn:∀ x y:Int,0<=x->x < m->0<=y->y < m->NN (A x y)
 sd:∀ x y:Int,0<=x->x < m->0<=y->y < m->∀ p,A x y=some p->Wk rs x y p
 ed:∀ r∈rs,BL (A r.a r.b) (C3 r)
 tr:∀ v x y:Int,0<=v->v < k->0<=x->x < m->0<=y->y < m->BL (A x y) (Aq (A x v) (A v y))
def over (k:Int) (A:Int->Int->Co):Int->Int->Co:=fun x y=>Dx (A x y) (Aq (A x k) (A k y))
theorem R7 {m k:Nat}{rs:List Road}{A:Int->Int->Co}(F:FW m k rs A) (hk:k < m) (x:Int):over k A x k=A x k:=by
 unfold over
 rw[F.dg k (by omega) (by omega),OC,R6]
theorem R8 {m k:Nat}{rs:List Road}{A:Int->Int->Co}(F:FW m k rs A) (hk:k < m) (y:Int):over k A k y=A k y:=by
 unfold over
 rw[F.dg k (by omega) (by omega),VN,R6]
theorem XH {m k:Nat}{rs:List Road}{A:Int->Int->Co}(F:FW m k rs A) (hk:k < m):FW m (k + 1) rs (over k A):=by
 have k0:(0:Int)<=k:=by omega
 have k1:(k:Int) < m:=by omega
 refine⟨fun x h0 h1=>?_,fun x y h0 h1 h2 h3=>XE (F.nn x y h0 h1 h2 h3) (MI (F.nn x k h0 h1 k0 k1) (F.nn k y k0 k1 h2 h3)),fun x y h0 h1 h2 h3 p hp=>?_,fun r hr=>Ao (EB _ _) (F.ed r hr),fun v x y v0 v1 h0 h1 h2 h3=>?_⟩
 ·unfold over
  rw[F.dg x h0 h1]
  have hn:NN (Aq (A x k) (A k x)):=MI (F.nn x k h0 h1 k0 k1) (F.nn k x k0 k1 h0 h1)
  cases q:Aq (A x k) (A k x) with
  |none=>rfl
  |some z =>
   rw[q] at hn
   simp only[NN] at hn
   unfold Dx gD
   dsimp only
   rw[if_pos (by omega)]
 ·unfold over at hp
  rcases Bk (A x y) (Aq (A x k) (A k y)) with ⟨e,_⟩|⟨e,_⟩
  ·rw[e] at hp;exact F.sd x y h0 h1 h2 h3 p hp
  ·rw[e] at hp
   obtain⟨p1,p2,e1,e2,rfl⟩:=F9 hp
   exact (F.sd x k h0 h1 k0 k1 p1 e1).trans (F.sd k y k0 k1 h2 h3 p2 e2)
 ·by_cases hv:v=k
  ·subst hv
   rw[R7 F hk,R8 F hk]
   exact EC _ _
  ·have vk:v < k:=by omega
   have vm:v < m:=by omega
   have vU:=F.tr v x y v0 vk h0 h1 h2 h3
   have vV:=F.tr v k y v0 vk k0 k1 h2 h3
   have vW:=F.tr v x k v0 vk h0 h1 k0 k1
   have g1:BL (over k A x y) (A x y):=EB _ _
   have g2:BL (over k A x y) (Aq (A x k) (A k y)):=EC _ _
   have vX:=F.nn k v k0 k1 v0 vm
   have vY:=F.nn v k v0 vm k0 k1
   have e1:over k A x v=Dx (A x v) (Aq (A x k) (A k v)):=rfl
   have e2:over k A v y=Dx (A v y) (Aq (A v k) (A k y)):=rfl
   rw[e1,e2]
   rcases Bk (A x v) (Aq (A x k) (A k v)) with ⟨e,_⟩|⟨e,_⟩<;>rcases Bk (A v y) (Aq (A v k) (A k y)) with ⟨e',_⟩|⟨e',_⟩<;>rw[e,e']
   ·exact Ao g1 vU
   ·refine Ao g2 ?_
    rw[<-Ea]
    exact Ca _ vW
   ·refine Ao g2 ?_
    rw[Ea,C9 (A x k),C9 (A x k)]
    exact Ca _ vV
   ·refine Ao g2 ?_
    have e3:Aq (Aq (A x k) (A k v)) (Aq (A v k) (A k y))=Aq (Aq (A x k) (A k y)) (Aq (A k v) (A v k)):=by
     rw[Ea,Ea,<-Ea (A k v),C9 (Aq (A k v) (A v k))]
    rw[e3]
    exact XG (MI vX vY)
theorem kG {m:Nat}{rs:List Road}{A:Int->Int->Co}(F:FW m m rs A) (Au:∀ r∈rs,Ho m r){x y:Int}(h0:0<=x) (h1:x < m) (h2:0<=y) (h3:y < m):BO rs x y (A x y):=by
 refine⟨fun c k=>?_,F.sd x y h0 h1 h2 h3⟩
 induction k with
 |nil u=>rw[F.dg u h0 h1];exact C2 _
 | @cons r l w c hr hl k' ih =>
  have ok:=Au r hr
  have i1:=ih ok.b0 ok.b1 h2 h3
  have t:=F.tr r.b r.a w ok.b0 (by have:=ok.b1;omega) h0 h1 h2 h3
  have e:=F.ed r hr
  have e':C3 r=some (l,1):=by unfold C3;rw[hl]
  rw[e'] at e
  refine Ao t (Ao (SV e i1) ?_)
  exact C2 _
structure ML (m:Nat) (rs:List Road) (u:Int) (n:Nat) (R:List Co):Prop where
 len:R.length=m
 st:atC R u=some (0,0)
 nn:∀ c∈R,NN c
 sd:∀ y:Int,0<=y->y < m->∀ p,atC R y=some p->Wk rs u y p
 ed:∀ r∈rs.take n,r.a=u->BL (atC R r.b) (C3 r)
theorem VO {m u:Nat}(rs:List Road) (h:u < m):ML m rs u 0 ((zt m none).set u (some (0,0))):=by
 have g:=MJ (m:=m) (s:=u) rs h
 refine⟨g.len,g.st,g.nn,fun y h0 h1 p hp=>?_,fun r hr=>by rw[List.take_zero] at hr;cases hr⟩
 by_cases hy:y=u
 ·rw[hy,g.st] at hp;cases hp;rw[hy];exact .nil _
 ·have:=Hq (cs:=zt m none) (i:=(u:Int)) (j:=y) (v:=some (0,0)) (by omega) h0 (by rw[yY];omega)
  rw[zX,if_neg hy] at this
  rw[this] at hp
  unfold atC at hp
  rw[zB,yB] at hp
  split at hp<;>cases hp
theorem XI {m:Nat}{rs:List Road}{u:Int}{n:Nat}{R:List Co}{r:Road}(g:ML m rs u n R) (hr:rs[n]? =some r) (hu:r.a≠u):ML m rs u (n + 1) R :=
 ⟨g.len,g.st,g.nn,g.sd,fun r' bq ak=>by
  rw[yu,hr] at bq
  rcases zv.mp bq with h|h
  ·exact g.ed r' h ak
  ·have:r'=r:=by simpa using h
   rw[this] at ak;exact (hu ak).elim⟩
theorem XJ {m:Nat}{rs:List Road}{u:Int}{n:Nat}{R:List Co}{r:Road}(g:ML m rs u n R) (hr:rs[n]? =some r) (hu:r.a=u) (Au:∀ r∈rs,Ho m r):ML m rs u (n + 1) (R.set r.b.toNat (Dx (atC R r.b) (C3 r))):=by
 have hm:=zj hr
 have ok:=Au r hm
 have ce:r.b < R.length:=by rw[g.len];exact ok.b1
 have bp:∀ i:Int,0<=i->atC (R.set r.b.toNat (Dx (atC R r.b) (C3 r))) i=if i=r.b then Dx (atC R r.b) (C3 r) else atC R i:=fun i hi=>Hq ok.b0 hi ce
 have nb:NN (atC R r.b):=g.nn _ (zj (Cs ok.b0 ce))
 refine⟨by rw[yl];exact g.len,?_,fun c hc=>?_,fun y h0 h1 p hp=>?_,fun r' bq ak=>?_⟩
 ·rw[bp u (by rw[<-hu];exact ok.a0)]
  by_cases h:u=r.b
  ·rw[if_pos h,<-h,g.st]
   have hx:=Uu ok
   cases q:C3 r with
   |none=>rfl
   |some z =>
    rw[q] at hx
    simp only[NN] at hx
    unfold Dx gD
    dsimp only
    rw[if_pos (by omega)]
  ·rw[if_neg h];exact g.st
 ·rcases List.mem_or_eq_of_mem_set hc with h|h
  ·exact g.nn c h
  ·rw[h];exact XE nb (Uu ok)
 ·rw[bp y h0] at hp
  by_cases h:y=r.b
  ·rw[if_pos h] at hp
   rcases Bk (atC R r.b) (C3 r) with ⟨e,_⟩|⟨e,_⟩
   ·rw[e] at hp;rw[h];exact g.sd r.b ok.b0 ok.b1 p hp
   ·rw[e] at hp
    obtain⟨l,hl,rfl⟩:=Jg hp
    rw[h,<-hu];exact Wk.one hm hl
  ·rw[if_neg h] at hp;exact g.sd y h0 h1 p hp
 ·have oq:r'∈rs:=ym bq
  rw[bp r'.b (Au r' oq).b0]
  rw[yu,hr] at bq
  rcases zv.mp bq with h|h
  ·by_cases hb:r'.b=r.b
   ·rw[if_pos hb]
    have:=g.ed r' h ak
    rw[hb] at this
    exact Ao (EB _ _) this
   ·rw[if_neg hb];exact g.ed r' h ak
  ·have e:r'=r:=by simpa using h
   rw[e,if_pos rfl]
   exact EC _ _
def at2 (ad:List (List Co)) (x y:Int):Co:=atC (ad.getD x.toNat []) y
def AB (ad:List (List Co)):List (List D):=ad.map fun R=>R.map cst
structure NR (m:Nat) (ad:List (List Co)):Prop where
 len:ad.length=m
 row:∀ R∈ad,R.length=m
theorem NR.get {m:Nat}{ad:List (List Co)}(h:NR m ad){x:Int}(h0:0<=x) (h1:x < m):ad[x.toNat]? =some (ad.getD x.toNat [])/\(ad.getD x.toNat []).length=m:=by
 have hl:x.toNat < ad.length:=by rw[h.len];omega
 have e:ad[x.toNat]? =some (ad.getD x.toNat []):=by rw[zB,zq hl];rfl
 exact⟨e,h.row _ (zj e)⟩
def put2 (ad:List (List Co)) (x y:Int) (v:Co):List (List Co):=ad.set x.toNat ((ad.getD x.toNat []).set y.toNat v)
theorem NR.put {m:Nat}{ad:List (List Co)}(h:NR m ad){x y:Int}(h0:0<=x) (h1:x < m) (h2:0<=y) (h3:y < m) (v:Co):NR m (put2 ad x y v)/\∀ x' y':Int,0<=x'->0<=y'->at2 (put2 ad x y v) x' y'=if x'=x/\y'=y then v else at2 ad x' y':=by
 obtain⟨e,hl⟩:=h.get h0 h1
 refine⟨⟨by unfold put2;rw[yl];exact h.len,fun R hR=>?_⟩,fun x' y' hx hy=>?_⟩
 ·unfold put2 at hR
  rcases List.mem_or_eq_of_mem_set hR with z|z
  ·exact h.row R z
  ·rw[z,yl];exact hl
 ·unfold at2 put2
  by_cases ul:x'=x
  ·subst ul
   have e2:(ad.set x'.toNat ((ad.getD x'.toNat []).set y.toNat v)).getD x'.toNat []=(ad.getD x'.toNat []).set y.toNat v:=by
    rw[zB (l:=ad.set _ _),zQ (by rw[h.len];omega)];rfl
   rw[e2,Hq h2 hy (by rw[hl];exact h3)]
   by_cases lu:y'=y
   ·rw[if_pos lu,if_pos ⟨rfl,lu⟩]
   ·rw[if_neg lu,if_neg (fun z=>lu z.2)]
  ·have e2:(ad.set x.toNat ((ad.getD x.toNat []).set y.toNat v)).getD x'.toNat []=ad.getD x'.toNat []:=by
    rw[zB,yn (by omega),zB]
   rw[e2,if_neg (fun z=>ul z.1)]
theorem R9 {m:Nat}{ad:List (List Co)}(h:NR m ad){x:Int}(h0:0<=x) (h1:x < m):rowAt (AB ad) (.int x)=.ok ((ad.getD x.toNat []).map cst):=by
 obtain⟨e,hl⟩:=h.get h0 h1
 have e1:Og (AB ad).length x=some x.toNat:=LG ⟨h0,by unfold AB;rw[zc,h.len];exact h1⟩
 have e2:(AB ad)[x.toNat]? =some ((ad.getD x.toNat []).map cst):=by unfold AB;rw[zF,e];rfl
 unfold rowAt
 simp only[e1,e2]
theorem cW {m:Nat}{ad:List (List Co)}(h:NR m ad){x y:Int}(h0:0<=x) (h1:x < m) (h2:0<=y) (h3:y < m):ZH (.lst ((ad.getD x.toNat []).map cst)) (.int y)=.ok (cst (at2 ad x y)) :=
 E9 h2 (by rw[(h.get h0 h1).2];exact h3)
theorem cX {m:Nat}{ad:List (List Co)}(h:NR m ad){x y:Int}(h0:0<=x) (h1:x < m) (h2:0<=y) (h3:y < m) (i:Nat) (ρ:Ab) (v:Co):cQ i ρ (AB ad) (cst v) (.int x) ((ad.getD x.toNat []).map cst) (.int y)=.ok (.next (ρ.set i (some (.ow (.rows (AB (put2 ad x y v))))))):=by
 have e1:Og (AB ad).length x=some x.toNat:=LG ⟨h0,by unfold AB;rw[zc,h.len];exact h1⟩
 have e2:Og ((ad.getD x.toNat []).map cst).length y=some y.toNat:=LG ⟨h2,by rw[zc,(h.get h0 h1).2];exact h3⟩
 unfold cQ
 simp only[e1,e2]
 unfold AB put2
 rw[List.map_set,List.map_set]
end L2
namespace L2
open PySem PySem.Spec PyProof.Rows
theorem FW.congr {m k:Nat}{rs:List Road}{A B:Int->Int->Co}(F:FW m k rs A) (hk:k<=m) (Au:∀ r∈rs,Ho m r) (h:∀ x y:Int,0<=x->x < m->0<=y->y < m->B x y=A x y):FW m k rs B:=by
 refine⟨fun x h0 h1=>?_,fun x y h0 h1 h2 h3=>?_,fun x y h0 h1 h2 h3 p hp=>?_,fun r hr=>?_,fun v x y v0 v1 h0 h1 h2 h3=>?_⟩
 ·rw[h x x h0 h1 h0 h1];exact F.dg x h0 h1
 ·rw[h x y h0 h1 h2 h3];exact F.nn x y h0 h1 h2 h3
 ·rw[h x y h0 h1 h2 h3] at hp;exact F.sd x y h0 h1 h2 h3 p hp
 ·have ok:=Au r hr
  rw[h r.a r.b ok.a0 ok.a1 ok.b0 ok.b1];exact F.ed r hr
 ·rw[h x y h0 h1 h2 h3,h x v h0 h1 v0 (by omega),h v y v0 (by omega) h2 h3]
  exact F.tr v x y v0 v1 h0 h1 h2 h3
theorem XM {m:Nat}{rs:List Road}{ad:List (List Co)}(hM:NR m ad) (Au:∀ r∈rs,Ho m r) (h:∀ u:Nat,u < m->ML m rs u rs.length (ad.getD u [])):FW m 0 rs (at2 ad):=by
 have key:∀ x:Int,0<=x->x < m->ML m rs x rs.length (ad.getD x.toNat []):=fun x h0 h1=>by
  have:=h x.toNat (by omega)
  rw[Int.toNat_of_nonneg h0] at this
  exact this
 refine⟨fun x h0 h1=>(key x h0 h1).st,fun x y h0 h1 h2 h3=>(key x h0 h1).nn _ (zj (Cs h2 (by rw[(key x h0 h1).len];exact h3))),fun x y h0 h1 h2 h3 p hp=>(key x h0 h1).sd y h2 h3 p hp,fun r hr=>?_,fun v x y v0 v1=>by omega⟩
 have ok:=Au r hr
 exact (key r.a ok.a0 ok.a1).ed r (by rw[yr];exact hr) rfl
def hit (rs:List Road) (cs:List Co) (p:Nat) (k:Nat):Bool:=match rs[k]? with
 |some r=>decide (r.b=(p:Int)) && decide (Aq (atC cs r.a) (C3 r)≠none) && decide (Aq (atC cs r.a) (C3 r)=atC cs (p:Int))
 |none=>false
end L2
namespace L2
open PySem PySem.Spec PyProof.Rows
theorem Wk.nn {m:Nat}{rs:List Road}(Au:∀ r∈rs,Ho m r){u w:Int}{c:Int×Int}(h:Wk rs u w c):0<=c.1/\0<=c.2:=by
 induction h with
 |nil=>exact⟨Int.le_refl _,Int.le_refl _⟩
 |cons hr hl _ ih =>
  have:=(Au _ hr).l0 _ hl
  simp only
  omega
end L2
namespace L2
open PySem PySem.Spec PyProof.Rows
theorem kH {P P2:Addr->Prop}{H H':Hp}(t:Tr P P H P2 H'){a:Addr}(h:P2 a) (hn:¬ P a):H a=none:=by
 cases q:H a with
 |none=>rfl
 |some o =>
  have:=t.1 a o (by rw[Aw hn];exact q)
  exact ((Al this).1 h).elim
end L2
namespace L2
open PySem PySem.Spec PyProof.Rows
section
variable {X:Cx}{WX:Str->Hp->Prop}{c:Bool}{P0:Ew}{P:Addr->Prop}{H:Hp}{σ:St}{ρ:Ab}{a b e:Expr}{f g:Ab->M D}{pos:Pos}
def cY:V->List V->Hp->VK->Prop:=fun x vs H Q=>∃(l:Addr) (xs:List V) (k:Nat) (y:V),x=.ref l/\vs=[.int (k:Int),y]/\H l=some (.lst xs)/\k<=xs.length/\xs.length < sizeLine/\Q .Az (upd H l (.lst (xs.take k++y::xs.drop k)))
theorem Ra:∀ {xs:List V}{us:List Value}{y:V}{w:Value},Vals xs us->∀ k:Nat,RelV y w->Vals (xs.take k++y::xs.drop k) (us.take k++w::us.drop k)
 |_,_,_,_,r,0,h=>.cons h r
 |_,_,_,_,.nil,k + 1,h=>.cons h .nil
 |_,_,_,_,.cons a t,k + 1,h=>.cons a (Ra t k h)
theorem XN {prog:Program}{wd:World}{A:Around}{E:Value->Shared->Prop}{s:Shared}{Q:Value->Shared->Prop}{l:Addr}{items:Array Value}{n:Nat}(x:Int) (u:Tok) (y:Value) (hc:¬(!Builtin.List.listFitsIndex x)=true) (hs:items.size<=sizeLine)
 (e:s.heap.get? l=some { cls:=.type "list",data:=.seq items n })
 (h:Q .none { s with heap:=s.heap.update l (yF fun xs=>(xs.extract 0 (if x < 0 then (x + (xs.size:Int)).toNat else min x.toNat xs.size)).push y++xs.extract (if x < 0 then (x + (xs.size:Int)).toNat else min x.toNat xs.size)),toks:=s.toks }):wpAny (model prog wd) A (call (.builtin "list.insert") [.ref l,.int x u,y]) Q E s:=by
 have hm:=PySem.AutoSeq1.list_insert_list_int_val_1 l items n x u y hc hs
 have ha:=PySem.F.args_list_insert_3 (.ref l) (.int x u) y
 exact call_meets PySem.F.slot_list_insert ⟨_,e,rfl⟩ PySem.F.entry_list_insert ha hm ⟨e,h⟩
theorem VP:jJ X "list.insert" cY:=by
 intro pins s σ H x vs v us Q I rx rv h
 obtain⟨l,xs,k,y,rfl,rfl,hH,hk,hz,q⟩:=h
 cases rx
 obtain⟨u,w,rfl,ru,bz⟩:=rv.two
 obtain⟨tk,rfl⟩:=ru
 obtain⟨z,aa,n,r,hl,e⟩:=I.QL hH
 have hlen:=r.length
 have xU:=Kg
 have ez:¬ (!Builtin.List.listFitsIndex (k:Int))=true:=by
  unfold Builtin.List.listFitsIndex
  simp
  omega
 have hsz:aa.toArray.size<=sizeLine:=by rw[zh,<-hl];exact yj hz
 refine XN (k:Int) tk w ez hsz e ?_
 refine⟨.Az,_,I.Vn (its':=aa.take k++w::aa.drop k) hH e ?_ ?_ ?_,rfl,q⟩
 ·have e1:¬ ((k:Int) < 0):=by omega
  have e2:min (k:Int).toNat aa.toArray.size=k:=by rw[zX,zh];omega
  simp only[e1,if_false,e2]
  apply Array.toList_inj.mp
  simp
  rw[List.take_of_length_le (by rw[List.length_drop];exact zx _)]
 ·exact Ra r k bz
 ·rw[zJ,zk,yt,List.length_drop]
  omega
def VQ (i:Nat) (ρ:Ab) (mk md:M D):M Out:=match ρ[i]? with
 |some (some (.own ds))=>mk.bind fun k=>md.bind fun d=>match k with
  | .int j=>if 0<=j/\j.toNat<=ds.length/\ds.length < 1000 then .ok (.next (ρ.set i (some (.own (ds.take j.toNat++d::ds.drop j.toNat))))) else .bad
  |_=>.bad
 |_=>.bad
theorem OD {K:za}{H:Hp}:∀ {vs:List V}{ds:List D}(n:Nat),Ag K H vs ds->Ag K H (vs.take n) (ds.take n)
 |_,_,0,_=>by rw[List.take_zero,List.take_zero];exact .nil
 |_,_,_ + 1,.nil=>.nil
 |_,_,n + 1,.cons h t=>by rw[List.take_succ_cons,List.take_succ_cons];exact .cons h (OD n t)
theorem OE {K:za}{H:Hp}:∀ {vs:List V}{ds:List D}(n:Nat),Ag K H vs ds->Ag K H (vs.drop n) (ds.drop n)
 |_,_,0,h=>h
 |_,_,_ + 1,.nil=>.nil
 |_,_,n + 1,.cons h t=>by rw[List.drop_succ_cons,List.drop_succ_cons];exact OE n t
theorem Rb {K:za}{H:Hp}:∀ {vs ws:List V}{ds es:List D},Ag K H vs ds->Ag K H ws es->Ag K H (vs++ws) (ds++es)
 |_,_,_,_,.nil,k=>k
 |_,_,_,_,.cons h t,k=>.cons h (Rb t k)
theorem VR (i:Nat){x:Str}{p1 apos ac:Pos}(hv:PE X (.Name x p1) (Li i)) (hk:DE X WX true a f) (hd:DE X WX true b g) (hs:starEach [a,b] X.env=(false,eval a X.env)::starEach [b] X.env:=by rfl) (bh:starEach [b] X.env=[(false,eval b X.env)]:=by rfl)
 (bj:swapsWith (.Call (.Attribute (.Name x p1) "insert" apos) [a,b] [] ac) none pos.line X.env=pure false:=by rfl)
 (av:attributeBase (.Name x p1) "insert" X.env (eval (.Name x p1) X.env)=eval (.Name x p1) X.env:=by rfl)
 (aV:((backTo ac (starEach [a,b] X.env)).all (fun x => !x.1) && (backToKw ac (keywordEach [] X.env)).all (fun x=>x.1.isSome) && decide (([a,b]:List Expr).length + ([]:List Keyword).length + (if ([]:List Keyword).isEmpty then 0 else 1) < 30))=true:=by rfl)
 (aw:(apos.endLine == ac.line)=true:=by rfl) (ar:(backTo ac (starEach [b] X.env)).any (·.1)=false:=by rfl) :
 DS X WX (.Expr (.Call (.Attribute (.Name x p1) "insert" apos) [a,b] [] ac) pos) (fun ρ=>VQ i ρ (f ρ) (g ρ)):=by
 obtain⟨ta,a1,a2⟩:=hk
 obtain⟨tb,b1,b2⟩:=hd
 refine⟨_,Fo (QK y9 PySem.F.slot_list_insert PySem.F.type_list_insert VP hv (Be a1 (Be b1 Cg bh) hs) av aV aw hs ar) bj,fun P0 P σ H Z ρ E h=>?_⟩
 dsimp only at h
 unfold VQ at h
 split at h
 ·rename_i ds e1
  obtain⟨p,xs,h1,h2,h3,h4,h5⟩:=E.own i ds e1
  refine⟨_,h1,.inl ⟨rfl,xs,.of h2⟩,a2 P0 P σ H _ ρ E ?_⟩
  cases q:f ρ with
  |bad=>rw[q] at h;exact h
  |ex y=>rw[q] at h;exact fun H' s=>h H' P (E.tr s)
  |ok k =>
   rw[q] at h
   simp only[M.A7] at h
   intro w H1 s1 hw
   have E1:=E.same s1
   refine b2 P0 P σ H1 _ ρ E1 ?_
   cases q2:g ρ with
   |bad=>rw[q2] at h;exact h
   |ex y=>rw[q2] at h;exact fun H' s=>h H' P ((E.tr s1).trans (E1.tr s))
   |ok d =>
    rw[q2] at h
    simp only[M.A7] at h
    intro v H2 s2 om
    have E2:=E1.same s2
    have c9:=s1.trans s2
    split at h
    ·rename_i j
     cases hw
     by_cases hj:0<=j/\j.toNat<=ds.length/\ds.length < 1000
     ·rw[if_pos hj] at h
      have vZ:((j.toNat:Nat):Int)=j:=Int.toNat_of_nonneg hj.1
      have um:=h5.mono c9.del
      refine⟨p,xs,j.toNat,v,rfl,by rw[vZ],c9 _ _ h2,by rw[h5.length];exact hj.2.1,AF (by rw[h5.length];exact yj hj.2.2),?_⟩
      obtain⟨E3,t3⟩:=E2.mut e1 h1 h3 h4 (Rb (OD j.toNat um) (.cons om (OE j.toNat um)))
      exact h _ _ _ ((E.tr c9).trans t3) E3
     ·rw[if_neg hj] at h;exact h.elim
    ·exact h.elim
 ·exact h.elim
def oR (ds:List D):M D:=match ds with
 |[.lst xs]=>(match GA xs with|some bs=>.ok (.bl (bs.any id))|none=>.bad)
 |_=>.bad
end
end L2
namespace L2
open PySem PySem.Spec PyProof.Rows
def kids:OT->List OT
 | .sh _=>[]
 | .lst ts=>ts
 | .tup ts=>ts
 | .Bg _ _ ts=>ts
 | .ins _ _ ts=>ts
def LH:OT->List OT->OT
 | .sh d,_=>.sh d
 | .lst _,ts=>.lst ts
 | .tup _,ts=>.tup ts
 | .Bg b ks _,ts=>.Bg b ks ts
 | .ins x ns _,ts=>.ins x ns ts
def Ku:OT->List Nat->Option OT
 |t,[]=>some t
 |t,j::π=>match (kids t)[j]? with|some s=>Ku s π|none=>none
def EV:OT->List Nat->OT->OT
 |_,[],u=>u
 |t,j::π,u=>match (kids t)[j]? with|some s=>LH t ((kids t).set j (EV s π u))|none=>t
@[simp] theorem XO (t:OT):Ku t []=some t:=by unfold Ku;rfl
@[simp] theorem Fb (t u:OT):EV t [] u=u:=by unfold EV;rfl
theorem VS {t s:OT}{j:Nat}{π:List Nat}(h:(kids t)[j]? =some s):Ku t (j::π)=Ku s π:=by rw[Ku,h]
theorem VT {t s u:OT}{j:Nat}{π:List Nat}(h:(kids t)[j]? =some s):EV t (j::π) u=LH t ((kids t).set j (EV s π u)):=by rw[EV,h]
section
variable {K:za}{H H':Hp}{P P':Addr->Prop}
def CG (K:za) (H:Hp) (P:Addr->Prop) (v:V) (t:OT) (q:List Addr) (xs:List V):Prop:=match t with
 | .sh _=>False
 | .lst ts=>∃ p,v=.ref p/\q=[p]/\H p=some (.lst xs)
 | .tup ts=>∃ p,v=.ref p/\q=[]/\del H P p=some (.tup xs)
 | .Bg false ks ts=>∃ p kvs,v=.ref p/\q=[p]/\H p=some (.dK kvs)/\ks=(kvs.map fun kv=>Dl kv.1)/\xs=kvs.map yv
 | .Bg true ks ts=>∃ p kvs,v=.ref p/\q=[p]/\H p=some (.dT kvs)/\ks=(kvs.map fun kv=>.tup (kv.1.map Dl))/\xs=kvs.map yv
 | .ins x ns ts=>∃ p C dx fs,v=.ref p/\q=[p]/\zD K mainGlobals x=some (some (.ref C))/\H p=some (.ins C dx fs)/\ns=fs.map zI/\xs=fs.map yv
theorem CG.own {v:V}{t:OT}{q:List Addr}{xs:List V}{fp:List Addr}(h:CG K H P v t q xs) (r:AI K H P xs (kids t) fp):C1 K H P v t (q++fp):=by
 cases t with
 |sh d=>exact h.elim
 |lst ts=>obtain⟨p,rfl,rfl,h⟩:=h;exact .lst h r
 |tup ts=>obtain⟨p,rfl,rfl,h⟩:=h;exact .tup h r
 |Bg b ks ts =>
  cases b with
  |false=>obtain⟨p,kvs,rfl,rfl,h,rfl,rfl⟩:=h;exact .dK h r
  |true=>obtain⟨p,kvs,rfl,rfl,h,rfl,rfl⟩:=h;exact .dT h r
 |ins x ns ts=>obtain⟨p,C,dx,fs,rfl,rfl,n,h,rfl,rfl⟩:=h;exact .ins n h r
theorem C1.node {v:V}{t:OT}{fp:List Addr}(h:C1 K H P v t fp) (hk:kids t≠[]\/∀ d,t≠.sh d):∃ q xs fq,fp=q++fq/\CG K H P v t q xs/\AI K H P xs (kids t) fq:=by
 cases h with
 |sh h=>rcases hk with hk|hk;exact (hk rfl).elim;exact (hk _ rfl).elim
 |lst h r=>exact⟨[_],_,_,rfl,⟨_,rfl,rfl,h⟩,r⟩
 |tup h r=>exact⟨[],_,_,rfl,⟨_,rfl,rfl,h⟩,r⟩
 |dK h r=>exact⟨[_],_,_,rfl,⟨_,_,rfl,rfl,h,rfl,rfl⟩,r⟩
 |dT h r=>exact⟨[_],_,_,rfl,⟨_,_,rfl,rfl,h,rfl,rfl⟩,r⟩
 |ins n h r=>exact⟨[_],_,_,rfl,⟨_,_,_,_,rfl,rfl,n,h,rfl,rfl⟩,r⟩
theorem CG.move (sm:Ad (del H P) (del H' P')){v:V}{t:OT}{q:List Addr}{xs:List V}(k:∀ a∈q,H' a=H a) (h:CG K H P v t q xs):CG K H' P' v t q xs:=by
 cases t with
 |sh d=>exact h.elim
 |lst ts=>obtain⟨p,rfl,rfl,h⟩:=h;exact⟨p,rfl,rfl,(k p zd).trans h⟩
 |tup ts=>obtain⟨p,rfl,rfl,h⟩:=h;exact⟨p,rfl,rfl,sm _ _ h⟩
 |Bg b ks ts =>
  cases b with
  |false=>obtain⟨p,kvs,rfl,rfl,h,rfl,rfl⟩:=h;exact⟨p,kvs,rfl,rfl,(k p zd).trans h,rfl,rfl⟩
  |true=>obtain⟨p,kvs,rfl,rfl,h,rfl,rfl⟩:=h;exact⟨p,kvs,rfl,rfl,(k p zd).trans h,rfl,rfl⟩
 |ins x ns ts=>obtain⟨p,C,dx,fs,rfl,rfl,n,h,rfl,rfl⟩:=h;exact⟨p,C,dx,fs,rfl,rfl,n,(k p zd).trans h,rfl,rfl⟩
theorem CG.kids {v:V}{t:OT}{q:List Addr}{xs:List V}(h:CG K H P v t q xs) (ts:List OT):CG K H P v (LH t ts) q xs:=by
 cases t with
 |sh d=>exact h.elim
 |lst us=>exact h
 |tup us=>exact h
 |Bg b ks us=>cases b<;>exact h
 |ins x ns us=>exact h
theorem Pw {v:V}{t:OT}{q:List Addr}{xs:List V}(h:CG K H P v t q xs) (ts:List OT):L2.kids (LH t ts)=ts:=by
 cases t with
 |sh d=>exact h.elim
 |lst us=>rfl
 |tup us=>rfl
 |Bg b ks us=>rfl
 |ins x ns us=>rfl
theorem CG.inj {v:V}{t:OT}{q q':List Addr}{xs du:List V}(h:CG K H P v t q xs) (h':CG K H P v t q' du):q=q'/\xs=du:=by
 cases t with
 |sh d=>exact h.elim
 |lst ts=>obtain⟨p,rfl,rfl,h⟩:=h;obtain⟨p',e,rfl,h'⟩:=h';cases e;rw[h] at h';cases h';exact⟨rfl,rfl⟩
 |tup ts=>obtain⟨p,rfl,rfl,h⟩:=h;obtain⟨p',e,rfl,h'⟩:=h';cases e;rw[h] at h';cases h';exact⟨rfl,rfl⟩
 |Bg b ks ts =>
  cases b with
  |false=>obtain⟨p,kvs,rfl,rfl,h,_,rfl⟩:=h;obtain⟨p',oy,e,rfl,h',_,rfl⟩:=h';cases e;rw[h] at h';cases h';exact⟨rfl,rfl⟩
  |true=>obtain⟨p,kvs,rfl,rfl,h,_,rfl⟩:=h;obtain⟨p',oy,e,rfl,h',_,rfl⟩:=h';cases e;rw[h] at h';cases h';exact⟨rfl,rfl⟩
 |ins x ns ts=>obtain⟨p,C,dx,fs,rfl,rfl,n,h,_,rfl⟩:=h;obtain⟨p',C',xV,cg,e,rfl,n',h',_,rfl⟩:=h';cases e;rw[h] at h';cases h';exact⟨rfl,rfl⟩
inductive Jh (K:za) (H:Hp) (P:Addr->Prop):V->OT->List Nat->V->OT->Prop
 |nil {v t}:Jh K H P v t [] v t
 |cons {v t q xs j x s π v1 t1}:CG K H P v t q xs->xs[j]? =some x->(kids t)[j]? =some s->Jh K H P x s π v1 t1->Jh K H P v t (j::π) v1 t1
theorem Jh.sub {v v1:V}{t t1:OT}{π:List Nat}(h:Jh K H P v t π v1 t1):Ku t π=some t1:=by
 induction h with
 |nil=>exact XO _
 |cons _ _ hs _ ih=>rw[VS hs];exact ih
theorem AI.get:∀ {xs:List V}{ts:List OT}{fp:List Addr}{j:Nat}{x:V}{s:OT},AI K H P xs ts fp->xs[j]? =some x->ts[j]? =some s->∃ pre fs post,fp=pre++fs++post/\C1 K H P x s fs
 |_,_,_,_,_,_,.nil,e,_=>by simp at e
 |_,_,_,0,_,_,.cons h r,e,e'=>by
  simp at e e';subst e;subst e'
  exact⟨[],_,_,rfl,h⟩
 |_,_,_,j + 1,_,_,.cons (fp:=f1) h r,e,e'=>by
  obtain⟨pre,fs,post,z,q⟩:=AI.get r (by simpa using e) (by simpa using e')
  exact⟨f1++pre,fs,post,by rw[z];simp,q⟩
theorem AI.len:∀ {xs:List V}{ts:List OT}{fp:List Addr},AI K H P xs ts fp->xs.length=ts.length
 |_,_,_,.nil=>rfl
 |_,_,_,.cons _ r=>by rw[zk,zk,r.len]
theorem C1.part {v v1:V}{t t1:OT}{π:List Nat}{fp:List Addr}(h:C1 K H P v t fp) (s:Jh K H P v t π v1 t1):∃ aA,C1 K H P v1 t1 aA/\(∀ a∈aA,a∈fp)/\(fp.Nodup->aA.Nodup):=by
 induction s generalizing fp with
 |nil=>exact⟨fp,h,fun _ h=>h,fun h=>h⟩
 |cons n hx hs _ ih =>
  obtain⟨q,xs,fq,rfl,n',r⟩:=h.node (.inl fun z=>by rw[z] at hs;cases hs)
  obtain⟨rfl,rfl⟩:=n.inj n'
  obtain⟨pre,fs,post,rfl,o⟩:=r.get hx hs
  obtain⟨aA,o1,k,kn⟩:=ih o
  exact⟨aA,o1,fun a ha=>zm _ (zN _ (zm _ (k a ha))),fun nd=>kn (zH.mp (zH.mp (zH.mp nd).2.1).1).2.1⟩
theorem AI.put (sm:Ad (del H P) (del H' P')):∀ {xs:List V}{ts:List OT}{fp:List Addr}{j:Nat}{x:V}{s s':OT}{fs cg:List Addr},AI K H P xs ts fp->xs[j]? =some x->ts[j]? =some s->C1 K H P x s fs->C1 K H' P' x s' cg->(∀ a∈fp,a∉fs->H' a=H a)->fp.Nodup->cg.Nodup->(∀ a∈cg,a∈fp->a∈fs)->
 ∃ ai,AI K H' P' xs (ts.set j s') ai/\ai.Nodup/\∀ a∈ai,a∈cg\/(a∈fp/\a∉fs)
 |_,_,_,_,_,_,_,_,_,.nil,e,_,_,_,_,_,_,_=>by simp at e
 |_,_,_,0,x,s,s',fs,cg,.cons (fp:=f1) (fq:=f2) h r,e,e',o,o',k,nd,dz,dj=>by
  simp at e e';subst e;subst e'
  have:=h.Cp o;subst this
  have b5:=zH.mp nd
  have k2:∀ a∈f2,a∉f1:=fun a ha hb=>b5.2.2 a hb a ha rfl
  refine⟨cg++f2,.cons o' (r.move sm fun a ha=>k a (zm _ ha) (k2 a ha)),zH.mpr ⟨dz,b5.2.1,fun a ha b hb z=>?_⟩,fun a ha=>?_⟩
  ·subst z
   exact k2 a hb (dj a ha (zm _ hb))
  ·rcases zv.mp ha with ha|ha
   ·exact .inl ha
   ·exact .inr ⟨zm _ ha,k2 a ha⟩
 |_,_,_,j + 1,x,s,s',fs,cg,.cons (vs:=ue) (ts:=wa) (fp:=f1) (fq:=f2) h r,e,e',o,o',k,nd,dz,dj=>by
  have b5:=zH.mp nd
  have e2:ue[j]? =some x:=by simpa using e
  have e3:wa[j]? =some s:=by simpa using e'
  obtain⟨pre,fx,post,hf,ox⟩:=r.get e2 e3
  have:=ox.Cp o;subst this
  have k1:∀ a∈f1,a∉fx:=fun a ha hb=>b5.2.2 a ha a (by rw[hf];exact zN _ (zm _ hb)) rfl
  obtain⟨ai,q1,q2,q3⟩:=AI.put sm r e2 e3 o o' (fun a ha hn=>k a (zm _ ha) hn) b5.2.1 dz (fun a ha hb=>dj a ha (zm _ hb))
  refine⟨f1++ai,.cons (h.move sm fun a ha=>k a (zN _ ha) (k1 a ha)) q1,zH.mpr ⟨b5.1,q2,fun a ha b hb z=>?_⟩,fun a ha=>?_⟩
  ·subst z
   rcases q3 a hb with z|z
   ·exact k1 a ha (dj a z (zN _ ha))
   ·exact b5.2.2 a ha a z.1 rfl
  ·rcases zv.mp ha with ha|ha
   ·exact .inr ⟨zN _ ha,k1 a ha⟩
   ·rcases q3 a ha with z|z
    ·exact .inl z
    ·exact .inr ⟨zm _ z.1,z.2⟩
theorem C1.put (sm:Ad (del H P) (del H' P')){v v1:V}{t t1 u:OT}{π:List Nat}{fp aA fu:List Addr}(h:C1 K H P v t fp) (s:Jh K H P v t π v1 t1) (o:C1 K H P v1 t1 aA) (o':C1 K H' P' v1 u fu) (k:∀ a∈fp,a∉aA->H' a=H a) (nd:fp.Nodup) (dz:fu.Nodup) (dj:∀ a∈fu,a∈fp->a∈aA) :
 ∃ ai,C1 K H' P' v (EV t π u) ai/\ai.Nodup/\∀ a∈ai,a∈fu\/(a∈fp/\a∉aA):=by
 induction s generalizing fp with
 |nil =>
  rw[Fb]
  exact⟨fu,o',dz,fun a ha=>.inl ha⟩
 | @cons v t q xs j x s π v1 t1 n hx hs s1 ih =>
  obtain⟨q',du,fq,rfl,n',r⟩:=h.node (.inl fun z=>by rw[z] at hs;cases hs)
  obtain⟨rfl,rfl⟩:=n.inj n'
  have jn:=zH.mp nd
  obtain⟨pre,fs,post,hf,ox⟩:=r.get hx hs
  have sub:∀ a∈fs,a∈fq:=fun a ha=>by rw[hf];exact zN _ (zm _ ha)
  have wb:fs.Nodup:=by
   have:=jn.2.1
   rw[hf] at this
   exact (zH.mp (zH.mp this).1).2.1
  obtain⟨fz,oz,kz,_⟩:=ox.part s1
  have:=oz.Cp o;subst this
  obtain⟨cg,q1,q2,q3⟩:=ih ox o o' (fun a ha hn=>k a (zm _ (sub a ha)) hn) wb (fun a ha hb=>dj a ha (zm _ (sub a hb)))
  have qf:∀ a∈q,a∉fs:=fun a ha hb=>jn.2.2 a ha a (sub a hb) rfl
  have kq:∀ a∈q,H' a=H a:=fun a ha=>k a (zN _ ha) fun z=>qf a ha (kz a z)
  obtain⟨ai,p1,p2,p3⟩:=r.put sm hx hs ox q1 (fun a ha hn=>k a (zm _ ha) fun z=>hn (kz a z)) jn.2.1 q2 (fun a ha hb=>by
   rcases q3 a ha with z|z
   ·exact kz a (dj a z (zm _ hb))
   ·exact z.1)
  rw[VT hs]
  have n2:=(n.move sm kq).kids ((kids t).set j (EV s π u))
  have o2:=n2.own (fp:=ai) (by rw[Pw n];exact p1)
  refine⟨q++ai,o2,zH.mpr ⟨jn.1,p2,fun a ha b hb z=>?_⟩,fun a ha=>?_⟩
  ·subst z
   rcases p3 a hb with z|z
   ·rcases q3 a z with y|y
    ·exact qf a ha (kz a (dj a y (zN _ ha)))
    ·exact qf a ha y.1
   ·exact jn.2.2 a ha a z.1 rfl
  ·rcases zv.mp ha with ha|ha
   ·exact .inr ⟨zN _ ha,fun z=>qf a ha (kz a z)⟩
   ·rcases p3 a ha with z|z
    ·rcases q3 a z with y|y
     ·exact .inl y
     ·exact .inr ⟨zm _ (sub a y.1),y.2⟩
    ·exact .inr ⟨zm _ z.1,fun y=>z.2 (kz a y)⟩
end
end L2
namespace L2
open PySem PySem.Spec PyProof.Rows
def PU (P:Addr->Prop) (fp:List Addr):Addr->Prop:=fun a=>P a\/a∈fp
theorem MM {P:Addr->Prop}{fp:List Addr}:∀ a,P a->PU P fp a:=fun a h=>.inl h
theorem Dd {P:Addr->Prop}{fp:List Addr}{H H':Hp}(s:Ad H H') (hn:∀ a∈fp,H a=none):Ad (del H P) (del H' (PU P fp)):=fun b o e=>by
 obtain⟨h1,h2⟩:=Al e
 rw[Aw fun z=>z.elim h1 fun w=>by rw[hn b w] at h2;cases h2]
 exact s b o h2
theorem SW {P:Addr->Prop}{H:Hp}:del H (PU P [])=del H P:=by
 funext b
 by_cases h:P b
 ·rw[CZ h,CZ (.inl h)]
 ·rw[Aw h,Aw fun z=>z.elim h fun w=>by cases w]
theorem Kv {P:Addr->Prop}{fp:List Addr}{K:za}{H':Hp}{Q:Addr->Prop}{v:V}{t:OT}(hP:∀ a,P a->Dn H' a) (o:C1 K H' Q v t fp):∀ a,PU P fp a->Dn H' a:=fun a h=>h.elim (hP a) (o.Cn a)
theorem Ux {P:Addr->Prop}{fp:List Addr}{K:za}{H':Hp}{Q:Addr->Prop}{v:List V}{t:List OT}(hP:∀ a,P a->Dn H' a) (o:AI K H' Q v t fp):∀ a,PU P fp a->Dn H' a:=fun a h=>h.elim (hP a) (o.Cn a)
theorem An.more {K:za}{P0:Ew}{P P':Addr->Prop}{H H':Hp}{σ:St}{ρ:Ab}(E:An K P0 P H σ ρ) (e:Ad H H') (hs:∀ a,P a->P' a) (ht:∀ a,P' a->Dn H' a) (sm:Ad (del H P) (del H' P')):An K P0 P' H' σ ρ:=by
 have keep:∀(c:Cl) (v:V) (fp:List Addr),Dm K H P c v fp->∀ a∈fp,H' a=H a:=fun c v fp o a ha=>by
  obtain⟨xs,q⟩:=o.at a ha
  rw[q];exact e _ _ q
 exact⟨fun a h=>hs a (E.sub a h),ht,fun i d h=>let ⟨v,h1,h2⟩:=E.val i d h;⟨v,h1,h2.mono sm⟩,
  fun i c h io=>let ⟨v,fp,h1,h2,h3,h4⟩:=E.ows i c h io;⟨v,fp,h1,h2.move sm (keep c v fp h2),fun a ha=>⟨hs a (h3 a ha).1,(h3 a ha).2⟩,h4⟩,
  fun i j c c' v v' fp ai hi hj si sj h h' af=>E.Xg sm (fun v fp _ o a ha=>keep _ _ _ o a ha) (fun v fp _ o a ha=>keep _ _ _ o a ha) hi hj si sj h h' af,E.len,E.pin⟩
def XQ (K:za) (WX:Str->Hp->Prop) (P:Addr->Prop) (H:Hp) (Q:VK):M OT->Prop
 | .ok t=>∀ v fp H',Ad H H'->(∀ a∈fp,H a=none)->fp.Nodup->C1 K H' (PU P fp) v t fp->Q v H'
 | .ex x=>∀ H',Ad H H'->WX x H'
 | .bad=>False
def wA (K:za) (WX:Str->Hp->Prop) (P:Addr->Prop) (H:Hp) (Q:List V->Hp->Prop):M (List OT)->Prop
 | .ok t=>∀ v fp H',Ad H H'->(∀ a∈fp,H a=none)->fp.Nodup->AI K H' (PU P fp) v t fp->Q v H'
 | .ex x=>∀ H',Ad H H'->WX x H'
 | .bad=>False
theorem Fc {H H':Hp}(s:Ad H H'){a:Addr}(h:H' a=none):H a=none:=by
 cases q:H a with
 |none=>rfl
 |some o=>rw[s a o q] at h;cases h
section
variable {K:za}{WX:Str->Hp->Prop}{P:Addr->Prop}{H H':Hp}
theorem XQ.same {Q:VK}{m:M OT}(h:XQ K WX P H Q m) (e:Ad H H'):XQ K WX P H' Q m:=by
 cases m with
 |ok d=>exact fun v fp H2 q hn nd o=>h v fp H2 (e.trans q) (fun a ha=>Fc e (hn a ha)) nd o
 |ex x=>exact fun H2 q=>h H2 (e.trans q)
 |bad=>exact h
end
def DN (X:Cx) (WX:Str->Hp->Prop) (e:Expr) (f:Ab->M OT):Prop :=
 ∃ t,PE X e t/\∀ P0 P σ H Q ρ,An X.K P0 P H σ ρ->XQ X.K WX P H Q (f ρ)->t σ H Q
def oS (X:Cx) (WX:Str->Hp->Prop) (es:List Expr) (f:Ab->M (List OT)):Prop :=
 ∃ t,PA X es t/\(∀ P0 P σ H Q ρ,An X.K P0 P H σ ρ->wA X.K WX P H Q (f ρ)->t σ H Q)/\∀ ρ ts,f ρ=.ok ts->ts.length=es.length
def oU (d:D):M OT:=.ok (.sh d)
def mG (t:OT):M D:=.ok (er t)
section
variable {X:Cx}{WX:Str->Hp->Prop}{c:Bool}{P0:Ew}{P:Addr->Prop}{H:Hp}{σ:St}{ρ:Ab}{a b e:Expr}{f g:Ab->M D}{fn:Ab->M OT}{pos:Pos}{es:List Expr}
theorem AX (h:DE X WX true e f):DN X WX e (fun ρ=>(f ρ).bind oU):=by
 obtain⟨t,h1,h2⟩:=h
 refine⟨t,h1,fun P0 P σ H Q ρ E g=>h2 P0 P σ H Q ρ E ?_⟩
 dsimp only at g
 cases q:f ρ with
 |bad=>rw[q] at g;exact g
 |ex x=>rw[q] at g;exact g
 |ok d=>rw[q] at g;exact fun v H' s hv=>g v [] H' s (fun a ha=>by cases ha) y4 (.sh (by rw[SW];exact hv))
theorem Aj (h:DN X WX e fn):DE X WX c e (fun ρ=>(fn ρ).bind mG):=by
 suffices z:DE X WX true e (fun ρ=>(fn ρ).bind mG) by
  cases c with
  |true=>exact z
  |false=>exact Km z
 obtain⟨t,h1,h2⟩:=h
 refine⟨t,h1,fun P0 P σ H Q ρ E g=>h2 P0 P σ H Q ρ E ?_⟩
 dsimp only at g
 cases q:fn ρ with
 |bad=>rw[q] at g;exact g
 |ex x=>rw[q] at g;exact g
 |ok d =>
  rw[q] at g
  exact fun v fp H' s hn nd o=>g v H' s (o.has MM fun a ha z=>(E.Cn a z).no (hn a ha))
theorem Fx:oS X WX [] (fun _=>.ok []):=⟨_,Cg,fun P0 P σ H Q ρ E h=>h [] [] H (Ad.refl H) (fun a ha=>by cases ha) y4 .nil,fun ρ ds h=>by cases h;rfl⟩
theorem Rc {es:List Expr}{fs:Ab->M (List OT)}(he:DN X WX e fn) (hr:oS X WX es fs) (hs:starEach (e::es) X.env=(false,eval e X.env)::starEach es X.env:=by rfl) :
 oS X WX (e::es) (fun ρ=>(fn ρ).bind fun d=>(fs ρ).bind fun ds=>.ok (d::ds)):=by
 obtain⟨te,e1,e2⟩:=he
 obtain⟨tr,r1,r2,r3⟩:=hr
 refine⟨_,Be e1 r1 hs,fun P0 P σ H Q ρ E h=>?_,fun ρ ds h=>?_⟩
 rotate_left
 ·dsimp only at h
  cases q:fn ρ with
  |bad=>rw[q] at h;cases h
  |ex x=>rw[q] at h;cases h
  |ok x =>
   rw[q] at h
   cases q2:fs ρ with
   |bad=>rw[q2] at h;cases h
   |ex x=>rw[q2] at h;cases h
   |ok xs =>
    rw[q2] at h
    cases h
    rw[zk,zk,r3 ρ xs q2]
 dsimp only at h
 refine e2 P0 P σ H _ ρ E ?_
 cases q:fn ρ with
 |bad=>rw[q] at h;exact h
 |ex x=>rw[q] at h;exact h
 |ok x =>
  rw[q] at h
  intro v fp H1 s1 n1 ge o1
  have E1:An X.K P0 (PU P fp) H1 σ ρ:=E.more s1 MM (Kv (E.same s1).Cn o1) (Dd s1 n1)
  refine r2 P0 (PU P fp) σ H1 _ ρ E1 ?_
  cases q2:fs ρ with
  |bad=>rw[q2] at h;exact h
  |ex y=>rw[q2] at h;exact fun H' s=>h H' (s1.trans s)
  |ok ds =>
   rw[q2] at h
   intro vs fq H2 s2 n2 b5 o2
   have dj:∀ a∈fp,a∉fq:=fun a ha hb=>(o1.Cn a ha).no (n2 a hb)
   have eP:PU (PU P fp) fq=PU P (fp++fq):=by
    funext a
    simp only[PU,zv,or_assoc]
   have sm:Ad (del H1 (PU P fp)) (del H2 (PU P (fp++fq))):=by rw[<-eP];exact Dd s2 n2
   refine h _ (fp++fq) H2 (s1.trans s2) (fun a ha=>?_) (zH.mpr ⟨ge,b5,fun a ha b hb z=>dj a ha (by rw[z];exact hb)⟩) (.cons (o1.move sm fun a ha=>?_) (by rw[<-eP];exact o2))
   ·rcases zv.mp ha with ha|ha
    ·exact n1 a ha
    ·exact Fc s1 (n2 a ha)
   ·obtain⟨o,z,_⟩:=o1.Cn a ha
    rw[z];exact s2 _ _ z
theorem kI {P:Addr->Prop}{fp:List Addr}{p:Addr}{H:Hp}{o:HO}(hn:H p=none) (hP:∀ a,PU P fp a->Dn H a):Ad (del H (PU P fp)) (del (upd H p o) (PU P (p::fp))):=fun b u e=>by
 obtain⟨h1,h2⟩:=Al e
 have hb:b≠p:=Ay h2 hn
 rw[Aw fun z=>z.elim (fun z=>h1 (.inl z)) fun w=>(zo.mp w).elim hb fun w=>h1 (.inr w),Ah hb]
 exact h2
theorem Kw {fs:Ab->M (List OT)}(ha:oS X WX es fs) (hz:es.length<=1000:=by decide):DN X WX (.List es pos) (fun ρ=>(fs ρ).bind fun ts=>.ok (.lst ts)):=by
 obtain⟨ta,a1,a2,a3⟩:=ha
 refine⟨_,Pe a1,fun P0 P σ H Q ρ E h=>?_⟩
 dsimp only at h
 refine a2 P0 P σ H _ ρ E ?_
 cases q:fs ρ with
 |bad=>rw[q] at h;exact h
 |ex y=>rw[q] at h;exact h
 |ok ts =>
  rw[q] at h
  simp only[M.A7] at h
  intro vs fp H1 s1 n1 ge o1
  have hP:=Ux (E.same s1).Cn o1
  refine⟨yj (AF (by rw[o1.len,a3 ρ ts q];exact hz)),fun p hp=>?_⟩
  have af:∀ a∈fp,a≠p:=fun a ha z=>(o1.Cn a ha).no (by rw[z];exact hp)
  exact h _ (p::fp) _ (s1.trans (AM hp _)) (fun a ha=>(zo.mp ha).elim (fun z=>by rw[z];exact Fc s1 hp) (n1 a)) (yk.mpr ⟨fun z=>af p z rfl,ge⟩) (.lst Ar (o1.move (kI hp hP) fun a ha=>Ah (af a ha)))
theorem cZ {P:Addr->Prop}{fp:List Addr}{p:Addr}{H:Hp}{o:HO}(hn:H p=none) (hP:∀ a,PU P fp a->Dn H a):Ad (del H (PU P fp)) (del (upd H p o) (PU P fp)):=fun b u e=>by
 obtain⟨h1,h2⟩:=Al e
 have hb:b≠p:=Ay h2 hn
 rw[Aw h1,Ah hb]
 exact h2
theorem kJ {fs:Ab->M (List OT)}{x1}(ha:oS X WX es fs) (hz:es.length<=1000:=by decide):DN X WX (.Tuple es x1 pos) (fun ρ=>(fs ρ).bind fun ts=>.ok (.tup ts)):=by
 obtain⟨ta,a1,a2,a3⟩:=ha
 refine⟨_,WV a1,fun P0 P σ H Q ρ E h=>?_⟩
 dsimp only at h
 refine a2 P0 P σ H _ ρ E ?_
 cases q:fs ρ with
 |bad=>rw[q] at h;exact h
 |ex y=>rw[q] at h;exact h
 |ok ts =>
  rw[q] at h
  simp only[M.A7] at h
  intro vs fp H1 s1 n1 ge o1
  have hP:=Ux (E.same s1).Cn o1
  refine⟨yj (AF (by rw[o1.len,a3 ρ ts q];exact hz)),fun p hp=>?_⟩
  have af:∀ a∈fp,a≠p:=fun a ha z=>(o1.Cn a ha).no (by rw[z];exact hp)
  refine h _ fp _ (s1.trans (AM hp _)) n1 ge (.tup ?_ (o1.move (cZ hp hP) fun a ha=>Ah (af a ha)))
  rw[Aw fun z=>(hP p z).no hp]
  exact Ar
theorem Ag.ows {K:za}{H:Hp}{P:Addr->Prop}:∀ {xs:List V}{ds:List D},Ag K (del H P) xs ds->AI K H P xs (ds.map .sh) []
 |_,_,.nil=>.nil
 |_,_,.cons h t=>.cons (.sh h) t.ows
theorem XQ.Kx {K:za}{WX:Str->Hp->Prop}{P:Addr->Prop}{H H1:Hp}{Q:VK}{xs:List V}{ds:List D}(h:XQ K WX P H Q (.ok (.lst (ds.map .sh)))) (s1:Ad H H1) (hx:Ag K (del H1 P) xs ds):∀ p,H1 p=none->Q (.ref p) (upd H1 p (.lst xs)):=fun p hp=>by
 have hn:∀ a∈[p],H1 a=none:=fun a ha=>by rw[zg.mp ha];exact hp
 exact h _ [p] _ (s1.trans (AM hp _)) (fun a ha=>Fc s1 (hn a ha)) (by simp) (.lst Ar (hx.mono (Dd (AM hp _) hn)).ows)
theorem AI.kK {K:za}{H:Hp}{P:Addr->Prop}:∀ {xs:List V}{ds:List D}{fp:List Addr},AI K H P xs (ds.map .sh) fp->fp=[]/\Ag K (del H P) xs ds
 |_,[],_,.nil=>⟨rfl,.nil⟩
 |_,d::ds,_,.cons (.sh h) r=>by
  obtain⟨rfl,q⟩:=AI.kK r
  exact⟨rfl,.cons h q⟩
def Lp:Cl->Cl
 | .val d=>.val d
 | .own ds=>.val (.lst ds)
 | .ow (.rows BZ)=>.val (.lst (BZ.map D.lst))
 | .ow (.Lz _ ds)=>.val (.lst ds)
 | .ow (.tree _ t)=>.val (er t)
def Ez (ρ:Ab):Ab:=ρ.map fun o=>o.map Lp
@[simp] theorem Ji:Ez []=[]:=rfl
@[simp] theorem Hr (ρ:Ab):Ez (none::ρ)=none::Ez ρ:=rfl
@[simp] theorem Hs (c:Cl) (ρ:Ab):Ez (some c::ρ)=some (Lp c)::Ez ρ:=rfl
theorem An.low {K:za}{P0:Ew}{P:Addr->Prop}{H:Hp}{σ:St}{ρ:Ab}(E:An K P0 P H σ ρ):An K P0 P0 H σ (Ez ρ):=by
 have key:∀(i:Nat) (c:Cl),(Ez ρ)[i]? =some (some c)->∃ c',ρ[i]? =some (some c')/\c=Lp c':=fun i c h=>by
  unfold Ez at h
  rw[zF] at h
  cases q:ρ[i]? with
  |none=>rw[q] at h;cases h
  |some o =>
   rw[q] at h
   cases o with
   |none=>cases h
   |some c'=>cases h;exact⟨c',rfl,rfl⟩
 have o5:∀ c,Ir (Lp c)=false:=fun c=>by
  cases c with
  |val d=>rfl
  |own ds=>rfl
  |ow o=>cases o<;>rfl
 have jo:∀ c,Om (Lp c)=none:=fun c=>by
  cases c with
  |val d=>rfl
  |own ds=>rfl
  |ow o=>cases o<;>rfl
 have wc:∀ c v fp,¬ Dm K H P0 (Lp c) v fp:=fun c v fp h=>by
  cases c with
  |val d=>exact h
  |own ds=>exact h
  |ow o=>cases o<;>exact h
 refine⟨fun _ h=>h,fun a h=>E.Cn a (E.sub a h),fun i d h=>?_,fun i c h io=>?_,fun i j c c' v v' fp ai hi hj si sj h h' af=>?_,by unfold Ez;rw[zc];exact E.len,fun i c n h hp=>by obtain⟨c',h1,rfl⟩:=key i _ h;rw[jo] at hp;cases hp⟩
 ·obtain⟨c,h1,h2⟩:=key i _ h
  cases c with
  |val d' =>
   cases h2
   obtain⟨v,q1,q2⟩:=E.val i d h1
   exact⟨v,q1,q2.mono (CJ E.sub)⟩
  |own ds =>
   cases h2
   obtain⟨p,xs,q1,q2,q3,q4,q5⟩:=E.own i ds h1
   exact⟨_,q1,.lst (.of (show del H P0 p=_ by rw[Aw q4];exact q2)) (q5.mono (CJ E.sub))⟩
  |ow o =>
   obtain⟨v,fp,q1,q2,q3,q4⟩:=E.ows i _ h1 rfl
   cases o with
   |rows BZ =>
    cases h2
    obtain⟨p,ps,rfl,rfl,q5,q6⟩:=q2
    exact⟨_,q1,.lst (.of (show del H P0 p=_ by rw[Aw (q3 p zd).2];exact q5)) (q6.jW E.sub fun a ha=>(q3 a (ze _ ha)).2)⟩
   |Lz p ds =>
    cases h2
    obtain⟨p,xs,rfl,rfl,q5,q6⟩:=q2
    exact⟨_,q1,.lst (.of (show del H P0 p=_ by rw[Aw (q3 p zd).2];exact q5)) (q6.mono (CJ E.sub))⟩
   |tree p t =>
    cases h2
    exact⟨_,q1,C1.has E.sub (fun a ha=>(q3 a ha).2) q2⟩
 ·obtain⟨c',h1,rfl⟩:=key i _ h
  rw[o5] at io;cases io
 ·obtain⟨c1,h1,rfl⟩:=key i _ hi
  exact (wc _ _ _ h).elim
theorem kL {c:Bool}(h:DE X WX c e f):DE X WX false e (fun ρ=>f (Ez ρ)):=by
 obtain⟨t,h1,h2⟩:=h
 refine⟨t,h1,fun P0 P σ H Q ρ E g=>h2 P0 P0 σ H Q (Ez ρ) E.low ?_⟩
 have e:Lv c P0 P0=P0:=by cases c<;>rfl
 rw[e]
 exact g
theorem IB {ft:Ab->M Bool}(h:DT X WX e ft):DT X WX e (fun ρ=>ft (Ez ρ)):=by
 obtain⟨t,h1,h2⟩:=h
 exact⟨t,h1,fun P0 P σ H Q ρ E g=>h2 P0 P0 σ H Q (Ez ρ) E.low g⟩
mutual
def GD:OT->Bool
 | .sh d=>Jb d
 | .lst ts=>G4 ts
 | .tup ts=>G4 ts
 | .Bg _ _ ts=>G4 ts
 | .ins _ _ ts=>G4 ts
def G4:List OT->Bool
 |[]=>true
 |t::r=>GD t && G4 r
end
mutual
theorem C1.clean {K:za}{H:Hp}{P P':Addr->Prop}(ht:∀ a,P' a->Dn H a):∀ {v:V}{t:OT}{fp:List Addr},GD t=true->C1 K H P v t fp->C1 K H P' v t fp
 |_,_,_,n,.sh h=>.sh (h.Jb ht (by rw[GD] at n;exact n))
 |_,_,_,n,.lst h r=>.lst h (AI.clean ht (by rw[GD] at n;exact n) r)
 |_,_,_,n,.tup h r=>.tup (Up ht h) (AI.clean ht (by rw[GD] at n;exact n) r)
 |_,_,_,n,.dK h r=>.dK h (AI.clean ht (by rw[GD] at n;exact n) r)
 |_,_,_,n,.dT h r=>.dT h (AI.clean ht (by rw[GD] at n;exact n) r)
 |_,_,_,n,.ins x h r=>.ins x h (AI.clean ht (by rw[GD] at n;exact n) r)
theorem AI.clean {K:za}{H:Hp}{P P':Addr->Prop}(ht:∀ a,P' a->Dn H a):∀ {v:List V}{t:List OT}{fp:List Addr},G4 t=true->AI K H P v t fp->AI K H P' v t fp
 |_,_,_,_,.nil=>.nil
 |_,_,_,n,.cons h r=>by
  rw[G4,zR] at n
  exact .cons (C1.clean ht n.1 h) (AI.clean ht n.2 r)
end
def Sg (m:M OT):M OT:=m.bind fun t=>if GD t=true then .ok t else .bad
theorem Eb (h:DN X WX e fn):DN X WX e (fun ρ=>Sg (fn (Ez ρ))):=by
 obtain⟨t,h1,h2⟩:=h
 refine⟨t,h1,fun P0 P σ H Q ρ E g=>h2 P0 P0 σ H Q (Ez ρ) E.low ?_⟩
 unfold Sg at g
 dsimp only at g
 cases q:fn (Ez ρ) with
 |bad=>rw[q] at g;exact g
 |ex x=>rw[q] at g;exact g
 |ok t =>
  rw[q] at g
  simp only[M.A7] at g
  by_cases hf:GD t=true
  ·rw[if_pos hf] at g
   exact fun v fp H' s hn nd o=>g v fp H' s hn nd (o.clean (Kv (E.same s).Cn o) hf)
  ·rw[if_neg hf] at g;exact g.elim
def Kx (d:D):M OT:=match d with
 | .lst ds=>.ok (.lst (ds.map .sh))
 | .tup ds=>.ok (.lst (ds.map .sh))
 |_=>.bad
theorem Jj {p:Pos}(hg:Gl X "list") (hm:X.mg "list" = none) (ha:DE X WX true e f) (hb:bootBuiltins "list" = some (.type "list"):=by decide +kernel) (aY:starEach [e] X.env=[(false,eval e X.env)]:=by rfl) :
 DN X WX (.Call (.Name "list" p) [e] [] pos) (fun ρ=>(f ρ).bind Kx):=by
 obtain⟨ta,a1,a2⟩:=ha
 refine⟨_,Of Pk hg hm hb (Be a1 Cg aY) (he:=aY),fun P0 P σ H Q ρ E h=>?_⟩
 dsimp only at h
 refine a2 P0 P σ H _ ρ E ?_
 cases q:f ρ with
 |bad=>rw[q] at h;exact h
 |ex x=>rw[q] at h;exact h
 |ok d =>
  rw[q] at h
  simp only[M.A7] at h
  intro v H1 s1 hv
  unfold Kx at h
  split at h
  ·cases hv with
   |lst hs hh=>exact⟨_,_,rfl,.inl hs.Bm,h.Kx s1 hh⟩
  ·cases hv with
   |tup hs hh=>exact⟨_,_,rfl,.inr (Fn.of (Al hs).2),h.Kx s1 hh⟩
  ·exact h.elim
def uI (K:za) (WX:Str->Hp->Prop) (r:R2) (bd:D->D->M OT):Prop :=
 ∀(P:Addr->Prop) (H:Hp) (x y:D) (v w:V) (Q:VK),(∀ a,P a->Dn H a)->BH K (del H P) v x->BH K (del H P) w y->XQ K WX P H Q (bd x y)->r v w H Q
theorem oV {ta tb:TE}{r:R2}{bd:D->D->M OT}(ha:∀ P0 P σ H Q ρ,An X.K P0 P H σ ρ->gV X.K WX (Lv true P0 P) H Q (f ρ)->ta σ H Q) (hb:∀ P0 P σ H Q ρ,An X.K P0 P H σ ρ->gV X.K WX (Lv true P0 P) H Q (g ρ)->tb σ H Q)
 (hr:uI X.K WX r bd) {Q:VK} (E:An X.K P0 P H σ ρ) (h:XQ X.K WX P H Q ((f ρ).bind fun x=>(g ρ).bind fun y=>bd x y)):mD r ta tb σ H Q:=by
 refine ha P0 P σ H _ ρ E ?_
 cases e:f ρ with
 |bad=>rw[e] at h;exact h
 |ex x=>rw[e] at h;exact h
 |ok x =>
  rw[e] at h
  intro v H1 s1 hv
  refine hb P0 P σ H1 _ ρ (E.same s1) ?_
  cases e2:g ρ with
  |bad=>rw[e2] at h;exact h
  |ex y=>rw[e2] at h;exact fun H' s=>h H' (s1.trans s)
  |ok y =>
   rw[e2] at h
   intro w H2 s2 hw
   exact hr _ H2 x y v w Q ((E.same s1).same s2).Cn (hv.mono s2.del) hw ((h.same s1).same s2)
def Rf (x y:D):M OT:=match x,y with
 | .lst a,.lst b=>if a.length + b.length<=1000 then .ok (.lst ((a++b).map .sh)) else .bad
 |_,_=>.bad
end
end L2
namespace L2
open PySem PySem.Spec PyProof.Rows
def spT (K:za) (n:Nat) (F:List D->M OT):Sp:=fun vs H Q E=>vs.length=n/\∃ P ds,(∀ a,P a->Dn H a)/\Ag K (del H P) vs ds/\XQ K (D2 K E) P H Q (F ds)
def oW:Cl->M OT
 | .val d=>.ok (.sh d)
 | .own ds=>.ok (.lst (ds.map .sh))
 | .ow (.rows BZ)=>.ok (.lst (BZ.map fun ds=>.lst (ds.map .sh)))
 | .ow (.Lz _ _)=>.bad
 | .ow (.tree none t)=>.ok t
 | .ow (.tree (some _) _)=>.bad
def XR (m:M Out):M OT:=match m with
 | .ok (.ret d)=>.ok (.sh d)
 | .ok (.CI c)=>oW c
 | .ok (.next _)=>.ok (.sh .Az)
 | .ex x=>.ex x
 |_=>.bad
theorem Bw.ows {K:za}{H:Hp}{P:Addr->Prop}:∀ {ps:List Addr}{BZ:List (List D)},Bw K H P ps BZ->AI K H P (ps.map V.ref) (BZ.map fun ds=>.lst (ds.map .sh)) ps
 |_,_,.nil=>.nil
 |_,_,.cons h r t=>.cons (.lst h r.ows) t.ows
theorem Dm.tree {K:za}{H:Hp}{P:Addr->Prop}{c:Cl}{v:V}{fp:List Addr}{t:OT}(h:Dm K H P c v fp) (e:oW c=.ok t):C1 K H P v t fp:=by
 cases c with
 |val d=>exact h.elim
 |own ds =>
  cases e
  obtain⟨p,xs,rfl,rfl,h1,h2⟩:=h
  exact .lst h1 h2.ows
 |ow o =>
  cases o with
  |rows BZ =>
   cases e
   obtain⟨p,ps,rfl,rfl,h1,h2⟩:=h
   exact .lst h1 h2.ows
  |Lz p ds=>cases e
  |tree p t' =>
   cases p with
   |none=>cases e;exact h
   |some q=>cases e
section
variable {P:Program}{w:World}{K:za}{mg:Str->Option Value}{base:Heap}
theorem dA {WX:Str->Hp->Prop}{P P2:Addr->Prop}{H H':Hp}{Q:VK}{c:Cl}{v:V}{fp:List Addr}(h:XQ K WX P H Q (oW c)) (t:Tr P P H P2 H') (hs:∀ a,P a->P2 a) (ho:Dm K H' P2 c v fp) (hp:∀ a∈fp,P2 a/\¬ P a) (nd:fp.Nodup):Q v H':=by
 cases q:oW c with
 |bad=>rw[q] at h;exact h.elim
 |ex x=>cases c with
  |val d=>cases q
  |own ds=>cases q
  |ow o =>
   cases o with
   |rows BZ=>cases q
   |Lz p ds=>cases q
   |tree p t'=>cases p<;>cases q
 |ok u =>
  rw[q] at h
  have o:=ho.tree q
  refine h v fp H' (Dw t) (fun a ha=>kH t (hp a ha).1 (hp a ha).2) nd (o.move (CJ fun a ha=>ha.elim (hs a) fun z=>(hp a z).1) fun _ _=>rfl)
theorem oX {x qual:Str}{st:Stmt}{f:Addr}{fd:FuncData}{N ps:List Str}{k:Nat}(F:Ww K x qual st f fd) (S:Ae N ps (A4 st)) (g:Ab->M Out)
 (hb:∀(AZ:Value) (A:Around) (outer:List Env) (s:Shared) (H:Hp) (E:XK),BI k (A.deeper (envOfC qual (A4 st) s.heap.objs.size f AZ))->Sf (Uk P w K mg base N qual (A4 st) f AZ A outer s H E) (D2 K E) (AJ st) g) :
 Dv P w K mg base (SO P w base) (k + 1) f fd ps (spT K ps.length fun ds=>XR (g (AG N ds))):=by
 obtain⟨oc,od,kV,doc,pm,an,AZ,ct,Se,rfl,lk,bw⟩:=F.ex
 refine U1 lk bw S (fun vs H Q E h=>h.1) fun A outer s H vs Q E hr h=>?_
 obtain⟨hl,P',ds,ht,hv,hq⟩:=h
 obtain⟨t,h1,h2⟩:=hb AZ A outer s H E hr
 refine⟨t,h1,h2 ⟨P',fun _=>0⟩ P' _ H _ _ (Ov ht hv) ?_⟩
 dsimp only at hq
 revert hq
 cases g (AG N ds) with
 |bad=>exact fun h=>h.elim
 |ex x=>exact fun h H' P2 t=>h H' (Dw t)
 |ok o =>
  cases o with
  |ret d=>exact fun h v H' P2 t hv=>h v [] H' (Dw t) (fun a ha=>by cases ha) y4 (.sh (by rw[SW];exact hv))
  |next ρ=>exact fun h σ' H' P2 t E=>h .Az [] H' (Dw t) (fun a ha=>by cases ha) y4 (.sh .Az)
  |brk ρ=>exact fun h=>h.elim
  |cont ρ=>exact fun h=>h.elim
  |CI c=>exact fun h v fp H' P2 t hs ht ho hp nd=>dA h t hs ho hp nd
  |F8 d ρ=>exact fun h=>h.elim
end
structure BS (P:Program) (w:World) (K:za) (mg:Str->Option Value) (base:Heap) (x:Str) (k n:Nat) (F:List D->M OT):Prop where
 ex:∃ fa fd ps,Dv P w K mg base (SO P w base) k fa fd ps (spT K n F)/\mg x=some (.ref fa)/\yi K (.ref fa)=true/\Binds K fd ps []
theorem AD {P:Program}{w:World}{K:za}{mg:Str->Option Value}{base:Heap}{x:Str}{st:Stmt}{N ps:List Str}{k n:Nat}(T:Ai K mg x st ps) (S:Ae N ps (A4 st)) (g:Ab->M Out)
 (hb:∀(f:Addr) (AZ:Value) (A:Around) (outer:List Env) (s:Shared) (H:Hp) (E:XK),BI k (A.deeper (envOfC x (A4 st) s.heap.objs.size f AZ))->Sf (Uk P w K mg base N x (A4 st) f AZ A outer s H E) (D2 K E) (AJ st) g) (hn:ps.length=n:=by rfl) :
 BS P w K mg base x (k + 1) n (fun ds=>XR (g (AG N ds))):=by
 obtain⟨f,fd,F,hm,hB⟩:=T.ex
 subst hn
 exact⟨⟨f,fd,ps,oX F S g (hb f),hm,F.kp,hB⟩⟩
section
variable {X:Cx}{E:XK}{WX:Str->Hp->Prop}{c:Bool}{e:Expr}{es:List Expr}{fs:Ab->M (List D)}{f:Ab->M D}{fn:Ab->M OT}{ft:Ab->M Bool}{pos:Pos}
theorem Aa {k n:Nat}{F:List D->M OT}{x:Str}{p:Pos}(xo:XCall X E) (G:BS X.prog X.w X.K X.mg X.base x k n F) (hr:BI k X.A) (hg:Gl X x) (ha:DA X (D2 X.K E) true (e::es) fs) (hn:(e::es).length=n)
 (aU:(x == ("__debug__" : Str))=false:=by decide) (he:starEach (e::es) X.env=(false,eval e X.env)::starEach es X.env:=by rfl) (a6:(backTo pos (starEach es X.env)).any (·.1)=false:=by rfl) :
 DN X (D2 X.K E) (.Call (.Name x p) (e::es) [] pos) (fun ρ=>(fs ρ).bind F):=by
 obtain⟨fa,fd,ps,hF,hm,hk,hb⟩:=G.ex
 obtain⟨ta,a1,a2,a3⟩:=ha
 refine⟨_,TZ hF hr hg hm hk hb .nil xo.call a1 aU he a6,fun P0 P σ H Q ρ E h=>?_⟩
 dsimp only at h
 refine a2 P0 P σ H _ ρ E ?_
 cases q:fs ρ with
 |bad=>rw[q] at h;exact h
 |ex x=>rw[q] at h;exact h
 |ok ds =>
  rw[q] at h
  simp only[M.A7] at h
  intro vs H1 s1 aI
  rw[yq]
  exact⟨by rw[aI.length,a3 ρ ds q];exact hn,P,ds,(E.same s1).Cn,aI,h.same s1⟩
theorem BM (h:DN X WX e fn):DN X (fun _ _=>False) e fn:=by
 obtain⟨t,h1,h2⟩:=h
 refine⟨t,h1,fun P0 P σ H Q ρ E g=>h2 P0 P σ H Q ρ E ?_⟩
 cases q:fn ρ with
 |bad=>rw[q] at g;exact g
 |ex x=>rw[q] at g;exact (g H (Ad.refl H)).elim
 |ok t=>rw[q] at g;exact g
def XS (t:OT):M Out:=match t with
 | .sh d=>.ok (.ret d)
 |t=>.ok (.CI (.ow (.tree none t)))
end
section
variable {X:Cx}{WX:Str->Hp->Prop}{c:Bool}{P0:Ew}{P:Addr->Prop}{H:Hp}{σ:St}{ρ:Ab}{a b e:Expr}{f g:Ab->M D}{fn:Ab->M OT}{pos:Pos}
theorem An.rZ {K:za}{H':Hp}{fp:List Addr}(E:An K P0 P H σ ρ) (s:Ad H H') (hn:∀ a∈fp,H a=none):Tr P0 P H (PU P fp) H' :=
 ⟨Dd s hn,fun a ha=>by obtain⟨o,q,_⟩:=E.Cn a (E.sub a ha);rw[q];exact s _ _ q⟩
theorem Am (ha:DN X WX e fn):DS X WX (.Return (some e) pos) (fun ρ=>(fn ρ).bind XS):=by
 obtain⟨ta,a1,a2⟩:=ha
 refine⟨_,Sl a1,fun P0 P σ H Z ρ E h=>?_⟩
 dsimp only at h
 refine a2 P0 P σ H _ ρ E ?_
 cases q:fn ρ with
 |bad=>rw[q] at h;exact h
 |ex x=>rw[q] at h;exact fun H' s=>h H' P (E.tr s)
 |ok t =>
  rw[q] at h
  simp only[M.A7] at h
  intro v fp H' s hn nd o
  have key:gS X.K WX P0 P H Z (.ok (.CI (.ow (.tree none t))))->Z.rt v H':=fun h =>
   h v fp H' (PU P fp) (E.rZ s hn) (fun a ha=>.inl (E.sub a ha)) (Kv (E.same s).Cn o) o (fun a ha=>⟨.inr ha,fun z=>(E.Cn a (E.sub a z)).no (hn a ha)⟩) nd
  cases t with
  |sh d =>
   cases o with
   |sh hv=>exact h v H' P (E.tr s) (hv.mono (CJ fun a ha=>.inl (E.sub a ha)))
  |lst ts=>exact key h
  |tup ts=>exact key h
  |Bg b ks ts=>exact key h
  |ins x ns ts=>exact key h
def Ec:List OT->Option (List D)
 |[]=>some []
 | .sh d::r=>(Ec r).map (d::·)
 |_::_=>none
theorem CH:∀ ds:List D,Ec (ds.map .sh)=some ds
 |[]=>rfl
 |d::r=>by rw[zf,Ec,CH r];rfl
theorem D4:∀ {ts:List OT}{ds:List D},Ec ts=some ds->ts=ds.map .sh
 |[],ds,h=>by cases h;rfl
 | .sh d::r,ds,h=>by
  rw[Ec] at h
  cases q:Ec r with
  |none=>rw[q] at h;cases h
  |some es=>rw[q] at h;cases h;rw[zf,<-D4 q]
 | .lst _::r,ds,h=>by cases h
 | .tup _::r,ds,h=>by cases h
 | .Bg _ _ _::r,ds,h=>by cases h
 | .ins _ _ _::r,ds,h=>by cases h
def toCl (p:Option Nat) (t:OT):Cl:=match t with
 | .lst ts=>(match Ec ts with
  |some ds=>(match p with|none=>.own ds|some q=>.ow (.Lz q ds))
  |none=>.ow (.tree p (.lst ts)))
 |t=>.ow (.tree p t)
@[simp] theorem toCl_list (ds:List D):toCl none (.lst (ds.map .sh))=.own ds:=by unfold toCl;simp only[CH]
@[simp] theorem toCl_listP (q:Nat) (ds:List D):toCl (some q) (.lst (ds.map .sh))=.ow (.Lz q ds):=by unfold toCl;simp only[CH]
@[simp] theorem toCl_dct (p:Option Nat) (b:Bool) (ks:List D) (ts:List OT):toCl p (.Bg b ks ts)=.ow (.tree p (.Bg b ks ts)):=rfl
def treeOf:Cl->Option (Option Nat×OT)
 | .own ds=>some (none,.lst (ds.map .sh))
 | .ow (.Lz p ds)=>some (some p,.lst (ds.map .sh))
 | .ow (.rows BZ)=>some (none,.lst (BZ.map fun ds=>.lst (ds.map .sh)))
 | .ow (.tree p t)=>some (p,t)
 | .val _=>none
theorem Dm.toT {K:za}{H:Hp}{P:Addr->Prop}{c:Cl}{v:V}{fp:List Addr}{p:Option Nat}{t:OT}(h:Dm K H P c v fp) (e:treeOf c=some (p,t)):C1 K H P v t fp:=by
 cases c with
 |val d=>exact h.elim
 |own ds =>
  cases e
  obtain⟨p,xs,rfl,rfl,h1,h2⟩:=h
  exact .lst h1 h2.ows
 |ow o =>
  cases o with
  |rows BZ =>
   cases e
   obtain⟨p,ps,rfl,rfl,h1,h2⟩:=h
   exact .lst h1 h2.ows
  |Lz p ds =>
   cases e
   obtain⟨p,xs,rfl,rfl,h1,h2⟩:=h
   exact .lst h1 h2.ows
  |tree p t'=>cases e;exact h
theorem Dm.toCl {K:za}{H:Hp}{P:Addr->Prop}{v:V}{fp:List Addr}{p:Option Nat}{t:OT}(h:C1 K H P v t fp):Dm K H P (toCl p t) v fp:=by
 unfold L2.toCl
 split
 ·rename_i ts
  cases q:Ec ts with
  |none=>exact h
  |some ds =>
   have e:=D4 q
   subst e
   cases h with
   |lst h1 h2 =>
    obtain⟨rfl,h3⟩:=h2.kK
    cases p with
    |none=>exact⟨_,_,rfl,rfl,h1,h3⟩
    |some q=>exact⟨_,_,rfl,rfl,h1,h3⟩
 ·exact h
theorem IC (p:Option Nat) (t:OT):Om (toCl p t)=p:=by
 unfold toCl
 split
 ·rename_i ts
  cases q:Ec ts with
  |none=>cases p<;>rfl
  |some ds=>cases p<;>rfl
 ·cases p<;>rfl
theorem ID {c:Cl}{p:Option Nat}{t:OT}(h:treeOf c=some (p,t)):Om c=p:=by
 cases c with
 |val d=>cases h
 |own ds=>cases h;rfl
 |ow o =>
  cases o with
  |rows BZ=>cases h;rfl
  |Lz p ds=>cases h;rfl
  |tree p t=>cases h;cases p<;>rfl
def Rg (i:Nat) (ρ:Ab) (t:OT):M Out:=match t with
 | .sh d=>.ok (.next (ρ.set i (some (.val d))))
 |t=>.ok (.next (ρ.set i (some (toCl none t))))
theorem gF {K:za}{i:Nat}{t:OT}{v:V}{fp:List Addr}{H':Hp}{Z:Ends}(E:An K P0 P H σ ρ) (s:Ad H H') (hn:∀ a∈fp,H a=none) (nd:fp.Nodup) (o:C1 K H' (PU P fp) v t fp) (h:gS K WX P0 P H Z (Rg i ρ t)):Z.nx (σ.set i (some v)) H':=by
 have key:gS K WX P0 P H Z (.ok (.next (ρ.set i (some (toCl none t)))))->Z.nx (σ.set i (some v)) H':=fun h=>by
  refine h _ H' (PU P fp) (E.rZ s hn) (E.Vz MM (Kv (E.same s).Cn o) (Dd s hn) (fun j c' v' ai af g1 g2 g3 a ha=>?_) (Dm.toCl o) (fun a ha=>⟨.inr ha,fun z=>(E.Cn a (E.sub a z)).no (hn a ha)⟩) nd (fun n z=>by rw[IC] at z;cases z))
  obtain⟨xs,z⟩:=g3.at a ha
  exact⟨by rw[z];exact s _ _ z,fun w=>by rw[hn a w] at z;cases z⟩
 cases t with
 |sh d =>
  cases o with
  |sh hv=>exact h _ H' P (E.tr s) ((E.same s).Vy (by rw[SW] at hv;exact hv))
 |lst ts=>exact key h
 |tup ts=>exact key h
 |Bg b ks ts=>exact key h
 |ins x ns ts=>exact key h
theorem Bz (i:Nat){x:Str}{pos':Pos}(hN:X.N.Nodup) (hi:X.N[i]? =some x) (hx:Loc X.env.scope x) (ha:DN X WX e fn) (hs:swapsWith e (some (.Name x pos')) pos.line X.env=pure false:=by rfl) (hf:X.fn x=true\/X.env.scope.names.lookup x=some .local:=by first | exact .inl rfl | exact .inr rfl | assumption) :
 DS X WX (.Assign [.Name x pos'] e pos) (fun ρ=>(fn ρ).bind (Rg i ρ)):=by
 obtain⟨ta,a1,a2⟩:=ha
 refine⟨_,Sn hN hi hx a1 hs hf,fun P0 P σ H Z ρ E h=>?_⟩
 dsimp only at h
 refine a2 P0 P σ H _ ρ E ?_
 cases q:fn ρ with
 |bad=>rw[q] at h;exact h
 |ex x=>rw[q] at h;exact fun H' s=>h H' P (E.tr s)
 |ok t =>
  rw[q] at h
  exact fun v fp H' s hn nd o=>gF E s hn nd o h
def SX (i:Nat) (ρ:Ab):M Out:=match ρ[i]? with
 |some (some (.val d))=>.ok (.ret d)
 |some (some c)=>.ok (.CI c)
 |_=>.bad
theorem CL (i:Nat){x:Str}{p1:Pos}(hv:PE X (.Name x p1) (Li i)):DS X WX (.Return (some (.Name x p1)) pos) (SX i):=by
 refine⟨_,Sl hv,fun P0 P σ H Z ρ E h=>?_⟩
 unfold SX at h
 split at h
 ·rename_i d e1
  obtain⟨v,h1,h2⟩:=E.val i d e1
  exact⟨v,h1,h v H P Tr.refl (h2.mono (CJ E.sub))⟩
 ·rename_i c hc e1
  have io:Ir c=true:=by
   cases c with
   |val d=>exact (hc d rfl).elim
   |own ds=>rfl
   |ow o=>rfl
  obtain⟨v,fp,h1,h2,h3,h4⟩:=E.ows i _ e1 io
  exact⟨v,h1,h v fp H P Tr.refl E.sub E.Cn h2 h3 h4⟩
 ·exact h.elim
theorem Px:∀ ds:List D,U8 (ds.map .sh)=ds
 |[]=>rfl
 |d::r=>by rw[zf,U8,er,Px r]
def XT (i:Nat) (ρ:Ab):Ab:=match ρ[i]? with
 |some (some c)=>ρ.set i (some (Lp c))
 |_=>ρ
end
end L2
namespace L2
open PySem PySem.Spec PyProof.Rows
section
variable {K:za}{H H':Hp}{P P':Addr->Prop}
theorem CG.same {v:V}{t:OT}{q:List Addr}{xs:List V}(e:Ad H H') (h:CG K H P v t q xs):CG K H' P v t q xs:=by
 cases t with
 |sh d=>exact h.elim
 |lst ts=>obtain⟨p,rfl,rfl,h⟩:=h;exact⟨p,rfl,rfl,e _ _ h⟩
 |tup ts=>obtain⟨p,rfl,rfl,h⟩:=h;exact⟨p,rfl,rfl,e.del _ _ h⟩
 |Bg b ks ts =>
  cases b with
  |false=>obtain⟨p,kvs,rfl,rfl,h,rfl,rfl⟩:=h;exact⟨p,kvs,rfl,rfl,e _ _ h,rfl,rfl⟩
  |true=>obtain⟨p,kvs,rfl,rfl,h,rfl,rfl⟩:=h;exact⟨p,kvs,rfl,rfl,e _ _ h,rfl,rfl⟩
 |ins x ns ts=>obtain⟨p,C,dx,fs,rfl,rfl,n,h,rfl,rfl⟩:=h;exact⟨p,C,dx,fs,rfl,rfl,n,e _ _ h,rfl,rfl⟩
theorem Jh.same {v v1:V}{t t1:OT}{π:List Nat}(e:Ad H H') (h:Jh K H P v t π v1 t1):Jh K H' P v t π v1 t1:=by
 induction h with
 |nil=>exact .nil
 |cons n hx hs _ ih=>exact .cons (n.same e) hx hs ih
theorem CG.more {v:V}{t:OT}{q:List Addr}{xs:List V}(sm:Ad (del H P) (del H' P')) (e:Ad H H') (h:CG K H P v t q xs):CG K H' P' v t q xs:=by
 cases t with
 |sh d=>exact h.elim
 |lst ts=>obtain⟨p,rfl,rfl,h⟩:=h;exact⟨p,rfl,rfl,e _ _ h⟩
 |tup ts=>obtain⟨p,rfl,rfl,h⟩:=h;exact⟨p,rfl,rfl,sm _ _ h⟩
 |Bg b ks ts =>
  cases b with
  |false=>obtain⟨p,kvs,rfl,rfl,h,rfl,rfl⟩:=h;exact⟨p,kvs,rfl,rfl,e _ _ h,rfl,rfl⟩
  |true=>obtain⟨p,kvs,rfl,rfl,h,rfl,rfl⟩:=h;exact⟨p,kvs,rfl,rfl,e _ _ h,rfl,rfl⟩
 |ins x ns ts=>obtain⟨p,C,dx,fs,rfl,rfl,n,h,rfl,rfl⟩:=h;exact⟨p,C,dx,fs,rfl,rfl,n,e _ _ h,rfl,rfl⟩
theorem Jh.more {v v1:V}{t t1:OT}{π:List Nat}(sm:Ad (del H P) (del H' P')) (e:Ad H H') (h:Jh K H P v t π v1 t1):Jh K H' P' v t π v1 t1:=by
 induction h with
 |nil=>exact .nil
 |cons n hx hs _ ih=>exact .cons (n.more sm e) hx hs ih
end
def Uy (i:Nat) (ρ:Ab) (π:List Nat):Option OT:=match ρ[i]? with
 |some (some c)=>(match treeOf c with|some (_,t)=>Ku t π|none=>none)
 |_=>none
structure Bj (K:za) (P:Addr->Prop) (H:Hp) (σ:St) (ρ:Ab) (i:Nat) (π:List Nat) (v:V) (t1:OT):Prop where
 ex:∃ v0 c p t,ρ[i]? =some (some c)/\treeOf c=some (p,t)/\σ[i]? =some (some v0)/\Jh K H P v0 t π v t1
theorem Bj.at {K:za}{P:Addr->Prop}{H:Hp}{σ:St}{ρ:Ab}{i:Nat}{π:List Nat}{v:V}{t1:OT}(h:Bj K P H σ ρ i π v t1):Uy i ρ π=some t1:=by
 obtain⟨v0,c,p,t,h1,h2,h3,h4⟩:=h.ex
 unfold Uy
 simp only[h1,h2]
 exact h4.sub
theorem Bj.same {K:za}{P:Addr->Prop}{H H':Hp}{σ:St}{ρ:Ab}{i:Nat}{π:List Nat}{v:V}{t1:OT}(e:Ad H H') (h:Bj K P H σ ρ i π v t1):Bj K P H' σ ρ i π v t1:=by
 obtain⟨v0,c,p,t,h1,h2,h3,h4⟩:=h.ex
 exact⟨v0,c,p,t,h1,h2,h3,h4.same e⟩
theorem Bj.more {K:za}{P P':Addr->Prop}{H H':Hp}{σ:St}{ρ:Ab}{i:Nat}{π:List Nat}{v:V}{t1:OT}(sm:Ad (del H P) (del H' P')) (e:Ad H H') (h:Bj K P H σ ρ i π v t1):Bj K P' H' σ ρ i π v t1:=by
 obtain⟨v0,c,p,t,h1,h2,h3,h4⟩:=h.ex
 exact⟨v0,c,p,t,h1,h2,h3,h4.more sm e⟩
theorem Bj.own {K:za}{P0:Ew}{P:Addr->Prop}{H:Hp}{σ:St}{ρ:Ab}{i:Nat}{π:List Nat}{v:V}{t1:OT}(h:Bj K P H σ ρ i π v t1) (E:An K P0 P H σ ρ):∃ aA,C1 K H P v t1 aA/\(∀ a∈aA,P a/\¬ P0 a)/\aA.Nodup:=by
 obtain⟨v0,c,p,t,h1,h2,h3,h4⟩:=h.ex
 have io:Ir c=true:=by cases c<;>first|rfl|cases h2
 obtain⟨w,fp,k1,k2,k3,k4⟩:=E.ows i c h1 io
 rw[h3] at k1;cases k1
 obtain⟨aA,o1,hk,kn⟩:=(k2.toT h2).part h4
 exact⟨aA,o1,fun a ha=>k3 a (hk a ha),kn k4⟩
def gP (K:za) (WX:Str->Hp->Prop) (P:Addr->Prop) (H:Hp) (σ:St) (ρ:Ab) (i:Nat) (Q:VK):M (List Nat)->Prop
 | .ok π=>∀ v t1 H',Ad H H'->Bj K P H' σ ρ i π v t1->Q v H'
 | .ex x=>∀ H',Ad H H'->WX x H'
 | .bad=>False
def DP (X:Cx) (WX:Str->Hp->Prop) (e:Expr) (i:Nat) (f:Ab->M (List Nat)):Prop :=
 ∃ t,PE X e t/\∀ P0 P σ H Q ρ,An X.K P0 P H σ ρ->gP X.K WX P H σ ρ i Q (f ρ)->t σ H Q
section
variable {X:Cx}{WX:Str->Hp->Prop}{c:Bool}{P0:Ew}{P:Addr->Prop}{H:Hp}{σ:St}{ρ:Ab}{a b e:Expr}{f g:Ab->M D}{fn:Ab->M OT}{fp:Ab->M (List Nat)}{pos:Pos}{i:Nat}
def Rh (i:Nat) (ρ:Ab):M (List Nat):=match Uy i ρ [] with | some _=>.ok [] | none=>.bad
theorem BN (i:Nat){x:Str}{p1:Pos}(hv:PE X (.Name x p1) (Li i)):DP X WX (.Name x p1) i (Rh i):=by
 refine⟨_,hv,fun P0 P σ H Q ρ E h=>?_⟩
 unfold Rh at h
 split at h
 ·rename_i t e
  unfold Uy at e
  split at e
  ·rename_i cl e1
   split at e
   ·rename_i p t0 e2
    have io:Ir cl=true:=by cases cl<;>first|rfl|cases e2
    obtain⟨v,fp,h1,h2,h3,h4⟩:=E.ows i cl e1 io
    exact⟨v,h1,h v t0 H (Ad.refl H) ⟨v,cl,p,t0,e1,e2,h1,.nil⟩⟩
   ·cases e
  ·cases e
 ·exact h.elim
def sA (i:Nat) (ρ:Ab) (π:List Nat):M D:=match Uy i ρ π with
 |some (.sh d)=>.ok d
 |_=>.bad
theorem An.oY {K:za}{P':Addr->Prop}{H':Hp}{π:List Nat}{v1:V}{t1 u:OT}{aA fu:List Addr}(E:An K P0 P H σ ρ) (pl:Bj K P H σ ρ i π v1 t1) (o:C1 K H P v1 t1 aA) (hs:∀ a,P a->P' a) (ht:∀ a,P' a->Dn H' a) (sm:Ad (del H P) (del H' P')) (keep:∀ a,P a->a∉aA->H' a=H a)
 (o':C1 K H' P' v1 u fu) (nd:fu.Nodup) (hf:∀ a∈fu,a∈aA\/(P' a/\¬ P0 a/\∀(j:Nat) c v fp,ρ[j]? =some (some c)->σ[j]? =some (some v)->Dm K H P c v fp->a∉fp)) :
 ∃ c p t,ρ[i]? =some (some c)/\treeOf c=some (p,t)/\An K P0 P' H' σ (ρ.set i (some (toCl p (EV t π u))))/\Tr P0 P H P' H':=by
 obtain⟨v0,c,p,t,h1,h2,h3,h4⟩:=pl.ex
 have io:Ir c=true:=by cases c<;>first|rfl|cases h2
 obtain⟨w,fp,k1,k2,k3,k4⟩:=E.ows i c h1 io
 rw[h3] at k1;cases k1
 have ot:=k2.toT h2
 obtain⟨fz,oz,kz,_⟩:=ot.part h4
 have:=oz.Cp o;subst this
 obtain⟨ai,q1,q2,q3⟩:=ot.put sm h4 o o' (fun a ha hn=>keep a (k3 a ha).1 hn) k4 nd (fun a ha hb=>(hf a ha).elim id fun z=>(z.2.2 i c v0 fp h1 h3 k2 hb).elim)
 refine⟨c,p,t,h1,h2,?_,sm,fun a ha=>keep a (E.sub a ha) fun z=>(k3 a (kz a z)).2 ha⟩
 have key:=E.Vz (P':=P') (H':=H') (i:=i) (v:=v0) (c:=toCl p (EV t π u)) (fp:=ai) hs ht sm (fun j c' v' fq af g1 g2 g3 a ha=>?_) (Dm.toCl q1) (fun a ha=>?_) q2 (fun n z=>by rw[IC] at z;subst z;have:=E.pin i c n h1 (ID h2);rw[h3] at this;cases this;rfl)
 ·rw[Kp h3] at key
  exact key
 ·have o6:a∉fp:=E.apart j i c' c v' v0 fq fp g1 h1 g2 h3 g3 k2 (zU af) a ha
  have jp:Ir c'=true:=by cases c'<;>first|rfl|exact g3.elim
  obtain⟨w',fr,m1,m2,m3,m4⟩:=E.ows j c' g1 jp
  rw[g2] at m1;cases m1
  have:=m2.Cp g3;subst this
  refine⟨keep a (m3 a ha).1 fun z=>o6 (kz a z),fun z=>?_⟩
  rcases q3 a z with y|y
  ·rcases hf a y with x|x
   ·exact o6 (kz a x)
   ·exact x.2.2 j c' v' fr g1 g2 g3 ha
  ·exact o6 y.1
 ·rcases q3 a ha with y|y
  ·rcases hf a y with x|x
   ·exact⟨hs a (k3 a (kz a x)).1,(k3 a (kz a x)).2⟩
   ·exact⟨x.1,x.2.1⟩
  ·exact⟨hs a (k3 a y.1).1,(k3 a y.1).2⟩
theorem An.sC {K:za}{π:List Nat}{l:Addr}{xs ys:List V}{ts us:List OT}{fq fu:List Addr}(E:An K P0 P H σ ρ) (pl:Bj K P H σ ρ i π (.ref l) (.lst ts)) (hH:H l=some (.lst xs)) (o:AI K H P xs ts fq) (o':AI K H P ys us fu) (nd:fu.Nodup) (hl:l∉fu)
 (hf:∀ a∈fu,a∈fq\/(P a/\¬ P0 a/\∀(j:Nat) c v fp,ρ[j]? =some (some c)->σ[j]? =some (some v)->Dm K H P c v fp->a∉fp)) :
 ∃ c p t,ρ[i]? =some (some c)/\treeOf c=some (p,t)/\An K P0 P (upd H l (.lst ys)) σ (ρ.set i (some (toCl p (EV t π (.lst us)))))/\Tr P0 P H P (upd H l (.lst ys)):=by
 have ot:C1 K H P (.ref l) (.lst ts) (l::fq):=.lst hH o
 obtain⟨aA,o1,hp,_⟩:=pl.own E
 have:=o1.Cp ot;subst this
 have pP:P l:=(hp l zd).1
 have sd:del (upd H l (.lst ys)) P=del H P:=by
  funext b
  by_cases hb:P b
  ·rw[CZ hb,CZ hb]
  ·rw[Aw hb,Aw hb,Ah (fun z=>hb (by rw[z];exact pP))]
 have sm:Ad (del H P) (del (upd H l (.lst ys)) P):=by rw[sd];exact Ad.refl _
 refine E.oY pl ot (fun _ h=>h) (fun a h=>?_) sm (fun a ha hn=>Ah fun z=>hn (by rw[z];exact zd)) (.lst Ar (o'.move sm fun a ha=>Ah fun z=>hl (by rw[<-z];exact ha))) (yk.mpr ⟨hl,nd⟩) (fun a ha=>?_)
 ·by_cases ha:a=l
  ·subst ha;exact Dn.lst Ar
  ·unfold Dn;rw[Ah ha];exact E.Cn a h
 ·rcases zo.mp ha with z|z
  ·exact .inl (by rw[z];exact zd)
  ·rcases hf a z with y|y
   ·exact .inl (ze _ y)
   ·exact .inr y
end
end L2
namespace L2
open PySem PySem.Spec PyProof.Rows
def kd:D->Option Key
 | .int i=>some (.inl i)
 | .str x=>some (.inr x)
 |_=>none
def mH:List D->Option (List Key)
 |[]=>some []
 |d::r=>match kd d,mH r with|some k,some ks=>some (k::ks)|_,_=>none
theorem gH {d:D}{k:Key}(h:kd d=some k):d=Dl k:=by
 cases d<;>simp[kd] at h<;>subst h<;>rfl
theorem XU:∀ {ds:List D}{ks:List Key},mH ds=some ks->ds=ks.map Dl
 |[],ks,h=>by cases h;rfl
 |d::r,ks,h=>by
  rw[mH] at h
  cases q:kd d with
  |none=>rw[q] at h;cases h
  |some k =>
   cases q2:mH r with
   |none=>rw[q,q2] at h;cases h
   |some we =>
    rw[q,q2] at h
    cases h
    rw[zf,<-gH q,<-XU q2]
inductive dB:Bool->D->Prop
 |k (κ:Key):dB false (Dl κ)
 |t (κ:List Key):dB true (.tup (κ.map Dl))
def keyOk (b:Bool) (d:D):Bool:=match b,d with
 |false,d=>(kd d).isSome
 |true,.tup ds=>(mH ds).isSome
 |_,_=>false
theorem Fd {b:Bool}{d:D}(h:keyOk b d=true):dB b d:=by
 cases b with
 |false =>
  obtain⟨k,hk⟩:=Option.isSome_iff_exists.mp (show (kd d).isSome=true from h)
  rw[gH hk];exact .k k
 |true =>
  cases d with
  |tup ds =>
   obtain⟨k,hk⟩:=Option.isSome_iff_exists.mp (show (mH ds).isSome=true from h)
   rw[XU hk];exact .t k
  |_=>cases h
theorem MN (a b:Key):Av (Dl a) (Dl b)=decide (a=b):=by
 cases a with
 |inl i =>
  cases b with
  |inl j=>simp only[Dl,Av];rw[yL];simp
  |inr y=>simp[Dl,Av]
 |inr x =>
  cases b with
  |inl j=>simp[Dl,Av]
  |inr y=>simp only[Dl,Av];rw[yL];simp
theorem LI:∀ a b:List Key,Cv (a.map Dl) (b.map Dl)=decide (a=b)
 |[],[]=>by simp[Cv]
 |[],_::_=>by simp[Cv]
 |_::_,[]=>by simp[Cv]
 |a::r,b::t=>by
  rw[zf,zf,Cv,MN,LI r t,yL]
  simp
def Gg {α:Type}:List D->List α->D->Option α
 |k::ks,v::vs,y=>if Av k y=true then some v else Gg ks vs y
 |_,_,_=>none
def IE {α:Type}:List D->List α->D->α->List α
 |k::ks,v::vs,y,z=>(if Av k y=true then z else v)::IE ks vs y z
 |_,vs,_,_=>vs
def Lq (ks:List D) (y:D):Bool:=ks.any fun k=>Av k y
section
variable {κ:Type} [DecidableEq κ] {fk:κ->D}(hf:∀ a b,Av (fk a) (fk b)=decide (a=b))
include hf
theorem MO {α:Type}:∀(kvs:List (κ×α)) (k:κ),Gg (kvs.map fun kv=>fk kv.1) (kvs.map yv) (fk k)=(kvs.find? fun kv=>decide (kv.1=k)).map (·.2)
 |[],k=>rfl
 |p::r,k=>by
  rw[zf,zf,Gg,hf,yW]
  by_cases e:p.1=k
  ·rw[decide_eq_true e];rfl
  ·rw[decide_eq_false e]
   simp only[zE,if_false]
   exact MO r k
theorem MQ {α:Type}(kvs:List (κ×α)) (k:κ):Lq (kvs.map fun kv=>fk kv.1) (fk k)=kvs.any fun kv=>decide (kv.1=k):=by
 unfold Lq
 rw[List.any_map]
 congr 1
 funext kv
 exact hf _ _
theorem Jk (k:κ) (v:V):∀(kvs:List (κ×V)),IE (kvs.map fun kv=>fk kv.1) (kvs.map yv) (fk k) v=(kvs.map fun kv=>if kv.1=k then (kv.1,v) else kv).map yv
 |[]=>rfl
 |p::r=>by
  rw[zf,zf,IE,hf,zf,zf,Jk k v r]
  by_cases e:p.1=k
  ·rw[decide_eq_true e,if_pos e];rfl
  ·rw[decide_eq_false e,if_neg e];rfl
theorem Jl (k:κ) (v:V):∀(kvs:List (κ×V)),(kvs.map fun kv=>if kv.1=k then (kv.1,v) else kv).map (fun kv=>fk kv.1)=kvs.map fun kv=>fk kv.1
 |[]=>rfl
 |p::r=>by
  rw[zf,zf,zf,Jl k v r]
  by_cases e:p.1=k
  ·rw[if_pos e]
  ·rw[if_neg e]
end
theorem MR {K:za}{H:Hp}:∀ {ks:List D}{xs:List V}{ds:List D}{y d:D},Ag K H xs ds->Gg ks ds y=some d->∃ x,Gg ks xs y=some x/\BH K H x d
 |[],_,_,_,_,_,e=>by simp[Gg] at e
 |_::_,_,_,_,_,.nil,e=>by simp[Gg] at e
 |k::ks,_,_,y,d,.cons h t,e=>by
  rw[Gg] at e ⊢
  by_cases q:Av k y=true
  ·rw[if_pos q] at e ⊢;cases e;exact⟨_,rfl,h⟩
  ·rw[if_neg q] at e ⊢;exact MR t e
theorem Ht {α:Type}:∀ {ks:List D}{xs:List α}{y:D},xs.length=ks.length->Lq ks y=(Gg ks xs y).isSome
 |[],[],y,_=>rfl
 |k::ks,x::xs,y,h=>by
  unfold Lq
  rw[yX,Gg]
  cases q:Av k y with
  |true=>rfl
  |false =>
   simp only[Bool.false_or,zE,if_false]
   exact Ht (by simpa using h)
 |[],_::_,_,h=>by cases h
 |_::_,[],_,h=>by cases h
theorem Jm {K:za}{H:Hp}{P:Addr->Prop}{y d:D}{v:V}(hv:BH K (del H P) v d):∀ {ks:List D}{xs:List V}{ds:List D},Ag K (del H P) xs ds->Ag K (del H P) (IE ks xs y v) (IE ks ds y d)
 |[],_,_,h=>by simp only[IE];exact h
 |_::_,_,_,.nil=>by simp only[IE];exact .nil
 |k::ks,_,_,.cons h t=>by
  rw[IE,IE]
  refine .cons ?_ (Jm hv t)
  by_cases q:Av k y=true
  ·rw[if_pos q,if_pos q];exact hv
  ·rw[if_neg q,if_neg q];exact h
section
variable {K:za}{H:Hp}{P:Addr->Prop}
theorem Ag.keys:∀ {xs:List V}(κ:List Key),Ag K H xs (κ.map Dl)->xs=κ.map kV
 |_,[],.nil=>rfl
 |_,k::r,.cons h t=>by
  rw[zf,<-Ag.keys r t]
  congr 1
  cases k with
  |inl i=>exact h.int_inv
  |inr x=>cases h;rfl
theorem BH.kM {y:V}{κ:Key}(h:BH K H y (Dl κ)):y=kV κ:=by
 cases κ with
 |inl i=>exact h.int_inv
 |inr x=>cases h;rfl
theorem Py {v y:V}{b:Bool}{ks vs:List D}{k:D}(hv:BH K (del H P) v (.Bg b ks vs)) (hy:BH K (del H P) y k) (hk:dB b k):∃ a xs,v=.ref a/\Im H a y (Gg ks xs k)/\Ag K (del H P) xs vs/\xs.length=ks.length:=by
 cases hv with
 |Ip hh hl =>
  cases hk with
  |k κ =>
   refine⟨_,_,rfl,?_,hl,by simp⟩
   rw[hy.kM,MO MN]
   exact Im.k (Al hh).2
 |Iq hh hl =>
  cases hk with
  |t κ =>
   cases hy with
   |tup ht aZ =>
    have e:=Ag.keys κ aZ
    subst e
    refine⟨_,_,rfl,?_,hl,by simp⟩
    rw[MO (fk:=fun κ:List Key=>D.tup (κ.map Dl)) (fun a b=>by simp only[Av];exact LI a b)]
    exact Im.t (Al hh).2 (Al ht).2
end
section
variable {X:Cx}{WX:Str->Hp->Prop}{c:Bool}{P0:Ew}{P:Addr->Prop}{H:Hp}{σ:St}{ρ:Ab}{a b e:Expr}{f g:Ab->M D}{fn:Ab->M OT}{fp:Ab->M (List Nat)}{pos:Pos}{i:Nat}
def oZ:R2:=fun x y H Q=>∃ a v,x=.ref a/\Im H a y (some v)/\Q v H
theorem dC (hu:X.A.units + 1 < cLine):Zm X oZ:=by
 intro value slice pins s σ H x y v u Q I rx ry h hs
 obtain⟨a,z,rfl,g,q⟩:=h
 cases rx
 have hT:=QO I g
 have h₂:wpAny (model X.prog X.w) X.A (getItem (.ref a) u) (EP X pins σ Q) X.xe s:=Vr hu I g ry fun w' s3 I3 bz=>⟨z,H,I3,bz,q⟩
 unfold subscriptTail
 refine wpAny_bind ?_
 rw[getitemInPython_of_ne hT.not_modules]
 refine wpAny_bind (wpAny_specialOf hT PySem.F.slot_dict_getitem.lookup ?_)
 have fin:wpAny (model X.prog X.w) X.A (subscripted slice false (.ref a) u) (fun r s₃=>wpAny (model X.prog X.w) X.A (letTemporaryGo value (.ref a) r >>= fun _=>pure r) (EP X pins σ Q) X.xe s₃) X.xe s:=by
  rw[hs]
  exact wpAny_operating (wpAny_mono h₂ (fun r s₃ h₃=>wpAny_bind (wpAny_letTemporaryGo (wpAny_pure h₃))) fun _ _ x=>x)
 first
  |exact wpAny_pure (wpAny_bind fin)
  |exact wpAny_bind (wpAny_pure (wpAny_bind fin))
  |exact wpAny_bind fin
def B3 (x y:D):M D:=match x with
 | .Bg b ks vs=>if keyOk b y=true then (match Gg ks vs y with|some d=>.ok d|none=>.bad) else .bad
 |x=>ZH x y
theorem dD:Ua X.K WX (fun x y H Q=>(jD X.K x y H Q\/jE X.K x y H Q)\/oZ x y H Q) B3:=by
 intro P H x y v w Q ht hx hy h
 cases x with
 |Bg b ks vs =>
  simp only[B3] at h
  by_cases hk:keyOk b y=true
  ·rw[if_pos hk] at h
   obtain⟨a,xs,rfl,g,hl,_⟩:=Py hx hy (Fd hk)
   split at h
   ·rename_i d e
    obtain⟨u,e1,e2⟩:=MR hl e
    rw[e1] at g
    exact .inr ⟨a,u,rfl,g,h _ H (Ad.refl H) e2⟩
   ·exact h.elim
  ·rw[if_neg hk] at h;exact h.elim
 |Az=>exact .inl (Gv P H _ y v w Q ht hx hy h)
 |bl b=>exact .inl (Gv P H _ y v w Q ht hx hy h)
 |int b=>exact .inl (Gv P H _ y v w Q ht hx hy h)
 |str b=>exact .inl (Gv P H _ y v w Q ht hx hy h)
 |tup b=>exact .inl (Gv P H _ y v w Q ht hx hy h)
 |lst b=>exact .inl (Gv P H _ y v w Q ht hx hy h)
 |DH b=>exact .inl (Gv P H _ y v w Q ht hx hy h)
 |ins b _ _=>exact .inl (Gv P H _ y v w Q ht hx hy h)
theorem Ac {n:Nat}(hu:X.A.units + n < cLine) (ha:DE X WX c a f) (hb:DE X WX c b g) (hs:Hg b:=by exact fun _ _=>rfl) (hn:1<=n:=by decide):DE X WX c (.Subscript a b pos) (fun ρ=>(f ρ).bind fun x=>(g ρ).bind fun y=>B3 x y):=oF ((Lx.or jF).or (dC (by omega))) dD ha hb hs
def kN (neg:Bool):R2:=fun y x H Q=>∃ a o,x=.ref a/\Im H a y o/\Q (.bl (if neg=true then !o.isSome else o.isSome)) H
theorem SY (hu:X.A.units + 1 < cLine):Gn X (compareOp .In) (kN false):=by
 intro pins s σ H x y v u Q I rx ry h
 obtain⟨a,o,rfl,g,q⟩:=h
 cases ry
 exact rN hu I g rx fun s3 I3=>⟨.bl o.isSome,H,I3,rfl,q⟩
theorem NS (hu:X.A.units + 1 < cLine):Gn X (compareOp .NotIn) (kN true):=by
 intro pins s σ H x y v u Q I rx ry h
 obtain⟨a,o,rfl,g,q⟩:=h
 cases ry
 exact Zr hu I g rx fun s3 I3=>⟨.bl (!o.isSome),H,I3,rfl,q⟩
def Jn (neg:Bool) (y x:D):M D:=match x with
 | .Bg b ks vs=>if keyOk b y=true then .ok (.bl (if neg=true then !Lq ks y else Lq ks y)) else .bad
 |x=>qA neg y x
theorem Uz {neg:Bool}:Ua X.K WX (fun x y H Q=>pW X.K neg x y H Q\/kN neg x y H Q) (Jn neg):=by
 intro P H x y v w Q ht hx hy h
 cases y with
 |Bg b ks vs =>
  simp only[Jn] at h
  by_cases hk:keyOk b x=true
  ·rw[if_pos hk] at h
   obtain⟨a,xs,rfl,g,hl,hn⟩:=Py hy hx (Fd hk)
   rw[Ht (xs:=xs) hn] at h
   exact .inr ⟨a,_,rfl,g,h _ H (Ad.refl H) (.bl _)⟩
  ·rw[if_neg hk] at h;exact h.elim
 |Az=>exact .inl (Gz P H x _ v w Q ht hx hy h)
 |bl b=>exact .inl (Gz P H x _ v w Q ht hx hy h)
 |int b=>exact .inl (Gz P H x _ v w Q ht hx hy h)
 |str b=>exact .inl (Gz P H x _ v w Q ht hx hy h)
 |tup b=>exact .inl (Gz P H x _ v w Q ht hx hy h)
 |lst b=>exact .inl (Gz P H x _ v w Q ht hx hy h)
 |DH b=>exact .inl (Gz P H x _ v w Q ht hx hy h)
 |ins b _ _=>exact .inl (Gz P H x _ v w Q ht hx hy h)
theorem MS {n:Nat}(hu:X.A.units + n < cLine) (ha:DE X WX c a f) (hb:DE X WX c b g) (hm:behindInMarks .In b=false:=by rfl) (hn:1<=n:=by decide):DT X WX (.Compare a [.In] [b] pos) (fun ρ=>((f ρ).bind fun x=>(g ρ).bind fun y=>Jn false x y).bind Oq):=Fu (Vm.or (SY (by omega))) Uz ha hb hm
theorem LJ {n:Nat}(hu:X.A.units + n < cLine) (ha:DE X WX c a f) (hb:DE X WX c b g) (hm:behindInMarks .NotIn b=false:=by rfl) (hn:1<=n:=by decide):DT X WX (.Compare a [.NotIn] [b] pos) (fun ρ=>((f ρ).bind fun x=>(g ρ).bind fun y=>Jn true x y).bind Oq):=Fu (Ph.or (NS (by omega))) Uz ha hb hm
def EW:D->M Bool
 | .Az=>.ok false
 | .bl b=>.ok b
 | .int i=>.ok (i != 0)
 | .tup ds=>.ok (!ds.isEmpty)
 | .lst ds=>.ok (!ds.isEmpty)
 |_=>.bad
theorem Jo {K:za}{H:Hp}{xs:List V}{ds:List D}(h:Ag K H xs ds):(!ds.isEmpty) = !xs.isEmpty:=by cases h<;>rfl
theorem BV (h:DE X WX c e f) (he:∀ whole,isTrue e X.env whole=(do let v <-whole;standAt e.pos;holding [v] (truthy v)):=by intro _;rfl):DT X WX e (fun ρ=>(f ρ).bind EW):=by
 obtain⟨t,h1,h2⟩:=h
 refine⟨_,WS h1 he,fun P0 P σ H Q ρ E h=>h2 P0 P σ H _ ρ E ?_⟩
 dsimp only at h
 cases q:f ρ with
 |bad=>rw[q] at h;exact h
 |ex x=>rw[q] at h;exact h
 |ok d =>
  rw[q] at h
  simp only[M.A7] at h
  intro v H' s hv
  cases hv with
  |Az=>exact⟨false,rfl,h H' s⟩
  |bl b=>exact⟨b,rfl,h H' s⟩
  |int i=>exact⟨_,rfl,h H' s⟩
  |tup hs hl=>exact⟨_,.inr (.inl ⟨_,Fn.of (Al hs).2,rfl⟩),by rw[<-Jo hl];exact h H' s⟩
  |lst hs hl=>exact⟨_,.inl ⟨_,hs.Bm,rfl⟩,by rw[<-Jo hl];exact h H' s⟩
  |_=>exact h.elim
end
end L2
namespace L2
open PySem PySem.Spec PyProof.Rows
def Jp (m:M (List D)):M OT:=match m with | .ok ys=>.ok (.lst (ys.map .sh)) | _=>.bad
section
variable {X:Cx}{WX:Str->Hp->Prop}{c:Bool}{P0:Ew}{P:Addr->Prop}{H:Hp}{σ:St}{ρ:Ab}{a b e tg iter:Expr}{f g:Ab->M D}{ft:Ab->M Bool}{pos:Pos}{gt:D->Ab->M Ab}{fi:Ab->M (List D)}{es:List Expr}{fs:Ab->M (List D)}
theorem XW {μ:List (Option Nat)}{wi:TI}{gg:TG}{tc:Shared->Hp->Addr->List Addr->TT}{te:Shared->Hp->Addr->List Addr->TE}{fe:Ab->M D}
 (i2:∀ P0 P σ H R ρ,An X.K P0 P H σ ρ->(match fi ρ with | .ok ds=>∀ J H',Ad H H'->ZJ X.K J P H' ds->R J H' | .ex x=>∀ H',Ad H H'->WX x H' | .bad=>False)->wi σ H R)
 (g2:∀ P0 P σ H Q ρ v d,An X.K P0 P H σ ρ->BH X.K (del H P) v d->gG X.K P0 P H Q (gt d ρ)->gg v σ H Q)
 (t2:∀ s H' C ex P0 P σ H Q ρ,An X.K P0 P H σ ρ->gT (fun _ _=>False) H Q (ft ρ)->tc s H' C ex σ H Q)
 (e2:∀ s H' C ex P0 P σ H Q ρ,An X.K P0 P H σ ρ->gV X.K (fun _ _=>False) (Lv true P0 P) H Q (fe ρ)->te s H' C ex σ H Q) {Q:VK}
 (E:An X.K P0 P H σ ρ) (h:XQ X.K WX P H Q ((fi ρ).bind fun ds=>if ds.length<=1000 then Jp (B6 gt ft fe ds (Bx μ ρ)) else .bad)):U5 wi μ gg tc te σ H Q:=by
 refine i2 P0 P σ H _ ρ E ?_
 cases q:fi ρ with
 |bad=>rw[q] at h;exact h
 |ex x=>rw[q] at h;exact h
 |ok ds =>
  rw[q] at h
  simp only[M.A7] at h
  by_cases hd:¬ ds.length<=1000
  ·rw[if_neg hd] at h;exact h.elim
  have hd:ds.length<=1000:=by omega
  rw[if_pos hd] at h
  intro J H1 s1 ok s C ex
  cases qc:B6 gt ft fe ds (Bx μ ρ) with
  |bad=>rw[qc] at h;exact h.elim
  |ex x=>rw[qc] at h;exact h.elim
  |ok total =>
   rw[qc] at h
   unfold Jp at h
   dsimp only at h
   have E1:=E.same s1
   refine⟨fun i m ys H2=>m=ds.length - i/\i<=ds.length/\ys.length<=i/\Ad H1 H2/\∃ es rest,Ag X.K (del H2 P) ys es/\B6 gt ft fe (ds.drop i) (Bx μ ρ)=.ok rest/\es++rest=total,
    ⟨ds.length,by simp,zP _,zx _,Ad.refl _,[],total,.nil,by rw[List.drop_zero];exact qc,rfl⟩,?_⟩
   rintro i m ys H2 ⟨rfl,hi,hy,s2,es,rest,f6,aq,bo⟩
   by_cases aj:i < ds.length
   ·refine .inr ⟨ok.go i P H2 s2.del aj,Nat.lt_of_le_of_lt hy (AF (by omega)),fun b9 H'=>i + 1<=ds.length/\b9.length<=i + 1/\Ad H1 H'/\∃ es rest,Ag X.K (del H' P) b9 es/\B6 gt ft fe (ds.drop (i + 1)) (Bx μ ρ)=.ok rest/\es++rest=total,fun b9 H' hq=>⟨ds.length - (i + 1),by omega,rfl,hq.1,hq.2.1,hq.2.2.1,hq.2.2.2⟩,fun v H3 y=>?_⟩
    have E2:=E1.same s2
    obtain⟨s3,hv⟩:=ok.fQ i P H2 v H3 ds[i] s2.del E2.Cn (zq aj) y
    rw[J8 aj,B6] at aq
    have E3:=(E2.same s3).block μ
    refine g2 P0 P _ H3 _ (Bx μ ρ) v ds[i] E3 hv ?_
    cases q1:gt ds[i] (Bx μ ρ) with
    |bad=>rw[q1] at aq;cases aq
    |ex x=>rw[q1] at aq;cases aq
    |ok ρ1 =>
     rw[q1] at aq
     dsimp only at aq
     intro σ4 E4
     refine t2 s H1 C ex P0 P σ4 H3 _ ρ1 E4 ?_
     cases q2:ft ρ1 with
     |bad=>rw[q2] at aq;cases aq
     |ex x=>rw[q2] at aq;cases aq
     |ok k =>
      rw[q2] at aq
      dsimp only at aq
      intro H5 s5
      cases k with
      |false =>
       simp only[zE,if_false] at aq ⊢
       exact⟨aj,by omega,(s2.trans s3).trans s5,es,rest,(f6.mono s3.del).mono s5.del,aq,bo⟩
      |true =>
       simp only[if_true] at aq ⊢
       refine e2 s H1 C ex P0 P σ4 H5 _ ρ1 (E4.same s5) ?_
       cases q3:fe ρ1 with
       |bad=>rw[q3] at aq;cases aq
       |ex x=>rw[q3] at aq;cases aq
       |ok y' =>
        rw[q3] at aq
        dsimp only at aq
        cases q4:B6 gt ft fe (ds.drop (i + 1)) (Bx μ ρ) with
        |bad=>rw[q4] at aq;cases aq
        |ex x=>rw[q4] at aq;cases aq
        |ok n4 =>
         rw[q4] at aq
         cases aq
         intro w H6 s6 hw
         refine⟨aj,by rw[zJ,y8];omega,((s2.trans s3).trans s5).trans s6,es++[y'],n4,(((f6.mono s3.del).mono s5.del).mono s6.del).snoc hw,rfl,?_⟩
         rw[yN];exact bo
   ·have e:i=ds.length:=by omega
    subst e
    rw[List.drop_length,B6] at aq
    cases aq
    rw[yq] at bo
    subst bo
    exact .inl ⟨ok.stop _ P H2 s2.del (zx _),fun D0 hn=>h.Kx (s1.trans s2) f6 D0 hn⟩
theorem Cb {scope:Scope}{NB:List Str}{ifs:List Expr}{elt:Expr}{fe:Ab->M D}(μ:List (Option Nat)) (hc:X.calm=true) (hi:DI X WX tg iter fi) (aG:J0 scope X.env.scope=true) (bE:Pn X.N NB scope μ=true) (hg:oN X scope NB μ tg gt)
 (ht:∀ s H C ex,oO (blockOf X s H scope C NB ex) ifs ft) (he:∀ s H C ex,DE (blockOf X s H scope C NB ex) (fun _ _=>False) true elt fe) (hs:∀ x,foldedSetIterable iter X.env x=pure x:=by intro _;rfl) :
 DN X WX (.ListComp elt [⟨tg,iter,ifs,0⟩] scope pos) (fun ρ=>(fi ρ).bind fun ds=>if ds.length<=1000 then Jp (B6 gt ft fe ds (Bx μ ρ)) else .bad):=by
 obtain⟨wi,i1,i2⟩:=hi
 obtain⟨gg,g1,gk,g2⟩:=hg
 refine⟨_,Zz hc i1 aG bE gk (fun s H C ex=>⟨g1 s H C ex,(zb (ht s H C ex)).1,(zb (he s H C ex)).1⟩) hs,fun P0 P σ H Q ρ E h=>?_⟩
 exact XW i2 g2 (fun s H' C ex P0 P σ H Q ρ E h=>(zb (ht s H' C ex)).2 P0 P σ H Q ρ E h) (fun s H' C ex P0 P σ H Q ρ E h=>(zb (he s H' C ex)).2 P0 P σ H Q ρ E h) E h
theorem XX {scope:Scope}{NB:List Str}{ifs:List Expr}{elt:Expr}{fe:Ab->M D}(i:Nat){x:Str}{px ay:Pos}(μ:List (Option Nat)) (hN:X.N.Nodup) (jc:X.N[i]? =some x) (hx:Loc X.env.scope x) (hc:X.calm=true) (hi:DI X WX tg iter fi) (aG:J0 scope X.env.scope=true) (bE:Pn X.N NB scope μ=true) (hg:oN X scope NB μ tg gt)
 (ht:∀ s H C ex,oO (blockOf X s H scope C NB ex) ifs ft) (he:∀ s H C ex,DE (blockOf X s H scope C NB ex) (fun _ _=>False) true elt fe)
 (bj:swapsWith (.ListComp elt [⟨tg,iter,ifs,0⟩] scope pos) (some (.Name x px)) ay.line X.env=pure true:=by rfl) (hs:∀ x,foldedSetIterable iter X.env x=pure x:=by intro _;rfl) (hf:X.fn x=true\/X.env.scope.names.lookup x=some .local:=by first|exact .inl rfl|exact .inr rfl|assumption) :
 DS X WX (.Assign [.Name x px] (.ListComp elt [⟨tg,iter,ifs,0⟩] scope pos) ay) (fun ρ=>(Sg ((fi (Ez ρ)).bind fun ds=>if ds.length<=1000 then Jp (B6 gt ft fe ds (Bx μ (Ez ρ))) else .bad)).bind (Rg i ρ)):=by
 obtain⟨wi,i1,i2⟩:=hi
 obtain⟨gg,g1,gk,g2⟩:=hg
 refine⟨_,U6 hN jc hx hc i1 aG bE gk (fun s H C ex=>⟨g1 s H C ex,(zb (ht s H C ex)).1,(zb (he s H C ex)).1⟩) bj hs hf,fun P0 P σ H Z ρ E h=>?_⟩
 refine XW (P0:=P0) (P:=P0) i2 g2 (fun s H' C ex P0 P σ H Q ρ E h=>(zb (ht s H' C ex)).2 P0 P σ H Q ρ E h) (fun s H' C ex P0 P σ H Q ρ E h=>(zb (he s H' C ex)).2 P0 P σ H Q ρ E h) E.low ?_
 dsimp only at h
 revert h
 cases ((fi (Ez ρ)).bind fun ds=>if ds.length<=1000 then Jp (B6 gt ft fe ds (Bx μ (Ez ρ))) else .bad) with
 |bad=>exact fun h=>h
 |ex y=>exact fun h H' s=>h H' P (E.tr s)
 |ok t =>
  unfold Sg
  simp only[M.A7]
  by_cases hf:GD t=true
  ·rw[if_pos hf]
   exact fun h v fp H' s hn nd o=>gF E s hn nd (o.clean (Kv (E.same s).Cn o) hf) h
  ·rw[if_neg hf];exact fun h=>h.elim
end
end L2
namespace L2
open PySem PySem.Spec PyProof.Rows
def sD (K:za) (WX:Str->Hp->Prop) (P:Addr->Prop) (p:Addr) (fp:List Addr) (H:Hp) (Q:VK):M (OT×OT)->Prop
 | .ok (t,r)=>∀ v H' P' ai fr,(∀ a,P a->a∉fp->P' a/\H' a=H a)->(∀ a,P' a->Dn H' a)->Ad (del H P) (del H' P')->C1 K H' P' (.ref p) t ai->ai.Nodup->C1 K H' P' v r fr->fr.Nodup->(∀ a∈fr,a∉ai)->
  (∀ a∈ai,P' a/\(P a->a∈fp))->(∀ a∈fr,P' a/\(P a->a∈fp))->Q v H'
 | .ex _=>False
 | .bad=>False
def OF (K:za) (n:Nat) (F:OT->List D->M (OT×OT)):Sp:=fun vs H Q E=>vs.length=n/\∃ P p t fp rest a7,vs=.ref p::rest/\(∀ a,P a->Dn H a)/\(∀ a∈fp,P a)/\fp.Nodup/\C1 K H P (.ref p) t fp/\Ag K (del H P) rest a7/\sD K (D2 K E) P p fp H Q (F t a7)
def CU (N:List Str) (t:OT) (a7:List D):Ab:=some (toCl (some 0) t)::(a7.map (fun d=>some (.val d))++zt (N.length - (a7.length + 1)) none)
def GF (ρ:Ab):Option OT:=match ρ[0]? with
 |some (some c)=>(match treeOf c with|some (some 0,t)=>some t|_=>none)
 |_=>none
def Ed (m:M Out):M (OT×OT):=match m with
 | .ok (.next ρ)=>(match GF ρ with|some t=>.ok (t,.sh .Az)|none=>.bad)
 | .ok (.F8 r ρ)=>(match GF ρ with|some t=>.ok (t,r)|none=>.bad)
 |_=>.bad
theorem VU (p:Option Nat) (t:OT):Ir (toCl p t)=true:=by
 unfold toCl
 split
 ·rename_i ts
  cases q:Ec ts with
  |none=>rfl
  |some ds=>cases p<;>rfl
 ·rfl
theorem Jq {K:za}{P:Addr->Prop}{H:Hp}{N:List Str}{p:Addr}{t:OT}{fp:List Addr}{rest:List V}{a7:List D}(ht:∀ a,P a->Dn H a) (hp:∀ a∈fp,P a) (nd:fp.Nodup) (o:C1 K H P (.ref p) t fp) (h:Ag K (del H P) rest a7) :
 An K ⟨fun a=>P a/\a∉fp,fun _=>p⟩ P H (start N (.ref p::rest)) (CU N t a7):=by
 have hl:=h.length
 have key:∀(i:Nat) (c:Cl),(a7.map (fun d=>some (Cl.val d))++zt (N.length - (a7.length + 1)) none)[i]? =some (some c)->∃ d,a7[i]? =some d/\c=.val d:=fun i c e=>by
  by_cases hi:i < a7.length
  ·rw[yw (by simpa using hi),zF] at e
   cases q:a7[i]? with
   |none=>rw[q] at e;cases e
   |some d=>rw[q] at e;cases e;exact⟨d,rfl,rfl⟩
  ·rw[yE (by simpa using hi),yB] at e
   split at e<;>cases e
 have uo:(start N (.ref p::rest))[0]? =some (some (.ref p)):=by unfold start;rfl
 refine⟨fun a h=>h.1,ht,fun i d e=>?_,fun i c e io=>?_,fun i j c c' v v' fp ai e1 e2 _ _ o1 o2 af=>?_,?_,fun i c n e wg=>?_⟩
 rotate_left 4
 ·cases i with
  |zero=>exact uo
  |succ i =>
   obtain⟨d',q,z⟩:=key i _ (by unfold CU at e;simpa using e)
   cases z
   cases wg
 ·cases i with
  |zero =>
   have e':some (toCl (some 0) t)=some (.val d):=by simpa [CU] using e
   have:=VU (some 0) t
   rw[zM e'] at this
   cases this
  |succ i =>
   obtain⟨d',q,z⟩:=key i _ (by unfold CU at e;simpa using e)
   cases z
   obtain⟨v,hv,hd⟩:=h.get q
   refine⟨v,?_,hd⟩
   unfold start
   rw[zf,List.cons_append,zT,yw (by rw[zc];exact (zw.mp hv).1),zF,hv]
   rfl
 ·cases i with
  |zero =>
   have e':toCl (some 0) t=c:=by simpa [CU] using e
   subst e'
   exact⟨_,fp,uo,Dm.toCl o,fun a ha=>⟨hp a ha,fun z=>z.2 ha⟩,nd⟩
  |succ i =>
   obtain⟨d',q,z⟩:=key i _ (by unfold CU at e;simpa using e)
   cases z
   cases io
 ·cases i with
  |zero =>
   cases j with
   |zero=>exact (af rfl).elim
   |succ j =>
    obtain⟨d',q,z⟩:=key j _ (by unfold CU at e2;simpa using e2)
    cases z
    exact o2.elim
  |succ i =>
   obtain⟨d',q,z⟩:=key i _ (by unfold CU at e1;simpa using e1)
   cases z
   exact o1.elim
 ·unfold start CU
  simp[hl]
section
variable {P:Program}{w:World}{K:za}{mg:Str->Option Value}{base:Heap}
theorem LK {P0:Ew}{P':Addr->Prop}{H':Hp}{σ':St}{ρ:Ab}{t:OT}(E:An K P0 P' H' σ' ρ) (h:GF ρ=some t):∃ c ai,ρ[0]? =some (some c)/\σ'[0]? =some (some (.ref (P0.g 0)))/\Dm K H' P' c (.ref (P0.g 0)) ai/\C1 K H' P' (.ref (P0.g 0)) t ai/\ai.Nodup/\∀ a∈ai,P' a/\¬ P0 a:=by
 unfold GF at h
 split at h
 ·rename_i c e
  split at h
  ·rename_i t' e2
   cases h
   have io:Ir c=true:=by cases c<;>first|rfl|cases e2
   obtain⟨v,fp,k1,k2,k3,k4⟩:=E.ows 0 c e io
   have:=E.pin 0 c 0 e (ID e2)
   rw[k1] at this
   cases this
   exact⟨c,fp,e,k1,k2,k2.toT e2,k4,k3⟩
  ·cases h
 ·cases h
theorem kO {x qual:Str}{st:Stmt}{f:Addr}{fd:FuncData}{N ps:List Str}{k:Nat}(F:Ww K x qual st f fd) (S:Ae N ps (A4 st)) (g:Ab->M Out)
 (hb:∀(AZ:Value) (A:Around) (outer:List Env) (s:Shared) (H:Hp) (E:XK),BI k (A.deeper (envOfC qual (A4 st) s.heap.objs.size f AZ))->Sf (Uk P w K mg base N qual (A4 st) f AZ A outer s H E) (D2 K E) (AJ st) g) :
 Dv P w K mg base (SO P w base) (k + 1) f fd ps (OF K ps.length fun t a7=>Ed (g (CU N t a7))):=by
 obtain⟨oc,od,kV,doc,pm,an,AZ,ct,Se,rfl,lk,bw⟩:=F.ex
 refine U1 lk bw S (fun vs H Q E h=>h.1) fun A outer s H vs Q E hr h=>?_
 obtain⟨hl,P',p,t,fp,rest,a7,rfl,ht,hp,nd,ho,hv,hq⟩:=h
 obtain⟨tt,h1,h2⟩:=hb AZ A outer s H E hr
 refine⟨tt,h1,h2 ⟨fun a=>P' a/\a∉fp,fun _=>p⟩ P' _ H _ _ (Jq ht hp nd ho hv) ?_⟩
 dsimp only at hq
 revert hq
 cases g (CU N t a7) with
 |bad=>exact fun h=>h.elim
 |ex x=>exact fun h=>h.elim
 |ok o =>
  have sub:∀ {P2:Addr->Prop} {H2:Hp} {σ2:St} {ρ:Ab},An K ⟨fun a=>P' a/\a∉fp,fun _=>p⟩ P2 H2 σ2 ρ->∀ a,P2 a/\¬ (P' a/\a∉fp)->P2 a/\(P' a->a∈fp):=fun E a ha=>⟨ha.1,fun z=>yD fun w=>ha.2 ⟨z,w⟩⟩
  cases o with
  |ret d=>exact fun h=>h.elim
  |CI d=>exact fun h=>h.elim
  |next ρ =>
   intro hq σ' H' P2 t2 E2
   unfold Ed at hq
   dsimp only at hq
   split at hq
   ·rename_i t' e
    obtain⟨c,ai,k1,k2,k3,k4,k5,k6⟩:=LK E2 e
    exact hq .Az H' P2 ai [] (fun a ha hn=>⟨E2.sub a ⟨ha,hn⟩,t2.2 a ⟨ha,hn⟩⟩) E2.Cn t2.1 k4 k5 (.sh .Az) y4 (fun a ha=>by cases ha) (fun a ha=>sub E2 a (k6 a ha)) (fun a ha=>by cases ha)
   ·exact hq.elim
  |F8 r ρ =>
   intro hq v fr σ' H' P2 t2 E2 o2 b5 hf
   unfold Ed at hq
   dsimp only at hq
   split at hq
   ·rename_i t' e
    obtain⟨c,ai,k1,k2,k3,k4,k5,k6⟩:=LK E2 e
    exact hq v H' P2 ai fr (fun a ha hn=>⟨E2.sub a ⟨ha,hn⟩,t2.2 a ⟨ha,hn⟩⟩) E2.Cn t2.1 k4 k5 o2 b5 (fun a ha=>(hf a ha).2.2 0 c _ ai k1 k2 k3) (fun a ha=>sub E2 a (k6 a ha)) (fun a ha=>sub E2 a ⟨(hf a ha).1,(hf a ha).2.1⟩)
   ·exact hq.elim
  |brk ρ=>exact fun h=>h.elim
  |cont ρ=>exact fun h=>h.elim
end
structure OG (P:Program) (w:World) (K:za) (mg:Str->Option Value) (base:Heap) (x:Str) (k n:Nat) (F:OT->List D->M (OT×OT)):Prop where
 ex:∃ fa fd ps,Dv P w K mg base (SO P w base) k fa fd ps (OF K n F)/\mg x=some (.ref fa)/\yi K (.ref fa)=true/\Binds K fd ps []
theorem Ri {P:Program}{w:World}{K:za}{mg:Str->Option Value}{base:Heap}{x:Str}{st:Stmt}{N ps:List Str}{k n:Nat}(T:Ai K mg x st ps) (S:Ae N ps (A4 st)) (g:Ab->M Out)
 (hb:∀(f:Addr) (AZ:Value) (A:Around) (outer:List Env) (s:Shared) (H:Hp) (E:XK),BI k (A.deeper (envOfC x (A4 st) s.heap.objs.size f AZ))->Sf (Uk P w K mg base N x (A4 st) f AZ A outer s H E) (D2 K E) (AJ st) g) (hn:ps.length=n:=by rfl) :
 OG P w K mg base x (k + 1) n (fun t a7=>Ed (g (CU N t a7))):=by
 obtain⟨f,fd,F,hm,hB⟩:=T.ex
 subst hn
 exact⟨⟨f,fd,ps,kO F S g (hb f),hm,F.kp,hB⟩⟩
section
variable {X:Cx}{WX:Str->Hp->Prop}{c:Bool}{P0:Ew}{P:Addr->Prop}{H:Hp}{σ:St}{ρ:Ab}{a b e:Expr}{f g:Ab->M D}{fn:Ab->M OT}{fp:Ab->M (List Nat)}{pos:Pos}{i:Nat}{es:List Expr}{fs:Ab->M (List D)}
theorem An.pA {K:za}{P':Addr->Prop}{H':Hp}{π:List Nat}{v1 v2:V}{t1 u r:OT}{aA fu fr:List Addr}(E:An K P0 P H σ ρ) (pl:Bj K P H σ ρ i π v1 t1) (o:C1 K H P v1 t1 aA) (hs:∀ a,P a->a∉aA->P' a/\H' a=H a) (ht:∀ a,P' a->Dn H' a) (sm:Ad (del H P) (del H' P'))
 (o':C1 K H' P' v1 u fu) (nd:fu.Nodup) (hf:∀ a∈fu,P' a/\(P a->a∈aA)) (or:C1 K H' P' v2 r fr) (xW:fr.Nodup) (hr:∀ a∈fr,P' a/\(P a->a∈aA)) (dj:∀ a∈fr,a∉fu) :
 ∃ c p t,ρ[i]? =some (some c)/\treeOf c=some (p,t)/\An K P0 P' H' σ (ρ.set i (some (toCl p (EV t π u))))/\Tr P0 P H P' H' /\
  ∀ a∈fr,P' a/\¬ P0 a/\∀(j:Nat) c' v fq,(ρ.set i (some (toCl p (EV t π u))))[j]? =some (some c')->σ[j]? =some (some v)->Dm K H' P' c' v fq->a∉fq:=by
 obtain⟨v0,c,p,t,h1,h2,h3,h4⟩:=pl.ex
 have io:Ir c=true:=by cases c<;>first|rfl|cases h2
 obtain⟨w,fp,k1,k2,k3,k4⟩:=E.ows i c h1 io
 rw[h3] at k1;cases k1
 have ot:=k2.toT h2
 obtain⟨fz,oz,kz,_⟩:=ot.part h4
 have:=oz.Cp o;subst this
 obtain⟨ai,q1,q2,q3⟩:=ot.put sm h4 o o' (fun a ha hn=>(hs a (k3 a ha).1 hn).2) k4 nd (fun a ha hb=>(hf a ha).2 (k3 a hb).1)
 have up:∀(j:Nat) c' v' fq,i≠j->ρ[j]? =some (some c')->σ[j]? =some (some v')->Dm K H P c' v' fq->∀ a∈fq,P a/\a∉fp:=fun j c' v' fq af g1 g2 g3 a ha=>by
  have jp:Ir c'=true:=by cases c'<;>first|rfl|exact g3.elim
  obtain⟨w',o7,m1,m2,m3,m4⟩:=E.ows j c' g1 jp
  rw[g2] at m1;cases m1
  have:=m2.Cp g3;subst this
  exact⟨(m3 a ha).1,E.apart j i c' c v' v0 o7 fp g1 h1 g2 h3 g3 k2 (zU af) a ha⟩
 have key:=E.oK (P':=P') (H':=H') (i:=i) (v:=v0) (c:=toCl p (EV t π u)) (fp:=ai) (fun a ha=>(hs a (E.sub a ha) fun z=>(k3 a (kz a z)).2 ha).1) ht sm (fun j c' v' fq af g1 g2 g3 a ha=>?_) (Dm.toCl q1) (fun a ha=>?_) q2 (fun n z=>by rw[IC] at z;subst z;have:=E.pin i c n h1 (ID h2);rw[h3] at this;cases this;rfl)
 ·rw[Kp h3] at key
  refine⟨c,p,t,h1,h2,key,⟨sm,fun a ha=>(hs a (E.sub a ha) fun z=>(k3 a (kz a z)).2 ha).2⟩,fun a ha=>⟨(hr a ha).1,fun z=>(k3 a (kz a ((hr a ha).2 (E.sub a z)))).2 z,fun j c' v fq g1 g2 g3 hb=>?_⟩⟩
  rcases get_set g1 with ⟨rfl,hl,z⟩|⟨af,g1⟩
  ·cases z
   rw[h3] at g2;cases g2
   rw[g3.Cp (Dm.toCl q1)] at hb
   rcases q3 a hb with y|y
   ·exact dj a ha y
   ·exact y.2 ((hr a ha).2 (k3 a y.1).1)
  ·have jp:Ir c'=true:=by cases c'<;>first|rfl|exact g3.elim
   obtain⟨w',o7,m1,m2,m3,m4⟩:=E.ows j c' g1 jp
   rw[g2] at m1;cases m1
   have o2:=up j c' v o7 af g1 g2 m2
   have mv:=m2.move sm fun b aE=>(hs b (o2 b aE).1 fun z=>(o2 b aE).2 (kz b z)).2
   rw[g3.Cp mv] at hb
   exact (o2 a hb).2 (kz a ((hr a ha).2 (o2 a hb).1))
 ·have o2:=up j c' v' fq af g1 g2 g3 a ha
  have hk:=hs a o2.1 fun z=>o2.2 (kz a z)
  refine⟨hk.2,fun z=>?_,hk.1⟩
  rcases q3 a z with y|y
  ·exact o2.2 (kz a ((hf a y).2 o2.1))
  ·exact o2.2 y.1
 ·rcases q3 a ha with y|y
  ·exact⟨(hf a y).1,fun z=>(k3 a (kz a ((hf a y).2 (E.sub a z)))).2 z⟩
  ·exact⟨(hs a (k3 a y.1).1 y.2).1,(k3 a y.1).2⟩
end
end L2
namespace L2
open PySem PySem.Spec PyProof.Rows
def GG (i:Nat) (ρ:Ab) (π:List Nat) (u:OT):M Out:=match ρ[i]? with
 |some (some c)=>(match treeOf c with|some (p,t)=>.ok (.next (ρ.set i (some (toCl p (EV t π u)))))|none=>.bad)
 |_=>.bad
def L5 (i:Nat) (ρ:Ab) (π:List Nat):M (List OT):=match Uy i ρ π with | some (.lst ts)=>.ok ts | _=>.bad
theorem Hu {i:Nat}{ρ:Ab}{π:List Nat}{u:OT}{c:Cl}{p:Option Nat}{t:OT}(h:ρ[i]? =some (some c)) (ht:treeOf c=some (p,t)):GG i ρ π u=.ok (.next (ρ.set i (some (toCl p (EV t π u))))):=by
 unfold GG
 simp only[h,ht]
section
variable {X:Cx}{WX:Str->Hp->Prop}{c:Bool}{P0:Ew}{P:Addr->Prop}{H:Hp}{σ:St}{ρ:Ab}{a b e:Expr}{f g:Ab->M D}{fn:Ab->M OT}{fp:Ab->M (List Nat)}{pos:Pos}{i:Nat}{es:List Expr}{fs:Ab->M (List D)}
def Ta {α:Type}(o:Option α):M α:=match o with | some x=>.ok x | none=>.bad
def Pz (i:Nat) (ρ:Ab) (π:List Nat):M (List D):=match Uy i ρ π with | some (.lst ts)=>(match Ec ts with | some ds=>.ok ds | none=>.bad) | _=>.bad
theorem Bj.shl {K:za}{π:List Nat}{v:V}{t1:OT}{ds:List D}(pl:Bj K P H σ ρ i π v t1) (E:An K P0 P H σ ρ) (h:Pz i ρ π=.ok ds):t1=.lst (ds.map .sh)/\∃ l xs,v=.ref l/\H l=some (.lst xs)/\Ag K (del H P) xs ds:=by
 unfold Pz at h
 rw[pl.at] at h
 split at h
 ·rename_i uq e
  split at h
  ·rename_i jg e'
   cases e
   cases h
   have z:=D4 e'
   subst z
   obtain⟨aA,o1,hp,nd⟩:=pl.own E
   cases o1 with
   |lst hh hr=>exact⟨rfl,_,_,rfl,hh,hr.kK.2⟩
  ·cases h
 ·cases h
theorem Tb {π:List Nat}{x:Str}(h:Pz i ρ π=.ex x):False:=by
 unfold Pz at h
 split at h
 ·split at h<;>cases h
 ·cases h
theorem An.kP {K:za}{π:List Nat}{l:Addr}{xs ys:List V}{ds es:List D}(E:An K P0 P H σ ρ) (pl:Bj K P H σ ρ i π (.ref l) (.lst (ds.map .sh))) (hH:H l=some (.lst xs)) (o:Ag K (del H P) xs ds) (o':Ag K (del H P) ys es) :
 ∃ c p t,ρ[i]? =some (some c)/\treeOf c=some (p,t)/\An K P0 P (upd H l (.lst ys)) σ (ρ.set i (some (toCl p (EV t π (.lst (es.map .sh))))))/\Tr P0 P H P (upd H l (.lst ys)) :=
 E.sC pl hH o.ows o'.ows y4 (fun z=>by cases z) (fun a ha=>by cases ha)
theorem kQ {nm:Str}{id:String}{r:V->List V->Hp->VK->Prop}{dm:List D->Option (List D)}(ha:DP X WX a i fp) (slot:Slot "list" nm id) (i4:typeOf (.builtin id)=pure (.type "method_descriptor")) (hm:jJ X id r)
 (hr:∀(P:Addr->Prop) (H:Hp) (l:Addr) (xs:List V) (ds us:List D) (Q:VK),H l=some (.lst xs)->Ag X.K (del H P) xs ds->dm ds=some us->(∀ ys v,Ag X.K (del H P) ys us->Q v (upd H l (.lst ys)))->r (.ref l) [] H Q) {apos ac:Pos}
 (bj:swapsWith (.Call (.Attribute a nm apos) [] [] ac) none pos.line X.env=pure false:=by rfl)
 (av:attributeBase a nm X.env (eval a X.env)=eval a X.env:=by rfl) (aw:(apos.endLine == ac.line)=true:=by rfl) :
 DS X WX (.Expr (.Call (.Attribute a nm apos) [] [] ac) pos) (fun ρ=>(fp ρ).bind fun π=>(Pz i ρ π).bind fun ds=>(Ta (dm ds)).bind fun us=>GG i ρ π (.lst (us.map .sh))):=by
 obtain⟨ta,a1,a2⟩:=ha
 refine⟨_,Fo (jI y9 slot i4 hm a1 av aw) bj,fun P0 P σ H Z ρ E h=>?_⟩
 dsimp only at h
 refine a2 P0 P σ H _ ρ E ?_
 cases q:fp ρ with
 |bad=>rw[q] at h;exact h
 |ex x=>rw[q] at h;exact fun H' s=>h H' P (E.tr s)
 |ok π =>
  rw[q] at h
  simp only[M.A7] at h
  intro v t1 H1 s1 pl
  have E1:=E.same s1
  cases q1:Pz i ρ π with
  |bad=>rw[q1] at h;exact h.elim
  |ex x=>exact (Tb q1).elim
  |ok ds =>
   rw[q1] at h
   simp only[M.A7] at h
   obtain⟨rfl,l,xs,rfl,hl,ol⟩:=pl.shl E1 q1
   cases q2:dm ds with
   |none=>rw[q2] at h;exact h.elim
   |some us =>
    rw[q2] at h
    simp only[Ta,M.A7] at h
    refine⟨.inl ⟨rfl,xs,.of hl⟩,hr P H1 l xs ds us _ hl ol q2 fun ys w hy=>?_⟩
    obtain⟨c,p,t0,g1,g2,E3,t3⟩:=E1.kP pl hl ol hy
    rw[Hu g1 g2] at h
    exact h _ _ _ ((E.tr s1).trans t3) E3
theorem XY (ha:DP X WX a i fp){apos ac:Pos}(bj:swapsWith (.Call (.Attribute a "clear" apos) [] [] ac) none pos.line X.env=pure false:=by rfl)
 (av:attributeBase a "clear" X.env (eval a X.env)=eval a X.env:=by rfl) (aw:(apos.endLine == ac.line)=true:=by rfl) :
 DS X WX (.Expr (.Call (.Attribute a "clear" apos) [] [] ac) pos) (fun ρ=>(fp ρ).bind fun π=>(Pz i ρ π).bind fun ds=>(Ta (some [])).bind fun us=>GG i ρ π (.lst (us.map .sh))) :=
 kQ (dm:=fun _=>some []) ha PySem.F.slot_list_clear PySem.F.type_list_clear X6 (fun P H l xs ds us Q h1 h2 h3 h4=>by cases h3;exact⟨l,xs,rfl,rfl,h1,h4 [] _ .nil⟩) bj av aw
def dE (t:OT):M (List D):=match t with | .lst us=>Ta (Ec us) | _=>.bad
theorem XZ (ha:DP X WX a i fp) (he:DN X WX e fn){apos ac:Pos}(hs:starEach [e] X.env=[(false,eval e X.env)]:=by rfl)
 (bj:swapsWith (.Call (.Attribute a "extend" apos) [e] [] ac) none pos.line X.env=pure false:=by rfl)
 (av:attributeBase a "extend" X.env (eval a X.env)=eval a X.env:=by rfl)
 (aV:((backTo ac (starEach [e] X.env)).all (fun x => !x.1) && (backToKw ac (keywordEach [] X.env)).all (fun x=>x.1.isSome) && decide (([e]:List Expr).length + ([]:List Keyword).length + (if ([]:List Keyword).isEmpty then 0 else 1) < 30))=true:=by rfl)
 (aw:(apos.endLine == ac.line)=true:=by rfl) (ar:(backTo ac (starEach [] X.env)).any (·.1)=false:=by rfl) :
 DS X WX (.Expr (.Call (.Attribute a "extend" apos) [e] [] ac) pos) (fun ρ=>(fp ρ).bind fun π=>(Pz i ρ π).bind fun ds=>((fn ρ).bind dE).bind fun es=>if ds.length + es.length<=1000 then GG i ρ π (.lst ((ds++es).map .sh)) else .bad):=by
 obtain⟨ta,a1,a2⟩:=ha
 obtain⟨te,e1,e2⟩:=he
 refine⟨_,Fo (QK y9 PySem.F.slot_list_extend PySem.F.type_list_extend Vo a1 (Be e1 Cg hs) av aV aw hs ar) bj,fun P0 P σ H Z ρ E h=>?_⟩
 dsimp only at h
 refine a2 P0 P σ H _ ρ E ?_
 cases q:fp ρ with
 |bad=>rw[q] at h;exact h
 |ex x=>rw[q] at h;exact fun H' s=>h H' P (E.tr s)
 |ok π =>
  rw[q] at h
  simp only[M.A7] at h
  intro v t1 H1 s1 pl
  have E1:=E.same s1
  cases q1:Pz i ρ π with
  |bad=>rw[q1] at h;exact h.elim
  |ex x=>exact (Tb q1).elim
  |ok ds =>
   rw[q1] at h
   simp only[M.A7] at h
   obtain⟨rfl,l,xs,rfl,hl,ol⟩:=pl.shl E1 q1
   refine⟨.inl ⟨rfl,xs,.of hl⟩,e2 P0 P σ H1 _ ρ E1 ?_⟩
   cases q2:fn ρ with
   |bad=>rw[q2] at h;exact h
   |ex y=>rw[q2] at h;exact fun H' s=>h H' P ((E.tr s1).trans (E1.tr s))
   |ok t =>
    rw[q2] at h
    simp only[M.A7] at h
    intro w fw H2 s2 n2 b5 o2
    have sm:=Dd (P:=P) s2 n2
    have E2:An X.K P0 (PU P fw) H2 σ ρ:=E1.more s2 MM (Kv (E1.same s2).Cn o2) sm
    cases t with
    |lst us =>
     simp only[dE] at h
     cases q3:Ec us with
     |none=>rw[q3] at h;exact h.elim
     |some es =>
      rw[q3] at h
      simp only[Ta,M.A7] at h
      have z:=D4 q3
      subst z
      cases o2 with
      |lst hb hr =>
       by_cases hz:ds.length + es.length<=1000
       ·rw[if_pos hz] at h
        have he:=hr.kK.2
        have jq:=ol.mono sm
        have aZ:=s2 _ _ hl
        obtain⟨c,p,t0,g1,g2,E3,t3⟩:=E2.kP (pl.more sm s2) aZ jq (jq.append he)
        rw[Hu g1 g2] at h
        exact⟨l,_,xs,_,rfl,rfl,aZ,hb,yj (AF (by rw[ol.length,he.length];exact hz)),h _ _ _ (((E.tr s1).trans (E1.rZ s2 n2)).trans t3) E3⟩
       ·rw[if_neg hz] at h;exact h.elim
    |_=>exact h.elim
end
end L2
namespace L2
open PySem PySem.Spec PyProof.Rows
def gX (K:za) (WX:Str->Hp->Prop) (P0:Ew) (P:Addr->Prop) (H:Hp) (σ:St) (Q:VK):M (Ab×OT)->Prop
 | .ok (ρ,t)=>∀ v fp H' P',Tr P0 P H P' H'->An K P0 P' H' σ ρ->C1 K H' P' v t fp->fp.Nodup->(∀ a∈fp,P' a/\¬ P0 a/\∀(j:Nat) c v' fq,ρ[j]? =some (some c)->σ[j]? =some (some v')->Dm K H' P' c v' fq->a∉fq)->Q v H'
 | .ex x=>∀ H' P',Tr P0 P H P' H'->WX x H'
 | .bad=>False
def DX (X:Cx) (WX:Str->Hp->Prop) (e:Expr) (f:Ab->M (Ab×OT)):Prop :=
 ∃ t,PE X e t/\∀ P0 P σ H Q ρ,An X.K P0 P H σ ρ->gX X.K WX P0 P H σ Q (f ρ)->t σ H Q
def Y0:OT->Bool
 | .sh _=>false
 |_=>true
def Rj (i:Nat) (F:OT->List D->M (OT×OT)) (ρ:Ab) (π:List Nat) (a7:List D):M (Ab×OT):=match ρ[i]? with
 |some (some c)=>(match treeOf c with
  |some (p,t)=>(match Ku t π with
   |some t1=>if Y0 t1=true then (match F t1 a7 with | .ok (t2,r)=>.ok (ρ.set i (some (toCl p (EV t π t2))),r)|_=>.bad) else .bad
   |none=>.bad)
  |none=>.bad)
 |_=>.bad
section
variable {X:Cx}{E:XK}{WX:Str->Hp->Prop}{c:Bool}{P0:Ew}{P:Addr->Prop}{H:Hp}{σ:St}{ρ:Ab}{a b e:Expr}{f g:Ab->M D}{fn:Ab->M OT}{fx:Ab->M (Ab×OT)}{fp:Ab->M (List Nat)}{pos:Pos}{i:Nat}{es:List Expr}{fs:Ab->M (List D)}
theorem Y1 {F:OT->List D->M (OT×OT)}{π:List Nat}{a7:List D}{c:Cl}{p:Option Nat}{t t1 t2 r:OT}(h:ρ[i]? =some (some c)) (ht:treeOf c=some (p,t)) (hs:Ku t π=some t1) (hN:Y0 t1=true) (hF:F t1 a7=.ok (t2,r)):Rj i F ρ π a7=.ok (ρ.set i (some (toCl p (EV t π t2))),r):=by
 unfold Rj
 simp only[h,ht,hs,hN,if_true,hF]
theorem Y2 {k n:Nat}{F:OT->List D->M (OT×OT)}{x:Str}{p:Pos}(xo:XCall X E) (G:OG X.prog X.w X.K X.mg X.base x k n F) (hr:BI k X.A) (hg:Gl X x) (hp:DP X (D2 X.K E) a i fp) (ha:DA X (D2 X.K E) true es fs) (hn:es.length + 1=n)
 (aU:(x == ("__debug__" : Str))=false:=by decide) (he:starEach (a::es) X.env=(false,eval a X.env)::starEach es X.env:=by rfl) (a6:(backTo pos (starEach es X.env)).any (·.1)=false:=by rfl) :
 DX X (D2 X.K E) (.Call (.Name x p) (a::es) [] pos) (fun ρ=>(fp ρ).bind fun π=>(fs ρ).bind fun a7=>Rj i F ρ π a7):=by
 obtain⟨fa,fd,ps,hF,hm,hk,hb⟩:=G.ex
 obtain⟨tp,p1,p2⟩:=hp
 obtain⟨ta,a1,a2,a3⟩:=ha
 refine⟨_,TZ hF hr hg hm hk hb .nil xo.call (Be p1 a1 he) aU he a6,fun P0 P σ H Q ρ Ev h=>?_⟩
 dsimp only at h
 refine p2 P0 P σ H _ ρ Ev ?_
 cases q:fp ρ with
 |bad=>rw[q] at h;exact h
 |ex x=>rw[q] at h;exact fun H' s=>h H' P (Ev.tr s)
 |ok π =>
  rw[q] at h
  simp only[M.A7] at h
  intro v t1 H1 s1 pl
  have E1:=Ev.same s1
  refine a2 P0 P σ H1 _ ρ E1 ?_
  cases q2:fs ρ with
  |bad=>rw[q2] at h;exact h
  |ex y=>rw[q2] at h;exact fun H' s=>h H' P ((Ev.tr s1).trans (E1.tr s))
  |ok a7 =>
   rw[q2] at h
   simp only[M.A7] at h
   intro vs H2 s2 aI
   have E2:=E1.same s2
   have da:=pl.same s2
   show OF X.K n F ((v::vs)++[]) H2 Q E
   rw[yq]
   obtain⟨v0,c,pp,t,g1,g2,g3,g4⟩:=da.ex
   unfold Rj at h
   simp only[g1,g2,g4.sub] at h
   by_cases hx:Y0 t1=true
   ·rw[if_pos hx] at h
    obtain⟨aA,o1,wj,ge⟩:=da.own E2
    have o8:∃ l,v=.ref l:=by
     cases o1 with
     |sh hv=>exact absurd hx (by simp[Y0])
     |lst _ _=>exact⟨_,rfl⟩
     |tup _ _=>exact⟨_,rfl⟩
     |dK _ _=>exact⟨_,rfl⟩
     |dT _ _=>exact⟨_,rfl⟩
     |ins _ _ _=>exact⟨_,rfl⟩
    obtain⟨l,rfl⟩:=o8
    refine⟨by rw[zk,aI.length,a3 ρ a7 q2];exact hn,P,l,t1,aA,vs,a7,rfl,E2.Cn,fun b hb=>(wj b hb).1,ge,o1,aI,?_⟩
    cases qF:F t1 a7 with
    |bad=>rw[qF] at h;exact h.elim
    |ex x=>rw[qF] at h;exact h.elim
    |ok z =>
    obtain⟨t2,r⟩:=z
    rw[qF] at h
    intro w H' P' fu fr k1 k2 k3 k4 k5 k6 k7 k8 k9 o9
    obtain⟨c',p',t',m1,m2,m3,m4,m5⟩:=E2.pA da o1 k1 k2 k3 k4 k5 k9 k6 k7 o9 k8
    rw[g1] at m1;cases m1
    rw[g2] at m2;cases m2
    exact h w fr H' P' (((Ev.tr s1).trans (E1.tr s2)).trans m4) m3 k6 k7 m5
   ·rw[if_neg hx] at h;exact h.elim
theorem MT (he:DX X WX e fx) (hs:swapsWith e none pos.line X.env=pure false:=by rfl):DS X WX (.Expr e pos) (fun ρ=>(fx ρ).bind fun z=>.ok (.next z.1)):=by
 obtain⟨te,e1,e2⟩:=he
 refine⟨_,Fo e1 hs,fun P0 P σ H Z ρ E h=>?_⟩
 dsimp only at h
 refine e2 P0 P σ H _ ρ E ?_
 cases q:fx ρ with
 |bad=>rw[q] at h;exact h
 |ex x=>rw[q] at h;exact h
 |ok z=>rw[q] at h;exact fun v fp H' P' t E' o nd hf=>h σ H' P' t E'
end
end L2
namespace L2
open PySem PySem.Spec PyProof.Rows
def G5 (i:Nat) (ρ:Ab) (π:List Nat):M (Bool×List D×List D):=match Uy i ρ π with
 |some (.Bg b ks ts)=>(match Ec ts with|some vs=>.ok (b,ks,vs)|none=>.bad)
 |_=>.bad
def putD (ks vs:List D) (k v:D):List D×List D:=if Lq ks k=true then (ks,IE ks vs k v) else (ks++[k],vs++[v])
section
variable {X:Cx}{E:XK}{WX:Str->Hp->Prop}{c:Bool}{P0:Ew}{P:Addr->Prop}{H:Hp}{σ:St}{ρ:Ab}{a b e:Expr}{f g:Ab->M D}{fn:Ab->M OT}{fx:Ab->M (Ab×OT)}{fp:Ab->M (List Nat)}{pos:Pos}{i:Nat}{es:List Expr}{fs:Ab->M (List D)}
theorem Bj.Bg {K:za}{π:List Nat}{v:V}{t1:OT}{bl:Bool}{ks vs:List D}(pl:Bj K P H σ ρ i π v t1) (E:An K P0 P H σ ρ) (h:G5 i ρ π=.ok (bl,ks,vs)):t1=.Bg bl ks (vs.map .sh)/\∃ l xs,v=.ref l/\P l/\Ag K (del H P) xs vs/\C1 K H P (.ref l) (.Bg bl ks (vs.map .sh)) [l] /\
 ((bl=false/\∃ kvs,H l=some (.dK kvs)/\ks=(kvs.map fun kv=>Dl kv.1)/\xs=kvs.map yv)\/(bl=true/\∃ kvs,H l=some (.dT kvs)/\ks=(kvs.map fun kv=>.tup (kv.1.map Dl))/\xs=kvs.map yv)):=by
 unfold G5 at h
 rw[pl.at] at h
 split at h
 ·rename_i b' we uq e
  split at h
  ·rename_i bf e'
   cases e
   cases h
   have z:=D4 e'
   subst z
   obtain⟨aA,o1,hp,nd⟩:=pl.own E
   generalize ht:OT.Bg bl ks (vs.map .sh)=t at o1
   cases o1 with
   |dK hh hr =>
    injection ht with h1 h2 h3
    subst h1 h2 h3
    obtain⟨rfl,hs⟩:=hr.kK
    exact⟨rfl,_,_,rfl,(hp _ zd).1,hs,.dK hh hr,.inl ⟨rfl,_,hh,rfl,rfl⟩⟩
   |dT hh hr =>
    injection ht with h1 h2 h3
    subst h1 h2 h3
    obtain⟨rfl,hs⟩:=hr.kK
    exact⟨rfl,_,_,rfl,(hp _ zd).1,hs,.dT hh hr,.inr ⟨rfl,_,hh,rfl,rfl⟩⟩
   |_=>cases ht
  ·cases h
 ·cases h
theorem Y3 {π:List Nat}{x:Str}(h:G5 i ρ π=.ex x):False:=by
 unfold G5 at h
 split at h
 ·split at h<;>cases h
 ·cases h
theorem An.kR {K:za}{π:List Nat}{l:Addr}{t1 u:OT}{o':HO}(E:An K P0 P H σ ρ) (pl:Bj K P H σ ρ i π (.ref l) t1) (ot:C1 K H P (.ref l) t1 [l]) (hn:∀ xs,o'≠.tup xs/\∀ z,o'≠.Vc z (.tup xs)) (new:Ad (del H P) (del (upd H l o') P)->C1 K (upd H l o') P (.ref l) u [l]) :
 ∃ c p t,ρ[i]? =some (some c)/\treeOf c=some (p,t)/\An K P0 P (upd H l o') σ (ρ.set i (some (toCl p (EV t π u))))/\Tr P0 P H P (upd H l o'):=by
 obtain⟨aA,o1,hp,_⟩:=pl.own E
 have:=o1.Cp ot;subst this
 have pP:P l:=(hp l zd).1
 have sd:del (upd H l o') P=del H P:=by
  funext b
  by_cases hb:P b
  ·rw[CZ hb,CZ hb]
  ·rw[Aw hb,Aw hb,Ah (fun z=>hb (by rw[z];exact pP))]
 have sm:Ad (del H P) (del (upd H l o') P):=by rw[sd];exact Ad.refl _
 refine E.oY pl ot (fun _ h=>h) (fun a h=>?_) sm (fun a ha hn=>Ah fun z=>hn (by rw[z];exact zd)) (new sm) (by simp) (fun a ha=>.inl ha)
 by_cases ha:a=l
 ·subst ha;exact⟨_,Ar,hn⟩
 ·unfold Dn;rw[Ah ha];exact E.Cn a h
theorem LL {n:Nat}(hu:X.A.units + n < cLine) (ha:DP X WX a i fp) (hk:DE X WX true b g) (hv:DE X WX true e f){pos':Pos}(hs:swapsWith e (some (.Subscript a b pos')) pos.line X.env=pure false:=by rfl) (hn:1<=n:=by decide) :
 DS X WX (.Assign [.Subscript a b pos'] e pos) (fun ρ=>(f ρ).bind fun v=>(fp ρ).bind fun π=>(g ρ).bind fun k=>(G5 i ρ π).bind fun z=>if keyOk z.1 k=true/\z.2.1.length < 1000 then GG i ρ π (.Bg z.1 (putD z.2.1 z.2.2 k v).1 ((putD z.2.1 z.2.2 k v).2.map .sh)) else .bad):=by
 obtain⟨ta,a1,a2⟩:=ha
 obtain⟨tk,k1,k2⟩:=hk
 obtain⟨tv,v1,v2⟩:=hv
 refine⟨_,Zs (by omega) a1 k1 v1 hs,fun P0 P σ H Z ρ E h=>?_⟩
 dsimp only at h
 refine v2 P0 P σ H _ ρ E ?_
 cases q0:f ρ with
 |bad=>rw[q0] at h;exact h
 |ex x=>rw[q0] at h;exact fun H' s=>h H' P (E.tr s)
 |ok d =>
  rw[q0] at h
  simp only[M.A7] at h
  intro w H0 s0 hw
  have E0:=E.same s0
  refine a2 P0 P σ H0 _ ρ E0 ?_
  cases q:fp ρ with
  |bad=>rw[q] at h;exact h
  |ex x=>rw[q] at h;exact fun H' s=>h H' P ((E.tr s0).trans (E0.tr s))
  |ok π =>
   rw[q] at h
   simp only[M.A7] at h
   intro v t1 H1 s1 pl
   have E1:=E0.same s1
   refine k2 P0 P σ H1 _ ρ E1 ?_
   cases q2:g ρ with
   |bad=>rw[q2] at h;exact h
   |ex y=>rw[q2] at h;exact fun H' s=>h H' P (((E.tr s0).trans (E0.tr s1)).trans (E1.tr s))
   |ok k =>
    rw[q2] at h
    simp only[M.A7] at h
    intro y H2 s2 hy
    have E2:=E1.same s2
    have da:=pl.same s2
    have lw:=(hw.mono s1.del).mono s2.del
    have ur:=((E.tr s0).trans (E0.tr s1)).trans (E1.tr s2)
    cases q3:G5 i ρ π with
    |bad=>rw[q3] at h;exact h.elim
    |ex x=>exact (Y3 q3).elim
    |ok z =>
     obtain⟨bb,ks,vs⟩:=z
     rw[q3] at h
     simp only[M.A7] at h
     by_cases hc:keyOk bb k=true/\ks.length < 1000
     ·rw[if_pos hc] at h
      obtain⟨rfl,l,xs,rfl,hP,bZ,ot,jr⟩:=da.Bg E2 q3
      have hK:=Fd hc.1
      rcases jr with ⟨rfl,kvs,hH,rfl,rfl⟩|⟨rfl,kvs,hH,rfl,rfl⟩
      ·cases hK with
       |k κ =>
        have ey:=hy.kM
        refine⟨l,_,rfl,.inl ⟨kvs,κ,hH,ey,AF (by have:=hc.2;rw[zc] at this;omega),rfl⟩,?_⟩
        have bc:∃ bf,(putD (kvs.map fun kv=>Dl kv.1) vs (Dl κ) d)=((putK kvs κ w).map (fun kv=>Dl kv.1),bf)/\Ag X.K (del H2 P) ((putK kvs κ w).map yv) bf:=by
         unfold putD putK
         rw[MQ MN]
         by_cases hh:(kvs.any fun kv=>decide (kv.1=κ))=true
         ·rw[if_pos hh,if_pos hh]
          refine⟨_,by rw[Jl (fk:=Dl) MN],?_⟩
          rw[<-Jk (fk:=Dl) MN]
          exact Jm lw bZ
         ·rw[if_neg hh,if_neg hh]
          refine⟨_,by rw[zL];rfl,?_⟩
          rw[zL]
          exact bZ.snoc lw
        obtain⟨bf,e1,e2⟩:=bc
        obtain⟨c,p,t0,g1,g2,E3,t3⟩:=E2.kR (o':=.dK (putK kvs κ w)) (u:=.Bg false ((putK kvs κ w).map fun kv=>Dl kv.1) (bf.map .sh)) da ot (fun _=>⟨fun z=>(by cases z),fun _ z=>by cases z⟩) (fun mv=>.dK Ar (e2.mono mv).ows)
        rw[e1,Hu g1 g2] at h
        exact h _ _ _ (ur.trans t3) E3
      ·cases hK with
       |t κ =>
        cases hy with
        |tup ht aZ =>
         have ey:=Ag.keys κ aZ
         subst ey
         refine⟨l,_,rfl,.inr ⟨kvs,κ,_,hH,rfl,(Al ht).2,AF (by have:=hc.2;rw[zc] at this;omega),rfl⟩,?_⟩
         have hf:∀ a b:List Key,Av (.tup (a.map Dl)) (.tup (b.map Dl))=decide (a=b):=fun a b=>by simp only[Av];exact LI a b
         have bc:∃ bf,(putD (kvs.map fun kv=>.tup (kv.1.map Dl)) vs (.tup (κ.map Dl)) d)=((putK kvs κ w).map (fun kv=>.tup (kv.1.map Dl)),bf)/\Ag X.K (del H2 P) ((putK kvs κ w).map yv) bf:=by
          unfold putD putK
          rw[MQ (fk:=fun κ:List Key=>D.tup (κ.map Dl)) hf]
          by_cases hh:(kvs.any fun kv=>decide (kv.1=κ))=true
          ·rw[if_pos hh,if_pos hh]
           refine⟨_,by rw[Jl (fk:=fun κ:List Key=>D.tup (κ.map Dl)) hf],?_⟩
           rw[<-Jk (fk:=fun κ:List Key=>D.tup (κ.map Dl)) hf]
           exact Jm lw bZ
          ·rw[if_neg hh,if_neg hh]
           refine⟨_,by rw[zL];rfl,?_⟩
           rw[zL]
           exact bZ.snoc lw
         obtain⟨bf,e1,e2⟩:=bc
         obtain⟨c,p,t0,g1,g2,E3,t3⟩:=E2.kR (o':=.dT (putK kvs κ w)) (u:=.Bg true ((putK kvs κ w).map fun kv=>.tup (kv.1.map Dl)) (bf.map .sh)) da ot (fun _=>⟨fun z=>(by cases z),fun _ z=>by cases z⟩) (fun mv=>.dT Ar (e2.mono mv).ows)
         rw[e1,Hu g1 g2] at h
         exact h _ _ _ (ur.trans t3) E3
     ·rw[if_neg hc] at h;exact h.elim
theorem Rk (tk:Bool):DN X WX (.Dict [] [] pos) (fun _=>.ok (.Bg tk [] [])):=by
 cases tk with
 |false =>
  refine⟨_,Xa,fun P0 P σ H Q ρ E h p hp=>?_⟩
  exact h _ [p] _ (AM hp _) (fun a ha=>by rw[zg.mp ha];exact hp) (by simp) (.dK (kvs:=[]) Ar .nil)
 |true =>
  refine⟨_,Xb,fun P0 P σ H Q ρ E h p hp=>?_⟩
  exact h _ [p] _ (AM hp _) (fun a ha=>by rw[zg.mp ha];exact hp) (by simp) (.dT (kvs:=[]) Ar .nil)
end
end L2
namespace L2
open PySem PySem.Spec PyProof.Rows
theorem IF {α:Type}(o:Option (α×List Int)) (b:α×List Int):BG o b≠none:=by
 unfold BG
 split
 ·intro z;cases z
 ·split<;>(intro z;cases z)
theorem MU {α:Type}:∀ {bs:List (α×List Int)},bs≠[]->AV bs≠none:=by
 intro bs h
 unfold AV
 suffices z:∀(bs:List (α×List Int)) (o:Option (α×List Int)),o≠none->bs.foldl BG o≠none by
  cases bs with
  |nil=>exact (h rfl).elim
  |cons b r=>rw[zS];exact z r _ (IF _ _)
 intro bs
 induction bs with
 |nil=>intro o h;exact h
 |cons b r ih=>intro o h;rw[zS];exact ih _ (IF _ _)
section
variable {prog:Program}{w:World}{A:Around}{R:Result->Shared->Prop}
theorem VW (bs:List (Addr×List Int)) (pc:bs≠[]) (tv:Addr->Array Value) (l I S:Addr) (hh:A.handled=none) (hu:A.in1.units < cLine) (cN:S≠I) (ia:l≠I) (jd:l≠S) (fc:∀ b∈bs,b.1≠I/\b.1≠S)
 (hk:∀ b∈bs,IntsAre (tv b.1).toList b.2):∀(k j:Nat) (s:Shared) (c:Nat),bs.length - j=k->j<=bs.length->s.heap.IsListIter I l j->s.heap.IsList l (bs.map fun b=>zZ b.1).toArray->(∀ b∈bs,IsTup s.heap b.1 (tv b.1))->
  s.heap.get? S=some { cls:=.type "list",dict:=none,data:=.seq (Dk (bs.take j)) c,slots:=#[] } ->
  (∀ h' tk,(∀ b o,b≠I->b≠S->s.heap.get? b=some o->h'.get? b=some o)->R (.ok (.ret (match AV bs with|none=>.none|some b=>.ref b.1))) { s with heap:=h',toks:=tk })->
  codeAny (model prog w) A (.builtin "min.loop" ⟨[.ref I,.none,.ref S],[]⟩) R s:=by
 have aB:(toString "min" ++ toString ".loop" : String) = "min.loop" := by decide
 intro k
 induction k with
 |zero =>
  intro j s c hr hj hit hl ht hS hR
  have bI:j=bs.length:=by omega
  subst bI
  rw[yr] at hS
  refine codeAny_builtin PySem.F.entry_min_loop ?_
  rw[yK zW _]
  show wpAny _ A.in1 (seqItems? (.ref S) >>= _) _ _ s
  refine wpAny_bind (wpAny_seqItems hS rfl ?_)
  show wpAny _ A.in1 (tryCatch (pyNext (.ref I)) _ >>= _) _ _ s
  refine wpAny_bind (wpAny_tryCatch (wpAny_pyNext_list_end (A:=A.in1) hh hit hl (by simp) fun h' eb=>?_))
  have aH:h'.get? S=_:=eb S _ cN hS
  unfold Dk at aH
  cases hb:AV bs with
  |none=>exact (MU pc hb).elim
  |some b =>
   rw[hb] at aH
   unfold Dk
   rw[hb]
   show wpAny _ A.in1 (updateSeq S (fun _=>#[]) >>= _) _ _ _
   refine wpAny_bind ?_
   refine wpAny_updateSeq aH rfl (wpAny_bind (wpAny_letGo (wpAny_pure ?_)))
   have q:=hR (h'.update S (yF fun _=>#[])) s.toks fun b o h1 h2 e=>(yU _ _ (zU h2)).trans (eb b o h1 e)
   rw[hb] at q
   exact q
 |succ k ih =>
  intro j s c hr hj hit hl ht hS hR
  have aj:j < bs.length:=by omega
  have ej:bs.take (j + 1)=bs.take j++[bs[j]]:=by rw[yu,zq aj];rfl
  have mj:bs[j]∈bs:=List.getElem_mem aj
  refine codeAny_builtin PySem.F.entry_min_loop ?_
  rw[yK zW _]
  show wpAny _ A.in1 (seqItems? (.ref S) >>= _) _ _ s
  refine wpAny_bind (wpAny_seqItems hS rfl ?_)
  show wpAny _ A.in1 (tryCatch (pyNext (.ref I)) _ >>= _) _ _ s
  refine wpAny_bind (wpAny_tryCatch (wpAny_pyNext_list_item (A:=A.in1) hit hl (x:=.ref bs[j].1) (by simp[aj]) fun h' bn sb=>?_))
  have bG:yV I s.heap h':=sb
  have aH:h'.get? S=_:=(bG.2 S cN).trans hS
  have bT:h'.IsList l (bs.map fun b=>zZ b.1).toArray:=hl.at fun o e=>(bG.2 l ia).trans e
  have cr:∀ b∈bs,IsTup h' b.1 (tv b.1):=fun b hb=>by
   obtain⟨o,ho,r⟩:=ht b hb
   exact⟨o,(bG.2 b.1 (fc b hb).1).trans ho,r⟩
  cases hb:AV (bs.take j) with
  |none =>
   unfold Dk at aH ⊢
   rw[hb] at aH ⊢
   show wpAny _ A.in1 (updateSeq S (fun _=>#[.ref bs[j].1,.ref bs[j].1]) >>= _) _ _ _
   refine wpAny_bind ?_
   refine wpAny_updateSeq aH rfl ?_
   rw[aB]
   have s1:=Heap.SameBut.update h' S (yF fun _=>(#[.ref bs[j].1,.ref bs[j].1]:Array Value))
   refine wpAny_pure ⟨plainId_quiet zW _,ih (j + 1) _ (c + 1) (by omega) aj (bn.at fun o e=>(s1.2 I (zU cN)).trans e) (bT.at fun o e=>(s1.2 l jd).trans e) (fun b hb=>?_) ?_ fun cu tk aW=>?_⟩
   ·obtain⟨o,ho,r⟩:=cr b hb
    exact⟨o,(s1.2 b.1 (fc b hb).2).trans ho,r⟩
   ·refine (Heap.get?_update_self _ aH rfl).trans ?_
    unfold Dk
    rw[ej,CY,hb]
    rfl
   ·exact hR cu tk fun b o h1 h2 e=>aW b o h1 h2 ((s1.2 b h2).trans ((bG.2 b h1).trans e))
  |some m =>
   have mm:m∈bs:=ym (Kj _ _ hb)
   unfold Dk at aH ⊢
   rw[hb] at aH ⊢
   show wpAny _ A.in1 (tryCatch (holding [.ref bs[j].1,.ref bs[j].1] (richCompare .Lt (.ref bs[j].1) (.ref m.1) >>= _)) _ >>= _) _ _ _
   refine wpAny_bind (wpAny_tryCatch (wpAny_holding (wpAny_bind (HT.Ik (cr _ mj) (cr _ mm) (hk _ mj) (hk _ mm) hu ?_))))
   refine wpAny_bind (wpAny_holding (wpAny_truthy_bool ?_))
   refine wpAny_bind (wpAny_letGo (wpAny_pure ?_))
   cases hc:HT.lexLt bs[j].2 m.2 with
   |true =>
    simp only[if_true]
    have s1:=Heap.SameBut.update h' S (yF fun _=>(#[.ref bs[j].1,.ref bs[j].1]:Array Value))
    refine wpAny_bind ?_
    refine wpAny_updateSeq aH rfl (wpAny_bind (wpAny_letGo ?_))
    rw[aB]
    refine wpAny_pure ⟨plainId_quiet zW _,ih (j + 1) _ c (by omega) aj (bn.at fun o e=>(s1.2 I (zU cN)).trans e) (bT.at fun o e=>(s1.2 l jd).trans e) (fun b hb=>?_) ?_ fun cu tk aW=>?_⟩
    ·obtain⟨o,ho,r⟩:=cr b hb
     exact⟨o,(s1.2 b.1 (fc b hb).2).trans ho,r⟩
    ·refine (Heap.get?_update_self _ aH rfl).trans ?_
     unfold Dk
     rw[ej,CY,hb]
     simp only[hc,if_true]
     rfl
    ·exact hR cu tk fun b o h1 h2 e=>aW b o h1 h2 ((s1.2 b h2).trans ((bG.2 b h1).trans e))
   |false =>
    simp only[zE,if_false]
    refine wpAny_bind (wpAny_letGo ?_)
    rw[aB]
    refine wpAny_pure ⟨plainId_quiet zW _,ih (j + 1) _ c (by omega) aj bn bT cr ?_ fun cu tk aW=>?_⟩
    ·refine aH.trans ?_
     unfold Dk
     rw[ej,CY,hb]
     simp only[hc,zE,if_false]
    ·exact hR cu tk fun b o h1 h2 e=>aW b o h1 h2 ((bG.2 b h1).trans e)
theorem PB {E:Value->Shared->Prop}{s:Shared}{Q:Value->Shared->Prop}(bs:List (Addr×List Int)) (pc:bs≠[]) (tv:Addr->Array Value) (l:Addr) (hh:A.handled=none) (hu:A.in1.units < cLine)
 (hl:s.heap.IsList l (bs.map fun b=>zZ b.1).toArray) (ht:∀ b∈bs,IsTup s.heap b.1 (tv b.1)) (hk:∀ b∈bs,IntsAre (tv b.1).toList b.2)
 (hQ:∀ h' tk,(∀ b o,s.heap.get? b=some o->h'.get? b=some o)->Q (match AV bs with|none=>.none|some b=>.ref b.1) { s with heap:=h',toks:=tk }) :
 wpAny (model prog w) A (call (.builtin "min") [.ref l]) Q E s:=by
 have aB:(toString "min" ++ toString ".loop" : String) = "min.loop" := by decide
 obtain⟨ol,fg,_⟩:=id hl
 have v4:l < s.heap.objs.size:=zu fg
 refine kmk_tree PySem.F.kind_min PySem.F.plain_min PySem.F.entry_min (by unfold argsOk;kernel_rfl) ?_
 show wpAny _ A.in1 (yQ "min" ["key","default"] 0 ⟨[],[]⟩ >>= _) _ _ s
 refine wpAny_bind (wpAny_of_eq (show yQ "min" ["key","default"] 0 ⟨[],[]⟩=pure [none,none] from rfl) ?_)
 refine wpAny_bind (wpAny_pure ?_)
 refine wpAny_bind (wpAny_pyIter_list hl ?_)
 refine wpAny_bind (wpAny_newList ?_ (zP _))
 rw[aB]
 have hS:(s.heap.push { cls:=.type "list_iterator",data:=.fields #[.ref l,.int 0 0] }).objs.size=s.heap.objs.size + 1:=Heap.size_push ..
 have old:∀ b o,s.heap.get? b=some o->b≠s.heap.objs.size/\b≠(s.heap.push { cls:=.type "list_iterator",data:=.fields #[.ref l,.int 0 0] }).objs.size:=fun b o e=>⟨zC (zu e),by rw[hS];exact zC (Nat.lt_succ_of_lt (zu e))⟩
 have grow:∀ b o,s.heap.get? b=some o->((s.heap.push { cls:=.type "list_iterator",data:=.fields #[.ref l,.int 0 0] }).push { cls:=.type "list",data:=.seq #[] }).get? b=some o:=fun b o e=>zp _ (zp _ e)
 refine wpAny_pure ⟨plainId_quiet zW _,?_⟩
 refine VW bs pc tv l s.heap.objs.size (s.heap.push { cls:=.type "list_iterator",data:=.fields #[.ref l,.int 0 0] }).objs.size hh hu (by rw[hS];exact Nat.succ_ne_self _) (old l ol fg).1 (old l ol fg).2 (fun b hb=>?_) hk _ 0 _ 0 rfl (zP _) ?_ ?_ (fun b hb=>?_) ?_ ?_
 ·obtain⟨o,ho,_⟩:=ht b hb
  exact old b.1 o ho
 ·exact⟨_,zp _ (zG _ rfl),rfl,rfl⟩
 ·exact hl.at fun o e=>grow l o e
 ·obtain⟨o,ho,r⟩:=ht b hb
  exact⟨o,grow b.1 o ho,r⟩
 ·exact zG _ rfl
 ·intro h' tk fj
  exact hQ h' tk fun b o e=>fj b o (old b o e).1 (old b o e).2 (grow b o e)
end
section
variable {X:Cx}{WX:Str->Hp->Prop}{c:Bool}{e:Expr}{f:Ab->M D}{pos:Pos}
def gI (K:za):List V->Hp->VK->Prop:=fun xs H Q=>∃(a:Addr) (bs:List (Addr×List Int)) (b:Addr×List Int),xs=[.ref a]/\Dt K H a (bs.map fun b=>V.ref b.1)/\(∀ b∈bs,Fn K H b.1 (b.2.map V.int))/\AV bs=some b/\Q (.ref b.1) H
theorem VX (hc:X.calm=true) (hu:X.A.units + 1 < cLine):Gp X (.builtin "min") (gI X.K):=by
 intro pins s σ H xs us Q I r h
 obtain⟨a,bs,b0,rfl,hl,hb,he,q⟩:=h
 obtain⟨ua,rfl,ra⟩:=r.one
 cases ra
 obtain⟨aa,rv,pl,hz⟩:=I.list hl
 have ei:=Kk rv
 subst ei
 have tv:∀ a:Addr,∃ t:Array Value,∀ b∈bs,b.1=a->IsTup s.heap a t/\IntsAre t.toList b.2:=fun a=>by
  by_cases cv:∃ b∈bs,b.1=a
  ·obtain⟨b,cv,rfl⟩:=cv
   obtain⟨ts,rt,pt,_⟩:=I.tuple (hb b cv)
   refine⟨ts.toArray,fun b' aE e=>⟨pt,?_⟩⟩
   have q2:=hb b' aE
   rw[e] at q2
   have e2:=I.Hf q2 (hb b cv)
   rw[<-e2] at rt
   simpa using intsAre_of rt
  ·exact⟨#[],fun b aE e=>absurd ⟨b,aE,e⟩ cv⟩
 have af:bs≠[]:=fun z=>by subst z;cases he
 refine PB bs af (fun b=>zi (tv b)) a (I.ok.hd hc) hu pl.isList (fun b aE=>(zb (tv b.1) b aE rfl).1) (fun b aE=>(zb (tv b.1) b aE rfl).2) fun h' tk hk=>?_
 rw[he]
 exact⟨.ref b0.1,H,I.kept (t':=tk) hk,rfl,q⟩
def UA (ds:List D):M D:=match ds with
 |[.lst xs]=>(match Gy xs with|some ks=>(match AV ks with|some k=>.ok k.1|none=>.bad)|none=>.bad)
 |_=>.bad
theorem dG:L1 X.K WX (gI X.K) UA:=by
 intro P H ds vs Q ht hl h
 unfold UA at h
 split at h
 ·rename_i xs
  obtain⟨v,rfl,hv⟩:=hl.one
  split at h
  ·rename_i ks e1
   cases hv with
   |lst hs hh =>
    obtain⟨bs,rfl,h2,h3⟩:=Iz hh e1
    split at h
    ·rename_i k e2
     rcases My h3 with ⟨q1,q2⟩|⟨b,k',q1,q2,_,q3⟩
     ·rw[q2] at e2;cases e2
     ·rw[q2] at e2;cases e2
      exact⟨_,bs,b,rfl,hs.Bm,fun b hb=>(h2 b hb).Bm,q1,h _ H (Ad.refl H) q3⟩
    ·exact h.elim
  ·exact h.elim
 ·exact h.elim
theorem dH {p:Pos}{n:Nat}(hc:X.calm=true) (hu:X.A.units + n < cLine) (hg:Gl X "min") (hm:X.mg "min" = none) (ha:DE X WX c e f) (hb:bootBuiltins "min" = some (.builtin "min"):=by decide +kernel) (hs:starEach [e] X.env=[(false,eval e X.env)]:=by rfl) (hn:1<=n:=by decide):DE X WX c (.Call (.Name "min" p) [e] [] pos) (fun ρ=>((f ρ).bind fun d=>(M.ok []).bind fun ds=>.ok (d::ds)).bind UA) :=
 Mw (VX hc (by omega)) dG hg hm hb (A2 ha A8 hs) (he:=hs)
end
section
variable {X:Cx}{E:XK}{WX:Str->Hp->Prop}{c:Bool}{P0:Ew}{P:Addr->Prop}{H:Hp}{σ:St}{ρ:Ab}{a b e:Expr}{f g:Ab->M D}{fn:Ab->M OT}{fp:Ab->M (List Nat)}{pos:Pos}{i:Nat}
def dI:V->List V->Hp->VK->Prop:=fun x vs H Q=>∃(l:Addr) (ns:List Int) (k:Int),x=.ref l/\vs=[.int k]/\H l=some (.lst (ns.map V.int))/\k∈ns/\Q .Az (upd H l (.lst ((ns.erase k).map V.int)))
theorem OH {α β:Type}(f:α->β):∀(l:List α) (k:Nat),(l.eraseIdx k).map f=(l.map f).eraseIdx k
 |[],_=>rfl
 |_::_,0=>rfl
 |x::r,k + 1=>by rw[List.eraseIdx_cons_succ,zf,zf,List.eraseIdx_cons_succ,OH f r k]
def Tc (k:Int):Value->Bool
 | .int i _=>i == k
 |_=>false
theorem VY:jJ X "list.remove" dI:=by
 intro pins s σ H x vs v us Q I rx rv h
 obtain⟨l,ns,k,rfl,rfl,hH,hk,q⟩:=h
 cases rx
 obtain⟨u,rfl,ru⟩:=rv.one
 obtain⟨tk,rfl⟩:=ru
 obtain⟨z,aa,n,r,hl,e⟩:=I.QL hH
 have hlen:=r.length
 have gf:ns.idxOf k < ns.length:=List.idxOf_lt_length_iff.mpr hk
 have gh:∀ m (hm:m < aa.toArray.size) (ut:m < ns.length),∃ t,aa.toArray[m]=Value.int ns[m] t:=fun m hm ut=>by
  have hx:(ns.map V.int)[m]? =some (V.int ns[m]):=by rw[zF,zq ut];rfl
  obtain⟨w,hw,bz⟩:=r.get hx
  obtain⟨t,rfl⟩:=bz
  refine⟨t,?_⟩
  have:aa[m]? =some aa[m]:=zq (by simpa using hm)
  rw[hw] at this
  simpa using (zM this).symm
 have hsz:aa.toArray.size=ns.length:=by rw[zh,<-hlen,zc]
 have hm:=MeetsSeq.list_remove l aa.toArray n (.int k tk) (Tc k) (fun y hy=>by
  obtain⟨m,hm,rfl⟩:=Array.mem_iff_getElem.mp hy
  obtain⟨t,ht⟩:=gh m hm (by rw[<-hsz];exact hm)
  rw[ht]
  exact MeetsSeq.EqGives.int _ _ _ _) (ns.idxOf k) (by rw[hsz];exact gf) (by
  obtain⟨t,ht⟩:=gh (ns.idxOf k) (by rw[hsz];exact gf) gf
  rw[ht]
  simp[Tc]) (fun m hm aj=>by
  obtain⟨t,ht⟩:=gh m hm (by omega)
  rw[ht]
  have:=List.not_of_lt_findIdx (p:=(· == k)) (xs:=ns) (i:=m) aj
  simpa [Tc] using this) (by rw[zh];omega)
 refine call_meets F.slot_list_remove ⟨_,e,rfl⟩ F.entry_list_remove (F.args_list_remove_2 _ _) hm ⟨e,?_⟩
 refine⟨.Az,_,I.Vn (its':=aa.eraseIdx (ns.idxOf k)) hH e ?_ ?_ ?_,rfl,q⟩
 ·show aa.toArray.eraseIdxIfInBounds _=_
  rw[List.eraseIdxIfInBounds_toArray]
 ·rw[show ns.erase k=ns.eraseIdx (ns.idxOf k) from List.erase_eq_eraseIdx_of_idxOf rfl,OH]
  exact r.eraseIdx _
 ·rw[zc]
  have:=List.length_erase_le (a:=k) (l:=ns)
  rw[zc] at z
  omega
theorem VZ (ha:DP X WX a i fp) (he:DE X WX true e f){apos ac:Pos}(hs:starEach [e] X.env=[(false,eval e X.env)]:=by rfl)
 (bj:swapsWith (.Call (.Attribute a "remove" apos) [e] [] ac) none pos.line X.env=pure false:=by rfl)
 (av:attributeBase a "remove" X.env (eval a X.env)=eval a X.env:=by rfl)
 (aV:((backTo ac (starEach [e] X.env)).all (fun x => !x.1) && (backToKw ac (keywordEach [] X.env)).all (fun x=>x.1.isSome) && decide (([e]:List Expr).length + ([]:List Keyword).length + (if ([]:List Keyword).isEmpty then 0 else 1) < 30))=true:=by rfl)
 (aw:(apos.endLine == ac.line)=true:=by rfl) (ar:(backTo ac (starEach [] X.env)).any (·.1)=false:=by rfl) :
 DS X WX (.Expr (.Call (.Attribute a "remove" apos) [e] [] ac) pos) (fun ρ=>(fp ρ).bind fun π=>(Pz i ρ π).bind fun ds=>(f ρ).bind fun d=>match d,CD ds with
  | .int k,some ns=>if k∈ns then GG i ρ π (.lst (((ns.erase k).map D.int).map .sh)) else .bad
  |_,_=>.bad):=by
 obtain⟨ta,a1,a2⟩:=ha
 obtain⟨te,e1,e2⟩:=he
 refine⟨_,Fo (QK y9 PySem.F.slot_list_remove PySem.F.type_list_remove VY a1 (Be e1 Cg hs) av aV aw hs ar) bj,fun P0 P σ H Z ρ E h=>?_⟩
 dsimp only at h
 refine a2 P0 P σ H _ ρ E ?_
 cases q:fp ρ with
 |bad=>rw[q] at h;exact h
 |ex x=>rw[q] at h;exact fun H' s=>h H' P (E.tr s)
 |ok π =>
  rw[q] at h
  simp only[M.A7] at h
  intro v t1 H1 s1 pl
  have E1:=E.same s1
  cases q1:Pz i ρ π with
  |bad=>rw[q1] at h;exact h.elim
  |ex x=>exact (Tb q1).elim
  |ok ds =>
   rw[q1] at h
   simp only[M.A7] at h
   obtain⟨rfl,l,xs,rfl,hl,ol⟩:=pl.shl E1 q1
   refine⟨.inl ⟨rfl,xs,.of hl⟩,e2 P0 P σ H1 _ ρ E1 ?_⟩
   cases q2:f ρ with
   |bad=>rw[q2] at h;exact h
   |ex y=>rw[q2] at h;exact fun H' s=>h H' P ((E.tr s1).trans (E1.tr s))
   |ok d =>
    rw[q2] at h
    simp only[M.A7] at h
    intro w H2 s2 hw
    have E2:=E1.same s2
    have da:=pl.same s2
    cases d with
    |int k =>
     cases q3:CD ds with
     |none=>rw[q3] at h;exact h.elim
     |some ns =>
      rw[q3] at h
      dsimp only at h
      by_cases hk:k∈ns
      ·rw[if_pos hk] at h
       have:=DL q3
       subst this
       have jq:=ol.mono s2.del
       have ex:=E8 jq
       subst ex
       have aZ:=s2 _ _ hl
       obtain⟨c,p,t0,g1,g2,E3,t3⟩:=E2.kP (ys:=(ns.erase k).map V.int) (es:=(ns.erase k).map D.int) da aZ jq (Ag.ints _)
       rw[Hu g1 g2] at h
       exact⟨l,ns,k,rfl,by rw[hw.int_inv],aZ,hk,h _ _ _ (((E.tr s1).trans (E1.tr s2)).trans t3) E3⟩
      ·rw[if_neg hk] at h;exact h.elim
    |_=>exact h.elim
end
end L2
namespace L2
open PySem PySem.Spec PyProof.Rows
section
variable {X:Cx}{WX:Str->Hp->Prop}{c:Bool}{P0:Ew}{P:Addr->Prop}{H:Hp}{σ:St}{ρ:Ab}{a b e:Expr}{f g:Ab->M D}{fn:Ab->M OT}{pos:Pos}{te:TE}
def pB (ds:List D):M D:=match ds with
 |[.lst xs]=>(match CD xs with|some ns=>.ok (.int ns.sum)|none=>.bad)
 |_=>.bad
def sE (te:TE):TE:=fun σ H Q=>te σ H fun x H1=>∃ n:Nat,x=.int (n:Int)/\n<=1000/\∀ r,H1 r=none->Q (.ref r) (upd H1 r (.lst ((yz n).map fun i:Nat=>V.int (i:Int))))
theorem W0 {acc:Array Value}{n:Nat}(h:ItemsOf (fun i v=>∃ t,v=Value.int (0 + (i:Int) * 1) t) acc n):Vals ((yz n).map fun i:Nat=>V.int (i:Int)) acc.toList:=by
 obtain⟨h1,h2⟩:=h
 have key:∀(l:List Value) (k:Nat),(∀ i v,l[i]? =some v->∃ t,v=Value.int ((k + i:Nat):Int) t)->Vals ((List.range' k l.length).map fun i:Nat=>V.int (i:Int)) l:=by
  intro l
  induction l with
  |nil=>intro k _;exact .nil
  |cons v r ih =>
   intro k hk
   rw[zk,List.range'_succ,zf]
   refine .cons (by obtain⟨t,e⟩:=hk 0 v rfl;exact⟨t,by simpa using e⟩) (ih (k + 1) fun i w hw=>?_)
   obtain⟨t,e⟩:=hk (i + 1) w (by simpa using hw)
   exact⟨t,by rw[e];congr 1;omega⟩
 have:=key acc.toList 0 (fun i v hv=>by
  obtain⟨t,e⟩:=h2 i v (by rw[<-Array.getElem?_toList];exact hv)
  exact⟨t,by rw[e];congr 1;omega⟩)
 rw[Array.length_toList,h1] at this
 rw[List.range_eq_range']
 exact this
theorem PD {p p2 bJ:Pos}(hc:X.calm=true) (hg:Gl X "list") (hm:X.mg "list" = none) (jf:Gl X "range") (bX:X.mg "range" = none) (he:PE X e te)
 (hv:bootBuiltins "list" = some (.type "list"):=by decide +kernel)
 (hs:starEach [.Call (.Name "range" p2) [e] [] bJ] X.env=[(false,eval (.Call (.Name "range" p2) [e] [] bJ) X.env)]:=by rfl) (bh:starEach [e] X.env=[(false,eval e X.env)]:=by rfl) :
 PE X (.Call (.Name "list" p) [.Call (.Name "range" p2) [e] [] bJ] [] pos) (sE te):=by
 intro pins s σ H Q I h
 refine wpAny_Call_Name_kw (DU I hg hm hv ?_)
 refine yp ?_ hs
 rw[hs]
 refine yT ?_
 refine wpAny_Call_Name_kw (DU I jf bX boot_range ?_)
 refine yp ?_ bh
 rw[bh]
 refine yT (Bb (he pins s σ H _ I h) fun u s1 ⟨x,H1,I1,r1,q1⟩=>?_)
 obtain⟨n,rfl,hn,q⟩:=q1
 obtain⟨t,rfl⟩:=r1
 refine Calls.spliced_nil ?_
 refine call_range_1 ?_
 refine Calls.spliced_nil ?_
 have h4:((n:Nat):Int) < 2 ^ 62:=by omega
 refine call_list_range (n:=n) (I1.ok.hd hc) (IsRange.new ..) (small_one (by omega) (by omega) (by omega) h4) (by rw[rangeSize_one];split<;>omega) (by omega) fun h' tk pd c' hk aH pe=>?_
 have kp:∀ b o,s1.heap.get? b=some o->h'.get? b=some o:=fun b o e=>hk b o (zp _ e)
 have rv:=W0 pe
 have js:∀ o:Obj,s1.heap.objs.size<=(s1.heap.push o).objs.size:=fun o=>by simp[Heap.push]
 refine⟨.ref _,_,I1.laid (t':=tk) (o:=.lst ((yz n).map fun i:Nat=>V.int (i:Int))) kp (js _) ⟨?_,pd.toList,c',rv,by simpa using aH⟩,rfl,q _ (I1.Au.fresh (js _))⟩
 rw[zc,List.length_range]
 exact yj (AF hn)
noncomputable def qB (d:D):M OT:=match d with
 | .int j=>@ite _ (0<=j/\j<=1000) (Classical.propDecidable _) (.ok (.lst ((Cj 0 j.toNat).map .sh))) .bad
 |_=>.bad
theorem PF {n:Nat}(h:n<=1000):qB (.int (n:Int))=.ok (.lst (((yz n).map fun i:Nat=>D.int (i:Int)).map .sh)):=by
 unfold qB
 dsimp only
 rw[if_pos ⟨by omega,by omega⟩,zX,Mz]
theorem Jr {p p2 bJ:Pos}(hc:X.calm=true) (hg:Gl X "list") (hm:X.mg "list" = none) (jf:Gl X "range") (bX:X.mg "range" = none) (he:DE X WX true e f)
 (hv:bootBuiltins "list" = some (.type "list"):=by decide +kernel)
 (hs:starEach [.Call (.Name "range" p2) [e] [] bJ] X.env=[(false,eval (.Call (.Name "range" p2) [e] [] bJ) X.env)]:=by rfl) (bh:starEach [e] X.env=[(false,eval e X.env)]:=by rfl) :
 DN X WX (.Call (.Name "list" p) [.Call (.Name "range" p2) [e] [] bJ] [] pos) (fun ρ=>(f ρ).bind qB):=by
 obtain⟨te,e1,e2⟩:=he
 refine⟨_,PD hc hg hm jf bX e1 hv hs bh,fun P0 P σ H Q ρ E h=>?_⟩
 refine e2 P0 P σ H _ ρ E ?_
 dsimp only at h
 cases q:f ρ with
 |bad=>rw[q] at h;exact h
 |ex x=>rw[q] at h;exact h
 |ok d =>
  rw[q] at h
  simp only[M.A7] at h
  intro v H1 s1 hv
  cases d with
  |int j =>
   by_cases hj:0<=j/\j<=1000
   ·obtain⟨n,rfl⟩:∃ n:Nat,j=n:=⟨j.toNat,by omega⟩
    rw[PF (by omega)] at h
    refine⟨n,hv.int_inv,by omega,fun r hr=>h.Kx s1 (xs:=(yz n).map fun i:Nat=>V.int (i:Int)) ?_ r hr⟩
    have:∀ l:List Nat,Ag X.K (del H1 P) (l.map fun i:Nat=>V.int (i:Int)) (l.map fun i:Nat=>D.int (i:Int)):=fun l=>by
     induction l with
     |nil=>exact .nil
     |cons x r ih=>exact .cons (.int _) ih
    exact this _
   ·have e:qB (.int j)=.bad:=if_neg hj
    rw[e] at h;exact h.elim
  |_=>exact h.elim
def dJ (lo hi:Option Int) (d:D):M OT:=match d with
 | .lst ds=>.ok (.lst (((ds.drop (HT.Mh ds.length 0 lo)).take (HT.Mh ds.length ds.length hi - HT.Mh ds.length 0 lo)).map .sh))
 |_=>.bad
theorem MV {lo hi:Option Expr}{pf fh:Ab->M (Option Int)}{p2:Pos}(ha:DE X WX true e f) (hl:DO X WX true lo pf) (hh:DO X WX true hi fh):DN X WX (.Subscript e (.Slice lo hi none p2) pos) (fun ρ=>(f ρ).bind fun d=>(pf ρ).bind fun l=>(fh ρ).bind fun u=>dJ l u d):=by
 obtain⟨ta,a1,a2⟩:=ha
 obtain⟨tl,l1,l2⟩:=hl
 obtain⟨th,h1,h2⟩:=hh
 refine⟨_,X1 Zn a1 l1 h1,fun P0 P σ H Q ρ E h=>?_⟩
 dsimp only at h
 refine a2 P0 P σ H _ ρ E ?_
 cases q:f ρ with
 |bad=>rw[q] at h;exact h
 |ex x=>rw[q] at h;exact h
 |ok d =>
  rw[q] at h
  intro v H1 s1 hv
  refine l2 P0 P σ H1 _ ρ (E.same s1) ?_
  cases q2:pf ρ with
  |bad=>rw[q2] at h;exact h
  |ex y=>rw[q2] at h;exact fun H' s=>h H' (s1.trans s)
  |ok l =>
   rw[q2] at h
   intro H2 s2
   refine h2 P0 P σ H2 _ ρ ((E.same s1).same s2) ?_
   cases q3:fh ρ with
   |bad=>rw[q3] at h;exact h
   |ex y=>rw[q3] at h;exact fun H' s=>h H' ((s1.trans s2).trans s)
   |ok u =>
    rw[q3] at h
    simp only[M.A7] at h
    intro H3 s3
    unfold dJ at h
    split at h
    ·cases hv with
     |lst hs hl =>
      refine⟨_,_,rfl,(s3.seq (s2.seq hs.Bm)),fun p hp=>h.Kx ((s1.trans s2).trans s3) ?_ p hp⟩
      unfold X2
      rw[hl.length]
      exact ((((hl.drop _).take _).mono s2.del).mono s3.del)
    ·exact h.elim
theorem Y4:uI X.K WX (gB X.K) Rf:=by
 intro P H x y v w Q ht hx hy h
 unfold Rf at h
 split at h
 ·rename_i ds es
  by_cases hl:ds.length + es.length<=1000
  ·rw[if_pos hl] at h
   cases hx with
   |lst h1 h2 =>
    cases hy with
    |lst h3 h4=>exact⟨_,_,_,_,rfl,rfl,h1.Bm,h3.Bm,yj (AF (by rw[h2.length,h4.length];exact hl)),h.Kx (Ad.refl _) (h2.uH h4)⟩
  ·rw[if_neg hl] at h;exact h.elim
 ·exact h.elim
theorem dM (ha:DE X WX true a f) (hb:DE X WX true b g):DN X WX (.BinOp a .Add b pos) (fun ρ=>(f ρ).bind fun x=>(g ρ).bind fun y=>Rf x y):=by
 obtain⟨ta,a1,a2⟩:=ha
 obtain⟨tb,b1,b2⟩:=hb
 exact⟨_,WN ZO a1 b1,fun P0 P σ H Q ρ E h=>oV a2 b2 Y4 E h⟩
def GK (μ:List (Option Nat)) (g:TG):Prop:=∀ σ0 σ x H Q,(∀(j:Nat) v,(ES μ σ0)[j]? =some (some v)->σ[j]? =some (some v))->g x σ H Q->g x σ H fun σ' H'=>Q σ' H'/\∀(j:Nat) v,(ES μ σ0)[j]? =some (some v)->σ'[j]? =some (some v)
def pC (μ:List (Option Nat)) (g:Wv):Prop:=∀ σ0 σ x H Q,(∀(j:Nat) v,(ES μ σ0)[j]? =some (some v)->σ[j]? =some (some v))->g x σ H Q->g x σ H fun σ' H'=>Q σ' H'/\∀(j:Nat) v,(ES μ σ0)[j]? =some (some v)->σ'[j]? =some (some v)
theorem GK.keeps {μ:List (Option Nat)}{g:TG}(h:GK μ g):Ki μ g:=fun σ x H Q q=>h σ (ES μ σ) x H Q (fun _ _ z=>z) q
theorem dN {μ:List (Option Nat)}{i:Nat}(h:μ[i]? =some none):GK μ (O9 i):=fun σ0 σ x H Q hk q=>by
 refine⟨q,fun j v hj=>?_⟩
 have af:i≠j:=fun z=>by
  subst z
  unfold ES at hj
  rw[zF,h] at hj
  cases hj
 rw[yn af]
 exact hk j v hj
theorem dO {μ:List (Option Nat)}:pC μ iL:=fun σ0 σ x H Q hk q=>⟨q.1,q.2,hk⟩
theorem Y5 {μ:List (Option Nat)}{t:TG}{u:Wv}(mono:∀ v σ H Q Q',(∀ σ' H',Q σ' H'->Q' σ' H')->t v σ H Q->t v σ H Q') (ht:GK μ t) (hu:pC μ u):pC μ (WE t u):=fun σ0 σ x H Q hk q=>by
 obtain⟨v,r,rfl,q⟩:=q
 exact⟨v,r,rfl,mono _ _ _ _ _ (fun σ' H' z=>hu σ0 σ' r H' Q z.2 z.1) (ht σ0 σ v H _ hk q)⟩
theorem kS {K:za}{μ:List (Option Nat)}{n:Nat}{t:Wv}(h:pC μ t):GK μ (iM K n t):=fun σ0 σ x H Q hk q=>by
 obtain⟨a,xs,rfl,h1,h2,q⟩:=q
 exact⟨a,xs,rfl,h1,h2,h σ0 σ xs H Q hk q⟩
variable {cO:List D->Ab->M Ab}{gt:D->Ab->M Ab}{es:List Expr}
def dP (X:Cx) (scope:Scope) (NB:List Str) (μ:List (Option Nat)) (es:List Expr) (gt:List D->Ab->M Ab):Prop :=
 ∃ g:Wv,(∀ s H C ex,mC (blockOf X s H scope C NB ex) es g)/\pC μ g/\∀ P0 P σ H Q ρ vs ds,An X.K P0 P H σ ρ->Ag X.K (del H P) vs ds->gG X.K P0 P H Q (gt ds ρ)->g vs σ H Q
theorem Rl {scope:Scope}{NB:List Str}{μ:List (Option Nat)}:dP X scope NB μ [] (fun ds ρ=>match ds with | []=>.ok ρ | _=>.bad) :=
 ⟨iL,fun s H C ex=>TY,dO,fun P0 P σ H Q ρ vs ds E hv h=>by
  cases hv with
  |nil=>exact⟨rfl,h σ E⟩
  |cons _ _=>exact h.elim⟩
theorem Hv {scope:Scope}{NB:List Str}{μ:List (Option Nat)}(i:Nat){x:Str}{px:Pos}(hN:NB.Nodup) (hi:NB[i]? =some x) (hx:(relabel scope X.env).names.lookup x=some .local) (hm:μ[i]? =some none) (hr:dP X scope NB μ es cO)
 (hs:∀ s H C ex,(assignEach (.Name x px::es) (blockOf X s H scope C NB ex).env).map (·.2)=assign (.Name x px) (blockOf X s H scope C NB ex).env::(assignEach es (blockOf X s H scope C NB ex).env).map (·.2):=by intro _ _ _ _;rfl) :
 dP X scope NB μ (.Name x px::es) (fun ds ρ=>match ds with|d::r=>cO r (ρ.set i (some (.val d)))|[]=>.bad):=by
 obtain⟨gr,r1,r2,r3⟩:=hr
 refine⟨WE (O9 i) gr,fun s H C ex=>QF (Pc (X:=blockOf X s H scope C NB ex) hN hi (.inl hx) (.inr hx)) (r1 s H C ex) (hs s H C ex),Y5 (fun v σ H Q Q' hq h=>hq _ _ h) (dN hm) r2,fun P0 P σ H Q ρ vs ds E hv h=>?_⟩
 cases hv with
 |nil=>exact h.elim
 |cons h1 h2=>exact⟨_,_,rfl,r3 P0 P _ H Q _ _ _ (E.Vy h1) h2 h⟩
theorem UB {scope:Scope}{NB:List Str}{μ:List (Option Nat)}{k n:Nat}{pt:Pos}(hc:X.calm=true) (h:dP X scope NB μ es cO)
 (hn:∀ s H C ex,(assignEach es (blockOf X s H scope C NB ex).env).length=n:=by intro _ _ _ _;rfl) (aY:∀ s H C ex,(assignEach es (blockOf X s H scope C NB ex).env).findIdx? (·.1)=none:=by intro _ _ _ _;rfl) :
 oN X scope NB μ (.Tuple es k pt) (fun d ρ=>match d with | .tup ds=>if ds.length=n then cO ds ρ else .bad|_=>.bad):=by
 obtain⟨t,a1,a2,a3⟩:=h
 refine⟨iM X.K n t,fun s H C ex=>WG (X:=blockOf X s H scope C NB ex) hc (a1 s H C ex) (hn s H C ex) (aY s H C ex),(kS a2).keeps,fun P0 P σ H Q ρ v d E hv h=>?_⟩
 cases hv with
 | @tup a xs ds hs hl =>
  dsimp only at h
  by_cases hd:ds.length=n
  ·rw[if_pos hd] at h
   exact⟨a,xs,rfl,Fn.of (Al hs).2,by rw[hl.length];exact hd,a3 P0 P σ H Q ρ xs ds E hl h⟩
  ·rw[if_neg hd] at h;exact h.elim
 |_=>exact h.elim
end
end L2
namespace L2
open PySem PySem.Spec PyProof.Rows
def WP (m:M Out) (nx:Ab->Prop) (rt:Out->Prop) (ex:Str->Prop):Prop:=match m with
 | .ok (.next ρ)=>nx ρ
 | .ok o=>rt o
 | .ex x=>ex x
 | .bad=>False
section
variable {nx:Ab->Prop}{rt:Out->Prop}{ex:Str->Prop}{m:M Out}{k:Ab->M Out}{ρ ρ':Ab}
theorem Bh (h:m=.ok (.next ρ')) (hn:nx ρ'):WP m nx rt ex:=by rw[h];exact hn
theorem WP.mono {uu:Ab->Prop}{uv:Out->Prop}{l9:Str->Prop}(h:WP m nx rt ex) (h1:∀ ρ,nx ρ->uu ρ) (h2:∀ o,rt o->uv o) (h3:∀ x,ex x->l9 x):WP m uu uv l9:=by
 cases m with
 |bad=>exact h
 |ex x=>exact h3 x h
 |ok o =>
  cases o with
  |next ρ=>exact h1 ρ h
  |ret d=>exact h2 _ h
  |brk d=>exact h2 _ h
  |cont d=>exact h2 _ h
  |CI d=>exact h2 _ h
  |F8 d ρ=>exact h2 _ h
theorem wp_seq (h:WP m (fun ρ=>WP (k ρ) nx rt ex) rt ex):WP (ZI m k) nx rt ex:=by
 cases m with
 |bad=>exact h
 |ex x=>exact h
 |ok o =>
  cases o with
  |next ρ=>exact h
  |ret d=>exact h
  |brk d=>exact h
  |cont d=>exact h
  |CI d=>exact h
  |F8 d ρ=>exact h
theorem wp_step (h:m=.ok (.next ρ')) (hk:WP (k ρ') nx rt ex):WP (ZI m k) nx rt ex:=by rw[h];exact hk
theorem C4 {I:Ab->Prop}(h:WP m I rt ex) (hk:∀ ρ,I ρ->WP (k ρ) nx rt ex):WP (ZI m k) nx rt ex:=wp_seq (h.mono hk (fun _ h=>h) fun _ h=>h)
def inLoop (I:Ab->Prop) (nx:Ab->Prop) (rt:Out->Prop) (o:Out):Prop:=match o with
 | .cont ρ=>I ρ
 | .brk ρ=>nx ρ
 |o=>rt o
theorem BD {gt:D->Ab->M Ab}{gb:Ab->M Out}{ds:List D}(I:Nat->Ab->Prop) (h0:I 0 ρ)
 (step:∀ i d ρ,ds[i]? =some d->I i ρ->∃ ρ1,gt d ρ=.ok ρ1/\WP (gb ρ1) (I (i + 1)) (inLoop (I (i + 1)) nx rt) ex) (done:∀ ρ,I ds.length ρ->nx ρ):WP (forM gt gb ds ρ) nx rt ex:=by
 have key:∀(n i:Nat) (ρ:Ab),i + n=ds.length->I i ρ->WP (forM gt gb (ds.drop i) ρ) nx rt ex:=by
  intro n
  induction n with
  |zero =>
   intro i ρ hi h
   have e:i=ds.length:=by omega
   subst e
   rw[List.drop_length,forM]
   exact done ρ h
  |succ n ih =>
   intro i ρ hi h
   have aj:i < ds.length:=by omega
   obtain⟨ρ1,h1,h2⟩:=step i ds[i] ρ (zq aj) h
   rw[J8 aj,forM,h1]
   dsimp only
   cases q:gb ρ1 with
   |bad=>rw[q] at h2;exact h2
   |ex x=>rw[q] at h2;exact h2
   |ok o =>
    rw[q] at h2
    cases o with
    |next ρ2=>exact ih (i + 1) ρ2 (by omega) h2
    |ret d=>exact h2
    |CI d=>exact h2
    |F8 d ρ2=>exact h2
    |cont ρ2=>exact ih (i + 1) ρ2 (by omega) h2
    |brk ρ2=>exact h2
 have:=key ds.length 0 ρ (by omega) h0
 rw[List.drop_zero] at this
 exact this
theorem Rm {α:Type}{c:Ab->M Bool}{b:Ab->M Out}{lt:α->α->Prop}(J:α->Ab->Prop){x:α}(hx:Acc lt x) (h0:J x ρ)
 (step:∀ x ρ,J x ρ->(c ρ=.ok false/\nx ρ)\/(c ρ=.ok true/\WP (b ρ) (fun ρ2=>∃ y,lt y x/\J y ρ2) (inLoop (fun ρ2=>∃ y,lt y x/\J y ρ2) nx rt) ex)):WP (L4 c b ρ) nx rt ex:=by
 have key:∀ x,Acc lt x->∀ ρ,J x ρ->∃ n,Ax c b n ρ≠.bad/\WP (Ax c b n ρ) nx rt ex:=by
  intro x hx
  induction hx with
  |intro x _ ih =>
   intro ρ h
   rcases step x ρ h with ⟨h1,h2⟩|⟨h1,h2⟩
   ·refine⟨1,?_,?_⟩
    ·rw[Ax,h1];intro z;cases z
    ·rw[Ax,h1];exact h2
   ·cases q:b ρ with
    |bad=>rw[q] at h2;exact h2.elim
    |ex y =>
     rw[q] at h2
     refine⟨1,?_,?_⟩
     ·rw[Ax,h1];dsimp only;rw[q];intro z;cases z
     ·rw[Ax,h1];dsimp only;rw[q];exact h2
    |ok o =>
     rw[q] at h2
     have go:∀ ρ2,(∃ y,lt y x/\J y ρ2)->(∀ n,Ax c b (n + 1) ρ=Ax c b n ρ2)->∃ n,Ax c b n ρ≠.bad/\WP (Ax c b n ρ) nx rt ex:=by
      rintro ρ2 ⟨y,hy,hJ⟩ e
      obtain⟨n,h3,h4⟩:=ih y hy ρ2 hJ
      exact⟨n + 1,by rw[e];exact h3,by rw[e];exact h4⟩
     cases o with
     |next ρ2=>exact go ρ2 h2 fun n=>by rw[Ax,h1];dsimp only;rw[q]
     |cont ρ2=>exact go ρ2 h2 fun n=>by rw[Ax,h1];dsimp only;rw[q]
     |brk ρ2 =>
      refine⟨1,?_,?_⟩
      ·rw[Ax,h1];dsimp only;rw[q];intro z;cases z
      ·rw[Ax,h1];dsimp only;rw[q];exact h2
     |ret d =>
      refine⟨1,?_,?_⟩
      ·rw[Ax,h1];dsimp only;rw[q];intro z;cases z
      ·rw[Ax,h1];dsimp only;rw[q];exact h2
     |CI d =>
      refine⟨1,?_,?_⟩
      ·rw[Ax,h1];dsimp only;rw[q];intro z;cases z
      ·rw[Ax,h1];dsimp only;rw[q];exact h2
     |F8 d ρ2 =>
      refine⟨1,?_,?_⟩
      ·rw[Ax,h1];dsimp only;rw[q];intro z;cases z
      ·rw[Ax,h1];dsimp only;rw[q];exact h2
 obtain⟨n,h1,h2⟩:=key x hx ρ h0
 unfold L4
 have hx:∃ n,Ax c b n ρ≠.bad:=⟨n,h1⟩
 rw[dif_pos hx]
 have e:Ax c b (zi hx) ρ=Ax c b n ρ:=by
  have a:=CF (zb hx) n
  have b':=CF h1 (zi hx)
  rw[Nat.add_comm] at b'
  rw[<-a,<-b']
 rw[e]
 exact h2
def uJ (Q:OT->Prop) (o:Out):Prop:=match o with
 | .ret d=>Q (.sh d)
 | .CI c=>∃ t,oW c=.ok t/\Q t
 |_=>False
theorem L6 {Q:OT->Prop}(h:WP m (fun _=>Q (.sh .Az)) (uJ Q) (fun _=>False)):∃ t,XR m=.ok t/\Q t:=by
 cases m with
 |bad=>exact h.elim
 |ex x=>exact h.elim
 |ok o =>
  cases o with
  |next ρ=>exact⟨_,rfl,h⟩
  |ret d=>exact⟨_,rfl,h⟩
  |CI c=>exact h
  |F8 c ρ=>exact h.elim
  |brk ρ=>exact h.elim
  |cont ρ=>exact h.elim
theorem Bo {t:OT}(h:WP m (fun _=>OT.sh .Az=t) (uJ (·=t)) (fun _=>False)):XR m=.ok t:=by
 obtain⟨u,h1,h2⟩:=L6 (Q:=(·=t)) h
 rw[h1,h2]
def uK (Q:D->Prop) (o:Out):Prop:=match o with
 | .ret d=>Q d
 | .CI c=>∃ t,rY c=.ok t/\Q t
 |_=>False
theorem pE {Q:D->Prop}(h:WP m (fun _=>Q .Az) (uK Q) (fun _=>False)):∃ t,fin m=.ok t/\Q t:=by
 cases m with
 |bad=>exact h.elim
 |ex x=>exact h.elim
 |ok o =>
  cases o with
  |next ρ=>exact⟨_,rfl,h⟩
  |ret d=>exact⟨_,rfl,h⟩
  |CI c=>exact h
  |F8 c ρ=>exact h.elim
  |brk ρ=>exact h.elim
  |cont ρ=>exact h.elim
theorem pF {d:D}(h:WP m (fun _=>D.Az=d) (uK (·=d)) (fun _=>False)):fin m=.ok d:=by
 obtain⟨u,h1,h2⟩:=pE (Q:=(·=d)) h
 rw[h1,h2]
end
end L2
namespace L2
open PySem PySem.Spec PyProof.Rows
section
variable {d:D}{ds es:List D}{ρ ρ':Ab}{o:Option Cl}{i n:Nat}{p:Option Nat}{t u:OT}{π:List Nat}{b:Bool}{ks vs:List D}{ts:List OT}{m:M D}
theorem qC:rv 0 (some (.val d)::ρ)=.ok d:=rfl
theorem qD:rv (i + 1) (o::ρ)=rv i ρ:=rfl
def Rn (f:Ab->Ab) (m:M Out):M Out:=match m with
 | .ok (.next ρ)=>.ok (.next (f ρ))
 |m=>m
theorem Js {f:Ab->Ab}:Rn f (.ok (.next ρ))=.ok (.next (f ρ)):=rfl
theorem Jt:Rh 0 (some (.own ds)::ρ)=.ok []:=rfl
theorem Ju:Rh 0 (some (.ow (.Lz n ds))::ρ)=.ok []:=rfl
theorem Hw:Rh 0 (some (.ow (.tree p t))::ρ)=.ok []:=by unfold Rh Uy;simp[treeOf]
theorem UC:Rh (i + 1) (o::ρ)=Rh i ρ:=rfl
theorem UE:Uy 0 (some (.own ds)::ρ) π=Ku (.lst (ds.map .sh)) π:=rfl
theorem UG:Uy 0 (some (.ow (.Lz n ds))::ρ) π=Ku (.lst (ds.map .sh)) π:=rfl
theorem MW:Uy 0 (some (.ow (.tree p t))::ρ) π=Ku t π:=rfl
theorem LM:Pz 0 (some (.own ds)::ρ) []=.ok ds:=by unfold Pz;simp[UE,CH]
theorem LN:Pz 0 (some (.ow (.Lz n ds))::ρ) []=.ok ds:=by unfold Pz;simp[UG,CH]
theorem Jv:Pz 0 (some (.ow (.tree p (.lst (ds.map .sh))))::ρ) []=.ok ds:=by unfold Pz;simp[MW,CH]
theorem dQ:Pz (i + 1) (o::ρ) π=Pz i ρ π:=rfl
theorem Hx:L5 0 (some (.own ds)::ρ) []=.ok (ds.map .sh):=by unfold L5;simp[UE]
theorem Hy:L5 0 (some (.ow (.Lz n ds))::ρ) []=.ok (ds.map .sh):=by unfold L5;simp[UG]
theorem Fy:L5 0 (some (.ow (.tree p (.lst ts)))::ρ) []=.ok ts:=by unfold L5;simp[MW]
theorem PH:L5 (i + 1) (o::ρ) π=L5 i ρ π:=rfl
theorem D5:G5 0 (some (.ow (.tree p (.Bg b ks (vs.map .sh))))::ρ) []=.ok (b,ks,vs):=by unfold G5;simp[MW,CH]
theorem PJ:G5 (i + 1) (o::ρ) π=G5 i ρ π:=rfl
theorem Jw:GG 0 (some (.own ds)::ρ) [] u=.ok (.next (some (toCl none u)::ρ)):=by unfold GG;simp[treeOf]
theorem Jx:GG 0 (some (.ow (.Lz n ds))::ρ) [] u=.ok (.next (some (toCl (some n) u)::ρ)):=by unfold GG;simp[treeOf]
theorem Hz:GG 0 (some (.ow (.tree p t))::ρ) π u=.ok (.next (some (toCl p (EV t π u))::ρ)):=by unfold GG;simp[treeOf]
theorem UH:GG (i + 1) (o::ρ) π u=Rn (o::·) (GG i ρ π u):=by
 unfold GG Rn
 simp only[zT,zl]
 split
 ·rename_i c e
  split<;>simp_all
 ·simp_all
theorem Jy:VA 0 (some (.own ds)::ρ) (.ok d)=if ds.length < 1000 then .ok (.next (some (.own (ds++[d]))::ρ)) else .bad:=rfl
theorem UI:VA (i + 1) (o::ρ) m=Rn (o::·) (VA i ρ m):=by
 unfold VA
 rw[zT]
 cases q:ρ[i]? with
 |none=>rfl
 |some oo =>
  cases oo with
  |none=>rfl
  |some c =>
   cases c with
   |own ds =>
    cases m with
    |ok d =>
     simp only[M.A7,zl]
     by_cases h:ds.length < 1000
     ·rw[if_pos h,if_pos h];rfl
     ·rw[if_neg h,if_neg h];rfl
    |ex x=>rfl
    |bad=>rfl
   |val d=>rfl
   |ow w=>rfl
theorem Jz {j:Int}:VQ 0 (some (.own ds)::ρ) (.ok (.int j)) (.ok d)=if 0<=j/\j.toNat<=ds.length/\ds.length < 1000 then .ok (.next (some (.own (ds.take j.toNat++d::ds.drop j.toNat))::ρ)) else .bad:=rfl
theorem UJ {m2:M D}:VQ (i + 1) (o::ρ) m m2=Rn (o::·) (VQ i ρ m m2):=by
 unfold VQ
 rw[zT]
 cases q:ρ[i]? with
 |none=>rfl
 |some oo =>
  cases oo with
  |none=>rfl
  |some c =>
   cases c with
   |own ds =>
    cases m with
    |ok d =>
     cases m2 with
     |ok d2 =>
      simp only[M.A7,zl]
      cases d with
      |int j =>
       dsimp only
       by_cases h:0<=j/\j.toNat<=ds.length/\ds.length < 1000
       ·rw[if_pos h,if_pos h];rfl
       ·rw[if_neg h,if_neg h];rfl
      |_=>rfl
     |ex x=>rfl
     |bad=>rfl
    |ex x=>rfl
    |bad=>rfl
   |val d=>rfl
   |ow w=>rfl
theorem JA:SX 0 (some (.val d)::ρ)=.ok (.ret d):=rfl
theorem JB:SX 0 (some (.own ds)::ρ)=.ok (.CI (.own ds)):=rfl
theorem LO {w:Ow}:SX 0 (some (.ow w)::ρ)=.ok (.CI (.ow w)):=rfl
theorem UK:SX (i + 1) (o::ρ)=SX i ρ:=rfl
theorem uL:sA i ρ π=match Uy i ρ π with | some (.sh d)=>.ok d | _=>.bad:=rfl
theorem dR:XT (i + 1) (o::ρ)=o::XT i ρ:=by
 unfold XT
 simp only[zT,zl]
 split<;>simp_all
theorem dS {c:Cl}:XT 0 (some c::ρ)=some (Lp c)::ρ:=rfl
theorem JC:Lp (.val d)=.val d:=rfl
theorem JD:Lp (.own ds)=.val (.lst ds):=rfl
theorem JE:Lp (.ow (.Lz n ds))=.val (.lst ds):=rfl
theorem LP:Lp (.ow (.tree p t))=.val (er t):=rfl
theorem IG:er (.Bg b ks (vs.map .sh))=.Bg b ks vs:=by rw[er,Px]
theorem Ky:er (.lst (ds.map .sh))=.lst ds:=by rw[er,Px]
theorem Ro:er (.sh d)=d:=rfl
theorem qE {l:List (Option Nat)}:Bx (none::l) ρ=none::Bx l ρ:=rfl
theorem qG:Bx [] ρ=[]:=rfl
theorem dU {l:List (Option Nat)}:Bx (some i::l) ρ=(match ρ[i]? with | some (some (.val d))=>some (.val d) | _=>none)::Bx l ρ:=rfl
theorem dW {α:Type}{x y:α}:(if ([]:List D).length<=1000 then x else y)=x:=if_pos (by show 0<=1000;decide)
theorem dX {α:Type}{x y:α}{a:D}:(if [a].length<=1000 then x else y)=x:=if_pos (by show 1<=1000;decide)
theorem dY {α:Type}{x y:α}{a b:D}:(if [a,b].length<=1000 then x else y)=x:=if_pos (by show 2<=1000;decide)
theorem dZ {α:Type}{x y:α}{a b c:D}:(if [a,b,c].length<=1000 then x else y)=x:=if_pos (by show 3<=1000;decide)
theorem eA {α:Type}{x y:α}{a b c d:D}:(if [a,b,c,d].length<=1000 then x else y)=x:=if_pos (by show 4<=1000;decide)
theorem toCl_nil:toCl none (.lst [])=.own []:=rfl
theorem D6 {α:Type}{gt:D->Ab->M Ab}{ft:Ab->M Bool}{fe:Ab->M D}{g:α->D}(p:α->Bool) (f:α->D):∀ {l:List α},(∀ x∈l,∃ ρ1,gt (g x) ρ=.ok ρ1/\ft ρ1=.ok (p x)/\(p x=true->fe ρ1=.ok (f x)))->B6 gt ft fe (l.map g) ρ=.ok ((l.filter p).map f)
 |[],_=>rfl
 |x::r,h=>by
  obtain⟨ρ1,h1,h2,h3⟩:=h x zd
  have ih:=D6 (gt:=gt) (ft:=ft) (fe:=fe) (g:=g) p f (l:=r) fun y hy=>h y (ze _ hy)
  rw[zf,B6,h1]
  dsimp only
  rw[h2]
  dsimp only
  rw[List.filter_cons]
  cases hp:p x with
  |true =>
   rw[if_pos rfl,h3 hp]
   dsimp only
   rw[ih]
   simp
  |false=>simp[ih]
theorem C5 {α:Type}{gt:D->Ab->M Ab}{ft:Ab->M Bool}{fe:Ab->M D}{g:α->D}(f:α->D){l:List α}(h:∀ x∈l,∃ ρ1,gt (g x) ρ=.ok ρ1/\ft ρ1=.ok true/\fe ρ1=.ok (f x)):B6 gt ft fe (l.map g) ρ=.ok (l.map f):=by
 have:=D6 (gt:=gt) (ft:=ft) (fe:=fe) (ρ:=ρ) (g:=g) (fun _=>true) f (l:=l) fun x hx=>by
  obtain⟨ρ1,h1,h2,h3⟩:=h x hx
  exact⟨ρ1,h1,h2,fun _=>h3⟩
 rw[this,List.filter_eq_self.mpr (fun _ _=>rfl)]
theorem BP {α:Type}{g:α->D}{l:List α}{i:Nat}{d:D}(h:(l.map g)[i]? =some d):∃ x,l[i]? =some x/\d=g x:=by
 rw[zF] at h
 cases q:l[i]? with
 |none=>rw[q] at h;cases h
 |some x=>rw[q] at h;cases h;exact⟨x,rfl,rfl⟩
theorem PL:dE (.lst (ds.map .sh))=.ok ds:=by unfold dE;simp[CH,Ta]
theorem HA {α:Type}{x:α}:Ta (some x)=.ok x:=rfl
theorem LQ:Rg i ρ (.sh d)=.ok (.next (ρ.set i (some (.val d)))):=rfl
theorem JF:Rg i ρ (.lst ts)=.ok (.next (ρ.set i (some (toCl none (.lst ts))))):=rfl
theorem JG:Rg i ρ (.tup ts)=.ok (.next (ρ.set i (some (.ow (.tree none (.tup ts)))))):=rfl
theorem JH:Rg i ρ (.Bg b ks ts)=.ok (.next (ρ.set i (some (.ow (.tree none (.Bg b ks ts)))))):=rfl
theorem JI {x:Str}{ns:List Str}:Rg i ρ (.ins x ns ts)=.ok (.next (ρ.set i (some (.ow (.tree none (.ins x ns ts)))))):=rfl
theorem LR:XS (.sh d)=.ok (.ret d):=rfl
theorem JJ:XS (.lst ts)=.ok (.CI (.ow (.tree none (.lst ts)))):=rfl
theorem JK:XS (.tup ts)=.ok (.CI (.ow (.tree none (.tup ts)))):=rfl
theorem JL:XS (.Bg b ks ts)=.ok (.CI (.ow (.tree none (.Bg b ks ts)))):=rfl
theorem Rp {α:Type}{f:α->D}(h:∀ x,Jb (f x)=true):∀ l:List α,Jc (l.map f)=true
 |[]=>by simp[Jc]
 |x::r=>by rw[zf,Jc,h x,Rp h r];rfl
theorem Rq:∀ ds:List D,G4 (ds.map .sh)=Jc ds
 |[]=>by simp[Jc,G4]
 |d::r=>by rw[zf,G4,GD,Rq r,Jc]
theorem kT (h:Jb d=true):Sg (.ok (.sh d))=.ok (.sh d):=by unfold Sg;simp[GD,h]
theorem eB (h:Jc ds=true):Sg (.ok (.lst (ds.map .sh)))=.ok (.lst (ds.map .sh)):=by unfold Sg;simp[GD,Rq,h]
theorem eC {i:Int}:Jb (.int i)=true:=by simp[Jb]
theorem Y6:EW (.lst ds)=.ok (!ds.isEmpty):=rfl
theorem kU {a s m:Int}(h0:0<=a) (h1:a < m) (s0:1<=s) (s1:s < m):(a + s) % m≠a:=by
 by_cases h:a + s < m
 ·rw[Int.emod_eq_of_lt (by omega) h];omega
 ·have e:(a + s) % m=(a + s - m) % m:=by rw[Int.sub_emod_right]
  rw[e,Int.emod_eq_of_lt (by omega) (by omega)];omega
theorem LS {k:Nat}(i j:Int):ZF k (.int i) (.int j)=.ok (.bl (decide (i=j))):=by
 rw[SQ (IA _) (IA _)]
 simp only[Av,Bool.beq_eq_decide_eq]
theorem LU {k:Nat}(i j:Int):ZG k (.int i) (.int j)=.ok (.bl (!decide (i=j))):=by
 rw[SR (IA _) (IA _)]
 simp only[Av,Bool.beq_eq_decide_eq]
theorem JM {i j:Int}:oG (.int i) (.int j)=.ok (.int (i + j)):=rfl
theorem JN {i j:Int}:oH (.int i) (.int j)=.ok (.int (i - j)):=rfl
theorem LV {i j:Int}:uD (.int i) (.int j)=.ok (.bl (decide (i < j))):=rfl
theorem LW {i j:Int}:vG (.int i) (.int j)=.ok (.bl (decide (i<=j))):=rfl
theorem LX {i j:Int}:uE (.int i) (.int j)=.ok (.bl (decide (j < i))):=rfl
theorem LY {i j:Int}:vH (.int i) (.int j)=.ok (.bl (decide (j<=i))):=rfl
theorem LZ {i:Int}:uF (.int i)=.ok (some i):=rfl
theorem JO:Vx [.lst ds]=.ok (.int ds.length):=rfl
theorem JP:Vx [.tup ds]=.ok (.int ds.length):=rfl
theorem ite_tt {α:Type}{x y:α}:(if true=true then x else y)=x:=rfl
theorem ite_ff {α:Type}{x y:α}:(if false=true then x else y)=y:=rfl
theorem Y7 {lo hi:Option Int}{x:D}(h:mF lo hi x=.ok (.lst ds)):dJ lo hi x=.ok (.lst (ds.map .sh)):=by
 unfold mF at h
 unfold dJ
 cases x with
 |lst xs=>dsimp only at h ⊢;injection h with h;injection h with h;rw[h]
 |_=>cases h
theorem Rr (xs:List D) (k:Nat):dJ (some (k:Int)) none (.lst xs)=.ok (.lst ((xs.drop k).map .sh)):=Y7 (Xv xs k)
theorem eE (xs:List D) (a b:Nat):dJ (some (a:Int)) (some (b:Int)) (.lst xs)=.ok (.lst (((xs.drop a).take (b - a)).map .sh)):=Y7 (ZP xs a b)
theorem JQ:Kx (.lst ds)=.ok (.lst (ds.map .sh)):=rfl
theorem JR:Kx (.tup ds)=.ok (.lst (ds.map .sh)):=rfl
theorem HB {ns:List Int}:pB [.lst (ns.map D.int)]=.ok (.int ns.sum):=by unfold pB;dsimp only;rw[DK]
theorem HC {T:String}:J6 T (.lst ds)=.ok (.bl (Ey T (.lst ds))):=rfl
theorem HD {T:String}:J6 T (.tup ds)=.ok (.bl (Ey T (.tup ds))):=rfl
theorem HE {T:String}{k:Int}:J6 T (.int k)=.ok (.bl (Ey T (.int k))):=rfl
theorem HF {T:String}:J6 T .Az=.ok (.bl (Ey T .Az)):=rfl
theorem JS {T:String}{k:Bool}:J6 T (.bl k)=.ok (.bl (Ey T (.bl k))):=rfl
theorem HG {T:String}{k:Str}:J6 T (.str k)=.ok (.bl (Ey T (.str k))):=rfl
theorem HH {T:String}:J6 T (.Bg b ks vs)=.ok (.bl (Ey T (.Bg b ks vs))):=rfl
theorem UL:Ey "list" (.lst ds)=true:=rfl
theorem UM:Ey "tuple" (.tup ds)=true:=rfl
theorem UN {k:Int}:Ey "int" (.int k)=true:=rfl
theorem UO {k:Int}:Ey "bool" (.int k)=false:=rfl
theorem UP:Ey "dict" (.Bg b ks vs)=true:=rfl
theorem HI {neg:Bool}{k:Int}{ns:List Int}:Jn neg (.int k) (.lst (ns.map D.int))=.ok (.bl (if neg then !ns.contains k else ns.contains k)):=by
 unfold Jn qA
 dsimp only
 rw[DK]
def vO (s:Option D):Option Cl:=s.map .val
theorem M2 {s:Option D}:Ez (vO s::ρ)=vO s::Ez ρ:=by cases s<;>rfl
end
end L2
namespace L2
open PySem PySem.Spec PyProof.Rows
def pD (p:Int×Int):D:=.tup [.int p.1,.int p.2]
theorem GH (p q:Int×Int):Av (pD p) (pD q)=decide (p=q):=by
 obtain⟨a,b⟩:=p
 obtain⟨c,d⟩:=q
 unfold pD
 simp only[Av,Cv,Bool.and_true]
 rw[yL]
 simp
theorem GI (p:Int×Int):keyOk true (pD p)=true:=rfl
theorem UQ (B:List (Int×Int)) (p:Int×Int):Lq (B.map pD) (pD p)=decide (p∈B):=by
 unfold Lq
 rw[List.any_map,yL]
 simp only[List.any_eq_true,Function.comp,GH,decide_eq_true_eq]
 constructor
 ·rintro ⟨x,hx,rfl⟩;exact hx
 ·intro h;exact⟨p,h,rfl⟩
theorem PM (B:List (Int×Int)) (vs:List D) (neg:Bool) (a b:Int):Jn neg (.tup [.int a,.int b]) (.Bg true (B.map pD) vs)=.ok (.bl (if neg=true then !decide ((a,b)∈B) else decide ((a,b)∈B))):=by
 unfold Jn
 dsimp only
 have h1:keyOk true (D.tup [D.int a,D.int b])=true:=rfl
 have h2:Lq (B.map pD) (D.tup [D.int a,D.int b])=decide ((a,b)∈B):=UQ B (a,b)
 rw[if_pos h1,h2]
def Kz (B:List (Int×Int)) (p:Int×Int):List (Int×Int):=if p∈B then B else B++[p]
def CV {α:Type}(B:List α):List D:=B.map fun _=>.bl true
theorem OI {α:Type}(f:α->D) (y:D):∀ B:List α,IE (B.map f) (CV B) y (.bl true)=CV B
 |[]=>rfl
 |b::r=>by
  show IE (f b::r.map f) (.bl true::CV r) y (.bl true)=.bl true::CV r
  rw[IE,OI f y r]
  split<;>rfl
theorem UR (B:List (Int×Int)) (p:Int×Int):putD (B.map pD) (CV B) (pD p) (.bl true)=((Kz B p).map pD,CV (Kz B p)):=by
 unfold putD Kz
 rw[UQ]
 by_cases h:p∈B
 ·rw[decide_eq_true h,if_pos rfl,if_pos h,OI]
 ·rw[decide_eq_false h,if_neg (by simp),if_neg h]
  unfold CV
  simp
theorem Rt {B:List (Int×Int)}{p q:Int×Int}:q∈Kz B p↔q∈B\/q=p:=by
 unfold Kz
 split
 ·constructor
  ·exact .inl
  ·rintro (h|rfl)
   ·exact h
   ·assumption
 ·simp
theorem Td {B:List (Int×Int)}{p:Int×Int}(h:B.Nodup):(Kz B p).Nodup:=by
 unfold Kz
 split
 ·exact h
 ·rename_i hn
  exact zH.mpr ⟨h,by simp,fun a ha b hb z=>by simp at hb;subst hb;subst z;exact hn ha⟩
theorem KA {α:Type} [DecidableEq α]:∀ {l u:List α},l.Nodup->(∀ x∈l,x∈u)->l.length<=u.length
 |[],_,_,_=>zP _
 |x::r,u,nd,h=>by
  have b5:=yk.mp nd
  have hx:=h x zd
  have ih:=KA (l:=r) (u:=u.erase x) b5.2 fun y hy=>(List.mem_erase_of_ne (fun z=>b5.1 (by rw[<-z];exact hy))).mpr (h y (ze _ hy))
  have e:=List.length_erase_of_mem hx
  have:0 < u.length:=List.length_pos_of_mem hx
  rw[zk]
  omega
theorem Y8 (p:Int×Int):Jb (pD p)=true:=by simp[pD,Jb,Jc]
def AR (m:Nat):List Int:=(yz m).map fun i:Nat=>(i:Int)
theorem MX (m:Nat):((yz m).map fun i:Nat=>D.int (i:Int))=(AR m).map D.int:=by unfold AR;rw[zY];rfl
theorem Fe (m:Nat):(AR m).length=m:=by unfold AR;simp
theorem JT {m:Nat}{p:Int}:p∈AR m↔0<=p/\p < m:=by
 unfold AR
 constructor
 ·intro h
  obtain⟨i,hi,rfl⟩:=zA.mp h
  have:=List.mem_range.mp hi
  omega
 ·rintro ⟨h0,h1⟩
  exact zA.mpr ⟨p.toNat,List.mem_range.mpr (by omega),by omega⟩
def AY (B:List (Int×Int)) (L:List Int) (v:Int):List (Int×Int):=(L.filter fun u=>decide ((u,v)∈B)).flatMap fun u=>((L.filter fun w=>decide ((v,w)∈B)).filter fun w=>decide (u≠w) && !decide ((u,w)∈B)).map fun w=>(u,w)
def kW (B:List (Int×Int)):Prop:=∀ x,(x,x)∉B
theorem W2 (B:List (Int×Int)) (L:List Int) (v:Int):(AY B L v).length<=L.length * L.length:=by
 unfold AY
 rw[List.length_flatMap]
 have key:∀ l:List Int,(l.map fun u=>(((L.filter fun w=>decide ((v,w)∈B)).filter fun w=>decide (u≠w) && !decide ((u,w)∈B)).map fun w=>(u,w)).length).sum<=l.length * L.length:=by
  intro l
  induction l with
  |nil=>simp
  |cons u r ih =>
   rw[zf,List.sum_cons,zk,Nat.succ_mul]
   have:(((L.filter fun w=>decide ((v,w)∈B)).filter fun w=>decide (u≠w) && !decide ((u,w)∈B)).map fun w=>(u,w)).length<=L.length:=by
    rw[zc]
    exact yo (List.length_filter_le _ _) (List.length_filter_le _ _)
   omega
 exact yo (key _) (Nat.mul_le_mul_right _ (List.length_filter_le _ _))
theorem OJ {α:Type}(f:α->List Int):∀ l:List α,Gy (l.map fun x=>D.tup ((f x).map D.int))=some (l.map fun x=>(D.tup ((f x).map D.int),f x))
 |[]=>rfl
 |x::r=>by
  rw[zf,Gy,OJ f r]
  simp[Xr,DK]
theorem OK {B:List (Int×Int)}{L:List Int}{v:Int}{p:Int×Int}(h:p∈AY B L v):p.1∈L/\p.2∈L/\p.1≠p.2:=by
 unfold AY at h
 obtain⟨u,hu,h⟩:=List.mem_flatMap.mp h
 obtain⟨w,hw,rfl⟩:=zA.mp h
 have h1:=yy.mp hw
 have h2:=yy.mp h1.1
 have h3:=yy.mp hu
 simp at h1
 exact⟨h3.1,h2.1,h1.2.1⟩
def Ck (B ps:List (Int×Int)):List (Int×Int):=ps.foldl Kz B
structure Cm (m:Nat) (B:List (Int×Int)):Prop where
 nd:B.Nodup
 no:kW B
 uM:∀ p∈B,(0<=p.1/\p.1 < m)/\(0<=p.2/\p.2 < m)
theorem Cm.add {m:Nat}{B:List (Int×Int)}(h:Cm m B){p:Int×Int}(hp:p.1≠p.2) (h1:0<=p.1/\p.1 < m) (h2:0<=p.2/\p.2 < m):Cm m (Kz B p):=by
 refine⟨Td h.nd,fun x hx=>?_,fun q hq=>?_⟩
 ·rcases Rt.mp hx with z|z
  ·exact h.no x z
  ·subst z;exact hp rfl
 ·rcases Rt.mp hq with z|z
  ·exact h.uM q z
  ·subst z;exact⟨h1,h2⟩
theorem Cm.Ck {m:Nat}{B:List (Int×Int)}(h:Cm m B):∀ {ps:List (Int×Int)},(∀ p∈ps,p.1≠p.2/\(0<=p.1/\p.1 < m)/\(0<=p.2/\p.2 < m))->Cm m (L2.Ck B ps):=by
 intro ps
 induction ps generalizing B with
 |nil=>intro _;exact h
 |cons p r ih =>
  intro hp
  have:=hp p zd
  exact ih (h.add this.1 this.2.1 this.2.2) fun q hq=>hp q (ze _ hq)
theorem Cm.len {m:Nat}{B:List (Int×Int)}(h:Cm m B) (hm:m<=20):B.length < 1000:=by
 have key:=KA (l:=B) (u:=(yz m).flatMap fun i:Nat=>(yz m).map fun j:Nat=>((i:Int),(j:Int))) h.nd fun p hp=>by
  obtain⟨h1,h2⟩:=h.uM p hp
  refine List.mem_flatMap.mpr ⟨p.1.toNat,List.mem_range.mpr (by omega),zA.mpr ⟨p.2.toNat,List.mem_range.mpr (by omega),?_⟩⟩
  rw[Int.toNat_of_nonneg h1.1,Int.toNat_of_nonneg h2.1]
 have e:((yz m).flatMap fun i:Nat=>(yz m).map fun j:Nat=>((i:Int),(j:Int))).length=m * m:=by
  rw[List.length_flatMap]
  simp[List.map_const',List.sum_replicate_nat]
 rw[e] at key
 have:m * m<=20 * 20:=Nat.mul_le_mul hm hm
 omega
theorem EX (a b c d:Int):HT.lexLt [a,b] [c,d]=decide (a < c\/(a=c/\b < d)):=by
 rw[HT.Fq,HT.Fq,HT.ER,yL]
 by_cases h1:a=c
 ·subst h1
  by_cases h2:b=d
  ·subst h2;simp
  ·simp[h2]
 ·simp[h1]
theorem W3 {α β:Type}(f:α->β):∀ bs:List (α×List Int),AV (bs.map fun b=>(f b.1,b.2))=(AV bs).map fun b=>(f b.1,b.2):=by
 intro bs
 unfold AV
 suffices z:∀ o:Option (α×List Int),(bs.map fun b=>(f b.1,b.2)).foldl BG (o.map fun b=>(f b.1,b.2))=(bs.foldl BG o).map fun b=>(f b.1,b.2) from z none
 induction bs with
 |nil=>intro o;rfl
 |cons b r ih =>
  intro o
  rw[zf,zS,zS,<-ih]
  congr 1
  cases o with
  |none=>rfl
  |some c =>
   unfold BG
   dsimp only [Option.map_some]
   split<;>rfl
theorem Y9 {α:Type}:∀(bs:List (α×List Int)) (o:Option (α×List Int)) (b:α×List Int),bs.foldl BG o=some b->b∈bs\/o=some b:=by
 intro bs
 induction bs with
 |nil=>intro o b h;exact .inr h
 |cons x r ih =>
  intro o b h
  rw[zS] at h
  rcases ih _ _ h with q|q
  ·exact .inl (ze _ q)
  ·cases o with
   |none=>cases q;exact .inl zd
   |some c =>
    unfold BG at q
    dsimp only at q
    split at q
    ·cases q;exact .inl zd
    ·exact .inr q
theorem W4 {α:Type}{bs:List (α×List Int)}(h2:∀ b∈bs,∃ x y:Int,b.2=[x,y]){b:α×List Int}(hb:AV bs=some b):∀ c∈bs,HT.lexLt c.2 b.2=false:=by
 unfold AV at hb
 suffices z:∀(bs:List (α×List Int)) (o:Option (α×List Int)),(∀ b∈bs,∃ x y:Int,b.2=[x,y])->(∀ b,o=some b->∃ x y:Int,b.2=[x,y])->∀ b,bs.foldl BG o=some b->(∀ c∈bs,HT.lexLt c.2 b.2=false)/\(∀ c,o=some c->HT.lexLt c.2 b.2=false) from (z bs none h2 (fun b h=>by cases h) b hb).1
 intro bs
 induction bs with
 |nil =>
  intro o _ ho b h
  refine⟨fun c hc=>(by cases hc),fun c hc=>?_⟩
  have e:o=some b:=h
  rw[hc] at e
  cases e
  obtain⟨x,y,e⟩:=ho _ hc
  rw[e,EX]
  simp
 |cons d r ih =>
  intro o h2 ho b h
  rw[zS] at h
  have hd:=h2 d zd
  have aY:∀ b,BG o d=some b->∃ x y:Int,b.2=[x,y]:=fun b hb=>by
   unfold BG at hb
   cases o with
   |none=>cases hb;exact hd
   |some c =>
    dsimp only at hb
    split at hb
    ·cases hb;exact hd
    ·cases hb;exact ho _ rfl
  obtain⟨i1,i2⟩:=ih (BG o d) (fun c hc=>h2 c (ze _ hc)) aY b h
  have wk:=IF o d
  obtain⟨k,hk⟩:∃ k,BG o d=some k:=by
   cases q:BG o d with
   |none=>exact (wk q).elim
   |some k=>exact⟨k,rfl⟩
  have wl:=i2 k hk
  obtain⟨kx,ky,ek⟩:=aY k hk
  have fb:∃ x y:Int,b.2=[x,y]:=by
   have:=Y9 r (BG o d) b h
   rcases this with z|z
   ·exact h2 b (ze _ z)
   ·exact aY b z
  obtain⟨bx,xX,eb⟩:=fb
  obtain⟨dx,dy,ed⟩:=hd
  rw[ek,eb,EX,decide_eq_false_iff_not] at wl
  have cA:HT.lexLt d.2 b.2=false/\∀ c,o=some c->HT.lexLt c.2 b.2=false:=by
   unfold BG at hk
   cases o with
   |none =>
    cases hk
    rw[ed] at ek
    injection ek with e1 e2
    injection e2 with e2 _
    refine⟨?_,fun c hc=>by cases hc⟩
    rw[ed,eb,EX,decide_eq_false_iff_not]
    omega
   |some c =>
    obtain⟨cx,cy,ec⟩:=ho c rfl
    dsimp only at hk
    rw[ed,ec,EX] at hk
    by_cases hl:dx < cx\/(dx=cx/\dy < cy)
    ·rw[if_pos (decide_eq_true hl)] at hk
     cases hk
     rw[ed] at ek
     injection ek with e1 e2
     injection e2 with e2 _
     refine⟨?_,fun c' bN=>?_⟩
     ·rw[ed,eb,EX,decide_eq_false_iff_not];omega
     ·cases bN
      rw[ec,eb,EX,decide_eq_false_iff_not];omega
    ·rw[if_neg (by simpa using hl)] at hk
     cases hk
     rw[ec] at ek
     injection ek with e1 e2
     injection e2 with e2 _
     refine⟨?_,fun c' bN=>?_⟩
     ·rw[ed,eb,EX,decide_eq_false_iff_not];omega
     ·cases bN
      rw[ec,eb,EX,decide_eq_false_iff_not];omega
  refine⟨fun c hc=>?_,cA.2⟩
  rcases zo.mp hc with z|z
  ·rw[z];exact cA.1
  ·exact i1 c z
def Bi (B:List (Int×Int)) (L:List Int):Int:=match AV (L.map fun p=>(p,[((AY B L p).length:Int),p])) with
 |some k=>k.1
 |none=>0
theorem OL {B:List (Int×Int)}{L:List Int}(h:L≠[]):Bi B L∈L/\∀ p∈L,¬ (((AY B L p).length:Int) < (AY B L (Bi B L)).length\/(((AY B L p).length:Int)=(AY B L (Bi B L)).length/\p < Bi B L)):=by
 unfold Bi
 cases q:AV (L.map fun p=>(p,[((AY B L p).length:Int),p])) with
 |none=>exact (MU (fun z=>h (List.map_eq_nil_iff.mp z)) q).elim
 |some k =>
  obtain⟨p,hp,rfl⟩:=zA.mp (Kj _ _ q)
  refine⟨hp,fun p' jb=>?_⟩
  have:=W4 (fun b hb=>by obtain⟨x,_,rfl⟩:=zA.mp hb;exact⟨_,_,rfl⟩) q _ (zA.mpr ⟨p',jb,rfl⟩)
  rw[EX,decide_eq_false_iff_not] at this
  exact this
def Sh:Nat->List (Int×Int)->List Int->List Int
 |0,_,_=>[]
 |n + 1,B,L=>if L=[] then [] else Bi B L::Sh n (Ck B (AY B L (Bi B L))) (L.erase (Bi B L))
def By (rs:List Road):List (Int×Int):=rs.foldl (fun B r=>match r.l with | none=>B | some _=>Kz B (r.a,r.b)) []
theorem Ru {m:Nat}:∀ {rs:List Road},(∀ r∈rs,Ho m r/\r.a≠r.b)->Cm m (By rs):=by
 intro rs
 suffices z:∀(rs:List Road) (B:List (Int×Int)),Cm m B->(∀ r∈rs,Ho m r/\r.a≠r.b)->Cm m (rs.foldl (fun B r=>match r.l with|none=>B|some _=>Kz B (r.a,r.b)) B) from fun h=>z rs [] ⟨y4,fun x h=>(by cases h),fun p h=>(by cases h)⟩ h
 intro rs
 induction rs with
 |nil=>intro B h _;exact h
 |cons r t ih =>
  intro B h hr
  rw[zS]
  refine ih _ ?_ fun r' h'=>hr r' (ze _ h')
  have:=hr r zd
  cases r.l with
  |none=>exact h
  |some l=>exact h.add this.2 ⟨this.1.a0,this.1.a1⟩ ⟨this.1.b0,this.1.b1⟩
end L2
namespace L2
open PySem PySem.Spec PyProof.Rows
def Te (x:Int):List Int->List Int
 |[]=>[x]
 |y::r=>if x<=y then x::y::r else y::Te x r
def G6:List Int->List Int
 |[]=>[]
 |x::r=>Te x (G6 r)
theorem KC (x:Int):∀ l:List Int,(Te x l).Perm (x::l)
 |[]=>.refl _
 |y::r=>by
  unfold Te
  split
  ·exact .refl _
  ·exact ((KC x r).cons y).trans (.swap x y r)
theorem Ee:∀ l:List Int,(G6 l).Perm l
 |[]=>.refl _
 |x::r=>(KC x (G6 r)).trans ((Ee r).cons x)
theorem L7 (x:Int):∀ l:List Int,l.Pairwise (·<=·)->(Te x l).Pairwise (·<=·)
 |[],_=>by simp[Te]
 |y::r,h=>by
  unfold Te
  have hy:=List.pairwise_cons.mp h
  split
  ·rename_i bK
   exact List.pairwise_cons.mpr ⟨fun z hz=>by
    rcases zo.mp hz with rfl|hz
    ·exact bK
    ·exact Int.le_trans bK (hy.1 z hz),h⟩
  ·rename_i bK
   exact List.pairwise_cons.mpr ⟨fun z hz=>by
    rcases zo.mp ((KC x r).mem_iff.mp hz) with rfl|hz
    ·omega
    ·exact hy.1 z hz,L7 x r hy.2⟩
theorem Fz:∀ l:List Int,(G6 l).Pairwise (·<=·)
 |[]=>.nil
 |x::r=>L7 x _ (Fz r)
theorem GJ:∀ {a b:List Int},a.Perm b->a.Pairwise (·<=·)->b.Pairwise (·<=·)->a=b
 |[],b,hp,_,_=>(List.nil_perm.mp hp).symm
 |x::r,[],hp,_,_=>by have:=hp.length_eq;simp at this
 |x::r,y::t,hp,ha,hb=>by
  have cB:=List.pairwise_cons.mp ha
  have aE:=List.pairwise_cons.mp hb
  have e:x=y:=by
   have h1:x∈y::t:=hp.mem_iff.mp (zd ..)
   have h2:y∈x::r:=hp.mem_iff.mpr (zd ..)
   rcases zo.mp h1 with e|h1
   ·exact e
   rcases zo.mp h2 with e|h2
   ·exact e.symm
   have:=cB.1 _ h2
   have:=aE.1 _ h1
   omega
  subst e
  rw[GJ (List.Perm.cons_inv hp) cB.2 aE.2]
theorem JU:∀ {us:List Value}{ns:List Int},IntsAre us ns->Vals (ns.map V.int) us
 |_,_,.nil=>.nil
 |_,_,.cons n t h=>.cons ⟨t,rfl⟩ (JU h)
theorem MY {K:za}{H:Hp}:∀ l:List Int,Ag K H (l.map V.int) (l.map D.int)
 |[]=>.nil
 |x::r=>.cons (.int _) (MY r)
section
variable {X:Cx}{WX:Str->Hp->Prop}{c:Bool}{P0:Ew}{P:Addr->Prop}{H:Hp}{σ:St}{ρ:Ab}{a b e:Expr}{f g:Ab->M D}{fn:Ab->M OT}{pos:Pos}{te:TE}
def sF (X:Cx) (te:TE):TE:=fun σ H Q=>te σ H fun x H1=>∃ p ns,x=.ref p/\Dt X.K H1 p (List.map V.int ns)/\ns.length < 64/\∀ r,H1 r=none->Q (.ref r) (upd H1 r (.lst ((G6 ns).map V.int)))
theorem W5 {p:Pos}(hc:X.calm=true) (hg:Gl X "sorted") (hm:X.mg "sorted" = none) (he:PE X e te)
 (hv:bootBuiltins "sorted" = some (.builtin "sorted"):=by decide +kernel)
 (hs:starEach [e] X.env=[(false,eval e X.env)]:=by rfl) :
 PE X (.Call (.Name "sorted" p) [e] [] pos) (sF X te):=by
 intro pins s σ H Q I h
 refine wpAny_Call_Name_kw (DU I hg hm hv ?_)
 refine PyProof.Rows.callWith_builtin1 ?_ hs
 rw[hs]
 refine yT (Bb (he pins s σ H _ I h) fun u s1 ⟨x,H1,I1,r1,q1⟩=>?_)
 obtain⟨q,ns,rfl,hq,wm,h⟩:=q1
 cases r1
 refine Calls.spliced_nil ?_
 obtain⟨aa,r',pl,hz⟩:=I1.list hq
 have hi:=intsAre_of r'
 have ph:=r'.length
 rw[zc] at ph
 refine sorted_ints pl.isList hi (by omega) fun out cK b1 b2 b3=>?_
 obtain⟨c',aH⟩:=sortedAll_at s1.heap aa out
 have e:cK=G6 ns:=GJ (b2.trans (Ee ns).symm) b3 (Fz ns)
 subst e
 refine⟨.ref _,_,I1.laid (t':=s1.toks) (o:=.lst ((G6 ns).map V.int)) (fun b o e=>sortedAll_old e) (Nat.le_succ _) ⟨?_,out.toList,c',JU b1,by simpa using aH⟩,rfl,h _ (I1.Au.fresh (Nat.le_succ _))⟩
 rw[zc,(Ee ns).length_eq]
 exact yj (AF (by omega))
def eF (d:D):M OT:=match d with
 | .lst xs=>(match CD xs with|some ns=>if ns.length < 64 then .ok (.lst (((G6 ns).map .int).map .sh)) else .bad|none=>.bad)
 |_=>.bad
theorem W6 {ns:List Int}(h:ns.length < 64):eF (.lst (ns.map .int))=.ok (.lst (((G6 ns).map .int).map .sh)):=by
 unfold eF
 dsimp only
 rw[DK]
 dsimp only
 rw[if_pos h]
theorem W7 {p:Pos}(hc:X.calm=true) (hg:Gl X "sorted") (hm:X.mg "sorted" = none) (he:DE X WX true e f)
 (hv:bootBuiltins "sorted" = some (.builtin "sorted"):=by decide +kernel)
 (hs:starEach [e] X.env=[(false,eval e X.env)]:=by rfl) :
 DN X WX (.Call (.Name "sorted" p) [e] [] pos) (fun ρ=>(f ρ).bind eF):=by
 obtain⟨te,e1,e2⟩:=he
 refine⟨_,W5 hc hg hm e1 hv hs,fun P0 P σ H Q ρ E h=>?_⟩
 refine e2 P0 P σ H _ ρ E ?_
 dsimp only at h
 cases q:f ρ with
 |bad=>rw[q] at h;exact h
 |ex x=>rw[q] at h;exact h
 |ok d =>
  rw[q] at h
  simp only[M.A7] at h
  intro v H1 s1 hv
  unfold eF at h
  split at h
  ·rename_i xs
   split at h
   ·rename_i ns eb
    have:=DL eb
    subst this
    split at h
    ·rename_i hl
     cases hv with
     |lst hs hh =>
      have:=E8 hh
      subst this
      exact⟨_,ns,rfl,hs.Bm,hl,h.Kx s1 (MY _)⟩
    ·exact h.elim
   ·exact h.elim
  ·exact h.elim
def eG (d k:D):M OT:=match k with
 | .int j=>if 0<=j/\j.toNat<=1000 then .ok (.lst ((zt j.toNat d).map .sh)) else .bad
 |_=>.bad
theorem MZ {d:D}{n:Nat}(h:n<=1000):eG d (.int (n:Int))=.ok (.lst ((zt n d).map .sh)):=by
 unfold eG
 dsimp only
 rw[if_pos ⟨by omega,by omega⟩,zX]
theorem Tf {cP:Pos}(ha:DE X WX true a f) (hb:DE X WX true b g) (aY:starEach [a] X.env=[(false,eval a X.env)]:=by rfl) :
 DN X WX (.BinOp (.List [a] cP) .Mult b pos) (fun ρ=>(f ρ).bind fun d=>(g ρ).bind fun k=>eG d k):=by
 obtain⟨ta,a1,a2⟩:=ha
 obtain⟨tb,b1,b2⟩:=hb
 refine⟨_,WN jL (Pe (Be a1 Cg aY)) b1,fun P0 P σ H Q ρ E h=>?_⟩
 dsimp only at h
 refine a2 P0 P σ H _ ρ E ?_
 cases q:f ρ with
 |bad=>rw[q] at h;exact h
 |ex x=>rw[q] at h;exact h
 |ok d =>
  rw[q] at h
  simp only[M.A7] at h
  intro v H1 s1 hv
  have E1:=E.same s1
  refine⟨yj (AF (by simp)),fun p hp=>?_⟩
  have s2:Ad H1 (upd H1 p (.lst [v])):=AM hp _
  have E2:=E1.same s2
  refine b2 P0 P σ _ _ ρ E2 ?_
  cases q2:g ρ with
  |bad=>rw[q2] at h;exact h
  |ex x=>rw[q2] at h;exact fun H' s3=>h H' ((s1.trans s2).trans s3)
  |ok k =>
   rw[q2] at h
   simp only[M.A7] at h
   unfold eG at h
   intro w H3 s3 hw
   cases k with
   |int j =>
    dsimp only at h
    by_cases hj:0<=j/\j.toNat<=1000
    ·rw[if_pos hj] at h
     cases hw
     refine⟨p,j,[v],rfl,rfl,s3 _ _ Ar,by omega,by omega,yj (AF (by simp;omega)),?_⟩
     rw[Oz]
     exact h.Kx ((s1.trans s2).trans s3) (R1 ((hv.mono s2.del).mono s3.del) j.toNat)
    ·rw[if_neg hj] at h;exact h.elim
   |_=>exact h.elim
end
end L2
namespace L2
theorem Ff {f:Int->Int->M D}{a b:Int}:Bu f (.int a) (.int b)=f a b:=rfl
theorem JV {bs:List Bool}:Xy [.lst (bs.map D.bl)]=.ok (.bl (bs.all id)):=by unfold Xy;dsimp only;rw[MB]
theorem JW {bs:List Bool}:oR [.lst (bs.map D.bl)]=.ok (.bl (bs.any id)):=by unfold oR;dsimp only;rw[MB]
theorem eI {a b:List D}(h:a.length + b.length<=1000):Rf (.lst a) (.lst b)=.ok (.lst ((a++b).map .sh)):=if_pos h
def Kf (d:D) (n:Int):Bool:=match d with
 | .int j=>decide (0<=j) && decide (j < n)
 |_=>false
def ED (m:Nat):D->Bool
 | .lst xs=>(match CD xs with|some ns=>decide (G6 ns=AR m)|none=>false)
 |_=>false
def pG (d:D):Prop:=Uc d=false/\∀ xs,d=.lst xs->xs.length<=1000/\∀ e∈xs,Uc e=false
theorem Rv (m:Nat):(AR m).Pairwise (·<=·):=by
 unfold AR
 rw[List.pairwise_map]
 exact (List.pairwise_lt_range (n:=m)).imp fun h=>by omega
theorem N0 (m:Nat):(AR m).Nodup:=by
 unfold AR List.Nodup
 rw[List.pairwise_map]
 exact (List.pairwise_lt_range (n:=m)).imp fun h=>by omega
theorem OM {m:Nat}{L:List Int}:G6 L=AR m↔L.Perm (AR m) :=
 ⟨fun h=>by rw[<-h];exact (Ee L).symm,fun h=>GJ ((Ee L).trans h) (Fz L) (Rv m)⟩
theorem N1 {m:Nat}{L:List Int}:ED m (.lst (L.map D.int))=decide (G6 L=AR m):=by unfold ED;dsimp only;rw[DK]
theorem Tg {m:Nat}{L:List Int}(h:L.Perm (AR m)):ED m (.lst (L.map D.int))=true:=by rw[N1];exact decide_eq_true (OM.mpr h)
theorem W8 {m:Nat}{xs:List D}(h:ED m (.lst xs)=true):∃ L:List Int,xs=L.map D.int/\L.Perm (AR m):=by
 unfold ED at h
 dsimp only at h
 split at h
 ·rename_i ns e
  exact⟨ns,DL e,OM.mp (of_decide_eq_true h)⟩
 ·cases h
theorem GL {m:Nat}{L:List Int}(h:L.Perm (AR m)):L.length=m:=by rw[h.length_eq,Fe]
theorem B2 {m:Nat}{L:List Int}(h:L.Perm (AR m)){p:Int}:p∈L↔0<=p/\p < m:=by rw[h.mem_iff,JT]
theorem IH {m:Nat}{L:List Int}(h:L.Perm (AR m)):L.Nodup:=h.nodup_iff.mpr (N0 m)
theorem Rw {m:Nat}{xs:List D}(h:ED m (.lst xs)=true):xs.length=m/\(xs.map fun e=>Kf e m).all id=true:=by
 obtain⟨L,rfl,hp⟩:=W8 h
 refine⟨by rw[zc,GL hp],?_⟩
 rw[List.all_eq_true]
 intro b hb
 rw[zY] at hb
 obtain⟨j,hj,rfl⟩:=zA.mp hb
 have:=(B2 hp).mp hj
 show (decide (0<=j) && decide (j < m))=true
 simp only[zR,decide_eq_true_eq]
 exact this
theorem US {m:Nat}:∀ {xs:List D},(xs.map fun e=>Kf e m).all id=true->∃ L:List Int,xs=L.map D.int
 |[],_=>⟨[],rfl⟩
 |d::r,h=>by
  rw[zf,List.all_cons,zR] at h
  obtain⟨L,rfl⟩:=US h.2
  cases d with
  |int j=>exact⟨j::L,rfl⟩
  |_=>exact absurd h.1 (by simp[Kf])
theorem ON:∀ {a b:List Int},Cv (a.map D.int) (b.map D.int)=decide (a=b)
 |[],[]=>by simp[Cv]
 |[],y::t=>by simp[Cv]
 |x::r,[]=>by simp[Cv]
 |x::r,y::t=>by
  rw[zf,zf,Cv,ON,Av]
  by_cases h:x=y<;>by_cases k:r=t<;>simp[h,k]
theorem Ya {a b:List Int}:Av (.lst (a.map D.int)) (.lst (b.map D.int))=decide (a=b):=by rw[Av];exact ON
theorem Yb {a b:List Int}:ZF 16 (.lst (a.map D.int)) (.lst (b.map D.int))=.ok (.bl (decide (a=b))):=by rw[SQ (Ul (n:=15) a) (Ul (n:=15) b),Ya]
theorem W9 {i:Nat}{L:List Int}(h:L.Perm (AR i)) (n:Nat):(L.take n++(i:Int)::L.drop n).Perm (AR (i + 1)):=by
 have e:AR (i + 1)=AR i++[(i:Int)]:=by unfold AR;rw[List.range_succ,zL];rfl
 rw[e]
 refine List.perm_middle.trans ?_
 rw[y7]
 exact ((h.cons _).trans (List.perm_append_singleton _ _).symm)
theorem eJ {m:Nat}{xs:List D}(h:xs.length≠m):ED m (.lst xs)=false:=by
 cases q:ED m (.lst xs) with
 |false=>rfl
 |true=>exact (h (Rw q).1).elim
end L2
namespace L2
theorem HJ {i:Nat}{ρ:Ab}{ds:List D}{d:D}{p:Int}(hi:ρ[i]? =some (some (.own ds))) (h0:0<=p) (h1:p < ds.length):ZQ i ρ (.ok (.int p)) d=.ok (.next (ρ.set i (some (.own (ds.set p.toNat d))))):=by
 unfold ZQ
 rw[hi]
 dsimp only
 rw[M.A7]
 unfold kC
 dsimp only
 rw[LG ⟨h0,h1⟩]
end L2
namespace L2
theorem eK {ρ:Ab}:XT 0 (none::ρ)=none::ρ:=rfl
end L2
namespace L2
theorem Yc:∃ T Q:Int,Vv (.int 10) (.int 60)=.ok (.int T)/\Vv (.int 982451653) (.int 7)=.ok (.int Q)/\1000000 < T/\T.natAbs < 2 ^ 200/\0 < Q/\Q.natAbs < 2 ^ 250:=⟨10 ^ 60,982451653 ^ 7,rfl,rfl,by decide,by decide,by decide,by decide⟩
noncomputable def L8:Int:=zi Yc
theorem gJ:∃ Q:Int,Vv (.int 10) (.int 60)=.ok (.int L8)/\Vv (.int 982451653) (.int 7)=.ok (.int Q)/\1000000 < L8/\L8.natAbs < 2 ^ 200/\0 < Q/\Q.natAbs < 2 ^ 250:=zb Yc
theorem gK:Vv (.int 10) (.int 60)=.ok (.int L8):=(zb gJ).1
theorem PN:1000000 < L8:=(zb gJ).2.2.1
theorem eL {i:Int}:Ex (.int i) (.int L8)=.ok (.int (i % L8)):=AQ (by have:=PN;omega)
def cl:Nat->D->Prop
 |0,d=>Uc d=false
 |n + 1,d=>Uc d=false/\∀ ds,(d=.tup ds\/d=.lst ds)->∀ e∈ds,cl n e
theorem cl.x {n:Nat}{d:D}(h:cl n d):Uc d=false:=by cases n with | zero=>exact h | succ n=>exact h.1
theorem Yd {n:Nat}{ds:List D}(h:∀ e∈ds,cl n e):cl (n + 1) (.tup ds):=⟨rfl,fun es e x hx=>by rcases e with e | e<;>cases e;exact h x hx⟩
theorem kX {n:Nat}{ds:List D}(h:∀ e∈ds,cl n e):cl (n + 1) (.lst ds):=⟨rfl,fun es e x hx=>by rcases e with e | e<;>cases e;exact h x hx⟩
theorem UT {n:Nat}{d:D}(h:Uc d=false) (h2:∀ ds,d≠.tup ds) (h3:∀ ds,d≠.lst ds):cl n d:=by
 cases n with
 |zero=>exact h
 |succ n=>exact⟨h,fun ds e=>by rcases e with e|e;exact (h2 ds e).elim;exact (h3 ds e).elim⟩
theorem N2 {n:Nat}{i:Int}:cl n (.int i):=UT rfl (fun _ h=>by cases h) (fun _ h=>by cases h)
theorem kY {n:Nat}:cl n .Az:=UT rfl (fun _ h=>by cases h) (fun _ h=>by cases h)
theorem kZ {n:Nat}{l:Option Int}:cl n (GC l):=by cases l;exact kY;exact N2
theorem Ye {n:Nat}:∀ e∈([]:List D),cl n e:=fun e h=>by cases h
theorem HK {n:Nat}{d:D}{ds:List D}(h:cl n d) (t:∀ e∈ds,cl n e):∀ e∈d::ds,cl n e:=fun e he=>by
 rcases zo.mp he with rfl|he
 ·exact h
 ·exact t e he
theorem pH {n:Nat}{r:Road}:cl (n + 1) (BF r):=Yd (HK N2 (HK N2 (HK kZ (HK N2 Ye))))
theorem lA {n:Nat}{rs:List Road}:∀ e∈rs.map BF,cl (n + 1) e:=fun e he=>by
 obtain⟨r,_,rfl⟩:=zA.mp he
 exact pH
noncomputable def EY (m:Int):D->Bool
 | .tup [a,b,l,w]=>Kf a m && (Kf b m && (!Av a b && ((Cw l || Kf l L8) && Kf w L8)))
 |_=>false
noncomputable def Du:D->Bool
 | .tup [.int m,.lst rs]=>(Kf (.int m) 17 && !decide (m=0)) && (decide (rs.length<=60) && (rs.map (EY m)).all id)
 |_=>false
theorem Wa {n:D}:Du (.tup [n])=false:=by cases n<;>rfl
theorem Th {n r z:D}{t:List D}:Du (.tup (n::r::z::t))=false:=by cases n<;>cases r<;>rfl
structure N3 (m:Nat) (r:Road):Prop where
 a0:0<=r.a
 a1:r.a < m
 b0:0<=r.b
 b1:r.b < m
 ab:r.a≠r.b
 l0:∀ l,r.l=some l->0<=l/\l < L8
 w0:0<=r.w
 w1:r.w < L8
theorem JX {i n:Int}(h0:0<=i) (h1:i < n):Kf (.int i) n=true:=by unfold Kf;simp[h0,h1]
theorem Wb {m:Nat}{r:Road}(h:N3 m r):EY m (BF r)=true:=by
 unfold BF EY
 dsimp only
 rw[JX h.a0 h.a1,JX h.b0 h.b1,JX h.w0 h.w1]
 have:Av (.int r.a) (.int r.b)=false:=by rw[Av];simp[h.ab]
 rw[this]
 cases hl:r.l with
 |none=>rfl
 |some l=>have:=h.l0 l hl;rw[show GC (some l)=.int l from rfl,JX this.1 this.2];rfl
theorem Yf {m:Nat}{rs:List Road}(h1:1<=m) (h2:m<=16) (hl:rs.length<=60) (h:∀ r∈rs,N3 m r):Du (As m rs)=true:=by
 unfold As Du
 dsimp only
 rw[JX (by omega) (by omega),zc,decide_eq_true hl,decide_eq_false (by omega)]
 have:(((rs.map BF).map (EY m)).all id)=true:=by
  rw[List.all_eq_true]
  intro b hb
  rw[zY] at hb
  obtain⟨r,hr,rfl⟩:=zA.mp hb
  exact Wb (h r hr)
 rw[this];rfl
end L2
namespace L2
theorem Yg {S:List D}{q:Int}(h:0 < S.length) (h0:0<=q):Ex (.int q) (.int (S.length:Int))=.ok (.int (q % S.length))/\∃ y,y∈S/\B3 (.lst S) (.int (q % (S.length:Int)))=.ok y:=by
 have ck:(0:Int) < (S.length:Int):=by omega
 have b0:0<=q % (S.length:Int):=yO _ (by omega)
 have b1:q % (S.length:Int) < S.length:=yH _ ck
 refine⟨AQ ck,S[(q % (S.length:Int)).toNat]'(by omega),List.getElem_mem _,?_⟩
 have:=Jf (f:=fun d:D=>d) (l:=S) b0 (zq (by omega))
 rw[List.map_id'] at this
 exact this
end L2
namespace L2
theorem eM {a b:OT}:er (.tup [a,b])=.tup [er a,er b]:=by simp[er,U8]
end L2
namespace L2
section
variable {α β:Type}{a b c d e f g:α}{x y:β}
theorem eN:(if [a,b,c,d,e].length<=1000 then x else y)=x:=rfl
theorem eO:(if [a,b,c,d,e,f].length<=1000 then x else y)=x:=rfl
theorem eQ:(if [a,b,c,d,e,f,g].length<=1000 then x else y)=x:=rfl
theorem M3 {t:Bool}:er (.Bg t [] [])=.Bg t [] []:=by simp[er,U8]
end
end L2
namespace L2
open PySem PySem.Spec PyProof.Rows
def eR (f:Str):List Str->List D->Option D
 |n::ns,d::ds=>if f == n then some d else eR f ns ds
 |_,_=>none
theorem Rx {K:za}{H:Hp}{f:Str}:∀ {fs:List (Str×V)}{ds:List D}{d:D},Ag K H (fs.map yv) ds->eR f (fs.map zI) ds=some d->∃ v,fs.lookup f=some v/\BH K H v d
 |[],ds,d,_,h=>by simp[eR] at h
 |(n,v)::fs,_,d,.cons hv ht,h=>by
  rw[zf,eR] at h
  rw[List.lookup_cons]
  cases q:f == n with
  |true=>rw[q,if_pos rfl] at h;cases h;exact⟨v,rfl,hv⟩
  |false=>rw[q,if_neg (by simp)] at h;exact Rx ht h
theorem N4 {K:za}{H:Hp}{f:Str}:∀ {fs:List (Str×V)}{ds:List D},Ag K H (fs.map yv) ds->eR f (fs.map zI) ds=none->fs.lookup f=none
 |[],ds,_,h=>rfl
 |(n,v)::fs,_,.cons hv ht,h=>by
  rw[zf,eR] at h
  rw[List.lookup_cons]
  cases q:f == n with
  |true=>rw[q,if_pos rfl] at h;cases h
  |false=>rw[q,if_neg (by simp)] at h;exact N4 ht h
structure I9 (K:za) (x f:Str):Prop where
 ex:∃ C,zD K mainGlobals x=some (some (.ref C))/\Vj K C/\Ij K C f
def NT (cs:List Str) (f:Str) (d:D):M D:=match d with
 | .ins x ns ds=>if x∈cs then (match eR f ns ds with|some e=>.ok e|none=>.bad) else .bad
 |_=>.bad
section
variable {X:Cx}{E:XK}{WX:Str->Hp->Prop}{c:Bool}{P0:Ew}{P:Addr->Prop}{H:Hp}{σ:St}{ρ:Ab}{a b e:Expr}{es:List Expr}{f g:Ab->M D}{fs:Ab->M (List D)}{fn:Ab->M OT}{pos:Pos}{te:TE}
theorem EZ (cs:List Str){fl:Str}(pi:∀ x∈cs,I9 X.K x fl) (ha:DE X WX c a f) (hb:attributeBase a fl X.env (eval a X.env)=eval a X.env:=by rfl):DE X WX c (.Attribute a fl pos) (fun ρ=>(f ρ).bind (NT cs fl)):=by
 obtain⟨ta,a1,a2⟩:=ha
 refine⟨_,iY a1 hb,fun P0 P σ H Q ρ E h=>?_⟩
 dsimp only at h
 refine a2 P0 P σ H _ ρ E ?_
 cases e:f ρ with
 |bad=>rw[e] at h;exact h
 |ex x=>rw[e] at h;exact h
 |ok d =>
  rw[e] at h
  simp only[M.A7] at h
  intro v H1 s1 hv
  unfold NT at h
  split at h
  ·rename_i x ns ds
   split at h
   ·rename_i hx
    split at h
    ·rename_i d' el
     cases hv with
     |ins hn ha hl =>
      obtain⟨C,bU,hc,d4⟩:=(pi x hx).ex
      rw[hn] at bU
      cases bU
      obtain⟨v',l1,l2⟩:=Rx hl el
      exact⟨_,_,_,_,v',rfl,(Al ha).2,hc,d4,l1,h v' H1 s1 l2⟩
    ·exact h.elim
   ·exact h.elim
  ·exact h.elim
structure Ia (K:za) (x m qual:Str) (st:Stmt) (ps:List Str):Prop where
 ex:∃ C f fd,zD K mainGlobals x=some (some (.ref C))/\Vj K C/\Meth K C m f/\Ww K m qual st f fd/\Binds K fd ps []
structure II (P:Program) (w:World) (K:za) (mg:Str->Option Value) (base:Heap) (x m:Str) (k n:Nat) (F:List D->M OT):Prop where
 ex:∃ C fa fd ps,zD K mainGlobals x=some (some (.ref C))/\Vj K C/\Meth K C m fa/\Dv P w K mg base (SO P w base) k fa fd ps (spT K n F)/\Binds K fd ps []
theorem M4 {P:Program}{w:World}{K:za}{mg:Str->Option Value}{base:Heap}{x m qual:Str}{st:Stmt}{N ps:List Str}{k n:Nat}(T:Ia K x m qual st ps) (S:Ae N ps (A4 st)) (g:Ab->M Out)
 (hb:∀(f:Addr) (AZ:Value) (A:Around) (outer:List Env) (s:Shared) (H:Hp) (E:XK),BI k (A.deeper (envOfC qual (A4 st) s.heap.objs.size f AZ))->Sf (Uk P w K mg base N qual (A4 st) f AZ A outer s H E) (D2 K E) (AJ st) g) (hn:ps.length=n:=by rfl) :
 II P w K mg base x m (k + 1) n (fun ds=>XR (g (AG N ds))):=by
 obtain⟨C,f,fd,h1,h2,h3,F,hB⟩:=T.ex
 subst hn
 exact⟨⟨C,f,fd,ps,h1,h2,h3,oX F S g (hb f),hB⟩⟩
def qH (x:Str):List (Str×(List D->M OT))->Option (List D->M OT)
 |[]=>none
 |(y,F)::r=>if x=y then some F else qH x r
theorem UU {x:Str}{F:List D->M OT}:∀ {ms:List (Str×(List D->M OT))},qH x ms=some F->(x,F)∈ms
 |[],h=>by cases h
 |(y,G)::r,h=>by
  unfold qH at h
  split at h
  ·rename_i e;cases h;subst e;exact zd
  ·exact ze _ (UU h)
def IJ (ms:List (Str×(List D->M OT))) (m:Str) (d:D):M (List D->M OT):=match d with
 | .ins x ns es=>(match qH x ms with
  |some F=>(match eR m ns es with|none=>.ok F|some _=>.bad)
  |none=>.bad)
 |_=>.bad
theorem Ry {ms:List (Str×(List D->M OT))}{m:Str}{d:D}{F:List D->M OT}(h:IJ ms m d=.ok F):∃ x ns es,d=.ins x ns es/\(x,F)∈ms/\eR m ns es=none:=by
 unfold IJ at h
 split at h
 ·rename_i x ns es
  split at h
  ·rename_i G e
   split at h
   ·rename_i e2;cases h;exact⟨x,ns,es,rfl,UU e,e2⟩
   ·cases h
  ·cases h
 ·cases h
theorem OO {ms:List (Str×(List D->M OT))}{m:Str}{d:D}{x:Str}:IJ ms m d≠.ex x:=fun h=>by
 unfold IJ at h
 split at h
 ·split at h
  ·split at h<;>cases h
  ·cases h
 ·cases h
def Yh (X:Cx) (m:Str) (k:Nat) (E:XK) (ta:TE) (t:TA):TE:=fun σ H Q=>ta σ H fun x H1=>∃ a C dx fs f fd ps n F,x=.ref a/\H1 a=some (.ins C dx fs)/\fs.lookup m=none/\Vj X.K C/\Meth X.K C m f/\Dv X.prog X.w X.K X.mg X.base (SO X.prog X.w X.base) k f fd ps (spT X.K n F)/\Binds X.K fd ps [] /\
 t σ H1 fun vs H2=>spT X.K n F (x::vs) H2 Q E
theorem Yi {pl:Sem Bool}{o:Expr}{m:Str}{k:Nat}{ta:TE}{t:TA}{apos:Pos}(he:PE X o ta) (hr:BI k X.A) (hx:Gq (SO X.prog X.w X.base) X E) (ha:PA X (e::es) t)
 (aY:starEach (e::es) X.env=(false,eval e X.env)::starEach es X.env:=by rfl) (a6:(backTo pos (starEach es X.env)).any (·.1)=false:=by rfl)
 (ht:eval (.Call (.Attribute o m apos) (e::es) [] pos) X.env=(do
  let ov <-eval o X.env
  standAt apos.atName
  let (f,first) <-holding [ov] (getMethod ov m pl)
  callWith pos f first (backTo pos (starEach (e::es) X.env)) (backToKw pos (keywordEach [] X.env))):=by rfl) :
 PE X (.Call (.Attribute o m apos) (e::es) [] pos) (Yh X m k E ta t):=by
 intro pins s σ H Q I h
 refine PySem.W.methodCall_KW (pl:=pl) (Bb (he pins s σ H _ I h) fun u s1 ⟨x,H1,I1,rx,a,C,dx,fs,f,fd,ps,n,F,ex,ea,l,c,hm,hF,hb,q⟩=>?_) ht
 subst ex
 obtain rfl:u=zZ a:=rx
 refine Me I1 ea c hm l ?_
 refine PySem.W.callWith_K (first:=[.ref a]) (h₀:=X.base) I.ok.mod.Wu hm.kp (Bb (ha pos pins s1 σ H1 _ I1 q) fun us s2 ⟨vs,H2,I2,r,q2⟩=>⟨I2.NG,?_⟩) aY a6
 exact Sy (us:=.ref a::us) (vs:=.ref a::vs) hF hr hb .nil hx I2 (.cons rfl r) (by rw[yq];exact q2)
theorem Wc {pl:Sem Bool}{o:Expr}{m:Str}{k:Nat}{ta:TE}{apos:Pos}(he:PE X o ta) (hr:BI k X.A) (hx:Gq (SO X.prog X.w X.base) X E)
 (ht:eval (.Call (.Attribute o m apos) [] [] pos) X.env=(do
  let ov <-eval o X.env
  standAt apos.atName
  let (f,first) <-holding [ov] (getMethod ov m pl)
  callWith pos f first (backTo pos (starEach [] X.env)) (backToKw pos (keywordEach [] X.env))):=by rfl) :
 PE X (.Call (.Attribute o m apos) [] [] pos) (Yh X m k E ta jA):=by
 intro pins s σ H Q I h
 refine PySem.W.methodCall_KW (pl:=pl) (Bb (he pins s σ H _ I h) fun u s1 ⟨x,H1,I1,rx,a,C,dx,fs,f,fd,ps,n,F,ex,ea,l,c,hm,hF,hb,q⟩=>?_) ht
 subst ex
 obtain rfl:u=zZ a:=rx
 refine Me I1 ea c hm l ?_
 exact PySem.W.callWith_K0 (first:=[.ref a]) I1.NG hm.kp (Sy (us:=[.ref a]) (vs:=[.ref a]) hF hr hb .nil hx I1 (.cons rfl .nil) q)
theorem UW {P:Program}{w:World}{K:za}{mg:Str->Option Value}{base:Heap}{CX:Vk}{k k':Nat}{f:Addr}{fd:FuncData}{ps:List Str}{sp:Sp}(h:k<=k') (F:Dv P w K mg base CX k f fd ps sp):Dv P w K mg base CX k' f fd ps sp :=
 ⟨F.len,fun A stack s H args us vs Q E hr=>F.run A stack s H args us vs Q E (hr.mono h)⟩
theorem PP {o:Expr}{fo:Ab->M D}{m:Str}{k n:Nat}{apos:Pos}{pl:Sem Bool}(ms:List (Str×(List D->M OT))) (xo:XCall X E) (pk:∀ p∈ms,∃ k',k'<=k/\II X.prog X.w X.K X.mg X.base p.1 m k' n p.2) (hr:BI k X.A) (ho:DE X (D2 X.K E) true o fo) (ha:DA X (D2 X.K E) true (e::es) fs) (cC:(e::es).length + 1=n)
 (aY:starEach (e::es) X.env=(false,eval e X.env)::starEach es X.env:=by rfl) (a6:(backTo pos (starEach es X.env)).any (·.1)=false:=by rfl)
 (ht:eval (.Call (.Attribute o m apos) (e::es) [] pos) X.env=(do
  let ov <-eval o X.env
  standAt apos.atName
  let (f,first) <-holding [ov] (getMethod ov m pl)
  callWith pos f first (backTo pos (starEach (e::es) X.env)) (backToKw pos (keywordEach [] X.env))):=by rfl) :
 DN X (D2 X.K E) (.Call (.Attribute o m apos) (e::es) [] pos) (fun ρ=>(fo ρ).bind fun d=>(IJ ms m d).bind fun F=>(fs ρ).bind fun ds=>F (d::ds)):=by
 obtain⟨ta,a1,a2⟩:=ho
 obtain⟨tb,b1,b2,b3⟩:=ha
 refine⟨_,Yi (pl:=pl) a1 hr xo.call b1 aY a6 ht,fun P0 P σ H Q ρ Ev h=>?_⟩
 dsimp only at h
 refine a2 P0 P σ H _ ρ Ev ?_
 cases q:fo ρ with
 |bad=>rw[q] at h;exact h
 |ex x=>rw[q] at h;exact h
 |ok d =>
  rw[q] at h
  simp only[M.A7] at h
  intro v H1 s1 hv
  cases q2:IJ ms m d with
  |bad=>rw[q2] at h;exact h.elim
  |ex y=>exact (OO q2).elim
  |ok F =>
   rw[q2] at h
   simp only[M.A7] at h
   obtain⟨x,ns,wn,rfl,be,pq⟩:=Ry q2
   obtain⟨k',fj,M0⟩:=pk _ be
   obtain⟨C,fa,fd,ps,h1,h2,h3,h4,h5⟩:=M0.ex
   cases hv with
   |ins hn hH hl =>
    rw[hn] at h1
    cases h1
    refine⟨_,_,_,_,fa,fd,ps,n,F,rfl,(Al hH).2,N4 hl pq,h2,h3,UW fj h4,h5,?_⟩
    refine b2 P0 P σ H1 _ ρ (Ev.same s1) ?_
    cases q3:fs ρ with
    |bad=>rw[q3] at h;exact h
    |ex y=>rw[q3] at h;exact fun H' s=>h H' (s1.trans s)
    |ok ds =>
     rw[q3] at h
     simp only[M.A7] at h
     intro vs H2 s2 aI
     have jt:=(BH.ins hn hH hl).mono s2.del
     exact⟨by rw[zk,aI.length,b3 ρ ds q3];exact cC,P,_,((Ev.same s1).same s2).Cn,.cons jt aI,h.same (s1.trans s2)⟩
theorem JY {o:Expr}{fo:Ab->M D}{m:Str}{k:Nat}{apos:Pos}{pl:Sem Bool}(ms:List (Str×(List D->M OT))) (xo:XCall X E) (pk:∀ p∈ms,∃ k',k'<=k/\II X.prog X.w X.K X.mg X.base p.1 m k' 1 p.2) (hr:BI k X.A) (ho:DE X (D2 X.K E) true o fo)
 (ht:eval (.Call (.Attribute o m apos) [] [] pos) X.env=(do
  let ov <-eval o X.env
  standAt apos.atName
  let (f,first) <-holding [ov] (getMethod ov m pl)
  callWith pos f first (backTo pos (starEach [] X.env)) (backToKw pos (keywordEach [] X.env))):=by rfl) :
 DN X (D2 X.K E) (.Call (.Attribute o m apos) [] [] pos) (fun ρ=>(fo ρ).bind fun d=>(IJ ms m d).bind fun F=>F [d]):=by
 obtain⟨ta,a1,a2⟩:=ho
 refine⟨_,Wc (pl:=pl) a1 hr xo.call ht,fun P0 P σ H Q ρ Ev h=>?_⟩
 dsimp only at h
 refine a2 P0 P σ H _ ρ Ev ?_
 cases q:fo ρ with
 |bad=>rw[q] at h;exact h
 |ex x=>rw[q] at h;exact h
 |ok d =>
  rw[q] at h
  simp only[M.A7] at h
  intro v H1 s1 hv
  cases q2:IJ ms m d with
  |bad=>rw[q2] at h;exact h.elim
  |ex y=>exact (OO q2).elim
  |ok F =>
   rw[q2] at h
   simp only[M.A7] at h
   obtain⟨x,ns,wn,rfl,be,pq⟩:=Ry q2
   obtain⟨k',fj,M0⟩:=pk _ be
   obtain⟨C,fa,fd,ps,h1,h2,h3,h4,h5⟩:=M0.ex
   cases hv with
   |ins hn hH hl =>
    rw[hn] at h1
    cases h1
    refine⟨_,_,_,_,fa,fd,ps,1,F,rfl,(Al hH).2,N4 hl pq,h2,h3,UW fj h4,h5,?_⟩
    exact⟨rfl,P,_,(Ev.same s1).Cn,.cons (BH.ins hn hH hl) .nil,h.same s1⟩
end
end L2
namespace L2
open PySem PySem.Spec PyProof.Rows
section
variable {X:Cx}{E:XK}{WX:Str->Hp->Prop}{c:Bool}{P0:Ew}{P:Addr->Prop}{H:Hp}{σ:St}{ρ:Ab}{a b e:Expr}{es:List Expr}{f g:Ab->M D}{fs:Ab->M (List D)}{fn:Ab->M OT}{pos:Pos}{te:TE}
structure lB (K:za) (mg:Str->Option Value) (x:Str) (C:Addr):Prop where
 ns:zD K mainGlobals x=some (some (.ref C))
 uN:mg x=some (.ref C)
theorem OP {p dx C:Addr}(hp:H p=none) (hd:H dx=none):Ad H (upd (upd H dx (.own p)) p (.ins C dx [])):=fun b u q=>by
 rw[Ah (Ay q hp),Ah (Ay q hd)]
 exact q
structure pI (P:Program) (w:World) (K:za) (mg:Str->Option Value) (base:Heap) (x:Str) (k n:Nat) (F:OT->List D->M (OT×OT)):Prop where
 ex:∃ C fa fd ps,lB K mg x C/\Mk K C fa/\Dv P w K mg base (SO P w base) k fa fd ps (OF K n F)/\Binds K fd ps []
def OQ (m:M (OT×OT)):M OT:=match m with
 | .ok (t,.sh .Az)=>.ok t
 |_=>.bad
theorem eS {x:Str}{k n:Nat}{F:OT->List D->M (OT×OT)}{p:Pos}(xo:XCall X E) (G:pI X.prog X.w X.K X.mg X.base x k n F) (hr:BI (k + 1) X.A) (hg:Gl X x) (ha:DA X (D2 X.K E) true (e::es) fs) (cC:(e::es).length + 1=n)
 (aU:(x == ("__debug__" : Str))=false:=by decide) (he:starEach (e::es) X.env=(false,eval e X.env)::starEach es X.env:=by rfl) (a6:(backTo pos (starEach es X.env)).any (·.1)=false:=by rfl) :
 DN X (D2 X.K E) (.Call (.Name x p) (e::es) [] pos) (fun ρ=>(fs ρ).bind fun ds=>OQ (F (.ins x [] []) ds)):=by
 obtain⟨C,fa,fd,ps,hT,hM,hF,hb⟩:=G.ex
 obtain⟨ta,a1,a2,a3⟩:=ha
 refine⟨_,U0 hM hF hr hg hT.uN hb .nil xo.call a1 aU he a6,fun P0 P σ H Q ρ Ev h=>?_⟩
 dsimp only at h
 refine a2 P0 P σ H _ ρ Ev ?_
 cases q:fs ρ with
 |bad=>rw[q] at h;exact h
 |ex x=>rw[q] at h;exact h
 |ok ds =>
  rw[q] at h
  simp only[M.A7] at h
  intro vs H1 s1 aI y dx hy hd af
  rw[yq]
  have E1:=Ev.same s1
  have sm:=OP (C:=C) hy hd
  have bY:∀ a∈[y],H1 a=none:=fun a ha=>by rw[zg.mp ha];exact hy
  refine⟨by rw[zk,aI.length,a3 ρ ds q];exact cC,PU P [y],y,.ins x [] [],[y],vs,ds,rfl,fun a ha=>?_,fun a ha=>.inr ha,by simp,C1.ins (fs:=[]) hT.ns Ar .nil,aI.mono (Dd sm bY),?_⟩
  ·rcases ha with ha|ha
   ·exact (E1.Cn a ha).same sm
   ·rw[zg.mp ha]
    exact⟨_,Ar,fun xs=>⟨(fun z=>by cases z),(fun z w=>by cases w)⟩⟩
  ·cases q2:F (.ins x [] []) ds with
   |bad=>rw[q2] at h;exact h
   |ex z=>rw[q2] at h;exact h
   |ok tr =>
    obtain⟨t,r⟩:=tr
    rw[q2] at h
    simp only[OQ] at h
    intro v H' P' ai fr k1 k2 k3 k4 k5 k6 k7 k8 k9 o9
    cases r with
    |sh d =>
     cases d with
     |Az =>
      cases k6 with
      |sh hv =>
       cases hv
       refine⟨rfl,h _ ai H' ?_ ?_ k5 ?_⟩
       ·intro b u eb
        have e1:=s1 b u eb
        have ca:b≠y:=fun z=>by rw[z,hy] at e1;cases e1
        have e2:=sm b u e1
        by_cases hP:P b
        ·exact (k1 b (.inl hP) (by simp[ca])).2.trans e2
        ·exact (Al (k3 b u (by rw[Aw fun z=>z.elim hP fun w=>ca (zg.mp w)];exact e2))).2
       ·intro b ju
        cases eb:H b with
        |none=>rfl
        |some u =>
         exfalso
         have e1:=s1 b u eb
         have ca:b≠y:=fun z=>by rw[z,hy] at e1;cases e1
         have e2:=sm b u e1
         have hn:=fun z=>ca (zg.mp ((k9 b ju).2 z))
         exact (Al (k3 b u (by rw[Aw hn];exact e2))).1 (k9 b ju).1
       ·refine k4.move (fun b u eb=>?_) fun _ _=>rfl
        obtain⟨g1,g2⟩:=Al eb
        rw[Aw]
        ·exact g2
        ·rintro (z|z)
         ·have ca:b≠y:=fun w=>by
           obtain⟨o,e1,_⟩:=E1.Cn b z
           rw[w,hy] at e1
           cases e1
          exact g1 (k1 b (.inl z) (by simp[ca])).1
         ·exact g1 (k9 b z).1
     |_=>exact h.elim
    |_=>exact h.elim
end
end L2
namespace L2
open PySem PySem.Spec PyProof.Rows
def OR (i:Nat) (ρ:Ab) (π:List Nat):M (Str×List Str×List D):=match Uy i ρ π with
 |some (.ins x ns ts)=>(match Ec ts with|some vs=>.ok (x,ns,vs)|none=>.bad)
 |_=>.bad
theorem Yj {i:Nat}{ρ:Ab}{π:List Nat}{x:Str}(h:OR i ρ π=.ex x):False:=by
 unfold OR at h
 split at h
 ·split at h<;>cases h
 ·cases h
def Yk (f:Str):List Str->List Str
 |[]=>[f]
 |g::r=>if g=f then g::r else g::Yk f r
def Yl (f:Str) (d:D):List Str->List D->List D
 |[],_=>[d]
 |g::r,e::t=>if g=f then d::t else e::Yl f d r t
 |_::_,[]=>[]
theorem Rz (f:Str) (v:V):∀ fs:List (Str×V),(DV f v fs).map zI=Yk f (fs.map zI)
 |[]=>rfl
 |(g,x)::r=>by
  rw[zf,Yk,DV]
  split
  ·rfl
  ·rw[zf,Rz f v r]
theorem RB {K:za}{H:Hp}{f:Str}{v:V}{d:D}(hv:BH K H v d):∀ {fs:List (Str×V)}{ds:List D},Ag K H (fs.map yv) ds->Ag K H ((DV f v fs).map yv) (Yl f d (fs.map zI) ds)
 |[],_,.nil=>.cons hv .nil
 |(g,x)::r,_,.cons hx ht=>by
  rw[zf,Yl,DV]
  split
  ·exact .cons hv ht
  ·exact .cons hx (RB hv ht)
section
variable {X:Cx}{E:XK}{WX:Str->Hp->Prop}{c:Bool}{P0:Ew}{P:Addr->Prop}{H:Hp}{σ:St}{ρ:Ab}{a b e:Expr}{f g:Ab->M D}{fn:Ab->M OT}{fp:Ab->M (List Nat)}{pos:Pos}{i:Nat}{es:List Expr}{fs:Ab->M (List D)}
theorem Bj.ins {K:za}{π:List Nat}{v:V}{t1:OT}{x:Str}{ns:List Str}{vs:List D}(pl:Bj K P H σ ρ i π v t1) (E:An K P0 P H σ ρ) (h:OR i ρ π=.ok (x,ns,vs)) :
 t1=.ins x ns (vs.map .sh)/\∃ l C dx fs,v=.ref l/\Ag K (del H P) (fs.map yv) vs/\C1 K H P (.ref l) (.ins x ns (vs.map .sh)) [l]/\zD K mainGlobals x=some (some (.ref C))/\H l=some (.ins C dx fs)/\ns=fs.map zI:=by
 unfold OR at h
 rw[pl.at] at h
 split at h
 ·rename_i x' cK uq e
  split at h
  ·rename_i bf e'
   cases e
   cases h
   have z:=D4 e'
   subst z
   obtain⟨aA,o1,hp,nd⟩:=pl.own E
   generalize ht:OT.ins x ns (vs.map .sh)=t at o1
   cases o1 with
   |ins hn hh hr =>
    injection ht with h1 h2 h3
    subst h1 h2 h3
    obtain⟨rfl,hs⟩:=hr.kK
    exact⟨rfl,_,_,_,_,rfl,hs,.ins hn hh hr,hn,hh,rfl⟩
   |_=>cases ht
  ·cases h
 ·cases h
theorem M5 (cs:List Str){fl:Str}(pi:∀ x∈cs,I9 X.K x fl) (ha:DP X WX a i fp) (hv:DE X WX true e f){pos':Pos}(hs:swapsWith e (some (.Attribute a fl pos')) pos.line X.env=pure false:=by rfl) :
 DS X WX (.Assign [.Attribute a fl pos'] e pos) (fun ρ=>(f ρ).bind fun v=>(fp ρ).bind fun π=>(OR i ρ π).bind fun z=>if z.1∈cs/\z.2.1.length < 1000 then GG i ρ π (.ins z.1 (Yk fl z.2.1) ((Yl fl v z.2.1 z.2.2).map .sh)) else .bad):=by
 obtain⟨ta,a1,a2⟩:=ha
 obtain⟨tv,v1,v2⟩:=hv
 refine⟨_,iZ a1 v1 hs,fun P0 P σ H Z ρ E h=>?_⟩
 dsimp only at h
 refine v2 P0 P σ H _ ρ E ?_
 cases q0:f ρ with
 |bad=>rw[q0] at h;exact h
 |ex x=>rw[q0] at h;exact fun H' s=>h H' P (E.tr s)
 |ok d =>
  rw[q0] at h
  simp only[M.A7] at h
  intro w H0 s0 hw
  have E0:=E.same s0
  refine a2 P0 P σ H0 _ ρ E0 ?_
  cases q:fp ρ with
  |bad=>rw[q] at h;exact h
  |ex x=>rw[q] at h;exact fun H' s=>h H' P ((E.tr s0).trans (E0.tr s))
  |ok π =>
   rw[q] at h
   simp only[M.A7] at h
   intro v t1 H1 s1 pl
   have E1:=E0.same s1
   have wo:=(E.tr s0).trans (E0.tr s1)
   cases q3:OR i ρ π with
   |bad=>rw[q3] at h;exact h.elim
   |ex x=>exact (Yj q3).elim
   |ok z =>
    obtain⟨x,ns,vs⟩:=z
    rw[q3] at h
    simp only[M.A7] at h
    by_cases hc:x∈cs/\ns.length < 1000
    ·rw[if_pos hc] at h
     obtain⟨rfl,l,C,dx,fs,rfl,bZ,ot,hn,hH,rfl⟩:=pl.ins E1 q3
     obtain⟨C',bU,b6,d4⟩:=(pi x hc.1).ex
     rw[hn] at bU
     cases bU
     have wp:=hw.mono s1.del
     obtain⟨c,p,t0,g1,g2,E3,t3⟩:=E1.kR (o':=.ins C dx (DV fl w fs)) (u:=.ins x (Yk fl (fs.map zI)) ((Yl fl d (fs.map zI) vs).map .sh)) pl ot (fun _=>⟨fun z=>(by cases z),fun _ z=>by cases z⟩) (fun mv=>by
      have:=C1.ins (K:=X.K) (H:=upd H1 l (.ins C dx (DV fl w fs))) (P:=P) (p:=l) (fs:=DV fl w fs) (x:=x) hn Ar (((RB wp bZ).mono mv).ows)
      rw[Rz] at this
      exact this)
     rw[Hu g1 g2] at h
     exact⟨l,C,dx,fs,rfl,hH,b6,d4,by have:=hc.2;rw[zc] at this;exact this,h _ _ _ (wo.trans t3) E3⟩
    ·rw[if_neg hc] at h;exact h.elim
end
end L2
namespace L2
open PySem PySem.Spec PyProof.Rows
theorem BX {K:za}{f:Str}:∀ y∈([]:List Str),I9 K y f:=fun y h=>by cases h
theorem Bp {K:za}{f x:Str}{xs:List Str}(h:I9 K x f) (t:∀ y∈xs,I9 K y f):∀ y∈x::xs,I9 K y f:=fun y hy=>by
 rcases zo.mp hy with rfl|hy
 ·exact h
 ·exact t y hy
theorem FA {P:Program}{w:World}{K:za}{mg:Str->Option Value}{base:Heap}{m:Str}{k n:Nat}:∀ p∈([]:List (Str×(List D->M OT))),∃ k',k'<=k/\II P w K mg base p.1 m k' n p.2:=fun p h=>by cases h
theorem Ef {P:Program}{w:World}{K:za}{mg:Str->Option Value}{base:Heap}{m x:Str}{k k' n:Nat}{F:List D->M OT}{ms:List (Str×(List D->M OT))}(hk:k'<=k) (h:II P w K mg base x m k' n F) (t:∀ p∈ms,∃ k',k'<=k/\II P w K mg base p.1 m k' n p.2) :
 ∀ p∈(x,F)::ms,∃ k',k'<=k/\II P w K mg base p.1 m k' n p.2:=fun p hp=>by
 rcases zo.mp hp with rfl|hp
 ·exact⟨k',hk,h⟩
 ·exact t p hp
end L2
set_option maxRecDepth 1000000
set_option maxHeartbeats 0
namespace L2
open PySem
theorem OS:entryFor table "dict.update.loop" = some Builtin.«dict.update.loop»:=by unfold entryFor;rfl
end L2
namespace L2
open PySem PySem.Spec PySem.Calls PyProof.Rows PySem.W PySem.Builtin PySem.Builtin.ObjectAttr
section
variable {prog:Program}{w:World}{A:Around}{E:Value->Shared->Prop}{s:Shared}
theorem call_meets {T id:String}{nm:Str}{B:Builtin}{self:Value}{rest:List Value}{Sp:PySem.Spec}{Q:Value->Shared->Prop}(SL:Slot T nm id) (hB:entryFor table id=some B) (ht:s.TypeIs self T) (ha:argsOk id ⟨self::rest,[]⟩) (m:Meets (B ⟨self::rest,[]⟩) Sp)
 (h:Sp A (fun r s'=>match r with | .ok (.ret v)=>Q v s' | .ok _=>False | .error e=>E e s') s):wpAny (model prog w) A (call (.builtin id) (self::rest)) Q E s :=
 wpAny_call (codeAny_call_builtin SL.plain hB (SL.check _ _ _ _ _ _ _ _ ht ha (m prog w A _ s h)))
theorem RC {l:Addr}{xs:Array Value}{k:Nat}{sl:Array (Option Value)}{Q:Option Value->Shared->Prop}(hh:A.handled=none) (hl:s.heap.get? l=some { cls:=.type "list",data:=.seq xs k,slots:=sl })
 (h:∀ h' tk,(∀ b o,s.heap.get? b=some o->h'.get? b=some o)->Q none { s with heap:=h',toks:=tk }):wpAny (model prog w) A (getAttr? (.ref l) "keys") Q E s:=by
 have miss:typeLookup (.type "list") "keys" = pure none:=am_miss_of_fast (by decide +kernel)
 have T0:∀ hp:Heap,hp.get? l=some { cls:=.type "list",data:=.seq xs k,slots:=sl }->Looks (model prog w) hp (typeOf (.ref l)) (.type "list"):=fun hp e=>(Looks.ld e).andThen .now
 have SL:=PySem.F.slot_list_getattribute
 have ax:(onTheHeap (Value.type "list") && Value.builtin "list.__getattribute__" == Value.builtin "object.__getattribute__")=false:=rfl
 have pw:(false && onTheHeap (Value.builtin "list.__getattribute__"))=false:=rfl
 unfold getAttr? getAttrBy?
 refine wpAny_bind (wpAny_mkText (wpAny_bind (wpAny_attempt ?_)))
 unfold getAttrBy
 refine wpAny_holding (wpAny_bind ((T0 _ hl).at (wpAny_bind ?_)))
 rw[SL.lookup]
 refine wpAny_pure ?_
 dsimp only
 rw[ax,if_neg zK]
 unfold getAttrByItsOwn hookBefore
 rw[if_neg (show ¬ onTheHeap (Value.type "list")=true from zK)]
 refine wpAny_bind (wpAny_pure (wpAny_bind (wpAny_attempt (wpAny_holding ?_))))
 unfold callGetattribute
 rw[pw,if_neg zK]
 unfold boundAndCalled
 rw[SL.bind]
 refine wpAny_bind (wpAny_pure ?_)
 dsimp only
 refine call_meets SL am_entry_list_getattribute ⟨_,hl,rfl⟩ (PySem.F.args_list_getattribute_2 _ _) (meets_getattribute_miss_list l xs k sl "keys" s.toks miss rfl (by decide)) ⟨hl,hh,fun h' tk e ne=>?_⟩
 dsimp only
 obtain⟨kp,nw,t,u,he⟩:=ne
 have T1:Looks (model prog w) h' (typeOf (.ref e)) (.type "AttributeError"):=(Looks.ld he).andThen .now
 unfold getattributeRaised isInstance
 refine wpAny_bind (wpAny_bind (T1.at ?_))
 rw[sub_AttributeError]
 refine wpAny_pure ?_
 rw[if_pos rfl]
 unfold hookBehind
 rw[if_neg (show ¬ onTheHeap (Value.type "list")=true from zK),am_list_getattr_none]
 refine wpAny_bind (wpAny_pure ?_)
 unfold hookOrError attributeErrorLeaves
 dsimp only
 rw[if_pos (show (!false)=true from rfl)]
 refine wpAny_bind (wpAny_throw ?_)
 refine wpAny_bind (wpAny_bind (T1.at ?_))
 rw[sub_AttributeError]
 refine wpAny_pure ?_
 rw[if_pos rfl]
 exact wpAny_pure (h h' tk kp)
theorem Wd {t:Addr}{aa:Array Value}{Q:List Value->Shared->Prop}(ht:IsTup s.heap t aa) (h:Q aa.toList s):wpAny (model prog w) A (Dict.pairItems (.ref t)) Q E s:=by
 obtain⟨o,h1,h2,n,h3⟩:=ht
 have T0:Looks (model prog w) s.heap (typeOf (.ref t)) (.type "tuple"):=h2▸(Looks.ld h1).andThen .now
 unfold Dict.pairItems
 refine wpAny_bind (T0.at ?_)
 have hx:(Value.type "tuple" == Value.type "list" || Value.type "tuple" == Value.type "tuple")=true:=by decide
 rw[if_pos hx]
 exact wpAny_bind (wpAny_seqItems h1 h3 (wpAny_pure h))
theorem HL:plainId "dict.update.loop" = true:=by decide +kernel
theorem N5 {K:Type} [DecidableEq K] {knd:KeyKind prog w K}{h h':Heap}{d I l:Addr}{i:Nat}{xs:List (List K×Addr×Value)}(hd:h.DictOfH (tupleKind knd) d xs) (hit:h.IsListIter I l i) (sb:∀ b o,b≠I->h.get? b=some o->h'.get? b=some o) :
 h'.DictOfH (tupleKind knd) d xs:=by
 obtain⟨o,es,ep,h1,h2,h3,h4,h5,h6⟩:=hd
 obtain⟨oi,i1,i2,i3⟩:=hit
 refine⟨o,es,ep,sb d o (fun z=>?_) h1,h2,h3,h4,fun x hx=>?_,h6⟩
 ·subst z
  rw[i1] at h1
  cases h1
  rw[i3] at h3
  cases h3
 ·obtain⟨ok,aa,n,k1,k2,k3,k4⟩:=h5 x hx
  refine⟨ok,aa,n,sb _ _ (fun z=>?_) k1,k2,k3,k4⟩
  rw[z,i1] at k1
  cases k1
  rw[i3] at k3
  cases k3
theorem Ti {K:Type} [DecidableEq K] {knd:KeyKind prog w K}{R:Result->Shared->Prop}{d I l:Addr}{items:Array Value}{h0:Heap}(ps:List (List K×Addr×Value)) (hh:A.handled=none) (d0:A.in1.units < cLine) (ia:l≠I) (wq:d≠I) (uw:l≠d)
 (ux:ps.length=items.size) (hsz:items.size + 1<=sizeLine) (hl:h0.IsList l items)
 (hp:∀(j:Nat) p,ps[j]? =some p->(p.2.1≠d/\p.2.1≠I/\(tupleKind knd).is h0 p.1 p.2.1)/\∃ t,items[j]? =some (.ref t)/\t≠d/\t≠I/\IsTup h0 t #[.ref p.2.1,p.2.2]) :
 ∀(m i:Nat) (xs:List (List K×Addr×Value)) (s:Shared),items.size - i=m->i<=items.size->xs.length<=i->s.heap.IsListIter I l i->s.heap.DictOfH (tupleKind knd) d xs->(∀ b o,b≠d->b≠I->h0.get? b=some o->s.heap.get? b=some o)->
  (∀ h' tk,h'.DictOfH (tupleKind knd) d ((ps.drop i).foldl (fun acc p=>storedH acc p.1 p.2.1 p.2.2) xs)->(∀ b o,b≠d->b≠I->h0.get? b=some o->h'.get? b=some o)->R (.ok (.ret .none)) { s with heap:=h',toks:=tk })->
  codeAny (model prog w) A (.builtin "dict.update.loop" ⟨[.ref d,.ref I,rawInt i,.none],[]⟩) R s:=by
 intro m
 induction m with
 |zero =>
  intro i xs s hm hi wr hit hd hf h
  have bI:i=items.size:=by omega
  refine codeAny_builtin OS ?_
  rw[yK HL _]
  show wpAny _ A.in1 (pyNext (.ref I) >>= _) _ _ s
  refine wpAny_bind (wpAny_pyNext_list_end (A:=A.in1) hh hit (hl.at fun o e=>hf l o uw ia e) (by simp[bI]) fun h' eb=>?_)
  have hd2:=N5 hd hit fun b o hb e=>eb b o hb e
  show wpAny _ A.in1 (Dict.addKeywords d [] >>= _) _ _ _
  unfold Dict.addKeywords
  refine wpAny_bind (wpAny_bind ?_)
  refine wpAny_pure (wpAny_pure (wpAny_pure ?_))
  have ed:ps.drop i=[]:=by rw[List.drop_eq_nil_iff];omega
  rw[ed] at h
  exact h h' s.toks hd2 fun b o h1 h2 e=>eb b o h2 (hf b o h1 h2 e)
 |succ m ih =>
  intro i xs s hm hi wr hit hd hf h
  have aj:i < items.size:=by omega
  obtain⟨p,pz⟩:∃ p,ps[i]? =some p:=⟨ps[i]'(by omega),zq _⟩
  obtain⟨⟨p1,p2,p3⟩,t,ht,t1,t2,t3⟩:=hp i p pz
  refine codeAny_builtin OS ?_
  rw[yK HL _]
  show wpAny _ A.in1 (pyNext (.ref I) >>= _) _ _ s
  refine wpAny_bind (wpAny_pyNext_list_item (A:=A.in1) hit (hl.at fun o e=>hf l o uw ia e) ht fun h' bn sb=>?_)
  have hd2:h'.DictOfH (tupleKind knd) d xs:=N5 hd hit fun b o hb e=>(sb.2 b hb).trans e
  have qd:∀ b o,b≠d->b≠I->h0.get? b=some o->h'.get? b=some o:=fun b o h1 h2 e=>(sb.2 b h2).trans (hf b o h1 h2 e)
  have t4:IsTup h' t #[.ref p.2.1,p.2.2]:=by
   obtain⟨o,e1,e2⟩:=t3
   exact⟨o,qd t o t1 t2 e1,e2⟩
  have p4:(tupleKind knd).is h' p.1 p.2.1:=by
   obtain⟨o,aa,n,e1,e2⟩:=p3
   exact⟨o,aa,n,qd _ o p1 p2 e1,e2⟩
  dsimp only
  refine wpAny_bind (wpAny_holding (wpAny_bind (wpAny_tryCatch (Wd t4 ?_))))
  show wpAny _ A.in1 (holding [.ref p.2.1,p.2.2] (dictSet d (.ref p.2.1) p.2.2)) _ _ _
  refine wpAny_holding (wpAny_dictSet_heap (knd:=tupleKind knd) (hsz:=by omega) d0 p4 hd2 fun h3 qe uz=>?_)
  refine wpAny_pure ⟨plainId_quiet HL _,?_⟩
  have qg:h3.IsListIter I l (i + 1):=by
   obtain⟨o,e1,e2⟩:=bn
   exact⟨o,(uz.2 I (zU wq)).trans e1,e2⟩
  have ed:ps.drop i=p::ps.drop (i + 1):=by
   rw[List.drop_eq_getElem_cons (by omega:i < ps.length)]
   rw[zq (by omega:i < ps.length)] at pz
   rw[zM pz]
  rw[ed,zS] at h
  have ph:(storedH xs p.1 p.2.1 p.2.2).length<=i + 1:=by
   unfold storedH
   split
   ·rw[zc];omega
   ·rw[zJ,y8];omega
  have q:=ih (i + 1) (storedH xs p.1 p.2.1 p.2.2) { s with heap:=h3,toks:=s.toks + (tupleKind knd).draws p.1 } (by omega) (by omega) ph qg qe (fun b o h1 h2 e=>(uz.2 b h1).trans (qd b o h1 h2 e)) h
  exact q
theorem Lr {K:Type} [DecidableEq K] {knd:KeyKind prog w K}{Q:Value->Shared->Prop}{l:Addr}{items:Array Value}{n:Nat}{sl:Array (Option Value)}(ps:List (List K×Addr×Value)) (hh:A.handled=none) (d0:A.units + 2 < cLine)
 (ux:ps.length=items.size) (hsz:items.size + 1<=sizeLine) (hl:s.heap.get? l=some { cls:=.type "list",data:=.seq items n,slots:=sl })
 (hp:∀(j:Nat) p,ps[j]? =some p->(tupleKind knd).is s.heap p.1 p.2.1/\∃ t,items[j]? =some (.ref t)/\IsTup s.heap t #[.ref p.2.1,p.2.2])
 (h:∀ h' tk,h'.DictOfH (tupleKind knd) s.heap.objs.size (ps.foldl (fun acc p=>storedH acc p.1 p.2.1 p.2.2) [])->(∀ b o,s.heap.get? b=some o->h'.get? b=some o)->Q (.ref s.heap.objs.size) { s with heap:=h',toks:=tk }) :
 wpAny (model prog w) A (call (.type "dict") [.ref l]) Q E s:=by
 refine callType_codes (Q₁:=fun obj s₁=>obj=.ref s.heap.objs.size/\s₁={ s with heap:=s.heap.push { cls:=.type "dict",data:=.dict #[] } }) PySem.F.kt_called_dict (PySem.F.kt_typeCall_dict_1 _) PySem.F.entry_dict_init
  (kt_code_dict_new _ ⟨rfl,rfl⟩) fun obj s₁ h₁=>?_
 obtain⟨rfl,rfl⟩:=h₁
 have hS:(s.heap.push { cls:=.type "dict",data:=.dict #[] }).get? s.heap.objs.size=some { cls:=.type "dict",data:=.dict #[] }:=zG _ rfl
 have ll:l < s.heap.objs.size:=zu hl
 have jv:(s.heap.push { cls:=.type "dict",data:=.dict #[] }).get? l=some { cls:=.type "list",data:=.seq items n,slots:=sl }:=zp _ hl
 refine⟨⟨_,hS,rfl⟩,PySem.F.args_dict_init_2 _ _,?_⟩
 have TD:Looks (model prog w) (s.heap.push { cls:=.type "dict",data:=.dict #[] }) (typeOf (.ref s.heap.objs.size)) (.type "dict"):=(Looks.ld hS).andThen .now
 have TL:Looks (model prog w) (s.heap.push { cls:=.type "dict",data:=.dict #[] }) (typeOf (.ref l)) (.type "list"):=(Looks.ld jv).andThen .now
 unfold Builtin.«dict.__init__» Dict.selfAndRest Dict.notOrdered
 dsimp only
 rw[if_pos (by decide)]
 refine wpAny_bind (wpAny_bind (wpAny_bind (TD.at ?_)))
 rw[if_neg (by decide)]
 refine wpAny_pure ?_
 unfold Dict.addrOf
 refine wpAny_bind (wpAny_pure (wpAny_pure ?_))
 unfold Dict.updateCommon Dict.updateFrom
 dsimp only
 refine wpAny_bind (TL.at ?_)
 rw[if_pos (by decide)]
 refine wpAny_bind (RC (A:=A.in1.in1) hh jv fun h2 xY qh=>?_)
 rw[if_pos (show (none:Option Value).isNone=true from rfl)]
 refine wpAny_bind (wpAny_rule ?_)
 have aZ:h2.IsList l items:=⟨_,qh _ _ jv,rfl,n,rfl⟩
 have u3:=qh _ _ hS
 refine wpAny_bind (wpAny_pyIter_list aZ ?_)
 refine wpAny_pure ⟨plainId_quiet HL _,?_⟩
 have lz:s.heap.objs.size < h2.objs.size:=zu u3
 have wt:∀ b o,s.heap.get? b=some o->(h2.push { cls:=.type "list_iterator",data:=.fields #[.ref l,.int 0 0] }).get? b=some o:=fun b o e=>zp _ (qh _ _ (zp _ e))
 have qe:(h2.push { cls:=.type "list_iterator",data:=.fields #[.ref l,.int 0 0] }).DictOfH (tupleKind knd) s.heap.objs.size [] :=
  ⟨_,#[],0,zp _ u3,⟨rfl,rfl,rfl⟩,rfl,rfl,fun x hx=>absurd hx List.not_mem_nil,y4⟩
 have aj:∀ b o,s.heap.get? b=some o->b≠s.heap.objs.size/\b≠h2.objs.size:=fun b o e=>by
  have:=zu e
  exact⟨zC this,zC (Nat.lt_trans this lz)⟩
 refine Ti (A:=A.in1) (knd:=knd) (l:=l) (h0:=s.heap) ps hh d0 (zC (Nat.lt_trans ll lz)) (zC lz) (zC ll) ux hsz ⟨_,hl,rfl,n,rfl⟩ (fun j p hj=>?_) items.size 0 [] _ (by omega) (by omega) (by simp) ⟨_,zG _ rfl,rfl,rfl⟩ qe (fun b o h1 ib e=>wt b o e) fun h' tk bM wu=>?_
 ·obtain⟨q1,t,q2,q3⟩:=hp j p hj
  obtain⟨o1,_,_,e1,_⟩:=id q1
  obtain⟨o2,e2,_⟩:=id q3
  exact⟨⟨(aj _ _ e1).1,(aj _ _ e1).2,q1⟩,t,q2,(aj _ _ e2).1,(aj _ _ e2).2,q3⟩
 ·exact⟨rfl,h h' tk bM fun b o e=>wu b o (aj _ _ e).1 (aj _ _ e).2 e⟩
end
structure We where
 (t:Addr) (κ:List Key) (b:Addr) (v:V)
def eT (H:Hp) (p:We):Prop:=H p.t=some (.tup [.ref p.b,p.v])/\H p.b=some (.tup (p.κ.map kV))
def qI (ps:List We):List (List Key×V):=ps.foldl (fun acc p=>putK acc p.κ p.v) []
def wB (X:Cx) (te:TE):TE:=fun σ H Q=>te σ H fun x H1=>∃(l:Addr) (ps:List We),x=.ref l/\Dt X.K H1 l (ps.map fun p=>V.ref p.t)/\(∀ p∈ps,eT H1 p)/\ps.length<=1000/\∀ r,H1 r=none->Q (.ref r) (upd H1 r (.dT (qI ps)))
theorem RD:∀ {ps:List We}{us:List Value},Vals (ps.map fun p=>V.ref p.t) us->us=ps.map fun p=>zZ p.t
 |[],_,.nil=>rfl
 |p::ps,_,.cons h t=>by
  cases h
  rw[zf,<-RD t]
theorem gL {H:Hp}:∀ {ps:List We}{qs:List (List Key×Addr×Value)}{kvs:List (List Key×V)}{xs:List (List Key×Addr×Value)},(∀ p∈ps,eT H p)->Paired (fun (p:We) (q:List Key×Addr×Value)=>p.κ=q.1/\p.b=q.2.1/\RelV p.v q.2.2) ps qs->KT H kvs xs->KT H (ps.foldl (fun acc p=>putK acc p.κ p.v) kvs) (qs.foldl (fun acc p=>storedH acc p.1 p.2.1 p.2.2) xs)
 |[],_,_,_,_,.nil,h=>h
 |p::ps,_,_,_,ho,.cons (b:=q) hq t,h=>by
  obtain⟨q1,q2,q3⟩:=q
  obtain⟨e1,e2,e3⟩:=hq
  dsimp only at e1 e2 e3
  subst e1 e2
  have r:=gL (ps:=ps) (fun p' hp=>ho p' (ze _ hp)) t (h.put p.κ (ho p zd).2 e3)
  exact r
theorem Ym:∀(ps:List We) (kvs:List (List Key×V)),(ps.foldl (fun acc p=>putK acc p.κ p.v) kvs).length<=kvs.length + ps.length
 |[],kvs=>zx _
 |p::ps,kvs=>by
  have h1:=Ym ps (putK kvs p.κ p.v)
  have h2:=EA kvs p.κ p.v
  rw[zS,zk]
  omega
theorem UX {h:Heap}{H:Hp}{P:Program}{w:World}(ok:Fm P w H h):∀ {ps:List We},(∀ p∈ps,eT H p)->∃ qs:List (List Key×Addr×Value),Paired (fun (p:We) (q:List Key×Addr×Value)=>p.κ=q.1/\p.b=q.2.1/\RelV p.v q.2.2) ps qs /\
 ∀(j:Nat) q,qs[j]? =some q->(tupleKind (B4 P w)).is h q.1 q.2.1/\∃ t,(ps.map fun p=>zZ p.t)[j]? =some (.ref t)/\IsTup h t #[.ref q.2.1,q.2.2]
 |[],_=>⟨[],.nil,fun j q e=>by simp at e⟩
 |p::ps,ho=>by
  obtain⟨qs,h1,h2⟩:=UX ok fun p hp=>ho p (ze _ hp)
  obtain⟨o1,o2⟩:=ho p zd
  obtain⟨_,aa,r,it⟩:=(show BB P w H h p.t (.tup [.ref p.b,p.v]) from ok p.t _ o1)
  obtain⟨u,v,rfl,ru,rv⟩:=r.two
  cases ru
  refine⟨(p.κ,p.b,v)::qs,.cons ⟨rfl,rfl,rv⟩ h1,fun j q e=>?_⟩
  cases j with
  |zero =>
   rw[yR] at e
   cases e
   exact⟨Il ok o2,p.t,by simp,it⟩
  |succ j =>
   rw[zT] at e
   obtain⟨a1,t,a2,a3⟩:=h2 j q e
   exact⟨a1,t,by simpa using a2,a3⟩
section
variable {X:Cx}{WX:Str->Hp->Prop}{c:Bool}{P0:Ew}{P:Addr->Prop}{H:Hp}{σ:St}{ρ:Ab}{a b e:Expr}{f g:Ab->M D}{fn:Ab->M OT}{pos:Pos}{te:TE}
theorem Yn {p:Pos}{n:Nat}(hc:X.calm=true) (hu:X.A.units + n < cLine) (hg:Gl X "dict") (hm:X.mg "dict" = none) (he:PE X e te)
 (hv:bootBuiltins "dict" = some (.type "dict"):=by decide +kernel)
 (hs:starEach [e] X.env=[(false,eval e X.env)]:=by rfl) (hn:2<=n:=by decide) :
 PE X (.Call (.Name "dict" p) [e] [] pos) (wB X te):=by
 intro pins s σ H Q I h
 refine wpAny_Call_Name_kw (DU I hg hm hv ?_)
 refine yp ?_ hs
 rw[hs]
 refine yT (Bb (he pins s σ H _ I h) fun u s1 ⟨x,H1,I1,r1,q1⟩=>?_)
 obtain⟨l,ps,rfl,hq,ho,hlen,q⟩:=q1
 cases r1
 refine Calls.spliced_nil ?_
 obtain⟨aa,r',pl,hz⟩:=I1.list hq
 have hits:=RD r'
 subst hits
 obtain⟨⟨wv,u4,u5,qi⟩,n0,o1,o2,o3,o4⟩:=pl
 dsimp only at o2 o3 o4
 subst o2 o3 o4
 obtain⟨qs,h1,h2⟩:=UX I1.Au ho
 refine Lr (knd:=B4 X.prog X.w) qs (I1.ok.hd hc) (by omega) (by rw[zh,zc,<-h1.length]) (AF (by rw[zh,zc];omega)) o1 (fun j p hj=>?_) fun h' tk hd kp=>?_
 ·obtain⟨a1,t,a2,a3⟩:=h2 j p hj
  exact⟨a1,t,by rw[List.getElem?_toArray];exact a2,a3⟩
 ·have ww:=gL ho h1 (show KT H1 [] [] from .nil)
  have js:s1.heap.objs.size<=s1.heap.objs.size:=zx _
  have d5:=I1.Au.fresh js
  have wx:=Ym ps []
  obtain⟨o,es,ep,g1,g2,g3,g4,g5,g6⟩:=hd
  refine⟨.ref _,_,I1.laid (t':=tk) (o:=.dT (qI ps)) kp js ⟨yj (AF (by unfold qI;simp at wx;omega)),beq_eq_false_iff_ne.mpr (zU (zC I1.big)),_,ww.keeps (fun b ys eb=>by rw[Ah (fun z=>by rw[z,d5] at eb;cases eb)];exact eb),o,es,ep,g1,g2,g3,g4,g6⟩,rfl,q _ d5⟩
def Wf:List D->Option (List (D×D))
 |[]=>some []
 | .tup [k,v]::r=>(Wf r).map ((k,v)::·)
 |_=>none
def qJ (l:List (D×D)):List D×List D:=l.foldl (fun z kv=>putD z.1 z.2 kv.1 kv.2) ([],[])
def eU (d:D):M OT:=match d with
 | .lst xs=>(match Wf xs with|some l=>if l.length<=1000/\(l.all fun kv=>keyOk true kv.1)=true then .ok (.Bg true (qJ l).1 ((qJ l).2.map .sh)) else .bad|none=>.bad)
 |_=>.bad
theorem UY {K:za}{H:Hp}{P:Addr->Prop}:∀ {xs:List V}{ds:List D}{l:List (D×D)},Ag K (del H P) xs ds->Wf ds=some l->(l.all fun kv=>keyOk true kv.1)=true->
 ∃ ps:List We,xs=ps.map (fun p=>V.ref p.t)/\(∀ p∈ps,eT H p)/\Paired (fun (p:We) (kv:D×D)=>kv.1=.tup (p.κ.map Dl)/\BH K (del H P) p.v kv.2) ps l
 |_,[],l,.nil,e,_=>by cases e;exact⟨[],rfl,fun p hp=>(by cases hp),.nil⟩
 |_,d::ds,l,.cons hd ht,e,hk=>by
  unfold Wf at e
  split at e
  ·rename_i bW;cases bW
  ·rename_i k v r bW
   cases bW
   obtain⟨l',e1,e2⟩:=Option.map_eq_some_iff.mp e
   subst e2
   rw[List.all_cons,zR] at hk
   obtain⟨ps,q1,q2,q3⟩:=UY ht e1 hk.2
   have hK:=Fd hk.1
   cases hK with
   |t κ =>
    cases hd with
    |tup h1 h2 =>
     obtain⟨x,y,rfl,hx,hy⟩:=h2.two
     cases hx with
     |tup g1 g2 =>
      rename_i tt bb du
      have ey:=Ag.keys κ g2
      subst ey
      refine⟨⟨tt,κ,bb,y⟩::ps,by rw[zf,q1],fun p hp=>?_,.cons ⟨rfl,hy⟩ q3⟩
      rcases zo.mp hp with rfl|hp
      ·exact⟨(Al h1).2,(Al g1).2⟩
      ·exact q2 p hp
  ·cases e
theorem Yo {K:za}{H:Hp}{P:Addr->Prop}:∀ {ps:List We}{l:List (D×D)}{kvs:List (List Key×V)}{vs:List D},Paired (fun (p:We) (kv:D×D)=>kv.1=.tup (p.κ.map Dl)/\BH K (del H P) p.v kv.2) ps l->Ag K (del H P) (kvs.map yv) vs->
 ∃ bf,l.foldl (fun z kv=>putD z.1 z.2 kv.1 kv.2) (kvs.map (fun kv=>D.tup (kv.1.map Dl)),vs)=((ps.foldl (fun acc p=>putK acc p.κ p.v) kvs).map (fun kv=>D.tup (kv.1.map Dl)),bf)/\Ag K (del H P) ((ps.foldl (fun acc p=>putK acc p.κ p.v) kvs).map yv) bf
 |[],_,kvs,vs,.nil,h=>⟨vs,rfl,h⟩
 |p::ps,_,kvs,vs,.cons (b:=kv) hq t,h=>by
  obtain⟨k,d⟩:=kv
  obtain⟨e1,e2⟩:=hq
  dsimp only at e1 e2
  subst e1
  have hf:∀ a b:List Key,Av (.tup (a.map Dl)) (.tup (b.map Dl))=decide (a=b):=fun a b=>by simp only[Av];exact LI a b
  have bc:∃ bf,(putD (kvs.map fun kv=>.tup (kv.1.map Dl)) vs (.tup (p.κ.map Dl)) d)=((putK kvs p.κ p.v).map (fun kv=>.tup (kv.1.map Dl)),bf)/\Ag K (del H P) ((putK kvs p.κ p.v).map yv) bf:=by
   unfold putD putK
   rw[MQ (fk:=fun κ:List Key=>D.tup (κ.map Dl)) hf]
   by_cases hh:(kvs.any fun kv=>decide (kv.1=p.κ))=true
   ·rw[if_pos hh,if_pos hh]
    refine⟨_,by rw[Jl (fk:=fun κ:List Key=>D.tup (κ.map Dl)) hf],?_⟩
    rw[<-Jk (fk:=fun κ:List Key=>D.tup (κ.map Dl)) hf]
    exact Jm e2 h
   ·rw[if_neg hh,if_neg hh]
    refine⟨_,by rw[zL];rfl,?_⟩
    rw[zL]
    exact h.snoc e2
  obtain⟨xZ,g1,g2⟩:=bc
  obtain⟨wy,g3,g4⟩:=Yo t g2
  refine⟨wy,?_,g4⟩
  rw[zS]
  dsimp only
  rw[g1]
  exact g3
theorem RE {p:Pos}{n:Nat}(hc:X.calm=true) (hu:X.A.units + n < cLine) (hg:Gl X "dict") (hm:X.mg "dict" = none) (he:DE X WX true e f)
 (hv:bootBuiltins "dict" = some (.type "dict"):=by decide +kernel)
 (hs:starEach [e] X.env=[(false,eval e X.env)]:=by rfl) (hn:2<=n:=by decide) :
 DN X WX (.Call (.Name "dict" p) [e] [] pos) (fun ρ=>(f ρ).bind eU):=by
 obtain⟨te,e1,e2⟩:=he
 refine⟨_,Yn hc hu hg hm e1 hv hs hn,fun P0 P σ H Q ρ E h=>?_⟩
 refine e2 P0 P σ H _ ρ E ?_
 dsimp only at h
 cases q:f ρ with
 |bad=>rw[q] at h;exact h
 |ex x=>rw[q] at h;exact h
 |ok d =>
  rw[q] at h
  simp only[M.A7] at h
  intro v H1 s1 hv
  unfold eU at h
  split at h
  ·rename_i xs
   split at h
   ·rename_i l eb
    split at h
    ·rename_i hl
     cases hv with
     |lst hs hh =>
      obtain⟨ps,q1,q2,q3⟩:=UY hh eb hl.2
      subst q1
      obtain⟨bf,g1,g2⟩:=Yo (kvs:=[]) q3 .nil
      refine⟨_,ps,rfl,hs.Bm,q2,by rw[q3.length];exact hl.1,fun r hr=>?_⟩
      have e3:qJ l=((qI ps).map (fun kv=>D.tup (kv.1.map Dl)),bf):=g1
      rw[e3] at h
      have bU:∀ a∈[r],H1 a=none:=fun a ha=>by rw[zg.mp ha];exact hr
      exact h _ [r] _ (s1.trans (AM hr _)) (fun a ha=>Fc s1 (bU a ha)) (by simp) (.dT Ar (g2.mono (Dd (AM hr _) bU)).ows)
    ·exact h.elim
   ·exact h.elim
  ·exact h.elim
end
end L2
namespace L2
open PySem PySem.Spec PyProof.Rows
section
variable {X:Cx}{WX:Str->Hp->Prop}{c:Bool}{P0:Ew}{P:Addr->Prop}{H:Hp}{σ:St}{ρ:Ab}{a b e:Expr}{f g:Ab->M D}{fn:Ab->M OT}{pos:Pos}{te:TE}
def Yp (x y:D):M D:=match x,y with
 | .tup xs,.tup ys=>(match CD xs,CD ys with|some ns,some ms=>.ok (.bl (HT.lexLt ns ms))|_,_=>.bad)
 |_,_=>.bad
theorem UZ:Ua X.K WX (nQ X.K) Yp:=by
 intro P H x y v w Q ht hx hy h
 unfold Yp at h
 split at h
 ·rename_i xs ys
  split at h
  ·rename_i ns ms e1 e2
   have:=DL e1
   subst this
   have:=DL e2
   subst this
   cases hx with
   |tup h1 h2 =>
    cases hy with
    |tup h3 h4 =>
     have:=E8 h2
     subst this
     have:=E8 h4
     subst this
     exact⟨_,_,ns,ms,rfl,rfl,Fn.of (Al h1).2,Fn.of (Al h3).2,h _ H (Ad.refl H) (.bl _)⟩
  ·exact h.elim
 ·exact h.elim
theorem sG {n:Nat}(hu:X.A.units + n < cLine) (ha:DE X WX c a f) (hb:DE X WX c b g):DE X WX c (.Compare a [.Lt] [b] pos) (fun ρ=>(f ρ).bind fun x=>(g ρ).bind fun y=>Yp x y):=Xh (X3 (by omega)) UZ ha hb (Ii _)
theorem lC {n:Nat}(hu:X.A.units + n < cLine) (ha:DE X WX c a f) (hb:DE X WX c b g):DT X WX (.Compare a [.Lt] [b] pos) (fun ρ=>((f ρ).bind fun x=>(g ρ).bind fun y=>Yp x y).bind Oq):=Fu (X3 (by omega)) UZ ha hb (Ii _)
theorem Yq (hk:DE X WX true a f) (hv:DE X WX true b g):DN X WX (.Dict [some a] [b] pos) (fun ρ=>(f ρ).bind fun k=>(g ρ).bind fun v=>if keyOk false k=true then .ok (.Bg false [k] [.sh v]) else .bad):=by
 obtain⟨tk,k1,k2⟩:=hk
 obtain⟨tv,v1,v2⟩:=hv
 refine⟨_,Zu (Xc k1 v1 Zt) rfl rfl (by simp) (by simp),fun P0 P σ H Q ρ E h p hp=>?_⟩
 dsimp only at h
 have hn:∀ a∈[p],H a=none:=fun a ha=>by rw[zg.mp ha];exact hp
 have s0:Ad H (upd H p (.dK [])):=AM hp _
 have E1:An X.K P0 (PU P [p]) (upd H p (.dK [])) σ ρ:=E.more s0 MM (fun a ha=>ha.elim (fun z=>(E.Cn a z).same s0) fun z=>by
  rw[zg.mp z]
  exact⟨_,Ar,fun _=>⟨fun z=>(by cases z),fun _ z=>by cases z⟩⟩) (Dd s0 hn)
 refine k2 P0 (PU P [p]) σ _ _ ρ E1 ?_
 cases q:f ρ with
 |bad=>rw[q] at h;exact h
 |ex x=>rw[q] at h;exact fun H' s=>h H' (s0.trans s)
 |ok k =>
  rw[q] at h
  simp only[M.A7] at h
  intro y H2 s2 hy
  have E2:=E1.same s2
  refine v2 P0 (PU P [p]) σ H2 _ ρ E2 ?_
  cases q2:g ρ with
  |bad=>rw[q2] at h;exact h
  |ex x=>rw[q2] at h;exact fun H' s=>h H' ((s0.trans s2).trans s)
  |ok d =>
   rw[q2] at h
   simp only[M.A7] at h
   intro w H3 s3 hw
   by_cases hc:keyOk false k=true
   ·rw[if_pos hc] at h
    have hK:=Fd hc
    cases hK with
    |k κ =>
     have ey:=hy.kM
     subst ey
     refine⟨s3 _ _ (s2 _ _ Ar),[(κ,w)],rfl,by simp,?_⟩
     have s4:Ad H (upd H3 p (.dK (Gs [] [(κ,w)]))):=fun a o ha=>by
      rw[Ah (fun z=>by rw[z,hp] at ha;cases ha)]
      exact s3 _ _ (s2 _ _ (s0 _ _ ha))
     have s5:Ad (del H3 (PU P [p])) (del (upd H3 p (.dK (Gs [] [(κ,w)]))) (PU P [p])):=fun a o ha=>by
      obtain⟨n1,n2⟩:=Al ha
      rw[Aw n1,Ah (fun z=>n1 (.inr (by rw[z];exact zg.mpr rfl)))]
      exact n2
     refine h _ [p] _ s4 hn (by simp) ?_
     have e1:Gs [] [(κ,w)]=[(κ,w)]:=rfl
     rw[e1] at s5 ⊢
     exact .dK (kvs:=[(κ,w)]) Ar (.cons (.sh (hw.mono s5)) .nil)
   ·rw[if_neg hc] at h;exact h.elim
def OU (x:D) (m:M D):M D:=match x with
 | .Bg b ks vs=>m.bind fun y=>if keyOk b y=true then .ok ((Gg ks vs y).getD .Az) else .bad
 |_=>.bad
theorem eV {K:za}{v:V}{bb:Bool}{ks vs:List D}{P:Addr->Prop}(h:BH K (del H P) v (.Bg bb ks vs)):∃ a,v=.ref a/\rO H a:=by
 cases h with
 |Ip h1 h2=>exact⟨_,rfl,.inl ⟨_,.inl (Al h1).2⟩⟩
 |Iq h1 h2=>exact⟨_,rfl,.inr ⟨_,.inl (Al h1).2⟩⟩
theorem N6 {n:Nat}{o k:Expr}{apos ac:Pos}(hu:X.A.units + n < cLine) (ha:DE X WX c o f) (hb:DE X WX c k g) (m:M1 X o "get" apos k ac:=by exact⟨rfl,rfl,rfl,rfl⟩) (hn:1<=n:=by decide) :
 DE X WX c (.Call (.Attribute o "get" apos) [k] [] ac) (fun ρ=>(f ρ).bind fun x=>OU x (g ρ)):=by
 obtain⟨ta,a1,a2⟩:=ha
 obtain⟨tb,b1,b2⟩:=hb
 refine⟨_,Xd (by omega) a1 b1 m,fun P0 P σ H Q ρ E h=>?_⟩
 dsimp only at h
 refine a2 P0 P σ H _ ρ E ?_
 cases q:f ρ with
 |bad=>rw[q] at h;exact h
 |ex x=>rw[q] at h;exact h
 |ok x =>
  rw[q] at h
  simp only[M.A7] at h
  intro v H1 s1 hv
  unfold OU at h
  split at h
  ·rename_i bb ks vs
   obtain⟨a,rfl,hD⟩:=eV hv
   refine⟨a,rfl,hD,b2 P0 P σ H1 _ ρ (E.same s1) ?_⟩
   cases e2:g ρ with
   |bad=>rw[e2] at h;exact h
   |ex y=>rw[e2] at h;exact gV.same (m:=.ex y) h s1
   |ok y =>
    rw[e2] at h
    simp only[M.A7] at h
    intro w H2 s2 hw
    by_cases hk:keyOk bb y=true
    ·rw[if_pos hk] at h
     obtain⟨a',xs,ea,g',hl,bU⟩:=Py (hv.mono s2.del) hw (Fd hk)
     cases ea
     refine⟨_,g',?_⟩
     refine gV.same (gV.same h s1) s2 _ H2 (Ad.refl _) ?_
     cases eg:Gg ks vs y with
     |none =>
      have:Gg ks xs y=none:=by
       cases wz:Gg ks xs y with
       |none=>rfl
       |some z =>
        have h1:=Ht (xs:=xs) (y:=y) bU
        have h2:=Ht (ks:=ks) (xs:=vs) (y:=y) (by rw[<-hl.length,bU])
        rw[h1,wz,eg] at h2
        cases h2
      rw[this]
      exact .Az
     |some d =>
      obtain⟨x,e3,e4⟩:=MR hl eg
      rw[e3]
      exact e4
    ·rw[if_neg hk] at h;exact h.elim
  ·exact h.elim
end
end L2
namespace L2
open PySem PySem.Spec PyProof.Rows
def uO (K:za) (a:Addr) (n:Nat):It :=
 ⟨fun i H=>∃ xs x,Dt K H a xs/\xs.length=n/\i < n/\xs[n - 1 - i]? =some x,fun i H x H'=>H'=H/\∀ xs,Dt K H a xs->xs[n - 1 - i]? =some x,fun i H=>∃ xs,Dt K H a xs/\xs.length=n/\n<=i⟩
theorem Yr {h:Heap}{it a:Addr}{i:Int}{xs:Array Value}(h1:h.IsRevIter it a i) (h2:h.IsList a xs):a≠it:=fun z=>by
 subst z
 obtain⟨o,e1,e2,_⟩:=h1
 obtain⟨o2,e3,e4,_⟩:=h2
 rw[e1] at e3
 cases e3
 rw[e2] at e4
 exact absurd (Value.type.inj e4) (by decide)
theorem Ys {P:Program}{w:World}{K:za}{tg:Expr}(a it:Addr) (n:Nat):Turn P w K tg (uO K a n) [it] it (fun i h=>i<=n/\h.IsRevIter it a ((n:Int) - 1 - i)) where
 mem:=by simp
 obj:=fun i h st b hb=>by
  have e:b=it:=by simpa using hb
  subst e
  obtain⟨_,o,e,c,d⟩:=st
  exact⟨o,e,fun v z=>by rw[d] at z;cases z⟩
 keep:=fun i h h' st k=>⟨st.1,st.2.at fun o e=>k it (by simp) o e⟩
 item:=by
  intro X hP hw hK hc i pins s σ H E I hf st hg
  subst hP hw hK
  obtain⟨xs,x,hq,qj,bI,hx⟩:=hg
  obtain⟨aa,rv,p,hz⟩:=I.list hq
  obtain⟨u,hu,ru⟩:=rv.get hx
  obtain⟨f0,f1,f2,f3,f4,f5⟩:=hf it (by simp)
  have hl:=rv.length
  have qk:aa.toArray.size=n:=by rw[zh,<-hl,qj]
  have W:=Walks.listRev (prog:=X.prog) (w:=X.w) (A:=X.A) (I.ok.hd hc) it a (Yr st.2 p.isList) aa.toArray
  rw[qk] at W
  refine W.item i s _ _ bI ⟨st.1,st.2,p.isList⟩ fun v h' tk hv ci kp=>?_
  have ev:v=u:=by
   rw[List.getElem?_toArray,hu] at hv
   exact (zM hv).symm
  subst ev
  have I1:Inv X pins σ H { s with heap:=h',toks:=tk }:=I.turned (t':=tk) (fun b o hb e=>kp b o (by simpa using hb) e) f0 f1 f3 f4 f5
  obtain⟨o,e,c,d⟩:=id ci.2.1
  exact⟨v,rfl,WL (s:={ s with heap:=h',toks:=tk }) e c d (by decide) ⟨x,H,I1,ru,⟨rfl,fun ys hy=>by rw[I.Gk hy hq];exact hx⟩,⟨ci.1,ci.2.1⟩,fun b hb=>(hf b hb).1⟩⟩
 done:=by
  intro X hP hw hK hc i pins s σ H E I hf st hg
  subst hP hw hK
  obtain⟨xs,hq,qj,bI⟩:=hg
  obtain⟨aa,rv,p,hz⟩:=I.list hq
  obtain⟨f0,f1,f2,f3,f4,f5⟩:=hf it (by simp)
  have hl:=rv.length
  have qk:aa.toArray.size=n:=by rw[zh,<-hl,qj]
  have W:=Walks.listRev (prog:=X.prog) (w:=X.w) (A:=X.A) (I.ok.hd hc) it a (Yr st.2 p.isList) aa.toArray
  rw[qk] at W
  have w4:i=n:=Nat.le_antisymm st.1 bI
  subst w4
  exact W.done s _ _ ⟨st.1,st.2,p.isList⟩ fun h' tk kp=>⟨rfl,I.turned (t':=tk) (fun b o hb e=>kp b o (by simpa using hb) e) f0 f1 f3 f4 f5⟩
 self:=fun _ _ _ _ _ st h=>wpAny_pyIter_revIter st.2 h
section
variable {X:Cx}{WX:Str->Hp->Prop}{tg a:Expr}{f:Ab->M D}{pos p:Pos}{te:TE}
def sH (K:za) (ta:TA):TI:=fun σ H R=>ta σ H fun vs H1=>∃ a xs,vs=[.ref a]/\Dt K H1 a xs/\R (uO K a xs.length) H1
theorem lD {ta:TA}(hg:Gl X "reversed") (hm:X.mg "reversed" = none) (ha:PA X [a] ta) (hb:bootBuiltins "reversed" = some (.type "reversed"):=by decide +kernel) (hs:starEach [a] X.env=[(false,eval a X.env)]:=by rfl) :
 PI X tg (.Call (.Name "reversed" p) [a] [] pos) (sH X.K ta):=by
 intro pins s σ H R I h
 refine Call_ (DU I hg hm hb (yp (Bb (ha pos pins s σ H _ I h) fun us s1 ⟨vs,H1,I1,r1,q1⟩=>?_) hs rfl))
 obtain⟨j,xs,e,hq,q⟩:=q1
 subst e
 cases r1 with
 |cons r rr =>
  cases rr
  cases r
  obtain⟨aa,rv,p,hz⟩:=I1.list hq
  have hl:=rv.length
  refine call_reversed_list p.isList ?_
  have hit:(s1.heap.push (revObj j ((aa.toArray.size:Int) - 1))).IsRevIter s1.heap.objs.size j ((xs.length:Int) - 1 - (0:Nat)):=by
   rw[zh,<-hl]
   exact⟨_,zG _ rfl,rfl,by simp[revObj]⟩
  refine wpAny_pyIter_revIter (s:={ s1 with heap:=s1.heap.push (revObj j ((aa.toArray.size:Int) - 1)) }) hit ?_
  refine⟨s1.heap.objs.size,[s1.heap.objs.size],_,_,H1,rfl,I1.kept (t':=s1.toks) fun b o e=>zp _ e,Ys j _ xs.length,⟨zP _,hit⟩,fun b hb=>?_,q⟩
  have e:b=s1.heap.objs.size:=by simpa using hb
  subst e
  exact I1.WK (zx _) (I1.Au.fresh (zx _))
theorem lE (hg:Gl X "reversed") (hm:X.mg "reversed" = none) (ha:DE X WX true a f) (hb:bootBuiltins "reversed" = some (.type "reversed"):=by decide +kernel) (hs:starEach [a] X.env=[(false,eval a X.env)]:=by rfl) :
 DI X WX tg (.Call (.Name "reversed" p) [a] [] pos) (fun ρ=>(f ρ).bind fun d=>match d with | .lst ds=>.ok ds.reverse|_=>.bad):=by
 obtain⟨ta,a1,a2⟩:=ha
 refine⟨_,lD hg hm (Be a1 Cg hs) hb hs,fun P0 P σ H R ρ E h=>?_⟩
 dsimp only at h
 refine a2 P0 P σ H _ ρ E ?_
 cases q:f ρ with
 |bad=>rw[q] at h;exact h
 |ex x=>rw[q] at h;exact h
 |ok d =>
  rw[q] at h
  cases d with
  |lst ds =>
   intro v H1 s1 hv
   cases hv with
   | @lst a xs _ hs hl =>
    have hlen:=hl.length
    refine⟨a,xs,rfl,hs.Bm,h _ H1 s1 ⟨fun i P' H' s hi=>?_,fun i P' H' s hi=>?_,fun i P' H' v fv d s ht hd y=>?_⟩⟩
    ·rw[yx] at hi
     obtain⟨x,hx,_⟩:=hl.get (zq (show xs.length - 1 - i < ds.length by omega))
     exact⟨xs,x,(s.seq hs).Bm,rfl,by omega,hx⟩
    ·rw[yx] at hi
     exact⟨xs,(s.seq hs).Bm,rfl,by omega⟩
    ·obtain⟨rfl,y⟩:=y
     have aj:=(zw.mp hd).1
     rw[yx] at aj
     rw[List.getElem?_reverse aj] at hd
     obtain⟨x,hx,bM⟩:=hl.get hd
     have e:=y xs (s.seq hs).Bm
     rw[hlen,hx] at e
     cases e
     exact⟨Ad.refl _,bM.mono s⟩
  |_=>exact h.elim
end
end L2
namespace L2
open PySem PySem.Spec PyProof.Rows
structure lF (K:za) (x qual:Str) (st:Stmt) (f:Addr) (fd:FuncData):Prop where
 ex:∃(oc:Value) (od:Option Addr) (dV kV doc pm:Value) (an:Option Addr) (AZ ct:Value) (Se:Array (Option Value)),
  fd=yh x qual (Bf st) (AJ st) (A4 st) dV kV doc pm an AZ ct/\K.lookup f=some ⟨oc,od,.func fd,Se⟩/\y3 K AZ qual=true
 kp:yi K (.ref f)=true
section
variable {P:Program}{w:World}{K:za}{mg:Str->Option Value}{base:Heap}
theorem eW {x qual:Str}{st:Stmt}{f:Addr}{fd:FuncData}{N ps:List Str}{k:Nat}(F:lF K x qual st f fd) (S:Ae N ps (A4 st)) (g:Ab->M Out)
 (hb:∀(AZ:Value) (A:Around) (outer:List Env) (s:Shared) (H:Hp) (E:XK),BI k (A.deeper (envOfC qual (A4 st) s.heap.objs.size f AZ))->Sf (Uk P w K mg base N qual (A4 st) f AZ A outer s H E) (D2 K E) (AJ st) g) :
 Dv P w K mg base (SO P w base) (k + 1) f fd ps (OF K ps.length fun t a7=>Ed (g (CU N t a7))):=by
 obtain⟨oc,od,dV,kV,doc,pm,an,AZ,ct,Se,rfl,lk,bw⟩:=F.ex
 refine U1 lk bw S (fun vs H Q E h=>h.1) fun A outer s H vs Q E hr h=>?_
 obtain⟨hl,P',p,t,fp,rest,a7,rfl,ht,hp,nd,ho,hv,hq⟩:=h
 obtain⟨tt,h1,h2⟩:=hb AZ A outer s H E hr
 refine⟨tt,h1,h2 ⟨fun a=>P' a/\a∉fp,fun _=>p⟩ P' _ H _ _ (Jq ht hp nd ho hv) ?_⟩
 dsimp only at hq
 revert hq
 cases g (CU N t a7) with
 |bad=>exact fun h=>h.elim
 |ex x=>exact fun h=>h.elim
 |ok o =>
  have sub:∀ {P2:Addr->Prop} {H2:Hp} {σ2:St} {ρ:Ab},An K ⟨fun a=>P' a/\a∉fp,fun _=>p⟩ P2 H2 σ2 ρ->∀ a,P2 a/\¬ (P' a/\a∉fp)->P2 a/\(P' a->a∈fp):=fun E a ha=>⟨ha.1,fun z=>yD fun w=>ha.2 ⟨z,w⟩⟩
  cases o with
  |ret d=>exact fun h=>h.elim
  |CI d=>exact fun h=>h.elim
  |next ρ =>
   intro hq σ' H' P2 t2 E2
   unfold Ed at hq
   dsimp only at hq
   split at hq
   ·rename_i t' e
    obtain⟨c,ai,k1,k2,k3,k4,k5,k6⟩:=LK E2 e
    exact hq .Az H' P2 ai [] (fun a ha hn=>⟨E2.sub a ⟨ha,hn⟩,t2.2 a ⟨ha,hn⟩⟩) E2.Cn t2.1 k4 k5 (.sh .Az) y4 (fun a ha=>by cases ha) (fun a ha=>sub E2 a (k6 a ha)) (fun a ha=>by cases ha)
   ·exact hq.elim
  |F8 r ρ =>
   intro hq v fr σ' H' P2 t2 E2 o2 b5 hf
   unfold Ed at hq
   dsimp only at hq
   split at hq
   ·rename_i t' e
    obtain⟨c,ai,k1,k2,k3,k4,k5,k6⟩:=LK E2 e
    exact hq v H' P2 ai fr (fun a ha hn=>⟨E2.sub a ⟨ha,hn⟩,t2.2 a ⟨ha,hn⟩⟩) E2.Cn t2.1 k4 k5 o2 b5 (fun a ha=>(hf a ha).2.2 0 c _ ai k1 k2 k3) (fun a ha=>sub E2 a (k6 a ha)) (fun a ha=>sub E2 a ⟨(hf a ha).1,(hf a ha).2.1⟩)
   ·exact hq.elim
  |brk ρ=>exact fun h=>h.elim
  |cont ρ=>exact fun h=>h.elim
end
theorem eX {K:za}{x qual:Str}{st:Stmt}{f:Addr}{oc:Value}{od an:Option Addr}{Se:Array (Option Value)}{dV kV doc pm AZ ct:Value}(l:K.lookup f=some ⟨oc,od,.func (yh x qual (Bf st) (AJ st) (A4 st) dV kV doc pm an AZ ct),Se⟩)
 (c:y3 K AZ qual=true) (k:yi K (.ref f)=true):lF K x qual st f (yh x qual (Bf st) (AJ st) (A4 st) dV kV doc pm an AZ ct):=⟨⟨oc,od,dV,kV,doc,pm,an,AZ,ct,Se,rfl,l,c⟩,k⟩
structure OV (P:Program) (w:World) (K:za) (mg:Str->Option Value) (base:Heap) (x:Str) (k n:Nat) (F:OT->List D->M (OT×OT)):Prop where
 ex:∃ C fa fd ps,lB K mg x C/\Mk K C fa/\Dv P w K mg base (SO P w base) k fa fd ps (OF K n F)/\Binds K fd ps []/\Binds K fd ps [.none]
theorem OV.wC {P:Program}{w:World}{K:za}{mg:Str->Option Value}{base:Heap}{x:Str}{k n:Nat}{F:OT->List D->M (OT×OT)}(G:OV P w K mg base x k n F):pI P w K mg base x k n F:=by
 obtain⟨C,fa,fd,ps,h1,h2,h3,h4,_⟩:=G.ex
 exact⟨⟨C,fa,fd,ps,h1,h2,h3,h4⟩⟩
structure Tj (K:za) (mg:Str->Option Value) (x qual:Str) (st:Stmt) (ps:List Str):Prop where
 ex:∃ C f fd,lB K mg x C/\Mk K C f/\lF K "__init__" qual st f fd/\Binds K fd ps []/\Binds K fd ps [.none]
theorem Yt {P:Program}{w:World}{K:za}{mg:Str->Option Value}{base:Heap}{x qual:Str}{st:Stmt}{N ps:List Str}{k n:Nat}(T:Tj K mg x qual st ps) (S:Ae N ps (A4 st)) (g:Ab->M Out)
 (hb:∀(f:Addr) (AZ:Value) (A:Around) (outer:List Env) (s:Shared) (H:Hp) (E:XK),BI k (A.deeper (envOfC qual (A4 st) s.heap.objs.size f AZ))->Sf (Uk P w K mg base N qual (A4 st) f AZ A outer s H E) (D2 K E) (AJ st) g) (hn:ps.length=n:=by rfl) :
 OV P w K mg base x (k + 1) n (fun t a7=>Ed (g (CU N t a7))):=by
 obtain⟨C,f,fd,h1,h2,F,hB⟩:=T.ex
 subst hn
 exact⟨⟨C,f,fd,ps,h1,h2,eW F S g (hb f),hB⟩⟩
section
variable {X:Cx}{E:XK}{WX:Str->Hp->Prop}{c:Bool}{e:Expr}{es:List Expr}{fs:Ab->M (List D)}{pos:Pos}{H:Hp}
theorem Yu {x:Str}{k n:Nat}{F:OT->List D->M (OT×OT)}{p:Pos}(xo:XCall X E) (G:OV X.prog X.w X.K X.mg X.base x k n F) (hr:BI (k + 1) X.A) (hg:Gl X x) (ha:DA X (D2 X.K E) true (e::es) fs) (cC:(e::es).length + 2=n)
 (aU:(x == ("__debug__" : Str))=false:=by decide) (he:starEach (e::es) X.env=(false,eval e X.env)::starEach es X.env:=by rfl) (a6:(backTo pos (starEach es X.env)).any (·.1)=false:=by rfl) :
 DN X (D2 X.K E) (.Call (.Name x p) (e::es) [] pos) (fun ρ=>(fs ρ).bind fun ds=>OQ (F (.ins x [] []) (ds++[.Az]))):=by
 obtain⟨C,fa,fd,ps,hT,hM,hF,_,hb⟩:=G.ex
 obtain⟨ta,a1,a2,a3⟩:=ha
 refine⟨_,U0 hM hF hr hg hT.uN hb (show Vals [.Az] [.none] from .cons (show RelV .Az .none from rfl) .nil) xo.call a1 aU he a6,fun P0 P σ H Q ρ Ev h=>?_⟩
 dsimp only at h
 refine a2 P0 P σ H _ ρ Ev ?_
 cases q:fs ρ with
 |bad=>rw[q] at h;exact h
 |ex x=>rw[q] at h;exact h
 |ok ds =>
  rw[q] at h
  simp only[M.A7] at h
  intro vs H1 s1 aI y dx hy hd af
  have E1:=Ev.same s1
  have sm:=OP (C:=C) hy hd
  have bY:∀ a∈[y],H1 a=none:=fun a ha=>by rw[zg.mp ha];exact hy
  refine⟨by rw[zk,zJ,aI.length,a3 ρ ds q];exact cC,PU P [y],y,.ins x [] [],[y],vs++[.Az],ds++[.Az],rfl,fun a ha=>?_,fun a ha=>.inr ha,by simp,C1.ins (fs:=[]) hT.ns Ar .nil,(aI.mono (Dd sm bY)).append (.cons .Az .nil),?_⟩
  ·rcases ha with ha|ha
   ·exact (E1.Cn a ha).same sm
   ·rw[zg.mp ha]
    exact⟨_,Ar,fun xs=>⟨(fun z=>by cases z),(fun z w=>by cases w)⟩⟩
  ·cases q2:F (.ins x [] []) (ds++[.Az]) with
   |bad=>rw[q2] at h;exact h
   |ex z=>rw[q2] at h;exact h
   |ok tr =>
    obtain⟨t,r⟩:=tr
    rw[q2] at h
    simp only[OQ] at h
    intro v H' P' ai fr k1 k2 k3 k4 k5 k6 k7 k8 k9 o9
    cases r with
    |sh d =>
     cases d with
     |Az =>
      cases k6 with
      |sh hv =>
       cases hv
       refine⟨rfl,h _ ai H' ?_ ?_ k5 ?_⟩
       ·intro b u eb
        have e1:=s1 b u eb
        have ca:b≠y:=fun z=>by rw[z,hy] at e1;cases e1
        have e2:=sm b u e1
        by_cases hP:P b
        ·exact (k1 b (.inl hP) (by simp[ca])).2.trans e2
        ·exact (Al (k3 b u (by rw[Aw fun z=>z.elim hP fun w=>ca (zg.mp w)];exact e2))).2
       ·intro b ju
        cases eb:H b with
        |none=>rfl
        |some u =>
         exfalso
         have e1:=s1 b u eb
         have ca:b≠y:=fun z=>by rw[z,hy] at e1;cases e1
         have e2:=sm b u e1
         have hn:=fun z=>ca (zg.mp ((k9 b ju).2 z))
         exact (Al (k3 b u (by rw[Aw hn];exact e2))).1 (k9 b ju).1
       ·refine k4.move (fun b u eb=>?_) fun _ _=>rfl
        obtain⟨g1,g2⟩:=Al eb
        rw[Aw]
        ·exact g2
        ·rintro (z|z)
         ·have ca:b≠y:=fun w=>by
           obtain⟨o,e1,_⟩:=E1.Cn b z
           rw[w,hy] at e1
           cases e1
          exact g1 (k1 b (.inl z) (by simp[ca])).1
         ·exact g1 (k9 b z).1
     |_=>exact h.elim
    |_=>exact h.elim
end
end L2
namespace L2
structure Si (m:Nat) (rs:List Road) (rk:Int->Nat) (Af:Int->Int->Co):Prop where
 snd:∀ x y c,Af x y=some c->Wk rs x y c/\x≠y/\(0<=x/\x < m)/\0<=y/\y < m
 road:∀ r∈rs,BL (Af r.a r.b) (C3 r)
 uP:∀ p x y,x≠y->rk p < rk x->rk p < rk y->BL (Af x y) (Aq (Af x p) (Af p y))
 inj:∀ x y:Int,0<=x->x < m->0<=y->y < m->rk x=rk y->x=y
 nn:∀ x y c,Wk rs x y c->0<=c.1/\0<=c.2
inductive NU (Af:Int->Int->Co) (rk:Int->Nat) (s:Int):Int->Int×Int->Prop
 |nil:NU Af rk s s (0,0)
 |snoc {x y:Int} {c d:Int×Int}:NU Af rk s x c->rk x < rk y->Af x y=some d->NU Af rk s y (c.1 + d.1,c.2 + d.2)
inductive RF (Af:Int->Int->Co) (rk:Int->Nat) (t:Int):Nat->Int->Int×Int->Prop
 |nil:RF Af rk t 0 t (0,0)
 |snoc {n:Nat} {x y:Int} {c d:Int×Int}:RF Af rk t n x c->rk y < rk x->Af x y=some d->RF Af rk t (n + 1) y (c.1 + d.1,c.2 + d.2)
def Sj (p q:Int×Int):Prop:=p.1 < q.1\/(p.1=q.1/\p.2<=q.2)
theorem Yv {a:Co}{q:Int×Int}(h:BL a (some q)):∃ p,a=some p/\Sj p q:=by
 cases a with
 |none=>exact h.elim
 |some p=>exact⟨p,rfl,h⟩
def UD (Af:Int->Int->Co) (rk:Int->Nat) (s w:Int) (c:Int×Int):Prop:=∃ t n c1 c2,NU Af rk s t c1/\RF Af rk t n w c2/\Sj (c1.1 + c2.1,c1.2 + c2.2) c
section
variable {m:Nat}{rs:List Road}{rk:Int->Nat}{Af Cf:Int->Int->Co}{s w:Int}
theorem NU.walk (L:Si m rs rk Af){t:Int}{c:Int×Int}(h:NU Af rk s t c):Wk rs s t c:=by
 induction h with
 |nil=>exact .nil s
 |snoc _ _ ha ih=>exact ih.trans (L.snd _ _ _ ha).1
theorem RF.walk (L:Si m rs rk Af){t x:Int}{n:Nat}{c:Int×Int}(h:RF Af rk t n x c):Wk rs t x c:=by
 induction h with
 |nil=>exact .nil t
 |snoc _ _ ha ih=>exact ih.trans (L.snd _ _ _ ha).1
theorem lG (L:Si m rs rk Af):∀(n:Nat){t x y:Int}{c1 c2 d:Int×Int},NU Af rk s t c1->RF Af rk t n x c2->Af x y=some d->UD Af rk s y (c1.1 + c2.1 + d.1,c1.2 + c2.2 + d.2):=by
 intro n
 induction n with
 |zero =>
  intro t x y c1 c2 d hu hd ha
  obtain⟨_,af,hx,hy⟩:=L.snd _ _ _ ha
  cases hd with
  |nil =>
   by_cases h:rk y < rk t
   ·exact⟨t,1,c1,_,hu,.snoc .nil h ha,by simp only[Sj];omega⟩
   ·have h2:rk t < rk y:=by
     have hq:rk t≠rk y:=fun e=>af (L.inj t y hx.1 hx.2 hy.1 hy.2 e)
     omega
    exact⟨y,0,_,_,.snoc hu h2 ha,.nil,by simp only[Sj];omega⟩
 |succ n ih =>
  intro t x y c1 c2 d hu hd ha
  obtain⟨hw,af,hx,hy⟩:=L.snd _ _ _ ha
  by_cases h:rk y < rk x
  ·exact⟨t,n + 2,c1,_,hu,.snoc hd h ha,by simp only[Sj];omega⟩
  ·have h2:rk x < rk y:=by
    have hq:rk x≠rk y:=fun e=>af (L.inj x y hx.1 hx.2 hy.1 hy.2 e)
    omega
   cases hd with
   | @snoc _ z _ c e bM hr cB =>
    have n1:=L.nn _ _ _ hw
    have n2:=L.nn _ _ _ (L.snd _ _ _ cB).1
    by_cases hz:z=y
    ·subst hz
     exact⟨t,n,c1,c,hu,bM,by simp only[Sj];omega⟩
    ·have q:=L.uP x z y hz hr h2
     rw[cB,ha] at q
     obtain⟨f,hf,hle⟩:=Yv q
     obtain⟨t',n',ql,qm,g1,g2,g3⟩:=ih hu bM hf
     refine⟨t',n',ql,qm,g1,g2,?_⟩
     simp only[Sj] at *
     omega
theorem eY (L:Si m rs rk Af){u:Int}{c:Int×Int}(h:Wk rs u w c):∀ {c0:Int×Int},UD Af rk s u c0->UD Af rk s w (c0.1 + c.1,c0.2 + c.2):=by
 induction h with
 |nil u =>
  intro c0 h
  simpa using h
 | @cons r l w c hr hl _ ih =>
  intro c0 h0
  obtain⟨t,n,c1,c2,g1,g2,g3⟩:=h0
  have q:=L.road r hr
  unfold C3 at q
  rw[hl] at q
  obtain⟨d,hd,hle⟩:=Yv q
  obtain⟨t',n',ql,qm,k1,k2,k3⟩:=lG L n g1 g2 hd
  have r1:=@ih (c0.1 + l,c0.2 + 1) ⟨t',n',ql,qm,k1,k2,by simp only[Sj] at *;omega⟩
  simpa [yZ] using r1
def Kept (rs:List Road) (Af Cf:Int->Int->Co):Prop:=∀ x y c,Cf x y=some c↔(Af x y=some c/\BO rs x y (some c))
theorem eZ (L:Si m rs rk Af) (K:Kept rs Af Cf){t:Int}{c1:Int×Int}(h:NU Af rk s t c1):∀ {c2:Int×Int},Wk rs t w c2->(∀ c,Wk rs s w c->Sj (c1.1 + c2.1,c1.2 + c2.2) c)->NU Cf rk s t c1:=by
 induction h with
 |nil=>exact fun _ _=>.nil
 | @snoc x y c d hu hr ha ih =>
  intro c2 hw hm
  have cB:=(L.snd _ _ _ ha).1
  refine .snoc (ih (c2:=(d.1 + c2.1,d.2 + c2.2)) (cB.trans hw) fun c' bN=>?_) hr ((K x y d).mpr ⟨ha,fun e he=>?_,fun p hp=>by cases hp;exact cB⟩)
  ·have:=hm c' bN
   simp only[Sj] at *
   omega
  ·have:=hm _ (((hu.walk L).trans he).trans hw)
   simp only[Sj,BL] at *
   omega
theorem fA (L:Si m rs rk Af) (K:Kept rs Af Cf){t x:Int}{n:Nat}{c2:Int×Int}{c1:Int×Int}(hs:Wk rs s t c1) (h:RF Af rk t n x c2):(∀ c,Wk rs s x c->Sj (c1.1 + c2.1,c1.2 + c2.2) c)->RF Cf rk t n x c2:=by
 induction h with
 |nil=>exact fun _=>.nil
 | @snoc n x y c d hd hr ha ih =>
  intro hm
  have cB:=(L.snd _ _ _ ha).1
  refine .snoc (ih fun c' bN=>?_) hr ((K x y d).mpr ⟨ha,fun e he=>?_,fun p hp=>by cases hp;exact cB⟩)
  ·have:=hm _ (bN.trans cB)
   simp only[Sj] at *
   omega
  ·have:=hm _ ((hs.trans (hd.walk L)).trans he)
   simp only[Sj,BL] at *
   omega
theorem Yw (L:Si m rs rk Af) (K:Kept rs Af Cf){c:Int×Int}(h:BO rs s w (some c)):∃ t n c1 c2,NU Cf rk s t c1/\RF Cf rk t n w c2/\c=(c1.1 + c2.1,c1.2 + c2.2):=by
 obtain⟨t,n,c1,c2,g1,g2,g3⟩:=eY L (h.2 c rfl) (c0:=(0,0)) ⟨s,0,_,_,.nil,.nil,by simp[Sj]⟩
 have hw:=(g1.walk L).trans (g2.walk L)
 have q:=h.1 _ hw
 have e:c=(c1.1 + c2.1,c1.2 + c2.2):=by
  obtain⟨a,b⟩:=c
  simp only[Sj,BL] at *
  refine Prod.ext ?_ ?_<;>dsimp only<;>omega
 refine⟨t,n,c1,c2,eZ L K g1 (g2.walk L) fun c' bN=>?_,fA L K (g1.walk L) g2 fun c' bN=>?_,e⟩
 ·have:=h.1 _ bN;rw[e] at this;exact this
 ·have:=h.1 _ bN;rw[e] at this;exact this
structure qK (rk:Int->Nat) (Cf:Int->Int->Co) (s:Int) (R:Int->Co):Prop where
 st:BL (R s) (some (0,0))
 cl:∀ x y,rk x < rk y->BL (R y) (Aq (R x) (Cf x y))
 sd:∀ x c,R x=some c->NU Cf rk s x c
theorem qK.le {R:Int->Co}(h:qK rk Cf s R){t:Int}{c:Int×Int}(u:NU Cf rk s t c):BL (R t) (some c):=by
 induction u with
 |nil=>exact h.st
 | @snoc x y c d hu hr ha ih =>
  refine Ao (h.cl x y hr) ?_
  rw[ha]
  exact Ca (some d) ih
structure pJ (rk:Int->Nat) (Cf:Int->Int->Co) (s:Int) (R T:Int->Co) (m:Nat):Prop where
 top:∀ x:Int,0<=x->x < m->BL (T x) (R x)
 cl:∀ x y:Int,0<=x->x < m->0<=y->y < m->rk y < rk x->BL (T y) (Aq (T x) (Cf x y))
 sd:∀ x c,T x=some c->∃ t n c1 c2,NU Cf rk s t c1/\RF Cf rk t n x c2/\c=(c1.1 + c2.1,c1.2 + c2.2)
theorem Kept.gM (K:Kept rs Af Cf){x y:Int}{c:Int×Int}(h:Cf x y=some c):Af x y=some c:=((K x y c).mp h).1
theorem NU.of_kept (K:Kept rs Af Cf){t:Int}{c:Int×Int}(h:NU Cf rk s t c):NU Af rk s t c:=by
 induction h with
 |nil=>exact .nil
 |snoc _ hr ha ih=>exact .snoc ih hr (K.gM ha)
theorem RF.of_kept (K:Kept rs Af Cf){t x:Int}{n:Nat}{c:Int×Int}(h:RF Cf rk t n x c):RF Af rk t n x c:=by
 induction h with
 |nil=>exact .nil
 |snoc _ hr ha ih=>exact .snoc ih hr (K.gM ha)
theorem pK (L:Si m rs rk Af) (K:Kept rs Af Cf){t x:Int}{n:Nat}{c:Int×Int}(h:RF Cf rk t n x c) (ht:0<=t/\t < m):0<=x/\x < m:=by
 cases h with
 |nil=>exact ht
 |snoc _ hr ha=>exact (L.snd _ _ _ (K.gM ha)).2.2.2
theorem pL (L:Si m rs rk Af) (K:Kept rs Af Cf){t:Int}{c:Int×Int}(h:NU Cf rk s t c) (ht:0<=s/\s < m):0<=t/\t < m:=by
 cases h with
 |nil=>exact ht
 |snoc _ hr ha=>exact (L.snd _ _ _ (K.gM ha)).2.2.2
theorem pJ.le (L:Si m rs rk Af) (K:Kept rs Af Cf){R T:Int->Co}(h:pJ rk Cf s R T m){t x:Int}{n:Nat}{c1 c2:Int×Int}(ht:0<=t/\t < m) (hT:BL (T t) (some c1)) (u:RF Cf rk t n x c2):BL (T x) (some (c1.1 + c2.1,c1.2 + c2.2)):=by
 induction u with
 |nil=>simpa using hT
 | @snoc n x y c d hd hr ha ih =>
  have hx:=pK L K hd ht
  have hy:=(L.snd _ _ _ (K.gM ha)).2.2.2
  refine Ao (h.cl x y hx.1 hx.2 hy.1 hy.2 hr) ?_
  rw[ha]
  have:=Ca (some d) ih
  simp only[Aq,yZ] at this
  exact this
theorem OW (L:Si m rs rk Af) (K:Kept rs Af Cf){R T:Int->Co}(hs:0<=s/\s < m) (hR:qK rk Cf s R) (hT:pJ rk Cf s R T m){x:Co}(hx:BO rs s w x):BO rs s w (T w):=by
 have key:BL (T w) x:=by
  cases x with
  |none=>cases T w<;>exact trivial
  |some c =>
   obtain⟨t,n,c1,c2,g1,g2,e⟩:=Yw L K hx
   have ht:=pL L K g1 hs
   rw[e]
   exact hT.le L K ht (Ao (hT.top t ht.1 ht.2) (hR.le g1)) g2
 refine⟨fun c hc=>Ao key (hx.1 c hc),fun p hp=>?_⟩
 obtain⟨t,n,c1,c2,g1,g2,rfl⟩:=hT.sd w p hp
 exact ((g1.of_kept K).walk L).trans ((g2.of_kept K).walk L)
end
theorem Wk.turn {rs:List Road}{u w:Int}{c:Int×Int}(h:Wk rs u w c):Wk (rs.map Je) w u c:=by
 induction h with
 |nil u=>exact .nil u
 | @cons r l w c hr hl _ ih =>
  have h1:Wk (rs.map Je) (Je r).a (Je r).b (l,1):=Wk.one (zA.mpr ⟨r,hr,rfl⟩) hl
  have:=ih.trans h1
  have e:(c.1 + l,c.2 + 1)=(l + c.1,1 + c.2):=by rw[Int.add_comm,Int.add_comm c.2]
  rw[<-e]
  exact this
theorem HM (rs:List Road):(rs.map Je).map Je=rs:=by
 rw[zY]
 exact (List.map_congr_left fun r _=>rfl).trans (List.map_id rs)
theorem BO.turn {rs:List Road}{u w:Int}{x:Co}(h:BO rs u w x):BO (rs.map Je) w u x:=by
 refine⟨fun c hc=>h.1 c ?_,fun p hp=>(h.2 p hp).turn⟩
 have:=hc.turn
 rw[HM] at this
 exact this
theorem Si.turn {m:Nat}{rs:List Road}{rk:Int->Nat}{Af:Int->Int->Co}(L:Si m rs rk Af):Si m (rs.map Je) rk (fun x y=>Af y x):=by
 refine⟨fun x y c h=>?_,fun r hr=>?_,fun p x y af h1 h2=>?_,L.inj,fun x y c h=>?_⟩
 ·obtain⟨a,b,c,d⟩:=L.snd _ _ _ h
  exact⟨a.turn,zU b,d,c⟩
 ·obtain⟨r',bq,rfl⟩:=zA.mp hr
  exact L.road r' bq
 ·rw[C9]
  exact L.uP p y x (zU af) h2 h1
 ·have:=h.turn
  rw[HM] at this
  exact L.nn _ _ _ this
theorem Kept.turn {rs:List Road}{Af Cf:Int->Int->Co}(K:Kept rs Af Cf):Kept (rs.map Je) (fun x y=>Af y x) (fun x y=>Cf y x):=fun x y c=>by
 refine (K y x c).trans ⟨fun h=>⟨h.1,h.2.turn⟩,fun h=>⟨h.1,?_⟩⟩
 have:=h.2.turn
 rw[HM] at this
 exact this
end L2
namespace L2
section
variable {κ β:Type} [DecidableEq κ]
def AE:List (κ×β)->κ->Option β
 |[],_=>none
 |(k,v)::r,x=>if k=x then some v else AE r x
def Dq (A:List (κ×β)) (k:κ) (v:β):List (κ×β):=if (AE A k).isSome=true then A.map fun kv=>if kv.1=k then (kv.1,v) else kv else A++[(k,v)]
theorem PQ (k j:κ) (v:β):∀ A:List (κ×β),AE (A.map fun kv=>if kv.1=k then (kv.1,v) else kv) j=if j=k then (AE A j).map fun _=>v else AE A j
 |[]=>by simp[AE]
 |(k',v')::r=>by
  rw[zf]
  by_cases h1:k'=k
  ·rw[if_pos h1]
   subst h1
   simp only[AE]
   by_cases h2:k'=j
   ·subst h2;simp
   ·rw[if_neg h2,if_neg h2,PQ k' j v r]
  ·rw[if_neg h1]
   simp only[AE]
   by_cases h2:k'=j
   ·subst h2
    rw[if_pos rfl,if_pos rfl,if_neg h1]
   ·rw[if_neg h2,if_neg h2,PQ k j v r]
theorem RG (k j:κ) (v:β):∀ A:List (κ×β),AE A k=none->AE (A++[(k,v)]) j=if j=k then some v else AE A j
 |[],_=>by
  simp only[List.nil_append,AE]
  by_cases h:k=j
  ·subst h;simp
  ·rw[if_neg h,if_neg (zU h)]
 |(k',v')::r,h=>by
  simp only[AE] at h
  by_cases h1:k'=k
  ·rw[if_pos h1] at h;cases h
  ·rw[if_neg h1] at h
   rw[List.cons_append]
   simp only[AE]
   rw[RG k j v r h]
   by_cases h2:k'=j
   ·subst h2;rw[if_pos rfl,if_pos rfl,if_neg h1]
   ·rw[if_neg h2,if_neg h2]
theorem HN (A:List (κ×β)) (k j:κ) (v:β):AE (Dq A k v) j=if j=k then some v else AE A j:=by
 unfold Dq
 by_cases h:(AE A k).isSome=true
 ·rw[if_pos h,PQ]
  by_cases hj:j=k
  ·subst hj
   rw[if_pos rfl,if_pos rfl]
   obtain⟨x,hx⟩:=Option.isSome_iff_exists.mp h
   rw[hx];rfl
  ·rw[if_neg hj,if_neg hj]
 ·rw[if_neg h]
  exact RG k j v A (by cases e:AE A k with|none=>rfl|some x=>rw[e] at h;exact (h rfl).elim)
theorem HP:∀ {A:List (κ×β)}{k:κ},(AE A k).isSome=true↔k∈A.map zI
 |[],k=>by simp[AE]
 |(k',v')::r,k=>by
  simp only[AE,zf,zo]
  by_cases h:k'=k
  ·rw[if_pos h];simp[h]
  ·rw[if_neg h,HP];simp[zU h]
theorem Yx {A:List (κ×β)}{k:κ}:AE A k=none↔k∉A.map zI:=by
 rw[<-HP]
 cases AE A k<;>simp
theorem RH (A:List (κ×β)) (k:κ) (v:β):(Dq A k v).map zI=if (AE A k).isSome=true then A.map zI else A.map zI++[k]:=by
 unfold Dq
 split
 ·rw[zY]
  refine List.map_congr_left fun kv _=>?_
  dsimp only [Function.comp]
  split<;>rfl
 ·rw[zL];rfl
theorem KD {A:List (κ×β)}{k:κ}{v:β}(h:(A.map zI).Nodup):((Dq A k v).map zI).Nodup:=by
 rw[RH]
 split
 ·exact h
 ·rename_i hn
  rw[HP] at hn
  rw[zH]
  exact⟨h,by simp,fun x hx y hy=>by rw[zg.mp hy];exact fun e=>hn (e▸hx)⟩
theorem N7 {A:List (κ×β)}{k x:κ}{v:β}(h:x∈(Dq A k v).map zI):x∈A.map zI\/x=k:=by
 rw[RH] at h
 split at h
 ·exact .inl h
 ·rcases zv.mp h with h|h
  ·exact .inl h
  ·exact .inr (zg.mp h)
theorem PR:∀ {A:List (κ×β)}{k:κ}{v:β},AE A k=some v->(k,v)∈A
 |(k',v')::r,k,v,h=>by
  simp only[AE] at h
  split at h
  ·rename_i e;cases h;subst e;exact zd
  ·exact ze _ (PR h)
theorem Yy:∀ {A:List (κ×β)}{k:κ}{v:β},(A.map zI).Nodup->(k,v)∈A->AE A k=some v
 |(k',v')::r,k,v,hn,h=>by
  rw[zf,yk] at hn
  simp only[AE]
  rcases zo.mp h with e|h
  ·cases e;rw[if_pos rfl]
  ·have:k'≠k:=fun e=>hn.1 (e▸zA.mpr ⟨_,h,rfl⟩)
   rw[if_neg this]
   exact Yy hn.2 h
variable {kf:κ->D}{vf:β->D}(he:∀ a b,Av (kf a) (kf b)=decide (a=b))
include he
theorem JZ (A:List (κ×β)) (k:κ):Lq (A.map fun kv=>kf kv.1) (kf k)=(AE A k).isSome:=by
 induction A with
 |nil=>rfl
 |cons kv r ih =>
  obtain⟨k',v'⟩:=kv
  unfold Lq at ih ⊢
  rw[zf,yX,ih,he]
  simp only[AE]
  by_cases h:k'=k
  ·rw[if_pos h,decide_eq_true h];rfl
  ·rw[if_neg h,decide_eq_false h];rfl
theorem GN (A:List (κ×β)) (k:κ):Gg (A.map fun kv=>kf kv.1) (A.map fun kv=>vf kv.2) (kf k)=(AE A k).map vf:=by
 induction A with
 |nil=>rfl
 |cons kv r ih =>
  obtain⟨k',v'⟩:=kv
  rw[zf,zf,Gg,he,ih]
  simp only[AE]
  by_cases h:k'=k
  ·rw[decide_eq_true h,if_pos rfl,if_pos h];rfl
  ·rw[decide_eq_false h,if_neg zK,if_neg h]
theorem Yz (k:κ) (v:β) (A:List (κ×β)):IE (A.map fun kv=>kf kv.1) (A.map fun kv=>vf kv.2) (kf k) (vf v)=(A.map fun kv=>if kv.1=k then (kv.1,v) else kv).map fun kv=>vf kv.2:=by
 induction A with
 |nil=>rfl
 |cons kv r ih =>
  obtain⟨k',v'⟩:=kv
  rw[zf,zf,IE,he,ih,zf,zf]
  by_cases h:k'=k
  ·rw[decide_eq_true h,if_pos rfl,if_pos h]
  ·rw[decide_eq_false h,if_neg zK,if_neg h]
theorem N8 (A:List (κ×β)) (k:κ) (v:β):putD (A.map fun kv=>kf kv.1) (A.map fun kv=>vf kv.2) (kf k) (vf v)=((Dq A k v).map (fun kv=>kf kv.1),(Dq A k v).map fun kv=>vf kv.2):=by
 unfold putD Dq
 rw[JZ he]
 by_cases h:(AE A k).isSome=true
 ·rw[if_pos h,if_pos h,Yz he]
  refine Prod.ext ?_ rfl
  dsimp only
  rw[zY]
  refine List.map_congr_left fun kv _=>?_
  dsimp only [Function.comp]
  split<;>rfl
 ·rw[if_neg h,if_neg h,zL,zL];rfl
end
theorem K0 (a b:Int):Av (.int a) (.int b)=decide (a=b):=by
 simp only[Av]
 by_cases h:a=b
 ·subst h;simp
 ·simp[h]
abbrev LA:=List ((Int×Int)×((Int×Int)×Option Int))
def Wg (v:(Int×Int)×Option Int):D:=.tup [cst (some v.1),GC v.2]
def L9 (A:LA):D:=.Bg true (A.map fun kv=>pD kv.1) (A.map fun kv=>Wg kv.2)
def IU (A:LA):OT:=.Bg true (A.map fun kv=>pD kv.1) ((A.map fun kv=>Wg kv.2).map .sh)
def Ak (A:LA) (p:Int×Int):Co:=(AE A p).map zI
def layA (A:LA) (p:Int×Int) (c:Co) (mid:Option Int):LA:=match c with
 |none=>A
 |some c=>(match AE A p with
  |none=>Dq A p (c,mid)
  |some z=>if c.1 < z.1.1\/(c.1=z.1.1/\c.2 < z.1.2) then Dq A p (c,mid) else A)
theorem GO (A:LA) (p q:Int×Int) (c:Co) (mid:Option Int):Ak (layA A p c mid) q=if q=p then Dx (Ak A p) c else Ak A q:=by
 unfold layA Ak
 cases c with
 |none =>
  by_cases h:q=p
  ·subst h;rw[if_pos rfl];cases AE A q<;>rfl
  ·rw[if_neg h]
 |some c =>
  cases e:AE A p with
  |none =>
   dsimp only
   rw[HN]
   by_cases h:q=p
   ·rw[if_pos h,if_pos h];rfl
   ·rw[if_neg h,if_neg h]
  |some z =>
   dsimp only
   by_cases hc:c.1 < z.1.1\/(c.1=z.1.1/\c.2 < z.1.2)
   ·rw[if_pos hc,HN]
    by_cases h:q=p
    ·rw[if_pos h,if_pos h]
     simp only[Option.map_some,Dx,gD]
     rw[if_neg (by omega)]
    ·rw[if_neg h,if_neg h]
   ·rw[if_neg hc]
    by_cases h:q=p
    ·subst h
     rw[if_pos rfl,e]
     simp only[Option.map_some,Dx,gD]
     rw[if_pos (by omega)]
    ·rw[if_neg h]
theorem Tn (A:LA) (p q:Int×Int) (c:Co) (mid:Option Int):BL (Ak (layA A p c mid) q) (Ak A q):=by
 rw[GO]
 split
 ·rename_i h;subst h;exact EB _ _
 ·exact C2 _
theorem YA {A:LA}{p x:Int×Int}{c:Co}{mid:Option Int}(h:x∈(layA A p c mid).map zI):x∈A.map zI\/x=p:=by
 unfold layA at h
 split at h
 ·exact .inl h
 ·split at h
  ·exact N7 h
  ·split at h
   ·exact N7 h
   ·exact .inl h
theorem Wh {A:LA}{p:Int×Int}{c:Co}{mid:Option Int}(h:(A.map zI).Nodup):((layA A p c mid).map zI).Nodup:=by
 unfold layA
 split
 ·exact h
 ·split
  ·exact KD h
  ·split
   ·exact KD h
   ·exact h
def PV (p u:Int) (A:LA) (w:Int):LA:=if u=w then A else layA A (u,w) (Aq (Ak A (u,p)) (Ak A (p,w))) (some p)
def fB (p:Int) (H:List Int) (A:LA) (u:Int):LA:=H.foldl (PV p u) A
def lH (A:LA) (p:Int) (H:List Int):LA:=H.foldl (fB p H) A
def To:LA->List Int->LA
 |A,[]=>A
 |A,p::r=>To (lH A p r) r
def lay0 (rs:List Road):LA:=rs.foldl (fun A r=>layA A (r.a,r.b) (C3 r) none) []
def BQ (rs:List Road) (L:List Int):LA:=To (lay0 rs) L
structure Fl (m:Nat) (A:LA):Prop where
 nd:(A.map zI).Nodup
 rg:∀ p∈A.map zI,p.1≠p.2/\(0<=p.1/\p.1 < m)/\0<=p.2/\p.2 < m
theorem Fl.lay {m:Nat}{A:LA}(h:Fl m A){p:Int×Int}{c:Co}{mid:Option Int}(hp:p.1≠p.2/\(0<=p.1/\p.1 < m)/\0<=p.2/\p.2 < m):Fl m (layA A p c mid) :=
 ⟨Wh h.nd,fun q hq=>(YA hq).elim (h.rg q) fun e=>e▸hp⟩
theorem Fl.len {m:Nat}{A:LA}(h:Fl m A) (hm:m<=20):A.length < 1000:=by
 have:=Cm.len (B:=A.map zI) (m:=m) ⟨h.nd,fun x hx=>(h.rg _ hx).1 rfl,fun q hq=>⟨(h.rg q hq).2.1,(h.rg q hq).2.2⟩⟩ hm
 rwa[zc] at this
theorem K1 {α β:Type}{f:β->α->β}(P:List α->β->Prop):∀ {L pre:List α}{b:β},P pre b->(∀ a∈L,∀ pre b,P pre b->P (pre++[a]) (f b a))->P (pre++L) (L.foldl f b)
 |[],pre,b,h,_=>by rw[yq];exact h
 |a::L,pre,b,h,hs=>by
  have:=K1 P (L:=L) (hs a zd pre b h) fun x hx=>hs x (ze _ hx)
  rw[yN] at this
  exact this
def fC (rs:List Road) (A:LA):Prop:=∀ x y c,Ak A (x,y)=some c->Wk rs x y c
theorem fC.lay {rs:List Road}{A:LA}(h:fC rs A){x y:Int}{c:Co}{mid:Option Int}(hc:∀ p,c=some p->Wk rs x y p):fC rs (layA A (x,y) c mid):=fun u w d hd=>by
 rw[GO] at hd
 split at hd
 ·rename_i e
  cases e
  rcases Bk (Ak A (x,y)) c with ⟨e,_⟩|⟨e,_⟩
  ·rw[e] at hd;exact h _ _ _ hd
  ·rw[e] at hd;exact hc d hd
 ·exact h _ _ _ hd
structure Over (m:Nat) (rs:List Road) (p:Int) (H:List Int) (A0 A:LA):Prop where
 ok:Fl m A
 sd:fC rs A
 le:∀ q,BL (Ak A q) (Ak A0 q)
 sm:∀ x y,(x∉H\/y∉H)->Ak A (x,y)=Ak A0 (x,y)
theorem Wi {m:Nat}{rs:List Road}{p:Int}{H:List Int}{A0 A:LA}(hp:p∉H) (hH:∀ x∈H,0<=x/\x < m) (h:Over m rs p H A0 A){u w:Int}(hu:u∈H) (hw:w∈H):Over m rs p H A0 (PV p u A w)/\(u≠w->BL (Ak (PV p u A w) (u,w)) (Aq (Ak A0 (u,p)) (Ak A0 (p,w)))):=by
 unfold PV
 by_cases e:u=w
 ·rw[if_pos e];exact⟨h,fun z=>(z e).elim⟩
 ·rw[if_neg e]
  have e1:=h.sm u p (.inr hp)
  have e2:=h.sm p w (.inl hp)
  refine⟨⟨h.ok.lay ⟨e,hH u hu,hH w hw⟩,h.sd.lay fun c hc=>?_,fun q=>Ao (Tn _ _ _ _ _) (h.le q),fun x y bK=>?_⟩,fun _=>?_⟩
  ·obtain⟨a,b,ha,hb,rfl⟩:=F9 hc
   exact (h.sd _ _ _ ha).trans (h.sd _ _ _ hb)
  ·rw[GO,if_neg (fun z=>by cases z;exact bK.elim (fun q=>q hu) fun q=>q hw)]
   exact h.sm x y bK
  ·rw[GO,if_pos rfl,e1,e2]
   exact EC _ _
theorem gN {p u:Int}{A:LA}{w:Int}(q:Int×Int):BL (Ak (PV p u A w) q) (Ak A q):=by
 unfold PV
 split
 ·exact C2 _
 ·exact Tn _ _ _ _ _
theorem gO {p u:Int}(q:Int×Int):∀(H:List Int) (A:LA),BL (Ak (H.foldl (PV p u) A) q) (Ak A q)
 |[],A=>C2 _
 |w::H,A=>Ao (gO q H (PV p u A w)) (gN q)
theorem lI {m:Nat}{rs:List Road}{p:Int}{H:List Int}{A0 A:LA}(hp:p∉H) (hH:∀ x∈H,0<=x/\x < m) (h:Over m rs p H A0 A){u:Int}(hu:u∈H):Over m rs p H A0 (fB p H A u)/\∀ w∈H,u≠w->BL (Ak (fB p H A u) (u,w)) (Aq (Ak A0 (u,p)) (Ak A0 (p,w))):=by
 unfold fB
 have:=K1 (L:=H) (pre:=[]) (f:=PV p u) (b:=A) (fun W A=>Over m rs p H A0 A/\∀ w∈W,u≠w->BL (Ak A (u,w)) (Aq (Ak A0 (u,p)) (Ak A0 (p,w)))) ⟨h,fun w hw=>by cases hw⟩ fun w hw W B hB=>by
  obtain⟨b1,b2⟩:=hB
  obtain⟨c1,c2⟩:=Wi hp hH b1 hu hw
  refine⟨c1,fun x hx af=>?_⟩
  rcases zv.mp hx with hx|hx
  ·exact Ao (gN _) (b2 x hx af)
  ·rw[zg.mp hx] at af ⊢
   exact c2 af
 exact this
theorem YB {m:Nat}{rs:List Road}{p:Int}{H:List Int}{A:LA}(hp:p∉H) (hH:∀ x∈H,0<=x/\x < m) (h1:Fl m A) (h2:fC rs A):Over m rs p H A (lH A p H)/\∀ u∈H,∀ w∈H,u≠w->BL (Ak (lH A p H) (u,w)) (Aq (Ak A (u,p)) (Ak A (p,w))):=by
 unfold lH
 have:=K1 (L:=H) (pre:=[]) (f:=fB p H) (b:=A) (fun U B=>Over m rs p H A B/\∀ u∈U,∀ w∈H,u≠w->BL (Ak B (u,w)) (Aq (Ak A (u,p)) (Ak A (p,w)))) ⟨⟨h1,h2,fun q=>C2 _,fun x y _=>rfl⟩,fun u hu=>by cases hu⟩ fun u hu U B hB=>by
  obtain⟨b1,b2⟩:=hB
  obtain⟨c1,c2⟩:=lI hp hH b1 hu
  refine⟨c1,fun x hx w hw af=>?_⟩
  rcases zv.mp hx with hx|hx
  ·exact Ao (gO _ H B) (b2 x hx w hw af)
  ·rw[zg.mp hx] at af ⊢
   exact c2 w hw af
 exact this
theorem PX {m:Nat}{rs:List Road}(Au:∀ r∈rs,Ho m r/\r.a≠r.b):Fl m (lay0 rs)/\fC rs (lay0 rs)/\∀ r∈rs,BL (Ak (lay0 rs) (r.a,r.b)) (C3 r):=by
 unfold lay0
 have:=K1 (L:=rs) (pre:=[]) (f:=fun A r=>layA A (r.a,r.b) (C3 r) none) (b:=[]) (fun W A=>Fl m A/\fC rs A/\∀ r∈W,BL (Ak A (r.a,r.b)) (C3 r)) ⟨⟨by simp,fun p hp=>by cases hp⟩,⟨(fun _ _ _ h=>by cases h),fun r hr=>by cases hr⟩⟩ fun r hr W B hB=>by
  obtain⟨b1,b2,b3⟩:=hB
  obtain⟨o1,o2⟩:=Au r hr
  refine⟨b1.lay ⟨o2,⟨o1.a0,o1.a1⟩,o1.b0,o1.b1⟩,b2.lay fun c hc=>?_,fun x hx=>?_⟩
  ·obtain⟨l,hl,rfl⟩:=Jg hc
   exact Wk.one hr hl
  ·rcases zv.mp hx with hx|hx
   ·exact Ao (Tn _ _ _ _ _) (b3 x hx)
   ·rw[zg.mp hx,GO,if_pos rfl]
    exact EC _ _
 exact this
def Dy:List Int->Int->Nat
 |[],_=>0
 |a::l,x=>if a=x then 0 else Dy l x + 1
theorem V0:∀ {pre post:List Int}{p:Int},p∉pre->Dy (pre++p::post) p=pre.length
 |[],post,p,_=>by simp[Dy]
 |a::pre,post,p,h=>by
  rw[zo,not_or] at h
  rw[List.cons_append,Dy,if_neg (zU h.1),V0 h.2];rfl
theorem Tp:∀ {pre post:List Int}{x:Int},x∈pre->Dy (pre++post) x < pre.length
 |a::pre,post,x,h=>by
  rw[List.cons_append,Dy]
  by_cases e:a=x
  ·rw[if_pos e];simp
  ·rw[if_neg e,zk]
   have:=Tp (post:=post) ((zo.mp h).resolve_left (zU e))
   omega
theorem PY:∀ {pre post:List Int}{x:Int},x∉pre->pre.length<=Dy (pre++post) x
 |[],post,x,_=>zP _
 |a::pre,post,x,h=>by
  rw[zo,not_or] at h
  rw[List.cons_append,Dy,if_neg (zU h.1),zk]
  have:=PY (post:=post) h.2
  omega
theorem PZ:∀ {L:List Int}{x y:Int},x∈L->y∈L->Dy L x=Dy L y->x=y
 |a::l,x,y,hx,hy,e=>by
  rw[Dy,Dy] at e
  by_cases h1:a=x
  ·by_cases h2:a=y
   ·rw[<-h1,<-h2]
   ·rw[if_pos h1,if_neg h2] at e;omega
  ·by_cases h2:a=y
   ·rw[if_neg h1,if_pos h2] at e;omega
   ·rw[if_neg h1,if_neg h2] at e
    exact PZ ((zo.mp hx).resolve_left (zU h1)) ((zo.mp hy).resolve_left (zU h2)) (by omega)
theorem Tq {L:List Int}{x:Int}(h:Dy L x < L.length):x∈L:=by
 refine yD fun hn=>?_
 have:=PY (pre:=L) (post:=[]) hn
 rw[yq] at this
 omega
theorem YC:∀(L:List Int) (x:Int),Dy L x<=L.length
 |[],_=>zx _
 |a::l,x=>by
  rw[Dy,zk]
  split
  ·omega
  ·have:=YC l x;omega
theorem La:∀ {L:List Int}{p:Int},p∈L->∃ pre post,L=pre++p::post/\p∉pre
 |a::l,p,h=>by
  by_cases ha:a=p
  ·subst ha;exact⟨[],l,rfl,by simp⟩
  ·obtain⟨pre,post,e2,hn⟩:=La ((zo.mp h).resolve_left (zU ha))
   exact⟨a::pre,post,by rw[List.cons_append,<-e2],by simp[zU ha,hn]⟩
theorem YD {L:List Int}{p:Int}(h:Dy L p < L.length):∃ pre post,L=pre++p::post/\p∉pre/\∀ x,Dy L p < Dy L x->x∈L->x∈post:=by
 obtain⟨pre,post,e,hn⟩:=La (Tq h)
 refine⟨pre,post,e,hn,fun x hr hx=>?_⟩
 subst e
 rw[V0 hn] at hr
 rcases zv.mp hx with hx|hx
 ·have:=Tp (post:=p::post) hx;omega
 ·rcases zo.mp hx with rfl|hx
  ·rw[V0 hn] at hr;omega
  ·exact hx
theorem lJ {m:Nat}{rs:List Road}{L:List Int}(hL:L.Nodup) (hr:∀ x∈L,0<=x/\x < m):∀(post pre:List Int) (A:LA),L=pre++post->Fl m A->fC rs A->(∀ r∈rs,BL (Ak A (r.a,r.b)) (C3 r))->
 (∀ pa p pb,L=pa++p::pb->pa.length < pre.length->∀ x∈pb,∀ y∈pb,x≠y->BL (Ak A (x,y)) (Aq (Ak A (x,p)) (Ak A (p,y))))->
 Fl m (To A post)/\fC rs (To A post)/\(∀ r∈rs,BL (Ak (To A post) (r.a,r.b)) (C3 r))/\∀ pa p pb,L=pa++p::pb->∀ x∈pb,∀ y∈pb,x≠y->BL (Ak (To A post) (x,y)) (Aq (Ak (To A post) (x,p)) (Ak (To A post) (p,y))):=by
 intro post
 induction post with
 |nil =>
  intro pre A e h1 h2 h3 h4
  rw[yq] at e
  refine⟨h1,h2,h3,fun pa p pb e2=>h4 pa p pb e2 ?_⟩
  rw[<-e,e2,zJ,zk]
  omega
 |cons p post ih =>
  intro pre A e h1 h2 h3 h4
  rw[To]
  have hn:(pre++p::post).Nodup:=e▸hL
  rw[zH,yk] at hn
  have bI:∀ x∈post,0<=x/\x < m:=fun x hx=>hr x (by rw[e];simp[hx])
  obtain⟨o,ov⟩:=YB (p:=p) hn.2.1.1 bI h1 h2
  refine ih (pre++[p]) (lH A p post) (by rw[e];simp) o.ok o.sd (fun r bq=>Ao (o.le _) (h3 r bq)) fun pa q pb e2 aj x hx y hy af=>?_
  rw[zJ,y8] at aj
  by_cases hq:pa.length < pre.length
  ·-- an lx one
   have u6:q∉post:=fun eo=>by
    have e3:pre++p::post=pa++q::pb:=by rw[<-e,e2]
    have q1:q∈pre:=by
     have:=congrArg (fun l=>l[pa.length]?) e3
     rw[yw hq,yE (zx _),Nat.sub_self] at this
     exact zj this
    exact hn.2.2 q q1 q (ze _ eo) rfl
   rw[o.sm x q (.inr u6),o.sm q y (.inl u6)]
   exact Ao (o.le _) (h4 pa q pb e2 hq x hx y hy af)
  ·have a6:pa.length=pre.length:=by omega
   have e3:pa++q::pb=pre++p::post:=by rw[<-e2,e]
   obtain⟨rfl,e4⟩:=List.append_inj e3 a6
   cases e4
   rw[o.sm x p (.inr hn.2.1.1),o.sm p y (.inl hn.2.1.1)]
   exact ov x hx y hy af
theorem N9 {m:Nat}{rs:List Road}{L:List Int}(hL:L.Perm (AR m)) (Au:∀ r∈rs,Ho m r/\r.a≠r.b):Fl m (BQ rs L)/\Si m rs (Dy L) (fun x y=>Ak (BQ rs L) (x,y)):=by
 have o8:L.Nodup:=IH hL
 obtain⟨a1,a2,a3⟩:=PX Au
 obtain⟨b1,b2,b3,b4⟩:=lJ o8 (fun x hx=>(B2 hL).mp hx) L [] (lay0 rs) rfl a1 a2 a3 (fun pa p pb _ h=>by simp at h)
 refine⟨b1,fun x y c h=>?_,b3,fun p x y af h1 h2=>?_,fun x y x0 x1 y0 y1 e=>PZ ((B2 hL).mpr ⟨x0,x1⟩) ((B2 hL).mpr ⟨y0,y1⟩) e,fun x y c h=>Wk.nn (fun r hr=>(Au r hr).1) h⟩
 ·have hm:(x,y)∈(To (lay0 rs) L).map zI:=by
   rw[<-HP]
   unfold Ak at h
   cases q:AE (BQ rs L) (x,y) with
   |none=>rw[q] at h;cases h
   |some z=>unfold BQ at q;rw[q];rfl
  have:=b1.rg _ hm
  exact⟨b2 _ _ _ h,this.1,this.2.1,this.2.2⟩
 ·have be:∀ {x y:Int} {c:Int×Int},Ak (BQ rs L) (x,y)=some c->x∈L/\y∈L:=fun {x y c} h=>by
   have hm:(x,y)∈(To (lay0 rs) L).map zI:=by
    rw[<-HP]
    unfold Ak at h
    cases q:AE (BQ rs L) (x,y) with
    |none=>rw[q] at h;cases h
    |some z=>unfold BQ at q;rw[q];rfl
   have:=b1.rg _ hm
   exact⟨(B2 hL).mpr this.2.1,(B2 hL).mpr this.2.2⟩
  have a6:Dy L p < L.length:=zy h1 (YC L x)
  obtain⟨pre,post,e,hn,d6⟩:=YD a6
  cases q1:Ak (BQ rs L) (x,p) with
  |none=>cases Ak (BQ rs L) (x,y)<;>exact trivial
  |some c1 =>
   cases q2:Ak (BQ rs L) (p,y) with
   |none=>cases Ak (BQ rs L) (x,y)<;>exact trivial
   |some c2 =>
    have r:=b4 pre p post e x (d6 x h1 (be q1).1) y (d6 y h2 (be q2).2) af
    rw[<-q1,<-q2]
    exact r
end L2
namespace L2
abbrev CA:=List ((Int×Int)×(Int×Int))
def M6 (C:CA):D:=.Bg true (C.map fun kv=>pD kv.1) (C.map fun kv=>cst (some kv.2))
def mI (C:CA):OT:=.Bg true (C.map fun kv=>pD kv.1) ((C.map fun kv=>cst (some kv.2)).map .sh)
abbrev RA:=List (Int×(Int×Int))
def YE (R:RA):D:=.Bg false (R.map fun kv=>D.int kv.1) (R.map fun kv=>cst (some kv.2))
def Z3 (R:RA):OT:=.Bg false (R.map fun kv=>D.int kv.1) ((R.map fun kv=>cst (some kv.2)).map .sh)
theorem Q0 (A:LA):er (IU A)=L9 A:=IG
theorem Q1 (C:CA):er (mI C)=M6 C:=IG
theorem Q2 (R:RA):er (Z3 R)=YE R:=IG
theorem KG (i:Int):keyOk false (.int i)=true:=rfl
theorem Q3 (A:LA) (p:Int×Int) (neg:Bool):Jn neg (pD p) (L9 A)=.ok (.bl (if neg=true then !(AE A p).isSome else (AE A p).isSome)):=by
 unfold L9 Jn
 dsimp only
 rw[if_pos (GI p),JZ GH]
theorem Q4 {A:LA}{p:Int×Int}{v:(Int×Int)×Option Int}(h:AE A p=some v):B3 (L9 A) (pD p)=.ok (Wg v):=by
 unfold L9 B3
 dsimp only
 rw[if_pos (GI p),GN GH,h];rfl
theorem lK (C:CA) (p:Int×Int) (neg:Bool):Jn neg (pD p) (M6 C)=.ok (.bl (if neg=true then !(AE C p).isSome else (AE C p).isSome)):=by
 unfold M6 Jn
 dsimp only
 rw[if_pos (GI p),JZ GH]
theorem lL {C:CA}{p:Int×Int}{c:Int×Int}(h:AE C p=some c):B3 (M6 C) (pD p)=.ok (cst (some c)):=by
 unfold M6 B3
 dsimp only
 rw[if_pos (GI p),GN (vf:=fun c=>cst (some c)) GH,h];rfl
theorem lM (C:CA) (p:Int×Int):OU (M6 C) (.ok (pD p))=.ok (cst (AE C p)):=by
 unfold M6 OU
 simp only[M.A7]
 rw[if_pos (GI p),GN (vf:=fun c=>cst (some c)) GH]
 cases AE C p<;>rfl
theorem lN (R:RA) (p:Int) (neg:Bool):Jn neg (.int p) (YE R)=.ok (.bl (if neg=true then !(AE R p).isSome else (AE R p).isSome)):=by
 unfold YE Jn
 dsimp only
 rw[if_pos (KG p),JZ (kf:=D.int) K0]
theorem lO {R:RA}{p:Int}{c:Int×Int}(h:AE R p=some c):B3 (YE R) (.int p)=.ok (cst (some c)):=by
 unfold YE B3
 dsimp only
 rw[if_pos (KG p),GN (kf:=D.int) (vf:=fun c=>cst (some c)) K0,h];rfl
theorem YF (R:RA) (p:Int):OU (YE R) (.ok (.int p))=.ok (cst (AE R p)):=by
 unfold YE OU
 simp only[M.A7]
 rw[if_pos (KG p),GN (kf:=D.int) (vf:=fun c=>cst (some c)) K0]
 cases AE R p<;>rfl
theorem YG (A:LA) (p:Int×Int) (v:(Int×Int)×Option Int):putD (A.map fun kv=>pD kv.1) (A.map fun kv=>Wg kv.2) (pD p) (Wg v)=((Dq A p v).map (fun kv=>pD kv.1),(Dq A p v).map fun kv=>Wg kv.2):=N8 GH A p v
theorem lP (R:RA) (p:Int) (c:Int×Int):putD (R.map fun kv=>D.int kv.1) (R.map fun kv=>cst (some kv.2)) (.int p) (cst (some c))=((Dq R p c).map (fun kv=>D.int kv.1),(Dq R p c).map fun kv=>cst (some kv.2)):=N8 (kf:=D.int) (vf:=fun c=>cst (some c)) K0 R p c
theorem V1 {α:Type}(k v:α->D):∀ l:List α,Wf (l.map fun x=>.tup [k x,v x])=some (l.map fun x=>(k x,v x))
 |[]=>rfl
 |x::l=>by rw[zf,Wf,V1 k v l];rfl
theorem gQ:∀(C C0:CA),((C0++C).map zI).Nodup->(C.map fun kv=>(pD kv.1,cst (some kv.2))).foldl (fun z kv=>putD z.1 z.2 kv.1 kv.2) (C0.map (fun kv=>pD kv.1),C0.map fun kv=>cst (some kv.2))=((C0++C).map (fun kv=>pD kv.1),(C0++C).map fun kv=>cst (some kv.2))
 |[],C0,_=>by simp
 |kv::C,C0,hn=>by
  obtain⟨p,c⟩:=kv
  rw[zf,zS]
  dsimp only
  have h0:AE C0 p=none:=by
   rw[Yx]
   intro hm
   rw[zL,zH] at hn
   exact hn.2.2 p hm p (by simp) rfl
  have e:Dq C0 p c=C0++[(p,c)]:=by unfold Dq;rw[h0];rfl
  rw[N8 (vf:=fun c=>cst (some c)) GH,e,gQ C (C0++[(p,c)]) (by rw[yN];exact hn),yN]
  rfl
theorem YH {C:CA}(hn:(C.map zI).Nodup) (hl:C.length<=1000):eU (.lst (C.map fun kv=>.tup [pD kv.1,cst (some kv.2)]))=.ok (mI C):=by
 unfold eU
 dsimp only
 rw[V1 (fun kv:(Int×Int)×(Int×Int)=>pD kv.1) (fun kv=>cst (some kv.2))]
 dsimp only
 have e:=gQ C [] hn
 rw[if_pos ⟨by rw[zc];exact hl,by rw[List.all_map];exact List.all_eq_true.mpr fun x _=>rfl⟩]
 have e2:qJ (C.map fun kv=>(pD kv.1,cst (some kv.2)))=(C.map (fun kv=>pD kv.1),C.map fun kv=>cst (some kv.2)):=e
 rw[e2];rfl
def B7 (m:Nat) (rs:List Road) (L:List Int) (A:LA) (K:List (Int×Int)):D:=.ins "Ladder" ["own_map","own_order","laid","kept_ones"] [As m rs,.lst (L.map D.int),L9 A,.lst (K.map pD)]
structure Cq (m:Nat) (rs:List Road) (L:List Int) (A:LA) (K:List (Int×Int)):Prop where
 m1:1<=m
 m2:m<=16
 rl:rs.length<=60
 ok:∀ r∈rs,Ho m r/\r.a≠r.b
 pm:L.Perm (AR m)
 la:A=BQ rs L
 kn:K.Nodup
 km:∀ p,p∈K↔∃ c,Ak A p=some c/\BO rs p.1 p.2 (some c)
theorem Cq.sI {m:Nat}{rs:List Road}{L:List Int}{A:LA}{K:List (Int×Int)}(h:Cq m rs L A K):Fl m A:=by
 rw[h.la];exact (N9 h.pm h.ok).1
theorem Cq.gM {m:Nat}{rs:List Road}{L:List Int}{A:LA}{K:List (Int×Int)}(h:Cq m rs L A K):Si m rs (Dy L) (fun x y=>Ak A (x,y)):=by
 rw[h.la];exact (N9 h.pm h.ok).2
theorem Fg {A:LA}{p:Int×Int}{c:Int×Int}(h:Ak A p=some c):p∈A.map zI:=by
 rw[<-HP]
 unfold Ak at h
 cases q:AE A p with
 |none=>rw[q] at h;cases h
 |some z=>rfl
theorem Cq.Wu {m:Nat}{rs:List Road}{L:List Int}{A:LA}{K:List (Int×Int)}(h:Cq m rs L A K){p:Int×Int}(hp:p∈K):p.1≠p.2/\(0<=p.1/\p.1 < m)/\0<=p.2/\p.2 < m:=by
 obtain⟨c,hc,_⟩:=(h.km p).mp hp
 exact h.sI.rg p (Fg hc)
theorem Cq.kl {m:Nat}{rs:List Road}{L:List Int}{A:LA}{K:List (Int×Int)}(h:Cq m rs L A K):K.length < 1000 :=
 Cm.len (m:=m) ⟨h.kn,fun x hx=>(h.Wu hx).1 rfl,fun q hq=>⟨(h.Wu hq).2.1,(h.Wu hq).2.2⟩⟩ (by have:=h.m2;omega)
def Ib (A:LA) (K:List (Int×Int)):CA:=K.map fun p=>(p,(Ak A p).getD (0,0))
theorem Na (A:LA) (K:List (Int×Int)):(Ib A K).map zI=K:=by
 unfold Ib
 rw[zY]
 exact (List.map_congr_left fun p _=>rfl).trans (List.map_id K)
theorem Cq.kept {m:Nat}{rs:List Road}{L:List Int}{A:LA}{K:List (Int×Int)}(h:Cq m rs L A K):Kept rs (fun x y=>Ak A (x,y)) (fun x y=>AE (Ib A K) (x,y)):=fun x y c=>by
 have hn:((Ib A K).map zI).Nodup:=by rw[Na];exact h.kn
 constructor
 ·intro hf
  have hm:=PR hf
  unfold Ib at hm
  obtain⟨p,hp,e⟩:=zA.mp hm
  obtain⟨c',hc,cb⟩:=(h.km p).mp hp
  rw[hc] at e
  cases e
  exact⟨hc,cb⟩
 ·rintro ⟨h1,h2⟩
  refine Yy hn ?_
  unfold Ib
  exact zA.mpr ⟨(x,y),(h.km (x,y)).mpr ⟨c,h1,h2⟩,by rw[show Ak A (x,y)=some c from h1];rfl⟩
def RI (C:CA):CA:=C.map fun kv=>((kv.1.2,kv.1.1),kv.2)
theorem Wj {C:CA}(h:(C.map zI).Nodup):((RI C).map zI).Nodup:=by
 have e:(RI C).map zI=(C.map zI).map fun p=>(p.2,p.1):=by
  unfold RI;rw[zY,zY];rfl
 rw[e]
 exact (List.pairwise_map.mpr (h.imp fun {a b} ic e=>ic (by cases a;cases b;cases e;rfl)))
theorem Q5 (x y:Int):∀ C:CA,AE (RI C) (x,y)=AE C (y,x)
 |[]=>rfl
 |((a,b),c)::C=>by
  unfold RI
  rw[zf,AE,AE]
  have:=Q5 x y C
  unfold RI at this
  rw[this]
  by_cases h:a=y/\b=x
  ·rw[if_pos (by rw[h.1,h.2]),if_pos (by rw[h.1,h.2])]
  ·rw[if_neg (fun e=>h (by cases e;exact⟨rfl,rfl⟩)),if_neg (fun e=>h (by cases e;exact⟨rfl,rfl⟩))]
theorem sJ (p q:Int×Int):Yp (cst (some p)) (cst (some q))=.ok (.bl (decide (p.1 < q.1\/(p.1=q.1/\p.2 < q.2)))):=by
 rw[<-EX];rfl
theorem Ts {m:M Out}{t r:OT}(h:WP m (fun ρ=>GF ρ=some t/\OT.sh .Az=r) (fun o=>match o with | .F8 r' ρ=>GF ρ=some t/\r'=r | _=>False) (fun _=>False)):Ed m=.ok (t,r):=by
 cases m with
 |bad=>exact h.elim
 |ex x=>exact h.elim
 |ok o =>
  cases o with
  |next ρ=>obtain⟨h1,h2⟩:=(show GF ρ=some t/\OT.sh .Az=r from h);unfold Ed;dsimp only;rw[h1,<-h2]
  |F8 r' ρ=>obtain⟨h1,h2⟩:=(show GF ρ=some t/\r'=r from h);unfold Ed;dsimp only;rw[h1,<-h2]
  |ret d=>exact h.elim
  |CI d=>exact h.elim
  |brk d=>exact h.elim
  |cont d=>exact h.elim
theorem KH {F:OT->List D->M (OT×OT)}{ρ:Ab}{p:Option Nat}{t t2 r:OT}{a7:List D}{i:Nat}(h:ρ[i]? =some (some (.ow (.tree p t)))) (hN:Y0 t=true) (hF:F t a7=.ok (t2,r)):Rj i F ρ [] a7=.ok (ρ.set i (some (toCl p t2)),r):=by
 rw[Y1 h rfl rfl hN hF,Fb]
theorem DQ {A:LA}{p:Option Nat}{ρ:Ab}:G5 0 (some (.ow (.tree p (IU A)))::ρ) []=.ok (true,A.map (fun kv=>pD kv.1),A.map fun kv=>Wg kv.2):=D5
theorem HQ {R:RA}{p:Option Nat}{ρ:Ab}:G5 0 (some (.ow (.tree p (Z3 R)))::ρ) []=.ok (false,R.map (fun kv=>D.int kv.1),R.map fun kv=>cst (some kv.2)):=D5
theorem Fl.ov {m:Nat}{A:LA}(h:Fl m A){p u w:Int}(hu:0<=u/\u < m) (hw:0<=w/\w < m):Fl m (PV p u A w):=by
 unfold PV
 split
 ·exact h
 ·rename_i e;exact h.lay ⟨e,hu,hw⟩
theorem Fl.ou {m:Nat}{p u:Int}(hu:0<=u/\u < m):∀ {H:List Int}{A:LA},Fl m A->(∀ x∈H,0<=x/\x < m)->Fl m (H.foldl (PV p u) A)
 |[],A,h,_=>h
 |w::H,A,h,hH=>by
  have r:=Fl.ou (A:=PV p u A w) (H:=H) (p:=p) hu (h.ov hu (hH w zd)) fun x hx=>hH x (ze _ hx)
  exact r
theorem Eg {α β:Type}{f:β->α->β}{l:List α}{i:Nat}{x:α}{b:β}(h:l[i]? =some x):(l.take (i + 1)).foldl f b=f ((l.take i).foldl f b) x:=by
 rw[yu,h,Option.toList_some,List.foldl_append];rfl
theorem Fl.lo {m:Nat}{p:Int}{H0:List Int}(h0:∀ x∈H0,0<=x/\x < m):∀ {H:List Int}{A:LA},Fl m A->(∀ x∈H,0<=x/\x < m)->Fl m (H.foldl (fB p H0) A)
 |[],A,h,_=>h
 |w::H,A,h,hH=>by
  have r:=Fl.lo (p:=p) (A:=fB p H0 A w) (H:=H) h0 (Fl.ou (hH w zd) h h0) fun x hx=>hH x (ze _ hx)
  exact r
theorem M7 (c:Co):Sg (.ok (.sh (cst c)))=.ok (.sh (cst c)):=by
 cases c<;>rfl
def sL (a b:List Co×Bool):Prop:=b.2=true/\(a.2=false\/(a.2=true/\NH ltN a.1 b.1))
theorem lQ (x:List Co):Acc sL (x,false):=.intro _ fun y h=>by cases h.1
theorem lR (x:List Co):Acc sL (x,true):=by
 have:=VI x
 induction this with
 |intro x _ ih =>
  refine .intro _ fun y h=>?_
  obtain⟨y,b⟩:=y
  rcases h.2 with e|⟨e,h2⟩
  ·dsimp only at e;subst e;exact lQ y
  ·dsimp only at e;subst e;exact ih y h2
theorem Tt (n:Nat):Cj 0 n=(AR n).map D.int:=by rw[Mz,MX]
theorem N3.uQ {m:Nat}{r:Road}(h:N3 m r):Ho m r/\r.a≠r.b:=⟨⟨h.a0,h.a1,h.b0,h.b1,fun l hl=>(h.l0 l hl).1⟩,h.ab⟩
def KP (rs:List Road) (A:LA) (p:Int×Int):Prop:=∃ c,Ak A p=some c/\BO rs p.1 p.2 (some c)
def pM (A:LA) (cs:List Co) (u w:Int):Bool:=match Ak A (u,w) with
 |none=>false
 |some c=>decide (some c=atC cs w)
theorem YI {m s:Nat}{rs:List Road}{cs:List Co}{A:LA}(hR:Right m s rs cs) (Au:∀ r∈rs,Ho m r){w:Int}(h0:0<=w) (h1:w < m):pM A cs s w=true↔KP rs A (s,w):=by
 have hm:=hR.XF Au h0 h1
 unfold pM KP
 cases q:Ak A ((s:Int),w) with
 |none=>simp
 |some c =>
  dsimp only
  constructor
  ·intro h
   have e:=of_decide_eq_true h
   exact⟨c,rfl,e▸hm⟩
  ·rintro ⟨c',e,h⟩
   cases e
   exact decide_eq_true (h.Cp hm)
theorem lS {m:Nat}{rs:List Road}{A:LA}{K:List (Int×Int)}(hA:Fl m A) (hm:m<=20) (hn:K.Nodup) (hK:∀ p∈K,KP rs A p):K.length < 1000:=by
 have hr:∀ p∈K,p.1≠p.2/\(0<=p.1/\p.1 < m)/\0<=p.2/\p.2 < m:=fun p hp=>by
  obtain⟨c,hc,_⟩:=hK p hp
  exact hA.rg p (Fg hc)
 exact Cm.len (m:=m) ⟨hn,fun x hx=>(hr _ hx).1 rfl,fun q hq=>⟨(hr q hq).2.1,(hr q hq).2.2⟩⟩ hm
theorem KI:∀ ds:List D,(∀ d∈ds,Jb d=true)->G4 (ds.map .sh)=true
 |[],_=>rfl
 |d::ds,h=>by
  rw[zf,G4,GD,h d zd,KI ds fun x hx=>h x (ze _ hx)];rfl
theorem Nb {ds:List D}(h:∀ d∈ds,Jb d=true):Sg (.ok (.lst (ds.map .sh)))=.ok (.lst (ds.map .sh)):=by
 unfold Sg
 simp only[M.A7]
 rw[GD,KI ds h];rfl
theorem YJ (L:List Int):Sg (.ok (.lst ((L.map D.int).map .sh)))=.ok (.lst ((L.map D.int).map .sh)):=Nb fun d hd=>by
 obtain⟨x,_,rfl⟩:=zA.mp hd;rfl
theorem fD (K:List (Int×Int)):Sg (.ok (.lst ((K.map pD).map .sh)))=.ok (.lst ((K.map pD).map .sh)):=Nb fun d hd=>by
 obtain⟨x,_,rfl⟩:=zA.mp hd;exact Y8 x
theorem YK (cs:List Co):Sg (.ok (.lst ((cs.map cst).map .sh)))=.ok (.lst ((cs.map cst).map .sh)):=Nb fun d hd=>by
 obtain⟨x,_,rfl⟩:=zA.mp hd;exact Uw x
theorem lT (v:(Int×Int)×Option Int):Jb (Wg v)=true:=by
 obtain⟨c,l⟩:=v
 cases l<;>rfl
theorem fE (A:LA):Sg (.ok (IU A))=.ok (IU A):=by
 unfold Sg IU
 simp only[M.A7]
 rw[GD,KI _ fun d hd=>by
  obtain⟨x,_,rfl⟩:=zA.mp hd;exact lT x.2]
 rfl
theorem Q6 {L:List Int}(hn:L.Nodup){i:Nat}{x:Int}(h:L[i]? =some x):Dy L x=i:=by
 have aj:=(zw.mp h).1
 have e:L=L.take i++x::L.drop (i + 1):=by
  have h2:L.drop i=x::L.drop (i + 1):=by
   rw[List.drop_eq_getElem_cons aj]
   rw[zq aj] at h
   rw[zM h]
  rw[<-h2,y7]
 have hx:x∉L.take i:=fun hm=>by
  rw[e,zH] at hn
  exact hn.2.2 x hm x zd rfl
 rw[e,V0 hx,yt]
 omega
theorem V2 {L:List Int}(hn:L.Nodup){i:Nat}{y:Int}(h:y∈L.drop i):i<=Dy L y:=by
 have hy:y∉L.take i:=fun hm=>by
  rw[<-y7 i L,zH] at hn
  exact hn.2.2 y hm y h rfl
 have h1:=PY (pre:=L.take i) (post:=L.drop i) hy
 rw[y7,yt] at h1
 have h2:L.drop i≠[]:=fun e=>by rw[e] at h;cases h
 have h3:i < L.length:=by
  rw[Ne,List.drop_eq_nil_iff] at h2
  omega
 omega
theorem fF {L:List Int}{i:Nat}{y:Int}(h:y∈L) (hr:i<=Dy L y):y∈L.drop i:=by
 rw[<-y7 i L] at h
 rcases zv.mp h with h|h
 ·have h1:=Tp (post:=L.drop i) h
  rw[y7,yt] at h1
  omega
 ·exact h
structure Qy (L:List Int) (C:CA) (s:Int) (i:Nat) (R:RA):Prop where
 nd:(R.map zI).Nodup
 rg:∀ k∈R.map zI,k∈L
 st:BL (AE R s) (some (0,0))
 sd:∀ y c,AE R y=some c->NU (fun x y=>AE C (x,y)) (Dy L) s y c
 cl:∀ x y,Dy L x < i->Dy L x < Dy L y->BL (AE R y) (Aq (AE R x) (AE C (x,y)))
structure gR (L:List Int) (C:CA) (s:Int) (i:Nat) (x:Int) (c0:Int×Int) (W:List Int) (R0 R:RA):Prop where
 nd:(R.map zI).Nodup
 rg:∀ k∈R.map zI,k∈L
 sd:∀ y c,AE R y=some c->NU (fun x y=>AE C (x,y)) (Dy L) s y c
 le:∀ y,BL (AE R y) (AE R0 y)
 sm:∀ y,Dy L y<=i->AE R y=AE R0 y
 cw:∀ y∈W,BL (AE R y) (Aq (some c0) (AE C (x,y)))
theorem gR.put {L:List Int}{C:CA}{s:Int}{i:Nat}{x:Int}{c0:Int×Int}{W:List Int}{R0 R:RA}(h:gR L C s i x c0 W R0 R){y:Int}{d v:Int×Int}(hy:y∈L) (hr:i < Dy L y) (hx:Dy L x=i) (pw:AE R0 x=some c0) (hd:AE C (x,y)=some d) (hv:Dx (AE R y) (some (c0.1 + d.1,c0.2 + d.2))=some v):gR L C s i x c0 (W++[y]) R0 (Dq R y v):=by
 have hle:BL (some v) (AE R y):=hv▸EB _ _
 refine⟨KD h.nd,fun k hk=>(N7 hk).elim (h.rg k) fun e=>e▸hy,fun z c hz=>?_,fun z=>?_,fun z hz=>?_,fun z hz=>?_⟩
 ·rw[HN] at hz
  split at hz
  ·rename_i e
   subst e
   cases hz
   rcases Bk (AE R z) (some (c0.1 + d.1,c0.2 + d.2)) with ⟨e,_⟩|⟨e,_⟩
   ·rw[hv] at e;exact h.sd z _ e.symm
   ·rw[hv] at e
    cases e
    have ax:=h.sd x c0 (by rw[h.sm x (by omega)];exact pw)
    exact .snoc ax (by omega) hd
  ·exact h.sd z c hz
 ·rw[HN]
  split
  ·rename_i e;subst e;exact Ao hle (h.le z)
  ·exact h.le z
 ·rw[HN,if_neg (fun e=>by subst e;omega)]
  exact h.sm z hz
 ·rw[HN]
  split
  ·rename_i e
   subst e
   rw[hd]
   exact hv▸EC _ _
  ·rename_i e
   rcases zv.mp hz with hz|hz
   ·exact h.cw z hz
   ·exact (e (zg.mp hz)).elim
theorem gR.skip {L:List Int}{C:CA}{s:Int}{i:Nat}{x:Int}{c0:Int×Int}{W:List Int}{R0 R:RA}(h:gR L C s i x c0 W R0 R){y:Int}(hd:AE C (x,y)=none):gR L C s i x c0 (W++[y]) R0 R :=
 ⟨h.nd,h.rg,h.sd,h.le,h.sm,fun z hz=>by
  rcases zv.mp hz with hz|hz
  ·exact h.cw z hz
  ·rw[zg.mp hz,hd];cases AE R y<;>exact trivial⟩
theorem Qy.go {L:List Int}{C:CA}{s:Int}{i:Nat}{x:Int}{c0:Int×Int}{R0 R:RA}(hC:∀ p c,AE C p=some c->p.2∈L) (h0:Qy L C s i R0) (hx:L[i]? =some x) (hn:L.Nodup) (hc:AE R0 x=some c0) (h:gR L C s i x c0 (L.drop (i + 1)) R0 R):Qy L C s (i + 1) R:=by
 have ie:=Q6 hn hx
 refine⟨h.nd,h.rg,Ao (h.le s) h0.st,h.sd,fun u y hu hy=>?_⟩
 by_cases e:Dy L u < i
 ·rw[h.sm u (by omega)]
  exact Ao (h.le y) (h0.cl u y e hy)
 ·have e2:Dy L u=i:=by omega
  have hi:=(zw.mp hx).1
  have qo:u∈L:=Tq (by omega)
  have eu:u=x:=PZ qo (zj hx) (by omega)
  subst eu
  rw[h.sm u (by omega),hc]
  cases q:AE C (u,y) with
  |none=>cases AE R y<;>exact trivial
  |some d =>
   have:=h.cw y (fF (hC _ _ q) (by omega))
   rw[q] at this
   exact this
theorem Qy.skip {L:List Int}{C:CA}{s:Int}{i:Nat}{x:Int}{R:RA}(h0:Qy L C s i R) (hx:L[i]? =some x) (hn:L.Nodup) (hc:AE R x=none):Qy L C s (i + 1) R:=by
 have ie:=Q6 hn hx
 refine⟨h0.nd,h0.rg,h0.st,h0.sd,fun u y hu hy=>?_⟩
 by_cases e:Dy L u < i
 ·exact h0.cl u y e hy
 ·have hi:=(zw.mp hx).1
  have eu:u=x:=PZ (Tq (by omega)) (zj hx) (by omega)
  subst eu
  rw[hc]
  cases AE C (u,y)<;>cases AE R y<;>exact trivial
theorem Qy.start {L:List Int}{C:CA}{s:Int}(hs:s∈L):Qy L C s 0 [(s,(0,0))]:=by
 refine⟨by simp,fun k hk=>by simp at hk;rw[hk];exact hs,by simp[AE,BL],fun y c h=>?_,fun x y h=>by omega⟩
 simp only[AE] at h
 split at h
 ·rename_i e;subst e;cases h;exact .nil
 ·cases h
theorem Qy.uR {m:Nat}{L:List Int}{C:CA}{s:Int}{R:RA}(h:Qy L C s L.length R) (hC:∀ p c,AE C p=some c->p.1∈L/\p.2∈L):qK (Dy L) (fun x y=>AE C (x,y)) s (AE R):=by
 refine⟨h.st,fun x y hr=>?_,h.sd⟩
 cases q:AE C (x,y) with
 |none=>cases AE R x<;>cases AE R y<;>exact trivial
 |some d =>
  have hx:Dy L x < L.length:=zy hr (YC L y)
  have:=h.cl x y hx hr
  rw[q] at this
  exact this
structure YL (m:Nat) (L:List Int) (C:CA) (s:Int) (R:RA) (W:List Int) (T:List Co):Prop where
 len:T.length=m
 no:∀ x:Int,0<=x->x < m->x∉W->atC T x=none
 top:∀ x∈W,BL (atC T x) (AE R x)
 cl:∀ x∈W,∀ y∈W,Dy L y < Dy L x->BL (atC T y) (Aq (atC T x) (AE C (x,y)))
 sd:∀(x:Int) c,0<=x->x < m->atC T x=some c->∃ t n c1 c2,NU (fun x y=>AE C (x,y)) (Dy L) s t c1/\RF (fun x y=>AE C (x,y)) (Dy L) t n x c2/\c=(c1.1 + c2.1,c1.2 + c2.2)
theorem YL.step {m:Nat}{L:List Int}{C:CA}{s:Int}{R:RA}{W:List Int}{T:List Co}(hR:∀ y c,AE R y=some c->NU (fun x y=>AE C (x,y)) (Dy L) s y c) (h:YL m L C s R W T){y:Int}(qq:0<=y) (w5:y < m) (qr:y∉W) (hW:∀ x∈W,(0<=x/\x < m)/\Dy L y < Dy L x) :
 YL m L C s R (W++[y]) (T.set y.toNat (Fw (AE R y::W.map fun x=>Aq (atC T x) (AE C (x,y))))):=by
 obtain⟨v,hv⟩:∃ v,v=Fw (AE R y::W.map fun x=>Aq (atC T x) (AE C (x,y))):=⟨_,rfl⟩
 rw[<-hv]
 have bp:∀ i:Int,0<=i->atC (T.set y.toNat v) i=if i=y then v else atC T i:=fun i hi=>Hq qq hi (by rw[h.len];exact w5)
 have bK:∀ x∈W,x≠y:=fun x hx e=>qr (e▸hx)
 refine⟨by rw[yl];exact h.len,fun x h0 h1 hx=>?_,fun x hx=>?_,fun x hx z hz hr=>?_,fun x c h0 h1 hx=>?_⟩
 ·rw[zv,not_or] at hx
  rw[bp x h0,if_neg (fun e=>hx.2 (zg.mpr e))]
  exact h.no x h0 h1 hx.1
 ·rcases zv.mp hx with hx|hx
  ·rw[bp x (hW x hx).1.1,if_neg (bK x hx)];exact h.top x hx
  ·have e:=zg.mp hx
   subst e
   rw[bp x qq,if_pos rfl,hv]
   exact LF zd
 ·rcases zv.mp hx with ax|ax
  ·rcases zv.mp hz with bA|bA
   ·rw[bp x (hW x ax).1.1,if_neg (bK x ax),bp z (hW z bA).1.1,if_neg (bK z bA)];exact h.cl x ax z bA hr
   ·have e:=zg.mp bA
    rw[e] at hr ⊢
    rw[bp x (hW x ax).1.1,if_neg (bK x ax),bp y qq,if_pos rfl,hv]
    exact LF (ze _ (zA.mpr ⟨x,ax,rfl⟩))
  ·have e:=zg.mp ax
   rw[e] at hr
   rcases zv.mp hz with bA|bA
   ·have:=(hW z bA).2;omega
   ·rw[zg.mp bA] at hr
    omega
 ·rw[bp x h0] at hx
  split at hx
  ·rename_i e
   subst e
   rw[hv] at hx
   rcases Jd (AE R x::W.map fun z=>Aq (atC T z) (AE C (z,x))) with e|e
   ·rw[e] at hx;cases hx
   ·rw[hx] at e
    rcases zo.mp e with e|e
    ·exact⟨x,0,c,(0,0),hR x c e.symm,.nil,by simp⟩
    ·obtain⟨z,hz,e⟩:=zA.mp e
     obtain⟨p,q,e1,e2,rfl⟩:=F9 e
     obtain⟨t,n,c1,c2,g1,g2,rfl⟩:=h.sd z p (hW z hz).1.1 (hW z hz).1.2 e1
     exact⟨t,n + 1,c1,_,g1,.snoc g2 (hW z hz).2 e2,by simp only[yZ]⟩
  ·exact h.sd x c h0 h1 hx
theorem YL.start {m:Nat}{L:List Int}{C:CA}{s:Int}{R:RA}:YL m L C s R [] (zt m none):=by
 have d4:∀ x:Int,atC (zt m none) x=none:=fun x=>by
  unfold atC
  rw[zB,yB]
  split<;>rfl
 exact⟨by simp,fun x _ _ _=>d4 x,(fun x hx=>by cases hx),(fun x hx=>by cases hx),fun x c _ _ h=>by rw[d4] at h;cases h⟩
end L2
namespace L2
theorem lU {a b g i:Int}(ha:0<=a/\a < L8) (hb:0<=b/\b < L8) (hg:0<=g/\g < L8) (h0:0<=i) (h1:i < 8):∃ l:Option Int,B3 (.lst [.Az,.int 0,.int 0,.int 1,.int a,.int b,.int g,.int g]) (.int i)=.ok (GC l)/\∀ z,l=some z->0<=z/\z < L8:=by
 have ht:=PN
 have hi:i=0\/i=1\/i=2\/i=3\/i=4\/i=5\/i=6\/i=7:=by omega
 rcases hi with rfl|rfl|rfl|rfl|rfl|rfl|rfl|rfl
 ·exact⟨none,rfl,fun z e=>by cases e⟩
 ·exact⟨some 0,rfl,fun z e=>by cases e;omega⟩
 ·exact⟨some 0,rfl,fun z e=>by cases e;omega⟩
 ·exact⟨some 1,rfl,fun z e=>by cases e;omega⟩
 ·exact⟨some a,rfl,fun z e=>by cases e;exact ha⟩
 ·exact⟨some b,rfl,fun z e=>by cases e;exact hb⟩
 ·exact⟨some g,rfl,fun z e=>by cases e;exact hg⟩
 ·exact⟨some g,rfl,fun z e=>by cases e;exact hg⟩
theorem lV {a b i:Int}(ha:0<=a/\a < L8) (hb:0<=b/\b < L8) (h0:0<=i) (h1:i < 2):∃ w:Int,B3 (.lst [.int a,.int b]) (.int i)=.ok (.int w)/\0<=w/\w < L8:=by
 have hi:i=0\/i=1:=by omega
 rcases hi with rfl|rfl
 ·exact⟨a,rfl,ha⟩
 ·exact⟨b,rfl,hb⟩
theorem fG {α:Type}{a b c d e f g h:D}{x y:α}:(if [a,b,c,d,e,f,g,h].length<=1000 then x else y)=x:=if_pos (by simp)
theorem V3 (r:Road):dp (.ok (BF r))=.ok (BF r):=by
 obtain⟨a,b,l,w⟩:=r
 cases l<;>rfl
theorem Q7 (i:Int):dp (.ok (.int i))=.ok (.int i):=rfl
theorem Tu {ρ:Ab}{i m:Nat}{ad:List (List Co)}{x y:Int}(h:ρ[i]? =some (some (.ow (.rows (AB ad))))) (hM:NR m ad) (h0:0<=x) (h1:x < m) (h2:0<=y) (h3:y < m):ZZ i ρ (.ok (.int x)) (.ok (.int y))=.ok (cst (at2 ad x y)):=by
 unfold ZZ
 rw[h]
 simp only[M.A7]
 rw[R9 hM h0 h1]
 exact cW hM h0 h1 h2 h3
theorem fH {ρ:Ab}{i m:Nat}{ad:List (List Co)}{x y:Int}{v:Co}(h:ρ[i]? =some (some (.ow (.rows (AB ad))))) (hM:NR m ad) (h0:0<=x) (h1:x < m) (h2:0<=y) (h3:y < m):Us i ρ (.ok (.int x)) (.ok (.int y)) (cst v)=.ok (.next (ρ.set i (some (.ow (.rows (AB (put2 ad x y v))))))):=by
 unfold Us
 rw[h]
 simp only[M.A7]
 rw[R9 hM h0 h1]
 exact cX hM h0 h1 h2 h3 i ρ v
theorem RJ:∀(n:Nat) (B:List (Int×Int)) (L:List Int),L.length=n->(Sh n B L).Perm L
 |0,B,L,h=>by rw[List.length_eq_zero_iff.mp h];exact .refl _
 |n + 1,B,L,h=>by
  have af:L≠[]:=fun e=>by rw[e] at h;cases h
  have hm:=(OL (B:=B) af).1
  rw[Sh,if_neg af]
  refine List.Perm.trans ?_ (List.perm_cons_erase hm).symm
  exact (RJ n _ _ (by rw[List.length_erase_of_mem hm,h];rfl)).cons _
theorem V4 (cs:List Co):Pl 16 (.lst (cs.map cst)):=(Xw (n:=1) fun d hd=>by
 obtain⟨c,_,rfl⟩:=zA.mp hd
 exact MK (n:=0) c).le (by decide)
theorem lW {m:Nat}{rs:List Road}{ad:List (List Co)}{T:List Co}{s:Int}(hM:NR m ad) (hA:∀ x y:Int,0<=x->x < m->0<=y->y < m->BO rs x y (at2 ad x y)) (h0:0<=s) (h1:s < m) (hl:T.length=m) (hT:∀ w:Int,0<=w->w < m->BO rs s w (atC T w)):T=ad.getD s.toNat []:=by
 have hg:=(hM.get h0 h1).2
 apply List.ext_getElem?
 intro i
 by_cases hi:i < m
 ·have q:=(hT i (by omega) (by omega)).Cp (hA s i h0 h1 (by omega) (by omega))
  have e1:=Cs (cs:=T) (i:=(i:Int)) (by omega) (by rw[hl];omega)
  have e2:=Cs (cs:=ad.getD s.toNat []) (i:=(i:Int)) (by omega) (by rw[hg];omega)
  rw[zX] at e1 e2
  rw[e1,e2,q]
  rfl
 ·rw[yG (by omega),yG (by omega)]
theorem lX {m:Nat}{rs:List Road}{ad:List (List Co)}{T:List Co}{s:Int}(hM:NR m ad) (hA:∀ x y:Int,0<=x->x < m->0<=y->y < m->BO rs x y (at2 ad x y)) (h0:0<=s) (h1:s < m) (hl:T.length=m) (hT:∀ w:Int,0<=w->w < m->BO rs w s (atC T w)):T=ad.map fun R=>atC R s:=by
 apply List.ext_getElem?
 intro i
 by_cases hi:i < m
 ·have q:=(hT i (by omega) (by omega)).Cp (hA i s (by omega) (by omega) h0 h1)
  have e1:=Cs (cs:=T) (i:=(i:Int)) (by omega) (by rw[hl];omega)
  rw[zX] at e1
  have e2:=(hM.get (x:=(i:Int)) (by omega) (by omega)).1
  rw[zX] at e2
  rw[e1,q,zF,e2]
  unfold at2
  rw[zX]
  rfl
 ·rw[yG (by omega),yG (by rw[zc,hM.len];omega)]
end L2
namespace L2
open PySem PySem.Spec PyProof.Rows
structure FP (K:za) (x:Str) (st:Stmt):Prop where
 ex:∃(f:Addr) (oc:Value) (od an:Option Addr) (sl:Array (Option Value)) (kV dc pm cd ct:Value),zD K mainGlobals x=some (some (.ref f))/\K.lookup f=some ⟨oc,od,.func (yh x x (Bf st) (AJ st) (A4 st) .none kV dc pm an cd ct),sl⟩/\y3 K cd x=true/\yi K (.ref f)=true
theorem pN {K:za}{x:Str}{st:Stmt}{f:Addr}{oc:Value}{od an:Option Addr}{sl:Array (Option Value)}{kV dc pm cd ct:Value}(a:zD K mainGlobals x=some (some (.ref f))) (l:K.lookup f=some ⟨oc,od,.func (yh x x (Bf st) (AJ st) (A4 st) .none kV dc pm an cd ct),sl⟩) (c:y3 K cd x=true) (k:yi K (.ref f)=true):FP K x st:=⟨⟨f,oc,od,an,sl,kV,dc,pm,cd,ct,a,l,c,k⟩⟩
theorem AS {K:za}{mg:Str->Option Value}{h:Heap}{x:Str}{st:Stmt}{ps:List Str}(X:K.In h) (G:h.Ns mainGlobals mg) (p:FP K x st) (hb:∀(kV dc pm:Value) (an:Option Addr) (cd ct:Value) (us:List Value),us.length=ps.length->bindArgs (yh x x (Bf st) (AJ st) (A4 st) .none kV dc pm an cd ct) ⟨us,[]⟩=pure (ps.zip us)):Ai K mg x st ps:=by
 obtain⟨f,oc,od,an,sl,kV,dc,pm,cd,ct,a,l,c,k⟩:=p.ex
 have F:=SE (st:=st) l c k
 exact⟨⟨_,_,F,PySem.W.mg_of X G a,F.binds hb⟩⟩
structure MP (K:za) (C:Addr) (m qual:Str) (st:Stmt):Prop where
 ex:∃(f:Addr) (oc:Value) (od an:Option Addr) (sl:Array (Option Value)) (kV dc pm cd ct:Value),yg K (.ref C) m=some (some (.ref f))/\PySem.W.isFn K (.ref f)=true/\K.lookup f=some ⟨oc,od,.func (yh m qual (Bf st) (AJ st) (A4 st) .none kV dc pm an cd ct),sl⟩/\y3 K cd qual=true/\yi K (.ref f)=true
theorem V5 {K:za}{C:Addr}{m qual:Str}{st:Stmt}{f:Addr}{oc:Value}{od an:Option Addr}{sl:Array (Option Value)}{kV dc pm cd ct:Value}(a:yg K (.ref C) m=some (some (.ref f))) (i:PySem.W.isFn K (.ref f)=true) (l:K.lookup f=some ⟨oc,od,.func (yh m qual (Bf st) (AJ st) (A4 st) .none kV dc pm an cd ct),sl⟩) (c:y3 K cd qual=true) (k:yi K (.ref f)=true):MP K C m qual st:=⟨⟨f,oc,od,an,sl,kV,dc,pm,cd,ct,a,i,l,c,k⟩⟩
theorem V6 {K:za}{C:Addr}{x m qual:Str}{st:Stmt}{ps:List Str}(aC:zD K mainGlobals x=some (some (.ref C))) (cl:Vj K C) (p:MP K C m qual st) (hb:∀(kV dc pm:Value) (an:Option Addr) (cd ct:Value) (us:List Value),us.length=ps.length->bindArgs (yh m qual (Bf st) (AJ st) (A4 st) .none kV dc pm an cd ct) ⟨us,[]⟩=pure (ps.zip us)):Ia K x m qual st ps:=by
 obtain⟨f,oc,od,an,sl,kV,dc,pm,cd,ct,a,i,l,c,k⟩:=p.ex
 have F:=SE (st:=st) l c k
 exact⟨⟨_,_,_,aC,cl,⟨a,i,k⟩,F,F.binds hb⟩⟩
end L2
set_option maxHeartbeats 4000000
namespace K51
open PySem L2
def top (i:Nat):Stmt:=PySem.Challenge.pw_nodeladder_k51_swept.main.body.getD i (.Pass ⟨0,0,0,0⟩)
abbrev Cc:Stmt:=top 7
theorem K2:Ae ["thing","bound"] ["thing","bound"] (A4 Cc):=⟨rfl,rfl,rfl,by decide +kernel,rfl,by decide +kernel,by decide +kernel⟩
abbrev Dz:Stmt:=top 8
theorem NV:Ae ["thing"] ["thing"] (A4 Dz):=⟨rfl,rfl,rfl,by decide +kernel,rfl,by decide +kernel,by decide +kernel⟩
abbrev HR:Stmt:=top 9
theorem Tv:Ae ["thing","many"] ["thing","many"] (A4 HR):=⟨rfl,rfl,rfl,by decide +kernel,rfl,by decide +kernel,by decide +kernel⟩
abbrev K3:Stmt:=top 10
theorem KJ:Ae ["thing","many","roads"] ["thing"] (A4 K3):=⟨rfl,rfl,rfl,by decide +kernel,rfl,by decide +kernel,by decide +kernel⟩
abbrev HS:Stmt:=top 11
theorem Tw:Ae ["thing"] ["thing"] (A4 HS):=⟨rfl,rfl,rfl,by decide +kernel,rfl,by decide +kernel,by decide +kernel⟩
abbrev M8:Stmt:=top 12
theorem YM:Ae ["one","other"] ["one","other"] (A4 M8):=⟨rfl,rfl,rfl,by decide +kernel,rfl,by decide +kernel,by decide +kernel⟩
abbrev M9:Stmt:=top 13
theorem YN:Ae ["some"] ["some"] (A4 M9):=⟨rfl,rfl,rfl,by decide +kernel,rfl,by decide +kernel,by decide +kernel⟩
abbrev EE:Stmt:=top 14
theorem Q8:Ae ["road"] ["road"] (A4 EE):=⟨rfl,rfl,rfl,by decide +kernel,rfl,by decide +kernel,by decide +kernel⟩
abbrev DB:Stmt:=top 16
theorem NW:Ae ["ladder"] ["ladder"] (A4 DB):=⟨rfl,rfl,rfl,by decide +kernel,rfl,by decide +kernel,by decide +kernel⟩
abbrev BA:Stmt:=top 17
theorem GP:Ae ["ladder"] ["ladder"] (A4 BA):=⟨rfl,rfl,rfl,by decide +kernel,rfl,by decide +kernel,by decide +kernel⟩
abbrev HU:Stmt:=top 18
theorem D7:Ae ["order","costs","place","reached","rank","lower","higher","cost"] ["order","costs","place"] (A4 HU):=⟨rfl,rfl,rfl,by decide +kernel,rfl,by decide +kernel,by decide +kernel⟩
abbrev Ma:Stmt:=top 20
theorem Fh:Ae ["order","costs","place","reached","told","higher","lower","over"] ["order","costs","place"] (A4 Ma):=⟨rfl,rfl,rfl,by decide +kernel,rfl,by decide +kernel,by decide +kernel⟩
abbrev EF:Stmt:=top 21
theorem Q9:Ae ["ladder","start"] ["ladder","start"] (A4 EF):=⟨rfl,rfl,rfl,by decide +kernel,rfl,by decide +kernel,by decide +kernel⟩
abbrev FC:Stmt:=top 22
theorem RK:Ae ["ladder","goal"] ["ladder","goal"] (A4 FC):=⟨rfl,rfl,rfl,by decide +kernel,rfl,by decide +kernel,by decide +kernel⟩
abbrev De:Stmt:=top 24
theorem Nc:Ae ["laid","pair"] ["laid","pair"] (A4 De):=⟨rfl,rfl,rfl,by decide +kernel,rfl,by decide +kernel,by decide +kernel⟩
abbrev V7:Stmt:=top 25
theorem lY:Ae ["laid","pair","cost","middle"] ["laid","pair","cost","middle"] (A4 V7):=⟨rfl,rfl,rfl,by decide +kernel,rfl,by decide +kernel,by decide +kernel⟩
abbrev FD:Stmt:=top 26
theorem EG:Ae ["laid","place","higher","u","w","cost"] ["laid","place","higher"] (A4 FD):=⟨rfl,rfl,rfl,by decide +kernel,rfl,by decide +kernel,by decide +kernel⟩
abbrev EH:Stmt:=top 27
theorem CM:Ae ["net","order","laid","road","rank","place"] ["net","order"] (A4 EH):=⟨rfl,rfl,rfl,by decide +kernel,rfl,by decide +kernel,by decide +kernel⟩
abbrev FE:Stmt:=top 29
theorem RL:Ae ["net","thing"] ["net","thing"] (A4 FE):=⟨rfl,rfl,rfl,by decide +kernel,rfl,by decide +kernel,by decide +kernel⟩
abbrev Ct:Stmt:=top 30
theorem KL:Ae ["net","thing"] ["net","thing"] (A4 Ct):=⟨rfl,rfl,rfl,by decide +kernel,rfl,by decide +kernel,by decide +kernel⟩
abbrev DC:Stmt:=top 31
theorem F0:Ae ["net","bows","road"] ["net"] (A4 DC):=⟨rfl,rfl,rfl,by decide +kernel,rfl,by decide +kernel,by decide +kernel⟩
abbrev CN:Stmt:=top 32
theorem BR:Ae ["bows","left","place","ahead","behind","missing","u"] ["bows","left","place"] (A4 CN):=⟨rfl,rfl,rfl,by decide +kernel,rfl,by decide +kernel,by decide +kernel⟩
abbrev FF:Stmt:=top 33
theorem RM:Ae ["bows","left"] ["bows","left"] (A4 FF):=⟨rfl,rfl,rfl,by decide +kernel,rfl,by decide +kernel,by decide +kernel⟩
abbrev K4:Stmt:=top 34
theorem DR:Ae ["net","bows","left","order","place","bow"] ["net"] (A4 K4):=⟨rfl,rfl,rfl,by decide +kernel,rfl,by decide +kernel,by decide +kernel⟩
abbrev DD:Stmt:=top 36
theorem Bv:Ae ["net","start","costs","changed","road","cost"] ["net","start"] (A4 DD):=⟨rfl,rfl,rfl,by decide +kernel,rfl,by decide +kernel,by decide +kernel⟩
abbrev BY:Stmt:=top 38
theorem IK:Ae ["net","order"] ["net","order"] (A4 BY):=⟨rfl,rfl,rfl,by decide +kernel,rfl,by decide +kernel,by decide +kernel⟩
abbrev EI:Stmt:=top 39
theorem DF:Ae ["net","laid","kept","u","costs"] ["net","laid"] (A4 EI):=⟨rfl,rfl,rfl,by decide +kernel,rfl,by decide +kernel,by decide +kernel⟩
abbrev Ap:Stmt:=inClass (top 40) 0
theorem IL:Ae ["self","net","order"] ["self","net","order"] (A4 Ap):=⟨rfl,rfl,rfl,by decide +kernel,rfl,by decide +kernel,by decide +kernel⟩
abbrev CO:Stmt:=inClass (top 40) 2
theorem Ls:Ae ["self"] ["self"] (A4 CO):=⟨rfl,rfl,rfl,by decide +kernel,rfl,by decide +kernel,by decide +kernel⟩
abbrev Bq:Stmt:=inClass (top 40) 4
theorem CW:Ae ["self","u","w","many"] ["self","u","w"] (A4 Bq):=⟨rfl,rfl,rfl,by decide +kernel,rfl,by decide +kernel,by decide +kernel⟩
abbrev Df:Stmt:=inClass (top 40) 5
theorem Nd:Ae ["self","u","w"] ["self","u","w"] (A4 Df):=⟨rfl,rfl,rfl,by decide +kernel,rfl,by decide +kernel,by decide +kernel⟩
abbrev Dg:Stmt:=inClass (top 40) 8
theorem Nf:Ae ["self"] ["self"] (A4 Dg):=⟨rfl,rfl,rfl,by decide +kernel,rfl,by decide +kernel,by decide +kernel⟩
abbrev Dh:Stmt:=top 42
theorem Ng:Ae ["_law_script","_law_k"] ["_law_script","_law_k"] (A4 Dh):=⟨rfl,rfl,rfl,by decide +kernel,rfl,by decide +kernel,by decide +kernel⟩
abbrev HV:Stmt:=top 43
theorem Nh:Ae ["_law_cell","_law_k","_law_number"] ["_law_cell","_law_k"] (A4 HV):=⟨rfl,rfl,rfl,by decide +kernel,rfl,by decide +kernel,by decide +kernel⟩
abbrev EJ:Stmt:=top 44
theorem Qa:Ae ["_law_cell","_law_k"] ["_law_cell","_law_k"] (A4 EJ):=⟨rfl,rfl,rfl,by decide +kernel,rfl,by decide +kernel,by decide +kernel⟩
abbrev EK:Stmt:=top 45
theorem Qb:Ae ["_law_found"] ["_law_found"] (A4 EK):=⟨rfl,rfl,rfl,by decide +kernel,rfl,by decide +kernel,by decide +kernel⟩
abbrev Di:Stmt:=top 46
theorem Ni:Ae ["_law_found"] ["_law_found"] (A4 Di):=⟨rfl,rfl,rfl,by decide +kernel,rfl,by decide +kernel,by decide +kernel⟩
abbrev Cu:Stmt:=top 47
theorem KN:Ae ["_law_found","_law_many"] ["_law_found","_law_many"] (A4 Cu):=⟨rfl,rfl,rfl,by decide +kernel,rfl,by decide +kernel,by decide +kernel⟩
abbrev EL:Stmt:=top 48
theorem B9:Ae ["_law_cells","_law_many","_law_roads_here","_law_k","_law_mixed","_law_great_here","_law_one","_law_other","_law_small","_law_length"] ["_law_cells","_law_many"] (A4 EL):=⟨rfl,rfl,rfl,by decide +kernel,rfl,by decide +kernel,by decide +kernel⟩
abbrev EM:Stmt:=top 49
theorem FG:Ae ["_law_cell","_law_many","_law_order_here","_law_place"] ["_law_cell","_law_many"] (A4 EM):=⟨rfl,rfl,rfl,by decide +kernel,rfl,by decide +kernel,by decide +kernel⟩
abbrev EN:Stmt:=top 50
theorem Qc:Ae ["_law_one","_law_other"] ["_law_one","_law_other"] (A4 EN):=⟨rfl,rfl,rfl,by decide +kernel,rfl,by decide +kernel,by decide +kernel⟩
abbrev EO:Stmt:=top 51
theorem Qd:Ae ["_law_some"] ["_law_some"] (A4 EO):=⟨rfl,rfl,rfl,by decide +kernel,rfl,by decide +kernel,by decide +kernel⟩
abbrev FH:Stmt:=top 52
theorem RN:Ae ["_law_road"] ["_law_road"] (A4 FH):=⟨rfl,rfl,rfl,by decide +kernel,rfl,by decide +kernel,by decide +kernel⟩
abbrev EQ:Stmt:=top 53
theorem Br:Ae ["_law_roads_here","_law_many","_law_costs_here","_law_u","_law_v","_law_row","_law_road","_law_w"] ["_law_roads_here","_law_many"] (A4 EQ):=⟨rfl,rfl,rfl,by decide +kernel,rfl,by decide +kernel,by decide +kernel⟩
abbrev G7:Stmt:=top 54
theorem Eh:Ae ["_law_script","_law_first","_law_many","_law_roads_here","_law_costs_here","_law_k","_law_ladder","_law_place","_law_found"] ["_law_script"] (A4 G7):=⟨rfl,rfl,rfl,by decide +kernel,rfl,by decide +kernel,by decide +kernel⟩
structure Txt (K:za) (mg:Str->Option Value):Prop where
 KO:Ai K mg "is_whole_below" Cc ["thing","bound"]
 Qe:Ai K mg "is_measure" Dz ["thing"]
 Wl:Ai K mg "is_road" HR ["thing","many"]
 YO:Ai K mg "is_map" K3 ["thing"]
 Wm:Ai K mg "checked" HS ["thing"]
 fI:Ai K mg "added" M8 ["one","other"]
 fJ:Ai K mg "least" M9 ["some"]
 RO:Ai K mg "road_cost" EE ["road"]
 Qf:Ai K mg "kept_costs" DB ["ladder"]
 HX:Ai K mg "kept_costs_turned" BA ["ladder"]
 Wn:Ai K mg "climbed" HU ["order","costs","place"]
 fK:Ai K mg "swept" Ma ["order","costs","place"]
 RP:Ai K mg "costs_out" EF ["ladder","start"]
 Tx:Ai K mg "costs_in" FC ["ladder","goal"]
 NX:Ai K mg "cost_so_far" De ["laid","pair"]
 pO:Ai K mg "lay" V7 ["laid","pair","cost","middle"]
 Tz:Ai K mg "lay_over" FD ["laid","place","higher"]
 RQ:Ai K mg "laid_arcs" EH ["net","order"]
 TB:Ai K mg "is_order" FE ["net","thing"]
 Lu:Ai K mg "checked_order" Ct ["net","thing"]
 Qg:Ai K mg "first_bows" DC ["net"]
 Nj:Ai K mg "missing_bows" CN ["bows","left","place"]
 TC:Ai K mg "lightest" FF ["bows","left"]
 YQ:Ai K mg "ranked" K4 ["net"]
 Qh:Ai K mg "costs_from" DD ["net","start"]
 K5:Ai K mg "order_or_ranked" BY ["net","order"]
 RS:Ai K mg "kept_arcs" EI ["net","laid"]
 K6:Tj K mg "Ladder" "Ladder.__init__" Ap ["self","net","order"]
 Nk:Ia K "Ladder" "order" "Ladder.order" CO ["self"]
 GQ:Ia K "Ladder" "checked_arc" "Ladder.checked_arc" Bq ["self","u","w"]
 NY:Ia K "Ladder" "cost" "Ladder.cost" Df ["self","u","w"]
 NZ:Ia K "Ladder" "kept" "Ladder.kept" Dg ["self"]
 O0:Ai K mg "_law_cell_at" Dh ["_law_script","_law_k"]
 Wo:Ai K mg "_law_mix" HV ["_law_cell","_law_k"]
 RT:Ai K mg "_law_great" EJ ["_law_cell","_law_k"]
 RU:Ai K mg "_law_whole" EK ["_law_found"]
 O1:Ai K mg "_law_is_cost" Di ["_law_found"]
 Lw:Ai K mg "_law_are_costs" Cu ["_law_found","_law_many"]
 RV:Ai K mg "_law_roads" EL ["_law_cells","_law_many"]
 RW:Ai K mg "_law_order" EM ["_law_cell","_law_many"]
 RX:Ai K mg "_law_added" EN ["_law_one","_law_other"]
 RY:Ai K mg "_law_least" EO ["_law_some"]
 TF:Ai K mg "_law_open" FH ["_law_road"]
 RZ:Ai K mg "_law_costs" EQ ["_law_roads_here","_law_many"]
 uS:Ai K mg "law" G7 ["_law_script"]
 YR:mg "all" = none
 YS:mg "bool" = none
 YT:mg "dict" = none
 Lb:mg "enumerate" = none
 YU:mg "int" = none
 B0:mg "isinstance" = none
 G8:mg "len" = none
 F1:mg "list" = none
 YV:mg "min" = none
 CP:mg "range" = none
 TH:mg "reversed" = none
 YW:mg "sorted" = none
 Mb:mg "tuple" = none
 fL:ClsAt K mg "NoArc"
 fM:ClsAt K mg "NoMap"
 Wq:ClsAt K mg "NoOrder"
 Ei:I9 K "Ladder" "kept_ones"
 Dj:I9 K "Ladder" "laid"
 BE:I9 K "Ladder" "own_map"
 Cy:I9 K "Ladder" "own_order"
local macro_rules | `(tactic| simp_arith [$xs,*])=>`(tactic| simp only [qC,qD,M2,List.set_cons_zero,List.set_cons_succ,M.A7,Hs,Hr,Ji,JC,JD,JE,LP,IG,Ky,Ro,Jt,Ju,Hw,UC,LM,LN,Jv,dQ,Hx,Hy,Fy,PH,D5,PJ,Jw,Jx,Hz,UH,Js,Fb,toCl_list,toCl_listP,toCl_dct,LQ,JF,JG,JH,JI,LR,JJ,JK,JL,mG,oU,Jy,UI,Jz,UJ,JA,JB,LO,UK,qE,qG,dU,dW,dX,dY,dZ,eA,toCl_nil,J9,Jp,Oq,PL,HA,LS,LU,JM,JN,LV,LW,LX,LY,LZ,JO,JP,JQ,JR,HB,HC,HD,HE,HF,JS,HG,HH,UL,UM,UN,UO,UP,HI,ite_tt,ite_ff,Bool.not_true,Bool.not_false,List.getElem?_cons_zero,List.getElem?_cons_succ,Ff,JV,JW,dS,eK,dR,eN,eO,eQ,M3,Q0,Q1,Q2,DQ,HQ,M7,Pu,fG,V3,Q7,$xs,*])
variable {P:Program}{w:World}{K:za}{mg:Str->Option Value}{base:Heap}
theorem CQ:∃ F:List D->M OT,(∀ {P:Program}{w:World}{K:za}{mg:Str->Option Value}{base:Heap},Txt K mg->BS P w K mg base "is_whole_below" 1 2 F)/\(∀(d:D) (n:Int),Uc d=false->F [d,.int n]=.ok (.sh (.bl (Kf d n)))):=by
 refine⟨_,fun T=>AD (k:=0) T.KO K2 _ (fun f AZ A outer s H E hr=>(A5 (Am (AX (Mv (EU (QW _) rfl T.B0 rfl T.YU (by decide +kernel) (A1 0 (pv 0))) (Mv (Xl (EU (Ou _) rfl T.B0 rfl T.YS (by decide +kernel) (A1 0 (pv 0)))) (Kn (Vw nF fR A6 (A1 0 (pv 0)) (A1 1 (pv 1)))))))))),?_⟩
 intro d n hx
 have e0:AG ["thing","bound"] [d,.int n]=[some (.val d),some (.val (.int n))]:=rfl
 rw[e0]
 refine Bo ?_
 simp_arith[QV hx]
 cases d with
 |int j =>
  simp_arith[]
  unfold Kf
  by_cases h1:0<=j<;>by_cases h2:j < n<;>simp[h1,h2,EW,Ff]<;>rfl
 |DH x=>cases hx
 |ins x n d=>cases hx
 |_=>rfl
noncomputable def G9:List D->M OT:=zi CQ
theorem AU:Txt K mg->BS P w K mg base "is_whole_below" 1 2 G9:=(zb CQ).1
theorem AL:∀(d:D) (n:Int),Uc d=false->G9 [d,.int n]=.ok (.sh (.bl (Kf d n))):=(zb CQ).2
theorem F2:∃ F:List D->M OT,(∀ {P:Program}{w:World}{K:za}{mg:Str->Option Value}{base:Heap},Txt K mg->BS P w K mg base "is_measure" 2 1 F)/\(∀ d:D,Uc d=false->F [d]=.ok (.sh (.bl (Kf d L8)))):=by
 refine⟨_,fun T=>AD (k:=1) T.Qe NV _ (fun f AZ A outer s H E hr=>(A5 (Am (Aa A9.toXCall (AU T) (hr.mono (by decide)) rfl (A2 (A1 0 (pv 0)) (A2 (Xi A6 A6) A8)) rfl)))),?_⟩
 intro d hx
 have e0:AG ["thing"] [d]=[some (.val d)]:=rfl
 rw[e0]
 have h1:=AL d L8 hx
 refine Bo ?_
 simp_arith[gK,h1]
 rfl
noncomputable def Lc:List D->M OT:=zi F2
theorem Ic:Txt K mg->BS P w K mg base "is_measure" 2 1 Lc:=(zb F2).1
theorem Ie:∀ d:D,Uc d=false->Lc [d]=.ok (.sh (.bl (Kf d L8))):=(zb F2).2
theorem IM:∃ F:List D->M OT,(∀ {P:Program}{w:World}{K:za}{mg:Str->Option Value}{base:Heap},Txt K mg->BS P w K mg base "is_road" 3 2 F)/\(∀(d:D) (m:Int),cl 1 d->F [d,.int m]=.ok (.sh (.bl (EY m d)))):=by
 refine⟨_,fun T=>AD (k:=2) T.Wl Tv _ (fun f AZ A outer s H E hr=>(A3 (B5 (DW.dt (E6 (Ci (BV (c:=true) (EU (Iy _) rfl T.B0 rfl T.Mb (by decide +kernel) (A1 0 (pv 0))))) (CK (G3 (c:=true) (AO hr 16 (by decide)) (Dp rfl T.G8 (A1 0 (pv 0))) A6)))) (A5 (Am (AX CC))) AA) (A3 (B5 (DW.dt (E6 (Ci (BV (c:=true) (Aj (Aa A9.toXCall (AU T) (hr.mono (by decide)) rfl (A2 (Ac (AO hr 16 (by decide)) (A1 0 (pv 0)) A6) (A2 (A1 1 (pv 1)) A8)) rfl)))) (CK (Ci (BV (c:=true) (Aj (Aa A9.toXCall (AU T) (hr.mono (by decide)) rfl (A2 (Ac (AO hr 16 (by decide)) (A1 0 (pv 0)) A6) (A2 (A1 1 (pv 1)) A8)) rfl))))))) (A5 (Am (AX CC))) AA) (A3 (B5 (L0 (c:=true) (AO hr 16 (by decide)) (Ac (AO hr 16 (by decide)) (A1 0 (pv 0)) A6) (Ac (AO hr 16 (by decide)) (A1 0 (pv 0)) A6)) (A5 (Am (AX CC))) AA) (A5 (Am (AX (Mv (fX (Xk (Ac (AO hr 16 (by decide)) (A1 0 (pv 0)) A6)) (Kn (Aj (Aa A9.toXCall (Ic T) (hr.mono (by decide)) rfl (A2 (Ac (AO hr 16 (by decide)) (A1 0 (pv 0)) A6) A8) rfl)))) (Kn (Aj (Aa A9.toXCall (Ic T) (hr.mono (by decide)) rfl (A2 (Ac (AO hr 16 (by decide)) (A1 0 (pv 0)) A6) A8) rfl))))))))))),?_⟩
 intro d m hc
 have e0:AG ["thing","many"] [d,.int m]=[some (.val d),some (.val (.int m))]:=rfl
 rw[e0]
 have hx:=hc.x
 refine Bo ?_
 cases d with
 |tup ds =>
  have b6:∀ e∈ds,Uc e=false:=fun e he=>(hc.2 ds (.inl rfl) e he).x
  rcases ds with _|⟨a,_|⟨b,_|⟨l,_|⟨w,_|⟨z,r⟩⟩⟩⟩⟩
  ·rfl
  ·rfl
  ·rfl
  ·rfl
  ·have i0:B3 (.tup [a,b,l,w]) (.int 0)=.ok a:=rfl
   have i1:B3 (.tup [a,b,l,w]) (.int 1)=.ok b:=rfl
   have i2:B3 (.tup [a,b,l,w]) (.int 2)=.ok l:=rfl
   have i3:B3 (.tup [a,b,l,w]) (.int 3)=.ok w:=rfl
   have ha:=AL a m (b6 a (by simp))
   have hb:=AL b m (b6 b (by simp))
   have hl:=Ie l (b6 l (by simp))
   have hw:=Ie w (b6 w (by simp))
   apply wp_step
   ·rfl
   unfold EY
   dsimp only
   cases qa:Kf a m with
   |false=>simp_arith[i0,ha,qa,EW];rfl
   |true =>
    cases qb:Kf b m with
    |false=>simp_arith[i0,i1,ha,hb,qa,qb,EW];rfl
    |true =>
     apply wp_step
     ·simp_arith[i0,i1,ha,hb,qa,qb,EW];rfl
     cases a with
     |int x =>
      cases b with
      |int y =>
       have he:Av (.int x) (.int y)=decide (x=y):=by rw[Av];by_cases h:x=y<;>simp[h]
       rw[he]
       by_cases bK:x=y
       ·simp_arith[i0,i1,decide_eq_true bK];rfl
       ·apply wp_step
        ·simp_arith[i0,i1,decide_eq_false bK];rfl
        rw[decide_eq_false bK]
        simp_arith[i2,i3,hl,hw]
        cases Cw l<;>cases Kf l L8<;>cases Kf w L8<;>rfl
      |_=>cases qb
     |_=>cases qa
  ·have af:¬ (((a::b::l::w::z::r).length:Nat):Int)=4:=by simp only[zk];omega
   simp_arith[decide_eq_false af]
   rfl
 |DH x=>cases hx
 |ins x n d=>cases hx
 |_=>rfl
noncomputable def S0:List D->M OT:=zi IM
theorem TJ:Txt K mg->BS P w K mg base "is_road" 3 2 S0:=(zb IM).1
theorem TK:∀(d:D) (m:Int),cl 1 d->S0 [d,.int m]=.ok (.sh (.bl (EY m d))):=(zb IM).2
theorem KQ:∃ F:List D->M OT,(∀ {P:Program}{w:World}{K:za}{mg:Str->Option Value}{base:Heap},Txt K mg->BS P w K mg base "is_map" 4 1 F)/\(∀ d:D,cl 3 d->F [d]=.ok (.sh (.bl (Du d)))):=by
 refine⟨_,fun T=>AD (k:=3) T.YO KJ _ (fun f AZ A outer s H E hr=>(A3 (B5 (DW.dt (E6 (Ci (BV (c:=true) (EU (Iy _) rfl T.B0 rfl T.Mb (by decide +kernel) (A1 0 (pv 0))))) (CK (G3 (c:=true) (AO hr 16 (by decide)) (Dp rfl T.G8 (A1 0 (pv 0))) A6)))) (A5 (Am (AX CC))) AA) (A3 (B1 1 KJ.nd rfl (Or.inr rfl) (Ac (AO hr 16 (by decide)) (A1 0 (pv 0)) A6)) (A3 (B1 2 KJ.nd rfl (zO rfl) (Ac (AO hr 16 (by decide)) (A1 0 (pv 0)) A6)) (A3 (B5 (DW.dt (E6 (Ci (BV (c:=true) (Aj (Aa A9.toXCall (AU T) (hr.mono (by decide)) rfl (A2 (A1 1 (pv 1)) (A2 A6 A8)) rfl)))) (CK (L0 (c:=true) (AO hr 16 (by decide)) (A1 1 (pv 1)) A6)))) (A5 (Am (AX CC))) AA) (A3 (B5 (DW.dt (E6 (Ci (BV (c:=true) (EU (Ko _) rfl T.B0 rfl T.F1 (by decide +kernel) (A1 2 (pv 2))))) (CK (Ub (c:=true) (Dp rfl T.G8 (A1 2 (pv 2))) A6)))) (A5 (Am (AX CC))) AA) (A5 (Am (AX (SS rfl rfl T.YR (Aj (Cb (NB:=["road","many"]) [none,some 1] rfl (AN (A1 2 (pv 2))) rfl rfl (Bn 0 (by decide) rfl rfl rfl) (fun _ _ _ _=>Dc) (fun _ _ _ _=>(Aj (BM (Aa (Bd rfl).toXCall (TJ T) (hr.mono (by decide)) rfl (A2 (A1 0 (pv 0)) (A2 (A1 1 (pv 1)) A8)) rfl)))))))))))))))),?_⟩
 intro d hc
 have e0:AG ["thing","many","roads"] [d]=[some (.val d),none,none]:=rfl
 rw[e0]
 have hx:=hc.x
 refine Bo ?_
 cases d with
 |tup ds =>
  have b6:∀ e∈ds,cl 2 e:=fun e he=>hc.2 ds (.inl rfl) e he
  rcases ds with _|⟨n,_|⟨r,_|⟨z,t⟩⟩⟩
  ·rfl
  ·rw[Wa];rfl
  ·have i0:B3 (.tup [n,r]) (.int 0)=.ok n:=rfl
   have i1:B3 (.tup [n,r]) (.int 1)=.ok r:=rfl
   have hn:=AL n 17 (b6 n (by simp)).x
   have hr:=b6 r (by simp)
   have ie:=hr.x
   apply wp_step
   ·rfl
   apply wp_step
   ·simp_arith[i0];rfl
   apply wp_step
   ·simp_arith[i1];rfl
   cases qn:Kf n 17 with
   |false =>
    have e1:Du (.tup [n,r])=false:=by
     cases n with
     |int m=>cases r with
      |lst rs=>unfold Du;dsimp only;rw[qn];rfl
      |_=>rfl
     |_=>rfl
    rw[e1]
    simp_arith[hn,qn,EW]
    rfl
   |true =>
    cases n with
    |int m =>
     by_cases hm:m=0
     ·have e1:Du (.tup [.int m,r])=false:=by
       cases r with
       |lst rs=>unfold Du;dsimp only;rw[decide_eq_true hm];simp
       |_=>rfl
      rw[e1]
      simp_arith[hn,qn,EW,decide_eq_true hm]
      rfl
     ·apply wp_step
      ·simp_arith[hn,qn,EW,decide_eq_false hm];rfl
      cases r with
      |lst rs =>
       by_cases hl:rs.length<=60
       ·have bT:¬ (60:Int) < (rs.length:Int):=by omega
        have aZ:rs.length<=1000:=by omega
        apply wp_step
        ·simp_arith[decide_eq_false bT];rfl
        simp_arith[if_pos aZ]
        rw[Oy (fun d=>.bl (EY m d)) rs]
        ·have e2:(rs.map fun d=>D.bl (EY m d))=(rs.map (EY m)).map D.bl:=by rw[zY];rfl
         rw[e2]
         unfold Du
         dsimp only
         rw[qn,decide_eq_true hl,decide_eq_false hm]
         simp_arith[Bool.true_and]
         rfl
        ·intro d hd
         have:=TK d m (hr.2 rs (.inr rfl) d hd)
         exact⟨_,rfl,rfl,by simp_arith[this]⟩
       ·have bT:(60:Int) < (rs.length:Int):=by omega
        unfold Du
        dsimp only
        rw[decide_eq_false hl]
        simp_arith[decide_eq_true bT,Bool.false_and,Bool.and_false]
        rfl
      |DH x=>cases ie
      |ins x n d=>cases ie
      |_=>rfl
    |_=>cases qn
  ·have af:¬ (((n::r::z::t).length:Nat):Int)=2:=by simp only[zk];omega
   rw[Th]
   simp_arith[decide_eq_false af]
   rfl
 |DH x=>cases hx
 |ins x n d=>cases hx
 |_=>rfl
noncomputable def V8:List D->M OT:=zi KQ
theorem Wr:Txt K mg->BS P w K mg base "is_map" 4 1 V8:=(zb KQ).1
theorem OX:∀ d:D,cl 3 d->V8 [d]=.ok (.sh (.bl (Du d))):=(zb KQ).2
theorem IP:∃ F:List D->M OT,(∀ {P:Program}{w:World}{K:za}{mg:Str->Option Value}{base:Heap},Txt K mg->BS P w K mg base "checked" 5 1 F)/\((∀(m:Nat) (rs:List Road),Du (As m rs)=true->rs.length<=60->F [As m rs]=.ok (.tup [.sh (.int m),.lst ((rs.map BF).map .sh)]))/\(∀ d:D,cl 3 d->Du d=false->F [d]=.ex "NoMap")):=by
 refine⟨_,fun T=>AD (k:=4) T.Wm Tw _ (fun f AZ A outer s H E hr=>(A3 (B5 (Ci (BV (c:=true) (Aj (Aa A9.toXCall (Wr T) (hr.mono (by decide)) rfl (A2 (A1 0 (pv 0)) A8) rfl)))) (A5 (Ks (c:=true) T.fM A9 rfl rfl SI)) AA) (A5 (Am (kJ (Rc (AX (Ac (AO hr 16 (by decide)) (A1 0 (pv 0)) A6)) (Rc (Cb (NB:=["road"]) [none] rfl (AN (Ac (AO hr 16 (by decide)) (A1 0 (pv 0)) A6)) rfl rfl (Bn 0 (by decide) rfl rfl rfl) (fun _ _ _ _=>Dc) (fun _ _ _ _=>(Xo rfl T.Mb (A1 0 (pv 0))))) Fx))))))),?_⟩
 refine⟨fun m rs hm hl=>?_,fun d hc ho=>?_⟩
 ·have e0:AG ["thing"] [As m rs]=[some (.val (As m rs))]:=rfl
  rw[e0]
  have h1:=OX (As m rs) (Yd (HK N2 (HK (kX lA) Ye)))
  rw[hm] at h1
  have n0:B3 (As m rs) (.int 0)=.ok (.int m):=rfl
  have n1:B3 (As m rs) (.int 1)=.ok (.lst (rs.map BF)):=rfl
  have aZ:(rs.map BF).length<=1000:=by rw[zc];omega
  refine Bo ?_
  apply wp_step
  ·simp_arith[h1,EW];rfl
  simp_arith[n0,n1,if_pos aZ]
  rw[C5 BF (fun r hr=>⟨_,rfl,rfl,rfl⟩)]
  simp_arith[]
  exact⟨_,rfl,rfl⟩
 ·have e0:AG ["thing"] [d]=[some (.val d)]:=rfl
  rw[e0]
  have h1:=OX d hc
  rw[ho] at h1
  simp_arith[h1,EW]
  rfl
noncomputable def Nl:List D->M OT:=zi IP
theorem TM:Txt K mg->BS P w K mg base "checked" 5 1 Nl:=(zb IP).1
theorem TN:(∀(m:Nat) (rs:List Road),Du (As m rs)=true->rs.length<=60->Nl [As m rs]=.ok (.tup [.sh (.int m),.lst ((rs.map BF).map .sh)]))/\(∀ d:D,cl 3 d->Du d=false->Nl [d]=.ex "NoMap"):=(zb IP).2
theorem Nm:∃ F:List D->M OT,(∀ {P:Program}{w:World}{K:za}{mg:Str->Option Value}{base:Heap},Txt K mg->BS P w K mg base "added" 1 2 F)/\(∀ a b:Co,F [cst a,cst b]=.ok (.sh (cst (Aq a b)))):=by
 refine⟨_,fun T=>AD (k:=0) T.fI YM _ (fun f AZ A outer s H E hr=>(A3 (B5 (DW.dt (E6 (Iv (c:=true) (A1 0 (pv 0))) (CK (Iv (c:=true) (A1 1 (pv 1)))))) (A5 (Am (AX D1))) AA) (A5 (Am (AX (AK (A2 (BU (Ac (AO hr 16 (by decide)) (A1 0 (pv 0)) A6) (Ac (AO hr 16 (by decide)) (A1 1 (pv 1)) A6)) (A2 (BU (Ac (AO hr 16 (by decide)) (A1 0 (pv 0)) A6) (Ac (AO hr 16 (by decide)) (A1 1 (pv 1)) A6)) A8)))))))),?_⟩
 intro a b
 rcases a with _|⟨a1,a2⟩<;>rcases b with _|⟨b1,b2⟩<;>rfl
noncomputable def YX:List D->M OT:=zi Nm
theorem K7:Txt K mg->BS P w K mg base "added" 1 2 YX:=(zb Nm).1
theorem K8:∀ a b:Co,YX [cst a,cst b]=.ok (.sh (cst (Aq a b))):=(zb Nm).2
theorem Nn:∃ F:List D->M OT,(∀ {P:Program}{w:World}{K:za}{mg:Str->Option Value}{base:Heap},Txt K mg->BS P w K mg base "least" 1 1 F)/\(∀ cs:List Co,cs.length<=1000->F [.lst (cs.map cst)]=.ok (.sh (cst (Fw cs)))):=by
 refine⟨_,fun T=>AD (k:=0) T.fJ YN _ (fun f AZ A outer s H E hr=>(A5 (Am (AX (Uj rfl (AO hr 1 (by decide)) rfl T.YV (Aj (Cb (NB:=["cost"]) [none] rfl (AN (A1 0 (pv 0))) rfl rfl (Bn 0 (by decide) rfl rfl rfl) (fun _ _ _ _=>Hn (LC (c:=true) (A1 0 (pv 0)))) (fun _ _ _ _=>(A1 0 (pv 0))))) D1))))),?_⟩
 intro cs hc
 have e0:∀ x:D,AG ["some"] [x]=[some (.val x)]:=fun x=>rfl
 rw[e0]
 refine Bo ?_
 have hl:(cs.map cst).length<=1000:=by rw[zc];exact hc
 have w6:=R4 cs
 have qt:=Ut cs
 simp_arith[if_pos hl]
 rw[GB]
 simp_arith[qt]
 rfl
noncomputable def Qi:List D->M OT:=zi Nn
theorem Np:Txt K mg->BS P w K mg base "least" 1 1 Qi:=(zb Nn).1
theorem Nq:∀ cs:List Co,cs.length<=1000->Qi [.lst (cs.map cst)]=.ok (.sh (cst (Fw cs))):=(zb Nn).2
theorem FI:∃ F:List D->M OT,(∀ {P:Program}{w:World}{K:za}{mg:Str->Option Value}{base:Heap},Txt K mg->BS P w K mg base "road_cost" 1 1 F)/\(∀ r:Road,F [BF r]=.ok (.sh (cst (C3 r)))):=by
 refine⟨_,fun T=>AD (k:=0) T.RO Q8 _ (fun f AZ A outer s H E hr=>(A3 (B5 (Iv (c:=true) (Ac (AO hr 16 (by decide)) (A1 0 (pv 0)) A6)) (A5 (Am (AX D1))) AA) (A5 (Am (AX (AK (A2 (Ac (AO hr 16 (by decide)) (A1 0 (pv 0)) A6) (A2 A6 A8)))))))),?_⟩
 intro r
 obtain⟨a,b,l,w⟩:=r
 cases l<;>rfl
noncomputable def Nr:List D->M OT:=zi FI
theorem FJ:Txt K mg->BS P w K mg base "road_cost" 1 1 Nr:=(zb FI).1
theorem FK:∀ r:Road,Nr [BF r]=.ok (.sh (cst (C3 r))):=(zb FI).2
theorem BW:∃ F:List D->M OT,(∀ {P:Program}{w:World}{K:za}{mg:Str->Option Value}{base:Heap},Txt K mg->II P w K mg base "Ladder" "checked_arc" 2 3 F)/\(∀(m:Nat) (rs:List Road) (L:List Int) (A:LA) (K:List (Int×Int)) (u w:Int),0<=u->u < m->0<=w->w < m->(AE A (u,w)).isSome=true->F [B7 m rs L A K,.int u,.int w]=.ok (.sh (pD (u,w)))):=by
 refine⟨_,fun T=>M4 (k:=1) T.GQ CW _ (fun f AZ A outer s H E hr=>(A3 (B1 3 CW.nd rfl (zO rfl) (Ac (AO hr 16 (by decide)) (EZ ["Ladder"] (Bp T.BE BX) (A1 0 (pv 0))) A6)) (A3 (B5 (DW.dt (E6 (Ci (BV (c:=true) (Aj (Aa A9.toXCall (AU T) (hr.mono (by decide)) rfl (A2 (A1 1 (pv 1)) (A2 (A1 3 (pv 3)) A8)) rfl)))) (E6 (Ci (BV (c:=true) (Aj (Aa A9.toXCall (AU T) (hr.mono (by decide)) rfl (A2 (A1 2 (pv 2)) (A2 (A1 3 (pv 3)) A8)) rfl)))) (CK (LJ (c:=true) (AO hr 16 (by decide)) (AK (A2 (A1 1 (pv 1)) (A2 (A1 2 (pv 2)) A8))) (EZ ["Ladder"] (Bp T.Dj BX) (A1 0 (pv 0)))))))) (A5 (Ks (c:=true) T.fL A9 rfl rfl SI)) AA) (A5 (Am (AX (AK (A2 (A1 1 (pv 1)) (A2 (A1 2 (pv 2)) A8))))))))),?_⟩
 intro m rs L A K u w u0 u1 w0 w1 hf
 have e0:AG ["self","u","w","many"] [B7 m rs L A K,.int u,.int w]=[some (.val (B7 m rs L A K)),some (.val (.int u)),some (.val (.int w)),none]:=rfl
 rw[e0]
 refine Bo ?_
 have f1:NT ["Ladder"] "own_map" (B7 m rs L A K)=.ok (As m rs):=rfl
 have f2:NT ["Ladder"] "laid" (B7 m rs L A K)=.ok (L9 A):=rfl
 have n0:B3 (As m rs) (.int 0)=.ok (.int m):=rfl
 have h1:=AL (.int u) m rfl
 have h2:=AL (.int w) m rfl
 have g1:Kf (.int u) m=true:=by simp[Kf,u0,u1]
 have g2:Kf (.int w) m=true:=by simp[Kf,w0,w1]
 rw[g1] at h1
 rw[g2] at h2
 have hp:D.tup [.int u,.int w]=pD (u,w):=rfl
 have hm:=Q3 A (u,w) true
 rw[hf] at hm
 apply wp_step
 ·simp_arith[f1,n0];rfl
 apply wp_step
 ·simp_arith[h1,h2,f2,hp,hm,EW];rfl
 rfl
noncomputable def B8:List D->M OT:=zi BW
theorem Gh:Txt K mg->II P w K mg base "Ladder" "checked_arc" 2 3 B8:=(zb BW).1
theorem Gi:∀(m:Nat) (rs:List Road) (L:List Int) (A:LA) (K:List (Int×Int)) (u w:Int),0<=u->u < m->0<=w->w < m->(AE A (u,w)).isSome=true->B8 [B7 m rs L A K,.int u,.int w]=.ok (.sh (pD (u,w))):=(zb BW).2
theorem Ej:∃ F:List D->M OT,(∀ {P:Program}{w:World}{K:za}{mg:Str->Option Value}{base:Heap},Txt K mg->II P w K mg base "Ladder" "cost" 3 3 F)/\(∀(m:Nat) (rs:List Road) (L:List Int) (A:LA) (K:List (Int×Int)) (u w:Int) (c:Int×Int),Fl m A->Ak A (u,w)=some c->F [B7 m rs L A K,.int u,.int w]=.ok (.sh (cst (some c)))):=by
 refine⟨_,fun T=>M4 (k:=2) T.NY Nd _ (fun f AZ A outer s H E hr=>(A5 (Am (AX (Ac (AO hr 16 (by decide)) (Ac (AO hr 16 (by decide)) (EZ ["Ladder"] (Bp T.Dj BX) (A1 0 (pv 0))) (Aj (PP (k:=2) [("Ladder",B8)] A9.toXCall (Ef (by decide) (Gh T) FA) (hr.mono (by decide)) (A1 0 (pv 0)) (A2 (A1 1 (pv 1)) (A2 (A1 2 (pv 2)) A8)) rfl))) A6))))),?_⟩
 intro m rs L A K u w c hA hc
 have e0:AG ["self","u","w"] [B7 m rs L A K,.int u,.int w]=[some (.val (B7 m rs L A K)),some (.val (.int u)),some (.val (.int w))]:=rfl
 rw[e0]
 refine Bo ?_
 have f2:NT ["Ladder"] "laid" (B7 m rs L A K)=.ok (L9 A):=rfl
 have hk:=hA.rg _ (Fg hc)
 obtain⟨v,hv⟩:∃ v,AE A (u,w)=some (c,v):=by
  unfold Ak at hc
  cases q:AE A (u,w) with
  |none=>rw[q] at hc;cases hc
  |some z=>rw[q] at hc;obtain⟨z1,z2⟩:=z;cases hc;exact⟨z2,rfl⟩
 have h1:=Gi m rs L A K u w hk.2.1.1 hk.2.1.2 hk.2.2.1 hk.2.2.2 (by rw[hv];rfl)
 have hi:=Q4 hv
 have h0:B3 (Wg (c,v)) (.int 0)=.ok (cst (some c)):=rfl
 have hs:IJ [("Ladder",B8)] "checked_arc" (B7 m rs L A K)=.ok B8:=rfl
 simp_arith[f2,hs,h1,hi,h0]
 rfl
noncomputable def Bs:List D->M OT:=zi Ej
theorem GR:Txt K mg->II P w K mg base "Ladder" "cost" 3 3 Bs:=(zb Ej).1
theorem GS:∀(m:Nat) (rs:List Road) (L:List Int) (A:LA) (K:List (Int×Int)) (u w:Int) (c:Int×Int),Fl m A->Ak A (u,w)=some c->Bs [B7 m rs L A K,.int u,.int w]=.ok (.sh (cst (some c))):=(zb Ej).2
theorem Ek:∃ F:List D->M OT,(∀ {P:Program}{w:World}{K:za}{mg:Str->Option Value}{base:Heap},Txt K mg->II P w K mg base "Ladder" "kept" 1 1 F)/\(∀(m:Nat) (rs:List Road) (L:List Int) (A:LA) (K:List (Int×Int)),F [B7 m rs L A K]=.ok (.lst ((K.map pD).map .sh))):=by
 refine⟨_,fun T=>M4 (k:=0) T.NZ Nf _ (fun f AZ A outer s H E hr=>(A5 (Am (Jj rfl T.F1 (EZ ["Ladder"] (Bp T.Ei BX) (A1 0 (pv 0))))))),?_⟩
 intro m rs L A K
 rfl
noncomputable def Bt:List D->M OT:=zi Ek
theorem GU:Txt K mg->II P w K mg base "Ladder" "kept" 1 1 Bt:=(zb Ek).1
theorem GV:∀(m:Nat) (rs:List Road) (L:List Int) (A:LA) (K:List (Int×Int)),Bt [B7 m rs L A K]=.ok (.lst ((K.map pD).map .sh)):=(zb Ek).2
theorem F3:∃ F:List D->M OT,(∀ {P:Program}{w:World}{K:za}{mg:Str->Option Value}{base:Heap},Txt K mg->BS P w K mg base "kept_costs" 4 1 F)/\(∀(m:Nat) (rs:List Road) (L:List Int) (A:LA) (K:List (Int×Int)),Cq m rs L A K->F [B7 m rs L A K]=.ok (mI (Ib A K))):=by
 refine⟨_,fun T=>AD (k:=3) T.Qf NW _ (fun f AZ A outer s H E hr=>(A5 (Am (RE rfl (AO hr 16 (by decide)) rfl T.YT (Aj (Cb (NB:=["u","w","ladder"]) [none,none,some 0] rfl (AN (Aj (JY (k:=1) [("Ladder",Bt)] A9.toXCall (Ef (by decide) (GU T) FA) (hr.mono (by decide)) (A1 0 (pv 0))))) rfl rfl (UB (n:=2) rfl (Hv 0 (by decide) rfl rfl rfl (Hv 1 (by decide) rfl rfl rfl Rl))) (fun _ _ _ _=>Dc) (fun _ _ _ _=>(AK (A2 (AK (A2 (A1 0 (pv 0)) (A2 (A1 1 (pv 1)) A8))) (A2 (Aj (BM (PP (k:=3) [("Ladder",Bs)] (Bd rfl).toXCall (Ef (by decide) (GR T) FA) (hr.mono (by decide)) (A1 2 (pv 2)) (A2 (A1 0 (pv 0)) (A2 (A1 1 (pv 1)) A8)) rfl))) A8)))))))))),?_⟩
 intro m rs L A K ok
 have e0:AG ["ladder"] [B7 m rs L A K]=[some (.val (B7 m rs L A K))]:=rfl
 rw[e0]
 refine Bo ?_
 have hs:IJ [("Ladder",Bt)] "kept" (B7 m rs L A K)=.ok Bt:=rfl
 have bh:IJ [("Ladder",Bs)] "cost" (B7 m rs L A K)=.ok Bs:=rfl
 have hk:=GV m rs L A K
 have hl:(K.map pD).length<=1000:=by rw[zc];have:=ok.kl;omega
 have hn:((Ib A K).map zI).Nodup:=by rw[Na];exact ok.kn
 have hd:=YH (C:=Ib A K) hn (by simp only[Ib,zc];have:=ok.kl;omega)
 simp_arith[hs,hk,if_pos hl]
 rw[C5 (fun p=>D.tup [pD p,cst (some ((Ak A p).getD (0,0)))]) (fun p hp=>⟨_,rfl,rfl,by
  obtain⟨c,hc,_⟩:=(ok.km p).mp hp
  have h1:=GS m rs L A K p.1 p.2 c ok.sI hc
  simp_arith[bh,h1]
  rw[hc]
  rfl⟩)]
 have e1:(K.map fun p=>D.tup [pD p,cst (some ((Ak A p).getD (0,0)))])=(Ib A K).map fun kv=>D.tup [pD kv.1,cst (some kv.2)]:=by
  simp only[RI,Ib,zY];rfl
 rw[e1]
 simp_arith[hd]
 exact⟨_,rfl,rfl⟩
noncomputable def Ld:List D->M OT:=zi F3
theorem O2:Txt K mg->BS P w K mg base "kept_costs" 4 1 Ld:=(zb F3).1
theorem O3:∀(m:Nat) (rs:List Road) (L:List Int) (A:LA) (K:List (Int×Int)),Cq m rs L A K->Ld [B7 m rs L A K]=.ok (mI (Ib A K)):=(zb F3).2
theorem C6:∃ F:List D->M OT,(∀ {P:Program}{w:World}{K:za}{mg:Str->Option Value}{base:Heap},Txt K mg->BS P w K mg base "kept_costs_turned" 4 1 F)/\(∀(m:Nat) (rs:List Road) (L:List Int) (A:LA) (K:List (Int×Int)),Cq m rs L A K->F [B7 m rs L A K]=.ok (mI (RI (Ib A K)))):=by
 refine⟨_,fun T=>AD (k:=3) T.HX GP _ (fun f AZ A outer s H E hr=>(A5 (Am (RE rfl (AO hr 16 (by decide)) rfl T.YT (Aj (Cb (NB:=["u","w","ladder"]) [none,none,some 0] rfl (AN (Aj (JY (k:=1) [("Ladder",Bt)] A9.toXCall (Ef (by decide) (GU T) FA) (hr.mono (by decide)) (A1 0 (pv 0))))) rfl rfl (UB (n:=2) rfl (Hv 0 (by decide) rfl rfl rfl (Hv 1 (by decide) rfl rfl rfl Rl))) (fun _ _ _ _=>Dc) (fun _ _ _ _=>(AK (A2 (AK (A2 (A1 1 (pv 1)) (A2 (A1 0 (pv 0)) A8))) (A2 (Aj (BM (PP (k:=3) [("Ladder",Bs)] (Bd rfl).toXCall (Ef (by decide) (GR T) FA) (hr.mono (by decide)) (A1 2 (pv 2)) (A2 (A1 0 (pv 0)) (A2 (A1 1 (pv 1)) A8)) rfl))) A8)))))))))),?_⟩
 intro m rs L A K ok
 have e0:AG ["ladder"] [B7 m rs L A K]=[some (.val (B7 m rs L A K))]:=rfl
 rw[e0]
 refine Bo ?_
 have hs:IJ [("Ladder",Bt)] "kept" (B7 m rs L A K)=.ok Bt:=rfl
 have bh:IJ [("Ladder",Bs)] "cost" (B7 m rs L A K)=.ok Bs:=rfl
 have hk:=GV m rs L A K
 have hl:(K.map pD).length<=1000:=by rw[zc];have:=ok.kl;omega
 have hn:((Ib A K).map zI).Nodup:=by rw[Na];exact ok.kn
 have hd:=YH (C:=RI (Ib A K)) (Wj hn) (by unfold RI;simp only[Ib,zc];have:=ok.kl;omega)
 simp_arith[hs,hk,if_pos hl]
 rw[C5 (fun p=>D.tup [pD (p.2,p.1),cst (some ((Ak A p).getD (0,0)))]) (fun p hp=>⟨_,rfl,rfl,by
  obtain⟨c,hc,_⟩:=(ok.km p).mp hp
  have h1:=GS m rs L A K p.1 p.2 c ok.sI hc
  simp_arith[bh,h1]
  rw[hc]
  rfl⟩)]
 have e1:(K.map fun p=>D.tup [pD (p.2,p.1),cst (some ((Ak A p).getD (0,0)))])=(RI (Ib A K)).map fun kv=>D.tup [pD kv.1,cst (some kv.2)]:=by
  simp only[RI,Ib,zY];rfl
 rw[e1]
 simp_arith[hd]
 exact⟨_,rfl,rfl⟩
noncomputable def El:List D->M OT:=zi C6
theorem GW:Txt K mg->BS P w K mg base "kept_costs_turned" 4 1 El:=(zb C6).1
theorem GX:∀(m:Nat) (rs:List Road) (L:List Int) (A:LA) (K:List (Int×Int)),Cq m rs L A K->El [B7 m rs L A K]=.ok (mI (RI (Ib A K))):=(zb C6).2
theorem IQ:∃ F:List D->M OT,(∀ {P:Program}{w:World}{K:za}{mg:Str->Option Value}{base:Heap},Txt K mg->BS P w K mg base "climbed" 2 3 F)/\(∀(m:Nat) (L:List Int) (C:CA) (s:Int),m<=20->L.Perm (AR m)->s∈L->(∀ p c,AE C p=some c->p.1∈L/\p.2∈L)->∃ R:RA,F [.lst (L.map D.int),M6 C,.int s]=.ok (Z3 R)/\Qy L C s L.length R):=by
 refine⟨_,fun T=>AD (k:=1) T.Wn D7 _ (fun f AZ A outer s H E hr=>(A3 (Bz 3 D7.nd rfl (zO rfl) (Yq (A1 2 (pv 2)) (AK (A2 A6 (A2 A6 A8))))) (A3 (BC A9.toXCall.own rfl (Ug rfl T.Lb (A1 0 (pv 0))) (Xq (n:=2) rfl (J7 (AW 4 D7.nd rfl (zO rfl)) (J7 (AW 5 D7.nd rfl (zO rfl)) Ue))) (A5 (B5 (IB (MS (c:=true) (AO hr 16 (by decide)) (A1 5 (pv 5)) (A1 3 (pv 3)))) (A5 (BC A9.toXCall.own rfl (AN (Aj (MV (A1 0 (pv 0)) (LD (BU (A1 4 (pv 4)) A6)) Ud))) (AW 6 D7.nd rfl (zO rfl)) (A5 (B5 (MS (c:=true) (AO hr 16 (by decide)) (AK (A2 (A1 5 (pv 5)) (A2 (A1 6 (pv 6)) A8))) (A1 1 (pv 1))) (A3 (B1 7 D7.nd rfl (zO rfl) (Aj (Eb (Aa A9.toXCall (K7 T) (hr.mono (by decide)) rfl (A2 (Ac (AO hr 16 (by decide)) (A1 3 (pv 3)) (A1 5 (pv 5))) (A2 (Ac (AO hr 16 (by decide)) (A1 1 (pv 1)) (AK (A2 (A1 5 (pv 5)) (A2 (A1 6 (pv 6)) A8)))) A8)) rfl)))) (A5 (LL (AO hr 16 (by decide)) (BN 3 (pv 3)) (A1 6 (pv 6)) (Aj (Eb (Aa A9.toXCall (Np T) (hr.mono (by decide)) rfl (A2 (Gw (A2 (N6 (AO hr 16 (by decide)) (A1 3 (pv 3)) (A1 6 (pv 6))) (A2 (A1 7 (pv 7)) A8))) A8) rfl)))))) AA)))) AA))) (A5 (CL 3 (pv 3)))))),?_⟩
 intro m L C s hm hL hs hC
 have hn:=IH hL
 have hlen:=GL hL
 have e0:AG ["order","costs","place","reached","rank","lower","higher","cost"] [.lst (L.map D.int),M6 C,.int s]=[some (.val (.lst (L.map D.int))),some (.val (M6 C)),some (.val (.int s)),none,none,none,none,none]:=rfl
 rw[e0]
 refine (fun h:∃ t,_/\∃ R:RA,t=Z3 R/\Qy L C s L.length R=>by
  obtain⟨t,h1,R,rfl,h2⟩:=h
  exact⟨R,h1,h2⟩) (L6 ?_)
 refine wp_step (ρ':=[some (.val (.lst (L.map D.int))),some (.val (M6 C)),some (.val (.int s)),some (.ow (.tree none (Z3 [(s,(0,0))]))),none,none,none,none]) (by rfl) ?_
 refine C4 (I:=fun ρ=>∃(R:RA) (s4 s5 s6 s7:Option Cl),ρ=[some (.val (.lst (L.map D.int))),some (.val (M6 C)),some (.val (.int s)),some (.ow (.tree none (Z3 R))),s4,s5,s6,s7]/\Qy L C s L.length R) ?_ ?_
 ·simp_arith[]
  refine BD (fun i ρ=>i<=L.length/\∃(R:RA) (s4 s5 s6 s7:Option Cl),ρ=[some (.val (.lst (L.map D.int))),some (.val (M6 C)),some (.val (.int s)),some (.ow (.tree none (Z3 R))),s4,s5,s6,s7]/\Qy L C s i R) ⟨zP _,_,none,none,none,none,rfl,Qy.start hs⟩ ?_ ?_
  ·rintro i d ρ hd ⟨hi,R,s4,s5,s6,s7,rfl,hR⟩
   obtain⟨d',aQ,rfl⟩:=Kq hd
   obtain⟨x,hx,rfl⟩:=BP aQ
   have aj:=(zw.mp hx).1
   rw[Nat.zero_add]
   refine⟨_,rfl,?_⟩
   have db:=lN R x false
   have ie:=Q6 hn hx
   cases q:AE R x with
   |none =>
    rw[q] at db
    refine Bh (ρ':=_) (by simp_arith[db];rfl) ⟨aj,R,_,_,_,_,rfl,hR.skip hx hn q⟩
   |some c0 =>
    rw[q] at db
    have sl:dJ (some ((i:Int) + 1)) none (.lst (L.map D.int))=.ok (.lst (((L.drop (i + 1)).map D.int).map .sh)):=by rw[List.map_drop];exact Rr _ (i + 1)
    simp_arith[db,sl,if_true,Option.isSome_some,zE,if_false]
    refine BD (fun j ρ=>j<=(L.drop (i + 1)).length/\∃(R':RA) (s6 s7:Option Cl),ρ=[some (.val (.lst (L.map D.int))),some (.val (M6 C)),some (.val (.int s)),some (.ow (.tree none (Z3 R'))),some (.val (.int i)),some (.val (.int x)),s6,s7]/\gR L C s i x c0 ((L.drop (i + 1)).take j) R R') ⟨zP _,R,s6,s7,rfl,hR.nd,hR.rg,hR.sd,fun y=>C2 _,fun y _=>rfl,fun y hy=>by rw[List.take_zero] at hy;cases hy⟩ ?_ ?_
    ·rintro j d ρ hd ⟨hj,R',s6,s7,rfl,hI⟩
     obtain⟨y,hy,rfl⟩:=BP hd
     have jw:=(zw.mp hy).1
     have u7:=zj hy
     have w9:y∈L:=List.mem_of_mem_drop u7
     have ig:i < Dy L y:=V2 hn u7
     have et:(L.drop (i + 1)).take (j + 1)=(L.drop (i + 1)).take j++[y]:=by rw[yu,hy];rfl
     refine⟨_,rfl,?_⟩
     rw[et]
     have t1:∀ a b:Int,D.tup [.int a,.int b]=pD (a,b):=fun a b=>rfl
     have ly:=lK C (x,y) false
     cases q2:AE C (x,y) with
     |none =>
      rw[q2] at ly
      refine Bh (ρ':=_) (by simp_arith[t1,ly];rfl) ⟨jw,R',_,_,rfl,hI.skip q2⟩
     |some dd =>
      rw[q2] at ly
      have ax:AE R' x=some c0:=by rw[hI.sm x (by omega)];exact q
      have i1:=lO ax
      have i2:=lL q2
      have h1:=K8 (some c0) (some dd)
      have g1:=YF R' y
      obtain⟨v,hv⟩:∃ v,Dx (AE R' y) (some (c0.1 + dd.1,c0.2 + dd.2))=some v:=by
       cases AE R' y with
       |none=>exact⟨_,rfl⟩
       |some z=>exact⟨_,rfl⟩
      have h2:Qi [.lst [cst (AE R' y),cst (some (c0.1 + dd.1,c0.2 + dd.2))]]=.ok (.sh (cst (Dx (AE R' y) (some (c0.1 + dd.1,c0.2 + dd.2))))):=Nq [AE R' y,some (c0.1 + dd.1,c0.2 + dd.2)] (by simp)
      rw[hv] at h2
      have a9:=hI.put w9 ig ie q q2 hv
      have hl:(R'.map fun kv=>D.int kv.1).length < 1000:=by
       have:=KA hI.nd hI.rg
       rw[zc] at this ⊢
       omega
      have ii:∀ z:Int,keyOk false (.int z)=true:=fun z=>rfl
      have ha:Aq (some c0) (some dd)=some (c0.1 + dd.1,c0.2 + dd.2):=rfl
      rw[ha] at h1
      simp_arith[t1,ly,if_true,Option.isSome_some,zE,if_false]
      apply wp_step
      ·simp_arith[t1,i1,i2,h1];rfl
      refine Bh (ρ':=[some (.val (.lst (L.map D.int))),some (.val (M6 C)),some (.val (.int s)),some (.ow (.tree none (Z3 (Dq R' y v)))),some (.val (.int i)),some (.val (.int x)),some (.val (.int y)),some (.val (cst (some (c0.1 + dd.1,c0.2 + dd.2))))]) (by
       simp_arith[g1,h2,ii,hl,and_self,if_true,lP]
       rfl) ⟨jw,_,_,_,rfl,a9⟩
    ·rintro ρ ⟨_,R',s6,s7,rfl,hI⟩
     rw[zc,yr] at hI
     exact⟨aj,R',_,_,s6,s7,rfl,hR.go (fun p c h=>(hC p c h).2) hx hn q hI⟩
  ·rintro ρ ⟨_,R,s4,s5,s6,s7,rfl,hR⟩
   rw[Hl,zc] at hR
   exact⟨R,s4,s5,s6,s7,rfl,hR⟩
 ·rintro ρ ⟨R,s4,s5,s6,s7,rfl,hR⟩
  exact⟨_,rfl,R,rfl,hR⟩
noncomputable def S1:List D->M OT:=zi IQ
theorem TQ:Txt K mg->BS P w K mg base "climbed" 2 3 S1:=(zb IQ).1
theorem TR:∀(m:Nat) (L:List Int) (C:CA) (s:Int),m<=20->L.Perm (AR m)->s∈L->(∀ p c,AE C p=some c->p.1∈L/\p.2∈L)->∃ R:RA,S1 [.lst (L.map D.int),M6 C,.int s]=.ok (Z3 R)/\Qy L C s L.length R:=(zb IQ).2
theorem Nt:∃ F:List D->M OT,(∀ {P:Program}{w:World}{K:za}{mg:Str->Option Value}{base:Heap},Txt K mg->BS P w K mg base "swept" 3 3 F)/\(∀(m:Nat) (L:List Int) (C:CA) (s:Int),m<=20->L.Perm (AR m)->s∈L->(∀ p c,AE C p=some c->p.1∈L/\p.2∈L)->∃(R:RA) (T:List Co),F [.lst (L.map D.int),M6 C,.int s]=.ok (.lst ((T.map cst).map .sh))/\Qy L C s L.length R/\YL m L C s R L.reverse T):=by
 refine⟨_,fun T=>AD (k:=2) T.fK Fh _ (fun f AZ A outer s H E hr=>(A3 (B1 3 Fh.nd rfl (zO rfl) (Aj (Aa A9.toXCall (TQ T) (hr.mono (by decide)) rfl (A2 (A1 0 (pv 0)) (A2 (A1 1 (pv 1)) (A2 (A1 2 (pv 2)) A8))) rfl))) (A3 (Bz 4 Fh.nd rfl (Or.inr rfl) (Tf D1 (Dp rfl T.G8 (A1 0 (pv 0))))) (A3 (Bz 5 Fh.nd rfl (zO rfl) (Kw Fx)) (A3 (BC A9.toXCall.own rfl (lE rfl T.TH (A1 0 (pv 0))) (AW 6 Fh.nd rfl (Or.inr rfl)) (A3 (XX (NB:=["high","told","costs","lower"]) 7 [none,some 4,some 1,some 6] Fh.nd rfl (zO rfl) rfl (AN (A1 5 (pv 5))) rfl rfl (Bn 0 (by decide) rfl rfl rfl) (fun _ _ _ _=>Dc) (fun _ _ _ _=>(Aj (BM (Aa (Bd rfl).toXCall (K7 T) (hr.mono (by decide)) rfl (A2 (Ac (AO hr 16 (by decide)) (A1 1 (pv 1)) (A1 0 (pv 0))) (A2 (N6 (AO hr 16 (by decide)) (A1 2 (pv 2)) (AK (A2 (A1 0 (pv 0)) (A2 (A1 3 (pv 3)) A8)))) A8)) rfl))))) (A3 (Kt 4 (pv 4) (Aj (Eb (Aa A9.toXCall (Np T) (hr.mono (by decide)) rfl (A2 (Aj (dM (Gw (A2 (N6 (AO hr 16 (by decide)) (A1 3 (pv 3)) (A1 6 (pv 6))) A8)) (A1 7 (pv 7)))) A8) rfl))) (A1 6 (pv 6))) (A5 (Hk 5 (pv 5) (A1 6 (pv 6))))))) (A5 (CL 4 (pv 4)))))))),?_⟩
 intro m L C s hm hL hs hC
 have hn:=IH hL
 have hlen:=GL hL
 obtain⟨R,hF,hR⟩:=TR m L C s hm hL hs hC
 have e0:AG ["order","costs","place","reached","told","higher","lower","over"] [.lst (L.map D.int),M6 C,.int s]=[some (.val (.lst (L.map D.int))),some (.val (M6 C)),some (.val (.int s)),none,none,none,none,none]:=rfl
 rw[e0]
 refine (fun h:∃ t,_/\∃ T:List Co,t=.lst ((T.map cst).map .sh)/\YL m L C s R L.reverse T=>by
  obtain⟨t,h1,T,rfl,h2⟩:=h
  exact⟨R,T,h1,hR,h2⟩) (L6 ?_)
 have qu:((L.map D.int).length:Int)=(m:Int):=by rw[zc,hlen]
 have b7:=MZ (d:=.Az) (n:=m) (by omega)
 have cD:zt m D.Az=(zt m (none:Co)).map cst:=by rw[List.map_replicate];rfl
 rw[cD] at b7
 apply wp_step
 ·simp_arith[hF];rfl
 try simp only[zr,zl]
 apply wp_step
 ·simp_arith[qu,b7];rfl
 try simp only[zr,zl]
 apply wp_step
 ·rfl
 try simp only[zr,zl]
 refine C4 (I:=fun ρ=>∃(T:List Co) (s5 s6 s7:Option Cl),ρ=[some (.val (.lst (L.map D.int))),some (.val (M6 C)),some (.val (.int s)),some (.val (YE R)),some (.own (T.map cst)),s5,s6,s7]/\YL m L C s R L.reverse T) ?_ ?_
 ·have qv:(L.map D.int).reverse=L.reverse.map D.int:=by rw[List.map_reverse]
  simp_arith[qv]
  refine BD (fun i ρ=>i<=L.reverse.length/\∃(T:List Co) (s6 s7:Option Cl),ρ=[some (.val (.lst (L.map D.int))),some (.val (M6 C)),some (.val (.int s)),some (.val (YE R)),some (.own (T.map cst)),some (.own ((L.reverse.take i).map D.int)),s6,s7]/\YL m L C s R (L.reverse.take i) T) ⟨zP _,_,none,none,rfl,YL.start⟩ ?_ ?_
  ·rintro i d ρ hd ⟨hi,T,s6,s7,rfl,hT⟩
   obtain⟨y,hy,rfl⟩:=BP hd
   have aj:=(zw.mp hy).1
   have ig:=(B2 hL).mp (List.mem_reverse.mp (zj hy))
   have et:L.reverse.take (i + 1)=L.reverse.take i++[y]:=by rw[yu,hy];rfl
   rw[yx] at aj
   have wD:L[L.length - 1 - i]? =some y:=by rw[List.getElem?_reverse aj] at hy;exact hy
   have ya:=Q6 hn wD
   have qw:∀ x∈L.reverse.take i,(0<=x/\x < m)/\Dy L y < Dy L x:=fun x hx=>by
    have wE:=List.mem_reverse.mp (ym hx)
    refine⟨(B2 hL).mp wE,?_⟩
    rw[List.take_reverse,List.mem_reverse] at hx
    have:=V2 hn hx
    omega
   have qr:y∉L.reverse.take i:=fun hx=>by have:=(qw y hx).2;omega
   have u8:=hT.len
   refine⟨_,rfl,?_⟩
   have jv:((L.reverse.take i).map D.int).length<=1000:=by rw[zc,yt,yx];omega
   have t1:∀ a b:Int,D.tup [.int a,.int b]=pD (a,b):=fun a b=>rfl
   have g1:=YF R y
   obtain⟨vs,aI⟩:∃ vs:List Co,vs=(L.reverse.take i).map fun x=>Aq (atC T x) (AE C (x,y)):=⟨_,rfl⟩
   apply wp_step
   ·simp_arith[if_pos jv]
    rw[C5 (fun x=>cst (Aq (atC T x) (AE C (x,y)))) (fun x hx=>⟨_,rfl,rfl,by
     have u9:=(qw x hx).1
     have x1:B3 (.lst (T.map cst)) (.int x)=.ok (cst (atC T x)):=E9 u9.1 (by rw[u8];exact u9.2)
     have g2:=lM C (x,y)
     have h1:=K8 (atC T x) (AE C (x,y))
     simp_arith[t1,x1,g2,h1]⟩)]
    have ev:(L.reverse.take i).map (fun x=>cst (Aq (atC T x) (AE C (x,y))))=vs.map cst:=by rw[aI,zY];rfl
    rw[ev]
    have dv:=YK vs
    simp_arith[dv]
    rfl
   try simp only[zr,zl]
   have a6:Rf (.lst [cst (AE R y)]) (.lst (vs.map cst))=.ok (.lst (((AE R y::vs).map cst).map .sh)):=eI (by rw[aI,zc,zc,yt,yx,y8];omega)
   have h3:=Nq (AE R y::vs) (by rw[aI,zk,zc,yt,yx];omega)
   have a9:=HJ (i:=4) (ρ:=[some (.val (.lst (L.map D.int))),some (.val (M6 C)),some (.val (.int s)),some (.val (YE R)),some (.own (T.map cst)),some (.own ((L.reverse.take i).map D.int)),some (.val (.int y)),some (.own (vs.map cst))]) (d:=cst (Fw (AE R y::vs))) (p:=y) rfl ig.1 (by rw[zc,u8];exact ig.2)
   have br:(T.map cst).set y.toNat (cst (Fw (AE R y::vs)))=(T.set y.toNat (Fw (AE R y::vs))).map cst:=by rw[List.map_set]
   rw[br] at a9
   apply wp_step
   ·simp_arith[g1,a6,h3,a9];rfl
   try simp only[zr,zl]
   have wF:((L.reverse.take i).map D.int).length < 1000:=by rw[zc,yt,yx];omega
   refine Bh (ρ':=[some (.val (.lst (L.map D.int))),some (.val (M6 C)),some (.val (.int s)),some (.val (YE R)),some (.own ((T.set y.toNat (Fw (AE R y::vs))).map cst)),some (.own ((L.reverse.take (i + 1)).map D.int)),some (.val (.int y)),some (.own (vs.map cst))]) (by simp_arith[if_pos wF,et,zL,zf,yM]) ⟨by rw[yx];exact aj,_,_,_,rfl,?_⟩
   rw[et,aI]
   exact hT.step hR.sd ig.1 ig.2 qr qw
  ·rintro ρ ⟨_,T,s6,s7,rfl,hT⟩
   rw[zc,yr] at hT
   exact⟨T,_,s6,s7,rfl,hT⟩
 ·rintro ρ ⟨T,s5,s6,s7,rfl,hT⟩
  exact⟨_,rfl,T,rfl,hT⟩
noncomputable def YY:List D->M OT:=zi Nt
theorem S2:Txt K mg->BS P w K mg base "swept" 3 3 YY:=(zb Nt).1
theorem S3:∀(m:Nat) (L:List Int) (C:CA) (s:Int),m<=20->L.Perm (AR m)->s∈L->(∀ p c,AE C p=some c->p.1∈L/\p.2∈L)->∃(R:RA) (T:List Co),YY [.lst (L.map D.int),M6 C,.int s]=.ok (.lst ((T.map cst).map .sh))/\Qy L C s L.length R/\YL m L C s R L.reverse T:=(zb Nt).2
theorem F4:∃ F:List D->M OT,(∀ {P:Program}{w:World}{K:za}{mg:Str->Option Value}{base:Heap},Txt K mg->BS P w K mg base "costs_from" 2 2 F)/\(∀(m s:Nat) (rs:List Road),s < m->m<=900->(∀ r∈rs,Ho m r)->∃ cs:List Co,Right m s rs cs/\F [As m rs,.int s]=.ok (.lst ((cs.map cst).map .sh))):=by
 refine⟨_,fun T=>AD (k:=1) T.Qh Bv _ (fun f AZ A outer s H E hr=>(A3 (Bz 2 Bv.nd rfl (zO rfl) (Tf D1 (Ac (AO hr 16 (by decide)) (A1 0 (pv 0)) A6))) (A3 (Kt 2 (pv 2) (AK (A2 A6 (A2 A6 A8))) (A1 1 (pv 1))) (A3 (B1 3 Bv.nd rfl (zO rfl) CC) (A3 (R3 A9.toXCall.own (BV (c:=true) (A1 3 (pv 3))) (A3 (B1 3 Bv.nd rfl (zO rfl) CC) (A5 (BC A9.toXCall.own rfl (AN (Ac (AO hr 16 (by decide)) (A1 0 (pv 0)) A6)) (AW 4 Bv.nd rfl (zO rfl)) (A3 (B1 5 Bv.nd rfl (zO rfl) (Aj (Eb (Aa A9.toXCall (Np T) (hr.mono (by decide)) rfl (A2 (Gw (A2 (Ac (AO hr 16 (by decide)) (A1 2 (pv 2)) (Ac (AO hr 16 (by decide)) (A1 4 (pv 4)) A6)) (A2 (Aj (Aa A9.toXCall (K7 T) (hr.mono (by decide)) rfl (A2 (Ac (AO hr 16 (by decide)) (A1 2 (pv 2)) (Ac (AO hr 16 (by decide)) (A1 4 (pv 4)) A6)) (A2 (Aj (Aa A9.toXCall (FJ T) (hr.mono (by decide)) rfl (A2 (A1 4 (pv 4)) A8) rfl)) A8)) rfl)) A8))) A8) rfl)))) (A5 (B5 (IB (G3 (c:=true) (AO hr 16 (by decide)) (A1 5 (pv 5)) (Ac (AO hr 16 (by decide)) (A1 2 (pv 2)) (Ac (AO hr 16 (by decide)) (A1 4 (pv 4)) A6)))) (A3 (Kt 2 (pv 2) (A1 5 (pv 5)) (Ac (AO hr 16 (by decide)) (A1 4 (pv 4)) A6)) (A5 (B1 3 Bv.nd rfl (zO rfl) CC))) AA))))))) (A5 (CL 2 (pv 2)))))))),?_⟩
 intro m s rs hs hm Au
 have e0:AG ["net","start","costs","changed","road","cost"] [As m rs,.int s]=[some (.val (As m rs)),some (.val (.int s)),none,none,none,none]:=rfl
 rw[e0]
 refine (fun h:∃ t,_/\∃ cs:List Co,Right m s rs cs/\t=.lst ((cs.map cst).map .sh)=>by
  obtain⟨t,h1,cs,h2,rfl⟩:=h
  exact⟨cs,h2,h1⟩) (L6 ?_)
 have n0:B3 (As m rs) (.int 0)=.ok (.int m):=rfl
 have n1:B3 (As m rs) (.int 1)=.ok (.lst (rs.map BF)):=rfl
 have b7:=MZ (d:=.Az) (n:=m) (by omega)
 have cD:zt m D.Az=(zt m (none:Co)).map cst:=by rw[List.map_replicate];rfl
 rw[cD] at b7
 apply wp_step
 ·simp_arith[n0,b7];rfl
 try simp only[zr,zl]
 have a9:=HJ (i:=2) (ρ:=[some (.val (As m rs)),some (.val (.int s)),some (.own ((zt m (none:Co)).map cst)),none,none,none]) (d:=.tup [.int 0,.int 0]) (p:=(s:Int)) rfl (by omega) (by rw[zc,yY];omega)
 have br:((zt m (none:Co)).map cst).set (s:Int).toNat (.tup [.int 0,.int 0])=((zt m none).set s (some (0,0))).map cst:=by rw[zX,List.map_set];rfl
 rw[br] at a9
 apply wp_step
 ·simp_arith[a9];rfl
 try simp only[zr,zl]
 apply wp_step
 ·rfl
 try simp only[zr,zl]
 refine C4 (I:=fun ρ=>∃(cs:List Co) (s3 s4 s5:Option Cl),ρ=[some (.val (As m rs)),some (.val (.int s)),some (.own (cs.map cst)),s3,s4,s5]/\Right m s rs cs) ?_ ?_
 ·refine Rm (lt:=sL) (fun z ρ=>∃(s4 s5:Option Cl),ρ=[some (.val (As m rs)),some (.val (.int s)),some (.own (z.1.map cst)),some (.val (.bl z.2)),s4,s5]/\Good m s rs z.1/\(z.2=false->Right m s rs z.1)) (lR _) ⟨none,none,rfl,MJ rs hs,fun e=>by cases e⟩ ?_
  rintro ⟨cs,b⟩ ρ ⟨s4,s5,rfl,g,hR⟩
  cases b with
  |false=>exact .inl ⟨rfl,cs,_,s4,s5,rfl,hR rfl⟩
  |true =>
   refine .inr ⟨rfl,?_⟩
   apply wp_step
   ·rfl
   try simp only[zr,zl]
   simp_arith[n1]
   refine BD (fun i ρ=>∃(a8:List Co) (ch:Bool) (s4 s5:Option Cl),ρ=[some (.val (As m rs)),some (.val (.int s)),some (.own (a8.map cst)),some (.val (.bl ch)),s4,s5]/\Good m s rs a8/\(ch=true->NH ltN a8 cs)/\(ch=false->a8=cs/\∀ r∈rs.take i,Dx (atC cs r.b) (Aq (atC cs r.a) (C3 r))=atC cs r.b)) ⟨cs,false,s4,s5,rfl,g,(fun h=>by cases h),fun _=>⟨rfl,fun r hr=>by rw[List.take_zero] at hr;cases hr⟩⟩ ?_ ?_
   ·rintro i d ρ hd ⟨a8,ch,s4,s5,rfl,g1,h1,h2⟩
    obtain⟨r,hq,rfl⟩:=BP hd
    have hr:=zj hq
    have ok:=Au r hr
    obtain⟨g2,_,g4,g5⟩:=VJ g1 hr Au
    have ce:r.b < a8.length:=by rw[g1.len];exact ok.b1
    have wG:r.a < a8.length:=by rw[g1.len];exact ok.a1
    have r0:B3 (BF r) (.int 0)=.ok (.int r.a):=rfl
    have r1:B3 (BF r) (.int 1)=.ok (.int r.b):=rfl
    have x0:B3 (.lst (a8.map cst)) (.int r.a)=.ok (cst (atC a8 r.a)):=E9 ok.a0 wG
    have x1:B3 (.lst (a8.map cst)) (.int r.b)=.ok (cst (atC a8 r.b)):=E9 ok.b0 ce
    have wH:=FK r
    have qx:=K8 (atC a8 r.a) (C3 r)
    have hle:Qi [.lst [cst (atC a8 r.b),cst (Aq (atC a8 r.a) (C3 r))]]=.ok (.sh (cst (Dx (atC a8 r.b) (Aq (atC a8 r.a) (C3 r))))):=Nq [atC a8 r.b,Aq (atC a8 r.a) (C3 r)] (by simp)
    have af:=cU (Dx (atC a8 r.b) (Aq (atC a8 r.a) (C3 r))) (atC a8 r.b)
    refine⟨_,rfl,?_⟩
    apply wp_step
    ·simp_arith[r0,r1,x0,x1,wH,qx,hle];rfl
    try simp only[zr,zl]
    by_cases hc:Dx (atC a8 r.b) (Aq (atC a8 r.a) (C3 r))=atC a8 r.b
    ·rw[decide_eq_true hc] at af
     refine Bh (ρ':=_) (by simp_arith[r1,x1,af];rfl) ⟨a8,ch,_,_,rfl,g1,h1,fun hf=>?_⟩
     obtain⟨e1,e2⟩:=h2 hf
     subst e1
     refine⟨rfl,fun r' bq=>?_⟩
     rw[yu,hq] at bq
     rcases zv.mp bq with bq|bq
     ·exact e2 r' bq
     ·have:r'=r:=by simpa using bq
      rw[this];exact hc
    ·rw[decide_eq_false hc] at af
     have a9:=HJ (i:=2) (ρ:=[some (.val (As m rs)),some (.val (.int s)),some (.own (a8.map cst)),some (.val (.bl ch)),some (.val (BF r)),some (.val (cst (Dx (atC a8 r.b) (Aq (atC a8 r.a) (C3 r)))))]) (d:=cst (Dx (atC a8 r.b) (Aq (atC a8 r.a) (C3 r)))) (p:=r.b) rfl ok.b0 (by rw[zc];exact ce)
     have br:(a8.map cst).set r.b.toNat (cst (Dx (atC a8 r.b) (Aq (atC a8 r.a) (C3 r))))=(D3 r a8).map cst:=by unfold D3;rw[List.map_set]
     rw[br] at a9
     simp_arith[r1,x1,af,if_true]
     apply wp_step
     ·simp_arith[r1,a9];rfl
     refine Bh (ρ':=_) rfl ⟨D3 r a8,true,_,_,rfl,g2,fun _=>?_,fun hf=>by cases hf⟩
     cases ch with
     |false=>obtain⟨e1,_⟩:=h2 rfl;subst e1;exact g5 hc
     |true=>exact NH.trans ltN VH (g5 hc) (h1 rfl)
   ·rintro ρ' ⟨a8,ch,s4,s5,rfl,g1,h1,h2⟩
    cases ch with
    |true=>exact⟨(a8,true),⟨rfl,.inr ⟨rfl,h1 rfl⟩⟩,s4,s5,rfl,g1,fun e=>by cases e⟩
    |false =>
     obtain⟨e1,e2⟩:=h2 rfl
     subst e1
     rw[zc,yr] at e2
     exact⟨(a8,false),⟨rfl,.inl rfl⟩,s4,s5,rfl,g1,fun _=>right_of g1 e2⟩
 ·rintro ρ' ⟨cs,s3,s4,s5,rfl,hR⟩
  exact⟨_,rfl,cs,hR,rfl⟩
noncomputable def Le:List D->M OT:=zi F4
theorem O4:Txt K mg->BS P w K mg base "costs_from" 2 2 Le:=(zb F4).1
theorem F5:∀(m s:Nat) (rs:List Road),s < m->m<=900->(∀ r∈rs,Ho m r)->∃ cs:List Co,Right m s rs cs/\Le [As m rs,.int s]=.ok (.lst ((cs.map cst).map .sh)):=(zb F4).2
theorem Dr:∃ F:List D->M OT,(∀ {P:Program}{w:World}{K:za}{mg:Str->Option Value}{base:Heap},Txt K mg->II P w K mg base "Ladder" "order" 1 1 F)/\(∀(m:Nat) (rs:List Road) (L:List Int) (A:LA) (K:List (Int×Int)),F [B7 m rs L A K]=.ok (.lst ((L.map D.int).map .sh))):=by
 refine⟨_,fun T=>M4 (k:=0) T.Nk Ls _ (fun f AZ A outer s H E hr=>(A5 (Am (Jj rfl T.F1 (EZ ["Ladder"] (Bp T.Cy BX) (A1 0 (pv 0))))))),?_⟩
 intro m rs L A K
 rfl
noncomputable def Ba:List D->M OT:=zi Dr
theorem Ga:Txt K mg->II P w K mg base "Ladder" "order" 1 1 Ba:=(zb Dr).1
theorem Gb:∀(m:Nat) (rs:List Road) (L:List Int) (A:LA) (K:List (Int×Int)),Ba [B7 m rs L A K]=.ok (.lst ((L.map D.int).map .sh)):=(zb Dr).2
theorem FL:∃ F:List D->M OT,(∀ {P:Program}{w:World}{K:za}{mg:Str->Option Value}{base:Heap},Txt K mg->BS P w K mg base "costs_out" 5 2 F)/\(∀(m:Nat) (rs:List Road) (L:List Int) (A:LA) (K:List (Int×Int)) (s:Nat),Cq m rs L A K->s < m->∃ T:List Co,F [B7 m rs L A K,.int s]=.ok (.lst ((T.map cst).map .sh))/\T.length=m/\∀ w:Int,0<=w->w < m->BO rs s w (atC T w)):=by
 refine⟨_,fun T=>AD (k:=4) T.RP Q9 _ (fun f AZ A outer s H E hr=>(A5 (Am (Aa A9.toXCall (S2 T) (hr.mono (by decide)) rfl (A2 (Aj (JY (k:=1) [("Ladder",Ba)] A9.toXCall (Ef (by decide) (Ga T) FA) (hr.mono (by decide)) (A1 0 (pv 0)))) (A2 (Aj (Aa A9.toXCall (O2 T) (hr.mono (by decide)) rfl (A2 (A1 0 (pv 0)) A8) rfl)) (A2 (A1 1 (pv 1)) A8))) rfl)))),?_⟩
 intro m rs L A K s ok hs
 have hm:=ok.m2
 have e0:AG ["ladder","start"] [B7 m rs L A K,.int s]=[some (.val (B7 m rs L A K)),some (.val (.int s))]:=rfl
 rw[e0]
 have h1:=O3 m rs L A K ok
 have h2:=Gb m rs L A K
 have gi:IJ [("Ladder",Ba)] "order" (B7 m rs L A K)=.ok Ba:=rfl
 have qy:(s:Int)∈L:=(B2 ok.pm).mpr ⟨by omega,by omega⟩
 have gj:∀ p c,AE (Ib A K) p=some c->p.1∈L/\p.2∈L:=fun p c h=>by
  have hm:=PR h
  unfold Ib at hm
  obtain⟨q,hq,e⟩:=zA.mp hm
  cases e
  have:=ok.Wu hq
  exact⟨(B2 ok.pm).mpr this.2.1,(B2 ok.pm).mpr this.2.2⟩
 have hC:∀ p c,AE (Ib A K) p=some c->p.1∈L/\p.2∈L:=fun p c h=>by
  exact gj p c h
 obtain⟨R,T,hF,hR,hT⟩:=S3 m L (Ib A K) s (by omega) ok.pm qy hC
 refine⟨T,Bo ?_,hT.len,fun w h0 h1=>?_⟩
 ·simp_arith[gi,h2,h1,hF]
  exact⟨_,rfl,rfl⟩
 ·have hU:=hR.uR (m:=m) hC
  have aF:∀ x:Int,0<=x->x < m->x∈L.reverse:=fun x a b=>List.mem_reverse.mpr ((B2 ok.pm).mpr ⟨a,b⟩)
  obtain⟨T',jx⟩:∃ T':Int->Co,T'=fun x:Int=>if 0<=x/\x < (m:Int) then atC T x else none:=⟨_,rfl⟩
  have cE:∀ x:Int,0<=x->x < m->T' x=atC T x:=fun x a b=>by rw[jx];exact if_pos ⟨a,b⟩
  have hS:pJ (Dy L) (fun x y=>AE (Ib A K) (x,y)) s (AE R) T' m:=⟨fun x a b=>by rw[cE x a b];exact hT.top x (aF x a b),fun x y a b c d hr=>by rw[cE x a b,cE y c d];exact hT.cl x (aF x a b) y (aF y c d) hr,fun x c hx=>by
   have ag:0<=x/\x < m:=by
    refine yD fun hn=>?_
    rw[jx] at hx
    dsimp only at hx
    rw[if_neg hn] at hx
    cases hx
   rw[cE x ag.1 ag.2] at hx
   exact hT.sd x c ag.1 ag.2 hx⟩
  obtain⟨cs,qz,_⟩:=F5 m s rs hs (by omega) (fun r hr=>(ok.ok r hr).1)
  have cb:=qz.XF (fun r hr=>(ok.ok r hr).1) h0 h1
  have q:=OW (s:=(s:Int)) (w:=w) ok.gM ok.kept ⟨by omega,by omega⟩ hU hS cb
  rw[cE w h0 h1] at q
  exact q
noncomputable def Nu:List D->M OT:=zi FL
theorem K9:Txt K mg->BS P w K mg base "costs_out" 5 2 Nu:=(zb FL).1
theorem Qj:∀(m:Nat) (rs:List Road) (L:List Int) (A:LA) (K:List (Int×Int)) (s:Nat),Cq m rs L A K->s < m->∃ T:List Co,Nu [B7 m rs L A K,.int s]=.ok (.lst ((T.map cst).map .sh))/\T.length=m/\∀ w:Int,0<=w->w < m->BO rs s w (atC T w):=(zb FL).2
theorem GY:∃ F:List D->M OT,(∀ {P:Program}{w:World}{K:za}{mg:Str->Option Value}{base:Heap},Txt K mg->BS P w K mg base "costs_in" 5 2 F)/\(∀(m:Nat) (rs:List Road) (L:List Int) (A:LA) (K:List (Int×Int)) (s:Nat),Cq m rs L A K->s < m->∃ T:List Co,F [B7 m rs L A K,.int s]=.ok (.lst ((T.map cst).map .sh))/\T.length=m/\∀ w:Int,0<=w->w < m->BO rs w s (atC T w)):=by
 refine⟨_,fun T=>AD (k:=4) T.Tx RK _ (fun f AZ A outer s H E hr=>(A5 (Am (Aa A9.toXCall (S2 T) (hr.mono (by decide)) rfl (A2 (Aj (JY (k:=1) [("Ladder",Ba)] A9.toXCall (Ef (by decide) (Ga T) FA) (hr.mono (by decide)) (A1 0 (pv 0)))) (A2 (Aj (Aa A9.toXCall (GW T) (hr.mono (by decide)) rfl (A2 (A1 0 (pv 0)) A8) rfl)) (A2 (A1 1 (pv 1)) A8))) rfl)))),?_⟩
 intro m rs L A K s ok hs
 have hm:=ok.m2
 have e0:AG ["ladder","goal"] [B7 m rs L A K,.int s]=[some (.val (B7 m rs L A K)),some (.val (.int s))]:=rfl
 rw[e0]
 have h1:=GX m rs L A K ok
 have h2:=Gb m rs L A K
 have gi:IJ [("Ladder",Ba)] "order" (B7 m rs L A K)=.ok Ba:=rfl
 have qy:(s:Int)∈L:=(B2 ok.pm).mpr ⟨by omega,by omega⟩
 have gj:∀ p c,AE (Ib A K) p=some c->p.1∈L/\p.2∈L:=fun p c h=>by
  have hm:=PR h
  unfold Ib at hm
  obtain⟨q,hq,e⟩:=zA.mp hm
  cases e
  have:=ok.Wu hq
  exact⟨(B2 ok.pm).mpr this.2.1,(B2 ok.pm).mpr this.2.2⟩
 have hC:∀ p c,AE (RI (Ib A K)) p=some c->p.1∈L/\p.2∈L:=fun p c h=>by
  rw[show p=(p.1,p.2) from rfl,Q5] at h
  have:=gj _ _ h
  exact⟨this.2,this.1⟩
 obtain⟨R,T,hF,hR,hT⟩:=S3 m L (RI (Ib A K)) s (by omega) ok.pm qy hC
 refine⟨T,Bo ?_,hT.len,fun w h0 h1=>?_⟩
 ·simp_arith[gi,h2,h1,hF]
  exact⟨_,rfl,rfl⟩
 ·have hU:=hR.uR (m:=m) hC
  have aF:∀ x:Int,0<=x->x < m->x∈L.reverse:=fun x a b=>List.mem_reverse.mpr ((B2 ok.pm).mpr ⟨a,b⟩)
  obtain⟨T',jx⟩:∃ T':Int->Co,T'=fun x:Int=>if 0<=x/\x < (m:Int) then atC T x else none:=⟨_,rfl⟩
  have cE:∀ x:Int,0<=x->x < m->T' x=atC T x:=fun x a b=>by rw[jx];exact if_pos ⟨a,b⟩
  have hS:pJ (Dy L) (fun x y=>AE (RI (Ib A K)) (x,y)) s (AE R) T' m:=⟨fun x a b=>by rw[cE x a b];exact hT.top x (aF x a b),fun x y a b c d hr=>by rw[cE x a b,cE y c d];exact hT.cl x (aF x a b) y (aF y c d) hr,fun x c hx=>by
   have ag:0<=x/\x < m:=by
    refine yD fun hn=>?_
    rw[jx] at hx
    dsimp only at hx
    rw[if_neg hn] at hx
    cases hx
   rw[cE x ag.1 ag.2] at hx
   exact hT.sd x c ag.1 ag.2 hx⟩
  have wI:(fun x y=>AE (RI (Ib A K)) (x,y))=fun x y=>AE (Ib A K) (y,x):=by funext x y;exact Q5 x y _
  rw[wI] at hU hS
  obtain⟨cs,qz,_⟩:=F5 m w.toNat rs (by omega) (by omega) (fun r hr=>(ok.ok r hr).1)
  have cb:=qz.XF (fun r hr=>(ok.ok r hr).1) (w:=(s:Int)) (by omega) (by omega)
  have ew:((w.toNat:Nat):Int)=w:=by omega
  rw[ew] at cb
  have q:=(OW (s:=(s:Int)) (w:=w) ok.gM.turn ok.kept.turn ⟨by omega,by omega⟩ hU hS cb.turn).turn
  rw[HM,cE w h0 h1] at q
  exact q
noncomputable def OY:List D->M OT:=zi GY
theorem Lf:Txt K mg->BS P w K mg base "costs_in" 5 2 OY:=(zb GY).1
theorem S4:∀(m:Nat) (rs:List Road) (L:List Int) (A:LA) (K:List (Int×Int)) (s:Nat),Cq m rs L A K->s < m->∃ T:List Co,OY [B7 m rs L A K,.int s]=.ok (.lst ((T.map cst).map .sh))/\T.length=m/\∀ w:Int,0<=w->w < m->BO rs w s (atC T w):=(zb GY).2
theorem Em:∃ F:List D->M OT,(∀ {P:Program}{w:World}{K:za}{mg:Str->Option Value}{base:Heap},Txt K mg->BS P w K mg base "cost_so_far" 1 2 F)/\(∀(A:LA) (p:Int×Int),F [L9 A,pD p]=.ok (.sh (cst (Ak A p)))):=by
 refine⟨_,fun T=>AD (k:=0) T.NX Nc _ (fun f AZ A outer s H E hr=>(A3 (B5 (LJ (c:=true) (AO hr 16 (by decide)) (A1 1 (pv 1)) (A1 0 (pv 0))) (A5 (Am (AX D1))) AA) (A5 (Am (AX (Ac (AO hr 16 (by decide)) (Ac (AO hr 16 (by decide)) (A1 0 (pv 0)) (A1 1 (pv 1))) A6)))))),?_⟩
 intro A p
 have e0:AG ["laid","pair"] [L9 A,pD p]=[some (.val (L9 A)),some (.val (pD p))]:=rfl
 rw[e0]
 refine Bo ?_
 have hm:=Q3 A p true
 unfold Ak
 cases q:AE A p with
 |none =>
  rw[q] at hm
  simp_arith[hm,EW];rfl
 |some v =>
  rw[q] at hm
  have hi:=Q4 q
  have h0:B3 (Wg v) (.int 0)=.ok (cst (some v.1)):=rfl
  apply wp_step
  ·simp_arith[hm,EW];rfl
  simp_arith[hi,h0];rfl
noncomputable def Ka:List D->M OT:=zi Em
theorem GZ:Txt K mg->BS P w K mg base "cost_so_far" 1 2 Ka:=(zb Em).1
theorem H9:∀(A:LA) (p:Int×Int),Ka [L9 A,pD p]=.ok (.sh (cst (Ak A p))):=(zb Em).2
theorem TU:∃ F:OT->List D->M (OT×OT),(∀ {P:Program}{w:World}{K:za}{mg:Str->Option Value}{base:Heap},Txt K mg->OG P w K mg base "lay" 1 4 F)/\(∀(A:LA) (p:Int×Int) (c:Co) (mid:Option Int),A.length < 1000->F (IU A) [pD p,cst c,GC mid]=.ok (IU (layA A p c mid),.sh .Az)):=by
 refine⟨_,fun T=>Ri (k:=0) T.pO lY _ (fun f AZ A outer s H E hr=>(A5 (B5 (IB (DW.dt (Iw (LC (c:=true) (A1 2 (pv 2))) (Hj (DW.dt (E6 (LJ (c:=true) (AO hr 16 (by decide)) (A1 1 (pv 1)) (A1 0 (pv 0))) (CK (lC (c:=true) (AO hr 16 (by decide)) (A1 2 (pv 2)) (Ac (AO hr 16 (by decide)) (Ac (AO hr 16 (by decide)) (A1 0 (pv 0)) (A1 1 (pv 1))) A6))))))))) (A5 (LL (AO hr 16 (by decide)) (BN 0 (pv 0)) (A1 1 (pv 1)) (AK (A2 (A1 2 (pv 2)) (A2 (A1 3 (pv 3)) A8))))) AA))),?_⟩
 intro A p c mid hA
 have e0:CU ["laid","pair","cost","middle"] (IU A) [pD p,cst c,GC mid]=[some (.ow (.tree (some 0) (IU A))),some (.val (pD p)),some (.val (cst c)),some (.val (GC mid))]:=rfl
 rw[e0]
 refine Ts ?_
 have hm:=Q3 A p true
 have uT:∀ c:Int×Int,D.tup [cst (some c),GC mid]=Wg (c,mid):=fun c=>rfl
 have hl:(A.map fun kv=>pD kv.1).length < 1000:=by rw[zc];exact hA
 have ii:keyOk true (pD p)=true:=rfl
 have aj:∀ v,(List.map (fun kv=>pD kv.1) (Dq A p v))=(List.map (fun kv=>pD kv.1) (Dq A p v)):=fun _=>rfl
 cases c with
 |none =>
  refine Bh (ρ':=_) (by simp_arith[cst,Cw];rfl) ⟨rfl,rfl⟩
 |some c =>
  have cC:Cw (cst (some c))=false:=rfl
  cases q:AE A p with
  |none =>
   rw[q] at hm
   have el:layA A p (some c) mid=Dq A p (c,mid):=by unfold layA;dsimp only;rw[q]
   rw[el]
   refine Bh (ρ':=[some (.ow (.tree (some 0) (IU (Dq A p (c,mid))))),some (.val (pD p)),some (.val (cst (some c))),some (.val (GC mid))]) (by
    simp_arith[cC,hm,EW,DQ,uT,if_pos (And.intro ii hl),YG,ii,hl,and_self,if_true]
    rfl) ⟨rfl,rfl⟩
  |some z =>
   rw[q] at hm
   have hi:=Q4 q
   have h0:B3 (Wg z) (.int 0)=.ok (cst (some z.1)):=rfl
   have hx:=sJ c z.1
   by_cases hc:c.1 < z.1.1\/(c.1=z.1.1/\c.2 < z.1.2)
   ·have el:layA A p (some c) mid=Dq A p (c,mid):=by unfold layA;dsimp only;rw[q];dsimp only;rw[if_pos hc]
    rw[decide_eq_true hc] at hx
    rw[el]
    refine Bh (ρ':=[some (.ow (.tree (some 0) (IU (Dq A p (c,mid))))),some (.val (pD p)),some (.val (cst (some c))),some (.val (GC mid))]) (by
     simp_arith[cC,hm,hi,h0,hx,EW,DQ,uT,if_pos (And.intro ii hl),YG,ii,hl,and_self,if_true]
     rfl) ⟨rfl,rfl⟩
   ·have el:layA A p (some c) mid=A:=by unfold layA;dsimp only;rw[q];dsimp only;rw[if_neg hc]
    rw[decide_eq_false hc] at hx
    rw[el]
    refine Bh (ρ':=_) (by simp_arith[cC,hm,hi,h0,hx,EW];rfl) ⟨rfl,rfl⟩
noncomputable def pQ:OT->List D->M (OT×OT):=zi TU
theorem YZ:Txt K mg->OG P w K mg base "lay" 1 4 pQ:=(zb TU).1
theorem Z0:∀(A:LA) (p:Int×Int) (c:Co) (mid:Option Int),A.length < 1000->pQ (IU A) [pD p,cst c,GC mid]=.ok (IU (layA A p c mid),.sh .Az):=(zb TU).2
theorem Ha:∃ F:OT->List D->M (OT×OT),(∀ {P:Program}{w:World}{K:za}{mg:Str->Option Value}{base:Heap},Txt K mg->OG P w K mg base "lay_over" 2 3 F)/\(∀(m:Nat) (A:LA) (p:Int) (H:List Int),m<=20->Fl m A->(∀ x∈H,0<=x/\x < m)->F (IU A) [.int p,.lst (H.map D.int)]=.ok (IU (lH A p H),.sh .Az)):=by
 refine⟨_,fun T=>Ri (k:=1) T.Tz EG _ (fun f AZ A outer s H E hr=>(A5 (BC A9.toXCall.own rfl (AN (A1 2 (pv 2))) (AW 3 EG.nd rfl (zO rfl)) (A5 (BC A9.toXCall.own rfl (AN (A1 2 (pv 2))) (AW 4 EG.nd rfl (zO rfl)) (A5 (B5 (G3 (c:=true) (AO hr 16 (by decide)) (A1 3 (pv 3)) (A1 4 (pv 4))) (A3 (B1 5 EG.nd rfl (zO rfl) (Aj (Eb (Aa A9.toXCall (K7 T) (hr.mono (by decide)) rfl (A2 (Aj (Aa A9.toXCall (GZ T) (hr.mono (by decide)) rfl (A2 (A1 0 (pv 0)) (A2 (AK (A2 (A1 3 (pv 3)) (A2 (A1 1 (pv 1)) A8))) A8)) rfl)) (A2 (Aj (Aa A9.toXCall (GZ T) (hr.mono (by decide)) rfl (A2 (A1 0 (pv 0)) (A2 (AK (A2 (A1 1 (pv 1)) (A2 (A1 4 (pv 4)) A8))) A8)) rfl)) A8)) rfl)))) (A5 (MT (Y2 A9.toXCall (YZ T) (hr.mono (by decide)) rfl (BN 0 (pv 0)) (A2 (AK (A2 (A1 3 (pv 3)) (A2 (A1 4 (pv 4)) A8))) (A2 (A1 5 (pv 5)) (A2 (A1 1 (pv 1)) A8))) rfl)))) AA))))))),?_⟩
 intro m A p H hm hA hH
 have e0:CU ["laid","place","higher","u","w","cost"] (IU A) [.int p,.lst (H.map D.int)]=[some (.ow (.tree (some 0) (IU A))),some (.val (.int p)),some (.val (.lst (H.map D.int))),none,none,none]:=rfl
 rw[e0]
 refine Ts ?_
 simp_arith[]
 refine BD (fun i ρ=>∃ s3 s4 s5:Option Cl,ρ=[some (.ow (.tree (some 0) (IU ((H.take i).foldl (fB p H) A)))),some (.val (.int p)),some (.val (.lst (H.map D.int))),s3,s4,s5]) ⟨none,none,none,rfl⟩ ?_ ?_
 ·rintro i d ρ hd ⟨s3,s4,s5,rfl⟩
  obtain⟨u,hu,rfl⟩:=BP hd
  have qo:=hH u (zj hu)
  refine⟨_,rfl,?_⟩
  obtain⟨B,hB⟩:∃ B,B=(H.take i).foldl (fB p H) A:=⟨_,rfl⟩
  have gl:Fl m B:=by rw[hB];exact Fl.lo hH hA fun x hx=>hH x (ym hx)
  rw[<-hB,Eg hu,<-hB]
  simp_arith[]
  refine BD (fun j ρ=>∃ s4 s5:Option Cl,ρ=[some (.ow (.tree (some 0) (IU ((H.take j).foldl (PV p u) B)))),some (.val (.int p)),some (.val (.lst (H.map D.int))),some (.val (.int u)),s4,s5]) ⟨s4,s5,rfl⟩ ?_ ?_
  ·rintro j d ρ hd ⟨s4,s5,rfl⟩
   obtain⟨w,hw,rfl⟩:=BP hd
   have yb:=hH w (zj hw)
   refine⟨_,rfl,?_⟩
   obtain⟨C,hC⟩:∃ C,C=(H.take j).foldl (PV p u) B:=⟨_,rfl⟩
   have rb:Fl m C:=by rw[hC];exact Fl.ou qo gl fun x hx=>hH x (ym hx)
   rw[Eg hw,<-hC]
   by_cases e:u=w
   ·have ev:PV p u C w=C:=by unfold PV;rw[if_pos e]
    rw[ev]
    refine Bh (ρ':=_) (by simp_arith[decide_eq_true e];rfl) ⟨_,_,rfl⟩
   ·have ev:PV p u C w=layA C (u,w) (Aq (Ak C (u,p)) (Ak C (p,w))) (some p):=by unfold PV;rw[if_neg e]
    rw[ev]
    have h1:=H9 C (u,p)
    have h2:=H9 C (p,w)
    have h3:=K8 (Ak C (u,p)) (Ak C (p,w))
    have h4:=Z0 C (u,w) (Aq (Ak C (u,p)) (Ak C (p,w))) (some p) (rb.len hm)
    have t1:∀ a b:Int,D.tup [.int a,.int b]=pD (a,b):=fun a b=>rfl
    have t2:GC (some p)=.int p:=rfl
    rw[t2] at h4
    have h5:=KH (ρ:=[some (.ow (.tree (some 0) (IU C))),some (.val (.int p)),some (.val (.lst (H.map D.int))),some (.val (.int u)),some (.val (.int w)),some (.val (cst (Aq (Ak C (u,p)) (Ak C (p,w)))))]) (i:=0) rfl rfl h4
    simp_arith[decide_eq_false e,if_true]
    apply wp_step
    ·simp_arith[t1,h1,h2,h3];rfl
    refine Bh (ρ':=_) (by simp_arith[t1,h5];rfl) ⟨_,_,rfl⟩
  ·rintro ρ ⟨s4,s5,rfl⟩
   rw[zc,yr]
   exact⟨_,s4,s5,rfl⟩
 ·rintro ρ ⟨s3,s4,s5,rfl⟩
  rw[zc,yr]
  exact⟨rfl,trivial⟩
noncomputable def OZ:OT->List D->M (OT×OT):=zi Ha
theorem S5:Txt K mg->OG P w K mg base "lay_over" 2 3 OZ:=(zb Ha).1
theorem S6:∀(m:Nat) (A:LA) (p:Int) (H:List Int),m<=20->Fl m A->(∀ x∈H,0<=x/\x < m)->OZ (IU A) [.int p,.lst (H.map D.int)]=.ok (IU (lH A p H),.sh .Az):=(zb Ha).2
theorem FN:∃ F:List D->M OT,(∀ {P:Program}{w:World}{K:za}{mg:Str->Option Value}{base:Heap},Txt K mg->BS P w K mg base "laid_arcs" 3 2 F)/\(∀(m:Nat) (rs:List Road) (L:List Int),m<=20->L.Perm (AR m)->(∀ r∈rs,Ho m r/\r.a≠r.b)->F [As m rs,.lst (L.map D.int)]=.ok (IU (BQ rs L))):=by
 refine⟨_,fun T=>AD (k:=2) T.RQ CM _ (fun f AZ A outer s H E hr=>(A3 (Bz 2 CM.nd rfl (zO rfl) (Rk true)) (A3 (BC A9.toXCall.own rfl (AN (Ac (AO hr 16 (by decide)) (A1 0 (pv 0)) A6)) (AW 3 CM.nd rfl (zO rfl)) (A5 (MT (Y2 A9.toXCall (YZ T) (hr.mono (by decide)) rfl (BN 2 (pv 2)) (A2 (AK (A2 (Ac (AO hr 16 (by decide)) (A1 3 (pv 3)) A6) (A2 (Ac (AO hr 16 (by decide)) (A1 3 (pv 3)) A6) A8))) (A2 (Aj (Aa A9.toXCall (FJ T) (hr.mono (by decide)) rfl (A2 (A1 3 (pv 3)) A8) rfl)) (A2 D1 A8))) rfl)))) (A3 (BC A9.toXCall.own rfl (Ug rfl T.Lb (A1 1 (pv 1))) (Xq (n:=2) rfl (J7 (AW 4 CM.nd rfl (zO rfl)) (J7 (AW 5 CM.nd rfl (zO rfl)) Ue))) (A5 (MT (Y2 A9.toXCall (S5 T) (hr.mono (by decide)) rfl (BN 2 (pv 2)) (A2 (A1 5 (pv 5)) (A2 (Aj (MV (A1 1 (pv 1)) (LD (BU (A1 4 (pv 4)) A6)) Ud)) A8)) rfl)))) (A5 (CL 2 (pv 2))))))),?_⟩
 intro m rs L hm hL Au
 have e0:AG ["net","order","laid","road","rank","place"] [As m rs,.lst (L.map D.int)]=[some (.val (As m rs)),some (.val (.lst (L.map D.int))),none,none,none,none]:=rfl
 rw[e0]
 refine Bo ?_
 have n1:B3 (As m rs) (.int 1)=.ok (.lst (rs.map BF)):=rfl
 apply wp_step
 ·rfl
 try simp only[zr,zl]
 have gm:∀ i,i<=rs.length->Fl m ((rs.take i).foldl (fun A r=>layA A (r.a,r.b) (C3 r) none) []):=fun i hi=>by
  have:=(PX (m:=m) (rs:=rs.take i) fun r hr=>Au r (ym hr)).1
  exact this
 refine C4 (I:=fun ρ=>∃ s3 s4 s5:Option Cl,ρ=[some (.val (As m rs)),some (.val (.lst (L.map D.int))),some (.ow (.tree none (IU (lay0 rs)))),s3,s4,s5]) ?_ ?_
 ·simp_arith[n1]
  refine BD (fun i ρ=>i<=rs.length/\∃ s3 s4 s5:Option Cl,ρ=[some (.val (As m rs)),some (.val (.lst (L.map D.int))),some (.ow (.tree none (IU ((rs.take i).foldl (fun A r=>layA A (r.a,r.b) (C3 r) none) [])))),s3,s4,s5]) ⟨zP _,none,none,none,rfl⟩ ?_ ?_
  ·rintro i d ρ hd ⟨hi,s3,s4,s5,rfl⟩
   obtain⟨r,hr,rfl⟩:=BP hd
   have aj:=(zw.mp hr).1
   refine⟨_,rfl,?_⟩
   rw[Eg hr]
   obtain⟨B,hB⟩:∃ B,B=(rs.take i).foldl (fun A r=>layA A (r.a,r.b) (C3 r) none) []:=⟨_,rfl⟩
   have gl:Fl m B:=by rw[hB];exact gm i hi
   rw[<-hB]
   have i0:B3 (BF r) (.int 0)=.ok (.int r.a):=rfl
   have i1:B3 (BF r) (.int 1)=.ok (.int r.b):=rfl
   have h1:=FK r
   have h2:=Z0 B (r.a,r.b) (C3 r) none (gl.len hm)
   have t1:∀ a b:Int,D.tup [.int a,.int b]=pD (a,b):=fun a b=>rfl
   have t2:GC none=.Az:=rfl
   rw[t2] at h2
   have h5:=KH (ρ:=[some (.val (As m rs)),some (.val (.lst (L.map D.int))),some (.ow (.tree none (IU B))),some (.val (BF r)),s4,s5]) (i:=2) rfl rfl h2
   refine Bh (ρ':=_) (by simp_arith[i0,i1,h1,t1,h5];rfl) ⟨aj,_,_,_,rfl⟩
  ·rintro ρ ⟨_,s3,s4,s5,rfl⟩
   rw[zc,yr]
   exact⟨s3,s4,s5,rfl⟩
 ·rintro ρ ⟨s3,s4,s5,rfl⟩
  have qu:=PX Au
  refine C4 (I:=fun ρ=>∃ s3 s4 s5:Option Cl,ρ=[some (.val (As m rs)),some (.val (.lst (L.map D.int))),some (.ow (.tree none (IU (BQ rs L)))),s3,s4,s5]) ?_ ?_
  ·simp_arith[]
   refine BD (fun i ρ=>i<=L.length/\∃(G:LA) (s3 s4 s5:Option Cl),ρ=[some (.val (As m rs)),some (.val (.lst (L.map D.int))),some (.ow (.tree none (IU G))),s3,s4,s5]/\Fl m G/\To G (L.drop i)=To (lay0 rs) L) ⟨zP _,lay0 rs,s3,s4,s5,rfl,qu.1,rfl⟩ ?_ ?_
   ·rintro i d ρ hd ⟨hi,G,s3,s4,s5,rfl,hG,jy⟩
    obtain⟨d',aQ,rfl⟩:=Kq hd
    obtain⟨p,hp,rfl⟩:=BP aQ
    have aj:=(zw.mp hp).1
    rw[Nat.zero_add]
    refine⟨_,rfl,?_⟩
    have bI:∀ x∈L.drop (i + 1),0<=x/\x < m:=fun x hx=>(B2 hL).mp (List.mem_of_mem_drop hx)
    have ed:L.drop i=p::L.drop (i + 1):=by
     rw[List.drop_eq_getElem_cons aj]
     rw[zq aj] at hp
     rw[zM hp]
    rw[ed,To] at jy
    have h2:=S6 m G p (L.drop (i + 1)) hm hG bI
    have sl:dJ (some ((i:Int) + 1)) none (.lst (L.map D.int))=.ok (.lst (((L.drop (i + 1)).map D.int).map .sh)):=by rw[List.map_drop];exact Rr _ (i + 1)
    have h5:=KH (ρ:=[some (.val (As m rs)),some (.val (.lst (L.map D.int))),some (.ow (.tree none (IU G))),s3,some (.val (.int i)),some (.val (.int p))]) (i:=2) rfl rfl h2
    refine Bh (ρ':=_) (by simp_arith[sl,h5];rfl) ⟨aj,_,_,_,_,rfl,Fl.lo bI hG bI,jy⟩
   ·rintro ρ ⟨_,G,s3,s4,s5,rfl,hG,jy⟩
    rw[Hl,zc,List.drop_length,To] at jy
    exact⟨s3,s4,s5,by rw[jy];rfl⟩
  ·rintro ρ ⟨s3,s4,s5,rfl⟩
   exact⟨_,rfl,rfl⟩
noncomputable def Nv:List D->M OT:=zi FN
theorem Qk:Txt K mg->BS P w K mg base "laid_arcs" 3 2 Nv:=(zb FN).1
theorem Ql:∀(m:Nat) (rs:List Road) (L:List Int),m<=20->L.Perm (AR m)->(∀ r∈rs,Ho m r/\r.a≠r.b)->Nv [As m rs,.lst (L.map D.int)]=.ok (IU (BQ rs L)):=(zb FN).2
theorem Hb:∃ F:List D->M OT,(∀ {P:Program}{w:World}{K:za}{mg:Str->Option Value}{base:Heap},Txt K mg->BS P w K mg base "is_order" 2 2 F)/\(∀(m:Nat) (x d:D),m<=60->pG d->F [.tup [.int m,x],d]=.ok (.sh (.bl (ED m d)))):=by
 refine⟨_,fun T=>AD (k:=1) T.TB RL _ (fun f AZ A outer s H E hr=>(A3 (B5 (DW.dt (E6 (Ci (BV (c:=true) (EU (Ko _) rfl T.B0 rfl T.F1 (by decide +kernel) (A1 1 (pv 1))))) (CK (G3 (c:=true) (AO hr 16 (by decide)) (Dp rfl T.G8 (A1 1 (pv 1))) (Ac (AO hr 16 (by decide)) (A1 0 (pv 0)) A6))))) (A5 (Am (AX CC))) AA) (A3 (B5 (Ci (BV (c:=true) (SS rfl rfl T.YR (Aj (Cb (NB:=["place","net"]) [none,some 0] rfl (AN (A1 1 (pv 1))) rfl rfl (Bn 0 (by decide) rfl rfl rfl) (fun _ _ _ _=>Dc) (fun _ _ _ _=>(Aj (BM (Aa (Bd rfl).toXCall (AU T) (hr.mono (by decide)) rfl (A2 (A1 0 (pv 0)) (A2 (Ac (AO hr 16 (by decide)) (A1 1 (pv 1)) A6) A8)) rfl))))))))) (A5 (Am (AX CC))) AA) (A5 (Am (AX (fW (AO hr 16 (by decide)) (Aj (W7 rfl rfl T.YW (A1 1 (pv 1)))) (Aj (Jr rfl rfl T.F1 rfl T.CP (Ac (AO hr 16 (by decide)) (A1 0 (pv 0)) A6)))))))))),?_⟩
 intro m x d hm ⟨hx,Au⟩
 have e0:AG ["net","thing"] [.tup [.int m,x],d]=[some (.val (.tup [.int m,x])),some (.val d)]:=rfl
 rw[e0]
 have n0:B3 (.tup [.int m,x]) (.int 0)=.ok (.int m):=rfl
 refine Bo ?_
 cases d with
 |lst xs =>
  obtain⟨hl,bZ⟩:=Au xs rfl
  by_cases h1:xs.length=m
  ·have dw:(xs.length:Int)=(m:Int):=by omega
   apply wp_step
   ·simp_arith[n0,decide_eq_true dw];rfl
   have aq:∀ {gt:D->Ab->M Ab} {ft:Ab->M Bool} {fe:Ab->M D} {ρ:Ab},(∀ d∈xs,∃ ρ1,gt d ρ=.ok ρ1/\ft ρ1=.ok true/\fe ρ1=.ok (.bl (Kf d m)))->B6 gt ft fe xs ρ=.ok ((xs.map fun e=>Kf e m).map D.bl):=fun h=>by
    rw[Oy (fun d=>.bl (Kf d m)) xs h,zY];rfl
   cases h2:(xs.map fun e=>Kf e m).all id with
   |false =>
    have hf:ED m (.lst xs)=false:=by
     cases q:ED m (.lst xs) with
     |false=>rfl
     |true=>have:=(Rw q).2;rw[h2] at this;cases this
    rw[hf]
    simp_arith[if_pos hl]
    rw[aq]
    ·simp_arith[h2]
     rfl
    ·intro d hd
     have:=AL d m (bZ d hd)
     exact⟨_,rfl,rfl,by simp_arith[n0,this]⟩
   |true =>
    obtain⟨L,rfl⟩:=US h2
    rw[zc] at h1
    have hs:=W6 (ns:=L) (by omega)
    have h3:=PF (n:=m) (by omega)
    rw[MX] at h3
    apply wp_step
    ·simp_arith[if_pos hl]
     rw[aq]
     ·simp_arith[h2]
      rfl
     ·intro d hd
      have:=AL d m (bZ d hd)
      exact⟨_,rfl,rfl,by simp_arith[n0,this]⟩
    simp_arith[n0,hs,h3,Yb]
    rw[N1]
    rfl
  ·have dw:¬ (xs.length:Int)=(m:Int):=by omega
   rw[eJ h1]
   simp_arith[n0,decide_eq_false dw]
   rfl
 |DH x=>cases hx
 |ins x n d=>cases hx
 |_=>rfl
noncomputable def P5:List D->M OT:=zi Hb
theorem S7:Txt K mg->BS P w K mg base "is_order" 2 2 P5:=(zb Hb).1
theorem Lg:∀(m:Nat) (x d:D),m<=60->pG d->P5 [.tup [.int m,x],d]=.ok (.sh (.bl (ED m d))):=(zb Hb).2
theorem D8:∃ F:List D->M OT,(∀ {P:Program}{w:World}{K:za}{mg:Str->Option Value}{base:Heap},Txt K mg->BS P w K mg base "checked_order" 3 2 F)/\((∀(m:Nat) (x:D) (L:List Int),m<=60->L.Perm (AR m)->F [.tup [.int m,x],.lst (L.map .int)]=.ok (.lst ((L.map D.int).map .sh)))/\(∀(m:Nat) (x d:D),m<=60->pG d->ED m d=false->F [.tup [.int m,x],d]=.ex "NoOrder")):=by
 refine⟨_,fun T=>AD (k:=2) T.Lu KL _ (fun f AZ A outer s H E hr=>(A3 (B5 (Ci (BV (c:=true) (Aj (Aa A9.toXCall (S7 T) (hr.mono (by decide)) rfl (A2 (A1 0 (pv 0)) (A2 (A1 1 (pv 1)) A8)) rfl)))) (A5 (Ks (c:=true) T.Wq A9 rfl rfl SI)) AA) (A5 (Am (Jj rfl T.F1 (A1 1 (pv 1))))))),?_⟩
 refine⟨fun m x L hm hL=>?_,fun m x d hm hd ho=>?_⟩
 ·have e0:AG ["net","thing"] [.tup [.int m,x],.lst (L.map .int)]=[some (.val (.tup [.int m,x])),some (.val (.lst (L.map .int)))]:=rfl
  rw[e0]
  have hd:pG (.lst (L.map D.int)):=⟨rfl,fun xs e=>by
   cases e
   exact⟨by rw[zc,GL hL];omega,fun e he=>by obtain⟨j,_,rfl⟩:=zA.mp he;rfl⟩⟩
  have h1:=Lg m x _ hm hd
  rw[Tg hL] at h1
  refine Bo ?_
  apply wp_step
  ·simp_arith[h1];rfl
  simp_arith[]
  exact⟨_,rfl,rfl⟩
 ·have e0:AG ["net","thing"] [.tup [.int m,x],d]=[some (.val (.tup [.int m,x])),some (.val d)]:=rfl
  rw[e0]
  have h1:=Lg m x _ hm hd
  rw[ho] at h1
  simp_arith[h1]
  rfl
noncomputable def CS:List D->M OT:=zi D8
theorem KR:Txt K mg->BS P w K mg base "checked_order" 3 2 CS:=(zb D8).1
theorem KS:(∀(m:Nat) (x:D) (L:List Int),m<=60->L.Perm (AR m)->CS [.tup [.int m,x],.lst (L.map .int)]=.ok (.lst ((L.map D.int).map .sh)))/\(∀(m:Nat) (x d:D),m<=60->pG d->ED m d=false->CS [.tup [.int m,x],d]=.ex "NoOrder"):=(zb D8).2
theorem F6:∃ F:List D->M OT,(∀ {P:Program}{w:World}{K:za}{mg:Str->Option Value}{base:Heap},Txt K mg->BS P w K mg base "first_bows" 2 1 F)/\(∀(m:Nat) (rs:List Road),m<=20->(∀ r∈rs,Ho m r/\r.a≠r.b)->F [As m rs]=.ok (.Bg true ((By rs).map pD) ((CV (By rs)).map .sh))):=by
 refine⟨_,fun T=>AD (k:=1) T.Qg F0 _ (fun f AZ A outer s H E hr=>(A3 (Bz 1 F0.nd rfl (zO rfl) (Rk true)) (A3 (BC A9.toXCall.own rfl (AN (Ac (AO hr 16 (by decide)) (A1 0 (pv 0)) A6)) (AW 2 F0.nd rfl (zO rfl)) (A5 (B5 (LC (c:=true) (Aj (Aa A9.toXCall (FJ T) (hr.mono (by decide)) rfl (A2 (A1 2 (pv 2)) A8) rfl))) (A5 (LL (AO hr 16 (by decide)) (BN 1 (pv 1)) (AK (A2 (Ac (AO hr 16 (by decide)) (A1 2 (pv 2)) A6) (A2 (Ac (AO hr 16 (by decide)) (A1 2 (pv 2)) A6) A8))) CC)) AA))) (A5 (CL 1 (pv 1)))))),?_⟩
 intro m rs hm Au
 have e0:AG ["net","bows","road"] [As m rs]=[some (.val (As m rs)),none,none]:=rfl
 rw[e0]
 refine Bo ?_
 apply wp_step
 ·rfl
 have n1:B3 (As m rs) (.int 1)=.ok (.lst (rs.map BF)):=rfl
 refine C4 (I:=fun ρ=>∃ s2,ρ=[some (.val (As m rs)),some (.ow (.tree none (.Bg true ((By rs).map pD) ((CV (By rs)).map .sh)))),s2]) ?_ ?_
 ·simp_arith[n1]
  refine BD (fun i ρ=>∃ s2,ρ=[some (.val (As m rs)),some (.ow (.tree none (.Bg true ((By (rs.take i)).map pD) ((CV (By (rs.take i))).map .sh)))),s2]) ⟨none,rfl⟩ ?_ ?_
  ·rintro i d ρ hd ⟨s2,rfl⟩
   rw[zF] at hd
   cases hq:rs[i]? with
   |none=>rw[hq] at hd;cases hd
   |some r =>
    rw[hq] at hd
    cases hd
    have hr:=zj hq
    have et:rs.take (i + 1)=rs.take i++[r]:=by rw[yu,hq];rfl
    have eb:By (rs.take (i + 1))=(match r.l with|none=>By (rs.take i)|some _=>Kz (By (rs.take i)) (r.a,r.b)):=by
     unfold By;rw[et,List.foldl_append];rfl
    have wJ:=Ru (m:=m) (rs:=rs.take i) fun r' h'=>Au r' (ym h')
    have hlen:=wJ.len hm
    have h1:=FK r
    refine⟨_,rfl,?_⟩
    cases hl:r.l with
    |none =>
     have e1:C3 r=none:=by unfold C3;rw[hl]
     rw[hl] at eb
     rw[e1] at h1
     simp_arith[h1,cst,Cw]
     exact⟨_,by rw[eb]⟩
    |some l =>
     have e1:C3 r=some (l,1):=by unfold C3;rw[hl]
     rw[hl] at eb
     rw[e1] at h1
     have i0:B3 (BF r) (.int 0)=.ok (.int r.a):=rfl
     have i1:B3 (BF r) (.int 1)=.ok (.int r.b):=rfl
     have kk:keyOk true (D.tup [.int r.a,.int r.b])=true/\((By (rs.take i)).map pD).length < 1000:=⟨rfl,by rw[zc];exact hlen⟩
     have pp:putD ((By (rs.take i)).map pD) (CV (By (rs.take i))) (D.tup [.int r.a,.int r.b]) (.bl true)=_:=UR (By (rs.take i)) (r.a,r.b)
     simp_arith[h1,cst,Cw,Bool.not_false,if_true,i0,i1,if_pos kk,pp]
     exact⟨_,by rw[eb]⟩
  ·rintro ρ ⟨s2,rfl⟩
   rw[zc,yr]
   exact⟨s2,rfl⟩
 ·rintro ρ ⟨s2,rfl⟩
  exact⟨_,rfl,rfl⟩
noncomputable def Lh:List D->M OT:=zi F6
theorem O5:Txt K mg->BS P w K mg base "first_bows" 2 1 Lh:=(zb F6).1
theorem O6:∀(m:Nat) (rs:List Road),m<=20->(∀ r∈rs,Ho m r/\r.a≠r.b)->Lh [As m rs]=.ok (.Bg true ((By rs).map pD) ((CV (By rs)).map .sh)):=(zb F6).2
theorem Ds:∃ F:List D->M OT,(∀ {P:Program}{w:World}{K:za}{mg:Str->Option Value}{base:Heap},Txt K mg->BS P w K mg base "missing_bows" 1 3 F)/\(∀(B:List (Int×Int)) (vs:List D) (L:List Int) (v:Int),L.length<=30->F [.Bg true (B.map pD) vs,.lst (L.map .int),.int v]=.ok (.lst (((AY B L v).map pD).map .sh))):=by
 refine⟨_,fun T=>AD (k:=0) T.Nj BR _ (fun f AZ A outer s H E hr=>(A3 (Uh (NB:=["u","bows","place"]) 3 [none,some 0,some 2] BR.nd rfl (zO rfl) rfl (AN (A1 1 (pv 1))) rfl rfl (Bn 0 (by decide) rfl rfl rfl) (fun _ _ _ _=>Hn (MS (c:=true) (AO hr 16 (by decide)) (AK (A2 (A1 0 (pv 0)) (A2 (A1 2 (pv 2)) A8))) (A1 1 (pv 1)))) (fun _ _ _ _=>(A1 0 (pv 0)))) (A3 (Uh (NB:=["w","bows","place"]) 4 [none,some 0,some 2] BR.nd rfl (zO rfl) rfl (AN (A1 1 (pv 1))) rfl rfl (Bn 0 (by decide) rfl rfl rfl) (fun _ _ _ _=>Hn (MS (c:=true) (AO hr 16 (by decide)) (AK (A2 (A1 2 (pv 2)) (A2 (A1 0 (pv 0)) A8))) (A1 1 (pv 1)))) (fun _ _ _ _=>(A1 0 (pv 0)))) (A3 (Bz 5 BR.nd rfl (zO rfl) (Kw Fx)) (A3 (BC A9.toXCall.own rfl (AN (A1 3 (pv 3))) (AW 6 BR.nd rfl (Or.inr rfl)) (A5 (XZ (BN 5 (pv 5)) (by exact (Cb (NB:=["w","u","bows"]) [none,some 6,some 0] rfl (AN (A1 4 (pv 4))) rfl rfl (Bn 0 (by decide) rfl rfl rfl) (fun _ _ _ _=>Hn (DW.dt (Iw (G3 (c:=true) (AO hr 16 (by decide)) (A1 1 (pv 1)) (A1 0 (pv 0))) (Hj (LJ (c:=true) (AO hr 16 (by decide)) (AK (A2 (A1 1 (pv 1)) (A2 (A1 0 (pv 0)) A8))) (A1 2 (pv 2))))))) (fun _ _ _ _=>(AK (A2 (A1 1 (pv 1)) (A2 (A1 0 (pv 0)) A8))))))))) (A5 (CL 5 (pv 5)))))))),?_⟩
 intro B vs L v hl
 have e0:AG ["bows","left","place","ahead","behind","missing","u"] [.Bg true (B.map pD) vs,.lst (L.map .int),.int v]=[some (.val (.Bg true (B.map pD) vs)),some (.val (.lst (L.map .int))),some (.val (.int v)),none,none,none,none]:=rfl
 rw[e0]
 refine Bo ?_
 have hL:(L.map D.int).length<=1000:=by rw[zc];omega
 apply wp_step
 ·simp_arith[if_pos hL]
  rw[D6 (fun u=>decide ((u,v)∈B)) D.int (fun u hu=>⟨_,rfl,by simp[qC,qD,M2,zr,zl,M.A7,Hs,Hr,Ji,JC,JD,JE,LP,IG,Ky,Ro,Jt,Ju,Hw,UC,LM,LN,Jv,dQ,Hx,Hy,Fy,PH,D5,PJ,Jw,Jx,Hz,UH,Js,Fb,toCl_list,toCl_listP,toCl_dct,LQ,JF,JG,JH,JI,LR,JJ,JK,JL,mG,oU,Jy,UI,Jz,UJ,JA,JB,LO,UK,qE,qG,dU,dW,dX,dY,dZ,eA,toCl_nil,J9,Jp,Oq,PL,HA,LS,LU,JM,JN,LV,LW,LX,LY,LZ,JO,JP,JQ,JR,HB,HC,HD,HE,HF,JS,HG,HH,UL,UM,UN,UO,UP,HI,ite_tt,ite_ff,Bool.not_true,Bool.not_false,yR,zT,Ff,JV,JW,dS,eK,dR,eN,eO,eQ,M3,Q0,Q1,Q2,DQ,HQ,M7,Pu,fG,V3,Q7,PM],fun _=>by simp_arith[]⟩)]
  simp_arith[]
  rfl
 apply wp_step
 ·simp_arith[if_pos hL]
  rw[D6 (fun w=>decide ((v,w)∈B)) D.int (fun u hu=>⟨_,rfl,by simp[qC,qD,M2,zr,zl,M.A7,Hs,Hr,Ji,JC,JD,JE,LP,IG,Ky,Ro,Jt,Ju,Hw,UC,LM,LN,Jv,dQ,Hx,Hy,Fy,PH,D5,PJ,Jw,Jx,Hz,UH,Js,Fb,toCl_list,toCl_listP,toCl_dct,LQ,JF,JG,JH,JI,LR,JJ,JK,JL,mG,oU,Jy,UI,Jz,UJ,JA,JB,LO,UK,qE,qG,dU,dW,dX,dY,dZ,eA,toCl_nil,J9,Jp,Oq,PL,HA,LS,LU,JM,JN,LV,LW,LX,LY,LZ,JO,JP,JQ,JR,HB,HC,HD,HE,HF,JS,HG,HH,UL,UM,UN,UO,UP,HI,ite_tt,ite_ff,Bool.not_true,Bool.not_false,yR,zT,Ff,JV,JW,dS,eK,dR,eN,eO,eQ,M3,Q0,Q1,Q2,DQ,HQ,M7,Pu,fG,V3,Q7,PM],fun _=>by simp_arith[]⟩)]
  simp_arith[]
  rfl
 apply wp_step
 ·rfl
 try simp only[zr,zl]
 have uU:((L.filter fun w=>decide ((v,w)∈B)).map D.int).length<=1000:=by rw[zc];exact yo (List.length_filter_le _ _) (by omega)
 have hlen:=W2 B L v
 have yc:L.length * L.length<=30 * 30:=Nat.mul_le_mul hl hl
 generalize hA:L.filter (fun u=>decide ((u,v)∈B))=A
 generalize hW:L.filter (fun w=>decide ((v,w)∈B))=W at uU ⊢
 obtain⟨G,hG⟩:∃ G:Int->List (Int×Int),G=fun u=>((W.filter fun w=>decide (u≠w) && !decide ((u,w)∈B)).map fun w=>(u,w)):=⟨_,rfl⟩
 have d8:AY B L v=A.flatMap G:=by unfold AY;rw[hA,hW,hG]
 refine C4 (I:=fun ρ=>∃ s6,ρ=[some (.val (.Bg true (B.map pD) vs)),some (.val (.lst (L.map .int))),some (.val (.int v)),some (.val (.lst (A.map .int))),some (.val (.lst (W.map .int))),some (.own ((A.flatMap G).map pD)),s6]) ?_ ?_
 ·simp_arith[]
  refine BD (fun i ρ=>∃ s6,ρ=[some (.val (.Bg true (B.map pD) vs)),some (.val (.lst (L.map .int))),some (.val (.int v)),some (.val (.lst (A.map .int))),some (.val (.lst (W.map .int))),some (.own (((A.take i).flatMap G).map pD)),s6]) ⟨none,rfl⟩ ?_ ?_
  ·rintro i d ρ hd ⟨s6,rfl⟩
   obtain⟨u,hu,rfl⟩:=BP hd
   have et:A.take (i + 1)=A.take i++[u]:=by rw[yu,hu];rfl
   refine⟨_,rfl,?_⟩
   have hb:(((A.take i).flatMap G).map pD).length + ((G u).map pD).length<=1000:=by
    have h1:((A.take (i + 1)).flatMap G).length<=(A.flatMap G).length:=by
     conv=>rhs;rw[<-y7 (i + 1) A,List.flatMap_append,zJ]
     omega
    rw[et,List.flatMap_append,zJ] at h1
    rw[d8] at hlen
    simp only[List.flatMap_cons,List.flatMap_nil,yq] at h1
    rw[zc,zc]
    omega
   have lb:(((W.filter fun w=>decide (u≠w) && !decide ((u,w)∈B)).map fun w=>(u,w)).map pD)=(W.filter fun w=>decide (u≠w) && !decide ((u,w)∈B)).map fun w=>D.tup [.int u,.int w]:=by rw[zY];rfl
   refine Bh (ρ':=[some (.val (.Bg true (B.map pD) vs)),some (.val (.lst (L.map .int))),some (.val (.int v)),some (.val (.lst (A.map .int))),some (.val (.lst (W.map .int))),some (.own (((A.take (i + 1)).flatMap G).map pD)),some (.val (.int u))]) ?_ ⟨_,rfl⟩
   simp_arith[if_pos uU]
   rw[D6 (fun w=>decide (u≠w) && !decide ((u,w)∈B)) (fun w=>D.tup [.int u,.int w]) (fun w hw=>⟨_,rfl,by
    simp[qC,qD,M2,zr,zl,M.A7,Hs,Hr,Ji,JC,JD,JE,LP,IG,Ky,Ro,Jt,Ju,Hw,UC,LM,LN,Jv,dQ,Hx,Hy,Fy,PH,D5,PJ,Jw,Jx,Hz,UH,Js,Fb,toCl_list,toCl_listP,toCl_dct,LQ,JF,JG,JH,JI,LR,JJ,JK,JL,mG,oU,Jy,UI,Jz,UJ,JA,JB,LO,UK,qE,qG,dU,dW,dX,dY,dZ,eA,toCl_nil,J9,Jp,Oq,PL,HA,LS,LU,JM,JN,LV,LW,LX,LY,LZ,JO,JP,JQ,JR,HB,HC,HD,HE,HF,JS,HG,HH,UL,UM,UN,UO,UP,HI,ite_tt,ite_ff,Bool.not_true,Bool.not_false,yR,zT,Ff,JV,JW,dS,eK,dR,eN,eO,eQ,M3,Q0,Q1,Q2,DQ,HQ,M7,Pu,fG,V3,Q7,PM,ZG,IT,AH,Av]
    by_cases h:u=w<;>simp[h],fun _=>by simp_arith[]⟩)]
   rw[<-lb]
   have wK:((W.filter fun w=>decide (u≠w) && !decide ((u,w)∈B)).map fun w=>(u,w))=G u:=by rw[hG]
   rw[wK]
   simp_arith[if_pos hb]
   rw[et,List.flatMap_append,List.flatMap_cons,List.flatMap_nil,yq,<-zL]
  ·rintro ρ ⟨s6,rfl⟩
   rw[zc,yr]
   exact⟨s6,rfl⟩
 ·rintro ρ ⟨s6,rfl⟩
  rw[d8]
  exact⟨_,rfl,rfl⟩
noncomputable def Ig:List D->M OT:=zi Ds
theorem Gd:Txt K mg->BS P w K mg base "missing_bows" 1 3 Ig:=(zb Ds).1
theorem Ge:∀(B:List (Int×Int)) (vs:List D) (L:List Int) (v:Int),L.length<=30->Ig [.Bg true (B.map pD) vs,.lst (L.map .int),.int v]=.ok (.lst (((AY B L v).map pD).map .sh)):=(zb Ds).2
theorem Hc:∃ F:List D->M OT,(∀ {P:Program}{w:World}{K:za}{mg:Str->Option Value}{base:Heap},Txt K mg->BS P w K mg base "lightest" 2 2 F)/\(∀(B:List (Int×Int)) (vs:List D) (L:List Int),L≠[]->L.length<=30->F [.Bg true (B.map pD) vs,.lst (L.map .int)]=.ok (.sh (.int (Bi B L)))):=by
 refine⟨_,fun T=>AD (k:=1) T.TC RM _ (fun f AZ A outer s H E hr=>(A5 (Am (AX (Ac (AO hr 16 (by decide)) (dH rfl (AO hr 16 (by decide)) rfl T.YV (Aj (Cb (NB:=["place","bows","left"]) [none,some 0,some 1] rfl (AN (A1 1 (pv 1))) rfl rfl (Bn 0 (by decide) rfl rfl rfl) (fun _ _ _ _=>Dc) (fun _ _ _ _=>(AK (A2 (Dp rfl T.G8 (Aj (BM (Aa (Bd rfl).toXCall (Gd T) (hr.mono (by decide)) rfl (A2 (A1 1 (pv 1)) (A2 (A1 2 (pv 2)) (A2 (A1 0 (pv 0)) A8))) rfl)))) (A2 (A1 0 (pv 0)) A8))))))) A6))))),?_⟩
 intro B vs L af hl
 have e0:AG ["bows","left"] [.Bg true (B.map pD) vs,.lst (L.map .int)]=[some (.val (.Bg true (B.map pD) vs)),some (.val (.lst (L.map .int)))]:=rfl
 rw[e0]
 refine Bo ?_
 have hL:(L.map D.int).length<=1000:=by rw[zc];omega
 simp_arith[if_pos hL]
 rw[C5 (fun p=>D.tup ([((AY B L p).length:Int),p].map D.int)) (fun p hp=>⟨_,rfl,rfl,by
  have h1:=Ge B vs L p hl
  simp_arith[h1,Vx,zc,zf,yM]⟩)]
 simp_arith[UA]
 rw[OJ]
 have hb:=W3 (fun p=>D.tup ([((AY B L p).length:Int),p].map D.int)) (L.map fun p=>(p,[((AY B L p).length:Int),p]))
 rw[zY] at hb
 have e2:((fun b:Int×List Int=>(D.tup ([((AY B L b.1).length:Int),b.1].map D.int),b.2)) ∘ fun p=>(p,[((AY B L p).length:Int),p]))=fun p=>(D.tup ([((AY B L p).length:Int),p].map D.int),[((AY B L p).length:Int),p]):=rfl
 rw[e2] at hb
 dsimp only
 rw[hb]
 unfold Bi
 cases q:AV (L.map fun p=>(p,[((AY B L p).length:Int),p])) with
 |none=>exact (MU (fun z=>af (List.map_eq_nil_iff.mp z)) q).elim
 |some k =>
  simp only[Option.map_some,M.A7]
  rfl
noncomputable def P6:List D->M OT:=zi Hc
theorem S8:Txt K mg->BS P w K mg base "lightest" 2 2 P6:=(zb Hc).1
theorem S9:∀(B:List (Int×Int)) (vs:List D) (L:List Int),L≠[]->L.length<=30->P6 [.Bg true (B.map pD) vs,.lst (L.map .int)]=.ok (.sh (.int (Bi B L))):=(zb Hc).2
theorem KU:∃ F:List D->M OT,(∀ {P:Program}{w:World}{K:za}{mg:Str->Option Value}{base:Heap},Txt K mg->BS P w K mg base "ranked" 3 1 F)/\(∀(m:Nat) (rs:List Road),m<=20->(∀ r∈rs,Ho m r/\r.a≠r.b)->F [As m rs]=.ok (.lst (((Sh m (By rs) (AR m)).map D.int).map .sh))):=by
 refine⟨_,fun T=>AD (k:=2) T.YQ DR _ (fun f AZ A outer s H E hr=>(A3 (Bz 1 DR.nd rfl (zO rfl) (Aa A9.toXCall (O5 T) (hr.mono (by decide)) rfl (A2 (A1 0 (pv 0)) A8) rfl)) (A3 (Bz 2 DR.nd rfl (zO rfl) (Jr rfl rfl T.F1 rfl T.CP (Ac (AO hr 16 (by decide)) (A1 0 (pv 0)) A6))) (A3 (Bz 3 DR.nd rfl (zO rfl) (Kw Fx)) (A3 (R3 A9.toXCall.own (IB (BV (c:=true) (A1 2 (pv 2)))) (A3 (B1 4 DR.nd rfl (zO rfl) (Aj (Eb (Aa A9.toXCall (S8 T) (hr.mono (by decide)) rfl (A2 (A1 1 (pv 1)) (A2 (A1 2 (pv 2)) A8)) rfl)))) (A3 (BC A9.toXCall.own rfl (AN (Aj (Eb (Aa A9.toXCall (Gd T) (hr.mono (by decide)) rfl (A2 (A1 1 (pv 1)) (A2 (A1 2 (pv 2)) (A2 (A1 4 (pv 4)) A8))) rfl)))) (AW 5 DR.nd rfl (zO rfl)) (A5 (LL (AO hr 16 (by decide)) (BN 1 (pv 1)) (A1 5 (pv 5)) CC))) (A3 (VZ (BN 2 (pv 2)) (A1 4 (pv 4))) (A5 (Hk 3 (pv 3) (A1 4 (pv 4)))))))) (A5 (CL 3 (pv 3)))))))),?_⟩
 intro m rs hm Au
 have e0:AG ["net","bows","left","order","place","bow"] [As m rs]=[some (.val (As m rs)),none,none,none,none,none]:=rfl
 rw[e0]
 refine Bo ?_
 have h1:=O6 m rs hm Au
 have n0:B3 (As m rs) (.int 0)=.ok (.int m):=rfl
 have h2:=PF (n:=m) (by omega)
 rw[MX] at h2
 apply wp_step
 ·simp_arith[h1]
  rfl
 apply wp_step
 ·simp_arith[n0,h2]
  rfl
 apply wp_step
 ·rfl
 try simp only[zr,zl]
 refine C4 (I:=fun ρ=>∃ s1 s2 s4 s5,ρ=[some (.val (As m rs)),s1,s2,some (.own ((Sh m (By rs) (AR m)).map D.int)),s4,s5]) ?_ ?_
 ·refine Rm (lt:=fun a b:Nat=>a < b) (fun n ρ=>∃(B:List (Int×Int)) (L O:List Int) (s4 s5:Option Cl),ρ=[some (.val (As m rs)),some (.ow (.tree none (.Bg true (B.map pD) ((CV B).map .sh)))),some (.own (L.map D.int)),some (.own (O.map D.int)),s4,s5]/\L.length=n/\n + O.length=m/\Cm m B/\(∀ p∈L,0<=p/\p < (m:Int))/\O++Sh n B L=Sh m (By rs) (AR m)) (Nat.lt_wfRel.wf.apply m) ⟨By rs,AR m,[],none,none,rfl,Fe m,by simp,Ru Au,fun p hp=>JT.mp hp,rfl⟩ ?_
  rintro n ρ ⟨B,L,O,s4,s5,rfl,hn,hO,hB,hL,de⟩
  by_cases jz:L=[]
  ·subst jz
   left
   have:n=0:=by simpa using hn.symm
   subst this
   rw[Sh,yq] at de
   exact⟨rfl,⟨_,_,_,_,by rw[de]⟩⟩
  ·right
   have j0:L.length<=30:=by omega
   have q1:=S9 B (CV B) L jz j0
   have q2:=Ge B (CV B) L (Bi B L) j0
   obtain⟨be,_⟩:=OL (B:=B) jz
   have wL:0 < L.length:=List.length_pos_of_mem be
   obtain⟨n',rfl⟩:∃ n',n=n' + 1:=⟨n - 1,by omega⟩
   rw[Sh,if_neg jz] at de
   constructor
   ·simp_arith[Y6]
    cases L with
    |nil=>exact (jz rfl).elim
    |cons x r=>rfl
   apply wp_step
   ·simp_arith[q1,kT eC]
    rfl
   try simp only[zr,zl]
   have d4:Jc ((AY B L (Bi B L)).map pD)=true:=Rp Y8 _
   refine C4 (I:=fun ρ=>∃ s5,ρ=[some (.val (As m rs)),some (.ow (.tree none (.Bg true ((Ck B (AY B L (Bi B L))).map pD) ((CV (Ck B (AY B L (Bi B L)))).map .sh)))),some (.own (L.map D.int)),some (.own (O.map D.int)),some (.val (.int (Bi B L))),s5]) ?_ ?_
   ·simp_arith[q2,eB d4]
    refine BD (fun i ρ=>∃ s5,ρ=[some (.val (As m rs)),some (.ow (.tree none (.Bg true ((Ck B ((AY B L (Bi B L)).take i)).map pD) ((CV (Ck B ((AY B L (Bi B L)).take i))).map .sh)))),some (.own (L.map D.int)),some (.own (O.map D.int)),some (.val (.int (Bi B L))),s5]) ⟨s5,rfl⟩ ?_ ?_
    ·rintro i d ρ hd ⟨s5,rfl⟩
     obtain⟨p,hp,rfl⟩:=BP hd
     refine⟨_,rfl,?_⟩
     have wM:Cm m (Ck B ((AY B L (Bi B L)).take i)):=hB.Ck fun q hq=>by
      have:=OK (ym hq)
      exact⟨this.2.2,hL _ this.1,hL _ this.2.1⟩
     have kk:keyOk true (pD p)=true/\((Ck B ((AY B L (Bi B L)).take i)).map pD).length < 1000:=⟨rfl,by rw[zc];exact wM.len hm⟩
     have et:(AY B L (Bi B L)).take (i + 1)=(AY B L (Bi B L)).take i++[p]:=by rw[yu,hp];rfl
     have ea:Ck B ((AY B L (Bi B L)).take (i + 1))=Kz (Ck B ((AY B L (Bi B L)).take i)) p:=by
      unfold Ck;rw[et,List.foldl_append];rfl
     simp_arith[if_pos kk,UR]
     exact⟨_,by rw[ea]⟩
    ·rintro ρ ⟨s5,rfl⟩
     rw[zc,yr]
     exact⟨s5,rfl⟩
   ·rintro ρ ⟨s5,rfl⟩
    have wN:(O.map D.int).length < 1000:=by rw[zc];omega
    apply wp_step
    ·simp_arith[DK,if_pos be]
     rfl
    refine Bh (ρ':=[some (.val (As m rs)),some (.ow (.tree none (.Bg true ((Ck B (AY B L (Bi B L))).map pD) ((CV (Ck B (AY B L (Bi B L)))).map .sh)))),some (.own ((L.erase (Bi B L)).map D.int)),some (.own ((O++[Bi B L]).map D.int)),some (.val (.int (Bi B L))),s5]) ?_ ?_
    ·simp_arith[if_pos wN,zL,zf,yM]
    ·have hlen:=List.length_erase_of_mem be
     refine⟨n',by omega,_,_,_,_,_,rfl,by omega,by rw[zJ];simp;omega,hB.Ck fun q hq=>?_,fun p hp=>hL p (List.mem_of_mem_erase hp),?_⟩
     ·have:=OK hq
      exact⟨this.2.2,hL _ this.1,hL _ this.2.1⟩
     ·rw[yN]
      exact de
 ·rintro ρ ⟨s1,s2,s4,s5,rfl⟩
  exact⟨_,rfl,rfl⟩
noncomputable def V9:List D->M OT:=zi KU
theorem Ws:Txt K mg->BS P w K mg base "ranked" 3 1 V9:=(zb KU).1
theorem Wt:∀(m:Nat) (rs:List Road),m<=20->(∀ r∈rs,Ho m r/\r.a≠r.b)->V9 [As m rs]=.ok (.lst (((Sh m (By rs) (AR m)).map D.int).map .sh)):=(zb KU).2
theorem Cz:∃ F:List D->M OT,(∀ {P:Program}{w:World}{K:za}{mg:Str->Option Value}{base:Heap},Txt K mg->BS P w K mg base "order_or_ranked" 4 2 F)/\(∀(m:Nat) (rs:List Road),m<=20->(∀ r∈rs,Ho m r/\r.a≠r.b)->(∀ L:List Int,L.Perm (AR m)->F [As m rs,.lst (L.map .int)]=.ok (.lst ((L.map D.int).map .sh)))/\F [As m rs,.Az]=.ok (.lst (((Sh m (By rs) (AR m)).map D.int).map .sh))):=by
 refine⟨_,fun T=>AD (k:=3) T.K5 IK _ (fun f AZ A outer s H E hr=>(A3 (B5 (Iv (c:=true) (A1 1 (pv 1))) (A5 (Am (Aa A9.toXCall (Ws T) (hr.mono (by decide)) rfl (A2 (A1 0 (pv 0)) A8) rfl))) AA) (A5 (Am (Aa A9.toXCall (KR T) (hr.mono (by decide)) rfl (A2 (A1 0 (pv 0)) (A2 (A1 1 (pv 1)) A8)) rfl))))),?_⟩
 intro m rs hm Au
 have h1:=Wt m rs hm Au
 refine⟨fun L hL=>?_,?_⟩
 ·have h2:CS [As m rs,.lst (L.map .int)]=.ok (.lst ((L.map D.int).map .sh)):=KS.1 m (.lst (rs.map BF)) L (by omega) hL
  have e0:AG ["net","order"] [As m rs,.lst (L.map .int)]=[some (.val (As m rs)),some (.val (.lst (L.map .int)))]:=rfl
  rw[e0]
  refine Bo ?_
  apply wp_step
  ·rfl
  simp_arith[h2]
  exact⟨_,rfl,rfl⟩
 ·have e0:AG ["net","order"] [As m rs,.Az]=[some (.val (As m rs)),some (.val .Az)]:=rfl
  rw[e0]
  refine Bo ?_
  simp_arith[Cw,h1]
  exact⟨_,rfl,rfl⟩
noncomputable def Cd:List D->M OT:=zi Cz
theorem IR:Txt K mg->BS P w K mg base "order_or_ranked" 4 2 Cd:=(zb Cz).1
theorem En:∀(m:Nat) (rs:List Road),m<=20->(∀ r∈rs,Ho m r/\r.a≠r.b)->(∀ L:List Int,L.Perm (AR m)->Cd [As m rs,.lst (L.map .int)]=.ok (.lst ((L.map D.int).map .sh)))/\Cd [As m rs,.Az]=.ok (.lst (((Sh m (By rs) (AR m)).map D.int).map .sh)):=(zb Cz).2
theorem FO:∃ F:List D->M OT,(∀ {P:Program}{w:World}{K:za}{mg:Str->Option Value}{base:Heap},Txt K mg->BS P w K mg base "kept_arcs" 3 2 F)/\(∀(m:Nat) (rs:List Road) (A:LA),m<=20->(∀ r∈rs,Ho m r)->Fl m A->∃ K:List (Int×Int),F [As m rs,L9 A]=.ok (.lst ((K.map pD).map .sh))/\K.Nodup/\∀ p,p∈K↔KP rs A p):=by
 refine⟨_,fun T=>AD (k:=2) T.RS DF _ (fun f AZ A outer s H E hr=>(A3 (Bz 2 DF.nd rfl (zO rfl) (Kw Fx)) (A3 (BC A9.toXCall.own rfl (C8 (c:=true) rfl T.CP (Ac (AO hr 16 (by decide)) (A1 0 (pv 0)) A6)) (AW 3 DF.nd rfl (Or.inr rfl)) (A3 (B1 4 DF.nd rfl (Or.inr rfl) (Aj (Aa A9.toXCall (O4 T) (hr.mono (by decide)) rfl (A2 (A1 0 (pv 0)) (A2 (A1 3 (pv 3)) A8)) rfl))) (A5 (XZ (BN 2 (pv 2)) (by exact (Cb (NB:=["w","u","laid","costs"]) [none,some 3,some 1,some 4] rfl (C8 (c:=true) rfl T.CP (Ac (AO hr 16 (by decide)) (A1 0 (pv 0)) A6)) rfl rfl (Bn 0 (by decide) rfl rfl rfl) (fun _ _ _ _=>Hn (DW.dt (Iw (MS (c:=true) (AO hr 16 (by decide)) (AK (A2 (A1 1 (pv 1)) (A2 (A1 0 (pv 0)) A8))) (A1 2 (pv 2))) (Hj (L0 (c:=true) (AO hr 16 (by decide)) (Ac (AO hr 16 (by decide)) (Ac (AO hr 16 (by decide)) (A1 2 (pv 2)) (AK (A2 (A1 1 (pv 1)) (A2 (A1 0 (pv 0)) A8)))) A6) (Ac (AO hr 16 (by decide)) (A1 3 (pv 3)) (A1 0 (pv 0)))))))) (fun _ _ _ _=>(AK (A2 (A1 1 (pv 1)) (A2 (A1 0 (pv 0)) A8)))))))))) (A5 (CL 2 (pv 2)))))),?_⟩
 intro m rs A hm Au hA
 have e0:AG ["net","laid","kept","u","costs"] [As m rs,L9 A]=[some (.val (As m rs)),some (.val (L9 A)),none,none,none]:=rfl
 rw[e0]
 refine (fun h:∃ t,_/\∃ K:List (Int×Int),t=.lst ((K.map pD).map .sh)/\K.Nodup/\∀ p,p∈K↔KP rs A p=>by
  obtain⟨t,h1,K,rfl,h2⟩:=h
  exact⟨K,h1,h2⟩) (L6 ?_)
 have n0:B3 (As m rs) (.int 0)=.ok (.int m):=rfl
 have hr:SM (.int (m:Int))=.ok ((AR m).map D.int):=by rw[Gx (by omega),Tt]
 have hl:((AR m).map D.int).length<=1000:=by rw[zc,Fe];omega
 apply wp_step
 ·rfl
 try simp only[zr,zl]
 refine C4 (I:=fun ρ=>∃(K:List (Int×Int)) (s3 s4:Option Cl),ρ=[some (.val (As m rs)),some (.val (L9 A)),some (.own (K.map pD)),s3,s4]/\K.Nodup/\∀ p,p∈K↔KP rs A p) ?_ ?_
 ·simp_arith[n0,hr]
  refine BD (fun i ρ=>i<=m/\∃(K:List (Int×Int)) (s3 s4:Option Cl),ρ=[some (.val (As m rs)),some (.val (L9 A)),some (.own (K.map pD)),s3,s4]/\K.Nodup/\∀ p,p∈K↔(p.1 < i/\KP rs A p)) ⟨zP _,[],none,none,rfl,y4,fun p=>⟨(fun h=>by cases h),fun h=>by
   obtain⟨c,hc,_⟩:=h.2
   have:=(hA.rg p (Fg hc)).2.1
   omega⟩⟩ ?_ ?_
  ·rintro i d ρ hd ⟨hi,K,s3,s4,rfl,hn,hK⟩
   obtain⟨u,hu,rfl⟩:=BP hd
   have aj:i < m:=by have:=(zw.mp hu).1;rw[Fe] at this;exact this
   have eu:u=(i:Int):=by
    unfold AR at hu
    rw[zF,List.getElem?_range aj] at hu
    exact (zM hu).symm
   subst eu
   obtain⟨cs,hR,hF⟩:=F5 m i rs aj (by omega) Au
   refine⟨_,rfl,?_⟩
   apply wp_step
   ·simp_arith[hF];rfl
   try simp only[zr,zl]
   obtain⟨W,hW⟩:∃ W,W=(AR m).filter fun w=>pM A cs i w:=⟨_,rfl⟩
   have uV:∀ w,w∈W↔KP rs A ((i:Int),w):=fun w=>by
    rw[hW,yy,JT]
    constructor
    ·rintro ⟨hw,h⟩;exact (YI hR Au hw.1 hw.2).mp h
    ·intro h
     obtain⟨c,hc,_⟩:=id h
     have:=(hA.rg _ (Fg hc)).2.2
     exact⟨this,(YI hR Au this.1 this.2).mpr h⟩
   have wO:W.Nodup:=by rw[hW];exact (N0 m).filter _
   have aR:(K++W.map fun w=>((i:Int),w)).Nodup:=by
    rw[zH]
    refine⟨hn,List.pairwise_map.mpr (wO.imp fun {a b} ic e=>ic (by cases e;rfl)),fun x hx y hy e=>?_⟩
    subst e
    obtain⟨w,_,rfl⟩:=zA.mp hy
    have:=(hK _).mp hx
    simp at this
   have uW:∀ p,p∈K++W.map (fun w=>((i:Int),w))↔(p.1 < ((i + 1:Nat):Int)/\KP rs A p):=fun p=>by
    rw[zv,hK]
    constructor
    ·rintro (h|h)
     ·exact⟨by have:=h.1;omega,h.2⟩
     ·obtain⟨w,hw,rfl⟩:=zA.mp h
      exact⟨by dsimp only;omega,(uV w).mp hw⟩
    ·rintro ⟨h1,h2⟩
     by_cases e:p.1 < (i:Int)
     ·exact .inl ⟨e,h2⟩
     ·have e2:p.1=(i:Int):=by omega
      obtain⟨p1,p2⟩:=p
      dsimp only at e2
      subst e2
      exact .inr (zA.mpr ⟨p2,(uV p2).mpr h2,rfl⟩)
   have hlen:=lS hA hm aR fun p hp=>((uW p).mp hp).2
   have hb:(K.map pD).length + ((W.map fun w=>((i:Int),w)).map pD).length<=1000:=by
    rw[zJ] at hlen
    rw[zc,zc]
    omega
   refine Bh (ρ':=[some (.val (As m rs)),some (.val (L9 A)),some (.own ((K++W.map fun w=>((i:Int),w)).map pD)),some (.val (.int i)),some (.val (.lst (cs.map cst)))]) ?_ ⟨aj,_,_,_,rfl,aR,uW⟩
   have t1:∀ a b:Int,D.tup [.int a,.int b]=pD (a,b):=fun a b=>rfl
   simp_arith[n0,hr,if_pos hl]
   rw[D6 (fun w=>pM A cs i w) (fun w=>pD ((i:Int),w)) (fun w hw=>⟨_,rfl,by
    have uX:=JT.mp hw
    have x1:B3 (.lst (cs.map cst)) (.int w)=.ok (cst (atC cs w)):=E9 uX.1 (by rw[hR.1];exact uX.2)
    have db:=Q3 A ((i:Int),w) false
    unfold pM Ak
    cases q:AE A ((i:Int),w) with
    |none =>
     rw[q] at db
     simp_arith[t1,db]
     rfl
    |some v =>
     rw[q] at db
     have hit:=Q4 q
     have h0:B3 (Wg v) (.int 0)=.ok (cst (some v.1)):=rfl
     have he:=cV (some v.1) (atC cs w)
     simp_arith[t1,db,hit,h0,x1,he]
     rfl,fun _=>by simp_arith[t1]⟩)]
   rw[<-hW]
   have ew:W.map (fun w=>pD ((i:Int),w))=(W.map fun w=>((i:Int),w)).map pD:=by rw[zY];rfl
   rw[ew]
   simp_arith[if_pos hb]
   rw[<-zL]
  ·rintro ρ ⟨_,K,s3,s4,rfl,hn,hK⟩
   refine⟨K,s3,s4,rfl,hn,fun p=>(hK p).trans ⟨fun h=>h.2,fun h=>⟨?_,h⟩⟩⟩
   obtain⟨c,hc,_⟩:=h
   have:=(hA.rg p (Fg hc)).2.1
   rw[zc,Fe]
   omega
 ·rintro ρ ⟨K,s3,s4,rfl,hn,hK⟩
  exact⟨_,rfl,K,rfl,hn,hK⟩
noncomputable def Nw:List D->M OT:=zi FO
theorem Qm:Txt K mg->BS P w K mg base "kept_arcs" 3 2 Nw:=(zb FO).1
theorem Qn:∀(m:Nat) (rs:List Road) (A:LA),m<=20->(∀ r∈rs,Ho m r)->Fl m A->∃ K:List (Int×Int),Nw [As m rs,L9 A]=.ok (.lst ((K.map pD).map .sh))/\K.Nodup/\∀ p,p∈K↔KP rs A p:=(zb FO).2
theorem CB:∃ F:OT->List D->M (OT×OT),(∀ {P:Program}{w:World}{K:za}{mg:Str->Option Value}{base:Heap},Txt K mg->OV P w K mg base "Ladder" 6 3 F)/\(∀(m:Nat) (rs:List Road) (o:D) (L:List Int),1<=m->m<=16->rs.length<=60->(∀ r∈rs,N3 m r)->L.Perm (AR m)->(o=.lst (L.map D.int)\/(o=.Az/\L=Sh m (By rs) (AR m)))->∃(A:LA) (K:List (Int×Int)),Cq m rs L A K/\∃ t,F (.ins "Ladder" [] []) [As m rs,o]=.ok (t,.sh .Az)/\er t=B7 m rs L A K):=by
 refine⟨_,fun T=>Yt (k:=5) T.K6 IL _ (fun f AZ A outer s H E hr=>(A3 (M5 ["Ladder"] (Bp T.BE BX) (BN 0 (pv 0)) (Aj (Aa A9.toXCall (TM T) (hr.mono (by decide)) rfl (A2 (A1 1 (pv 1)) A8) rfl))) (A3 (M5 ["Ladder"] (Bp T.Cy BX) (BN 0 (pv 0)) (Aj (Eb (Aa A9.toXCall (IR T) (hr.mono (by decide)) rfl (A2 (EZ ["Ladder"] (Bp T.BE BX) (A1 0 (pv 0))) (A2 (A1 2 (pv 2)) A8)) rfl)))) (A3 (M5 ["Ladder"] (Bp T.Dj BX) (BN 0 (pv 0)) (Aj (Eb (Aa A9.toXCall (Qk T) (hr.mono (by decide)) rfl (A2 (EZ ["Ladder"] (Bp T.BE BX) (A1 0 (pv 0))) (A2 (EZ ["Ladder"] (Bp T.Cy BX) (A1 0 (pv 0))) A8)) rfl)))) (A5 (M5 ["Ladder"] (Bp T.Ei BX) (BN 0 (pv 0)) (Aj (Eb (Aa A9.toXCall (Qm T) (hr.mono (by decide)) rfl (A2 (EZ ["Ladder"] (Bp T.BE BX) (A1 0 (pv 0))) (A2 (EZ ["Ladder"] (Bp T.Dj BX) (A1 0 (pv 0))) A8)) rfl))))))))),?_⟩
 intro m rs o L df bX cf ga hL ho
 have Au:∀ r∈rs,Ho m r/\r.a≠r.b:=fun r hr=>(ga r hr).uQ
 have rc:=Yf df bX cf ga
 have h1:=TN.1 m rs rc cf
 have h2:Cd [As m rs,o]=.ok (.lst ((L.map D.int).map .sh)):=by
  rcases ho with rfl|⟨rfl,rfl⟩
  ·exact (En m rs (by omega) Au).1 L hL
  ·exact (En m rs (by omega) Au).2
 have h3:=Ql m rs L (by omega) hL Au
 have hA:=(N9 hL Au).1
 obtain⟨K,h4,hn,hK⟩:=Qn m rs (BQ rs L) (by omega) (fun r hr=>(Au r hr).1) hA
 refine⟨BQ rs L,K,⟨df,bX,cf,Au,hL,rfl,hn,hK⟩,.ins "Ladder" ["own_map","own_order","laid","kept_ones"] [.sh (As m rs),.sh (.lst (L.map D.int)),.sh (L9 (BQ rs L)),.sh (.lst (K.map pD))],?_,rfl⟩
 have e0:CU ["self","net","order"] (.ins "Ladder" [] []) [As m rs,o]=[some (.ow (.tree (some 0) (.ins "Ladder" [] []))),some (.val (As m rs)),some (.val o)]:=rfl
 rw[e0]
 refine Ts ?_
 have e1:er (.tup [.sh (.int m),.lst ((rs.map BF).map .sh)])=As m rs:=by rw[eM,Ro,Ky];rfl
 have T:∀(ns:List Str) (ds:List D),er (.ins "Ladder" ns (ds.map .sh))=.ins "Ladder" ns ds:=fun ns ds=>by rw[er,Px]
 have T1:=T ["own_map"] [As m rs]
 have T2:=T ["own_map","own_order"] [As m rs,.lst (L.map D.int)]
 have T3:=T ["own_map","own_order","laid"] [As m rs,.lst (L.map D.int),L9 (BQ rs L)]
 simp only[zf,yM] at T1 T2 T3
 have d1:=YJ L
 have d2:=fE (BQ rs L)
 have d3:=fD K
 have f1:NT ["Ladder"] "own_map" (.ins "Ladder" ["own_map"] [As m rs])=.ok (As m rs):=rfl
 have f2:NT ["Ladder"] "own_map" (.ins "Ladder" ["own_map","own_order"] [As m rs,.lst (L.map D.int)])=.ok (As m rs):=rfl
 have f3:NT ["Ladder"] "own_order" (.ins "Ladder" ["own_map","own_order"] [As m rs,.lst (L.map D.int)])=.ok (.lst (L.map D.int)):=rfl
 have f4:NT ["Ladder"] "own_map" (.ins "Ladder" ["own_map","own_order","laid"] [As m rs,.lst (L.map D.int),L9 (BQ rs L)])=.ok (As m rs):=rfl
 have f5:NT ["Ladder"] "laid" (.ins "Ladder" ["own_map","own_order","laid"] [As m rs,.lst (L.map D.int),L9 (BQ rs L)])=.ok (L9 (BQ rs L)):=rfl
 refine wp_step (ρ':=[some (.ow (.tree (some 0) (.ins "Ladder" ["own_map"] [.sh (As m rs)]))),some (.val (As m rs)),some (.val o)]) (by simp_arith[h1,e1];rfl) ?_
 refine wp_step (ρ':=[some (.ow (.tree (some 0) (.ins "Ladder" ["own_map","own_order"] [.sh (As m rs),.sh (.lst (L.map D.int))]))),some (.val (As m rs)),some (.val o)]) (by simp_arith[T1,f1,h2,d1];rfl) ?_
 refine wp_step (ρ':=[some (.ow (.tree (some 0) (.ins "Ladder" ["own_map","own_order","laid"] [.sh (As m rs),.sh (.lst (L.map D.int)),.sh (L9 (BQ rs L))]))),some (.val (As m rs)),some (.val o)]) (by simp_arith[T2,f2,f3,h3,d2];rfl) ?_
 refine Bh (ρ':=[some (.ow (.tree (some 0) (.ins "Ladder" ["own_map","own_order","laid","kept_ones"] [.sh (As m rs),.sh (.lst (L.map D.int)),.sh (L9 (BQ rs L)),.sh (.lst (K.map pD))]))),some (.val (As m rs)),some (.val o)]) (by simp_arith[T3,f4,f5,h4,d3];rfl) ⟨rfl,rfl⟩
noncomputable def Ce:OT->List D->M (OT×OT):=zi CB
theorem Eo:Txt K mg->OV P w K mg base "Ladder" 6 3 Ce:=(zb CB).1
theorem Ep:∀(m:Nat) (rs:List Road) (o:D) (L:List Int),1<=m->m<=16->rs.length<=60->(∀ r∈rs,N3 m r)->L.Perm (AR m)->(o=.lst (L.map D.int)\/(o=.Az/\L=Sh m (By rs) (AR m)))->∃(A:LA) (K:List (Int×Int)),Cq m rs L A K/\∃ t,Ce (.ins "Ladder" [] []) [As m rs,o]=.ok (t,.sh .Az)/\er t=B7 m rs L A K:=(zb CB).2
theorem Er:∃ F:List D->M OT,(∀ {P:Program}{w:World}{K:za}{mg:Str->Option Value}{base:Heap},Txt K mg->BS P w K mg base "_law_cell_at" 1 2 F)/\(∀(ns:List Int) (k:Nat),(∀ n∈ns,Sm n)->∃ v:Int,Sm v/\F [.lst (ns.map D.int),.int k]=.ok (.sh (.int v))):=by
 refine⟨_,fun T=>AD (k:=0) T.O0 Ng _ (fun f AZ A outer s H E hr=>(A3 (B5 (oJ (c:=true) (A1 1 (pv 1)) (Dp rfl T.G8 (A1 0 (pv 0)))) (A5 (Am (AX (Ac (AO hr 16 (by decide)) (A1 0 (pv 0)) (A1 1 (pv 1)))))) AA) (A5 (Am (AX A6))))),?_⟩
 intro ns k bQ
 have e0:AG ["_law_script","_law_k"] [.lst (ns.map D.int),.int k]=[some (.val (.lst (ns.map D.int))),some (.val (.int k))]:=rfl
 rw[e0]
 by_cases hk:(k:Int) < ((ns.map D.int).length:Int)
 ·have uY:=hk
  rw[zc] at uY
  have i1:B3 (.lst (ns.map D.int)) (.int k)=.ok (.int (ns[k]'(by omega))):=Jf (by omega) (by rw[zX];exact zq _)
  refine⟨ns[k]'(by omega),bQ _ (List.getElem_mem _),Bo ?_⟩
  simp_arith[decide_eq_true hk,i1]
  rfl
 ·refine⟨0,by unfold Sm;decide,Bo ?_⟩
  simp_arith[decide_eq_false hk]
  rfl
noncomputable def CT:List D->M OT:=zi Er
theorem Es:Txt K mg->BS P w K mg base "_law_cell_at" 1 2 CT:=(zb Er).1
theorem Et:∀(ns:List Int) (k:Nat),(∀ n∈ns,Sm n)->∃ v:Int,Sm v/\CT [.lst (ns.map D.int),.int k]=.ok (.sh (.int v)):=(zb Er).2
theorem IS:∃ F:List D->M OT,(∀ {P:Program}{w:World}{K:za}{mg:Str->Option Value}{base:Heap},Txt K mg->BS P w K mg base "_law_mix" 1 2 F)/\(∀ c k:Int,0<=k->k<=1000->∃ v:Int,0<=v/\F [.int c,.int k]=.ok (.sh (.int v))):=by
 refine⟨_,fun T=>AD (k:=0) T.Wo Nh _ (fun f AZ A outer s H E hr=>(A3 (B1 2 Nh.nd rfl (zO rfl) (BJ (BU (BU (BU (Fv (A1 0 (pv 0)) A6) (Fv (Fv (A1 1 (pv 1)) (A1 1 (pv 1))) A6)) (Fv A6 (A1 1 (pv 1)))) A6) A6)) (A5 (Am (AX (BJ (Fv (A1 2 (pv 2)) (A1 2 (pv 2))) A6)))))),?_⟩
 intro c k h0 h1
 have e0:AG ["_law_cell","_law_k","_law_number"] [.int c,.int k]=[some (.val (.int c)),some (.val (.int k)),none]:=rfl
 rw[e0]
 have m1:I0 (.int c) (.int 48271)=.ok (.int (c * 48271)):=E7 (.inr (.inr (.inr (by decide))))
 have m2:I0 (.int k) (.int k)=.ok (.int (k * k)):=E7 (.inr (.inr (.inr ⟨by omega,by omega⟩)))
 have m3:I0 (.int (k * k)) (.int 69621)=.ok (.int (k * k * 69621)):=E7 (.inr (.inr (.inr (by decide))))
 have m4:I0 (.int 11) (.int k)=.ok (.int (11 * k)):=E7 (.inr (.inr (.inr ⟨by omega,by omega⟩)))
 have q1:Ex (.int (c * 48271 + k * k * 69621 + 11 * k + 1)) (.int 2147483647)=.ok (.int ((c * 48271 + k * k * 69621 + 11 * k + 1) % 2147483647)):=AQ (by decide)
 obtain⟨x,hx⟩:∃ x,x=(c * 48271 + k * k * 69621 + 11 * k + 1) % 2147483647:=⟨_,rfl⟩
 have x0:0<=x:=by omega
 have x1:x < 2147483647:=by omega
 have m5:I0 (.int x) (.int x)=.ok (.int (x * x)):=E7 (.inr (.inr (.inr ⟨by omega,by omega⟩)))
 have q2:Ex (.int (x * x)) (.int 2147483629)=.ok (.int (x * x % 2147483629)):=AQ (by decide)
 refine⟨x * x % 2147483629,yO _ (by decide),Bo ?_⟩
 rw[<-hx] at q1
 apply wp_step
 ·simp_arith[m1,m2,m3,m4,q1];rfl
 simp_arith[m5,q2]
 rfl
noncomputable def Sa:List D->M OT:=zi IS
theorem FQ:Txt K mg->BS P w K mg base "_law_mix" 1 2 Sa:=(zb IS).1
theorem FR:∀ c k:Int,0<=k->k<=1000->∃ v:Int,0<=v/\Sa [.int c,.int k]=.ok (.sh (.int v)):=(zb IS).2
theorem FT:∃ F:List D->M OT,(∀ {P:Program}{w:World}{K:za}{mg:Str->Option Value}{base:Heap},Txt K mg->BS P w K mg base "_law_great" 1 2 F)/\(∀ c k:Int,Sm c->0<=k->k<=100->∃ v:Int,(0<=v/\v < L8)/\F [.int c,.int k]=.ok (.sh (.int v))):=by
 refine⟨_,fun T=>AD (k:=0) T.RT Qa _ (fun f AZ A outer s H E hr=>(A5 (Am (AX (BJ (Fv (BU (BU (A1 0 (pv 0)) (Fv (A1 1 (pv 1)) (A1 1 (pv 1)))) A6) A6) (Xi A6 A6)))))),?_⟩
 intro c k hs h0 h1
 have ht:=PN
 have e0:AG ["_law_cell","_law_k"] [.int c,.int k]=[some (.val (.int c)),some (.val (.int k))]:=rfl
 rw[e0]
 have m2:I0 (.int k) (.int k)=.ok (.int (k * k)):=E7 (.inr (.inr (.inr ⟨by omega,by omega⟩)))
 have hk:0<=k * k:=Int.mul_nonneg h0 h0
 have uY:k * k<=100 * 100:=Int.mul_le_mul h1 h1 h0 (by decide)
 have hb:PySem.Builtin.Int.intBits (c + (k * k + 1))<=2 ^ 20 + 1:=VF hs (by omega)
 have m3:I0 (.int (c + (k * k + 1))) (.int 5172390846617502938471650293846571029384756102938477)=.ok (.int ((c + (k * k + 1)) * 5172390846617502938471650293846571029384756102938477)):=E7 (.inl ⟨hb,bits_le (by decide)⟩)
 rw[<-yZ] at m3
 refine⟨(c + k * k + 1) * 5172390846617502938471650293846571029384756102938477 % L8,⟨yO _ (by omega),yH _ (by omega)⟩,Bo ?_⟩
 simp_arith[m2,m3,gK,eL]
 rfl
noncomputable def Nx:List D->M OT:=zi FT
theorem Qo:Txt K mg->BS P w K mg base "_law_great" 1 2 Nx:=(zb FT).1
theorem Qp:∀ c k:Int,Sm c->0<=k->k<=100->∃ v:Int,(0<=v/\v < L8)/\Nx [.int c,.int k]=.ok (.sh (.int v)):=(zb FT).2
theorem FU:∃ F:List D->M OT,(∀ {P:Program}{w:World}{K:za}{mg:Str->Option Value}{base:Heap},Txt K mg->BS P w K mg base "_law_whole" 1 1 F)/\(∀ i:Int,F [.int i]=.ok (.sh (.bl true))):=by
 refine⟨_,fun T=>AD (k:=0) T.RU Qb _ (fun f AZ A outer s H E hr=>(A5 (Am (AX (Mv (EU (QW _) rfl T.B0 rfl T.YU (by decide +kernel) (A1 0 (pv 0))) (Kn (Xl (EU (Ou _) rfl T.B0 rfl T.YS (by decide +kernel) (A1 0 (pv 0)))))))))),?_⟩
 intro i
 rfl
noncomputable def Ny:List D->M OT:=zi FU
theorem Kb:Txt K mg->BS P w K mg base "_law_whole" 1 1 Ny:=(zb FU).1
theorem Kc:∀ i:Int,Ny [.int i]=.ok (.sh (.bl true)):=(zb FU).2
theorem Eu:∃ F:List D->M OT,(∀ {P:Program}{w:World}{K:za}{mg:Str->Option Value}{base:Heap},Txt K mg->BS P w K mg base "_law_is_cost" 2 1 F)/\(∀ a b:Int,F [.tup [.int a,.int b]]=.ok (.sh (.bl true))):=by
 refine⟨_,fun T=>AD (k:=1) T.O1 Ni _ (fun f AZ A outer s H E hr=>(A3 (B5 (DW.dt (E6 (Ci (BV (c:=true) (EU (Iy _) rfl T.B0 rfl T.Mb (by decide +kernel) (A1 0 (pv 0))))) (CK (G3 (c:=true) (AO hr 16 (by decide)) (Dp rfl T.G8 (A1 0 (pv 0))) A6)))) (A5 (Am (AX CC))) AA) (A5 (Am (AX (Mv (Aj (Aa A9.toXCall (Kb T) (hr.mono (by decide)) rfl (A2 (Ac (AO hr 16 (by decide)) (A1 0 (pv 0)) A6) A8) rfl)) (Kn (Aj (Aa A9.toXCall (Kb T) (hr.mono (by decide)) rfl (A2 (Ac (AO hr 16 (by decide)) (A1 0 (pv 0)) A6) A8) rfl))))))))),?_⟩
 intro a b
 have e0:AG ["_law_found"] [.tup [.int a,.int b]]=[some (.val (.tup [.int a,.int b]))]:=rfl
 rw[e0]
 refine Bo ?_
 have h1:=Kc a
 have h2:=Kc b
 have i0:B3 (.tup [.int a,.int b]) (.int 0)=.ok (.int a):=rfl
 have i1:B3 (.tup [.int a,.int b]) (.int 1)=.ok (.int b):=rfl
 apply wp_step
 ·rfl
 simp_arith[i0,i1,h1,h2,EW]
 rfl
noncomputable def FV:List D->M OT:=zi Eu
theorem Nz:Txt K mg->BS P w K mg base "_law_is_cost" 2 1 FV:=(zb Eu).1
theorem NA:∀ a b:Int,FV [.tup [.int a,.int b]]=.ok (.sh (.bl true)):=(zb Eu).2
theorem D9:∃ F:List D->M OT,(∀ {P:Program}{w:World}{K:za}{mg:Str->Option Value}{base:Heap},Txt K mg->BS P w K mg base "_law_are_costs" 3 2 F)/\(∀(cs:List Co) (m:Nat),cs.length=m->m<=1000->F [.lst (cs.map cst),.int m]=.ok (.sh (.bl true))):=by
 refine⟨_,fun T=>AD (k:=2) T.Lw KN _ (fun f AZ A outer s H E hr=>(A3 (B5 (DW.dt (E6 (Ci (BV (c:=true) (EU (Ko _) rfl T.B0 rfl T.F1 (by decide +kernel) (A1 0 (pv 0))))) (CK (G3 (c:=true) (AO hr 16 (by decide)) (Dp rfl T.G8 (A1 0 (pv 0))) (A1 1 (pv 1)))))) (A5 (Am (AX CC))) AA) (A5 (Am (AX (SS rfl rfl T.YR (Aj (Cb (NB:=["_law_cost"]) [none] rfl (AN (A1 0 (pv 0))) rfl rfl (Bn 0 (by decide) rfl rfl rfl) (fun _ _ _ _=>Dc) (fun _ _ _ _=>(fX (Xk (A1 0 (pv 0))) (Kn (Aj (BM (Aa (Bd rfl).toXCall (Nz T) (hr.mono (by decide)) rfl (A2 (A1 0 (pv 0)) A8) rfl)))))))))))))),?_⟩
 intro cs m hm hl
 have e0:AG ["_law_found","_law_many"] [.lst (cs.map cst),.int m]=[some (.val (.lst (cs.map cst))),some (.val (.int m))]:=rfl
 rw[e0]
 refine Bo ?_
 have aZ:(cs.map cst).length<=1000:=by rw[zc];omega
 have wP:((cs.map cst).length:Int)=(m:Int):=by rw[zc,hm]
 apply wp_step
 ·simp_arith[wP,decide_true];rfl
 simp_arith[if_pos aZ]
 rw[C5 (fun _=>D.bl true) (fun c hc=>⟨_,rfl,rfl,by
  cases c with
  |none=>rfl
  |some p =>
   have h1:FV [cst (some p)]=.ok (.sh (.bl true)):=NA p.1 p.2
   have cC:Cw (cst (some p))=false:=rfl
   simp_arith[cC,h1,EW]
   try rfl⟩)]
 have e1:(cs.map fun _=>D.bl true)=(cs.map fun _=>true).map D.bl:=by rw[zY];rfl
 have e2:(cs.map fun _=>true).all id=true:=by rw[List.all_eq_true];intro x hx;obtain⟨_,_,rfl⟩:=zA.mp hx;rfl
 simp_arith[e1,e2]
 rfl
noncomputable def Hd:List D->M OT:=zi D9
theorem Fi:Txt K mg->BS P w K mg base "_law_are_costs" 3 2 Hd:=(zb D9).1
theorem Fj:∀(cs:List Co) (m:Nat),cs.length=m->m<=1000->Hd [.lst (cs.map cst),.int m]=.ok (.sh (.bl true)):=(zb D9).2
theorem FX:∃ F:List D->M OT,(∀ {P:Program}{w:World}{K:za}{mg:Str->Option Value}{base:Heap},Txt K mg->BS P w K mg base "_law_roads" 2 2 F)/\(∀(cells:List Int) (m:Nat),1<=m->m<=16->cells.length<=60->(∀ c∈cells,Sm c)->∃ rs:List Road,rs.length<=cells.length/\(∀ r∈rs,N3 m r)/\F [.lst (cells.map D.int),.int m]=.ok (.lst ((rs.map BF).map .sh))):=by
 refine⟨_,fun T=>AD (k:=1) T.RV B9 _ (fun f AZ A outer s H E hr=>(A3 (Bz 2 B9.nd rfl (zO rfl) (Kw Fx)) (A3 (BC A9.toXCall.own rfl (C8 (c:=true) rfl T.CP (Dp rfl T.G8 (A1 0 (pv 0)))) (AW 3 B9.nd rfl (zO rfl)) (A3 (B1 4 B9.nd rfl (zO rfl) (Aj (Aa A9.toXCall (FQ T) (hr.mono (by decide)) rfl (A2 (Ac (AO hr 16 (by decide)) (A1 0 (pv 0)) (A1 3 (pv 3))) (A2 (A1 3 (pv 3)) A8)) rfl))) (A3 (B1 5 B9.nd rfl (zO rfl) (Aj (Aa A9.toXCall (Qo T) (hr.mono (by decide)) rfl (A2 (Ac (AO hr 16 (by decide)) (A1 0 (pv 0)) (A1 3 (pv 3))) (A2 (A1 3 (pv 3)) A8)) rfl))) (A5 (B5 (IB (DW.dt (Iw (Ub (c:=true) (A1 1 (pv 1)) A6) (Iw (Ub (c:=true) (Dp rfl T.G8 (A1 2 (pv 2))) A6) (Hj (L0 (c:=true) (AO hr 16 (by decide)) (BJ (A1 4 (pv 4)) A6) A6)))))) (A5 (Hk 2 (pv 2) (ZW (kL (c:=true) (Ac (AO hr 16 (by decide)) (A1 2 (pv 2)) (BJ (Ft (A1 4 (pv 4)) A6) (Dp rfl T.G8 (A1 2 (pv 2))))))))) (A5 (B5 (Ub (c:=true) (A1 1 (pv 1)) A6) (A3 (B1 6 B9.nd rfl (zO rfl) (BJ (Ft (A1 4 (pv 4)) A6) (A1 1 (pv 1)))) (A3 (B1 7 B9.nd rfl (zO rfl) (BJ (BU (BU (A1 6 (pv 6)) A6) (BJ (Ft (A1 4 (pv 4)) A6) (jT (A1 1 (pv 1)) A6))) (A1 1 (pv 1)))) (A3 (B1 8 B9.nd rfl (zO rfl) (Ft (A1 4 (pv 4)) A6)) (A3 (B1 9 B9.nd rfl (zO rfl) (Ac (AO hr 16 (by decide)) (Gw (A2 D1 (A2 A6 (A2 A6 (A2 A6 (A2 (BJ (A1 8 (pv 8)) A6) (A2 (BJ (A1 8 (pv 8)) A6) (A2 (A1 5 (pv 5)) (A2 (A1 5 (pv 5)) A8))))))))) (BJ (Ft (A1 4 (pv 4)) A6) A6))) (A5 (Hk 2 (pv 2) (AK (A2 (A1 6 (pv 6)) (A2 (A1 7 (pv 7)) (A2 (A1 9 (pv 9)) (A2 (Ac (AO hr 16 (by decide)) (Gw (A2 (BJ (A1 8 (pv 8)) A6) (A2 (A1 5 (pv 5)) A8))) (BJ (A1 4 (pv 4)) A6)) A8))))))))))) AA))))))) (A5 (CL 2 (pv 2)))))),?_⟩
 intro cells m df bX hl bQ
 have ht:=PN
 have e0:AG ["_law_cells","_law_many","_law_roads_here","_law_k","_law_mixed","_law_great_here","_law_one","_law_other","_law_small","_law_length"] [.lst (cells.map D.int),.int m]=[some (.val (.lst (cells.map D.int))),some (.val (.int m)),none,none,none,none,none,none,none,none]:=rfl
 rw[e0]
 refine (fun h:∃ t,_/\∃ rs:List Road,t=.lst ((rs.map BF).map .sh)/\rs.length<=cells.length/\(∀ r∈rs,N3 m r)=>by
  obtain⟨t,h1,rs,rfl,h2,h3⟩:=h
  exact⟨rs,h2,h3,h1⟩) (L6 ?_)
 have hr:SM (.int ((cells.map D.int).length:Int))=.ok (Cj 0 cells.length):=by rw[zc];exact Gx (by omega)
 apply wp_step
 ·rfl
 try simp only[zr,zl]
 refine C4 (I:=fun ρ=>∃(rs:List Road) (s3 s4 s5 s6 s7 s8 s9:Option Cl),ρ=[some (.val (.lst (cells.map D.int))),some (.val (.int m)),some (.own (rs.map BF)),s3,s4,s5,s6,s7,s8,s9]/\rs.length<=cells.length/\∀ r∈rs,N3 m r) ?_ ?_
 ·simp_arith[hr]
  refine BD (fun i ρ=>i<=60/\∃(rs:List Road) (s3 s4 s5 s6 s7 s8 s9:Option Cl),ρ=[some (.val (.lst (cells.map D.int))),some (.val (.int m)),some (.own (rs.map BF)),s3,s4,s5,s6,s7,s8,s9]/\rs.length<=i/\∀ r∈rs,N3 m r) ⟨by omega,[],none,none,none,none,none,none,none,rfl,by simp,fun r hr=>by cases hr⟩ ?_ ?_
  ·rintro i d ρ hd ⟨_,rs,s3,s4,s5,s6,s7,s8,s9,rfl,cf,Au⟩
   obtain⟨aQ,hi⟩:=BK hd
   rw[Int.zero_add] at aQ
   subst aQ
   have hq:cells[i]? =some cells[i]:=zq hi
   have aq:=bQ _ (List.getElem_mem hi)
   have x1:B3 (.lst (cells.map D.int)) (.int (i:Int))=.ok (.int cells[i]):=Jf (by omega) (by rw[zX];exact hq)
   obtain⟨v,v0,hv⟩:=FR cells[i] i (by omega) (by omega)
   obtain⟨g,g0,hg⟩:=Qp cells[i] i aq (by omega) (by omega)
   have cF:(rs.map BF).length < 1000:=by rw[zc];omega
   refine⟨_,rfl,?_⟩
   apply wp_step
   ·simp_arith[x1,hv];rfl
   try simp only[zr,zl]
   apply wp_step
   ·simp_arith[x1,hg];rfl
   try simp only[zr,zl]
   have d7:J4 (.int v) (.int 7)=.ok (.int (v / 7)):=DM ⟨by decide,by decide⟩
   have q7:Ex (.int v) (.int 7)=.ok (.int (v % 7)):=AQ (by decide)
   by_cases hm:(1:Int) < (m:Int)
   ·have gn:(0:Int) < (m:Int):=by omega
    have j1:(0:Int) < (m:Int) - 1:=by omega
    by_cases hz:(0:Int) < ((rs.map BF).length:Int)/\v % 7=3
    ·have hlen:0 < (rs.map BF).length:=by omega
     obtain⟨p1,y,hy,p2⟩:=Yg hlen (show 0<=v / 7 by omega)
     obtain⟨r,bq,rfl⟩:=zA.mp hy
     refine Bh (ρ':=[some (.val (.lst (cells.map D.int))),some (.val (.int m)),some (.own ((rs++[r]).map BF)),some (.val (.int i)),some (.val (.int v)),some (.val (.int g)),s6,s7,s8,s9]) ?_ ⟨by omega,rs++[r],_,_,_,_,_,_,_,rfl,by simp;omega,fun r2 j3=>by
      rcases zv.mp j3 with h|h
      ·exact Au r2 h
      ·rw[zg.mp h];exact Au r bq⟩
     simp_arith[decide_eq_true hm,decide_eq_true hz.1,q7,decide_eq_true hz.2,d7,p1,p2,if_pos cF,if_true]
     rw[zL]
     rfl
    ·obtain⟨o,ho⟩:∃ o,o=v / 7 % (m:Int):=⟨_,rfl⟩
     obtain⟨o',b8⟩:∃ o',o'=(o + 1 + v / 112 % ((m:Int) - 1)) % (m:Int):=⟨_,rfl⟩
     have o0:0<=o:=by rw[ho];exact yO _ (by omega)
     have o1:o < m:=by rw[ho];exact yH _ gn
     have p0:0<=o':=by rw[b8];exact yO _ (by omega)
     have p1:o' < m:=by rw[b8];exact yH _ gn
     have s0:0<=v / 112 % ((m:Int) - 1):=yO _ (by omega)
     have s1:v / 112 % ((m:Int) - 1) < (m:Int) - 1:=yH _ j1
     have ic:o≠o':=by
      have:=kU (a:=o) (s:=1 + v / 112 % ((m:Int) - 1)) (m:=m) o0 o1 (by omega) (by omega)
      rw[b8,yZ]
      exact fun z=>this z.symm
     have j4:J4 (.int v) (.int 112)=.ok (.int (v / 112)):=DM ⟨by decide,by decide⟩
     have d9:J4 (.int v) (.int 8064)=.ok (.int (v / 8064)):=DM ⟨by decide,by decide⟩
     have dL:J4 (.int v) (.int 1008)=.ok (.int (v / 1008)):=DM ⟨by decide,by decide⟩
     have q1:Ex (.int (v / 7)) (.int (m:Int))=.ok (.int o):=by rw[ho];exact AQ gn
     have q2:Ex (.int (v / 112)) (.int ((m:Int) - 1))=.ok (.int (v / 112 % ((m:Int) - 1))):=AQ j1
     have q3:Ex (.int (o + 1 + v / 112 % ((m:Int) - 1))) (.int (m:Int))=.ok (.int o'):=by rw[b8];exact AQ gn
     have q4:Ex (.int (v / 8064)) (.int 3)=.ok (.int (v / 8064 % 3)):=AQ (by decide)
     have q5:Ex (.int (v / 8064)) (.int 100)=.ok (.int (v / 8064 % 100)):=AQ (by decide)
     have q6:Ex (.int (v / 1008)) (.int 8)=.ok (.int (v / 1008 % 8)):=AQ (by decide)
     have q8:Ex (.int (v / 8064)) (.int 5)=.ok (.int (v / 8064 % 5)):=AQ (by decide)
     have q9:Ex (.int v) (.int 2)=.ok (.int (v % 2)):=AQ (by decide)
     obtain⟨l,a6,l0⟩:=lU (a:=v / 8064 % 3) (b:=v / 8064 % 100) (g:=g) (i:=v / 1008 % 8) (by omega) (by omega) g0 (by omega) (by omega)
     obtain⟨w,uZ,w0⟩:=lV (a:=v / 8064 % 5) (b:=g) (i:=v % 2) (by omega) g0 (by omega) (by omega)
     have va:D.tup [.int o,.int o',GC l,.int w]=BF ⟨o,o',l,w⟩:=rfl
     rcases Classical.em ((0:Int) < ((rs.map BF).length:Int)) with bA|bA
     ·have og:¬ v % 7=3:=fun z=>hz ⟨bA,z⟩
      simp_arith[decide_eq_true hm,decide_eq_true bA,q7,decide_eq_false og,zE,if_false,if_true]
      apply wp_step
      ·simp_arith[d7,q1];rfl
      apply wp_step
      ·simp_arith[j4,q2,q3];rfl
      apply wp_step
      ·simp_arith[d9];rfl
      apply wp_step
      ·simp_arith[q4,q5,dL,q6,a6];rfl
      refine Bh (ρ':=[some (.val (.lst (cells.map D.int))),some (.val (.int m)),some (.own ((rs++[(⟨o,o',l,w⟩:Road)]).map BF)),some (.val (.int i)),some (.val (.int v)),some (.val (.int g)),some (.val (.int o)),some (.val (.int o')),some (.val (.int (v / 8064))),some (.val (GC l))]) (by simp_arith[q8,q9,uZ,va,if_pos cF,zL,zf,yM]) ⟨by omega,_,_,_,_,_,_,_,_,rfl,by simp;omega,fun r2 j3=>by
       rcases zv.mp j3 with h|h
       ·exact Au r2 h
       ·rw[zg.mp h];exact⟨o0,o1,p0,p1,ic,l0,w0.1,w0.2⟩⟩
     ·simp_arith[decide_eq_true hm,decide_eq_false bA,zE,if_false,if_true]
      apply wp_step
      ·simp_arith[d7,q1];rfl
      apply wp_step
      ·simp_arith[j4,q2,q3];rfl
      apply wp_step
      ·simp_arith[d9];rfl
      apply wp_step
      ·simp_arith[q4,q5,dL,q6,a6];rfl
      refine Bh (ρ':=[some (.val (.lst (cells.map D.int))),some (.val (.int m)),some (.own ((rs++[(⟨o,o',l,w⟩:Road)]).map BF)),some (.val (.int i)),some (.val (.int v)),some (.val (.int g)),some (.val (.int o)),some (.val (.int o')),some (.val (.int (v / 8064))),some (.val (GC l))]) (by simp_arith[q8,q9,uZ,va,if_pos cF,zL,zf,yM]) ⟨by omega,_,_,_,_,_,_,_,_,rfl,by simp;omega,fun r2 j3=>by
       rcases zv.mp j3 with h|h
       ·exact Au r2 h
       ·rw[zg.mp h];exact⟨o0,o1,p0,p1,ic,l0,w0.1,w0.2⟩⟩
   ·refine Bh (ρ':=_) (by simp_arith[decide_eq_false hm];rfl) ⟨by omega,rs,_,_,_,_,_,_,_,rfl,by omega,Au⟩
  ·rintro ρ ⟨_,rs,s3,s4,s5,s6,s7,s8,s9,rfl,cf,Au⟩
   rw[Bc] at cf
   exact⟨rs,s3,s4,s5,s6,s7,s8,s9,rfl,cf,Au⟩
 ·rintro ρ ⟨rs,s3,s4,s5,s6,s7,s8,s9,rfl,cf,Au⟩
  exact⟨_,rfl,rs,rfl,cf,Au⟩
noncomputable def NC:List D->M OT:=zi FX
theorem Qq:Txt K mg->BS P w K mg base "_law_roads" 2 2 NC:=(zb FX).1
theorem Qr:∀(cells:List Int) (m:Nat),1<=m->m<=16->cells.length<=60->(∀ c∈cells,Sm c)->∃ rs:List Road,rs.length<=cells.length/\(∀ r∈rs,N3 m r)/\NC [.lst (cells.map D.int),.int m]=.ok (.lst ((rs.map BF).map .sh)):=(zb FX).2
theorem FY:∃ F:List D->M OT,(∀ {P:Program}{w:World}{K:za}{mg:Str->Option Value}{base:Heap},Txt K mg->BS P w K mg base "_law_order" 2 2 F)/\(∀(c:Int) (m:Nat),m<=60->∃ L:List Int,L.Perm (AR m)/\F [.int c,.int m]=.ok (.lst ((L.map D.int).map .sh))):=by
 refine⟨_,fun T=>AD (k:=1) T.RW FG _ (fun f AZ A outer s H E hr=>(A3 (Bz 2 FG.nd rfl (zO rfl) (Kw Fx)) (A3 (BC A9.toXCall.own rfl (C8 (c:=true) rfl T.CP (A1 1 (pv 1))) (AW 3 FG.nd rfl (zO rfl)) (A5 (VR 2 (pv 2) (BJ (Aj (Aa A9.toXCall (FQ T) (hr.mono (by decide)) rfl (A2 (A1 0 (pv 0)) (A2 (BU A6 (A1 3 (pv 3))) A8)) rfl)) (BU (A1 3 (pv 3)) A6)) (A1 3 (pv 3))))) (A5 (CL 2 (pv 2)))))),?_⟩
 intro c m hm
 have e0:AG ["_law_cell","_law_many","_law_order_here","_law_place"] [.int c,.int m]=[some (.val (.int c)),some (.val (.int m)),none,none]:=rfl
 rw[e0]
 refine (fun h:∃ t,_/\∃ L:List Int,t=OT.lst ((L.map D.int).map .sh)/\L.Perm (AR m)=>by
  obtain⟨t,h1,L,rfl,h2⟩:=h
  exact⟨L,h2,h1⟩) (L6 ?_)
 have hr:=Gx (n:=m) (by omega)
 apply wp_step
 ·rfl
 try simp only[zr,zl]
 refine C4 (I:=fun ρ=>∃(L:List Int) (s3:Option Cl),ρ=[some (.val (.int c)),some (.val (.int m)),some (.own (L.map D.int)),s3]/\L.Perm (AR m)) ?_ ?_
 ·simp_arith[hr]
  refine BD (fun i ρ=>i<=m/\∃(L:List Int) (s3:Option Cl),ρ=[some (.val (.int c)),some (.val (.int m)),some (.own (L.map D.int)),s3]/\L.Perm (AR i)) ⟨zP _,[],none,rfl,.refl _⟩ ?_ ?_
  ·rintro i d ρ hd ⟨_,L,s3,rfl,hL⟩
   obtain⟨aQ,hi⟩:=BK hd
   rw[Int.zero_add] at aQ
   subst aQ
   have hlen:=GL hL
   refine⟨_,rfl,?_⟩
   obtain⟨v,v0,hv⟩:=FR c (40 + i) (by omega) (by omega)
   have df:Ex (.int v) (.int ((i:Int) + 1))=.ok (.int (v % ((i:Int) + 1))):=AQ (by omega)
   have b0:0<=v % ((i:Int) + 1):=yO _ (by omega)
   have b1:v % ((i:Int) + 1) < (i:Int) + 1:=yH _ (by omega)
   refine Bh (ρ':=[some (.val (.int c)),some (.val (.int m)),some (.own ((L.take (v % ((i:Int) + 1)).toNat++(i:Int)::L.drop (v % ((i:Int) + 1)).toNat).map D.int)),some (.val (.int i))]) ?_ ⟨by omega,_,_,rfl,W9 hL _⟩
   simp_arith[hv,df]
   rw[if_pos ⟨b0,by rw[zc];omega,by rw[zc];omega⟩]
   simp only[zL,zf,List.map_take,List.map_drop]
   rfl
  ·rintro ρ ⟨_,L,s3,rfl,hL⟩
   exact⟨L,s3,rfl,by rw[Bc] at hL;exact hL⟩
 ·rintro ρ ⟨L,s3,rfl,hL⟩
  exact⟨_,rfl,L,rfl,hL⟩
noncomputable def ND:List D->M OT:=zi FY
theorem Qs:Txt K mg->BS P w K mg base "_law_order" 2 2 ND:=(zb FY).1
theorem Qt:∀(c:Int) (m:Nat),m<=60->∃ L:List Int,L.Perm (AR m)/\ND [.int c,.int m]=.ok (.lst ((L.map D.int).map .sh)):=(zb FY).2
theorem FZ:∃ F:List D->M OT,(∀ {P:Program}{w:World}{K:za}{mg:Str->Option Value}{base:Heap},Txt K mg->BS P w K mg base "_law_added" 1 2 F)/\(∀ a b:Co,F [cst a,cst b]=.ok (.sh (cst (Aq a b)))):=by
 refine⟨_,fun T=>AD (k:=0) T.RX Qc _ (fun f AZ A outer s H E hr=>(A3 (B5 (DW.dt (E6 (Iv (c:=true) (A1 0 (pv 0))) (CK (Iv (c:=true) (A1 1 (pv 1)))))) (A5 (Am (AX D1))) AA) (A5 (Am (AX (AK (A2 (BU (Ac (AO hr 16 (by decide)) (A1 0 (pv 0)) A6) (Ac (AO hr 16 (by decide)) (A1 1 (pv 1)) A6)) (A2 (BU (Ac (AO hr 16 (by decide)) (A1 0 (pv 0)) A6) (Ac (AO hr 16 (by decide)) (A1 1 (pv 1)) A6)) A8)))))))),?_⟩
 intro a b
 rcases a with _|⟨a1,a2⟩<;>rcases b with _|⟨b1,b2⟩<;>rfl
noncomputable def NE:List D->M OT:=zi FZ
theorem Qu:Txt K mg->BS P w K mg base "_law_added" 1 2 NE:=(zb FZ).1
theorem Qv:∀ a b:Co,NE [cst a,cst b]=.ok (.sh (cst (Aq a b))):=(zb FZ).2
theorem G0:∃ F:List D->M OT,(∀ {P:Program}{w:World}{K:za}{mg:Str->Option Value}{base:Heap},Txt K mg->BS P w K mg base "_law_least" 1 1 F)/\(∀ cs:List Co,cs.length<=1000->F [.lst (cs.map cst)]=.ok (.sh (cst (Fw cs)))):=by
 refine⟨_,fun T=>AD (k:=0) T.RY Qd _ (fun f AZ A outer s H E hr=>(A5 (Am (AX (Uj rfl (AO hr 1 (by decide)) rfl T.YV (Aj (Cb (NB:=["_law_cost"]) [none] rfl (AN (A1 0 (pv 0))) rfl rfl (Bn 0 (by decide) rfl rfl rfl) (fun _ _ _ _=>Hn (LC (c:=true) (A1 0 (pv 0)))) (fun _ _ _ _=>(A1 0 (pv 0))))) D1))))),?_⟩
 intro cs hc
 have e0:∀ x:D,AG ["_law_some"] [x]=[some (.val x)]:=fun x=>rfl
 rw[e0]
 refine Bo ?_
 have hl:(cs.map cst).length<=1000:=by rw[zc];exact hc
 have w6:=R4 cs
 have qt:=Ut cs
 simp_arith[if_pos hl]
 rw[GB]
 simp_arith[qt]
 rfl
noncomputable def G1:List D->M OT:=zi G0
theorem Kd:Txt K mg->BS P w K mg base "_law_least" 1 1 G1:=(zb G0).1
theorem Ke:∀ cs:List Co,cs.length<=1000->G1 [.lst (cs.map cst)]=.ok (.sh (cst (Fw cs))):=(zb G0).2
theorem He:∃ F:List D->M OT,(∀ {P:Program}{w:World}{K:za}{mg:Str->Option Value}{base:Heap},Txt K mg->BS P w K mg base "_law_open" 1 1 F)/\(∀ r:Road,F [BF r]=.ok (.sh (cst (C3 r)))):=by
 refine⟨_,fun T=>AD (k:=0) T.TF RN _ (fun f AZ A outer s H E hr=>(A3 (B5 (Iv (c:=true) (Ac (AO hr 16 (by decide)) (A1 0 (pv 0)) A6)) (A5 (Am (AX D1))) AA) (A5 (Am (AX (AK (A2 (Ac (AO hr 16 (by decide)) (A1 0 (pv 0)) A6) (A2 A6 A8)))))))),?_⟩
 intro r
 obtain⟨a,b,l,w⟩:=r
 cases l<;>rfl
noncomputable def P7:List D->M OT:=zi He
theorem Sb:Txt K mg->BS P w K mg base "_law_open" 1 1 P7:=(zb He).1
theorem Sd:∀ r:Road,P7 [BF r]=.ok (.sh (cst (C3 r))):=(zb He).2
theorem G2:∃ F:List D->M OT,(∀ {P:Program}{w:World}{K:za}{mg:Str->Option Value}{base:Heap},Txt K mg->BS P w K mg base "_law_costs" 2 2 F)/\(∀(m:Nat) (rs:List Road),m<=900->rs.length<=900->(∀ r∈rs,Ho m r)->∃ ad:List (List Co),NR m ad/\(∀ x y:Int,0<=x->x < m->0<=y->y < m->BO rs x y (at2 ad x y))/\∃ t,F [.lst (rs.map BF),.int m]=.ok t/\er t=.lst ((AB ad).map D.lst)):=by
 refine⟨_,fun T=>AD (k:=1) T.RZ Br _ (fun f AZ A outer s H E hr=>(A3 (ZX 2 Br.nd rfl (zO rfl)) (A3 (BC A9.toXCall.own rfl (C8 (c:=true) rfl T.CP (A1 1 (pv 1))) (AW 3 Br.nd rfl (zO rfl)) (A3 (Bz 5 Br.nd rfl (zO rfl) (Tf D1 (A1 1 (pv 1)))) (A3 (Kt 5 (pv 5) (AK (A2 A6 (A2 A6 A8))) (A1 3 (pv 3))) (A3 (BC A9.toXCall.own rfl (AN (A1 0 (pv 0))) (AW 6 Br.nd rfl (zO rfl)) (A5 (B5 (L0 (c:=true) (AO hr 16 (by decide)) (Ac (AO hr 16 (by decide)) (A1 6 (pv 6)) A6) (A1 3 (pv 3))) (A5 (Kt 5 (pv 5) (Aj (Eb (Aa A9.toXCall (Kd T) (hr.mono (by decide)) rfl (A2 (Gw (A2 (Ac (AO hr 16 (by decide)) (A1 5 (pv 5)) (Ac (AO hr 16 (by decide)) (A1 6 (pv 6)) A6)) (A2 (Aj (Aa A9.toXCall (Sb T) (hr.mono (by decide)) rfl (A2 (A1 6 (pv 6)) A8) rfl)) A8))) A8) rfl))) (Ac (AO hr 16 (by decide)) (A1 6 (pv 6)) A6))) AA))) (A5 (ZY 2 5 (pv 2) (pv 5))))))) (A3 (BC A9.toXCall.own rfl (C8 (c:=true) rfl T.CP (A1 1 (pv 1))) (AW 4 Br.nd rfl (zO rfl)) (A5 (BC A9.toXCall.own rfl (C8 (c:=true) rfl T.CP (A1 1 (pv 1))) (AW 3 Br.nd rfl (zO rfl)) (A5 (BC A9.toXCall.own rfl (C8 (c:=true) rfl T.CP (A1 1 (pv 1))) (AW 7 Br.nd rfl (zO rfl)) (A5 (cR 2 (pv 2) (Aj (Aa A9.toXCall (Kd T) (hr.mono (by decide)) rfl (A2 (Gw (A2 (SU 2 (pv 2) (A1 3 (pv 3)) (A1 7 (pv 7))) (A2 (Aj (Aa A9.toXCall (Qu T) (hr.mono (by decide)) rfl (A2 (SU 2 (pv 2) (A1 3 (pv 3)) (A1 4 (pv 4))) (A2 (SU 2 (pv 2) (A1 4 (pv 4)) (A1 7 (pv 7))) A8)) rfl)) A8))) A8) rfl)) (A1 3 (pv 3)) (A1 7 (pv 7))))))))) (A5 (CL 2 (pv 2))))))),?_⟩
 intro m rs hm cf Au
 have e0:AG ["_law_roads_here","_law_many","_law_costs_here","_law_u","_law_v","_law_row","_law_road","_law_w"] [.lst (rs.map BF),.int m]=[some (.val (.lst (rs.map BF))),some (.val (.int m)),none,none,none,none,none,none]:=rfl
 rw[e0]
 refine (fun h:∃ t,_/\∃ ad:List (List Co),NR m ad/\(∀ x y:Int,0<=x->x < m->0<=y->y < m->BO rs x y (at2 ad x y))/\er t=.lst ((AB ad).map D.lst)=>by
  obtain⟨t,h1,ad,h2,h3,h4⟩:=h
  exact⟨ad,h2,h3,t,h1,h4⟩) (L6 ?_)
 have dh:=Gx (n:=m) (by omega)
 refine wp_step (ρ':=[some (.val (.lst (rs.map BF))),some (.val (.int m)),some (.ow (.rows [])),none,none,none,none,none]) rfl ?_
 refine C4 (I:=fun ρ=>∃(ad:List (List Co)) (s3 s5 s6:Option Cl),ρ=[some (.val (.lst (rs.map BF))),some (.val (.int m)),some (.ow (.rows (AB ad))),s3,none,s5,s6,none]/\ad.length=m/\∀ u:Nat,u < m->ML m rs u rs.length (ad.getD u [])) ?_ ?_
 ·simp_arith[dh]
  refine BD (fun i ρ=>∃(ad:List (List Co)) (s3 s5 s6:Option Cl),ρ=[some (.val (.lst (rs.map BF))),some (.val (.int m)),some (.ow (.rows (AB ad))),s3,none,s5,s6,none]/\ad.length=i/\∀ u:Nat,u < i->ML m rs u rs.length (ad.getD u [])) ⟨[],none,none,none,rfl,rfl,fun u h=>by omega⟩ ?_ ?_
  ·rintro i d ρ hd ⟨ad,s3,s5,s6,rfl,b6,bt⟩
   obtain⟨aQ,hi⟩:=BK hd
   rw[Int.zero_add] at aQ
   subst aQ
   refine⟨_,rfl,?_⟩
   have b7:=MZ (d:=.Az) (n:=m) (by omega)
   have cD:zt m D.Az=(zt m (none:Co)).map cst:=by rw[List.map_replicate];rfl
   rw[cD] at b7
   apply wp_step
   ·simp_arith[b7];rfl
   try simp only[zr,zl]
   have a9:=HJ (i:=5) (ρ:=[some (.val (.lst (rs.map BF))),some (.val (.int m)),some (.ow (.rows (AB ad))),some (.val (.int i)),none,some (.own ((zt m (none:Co)).map cst)),s6,none]) (d:=.tup [.int 0,.int 0]) (p:=(i:Int)) rfl (by omega) (by rw[zc,yY];omega)
   have br:((zt m (none:Co)).map cst).set (i:Int).toNat (.tup [.int 0,.int 0])=((zt m none).set i (some (0,0))).map cst:=by rw[zX,List.map_set];rfl
   rw[br] at a9
   apply wp_step
   ·simp_arith[a9];rfl
   try simp only[zr,zl]
   refine C4 (I:=fun ρ=>∃(R:List Co) (s6:Option Cl),ρ=[some (.val (.lst (rs.map BF))),some (.val (.int m)),some (.ow (.rows (AB ad))),some (.val (.int i)),none,some (.own (R.map cst)),s6,none]/\ML m rs i rs.length R) ?_ ?_
   ·simp_arith[]
    refine BD (fun j ρ=>∃(R:List Co) (s6:Option Cl),ρ=[some (.val (.lst (rs.map BF))),some (.val (.int m)),some (.ow (.rows (AB ad))),some (.val (.int i)),none,some (.own (R.map cst)),s6,none]/\ML m rs i j R) ⟨_,s6,rfl,VO rs hi⟩ ?_ ?_
    ·rintro j d ρ hd ⟨R,s6,rfl,g⟩
     obtain⟨r,hq,rfl⟩:=BP hd
     have hr:=zj hq
     have ok:=Au r hr
     have r0:B3 (BF r) (.int 0)=.ok (.int r.a):=rfl
     have r1:B3 (BF r) (.int 1)=.ok (.int r.b):=rfl
     have ce:r.b < R.length:=by rw[g.len];exact ok.b1
     have x1:B3 (.lst (R.map cst)) (.int r.b)=.ok (cst (atC R r.b)):=E9 ok.b0 ce
     have wQ:=Sd r
     have hle:G1 [.lst [cst (atC R r.b),cst (C3 r)]]=.ok (.sh (cst (Dx (atC R r.b) (C3 r)))):=Ke [atC R r.b,C3 r] (by simp)
     refine⟨_,rfl,?_⟩
     by_cases hu:r.a=(i:Int)
     ·have a9:=HJ (i:=5) (ρ:=[some (.val (.lst (rs.map BF))),some (.val (.int m)),some (.ow (.rows (AB ad))),some (.val (.int i)),none,some (.own (R.map cst)),some (.val (BF r)),none]) (d:=cst (Dx (atC R r.b) (C3 r))) (p:=r.b) rfl ok.b0 (by rw[zc];exact ce)
      have br:(R.map cst).set r.b.toNat (cst (Dx (atC R r.b) (C3 r)))=(R.set r.b.toNat (Dx (atC R r.b) (C3 r))).map cst:=by rw[List.map_set]
      rw[br] at a9
      refine Bh (ρ':=[some (.val (.lst (rs.map BF))),some (.val (.int m)),some (.ow (.rows (AB ad))),some (.val (.int i)),none,some (.own ((R.set r.b.toNat (Dx (atC R r.b) (C3 r))).map cst)),some (.val (BF r)),none]) (by simp_arith[r0,r1,decide_eq_true hu,x1,wQ,hle,a9];rfl) ⟨_,_,rfl,XJ g hq hu Au⟩
     ·refine Bh (ρ':=_) (by simp_arith[r0,decide_eq_false hu];rfl) ⟨_,_,rfl,XI g hq hu⟩
    ·rintro ρ ⟨R,s6,rfl,g⟩
     rw[zc] at g
     exact⟨R,s6,rfl,g⟩
   ·rintro ρ ⟨R,s6,rfl,g⟩
    have hl:(AB ad).length < 1000/\2≠5:=⟨by unfold AB;rw[zc];omega,by decide⟩
    refine Bh (ρ':=[some (.val (.lst (rs.map BF))),some (.val (.int m)),some (.ow (.rows (AB (ad++[R])))),some (.val (.int i)),none,none,s6,none]) ?_ ⟨_,_,_,_,rfl,by simp[b6],fun u hu=>?_⟩
    ·simp only[XB,yR,zT,if_pos hl,zr,zl]
     unfold AB
     rw[zL]
     rfl
    ·by_cases h:u=i
     ·subst h
      have e:(ad++[R]).getD u []=R:=by rw[zB,yE (by omega)];simp[b6]
      rw[e];exact g
     ·have e:(ad++[R]).getD u []=ad.getD u []:=by rw[zB,yw (by omega),zB]
      rw[e];exact bt u (by omega)
  ·rintro ρ ⟨ad,s3,s5,s6,rfl,b6,bt⟩
   rw[Bc] at b6 bt
   exact⟨ad,s3,s5,s6,rfl,b6,bt⟩
 rintro ρ ⟨ad,s3,s5,s6,rfl,b6,bt⟩
 have hM:NR m ad:=⟨b6,fun R hR=>by
  obtain⟨u,hu,e⟩:=List.getElem_of_mem hR
  have:=(bt u (by omega)).len
  rw[zB,zq hu] at this
  rw[<-e];exact this⟩
 have hF:=XM hM Au bt
 refine C4 (I:=fun ρ=>∃(ad:List (List Co)) (s3 s4 s5 s6 s7:Option Cl),ρ=[some (.val (.lst (rs.map BF))),some (.val (.int m)),some (.ow (.rows (AB ad))),s3,s4,s5,s6,s7]/\NR m ad/\FW m m rs (at2 ad)) ?_ ?_
 ·simp_arith[dh]
  refine BD (fun k ρ=>∃(ad:List (List Co)) (s3 s4 s5 s6 s7:Option Cl),ρ=[some (.val (.lst (rs.map BF))),some (.val (.int m)),some (.ow (.rows (AB ad))),s3,s4,s5,s6,s7]/\NR m ad/\FW m k rs (at2 ad)) ⟨ad,s3,none,s5,s6,none,rfl,hM,hF⟩ ?_ ?_
  ·rintro k d ρ hd ⟨a5,s3,s4,s5,s6,s7,rfl,wR,j5⟩
   obtain⟨aQ,hk⟩:=BK hd
   rw[Int.zero_add] at aQ
   subst aQ
   refine⟨_,rfl,?_⟩
   have k0:(0:Int)<=k:=by omega
   have k1:(k:Int) < m:=by omega
   have oc:=R7 j5 hk
   have orr:=R8 j5 hk
   simp_arith[dh]
   refine BD (fun u ρ=>∃(ad:List (List Co)) (s3 s5 s6 s7:Option Cl),ρ=[some (.val (.lst (rs.map BF))),some (.val (.int m)),some (.ow (.rows (AB ad))),s3,some (.val (.int k)),s5,s6,s7]/\NR m ad/\∀ x y:Int,0<=x->x < m->0<=y->y < m->at2 ad x y=if x < u then over k (at2 a5) x y else at2 a5 x y) ⟨a5,s3,s5,s6,s7,rfl,wR,fun x y h0 h1 h2 h3=>by rw[if_neg (by omega)]⟩ ?_ ?_
   ·rintro u d ρ hd ⟨bL,s3,s5,s6,s7,rfl,gp,l5⟩
    obtain⟨aQ,hu⟩:=BK hd
    rw[Int.zero_add] at aQ
    subst aQ
    have u0:(0:Int)<=u:=by omega
    have u1:(u:Int) < m:=by omega
    refine⟨_,rfl,?_⟩
    simp_arith[dh]
    refine BD (fun w ρ=>∃(ad:List (List Co)) (s5 s6 s7:Option Cl),ρ=[some (.val (.lst (rs.map BF))),some (.val (.int m)),some (.ow (.rows (AB ad))),some (.val (.int u)),some (.val (.int k)),s5,s6,s7]/\NR m ad/\∀ x y:Int,0<=x->x < m->0<=y->y < m->at2 ad x y=if x < u\/(x=u/\y < w) then over k (at2 a5) x y else at2 a5 x y) ⟨bL,s5,s6,s7,rfl,gp,fun x y h0 h1 h2 h3=>by
     rw[l5 x y h0 h1 h2 h3]
     by_cases h:x < u
     ·rw[if_pos h,if_pos (.inl h)]
     ·rw[if_neg h,if_neg (by omega)]⟩ ?_ ?_
    ·rintro w d ρ hd ⟨aX,s5,s6,s7,rfl,gq,gu⟩
     obtain⟨aQ,hw⟩:=BK hd
     rw[Int.zero_add] at aQ
     subst aQ
     have w0:(0:Int)<=w:=by omega
     have w1:(w:Int) < m:=by omega
     have a1:at2 aX u w=at2 a5 u w:=by rw[gu u w u0 u1 w0 w1,if_neg (by omega)]
     have a2:at2 aX u k=at2 a5 u k:=by
      rw[gu u k u0 u1 k0 k1]
      split
      ·exact oc u
      ·rfl
     have a3:at2 aX k w=at2 a5 k w:=by
      rw[gu k w k0 k1 w0 w1]
      split
      ·exact orr w
      ·rfl
     obtain⟨wS,hP⟩:=gq.put u0 u1 w0 w1 (over k (at2 a5) u w)
     obtain⟨R0,yd⟩:∃ R0:Ab,R0=[some (.val (.lst (rs.map BF))),some (.val (.int m)),some (.ow (.rows (AB aX))),some (.val (.int u)),some (.val (.int k)),s5,s6,some (.val (.int w))]:=⟨_,rfl⟩
     have c1:=Tu (ρ:=[some (.val (.lst (rs.map BF))),some (.val (.int m)),some (.ow (.rows (AB aX))),some (.val (.int u)),some (.val (.int k)),s5,s6,some (.val (.int w))]) (i:=2) rfl gq u0 u1 w0 w1
     have c2:=Tu (ρ:=[some (.val (.lst (rs.map BF))),some (.val (.int m)),some (.ow (.rows (AB aX))),some (.val (.int u)),some (.val (.int k)),s5,s6,some (.val (.int w))]) (i:=2) rfl gq u0 u1 k0 k1
     have c3:=Tu (ρ:=[some (.val (.lst (rs.map BF))),some (.val (.int m)),some (.ow (.rows (AB aX))),some (.val (.int u)),some (.val (.int k)),s5,s6,some (.val (.int w))]) (i:=2) rfl gq k0 k1 w0 w1
     rw[a1] at c1
     rw[a2] at c2
     rw[a3] at c3
     have qx:=Qv (at2 a5 u k) (at2 a5 k w)
     have hle:G1 [.lst [cst (at2 a5 u w),cst (Aq (at2 a5 u k) (at2 a5 k w))]]=.ok (.sh (cst (over k (at2 a5) u w))):=Ke [at2 a5 u w,Aq (at2 a5 u k) (at2 a5 k w)] (by simp)
     have pj:=fH (ρ:=[some (.val (.lst (rs.map BF))),some (.val (.int m)),some (.ow (.rows (AB aX))),some (.val (.int u)),some (.val (.int k)),s5,s6,some (.val (.int w))]) (i:=2) (v:=over k (at2 a5) u w) rfl gq u0 u1 w0 w1
     refine⟨_,rfl,?_⟩
     refine Bh (ρ':=[some (.val (.lst (rs.map BF))),some (.val (.int m)),some (.ow (.rows (AB (put2 aX u w (over k (at2 a5) u w))))),some (.val (.int u)),some (.val (.int k)),s5,s6,some (.val (.int w))]) (by simp_arith[c1,c2,c3,qx,hle,pj]) ⟨_,_,_,_,rfl,wS,fun x y h0 h1 h2 h3=>?_⟩
     rw[hP x y h0 h2]
     by_cases h:x=u/\y=w
     ·rw[if_pos h,if_pos (by omega),h.1,h.2]
     ·rw[if_neg h,gu x y h0 h1 h2 h3]
      by_cases h':x < u\/(x=u/\y < w)
      ·rw[if_pos h',if_pos (by omega)]
      ·rw[if_neg h',if_neg (by omega)]
    ·rintro ρ ⟨aX,s5,s6,s7,rfl,gq,gu⟩
     rw[Bc] at gu
     refine⟨aX,_,_,_,_,rfl,gq,fun x y h0 h1 h2 h3=>?_⟩
     rw[gu x y h0 h1 h2 h3]
     by_cases h:x < u\/(x=u/\y < m)
     ·rw[if_pos h,if_pos (by omega)]
     ·rw[if_neg h,if_neg (by omega)]
   ·rintro ρ ⟨bL,s3,s5,s6,s7,rfl,gp,l5⟩
    rw[Bc] at l5
    refine⟨bL,_,_,_,_,_,rfl,gp,(XH j5 hk).congr (by omega) Au fun x y h0 h1 h2 h3=>?_⟩
    rw[l5 x y h0 h1 h2 h3,if_pos h1]
  ·rintro ρ ⟨bL,s3,s4,s5,s6,s7,rfl,gp,ij⟩
   rw[Bc] at ij
   exact⟨bL,s3,s4,s5,s6,s7,rfl,gp,ij⟩
 ·rintro ρ ⟨bL,s3,s4,s5,s6,s7,rfl,gp,ij⟩
  refine⟨_,rfl,bL,gp,fun x y h0 h1 h2 h3=>kG ij Au h0 h1 h2 h3,?_⟩
  rw[er,U9,zY]
  congr 1
  refine List.map_congr_left fun R _=>?_
  dsimp only [Function.comp]
  rw[Ky]
noncomputable def NF:List D->M OT:=zi G2
theorem Qw:Txt K mg->BS P w K mg base "_law_costs" 2 2 NF:=(zb G2).1
theorem Qx:∀(m:Nat) (rs:List Road),m<=900->rs.length<=900->(∀ r∈rs,Ho m r)->∃ ad:List (List Co),NR m ad/\(∀ x y:Int,0<=x->x < m->0<=y->y < m->BO rs x y (at2 ad x y))/\∃ t,NF [.lst (rs.map BF),.int m]=.ok t/\er t=.lst ((AB ad).map D.lst):=(zb G2).2
theorem TV:∃ F:List D->M D,(∀ {P:Program}{w:World}{K:za}{mg:Str->Option Value}{base:Heap}{f:Addr}{fd:FuncData},Txt K mg->Ww K "law" "law" G7 f fd->Dv P w K mg base Zq 8 f fd ["_law_script"] (SN K 1 F))/\(∀ ns:List Int,ns.length<=63->(∀ n∈ns,Sm n)->F [.lst (ns.map D.int)]=.ok (.bl true)):=by
 refine⟨_,fun {P w K mg base f fd} T F=>oM (k:=7) F Eh _ (fun AZ A outer s H E hr=>(A3 (B1 1 Eh.nd rfl (zO rfl) (Aj (BM (Aa (Bd rfl).toXCall (FQ T) (hr.mono (by decide)) rfl (A2 (Aj (Aa (Bd rfl).toXCall (Es T) (hr.mono (by decide)) rfl (A2 (A1 0 (pv 0)) (A2 A6 A8)) rfl)) (A2 A6 A8)) rfl)))) (A3 (B1 2 Eh.nd rfl (zO rfl) (Ac (AO hr 16 (by decide)) (Gw (A2 (BU A6 (BJ (A1 1 (pv 1)) A6)) (A2 (BU A6 (BJ (A1 1 (pv 1)) A6)) A8))) (ZS rfl T.YU (fW (AO hr 16 (by decide)) (BJ (Ft (A1 1 (pv 1)) A6) A6) A6)))) (A3 (B1 3 Eh.nd rfl (zO rfl) (Aj (BM (Aa (Bd rfl).toXCall (Qq T) (hr.mono (by decide)) rfl (A2 (Aj (MV (A1 0 (pv 0)) (LD A6) (LD A6))) (A2 (A1 2 (pv 2)) A8)) rfl)))) (A3 (B5 (L0 (c:=true) (AO hr 16 (by decide)) (BJ (Ft (A1 1 (pv 1)) A6) A6) A6) (A5 (B1 6 Eh.nd rfl (zO rfl) (Aj (BM (Yu (Bd rfl).toXCall (Eo T) (hr.mono (by decide)) rfl (A2 (AK (A2 (A1 2 (pv 2)) (A2 (Aj (Jj rfl T.F1 (A1 3 (pv 3)))) A8))) A8) rfl))))) (A5 (B1 6 Eh.nd rfl (zO rfl) (Aj (BM (eS (Bd rfl).toXCall (Eo T).wC (hr.mono (by decide)) rfl (A2 (AK (A2 (A1 2 (pv 2)) (A2 (Aj (Jj rfl T.F1 (A1 3 (pv 3)))) A8))) (A2 (Aj (Aa (Bd rfl).toXCall (Qs T) (hr.mono (by decide)) rfl (A2 (Aj (Aa (Bd rfl).toXCall (Es T) (hr.mono (by decide)) rfl (A2 (A1 0 (pv 0)) (A2 A6 A8)) rfl)) (A2 (A1 2 (pv 2)) A8)) rfl)) A8)) rfl)))))) (A3 (B1 4 Eh.nd rfl (zO rfl) (Aj (BM (Aa (Bd rfl).toXCall (Qw T) (hr.mono (by decide)) rfl (A2 (A1 3 (pv 3)) (A2 (A1 2 (pv 2)) A8)) rfl)))) (A3 (BC PassesOwn.never rfl (C8 (c:=true) rfl T.CP A6) (AW 5 Eh.nd rfl (zO rfl)) (A3 (B1 7 Eh.nd rfl (Or.inr rfl) (BJ (Aj (BM (Aa (Bd rfl).toXCall (FQ T) (hr.mono (by decide)) rfl (A2 (Aj (Aa (Bd rfl).toXCall (Es T) (hr.mono (by decide)) rfl (A2 (A1 0 (pv 0)) (A2 A6 A8)) rfl)) (A2 (BU A6 (A1 5 (pv 5))) A8)) rfl))) (A1 2 (pv 2)))) (A3 (Bz 8 Eh.nd rfl (zO rfl) (BM (Aa (Bd rfl).toXCall (K9 T) (hr.mono (by decide)) rfl (A2 (A1 6 (pv 6)) (A2 (A1 7 (pv 7)) A8)) rfl))) (A3 (B5 (IB (DW.dt (E6 (Ci (BV (c:=true) (Aj (BM (Aa (Bd rfl).toXCall (Fi T) (hr.mono (by decide)) rfl (A2 (A1 8 (pv 8)) (A2 (A1 2 (pv 2)) A8)) rfl))))) (CK (G3 (c:=true) (AO hr 16 (by decide)) (A1 8 (pv 8)) (Ac (AO hr 16 (by decide)) (A1 4 (pv 4)) (A1 7 (pv 7)))))))) (A5 (Mx (Km CC))) AA) (A3 (XY (BN 8 (pv 8))) (A3 (B5 (DW.dt (Iw (L0 (c:=true) (AO hr 16 (by decide)) (A1 5 (pv 5)) A6) (Hj (G3 (c:=true) (AO hr 16 (by decide)) (Aj (BM (Aa (Bd rfl).toXCall (K9 T) (hr.mono (by decide)) rfl (A2 (A1 6 (pv 6)) (A2 (A1 7 (pv 7)) A8)) rfl))) (Ac (AO hr 16 (by decide)) (A1 4 (pv 4)) (A1 7 (pv 7))))))) (A5 (Mx (Km CC))) AA) (A3 (Bz 8 Eh.nd rfl (zO rfl) (BM (Aa (Bd rfl).toXCall (Lf T) (hr.mono (by decide)) rfl (A2 (A1 6 (pv 6)) (A2 (A1 7 (pv 7)) A8)) rfl))) (A3 (B5 (IB (DW.dt (E6 (Ci (BV (c:=true) (Aj (BM (Aa (Bd rfl).toXCall (Fi T) (hr.mono (by decide)) rfl (A2 (A1 8 (pv 8)) (A2 (A1 2 (pv 2)) A8)) rfl))))) (CK (G3 (c:=true) (AO hr 16 (by decide)) (A1 8 (pv 8)) (Aj (Cb (NB:=["_law_row","_law_place"]) [none,some 7] rfl (AN (A1 4 (pv 4))) rfl rfl (Bn 0 (by decide) rfl rfl rfl) (fun _ _ _ _=>Dc) (fun _ _ _ _=>(Ac (AO hr 16 (by decide)) (A1 0 (pv 0)) (A1 1 (pv 1))))))))))) (A5 (Mx (Km CC))) AA) (A3 (Kt 8 (pv 8) D1 (A1 7 (pv 7))) (A5 (B5 (DW.dt (Iw (L0 (c:=true) (AO hr 16 (by decide)) (A1 5 (pv 5)) A6) (Hj (G3 (c:=true) (AO hr 16 (by decide)) (Aj (BM (Aa (Bd rfl).toXCall (Lf T) (hr.mono (by decide)) rfl (A2 (A1 6 (pv 6)) (A2 (A1 7 (pv 7)) A8)) rfl))) (Aj (Cb (NB:=["_law_row","_law_place"]) [none,some 7] rfl (AN (A1 4 (pv 4))) rfl rfl (Bn 0 (by decide) rfl rfl rfl) (fun _ _ _ _=>Dc) (fun _ _ _ _=>(Ac (AO hr 16 (by decide)) (A1 0 (pv 0)) (A1 1 (pv 1)))))))))) (A5 (Mx (Km CC))) AA))))))))))) (A5 (Mx (Km CC)))))))))),?_⟩
 intro ns i5 bQ
 have e0:AG ["_law_script","_law_first","_law_many","_law_roads_here","_law_costs_here","_law_k","_law_ladder","_law_place","_law_found"] [.lst (ns.map D.int)]=[some (.val (.lst (ns.map D.int))),none,none,none,none,none,none,none,none]:=rfl
 rw[e0]
 refine pF ?_
 obtain⟨z0,ye,j5⟩:=Et ns 0 bQ
 obtain⟨z1,bA,ij⟩:=Et ns 1 bQ
 obtain⟨z2,og,wT⟩:=Et ns 2 bQ
 have re:CT [.lst (ns.map D.int),.int 0]=.ok (.sh (.int z0)):=j5
 have rf:CT [.lst (ns.map D.int),.int 1]=.ok (.sh (.int z1)):=ij
 have rh:CT [.lst (ns.map D.int),.int 2]=.ok (.sh (.int z2)):=wT
 obtain⟨v,v0,hv⟩:=FR z0 0 (by decide) (by decide)
 have q1:Ex (.int v) (.int 6)=.ok (.int (v % 6)):=AQ (by decide)
 have q2:Ex (.int v) (.int 10)=.ok (.int (v % 10)):=AQ (by decide)
 have q3:J4 (.int v) (.int 77)=.ok (.int (v / 77)):=DM ⟨by decide,by decide⟩
 have q4:Ex (.int (v / 77)) (.int 8)=.ok (.int (v / 77 % 8)):=AQ (by decide)
 have q5:J4 (.int v) (.int 6)=.ok (.int (v / 6)):=DM ⟨by decide,by decide⟩
 have q6:Ex (.int (v / 6)) (.int 3)=.ok (.int (v / 6 % 3)):=AQ (by decide)
 obtain⟨m,df,bX,j6⟩:∃ m:Nat,1<=m/\m<=16/\((Uo [.bl (decide (v / 77 % 8=3))]).bind fun y=>B3 (.lst [.int (1 + v % 6),.int (7 + v % 10)]) y)=.ok (.int m):=by
  by_cases h:v / 77 % 8=3
  ·refine⟨(7 + v % 10).toNat,by omega,by omega,?_⟩
   rw[decide_eq_true h,show (((7 + v % 10).toNat:Nat):Int)=7 + v % 10 by omega]
   rfl
  ·refine⟨(1 + v % 6).toNat,by omega,by omega,?_⟩
   rw[decide_eq_false h,show (((1 + v % 6).toNat:Nat):Int)=1 + v % 6 by omega]
   rfl
 have gn:(0:Int) < (m:Int):=by omega
 apply wp_step
 ·simp_arith[re,hv];rfl
 try simp only[zr,zl]
 apply wp_step
 ·simp_arith[q1,q2,q3,q4,j6];rfl
 try simp only[zr,zl]
 have sl:dJ (some 3) (some 27) (.lst (ns.map D.int))=.ok (.lst ((((ns.drop 3).take 24).map D.int).map .sh)):=by rw[List.map_take,List.map_drop];exact eE _ 3 27
 obtain⟨rs,cf,ga,wU⟩:=Qr ((ns.drop 3).take 24) m df bX (by rw[yt];omega) fun c hc=>bQ c (List.mem_of_mem_drop (ym hc))
 have j7:rs.length<=60:=by rw[yt] at cf;omega
 have rj:∀ r∈rs,Ho m r:=fun r hr=>(ga r hr).uQ.1
 apply wp_step
 ·simp_arith[sl,wU];rfl
 try simp only[zr,zl]
 obtain⟨Lo,wV,wW⟩:=Qt z1 m (by omega)
 have nn:D.tup [.int m,.lst (rs.map BF)]=As m rs:=rfl
 refine C4 (I:=fun ρ=>∃(L:List Int) (A:LA) (K:List (Int×Int)),ρ=[some (.val (.lst (ns.map D.int))),some (.val (.int v)),some (.val (.int m)),some (.val (.lst (rs.map BF))),none,none,some (.val (B7 m rs L A K)),none,none]/\Cq m rs L A K) ?_ ?_
 ·by_cases c1:v / 6 % 3=1
  ·obtain⟨A,K,ok,t,hI,hE⟩:=Ep m rs .Az (Sh m (By rs) (AR m)) df bX j7 ga (RJ m _ _ (Fe m)) (.inr ⟨rfl,rfl⟩)
   have rn:OQ (Ce (.ins "Ladder" [] []) ([As m rs]++[.Az]))=.ok t:=by
    rw[show [As m rs]++[D.Az]=[As m rs,.Az] from rfl,hI];rfl
   refine Bh (ρ':=[some (.val (.lst (ns.map D.int))),some (.val (.int v)),some (.val (.int m)),some (.val (.lst (rs.map BF))),none,none,some (.val (B7 m rs (Sh m (By rs) (AR m)) A K)),none,none]) (by simp_arith[q5,q6,decide_eq_true c1,nn,rn,hE];try rfl) ⟨_,A,K,rfl,ok⟩
  ·obtain⟨A,K,ok,t,hI,hE⟩:=Ep m rs (.lst (Lo.map D.int)) Lo df bX j7 ga wV (.inl rfl)
   have rn:OQ (Ce (.ins "Ladder" [] []) [As m rs,.lst (Lo.map D.int)])=.ok t:=by rw[hI];rfl
   refine Bh (ρ':=[some (.val (.lst (ns.map D.int))),some (.val (.int v)),some (.val (.int m)),some (.val (.lst (rs.map BF))),none,none,some (.val (B7 m rs Lo A K)),none,none]) (by simp_arith[q5,q6,decide_eq_false c1,rf,wW,nn,rn,hE];try rfl) ⟨_,A,K,rfl,ok⟩
 rintro ρ ⟨L,A,K,rfl,ok⟩
 obtain⟨ad,hM,hA,tc,wX,wY⟩:=Qx m rs (by omega) (by omega) rj
 have bt:∀ s:Int,0<=s->s < m->B3 (.lst ((AB ad).map D.lst)) (.int s)=.ok (.lst ((ad.getD s.toNat []).map cst)):=fun s h0 h1=>by
  have e:=(hM.get h0 h1).1
  have e2:(AB ad)[s.toNat]? =some ((ad.getD s.toNat []).map cst):=by unfold AB;rw[zF,e];rfl
  exact Jf h0 e2
 apply wp_step
 ·simp_arith[wX,wY];rfl
 try simp only[zr,zl]
 have hr:SM (.int 3)=.ok (Cj 0 3):=Gx (n:=3) (by omega)
 refine C4 (I:=fun ρ=>∃(s5 s7 s8:Option Cl),ρ=[some (.val (.lst (ns.map D.int))),some (.val (.int v)),some (.val (.int m)),some (.val (.lst (rs.map BF))),some (.val (.lst ((AB ad).map D.lst))),s5,some (.val (B7 m rs L A K)),s7,s8]) ?_ ?_
 ·simp_arith[hr]
  refine BD (fun i ρ=>∃(s5 s7 s8:Option Cl),ρ=[some (.val (.lst (ns.map D.int))),some (.val (.int v)),some (.val (.int m)),some (.val (.lst (rs.map BF))),some (.val (.lst ((AB ad).map D.lst))),s5,some (.val (B7 m rs L A K)),s7,s8]) ⟨none,none,none,rfl⟩ ?_ ?_
  ·rintro i d ρ hd ⟨s5,s7,s8,rfl⟩
   obtain⟨aQ,hi⟩:=BK hd
   rw[Int.zero_add] at aQ
   subst aQ
   refine⟨_,rfl,?_⟩
   obtain⟨p,p0,hp⟩:=FR z2 (30 + i) (by omega) (by omega)
   have q7:Ex (.int p) (.int (m:Int))=.ok (.int (p % m)):=AQ gn
   obtain⟨s,hs⟩:∃ s:Nat,(s:Int)=p % m:=⟨(p % m).toNat,by have:=yO p (b:=(m:Int)) (by omega);omega⟩
   have j8:s < m:=by have:=yH p gn;omega
   rw[<-hs] at q7
   obtain⟨T1,g1,l1,t1⟩:=Qj m rs L A K s ok j8
   obtain⟨T2,g2,l2,t2⟩:=S4 m rs L A K s ok j8
   have r1:=lW hM hA (s:=(s:Int)) (by omega) (by omega) l1 t1
   have r2:=lX hM hA (s:=(s:Int)) (by omega) (by omega) l2 t2
   have a1:=Fj T1 m l1 (by omega)
   have a2:=Fj T2 m l2 (by omega)
   have i1:=bt s (by omega) (by omega)
   rw[<-r1] at i1
   have n1:=QZ (V4 T1)
   have n2:=QZ (V4 T2)
   have rq:((AB ad).map D.lst).length<=1000:=by unfold AB;rw[zc,zc,hM.len];omega
   have j9:ad.map (fun R=>cst (atC R (s:Int)))=T2.map cst:=by rw[r2,zY];rfl
   have gw:(AB ad).map D.lst=ad.map fun R=>D.lst (R.map cst):=by unfold AB;rw[zY];rfl
   have kc:∀ R∈ad,B3 (.lst (R.map cst)) (.int (s:Int))=.ok (cst (atC R s)):=fun R hR=>E9 (by omega) (by rw[hM.row R hR];omega)
   apply wp_step
   ·simp_arith[rh,hp,q7];rfl
   try simp only[zr,zl]
   apply wp_step
   ·simp_arith[g1];rfl
   try simp only[zr,zl]
   apply wp_step
   ·simp_arith[a1,i1,n1,EW];rfl
   refine wp_step (ρ':=[some (.val (.lst (ns.map D.int))),some (.val (.int v)),some (.val (.int m)),some (.val (.lst (rs.map BF))),some (.val (.lst ((AB ad).map D.lst))),some (.val (.int i)),some (.val (B7 m rs L A K)),some (.val (.int s)),some (.own [])]) (by simp_arith[];try rfl) ?_
   refine wp_step (ρ':=[some (.val (.lst (ns.map D.int))),some (.val (.int v)),some (.val (.int m)),some (.val (.lst (rs.map BF))),some (.val (.lst ((AB ad).map D.lst))),some (.val (.int i)),some (.val (B7 m rs L A K)),some (.val (.int s)),some (.own [])]) (by
    by_cases hk:(i:Int)=0
    ·simp_arith[decide_eq_true hk,g1,i1,n1];rfl
    ·simp_arith[decide_eq_false hk];try rfl) ?_
   apply wp_step
   ·simp_arith[g2];rfl
   try simp only[zr,zl]
   have ke:(ad.map fun R=>D.lst (R.map cst)).length<=1000:=by rw[<-gw];exact rq
   refine wp_step (ρ':=[some (.val (.lst (ns.map D.int))),some (.val (.int v)),some (.val (.int m)),some (.val (.lst (rs.map BF))),some (.val (.lst ((AB ad).map D.lst))),some (.val (.int i)),some (.val (B7 m rs L A K)),some (.val (.int s)),some (.own (T2.map cst))]) (by
    simp_arith[a2,gw,if_pos ke]
    rw[C5 (fun R=>cst (atC R (s:Int))) (fun R hR=>⟨_,rfl,rfl,by
     have hc:=kc R hR
     simp_arith[hc]⟩)]
    rw[j9]
    simp_arith[n2,EW]
    try rfl) ?_
   have a9:=HJ (i:=8) (ρ:=[some (.val (.lst (ns.map D.int))),some (.val (.int v)),some (.val (.int m)),some (.val (.lst (rs.map BF))),some (.val (.lst ((AB ad).map D.lst))),some (.val (.int i)),some (.val (B7 m rs L A K)),some (.val (.int s)),some (.own (T2.map cst))]) (d:=.Az) (p:=(s:Int)) rfl (by omega) (by rw[zc,l2];omega)
   apply wp_step
   ·simp_arith[a9];rfl
   try simp only[zr,zl]
   refine Bh (ρ':=[some (.val (.lst (ns.map D.int))),some (.val (.int v)),some (.val (.int m)),some (.val (.lst (rs.map BF))),some (.val (.lst ((AB ad).map D.lst))),some (.val (.int i)),some (.val (B7 m rs L A K)),some (.val (.int s)),some (.own ((T2.map cst).set (s:Int).toNat .Az))]) (by
    by_cases hk:(i:Int)=0
    ·simp_arith[decide_eq_true hk,g2,gw,if_pos ke]
     rw[C5 (fun R=>cst (atC R (s:Int))) (fun R hR=>⟨_,rfl,rfl,by
      have hc:=kc R hR
      simp_arith[hc]⟩)]
     rw[j9]
     simp_arith[n2]
     rfl
    ·simp_arith[decide_eq_false hk];try rfl) ⟨_,_,_,rfl⟩
  ·rintro ρ ⟨s5,s7,s8,rfl⟩
   exact⟨s5,s7,s8,rfl⟩
 ·rintro ρ ⟨s5,s7,s8,rfl⟩
  rfl
noncomputable def Z1:List D->M D:=zi TV
theorem lZ {P:Program}{w:World}{K:za}{mg:Str->Option Value}{base:Heap}{f:Addr}{fd:FuncData}:Txt K mg->Ww K "law" "law" G7 f fd->Dv P w K mg base Zq 8 f fd ["_law_script"] (SN K 1 Z1):=(zb TV).1
theorem mB:∀ ns:List Int,ns.length<=63->(∀ n∈ns,Sm n)->Z1 [.lst (ns.map D.int)]=.ok (.bl true):=(zb TV).2
theorem all_mk {l:PySem.W.OpenLaw}{w:World}{K:za}{h:Heap}{mg:Str->Option Value}{fa:Addr}(X:K.In h) (G:h.Ns mainGlobals mg) (wZ:mg "law" = some (.ref fa))
 {ae:Addr} {l6:Addr} {rz gx:Option Addr} {r6:Array (Option Value)} {r9 gy gz g7 di g8:Value} {dk:Addr} {to28:Value} {se:Option Addr} {sf:Nat} {sg:Array (Option Value)} {so:Addr} {sq kg:Option Addr} {sr:Array (Option Value)} {ss kh ko kr g9 kt:Value} {bR:Addr} {bS:Addr} {bg:Addr}
 (ah:zD K mainGlobals "Ladder" = some (some (.ref ae))) (aJ:PySem.W.plainGet K ae Str.empty=true) (aK:PySem.W.hasDictIn K ae=true) (aL:PySem.W.plainOver K ae=true) (aM:yg K (.ref ae) "__setattr__" = some (some (.builtin "object.__setattr__"))) (aN:PySem.W.makesIn K ae=true) (aO:yi K (.ref ae)=true)
 (p1:FP K "is_whole_below" Cc)
 (p2:FP K "is_measure" Dz)
 (p3:FP K "is_road" HR)
 (p4:FP K "is_map" K3)
 (p5:FP K "checked" HS)
 (p6:FP K "added" M8)
 (p7:FP K "least" M9)
 (p8:FP K "road_cost" EE)
 (p9:FP K "kept_costs" DB)
 (su:FP K "kept_costs_turned" BA)
 (sv:FP K "climbed" HU)
 (sw:FP K "swept" Ma)
 (sx:FP K "costs_out" EF)
 (sy:FP K "costs_in" FC)
 (sB:FP K "cost_so_far" De)
 (sK:FP K "lay" V7)
 (sM:FP K "lay_over" FD)
 (sN:FP K "laid_arcs" EH)
 (sO:FP K "is_order" FE)
 (sP:FP K "checked_order" Ct)
 (sQ:FP K "first_bows" DC)
 (sR:FP K "missing_bows" CN)
 (sS:FP K "lightest" FF)
 (sT:FP K "ranked" K4)
 (sU:FP K "costs_from" DD)
 (sV:FP K "order_or_ranked" BY)
 (sW:FP K "kept_arcs" EI)
 (sX:MP K ae "order" "Ladder.order" CO)
 (sY:MP K ae "checked_arc" "Ladder.checked_arc" Bq)
 (sZ:MP K ae "cost" "Ladder.cost" Df)
 (tf:MP K ae "kept" "Ladder.kept" Dg)
 (tj:FP K "_law_cell_at" Dh)
 (tm:FP K "_law_mix" HV)
 (tq:FP K "_law_great" EJ)
 (tu:FP K "_law_whole" EK)
 (tw:FP K "_law_is_cost" Di)
 (tz:FP K "_law_are_costs" Cu)
 (t5:FP K "_law_roads" EL)
 (t6:FP K "_law_order" EM)
 (t7:FP K "_law_added" EN)
 (t8:FP K "_law_least" EO)
 (t9:FP K "_law_open" FH)
 (tD:FP K "_law_costs" EQ)
 (tE:yg K (.ref ae) "__init__" = some (some (.ref l6))) (tF:PySem.W.isFn K (.ref l6)=true)
 (tG:K.lookup l6=some ⟨r9,rz,.func (yh "__init__" "Ladder.__init__" (Bf Ap) (AJ Ap) (A4 Ap) (.ref dk) gy gz g7 gx di g8),r6⟩) (tH:y3 K di "Ladder.__init__" = true) (tI:yi K (.ref l6)=true)
 (dl:K.lookup dk=some ⟨to28,se,.seq #[.none] sf,sg⟩)
 (l7:zD K mainGlobals "law" = some (some (.ref so)))
 (tJ:K.lookup so=some ⟨ss,sq,.func (yh "law" "law" (Bf G7) (AJ G7) (A4 G7) .none kh ko kr kg g9 kt),sr⟩) (tK:y3 K g9 "law" = true) (tL:yi K (.ref so)=true)
 (z1:zD K mainGlobals "all" = some none)
 (z2:zD K mainGlobals "bool" = some none)
 (z3:zD K mainGlobals "dict" = some none)
 (z4:zD K mainGlobals "enumerate" = some none)
 (z5:zD K mainGlobals "int" = some none)
 (z6:zD K mainGlobals "isinstance" = some none)
 (z7:zD K mainGlobals "len" = some none)
 (z8:zD K mainGlobals "list" = some none)
 (z9:zD K mainGlobals "min" = some none)
 (tM:zD K mainGlobals "range" = some none)
 (tN:zD K mainGlobals "reversed" = some none)
 (tO:zD K mainGlobals "sorted" = some none)
 (tP:zD K mainGlobals "tuple" = some none)
 (aS:zD K mainGlobals "NoArc" = some (some (.ref bR)))
 (aT:zD K mainGlobals "NoMap" = some (some (.ref bS)))
 (aD:zD K mainGlobals "NoOrder" = some (some (.ref bg)))
 (bu:PySem.W.excIn K bR [.type "ValueError",.type "Exception",.type "BaseException",.type "object"] "ValueError.__new__" = true)
 (bv:PySem.W.excIn K bS [.type "ValueError",.type "Exception",.type "BaseException",.type "object"] "ValueError.__new__" = true)
 (aP:PySem.W.excIn K bg [.type "ValueError",.type "Exception",.type "BaseException",.type "object"] "ValueError.__new__" = true)
 (am:yg K (.ref ae) "kept_ones" = some none)
 (az:yg K (.ref ae) "laid" = some none)
 (au:yg K (.ref ae) "own_map" = some none)
 (ao:yg K (.ref ae) "own_order" = some none) :
 ∃ fd:FuncData,(∀(s:Shared) (v:Value),BindsTo s fd ⟨[v],[]⟩ [("_law_script",v)])/\∀ base:Heap,K.In base->base.Ns mainGlobals mg->Dv l.prog w K mg base Zq 8 fa fd ["_law_script"] (SN K 1 Z1):=by
 have e:=wZ.symm.trans (PySem.W.mg_of X G l7)
 cases e
 have al:Vj K ae:=⟨aJ,aK,aL,aM⟩
 have T1:Ai K mg "is_whole_below" Cc ["thing","bound"]:=AS X G p1 fun _ _ _ _ _ _ us hl=>match us,hl with|[_,_],_=>rfl
 have T2:Ai K mg "is_measure" Dz ["thing"]:=AS X G p2 fun _ _ _ _ _ _ us hl=>match us,hl with|[_],_=>rfl
 have T3:Ai K mg "is_road" HR ["thing","many"]:=AS X G p3 fun _ _ _ _ _ _ us hl=>match us,hl with|[_,_],_=>rfl
 have T4:Ai K mg "is_map" K3 ["thing"]:=AS X G p4 fun _ _ _ _ _ _ us hl=>match us,hl with|[_],_=>rfl
 have T5:Ai K mg "checked" HS ["thing"]:=AS X G p5 fun _ _ _ _ _ _ us hl=>match us,hl with|[_],_=>rfl
 have T6:Ai K mg "added" M8 ["one","other"]:=AS X G p6 fun _ _ _ _ _ _ us hl=>match us,hl with|[_,_],_=>rfl
 have T7:Ai K mg "least" M9 ["some"]:=AS X G p7 fun _ _ _ _ _ _ us hl=>match us,hl with|[_],_=>rfl
 have T8:Ai K mg "road_cost" EE ["road"]:=AS X G p8 fun _ _ _ _ _ _ us hl=>match us,hl with|[_],_=>rfl
 have T9:Ai K mg "kept_costs" DB ["ladder"]:=AS X G p9 fun _ _ _ _ _ _ us hl=>match us,hl with|[_],_=>rfl
 have xa:Ai K mg "kept_costs_turned" BA ["ladder"]:=AS X G su fun _ _ _ _ _ _ us hl=>match us,hl with|[_],_=>rfl
 have xb:Ai K mg "climbed" HU ["order","costs","place"]:=AS X G sv fun _ _ _ _ _ _ us hl=>match us,hl with|[_,_,_],_=>rfl
 have xc:Ai K mg "swept" Ma ["order","costs","place"]:=AS X G sw fun _ _ _ _ _ _ us hl=>match us,hl with|[_,_,_],_=>rfl
 have xf:Ai K mg "costs_out" EF ["ladder","start"]:=AS X G sx fun _ _ _ _ _ _ us hl=>match us,hl with|[_,_],_=>rfl
 have xg:Ai K mg "costs_in" FC ["ladder","goal"]:=AS X G sy fun _ _ _ _ _ _ us hl=>match us,hl with|[_,_],_=>rfl
 have xh:Ai K mg "cost_so_far" De ["laid","pair"]:=AS X G sB fun _ _ _ _ _ _ us hl=>match us,hl with|[_,_],_=>rfl
 have xi:Ai K mg "lay" V7 ["laid","pair","cost","middle"]:=AS X G sK fun _ _ _ _ _ _ us hl=>match us,hl with|[_,_,_,_],_=>rfl
 have xj:Ai K mg "lay_over" FD ["laid","place","higher"]:=AS X G sM fun _ _ _ _ _ _ us hl=>match us,hl with|[_,_,_],_=>rfl
 have xk:Ai K mg "laid_arcs" EH ["net","order"]:=AS X G sN fun _ _ _ _ _ _ us hl=>match us,hl with|[_,_],_=>rfl
 have xl:Ai K mg "is_order" FE ["net","thing"]:=AS X G sO fun _ _ _ _ _ _ us hl=>match us,hl with|[_,_],_=>rfl
 have xm:Ai K mg "checked_order" Ct ["net","thing"]:=AS X G sP fun _ _ _ _ _ _ us hl=>match us,hl with|[_,_],_=>rfl
 have xn:Ai K mg "first_bows" DC ["net"]:=AS X G sQ fun _ _ _ _ _ _ us hl=>match us,hl with|[_],_=>rfl
 have xp:Ai K mg "missing_bows" CN ["bows","left","place"]:=AS X G sR fun _ _ _ _ _ _ us hl=>match us,hl with|[_,_,_],_=>rfl
 have xq:Ai K mg "lightest" FF ["bows","left"]:=AS X G sS fun _ _ _ _ _ _ us hl=>match us,hl with|[_,_],_=>rfl
 have xr:Ai K mg "ranked" K4 ["net"]:=AS X G sT fun _ _ _ _ _ _ us hl=>match us,hl with|[_],_=>rfl
 have xt:Ai K mg "costs_from" DD ["net","start"]:=AS X G sU fun _ _ _ _ _ _ us hl=>match us,hl with|[_,_],_=>rfl
 have xu:Ai K mg "order_or_ranked" BY ["net","order"]:=AS X G sV fun _ _ _ _ _ _ us hl=>match us,hl with|[_,_],_=>rfl
 have xv:Ai K mg "kept_arcs" EI ["net","laid"]:=AS X G sW fun _ _ _ _ _ _ us hl=>match us,hl with|[_,_],_=>rfl
 have xw:Ia K "Ladder" "order" "Ladder.order" CO ["self"]:=V6 ah al sX fun _ _ _ _ _ _ us hl=>match us,hl with|[_],_=>rfl
 have xx:Ia K "Ladder" "checked_arc" "Ladder.checked_arc" Bq ["self","u","w"]:=V6 ah al sY fun _ _ _ _ _ _ us hl=>match us,hl with|[_,_,_],_=>rfl
 have xy:Ia K "Ladder" "cost" "Ladder.cost" Df ["self","u","w"]:=V6 ah al sZ fun _ _ _ _ _ _ us hl=>match us,hl with|[_,_,_],_=>rfl
 have xz:Ia K "Ladder" "kept" "Ladder.kept" Dg ["self"]:=V6 ah al tf fun _ _ _ _ _ _ us hl=>match us,hl with|[_],_=>rfl
 have x3:Ai K mg "_law_cell_at" Dh ["_law_script","_law_k"]:=AS X G tj fun _ _ _ _ _ _ us hl=>match us,hl with|[_,_],_=>rfl
 have x4:Ai K mg "_law_mix" HV ["_law_cell","_law_k"]:=AS X G tm fun _ _ _ _ _ _ us hl=>match us,hl with|[_,_],_=>rfl
 have x5:Ai K mg "_law_great" EJ ["_law_cell","_law_k"]:=AS X G tq fun _ _ _ _ _ _ us hl=>match us,hl with|[_,_],_=>rfl
 have x6:Ai K mg "_law_whole" EK ["_law_found"]:=AS X G tu fun _ _ _ _ _ _ us hl=>match us,hl with|[_],_=>rfl
 have x8:Ai K mg "_law_is_cost" Di ["_law_found"]:=AS X G tw fun _ _ _ _ _ _ us hl=>match us,hl with|[_],_=>rfl
 have x9:Ai K mg "_law_are_costs" Cu ["_law_found","_law_many"]:=AS X G tz fun _ _ _ _ _ _ us hl=>match us,hl with|[_,_],_=>rfl
 have xA:Ai K mg "_law_roads" EL ["_law_cells","_law_many"]:=AS X G t5 fun _ _ _ _ _ _ us hl=>match us,hl with|[_,_],_=>rfl
 have xB:Ai K mg "_law_order" EM ["_law_cell","_law_many"]:=AS X G t6 fun _ _ _ _ _ _ us hl=>match us,hl with|[_,_],_=>rfl
 have xC:Ai K mg "_law_added" EN ["_law_one","_law_other"]:=AS X G t7 fun _ _ _ _ _ _ us hl=>match us,hl with|[_,_],_=>rfl
 have xD:Ai K mg "_law_least" EO ["_law_some"]:=AS X G t8 fun _ _ _ _ _ _ us hl=>match us,hl with|[_],_=>rfl
 have xE:Ai K mg "_law_open" FH ["_law_road"]:=AS X G t9 fun _ _ _ _ _ _ us hl=>match us,hl with|[_],_=>rfl
 have xF:Ai K mg "_law_costs" EQ ["_law_roads_here","_law_many"]:=AS X G tD fun _ _ _ _ _ _ us hl=>match us,hl with|[_,_],_=>rfl
 have xG:=eX (st:=Ap) tG tH tI
 have xH:Binds K (yh "__init__" "Ladder.__init__" (Bf Ap) (AJ Ap) (A4 Ap) (.ref dk) gy gz g7 gx di g8) ["self","net","order"] []:=fun s us hK hl=>by
  have aZ:us.length=3:=by simpa using hl
  match us,aZ with
  |[_,_,_],_=>exact PySem.W.binds_K hK rfl dl rfl rfl rfl
 have xI:Binds K (yh "__init__" "Ladder.__init__" (Bf Ap) (AJ Ap) (A4 Ap) (.ref dk) gy gz g7 gx di g8) ["self","net","order"] [.none]:=fun s us hK hl=>by
  have aZ:us.length=2:=by simpa using hl
  match us,aZ with
  |[_,_],_=>exact PySem.W.binds_K hK rfl dl rfl rfl rfl
 have xJ:Tj K mg "Ladder" "Ladder.__init__" Ap ["self","net","order"]:=⟨_,_,_,⟨ah,PySem.W.mg_of X G ah⟩,⟨aN,tE,tF,aO⟩,xG,xH,xI⟩
 have tQ:=SE (st:=G7) tJ tK tL
 have xK:Ai K mg "law" G7 ["_law_script"]:=⟨_,_,tQ,PySem.W.mg_of X G l7,tQ.binds fun _ _ _ _ _ _ us hl=>match us,hl with|[_],_=>rfl⟩
 have T:Txt K mg:=⟨T1,T2,T3,T4,T5,T6,T7,T8,T9,xa,xb,xc,xf,xg,xh,xi,xj,xk,xl,xm,xn,xp,xq,xr,xt,xu,xv,xJ,xw,xx,xy,xz,x3,x4,x5,x6,x8,x9,xA,xB,xC,xD,xE,xF,xK,yf X G z1,yf X G z2,yf X G z3,yf X G z4,yf X G z5,yf X G z6,yf X G z7,yf X G z8,yf X G z9,yf X G tM,yf X G tN,yf X G tO,yf X G tP,⟨_,aS,PySem.W.mg_of X G aS,bu⟩,⟨_,aT,PySem.W.mg_of X G aT,bv⟩,⟨_,aD,PySem.W.mg_of X G aD,aP⟩,⟨_,ah,al,am⟩,⟨_,ah,al,az⟩,⟨_,ah,al,au⟩,⟨_,ah,al,ao⟩⟩
 refine⟨yh "law" "law" (Bf G7) (AJ G7) (A4 G7) .none kh ko kr kg g9 kt,fun s v=>.of_eq rfl,fun base _ _=>?_⟩
 exact lZ T tQ
theorem walk {l:PySem.W.OpenLaw}{q:Program}{loose:List Str}{XP:(Str->Option Value)->Heap->Prop}{YP:World->Heap->Prop}{d:DefRec}{K:Params->za}(hn:l.most=some 63) (jl:d.params.defaults=[])
 (hY:∀(w:World) (h:Heap),YP w h->(K w.params).In h)
 (F:∀(w:World) (mg:Str->Option Value) (fa:Addr) (h:Heap),(K w.params).In h->h.Ns mainGlobals mg->mg d.name=some (.ref fa)->
  ∃ fd:FuncData,(∀(s:Shared) (u:Value),BindsTo s fd ⟨[u],[]⟩ [("_law_script",u)])/\∀ base:Heap,(K w.params).In base->base.Ns mainGlobals mg->Dv l.prog w (K w.params) mg base Zq 8 fa fd ["_law_script"] (SN (K w.params) 1 Z1)) :
 PySem.W.WalkO q loose XP YP l.row.toRowW d [] (fun f vs=>PySem.call f vs) :=
 L2.ZT (n:=63) (k:=8) (x := "_law_script") (CX:=fun _=>Zq) (sp:=fun w=>SN (K w.params) 1 Z1) hn (by decide) jl ⟨rfl,by decide,by decide⟩ hY F (fun w H a ns bQ hl _ hS=>ZU mB (K w.params) H a ns bQ hl hS) fun _ _ _ _ _ z=>z
end K51
open PySem PySem.W PyProof.Rows
local macro_rules | `(tactic| simp_all_arith)=>`(tactic| (refine' L2.pN ?a ?l ?c ?k;(case a=>k_is);(case l=>k_is);(case c=>k_is);(case k=>k_is)))
set_option maxRecDepth 100000 in
set_option maxHeartbeats 0 in
theorem PySem.Challenge.cw_nodeladder_k51_swept_holds : PySem.Challenge.rw_nodeladder_k51_swept.Holds := by
 w_on;o_law;k_head;(case hw=>w_witness2)
 k_fill
 refine K51.walk (l:=PySem.Challenge.rw_nodeladder_k51_swept) rfl rfl (fun w h Y=>PySem.W.kIn_of Y) ?F
 case F =>
  intro w mg fa h KX G jm
  refine' K51.all_mk KX G jm ?ah ?aJ ?aK ?aL ?aM ?aN ?aO ?p1 ?p2 ?p3 ?p4 ?p5 ?p6 ?p7 ?p8 ?p9 ?su ?sv ?sw ?sx ?sy ?sB ?sK ?sM ?sN ?sO ?sP ?sQ ?sR ?sS ?sT ?sU ?sV ?sW ?sX ?sY ?sZ ?tf ?tj ?tm ?tq ?tu ?tw ?tz ?t5 ?t6 ?t7 ?t8 ?t9 ?tD ?tE ?tF ?tG ?tH ?tI ?dl ?l7 ?tJ ?tK ?tL ?z1 ?z2 ?z3 ?z4 ?z5 ?z6 ?z7 ?z8 ?z9 ?tM ?tN ?tO ?tP ?aS ?aT ?aD ?bu ?bv ?aP ?am ?az ?au ?ao
  (case ah=>k_is);(case aJ=>k_is);(case aK=>k_is);(case aL=>k_is);(case aM=>k_is);(case aN=>k_is);(case aO=>k_is);(case p1=>simp_all_arith);(case p2=>simp_all_arith);(case p3=>simp_all_arith);(case p4=>simp_all_arith);(case p5=>simp_all_arith);(case p6=>simp_all_arith);(case p7=>simp_all_arith);(case p8=>simp_all_arith);(case p9=>simp_all_arith);(case su=>simp_all_arith);(case sv=>simp_all_arith);(case sw=>simp_all_arith);(case sx=>simp_all_arith);(case sy=>simp_all_arith);(case sB=>simp_all_arith);(case sK=>simp_all_arith);(case sM=>simp_all_arith);(case sN=>simp_all_arith);(case sO=>simp_all_arith);(case sP=>simp_all_arith);(case sQ=>simp_all_arith);(case sR=>simp_all_arith);(case sS=>simp_all_arith);(case sT=>simp_all_arith);(case sU=>simp_all_arith);(case sV=>simp_all_arith);(case sW=>simp_all_arith);(case sX=>refine' L2.V5 ?a ?i ?l ?c ?k;(case a=>k_is);(case i=>k_is);(case l=>k_is);(case c=>k_is);(case k=>k_is));(case sY=>refine' L2.V5 ?a ?i ?l ?c ?k;(case a=>k_is);(case i=>k_is);(case l=>k_is);(case c=>k_is);(case k=>k_is));(case sZ=>refine' L2.V5 ?a ?i ?l ?c ?k;(case a=>k_is);(case i=>k_is);(case l=>k_is);(case c=>k_is);(case k=>k_is));(case tf=>refine' L2.V5 ?a ?i ?l ?c ?k;(case a=>k_is);(case i=>k_is);(case l=>k_is);(case c=>k_is);(case k=>k_is));(case tj=>simp_all_arith);(case tm=>simp_all_arith);(case tq=>simp_all_arith);(case tu=>simp_all_arith);(case tw=>simp_all_arith);(case tz=>simp_all_arith);(case t5=>simp_all_arith);(case t6=>simp_all_arith);(case t7=>simp_all_arith);(case t8=>simp_all_arith);(case t9=>simp_all_arith);(case tD=>simp_all_arith);(case tE=>k_is);(case tF=>k_is);(case tG=>k_is);(case tH=>k_is);(case tI=>k_is);(case dl=>k_is);(case l7=>k_is);(case tJ=>k_is);(case tK=>k_is);(case tL=>k_is);(case z1=>k_is);(case z2=>k_is);(case z3=>k_is);(case z4=>k_is);(case z5=>k_is);(case z6=>k_is);(case z7=>k_is);(case z8=>k_is);(case z9=>k_is);(case tM=>k_is);(case tN=>k_is);(case tO=>k_is);(case tP=>k_is);(case aS=>k_is);(case aT=>k_is);(case aD=>k_is);(case bu=>k_exc);(case bv=>k_exc);(case aP=>k_exc);(case am=>k_is);(case az=>k_is);(case au=>k_is);(case ao=>k_is)
