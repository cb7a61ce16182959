import PyProof.Rows.All
import Wide.All
import OpenK.AllK
import Wide.FinOn
import Lean
import PyProof.EqAt
import PyProof.EqKinds
import PyProof.TupleCall
import PyProof.NeKinds
import KE.KRevSl
import KE.KIsAll
import PyProof.ExcArgsOwn
import PyProof.ExcAttrAll.ValueError
import PyProof.ExcBaseAll.ValueError
import PyProof.FitsBits
import KE.LcSums
import KE.KRevIter
import PyProof.ListRange
import PyProof.Rows.MinMaxN
import PySem.Challenge.RW_nodeladder_k12_right_prices_told
set_option Elab.async false
set_option linter.all false
set_option maxRecDepth 100000
/-! THE HAND LAYER, for ints, bools, texts, own classes, LISTS and tuples (index, slices, in, append, pop ..), calls, loops. Paste it whole ahead of your own text; what your proof does not reach may be deleted. -/
namespace L2
open PySem PySem.Spec PyProof.Rows

/-- a key: an int or a str -/
abbrev Key := Sum Int Str
def keyIs : Key → Value → Bool
  | .inl k, v => Value.isInt k v
  | .inr x, v => Value.isStrOf x v
def keyH (w : World) : Key → Int
  | .inl k => hashInt k
  | .inr x => hashStr w x
theorem keyIs_shape : ∀ {k : Key} {v : Value}, keyIs k v = true → (∃ i t, k = Sum.inl i ∧ v = Value.int i t) ∨ (∃ x t, k = Sum.inr x ∧ v = Value.str x t)
  | .inl i, v, h => by
    obtain ⟨t, e⟩ := Value.isInt_shape (k := i) (v := v) h
    exact .inl ⟨i, t, rfl, e⟩
  | .inr x, v, h => by
    obtain ⟨t, e⟩ := Value.isStrOf_shape (x := x) (v := v) h
    exact .inr ⟨x, t, rfl, e⟩
theorem key_ll (a b : Int) : decide ((Sum.inl a : Key) = Sum.inl b) = (a == b) := by
  by_cases e : a = b
  · subst e; simp
  · have h : ¬ (Sum.inl a : Key) = Sum.inl b := fun q => e (Sum.inl.inj q)
    rw [decide_eq_false h]
    exact (beq_eq_false_iff_ne.mpr e).symm
theorem key_rr (a b : Str) : decide ((Sum.inr a : Key) = Sum.inr b) = decide (a = b) := by
  by_cases e : a = b
  · subst e; simp
  · have h : ¬ (Sum.inr a : Key) = Sum.inr b := fun q => e (Sum.inr.inj q)
    rw [decide_eq_false h, decide_eq_false e]
theorem key_lr (a : Int) (b : Str) : decide ((Sum.inl a : Key) = Sum.inr b) = false := decide_eq_false (fun q => nomatch q)
theorem key_rl (a : Str) (b : Int) : decide ((Sum.inr a : Key) = Sum.inl b) = false := decide_eq_false (fun q => nomatch q)

def mixKind (prog : Program) (w : World) : PySem.KeyKind prog w Key where
  is := keyIs
  hash := keyH w
  inj := fun v a b ha hb => by
    rcases keyIs_shape ha with ⟨i, t, rfl, rfl⟩ | ⟨x, t, rfl, rfl⟩
    · rcases keyIs_shape hb with ⟨j, u, rfl, e⟩ | ⟨y, u, rfl, e⟩
      · injection e with e1 _; rw [e1]
      · exact nomatch e
    · rcases keyIs_shape hb with ⟨j, u, rfl, e⟩ | ⟨y, u, rfl, e⟩
      · exact nomatch e
      · injection e with e1 _; rw [e1]
  byValue := fun k v h => by
    rcases keyIs_shape h with ⟨i, t, rfl, rfl⟩ | ⟨x, t, rfl, rfl⟩ <;> rfl
  pyHash := fun hv h => by
    rcases keyIs_shape hv with ⟨i, t, rfl, rfl⟩ | ⟨x, t, rfl, rfl⟩
    · exact wpAny_pyHash_int h
    · exact wpAny_pyHash_str h
  eqBool := fun hu hv h => by
    rcases keyIs_shape hu with ⟨i, t, rfl, rfl⟩ | ⟨x, t, rfl, rfl⟩
    · rcases keyIs_shape hv with ⟨j, u, rfl, rfl⟩ | ⟨y, u, rfl, rfl⟩
      · rw [key_ll] at h; exact wpAny_eqBool_int h
      · rw [key_lr] at h; exact SeqAt.EqAt.int_str i t y u _ _ _ _ h
    · rcases keyIs_shape hv with ⟨j, u, rfl, rfl⟩ | ⟨y, u, rfl, rfl⟩
      · rw [key_rl] at h; exact SeqAt.EqAt.str_int x t j u _ _ _ _ h
      · rw [key_rr] at h; exact wpAny_eqBool_str h
  «strs» := fun k x t v h => by
    rcases keyIs_shape h with ⟨i, u, rfl, e⟩ | ⟨y, u, rfl, e⟩
    · exact nomatch e
    · injection e with e1 _
      subst e1
      cases v <;> rfl

end L2

namespace L2
open PySem PySem.Spec PyProof.Rows

/-- a value, without the heap -/
inductive V where
  | non | bl (b : Bool) | int (i : Int) | str (x : Str) | byt (b : Array UInt8) | flt (b : UInt64) | ref (a : Addr) | ty (n : String)
  deriving DecidableEq

def RelV : V → Value → Prop
  | .non, u => u = Value.none
  | .bl b, u => u = Value.bool b
  | .int i, u => ∃ t, u = Value.int i t
  | .str x, u => ∃ t, u = Value.str x t
  | .byt b, u => ∃ t, u = Value.bytes b t
  | .flt b, u => ∃ t, u = Value.float b t
  | .ref a, u => u = Value.ref a
  | .ty n, u => u = Value.type n

abbrev Vals : List V → List Value → Prop := Paired RelV
theorem Vals.length {xs : List V} {us : List Value} (r : Vals xs us) : xs.length = us.length := Paired.length r
theorem Vals.get : ∀ {xs : List V} {us : List Value} {i : Nat} {x : V}, Vals xs us → xs[i]? = some x → ∃ u, us[i]? = some u ∧ RelV x u
  | _, _, _, _, .nil, e => by simp at e
  | _, _, 0, _, .cons r _, e => by simp at e; subst e; exact ⟨_, rfl, r⟩
  | _, _, i + 1, x, .cons _ t, e => by
    obtain ⟨u, h1, h2⟩ := Vals.get (i := i) (x := x) t (by simpa using e)
    exact ⟨u, by simpa using h1, h2⟩
theorem Vals.set {x : V} {u : Value} (r : RelV x u) : ∀ {xs : List V} {us : List Value} (i : Nat), Vals xs us → Vals (xs.set i x) (us.set i u)
  | _, _, _, .nil => .nil
  | _, _, 0, .cons _ t => .cons r t
  | _, _, i + 1, .cons q t => .cons q (Vals.set r i t)
theorem Vals.append : ∀ {xs ys : List V} {us ws : List Value}, Vals xs us → Vals ys ws → Vals (xs ++ ys) (us ++ ws)
  | _, _, _, _, .nil, s => s
  | _, _, _, _, .cons r t, s => .cons r (Vals.append t s)
theorem Vals.take : ∀ {xs : List V} {us : List Value} (n : Nat), Vals xs us → Vals (xs.take n) (us.take n)
  | _, _, 0, _ => .nil
  | _, _, _ + 1, .nil => .nil
  | _, _, n + 1, .cons r t => .cons r (Vals.take n t)
theorem Vals.drop : ∀ {xs : List V} {us : List Value} (n : Nat), Vals xs us → Vals (xs.drop n) (us.drop n)
  | _, _, 0, r => r
  | _, _, _ + 1, .nil => .nil
  | _, _, n + 1, .cons _ t => Vals.drop n t
def RelO : Option V → Option Value → Prop
  | some v, some u => RelV v u
  | none, none => True
  | _, _ => False
def KV {κ : Type} : List (κ × V) → List (κ × Value) → Prop := Paired fun (p : κ × V) (q : κ × Value) => p.1 = q.1 ∧ RelV p.2 q.2

/-- a key of a dict (00_mix): an int or a text -/
def kV : Key → V
  | .inl i => .int i
  | .inr x => .str x

/-- what stands at a tracked address -/
inductive HO where
  /-- a list -/
  | lst (xs : List V)
  /-- a tuple (never changes) -/
  | tup (xs : List V)
  /-- a dict whose keys are ints and texts; one whose keys are tuples of ints and texts (the empty one is both) -/
  | dK (kvs : List (Key × V)) | dT (kvs : List (List Key × V))
  /-- a set of ints: its members, its size -/
  | set (S : Int → Bool) (n : Nat)
  /-- an instance of the class at C, its dict at dx, its attributes -/
  | ins (C dx : Addr) (fs : List (Str × V))
  /-- the dict of the instance at x -/
  | own (x : Addr)
  /-- the dict of an exception -/
  | xd (fs : List (Str × V))
  /-- a bound method, f of x -/
  | met (f x : Addr)
  /-- a range object lo, lo + 1, .. below hi -/
  | rng (lo hi : Int)
  /-- a thing that is known to the object (the script; a dict while a loop walks it): read, never written while it is so -/
  | frz (o : Obj) (u : HO)
  /-- a code object's table -/
  | tbl (ps : Array Value)
  /-- any other thing, by what is true of its one object (a def of one's own: SetO a S n := HO.ext fun h => ..) -/
  | ext (φ : Heap → Prop)

abbrev Hp := Addr → Option HO
def upd (H : Hp) (a : Addr) (o : HO) : Hp := fun b => if b = a then some o else H b
theorem upd_same {H : Hp} {a : Addr} {o : HO} : upd H a o a = some o := by unfold upd; rw [if_pos rfl]
theorem upd_ne {H : Hp} {a b : Addr} {o : HO} (h : b ≠ a) : upd H a o b = H b := by unfold upd; rw [if_neg h]
theorem ne_of_none {H : Hp} {a b : Addr} {o : HO} (h : H a = some o) (h' : H b = none) : a ≠ b := by
  intro e; subst e; rw [h] at h'; cases h'

section
variable (P : Program) (w : World)
def ObjOk (H : Hp) (h : Heap) (a : Addr) : HO → Prop
  | .lst xs => xs.length ≤ sizeLine ∧ ∃ (its : List Value) (n : Nat), Vals xs its ∧ h.get? a = some { cls := .type "list", data := .seq its.toArray n }
  | .tup xs => xs.length ≤ sizeLine ∧ ∃ its : List Value, Vals xs its ∧ IsTup h a its.toArray
  | .dK kvs => kvs.length ≤ sizeLine ∧ (a == sysModules) = false ∧ ∃ vs, KV kvs vs ∧ h.DictOf (mixKind P w) a vs
  | .dT kvs => kvs.length ≤ sizeLine ∧ (a == sysModules) = false ∧ ∃ xs : List (List Key × Addr × Value),
      Paired (fun (p : List Key × V) (q : List Key × Addr × Value) => p.1 = q.1 ∧ H q.2.1 = some (.tup (p.1.map kV)) ∧ RelV p.2 q.2.2) kvs xs ∧
      ∃ o es ep, h.get? a = some o ∧ o.ExactDict ∧ o.data = .dict es ep ∧ es.toList = xs.map (entryOfKey (tupleKind (mixKind P w))) ∧ (xs.map (·.1)).Nodup
  | .set S n => h.SetOf (intKind P w) a S n
  | .ins C dx fs => H dx = some (.own a) ∧ fs.length ≤ 1000 ∧ dx ≠ a ∧ h.get? a = some (PySem.W.instObj C dx) ∧
      ∃ mA, h.Ns1 dx mA ∧ (∀ f, RelO (fs.lookup f) (mA f)) ∧ PySem.Within mA (fs.map (·.1))
  | .own _ => ∃ o, h.get? a = some o
  | .xd fs => ∃ mA, h.Ns1 a mA ∧ ∀ f, RelO (fs.lookup f) (mA f)
  | .rng lo hi => ∃ t u v, h.get? a = some { cls := .type "range", data := .fields #[.int lo t, .int hi u, .int 1 v] }
  | .frz o u => h.get? a = some o ∧ ObjOk H h a u
  | .tbl ps => h.get? a = some { cls := .none, data := .fields ps }
  | .met f x => h.get? a = some (PySem.W.methodObj (.ref f) (.ref x))
  | .ext φ => φ h ∧ (∃ o, h.get? a = some o) ∧ ∀ h1 h2 : Heap, φ h1 → (∀ o, h1.get? a = some o → h2.get? a = some o) → φ h2
/-- the abstract heap is held -/
def HOk (H : Hp) (h : Heap) : Prop := ∀ a o, H a = some o → ObjOk P w H h a o
end

section
variable {P : Program} {w : World} {H H' : Hp} {h h' : Heap} {a : Addr} {o : HO}
theorem ObjOk.lt (x : ObjOk P w H h a o) : a < h.objs.size := by
  cases o with
  | lst xs => obtain ⟨_, _, _, _, e⟩ := x; exact Heap.lt_size e
  | tup xs => obtain ⟨_, _, _, p⟩ := x; exact p.lt
  | dK kvs => obtain ⟨_, _, _, _, o, _, _, e, _⟩ := x; exact Heap.lt_size e
  | dT kvs => obtain ⟨_, _, _, _, o, _, _, e, _⟩ := x; exact Heap.lt_size e
  | set S n => obtain ⟨o, _, _, _, e, _⟩ := x; exact Heap.lt_size e
  | ins C dx fs => obtain ⟨_, _, _, e, _⟩ := x; exact Heap.lt_size e
  | own y => obtain ⟨_, e⟩ := x; exact Heap.lt_size e
  | xd fs => obtain ⟨_, ⟨_, _, _, e, _⟩, _⟩ := x; exact Heap.lt_size e
  | rng lo hi => obtain ⟨_, _, _, e⟩ := x; exact Heap.lt_size e
  | frz ob u => obtain ⟨e, _⟩ := x; exact Heap.lt_size e
  | tbl ps => exact Heap.lt_size (show h.get? a = some _ from x)
  | met f y => exact Heap.lt_size (show h.get? a = some _ from x)
  | ext φ => obtain ⟨_, ⟨_, e⟩, _⟩ := x; exact Heap.lt_size e
theorem Paired.mapP {α β : Type} {F G : α → β → Prop} : ∀ {l₁ : List α} {l₂ : List β}, Paired F l₁ l₂ → (∀ a b, F a b → G a b) → Paired G l₁ l₂
  | _, _, .nil, _ => .nil
  | _, _, .cons r t, f => .cons (f _ _ r) (Paired.mapP t f)
/-- what an object's description leans on: its own object, its own dict, the tuples -/
theorem ObjOk.stay (x : ObjOk P w H h a o) (k : ∀ b u, (b = a ∨ H b = some (.own a)) → h.get? b = some u → h'.get? b = some u)
    (ho : ∀ b, H b = some (.own a) → H' b = some (.own a)) (ht : ∀ b xs, H b = some (.tup xs) → H' b = some (.tup xs)) : ObjOk P w H' h' a o := by
  induction o with
  | lst xs => obtain ⟨z, its, n, r, e⟩ := x; exact ⟨z, its, n, r, k _ _ (.inl rfl) e⟩
  | tup xs => obtain ⟨z, its, r, ob, e, c⟩ := x; exact ⟨z, its, r, ob, k _ _ (.inl rfl) e, c⟩
  | dK kvs => obtain ⟨z, y, vs, r, ob, es, ep, e, c⟩ := x; exact ⟨z, y, vs, r, ob, es, ep, k _ _ (.inl rfl) e, c⟩
  | dT kvs =>
    obtain ⟨z, y, xs, r, ob, es, ep, e, c⟩ := x
    exact ⟨z, y, xs, Paired.mapP r fun p q z => ⟨z.1, ht _ _ z.2.1, z.2.2⟩, ob, es, ep, k _ _ (.inl rfl) e, c⟩
  | set S n => obtain ⟨ob, es, ep, t, e, c⟩ := x; exact ⟨ob, es, ep, t, k _ _ (.inl rfl) e, c⟩
  | ins C dx fs =>
    obtain ⟨d, z, ne, e, mA, ⟨od, es, ep, e2, c⟩, r⟩ := x
    exact ⟨ho _ d, z, ne, k _ _ (.inl rfl) e, mA, ⟨od, es, ep, k _ _ (.inr d) e2, c⟩, r⟩
  | own y => obtain ⟨ob, e⟩ := x; exact ⟨ob, k _ _ (.inl rfl) e⟩
  | xd fs => obtain ⟨mA, ⟨od, es, ep, e, c⟩, r⟩ := x; exact ⟨mA, ⟨od, es, ep, k _ _ (.inl rfl) e, c⟩, r⟩
  | rng lo hi => obtain ⟨t, u, v, e⟩ := x; exact ⟨t, u, v, k _ _ (.inl rfl) e⟩
  | frz ob u ih => obtain ⟨e, q⟩ := x; exact ⟨k _ _ (.inl rfl) e, ih q⟩
  | tbl ps =>
    have e : h.get? a = some { cls := .none, data := .fields ps } := x
    show h'.get? a = some { cls := .none, data := .fields ps }
    exact k a _ (.inl rfl) e
  | met f y =>
    have e : h.get? a = some (PySem.W.methodObj (.ref f) (.ref y)) := x
    show h'.get? a = some (PySem.W.methodObj (.ref f) (.ref y))
    exact k a _ (.inl rfl) e
  | ext φ => obtain ⟨p, ⟨o, e⟩, st⟩ := x; exact ⟨st _ _ p fun o q => k _ _ (.inl rfl) q, ⟨o, k _ _ (.inl rfl) e⟩, st⟩
theorem HOk.lt (x : HOk P w H h) (e : H a = some o) : a < h.objs.size := (x a o e).lt
theorem HOk.fresh (x : HOk P w H h) (e : h.objs.size ≤ a) : H a = none := by
  cases q : H a with
  | none => rfl
  | some u => exact absurd (Nat.lt_of_lt_of_le (x.lt q) e) (Nat.lt_irrefl _)
/-- every object of the heap is kept -/
theorem HOk.kept (x : HOk P w H h) (k : ∀ b u, h.get? b = some u → h'.get? b = some u) : HOk P w H h' := fun a o e =>
  (x a o e).stay (fun b u _ q => k b u q) (fun _ q => q) fun _ _ q => q
/-- a new object is laid and tracked -/
theorem HOk.laid (x : HOk P w H h) (k : ∀ b u, h.get? b = some u → h'.get? b = some u) (hp : h.objs.size ≤ a) (new : ObjOk P w (upd H a o) h' a o) : HOk P w (upd H a o) h' := fun b u e => by
  have hn := x.fresh hp
  by_cases hb : b = a
  · subst hb; rw [upd_same] at e; cases e; exact new
  · rw [upd_ne hb] at e
    exact (x b u e).stay (fun c v _ q => k c v q) (fun c q => by rw [upd_ne (ne_of_none q hn)]; exact q) fun c xs q => by rw [upd_ne (ne_of_none q hn)]; exact q
end

/-- what may be read as u: it is u, or a known u -/
def Rd (H : Hp) (a : Addr) (u : HO) : Prop := H a = some u ∨ ∃ o, H a = some (.frz o u)
theorem Rd.of {H : Hp} {a : Addr} {u : HO} (h : H a = some u) : Rd H a u := .inl h
theorem Rd.ok {P : Program} {w : World} {H : Hp} {h : Heap} {a : Addr} {u : HO} (r : Rd H a u) (x : HOk P w H h) : ObjOk P w H h a u := by
  rcases r with r | ⟨o, r⟩
  · exact x a u r
  · obtain ⟨_, q⟩ := x a _ r
    exact q
/-- what may be written -/
def Mut : Option HO → Prop
  | some (.lst _) => True
  | some (.dK _) => True
  | some (.dT _) => True
  | some (.set _ _) => True
  | some (.ins _ _ _) => True
  | some (.ext _) => True
  | _ => False
section
variable {P : Program} {w : World} {H : Hp} {h h' : Heap} {x e : Addr} {o' : HO}
/-- the object at e is changed: x itself, or the dict of the instance x -/
theorem HOk.write (ok : HOk P w H h) (mu : Mut (H x)) (he : e = x ∨ H e = some (.own x)) (k : ∀ b u, b ≠ e → h.get? b = some u → h'.get? b = some u) (heo : ∃ u, h'.get? e = some u)
    (new : ObjOk P w (upd H x o') h' x o') : HOk P w (upd H x o') h' := fun b u q => by
  have nown : ∀ c y, H c = some (.own y) → c ≠ x := fun c y r z => by subst z; rw [r] at mu; exact mu
  have ntup : ∀ c xs, H c = some (.tup xs) → c ≠ x := fun c xs r z => by subst z; rw [r] at mu; exact mu
  by_cases hb : b = x
  · subst hb; rw [upd_same] at q; cases q; exact new
  · rw [upd_ne hb] at q
    by_cases hbe : b = e
    · have q' : H b = some (.own x) := by
        rcases he with z | z
        · exact absurd (hbe.trans z) hb
        · rw [hbe]; exact z
      rw [q] at q'; cases q'
      obtain ⟨v, hv⟩ := heo
      exact ⟨v, by rw [hbe]; exact hv⟩
    · refine (ok b u q).stay (fun c v hc r => k c v ?_ r) (fun c r => by rw [upd_ne (nown c b r)]; exact r) fun c xs r => by rw [upd_ne (ntup c xs r)]; exact r
      rcases hc with rfl | hc
      · exact hbe
      · rintro rfl
        rcases he with z | z
        · exact nown c b hc z
        · rw [hc] at z; cases z; exact hb rfl
end

/-! ### kept unless tracked; of the frames at fs (the callers') the slots may change (an exception that passes writes there); of the records at ex (iterators) nothing is said -/
structure Un (fs ex : List Addr) (H H' : Hp) (h h' : Heap) : Prop where
  keep : ∀ b o, h.get? b = some o → H b = none → b ∉ fs → b ∉ ex → h'.get? b = some o
  slot : ∀ b o, h.get? b = some o → H b = none → b ∈ fs → b ∉ ex → ∃ sl, h'.get? b = some { o with slots := sl }
  free : ∀ b o, h.get? b = some o → H b = none → b ∉ ex → H' b = none
  there : ∀ b o, h.get? b = some o → b ∉ ex → ∃ o', h'.get? b = some o'
  tups : ∀ b xs, H b = some (.tup xs) → H' b = some (.tup xs)
  frzs : ∀ b o u, H b = some (.frz o u) → H' b = some (.frz o u)
  tbls : ∀ b ps, H b = some (.tbl ps) → ∃ more, H' b = some (.tbl (ps ++ more))
section
variable {fs fs' ex ex' : List Addr} {H H1 H2 : Hp} {h h1 h2 h' : Heap} {a x e : Addr} {o : HO}
theorem Un.any (u : Un fs ex H H1 h h1) {b : Addr} {ob : Obj} (q : h.get? b = some ob) (n : H b = none) (hx : b ∉ ex) : ∃ sl, h1.get? b = some { ob with slots := sl } := by
  by_cases hb : b ∈ fs
  · exact u.slot b ob q n hb hx
  · exact ⟨ob.slots, u.keep b ob q n hb hx⟩
theorem Un.trans (a : Un fs ex H H1 h h1) (b : Un fs ex H1 H2 h1 h2) : Un fs ex H H2 h h2 where
  keep := fun c ob q n hc hx => b.keep c ob (a.keep c ob q n hc hx) (a.free c ob q n hx) hc hx
  slot := fun c ob q n hc hx => by
    obtain ⟨sl, e1⟩ := a.slot c ob q n hc hx
    obtain ⟨sl', e2⟩ := b.slot c _ e1 (a.free c ob q n hx) hc hx
    exact ⟨sl', e2⟩
  free := fun c ob q n hx => by
    obtain ⟨o', e1⟩ := a.there c ob q hx
    exact b.free c o' e1 (a.free c ob q n hx) hx
  there := fun c ob q hx => by
    obtain ⟨o', e1⟩ := a.there c ob q hx
    exact b.there c o' e1 hx
  tups := fun c xs q => b.tups c xs (a.tups c xs q)
  frzs := fun c ob xs q => b.frzs c ob xs (a.frzs c ob xs q)
  tbls := fun c ps q => by
    obtain ⟨m1, e1⟩ := a.tbls c ps q
    obtain ⟨m2, e2⟩ := b.tbls c _ e1
    exact ⟨m1 ++ m2, by rw [e2, Array.append_assoc]⟩
theorem Un.kept (k : ∀ b u, h.get? b = some u → h'.get? b = some u) : Un fs ex H H h h' :=
  ⟨fun b ob q _ _ _ => k b ob q, fun b ob q _ _ _ => ⟨ob.slots, k b ob q⟩, fun _ _ _ n _ => n, fun b ob q _ => ⟨ob, k b ob q⟩, fun _ _ q => q, fun _ _ _ q => q, fun _ ps q => ⟨#[], by rw [q]; simp⟩⟩
theorem Un.refl : Un fs ex H H h h := Un.kept fun _ _ q => q
theorem Un.laid (k : ∀ b u, h.get? b = some u → h'.get? b = some u) (hp : h.objs.size ≤ a) (hn : H a = none) : Un fs ex H (upd H a o) h h' where
  keep := fun b u q _ _ _ => k b u q
  slot := fun b u q _ _ _ => ⟨u.slots, k b u q⟩
  free := fun b u q n _ => by rw [upd_ne (Nat.ne_of_lt (Nat.lt_of_lt_of_le (Heap.lt_size q) hp))]; exact n
  there := fun b u q _ => ⟨u, k b u q⟩
  tups := fun b xs q => by rw [upd_ne (ne_of_none q hn)]; exact q
  frzs := fun b u xs q => by rw [upd_ne (ne_of_none q hn)]; exact q
  tbls := fun b ps q => ⟨#[], by rw [upd_ne (ne_of_none q hn), q]; simp⟩
theorem Un.write (mu : Mut (H x)) (he : e = x ∨ H e = some (.own x)) (k : ∀ b u, b ≠ e → h.get? b = some u → h'.get? b = some u) (heo : ∃ u, h'.get? e = some u) : Un fs ex H (upd H x o) h h' := by
  have hx : ∀ b, H b = none → b ≠ x := fun b n z => by subst z; rw [n] at mu; exact mu
  have hb : ∀ b, H b = none → b ≠ e := fun b n z => by
    subst z
    rcases he with r | r
    · exact hx b n r
    · rw [n] at r; cases r
  have hm : ∀ b u, H b = some u → ¬ Mut (some u) → b ≠ x := fun b u q nm z => by subst z; rw [q] at mu; exact nm mu
  refine ⟨fun b u q n _ _ => k b u (hb b n) q, fun b u q n _ _ => ⟨u.slots, k b u (hb b n) q⟩, fun b u q n _ => by rw [upd_ne (hx b n)]; exact n, fun b u q _ => ?_,
    fun b xs q => by rw [upd_ne (hm b _ q fun z => z)]; exact q, fun b u xs q => by rw [upd_ne (hm b _ q fun z => z)]; exact q, fun b ps q => ⟨#[], by rw [upd_ne (hm b _ q fun z => z), q]; simp⟩⟩
  by_cases hbe : b = e
  · subst hbe; exact heo
  · exact ⟨u, k b u hbe q⟩
theorem Un.mono (u : Un fs ex H H1 h h1) (hs : ∀ b ∈ fs, b ∈ fs') (hx : ∀ b ∈ ex, b ∈ ex') : Un fs' ex' H H1 h h1 :=
  ⟨fun b ob q n hb he => u.keep b ob q n (fun z => hb (hs b z)) fun z => he (hx b z), fun _ _ q n _ he => u.any q n fun z => he (hx _ z), fun b ob q n he => u.free b ob q n fun z => he (hx b z), fun b ob q he => u.there b ob q fun z => he (hx b z), u.tups, u.frzs, u.tbls⟩
end

/-! ### the heap without what is tracked -/
def trk (h : Heap) (H : Hp) : List Addr := (List.range h.objs.size).filter fun a => (H a).isSome
def hidT (h : Heap) (H : Hp) : Heap := PySem.W.hideAll h (trk h H)
theorem hidT_size (h : Heap) (H : Hp) : (hidT h H).objs.size = h.objs.size := PySem.W.hideAll_size _ _
theorem hidT_get {h : Heap} {H : Hp} {b : Addr} {o : Obj} (e : h.get? b = some o) (n : H b = none) : (hidT h H).get? b = some o :=
  PySem.W.hideAll_get _ e fun hm => by
    have q : (H b).isSome = true := (List.mem_filter.mp hm).2
    rw [n] at q; simp at q
theorem of_hidT {h : Heap} {H : Hp} {b : Addr} {o : Obj} (e : (hidT h H).get? b = some o) : h.get? b = some o ∧ H b = none := by
  have e' : h.get? b = some o := PySem.W.of_hideAll (trk h H) e
  refine ⟨e', ?_⟩
  cases q : H b with
  | none => rfl
  | some x =>
    have hm : b ∈ trk h H := List.mem_filter.mpr ⟨List.mem_range.mpr (Heap.lt_size e'), by simp [q]⟩
    have z : (hidT h H).get? b = none := PySem.W.hideAll_none (trk h H) hm
    rw [z] at e; cases e

/-! ### OpenK's ledger, filled with every new object but one -/
def allNews (g h : Heap) (L : Addr) : List (Addr × Obj) := (List.range h.objs.size).filterMap fun a => if a = L ∨ (g.get? a).isSome = true then none else (h.get? a).map fun o => (a, o)
def rest (g h : Heap) (L d : Addr) : List (Addr × Obj) := (allNews g h L).filter fun p => decide (p.1 ≠ d)
end L2

namespace L2
open PySem PySem.Spec PyProof.Rows

/-- the module's facts, over the base: the heap at the law's entry without what is tracked there -/
structure Mod (K : PySem.W.Frag) (mg : Str → Option Value) (base : Heap) : Prop where
  kin : K.In base
  glob : base.Ns mainGlobals mg
  blt : ∃ mb, base.Ns builtinsNs mb ∧ ∀ x : Str, x ≠ "__name__" → mb x = bootBuiltins x
  nolimit : base.NoLimit

/-- the context: a def's body (or a comprehension's block) running. base: fixed through the whole law; s₀, H₀: the entry; outer: the frames whose slots others may change (a def's callers); stack: all frames that run;
   ex: iterators that were made ahead of the entry and are walked here (a comprehension's); fn: the names whose cells were made at the entry (a def: all; a comprehension's block: its own); calm: not within an except suite; pn: pins that every state bears; xe: what is wanted of an exception that leaves the code -/
structure Cx where
  prog : Program
  w : World
  K : PySem.W.Frag
  mg : Str → Option Value
  base : Heap
  A : Around
  N : List Str
  s₀ : Shared
  H₀ : Hp
  env : Env
  outer : List Env
  stack : List Env
  ex : List Addr
  fn : Str → Bool
  calm : Bool
  pn : List (Addr × Obj)
  xe : Value → Shared → Prop
/-- the callers' frames -/
def frs (l : List Env) : List Addr := l.filterMap (·.frame)
abbrev Cx.fs (X : Cx) : List Addr := frs X.outer

def Vis (sc : Scope) (x : Str) : Prop := sc.names.lookup x = some .local ∨ sc.names.lookup x = some .cell ∨ sc.names.lookup x = some .free
def Loc (sc : Scope) (x : Str) : Prop := sc.names.lookup x = some .local ∨ sc.names.lookup x = some .cell
def Look (env : Env) (h : Heap) (m : Str → Option Value) (x : Str) (u : Value) : Prop :=
  (env.kindOf x = some .local ∧ m x = some u) ∨ ((env.kindOf x = some .cell ∨ env.kindOf x = some .free) ∧ ∃ c, env.cells.lookup x = some c ∧ h.IsCell c (some u))

structure Cx.Ok (X : Cx) : Prop where
  mod : Mod X.K X.mg X.base
  kind : X.env.scope.kind = .function
  glob : X.env.globals = mainGlobals
  blt : X.env.builtins = builtinsNs
  above : X.s₀.heap.objs.size ≤ X.env.locals
  inj : ∀ x y c, X.env.cells.lookup x = some c → X.env.cells.lookup y = some c → x = y
  has : ∀ x, (X.env.kindOf x = some .cell ∨ X.env.kindOf x = some .free) → ∃ c, X.env.cells.lookup x = some c
  cab : ∀ x c, X.fn x = true → X.env.cells.lookup x = some c → X.s₀.heap.objs.size ≤ c
  hd : X.calm = true → X.A.handled = none
  frames : X.A.frames = some X.stack
  stk : X.stack = X.outer ∨ (X.stack = X.env :: X.outer ∧ X.env.frame = some X.env.locals)
  exf : ∀ b ∈ X.ex, b ≠ X.env.locals ∧ ∀ x c, X.env.cells.lookup x = some c → c ≠ b
  bs : ∀ b o, X.base.get? b = some o → X.s₀.heap.get? b = some o ∧ X.H₀ b = none
  bsz : X.base.objs.size ≤ X.s₀.heap.objs.size
  noex : ∀ b o, X.base.get? b = some o → b ∉ X.ex
  exfs : ∀ b ∈ X.ex, b ∉ X.fs
  funs : X.s₀.heap.FunFrames X.base X.outer
  frf : ∀ b ∈ X.fs, X.H₀ b = none

structure Inv (X : Cx) (pins : List (Addr × Obj)) (σ : List (Option V)) (H : Hp) (s : Shared) : Prop where
  ok : X.Ok
  os : s.os = X.s₀.os
  bare : AllBare s.gens
  base : Un X.fs X.ex X.H₀ H X.s₀.heap s.heap
  loc : ∃ m, s.heap.Ns X.env.locals m ∧ ∀ (i : Nat) (x : Str) (v : V), X.N[i]? = some x → σ[i]? = some (some v) → Vis X.env.scope x → ∃ u, RelV v u ∧ Look X.env s.heap m x u
  cell : ∀ x c, X.env.cells.lookup x = some c → ∃ v, s.heap.IsCell c v
  free : H X.env.locals = none
  freeC : ∀ x c, X.env.cells.lookup x = some c → H c = none
  pin : ∀ p ∈ X.pn ++ pins, s.heap.get? p.1 = some p.2 ∧ H p.1 = none ∧ p.1 ≠ X.env.locals ∧ p.1 ∉ X.fs ∧ ∀ v, p.2.data ≠ .cell v
  hok : HOk X.prog X.w H s.heap
  len : σ.length = X.N.length

section
variable {X : Cx} {pins : List (Addr × Obj)} {σ : List (Option V)} {H H' : Hp} {s : Shared} {h' : Heap}

theorem Cx.Ok.nofr (ok : X.Ok) {b : Addr} {o : Obj} (e : X.base.get? b = some o) : b ∉ X.fs := fun hb => by
  have := (ok.funs.mem hb).1
  rw [e] at this; cases this
theorem Inv.bs (I : Inv X pins σ H s) : ∀ b o, X.base.get? b = some o → s.heap.get? b = some o ∧ H b = none := fun b o e =>
  ⟨I.base.keep b o (I.ok.bs b o e).1 (I.ok.bs b o e).2 (I.ok.nofr e) (I.ok.noex b o e), I.base.free b o (I.ok.bs b o e).1 (I.ok.bs b o e).2 (I.ok.noex b o e)⟩
theorem Inv.bk (I : Inv X pins σ H s) : ∀ b o, X.base.get? b = some o → s.heap.get? b = some o := fun b o e => (I.bs b o e).1
theorem Inv.mod (I : Inv X pins σ H s) : Mod X.K X.mg X.base := I.ok.mod
theorem Inv.kIn (I : Inv X pins σ H s) : X.K.In s.heap := I.ok.mod.kin.keeps I.bk
theorem Inv.nolimit (I : Inv X pins σ H s) : s.heap.NoLimit := I.ok.mod.nolimit.keeps I.bk
/-- the frame over the base: for OpenK's rules (K.In X.base is I.mod.kin) -/
theorem Inv.fr (I : Inv X pins σ H s) : ∃ m, Fr X.base X.env.locals s.heap m :=
  let ⟨m, hn, _⟩ := I.loc
  ⟨m, hn, I.bk, Nat.le_trans I.ok.bsz I.ok.above⟩
theorem Inv.lt (I : Inv X pins σ H s) : X.env.locals < s.heap.objs.size := let ⟨_, hn, _⟩ := I.loc; hn.lt
theorem Inv.sz (I : Inv X pins σ H s) : X.s₀.heap.objs.size ≤ s.heap.objs.size := Nat.le_trans I.ok.above (Nat.le_of_lt I.lt)
theorem Inv.nofs (I : Inv X pins σ H s) {a : Addr} (h : s.heap.objs.size ≤ a) : a ∉ X.fs := fun hb => by
  obtain ⟨_, o, ho, _⟩ := I.ok.funs.mem hb
  exact absurd (Nat.lt_of_lt_of_le (Heap.lt_size ho) (Nat.le_trans I.sz h)) (Nat.lt_irrefl _)
theorem Inv.cne (I : Inv X pins σ H s) : ∀ x c, X.env.cells.lookup x = some c → c ≠ X.env.locals := fun x c e z => by
  obtain ⟨v, o, ho, hd⟩ := I.cell x c e
  obtain ⟨m, ⟨o', es, ep, ho', hd', _⟩, _⟩ := I.loc
  rw [z, ho'] at ho; cases ho; rw [hd'] at hd; cases hd
theorem Inv.funs (I : Inv X pins σ H s) : s.heap.FunFrames X.base X.outer := by
  have all : ∀ (l : List Env), (∀ b ∈ frs l, b ∈ X.fs) → X.s₀.heap.FunFrames X.base l → s.heap.FunFrames X.base l := by
    intro l
    induction l with
    | nil => intro _ _; trivial
    | cons env r ih =>
      intro hs hl
      obtain ⟨hk, ⟨L, o, hf, hn, ho, hd⟩, hr⟩ := hl
      have hL : L ∈ X.fs := hs L (by unfold frs; rw [List.filterMap_cons, hf]; exact List.mem_cons_self)
      obtain ⟨sl, e⟩ := I.base.slot L o ho (I.ok.frf L hL) hL fun z => I.ok.exfs L z hL
      exact ⟨hk, ⟨L, _, hf, hn, e, hd⟩, ih (fun b hb => hs b (by unfold frs; rw [List.filterMap_cons, hf]; exact List.mem_cons_of_mem _ hb)) hr⟩
  exact all X.outer (fun _ hb => hb) I.ok.funs

/-- the frames that run, for a call -/
theorem Inv.stack (I : Inv X pins σ H s) : s.heap.FunFrames X.base X.stack := by
  rcases I.ok.stk with e | ⟨e, hf⟩
  · rw [e]; exact I.funs
  · rw [e]
    obtain ⟨m, hn, _⟩ := I.loc
    refine .cons (by rw [I.ok.kind]; decide) hf hn ?_ I.funs
    exact Heap.get?_none_of_le (Nat.le_trans I.ok.bsz I.ok.above)
theorem Inv.stkSub (I : Inv X pins σ H s) : ∀ b ∈ frs X.stack, b ∈ X.env.locals :: X.fs := fun b hb => by
  rcases I.ok.stk with e | ⟨e, hf⟩
  · rw [e] at hb; exact List.mem_cons_of_mem _ hb
  · rw [e] at hb
    unfold frs at hb
    rw [List.filterMap_cons, hf] at hb
    exact hb
theorem Inv.stkFree (I : Inv X pins σ H s) : ∀ b ∈ frs X.stack, H b = none := fun b hb => by
  rcases List.mem_cons.mp (I.stkSub b hb) with e | hb
  · rw [e]; exact I.free
  · obtain ⟨_, o, ho, _⟩ := I.ok.funs.mem hb
    exact I.base.free b o ho (I.ok.frf b hb) fun z => I.ok.exfs b z hb

/-- THE STEP: the untracked objects but the frame and the records at ch are kept (the callers' frames up to slots), the frame's map is kept, the new abstract heap is held -/
theorem Inv.step {g' : Array GenState} {t' : Nat} {d' : Drawn} {ch : List Addr} (I : Inv X pins σ H s)
    (hch : ∀ b ∈ ch, (b ∈ X.ex ∨ X.s₀.heap.objs.size ≤ b) ∧ b ≠ X.env.locals ∧ (∀ x c, X.env.cells.lookup x = some c → c ≠ b) ∧ ∀ p ∈ X.pn ++ pins, p.1 ≠ b)
    (keep : ∀ b o, b ≠ X.env.locals → b ∉ X.fs → b ∉ ch → s.heap.get? b = some o → H b = none → h'.get? b = some o)
    (slot : ∀ b o, b ≠ X.env.locals → b ∈ X.fs → b ∉ ch → s.heap.get? b = some o → H b = none → ∃ sl, h'.get? b = some { o with slots := sl }) (free : ∀ b o, b ∉ ch → s.heap.get? b = some o → H b = none → H' b = none)
    (there : ∀ b o, b ∉ ch → s.heap.get? b = some o → ∃ o', h'.get? b = some o')
    (tups : ∀ b xs, H b = some (.tup xs) → H' b = some (.tup xs)) (frzs : ∀ b o u, H b = some (.frz o u) → H' b = some (.frz o u)) (tbls : ∀ b ps, H b = some (.tbl ps) → ∃ more, H' b = some (.tbl (ps ++ more)))
    (ns : ∀ m, s.heap.Ns X.env.locals m → h'.Ns X.env.locals m) (hok : HOk X.prog X.w H' h') (hg : AllBare g') :
    Inv X pins σ H' { s with heap := h', gens := g', drawn := d', toks := t' } := by
  have neL : ∀ b o, X.s₀.heap.get? b = some o → b ≠ X.env.locals := fun b o e => Nat.ne_of_lt (Nat.lt_of_lt_of_le (Heap.lt_size e) I.ok.above)
  have neC : ∀ b o, X.s₀.heap.get? b = some o → b ∉ X.ex → b ∉ ch := fun b o e hx hb => by
    rcases (hch b hb).1 with z | z
    · exact hx z
    · exact absurd (Nat.lt_of_lt_of_le (Heap.lt_size e) z) (Nat.lt_irrefl _)
  have cellK : ∀ x c, X.env.cells.lookup x = some c → ∀ v, s.heap.IsCell c v → h'.IsCell c v := fun x c e v ⟨o, ho, hd⟩ => by
    have nch : c ∉ ch := fun z => (hch c z).2.2.1 x c e rfl
    by_cases hc : c ∈ X.fs
    · obtain ⟨sl, q⟩ := slot c o (I.cne x c e) hc nch ho (I.freeC x c e)
      exact ⟨_, q, hd⟩
    · exact ⟨o, keep c o (I.cne x c e) hc nch ho (I.freeC x c e), hd⟩
  refine ⟨I.ok, I.os, hg, ⟨fun b o e n hb hx => ?_, fun b o e n hb hx => ?_, fun b o e n hx => ?_, fun b o e hx => ?_, fun b xs e => tups b xs (I.base.tups b xs e), fun b o xs e => frzs b o xs (I.base.frzs b o xs e), fun b ps e => ?_⟩, ?_, fun x c e => ?_, ?_, fun x c e => ?_, fun p hp => ?_, hok, I.len⟩
  · exact keep b o (neL b o e) hb (neC b o e hx) (I.base.keep b o e n hb hx) (I.base.free b o e n hx)
  · obtain ⟨sl, e1⟩ := I.base.slot b o e n hb hx
    obtain ⟨sl', e2⟩ := slot b _ (neL b o e) hb (neC b o e hx) e1 (I.base.free b o e n hx)
    exact ⟨sl', e2⟩
  · obtain ⟨o', e1⟩ := I.base.there b o e hx
    exact free b o' (neC b o e hx) e1 (I.base.free b o e n hx)
  · obtain ⟨o', e1⟩ := I.base.there b o e hx
    exact there b o' (neC b o e hx) e1
  · obtain ⟨m1, e1⟩ := I.base.tbls b ps e
    obtain ⟨m2, e2⟩ := tbls b _ e1
    exact ⟨m1 ++ m2, by rw [e2, Array.append_assoc]⟩
  · obtain ⟨m, hn, hl⟩ := I.loc
    refine ⟨m, ns m hn, fun i x v e1 e2 e3 => ?_⟩
    obtain ⟨u, r, l⟩ := hl i x v e1 e2 e3
    refine ⟨u, r, ?_⟩
    rcases l with l | ⟨k, c, e, z⟩
    · exact .inl l
    · exact .inr ⟨k, c, e, cellK x c e _ z⟩
  · obtain ⟨v, z⟩ := I.cell x c e
    exact ⟨v, cellK x c e v z⟩
  · obtain ⟨m, ⟨o, _, _, ho, _⟩, _⟩ := I.loc
    exact free _ o (fun z => (hch _ z).2.1 rfl) ho I.free
  · obtain ⟨v, o, ho, hd⟩ := I.cell x c e
    exact free c o (fun z => (hch c z).2.2.1 x c e rfl) ho (I.freeC x c e)
  · obtain ⟨e, n, ne, nf, d⟩ := I.pin p hp
    have nch : p.1 ∉ ch := fun z => (hch p.1 z).2.2.2 p hp rfl
    exact ⟨keep p.1 p.2 ne nf nch e n, free p.1 p.2 nch e n, ne, nf, d⟩
/-- .. where the frame's own object is kept too -/
theorem Inv.un {t' : Nat} (I : Inv X pins σ H s) (u : Un X.fs [] H H' s.heap h') (hok : HOk X.prog X.w H' h') : Inv X pins σ H' { s with heap := h', toks := t' } := by
  obtain ⟨m, ⟨o, es, ep, ho, r⟩, _⟩ := id I.loc
  obtain ⟨sl, hL⟩ := u.any ho I.free (by simp)
  exact I.step (g' := s.gens) (d' := s.drawn) (ch := []) (fun _ z => nomatch z) (fun b o _ hb _ e n => u.keep b o e n hb (by simp)) (fun b o _ hb _ e n => u.slot b o e n hb (by simp)) (fun b o _ e n => u.free b o e n (by simp)) (fun b o _ e => u.there b o e (by simp)) u.tups u.frzs u.tbls (fun m' hm => by
    obtain ⟨o', es', ep', ho', r'⟩ := hm
    rw [ho] at ho'; cases ho'
    exact ⟨_, es', ep', hL, r'⟩) hok I.bare
/-- behind a call (or a comprehension's block): the slots of this frame may have changed too, the records at ch may have turned -/
theorem Inv.call {g' : Array GenState} {t' : Nat} {d' : Drawn} {ch : List Addr} (I : Inv X pins σ H s) (u : Un (frs X.stack) ch H H' s.heap h') (hok : HOk X.prog X.w H' h') (hg : AllBare g')
    (hch : ∀ b ∈ ch, (b ∈ X.ex ∨ X.s₀.heap.objs.size ≤ b) ∧ b ≠ X.env.locals ∧ (∀ x c, X.env.cells.lookup x = some c → c ≠ b) ∧ ∀ p ∈ X.pn ++ pins, p.1 ≠ b) :
    Inv X pins σ H' { s with heap := h', gens := g', drawn := d', toks := t' } := by
  obtain ⟨m, ⟨o, es, ep, ho, r⟩, _⟩ := id I.loc
  obtain ⟨sl, hL⟩ := u.any ho I.free fun z => (hch _ z).2.1 rfl
  exact I.step (ch := ch) hch (fun b o hL hb hc e n => u.keep b o e n (fun z => (List.mem_cons.mp (I.stkSub b z)).elim hL hb) hc) (fun b o _ _ hc e n => u.any e n hc) (fun b o hc e n => u.free b o e n hc) (fun b o hc e => u.there b o e hc) u.tups u.frzs u.tbls (fun m' hm => by
    obtain ⟨o', es', ep', ho', r'⟩ := hm
    rw [ho] at ho'; cases ho'
    exact ⟨_, es', ep', hL, r'⟩) hok hg
/-- an untracked record of ours (an iterator) has turned -/
theorem Inv.turned {t' : Nat} {it : Addr} (I : Inv X pins σ H s) (k : ∀ b o, b ≠ it → s.heap.get? b = some o → h'.get? b = some o) (hn : H it = none) (hL : it ≠ X.env.locals)
    (h1 : it ∈ X.ex ∨ X.s₀.heap.objs.size ≤ it) (h2 : ∀ x c, X.env.cells.lookup x = some c → c ≠ it) (h3 : ∀ p ∈ X.pn ++ pins, p.1 ≠ it) : Inv X pins σ H { s with heap := h', toks := t' } := by
  have nit : ∀ b u, H b = some u → b ≠ it := fun b u e z => by rw [z, hn] at e; cases e
  refine I.step (g' := s.gens) (d' := s.drawn) (ch := [it]) (fun b hb => ?_) (fun b o _ _ hc e _ => k b o (fun z => hc (by simp [z])) e) (fun b o _ _ hc e _ => ⟨o.slots, k b o (fun z => hc (by simp [z])) e⟩) (fun _ _ _ _ n => n)
    (fun b o hc e => ⟨o, k b o (fun z => hc (by simp [z])) e⟩) (fun _ _ e => e) (fun _ _ _ e => e) (fun b ps e => ⟨#[], by rw [e]; simp⟩) (fun m hm => ?_) (fun b u e => ?_) I.bare
  · have e : b = it := by simpa using hb
    subst e
    exact ⟨h1, hL, h2, h3⟩
  · obtain ⟨o, es, ep, ho, r⟩ := hm
    exact ⟨o, es, ep, k _ o (Ne.symm hL) ho, r⟩
  · refine (I.hok b u e).stay (fun c v hc q => k c v ?_ q) (fun _ q => q) fun _ _ q => q
    rcases hc with z | z
    · rw [z]; exact nit b u e
    · exact nit c _ z
theorem Inv.tok (I : Inv X pins σ H s) (t : Nat) : Inv X pins σ H { s with toks := t } := I.un (h' := s.heap) (t' := t) Un.refl I.hok
/-- all objects kept -/
theorem Inv.kept {t' : Nat} (I : Inv X pins σ H s) (k : ∀ b u, s.heap.get? b = some u → h'.get? b = some u) : Inv X pins σ H { s with heap := h', toks := t' } := I.un (Un.kept k) (I.hok.kept k)
/-- a new object laid and tracked -/
theorem Inv.laid {a : Addr} {o : HO} {t' : Nat} (I : Inv X pins σ H s) (k : ∀ b u, s.heap.get? b = some u → h'.get? b = some u) (hp : s.heap.objs.size ≤ a) (new : ObjOk X.prog X.w (upd H a o) h' a o) :
    Inv X pins σ (upd H a o) { s with heap := h', toks := t' } := I.un (Un.laid k hp (I.hok.fresh hp)) (I.hok.laid k hp new)
/-- an object written -/
theorem Inv.write {x e : Addr} {o : HO} {t' : Nat} (I : Inv X pins σ H s) (mu : Mut (H x)) (he : e = x ∨ H e = some (.own x)) (k : ∀ b u, b ≠ e → s.heap.get? b = some u → h'.get? b = some u) (heo : ∃ u, h'.get? e = some u)
    (new : ObjOk X.prog X.w (upd H x o) h' x o) : Inv X pins σ (upd H x o) { s with heap := h', toks := t' } := I.un (Un.write mu he k heo) (I.hok.write mu he k heo new)
/-- forgetting slots, pins -/
theorem Inv.weak {σ' : List (Option V)} (I : Inv X pins σ H s) (hl : σ'.length = σ.length) (w : ∀ (i : Nat) v, σ'[i]? = some (some v) → σ[i]? = some (some v)) : Inv X pins σ' H s :=
  ⟨I.ok, I.os, I.bare, I.base, let ⟨m, hn, hl'⟩ := I.loc; ⟨m, hn, fun i x v e1 e2 e3 => hl' i x v e1 (w i v e2) e3⟩, I.cell, I.free, I.freeC, I.pin, I.hok, hl.trans I.len⟩
theorem Inv.pins_of {pins' : List (Addr × Obj)} (I : Inv X pins σ H s) (h : ∀ p ∈ pins', s.heap.get? p.1 = some p.2 ∧ H p.1 = none ∧ p.1 ≠ X.env.locals ∧ p.1 ∉ X.fs ∧ ∀ v, p.2.data ≠ .cell v) : Inv X pins' σ H s :=
  ⟨I.ok, I.os, I.bare, I.base, I.loc, I.cell, I.free, I.freeC, fun p hp => (List.mem_append.mp hp).elim (fun z => I.pin p (List.mem_append_left _ z)) (h p), I.hok, I.len⟩

theorem nodup_ix {N : List Str} (hN : N.Nodup) {i j : Nat} {x : Str} (a : N[i]? = some x) (b : N[j]? = some x) : i = j := by
  obtain ⟨h1, e1⟩ := List.getElem?_eq_some_iff.mp a
  obtain ⟨h2, e2⟩ := List.getElem?_eq_some_iff.mp b
  exact (List.getElem_inj hN).mp (e1.trans e2.symm)

/-- a name is stored; what changed -/
theorem store_ok2 {M : Model} {A : Around} {E : Value → Shared → Prop} {i : Nat} {x : Str} {v : V} {u : Value} {Q : Unit → Shared → Prop} (I : Inv X pins σ H s) (hN : X.N.Nodup) (hi : X.N[i]? = some x) (hx : Loc X.env.scope x) (r : RelV v u)
    (h : ∀ s', Inv X pins (σ.set i (some v)) H s' → (∃ a, Heap.SameBut a s.heap s'.heap ∧ (a = X.env.locals ∨ X.env.cells.lookup x = some a)) → Q () s') (hf : X.fn x = true ∨ X.env.scope.names.lookup x = some .local := by first | exact .inl rfl | exact .inr rfl | assumption) : wpAny M A (storeName X.env x u) Q E s := by
  obtain ⟨m, hn, hl⟩ := id I.loc
  have hcls : (X.env.scope.kind == .class || (X.env.scope.kind == .module && X.env.locals != X.env.globals)) = false := by rw [I.ok.kind]; rfl
  have hiσ : i < σ.length := by rw [I.len]; exact (List.getElem?_eq_some_iff.mp hi).1
  have cne := I.cne
  have tracked : ∀ {a : Addr} {h' : Heap}, (∃ o, s.heap.get? a = some o ∧ H a = none) → Heap.SameBut a s.heap h' → HOk X.prog X.w H h' := fun {a h'} ha hs b ob e => by
    obtain ⟨_, _, hfree⟩ := ha
    refine (I.hok b ob e).stay (fun c w' hc q => (hs.2 c ?_).trans q) (fun _ q => q) fun _ _ q => q
    rintro rfl
    rcases hc with rfl | hc
    · rw [hfree] at e; cases e
    · rw [hfree] at hc; cases hc
  rcases hx with hk | hk
  · refine wpAny_storeName_local hk hn (fun h' hn' hs => ?_) hcls
    obtain ⟨oL, _, _, hoL, _⟩ := id hn
    refine h _ ⟨I.ok, I.os, I.bare, ⟨fun b o e n hb hx => ?_, fun b o e n hb hx => ?_, I.base.free, fun b o e hx => ?_, I.base.tups, I.base.frzs, I.base.tbls⟩, ⟨_, hn', fun j y v' e1 e2 e3 => ?_⟩, fun y c e => ?_, I.free, I.freeC, fun p hp => ?_, tracked ⟨oL, hoL, I.free⟩ hs, by simpa using I.len⟩ ⟨_, hs, .inl rfl⟩
    · exact (hs.2 b (Nat.ne_of_lt (Nat.lt_of_lt_of_le (Heap.lt_size e) I.ok.above))).trans (I.base.keep b o e n hb hx)
    · obtain ⟨sl, e1⟩ := I.base.slot b o e n hb hx
      exact ⟨sl, (hs.2 b (Nat.ne_of_lt (Nat.lt_of_lt_of_le (Heap.lt_size e) I.ok.above))).trans e1⟩
    · obtain ⟨o', e1⟩ := I.base.there b o e hx
      exact ⟨o', (hs.2 b (Nat.ne_of_lt (Nat.lt_of_lt_of_le (Heap.lt_size e) I.ok.above))).trans e1⟩
    · by_cases hj : j = i
      · subst hj
        rw [hi] at e1; cases e1
        rw [List.getElem?_set_self hiσ] at e2
        cases e2
        exact ⟨u, r, .inl ⟨hk, by simp⟩⟩
      · rw [List.getElem?_set_ne (Ne.symm hj)] at e2
        obtain ⟨u', r', q⟩ := hl j y v' e1 e2 e3
        refine ⟨u', r', ?_⟩
        rcases q with ⟨k, e⟩ | ⟨k, c, e, z⟩
        · refine .inl ⟨k, ?_⟩
          have : y ≠ x := fun e => hj (nodup_ix hN e1 (e ▸ hi))
          simp [this, e]
        · exact .inr ⟨k, c, e, z.sameBut hs (cne y c e)⟩
    · obtain ⟨w', z⟩ := I.cell y c e
      exact ⟨w', z.sameBut hs (cne y c e)⟩
    · obtain ⟨e, n, ne, nf, d⟩ := I.pin p hp
      exact ⟨(hs.2 p.1 ne).trans e, n, ne, nf, d⟩
  · have hfn : X.fn x = true := by
      rcases hf with z | z
      · exact z
      · rw [z] at hk; cases hk
    obtain ⟨c, hc⟩ := I.ok.has x (.inl hk)
    obtain ⟨w', z⟩ := I.cell x c hc
    refine wpAny_storeName_cell I.ok.kind hk hc z (fun h' hc' hs => ?_)
    obtain ⟨oc, hoc, hocd⟩ := id z
    refine h { s with heap := h' } ⟨I.ok, I.os, I.bare, ⟨fun b o e n hb hx => ?_, fun b o e n hb hx => ?_, I.base.free, fun b o e hx => ?_, I.base.tups, I.base.frzs, I.base.tbls⟩, ⟨m, hn.sameBut hs (Ne.symm (cne x c hc)), fun j y v' e1 e2 e3 => ?_⟩, fun y c' e => ?_, I.free, I.freeC, fun p hp => ?_, tracked ⟨oc, hoc, I.freeC x c hc⟩ hs, by simpa using I.len⟩ ⟨c, hs, .inr hc⟩
    · exact (hs.2 b (Nat.ne_of_lt (Nat.lt_of_lt_of_le (Heap.lt_size e) (I.ok.cab x c hfn hc)))).trans (I.base.keep b o e n hb hx)
    · obtain ⟨sl, e1⟩ := I.base.slot b o e n hb hx
      exact ⟨sl, (hs.2 b (Nat.ne_of_lt (Nat.lt_of_lt_of_le (Heap.lt_size e) (I.ok.cab x c hfn hc)))).trans e1⟩
    · obtain ⟨o', e1⟩ := I.base.there b o e hx
      exact ⟨o', (hs.2 b (Nat.ne_of_lt (Nat.lt_of_lt_of_le (Heap.lt_size e) (I.ok.cab x c hfn hc)))).trans e1⟩
    · by_cases hj : j = i
      · subst hj
        rw [hi] at e1; cases e1
        rw [List.getElem?_set_self hiσ] at e2
        cases e2
        exact ⟨u, r, .inr ⟨.inl hk, c, hc, hc'⟩⟩
      · rw [List.getElem?_set_ne (Ne.symm hj)] at e2
        obtain ⟨u', r', q⟩ := hl j y v' e1 e2 e3
        refine ⟨u', r', ?_⟩
        rcases q with q | ⟨k, c', e, z'⟩
        · exact .inl q
        · refine .inr ⟨k, c', e, z'.sameBut hs ?_⟩
          rintro rfl
          exact hj (nodup_ix hN e1 (I.ok.inj _ _ _ e hc ▸ hi))
    · by_cases hcc : c' = c
      · subst hcc; exact ⟨_, hc'⟩
      · obtain ⟨w2, z2⟩ := I.cell y c' e
        exact ⟨w2, z2.sameBut hs hcc⟩
    · obtain ⟨e, n, ne, nf, d⟩ := I.pin p hp
      refine ⟨(hs.2 p.1 ?_).trans e, n, ne, nf, d⟩
      intro q
      rw [q, hoc] at e
      have q' : oc = p.2 := Option.some.inj e
      exact d w' (by rw [← q']; exact hocd)
theorem store_ok {M : Model} {A : Around} {E : Value → Shared → Prop} {i : Nat} {x : Str} {v : V} {u : Value} {Q : Unit → Shared → Prop} (I : Inv X pins σ H s) (hN : X.N.Nodup) (hi : X.N[i]? = some x) (hx : Loc X.env.scope x) (r : RelV v u)
    (h : ∀ s', Inv X pins (σ.set i (some v)) H s' → Q () s') (hf : X.fn x = true ∨ X.env.scope.names.lookup x = some .local := by first | exact .inl rfl | exact .inr rfl | assumption) : wpAny M A (storeName X.env x u) Q E s :=
  store_ok2 I hN hi hx r (fun s' I' _ => h s' I') hf
/-- behind a call or a block, the state as it is -/
theorem Inv.call' {s' : Shared} {ch : List Addr} (I : Inv X pins σ H s) (ho : s'.os = s.os) (u : Un (frs X.stack) ch H H' s.heap s'.heap) (hok : HOk X.prog X.w H' s'.heap) (hg : AllBare s'.gens)
    (hch : ∀ b ∈ ch, (b ∈ X.ex ∨ X.s₀.heap.objs.size ≤ b) ∧ b ≠ X.env.locals ∧ (∀ x c, X.env.cells.lookup x = some c → c ≠ b) ∧ ∀ p ∈ X.pn ++ pins, p.1 ≠ b) : Inv X pins σ H' s' := by
  obtain ⟨h', g', d', t', o'⟩ := s'
  have e : o' = s.os := ho
  subst e
  exact I.call (g' := g') (t' := t') (d' := d') u hok hg hch
end

/-! ### the judgements -/
/-- an exception: its class, its own dict's address (where it has one), the abstract heap behind it -/
abbrev XK := Value → Option Addr → Hp → Prop
abbrev St := List (Option V)
abbrev VK := V → Hp → Prop
/-- an expression's reading; a test's; an argument list's -/
abbrev TE := St → Hp → VK → Prop
abbrev TT := St → Hp → (Bool → Hp → Prop) → Prop
abbrev TA := St → Hp → (List V → Hp → Prop) → Prop
/-- what is wanted behind a statement -/
structure Ends where
  nx : St → Hp → Prop
  rt : VK
  bk : St → Hp → Prop := fun _ _ => False
  ct : St → Hp → Prop := fun _ _ => False
abbrev TS := Ends → St → Hp → Prop

def EP (X : Cx) (pins : List (Addr × Obj)) (σ : St) (Q : VK) (u : Value) (s' : Shared) : Prop := ∃ v H', Inv X pins σ H' s' ∧ RelV v u ∧ Q v H'
def TP (X : Cx) (pins : List (Addr × Obj)) (σ : St) (Q : Bool → Hp → Prop) (b : Bool) (s' : Shared) : Prop := ∃ H', Inv X pins σ H' s' ∧ Q b H'
def AP (X : Cx) (pins : List (Addr × Obj)) (σ : St) (Q : List V → Hp → Prop) (us : List Value) (s' : Shared) : Prop := ∃ vs H', Inv X pins σ H' s' ∧ Vals vs us ∧ Q vs H'
def SP (X : Cx) (pins : List (Addr × Obj)) (D : Ends) (f : Flow) (s' : Shared) : Prop :=
  match f with
  | .next => ∃ σ' H', Inv X pins σ' H' s' ∧ D.nx σ' H'
  | .brk => ∃ σ' H', Inv X pins σ' H' s' ∧ D.bk σ' H'
  | .cont => ∃ σ' H', Inv X pins σ' H' s' ∧ D.ct σ' H'
  | .ret u => ∃ v σ' H', Inv X pins σ' H' s' ∧ RelV v u ∧ D.rt v H'

def PE (X : Cx) (e : Expr) (t : TE) : Prop :=
  ∀ (pins : List (Addr × Obj)) (s : Shared) (σ : St) (H : Hp) (Q : VK), Inv X pins σ H s → t σ H Q → wpAny (model X.prog X.w) X.A (eval e X.env) (EP X pins σ Q) X.xe s
def PT (X : Cx) (e : Expr) (t : TT) : Prop :=
  ∀ (pins : List (Addr × Obj)) (s : Shared) (σ : St) (H : Hp) (Q : Bool → Hp → Prop), Inv X pins σ H s → t σ H Q → wpAny (model X.prog X.w) X.A (isTrue e X.env (eval e X.env)) (TP X pins σ Q) X.xe s
/-- a test whatever its 'whole' is (and, or) -/
def PW (X : Cx) (e : Expr) (t : TT) : Prop :=
  ∀ (whole : Sem Value) (pins : List (Addr × Obj)) (s : Shared) (σ : St) (H : Hp) (Q : Bool → Hp → Prop), Inv X pins σ H s → t σ H Q → wpAny (model X.prog X.w) X.A (isTrue e X.env whole) (TP X pins σ Q) X.xe s
theorem PW.pt {X : Cx} {e : Expr} {t : TT} (h : PW X e t) : PT X e t := h _
/-- an argument list (no star), from the left -/
def PA (X : Cx) (es : List Expr) (t : TA) : Prop :=
  ∀ (pos : Pos) (pins : List (Addr × Obj)) (s : Shared) (σ : St) (H : Hp) (Q : List V → Hp → Prop), Inv X pins σ H s → t σ H Q → wpAny (model X.prog X.w) X.A (spliced (backTo pos (starEach es X.env))) (AP X pins σ Q) X.xe s
def PS (X : Cx) (st : Stmt) (t : TS) : Prop :=
  ∀ (pins : List (Addr × Obj)) (s : Shared) (σ : St) (H : Hp) (D : Ends), Inv X pins σ H s → t D σ H → wpAny (model X.prog X.w) X.A (exec st X.env) (SP X pins D) X.xe s
def PSs (X : Cx) (st : List Stmt) (t : TS) : Prop :=
  ∀ (pins : List (Addr × Obj)) (s : Shared) (σ : St) (H : Hp) (D : Ends), Inv X pins σ H s → t D σ H → wpAny (model X.prog X.w) X.A (execs st X.env) (SP X pins D) X.xe s
/-- weaken the end -/
theorem thn {α : Type} {t : Sem α} {Q Q' : α → Shared → Prop} {M : Model} {A : Around} {E : Value → Shared → Prop} {s : Shared} (h : wpAny M A t Q E s) (hQ : ∀ a s, Q a s → Q' a s) : wpAny M A t Q' E s := wpAny_mono h hQ fun _ _ x => x
end L2

namespace L2
open PySem PySem.Spec PyProof.Rows
section
variable {X : Cx}

/-! ### names and constants -/
def tVar (i : Nat) : TE := fun σ H Q => ∃ v, σ[i]? = some (some v) ∧ Q v H
def tC (v : V) : TE := fun _ H Q => Q v H
theorem pe_var {i : Nat} {x : Str} {pos : Pos} (hN : X.N[i]? = some x) (hv : Vis X.env.scope x) (hd : (x == ("__debug__" : Str)) = false := by decide) (hcd : (x == ("__classdict__" : Str)) = false := by decide) : PE X (.Name x pos) (tVar i) := by
  intro pins s σ H Q I h
  obtain ⟨v, e, h⟩ := h
  obtain ⟨m, hn, hl⟩ := I.loc
  obtain ⟨u, r, l⟩ := hl i x v hN e hv
  have fin : EP X pins σ Q u s := ⟨v, H, I, r, h⟩
  rcases l with ⟨hk, hm⟩ | ⟨hk, c, hc, hcell⟩
  · exact wpAny_Name (wpAny_loadName_local I.ok.kind hk hn hm fin) hd
  · rcases hk with hk | hk
    · exact wpAny_Name (wpAny_loadName_cell I.ok.kind hk hc hcell fin) hd
    · exact wpAny_Name (wpAny_loadName_free I.ok.kind hk hc hcell fin hcd) hd
theorem pe_int {i j pos} : PE X (.Constant (.int i) j pos) (tC (.int i)) := fun _ _ _ H _ I h => wpAny_Constant_int ⟨.int i, H, I.tok _, ⟨_, rfl⟩, h⟩
theorem pe_bl {b j pos} : PE X (.Constant (.bool b) j pos) (tC (.bl b)) := fun _ _ _ H _ I h => Constant_bool ⟨.bl b, H, I, rfl, h⟩
theorem pe_non {j pos} : PE X (.Constant .none j pos) (tC .non) := fun _ _ _ H _ I h => Constant_none ⟨.non, H, I, rfl, h⟩
/-- a global name of the def -/
def Gl (X : Cx) (x : Str) : Prop := X.env.kindOf x = some .globalImplicit
theorem ld_glob {E : Value → Shared → Prop} {pins : List (Addr × Obj)} {s : Shared} {σ : St} {H : Hp} {x : Str} {u : Value} {pos : Pos} {Q : Value → Shared → Prop} (I : Inv X pins σ H s) (hg : Gl X x) (hm : X.mg x = some u) (h : Q u s)
    (hd : (x == ("__debug__" : Str)) = false := by decide) : wpAny (model X.prog X.w) X.A (eval (.Name x pos) X.env) Q E s :=
  Calls.Name_function_global I.ok.kind hg (Calls.loadGlobal_global (by rw [I.ok.glob]; exact I.mod.glob.keeps I.bk) hm h) hd
theorem ld_blt {E : Value → Shared → Prop} {pins : List (Addr × Obj)} {s : Shared} {σ : St} {H : Hp} {x : Str} {u : Value} {pos : Pos} {Q : Value → Shared → Prop} (I : Inv X pins σ H s) (hg : Gl X x) (hm : X.mg x = none) (hv : bootBuiltins x = some u) (h : Q u s)
    (hn : x ≠ "__name__" := by decide) (hd : (x == ("__debug__" : Str)) = false := by decide) : wpAny (model X.prog X.w) X.A (eval (.Name x pos) X.env) Q E s := by
  obtain ⟨mb, h1, h2⟩ := I.mod.blt
  exact Calls.Name_function_global I.ok.kind hg (Calls.loadGlobal_builtin (by rw [I.ok.glob]; exact I.mod.glob.keeps I.bk) hm (by rw [I.ok.blt]; exact h1.keeps I.bk) ((h2 x hn).trans hv) h) hd
/-! ### arithmetic -/
variable {a b : Expr} {ta tb : TE} {pos : Pos}
/-! ### comparisons -/
def PC (X : Cx) (op : CmpOp) (a b : Expr) (t : TE) : Prop :=
  ∀ (pins : List (Addr × Obj)) (s : Shared) (σ : St) (H : Hp) (Q : VK), Inv X pins σ H s → t σ H Q →
    wpAny (model X.prog X.w) X.A (eval a X.env) (fun v s₁ => wpAny (model X.prog X.w) X.A (eval b X.env) (fun u s₂ => wpAny (model X.prog X.w) X.A (compareOp op v u) (EP X pins σ Q) X.xe s₂) X.xe s₁) X.xe s
theorem nobehind (b : Expr) {op : CmpOp} (h : op ≠ .In) (h2 : op ≠ .NotIn) : behindInMarks op b = false := by
  have e1 : (op == CmpOp.In) = false := by cases op <;> first | rfl | exact absurd rfl h
  have e2 : (op == CmpOp.NotIn) = false := by cases op <;> first | rfl | exact absurd rfl h2
  cases b <;> simp [behindInMarks, e1, e2]
/-- is None -/
def tIsN (ta : TE) : TE := fun σ H Q => ta σ H fun x H1 => Q (.bl (decide (x = .non))) H1
def tNotN (ta : TE) : TE := fun σ H Q => ta σ H fun x H1 => Q (.bl (!decide (x = .non))) H1
theorem RelV.none_iff {x : V} {v : Value} (r : RelV x v) : (v == Value.none) = decide (x = .non) := by
  cases x with
  | non => cases r; rfl
  | bl _ => cases r; rfl
  | int _ => obtain ⟨t, rfl⟩ := r; rfl
  | str _ => obtain ⟨t, rfl⟩ := r; rfl
  | byt _ => obtain ⟨t, rfl⟩ := r; rfl
  | flt _ => obtain ⟨t, rfl⟩ := r; rfl
  | ref _ => cases r; rfl
  | ty _ => cases r; rfl
theorem pc_isN {j pos'} (ha : PE X a ta) : PC X .Is a (.Constant .none j pos') (tIsN ta) := by
  intro pins s σ H Q I h
  refine thn (ha pins s σ H _ I h) fun v s1 ⟨x, H1, I1, r1, q1⟩ => ?_
  exact Constant_none (is_none_gen ⟨.bl _, H1, I1, by rw [r1.none_iff]; rfl, q1⟩)
theorem pc_notN {j pos'} (ha : PE X a ta) : PC X .IsNot a (.Constant .none j pos') (tNotN ta) := by
  intro pins s σ H Q I h
  refine thn (ha pins s σ H _ I h) fun v s1 ⟨x, H1, I1, r1, q1⟩ => ?_
  exact Constant_none (isnot_none_gen ⟨.bl _, H1, I1, by rw [r1.none_iff]; rfl, q1⟩)
/-- a comparison as a value, as a test -/
def tB (t : TE) : TT := fun σ H Q => t σ H fun x H1 => ∃ c, x = .bl c ∧ Q c H1
theorem pt_cmp {op : CmpOp} {t : TE} (h : PC X op a b t) (h1 : behindInMarks op b = false := by first | exact nobehind _ (by decide) (by decide) | rfl) : PT X (.Compare a [op] [b] pos) (tB t) := by
  intro pins s σ H Q I hw
  refine wpAny_isTrue_Compare1 (thn (h pins s σ H _ I hw) fun v s1 h1 => thn h1 fun u s2 h2 => thn h2 fun c s3 ⟨x, H1, I1, r1, q1⟩ => ?_) h1
  obtain ⟨d, rfl, q⟩ := q1
  cases r1
  exact wpAny_truthy_bool ⟨H1, I1, q⟩
/-! ### and, or, not -/
variable {tA tB' : TT} {rest : List Expr}
def tAnd (t u : TT) : TT := fun σ H Q => t σ H fun c H1 => if c = true then u σ H1 Q else Q false H1
def tOr (t u : TT) : TT := fun σ H Q => t σ H fun c H1 => if c = true then Q true H1 else u σ H1 Q
theorem pw_and1 (ha : PT X a tA) : PW X (.BoolOp .And [a] pos) tA := by
  intro wh pins s σ H Q I h
  refine isTrue_and (thn (ha pins s σ H Q I h) fun c s1 e => ?_)
  cases c with
  | true => exact isTrue_and_nil e
  | false => exact e
theorem pw_or1 (ha : PT X a tA) : PW X (.BoolOp .Or [a] pos) tA := by
  intro wh pins s σ H Q I h
  refine isTrue_or (thn (ha pins s σ H Q I h) fun c s1 e => ?_)
  cases c with
  | false => exact isTrue_or_nil e
  | true => exact e
theorem pw_and (ha : PT X a tA) (hb : PW X (.BoolOp .And (b :: rest) pos) tB') : PW X (.BoolOp .And (a :: b :: rest) pos) (tAnd tA tB') := by
  intro wh pins s σ H Q I h
  refine isTrue_and (thn (ha pins s σ H _ I h) fun c s1 ⟨H1, I1, q1⟩ => ?_)
  cases c with
  | true => exact hb wh pins s1 σ H1 Q I1 q1
  | false => exact ⟨H1, I1, q1⟩
theorem pw_or (ha : PT X a tA) (hb : PW X (.BoolOp .Or (b :: rest) pos) tB') : PW X (.BoolOp .Or (a :: b :: rest) pos) (tOr tA tB') := by
  intro wh pins s σ H Q I h
  refine isTrue_or (thn (ha pins s σ H _ I h) fun c s1 ⟨H1, I1, q1⟩ => ?_)
  cases c with
  | true => exact ⟨H1, I1, q1⟩
  | false => exact hb wh pins s1 σ H1 Q I1 q1
/-- .. as values (bools) -/
def tAndV (ta tb : TE) : TE := fun σ H Q => ta σ H fun x H1 => ∃ c, x = .bl c ∧ if c = true then tb σ H1 Q else Q (.bl false) H1
theorem pe_one {op} {t : TE} (h : PE X a t) : PE X (.BoolOp op [a] pos) t := fun pins s σ H Q I hw => BoolOp_one (h pins s σ H Q I hw)
theorem pe_and (ha : PE X a ta) (hb : PE X (.BoolOp .And (b :: rest) pos) tb) : PE X (.BoolOp .And (a :: b :: rest) pos) (tAndV ta tb) := by
  intro pins s σ H Q I h
  refine BoolOp_and (thn (ha pins s σ H _ I h) fun v s1 ⟨x, H1, I1, r1, q1⟩ => ?_)
  obtain ⟨c, rfl, q1⟩ := q1
  cases r1
  refine wpAny_truthy_bool ?_
  cases c with
  | true => exact hb pins s1 σ H1 Q I1 q1
  | false => exact ⟨.bl false, H1, I1, rfl, q1⟩
end
end L2

namespace L2
open PySem PySem.Spec PyProof.Rows

/-! ### a list, a tuple that is read: tracked, frozen, or an object of the module -/
def SqL (K : PySem.W.Frag) (H : Hp) (a : Addr) (xs : List V) : Prop :=
  Rd H a (.lst xs) ∨
    ∃ (o : Obj) (its : Array Value) (n : Nat), K.lookup a = some o ∧ o.cls = .type "list" ∧ o.dict = none ∧ o.data = .seq its n ∧ its.size ≤ sizeLine ∧ Vals xs its.toList
def SqT (K : PySem.W.Frag) (H : Hp) (a : Addr) (xs : List V) : Prop :=
  Rd H a (.tup xs) ∨
    ∃ (o : Obj) (its : Array Value) (n : Nat), K.lookup a = some o ∧ o.cls = .type "tuple" ∧ o.data = .seq its n ∧ its.size ≤ sizeLine ∧ Vals xs its.toList
def absV : Value → Option V
  | .none => some .non
  | .bool b => some (.bl b)
  | .int i _ => some (.int i)
  | .str x _ => some (.str x)
  | .bytes b _ => some (.byt b)
  | .float b _ => some (.flt b)
  | .ref a => some (.ref a)
  | .type n => some (.ty n)
  | _ => none
theorem RelV.abs {x : V} {u : Value} (r : RelV x u) : absV u = some x := by
  cases x with
  | non => cases r; rfl
  | bl _ => cases r; rfl
  | int _ => obtain ⟨t, rfl⟩ := r; rfl
  | str _ => obtain ⟨t, rfl⟩ := r; rfl
  | byt _ => obtain ⟨t, rfl⟩ := r; rfl
  | flt _ => obtain ⟨t, rfl⟩ := r; rfl
  | ref _ => cases r; rfl
  | ty _ => cases r; rfl
theorem RelV.inj {x y : V} {u : Value} (r : RelV x u) (q : RelV y u) : x = y := Option.some.inj (r.abs.symm.trans q.abs)
theorem Vals.inj : ∀ {xs ys : List V} {us : List Value}, Vals xs us → Vals ys us → xs = ys
  | _, _, _, .nil, .nil => rfl
  | _, _, _, .cons r t, .cons r' t' => by rw [r.inj r', Vals.inj t t']
section
variable {X : Cx} {pins : List (Addr × Obj)} {σ : St} {H : Hp} {s : Shared} {a : Addr} {xs ys : List V}
theorem SqL.of {K : PySem.W.Frag} (h : H a = some (.lst xs)) : SqL K H a xs := .inl (.inl h)
theorem SqT.of {K : PySem.W.Frag} (h : H a = some (.tup xs)) : SqT K H a xs := .inl (.inl h)
theorem Inv.list (I : Inv X pins σ H s) (h : SqL X.K H a xs) : ∃ its : List Value, Vals xs its ∧ PlainL s.heap a its.toArray ∧ xs.length ≤ sizeLine := by
  rcases h with h | ⟨o, its, n, hk, hc, hd, hs, hz, r⟩
  · obtain ⟨z, its, n, r, e⟩ := h.ok I.hok
    exact ⟨its, r, ⟨_, n, e, rfl, rfl, rfl⟩, z⟩
  · refine ⟨its.toList, r, ⟨o, n, I.kIn a o hk, hc, hd, by simpa using hs⟩, ?_⟩
    have e := r.length
    simp only [Array.length_toList] at e
    omega
theorem Inv.tuple (I : Inv X pins σ H s) (h : SqT X.K H a xs) : ∃ its : List Value, Vals xs its ∧ IsTup s.heap a its.toArray ∧ xs.length ≤ sizeLine := by
  rcases h with h | ⟨o, its, n, hk, hc, hs, hz, r⟩
  · obtain ⟨z, its, r, p⟩ := h.ok I.hok
    exact ⟨its, r, p, z⟩
  · refine ⟨its.toList, r, ⟨o, I.kIn a o hk, hc, n, by simpa using hs⟩, ?_⟩
    have e := r.length
    simp only [Array.length_toList] at e
    omega
theorem Inv.list_inj (I : Inv X pins σ H s) (h : SqL X.K H a xs) (h' : SqL X.K H a ys) : xs = ys := by
  obtain ⟨its, r, ⟨o, n, e, _, _, d⟩, _⟩ := I.list h
  obtain ⟨its', r', ⟨o', n', e', _, _, d'⟩, _⟩ := I.list h'
  rw [e] at e'; cases e'
  rw [d] at d'
  injection d' with d1 _
  have : its = its' := by simpa using congrArg Array.toList d1
  subst this
  exact r.inj r'
theorem Inv.tuple_inj (I : Inv X pins σ H s) (h : SqT X.K H a xs) (h' : SqT X.K H a ys) : xs = ys := by
  obtain ⟨its, r, ⟨o, e, _, n, d⟩, _⟩ := I.tuple h
  obtain ⟨its', r', ⟨o', e', _, n', d'⟩, _⟩ := I.tuple h'
  rw [e] at e'; cases e'
  rw [d] at d'
  injection d' with d1 _
  have : its = its' := by simpa using congrArg Array.toList d1
  subst this
  exact r.inj r'
end

/-! ### another wish about exceptions -/
abbrev Cx.wish (X : Cx) (E : Value → Shared → Prop) : Cx := { X with xe := E }
/-- no exception leaves -/
abbrev Cx.nox (X : Cx) : Cx := X.wish fun _ _ => False
theorem Cx.Ok.wish {X : Cx} (ok : X.Ok) (E : Value → Shared → Prop) : (X.wish E).Ok :=
  ⟨ok.mod, ok.kind, ok.glob, ok.blt, ok.above, ok.inj, ok.has, ok.cab, ok.hd, ok.frames, ok.stk, ok.exf, ok.bs, ok.bsz, ok.noex, ok.exfs, ok.funs, ok.frf⟩
theorem Cx.Ok.unwish {X : Cx} {E : Value → Shared → Prop} (ok : (X.wish E).Ok) : X.Ok :=
  ⟨ok.mod, ok.kind, ok.glob, ok.blt, ok.above, ok.inj, ok.has, ok.cab, ok.hd, ok.frames, ok.stk, ok.exf, ok.bs, ok.bsz, ok.noex, ok.exfs, ok.funs, ok.frf⟩
section
variable {X : Cx} {pins : List (Addr × Obj)} {σ : St} {H : Hp} {s : Shared} {E : Value → Shared → Prop}
theorem Inv.wish (I : Inv X pins σ H s) (E : Value → Shared → Prop) : Inv (X.wish E) pins σ H s := ⟨I.ok.wish E, I.os, I.bare, I.base, I.loc, I.cell, I.free, I.freeC, I.pin, I.hok, I.len⟩
theorem Inv.unwish (I : Inv (X.wish E) pins σ H s) : Inv X pins σ H s := ⟨I.ok.unwish, I.os, I.bare, I.base, I.loc, I.cell, I.free, I.freeC, I.pin, I.hok, I.len⟩
theorem SP.unwish {D : Ends} {f : Flow} {s' : Shared} (h : SP (X.wish E) pins D f s') : SP X pins D f s' := by
  cases f with
  | next => obtain ⟨σ', H', I, q⟩ := h; exact ⟨σ', H', I.unwish, q⟩
  | brk => obtain ⟨σ', H', I, q⟩ := h; exact ⟨σ', H', I.unwish, q⟩
  | cont => obtain ⟨σ', H', I, q⟩ := h; exact ⟨σ', H', I.unwish, q⟩
  | ret u => obtain ⟨v, σ', H', I, r, q⟩ := h; exact ⟨v, σ', H', I.unwish, r, q⟩
theorem PE.nox {e : Expr} {t : TE} (h : PE X.nox e t) : PE X e t := fun pins s σ H Q I hw =>
  wpAny_mono (h pins s σ H Q (I.wish _) hw) (fun _ _ ⟨v, H', I', r, q⟩ => ⟨v, H', I'.unwish, r, q⟩) fun _ _ z => False.elim z
theorem PT.nox {e : Expr} {t : TT} (h : PT X.nox e t) : PT X e t := fun pins s σ H Q I hw =>
  wpAny_mono (h pins s σ H Q (I.wish _) hw) (fun _ _ ⟨H', I', q⟩ => ⟨H', I'.unwish, q⟩) fun _ _ z => False.elim z
theorem PSs.nox {st : List Stmt} {t : TS} (h : PSs X.nox st t) : PSs X st t := fun pins s σ H D I hw =>
  wpAny_mono (h pins s σ H D (I.wish _) hw) (fun _ _ q => q.unwish) fun _ _ z => False.elim z
end

/-! ### blocks and small statements -/
section
variable {X : Cx} {st : Stmt} {rest : List Stmt} {t u : TS} {e : Expr} {te : TE} {pos : Pos}
def tNext : TS := fun D σ H => D.nx σ H
def tSeq (t u : TS) : TS := fun D σ H => t { D with nx := u D } σ H
theorem pss_nil : PSs X [] tNext := fun _ _ σ H _ I h => wpAny_execs_nil ⟨σ, H, I, h⟩
theorem pss_cons (h1 : PS X st t) (h2 : PSs X rest u) : PSs X (st :: rest) (tSeq t u) := by
  intro pins s σ H D I h
  refine wpAny_execs_cons (thn (h1 pins s σ H { D with nx := u D } I h) fun f s1 q => ?_)
  cases f with
  | next =>
    obtain ⟨σ', H', I', q⟩ := q
    exact h2 pins s1 σ' H' D I' q
  | ret v => exact q
  | brk => exact q
  | cont => exact q
theorem pss_one (h1 : PS X st t) : PSs X [st] t := by
  intro pins s σ H D I h
  refine wpAny_execs_cons (thn (h1 pins s σ H D I h) fun f s1 q => ?_)
  cases f with
  | next => exact wpAny_execs_nil q
  | ret v => exact q
  | brk => exact q
  | cont => exact q
/-- in a def's body nothing is shown -/
theorem Inv.quiet {pins : List (Addr × Obj)} {σ : St} {H : Hp} {s : Shared} (I : Inv X pins σ H s) : interactive X.env = false := by simp [interactive, I.ok.kind]
/-- an expression whose value is dropped -/
def tDrop (te : TE) : TS := fun D σ H => te σ H fun _ H1 => D.nx σ H1
theorem ps_expr (he : PE X e te) (hs : swapsWith e none pos.line X.env = pure false := by rfl) : PS X (.Expr e pos) (tDrop te) := by
  intro pins s σ H D I h
  exact wpAny_Expr_any (thn (he pins s σ H _ I h) fun v s1 ⟨x, H1, I1, r1, q1⟩ => ⟨σ, H1, I1, q1⟩) I.quiet hs
def tRet (te : TE) : TS := fun D σ H => te σ H D.rt
theorem ps_ret (he : PE X e te) : PS X (.Return (some e) pos) (tRet te) := by
  intro pins s σ H D I h
  exact wpAny_Return_some (thn (he pins s σ H _ I h) fun v s1 ⟨x, H1, I1, r1, q1⟩ => ⟨x, σ, H1, I1, r1, q1⟩)
def tIfS (c : TT) (t u : TS) : TS := fun D σ H => c σ H fun b H1 => if b = true then t D σ H1 else u D σ H1
theorem ps_if {c : Expr} {a b : List Stmt} {tc : TT} (hc : PT X c tc) (ha : PSs X a t) (hb : PSs X b u) : PS X (.If c a b pos) (tIfS tc t u) := by
  intro pins s σ H D I h
  refine wpAny_If (thn (hc pins s σ H _ I h) fun d s1 ⟨H1, I1, q1⟩ => ?_)
  cases d with
  | true => exact ha pins s1 σ H1 D I1 q1
  | false => exact hb pins s1 σ H1 D I1 q1
end

/-! ### targets -/
abbrev TG := V → St → Hp → (St → Hp → Prop) → Prop
def PG (X : Cx) (target : Expr) (t : TG) : Prop :=
  ∀ (pins : List (Addr × Obj)) (s : Shared) (σ : St) (H : Hp) (v : V) (u : Value) (Q : St → Hp → Prop), Inv X pins σ H s → RelV v u → t v σ H Q →
    wpAny (model X.prog X.w) X.A (assign target X.env u) (fun _ s' => ∃ σ' H', Inv X pins σ' H' s' ∧ Q σ' H') X.xe s
/-- o[i] = v, by values -/
abbrev TSet := V → V → V → Hp → (Hp → Prop) → Prop
def PSet (X : Cx) (t : TSet) : Prop :=
  ∀ (pins : List (Addr × Obj)) (s : Shared) (σ : St) (H : Hp) (o i v : V) (ov iv u : Value) (Q : Hp → Prop), Inv X pins σ H s → RelV o ov → RelV i iv → RelV v u → t o i v H Q →
    wpAny (model X.prog X.w) X.A (setItem ov iv u) (fun _ s' => ∃ H', Inv X pins σ H' s' ∧ Q H') X.xe s
section
variable {X : Cx} {pos : Pos}
def gName (i : Nat) : TG := fun v σ H Q => Q (σ.set i (some v)) H
theorem pg_name {i : Nat} {x : Str} (hN : X.N.Nodup) (hi : X.N[i]? = some x) (hx : Loc X.env.scope x) (hf : X.fn x = true ∨ X.env.scope.names.lookup x = some .local := by first | exact .inl rfl | exact .inr rfl | assumption) : PG X (.Name x pos) (gName i) := by
  intro pins s σ H v u Q I r h
  exact wpAny_assign_Name (store_ok I hN hi hx r (fun s' I' => ⟨_, H, I', h⟩) hf)
/-- o[i] = .. -/
def gSub (to ti : TE) (t : TSet) : TG := fun v σ H Q => to σ H fun o H1 => ti σ H1 fun i H2 => t o i v H2 fun H3 => Q σ H3
theorem pg_sub {o i : Expr} {to ti : TE} {t : TSet} (ho : PE X o to) (hi : PE X i ti) (hs : PSet X t)
    (ha : ∀ v, assign (.Subscript o i pos) X.env v = (do
      let ov ← holding [v] (eval o X.env)
      let iv ← holding [v, ov] (eval i X.env)
      standAt pos
      holding [v, ov, iv] (setItem ov iv v)
      release [v, ov, iv] []) := by intro _; rfl) : PG X (.Subscript o i pos) (gSub to ti t) := by
  intro pins s σ H v u Q I r h
  rw [ha]
  refine wpAny_bind (wpAny_holding (thn (ho pins s σ H _ I h) fun ov s1 ⟨x, H1, I1, r1, q1⟩ => ?_))
  refine wpAny_bind (wpAny_holding (thn (hi pins s1 σ H1 _ I1 q1) fun iv s2 ⟨y, H2, I2, r2, q2⟩ => ?_))
  refine wpAny_bind (wpAny_standAt (wpAny_bind (wpAny_holding (thn (hs pins s2 σ H2 x y v ov iv u _ I2 r1 r2 r q2) fun _ s3 ⟨H3, I3, q3⟩ => ?_))))
  exact wpAny_release ⟨σ, H3, I3, q3⟩
/-- target = value -/
def tAsg (te : TE) (g : TG) : TS := fun D σ H => te σ H fun x H1 => g x σ H1 D.nx
theorem ps_asg {tg e : Expr} {te : TE} {g : TG} (he : PE X e te) (hg : PG X tg g) (hs : swapsWithSole [tg] e pos.line X.env = pure false := by rfl) (hw : swappedStores [tg] e X.env = pure none := by rfl)
    (h1 : (assignEach [tg] X.env).map (·.2) = [assign tg X.env] := by rfl) : PS X (.Assign [tg] e pos) (tAsg te g) := by
  intro pins s σ H D I h
  refine wpAny_Assign_stores (thn (he pins s σ H _ I h) fun v s1 ⟨x, H1, I1, r1, q1⟩ => ?_) hs hw
  rw [h1]
  exact thn (hg pins s1 σ H1 x v _ I1 r1 q1) fun _ s2 q => q
/-- name = value -/
theorem ps_set {i : Nat} {x : Str} {e : Expr} {te : TE} {pos' : Pos} (hN : X.N.Nodup) (hi : X.N[i]? = some x) (hx : Loc X.env.scope x) (he : PE X e te) (hs : swapsWith e (some (.Name x pos')) pos.line X.env = pure false := by rfl) (hf : X.fn x = true ∨ X.env.scope.names.lookup x = some .local := by first | exact .inl rfl | exact .inr rfl | assumption) :
    PS X (.Assign [.Name x pos'] e pos) (tAsg te (gName i)) := by
  intro pins s σ H D I h
  refine wpAny_Assign_Name (thn (he pins s σ H _ I h) fun v s1 ⟨y, H1, I1, r1, q1⟩ => ?_) hs
  exact store_ok I1 hN hi hx r1 (fun s2 I2 => ⟨_, H1, I2, q1⟩) hf
end

/-! ### while -/
section
variable {X : Cx} {pos : Pos}
end

/-! ### what a loop or a comprehension walks -/
/-- at turn i: it yields x (the heap may grow), or it stops -/
structure It where
  go : Nat → Hp → Prop
  yld : Nat → Hp → V → Hp → Prop
  stop : Nat → Hp → Prop
/-- the iterator's own objects may turn: they are not the frame's, not pinned, younger than the entry (or a comprehension's own) -/
def FpOk (X : Cx) (pins : List (Addr × Obj)) (H : Hp) (b : Addr) : Prop :=
  H b = none ∧ b ≠ X.env.locals ∧ b ∉ X.fs ∧ (b ∈ X.ex ∨ X.s₀.heap.objs.size ≤ b) ∧ (∀ x c, X.env.cells.lookup x = some c → c ≠ b) ∧ ∀ p ∈ X.pn ++ pins, p.1 ≠ b
theorem Inv.fpOk {X : Cx} {pins : List (Addr × Obj)} {σ : St} {H H' : Hp} {s : Shared} {b : Addr} (I : Inv X pins σ H s) (hb : s.heap.objs.size ≤ b) (hn : H' b = none) : FpOk X pins H' b := by
  refine ⟨hn, Nat.ne_of_gt (Nat.lt_of_lt_of_le I.lt hb), I.nofs hb, .inr (Nat.le_trans I.sz hb), fun x c e z => ?_, fun p hp z => ?_⟩
  · obtain ⟨v, q⟩ := I.cell x c e
    exact absurd (Nat.lt_of_lt_of_le q.lt (by rw [z]; exact hb)) (Nat.lt_irrefl _)
  · exact absurd (Nat.lt_of_lt_of_le (Heap.lt_size (I.pin p hp).1) (by rw [z]; exact hb)) (Nat.lt_irrefl _)
structure Turn (P : Program) (w : World) (K : PySem.W.Frag) (tg : Expr) (J : It) (fp : List Addr) (it : Addr) (tn : Nat → Heap → Prop) : Prop where
  mem : it ∈ fp
  obj : ∀ i h, tn i h → ∀ b ∈ fp, ∃ o, h.get? b = some o ∧ ∀ v, o.data ≠ .cell v
  keep : ∀ i h h', tn i h → (∀ b ∈ fp, ∀ o, h.get? b = some o → h'.get? b = some o) → tn i h'
  item : ∀ (X : Cx), X.prog = P → X.w = w → X.K = K → X.calm = true → ∀ (i : Nat) (pins : List (Addr × Obj)) (s : Shared) (σ : St) (H : Hp) (E : Value → Shared → Prop), Inv X pins σ H s → (∀ b ∈ fp, FpOk X pins H b) → tn i s.heap → J.go i H →
    wpAny (model P w) X.A (pyNext (.ref it)) (fun r s1 => ∃ u, r = some u ∧
      wpAny (model P w) X.A (letOwnedTupleGo tg (.ref it) u) (fun _ s2 => ∃ x H', Inv X pins σ H' s2 ∧ RelV x u ∧ J.yld i H x H' ∧ tn (i + 1) s2.heap ∧ ∀ b ∈ fp, H' b = none) E s1) E s
  done : ∀ (X : Cx), X.prog = P → X.w = w → X.K = K → X.calm = true → ∀ (i : Nat) (pins : List (Addr × Obj)) (s : Shared) (σ : St) (H : Hp) (E : Value → Shared → Prop), Inv X pins σ H s → (∀ b ∈ fp, FpOk X pins H b) → tn i s.heap → J.stop i H →
    wpAny (model P w) X.A (pyNext (.ref it)) (fun r s1 => r = none ∧ Inv X pins σ H s1) E s
  self : ∀ (A : Around) (i : Nat) (s : Shared) (Q : Value → Shared → Prop) (E : Value → Shared → Prop), tn i s.heap → Q (.ref it) s → wpAny (model P w) A (pyIter (.ref it)) Q E s
abbrev TI := St → Hp → (It → Hp → Prop) → Prop
/-- an iterator has come -/
def PIE (X : Cx) (pins : List (Addr × Obj)) (σ : St) (tg : Expr) (R : It → Hp → Prop) (itv : Value) (s2 : Shared) : Prop :=
  ∃ (it : Addr) (fp : List Addr) (tn : Nat → Heap → Prop) (J : It) (H' : Hp), itv = .ref it ∧ Inv X pins σ H' s2 ∧ Turn X.prog X.w X.K tg J fp it tn ∧ tn 0 s2.heap ∧ (∀ b ∈ fp, FpOk X pins H' b) ∧ R J H'
def PI (X : Cx) (tg iter : Expr) (wi : TI) : Prop :=
  ∀ (pins : List (Addr × Obj)) (s : Shared) (σ : St) (H : Hp) (R : It → Hp → Prop), Inv X pins σ H s → wi σ H R →
    wpAny (model X.prog X.w) X.A (eval iter X.env) (fun v s1 => wpAny (model X.prog X.w) X.A (pyIter v) (PIE X pins σ tg R) X.xe s1) X.xe s

/-- the step ahead of the store is nothing for an iterator that keeps no tuple -/
theorem go_of {M : Model} {A : Around} {E : Value → Shared → Prop} {s : Shared} {tg : Expr} {it : Addr} {u : Value} {o : Obj} {n : String} {vs : Array Value} {Q : Unit → Shared → Prop} (ho : s.heap.get? it = some o) (hc : o.cls = .type n) (hd : o.data = .fields vs)
    (hn : ["enumerate", "zip", "dict_itemiterator", "dict_reverseitemiterator", "odict_iterator", "itertools.zip_longest", "itertools.pairwise"].contains n = false) (hQ : Q () s) : wpAny M A (letOwnedTupleGo tg (.ref it) u) Q E s := by
  unfold letOwnedTupleGo
  cases tg <;> first
    | exact wpAny_pure hQ
    | (cases u <;> first
        | exact wpAny_pure hQ
        | (refine wpAny_bind (wpAny_load ho ?_)
           rw [hc, hd]
           show wpAny M A (if (["enumerate", "zip", "dict_itemiterator", "dict_reverseitemiterator", "odict_iterator", "itertools.zip_longest", "itertools.pairwise"].contains n && vs[0]? == some (rawInt _)) = true then _ else _) Q E s
           rw [if_neg (by intro h; rw [hn, Bool.false_and] at h; cases h)]
           exact wpAny_pure hQ))

/-- the list at a, as it stands at each turn (a loop may append to it) -/
def Itl (K : PySem.W.Frag) (a : Addr) : It :=
  ⟨fun i H => ∃ xs x, SqL K H a xs ∧ xs[i]? = some x, fun i H x H' => H' = H ∧ ∀ xs, SqL K H a xs → xs[i]? = some x, fun i H => ∃ xs, SqL K H a xs ∧ xs.length ≤ i⟩
/-- lo, lo + 1, .. (n of them) -/
def Itr (lo : Int) (n : Nat) : It := ⟨fun i _ => i < n, fun i H x H' => H' = H ∧ x = .int (lo + i), fun i _ => n ≤ i⟩
theorem turn_list {P : Program} {w : World} {K : PySem.W.Frag} {tg : Expr} (a it : Addr) : Turn P w K tg (Itl K a) [it] it (fun i h => h.IsListIter it a i) where
  mem := by simp
  obj := fun i h st b hb => by
    have e : b = it := by simpa using hb
    subst e
    obtain ⟨o, e, c, d⟩ := st
    exact ⟨o, e, fun v z => by rw [d] at z; cases z⟩
  keep := fun i h h' st k => st.at fun o e => k it (by simp) o e
  item := by
    intro X hP hw hK hc i pins s σ H E I hf st hg
    subst hP hw hK
    obtain ⟨xs, x, hq, hx⟩ := hg
    obtain ⟨its, rv, p, hz⟩ := I.list hq
    obtain ⟨u, hu, ru⟩ := rv.get hx
    obtain ⟨f0, f1, f2, f3, f4, f5⟩ := hf it (by simp)
    refine wpAny_pyNext_list_item st p.isList (x := u) (by simpa using hu) fun h' st' sb => ?_
    have I1 : Inv X pins σ H { s with heap := h' } := I.turned (t' := s.toks) (fun b o hb e => (sb.2 b hb).trans e) f0 f1 f3 f4 f5
    obtain ⟨o, e, c, d⟩ := id st'
    exact ⟨u, rfl, go_of (s := { s with heap := h' }) e c d (by decide) ⟨x, H, I1, ru, ⟨rfl, fun ys hy => by rw [I.list_inj hy hq]; exact hx⟩, st', fun b hb => (hf b hb).1⟩⟩
  done := by
    intro X hP hw hK hc i pins s σ H E I hf st hg
    subst hP hw hK
    obtain ⟨xs, hq, hx⟩ := hg
    obtain ⟨its, rv, p, hz⟩ := I.list hq
    obtain ⟨f0, f1, f2, f3, f4, f5⟩ := hf it (by simp)
    have hl := rv.length
    exact wpAny_pyNext_list_end (I.ok.hd hc) st p.isList (by simp; omega) fun h' eb => ⟨rfl, I.turned (t' := s.toks) (fun b o hb e => eb b o hb e) f0 f1 f3 f4 f5⟩
  self := fun _ _ _ _ _ st h => wpAny_pyIter_listiter st h
theorem turn_range {P : Program} {w : World} {K : PySem.W.Frag} {tg : Expr} (it : Addr) (lo : Int) (n : Nat) : Turn P w K tg (Itr lo n) [it] it (fun i h => IsRangeIter h it (lo + (i : Nat) * 1) ((n : Int) - (i : Nat)) 1) where
  mem := by simp
  obj := fun i h st b hb => by
    have e : b = it := by simpa using hb
    subst e
    exact ⟨_, st, fun v z => by
      have z' : Data.fields _ = Data.cell v := z
      cases z'⟩
  keep := fun i h h' st k => k it (by simp) _ st
  item := by
    intro X hP hw hK hc i pins s σ H E I hf st hg
    subst hP hw hK
    obtain ⟨f0, f1, f2, f3, f4, f5⟩ := hf it (by simp)
    have W := Walks.range (prog := X.prog) (w := X.w) (I.ok.hd hc) it lo 1 n
    refine W.item i s _ _ hg st fun v h' tk hv st' kk => ?_
    obtain ⟨t, rfl⟩ := hv
    have I1 : Inv X pins σ H { s with heap := h', toks := tk } := I.turned (fun b o hb e => kk b o (by simpa using hb) e) f0 f1 f3 f4 f5
    refine ⟨_, rfl, go_of (s := { s with heap := h', toks := tk }) (n := "range_iterator") st' rfl rfl (by decide) ⟨.int (lo + i), H, I1, ⟨t, ?_⟩, ⟨rfl, rfl⟩, st', fun b hb => (hf b hb).1⟩⟩
    rw [Int.mul_one]
  done := by
    intro X hP hw hK hc i pins s σ H E I hf st hg
    subst hP hw hK
    obtain ⟨f0, f1, f2, f3, f4, f5⟩ := hf it (by simp)
    exact wpAny_pyNext_range_end (I.ok.hd hc) st (by have : n ≤ i := hg; omega) fun h' eb => ⟨rfl, I.turned (t' := s.toks) (fun b o hb e => eb b o hb e) f0 f1 f3 f4 f5⟩
  self := fun _ _ _ _ _ st h => wpAny_pyIter_rangeiter st h
end L2

namespace L2
open PySem PySem.Spec PyProof.Rows
section
variable {X : Cx} {tg : Expr}
def iList (K : PySem.W.Frag) (tl : TE) : TI := fun σ H R => tl σ H fun x H1 => ∃ a, x = .ref a ∧ (∃ xs, SqL K H1 a xs) ∧ R (Itl K a) H1
theorem pi_list {l : Expr} {tl : TE} (hl : PE X l tl) : PI X tg l (iList X.K tl) := by
  intro pins s σ H R I h
  refine thn (hl pins s σ H _ I h) fun v s1 ⟨x, H1, I1, r1, q1⟩ => ?_
  obtain ⟨a, e, ⟨xs, hq⟩, q⟩ := q1
  subst e
  cases r1
  obtain ⟨its, rv, p, hz⟩ := I1.list hq
  refine wpAny_pyIter_list p.isList ?_
  refine ⟨s1.heap.objs.size, [s1.heap.objs.size], _, _, H1, rfl, I1.kept (t' := s1.toks) fun b o e => Heap.get?_push_of_some _ e, turn_list a _, ⟨_, Heap.get?_push_size _ rfl, rfl, rfl⟩, fun b hb => ?_, q⟩
  have e : b = s1.heap.objs.size := by simpa using hb
  subst e
  exact I1.fpOk (Nat.le_refl _) (I1.hok.fresh (Nat.le_refl _))
/-- a range object just made, walked -/
theorem range_it {pins : List (Addr × Obj)} {σ : St} {H : Hp} {s : Shared} {R : It → Hp → Prop} {E : Value → Shared → Prop} {lo hi : Int} {t u v : Tok} {tk : Nat} (I : Inv X pins σ H s) (h1 : -(2 ^ 62) ≤ lo) (h2 : lo < 2 ^ 62) (h3 : -(2 ^ 62) ≤ hi) (h4 : hi < 2 ^ 62)
    (q : R (Itr lo (hi - lo).toNat) H) : wpAny (model X.prog X.w) X.A (pyIter (.ref s.heap.objs.size)) (PIE X pins σ tg R) E { s with heap := s.heap.push { cls := .type "range", data := .fields #[.int lo t, .int hi u, .int 1 v] }, toks := tk } := by
  refine wpAny_pyIter_range (IsRange.new ..) (small_one h1 h2 h3 h4) ?_
  have I1 : Inv X pins σ H { s with heap := s.heap.push { cls := .type "range", data := .fields #[.int lo t, .int hi u, .int 1 v] }, toks := tk } := I.kept fun b o e => Heap.get?_push_of_some _ e
  refine ⟨(s.heap.push { cls := .type "range", data := .fields #[.int lo t, .int hi u, .int 1 v] }).objs.size, [(s.heap.push { cls := .type "range", data := .fields #[.int lo t, .int hi u, .int 1 v] }).objs.size], _, _, H, rfl,
    I1.kept (t' := tk) fun b o e => Heap.get?_push_of_some _ e, turn_range _ lo (hi - lo).toNat, ?_, fun b hb => ?_, q⟩
  · have e1 : lo + ((0 : Nat) : Int) * 1 = lo := by simp
    have e2 : (((hi - lo).toNat : Nat) : Int) - ((0 : Nat) : Int) = Builtin.Range.rangeSize lo hi 1 := by rw [rangeSize_one]; split <;> omega
    show IsRangeIter _ _ (lo + ((0 : Nat) : Int) * 1) ((((hi - lo).toNat : Nat) : Int) - ((0 : Nat) : Int)) 1
    rw [e1, e2]
    exact Heap.get?_push_size _ rfl
  · have e : b = (s.heap.push { cls := .type "range", data := .fields #[.int lo t, .int hi u, .int 1 v] }).objs.size := by simpa using hb
    subst e
    exact I1.fpOk (Nat.le_refl _) (I1.hok.fresh (Nat.le_refl _))
def iRng1 (ta : TA) : TI := fun σ H R => ta σ H fun vs H1 => ∃ j : Int, vs = [.int j] ∧ -(2 ^ 62) ≤ j ∧ j < 2 ^ 62 ∧ R (Itr 0 j.toNat) H1
theorem pi_range1 {a : Expr} {ta : TA} {p pos : Pos} (hg : Gl X "range") (hm : X.mg "range" = none) (ha : PA X [a] ta) (hs : starEach [a] X.env = [(false, eval a X.env)] := by rfl) : PI X tg (.Call (.Name "range" p) [a] [] pos) (iRng1 ta) := by
  intro pins s σ H R I h
  refine Call_ (ld_blt I hg hm boot_range (PyProof.Rows.callWith_type1 (thn (ha pos pins s σ H _ I h) fun us s1 ⟨vs, H1, I1, r1, q1⟩ => ?_) hs rfl))
  obtain ⟨j, e, q1, q2, q⟩ := q1
  subst e
  cases r1 with
  | cons r rr =>
    cases rr
    obtain ⟨t, rfl⟩ := r
    exact call_range_1 (range_it I1 (by omega) (by omega) q1 q2 (by simpa using q))
/-! ### for -/
/-- W: the invariant by the turn and a measure; N: what the body is to reach -/
def tFor (wi : TI) (g : TG) (tb : TS) : TS := fun D σ H => wi σ H fun J H1 => ∃ W : Nat → Nat → St → Hp → Prop, (∃ m, W 0 m σ H1) ∧ ∀ i m σ H, W i m σ H →
  (J.stop i H ∧ D.nx σ H) ∨ (J.go i H ∧ ∃ N : St → Hp → Prop, (∀ σ' H', N σ' H' → ∃ m', m' < m ∧ W (i + 1) m' σ' H') ∧ ∀ x H', J.yld i H x H' → g x σ H' fun σ2 H2 => tb { D with nx := N, ct := N, bk := D.nx } σ2 H2)
/-- the records at fp as they stand -/
def pinsAt (fp : List Addr) (h : Heap) : List (Addr × Obj) := fp.filterMap fun b => (h.get? b).map fun o => (b, o)
theorem mem_pinsAt {fp : List Addr} {h : Heap} {b : Addr} {o : Obj} (hb : b ∈ fp) (e : h.get? b = some o) : (b, o) ∈ pinsAt fp h := List.mem_filterMap.mpr ⟨b, hb, by rw [e]; rfl⟩
theorem of_pinsAt {fp : List Addr} {h : Heap} {p : Addr × Obj} (hp : p ∈ pinsAt fp h) : p.1 ∈ fp ∧ h.get? p.1 = some p.2 := by
  obtain ⟨b, hb, e⟩ := List.mem_filterMap.mp hp
  cases q : h.get? b with
  | none => rw [q] at e; cases e
  | some o =>
    rw [q] at e
    have e' : (b, o) = p := Option.some.inj e
    subst e'
    exact ⟨hb, q⟩
theorem Inv.pinned {pins : List (Addr × Obj)} {σ : St} {H : Hp} {s : Shared} {fp : List Addr} (I : Inv X pins σ H s) (hf : ∀ b ∈ fp, FpOk X pins H b) (ho : ∀ b ∈ fp, ∃ o, s.heap.get? b = some o ∧ ∀ v, o.data ≠ .cell v) : Inv X (pins ++ pinsAt fp s.heap) σ H s :=
  I.pins_of fun p hp => (List.mem_append.mp hp).elim (fun z => I.pin p (List.mem_append_right _ z)) fun z => by
    obtain ⟨hb, e⟩ := of_pinsAt z
    obtain ⟨f0, f1, f2, _⟩ := hf p.1 hb
    obtain ⟨o, e', d⟩ := ho p.1 hb
    rw [e] at e'; cases e'
    exact ⟨e, f0, f1, f2, d⟩
theorem Inv.unpinned {pins pl : List (Addr × Obj)} {σ : St} {H : Hp} {s : Shared} (I : Inv X (pins ++ pl) σ H s) : Inv X pins σ H s := I.pins_of fun p hp => I.pin p (List.mem_append_right _ (List.mem_append_left _ hp))
theorem ps_for {iter : Expr} {body : List Stmt} {wi : TI} {g : TG} {tb : TS} {pos : Pos} (hp : PassesOwn (model X.prog X.w) X.A X.env X.xe) (hc : X.calm = true) (hi : PI X tg iter wi) (hg : PG X tg g) (hb : PSs X body tb)
    (hs : ∀ x, foldedSetIterable iter X.env x = pure x := by intro _; rfl) : PS X (.For tg iter body [] pos) (tFor wi g tb) := by
  intro pins s σ H D I h
  refine wpAny_For (thn (hi pins s σ H _ I h) fun v s1 h1 => thn h1 fun itv s2 h2 => ?_) hs
  obtain ⟨it, fp, tn, J, H2, e, I2, T, st2, f2, W, ⟨m0, w0⟩, turn⟩ := h2
  subst e
  -- what stays true of the iterator's objects through the loop
  have stat : ∀ {H' : Hp}, (∀ b ∈ fp, H' b = none) → ∀ b ∈ fp, FpOk X pins H' b := fun hn b hb => ⟨hn b hb, (f2 b hb).2⟩
  refine codeAny_forLoop_any (fun n s' => ∃ i σ' H', Inv X pins σ' H' s' ∧ tn i s'.heap ∧ (∀ b ∈ fp, H' b = none) ∧ W i n σ' H') ?_ m0 ⟨0, σ, H2, I2, st2, fun b hb => (f2 b hb).1, w0⟩
  rintro n s3 ⟨i, σ3, H3, I3, st3, fr3, w3⟩
  rcases turn i n σ3 H3 w3 with ⟨stop, qn⟩ | ⟨go, N, hN, step⟩
  · refine wpAny_passesOwn hp (thn (T.done X rfl rfl rfl hc i pins s3 σ3 H3 X.xe I3 (stat fr3) st3 stop) fun r s4 ⟨hr, I4⟩ => ?_)
    subst hr
    exact wpAny_execs_nil ⟨σ3, H3, I4, qn⟩
  · refine wpAny_passesOwn hp (thn (T.item X rfl rfl rfl hc i pins s3 σ3 H3 X.xe I3 (stat fr3) st3 go) fun r s4 ⟨u, hr, h4⟩ => ?_)
    subst hr
    refine wpAny_passesOwn hp (thn h4 fun _ s5 ⟨x, H5, I5, r5, y5, st5, fr5⟩ => ?_)
    have I5' := I5.pinned (stat fr5) (T.obj _ _ st5)
    refine wpAny_passesOwn hp (thn (hg _ s5 σ3 H5 x u _ I5' r5 (step x H5 y5)) fun _ s6 ⟨σ6, H6, I6, q6⟩ => ?_)
    refine wpAny_passesOwn hp (thn (hb _ s6 σ6 H6 _ I6 q6) fun f s7 q7 => ?_)
    have again : ∀ {σ7 : St} {H7 : Hp}, Inv X (pins ++ pinsAt fp s5.heap) σ7 H7 s7 → N σ7 H7 → ∃ m, m < n ∧ ∃ i σ' H', Inv X pins σ' H' s7 ∧ tn i s7.heap ∧ (∀ b ∈ fp, H' b = none) ∧ W i m σ' H' := fun {σ7 H7} I7 n7 => by
      obtain ⟨m', hm, w7⟩ := hN σ7 H7 n7
      refine ⟨m', hm, i + 1, σ7, H7, I7.unpinned, T.keep _ _ _ st5 fun b hb o e => (I7.pin (b, o) (List.mem_append_right _ (List.mem_append_right _ (mem_pinsAt hb e)))).1, fun b hb => ?_, w7⟩
      obtain ⟨o, e, d⟩ := T.obj _ _ st5 b hb
      exact (I7.pin (b, o) (List.mem_append_right _ (List.mem_append_right _ (mem_pinsAt hb e)))).2.1
    cases f with
    | next => obtain ⟨σ7, H7, I7, n7⟩ := q7; exact again I7 n7
    | cont => obtain ⟨σ7, H7, I7, n7⟩ := q7; exact again I7 n7
    | brk => obtain ⟨σ7, H7, I7, q7⟩ := q7; exact ⟨σ7, H7, I7.unpinned, q7⟩
    | ret v => obtain ⟨x7, σ7, H7, I7, r7, q7⟩ := q7; exact ⟨x7, σ7, H7, I7.unpinned, r7, q7⟩
end

/-! ### the forms one uses -/
end L2

namespace L2
open PySem PySem.Spec PyProof.Rows

abbrev R2 := V → V → Hp → VK → Prop
/-- a two-place operation on values: f is binaryOp op, inplaceOp op or compareOp op -/
def OpR (X : Cx) (f : Value → Value → Sem Value) (r : R2) : Prop :=
  ∀ (pins : List (Addr × Obj)) (s : Shared) (σ : St) (H : Hp) (x y : V) (v u : Value) (Q : VK), Inv X pins σ H s → RelV x v → RelV y u → r x y H Q →
    wpAny (model X.prog X.w) X.A (f v u) (EP X pins σ Q) X.xe s
/-- a call of a value that is known (a builtin, a type) with values -/
def CallR (X : Cx) (f : Value) (r : List V → Hp → VK → Prop) : Prop :=
  ∀ (pins : List (Addr × Obj)) (s : Shared) (σ : St) (H : Hp) (xs : List V) (us : List Value) (Q : VK), Inv X pins σ H s → Vals xs us → r xs H Q →
    wpAny (model X.prog X.w) X.A (call f us) (EP X pins σ Q) X.xe s
def tOp (r : R2) (ta tb : TE) : TE := fun σ H Q => ta σ H fun x H1 => tb σ H1 fun y H2 => r x y H2 Q
/-- ints in, under C, and a value out -/
def rI (C : Int → Int → Prop) (g : Int → Int → V) : R2 := fun x y H Q => ∃ i j, x = .int i ∧ y = .int j ∧ C i j ∧ Q (g i j) H
def rI0 (g : Int → Int → V) : R2 := fun x y H Q => ∃ i j, x = .int i ∧ y = .int j ∧ Q (g i j) H
section
variable {X : Cx} {a b c : Expr} {ta tb tc : TE} {pos : Pos}

theorem binT (ha : PE X a ta) (hb : PE X b tb) {pins : List (Addr × Obj)} {s : Shared} {σ : St} {H : Hp} {R : V → V → Hp → Prop} (I : Inv X pins σ H s)
    (h : ta σ H fun x H1 => tb σ H1 fun y H2 => R x y H2) {Q : Value → Shared → Prop} {f : Value → Value → Sem Value}
    (hf : ∀ v u s2 x y H2, Inv X pins σ H2 s2 → RelV x v → RelV y u → R x y H2 → wpAny (model X.prog X.w) X.A (f v u) Q X.xe s2) :
    wpAny (model X.prog X.w) X.A (eval a X.env) (fun v s₁ => wpAny (model X.prog X.w) X.A (eval b X.env) (fun u s₂ => wpAny (model X.prog X.w) X.A (f v u) Q X.xe s₂) X.xe s₁) X.xe s := by
  refine thn (ha pins s σ H _ I h) fun v s1 ⟨x, H1, I1, r1, q1⟩ => ?_
  refine thn (hb pins s1 σ H1 _ I1 q1) fun u s2 ⟨y, H2, I2, r2, q2⟩ => ?_
  exact hf v u s2 x y H2 I2 r1 r2 q2

theorem pe_op {op : Operator} {r : R2} (ho : OpR X (binaryOp op) r) (ha : PE X a ta) (hb : PE X b tb) : PE X (.BinOp a op b pos) (tOp r ta tb) := by
  intro pins s σ H Q I h
  exact wpAny_BinOp (binT ha hb I h fun v u s2 x y H2 I2 rx ry q => ho pins s2 σ H2 x y v u Q I2 rx ry q)
/-! ### ints -/
theorem opI {f : Value → Value → Sem Value} {C : Int → Int → Prop} {g : Int → Int → Int}
    (rule : ∀ (i j : Int) (t u : Tok) (s : Shared) (Q : Value → Shared → Prop) (E : Value → Shared → Prop), C i j → Q (.int (g i j) s.toks) { s with toks := s.toks + 1 } → wpAny (model X.prog X.w) X.A (f (.int i t) (.int j u)) Q E s) :
    OpR X f (rI C fun i j => .int (g i j)) := by
  intro pins s σ H x y v u Q I rx ry h
  obtain ⟨i, j, rfl, rfl, hc, q⟩ := h
  obtain ⟨t, rfl⟩ := rx
  obtain ⟨t', rfl⟩ := ry
  exact rule i j t t' s _ _ hc ⟨.int (g i j), H, I.tok _, ⟨_, rfl⟩, q⟩
theorem opI0 {f : Value → Value → Sem Value} {g : Int → Int → Int}
    (rule : ∀ (i j : Int) (t u : Tok) (s : Shared) (Q : Value → Shared → Prop) (E : Value → Shared → Prop), Q (.int (g i j) s.toks) { s with toks := s.toks + 1 } → wpAny (model X.prog X.w) X.A (f (.int i t) (.int j u)) Q E s) :
    OpR X f (rI0 fun i j => .int (g i j)) := by
  intro pins s σ H x y v u Q I rx ry h
  obtain ⟨i, j, rfl, rfl, q⟩ := h
  obtain ⟨t, rfl⟩ := rx
  obtain ⟨t', rfl⟩ := ry
  exact rule i j t t' s _ _ ⟨.int (g i j), H, I.tok _, ⟨_, rfl⟩, q⟩
theorem opB0 {f : Value → Value → Sem Value} {g : Int → Int → Bool}
    (rule : ∀ (i j : Int) (t u : Tok) (s : Shared) (Q : Value → Shared → Prop) (E : Value → Shared → Prop), Q (.bool (g i j)) s → wpAny (model X.prog X.w) X.A (f (.int i t) (.int j u)) Q E s) :
    OpR X f (rI0 fun i j => .bl (g i j)) := by
  intro pins s σ H x y v u Q I rx ry h
  obtain ⟨i, j, rfl, rfl, q⟩ := h
  obtain ⟨t, rfl⟩ := rx
  obtain ⟨t', rfl⟩ := ry
  exact rule i j t t' s _ _ ⟨.bl (g i j), H, I, rfl, q⟩

def CDiv (i j : Int) : Prop := 0 < j ∧ j < 1073741824
def CPow (i j : Int) : Prop := 0 ≤ j ∧ j ≤ 1000000 ∧ i.natAbs < 2 ^ 64
def CMul (i j : Int) : Prop := (-(2 ^ 64) < i ∧ i < 2 ^ 64) ∨ (-(2 ^ 64) < j ∧ j < 2 ^ 64)
theorem CMul.ok {i j : Int} (h : CMul i j) : IntMulOk i j := by
  rcases h with ⟨h1, h2⟩ | ⟨h1, h2⟩
  · exact .of_left (intBits_le_64 h1 h2)
  · exact .of_right (intBits_le_64 h1 h2)
theorem op_add : OpR X (binaryOp .Add) (rI0 fun i j => .int (i + j)) := opI0 fun _ _ _ _ _ _ _ q => add_int q
theorem op_sub : OpR X (binaryOp .Sub) (rI0 fun i j => .int (i - j)) := opI0 fun _ _ _ _ _ _ _ q => sub_int q
/-- // by a positive divisor -/
theorem op_fdiv : OpR X (binaryOp .FloorDiv) (rI CDiv fun i j => .int (i / j)) := opI fun i j _ _ _ _ _ hc q => by
  have h1 : (0 : Int) < j := hc.1
  have h2 : j < 1073741824 := hc.2
  exact floordiv_int (by omega) (by rw [Int.fdiv_eq_ediv_of_nonneg i (by omega)]; exact q) (.inl (PyProof.noPylong_small (by omega)))
/-- % by a positive divisor of any size -/
theorem op_mod : OpR X (binaryOp .Mod) (rI (fun _ j => 0 < j) fun i j => .int (i % j)) := opI fun i j _ _ _ _ _ hc q => by
  have h1 : (0 : Int) < j := hc
  exact mod_int' (by omega) (by rw [Int.fmod_eq_emod_of_nonneg i (by omega)]; exact q)
theorem op_pow : OpR X (binaryOp .Pow) (rI CPow fun i j => .int (i ^ j.toNat)) := opI fun _ _ _ _ _ _ _ hc q => pow_int_small hc.1 hc.2.1 hc.2.2 q
/-! ### bools among ints: n += (a < b) -/
end

/-! ### comparisons -/
section
variable {X : Cx} {a b c : Expr} {ta tb tc : TE} {pos : Pos}
theorem fin_bl {pins : List (Addr × Obj)} {σ : St} {H : Hp} {s : Shared} {Q : VK} {k k' : Bool} (I : Inv X pins σ H s) (q : Q (.bl k) H) (e : k = k') : EP X pins σ Q (.bool k') s := by
  subst e
  exact ⟨.bl k, H, I, rfl, q⟩
theorem op_lt : OpR X (compareOp .Lt) (rI0 fun i j => .bl (decide (i < j))) := opB0 fun _ _ _ _ _ _ _ q => lt_int q
theorem op_gt : OpR X (compareOp .Gt) (rI0 fun i j => .bl (decide (j < i))) := opB0 fun _ _ _ _ _ _ _ q => gt_int q
/-- two rules for one operation: by cases -/
theorem OpR.or {f : Value → Value → Sem Value} {r r' : R2} (h : OpR X f r) (h' : OpR X f r') : OpR X f (fun x y H Q => r x y H Q ∨ r' x y H Q) := by
  intro pins s σ H x y v u Q I rx ry q
  rcases q with q | q
  · exact h pins s σ H x y v u Q I rx ry q
  · exact h' pins s σ H x y v u Q I rx ry q

theorem nomark (b : Expr) {op : CmpOp} (h : op ≠ .In := by decide) (h2 : op ≠ .NotIn := by decide) : behindInMarks op b = false := by
  have e1 : (op == CmpOp.In) = false := by cases op <;> first | rfl | exact absurd rfl h
  have e2 : (op == CmpOp.NotIn) = false := by cases op <;> first | rfl | exact absurd rfl h2
  cases b <;> simp [behindInMarks, e1, e2]
/-- a comparison as a value; hm: nomark b, or (for in, not in) by with_unfolding_all rfl -/
theorem pe_cmpR {op : CmpOp} {r : R2} (ho : OpR X (compareOp op) r) (ha : PE X a ta) (hb : PE X b tb) (hm : behindInMarks op b = false) : PE X (.Compare a [op] [b] pos) (tOp r ta tb) := by
  intro pins s σ H Q I h
  exact wpAny_Compare1 (binT ha hb I h fun v u s2 x y H2 I2 rx ry q => ho pins s2 σ H2 x y v u Q I2 rx ry q) hm
/-- a reading of a value as a test -/
def tTest (t : TE) : TT := fun σ H Q => t σ H fun x H' => ∃ k, x = .bl k ∧ Q k H'
theorem pt_cmpR {op : CmpOp} {r : R2} (ho : OpR X (compareOp op) r) (ha : PE X a ta) (hb : PE X b tb) (hm : behindInMarks op b = false) : PT X (.Compare a [op] [b] pos) (tTest (tOp r ta tb)) := by
  intro pins s σ H Q I h
  refine wpAny_isTrue_Compare1 (thn (ha pins s σ H _ I h) fun v s1 ⟨x, H1, I1, r1, q1⟩ => thn (hb pins s1 σ H1 _ I1 q1) fun u s2 ⟨y, H2, I2, r2, q2⟩ =>
    thn (ho pins s2 σ H2 x y v u _ I2 r1 r2 q2) fun c s3 ⟨z, H3, I3, r3, k, e, q3⟩ => ?_) hm
  subst e
  cases r3
  exact wpAny_truthy_bool ⟨H3, I3, q3⟩
/-! ### truth -/
theorem line63 : (sizeLine : Nat) < 2 ^ 63 := by rw [sizeLine_eq]; decide
/-! ### strs and bytes -/
/-! ### scalar builtins, by CallR -/
theorem vals1 {x : V} {us : List Value} (r : Vals [x] us) : ∃ u, us = [u] ∧ RelV x u := by
  cases r with
  | cons r1 r2 => cases r2; exact ⟨_, rfl, r1⟩
theorem vals2 {x y : V} {us : List Value} (r : Vals [x, y] us) : ∃ u w', us = [u, w'] ∧ RelV x u ∧ RelV y w' := by
  cases r with
  | cons r1 r2 =>
    cases r2 with
    | cons r3 r4 => cases r4; exact ⟨_, _, rfl, r1, r3⟩
theorem call_max2 (hc : X.calm = true) : CallR X (.builtin "max") (fun xs H Q => ∃ i j, xs = [.int i, .int j] ∧ Q (.int (if j > i then j else i)) H) := by
  intro pins s σ H xs us Q I r h
  obtain ⟨i, j, rfl, q⟩ := h
  obtain ⟨u, w', rfl, ⟨t, rfl⟩, ⟨t', rfl⟩⟩ := vals2 r
  refine max_two_ints (I.ok.hd hc) fun h' tk k => ⟨_, H, I.kept k, ?_, q⟩
  by_cases hj : j > i
  · rw [if_pos hj, if_pos hj]; exact ⟨_, rfl⟩
  · rw [if_neg hj, if_neg hj]; exact ⟨_, rfl⟩
end
end L2

namespace L2
open PySem PySem.Spec PyProof.Rows

/-! ### an instance, its attributes a map -/
section
variable {prog : Program} {w : World} {A : Around} {E : Value → Shared → Prop} {s : Shared} {K : PySem.W.Frag} {x dx C f : Addr} {mA : Str → Option Value} {name : Str} {v : Value}

end

/-! ### the attributes as a list of pairs -/
section
variable {P : Program} {w : World} {H H' : Hp} {h h' : Heap} {a C dx : Addr} {fs fs' : List (Str × V)}
end

/-! ### what of the text a class must have -/
structure Cls (K : PySem.W.Frag) (C : Addr) : Prop where
  pg : PySem.W.plainGet K C Str.empty = true
  hd : PySem.W.hasDictIn K C = true
  po : PySem.W.plainOver K C = true
  sa : PySem.W.findIn K (.ref C) "__setattr__" = some (some (.builtin "object.__setattr__"))
theorem Cls.get {K : PySem.W.Frag} {C : Addr} (c : Cls K C) (f : Str) : PySem.W.plainGet K C f = true := c.pg
section
variable {X : Cx} {pins : List (Addr × Obj)} {σ : St} {H : Hp} {s : Shared} {a C dx : Addr} {fs : List (Str × V)} {f : Str} {v : V} {A : Around} {E : Value → Shared → Prop}

/-- a new instance, tracked, without attributes -/
theorem Inv.made (I : Inv X pins σ H s) : Inv X pins σ (upd (upd H s.heap.objs.size (.own (s.heap.objs.size + 1))) (s.heap.objs.size + 1) (.ins C s.heap.objs.size []))
    { s with heap := (s.heap.push PySem.W.emptyDict).push (PySem.W.instObj C s.heap.objs.size) } := by
  have e1 : (s.heap.push PySem.W.emptyDict).get? s.heap.objs.size = some PySem.W.emptyDict := Heap.get?_push_size s.heap rfl
  have e2 : ((s.heap.push PySem.W.emptyDict).push (PySem.W.instObj C s.heap.objs.size)).get? (s.heap.objs.size + 1) = some (PySem.W.instObj C s.heap.objs.size) := by
    have := Heap.get?_push_size (s.heap.push PySem.W.emptyDict) (o := PySem.W.instObj C s.heap.objs.size) rfl
    rwa [Heap.size_push] at this
  have e3 : (s.heap.push PySem.W.emptyDict).Ns s.heap.objs.size (fun _ => none) := ⟨PySem.W.emptyDict, #[], _, e1, rfl, (fun e he => absurd he (by simp)), fun _ => rfl⟩
  have I1 := I.laid (a := s.heap.objs.size) (o := .own (s.heap.objs.size + 1)) (h' := s.heap.push PySem.W.emptyDict) (t' := s.toks) (fun b u q => Heap.get?_push_of_some _ q) (Nat.le_refl _) ⟨_, e1⟩
  refine I1.laid (a := s.heap.objs.size + 1) (o := .ins C s.heap.objs.size []) (t' := s.toks) (fun b u q => Heap.get?_push_of_some _ q) (Nat.le_of_eq (Heap.size_push _ _)) ?_
  have ne : s.heap.objs.size ≠ s.heap.objs.size + 1 := Nat.ne_of_lt (Nat.lt_succ_self _)
  refine ⟨by rw [upd_ne ne, upd_same], Nat.zero_le _, ne, e2, fun _ => none, (Heap.Ns1.of_empty e3).at fun o q => Heap.get?_push_of_some _ q, fun _ => True.intro, fun y hy => absurd rfl hy⟩

end

/-! ### readings and rules -/
section
variable {X : Cx} {o e value : Expr} {f : Str} {pos pos' tpos : Pos} {ta tv : TE}
end

/-! ### isinstance -/
section
variable {X : Cx} {pins : List (Addr × Obj)} {σ : St} {H : Hp} {s : Shared} {A : Around} {E : Value → Shared → Prop} {Q : Value → Shared → Prop} {c : Value} {b : Bool}
end
end L2

namespace L2
open PySem PySem.Spec PyProof.Rows

/-! ### room -/
structure Room (k : Nat) (A : Around) : Prop where
  hd : A.handled = none
  dp : A.depth + 3 * k + 5 < recursionLimit
  un : A.units + 16 * k + 200 < cLine
theorem Room.mono {j k : Nat} {A : Around} (r : Room k A) (h : j ≤ k) : Room j A := ⟨r.hd, by have := r.dp; omega, by have := r.un; omega⟩
theorem Room.deeper {k : Nat} {A : Around} (r : Room (k + 1) A) (env : Env) : Room k (A.deeper env) :=
  ⟨r.hd, by have := r.dp; show A.depth + 1 + 3 * k + 5 < _; omega, by have := r.un; show A.units + 3 + 16 * k + 200 < _; omega⟩
theorem Room.in1 {k : Nat} {A : Around} (r : Room (k + 1) A) : Room k A.in1 :=
  ⟨r.hd, by have := r.dp; show A.depth + 3 * k + 5 < _; omega, by have := r.un; show A.units + 1 + 16 * k + 200 < _; omega⟩
theorem Room.depth {k : Nat} {A : Around} (r : Room k A) : A.depth < recursionLimit := by have := r.dp; omega
theorem Room.units {k : Nat} {A : Around} (r : Room k A) : A.units + 64 < cLine := by have := r.un; omega
/-! ### argument lists and displays -/
def tNil : TA := fun _ H Q => Q [] H
def tCons (ta : TE) (tr : TA) : TA := fun σ H Q => ta σ H fun x H1 => tr σ H1 fun xs H2 => Q (x :: xs) H2
section
variable {X : Cx} {e : Expr} {es : List Expr} {te : TE} {t : TA} {pos : Pos}
theorem pa_nil : PA X [] tNil := fun _ _ _ _ H Q I h => Calls.spliced_nil ⟨[], H, I, .nil, h⟩
theorem pa_cons (ha : PE X e te) (hr : PA X es t) (hs : starEach (e :: es) X.env = (false, eval e X.env) :: starEach es X.env := by rfl) : PA X (e :: es) (tCons te t) := by
  intro pos pins s σ H Q I h
  rw [hs]
  show wpAny _ _ (spliced ((false, eval e X.env) :: backTo pos (starEach es X.env))) _ _ s
  refine Calls.spliced_cons (thn (ha pins s σ H _ I h) fun u s1 ⟨x, H1, I1, r1, q1⟩ => ?_)
  exact thn (hr pos pins s1 σ H1 _ I1 q1) fun us s2 ⟨xs, H2, I2, r2, q2⟩ => ⟨x :: xs, H2, I2, .cons r1 r2, q2⟩

/-- a tuple, a list of written items -/
def tTup (t : TA) : TE := fun σ H Q => t σ H fun xs H1 => xs.length ≤ sizeLine ∧ ∀ p, H1 p = none → Q (.ref p) (upd H1 p (.tup xs))
def tLst (t : TA) : TE := fun σ H Q => t σ H fun xs H1 => xs.length ≤ sizeLine ∧ ∀ p, H1 p = none → Q (.ref p) (upd H1 p (.lst xs))
theorem pe_tup {x1} (h : PA X es t) : PE X (.Tuple es x1 pos) (tTup t) := by
  intro pins s σ H Q I hq
  refine wpAny_Tuple_spliced (thn (h pos pins s σ H _ I hq) fun us s1 ⟨xs, H1, I1, r, z, q⟩ => ⟨by rw [← r.length]; exact z, ?_⟩)
  have hf : H1 s1.heap.objs.size = none := I1.hok.fresh (Nat.le_refl _)
  refine ⟨.ref s1.heap.objs.size, upd H1 s1.heap.objs.size (.tup xs), I1.laid (t' := s1.toks) (fun b u e => Heap.get?_push_of_some _ e) (Nat.le_refl _) ?_, rfl, q _ hf⟩
  exact ⟨z, us, r, ⟨_, Heap.get?_push_size _ rfl, rfl, _, rfl⟩⟩
theorem pe_lst (h : PA X es t) : PE X (.List es pos) (tLst t) := by
  intro pins s σ H Q I hq
  refine wpAny_List_spliced (thn (h pos pins s σ H _ I hq) fun us s1 ⟨xs, H1, I1, r, z, q⟩ => ⟨by rw [← r.length]; exact z, ?_⟩)
  have hf : H1 s1.heap.objs.size = none := I1.hok.fresh (Nat.le_refl _)
  refine ⟨.ref s1.heap.objs.size, upd H1 s1.heap.objs.size (.lst xs), I1.laid (t' := s1.toks) (fun b u e => Heap.get?_push_of_some _ e) (Nat.le_refl _) ?_, rfl, q _ hf⟩
  exact ⟨z, us, 0, r, Heap.get?_push_size _ rfl⟩
end

/-! ### what a def promises -/
/-- a def's promise: the bound arguments in the parameters' order, the heap, the wanted end, the wanted exception -/
abbrev Sp := List V → Hp → VK → XK → Prop
/-- how an exception lies behind a call (file 08 gives it): the callers' frames, abstract heap and state ahead of the call, the wish, the exception, the state -/
abbrev CXT := List Env → Hp → Shared → XK → Value → Shared → Prop

/-- the state at a call -/
structure Env0 (P : Program) (w : World) (K : PySem.W.Frag) (mg : Str → Option Value) (base : Heap) (A : Around) (outer : List Env) (s : Shared) (H : Hp) : Prop where
  frames : A.frames = some outer
  mod : Mod K mg base
  bs : ∀ b o, base.get? b = some o → s.heap.get? b = some o ∧ H b = none
  bsz : base.objs.size ≤ s.heap.objs.size
  funs : s.heap.FunFrames base outer
  frf : ∀ b ∈ frs outer, H b = none
  hok : HOk P w H s.heap
  bare : AllBare s.gens
/-- a call's end -/
def CE (outer : List Env) (P : Program) (w : World) (H : Hp) (s : Shared) (Q : VK) (u : Value) (s' : Shared) : Prop :=
  ∃ v H', s'.os = s.os ∧ AllBare s'.gens ∧ Un (frs outer) [] H H' s.heap s'.heap ∧ HOk P w H' s'.heap ∧ RelV v u ∧ Q v H'
def CR (CX : CXT) (outer : List Env) (P : Program) (w : World) (H : Hp) (s : Shared) (Q : VK) (E : XK) (r : Result) (s' : Shared) : Prop :=
  match r with
  | .ok (.ret u) => CE outer P w H s Q u s'
  | .ok _ => False
  | .error e => CX outer H s E e s'
structure FnOk (P : Program) (w : World) (K : PySem.W.Frag) (mg : Str → Option Value) (base : Heap) (CX : CXT) (k : Nat) (f : Addr) (fd : FuncData) (ps : List Str) (sp : Sp) : Prop where
  len : ∀ vs H Q E, sp vs H Q E → vs.length = ps.length
  run : ∀ (A : Around) (outer : List Env) (s : Shared) (H : Hp) (args : Args) (us : List Value) (vs : List V) (Q : VK) (E : XK), Room k A → Env0 P w K mg base A outer s H → BindsTo s fd args (ps.zip us) → Vals vs us → sp vs H Q E →
    codeAny (model P w) A (.call (.ref f) args) (CR CX outer P w H s Q E) s
theorem FnOk.mono {P : Program} {w : World} {K : PySem.W.Frag} {mg : Str → Option Value} {base : Heap} {CX : CXT} {j k : Nat} {f : Addr} {fd : FuncData} {ps : List Str} {sp : Sp} (F : FnOk P w K mg base CX j f fd ps sp) (h : j ≤ k) :
    FnOk P w K mg base CX k f fd ps sp := ⟨F.len, fun A outer s H args us vs Q E hr => F.run A outer s H args us vs Q E (hr.mono h)⟩
theorem Env0.in1 {P : Program} {w : World} {K : PySem.W.Frag} {mg : Str → Option Value} {base : Heap} {A : Around} {outer : List Env} {s : Shared} {H : Hp} (e : Env0 P w K mg base A outer s H) :
    Env0 P w K mg base A.in1 outer s H := ⟨e.frames, e.mod, e.bs, e.bsz, e.funs, e.frf, e.hok, e.bare⟩

section
variable {X : Cx} {pins : List (Addr × Obj)} {σ : St} {H : Hp} {s s' : Shared}
/-- from a body: what a callee wants -/
theorem Inv.env0 (I : Inv X pins σ H s) : Env0 X.prog X.w X.K X.mg X.base X.A X.stack s H :=
  ⟨I.ok.frames, I.ok.mod, I.bs, Nat.le_trans I.ok.bsz I.sz, I.stack, I.stkFree, I.hok, I.bare⟩
/-- behind a call -/
theorem Inv.after {Q : VK} {u : Value} (I : Inv X pins σ H s) (h : CE X.stack X.prog X.w H s Q u s') : EP X pins σ Q u s' := by
  obtain ⟨v, H', os, bare, un, hok, r, q⟩ := h
  obtain ⟨hh, g, d, t, os'⟩ := s'
  obtain rfl : os' = s.os := os
  exact ⟨v, H', I.call (h' := hh) (g' := g) (d' := d) (t' := t) (ch := []) un hok bare (fun b z => absurd z (by simp)), r, q⟩
end

/-! ### calls -/
/-- f(..): the written arguments, then the defaults dvs; E: what is wanted of an exception -/
def tCall (sp : Sp) (dvs : List V) (E : XK) (t : TA) : TE := fun σ H Q => t σ H fun vs H1 => sp (vs ++ dvs) H1 Q E
/-- how the parameters are bound: us the positional arguments, kw the keywords' values by name, ds the defaults that fill up -/
def Binds (K : PySem.W.Frag) (fd : FuncData) (ps : List Str) (ds : List Value) : Prop :=
  ∀ (s : Shared) (us : List Value), K.In s.heap → (us ++ ds).length = ps.length → BindsTo s fd ⟨us, []⟩ (ps.zip (us ++ ds))
/-- every parameter is given -/
theorem Binds.all {K : PySem.W.Frag} {fd : FuncData} {ps : List Str} (h : ∀ us : List Value, us.length = ps.length → bindArgs fd ⟨us, []⟩ = pure (ps.zip us)) : Binds K fd ps [] := fun s us _ hl => by
  rw [List.append_nil] at hl ⊢
  exact .of_eq (h us hl)

/-- an exception of a callee reaches what this body wants of exceptions -/
def Passes (CX : CXT) (X : Cx) (E : XK) : Prop := ∀ (pins : List (Addr × Obj)) (σ : St) (H : Hp) (s : Shared) (e : Value) (s' : Shared), Inv X pins σ H s → CX X.stack H s E e s' → X.xe e s'

section
variable {X : Cx} {CX : CXT} {k : Nat} {f C : Addr} {fd : FuncData} {ps : List Str} {sp : Sp} {dvs : List V} {ds : List Value} {E : XK} {x m : Str} {p pos apos : Pos} {e o : Expr} {es : List Expr} {ta : TE} {t : TA}

/-- the callee runs -/
theorem run_fn {pins : List (Addr × Obj)} {σ : St} {H : Hp} {s : Shared} {Q : VK} {us : List Value} {vs : List V} (F : FnOk X.prog X.w X.K X.mg X.base CX k f fd ps sp) (hr : Room k X.A) (hb : Binds X.K fd ps ds) (hd : Vals dvs ds) (hx : Passes CX X E)
    (I : Inv X pins σ H s) (r : Vals vs us) (h : sp (vs ++ dvs) H Q E) : wpAny (model X.prog X.w) X.A (call (.ref f) us) (EP X pins σ Q) X.xe s := by
  have r2 : Vals (vs ++ dvs) (us ++ ds) := r.append hd
  have hl : (us ++ ds).length = ps.length := by rw [← r2.length]; exact F.len _ _ _ _ h
  refine wpAny_call (codeAny_mono (F.run X.A X.stack s H ⟨us, []⟩ (us ++ ds) (vs ++ dvs) Q E hr I.env0 (hb s us I.kIn hl) r2 h) fun r s' hq => ?_)
  cases r with
  | error e => exact hx pins σ H s e s' I hq
  | ok fl =>
    cases fl with
    | ret u => exact I.after hq
    | next => exact False.elim hq
    | brk => exact False.elim hq
    | cont => exact False.elim hq

theorem pe_call (F : FnOk X.prog X.w X.K X.mg X.base CX k f fd ps sp) (hr : Room k X.A) (hg : Gl X x) (hm : X.mg x = some (.ref f)) (hk : PySem.W.keepIn X.K (.ref f) = true) (hb : Binds X.K fd ps ds) (hd : Vals dvs ds) (hx : Passes CX X E)
    (ha : PA X (e :: es) t) (hdb : (x == ("__debug__" : Str)) = false := by decide) (he : starEach (e :: es) X.env = (false, eval e X.env) :: starEach es X.env := by rfl) (hpl : (backTo pos (starEach es X.env)).any (·.1) = false := by rfl) :
    PE X (.Call (.Name x p) (e :: es) [] pos) (tCall sp dvs E t) := by
  intro pins s σ H Q I h
  refine wpAny_Call_Name_kw (ld_glob I hg hm ?_ hdb)
  refine PySem.W.callWith_K (h₀ := X.base) I.ok.mod.kin hk (thn (ha pos pins s σ H _ I h) fun us s1 ⟨vs, H1, I1, r, q⟩ => ⟨I1.kIn, ?_⟩) he hpl
  exact run_fn F hr hb hd hx I1 r q
end

/-! ### keywords -/
/-- the values of the keywords, from the left -/
def PK (X : Cx) (kws : List Keyword) (t : TA) : Prop :=
  ∀ (pos : Pos) (pins : List (Addr × Obj)) (s : Shared) (σ : St) (H : Hp) (Q : List V → Hp → Prop), Inv X pins σ H s → t σ H Q → wpAny (model X.prog X.w) X.A (evalAll ((backToKw pos (keywordEach kws X.env)).map (·.2))) (AP X pins σ Q) X.xe s
section
variable {X : Cx} {CX : CXT} {k : Nat} {f C : Addr} {fd : FuncData} {ps ks : List Str} {sp : Sp} {E : XK} {x m : Str} {p pos apos kpos : Pos} {e o : Expr} {es : List Expr} {kws : List Keyword} {te ta : TE} {t tk : TA} {nm : Option Str}
theorem pk_nil : PK X [] tNil := fun _ _ _ _ H Q I h => wpAny_evalAll_nil ⟨[], H, I, .nil, h⟩
theorem pk_cons (ha : PE X e te) (hr : PK X kws t) : PK X (⟨nm, e, kpos⟩ :: kws) (tCons te t) := by
  intro pos pins s σ H Q I h
  show wpAny _ _ (evalAll ((do let v ← eval e X.env; standAt pos; pure v) :: (backToKw pos (keywordEach kws X.env)).map (·.2))) _ _ s
  refine wpAny_evalAll_cons (wpAny_bind (thn (ha pins s σ H _ I h) fun u s1 ⟨x, H1, I1, r1, q1⟩ => wpAny_bind (wpAny_standAt (wpAny_pure ?_))))
  exact thn (hr pos pins s1 σ H1 _ I1 q1) fun us s2 ⟨xs, H2, I2, r2, q2⟩ => ⟨x :: xs, H2, I2, .cons r1 r2, q2⟩

variable {g : List Value → List Value → List Value} {gV : List V → List V → List V}
end

/-! ### a def's body keeps its promise -/
/-- names: the parameters first -/
structure FnScope (N P : List Str) (sc : Scope) : Prop where
  kind : sc.kind = .function
  co : sc.isCoroutine = false
  gen : sc.isGenerator = false
  nd : N.Nodup
  pre : N.take P.length = P
  par : ∀ x ∈ P, sc.names.lookup x = some .local ∨ sc.names.lookup x = some .cell
  nofree : ∀ y ∈ sc.names, y.2 ≠ .free

theorem bindL_out {kindOf : Str → Option NameKind} {x : Str} : ∀ {binds : List (Str × Value)} {m : Str → Option Value}, (∀ v, (x, v) ∉ binds) → bindL kindOf binds m x = m x
  | [], _, _ => rfl
  | (n, v) :: r, m, h => by
    unfold bindL
    rw [bindL_out fun w hw => h w (List.mem_cons_of_mem _ hw)]
    split
    · have : x ≠ n := by rintro rfl; exact h v List.mem_cons_self
      simp [this]
    · rfl
theorem bindC_out {kindOf : Str → Option NameKind} {x : Str} : ∀ {binds : List (Str × Value)} {m : Str → Option Value}, (∀ v, (x, v) ∉ binds) → bindC kindOf binds m x = m x
  | [], _, _ => rfl
  | (n, v) :: r, m, h => by
    unfold bindC
    rw [bindC_out fun w hw => h w (List.mem_cons_of_mem _ hw)]
    split
    · rfl
    · have : x ≠ n := by rintro rfl; exact h v List.mem_cons_self
      simp [this]
theorem bindL_get {kindOf : Str → Option NameKind} {x : Str} {v : Value} : ∀ {P : List Str} {vs : List Value} {i : Nat} {m : Str → Option Value}, P.Nodup → P[i]? = some x → vs[i]? = some v → kindOf x = some .local →
    bindL kindOf (P.zip vs) m x = some v
  | [], _, _, _, _, h, _, _ => by simp at h
  | _ :: _, [], _, _, _, _, h, _ => by simp at h
  | p :: P, w :: vs, 0, m, nd, h1, h2, hk => by
    simp at h1 h2; subst h1; subst h2
    show bindL kindOf ((p, w) :: P.zip vs) m p = _
    unfold bindL
    rw [bindL_out fun v hv => (List.nodup_cons.mp nd).1 (List.of_mem_zip hv).1, if_pos hk]
    simp
  | p :: P, w :: vs, i + 1, m, nd, h1, h2, hk => by
    show bindL kindOf ((p, w) :: P.zip vs) m x = _
    unfold bindL
    exact bindL_get (i := i) (List.nodup_cons.mp nd).2 (by simpa using h1) (by simpa using h2) hk
theorem bindC_get {kindOf : Str → Option NameKind} {x : Str} {v : Value} : ∀ {P : List Str} {vs : List Value} {i : Nat} {m : Str → Option Value}, P.Nodup → P[i]? = some x → vs[i]? = some v → kindOf x ≠ some .local →
    bindC kindOf (P.zip vs) m x = some v
  | [], _, _, _, _, h, _, _ => by simp at h
  | _ :: _, [], _, _, _, _, h, _ => by simp at h
  | p :: P, w :: vs, 0, m, nd, h1, h2, hk => by
    simp at h1 h2; subst h1; subst h2
    show bindC kindOf ((p, w) :: P.zip vs) m p = _
    unfold bindC
    rw [bindC_out fun v hv => (List.nodup_cons.mp nd).1 (List.of_mem_zip hv).1, if_neg hk]
    simp
  | p :: P, w :: vs, i + 1, m, nd, h1, h2, hk => by
    show bindC kindOf ((p, w) :: P.zip vs) m x = _
    unfold bindC
    exact bindC_get (i := i) (List.nodup_cons.mp nd).2 (by simpa using h1) (by simpa using h2) hk

/-- the names' values at the entry -/
def start (N : List Str) (vs : List V) : St := vs.map some ++ List.replicate (N.length - vs.length) none

/-- the context of a def's body, at its entry; an exception leaves the frame, then lies as CX says -/
def cxOf (CX : CXT) (P : Program) (w : World) (K : PySem.W.Frag) (mg : Str → Option Value) (base : Heap) (N : List Str) (qual : Str) (scope : Scope) (f : Addr) (cd : Value) (A : Around) (outer : List Env) (s : Shared) (H : Hp) (E : XK) : Cx where
  prog := P
  w := w
  K := K
  mg := mg
  base := base
  A := A.deeper (envOfC qual scope s.heap.objs.size f cd)
  N := N
  s₀ := s
  H₀ := H
  env := envOfC qual scope s.heap.objs.size f cd
  outer := outer
  stack := envOfC qual scope s.heap.objs.size f cd :: outer
  ex := []
  calm := true
  fn := fun _ => true
  pn := []
  xe := fun e s' => wpAny (model P w) (A.deeper (envOfC qual scope s.heap.objs.size f cd)) (leaving (envOfC qual scope s.heap.objs.size f cd) e) (fun _ s'' => CX outer H s E e s'') (fun e' s'' => CX outer H s E e' s'') s'

theorem cell_has {sc : Scope} {n : Nat} {x : Str} (h : sc.names.lookup x = some .cell) : ∃ c, (cellsFrom n sc.names []).lookup x = some c := by
  have q := PySem.W.cellsFrom_some sc.names n [] (.inl h)
  exact Option.isSome_iff_exists.mp q

theorem inv_start {CX : CXT} {P : Program} {w : World} {K : PySem.W.Frag} {mg : Str → Option Value} {base : Heap} {N ps : List Str} {qual : Str} {scope : Scope} {f : Addr} {cd : Value} {A : Around} {outer : List Env} {s s1 : Shared} {H : Hp} {E : XK} {us : List Value} {vs : List V}
    (S : FnScope N ps scope) (hd : A.handled = none) (e0 : Env0 P w K mg base A outer s H) (hl : vs.length = ps.length) (r : Vals vs us)
    (x : InCallC s s.heap.objs.size (bindL (envOfC qual scope s.heap.objs.size f cd).kindOf (ps.zip us) fun _ => none) (cellsFrom (s.heap.objs.size + 1) scope.names []) (bindC (envOfC qual scope s.heap.objs.size f cd).kindOf (ps.zip us) fun _ => none) s1) :
    Inv (cxOf CX P w K mg base N qual scope f cd A outer s H E) [] (start N vs) H s1 := by
  have hpl : ps.length ≤ N.length := by have := congrArg List.length S.pre; rw [List.length_take] at this; omega
  obtain ⟨h1, tk, rfl, hk⟩ := x.done
  have noA : ∀ b : Addr, b ∉ (cxOf CX P w K mg base N qual scope f cd A outer s H E).ex := fun b z => absurd (show b ∈ ([] : List Addr) from z) (by simp)
  refine ⟨⟨e0.mod, S.kind, rfl, rfl, Nat.le_refl _, fun y z c h1 h2 => ?_, fun y hy => ?_, fun y c _ h => ?_, fun _ => hd, Around.frames_deeper e0.frames, .inr ⟨rfl, rfl⟩, fun b z => absurd z (noA b), e0.bs, e0.bsz, fun b _ _ => noA b, fun b z => absurd z (noA b), e0.funs, e0.frf⟩,
    rfl, e0.bare, Un.kept hk, ⟨_, x.toInCall.ns, fun i y v h1 h2 h3 => ?_⟩, fun y c h => ⟨_, x.cell y c h⟩, e0.hok.fresh (Nat.le_refl _), fun y c h => ?_, fun p hp => absurd (show p ∈ ([] : List (Addr × Obj)) from hp) (by simp), e0.hok.kept hk, ?_⟩
  · exact name_of_addr x.apart (PySem.mem_of_lookup h1) (PySem.mem_of_lookup h2)
  · have hy : scope.names.lookup y = some .cell ∨ scope.names.lookup y = some .free := hy
    rcases hy with hy | hy
    · exact cell_has hy
    · exact absurd rfl (S.nofree _ (PySem.mem_of_lookup hy))
  · exact Nat.le_of_lt (x.above y c (PySem.mem_of_lookup h))
  · have hi : i < vs.length := by
      unfold start at h2
      by_cases hi : i < vs.length
      · exact hi
      · rw [List.getElem?_append_right (by simpa using hi)] at h2
        rw [List.getElem?_replicate] at h2
        split at h2 <;> cases h2
    have ha : vs[i]? = some v := by
      unfold start at h2
      rw [List.getElem?_append_left (by simpa using hi), List.getElem?_map] at h2
      cases e : vs[i]? with
      | none => rw [e] at h2; cases h2
      | some a => rw [e] at h2; cases h2; rfl
    obtain ⟨u, hu, rv⟩ := r.get ha
    have hp : ps[i]? = some y := by
      rw [← S.pre, List.getElem?_take_of_lt (by omega)]; exact h1
    have ndP : ps.Nodup := by rw [← S.pre]; exact S.nd.sublist (List.take_sublist _ _)
    refine ⟨u, rv, ?_⟩
    rcases S.par y (List.mem_of_getElem? hp) with k | k
    · exact .inl ⟨k, bindL_get ndP hp hu k⟩
    · obtain ⟨c, e⟩ := cell_has (n := s.heap.objs.size + 1) k
      refine .inr ⟨.inl k, c, e, ?_⟩
      have q := x.cell y c e
      rw [bindC_get ndP hp hu (by show scope.names.lookup y ≠ _; rw [k]; decide)] at q
      exact q
  · exact e0.hok.fresh (Nat.le_of_lt (x.above y c (PySem.mem_of_lookup h)))
  · unfold start
    show _ = N.length
    rw [List.length_append, List.length_map, List.length_replicate]
    omega

/-- THE RULE: a def (or a method) of the text, by its body. The body's reading t is chosen for each entry; it is run at the parameters' values -/
theorem fn_of {CX : CXT} {P : Program} {w : World} {K : PySem.W.Frag} {mg : Str → Option Value} {base : Heap} {k : Nat} {f : Addr} {name qual : Str} {params : Arguments} {body : List Stmt} {scope : Scope} {dV kV doc pm cdv ct oc : Value} {an od : Option Addr}
    {osl : Array (Option Value)} {N ps : List Str} {sp : Sp} (lk : K.lookup f = some ⟨oc, od, .func (PySem.W.fnOf name qual params body scope dV kV doc pm an cdv ct), osl⟩) (hcd : PySem.W.codeIn K cdv qual = true) (S : FnScope N ps scope)
    (len : ∀ vs H Q E, sp vs H Q E → vs.length = ps.length)
    (hbody : ∀ (A : Around) (outer : List Env) (s : Shared) (H : Hp) (vs : List V) (Q : VK) (E : XK), Room k (A.deeper (envOfC qual scope s.heap.objs.size f cdv)) → sp vs H Q E →
      ∃ t, PSs (cxOf CX P w K mg base N qual scope f cdv A outer s H E) body t ∧ t { nx := fun _ H' => Q .non H', rt := Q } (start N vs) H) :
    FnOk P w K mg base CX (k + 1) f (PySem.W.fnOf name qual params body scope dV kV doc pm an cdv ct) ps sp := by
  refine ⟨len, fun A outer s H args us vs Q E hr e0 hb r hsp => ?_⟩
  have hl := len _ _ _ _ hsp
  have KX : K.In s.heap := e0.mod.kin.keeps fun b o e => (e0.bs b o e).1
  have lim : s.heap.NoLimit := e0.mod.nolimit.keeps fun b o e => (e0.bs b o e).1
  have hkind : ∀ y ∈ ps.zip us, scope.names.lookup y.1 = some .local ∨ (scope.names.lookup y.1 = some .cell ∧ ((cellsFrom (s.heap.objs.size + 1) scope.names []).lookup y.1).isSome = true) := fun ⟨n, v⟩ hy => by
    rcases S.par n (List.of_mem_zip hy).1 with q | q
    · exact .inl q
    · exact .inr ⟨q, PySem.W.cellsFrom_some _ _ _ (.inl q)⟩
  refine codeAny_call_function hr.depth (KX _ _ lk) rfl S.co S.gen rfl (PySem.W.codeRec_of KX hcd) (hb _ _ _ _ ?_)
  refine wpAny_newFunctionEnv_cells S.kind hkind fun env he s1 x => ?_
  subst he
  refine ⟨lim.keeps x.toInCall.keep, codeAny_func ?_⟩
  obtain ⟨t, ht, hq⟩ := hbody A outer s H vs Q E (hr.deeper _) hsp
  have I : Inv (cxOf CX P w K mg base N qual scope f cdv A outer s H E) [] (start N vs) H s1 := inv_start S hr.hd e0 hl r x
  refine wpAny_mono (ht [] s1 (start N vs) H _ I hq) (fun fl s' hs => ?_) fun e s' hs => hs
  have fin : ∀ {σ' : St} {H' : Hp} {v : V} {u : Value}, Inv (cxOf CX P w K mg base N qual scope f cdv A outer s H E) [] σ' H' s' → RelV v u → Q v H' → CE outer P w H s Q u s' :=
    fun {σ' H' v u} J rv q => ⟨v, H', J.os, J.bare, J.base, J.hok, rv, q⟩
  cases fl with
  | ret u =>
    obtain ⟨v, σ', H', J, rv, q⟩ := hs
    exact fin J rv q
  | next =>
    obtain ⟨σ', H', J, q⟩ := hs
    exact fin (v := V.non) (u := Value.none) J rfl q
  | brk =>
    obtain ⟨_, _, _, q⟩ := hs
    exact False.elim q
  | cont =>
    obtain ⟨_, _, _, q⟩ := hs
    exact False.elim q
end L2

namespace L2
open PySem PySem.Spec PyProof.Rows
section
variable {X : Cx} {x : Str} {p pos : Pos} {e : Expr} {es : List Expr} {t : TA} {id T : String} {r : List V → Hp → VK → Prop}

def tCB (r : List V → Hp → VK → Prop) (t : TA) : TE := fun σ H Q => t σ H fun vs H1 => r vs H1 Q
/-- f(e, ..), f a built-in function -/
theorem pe_callB (hc : CallR X (.builtin id) r) (hg : Gl X x) (hm : X.mg x = none) (hv : bootBuiltins x = some (.builtin id)) (ha : PA X (e :: es) t) (hn : x ≠ "__name__" := by decide) (hdb : (x == ("__debug__" : Str)) = false := by decide)
    (he : starEach (e :: es) X.env = (false, eval e X.env) :: starEach es X.env := by rfl) (hpl : (backTo pos (starEach es X.env)).any (·.1) = false := by rfl) : PE X (.Call (.Name x p) (e :: es) [] pos) (tCB r t) := by
  intro pins s σ H Q I h
  refine wpAny_Call_Name_kw (ld_blt I hg hm hv ?_ hn hdb)
  exact PyProof.Rows.callWith_builtin1 (thn (ha pos pins s σ H _ I h) fun us s1 ⟨vs, H1, I1, r1, q1⟩ => hc pins s1 σ H1 vs us Q I1 r1 q1) he hpl
/-- T(e, ..), T a built-in type -/
theorem pe_callTy (hc : CallR X (.type T) r) (hg : Gl X x) (hm : X.mg x = none) (hv : bootBuiltins x = some (.type T)) (ha : PA X (e :: es) t) (hn : x ≠ "__name__" := by decide) (hdb : (x == ("__debug__" : Str)) = false := by decide)
    (he : starEach (e :: es) X.env = (false, eval e X.env) :: starEach es X.env := by rfl) (hpl : (backTo pos (starEach es X.env)).any (·.1) = false := by rfl) : PE X (.Call (.Name x p) (e :: es) [] pos) (tCB r t) := by
  intro pins s σ H Q I h
  refine wpAny_Call_Name_kw (ld_blt I hg hm hv ?_ hn hdb)
  exact PyProof.Rows.callWith_type1 (thn (ha pos pins s σ H _ I h) fun us s1 ⟨vs, H1, I1, r1, q1⟩ => hc pins s1 σ H1 vs us Q I1 r1 q1) he hpl
end
end L2

namespace HT
open PySem PyProof.Rows

/-- t < u of tuples of ints -/
def lexLt : List Int → List Int → Bool
  | [], [] => false
  | [], _ :: _ => true
  | _ :: _, [] => false
  | x :: xs, y :: ys => if x = y then lexLt xs ys else decide (x < y)
theorem lexLt_cons (x y : Int) (xs ys : List Int) : lexLt (x :: xs) (y :: ys) = if x = y then lexLt xs ys else decide (x < y) := rfl
theorem lexLt_nil_nil : lexLt [] [] = false := rfl
theorem lexLt_nil_cons (y : Int) (ys : List Int) : lexLt [] (y :: ys) = true := rfl
theorem lexLt_cons_nil (x : Int) (xs : List Int) : lexLt (x :: xs) [] = false := rfl

theorem eqAt_int (A : Around) (s : Shared) (a : Int) (t : Tok) (c : Int) (u : Tok) : ∃ e, SeqAt.EqAt A s (.int a t) (.int c u) e ∧ (e = true ↔ a = c) :=
  ⟨(a == c), SeqAt.EqAt.int_int a t c u, by simp⟩
theorem rcLt_int (A : Around) (s : Shared) (a : Int) (t : Tok) (c : Int) (u : Tok) (prog : Program) (w : World) (E : Value → Shared → Prop) (Q : Value → Shared → Prop) (h : Q (.bool (decide (a < c))) s) :
    wpAny (model prog w) A (richCompare .Lt (.int a t) (.int c u)) Q E s :=
  (PyProof.Rows.lt_int h : wpAny (model prog w) A (compareOp .Lt (.int a t) (.int c u)) Q E s)

section
open PySem.SeqAt
open PySem.AutoSeq1 (wpAny_loadPart')
open PySem.MeetsSeq PySem.MeetsSeq2 PySem.MeetsSeq3

theorem tuple_lt_ints (l b : Addr) (items items2 : Array Value) (n n2 : Nat) (dd dd2 : Option Addr) (sl sl2 : Array (Option Value)) (ns ms : List Int) (hi : IntsAre items.toList ns) (hj : IntsAre items2.toList ms) :
    Meets (Builtin.«tuple.__lt__» ⟨[.ref l, .ref b], []⟩)
      (fun _ R s => s.heap.get? l = some { cls := .type "tuple", dict := dd, data := .seq items n, slots := sl } ∧ s.heap.get? b = some { cls := .type "tuple", dict := dd2, data := .seq items2 n2, slots := sl2 } ∧
        R (.ok (.ret (.bool (lexLt ns ms)))) s) :=
  .of_wp fun prog w A R s h => by
    obtain ⟨hp, g, d, tk, os⟩ := s; obtain ⟨hl, hb, h⟩ := h
    have f2 := AutoSeq1.sub_tuple_tuple
    have z1 : items.size = ns.length := by rw [← hi.length]; simp
    have z2 : items2.size = ms.length := by rw [← hj.length]; simp
    wp_walk using wpAny_loadPart' hl, wpAny_loadPart' hb, wpAny_forIn_list _ (fun rest b s' => b.1 = none ∧ s' = ⟨hp, g, d, tk, os⟩ ∧ ∃ (vs ws : List Value) (ns' ms' : List Int), rest = vs.zip ws ∧
      IntsAre vs ns' ∧ IntsAre ws ms' ∧ ns'.length + items2.size = ms'.length + items.size ∧ R (.ok (.ret (.bool (lexLt ns' ms')))) ⟨hp, g, d, tk, os⟩) _
    case turn =>
      rintro ⟨y, x⟩ rest b s' ⟨hb', rfl, vs, ws, ns', ms', hz, hvi, hwi, hlen, hR⟩
      cases hvi with
      | nil => rw [List.zip_nil_left] at hz; cases hz
      | cons a t hvi' =>
        cases hwi with
        | nil => rw [List.zip_nil_right] at hz; cases hz
        | cons c u hwi' =>
          rw [List.zip_cons_cons] at hz
          injection hz with hyx hrest
          injection hyx with hy hx
          subst hy hx
          rw [lexLt_cons] at hR
          simp only [List.length_cons] at hlen
          obtain ⟨e, he, hiff⟩ := eqAt_int A.in1 ⟨hp, g, d, tk, os⟩ a t c u
          refine wpAny_bind (he prog w _ _ ?_)
          cases e with
          | true =>
            rw [if_pos (hiff.mp rfl)] at hR
            wp_walk
            exact ⟨rfl, rfl, _, _, _, _, hrest, hvi', hwi', by omega, hR⟩
          | false =>
            rw [if_neg (fun q => absurd (hiff.mpr q) Bool.false_ne_true)] at hR
            have hri := rcLt_int A.in1 ⟨hp, g, d, tk, os⟩ a t c u prog w
            wp_walk using hri
            exact ⟨_, rfl, by simpa using hR⟩
    case fin =>
      rintro ⟨b1, b2⟩ s' ⟨hb', rfl, vs, ws, ns', ms', hz, hvi, hwi, hlen, hR⟩
      simp only at hb'
      subst hb'
      have hv : lexLt ns' ms' = decide (items.size < items2.size) := by
        cases hvi with
        | nil =>
          cases hwi with
          | nil =>
            simp only [List.length_nil] at hlen
            rw [lexLt_nil_nil]
            exact (decide_eq_false (by omega)).symm
          | cons c u hw =>
            simp only [List.length_nil, List.length_cons] at hlen
            rw [lexLt_nil_cons]
            exact (decide_eq_true (by omega)).symm
        | cons a t hv =>
          cases hwi with
          | nil =>
            simp only [List.length_nil, List.length_cons] at hlen
            rw [lexLt_cons_nil]
            exact (decide_eq_false (by omega)).symm
          | cons c u hw =>
            rw [List.zip_cons_cons] at hz
            cases hz
      rw [hv] at hR
      wp_walk
      exact ⟨_, rfl, by simpa [Builtin.Tuple.tupleCompareSizes] using hR⟩
    case h =>
      exact ⟨rfl, rfl, items.toList, items2.toList, ns, ms, rfl, hi, hj, by omega, h⟩
end

section
variable {prog : Program} {w : World} {A : Around} {E : Value → Shared → Prop} {s : Shared}

theorem lt_tupInts {l b : Addr} {items items2 : Array Value} {ns ms : List Int} {Q : Value → Shared → Prop} (hl : IsTup s.heap l items) (hb : IsTup s.heap b items2) (hi : IntsAre items.toList ns) (hj : IntsAre items2.toList ms)
    (hu : A.units < cLine) (h : Q (.bool (lexLt ns ms)) s) : wpAny (model prog w) A (compareOp .Lt (.ref l) (.ref b)) Q E s := by
  obtain ⟨⟨cls, dd, data, sl⟩, ho, hc, n, hd⟩ := id hl
  obtain ⟨⟨cls2, dd2, data2, sl2⟩, ho2, hc2, n2, hd2⟩ := id hb
  simp only at hc hd hc2 hd2
  subst hc hd hc2 hd2
  exact richCompare_meets_room (op := .Lt) ⟨_, ho, rfl⟩ ⟨_, ho2, rfl⟩ PySem.F.slot_tuple_lt PySem.F.entry_tuple_lt (PySem.F.args_tuple_lt_2 _ _) (tuple_lt_ints l b items items2 n n2 dd dd2 sl sl2 ns ms hi hj)
    ⟨ho, ho2, show Value.bool (lexLt ns ms) ≠ Value.notImplemented ∧ Q (.bool (lexLt ns ms)) s from ⟨(fun x => nomatch x), h⟩⟩ hu

/-! ### t[a:b], not the whole -/
/-- a slice's bound as a place among n (d where it is left out) -/
def sIx (n d : Nat) : Option Int → Nat
  | none => d
  | some v => if v < 0 then (v + (n : Int)).toNat else min v.toNat n
theorem sIx_nat (n d k : Nat) : sIx n d (some (k : Int)) = min k n := by
  show (if (k : Int) < 0 then ((k : Int) + (n : Int)).toNat else min (k : Int).toNat n) = min k n
  rw [if_neg (by omega), Int.toNat_natCast]
end
end HT

namespace L2
open PySem PySem.Spec PyProof.Rows

/-! ### the parts of a slice -/
abbrev TO := St → Hp → (Option Int → Hp → Prop) → Prop
/-- a slice's part (left out, or an int) -/
def PO (X : Cx) (e : Option Expr) (t : TO) : Prop :=
  ∀ (pins : List (Addr × Obj)) (s : Shared) (σ : St) (H : Hp) (Q : Option Int → Hp → Prop), Inv X pins σ H s → t σ H Q →
    wpAny (model X.prog X.w) X.A (evalPart e X.env) (fun u s' => ∃ o H', Inv X pins σ H' s' ∧ IsPart u o ∧ Q o H') X.xe s
def tPart (t : TE) : TO := fun σ H Q => t σ H fun x H1 => ∃ i, x = .int i ∧ Q (some i) H1

theorem intsAre_of {ns : List Int} : ∀ {us : List Value}, Vals (ns.map V.int) us → IntsAre us ns := by
  induction ns with
  | nil => intro us r; rw [List.map_nil] at r; cases r; exact .nil
  | cons n ns ih =>
    intro us r
    rw [List.map_cons] at r
    cases r with
    | cons r1 r2 =>
      obtain ⟨t, e⟩ := r1
      subst e
      exact .cons n t (ih r2)

section
variable {X : Cx} {e : Expr} {te : TE} {lo hi : Option Expr} {tl th : TO} {pos p2 : Pos}

theorem po_some (h : PE X e te) : PO X (some e) (tPart te) := by
  intro pins s σ H Q I hw
  rw [evalPart_some]
  refine thn (h pins s σ H _ I hw) fun u s1 ⟨x, H1, I1, r1, q1⟩ => ?_
  obtain ⟨i, rfl, q⟩ := q1
  obtain ⟨t, rfl⟩ := r1
  exact ⟨some i, H1, I1, .int i t, q⟩

/-- what a slice of a value is, by values: the slice object stands at sl -/
def SlR (X : Cx) (r : V → Option Int → Option Int → Hp → VK → Prop) : Prop :=
  ∀ (pins : List (Addr × Obj)) (s : Shared) (σ : St) (H : Hp) (x : V) (v vl vu : Value) (lo hi : Option Int) (sl : Addr) (Q : VK), Inv X pins σ H s → RelV x v → s.heap.IsSliceOf sl vl vu .none → IsPart vl lo → IsPart vu hi → r x lo hi H Q →
    ∃ T id, typeLookup (.type T) "__getitem__" = pure (some (.builtin id)) ∧ s.TypeIs v T ∧ wpAny (model X.prog X.w) X.A (getItem v (.ref sl)) (EP X pins σ Q) X.xe s
theorem SlR.or {r r' : V → Option Int → Option Int → Hp → VK → Prop} (h : SlR X r) (h' : SlR X r') : SlR X (fun x lo hi H Q => r x lo hi H Q ∨ r' x lo hi H Q) := by
  intro pins s σ H x v vl vu lo hi sl Q I rx hs pl pu q
  rcases q with q | q
  · exact h pins s σ H x v vl vu lo hi sl Q I rx hs pl pu q
  · exact h' pins s σ H x v vl vu lo hi sl Q I rx hs pl pu q
def tSl (r : V → Option Int → Option Int → Hp → VK → Prop) (te : TE) (tl th : TO) : TE := fun σ H Q => te σ H fun x H1 => tl σ H1 fun l H2 => th σ H2 fun u H3 => r x l u H3 Q
/-- a[lo:hi], any a -/
theorem pe_slice {r : V → Option Int → Option Int → Hp → VK → Prop} (hr : SlR X r) (he : PE X e te) (hl : PO X lo tl) (hu : PO X hi th) : PE X (.Subscript e (.Slice lo hi none p2) pos) (tSl r te tl th) := by
  intro pins s σ H Q I h
  refine Subscript_ (thn (he pins s σ H _ I h) fun v s1 ⟨x, H1, I1, r1, q1⟩ => ?_)
  refine wpAny_Slice (thn (hl pins s1 σ H1 _ I1 q1) fun vl s2 ⟨l, H2, I2, pl, q2⟩ => thn (hu pins s2 σ H2 _ I2 q2) fun vu s3 ⟨u, H3, I3, pu, q3⟩ => ?_)
  rw [evalPart_none]
  refine wpAny_pure ?_
  have I4 : Inv X pins σ H3 { s3 with heap := s3.heap.push { cls := .type "slice", data := .fields #[vl, vu, .none] } } := I3.kept (t' := s3.toks) fun b ob q => Heap.get?_push_of_some _ q
  obtain ⟨T, id, hT, ht, hg⟩ := hr pins { s3 with heap := s3.heap.push { cls := .type "slice", data := .fields #[vl, vu, .none] } } σ H3 x v vl vu l u s3.heap.objs.size Q I4 r1 (Heap.IsSliceOf.new ..) pl pu q3
  show wpAny (model X.prog X.w) X.A (subscriptTail e (.Slice lo hi none p2) v (.ref s3.heap.objs.size)) (EP X pins σ Q) X.xe { s3 with heap := s3.heap.push { cls := .type "slice", data := .fields #[vl, vu, .none] } }
  exact tail_any (ops := [.ref s3.heap.objs.size, v]) ht hT hg (by with_unfolding_all rfl)

/-- the items of xs[lo:hi] -/
def cutV (xs : List V) (lo hi : Option Int) : List V := (xs.drop (HT.sIx xs.length 0 lo)).take (HT.sIx xs.length xs.length hi - HT.sIx xs.length 0 lo)
theorem cutV_length (xs : List V) (lo hi : Option Int) : (cutV xs lo hi).length ≤ xs.length := by
  unfold cutV
  rw [List.length_take, List.length_drop]
  omega
/-! ### t < u, t + u -/
end
end L2

namespace L2
open PySem PySem.Spec PyProof.Rows

/-! ### places -/
/-- the place that an index of any sign means -/
def ixN (n : Nat) (i : Int) : Option Nat := if 0 ≤ i then (if i < n then some i.toNat else none) else if -(n : Int) ≤ i then some (i + n).toNat else none
def atI {α : Type} (xs : List α) (i : Int) : Option α := (ixN xs.length i).bind fun j => xs[j]?
theorem ixN_seq {n : Nat} {i : Int} {j : Nat} (h : ixN n i = some j) : seqIndex? i n = some j ∧ j < n ∧ -(n : Int) ≤ i ∧ i < n := by
  unfold ixN at h
  by_cases h0 : 0 ≤ i
  · rw [if_pos h0] at h
    by_cases h1 : i < n
    · rw [if_pos h1] at h
      have e : i.toNat = j := Option.some.inj h
      exact ⟨by rw [seqIndex_of h0 h1, e], by omega, by omega, h1⟩
    · rw [if_neg h1] at h; cases h
  · rw [if_neg h0] at h
    by_cases h1 : -(n : Int) ≤ i
    · rw [if_pos h1] at h
      have e : (i + n).toNat = j := Option.some.inj h
      exact ⟨by rw [seqIndex_neg (by omega) h1, e], by omega, h1, by omega⟩
    · rw [if_neg h1] at h; cases h
theorem atI_get {α : Type} {xs : List α} {i : Int} {v : α} (h : atI xs i = some v) : ∃ j, seqIndex? i xs.length = some j ∧ xs[j]? = some v ∧ j < xs.length ∧ -(xs.length : Int) ≤ i ∧ i < xs.length := by
  unfold atI at h
  cases e : ixN xs.length i with
  | none => rw [e] at h; cases h
  | some j =>
    rw [e] at h
    obtain ⟨h1, h2, h3, h4⟩ := ixN_seq e
    exact ⟨j, h1, h, h2, h3, h4⟩
/-! ### what may be subscripted -/
/-- what stands as an index of a plain subscript -/
def PlainIx (b : Expr) : Prop := ∀ o i, subscripted b false o i = operate [o, i] (getItem o i)
/-- a subscript by values -/
def IxR (X : Cx) (r : R2) : Prop :=
  ∀ (value slice : Expr) (pins : List (Addr × Obj)) (s : Shared) (σ : St) (H : Hp) (x y : V) (v u : Value) (Q : VK), Inv X pins σ H s → RelV x v → RelV y u → r x y H Q →
    subscripted slice false v u = operate [v, u] (getItem v u) → wpAny (model X.prog X.w) X.A (subscriptTail value slice v u) (EP X pins σ Q) X.xe s
/-- a call of a builtin's method by values: the receiver, the arguments -/
def MtR (X : Cx) (id : String) (r : V → List V → Hp → VK → Prop) : Prop :=
  ∀ (pins : List (Addr × Obj)) (s : Shared) (σ : St) (H : Hp) (x : V) (xs : List V) (v : Value) (us : List Value) (Q : VK), Inv X pins σ H s → RelV x v → Vals xs us → r x xs H Q →
    wpAny (model X.prog X.w) X.A (call (.builtin id) (v :: us)) (EP X pins σ Q) X.xe s
section
variable {X : Cx} {a b : Expr} {ta tb : TE} {pos : Pos}
theorem IxR.or {r r' : R2} (h : IxR X r) (h' : IxR X r') : IxR X (fun x y H Q => r x y H Q ∨ r' x y H Q) := by
  intro value slice pins s σ H x y v u Q I rx ry q hs
  rcases q with q | q
  · exact h value slice pins s σ H x y v u Q I rx ry q hs
  · exact h' value slice pins s σ H x y v u Q I rx ry q hs
theorem MtR.or {id : String} {r r' : V → List V → Hp → VK → Prop} (h : MtR X id r) (h' : MtR X id r') : MtR X id (fun x xs H Q => r x xs H Q ∨ r' x xs H Q) := by
  intro pins s σ H x xs v us Q I rx rs q
  rcases q with q | q
  · exact h pins s σ H x xs v us Q I rx rs q
  · exact h' pins s σ H x xs v us Q I rx rs q
/-- a[b] -/
theorem pe_ix {r : R2} (hr : IxR X r) (ha : PE X a ta) (hb : PE X b tb) (hs : PlainIx b) : PE X (.Subscript a b pos) (tOp r ta tb) := by
  intro pins s σ H Q I h
  exact Subscript_ (binT ha hb I h fun v u s2 x y H2 I2 rx ry q => hr a b pins s2 σ H2 x y v u Q I2 rx ry q (hs _ _))

def rIxL (K : PySem.W.Frag) : R2 := fun x y H Q => ∃ p xs i v, x = .ref p ∧ y = .int i ∧ SqL K H p xs ∧ atI xs i = some v ∧ Q v H
def rIxT (K : PySem.W.Frag) : R2 := fun x y H Q => ∃ p xs i v, x = .ref p ∧ y = .int i ∧ SqT K H p xs ∧ atI xs i = some v ∧ Q v H
theorem ix_list : IxR X (rIxL X.K) := by
  intro value slice pins s σ H x y v u Q I rx ry h hs
  obtain ⟨p, xs, i, z, rfl, rfl, hq, he, q⟩ := h
  cases rx
  obtain ⟨t, rfl⟩ := ry
  obtain ⟨its, r, pl, hz⟩ := I.list hq
  obtain ⟨j, h1, h2, h3, h4, h5⟩ := atI_get he
  obtain ⟨w, ew, rw'⟩ := r.get h2
  have hl := r.length
  have hn := line63
  have fin : EP X pins σ Q w s := ⟨z, H, I, rw', q⟩
  by_cases h0 : 0 ≤ i
  · have hj : i.toNat = j := by
      rw [seqIndex_of h0 h5] at h1
      exact Option.some.inj h1
    exact item_listR pl.isList h0 (by omega) (by rw [hj]; simpa using ew) fin hs
  · have hj : (i + (its.toArray.size : Int)).toNat = j := by
      rw [seqIndex_neg (by omega) h4] at h1
      rw [List.size_toArray, ← hl]
      exact Option.some.inj h1
    exact subscriptTail_builtinR (x := w) pl.isList.typeIs slot_list_getitem.lookup
      (wpAny_getItem_list_neg (Q := fun r s' => r = w ∧ EP X pins σ Q r s') pl.isList (by omega) (by rw [List.size_toArray] <;> omega) (by omega) (by rw [hj]; simpa using ew) ⟨rfl, fin⟩) hs
theorem ix_tup : IxR X (rIxT X.K) := by
  intro value slice pins s σ H x y v u Q I rx ry h hs
  obtain ⟨p, xs, i, z, rfl, rfl, hq, he, q⟩ := h
  cases rx
  obtain ⟨t, rfl⟩ := ry
  obtain ⟨its, r, pl, hz⟩ := I.tuple hq
  obtain ⟨j, h1, h2, h3, h4, h5⟩ := atI_get he
  obtain ⟨w, ew, rw'⟩ := r.get h2
  have hl := r.length
  have hn := line63
  have fin : EP X pins σ Q w s := ⟨z, H, I, rw', q⟩
  exact subscriptTail_builtinR (x := w) pl.typeIs slot_tuple_getitem.lookup
    (getItem_tuple (j := j) (Q := fun r s' => r = w ∧ EP X pins σ Q r s') pl (by omega) (by omega) (by rw [List.size_toArray, ← hl]; exact h1) (by simpa using ew) ⟨rfl, fin⟩) hs
/-! ### xs[i] = v, any sign -/
/-- the list's object behind a store -/
theorem mapSeq_set (its : List Value) (n j : Nat) (u : Value) : Obj.mapSeq (·.setIfInBounds j u) { cls := .type "list", data := .seq its.toArray n } = { cls := .type "list", data := .seq (its.set j u).toArray n } := by
  simp [Obj.mapSeq]
theorem Inv.lst {pins : List (Addr × Obj)} {σ : St} {H : Hp} {s : Shared} {p : Addr} {xs : List V} (I : Inv X pins σ H s) (h : H p = some (.lst xs)) :
    ∃ (its : List Value) (n : Nat), Vals xs its ∧ s.heap.get? p = some { cls := .type "list", data := .seq its.toArray n } ∧ xs.length ≤ sizeLine := by
  obtain ⟨z, its, n, r, e⟩ := I.hok p _ h
  exact ⟨its, n, r, e, z⟩
/-- the list at p is written by an update of its object -/
theorem Inv.lstUpd {pins : List (Addr × Obj)} {σ : St} {H : Hp} {s : Shared} {p : Addr} {xs ys : List V} {its its' : List Value} {n n' : Nat} {f : Obj → Obj} (I : Inv X pins σ H s) (h : H p = some (.lst xs))
    (ho : s.heap.get? p = some { cls := .type "list", data := .seq its.toArray n }) (hf : f { cls := .type "list", data := .seq its.toArray n } = { cls := .type "list", data := .seq its'.toArray n' }) (r : Vals ys its') (hz : ys.length ≤ sizeLine) (t : Nat) :
    Inv X pins σ (upd H p (.lst ys)) { s with heap := s.heap.update p f, toks := t } := by
  have e : (s.heap.update p f).get? p = some { cls := .type "list", data := .seq its'.toArray n' } := by
    rw [Heap.get?_update_self f ho (by rw [hf] <;> rfl), hf]
  refine I.write (x := p) (e := p) (by rw [h]; trivial) (.inl rfl) (fun b u hb q => (Heap.get?_update_other _ _ (Ne.symm hb)).trans q) ⟨_, e⟩ ?_
  exact ⟨hz, its', n', r, e⟩
def rSetL : V → V → V → Hp → (Hp → Prop) → Prop := fun o i v H Q => ∃ p xs k j, o = .ref p ∧ i = .int k ∧ H p = some (.lst xs) ∧ ixN xs.length k = some j ∧ Q (upd H p (.lst (xs.set j v)))
theorem set_list : PSet X rSetL := by
  intro pins s σ H o i v ov iv u Q I ro ri rv h
  obtain ⟨p, xs, k, j, rfl, rfl, hp, hj, q⟩ := h
  cases ro
  obtain ⟨t, rfl⟩ := ri
  obtain ⟨its, n, r, ho, hz⟩ := I.lst hp
  obtain ⟨h1, h2, h3, h4⟩ := ixN_seq hj
  have hl := r.length
  have hn := line63
  have I' : Inv X pins σ (upd H p (.lst (xs.set j v))) { s with heap := s.heap.update p (Obj.mapSeq (·.setIfInBounds j u)) } :=
    I.lstUpd hp ho (mapSeq_set its n j u) (r.set rv j) (by rw [List.length_set]; exact hz) s.toks
  by_cases h0 : 0 ≤ k
  · have hk : k.toNat = j := by
      rw [seqIndex_of h0 h4] at h1
      exact Option.some.inj h1
    exact PySem.W.ki_setAt ho h0 (by omega) (by rw [List.size_toArray, ← hl]; exact h4) (by rw [hk]; exact ⟨_, I', q⟩)
  · have hk : (k + (its.toArray.size : Int)).toNat = j := by
      rw [seqIndex_neg (by omega) h3] at h1
      rw [List.size_toArray, ← hl]
      exact Option.some.inj h1
    exact PySem.W.ki_setBack ho (by omega) (by rw [List.size_toArray, ← hl]; exact h3) (by omega) (by rw [hk]; exact ⟨_, I', q⟩)

/-! ### slices -/
theorem slice_bounds (lo hi : Option Int) (n : Nat) : (sliceBounds lo hi none n).1 = ((HT.sIx n 0 lo : Nat) : Int) ∧ (sliceBounds lo hi none n).2.1 = ((HT.sIx n n hi : Nat) : Int) ∧ (sliceBounds lo hi none n).2.2 = 1 := by
  refine ⟨?_, ?_, rfl⟩
  · cases lo with
    | none => simp [sliceBounds, HT.sIx]
    | some i =>
      simp only [sliceBounds, HT.sIx, Option.getD_none, show (1 : Int) > 0 by decide, if_true]
      by_cases h : i < 0
      · simp only [h, if_true] <;> omega
      · simp only [h, if_false] <;> omega
  · cases hi with
    | none => simp [sliceBounds, HT.sIx]
    | some i =>
      simp only [sliceBounds, HT.sIx, Option.getD_none, show (1 : Int) > 0 by decide, if_true]
      by_cases h : i < 0
      · simp only [h, if_true] <;> omega
      · simp only [h, if_false] <;> omega
theorem slicePick_cut (its : List Value) (lo hi : Option Int) : slicePick its.toArray lo hi none = ((its.drop (HT.sIx its.length 0 lo)).take (HT.sIx its.length its.length hi - HT.sIx its.length 0 lo)).toArray := by
  obtain ⟨h1, h2, h3⟩ := slice_bounds lo hi its.toArray.size
  unfold slicePick
  rw [h1, h2, h3]
  simp only [sliceRange_one, pick_run, List.size_toArray] <;> rfl
/-- xs[lo:hi] of a list: a new list -/
def rSlL (K : PySem.W.Frag) : V → Option Int → Option Int → Hp → VK → Prop := fun x lo hi H Q => ∃ a xs, x = .ref a ∧ SqL K H a xs ∧ ∀ p, H p = none → Q (.ref p) (upd H p (.lst (cutV xs lo hi)))
theorem sl_list : SlR X (rSlL X.K) := by
  intro pins s σ H x v vl vu lo hi sl Q I rx hs pl pu h
  obtain ⟨a, xs, rfl, hx, q⟩ := h
  cases rx
  obtain ⟨its, r, ht, hz⟩ := I.list hx
  have hlen := r.length
  refine ⟨"list", _, slot_list_getitem.lookup, ht.isList.typeIs, ?_⟩
  refine wpAny_getItem_list_slice ht.isList hs pl pu .none (by simp) ?_ (by rw [List.size_toArray] <;> omega)
  rw [slicePick_cut, ← hlen]
  refine ⟨.ref s.heap.objs.size, _, I.laid (t' := s.toks) (o := .lst (cutV xs lo hi)) (fun b ob q => Heap.get?_push_of_some _ q) (Nat.le_refl _) ?_, rfl, q _ (I.hok.fresh (Nat.le_refl _))⟩
  exact ⟨Nat.le_trans (cutV_length xs lo hi) hz, _, 0, (r.drop (HT.sIx xs.length 0 lo)).take (HT.sIx xs.length xs.length hi - HT.sIx xs.length 0 lo), Heap.get?_push_size _ rfl⟩

/-! ### in, not in: flat items -/
/-! ### len, list(x), tuple(x) of any list or tuple that is read -/
theorem call_len_seq : CallR X (.builtin "len") (fun xs H Q => ∃ p ys, xs = [.ref p] ∧ (SqL X.K H p ys ∨ SqT X.K H p ys) ∧ Q (.int ys.length) H) := by
  intro pins s σ H xs us Q I r h
  obtain ⟨p, ys, rfl, hq, q⟩ := h
  obtain ⟨u, rfl, rx⟩ := vals1 r
  cases rx
  have hn := line63
  rcases hq with hq | hq
  · obtain ⟨its, r', pl, hz⟩ := I.list hq
    have hlen := r'.length
    exact Calls.call_len_list pl.isList (by simp only [List.size_toArray] <;> omega) ⟨.int ys.length, H, I.tok _, ⟨s.toks + 1, by rw [List.size_toArray, hlen]⟩, q⟩
  · obtain ⟨its, r', pl, hz⟩ := I.tuple hq
    have hlen := r'.length
    exact len_tuple pl (by simp only [List.size_toArray] <;> omega) ⟨.int ys.length, H, I.tok _, ⟨s.toks + 1, by rw [List.size_toArray, hlen]⟩, q⟩
theorem CallR.or {f : Value} {r r' : List V → Hp → VK → Prop} (h : CallR X f r) (h' : CallR X f r') : CallR X f (fun xs H Q => r xs H Q ∨ r' xs H Q) := by
  intro pins s σ H xs us Q I rs q
  rcases q with q | q
  · exact h pins s σ H xs us Q I rs q
  · exact h' pins s σ H xs us Q I rs q
theorem call_list_of : CallR X (.type "list") (fun xs H Q => ∃ p ys, xs = [.ref p] ∧ (SqL X.K H p ys ∨ SqT X.K H p ys) ∧ ∀ l, H l = none → Q (.ref l) (upd H l (.lst ys))) := by
  intro pins s σ H xs us Q I r h
  obtain ⟨p, ys, rfl, hq, q⟩ := h
  obtain ⟨u, rfl, rx⟩ := vals1 r
  cases rx
  have fin : ∀ (its : List Value), Vals ys its → ys.length ≤ sizeLine → ∀ (h' : Heap) (c' : Nat), (∀ b o', s.heap.get? b = some o' → h'.get? b = some o') →
      h'.get? s.heap.objs.size = some { cls := .type "list", dict := none, data := .seq its.toArray c', slots := #[] } → EP X pins σ Q (.ref s.heap.objs.size) { s with heap := h' } := fun its r' hz h' c' kp e =>
    ⟨.ref s.heap.objs.size, _, I.laid (t' := s.toks) kp (Nat.le_refl _) (show ObjOk X.prog X.w _ h' _ (.lst ys) from ⟨hz, its, c', r', e⟩), rfl, q _ (I.hok.fresh (Nat.le_refl _))⟩
  rcases hq with hq | hq
  · obtain ⟨its, r', pl, hz⟩ := I.list hq
    have hlen := r'.length
    obtain ⟨o, ho, hc, n, hd⟩ := pl.isList
    exact call_list_seq p (.inl rfl) ho hc hd (fun h' c' kp e => fin its r' hz h' c' kp e) (by simp only [List.size_toArray] <;> omega)
  · obtain ⟨its, r', pl, hz⟩ := I.tuple hq
    have hlen := r'.length
    obtain ⟨o, ho, hc, n, hd⟩ := pl
    exact call_list_seq p (.inr rfl) ho hc hd (fun h' c' kp e => fin its r' hz h' c' kp e) (by simp only [List.size_toArray] <;> omega)
/-! ### the call of a builtin's method: o.m(..) -/
/-- the value is of that builtin type -/
def tyV (K : PySem.W.Frag) (T : String) (x : V) (H : Hp) : Prop := match x with
  | .str _ => T = "str"
  | .int _ => T = "int"
  | .ref p => (T = "list" ∧ ∃ xs, SqL K H p xs) ∨ (T = "tuple" ∧ ∃ o, K.lookup p = some o ∧ o.cls = .type "tuple" ∧ o.dict = none) ∨
      (T = "dict" ∧ ((∃ kvs, H p = some (.dK kvs)) ∨ ∃ kvs, H p = some (.dT kvs))) ∨ (T = "set" ∧ ∃ S n, H p = some (.set S n))
  | _ => False
theorem tyV_is {pins : List (Addr × Obj)} {σ : St} {H : Hp} {s : Shared} {T : String} {x : V} {v : Value} (I : Inv X pins σ H s) (r : RelV x v) (ty : tyV X.K T x H) :
    s.TypeIs v T ∧ ∀ a, v = .ref a → ∃ ob, s.heap.get? a = some ob ∧ ob.dict = none := by
  cases x with
  | str z =>
    obtain ⟨t, rfl⟩ := r
    cases (show T = "str" from ty)
    exact ⟨typeIs_str s z t, fun _ e => nomatch e⟩
  | int i =>
    obtain ⟨t, rfl⟩ := r
    cases (show T = "int" from ty)
    exact ⟨typeIs_int s i t, fun _ e => nomatch e⟩
  | ref p =>
    cases r
    rcases ty with ⟨rfl, xs, hq⟩ | ⟨rfl, o, hk, hc, hd⟩ | ⟨rfl, hk⟩ | ⟨rfl, S, n, hk⟩
    · obtain ⟨its, _, pl, _⟩ := I.list hq
      refine ⟨pl.isList.typeIs, fun a e => ?_⟩
      cases e
      obtain ⟨o, n, e, c, hd, _⟩ := pl
      exact ⟨o, e, hd⟩
    · refine ⟨⟨o, I.kIn p o hk, hc⟩, fun a e => ?_⟩
      cases e
      exact ⟨o, I.kIn _ o hk, hd⟩
    · have z : ∃ o, s.heap.get? p = some o ∧ o.ExactDict := by
        rcases hk with ⟨kvs, hk⟩ | ⟨kvs, hk⟩
        · obtain ⟨_, _, _, _, o, _, _, e, ex, _⟩ := I.hok p _ hk
          exact ⟨o, e, ex⟩
        · obtain ⟨_, _, _, _, o, _, _, e, ex, _⟩ := I.hok p _ hk
          exact ⟨o, e, ex⟩
      obtain ⟨o, e, ex⟩ := z
      refine ⟨⟨o, e, ex.1⟩, fun a e2 => ?_⟩
      cases e2
      exact ⟨o, e, ex.2.1⟩
    · obtain ⟨o, _, _, _, e, ex, _⟩ := I.hok p _ hk
      refine ⟨⟨o, e, ex.1⟩, fun a e2 => ?_⟩
      cases e2
      exact ⟨o, e, ex.2.1⟩
  | _ => exact False.elim ty
def tBM (K : PySem.W.Frag) (T : String) (r : V → List V → Hp → VK → Prop) (to : TE) (t : TA) : TE := fun σ H Q => to σ H fun x H1 => tyV K T x H1 ∧ t σ H1 fun xs H2 => r x xs H2 Q
variable {o e : Expr} {es : List Expr} {to : TE} {t : TA} {name : Str} {apos cpos : Pos} {T id : String} {r : V → List V → Hp → VK → Prop}
theorem pe_bm (pa : PlainAttrs T) (slot : Slot T name id) (hty : typeOf (.builtin id) = pure (.type "method_descriptor")) (hm : MtR X id r) (ho : PE X o to) (ha : PA X (e :: es) t)
    (hbase : attributeBase o name X.env (eval o X.env) = eval o X.env := by rfl)
    (hfew : ((backTo cpos (starEach (e :: es) X.env)).all (fun x => !x.1) && (backToKw cpos (keywordEach [] X.env)).all (fun x => x.1.isSome)
      && decide ((e :: es).length + ([] : List Keyword).length + (if ([] : List Keyword).isEmpty then 0 else 1) < 30)) = true := by rfl)
    (hline : (apos.endLine == cpos.line) = true := by rfl) (hs : starEach (e :: es) X.env = (false, eval e X.env) :: starEach es X.env := by rfl) (hplain : (backTo cpos (starEach es X.env)).any (·.1) = false := by rfl) :
    PE X (.Call (.Attribute o name apos) (e :: es) [] cpos) (tBM X.K T r to t) := by
  intro pins s σ H Q I h
  refine wpAny_Call_method_late hbase hfew hline rfl (thn (ho pins s σ H _ I h) fun v s1 ⟨x, H1, I1, r1, ty, q1⟩ => ?_)
  obtain ⟨h1, h2⟩ := tyV_is I1 r1 ty
  refine ⟨T, id, pa, slot, hty, h1, h2, ?_⟩
  have hA := ha cpos pins s1 σ H1 _ I1 q1
  rw [hs] at hA ⊢
  refine Calls.callWith_builtin (by show (false || (backTo cpos (starEach es X.env)).any (·.1)) = false; rw [hplain] <;> rfl) (Calls.evalArgs_plain ?_)
  exact thn hA fun us s2 ⟨vs, H2, I2, r2, q2⟩ => hm pins s2 σ H2 x vs v us Q I2 r1 r2 q2
/- xs.append(e), list.index on a module's tuple .. are MtR facts of 06m -/
end
end L2

namespace L2
open PySem PySem.Spec PyProof.Rows

def MtM (X : Cx) (id : String) (r : V → List V → Hp → VK → Prop) : Prop :=
  ∀ (pins : List (Addr × Obj)) (s : Shared) (σ : St) (H : Hp) (x : V) (xs : List V) (v : Value) (us : List Value) (Q : VK), Inv X pins σ H s → RelV x v → Vals xs us → r x xs H Q →
    wpAny (model X.prog X.w) X.A (call (.builtin id) (v :: us)) (EP X pins σ Q) X.xe s

/-! ### lists of values -/
theorem Vals.one : ∀ {x : V} {us : List Value}, Vals [x] us → ∃ u, us = [u] ∧ RelV x u
  | _, _, .cons r .nil => ⟨_, rfl, r⟩
theorem Vals.two : ∀ {x y : V} {us : List Value}, Vals [x, y] us → ∃ u v, us = [u, v] ∧ RelV x u ∧ RelV y v
  | _, _, _, .cons r (.cons q .nil) => ⟨_, _, rfl, r, q⟩
theorem Vals.zero : ∀ {us : List Value}, Vals [] us → us = []
  | _, .nil => rfl
theorem Vals.rep {xs : List V} {us : List Value} (h : Vals xs us) : ∀ k : Nat, Vals (List.replicate k xs).flatten (List.replicate k us).flatten
  | 0 => .nil
  | k + 1 => by
    rw [List.replicate_succ, List.replicate_succ, List.flatten_cons, List.flatten_cons]
    exact Vals.append h (Vals.rep h k)
theorem foldl_rep (its : List Value) : ∀ (k : Nat) (acc : List Value),
    List.foldl (fun x1 x2 => x1 ++ x2) acc.toArray (List.replicate k its.toArray) = (acc ++ (List.replicate k its).flatten).toArray
  | 0, acc => by simp
  | k + 1, acc => by
    have e : acc.toArray ++ its.toArray = (acc ++ its).toArray := by simp
    have e2 : (acc ++ its) ++ (List.replicate k its).flatten = acc ++ (List.replicate (k + 1) its).flatten := by
      rw [List.replicate_succ, List.flatten_cons, List.append_assoc]
    rw [← e2, ← foldl_rep its k (acc ++ its), ← e, List.replicate_succ, List.foldl_cons]

section
variable {X : Cx} {pins : List (Addr × Obj)} {σ : St} {H : Hp} {s : Shared} {l b : Addr} {xs ys zs : List V}

/-! ### the two steps: a tracked list is rewritten, a new list is laid -/
theorem Inv.lset {its its' : List Value} {n : Nat} {f : Array Value → Array Value} {t' : Nat} (I : Inv X pins σ H s) (hH : H l = some (.lst xs))
    (e : s.heap.get? l = some { cls := .type "list", data := .seq its.toArray n }) (hf : f its.toArray = its'.toArray) (hv : Vals ys its') (hz : ys.length ≤ sizeLine) :
    Inv X pins σ (upd H l (.lst ys)) { s with heap := s.heap.update l (Obj.mapSeq f), toks := t' } := by
  have q := PySem.IsL.update e f
  rw [hf] at q
  refine I.write (x := l) (e := l) (by rw [hH]; exact trivial) (.inl rfl) (fun b' u hb hu => (Heap.get?_update_other s.heap (Obj.mapSeq f) (Ne.symm hb)).trans hu) ⟨_, q⟩ ?_
  exact ⟨hz, its', _, hv, q⟩
theorem Inv.lnew {its : List Value} {t' : Nat} (I : Inv X pins σ H s) (hv : Vals ys its) (hz : ys.length ≤ sizeLine) :
    Inv X pins σ (upd H s.heap.objs.size (.lst ys)) { s with heap := s.heap.push { cls := .type "list", data := .seq its.toArray }, toks := t' } :=
  I.laid (fun _ _ q => Heap.get?_push_of_some _ q) (Nat.le_refl _) ⟨hz, its, 0, hv, Heap.get?_push_size _ rfl⟩
theorem Inv.fresh (I : Inv X pins σ H s) : H s.heap.objs.size = none := I.hok.fresh (Nat.le_refl _)
theorem Inv.lstM (I : Inv X pins σ H s) (hH : H l = some (.lst xs)) : xs.length ≤ sizeLine ∧ ∃ (its : List Value) (n : Nat), Vals xs its ∧ xs.length = its.length ∧ s.heap.get? l = some { cls := .type "list", data := .seq its.toArray n } := by
  obtain ⟨z, its, n, r, e⟩ := I.hok l _ hH
  exact ⟨z, its, n, r, r.length, e⟩

theorem notLongL {n : Nat} (h : n ≤ sizeLine) : Builtin.List.listTooLong n = false := by
  unfold Builtin.List.listTooLong
  exact decide_eq_false (by omega)
end

section
variable {X : Cx}

/-! ### methods -/
def rAppend : V → List V → Hp → VK → Prop := fun x vs H Q => ∃ l xs y, x = .ref l ∧ vs = [y] ∧ H l = some (.lst xs) ∧ xs.length < sizeLine ∧ Q .non (upd H l (.lst (xs ++ [y])))
theorem mt_append : MtM X "list.append" rAppend := by
  intro pins s σ H x vs v us Q I rx rv h
  obtain ⟨l, xs, y, rfl, rfl, hH, hz, q⟩ := h
  cases rx
  obtain ⟨u, rfl, ru⟩ := rv.one
  obtain ⟨z, its, n, r, hl, e⟩ := I.lstM hH
  refine call_meets F.slot_list_append ⟨_, e, rfl⟩ F.entry_list_append (F.args_list_append_2 _ _) (PySem.list_append l its.toArray n u (by rw [List.size_toArray]; omega)) ⟨e, ?_⟩
  refine ⟨.non, _, I.lset (its' := its ++ [u]) hH e (by simp) (r.append (.cons ru .nil)) ?_, rfl, q⟩
  rw [List.length_append, List.length_singleton]
  omega

/-! ### list + list, list += list, list * int -/
/-- a list times an int (a negative one is nothing) -/
def rRep : R2 := fun x y H Q => ∃ l k xs, x = .ref l ∧ y = .int k ∧ H l = some (.lst xs) ∧ -(2 ^ 63) ≤ k ∧ k < 2 ^ 63 ∧ xs.length * k.toNat ≤ sizeLine ∧
  ∀ p, H p = none → Q (.ref p) (upd H p (.lst (List.replicate k.toNat xs).flatten))
theorem len_rep {α : Type} (xs : List α) (k : Nat) : (List.replicate k xs).flatten.length = k * xs.length := by
  induction k with
  | zero => simp
  | succ k ih => rw [List.replicate_succ, List.flatten_cons, List.length_append, ih, Nat.succ_mul, Nat.add_comm]
theorem op_rep : OpR X (binaryOp .Mult) rRep := by
  intro pins s σ H x y v u Q I rx ry h
  obtain ⟨l, k, xs, rfl, rfl, hH, h1, h2, hz, q⟩ := h
  cases rx
  obtain ⟨t, rfl⟩ := ry
  obtain ⟨z, its, n, r, hl, e⟩ := I.lstM hH
  have hlen : its.toArray.size * k.toNat ≤ sizeLine := by rw [List.size_toArray, ← hl]; exact hz
  have hcap : ¬ its.toArray.size * k.toNat > (2 ^ 63 - 1) / 8 := by
    have : (sizeLine : Nat) ≤ (2 ^ 63 - 1) / 8 := by decide
    omega
  have hfit : ¬ (!Builtin.List.listFitsIndex k) = true := by
    rw [fitsIndex_both h1 h2]
    exact Bool.false_ne_true
  have hlong : ¬ Builtin.List.listTooLong (its.toArray.size * k.toNat) = true := by
    rw [notLongL hlen]
    exact Bool.false_ne_true
  have hnew : List.foldl (fun x1 x2 => x1 ++ x2) #[] (List.replicate (if its.toArray.isEmpty = true then 0 else k.toNat) its.toArray) = (List.replicate k.toNat its).flatten.toArray := by
    have f0 : ∀ m : Nat, List.foldl (fun x1 x2 => x1 ++ x2) #[] (List.replicate m its.toArray) = (List.replicate m its).flatten.toArray := fun m => by
      have := foldl_rep its m []
      rw [List.nil_append] at this
      exact this
    rw [f0]
    cases its with
    | nil => simp
    | cons a r' => rw [if_neg (by simp)]
  refine wpAny_binaryOp_repeat_ref (T := "list") (U := "int") (by decide) ⟨_, e, rfl⟩ (fun s' => typeIs_int s' k t) noFill_list_mul F.fills_int_mul F.slot_int_rmul repeat_list F.slot_int_index.lookup
    (call_meets F.slot_int_rmul (typeIs_int s k t) F.entry_int_rmul (F.args_int_rmul_2 _ _) (int___rmul___int_list k t l its.toArray n)
      ⟨e, rfl, ⟨_, e, rfl⟩, call_meets F.slot_list_mul ⟨_, e, rfl⟩ F.entry_list_mul (F.args_list_mul_2 _ _) (AutoListH.list___mul___list_int_3 l its.toArray n k t hfit hcap hlong) ⟨e, ?_⟩⟩)
  rw [hnew]
  exact ⟨.ref _, _, I.lnew (t' := s.toks) (r.rep k.toNat) (by rw [len_rep, Nat.mul_comm]; exact hz), rfl, q _ I.fresh⟩

/-! ### del xs[i] -/
end

/-! ### xs[a:b] = ys -/
section
variable {prog : Program} {w : World} {A : Around} {E : Value → Shared → Prop} {s : Shared}
set_option maxRecDepth 100000 in
end

section
variable {X : Cx}
end
end L2

namespace Att
open PySem PySem.W PySem.Calls PyProof.Rows

/-! ### the script -/
theorem ints_of_wellAll {P : Params} {h : Heap} : ∀ (ns : List Int) (vs : List Value), WellAll P h vs (ns.map WData.int) → IntsAre vs ns := by
  intro ns
  induction ns with
  | nil =>
    intro vs w
    rw [List.map_nil] at w
    cases w
    exact .nil
  | cons n ns ih =>
    intro vs w
    rw [List.map_cons] at w
    cases w with
    | cons a b =>
      cases a
      exact .cons _ _ (ih _ b)

theorem script_of {l : OpenLaw} {n : Nat} (hn : l.most = some n) {P : Params} {h : Heap} {args : List WData} {vals : List Value}
    (hpre : l.row.toRowW.claim.pre args = true) (hwl : WellAll P h vals args) :
    ∃ a vs ns, vals = [Value.ref a] ∧ args = [WData.list (ns.map WData.int)] ∧ h.get? a = some { cls := .type "list", data := .seq vs.toArray } ∧ IntsAre vs ns ∧ ns.length ≤ n := by
  have hsh : WShape.hasAll [] args [.list .int] = true := (pre_splitW hpre).1
  have hc : l.pre.holds [] { args := args } = true := (pre_splitW hpre).2
  obtain ⟨d, r, rfl, h1, h2⟩ := hasAllW_cons hsh
  obtain rfl := hasAllW_nil h2
  obtain ⟨xs, rfl, h3⟩ := hasW_list h1
  obtain ⟨ns, rfl⟩ := items_int h3
  have hlen : ns.length ≤ n := by
    unfold OpenLaw.pre at hc
    have h4 : (WTm.not (.lt (.lit (.int (n : Int))) (.len (.arg 0)))).holds [] { args := [.list (ns.map .int)] } = true := by
      have h4 := (holds_andW hc).1
      rw [hn] at h4
      exact h4
    have h5 := condW_of h4 (w_not (w_lt w_lit (w_len_list (w_arg rfl))))
    rw [List.length_map] at h5
    refine Nat.le_of_not_lt fun q => ?_
    have q' : (n : Int) < ((ns.length : Nat) : Int) := by omega
    first
      | (rw [decide_eq_true q'] at h5; exact absurd h5 (by decide))
      | (simp at h5; omega)
  cases hwl with
  | cons w1 w2 =>
    cases w2
    cases w1 with
    | list ho hall => exact ⟨_, _, ns, rfl, rfl, ho, ints_of_wellAll ns _ hall, hlen⟩

theorem post_true (l : OpenLaw) (args : List WData) : l.row.toRowW.claim.post args (.bool true) args = true :=
  postW_of (r := l.row.toRowW) (X := (true == true))
    (show WShape.has [] (.bool true) .bool = true by first | rfl | decide | simp [WShape.has, WShape.arms, WShape.armsAll])
    (show (WTm.eq .res (.lit (.bool true))).value [] { args := args, res := some (.bool true), after := args } = some (.bool (true == true)) from w_eq_bool (w_res rfl) w_lit) rfl

/-! ### the attachment: holds_open's last premise (the goal 'hc' behind k_head) from a wpAny of the law's body -/
/-- the same from a codeAny of the CALL (for a layer whose function contracts speak of calls) -/
theorem attach_call {l : OpenLaw} {n : Nat} {q : Program} {loose : List Str} {XP : (Str → Option Value) → Heap → Prop} {YP : World → Heap → Prop} {d : DefRec}
    (hn : l.most = some n) (hdf : d.params.defaults = [])
    (call : ∀ (w : World) (s₀ s₁ : Shared) (mg mb : Str → Option Value) (fa : Addr) (o : Obj) (pm cd doc : Value) (a : Addr) (vs : List Value) (ns : List Int),
      Ground q loose [] XP w s₀ mg mb s₁.heap → YP w s₁.heap →
      s₁.heap.get? fa = some o → o.data = .func (docDef d.name d.params d.body d.scope pm cd doc) → s₁.heap.CodeRec cd d.name → mg d.name = some (.ref fa) →
      s₁.heap.get? a = some { cls := .type "list", data := .seq vs.toArray } → IntsAre vs ns → ns.length ≤ n → s₁.gens = #[] →
      codeAny (model l.prog w) callerA (.call (.ref fa) ⟨[.ref a], []⟩) (fun r s' => r = .ok (.ret (.bool true)) ∧ OldK s₁.heap s'.heap ∧ s'.os = s₁.os ∧ AllBare s'.gens) s₁) :
    WalkO q loose XP YP l.row.toRowW d [] (fun f vs => PySem.call f vs) := by
  intro w s₀ s₁ mg mb G Y fa o pm cd doc dV kV ho hd hcd hD hmg hg args vals as hpre hlay hrd hwl hlo
  obtain rfl : dV = .none := Dflts.none hD hdf
  obtain rfl : kV = .none := Dflts.noKw hD
  obtain ⟨a, vs, ns, rfl, rfl, hobj, hints, hlen⟩ := script_of hn hpre hwl
  refine enter_call (codeAny_mono (call w s₀ s₁ mg mb fa o pm cd doc a vs ns G Y ho (fd_plain hd) hcd hmg hobj hints hlen hg) fun r s' hq => ?_)
  obtain ⟨rfl, h2, h3, h4⟩ := hq
  exact ⟨.inl ⟨.bool true, .bool true, [], rfl, fun _ => rfl, .bool true, post_true l _, fun _ => ⟨List.Pairwise.nil, fun _ hm => (nomatch hm)⟩⟩, h2, h3, h4⟩

/-! ### rules over ANY heap (no ledger) from facts about the written part K: the library's own take a ledger (News) for what they write -/
section
variable {prog : Program} {w : World} {A : Around} {E : Value → Shared → Prop} {s : Shared} {K : Frag}

/-! the whole heap as the ledger: makes every rule that writes through a ledger a rule over any heap -/
def ledger (h : Heap) (L d : Addr) : List (Addr × Obj) := (List.range h.objs.size).filterMap fun a => if a = L ∨ a = d then none else (h.get? a).map fun o => (a, o)
end
end Att

namespace L2
open PySem PySem.Spec PyProof.Rows

theorem vals_ints : ∀ {vs : List Value} {ns : List Int}, IntsAre vs ns → Vals (ns.map V.int) vs
  | _, _, .nil => .nil
  | _, _, .cons n t h => .cons ⟨t, rfl⟩ (vals_ints h)

/-- nothing is tracked but the script, known to the object (or it is an object of the module) -/
def Only (H : Hp) : Prop := ∀ b, H b = none ∨ ∃ o xs, H b = some (.frz o (.lst xs))

/-- THE HEAD: the law's promise, at the heap behind the top. F, the promise of the law's def, may use that base is part of the heap (so K.In base, base.Ns mainGlobals mg stand in Mod) -/
theorem law_call {P : Program} {w : World} {K : PySem.W.Frag} {mg mb : Str → Option Value} {CX : CXT} {k : Nat} {fa a : Addr} {fd : FuncData} {x : Str} {sp : Sp} {s₁ : Shared} {vs : List Value} {ns : List Int}
    (KX : K.In s₁.heap) (hns : s₁.heap.Ns mainGlobals mg) (hb : s₁.heap.Ns builtinsNs mb) (hbb : ∀ x : Str, x ≠ "__name__" → mb x = bootBuiltins x) (hlim : s₁.heap.NoLimit) (hg : s₁.gens = #[])
    (ha : s₁.heap.get? a = some { cls := .type "list", data := .seq vs.toArray }) (hi : IntsAre vs ns) (hl : ns.length ≤ sizeLine) (hr : Room k callerA)
    (F : ∀ base : Heap, K.In base → base.Ns mainGlobals mg → FnOk P w K mg base CX k fa fd [x] sp) (hbind : ∀ (s : Shared) (u : Value), BindsTo s fd ⟨[u], []⟩ [(x, u)])
    (hsp : ∀ H : Hp, Only H → SqL K H a (ns.map V.int) → sp [.ref a] H (fun v _ => v = .bl true) fun _ _ _ => False)
    (hCX : ∀ H e s', CX [] H s₁ (fun _ _ _ => False) e s' → False) :
    codeAny (model P w) callerA (.call (.ref fa) ⟨[.ref a], []⟩) (fun r s' => r = .ok (.ret (.bool true)) ∧ OldK s₁.heap s'.heap ∧ s'.os = s₁.os ∧ AllBare s'.gens) s₁ := by
  have rv := vals_ints hi
  have lenV := hi.length
  -- from an abstract heap in which nothing but the script may be tracked
  have core : ∀ H : Hp, Only H → SqL K H a (ns.map V.int) → HOk P w H s₁.heap → (∀ b, H b ≠ none → b = a) → (H a ≠ none → K.lookup a = none) →
      codeAny (model P w) callerA (.call (.ref fa) ⟨[.ref a], []⟩) (fun r s' => r = .ok (.ret (.bool true)) ∧ OldK s₁.heap s'.heap ∧ s'.os = s₁.os ∧ AllBare s'.gens) s₁ := by
    intro H hO hS hok hA hK
    have base_of : ∀ {b : Addr} {o : Obj}, s₁.heap.get? b = some o → H b = none → (hidT s₁.heap H).get? b = some o := fun e n => hidT_get e n
    have noA : ∀ {b : Addr} {o : Obj} {es : Array DictEntry} {ep : Nat}, s₁.heap.get? b = some o → o.data = .dict es ep → H b = none := fun {b o es ep} e d => by
      cases q : H b with
      | none => rfl
      | some u =>
        have e' : b = a := hA b (by rw [q]; simp)
        subst e'
        rw [ha] at e; cases e
        have d' : Data.seq vs.toArray _ = Data.dict es ep := d
        cases d'
    have nsK : ∀ {b : Addr} {m : Str → Option Value}, s₁.heap.Ns b m → (hidT s₁.heap H).Ns b m := fun {b m} ⟨o, es, ep, e, d, r⟩ => ⟨o, es, ep, base_of e (noA e d), d, r⟩
    have hKb : K.In (hidT s₁.heap H) := fun b o e => base_of (KX b o e) (by
      cases q : H b with
      | none => rfl
      | some u =>
        have e' : b = a := hA b (by rw [q]; simp)
        subst e'
        rw [hK (by rw [q]; simp)] at e; cases e)
    have hM : Mod K mg (hidT s₁.heap H) := ⟨hKb, nsK hns, ⟨mb, nsK hb, hbb⟩, let ⟨mc, h1, h2⟩ := hlim; ⟨mc, nsK h1, h2⟩⟩
    have e0 : Env0 P w K mg (hidT s₁.heap H) callerA [] s₁ H := ⟨rfl, hM, fun b o e => of_hidT e, Nat.le_of_eq (hidT_size _ _), trivial, fun b hb => absurd (show b ∈ ([] : List Addr) from hb) (by simp), hok, .of_eq hg⟩
    refine codeAny_mono ((F _ hKb (nsK hns)).run callerA [] s₁ H ⟨[.ref a], []⟩ [.ref a] [.ref a] _ _ hr e0 (hbind s₁ (.ref a)) (.cons rfl .nil) (hsp H hO hS)) fun r s' h => ?_
    cases r with
    | error e => exact (hCX H e s' h).elim
    | ok fl =>
      cases fl with
      | next => exact False.elim h
      | brk => exact False.elim h
      | cont => exact False.elim h
      | ret u =>
        obtain ⟨v, H', os, bare, un, hok', r', q⟩ := h
        have q' : v = .bl true := q
        subst q'
        obtain rfl : u = Value.bool true := r'
        refine ⟨rfl, OldK.of_keep fun b o e => ?_, os, bare⟩
        cases q : H b with
        | none => exact un.keep b o e q (by intro z; exact absurd (show b ∈ ([] : List Addr) from z) (by simp)) (by simp)
        | some u =>
          rcases hO b with z | ⟨ob, xs, z⟩
          · rw [q] at z; cases z
          · have z2 := un.frzs b ob _ z
            obtain ⟨e1, _⟩ := hok b _ z
            obtain ⟨e2, _⟩ := hok' b _ z2
            rw [e] at e1; cases e1
            exact e2
  cases hk : K.lookup a with
  | some o =>
    -- the script is one of the module's own objects
    have e := KX a o hk
    rw [ha] at e
    cases e
    refine core (fun _ => none) (fun _ => .inl rfl) (.inr ⟨_, vs.toArray, _, hk, rfl, rfl, rfl, by rw [List.size_toArray, lenV]; exact hl, by simpa using rv⟩) (fun b u z => by have z' : (none : Option HO) = some u := z; cases z') (fun b z => absurd rfl z) fun z => absurd rfl z
  | none =>
    refine core (fun b => if b = a then some (.frz { cls := .type "list", data := .seq vs.toArray } (.lst (ns.map V.int))) else none) (fun b => ?_) (.inl (.inr ⟨{ cls := .type "list", data := .seq vs.toArray }, if_pos rfl⟩)) (fun b u z => ?_) (fun b z => ?_) fun _ => hk
    · by_cases hb : b = a
      · exact .inr ⟨_, _, if_pos hb⟩
      · exact .inl (if_neg hb)
    · by_cases hb : b = a
      · have z' := (if_pos hb).symm.trans z
        cases z'
        subst hb
        exact ⟨ha, by rw [List.length_map]; exact hl, vs, _, rv, ha⟩
      · have z' := (if_neg hb).symm.trans z
        cases z'
    · by_cases hb : b = a
      · exact hb
      · exact absurd (if_neg hb) z
end L2

namespace L2
open PySem PySem.Spec PyProof.Rows

abbrev KOf {K : PySem.W.Frag} {h : Heap} (_ : K.In h) : PySem.W.Frag := K

/-- the goal that k_head leaves (case hc), from the law's promise. F gives the function object fd (K's own) once, then the promise over every base -/
theorem walk_of {l : PySem.W.OpenLaw} {n k : Nat} {q : Program} {loose : List Str} {XP : (Str → Option Value) → Heap → Prop} {YP : World → Heap → Prop} {d : DefRec} {K : Params → PySem.W.Frag} {CX : World → CXT} {sp : World → Sp} {x : Str}
    (hn : l.most = some n) (hn2 : n ≤ sizeLine) (hdf : d.params.defaults = []) (hr : Room k callerA)
    (hY : ∀ (w : World) (h : Heap), YP w h → (K w.params).In h)
    (F : ∀ (w : World) (mg : Str → Option Value) (fa : Addr) (h : Heap), (K w.params).In h → h.Ns mainGlobals mg → mg d.name = some (.ref fa) →
      ∃ fd : FuncData, (∀ (s : Shared) (u : Value), BindsTo s fd ⟨[u], []⟩ [(x, u)]) ∧
        ∀ base : Heap, (K w.params).In base → base.Ns mainGlobals mg → FnOk l.prog w (K w.params) mg base (CX w) k fa fd [x] (sp w))
    (hsp : ∀ (w : World) (H : Hp) (a : Addr) (ns : List Int), ns.length ≤ n → Only H → SqL (K w.params) H a (ns.map V.int) → sp w [.ref a] H (fun v _ => v = .bl true) fun _ _ _ => False)
    (hCX : ∀ (w : World) (H : Hp) (s : Shared) (e : Value) (s' : Shared), CX w [] H s (fun _ _ _ => False) e s' → False) :
    PySem.W.WalkO q loose XP YP l.row.toRowW d [] (fun f vs => PySem.call f vs) := by
  refine Att.attach_call hn hdf fun w s₀ s₁ mg mb fa o pm cd doc a vs ns G Y ho hd hcd hmg hobj hints hlen hg => ?_
  have KX := hY w _ Y
  obtain ⟨fd, hb, hF⟩ := F w mg fa _ KX G.T.g hmg
  exact law_call KX G.T.g G.T.b G.T.builtins G.T.nolimit hg hobj hints (Nat.le_trans hlen hn2) hr hF hb (fun H hO hS => hsp w H a ns hlen hO hS) fun H e s' => hCX w H s₁ e s'
end L2

/- THE LAST THEOREM (shape; LID, My.* are yours):
   My.Adr: a structure of the addresses that your layer names (classes, functions); My.Txt K t: a structure (Prop) of the equations over K;
   My.txt_mk : {K} {implicit addresses ..} (e1 : nsIn K mainGlobals "law" = some (some (.ref f))) (e2 : K.lookup f = some ⟨oc, od, .func (fnOf "law" "law" params body scope dV kV doc pm an cdv ct), sl⟩) (e3 : codeIn K cdv "law" = true) .. : ∃ t, My.Txt K t

set_option maxRecDepth 100000 in
set_option maxHeartbeats 0 in
theorem PySem.Challenge.cw_LID_holds : PySem.Challenge.rw_LID.Holds := by
  w_on; o_law; k_head; (case hw => w_witness2)
  k_fill
  refine L2.walk_of (l := PySem.Challenge.rw_LID) (n := 63) (k := 40) (x := "script") (CX := fun w => ..) (sp := fun _ => My.sp_law) rfl (by decide) rfl ⟨rfl, by decide, by decide⟩ (fun w h Y => PySem.W.kIn_of Y) ?F ?S ?C
  case F =>
    intro w mg fa h KX G hmg
    have T : ∃ t, My.Txt (L2.KOf KX) t := by
      dsimp only [L2.KOf]                          -- K must stand as «<heap const> w.params» for k_is
      refine' My.txt_mk ?e1 ?e2 ?e3 ..
      (case e1 => PySem.W.k_is)                    -- in the order: a name -> its address -> its object -> its parts
      (case e2 => PySem.W.k_is)
      ..
    obtain ⟨t, T⟩ := T
    have e0 := hmg.symm.trans (PySem.W.mg_of KX G T.law)
    cases e0                                       -- fa is the law's own address
    exact ⟨_, fun s u => .of_eq rfl, fun base kb nb => My.law_fn T kb nb⟩     -- if «.of_eq rfl» comes too early: refine' ⟨_, ?b, fun base kb nb => My.law_fn T kb nb⟩; exact fun s u => .of_eq rfl
  case S => exact fun w H a ns hl hO hS => ..
  case C => exact ..
(the tactic k_is has no namespace: write k_is) -/

/-! SHORT WORDS over the layer: a def of the text, its body, what a loop and a test want. -/
namespace L2
open PySem PySem.Spec PyProof.Rows

/-! ### the text by places -/
def defArgs (s : Stmt) : Arguments := match s with
  | .FunctionDef _ a _ _ _ _ _ _ _ _ => a
  | _ => { posonlyargs := [], args := [], vararg := none, kwonlyargs := [], kw_defaults := [], kwarg := none, defaults := [] }
def defBody (s : Stmt) : List Stmt := match s with
  | .FunctionDef _ _ b _ _ _ _ _ _ _ => b
  | _ => []
def defScope (s : Stmt) : Scope := match s with
  | .FunctionDef _ _ _ _ _ _ sc _ _ _ => sc
  | _ => { kind := .function, names := [], isGenerator := false, isCoroutine := false }

/-! ### no exception leaves a def -/
abbrev CX0 : CXT := fun _ _ _ _ _ _ => False
abbrev E0 : XK := fun _ _ _ => False
theorem pass0 {X : Cx} : Passes CX0 X E0 := fun _ _ _ _ _ _ _ h => h.elim

/-! ### a def (or method) of the text as it stands behind the top -/
structure Fun (K : PySem.W.Frag) (x qual : Str) (st : Stmt) (f : Addr) (fd : FuncData) : Prop where
  ex : ∃ (oc : Value) (od : Option Addr) (kV doc pm : Value) (an : Option Addr) (cdv ct : Value) (osl : Array (Option Value)),
    fd = PySem.W.fnOf x qual (defArgs st) (defBody st) (defScope st) .none kV doc pm an cdv ct ∧ K.lookup f = some ⟨oc, od, .func fd, osl⟩ ∧ PySem.W.codeIn K cdv qual = true
  kp : PySem.W.keepIn K (.ref f) = true
section
variable {P : Program} {w : World} {K : PySem.W.Frag} {mg : Str → Option Value} {base : Heap}
/-- THE RULE for a def: its body as a term of rules, and the reading of that term -/
theorem Fun.ok {x qual : Str} {st : Stmt} {f : Addr} {fd : FuncData} {N ps : List Str} {k : Nat} {sp : Sp} (F : Fun K x qual st f fd) (S : FnScope N ps (defScope st)) (len : ∀ vs H Q E, sp vs H Q E → vs.length = ps.length)
    (hbody : ∀ (cdv : Value) (A : Around) (outer : List Env) (s : Shared) (H : Hp) (vs : List V) (Q : VK) (E : XK), Room k (A.deeper (envOfC qual (defScope st) s.heap.objs.size f cdv)) → sp vs H Q E →
      ∃ t, PSs (cxOf CX0 P w K mg base N qual (defScope st) f cdv A outer s H E).nox (defBody st) t ∧ t { nx := fun _ H' => Q .non H', rt := Q } (start N vs) H) : FnOk P w K mg base CX0 (k + 1) f fd ps sp := by
  obtain ⟨oc, od, kV, doc, pm, an, cdv, ct, osl, rfl, lk, hcd⟩ := F.ex
  refine fn_of lk hcd S len fun A outer s H vs Q E hr hsp => ?_
  obtain ⟨t, h, q⟩ := hbody cdv A outer s H vs Q E hr hsp
  exact ⟨t, h.nox, q⟩
/-- how its arguments bind (no defaults): h is «fun _ _ _ _ _ _ us hl => match us, hl with | [_, _], _ => rfl», one _ a parameter -/
theorem Fun.binds {x qual : Str} {st : Stmt} {f : Addr} {fd : FuncData} {ps : List Str} (F : Fun K x qual st f fd)
    (h : ∀ (kV doc pm : Value) (an : Option Addr) (cdv ct : Value) (us : List Value), us.length = ps.length → bindArgs (PySem.W.fnOf x qual (defArgs st) (defBody st) (defScope st) .none kV doc pm an cdv ct) ⟨us, []⟩ = pure (ps.zip us)) : Binds K fd ps [] := by
  obtain ⟨oc, od, kV, doc, pm, an, cdv, ct, osl, rfl, lk, hcd⟩ := F.ex
  exact .all (h kV doc pm an cdv ct)
theorem fun_mk {x qual : Str} {st : Stmt} {f : Addr} {oc : Value} {od an : Option Addr} {osl : Array (Option Value)} {kV doc pm cdv ct : Value} (l : K.lookup f = some ⟨oc, od, .func (PySem.W.fnOf x qual (defArgs st) (defBody st) (defScope st) .none kV doc pm an cdv ct), osl⟩)
    (c : PySem.W.codeIn K cdv qual = true) (k : PySem.W.keepIn K (.ref f) = true) : Fun K x qual st f (PySem.W.fnOf x qual (defArgs st) (defBody st) (defScope st) .none kV doc pm an cdv ct) := ⟨⟨oc, od, kV, doc, pm, an, cdv, ct, osl, rfl, l, c⟩, k⟩
end
theorem small1000 {n : Nat} (h : n ≤ 1000) : n < sizeLine := Nat.lt_of_le_of_lt h (by decide)

/-! ### expressions in short: the name that stands in the i-th slot -/
section
variable {X : Cx}
theorem pv (i : Nat) {x : Str} {pos : Pos} (hN : X.N[i]? = some x := by rfl) (hv : Vis X.env.scope x := by first | exact Or.inl rfl | exact Or.inr (Or.inl rfl) | exact Or.inr (Or.inr rfl)) (hd : (x == ("__debug__" : Str)) = false := by decide)
    (hcd : (x == ("__classdict__" : Str)) = false := by decide) : PE X (.Name x pos) (tVar i) := pe_var hN hv hd hcd
end

/-! ### tests -/
/-! ### heaps -/
/-- all that was tracked is as it was -/
def Same (H H' : Hp) : Prop := ∀ b o, H b = some o → H' b = some o
theorem Same.refl (H : Hp) : Same H H := fun _ _ h => h
theorem Same.trans {H H1 H2 : Hp} (a : Same H H1) (b : Same H1 H2) : Same H H2 := fun c o h => b c o (a c o h)
theorem Same.free {H H' : Hp} (e : Same H H') {l : Addr} (h : H' l = Option.none) : H l = Option.none := by
  cases q : H l with
  | none => rfl
  | some o =>
    rw [e l o q] at h
    cases h
theorem Same.seq {K : PySem.W.Frag} {H H' : Hp} {a : Addr} {xs : List V} (e : Same H H') (h : SqL K H a xs) : SqL K H' a xs := by
  rcases h with (h | ⟨o, h⟩) | h
  · exact .inl (.inl (e _ _ h))
  · exact .inl (.inr ⟨o, e _ _ h⟩)
  · exact .inr h

end L2

set_option Elab.async false
set_option linter.all false
set_option maxRecDepth 100000
namespace L2
open PySem PySem.Spec PyProof.Rows

/-! ### a comprehension's block -/
/-- what the block's names must be -/
def scOk (sc outer : Scope) : Bool :=
  decide (sc.kind = .function) && sc.names.all fun y => decide (y.2 ≠ .cell) && (decide (y.2 ≠ .free) || decide (outer.names.lookup y.1 = some .cell) || decide (outer.names.lookup y.1 = some .free)) && (decide (y.2 ≠ .local) || decide (sc.names.lookup y.1 = some .local))
/-- the block's names, each with its place among the names around it (none: its own) -/
def muOk (N NB : List Str) (sc : Scope) (μ : List (Option Nat)) : Bool :=
  decide (NB.length = μ.length) && (NB.zip μ).all fun p => match p.2 with
    | none => true
    | some i => decide (N[i]? = some p.1) && decide (sc.names.lookup p.1 = some .free)
def muSt (μ : List (Option Nat)) (σ : St) : St := μ.map fun o => o.bind fun i => (σ[i]?).join
def clGo (cells : List (Str × Addr)) : List (Str × NameKind) → List (Str × Addr) → List (Str × Addr)
  | [], cs => cs
  | (n, k) :: r, cs => clGo cells r (if (k == .free) = true then (n, (cells.lookup n).getD 0) :: cs else cs)
theorem closureFor_eq {scope : Scope} {env : Env} (h : ∀ y ∈ scope.names, y.2 = .free → ∃ c, env.cells.lookup y.1 = some c) : closureFor scope env = pure (clGo env.cells scope.names []) := by
  unfold closureFor
  have key : ∀ (names : List (Str × NameKind)) (cs : List (Str × Addr)), (∀ y ∈ names, y.2 = .free → ∃ c, env.cells.lookup y.1 = some c) →
      (forIn names cs fun (x : Str × NameKind) r => match x with
        | (name, kind) => if (kind == NameKind.free) = true then do
            let __do_lift ← cellOf env name
            pure (ForInStep.yield ((name, __do_lift) :: r))
          else pure (ForInStep.yield r) : Sem _) = pure (clGo env.cells names cs) := by
    intro names
    induction names with
    | nil => intro cs _; rfl
    | cons y r ih =>
      intro cs hy
      obtain ⟨n, k⟩ := y
      rw [List.forIn_cons]
      by_cases hk : k = .free
      · subst hk
        obtain ⟨c, hc⟩ := hy (n, .free) List.mem_cons_self rfl
        have e : cellOf env n = pure c := by unfold cellOf; rw [show env.cells.lookup n = some c from hc]
        simp only [e, beq_self_eq_true, if_true, pure_bind]
        rw [ih _ fun z hz => hy z (List.mem_cons_of_mem _ hz)]
        simp only [clGo, beq_self_eq_true, if_true]
        rw [show env.cells.lookup n = some c from hc]; rfl
      · have hb : (k == NameKind.free) = false := by simpa using hk
        simp only [hb, Bool.false_eq_true, if_false, pure_bind]
        rw [ih _ fun z hz => hy z (List.mem_cons_of_mem _ hz)]
        simp only [clGo, hb, Bool.false_eq_true, if_false]
  have q := key scope.names [] h
  simp only [bind_pure]
  exact q
theorem clGo_mem {cells : List (Str × Addr)} : ∀ {names : List (Str × NameKind)} {cs : List (Str × Addr)} {x : Str} {c : Addr}, (x, c) ∈ clGo cells names cs → (x, c) ∈ cs ∨ ((x, .free) ∈ names ∧ c = (cells.lookup x).getD 0)
  | [], cs, x, c, h => .inl h
  | (n, k) :: r, cs, x, c, h => by
    rcases clGo_mem (names := r) h with q | ⟨q, e⟩
    · by_cases hk : k = .free
      · subst hk
        simp only [beq_self_eq_true, if_true] at q
        rcases List.mem_cons.mp q with z | z
        · cases z; exact .inr ⟨List.mem_cons_self, rfl⟩
        · exact .inl z
      · have hb : (k == NameKind.free) = false := by simpa using hk
        simp only [hb, Bool.false_eq_true, if_false] at q
        exact .inl q
    · exact .inr ⟨List.mem_cons_of_mem _ q, e⟩
theorem clGo_keeps {cells : List (Str × Addr)} : ∀ {names : List (Str × NameKind)} {cs : List (Str × Addr)} {p : Str × Addr}, p ∈ cs → p ∈ clGo cells names cs
  | [], _, _, h => h
  | (n, k) :: r, cs, p, h => by
    show p ∈ clGo cells r _
    refine clGo_keeps ?_
    by_cases hk : (k == NameKind.free) = true
    · rw [if_pos hk]; exact List.mem_cons_of_mem _ h
    · rw [if_neg hk]; exact h
theorem clGo_has {cells : List (Str × Addr)} : ∀ {names : List (Str × NameKind)} {cs : List (Str × Addr)} {x : Str}, (x, .free) ∈ names → ∃ c, (x, c) ∈ clGo cells names cs
  | (n, k) :: r, cs, x, h => by
    rcases List.mem_cons.mp h with z | z
    · cases z
      refine ⟨(cells.lookup n).getD 0, ?_⟩
      show _ ∈ clGo cells r (if (NameKind.free == NameKind.free) = true then _ else _)
      exact clGo_keeps (by rw [if_pos (beq_self_eq_true _)]; exact List.mem_cons_self)
    · exact clGo_has (names := r) z
theorem lookup_of_mem {x : Str} {c : Addr} : ∀ {l : List (Str × Addr)}, (x, c) ∈ l → ∃ c', l.lookup x = some c'
  | (y, d) :: r, h => by
    rw [List.lookup_cons]
    by_cases e : (x == y) = true
    · rw [e]; exact ⟨d, rfl⟩
    · rw [Bool.eq_false_iff.mpr e]
      rcases List.mem_cons.mp h with z | z
      · cases z; exact absurd (beq_self_eq_true x) e
      · exact lookup_of_mem z
/-- the block's names behind relabel -/
theorem relabel_look {scope : Scope} {env : Env} {x : Str} {k : NameKind} (h : (relabel scope env).names.lookup x = some k) : ∃ k', scope.names.lookup x = some k' ∧ (k = k' ∨ (k' = .free ∧ k = .cell)) := by
  unfold relabel at h
  dsimp only at h
  revert h
  induction scope.names with
  | nil => intro h; cases h
  | cons y r ih =>
    obtain ⟨n, k'⟩ := y
    intro h
    rw [List.map_cons, List.lookup_cons] at h
    rw [List.lookup_cons]
    by_cases hc : (k' == NameKind.free && env.scope.kind == .function && env.kindOf n == some .cell) = true
    · dsimp only at h
      rw [if_pos hc] at h
      dsimp only at h
      cases e : x == n with
      | true =>
        rw [e] at h
        have hf : k' = .free := by
          have := hc
          simp only [Bool.and_eq_true] at this
          simpa using this.1.1
        exact ⟨k', rfl, .inr ⟨hf, (Option.some.inj h).symm⟩⟩
      | false => rw [e] at h; exact ih h
    · dsimp only at h
      rw [if_neg hc] at h
      dsimp only at h
      cases e : x == n with
      | true => rw [e] at h; exact ⟨k', rfl, .inl (Option.some.inj h).symm⟩
      | false => rw [e] at h; exact ih h
theorem lookup_mem {α : Type} {x : Str} {k : α} : ∀ {l : List (Str × α)}, l.lookup x = some k → (x, k) ∈ l
  | (y, d) :: r, h => by
    rw [List.lookup_cons] at h
    cases e : x == y with
    | true => rw [e] at h; cases h; have : x = y := by simpa using e
              subst this; exact List.mem_cons_self
    | false => rw [e] at h; exact List.mem_cons_of_mem _ (lookup_mem h)
end L2

set_option Elab.async false
set_option linter.all false
set_option maxRecDepth 100000
namespace L2
open PySem PySem.Spec PyProof.Rows

def blockOf (X : Cx) (s : Shared) (H : Hp) (scope : Scope) (C : Addr) (NB : List Str) (ex : List Addr) : Cx :=
  { X with N := NB, s₀ := s, H₀ := H, env := compEnvC scope (clGo X.env.cells scope.names []) C X.env, outer := X.stack, stack := X.stack, ex := ex, fn := fun _ => false, pn := [], xe := fun _ _ => False }

section
variable {X : Cx} {pins : List (Addr × Obj)} {σ : St} {H : Hp} {s s4 : Shared} {scope : Scope} {NB : List Str} {μ : List (Option Nat)} {fp : List Addr} {C : Addr}

theorem scOk_kind (h : scOk scope X.env.scope = true) : scope.kind = .function := by
  unfold scOk at h
  simp only [Bool.and_eq_true, decide_eq_true_eq] at h
  exact h.1
theorem scOk_at {sc outer : Scope} (h : scOk sc outer = true) {y : Str × NameKind} (hy : y ∈ sc.names) : y.2 ≠ .cell ∧ (y.2 = .free → outer.names.lookup y.1 = some .cell ∨ outer.names.lookup y.1 = some .free) ∧ (y.2 = .local → sc.names.lookup y.1 = some .local) := by
  unfold scOk at h
  simp only [Bool.and_eq_true, decide_eq_true_eq, List.all_eq_true, Bool.or_eq_true] at h
  obtain ⟨⟨h1, h2⟩, h3⟩ := h.2 y hy
  exact ⟨h1, fun e => by rcases h2 with (q | q) | q
                         · exact absurd e q
                         · exact .inl q
                         · exact .inr q, fun e => h3.elim (fun q => absurd e q) id⟩
theorem block_free (I : Inv X pins σ H s) (h : scOk scope X.env.scope = true) {x : Str} (hx : (x, .free) ∈ scope.names) : ∃ c, X.env.cells.lookup x = some c := I.ok.has x ((scOk_at h hx).2.1 rfl)
theorem block_cl (I : Inv X pins σ H s) (h : scOk scope X.env.scope = true) {x : Str} {c : Addr} (e : (clGo X.env.cells scope.names []).lookup x = some c) : X.env.cells.lookup x = some c := by
  rcases clGo_mem (lookup_mem e) with q | ⟨q, r⟩
  · cases q
  · obtain ⟨c', e'⟩ := block_free I h q
    rw [e'] at r
    rw [e', r]; rfl
theorem block_kind {env : Env} (h : scOk scope env.scope = true) {x : Str} {k : NameKind} (hk : (relabel scope env).names.lookup x = some k) (hc : k = .cell ∨ k = .free) : (x, .free) ∈ scope.names := by
  obtain ⟨k', e, q⟩ := relabel_look hk
  have m := lookup_mem e
  have n := (scOk_at h m).1
  rcases q with q | ⟨q, _⟩
  · subst q
    rcases hc with z | z
    · exact absurd z n
    · subst z; exact m
  · subst q; exact m
theorem muOk_at (h : muOk X.N NB scope μ = true) : NB.length = μ.length ∧ ∀ (j i : Nat), μ[j]? = some (some i) → ∃ x, NB[j]? = some x ∧ X.N[i]? = some x ∧ scope.names.lookup x = some .free := by
  unfold muOk at h
  simp only [Bool.and_eq_true, decide_eq_true_eq, List.all_eq_true] at h
  refine ⟨h.1, fun j i e => ?_⟩
  have hj : j < NB.length := by rw [h.1]; exact (List.getElem?_eq_some_iff.mp e).1
  have m : (NB[j], some i) ∈ NB.zip μ := by
    refine List.mem_iff_getElem?.mpr ⟨j, ?_⟩
    rw [List.getElem?_zip_eq_some]
    exact ⟨List.getElem?_eq_getElem hj, e⟩
  have q := h.2 _ m
  dsimp only at q
  simp only [Bool.and_eq_true, decide_eq_true_eq] at q
  exact ⟨NB[j], List.getElem?_eq_getElem hj, q.1, q.2⟩

/-- the block is entered -/
theorem block_start (I : Inv X pins σ H s) (hsc : scOk scope X.env.scope = true) (hmu : muOk X.N NB scope μ = true) (hfp : ∀ b ∈ fp, FpOk X pins H b) (hob : ∀ b ∈ fp, ∃ o, s.heap.get? b = some o)
    (hC : s.heap.objs.size ≤ C) {h4 : Heap} {t4 : Nat} (ns : h4.Ns C fun _ => none) (k : ∀ b o, s.heap.get? b = some o → h4.get? b = some o) :
    Inv (blockOf X s H scope C NB fp) [] (muSt μ σ) H { s with heap := h4, toks := t4 } := by
  obtain ⟨hlen, hmu⟩ := muOk_at hmu
  have ltC : ∀ b o, s.heap.get? b = some o → b ≠ C := fun b o e => Nat.ne_of_lt (Nat.lt_of_lt_of_le (Heap.lt_size e) hC)
  have cellOld : ∀ x c, X.env.cells.lookup x = some c → c ≠ C := fun x c e => by
    obtain ⟨v, o, ho, _⟩ := I.cell x c e
    exact ltC c o ho
  refine ⟨⟨I.ok.mod, (show scope.kind = _ from scOk_kind hsc), I.ok.glob, I.ok.blt, hC, fun x y c h1 h2 => I.ok.inj x y c (block_cl I hsc h1) (block_cl I hsc h2), fun x hx => ?_, fun x c h _ => (by cases h), I.ok.hd, I.ok.frames, .inl rfl, fun b hb => ?_, I.bs, Nat.le_trans I.ok.bsz I.sz, fun b o e hb => ?_, fun b hb hz => ?_, I.stack, I.stkFree⟩,
    rfl, I.bare, Un.kept k, ⟨_, ns, fun j x v e1 e2 e3 => ?_⟩, fun x c e => ?_, I.hok.fresh hC, fun x c e => I.freeC x c (block_cl I hsc e), fun p hp => (by cases hp), I.hok.kept k, ?_⟩
  · have q : (x, NameKind.free) ∈ scope.names := by
      rcases hx with hx | hx
      · exact block_kind hsc hx (.inl rfl)
      · exact block_kind hsc hx (.inr rfl)
    obtain ⟨c, m⟩ := clGo_has (cells := X.env.cells) (cs := []) q
    exact lookup_of_mem m
  · obtain ⟨o, ho⟩ := hob b hb
    refine ⟨ltC b o ho, fun x c e z => ?_⟩
    exact (hfp b hb).2.2.2.2.1 x c (block_cl I hsc e) z
  · rcases (hfp b hb).2.2.2.1 with z | z
    · exact I.ok.noex b o e z
    · exact absurd (Nat.lt_of_lt_of_le (Heap.lt_size (I.ok.bs b o e).1) z) (Nat.lt_irrefl _)
  · rcases List.mem_cons.mp (I.stkSub b hz) with e | e
    · exact (hfp b hb).2.1 e
    · exact (hfp b hb).2.2.1 e
  · have e2' : (μ[j]?).map (fun o => o.bind fun i => (σ[i]?).join) = some (some v) := by
      rw [← List.getElem?_map]; exact e2
    cases q : μ[j]? with
    | none => rw [q] at e2'; cases e2'
    | some o =>
      rw [q] at e2'
      cases o with
      | none => cases e2'
      | some i =>
        have e4 : (σ[i]?).join = some v := by simpa using e2'
        have e5 : σ[i]? = some (some v) := by
          cases z : σ[i]? with
          | none => rw [z] at e4; cases e4
          | some w => rw [z] at e4; simp at e4; rw [e4]
        obtain ⟨x', n1, n2, n3⟩ := hmu j i q
        have ex : x' = x := Option.some.inj (n1.symm.trans e1)
        subst ex
        have m := lookup_mem n3
        have ov := (scOk_at hsc m).2.1 rfl
        obtain ⟨mm, hn, hl⟩ := I.loc
        obtain ⟨u, r, l⟩ := hl i x' v n2 e5 (ov.elim (fun z => .inr (.inl z)) fun z => .inr (.inr z))
        refine ⟨u, r, .inr ⟨?_, ?_⟩⟩
        · rcases e3 with z | z | z
          · obtain ⟨k', z1, z2⟩ := relabel_look (k := .local) z
            rw [n3] at z1
            cases z1
            rcases z2 with z2 | ⟨_, z2⟩ <;> cases z2
          · exact .inl z
          · exact .inr z
        · rcases l with ⟨l, _⟩ | ⟨_, c, l1, l2⟩
          · rcases ov with z | z <;> (rw [show X.env.kindOf x' = _ from z] at l; cases l)
          · obtain ⟨c', m'⟩ := clGo_has (cells := X.env.cells) (cs := []) m
            obtain ⟨c'', l3⟩ := lookup_of_mem m'
            have l4 := block_cl I hsc l3
            rw [l1] at l4
            cases l4
            refine ⟨c, l3, ?_⟩
            obtain ⟨o, ho, hd⟩ := l2
            exact ⟨o, k _ _ ho, hd⟩
  · obtain ⟨v, o, ho, hd⟩ := I.cell x c (block_cl I hsc e)
    exact ⟨v, o, k _ _ ho, hd⟩
  · show (muSt μ σ).length = NB.length
    unfold muSt
    rw [List.length_map, hlen]

/-- an untracked list is tracked from now on -/
theorem HOk.adopt {P : Program} {w : World} {H : Hp} {h : Heap} {a : Addr} {o : HO} (x : HOk P w H h) (hn : H a = none) (new : ObjOk P w (upd H a o) h a o) : HOk P w (upd H a o) h := fun b u e => by
  by_cases hb : b = a
  · subst hb; rw [upd_same] at e; cases e; exact new
  · rw [upd_ne hb] at e
    exact (x b u e).stay (fun c v _ q => q) (fun c q => by rw [upd_ne (ne_of_none q hn)]; exact q) fun c xs q => by rw [upd_ne (ne_of_none q hn)]; exact q

/-- the block is left: its list is the value -/
theorem block_end {H' : Hp} {s' : Shared} {h' : Heap} {D : Addr} {pl : List (Addr × Obj)} {σ' : St} {its : List Value} {ys : List V} {n : Nat} (I : Inv X pins σ H s) (hfp : ∀ b ∈ fp, FpOk X pins H b) (J : Inv (blockOf X s H scope C NB fp) pl σ' H' s')
    (hC : s.heap.objs.size ≤ C) (hD : s.heap.objs.size ≤ D) (hDC : D ≠ C) (eD : s'.heap.get? D = some { cls := .type "list", data := .seq its.toArray n }) (nD : H' D = none) (r : Vals ys its) (hz : ys.length ≤ sizeLine)
    (sb : Heap.SameBut C s'.heap h') : Inv X pins σ (upd H' D (.lst ys)) { s' with heap := h' } := by
  have oldC : ∀ b o, s.heap.get? b = some o → b ≠ C := fun b o e => Nat.ne_of_lt (Nat.lt_of_lt_of_le (Heap.lt_size e) hC)
  have oldD : ∀ b o, s.heap.get? b = some o → b ≠ D := fun b o e => Nat.ne_of_lt (Nat.lt_of_lt_of_le (Heap.lt_size e) hD)
  have freshD : H D = none := I.hok.fresh hD
  have nC : H' C = none := J.free
  have u : Un (frs X.stack) fp H H' s.heap s'.heap := J.base
  have hok' : HOk X.prog X.w H' h' := fun b ob e => (J.hok b ob e).stay (fun c v hc q => (sb.2 c (by
    intro z
    subst z
    rcases hc with rfl | hc
    · rw [nC] at e; cases e
    · rw [nC] at hc; cases hc)).trans q) (fun _ q => q) fun _ _ q => q
  refine I.call' (ch := fp) J.os ⟨fun b o e n hb hx => ?_, fun b o e n hb hx => ?_, fun b o e n hx => ?_, fun b o e hx => ?_, fun b xs e => ?_, fun b o u' e => ?_, fun b ps e => ?_⟩ (hok'.adopt nD ⟨hz, its, n, r, (sb.2 D hDC).trans eD⟩) J.bare fun b hb => ?_
  · exact (sb.2 b (oldC b o e)).trans (u.keep b o e n hb hx)
  · obtain ⟨sl, q⟩ := u.slot b o e n hb hx
    exact ⟨sl, (sb.2 b (oldC b o e)).trans q⟩
  · rw [upd_ne (oldD b o e)]; exact u.free b o e n hx
  · obtain ⟨o', q⟩ := u.there b o e hx
    exact ⟨o', (sb.2 b (oldC b o e)).trans q⟩
  · rw [upd_ne (ne_of_none e freshD)]; exact u.tups b xs e
  · rw [upd_ne (ne_of_none e freshD)]; exact u.frzs b o u' e
  · rw [upd_ne (ne_of_none e freshD)]; exact u.tbls b ps e
  · obtain ⟨_, f1, _, f3, f4, f5⟩ := hfp b hb
    exact ⟨f3, f1, f4, f5⟩
end
end L2

set_option Elab.async false
set_option linter.all false
set_option maxRecDepth 100000
namespace L2
open PySem PySem.Spec PyProof.Rows

theorem compLoop_gen {prog : Program} {w : World} {A : Around} {R : Result → Shared → Prop} {s : Shared} {elt target iter : Expr} {ifs : List Expr} {scope : Scope} {pos : Pos} {it acc : Value} {env : Env} (I : Nat → Shared → Prop)
    (turn : ∀ n s, I n s → wpAny (model prog w) A (pyNext it) (fun r s₁ => match r with
      | none => R (.ok .next) s₁
      | some v => wpAny (model prog w) A (letOwnedTupleGo target it v) (fun _ s₁' => wpAny (model prog w) A (assign target env v) (fun _ s₂ =>
          wpAny (model prog w) A (forIn ifs true fun c r => if r = true then do let ok ← isTrue c env (eval c env); pure (ForInStep.yield ok) else pure (ForInStep.yield r)) (fun ok s₃ =>
            if ok = true then wpAny (model prog w) A (eval elt env) (fun x s₄ =>
              wpAny (model prog w) A (call (.builtin "list.append") [acc, x]) (fun _ s₅ => ∃ m, m < n ∧ I m s₅) (fun _ _ => False) s₄) (fun _ _ => False) s₃
            else ∃ m, m < n ∧ I m s₃) (fun _ _ => False) s₂) (fun _ _ => False) s₁') (fun _ _ => False) s₁) (fun _ _ => False) s)
    (n : Nat) (h : I n s) :
    codeAny (model prog w) A (.compLoop (.ListComp elt [⟨target, iter, ifs, 0⟩] scope pos) 0 it acc env) R s := by
  refine codeAny_loop rfl I (fun n s hI => ?_) n h
  show wpAny _ A ((compTurn (.ListComp elt [⟨target, iter, ifs, 0⟩] scope pos) 0 it acc env).onRaise (fun x => do noteFrame x env; theTreesLotGoes x)) _ _ s
  refine wpAny_noted ?_
  rw [compTurn_list]
  refine wpAny_bind (wpAny_standAt (wpAny_bind (wpAny_mono (turn n s hI) (fun r s₁ h₁ => ?_) fun _ _ h' => h'.elim)))
  cases r with
  | none => exact wpAny_pure h₁
  | some v =>
    refine wpAny_bind (wpAny_mono h₁ (fun _ s₁' h₁' => ?_) fun _ _ h' => h'.elim)
    refine wpAny_bind (wpAny_mono h₁' (fun _ s₂ h₂ => wpAny_bind (wpAny_mono h₂ (fun ok s₃ h₃ => ?_) fun _ _ h' => h'.elim)) fun _ _ h' => h'.elim)
    cases ok with
    | false => exact wpAny_pure ⟨rfl, h₃⟩
    | true =>
      exact wpAny_bind (wpAny_bind (wpAny_mono h₃ (fun x s₄ h₄ => wpAny_bind (wpAny_mono h₄ (fun _ s₅ h₅ => wpAny_pure (wpAny_pure ⟨rfl, h₅⟩)) fun _ _ h' => h'.elim)) fun _ _ h' => h'.elim))

/-- the tests of a comprehension -/
def PTs (X : Cx) (cs : List Expr) (t : TT) : Prop :=
  ∀ (pins : List (Addr × Obj)) (s : Shared) (σ : St) (H : Hp) (Q : Bool → Hp → Prop), Inv X pins σ H s → t σ H Q →
    wpAny (model X.prog X.w) X.A (forIn cs true fun c r => if r = true then do let ok ← isTrue c X.env (eval c X.env); pure (ForInStep.yield ok) else pure (ForInStep.yield r)) (TP X pins σ Q) X.xe s
def tYes : TT := fun _ H Q => Q true H
theorem pts_nil {X : Cx} : PTs X [] tYes := fun _ _ _ H _ I h => wpAny_tests_nil ⟨H, I, h⟩
theorem pts_one {X : Cx} {c : Expr} {t : TT} (h : PT X c t) : PTs X [c] t := fun pins s σ H Q I q => wpAny_tests_one (h pins s σ H Q I q)

/-- a target leaves the names around the block -/
def GKeeps (μ : List (Option Nat)) (g : TG) : Prop := ∀ σ x H Q, g x (muSt μ σ) H Q → g x (muSt μ σ) H fun σ' H' => Q σ' H' ∧ ∀ (j : Nat) v, (muSt μ σ)[j]? = some (some v) → σ'[j]? = some (some v)
theorem gk_name {μ : List (Option Nat)} {i : Nat} (h : μ[i]? = some none) : GKeeps μ (gName i) := fun σ x H Q q => by
  refine ⟨q, fun j v e => ?_⟩
  have hne : j ≠ i := fun z => by
    subst z
    unfold muSt at e
    rw [List.getElem?_map, h] at e
    cases e
  rw [List.getElem?_set_ne (Ne.symm hne)]
  exact e

/-- what a comprehension builds: W, by the turn, a measure, the items so far -/
def cBy (J : It) (H1 : Hp) (Q : VK) (st : V → Hp → (St → Hp → Prop) → Prop) (tc : TT) (te : TE) : Prop :=
  ∃ W : Nat → Nat → List V → Hp → Prop, (∃ m, W 0 m [] H1) ∧ ∀ i m ys H2, W i m ys H2 →
    (J.stop i H2 ∧ ∀ D, H2 D = none → Q (.ref D) (upd H2 D (.lst ys))) ∨
    (J.go i H2 ∧ ys.length < sizeLine ∧ ∃ N : List V → Hp → Prop, (∀ ys' H', N ys' H' → ∃ m', m' < m ∧ W (i + 1) m' ys' H') ∧ ∀ x H3, J.yld i H2 x H3 → st x H3 fun σ4 H4 => tc σ4 H4 fun b H5 => if b = true then te σ4 H5 fun y H6 => N (ys ++ [y]) H6 else N ys H5)
def tComp (wi : TI) (μ : List (Option Nat)) (g : TG) (tc : Shared → Hp → Addr → List Addr → TT) (te : Shared → Hp → Addr → List Addr → TE) : TE := fun σ H Q => wi σ H fun J H1 => ∀ s C ex, cBy J H1 Q (fun x H K => g x (muSt μ σ) H K) (tc s H1 C ex) (te s H1 C ex)

section
variable {X : Cx} {pins : List (Addr × Obj)} {σ : St} {H2 : Hp} {s2 : Shared} {tg elt iter : Expr} {ifs : List Expr} {scope : Scope} {pos : Pos} {NB : List Str} {μ : List (Option Nat)} {g : TG} {tc : Shared → Hp → Addr → List Addr → TT} {te : Shared → Hp → Addr → List Addr → TE} {fp : List Addr} {it : Addr} {tn : Nat → Heap → Prop} {J : It} {Q : VK}

/-- the block of a comprehension over an iterator that has come -/
theorem block_run (hc : X.calm = true) (I2 : Inv X pins σ H2 s2) (T : Turn X.prog X.w X.K tg J fp it tn) (st2 : tn 0 s2.heap) (f2 : ∀ b ∈ fp, FpOk X pins H2 b)
    (hsc : scOk scope X.env.scope = true) (hmu : muOk X.N NB scope μ = true) (hgk : GKeeps μ g)
    (hb : ∀ (s : Shared) (H : Hp) (C : Addr) (ex : List Addr), PG (blockOf X s H scope C NB ex) tg g ∧ PTs (blockOf X s H scope C NB ex) ifs (tc s H C ex) ∧ PE (blockOf X s H scope C NB ex) elt (te s H C ex))
    (q : ∀ C, cBy J H2 Q (fun x H K => g x (muSt μ σ) H K) (tc s2 H2 C fp) (te s2 H2 C fp)) {RR : Value → Addr → Result → Shared → Prop} {E : Value → Shared → Prop}
    (fin : ∀ (D C : Addr) (s' : Shared) (H' : Hp) (ys : List V) (m : Str → Option Value), s2.heap.objs.size ≤ D → s2.heap.objs.size ≤ C → D ≠ C → s'.heap.Ns C m → H' C = none → (∀ h', Heap.SameBut C s'.heap h' → Inv X pins σ (upd H' D (.lst ys)) { s' with heap := h' }) → Q (.ref D) (upd H' D (.lst ys)) → RR (.ref D) C (.ok .next) s') :
    wpAny (model X.prog X.w) X.A (newList []) (fun acc s₃ => wpAny (model X.prog X.w) X.A (newFunctionEnv scope X.env.globals (clGo X.env.cells scope.names []) [] X.env.qual none .none (some X.env)) (fun cenv s₄ =>
      codeAny (model X.prog X.w) X.A (.compStart (.ListComp elt [⟨tg, iter, ifs, 0⟩] scope pos) 0 (.ref it) acc { cenv with scope := relabel scope X.env }) (RR acc cenv.locals) s₄) E s₃) E s2 := by
  have hcell : ∀ y ∈ scope.names, y.2 ≠ .cell := fun y hy => (scOk_at hsc hy).1
  refine wpAny_newObj_type (wpAny_newFunctionEnv hcell (by intro y hy; simp at hy) (fun h₁ hns₁ hsb₁ => ?_) (scOk_kind hsc))
  dsimp only at hns₁ hsb₁ ⊢
  generalize hH2 : s2.heap.push { cls := .type "list", dict := none, data := .seq ([] : List Value).toArray } = Hp2 at hns₁ hsb₁ ⊢
  have hC : Hp2.objs.size = s2.heap.objs.size + 1 := by rw [← hH2, Heap.size_push]
  have hDC : s2.heap.objs.size ≠ Hp2.objs.size := by rw [hC]; exact Nat.ne_of_lt (Nat.lt_succ_self _)
  have hCle : s2.heap.objs.size ≤ Hp2.objs.size := by rw [hC]; exact Nat.le_succ _
  have old : ∀ b o, s2.heap.get? b = some o → h₁.get? b = some o := fun b o e => hsb₁.extBut b o (by rw [hC]; exact Nat.ne_of_lt (Nat.lt_succ_of_lt (Heap.lt_size e))) (Heap.get?_push_of_some _ (hH2 ▸ Heap.get?_push_of_some _ e))
  have eD : h₁.get? s2.heap.objs.size = some { cls := .type "list", data := .seq ([] : List Value).toArray } := hsb₁.extBut _ _ hDC (Heap.get?_push_of_some _ (hH2 ▸ Heap.get?_push_size _ rfl))
  have hob : ∀ b ∈ fp, ∃ o, s2.heap.get? b = some o := fun b hb => let ⟨o, e, _⟩ := T.obj _ _ st2 b hb; ⟨o, e⟩
  have fpD : ∀ b ∈ fp, b ≠ s2.heap.objs.size := fun b hb => let ⟨o, e⟩ := hob b hb; Nat.ne_of_lt (Heap.lt_size e)
  generalize hDD : s2.heap.objs.size = D at hCle hDC eD fpD ⊢
  generalize hCC : Hp2.objs.size = C at *
  have hDle : s2.heap.objs.size ≤ D := by rw [hDD]; exact Nat.le_refl _
  have hCle' : s2.heap.objs.size ≤ C := by rw [hDD]; exact hCle
  have I4 : Inv (blockOf X s2 H2 scope C NB fp) [] (muSt μ σ) H2 { s2 with heap := h₁, toks := s2.toks + ([] : List (Str × Value)).length } := block_start I2 hsc hmu f2 hob hCle' (by simpa using hns₁) old
  have stat : ∀ {H' : Hp} {pl : List (Addr × Obj)}, (∀ b ∈ fp, H' b = none) → (∀ p ∈ pl, p.1 = D) → ∀ b ∈ fp, FpOk (blockOf X s2 H2 scope C NB fp) pl H' b := fun {H' pl} hn hp b hb => by
    refine ⟨hn b hb, (I4.ok.exf b hb).1, I4.ok.exfs b hb, .inl hb, fun x c e z => (I4.ok.exf b hb).2 x c e z, fun p hp' z => ?_⟩
    have hp'' : p ∈ pl := by simpa [blockOf] using hp'
    exact fpD b hb (z ▸ hp p hp'')
  have nDf : D ∉ (blockOf X s2 H2 scope C NB fp).fs := fun z => by
    obtain ⟨_, o, ho, _⟩ := I4.ok.funs.mem z
    exact absurd (Heap.lt_size ho) (Nat.not_lt.mpr hDle)
  obtain ⟨W, ⟨m0, w0⟩, turn⟩ := q C
  have loop : ∀ s₃ : Shared, s₃ = { s2 with heap := h₁, toks := s2.toks + ([] : List (Str × Value)).length } →
      codeAny (model X.prog X.w) X.A (.compLoop (.ListComp elt [⟨tg, iter, ifs, 0⟩] scope pos) 0 (.ref it) (.ref D) (compEnvC scope (clGo X.env.cells scope.names []) C X.env)) (RR (.ref D) C) s₃ := by
    rintro s₃ rfl
    refine compLoop_gen (fun n s' => ∃ i ys its k H', Inv (blockOf X s2 H2 scope C NB fp) [(D, { cls := .type "list", data := .seq its k })] (muSt μ σ) H' s' ∧ tn i s'.heap ∧ (∀ b ∈ fp, H' b = none) ∧ Vals ys its.toList ∧ ys.length ≤ sizeLine ∧ W i n ys H') ?_ m0
      ⟨0, [], #[], 0, H2, I4.pins_of fun p hp => ?_, T.keep _ _ _ st2 fun b hb o e => old b o e, fun b hb => (f2 b hb).1, .nil, Nat.zero_le _, w0⟩
    rotate_left
    · have e := List.mem_singleton.mp hp
      subst e
      exact ⟨eD, I2.hok.fresh hDle, hDC, nDf, fun v => by simp⟩
    rintro n s3 ⟨i, ys, its, k, H3, I3, st3, fr3, rv, hz, w3⟩
    rcases turn i n ys H3 w3 with ⟨stop, qn⟩ | ⟨go, hlt, N, hN, step⟩
    · refine wpAny_mono (T.done (blockOf X s2 H2 scope C NB fp) rfl rfl rfl hc i _ s3 _ H3 (fun _ _ => False) I3 (stat fr3 (by simp)) st3 stop) (fun r s4 ⟨hr, I4'⟩ => ?_) fun _ _ e => e
      subst hr
      obtain ⟨p1, p2, p3, p4, p5⟩ := I4'.pin _ (List.mem_append_right _ List.mem_cons_self)
      obtain ⟨m, hn, _⟩ := id I4'.loc
      have e1 : s4.heap.get? D = some { cls := .type "list", data := .seq its.toList.toArray k } := by simpa using p1
      exact fin D C s4 H3 ys m hDle hCle' hDC hn I4'.free (fun h' sb => block_end I2 f2 I4' hCle' hDle hDC e1 p2 rv hz sb) (qn D p2)
    · refine wpAny_mono (T.item (blockOf X s2 H2 scope C NB fp) rfl rfl rfl hc i _ s3 _ H3 (fun _ _ => False) I3 (stat fr3 (by simp)) st3 go) (fun r s4 ⟨u, hr, h4⟩ => ?_) fun _ _ e => e
      subst hr
      refine thn h4 fun _ s5 ⟨x, H5, I5, r5, y5, st5, fr5⟩ => ?_
      have I5' := I5.pinned (stat fr5 (by simp)) (T.obj _ _ st5)
      have st' := hgk σ x H5 _ (step x H5 y5)
      obtain ⟨hg, ht, he⟩ := hb s2 H2 C fp
      refine thn (hg _ s5 _ H5 x u _ I5' r5 st') fun _ s6 ⟨σ6, H6, I6, q6, k6⟩ => ?_
      refine thn (ht _ s6 σ6 H6 _ I6 q6) fun ok s7 ⟨H7, I7, q7⟩ => ?_
      have again : ∀ {H8 : Hp} {s8 : Shared} {its' : Array Value} {k' : Nat} {ys' : List V}, Inv (blockOf X s2 H2 scope C NB fp) ([(D, { cls := .type "list", data := .seq its' k' })] ++ pinsAt fp s5.heap) σ6 H8 s8 → Vals ys' its'.toList → ys'.length ≤ sizeLine → (∃ m, m < n ∧ W (i + 1) m ys' H8) →
          ∃ m, m < n ∧ ∃ i ys its k H', Inv (blockOf X s2 H2 scope C NB fp) [(D, { cls := .type "list", data := .seq its k })] (muSt μ σ) H' s8 ∧ tn i s8.heap ∧ (∀ b ∈ fp, H' b = none) ∧ Vals ys its.toList ∧ ys.length ≤ sizeLine ∧ W i m ys H' := fun {H8 s8 its' k' ys'} I8 rv' hz' n8 => by
        obtain ⟨m', hm, w8⟩ := n8
        refine ⟨m', hm, i + 1, ys', its', k', H8, (I8.unpinned.weak ?_ k6), T.keep _ _ _ st5 fun b hb o e => (I8.pin (b, o) (List.mem_append_right _ (List.mem_append_right _ (mem_pinsAt hb e)))).1, fun b hb => ?_, rv', hz', w8⟩
        · rw [I8.len]; exact I4.len
        · obtain ⟨o, e, d⟩ := T.obj _ _ st5 b hb
          exact (I8.pin (b, o) (List.mem_append_right _ (List.mem_append_right _ (mem_pinsAt hb e)))).2.1
      cases ok with
      | false =>
        simp only [Bool.false_eq_true, if_false] at q7 ⊢
        exact again I7 rv hz (hN _ _ q7)
      | true =>
        simp only [if_true] at q7 ⊢
        refine thn (he _ s7 σ6 H7 _ I7 q7) fun uy s8 ⟨y, H8, I8, r8, q8⟩ => ?_
        obtain ⟨p1, p2, p3, p4, p5⟩ := I8.pin (D, _) (List.mem_append_right _ (List.mem_append_left _ List.mem_cons_self))
        have e1 : s8.heap.get? D = some { cls := .type "list", data := .seq its k } := p1
        have hsz : its.size = ys.length := by rw [← Array.length_toList]; exact rv.length.symm
        refine call_meets F.slot_list_append ⟨_, e1, rfl⟩ F.entry_list_append (F.args_list_append_2 _ _) (PySem.list_append D its k uy (by rw [hsz]; omega)) ⟨e1, ?_⟩
        have upd1 := PySem.IsL.update e1 (·.push uy)
        have Iu : Inv (blockOf X s2 H2 scope C NB fp) (pinsAt fp s5.heap) σ6 H8 s8 := I8.pins_of fun p hp => I8.pin p (List.mem_append_right _ (List.mem_append_right _ hp))
        have It := Iu.turned (it := D) (h' := s8.heap.update D (Obj.mapSeq (·.push uy))) (t' := s8.toks) (fun b o hb e => (Heap.get?_update_other _ _ (Ne.symm hb)).trans e) p2 p3 (.inr hDle) (fun x c e z => ?_) (fun p hp z => ?_)
        · refine again (its' := its.push uy) (k' := if (its.push uy).size == its.size then k else k + 1) (It.pins_of fun p hp => ?_) (by simpa using rv.append (.cons r8 .nil)) (by rw [List.length_append, List.length_singleton]; omega) (hN _ _ q8)
          rcases List.mem_append.mp hp with hp | hp
          · have e := List.mem_singleton.mp hp
            subst e
            exact ⟨upd1, p2, p3, p4, fun v => by simp⟩
          · exact It.pin p (List.mem_append_right _ hp)
        · have e' := block_cl I2 hsc e
          obtain ⟨v, o, ho, _⟩ := I2.cell x c e'
          exact absurd (Heap.lt_size ho) (by rw [z]; exact Nat.not_lt.mpr hDle)
        · have hp' : p ∈ pinsAt fp s5.heap := by simpa [blockOf] using hp
          exact fpD p.1 (of_pinsAt hp').1 z
  exact codeAny_compStart_list (loop _ rfl) (T.self _ 0 _ _ _ (T.keep _ _ _ st2 fun b hb o e => old b o e) (loop _ rfl))

/-- [elt for tg in iter if ..] -/
theorem pe_comp {wi : TI} (hc : X.calm = true) (hi : PI X tg iter wi) (hsc : scOk scope X.env.scope = true) (hmu : muOk X.N NB scope μ = true) (hgk : GKeeps μ g)
    (hb : ∀ (s : Shared) (H : Hp) (C : Addr) (ex : List Addr), PG (blockOf X s H scope C NB ex) tg g ∧ PTs (blockOf X s H scope C NB ex) ifs (tc s H C ex) ∧ PE (blockOf X s H scope C NB ex) elt (te s H C ex))
    (hs : ∀ x, foldedSetIterable iter X.env x = pure x := by intro _; rfl) : PE X (.ListComp elt [⟨tg, iter, ifs, 0⟩] scope pos) (tComp wi μ g tc te) := by
  intro pins s σ H Q I h
  have hnames : ∀ y ∈ scope.names, y.2 = .local → scope.names.lookup y.1 = some .local := fun y hy => (scOk_at hsc hy).2.2
  have hclos : closureFor scope X.env = pure (clGo X.env.cells scope.names []) := closureFor_eq fun y hy e => block_free I hsc (x := y.1) (by rw [← e]; exact hy)
  rw [eval_ListComp]
  refine wpAny_comprehension_free (use := none) rfl hs hclos (scOk_kind hsc) hnames (thn (hi pins s σ H _ I h) fun v s1 h1 => thn h1 fun itv s2 h2 => ?_)
  obtain ⟨it, fp, tn, J, H2, e, I2, T, st2, f2, q⟩ := h2
  subst e
  refine block_run (RR := fun acc C => compPost (model X.prog X.w) X.A X.xe none (EP X pins σ Q) acc C) hc I2 T st2 f2 hsc hmu hgk hb (fun C => q s2 C fp) ?_
  intro D C s' H' ys m hD hC hDC hn nC hI hq
  exact ⟨m, hn, fun h' sb => ⟨.ref D, _, hI h' sb, rfl, hq⟩⟩

/-- name = [elt for ..] -/
def tAsgC (i : Nat) (te : TE) : TS := fun D σ H => te σ H fun x H1 => D.nx (σ.set i (some x)) H1
theorem ps_setC {wi : TI} {i : Nat} {y : Str} {py spos : Pos} (hN : X.N.Nodup) (hiN : X.N[i]? = some y) (hy : Loc X.env.scope y) (hc : X.calm = true) (hi : PI X tg iter wi) (hsc : scOk scope X.env.scope = true) (hmu : muOk X.N NB scope μ = true) (hgk : GKeeps μ g)
    (hb : ∀ (s : Shared) (H : Hp) (C : Addr) (ex : List Addr), PG (blockOf X s H scope C NB ex) tg g ∧ PTs (blockOf X s H scope C NB ex) ifs (tc s H C ex) ∧ PE (blockOf X s H scope C NB ex) elt (te s H C ex))
    (hsw : swapsWith (.ListComp elt [⟨tg, iter, ifs, 0⟩] scope pos) (some (.Name y py)) spos.line X.env = pure true := by rfl)
    (hs : ∀ x, foldedSetIterable iter X.env x = pure x := by intro _; rfl) (hf : X.fn y = true ∨ X.env.scope.names.lookup y = some .local := by first | exact .inl rfl | exact .inr rfl | assumption) :
    PS X (.Assign [.Name y py] (.ListComp elt [⟨tg, iter, ifs, 0⟩] scope pos) spos) (tAsgC i (tComp wi μ g tc te)) := by
  intro pins s σ H D' I h
  have hnames : ∀ y ∈ scope.names, y.2 = .local → scope.names.lookup y.1 = some .local := fun y hy => (scOk_at hsc hy).2.2
  have hclos : closureFor scope X.env = pure (clGo X.env.cells scope.names []) := closureFor_eq fun y hy e => block_free I hsc (x := y.1) (by rw [← e]; exact hy)
  rw [exec_Assign_Name_used _ _ _ _ hsw]
  refine wpAny_bind (wpAny_standAt (wpAny_bind ?_))
  show wpAny _ X.A (do let _ ← comprehension (.ListComp elt [⟨tg, iter, ifs, 0⟩] scope pos) scope X.env _ (newList []) false (eval iter X.env) (some (assign (.Name y py) X.env))) _ _ s
  refine wpAny_bind (wpAny_mono (wpAny_comprehension_free (use := some (assign (.Name y py) X.env)) (Q := fun _ s' => SP X pins D' .next s') rfl hs hclos (scOk_kind hsc) hnames (thn (hi pins s σ H _ I h) fun v s1 h1 => thn h1 fun itv s2 h2 => ?_)) (fun _ s' hq => wpAny_pure (wpAny_pure hq)) fun _ _ e => e)
  obtain ⟨it, fp, tn, J, H2, e, I2, T, st2, f2, q⟩ := h2
  subst e
  refine block_run (RR := fun acc C => compPost (model X.prog X.w) X.A X.xe (some (assign (.Name y py) X.env)) (fun _ s' => SP X pins D' .next s') acc C) hc I2 T st2 f2 hsc hmu hgk hb (fun C => q s2 C fp) ?_
  intro D C s' H' ys m hD hC hDC hn nC hI hq
  have I' := hI s'.heap (.refl ..)
  show wpAny _ X.A (assign (.Name y py) X.env (.ref D)) _ _ _
  refine wpAny_assign_Name (store_ok2 (i := i) (v := .ref D) I' hN hiN hy rfl (fun s'' I'' hs'' => ?_) hf)
  obtain ⟨a, sb, ha⟩ := hs''
  have neC : a ≠ C := by
    rcases ha with z | z
    · rw [z]; exact Nat.ne_of_lt (Nat.lt_of_lt_of_le I2.lt hC)
    · obtain ⟨v, o, ho, _⟩ := I2.cell y a z
      exact Nat.ne_of_lt (Nat.lt_of_lt_of_le (Heap.lt_size ho) hC)
  refine ⟨m, hn.sameBut sb (Ne.symm neC), fun h' sb' => ?_⟩
  refine ⟨_, _, I''.turned (it := C) (t' := s''.toks) (fun b o hb e => (sb'.2 b hb).trans e) (by rw [upd_ne (Ne.symm hDC)]; exact nC) (Nat.ne_of_gt (Nat.lt_of_lt_of_le I2.lt hC)) (.inr (Nat.le_trans I2.sz hC)) (fun x c e z => ?_) (fun p hp z => ?_), hq⟩
  · obtain ⟨v, o, ho, _⟩ := I2.cell x c e
    exact absurd (Heap.lt_size ho) (by rw [z]; exact Nat.not_lt.mpr hC)
  · exact absurd (Heap.lt_size (I2.pin p hp).1) (by rw [z]; exact Nat.not_lt.mpr hC)

end
end L2

set_option Elab.async false
set_option linter.all false
set_option maxRecDepth 100000
namespace L2
open PySem PySem.Spec PyProof.Rows

section
variable {X : Cx}
end

end L2

set_option Elab.async false
set_option linter.all false
set_option maxRecDepth 100000
namespace L2
open PySem PySem.Spec PyProof.Rows

/-- the first least one -/
def bstep {α : Type} (o : Option (α × List Int)) (b : α × List Int) : Option (α × List Int) := match o with | none => some b | some c => if HT.lexLt b.2 c.2 = true then some b else some c
def bestA {α : Type} (bs : List (α × List Int)) : Option (α × List Int) := bs.foldl bstep none
def bestS (bs : List (Addr × List Int)) : Array Value := match bestA bs with | none => #[] | some b => #[.ref b.1, .ref b.1]
theorem bestA_snoc {α : Type} (bs : List (α × List Int)) (b : α × List Int) : bestA (bs ++ [b]) = match bestA bs with | none => some b | some c => if HT.lexLt b.2 c.2 = true then some b else some c := by
  unfold bestA; rw [List.foldl_append]; rfl
theorem bestA_mem {α : Type} : ∀ (bs : List (α × List Int)) (b : α × List Int), bestA bs = some b → b ∈ bs := by
  intro bs
  suffices h : ∀ (bs : List (α × List Int)) (o : Option (α × List Int)) (b : α × List Int), bs.foldl bstep o = some b → b ∈ bs ∨ o = some b by
    intro b hb
    rcases h bs none b hb with q | q
    · exact q
    · cases q
  intro bs
  induction bs with
  | nil => intro o b h; exact .inr h
  | cons x r ih =>
    intro o b h
    rw [List.foldl_cons] at h
    rcases ih _ _ h with q | q
    · exact .inl (List.mem_cons_of_mem _ q)
    · cases o with
      | none => cases q; exact .inl List.mem_cons_self
      | some c =>
        unfold bstep at q
        dsimp only at q
        split at q
        · cases q; exact .inl List.mem_cons_self
        · exact .inr q
theorem min_dflt_args (a v : Value) : argsOk "min" ⟨[a], [(Str.ofString "default", v)]⟩ := by unfold argsOk; kernel_rfl

section
variable {prog : Program} {w : World} {A : Around} {R : Result → Shared → Prop}
theorem min_loop (bs : List (Addr × List Int)) (tv : Addr → Array Value) (l I S : Addr) (d : Value) (hh : A.handled = none) (hu : A.in1.units < cLine) (hSI : S ≠ I) (hlI : l ≠ I) (hlS : l ≠ S) (hbI : ∀ b ∈ bs, b.1 ≠ I ∧ b.1 ≠ S)
    (hk : ∀ b ∈ bs, IntsAre (tv b.1).toList b.2) : ∀ (k j : Nat) (s : Shared) (c : Nat), bs.length - j = k → j ≤ bs.length → s.heap.IsListIter I l j → s.heap.IsList l (bs.map fun b => Value.ref b.1).toArray → (∀ b ∈ bs, IsTup s.heap b.1 (tv b.1)) →
      s.heap.get? S = some { cls := .type "list", dict := none, data := .seq (bestS (bs.take j)) c, slots := #[] } →
      (∀ h' tk, (∀ b o, b ≠ I → b ≠ S → s.heap.get? b = some o → h'.get? b = some o) → R (.ok (.ret (match bestA bs with | none => d | some b => .ref b.1))) { s with heap := h', toks := tk }) →
      codeAny (model prog w) A (.builtin "min.loop" ⟨[.ref I, .none, .ref S], [(Str.ofString "default", d)]⟩) R s := by
  have hname : (toString "min" ++ toString ".loop" : String) = "min.loop" := by decide
  intro k
  induction k with
  | zero =>
    intro j s c hr hj hit hl ht hS hR
    have hin : j = bs.length := by omega
    subst hin
    rw [List.take_length] at hS
    refine codeAny_builtin PySem.F.entry_min_loop ?_
    rw [Around.under_plainId PySem.F.plain_min_loop _]
    show wpAny _ A.in1 (seqItems? (.ref S) >>= _) _ _ s
    refine wpAny_bind (wpAny_seqItems hS rfl ?_)
    show wpAny _ A.in1 (tryCatch (pyNext (.ref I)) _ >>= _) _ _ s
    refine wpAny_bind (wpAny_tryCatch (wpAny_pyNext_list_end (A := A.in1) hh hit hl (by simp) fun h' eb => ?_))
    have hS' : h'.get? S = _ := eb S _ hSI hS
    unfold bestS at hS'
    cases hb : bestA bs with
    | none =>
      unfold bestS
      rw [hb]
      show wpAny _ A.in1 (rule _ >>= _) _ _ _
      refine wpAny_bind (wpAny_rule (wpAny_pure ?_))
      have q := hR h' s.toks fun b o h1 h2 e => eb b o h1 e
      rw [hb] at q
      exact q
    | some b =>
      rw [hb] at hS'
      unfold bestS
      rw [hb]
      show wpAny _ A.in1 (updateSeq S (fun _ => #[]) >>= _) _ _ _
      refine wpAny_bind ?_
      refine wpAny_updateSeq hS' rfl (wpAny_bind (wpAny_letGo (wpAny_pure ?_)))
      have q := hR (h'.update S (Obj.mapSeq fun _ => #[])) s.toks fun b o h1 h2 e => (Heap.get?_update_other _ _ (Ne.symm h2)).trans (eb b o h1 e)
      rw [hb] at q
      exact q
  | succ k ih =>
    intro j s c hr hj hit hl ht hS hR
    have hlt : j < bs.length := by omega
    have ej : bs.take (j + 1) = bs.take j ++ [bs[j]] := by rw [List.take_add_one, List.getElem?_eq_getElem hlt]; rfl
    have mj : bs[j] ∈ bs := List.getElem_mem hlt
    refine codeAny_builtin PySem.F.entry_min_loop ?_
    rw [Around.under_plainId PySem.F.plain_min_loop _]
    show wpAny _ A.in1 (seqItems? (.ref S) >>= _) _ _ s
    refine wpAny_bind (wpAny_seqItems hS rfl ?_)
    show wpAny _ A.in1 (tryCatch (pyNext (.ref I)) _ >>= _) _ _ s
    refine wpAny_bind (wpAny_tryCatch (wpAny_pyNext_list_item (A := A.in1) hit hl (x := .ref bs[j].1) (by simp [hlt]) fun h' hit' sb => ?_))
    have sb' : Heap.SameBut I s.heap h' := sb
    have hS' : h'.get? S = _ := (sb'.2 S hSI).trans hS
    have hl' : h'.IsList l (bs.map fun b => Value.ref b.1).toArray := hl.at fun o e => (sb'.2 l hlI).trans e
    have ht' : ∀ b ∈ bs, IsTup h' b.1 (tv b.1) := fun b hb => by
      obtain ⟨o, ho, r⟩ := ht b hb
      exact ⟨o, (sb'.2 b.1 (hbI b hb).1).trans ho, r⟩
    cases hb : bestA (bs.take j) with
    | none =>
      unfold bestS at hS' ⊢
      rw [hb] at hS' ⊢
      show wpAny _ A.in1 (updateSeq S (fun _ => #[.ref bs[j].1, .ref bs[j].1]) >>= _) _ _ _
      refine wpAny_bind ?_
      refine wpAny_updateSeq hS' rfl ?_
      rw [hname]
      have s1 := Heap.SameBut.update h' S (Obj.mapSeq fun _ => (#[.ref bs[j].1, .ref bs[j].1] : Array Value))
      refine wpAny_pure ⟨plainId_quiet PySem.F.plain_min_loop _, ih (j + 1) _ (c + 1) (by omega) hlt (hit'.at fun o e => (s1.2 I (Ne.symm hSI)).trans e) (hl'.at fun o e => (s1.2 l hlS).trans e) (fun b hb => ?_) ?_ fun h'' tk hk'' => ?_⟩
      · obtain ⟨o, ho, r⟩ := ht' b hb
        exact ⟨o, (s1.2 b.1 (hbI b hb).2).trans ho, r⟩
      · refine (Heap.get?_update_self _ hS' rfl).trans ?_
        unfold bestS
        rw [ej, bestA_snoc, hb]
        rfl
      · exact hR h'' tk fun b o h1 h2 e => hk'' b o h1 h2 ((s1.2 b h2).trans ((sb'.2 b h1).trans e))
    | some m =>
      have mm : m ∈ bs := List.mem_of_mem_take (bestA_mem _ _ hb)
      unfold bestS at hS' ⊢
      rw [hb] at hS' ⊢
      show wpAny _ A.in1 (tryCatch (holding [.ref bs[j].1, .ref bs[j].1] (richCompare .Lt (.ref bs[j].1) (.ref m.1) >>= _)) _ >>= _) _ _ _
      refine wpAny_bind (wpAny_tryCatch (wpAny_holding (wpAny_bind (HT.lt_tupInts (ht' _ mj) (ht' _ mm) (hk _ mj) (hk _ mm) hu ?_))))
      refine wpAny_bind (wpAny_holding (wpAny_truthy_bool ?_))
      refine wpAny_bind (wpAny_letGo (wpAny_pure ?_))
      cases hc : HT.lexLt bs[j].2 m.2 with
      | true =>
        simp only [if_true]
        have s1 := Heap.SameBut.update h' S (Obj.mapSeq fun _ => (#[.ref bs[j].1, .ref bs[j].1] : Array Value))
        refine wpAny_bind ?_
        refine wpAny_updateSeq hS' rfl (wpAny_bind (wpAny_letGo ?_))
        rw [hname]
        refine wpAny_pure ⟨plainId_quiet PySem.F.plain_min_loop _, ih (j + 1) _ c (by omega) hlt (hit'.at fun o e => (s1.2 I (Ne.symm hSI)).trans e) (hl'.at fun o e => (s1.2 l hlS).trans e) (fun b hb => ?_) ?_ fun h'' tk hk'' => ?_⟩
        · obtain ⟨o, ho, r⟩ := ht' b hb
          exact ⟨o, (s1.2 b.1 (hbI b hb).2).trans ho, r⟩
        · refine (Heap.get?_update_self _ hS' rfl).trans ?_
          unfold bestS
          rw [ej, bestA_snoc, hb]
          simp only [hc, if_true]
          rfl
        · exact hR h'' tk fun b o h1 h2 e => hk'' b o h1 h2 ((s1.2 b h2).trans ((sb'.2 b h1).trans e))
      | false =>
        simp only [Bool.false_eq_true, if_false]
        refine wpAny_bind (wpAny_letGo ?_)
        rw [hname]
        refine wpAny_pure ⟨plainId_quiet PySem.F.plain_min_loop _, ih (j + 1) _ c (by omega) hlt hit' hl' ht' ?_ fun h'' tk hk'' => ?_⟩
        · refine hS'.trans ?_
          unfold bestS
          rw [ej, bestA_snoc, hb]
          simp only [hc, Bool.false_eq_true, if_false]
        · exact hR h'' tk fun b o h1 h2 e => hk'' b o h1 h2 ((sb'.2 b h1).trans e)

theorem call_min_dflt {E : Value → Shared → Prop} {s : Shared} {Q : Value → Shared → Prop} (bs : List (Addr × List Int)) (tv : Addr → Array Value) (l : Addr) (d : Value) (hh : A.handled = none) (hu : A.in1.units < cLine)
    (hl : s.heap.IsList l (bs.map fun b => Value.ref b.1).toArray) (ht : ∀ b ∈ bs, IsTup s.heap b.1 (tv b.1)) (hk : ∀ b ∈ bs, IntsAre (tv b.1).toList b.2)
    (hQ : ∀ h' tk, (∀ b o, s.heap.get? b = some o → h'.get? b = some o) → Q (match bestA bs with | none => d | some b => .ref b.1) { s with heap := h', toks := tk }) :
    wpAny (model prog w) A (call (.builtin "min") [.ref l] [(Str.ofString "default", d)]) Q E s := by
  have hname : (toString "min" ++ toString ".loop" : String) = "min.loop" := by decide
  obtain ⟨ol, hol, _⟩ := id hl
  have hll : l < s.heap.objs.size := Heap.lt_size hol
  refine kmk_tree PySem.F.kind_min PySem.F.plain_min PySem.F.entry_min (min_dflt_args _ _) ?_
  show wpAny _ A.in1 (Builtin.Builtins.bindParams "min" ["key", "default"] 0 ⟨[], [(Str.ofString "default", d)]⟩ >>= _) _ _ s
  refine wpAny_bind (wpAny_of_eq (show Builtin.Builtins.bindParams "min" ["key", "default"] 0 ⟨[], [(Str.ofString "default", d)]⟩ = pure [none, some d] from rfl) ?_)
  refine wpAny_bind (wpAny_pure ?_)
  refine wpAny_bind (wpAny_pyIter_list hl ?_)
  refine wpAny_bind (wpAny_newList ?_ (Nat.zero_le _))
  rw [hname]
  have hS : (s.heap.push { cls := .type "list_iterator", data := .fields #[.ref l, .int 0 0] }).objs.size = s.heap.objs.size + 1 := Heap.size_push ..
  have old : ∀ b o, s.heap.get? b = some o → b ≠ s.heap.objs.size ∧ b ≠ (s.heap.push { cls := .type "list_iterator", data := .fields #[.ref l, .int 0 0] }).objs.size := fun b o e => ⟨Nat.ne_of_lt (Heap.lt_size e), by rw [hS]; exact Nat.ne_of_lt (Nat.lt_succ_of_lt (Heap.lt_size e))⟩
  have grow : ∀ b o, s.heap.get? b = some o → ((s.heap.push { cls := .type "list_iterator", data := .fields #[.ref l, .int 0 0] }).push { cls := .type "list", data := .seq #[] }).get? b = some o := fun b o e => Heap.get?_push_of_some _ (Heap.get?_push_of_some _ e)
  refine wpAny_pure ⟨plainId_quiet PySem.F.plain_min_loop _, ?_⟩
  refine min_loop bs tv l s.heap.objs.size (s.heap.push { cls := .type "list_iterator", data := .fields #[.ref l, .int 0 0] }).objs.size d hh hu (by rw [hS]; exact Nat.succ_ne_self _) (old l ol hol).1 (old l ol hol).2 (fun b hb => ?_) hk _ 0 _ 0 rfl (Nat.zero_le _) ?_ ?_ (fun b hb => ?_) ?_ ?_
  · obtain ⟨o, ho, _⟩ := ht b hb
    exact old b.1 o ho
  · exact ⟨_, Heap.get?_push_of_some _ (Heap.get?_push_size _ rfl), rfl, rfl⟩
  · exact hl.at fun o e => grow l o e
  · obtain ⟨o, ho, r⟩ := ht b hb
    exact ⟨o, grow b.1 o ho, r⟩
  · exact Heap.get?_push_size _ rfl
  · intro h' tk hk'
    exact hQ h' tk fun b o e => hk' b o (old b o e).1 (old b o e).2 (grow b o e)
end

section
variable {X : Cx} {e e2 : Expr} {te td : TE} {p pos kp : Pos}
/-- min(xs, default=d) of a list of tuples of ints -/
def tMinD (K : PySem.W.Frag) (te td : TE) : TE := fun σ H Q => te σ H fun x H1 => td σ H1 fun d H2 => ∃ (a : Addr) (bs : List (Addr × List Int)), x = .ref a ∧ SqL K H2 a (bs.map fun b => V.ref b.1) ∧ (∀ b ∈ bs, SqT K H2 b.1 (b.2.map V.int)) ∧ Q (match bestA bs with | none => d | some b => .ref b.1) H2
theorem vals_refs : ∀ {bs : List (Addr × List Int)} {us : List Value}, Vals (bs.map fun b => V.ref b.1) us → us = bs.map fun b => Value.ref b.1
  | [], _, .nil => rfl
  | b :: r, _, .cons h t => by cases h; rw [vals_refs t]; rfl
theorem pe_minD (hc : X.calm = true) (hu : X.A.units + 1 < cLine) (hg : Gl X "min") (hm : X.mg "min" = none) (he : PE X e te) (hd : PE X e2 td)
    (hst : starEach [e] X.env = [(false, eval e X.env)] := by rfl) (hall : (backToKw pos (keywordEach [⟨some "default", e2, kp⟩] X.env)).all (·.1.isSome) = true := by rfl) (hks : (backToKw pos (keywordEach [⟨some "default", e2, kp⟩] X.env)).filterMap (·.1) = ([("default" : Str)] : List Str) := by rfl)
    (hkw : (backToKw pos (keywordEach [⟨some "default", e2, kp⟩] X.env)).any (·.1.isNone) = false := by rfl) (heq : backTo pos (starEach [e] X.env) = (false, eval e X.env) :: backTo pos (starEach [] X.env) := by rfl) (hpl : (backTo pos (starEach [e] X.env)).any (·.1) = false := by rfl) :
    PE X (.Call (.Name "min" p) [e] [⟨some "default", e2, kp⟩] pos) (tMinD X.K te td) := by
  intro pins s σ H Q I h
  refine wpAny_Call_Name_kw (ld_blt I hg hm boot_min ?_ (by decide) (by decide))
  refine callWith_kw (thn ((pa_cons he pa_nil (hs := hst)) pos pins s σ H (fun vs H1 => match vs with | [x] => td σ H1 fun d H2 => ∃ (a : Addr) (bs : List (Addr × List Int)), x = .ref a ∧ SqL X.K H2 a (bs.map fun b => V.ref b.1) ∧ (∀ b ∈ bs, SqT X.K H2 b.1 (b.2.map V.int)) ∧ Q (match bestA bs with | none => d | some b => .ref b.1) H2 | _ => False) I h) fun us s1 ⟨vs, H1, I1, r1, q1⟩ => ?_) heq hpl hall hkw
  obtain ⟨x, rfl⟩ : ∃ x, vs = [x] := by
    match vs, q1 with
    | [x], _ => exact ⟨x, rfl⟩
  refine thn ((pk_cons hd pk_nil) pos pins s1 σ H1 (fun zs H2 => match zs with | [d] => ∃ (a : Addr) (bs : List (Addr × List Int)), x = .ref a ∧ SqL X.K H2 a (bs.map fun b => V.ref b.1) ∧ (∀ b ∈ bs, SqT X.K H2 b.1 (b.2.map V.int)) ∧ Q (match bestA bs with | none => d | some b => .ref b.1) H2 | _ => False) I1 q1) fun ws s2 ⟨zs, H2, I2, r2, q2⟩ => ?_
  obtain ⟨d, rfl⟩ : ∃ d, zs = [d] := by
    match zs, q2 with
    | [d], _ => exact ⟨d, rfl⟩
  obtain ⟨a, bs, rfl, hl, hb, q⟩ := q2
  obtain ⟨ua, rfl, ra⟩ := r1.one
  obtain ⟨ud, rfl, rd⟩ := r2.one
  cases ra
  rw [hks]
  obtain ⟨its, rv, pl, hz⟩ := I2.list hl
  have ei := vals_refs rv
  subst ei
  have tv : ∀ a : Addr, ∃ t : Array Value, ∀ b ∈ bs, b.1 = a → IsTup s2.heap a t ∧ IntsAre t.toList b.2 := fun a => by
    by_cases hbm : ∃ b ∈ bs, b.1 = a
    · obtain ⟨b, hbm, rfl⟩ := hbm
      obtain ⟨ts, rt, pt, _⟩ := I2.tuple (hb b hbm)
      refine ⟨ts.toArray, fun b' hb' e => ⟨pt, ?_⟩⟩
      have q2 := hb b' hb'
      rw [e] at q2
      have e2 := I2.tuple_inj q2 (hb b hbm)
      rw [← e2] at rt
      simpa using intsAre_of rt
    · exact ⟨#[], fun b hb' e => absurd ⟨b, hb', e⟩ hbm⟩
  refine call_min_dflt bs (fun b => Classical.choose (tv b)) a ud (I2.ok.hd hc) hu pl.isList (fun b hb' => (Classical.choose_spec (tv b.1) b hb' rfl).1) (fun b hb' => (Classical.choose_spec (tv b.1) b hb' rfl).2) fun h' tk hk => ?_
  refine ⟨match bestA bs with | none => d | some b => .ref b.1, H2, I2.kept (t' := tk) hk, ?_, q⟩
  cases bestA bs with
  | none => exact rd
  | some b => rfl
end
end L2

set_option Elab.async false
set_option linter.all false
set_option maxRecDepth 100000
namespace L2
open PySem PySem.Spec PyProof.Rows

/-! ### data: what a value is, without addresses -/
inductive D where
  | non | bl (b : Bool) | int (i : Int) | str (x : Str) | tup (ds : List D) | lst (ds : List D) | exn (x : Str)
/-- an exception of the class at c stands at a -/
def excP (a c : Addr) (h : Heap) : Prop := ∃ o, h.get? a = some o ∧ o.cls = .ref c ∧ PySem.W.notCls o = true
mutual
inductive Has (K : PySem.W.Frag) (H : Hp) : V → D → Prop
  | non : Has K H .non .non
  | bl (b) : Has K H (.bl b) (.bl b)
  | int (i) : Has K H (.int i) (.int i)
  | str (x) : Has K H (.str x) (.str x)
  | tup {a xs ds} : SqT K H a xs → HasL K H xs ds → Has K H (.ref a) (.tup ds)
  | lst {a xs ds} : SqL K H a xs → HasL K H xs ds → Has K H (.ref a) (.lst ds)
  | exn {a c x} : PySem.W.nsIn K mainGlobals x = some (some (.ref c)) → H a = some (.ext (excP a c)) → Has K H (.ref a) (.exn x)
inductive HasL (K : PySem.W.Frag) (H : Hp) : List V → List D → Prop
  | nil : HasL K H [] []
  | cons {x d xs ds} : Has K H x d → HasL K H xs ds → HasL K H (x :: xs) (d :: ds)
end
theorem HasL.length {K : PySem.W.Frag} {H : Hp} : ∀ {xs : List V} {ds : List D}, HasL K H xs ds → xs.length = ds.length
  | _, _, .nil => rfl
  | _, _, .cons _ t => by rw [List.length_cons, List.length_cons, HasL.length t]
theorem HasL.get {K : PySem.W.Frag} {H : Hp} : ∀ {xs : List V} {ds : List D} {i : Nat} {d : D}, HasL K H xs ds → ds[i]? = some d → ∃ x, xs[i]? = some x ∧ Has K H x d
  | _, _, _, _, .nil, e => by simp at e
  | _, _, 0, _, .cons r _, e => by simp at e; subst e; exact ⟨_, rfl, r⟩
  | _, _, i + 1, d, .cons _ t, e => by
    obtain ⟨u, h1, h2⟩ := HasL.get (i := i) (d := d) t (by simpa using e)
    exact ⟨u, by simpa using h1, h2⟩
theorem HasL.getV {K : PySem.W.Frag} {H : Hp} : ∀ {xs : List V} {ds : List D} {i : Nat} {x : V}, HasL K H xs ds → xs[i]? = some x → ∃ d, ds[i]? = some d ∧ Has K H x d
  | _, _, _, _, .nil, e => by simp at e
  | _, _, 0, _, .cons r _, e => by simp at e; subst e; exact ⟨_, rfl, r⟩
  | _, _, i + 1, d, .cons _ t, e => by
    obtain ⟨u, h1, h2⟩ := HasL.getV (i := i) (x := d) t (by simpa using e)
    exact ⟨u, by simpa using h1, h2⟩
theorem HasL.append {K : PySem.W.Frag} {H : Hp} : ∀ {xs ys : List V} {ds es : List D}, HasL K H xs ds → HasL K H ys es → HasL K H (xs ++ ys) (ds ++ es)
  | _, _, _, _, .nil, h => h
  | _, _, _, _, .cons r t, h => .cons r (HasL.append t h)
theorem HasL.snoc {K : PySem.W.Frag} {H : Hp} {xs : List V} {ds : List D} {x : V} {d : D} (h : HasL K H xs ds) (r : Has K H x d) : HasL K H (xs ++ [x]) (ds ++ [d]) := h.append (.cons r .nil)
theorem HasL.take {K : PySem.W.Frag} {H : Hp} : ∀ {xs : List V} {ds : List D} (n : Nat), HasL K H xs ds → HasL K H (xs.take n) (ds.take n)
  | _, _, 0, _ => .nil
  | _, _, _ + 1, .nil => .nil
  | _, _, n + 1, .cons r t => .cons r (HasL.take n t)
theorem HasL.drop {K : PySem.W.Frag} {H : Hp} : ∀ {xs : List V} {ds : List D} (n : Nat), HasL K H xs ds → HasL K H (xs.drop n) (ds.drop n)
  | _, _, 0, r => r
  | _, _, _ + 1, .nil => .nil
  | _, _, n + 1, .cons _ t => HasL.drop n t
theorem HasL.ints {K : PySem.W.Frag} {H : Hp} : ∀ (ns : List Int), HasL K H (ns.map V.int) (ns.map D.int)
  | [] => .nil
  | n :: r => .cons (.int n) (HasL.ints r)
theorem Same.seqT {K : PySem.W.Frag} {H H' : Hp} {a : Addr} {xs : List V} (e : Same H H') (h : SqT K H a xs) : SqT K H' a xs := by
  rcases h with (h | ⟨o, h⟩) | h
  · exact .inl (.inl (e _ _ h))
  · exact .inl (.inr ⟨o, e _ _ h⟩)
  · exact .inr h
mutual
theorem Has.mono {K : PySem.W.Frag} {H H' : Hp} (e : Same H H') : ∀ {v : V} {d : D}, Has K H v d → Has K H' v d
  | _, _, .non => .non
  | _, _, .bl b => .bl b
  | _, _, .int i => .int i
  | _, _, .str x => .str x
  | _, _, .tup h r => .tup (e.seqT h) (HasL.mono e r)
  | _, _, .lst h r => .lst (e.seq h) (HasL.mono e r)
  | _, _, .exn h r => .exn h (e _ _ r)
theorem HasL.mono {K : PySem.W.Frag} {H H' : Hp} (e : Same H H') : ∀ {vs : List V} {ds : List D}, HasL K H vs ds → HasL K H' vs ds
  | _, _, .nil => .nil
  | _, _, .cons h t => .cons (Has.mono e h) (HasL.mono e t)
end
theorem same_new {H : Hp} {p : Addr} (h : H p = none) (o : HO) : Same H (upd H p o) := fun b u q => by rw [upd_ne (ne_of_none q h)]; exact q

mutual
def eqD : D → D → Bool
  | .non, .non => true
  | .bl a, .bl b => a == b
  | .int a, .int b => a == b
  | .str a, .str b => a == b
  | .bl a, .int b => (if a then 1 else 0) == b
  | .int a, .bl b => a == (if b then 1 else 0)
  | .tup a, .tup b => eqDs a b
  | .lst a, .lst b => eqDs a b
  | .exn a, .exn b => a == b
  | _, _ => false
def eqDs : List D → List D → Bool
  | [], [] => true
  | a :: r, b :: t => eqD a b && eqDs r t
  | _, _ => false
end
mutual
theorem eqD_refl : ∀ d : D, eqD d d = true
  | .non => by simp [eqD]
  | .bl b => by simp [eqD]
  | .int b => by simp [eqD]
  | .str b => by simp [eqD]
  | .tup b => by simp only [eqD]; exact eqDs_refl b
  | .lst b => by simp only [eqD]; exact eqDs_refl b
  | .exn b => by simp [eqD]
theorem eqDs_refl : ∀ d : List D, eqDs d d = true
  | [] => by simp [eqDs]
  | a :: r => by simp only [eqDs, eqD_refl a, eqDs_refl r, Bool.and_true]
end
mutual
def noX : D → Bool
  | .tup a => noXs a
  | .lst a => noXs a
  | .exn _ => false
  | _ => true
def noXs : List D → Bool
  | [] => true
  | a :: r => noX a && noXs r
end
theorem noX_mem : ∀ {ds : List D} {d : D}, d ∈ ds → noXs ds = true → noX d = true
  | a :: r, d, h, q => by
    rw [noXs, Bool.and_eq_true] at q
    rcases List.mem_cons.mp h with z | z
    · subst z; exact q.1
    · exact noX_mem z q.2
mutual
def dep : D → Nat
  | .tup a => deps a + 1
  | .lst a => deps a + 1
  | _ => 0
def deps : List D → Nat
  | [] => 0
  | a :: r => max (dep a) (deps r)
end
theorem dep_mem : ∀ {ds : List D} {d : D}, d ∈ ds → dep d ≤ deps ds
  | a :: r, d, h => by
    rw [deps]
    rcases List.mem_cons.mp h with z | z
    · subst z; exact Nat.le_max_left _ _
    · exact Nat.le_trans (dep_mem z) (Nat.le_max_right _ _)
theorem eqDs_len : ∀ {a b : List D}, eqDs a b = true → a.length = b.length
  | [], [], _ => rfl
  | [], _ :: _, h => by simp [eqDs] at h
  | _ :: _, [], h => by simp [eqDs] at h
  | a :: r, b :: t, h => by
    simp only [eqDs, Bool.and_eq_true] at h
    rw [List.length_cons, List.length_cons, eqDs_len h.2]
theorem eqDs_range : ∀ (a b : List D), a.length = b.length → (List.range a.length).all (fun j => eqD (a.getD j .non) (b.getD j .non)) = eqDs a b
  | [], [], _ => by simp [eqDs]
  | a :: r, b :: t, h => by
    have ih := eqDs_range r t (by simpa using h)
    rw [List.length_cons, List.range_succ_eq_map, List.all_cons, List.all_map, eqDs, ← ih]
    simp [Function.comp_def]
  | [], _ :: _, h => by cases h
  | _ :: _, [], h => by cases h
theorem eqDs_ne {a b : List D} (h : a.length ≠ b.length) : eqDs a b = false := by
  cases e : eqDs a b with
  | false => rfl
  | true => exact absurd (eqDs_len e) h
theorem eqDs_min (a b : List D) : ((List.range (min a.length b.length)).all (fun j => eqD (a.getD j .non) (b.getD j .non)) && (a.length == b.length)) = eqDs a b := by
  by_cases h : a.length = b.length
  · rw [← eqDs_range a b h, h]; simp
  · rw [eqDs_ne h, beq_false_of_ne h, Bool.and_false]

section
variable {X : Cx} {pins : List (Addr × Obj)} {σ : St} {H : Hp} {s : Shared}
theorem lst_tup (I : Inv X pins σ H s) {a : Addr} {xs ys : List V} (h : SqL X.K H a xs) (h' : SqT X.K H a ys) : False := by
  obtain ⟨its, _, ⟨o, n, e, c, _, _⟩, _⟩ := I.list h
  obtain ⟨its', _, ⟨o', e', c', _⟩, _⟩ := I.tuple h'
  rw [e] at e'; cases e'
  rw [c] at c'
  revert c'; decide
mutual
theorem has_inj (I : Inv X pins σ H s) : ∀ {v : V} {d d' : D}, noX d = true → noX d' = true → Has X.K H v d → Has X.K H v d' → d = d'
  | _, _, _, _, _, .non, .non => rfl
  | _, _, _, _, _, .bl _, .bl _ => rfl
  | _, _, _, _, _, .int _, .int _ => rfl
  | _, _, _, _, _, .str _, .str _ => rfl
  | _, _, _, n1, n2, .tup h r, .tup h' r' => by
    have e := I.tuple_inj h h'
    subst e
    rw [hasL_inj I (by rw [noX] at n1; exact n1) (by rw [noX] at n2; exact n2) r r']
  | _, _, _, n1, n2, .lst h r, .lst h' r' => by
    have e := I.list_inj h h'
    subst e
    rw [hasL_inj I (by rw [noX] at n1; exact n1) (by rw [noX] at n2; exact n2) r r']
  | _, _, _, _, _, .tup h _, .lst h' _ => (lst_tup I h' h).elim
  | _, _, _, _, _, .lst h _, .tup h' _ => (lst_tup I h h').elim
  | _, _, _, n1, _, .exn _ _, _ => by rw [noX] at n1; cases n1
  | _, _, _, _, n2, _, .exn _ _ => by rw [noX] at n2; cases n2
theorem hasL_inj (I : Inv X pins σ H s) : ∀ {v : List V} {d d' : List D}, noXs d = true → noXs d' = true → HasL X.K H v d → HasL X.K H v d' → d = d'
  | _, _, _, _, _, .nil, .nil => rfl
  | _, _, _, n1, n2, .cons h r, .cons h' r' => by
    rw [noXs, Bool.and_eq_true] at n1 n2
    rw [has_inj I n1.1 n2.1 h h', hasL_inj I n1.2 n2.2 r r']
end
/-- what the heap has at a datum -/
theorem vat {xs : List V} {its : List Value} (r : Vals xs its) (j : Nat) (h : j < its.toArray.size) : ∃ x, xs[j]? = some x ∧ RelV x its.toArray[j] := by
  have h' : j < its.length := by simpa using h
  have hx : j < xs.length := by rw [r.length]; exact h'
  obtain ⟨u, hu, ru⟩ := r.get (List.getElem?_eq_getElem hx)
  rw [List.getElem?_eq_getElem h'] at hu
  refine ⟨xs[j], List.getElem?_eq_getElem hx, ?_⟩
  have e : its.toArray[j] = u := by simpa using hu
  rw [e]; exact ru
theorem getD_of {ds : List D} {j : Nat} {d : D} (h : ds[j]? = some d) : ds.getD j .non = d := by rw [List.getD_eq_getElem?_getD, h]; rfl
theorem eqAt_D (I : Inv X pins σ H s) : ∀ (n : Nat) (A : Around) (d e : D) (v w : V) (u1 u2 : Value), dep d ≤ n → noX d = true → noX e = true → A.units + n < cLine → Has X.K H v d → Has X.K H w e → RelV v u1 → RelV w u2 → SeqAt.EqAt A s u1 u2 (eqD d e) := by
  intro n
  induction n with
  | zero =>
    intro A d e v w u1 u2 hd hx1 hx2 hu h1 h2 r1 r2
    have hu' : A.units < cLine := by omega
    cases h1 with
    | exn _ _ => simp [noX] at hx1
    | non =>
      cases r1
      cases h2 with
      | exn _ _ => simp [noX] at hx2
      | non => cases r2; simp only [eqD]; exact .same _
      | bl b => cases r2; simp only [eqD]; exact .none_bool _
      | int b => obtain ⟨t, rfl⟩ := r2; simp only [eqD]; exact .none_int _ _
      | str b => obtain ⟨t, rfl⟩ := r2; simp only [eqD]; exact .none_str _ _
      | tup h r => cases r2; simp only [eqD]; obtain ⟨_, _, p, _⟩ := I.tuple h; exact .none_tuple p hu'
      | lst h r => cases r2; simp only [eqD]; obtain ⟨_, _, p, _⟩ := I.list h; exact .none_list p.isList hu'
    | bl a =>
      cases r1
      cases h2 with
      | exn _ _ => simp [noX] at hx2
      | non => cases r2; simp only [eqD]; exact .bool_none _
      | bl b => cases r2; simp only [eqD]; exact .bool_bool _ _
      | int b => obtain ⟨t, rfl⟩ := r2; simp only [eqD]; exact .bool_int _ _ _
      | str b => obtain ⟨t, rfl⟩ := r2; simp only [eqD]; exact .bool_str _ _ _
      | tup h r => cases r2; simp only [eqD]; obtain ⟨_, _, p, _⟩ := I.tuple h; exact .bool_tuple _ p hu'
      | lst h r => cases r2; simp only [eqD]; obtain ⟨_, _, p, _⟩ := I.list h; exact .bool_list _ p.isList hu'
    | int a =>
      obtain ⟨t', rfl⟩ := r1
      cases h2 with
      | exn _ _ => simp [noX] at hx2
      | non => cases r2; simp only [eqD]; exact .int_none _ _
      | bl b => cases r2; simp only [eqD]; exact .int_bool _ _ _
      | int b => obtain ⟨t, rfl⟩ := r2; simp only [eqD]; exact .int_int _ _ _ _
      | str b => obtain ⟨t, rfl⟩ := r2; simp only [eqD]; exact .int_str _ _ _ _
      | tup h r => cases r2; simp only [eqD]; obtain ⟨_, _, p, _⟩ := I.tuple h; exact .int_tuple _ _ p hu'
      | lst h r => cases r2; simp only [eqD]; obtain ⟨_, _, p, _⟩ := I.list h; exact .int_list _ _ p.isList hu'
    | str a =>
      obtain ⟨t', rfl⟩ := r1
      cases h2 with
      | exn _ _ => simp [noX] at hx2
      | non => cases r2; simp only [eqD]; exact .str_none _ _
      | bl b => cases r2; simp only [eqD]; exact .str_bool _ _ _
      | int b => obtain ⟨t, rfl⟩ := r2; simp only [eqD]; exact .str_int _ _ _ _
      | str b => obtain ⟨t, rfl⟩ := r2; simp only [eqD]; exact .str_str _ _ _ _
      | tup h r => cases r2; simp only [eqD]; obtain ⟨_, _, p, _⟩ := I.tuple h; exact .str_tuple _ _ p hu'
      | lst h r => cases r2; simp only [eqD]; obtain ⟨_, _, p, _⟩ := I.list h; exact .str_list _ _ p.isList hu'
    | tup h r => rw [dep] at hd; omega
    | lst h r => rw [dep] at hd; omega
  | succ n ih =>
    intro A d e v w u1 u2 hd hx1 hx2 hu h1 h2 r1 r2
    have hu' : A.units < cLine := by omega
    have hu1 : A.in1.units + n < cLine := by show A.units + 1 + n < cLine; omega
    by_cases hdn : dep d ≤ n
    · exact ih A d e v w u1 u2 hdn hx1 hx2 (by omega) h1 h2 r1 r2
    cases h1 with
    | exn _ _ => simp [noX] at hx1
    | non => exact absurd (by simp [dep]) hdn
    | bl _ => exact absurd (by simp [dep]) hdn
    | int _ => exact absurd (by simp [dep]) hdn
    | str _ => exact absurd (by simp [dep]) hdn
    | @tup a xs ds h r =>
      cases r1
      obtain ⟨its, rv, p, _⟩ := I.tuple h
      cases h2 with
      | exn _ _ => simp [noX] at hx2
      | non => cases r2; simp only [eqD]; exact .tuple_none p hu'
      | bl b => cases r2; simp only [eqD]; exact .tuple_bool _ p hu'
      | int b => obtain ⟨t, rfl⟩ := r2; simp only [eqD]; exact .tuple_int _ _ p hu'
      | str b => obtain ⟨t, rfl⟩ := r2; simp only [eqD]; exact .tuple_str _ _ p hu'
      | @lst a2 xs2 es h' r' => cases r2; simp only [eqD]; obtain ⟨_, _, p', _⟩ := I.list h'; exact .tuple_list p p'.isList hu'
      | @tup a2 xs2 es h' r' =>
        cases r2
        by_cases ha : a = a2
        · subst ha
          have e' := I.tuple_inj h h'
          subst e'
          have e2 := hasL_inj I (by rw [noX] at hx1; exact hx1) (by rw [noX] at hx2; exact hx2) r r'
          subst e2
          rw [eqD_refl]
          exact .same _
        · obtain ⟨its', rv', p', _⟩ := I.tuple h'
          refine .of_refs ha ?_
          have q := SeqAt.RcAt.tuples (A := A) (e := fun j => eqD (ds.getD j .non) (es.getD j .non)) p p' hu' fun j h1 h2 => ?_
          · have z1 : its.toArray.size = ds.length := by rw [List.size_toArray, ← rv.length, r.length]
            have z2 : its'.toArray.size = es.length := by rw [List.size_toArray, ← rv'.length, r'.length]
            rw [z1, z2, eqDs_min] at q
            simp only [eqD]
            exact q
          · obtain ⟨x, hx, rx⟩ := vat rv j h1
            obtain ⟨y, hy, ry⟩ := vat rv' j h2
            obtain ⟨dx, ex, hax⟩ := r.getV hx
            obtain ⟨dy, ey, hay⟩ := r'.getV hy
            rw [getD_of ex, getD_of ey]
            refine ih A.in1 dx dy x y _ _ ?_ (noX_mem (List.mem_of_getElem? ex) (by rw [noX] at hx1; exact hx1)) (noX_mem (List.mem_of_getElem? ey) (by rw [noX] at hx2; exact hx2)) hu1 hax hay rx ry
            rw [dep] at hd
            have := dep_mem (List.mem_of_getElem? ex)
            omega
    | @lst a xs ds h r =>
      cases r1
      obtain ⟨its, rv, p, _⟩ := I.list h
      cases h2 with
      | exn _ _ => simp [noX] at hx2
      | non => cases r2; simp only [eqD]; exact .list_none p.isList hu'
      | bl b => cases r2; simp only [eqD]; exact .list_bool _ p.isList hu'
      | int b => obtain ⟨t, rfl⟩ := r2; simp only [eqD]; exact .list_int _ _ p.isList hu'
      | str b => obtain ⟨t, rfl⟩ := r2; simp only [eqD]; exact .list_str _ _ p.isList hu'
      | @tup a2 xs2 es h' r' => cases r2; simp only [eqD]; obtain ⟨_, _, p', _⟩ := I.tuple h'; exact .list_tuple p.isList p' hu'
      | @lst a2 xs2 es h' r' =>
        cases r2
        by_cases ha : a = a2
        · subst ha
          have e' := I.list_inj h h'
          subst e'
          have e2 := hasL_inj I (by rw [noX] at hx1; exact hx1) (by rw [noX] at hx2; exact hx2) r r'
          subst e2
          rw [eqD_refl]
          exact .same _
        · obtain ⟨its', rv', p', _⟩ := I.list h'
          refine .of_refs ha ?_
          have z1 : its.toArray.size = ds.length := by rw [List.size_toArray, ← rv.length, r.length]
          have z2 : its'.toArray.size = es.length := by rw [List.size_toArray, ← rv'.length, r'.length]
          by_cases hz : its.toArray.size = its'.toArray.size
          · have q := SeqAt.RcAt.lists (A := A) (e := fun j => eqD (ds.getD j .non) (es.getD j .non)) p.isList p'.isList hz hu' fun j h1 h2 => ?_
            · rw [z1, eqDs_range ds es (by rw [← z1, ← z2, hz])] at q
              simp only [eqD]
              exact q
            · obtain ⟨x, hx, rx⟩ := vat rv j h1
              obtain ⟨y, hy, ry⟩ := vat rv' j h2
              obtain ⟨dx, ex, hax⟩ := r.getV hx
              obtain ⟨dy, ey, hay⟩ := r'.getV hy
              rw [getD_of ex, getD_of ey]
              refine ih A.in1 dx dy x y _ _ ?_ (noX_mem (List.mem_of_getElem? ex) (by rw [noX] at hx1; exact hx1)) (noX_mem (List.mem_of_getElem? ey) (by rw [noX] at hx2; exact hx2)) hu1 hax hay rx ry
              rw [dep] at hd
              have := dep_mem (List.mem_of_getElem? ex)
              omega
          · have q := SeqAt.RcAt.lists_lengths (A := A) p.isList p'.isList (by simpa using hz) hu'
            simp only [eqD]
            rw [eqDs_ne (by rw [← z1, ← z2]; exact hz)]
            exact q
theorem rc_D (I : Inv X pins σ H s) (A : Around) (d e : D) (v w : V) (u1 u2 : Value) (hd : A.units + dep d < cLine) (hx1 : noX d = true) (hx2 : noX e = true) (h1 : Has X.K H v d) (h2 : Has X.K H w e) (r1 : RelV v u1) (r2 : RelV w u2) : SeqAt.RcAt A s u1 u2 (eqD d e) := by
  have hu' : A.units < cLine := by omega
  cases h1 with
  | exn _ _ => simp [noX] at hx1
  | non =>
    cases r1
    cases h2 with
    | exn _ _ => simp [noX] at hx2
    | non => cases r2; simp only [eqD]; exact .none_none
    | bl b => cases r2; simp only [eqD]; exact .none_bool _
    | int b => obtain ⟨t, rfl⟩ := r2; simp only [eqD]; exact .none_int _ _
    | str b => obtain ⟨t, rfl⟩ := r2; simp only [eqD]; exact .none_str _ _
    | tup h r => cases r2; simp only [eqD]; obtain ⟨_, _, p, _⟩ := I.tuple h; exact .none_tuple  p hu'
    | lst h r => cases r2; simp only [eqD]; obtain ⟨_, _, p, _⟩ := I.list h; exact .none_list  p.isList hu'
  | bl a =>
    cases r1
    cases h2 with
    | exn _ _ => simp [noX] at hx2
    | non => cases r2; simp only [eqD]; exact .bool_none _
    | bl b => cases r2; simp only [eqD]; exact .bool_bool _ _
    | int b => obtain ⟨t, rfl⟩ := r2; simp only [eqD]; exact .bool_int _ _ _
    | str b => obtain ⟨t, rfl⟩ := r2; simp only [eqD]; exact .bool_str _ _ _
    | tup h r => cases r2; simp only [eqD]; obtain ⟨_, _, p, _⟩ := I.tuple h; exact .bool_tuple _ p hu'
    | lst h r => cases r2; simp only [eqD]; obtain ⟨_, _, p, _⟩ := I.list h; exact .bool_list _ p.isList hu'
  | int a =>
    obtain ⟨t', rfl⟩ := r1
    cases h2 with
    | exn _ _ => simp [noX] at hx2
    | non => cases r2; simp only [eqD]; exact .int_none _ _
    | bl b => cases r2; simp only [eqD]; exact .int_bool _ _ _
    | int b => obtain ⟨t, rfl⟩ := r2; simp only [eqD]; exact .int_int _ _ _ _
    | str b => obtain ⟨t, rfl⟩ := r2; simp only [eqD]; exact .int_str _ _ _ _
    | tup h r => cases r2; simp only [eqD]; obtain ⟨_, _, p, _⟩ := I.tuple h; exact .int_tuple _ _ p hu'
    | lst h r => cases r2; simp only [eqD]; obtain ⟨_, _, p, _⟩ := I.list h; exact .int_list _ _ p.isList hu'
  | str a =>
    obtain ⟨t', rfl⟩ := r1
    cases h2 with
    | exn _ _ => simp [noX] at hx2
    | non => cases r2; simp only [eqD]; exact .str_none _ _
    | bl b => cases r2; simp only [eqD]; exact .str_bool _ _ _
    | int b => obtain ⟨t, rfl⟩ := r2; simp only [eqD]; exact .str_int _ _ _ _
    | str b => obtain ⟨t, rfl⟩ := r2; simp only [eqD]; exact .str_str _ _ _ _
    | tup h r => cases r2; simp only [eqD]; obtain ⟨_, _, p, _⟩ := I.tuple h; exact .str_tuple _ _ p hu'
    | lst h r => cases r2; simp only [eqD]; obtain ⟨_, _, p, _⟩ := I.list h; exact .str_list _ _ p.isList hu'
  | @tup a xs ds h r =>
    cases r1
    obtain ⟨its, rv, p, _⟩ := I.tuple h
    cases h2 with
    | exn _ _ => simp [noX] at hx2
    | non => cases r2; simp only [eqD]; exact .tuple_none  p hu'
    | bl b => cases r2; simp only [eqD]; exact .tuple_bool _ p hu'
    | int b => obtain ⟨t, rfl⟩ := r2; simp only [eqD]; exact .tuple_int _ _ p hu'
    | str b => obtain ⟨t, rfl⟩ := r2; simp only [eqD]; exact .tuple_str _ _ p hu'
    | @lst a2 xs2 es h' r' => cases r2; simp only [eqD]; obtain ⟨_, _, p', _⟩ := I.list h'; exact .tuple_list p p'.isList hu'
    | @tup a2 xs2 es h' r' =>
      cases r2
      obtain ⟨its', rv', p', _⟩ := I.tuple h'
      have z1 : its.toArray.size = ds.length := by rw [List.size_toArray, ← rv.length, r.length]
      have z2 : its'.toArray.size = es.length := by rw [List.size_toArray, ← rv'.length, r'.length]
      have q := SeqAt.RcAt.tuples (A := A) (e := fun j => eqD (ds.getD j .non) (es.getD j .non)) p p' hu' fun j h1 h2 => ?_
      · rw [z1, z2, eqDs_min] at q
        simp only [eqD]
        exact q
      · obtain ⟨x, hx, rx⟩ := vat rv j h1
        obtain ⟨y, hy, ry⟩ := vat rv' j h2
        obtain ⟨dx, ex, hax⟩ := r.getV hx
        obtain ⟨dy, ey, hay⟩ := r'.getV hy
        rw [getD_of ex, getD_of ey]
        rw [dep] at hd
        have := dep_mem (List.mem_of_getElem? ex)
        exact eqAt_D I (deps ds) A.in1 dx dy x y _ _ this (noX_mem (List.mem_of_getElem? ex) (by rw [noX] at hx1; exact hx1)) (noX_mem (List.mem_of_getElem? ey) (by rw [noX] at hx2; exact hx2)) (by show A.units + 1 + _ < cLine; omega) hax hay rx ry
  | @lst a xs ds h r =>
    cases r1
    obtain ⟨its, rv, p, _⟩ := I.list h
    cases h2 with
    | exn _ _ => simp [noX] at hx2
    | non => cases r2; simp only [eqD]; exact .list_none  p.isList hu'
    | bl b => cases r2; simp only [eqD]; exact .list_bool _ p.isList hu'
    | int b => obtain ⟨t, rfl⟩ := r2; simp only [eqD]; exact .list_int _ _ p.isList hu'
    | str b => obtain ⟨t, rfl⟩ := r2; simp only [eqD]; exact .list_str _ _ p.isList hu'
    | @tup a2 xs2 es h' r' => cases r2; simp only [eqD]; obtain ⟨_, _, p', _⟩ := I.tuple h'; exact .list_tuple p.isList p' hu'
    | @lst a2 xs2 es h' r' =>
      cases r2
      obtain ⟨its', rv', p', _⟩ := I.list h'
      have z1 : its.toArray.size = ds.length := by rw [List.size_toArray, ← rv.length, r.length]
      have z2 : its'.toArray.size = es.length := by rw [List.size_toArray, ← rv'.length, r'.length]
      by_cases hz : its.toArray.size = its'.toArray.size
      · have q := SeqAt.RcAt.lists (A := A) (e := fun j => eqD (ds.getD j .non) (es.getD j .non)) p.isList p'.isList hz hu' fun j h1 h2 => ?_
        · rw [z1, eqDs_range ds es (by rw [← z1, ← z2, hz])] at q
          simp only [eqD]
          exact q
        · obtain ⟨x, hx, rx⟩ := vat rv j h1
          obtain ⟨y, hy, ry⟩ := vat rv' j h2
          obtain ⟨dx, ex, hax⟩ := r.getV hx
          obtain ⟨dy, ey, hay⟩ := r'.getV hy
          rw [getD_of ex, getD_of ey]
          rw [dep] at hd
          have := dep_mem (List.mem_of_getElem? ex)
          exact eqAt_D I (deps ds) A.in1 dx dy x y _ _ this (noX_mem (List.mem_of_getElem? ex) (by rw [noX] at hx1; exact hx1)) (noX_mem (List.mem_of_getElem? ey) (by rw [noX] at hx2; exact hx2)) (by show A.units + 1 + _ < cLine; omega) hax hay rx ry
      · have q := SeqAt.RcAt.lists_lengths (A := A) p.isList p'.isList (by simpa using hz) hu'
        simp only [eqD]
        rw [eqDs_ne (by rw [← z1, ← z2]; exact hz)]
        exact q
theorem rcn_D (I : Inv X pins σ H s) (A : Around) (d e : D) (v w : V) (u1 u2 : Value) (hd : A.units + dep d < cLine) (hx1 : noX d = true) (hx2 : noX e = true) (h1 : Has X.K H v d) (h2 : Has X.K H w e) (r1 : RelV v u1) (r2 : RelV w u2) : SeqAt.RcNeAt A s u1 u2 (!eqD d e) := by
  have hu' : A.units < cLine := by omega
  cases h1 with
  | exn _ _ => simp [noX] at hx1
  | non =>
    cases r1
    cases h2 with
    | exn _ _ => simp [noX] at hx2
    | non => cases r2; simp only [eqD]; exact .none_none
    | bl b => cases r2; simp only [eqD]; exact .none_bool _
    | int b => obtain ⟨t, rfl⟩ := r2; simp only [eqD]; exact .none_int _ _
    | str b => obtain ⟨t, rfl⟩ := r2; simp only [eqD]; exact .none_str _ _
    | tup h r => cases r2; simp only [eqD]; obtain ⟨_, _, p, _⟩ := I.tuple h; exact .none_tuple  p hu'
    | lst h r => cases r2; simp only [eqD]; obtain ⟨_, _, p, _⟩ := I.list h; exact .none_list  p.isList hu'
  | bl a =>
    cases r1
    cases h2 with
    | exn _ _ => simp [noX] at hx2
    | non => cases r2; simp only [eqD]; exact .bool_none _
    | bl b => cases r2; simp only [eqD]; exact .bool_bool _ _
    | int b => obtain ⟨t, rfl⟩ := r2; simp only [eqD]; exact .bool_int _ _ _
    | str b => obtain ⟨t, rfl⟩ := r2; simp only [eqD]; exact .bool_str _ _ _
    | tup h r => cases r2; simp only [eqD]; obtain ⟨_, _, p, _⟩ := I.tuple h; exact .bool_tuple _ p hu'
    | lst h r => cases r2; simp only [eqD]; obtain ⟨_, _, p, _⟩ := I.list h; exact .bool_list _ p.isList hu'
  | int a =>
    obtain ⟨t', rfl⟩ := r1
    cases h2 with
    | exn _ _ => simp [noX] at hx2
    | non => cases r2; simp only [eqD]; exact .int_none _ _
    | bl b => cases r2; simp only [eqD]; exact .int_bool _ _ _
    | int b => obtain ⟨t, rfl⟩ := r2; simp only [eqD]; exact .int_int _ _ _ _
    | str b => obtain ⟨t, rfl⟩ := r2; simp only [eqD]; exact .int_str _ _ _ _
    | tup h r => cases r2; simp only [eqD]; obtain ⟨_, _, p, _⟩ := I.tuple h; exact .int_tuple _ _ p hu'
    | lst h r => cases r2; simp only [eqD]; obtain ⟨_, _, p, _⟩ := I.list h; exact .int_list _ _ p.isList hu'
  | str a =>
    obtain ⟨t', rfl⟩ := r1
    cases h2 with
    | exn _ _ => simp [noX] at hx2
    | non => cases r2; simp only [eqD]; exact .str_none _ _
    | bl b => cases r2; simp only [eqD]; exact .str_bool _ _ _
    | int b => obtain ⟨t, rfl⟩ := r2; simp only [eqD]; exact .str_int _ _ _ _
    | str b => obtain ⟨t, rfl⟩ := r2; simp only [eqD]; exact .str_str _ _ _ _
    | tup h r => cases r2; simp only [eqD]; obtain ⟨_, _, p, _⟩ := I.tuple h; exact .str_tuple _ _ p hu'
    | lst h r => cases r2; simp only [eqD]; obtain ⟨_, _, p, _⟩ := I.list h; exact .str_list _ _ p.isList hu'
  | @tup a xs ds h r =>
    cases r1
    obtain ⟨its, rv, p, _⟩ := I.tuple h
    cases h2 with
    | exn _ _ => simp [noX] at hx2
    | non => cases r2; simp only [eqD]; exact .tuple_none  p hu'
    | bl b => cases r2; simp only [eqD]; exact .tuple_bool _ p hu'
    | int b => obtain ⟨t, rfl⟩ := r2; simp only [eqD]; exact .tuple_int _ _ p hu'
    | str b => obtain ⟨t, rfl⟩ := r2; simp only [eqD]; exact .tuple_str _ _ p hu'
    | @lst a2 xs2 es h' r' => cases r2; simp only [eqD]; obtain ⟨_, _, p', _⟩ := I.list h'; exact .tuple_list p p'.isList hu'
    | @tup a2 xs2 es h' r' =>
      cases r2
      obtain ⟨its', rv', p', _⟩ := I.tuple h'
      have z1 : its.toArray.size = ds.length := by rw [List.size_toArray, ← rv.length, r.length]
      have z2 : its'.toArray.size = es.length := by rw [List.size_toArray, ← rv'.length, r'.length]
      have q := SeqAt.RcNeAt.tuples (A := A) (e := fun j => eqD (ds.getD j .non) (es.getD j .non)) p p' hu' fun j h1 h2 => ?_
      · rw [z1, z2, eqDs_min] at q
        simp only [eqD]
        exact q
      · obtain ⟨x, hx, rx⟩ := vat rv j h1
        obtain ⟨y, hy, ry⟩ := vat rv' j h2
        obtain ⟨dx, ex, hax⟩ := r.getV hx
        obtain ⟨dy, ey, hay⟩ := r'.getV hy
        rw [getD_of ex, getD_of ey]
        rw [dep] at hd
        have := dep_mem (List.mem_of_getElem? ex)
        exact eqAt_D I (deps ds) A.in1 dx dy x y _ _ this (noX_mem (List.mem_of_getElem? ex) (by rw [noX] at hx1; exact hx1)) (noX_mem (List.mem_of_getElem? ey) (by rw [noX] at hx2; exact hx2)) (by show A.units + 1 + _ < cLine; omega) hax hay rx ry
  | @lst a xs ds h r =>
    cases r1
    obtain ⟨its, rv, p, _⟩ := I.list h
    cases h2 with
    | exn _ _ => simp [noX] at hx2
    | non => cases r2; simp only [eqD]; exact .list_none  p.isList hu'
    | bl b => cases r2; simp only [eqD]; exact .list_bool _ p.isList hu'
    | int b => obtain ⟨t, rfl⟩ := r2; simp only [eqD]; exact .list_int _ _ p.isList hu'
    | str b => obtain ⟨t, rfl⟩ := r2; simp only [eqD]; exact .list_str _ _ p.isList hu'
    | @tup a2 xs2 es h' r' => cases r2; simp only [eqD]; obtain ⟨_, _, p', _⟩ := I.tuple h'; exact .list_tuple p.isList p' hu'
    | @lst a2 xs2 es h' r' =>
      cases r2
      obtain ⟨its', rv', p', _⟩ := I.list h'
      have z1 : its.toArray.size = ds.length := by rw [List.size_toArray, ← rv.length, r.length]
      have z2 : its'.toArray.size = es.length := by rw [List.size_toArray, ← rv'.length, r'.length]
      by_cases hz : its.toArray.size = its'.toArray.size
      · have q := SeqAt.RcNeAt.lists (A := A) (e := fun j => eqD (ds.getD j .non) (es.getD j .non)) p.isList p'.isList hz hu' fun j h1 h2 => ?_
        · rw [z1, eqDs_range ds es (by rw [← z1, ← z2, hz])] at q
          simp only [eqD]
          exact q
        · obtain ⟨x, hx, rx⟩ := vat rv j h1
          obtain ⟨y, hy, ry⟩ := vat rv' j h2
          obtain ⟨dx, ex, hax⟩ := r.getV hx
          obtain ⟨dy, ey, hay⟩ := r'.getV hy
          rw [getD_of ex, getD_of ey]
          rw [dep] at hd
          have := dep_mem (List.mem_of_getElem? ex)
          exact eqAt_D I (deps ds) A.in1 dx dy x y _ _ this (noX_mem (List.mem_of_getElem? ex) (by rw [noX] at hx1; exact hx1)) (noX_mem (List.mem_of_getElem? ey) (by rw [noX] at hx2; exact hx2)) (by show A.units + 1 + _ < cLine; omega) hax hay rx ry
      · have q := SeqAt.RcNeAt.lists_lengths (A := A) p.isList p'.isList (by simpa using hz) hu'
        simp only [eqD]
        rw [eqDs_ne (by rw [← z1, ← z2]; exact hz)]
        exact q

/-- == and != of data -/
def rEqD (K : PySem.W.Frag) (A : Around) (neg : Bool) : R2 := fun x y H Q => ∃ d e, Has K H x d ∧ Has K H y e ∧ A.units + dep d < cLine ∧ noX d = true ∧ noX e = true ∧ Q (.bl (if neg = true then !eqD d e else eqD d e)) H
theorem op_eqD : OpR X (compareOp .Eq) (rEqD X.K X.A false) := by
  intro pins s σ H x y v u Q I rx ry h
  obtain ⟨d, e, hd, he, hu, n1, n2, q⟩ := h
  exact rc_D I X.A d e x y v u hu n1 n2 hd he rx ry X.prog X.w X.xe _ ⟨.bl _, H, I, rfl, q⟩
theorem op_neD : OpR X (compareOp .NotEq) (rEqD X.K X.A true) := by
  intro pins s σ H x y v u Q I rx ry h
  obtain ⟨d, e, hd, he, hu, n1, n2, q⟩ := h
  exact rcn_D I X.A d e x y v u hu n1 n2 hd he rx ry X.prog X.w X.xe _ ⟨.bl _, H, I, rfl, q⟩
end
end L2

set_option Elab.async false
set_option linter.all false
set_option maxRecDepth 100000
namespace L2
open PySem PySem.Spec PyProof.Rows

/-! ### a layer of data: what an expression is worth, by the data of the names -/
/-- other things of one's own: a list of lists of one's own; a list that a caller lent, at its address -/
inductive Ow where
  | rows (dss : List (List D))
  | anc (p : Addr) (ds : List D)
/-- a name's content: a datum; or a list (or other thing) of one's own, that only this name has -/
inductive Cl where
  | val (d : D) | own (ds : List D) | ow (o : Ow)
abbrev Rho := List (Option Cl)
/-- a worth; an exception of the class at c; nothing said -/
inductive M (α : Type) where
  | ok (a : α) | ex (c : Str) | bad
def M.bind {α β : Type} (m : M α) (k : α → M β) : M β := match m with
  | .ok a => k a
  | .ex c => .ex c
  | .bad => .bad
@[simp] theorem M.bind_ok {α β : Type} (a : α) (k : α → M β) : (M.ok a).bind k = k a := rfl
@[simp] theorem M.bind_ex {α β : Type} (c : Str) (k : α → M β) : (M.ex c).bind k = .ex c := rfl
@[simp] theorem M.bind_bad {α β : Type} (k : α → M β) : M.bad.bind k = .bad := rfl
/-- the heap without the addresses of P -/
noncomputable def del (H : Hp) (P : Addr → Prop) : Hp := fun a => open Classical in if P a then none else H a
theorem del_of {H : Hp} {P : Addr → Prop} {a : Addr} (h : ¬ P a) : del H P a = H a := by unfold del; rw [if_neg h]
theorem del_in {H : Hp} {P : Addr → Prop} {a : Addr} (h : P a) : del H P a = none := by unfold del; rw [if_pos h]
theorem del_some {H : Hp} {P : Addr → Prop} {a : Addr} {o : HO} (h : del H P a = some o) : ¬ P a ∧ H a = some o := by
  by_cases hp : P a
  · rw [del_in hp] at h; cases h
  · rw [del_of hp] at h; exact ⟨hp, h⟩
theorem Same.del {H H' : Hp} {P : Addr → Prop} (e : Same H H') : Same (del H P) (del H' P) := fun b o h => by
  obtain ⟨h1, h2⟩ := del_some h
  rw [del_of h1]; exact e b o h2
theorem del_sub {H : Hp} {P P' : Addr → Prop} (h : ∀ a, P' a → P a) : Same (L2.del H P) (L2.del H P') := fun b o e => by
  obtain ⟨h1, h2⟩ := del_some e
  rw [del_of fun z => h1 (h b z)]; exact h2
theorem del_full {H : Hp} {P : Addr → Prop} : Same (L2.del H P) H := fun b o e => (del_some e).2
/-- a tracked thing: no tuple -/
def Trk (H : Hp) (a : Addr) : Prop := ∃ o, H a = some o ∧ ∀ xs, o ≠ .tup xs ∧ ∀ z, o ≠ .frz z (.tup xs)
theorem Trk.same {H H' : Hp} {a : Addr} (h : Trk H a) (e : Same H H') : Trk H' a := let ⟨o, q, r⟩ := h; ⟨o, e a o q, r⟩
theorem Trk.no {H : Hp} {a : Addr} (h : Trk H a) (e : H a = none) : False := by
  obtain ⟨o, q, r⟩ := h
  rw [e] at q; cases q
theorem Trk.lst {H : Hp} {a : Addr} {xs : List V} (h : H a = some (.lst xs)) : Trk H a := ⟨_, h, fun _ => ⟨fun z => (by cases z), fun _ z => by cases z⟩⟩
/-- lists of one's own at these addresses -/
inductive RowsH (K : PySem.W.Frag) (H : Hp) (P : Addr → Prop) : List Addr → List (List D) → Prop
  | nil : RowsH K H P [] []
  | cons {q : Addr} {xs : List V} {ds : List D} {ps : List Addr} {dss : List (List D)} : H q = some (.lst xs) → HasL K (del H P) xs ds → RowsH K H P ps dss → RowsH K H P (q :: ps) (ds :: dss)
/-- a content of one's own: the value and the addresses that it takes -/
def OwH (K : PySem.W.Frag) (H : Hp) (P : Addr → Prop) : Cl → V → List Addr → Prop
  | .own ds, v, fp => ∃ p xs, v = .ref p ∧ fp = [p] ∧ H p = some (.lst xs) ∧ HasL K (del H P) xs ds
  | .ow (.rows dss), v, fp => ∃ p ps, v = .ref p ∧ fp = p :: ps ∧ H p = some (.lst (ps.map V.ref)) ∧ RowsH K H P ps dss
  | .ow (.anc p ds), v, fp => ∃ xs, v = .ref p ∧ fp = [p] ∧ H p = some (.lst xs) ∧ HasL K (del H P) xs ds
  | .val _, _, _ => False
def isOw : Cl → Bool
  | .val _ => false
  | _ => true
theorem RowsH.move {K : PySem.W.Frag} {H H' : Hp} {P P' : Addr → Prop} (sm : Same (del H P) (del H' P')) : ∀ {ps : List Addr} {dss : List (List D)}, (∀ a ∈ ps, H' a = H a) → RowsH K H P ps dss → RowsH K H' P' ps dss
  | _, _, _, .nil => .nil
  | _, _, k, .cons h r t => .cons ((k _ List.mem_cons_self).trans h) (r.mono sm) (RowsH.move sm (fun a ha => k a (List.mem_cons_of_mem _ ha)) t)
theorem RowsH.at {K : PySem.W.Frag} {H : Hp} {P : Addr → Prop} : ∀ {ps : List Addr} {dss : List (List D)}, RowsH K H P ps dss → ∀ a ∈ ps, ∃ xs, H a = some (.lst xs)
  | _, _, .nil, a, h => by cases h
  | _, _, .cons h r t, a, ha => by
    rcases List.mem_cons.mp ha with rfl | ha
    · exact ⟨_, h⟩
    · exact t.at a ha
theorem RowsH.length {K : PySem.W.Frag} {H : Hp} {P : Addr → Prop} : ∀ {ps : List Addr} {dss : List (List D)}, RowsH K H P ps dss → ps.length = dss.length
  | _, _, .nil => rfl
  | _, _, .cons h r t => by rw [List.length_cons, List.length_cons, t.length]
theorem RowsH.get {K : PySem.W.Frag} {H : Hp} {P : Addr → Prop} : ∀ {ps : List Addr} {dss : List (List D)} {i : Nat} {ds : List D}, RowsH K H P ps dss → dss[i]? = some ds → ∃ q xs, ps[i]? = some q ∧ H q = some (.lst xs) ∧ HasL K (del H P) xs ds
  | _, _, _, _, .nil, e => by simp at e
  | _, _, 0, _, .cons h r _, e => by simp at e; subst e; exact ⟨_, _, rfl, h, r⟩
  | _, _, i + 1, ds, .cons _ _ t, e => by
    obtain ⟨q, xs, h1, h2⟩ := RowsH.get (i := i) (ds := ds) t (by simpa using e)
    exact ⟨q, xs, by simpa using h1, h2⟩
theorem refs_inj : ∀ {ps qs : List Addr}, ps.map V.ref = qs.map V.ref → ps = qs
  | [], [], _ => rfl
  | [], _ :: _, h => by cases h
  | _ :: _, [], h => by cases h
  | p :: ps, q :: qs, h => by
    rw [List.map_cons, List.map_cons] at h
    injection h with h1 h2
    injection h1 with h1
    rw [h1, refs_inj h2]
theorem OwH.move {K : PySem.W.Frag} {H H' : Hp} {P P' : Addr → Prop} (sm : Same (del H P) (del H' P')) {c : Cl} {v : V} {fp : List Addr} (k : ∀ a ∈ fp, H' a = H a) (h : OwH K H P c v fp) : OwH K H' P' c v fp := by
  cases c with
  | val d => exact h
  | own ds =>
    obtain ⟨p, xs, rfl, rfl, h1, h2⟩ := h
    exact ⟨p, xs, rfl, rfl, (k p List.mem_cons_self).trans h1, h2.mono sm⟩
  | ow o =>
    cases o with
    | rows dss =>
      obtain ⟨p, ps, rfl, rfl, h1, h2⟩ := h
      exact ⟨p, ps, rfl, rfl, (k p List.mem_cons_self).trans h1, h2.move sm fun a ha => k a (List.mem_cons_of_mem _ ha)⟩
    | anc p ds =>
      obtain ⟨xs, rfl, rfl, h1, h2⟩ := h
      exact ⟨xs, rfl, rfl, (k p List.mem_cons_self).trans h1, h2.mono sm⟩
theorem OwH.at {K : PySem.W.Frag} {H : Hp} {P : Addr → Prop} {c : Cl} {v : V} {fp : List Addr} (h : OwH K H P c v fp) : ∀ a ∈ fp, ∃ xs, H a = some (.lst xs) := by
  cases c with
  | val d => exact h.elim
  | own ds =>
    obtain ⟨p, xs, rfl, rfl, h1, h2⟩ := h
    exact fun a ha => ⟨xs, by rw [List.mem_singleton.mp ha]; exact h1⟩
  | ow o =>
    cases o with
    | rows dss =>
      obtain ⟨p, ps, rfl, rfl, h1, h2⟩ := h
      intro a ha
      rcases List.mem_cons.mp ha with rfl | ha
      · exact ⟨_, h1⟩
      · exact h2.at a ha
    | anc p ds =>
      obtain ⟨xs, rfl, rfl, h1, h2⟩ := h
      exact fun a ha => ⟨xs, by rw [List.mem_singleton.mp ha]; exact h1⟩
theorem OwH.same {K : PySem.W.Frag} {H H' : Hp} {P : Addr → Prop} (e : Same H H') {c : Cl} {v : V} {fp : List Addr} (h : OwH K H P c v fp) : OwH K H' P c v fp :=
  h.move e.del fun a ha => by obtain ⟨xs, q⟩ := h.at a ha; rw [q]; exact e _ _ q
theorem OwH.uniq {K : PySem.W.Frag} {H : Hp} {P P' : Addr → Prop} {c : Cl} {v : V} {fp fp' : List Addr} (h : OwH K H P c v fp) (h' : OwH K H P' c v fp') : fp = fp' := by
  cases c with
  | val d => exact h.elim
  | own ds =>
    obtain ⟨p, xs, rfl, rfl, h1, h2⟩ := h
    obtain ⟨p', xs', e, rfl, h1', h2'⟩ := h'
    cases e; rfl
  | ow o =>
    cases o with
    | rows dss =>
      obtain ⟨p, ps, rfl, rfl, h1, h2⟩ := h
      obtain ⟨p', ps', e, rfl, h1', h2'⟩ := h'
      cases e
      rw [h1] at h1'
      injection h1' with e
      injection e with e
      rw [refs_inj e]
    | anc p ds =>
      obtain ⟨xs, rfl, rfl, h1, h2⟩ := h
      obtain ⟨xs', e, rfl, h1', h2'⟩ := h'
      rfl
structure EnvP (K : PySem.W.Frag) (P0 P : Addr → Prop) (H : Hp) (σ : St) (ρ : Rho) : Prop where
  sub : ∀ a, P0 a → P a
  trk : ∀ a, P a → Trk H a
  val : ∀ (i : Nat) d, ρ[i]? = some (some (.val d)) → ∃ v, σ[i]? = some (some v) ∧ Has K (del H P) v d
  ows : ∀ (i : Nat) c, ρ[i]? = some (some c) → isOw c = true → ∃ v fp, σ[i]? = some (some v) ∧ OwH K H P c v fp ∧ (∀ a ∈ fp, P a ∧ ¬ P0 a) ∧ fp.Nodup
  apart : ∀ (i j : Nat) c c' v v' fp fp', ρ[i]? = some (some c) → ρ[j]? = some (some c') → σ[i]? = some (some v) → σ[j]? = some (some v') → OwH K H P c v fp → OwH K H P c' v' fp' → i ≠ j → ∀ a ∈ fp, a ∉ fp'
  len : σ.length = ρ.length
theorem EnvP.own {K : PySem.W.Frag} {P0 P : Addr → Prop} {H : Hp} {σ : St} {ρ : Rho} (E : EnvP K P0 P H σ ρ) (i : Nat) (ds : List D) (h : ρ[i]? = some (some (.own ds))) :
    ∃ p xs, σ[i]? = some (some (.ref p)) ∧ H p = some (.lst xs) ∧ P p ∧ ¬ P0 p ∧ HasL K (del H P) xs ds := by
  obtain ⟨v, fp, h1, ⟨p, xs, rfl, rfl, h2, h3⟩, h4, _⟩ := E.ows i _ h rfl
  exact ⟨p, xs, h1, h2, (h4 p List.mem_cons_self).1, (h4 p List.mem_cons_self).2, h3⟩
/-- the things of one's own stay apart in a later heap -/
theorem EnvP.apart' {K : PySem.W.Frag} {P0 P P' : Addr → Prop} {H H' : Hp} {σ : St} {ρ : Rho} (E : EnvP K P0 P H σ ρ) (sm : Same (del H P) (del H' P')) {i j : Nat} {c c' : Cl} {v v' : V} {fp fp' : List Addr}
    (ki : ∀ v fp, σ[i]? = some (some v) → OwH K H P c v fp → ∀ a ∈ fp, H' a = H a) (kj : ∀ v fp, σ[j]? = some (some v) → OwH K H P c' v fp → ∀ a ∈ fp, H' a = H a)
    (hi : ρ[i]? = some (some c)) (hj : ρ[j]? = some (some c')) (si : σ[i]? = some (some v)) (sj : σ[j]? = some (some v')) (h : OwH K H' P' c v fp) (h' : OwH K H' P' c' v' fp') (hne : i ≠ j) : ∀ a ∈ fp, a ∉ fp' := by
  have key : ∀ (k : Nat) (d : Cl) (w : V) (fq : List Addr), ρ[k]? = some (some d) → σ[k]? = some (some w) → (∀ v fp, σ[k]? = some (some v) → OwH K H P d v fp → ∀ a ∈ fp, H' a = H a) → OwH K H' P' d w fq → OwH K H P d w fq := fun k d w fq hk sk kk ho => by
    have io : isOw d = true := by cases d <;> first | rfl | exact ho.elim
    obtain ⟨w', fp2, s2, o2, _⟩ := E.ows k d hk io
    rw [sk] at s2; cases s2
    have o3 := o2.move sm (kk _ _ sk o2)
    rw [ho.uniq o3]
    exact o2
  exact E.apart i j c c' v v' fp fp' hi hj si sj (key i c v fp hi si ki h) (key j c' v' fp' hj sj kj h') hne
theorem EnvP.same {K : PySem.W.Frag} {P0 P : Addr → Prop} {H H' : Hp} {σ : St} {ρ : Rho} (E : EnvP K P0 P H σ ρ) (e : Same H H') : EnvP K P0 P H' σ ρ :=
  ⟨E.sub, fun a h => (E.trk a h).same e, fun i d h => let ⟨v, h1, h2⟩ := E.val i d h; ⟨v, h1, h2.mono e.del⟩,
    fun i c h io => let ⟨v, fp, h1, h2, h3, h4⟩ := E.ows i c h io; ⟨v, fp, h1, h2.same e, h3, h4⟩,
    fun i j c c' v v' fp fp' hi hj si sj h h' hne => E.apart' e.del (fun v fp _ o a ha => by obtain ⟨xs, q⟩ := o.at a ha; rw [q]; exact e _ _ q) (fun v fp _ o a ha => by obtain ⟨xs, q⟩ := o.at a ha; rw [q]; exact e _ _ q) hi hj si sj h h' hne, E.len⟩
def gV (K : PySem.W.Frag) (WX : Str → Hp → Prop) (P : Addr → Prop) (H : Hp) (Q : VK) : M D → Prop
  | .ok d => ∀ v H', Same H H' → Has K (del H' P) v d → Q v H'
  | .ex x => ∀ H', Same H H' → WX x H'
  | .bad => False
def gA (K : PySem.W.Frag) (WX : Str → Hp → Prop) (P : Addr → Prop) (H : Hp) (Q : List V → Hp → Prop) : M (List D) → Prop
  | .ok d => ∀ v H', Same H H' → HasL K (del H' P) v d → Q v H'
  | .ex x => ∀ H', Same H H' → WX x H'
  | .bad => False
def gT (WX : Str → Hp → Prop) (H : Hp) (Q : Bool → Hp → Prop) : M Bool → Prop
  | .ok b => ∀ H', Same H H' → Q b H'
  | .ex x => ∀ H', Same H H' → WX x H'
  | .bad => False
section
variable {K : PySem.W.Frag} {WX : Str → Hp → Prop} {P : Addr → Prop} {H H' : Hp}
theorem gV.same {Q : VK} {m : M D} (h : gV K WX P H Q m) (e : Same H H') : gV K WX P H' Q m := by
  cases m with
  | ok d => exact fun v H2 q hv => h v H2 (e.trans q) hv
  | ex x => exact fun H2 q => h H2 (e.trans q)
  | bad => exact h
theorem gA.same {Q : List V → Hp → Prop} {m : M (List D)} (h : gA K WX P H Q m) (e : Same H H') : gA K WX P H' Q m := by
  cases m with
  | ok d => exact fun v H2 q hv => h v H2 (e.trans q) hv
  | ex x => exact fun H2 q => h H2 (e.trans q)
  | bad => exact h
theorem gT.same {Q : Bool → Hp → Prop} {m : M Bool} (h : gT WX H Q m) (e : Same H H') : gT WX H' Q m := by
  cases m with
  | ok d => exact fun H2 q => h H2 (e.trans q)
  | ex x => exact fun H2 q => h H2 (e.trans q)
  | bad => exact h
end
/-- the level: clean (nothing of one's own lists within), or any -/
def Lv (c : Bool) (P0 P : Addr → Prop) : Addr → Prop := if c = true then P else P0
def DE (X : Cx) (WX : Str → Hp → Prop) (c : Bool) (e : Expr) (f : Rho → M D) : Prop :=
  ∃ t, PE X e t ∧ ∀ P0 P σ H Q ρ, EnvP X.K P0 P H σ ρ → gV X.K WX (Lv c P0 P) H Q (f ρ) → t σ H Q
def DA (X : Cx) (WX : Str → Hp → Prop) (c : Bool) (es : List Expr) (f : Rho → M (List D)) : Prop :=
  ∃ t, PA X es t ∧ (∀ P0 P σ H Q ρ, EnvP X.K P0 P H σ ρ → gA X.K WX (Lv c P0 P) H Q (f ρ) → t σ H Q) ∧ ∀ ρ ds, f ρ = .ok ds → ds.length = es.length
def DT (X : Cx) (WX : Str → Hp → Prop) (e : Expr) (f : Rho → M Bool) : Prop :=
  ∃ t, PT X e t ∧ ∀ P0 P σ H Q ρ, EnvP X.K P0 P H σ ρ → gT WX H Q (f ρ) → t σ H Q
def DW (X : Cx) (WX : Str → Hp → Prop) (e : Expr) (f : Rho → M Bool) : Prop :=
  ∃ t, PW X e t ∧ ∀ P0 P σ H Q ρ, EnvP X.K P0 P H σ ρ → gT WX H Q (f ρ) → t σ H Q
theorem DW.dt {X : Cx} {WX : Str → Hp → Prop} {e : Expr} {f : Rho → M Bool} (h : DW X WX e f) : DT X WX e f := let ⟨t, h1, h2⟩ := h; ⟨t, h1.pt, h2⟩

section
variable {X : Cx} {WX : Str → Hp → Prop} {c : Bool} {P0 P : Addr → Prop} {H : Hp} {σ : St} {ρ : Rho}
theorem EnvP.lv (E : EnvP X.K P0 P H σ ρ) (c : Bool) : ∀ a, Lv c P0 P a → P a := fun a h => by
  cases c with
  | true => exact h
  | false => exact E.sub a h
theorem EnvP.lvt (E : EnvP X.K P0 P H σ ρ) (c : Bool) : ∀ a, Lv c P0 P a → Trk H a := fun a h => E.trk a (E.lv c a h)
/-- a clean one is any one -/
theorem de_any {e : Expr} {f : Rho → M D} (h : DE X WX true e f) : DE X WX false e f := by
  obtain ⟨t, h1, h2⟩ := h
  refine ⟨t, h1, fun P0 P σ H Q ρ E g => h2 P0 P σ H Q ρ E ?_⟩
  cases e : f ρ with
  | ok d => rw [e] at g; exact fun v H' s hv => g v H' s (hv.mono (del_sub E.sub))
  | ex x => rw [e] at g; exact g
  | bad => rw [e] at g; exact g
def flatD : D → Bool
  | .tup _ | .lst _ | .exn _ => false
  | _ => true
theorem Has.flat {K : PySem.W.Frag} {H H' : Hp} {v : V} {d : D} (h : Has K H v d) (f : flatD d = true) : Has K H' v d := by
  cases h with
  | non => exact .non
  | bl b => exact .bl b
  | int b => exact .int b
  | str b => exact .str b
  | tup _ _ => cases f
  | lst _ _ => cases f
  | exn _ _ => cases f
def fl (m : M D) : M D := m.bind fun d => if flatD d = true then .ok d else .bad
/-- a flat worth is clean -/
theorem de_flat {e : Expr} {f : Rho → M D} (h : DE X WX false e f) : DE X WX true e (fun ρ => fl (f ρ)) := by
  obtain ⟨t, h1, h2⟩ := h
  refine ⟨t, h1, fun P0 P σ H Q ρ E g => h2 P0 P σ H Q ρ E ?_⟩
  unfold fl at g
  dsimp only at g
  cases e : f ρ with
  | ok d =>
    rw [e] at g
    simp only [M.bind_ok] at g
    by_cases hf : flatD d = true
    · rw [if_pos hf] at g
      exact fun v H' s hv => g v H' s (hv.flat hf)
    · rw [if_neg hf] at g; exact g.elim
  | ex x => rw [e] at g; exact g
  | bad => rw [e] at g; exact g
/-! names, constants -/
def rv (i : Nat) (ρ : Rho) : M D := match ρ[i]? with | some (some (.val d)) => .ok d | _ => .bad
def ra (i : Nat) (ρ : Rho) : M D := match ρ[i]? with | some (some (.val d)) => .ok d | some (some (.own ds)) => .ok (.lst ds) | some (some (.ow (.rows dss))) => .ok (.lst (dss.map D.lst)) | some (some (.ow (.anc _ ds))) => .ok (.lst ds) | _ => .bad
theorem de_var (i : Nat) {x : Str} {pos : Pos} (h : PE X (.Name x pos) (tVar i)) : DE X WX true (.Name x pos) (rv i) := by
  refine ⟨_, h, fun P0 P σ H Q ρ E g => ?_⟩
  unfold rv at g
  split at g
  · rename_i d e
    obtain ⟨v, h1, h2⟩ := E.val i d e
    exact ⟨v, h1, g v H (Same.refl H) h2⟩
  · exact g.elim
theorem de_name (i : Nat) {x : Str} {pos : Pos} (h : PE X (.Name x pos) (tVar i)) : DE X WX false (.Name x pos) (ra i) := by
  refine ⟨_, h, fun P0 P σ H Q ρ E g => ?_⟩
  unfold ra at g
  split at g
  · rename_i d e
    obtain ⟨v, h1, h2⟩ := E.val i d e
    exact ⟨v, h1, g v H (Same.refl H) (h2.mono (del_sub E.sub))⟩
  · rename_i ds e
    obtain ⟨p, xs, h1, h2, h3, h4, h5⟩ := E.own i ds e
    exact ⟨_, h1, g _ H (Same.refl H) (.lst (.of (show del H P0 p = _ by rw [del_of h4]; exact h2)) (h5.mono (del_sub E.sub)))⟩
  · rename_i dss e
    obtain ⟨v, fp, h1, ⟨p, ps, rfl, rfl, h2, h3⟩, h4, h6⟩ := E.ows i _ e rfl
    clear h6
    refine ⟨_, h1, g _ H (Same.refl H) (.lst (.of (show del H P0 p = _ by rw [del_of (h4 p List.mem_cons_self).2]; exact h2)) ?_)⟩
    have h5 : ∀ a ∈ ps, ¬ P0 a := fun a ha => (h4 a (List.mem_cons_of_mem _ ha)).2
    clear h1 h2 h4 e g
    induction h3 with
    | nil => exact .nil
    | cons hq hr ht ih => exact .cons (.lst (.of (show del H P0 _ = _ by rw [del_of (h5 _ List.mem_cons_self)]; exact hq)) (hr.mono (del_sub E.sub))) (ih fun a ha => h5 a (List.mem_cons_of_mem _ ha))
  · rename_i p ds e
    obtain ⟨v, fp, h1, ⟨xs, rfl, rfl, h2, h3⟩, h4, _⟩ := E.ows i _ e rfl
    exact ⟨_, h1, g _ H (Same.refl H) (.lst (.of (show del H P0 p = _ by rw [del_of (h4 p List.mem_cons_self).2]; exact h2)) (h3.mono (del_sub E.sub)))⟩
  · exact g.elim
theorem de_int {i j pos} : DE X WX c (.Constant (.int i) j pos) (fun _ => .ok (.int i)) := ⟨_, pe_int, fun P0 P σ H Q ρ E g => g _ H (Same.refl H) (.int i)⟩
theorem de_bl {b j pos} : DE X WX c (.Constant (.bool b) j pos) (fun _ => .ok (.bl b)) := ⟨_, pe_bl, fun P0 P σ H Q ρ E g => g _ H (Same.refl H) (.bl b)⟩
theorem de_non {j pos} : DE X WX c (.Constant .none j pos) (fun _ => .ok .non) := ⟨_, pe_non, fun P0 P σ H Q ρ E g => g _ H (Same.refl H) .non⟩
/-! two parts -/
/-- what an operation on data is worth -/
def OpD (K : PySem.W.Frag) (WX : Str → Hp → Prop) (r : R2) (dop : D → D → M D) : Prop :=
  ∀ (P : Addr → Prop) (H : Hp) (x y : D) (v w : V) (Q : VK), (∀ a, P a → Trk H a) → Has K (del H P) v x → Has K (del H P) w y → gV K WX P H Q (dop x y) → r v w H Q
variable {a b : Expr} {f g : Rho → M D} {pos : Pos}
theorem bin_D {ta tb : TE} {r : R2} {dop : D → D → M D} (ha : ∀ P0 P σ H Q ρ, EnvP X.K P0 P H σ ρ → gV X.K WX (Lv c P0 P) H Q (f ρ) → ta σ H Q) (hb : ∀ P0 P σ H Q ρ, EnvP X.K P0 P H σ ρ → gV X.K WX (Lv c P0 P) H Q (g ρ) → tb σ H Q)
    (hr : OpD X.K WX r dop) {Q : VK} (E : EnvP X.K P0 P H σ ρ) (h : gV X.K WX (Lv c P0 P) H Q ((f ρ).bind fun x => (g ρ).bind fun y => dop x y)) : tOp r ta tb σ H Q := by
  refine ha P0 P σ H _ ρ E ?_
  cases e : f ρ with
  | bad => rw [e] at h; exact h
  | ex x => rw [e] at h; exact h
  | ok x =>
    rw [e] at h
    intro v H1 s1 hv
    refine hb P0 P σ H1 _ ρ (E.same s1) ?_
    cases e2 : g ρ with
    | bad => rw [e2] at h; exact h
    | ex y => rw [e2] at h; exact gV.same (m := .ex y) h s1
    | ok y =>
      rw [e2] at h
      intro w H2 s2 hw
      exact hr _ H2 x y v w Q (fun a q => ((E.same s1).same s2).lvt c a q) (hv.mono s2.del) hw ((gV.same h s1).same s2)
theorem de_op {op : Operator} {r : R2} {dop : D → D → M D} (ho : OpR X (binaryOp op) r) (hr : OpD X.K WX r dop) (ha : DE X WX c a f) (hb : DE X WX c b g) : DE X WX c (.BinOp a op b pos) (fun ρ => (f ρ).bind fun x => (g ρ).bind fun y => dop x y) := by
  obtain ⟨ta, a1, a2⟩ := ha
  obtain ⟨tb, b1, b2⟩ := hb
  exact ⟨_, pe_op ho a1 b1, fun P0 P σ H Q ρ E h => bin_D a2 b2 hr E h⟩
theorem de_cmp {op : CmpOp} {r : R2} {dop : D → D → M D} (ho : OpR X (compareOp op) r) (hr : OpD X.K WX r dop) (ha : DE X WX c a f) (hb : DE X WX c b g) (hm : behindInMarks op b = false) : DE X WX c (.Compare a [op] [b] pos) (fun ρ => (f ρ).bind fun x => (g ρ).bind fun y => dop x y) := by
  obtain ⟨ta, a1, a2⟩ := ha
  obtain ⟨tb, b1, b2⟩ := hb
  exact ⟨_, pe_cmpR ho a1 b1 hm, fun P0 P σ H Q ρ E h => bin_D a2 b2 hr E h⟩
theorem de_ix {r : R2} {dop : D → D → M D} (ho : IxR X r) (hr : OpD X.K WX r dop) (ha : DE X WX c a f) (hb : DE X WX c b g) (hs : PlainIx b) : DE X WX c (.Subscript a b pos) (fun ρ => (f ρ).bind fun x => (g ρ).bind fun y => dop x y) := by
  obtain ⟨ta, a1, a2⟩ := ha
  obtain ⟨tb, b1, b2⟩ := hb
  exact ⟨_, pe_ix ho a1 b1 hs, fun P0 P σ H Q ρ E h => bin_D a2 b2 hr E h⟩
/-! ints -/
def onInts (k : Int → Int → M D) (x y : D) : M D := match x, y with | .int i, .int j => k i j | _, _ => .bad
theorem Has.int_inv {K : PySem.W.Frag} {H : Hp} {v : V} {i : Int} (h : Has K H v (.int i)) : v = .int i := by cases h; rfl
theorem Has.bl_inv {K : PySem.W.Frag} {H : Hp} {v : V} {i : Bool} (h : Has K H v (.bl i)) : v = .bl i := by cases h; rfl
theorem opd_rI {C : Int → Int → Prop} {gv : Int → Int → V} {gd : Int → Int → D} [∀ i j, Decidable (C i j)] (hg : ∀ i j K H, Has K H (gv i j) (gd i j)) : OpD X.K WX (rI C gv) (onInts fun i j => if C i j then .ok (gd i j) else .bad) := by
  intro P H x y v w Q ht hx hy h
  unfold onInts at h
  split at h
  · rename_i i j
    rw [hx.int_inv, hy.int_inv]
    dsimp only at h
    by_cases hc : C i j
    · rw [if_pos hc] at h
      exact ⟨i, j, rfl, rfl, hc, h _ H (Same.refl H) (hg i j _ _)⟩
    · rw [if_neg hc] at h; exact h.elim
  · exact h.elim
theorem opd_rI0 {gv : Int → Int → V} {gd : Int → Int → D} (hg : ∀ i j K H, Has K H (gv i j) (gd i j)) : OpD X.K WX (rI0 gv) (onInts fun i j => .ok (gd i j)) := by
  intro P H x y v w Q ht hx hy h
  unfold onInts at h
  split at h
  · rename_i i j
    rw [hx.int_inv, hy.int_inv]
    exact ⟨i, j, rfl, rfl, h _ H (Same.refl H) (hg i j _ _)⟩
  · exact h.elim
instance (i j : Int) : Decidable (CDiv i j) := by unfold CDiv; infer_instance
instance (i j : Int) : Decidable (CPow i j) := by unfold CPow; infer_instance
instance (i j : Int) : Decidable (CMul i j) := by unfold CMul; infer_instance
def dAdd := onInts fun i j => .ok (.int (i + j))
def dSub := onInts fun i j => .ok (.int (i - j))
def dMod := onInts fun i j => if 0 < j then .ok (.int (i % j)) else .bad
def dFdiv := onInts fun i j => if CDiv i j then .ok (.int (i / j)) else .bad
def dPow := onInts fun i j => if CPow i j then .ok (.int (i ^ j.toNat)) else .bad
def dLt := onInts fun i j => .ok (.bl (decide (i < j)))
def dGt := onInts fun i j => .ok (.bl (decide (j < i)))
theorem de_add (ha : DE X WX c a f) (hb : DE X WX c b g) : DE X WX c (.BinOp a .Add b pos) (fun ρ => (f ρ).bind fun x => (g ρ).bind fun y => dAdd x y) := de_op op_add (opd_rI0 fun _ _ _ _ => .int _) ha hb
theorem de_sub (ha : DE X WX c a f) (hb : DE X WX c b g) : DE X WX c (.BinOp a .Sub b pos) (fun ρ => (f ρ).bind fun x => (g ρ).bind fun y => dSub x y) := de_op op_sub (opd_rI0 fun _ _ _ _ => .int _) ha hb
theorem de_mod (ha : DE X WX c a f) (hb : DE X WX c b g) : DE X WX c (.BinOp a .Mod b pos) (fun ρ => (f ρ).bind fun x => (g ρ).bind fun y => dMod x y) := de_op op_mod (opd_rI fun _ _ _ _ => .int _) ha hb
theorem de_fdiv (ha : DE X WX c a f) (hb : DE X WX c b g) : DE X WX c (.BinOp a .FloorDiv b pos) (fun ρ => (f ρ).bind fun x => (g ρ).bind fun y => dFdiv x y) := de_op op_fdiv (opd_rI fun _ _ _ _ => .int _) ha hb
theorem de_pow (ha : DE X WX c a f) (hb : DE X WX c b g) : DE X WX c (.BinOp a .Pow b pos) (fun ρ => (f ρ).bind fun x => (g ρ).bind fun y => dPow x y) := de_op op_pow (opd_rI fun _ _ _ _ => .int _) ha hb
/-! == and != of data -/
def dEq (n : Nat) (x y : D) : M D := if dep x ≤ n ∧ noX x = true ∧ noX y = true then .ok (.bl (eqD x y)) else .bad
def dNe (n : Nat) (x y : D) : M D := if dep x ≤ n ∧ noX x = true ∧ noX y = true then .ok (.bl (!eqD x y)) else .bad
theorem opd_eq {n : Nat} (hu : X.A.units + n < cLine) : OpD X.K WX (rEqD X.K X.A false) (dEq n) := by
  intro P H x y v w Q ht hx hy h
  unfold dEq at h
  by_cases hd : dep x ≤ n ∧ noX x = true ∧ noX y = true
  · rw [if_pos hd] at h
    exact ⟨x, y, hx.mono del_full, hy.mono del_full, by omega, hd.2.1, hd.2.2, h _ H (Same.refl H) (.bl _)⟩
  · rw [if_neg hd] at h; exact h.elim
theorem opd_ne {n : Nat} (hu : X.A.units + n < cLine) : OpD X.K WX (rEqD X.K X.A true) (dNe n) := by
  intro P H x y v w Q ht hx hy h
  unfold dNe at h
  by_cases hd : dep x ≤ n ∧ noX x = true ∧ noX y = true
  · rw [if_pos hd] at h
    exact ⟨x, y, hx.mono del_full, hy.mono del_full, by omega, hd.2.1, hd.2.2, h _ H (Same.refl H) (.bl _)⟩
  · rw [if_neg hd] at h; exact h.elim
theorem de_eq {n : Nat} (hu : X.A.units + n < cLine) (ha : DE X WX c a f) (hb : DE X WX c b g) : DE X WX c (.Compare a [.Eq] [b] pos) (fun ρ => (f ρ).bind fun x => (g ρ).bind fun y => dEq n x y) := de_cmp op_eqD (opd_eq hu) ha hb (nomark _)
/-! is None -/
def isNonD : D → Bool
  | .non => true
  | _ => false
theorem Has.isN {K : PySem.W.Frag} {H : Hp} {v : V} {d : D} (h : Has K H v d) : decide (v = .non) = isNonD d := by
  cases h <;> simp [isNonD]
/-! an item -/
def dIx (x y : D) : M D := match x, y with
  | .tup ds, .int i => (match atI ds i with | some d => .ok d | none => .bad)
  | .lst ds, .int i => (match atI ds i with | some d => .ok d | none => .bad)
  | _, _ => .bad
theorem HasL.atI {K : PySem.W.Frag} {H : Hp} {xs : List V} {ds : List D} {i : Int} {d : D} (h : HasL K H xs ds) (e : L2.atI ds i = some d) : ∃ v, L2.atI xs i = some v ∧ Has K H v d := by
  unfold L2.atI at e ⊢
  rw [← h.length] at e
  cases q : ixN xs.length i with
  | none => rw [q] at e; cases e
  | some j =>
    rw [q] at e
    exact h.get e
theorem SqL.undel {K : PySem.W.Frag} {H : Hp} {P : Addr → Prop} {a : Addr} {xs : List V} (h : SqL K (del H P) a xs) : SqL K H a xs := del_full.seq h
theorem SqT.undel {K : PySem.W.Frag} {H : Hp} {P : Addr → Prop} {a : Addr} {xs : List V} (h : SqT K (del H P) a xs) : SqT K H a xs := del_full.seqT h
theorem opd_ix : OpD X.K WX (fun x y H Q => rIxL X.K x y H Q ∨ rIxT X.K x y H Q) dIx := by
  intro P H x y v w Q ht hx hy h
  unfold dIx at h
  split at h
  · rename_i ds i
    split at h
    · rename_i d e
      cases hy
      cases hx with
      | tup hs hl =>
        obtain ⟨u, h1, h2⟩ := hl.atI e
        exact .inr ⟨_, _, i, u, rfl, rfl, hs.undel, h1, h _ H (Same.refl H) h2⟩
    · exact h.elim
  · rename_i ds i
    split at h
    · rename_i d e
      cases hy
      cases hx with
      | lst hs hl =>
        obtain ⟨u, h1, h2⟩ := hl.atI e
        exact .inl ⟨_, _, i, u, rfl, rfl, hs.undel, h1, h _ H (Same.refl H) h2⟩
    · exact h.elim
  · exact h.elim
theorem de_item (ha : DE X WX c a f) (hb : DE X WX c b g) (hs : PlainIx b := by exact fun _ _ => rfl) : DE X WX c (.Subscript a b pos) (fun ρ => (f ρ).bind fun x => (g ρ).bind fun y => dIx x y) := de_ix (ix_list.or ix_tup) opd_ix ha hb hs
/-! argument lists, tuples, lists -/
theorem da_nil : DA X WX c [] (fun _ => .ok []) := ⟨_, pa_nil, fun P0 P σ H Q ρ E h => h [] H (Same.refl H) .nil, fun ρ ds h => by cases h; rfl⟩
theorem da_cons {e : Expr} {es : List Expr} {f : Rho → M D} {fs : Rho → M (List D)} (he : DE X WX c e f) (hr : DA X WX c es fs) (hs : starEach (e :: es) X.env = (false, eval e X.env) :: starEach es X.env := by rfl) :
    DA X WX c (e :: es) (fun ρ => (f ρ).bind fun d => (fs ρ).bind fun ds => .ok (d :: ds)) := by
  obtain ⟨te, e1, e2⟩ := he
  obtain ⟨tr, r1, r2, r3⟩ := hr
  refine ⟨_, pa_cons e1 r1 hs, fun P0 P σ H Q ρ E h => ?_, fun ρ ds h => ?_⟩
  rotate_left
  · dsimp only at h
    cases q : f ρ with
    | bad => rw [q] at h; cases h
    | ex x => rw [q] at h; cases h
    | ok x =>
      rw [q] at h
      cases q2 : fs ρ with
      | bad => rw [q2] at h; cases h
      | ex x => rw [q2] at h; cases h
      | ok xs =>
        rw [q2] at h
        cases h
        rw [List.length_cons, List.length_cons, r3 ρ xs q2]
  dsimp only at h
  refine e2 P0 P σ H _ ρ E ?_
  cases q : f ρ with
  | bad => rw [q] at h; exact h
  | ex x => rw [q] at h; exact h
  | ok x =>
    rw [q] at h
    intro v H1 s1 hv
    refine r2 P0 P σ H1 _ ρ (E.same s1) ?_
    cases q2 : fs ρ with
    | bad => rw [q2] at h; exact h
    | ex y => rw [q2] at h; exact gA.same (m := .ex y) h s1
    | ok ds =>
      rw [q2] at h
      exact fun vs H2 s2 hvs => h _ H2 (s1.trans s2) (.cons (hv.mono s2.del) hvs)
theorem new_del {H : Hp} {P : Addr → Prop} {p : Addr} {o : HO} (hn : H p = none) (ht : ∀ a, P a → Trk H a) : del (upd H p o) P p = some o := by
  rw [del_of fun z => (ht p z).no hn]
  exact upd_same
theorem de_tup {es : List Expr} {fs : Rho → M (List D)} {x1} (ha : DA X WX c es fs) (hz : es.length ≤ 1000 := by decide) : DE X WX c (.Tuple es x1 pos) (fun ρ => (fs ρ).bind fun ds => if ds.length ≤ 1000 then .ok (.tup ds) else .bad) := by
  obtain ⟨ta, a1, a2, a3⟩ := ha
  refine ⟨_, pe_tup a1, fun P0 P σ H Q ρ E h => ?_⟩
  dsimp only at h
  refine a2 P0 P σ H _ ρ E ?_
  cases q : fs ρ with
  | bad => rw [q] at h; exact h
  | ex y => rw [q] at h; exact h
  | ok ds =>
    rw [q] at h
    simp only [M.bind_ok] at h
    by_cases hd : ds.length ≤ 1000
    · rw [if_pos hd] at h
      intro vs H1 s1 hvs
      refine ⟨Nat.le_of_lt (small1000 (by rw [hvs.length]; exact hd)), fun p hp => h _ _ (s1.trans (same_new hp _)) (.tup (.of (new_del hp fun a q => (E.same s1).lvt c a q)) (hvs.mono (same_new hp _).del))⟩
    · rw [if_neg hd] at h; exact h.elim
theorem de_lst {es : List Expr} {fs : Rho → M (List D)} (ha : DA X WX c es fs) : DE X WX c (.List es pos) (fun ρ => (fs ρ).bind fun ds => if ds.length ≤ 1000 then .ok (.lst ds) else .bad) := by
  obtain ⟨ta, a1, a2, a3⟩ := ha
  refine ⟨_, pe_lst a1, fun P0 P σ H Q ρ E h => ?_⟩
  dsimp only at h
  refine a2 P0 P σ H _ ρ E ?_
  cases q : fs ρ with
  | bad => rw [q] at h; exact h
  | ex y => rw [q] at h; exact h
  | ok ds =>
    rw [q] at h
    simp only [M.bind_ok] at h
    by_cases hd : ds.length ≤ 1000
    · rw [if_pos hd] at h
      intro vs H1 s1 hvs
      refine ⟨Nat.le_of_lt (small1000 (by rw [hvs.length]; exact hd)), fun p hp => h _ _ (s1.trans (same_new hp _)) (.lst (.of (new_del hp fun a q => (E.same s1).lvt c a q)) (hvs.mono (same_new hp _).del))⟩
    · rw [if_neg hd] at h; exact h.elim
end
end L2

set_option Elab.async false
set_option linter.all false
set_option maxRecDepth 100000
namespace L2
open PySem PySem.Spec PyProof.Rows

def asB (d : D) : M Bool := match d with | .bl b => .ok b | _ => .bad
section
variable {X : Cx} {WX : Str → Hp → Prop} {c : Bool} {P0 P : Addr → Prop} {H : Hp} {σ : St} {ρ : Rho} {a b e : Expr} {f g : Rho → M D} {ft gt : Rho → M Bool} {pos : Pos}
/-- from a worth to a test's -/
theorem gT_of {WX : Str → Hp → Prop} {P : Addr → Prop} {K : PySem.W.Frag} {H : Hp} {Q : Bool → Hp → Prop} {m : M D} (h : gT WX H Q (m.bind asB)) : gV K WX P H (fun x H' => ∃ k, x = .bl k ∧ Q k H') m := by
  cases m with
  | bad => exact h
  | ex x => exact h
  | ok d =>
    intro v H' s hv
    simp only [M.bind_ok] at h
    unfold asB at h
    split at h
    · rename_i b
      exact ⟨b, hv.bl_inv, h H' s⟩
    · exact h.elim
theorem dt_cmpR {op : CmpOp} {r : R2} {dop : D → D → M D} (ho : OpR X (compareOp op) r) (hr : OpD X.K WX r dop) (ha : DE X WX c a f) (hb : DE X WX c b g) (hm : behindInMarks op b = false) : DT X WX (.Compare a [op] [b] pos) (fun ρ => ((f ρ).bind fun x => (g ρ).bind fun y => dop x y).bind asB) := by
  obtain ⟨ta, a1, a2⟩ := ha
  obtain ⟨tb, b1, b2⟩ := hb
  exact ⟨_, pt_cmpR ho a1 b1 hm, fun P0 P σ H Q ρ E h => bin_D a2 b2 hr E (gT_of h)⟩
theorem dt_lt (ha : DE X WX c a f) (hb : DE X WX c b g) : DT X WX (.Compare a [.Lt] [b] pos) (fun ρ => ((f ρ).bind fun x => (g ρ).bind fun y => dLt x y).bind asB) := dt_cmpR op_lt (opd_rI0 fun _ _ _ _ => .bl _) ha hb (nomark _)
theorem dt_gt (ha : DE X WX c a f) (hb : DE X WX c b g) : DT X WX (.Compare a [.Gt] [b] pos) (fun ρ => ((f ρ).bind fun x => (g ρ).bind fun y => dGt x y).bind asB) := dt_cmpR op_gt (opd_rI0 fun _ _ _ _ => .bl _) ha hb (nomark _)
theorem dt_eq {n : Nat} (hu : X.A.units + n < cLine) (ha : DE X WX c a f) (hb : DE X WX c b g) : DT X WX (.Compare a [.Eq] [b] pos) (fun ρ => ((f ρ).bind fun x => (g ρ).bind fun y => dEq n x y).bind asB) := dt_cmpR op_eqD (opd_eq hu) ha hb (nomark _)
theorem dt_ne {n : Nat} (hu : X.A.units + n < cLine) (ha : DE X WX c a f) (hb : DE X WX c b g) : DT X WX (.Compare a [.NotEq] [b] pos) (fun ρ => ((f ρ).bind fun x => (g ρ).bind fun y => dNe n x y).bind asB) := dt_cmpR op_neD (opd_ne hu) ha hb (nomark _)
theorem dt_isN {j pos'} (ha : DE X WX c a f) : DT X WX (.Compare a [.Is] [.Constant .none j pos'] pos) (fun ρ => (f ρ).bind fun x => .ok (isNonD x)) := by
  obtain ⟨ta, a1, a2⟩ := ha
  refine ⟨_, pt_cmp (pc_isN a1), fun P0 P σ H Q ρ E h => ?_⟩
  dsimp only at h
  refine a2 P0 P σ H _ ρ E ?_
  cases e : f ρ with
  | bad => rw [e] at h; exact h
  | ex x => rw [e] at h; exact h
  | ok x => rw [e] at h; exact fun v H1 s1 hv => ⟨_, rfl, by rw [hv.isN]; exact h H1 s1⟩
theorem dt_notN {j pos'} (ha : DE X WX c a f) : DT X WX (.Compare a [.IsNot] [.Constant .none j pos'] pos) (fun ρ => (f ρ).bind fun x => .ok (!isNonD x)) := by
  obtain ⟨ta, a1, a2⟩ := ha
  refine ⟨_, pt_cmp (pc_notN a1), fun P0 P σ H Q ρ E h => ?_⟩
  dsimp only at h
  refine a2 P0 P σ H _ ρ E ?_
  cases e : f ρ with
  | bad => rw [e] at h; exact h
  | ex x => rw [e] at h; exact h
  | ok x => rw [e] at h; exact fun v H1 s1 hv => ⟨_, rfl, by rw [hv.isN]; exact h H1 s1⟩
theorem dw_and1 (ha : DT X WX a ft) : DW X WX (.BoolOp .And [a] pos) ft := let ⟨ta, a1, a2⟩ := ha; ⟨_, pw_and1 a1, a2⟩
theorem dw_or1 (ha : DT X WX a ft) : DW X WX (.BoolOp .Or [a] pos) ft := let ⟨ta, a1, a2⟩ := ha; ⟨_, pw_or1 a1, a2⟩
theorem dw_and {rest : List Expr} (ha : DT X WX a ft) (hb : DW X WX (.BoolOp .And (b :: rest) pos) gt) : DW X WX (.BoolOp .And (a :: b :: rest) pos) (fun ρ => (ft ρ).bind fun k => if k = true then gt ρ else .ok false) := by
  obtain ⟨ta, a1, a2⟩ := ha
  obtain ⟨tb, b1, b2⟩ := hb
  refine ⟨_, pw_and a1 b1, fun P0 P σ H Q ρ E h => ?_⟩
  dsimp only at h
  refine a2 P0 P σ H _ ρ E ?_
  cases e : ft ρ with
  | bad => rw [e] at h; exact h
  | ex x => rw [e] at h; exact h
  | ok k =>
    rw [e] at h
    intro H1 s1
    cases k with
    | true =>
      simp only [M.bind_ok, if_true] at h ⊢
      exact b2 P0 P σ H1 _ ρ (E.same s1) (h.same s1)
    | false =>
      simp only [M.bind_ok, Bool.false_eq_true, if_false] at h ⊢
      exact h H1 s1
theorem dw_or {rest : List Expr} (ha : DT X WX a ft) (hb : DW X WX (.BoolOp .Or (b :: rest) pos) gt) : DW X WX (.BoolOp .Or (a :: b :: rest) pos) (fun ρ => (ft ρ).bind fun k => if k = true then .ok true else gt ρ) := by
  obtain ⟨ta, a1, a2⟩ := ha
  obtain ⟨tb, b1, b2⟩ := hb
  refine ⟨_, pw_or a1 b1, fun P0 P σ H Q ρ E h => ?_⟩
  dsimp only at h
  refine a2 P0 P σ H _ ρ E ?_
  cases e : ft ρ with
  | bad => rw [e] at h; exact h
  | ex x => rw [e] at h; exact h
  | ok k =>
    rw [e] at h
    intro H1 s1
    cases k with
    | true =>
      simp only [M.bind_ok, if_true] at h ⊢
      exact h H1 s1
    | false =>
      simp only [M.bind_ok, Bool.false_eq_true, if_false] at h ⊢
      exact b2 P0 P σ H1 _ ρ (E.same s1) (h.same s1)
/-! and, or, not as values of bools -/
theorem de_one {op} (ha : DE X WX c a f) : DE X WX c (.BoolOp op [a] pos) f := let ⟨ta, a1, a2⟩ := ha; ⟨_, pe_one a1, a2⟩
theorem de_and {rest : List Expr} (ha : DE X WX c a f) (hb : DE X WX c (.BoolOp .And (b :: rest) pos) g) : DE X WX c (.BoolOp .And (a :: b :: rest) pos) (fun ρ => ((f ρ).bind asB).bind fun k => if k = true then g ρ else .ok (.bl false)) := by
  obtain ⟨ta, a1, a2⟩ := ha
  obtain ⟨tb, b1, b2⟩ := hb
  refine ⟨_, pe_and a1 b1, fun P0 P σ H Q ρ E h => ?_⟩
  dsimp only at h
  refine a2 P0 P σ H _ ρ E ?_
  cases e : f ρ with
  | bad => rw [e] at h; exact h
  | ex x => rw [e] at h; exact h
  | ok d =>
    rw [e] at h
    simp only [M.bind_ok] at h
    unfold asB at h
    split at h
    · rename_i k
      intro v H1 s1 hv
      refine ⟨k, hv.bl_inv, ?_⟩
      cases k with
      | true =>
        simp only [M.bind_ok, if_true] at h ⊢
        exact b2 P0 P σ H1 _ ρ (E.same s1) (h.same s1)
      | false =>
        simp only [M.bind_ok, Bool.false_eq_true, if_false] at h ⊢
        exact h _ H1 s1 (.bl _)
    · exact h.elim
/-! chains of ints: a op b op' d -/
/-! calls of what is built in -/
def CallD (K : PySem.W.Frag) (WX : Str → Hp → Prop) (r : List V → Hp → VK → Prop) (dF : List D → M D) : Prop :=
  ∀ (P : Addr → Prop) (H : Hp) (ds : List D) (vs : List V) (Q : VK), (∀ a, P a → Trk H a) → HasL K (del H P) vs ds → gV K WX P H Q (dF ds) → r vs H Q
variable {x : Str} {p : Pos} {es : List Expr} {fs : Rho → M (List D)} {id T : String} {r : List V → Hp → VK → Prop} {dF : List D → M D}
theorem call_D {ta : TA} (ha : ∀ P0 P σ H Q ρ, EnvP X.K P0 P H σ ρ → gA X.K WX (Lv c P0 P) H Q (fs ρ) → ta σ H Q) (hr : CallD X.K WX r dF) {Q : VK} (E : EnvP X.K P0 P H σ ρ) (h : gV X.K WX (Lv c P0 P) H Q ((fs ρ).bind dF)) : tCB r ta σ H Q := by
  refine ha P0 P σ H _ ρ E ?_
  cases e : fs ρ with
  | bad => rw [e] at h; exact h
  | ex x => rw [e] at h; exact h
  | ok ds =>
    rw [e] at h
    exact fun vs H1 s1 hvs => hr _ H1 ds vs Q (fun a q => (E.same s1).lvt c a q) hvs (h.same s1)
theorem de_callB (hc : CallR X (.builtin id) r) (hr : CallD X.K WX r dF) (hg : Gl X x) (hm : X.mg x = none) (hv : bootBuiltins x = some (.builtin id)) (ha : DA X WX c (e :: es) fs) (hn : x ≠ "__name__" := by decide) (hdb : (x == ("__debug__" : Str)) = false := by decide)
    (he : starEach (e :: es) X.env = (false, eval e X.env) :: starEach es X.env := by rfl) (hpl : (backTo pos (starEach es X.env)).any (·.1) = false := by rfl) : DE X WX c (.Call (.Name x p) (e :: es) [] pos) (fun ρ => (fs ρ).bind dF) := by
  obtain ⟨ta, a1, a2, a3⟩ := ha
  exact ⟨_, pe_callB hc hg hm hv a1 hn hdb he hpl, fun P0 P σ H Q ρ E h => call_D a2 hr E h⟩
theorem de_callTy (hc : CallR X (.type T) r) (hr : CallD X.K WX r dF) (hg : Gl X x) (hm : X.mg x = none) (hv : bootBuiltins x = some (.type T)) (ha : DA X WX c (e :: es) fs) (hn : x ≠ "__name__" := by decide) (hdb : (x == ("__debug__" : Str)) = false := by decide)
    (he : starEach (e :: es) X.env = (false, eval e X.env) :: starEach es X.env := by rfl) (hpl : (backTo pos (starEach es X.env)).any (·.1) = false := by rfl) : DE X WX c (.Call (.Name x p) (e :: es) [] pos) (fun ρ => (fs ρ).bind dF) := by
  obtain ⟨ta, a1, a2, a3⟩ := ha
  exact ⟨_, pe_callTy hc hg hm hv a1 hn hdb he hpl, fun P0 P σ H Q ρ E h => call_D a2 hr E h⟩
def dLen (ds : List D) : M D := match ds with
  | [.lst xs] => .ok (.int xs.length)
  | [.tup xs] => .ok (.int xs.length)
  | _ => .bad
theorem HasL.one {K : PySem.W.Frag} {H : Hp} {vs : List V} {d : D} (h : HasL K H vs [d]) : ∃ v, vs = [v] ∧ Has K H v d := by
  cases h with
  | cons h t => cases t; exact ⟨_, rfl, h⟩
theorem HasL.two {K : PySem.W.Frag} {H : Hp} {vs : List V} {d e : D} (h : HasL K H vs [d, e]) : ∃ v w, vs = [v, w] ∧ Has K H v d ∧ Has K H w e := by
  cases h with
  | cons h t =>
    obtain ⟨w, rfl, hw⟩ := t.one
    exact ⟨_, w, rfl, h, hw⟩
theorem cd_len : CallD X.K WX (fun xs H Q => ∃ p ys, xs = [.ref p] ∧ (SqL X.K H p ys ∨ SqT X.K H p ys) ∧ Q (.int ys.length) H) dLen := by
  intro P H ds vs Q ht hl h
  unfold dLen at h
  split at h
  · obtain ⟨v, rfl, hv⟩ := hl.one
    cases hv with
    | lst hs hh => exact ⟨_, _, rfl, .inl hs.undel, by rw [hh.length]; exact h _ H (Same.refl H) (.int _)⟩
  · obtain ⟨v, rfl, hv⟩ := hl.one
    cases hv with
    | tup hs hh => exact ⟨_, _, rfl, .inr hs.undel, by rw [hh.length]; exact h _ H (Same.refl H) (.int _)⟩
  · exact h.elim
theorem de_len (hg : Gl X "len") (hm : X.mg "len" = none) (ha : DE X WX c e f) (hs : starEach [e] X.env = [(false, eval e X.env)] := by rfl) : DE X WX c (.Call (.Name "len" p) [e] [] pos) (fun ρ => ((f ρ).bind fun d => (M.ok []).bind fun ds => .ok (d :: ds)).bind dLen) :=
  de_callB call_len_seq cd_len hg hm PySem.boot_len (da_cons ha da_nil hs) (he := hs)
def dList (ds : List D) : M D := match ds with
  | [.lst xs] => .ok (.lst xs)
  | [.tup xs] => .ok (.lst xs)
  | _ => .bad
theorem cd_list : CallD X.K WX (fun xs H Q => ∃ p ys, xs = [.ref p] ∧ (SqL X.K H p ys ∨ SqT X.K H p ys) ∧ ∀ l, H l = none → Q (.ref l) (upd H l (.lst ys))) dList := by
  intro P H ds vs Q ht hl h
  unfold dList at h
  split at h
  · obtain ⟨v, rfl, hv⟩ := hl.one
    cases hv with
    | lst hs hh => exact ⟨_, _, rfl, .inl hs.undel, fun l hn => h _ _ (same_new hn _) (.lst (.of (new_del hn ht)) (hh.mono (same_new hn _).del))⟩
  · obtain ⟨v, rfl, hv⟩ := hl.one
    cases hv with
    | tup hs hh => exact ⟨_, _, rfl, .inr hs.undel, fun l hn => h _ _ (same_new hn _) (.lst (.of (new_del hn ht)) (hh.mono (same_new hn _).del))⟩
  · exact h.elim
theorem de_list (hg : Gl X "list") (hm : X.mg "list" = none) (ha : DE X WX c e f) (hb : bootBuiltins "list" = some (.type "list") := by decide +kernel) (hs : starEach [e] X.env = [(false, eval e X.env)] := by rfl) : DE X WX c (.Call (.Name "list" p) [e] [] pos) (fun ρ => ((f ρ).bind fun d => (M.ok []).bind fun ds => .ok (d :: ds)).bind dList) :=
  de_callTy call_list_of cd_list hg hm hb (da_cons ha da_nil hs) (he := hs)
/-! isinstance -/
/-! slices -/
def dSl (lo hi : Option Int) (d : D) : M D := match d with
  | .lst ds => .ok (.lst ((ds.drop (HT.sIx ds.length 0 lo)).take (HT.sIx ds.length ds.length hi - HT.sIx ds.length 0 lo)))
  | _ => .bad
theorem opd_sl {K : PySem.W.Frag} {lo hi : Option Int} {d : D} {v : V} {Q : VK} (ht : ∀ a, P a → Trk H a) (hv : Has K (del H P) v d) (h : gV K WX P H Q (dSl lo hi d)) : rSlL K v lo hi H Q := by
  unfold dSl at h
  split at h
  · cases hv with
    | lst hs hl =>
      refine ⟨_, _, rfl, hs.undel, fun p hn => h _ _ (same_new hn _) (.lst (.of (new_del hn ht)) ?_)⟩
      unfold cutV
      rw [hl.length]
      exact ((hl.drop _).take _).mono (same_new hn _).del
  · exact h.elim
def DO (X : Cx) (WX : Str → Hp → Prop) (c : Bool) (e : Option Expr) (f : Rho → M (Option Int)) : Prop :=
  ∃ t, PO X e t ∧ ∀ P0 P σ H Q ρ, EnvP X.K P0 P H σ ρ → (match f ρ with | .ok o => ∀ H', Same H H' → Q o H' | .ex x => ∀ H', Same H H' → WX x H' | .bad => False) → t σ H Q
def asI (d : D) : M (Option Int) := match d with | .int i => .ok (some i) | _ => .bad
theorem do_some (ha : DE X WX c e f) : DO X WX c (some e) (fun ρ => (f ρ).bind asI) := by
  obtain ⟨ta, a1, a2⟩ := ha
  refine ⟨_, po_some a1, fun P0 P σ H Q ρ E h => ?_⟩
  dsimp only at h
  refine a2 P0 P σ H _ ρ E ?_
  cases q : f ρ with
  | bad => rw [q] at h; exact h
  | ex x => rw [q] at h; exact h
  | ok d =>
    rw [q] at h
    cases d with
    | int i => exact fun v H1 s1 hv => ⟨i, hv.int_inv, h H1 s1⟩
    | _ => exact h.elim
theorem de_slice {lo hi : Option Expr} {fl' fh : Rho → M (Option Int)} {p2 : Pos} (ha : DE X WX c e f) (hl : DO X WX c lo fl') (hh : DO X WX c hi fh) : DE X WX c (.Subscript e (.Slice lo hi none p2) pos) (fun ρ => (f ρ).bind fun d => (fl' ρ).bind fun l => (fh ρ).bind fun u => dSl l u d) := by
  obtain ⟨ta, a1, a2⟩ := ha
  obtain ⟨tl, l1, l2⟩ := hl
  obtain ⟨th, h1, h2⟩ := hh
  refine ⟨_, pe_slice sl_list a1 l1 h1, fun P0 P σ H Q ρ E h => ?_⟩
  dsimp only at h
  refine a2 P0 P σ H _ ρ E ?_
  cases q : f ρ with
  | bad => rw [q] at h; exact h
  | ex x => rw [q] at h; exact h
  | ok d =>
    rw [q] at h
    intro v H1 s1 hv
    refine l2 P0 P σ H1 _ ρ (E.same s1) ?_
    cases q2 : fl' ρ with
    | bad => rw [q2] at h; exact h
    | ex y => rw [q2] at h; exact gV.same (m := .ex y) h s1
    | ok l =>
      rw [q2] at h
      intro H2 s2
      refine h2 P0 P σ H2 _ ρ ((E.same s1).same s2) ?_
      cases q3 : fh ρ with
      | bad => rw [q3] at h; exact h
      | ex y => rw [q3] at h; exact gV.same (gV.same (m := .ex y) h s1) s2
      | ok u =>
        rw [q3] at h
        intro H3 s3
        exact opd_sl (fun a q => (((E.same s1).same s2).same s3).lvt c a q) ((hv.mono s2.del).mono s3.del) (((gV.same h s1).same s2).same s3)
end
end L2

set_option Elab.async false
set_option linter.all false
set_option maxRecDepth 100000
namespace L2
open PySem PySem.Spec PyProof.Rows

inductive Out where
  | ret (d : D) | next (ρ : Rho) | brk (ρ : Rho) | cont (ρ : Rho)
/-- what stays over a statement: all that is not one's own -/
def Tr (P0 P : Addr → Prop) (H : Hp) (P' : Addr → Prop) (H' : Hp) : Prop := Same (del H P) (del H' P') ∧ ∀ a, P0 a → H' a = H a
theorem Tr.refl {P0 P : Addr → Prop} {H : Hp} : Tr P0 P H P H := ⟨Same.refl _, fun _ _ => rfl⟩
theorem Tr.trans {P0 P P1 P2 : Addr → Prop} {H H1 H2 : Hp} (a : Tr P0 P H P1 H1) (b : Tr P0 P1 H1 P2 H2) : Tr P0 P H P2 H2 := ⟨a.1.trans b.1, fun x h => (b.2 x h).trans (a.2 x h)⟩
theorem EnvP.tr {K : PySem.W.Frag} {P0 P : Addr → Prop} {H H' : Hp} {σ : St} {ρ : Rho} (E : EnvP K P0 P H σ ρ) (e : Same H H') : Tr P0 P H P H' :=
  ⟨e.del, fun a h => by obtain ⟨o, q, _⟩ := E.trk a (E.sub a h); rw [e a o q, q]⟩
def gS (K : PySem.W.Frag) (WX : Str → Hp → Prop) (P0 P : Addr → Prop) (H : Hp) (Z : Ends) : M Out → Prop
  | .ok (.ret d) => ∀ v H' P', Tr P0 P H P' H' → Has K (del H' P0) v d → Z.rt v H'
  | .ok (.next ρ) => ∀ σ' H' P', Tr P0 P H P' H' → EnvP K P0 P' H' σ' ρ → Z.nx σ' H'
  | .ok (.brk ρ) => ∀ σ' H' P', Tr P0 P H P' H' → EnvP K P0 P' H' σ' ρ → Z.bk σ' H'
  | .ok (.cont ρ) => ∀ σ' H' P', Tr P0 P H P' H' → EnvP K P0 P' H' σ' ρ → Z.ct σ' H'
  | .ex x => ∀ H' P', Tr P0 P H P' H' → WX x H'
  | .bad => False
theorem gS.tr {K : PySem.W.Frag} {WX : Str → Hp → Prop} {P0 P P' : Addr → Prop} {H H' : Hp} {Z : Ends} {m : M Out} (h : gS K WX P0 P H Z m) (t : Tr P0 P H P' H') : gS K WX P0 P' H' Z m := by
  cases m with
  | bad => exact h
  | ex x => exact fun H2 P2 t2 => h H2 P2 (t.trans t2)
  | ok o =>
    cases o with
    | ret d => exact fun v H2 P2 t2 hv => h v H2 P2 (t.trans t2) hv
    | next ρ => exact fun σ2 H2 P2 t2 hv => h σ2 H2 P2 (t.trans t2) hv
    | brk ρ => exact fun σ2 H2 P2 t2 hv => h σ2 H2 P2 (t.trans t2) hv
    | cont ρ => exact fun σ2 H2 P2 t2 hv => h σ2 H2 P2 (t.trans t2) hv
def DS (X : Cx) (WX : Str → Hp → Prop) (st : Stmt) (g : Rho → M Out) : Prop :=
  ∃ t, PS X st t ∧ ∀ P0 P σ H Z ρ, EnvP X.K P0 P H σ ρ → gS X.K WX P0 P H Z (g ρ) → t Z σ H
def DSs (X : Cx) (WX : Str → Hp → Prop) (st : List Stmt) (g : Rho → M Out) : Prop :=
  ∃ t, PSs X st t ∧ ∀ P0 P σ H Z ρ, EnvP X.K P0 P H σ ρ → gS X.K WX P0 P H Z (g ρ) → t Z σ H
def seqM (m : M Out) (k : Rho → M Out) : M Out := match m with
  | .ok (.next ρ) => k ρ
  | m => m
@[simp] theorem seqM_next (ρ : Rho) (k : Rho → M Out) : seqM (.ok (.next ρ)) k = k ρ := rfl
@[simp] theorem seqM_ret (d : D) (k : Rho → M Out) : seqM (.ok (.ret d)) k = .ok (.ret d) := rfl
section
variable {X : Cx} {WX : Str → Hp → Prop} {c : Bool} {P0 P : Addr → Prop} {H : Hp} {σ : St} {ρ : Rho} {a b e : Expr} {f g : Rho → M D} {ft gt : Rho → M Bool} {pos : Pos} {st : Stmt} {rest : List Stmt} {g1 g2 : Rho → M Out}
theorem dss_nil : DSs X WX [] (fun ρ => .ok (.next ρ)) := ⟨_, pss_nil, fun P0 P σ H Z ρ E h => h σ H P Tr.refl E⟩
theorem dss_one (h : DS X WX st g1) : DSs X WX [st] g1 := let ⟨t, h1, h2⟩ := h; ⟨_, pss_one h1, h2⟩
theorem dss_cons (h : DS X WX st g1) (hr : DSs X WX rest g2) : DSs X WX (st :: rest) (fun ρ => seqM (g1 ρ) g2) := by
  obtain ⟨t, h1, h2⟩ := h
  obtain ⟨u, r1, r2⟩ := hr
  refine ⟨_, pss_cons h1 r1, fun P0 P σ H Z ρ E h => ?_⟩
  dsimp only at h
  refine h2 P0 P σ H { Z with nx := u Z } ρ E ?_
  cases q : g1 ρ with
  | bad => rw [q] at h; exact h
  | ex x => rw [q] at h; exact h
  | ok o =>
    rw [q] at h
    cases o with
    | ret d => exact h
    | brk d => exact h
    | cont d => exact h
    | next ρ' => exact fun σ' H' P' t E' => r2 P0 P' σ' H' Z ρ' E' (gS.tr h t)
theorem ds_ret (ha : DE X WX false e f) : DS X WX (.Return (some e) pos) (fun ρ => (f ρ).bind fun d => .ok (.ret d)) := by
  obtain ⟨ta, a1, a2⟩ := ha
  refine ⟨_, ps_ret a1, fun P0 P σ H Z ρ E h => ?_⟩
  dsimp only at h
  refine a2 P0 P σ H _ ρ E ?_
  cases q : f ρ with
  | bad => rw [q] at h; exact h
  | ex x => rw [q] at h; exact fun H' s => h H' P (E.tr s)
  | ok d => rw [q] at h; exact fun v H' s hv => h v H' P (E.tr s) hv
theorem ds_if {c : Expr} {sa sb : List Stmt} (hc : DT X WX c ft) (ha : DSs X WX sa g1) (hb : DSs X WX sb g2) : DS X WX (.If c sa sb pos) (fun ρ => (ft ρ).bind fun k => if k = true then g1 ρ else g2 ρ) := by
  obtain ⟨tc, c1, c2⟩ := hc
  obtain ⟨ta, a1, a2⟩ := ha
  obtain ⟨tb, b1, b2⟩ := hb
  refine ⟨_, ps_if c1 a1 b1, fun P0 P σ H Z ρ E h => ?_⟩
  dsimp only at h
  refine c2 P0 P σ H _ ρ E ?_
  cases q : ft ρ with
  | bad => rw [q] at h; exact h
  | ex x => rw [q] at h; exact fun H' s => h H' P (E.tr s)
  | ok k =>
    rw [q] at h
    intro H1 s1
    cases k with
    | true =>
      simp only [M.bind_ok, if_true] at h ⊢
      exact a2 P0 P σ H1 Z ρ (E.same s1) (h.tr (E.tr s1))
    | false =>
      simp only [M.bind_ok, Bool.false_eq_true, if_false] at h ⊢
      exact b2 P0 P σ H1 Z ρ (E.same s1) (h.tr (E.tr s1))
/-! stores -/
theorem get_set {α : Type} {l : List α} {i j : Nat} {x y : α} (h : (l.set i x)[j]? = some y) : (i = j ∧ i < l.length ∧ x = y) ∨ (i ≠ j ∧ l[j]? = some y) := by
  by_cases e : i = j
  · subst e
    rw [List.getElem?_set_self'] at h
    cases q : l[i]? with
    | none => rw [q] at h; cases h
    | some z =>
      rw [q] at h
      exact .inl ⟨rfl, (List.getElem?_eq_some_iff.mp q).1, by simpa using h⟩
  · rw [List.getElem?_set_ne e] at h
    exact .inr ⟨e, h⟩
theorem EnvP.setv {K : PySem.W.Frag} (E : EnvP K P0 P H σ ρ) {i : Nat} {v : V} {d : D} (hv : Has K (del H P) v d) : EnvP K P0 P H (σ.set i (some v)) (ρ.set i (some (.val d))) := by
  have gs : ∀ {j : Nat}, i ≠ j → (σ.set i (some v))[j]? = σ[j]? := fun h => List.getElem?_set_ne h
  refine ⟨E.sub, E.trk, fun j e h => ?_, fun j c h io => ?_, fun j k c c' u u' fp fp' h1 h2 h3 h4 h5 h6 hne => ?_, by rw [List.length_set, List.length_set]; exact E.len⟩
  · rcases get_set h with ⟨rfl, hl, e1⟩ | ⟨hne, h⟩
    · cases e1
      exact ⟨v, List.getElem?_set_self (by rw [E.len]; exact hl), hv⟩
    · obtain ⟨w, h1, h2⟩ := E.val j e h
      exact ⟨w, by rw [gs hne]; exact h1, h2⟩
  · rcases get_set h with ⟨rfl, hl, e1⟩ | ⟨hne, h⟩
    · cases e1; cases io
    · obtain ⟨w, fp, h1, h2⟩ := E.ows j c h io
      exact ⟨w, fp, by rw [gs hne]; exact h1, h2⟩
  · rcases get_set h1 with ⟨rfl, hl, e1⟩ | ⟨hn1, h1⟩
    · cases e1; exact h5.elim
    · rcases get_set h2 with ⟨rfl, hl, e1⟩ | ⟨hn2, h2⟩
      · cases e1; exact h6.elim
      · rw [gs hn1] at h3
        rw [gs hn2] at h4
        exact E.apart j k c c' u u' fp fp' h1 h2 h3 h4 h5 h6 hne
/-- a name gets a thing of its own, in a later heap where the others' things stay -/
theorem EnvP.putO {K : PySem.W.Frag} (E : EnvP K P0 P H σ ρ) {P' : Addr → Prop} {H' : Hp} {i : Nat} {v : V} {c : Cl} {fp : List Addr} (hs : ∀ a, P a → P' a) (ht : ∀ a, P' a → Trk H' a) (sm : Same (del H P) (del H' P'))
    (keep : ∀ (j : Nat) c' v' fp', i ≠ j → ρ[j]? = some (some c') → σ[j]? = some (some v') → OwH K H P c' v' fp' → ∀ a ∈ fp', H' a = H a ∧ a ∉ fp)
    (new : OwH K H' P' c v fp) (hp : ∀ a ∈ fp, P' a ∧ ¬ P0 a) (nd : fp.Nodup) : EnvP K P0 P' H' (σ.set i (some v)) (ρ.set i (some c)) := by
  have gs : ∀ {j : Nat}, i ≠ j → (σ.set i (some v))[j]? = σ[j]? := fun h => List.getElem?_set_ne h
  refine ⟨fun a h => hs a (E.sub a h), ht, fun j e h => ?_, fun j c' h io => ?_, fun j k c1 c2 u u' fp1 fp2 h1 h2 h3 h4 h5 h6 hne => ?_, by rw [List.length_set, List.length_set]; exact E.len⟩
  · rcases get_set h with ⟨rfl, hl, e1⟩ | ⟨hne, h⟩
    · cases e1; exact new.elim
    · obtain ⟨w, h1, h2⟩ := E.val j e h
      exact ⟨w, by rw [gs hne]; exact h1, h2.mono sm⟩
  · rcases get_set h with ⟨rfl, hl, e1⟩ | ⟨hne, h⟩
    · cases e1
      exact ⟨v, fp, List.getElem?_set_self (by rw [E.len]; exact hl), new, hp, nd⟩
    · obtain ⟨w, fq, h1, h2, h3, h4⟩ := E.ows j c' h io
      exact ⟨w, fq, by rw [gs hne]; exact h1, h2.move sm fun a ha => (keep j c' w fq hne h h1 h2 a ha).1, fun a ha => ⟨hs a (h3 a ha).1, (h3 a ha).2⟩, h4⟩
  · have back : ∀ (l : Nat) (d : Cl) (w : V) (fq : List Addr), i ≠ l → ρ[l]? = some (some d) → σ[l]? = some (some w) → OwH K H' P' d w fq → ∃ fr, OwH K H P d w fr ∧ fr = fq := fun l d w fq hn hk sk ho => by
      have io : isOw d = true := by cases d <;> first | rfl | exact ho.elim
      obtain ⟨w', fp2, s2, o2, _⟩ := E.ows l d hk io
      rw [sk] at s2; cases s2
      exact ⟨fp2, o2, (o2.move sm fun a ha => (keep l d w fp2 hn hk sk o2 a ha).1).uniq ho⟩
    rcases get_set h1 with ⟨rfl, hl, e1⟩ | ⟨hn1, h1⟩
    · cases e1
      rw [List.getElem?_set_self (by rw [E.len]; exact hl)] at h3
      cases h3
      rcases get_set h2 with ⟨e, _⟩ | ⟨hn2, h2⟩
      · exact (hne e).elim
      · rw [gs hn2] at h4
        obtain ⟨fr, o, rfl⟩ := back k c2 u' fp2 hn2 h2 h4 h6
        intro a ha hb
        rw [new.uniq h5] at keep
        exact (keep k c2 u' fr hn2 h2 h4 o a hb).2 ha
    · rw [gs hn1] at h3
      obtain ⟨fr, o, rfl⟩ := back j c1 u fp1 hn1 h1 h3 h5
      rcases get_set h2 with ⟨rfl, hl, e1⟩ | ⟨hn2, h2⟩
      · cases e1
        rw [List.getElem?_set_self (by rw [E.len]; exact hl)] at h4
        cases h4
        intro a ha
        rw [new.uniq h6] at keep
        exact (keep j c1 u fr hn1 h1 h3 o a ha).2
      · rw [gs hn2] at h4
        obtain ⟨fr2, o2, rfl⟩ := back k c2 u' fp2 hn2 h2 h4 h6
        exact E.apart j k c1 c2 u u' fr fr2 h1 h2 h3 h4 o o2 hne
/-- a new list of one's own -/
theorem EnvP.newo {K : PySem.W.Frag} (E : EnvP K P0 P H σ ρ) {i p : Nat} {xs : List V} {ds : List D} (hp : H p = none) (hx : HasL K (del H P) xs ds) :
    EnvP K P0 (fun a => P a ∨ a = p) (upd H p (.lst xs)) (σ.set i (some (.ref p))) (ρ.set i (some (.own ds))) ∧ Tr P0 P H (fun a => P a ∨ a = p) (upd H p (.lst xs)) := by
  have nP : ¬ P p := fun z => (E.trk p z).no hp
  have sm : Same (del H P) (del (upd H p (.lst xs)) (fun a => P a ∨ a = p)) := fun b o e => by
    obtain ⟨h1, h2⟩ := del_some e
    have hb : b ≠ p := ne_of_none h2 hp
    rw [del_of (fun z => z.elim h1 hb), upd_ne hb]; exact h2
  refine ⟨E.putO (fp := [p]) (fun a h => .inl h) (fun a h => ?_) sm (fun j c' v' fp' hne h1 h2 h3 a ha => ?_) ⟨p, xs, rfl, rfl, upd_same, hx.mono sm⟩ (fun a ha => ?_) (by simp), sm, fun a h => ?_⟩
  · by_cases ha : a = p
    · subst ha; exact Trk.lst upd_same
    · rcases h with h | h
      · unfold Trk; rw [upd_ne ha]; exact E.trk a h
      · exact absurd h ha
  · obtain ⟨ys, q⟩ := h3.at a ha
    have hn : a ≠ p := ne_of_none q hp
    exact ⟨upd_ne hn, fun z => hn (List.mem_singleton.mp z)⟩
  · rw [List.mem_singleton.mp ha]
    exact ⟨.inr rfl, fun z => nP (E.sub p z)⟩
  · rw [upd_ne (fun z => nP (by rw [← z]; exact E.sub a h))]
theorem set_at {α : Type} : ∀ {l : List α} {i : Nat} {x : α}, l[i]? = some x → l.set i x = l
  | [], _, _, h => by cases h
  | y :: r, 0, x, h => by cases h; rfl
  | y :: r, i + 1, x, h => by rw [List.set_cons_succ, set_at (by simpa using h)]
/-- one's own list gets other contents -/
theorem EnvP.mut {K : PySem.W.Frag} (E : EnvP K P0 P H σ ρ) {i p : Nat} {xs : List V} {ds ds' : List D} (ho : ρ[i]? = some (some (.own ds))) (hs : σ[i]? = some (some (.ref p))) (pP : P p) (nP0 : ¬ P0 p) (hx : HasL K (del H P) xs ds') :
    EnvP K P0 P (upd H p (.lst xs)) σ (ρ.set i (some (.own ds'))) ∧ Tr P0 P H P (upd H p (.lst xs)) := by
  have sd : del (upd H p (.lst xs)) P = del H P := by
    funext b
    by_cases hb : P b
    · rw [del_in hb, del_in hb]
    · rw [del_of hb, del_of hb, upd_ne (fun z => hb (by rw [z]; exact pP))]
  have sm : Same (del H P) (del (upd H p (.lst xs)) P) := by rw [sd]; exact Same.refl _
  obtain ⟨v, fp, s1, o1, _⟩ := E.ows i _ ho rfl
  rw [hs] at s1; cases s1
  have key := E.putO (P' := P) (H' := upd H p (.lst xs)) (i := i) (v := .ref p) (c := .own ds') (fp := [p]) (fun a h => h) (fun a h => ?_) sm (fun j c' v' fp' hne h1 h2 h3 a ha => ?_) ⟨p, xs, rfl, rfl, upd_same, by rw [sd]; exact hx⟩ (fun a ha => by rw [List.mem_singleton.mp ha]; exact ⟨pP, nP0⟩) (by simp)
  · rw [set_at hs] at key
    exact ⟨key, sm, fun a h => by rw [upd_ne (fun z => nP0 (by rw [← z]; exact h))]⟩
  · by_cases ha : a = p
    · subst ha; exact Trk.lst upd_same
    · unfold Trk; rw [upd_ne ha]; exact E.trk a h
  · obtain ⟨p', xs', e, rfl, _⟩ := o1
    cases e
    have hn : a ≠ p := fun z => E.apart j i c' _ v' _ fp' [p] h1 ho h2 hs h3 ⟨p, xs', rfl, rfl, by assumption⟩ (Ne.symm hne) a ha (by rw [z]; exact List.mem_singleton.mpr rfl)
    exact ⟨upd_ne hn, fun z => hn (List.mem_singleton.mp z)⟩
/-- one's own list grows -/
theorem EnvP.grow {K : PySem.W.Frag} (E : EnvP K P0 P H σ ρ) {i p : Nat} {xs : List V} {ds : List D} {v : V} {d : D} (ho : ρ[i]? = some (some (.own ds))) (hs : σ[i]? = some (some (.ref p))) (hp : H p = some (.lst xs)) (pP : P p) (nP0 : ¬ P0 p) (hx : HasL K (del H P) xs ds) (hv : Has K (del H P) v d) :
    EnvP K P0 P (upd H p (.lst (xs ++ [v]))) σ (ρ.set i (some (.own (ds ++ [d])))) ∧ Tr P0 P H P (upd H p (.lst (xs ++ [v]))) := E.mut ho hs pP nP0 (hx.snoc hv)
/-- name = e -/
theorem ds_set (i : Nat) {x : Str} {pos' : Pos} (hN : X.N.Nodup) (hi : X.N[i]? = some x) (hx : Loc X.env.scope x) (ha : DE X WX true e f) (hs : swapsWith e (some (.Name x pos')) pos.line X.env = pure false := by rfl) (hf : X.fn x = true ∨ X.env.scope.names.lookup x = some .local := by first | exact .inl rfl | exact .inr rfl | assumption) :
    DS X WX (.Assign [.Name x pos'] e pos) (fun ρ => (f ρ).bind fun d => .ok (.next (ρ.set i (some (.val d))))) := by
  obtain ⟨ta, a1, a2⟩ := ha
  refine ⟨_, ps_set hN hi hx a1 hs hf, fun P0 P σ H Z ρ E h => ?_⟩
  dsimp only at h
  refine a2 P0 P σ H _ ρ E ?_
  cases q : f ρ with
  | bad => rw [q] at h; exact h
  | ex x => rw [q] at h; exact fun H' s => h H' P (E.tr s)
  | ok d => rw [q] at h; exact fun v H' s hv => h _ H' P (E.tr s) ((E.same s).setv hv)
/-- name = [..], a list of one's own -/
theorem ds_new (i : Nat) {x : Str} {pos' lpos : Pos} {es : List Expr} {fs : Rho → M (List D)} (hN : X.N.Nodup) (hi : X.N[i]? = some x) (hx : Loc X.env.scope x) (ha : DA X WX true es fs) (hs : swapsWith (.List es lpos) (some (.Name x pos')) pos.line X.env = pure false := by rfl) (hf : X.fn x = true ∨ X.env.scope.names.lookup x = some .local := by first | exact .inl rfl | exact .inr rfl | assumption) :
    DS X WX (.Assign [.Name x pos'] (.List es lpos) pos) (fun ρ => (fs ρ).bind fun ds => if ds.length ≤ 1000 then .ok (.next (ρ.set i (some (.own ds)))) else .bad) := by
  obtain ⟨ta, a1, a2, a3⟩ := ha
  refine ⟨_, ps_set hN hi hx (pe_lst a1) hs hf, fun P0 P σ H Z ρ E h => ?_⟩
  dsimp only at h
  refine a2 P0 P σ H _ ρ E ?_
  cases q : fs ρ with
  | bad => rw [q] at h; exact h
  | ex x => rw [q] at h; exact fun H' s => h H' P (E.tr s)
  | ok ds =>
    rw [q] at h
    simp only [M.bind_ok] at h
    by_cases hd : ds.length ≤ 1000
    · rw [if_pos hd] at h
      intro vs H1 s1 hvs
      refine ⟨Nat.le_of_lt (small1000 (by rw [hvs.length]; exact hd)), fun p hp => ?_⟩
      obtain ⟨E2, t2⟩ := (E.same s1).newo (i := i) hp hvs
      exact h _ _ _ ((E.tr s1).trans t2) E2
    · rw [if_neg hd] at h; exact h.elim
/-- name.append(e) of one's own list -/
def appM (i : Nat) (ρ : Rho) (m : M D) : M Out := match ρ[i]? with
  | some (some (.own ds)) => m.bind fun d => if ds.length < 1000 then .ok (.next (ρ.set i (some (.own (ds ++ [d]))))) else .bad
  | _ => .bad
theorem ds_append (i : Nat) {x : Str} {p1 apos cpos : Pos} (hv : PE X (.Name x p1) (tVar i)) (ha : DE X WX true e f) (hs : starEach [e] X.env = [(false, eval e X.env)] := by rfl)
    (hsw : swapsWith (.Call (.Attribute (.Name x p1) "append" apos) [e] [] cpos) none pos.line X.env = pure false := by rfl)
    (hbase : attributeBase (.Name x p1) "append" X.env (eval (.Name x p1) X.env) = eval (.Name x p1) X.env := by rfl)
    (hfew : ((backTo cpos (starEach [e] X.env)).all (fun x => !x.1) && (backToKw cpos (keywordEach [] X.env)).all (fun x => x.1.isSome) && decide (([e] : List Expr).length + ([] : List Keyword).length + (if ([] : List Keyword).isEmpty then 0 else 1) < 30)) = true := by rfl)
    (hline : (apos.endLine == cpos.line) = true := by rfl) (hplain : (backTo cpos (starEach [] X.env)).any (·.1) = false := by rfl) :
    DS X WX (.Expr (.Call (.Attribute (.Name x p1) "append" apos) [e] [] cpos) pos) (fun ρ => appM i ρ (f ρ)) := by
  obtain ⟨ta, a1, a2⟩ := ha
  refine ⟨_, ps_expr (pe_bm PySem.F.plainAttrs_list PySem.F.slot_list_append PySem.F.type_list_append mt_append hv (pa_cons a1 pa_nil hs) hbase hfew hline hs hplain) hsw, fun P0 P σ H Z ρ E h => ?_⟩
  dsimp only at h
  unfold appM at h
  split at h
  · rename_i ds e1
    obtain ⟨p, xs, h1, h2, h3, h4, h5⟩ := E.own i ds e1
    refine ⟨_, h1, .inl ⟨rfl, xs, .of h2⟩, ?_⟩
    refine a2 P0 P σ H _ ρ E ?_
    cases q : f ρ with
    | bad => rw [q] at h; exact h
    | ex y => rw [q] at h; exact fun H' s => h H' P (E.tr s)
    | ok d =>
      rw [q] at h
      simp only [M.bind_ok] at h
      by_cases hl : ds.length < 1000
      · rw [if_pos hl] at h
        intro v H1 s1 hv
        have E1 := E.same s1
        have h2' : H1 p = some (.lst xs) := s1 _ _ h2
        refine ⟨p, xs, v, rfl, rfl, h2', small1000 (by rw [h5.length]; omega), ?_⟩
        obtain ⟨E2, t2⟩ := E1.grow e1 h1 h2' h3 h4 (h5.mono s1.del) hv
        exact h _ _ _ ((E.tr s1).trans t2) E2
      · rw [if_neg hl] at h; exact h.elim
  · exact h.elim
end
end L2

set_option Elab.async false
set_option linter.all false
set_option maxRecDepth 100000
namespace L2
open PySem PySem.Spec PyProof.Rows

/-! ### targets -/
def gG (K : PySem.W.Frag) (P0 P : Addr → Prop) (H : Hp) (Q : St → Hp → Prop) : M Rho → Prop
  | .ok ρ => ∀ σ', EnvP K P0 P H σ' ρ → Q σ' H
  | _ => False
def DG (X : Cx) (tg : Expr) (gt : D → Rho → M Rho) : Prop :=
  ∃ g : TG, PG X tg g ∧ ∀ P0 P σ H Q ρ v d, EnvP X.K P0 P H σ ρ → Has X.K (del H P) v d → gG X.K P0 P H Q (gt d ρ) → g v σ H Q
/-! ### iterators -/
structure ItOk (K : PySem.W.Frag) (J : It) (P : Addr → Prop) (H : Hp) (ds : List D) : Prop where
  go : ∀ (i : Nat) P' H', Same (del H P) (del H' P') → i < ds.length → J.go i H'
  stop : ∀ (i : Nat) P' H', Same (del H P) (del H' P') → ds.length ≤ i → J.stop i H'
  yld : ∀ (i : Nat) P' H' v H'' d, Same (del H P) (del H' P') → (∀ a, P' a → Trk H' a) → ds[i]? = some d → J.yld i H' v H'' → Same H' H'' ∧ Has K (del H'' P') v d
def DI (X : Cx) (WX : Str → Hp → Prop) (tg iter : Expr) (f : Rho → M (List D)) : Prop :=
  ∃ wi, PI X tg iter wi ∧ ∀ P0 P σ H R ρ, EnvP X.K P0 P H σ ρ → (match f ρ with | .ok ds => ∀ J H', Same H H' → ItOk X.K J P H' ds → R J H' | .ex x => ∀ H', Same H H' → WX x H' | .bad => False) → wi σ H R
def forM (gt : D → Rho → M Rho) (body : Rho → M Out) : List D → Rho → M Out
  | [], ρ => .ok (.next ρ)
  | d :: r, ρ => match gt d ρ with
    | .ok ρ1 => (match body ρ1 with
      | .ok (.next ρ2) => forM gt body r ρ2
      | .ok (.cont ρ2) => forM gt body r ρ2
      | .ok (.brk ρ2) => .ok (.next ρ2)
      | m => m)
    | _ => .bad
section
variable {X : Cx} {WX : Str → Hp → Prop} {c : Bool} {P0 P : Addr → Prop} {H : Hp} {σ : St} {ρ : Rho} {a b e tg iter : Expr} {f g : Rho → M D} {ft : Rho → M Bool} {pos : Pos} {gt : D → Rho → M Rho} {gts : List D → Rho → M Rho} {gb : Rho → M Out} {fi : Rho → M (List D)}
theorem dg_name (i : Nat) {x : Str} (hN : X.N.Nodup) (hi : X.N[i]? = some x) (hx : Loc X.env.scope x) (hf : X.fn x = true ∨ X.env.scope.names.lookup x = some .local := by first | exact .inl rfl | exact .inr rfl | assumption) : DG X (.Name x pos) (fun d ρ => .ok (ρ.set i (some (.val d)))) :=
  ⟨_, pg_name hN hi hx hf, fun P0 P σ H Q ρ v d E hv h => h _ (E.setv hv)⟩
/-! iterators -/
theorem di_list (ha : DE X WX true e f) : DI X WX tg e (fun ρ => (f ρ).bind fun d => match d with | .lst ds => .ok ds | _ => .bad) := by
  obtain ⟨ta, a1, a2⟩ := ha
  refine ⟨_, pi_list a1, fun P0 P σ H R ρ E h => ?_⟩
  dsimp only at h
  refine a2 P0 P σ H _ ρ E ?_
  cases q : f ρ with
  | bad => rw [q] at h; exact h
  | ex x => rw [q] at h; exact h
  | ok d =>
    rw [q] at h
    cases d with
    | lst ds =>
      intro v H1 s1 hv
      cases hv with
      | @lst a xs _ hs hl =>
        refine ⟨a, rfl, ⟨xs, hs.undel⟩, h _ H1 s1 ⟨fun i P' H' s hi => ?_, fun i P' H' s hi => ?_, fun i P' H' v H'' d s ht hd y => ?_⟩⟩
        · obtain ⟨x, hx, _⟩ := hl.get (List.getElem?_eq_getElem hi)
          exact ⟨xs, x, (s.seq hs).undel, hx⟩
        · exact ⟨xs, (s.seq hs).undel, by rw [hl.length]; exact hi⟩
        · obtain ⟨rfl, y⟩ := y
          obtain ⟨x, hx, hd'⟩ := hl.get hd
          have e := y xs (s.seq hs).undel
          rw [hx] at e
          cases e
          exact ⟨Same.refl _, hd'.mono s⟩
    | _ => exact h.elim
def rangeD (lo : Int) : Nat → List D
  | 0 => []
  | n + 1 => .int lo :: rangeD (lo + 1) n
theorem rangeD_len (lo : Int) : ∀ n : Nat, (rangeD lo n).length = n := by
  intro n
  induction n generalizing lo with
  | zero => rfl
  | succ n ih => rw [rangeD, List.length_cons, ih]
theorem rangeD_get {lo : Int} {n i : Nat} {d : D} (h : (rangeD lo n)[i]? = some d) : d = .int (lo + i) ∧ i < n := by
  have hi : i < n := by
    have := (List.getElem?_eq_some_iff.mp h).1
    rw [rangeD_len] at this; exact this
  refine ⟨?_, hi⟩
  induction n generalizing lo i with
  | zero => omega
  | succ n ih =>
    cases i with
    | zero => rw [rangeD] at h; simp at h; rw [← h]; simp
    | succ i =>
      rw [rangeD, List.getElem?_cons_succ] at h
      rw [ih h (by omega)]
      congr 1
      omega
theorem itok_range {K : PySem.W.Frag} {P : Addr → Prop} {H : Hp} (lo : Int) (n : Nat) : ItOk K (Itr lo n) P H (rangeD lo n) :=
  ⟨fun i P' H' _ hi => by rw [rangeD_len] at hi; exact hi, fun i P' H' _ hi => by rw [rangeD_len] at hi; exact hi, fun i P' H' v H'' d _ _ hd y => by
    obtain ⟨rfl, rfl⟩ := y
    obtain ⟨rfl, _⟩ := rangeD_get hd
    exact ⟨Same.refl _, .int _⟩⟩
/-- range over one number; the bound is asked by choice, so that no reckoning of the kernel opens it -/
noncomputable def rngM : D → M (List D)
  | .int j => @ite _ (-(2 ^ 62) ≤ j ∧ j < 2 ^ 62) (Classical.propDecidable _) (.ok (rangeD 0 j.toNat)) .bad
  | _ => .bad
theorem rngM_int {j : Int} (h1 : -(2 ^ 62) ≤ j) (h2 : j < 2 ^ 62) : rngM (.int j) = .ok (rangeD 0 j.toNat) := if_pos ⟨h1, h2⟩
theorem rngM_nat {n : Nat} (h : n ≤ 1000) : rngM (.int (n : Int)) = .ok (rangeD 0 n) := by
  rw [rngM_int (by omega) (by omega), Int.toNat_natCast]
theorem di_range1 {p : Pos} (hg : Gl X "range") (hm : X.mg "range" = none) (ha : DE X WX c a f) (hs : starEach [a] X.env = [(false, eval a X.env)] := by rfl) :
    DI X WX tg (.Call (.Name "range" p) [a] [] pos) (fun ρ => (f ρ).bind rngM) := by
  obtain ⟨ta, a1, a2⟩ := ha
  refine ⟨_, pi_range1 hg hm (pa_cons a1 pa_nil hs) hs, fun P0 P σ H R ρ E h => ?_⟩
  dsimp only at h
  refine a2 P0 P σ H _ ρ E ?_
  cases q : f ρ with
  | bad => rw [q] at h; exact h
  | ex x => rw [q] at h; exact h
  | ok d =>
    rw [q] at h
    cases d with
    | int j =>
      simp only [M.bind_ok] at h
      by_cases hj : -(2 ^ 62) ≤ j ∧ j < 2 ^ 62
      · rw [rngM_int hj.1 hj.2] at h
        exact fun v H1 s1 hv => ⟨j, by rw [hv.int_inv], hj.1, hj.2, h _ H1 s1 (itok_range 0 _)⟩
      · have e : rngM (.int j) = .bad := if_neg hj
        rw [e] at h; exact h.elim
    | _ => exact h.elim
theorem drop_get {α : Type} {l : List α} {i : Nat} (h : i < l.length) : l.drop i = l[i] :: l.drop (i + 1) := List.drop_eq_getElem_cons h
/-- for -/
theorem ds_for {body : List Stmt} (hp : PassesOwn (model X.prog X.w) X.A X.env X.xe) (hc : X.calm = true) (hi : DI X WX tg iter fi) (hg : DG X tg gt) (hb : DSs X WX body gb) (hs : ∀ x, foldedSetIterable iter X.env x = pure x := by intro _; rfl) :
    DS X WX (.For tg iter body [] pos) (fun ρ => (fi ρ).bind fun ds => forM gt gb ds ρ) := by
  obtain ⟨wi, i1, i2⟩ := hi
  obtain ⟨t, a1, a2⟩ := hg
  obtain ⟨tb, b1, b2⟩ := hb
  refine ⟨_, ps_for hp hc i1 a1 b1 hs, fun P0 P σ H Z ρ E h => ?_⟩
  dsimp only at h
  refine i2 P0 P σ H _ ρ E ?_
  cases q : fi ρ with
  | bad => rw [q] at h; exact h
  | ex x => rw [q] at h; exact fun H' s => h H' P (E.tr s)
  | ok ds =>
    rw [q] at h
    simp only [M.bind_ok] at h
    intro J H1 s1 ok
    refine ⟨fun i m σ' H' => m = ds.length - i ∧ i ≤ ds.length ∧ ∃ P' ρ', Tr P0 P H1 P' H' ∧ EnvP X.K P0 P' H' σ' ρ' ∧ gS X.K WX P0 P' H' Z (forM gt gb (ds.drop i) ρ'),
      ⟨ds.length, by simp, Nat.zero_le _, P, ρ, Tr.refl, E.same s1, by rw [List.drop_zero]; exact h.tr (E.tr s1)⟩, ?_⟩
    rintro i m σ' H' ⟨rfl, hi, P', ρ', t', E', g'⟩
    by_cases hlt : i < ds.length
    · refine .inr ⟨ok.go i P' H' t'.1 hlt, fun σ2 H2 => i + 1 ≤ ds.length ∧ ∃ P2 ρ2, Tr P0 P H1 P2 H2 ∧ EnvP X.K P0 P2 H2 σ2 ρ2 ∧ gS X.K WX P0 P2 H2 Z (forM gt gb (ds.drop (i + 1)) ρ2), fun σ2 H2 hq => ⟨ds.length - (i + 1), by omega, rfl, hq.1, hq.2⟩, fun v H2 y => ?_⟩
      obtain ⟨s2, hv⟩ := ok.yld i P' H' v H2 ds[i] t'.1 E'.trk (List.getElem?_eq_getElem hlt) y
      rw [drop_get hlt, forM] at g'
      have E2 := E'.same s2
      refine a2 P0 P' σ' H2 _ ρ' v ds[i] E2 hv ?_
      cases q1 : gt ds[i] ρ' with
      | bad => rw [q1] at g'; exact g'
      | ex x => rw [q1] at g'; exact g'.elim
      | ok ρ1 =>
        rw [q1] at g'
        dsimp only at g'
        intro σ3 E3
        refine b2 P0 P' σ3 H2 _ ρ1 E3 ?_
        have tt : Tr P0 P H1 P' H2 := t'.trans (E'.tr s2)
        cases q2 : gb ρ1 with
        | bad => rw [q2] at g'; exact g'
        | ex x => rw [q2] at g'; exact gS.tr (m := .ex x) g' (E'.tr s2)
        | ok o =>
          rw [q2] at g'
          cases o with
          | ret d => exact gS.tr (m := .ok (.ret d)) g' (E'.tr s2)
          | next ρ2 => exact fun σ4 H4 P4 t4 E4 => ⟨hlt, P4, ρ2, tt.trans t4, E4, gS.tr g' ((E'.tr s2).trans t4)⟩
          | cont ρ2 => exact fun σ4 H4 P4 t4 E4 => ⟨hlt, P4, ρ2, tt.trans t4, E4, gS.tr g' ((E'.tr s2).trans t4)⟩
          | brk ρ2 => exact fun σ4 H4 P4 t4 E4 => g' σ4 H4 P4 ((E'.tr s2).trans t4) E4
    · have e : i = ds.length := by omega
      subst e
      refine .inl ⟨ok.stop _ P' H' t'.1 (Nat.le_refl _), ?_⟩
      rw [List.drop_length, forM] at g'
      exact g' σ' H' P' Tr.refl E'
end
end L2

set_option Elab.async false
set_option linter.all false
set_option maxRecDepth 100000
namespace L2
open PySem PySem.Spec PyProof.Rows

/-! ### defs -/
def spM0 (K : PySem.W.Frag) (n : Nat) (F : List D → M D) : Sp := fun vs H Q _ => vs.length = n ∧ ∃ P ds, (∀ a, P a → Trk H a) ∧ HasL K (del H P) vs ds ∧ gV K (fun _ _ => False) P H Q (F ds)
def stRho (N : List Str) (ds : List D) : Rho := ds.map (fun d => some (.val d)) ++ List.replicate (N.length - ds.length) none
def fin (m : M Out) : M D := match m with
  | .ok (.ret d) => .ok d
  | .ok (.next _) => .ok .non
  | _ => .bad
theorem env_start {K : PySem.W.Frag} {P : Addr → Prop} {H : Hp} {N : List Str} {vs : List V} {ds : List D} (ht : ∀ a, P a → Trk H a) (h : HasL K (del H P) vs ds) : EnvP K P P H (start N vs) (stRho N ds) := by
  have hl := h.length
  have key : ∀ (i : Nat) (c : Cl), (stRho N ds)[i]? = some (some c) → ∃ d, ds[i]? = some d ∧ c = .val d := fun i c e => by
    unfold stRho at e
    by_cases hi : i < ds.length
    · rw [List.getElem?_append_left (by simpa using hi), List.getElem?_map] at e
      cases q : ds[i]? with
      | none => rw [q] at e; cases e
      | some d => rw [q] at e; cases e; exact ⟨d, rfl, rfl⟩
    · rw [List.getElem?_append_right (by simpa using hi), List.getElem?_replicate] at e
      split at e <;> cases e
  refine ⟨fun _ h => h, ht, fun i d e => ?_, fun i es e io => ?_, fun i j c c' v v' fp fp' e _ _ _ ho _ _ => ?_, ?_⟩
  · obtain ⟨d', q, z⟩ := key i _ e
    cases z
    obtain ⟨v, hv, hd⟩ := h.get q
    refine ⟨v, ?_, hd⟩
    unfold start
    rw [List.getElem?_append_left (by rw [List.length_map]; exact (List.getElem?_eq_some_iff.mp hv).1), List.getElem?_map, hv]
    rfl
  · obtain ⟨d', q, z⟩ := key i _ e
    cases z
    cases io
  · obtain ⟨d', q, z⟩ := key i _ e
    cases z
    exact ho.elim
  · unfold start stRho
    simp [hl]
theorem tr_same {P : Addr → Prop} {H H' : Hp} {P' : Addr → Prop} (t : Tr P P H P' H') : Same H H' := fun b o e => by
  by_cases hb : P b
  · rw [t.2 b hb]; exact e
  · exact (del_some (t.1 b o (by rw [del_of hb]; exact e))).2
section
variable {P : Program} {w : World} {K : PySem.W.Frag} {mg : Str → Option Value} {base : Heap}
/-- a def without exceptions, by its body's worth -/
theorem fn_D0 {x qual : Str} {st : Stmt} {f : Addr} {fd : FuncData} {N ps : List Str} {k : Nat} (F : Fun K x qual st f fd) (S : FnScope N ps (defScope st)) (g : Rho → M Out)
    (hb : ∀ (cdv : Value) (A : Around) (outer : List Env) (s : Shared) (H : Hp) (E : XK), Room k (A.deeper (envOfC qual (defScope st) s.heap.objs.size f cdv)) → DSs (cxOf CX0 P w K mg base N qual (defScope st) f cdv A outer s H E).nox (fun _ _ => False) (defBody st) g) :
    FnOk P w K mg base CX0 (k + 1) f fd ps (spM0 K ps.length fun ds => fin (g (stRho N ds))) := by
  refine F.ok S (fun vs H Q E h => h.1) fun cdv A outer s H vs Q E hr h => ?_
  obtain ⟨hl, P', ds, ht, hv, hq⟩ := h
  obtain ⟨t, h1, h2⟩ := hb cdv A outer s H E hr
  refine ⟨t, h1, h2 P' P' _ H _ _ (env_start ht hv) ?_⟩
  dsimp only at hq
  revert hq
  cases g (stRho N ds) with
  | bad => exact fun h => h.elim
  | ex x => exact fun h => h.elim
  | ok o =>
    cases o with
    | ret d => exact fun h v H' P2 t hv => h v H' (tr_same t) hv
    | next ρ => exact fun h σ' H' P2 t E => h .non H' (tr_same t) .non
    | brk ρ => exact fun h => h.elim
    | cont ρ => exact fun h => h.elim
end
theorem fin_ne (m : M Out) (x : Str) : fin m ≠ .ex x := by
  unfold fin
  split <;> (intro h; cases h)
section
variable {X : Cx} {WX : Str → Hp → Prop} {c : Bool} {P0 P : Addr → Prop} {H : Hp} {σ : St} {ρ : Rho} {a b e tg iter : Expr} {f g : Rho → M D} {ft : Rho → M Bool} {pos : Pos} {gt : D → Rho → M Rho} {fi : Rho → M (List D)} {es : List Expr} {fs : Rho → M (List D)}
theorem de_call {CX : CXT} {k n : Nat} {fa : Addr} {fd : FuncData} {ps : List Str} {F : List D → M D} {x : Str} {p : Pos} {E : XK} (G : FnOk X.prog X.w X.K X.mg X.base CX k fa fd ps (spM0 X.K n F)) (hne : ∀ ds x, F ds ≠ .ex x) (hr : Room k X.A) (hg : Gl X x) (hm : X.mg x = some (.ref fa)) (hk : PySem.W.keepIn X.K (.ref fa) = true) (hb : Binds X.K fd ps []) (hx : Passes CX X E)
    (ha : DA X WX c (e :: es) fs) (hn : (e :: es).length = n) (hdb : (x == ("__debug__" : Str)) = false := by decide) (he : starEach (e :: es) X.env = (false, eval e X.env) :: starEach es X.env := by rfl) (hpl : (backTo pos (starEach es X.env)).any (·.1) = false := by rfl) :
    DE X WX c (.Call (.Name x p) (e :: es) [] pos) (fun ρ => (fs ρ).bind F) := by
  obtain ⟨ta, a1, a2, a3⟩ := ha
  refine ⟨_, pe_call G hr hg hm hk hb .nil hx a1 hdb he hpl, fun P0 P σ H Q ρ E h => ?_⟩
  dsimp only at h
  refine a2 P0 P σ H _ ρ E ?_
  cases q : fs ρ with
  | bad => rw [q] at h; exact h
  | ex x => rw [q] at h; exact h
  | ok ds =>
    rw [q] at h
    simp only [M.bind_ok] at h
    intro vs H1 s1 hvs
    rw [List.append_nil]
    refine ⟨by rw [hvs.length, a3 ρ ds q]; exact hn, _, ds, fun a q => (E.same s1).lvt c a q, hvs, ?_⟩
    have h' := gV.same h s1
    cases q2 : F ds with
    | bad => rw [q2] at h'; exact h'
    | ex x => exact absurd q2 (hne ds x)
    | ok d => rw [q2] at h'; exact h'
/-! ### comprehensions -/
def muRho (μ : List (Option Nat)) (ρ : Rho) : Rho := μ.map fun o => o.bind fun i => match ρ[i]? with | some (some (.val d)) => some (.val d) | _ => none
theorem muRho_get {μ : List (Option Nat)} {ρ : Rho} {j : Nat} {cl : Cl} (h : (muRho μ ρ)[j]? = some (some cl)) : ∃ i d, μ[j]? = some (some i) ∧ ρ[i]? = some (some (.val d)) ∧ cl = .val d := by
  unfold muRho at h
  rw [List.getElem?_map] at h
  cases q : μ[j]? with
  | none => rw [q] at h; cases h
  | some o =>
    rw [q] at h
    cases o with
    | none => cases h
    | some i =>
      simp only [Option.map_some, Option.bind_some, Option.some.injEq] at h
      split at h
      · rename_i d e
        cases h
        exact ⟨i, d, rfl, e, rfl⟩
      · cases h
theorem EnvP.block {K : PySem.W.Frag} (E : EnvP K P0 P H σ ρ) (μ : List (Option Nat)) : EnvP K P0 P H (muSt μ σ) (muRho μ ρ) := by
  refine ⟨E.sub, E.trk, fun j d h => ?_, fun j ds h io => ?_, fun j k c c' v v' fp fp' h _ _ _ ho _ _ => ?_, by unfold muSt muRho; simp⟩
  · obtain ⟨i, d', h1, h2, h3⟩ := muRho_get h
    cases h3
    obtain ⟨v, h4, h5⟩ := E.val i d h2
    refine ⟨v, ?_, h5⟩
    unfold muSt
    rw [List.getElem?_map, h1]
    simp [h4]
  · obtain ⟨i, d', h1, h2, h3⟩ := muRho_get h
    cases h3
    cases io
  · obtain ⟨i, d', h1, h2, h3⟩ := muRho_get h
    cases h3
    exact ho.elim
def compM (gt : D → Rho → M Rho) (ft : Rho → M Bool) (fe : Rho → M D) : List D → Rho → M (List D)
  | [], _ => .ok []
  | d :: r, ρ => match gt d ρ with
    | .ok ρ1 => (match ft ρ1 with
      | .ok k => if k = true then (match fe ρ1 with
        | .ok y => (match compM gt ft fe r ρ with | .ok ys => .ok (y :: ys) | _ => .bad)
        | _ => .bad) else compM gt ft fe r ρ
      | _ => .bad)
    | _ => .bad
/-- a block's target -/
def DGB (X : Cx) (scope : Scope) (NB : List Str) (μ : List (Option Nat)) (tg : Expr) (gt : D → Rho → M Rho) : Prop :=
  ∃ g : TG, (∀ s H C ex, PG (blockOf X s H scope C NB ex) tg g) ∧ GKeeps μ g ∧ ∀ P0 P σ H Q ρ v d, EnvP X.K P0 P H σ ρ → Has X.K (del H P) v d → gG X.K P0 P H Q (gt d ρ) → g v σ H Q
theorem dgb_name {scope : Scope} {NB : List Str} {μ : List (Option Nat)} (i : Nat) {x : Str} (hN : NB.Nodup) (hi : NB[i]? = some x) (hx : (relabel scope X.env).names.lookup x = some .local) (hm : μ[i]? = some none) : DGB X scope NB μ (.Name x pos) (fun d ρ => .ok (ρ.set i (some (.val d)))) :=
  ⟨gName i, fun s H C ex => pg_name (X := blockOf X s H scope C NB ex) hN hi (.inl hx) (.inr hx), gk_name hm, fun P0 P σ H Q ρ v d E hv h => h _ (E.setv hv)⟩
/-- a block's tests -/
def DTs (X : Cx) (cs : List Expr) (f : Rho → M Bool) : Prop :=
  ∃ t, PTs X cs t ∧ ∀ P0 P σ H Q ρ, EnvP X.K P0 P H σ ρ → gT (fun _ _ => False) H Q (f ρ) → t σ H Q
theorem dts_nil : DTs X [] (fun _ => .ok true) := ⟨_, pts_nil, fun P0 P σ H Q ρ E h => h H (Same.refl H)⟩
theorem dts_one (h : DT X (fun _ _ => False) a ft) : DTs X [a] ft := let ⟨t, h1, h2⟩ := h; ⟨_, pts_one h1, h2⟩
def compR (m : M (List D)) : M D := match m with | .ok ys => .ok (.lst ys) | _ => .bad
theorem comp_D {μ : List (Option Nat)} {wi : TI} {gg : TG} {tc : Shared → Hp → Addr → List Addr → TT} {te : Shared → Hp → Addr → List Addr → TE} {fe : Rho → M D}
    (i2 : ∀ P0 P σ H R ρ, EnvP X.K P0 P H σ ρ → (match fi ρ with | .ok ds => ∀ J H', Same H H' → ItOk X.K J P H' ds → R J H' | .ex x => ∀ H', Same H H' → WX x H' | .bad => False) → wi σ H R)
    (g2 : ∀ P0 P σ H Q ρ v d, EnvP X.K P0 P H σ ρ → Has X.K (del H P) v d → gG X.K P0 P H Q (gt d ρ) → gg v σ H Q)
    (t2 : ∀ s H' C ex P0 P σ H Q ρ, EnvP X.K P0 P H σ ρ → gT (fun _ _ => False) H Q (ft ρ) → tc s H' C ex σ H Q)
    (e2 : ∀ s H' C ex P0 P σ H Q ρ, EnvP X.K P0 P H σ ρ → gV X.K (fun _ _ => False) (Lv c P0 P) H Q (fe ρ) → te s H' C ex σ H Q) {Q : VK}
    (E : EnvP X.K P0 P H σ ρ) (h : gV X.K WX (Lv c P0 P) H Q ((fi ρ).bind fun ds => if ds.length ≤ 1000 then compR (compM gt ft fe ds (muRho μ ρ)) else .bad)) : tComp wi μ gg tc te σ H Q := by
  refine i2 P0 P σ H _ ρ E ?_
  cases q : fi ρ with
  | bad => rw [q] at h; exact h
  | ex x => rw [q] at h; exact h
  | ok ds =>
    rw [q] at h
    simp only [M.bind_ok] at h
    by_cases hd : ¬ ds.length ≤ 1000
    · rw [if_neg hd] at h; exact h.elim
    have hd : ds.length ≤ 1000 := by omega
    rw [if_pos hd] at h
    intro J H1 s1 ok s C ex
    cases qc : compM gt ft fe ds (muRho μ ρ) with
    | bad => rw [qc] at h; exact h.elim
    | ex x => rw [qc] at h; exact h.elim
    | ok total =>
      rw [qc] at h
      unfold compR at h
      dsimp only at h
      have E1 := E.same s1
      refine ⟨fun i m ys H2 => m = ds.length - i ∧ i ≤ ds.length ∧ ys.length ≤ i ∧ Same H1 H2 ∧ ∃ es rest, HasL X.K (del H2 (Lv c P0 P)) ys es ∧ compM gt ft fe (ds.drop i) (muRho μ ρ) = .ok rest ∧ es ++ rest = total,
        ⟨ds.length, by simp, Nat.zero_le _, Nat.le_refl _, Same.refl _, [], total, .nil, by rw [List.drop_zero]; exact qc, rfl⟩, ?_⟩
      rintro i m ys H2 ⟨rfl, hi, hy, s2, es, rest, hes, hcm, htot⟩
      by_cases hlt : i < ds.length
      · refine .inr ⟨ok.go i P H2 s2.del hlt, Nat.lt_of_le_of_lt hy (small1000 (by omega)), fun ys' H' => i + 1 ≤ ds.length ∧ ys'.length ≤ i + 1 ∧ Same H1 H' ∧ ∃ es rest, HasL X.K (del H' (Lv c P0 P)) ys' es ∧ compM gt ft fe (ds.drop (i + 1)) (muRho μ ρ) = .ok rest ∧ es ++ rest = total, fun ys' H' hq => ⟨ds.length - (i + 1), by omega, rfl, hq.1, hq.2.1, hq.2.2.1, hq.2.2.2⟩, fun v H3 y => ?_⟩
        have E2 := E1.same s2
        obtain ⟨s3, hv⟩ := ok.yld i P H2 v H3 ds[i] s2.del E2.trk (List.getElem?_eq_getElem hlt) y
        rw [drop_get hlt, compM] at hcm
        have E3 := (E2.same s3).block μ
        refine g2 P0 P _ H3 _ (muRho μ ρ) v ds[i] E3 hv ?_
        cases q1 : gt ds[i] (muRho μ ρ) with
        | bad => rw [q1] at hcm; cases hcm
        | ex x => rw [q1] at hcm; cases hcm
        | ok ρ1 =>
          rw [q1] at hcm
          dsimp only at hcm
          intro σ4 E4
          refine t2 s H1 C ex P0 P σ4 H3 _ ρ1 E4 ?_
          cases q2 : ft ρ1 with
          | bad => rw [q2] at hcm; cases hcm
          | ex x => rw [q2] at hcm; cases hcm
          | ok k =>
            rw [q2] at hcm
            dsimp only at hcm
            intro H5 s5
            cases k with
            | false =>
              simp only [Bool.false_eq_true, if_false] at hcm ⊢
              exact ⟨hlt, by omega, (s2.trans s3).trans s5, es, rest, (hes.mono s3.del).mono s5.del, hcm, htot⟩
            | true =>
              simp only [if_true] at hcm ⊢
              refine e2 s H1 C ex P0 P σ4 H5 _ ρ1 (E4.same s5) ?_
              cases q3 : fe ρ1 with
              | bad => rw [q3] at hcm; cases hcm
              | ex x => rw [q3] at hcm; cases hcm
              | ok y' =>
                rw [q3] at hcm
                dsimp only at hcm
                cases q4 : compM gt ft fe (ds.drop (i + 1)) (muRho μ ρ) with
                | bad => rw [q4] at hcm; cases hcm
                | ex x => rw [q4] at hcm; cases hcm
                | ok ys2 =>
                  rw [q4] at hcm
                  cases hcm
                  intro w H6 s6 hw
                  refine ⟨hlt, by rw [List.length_append, List.length_singleton]; omega, ((s2.trans s3).trans s5).trans s6, es ++ [y'], ys2, (((hes.mono s3.del).mono s5.del).mono s6.del).snoc hw, rfl, ?_⟩
                  rw [List.append_assoc]; exact htot
      · have e : i = ds.length := by omega
        subst e
        rw [List.drop_length, compM] at hcm
        cases hcm
        rw [List.append_nil] at htot
        subst htot
        refine .inl ⟨ok.stop _ P H2 s2.del (Nat.le_refl _), fun D0 hn => h _ _ ((s1.trans s2).trans (same_new hn _)) (.lst (.of (new_del hn fun a q => (E1.same s2).lvt c a q)) (hes.mono (same_new hn _).del))⟩
theorem de_comp {scope : Scope} {NB : List Str} {ifs : List Expr} {elt : Expr} {fe : Rho → M D} (μ : List (Option Nat)) (hc : X.calm = true) (hi : DI X WX tg iter fi) (hsc : scOk scope X.env.scope = true) (hmu : muOk X.N NB scope μ = true) (hg : DGB X scope NB μ tg gt)
    (ht : ∀ s H C ex, DTs (blockOf X s H scope C NB ex) ifs ft) (he : ∀ s H C ex, DE (blockOf X s H scope C NB ex) (fun _ _ => False) c elt fe) (hs : ∀ x, foldedSetIterable iter X.env x = pure x := by intro _; rfl) :
    DE X WX c (.ListComp elt [⟨tg, iter, ifs, 0⟩] scope pos) (fun ρ => (fi ρ).bind fun ds => if ds.length ≤ 1000 then compR (compM gt ft fe ds (muRho μ ρ)) else .bad) := by
  obtain ⟨wi, i1, i2⟩ := hi
  obtain ⟨gg, g1, gk, g2⟩ := hg
  refine ⟨_, pe_comp hc i1 hsc hmu gk (fun s H C ex => ⟨g1 s H C ex, (Classical.choose_spec (ht s H C ex)).1, (Classical.choose_spec (he s H C ex)).1⟩) hs, fun P0 P σ H Q ρ E h => ?_⟩
  exact comp_D i2 g2 (fun s H' C ex P0 P σ H Q ρ E h => (Classical.choose_spec (ht s H' C ex)).2 P0 P σ H Q ρ E h) (fun s H' C ex P0 P σ H Q ρ E h => (Classical.choose_spec (he s H' C ex)).2 P0 P σ H Q ρ E h) E h
/-- name = [elt for ..] on one line -/
theorem ds_setC {scope : Scope} {NB : List Str} {ifs : List Expr} {elt : Expr} {fe : Rho → M D} (i : Nat) {x : Str} {px spos : Pos} (μ : List (Option Nat)) (hN : X.N.Nodup) (hiN : X.N[i]? = some x) (hx : Loc X.env.scope x) (hc : X.calm = true) (hi : DI X WX tg iter fi) (hsc : scOk scope X.env.scope = true) (hmu : muOk X.N NB scope μ = true) (hg : DGB X scope NB μ tg gt)
    (ht : ∀ s H C ex, DTs (blockOf X s H scope C NB ex) ifs ft) (he : ∀ s H C ex, DE (blockOf X s H scope C NB ex) (fun _ _ => False) true elt fe)
    (hsw : swapsWith (.ListComp elt [⟨tg, iter, ifs, 0⟩] scope pos) (some (.Name x px)) spos.line X.env = pure true := by rfl) (hs : ∀ x, foldedSetIterable iter X.env x = pure x := by intro _; rfl) (hf : X.fn x = true ∨ X.env.scope.names.lookup x = some .local := by first | exact .inl rfl | exact .inr rfl | assumption) :
    DS X WX (.Assign [.Name x px] (.ListComp elt [⟨tg, iter, ifs, 0⟩] scope pos) spos) (fun ρ => ((fi ρ).bind fun ds => if ds.length ≤ 1000 then compR (compM gt ft fe ds (muRho μ ρ)) else .bad).bind fun d => .ok (.next (ρ.set i (some (.val d))))) := by
  obtain ⟨wi, i1, i2⟩ := hi
  obtain ⟨gg, g1, gk, g2⟩ := hg
  refine ⟨_, ps_setC hN hiN hx hc i1 hsc hmu gk (fun s H C ex => ⟨g1 s H C ex, (Classical.choose_spec (ht s H C ex)).1, (Classical.choose_spec (he s H C ex)).1⟩) hsw hs hf, fun P0 P σ H Z ρ E h => ?_⟩
  refine comp_D (c := true) i2 g2 (fun s H' C ex P0 P σ H Q ρ E h => (Classical.choose_spec (ht s H' C ex)).2 P0 P σ H Q ρ E h) (fun s H' C ex P0 P σ H Q ρ E h => (Classical.choose_spec (he s H' C ex)).2 P0 P σ H Q ρ E h) E ?_
  dsimp only at h
  revert h
  cases ((fi ρ).bind fun ds => if ds.length ≤ 1000 then compR (compM gt ft fe ds (muRho μ ρ)) else .bad) with
  | bad => exact fun h => h
  | ex y => exact fun h H' s => h H' P (E.tr s)
  | ok d => exact fun h v H' s hv => h _ H' P (E.tr s) ((E.same s).setv hv)
end
end L2

set_option Elab.async false
set_option linter.all false
set_option maxRecDepth 100000
namespace L2
open PySem PySem.Spec PyProof.Rows

section
variable {X : Cx} {WX : Str → Hp → Prop} {c : Bool} {P0 P : Addr → Prop} {H : Hp} {σ : St} {ρ : Rho} {a b e k : Expr} {f g : Rho → M D} {te tk : TE} {pos p2 : Pos}
/-! xs[::k], k = -1 -/
/-! min(xs, default=d) -/
def intsD : List D → Option (List Int)
  | [] => some []
  | .int i :: r => (intsD r).map (i :: ·)
  | _ => none
def keyD : D → Option (List Int)
  | .tup ds => intsD ds
  | _ => none
def keysD : List D → Option (List (D × List Int))
  | [] => some []
  | d :: r => (keyD d).bind fun k => (keysD r).map ((d, k) :: ·)
def dMinD (l d : D) : M D := match l with
  | .lst ds => (match keysD ds with | some ks => .ok (match bestA ks with | none => d | some b => b.1) | none => .bad)
  | _ => .bad
theorem hasL_ints {K : PySem.W.Frag} {H : Hp} : ∀ {xs : List V} {ds : List D} {ns : List Int}, HasL K H xs ds → intsD ds = some ns → xs = ns.map V.int
  | _, _, _, .nil, e => by simp only [intsD] at e; cases e; rfl
  | _, _, _, .cons (d := d) h t, e => by
    cases d with
    | int i =>
      simp only [intsD] at e
      cases q : intsD _ with
      | none => rw [q] at e; cases e
      | some ns =>
        rw [q] at e
        cases e
        rw [h.int_inv, hasL_ints t q]; rfl
    | _ => simp [intsD] at e
/-- addresses beside data, alike in their keys -/
abbrev Alike (K : PySem.W.Frag) (H : Hp) : List (Addr × List Int) → List (D × List Int) → Prop := Paired fun p q => p.2 = q.2 ∧ Has K H (.ref p.1) q.1
theorem keys_alike {K : PySem.W.Frag} {H : Hp} : ∀ {xs : List V} {ds : List D} {ks : List (D × List Int)}, HasL K H xs ds → keysD ds = some ks → ∃ bs : List (Addr × List Int), xs = bs.map (fun b => V.ref b.1) ∧ (∀ b ∈ bs, SqT K H b.1 (b.2.map V.int)) ∧ Alike K H bs ks
  | _, _, _, .nil, e => by simp only [keysD] at e; cases e; exact ⟨[], rfl, by simp, .nil⟩
  | _, _, _, .cons (d := d) h t, e => by
    simp only [keysD] at e
    cases q : keyD d with
    | none => rw [q] at e; cases e
    | some k =>
      rw [q] at e
      simp only [Option.bind_some] at e
      cases q2 : keysD _ with
      | none => rw [q2] at e; cases e
      | some ks =>
        rw [q2] at e
        cases e
        obtain ⟨bs, h1, h2, h3⟩ := keys_alike t q2
        cases d with
        | tup es =>
          have h' := h
          cases h with
          | @tup a xs _ hs hl =>
            simp only [keyD] at q
            have e1 := hasL_ints hl q
            subst e1
            refine ⟨(a, k) :: bs, by rw [h1]; rfl, fun b hb => ?_, .cons ⟨rfl, h'⟩ h3⟩
            rcases List.mem_cons.mp hb with z | z
            · subst z; exact hs
            · exact h2 b z
        | _ => simp [keyD] at q
theorem best_alike {K : PySem.W.Frag} {H : Hp} {bs : List (Addr × List Int)} {ks : List (D × List Int)} (h : Alike K H bs ks) : (bestA bs = none ∧ bestA ks = none) ∨ ∃ b k, bestA bs = some b ∧ bestA ks = some k ∧ b.2 = k.2 ∧ Has K H (.ref b.1) k.1 := by
  unfold bestA
  suffices z : ∀ (o : Option (Addr × List Int)) (o' : Option (D × List Int)), ((o = none ∧ o' = none) ∨ ∃ b k, o = some b ∧ o' = some k ∧ b.2 = k.2 ∧ Has K H (.ref b.1) k.1) →
      ((bs.foldl bstep o = none ∧ ks.foldl bstep o' = none) ∨
        ∃ b k, bs.foldl bstep o = some b ∧ ks.foldl bstep o' = some k ∧ b.2 = k.2 ∧ Has K H (.ref b.1) k.1) from z none none (.inl ⟨rfl, rfl⟩)
  induction h with
  | nil => intro o o' h; exact h
  | @cons b k bs ks hh t ih =>
    intro o o' h
    rw [List.foldl_cons, List.foldl_cons]
    refine ih _ _ ?_
    rcases h with ⟨rfl, rfl⟩ | ⟨b', k', rfl, rfl, e1, e2⟩
    · exact .inr ⟨b, k, rfl, rfl, hh⟩
    · unfold bstep
      dsimp only
      rw [hh.1, e1]
      by_cases hl : HT.lexLt k.2 k'.2 = true
      · rw [if_pos hl, if_pos hl]; exact .inr ⟨b, k, rfl, rfl, hh⟩
      · rw [if_neg hl, if_neg hl]; exact .inr ⟨b', k', rfl, rfl, e1, e2⟩
theorem de_minD {p kp : Pos} {e2 : Expr} (hc : X.calm = true) (hu : X.A.units + 1 < cLine) (hg : Gl X "min") (hm : X.mg "min" = none) (ha : DE X WX c e f) (hb : DE X WX c e2 g)
    (hst : starEach [e] X.env = [(false, eval e X.env)] := by rfl) (hall : (backToKw pos (keywordEach [⟨some "default", e2, kp⟩] X.env)).all (·.1.isSome) = true := by rfl) (hks : (backToKw pos (keywordEach [⟨some "default", e2, kp⟩] X.env)).filterMap (·.1) = ([("default" : Str)] : List Str) := by rfl)
    (hkw : (backToKw pos (keywordEach [⟨some "default", e2, kp⟩] X.env)).any (·.1.isNone) = false := by rfl) (heq : backTo pos (starEach [e] X.env) = (false, eval e X.env) :: backTo pos (starEach [] X.env) := by rfl) (hpl : (backTo pos (starEach [e] X.env)).any (·.1) = false := by rfl) :
    DE X WX c (.Call (.Name "min" p) [e] [⟨some "default", e2, kp⟩] pos) (fun ρ => (f ρ).bind fun x => (g ρ).bind fun y => dMinD x y) := by
  obtain ⟨ta, a1, a2⟩ := ha
  obtain ⟨tb, b1, b2⟩ := hb
  refine ⟨_, pe_minD hc hu hg hm a1 b1 hst hall hks hkw heq hpl, fun P0 P σ H Q ρ E h => bin_D (r := fun x d H2 Q => ∃ (a : Addr) (bs : List (Addr × List Int)), x = .ref a ∧ SqL X.K H2 a (bs.map fun b => V.ref b.1) ∧ (∀ b ∈ bs, SqT X.K H2 b.1 (b.2.map V.int)) ∧ Q (match bestA bs with | none => d | some b => .ref b.1) H2) a2 b2 ?_ E h⟩
  intro P H x y v w Q ht hx hy h
  unfold dMinD at h
  split at h
  · rename_i ds
    split at h
    · rename_i ks e1
      cases hx with
      | @lst a xs _ hs hl =>
        obtain ⟨bs, rfl, h2, h3⟩ := keys_alike hl e1
        refine ⟨a, bs, rfl, hs.undel, fun b hb => (h2 b hb).undel, ?_⟩
        rcases best_alike h3 with ⟨q1, q2⟩ | ⟨b, k, q1, q2, _, q3⟩
        · rw [q1]
          rw [q2] at h
          exact h _ H (Same.refl H) hy
        · rw [q1]
          rw [q2] at h
          exact h _ H (Same.refl H) q3
    · exact h.elim
  · exact h.elim
/-! an item of one's own list is clean -/
def ixOwn (i : Nat) (ρ : Rho) (y : D) : M D := match ρ[i]? with
  | some (some (.own ds)) => dIx (.lst ds) y
  | some (some (.val d)) => dIx d y
  | some (some (.ow (.anc _ ds))) => dIx (.lst ds) y
  | _ => .bad
theorem de_ixO (i : Nat) {x : Str} {p1 : Pos} (hv : PE X (.Name x p1) (tVar i)) (hb : DE X WX true b g) (hs : PlainIx b := by exact fun _ _ => rfl) : DE X WX true (.Subscript (.Name x p1) b pos) (fun ρ => match ρ[i]? with | some (some _) => (g ρ).bind (ixOwn i ρ) | _ => .bad) := by
  obtain ⟨tb, b1, b2⟩ := hb
  refine ⟨_, pe_ix (ix_list.or ix_tup) hv b1 hs, fun P0 P σ H Q ρ E h => ?_⟩
  dsimp only at h
  split at h
  · rename_i cl e0
    have hx : ∃ v, σ[i]? = some (some v) := by
      cases cl with
      | val d => obtain ⟨v, h1, _⟩ := E.val i d e0; exact ⟨v, h1⟩
      | own ds => obtain ⟨p, xs, h1, _⟩ := E.own i ds e0; exact ⟨_, h1⟩
      | ow o => obtain ⟨v, fp, h1, _⟩ := E.ows i _ e0 rfl; exact ⟨_, h1⟩
    obtain ⟨v, hv1⟩ := hx
    refine ⟨v, hv1, b2 P0 P σ H _ ρ E ?_⟩
    cases q : g ρ with
    | bad => rw [q] at h; exact h
    | ex x => rw [q] at h; exact h
    | ok y =>
      rw [q] at h
      simp only [M.bind_ok] at h
      unfold ixOwn at h
      intro w H1 s1 hw
      have E1 := E.same s1
      cases cl with
      | ow o =>
        cases o with
        | rows dss => rw [e0] at h; exact h.elim
        | anc p ds =>
          rw [e0] at h
          dsimp only at h
          obtain ⟨v', fp, h1, ⟨xs, rfl, rfl, h2, h5⟩, h4, _⟩ := E1.ows i _ e0 rfl
          rw [hv1] at h1
          cases h1
          unfold dIx at h
          split at h
          · rename_i ds' i' heq
            cases heq
          · rename_i ds' j heq
            cases heq
            split at h
            · rename_i d e
              obtain ⟨u, k1, k2⟩ := h5.atI e
              exact .inl ⟨p, xs, j, u, rfl, hw.int_inv, .of h2, k1, h _ H1 s1 k2⟩
            · exact h.elim
          · exact h.elim
      | val d =>
        rw [e0] at h
        dsimp only at h
        obtain ⟨v', h1, h2⟩ := E1.val i d e0
        rw [hv1] at h1
        cases h1
        exact opd_ix (WX := WX) P H1 d y v w Q E1.trk h2 hw (h.same s1)
      | own ds =>
        rw [e0] at h
        dsimp only at h
        obtain ⟨p, xs, h1, h2, h3, h4, h5⟩ := E1.own i ds e0
        rw [hv1] at h1
        cases h1
        unfold dIx at h
        split at h
        · rename_i ds' i' heq
          cases heq
        · rename_i ds' j heq
          cases heq
          split at h
          · rename_i d e
            obtain ⟨u, k1, k2⟩ := h5.atI e
            exact .inl ⟨p, xs, j, u, rfl, hw.int_inv, .of h2, k1, h _ H1 s1 k2⟩
          · exact h.elim
        · exact h.elim
  · exact h.elim
end
end L2

set_option Elab.async false
set_option linter.all false
set_option maxRecDepth 100000
namespace L2
open PySem PySem.Spec PyProof.Rows

theorem huR {A : Around} {k : Nat} (hr : Room k A) (n : Nat) (hn : n ≤ 64) : A.units + n < cLine := by have := hr.units; omega
/-- a def of the text, as it stands behind the top -/
structure FunAt (K : PySem.W.Frag) (mg : Str → Option Value) (x : Str) (st : Stmt) (ps : List Str) : Prop where
  ex : ∃ f fd, Fun K x x st f fd ∧ mg x = some (.ref f) ∧ Binds K fd ps []
/-- .. and what it is worth -/
structure FnAt (P : Program) (w : World) (K : PySem.W.Frag) (mg : Str → Option Value) (base : Heap) (x : Str) (k n : Nat) (F : List D → M D) : Prop where
  ex : ∃ fa fd ps, FnOk P w K mg base CX0 k fa fd ps (spM0 K n F) ∧ mg x = some (.ref fa) ∧ PySem.W.keepIn K (.ref fa) = true ∧ Binds K fd ps []
  ne : ∀ ds c, F ds ≠ .ex c
theorem fnAt_of {P : Program} {w : World} {K : PySem.W.Frag} {mg : Str → Option Value} {base : Heap} {x : Str} {st : Stmt} {N ps : List Str} {k n : Nat} (T : FunAt K mg x st ps) (S : FnScope N ps (defScope st)) (g : Rho → M Out)
    (hb : ∀ (f : Addr) (cdv : Value) (A : Around) (outer : List Env) (s : Shared) (H : Hp) (E : XK), Room k (A.deeper (envOfC x (defScope st) s.heap.objs.size f cdv)) → DSs (cxOf CX0 P w K mg base N x (defScope st) f cdv A outer s H E).nox (fun _ _ => False) (defBody st) g) (hn : ps.length = n := by rfl) :
    FnAt P w K mg base x (k + 1) n (fun ds => fin (g (stRho N ds))) := by
  obtain ⟨f, fd, F, hm, hB⟩ := T.ex
  subst hn
  exact ⟨⟨f, fd, ps, fn_D0 F S g (hb f), hm, F.kp, hB⟩, fun ds c => fin_ne _ c⟩
section
variable {X : Cx} {WX : Str → Hp → Prop} {c : Bool} {e : Expr} {es : List Expr} {fs : Rho → M (List D)} {pos : Pos}
theorem de_callA {k n : Nat} {F : List D → M D} {x : Str} {p : Pos} (G : FnAt X.prog X.w X.K X.mg X.base x k n F) (hr : Room k X.A) (hg : Gl X x) (ha : DA X WX c (e :: es) fs) (hn : (e :: es).length = n)
    (hdb : (x == ("__debug__" : Str)) = false := by decide) (he : starEach (e :: es) X.env = (false, eval e X.env) :: starEach es X.env := by rfl) (hpl : (backTo pos (starEach es X.env)).any (·.1) = false := by rfl) :
    DE X WX c (.Call (.Name x p) (e :: es) [] pos) (fun ρ => (fs ρ).bind F) := by
  obtain ⟨fa, fd, ps, hF, hm, hk, hb⟩ := G.ex
  exact de_call (E := E0) hF G.ne hr hg hm hk hb pass0 ha hn hdb he hpl
end
end L2

set_option Elab.async false
set_option linter.all false
set_option maxRecDepth 100000
namespace L2
open PySem PySem.Spec PyProof.Rows

/-! ### reckoning with worths -/
theorem fin_for {gt : D → Rho → M Rho} {gb : Rho → M Out} {ds : List D} {ρ : Rho} {k : Rho → M Out} {r : M D} (I : Nat → Rho → Prop) (h0 : I 0 ρ)
    (step : ∀ i d ρ, ds[i]? = some d → I i ρ → ∃ ρ1 ρ2, gt d ρ = .ok ρ1 ∧ gb ρ1 = .ok (.next ρ2) ∧ I (i + 1) ρ2) (hk : ∀ ρ', I ds.length ρ' → fin (k ρ') = r) : fin (seqM (forM gt gb ds ρ) k) = r := by
  have key : ∀ (n i : Nat) (ρ : Rho), i + n = ds.length → I i ρ → ∃ ρ', forM gt gb (ds.drop i) ρ = .ok (.next ρ') ∧ I ds.length ρ' := by
    intro n
    induction n with
    | zero =>
      intro i ρ hi h
      have e : i = ds.length := by omega
      subst e
      exact ⟨ρ, by rw [List.drop_length, forM], h⟩
    | succ n ih =>
      intro i ρ hi h
      have hlt : i < ds.length := by omega
      obtain ⟨ρ1, ρ2, h1, h2, h3⟩ := step i ds[i] ρ (List.getElem?_eq_getElem hlt) h
      obtain ⟨ρ', h4, h5⟩ := ih (i + 1) ρ2 (by omega) h3
      refine ⟨ρ', ?_, h5⟩
      rw [drop_get hlt, forM, h1]
      dsimp only
      rw [h2]
      exact h4
  obtain ⟨ρ', h1, h2⟩ := key ds.length 0 ρ (by omega) h0
  rw [List.drop_zero] at h1
  rw [h1, seqM_next]
  exact hk ρ' h2
end L2

set_option Elab.async false
set_option linter.all false
set_option maxRecDepth 100000
namespace L2
open PySem PySem.Spec PyProof.Rows

theorem ObjOk.there {P : Program} {w : World} {H : Hp} {h : Heap} {a : Addr} {o : HO} (x : ObjOk P w H h a o) : ∃ ob, h.get? a = some ob := by
  cases o with
  | lst xs => obtain ⟨_, _, _, _, e⟩ := x; exact ⟨_, e⟩
  | tup xs => obtain ⟨_, _, _, o, e, _⟩ := x; exact ⟨o, e⟩
  | dK kvs => obtain ⟨_, _, _, _, o, _, _, e, _⟩ := x; exact ⟨_, e⟩
  | dT kvs => obtain ⟨_, _, _, _, o, _, _, e, _⟩ := x; exact ⟨_, e⟩
  | set S n => obtain ⟨o, _, _, _, e, _⟩ := x; exact ⟨_, e⟩
  | ins C dx fs => obtain ⟨_, _, _, e, _⟩ := x; exact ⟨_, e⟩
  | own y => obtain ⟨_, e⟩ := x; exact ⟨_, e⟩
  | xd fs => obtain ⟨_, ⟨_, _, _, e, _⟩, _⟩ := x; exact ⟨_, e⟩
  | rng lo hi => obtain ⟨_, _, _, e⟩ := x; exact ⟨_, e⟩
  | frz ob u => obtain ⟨e, _⟩ := x; exact ⟨_, e⟩
  | tbl ps => exact ⟨_, (show h.get? a = some _ from x)⟩
  | met f y => exact ⟨_, (show h.get? a = some _ from x)⟩
  | ext φ => obtain ⟨_, ⟨_, e⟩, _⟩ := x; exact ⟨_, e⟩
section
variable {P : Program} {w : World} {K : PySem.W.Frag} {mg : Str → Option Value} {base : Heap} {N : List Str} {qual : Str} {scope : Scope} {f : Addr} {cd : Value} {A : Around} {outer : List Env} {s : Shared} {H : Hp} {E : XK}
end
end L2

set_option Elab.async false
set_option linter.all false
set_option maxRecDepth 100000
namespace L2
open PySem PySem.Spec PyProof.Rows

section
variable {P : Program} {w : World} {K : PySem.W.Frag} {mg : Str → Option Value} {base : Heap}
end
section
variable {X : Cx} {E : XK} {WX : Str → Hp → Prop} {c : Bool} {e : Expr} {es : List Expr} {fs : Rho → M (List D)} {f : Rho → M D} {ft : Rho → M Bool} {pos : Pos}
/-! raise -/
end
end L2

set_option Elab.async false
set_option linter.all false
set_option maxRecDepth 100000
namespace L2
open PySem PySem.Spec PySem.Calls PyProof.Rows PySem.W PySem.Builtin PySem.Builtin.ObjectAttr PySem.Builtin.Getset_descriptor
/-! ### exceptions as objects: `isinstance(e, C)`, `except C` -/
section
variable {K : Frag} {x D : Addr} {name : Str}
variable {prog : Program} {w : World} {A : Around} {E : Value → Shared → Prop} {s : Shared}
end
/-! isinstance(e, C) of an exception -/
section
variable {X : Cx} {WX : Str → Hp → Prop} {c : Bool} {e : Expr} {f : Rho → M D} {pos p : Pos}
end
/-! `except C`, C an own class -/
end L2

set_option Elab.async false
set_option linter.all false
set_option maxRecDepth 100000
namespace L2
open PySem PySem.Spec PyProof.Rows
/-! ### try: .. except C as e: .. -/
section
variable {X : Cx} {pins pins' : List (Addr × Obj)} {σ : St} {H0 H1 H : Hp} {s s0 s1 : Shared} {h4 : Heap} {ea T c : Addr}
theorem EnvP.drop {K : PySem.W.Frag} {P0 P : Addr → Prop} {ρ : Rho} (E : EnvP K P0 P H σ ρ) (i : Nat) : EnvP K P0 P H (σ.set i none) (ρ.set i none) := by
  have key : ∀ (j : Nat) (cl : Cl), (ρ.set i none)[j]? = some (some cl) → i ≠ j ∧ ρ[j]? = some (some cl) := fun j cl h => by
    rcases get_set h with ⟨_, _, z⟩ | z
    · cases z
    · exact z
  refine ⟨E.sub, E.trk, fun j d h => ?_, fun j ds h io => ?_, fun j k c c' v v' fp fp' h1 h2 h3 h4 h5 h6 hne => ?_, by simpa using E.len⟩
  · obtain ⟨n, h⟩ := key j _ h
    rw [List.getElem?_set_ne n]
    exact E.val j d h
  · obtain ⟨n, h⟩ := key j _ h
    rw [List.getElem?_set_ne n]
    exact E.ows j ds h io
  · obtain ⟨n1, h1⟩ := key j _ h1
    obtain ⟨n2, h2⟩ := key k _ h2
    rw [List.getElem?_set_ne n1] at h3
    rw [List.getElem?_set_ne n2] at h4
    exact E.apart j k c c' v v' fp fp' h1 h2 h3 h4 h5 h6 hne
end
end L2

set_option Elab.async false
set_option linter.all false
set_option maxRecDepth 100000
namespace L2
open PySem PySem.Spec PyProof.Rows
section
variable {X : Cx} {WX : Str → Hp → Prop} {c : Bool} {a b e : Expr} {f g : Rho → M D} {pos p : Pos}
/-! list + list -/
def rCatS (K : PySem.W.Frag) : R2 := fun x y H Q => ∃ l b xs zs, x = .ref l ∧ y = .ref b ∧ SqL K H l xs ∧ SqL K H b zs ∧ xs.length + zs.length ≤ sizeLine ∧ ∀ p, H p = none → Q (.ref p) (upd H p (.lst (xs ++ zs)))
theorem op_catS : OpR X (binaryOp .Add) (rCatS X.K) := by
  intro pins s σ H x y v u Q I rx ry h
  obtain ⟨l, b, xs, zs, rfl, rfl, h1, h2, hz, q⟩ := h
  cases rx
  cases ry
  obtain ⟨its, r, ⟨⟨c1, d1, t1, sl1⟩, n, e1, q1, q2, q3⟩, hz1⟩ := I.list h1
  obtain ⟨its2, r2, ⟨⟨c2, d2, t2, sl2⟩, n2, e2, q4, q5, q6⟩, hz2⟩ := I.list h2
  dsimp only at q1 q2 q3 q4 q5 q6
  subst q1 q2 q3 q4 q5 q6
  have l1 := r.length
  have l2 := r2.length
  refine concat_meets ⟨_, e1, rfl⟩ ⟨_, e2, rfl⟩ noFill_list_add seq_list_add PySem.F.slot_list_add PySem.F.entry_list_add (PySem.F.args_list_add_2 _ _) (list_addW l b its.toArray its2.toArray n n2 none none sl1 sl2 (by rw [List.size_toArray, List.size_toArray]; omega)) ⟨e1, e2, ?_⟩
  rw [show its.toArray ++ its2.toArray = (its ++ its2).toArray by simp]
  exact ⟨.ref _, _, I.lnew (t' := s.toks) (r.append r2) (by rw [List.length_append]; omega), rfl, q _ I.fresh⟩
def dPlus (x y : D) : M D := match x, y with
  | .int i, .int j => .ok (.int (i + j))
  | .lst ds, .lst es => if ds.length + es.length ≤ 1000 then .ok (.lst (ds ++ es)) else .bad
  | _, _ => .bad
theorem HasL.app {K : PySem.W.Frag} {H : Hp} : ∀ {xs ys : List V} {ds es : List D}, HasL K H xs ds → HasL K H ys es → HasL K H (xs ++ ys) (ds ++ es)
  | _, _, _, _, .nil, h => h
  | _, _, _, _, .cons a t, h => .cons a (t.app h)
theorem opd_plus : OpD X.K WX (fun x y H Q => rI0 (fun i j => .int (i + j)) x y H Q ∨ rCatS X.K x y H Q) dPlus := by
  intro P H x y v w Q ht hx hy h
  unfold dPlus at h
  split at h
  · rename_i i j
    rw [hx.int_inv, hy.int_inv]
    exact .inl ⟨i, j, rfl, rfl, h _ H (Same.refl H) (.int _)⟩
  · rename_i ds es
    by_cases hl : ds.length + es.length ≤ 1000
    · rw [if_pos hl] at h
      cases hx with
      | lst h1 h2 =>
        cases hy with
        | lst h3 h4 =>
          refine .inr ⟨_, _, _, _, rfl, rfl, h1.undel, h3.undel, Nat.le_of_lt (small1000 (by rw [h2.length, h4.length]; exact hl)), fun p hp => h _ _ (same_new hp _) (.lst (.of (new_del hp ht)) ((h2.app h4).mono (same_new hp _).del))⟩
    · rw [if_neg hl] at h; exact h.elim
  · exact h.elim
theorem de_plus (ha : DE X WX c a f) (hb : DE X WX c b g) : DE X WX c (.BinOp a .Add b pos) (fun ρ => (f ρ).bind fun x => (g ρ).bind fun y => dPlus x y) := de_op (op_add.or op_catS) opd_plus ha hb
/-! in, not in: a list of ints -/
end
/-! own exception classes of the text -/
def one (x : Str) (b : Bool) : Str → Option Bool := fun y => if y = x then some b else none
section
variable {X : Cx} {E : XK} {WX : Str → Hp → Prop} {c : Bool} {e : Expr} {f : Rho → M D} {pos p : Pos}
end
end L2

set_option Elab.async false
set_option linter.all false
set_option maxRecDepth 100000
namespace L2
open PySem PySem.Spec PyProof.Rows
/-- a product of numbers that are not too long -/
def CMulB (i j : Int) : Prop := (i.natAbs < 2 ^ 1000 ∧ j.natAbs < 2 ^ 1000) ∨ CMul i j
instance (i j : Int) : Decidable (CMulB i j) := by unfold CMulB; infer_instance
theorem bits_1000 {i : Int} (h : i.natAbs < 2 ^ 1000) : Builtin.Int.intBits i ≤ 2 ^ 20 := by
  unfold Builtin.Int.intBits
  split
  · exact Nat.zero_le _
  · rename_i z
    have h0 : i.natAbs ≠ 0 := fun q => z (by rw [Int.natAbs_eq_zero.mp q]; rfl)
    have := (Nat.log2_lt h0).mpr h
    have h3 : (1000 : Nat) ≤ 2 ^ 20 := by decide
    exact Nat.le_trans this h3
theorem CMulB.ok {i j : Int} (h : CMulB i j) : IntMulOk i j := by
  rcases h with ⟨h1, h2⟩ | h
  · exact IntMulOk.of_bits (bits_1000 h1) (bits_1000 h2)
  · exact h.ok
/-- fin_for, for any word about the end -/
theorem fin_forE {gt : D → Rho → M Rho} {gb : Rho → M Out} {ds : List D} {ρ : Rho} {k : Rho → M Out} (R : M D → Prop) (I : Nat → Rho → Prop) (h0 : I 0 ρ)
    (step : ∀ i d ρ, ds[i]? = some d → I i ρ → ∃ ρ1 ρ2, gt d ρ = .ok ρ1 ∧ gb ρ1 = .ok (.next ρ2) ∧ I (i + 1) ρ2) (hk : ∀ ρ', I ds.length ρ' → R (fin (k ρ'))) : R (fin (seqM (forM gt gb ds ρ) k)) := by
  have key : ∀ (n i : Nat) (ρ : Rho), i + n = ds.length → I i ρ → ∃ ρ', forM gt gb (ds.drop i) ρ = .ok (.next ρ') ∧ I ds.length ρ' := by
    intro n
    induction n with
    | zero =>
      intro i ρ hi h
      have e : i = ds.length := by omega
      subst e
      exact ⟨ρ, by rw [List.drop_length, forM], h⟩
    | succ n ih =>
      intro i ρ hi h
      have hlt : i < ds.length := by omega
      obtain ⟨ρ1, ρ2, h1, h2, h3⟩ := step i ds[i] ρ (List.getElem?_eq_getElem hlt) h
      obtain ⟨ρ', h4, h5⟩ := ih (i + 1) ρ2 (by omega) h3
      refine ⟨ρ', ?_, h5⟩
      rw [drop_get hlt, forM, h1]
      dsimp only
      rw [h2]
      exact h4
  obtain ⟨ρ', h1, h2⟩ := key ds.length 0 ρ (by omega) h0
  rw [List.drop_zero] at h1
  rw [h1, seqM_next]
  exact hk ρ' h2
theorem fin_seq {m : M Out} {k : Rho → M Out} {ρ : Rho} {r : M D} (h : m = .ok (.next ρ)) (hk : fin (k ρ) = r) : fin (seqM m k) = r := by
  rw [h]
  exact hk
theorem fin_ret {m : M D} {d : D} {r : M D} (h : m = .ok d) (hk : .ok d = r) : fin (m.bind fun d => .ok (.ret d)) = r := by
  rw [h]
  exact hk
theorem compM_filter {gt : D → Rho → M Rho} {ft : Rho → M Bool} {fe : Rho → M D} {ρ : Rho} (p : D → Bool) (f : D → D) : ∀ (ds : List D), (∀ d ∈ ds, ∃ ρ1, gt d ρ = .ok ρ1 ∧ ft ρ1 = .ok (p d) ∧ (p d = true → fe ρ1 = .ok (f d))) → compM gt ft fe ds ρ = .ok ((ds.filter p).map f)
  | [], _ => rfl
  | d :: r, h => by
    obtain ⟨ρ1, h1, h2, h3⟩ := h d List.mem_cons_self
    have ih := compM_filter p f r fun d hd => h d (List.mem_cons_of_mem _ hd)
    rw [compM, h1]
    dsimp only
    rw [h2]
    dsimp only
    by_cases hp : p d = true
    · rw [if_pos hp, h3 hp]
      dsimp only
      rw [ih, List.filter_cons_of_pos hp]
      rfl
    · rw [if_neg hp, ih, List.filter_cons_of_neg hp]
theorem rangeD_map (n : Nat) : rangeD 0 n = (List.range n).map fun i : Nat => D.int (i : Int) := by
  apply List.ext_getElem?
  intro i
  rw [List.getElem?_map]
  by_cases h : i < n
  · have hi : i < (rangeD 0 n).length := by rw [rangeD_len]; exact h
    have e := List.getElem?_eq_getElem hi
    obtain ⟨h1, _⟩ := rangeD_get e
    rw [e, h1, List.getElem?_range h, Int.zero_add]
    rfl
  · rw [List.getElem?_eq_none (by rw [rangeD_len]; omega), List.getElem?_eq_none (by simp; omega)]
    rfl
end L2

set_option Elab.async false
set_option linter.all false
set_option maxRecDepth 100000
namespace L2
open PySem PySem.Spec PyProof.Rows

/-! ### plain data: how deep, and no exception within -/
def Pl (n : Nat) (d : D) : Prop := dep d ≤ n ∧ noX d = true
theorem deps_le {n : Nat} : ∀ {ds : List D}, (∀ d ∈ ds, dep d ≤ n) → deps ds ≤ n
  | [], _ => by rw [deps]; exact Nat.zero_le _
  | d :: r, h => by
    rw [deps]
    exact Nat.max_le.mpr ⟨h d List.mem_cons_self, deps_le fun d hd => h d (List.mem_cons_of_mem _ hd)⟩
theorem noXs_of : ∀ {ds : List D}, (∀ d ∈ ds, noX d = true) → noXs ds = true
  | [], _ => by rw [noXs]
  | d :: r, h => by
    rw [noXs, h d List.mem_cons_self, noXs_of fun d hd => h d (List.mem_cons_of_mem _ hd)]
    rfl
theorem pl_int {n : Nat} (i : Int) : Pl n (.int i) := ⟨by rw [dep]; exact Nat.zero_le _; all_goals simp, by rw [noX]; all_goals simp⟩
theorem pl_non {n : Nat} : Pl n .non := ⟨by rw [dep]; exact Nat.zero_le _; all_goals simp, by rw [noX]; all_goals simp⟩
theorem pl_bl {n : Nat} (b : Bool) : Pl n (.bl b) := ⟨by rw [dep]; exact Nat.zero_le _; all_goals simp, by rw [noX]; all_goals simp⟩
theorem pl_tup {n : Nat} {ds : List D} (h : ∀ d ∈ ds, Pl n d) : Pl (n + 1) (.tup ds) :=
  ⟨by rw [dep]; exact Nat.succ_le_succ (deps_le fun d hd => (h d hd).1), by rw [noX]; exact noXs_of fun d hd => (h d hd).2⟩
theorem pl_lst {n : Nat} {ds : List D} (h : ∀ d ∈ ds, Pl n d) : Pl (n + 1) (.lst ds) :=
  ⟨by rw [dep]; exact Nat.succ_le_succ (deps_le fun d hd => (h d hd).1), by rw [noX]; exact noXs_of fun d hd => (h d hd).2⟩
theorem Pl.le {n m : Nat} {d : D} (h : Pl n d) (k : n ≤ m) : Pl m d := ⟨Nat.le_trans h.1 k, h.2⟩
theorem pl_nil {n : Nat} : ∀ d ∈ ([] : List D), Pl n d := fun d h => by cases h
theorem pl_cons {n : Nat} {d : D} {ds : List D} (h : Pl n d) (t : ∀ d ∈ ds, Pl n d) : ∀ e ∈ d :: ds, Pl n e := fun e he => by
  rcases List.mem_cons.mp he with rfl | he
  · exact h
  · exact t e he
theorem dEq_pl {n : Nat} {x y : D} (h : Pl n x) (k : Pl n y) : dEq n x y = .ok (.bl (eqD x y)) := by
  unfold dEq
  rw [if_pos ⟨h.1, h.2, k.2⟩]
theorem dNe_pl {n : Nat} {x y : D} (h : Pl n x) (k : Pl n y) : dNe n x y = .ok (.bl (!eqD x y)) := by
  unfold dNe
  rw [if_pos ⟨h.1, h.2, k.2⟩]
theorem dEq_same {n : Nat} {x : D} (h : Pl n x) : dEq n x x = .ok (.bl true) := by rw [dEq_pl h h, eqD_refl]
theorem dNe_same {n : Nat} {x : D} (h : Pl n x) : dNe n x x = .ok (.bl false) := by rw [dNe_pl h h, eqD_refl]; rfl
theorem compM_all {gt : D → Rho → M Rho} {ft : Rho → M Bool} {fe : Rho → M D} {ρ : Rho} (f : D → D) (ds : List D) (h : ∀ d ∈ ds, ∃ ρ1, gt d ρ = .ok ρ1 ∧ ft ρ1 = .ok true ∧ fe ρ1 = .ok (f d)) : compM gt ft fe ds ρ = .ok (ds.map f) := by
  rw [compM_filter (fun _ => true) f ds fun d hd => by
    obtain ⟨ρ1, h1, h2, h3⟩ := h d hd
    exact ⟨ρ1, h1, h2, fun _ => h3⟩]
  rw [List.filter_eq_self.mpr fun _ _ => rfl]
theorem dSl_mid (ds : List D) (a b : Nat) : dSl (some (a : Int)) (some (b : Int)) (.lst ds) = .ok (.lst ((ds.drop a).take (b - a))) := by
  unfold dSl
  dsimp only
  rw [HT.sIx_nat, HT.sIx_nat]
  congr 2
  by_cases h : a ≤ ds.length
  · rw [Nat.min_eq_left h]
    by_cases h2 : b ≤ ds.length
    · rw [Nat.min_eq_left h2]
    · rw [Nat.min_eq_right (by omega), List.take_of_length_le (by rw [List.length_drop]; exact Nat.le_refl _), List.take_of_length_le (by rw [List.length_drop]; omega)]
  · rw [Nat.min_eq_right (show ds.length ≤ a by omega), List.drop_of_length_le (Nat.le_refl _), List.drop_of_length_le (show ds.length ≤ a by omega), List.take_nil, List.take_nil]
end L2

set_option Elab.async false
set_option linter.all false
set_option maxRecDepth 100000
namespace L2
open PySem PySem.Spec PyProof.Rows

section
variable {X : Cx} {WX : Str → Hp → Prop} {c : Bool} {P0 P : Addr → Prop} {H : Hp} {σ : St} {ρ : Rho} {a b e : Expr} {f g : Rho → M D} {ft gt : Rho → M Bool} {pos : Pos} {st : Stmt} {rest : List Stmt} {g1 g2 : Rho → M Out}
theorem hasL_rep {K : PySem.W.Frag} {H : Hp} {v : V} {d : D} (h : Has K H v d) : ∀ n : Nat, HasL K H (List.replicate n v) (List.replicate n d)
  | 0 => .nil
  | n + 1 => by rw [List.replicate_succ, List.replicate_succ]; exact .cons h (hasL_rep h n)
theorem hasL_set {K : PySem.W.Frag} {H : Hp} {v : V} {d : D} (h : Has K H v d) : ∀ {vs : List V} {ds : List D} (n : Nat), HasL K H vs ds → HasL K H (vs.set n v) (ds.set n d)
  | _, _, _, .nil => .nil
  | _, _, 0, .cons _ t => .cons h t
  | _, _, n + 1, .cons a t => .cons a (hasL_set h n t)
/-- name = [e] * n, a list of one's own -/
def repM (i : Nat) (ρ : Rho) (d k : D) : M Out := match k with
  | .int j => if 0 ≤ j ∧ j.toNat ≤ 1000 then .ok (.next (ρ.set i (some (.own (List.replicate j.toNat d))))) else .bad
  | _ => .bad
theorem flat_rep1 {α : Type} (v : α) : ∀ n : Nat, (List.replicate n [v]).flatten = List.replicate n v
  | 0 => rfl
  | n + 1 => by rw [List.replicate_succ, List.flatten_cons, flat_rep1 v n]; rfl
theorem ds_rep (i : Nat) {x : Str} {pos' lpos bpos : Pos} (hN : X.N.Nodup) (hi : X.N[i]? = some x) (hx : Loc X.env.scope x) (ha : DE X WX true a f) (hb : DE X WX true b g)
    (hst : starEach [a] X.env = [(false, eval a X.env)] := by rfl) (hs : swapsWith (.BinOp (.List [a] lpos) .Mult b bpos) (some (.Name x pos')) pos.line X.env = pure false := by rfl) (hf : X.fn x = true ∨ X.env.scope.names.lookup x = some .local := by first | exact .inl rfl | exact .inr rfl | assumption) :
    DS X WX (.Assign [.Name x pos'] (.BinOp (.List [a] lpos) .Mult b bpos) pos) (fun ρ => (f ρ).bind fun d => (g ρ).bind fun k => repM i ρ d k) := by
  obtain ⟨ta, a1, a2⟩ := ha
  obtain ⟨tb, b1, b2⟩ := hb
  refine ⟨_, ps_set hN hi hx (pe_op op_rep (pe_lst (pa_cons a1 pa_nil hst)) b1) hs hf, fun P0 P σ H Z ρ E h => ?_⟩
  dsimp only at h
  refine a2 P0 P σ H _ ρ E ?_
  cases q : f ρ with
  | bad => rw [q] at h; exact h
  | ex x => rw [q] at h; exact fun H' s => h H' P (E.tr s)
  | ok d =>
    rw [q] at h
    simp only [M.bind_ok] at h
    intro v H1 s1 hv
    have E1 := E.same s1
    refine ⟨Nat.le_of_lt (small1000 (by simp)), fun p hp => ?_⟩
    have s2 : Same H1 (upd H1 p (.lst [v])) := same_new hp _
    have E2 := E1.same s2
    refine b2 P0 P σ _ _ ρ E2 ?_
    cases q2 : g ρ with
    | bad => rw [q2] at h; exact h
    | ex x => rw [q2] at h; exact fun H' s3 => h H' P ((E.tr s1).trans ((E1.tr s2).trans (E2.tr s3)))
    | ok k =>
      rw [q2] at h
      simp only [M.bind_ok] at h
      unfold repM at h
      intro w H3 s3 hw
      cases k with
      | int j =>
        dsimp only at h
        by_cases hj : 0 ≤ j ∧ j.toNat ≤ 1000
        · rw [if_pos hj] at h
          cases hw
          have E3 := E2.same s3
          refine ⟨p, j, [v], rfl, rfl, s3 _ _ upd_same, by omega, by omega, Nat.le_of_lt (small1000 (by simp; omega)), fun p2 hp2 => ?_⟩
          rw [flat_rep1]
          obtain ⟨E4, t4⟩ := E3.newo (i := i) hp2 (hasL_rep ((hv.mono s2.del).mono s3.del) j.toNat)
          exact h _ _ _ ((E.tr s1).trans ((E1.tr s2).trans ((E2.tr s3).trans t4))) E4
        · rw [if_neg hj] at h; exact h.elim
      | _ => exact h.elim
/-- name[k] = e of one's own list -/
def putI (i : Nat) (ρ : Rho) (ds : List D) (d k : D) : M Out := match k with
  | .int j => (match ixN ds.length j with | some n => .ok (.next (ρ.set i (some (.own (ds.set n d))))) | none => .bad)
  | _ => .bad
def putA (i : Nat) (ρ : Rho) (p : Addr) (ds : List D) (d k : D) : M Out := match k with
  | .int j => (match ixN ds.length j with | some n => .ok (.next (ρ.set i (some (.ow (.anc p (ds.set n d)))))) | none => .bad)
  | _ => .bad
def putM (i : Nat) (ρ : Rho) (m : M D) (d : D) : M Out := match ρ[i]? with
  | some (some (.own ds)) => m.bind (putI i ρ ds d)
  | some (some (.ow (.anc p ds))) => m.bind (putA i ρ p ds d)
  | _ => .bad
theorem ds_put (i : Nat) {x : Str} {p1 spos : Pos} (hv : PE X (.Name x p1) (tVar i)) (ha : DE X WX true a f) (hk : DE X WX true b g)
    (hs : swapsWithSole [.Subscript (.Name x p1) b spos] a pos.line X.env = pure false := by rfl) (hw : swappedStores [.Subscript (.Name x p1) b spos] a X.env = pure none := by rfl) (h1 : (assignEach [.Subscript (.Name x p1) b spos] X.env).map (·.2) = [assign (.Subscript (.Name x p1) b spos) X.env] := by rfl)
    (hasg : ∀ v, assign (.Subscript (.Name x p1) b spos) X.env v = (do
      let ov ← holding [v] (eval (.Name x p1) X.env)
      let iv ← holding [v, ov] (eval b X.env)
      standAt spos
      holding [v, ov, iv] (setItem ov iv v)
      release [v, ov, iv] []) := by intro _; rfl) :
    DS X WX (.Assign [.Subscript (.Name x p1) b spos] a pos) (fun ρ => (f ρ).bind (putM i ρ (g ρ))) := by
  obtain ⟨ta, a1, a2⟩ := ha
  obtain ⟨tb, b1, b2⟩ := hk
  refine ⟨_, ps_asg a1 (pg_sub hv b1 set_list hasg) hs hw h1, fun P0 P σ H Z ρ E h => ?_⟩
  dsimp only at h
  refine a2 P0 P σ H _ ρ E ?_
  cases q : f ρ with
  | bad => rw [q] at h; exact h
  | ex x => rw [q] at h; exact fun H' s => h H' P (E.tr s)
  | ok d =>
    rw [q] at h
    simp only [M.bind_ok] at h
    intro v H1 s1 hv
    have E1 := E.same s1
    unfold putM at h
    split at h
    · rename_i ds e1
      obtain ⟨p, xs, h1, h2, h3, h4, h5⟩ := E1.own i ds e1
      refine ⟨_, h1, b2 P0 P σ H1 _ ρ E1 ?_⟩
      cases q2 : g ρ with
      | bad => rw [q2] at h; exact h.elim
      | ex x => rw [q2] at h; exact fun H' s2 => h H' P ((E.tr s1).trans (E1.tr s2))
      | ok k =>
        rw [q2] at h
        simp only [M.bind_ok] at h
        unfold putI at h
        intro w H2 s2 hw
        split at h
        · rename_i j
          cases hw
          split at h
          · rename_i n en
            have E2 := E1.same s2
            refine ⟨p, xs, j, n, rfl, rfl, s2 _ _ h2, by rw [h5.length]; exact en, ?_⟩
            obtain ⟨E3, t3⟩ := E2.mut e1 h1 h3 h4 (hasL_set (hv.mono s2.del) n (h5.mono s2.del))
            exact h _ _ _ ((E.tr s1).trans ((E1.tr s2).trans t3)) E3
          · exact h.elim
        · exact h.elim
    · rename_i p ds e1
      obtain ⟨v', fp, h1, o1, h4, nd⟩ := E1.ows i _ e1 rfl
      have oa := o1
      obtain ⟨xs, rfl, rfl, h2, h5⟩ := o1
      have pP := h4 p List.mem_cons_self
      refine ⟨_, h1, b2 P0 P σ H1 _ ρ E1 ?_⟩
      cases q2 : g ρ with
      | bad => rw [q2] at h; exact h.elim
      | ex x => rw [q2] at h; exact fun H' s2 => h H' P ((E.tr s1).trans (E1.tr s2))
      | ok k =>
        rw [q2] at h
        simp only [M.bind_ok] at h
        unfold putA at h
        intro w H2 s2 hw
        split at h
        · rename_i j
          cases hw
          split at h
          · rename_i n en
            have E2 := E1.same s2
            have ob := oa.same s2
            refine ⟨p, xs, j, n, rfl, rfl, s2 _ _ h2, by rw [h5.length]; exact en, ?_⟩
            have sd : del (upd H2 p (.lst (xs.set n v))) P = del H2 P := by
              funext b
              by_cases hb : P b
              · rw [del_in hb, del_in hb]
              · rw [del_of hb, del_of hb, upd_ne (fun z => hb (by rw [z]; exact pP.1))]
            have sm : Same (del H2 P) (del (upd H2 p (.lst (xs.set n v))) P) := by rw [sd]; exact Same.refl _
            have key := E2.putO (P' := P) (H' := upd H2 p (.lst (xs.set n v))) (i := i) (v := .ref p) (c := .ow (.anc p (ds.set n d))) (fp := [p]) (fun a h => h) (fun a h => ?_) sm (fun j c' v' fp' hne g1 g2 g3 a ha => ?_) ⟨xs.set n v, rfl, rfl, upd_same, by rw [sd]; exact hasL_set (hv.mono s2.del) n (h5.mono s2.del)⟩ h4 nd
            · rw [set_at h1] at key
              exact h _ _ _ ((E.tr s1).trans ((E1.tr s2).trans ⟨sm, fun a h => by rw [upd_ne (fun z => pP.2 (by rw [← z]; exact h))]⟩)) key
            · by_cases ha : a = p
              · subst ha; exact Trk.lst upd_same
              · unfold Trk; rw [upd_ne ha]; exact E2.trk a h
            · have n1 := E2.apart j i _ _ _ _ _ _ g1 e1 g2 h1 g3 ob (Ne.symm hne) a ha
              exact ⟨upd_ne fun z => n1 (by rw [z]; exact List.mem_singleton.mpr rfl), n1⟩
          · exact h.elim
        · exact h.elim
    · exact h.elim
/-! ### while -/
theorem gS_nb {K : PySem.W.Frag} {Z : Ends} {m : M Out} (h : gS K WX P0 P H Z m) : m ≠ .bad := fun e => by rw [e] at h; exact h
/-! ### int(..), all(..), any(..) -/
def boolsD : List D → Option (List Bool)
  | [] => some []
  | .bl b :: r => (boolsD r).map (b :: ·)
  | _ => none
theorem boolsD_map (bs : List Bool) : boolsD (bs.map D.bl) = some bs := by
  induction bs with
  | nil => rfl
  | cons b r ih => rw [List.map_cons, boolsD, ih]; rfl
theorem boolsD_inv : ∀ {ds : List D} {bs : List Bool}, boolsD ds = some bs → ds = bs.map D.bl
  | [], bs, h => by cases h; rfl
  | .bl b :: r, bs, h => by
    rw [boolsD] at h
    cases q : boolsD r with
    | none => rw [q] at h; cases h
    | some bs' => rw [q] at h; cases h; rw [boolsD_inv q]; rfl
  | .non :: r, bs, h => by cases h
  | .int _ :: r, bs, h => by cases h
  | .str _ :: r, bs, h => by cases h
  | .tup _ :: r, bs, h => by cases h
  | .lst _ :: r, bs, h => by cases h
  | .exn _ :: r, bs, h => by cases h
theorem hasL_bools {K : PySem.W.Frag} {H : Hp} : ∀ {vs : List V} {bs : List Bool}, HasL K H vs (bs.map D.bl) → vs = bs.map V.bl
  | _, [], .nil => rfl
  | _, b :: r, .cons h t => by cases h; rw [hasL_bools t]; rfl
theorem vals_bools : ∀ {bs : List Bool} {us : List Value}, Vals (bs.map V.bl) us → LSm.BoolsAre us bs
  | [], _, .nil => .nil
  | b :: r, _, .cons h t => by cases h; exact .cons b (vals_bools t)
theorem call_all_bools (hc : X.calm = true) : CallR X (.builtin "all") (fun xs H Q => ∃ p bs, xs = [.ref p] ∧ SqL X.K H p (List.map V.bl bs) ∧ Q (.bl (bs.all id)) H) := by
  intro pins s σ H xs us Q I r h
  obtain ⟨p, bs, rfl, hq, q⟩ := h
  obtain ⟨u, rfl, rx⟩ := vals1 r
  cases rx
  obtain ⟨its, r', pl, hz⟩ := I.list hq
  have hl := pl.isList
  have hb := vals_bools r'
  have hlt : p < s.heap.objs.size := by obtain ⟨_, e, _⟩ := hl; exact Heap.lt_size e
  refine call_all_walk (wpAny_pyIter_list hl ?_)
  refine ⟨s.heap.objs.size, [s.heap.objs.size, p], [s.heap.objs.size], its.toArray.size, _, _, fun i => (bs[i]?).getD true, rfl, Walks.list (A := X.A.in1) (I.ok.hd hc) _ p (Nat.ne_of_lt hlt) its.toArray,
    ⟨⟨_, Heap.get?_push_size _ rfl, rfl, rfl⟩, hl.push _⟩, fun i v s' Q' E' hP hQ => ?_, fun h' tk hk => ?_⟩
  · obtain ⟨b, e, rfl⟩ := hb.get i v (by simpa using hP)
    simp only [e, Option.getD_some] at hQ
    exact wpAny_truthy_bool hQ
  · have e : ((List.range its.toArray.size).all fun i => (bs[i]?).getD true) = bs.all id := by
      rw [List.size_toArray, hb.length]; exact LSm.range_all bs
    rw [e]
    exact ⟨.bl _, H, I.kept (t' := tk) (LSm.kept_iter hk), rfl, q⟩
def dAll (ds : List D) : M D := match ds with
  | [.lst xs] => (match boolsD xs with | some bs => .ok (.bl (bs.all id)) | none => .bad)
  | _ => .bad
theorem cd_all : CallD X.K WX (fun xs H Q => ∃ p bs, xs = [.ref p] ∧ SqL X.K H p (List.map V.bl bs) ∧ Q (.bl (bs.all id)) H) dAll := by
  intro P H ds vs Q ht hl h
  unfold dAll at h
  split at h
  · rename_i xs
    obtain ⟨v, rfl, hv⟩ := hl.one
    split at h
    · rename_i bs eb
      have := boolsD_inv eb
      subst this
      cases hv with
      | lst hs hh =>
        have := hasL_bools hh
        subst this
        exact ⟨_, bs, rfl, hs.undel, h _ H (Same.refl H) (.bl _)⟩
    · exact h.elim
  · exact h.elim
theorem de_all {p : Pos} (hc : X.calm = true) (hg : Gl X "all") (hm : X.mg "all" = none) (ha : DE X WX c e f) (hb : bootBuiltins "all" = some (.builtin "all") := by decide +kernel) (hs : starEach [e] X.env = [(false, eval e X.env)] := by rfl) : DE X WX c (.Call (.Name "all" p) [e] [] pos) (fun ρ => ((f ρ).bind fun d => (M.ok []).bind fun ds => .ok (d :: ds)).bind dAll) :=
  de_callB (call_all_bools hc) cd_all hg hm hb (da_cons ha da_nil hs) (he := hs)
end
end L2

set_option Elab.async false
set_option linter.all false
set_option maxRecDepth 100000
namespace PySem
namespace F
end F
section
variable {prog : Program} {w : World} {A : Around} {E : Value → Shared → Prop} {s : Shared}
end
end PySem
namespace PySem
section
variable {prog : Program} {w : World} {A : Around} {E : Value → Shared → Prop} {s : Shared}
end
end PySem
namespace L2
open PySem PySem.Spec PyProof.Rows
section
variable {X : Cx} {WX : Str → Hp → Prop} {c : Bool} {P0 P : Addr → Prop} {H : Hp} {σ : St} {ρ : Rho} {e : Expr} {f : Rho → M D} {pos : Pos} {te : TE}
end
end L2

set_option Elab.async false
set_option linter.all false
set_option maxRecDepth 100000
/-! ### a script's numbers are of at most 2 ** 20 bits -/
namespace L2
open PySem PySem.Spec PyProof.Rows
/-- a number as a script may hold one -/
def Sm (n : Int) : Prop := Builtin.Int.intBits n ≤ 2 ^ 20
theorem sm_all : ∀ {ns : List Int}, W.WData.weightAll (ns.map W.WData.int) ≤ 2 ^ 20 → ∀ n ∈ ns, Sm n
  | m :: r, h, n, hn => by
    rw [List.map_cons, W.WData.weightAll, W.WData.weight] at h
    rcases List.mem_cons.mp hn with rfl | hn
    · unfold Sm Builtin.Int.intBits
      omega
    · exact sm_all (by omega) n hn
theorem sm_of {ns : List Int} (h : W.WData.layableAll [W.WData.list (ns.map W.WData.int)] = true) : ∀ n ∈ ns, Sm n := by
  unfold W.WData.layableAll at h
  rw [List.all_cons, Bool.and_eq_true] at h
  have h1 := h.1
  unfold W.WData.layable at h1
  rw [Bool.and_eq_true, decide_eq_true_eq, W.WData.weight] at h1
  exact sm_all h1.2
end L2
namespace HT
open PySem PySem.W PyProof.Rows Spec Calls Att
theorem attach_sm {l : OpenLaw} {n : Nat} {q : Program} {loose : List Str} {XP : (Str → Option Value) → Heap → Prop} {YP : World → Heap → Prop} {d : DefRec}
    (hn : l.most = some n) (hdf : d.params.defaults = [])
    (run : ∀ (w : World) (s₀ s₁ : Shared) (mg mb : Str → Option Value) (fa : Addr) (o : Obj) (pm cd doc : Value) (a : Addr) (vs : List Value) (ns : List Int), (∀ n ∈ ns, L2.Sm n) →
      Ground q loose [] XP w s₀ mg mb s₁.heap → YP w s₁.heap → s₁.heap.get? fa = some o → o.data = .func (docDef d.name d.params d.body d.scope pm cd doc) → s₁.heap.CodeRec cd d.name → mg d.name = some (.ref fa) →
      s₁.heap.get? a = some { cls := .type "list", data := .seq vs.toArray } → IntsAre vs ns → ns.length ≤ n → s₁.gens = #[] →
      codeAny (model l.prog w) callerA (.call (.ref fa) ⟨[.ref a], []⟩) (fun r s' => r = .ok (.ret (.bool true)) ∧ OldK s₁.heap s'.heap ∧ s'.os = s₁.os ∧ AllBare s'.gens) s₁) :
    WalkO q loose XP YP l.row.toRowW d [] (fun f vs => PySem.call f vs) := by
  intro w s₀ s₁ mg mb G Y fa o pm cd doc dV kV ho hd hcd hD hmg hg args vals as hpre hlay hrd hwl hlo
  obtain rfl : dV = .none := Dflts.none hD hdf
  obtain rfl : kV = .none := Dflts.noKw hD
  obtain ⟨a, vs, ns, rfl, rfl, hobj, hints, hlen⟩ := script_of hn hpre hwl
  refine enter_call (codeAny_mono (run w s₀ s₁ mg mb fa o pm cd doc a vs ns (L2.sm_of hlay) G Y ho (fd_plain hd) hcd hmg hobj hints hlen hg) fun r s' hq => ?_)
  obtain ⟨rfl, h2, h3, h4⟩ := hq
  exact ⟨.inl ⟨.bool true, .bool true, [], rfl, fun _ => rfl, .bool true, post_true l _, fun _ => ⟨List.Pairwise.nil, fun _ hm => (nomatch hm)⟩⟩, h2, h3, h4⟩
end HT
namespace L2
open PySem PySem.Spec PyProof.Rows
theorem walk_sm {l : PySem.W.OpenLaw} {n k : Nat} {q : Program} {loose : List Str} {XP : (Str → Option Value) → Heap → Prop} {YP : World → Heap → Prop} {d : DefRec} {K : Params → PySem.W.Frag} {CX : World → CXT} {sp : World → Sp} {x : Str}
    (hn : l.most = some n) (hn2 : n ≤ sizeLine) (hdf : d.params.defaults = []) (hr : Room k callerA) (hY : ∀ (w : World) (h : Heap), YP w h → (K w.params).In h)
    (F : ∀ (w : World) (mg : Str → Option Value) (fa : Addr) (h : Heap), (K w.params).In h → h.Ns mainGlobals mg → mg d.name = some (.ref fa) → ∃ fd : FuncData, (∀ (s : Shared) (u : Value), BindsTo s fd ⟨[u], []⟩ [(x, u)]) ∧
        ∀ base : Heap, (K w.params).In base → base.Ns mainGlobals mg → FnOk l.prog w (K w.params) mg base (CX w) k fa fd [x] (sp w))
    (hsp : ∀ (w : World) (H : Hp) (a : Addr) (ns : List Int), (∀ n ∈ ns, Sm n) → ns.length ≤ n → Only H → SqL (K w.params) H a (ns.map V.int) → sp w [.ref a] H (fun v _ => v = .bl true) fun _ _ _ => False)
    (hCX : ∀ (w : World) (H : Hp) (s : Shared) (e : Value) (s' : Shared), CX w [] H s (fun _ _ _ => False) e s' → False) : PySem.W.WalkO q loose XP YP l.row.toRowW d [] (fun f vs => PySem.call f vs) := by
  refine HT.attach_sm hn hdf fun w s₀ s₁ mg mb fa o pm cd doc a vs ns hsm G Y ho hd hcd hmg hobj hints hlen hg => ?_
  have KX := hY w _ Y
  obtain ⟨fd, hb, hF⟩ := F w mg fa _ KX G.T.g hmg
  exact law_call KX G.T.g G.T.b G.T.builtins G.T.nolimit hg hobj hints (Nat.le_trans hlen hn2) hr hF hb (fun H hO hS => hsp w H a ns hsm hlen hO hS) fun H e s' => hCX w H s₁ e s'
theorem law_smM {F : List D → M D} (h : ∀ ns : List Int, ns.length ≤ 63 → (∀ n ∈ ns, Sm n) → F [.lst (ns.map D.int)] = .ok (.bl true)) (K : PySem.W.Frag) (H : Hp) (a : Addr) (ns : List Int) (hsm : ∀ n ∈ ns, Sm n) (hl : ns.length ≤ 63) (hS : SqL K H a (ns.map V.int)) : spM0 K 1 F [.ref a] H (fun v _ => v = .bl true) fun _ _ _ => False := by
  refine ⟨rfl, fun _ => False, [.lst (ns.map D.int)], fun _ z => z.elim, .cons (.lst ?_ (HasL.ints ns)) .nil, ?_⟩
  · have e : del H (fun _ => False) = H := by funext b; exact del_of (fun z => z)
    rw [e]; exact hS
  · rw [h ns hl hsm]
    exact fun v H' s hv => hv.bl_inv
/-! ### products with one great factor -/
def CMulW (i j : Int) : Prop := (Builtin.Int.intBits i ≤ 2 ^ 20 + 1 ∧ Builtin.Int.intBits j ≤ 2 ^ 10) ∨ CMulB i j
theorem mulok_sum {a b : Int} (h : Builtin.Int.intBits a + Builtin.Int.intBits b ≤ 2 ^ 21) : IntMulOk a b := by
  have e : (2 : Nat) ^ 21 = 2097152 := by decide
  have h2 : Builtin.Int.intTooBig (Builtin.Int.intBits a + Builtin.Int.intBits b) = false := by
    unfold Builtin.Int.intTooBig bitsLine
    exact decide_eq_false (by omega)
  unfold IntMulOk
  rw [h2]
  simp
theorem CMulW.ok {i j : Int} (h : CMulW i j) : IntMulOk i j := by
  rcases h with ⟨h1, h2⟩ | h
  · exact mulok_sum (by omega)
  · exact h.ok
theorem op_mulW {X : Cx} : OpR X (binaryOp .Mult) (rI CMulW fun i j => .int (i * j)) := opI fun _ _ _ _ _ _ _ hc q => mul_int q hc.ok
noncomputable instance (i j : Int) : Decidable (CMulW i j) := Classical.propDecidable _
noncomputable def dMulW := onInts fun i j => if CMulW i j then .ok (.int (i * j)) else .bad
theorem dMulW_ok {i j : Int} (h : CMulW i j) : dMulW (.int i) (.int j) = .ok (.int (i * j)) := by
  unfold dMulW onInts
  dsimp only
  rw [if_pos h]
theorem de_mulW {X : Cx} {WX : Str → Hp → Prop} {c : Bool} {a b : Expr} {f g : Rho → M D} {pos : Pos} (ha : DE X WX c a f) (hb : DE X WX c b g) : DE X WX c (.BinOp a .Mult b pos) (fun ρ => (f ρ).bind fun x => (g ρ).bind fun y => dMulW x y) := de_op op_mulW (opd_rI fun _ _ _ _ => .int _) ha hb
theorem bits_le {n : Int} {k : Nat} (h : n.natAbs < 2 ^ k) : Builtin.Int.intBits n ≤ k := by
  unfold Builtin.Int.intBits
  split
  · exact Nat.zero_le _
  · rename_i hn
    have hp : n.natAbs ≠ 0 := by simpa using hn
    exact (Nat.log2_lt hp).mpr h
theorem bits_near {c x : Int} (h : Sm c) (hx : x.natAbs < 2 ^ 20) : Builtin.Int.intBits (c + x) ≤ 2 ^ 20 + 1 := by
  refine bits_le ?_
  have h1 := natAbs_lt_pow_bits c
  have h2 : (2 : Nat) ^ Builtin.Int.intBits c ≤ 2 ^ (2 ^ 20) := Nat.pow_le_pow_right (by omega) h
  have h3 : (2 : Nat) ^ 20 ≤ 2 ^ (2 ^ 20) := Nat.pow_le_pow_right (by omega) (by omega)
  have h4 : (c + x).natAbs ≤ c.natAbs + x.natAbs := Int.natAbs_add_le c x
  rw [Nat.pow_succ]
  omega
end L2

set_option Elab.async false
set_option linter.all false
set_option maxRecDepth 100000
namespace L2
open PySem PySem.Spec PyProof.Rows
/-! ### a worth without a list within it holds whatever is one's own -/
mutual
def noL : D → Bool
  | .tup a => noLs a
  | .lst _ => false
  | .exn _ => false
  | _ => true
def noLs : List D → Bool
  | [] => true
  | a :: r => noL a && noLs r
end
theorem sqT_own {K : PySem.W.Frag} {H : Hp} {P0 P : Addr → Prop} {a : Addr} {xs : List V} (ht : ∀ a, P a → Trk H a) (h : SqT K (del H P0) a xs) : SqT K (del H P) a xs := by
  have key : ∀ o, (∃ ys, o = .tup ys ∨ ∃ z, o = .frz z (.tup ys)) → del H P0 a = some o → del H P a = some o := fun o ho h => by
    obtain ⟨h1, h2⟩ := del_some h
    rw [del_of fun z => by
      obtain ⟨o', q, r⟩ := ht a z
      rw [h2] at q; cases q
      obtain ⟨ys, e | ⟨y, e⟩⟩ := ho
      · exact (r ys).1 e
      · exact (r ys).2 y e]
    exact h2
  rcases h with (h | ⟨o, h⟩) | h
  · exact .inl (.inl (key _ ⟨xs, .inl rfl⟩ h))
  · exact .inl (.inr ⟨o, key _ ⟨xs, .inr ⟨o, rfl⟩⟩ h⟩)
  · exact .inr h
mutual
theorem Has.noL {K : PySem.W.Frag} {H : Hp} {P0 P : Addr → Prop} (ht : ∀ a, P a → Trk H a) : ∀ {v : V} {d : D}, noL d = true → Has K (del H P0) v d → Has K (del H P) v d
  | _, _, _, .non => .non
  | _, _, _, .bl b => .bl b
  | _, _, _, .int i => .int i
  | _, _, _, .str x => .str x
  | _, _, n, .tup h r => .tup (sqT_own ht h) (HasL.noL ht (by rw [L2.noL] at n; exact n) r)
  | _, _, n, .lst h r => by rw [L2.noL] at n; cases n
  | _, _, n, .exn h r => by rw [L2.noL] at n; cases n
theorem HasL.noL {K : PySem.W.Frag} {H : Hp} {P0 P : Addr → Prop} (ht : ∀ a, P a → Trk H a) : ∀ {vs : List V} {ds : List D}, noLs ds = true → HasL K (del H P0) vs ds → HasL K (del H P) vs ds
  | _, _, _, .nil => .nil
  | _, _, n, .cons h t => by
    rw [noLs, Bool.and_eq_true] at n
    exact .cons (Has.noL ht n.1 h) (HasL.noL ht n.2 t)
end
def dp (m : M D) : M D := m.bind fun d => if noL d = true then .ok d else .bad
theorem de_deep {X : Cx} {WX : Str → Hp → Prop} {e : Expr} {f : Rho → M D} (h : DE X WX false e f) : DE X WX true e (fun ρ => dp (f ρ)) := by
  obtain ⟨t, h1, h2⟩ := h
  refine ⟨t, h1, fun P0 P σ H Q ρ E g => h2 P0 P σ H Q ρ E ?_⟩
  unfold dp at g
  dsimp only at g
  cases e : f ρ with
  | ok d =>
    rw [e] at g
    simp only [M.bind_ok] at g
    by_cases hf : noL d = true
    · rw [if_pos hf] at g
      exact fun v H' s hv => g v H' s (hv.noL (E.same s).trk hf)
    · rw [if_neg hf] at g; exact g.elim
  | ex x => rw [e] at g; exact g
  | bad => rw [e] at g; exact g
end L2

set_option Elab.async false
set_option linter.all false
set_option maxRecDepth 100000
namespace L2
open PySem PySem.Spec PyProof.Rows
theorem forM_inv {gt : D → Rho → M Rho} {gb : Rho → M Out} {ds : List D} {ρ : Rho} (I : Nat → Rho → Prop) (h0 : I 0 ρ)
    (step : ∀ i d ρ, ds[i]? = some d → I i ρ → ∃ ρ1 ρ2, gt d ρ = .ok ρ1 ∧ gb ρ1 = .ok (.next ρ2) ∧ I (i + 1) ρ2) : ∃ ρ', forM gt gb ds ρ = .ok (.next ρ') ∧ I ds.length ρ' := by
  have key : ∀ (n i : Nat) (ρ : Rho), i + n = ds.length → I i ρ → ∃ ρ', forM gt gb (ds.drop i) ρ = .ok (.next ρ') ∧ I ds.length ρ' := by
    intro n
    induction n with
    | zero =>
      intro i ρ hi h
      have e : i = ds.length := by omega
      subst e
      exact ⟨ρ, by rw [List.drop_length, forM], h⟩
    | succ n ih =>
      intro i ρ hi h
      have hlt : i < ds.length := by omega
      obtain ⟨ρ1, ρ2, h1, h2, h3⟩ := step i ds[i] ρ (List.getElem?_eq_getElem hlt) h
      obtain ⟨ρ', h4, h5⟩ := ih (i + 1) ρ2 (by omega) h3
      refine ⟨ρ', ?_, h5⟩
      rw [drop_get hlt, forM, h1]
      dsimp only
      rw [h2]
      exact h4
  obtain ⟨ρ', h1, h2⟩ := key ds.length 0 ρ (by omega) h0
  rw [List.drop_zero] at h1
  exact ⟨ρ', h1, h2⟩
theorem forM_ex {gt : D → Rho → M Rho} {gb : Rho → M Out} {ds : List D} {ρ : Rho} {Q : Rho → Prop} (I : Nat → Rho → Prop) (h0 : I 0 ρ)
    (step : ∀ i d ρ, ds[i]? = some d → I i ρ → ∃ ρ1 ρ2, gt d ρ = .ok ρ1 ∧ gb ρ1 = .ok (.next ρ2) ∧ I (i + 1) ρ2) (hk : ∀ ρ', I ds.length ρ' → Q ρ') : ∃ ρ', forM gt gb ds ρ = .ok (.next ρ') ∧ Q ρ' :=
  let ⟨ρ', h1, h2⟩ := forM_inv I h0 step
  ⟨ρ', h1, hk ρ' h2⟩
theorem fin_seqE {m : M Out} {k : Rho → M Out} (R : M D → Prop) {ρ : Rho} (h : m = .ok (.next ρ)) (hk : R (fin (k ρ))) : R (fin (seqM m k)) := by
  rw [h]
  exact hk
theorem ex_seq {m : M Out} {k : Rho → M Out} {Q : Rho → Prop} {ρ1 : Rho} (h : m = .ok (.next ρ1)) (hk : ∃ ρ2, k ρ1 = .ok (.next ρ2) ∧ Q ρ2) : ∃ ρ2, seqM m k = .ok (.next ρ2) ∧ Q ρ2 := by
  rw [h]
  exact hk
theorem ex_one {m : M Out} {Q : Rho → Prop} {ρ1 : Rho} (h : m = .ok (.next ρ1)) (hk : Q ρ1) : ∃ ρ2, m = .ok (.next ρ2) ∧ Q ρ2 := ⟨ρ1, h, hk⟩
theorem ex_seq_for {gt : D → Rho → M Rho} {gb : Rho → M Out} {ds : List D} {ρ : Rho} {k : Rho → M Out} {Q : Rho → Prop} (I : Nat → Rho → Prop) (h0 : I 0 ρ)
    (step : ∀ i d ρ, ds[i]? = some d → I i ρ → ∃ ρ1 ρ2, gt d ρ = .ok ρ1 ∧ gb ρ1 = .ok (.next ρ2) ∧ I (i + 1) ρ2) (hk : ∀ ρ', I ds.length ρ' → ∃ ρ2, k ρ' = .ok (.next ρ2) ∧ Q ρ2) : ∃ ρ2, seqM (forM gt gb ds ρ) k = .ok (.next ρ2) ∧ Q ρ2 := by
  obtain ⟨ρ', h1, h2⟩ := forM_inv I h0 step
  rw [h1]
  exact hk ρ' h2
/-! ### lists of one length, made less at one place -/
section
variable {α : Type} (lt : α → α → Prop)
def LtL : List α → List α → Prop
  | y :: ys, x :: xs => (lt y x ∧ ys.length = xs.length) ∨ (y = x ∧ LtL ys xs)
  | _, _ => False
theorem LtL.len : ∀ {ys xs : List α}, LtL lt ys xs → ys.length = xs.length
  | y :: ys, x :: xs, h => by
    rcases h with ⟨_, h⟩ | ⟨_, h⟩
    · rw [List.length_cons, List.length_cons, h]
    · rw [List.length_cons, List.length_cons, LtL.len h]
  | [], [], h => h.elim
  | [], _ :: _, h => h.elim
  | _ :: _, [], h => h.elim
theorem LtL.trans (ht : ∀ a b c, lt a b → lt b c → lt a c) : ∀ {xs ys zs : List α}, LtL lt xs ys → LtL lt ys zs → LtL lt xs zs
  | x :: xs, y :: ys, z :: zs, h1, h2 => by
    rcases h1 with ⟨a, b⟩ | ⟨rfl, b⟩
    · rcases h2 with ⟨c, d⟩ | ⟨rfl, d⟩
      · exact .inl ⟨ht _ _ _ a c, b.trans d⟩
      · exact .inl ⟨a, b.trans (LtL.len lt d)⟩
    · rcases h2 with ⟨c, d⟩ | ⟨rfl, d⟩
      · exact .inl ⟨c, (LtL.len lt b).trans d⟩
      · exact .inr ⟨rfl, LtL.trans ht b d⟩
  | [], _, _, h, _ => by cases h
  | _ :: _, [], _, h, _ => by cases h
  | _ :: _, _ :: _, [], _, h => by cases h
end
end L2

set_option Elab.async false
set_option linter.all false
set_option maxRecDepth 100000
namespace L2
open PySem PySem.Spec PyProof.Rows
/-! ### a list of lists of one's own -/
section
variable {X : Cx} {WX : Str → Hp → Prop} {c : Bool} {P0 P : Addr → Prop} {H : Hp} {σ : St} {ρ : Rho} {a b e : Expr} {f g g2 : Rho → M D} {pos : Pos}
theorem EnvP.forget {K : PySem.W.Frag} (E : EnvP K P0 P H σ ρ) (k : Nat) : EnvP K P0 P H σ (ρ.set k none) := by
  have key : ∀ (j : Nat) (cl : Cl), (ρ.set k none)[j]? = some (some cl) → k ≠ j ∧ ρ[j]? = some (some cl) := fun j cl h => by
    rcases get_set h with ⟨_, _, z⟩ | z
    · cases z
    · exact z
  exact ⟨E.sub, E.trk, fun j d h => E.val j d (key j _ h).2, fun j d h io => E.ows j d (key j _ h).2 io, fun i j c c' v v' fp fp' h1 h2 => E.apart i j c c' v v' fp fp' (key i _ h1).2 (key j _ h2).2, by rw [List.length_set]; exact E.len⟩
/-- name = [], a list of lists of one's own -/
theorem ds_newR (i : Nat) {x : Str} {pos' lpos : Pos} (hN : X.N.Nodup) (hi : X.N[i]? = some x) (hx : Loc X.env.scope x) (hs : swapsWith (.List [] lpos) (some (.Name x pos')) pos.line X.env = pure false := by rfl) (hf : X.fn x = true ∨ X.env.scope.names.lookup x = some .local := by first | exact .inl rfl | exact .inr rfl | assumption) :
    DS X WX (.Assign [.Name x pos'] (.List [] lpos) pos) (fun ρ => .ok (.next (ρ.set i (some (.ow (.rows [])))))) := by
  refine ⟨_, ps_set hN hi hx (pe_lst pa_nil) hs hf, fun P0 P σ H Z ρ E h => ?_⟩
  refine ⟨Nat.zero_le _, fun p hp => ?_⟩
  have nP : ¬ P p := fun z => (E.trk p z).no hp
  have sm : Same (del H P) (del (upd H p (.lst [])) (fun a => P a ∨ a = p)) := fun b o e => by
    obtain ⟨h1, h2⟩ := del_some e
    have hb : b ≠ p := ne_of_none h2 hp
    rw [del_of (fun z => z.elim h1 hb), upd_ne hb]; exact h2
  refine h _ _ (fun a => P a ∨ a = p) ⟨sm, fun a ha => by rw [upd_ne (fun z => nP (by rw [← z]; exact E.sub a ha))]⟩ (E.putO (fp := [p]) (fun a h => .inl h) (fun a h => ?_) sm (fun j c' v' fp' hne h1 h2 h3 a ha => ?_) ⟨p, [], rfl, rfl, upd_same, .nil⟩ (fun a ha => ?_) (by simp))
  · by_cases ha : a = p
    · subst ha; exact Trk.lst upd_same
    · rcases h with h | h
      · unfold Trk; rw [upd_ne ha]; exact E.trk a h
      · exact absurd h ha
  · obtain ⟨ys, q⟩ := h3.at a ha
    have hn : a ≠ p := ne_of_none q hp
    exact ⟨upd_ne hn, fun z => hn (List.mem_singleton.mp z)⟩
  · rw [List.mem_singleton.mp ha]
    exact ⟨.inr rfl, fun z => nP (E.sub p z)⟩
theorem RowsH.snoc {K : PySem.W.Frag} {H : Hp} {P : Addr → Prop} {q : Addr} {xs : List V} {ds : List D} (hq : H q = some (.lst xs)) (hx : HasL K (del H P) xs ds) : ∀ {ps : List Addr} {dss : List (List D)}, RowsH K H P ps dss → RowsH K H P (ps ++ [q]) (dss ++ [ds])
  | _, _, .nil => .cons hq hx .nil
  | _, _, .cons h r t => .cons h r (t.snoc hq hx)
/-- name.append(other), a list of one's own goes into the list of lists -/
def pushM (i k : Nat) (ρ : Rho) : M Out := match ρ[i]?, ρ[k]? with
  | some (some (.ow (.rows dss))), some (some (.own ds)) => if dss.length < 1000 ∧ i ≠ k then .ok (.next ((ρ.set k none).set i (some (.ow (.rows (dss ++ [ds])))))) else .bad
  | _, _ => .bad
theorem ds_push (i k : Nat) {x y : Str} {p1 p2 apos cpos : Pos} (hv : PE X (.Name x p1) (tVar i)) (hw : PE X (.Name y p2) (tVar k)) (hs : starEach [.Name y p2] X.env = [(false, eval (.Name y p2) X.env)] := by rfl)
    (hsw : swapsWith (.Call (.Attribute (.Name x p1) "append" apos) [.Name y p2] [] cpos) none pos.line X.env = pure false := by rfl)
    (hbase : attributeBase (.Name x p1) "append" X.env (eval (.Name x p1) X.env) = eval (.Name x p1) X.env := by rfl)
    (hfew : ((backTo cpos (starEach [.Name y p2] X.env)).all (fun x => !x.1) && (backToKw cpos (keywordEach [] X.env)).all (fun x => x.1.isSome) && decide (([.Name y p2] : List Expr).length + ([] : List Keyword).length + (if ([] : List Keyword).isEmpty then 0 else 1) < 30)) = true := by rfl)
    (hline : (apos.endLine == cpos.line) = true := by rfl) (hplain : (backTo cpos (starEach [] X.env)).any (·.1) = false := by rfl) :
    DS X WX (.Expr (.Call (.Attribute (.Name x p1) "append" apos) [.Name y p2] [] cpos) pos) (pushM i k) := by
  refine ⟨_, ps_expr (pe_bm PySem.F.plainAttrs_list PySem.F.slot_list_append PySem.F.type_list_append mt_append hv (pa_cons hw pa_nil hs) hbase hfew hline hs hplain) hsw, fun P0 P σ H Z ρ E h => ?_⟩
  unfold pushM at h
  split at h
  · rename_i dss ds e1 e2
    by_cases hl : dss.length < 1000 ∧ i ≠ k
    · rw [if_pos hl] at h
      obtain ⟨v, fp, h1, o1, h4, nd⟩ := E.ows i _ e1 rfl
      obtain ⟨w, fq, k1, o2, k4, _⟩ := E.ows k _ e2 rfl
      have oa := o1
      have ob := o2
      obtain ⟨p, ps, rfl, rfl, h2, h3⟩ := o1
      obtain ⟨q, xs, rfl, rfl, k2, k3⟩ := o2
      refine ⟨_, h1, .inl ⟨rfl, _, .of h2⟩, ⟨_, k1, p, _, _, rfl, rfl, h2, small1000 (by rw [List.length_map, h3.length]; exact Nat.le_of_lt hl.1), ?_⟩⟩
      have pP := h4 p List.mem_cons_self
      have sd : del (upd H p (.lst (ps.map V.ref ++ [V.ref q]))) P = del H P := by
        funext b
        by_cases hb : P b
        · rw [del_in hb, del_in hb]
        · rw [del_of hb, del_of hb, upd_ne (fun z => hb (by rw [z]; exact pP.1))]
      have sm : Same (del H P) (del (upd H p (.lst (ps.map V.ref ++ [V.ref q]))) P) := by rw [sd]; exact Same.refl _
      have qn : q ∉ p :: ps := fun z => E.apart i k _ _ _ _ _ _ e1 e2 h1 k1 oa ob hl.2 q z (List.mem_singleton.mpr rfl)
      have qp : q ≠ p := fun z => qn (by rw [z]; exact List.mem_cons_self)
      have key := (E.forget k).putO (P' := P) (H' := upd H p (.lst (ps.map V.ref ++ [V.ref q]))) (i := i) (v := .ref p) (c := .ow (.rows (dss ++ [ds]))) (fp := p :: (ps ++ [q])) (fun a h => h) (fun a h => ?_) sm (fun j c' v' fp' hne g1 g2 g3 a ha => ?_)
        ⟨p, ps ++ [q], rfl, rfl, by rw [List.map_append]; exact upd_same, ?_⟩ (fun a ha => ?_) ?_
      · rw [set_at h1] at key
        exact h _ _ _ ⟨sm, fun a h => by rw [upd_ne (fun z => pP.2 (by rw [← z]; exact h))]⟩ key
      · by_cases ha : a = p
        · subst ha; exact Trk.lst upd_same
        · unfold Trk; rw [upd_ne ha]; exact E.trk a h
      · have hj : k ≠ j ∧ ρ[j]? = some (some c') := by
          rcases get_set g1 with ⟨_, _, z⟩ | z
          · cases z
          · exact z
        have n1 := E.apart j i _ _ _ _ _ _ hj.2 e1 g2 h1 g3 oa (Ne.symm hne) a ha
        have n2 := E.apart j k _ _ _ _ _ _ hj.2 e2 g2 k1 g3 ob (Ne.symm hj.1) a ha
        have ap : a ≠ p := fun z => n1 (by rw [z]; exact List.mem_cons_self)
        refine ⟨upd_ne ap, fun z => ?_⟩
        rcases List.mem_cons.mp z with z | z
        · exact ap z
        · rcases List.mem_append.mp z with z | z
          · exact n1 (List.mem_cons_of_mem _ z)
          · exact n2 z
      · refine RowsH.snoc (xs := xs) (by rw [upd_ne qp]; exact k2) (by rw [sd]; exact k3) (h3.move sm fun a ha => upd_ne fun z => ?_)
        rw [List.nodup_cons] at nd
        exact nd.1 (by rw [← z]; exact ha)
      · rcases List.mem_cons.mp ha with rfl | ha
        · exact pP
        · rcases List.mem_append.mp ha with ha | ha
          · exact h4 a (List.mem_cons_of_mem _ ha)
          · exact k4 a ha
      · rw [List.nodup_cons] at nd ⊢
        refine ⟨fun z => ?_, ?_⟩
        · rcases List.mem_append.mp z with z | z
          · exact nd.1 z
          · exact qp (List.mem_singleton.mp z).symm
        · rw [List.nodup_append]
          refine ⟨nd.2, by simp, fun x hx y hy z => ?_⟩
          rw [List.mem_singleton.mp hy] at z
          exact qn (List.mem_cons_of_mem _ (z ▸ hx))
    · rw [if_neg hl] at h; exact h.elim
  · exact h.elim
theorem atI_ix {α : Type} {l : List α} {k : Int} {n : Nat} (h : ixN l.length k = some n) : atI l k = l[n]? := by
  unfold atI
  rw [h]
  rfl
/-- name[a][b] -/
def rowAt (dss : List (List D)) (ka : D) : M (List D) := match ka with
  | .int j => (match ixN dss.length j with | some n => (match dss[n]? with | some ds => .ok ds | none => .bad) | none => .bad)
  | _ => .bad
theorem rowAt_inv {dss : List (List D)} {ka : D} {m : M (List D)} (h : rowAt dss ka = m) (hb : m ≠ .bad) : ∃ j n ds, ka = .int j ∧ ixN dss.length j = some n ∧ dss[n]? = some ds ∧ m = .ok ds := by
  subst h
  unfold rowAt at hb ⊢
  split at hb
  · rename_i j
    split at hb
    · rename_i n en
      split at hb
      · rename_i ds ed
        exact ⟨j, n, ds, rfl, en, ed, by simp only [en, ed]⟩
      · exact (hb rfl).elim
    · exact (hb rfl).elim
  · exact (hb rfl).elim
def ix2M (i : Nat) (ρ : Rho) (ma mb : M D) : M D := match ρ[i]? with
  | some (some (.ow (.rows dss))) => ma.bind fun ka => (rowAt dss ka).bind fun ds => mb.bind fun kb => dIx (.lst ds) kb
  | _ => .bad
theorem gV_nb {K : PySem.W.Frag} {P : Addr → Prop} {Q : VK} {m : M D} (h : gV K WX P H Q m) : m ≠ .bad := fun e => by rw [e] at h; exact h
theorem bind_nb {α β : Type} {m : M α} {k : α → M β} (h : m.bind k ≠ .bad) : m ≠ .bad := fun e => by rw [e] at h; exact h rfl
theorem de_ix2 (i : Nat) {x : Str} {p1 p2 : Pos} (hv : PE X (.Name x p1) (tVar i)) (ha : DE X WX true a f) (hb : DE X WX true b g) (hs : PlainIx a := by exact fun _ _ => rfl) (hs2 : PlainIx b := by exact fun _ _ => rfl) :
    DE X WX true (.Subscript (.Subscript (.Name x p1) a p2) b pos) (fun ρ => ix2M i ρ (f ρ) (g ρ)) := by
  obtain ⟨ta, a1, a2⟩ := ha
  obtain ⟨tb, b1, b2⟩ := hb
  refine ⟨_, pe_ix ix_list (pe_ix ix_list hv a1 hs) b1 hs2, fun P0 P σ H Q ρ E h => ?_⟩
  dsimp only at h
  unfold ix2M at h
  split at h
  · rename_i dss e1
    obtain ⟨v, fp, h1, ⟨p, ps, rfl, rfl, h2, h3⟩, h4, nd⟩ := E.ows i _ e1 rfl
    refine ⟨_, h1, a2 P0 P σ H _ ρ E ?_⟩
    cases q : f ρ with
    | bad => rw [q] at h; exact h
    | ex x => rw [q] at h; exact h
    | ok ka =>
      rw [q] at h
      simp only [M.bind_ok] at h
      intro w H1 s1 hw
      obtain ⟨j, n, ds, rfl, en, ed, em⟩ := rowAt_inv rfl (bind_nb (gV_nb h))
      rw [em] at h
      simp only [M.bind_ok] at h
      cases hw
      obtain ⟨r, xs, r1, r2, r3⟩ := h3.get ed
      have hl : ixN (ps.map V.ref).length j = some n := by rw [List.length_map, h3.length]; exact en
      refine ⟨p, _, j, .ref r, rfl, rfl, .of (s1 _ _ h2), by rw [atI_ix hl, List.getElem?_map, r1]; rfl, ?_⟩
      refine b2 P0 P σ H1 _ ρ (E.same s1) ?_
      cases q2 : g ρ with
      | bad => rw [q2] at h; exact h.elim
      | ex x => rw [q2] at h; exact fun H' s' => h H' (s1.trans s')
      | ok kb =>
        rw [q2] at h
        simp only [M.bind_ok] at h
        intro u H2 s2 hu
        unfold dIx at h
        split at h
        · rename_i heq; cases heq
        · rename_i ds' j' heq
          cases heq
          split at h
          · rename_i d e
            cases hu
            obtain ⟨z, k1, k2⟩ := (r3.mono (s1.trans s2).del).atI e
            exact ⟨r, xs, j', z, rfl, rfl, .of (s2 _ _ (s1 _ _ r2)), k1, h _ H2 (s1.trans s2) k2⟩
          · exact h.elim
        · exact h.elim
  · exact h.elim
theorem RowsH.set {K : PySem.W.Frag} {H H' : Hp} {P : Addr → Prop} (sm : Same (del H P) (del H' P)) {r : Addr} {xs : List V} {ds : List D} (hr : H' r = some (.lst xs)) (hx : HasL K (del H' P) xs ds) (k : ∀ a, a ≠ r → H' a = H a) : ∀ {ps : List Addr} {dss : List (List D)} {n : Nat}, ps.Nodup → ps[n]? = some r → RowsH K H P ps dss → RowsH K H' P ps (dss.set n ds)
  | _, _, _, _, e, .nil => by simp at e
  | _, _, 0, nd, e, .cons h1 h2 t => by
    simp at e; subst e
    rw [List.nodup_cons] at nd
    exact .cons hr hx (t.move sm fun a ha => k a fun z => nd.1 (by rw [← z]; exact ha))
  | q :: ps, d :: dss, n + 1, nd, e, .cons h1 h2 t => by
    rw [List.nodup_cons] at nd
    have e' : ps[n]? = some r := by simpa using e
    refine .cons ((k q fun z => nd.1 (by rw [z]; exact List.mem_of_getElem? e')).trans h1) (h2.mono sm) (t.set sm hr hx k nd.2 e')
/-- name[a][b] = e -/
def putJ (i : Nat) (ρ : Rho) (dss : List (List D)) (d ka : D) (ds : List D) (kb : D) : M Out := match ka, kb with
  | .int j, .int l => (match ixN dss.length j, ixN ds.length l with | some n, some m => .ok (.next (ρ.set i (some (.ow (.rows (dss.set n (ds.set m d))))))) | _, _ => .bad)
  | _, _ => .bad
def put2M (i : Nat) (ρ : Rho) (ma mb : M D) (d : D) : M Out := match ρ[i]? with
  | some (some (.ow (.rows dss))) => ma.bind fun ka => (rowAt dss ka).bind fun ds => mb.bind fun kb => putJ i ρ dss d ka ds kb
  | _ => .bad
theorem ds_put2 (i : Nat) {x : Str} {p1 p2 spos : Pos} (hv : PE X (.Name x p1) (tVar i)) (he : DE X WX true e g2) (ha : DE X WX true a f) (hb : DE X WX true b g) (hpx : PlainIx a := by exact fun _ _ => rfl)
    (hs : swapsWithSole [.Subscript (.Subscript (.Name x p1) a p2) b spos] e pos.line X.env = pure false := by rfl) (hw : swappedStores [.Subscript (.Subscript (.Name x p1) a p2) b spos] e X.env = pure none := by rfl) (h1 : (assignEach [.Subscript (.Subscript (.Name x p1) a p2) b spos] X.env).map (·.2) = [assign (.Subscript (.Subscript (.Name x p1) a p2) b spos) X.env] := by rfl)
    (hasg : ∀ v, assign (.Subscript (.Subscript (.Name x p1) a p2) b spos) X.env v = (do
      let ov ← holding [v] (eval (.Subscript (.Name x p1) a p2) X.env)
      let iv ← holding [v, ov] (eval b X.env)
      standAt spos
      holding [v, ov, iv] (setItem ov iv v)
      release [v, ov, iv] []) := by intro _; rfl) :
    DS X WX (.Assign [.Subscript (.Subscript (.Name x p1) a p2) b spos] e pos) (fun ρ => (g2 ρ).bind (put2M i ρ (f ρ) (g ρ))) := by
  obtain ⟨te, e1, e2⟩ := he
  obtain ⟨ta, a1, a2⟩ := ha
  obtain ⟨tb, b1, b2⟩ := hb
  refine ⟨_, ps_asg e1 (pg_sub (pe_ix ix_list hv a1 hpx) b1 set_list hasg) hs hw h1, fun P0 P σ H Z ρ E h => ?_⟩
  dsimp only at h
  refine e2 P0 P σ H _ ρ E ?_
  cases q0 : g2 ρ with
  | bad => rw [q0] at h; exact h
  | ex x => rw [q0] at h; exact fun H' s => h H' P (E.tr s)
  | ok d =>
    rw [q0] at h
    simp only [M.bind_ok] at h
    intro v H0 s0 hvd
    have E0 := E.same s0
    unfold put2M at h
    split at h
    · rename_i dss e1'
      obtain ⟨v', fp, h1, o1, h4, nd⟩ := E0.ows i _ e1' rfl
      have oa := o1
      obtain ⟨p, ps, rfl, rfl, h2, h3⟩ := o1
      refine ⟨_, h1, a2 P0 P σ H0 _ ρ E0 ?_⟩
      cases q : f ρ with
      | bad => rw [q] at h; exact h.elim
      | ex x => rw [q] at h; exact fun H' s => h H' P ((E.tr s0).trans (E0.tr s))
      | ok ka =>
        rw [q] at h
        simp only [M.bind_ok] at h
        intro w H1 s1 hw
        obtain ⟨j, n, ds, rfl, en, ed, em⟩ := rowAt_inv rfl (bind_nb (gS_nb h))
        rw [em] at h
        simp only [M.bind_ok] at h
        cases hw
        obtain ⟨r, xs, r1, r2, r3⟩ := h3.get ed
        have hl : ixN (ps.map V.ref).length j = some n := by rw [List.length_map, h3.length]; exact en
        refine ⟨p, _, j, .ref r, rfl, rfl, .of (s1 _ _ h2), by rw [atI_ix hl, List.getElem?_map, r1]; rfl, ?_⟩
        have E1 := E0.same s1
        refine b2 P0 P σ H1 _ ρ E1 ?_
        cases q2 : g ρ with
        | bad => rw [q2] at h; exact h.elim
        | ex x => rw [q2] at h; exact fun H' s' => h H' P ((E.tr s0).trans ((E0.tr s1).trans (E1.tr s')))
        | ok kb =>
          rw [q2] at h
          simp only [M.bind_ok] at h
          intro u H2 s2 hu
          unfold putJ at h
          split at h
          · rename_i j' l heq
            cases heq
            cases hu
            split at h
            · rename_i n' m em en'
              rw [en] at em; cases em
              have E2 := E1.same s2
              have s12 := s1.trans s2
              have rm : r ∈ ps := List.mem_of_getElem? r1
              have rP := h4 r (List.mem_cons_of_mem _ rm)
              have nd' := List.nodup_cons.mp nd
              have rp : r ≠ p := fun z => nd'.1 (by rw [← z]; exact rm)
              have sd : del (upd H2 r (.lst (xs.set m v))) P = del H2 P := by
                funext b
                by_cases hb : P b
                · rw [del_in hb, del_in hb]
                · rw [del_of hb, del_of hb, upd_ne (fun z => hb (by rw [z]; exact rP.1))]
              have sm : Same (del H2 P) (del (upd H2 r (.lst (xs.set m v))) P) := by rw [sd]; exact Same.refl _
              have ob := oa.same s12
              refine ⟨r, xs, l, m, rfl, rfl, s12 _ _ r2, by rw [r3.length]; exact en', ?_⟩
              have key := E2.putO (P' := P) (H' := upd H2 r (.lst (xs.set m v))) (i := i) (v := .ref p) (c := .ow (.rows (dss.set n (ds.set m d)))) (fp := p :: ps) (fun a h => h) (fun a h => ?_) sm (fun j2 c' v' fp' hne g1 g2 g3 a ha => ?_)
                ⟨p, ps, rfl, rfl, by rw [upd_ne (Ne.symm rp)]; exact s12 _ _ h2, ?_⟩ h4 nd
              · rw [set_at h1] at key
                exact h _ _ _ ((E.tr s0).trans ((E0.tr s12).trans ⟨sm, fun a h => by rw [upd_ne (fun z => rP.2 (by rw [← z]; exact h))]⟩)) key
              · by_cases ha : a = r
                · subst ha; exact Trk.lst upd_same
                · unfold Trk; rw [upd_ne ha]; exact E2.trk a h
              · have n1 := E2.apart j2 i _ _ _ _ _ _ g1 e1' g2 h1 g3 ob (Ne.symm hne) a ha
                exact ⟨upd_ne fun z => n1 (by rw [z]; exact List.mem_cons_of_mem _ rm), n1⟩
              · have h3' : RowsH X.K H2 P ps dss := h3.move s12.del fun a ha => by obtain ⟨ys, z⟩ := h3.at a ha; rw [z]; exact s12 _ _ z
                refine h3'.set sm upd_same ?_ (fun a ha => upd_ne ha) nd'.2 r1
                rw [sd]
                exact hasL_set ((hvd.mono s1.del).mono s2.del) m (r3.mono s12.del)
            · exact h.elim
          · exact h.elim
    · exact h.elim
end
end L2

set_option Elab.async false
set_option linter.all false
set_option maxRecDepth 100000
namespace L2
open PySem PySem.Spec PyProof.Rows
/-! ### min(..) of a list of ints -/
section
variable {X : Cx} {WX : Str → Hp → Prop} {c : Bool} {P0 P : Addr → Prop} {H : Hp} {σ : St} {ρ : Rho} {a b e : Expr} {f g g2 : Rho → M D} {pos : Pos}
end
end L2

set_option Elab.async false
set_option linter.all false
set_option maxRecDepth 100000
namespace L2
open PySem PySem.Spec PyProof.Rows
/-! ### costs -/
/-- a cost or none -/
def cst : Option (Int × Int) → D
  | none => .non
  | some p => .tup [.int p.1, .int p.2]
def addC : Option (Int × Int) → Option (Int × Int) → Option (Int × Int)
  | some p, some q => some (p.1 + q.1, p.2 + q.2)
  | _, _ => none
def ls2 (p q : Int × Int) : Int × Int := if p.1 < q.1 ∨ (p.1 = q.1 ∧ p.2 ≤ q.2) then p else q
def lsC : Option (Int × Int) → Option (Int × Int) → Option (Int × Int)
  | none, b => b
  | some p, none => some p
  | some p, some q => some (ls2 p q)
def minL (cs : List (Option (Int × Int))) : Option (Int × Int) := cs.foldl lsC none
theorem comp_filter (cs : List (Option (Int × Int))) : compM (fun d ρ => .ok (ρ.set 0 (some (.val d)))) (fun ρ => (rv 0 ρ).bind fun x => .ok (!isNonD x)) (rv 0) (cs.map cst) [none] = .ok ((cs.filterMap id).map fun p => cst (some p)) := by
  induction cs with
  | nil => rfl
  | cons c r ih =>
    rw [List.map_cons, compM]
    cases c with
    | none =>
      show compM _ _ _ (r.map cst) [none] = _
      rw [ih]; rfl
    | some p =>
      show (match compM _ _ _ (r.map cst) [none] with | .ok ys => M.ok (cst (some p) :: ys) | _ => .bad) = _
      rw [ih]; rfl
theorem keys_some (ps : List (Int × Int)) : keysD (ps.map fun p => cst (some p)) = some (ps.map fun p => (cst (some p), [p.1, p.2])) := by
  induction ps with
  | nil => rfl
  | cons p r ih => rw [List.map_cons, keysD, ih]; rfl
theorem best_min (cs : List (Option (Int × Int))) : bestA ((cs.filterMap id).map fun p => (cst (some p), [p.1, p.2])) = (minL cs).map fun p => (cst (some p), [p.1, p.2]) := by
  have key : ∀ (cs : List (Option (Int × Int))) (z : Option (Int × Int)), ((cs.filterMap id).map fun p => (cst (some p), [p.1, p.2])).foldl bstep (z.map fun p => (cst (some p), [p.1, p.2])) = (cs.foldl lsC z).map fun p => (cst (some p), [p.1, p.2]) := by
    intro cs
    induction cs with
    | nil => intro z; rfl
    | cons c r ih =>
      intro z
      cases c with
      | none =>
        rw [show List.filterMap id (none :: r) = List.filterMap id r from rfl, List.foldl_cons, ih z]
        cases z <;> rfl
      | some q =>
        rw [show List.filterMap id (some q :: r) = q :: List.filterMap id r from rfl, List.map_cons, List.foldl_cons, List.foldl_cons, ← ih (lsC z (some q))]
        congr 1
        cases z with
        | none => rfl
        | some p =>
          simp only [Option.map_some, bstep, HT.lexLt_cons, HT.lexLt_nil_nil, lsC, ls2]
          by_cases h1 : q.1 = p.1
          · by_cases h2 : q.2 = p.2
            · rw [if_pos (show p.1 < q.1 ∨ (p.1 = q.1 ∧ p.2 ≤ q.2) by omega)]
              simp [h1, h2]
            · by_cases h3 : q.2 < p.2
              · rw [if_neg (show ¬ (p.1 < q.1 ∨ (p.1 = q.1 ∧ p.2 ≤ q.2)) by omega)]
                simp [h1, h2, h3]
              · rw [if_pos (show p.1 < q.1 ∨ (p.1 = q.1 ∧ p.2 ≤ q.2) by omega)]
                simp [h1, h2, h3]
          · by_cases h3 : q.1 < p.1
            · rw [if_neg (show ¬ (p.1 < q.1 ∨ (p.1 = q.1 ∧ p.2 ≤ q.2)) by omega)]
              simp [h1, h3]
            · rw [if_pos (show p.1 < q.1 ∨ (p.1 = q.1 ∧ p.2 ≤ q.2) by omega)]
              simp [h1, h3]
  exact key cs none
theorem dmin_eq (cs : List (Option (Int × Int))) : dMinD (.lst ((cs.filterMap id).map fun p => cst (some p))) .non = .ok (cst (minL cs)) := by
  simp only [dMinD, keys_some, best_min]
  cases minL cs <;> rfl
abbrev Co := Option (Int × Int)
def leC : Co → Co → Prop
  | _, none => True
  | none, some _ => False
  | some p, some q => p.1 < q.1 ∨ (p.1 = q.1 ∧ p.2 ≤ q.2)
theorem leC_refl : ∀ a : Co, leC a a
  | none => trivial
  | some p => .inr ⟨rfl, Int.le_refl _⟩
theorem leC_trans : ∀ {a b c : Co}, leC a b → leC b c → leC a c
  | _, _, none, _, _ => trivial
  | none, none, some _, _, h => h.elim
  | some _, none, some _, _, h => h.elim
  | none, some _, some _, h, _ => h.elim
  | some p, some q, some r, h1, h2 => by simp only [leC] at *; omega
theorem leC_anti : ∀ {a b : Co}, leC a b → leC b a → a = b
  | none, none, _, _ => rfl
  | none, some _, h, _ => h.elim
  | some _, none, _, h => h.elim
  | some p, some q, h1, h2 => by
    obtain ⟨p1, p2⟩ := p
    obtain ⟨q1, q2⟩ := q
    simp only [leC] at h1 h2
    have e1 : p1 = q1 := by omega
    have e2 : p2 = q2 := by omega
    rw [e1, e2]
theorem lsC_cases : ∀ a b : Co, (lsC a b = a ∧ leC a b) ∨ (lsC a b = b ∧ leC b a ∧ a ≠ b)
  | none, none => .inl ⟨rfl, trivial⟩
  | none, some q => .inr ⟨rfl, trivial, fun h => by cases h⟩
  | some p, none => .inl ⟨rfl, trivial⟩
  | some p, some q => by
    unfold lsC ls2
    by_cases h : p.1 < q.1 ∨ (p.1 = q.1 ∧ p.2 ≤ q.2)
    · dsimp only; rw [if_pos h]; exact .inl ⟨rfl, h⟩
    · dsimp only; rw [if_neg h]
      refine .inr ⟨rfl, ?_, fun e => ?_⟩
      · simp only [leC]; omega
      · cases e; exact h (.inr ⟨rfl, Int.le_refl _⟩)
theorem lsC_le1 (a b : Co) : leC (lsC a b) a := by
  rcases lsC_cases a b with ⟨e, h⟩ | ⟨e, h, _⟩
  · rw [e]; exact leC_refl a
  · rw [e]; exact h
theorem lsC_le2 (a b : Co) : leC (lsC a b) b := by
  rcases lsC_cases a b with ⟨e, h⟩ | ⟨e, h, _⟩
  · rw [e]; exact h
  · rw [e]; exact leC_refl b
theorem minL_gen (cs : List Co) : ∀ z : Co, leC (cs.foldl lsC z) z ∧ (∀ x ∈ cs, leC (cs.foldl lsC z) x) ∧ (cs.foldl lsC z = z ∨ cs.foldl lsC z ∈ cs) := by
  induction cs with
  | nil => intro z; exact ⟨leC_refl z, (fun x h => by cases h), .inl rfl⟩
  | cons c r ih =>
    intro z
    obtain ⟨h1, h2, h3⟩ := ih (lsC z c)
    rw [List.foldl_cons]
    refine ⟨leC_trans h1 (lsC_le1 z c), fun x hx => ?_, ?_⟩
    · rcases List.mem_cons.mp hx with rfl | hx
      · exact leC_trans h1 (lsC_le2 z x)
      · exact h2 x hx
    · rcases h3 with h3 | h3
      · rw [h3]
        rcases lsC_cases z c with ⟨e, _⟩ | ⟨e, _⟩
        · exact .inl e
        · rw [e]; exact .inr List.mem_cons_self
      · exact .inr (List.mem_cons_of_mem _ h3)
theorem minL_le {cs : List Co} {x : Co} (h : x ∈ cs) : leC (minL cs) x := (minL_gen cs none).2.1 x h
theorem minL_mem (cs : List Co) : minL cs = none ∨ minL cs ∈ cs := (minL_gen cs none).2.2
theorem minL_is {cs : List Co} {v : Co} (h1 : ∀ x ∈ cs, leC v x) (h2 : v ≠ none → ∃ x ∈ cs, leC x v) : minL cs = v := by
  refine leC_anti ?_ ?_
  · cases v with
    | none => cases minL cs <;> exact trivial
    | some p =>
      obtain ⟨x, hx, hl⟩ := h2 (by intro z; cases z)
      exact leC_trans (minL_le hx) hl
  · rcases minL_mem cs with h | h
    · rw [h]; cases v <;> exact trivial
    · exact h1 _ h
theorem addC_comm : ∀ a b : Co, addC a b = addC b a
  | none, none => rfl
  | none, some _ => rfl
  | some _, none => rfl
  | some p, some q => by simp only [addC]; rw [Int.add_comm, Int.add_comm p.2]
theorem addC_mono : ∀ {a b : Co} (c : Co), leC a b → leC (addC a c) (addC b c)
  | _, none, c, _ => by cases c <;> exact trivial
  | none, some _, c, h => h.elim
  | some p, some q, none, h => trivial
  | some p, some q, some r, h => by simp only [addC, leC] at *; omega
def NN : Co → Prop
  | none => True
  | some p => 0 ≤ p.1 ∧ 0 ≤ p.2
theorem NN_add : ∀ {a b : Co}, NN a → NN b → NN (addC a b)
  | none, none, _, _ => trivial
  | none, some _, _, _ => trivial
  | some _, none, _, _ => trivial
  | some p, some q, h1, h2 => by simp only [addC, NN] at *; omega
theorem NN_ls {a b : Co} (h1 : NN a) (h2 : NN b) : NN (lsC a b) := by
  rcases lsC_cases a b with ⟨e, _⟩ | ⟨e, _⟩
  · rw [e]; exact h1
  · rw [e]; exact h2
/-! ### roads -/
structure Road where
  a : Int
  b : Int
  l : Option Int
  w : Int
def lenD : Option Int → D
  | none => .non
  | some i => .int i
def rdD (r : Road) : D := .tup [.int r.a, .int r.b, lenD r.l, .int r.w]
def netD (m : Int) (rs : List Road) : D := .tup [.int m, .lst (rs.map rdD)]
def rcC (r : Road) : Co := match r.l with | none => none | some l => some (l, 1)
structure OkR (m : Nat) (r : Road) : Prop where
  a0 : 0 ≤ r.a
  a1 : r.a < m
  b0 : 0 ≤ r.b
  b1 : r.b < m
  l0 : ∀ l, r.l = some l → 0 ≤ l
def turnR (r : Road) : Road := ⟨r.b, r.a, r.l, r.w⟩
theorem OkR.turn {m : Nat} {r : Road} (h : OkR m r) : OkR m (turnR r) := ⟨h.b0, h.b1, h.a0, h.a1, h.l0⟩
theorem rc_nn {m : Nat} {r : Road} (h : OkR m r) : NN (rcC r) := by
  unfold rcC
  split
  · trivial
  · rename_i l e
    exact ⟨h.l0 l e, by show (0 : Int) ≤ 1; decide⟩
def atC (cs : List Co) (i : Int) : Co := cs.getD i.toNat none
theorem atC_get {cs : List Co} {i : Int} (h0 : 0 ≤ i) (h1 : i < cs.length) : cs[i.toNat]? = some (atC cs i) := by
  unfold atC
  rw [List.getD_eq_getElem?_getD, List.getElem?_eq_getElem (show i.toNat < cs.length by omega)]
  rfl
theorem atC_set {cs : List Co} {i j : Int} {v : Co} (hi : 0 ≤ i) (hj : 0 ≤ j) (h1 : i < cs.length) : atC (cs.set i.toNat v) j = if j = i then v else atC cs j := by
  unfold atC
  rw [List.getD_eq_getElem?_getD, List.getD_eq_getElem?_getD]
  by_cases h : j = i
  · subst h
    rw [if_pos rfl, List.getElem?_set_self (by omega)]
    rfl
  · rw [if_neg h, List.getElem?_set_ne (by omega)]
/-- the costs that the loop keeps -/
structure Good (m s : Nat) (rs : List Road) (cs : List Co) : Prop where
  len : cs.length = m
  st : atC cs s = some (0, 0)
  nn : ∀ c ∈ cs, NN c
  sup : ∀ p : Int, 0 ≤ p → p < m → p ≠ s → atC cs p ≠ none → ∃ r ∈ rs, r.b = p ∧ leC (addC (atC cs r.a) (rcC r)) (atC cs p)
theorem good_start {m s : Nat} (rs : List Road) (h : s < m) : Good m s rs ((List.replicate m none).set s (some (0, 0))) := by
  have hl : (List.replicate m (none : Co)).length = m := List.length_replicate
  have gat : ∀ i : Int, 0 ≤ i → atC ((List.replicate m none).set s (some (0, 0))) i = if i = s then some (0, 0) else none := fun i hi => by
    have := atC_set (cs := List.replicate m none) (i := (s : Int)) (j := i) (v := some (0, 0)) (by omega) hi (by rw [hl]; omega)
    rw [Int.toNat_natCast] at this
    rw [this]
    by_cases h : i = s
    · rw [if_pos h, if_pos h]
    · rw [if_neg h, if_neg h]
      unfold atC
      rw [List.getD_eq_getElem?_getD, List.getElem?_replicate]
      split <;> rfl
  refine ⟨by rw [List.length_set, hl], ?_, fun c hc => ?_, fun p h0 h1 hp hn => ?_⟩
  · rw [gat s (by omega), if_pos rfl]
  · rcases List.mem_or_eq_of_mem_set hc with h | h
    · rw [List.eq_of_mem_replicate h]; trivial
    · rw [h]; exact ⟨Int.le_refl _, Int.le_refl _⟩
  · rw [gat p h0, if_neg hp] at hn
    exact (hn rfl).elim
/-! ### as data -/
theorem atI_in {α : Type} {l : List α} {n : Int} (h : 0 ≤ n ∧ n < l.length) : atI l n = l[n.toNat]? := by
  unfold atI ixN
  obtain ⟨h1, h2⟩ := h
  simp [h1, h2]
theorem ixN_nat {n : Nat} {j : Int} (h : 0 ≤ j ∧ j < n) : ixN n j = some j.toNat := by
  unfold ixN
  obtain ⟨h1, h2⟩ := h
  simp [h1, h2]
theorem dIx_map {α : Type} {f : α → D} {l : List α} {n : Int} {x : α} (h0 : 0 ≤ n) (h : l[n.toNat]? = some x) : dIx (.lst (l.map f)) (.int n) = .ok (f x) := by
  have h1 := (List.getElem?_eq_some_iff.mp h).1
  unfold dIx
  dsimp only
  rw [atI_in (by rw [List.length_map]; omega), List.getElem?_map, h]
  rfl
theorem dIx_cost {cs : List Co} {i : Int} (h0 : 0 ≤ i) (h1 : i < cs.length) : dIx (.lst (cs.map cst)) (.int i) = .ok (cst (atC cs i)) := dIx_map h0 (atC_get h0 h1)
theorem pl_cst {n : Nat} (c : Co) : Pl (n + 1) (cst c) := by
  cases c with
  | none => exact pl_non
  | some p => exact pl_tup (pl_cons (pl_int _) (pl_cons (pl_int _) pl_nil))
theorem eqD_cst (a b : Co) : eqD (cst a) (cst b) = decide (a = b) := by
  rcases a with _ | ⟨a1, a2⟩ <;> rcases b with _ | ⟨b1, b2⟩
  · simp [cst, eqD]
  · simp [cst, eqD]
  · simp [cst, eqD]
  · rw [Bool.eq_iff_iff]
    simp [cst, eqD, eqDs]
theorem dNe_cst (a b : Co) : dNe 16 (cst a) (cst b) = .ok (.bl (!decide (a = b))) := by rw [dNe_pl (pl_cst (n := 15) a) (pl_cst (n := 15) b), eqD_cst]
theorem dEq_cst (a b : Co) : dEq 16 (cst a) (cst b) = .ok (.bl (decide (a = b))) := by rw [dEq_pl (pl_cst (n := 15) a) (pl_cst (n := 15) b), eqD_cst]
theorem pl_len {n : Nat} (l : Option Int) : Pl n (lenD l) := by
  cases l with
  | none => exact pl_non
  | some i => exact pl_int i
theorem pl_rd (r : Road) : Pl 1 (rdD r) := pl_tup (pl_cons (pl_int _) (pl_cons (pl_int _) (pl_cons (pl_len r.l) (pl_cons (pl_int _) pl_nil))))
theorem pl_net (m : Int) (rs : List Road) : Pl 3 (netD m rs) := pl_tup (pl_cons (pl_int _) (pl_cons (pl_lst fun d hd => by
  obtain ⟨r, _, rfl⟩ := List.mem_map.mp hd
  exact pl_rd r) pl_nil))
def p60 : Int := 10 ^ 60
theorem p60_mod (n : Int) : 0 ≤ n % p60 ∧ n % p60 < 10 ^ 60 := by unfold p60; omega
theorem dPow60 : dPow (.int 10) (.int 60) = .ok (.int p60) := by
  unfold dPow onInts
  dsimp only
  rw [if_pos (by unfold CPow; omega)]
  rfl
theorem dMod_pos {a b : Int} (h : 0 < b) : dMod (.int a) (.int b) = .ok (.int (a % b)) := by
  unfold dMod onInts
  dsimp only
  rw [if_pos h]
theorem dFdiv_lit {a b : Int} (h : CDiv a b) : dFdiv (.int a) (.int b) = .ok (.int (a / b)) := by
  unfold dFdiv onInts
  dsimp only
  rw [if_pos h]
end L2

set_option Elab.async false
set_option linter.all false
set_option maxRecDepth 100000
namespace L2
open PySem PySem.Spec PyProof.Rows
/-! ### ways, and the least that they cost -/
/-- a way from u to w of this cost -/
inductive Wk (rs : List Road) : Int → Int → Int × Int → Prop
  | nil (u : Int) : Wk rs u u (0, 0)
  | cons {r : Road} {l : Int} {w : Int} {c : Int × Int} : r ∈ rs → r.l = some l → Wk rs r.b w c → Wk rs r.a w (l + c.1, 1 + c.2)
theorem Wk.trans {rs : List Road} {u v w : Int} {c d : Int × Int} (h : Wk rs u v c) (k : Wk rs v w d) : Wk rs u w (c.1 + d.1, c.2 + d.2) := by
  induction h with
  | nil u => simpa using k
  | cons hr hl _ ih =>
    have := Wk.cons hr hl (ih k)
    simpa [Int.add_assoc] using this
theorem Wk.one {rs : List Road} {r : Road} {l : Int} (hr : r ∈ rs) (hl : r.l = some l) : Wk rs r.a r.b (l, 1) := by
  have := Wk.cons hr hl (Wk.nil (rs := rs) r.b)
  simpa using this
/-- the least cost of the ways -/
def IsMin (rs : List Road) (u w : Int) (x : Co) : Prop := (∀ c, Wk rs u w c → leC x (some c)) ∧ ∀ p, x = some p → Wk rs u w p
theorem IsMin.uniq {rs : List Road} {u w : Int} {x y : Co} (h : IsMin rs u w x) (k : IsMin rs u w y) : x = y := by
  refine leC_anti ?_ ?_
  · cases y with
    | none => cases x <;> exact trivial
    | some q => exact h.1 q (k.2 q rfl)
  · cases x with
    | none => cases y <;> exact trivial
    | some q => exact k.1 q (h.2 q rfl)
theorem rcC_some {r : Road} {c : Int × Int} (h : rcC r = some c) : ∃ l, r.l = some l ∧ c = (l, 1) := by
  unfold rcC at h
  split at h
  · cases h
  · rename_i l e; cases h; exact ⟨l, e, rfl⟩
theorem addC_some {a b : Co} {c : Int × Int} (h : addC a b = some c) : ∃ p q, a = some p ∧ b = some q ∧ c = (p.1 + q.1, p.2 + q.2) := by
  cases a with
  | none => cases h
  | some p => cases b with
    | none => cases h
    | some q => cases h; exact ⟨p, q, rfl, rfl, rfl⟩
/-! ### going over all places between -/
theorem addC_mono2 {a b c d : Co} (h : leC a b) (k : leC c d) : leC (addC a c) (addC b d) := by
  refine leC_trans (addC_mono c h) ?_
  rw [addC_comm b c, addC_comm b d]
  exact addC_mono b k
theorem addC_assoc : ∀ a b c : Co, addC (addC a b) c = addC a (addC b c)
  | none, b, c => by cases b <;> cases c <;> rfl
  | some p, none, c => by cases c <;> rfl
  | some p, some q, none => rfl
  | some p, some q, some r => by simp only [addC]; rw [Int.add_assoc, Int.add_assoc]
theorem addC_zero : ∀ a : Co, addC a (some (0, 0)) = a
  | none => rfl
  | some p => by simp [addC]
theorem zero_addC (a : Co) : addC (some (0, 0)) a = a := by rw [addC_comm]; exact addC_zero a
theorem lsC_self (a : Co) : lsC a a = a := by rcases lsC_cases a a with ⟨e, _⟩ | ⟨e, _⟩ <;> exact e
theorem leC_addR {a b : Co} (h : NN b) : leC a (addC a b) := by
  cases a with
  | none => exact trivial
  | some p => cases b with
    | none => exact trivial
    | some q => simp only [NN] at h; simp only [addC, leC]; omega
structure FW (m k : Nat) (rs : List Road) (A : Int → Int → Co) : Prop where
  dg : ∀ x : Int, 0 ≤ x → x < m → A x x = some (0, 0)
  nn : ∀ x y : Int, 0 ≤ x → x < m → 0 ≤ y → y < m → NN (A x y)
  sd : ∀ x y : Int, 0 ≤ x → x < m → 0 ≤ y → y < m → ∀ p, A x y = some p → Wk rs x y p
  ed : ∀ r ∈ rs, leC (A r.a r.b) (rcC r)
  tr : ∀ v x y : Int, 0 ≤ v → v < k → 0 ≤ x → x < m → 0 ≤ y → y < m → leC (A x y) (addC (A x v) (A v y))
def over (k : Int) (A : Int → Int → Co) : Int → Int → Co := fun x y => lsC (A x y) (addC (A x k) (A k y))
theorem over_col {m k : Nat} {rs : List Road} {A : Int → Int → Co} (F : FW m k rs A) (hk : k < m) (x : Int) : over k A x k = A x k := by
  unfold over
  rw [F.dg k (by omega) (by omega), addC_zero, lsC_self]
theorem over_row {m k : Nat} {rs : List Road} {A : Int → Int → Co} (F : FW m k rs A) (hk : k < m) (y : Int) : over k A k y = A k y := by
  unfold over
  rw [F.dg k (by omega) (by omega), zero_addC, lsC_self]
theorem fw_phase {m k : Nat} {rs : List Road} {A : Int → Int → Co} (F : FW m k rs A) (hk : k < m) : FW m (k + 1) rs (over k A) := by
  have k0 : (0 : Int) ≤ k := by omega
  have k1 : (k : Int) < m := by omega
  refine ⟨fun x h0 h1 => ?_, fun x y h0 h1 h2 h3 => NN_ls (F.nn x y h0 h1 h2 h3) (NN_add (F.nn x k h0 h1 k0 k1) (F.nn k y k0 k1 h2 h3)), fun x y h0 h1 h2 h3 p hp => ?_, fun r hr => leC_trans (lsC_le1 _ _) (F.ed r hr), fun v x y v0 v1 h0 h1 h2 h3 => ?_⟩
  · unfold over
    rw [F.dg x h0 h1]
    have hn : NN (addC (A x k) (A k x)) := NN_add (F.nn x k h0 h1 k0 k1) (F.nn k x k0 k1 h0 h1)
    cases q : addC (A x k) (A k x) with
    | none => rfl
    | some z =>
      rw [q] at hn
      simp only [NN] at hn
      unfold lsC ls2
      dsimp only
      rw [if_pos (by omega)]
  · unfold over at hp
    rcases lsC_cases (A x y) (addC (A x k) (A k y)) with ⟨e, _⟩ | ⟨e, _⟩
    · rw [e] at hp; exact F.sd x y h0 h1 h2 h3 p hp
    · rw [e] at hp
      obtain ⟨p1, p2, e1, e2, rfl⟩ := addC_some hp
      exact (F.sd x k h0 h1 k0 k1 p1 e1).trans (F.sd k y k0 k1 h2 h3 p2 e2)
  · by_cases hv : v = k
    · subst hv
      rw [over_col F hk, over_row F hk]
      exact lsC_le2 _ _
    · have vk : v < k := by omega
      have vm : v < m := by omega
      have txy := F.tr v x y v0 vk h0 h1 h2 h3
      have tky := F.tr v k y v0 vk k0 k1 h2 h3
      have txk := F.tr v x k v0 vk h0 h1 k0 k1
      have g1 : leC (over k A x y) (A x y) := lsC_le1 _ _
      have g2 : leC (over k A x y) (addC (A x k) (A k y)) := lsC_le2 _ _
      have nkv := F.nn k v k0 k1 v0 vm
      have nvk := F.nn v k v0 vm k0 k1
      have e1 : over k A x v = lsC (A x v) (addC (A x k) (A k v)) := rfl
      have e2 : over k A v y = lsC (A v y) (addC (A v k) (A k y)) := rfl
      rw [e1, e2]
      rcases lsC_cases (A x v) (addC (A x k) (A k v)) with ⟨e, _⟩ | ⟨e, _⟩ <;> rcases lsC_cases (A v y) (addC (A v k) (A k y)) with ⟨e', _⟩ | ⟨e', _⟩ <;> rw [e, e']
      · exact leC_trans g1 txy
      · refine leC_trans g2 ?_
        rw [← addC_assoc]
        exact addC_mono _ txk
      · refine leC_trans g2 ?_
        rw [addC_assoc, addC_comm (A x k), addC_comm (A x k)]
        exact addC_mono _ tky
      · refine leC_trans g2 ?_
        have e3 : addC (addC (A x k) (A k v)) (addC (A v k) (A k y)) = addC (addC (A x k) (A k y)) (addC (A k v) (A v k)) := by
          rw [addC_assoc, addC_assoc, ← addC_assoc (A k v), addC_comm (addC (A k v) (A v k))]
        rw [e3]
        exact leC_addR (NN_add nkv nvk)
theorem fw_end {m : Nat} {rs : List Road} {A : Int → Int → Co} (F : FW m m rs A) (hok : ∀ r ∈ rs, OkR m r) {x y : Int} (h0 : 0 ≤ x) (h1 : x < m) (h2 : 0 ≤ y) (h3 : y < m) : IsMin rs x y (A x y) := by
  refine ⟨fun c k => ?_, F.sd x y h0 h1 h2 h3⟩
  induction k with
  | nil u => rw [F.dg u h0 h1]; exact leC_refl _
  | @cons r l w c hr hl k' ih =>
    have ok := hok r hr
    have i1 := ih ok.b0 ok.b1 h2 h3
    have t := F.tr r.b r.a w ok.b0 (by have := ok.b1; omega) h0 h1 h2 h3
    have e := F.ed r hr
    have e' : rcC r = some (l, 1) := by unfold rcC; rw [hl]
    rw [e'] at e
    refine leC_trans t (leC_trans (addC_mono2 e i1) ?_)
    exact leC_refl _
/-- the first row of u -/
structure RowU (m : Nat) (rs : List Road) (u : Int) (n : Nat) (R : List Co) : Prop where
  len : R.length = m
  st : atC R u = some (0, 0)
  nn : ∀ c ∈ R, NN c
  sd : ∀ y : Int, 0 ≤ y → y < m → ∀ p, atC R y = some p → Wk rs u y p
  ed : ∀ r ∈ rs.take n, r.a = u → leC (atC R r.b) (rcC r)
theorem row_start {m u : Nat} (rs : List Road) (h : u < m) : RowU m rs u 0 ((List.replicate m none).set u (some (0, 0))) := by
  have g := good_start (m := m) (s := u) rs h
  refine ⟨g.len, g.st, g.nn, fun y h0 h1 p hp => ?_, fun r hr => by rw [List.take_zero] at hr; cases hr⟩
  by_cases hy : y = u
  · rw [hy, g.st] at hp; cases hp; rw [hy]; exact .nil _
  · have := atC_set (cs := List.replicate m none) (i := (u : Int)) (j := y) (v := some (0, 0)) (by omega) h0 (by rw [List.length_replicate]; omega)
    rw [Int.toNat_natCast, if_neg hy] at this
    rw [this] at hp
    unfold atC at hp
    rw [List.getD_eq_getElem?_getD, List.getElem?_replicate] at hp
    split at hp <;> cases hp
theorem row_skip {m : Nat} {rs : List Road} {u : Int} {n : Nat} {R : List Co} {r : Road} (g : RowU m rs u n R) (hr : rs[n]? = some r) (hu : r.a ≠ u) : RowU m rs u (n + 1) R :=
  ⟨g.len, g.st, g.nn, g.sd, fun r' hr' hu' => by
    rw [List.take_add_one, hr] at hr'
    rcases List.mem_append.mp hr' with h | h
    · exact g.ed r' h hu'
    · have : r' = r := by simpa using h
      rw [this] at hu'; exact (hu hu').elim⟩
theorem row_step {m : Nat} {rs : List Road} {u : Int} {n : Nat} {R : List Co} {r : Road} (g : RowU m rs u n R) (hr : rs[n]? = some r) (hu : r.a = u) (hok : ∀ r ∈ rs, OkR m r) : RowU m rs u (n + 1) (R.set r.b.toNat (lsC (atC R r.b) (rcC r))) := by
  have hm := List.mem_of_getElem? hr
  have ok := hok r hm
  have hb1 : r.b < R.length := by rw [g.len]; exact ok.b1
  have gat : ∀ i : Int, 0 ≤ i → atC (R.set r.b.toNat (lsC (atC R r.b) (rcC r))) i = if i = r.b then lsC (atC R r.b) (rcC r) else atC R i := fun i hi => atC_set ok.b0 hi hb1
  have nb : NN (atC R r.b) := g.nn _ (List.mem_of_getElem? (atC_get ok.b0 hb1))
  refine ⟨by rw [List.length_set]; exact g.len, ?_, fun c hc => ?_, fun y h0 h1 p hp => ?_, fun r' hr' hu' => ?_⟩
  · rw [gat u (by rw [← hu]; exact ok.a0)]
    by_cases h : u = r.b
    · rw [if_pos h, ← h, g.st]
      have hx := rc_nn ok
      cases q : rcC r with
      | none => rfl
      | some z =>
        rw [q] at hx
        simp only [NN] at hx
        unfold lsC ls2
        dsimp only
        rw [if_pos (by omega)]
    · rw [if_neg h]; exact g.st
  · rcases List.mem_or_eq_of_mem_set hc with h | h
    · exact g.nn c h
    · rw [h]; exact NN_ls nb (rc_nn ok)
  · rw [gat y h0] at hp
    by_cases h : y = r.b
    · rw [if_pos h] at hp
      rcases lsC_cases (atC R r.b) (rcC r) with ⟨e, _⟩ | ⟨e, _⟩
      · rw [e] at hp; rw [h]; exact g.sd r.b ok.b0 ok.b1 p hp
      · rw [e] at hp
        obtain ⟨l, hl, rfl⟩ := rcC_some hp
        rw [h, ← hu]; exact Wk.one hm hl
    · rw [if_neg h] at hp; exact g.sd y h0 h1 p hp
  · have hr'm : r' ∈ rs := List.mem_of_mem_take hr'
    rw [gat r'.b (hok r' hr'm).b0]
    rw [List.take_add_one, hr] at hr'
    rcases List.mem_append.mp hr' with h | h
    · by_cases hb : r'.b = r.b
      · rw [if_pos hb]
        have := g.ed r' h hu'
        rw [hb] at this
        exact leC_trans (lsC_le1 _ _) this
      · rw [if_neg hb]; exact g.ed r' h hu'
    · have e : r' = r := by simpa using h
      rw [e, if_pos rfl]
      exact lsC_le2 _ _
/-! ### as lists of lists -/
def at2 (css : List (List Co)) (x y : Int) : Co := atC (css.getD x.toNat []) y
def rowsD (css : List (List Co)) : List (List D) := css.map fun R => R.map cst
structure Mat (m : Nat) (css : List (List Co)) : Prop where
  len : css.length = m
  row : ∀ R ∈ css, R.length = m
theorem Mat.get {m : Nat} {css : List (List Co)} (h : Mat m css) {x : Int} (h0 : 0 ≤ x) (h1 : x < m) : css[x.toNat]? = some (css.getD x.toNat []) ∧ (css.getD x.toNat []).length = m := by
  have hl : x.toNat < css.length := by rw [h.len]; omega
  have e : css[x.toNat]? = some (css.getD x.toNat []) := by rw [List.getD_eq_getElem?_getD, List.getElem?_eq_getElem hl]; rfl
  exact ⟨e, h.row _ (List.mem_of_getElem? e)⟩
def put2 (css : List (List Co)) (x y : Int) (v : Co) : List (List Co) := css.set x.toNat ((css.getD x.toNat []).set y.toNat v)
theorem Mat.put {m : Nat} {css : List (List Co)} (h : Mat m css) {x y : Int} (h0 : 0 ≤ x) (h1 : x < m) (h2 : 0 ≤ y) (h3 : y < m) (v : Co) : Mat m (put2 css x y v) ∧ ∀ x' y' : Int, 0 ≤ x' → 0 ≤ y' → at2 (put2 css x y v) x' y' = if x' = x ∧ y' = y then v else at2 css x' y' := by
  obtain ⟨e, hl⟩ := h.get h0 h1
  refine ⟨⟨by unfold put2; rw [List.length_set]; exact h.len, fun R hR => ?_⟩, fun x' y' hx hy => ?_⟩
  · unfold put2 at hR
    rcases List.mem_or_eq_of_mem_set hR with z | z
    · exact h.row R z
    · rw [z, List.length_set]; exact hl
  · unfold at2 put2
    by_cases hxx : x' = x
    · subst hxx
      have e2 : (css.set x'.toNat ((css.getD x'.toNat []).set y.toNat v)).getD x'.toNat [] = (css.getD x'.toNat []).set y.toNat v := by
        rw [List.getD_eq_getElem?_getD (l := css.set _ _), List.getElem?_set_self (by rw [h.len]; omega)]; rfl
      rw [e2, atC_set h2 hy (by rw [hl]; exact h3)]
      by_cases hyy : y' = y
      · rw [if_pos hyy, if_pos ⟨rfl, hyy⟩]
      · rw [if_neg hyy, if_neg (fun z => hyy z.2)]
    · have e2 : (css.set x.toNat ((css.getD x.toNat []).set y.toNat v)).getD x'.toNat [] = css.getD x'.toNat [] := by
        rw [List.getD_eq_getElem?_getD, List.getElem?_set_ne (by omega), List.getD_eq_getElem?_getD]
      rw [e2, if_neg (fun z => hxx z.1)]
theorem rowsD_at {m : Nat} {css : List (List Co)} (h : Mat m css) {x : Int} (h0 : 0 ≤ x) (h1 : x < m) : rowAt (rowsD css) (.int x) = .ok ((css.getD x.toNat []).map cst) := by
  obtain ⟨e, hl⟩ := h.get h0 h1
  have e1 : ixN (rowsD css).length x = some x.toNat := ixN_nat ⟨h0, by unfold rowsD; rw [List.length_map, h.len]; exact h1⟩
  have e2 : (rowsD css)[x.toNat]? = some ((css.getD x.toNat []).map cst) := by unfold rowsD; rw [List.getElem?_map, e]; rfl
  unfold rowAt
  simp only [e1, e2]
theorem dIx_row {m : Nat} {css : List (List Co)} (h : Mat m css) {x y : Int} (h0 : 0 ≤ x) (h1 : x < m) (h2 : 0 ≤ y) (h3 : y < m) : dIx (.lst ((css.getD x.toNat []).map cst)) (.int y) = .ok (cst (at2 css x y)) :=
  dIx_cost h2 (by rw [(h.get h0 h1).2]; exact h3)
theorem putJ_at {m : Nat} {css : List (List Co)} (h : Mat m css) {x y : Int} (h0 : 0 ≤ x) (h1 : x < m) (h2 : 0 ≤ y) (h3 : y < m) (i : Nat) (ρ : Rho) (v : Co) : putJ i ρ (rowsD css) (cst v) (.int x) ((css.getD x.toNat []).map cst) (.int y) = .ok (.next (ρ.set i (some (.ow (.rows (rowsD (put2 css x y v))))))) := by
  have e1 : ixN (rowsD css).length x = some x.toNat := ixN_nat ⟨h0, by unfold rowsD; rw [List.length_map, h.len]; exact h1⟩
  have e2 : ixN ((css.getD x.toNat []).map cst).length y = some y.toNat := ixN_nat ⟨h2, by rw [List.length_map, (h.get h0 h1).2]; exact h3⟩
  unfold putJ
  simp only [e1, e2]
  unfold rowsD put2
  rw [List.map_set, List.map_set]
end L2

set_option Elab.async false
set_option linter.all false
set_option maxRecDepth 100000
namespace L2
open PySem PySem.Spec PyProof.Rows
theorem FW.congr {m k : Nat} {rs : List Road} {A B : Int → Int → Co} (F : FW m k rs A) (hk : k ≤ m) (hok : ∀ r ∈ rs, OkR m r) (h : ∀ x y : Int, 0 ≤ x → x < m → 0 ≤ y → y < m → B x y = A x y) : FW m k rs B := by
  refine ⟨fun x h0 h1 => ?_, fun x y h0 h1 h2 h3 => ?_, fun x y h0 h1 h2 h3 p hp => ?_, fun r hr => ?_, fun v x y v0 v1 h0 h1 h2 h3 => ?_⟩
  · rw [h x x h0 h1 h0 h1]; exact F.dg x h0 h1
  · rw [h x y h0 h1 h2 h3]; exact F.nn x y h0 h1 h2 h3
  · rw [h x y h0 h1 h2 h3] at hp; exact F.sd x y h0 h1 h2 h3 p hp
  · have ok := hok r hr
    rw [h r.a r.b ok.a0 ok.a1 ok.b0 ok.b1]; exact F.ed r hr
  · rw [h x y h0 h1 h2 h3, h x v h0 h1 v0 (by omega), h v y v0 (by omega) h2 h3]
    exact F.tr v x y v0 v1 h0 h1 h2 h3
theorem fw_start {m : Nat} {rs : List Road} {css : List (List Co)} (hM : Mat m css) (hok : ∀ r ∈ rs, OkR m r) (h : ∀ u : Nat, u < m → RowU m rs u rs.length (css.getD u [])) : FW m 0 rs (at2 css) := by
  have key : ∀ x : Int, 0 ≤ x → x < m → RowU m rs x rs.length (css.getD x.toNat []) := fun x h0 h1 => by
    have := h x.toNat (by omega)
    rw [Int.toNat_of_nonneg h0] at this
    exact this
  refine ⟨fun x h0 h1 => (key x h0 h1).st, fun x y h0 h1 h2 h3 => (key x h0 h1).nn _ (List.mem_of_getElem? (atC_get h2 (by rw [(key x h0 h1).len]; exact h3))), fun x y h0 h1 h2 h3 p hp => (key x h0 h1).sd y h2 h3 p hp, fun r hr => ?_, fun v x y v0 v1 => by omega⟩
  have ok := hok r hr
  exact (key r.a ok.a0 ok.a1).ed r (by rw [List.take_length]; exact hr) rfl
/-! ### last roads -/
def hit (rs : List Road) (cs : List Co) (p : Nat) (k : Nat) : Bool := match rs[k]? with
  | some r => decide (r.b = (p : Int)) && decide (addC (atC cs r.a) (rcC r) ≠ none) && decide (addC (atC cs r.a) (rcC r) = atC cs (p : Int))
  | none => false
end L2

set_option Elab.async false
set_option linter.all false
set_option maxRecDepth 100000
namespace L2
open PySem PySem.Spec PyProof.Rows
/-! ### a def to which a list of one's own is lent: it changes it, and gives back None -/
def gIO (K : PySem.W.Frag) (P : Addr → Prop) (p : Addr) (H : Hp) (Q : VK) : M (List D) → Prop
  | .ok ds => ∀ H' P' xs, (∀ a, P a → P' a) → (∀ a, P' a → Trk H' a) → Same (del H P) (del H' P') → (∀ a, P a → a ≠ p → H' a = H a) → H' p = some (.lst xs) → HasL K (del H' P') xs ds → Q .non H'
  | _ => False
def spIO (K : PySem.W.Frag) (n : Nat) (F : Addr → List D → List D → M (List D)) : Sp := fun vs H Q _ => vs.length = n ∧ ∃ P p xs ds rest dsr, vs = .ref p :: rest ∧ (∀ a, P a → Trk H a) ∧ P p ∧ H p = some (.lst xs) ∧ HasL K (del H P) xs ds ∧ HasL K (del H P) rest dsr ∧ gIO K P p H Q (F p ds dsr)
def stIO (N : List Str) (p : Addr) (ds dsr : List D) : Rho := some (.ow (.anc p ds)) :: (dsr.map (fun d => some (.val d)) ++ List.replicate (N.length - (dsr.length + 1)) none)
def finIO (p : Addr) (m : M Out) : M (List D) := match m with
  | .ok (.next ρ) => (match (ρ[0]? : Option (Option Cl)) with | some (some (Cl.ow (Ow.anc q ds))) => if q = p then .ok ds else .bad | _ => .bad)
  | _ => .bad
theorem env_startIO {K : PySem.W.Frag} {P : Addr → Prop} {H : Hp} {N : List Str} {p : Addr} {xs rest : List V} {ds dsr : List D} (ht : ∀ a, P a → Trk H a) (hp : P p) (hH : H p = some (.lst xs)) (hx : HasL K (del H P) xs ds) (h : HasL K (del H P) rest dsr) :
    EnvP K (fun a => P a ∧ a ≠ p) P H (start N (.ref p :: rest)) (stIO N p ds dsr) := by
  have hl := h.length
  have key : ∀ (i : Nat) (c : Cl), (dsr.map (fun d => some (Cl.val d)) ++ List.replicate (N.length - (dsr.length + 1)) none)[i]? = some (some c) → ∃ d, dsr[i]? = some d ∧ c = .val d := fun i c e => by
    by_cases hi : i < dsr.length
    · rw [List.getElem?_append_left (by simpa using hi), List.getElem?_map] at e
      cases q : dsr[i]? with
      | none => rw [q] at e; cases e
      | some d => rw [q] at e; cases e; exact ⟨d, rfl, rfl⟩
    · rw [List.getElem?_append_right (by simpa using hi), List.getElem?_replicate] at e
      split at e <;> cases e
  have st0 : (start N (.ref p :: rest))[0]? = some (some (.ref p)) := by unfold start; rfl
  refine ⟨fun a h => h.1, ht, fun i d e => ?_, fun i c e io => ?_, fun i j c c' v v' fp fp' e1 e2 _ _ o1 o2 hne => ?_, ?_⟩
  · cases i with
    | zero => cases e
    | succ i =>
      obtain ⟨d', q, z⟩ := key i _ (by unfold stIO at e; simpa using e)
      cases z
      obtain ⟨v, hv, hd⟩ := h.get q
      refine ⟨v, ?_, hd⟩
      unfold start
      rw [List.map_cons, List.cons_append, List.getElem?_cons_succ, List.getElem?_append_left (by rw [List.length_map]; exact (List.getElem?_eq_some_iff.mp hv).1), List.getElem?_map, hv]
      rfl
  · cases i with
    | zero =>
      cases e
      exact ⟨_, [p], st0, ⟨xs, rfl, rfl, hH, hx⟩, fun a ha => by rw [List.mem_singleton.mp ha]; exact ⟨hp, fun z => z.2 rfl⟩, by simp⟩
    | succ i =>
      obtain ⟨d', q, z⟩ := key i _ (by unfold stIO at e; simpa using e)
      cases z
      cases io
  · cases i with
    | zero =>
      cases j with
      | zero => exact (hne rfl).elim
      | succ j =>
        obtain ⟨d', q, z⟩ := key j _ (by unfold stIO at e2; simpa using e2)
        cases z
        exact o2.elim
    | succ i =>
      obtain ⟨d', q, z⟩ := key i _ (by unfold stIO at e1; simpa using e1)
      cases z
      exact o1.elim
  · unfold start stIO
    simp [hl]
theorem fn_IO {P : Program} {w : World} {K : PySem.W.Frag} {mg : Str → Option Value} {base : Heap} {x qual : Str} {st : Stmt} {f : Addr} {fd : FuncData} {N ps : List Str} {k : Nat} (F : Fun K x qual st f fd) (S : FnScope N ps (defScope st)) (g : Rho → M Out)
    (hb : ∀ (cdv : Value) (A : Around) (outer : List Env) (s : Shared) (H : Hp) (E : XK), Room k (A.deeper (envOfC qual (defScope st) s.heap.objs.size f cdv)) → DSs (cxOf CX0 P w K mg base N qual (defScope st) f cdv A outer s H E).nox (fun _ _ => False) (defBody st) g) :
    FnOk P w K mg base CX0 (k + 1) f fd ps (spIO K ps.length fun p ds dsr => finIO p (g (stIO N p ds dsr))) := by
  refine F.ok S (fun vs H Q E h => h.1) fun cdv A outer s H vs Q E hr h => ?_
  obtain ⟨hl, P', p, xs, ds, rest, dsr, rfl, ht, hp, hH, hx, hv, hq⟩ := h
  obtain ⟨t, h1, h2⟩ := hb cdv A outer s H E hr
  refine ⟨t, h1, h2 (fun a => P' a ∧ a ≠ p) P' _ H _ _ (env_startIO ht hp hH hx hv) ?_⟩
  dsimp only at hq
  revert hq
  cases g (stIO N p ds dsr) with
  | bad => exact fun h => h.elim
  | ex x => exact fun h => h.elim
  | ok o =>
    cases o with
    | ret d => exact fun h => h.elim
    | next ρ =>
      intro hq σ' H' P2 t E
      unfold finIO at hq
      dsimp only at hq
      split at hq
      · rename_i q ds' e
        by_cases he : q = p
        · subst he
          rw [if_pos rfl] at hq
          obtain ⟨v, fp, k1, ⟨xs', rfl, rfl, k2, k3⟩, k4, _⟩ := E.ows 0 _ e rfl
          refine hq H' P2 xs' (fun a ha => ?_) E.trk t.1 (fun a ha hne => t.2 a ⟨ha, hne⟩) k2 k3
          by_cases hap : a = q
          · subst hap; exact (k4 a List.mem_cons_self).1
          · exact E.sub a ⟨ha, hap⟩
        · rw [if_neg he] at hq; exact hq.elim
      · exact hq.elim
    | brk ρ => exact fun h => h.elim
    | cont ρ => exact fun h => h.elim
structure FnIO (P : Program) (w : World) (K : PySem.W.Frag) (mg : Str → Option Value) (base : Heap) (x : Str) (k n : Nat) (F : Addr → List D → List D → M (List D)) : Prop where
  ex : ∃ fa fd ps, FnOk P w K mg base CX0 k fa fd ps (spIO K n F) ∧ mg x = some (.ref fa) ∧ PySem.W.keepIn K (.ref fa) = true ∧ Binds K fd ps []
theorem fnIO_of {P : Program} {w : World} {K : PySem.W.Frag} {mg : Str → Option Value} {base : Heap} {x : Str} {st : Stmt} {N ps : List Str} {k n : Nat} (T : FunAt K mg x st ps) (S : FnScope N ps (defScope st)) (g : Rho → M Out)
    (hb : ∀ (f : Addr) (cdv : Value) (A : Around) (outer : List Env) (s : Shared) (H : Hp) (E : XK), Room k (A.deeper (envOfC x (defScope st) s.heap.objs.size f cdv)) → DSs (cxOf CX0 P w K mg base N x (defScope st) f cdv A outer s H E).nox (fun _ _ => False) (defBody st) g) (hn : ps.length = n := by rfl) :
    FnIO P w K mg base x (k + 1) n (fun p ds dsr => finIO p (g (stIO N p ds dsr))) := by
  obtain ⟨f, fd, F, hm, hB⟩ := T.ex
  subst hn
  exact ⟨⟨f, fd, ps, fn_IO F S g (hb f), hm, F.kp, hB⟩⟩
section
variable {X : Cx} {WX : Str → Hp → Prop} {c : Bool} {e : Expr} {es : List Expr} {fs : Rho → M (List D)} {pos : Pos}
/-- f(name, ..): the list of one's own at the name is lent; no address is in the answer -/
noncomputable def lendM (i : Nat) (F : Addr → List D → List D → M (List D)) (ρ : Rho) (m : M (List D)) : M Out := match ρ[i]? with
  | some (some (.own ds)) => m.bind fun dsr => @dite _ (∃ ds', ∀ p, F p ds dsr = .ok ds') (Classical.propDecidable _) (fun h => .ok (.next (ρ.set i (some (.own (Classical.choose h)))))) (fun _ => .bad)
  | _ => .bad
theorem lendM_ok {i : Nat} {F : Addr → List D → List D → M (List D)} {ρ : Rho} {ds dsr ds' : List D} (h : ρ[i]? = some (some (.own ds))) (hF : ∀ p, F p ds dsr = .ok ds') : lendM i F ρ (.ok dsr) = .ok (.next (ρ.set i (some (.own ds')))) := by
  unfold lendM
  rw [h]
  simp only [M.bind_ok]
  have hx : ∃ ds', ∀ p, F p ds dsr = .ok ds' := ⟨ds', hF⟩
  rw [dif_pos hx]
  have := Classical.choose_spec hx 0
  rw [hF 0] at this
  injection this with this
  rw [← this]
theorem ds_callIO (i : Nat) {k n : Nat} {F : Addr → List D → List D → M (List D)} {x y : Str} {p p1 cpos : Pos} (G : FnIO X.prog X.w X.K X.mg X.base x k n F) (hr : Room k X.A) (hg : Gl X x) (hv : PE X (.Name y p1) (tVar i)) (ha : DA X WX true es fs) (hn : es.length + 1 = n)
    (hdb : (x == ("__debug__" : Str)) = false := by decide) (he : starEach (.Name y p1 :: es) X.env = (false, eval (.Name y p1) X.env) :: starEach es X.env := by rfl) (hpl : (backTo cpos (starEach es X.env)).any (·.1) = false := by rfl)
    (hs : swapsWith (.Call (.Name x p) (.Name y p1 :: es) [] cpos) none pos.line X.env = pure false := by rfl) :
    DS X WX (.Expr (.Call (.Name x p) (.Name y p1 :: es) [] cpos) pos) (fun ρ => lendM i F ρ (fs ρ)) := by
  obtain ⟨fa, fd, ps, hF, hm, hk, hb⟩ := G.ex
  obtain ⟨ta, a1, a2, a3⟩ := ha
  refine ⟨_, ps_expr (pe_call (E := E0) hF hr hg hm hk hb .nil pass0 (pa_cons hv a1 he) hdb he hpl) hs, fun P0 P σ H Z ρ E h => ?_⟩
  dsimp only at h
  unfold lendM at h
  split at h
  · rename_i ds e1
    obtain ⟨p, xs, h1, h2, h3, h4, h5⟩ := E.own i ds e1
    refine ⟨_, h1, a2 P0 P σ H _ ρ E ?_⟩
    cases q : fs ρ with
    | bad => rw [q] at h; exact h
    | ex y => rw [q] at h; exact fun H' s => h H' P (E.tr s)
    | ok dsr =>
      rw [q] at h
      simp only [M.bind_ok] at h
      by_cases hx : ∃ ds', ∀ p, F p ds dsr = .ok ds'
      · rw [dif_pos hx] at h
        intro vs H1 s1 hvs
        have E1 := E.same s1
        show spIO X.K n F ((V.ref p :: vs) ++ []) H1 _ _
        rw [List.append_nil]
        refine ⟨by rw [List.length_cons, hvs.length, a3 ρ dsr q]; exact hn, P, p, xs, ds, vs, dsr, rfl, E1.trk, h3, s1 _ _ h2, h5.mono s1.del, hvs, ?_⟩
        rw [Classical.choose_spec hx p]
        intro H' P' xs' k1 k2 k3 k4 k5 k6
        obtain ⟨v0, fp0, g1, o0, _⟩ := E1.ows i _ e1 rfl
        rw [h1] at g1; cases g1
        have key := E1.putO (P' := P') (H' := H') (i := i) (v := .ref p) (c := .own (Classical.choose hx)) (fp := [p]) k1 k2 k3 (fun j c' v' fp' hne g1 g2 g3 a ha => ?_) ⟨p, xs', rfl, rfl, k5, k6⟩ (fun a ha => by rw [List.mem_singleton.mp ha]; exact ⟨k1 p h3, h4⟩) (by simp)
        · rw [set_at h1] at key
          exact h _ _ _ ((E.tr s1).trans ⟨k3, fun a ha => k4 a (E.sub a ha) fun z => h4 (by rw [← z]; exact ha)⟩) key
        · obtain ⟨p', ys, e, rfl, _⟩ := o0
          cases e
          have n1 := E1.apart j i _ _ _ _ _ _ g1 e1 g2 h1 g3 ⟨p, ys, rfl, rfl, by assumption⟩ (Ne.symm hne) a ha
          have hap : a ≠ p := fun z => n1 (by rw [z]; exact List.mem_singleton.mpr rfl)
          obtain ⟨_, _, _, _, hP, _⟩ := E1.ows j _ g1 (by cases c' <;> first | rfl | exact g3.elim)
          refine ⟨k4 a ?_ hap, n1⟩
          obtain ⟨w, fq, m1, m2, m3, _⟩ := E1.ows j _ g1 (by cases c' <;> first | rfl | exact g3.elim)
          rw [g2] at m1; cases m1
          rw [← m2.uniq g3] at ha
          exact (m3 a ha).1
      · rw [dif_neg hx] at h; exact h.elim
  · exact h.elim
end
end L2

set_option Elab.async false
set_option linter.all false
set_option maxRecDepth 100000
namespace L2
open PySem PySem.Spec PyProof.Rows
section
variable {X : Cx} {WX : Str → Hp → Prop} {c : Bool} {P0 P : Addr → Prop} {H : Hp} {σ : St} {ρ : Rho} {a b e : Expr} {f g g2 : Rho → M D} {pos : Pos}
/-! ### .. is True, is not False -/
theorem op_isB : OpR X (compareOp .Is) (fun x y H Q => ∃ k l, x = .bl k ∧ y = .bl l ∧ Q (.bl (k == l)) H) := by
  intro pins s σ H x y v u Q I rx ry h
  obtain ⟨k, l, rfl, rfl, q⟩ := h
  cases rx
  cases ry
  refine wpAny_is_plain rfl (fin_bl I q ?_)
  cases k <;> cases l <;> rfl
theorem op_isNotB : OpR X (compareOp .IsNot) (fun x y H Q => ∃ k l, x = .bl k ∧ y = .bl l ∧ Q (.bl (!(k == l))) H) := by
  intro pins s σ H x y v u Q I rx ry h
  obtain ⟨k, l, rfl, rfl, q⟩ := h
  cases rx
  cases ry
  refine wpAny_isNot_plain rfl (fin_bl I q ?_)
  cases k <;> cases l <;> rfl
def dIsB (x y : D) : M D := match x, y with
  | .bl k, .bl l => .ok (.bl (k == l))
  | _, _ => .bad
def dIsNotB (x y : D) : M D := match x, y with
  | .bl k, .bl l => .ok (.bl (!(k == l)))
  | _, _ => .bad
theorem opd_isB : OpD X.K WX (fun x y H Q => ∃ k l, x = .bl k ∧ y = .bl l ∧ Q (.bl (k == l)) H) dIsB := by
  intro P H x y v w Q ht hx hy h
  unfold dIsB at h
  split at h
  · rw [hx.bl_inv, hy.bl_inv]
    exact ⟨_, _, rfl, rfl, h _ H (Same.refl H) (.bl _)⟩
  · exact h.elim
theorem opd_isNotB : OpD X.K WX (fun x y H Q => ∃ k l, x = .bl k ∧ y = .bl l ∧ Q (.bl (!(k == l))) H) dIsNotB := by
  intro P H x y v w Q ht hx hy h
  unfold dIsNotB at h
  split at h
  · rw [hx.bl_inv, hy.bl_inv]
    exact ⟨_, _, rfl, rfl, h _ H (Same.refl H) (.bl _)⟩
  · exact h.elim
theorem de_isB (ha : DE X WX c a f) (hb : DE X WX c b g) : DE X WX c (.Compare a [.Is] [b] pos) (fun ρ => (f ρ).bind fun x => (g ρ).bind fun y => dIsB x y) := de_cmp op_isB opd_isB ha hb (nomark _)
theorem dt_isNotB (ha : DE X WX c a f) (hb : DE X WX c b g) : DT X WX (.Compare a [.IsNot] [b] pos) (fun ρ => ((f ρ).bind fun x => (g ρ).bind fun y => dIsNotB x y).bind asB) := dt_cmpR op_isNotB opd_isNotB ha hb (nomark _)
/-! ### max(a, b) -/
def dMax2 (ds : List D) : M D := match ds with
  | [.int i, .int j] => .ok (.int (if j > i then j else i))
  | _ => .bad
theorem cd_max2 : CallD X.K WX (fun xs H Q => ∃ i j, xs = [.int i, .int j] ∧ Q (.int (if j > i then j else i)) H) dMax2 := by
  intro P H ds vs Q ht hl h
  unfold dMax2 at h
  split at h
  · obtain ⟨v, w, rfl, hv, hw⟩ := hl.two
    cases hv
    cases hw
    exact ⟨_, _, rfl, h _ H (Same.refl H) (.int _)⟩
  · exact h.elim
theorem de_max2 {p : Pos} (hc : X.calm = true) (hg : Gl X "max") (hm : X.mg "max" = none) (ha : DE X WX c a f) (hb2 : DE X WX c b g) (hb : bootBuiltins "max" = some (.builtin "max") := by decide +kernel) (hs : starEach [b] X.env = [(false, eval b X.env)] := by rfl) (hs2 : starEach [a, b] X.env = (false, eval a X.env) :: starEach [b] X.env := by rfl) (hpl : (backTo pos (starEach [b] X.env)).any (·.1) = false := by rfl) :
    DE X WX c (.Call (.Name "max" p) [a, b] [] pos) (fun ρ => ((f ρ).bind fun d => ((g ρ).bind fun d => (M.ok []).bind fun ds => .ok (d :: ds)).bind fun ds => .ok (d :: ds)).bind dMax2) :=
  de_callB (call_max2 hc) cd_max2 hg hm hb (da_cons ha (da_cons hb2 da_nil hs) hs2) (he := hs2) (hpl := hpl)
/-! ### list(name) of one's own list; name = list(e), a list of one's own -/
def lstO (i : Nat) (ρ : Rho) : M D := match ρ[i]? with
  | some (some (.own ds)) => .ok (.lst ds)
  | some (some (.ow (.anc _ ds))) => .ok (.lst ds)
  | _ => .bad
theorem de_listO (i : Nat) {x : Str} {p p1 : Pos} (hg : Gl X "list") (hm : X.mg "list" = none) (hv : PE X (.Name x p1) (tVar i)) (hb : bootBuiltins "list" = some (.type "list") := by decide +kernel) (hs : starEach [.Name x p1] X.env = [(false, eval (.Name x p1) X.env)] := by rfl) : DE X WX true (.Call (.Name "list" p) [.Name x p1] [] pos) (lstO i) := by
  refine ⟨_, pe_callTy call_list_of hg hm hb (pa_cons hv pa_nil hs) (he := hs), fun P0 P σ H Q ρ E h => ?_⟩
  have key : ∀ p xs ds, σ[i]? = some (some (.ref p)) → H p = some (.lst xs) → HasL X.K (del H P) xs ds → gV X.K WX (Lv true P0 P) H Q (.ok (.lst ds)) → tCB (fun xs H Q => ∃ p ys, xs = [.ref p] ∧ (SqL X.K H p ys ∨ SqT X.K H p ys) ∧ ∀ l, H l = none → Q (.ref l) (upd H l (.lst ys))) (tCons (tVar i) tNil) σ H Q := fun p xs ds h1 h2 h3 h => by
    refine ⟨_, h1, p, xs, rfl, .inl (.of h2), fun l hn => h _ _ (same_new hn _) (.lst (.of ?_) (h3.mono (same_new hn _).del))⟩
    exact new_del hn E.trk
  unfold lstO at h
  split at h
  · rename_i ds e1
    obtain ⟨p, xs, h1, h2, h3, h4, h5⟩ := E.own i ds e1
    exact key p xs ds h1 h2 h5 h
  · rename_i p ds e1
    obtain ⟨v, fp, h1, ⟨xs, rfl, rfl, h2, h5⟩, h4, _⟩ := E.ows i _ e1 rfl
    exact key p xs ds h1 h2 h5 h
  · exact h.elim
def ownL (i : Nat) (ρ : Rho) (d : D) : M Out := match d with
  | .lst ds => .ok (.next (ρ.set i (some (.own ds))))
  | .tup ds => .ok (.next (ρ.set i (some (.own ds))))
  | _ => .bad
theorem ds_ownL (i : Nat) {x : Str} {pos' p cpos : Pos} (hN : X.N.Nodup) (hi : X.N[i]? = some x) (hx : Loc X.env.scope x) (hg : Gl X "list") (hm : X.mg "list" = none) (ha : DE X WX true e f) (hb : bootBuiltins "list" = some (.type "list") := by decide +kernel) (hst : starEach [e] X.env = [(false, eval e X.env)] := by rfl)
    (hs : swapsWith (.Call (.Name "list" p) [e] [] cpos) (some (.Name x pos')) pos.line X.env = pure false := by rfl) (hf : X.fn x = true ∨ X.env.scope.names.lookup x = some .local := by first | exact .inl rfl | exact .inr rfl | assumption) :
    DS X WX (.Assign [.Name x pos'] (.Call (.Name "list" p) [e] [] cpos) pos) (fun ρ => (f ρ).bind (ownL i ρ)) := by
  obtain ⟨ta, a1, a2⟩ := ha
  refine ⟨_, ps_set hN hi hx (pe_callTy call_list_of hg hm hb (pa_cons a1 pa_nil hst) (he := hst)) hs hf, fun P0 P σ H Z ρ E h => ?_⟩
  dsimp only at h
  refine a2 P0 P σ H _ ρ E ?_
  cases q : f ρ with
  | bad => rw [q] at h; exact h
  | ex x => rw [q] at h; exact fun H' s => h H' P (E.tr s)
  | ok d =>
    rw [q] at h
    simp only [M.bind_ok] at h
    intro v H1 s1 hv
    have E1 := E.same s1
    unfold ownL at h
    split at h
    · cases hv with
      | lst hs hh =>
        refine ⟨_, _, rfl, .inl hs.undel, fun l hn => ?_⟩
        obtain ⟨E2, t2⟩ := E1.newo (i := i) hn hh
        exact h _ _ _ ((E.tr s1).trans t2) E2
    · cases hv with
      | tup hs hh =>
        refine ⟨_, _, rfl, .inr hs.undel, fun l hn => ?_⟩
        obtain ⟨E2, t2⟩ := E1.newo (i := i) hn hh
        exact h _ _ _ ((E.tr s1).trans t2) E2
    · exact h.elim
end
end L2

set_option Elab.async false
set_option linter.all false
set_option maxRecDepth 100000
namespace L2
open PySem PySem.Spec PyProof.Rows
theorem fin_for_all {gt : D → Rho → M Rho} {gb : Rho → M Out} {ds : List D} {ρ : Rho} {k : Rho → M Out} (I : Nat → Rho → Prop) (b : Nat → Bool) (h0 : I 0 ρ)
    (step : ∀ i d ρ, ds[i]? = some d → I i ρ → ∃ ρ1 ρ2, gt d ρ = .ok ρ1 ∧ gb ρ1 = (if b i = true then .ok (.next ρ2) else .ok (.ret (.bl false))) ∧ I (i + 1) ρ2)
    (hk : ∀ ρ', I ds.length ρ' → fin (k ρ') = .ok (.bl true)) : fin (seqM (forM gt gb ds ρ) k) = .ok (.bl ((List.range ds.length).all b)) := by
  have key : ∀ (n i : Nat) (ρ : Rho), i + n = ds.length → I i ρ → fin (seqM (forM gt gb (ds.drop i) ρ) k) = .ok (.bl ((List.range n).all fun j => b (i + j))) := by
    intro n
    induction n with
    | zero =>
      intro i ρ hi h
      have e : i = ds.length := by omega
      subst e
      rw [List.drop_length, forM]
      exact hk ρ h
    | succ n ih =>
      intro i ρ hi h
      have hlt : i < ds.length := by omega
      obtain ⟨ρ1, ρ2, h1, h2, h3⟩ := step i ds[i] ρ (List.getElem?_eq_getElem hlt) h
      rw [drop_get hlt, forM, h1]
      dsimp only
      rw [h2]
      have e : (List.range (n + 1)).all (fun j => b (i + j)) = (b i && (List.range n).all fun j => b (i + 1 + j)) := by
        rw [List.range_succ_eq_map, List.all_cons, List.all_map]
        congr 2
        funext j
        simp only [Function.comp]
        congr 1
        omega
      rw [e]
      cases hb : b i with
      | true =>
        rw [Bool.true_and]
        exact ih (i + 1) ρ2 (by omega) h3
      | false =>
        rw [Bool.false_and]
        rfl
  have := key ds.length 0 ρ (by omega) h0
  rw [List.drop_zero] at this
  rw [this]
  congr 3
  funext j
  rw [Nat.zero_add]
theorem seqM_to {m : M Out} {k : Rho → M Out} {ρ1 : Rho} (h : m = .ok (.next ρ1)) : seqM m k = k ρ1 := by rw [h]; rfl
/-- the price of a place by its roads -/
def pbr (rs : List Road) (cs : List Co) (p : Int) : Co := minL ((rs.filter fun r => decide (r.a = p)).map fun r => addC (rcC r) (atC cs r.b))
def rightB (m : Nat) (rs : List Road) (g : Nat) (cs : List Co) : Bool := (List.range m).all fun p => decide (atC cs (p : Int) = if p = g then some (0, 0) else pbr rs cs (p : Int))
theorem Wk.nn {m : Nat} {rs : List Road} (hok : ∀ r ∈ rs, OkR m r) {u w : Int} {c : Int × Int} (h : Wk rs u w c) : 0 ≤ c.1 ∧ 0 ≤ c.2 := by
  induction h with
  | nil => exact ⟨Int.le_refl _, Int.le_refl _⟩
  | cons hr hl _ ih =>
    have := (hok _ hr).l0 _ hl
    simp only
    omega
theorem right_prices {m g : Nat} {rs : List Road} {cs : List Co} (hg : g < m) (hok : ∀ r ∈ rs, OkR m r) (h : ∀ u : Int, 0 ≤ u → u < m → IsMin rs u g (atC cs u)) : rightB m rs g cs = true := by
  unfold rightB
  rw [List.all_eq_true]
  intro p hp
  have hp := List.mem_range.mp hp
  rw [decide_eq_true_eq]
  have hm := h p (by omega) (by omega)
  by_cases e : p = g
  · rw [if_pos e]
    subst e
    refine leC_anti (hm.1 _ (.nil _)) ?_
    cases q : atC cs (p : Int) with
    | none => exact trivial
    | some c =>
      have := (hm.2 c q).nn hok
      simp only [leC]
      omega
  · rw [if_neg e]
    symm
    refine minL_is (fun x hx => ?_) fun hn => ?_
    · obtain ⟨r, hr, rfl⟩ := List.mem_map.mp hx
      obtain ⟨h1, h2⟩ := List.mem_filter.mp hr
      have hra : r.a = (p : Int) := by simpa using h2
      have ok := hok r h1
      have hb := h r.b ok.b0 ok.b1
      cases q1 : rcC r with
      | none =>
        have : addC none (atC cs r.b) = none := by cases atC cs r.b <;> rfl
        rw [this]; cases atC cs (p : Int) <;> exact trivial
      | some z =>
        obtain ⟨l, hl, rfl⟩ := rcC_some q1
        cases q2 : atC cs r.b with
        | none =>
          have : addC (some (l, 1)) none = none := rfl
          rw [this]; cases atC cs (p : Int) <;> exact trivial
        | some c =>
          have w := Wk.cons h1 hl (hb.2 c q2)
          rw [hra] at w
          exact hm.1 _ w
    · obtain ⟨c, hc⟩ := Option.ne_none_iff_exists'.mp hn
      have w := hm.2 c hc
      rw [hc]
      generalize hpi : (p : Int) = pi at w
      cases w with
      | nil => exact (e (by omega)).elim
      | @cons r l w c' hr hl w' =>
        have ok := hok r hr
        have hb := (h r.b ok.b0 ok.b1).1 c' w'
        refine ⟨_, List.mem_map.mpr ⟨r, List.mem_filter.mpr ⟨hr, by simpa using rfl⟩, rfl⟩, ?_⟩
        have e1 : rcC r = some (l, 1) := by unfold rcC; rw [hl]
        rw [e1]
        have := addC_mono2 (leC_refl (some (l, 1))) hb
        exact this
end L2

set_option Elab.async false
set_option linter.all false
set_option maxRecDepth 100000
set_option maxHeartbeats 4000000
namespace K12
open PySem L2
def top (i : Nat) : Stmt := PySem.Challenge.pw_nodeladder_k12_right_prices_told.main.body.getD i (.Pass ⟨0, 0, 0, 0⟩)
abbrev s_added : Stmt := top 1
theorem sc_added : FnScope ["one", "other"] ["one", "other"] (defScope s_added) := ⟨rfl, rfl, rfl, by decide +kernel, rfl, by decide +kernel, by decide +kernel⟩
abbrev s_least : Stmt := top 2
theorem sc_least : FnScope ["some"] ["some"] (defScope s_least) := ⟨rfl, rfl, rfl, by decide +kernel, rfl, by decide +kernel, by decide +kernel⟩
abbrev s_road_cost : Stmt := top 3
theorem sc_road_cost : FnScope ["road"] ["road"] (defScope s_road_cost) := ⟨rfl, rfl, rfl, by decide +kernel, rfl, by decide +kernel, by decide +kernel⟩
abbrev s_price_by_roads : Stmt := top 5
theorem sc_price_by_roads : FnScope ["net", "place", "prices"] ["net", "place", "prices"] (defScope s_price_by_roads) := ⟨rfl, rfl, rfl, by decide +kernel, rfl, by decide +kernel, by decide +kernel⟩
abbrev s_are_right : Stmt := top 6
theorem sc_are_right : FnScope ["net", "goal", "prices", "others"] ["net", "goal", "prices"] (defScope s_are_right) := ⟨rfl, rfl, rfl, by decide +kernel, rfl, by decide +kernel, by decide +kernel⟩
abbrev s_law_cell_at : Stmt := top 8
theorem sc_law_cell_at : FnScope ["_law_script", "_law_k"] ["_law_script", "_law_k"] (defScope s_law_cell_at) := ⟨rfl, rfl, rfl, by decide +kernel, rfl, by decide +kernel, by decide +kernel⟩
abbrev s_law_mix : Stmt := top 9
theorem sc_law_mix : FnScope ["_law_cell", "_law_k", "_law_number"] ["_law_cell", "_law_k"] (defScope s_law_mix) := ⟨rfl, rfl, rfl, by decide +kernel, rfl, by decide +kernel, by decide +kernel⟩
abbrev s_law_great : Stmt := top 10
theorem sc_law_great : FnScope ["_law_cell", "_law_k"] ["_law_cell", "_law_k"] (defScope s_law_great) := ⟨rfl, rfl, rfl, by decide +kernel, rfl, by decide +kernel, by decide +kernel⟩
abbrev s_law_roads : Stmt := top 11
theorem sc_law_roads : FnScope ["_law_cells", "_law_many", "_law_roads_here", "_law_k", "_law_mixed", "_law_great_here", "_law_one", "_law_other", "_law_small", "_law_length"] ["_law_cells", "_law_many"] (defScope s_law_roads) := ⟨rfl, rfl, rfl, by decide +kernel, rfl, by decide +kernel, by decide +kernel⟩
abbrev s_law_added : Stmt := top 12
theorem sc_law_added : FnScope ["_law_one", "_law_other"] ["_law_one", "_law_other"] (defScope s_law_added) := ⟨rfl, rfl, rfl, by decide +kernel, rfl, by decide +kernel, by decide +kernel⟩
abbrev s_law_least : Stmt := top 13
theorem sc_law_least : FnScope ["_law_some"] ["_law_some"] (defScope s_law_least) := ⟨rfl, rfl, rfl, by decide +kernel, rfl, by decide +kernel, by decide +kernel⟩
abbrev s_law_open : Stmt := top 14
theorem sc_law_open : FnScope ["_law_road"] ["_law_road"] (defScope s_law_open) := ⟨rfl, rfl, rfl, by decide +kernel, rfl, by decide +kernel, by decide +kernel⟩
abbrev s_law_costs : Stmt := top 15
theorem sc_law_costs : FnScope ["_law_roads_here", "_law_many", "_law_costs_here", "_law_u", "_law_v", "_law_row", "_law_road", "_law_w"] ["_law_roads_here", "_law_many"] (defScope s_law_costs) := ⟨rfl, rfl, rfl, by decide +kernel, rfl, by decide +kernel, by decide +kernel⟩
abbrev s_law_right : Stmt := top 16
theorem sc_law_right : FnScope ["_law_roads_here", "_law_many", "_law_goal", "_law_prices", "_law_place", "_law_due"] ["_law_roads_here", "_law_many", "_law_goal", "_law_prices"] (defScope s_law_right) := ⟨rfl, rfl, rfl, by decide +kernel, rfl, by decide +kernel, by decide +kernel⟩
abbrev s_law_spoilt : Stmt := top 17
theorem sc_law_spoilt : FnScope ["_law_prices", "_law_cell", "_law_k", "_law_mixed", "_law_at", "_law_old", "_law_some"] ["_law_prices", "_law_cell", "_law_k"] (defScope s_law_spoilt) := ⟨rfl, rfl, rfl, by decide +kernel, rfl, by decide +kernel, by decide +kernel⟩
abbrev s_law : Stmt := top 18
theorem sc_law : FnScope ["_law_script", "_law_first", "_law_many", "_law_goal", "_law_roads_here", "_law_land", "_law_prices", "_law_spoilt_here", "_law_k", "_law_given", "_law_found"] ["_law_script"] (defScope s_law) := ⟨rfl, rfl, rfl, by decide +kernel, rfl, by decide +kernel, by decide +kernel⟩
structure Txt (K : PySem.W.Frag) (mg : Str → Option Value) : Prop where
  f_added : FunAt K mg "added" s_added ["one", "other"]
  f_least : FunAt K mg "least" s_least ["some"]
  f_road_cost : FunAt K mg "road_cost" s_road_cost ["road"]
  f_price_by_roads : FunAt K mg "price_by_roads" s_price_by_roads ["net", "place", "prices"]
  f_are_right : FunAt K mg "are_right" s_are_right ["net", "goal", "prices"]
  f_law_cell_at : FunAt K mg "_law_cell_at" s_law_cell_at ["_law_script", "_law_k"]
  f_law_mix : FunAt K mg "_law_mix" s_law_mix ["_law_cell", "_law_k"]
  f_law_great : FunAt K mg "_law_great" s_law_great ["_law_cell", "_law_k"]
  f_law_roads : FunAt K mg "_law_roads" s_law_roads ["_law_cells", "_law_many"]
  f_law_added : FunAt K mg "_law_added" s_law_added ["_law_one", "_law_other"]
  f_law_least : FunAt K mg "_law_least" s_law_least ["_law_some"]
  f_law_open : FunAt K mg "_law_open" s_law_open ["_law_road"]
  f_law_costs : FunAt K mg "_law_costs" s_law_costs ["_law_roads_here", "_law_many"]
  f_law_right : FunAt K mg "_law_right" s_law_right ["_law_roads_here", "_law_many", "_law_goal", "_law_prices"]
  f_law_spoilt : FunAt K mg "_law_spoilt" s_law_spoilt ["_law_prices", "_law_cell", "_law_k"]
  f_law : FunAt K mg "law" s_law ["_law_script"]
  b_all : mg "all" = none
  b_len : mg "len" = none
  b_list : mg "list" = none
  b_max : mg "max" = none
  b_min : mg "min" = none
  b_range : mg "range" = none

theorem pick8 {a b g i : Int} (ha : 0 ≤ a) (hb : 0 ≤ b) (hg : 0 ≤ g) (h0 : 0 ≤ i) (h1 : i < 8) : ∃ l, dIx (.lst [.non, .int 0, .int 0, .int 1, .int a, .int b, .int g, .int g]) (.int i) = .ok (lenD l) ∧ ∀ x, l = some x → 0 ≤ x := by
  have h : i = 0 ∨ i = 1 ∨ i = 2 ∨ i = 3 ∨ i = 4 ∨ i = 5 ∨ i = 6 ∨ i = 7 := by omega
  rcases h with rfl | rfl | rfl | rfl | rfl | rfl | rfl | rfl
  · exact ⟨none, rfl, fun x h => by cases h⟩
  · exact ⟨some 0, rfl, fun x h => by cases h; decide⟩
  · exact ⟨some 0, rfl, fun x h => by cases h; decide⟩
  · exact ⟨some 1, rfl, fun x h => by cases h; decide⟩
  · exact ⟨some a, rfl, fun x h => by cases h; exact ha⟩
  · exact ⟨some b, rfl, fun x h => by cases h; exact hb⟩
  · exact ⟨some g, rfl, fun x h => by cases h; exact hg⟩
  · exact ⟨some g, rfl, fun x h => by cases h; exact hg⟩
theorem pick2 (a b : Int) {i : Int} (h0 : 0 ≤ i) (h1 : i < 2) : ∃ w : Int, dIx (.lst [.int a, .int b]) (.int i) = .ok (.int w) := by
  have h : i = 0 ∨ i = 1 := by omega
  rcases h with rfl | rfl
  · exact ⟨a, rfl⟩
  · exact ⟨b, rfl⟩
def vR (ah : Int) (r : Road) : Road := if ah = 0 then r else turnR r

theorem ex_added : ∃ F : List D → M D, (∀ {P : Program} {w : World} {K : PySem.W.Frag} {mg : Str → Option Value} {base : Heap}, Txt K mg → FnAt P w K mg base "added" 1 2 F) ∧ (∀ a b, F [cst a, cst b] = .ok (cst (addC a b))) := by
  refine ⟨_, fun T => fnAt_of (k := 0) T.f_added sc_added _ (fun f cdv A outer s H E hr => (dss_cons (ds_if (DW.dt (dw_or (dt_isN (c := true) (de_var 0 (pv 0))) (dw_or1 (dt_isN (c := true) (de_var 1 (pv 1)))))) (dss_one (ds_ret (de_any de_non))) dss_nil) (dss_one (ds_ret (de_any (de_tup (da_cons (de_add (de_item (de_var 0 (pv 0)) de_int) (de_item (de_var 1 (pv 1)) de_int)) (da_cons (de_add (de_item (de_var 0 (pv 0)) de_int) (de_item (de_var 1 (pv 1)) de_int)) da_nil)))))))), ?_⟩
  intro a b
  rcases a with _ | ⟨a1, a2⟩ <;> rcases b with _ | ⟨b1, b2⟩ <;> rfl
noncomputable def addedF : List D → M D := Classical.choose ex_added
theorem added_at {P : Program} {w : World} {K : PySem.W.Frag} {mg : Str → Option Value} {base : Heap} : Txt K mg → FnAt P w K mg base "added" 1 2 addedF := (Classical.choose_spec ex_added).1
theorem added_eq : ∀ a b, addedF [cst a, cst b] = .ok (cst (addC a b)) := (Classical.choose_spec ex_added).2
theorem ex_least : ∃ F : List D → M D, (∀ {P : Program} {w : World} {K : PySem.W.Frag} {mg : Str → Option Value} {base : Heap}, Txt K mg → FnAt P w K mg base "least" 1 1 F) ∧ (∀ cs : List (Option (Int × Int)), cs.length ≤ 1000 → F [.lst (cs.map cst)] = .ok (cst (minL cs))) := by
  refine ⟨_, fun T => fnAt_of (k := 0) T.f_least sc_least _ (fun f cdv A outer s H E hr => (dss_one (ds_ret (de_any (de_minD rfl (huR hr 1 (by decide)) rfl T.b_min (de_comp (NB := ["cost"]) [none] rfl (di_list (de_var 0 (pv 0))) rfl rfl (dgb_name 0 (by decide) rfl rfl rfl) (fun _ _ _ _ => dts_one (dt_notN (c := true) (de_var 0 (pv 0)))) (fun _ _ _ _ => (de_var 0 (pv 0)))) de_non))))), ?_⟩
  intro cs hc
  show fin (((if (cs.map cst).length ≤ 1000 then compR (compM _ _ _ (cs.map cst) [none]) else .bad).bind fun x => (M.ok D.non).bind fun y => dMinD x y).bind fun d => .ok (.ret d)) = _
  rw [if_pos (by rw [List.length_map]; exact hc), comp_filter]
  simp only [compR, M.bind_ok]
  rw [dmin_eq]; rfl
noncomputable def leastF : List D → M D := Classical.choose ex_least
theorem least_at {P : Program} {w : World} {K : PySem.W.Frag} {mg : Str → Option Value} {base : Heap} : Txt K mg → FnAt P w K mg base "least" 1 1 leastF := (Classical.choose_spec ex_least).1
theorem least_eq : ∀ cs : List (Option (Int × Int)), cs.length ≤ 1000 → leastF [.lst (cs.map cst)] = .ok (cst (minL cs)) := (Classical.choose_spec ex_least).2
theorem ex_road_cost : ∃ F : List D → M D, (∀ {P : Program} {w : World} {K : PySem.W.Frag} {mg : Str → Option Value} {base : Heap}, Txt K mg → FnAt P w K mg base "road_cost" 1 1 F) ∧ (∀ r : Road, F [rdD r] = .ok (cst (rcC r))) := by
  refine ⟨_, fun T => fnAt_of (k := 0) T.f_road_cost sc_road_cost _ (fun f cdv A outer s H E hr => (dss_cons (ds_if (dt_isN (c := true) (de_item (de_var 0 (pv 0)) de_int)) (dss_one (ds_ret (de_any de_non))) dss_nil) (dss_one (ds_ret (de_any (de_tup (da_cons (de_item (de_var 0 (pv 0)) de_int) (da_cons de_int da_nil)))))))), ?_⟩
  intro r
  obtain ⟨a, b, l, w⟩ := r
  cases l <;> rfl
noncomputable def road_costF : List D → M D := Classical.choose ex_road_cost
theorem road_cost_at {P : Program} {w : World} {K : PySem.W.Frag} {mg : Str → Option Value} {base : Heap} : Txt K mg → FnAt P w K mg base "road_cost" 1 1 road_costF := (Classical.choose_spec ex_road_cost).1
theorem road_cost_eq : ∀ r : Road, road_costF [rdD r] = .ok (cst (rcC r)) := (Classical.choose_spec ex_road_cost).2
theorem ex_price_by_roads : ∃ F : List D → M D, (∀ {P : Program} {w : World} {K : PySem.W.Frag} {mg : Str → Option Value} {base : Heap}, Txt K mg → FnAt P w K mg base "price_by_roads" 2 3 F) ∧ (∀ (m : Int) (rs : List Road) (cs : List Co) (p : Int), rs.length ≤ 1000 → (∀ r ∈ rs, OkR cs.length r) → F [netD m rs, .int p, .lst (cs.map cst)] = .ok (cst (pbr rs cs p))) := by
  refine ⟨_, fun T => fnAt_of (k := 1) T.f_price_by_roads sc_price_by_roads _ (fun f cdv A outer s H E hr => (dss_one (ds_ret (de_any (de_callA (least_at T) (hr.mono (by decide)) rfl (da_cons (de_comp (NB := ["road", "prices", "place"]) [none, some 2, some 1] rfl (di_list (de_item (de_var 0 (pv 0)) de_int)) rfl rfl (dgb_name 0 (by decide) rfl rfl rfl) (fun _ _ _ _ => dts_one (dt_eq (c := true) (huR hr 16 (by decide)) (de_item (de_var 0 (pv 0)) de_int) (de_var 2 (pv 2)))) (fun _ _ _ _ => (de_callA (added_at T) (hr.mono (by decide)) rfl (da_cons (de_callA (road_cost_at T) (hr.mono (by decide)) rfl (da_cons (de_var 0 (pv 0)) da_nil) rfl) (da_cons (de_item (de_var 1 (pv 1)) (de_item (de_var 0 (pv 0)) de_int)) da_nil)) rfl))) da_nil) rfl))))), ?_⟩
  intro m rs cs p hl hok
  have e0 : stRho ["net", "place", "prices"] [netD m rs, .int p, .lst (cs.map cst)] = [some (.val (netD m rs)), some (.val (.int p)), some (.val (.lst (cs.map cst)))] := rfl
  rw [e0]
  have e2 : dIx (netD m rs) (.int 1) = .ok (.lst (rs.map rdD)) := rfl
  have hl2 : (rs.map rdD).length ≤ 1000 := by rw [List.length_map]; exact hl
  refine fin_ret (d := cst (pbr rs cs p)) ?_ rfl
  simp only [rv, List.getElem?_cons_zero, List.getElem?_cons_succ, M.bind_ok, e2, if_pos hl2]
  rw [compM_filter (fun d : D => (match d with | D.tup (D.int a :: _) => decide (a = p) | _ => false : Bool)) (fun d : D => (match d with | D.tup [_, D.int b, D.int l, _] => cst (addC (some (l, 1)) (atC cs b)) | _ => .non : D)) _ (fun d hd => by
    obtain ⟨r, hr, rfl⟩ := List.mem_map.mp hd
    have ok := hok r hr
    have r0 : dIx (rdD r) (.int 0) = .ok (.int r.a) := rfl
    have r1 : dIx (rdD r) (.int 1) = .ok (.int r.b) := rfl
    have x1 := dIx_cost (cs := cs) ok.b0 ok.b1
    have h1 := road_cost_eq r
    have h2 := added_eq (rcC r) (atC cs r.b)
    refine ⟨_, rfl, ?_, fun _ => ?_⟩
    · simp [muRho, r0, dEq, dep, noX, eqD, asB, rdD]
      rfl
    · simp only [muRho, List.map_cons, List.map_nil, Option.bind_some, Option.bind_none, List.getElem?_cons_zero, List.getElem?_cons_succ, List.set_cons_zero, List.set_cons_succ, M.bind_ok, r1, x1, h1, h2]
      unfold rdD
      cases hq : r.l with
      | none =>
        have e : rcC r = none := by unfold rcC; rw [hq]
        rw [e]
        have : addC none (atC cs r.b) = none := by cases atC cs r.b <;> rfl
        rw [this]
        rfl
      | some l =>
        have e : rcC r = some (l, 1) := by unfold rcC; rw [hq]
        rw [e]
        rfl)]
  simp only [compR, M.bind_ok]
  have e3 : List.map (fun d : D => (match d with | D.tup [_, D.int b, D.int l, _] => cst (addC (some (l, 1)) (atC cs b)) | _ => .non : D)) (List.filter (fun d : D => (match d with | D.tup (D.int a :: _) => decide (a = p) | _ => false : Bool)) (rs.map rdD)) = (((rs.filter fun r => decide (r.a = p)).map fun r => addC (rcC r) (atC cs r.b))).map cst := by
    rw [List.filter_map, List.map_map, List.map_map]
    apply List.map_congr_left
    intro r _
    unfold Function.comp rdD
    dsimp only
    cases hq : r.l with
    | none =>
      have e : rcC r = none := by unfold rcC; rw [hq]
      rw [e]
      have : addC none (atC cs r.b) = none := by cases atC cs r.b <;> rfl
      rw [this]
      rfl
    | some l =>
      have e : rcC r = some (l, 1) := by unfold rcC; rw [hq]
      rw [e]
      rfl
  rw [e3]
  exact least_eq _ (by rw [List.length_map]; exact Nat.le_trans (List.length_filter_le _ _) hl)
noncomputable def price_by_roadsF : List D → M D := Classical.choose ex_price_by_roads
theorem price_by_roads_at {P : Program} {w : World} {K : PySem.W.Frag} {mg : Str → Option Value} {base : Heap} : Txt K mg → FnAt P w K mg base "price_by_roads" 2 3 price_by_roadsF := (Classical.choose_spec ex_price_by_roads).1
theorem price_by_roads_eq : ∀ (m : Int) (rs : List Road) (cs : List Co) (p : Int), rs.length ≤ 1000 → (∀ r ∈ rs, OkR cs.length r) → price_by_roadsF [netD m rs, .int p, .lst (cs.map cst)] = .ok (cst (pbr rs cs p)) := (Classical.choose_spec ex_price_by_roads).2
theorem ex_are_right : ∃ F : List D → M D, (∀ {P : Program} {w : World} {K : PySem.W.Frag} {mg : Str → Option Value} {base : Heap}, Txt K mg → FnAt P w K mg base "are_right" 3 3 F) ∧ (∀ (m : Nat) (rs : List Road) (g : Nat) (cs : List Co), g < m → m ≤ 900 → cs.length = m → rs.length ≤ 1000 → (∀ r ∈ rs, OkR m r) → F [netD m rs, .int g, .lst (cs.map cst)] = .ok (.bl (rightB m rs g cs))) := by
  refine ⟨_, fun T => fnAt_of (k := 2) T.f_are_right sc_are_right _ (fun f cdv A outer s H E hr => (dss_cons (ds_if (DW.dt (dw_or (dt_ne (c := true) (huR hr 16 (by decide)) (de_len rfl T.b_len (de_var 2 (pv 2))) (de_item (de_var 0 (pv 0)) de_int)) (dw_or1 (dt_ne (c := true) (huR hr 16 (by decide)) (de_item (de_var 2 (pv 2)) (de_var 1 (pv 1))) (de_tup (da_cons de_int (da_cons de_int da_nil))))))) (dss_one (ds_ret (de_any de_bl))) dss_nil) (dss_cons (ds_setC (NB := ["place", "goal"]) 3 [none, some 1] sc_are_right.nd rfl (Or.inl rfl) rfl (di_range1 (c := true) rfl T.b_range (de_item (de_var 0 (pv 0)) de_int)) rfl rfl (dgb_name 0 (by decide) rfl rfl rfl) (fun _ _ _ _ => dts_one (dt_ne (c := true) (huR hr 16 (by decide)) (de_var 0 (pv 0)) (de_var 1 (pv 1)))) (fun _ _ _ _ => (de_var 0 (pv 0)))) (dss_one (ds_ret (de_any (de_all rfl rfl T.b_all (de_comp (NB := ["place", "prices", "net"]) [none, some 2, some 0] rfl (di_list (de_var 3 (pv 3))) rfl rfl (dgb_name 0 (by decide) rfl rfl rfl) (fun _ _ _ _ => dts_nil) (fun _ _ _ _ => (de_eq (huR hr 16 (by decide)) (de_item (de_var 1 (pv 1)) (de_var 0 (pv 0))) (de_callA (price_by_roads_at T) (hr.mono (by decide)) rfl (da_cons (de_var 2 (pv 2)) (da_cons (de_var 0 (pv 0)) (da_cons (de_var 1 (pv 1)) da_nil))) rfl))))))))))), ?_⟩
  intro m rs g cs hg hm hcl hl hok
  have e0 : stRho ["net", "goal", "prices", "others"] [netD m rs, .int g, .lst (cs.map cst)] = [some (.val (netD m rs)), some (.val (.int g)), some (.val (.lst (cs.map cst))), none] := rfl
  rw [e0]
  have n0 : dIx (netD m rs) (.int 0) = .ok (.int m) := rfl
  have t1 : dLen [.lst (cs.map cst)] = .ok (.int m) := by simp [dLen, hcl]
  have t2 : dNe 16 (.int (m : Int)) (.int (m : Int)) = .ok (.bl false) := dNe_same (pl_int _)
  have x1 := dIx_cost (cs := cs) (i := (g : Int)) (by omega) (by omega)
  have t3 := dNe_cst (atC cs (g : Int)) (some (0, 0))
  have hz2 : [D.int 0, D.int 0].length ≤ 1000 := by decide
  have z0 : D.tup [.int 0, .int 0] = cst (some (0, 0)) := rfl
  by_cases hc : atC cs (g : Int) = some (0, 0)
  · rw [decide_eq_true hc] at t3
    refine fin_seq (ρ := [some (.val (netD m rs)), some (.val (.int g)), some (.val (.lst (cs.map cst))), none]) ?_ ?_
    · simp only [rv, List.getElem?_cons_zero, List.getElem?_cons_succ, M.bind_ok, n0, t1, t2, x1, if_pos hz2, z0, t3, asB]
      simp [t3, asB]
    have hrng := rngM_nat (n := m) (by omega)
    have hr1 : (rangeD 0 m).length ≤ 1000 := by rw [rangeD_len]; omega
    refine fin_seq (ρ := [some (.val (netD m rs)), some (.val (.int g)), some (.val (.lst (cs.map cst))), some (.val (.lst (((List.range m).filter fun p => !decide (p = g)).map fun i : Nat => D.int (i : Int))))]) ?_ ?_
    · simp only [rv, List.getElem?_cons_zero, List.getElem?_cons_succ, M.bind_ok, n0, hrng, if_pos hr1]
      rw [rangeD_map, compM_filter (fun d : D => (match d with | D.int k => !decide (k.toNat = g) | _ => false : Bool)) id _ (fun d hd => by
        obtain ⟨k, hk, rfl⟩ := List.mem_map.mp hd
        refine ⟨_, rfl, ?_, fun _ => rfl⟩
        have : dNe 16 (.int (k : Int)) (.int (g : Int)) = .ok (.bl (!decide (k = g))) := by
          rw [dNe_pl (pl_int _) (pl_int _)]
          congr 3
          rw [Bool.eq_iff_iff]
          simp [eqD]
          omega
        simp [muRho, this, asB])]
      rw [List.filter_map, List.map_map]
      rfl
    refine fin_ret (d := .bl (rightB m rs g cs)) ?_ rfl
    have hr2 : (((List.range m).filter fun p => !decide (p = g)).map fun i : Nat => D.int (i : Int)).length ≤ 1000 := by
      rw [List.length_map]
      exact Nat.le_trans (List.length_filter_le _ _) (by rw [List.length_range]; omega)
    simp only [rv, List.getElem?_cons_zero, List.getElem?_cons_succ, M.bind_ok, if_pos hr2]
    rw [compM_all (fun d : D => (match d with | D.int k => D.bl (decide (atC cs k = pbr rs cs k)) | d => d : D)) _ (fun d hd => by
      obtain ⟨k, hk, rfl⟩ := List.mem_map.mp hd
      have hk := List.mem_range.mp (List.mem_filter.mp hk).1
      have y1 := dIx_cost (cs := cs) (i := (k : Int)) (by omega) (by omega)
      have y2 := price_by_roads_eq m rs cs k hl (by rw [hcl]; exact hok)
      have y3 := dEq_cst (atC cs (k : Int)) (pbr rs cs (k : Int))
      refine ⟨_, rfl, rfl, ?_⟩
      simp [muRho, y1, y2, y3])]
    simp only [compR, M.bind_ok]
    have e1 : List.map (fun d : D => (match d with | D.int k => D.bl (decide (atC cs k = pbr rs cs k)) | d => d : D)) (((List.range m).filter fun p => !decide (p = g)).map fun i : Nat => D.int (i : Int)) = (((List.range m).filter fun p => !decide (p = g)).map fun p : Nat => decide (atC cs (p : Int) = pbr rs cs (p : Int))).map D.bl := by
      rw [List.map_map, List.map_map]
      rfl
    rw [e1]
    unfold dAll
    dsimp only
    rw [boolsD_map]
    dsimp only
    congr 2
    rw [Bool.eq_iff_iff]
    unfold rightB
    simp only [List.all_map, List.all_filter, List.all_eq_true]
    constructor
    · intro h p hp
      rw [decide_eq_true_eq]
      by_cases e : p = g
      · rw [if_pos e, e]; exact hc
      · rw [if_neg e]
        have := h p hp
        simpa [e] using this
    · intro h p hp
      have := h p hp
      rw [decide_eq_true_eq] at this
      by_cases e : p = g
      · simp [e]
      · rw [if_neg e] at this
        simp [e, this]
  · rw [decide_eq_false hc] at t3
    have hf : rightB m rs g cs = false := by
      unfold rightB
      rw [List.all_eq_false]
      exact ⟨g, List.mem_range.mpr hg, by rw [if_pos rfl]; simpa using hc⟩
    rw [hf]
    simp only [rv, List.getElem?_cons_zero, List.getElem?_cons_succ, M.bind_ok, n0, t1, t2, x1, if_pos hz2, z0, t3, asB]
    simp [t3, asB, seqM, fin]
noncomputable def are_rightF : List D → M D := Classical.choose ex_are_right
theorem are_right_at {P : Program} {w : World} {K : PySem.W.Frag} {mg : Str → Option Value} {base : Heap} : Txt K mg → FnAt P w K mg base "are_right" 3 3 are_rightF := (Classical.choose_spec ex_are_right).1
theorem are_right_eq : ∀ (m : Nat) (rs : List Road) (g : Nat) (cs : List Co), g < m → m ≤ 900 → cs.length = m → rs.length ≤ 1000 → (∀ r ∈ rs, OkR m r) → are_rightF [netD m rs, .int g, .lst (cs.map cst)] = .ok (.bl (rightB m rs g cs)) := (Classical.choose_spec ex_are_right).2
theorem ex_law_cell_at : ∃ F : List D → M D, (∀ {P : Program} {w : World} {K : PySem.W.Frag} {mg : Str → Option Value} {base : Heap}, Txt K mg → FnAt P w K mg base "_law_cell_at" 1 2 F) ∧ (∀ (ns : List Int) (k : Int), 0 ≤ k → (∀ n ∈ ns, Sm n) → ∃ v : Int, Sm v ∧ F [.lst (ns.map D.int), .int k] = .ok (.int v)) := by
  refine ⟨_, fun T => fnAt_of (k := 0) T.f_law_cell_at sc_law_cell_at _ (fun f cdv A outer s H E hr => (dss_cons (ds_if (dt_lt (c := true) (de_var 1 (pv 1)) (de_len rfl T.b_len (de_var 0 (pv 0)))) (dss_one (ds_ret (de_any (de_item (de_var 0 (pv 0)) (de_var 1 (pv 1)))))) dss_nil) (dss_one (ds_ret (de_any de_int))))), ?_⟩
  intro ns k hk hsm
  have e0 : stRho ["_law_script", "_law_k"] [.lst (ns.map D.int), .int k] = [some (.val (.lst (ns.map D.int))), some (.val (.int k))] := rfl
  rw [e0]
  by_cases h : k < ns.length
  · have hn : k.toNat < ns.length := by omega
    have e2 : dIx (.lst (ns.map D.int)) (.int k) = .ok (.int ns[k.toNat]) := dIx_map hk (List.getElem?_eq_getElem hn)
    exact ⟨ns[k.toNat], hsm _ (List.getElem_mem hn), by simp [rv, dLen, dLt, onInts, asB, h, e2, fin, seqM]⟩
  · exact ⟨0, by unfold Sm; decide, by simp [rv, dLen, dLt, onInts, asB, h, fin, seqM]⟩
noncomputable def law_cell_atF : List D → M D := Classical.choose ex_law_cell_at
theorem law_cell_at_at {P : Program} {w : World} {K : PySem.W.Frag} {mg : Str → Option Value} {base : Heap} : Txt K mg → FnAt P w K mg base "_law_cell_at" 1 2 law_cell_atF := (Classical.choose_spec ex_law_cell_at).1
theorem law_cell_at_eq : ∀ (ns : List Int) (k : Int), 0 ≤ k → (∀ n ∈ ns, Sm n) → ∃ v : Int, Sm v ∧ law_cell_atF [.lst (ns.map D.int), .int k] = .ok (.int v) := (Classical.choose_spec ex_law_cell_at).2
theorem ex_law_mix : ∃ F : List D → M D, (∀ {P : Program} {w : World} {K : PySem.W.Frag} {mg : Str → Option Value} {base : Heap}, Txt K mg → FnAt P w K mg base "_law_mix" 1 2 F) ∧ (∀ c k : Int, 0 ≤ k → k ≤ 1000 → ∃ v : Int, 0 ≤ v ∧ F [.int c, .int k] = .ok (.int v)) := by
  refine ⟨_, fun T => fnAt_of (k := 0) T.f_law_mix sc_law_mix _ (fun f cdv A outer s H E hr => (dss_cons (ds_set 2 sc_law_mix.nd rfl (Or.inl rfl) (de_mod (de_add (de_add (de_add (de_mulW (de_var 0 (pv 0)) de_int) (de_mulW (de_mulW (de_var 1 (pv 1)) (de_var 1 (pv 1))) de_int)) (de_mulW de_int (de_var 1 (pv 1)))) de_int) de_int)) (dss_one (ds_ret (de_any (de_mod (de_mulW (de_var 2 (pv 2)) (de_var 2 (pv 2))) de_int)))))), ?_⟩
  intro c k h0 h1
  have e0 : stRho ["_law_cell", "_law_k", "_law_number"] [.int c, .int k] = [some (.val (.int c)), some (.val (.int k)), none] := rfl
  rw [e0]
  have m1 : dMulW (.int c) (.int 48271) = .ok (.int (c * 48271)) := dMulW_ok (.inr (.inr (.inr (by decide))))
  have m2 : dMulW (.int k) (.int k) = .ok (.int (k * k)) := dMulW_ok (.inr (.inr (.inr ⟨by omega, by omega⟩)))
  have m3 : dMulW (.int (k * k)) (.int 69621) = .ok (.int (k * k * 69621)) := dMulW_ok (.inr (.inr (.inr (by decide))))
  have m4 : dMulW (.int 11) (.int k) = .ok (.int (11 * k)) := dMulW_ok (.inr (.inr (.inr ⟨by omega, by omega⟩)))
  obtain ⟨x, hx⟩ : ∃ x, x = (c * 48271 + k * k * 69621 + 11 * k + 1) % 2147483647 := ⟨_, rfl⟩
  have x0 : 0 ≤ x := by omega
  have x1 : x < 2147483647 := by omega
  have m5 : dMulW (.int x) (.int x) = .ok (.int (x * x)) := dMulW_ok (.inr (.inr (.inr ⟨by omega, by omega⟩)))
  refine ⟨x * x % 2147483629, Int.emod_nonneg _ (by decide), ?_⟩
  simp [rv, m1, m2, m3, m4, dAdd, dMod, onInts, ← hx, m5, fin, seqM]
noncomputable def law_mixF : List D → M D := Classical.choose ex_law_mix
theorem law_mix_at {P : Program} {w : World} {K : PySem.W.Frag} {mg : Str → Option Value} {base : Heap} : Txt K mg → FnAt P w K mg base "_law_mix" 1 2 law_mixF := (Classical.choose_spec ex_law_mix).1
theorem law_mix_eq : ∀ c k : Int, 0 ≤ k → k ≤ 1000 → ∃ v : Int, 0 ≤ v ∧ law_mixF [.int c, .int k] = .ok (.int v) := (Classical.choose_spec ex_law_mix).2
theorem ex_law_great : ∃ F : List D → M D, (∀ {P : Program} {w : World} {K : PySem.W.Frag} {mg : Str → Option Value} {base : Heap}, Txt K mg → FnAt P w K mg base "_law_great" 1 2 F) ∧ (∀ c k : Int, Sm c → 0 ≤ k → k ≤ 100 → ∃ v : Int, 0 ≤ v ∧ F [.int c, .int k] = .ok (.int v)) := by
  refine ⟨_, fun T => fnAt_of (k := 0) T.f_law_great sc_law_great _ (fun f cdv A outer s H E hr => (dss_one (ds_ret (de_any (de_mod (de_mulW (de_add (de_add (de_var 0 (pv 0)) (de_mulW (de_var 1 (pv 1)) (de_var 1 (pv 1)))) de_int) de_int) (de_pow de_int de_int)))))), ?_⟩
  intro c k hs h0 h1
  have e0 : stRho ["_law_cell", "_law_k"] [.int c, .int k] = [some (.val (.int c)), some (.val (.int k))] := rfl
  rw [e0]
  have m2 : dMulW (.int k) (.int k) = .ok (.int (k * k)) := dMulW_ok (.inr (.inr (.inr ⟨by omega, by omega⟩)))
  have hk : 0 ≤ k * k := Int.mul_nonneg h0 h0
  have hk2 : k * k ≤ 100 * 100 := Int.mul_le_mul h1 h1 h0 (by decide)
  have hb : Builtin.Int.intBits (c + (k * k + 1)) ≤ 2 ^ 20 + 1 := bits_near hs (by omega)
  have m3 : dMulW (.int (c + (k * k + 1))) (.int 5172390846617502938471650293846571029384756102938477) = .ok (.int ((c + (k * k + 1)) * 5172390846617502938471650293846571029384756102938477)) := dMulW_ok (.inl ⟨hb, bits_le (by decide)⟩)
  have m4 := dMod_pos (a := (c + (k * k + 1)) * 5172390846617502938471650293846571029384756102938477) (b := p60) (by unfold p60; omega)
  refine ⟨_, (p60_mod ((c + (k * k + 1)) * 5172390846617502938471650293846571029384756102938477)).1, ?_⟩
  have a1 : dAdd (.int c) (.int (k * k)) = .ok (.int (c + k * k)) := rfl
  have a2 : dAdd (.int (c + k * k)) (.int 1) = .ok (.int (c + (k * k + 1))) := by rw [← Int.add_assoc]; rfl
  simp only [rv, List.getElem?_cons_zero, List.getElem?_cons_succ, M.bind_ok, m2, a1, a2, m3, dPow60, m4]
  rfl
noncomputable def law_greatF : List D → M D := Classical.choose ex_law_great
theorem law_great_at {P : Program} {w : World} {K : PySem.W.Frag} {mg : Str → Option Value} {base : Heap} : Txt K mg → FnAt P w K mg base "_law_great" 1 2 law_greatF := (Classical.choose_spec ex_law_great).1
theorem law_great_eq : ∀ c k : Int, Sm c → 0 ≤ k → k ≤ 100 → ∃ v : Int, 0 ≤ v ∧ law_greatF [.int c, .int k] = .ok (.int v) := (Classical.choose_spec ex_law_great).2
theorem ex_law_roads : ∃ F : List D → M D, (∀ {P : Program} {w : World} {K : PySem.W.Frag} {mg : Str → Option Value} {base : Heap}, Txt K mg → FnAt P w K mg base "_law_roads" 2 2 F) ∧ (∀ (cells : List Int) (m : Nat), 1 ≤ m → m ≤ 16 → cells.length ≤ 90 → (∀ c ∈ cells, Sm c) → ∃ rs : List Road, rs.length ≤ cells.length ∧ (∀ r ∈ rs, OkR m r) ∧ F [.lst (cells.map D.int), .int m] = .ok (.lst (rs.map rdD))) := by
  refine ⟨_, fun T => fnAt_of (k := 1) T.f_law_roads sc_law_roads _ (fun f cdv A outer s H E hr => (dss_cons (ds_new 2 sc_law_roads.nd rfl (Or.inl rfl) da_nil) (dss_cons (ds_for PassesOwn.never rfl (di_range1 (c := true) rfl T.b_range (de_len rfl T.b_len (de_var 0 (pv 0)))) (dg_name 3 sc_law_roads.nd rfl (Or.inl rfl)) (dss_cons (ds_set 4 sc_law_roads.nd rfl (Or.inl rfl) (de_callA (law_mix_at T) (hr.mono (by decide)) rfl (da_cons (de_item (de_var 0 (pv 0)) (de_var 3 (pv 3))) (da_cons (de_var 3 (pv 3)) da_nil)) rfl)) (dss_cons (ds_set 5 sc_law_roads.nd rfl (Or.inl rfl) (de_callA (law_great_at T) (hr.mono (by decide)) rfl (da_cons (de_item (de_var 0 (pv 0)) (de_var 3 (pv 3))) (da_cons (de_var 3 (pv 3)) da_nil)) rfl)) (dss_one (ds_if (DW.dt (dw_and (dt_gt (c := true) (de_var 1 (pv 1)) de_int) (dw_and (dt_gt (c := true) (de_flat (de_len rfl T.b_len (de_name 2 (pv 2)))) de_int) (dw_and1 (dt_eq (c := true) (huR hr 16 (by decide)) (de_mod (de_var 4 (pv 4)) de_int) de_int))))) (dss_one (ds_append 2 (pv 2) (de_ixO 2 (pv 2) (de_mod (de_fdiv (de_var 4 (pv 4)) de_int) (de_flat (de_len rfl T.b_len (de_name 2 (pv 2)))))))) (dss_one (ds_if (dt_gt (c := true) (de_var 1 (pv 1)) de_int) (dss_cons (ds_set 6 sc_law_roads.nd rfl (Or.inl rfl) (de_mod (de_fdiv (de_var 4 (pv 4)) de_int) (de_var 1 (pv 1)))) (dss_cons (ds_set 7 sc_law_roads.nd rfl (Or.inl rfl) (de_mod (de_add (de_add (de_var 6 (pv 6)) de_int) (de_mod (de_fdiv (de_var 4 (pv 4)) de_int) (de_sub (de_var 1 (pv 1)) de_int))) (de_var 1 (pv 1)))) (dss_cons (ds_set 8 sc_law_roads.nd rfl (Or.inl rfl) (de_fdiv (de_var 4 (pv 4)) de_int)) (dss_cons (ds_set 9 sc_law_roads.nd rfl (Or.inl rfl) (de_item (de_lst (da_cons de_non (da_cons de_int (da_cons de_int (da_cons de_int (da_cons (de_mod (de_var 8 (pv 8)) de_int) (da_cons (de_mod (de_var 8 (pv 8)) de_int) (da_cons (de_var 5 (pv 5)) (da_cons (de_var 5 (pv 5)) da_nil))))))))) (de_mod (de_fdiv (de_var 4 (pv 4)) de_int) de_int))) (dss_one (ds_append 2 (pv 2) (de_tup (da_cons (de_var 6 (pv 6)) (da_cons (de_var 7 (pv 7)) (da_cons (de_var 9 (pv 9)) (da_cons (de_item (de_lst (da_cons (de_mod (de_var 8 (pv 8)) de_int) (da_cons (de_var 5 (pv 5)) da_nil))) (de_mod (de_var 4 (pv 4)) de_int)) da_nil))))))))))) dss_nil))))))) (dss_one (ds_ret (de_name 2 (pv 2))))))), ?_⟩
  intro cells m hm1 hm2 hl hsm
  have e0 : stRho ["_law_cells", "_law_many", "_law_roads_here", "_law_k", "_law_mixed", "_law_great_here", "_law_one", "_law_other", "_law_small", "_law_length"] [.lst (cells.map D.int), .int m] = [some (.val (.lst (cells.map D.int))), some (.val (.int m)), none, none, none, none, none, none, none, none] := rfl
  rw [e0]
  refine fin_seqE (fun y => ∃ rs : List Road, rs.length ≤ cells.length ∧ (∀ r ∈ rs, OkR m r) ∧ y = .ok (.lst (rs.map rdD))) (ρ := [some (.val (.lst (cells.map D.int))), some (.val (.int m)), some (.own []), none, none, none, none, none, none, none]) rfl ?_
  have hlen : dLen [.lst (cells.map D.int)] = .ok (.int cells.length) := by simp [dLen]
  have hrng := rngM_nat (n := cells.length) (by omega)
  simp only [rv, List.getElem?_cons_zero, List.getElem?_cons_succ, M.bind_ok, hlen, hrng]
  refine fin_forE (fun y => ∃ rs : List Road, rs.length ≤ cells.length ∧ (∀ r ∈ rs, OkR m r) ∧ y = .ok (.lst (rs.map rdD))) (fun i ρ => ∃ rs : List Road, ∃ s3 s4 s5 s6 s7 s8 s9, rs.length ≤ i ∧ (∀ r ∈ rs, OkR m r) ∧ ρ = [some (.val (.lst (cells.map D.int))), some (.val (.int m)), some (.own (rs.map rdD)), s3, s4, s5, s6, s7, s8, s9]) ⟨[], none, none, none, none, none, none, none, Nat.le_refl _, (fun r h => by cases h), rfl⟩ ?_ ?_
  · rintro i d ρ hd ⟨rs, s3, s4, s5, s6, s7, s8, s9, hrs, hok, rfl⟩
    obtain ⟨hd1, hi⟩ := rangeD_get hd
    rw [Int.zero_add] at hd1
    subst hd1
    have hq : cells[i]? = some cells[i] := List.getElem?_eq_getElem hi
    have hcm := hsm _ (List.getElem_mem hi)
    have x1 : dIx (.lst (cells.map D.int)) (.int (i : Int)) = .ok (.int cells[i]) := dIx_map (by omega) (by rw [Int.toNat_natCast]; exact hq)
    obtain ⟨v, v0, hv⟩ := law_mix_eq cells[i] i (by omega) (by omega)
    obtain ⟨g, g0, hg⟩ := law_great_eq cells[i] i hcm (by omega) (by omega)
    have hroom : rs.length < 1000 := by omega
    have gl : dGt (.int (rs.length : Int)) (.int 0) = .ok (.bl (decide ((0 : Int) < rs.length))) := rfl
    by_cases hm : 1 < m
    · have hmI : (1 : Int) < (m : Int) := by omega
      have gt1 : dGt (.int (m : Int)) (.int 1) = .ok (.bl true) := by simp [dGt, onInts, hmI]
      have d7 : dFdiv (.int v) (.int 7) = .ok (.int (v / 7)) := dFdiv_lit (by unfold CDiv; omega)
      by_cases hz : 0 < rs.length ∧ v % 7 = 3
      · have hzI : (0 : Int) < (rs.length : Int) := by omega
        obtain ⟨j, hj⟩ : ∃ j, j = v / 7 % (rs.length : Int) := ⟨_, rfl⟩
        have j0 : 0 ≤ j := by rw [hj]; exact Int.emod_nonneg _ (by omega)
        have j1 : j < rs.length := by rw [hj]; exact Int.emod_lt_of_pos _ hzI
        have hjn : j.toNat < rs.length := by omega
        have x2 : dIx (.lst (rs.map rdD)) (.int j) = .ok (rdD rs[j.toNat]) := dIx_map j0 (List.getElem?_eq_getElem hjn)
        refine ⟨_, [some (.val (.lst (cells.map D.int))), some (.val (.int m)), some (.own ((rs ++ [rs[j.toNat]]).map rdD)), some (.val (.int i)), some (.val (.int v)), some (.val (.int g)), s6, s7, s8, s9], rfl, ?_, rs ++ [rs[j.toNat]], _, _, _, _, _, _, _, by simp; omega, fun r hr => ?_, rfl⟩
        · have d77 : dMod (.int (v / 7)) (.int (rs.length : Int)) = .ok (.int j) := by rw [hj]; exact dMod_pos hzI
          simp [rv, ra, x1, hv, hg, gt1, dLen, gl, fl, flatD, onInts, dMod, hz.1, hz.2, dEq, dep, noX, eqD, asB, d7, ixOwn, appM, hroom, seqM, ← hj, x2]
        · rcases List.mem_append.mp hr with hr | hr
          · exact hok r hr
          · have : r = rs[j.toNat] := by simpa using hr
            rw [this]; exact hok _ (List.getElem_mem hjn)
      · have hm1I : (0 : Int) < (m : Int) - 1 := by omega
        have hmp : (0 : Int) < (m : Int) := by omega
        have hmN : 0 < m := by omega
        obtain ⟨o, ho⟩ : ∃ o, o = v / 7 % (m : Int) := ⟨_, rfl⟩
        obtain ⟨o', ho'⟩ : ∃ o', o' = (o + 1 + v / 112 % ((m : Int) - 1)) % (m : Int) := ⟨_, rfl⟩
        have o0 : 0 ≤ o := by rw [ho]; exact Int.emod_nonneg _ (by omega)
        have o1 : o < m := by rw [ho]; exact Int.emod_lt_of_pos _ hmp
        have p0 : 0 ≤ o' := by rw [ho']; exact Int.emod_nonneg _ (by omega)
        have p1 : o' < m := by rw [ho']; exact Int.emod_lt_of_pos _ hmp
        have d112 : dFdiv (.int v) (.int 112) = .ok (.int (v / 112)) := dFdiv_lit (by unfold CDiv; omega)
        have d8064 : dFdiv (.int v) (.int 8064) = .ok (.int (v / 8064)) := dFdiv_lit (by unfold CDiv; omega)
        have d1008 : dFdiv (.int v) (.int 1008) = .ok (.int (v / 1008)) := dFdiv_lit (by unfold CDiv; omega)
        have q1 : dMod (.int (v / 7)) (.int (m : Int)) = .ok (.int o) := by rw [ho]; exact dMod_pos hmp
        have q2 : dMod (.int (v / 112)) (.int ((m : Int) - 1)) = .ok (.int (v / 112 % ((m : Int) - 1))) := dMod_pos hm1I
        have q3 : dMod (.int (o + 1 + v / 112 % ((m : Int) - 1))) (.int (m : Int)) = .ok (.int o') := by rw [ho']; exact dMod_pos hmp
        obtain ⟨l, hpl, l0⟩ := pick8 (a := v / 8064 % 3) (b := v / 8064 % 100) (g := g) (i := v / 1008 % 8) (by omega) (by omega) g0 (by omega) (by omega)
        obtain ⟨w, hpw⟩ := pick2 (v / 8064 % 5) g (i := v % 2) (by omega) (by omega)
        refine ⟨_, [some (.val (.lst (cells.map D.int))), some (.val (.int m)), some (.own ((rs ++ [Road.mk o o' l w]).map rdD)), some (.val (.int i)), some (.val (.int v)), some (.val (.int g)), some (.val (.int o)), some (.val (.int o')), some (.val (.int (v / 8064))), some (.val (lenD l))], rfl, ?_, rs ++ [Road.mk o o' l w], _, _, _, _, _, _, _, by simp; omega, fun r hr => ?_, rfl⟩
        · by_cases hz1 : 0 < rs.length
          · have hz2 : ¬ v % 7 = 3 := fun z => hz ⟨hz1, z⟩
            simp [rv, ra, x1, hv, hg, gt1, dLen, gl, fl, flatD, onInts, dMod, hz1, hz2, dEq, dep, noX, eqD, asB, d7, d112, d8064, d1008, dAdd, dSub, hmp, hm1I, hmN, hmI, hm, ← ho, ← ho', hpl, hpw, appM, hroom, seqM, rdD]
          · simp [rv, ra, x1, hv, hg, gt1, dLen, gl, fl, flatD, onInts, dMod, hz1, asB, d7, d112, d8064, d1008, dAdd, dSub, hmp, hm1I, hmN, hmI, hm, ← ho, ← ho', hpl, hpw, appM, hroom, seqM, rdD]
        · rcases List.mem_append.mp hr with hr | hr
          · exact hok r hr
          · have : r = Road.mk o o' l w := by simpa using hr
            rw [this]; exact ⟨o0, o1, p0, p1, l0⟩
    · have gt1 : dGt (.int (m : Int)) (.int 1) = .ok (.bl false) := by
        have : ¬ (1 : Int) < (m : Int) := by omega
        simp [dGt, onInts, this]
      refine ⟨_, [some (.val (.lst (cells.map D.int))), some (.val (.int m)), some (.own (rs.map rdD)), some (.val (.int i)), some (.val (.int v)), some (.val (.int g)), s6, s7, s8, s9], rfl, ?_, rs, _, _, _, _, _, _, _, by omega, hok, rfl⟩
      simp [rv, x1, hv, hg, gt1, asB, seqM]
  · rintro ρ ⟨rs, s3, s4, s5, s6, s7, s8, s9, hrs, hok, rfl⟩
    rw [rangeD_len] at hrs
    exact ⟨rs, hrs, hok, rfl⟩
noncomputable def law_roadsF : List D → M D := Classical.choose ex_law_roads
theorem law_roads_at {P : Program} {w : World} {K : PySem.W.Frag} {mg : Str → Option Value} {base : Heap} : Txt K mg → FnAt P w K mg base "_law_roads" 2 2 law_roadsF := (Classical.choose_spec ex_law_roads).1
theorem law_roads_eq : ∀ (cells : List Int) (m : Nat), 1 ≤ m → m ≤ 16 → cells.length ≤ 90 → (∀ c ∈ cells, Sm c) → ∃ rs : List Road, rs.length ≤ cells.length ∧ (∀ r ∈ rs, OkR m r) ∧ law_roadsF [.lst (cells.map D.int), .int m] = .ok (.lst (rs.map rdD)) := (Classical.choose_spec ex_law_roads).2
theorem ex_law_added : ∃ F : List D → M D, (∀ {P : Program} {w : World} {K : PySem.W.Frag} {mg : Str → Option Value} {base : Heap}, Txt K mg → FnAt P w K mg base "_law_added" 1 2 F) ∧ (∀ a b, F [cst a, cst b] = .ok (cst (addC a b))) := by
  refine ⟨_, fun T => fnAt_of (k := 0) T.f_law_added sc_law_added _ (fun f cdv A outer s H E hr => (dss_cons (ds_if (DW.dt (dw_or (dt_isN (c := true) (de_var 0 (pv 0))) (dw_or1 (dt_isN (c := true) (de_var 1 (pv 1)))))) (dss_one (ds_ret (de_any de_non))) dss_nil) (dss_one (ds_ret (de_any (de_tup (da_cons (de_add (de_item (de_var 0 (pv 0)) de_int) (de_item (de_var 1 (pv 1)) de_int)) (da_cons (de_add (de_item (de_var 0 (pv 0)) de_int) (de_item (de_var 1 (pv 1)) de_int)) da_nil)))))))), ?_⟩
  intro a b
  rcases a with _ | ⟨a1, a2⟩ <;> rcases b with _ | ⟨b1, b2⟩ <;> rfl
noncomputable def law_addedF : List D → M D := Classical.choose ex_law_added
theorem law_added_at {P : Program} {w : World} {K : PySem.W.Frag} {mg : Str → Option Value} {base : Heap} : Txt K mg → FnAt P w K mg base "_law_added" 1 2 law_addedF := (Classical.choose_spec ex_law_added).1
theorem law_added_eq : ∀ a b, law_addedF [cst a, cst b] = .ok (cst (addC a b)) := (Classical.choose_spec ex_law_added).2
theorem ex_law_least : ∃ F : List D → M D, (∀ {P : Program} {w : World} {K : PySem.W.Frag} {mg : Str → Option Value} {base : Heap}, Txt K mg → FnAt P w K mg base "_law_least" 1 1 F) ∧ (∀ cs : List (Option (Int × Int)), cs.length ≤ 1000 → F [.lst (cs.map cst)] = .ok (cst (minL cs))) := by
  refine ⟨_, fun T => fnAt_of (k := 0) T.f_law_least sc_law_least _ (fun f cdv A outer s H E hr => (dss_one (ds_ret (de_any (de_minD rfl (huR hr 1 (by decide)) rfl T.b_min (de_comp (NB := ["_law_cost"]) [none] rfl (di_list (de_var 0 (pv 0))) rfl rfl (dgb_name 0 (by decide) rfl rfl rfl) (fun _ _ _ _ => dts_one (dt_notN (c := true) (de_var 0 (pv 0)))) (fun _ _ _ _ => (de_var 0 (pv 0)))) de_non))))), ?_⟩
  intro cs hc
  show fin (((if (cs.map cst).length ≤ 1000 then compR (compM _ _ _ (cs.map cst) [none]) else .bad).bind fun x => (M.ok D.non).bind fun y => dMinD x y).bind fun d => .ok (.ret d)) = _
  rw [if_pos (by rw [List.length_map]; exact hc), comp_filter]
  simp only [compR, M.bind_ok]
  rw [dmin_eq]; rfl
noncomputable def law_leastF : List D → M D := Classical.choose ex_law_least
theorem law_least_at {P : Program} {w : World} {K : PySem.W.Frag} {mg : Str → Option Value} {base : Heap} : Txt K mg → FnAt P w K mg base "_law_least" 1 1 law_leastF := (Classical.choose_spec ex_law_least).1
theorem law_least_eq : ∀ cs : List (Option (Int × Int)), cs.length ≤ 1000 → law_leastF [.lst (cs.map cst)] = .ok (cst (minL cs)) := (Classical.choose_spec ex_law_least).2
theorem ex_law_open : ∃ F : List D → M D, (∀ {P : Program} {w : World} {K : PySem.W.Frag} {mg : Str → Option Value} {base : Heap}, Txt K mg → FnAt P w K mg base "_law_open" 1 1 F) ∧ (∀ r : Road, F [rdD r] = .ok (cst (rcC r))) := by
  refine ⟨_, fun T => fnAt_of (k := 0) T.f_law_open sc_law_open _ (fun f cdv A outer s H E hr => (dss_cons (ds_if (dt_isN (c := true) (de_item (de_var 0 (pv 0)) de_int)) (dss_one (ds_ret (de_any de_non))) dss_nil) (dss_one (ds_ret (de_any (de_tup (da_cons (de_item (de_var 0 (pv 0)) de_int) (da_cons de_int da_nil)))))))), ?_⟩
  intro r
  obtain ⟨a, b, l, w⟩ := r
  cases l <;> rfl
noncomputable def law_openF : List D → M D := Classical.choose ex_law_open
theorem law_open_at {P : Program} {w : World} {K : PySem.W.Frag} {mg : Str → Option Value} {base : Heap} : Txt K mg → FnAt P w K mg base "_law_open" 1 1 law_openF := (Classical.choose_spec ex_law_open).1
theorem law_open_eq : ∀ r : Road, law_openF [rdD r] = .ok (cst (rcC r)) := (Classical.choose_spec ex_law_open).2
theorem ex_law_costs : ∃ F : List D → M D, (∀ {P : Program} {w : World} {K : PySem.W.Frag} {mg : Str → Option Value} {base : Heap}, Txt K mg → FnAt P w K mg base "_law_costs" 2 2 F) ∧ (∀ (m : Nat) (rs : List Road), m ≤ 900 → rs.length ≤ 900 → (∀ r ∈ rs, OkR m r) → ∃ css : List (List Co), Mat m css ∧ (∀ x y : Int, 0 ≤ x → x < m → 0 ≤ y → y < m → IsMin rs x y (at2 css x y)) ∧ F [.lst (rs.map rdD), .int m] = .ok (.lst ((rowsD css).map D.lst))) := by
  refine ⟨_, fun T => fnAt_of (k := 1) T.f_law_costs sc_law_costs _ (fun f cdv A outer s H E hr => (dss_cons (ds_newR 2 sc_law_costs.nd rfl (Or.inl rfl)) (dss_cons (ds_for PassesOwn.never rfl (di_range1 (c := true) rfl T.b_range (de_var 1 (pv 1))) (dg_name 3 sc_law_costs.nd rfl (Or.inl rfl)) (dss_cons (ds_rep 5 sc_law_costs.nd rfl (Or.inl rfl) de_non (de_var 1 (pv 1))) (dss_cons (ds_put 5 (pv 5) (de_tup (da_cons de_int (da_cons de_int da_nil))) (de_var 3 (pv 3))) (dss_cons (ds_for PassesOwn.never rfl (di_list (de_var 0 (pv 0))) (dg_name 6 sc_law_costs.nd rfl (Or.inl rfl)) (dss_one (ds_if (dt_eq (c := true) (huR hr 16 (by decide)) (de_item (de_var 6 (pv 6)) de_int) (de_var 3 (pv 3))) (dss_one (ds_put 5 (pv 5) (de_callA (law_least_at T) (hr.mono (by decide)) rfl (da_cons (de_lst (da_cons (de_ixO 5 (pv 5) (de_item (de_var 6 (pv 6)) de_int)) (da_cons (de_callA (law_open_at T) (hr.mono (by decide)) rfl (da_cons (de_var 6 (pv 6)) da_nil) rfl) da_nil))) da_nil) rfl) (de_item (de_var 6 (pv 6)) de_int))) dss_nil))) (dss_one (ds_push 2 5 (pv 2) (pv 5))))))) (dss_cons (ds_for PassesOwn.never rfl (di_range1 (c := true) rfl T.b_range (de_var 1 (pv 1))) (dg_name 4 sc_law_costs.nd rfl (Or.inl rfl)) (dss_one (ds_for PassesOwn.never rfl (di_range1 (c := true) rfl T.b_range (de_var 1 (pv 1))) (dg_name 3 sc_law_costs.nd rfl (Or.inl rfl)) (dss_one (ds_for PassesOwn.never rfl (di_range1 (c := true) rfl T.b_range (de_var 1 (pv 1))) (dg_name 7 sc_law_costs.nd rfl (Or.inl rfl)) (dss_one (ds_put2 2 (pv 2) (de_callA (law_least_at T) (hr.mono (by decide)) rfl (da_cons (de_lst (da_cons (de_ix2 2 (pv 2) (de_var 3 (pv 3)) (de_var 7 (pv 7))) (da_cons (de_callA (law_added_at T) (hr.mono (by decide)) rfl (da_cons (de_ix2 2 (pv 2) (de_var 3 (pv 3)) (de_var 4 (pv 4))) (da_cons (de_ix2 2 (pv 2) (de_var 4 (pv 4)) (de_var 7 (pv 7))) da_nil)) rfl) da_nil))) da_nil) rfl) (de_var 3 (pv 3)) (de_var 7 (pv 7))))))))) (dss_one (ds_ret (de_name 2 (pv 2)))))))), ?_⟩
  intro m rs hm hrl hok
  have e0 : stRho ["_law_roads_here", "_law_many", "_law_costs_here", "_law_u", "_law_v", "_law_row", "_law_road", "_law_w"] [.lst (rs.map rdD), .int m] = [some (.val (.lst (rs.map rdD))), some (.val (.int m)), none, none, none, none, none, none] := rfl
  rw [e0]
  have hrng := rngM_nat (n := m) (by omega)
  refine fin_seqE (fun y => ∃ css : List (List Co), Mat m css ∧ (∀ x y : Int, 0 ≤ x → x < m → 0 ≤ y → y < m → IsMin rs x y (at2 css x y)) ∧ y = .ok (.lst ((rowsD css).map D.lst))) (ρ := [some (.val (.lst (rs.map rdD))), some (.val (.int m)), some (.ow (.rows [])), none, none, none, none, none]) rfl ?_
  simp only [rv, List.getElem?_cons_zero, List.getElem?_cons_succ, M.bind_ok, hrng]
  refine fin_forE (fun y => ∃ css : List (List Co), Mat m css ∧ (∀ x y : Int, 0 ≤ x → x < m → 0 ≤ y → y < m → IsMin rs x y (at2 css x y)) ∧ y = .ok (.lst ((rowsD css).map D.lst)))
    (fun i ρ => ∃ css s3 s6, ρ = [some (.val (.lst (rs.map rdD))), some (.val (.int m)), some (.ow (.rows (rowsD css))), s3, none, none, s6, none] ∧ css.length = i ∧ ∀ u : Nat, u < i → RowU m rs u rs.length (css.getD u [])) ⟨[], none, none, rfl, rfl, fun u h => by omega⟩ ?_ ?_
  · rintro i d ρ hd ⟨css, s3, s6, rfl, hcl, hrow⟩
    obtain ⟨hd1, hi⟩ := rangeD_get hd
    rw [Int.zero_add] at hd1
    subst hd1
    suffices h : ∃ ρ2, _ = M.ok (Out.next ρ2) ∧ ∃ css s3 s6, ρ2 = [some (.val (.lst (rs.map rdD))), some (.val (.int m)), some (.ow (.rows (rowsD css))), s3, none, none, s6, none] ∧ css.length = i + 1 ∧ ∀ u : Nat, u < i + 1 → RowU m rs u rs.length (css.getD u []) from let ⟨ρ2, h1, h2⟩ := h; ⟨_, ρ2, rfl, h1, h2⟩
    refine ex_seq (ρ1 := [some (.val (.lst (rs.map rdD))), some (.val (.int m)), some (.ow (.rows (rowsD css))), some (.val (.int i)), none, some (.own ((List.replicate m none).map cst)), s6, none]) ?_ ?_
    · have hz : (0 : Int) ≤ (m : Int) ∧ (m : Int).toNat ≤ 1000 := ⟨by omega, by omega⟩
      simp only [rv, List.set_cons_zero, List.set_cons_succ, List.getElem?_cons_zero, List.getElem?_cons_succ, M.bind_ok, repM, if_pos hz]
      rw [Int.toNat_natCast, List.map_replicate]
      rfl
    refine ex_seq (ρ1 := [some (.val (.lst (rs.map rdD))), some (.val (.int m)), some (.ow (.rows (rowsD css))), some (.val (.int i)), none, some (.own (((List.replicate m none).set i (some (0, 0))).map cst)), s6, none]) ?_ ?_
    · have hx : ixN (List.map cst (List.replicate m none)).length (i : Int) = some i := by
        rw [ixN_nat (by rw [List.length_map, List.length_replicate]; omega), Int.toNat_natCast]
      have hz2 : [D.int 0, D.int 0].length ≤ 1000 := by decide
      simp only [rv, List.getElem?_cons_zero, List.getElem?_cons_succ, M.bind_ok, if_pos hz2, putM, putI, hx, List.set_cons_zero, List.set_cons_succ, List.map_set]
      rfl
    simp only [rv, List.getElem?_cons_zero, List.getElem?_cons_succ, M.bind_ok]
    refine ex_seq_for (fun j ρ => ∃ R s6, ρ = [some (.val (.lst (rs.map rdD))), some (.val (.int m)), some (.ow (.rows (rowsD css))), some (.val (.int i)), none, some (.own (R.map cst)), s6, none] ∧ RowU m rs i j R) ⟨_, s6, rfl, row_start rs hi⟩ ?_ ?_
    · rintro j d ρ hd ⟨R, s6, rfl, g⟩
      rw [List.getElem?_map] at hd
      cases hq : rs[j]? with
      | none => rw [hq] at hd; cases hd
      | some r =>
        rw [hq] at hd
        cases hd
        have hr := List.mem_of_getElem? hq
        have ok := hok r hr
        have r0 : dIx (rdD r) (.int 0) = .ok (.int r.a) := rfl
        have r1 : dIx (rdD r) (.int 1) = .ok (.int r.b) := rfl
        have hb1 : r.b < R.length := by rw [g.len]; exact ok.b1
        have x1 := dIx_cost ok.b0 hb1
        have hop := law_open_eq r
        have hle : law_leastF [.lst [cst (atC R r.b), cst (rcC r)]] = .ok (cst (lsC (atC R r.b) (rcC r))) := law_least_eq [atC R r.b, rcC r] (by simp)
        have hx2 : ixN R.length r.b = some r.b.toNat := ixN_nat ⟨ok.b0, hb1⟩
        by_cases hu : r.a = (i : Int)
        · refine ⟨_, [some (.val (.lst (rs.map rdD))), some (.val (.int m)), some (.ow (.rows (rowsD css))), some (.val (.int i)), none, some (.own ((R.set r.b.toNat (lsC (atC R r.b) (rcC r))).map cst)), some (.val (rdD r)), none], rfl, ?_, _, _, rfl, row_step g hq hu hok⟩
          simp [rv, r0, r1, dEq, dep, noX, eqD, hu, asB, ixOwn, x1, hop, hle, putM, putI, hx2, List.map_set]
        · refine ⟨_, [some (.val (.lst (rs.map rdD))), some (.val (.int m)), some (.ow (.rows (rowsD css))), some (.val (.int i)), none, some (.own (R.map cst)), some (.val (rdD r)), none], rfl, ?_, _, _, rfl, row_skip g hq hu⟩
          simp [rv, r0, dEq, dep, noX, eqD, hu, asB]
    · rintro ρ' ⟨R, s6, rfl, g⟩
      rw [List.length_map] at g
      refine ex_one (ρ1 := [some (.val (.lst (rs.map rdD))), some (.val (.int m)), some (.ow (.rows (rowsD (css ++ [R])))), some (.val (.int i)), none, none, s6, none]) ?_ ⟨_, _, _, rfl, by simp [hcl], fun u hu => ?_⟩
      · have hl : (rowsD css).length < 1000 ∧ 2 ≠ 5 := ⟨by unfold rowsD; rw [List.length_map]; omega, by decide⟩
        simp only [pushM, List.getElem?_cons_zero, List.getElem?_cons_succ, if_pos hl, List.set_cons_zero, List.set_cons_succ]
        unfold rowsD
        rw [List.map_append]
        rfl
      · by_cases h : u = i
        · subst h
          have e : (css ++ [R]).getD u [] = R := by rw [List.getD_eq_getElem?_getD, List.getElem?_append_right (by omega)]; simp [hcl]
          rw [e]; exact g
        · have e : (css ++ [R]).getD u [] = css.getD u [] := by rw [List.getD_eq_getElem?_getD, List.getElem?_append_left (by omega), List.getD_eq_getElem?_getD]
          rw [e]; exact hrow u (by omega)
  · rintro ρ' ⟨css, s3, s6, rfl, hcl, hrow⟩
    rw [rangeD_len] at hcl hrow
    have hM : Mat m css := ⟨hcl, fun R hR => by
      obtain ⟨u, hu, e⟩ := List.getElem_of_mem hR
      have := (hrow u (by omega)).len
      rw [List.getD_eq_getElem?_getD, List.getElem?_eq_getElem hu] at this
      rw [← e]; exact this⟩
    have hF := fw_start hM hok hrow
    simp only [rv, List.getElem?_cons_zero, List.getElem?_cons_succ, M.bind_ok, hrng]
    refine fin_forE (fun y => ∃ css : List (List Co), Mat m css ∧ (∀ x y : Int, 0 ≤ x → x < m → 0 ≤ y → y < m → IsMin rs x y (at2 css x y)) ∧ y = .ok (.lst ((rowsD css).map D.lst)))
      (fun k ρ => ∃ css s3 s4 s6 s7, ρ = [some (.val (.lst (rs.map rdD))), some (.val (.int m)), some (.ow (.rows (rowsD css))), s3, s4, none, s6, s7] ∧ Mat m css ∧ FW m k rs (at2 css)) ⟨css, s3, none, s6, none, rfl, hM, hF⟩ ?_ ?_
    · rintro k d ρ hd ⟨css0, s3, s4, s6, s7, rfl, hM0, hF0⟩
      obtain ⟨hd1, hk⟩ := rangeD_get hd
      rw [Int.zero_add] at hd1
      subst hd1
      suffices h : ∃ ρ2, _ = M.ok (Out.next ρ2) ∧ ∃ css s3 s4 s6 s7, ρ2 = [some (.val (.lst (rs.map rdD))), some (.val (.int m)), some (.ow (.rows (rowsD css))), s3, s4, none, s6, s7] ∧ Mat m css ∧ FW m (k + 1) rs (at2 css) from let ⟨ρ2, h1, h2⟩ := h; ⟨_, ρ2, rfl, h1, h2⟩
      simp only [List.set_cons_zero, List.set_cons_succ, List.getElem?_cons_zero, List.getElem?_cons_succ, M.bind_ok, hrng]
      have k0 : (0 : Int) ≤ k := by omega
      have k1 : (k : Int) < m := by omega
      have oc := over_col hF0 hk
      have orr := over_row hF0 hk
      refine forM_ex (fun u ρ => ∃ css s3 s6 s7, ρ = [some (.val (.lst (rs.map rdD))), some (.val (.int m)), some (.ow (.rows (rowsD css))), s3, some (.val (.int k)), none, s6, s7] ∧ Mat m css ∧ ∀ x y : Int, 0 ≤ x → x < m → 0 ≤ y → y < m → at2 css x y = if x < u then over k (at2 css0) x y else at2 css0 x y) ⟨css0, s3, s6, s7, rfl, hM0, fun x y h0 h1 h2 h3 => by rw [if_neg (by omega)]⟩ ?_ ?_
      · rintro u d ρ hd ⟨css1, s3, s6, s7, rfl, hM1, hA1⟩
        obtain ⟨hd1, hu⟩ := rangeD_get hd
        rw [Int.zero_add] at hd1
        subst hd1
        have u0 : (0 : Int) ≤ u := by omega
        have u1 : (u : Int) < m := by omega
        suffices h : ∃ ρ2, _ = M.ok (Out.next ρ2) ∧ ∃ css s3 s6 s7, ρ2 = [some (.val (.lst (rs.map rdD))), some (.val (.int m)), some (.ow (.rows (rowsD css))), s3, some (.val (.int k)), none, s6, s7] ∧ Mat m css ∧ ∀ x y : Int, 0 ≤ x → x < m → 0 ≤ y → y < m → at2 css x y = if x < ((u + 1 : Nat) : Int) then over k (at2 css0) x y else at2 css0 x y from let ⟨ρ2, h1, h2⟩ := h; ⟨_, ρ2, rfl, h1, h2⟩
        simp only [List.set_cons_zero, List.set_cons_succ, List.getElem?_cons_zero, List.getElem?_cons_succ, M.bind_ok, hrng]
        refine forM_ex (fun w ρ => ∃ css s6 s7, ρ = [some (.val (.lst (rs.map rdD))), some (.val (.int m)), some (.ow (.rows (rowsD css))), some (.val (.int u)), some (.val (.int k)), none, s6, s7] ∧ Mat m css ∧ ∀ x y : Int, 0 ≤ x → x < m → 0 ≤ y → y < m → at2 css x y = if x < u ∨ (x = u ∧ y < w) then over k (at2 css0) x y else at2 css0 x y) ⟨css1, s6, s7, rfl, hM1, fun x y h0 h1 h2 h3 => ?_⟩ ?_ ?_
        · rw [hA1 x y h0 h1 h2 h3]
          by_cases h : x < u
          · rw [if_pos h, if_pos (.inl h)]
          · rw [if_neg h, if_neg (by omega)]
        · rintro w d ρ hd ⟨css2, s6, s7, rfl, hM2, hA2⟩
          obtain ⟨hd1, hw⟩ := rangeD_get hd
          rw [Int.zero_add] at hd1
          subst hd1
          have w0 : (0 : Int) ≤ w := by omega
          have w1 : (w : Int) < m := by omega
          have a1 : at2 css2 u w = at2 css0 u w := by rw [hA2 u w u0 u1 w0 w1, if_neg (by omega)]
          have a2 : at2 css2 u k = at2 css0 u k := by
            rw [hA2 u k u0 u1 k0 k1]
            split
            · exact oc u
            · rfl
          have a3 : at2 css2 k w = at2 css0 k w := by
            rw [hA2 k w k0 k1 w0 w1]
            split
            · exact orr w
            · rfl
          obtain ⟨hM3, hP⟩ := hM2.put u0 u1 w0 w1 (over k (at2 css0) u w)
          have b1 := rowsD_at hM2 u0 u1
          have b2 := rowsD_at hM2 k0 k1
          have c1 := dIx_row hM2 u0 u1 w0 w1
          have c2 := dIx_row hM2 u0 u1 k0 k1
          have c3 := dIx_row hM2 k0 k1 w0 w1
          rw [a1] at c1
          rw [a2] at c2
          rw [a3] at c3
          have had := law_added_eq (at2 css0 u k) (at2 css0 k w)
          have hle : law_leastF [.lst [cst (at2 css0 u w), cst (addC (at2 css0 u k) (at2 css0 k w))]] = .ok (cst (over k (at2 css0) u w)) := law_least_eq [at2 css0 u w, addC (at2 css0 u k) (at2 css0 k w)] (by simp)
          have hz : [cst (at2 css0 u w), cst (addC (at2 css0 u k) (at2 css0 k w))].length ≤ 1000 := by simp
          have pj := putJ_at hM2 u0 u1 w0 w1 2 [some (.val (.lst (rs.map rdD))), some (.val (.int m)), some (.ow (.rows (rowsD css2))), some (.val (.int u)), some (.val (.int k)), none, s6, some (.val (.int w))] (over k (at2 css0) u w)
          refine ⟨_, [some (.val (.lst (rs.map rdD))), some (.val (.int m)), some (.ow (.rows (rowsD (put2 css2 u w (over k (at2 css0) u w))))), some (.val (.int u)), some (.val (.int k)), none, s6, some (.val (.int w))], rfl, ?_, _, _, _, rfl, hM3, fun x y h0 h1 h2 h3 => ?_⟩
          · simp only [ix2M, rv, List.set_cons_zero, List.set_cons_succ, List.getElem?_cons_zero, List.getElem?_cons_succ, M.bind_ok, b1, b2, c1, c2, c3, had, if_pos hz, hle, put2M]
            rw [pj]
            rfl
          · rw [hP x y h0 h2]
            by_cases h : x = u ∧ y = w
            · rw [if_pos h, if_pos (by omega), h.1, h.2]
            · rw [if_neg h, hA2 x y h0 h1 h2 h3]
              by_cases h' : x < u ∨ (x = u ∧ y < w)
              · rw [if_pos h', if_pos (by omega)]
              · rw [if_neg h', if_neg (by omega)]
        · rintro ρ' ⟨css2, s6, s7, rfl, hM2, hA2⟩
          rw [rangeD_len] at hA2
          refine ⟨css2, _, _, _, rfl, hM2, fun x y h0 h1 h2 h3 => ?_⟩
          rw [hA2 x y h0 h1 h2 h3]
          by_cases h : x < u ∨ (x = u ∧ y < m)
          · rw [if_pos h, if_pos (by omega)]
          · rw [if_neg h, if_neg (by omega)]
      · rintro ρ' ⟨css1, s3, s6, s7, rfl, hM1, hA1⟩
        rw [rangeD_len] at hA1
        refine ⟨css1, _, _, _, _, rfl, hM1, (fw_phase hF0 hk).congr (by omega) hok fun x y h0 h1 h2 h3 => ?_⟩
        rw [hA1 x y h0 h1 h2 h3, if_pos h1]
    · rintro ρ' ⟨css1, s3, s4, s6, s7, rfl, hM1, hF1⟩
      rw [rangeD_len] at hF1
      exact ⟨css1, hM1, fun x y h0 h1 h2 h3 => fw_end hF1 hok h0 h1 h2 h3, rfl⟩
noncomputable def law_costsF : List D → M D := Classical.choose ex_law_costs
theorem law_costs_at {P : Program} {w : World} {K : PySem.W.Frag} {mg : Str → Option Value} {base : Heap} : Txt K mg → FnAt P w K mg base "_law_costs" 2 2 law_costsF := (Classical.choose_spec ex_law_costs).1
theorem law_costs_eq : ∀ (m : Nat) (rs : List Road), m ≤ 900 → rs.length ≤ 900 → (∀ r ∈ rs, OkR m r) → ∃ css : List (List Co), Mat m css ∧ (∀ x y : Int, 0 ≤ x → x < m → 0 ≤ y → y < m → IsMin rs x y (at2 css x y)) ∧ law_costsF [.lst (rs.map rdD), .int m] = .ok (.lst ((rowsD css).map D.lst)) := (Classical.choose_spec ex_law_costs).2
theorem ex_law_right : ∃ F : List D → M D, (∀ {P : Program} {w : World} {K : PySem.W.Frag} {mg : Str → Option Value} {base : Heap}, Txt K mg → FnAt P w K mg base "_law_right" 2 4 F) ∧ (∀ (m : Nat) (rs : List Road) (g : Nat) (cs : List Co), m ≤ 900 → cs.length = m → rs.length ≤ 1000 → (∀ r ∈ rs, OkR m r) → F [.lst (rs.map rdD), .int m, .int g, .lst (cs.map cst)] = .ok (.bl (rightB m rs g cs))) := by
  refine ⟨_, fun T => fnAt_of (k := 1) T.f_law_right sc_law_right _ (fun f cdv A outer s H E hr => (dss_cons (ds_for PassesOwn.never rfl (di_range1 (c := true) rfl T.b_range (de_var 1 (pv 1))) (dg_name 4 sc_law_right.nd rfl (Or.inr rfl)) (dss_cons (ds_set 5 sc_law_right.nd rfl (Or.inl rfl) (de_tup (da_cons de_int (da_cons de_int da_nil)))) (dss_cons (ds_if (dt_ne (c := true) (huR hr 16 (by decide)) (de_var 4 (pv 4)) (de_var 2 (pv 2))) (dss_one (ds_set 5 sc_law_right.nd rfl (Or.inl rfl) (de_callA (law_least_at T) (hr.mono (by decide)) rfl (da_cons (de_comp (NB := ["_law_road", "_law_prices", "_law_place"]) [none, some 3, some 4] rfl (di_list (de_var 0 (pv 0))) rfl rfl (dgb_name 0 (by decide) rfl rfl rfl) (fun _ _ _ _ => dts_one (dt_eq (c := true) (huR hr 16 (by decide)) (de_item (de_var 0 (pv 0)) de_int) (de_var 2 (pv 2)))) (fun _ _ _ _ => (de_callA (law_added_at T) (hr.mono (by decide)) rfl (da_cons (de_callA (law_open_at T) (hr.mono (by decide)) rfl (da_cons (de_var 0 (pv 0)) da_nil) rfl) (da_cons (de_item (de_var 1 (pv 1)) (de_item (de_var 0 (pv 0)) de_int)) da_nil)) rfl))) da_nil) rfl))) dss_nil) (dss_one (ds_if (dt_ne (c := true) (huR hr 16 (by decide)) (de_item (de_var 3 (pv 3)) (de_var 4 (pv 4))) (de_var 5 (pv 5))) (dss_one (ds_ret (de_any de_bl))) dss_nil))))) (dss_one (ds_ret (de_any de_bl))))), ?_⟩
  intro m rs g cs hm hcl hl hok
  have e0 : stRho ["_law_roads_here", "_law_many", "_law_goal", "_law_prices", "_law_place", "_law_due"] [.lst (rs.map rdD), .int m, .int g, .lst (cs.map cst)] = [some (.val (.lst (rs.map rdD))), some (.val (.int m)), some (.val (.int g)), some (.val (.lst (cs.map cst))), none, none] := rfl
  rw [e0]
  have hrng := rngM_nat (n := m) (by omega)
  have hl2 : (rs.map rdD).length ≤ 1000 := by rw [List.length_map]; exact hl
  simp only [rv, List.getElem?_cons_zero, List.getElem?_cons_succ, M.bind_ok, hrng]
  have hlr : (rangeD 0 m).length = m := rangeD_len 0 m
  have key := fun gt gb k => fin_for_all (gt := gt) (gb := gb) (k := k) (ds := rangeD 0 m) (ρ := [some (.val (.lst (rs.map rdD))), some (.val (.int m)), some (.val (.int g)), some (.val (.lst (cs.map cst))), none, none]) (fun i ρ => ∃ s4 s5, ρ = [some (.val (.lst (rs.map rdD))), some (.val (.int m)), some (.val (.int g)), some (.val (.lst (cs.map cst))), s4, s5]) (fun p => decide (atC cs (p : Int) = if p = g then some (0, 0) else pbr rs cs (p : Int))) ⟨none, none, rfl⟩
  rw [hlr] at key
  refine key _ _ _ ?_ ?_
  · rintro i d ρ hd ⟨s4, s5, rfl⟩
    obtain ⟨hd1, hi⟩ := rangeD_get hd
    rw [Int.zero_add] at hd1
    subst hd1
    have x1 := dIx_cost (cs := cs) (i := (i : Int)) (by omega) (by omega)
    have ni : dNe 16 (.int (i : Int)) (.int (g : Int)) = .ok (.bl (!decide (i = g))) := by
      rw [dNe_pl (pl_int _) (pl_int _)]
      congr 3
      rw [Bool.eq_iff_iff]
      simp [eqD]
      omega
    obtain ⟨due, hdue⟩ : ∃ due, due = if i = g then some (0, 0) else pbr rs cs (i : Int) := ⟨_, rfl⟩
    have hcmp := dNe_cst (atC cs (i : Int)) due
    refine ⟨_, [some (.val (.lst (rs.map rdD))), some (.val (.int m)), some (.val (.int g)), some (.val (.lst (cs.map cst))), some (.val (.int i)), some (.val (cst due))], rfl, ?_, _, _, rfl⟩
    refine (seqM_to (ρ1 := [some (.val (.lst (rs.map rdD))), some (.val (.int m)), some (.val (.int g)), some (.val (.lst (cs.map cst))), some (.val (.int i)), some (.val (cst (some (0, 0))))]) rfl).trans ?_
    refine (seqM_to (ρ1 := [some (.val (.lst (rs.map rdD))), some (.val (.int m)), some (.val (.int g)), some (.val (.lst (cs.map cst))), some (.val (.int i)), some (.val (cst due))]) ?_).trans ?_
    · by_cases hg : i = g
      · rw [decide_eq_true hg] at ni
        rw [if_pos hg] at hdue
        subst hdue
        simp only [rv, List.set_cons_zero, List.set_cons_succ, List.getElem?_cons_zero, List.getElem?_cons_succ, M.bind_ok, ni, asB]
        rfl
      · rw [decide_eq_false hg] at ni
        rw [if_neg hg] at hdue
        subst hdue
        simp only [rv, List.set_cons_zero, List.set_cons_succ, List.getElem?_cons_zero, List.getElem?_cons_succ, M.bind_ok, ni, asB, Bool.not_false, if_true, if_pos hl2]
        rw [compM_filter (fun d : D => (match d with | D.tup (D.int a :: _) => decide (a = (i : Int)) | _ => false : Bool)) (fun d : D => (match d with | D.tup [_, D.int b, D.int l, _] => cst (addC (some (l, 1)) (atC cs b)) | _ => .non : D)) _ (fun d hd => by
          obtain ⟨r, hr, rfl⟩ := List.mem_map.mp hd
          have ok := hok r hr
          have r0 : dIx (rdD r) (.int 0) = .ok (.int r.a) := rfl
          have r1 : dIx (rdD r) (.int 1) = .ok (.int r.b) := rfl
          have x1 := dIx_cost (cs := cs) ok.b0 (by rw [hcl]; exact ok.b1)
          have h1 := law_open_eq r
          have h2 := law_added_eq (rcC r) (atC cs r.b)
          refine ⟨_, rfl, ?_, fun _ => ?_⟩
          · simp [muRho, r0, dEq, dep, noX, eqD, asB, rdD]
            rfl
          · simp only [muRho, List.map_cons, List.map_nil, Option.bind_some, Option.bind_none, List.getElem?_cons_zero, List.getElem?_cons_succ, List.set_cons_zero, List.set_cons_succ, M.bind_ok, r1, x1, h1, h2]
            unfold rdD
            cases hq : r.l with
            | none =>
              have e : rcC r = none := by unfold rcC; rw [hq]
              rw [e]
              have : addC none (atC cs r.b) = none := by cases atC cs r.b <;> rfl
              rw [this]
              rfl
            | some l =>
              have e : rcC r = some (l, 1) := by unfold rcC; rw [hq]
              rw [e]
              rfl)]
        simp only [compR, M.bind_ok]
        have e3 : List.map (fun d : D => (match d with | D.tup [_, D.int b, D.int l, _] => cst (addC (some (l, 1)) (atC cs b)) | _ => .non : D)) (List.filter (fun d : D => (match d with | D.tup (D.int a :: _) => decide (a = (i : Int)) | _ => false : Bool)) (rs.map rdD)) = (((rs.filter fun r => decide (r.a = (i : Int))).map fun r => addC (rcC r) (atC cs r.b))).map cst := by
          rw [List.filter_map, List.map_map, List.map_map]
          apply List.map_congr_left
          intro r _
          unfold Function.comp rdD
          dsimp only
          cases hq : r.l with
          | none =>
            have e : rcC r = none := by unfold rcC; rw [hq]
            rw [e]
            have : addC none (atC cs r.b) = none := by cases atC cs r.b <;> rfl
            rw [this]
            rfl
          | some l =>
            have e : rcC r = some (l, 1) := by unfold rcC; rw [hq]
            rw [e]
            rfl
        rw [e3, law_least_eq _ (by rw [List.length_map]; exact Nat.le_trans (List.length_filter_le _ _) hl)]
        rfl
    · rw [← hdue]
      simp only [rv, List.getElem?_cons_zero, List.getElem?_cons_succ, M.bind_ok, x1, hcmp, asB]
      by_cases hc : atC cs (i : Int) = due
      · rw [decide_eq_true hc]
        rfl
      · rw [decide_eq_false hc]
        rfl
  · rintro ρ ⟨s4, s5, rfl⟩
    rfl
noncomputable def law_rightF : List D → M D := Classical.choose ex_law_right
theorem law_right_at {P : Program} {w : World} {K : PySem.W.Frag} {mg : Str → Option Value} {base : Heap} : Txt K mg → FnAt P w K mg base "_law_right" 2 4 law_rightF := (Classical.choose_spec ex_law_right).1
theorem law_right_eq : ∀ (m : Nat) (rs : List Road) (g : Nat) (cs : List Co), m ≤ 900 → cs.length = m → rs.length ≤ 1000 → (∀ r ∈ rs, OkR m r) → law_rightF [.lst (rs.map rdD), .int m, .int g, .lst (cs.map cst)] = .ok (.bl (rightB m rs g cs)) := (Classical.choose_spec ex_law_right).2
theorem ex_law_spoilt : ∃ F : Addr → List D → List D → M (List D), (∀ {P : Program} {w : World} {K : PySem.W.Frag} {mg : Str → Option Value} {base : Heap}, Txt K mg → FnIO P w K mg base "_law_spoilt" 2 3 F) ∧ (∀ (cs : List Co) (c k : Int), 1 ≤ cs.length → cs.length ≤ 900 → Sm c → 0 ≤ k → k ≤ 100 → ∃ cs2 : List Co, cs2.length = cs.length ∧ ∀ p, F p (cs.map cst) [.int c, .int k] = .ok (cs2.map cst)) := by
  refine ⟨_, fun T => fnIO_of (k := 1) T.f_law_spoilt sc_law_spoilt _ (fun f cdv A outer s H E hr => (dss_cons (ds_set 3 sc_law_spoilt.nd rfl (Or.inl rfl) (de_callA (law_mix_at T) (hr.mono (by decide)) rfl (da_cons (de_var 1 (pv 1)) (da_cons (de_add de_int (de_var 2 (pv 2))) da_nil)) rfl)) (dss_cons (ds_set 4 sc_law_spoilt.nd rfl (Or.inl rfl) (de_mod (de_var 3 (pv 3)) (de_flat (de_len rfl T.b_len (de_name 0 (pv 0)))))) (dss_cons (ds_set 5 sc_law_spoilt.nd rfl (Or.inl rfl) (de_ixO 0 (pv 0) (de_var 4 (pv 4)))) (dss_cons (ds_if (dt_isN (c := true) (de_var 5 (pv 5))) (dss_one (ds_set 5 sc_law_spoilt.nd rfl (Or.inl rfl) (de_tup (da_cons (de_mod (de_fdiv (de_var 3 (pv 3)) de_int) de_int) (da_cons (de_add de_int (de_mod (de_fdiv (de_var 3 (pv 3)) de_int) de_int)) da_nil))))) dss_nil) (dss_cons (ds_set 6 sc_law_spoilt.nd rfl (Or.inl rfl) (de_lst (da_cons de_non (da_cons (de_tup (da_cons (de_item (de_var 5 (pv 5)) de_int) (da_cons (de_add (de_item (de_var 5 (pv 5)) de_int) de_int) da_nil))) (da_cons (de_tup (da_cons (de_add (de_item (de_var 5 (pv 5)) de_int) de_int) (da_cons (de_item (de_var 5 (pv 5)) de_int) da_nil))) (da_cons (de_ixO 0 (pv 0) (de_mod (de_fdiv (de_var 3 (pv 3)) de_int) (de_flat (de_len rfl T.b_len (de_name 0 (pv 0)))))) (da_cons (de_tup (da_cons de_int (da_cons de_int da_nil))) da_nil))))))) (dss_cons (ds_set 6 sc_law_spoilt.nd rfl (Or.inl rfl) (de_plus (de_var 6 (pv 6)) (de_lst (da_cons (de_tup (da_cons (de_max2 rfl rfl T.b_max (de_sub (de_item (de_var 5 (pv 5)) de_int) de_int) de_int) (da_cons (de_item (de_var 5 (pv 5)) de_int) da_nil))) (da_cons (de_tup (da_cons (de_item (de_var 5 (pv 5)) de_int) (da_cons (de_max2 rfl rfl T.b_max (de_sub (de_item (de_var 5 (pv 5)) de_int) de_int) de_int) da_nil))) (da_cons (de_tup (da_cons (de_callA (law_great_at T) (hr.mono (by decide)) rfl (da_cons (de_var 1 (pv 1)) (da_cons (de_var 2 (pv 2)) da_nil)) rfl) (da_cons de_int da_nil))) (da_cons (de_var 5 (pv 5)) da_nil))))))) (dss_one (ds_put 0 (pv 0) (de_item (de_var 6 (pv 6)) (de_mod (de_fdiv (de_var 3 (pv 3)) de_int) de_int)) (de_var 4 (pv 4))))))))))), ?_⟩
  intro cs c k hl1 hl2 hs h0 h1
  obtain ⟨x, x0, hx⟩ := law_mix_eq c (50 + k) (by omega) (by omega)
  obtain ⟨g, g0, hg⟩ := law_great_eq c k hs h0 h1
  have hlp : (0 : Int) < (cs.length : Int) := by omega
  obtain ⟨a, ha⟩ : ∃ a, a = x % (cs.length : Int) := ⟨_, rfl⟩
  have a0 : 0 ≤ a := by rw [ha]; exact Int.emod_nonneg _ (by omega)
  have a1 : a < cs.length := by rw [ha]; exact Int.emod_lt_of_pos _ hlp
  obtain ⟨b, hb⟩ : ∃ b, b = x / 64 % (cs.length : Int) := ⟨_, rfl⟩
  have b0 : 0 ≤ b := by rw [hb]; exact Int.emod_nonneg _ (by omega)
  have b1 : b < cs.length := by rw [hb]; exact Int.emod_lt_of_pos _ hlp
  have ya := dIx_cost a0 a1
  have yb := dIx_cost b0 b1
  obtain ⟨o, ho⟩ : ∃ o : Int × Int, o = (match atC cs a with | none => (x / 64 % 9, 1 + x / 576 % 5) | some z => z) := ⟨_, rfl⟩
  obtain ⟨L, hL⟩ : ∃ L : List Co, L = [none, some (o.1, o.2 + 1), some (o.1 + 1, o.2), atC cs b, some (0, 0), some ((if 0 > o.1 - 1 then 0 else o.1 - 1), o.2), some (o.1, (if 0 > o.2 - 1 then 0 else o.2 - 1)), some (g, 3), some o] := ⟨_, rfl⟩
  obtain ⟨j, hj⟩ : ∃ j, j = x / 7 % 9 := ⟨_, rfl⟩
  have j0 : 0 ≤ j := by omega
  have j1 : j < L.length := by rw [hL]; simp; omega
  obtain ⟨v, hv⟩ : ∃ v, L[j.toNat]? = some v := ⟨_, List.getElem?_eq_getElem (by omega)⟩
  have yj : dIx (.lst (L.map cst)) (.int j) = .ok (cst v) := dIx_map j0 hv
  refine ⟨cs.set a.toNat v, by rw [List.length_set], fun p => ?_⟩
  have e0 : stIO ["_law_prices", "_law_cell", "_law_k", "_law_mixed", "_law_at", "_law_old", "_law_some"] p (cs.map cst) [.int c, .int k] = [some (.ow (.anc p (cs.map cst))), some (.val (.int c)), some (.val (.int k)), none, none, none, none] := rfl
  rw [e0]
  have dl : dLen [.lst (cs.map cst)] = .ok (.int cs.length) := by simp [dLen]
  have m1 : dMod (.int x) (.int (cs.length : Int)) = .ok (.int a) := by rw [ha]; exact dMod_pos hlp
  have m2 : dMod (.int (x / 64)) (.int (cs.length : Int)) = .ok (.int b) := by rw [hb]; exact dMod_pos hlp
  have d64 : dFdiv (.int x) (.int 64) = .ok (.int (x / 64)) := dFdiv_lit (by unfold CDiv; omega)
  have d576 : dFdiv (.int x) (.int 576) = .ok (.int (x / 576)) := dFdiv_lit (by unfold CDiv; omega)
  have d7 : dFdiv (.int x) (.int 7) = .ok (.int (x / 7)) := dFdiv_lit (by unfold CDiv; omega)
  have m9 : dMod (.int (x / 7)) (.int 9) = .ok (.int j) := by rw [hj]; exact dMod_pos (by decide)
  have key : ∀ (ρ : Rho) (K : Rho → M Out), finIO p (K ρ) = finIO p (seqM (.ok (.next ρ)) K) := fun ρ K => rfl
  refine (congrArg (finIO p) (seqM_to (ρ1 := [some (.ow (.anc p (cs.map cst))), some (.val (.int c)), some (.val (.int k)), some (.val (.int x)), none, none, none]) ?_)).trans ?_
  · have e1 : dAdd (.int 50) (.int k) = .ok (.int (50 + k)) := rfl
    simp only [rv, List.getElem?_cons_zero, List.getElem?_cons_succ, M.bind_ok, e1, hx, List.set_cons_zero, List.set_cons_succ]
  refine (congrArg (finIO p) (seqM_to (ρ1 := [some (.ow (.anc p (cs.map cst))), some (.val (.int c)), some (.val (.int k)), some (.val (.int x)), some (.val (.int a)), none, none]) ?_)).trans ?_
  · simp only [rv, ra, fl, flatD, List.getElem?_cons_zero, List.getElem?_cons_succ, M.bind_ok, dl, if_true, m1, List.set_cons_zero, List.set_cons_succ]
  refine (congrArg (finIO p) (seqM_to (ρ1 := [some (.ow (.anc p (cs.map cst))), some (.val (.int c)), some (.val (.int k)), some (.val (.int x)), some (.val (.int a)), some (.val (cst (atC cs a))), none]) ?_)).trans ?_
  · simp only [rv, ixOwn, List.getElem?_cons_zero, List.getElem?_cons_succ, M.bind_ok, ya, List.set_cons_zero, List.set_cons_succ]
  refine (congrArg (finIO p) (seqM_to (ρ1 := [some (.ow (.anc p (cs.map cst))), some (.val (.int c)), some (.val (.int k)), some (.val (.int x)), some (.val (.int a)), some (.val (cst (some o))), none]) ?_)).trans ?_
  · cases hq : atC cs a with
    | none =>
      rw [hq] at ho
      subst ho
      simp [rv, cst, isNonD, d64, d576, dMod, dAdd, onInts]
    | some z =>
      rw [hq] at ho
      subst ho
      simp [rv, cst, isNonD]
  have o0 : dIx (cst (some o)) (.int 0) = .ok (.int o.1) := rfl
  have o1 : dIx (cst (some o)) (.int 1) = .ok (.int o.2) := rfl
  refine (congrArg (finIO p) (seqM_to (ρ1 := [some (.ow (.anc p (cs.map cst))), some (.val (.int c)), some (.val (.int k)), some (.val (.int x)), some (.val (.int a)), some (.val (cst (some o))), some (.val (.lst ([none, some (o.1, o.2 + 1), some (o.1 + 1, o.2), atC cs b, some (0, 0)].map cst)))]) ?_)).trans ?_
  · have e2 : dAdd (.int o.2) (.int 1) = .ok (.int (o.2 + 1)) := rfl
    have e3 : dAdd (.int o.1) (.int 1) = .ok (.int (o.1 + 1)) := rfl
    simp only [rv, ra, fl, flatD, ixOwn, List.getElem?_cons_zero, List.getElem?_cons_succ, M.bind_ok, o0, o1, e2, e3, dl, if_true, d64, m2, yb]
    rfl
  refine (congrArg (finIO p) (seqM_to (ρ1 := [some (.ow (.anc p (cs.map cst))), some (.val (.int c)), some (.val (.int k)), some (.val (.int x)), some (.val (.int a)), some (.val (cst (some o))), some (.val (.lst (L.map cst)))]) ?_)).trans ?_
  · have e2 : dSub (.int o.1) (.int 1) = .ok (.int (o.1 - 1)) := rfl
    have e3 : dSub (.int o.2) (.int 1) = .ok (.int (o.2 - 1)) := rfl
    rw [hL]
    simp only [rv, List.getElem?_cons_zero, List.getElem?_cons_succ, M.bind_ok, o0, o1, e2, e3, dMax2, hg]
    rfl
  have hxa : ixN (cs.map cst).length a = some a.toNat := ixN_nat ⟨a0, by rw [List.length_map]; exact a1⟩
  simp only [rv, List.getElem?_cons_zero, List.getElem?_cons_succ, M.bind_ok, d7, m9, yj, putM, putA, hxa, List.set_cons_zero, finIO, if_true, List.map_set]
noncomputable def law_spoiltF : Addr → List D → List D → M (List D) := Classical.choose ex_law_spoilt
theorem law_spoilt_at {P : Program} {w : World} {K : PySem.W.Frag} {mg : Str → Option Value} {base : Heap} : Txt K mg → FnIO P w K mg base "_law_spoilt" 2 3 law_spoiltF := (Classical.choose_spec ex_law_spoilt).1
theorem law_spoilt_eq : ∀ (cs : List Co) (c k : Int), 1 ≤ cs.length → cs.length ≤ 900 → Sm c → 0 ≤ k → k ≤ 100 → ∃ cs2 : List Co, cs2.length = cs.length ∧ ∀ p, law_spoiltF p (cs.map cst) [.int c, .int k] = .ok (cs2.map cst) := (Classical.choose_spec ex_law_spoilt).2
theorem ex_law : ∃ F : List D → M D, (∀ {P : Program} {w : World} {K : PySem.W.Frag} {mg : Str → Option Value} {base : Heap} {f : Addr} {fd : FuncData}, Txt K mg → Fun K "law" "law" s_law f fd → FnOk P w K mg base CX0 4 f fd ["_law_script"] (spM0 K 1 F)) ∧ (∀ ns : List Int, ns.length ≤ 63 → (∀ n ∈ ns, Sm n) → F [.lst (ns.map D.int)] = .ok (.bl true)) := by
  refine ⟨_, fun {P w K mg base f fd} T F => fn_D0 (k := 3) F sc_law _ (fun cdv A outer s H E hr => (dss_cons (ds_set 1 sc_law.nd rfl (Or.inl rfl) (de_callA (law_mix_at T) (hr.mono (by decide)) rfl (da_cons (de_callA (law_cell_at_at T) (hr.mono (by decide)) rfl (da_cons (de_var 0 (pv 0)) (da_cons de_int da_nil)) rfl) (da_cons de_int da_nil)) rfl)) (dss_cons (ds_set 2 sc_law.nd rfl (Or.inl rfl) (de_add de_int (de_mod (de_var 1 (pv 1)) de_int))) (dss_cons (ds_set 3 sc_law.nd rfl (Or.inr rfl) (de_mod (de_fdiv (de_var 1 (pv 1)) de_int) (de_var 2 (pv 2)))) (dss_cons (ds_set 4 sc_law.nd rfl (Or.inl rfl) (de_callA (law_roads_at T) (hr.mono (by decide)) rfl (da_cons (de_slice (de_var 0 (pv 0)) (do_some de_int) (do_some de_int)) (da_cons (de_var 2 (pv 2)) da_nil)) rfl)) (dss_cons (ds_set 5 sc_law.nd rfl (Or.inl rfl) (de_tup (da_cons (de_var 2 (pv 2)) (da_cons (de_list rfl T.b_list (de_var 4 (pv 4))) da_nil)))) (dss_cons (ds_setC (NB := ["_law_row", "_law_goal"]) 6 [none, some 3] sc_law.nd rfl (Or.inl rfl) rfl (di_list (de_callA (law_costs_at T) (hr.mono (by decide)) rfl (da_cons (de_var 4 (pv 4)) (da_cons (de_var 2 (pv 2)) da_nil)) rfl)) rfl rfl (dgb_name 0 (by decide) rfl rfl rfl) (fun _ _ _ _ => dts_nil) (fun _ _ _ _ => (de_item (de_var 0 (pv 0)) (de_var 1 (pv 1))))) (dss_cons (ds_if (dt_isNotB (c := true) (de_callA (are_right_at T) (hr.mono (by decide)) rfl (da_cons (de_var 5 (pv 5)) (da_cons (de_var 3 (pv 3)) (da_cons (de_list rfl T.b_list (de_var 6 (pv 6))) da_nil))) rfl) de_bl) (dss_one (ds_ret (de_any de_bl))) dss_nil) (dss_cons (ds_ownL 7 sc_law.nd rfl (Or.inl rfl) rfl T.b_list (de_var 6 (pv 6))) (dss_cons (ds_for PassesOwn.never rfl (di_range1 (c := true) rfl T.b_range (de_mod (de_fdiv (de_var 1 (pv 1)) de_int) de_int)) (dg_name 8 sc_law.nd rfl (Or.inl rfl)) (dss_one (ds_callIO 7 (law_spoilt_at T) (hr.mono (by decide)) rfl (pv 7) (da_cons (de_callA (law_cell_at_at T) (hr.mono (by decide)) rfl (da_cons (de_var 0 (pv 0)) (da_cons (de_add de_int (de_var 8 (pv 8))) da_nil)) rfl) (da_cons (de_var 8 (pv 8)) da_nil)) rfl))) (dss_cons (ds_set 9 sc_law.nd rfl (Or.inl rfl) (de_listO 7 rfl T.b_list (pv 7))) (dss_cons (ds_set 10 sc_law.nd rfl (Or.inl rfl) (de_callA (are_right_at T) (hr.mono (by decide)) rfl (da_cons (de_var 5 (pv 5)) (da_cons (de_var 3 (pv 3)) (da_cons (de_var 9 (pv 9)) da_nil))) rfl)) (dss_cons (ds_if (DW.dt (dw_or (DW.dt (dw_and (dt_isNotB (c := true) (de_var 10 (pv 10)) de_bl) (dw_and1 (dt_isNotB (c := true) (de_var 10 (pv 10)) de_bl)))) (dw_or1 (dt_ne (c := true) (huR hr 16 (by decide)) (de_var 10 (pv 10)) (de_deep (de_callA (law_right_at T) (hr.mono (by decide)) rfl (da_cons (de_name 4 (pv 4)) (da_cons (de_name 2 (pv 2)) (da_cons (de_name 3 (pv 3)) (da_cons (de_name 7 (pv 7)) da_nil)))) rfl)))))) (dss_one (ds_ret (de_any de_bl))) dss_nil) (dss_one (ds_ret (de_and (de_eq (huR hr 16 (by decide)) (de_name 9 (pv 9)) (de_name 7 (pv 7))) (de_and (de_eq (huR hr 16 (by decide)) (de_name 5 (pv 5)) (de_tup (da_cons (de_name 2 (pv 2)) (da_cons (de_name 4 (pv 4)) da_nil)))) (de_one (de_isB (de_callA (are_right_at T) (hr.mono (by decide)) rfl (da_cons (de_name 5 (pv 5)) (da_cons (de_name 3 (pv 3)) (da_cons (de_name 6 (pv 6)) da_nil))) rfl) de_bl))))))))))))))))))), ?_⟩
  intro ns hns hsm
  have e0 : stRho ["_law_script", "_law_first", "_law_many", "_law_goal", "_law_roads_here", "_law_land", "_law_prices", "_law_spoilt_here", "_law_k", "_law_given", "_law_found"] [.lst (ns.map D.int)] = [some (.val (.lst (ns.map D.int))), none, none, none, none, none, none, none, none, none, none] := rfl
  rw [e0]
  obtain ⟨v, _, hv⟩ := law_cell_at_eq ns 0 (by omega) hsm
  obtain ⟨x, x0, hx⟩ := law_mix_eq v 0 (by omega) (by omega)
  obtain ⟨m, hm⟩ : ∃ m : Nat, (m : Int) = 1 + x % 7 := ⟨(1 + x % 7).toNat, by omega⟩
  have hm1 : 1 ≤ m := by omega
  have hm2 : m ≤ 16 := by omega
  have hmp : (0 : Int) < (m : Int) := by omega
  obtain ⟨g, hg⟩ : ∃ g : Nat, (g : Int) = x / 7 % (m : Int) := ⟨(x / 7 % (m : Int)).toNat, Int.toNat_of_nonneg (Int.emod_nonneg _ (by omega))⟩
  have hgm : g < m := by
    have := Int.emod_lt_of_pos (x / 7) hmp
    omega
  obtain ⟨rs, l2, hok, hc2⟩ := law_roads_eq ((ns.drop 4).take 30) m hm1 hm2 (by rw [List.length_take]; omega) (fun c hc => hsm c (List.mem_of_mem_drop (List.mem_of_mem_take hc)))
  have hl : rs.length ≤ 30 := Nat.le_trans l2 (List.length_take_le _ _)
  obtain ⟨css, hM, hmin, hF1⟩ := law_costs_eq m rs (by omega) (by omega) hok
  obtain ⟨ps, hps⟩ : ∃ ps : List Co, ps = css.map fun R => atC R (g : Int) := ⟨_, rfl⟩
  have hpl : ps.length = m := by rw [hps, List.length_map]; exact hM.len
  have hpat : ∀ u : Int, 0 ≤ u → u < m → atC ps u = at2 css u g := fun u h0 h1 => by
    obtain ⟨e, _⟩ := hM.get h0 h1
    have e1 := atC_get (cs := ps) h0 (by rw [hpl]; exact h1)
    rw [hps, List.getElem?_map, e] at e1
    injection e1 with e1
    rw [hps]
    exact e1.symm
  have hright : rightB m rs g ps = true := right_prices hgm hok fun u h0 h1 => by
    rw [hpat u h0 h1]
    exact hmin u g h0 h1 (by omega) (by omega)
  have a1 : dMod (.int x) (.int 7) = .ok (.int (x % 7)) := dMod_pos (by decide)
  have a2 : dAdd (.int 1) (.int (x % 7)) = .ok (.int (m : Int)) := by rw [hm]; rfl
  have a3 : dFdiv (.int x) (.int 7) = .ok (.int (x / 7)) := dFdiv_lit (by unfold CDiv; omega)
  have a4 : dMod (.int (x / 7)) (.int (m : Int)) = .ok (.int (g : Int)) := by rw [hg]; exact dMod_pos hmp
  have a5 : dSl (some 4) (some 34) (.lst (ns.map D.int)) = .ok (.lst (((ns.drop 4).take 30).map D.int)) := by
    rw [List.map_take, List.map_drop]
    exact dSl_mid _ 4 34
  refine fin_seq (ρ := [some (.val (.lst (ns.map D.int))), some (.val (.int x)), none, none, none, none, none, none, none, none, none]) ?_ ?_
  · simp only [rv, List.getElem?_cons_zero, List.getElem?_cons_succ, M.bind_ok, hv, hx, List.set_cons_zero, List.set_cons_succ]
  refine fin_seq (ρ := [some (.val (.lst (ns.map D.int))), some (.val (.int x)), some (.val (.int m)), none, none, none, none, none, none, none, none]) ?_ ?_
  · simp only [rv, List.getElem?_cons_zero, List.getElem?_cons_succ, M.bind_ok, a1, a2, List.set_cons_zero, List.set_cons_succ]
  refine fin_seq (ρ := [some (.val (.lst (ns.map D.int))), some (.val (.int x)), some (.val (.int m)), some (.val (.int g)), none, none, none, none, none, none, none]) ?_ ?_
  · simp only [rv, List.getElem?_cons_zero, List.getElem?_cons_succ, M.bind_ok, a3, a4, List.set_cons_zero, List.set_cons_succ]
  refine fin_seq (ρ := [some (.val (.lst (ns.map D.int))), some (.val (.int x)), some (.val (.int m)), some (.val (.int g)), some (.val (.lst (rs.map rdD))), none, none, none, none, none, none]) ?_ ?_
  · simp only [rv, List.getElem?_cons_zero, List.getElem?_cons_succ, M.bind_ok, asI, a5, hc2, List.set_cons_zero, List.set_cons_succ]
  refine fin_seq (ρ := [some (.val (.lst (ns.map D.int))), some (.val (.int x)), some (.val (.int m)), some (.val (.int g)), some (.val (.lst (rs.map rdD))), some (.val (netD m rs)), none, none, none, none, none]) rfl ?_
  refine fin_seq (ρ := [some (.val (.lst (ns.map D.int))), some (.val (.int x)), some (.val (.int m)), some (.val (.int g)), some (.val (.lst (rs.map rdD))), some (.val (netD m rs)), some (.val (.lst (ps.map cst))), none, none, none, none]) ?_ ?_
  · have hrl : ((rowsD css).map D.lst).length ≤ 1000 := by unfold rowsD; rw [List.length_map, List.length_map, hM.len]; omega
    simp only [rv, List.getElem?_cons_zero, List.getElem?_cons_succ, M.bind_ok, hF1, if_pos hrl]
    rw [compM_all (fun d : D => (match dIx d (.int (g : Int)) with | .ok e => e | _ => .non : D)) _ (fun d hd => by
      obtain ⟨R', hR', rfl⟩ := List.mem_map.mp hd
      unfold rowsD at hR'
      obtain ⟨R, hR, rfl⟩ := List.mem_map.mp hR'
      have y := dIx_cost (cs := R) (i := (g : Int)) (by omega) (by rw [hM.row R hR]; omega)
      refine ⟨_, rfl, rfl, ?_⟩
      simp [muRho, y])]
    simp only [compR, M.bind_ok, List.set_cons_zero, List.set_cons_succ]
    have e1 : List.map (fun d : D => (match dIx d (.int (g : Int)) with | .ok e => e | _ => .non : D)) ((rowsD css).map D.lst) = ps.map cst := by
      unfold rowsD
      rw [hps, List.map_map, List.map_map, List.map_map]
      apply List.map_congr_left
      intro R hR
      have y := dIx_cost (cs := R) (i := (g : Int)) (by omega) (by rw [hM.row R hR]; omega)
      simp only [Function.comp, y]
    rw [e1]
  have q1 := are_right_eq m rs g ps hgm (by omega) hpl (by omega) hok
  rw [hright] at q1
  have q2 : dList [.lst (ps.map cst)] = .ok (.lst (ps.map cst)) := rfl
  have nT : dIsNotB (.bl true) (.bl true) = .ok (.bl false) := rfl
  refine fin_seq (ρ := [some (.val (.lst (ns.map D.int))), some (.val (.int x)), some (.val (.int m)), some (.val (.int g)), some (.val (.lst (rs.map rdD))), some (.val (netD m rs)), some (.val (.lst (ps.map cst))), none, none, none, none]) ?_ ?_
  · simp only [rv, List.getElem?_cons_zero, List.getElem?_cons_succ, M.bind_ok, q2, q1, nT, asB]
    rfl
  refine fin_seq (ρ := [some (.val (.lst (ns.map D.int))), some (.val (.int x)), some (.val (.int m)), some (.val (.int g)), some (.val (.lst (rs.map rdD))), some (.val (netD m rs)), some (.val (.lst (ps.map cst))), some (.own (ps.map cst)), none, none, none]) ?_ ?_
  · simp only [rv, List.getElem?_cons_zero, List.getElem?_cons_succ, M.bind_ok, ownL, List.set_cons_zero, List.set_cons_succ]
  have b1 : dFdiv (.int x) (.int 49) = .ok (.int (x / 49)) := dFdiv_lit (by unfold CDiv; omega)
  obtain ⟨n, hn⟩ : ∃ n : Nat, (n : Int) = x / 49 % 4 := ⟨(x / 49 % 4).toNat, by omega⟩
  have b2 : dMod (.int (x / 49)) (.int 4) = .ok (.int (n : Int)) := by rw [hn]; exact dMod_pos (by decide)
  have hrng := rngM_nat (n := n) (by omega)
  simp only [rv, List.getElem?_cons_zero, List.getElem?_cons_succ, M.bind_ok, b1, b2, hrng]
  refine fin_for (fun i ρ => ∃ cs s8, ρ = [some (.val (.lst (ns.map D.int))), some (.val (.int x)), some (.val (.int m)), some (.val (.int g)), some (.val (.lst (rs.map rdD))), some (.val (netD m rs)), some (.val (.lst (ps.map cst))), some (.own (cs.map cst)), s8, none, none] ∧ cs.length = m) ⟨ps, none, rfl, hpl⟩ ?_ ?_
  · rintro i d ρ hd ⟨cs, s8, rfl, hcl⟩
    obtain ⟨hd1, hi⟩ := rangeD_get hd
    rw [Int.zero_add] at hd1
    subst hd1
    obtain ⟨w, hw, hwv⟩ := law_cell_at_eq ns (1 + (i : Int)) (by omega) hsm
    obtain ⟨cs2, hc3, hF3⟩ := law_spoilt_eq cs w i (by omega) (by omega) hw (by omega) (by omega)
    refine ⟨_, [some (.val (.lst (ns.map D.int))), some (.val (.int x)), some (.val (.int m)), some (.val (.int g)), some (.val (.lst (rs.map rdD))), some (.val (netD m rs)), some (.val (.lst (ps.map cst))), some (.own (cs2.map cst)), some (.val (.int i)), none, none], rfl, ?_, cs2, _, rfl, by rw [hc3]; exact hcl⟩
    have e1 : dAdd (.int 1) (.int (i : Int)) = .ok (.int (1 + (i : Int))) := rfl
    simp only [List.set_cons_zero, List.set_cons_succ, List.getElem?_cons_zero, List.getElem?_cons_succ, M.bind_ok, e1, hwv]
    rw [lendM_ok (ds := cs.map cst) (ds' := cs2.map cst) rfl hF3]
    rfl
  · rintro ρ ⟨cs, s8, rfl, hcl⟩
    refine fin_seq (ρ := [some (.val (.lst (ns.map D.int))), some (.val (.int x)), some (.val (.int m)), some (.val (.int g)), some (.val (.lst (rs.map rdD))), some (.val (netD m rs)), some (.val (.lst (ps.map cst))), some (.own (cs.map cst)), s8, some (.val (.lst (cs.map cst))), none]) rfl ?_
    have r1 := are_right_eq m rs g cs hgm (by omega) hcl (by omega) hok
    have r2 := law_right_eq m rs g cs (by omega) hcl (by omega) hok
    obtain ⟨B, hB⟩ : ∃ B, B = rightB m rs g cs := ⟨_, rfl⟩
    rw [← hB] at r1 r2
    refine fin_seq (ρ := [some (.val (.lst (ns.map D.int))), some (.val (.int x)), some (.val (.int m)), some (.val (.int g)), some (.val (.lst (rs.map rdD))), some (.val (netD m rs)), some (.val (.lst (ps.map cst))), some (.own (cs.map cst)), s8, some (.val (.lst (cs.map cst))), some (.val (.bl B))]) ?_ ?_
    · simp only [rv, List.getElem?_cons_zero, List.getElem?_cons_succ, M.bind_ok, r1, List.set_cons_zero, List.set_cons_succ]
    have dpB : dp (.ok (.bl B)) = .ok (.bl B) := by unfold dp; simp [noL]
    have neB : dNe 16 (.bl B) (.bl B) = .ok (.bl false) := dNe_same (pl_bl _)
    refine fin_seq (ρ := [some (.val (.lst (ns.map D.int))), some (.val (.int x)), some (.val (.int m)), some (.val (.int g)), some (.val (.lst (rs.map rdD))), some (.val (netD m rs)), some (.val (.lst (ps.map cst))), some (.own (cs.map cst)), s8, some (.val (.lst (cs.map cst))), some (.val (.bl B))]) ?_ ?_
    · simp only [rv, ra, List.getElem?_cons_zero, List.getElem?_cons_succ, M.bind_ok, r2, dpB, neB, asB]
      cases B <;> rfl
    have hd1 := dEq_same (n := 16) (pl_lst (n := 15) (ds := cs.map cst) fun d hd => by
      obtain ⟨c, _, rfl⟩ := List.mem_map.mp hd
      exact pl_cst (n := 14) c)
    have hd2 := dEq_same ((pl_net m rs).le (show 3 ≤ 16 by decide))
    have hz : [D.int (m : Int), D.lst (rs.map rdD)].length ≤ 1000 := by simp
    have isT : dIsB (.bl true) (.bl true) = .ok (.bl true) := rfl
    refine fin_ret (d := .bl true) ?_ rfl
    have hd3 : dEq 16 (netD m rs) (.tup [.int m, .lst (rs.map rdD)]) = .ok (.bl true) := hd2
    simp [rv, ra, hd1, hd3, q1, isT, asB, fl, flatD]
noncomputable def lawF : List D → M D := Classical.choose ex_law
theorem law_fn {P : Program} {w : World} {K : PySem.W.Frag} {mg : Str → Option Value} {base : Heap} {f : Addr} {fd : FuncData} : Txt K mg → Fun K "law" "law" s_law f fd → FnOk P w K mg base CX0 4 f fd ["_law_script"] (spM0 K 1 lawF) := (Classical.choose_spec ex_law).1
theorem law_eq : ∀ ns : List Int, ns.length ≤ 63 → (∀ n ∈ ns, Sm n) → lawF [.lst (ns.map D.int)] = .ok (.bl true) := (Classical.choose_spec ex_law).2
theorem law_true : ∀ ns : List Int, ns.length ≤ 63 → (∀ n ∈ ns, Sm n) → lawF [.lst (ns.map D.int)] = .ok (.bl true) := law_eq

theorem all_mk {l : PySem.W.OpenLaw} {w : World} {K : PySem.W.Frag} {h : Heap} {mg : Str → Option Value} {fa : Addr} (X : K.In h) (G : h.Ns mainGlobals mg) (hfa : mg "law" = some (.ref fa))
    {f1 : Addr} {od1 an1 : Option Addr} {sl1 : Array (Option Value)} {oc1 kV1 dc1 pm1 cd1 ct1 : Value} {f2 : Addr} {od2 an2 : Option Addr} {sl2 : Array (Option Value)} {oc2 kV2 dc2 pm2 cd2 ct2 : Value} {f3 : Addr} {od3 an3 : Option Addr} {sl3 : Array (Option Value)} {oc3 kV3 dc3 pm3 cd3 ct3 : Value} {f4 : Addr} {od4 an4 : Option Addr} {sl4 : Array (Option Value)} {oc4 kV4 dc4 pm4 cd4 ct4 : Value} {f5 : Addr} {od5 an5 : Option Addr} {sl5 : Array (Option Value)} {oc5 kV5 dc5 pm5 cd5 ct5 : Value} {f6 : Addr} {od6 an6 : Option Addr} {sl6 : Array (Option Value)} {oc6 kV6 dc6 pm6 cd6 ct6 : Value} {f7 : Addr} {od7 an7 : Option Addr} {sl7 : Array (Option Value)} {oc7 kV7 dc7 pm7 cd7 ct7 : Value} {f8 : Addr} {od8 an8 : Option Addr} {sl8 : Array (Option Value)} {oc8 kV8 dc8 pm8 cd8 ct8 : Value} {f9 : Addr} {od9 an9 : Option Addr} {sl9 : Array (Option Value)} {oc9 kV9 dc9 pm9 cd9 ct9 : Value} {f10 : Addr} {od10 an10 : Option Addr} {sl10 : Array (Option Value)} {oc10 kV10 dc10 pm10 cd10 ct10 : Value} {f11 : Addr} {od11 an11 : Option Addr} {sl11 : Array (Option Value)} {oc11 kV11 dc11 pm11 cd11 ct11 : Value} {f12 : Addr} {od12 an12 : Option Addr} {sl12 : Array (Option Value)} {oc12 kV12 dc12 pm12 cd12 ct12 : Value} {f13 : Addr} {od13 an13 : Option Addr} {sl13 : Array (Option Value)} {oc13 kV13 dc13 pm13 cd13 ct13 : Value} {f14 : Addr} {od14 an14 : Option Addr} {sl14 : Array (Option Value)} {oc14 kV14 dc14 pm14 cd14 ct14 : Value} {f15 : Addr} {od15 an15 : Option Addr} {sl15 : Array (Option Value)} {oc15 kV15 dc15 pm15 cd15 ct15 : Value} {f16 : Addr} {od16 an16 : Option Addr} {sl16 : Array (Option Value)} {oc16 kV16 dc16 pm16 cd16 ct16 : Value}
    (a1 : PySem.W.nsIn K mainGlobals "added" = some (some (.ref f1))) (l1 : K.lookup f1 = some ⟨oc1, od1, .func (PySem.W.fnOf "added" "added" (defArgs s_added) (defBody s_added) (defScope s_added) .none kV1 dc1 pm1 an1 cd1 ct1), sl1⟩) (c1 : PySem.W.codeIn K cd1 "added" = true) (k1 : PySem.W.keepIn K (.ref f1) = true)
    (a2 : PySem.W.nsIn K mainGlobals "least" = some (some (.ref f2))) (l2 : K.lookup f2 = some ⟨oc2, od2, .func (PySem.W.fnOf "least" "least" (defArgs s_least) (defBody s_least) (defScope s_least) .none kV2 dc2 pm2 an2 cd2 ct2), sl2⟩) (c2 : PySem.W.codeIn K cd2 "least" = true) (k2 : PySem.W.keepIn K (.ref f2) = true)
    (a3 : PySem.W.nsIn K mainGlobals "road_cost" = some (some (.ref f3))) (l3 : K.lookup f3 = some ⟨oc3, od3, .func (PySem.W.fnOf "road_cost" "road_cost" (defArgs s_road_cost) (defBody s_road_cost) (defScope s_road_cost) .none kV3 dc3 pm3 an3 cd3 ct3), sl3⟩) (c3 : PySem.W.codeIn K cd3 "road_cost" = true) (k3 : PySem.W.keepIn K (.ref f3) = true)
    (a4 : PySem.W.nsIn K mainGlobals "price_by_roads" = some (some (.ref f4))) (l4 : K.lookup f4 = some ⟨oc4, od4, .func (PySem.W.fnOf "price_by_roads" "price_by_roads" (defArgs s_price_by_roads) (defBody s_price_by_roads) (defScope s_price_by_roads) .none kV4 dc4 pm4 an4 cd4 ct4), sl4⟩) (c4 : PySem.W.codeIn K cd4 "price_by_roads" = true) (k4 : PySem.W.keepIn K (.ref f4) = true)
    (a5 : PySem.W.nsIn K mainGlobals "are_right" = some (some (.ref f5))) (l5 : K.lookup f5 = some ⟨oc5, od5, .func (PySem.W.fnOf "are_right" "are_right" (defArgs s_are_right) (defBody s_are_right) (defScope s_are_right) .none kV5 dc5 pm5 an5 cd5 ct5), sl5⟩) (c5 : PySem.W.codeIn K cd5 "are_right" = true) (k5 : PySem.W.keepIn K (.ref f5) = true)
    (a6 : PySem.W.nsIn K mainGlobals "_law_cell_at" = some (some (.ref f6))) (l6 : K.lookup f6 = some ⟨oc6, od6, .func (PySem.W.fnOf "_law_cell_at" "_law_cell_at" (defArgs s_law_cell_at) (defBody s_law_cell_at) (defScope s_law_cell_at) .none kV6 dc6 pm6 an6 cd6 ct6), sl6⟩) (c6 : PySem.W.codeIn K cd6 "_law_cell_at" = true) (k6 : PySem.W.keepIn K (.ref f6) = true)
    (a7 : PySem.W.nsIn K mainGlobals "_law_mix" = some (some (.ref f7))) (l7 : K.lookup f7 = some ⟨oc7, od7, .func (PySem.W.fnOf "_law_mix" "_law_mix" (defArgs s_law_mix) (defBody s_law_mix) (defScope s_law_mix) .none kV7 dc7 pm7 an7 cd7 ct7), sl7⟩) (c7 : PySem.W.codeIn K cd7 "_law_mix" = true) (k7 : PySem.W.keepIn K (.ref f7) = true)
    (a8 : PySem.W.nsIn K mainGlobals "_law_great" = some (some (.ref f8))) (l8 : K.lookup f8 = some ⟨oc8, od8, .func (PySem.W.fnOf "_law_great" "_law_great" (defArgs s_law_great) (defBody s_law_great) (defScope s_law_great) .none kV8 dc8 pm8 an8 cd8 ct8), sl8⟩) (c8 : PySem.W.codeIn K cd8 "_law_great" = true) (k8 : PySem.W.keepIn K (.ref f8) = true)
    (a9 : PySem.W.nsIn K mainGlobals "_law_roads" = some (some (.ref f9))) (l9 : K.lookup f9 = some ⟨oc9, od9, .func (PySem.W.fnOf "_law_roads" "_law_roads" (defArgs s_law_roads) (defBody s_law_roads) (defScope s_law_roads) .none kV9 dc9 pm9 an9 cd9 ct9), sl9⟩) (c9 : PySem.W.codeIn K cd9 "_law_roads" = true) (k9 : PySem.W.keepIn K (.ref f9) = true)
    (a10 : PySem.W.nsIn K mainGlobals "_law_added" = some (some (.ref f10))) (l10 : K.lookup f10 = some ⟨oc10, od10, .func (PySem.W.fnOf "_law_added" "_law_added" (defArgs s_law_added) (defBody s_law_added) (defScope s_law_added) .none kV10 dc10 pm10 an10 cd10 ct10), sl10⟩) (c10 : PySem.W.codeIn K cd10 "_law_added" = true) (k10 : PySem.W.keepIn K (.ref f10) = true)
    (a11 : PySem.W.nsIn K mainGlobals "_law_least" = some (some (.ref f11))) (l11 : K.lookup f11 = some ⟨oc11, od11, .func (PySem.W.fnOf "_law_least" "_law_least" (defArgs s_law_least) (defBody s_law_least) (defScope s_law_least) .none kV11 dc11 pm11 an11 cd11 ct11), sl11⟩) (c11 : PySem.W.codeIn K cd11 "_law_least" = true) (k11 : PySem.W.keepIn K (.ref f11) = true)
    (a12 : PySem.W.nsIn K mainGlobals "_law_open" = some (some (.ref f12))) (l12 : K.lookup f12 = some ⟨oc12, od12, .func (PySem.W.fnOf "_law_open" "_law_open" (defArgs s_law_open) (defBody s_law_open) (defScope s_law_open) .none kV12 dc12 pm12 an12 cd12 ct12), sl12⟩) (c12 : PySem.W.codeIn K cd12 "_law_open" = true) (k12 : PySem.W.keepIn K (.ref f12) = true)
    (a13 : PySem.W.nsIn K mainGlobals "_law_costs" = some (some (.ref f13))) (l13 : K.lookup f13 = some ⟨oc13, od13, .func (PySem.W.fnOf "_law_costs" "_law_costs" (defArgs s_law_costs) (defBody s_law_costs) (defScope s_law_costs) .none kV13 dc13 pm13 an13 cd13 ct13), sl13⟩) (c13 : PySem.W.codeIn K cd13 "_law_costs" = true) (k13 : PySem.W.keepIn K (.ref f13) = true)
    (a14 : PySem.W.nsIn K mainGlobals "_law_right" = some (some (.ref f14))) (l14 : K.lookup f14 = some ⟨oc14, od14, .func (PySem.W.fnOf "_law_right" "_law_right" (defArgs s_law_right) (defBody s_law_right) (defScope s_law_right) .none kV14 dc14 pm14 an14 cd14 ct14), sl14⟩) (c14 : PySem.W.codeIn K cd14 "_law_right" = true) (k14 : PySem.W.keepIn K (.ref f14) = true)
    (a15 : PySem.W.nsIn K mainGlobals "_law_spoilt" = some (some (.ref f15))) (l15 : K.lookup f15 = some ⟨oc15, od15, .func (PySem.W.fnOf "_law_spoilt" "_law_spoilt" (defArgs s_law_spoilt) (defBody s_law_spoilt) (defScope s_law_spoilt) .none kV15 dc15 pm15 an15 cd15 ct15), sl15⟩) (c15 : PySem.W.codeIn K cd15 "_law_spoilt" = true) (k15 : PySem.W.keepIn K (.ref f15) = true)
    (a16 : PySem.W.nsIn K mainGlobals "law" = some (some (.ref f16))) (l16 : K.lookup f16 = some ⟨oc16, od16, .func (PySem.W.fnOf "law" "law" (defArgs s_law) (defBody s_law) (defScope s_law) .none kV16 dc16 pm16 an16 cd16 ct16), sl16⟩) (c16 : PySem.W.codeIn K cd16 "law" = true) (k16 : PySem.W.keepIn K (.ref f16) = true)
    (z1 : PySem.W.nsIn K mainGlobals "all" = some none)
    (z2 : PySem.W.nsIn K mainGlobals "len" = some none)
    (z3 : PySem.W.nsIn K mainGlobals "list" = some none)
    (z4 : PySem.W.nsIn K mainGlobals "max" = some none)
    (z5 : PySem.W.nsIn K mainGlobals "min" = some none)
    (z6 : PySem.W.nsIn K mainGlobals "range" = some none) :
    ∃ fd : FuncData, (∀ (s : Shared) (v : Value), BindsTo s fd ⟨[v], []⟩ [("_law_script", v)]) ∧ ∀ base : Heap, K.In base → base.Ns mainGlobals mg → FnOk l.prog w K mg base CX0 4 fa fd ["_law_script"] (spM0 K 1 lawF) := by
  have e := hfa.symm.trans (PySem.W.mg_of X G a16)
  cases e
  have F1 := fun_mk (st := s_added) l1 c1 k1
  have T1 : FunAt K mg "added" s_added ["one", "other"] := ⟨_, _, F1, PySem.W.mg_of X G a1, F1.binds fun _ _ _ _ _ _ us hl => match us, hl with | [_, _], _ => rfl⟩
  have F2 := fun_mk (st := s_least) l2 c2 k2
  have T2 : FunAt K mg "least" s_least ["some"] := ⟨_, _, F2, PySem.W.mg_of X G a2, F2.binds fun _ _ _ _ _ _ us hl => match us, hl with | [_], _ => rfl⟩
  have F3 := fun_mk (st := s_road_cost) l3 c3 k3
  have T3 : FunAt K mg "road_cost" s_road_cost ["road"] := ⟨_, _, F3, PySem.W.mg_of X G a3, F3.binds fun _ _ _ _ _ _ us hl => match us, hl with | [_], _ => rfl⟩
  have F4 := fun_mk (st := s_price_by_roads) l4 c4 k4
  have T4 : FunAt K mg "price_by_roads" s_price_by_roads ["net", "place", "prices"] := ⟨_, _, F4, PySem.W.mg_of X G a4, F4.binds fun _ _ _ _ _ _ us hl => match us, hl with | [_, _, _], _ => rfl⟩
  have F5 := fun_mk (st := s_are_right) l5 c5 k5
  have T5 : FunAt K mg "are_right" s_are_right ["net", "goal", "prices"] := ⟨_, _, F5, PySem.W.mg_of X G a5, F5.binds fun _ _ _ _ _ _ us hl => match us, hl with | [_, _, _], _ => rfl⟩
  have F6 := fun_mk (st := s_law_cell_at) l6 c6 k6
  have T6 : FunAt K mg "_law_cell_at" s_law_cell_at ["_law_script", "_law_k"] := ⟨_, _, F6, PySem.W.mg_of X G a6, F6.binds fun _ _ _ _ _ _ us hl => match us, hl with | [_, _], _ => rfl⟩
  have F7 := fun_mk (st := s_law_mix) l7 c7 k7
  have T7 : FunAt K mg "_law_mix" s_law_mix ["_law_cell", "_law_k"] := ⟨_, _, F7, PySem.W.mg_of X G a7, F7.binds fun _ _ _ _ _ _ us hl => match us, hl with | [_, _], _ => rfl⟩
  have F8 := fun_mk (st := s_law_great) l8 c8 k8
  have T8 : FunAt K mg "_law_great" s_law_great ["_law_cell", "_law_k"] := ⟨_, _, F8, PySem.W.mg_of X G a8, F8.binds fun _ _ _ _ _ _ us hl => match us, hl with | [_, _], _ => rfl⟩
  have F9 := fun_mk (st := s_law_roads) l9 c9 k9
  have T9 : FunAt K mg "_law_roads" s_law_roads ["_law_cells", "_law_many"] := ⟨_, _, F9, PySem.W.mg_of X G a9, F9.binds fun _ _ _ _ _ _ us hl => match us, hl with | [_, _], _ => rfl⟩
  have F10 := fun_mk (st := s_law_added) l10 c10 k10
  have T10 : FunAt K mg "_law_added" s_law_added ["_law_one", "_law_other"] := ⟨_, _, F10, PySem.W.mg_of X G a10, F10.binds fun _ _ _ _ _ _ us hl => match us, hl with | [_, _], _ => rfl⟩
  have F11 := fun_mk (st := s_law_least) l11 c11 k11
  have T11 : FunAt K mg "_law_least" s_law_least ["_law_some"] := ⟨_, _, F11, PySem.W.mg_of X G a11, F11.binds fun _ _ _ _ _ _ us hl => match us, hl with | [_], _ => rfl⟩
  have F12 := fun_mk (st := s_law_open) l12 c12 k12
  have T12 : FunAt K mg "_law_open" s_law_open ["_law_road"] := ⟨_, _, F12, PySem.W.mg_of X G a12, F12.binds fun _ _ _ _ _ _ us hl => match us, hl with | [_], _ => rfl⟩
  have F13 := fun_mk (st := s_law_costs) l13 c13 k13
  have T13 : FunAt K mg "_law_costs" s_law_costs ["_law_roads_here", "_law_many"] := ⟨_, _, F13, PySem.W.mg_of X G a13, F13.binds fun _ _ _ _ _ _ us hl => match us, hl with | [_, _], _ => rfl⟩
  have F14 := fun_mk (st := s_law_right) l14 c14 k14
  have T14 : FunAt K mg "_law_right" s_law_right ["_law_roads_here", "_law_many", "_law_goal", "_law_prices"] := ⟨_, _, F14, PySem.W.mg_of X G a14, F14.binds fun _ _ _ _ _ _ us hl => match us, hl with | [_, _, _, _], _ => rfl⟩
  have F15 := fun_mk (st := s_law_spoilt) l15 c15 k15
  have T15 : FunAt K mg "_law_spoilt" s_law_spoilt ["_law_prices", "_law_cell", "_law_k"] := ⟨_, _, F15, PySem.W.mg_of X G a15, F15.binds fun _ _ _ _ _ _ us hl => match us, hl with | [_, _, _], _ => rfl⟩
  have F16 := fun_mk (st := s_law) l16 c16 k16
  have T16 : FunAt K mg "law" s_law ["_law_script"] := ⟨_, _, F16, PySem.W.mg_of X G a16, F16.binds fun _ _ _ _ _ _ us hl => match us, hl with | [_], _ => rfl⟩
  have T : Txt K mg := ⟨T1, T2, T3, T4, T5, T6, T7, T8, T9, T10, T11, T12, T13, T14, T15, T16, PySem.W.mg_none_of X G z1, PySem.W.mg_none_of X G z2, PySem.W.mg_none_of X G z3, PySem.W.mg_none_of X G z4, PySem.W.mg_none_of X G z5, PySem.W.mg_none_of X G z6⟩
  refine ⟨PySem.W.fnOf "law" "law" (defArgs s_law) (defBody s_law) (defScope s_law) .none kV16 dc16 pm16 an16 cd16 ct16, fun s v => .of_eq rfl, fun base _ _ => ?_⟩
  exact law_fn T F16
theorem walk {l : PySem.W.OpenLaw} {q : Program} {loose : List Str} {XP : (Str → Option Value) → Heap → Prop} {YP : World → Heap → Prop} {d : DefRec} {K : Params → PySem.W.Frag} (hn : l.most = some 63) (hdf : d.params.defaults = [])
    (hY : ∀ (w : World) (h : Heap), YP w h → (K w.params).In h)
    (F : ∀ (w : World) (mg : Str → Option Value) (fa : Addr) (h : Heap), (K w.params).In h → h.Ns mainGlobals mg → mg d.name = some (.ref fa) →
      ∃ fd : FuncData, (∀ (s : Shared) (u : Value), BindsTo s fd ⟨[u], []⟩ [("_law_script", u)]) ∧ ∀ base : Heap, (K w.params).In base → base.Ns mainGlobals mg → FnOk l.prog w (K w.params) mg base CX0 4 fa fd ["_law_script"] (spM0 (K w.params) 1 lawF)) :
    PySem.W.WalkO q loose XP YP l.row.toRowW d [] (fun f vs => PySem.call f vs) :=
  L2.walk_sm (n := 63) (k := 4) (x := "_law_script") (CX := fun _ => CX0) (sp := fun w => spM0 (K w.params) 1 lawF) hn (by decide) hdf ⟨rfl, by decide, by decide⟩ hY F (fun w H a ns hsm hl _ hS => law_smM law_true (K w.params) H a ns hsm hl hS) fun _ _ _ _ _ z => z
end K12
open PySem PySem.W PyProof.Rows
set_option maxRecDepth 100000 in
set_option maxHeartbeats 0 in
theorem PySem.Challenge.cw_nodeladder_k12_right_prices_told_holds : PySem.Challenge.rw_nodeladder_k12_right_prices_told.Holds := by
  w_on; o_law; k_head; (case hw => w_witness2)
  k_fill
  refine K12.walk (l := PySem.Challenge.rw_nodeladder_k12_right_prices_told) rfl rfl (fun w h Y => PySem.W.kIn_of Y) ?F
  case F =>
    intro w mg fa h KX G hmg
    refine' K12.all_mk KX G hmg ?a1 ?l1 ?c1 ?k1 ?a2 ?l2 ?c2 ?k2 ?a3 ?l3 ?c3 ?k3 ?a4 ?l4 ?c4 ?k4 ?a5 ?l5 ?c5 ?k5 ?a6 ?l6 ?c6 ?k6 ?a7 ?l7 ?c7 ?k7 ?a8 ?l8 ?c8 ?k8 ?a9 ?l9 ?c9 ?k9 ?a10 ?l10 ?c10 ?k10 ?a11 ?l11 ?c11 ?k11 ?a12 ?l12 ?c12 ?k12 ?a13 ?l13 ?c13 ?k13 ?a14 ?l14 ?c14 ?k14 ?a15 ?l15 ?c15 ?k15 ?a16 ?l16 ?c16 ?k16 ?z1 ?z2 ?z3 ?z4 ?z5 ?z6
    (case a1 => k_is); (case l1 => k_is); (case c1 => k_is); (case k1 => k_is); (case a2 => k_is); (case l2 => k_is); (case c2 => k_is); (case k2 => k_is); (case a3 => k_is); (case l3 => k_is); (case c3 => k_is); (case k3 => k_is); (case a4 => k_is); (case l4 => k_is); (case c4 => k_is); (case k4 => k_is); (case a5 => k_is); (case l5 => k_is); (case c5 => k_is); (case k5 => k_is); (case a6 => k_is); (case l6 => k_is); (case c6 => k_is); (case k6 => k_is); (case a7 => k_is); (case l7 => k_is); (case c7 => k_is); (case k7 => k_is); (case a8 => k_is); (case l8 => k_is); (case c8 => k_is); (case k8 => k_is); (case a9 => k_is); (case l9 => k_is); (case c9 => k_is); (case k9 => k_is); (case a10 => k_is); (case l10 => k_is); (case c10 => k_is); (case k10 => k_is); (case a11 => k_is); (case l11 => k_is); (case c11 => k_is); (case k11 => k_is); (case a12 => k_is); (case l12 => k_is); (case c12 => k_is); (case k12 => k_is); (case a13 => k_is); (case l13 => k_is); (case c13 => k_is); (case k13 => k_is); (case a14 => k_is); (case l14 => k_is); (case c14 => k_is); (case k14 => k_is); (case a15 => k_is); (case l15 => k_is); (case c15 => k_is); (case k15 => k_is); (case a16 => k_is); (case l16 => k_is); (case c16 => k_is); (case k16 => k_is); (case z1 => k_is); (case z2 => k_is); (case z3 => k_is); (case z4 => k_is); (case z5 => k_is); (case z6 => k_is)

