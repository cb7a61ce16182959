import PyProof.Rows.All
import Wide.All
import OpenK.AllK
import Wide.FinOn
import Lean
import PyProof.EqAt
import PyProof.EqKinds
import PyProof.TupleCall
import PyProof.NeKinds
import KE.KRevSl
import KE.KIsAll
import PyProof.ExcArgsOwn
import PyProof.ExcAttrAll.ValueError
import PyProof.ExcBaseAll.ValueError
import PyProof.FitsBits
import KE.LcSums
import KE.KRevIter
import PyProof.ListRange
import PyProof.Rows.SumAny
import PyProof.Rows.SortWalk
import PySem.Challenge.RW_nodeladder_k04_travellers
set_option Elab.async false
set_option linter.all false
set_option maxRecDepth 100000
/-! THE HAND LAYER, for ints, bools, texts, own classes, LISTS and tuples (index, slices, in, append, pop ..), calls, loops. Paste it whole ahead of your own text; what your proof does not reach may be deleted. -/
namespace L2
open PySem PySem.Spec PyProof.Rows

/-- a key: an int or a str -/
abbrev Key := Sum Int Str
def keyIs : Key → Value → Bool
  | .inl k, v => Value.isInt k v
  | .inr x, v => Value.isStrOf x v
def keyH (w : World) : Key → Int
  | .inl k => hashInt k
  | .inr x => hashStr w x
theorem keyIs_shape : ∀ {k : Key} {v : Value}, keyIs k v = true → (∃ i t, k = Sum.inl i ∧ v = Value.int i t) ∨ (∃ x t, k = Sum.inr x ∧ v = Value.str x t)
  | .inl i, v, h => by
    obtain ⟨t, e⟩ := Value.isInt_shape (k := i) (v := v) h
    exact .inl ⟨i, t, rfl, e⟩
  | .inr x, v, h => by
    obtain ⟨t, e⟩ := Value.isStrOf_shape (x := x) (v := v) h
    exact .inr ⟨x, t, rfl, e⟩
theorem keyIs_int (i : Int) (t : Tok) : keyIs (.inl i) (.int i t) = true := by simp [keyIs, Value.isInt]
theorem keyIs_str (x : Str) (t : Tok) : keyIs (.inr x) (.str x t) = true := by simp [keyIs, Value.isStrOf]
theorem key_ll (a b : Int) : decide ((Sum.inl a : Key) = Sum.inl b) = (a == b) := by
  by_cases e : a = b
  · subst e; simp
  · have h : ¬ (Sum.inl a : Key) = Sum.inl b := fun q => e (Sum.inl.inj q)
    rw [decide_eq_false h]
    exact (beq_eq_false_iff_ne.mpr e).symm
theorem key_rr (a b : Str) : decide ((Sum.inr a : Key) = Sum.inr b) = decide (a = b) := by
  by_cases e : a = b
  · subst e; simp
  · have h : ¬ (Sum.inr a : Key) = Sum.inr b := fun q => e (Sum.inr.inj q)
    rw [decide_eq_false h, decide_eq_false e]
theorem key_lr (a : Int) (b : Str) : decide ((Sum.inl a : Key) = Sum.inr b) = false := decide_eq_false (fun q => nomatch q)
theorem key_rl (a : Str) (b : Int) : decide ((Sum.inr a : Key) = Sum.inl b) = false := decide_eq_false (fun q => nomatch q)

def mixKind (prog : Program) (w : World) : PySem.KeyKind prog w Key where
  is := keyIs
  hash := keyH w
  inj := fun v a b ha hb => by
    rcases keyIs_shape ha with ⟨i, t, rfl, rfl⟩ | ⟨x, t, rfl, rfl⟩
    · rcases keyIs_shape hb with ⟨j, u, rfl, e⟩ | ⟨y, u, rfl, e⟩
      · injection e with e1 _; rw [e1]
      · exact nomatch e
    · rcases keyIs_shape hb with ⟨j, u, rfl, e⟩ | ⟨y, u, rfl, e⟩
      · exact nomatch e
      · injection e with e1 _; rw [e1]
  byValue := fun k v h => by
    rcases keyIs_shape h with ⟨i, t, rfl, rfl⟩ | ⟨x, t, rfl, rfl⟩ <;> rfl
  pyHash := fun hv h => by
    rcases keyIs_shape hv with ⟨i, t, rfl, rfl⟩ | ⟨x, t, rfl, rfl⟩
    · exact wpAny_pyHash_int h
    · exact wpAny_pyHash_str h
  eqBool := fun hu hv h => by
    rcases keyIs_shape hu with ⟨i, t, rfl, rfl⟩ | ⟨x, t, rfl, rfl⟩
    · rcases keyIs_shape hv with ⟨j, u, rfl, rfl⟩ | ⟨y, u, rfl, rfl⟩
      · rw [key_ll] at h; exact wpAny_eqBool_int h
      · rw [key_lr] at h; exact SeqAt.EqAt.int_str i t y u _ _ _ _ h
    · rcases keyIs_shape hv with ⟨j, u, rfl, rfl⟩ | ⟨y, u, rfl, rfl⟩
      · rw [key_rl] at h; exact SeqAt.EqAt.str_int x t j u _ _ _ _ h
      · rw [key_rr] at h; exact wpAny_eqBool_str h
  «strs» := fun k x t v h => by
    rcases keyIs_shape h with ⟨i, u, rfl, e⟩ | ⟨y, u, rfl, e⟩
    · exact nomatch e
    · injection e with e1 _
      subst e1
      cases v <;> rfl

theorem mixKind_int (prog : Program) (w : World) (i : Int) (t : Tok) : (mixKind prog w).is (.inl i) (.int i t) = true := keyIs_int i t
theorem mixKind_str (prog : Program) (w : World) (x : Str) (t : Tok) : (mixKind prog w).is (.inr x) (.str x t) = true := keyIs_str x t
end L2

namespace L2
open PySem PySem.Spec PyProof.Rows

/-- a value, without the heap -/
inductive V where
  | non | bl (b : Bool) | int (i : Int) | str (x : Str) | byt (b : Array UInt8) | flt (b : UInt64) | ref (a : Addr) | ty (n : String)
  deriving DecidableEq

def RelV : V → Value → Prop
  | .non, u => u = Value.none
  | .bl b, u => u = Value.bool b
  | .int i, u => ∃ t, u = Value.int i t
  | .str x, u => ∃ t, u = Value.str x t
  | .byt b, u => ∃ t, u = Value.bytes b t
  | .flt b, u => ∃ t, u = Value.float b t
  | .ref a, u => u = Value.ref a
  | .ty n, u => u = Value.type n

abbrev Vals : List V → List Value → Prop := Paired RelV
theorem Vals.length {xs : List V} {us : List Value} (r : Vals xs us) : xs.length = us.length := Paired.length r
theorem Vals.get : ∀ {xs : List V} {us : List Value} {i : Nat} {x : V}, Vals xs us → xs[i]? = some x → ∃ u, us[i]? = some u ∧ RelV x u
  | _, _, _, _, .nil, e => by simp at e
  | _, _, 0, _, .cons r _, e => by simp at e; subst e; exact ⟨_, rfl, r⟩
  | _, _, i + 1, x, .cons _ t, e => by
    obtain ⟨u, h1, h2⟩ := Vals.get (i := i) (x := x) t (by simpa using e)
    exact ⟨u, by simpa using h1, h2⟩
theorem Vals.set {x : V} {u : Value} (r : RelV x u) : ∀ {xs : List V} {us : List Value} (i : Nat), Vals xs us → Vals (xs.set i x) (us.set i u)
  | _, _, _, .nil => .nil
  | _, _, 0, .cons _ t => .cons r t
  | _, _, i + 1, .cons q t => .cons q (Vals.set r i t)
theorem Vals.append : ∀ {xs ys : List V} {us ws : List Value}, Vals xs us → Vals ys ws → Vals (xs ++ ys) (us ++ ws)
  | _, _, _, _, .nil, s => s
  | _, _, _, _, .cons r t, s => .cons r (Vals.append t s)
theorem Vals.take : ∀ {xs : List V} {us : List Value} (n : Nat), Vals xs us → Vals (xs.take n) (us.take n)
  | _, _, 0, _ => .nil
  | _, _, _ + 1, .nil => .nil
  | _, _, n + 1, .cons r t => .cons r (Vals.take n t)
theorem Vals.drop : ∀ {xs : List V} {us : List Value} (n : Nat), Vals xs us → Vals (xs.drop n) (us.drop n)
  | _, _, 0, r => r
  | _, _, _ + 1, .nil => .nil
  | _, _, n + 1, .cons _ t => Vals.drop n t
theorem Vals.none_of : ∀ {xs : List V} {us : List Value} {i : Nat}, Vals xs us → xs[i]? = none → us[i]? = none := fun {xs us i} r e => by
  have h1 := r.length
  have h2 : xs.length ≤ i := List.getElem?_eq_none_iff.mp e
  exact List.getElem?_eq_none_iff.mpr (by omega)

def RelO : Option V → Option Value → Prop
  | some v, some u => RelV v u
  | none, none => True
  | _, _ => False
def KV {κ : Type} : List (κ × V) → List (κ × Value) → Prop := Paired fun (p : κ × V) (q : κ × Value) => p.1 = q.1 ∧ RelV p.2 q.2

/-- a key of a dict (00_mix): an int or a text -/
def kV : Key → V
  | .inl i => .int i
  | .inr x => .str x

/-- what stands at a tracked address -/
inductive HO where
  /-- a list -/
  | lst (xs : List V)
  /-- a tuple (never changes) -/
  | tup (xs : List V)
  /-- a dict whose keys are ints and texts; one whose keys are tuples of ints and texts (the empty one is both) -/
  | dK (kvs : List (Key × V)) | dT (kvs : List (List Key × V))
  /-- a set of ints: its members, its size -/
  | set (S : Int → Bool) (n : Nat)
  /-- an instance of the class at C, its dict at dx, its attributes -/
  | ins (C dx : Addr) (fs : List (Str × V))
  /-- the dict of the instance at x -/
  | own (x : Addr)
  /-- the dict of an exception -/
  | xd (fs : List (Str × V))
  /-- a bound method, f of x -/
  | met (f x : Addr)
  /-- a range object lo, lo + 1, .. below hi -/
  | rng (lo hi : Int)
  /-- a thing that is known to the object (the script; a dict while a loop walks it): read, never written while it is so -/
  | frz (o : Obj) (u : HO)
  /-- a code object's table -/
  | tbl (ps : Array Value)
  /-- any other thing, by what is true of its one object (a def of one's own: SetO a S n := HO.ext fun h => ..) -/
  | ext (φ : Heap → Prop)

abbrev Hp := Addr → Option HO
def upd (H : Hp) (a : Addr) (o : HO) : Hp := fun b => if b = a then some o else H b
theorem upd_same {H : Hp} {a : Addr} {o : HO} : upd H a o a = some o := by unfold upd; rw [if_pos rfl]
theorem upd_ne {H : Hp} {a b : Addr} {o : HO} (h : b ≠ a) : upd H a o b = H b := by unfold upd; rw [if_neg h]
theorem ne_of_none {H : Hp} {a b : Addr} {o : HO} (h : H a = some o) (h' : H b = none) : a ≠ b := by
  intro e; subst e; rw [h] at h'; cases h'

section
variable (P : Program) (w : World)
def ObjOk (H : Hp) (h : Heap) (a : Addr) : HO → Prop
  | .lst xs => xs.length ≤ sizeLine ∧ ∃ (its : List Value) (n : Nat), Vals xs its ∧ h.get? a = some { cls := .type "list", data := .seq its.toArray n }
  | .tup xs => xs.length ≤ sizeLine ∧ ∃ its : List Value, Vals xs its ∧ IsTup h a its.toArray
  | .dK kvs => kvs.length ≤ sizeLine ∧ (a == sysModules) = false ∧ ∃ vs, KV kvs vs ∧ h.DictOf (mixKind P w) a vs
  | .dT kvs => kvs.length ≤ sizeLine ∧ (a == sysModules) = false ∧ ∃ xs : List (List Key × Addr × Value),
      Paired (fun (p : List Key × V) (q : List Key × Addr × Value) => p.1 = q.1 ∧ H q.2.1 = some (.tup (p.1.map kV)) ∧ RelV p.2 q.2.2) kvs xs ∧
      ∃ o es ep, h.get? a = some o ∧ o.ExactDict ∧ o.data = .dict es ep ∧ es.toList = xs.map (entryOfKey (tupleKind (mixKind P w))) ∧ (xs.map (·.1)).Nodup
  | .set S n => h.SetOf (intKind P w) a S n
  | .ins C dx fs => H dx = some (.own a) ∧ fs.length ≤ 1000 ∧ dx ≠ a ∧ h.get? a = some (PySem.W.instObj C dx) ∧
      ∃ mA, h.Ns1 dx mA ∧ (∀ f, RelO (fs.lookup f) (mA f)) ∧ PySem.Within mA (fs.map (·.1))
  | .own _ => ∃ o, h.get? a = some o
  | .xd fs => ∃ mA, h.Ns1 a mA ∧ ∀ f, RelO (fs.lookup f) (mA f)
  | .rng lo hi => ∃ t u v, h.get? a = some { cls := .type "range", data := .fields #[.int lo t, .int hi u, .int 1 v] }
  | .frz o u => h.get? a = some o ∧ ObjOk H h a u
  | .tbl ps => h.get? a = some { cls := .none, data := .fields ps }
  | .met f x => h.get? a = some (PySem.W.methodObj (.ref f) (.ref x))
  | .ext φ => φ h ∧ (∃ o, h.get? a = some o) ∧ ∀ h1 h2 : Heap, φ h1 → (∀ o, h1.get? a = some o → h2.get? a = some o) → φ h2
/-- the abstract heap is held -/
def HOk (H : Hp) (h : Heap) : Prop := ∀ a o, H a = some o → ObjOk P w H h a o
end

section
variable {P : Program} {w : World} {H H' : Hp} {h h' : Heap} {a : Addr} {o : HO}
theorem ObjOk.lt (x : ObjOk P w H h a o) : a < h.objs.size := by
  cases o with
  | lst xs => obtain ⟨_, _, _, _, e⟩ := x; exact Heap.lt_size e
  | tup xs => obtain ⟨_, _, _, p⟩ := x; exact p.lt
  | dK kvs => obtain ⟨_, _, _, _, o, _, _, e, _⟩ := x; exact Heap.lt_size e
  | dT kvs => obtain ⟨_, _, _, _, o, _, _, e, _⟩ := x; exact Heap.lt_size e
  | set S n => obtain ⟨o, _, _, _, e, _⟩ := x; exact Heap.lt_size e
  | ins C dx fs => obtain ⟨_, _, _, e, _⟩ := x; exact Heap.lt_size e
  | own y => obtain ⟨_, e⟩ := x; exact Heap.lt_size e
  | xd fs => obtain ⟨_, ⟨_, _, _, e, _⟩, _⟩ := x; exact Heap.lt_size e
  | rng lo hi => obtain ⟨_, _, _, e⟩ := x; exact Heap.lt_size e
  | frz ob u => obtain ⟨e, _⟩ := x; exact Heap.lt_size e
  | tbl ps => exact Heap.lt_size (show h.get? a = some _ from x)
  | met f y => exact Heap.lt_size (show h.get? a = some _ from x)
  | ext φ => obtain ⟨_, ⟨_, e⟩, _⟩ := x; exact Heap.lt_size e
theorem Paired.mapP {α β : Type} {F G : α → β → Prop} : ∀ {l₁ : List α} {l₂ : List β}, Paired F l₁ l₂ → (∀ a b, F a b → G a b) → Paired G l₁ l₂
  | _, _, .nil, _ => .nil
  | _, _, .cons r t, f => .cons (f _ _ r) (Paired.mapP t f)
/-- what an object's description leans on: its own object, its own dict, the tuples -/
theorem ObjOk.stay (x : ObjOk P w H h a o) (k : ∀ b u, (b = a ∨ H b = some (.own a)) → h.get? b = some u → h'.get? b = some u)
    (ho : ∀ b, H b = some (.own a) → H' b = some (.own a)) (ht : ∀ b xs, H b = some (.tup xs) → H' b = some (.tup xs)) : ObjOk P w H' h' a o := by
  induction o with
  | lst xs => obtain ⟨z, its, n, r, e⟩ := x; exact ⟨z, its, n, r, k _ _ (.inl rfl) e⟩
  | tup xs => obtain ⟨z, its, r, ob, e, c⟩ := x; exact ⟨z, its, r, ob, k _ _ (.inl rfl) e, c⟩
  | dK kvs => obtain ⟨z, y, vs, r, ob, es, ep, e, c⟩ := x; exact ⟨z, y, vs, r, ob, es, ep, k _ _ (.inl rfl) e, c⟩
  | dT kvs =>
    obtain ⟨z, y, xs, r, ob, es, ep, e, c⟩ := x
    exact ⟨z, y, xs, Paired.mapP r fun p q z => ⟨z.1, ht _ _ z.2.1, z.2.2⟩, ob, es, ep, k _ _ (.inl rfl) e, c⟩
  | set S n => obtain ⟨ob, es, ep, t, e, c⟩ := x; exact ⟨ob, es, ep, t, k _ _ (.inl rfl) e, c⟩
  | ins C dx fs =>
    obtain ⟨d, z, ne, e, mA, ⟨od, es, ep, e2, c⟩, r⟩ := x
    exact ⟨ho _ d, z, ne, k _ _ (.inl rfl) e, mA, ⟨od, es, ep, k _ _ (.inr d) e2, c⟩, r⟩
  | own y => obtain ⟨ob, e⟩ := x; exact ⟨ob, k _ _ (.inl rfl) e⟩
  | xd fs => obtain ⟨mA, ⟨od, es, ep, e, c⟩, r⟩ := x; exact ⟨mA, ⟨od, es, ep, k _ _ (.inl rfl) e, c⟩, r⟩
  | rng lo hi => obtain ⟨t, u, v, e⟩ := x; exact ⟨t, u, v, k _ _ (.inl rfl) e⟩
  | frz ob u ih => obtain ⟨e, q⟩ := x; exact ⟨k _ _ (.inl rfl) e, ih q⟩
  | tbl ps =>
    have e : h.get? a = some { cls := .none, data := .fields ps } := x
    show h'.get? a = some { cls := .none, data := .fields ps }
    exact k a _ (.inl rfl) e
  | met f y =>
    have e : h.get? a = some (PySem.W.methodObj (.ref f) (.ref y)) := x
    show h'.get? a = some (PySem.W.methodObj (.ref f) (.ref y))
    exact k a _ (.inl rfl) e
  | ext φ => obtain ⟨p, ⟨o, e⟩, st⟩ := x; exact ⟨st _ _ p fun o q => k _ _ (.inl rfl) q, ⟨o, k _ _ (.inl rfl) e⟩, st⟩
theorem HOk.lt (x : HOk P w H h) (e : H a = some o) : a < h.objs.size := (x a o e).lt
theorem HOk.fresh (x : HOk P w H h) (e : h.objs.size ≤ a) : H a = none := by
  cases q : H a with
  | none => rfl
  | some u => exact absurd (Nat.lt_of_lt_of_le (x.lt q) e) (Nat.lt_irrefl _)
/-- every object of the heap is kept -/
theorem HOk.kept (x : HOk P w H h) (k : ∀ b u, h.get? b = some u → h'.get? b = some u) : HOk P w H h' := fun a o e =>
  (x a o e).stay (fun b u _ q => k b u q) (fun _ q => q) fun _ _ q => q
/-- a new object is laid and tracked -/
theorem HOk.laid (x : HOk P w H h) (k : ∀ b u, h.get? b = some u → h'.get? b = some u) (hp : h.objs.size ≤ a) (new : ObjOk P w (upd H a o) h' a o) : HOk P w (upd H a o) h' := fun b u e => by
  have hn := x.fresh hp
  by_cases hb : b = a
  · subst hb; rw [upd_same] at e; cases e; exact new
  · rw [upd_ne hb] at e
    exact (x b u e).stay (fun c v _ q => k c v q) (fun c q => by rw [upd_ne (ne_of_none q hn)]; exact q) fun c xs q => by rw [upd_ne (ne_of_none q hn)]; exact q
end

/-- what may be read as u: it is u, or a known u -/
def Rd (H : Hp) (a : Addr) (u : HO) : Prop := H a = some u ∨ ∃ o, H a = some (.frz o u)
theorem Rd.of {H : Hp} {a : Addr} {u : HO} (h : H a = some u) : Rd H a u := .inl h
theorem Rd.ok {P : Program} {w : World} {H : Hp} {h : Heap} {a : Addr} {u : HO} (r : Rd H a u) (x : HOk P w H h) : ObjOk P w H h a u := by
  rcases r with r | ⟨o, r⟩
  · exact x a u r
  · obtain ⟨_, q⟩ := x a _ r
    exact q
/-- what may be written -/
def Mut : Option HO → Prop
  | some (.lst _) => True
  | some (.dK _) => True
  | some (.dT _) => True
  | some (.set _ _) => True
  | some (.ins _ _ _) => True
  | some (.ext _) => True
  | _ => False
section
variable {P : Program} {w : World} {H : Hp} {h h' : Heap} {x e : Addr} {o' : HO}
/-- the object at e is changed: x itself, or the dict of the instance x -/
theorem HOk.write (ok : HOk P w H h) (mu : Mut (H x)) (he : e = x ∨ H e = some (.own x)) (k : ∀ b u, b ≠ e → h.get? b = some u → h'.get? b = some u) (heo : ∃ u, h'.get? e = some u)
    (new : ObjOk P w (upd H x o') h' x o') : HOk P w (upd H x o') h' := fun b u q => by
  have nown : ∀ c y, H c = some (.own y) → c ≠ x := fun c y r z => by subst z; rw [r] at mu; exact mu
  have ntup : ∀ c xs, H c = some (.tup xs) → c ≠ x := fun c xs r z => by subst z; rw [r] at mu; exact mu
  by_cases hb : b = x
  · subst hb; rw [upd_same] at q; cases q; exact new
  · rw [upd_ne hb] at q
    by_cases hbe : b = e
    · have q' : H b = some (.own x) := by
        rcases he with z | z
        · exact absurd (hbe.trans z) hb
        · rw [hbe]; exact z
      rw [q] at q'; cases q'
      obtain ⟨v, hv⟩ := heo
      exact ⟨v, by rw [hbe]; exact hv⟩
    · refine (ok b u q).stay (fun c v hc r => k c v ?_ r) (fun c r => by rw [upd_ne (nown c b r)]; exact r) fun c xs r => by rw [upd_ne (ntup c xs r)]; exact r
      rcases hc with rfl | hc
      · exact hbe
      · rintro rfl
        rcases he with z | z
        · exact nown c b hc z
        · rw [hc] at z; cases z; exact hb rfl
end

/-! ### kept unless tracked; of the frames at fs (the callers') the slots may change (an exception that passes writes there); of the records at ex (iterators) nothing is said -/
structure Un (fs ex : List Addr) (H H' : Hp) (h h' : Heap) : Prop where
  keep : ∀ b o, h.get? b = some o → H b = none → b ∉ fs → b ∉ ex → h'.get? b = some o
  slot : ∀ b o, h.get? b = some o → H b = none → b ∈ fs → b ∉ ex → ∃ sl, h'.get? b = some { o with slots := sl }
  free : ∀ b o, h.get? b = some o → H b = none → b ∉ ex → H' b = none
  there : ∀ b o, h.get? b = some o → b ∉ ex → ∃ o', h'.get? b = some o'
  tups : ∀ b xs, H b = some (.tup xs) → H' b = some (.tup xs)
  frzs : ∀ b o u, H b = some (.frz o u) → H' b = some (.frz o u)
  tbls : ∀ b ps, H b = some (.tbl ps) → ∃ more, H' b = some (.tbl (ps ++ more))
section
variable {fs fs' ex ex' : List Addr} {H H1 H2 : Hp} {h h1 h2 h' : Heap} {a x e : Addr} {o : HO}
theorem Un.any (u : Un fs ex H H1 h h1) {b : Addr} {ob : Obj} (q : h.get? b = some ob) (n : H b = none) (hx : b ∉ ex) : ∃ sl, h1.get? b = some { ob with slots := sl } := by
  by_cases hb : b ∈ fs
  · exact u.slot b ob q n hb hx
  · exact ⟨ob.slots, u.keep b ob q n hb hx⟩
theorem Un.trans (a : Un fs ex H H1 h h1) (b : Un fs ex H1 H2 h1 h2) : Un fs ex H H2 h h2 where
  keep := fun c ob q n hc hx => b.keep c ob (a.keep c ob q n hc hx) (a.free c ob q n hx) hc hx
  slot := fun c ob q n hc hx => by
    obtain ⟨sl, e1⟩ := a.slot c ob q n hc hx
    obtain ⟨sl', e2⟩ := b.slot c _ e1 (a.free c ob q n hx) hc hx
    exact ⟨sl', e2⟩
  free := fun c ob q n hx => by
    obtain ⟨o', e1⟩ := a.there c ob q hx
    exact b.free c o' e1 (a.free c ob q n hx) hx
  there := fun c ob q hx => by
    obtain ⟨o', e1⟩ := a.there c ob q hx
    exact b.there c o' e1 hx
  tups := fun c xs q => b.tups c xs (a.tups c xs q)
  frzs := fun c ob xs q => b.frzs c ob xs (a.frzs c ob xs q)
  tbls := fun c ps q => by
    obtain ⟨m1, e1⟩ := a.tbls c ps q
    obtain ⟨m2, e2⟩ := b.tbls c _ e1
    exact ⟨m1 ++ m2, by rw [e2, Array.append_assoc]⟩
theorem Un.kept (k : ∀ b u, h.get? b = some u → h'.get? b = some u) : Un fs ex H H h h' :=
  ⟨fun b ob q _ _ _ => k b ob q, fun b ob q _ _ _ => ⟨ob.slots, k b ob q⟩, fun _ _ _ n _ => n, fun b ob q _ => ⟨ob, k b ob q⟩, fun _ _ q => q, fun _ _ _ q => q, fun _ ps q => ⟨#[], by rw [q]; simp⟩⟩
theorem Un.refl : Un fs ex H H h h := Un.kept fun _ _ q => q
theorem Un.laid (k : ∀ b u, h.get? b = some u → h'.get? b = some u) (hp : h.objs.size ≤ a) (hn : H a = none) : Un fs ex H (upd H a o) h h' where
  keep := fun b u q _ _ _ => k b u q
  slot := fun b u q _ _ _ => ⟨u.slots, k b u q⟩
  free := fun b u q n _ => by rw [upd_ne (Nat.ne_of_lt (Nat.lt_of_lt_of_le (Heap.lt_size q) hp))]; exact n
  there := fun b u q _ => ⟨u, k b u q⟩
  tups := fun b xs q => by rw [upd_ne (ne_of_none q hn)]; exact q
  frzs := fun b u xs q => by rw [upd_ne (ne_of_none q hn)]; exact q
  tbls := fun b ps q => ⟨#[], by rw [upd_ne (ne_of_none q hn), q]; simp⟩
theorem Un.write (mu : Mut (H x)) (he : e = x ∨ H e = some (.own x)) (k : ∀ b u, b ≠ e → h.get? b = some u → h'.get? b = some u) (heo : ∃ u, h'.get? e = some u) : Un fs ex H (upd H x o) h h' := by
  have hx : ∀ b, H b = none → b ≠ x := fun b n z => by subst z; rw [n] at mu; exact mu
  have hb : ∀ b, H b = none → b ≠ e := fun b n z => by
    subst z
    rcases he with r | r
    · exact hx b n r
    · rw [n] at r; cases r
  have hm : ∀ b u, H b = some u → ¬ Mut (some u) → b ≠ x := fun b u q nm z => by subst z; rw [q] at mu; exact nm mu
  refine ⟨fun b u q n _ _ => k b u (hb b n) q, fun b u q n _ _ => ⟨u.slots, k b u (hb b n) q⟩, fun b u q n _ => by rw [upd_ne (hx b n)]; exact n, fun b u q _ => ?_,
    fun b xs q => by rw [upd_ne (hm b _ q fun z => z)]; exact q, fun b u xs q => by rw [upd_ne (hm b _ q fun z => z)]; exact q, fun b ps q => ⟨#[], by rw [upd_ne (hm b _ q fun z => z), q]; simp⟩⟩
  by_cases hbe : b = e
  · subst hbe; exact heo
  · exact ⟨u, k b u hbe q⟩
theorem Un.mono (u : Un fs ex H H1 h h1) (hs : ∀ b ∈ fs, b ∈ fs') (hx : ∀ b ∈ ex, b ∈ ex') : Un fs' ex' H H1 h h1 :=
  ⟨fun b ob q n hb he => u.keep b ob q n (fun z => hb (hs b z)) fun z => he (hx b z), fun _ _ q n _ he => u.any q n fun z => he (hx _ z), fun b ob q n he => u.free b ob q n fun z => he (hx b z), fun b ob q he => u.there b ob q fun z => he (hx b z), u.tups, u.frzs, u.tbls⟩
end

/-! ### the heap without what is tracked -/
def trk (h : Heap) (H : Hp) : List Addr := (List.range h.objs.size).filter fun a => (H a).isSome
def hidT (h : Heap) (H : Hp) : Heap := PySem.W.hideAll h (trk h H)
theorem hidT_size (h : Heap) (H : Hp) : (hidT h H).objs.size = h.objs.size := PySem.W.hideAll_size _ _
theorem hidT_get {h : Heap} {H : Hp} {b : Addr} {o : Obj} (e : h.get? b = some o) (n : H b = none) : (hidT h H).get? b = some o :=
  PySem.W.hideAll_get _ e fun hm => by
    have q : (H b).isSome = true := (List.mem_filter.mp hm).2
    rw [n] at q; simp at q
theorem of_hidT {h : Heap} {H : Hp} {b : Addr} {o : Obj} (e : (hidT h H).get? b = some o) : h.get? b = some o ∧ H b = none := by
  have e' : h.get? b = some o := PySem.W.of_hideAll (trk h H) e
  refine ⟨e', ?_⟩
  cases q : H b with
  | none => rfl
  | some x =>
    have hm : b ∈ trk h H := List.mem_filter.mpr ⟨List.mem_range.mpr (Heap.lt_size e'), by simp [q]⟩
    have z : (hidT h H).get? b = none := PySem.W.hideAll_none (trk h H) hm
    rw [z] at e; cases e

/-! ### OpenK's ledger, filled with every new object but one -/
def allNews (g h : Heap) (L : Addr) : List (Addr × Obj) := (List.range h.objs.size).filterMap fun a => if a = L ∨ (g.get? a).isSome = true then none else (h.get? a).map fun o => (a, o)
def rest (g h : Heap) (L d : Addr) : List (Addr × Obj) := (allNews g h L).filter fun p => decide (p.1 ≠ d)
end L2

namespace L2
open PySem PySem.Spec PyProof.Rows

/-- the module's facts, over the base: the heap at the law's entry without what is tracked there -/
structure Mod (K : PySem.W.Frag) (mg : Str → Option Value) (base : Heap) : Prop where
  kin : K.In base
  glob : base.Ns mainGlobals mg
  blt : ∃ mb, base.Ns builtinsNs mb ∧ ∀ x : Str, x ≠ "__name__" → mb x = bootBuiltins x
  nolimit : base.NoLimit

/-- the context: a def's body (or a comprehension's block) running. base: fixed through the whole law; s₀, H₀: the entry; outer: the frames whose slots others may change (a def's callers); stack: all frames that run;
   ex: iterators that were made ahead of the entry and are walked here (a comprehension's); fn: the names whose cells were made at the entry (a def: all; a comprehension's block: its own); calm: not within an except suite; pn: pins that every state bears; xe: what is wanted of an exception that leaves the code -/
structure Cx where
  prog : Program
  w : World
  K : PySem.W.Frag
  mg : Str → Option Value
  base : Heap
  A : Around
  N : List Str
  s₀ : Shared
  H₀ : Hp
  env : Env
  outer : List Env
  stack : List Env
  ex : List Addr
  fn : Str → Bool
  calm : Bool
  pn : List (Addr × Obj)
  xe : Value → Shared → Prop
/-- the callers' frames -/
def frs (l : List Env) : List Addr := l.filterMap (·.frame)
abbrev Cx.fs (X : Cx) : List Addr := frs X.outer

def Vis (sc : Scope) (x : Str) : Prop := sc.names.lookup x = some .local ∨ sc.names.lookup x = some .cell ∨ sc.names.lookup x = some .free
def Loc (sc : Scope) (x : Str) : Prop := sc.names.lookup x = some .local ∨ sc.names.lookup x = some .cell
def Look (env : Env) (h : Heap) (m : Str → Option Value) (x : Str) (u : Value) : Prop :=
  (env.kindOf x = some .local ∧ m x = some u) ∨ ((env.kindOf x = some .cell ∨ env.kindOf x = some .free) ∧ ∃ c, env.cells.lookup x = some c ∧ h.IsCell c (some u))

structure Cx.Ok (X : Cx) : Prop where
  mod : Mod X.K X.mg X.base
  kind : X.env.scope.kind = .function
  glob : X.env.globals = mainGlobals
  blt : X.env.builtins = builtinsNs
  above : X.s₀.heap.objs.size ≤ X.env.locals
  inj : ∀ x y c, X.env.cells.lookup x = some c → X.env.cells.lookup y = some c → x = y
  has : ∀ x, (X.env.kindOf x = some .cell ∨ X.env.kindOf x = some .free) → ∃ c, X.env.cells.lookup x = some c
  cab : ∀ x c, X.fn x = true → X.env.cells.lookup x = some c → X.s₀.heap.objs.size ≤ c
  hd : X.calm = true → X.A.handled = none
  frames : X.A.frames = some X.stack
  stk : X.stack = X.outer ∨ (X.stack = X.env :: X.outer ∧ X.env.frame = some X.env.locals)
  exf : ∀ b ∈ X.ex, b ≠ X.env.locals ∧ ∀ x c, X.env.cells.lookup x = some c → c ≠ b
  bs : ∀ b o, X.base.get? b = some o → X.s₀.heap.get? b = some o ∧ X.H₀ b = none
  bsz : X.base.objs.size ≤ X.s₀.heap.objs.size
  noex : ∀ b o, X.base.get? b = some o → b ∉ X.ex
  exfs : ∀ b ∈ X.ex, b ∉ X.fs
  funs : X.s₀.heap.FunFrames X.base X.outer
  frf : ∀ b ∈ X.fs, X.H₀ b = none

structure Inv (X : Cx) (pins : List (Addr × Obj)) (σ : List (Option V)) (H : Hp) (s : Shared) : Prop where
  ok : X.Ok
  os : s.os = X.s₀.os
  bare : AllBare s.gens
  base : Un X.fs X.ex X.H₀ H X.s₀.heap s.heap
  loc : ∃ m, s.heap.Ns X.env.locals m ∧ ∀ (i : Nat) (x : Str) (v : V), X.N[i]? = some x → σ[i]? = some (some v) → Vis X.env.scope x → ∃ u, RelV v u ∧ Look X.env s.heap m x u
  cell : ∀ x c, X.env.cells.lookup x = some c → ∃ v, s.heap.IsCell c v
  free : H X.env.locals = none
  freeC : ∀ x c, X.env.cells.lookup x = some c → H c = none
  pin : ∀ p ∈ X.pn ++ pins, s.heap.get? p.1 = some p.2 ∧ H p.1 = none ∧ p.1 ≠ X.env.locals ∧ p.1 ∉ X.fs ∧ ∀ v, p.2.data ≠ .cell v
  hok : HOk X.prog X.w H s.heap
  len : σ.length = X.N.length

section
variable {X : Cx} {pins : List (Addr × Obj)} {σ : List (Option V)} {H H' : Hp} {s : Shared} {h' : Heap}

theorem Cx.Ok.nofr (ok : X.Ok) {b : Addr} {o : Obj} (e : X.base.get? b = some o) : b ∉ X.fs := fun hb => by
  have := (ok.funs.mem hb).1
  rw [e] at this; cases this
theorem Inv.bs (I : Inv X pins σ H s) : ∀ b o, X.base.get? b = some o → s.heap.get? b = some o ∧ H b = none := fun b o e =>
  ⟨I.base.keep b o (I.ok.bs b o e).1 (I.ok.bs b o e).2 (I.ok.nofr e) (I.ok.noex b o e), I.base.free b o (I.ok.bs b o e).1 (I.ok.bs b o e).2 (I.ok.noex b o e)⟩
theorem Inv.bk (I : Inv X pins σ H s) : ∀ b o, X.base.get? b = some o → s.heap.get? b = some o := fun b o e => (I.bs b o e).1
theorem Inv.mod (I : Inv X pins σ H s) : Mod X.K X.mg X.base := I.ok.mod
theorem Inv.kIn (I : Inv X pins σ H s) : X.K.In s.heap := I.ok.mod.kin.keeps I.bk
theorem Inv.nolimit (I : Inv X pins σ H s) : s.heap.NoLimit := I.ok.mod.nolimit.keeps I.bk
/-- the frame over the base: for OpenK's rules (K.In X.base is I.mod.kin) -/
theorem Inv.fr (I : Inv X pins σ H s) : ∃ m, Fr X.base X.env.locals s.heap m :=
  let ⟨m, hn, _⟩ := I.loc
  ⟨m, hn, I.bk, Nat.le_trans I.ok.bsz I.ok.above⟩
theorem Inv.lt (I : Inv X pins σ H s) : X.env.locals < s.heap.objs.size := let ⟨_, hn, _⟩ := I.loc; hn.lt
theorem Inv.sz (I : Inv X pins σ H s) : X.s₀.heap.objs.size ≤ s.heap.objs.size := Nat.le_trans I.ok.above (Nat.le_of_lt I.lt)
theorem Inv.nofs (I : Inv X pins σ H s) {a : Addr} (h : s.heap.objs.size ≤ a) : a ∉ X.fs := fun hb => by
  obtain ⟨_, o, ho, _⟩ := I.ok.funs.mem hb
  exact absurd (Nat.lt_of_lt_of_le (Heap.lt_size ho) (Nat.le_trans I.sz h)) (Nat.lt_irrefl _)
theorem Inv.cne (I : Inv X pins σ H s) : ∀ x c, X.env.cells.lookup x = some c → c ≠ X.env.locals := fun x c e z => by
  obtain ⟨v, o, ho, hd⟩ := I.cell x c e
  obtain ⟨m, ⟨o', es, ep, ho', hd', _⟩, _⟩ := I.loc
  rw [z, ho'] at ho; cases ho; rw [hd'] at hd; cases hd
theorem Inv.funs (I : Inv X pins σ H s) : s.heap.FunFrames X.base X.outer := by
  have all : ∀ (l : List Env), (∀ b ∈ frs l, b ∈ X.fs) → X.s₀.heap.FunFrames X.base l → s.heap.FunFrames X.base l := by
    intro l
    induction l with
    | nil => intro _ _; trivial
    | cons env r ih =>
      intro hs hl
      obtain ⟨hk, ⟨L, o, hf, hn, ho, hd⟩, hr⟩ := hl
      have hL : L ∈ X.fs := hs L (by unfold frs; rw [List.filterMap_cons, hf]; exact List.mem_cons_self)
      obtain ⟨sl, e⟩ := I.base.slot L o ho (I.ok.frf L hL) hL fun z => I.ok.exfs L z hL
      exact ⟨hk, ⟨L, _, hf, hn, e, hd⟩, ih (fun b hb => hs b (by unfold frs; rw [List.filterMap_cons, hf]; exact List.mem_cons_of_mem _ hb)) hr⟩
  exact all X.outer (fun _ hb => hb) I.ok.funs

/-- the frames that run, for a call -/
theorem Inv.stack (I : Inv X pins σ H s) : s.heap.FunFrames X.base X.stack := by
  rcases I.ok.stk with e | ⟨e, hf⟩
  · rw [e]; exact I.funs
  · rw [e]
    obtain ⟨m, hn, _⟩ := I.loc
    refine .cons (by rw [I.ok.kind]; decide) hf hn ?_ I.funs
    exact Heap.get?_none_of_le (Nat.le_trans I.ok.bsz I.ok.above)
theorem Inv.stkSub (I : Inv X pins σ H s) : ∀ b ∈ frs X.stack, b ∈ X.env.locals :: X.fs := fun b hb => by
  rcases I.ok.stk with e | ⟨e, hf⟩
  · rw [e] at hb; exact List.mem_cons_of_mem _ hb
  · rw [e] at hb
    unfold frs at hb
    rw [List.filterMap_cons, hf] at hb
    exact hb
theorem Inv.stkFree (I : Inv X pins σ H s) : ∀ b ∈ frs X.stack, H b = none := fun b hb => by
  rcases List.mem_cons.mp (I.stkSub b hb) with e | hb
  · rw [e]; exact I.free
  · obtain ⟨_, o, ho, _⟩ := I.ok.funs.mem hb
    exact I.base.free b o ho (I.ok.frf b hb) fun z => I.ok.exfs b z hb

/-- THE STEP: the untracked objects but the frame and the records at ch are kept (the callers' frames up to slots), the frame's map is kept, the new abstract heap is held -/
theorem Inv.step {g' : Array GenState} {t' : Nat} {d' : Drawn} {ch : List Addr} (I : Inv X pins σ H s)
    (hch : ∀ b ∈ ch, (b ∈ X.ex ∨ X.s₀.heap.objs.size ≤ b) ∧ b ≠ X.env.locals ∧ (∀ x c, X.env.cells.lookup x = some c → c ≠ b) ∧ ∀ p ∈ X.pn ++ pins, p.1 ≠ b)
    (keep : ∀ b o, b ≠ X.env.locals → b ∉ X.fs → b ∉ ch → s.heap.get? b = some o → H b = none → h'.get? b = some o)
    (slot : ∀ b o, b ≠ X.env.locals → b ∈ X.fs → b ∉ ch → s.heap.get? b = some o → H b = none → ∃ sl, h'.get? b = some { o with slots := sl }) (free : ∀ b o, b ∉ ch → s.heap.get? b = some o → H b = none → H' b = none)
    (there : ∀ b o, b ∉ ch → s.heap.get? b = some o → ∃ o', h'.get? b = some o')
    (tups : ∀ b xs, H b = some (.tup xs) → H' b = some (.tup xs)) (frzs : ∀ b o u, H b = some (.frz o u) → H' b = some (.frz o u)) (tbls : ∀ b ps, H b = some (.tbl ps) → ∃ more, H' b = some (.tbl (ps ++ more)))
    (ns : ∀ m, s.heap.Ns X.env.locals m → h'.Ns X.env.locals m) (hok : HOk X.prog X.w H' h') (hg : AllBare g') :
    Inv X pins σ H' { s with heap := h', gens := g', drawn := d', toks := t' } := by
  have neL : ∀ b o, X.s₀.heap.get? b = some o → b ≠ X.env.locals := fun b o e => Nat.ne_of_lt (Nat.lt_of_lt_of_le (Heap.lt_size e) I.ok.above)
  have neC : ∀ b o, X.s₀.heap.get? b = some o → b ∉ X.ex → b ∉ ch := fun b o e hx hb => by
    rcases (hch b hb).1 with z | z
    · exact hx z
    · exact absurd (Nat.lt_of_lt_of_le (Heap.lt_size e) z) (Nat.lt_irrefl _)
  have cellK : ∀ x c, X.env.cells.lookup x = some c → ∀ v, s.heap.IsCell c v → h'.IsCell c v := fun x c e v ⟨o, ho, hd⟩ => by
    have nch : c ∉ ch := fun z => (hch c z).2.2.1 x c e rfl
    by_cases hc : c ∈ X.fs
    · obtain ⟨sl, q⟩ := slot c o (I.cne x c e) hc nch ho (I.freeC x c e)
      exact ⟨_, q, hd⟩
    · exact ⟨o, keep c o (I.cne x c e) hc nch ho (I.freeC x c e), hd⟩
  refine ⟨I.ok, I.os, hg, ⟨fun b o e n hb hx => ?_, fun b o e n hb hx => ?_, fun b o e n hx => ?_, fun b o e hx => ?_, fun b xs e => tups b xs (I.base.tups b xs e), fun b o xs e => frzs b o xs (I.base.frzs b o xs e), fun b ps e => ?_⟩, ?_, fun x c e => ?_, ?_, fun x c e => ?_, fun p hp => ?_, hok, I.len⟩
  · exact keep b o (neL b o e) hb (neC b o e hx) (I.base.keep b o e n hb hx) (I.base.free b o e n hx)
  · obtain ⟨sl, e1⟩ := I.base.slot b o e n hb hx
    obtain ⟨sl', e2⟩ := slot b _ (neL b o e) hb (neC b o e hx) e1 (I.base.free b o e n hx)
    exact ⟨sl', e2⟩
  · obtain ⟨o', e1⟩ := I.base.there b o e hx
    exact free b o' (neC b o e hx) e1 (I.base.free b o e n hx)
  · obtain ⟨o', e1⟩ := I.base.there b o e hx
    exact there b o' (neC b o e hx) e1
  · obtain ⟨m1, e1⟩ := I.base.tbls b ps e
    obtain ⟨m2, e2⟩ := tbls b _ e1
    exact ⟨m1 ++ m2, by rw [e2, Array.append_assoc]⟩
  · obtain ⟨m, hn, hl⟩ := I.loc
    refine ⟨m, ns m hn, fun i x v e1 e2 e3 => ?_⟩
    obtain ⟨u, r, l⟩ := hl i x v e1 e2 e3
    refine ⟨u, r, ?_⟩
    rcases l with l | ⟨k, c, e, z⟩
    · exact .inl l
    · exact .inr ⟨k, c, e, cellK x c e _ z⟩
  · obtain ⟨v, z⟩ := I.cell x c e
    exact ⟨v, cellK x c e v z⟩
  · obtain ⟨m, ⟨o, _, _, ho, _⟩, _⟩ := I.loc
    exact free _ o (fun z => (hch _ z).2.1 rfl) ho I.free
  · obtain ⟨v, o, ho, hd⟩ := I.cell x c e
    exact free c o (fun z => (hch c z).2.2.1 x c e rfl) ho (I.freeC x c e)
  · obtain ⟨e, n, ne, nf, d⟩ := I.pin p hp
    have nch : p.1 ∉ ch := fun z => (hch p.1 z).2.2.2 p hp rfl
    exact ⟨keep p.1 p.2 ne nf nch e n, free p.1 p.2 nch e n, ne, nf, d⟩
/-- .. where the frame's own object is kept too -/
theorem Inv.un {t' : Nat} (I : Inv X pins σ H s) (u : Un X.fs [] H H' s.heap h') (hok : HOk X.prog X.w H' h') : Inv X pins σ H' { s with heap := h', toks := t' } := by
  obtain ⟨m, ⟨o, es, ep, ho, r⟩, _⟩ := id I.loc
  obtain ⟨sl, hL⟩ := u.any ho I.free (by simp)
  exact I.step (g' := s.gens) (d' := s.drawn) (ch := []) (fun _ z => nomatch z) (fun b o _ hb _ e n => u.keep b o e n hb (by simp)) (fun b o _ hb _ e n => u.slot b o e n hb (by simp)) (fun b o _ e n => u.free b o e n (by simp)) (fun b o _ e => u.there b o e (by simp)) u.tups u.frzs u.tbls (fun m' hm => by
    obtain ⟨o', es', ep', ho', r'⟩ := hm
    rw [ho] at ho'; cases ho'
    exact ⟨_, es', ep', hL, r'⟩) hok I.bare
/-- behind a call (or a comprehension's block): the slots of this frame may have changed too, the records at ch may have turned -/
theorem Inv.call {g' : Array GenState} {t' : Nat} {d' : Drawn} {ch : List Addr} (I : Inv X pins σ H s) (u : Un (frs X.stack) ch H H' s.heap h') (hok : HOk X.prog X.w H' h') (hg : AllBare g')
    (hch : ∀ b ∈ ch, (b ∈ X.ex ∨ X.s₀.heap.objs.size ≤ b) ∧ b ≠ X.env.locals ∧ (∀ x c, X.env.cells.lookup x = some c → c ≠ b) ∧ ∀ p ∈ X.pn ++ pins, p.1 ≠ b) :
    Inv X pins σ H' { s with heap := h', gens := g', drawn := d', toks := t' } := by
  obtain ⟨m, ⟨o, es, ep, ho, r⟩, _⟩ := id I.loc
  obtain ⟨sl, hL⟩ := u.any ho I.free fun z => (hch _ z).2.1 rfl
  exact I.step (ch := ch) hch (fun b o hL hb hc e n => u.keep b o e n (fun z => (List.mem_cons.mp (I.stkSub b z)).elim hL hb) hc) (fun b o _ _ hc e n => u.any e n hc) (fun b o hc e n => u.free b o e n hc) (fun b o hc e => u.there b o e hc) u.tups u.frzs u.tbls (fun m' hm => by
    obtain ⟨o', es', ep', ho', r'⟩ := hm
    rw [ho] at ho'; cases ho'
    exact ⟨_, es', ep', hL, r'⟩) hok hg
/-- an untracked record of ours (an iterator) has turned -/
theorem Inv.turned {t' : Nat} {it : Addr} (I : Inv X pins σ H s) (k : ∀ b o, b ≠ it → s.heap.get? b = some o → h'.get? b = some o) (hn : H it = none) (hL : it ≠ X.env.locals)
    (h1 : it ∈ X.ex ∨ X.s₀.heap.objs.size ≤ it) (h2 : ∀ x c, X.env.cells.lookup x = some c → c ≠ it) (h3 : ∀ p ∈ X.pn ++ pins, p.1 ≠ it) : Inv X pins σ H { s with heap := h', toks := t' } := by
  have nit : ∀ b u, H b = some u → b ≠ it := fun b u e z => by rw [z, hn] at e; cases e
  refine I.step (g' := s.gens) (d' := s.drawn) (ch := [it]) (fun b hb => ?_) (fun b o _ _ hc e _ => k b o (fun z => hc (by simp [z])) e) (fun b o _ _ hc e _ => ⟨o.slots, k b o (fun z => hc (by simp [z])) e⟩) (fun _ _ _ _ n => n)
    (fun b o hc e => ⟨o, k b o (fun z => hc (by simp [z])) e⟩) (fun _ _ e => e) (fun _ _ _ e => e) (fun b ps e => ⟨#[], by rw [e]; simp⟩) (fun m hm => ?_) (fun b u e => ?_) I.bare
  · have e : b = it := by simpa using hb
    subst e
    exact ⟨h1, hL, h2, h3⟩
  · obtain ⟨o, es, ep, ho, r⟩ := hm
    exact ⟨o, es, ep, k _ o (Ne.symm hL) ho, r⟩
  · refine (I.hok b u e).stay (fun c v hc q => k c v ?_ q) (fun _ q => q) fun _ _ q => q
    rcases hc with z | z
    · rw [z]; exact nit b u e
    · exact nit c _ z
theorem Inv.tok (I : Inv X pins σ H s) (t : Nat) : Inv X pins σ H { s with toks := t } := I.un (h' := s.heap) (t' := t) Un.refl I.hok
/-- all objects kept -/
theorem Inv.kept {t' : Nat} (I : Inv X pins σ H s) (k : ∀ b u, s.heap.get? b = some u → h'.get? b = some u) : Inv X pins σ H { s with heap := h', toks := t' } := I.un (Un.kept k) (I.hok.kept k)
/-- a new object laid and tracked -/
theorem Inv.laid {a : Addr} {o : HO} {t' : Nat} (I : Inv X pins σ H s) (k : ∀ b u, s.heap.get? b = some u → h'.get? b = some u) (hp : s.heap.objs.size ≤ a) (new : ObjOk X.prog X.w (upd H a o) h' a o) :
    Inv X pins σ (upd H a o) { s with heap := h', toks := t' } := I.un (Un.laid k hp (I.hok.fresh hp)) (I.hok.laid k hp new)
/-- an object written -/
theorem Inv.write {x e : Addr} {o : HO} {t' : Nat} (I : Inv X pins σ H s) (mu : Mut (H x)) (he : e = x ∨ H e = some (.own x)) (k : ∀ b u, b ≠ e → s.heap.get? b = some u → h'.get? b = some u) (heo : ∃ u, h'.get? e = some u)
    (new : ObjOk X.prog X.w (upd H x o) h' x o) : Inv X pins σ (upd H x o) { s with heap := h', toks := t' } := I.un (Un.write mu he k heo) (I.hok.write mu he k heo new)
/-- forgetting slots, pins -/
theorem Inv.weak {σ' : List (Option V)} (I : Inv X pins σ H s) (hl : σ'.length = σ.length) (w : ∀ (i : Nat) v, σ'[i]? = some (some v) → σ[i]? = some (some v)) : Inv X pins σ' H s :=
  ⟨I.ok, I.os, I.bare, I.base, let ⟨m, hn, hl'⟩ := I.loc; ⟨m, hn, fun i x v e1 e2 e3 => hl' i x v e1 (w i v e2) e3⟩, I.cell, I.free, I.freeC, I.pin, I.hok, hl.trans I.len⟩
theorem Inv.pins_of {pins' : List (Addr × Obj)} (I : Inv X pins σ H s) (h : ∀ p ∈ pins', s.heap.get? p.1 = some p.2 ∧ H p.1 = none ∧ p.1 ≠ X.env.locals ∧ p.1 ∉ X.fs ∧ ∀ v, p.2.data ≠ .cell v) : Inv X pins' σ H s :=
  ⟨I.ok, I.os, I.bare, I.base, I.loc, I.cell, I.free, I.freeC, fun p hp => (List.mem_append.mp hp).elim (fun z => I.pin p (List.mem_append_left _ z)) (h p), I.hok, I.len⟩

theorem nodup_ix {N : List Str} (hN : N.Nodup) {i j : Nat} {x : Str} (a : N[i]? = some x) (b : N[j]? = some x) : i = j := by
  obtain ⟨h1, e1⟩ := List.getElem?_eq_some_iff.mp a
  obtain ⟨h2, e2⟩ := List.getElem?_eq_some_iff.mp b
  exact (List.getElem_inj hN).mp (e1.trans e2.symm)

/-- a name is stored; what changed -/
theorem store_ok2 {M : Model} {A : Around} {E : Value → Shared → Prop} {i : Nat} {x : Str} {v : V} {u : Value} {Q : Unit → Shared → Prop} (I : Inv X pins σ H s) (hN : X.N.Nodup) (hi : X.N[i]? = some x) (hx : Loc X.env.scope x) (r : RelV v u)
    (h : ∀ s', Inv X pins (σ.set i (some v)) H s' → (∃ a, Heap.SameBut a s.heap s'.heap ∧ (a = X.env.locals ∨ X.env.cells.lookup x = some a)) → Q () s') (hf : X.fn x = true ∨ X.env.scope.names.lookup x = some .local := by first | exact .inl rfl | exact .inr rfl | assumption) : wpAny M A (storeName X.env x u) Q E s := by
  obtain ⟨m, hn, hl⟩ := id I.loc
  have hcls : (X.env.scope.kind == .class || (X.env.scope.kind == .module && X.env.locals != X.env.globals)) = false := by rw [I.ok.kind]; rfl
  have hiσ : i < σ.length := by rw [I.len]; exact (List.getElem?_eq_some_iff.mp hi).1
  have cne := I.cne
  have tracked : ∀ {a : Addr} {h' : Heap}, (∃ o, s.heap.get? a = some o ∧ H a = none) → Heap.SameBut a s.heap h' → HOk X.prog X.w H h' := fun {a h'} ha hs b ob e => by
    obtain ⟨_, _, hfree⟩ := ha
    refine (I.hok b ob e).stay (fun c w' hc q => (hs.2 c ?_).trans q) (fun _ q => q) fun _ _ q => q
    rintro rfl
    rcases hc with rfl | hc
    · rw [hfree] at e; cases e
    · rw [hfree] at hc; cases hc
  rcases hx with hk | hk
  · refine wpAny_storeName_local hk hn (fun h' hn' hs => ?_) hcls
    obtain ⟨oL, _, _, hoL, _⟩ := id hn
    refine h _ ⟨I.ok, I.os, I.bare, ⟨fun b o e n hb hx => ?_, fun b o e n hb hx => ?_, I.base.free, fun b o e hx => ?_, I.base.tups, I.base.frzs, I.base.tbls⟩, ⟨_, hn', fun j y v' e1 e2 e3 => ?_⟩, fun y c e => ?_, I.free, I.freeC, fun p hp => ?_, tracked ⟨oL, hoL, I.free⟩ hs, by simpa using I.len⟩ ⟨_, hs, .inl rfl⟩
    · exact (hs.2 b (Nat.ne_of_lt (Nat.lt_of_lt_of_le (Heap.lt_size e) I.ok.above))).trans (I.base.keep b o e n hb hx)
    · obtain ⟨sl, e1⟩ := I.base.slot b o e n hb hx
      exact ⟨sl, (hs.2 b (Nat.ne_of_lt (Nat.lt_of_lt_of_le (Heap.lt_size e) I.ok.above))).trans e1⟩
    · obtain ⟨o', e1⟩ := I.base.there b o e hx
      exact ⟨o', (hs.2 b (Nat.ne_of_lt (Nat.lt_of_lt_of_le (Heap.lt_size e) I.ok.above))).trans e1⟩
    · by_cases hj : j = i
      · subst hj
        rw [hi] at e1; cases e1
        rw [List.getElem?_set_self hiσ] at e2
        cases e2
        exact ⟨u, r, .inl ⟨hk, by simp⟩⟩
      · rw [List.getElem?_set_ne (Ne.symm hj)] at e2
        obtain ⟨u', r', q⟩ := hl j y v' e1 e2 e3
        refine ⟨u', r', ?_⟩
        rcases q with ⟨k, e⟩ | ⟨k, c, e, z⟩
        · refine .inl ⟨k, ?_⟩
          have : y ≠ x := fun e => hj (nodup_ix hN e1 (e ▸ hi))
          simp [this, e]
        · exact .inr ⟨k, c, e, z.sameBut hs (cne y c e)⟩
    · obtain ⟨w', z⟩ := I.cell y c e
      exact ⟨w', z.sameBut hs (cne y c e)⟩
    · obtain ⟨e, n, ne, nf, d⟩ := I.pin p hp
      exact ⟨(hs.2 p.1 ne).trans e, n, ne, nf, d⟩
  · have hfn : X.fn x = true := by
      rcases hf with z | z
      · exact z
      · rw [z] at hk; cases hk
    obtain ⟨c, hc⟩ := I.ok.has x (.inl hk)
    obtain ⟨w', z⟩ := I.cell x c hc
    refine wpAny_storeName_cell I.ok.kind hk hc z (fun h' hc' hs => ?_)
    obtain ⟨oc, hoc, hocd⟩ := id z
    refine h { s with heap := h' } ⟨I.ok, I.os, I.bare, ⟨fun b o e n hb hx => ?_, fun b o e n hb hx => ?_, I.base.free, fun b o e hx => ?_, I.base.tups, I.base.frzs, I.base.tbls⟩, ⟨m, hn.sameBut hs (Ne.symm (cne x c hc)), fun j y v' e1 e2 e3 => ?_⟩, fun y c' e => ?_, I.free, I.freeC, fun p hp => ?_, tracked ⟨oc, hoc, I.freeC x c hc⟩ hs, by simpa using I.len⟩ ⟨c, hs, .inr hc⟩
    · exact (hs.2 b (Nat.ne_of_lt (Nat.lt_of_lt_of_le (Heap.lt_size e) (I.ok.cab x c hfn hc)))).trans (I.base.keep b o e n hb hx)
    · obtain ⟨sl, e1⟩ := I.base.slot b o e n hb hx
      exact ⟨sl, (hs.2 b (Nat.ne_of_lt (Nat.lt_of_lt_of_le (Heap.lt_size e) (I.ok.cab x c hfn hc)))).trans e1⟩
    · obtain ⟨o', e1⟩ := I.base.there b o e hx
      exact ⟨o', (hs.2 b (Nat.ne_of_lt (Nat.lt_of_lt_of_le (Heap.lt_size e) (I.ok.cab x c hfn hc)))).trans e1⟩
    · by_cases hj : j = i
      · subst hj
        rw [hi] at e1; cases e1
        rw [List.getElem?_set_self hiσ] at e2
        cases e2
        exact ⟨u, r, .inr ⟨.inl hk, c, hc, hc'⟩⟩
      · rw [List.getElem?_set_ne (Ne.symm hj)] at e2
        obtain ⟨u', r', q⟩ := hl j y v' e1 e2 e3
        refine ⟨u', r', ?_⟩
        rcases q with q | ⟨k, c', e, z'⟩
        · exact .inl q
        · refine .inr ⟨k, c', e, z'.sameBut hs ?_⟩
          rintro rfl
          exact hj (nodup_ix hN e1 (I.ok.inj _ _ _ e hc ▸ hi))
    · by_cases hcc : c' = c
      · subst hcc; exact ⟨_, hc'⟩
      · obtain ⟨w2, z2⟩ := I.cell y c' e
        exact ⟨w2, z2.sameBut hs hcc⟩
    · obtain ⟨e, n, ne, nf, d⟩ := I.pin p hp
      refine ⟨(hs.2 p.1 ?_).trans e, n, ne, nf, d⟩
      intro q
      rw [q, hoc] at e
      have q' : oc = p.2 := Option.some.inj e
      exact d w' (by rw [← q']; exact hocd)
theorem store_ok {M : Model} {A : Around} {E : Value → Shared → Prop} {i : Nat} {x : Str} {v : V} {u : Value} {Q : Unit → Shared → Prop} (I : Inv X pins σ H s) (hN : X.N.Nodup) (hi : X.N[i]? = some x) (hx : Loc X.env.scope x) (r : RelV v u)
    (h : ∀ s', Inv X pins (σ.set i (some v)) H s' → Q () s') (hf : X.fn x = true ∨ X.env.scope.names.lookup x = some .local := by first | exact .inl rfl | exact .inr rfl | assumption) : wpAny M A (storeName X.env x u) Q E s :=
  store_ok2 I hN hi hx r (fun s' I' _ => h s' I') hf
/-- behind a call or a block, the state as it is -/
theorem Inv.call' {s' : Shared} {ch : List Addr} (I : Inv X pins σ H s) (ho : s'.os = s.os) (u : Un (frs X.stack) ch H H' s.heap s'.heap) (hok : HOk X.prog X.w H' s'.heap) (hg : AllBare s'.gens)
    (hch : ∀ b ∈ ch, (b ∈ X.ex ∨ X.s₀.heap.objs.size ≤ b) ∧ b ≠ X.env.locals ∧ (∀ x c, X.env.cells.lookup x = some c → c ≠ b) ∧ ∀ p ∈ X.pn ++ pins, p.1 ≠ b) : Inv X pins σ H' s' := by
  obtain ⟨h', g', d', t', o'⟩ := s'
  have e : o' = s.os := ho
  subst e
  exact I.call (g' := g') (t' := t') (d' := d') u hok hg hch
end

/-! ### the judgements -/
/-- an exception: its class, its own dict's address (where it has one), the abstract heap behind it -/
abbrev XK := Value → Option Addr → Hp → Prop
abbrev St := List (Option V)
abbrev VK := V → Hp → Prop
/-- an expression's reading; a test's; an argument list's -/
abbrev TE := St → Hp → VK → Prop
abbrev TT := St → Hp → (Bool → Hp → Prop) → Prop
abbrev TA := St → Hp → (List V → Hp → Prop) → Prop
/-- what is wanted behind a statement -/
structure Ends where
  nx : St → Hp → Prop
  rt : VK
  bk : St → Hp → Prop := fun _ _ => False
  ct : St → Hp → Prop := fun _ _ => False
abbrev TS := Ends → St → Hp → Prop

def EP (X : Cx) (pins : List (Addr × Obj)) (σ : St) (Q : VK) (u : Value) (s' : Shared) : Prop := ∃ v H', Inv X pins σ H' s' ∧ RelV v u ∧ Q v H'
def TP (X : Cx) (pins : List (Addr × Obj)) (σ : St) (Q : Bool → Hp → Prop) (b : Bool) (s' : Shared) : Prop := ∃ H', Inv X pins σ H' s' ∧ Q b H'
def AP (X : Cx) (pins : List (Addr × Obj)) (σ : St) (Q : List V → Hp → Prop) (us : List Value) (s' : Shared) : Prop := ∃ vs H', Inv X pins σ H' s' ∧ Vals vs us ∧ Q vs H'
def SP (X : Cx) (pins : List (Addr × Obj)) (D : Ends) (f : Flow) (s' : Shared) : Prop :=
  match f with
  | .next => ∃ σ' H', Inv X pins σ' H' s' ∧ D.nx σ' H'
  | .brk => ∃ σ' H', Inv X pins σ' H' s' ∧ D.bk σ' H'
  | .cont => ∃ σ' H', Inv X pins σ' H' s' ∧ D.ct σ' H'
  | .ret u => ∃ v σ' H', Inv X pins σ' H' s' ∧ RelV v u ∧ D.rt v H'

def PE (X : Cx) (e : Expr) (t : TE) : Prop :=
  ∀ (pins : List (Addr × Obj)) (s : Shared) (σ : St) (H : Hp) (Q : VK), Inv X pins σ H s → t σ H Q → wpAny (model X.prog X.w) X.A (eval e X.env) (EP X pins σ Q) X.xe s
def PT (X : Cx) (e : Expr) (t : TT) : Prop :=
  ∀ (pins : List (Addr × Obj)) (s : Shared) (σ : St) (H : Hp) (Q : Bool → Hp → Prop), Inv X pins σ H s → t σ H Q → wpAny (model X.prog X.w) X.A (isTrue e X.env (eval e X.env)) (TP X pins σ Q) X.xe s
/-- a test whatever its 'whole' is (and, or) -/
def PW (X : Cx) (e : Expr) (t : TT) : Prop :=
  ∀ (whole : Sem Value) (pins : List (Addr × Obj)) (s : Shared) (σ : St) (H : Hp) (Q : Bool → Hp → Prop), Inv X pins σ H s → t σ H Q → wpAny (model X.prog X.w) X.A (isTrue e X.env whole) (TP X pins σ Q) X.xe s
theorem PW.pt {X : Cx} {e : Expr} {t : TT} (h : PW X e t) : PT X e t := h _
/-- an argument list (no star), from the left -/
def PA (X : Cx) (es : List Expr) (t : TA) : Prop :=
  ∀ (pos : Pos) (pins : List (Addr × Obj)) (s : Shared) (σ : St) (H : Hp) (Q : List V → Hp → Prop), Inv X pins σ H s → t σ H Q → wpAny (model X.prog X.w) X.A (spliced (backTo pos (starEach es X.env))) (AP X pins σ Q) X.xe s
def PS (X : Cx) (st : Stmt) (t : TS) : Prop :=
  ∀ (pins : List (Addr × Obj)) (s : Shared) (σ : St) (H : Hp) (D : Ends), Inv X pins σ H s → t D σ H → wpAny (model X.prog X.w) X.A (exec st X.env) (SP X pins D) X.xe s
def PSs (X : Cx) (st : List Stmt) (t : TS) : Prop :=
  ∀ (pins : List (Addr × Obj)) (s : Shared) (σ : St) (H : Hp) (D : Ends), Inv X pins σ H s → t D σ H → wpAny (model X.prog X.w) X.A (execs st X.env) (SP X pins D) X.xe s
/-- weaken the end -/
theorem thn {α : Type} {t : Sem α} {Q Q' : α → Shared → Prop} {M : Model} {A : Around} {E : Value → Shared → Prop} {s : Shared} (h : wpAny M A t Q E s) (hQ : ∀ a s, Q a s → Q' a s) : wpAny M A t Q' E s := wpAny_mono h hQ fun _ _ x => x
end L2

namespace L2
open PySem PySem.Spec PyProof.Rows
section
variable {X : Cx}

/-! ### names and constants -/
def tVar (i : Nat) : TE := fun σ H Q => ∃ v, σ[i]? = some (some v) ∧ Q v H
def tC (v : V) : TE := fun _ H Q => Q v H
theorem pe_var {i : Nat} {x : Str} {pos : Pos} (hN : X.N[i]? = some x) (hv : Vis X.env.scope x) (hd : (x == ("__debug__" : Str)) = false := by decide) (hcd : (x == ("__classdict__" : Str)) = false := by decide) : PE X (.Name x pos) (tVar i) := by
  intro pins s σ H Q I h
  obtain ⟨v, e, h⟩ := h
  obtain ⟨m, hn, hl⟩ := I.loc
  obtain ⟨u, r, l⟩ := hl i x v hN e hv
  have fin : EP X pins σ Q u s := ⟨v, H, I, r, h⟩
  rcases l with ⟨hk, hm⟩ | ⟨hk, c, hc, hcell⟩
  · exact wpAny_Name (wpAny_loadName_local I.ok.kind hk hn hm fin) hd
  · rcases hk with hk | hk
    · exact wpAny_Name (wpAny_loadName_cell I.ok.kind hk hc hcell fin) hd
    · exact wpAny_Name (wpAny_loadName_free I.ok.kind hk hc hcell fin hcd) hd
theorem pe_int {i j pos} : PE X (.Constant (.int i) j pos) (tC (.int i)) := fun _ _ _ H _ I h => wpAny_Constant_int ⟨.int i, H, I.tok _, ⟨_, rfl⟩, h⟩
theorem pe_bl {b j pos} : PE X (.Constant (.bool b) j pos) (tC (.bl b)) := fun _ _ _ H _ I h => Constant_bool ⟨.bl b, H, I, rfl, h⟩
theorem pe_non {j pos} : PE X (.Constant .none j pos) (tC .non) := fun _ _ _ H _ I h => Constant_none ⟨.non, H, I, rfl, h⟩
theorem pe_str {x j pos} : PE X (.Constant (.str x) j pos) (tC (.str x)) := fun _ _ _ H _ I h => Calls.Constant_str ⟨.str x, H, I.tok _, ⟨_, rfl⟩, h⟩

/-- a global name of the def -/
def Gl (X : Cx) (x : Str) : Prop := X.env.kindOf x = some .globalImplicit
theorem ld_glob {E : Value → Shared → Prop} {pins : List (Addr × Obj)} {s : Shared} {σ : St} {H : Hp} {x : Str} {u : Value} {pos : Pos} {Q : Value → Shared → Prop} (I : Inv X pins σ H s) (hg : Gl X x) (hm : X.mg x = some u) (h : Q u s)
    (hd : (x == ("__debug__" : Str)) = false := by decide) : wpAny (model X.prog X.w) X.A (eval (.Name x pos) X.env) Q E s :=
  Calls.Name_function_global I.ok.kind hg (Calls.loadGlobal_global (by rw [I.ok.glob]; exact I.mod.glob.keeps I.bk) hm h) hd
theorem ld_blt {E : Value → Shared → Prop} {pins : List (Addr × Obj)} {s : Shared} {σ : St} {H : Hp} {x : Str} {u : Value} {pos : Pos} {Q : Value → Shared → Prop} (I : Inv X pins σ H s) (hg : Gl X x) (hm : X.mg x = none) (hv : bootBuiltins x = some u) (h : Q u s)
    (hn : x ≠ "__name__" := by decide) (hd : (x == ("__debug__" : Str)) = false := by decide) : wpAny (model X.prog X.w) X.A (eval (.Name x pos) X.env) Q E s := by
  obtain ⟨mb, h1, h2⟩ := I.mod.blt
  exact Calls.Name_function_global I.ok.kind hg (Calls.loadGlobal_builtin (by rw [I.ok.glob]; exact I.mod.glob.keeps I.bk) hm (by rw [I.ok.blt]; exact h1.keeps I.bk) ((h2 x hn).trans hv) h) hd
/-- a module's constant, a class, a function, as a value -/
theorem pe_glob {x : Str} {v : V} {u : Value} {pos : Pos} (hg : Gl X x) (hm : X.mg x = some u) (r : RelV v u) (hd : (x == ("__debug__" : Str)) = false := by decide) : PE X (.Name x pos) (tC v) :=
  fun _ _ _ H _ I h => ld_glob I hg hm ⟨v, H, I, r, h⟩ hd
theorem pe_bltn {x : Str} {v : V} {u : Value} {pos : Pos} (hg : Gl X x) (hm : X.mg x = none) (hv : bootBuiltins x = some u) (r : RelV v u) (hn : x ≠ "__name__" := by decide) (hd : (x == ("__debug__" : Str)) = false := by decide) : PE X (.Name x pos) (tC v) :=
  fun _ _ _ H _ I h => ld_blt I hg hm hv ⟨v, H, I, r, h⟩ hn hd

/-! ### arithmetic -/
variable {a b : Expr} {ta tb : TE} {pos : Pos}
/-! ### comparisons -/
def PC (X : Cx) (op : CmpOp) (a b : Expr) (t : TE) : Prop :=
  ∀ (pins : List (Addr × Obj)) (s : Shared) (σ : St) (H : Hp) (Q : VK), Inv X pins σ H s → t σ H Q →
    wpAny (model X.prog X.w) X.A (eval a X.env) (fun v s₁ => wpAny (model X.prog X.w) X.A (eval b X.env) (fun u s₂ => wpAny (model X.prog X.w) X.A (compareOp op v u) (EP X pins σ Q) X.xe s₂) X.xe s₁) X.xe s
theorem nobehind (b : Expr) {op : CmpOp} (h : op ≠ .In) (h2 : op ≠ .NotIn) : behindInMarks op b = false := by
  have e1 : (op == CmpOp.In) = false := by cases op <;> first | rfl | exact absurd rfl h
  have e2 : (op == CmpOp.NotIn) = false := by cases op <;> first | rfl | exact absurd rfl h2
  cases b <;> simp [behindInMarks, e1, e2]
/-- is None -/
def tIsN (ta : TE) : TE := fun σ H Q => ta σ H fun x H1 => Q (.bl (decide (x = .non))) H1
def tNotN (ta : TE) : TE := fun σ H Q => ta σ H fun x H1 => Q (.bl (!decide (x = .non))) H1
theorem RelV.none_iff {x : V} {v : Value} (r : RelV x v) : (v == Value.none) = decide (x = .non) := by
  cases x with
  | non => cases r; rfl
  | bl _ => cases r; rfl
  | int _ => obtain ⟨t, rfl⟩ := r; rfl
  | str _ => obtain ⟨t, rfl⟩ := r; rfl
  | byt _ => obtain ⟨t, rfl⟩ := r; rfl
  | flt _ => obtain ⟨t, rfl⟩ := r; rfl
  | ref _ => cases r; rfl
  | ty _ => cases r; rfl
theorem pc_isN {j pos'} (ha : PE X a ta) : PC X .Is a (.Constant .none j pos') (tIsN ta) := by
  intro pins s σ H Q I h
  refine thn (ha pins s σ H _ I h) fun v s1 ⟨x, H1, I1, r1, q1⟩ => ?_
  exact Constant_none (is_none_gen ⟨.bl _, H1, I1, by rw [r1.none_iff]; rfl, q1⟩)
theorem pc_notN {j pos'} (ha : PE X a ta) : PC X .IsNot a (.Constant .none j pos') (tNotN ta) := by
  intro pins s σ H Q I h
  refine thn (ha pins s σ H _ I h) fun v s1 ⟨x, H1, I1, r1, q1⟩ => ?_
  exact Constant_none (isnot_none_gen ⟨.bl _, H1, I1, by rw [r1.none_iff]; rfl, q1⟩)
/-- a comparison as a value, as a test -/
def tB (t : TE) : TT := fun σ H Q => t σ H fun x H1 => ∃ c, x = .bl c ∧ Q c H1
theorem pt_cmp {op : CmpOp} {t : TE} (h : PC X op a b t) (h1 : behindInMarks op b = false := by first | exact nobehind _ (by decide) (by decide) | rfl) : PT X (.Compare a [op] [b] pos) (tB t) := by
  intro pins s σ H Q I hw
  refine wpAny_isTrue_Compare1 (thn (h pins s σ H _ I hw) fun v s1 h1 => thn h1 fun u s2 h2 => thn h2 fun c s3 ⟨x, H1, I1, r1, q1⟩ => ?_) h1
  obtain ⟨d, rfl, q⟩ := q1
  cases r1
  exact wpAny_truthy_bool ⟨H1, I1, q⟩
/-! ### and, or, not -/
variable {tA tB' : TT} {rest : List Expr}
def tAnd (t u : TT) : TT := fun σ H Q => t σ H fun c H1 => if c = true then u σ H1 Q else Q false H1
def tOr (t u : TT) : TT := fun σ H Q => t σ H fun c H1 => if c = true then Q true H1 else u σ H1 Q
def tNot (t : TT) : TT := fun σ H Q => t σ H fun c H1 => Q (!c) H1
theorem pw_and1 (ha : PT X a tA) : PW X (.BoolOp .And [a] pos) tA := by
  intro wh pins s σ H Q I h
  refine isTrue_and (thn (ha pins s σ H Q I h) fun c s1 e => ?_)
  cases c with
  | true => exact isTrue_and_nil e
  | false => exact e
theorem pw_or1 (ha : PT X a tA) : PW X (.BoolOp .Or [a] pos) tA := by
  intro wh pins s σ H Q I h
  refine isTrue_or (thn (ha pins s σ H Q I h) fun c s1 e => ?_)
  cases c with
  | false => exact isTrue_or_nil e
  | true => exact e
theorem pw_and (ha : PT X a tA) (hb : PW X (.BoolOp .And (b :: rest) pos) tB') : PW X (.BoolOp .And (a :: b :: rest) pos) (tAnd tA tB') := by
  intro wh pins s σ H Q I h
  refine isTrue_and (thn (ha pins s σ H _ I h) fun c s1 ⟨H1, I1, q1⟩ => ?_)
  cases c with
  | true => exact hb wh pins s1 σ H1 Q I1 q1
  | false => exact ⟨H1, I1, q1⟩
theorem pw_or (ha : PT X a tA) (hb : PW X (.BoolOp .Or (b :: rest) pos) tB') : PW X (.BoolOp .Or (a :: b :: rest) pos) (tOr tA tB') := by
  intro wh pins s σ H Q I h
  refine isTrue_or (thn (ha pins s σ H _ I h) fun c s1 ⟨H1, I1, q1⟩ => ?_)
  cases c with
  | true => exact ⟨H1, I1, q1⟩
  | false => exact hb wh pins s1 σ H1 Q I1 q1
theorem pt_not (ha : PT X a tA) : PT X (.UnaryOp .Not a pos) (tNot tA) := by
  intro pins s σ H Q I h
  exact isTrue_not (ha pins s σ H (fun c H1 => Q (!c) H1) I h)
end
end L2

namespace L2
open PySem PySem.Spec PyProof.Rows

/-! ### a list, a tuple that is read: tracked, frozen, or an object of the module -/
def SqL (K : PySem.W.Frag) (H : Hp) (a : Addr) (xs : List V) : Prop :=
  Rd H a (.lst xs) ∨
    ∃ (o : Obj) (its : Array Value) (n : Nat), K.lookup a = some o ∧ o.cls = .type "list" ∧ o.dict = none ∧ o.data = .seq its n ∧ its.size ≤ sizeLine ∧ Vals xs its.toList
def SqT (K : PySem.W.Frag) (H : Hp) (a : Addr) (xs : List V) : Prop :=
  Rd H a (.tup xs) ∨
    ∃ (o : Obj) (its : Array Value) (n : Nat), K.lookup a = some o ∧ o.cls = .type "tuple" ∧ o.data = .seq its n ∧ its.size ≤ sizeLine ∧ Vals xs its.toList
def absV : Value → Option V
  | .none => some .non
  | .bool b => some (.bl b)
  | .int i _ => some (.int i)
  | .str x _ => some (.str x)
  | .bytes b _ => some (.byt b)
  | .float b _ => some (.flt b)
  | .ref a => some (.ref a)
  | .type n => some (.ty n)
  | _ => none
theorem RelV.abs {x : V} {u : Value} (r : RelV x u) : absV u = some x := by
  cases x with
  | non => cases r; rfl
  | bl _ => cases r; rfl
  | int _ => obtain ⟨t, rfl⟩ := r; rfl
  | str _ => obtain ⟨t, rfl⟩ := r; rfl
  | byt _ => obtain ⟨t, rfl⟩ := r; rfl
  | flt _ => obtain ⟨t, rfl⟩ := r; rfl
  | ref _ => cases r; rfl
  | ty _ => cases r; rfl
theorem RelV.inj {x y : V} {u : Value} (r : RelV x u) (q : RelV y u) : x = y := Option.some.inj (r.abs.symm.trans q.abs)
theorem Vals.inj : ∀ {xs ys : List V} {us : List Value}, Vals xs us → Vals ys us → xs = ys
  | _, _, _, .nil, .nil => rfl
  | _, _, _, .cons r t, .cons r' t' => by rw [r.inj r', Vals.inj t t']
section
variable {X : Cx} {pins : List (Addr × Obj)} {σ : St} {H : Hp} {s : Shared} {a : Addr} {xs ys : List V}
theorem SqL.of {K : PySem.W.Frag} (h : H a = some (.lst xs)) : SqL K H a xs := .inl (.inl h)
theorem SqT.of {K : PySem.W.Frag} (h : H a = some (.tup xs)) : SqT K H a xs := .inl (.inl h)
theorem Inv.list (I : Inv X pins σ H s) (h : SqL X.K H a xs) : ∃ its : List Value, Vals xs its ∧ PlainL s.heap a its.toArray ∧ xs.length ≤ sizeLine := by
  rcases h with h | ⟨o, its, n, hk, hc, hd, hs, hz, r⟩
  · obtain ⟨z, its, n, r, e⟩ := h.ok I.hok
    exact ⟨its, r, ⟨_, n, e, rfl, rfl, rfl⟩, z⟩
  · refine ⟨its.toList, r, ⟨o, n, I.kIn a o hk, hc, hd, by simpa using hs⟩, ?_⟩
    have e := r.length
    simp only [Array.length_toList] at e
    omega
theorem Inv.tuple (I : Inv X pins σ H s) (h : SqT X.K H a xs) : ∃ its : List Value, Vals xs its ∧ IsTup s.heap a its.toArray ∧ xs.length ≤ sizeLine := by
  rcases h with h | ⟨o, its, n, hk, hc, hs, hz, r⟩
  · obtain ⟨z, its, r, p⟩ := h.ok I.hok
    exact ⟨its, r, p, z⟩
  · refine ⟨its.toList, r, ⟨o, I.kIn a o hk, hc, n, by simpa using hs⟩, ?_⟩
    have e := r.length
    simp only [Array.length_toList] at e
    omega
theorem Inv.list_inj (I : Inv X pins σ H s) (h : SqL X.K H a xs) (h' : SqL X.K H a ys) : xs = ys := by
  obtain ⟨its, r, ⟨o, n, e, _, _, d⟩, _⟩ := I.list h
  obtain ⟨its', r', ⟨o', n', e', _, _, d'⟩, _⟩ := I.list h'
  rw [e] at e'; cases e'
  rw [d] at d'
  injection d' with d1 _
  have : its = its' := by simpa using congrArg Array.toList d1
  subst this
  exact r.inj r'
theorem Inv.tuple_inj (I : Inv X pins σ H s) (h : SqT X.K H a xs) (h' : SqT X.K H a ys) : xs = ys := by
  obtain ⟨its, r, ⟨o, e, _, n, d⟩, _⟩ := I.tuple h
  obtain ⟨its', r', ⟨o', e', _, n', d'⟩, _⟩ := I.tuple h'
  rw [e] at e'; cases e'
  rw [d] at d'
  injection d' with d1 _
  have : its = its' := by simpa using congrArg Array.toList d1
  subst this
  exact r.inj r'
end

/-! ### another wish about exceptions -/
abbrev Cx.wish (X : Cx) (E : Value → Shared → Prop) : Cx := { X with xe := E }
/-- no exception leaves -/
abbrev Cx.nox (X : Cx) : Cx := X.wish fun _ _ => False
theorem Cx.Ok.wish {X : Cx} (ok : X.Ok) (E : Value → Shared → Prop) : (X.wish E).Ok :=
  ⟨ok.mod, ok.kind, ok.glob, ok.blt, ok.above, ok.inj, ok.has, ok.cab, ok.hd, ok.frames, ok.stk, ok.exf, ok.bs, ok.bsz, ok.noex, ok.exfs, ok.funs, ok.frf⟩
theorem Cx.Ok.unwish {X : Cx} {E : Value → Shared → Prop} (ok : (X.wish E).Ok) : X.Ok :=
  ⟨ok.mod, ok.kind, ok.glob, ok.blt, ok.above, ok.inj, ok.has, ok.cab, ok.hd, ok.frames, ok.stk, ok.exf, ok.bs, ok.bsz, ok.noex, ok.exfs, ok.funs, ok.frf⟩
section
variable {X : Cx} {pins : List (Addr × Obj)} {σ : St} {H : Hp} {s : Shared} {E : Value → Shared → Prop}
theorem Inv.wish (I : Inv X pins σ H s) (E : Value → Shared → Prop) : Inv (X.wish E) pins σ H s := ⟨I.ok.wish E, I.os, I.bare, I.base, I.loc, I.cell, I.free, I.freeC, I.pin, I.hok, I.len⟩
theorem Inv.unwish (I : Inv (X.wish E) pins σ H s) : Inv X pins σ H s := ⟨I.ok.unwish, I.os, I.bare, I.base, I.loc, I.cell, I.free, I.freeC, I.pin, I.hok, I.len⟩
theorem SP.unwish {D : Ends} {f : Flow} {s' : Shared} (h : SP (X.wish E) pins D f s') : SP X pins D f s' := by
  cases f with
  | next => obtain ⟨σ', H', I, q⟩ := h; exact ⟨σ', H', I.unwish, q⟩
  | brk => obtain ⟨σ', H', I, q⟩ := h; exact ⟨σ', H', I.unwish, q⟩
  | cont => obtain ⟨σ', H', I, q⟩ := h; exact ⟨σ', H', I.unwish, q⟩
  | ret u => obtain ⟨v, σ', H', I, r, q⟩ := h; exact ⟨v, σ', H', I.unwish, r, q⟩
theorem PE.nox {e : Expr} {t : TE} (h : PE X.nox e t) : PE X e t := fun pins s σ H Q I hw =>
  wpAny_mono (h pins s σ H Q (I.wish _) hw) (fun _ _ ⟨v, H', I', r, q⟩ => ⟨v, H', I'.unwish, r, q⟩) fun _ _ z => False.elim z
theorem PT.nox {e : Expr} {t : TT} (h : PT X.nox e t) : PT X e t := fun pins s σ H Q I hw =>
  wpAny_mono (h pins s σ H Q (I.wish _) hw) (fun _ _ ⟨H', I', q⟩ => ⟨H', I'.unwish, q⟩) fun _ _ z => False.elim z
theorem PSs.nox {st : List Stmt} {t : TS} (h : PSs X.nox st t) : PSs X st t := fun pins s σ H D I hw =>
  wpAny_mono (h pins s σ H D (I.wish _) hw) (fun _ _ q => q.unwish) fun _ _ z => False.elim z
end

/-! ### blocks and small statements -/
section
variable {X : Cx} {st : Stmt} {rest : List Stmt} {t u : TS} {e : Expr} {te : TE} {pos : Pos}
def tNext : TS := fun D σ H => D.nx σ H
def tSeq (t u : TS) : TS := fun D σ H => t { D with nx := u D } σ H
theorem pss_nil : PSs X [] tNext := fun _ _ σ H _ I h => wpAny_execs_nil ⟨σ, H, I, h⟩
theorem pss_cons (h1 : PS X st t) (h2 : PSs X rest u) : PSs X (st :: rest) (tSeq t u) := by
  intro pins s σ H D I h
  refine wpAny_execs_cons (thn (h1 pins s σ H { D with nx := u D } I h) fun f s1 q => ?_)
  cases f with
  | next =>
    obtain ⟨σ', H', I', q⟩ := q
    exact h2 pins s1 σ' H' D I' q
  | ret v => exact q
  | brk => exact q
  | cont => exact q
theorem pss_one (h1 : PS X st t) : PSs X [st] t := by
  intro pins s σ H D I h
  refine wpAny_execs_cons (thn (h1 pins s σ H D I h) fun f s1 q => ?_)
  cases f with
  | next => exact wpAny_execs_nil q
  | ret v => exact q
  | brk => exact q
  | cont => exact q
/-- in a def's body nothing is shown -/
theorem Inv.quiet {pins : List (Addr × Obj)} {σ : St} {H : Hp} {s : Shared} (I : Inv X pins σ H s) : interactive X.env = false := by simp [interactive, I.ok.kind]
/-- an expression whose value is dropped -/
def tDrop (te : TE) : TS := fun D σ H => te σ H fun _ H1 => D.nx σ H1
theorem ps_expr (he : PE X e te) (hs : swapsWith e none pos.line X.env = pure false := by rfl) : PS X (.Expr e pos) (tDrop te) := by
  intro pins s σ H D I h
  exact wpAny_Expr_any (thn (he pins s σ H _ I h) fun v s1 ⟨x, H1, I1, r1, q1⟩ => ⟨σ, H1, I1, q1⟩) I.quiet hs
def tRet (te : TE) : TS := fun D σ H => te σ H D.rt
theorem ps_ret (he : PE X e te) : PS X (.Return (some e) pos) (tRet te) := by
  intro pins s σ H D I h
  exact wpAny_Return_some (thn (he pins s σ H _ I h) fun v s1 ⟨x, H1, I1, r1, q1⟩ => ⟨x, σ, H1, I1, r1, q1⟩)
def tIfS (c : TT) (t u : TS) : TS := fun D σ H => c σ H fun b H1 => if b = true then t D σ H1 else u D σ H1
theorem ps_if {c : Expr} {a b : List Stmt} {tc : TT} (hc : PT X c tc) (ha : PSs X a t) (hb : PSs X b u) : PS X (.If c a b pos) (tIfS tc t u) := by
  intro pins s σ H D I h
  refine wpAny_If (thn (hc pins s σ H _ I h) fun d s1 ⟨H1, I1, q1⟩ => ?_)
  cases d with
  | true => exact ha pins s1 σ H1 D I1 q1
  | false => exact hb pins s1 σ H1 D I1 q1
end

/-! ### targets -/
abbrev TG := V → St → Hp → (St → Hp → Prop) → Prop
def PG (X : Cx) (target : Expr) (t : TG) : Prop :=
  ∀ (pins : List (Addr × Obj)) (s : Shared) (σ : St) (H : Hp) (v : V) (u : Value) (Q : St → Hp → Prop), Inv X pins σ H s → RelV v u → t v σ H Q →
    wpAny (model X.prog X.w) X.A (assign target X.env u) (fun _ s' => ∃ σ' H', Inv X pins σ' H' s' ∧ Q σ' H') X.xe s
section
variable {X : Cx} {pos : Pos}
def gName (i : Nat) : TG := fun v σ H Q => Q (σ.set i (some v)) H
theorem pg_name {i : Nat} {x : Str} (hN : X.N.Nodup) (hi : X.N[i]? = some x) (hx : Loc X.env.scope x) (hf : X.fn x = true ∨ X.env.scope.names.lookup x = some .local := by first | exact .inl rfl | exact .inr rfl | assumption) : PG X (.Name x pos) (gName i) := by
  intro pins s σ H v u Q I r h
  exact wpAny_assign_Name (store_ok I hN hi hx r (fun s' I' => ⟨_, H, I', h⟩) hf)
/-- target = value -/
def tAsg (te : TE) (g : TG) : TS := fun D σ H => te σ H fun x H1 => g x σ H1 D.nx
/-- name = value -/
theorem ps_set {i : Nat} {x : Str} {e : Expr} {te : TE} {pos' : Pos} (hN : X.N.Nodup) (hi : X.N[i]? = some x) (hx : Loc X.env.scope x) (he : PE X e te) (hs : swapsWith e (some (.Name x pos')) pos.line X.env = pure false := by rfl) (hf : X.fn x = true ∨ X.env.scope.names.lookup x = some .local := by first | exact .inl rfl | exact .inr rfl | assumption) :
    PS X (.Assign [.Name x pos'] e pos) (tAsg te (gName i)) := by
  intro pins s σ H D I h
  refine wpAny_Assign_Name (thn (he pins s σ H _ I h) fun v s1 ⟨y, H1, I1, r1, q1⟩ => ?_) hs
  exact store_ok I1 hN hi hx r1 (fun s2 I2 => ⟨_, H1, I2, q1⟩) hf
end

/-! ### while -/
section
variable {X : Cx} {pos : Pos}
/-- the invariant W with its measure -/
def tWhile (c : TT) (tb : TS) : TS := fun D σ H => ∃ W : Nat → St → Hp → Prop, (∃ m, W m σ H) ∧ ∀ m σ H, W m σ H →
  c σ H fun b H1 => if b = true then ∃ N : St → Hp → Prop, (∀ σ' H', N σ' H' → ∃ m', m' < m ∧ W m' σ' H') ∧ tb { D with nx := N, ct := N, bk := D.nx } σ H1 else D.nx σ H1
theorem ps_while {c : Expr} {body : List Stmt} {tc : TT} {tb : TS} (hp : PassesOwn (model X.prog X.w) X.A X.env X.xe) (hc : PT X c tc) (hb : PSs X body tb) : PS X (.While c body [] pos) (tWhile tc tb) := by
  intro pins s σ H D I h
  obtain ⟨W, ⟨m0, w0⟩, turn⟩ := h
  refine wpAny_While (codeAny_whileLoop (fun n s' => ∃ σ' H', Inv X pins σ' H' s' ∧ W n σ' H') ?_ m0 ⟨σ, H, I, w0⟩)
  rintro n s1 ⟨σ1, H1, I1, w1⟩
  refine wpAny_passesOwn hp (thn (hc pins s1 σ1 H1 _ I1 (turn n σ1 H1 w1)) fun b s2 ⟨H2, I2, q2⟩ => ?_)
  cases b with
  | true =>
    obtain ⟨N, hN, q2⟩ := q2
    rw [if_pos rfl]
    refine wpAny_passesOwn hp (thn (hb pins s2 σ1 H2 _ I2 q2) fun f s3 q3 => ?_)
    cases f with
    | next =>
      obtain ⟨σ3, H3, I3, n3⟩ := q3
      obtain ⟨m', hm, w3⟩ := hN σ3 H3 n3
      exact ⟨m', hm, σ3, H3, I3, w3⟩
    | cont =>
      obtain ⟨σ3, H3, I3, n3⟩ := q3
      obtain ⟨m', hm, w3⟩ := hN σ3 H3 n3
      exact ⟨m', hm, σ3, H3, I3, w3⟩
    | brk => exact q3
    | ret v => exact q3
  | false =>
    rw [if_neg Bool.false_ne_true]
    exact wpAny_execs_nil ⟨σ1, H2, I2, q2⟩
end

/-! ### what a loop or a comprehension walks -/
/-- at turn i: it yields x (the heap may grow), or it stops -/
structure It where
  go : Nat → Hp → Prop
  yld : Nat → Hp → V → Hp → Prop
  stop : Nat → Hp → Prop
/-- the iterator's own objects may turn: they are not the frame's, not pinned, younger than the entry (or a comprehension's own) -/
def FpOk (X : Cx) (pins : List (Addr × Obj)) (H : Hp) (b : Addr) : Prop :=
  H b = none ∧ b ≠ X.env.locals ∧ b ∉ X.fs ∧ (b ∈ X.ex ∨ X.s₀.heap.objs.size ≤ b) ∧ (∀ x c, X.env.cells.lookup x = some c → c ≠ b) ∧ ∀ p ∈ X.pn ++ pins, p.1 ≠ b
theorem Inv.fpOk {X : Cx} {pins : List (Addr × Obj)} {σ : St} {H H' : Hp} {s : Shared} {b : Addr} (I : Inv X pins σ H s) (hb : s.heap.objs.size ≤ b) (hn : H' b = none) : FpOk X pins H' b := by
  refine ⟨hn, Nat.ne_of_gt (Nat.lt_of_lt_of_le I.lt hb), I.nofs hb, .inr (Nat.le_trans I.sz hb), fun x c e z => ?_, fun p hp z => ?_⟩
  · obtain ⟨v, q⟩ := I.cell x c e
    exact absurd (Nat.lt_of_lt_of_le q.lt (by rw [z]; exact hb)) (Nat.lt_irrefl _)
  · exact absurd (Nat.lt_of_lt_of_le (Heap.lt_size (I.pin p hp).1) (by rw [z]; exact hb)) (Nat.lt_irrefl _)
structure Turn (P : Program) (w : World) (K : PySem.W.Frag) (tg : Expr) (J : It) (fp : List Addr) (it : Addr) (tn : Nat → Heap → Prop) : Prop where
  mem : it ∈ fp
  obj : ∀ i h, tn i h → ∀ b ∈ fp, ∃ o, h.get? b = some o ∧ ∀ v, o.data ≠ .cell v
  keep : ∀ i h h', tn i h → (∀ b ∈ fp, ∀ o, h.get? b = some o → h'.get? b = some o) → tn i h'
  item : ∀ (X : Cx), X.prog = P → X.w = w → X.K = K → X.calm = true → ∀ (i : Nat) (pins : List (Addr × Obj)) (s : Shared) (σ : St) (H : Hp) (E : Value → Shared → Prop), Inv X pins σ H s → (∀ b ∈ fp, FpOk X pins H b) → tn i s.heap → J.go i H →
    wpAny (model P w) X.A (pyNext (.ref it)) (fun r s1 => ∃ u, r = some u ∧
      wpAny (model P w) X.A (letOwnedTupleGo tg (.ref it) u) (fun _ s2 => ∃ x H', Inv X pins σ H' s2 ∧ RelV x u ∧ J.yld i H x H' ∧ tn (i + 1) s2.heap ∧ ∀ b ∈ fp, H' b = none) E s1) E s
  done : ∀ (X : Cx), X.prog = P → X.w = w → X.K = K → X.calm = true → ∀ (i : Nat) (pins : List (Addr × Obj)) (s : Shared) (σ : St) (H : Hp) (E : Value → Shared → Prop), Inv X pins σ H s → (∀ b ∈ fp, FpOk X pins H b) → tn i s.heap → J.stop i H →
    wpAny (model P w) X.A (pyNext (.ref it)) (fun r s1 => r = none ∧ Inv X pins σ H s1) E s
  self : ∀ (A : Around) (i : Nat) (s : Shared) (Q : Value → Shared → Prop) (E : Value → Shared → Prop), tn i s.heap → Q (.ref it) s → wpAny (model P w) A (pyIter (.ref it)) Q E s
abbrev TI := St → Hp → (It → Hp → Prop) → Prop
/-- an iterator has come -/
def PIE (X : Cx) (pins : List (Addr × Obj)) (σ : St) (tg : Expr) (R : It → Hp → Prop) (itv : Value) (s2 : Shared) : Prop :=
  ∃ (it : Addr) (fp : List Addr) (tn : Nat → Heap → Prop) (J : It) (H' : Hp), itv = .ref it ∧ Inv X pins σ H' s2 ∧ Turn X.prog X.w X.K tg J fp it tn ∧ tn 0 s2.heap ∧ (∀ b ∈ fp, FpOk X pins H' b) ∧ R J H'
def PI (X : Cx) (tg iter : Expr) (wi : TI) : Prop :=
  ∀ (pins : List (Addr × Obj)) (s : Shared) (σ : St) (H : Hp) (R : It → Hp → Prop), Inv X pins σ H s → wi σ H R →
    wpAny (model X.prog X.w) X.A (eval iter X.env) (fun v s1 => wpAny (model X.prog X.w) X.A (pyIter v) (PIE X pins σ tg R) X.xe s1) X.xe s

/-- the step ahead of the store is nothing for an iterator that keeps no tuple -/
theorem go_of {M : Model} {A : Around} {E : Value → Shared → Prop} {s : Shared} {tg : Expr} {it : Addr} {u : Value} {o : Obj} {n : String} {vs : Array Value} {Q : Unit → Shared → Prop} (ho : s.heap.get? it = some o) (hc : o.cls = .type n) (hd : o.data = .fields vs)
    (hn : ["enumerate", "zip", "dict_itemiterator", "dict_reverseitemiterator", "odict_iterator", "itertools.zip_longest", "itertools.pairwise"].contains n = false) (hQ : Q () s) : wpAny M A (letOwnedTupleGo tg (.ref it) u) Q E s := by
  unfold letOwnedTupleGo
  cases tg <;> first
    | exact wpAny_pure hQ
    | (cases u <;> first
        | exact wpAny_pure hQ
        | (refine wpAny_bind (wpAny_load ho ?_)
           rw [hc, hd]
           show wpAny M A (if (["enumerate", "zip", "dict_itemiterator", "dict_reverseitemiterator", "odict_iterator", "itertools.zip_longest", "itertools.pairwise"].contains n && vs[0]? == some (rawInt _)) = true then _ else _) Q E s
           rw [if_neg (by intro h; rw [hn, Bool.false_and] at h; cases h)]
           exact wpAny_pure hQ))

/-- the list at a, as it stands at each turn (a loop may append to it) -/
def Itl (K : PySem.W.Frag) (a : Addr) : It :=
  ⟨fun i H => ∃ xs x, SqL K H a xs ∧ xs[i]? = some x, fun i H x H' => H' = H ∧ ∀ xs, SqL K H a xs → xs[i]? = some x, fun i H => ∃ xs, SqL K H a xs ∧ xs.length ≤ i⟩
/-- lo, lo + 1, .. (n of them) -/
def Itr (lo : Int) (n : Nat) : It := ⟨fun i _ => i < n, fun i H x H' => H' = H ∧ x = .int (lo + i), fun i _ => n ≤ i⟩
theorem turn_list {P : Program} {w : World} {K : PySem.W.Frag} {tg : Expr} (a it : Addr) : Turn P w K tg (Itl K a) [it] it (fun i h => h.IsListIter it a i) where
  mem := by simp
  obj := fun i h st b hb => by
    have e : b = it := by simpa using hb
    subst e
    obtain ⟨o, e, c, d⟩ := st
    exact ⟨o, e, fun v z => by rw [d] at z; cases z⟩
  keep := fun i h h' st k => st.at fun o e => k it (by simp) o e
  item := by
    intro X hP hw hK hc i pins s σ H E I hf st hg
    subst hP hw hK
    obtain ⟨xs, x, hq, hx⟩ := hg
    obtain ⟨its, rv, p, hz⟩ := I.list hq
    obtain ⟨u, hu, ru⟩ := rv.get hx
    obtain ⟨f0, f1, f2, f3, f4, f5⟩ := hf it (by simp)
    refine wpAny_pyNext_list_item st p.isList (x := u) (by simpa using hu) fun h' st' sb => ?_
    have I1 : Inv X pins σ H { s with heap := h' } := I.turned (t' := s.toks) (fun b o hb e => (sb.2 b hb).trans e) f0 f1 f3 f4 f5
    obtain ⟨o, e, c, d⟩ := id st'
    exact ⟨u, rfl, go_of (s := { s with heap := h' }) e c d (by decide) ⟨x, H, I1, ru, ⟨rfl, fun ys hy => by rw [I.list_inj hy hq]; exact hx⟩, st', fun b hb => (hf b hb).1⟩⟩
  done := by
    intro X hP hw hK hc i pins s σ H E I hf st hg
    subst hP hw hK
    obtain ⟨xs, hq, hx⟩ := hg
    obtain ⟨its, rv, p, hz⟩ := I.list hq
    obtain ⟨f0, f1, f2, f3, f4, f5⟩ := hf it (by simp)
    have hl := rv.length
    exact wpAny_pyNext_list_end (I.ok.hd hc) st p.isList (by simp; omega) fun h' eb => ⟨rfl, I.turned (t' := s.toks) (fun b o hb e => eb b o hb e) f0 f1 f3 f4 f5⟩
  self := fun _ _ _ _ _ st h => wpAny_pyIter_listiter st h
theorem turn_range {P : Program} {w : World} {K : PySem.W.Frag} {tg : Expr} (it : Addr) (lo : Int) (n : Nat) : Turn P w K tg (Itr lo n) [it] it (fun i h => IsRangeIter h it (lo + (i : Nat) * 1) ((n : Int) - (i : Nat)) 1) where
  mem := by simp
  obj := fun i h st b hb => by
    have e : b = it := by simpa using hb
    subst e
    exact ⟨_, st, fun v z => by
      have z' : Data.fields _ = Data.cell v := z
      cases z'⟩
  keep := fun i h h' st k => k it (by simp) _ st
  item := by
    intro X hP hw hK hc i pins s σ H E I hf st hg
    subst hP hw hK
    obtain ⟨f0, f1, f2, f3, f4, f5⟩ := hf it (by simp)
    have W := Walks.range (prog := X.prog) (w := X.w) (I.ok.hd hc) it lo 1 n
    refine W.item i s _ _ hg st fun v h' tk hv st' kk => ?_
    obtain ⟨t, rfl⟩ := hv
    have I1 : Inv X pins σ H { s with heap := h', toks := tk } := I.turned (fun b o hb e => kk b o (by simpa using hb) e) f0 f1 f3 f4 f5
    refine ⟨_, rfl, go_of (s := { s with heap := h', toks := tk }) (n := "range_iterator") st' rfl rfl (by decide) ⟨.int (lo + i), H, I1, ⟨t, ?_⟩, ⟨rfl, rfl⟩, st', fun b hb => (hf b hb).1⟩⟩
    rw [Int.mul_one]
  done := by
    intro X hP hw hK hc i pins s σ H E I hf st hg
    subst hP hw hK
    obtain ⟨f0, f1, f2, f3, f4, f5⟩ := hf it (by simp)
    exact wpAny_pyNext_range_end (I.ok.hd hc) st (by have : n ≤ i := hg; omega) fun h' eb => ⟨rfl, I.turned (t' := s.toks) (fun b o hb e => eb b o hb e) f0 f1 f3 f4 f5⟩
  self := fun _ _ _ _ _ st h => wpAny_pyIter_rangeiter st h
end L2

namespace L2
open PySem PySem.Spec PyProof.Rows
section
variable {X : Cx} {tg : Expr}
def iList (K : PySem.W.Frag) (tl : TE) : TI := fun σ H R => tl σ H fun x H1 => ∃ a, x = .ref a ∧ (∃ xs, SqL K H1 a xs) ∧ R (Itl K a) H1
theorem pi_list {l : Expr} {tl : TE} (hl : PE X l tl) : PI X tg l (iList X.K tl) := by
  intro pins s σ H R I h
  refine thn (hl pins s σ H _ I h) fun v s1 ⟨x, H1, I1, r1, q1⟩ => ?_
  obtain ⟨a, e, ⟨xs, hq⟩, q⟩ := q1
  subst e
  cases r1
  obtain ⟨its, rv, p, hz⟩ := I1.list hq
  refine wpAny_pyIter_list p.isList ?_
  refine ⟨s1.heap.objs.size, [s1.heap.objs.size], _, _, H1, rfl, I1.kept (t' := s1.toks) fun b o e => Heap.get?_push_of_some _ e, turn_list a _, ⟨_, Heap.get?_push_size _ rfl, rfl, rfl⟩, fun b hb => ?_, q⟩
  have e : b = s1.heap.objs.size := by simpa using hb
  subst e
  exact I1.fpOk (Nat.le_refl _) (I1.hok.fresh (Nat.le_refl _))
/-- a range object just made, walked -/
theorem range_it {pins : List (Addr × Obj)} {σ : St} {H : Hp} {s : Shared} {R : It → Hp → Prop} {E : Value → Shared → Prop} {lo hi : Int} {t u v : Tok} {tk : Nat} (I : Inv X pins σ H s) (h1 : -(2 ^ 62) ≤ lo) (h2 : lo < 2 ^ 62) (h3 : -(2 ^ 62) ≤ hi) (h4 : hi < 2 ^ 62)
    (q : R (Itr lo (hi - lo).toNat) H) : wpAny (model X.prog X.w) X.A (pyIter (.ref s.heap.objs.size)) (PIE X pins σ tg R) E { s with heap := s.heap.push { cls := .type "range", data := .fields #[.int lo t, .int hi u, .int 1 v] }, toks := tk } := by
  refine wpAny_pyIter_range (IsRange.new ..) (small_one h1 h2 h3 h4) ?_
  have I1 : Inv X pins σ H { s with heap := s.heap.push { cls := .type "range", data := .fields #[.int lo t, .int hi u, .int 1 v] }, toks := tk } := I.kept fun b o e => Heap.get?_push_of_some _ e
  refine ⟨(s.heap.push { cls := .type "range", data := .fields #[.int lo t, .int hi u, .int 1 v] }).objs.size, [(s.heap.push { cls := .type "range", data := .fields #[.int lo t, .int hi u, .int 1 v] }).objs.size], _, _, H, rfl,
    I1.kept (t' := tk) fun b o e => Heap.get?_push_of_some _ e, turn_range _ lo (hi - lo).toNat, ?_, fun b hb => ?_, q⟩
  · have e1 : lo + ((0 : Nat) : Int) * 1 = lo := by simp
    have e2 : (((hi - lo).toNat : Nat) : Int) - ((0 : Nat) : Int) = Builtin.Range.rangeSize lo hi 1 := by rw [rangeSize_one]; split <;> omega
    show IsRangeIter _ _ (lo + ((0 : Nat) : Int) * 1) ((((hi - lo).toNat : Nat) : Int) - ((0 : Nat) : Int)) 1
    rw [e1, e2]
    exact Heap.get?_push_size _ rfl
  · have e : b = (s.heap.push { cls := .type "range", data := .fields #[.int lo t, .int hi u, .int 1 v] }).objs.size := by simpa using hb
    subst e
    exact I1.fpOk (Nat.le_refl _) (I1.hok.fresh (Nat.le_refl _))
def iRng1 (ta : TA) : TI := fun σ H R => ta σ H fun vs H1 => ∃ j : Int, vs = [.int j] ∧ -(2 ^ 62) ≤ j ∧ j < 2 ^ 62 ∧ R (Itr 0 j.toNat) H1
theorem pi_range1 {a : Expr} {ta : TA} {p pos : Pos} (hg : Gl X "range") (hm : X.mg "range" = none) (ha : PA X [a] ta) (hs : starEach [a] X.env = [(false, eval a X.env)] := by rfl) : PI X tg (.Call (.Name "range" p) [a] [] pos) (iRng1 ta) := by
  intro pins s σ H R I h
  refine Call_ (ld_blt I hg hm boot_range (PyProof.Rows.callWith_type1 (thn (ha pos pins s σ H _ I h) fun us s1 ⟨vs, H1, I1, r1, q1⟩ => ?_) hs rfl))
  obtain ⟨j, e, q1, q2, q⟩ := q1
  subst e
  cases r1 with
  | cons r rr =>
    cases rr
    obtain ⟨t, rfl⟩ := r
    exact call_range_1 (range_it I1 (by omega) (by omega) q1 q2 (by simpa using q))
/-! ### for -/
/-- W: the invariant by the turn and a measure; N: what the body is to reach -/
def tFor (wi : TI) (g : TG) (tb : TS) : TS := fun D σ H => wi σ H fun J H1 => ∃ W : Nat → Nat → St → Hp → Prop, (∃ m, W 0 m σ H1) ∧ ∀ i m σ H, W i m σ H →
  (J.stop i H ∧ D.nx σ H) ∨ (J.go i H ∧ ∃ N : St → Hp → Prop, (∀ σ' H', N σ' H' → ∃ m', m' < m ∧ W (i + 1) m' σ' H') ∧ ∀ x H', J.yld i H x H' → g x σ H' fun σ2 H2 => tb { D with nx := N, ct := N, bk := D.nx } σ2 H2)
/-- the records at fp as they stand -/
def pinsAt (fp : List Addr) (h : Heap) : List (Addr × Obj) := fp.filterMap fun b => (h.get? b).map fun o => (b, o)
theorem mem_pinsAt {fp : List Addr} {h : Heap} {b : Addr} {o : Obj} (hb : b ∈ fp) (e : h.get? b = some o) : (b, o) ∈ pinsAt fp h := List.mem_filterMap.mpr ⟨b, hb, by rw [e]; rfl⟩
theorem of_pinsAt {fp : List Addr} {h : Heap} {p : Addr × Obj} (hp : p ∈ pinsAt fp h) : p.1 ∈ fp ∧ h.get? p.1 = some p.2 := by
  obtain ⟨b, hb, e⟩ := List.mem_filterMap.mp hp
  cases q : h.get? b with
  | none => rw [q] at e; cases e
  | some o =>
    rw [q] at e
    have e' : (b, o) = p := Option.some.inj e
    subst e'
    exact ⟨hb, q⟩
theorem Inv.pinned {pins : List (Addr × Obj)} {σ : St} {H : Hp} {s : Shared} {fp : List Addr} (I : Inv X pins σ H s) (hf : ∀ b ∈ fp, FpOk X pins H b) (ho : ∀ b ∈ fp, ∃ o, s.heap.get? b = some o ∧ ∀ v, o.data ≠ .cell v) : Inv X (pins ++ pinsAt fp s.heap) σ H s :=
  I.pins_of fun p hp => (List.mem_append.mp hp).elim (fun z => I.pin p (List.mem_append_right _ z)) fun z => by
    obtain ⟨hb, e⟩ := of_pinsAt z
    obtain ⟨f0, f1, f2, _⟩ := hf p.1 hb
    obtain ⟨o, e', d⟩ := ho p.1 hb
    rw [e] at e'; cases e'
    exact ⟨e, f0, f1, f2, d⟩
theorem Inv.unpinned {pins pl : List (Addr × Obj)} {σ : St} {H : Hp} {s : Shared} (I : Inv X (pins ++ pl) σ H s) : Inv X pins σ H s := I.pins_of fun p hp => I.pin p (List.mem_append_right _ (List.mem_append_left _ hp))
theorem ps_for {iter : Expr} {body : List Stmt} {wi : TI} {g : TG} {tb : TS} {pos : Pos} (hp : PassesOwn (model X.prog X.w) X.A X.env X.xe) (hc : X.calm = true) (hi : PI X tg iter wi) (hg : PG X tg g) (hb : PSs X body tb)
    (hs : ∀ x, foldedSetIterable iter X.env x = pure x := by intro _; rfl) : PS X (.For tg iter body [] pos) (tFor wi g tb) := by
  intro pins s σ H D I h
  refine wpAny_For (thn (hi pins s σ H _ I h) fun v s1 h1 => thn h1 fun itv s2 h2 => ?_) hs
  obtain ⟨it, fp, tn, J, H2, e, I2, T, st2, f2, W, ⟨m0, w0⟩, turn⟩ := h2
  subst e
  -- what stays true of the iterator's objects through the loop
  have stat : ∀ {H' : Hp}, (∀ b ∈ fp, H' b = none) → ∀ b ∈ fp, FpOk X pins H' b := fun hn b hb => ⟨hn b hb, (f2 b hb).2⟩
  refine codeAny_forLoop_any (fun n s' => ∃ i σ' H', Inv X pins σ' H' s' ∧ tn i s'.heap ∧ (∀ b ∈ fp, H' b = none) ∧ W i n σ' H') ?_ m0 ⟨0, σ, H2, I2, st2, fun b hb => (f2 b hb).1, w0⟩
  rintro n s3 ⟨i, σ3, H3, I3, st3, fr3, w3⟩
  rcases turn i n σ3 H3 w3 with ⟨stop, qn⟩ | ⟨go, N, hN, step⟩
  · refine wpAny_passesOwn hp (thn (T.done X rfl rfl rfl hc i pins s3 σ3 H3 X.xe I3 (stat fr3) st3 stop) fun r s4 ⟨hr, I4⟩ => ?_)
    subst hr
    exact wpAny_execs_nil ⟨σ3, H3, I4, qn⟩
  · refine wpAny_passesOwn hp (thn (T.item X rfl rfl rfl hc i pins s3 σ3 H3 X.xe I3 (stat fr3) st3 go) fun r s4 ⟨u, hr, h4⟩ => ?_)
    subst hr
    refine wpAny_passesOwn hp (thn h4 fun _ s5 ⟨x, H5, I5, r5, y5, st5, fr5⟩ => ?_)
    have I5' := I5.pinned (stat fr5) (T.obj _ _ st5)
    refine wpAny_passesOwn hp (thn (hg _ s5 σ3 H5 x u _ I5' r5 (step x H5 y5)) fun _ s6 ⟨σ6, H6, I6, q6⟩ => ?_)
    refine wpAny_passesOwn hp (thn (hb _ s6 σ6 H6 _ I6 q6) fun f s7 q7 => ?_)
    have again : ∀ {σ7 : St} {H7 : Hp}, Inv X (pins ++ pinsAt fp s5.heap) σ7 H7 s7 → N σ7 H7 → ∃ m, m < n ∧ ∃ i σ' H', Inv X pins σ' H' s7 ∧ tn i s7.heap ∧ (∀ b ∈ fp, H' b = none) ∧ W i m σ' H' := fun {σ7 H7} I7 n7 => by
      obtain ⟨m', hm, w7⟩ := hN σ7 H7 n7
      refine ⟨m', hm, i + 1, σ7, H7, I7.unpinned, T.keep _ _ _ st5 fun b hb o e => (I7.pin (b, o) (List.mem_append_right _ (List.mem_append_right _ (mem_pinsAt hb e)))).1, fun b hb => ?_, w7⟩
      obtain ⟨o, e, d⟩ := T.obj _ _ st5 b hb
      exact (I7.pin (b, o) (List.mem_append_right _ (List.mem_append_right _ (mem_pinsAt hb e)))).2.1
    cases f with
    | next => obtain ⟨σ7, H7, I7, n7⟩ := q7; exact again I7 n7
    | cont => obtain ⟨σ7, H7, I7, n7⟩ := q7; exact again I7 n7
    | brk => obtain ⟨σ7, H7, I7, q7⟩ := q7; exact ⟨σ7, H7, I7.unpinned, q7⟩
    | ret v => obtain ⟨x7, σ7, H7, I7, r7, q7⟩ := q7; exact ⟨x7, σ7, H7, I7.unpinned, r7, q7⟩
end

/-! ### the forms one uses -/
end L2

namespace L2
open PySem PySem.Spec PyProof.Rows

abbrev R2 := V → V → Hp → VK → Prop
/-- a two-place operation on values: f is binaryOp op, inplaceOp op or compareOp op -/
def OpR (X : Cx) (f : Value → Value → Sem Value) (r : R2) : Prop :=
  ∀ (pins : List (Addr × Obj)) (s : Shared) (σ : St) (H : Hp) (x y : V) (v u : Value) (Q : VK), Inv X pins σ H s → RelV x v → RelV y u → r x y H Q →
    wpAny (model X.prog X.w) X.A (f v u) (EP X pins σ Q) X.xe s
/-- a call of a value that is known (a builtin, a type) with values -/
def CallR (X : Cx) (f : Value) (r : List V → Hp → VK → Prop) : Prop :=
  ∀ (pins : List (Addr × Obj)) (s : Shared) (σ : St) (H : Hp) (xs : List V) (us : List Value) (Q : VK), Inv X pins σ H s → Vals xs us → r xs H Q →
    wpAny (model X.prog X.w) X.A (call f us) (EP X pins σ Q) X.xe s
/-- a value's truth -/
def TruR (X : Cx) (r : V → Hp → (Bool → Hp → Prop) → Prop) : Prop :=
  ∀ (pins : List (Addr × Obj)) (s : Shared) (σ : St) (H : Hp) (x : V) (v : Value) (Q : Bool → Hp → Prop), Inv X pins σ H s → RelV x v → r x H Q →
    wpAny (model X.prog X.w) X.A (truthy v) (TP X pins σ Q) X.xe s

def tOp (r : R2) (ta tb : TE) : TE := fun σ H Q => ta σ H fun x H1 => tb σ H1 fun y H2 => r x y H2 Q
/-- ints in, under C, and a value out -/
def rI (C : Int → Int → Prop) (g : Int → Int → V) : R2 := fun x y H Q => ∃ i j, x = .int i ∧ y = .int j ∧ C i j ∧ Q (g i j) H
def rI0 (g : Int → Int → V) : R2 := fun x y H Q => ∃ i j, x = .int i ∧ y = .int j ∧ Q (g i j) H
section
variable {X : Cx} {a b c : Expr} {ta tb tc : TE} {pos : Pos}

theorem binT (ha : PE X a ta) (hb : PE X b tb) {pins : List (Addr × Obj)} {s : Shared} {σ : St} {H : Hp} {R : V → V → Hp → Prop} (I : Inv X pins σ H s)
    (h : ta σ H fun x H1 => tb σ H1 fun y H2 => R x y H2) {Q : Value → Shared → Prop} {f : Value → Value → Sem Value}
    (hf : ∀ v u s2 x y H2, Inv X pins σ H2 s2 → RelV x v → RelV y u → R x y H2 → wpAny (model X.prog X.w) X.A (f v u) Q X.xe s2) :
    wpAny (model X.prog X.w) X.A (eval a X.env) (fun v s₁ => wpAny (model X.prog X.w) X.A (eval b X.env) (fun u s₂ => wpAny (model X.prog X.w) X.A (f v u) Q X.xe s₂) X.xe s₁) X.xe s := by
  refine thn (ha pins s σ H _ I h) fun v s1 ⟨x, H1, I1, r1, q1⟩ => ?_
  refine thn (hb pins s1 σ H1 _ I1 q1) fun u s2 ⟨y, H2, I2, r2, q2⟩ => ?_
  exact hf v u s2 x y H2 I2 r1 r2 q2

theorem pe_op {op : Operator} {r : R2} (ho : OpR X (binaryOp op) r) (ha : PE X a ta) (hb : PE X b tb) : PE X (.BinOp a op b pos) (tOp r ta tb) := by
  intro pins s σ H Q I h
  exact wpAny_BinOp (binT ha hb I h fun v u s2 x y H2 I2 rx ry q => ho pins s2 σ H2 x y v u Q I2 rx ry q)
/-! ### ints -/
theorem opI {f : Value → Value → Sem Value} {C : Int → Int → Prop} {g : Int → Int → Int}
    (rule : ∀ (i j : Int) (t u : Tok) (s : Shared) (Q : Value → Shared → Prop) (E : Value → Shared → Prop), C i j → Q (.int (g i j) s.toks) { s with toks := s.toks + 1 } → wpAny (model X.prog X.w) X.A (f (.int i t) (.int j u)) Q E s) :
    OpR X f (rI C fun i j => .int (g i j)) := by
  intro pins s σ H x y v u Q I rx ry h
  obtain ⟨i, j, rfl, rfl, hc, q⟩ := h
  obtain ⟨t, rfl⟩ := rx
  obtain ⟨t', rfl⟩ := ry
  exact rule i j t t' s _ _ hc ⟨.int (g i j), H, I.tok _, ⟨_, rfl⟩, q⟩
theorem opI0 {f : Value → Value → Sem Value} {g : Int → Int → Int}
    (rule : ∀ (i j : Int) (t u : Tok) (s : Shared) (Q : Value → Shared → Prop) (E : Value → Shared → Prop), Q (.int (g i j) s.toks) { s with toks := s.toks + 1 } → wpAny (model X.prog X.w) X.A (f (.int i t) (.int j u)) Q E s) :
    OpR X f (rI0 fun i j => .int (g i j)) := by
  intro pins s σ H x y v u Q I rx ry h
  obtain ⟨i, j, rfl, rfl, q⟩ := h
  obtain ⟨t, rfl⟩ := rx
  obtain ⟨t', rfl⟩ := ry
  exact rule i j t t' s _ _ ⟨.int (g i j), H, I.tok _, ⟨_, rfl⟩, q⟩
theorem opB0 {f : Value → Value → Sem Value} {g : Int → Int → Bool}
    (rule : ∀ (i j : Int) (t u : Tok) (s : Shared) (Q : Value → Shared → Prop) (E : Value → Shared → Prop), Q (.bool (g i j)) s → wpAny (model X.prog X.w) X.A (f (.int i t) (.int j u)) Q E s) :
    OpR X f (rI0 fun i j => .bl (g i j)) := by
  intro pins s σ H x y v u Q I rx ry h
  obtain ⟨i, j, rfl, rfl, q⟩ := h
  obtain ⟨t, rfl⟩ := rx
  obtain ⟨t', rfl⟩ := ry
  exact rule i j t t' s _ _ ⟨.bl (g i j), H, I, rfl, q⟩

def CDiv (i j : Int) : Prop := 0 < j ∧ j < 1073741824
def CPow (i j : Int) : Prop := 0 ≤ j ∧ j ≤ 1000000 ∧ i.natAbs < 2 ^ 64
def CMul (i j : Int) : Prop := (-(2 ^ 64) < i ∧ i < 2 ^ 64) ∨ (-(2 ^ 64) < j ∧ j < 2 ^ 64)
theorem CMul.ok {i j : Int} (h : CMul i j) : IntMulOk i j := by
  rcases h with ⟨h1, h2⟩ | ⟨h1, h2⟩
  · exact .of_left (intBits_le_64 h1 h2)
  · exact .of_right (intBits_le_64 h1 h2)
theorem op_add : OpR X (binaryOp .Add) (rI0 fun i j => .int (i + j)) := opI0 fun _ _ _ _ _ _ _ q => add_int q
theorem op_sub : OpR X (binaryOp .Sub) (rI0 fun i j => .int (i - j)) := opI0 fun _ _ _ _ _ _ _ q => sub_int q
/-- // by a positive divisor -/
theorem op_fdiv : OpR X (binaryOp .FloorDiv) (rI CDiv fun i j => .int (i / j)) := opI fun i j _ _ _ _ _ hc q => by
  have h1 : (0 : Int) < j := hc.1
  have h2 : j < 1073741824 := hc.2
  exact floordiv_int (by omega) (by rw [Int.fdiv_eq_ediv_of_nonneg i (by omega)]; exact q) (.inl (PyProof.noPylong_small (by omega)))
/-- % by a positive divisor of any size -/
theorem op_mod : OpR X (binaryOp .Mod) (rI (fun _ j => 0 < j) fun i j => .int (i % j)) := opI fun i j _ _ _ _ _ hc q => by
  have h1 : (0 : Int) < j := hc
  exact mod_int' (by omega) (by rw [Int.fmod_eq_emod_of_nonneg i (by omega)]; exact q)
theorem op_pow : OpR X (binaryOp .Pow) (rI CPow fun i j => .int (i ^ j.toNat)) := opI fun _ _ _ _ _ _ _ hc q => pow_int_small hc.1 hc.2.1 hc.2.2 q
/-! ### bools among ints: n += (a < b) -/
end

/-! ### comparisons -/
section
variable {X : Cx} {a b c : Expr} {ta tb tc : TE} {pos : Pos}
theorem op_lt : OpR X (compareOp .Lt) (rI0 fun i j => .bl (decide (i < j))) := opB0 fun _ _ _ _ _ _ _ q => lt_int q
theorem op_gt : OpR X (compareOp .Gt) (rI0 fun i j => .bl (decide (j < i))) := opB0 fun _ _ _ _ _ _ _ q => gt_int q
/-- two rules for one operation: by cases -/
theorem OpR.or {f : Value → Value → Sem Value} {r r' : R2} (h : OpR X f r) (h' : OpR X f r') : OpR X f (fun x y H Q => r x y H Q ∨ r' x y H Q) := by
  intro pins s σ H x y v u Q I rx ry q
  rcases q with q | q
  · exact h pins s σ H x y v u Q I rx ry q
  · exact h' pins s σ H x y v u Q I rx ry q

theorem nomark (b : Expr) {op : CmpOp} (h : op ≠ .In := by decide) (h2 : op ≠ .NotIn := by decide) : behindInMarks op b = false := by
  have e1 : (op == CmpOp.In) = false := by cases op <;> first | rfl | exact absurd rfl h
  have e2 : (op == CmpOp.NotIn) = false := by cases op <;> first | rfl | exact absurd rfl h2
  cases b <;> simp [behindInMarks, e1, e2]
/-- a reading of a value as a test -/
def tTest (t : TE) : TT := fun σ H Q => t σ H fun x H' => ∃ k, x = .bl k ∧ Q k H'
theorem pt_cmpR {op : CmpOp} {r : R2} (ho : OpR X (compareOp op) r) (ha : PE X a ta) (hb : PE X b tb) (hm : behindInMarks op b = false) : PT X (.Compare a [op] [b] pos) (tTest (tOp r ta tb)) := by
  intro pins s σ H Q I h
  refine wpAny_isTrue_Compare1 (thn (ha pins s σ H _ I h) fun v s1 ⟨x, H1, I1, r1, q1⟩ => thn (hb pins s1 σ H1 _ I1 q1) fun u s2 ⟨y, H2, I2, r2, q2⟩ =>
    thn (ho pins s2 σ H2 x y v u _ I2 r1 r2 q2) fun c s3 ⟨z, H3, I3, r3, k, e, q3⟩ => ?_) hm
  subst e
  cases r3
  exact wpAny_truthy_bool ⟨H3, I3, q3⟩
/-! ### truth -/
/-- a value's truth by the abstract heap -/
def TruV (K : PySem.W.Frag) (x : V) (H : Hp) (k : Bool) : Prop :=
  match x with
  | .non => k = false
  | .bl b => k = b
  | .int i => k = (i != 0)
  | .str y => y.length ≤ sizeLine ∧ k = ((y.length : Int) != 0)
  | .byt y => y.size ≤ sizeLine ∧ k = ((y.size : Int) != 0)
  | .ref p => (∃ xs, SqL K H p xs ∧ k = !xs.isEmpty) ∨ (∃ xs, SqT K H p xs ∧ k = !xs.isEmpty) ∨ ∃ kvs, H p = some (.dK kvs) ∧ k = !kvs.isEmpty
  | _ => False
theorem isEmpty_kv {κ : Type} {kvs : List (κ × V)} {vs : List (κ × Value)} (r : KV kvs vs) : (!vs.isEmpty) = !kvs.isEmpty := by
  cases r <;> rfl
theorem isEmpty_of {xs : List V} {its : List Value} (r : Vals xs its) : (!its.toArray.isEmpty) = !xs.isEmpty := by
  cases r <;> simp
theorem line63 : (sizeLine : Nat) < 2 ^ 63 := by rw [sizeLine_eq]; decide
theorem tru_ok : TruR X (fun x H Q => ∃ k, TruV X.K x H k ∧ Q k H) := by
  intro pins s σ H x v Q I rx h
  obtain ⟨k, e, q⟩ := h
  have hl := line63
  have hs : sizeLine = 16777216 := sizeLine_eq
  cases x with
  | non =>
    cases rx
    have e' : k = false := e
    subst e'
    exact truthy_none ⟨H, I, q⟩
  | bl b =>
    cases rx
    have e' : k = b := e
    subst e'
    exact wpAny_truthy_bool ⟨H, I, q⟩
  | int i =>
    obtain ⟨t, rfl⟩ := rx
    have e' : k = (i != 0) := e
    subst e'
    exact PySem.P.truthy_int ⟨H, I, q⟩
  | str y =>
    obtain ⟨t, rfl⟩ := rx
    obtain ⟨hy, e'⟩ : y.length ≤ sizeLine ∧ k = ((y.length : Int) != 0) := e
    subst e'
    exact PySem.P.truthy_str (by omega) ⟨H, I.tok _, q⟩
  | byt y =>
    obtain ⟨t, rfl⟩ := rx
    obtain ⟨hy, e'⟩ : y.size ≤ sizeLine ∧ k = ((y.size : Int) != 0) := e
    subst e'
    exact PySem.W.truthy_bytes (by omega) ⟨H, I.tok _, q⟩
  | ref p =>
    cases rx
    have e' : (∃ xs, SqL X.K H p xs ∧ k = !xs.isEmpty) ∨ (∃ xs, SqT X.K H p xs ∧ k = !xs.isEmpty) ∨ ∃ kvs, H p = some (.dK kvs) ∧ k = !kvs.isEmpty := e
    rcases e' with ⟨xs, hx, e'⟩ | ⟨xs, hx, e'⟩ | ⟨kvs, hx, e'⟩
    · subst e'
      obtain ⟨its, r, pl, hz⟩ := I.list hx
      have hlen := r.length
      exact wpAny_truthy_list pl.isList (by simp only [List.size_toArray]; omega) ⟨H, I.tok _, by rw [isEmpty_of r]; exact q⟩
    · subst e'
      obtain ⟨its, r, pl, hz⟩ := I.tuple hx
      have hlen := r.length
      exact truthy_tuple pl (by simp only [List.size_toArray]; omega) ⟨H, I.tok _, by rw [isEmpty_of r]; exact q⟩
    · subst e'
      obtain ⟨hz, hS, vs, r, m⟩ : kvs.length ≤ sizeLine ∧ (p == sysModules) = false ∧ ∃ vs, KV kvs vs ∧ s.heap.DictOf (mixKind X.prog X.w) p vs := I.hok p _ hx
      have hlen : kvs.length = vs.length := Paired.length r
      exact wpAny_truthy_dict hS m (by omega) ⟨H, I.tok _, by rw [isEmpty_kv r]; exact q⟩
  | _ => exact (show False from e).elim
/-- any expression whose test is its value's truth (a name, a call, a subscript, a field ..: he by fun _ => rfl) -/
theorem pt_truth (ha : PE X a ta) (he : ∀ whole, isTrue a X.env whole = (do let v ← whole; standAt a.pos; holding [v] (truthy v))) :
    PT X a (fun σ H Q => ta σ H fun x H' => ∃ k, TruV X.K x H' k ∧ Q k H') := by
  intro pins s σ H Q I h
  exact isTrue_plain (thn (ha pins s σ H _ I h) fun v s1 ⟨x, H1, I1, r1, q1⟩ => tru_ok pins s1 σ H1 x v Q I1 r1 q1) (he _)

/-! ### strs and bytes -/
/-! ### scalar builtins, by CallR -/
theorem vals1 {x : V} {us : List Value} (r : Vals [x] us) : ∃ u, us = [u] ∧ RelV x u := by
  cases r with
  | cons r1 r2 => cases r2; exact ⟨_, rfl, r1⟩
theorem vals2 {x y : V} {us : List Value} (r : Vals [x, y] us) : ∃ u w', us = [u, w'] ∧ RelV x u ∧ RelV y w' := by
  cases r with
  | cons r1 r2 =>
    cases r2 with
    | cons r3 r4 => cases r4; exact ⟨_, _, rfl, r1, r3⟩
theorem call_max2 (hc : X.calm = true) : CallR X (.builtin "max") (fun xs H Q => ∃ i j, xs = [.int i, .int j] ∧ Q (.int (if j > i then j else i)) H) := by
  intro pins s σ H xs us Q I r h
  obtain ⟨i, j, rfl, q⟩ := h
  obtain ⟨u, w', rfl, ⟨t, rfl⟩, ⟨t', rfl⟩⟩ := vals2 r
  refine max_two_ints (I.ok.hd hc) fun h' tk k => ⟨_, H, I.kept k, ?_, q⟩
  by_cases hj : j > i
  · rw [if_pos hj, if_pos hj]; exact ⟨_, rfl⟩
  · rw [if_neg hj, if_neg hj]; exact ⟨_, rfl⟩
end
end L2

namespace L2
open PySem PySem.Spec PyProof.Rows

/-! ### an instance, its attributes a map -/
structure ObjM (h : Heap) (x dx C : Addr) (mA : Str → Option Value) : Prop where
  obj : h.get? x = some (PySem.W.instObj C dx)
  ns : h.Ns1 dx mA
  ne : dx ≠ x

theorem lookIn_ns {h : Heap} {dx : Addr} {mA : Str → Option Value} (n : h.Ns1 dx mA) : ∃ od, h.get? dx = some od ∧ ∀ name, PySem.W.lookIn name od = some (mA name) := by
  obtain ⟨o, es, ep, ho, hd, hk, _, hm⟩ := n
  refine ⟨o, ho, fun name => ?_⟩
  have e := hm name
  unfold nsFind findBy at e
  rw [← Array.find?_toList] at e
  unfold PySem.W.lookIn
  rw [hd]
  dsimp only
  split
  · rename_i y q
    rw [q] at e
    exact congrArg some e
  · rename_i q
    rw [q] at e
    have a : es.toList.any (·.refKey) = false := by
      rw [List.any_eq_false]
      intro y hy
      obtain ⟨z, t, hkey⟩ := hk y (Array.mem_toList_iff.mp hy)
      simp [DictEntry.refKey, hkey]
    have a' : ¬ es.toList.any (·.refKey) = true := by rw [a]; exact Bool.false_ne_true
    rw [if_neg a']
    exact congrArg some e

theorem ObjM.look {h : Heap} {x dx C : Addr} {mA : Str → Option Value} (I : ObjM h x dx C mA) : ∃ od, PySem.W.InstAt h x (PySem.W.instObj C dx) C (some od) ∧ ∀ name, PySem.W.lookIn name od = some (mA name) :=
  let ⟨od, ho, hl⟩ := lookIn_ns I.ns
  ⟨od, ⟨I.obj, rfl, rfl, ho⟩, hl⟩

section
variable {prog : Program} {w : World} {A : Around} {E : Value → Shared → Prop} {s : Shared} {K : PySem.W.Frag} {x dx C f : Addr} {mA : Str → Option Value} {name : Str} {v : Value}

theorem get_map {expr : Bool} {Q : Value → Shared → Prop} (X : K.In s.heap) (I : ObjM s.heap x dx C mA) (hg : PySem.W.plainGet K C name = true) (hh : PySem.W.hasDictIn K C = true)
    (ha : PySem.W.findIn K (.ref C) name = some none) (hv : mA name = some v) (hv' : PySem.W.handedIn v = true) (h : Q v { s with toks := s.toks + 1 }) :
    wpAny (model prog w) A (getAttr (.ref x) name expr) Q E s := by
  obtain ⟨od, J, hl⟩ := I.look
  exact PySem.W.get_value X J (PySem.W.plainGet_of hg).1 (PySem.W.findObj_own hh ha rfl (by rw [hl, hv])) hv' h

theorem get_meth {pl : Sem Bool} {Q : Value × List Value → Shared → Prop} (X : K.In s.heap) (I : ObjM s.heap x dx C mA) (hg : PySem.W.plainGet K C name = true)
    (hf : PySem.W.findIn K (.ref C) name = some (some (.ref f))) (ht : PySem.W.isFn K (.ref f) = true) (hv : mA name = none) (h : Q (.ref f, [.ref x]) s) :
    wpAny (model prog w) A (getMethod (.ref x) name pl) Q E s := by
  obtain ⟨od, J, hl⟩ := I.look
  exact PySem.W.method_fn X J (PySem.W.plainGet_of hg).1 (PySem.W.plainGet_of hg).2 hf (beq_iff_eq.mp ht) (by show (PySem.W.lookIn name od).map (·.isSome) = some false; rw [hl, hv]; rfl) h

theorem set_map {ns : List Str} {Q : Unit → Shared → Prop} (X : K.In s.heap) (I : ObjM s.heap x dx C mA)
    (hs : PySem.W.findIn K (.ref C) "__setattr__" = some (some (.builtin "object.__setattr__"))) (hp : PySem.W.plainOver K C = true) (ht : PySem.W.takerIn K C name = some none) (hh : PySem.W.hasDictIn K C = true)
    (hw : PySem.Within mA ns) (hsz : ns.length ≤ sizeLine)
    (h : ∀ h', ObjM h' x dx C (fun y => if y = name then some v else mA y) → Heap.SameBut dx s.heap h' → Q () { s with heap := h', toks := s.toks + 2 }) :
    wpAny (model prog w) A (setAttr (.ref x) name v) Q E s := by
  obtain ⟨od, J, hl⟩ := I.look
  refine PySem.W.set_plain X J hs (PySem.W.osa_open (s := { s with toks := s.toks + 1 }) (r := none) X J hp ht fun b => ?_)
  obtain ⟨cd, hc, hd'⟩ := PySem.W.any_some hh
  have hx : s.heap.get? x = some ⟨.ref C, some dx, .plain, #[]⟩ := I.obj
  refine wpAny_bind (wpAny_pure (wpAny_bind (wpAny_bind (wpAny_loadPart hx (wpAny_bind (PySem.W.Looks.here (s := { s with toks := s.toks + 1 }) (PySem.W.looks_clsIn X hc) ?_))))))
  rw [hd']
  refine wpAny_pure (a := some dx) (wpAny_bind (wpAny_pure (wpAny_bind ?_)))
  refine wpAny_nsSet1 (s := { s with toks := s.toks + 1 }) I.ns fun h' hn2 hs2 => ?_
  obtain ⟨oD, esD, epD, hoD, hdD, hcD⟩ := hn2.count (PySem.Within.cons name v hw)
  refine wpAny_bind (wpAny_lookBehind hoD (by rw [hdD]; exact pastItsLine_dict (Nat.le_trans hcD (by rw [List.length_cons]; omega))) ?_)
  exact wpAny_pure (h _ ⟨(hs2.2 _ (Ne.symm I.ne)).trans I.obj, hn2, I.ne⟩ hs2)

/-- C(..): the dict at the heap's end, the instance behind it; then its __init__ -/
theorem make_map {R : Result → Shared → Prop} {vs : List Value} {kw : List (Str × Value)} (X : K.In s.heap) (hm : PySem.W.makesIn K C = true)
    (hi : PySem.W.findIn K (.ref C) "__init__" = some (some (.ref f))) (hf : PySem.W.typeIn K (.ref f) = some (.type "function"))
    (h : codeAny (model prog w) (A.under (.builtin "type.__call__" ⟨.ref C :: vs, kw⟩)) (.call (.ref f) ⟨.ref (s.heap.objs.size + 1) :: vs, kw⟩) (PySem.W.InitBack (s.heap.objs.size + 1) R)
      { s with heap := (s.heap.push PySem.W.emptyDict).push (PySem.W.instObj C s.heap.objs.size) }) :
    codeAny (model prog w) A (.call (.ref C) ⟨vs, kw⟩) R s := by
  obtain ⟨hh, g, d, t, os⟩ := s
  exact PySem.W.make_core (PySem.W.makes_of X hm) (PySem.W.looks_findIn X hi) (fun self => PySem.W.bind_fn X self hf) (.inl rfl) h
/-- C() where there is no __init__ but object's -/
theorem make_map0 {R : Result → Shared → Prop} (X : K.In s.heap) (hm : PySem.W.makesIn K C = true)
    (hi : PySem.W.findIn K (.ref C) "__init__" = some (some (.builtin "object.__init__")))
    (hb : ∀ self, PySem.W.Looks (model prog w) s.heap (bindSpecial (.builtin "object.__init__") self) (.builtin "object.__init__", [self]))
    (h : codeAny (model prog w) (A.under (.builtin "type.__call__" ⟨[.ref C], []⟩)) (.call (.builtin "object.__init__") ⟨[.ref (s.heap.objs.size + 1)], []⟩) (PySem.W.InitBack (s.heap.objs.size + 1) R)
      { s with heap := (s.heap.push PySem.W.emptyDict).push (PySem.W.instObj C s.heap.objs.size) }) :
    codeAny (model prog w) A (.call (.ref C) ⟨[], []⟩) R s := by
  obtain ⟨hh, g, d, t, os⟩ := s
  exact PySem.W.make_core (PySem.W.makes_of X hm) (PySem.W.looks_findIn X hi) hb (.inr ⟨rfl, rfl⟩) h
end

/-! ### the attributes as a list of pairs -/
def putF (f : Str) (v : V) : List (Str × V) → List (Str × V)
  | [] => [(f, v)]
  | (g, x) :: r => if g = f then (g, v) :: r else (g, x) :: putF f v r
theorem lookup_putF (f g : Str) (v : V) : ∀ fs : List (Str × V), (putF f v fs).lookup g = if g = f then some v else fs.lookup g
  | [] => by
    show List.lookup g [(f, v)] = _
    by_cases h : g = f
    · have hb : (g == f) = true := beq_iff_eq.mpr h
      simp only [List.lookup, hb, if_pos h]
    · have hb : (g == f) = false := beq_eq_false_iff_ne.mpr h
      simp only [List.lookup, hb, if_neg h]
  | (k, x) :: r => by
    have ih := lookup_putF f g v r
    rw [show putF f v ((k, x) :: r) = (if k = f then (k, v) :: r else (k, x) :: putF f v r) from rfl]
    by_cases hk : k = f
    · rw [if_pos hk]
      by_cases h : g = k
      · have hb : (g == k) = true := beq_iff_eq.mpr h
        simp only [List.lookup, hb, if_pos (h.trans hk)]
      · have hb : (g == k) = false := beq_eq_false_iff_ne.mpr h
        simp only [List.lookup, hb, if_neg (fun e : g = f => h (e.trans hk.symm))]
    · rw [if_neg hk]
      by_cases h : g = k
      · have hb : (g == k) = true := beq_iff_eq.mpr h
        simp only [List.lookup, hb, if_neg (fun e : g = f => hk (h.symm.trans e))]
      · have hb : (g == k) = false := beq_eq_false_iff_ne.mpr h
        simp only [List.lookup, hb]
        exact ih
theorem keys_putF (f : Str) (v : V) : ∀ fs : List (Str × V), f ∈ (putF f v fs).map (·.1) ∧ ∀ g, g ∈ fs.map (·.1) → g ∈ (putF f v fs).map (·.1)
  | [] => ⟨by simp [putF], fun g h => by simp at h⟩
  | (k, x) :: r => by
    obtain ⟨i1, i2⟩ := keys_putF f v r
    rw [show putF f v ((k, x) :: r) = (if k = f then (k, v) :: r else (k, x) :: putF f v r) from rfl]
    by_cases hk : k = f
    · rw [if_pos hk]
      subst hk
      exact ⟨by simp, fun g h => by simpa using h⟩
    · rw [if_neg hk]
      refine ⟨?_, fun g h => ?_⟩
      · rw [List.map_cons]
        exact List.mem_cons_of_mem _ i1
      · rw [List.map_cons] at h ⊢
        rcases List.mem_cons.mp h with e | e
        · exact List.mem_cons.mpr (.inl e)
        · exact List.mem_cons_of_mem _ (i2 g e)
theorem length_putF (f : Str) (v : V) : ∀ fs : List (Str × V), (putF f v fs).length ≤ fs.length + 1
  | [] => by simp [putF]
  | (k, x) :: r => by
    have ih := length_putF f v r
    rw [show putF f v ((k, x) :: r) = (if k = f then (k, v) :: r else (k, x) :: putF f v r) from rfl]
    by_cases hk : k = f
    · rw [if_pos hk, List.length_cons, List.length_cons]; omega
    · rw [if_neg hk, List.length_cons, List.length_cons]; omega

theorem RelO.some_of {v : V} {o : Option Value} (r : RelO (some v) o) : ∃ u, o = some u ∧ RelV v u := by
  cases o with
  | none => exact (show False from r).elim
  | some u => exact ⟨u, rfl, r⟩
theorem RelO.none_of {o : Option Value} (r : RelO none o) : o = none := by
  cases o with
  | none => rfl
  | some u => exact (show False from r).elim
theorem handed_of {v : V} {u : Value} (r : RelV v u) : PySem.W.handedIn u = true := by
  cases v with
  | non => cases (show u = Value.none from r); rfl
  | bl b => cases (show u = Value.bool b from r); rfl
  | int i => obtain ⟨t, e⟩ := (show ∃ t, u = Value.int i t from r); cases e; rfl
  | str x => obtain ⟨t, e⟩ := (show ∃ t, u = Value.str x t from r); cases e; rfl
  | byt b => obtain ⟨t, e⟩ := (show ∃ t, u = Value.bytes b t from r); cases e; rfl
  | flt b => obtain ⟨t, e⟩ := (show ∃ t, u = Value.float b t from r); cases e; rfl
  | ref a => cases (show u = Value.ref a from r); rfl
  | ty n => cases (show u = Value.type n from r); rfl

section
variable {P : Program} {w : World} {H H' : Hp} {h h' : Heap} {a C dx : Addr} {fs fs' : List (Str × V)}
theorem ins_get (hok : HOk P w H h) (e : H a = some (.ins C dx fs)) : ∃ mA, ObjM h a dx C mA ∧ (∀ f, RelO (fs.lookup f) (mA f)) ∧ PySem.Within mA (fs.map (·.1)) ∧ fs.length ≤ 1000 ∧ H dx = some (.own a) := by
  obtain ⟨d, z, ne, ob, mA, n, r, q⟩ := (show ObjOk P w H h a (.ins C dx fs) from hok a _ e)
  exact ⟨mA, ⟨ob, n, ne⟩, r, q, z, d⟩
end

/-! ### what of the text a class must have -/
structure Cls (K : PySem.W.Frag) (C : Addr) : Prop where
  pg : PySem.W.plainGet K C Str.empty = true
  hd : PySem.W.hasDictIn K C = true
  po : PySem.W.plainOver K C = true
  sa : PySem.W.findIn K (.ref C) "__setattr__" = some (some (.builtin "object.__setattr__"))
theorem Cls.get {K : PySem.W.Frag} {C : Addr} (c : Cls K C) (f : Str) : PySem.W.plainGet K C f = true := c.pg
/-- no class of it has the name -/
def NoAttr (K : PySem.W.Frag) (C : Addr) (f : Str) : Prop := PySem.W.findIn K (.ref C) f = some none
theorem NoAttr.taker {K : PySem.W.Frag} {C : Addr} {f : Str} (n : NoAttr K C f) : PySem.W.takerIn K C f = some none := by
  unfold PySem.W.takerIn
  rw [show PySem.W.findIn K (.ref C) f = some none from n]
  rfl
/-- a method: a plain def of the class or of one above it -/
structure Meth (K : PySem.W.Frag) (C : Addr) (m : Str) (f : Addr) : Prop where
  at_ : PySem.W.findIn K (.ref C) m = some (some (.ref f))
  fn : PySem.W.isFn K (.ref f) = true
  kp : PySem.W.keepIn K (.ref f) = true

section
variable {X : Cx} {pins : List (Addr × Obj)} {σ : St} {H : Hp} {s : Shared} {a C dx : Addr} {fs : List (Str × V)} {f : Str} {v : V} {A : Around} {E : Value → Shared → Prop}

theorem getattr_ok {b : Bool} {Q : Value → Shared → Prop} (I : Inv X pins σ H s) (e : H a = some (.ins C dx fs)) (c : Cls X.K C) (n : NoAttr X.K C f) (l : fs.lookup f = some v)
    (h : ∀ u s', Inv X pins σ H s' → RelV v u → Q u s') : wpAny (model X.prog X.w) A (getAttr (.ref a) f b) Q E s := by
  obtain ⟨mA, O, r, _, _, _⟩ := ins_get I.hok e
  obtain ⟨u, hu, ru⟩ := RelO.some_of (v := v) (o := mA f) (by rw [← l]; exact r f)
  exact get_map I.kIn O (c.get f) c.hd n hu (handed_of ru) (h u _ (I.tok _) ru)

theorem getmeth_ok {m : Str} {g : Addr} {pl : Sem Bool} {Q : Value × List Value → Shared → Prop} (I : Inv X pins σ H s) (e : H a = some (.ins C dx fs)) (c : Cls X.K C) (k : Meth X.K C m g) (l : fs.lookup m = none)
    (h : Q (.ref g, [.ref a]) s) : wpAny (model X.prog X.w) A (getMethod (.ref a) m pl) Q E s := by
  obtain ⟨mA, O, r, _, _, _⟩ := ins_get I.hok e
  have hn : mA m = none := RelO.none_of (by rw [← l]; exact r m)
  exact get_meth I.kIn O (c.get m) k.at_ k.fn hn h

theorem setattr_ok {y : V} {u : Value} {Q : Unit → Shared → Prop} (I : Inv X pins σ H s) (e : H a = some (.ins C dx fs)) (c : Cls X.K C) (n : NoAttr X.K C f) (hl : fs.length < 1000) (ry : RelV y u)
    (h : ∀ s', Inv X pins σ (upd H a (.ins C dx (putF f y fs))) s' → Q () s') : wpAny (model X.prog X.w) A (setAttr (.ref a) f u) Q E s := by
  obtain ⟨mA, O, r, wi, _, ho⟩ := ins_get I.hok e
  have hz : (fs.map (·.1)).length ≤ sizeLine := by rw [List.length_map, sizeLine_eq]; omega
  refine set_map I.kIn O c.sa c.po n.taker c.hd wi hz fun h' O' sb => h _ ?_
  have hd : ∃ o, h'.get? dx = some o := let ⟨o, _, _, e', _⟩ := O'.ns; ⟨o, e'⟩
  refine I.write (x := a) (e := dx) (by rw [e]; exact True.intro) (.inr ho) (fun b q hb z => (sb.2 b hb).trans z) hd ?_
  refine ⟨by rw [upd_ne O.ne]; exact ho, ?_, O.ne, O'.obj, _, O'.ns, fun g => ?_, fun g hg => ?_⟩
  · have := length_putF f y fs; omega
  · show RelO ((putF f y fs).lookup g) (if g = f then some u else mA g)
    rw [lookup_putF]
    by_cases q : g = f
    · rw [if_pos q, if_pos q]; exact ry
    · rw [if_neg q, if_neg q]; exact r g
  · by_cases q : g = f
    · rw [q]; exact (keys_putF f y fs).1
    · refine (keys_putF f y fs).2 g (wi g fun z => hg ?_)
      show (if g = f then some u else mA g) = none
      rw [if_neg q]; exact z

/-- a new instance, tracked, without attributes -/
theorem Inv.made (I : Inv X pins σ H s) : Inv X pins σ (upd (upd H s.heap.objs.size (.own (s.heap.objs.size + 1))) (s.heap.objs.size + 1) (.ins C s.heap.objs.size []))
    { s with heap := (s.heap.push PySem.W.emptyDict).push (PySem.W.instObj C s.heap.objs.size) } := by
  have e1 : (s.heap.push PySem.W.emptyDict).get? s.heap.objs.size = some PySem.W.emptyDict := Heap.get?_push_size s.heap rfl
  have e2 : ((s.heap.push PySem.W.emptyDict).push (PySem.W.instObj C s.heap.objs.size)).get? (s.heap.objs.size + 1) = some (PySem.W.instObj C s.heap.objs.size) := by
    have := Heap.get?_push_size (s.heap.push PySem.W.emptyDict) (o := PySem.W.instObj C s.heap.objs.size) rfl
    rwa [Heap.size_push] at this
  have e3 : (s.heap.push PySem.W.emptyDict).Ns s.heap.objs.size (fun _ => none) := ⟨PySem.W.emptyDict, #[], _, e1, rfl, (fun e he => absurd he (by simp)), fun _ => rfl⟩
  have I1 := I.laid (a := s.heap.objs.size) (o := .own (s.heap.objs.size + 1)) (h' := s.heap.push PySem.W.emptyDict) (t' := s.toks) (fun b u q => Heap.get?_push_of_some _ q) (Nat.le_refl _) ⟨_, e1⟩
  refine I1.laid (a := s.heap.objs.size + 1) (o := .ins C s.heap.objs.size []) (t' := s.toks) (fun b u q => Heap.get?_push_of_some _ q) (Nat.le_of_eq (Heap.size_push _ _)) ?_
  have ne : s.heap.objs.size ≠ s.heap.objs.size + 1 := Nat.ne_of_lt (Nat.lt_succ_self _)
  refine ⟨by rw [upd_ne ne, upd_same], Nat.zero_le _, ne, e2, fun _ => none, (Heap.Ns1.of_empty e3).at fun o q => Heap.get?_push_of_some _ q, fun _ => True.intro, fun y hy => absurd rfl hy⟩

/-- e.f where nothing but the object is asked: through attributeBase (super) and the last hold -/
theorem attr_of {prog : Program} {w : World} {env : Env} {e : Expr} {f : Str} {pos : Pos} {s : Shared} {Q : Value → Shared → Prop} (hb : attributeBase e f env (eval e env) = eval e env)
    (h : wpAny (model prog w) A (eval e env) (fun o s₁ => wpAny (model prog w) A (getAttr o f true) Q E s₁) E s) : wpAny (model prog w) A (eval (.Attribute e f pos) env) Q E s :=
  Attribute_any_ h (by rw [arm_eval_Attribute, hb])
end

/-! ### readings and rules -/
/-- e.f, an attribute of the instance -/
def tFld (K : PySem.W.Frag) (ta : TE) (f : Str) : TE := fun σ H Q => ta σ H fun x H1 => ∃ a C dx fs v, x = .ref a ∧ H1 a = some (.ins C dx fs) ∧ Cls K C ∧ NoAttr K C f ∧ fs.lookup f = some v ∧ Q v H1
/-- e.f = value -/
def sFld (K : PySem.W.Frag) (ta tv : TE) (f : Str) : TS := fun D σ H => tv σ H fun y H1 => ta σ H1 fun x H2 => ∃ a C dx fs, x = .ref a ∧ H2 a = some (.ins C dx fs) ∧ Cls K C ∧ NoAttr K C f ∧ fs.length < 1000 ∧
  D.nx σ (upd H2 a (.ins C dx (putF f y fs)))
section
variable {X : Cx} {o e value : Expr} {f : Str} {pos pos' tpos : Pos} {ta tv : TE}
theorem pe_fld (he : PE X e ta) (hb : attributeBase e f X.env (eval e X.env) = eval e X.env) : PE X (.Attribute e f pos) (tFld X.K ta f) := by
  intro pins s σ H Q I h
  refine attr_of hb (thn (he pins s σ H _ I h) fun u s1 ⟨x, H1, I1, rx, a, C, dx, fs, v, ex, ea, c, n, l, q⟩ => ?_)
  subst ex
  obtain rfl : u = Value.ref a := rx
  exact getattr_ok I1 ea c n l fun u' s2 I2 ru => ⟨v, H1, I2, ru, q⟩
theorem ps_fld (ha : PE X o ta) (hv : PE X value tv) (hs : swapsWith value (some (.Attribute o f pos')) pos.line X.env = pure false) : PS X (.Assign [.Attribute o f pos'] value pos) (sFld X.K ta tv f) := by
  intro pins s σ H D I h
  refine plainObj_wpAny_Assign_Attribute (thn (hv pins s σ H _ I h) fun u s1 ⟨y, H1, I1, ry, q⟩ => thn (ha pins s1 σ H1 _ I1 q) fun ov s2 ⟨x, H2, I2, rx, a, C, dx, fs, ex, ea, c, n, l, q2⟩ => ?_) hs
  subst ex
  obtain rfl : ov = Value.ref a := rx
  exact setattr_ok I2 ea c n l ry fun s3 I3 => ⟨σ, _, I3, q2⟩
end

/-! ### isinstance -/
section
variable {X : Cx} {pins : List (Addr × Obj)} {σ : St} {H : Hp} {s : Shared} {A : Around} {E : Value → Shared → Prop} {Q : Value → Shared → Prop} {c : Value} {b : Bool}
/-- the type of a value, as the fragment's deciders take it; for an instance its class -/
inductive TyOf (K : PySem.W.Frag) (H : Hp) : V → Value → Prop where
  | non : TyOf K H .non (.type "NoneType")
  | bl (x : Bool) : TyOf K H (.bl x) (.type "bool")
  | int (i : Int) : TyOf K H (.int i) (.type "int")
  | str (x : Str) : TyOf K H (.str x) (.type "str")
  | flt (x : UInt64) : TyOf K H (.flt x) (.type "float")
  | lst {a : Addr} {xs : List V} (e : H a = some (.lst xs)) : TyOf K H (.ref a) (.type "list")
  | frz {a : Addr} {o : Obj} {xs : List V} (e : H a = some (.frz o (.lst xs))) : TyOf K H (.ref a) (.type "list")
  | tup {a : Addr} {xs : List V} (e : H a = some (.tup xs)) : TyOf K H (.ref a) (.type "tuple")
  | dK {a : Addr} {kvs : List (Key × V)} (e : H a = some (.dK kvs)) : TyOf K H (.ref a) (.type "dict")
  | dT {a : Addr} {kvs : List (List Key × V)} (e : H a = some (.dT kvs)) : TyOf K H (.ref a) (.type "dict")
  | ins {a C dx : Addr} {fs : List (Str × V)} (e : H a = some (.ins C dx fs)) (cl : Cls K C) (ha : PySem.W.findIn K (.ref C) "__class__" = some (some (.builtin "object.__class__")))
      (hn : PySem.W.specialIn K (.builtin "object.__class__") "__get__" = some (some (.builtin "getset_descriptor.__get__"))) (htk : PySem.W.takesIn K (.builtin "object.__class__") = some true)
      (hm : PySem.W.mroIn K C (.type "object") = some true) : TyOf K H (.ref a) (.ref C)
/-- isinstance(x, c) for one class c, a built-in or an own one: kitOne's answer -/
theorem isinst_ok {x : V} {u t : Value} (I : Inv X pins σ H s) (rx : RelV x u) (ty : TyOf X.K H x t) (e : PySem.W.kitOne X.K t c = some b) (h : ∀ tk, Q (.bool b) { s with toks := tk }) :
    wpAny (model X.prog X.w) A (call (.builtin "isinstance") [u, c]) Q E s := by
  cases ty with
  | non => cases (show u = Value.none from rx); exact PySem.W.kia_one PySem.W.kitx_none I.kIn True.intro e (fun z => nomatch z) h
  | bl y => cases (show u = Value.bool y from rx); exact PySem.W.kia_one PySem.W.kitx_bool I.kIn True.intro e (fun z => nomatch z) h
  | int i => obtain ⟨t, q⟩ := (show ∃ t, u = Value.int i t from rx); cases q; exact PySem.W.kia_one PySem.W.kitx_int I.kIn True.intro e (fun z => nomatch z) h
  | str y => obtain ⟨t, q⟩ := (show ∃ t, u = Value.str y t from rx); cases q; exact PySem.W.kia_one PySem.W.kitx_str I.kIn True.intro e (fun z => nomatch z) h
  | flt y => obtain ⟨t, q⟩ := (show ∃ t, u = Value.float y t from rx); cases q; exact PySem.W.kia_one PySem.W.kitx_float I.kIn True.intro e (fun z => nomatch z) h
  | @lst a xs ea =>
    cases (show u = Value.ref a from rx)
    obtain ⟨_, _, n, _, h1⟩ := (show ObjOk X.prog X.w H s.heap a (.lst xs) from I.hok a _ ea)
    exact PySem.W.kia_one PySem.W.kitx_list I.kIn ⟨_, h1, rfl⟩ e (fun z => nomatch z) h
  | @frz a ob xs ea =>
    cases (show u = Value.ref a from rx)
    obtain ⟨_, _, _, n, _, h1⟩ := (show ObjOk X.prog X.w H s.heap a (.frz ob (.lst xs)) from I.hok a _ ea)
    exact PySem.W.kia_one PySem.W.kitx_list I.kIn ⟨_, h1, rfl⟩ e (fun z => nomatch z) h
  | @tup a xs ea =>
    cases (show u = Value.ref a from rx)
    obtain ⟨_, _, _, p⟩ := (show ObjOk X.prog X.w H s.heap a (.tup xs) from I.hok a _ ea)
    obtain ⟨o, h1, h2, _⟩ := p
    exact PySem.W.kia_one PySem.W.kitx_tuple I.kIn ⟨o, h1, h2⟩ e (fun z => nomatch z) h
  | @dK a kvs ea =>
    cases (show u = Value.ref a from rx)
    obtain ⟨_, _, vs, _, p⟩ := (show ObjOk X.prog X.w H s.heap a (.dK kvs) from I.hok a _ ea)
    obtain ⟨o, es, ep, h1, h2, _⟩ := p
    exact PySem.W.kia_one PySem.W.kitx_dict I.kIn ⟨o, h1, h2.1⟩ e (fun z => nomatch z) h
  | @dT a kvs ea =>
    cases (show u = Value.ref a from rx)
    obtain ⟨_, _, xs, _, o, es, ep, h1, h2, _⟩ := (show ObjOk X.prog X.w H s.heap a (.dT kvs) from I.hok a _ ea)
    exact PySem.W.kia_one PySem.W.kitx_dict I.kIn ⟨o, h1, h2.1⟩ e (fun z => nomatch z) h
  | @ins a C dx fs ea cl ha hn htk hm =>
    cases (show u = Value.ref a from rx)
    obtain ⟨mA, O, _⟩ := ins_get I.hok ea
    obtain ⟨od, J, _⟩ := O.look
    exact PySem.W.kia_one (PySem.W.kitx_own (cl.get _) cl.hd ha hn htk hm) I.kIn J e (fun z => nomatch z) h
end
end L2

namespace L2
open PySem PySem.Spec PyProof.Rows

/-! ### room -/
structure Room (k : Nat) (A : Around) : Prop where
  hd : A.handled = none
  dp : A.depth + 3 * k + 5 < recursionLimit
  un : A.units + 16 * k + 200 < cLine
theorem Room.mono {j k : Nat} {A : Around} (r : Room k A) (h : j ≤ k) : Room j A := ⟨r.hd, by have := r.dp; omega, by have := r.un; omega⟩
theorem Room.deeper {k : Nat} {A : Around} (r : Room (k + 1) A) (env : Env) : Room k (A.deeper env) :=
  ⟨r.hd, by have := r.dp; show A.depth + 1 + 3 * k + 5 < _; omega, by have := r.un; show A.units + 3 + 16 * k + 200 < _; omega⟩
theorem Room.in1 {k : Nat} {A : Around} (r : Room (k + 1) A) : Room k A.in1 :=
  ⟨r.hd, by have := r.dp; show A.depth + 3 * k + 5 < _; omega, by have := r.un; show A.units + 1 + 16 * k + 200 < _; omega⟩
theorem make_depth {A : Around} {C : Addr} {us : List Value} {kw : List (Str × Value)} : (A.under (.builtin "type.__call__" ⟨.ref C :: us, kw⟩)).depth = A.depth + 1 := by
  first | rfl | simp [Around.under, Code.weight, Code.isCreation, Code.isGuard, Code.isCaller, Code.frames, Code.isFrame, guardIds]
theorem make_units {A : Around} {C : Addr} {us : List Value} {kw : List (Str × Value)} : (A.under (.builtin "type.__call__" ⟨.ref C :: us, kw⟩)).units = A.units + 1 := by
  first | rfl | simp [Around.under, Code.cUnits, Code.frames, Code.isFrame]
theorem Room.make {k : Nat} {A : Around} (r : Room (k + 1) A) (C : Addr) (us : List Value) (kw : List (Str × Value)) : Room k (A.under (.builtin "type.__call__" ⟨.ref C :: us, kw⟩)) :=
  ⟨r.hd, by have := r.dp; rw [make_depth]; omega, by have := r.un; rw [make_units]; omega⟩
theorem Room.depth {k : Nat} {A : Around} (r : Room k A) : A.depth < recursionLimit := by have := r.dp; omega
theorem Room.units {k : Nat} {A : Around} (r : Room k A) : A.units + 64 < cLine := by have := r.un; omega
/-! ### argument lists and displays -/
def tNil : TA := fun _ H Q => Q [] H
def tCons (ta : TE) (tr : TA) : TA := fun σ H Q => ta σ H fun x H1 => tr σ H1 fun xs H2 => Q (x :: xs) H2
section
variable {X : Cx} {e : Expr} {es : List Expr} {te : TE} {t : TA} {pos : Pos}
theorem pa_nil : PA X [] tNil := fun _ _ _ _ H Q I h => Calls.spliced_nil ⟨[], H, I, .nil, h⟩
theorem pa_cons (ha : PE X e te) (hr : PA X es t) (hs : starEach (e :: es) X.env = (false, eval e X.env) :: starEach es X.env := by rfl) : PA X (e :: es) (tCons te t) := by
  intro pos pins s σ H Q I h
  rw [hs]
  show wpAny _ _ (spliced ((false, eval e X.env) :: backTo pos (starEach es X.env))) _ _ s
  refine Calls.spliced_cons (thn (ha pins s σ H _ I h) fun u s1 ⟨x, H1, I1, r1, q1⟩ => ?_)
  exact thn (hr pos pins s1 σ H1 _ I1 q1) fun us s2 ⟨xs, H2, I2, r2, q2⟩ => ⟨x :: xs, H2, I2, .cons r1 r2, q2⟩

/-- a tuple, a list of written items -/
def tTup (t : TA) : TE := fun σ H Q => t σ H fun xs H1 => xs.length ≤ sizeLine ∧ ∀ p, H1 p = none → Q (.ref p) (upd H1 p (.tup xs))
def tLst (t : TA) : TE := fun σ H Q => t σ H fun xs H1 => xs.length ≤ sizeLine ∧ ∀ p, H1 p = none → Q (.ref p) (upd H1 p (.lst xs))
theorem pe_tup {x1} (h : PA X es t) : PE X (.Tuple es x1 pos) (tTup t) := by
  intro pins s σ H Q I hq
  refine wpAny_Tuple_spliced (thn (h pos pins s σ H _ I hq) fun us s1 ⟨xs, H1, I1, r, z, q⟩ => ⟨by rw [← r.length]; exact z, ?_⟩)
  have hf : H1 s1.heap.objs.size = none := I1.hok.fresh (Nat.le_refl _)
  refine ⟨.ref s1.heap.objs.size, upd H1 s1.heap.objs.size (.tup xs), I1.laid (t' := s1.toks) (fun b u e => Heap.get?_push_of_some _ e) (Nat.le_refl _) ?_, rfl, q _ hf⟩
  exact ⟨z, us, r, ⟨_, Heap.get?_push_size _ rfl, rfl, _, rfl⟩⟩
theorem pe_lst (h : PA X es t) : PE X (.List es pos) (tLst t) := by
  intro pins s σ H Q I hq
  refine wpAny_List_spliced (thn (h pos pins s σ H _ I hq) fun us s1 ⟨xs, H1, I1, r, z, q⟩ => ⟨by rw [← r.length]; exact z, ?_⟩)
  have hf : H1 s1.heap.objs.size = none := I1.hok.fresh (Nat.le_refl _)
  refine ⟨.ref s1.heap.objs.size, upd H1 s1.heap.objs.size (.lst xs), I1.laid (t' := s1.toks) (fun b u e => Heap.get?_push_of_some _ e) (Nat.le_refl _) ?_, rfl, q _ hf⟩
  exact ⟨z, us, 0, r, Heap.get?_push_size _ rfl⟩
end

/-! ### what a def promises -/
/-- a def's promise: the bound arguments in the parameters' order, the heap, the wanted end, the wanted exception -/
abbrev Sp := List V → Hp → VK → XK → Prop
/-- how an exception lies behind a call (file 08 gives it): the callers' frames, abstract heap and state ahead of the call, the wish, the exception, the state -/
abbrev CXT := List Env → Hp → Shared → XK → Value → Shared → Prop

/-- the state at a call -/
structure Env0 (P : Program) (w : World) (K : PySem.W.Frag) (mg : Str → Option Value) (base : Heap) (A : Around) (outer : List Env) (s : Shared) (H : Hp) : Prop where
  frames : A.frames = some outer
  mod : Mod K mg base
  bs : ∀ b o, base.get? b = some o → s.heap.get? b = some o ∧ H b = none
  bsz : base.objs.size ≤ s.heap.objs.size
  funs : s.heap.FunFrames base outer
  frf : ∀ b ∈ frs outer, H b = none
  hok : HOk P w H s.heap
  bare : AllBare s.gens
/-- a call's end -/
def CE (outer : List Env) (P : Program) (w : World) (H : Hp) (s : Shared) (Q : VK) (u : Value) (s' : Shared) : Prop :=
  ∃ v H', s'.os = s.os ∧ AllBare s'.gens ∧ Un (frs outer) [] H H' s.heap s'.heap ∧ HOk P w H' s'.heap ∧ RelV v u ∧ Q v H'
def CR (CX : CXT) (outer : List Env) (P : Program) (w : World) (H : Hp) (s : Shared) (Q : VK) (E : XK) (r : Result) (s' : Shared) : Prop :=
  match r with
  | .ok (.ret u) => CE outer P w H s Q u s'
  | .ok _ => False
  | .error e => CX outer H s E e s'
structure FnOk (P : Program) (w : World) (K : PySem.W.Frag) (mg : Str → Option Value) (base : Heap) (CX : CXT) (k : Nat) (f : Addr) (fd : FuncData) (ps : List Str) (sp : Sp) : Prop where
  len : ∀ vs H Q E, sp vs H Q E → vs.length = ps.length
  run : ∀ (A : Around) (outer : List Env) (s : Shared) (H : Hp) (args : Args) (us : List Value) (vs : List V) (Q : VK) (E : XK), Room k A → Env0 P w K mg base A outer s H → BindsTo s fd args (ps.zip us) → Vals vs us → sp vs H Q E →
    codeAny (model P w) A (.call (.ref f) args) (CR CX outer P w H s Q E) s
theorem FnOk.mono {P : Program} {w : World} {K : PySem.W.Frag} {mg : Str → Option Value} {base : Heap} {CX : CXT} {j k : Nat} {f : Addr} {fd : FuncData} {ps : List Str} {sp : Sp} (F : FnOk P w K mg base CX j f fd ps sp) (h : j ≤ k) :
    FnOk P w K mg base CX k f fd ps sp := ⟨F.len, fun A outer s H args us vs Q E hr => F.run A outer s H args us vs Q E (hr.mono h)⟩
theorem Env0.make {P : Program} {w : World} {K : PySem.W.Frag} {mg : Str → Option Value} {base : Heap} {A : Around} {outer : List Env} {s : Shared} {H : Hp} (e : Env0 P w K mg base A outer s H) (C : Addr) (us : List Value) (kw : List (Str × Value)) :
    Env0 P w K mg base (A.under (.builtin "type.__call__" ⟨.ref C :: us, kw⟩)) outer s H := ⟨by first | exact e.frames | (simpa [Around.under, Code.envs, Code.isFrame, pushEnvs] using e.frames), e.mod, e.bs, e.bsz, e.funs, e.frf, e.hok, e.bare⟩
theorem Env0.in1 {P : Program} {w : World} {K : PySem.W.Frag} {mg : Str → Option Value} {base : Heap} {A : Around} {outer : List Env} {s : Shared} {H : Hp} (e : Env0 P w K mg base A outer s H) :
    Env0 P w K mg base A.in1 outer s H := ⟨e.frames, e.mod, e.bs, e.bsz, e.funs, e.frf, e.hok, e.bare⟩

section
variable {X : Cx} {pins : List (Addr × Obj)} {σ : St} {H : Hp} {s s' : Shared}
/-- from a body: what a callee wants -/
theorem Inv.env0 (I : Inv X pins σ H s) : Env0 X.prog X.w X.K X.mg X.base X.A X.stack s H :=
  ⟨I.ok.frames, I.ok.mod, I.bs, Nat.le_trans I.ok.bsz I.sz, I.stack, I.stkFree, I.hok, I.bare⟩
/-- behind a call -/
theorem Inv.after {Q : VK} {u : Value} (I : Inv X pins σ H s) (h : CE X.stack X.prog X.w H s Q u s') : EP X pins σ Q u s' := by
  obtain ⟨v, H', os, bare, un, hok, r, q⟩ := h
  obtain ⟨hh, g, d, t, os'⟩ := s'
  obtain rfl : os' = s.os := os
  exact ⟨v, H', I.call (h' := hh) (g' := g) (d' := d) (t' := t) (ch := []) un hok bare (fun b z => absurd z (by simp)), r, q⟩
end

/-! ### calls -/
/-- f(..): the written arguments, then the defaults dvs; E: what is wanted of an exception -/
def tCall (sp : Sp) (dvs : List V) (E : XK) (t : TA) : TE := fun σ H Q => t σ H fun vs H1 => sp (vs ++ dvs) H1 Q E
/-- C(..): a new instance and its dict, then __init__ -/
def tMake (C : Addr) (sp : Sp) (dvs : List V) (E : XK) (t : TA) : TE := fun σ H Q => t σ H fun vs H1 => ∀ x dx, H1 x = none → H1 dx = none → dx ≠ x →
  sp (.ref x :: (vs ++ dvs)) (upd (upd H1 dx (.own x)) x (.ins C dx [])) (fun v H2 => v = .non ∧ Q (.ref x) H2) E

/-- how the parameters are bound: us the positional arguments, kw the keywords' values by name, ds the defaults that fill up -/
def Binds (K : PySem.W.Frag) (fd : FuncData) (ps : List Str) (ds : List Value) : Prop :=
  ∀ (s : Shared) (us : List Value), K.In s.heap → (us ++ ds).length = ps.length → BindsTo s fd ⟨us, []⟩ (ps.zip (us ++ ds))
/-- every parameter is given -/
theorem Binds.all {K : PySem.W.Frag} {fd : FuncData} {ps : List Str} (h : ∀ us : List Value, us.length = ps.length → bindArgs fd ⟨us, []⟩ = pure (ps.zip us)) : Binds K fd ps [] := fun s us _ hl => by
  rw [List.append_nil] at hl ⊢
  exact .of_eq (h us hl)

/-- an exception of a callee reaches what this body wants of exceptions -/
def Passes (CX : CXT) (X : Cx) (E : XK) : Prop := ∀ (pins : List (Addr × Obj)) (σ : St) (H : Hp) (s : Shared) (e : Value) (s' : Shared), Inv X pins σ H s → CX X.stack H s E e s' → X.xe e s'

section
variable {X : Cx} {CX : CXT} {k : Nat} {f C : Addr} {fd : FuncData} {ps : List Str} {sp : Sp} {dvs : List V} {ds : List Value} {E : XK} {x m : Str} {p pos apos : Pos} {e o : Expr} {es : List Expr} {ta : TE} {t : TA}

/-- the callee runs -/
theorem run_fn {pins : List (Addr × Obj)} {σ : St} {H : Hp} {s : Shared} {Q : VK} {us : List Value} {vs : List V} (F : FnOk X.prog X.w X.K X.mg X.base CX k f fd ps sp) (hr : Room k X.A) (hb : Binds X.K fd ps ds) (hd : Vals dvs ds) (hx : Passes CX X E)
    (I : Inv X pins σ H s) (r : Vals vs us) (h : sp (vs ++ dvs) H Q E) : wpAny (model X.prog X.w) X.A (call (.ref f) us) (EP X pins σ Q) X.xe s := by
  have r2 : Vals (vs ++ dvs) (us ++ ds) := r.append hd
  have hl : (us ++ ds).length = ps.length := by rw [← r2.length]; exact F.len _ _ _ _ h
  refine wpAny_call (codeAny_mono (F.run X.A X.stack s H ⟨us, []⟩ (us ++ ds) (vs ++ dvs) Q E hr I.env0 (hb s us I.kIn hl) r2 h) fun r s' hq => ?_)
  cases r with
  | error e => exact hx pins σ H s e s' I hq
  | ok fl =>
    cases fl with
    | ret u => exact I.after hq
    | next => exact False.elim hq
    | brk => exact False.elim hq
    | cont => exact False.elim hq

theorem pe_call (F : FnOk X.prog X.w X.K X.mg X.base CX k f fd ps sp) (hr : Room k X.A) (hg : Gl X x) (hm : X.mg x = some (.ref f)) (hk : PySem.W.keepIn X.K (.ref f) = true) (hb : Binds X.K fd ps ds) (hd : Vals dvs ds) (hx : Passes CX X E)
    (ha : PA X (e :: es) t) (hdb : (x == ("__debug__" : Str)) = false := by decide) (he : starEach (e :: es) X.env = (false, eval e X.env) :: starEach es X.env := by rfl) (hpl : (backTo pos (starEach es X.env)).any (·.1) = false := by rfl) :
    PE X (.Call (.Name x p) (e :: es) [] pos) (tCall sp dvs E t) := by
  intro pins s σ H Q I h
  refine wpAny_Call_Name_kw (ld_glob I hg hm ?_ hdb)
  refine PySem.W.callWith_K (h₀ := X.base) I.ok.mod.kin hk (thn (ha pos pins s σ H _ I h) fun us s1 ⟨vs, H1, I1, r, q⟩ => ⟨I1.kIn, ?_⟩) he hpl
  exact run_fn F hr hb hd hx I1 r q
/-- what a class must have to be made -/
structure Mk (K : PySem.W.Frag) (C f : Addr) : Prop where
  makes : PySem.W.makesIn K C = true
  init : PySem.W.findIn K (.ref C) "__init__" = some (some (.ref f))
  fn : PySem.W.isFn K (.ref f) = true
  kp : PySem.W.keepIn K (.ref C) = true

theorem run_make {pins : List (Addr × Obj)} {σ : St} {H : Hp} {s : Shared} {Q : VK} {us : List Value} {vs : List V} (M : Mk X.K C f) (F : FnOk X.prog X.w X.K X.mg X.base CX k f fd ps sp) (hr : Room (k + 1) X.A) (hb : Binds X.K fd ps ds) (hd : Vals dvs ds)
    (hx : Passes CX X E) (I : Inv X pins σ H s) (r : Vals vs us)
    (h : ∀ x dx, H x = none → H dx = none → dx ≠ x → sp (.ref x :: (vs ++ dvs)) (upd (upd H dx (.own x)) x (.ins C dx [])) (fun v H2 => v = .non ∧ Q (.ref x) H2) E) :
    wpAny (model X.prog X.w) X.A (call (.ref C) us) (EP X pins σ Q) X.xe s := by
  have hq := h (s.heap.objs.size + 1) s.heap.objs.size (I.hok.fresh (Nat.le_succ _)) (I.hok.fresh (Nat.le_refl _)) (Nat.ne_of_lt (Nat.lt_succ_self _))
  have I2 := Inv.made (C := C) I
  have r2 : Vals (V.ref (s.heap.objs.size + 1) :: (vs ++ dvs)) (Value.ref (s.heap.objs.size + 1) :: (us ++ ds)) := .cons rfl (r.append hd)
  have hl : (Value.ref (s.heap.objs.size + 1) :: us ++ ds).length = ps.length := by
    have e := r2.length
    rw [F.len _ _ _ _ hq] at e
    exact e.symm
  refine wpAny_call (make_map (f := f) I.kIn M.makes M.init (beq_iff_eq.mp M.fn) (codeAny_mono (F.run _ X.stack _ _ ⟨Value.ref (s.heap.objs.size + 1) :: us, []⟩ (Value.ref (s.heap.objs.size + 1) :: (us ++ ds)) _ _ E (hr.make C us [])
    (I2.env0.make C us []) (hb _ (Value.ref (s.heap.objs.size + 1) :: us) I2.kIn hl) r2 hq) fun r s' hq' => ?_))
  cases r with
  | error e => exact hx pins σ _ _ e s' I2 hq'
  | ok fl =>
    cases fl with
    | ret u =>
      obtain ⟨v, H', I3, rv, ev, q3⟩ := I2.after hq'
      subst ev
      exact ⟨rv, ⟨V.ref (s.heap.objs.size + 1), H', I3, rfl, q3⟩⟩
    | next => exact False.elim hq'
    | brk => exact False.elim hq'
    | cont => exact False.elim hq'
theorem pe_make (M : Mk X.K C f) (F : FnOk X.prog X.w X.K X.mg X.base CX k f fd ps sp) (hr : Room (k + 1) X.A) (hg : Gl X x) (hm : X.mg x = some (.ref C)) (hb : Binds X.K fd ps ds) (hd : Vals dvs ds) (hx : Passes CX X E)
    (ha : PA X (e :: es) t) (hdb : (x == ("__debug__" : Str)) = false := by decide) (he : starEach (e :: es) X.env = (false, eval e X.env) :: starEach es X.env := by rfl) (hpl : (backTo pos (starEach es X.env)).any (·.1) = false := by rfl) :
    PE X (.Call (.Name x p) (e :: es) [] pos) (tMake C sp dvs E t) := by
  intro pins s σ H Q I h
  refine wpAny_Call_Name_kw (ld_glob I hg hm ?_ hdb)
  refine PySem.W.callWith_K (h₀ := X.base) I.ok.mod.kin M.kp (thn (ha pos pins s σ H _ I h) fun us s1 ⟨vs, H1, I1, r, q⟩ => ⟨I1.kIn, ?_⟩) he hpl
  exact run_make M F hr hb hd hx I1 r q
end

/-! ### keywords -/
section
variable {X : Cx} {CX : CXT} {k : Nat} {f C : Addr} {fd : FuncData} {ps ks : List Str} {sp : Sp} {E : XK} {x m : Str} {p pos apos kpos : Pos} {e o : Expr} {es : List Expr} {kws : List Keyword} {te ta : TE} {t tk : TA} {nm : Option Str}
variable {g : List Value → List Value → List Value} {gV : List V → List V → List V}
end

/-! ### a def's body keeps its promise -/
/-- names: the parameters first -/
structure FnScope (N P : List Str) (sc : Scope) : Prop where
  kind : sc.kind = .function
  co : sc.isCoroutine = false
  gen : sc.isGenerator = false
  nd : N.Nodup
  pre : N.take P.length = P
  par : ∀ x ∈ P, sc.names.lookup x = some .local ∨ sc.names.lookup x = some .cell
  nofree : ∀ y ∈ sc.names, y.2 ≠ .free

theorem bindL_out {kindOf : Str → Option NameKind} {x : Str} : ∀ {binds : List (Str × Value)} {m : Str → Option Value}, (∀ v, (x, v) ∉ binds) → bindL kindOf binds m x = m x
  | [], _, _ => rfl
  | (n, v) :: r, m, h => by
    unfold bindL
    rw [bindL_out fun w hw => h w (List.mem_cons_of_mem _ hw)]
    split
    · have : x ≠ n := by rintro rfl; exact h v List.mem_cons_self
      simp [this]
    · rfl
theorem bindC_out {kindOf : Str → Option NameKind} {x : Str} : ∀ {binds : List (Str × Value)} {m : Str → Option Value}, (∀ v, (x, v) ∉ binds) → bindC kindOf binds m x = m x
  | [], _, _ => rfl
  | (n, v) :: r, m, h => by
    unfold bindC
    rw [bindC_out fun w hw => h w (List.mem_cons_of_mem _ hw)]
    split
    · rfl
    · have : x ≠ n := by rintro rfl; exact h v List.mem_cons_self
      simp [this]
theorem bindL_get {kindOf : Str → Option NameKind} {x : Str} {v : Value} : ∀ {P : List Str} {vs : List Value} {i : Nat} {m : Str → Option Value}, P.Nodup → P[i]? = some x → vs[i]? = some v → kindOf x = some .local →
    bindL kindOf (P.zip vs) m x = some v
  | [], _, _, _, _, h, _, _ => by simp at h
  | _ :: _, [], _, _, _, _, h, _ => by simp at h
  | p :: P, w :: vs, 0, m, nd, h1, h2, hk => by
    simp at h1 h2; subst h1; subst h2
    show bindL kindOf ((p, w) :: P.zip vs) m p = _
    unfold bindL
    rw [bindL_out fun v hv => (List.nodup_cons.mp nd).1 (List.of_mem_zip hv).1, if_pos hk]
    simp
  | p :: P, w :: vs, i + 1, m, nd, h1, h2, hk => by
    show bindL kindOf ((p, w) :: P.zip vs) m x = _
    unfold bindL
    exact bindL_get (i := i) (List.nodup_cons.mp nd).2 (by simpa using h1) (by simpa using h2) hk
theorem bindC_get {kindOf : Str → Option NameKind} {x : Str} {v : Value} : ∀ {P : List Str} {vs : List Value} {i : Nat} {m : Str → Option Value}, P.Nodup → P[i]? = some x → vs[i]? = some v → kindOf x ≠ some .local →
    bindC kindOf (P.zip vs) m x = some v
  | [], _, _, _, _, h, _, _ => by simp at h
  | _ :: _, [], _, _, _, _, h, _ => by simp at h
  | p :: P, w :: vs, 0, m, nd, h1, h2, hk => by
    simp at h1 h2; subst h1; subst h2
    show bindC kindOf ((p, w) :: P.zip vs) m p = _
    unfold bindC
    rw [bindC_out fun v hv => (List.nodup_cons.mp nd).1 (List.of_mem_zip hv).1, if_neg hk]
    simp
  | p :: P, w :: vs, i + 1, m, nd, h1, h2, hk => by
    show bindC kindOf ((p, w) :: P.zip vs) m x = _
    unfold bindC
    exact bindC_get (i := i) (List.nodup_cons.mp nd).2 (by simpa using h1) (by simpa using h2) hk

/-- the names' values at the entry -/
def start (N : List Str) (vs : List V) : St := vs.map some ++ List.replicate (N.length - vs.length) none

/-- the context of a def's body, at its entry; an exception leaves the frame, then lies as CX says -/
def cxOf (CX : CXT) (P : Program) (w : World) (K : PySem.W.Frag) (mg : Str → Option Value) (base : Heap) (N : List Str) (qual : Str) (scope : Scope) (f : Addr) (cd : Value) (A : Around) (outer : List Env) (s : Shared) (H : Hp) (E : XK) : Cx where
  prog := P
  w := w
  K := K
  mg := mg
  base := base
  A := A.deeper (envOfC qual scope s.heap.objs.size f cd)
  N := N
  s₀ := s
  H₀ := H
  env := envOfC qual scope s.heap.objs.size f cd
  outer := outer
  stack := envOfC qual scope s.heap.objs.size f cd :: outer
  ex := []
  calm := true
  fn := fun _ => true
  pn := []
  xe := fun e s' => wpAny (model P w) (A.deeper (envOfC qual scope s.heap.objs.size f cd)) (leaving (envOfC qual scope s.heap.objs.size f cd) e) (fun _ s'' => CX outer H s E e s'') (fun e' s'' => CX outer H s E e' s'') s'

theorem cell_has {sc : Scope} {n : Nat} {x : Str} (h : sc.names.lookup x = some .cell) : ∃ c, (cellsFrom n sc.names []).lookup x = some c := by
  have q := PySem.W.cellsFrom_some sc.names n [] (.inl h)
  exact Option.isSome_iff_exists.mp q

theorem inv_start {CX : CXT} {P : Program} {w : World} {K : PySem.W.Frag} {mg : Str → Option Value} {base : Heap} {N ps : List Str} {qual : Str} {scope : Scope} {f : Addr} {cd : Value} {A : Around} {outer : List Env} {s s1 : Shared} {H : Hp} {E : XK} {us : List Value} {vs : List V}
    (S : FnScope N ps scope) (hd : A.handled = none) (e0 : Env0 P w K mg base A outer s H) (hl : vs.length = ps.length) (r : Vals vs us)
    (x : InCallC s s.heap.objs.size (bindL (envOfC qual scope s.heap.objs.size f cd).kindOf (ps.zip us) fun _ => none) (cellsFrom (s.heap.objs.size + 1) scope.names []) (bindC (envOfC qual scope s.heap.objs.size f cd).kindOf (ps.zip us) fun _ => none) s1) :
    Inv (cxOf CX P w K mg base N qual scope f cd A outer s H E) [] (start N vs) H s1 := by
  have hpl : ps.length ≤ N.length := by have := congrArg List.length S.pre; rw [List.length_take] at this; omega
  obtain ⟨h1, tk, rfl, hk⟩ := x.done
  have noA : ∀ b : Addr, b ∉ (cxOf CX P w K mg base N qual scope f cd A outer s H E).ex := fun b z => absurd (show b ∈ ([] : List Addr) from z) (by simp)
  refine ⟨⟨e0.mod, S.kind, rfl, rfl, Nat.le_refl _, fun y z c h1 h2 => ?_, fun y hy => ?_, fun y c _ h => ?_, fun _ => hd, Around.frames_deeper e0.frames, .inr ⟨rfl, rfl⟩, fun b z => absurd z (noA b), e0.bs, e0.bsz, fun b _ _ => noA b, fun b z => absurd z (noA b), e0.funs, e0.frf⟩,
    rfl, e0.bare, Un.kept hk, ⟨_, x.toInCall.ns, fun i y v h1 h2 h3 => ?_⟩, fun y c h => ⟨_, x.cell y c h⟩, e0.hok.fresh (Nat.le_refl _), fun y c h => ?_, fun p hp => absurd (show p ∈ ([] : List (Addr × Obj)) from hp) (by simp), e0.hok.kept hk, ?_⟩
  · exact name_of_addr x.apart (PySem.mem_of_lookup h1) (PySem.mem_of_lookup h2)
  · have hy : scope.names.lookup y = some .cell ∨ scope.names.lookup y = some .free := hy
    rcases hy with hy | hy
    · exact cell_has hy
    · exact absurd rfl (S.nofree _ (PySem.mem_of_lookup hy))
  · exact Nat.le_of_lt (x.above y c (PySem.mem_of_lookup h))
  · have hi : i < vs.length := by
      unfold start at h2
      by_cases hi : i < vs.length
      · exact hi
      · rw [List.getElem?_append_right (by simpa using hi)] at h2
        rw [List.getElem?_replicate] at h2
        split at h2 <;> cases h2
    have ha : vs[i]? = some v := by
      unfold start at h2
      rw [List.getElem?_append_left (by simpa using hi), List.getElem?_map] at h2
      cases e : vs[i]? with
      | none => rw [e] at h2; cases h2
      | some a => rw [e] at h2; cases h2; rfl
    obtain ⟨u, hu, rv⟩ := r.get ha
    have hp : ps[i]? = some y := by
      rw [← S.pre, List.getElem?_take_of_lt (by omega)]; exact h1
    have ndP : ps.Nodup := by rw [← S.pre]; exact S.nd.sublist (List.take_sublist _ _)
    refine ⟨u, rv, ?_⟩
    rcases S.par y (List.mem_of_getElem? hp) with k | k
    · exact .inl ⟨k, bindL_get ndP hp hu k⟩
    · obtain ⟨c, e⟩ := cell_has (n := s.heap.objs.size + 1) k
      refine .inr ⟨.inl k, c, e, ?_⟩
      have q := x.cell y c e
      rw [bindC_get ndP hp hu (by show scope.names.lookup y ≠ _; rw [k]; decide)] at q
      exact q
  · exact e0.hok.fresh (Nat.le_of_lt (x.above y c (PySem.mem_of_lookup h)))
  · unfold start
    show _ = N.length
    rw [List.length_append, List.length_map, List.length_replicate]
    omega

/-- THE RULE: a def (or a method) of the text, by its body. The body's reading t is chosen for each entry; it is run at the parameters' values -/
theorem fn_of {CX : CXT} {P : Program} {w : World} {K : PySem.W.Frag} {mg : Str → Option Value} {base : Heap} {k : Nat} {f : Addr} {name qual : Str} {params : Arguments} {body : List Stmt} {scope : Scope} {dV kV doc pm cdv ct oc : Value} {an od : Option Addr}
    {osl : Array (Option Value)} {N ps : List Str} {sp : Sp} (lk : K.lookup f = some ⟨oc, od, .func (PySem.W.fnOf name qual params body scope dV kV doc pm an cdv ct), osl⟩) (hcd : PySem.W.codeIn K cdv qual = true) (S : FnScope N ps scope)
    (len : ∀ vs H Q E, sp vs H Q E → vs.length = ps.length)
    (hbody : ∀ (A : Around) (outer : List Env) (s : Shared) (H : Hp) (vs : List V) (Q : VK) (E : XK), Room k (A.deeper (envOfC qual scope s.heap.objs.size f cdv)) → sp vs H Q E →
      ∃ t, PSs (cxOf CX P w K mg base N qual scope f cdv A outer s H E) body t ∧ t { nx := fun _ H' => Q .non H', rt := Q } (start N vs) H) :
    FnOk P w K mg base CX (k + 1) f (PySem.W.fnOf name qual params body scope dV kV doc pm an cdv ct) ps sp := by
  refine ⟨len, fun A outer s H args us vs Q E hr e0 hb r hsp => ?_⟩
  have hl := len _ _ _ _ hsp
  have KX : K.In s.heap := e0.mod.kin.keeps fun b o e => (e0.bs b o e).1
  have lim : s.heap.NoLimit := e0.mod.nolimit.keeps fun b o e => (e0.bs b o e).1
  have hkind : ∀ y ∈ ps.zip us, scope.names.lookup y.1 = some .local ∨ (scope.names.lookup y.1 = some .cell ∧ ((cellsFrom (s.heap.objs.size + 1) scope.names []).lookup y.1).isSome = true) := fun ⟨n, v⟩ hy => by
    rcases S.par n (List.of_mem_zip hy).1 with q | q
    · exact .inl q
    · exact .inr ⟨q, PySem.W.cellsFrom_some _ _ _ (.inl q)⟩
  refine codeAny_call_function hr.depth (KX _ _ lk) rfl S.co S.gen rfl (PySem.W.codeRec_of KX hcd) (hb _ _ _ _ ?_)
  refine wpAny_newFunctionEnv_cells S.kind hkind fun env he s1 x => ?_
  subst he
  refine ⟨lim.keeps x.toInCall.keep, codeAny_func ?_⟩
  obtain ⟨t, ht, hq⟩ := hbody A outer s H vs Q E (hr.deeper _) hsp
  have I : Inv (cxOf CX P w K mg base N qual scope f cdv A outer s H E) [] (start N vs) H s1 := inv_start S hr.hd e0 hl r x
  refine wpAny_mono (ht [] s1 (start N vs) H _ I hq) (fun fl s' hs => ?_) fun e s' hs => hs
  have fin : ∀ {σ' : St} {H' : Hp} {v : V} {u : Value}, Inv (cxOf CX P w K mg base N qual scope f cdv A outer s H E) [] σ' H' s' → RelV v u → Q v H' → CE outer P w H s Q u s' :=
    fun {σ' H' v u} J rv q => ⟨v, H', J.os, J.bare, J.base, J.hok, rv, q⟩
  cases fl with
  | ret u =>
    obtain ⟨v, σ', H', J, rv, q⟩ := hs
    exact fin J rv q
  | next =>
    obtain ⟨σ', H', J, q⟩ := hs
    exact fin (v := V.non) (u := Value.none) J rfl q
  | brk =>
    obtain ⟨_, _, _, q⟩ := hs
    exact False.elim q
  | cont =>
    obtain ⟨_, _, _, q⟩ := hs
    exact False.elim q
end L2

namespace L2
open PySem PySem.Spec PyProof.Rows
section
variable {X : Cx} {x : Str} {p pos : Pos} {e : Expr} {es : List Expr} {t : TA} {id T : String} {r : List V → Hp → VK → Prop}

def tCB (r : List V → Hp → VK → Prop) (t : TA) : TE := fun σ H Q => t σ H fun vs H1 => r vs H1 Q
/-- f(e, ..), f a built-in function -/
theorem pe_callB (hc : CallR X (.builtin id) r) (hg : Gl X x) (hm : X.mg x = none) (hv : bootBuiltins x = some (.builtin id)) (ha : PA X (e :: es) t) (hn : x ≠ "__name__" := by decide) (hdb : (x == ("__debug__" : Str)) = false := by decide)
    (he : starEach (e :: es) X.env = (false, eval e X.env) :: starEach es X.env := by rfl) (hpl : (backTo pos (starEach es X.env)).any (·.1) = false := by rfl) : PE X (.Call (.Name x p) (e :: es) [] pos) (tCB r t) := by
  intro pins s σ H Q I h
  refine wpAny_Call_Name_kw (ld_blt I hg hm hv ?_ hn hdb)
  exact PyProof.Rows.callWith_builtin1 (thn (ha pos pins s σ H _ I h) fun us s1 ⟨vs, H1, I1, r1, q1⟩ => hc pins s1 σ H1 vs us Q I1 r1 q1) he hpl
end
end L2

namespace HT
open PySem PyProof.Rows

section
open PySem.SeqAt
open PySem.AutoSeq1 (wpAny_loadPart')
open PySem.MeetsSeq PySem.MeetsSeq2 PySem.MeetsSeq3

end

section
variable {prog : Program} {w : World} {A : Around} {E : Value → Shared → Prop} {s : Shared}

/-! ### t[a:b], not the whole -/
/-- a slice's bound as a place among n (d where it is left out) -/
def sIx (n d : Nat) : Option Int → Nat
  | none => d
  | some v => if v < 0 then (v + (n : Int)).toNat else min v.toNat n
theorem sIx_none (n d : Nat) : sIx n d none = d := rfl
theorem sIx_nat (n d k : Nat) : sIx n d (some (k : Int)) = min k n := by
  show (if (k : Int) < 0 then ((k : Int) + (n : Int)).toNat else min (k : Int).toNat n) = min k n
  rw [if_neg (by omega), Int.toNat_natCast]
end
end HT

namespace L2
open PySem PySem.Spec PyProof.Rows

/-! ### the parts of a slice -/
abbrev TO := St → Hp → (Option Int → Hp → Prop) → Prop
/-- a slice's part (left out, or an int) -/
def PO (X : Cx) (e : Option Expr) (t : TO) : Prop :=
  ∀ (pins : List (Addr × Obj)) (s : Shared) (σ : St) (H : Hp) (Q : Option Int → Hp → Prop), Inv X pins σ H s → t σ H Q →
    wpAny (model X.prog X.w) X.A (evalPart e X.env) (fun u s' => ∃ o H', Inv X pins σ H' s' ∧ IsPart u o ∧ Q o H') X.xe s
def tNoPart : TO := fun _ H Q => Q none H
def tPart (t : TE) : TO := fun σ H Q => t σ H fun x H1 => ∃ i, x = .int i ∧ Q (some i) H1

section
variable {X : Cx} {e : Expr} {te : TE} {lo hi : Option Expr} {tl th : TO} {pos p2 : Pos}

theorem po_none : PO X none tNoPart := by
  intro pins s σ H Q I h
  rw [evalPart_none]
  exact wpAny_pure ⟨none, H, I, .none, h⟩
theorem po_some (h : PE X e te) : PO X (some e) (tPart te) := by
  intro pins s σ H Q I hw
  rw [evalPart_some]
  refine thn (h pins s σ H _ I hw) fun u s1 ⟨x, H1, I1, r1, q1⟩ => ?_
  obtain ⟨i, rfl, q⟩ := q1
  obtain ⟨t, rfl⟩ := r1
  exact ⟨some i, H1, I1, .int i t, q⟩

/-- what a slice of a value is, by values: the slice object stands at sl -/
def SlR (X : Cx) (r : V → Option Int → Option Int → Hp → VK → Prop) : Prop :=
  ∀ (pins : List (Addr × Obj)) (s : Shared) (σ : St) (H : Hp) (x : V) (v vl vu : Value) (lo hi : Option Int) (sl : Addr) (Q : VK), Inv X pins σ H s → RelV x v → s.heap.IsSliceOf sl vl vu .none → IsPart vl lo → IsPart vu hi → r x lo hi H Q →
    ∃ T id, typeLookup (.type T) "__getitem__" = pure (some (.builtin id)) ∧ s.TypeIs v T ∧ wpAny (model X.prog X.w) X.A (getItem v (.ref sl)) (EP X pins σ Q) X.xe s
theorem SlR.or {r r' : V → Option Int → Option Int → Hp → VK → Prop} (h : SlR X r) (h' : SlR X r') : SlR X (fun x lo hi H Q => r x lo hi H Q ∨ r' x lo hi H Q) := by
  intro pins s σ H x v vl vu lo hi sl Q I rx hs pl pu q
  rcases q with q | q
  · exact h pins s σ H x v vl vu lo hi sl Q I rx hs pl pu q
  · exact h' pins s σ H x v vl vu lo hi sl Q I rx hs pl pu q
def tSl (r : V → Option Int → Option Int → Hp → VK → Prop) (te : TE) (tl th : TO) : TE := fun σ H Q => te σ H fun x H1 => tl σ H1 fun l H2 => th σ H2 fun u H3 => r x l u H3 Q
/-- a[lo:hi], any a -/
theorem pe_slice {r : V → Option Int → Option Int → Hp → VK → Prop} (hr : SlR X r) (he : PE X e te) (hl : PO X lo tl) (hu : PO X hi th) : PE X (.Subscript e (.Slice lo hi none p2) pos) (tSl r te tl th) := by
  intro pins s σ H Q I h
  refine Subscript_ (thn (he pins s σ H _ I h) fun v s1 ⟨x, H1, I1, r1, q1⟩ => ?_)
  refine wpAny_Slice (thn (hl pins s1 σ H1 _ I1 q1) fun vl s2 ⟨l, H2, I2, pl, q2⟩ => thn (hu pins s2 σ H2 _ I2 q2) fun vu s3 ⟨u, H3, I3, pu, q3⟩ => ?_)
  rw [evalPart_none]
  refine wpAny_pure ?_
  have I4 : Inv X pins σ H3 { s3 with heap := s3.heap.push { cls := .type "slice", data := .fields #[vl, vu, .none] } } := I3.kept (t' := s3.toks) fun b ob q => Heap.get?_push_of_some _ q
  obtain ⟨T, id, hT, ht, hg⟩ := hr pins { s3 with heap := s3.heap.push { cls := .type "slice", data := .fields #[vl, vu, .none] } } σ H3 x v vl vu l u s3.heap.objs.size Q I4 r1 (Heap.IsSliceOf.new ..) pl pu q3
  show wpAny (model X.prog X.w) X.A (subscriptTail e (.Slice lo hi none p2) v (.ref s3.heap.objs.size)) (EP X pins σ Q) X.xe { s3 with heap := s3.heap.push { cls := .type "slice", data := .fields #[vl, vu, .none] } }
  exact tail_any (ops := [.ref s3.heap.objs.size, v]) ht hT hg (by with_unfolding_all rfl)

/-- the items of xs[lo:hi] -/
def cutV (xs : List V) (lo hi : Option Int) : List V := (xs.drop (HT.sIx xs.length 0 lo)).take (HT.sIx xs.length xs.length hi - HT.sIx xs.length 0 lo)
theorem cutV_length (xs : List V) (lo hi : Option Int) : (cutV xs lo hi).length ≤ xs.length := by
  unfold cutV
  rw [List.length_take, List.length_drop]
  omega
/-! ### t < u, t + u -/
end
end L2

namespace L2
open PySem PySem.Spec PyProof.Rows

/-! ### places -/
/-- the place that an index of any sign means -/
def ixN (n : Nat) (i : Int) : Option Nat := if 0 ≤ i then (if i < n then some i.toNat else none) else if -(n : Int) ≤ i then some (i + n).toNat else none
def atI {α : Type} (xs : List α) (i : Int) : Option α := (ixN xs.length i).bind fun j => xs[j]?
theorem ixN_seq {n : Nat} {i : Int} {j : Nat} (h : ixN n i = some j) : seqIndex? i n = some j ∧ j < n ∧ -(n : Int) ≤ i ∧ i < n := by
  unfold ixN at h
  by_cases h0 : 0 ≤ i
  · rw [if_pos h0] at h
    by_cases h1 : i < n
    · rw [if_pos h1] at h
      have e : i.toNat = j := Option.some.inj h
      exact ⟨by rw [seqIndex_of h0 h1, e], by omega, by omega, h1⟩
    · rw [if_neg h1] at h; cases h
  · rw [if_neg h0] at h
    by_cases h1 : -(n : Int) ≤ i
    · rw [if_pos h1] at h
      have e : (i + n).toNat = j := Option.some.inj h
      exact ⟨by rw [seqIndex_neg (by omega) h1, e], by omega, h1, by omega⟩
    · rw [if_neg h1] at h; cases h
theorem atI_get {α : Type} {xs : List α} {i : Int} {v : α} (h : atI xs i = some v) : ∃ j, seqIndex? i xs.length = some j ∧ xs[j]? = some v ∧ j < xs.length ∧ -(xs.length : Int) ≤ i ∧ i < xs.length := by
  unfold atI at h
  cases e : ixN xs.length i with
  | none => rw [e] at h; cases h
  | some j =>
    rw [e] at h
    obtain ⟨h1, h2, h3, h4⟩ := ixN_seq e
    exact ⟨j, h1, h, h2, h3, h4⟩
/-! ### what may be subscripted -/
/-- what stands as an index of a plain subscript -/
def PlainIx (b : Expr) : Prop := ∀ o i, subscripted b false o i = operate [o, i] (getItem o i)
/-- a subscript by values -/
def IxR (X : Cx) (r : R2) : Prop :=
  ∀ (value slice : Expr) (pins : List (Addr × Obj)) (s : Shared) (σ : St) (H : Hp) (x y : V) (v u : Value) (Q : VK), Inv X pins σ H s → RelV x v → RelV y u → r x y H Q →
    subscripted slice false v u = operate [v, u] (getItem v u) → wpAny (model X.prog X.w) X.A (subscriptTail value slice v u) (EP X pins σ Q) X.xe s
/-- a call of a builtin's method by values: the receiver, the arguments -/
def MtR (X : Cx) (id : String) (r : V → List V → Hp → VK → Prop) : Prop :=
  ∀ (pins : List (Addr × Obj)) (s : Shared) (σ : St) (H : Hp) (x : V) (xs : List V) (v : Value) (us : List Value) (Q : VK), Inv X pins σ H s → RelV x v → Vals xs us → r x xs H Q →
    wpAny (model X.prog X.w) X.A (call (.builtin id) (v :: us)) (EP X pins σ Q) X.xe s
section
variable {X : Cx} {a b : Expr} {ta tb : TE} {pos : Pos}
theorem IxR.or {r r' : R2} (h : IxR X r) (h' : IxR X r') : IxR X (fun x y H Q => r x y H Q ∨ r' x y H Q) := by
  intro value slice pins s σ H x y v u Q I rx ry q hs
  rcases q with q | q
  · exact h value slice pins s σ H x y v u Q I rx ry q hs
  · exact h' value slice pins s σ H x y v u Q I rx ry q hs
theorem MtR.or {id : String} {r r' : V → List V → Hp → VK → Prop} (h : MtR X id r) (h' : MtR X id r') : MtR X id (fun x xs H Q => r x xs H Q ∨ r' x xs H Q) := by
  intro pins s σ H x xs v us Q I rx rs q
  rcases q with q | q
  · exact h pins s σ H x xs v us Q I rx rs q
  · exact h' pins s σ H x xs v us Q I rx rs q
/-- a[b] -/
theorem pe_ix {r : R2} (hr : IxR X r) (ha : PE X a ta) (hb : PE X b tb) (hs : PlainIx b) : PE X (.Subscript a b pos) (tOp r ta tb) := by
  intro pins s σ H Q I h
  exact Subscript_ (binT ha hb I h fun v u s2 x y H2 I2 rx ry q => hr a b pins s2 σ H2 x y v u Q I2 rx ry q (hs _ _))

def rIxL (K : PySem.W.Frag) : R2 := fun x y H Q => ∃ p xs i v, x = .ref p ∧ y = .int i ∧ SqL K H p xs ∧ atI xs i = some v ∧ Q v H
def rIxT (K : PySem.W.Frag) : R2 := fun x y H Q => ∃ p xs i v, x = .ref p ∧ y = .int i ∧ SqT K H p xs ∧ atI xs i = some v ∧ Q v H
theorem ix_list : IxR X (rIxL X.K) := by
  intro value slice pins s σ H x y v u Q I rx ry h hs
  obtain ⟨p, xs, i, z, rfl, rfl, hq, he, q⟩ := h
  cases rx
  obtain ⟨t, rfl⟩ := ry
  obtain ⟨its, r, pl, hz⟩ := I.list hq
  obtain ⟨j, h1, h2, h3, h4, h5⟩ := atI_get he
  obtain ⟨w, ew, rw'⟩ := r.get h2
  have hl := r.length
  have hn := line63
  have fin : EP X pins σ Q w s := ⟨z, H, I, rw', q⟩
  by_cases h0 : 0 ≤ i
  · have hj : i.toNat = j := by
      rw [seqIndex_of h0 h5] at h1
      exact Option.some.inj h1
    exact item_listR pl.isList h0 (by omega) (by rw [hj]; simpa using ew) fin hs
  · have hj : (i + (its.toArray.size : Int)).toNat = j := by
      rw [seqIndex_neg (by omega) h4] at h1
      rw [List.size_toArray, ← hl]
      exact Option.some.inj h1
    exact subscriptTail_builtinR (x := w) pl.isList.typeIs slot_list_getitem.lookup
      (wpAny_getItem_list_neg (Q := fun r s' => r = w ∧ EP X pins σ Q r s') pl.isList (by omega) (by rw [List.size_toArray] <;> omega) (by omega) (by rw [hj]; simpa using ew) ⟨rfl, fin⟩) hs
theorem ix_tup : IxR X (rIxT X.K) := by
  intro value slice pins s σ H x y v u Q I rx ry h hs
  obtain ⟨p, xs, i, z, rfl, rfl, hq, he, q⟩ := h
  cases rx
  obtain ⟨t, rfl⟩ := ry
  obtain ⟨its, r, pl, hz⟩ := I.tuple hq
  obtain ⟨j, h1, h2, h3, h4, h5⟩ := atI_get he
  obtain ⟨w, ew, rw'⟩ := r.get h2
  have hl := r.length
  have hn := line63
  have fin : EP X pins σ Q w s := ⟨z, H, I, rw', q⟩
  exact subscriptTail_builtinR (x := w) pl.typeIs slot_tuple_getitem.lookup
    (getItem_tuple (j := j) (Q := fun r s' => r = w ∧ EP X pins σ Q r s') pl (by omega) (by omega) (by rw [List.size_toArray, ← hl]; exact h1) (by simpa using ew) ⟨rfl, fin⟩) hs
/-! ### xs[i] = v, any sign -/
theorem Inv.lst {pins : List (Addr × Obj)} {σ : St} {H : Hp} {s : Shared} {p : Addr} {xs : List V} (I : Inv X pins σ H s) (h : H p = some (.lst xs)) :
    ∃ (its : List Value) (n : Nat), Vals xs its ∧ s.heap.get? p = some { cls := .type "list", data := .seq its.toArray n } ∧ xs.length ≤ sizeLine := by
  obtain ⟨z, its, n, r, e⟩ := I.hok p _ h
  exact ⟨its, n, r, e, z⟩
/-! ### slices -/
theorem slice_bounds (lo hi : Option Int) (n : Nat) : (sliceBounds lo hi none n).1 = ((HT.sIx n 0 lo : Nat) : Int) ∧ (sliceBounds lo hi none n).2.1 = ((HT.sIx n n hi : Nat) : Int) ∧ (sliceBounds lo hi none n).2.2 = 1 := by
  refine ⟨?_, ?_, rfl⟩
  · cases lo with
    | none => simp [sliceBounds, HT.sIx]
    | some i =>
      simp only [sliceBounds, HT.sIx, Option.getD_none, show (1 : Int) > 0 by decide, if_true]
      by_cases h : i < 0
      · simp only [h, if_true] <;> omega
      · simp only [h, if_false] <;> omega
  · cases hi with
    | none => simp [sliceBounds, HT.sIx]
    | some i =>
      simp only [sliceBounds, HT.sIx, Option.getD_none, show (1 : Int) > 0 by decide, if_true]
      by_cases h : i < 0
      · simp only [h, if_true] <;> omega
      · simp only [h, if_false] <;> omega
theorem slicePick_cut (its : List Value) (lo hi : Option Int) : slicePick its.toArray lo hi none = ((its.drop (HT.sIx its.length 0 lo)).take (HT.sIx its.length its.length hi - HT.sIx its.length 0 lo)).toArray := by
  obtain ⟨h1, h2, h3⟩ := slice_bounds lo hi its.toArray.size
  unfold slicePick
  rw [h1, h2, h3]
  simp only [sliceRange_one, pick_run, List.size_toArray] <;> rfl
/-- xs[lo:hi] of a list: a new list -/
def rSlL (K : PySem.W.Frag) : V → Option Int → Option Int → Hp → VK → Prop := fun x lo hi H Q => ∃ a xs, x = .ref a ∧ SqL K H a xs ∧ ∀ p, H p = none → Q (.ref p) (upd H p (.lst (cutV xs lo hi)))
theorem sl_list : SlR X (rSlL X.K) := by
  intro pins s σ H x v vl vu lo hi sl Q I rx hs pl pu h
  obtain ⟨a, xs, rfl, hx, q⟩ := h
  cases rx
  obtain ⟨its, r, ht, hz⟩ := I.list hx
  have hlen := r.length
  refine ⟨"list", _, slot_list_getitem.lookup, ht.isList.typeIs, ?_⟩
  refine wpAny_getItem_list_slice ht.isList hs pl pu .none (by simp) ?_ (by rw [List.size_toArray] <;> omega)
  rw [slicePick_cut, ← hlen]
  refine ⟨.ref s.heap.objs.size, _, I.laid (t' := s.toks) (o := .lst (cutV xs lo hi)) (fun b ob q => Heap.get?_push_of_some _ q) (Nat.le_refl _) ?_, rfl, q _ (I.hok.fresh (Nat.le_refl _))⟩
  exact ⟨Nat.le_trans (cutV_length xs lo hi) hz, _, 0, (r.drop (HT.sIx xs.length 0 lo)).take (HT.sIx xs.length xs.length hi - HT.sIx xs.length 0 lo), Heap.get?_push_size _ rfl⟩

/-! ### in, not in: flat items -/
/-! ### len, list(x), tuple(x) of any list or tuple that is read -/
theorem call_len_seq : CallR X (.builtin "len") (fun xs H Q => ∃ p ys, xs = [.ref p] ∧ (SqL X.K H p ys ∨ SqT X.K H p ys) ∧ Q (.int ys.length) H) := by
  intro pins s σ H xs us Q I r h
  obtain ⟨p, ys, rfl, hq, q⟩ := h
  obtain ⟨u, rfl, rx⟩ := vals1 r
  cases rx
  have hn := line63
  rcases hq with hq | hq
  · obtain ⟨its, r', pl, hz⟩ := I.list hq
    have hlen := r'.length
    exact Calls.call_len_list pl.isList (by simp only [List.size_toArray] <;> omega) ⟨.int ys.length, H, I.tok _, ⟨s.toks + 1, by rw [List.size_toArray, hlen]⟩, q⟩
  · obtain ⟨its, r', pl, hz⟩ := I.tuple hq
    have hlen := r'.length
    exact len_tuple pl (by simp only [List.size_toArray] <;> omega) ⟨.int ys.length, H, I.tok _, ⟨s.toks + 1, by rw [List.size_toArray, hlen]⟩, q⟩
theorem CallR.or {f : Value} {r r' : List V → Hp → VK → Prop} (h : CallR X f r) (h' : CallR X f r') : CallR X f (fun xs H Q => r xs H Q ∨ r' xs H Q) := by
  intro pins s σ H xs us Q I rs q
  rcases q with q | q
  · exact h pins s σ H xs us Q I rs q
  · exact h' pins s σ H xs us Q I rs q
/-! ### the call of a builtin's method: o.m(..) -/
/-- the value is of that builtin type -/
def tyV (K : PySem.W.Frag) (T : String) (x : V) (H : Hp) : Prop := match x with
  | .str _ => T = "str"
  | .int _ => T = "int"
  | .ref p => (T = "list" ∧ ∃ xs, SqL K H p xs) ∨ (T = "tuple" ∧ ∃ o, K.lookup p = some o ∧ o.cls = .type "tuple" ∧ o.dict = none) ∨
      (T = "dict" ∧ ((∃ kvs, H p = some (.dK kvs)) ∨ ∃ kvs, H p = some (.dT kvs))) ∨ (T = "set" ∧ ∃ S n, H p = some (.set S n))
  | _ => False
theorem tyV_is {pins : List (Addr × Obj)} {σ : St} {H : Hp} {s : Shared} {T : String} {x : V} {v : Value} (I : Inv X pins σ H s) (r : RelV x v) (ty : tyV X.K T x H) :
    s.TypeIs v T ∧ ∀ a, v = .ref a → ∃ ob, s.heap.get? a = some ob ∧ ob.dict = none := by
  cases x with
  | str z =>
    obtain ⟨t, rfl⟩ := r
    cases (show T = "str" from ty)
    exact ⟨typeIs_str s z t, fun _ e => nomatch e⟩
  | int i =>
    obtain ⟨t, rfl⟩ := r
    cases (show T = "int" from ty)
    exact ⟨typeIs_int s i t, fun _ e => nomatch e⟩
  | ref p =>
    cases r
    rcases ty with ⟨rfl, xs, hq⟩ | ⟨rfl, o, hk, hc, hd⟩ | ⟨rfl, hk⟩ | ⟨rfl, S, n, hk⟩
    · obtain ⟨its, _, pl, _⟩ := I.list hq
      refine ⟨pl.isList.typeIs, fun a e => ?_⟩
      cases e
      obtain ⟨o, n, e, c, hd, _⟩ := pl
      exact ⟨o, e, hd⟩
    · refine ⟨⟨o, I.kIn p o hk, hc⟩, fun a e => ?_⟩
      cases e
      exact ⟨o, I.kIn _ o hk, hd⟩
    · have z : ∃ o, s.heap.get? p = some o ∧ o.ExactDict := by
        rcases hk with ⟨kvs, hk⟩ | ⟨kvs, hk⟩
        · obtain ⟨_, _, _, _, o, _, _, e, ex, _⟩ := I.hok p _ hk
          exact ⟨o, e, ex⟩
        · obtain ⟨_, _, _, _, o, _, _, e, ex, _⟩ := I.hok p _ hk
          exact ⟨o, e, ex⟩
      obtain ⟨o, e, ex⟩ := z
      refine ⟨⟨o, e, ex.1⟩, fun a e2 => ?_⟩
      cases e2
      exact ⟨o, e, ex.2.1⟩
    · obtain ⟨o, _, _, _, e, ex, _⟩ := I.hok p _ hk
      refine ⟨⟨o, e, ex.1⟩, fun a e2 => ?_⟩
      cases e2
      exact ⟨o, e, ex.2.1⟩
  | _ => exact False.elim ty
def tBM0 (K : PySem.W.Frag) (T : String) (r : V → List V → Hp → VK → Prop) (to : TE) : TE := fun σ H Q => to σ H fun x H1 => tyV K T x H1 ∧ r x [] H1 Q
def tBM (K : PySem.W.Frag) (T : String) (r : V → List V → Hp → VK → Prop) (to : TE) (t : TA) : TE := fun σ H Q => to σ H fun x H1 => tyV K T x H1 ∧ t σ H1 fun xs H2 => r x xs H2 Q
variable {o e : Expr} {es : List Expr} {to : TE} {t : TA} {name : Str} {apos cpos : Pos} {T id : String} {r : V → List V → Hp → VK → Prop}
theorem pe_bm0 (pa : PlainAttrs T) (slot : Slot T name id) (hty : typeOf (.builtin id) = pure (.type "method_descriptor")) (hm : MtR X id r) (ho : PE X o to)
    (hbase : attributeBase o name X.env (eval o X.env) = eval o X.env := by rfl) (hline : (apos.endLine == cpos.line) = true := by rfl) : PE X (.Call (.Attribute o name apos) [] [] cpos) (tBM0 X.K T r to) := by
  intro pins s σ H Q I h
  refine wpAny_Call_method0_late hbase hline (thn (ho pins s σ H _ I h) fun v s1 ⟨x, H1, I1, r1, ty, q1⟩ => ?_)
  obtain ⟨h1, h2⟩ := tyV_is I1 r1 ty
  exact ⟨T, id, pa, slot, hty, h1, h2, Calls.callWith_builtin rfl (PySem.evalArgs_none (hm pins s1 σ H1 x [] v [] Q I1 r1 .nil q1))⟩
theorem pe_bm (pa : PlainAttrs T) (slot : Slot T name id) (hty : typeOf (.builtin id) = pure (.type "method_descriptor")) (hm : MtR X id r) (ho : PE X o to) (ha : PA X (e :: es) t)
    (hbase : attributeBase o name X.env (eval o X.env) = eval o X.env := by rfl)
    (hfew : ((backTo cpos (starEach (e :: es) X.env)).all (fun x => !x.1) && (backToKw cpos (keywordEach [] X.env)).all (fun x => x.1.isSome)
      && decide ((e :: es).length + ([] : List Keyword).length + (if ([] : List Keyword).isEmpty then 0 else 1) < 30)) = true := by rfl)
    (hline : (apos.endLine == cpos.line) = true := by rfl) (hs : starEach (e :: es) X.env = (false, eval e X.env) :: starEach es X.env := by rfl) (hplain : (backTo cpos (starEach es X.env)).any (·.1) = false := by rfl) :
    PE X (.Call (.Attribute o name apos) (e :: es) [] cpos) (tBM X.K T r to t) := by
  intro pins s σ H Q I h
  refine wpAny_Call_method_late hbase hfew hline rfl (thn (ho pins s σ H _ I h) fun v s1 ⟨x, H1, I1, r1, ty, q1⟩ => ?_)
  obtain ⟨h1, h2⟩ := tyV_is I1 r1 ty
  refine ⟨T, id, pa, slot, hty, h1, h2, ?_⟩
  have hA := ha cpos pins s1 σ H1 _ I1 q1
  rw [hs] at hA ⊢
  refine Calls.callWith_builtin (by show (false || (backTo cpos (starEach es X.env)).any (·.1)) = false; rw [hplain] <;> rfl) (Calls.evalArgs_plain ?_)
  exact thn hA fun us s2 ⟨vs, H2, I2, r2, q2⟩ => hm pins s2 σ H2 x vs v us Q I2 r1 r2 q2
/- xs.append(e), list.index on a module's tuple .. are MtR facts of 06m -/
end
end L2

namespace L2
open PySem PySem.Spec PyProof.Rows

def MtM (X : Cx) (id : String) (r : V → List V → Hp → VK → Prop) : Prop :=
  ∀ (pins : List (Addr × Obj)) (s : Shared) (σ : St) (H : Hp) (x : V) (xs : List V) (v : Value) (us : List Value) (Q : VK), Inv X pins σ H s → RelV x v → Vals xs us → r x xs H Q →
    wpAny (model X.prog X.w) X.A (call (.builtin id) (v :: us)) (EP X pins σ Q) X.xe s

/-! ### lists of values -/
theorem Vals.one : ∀ {x : V} {us : List Value}, Vals [x] us → ∃ u, us = [u] ∧ RelV x u
  | _, _, .cons r .nil => ⟨_, rfl, r⟩
theorem Vals.two : ∀ {x y : V} {us : List Value}, Vals [x, y] us → ∃ u v, us = [u, v] ∧ RelV x u ∧ RelV y v
  | _, _, _, .cons r (.cons q .nil) => ⟨_, _, rfl, r, q⟩
theorem Vals.zero : ∀ {us : List Value}, Vals [] us → us = []
  | _, .nil => rfl
theorem Vals.dropLast {xs : List V} {us : List Value} (h : Vals xs us) : Vals xs.dropLast us.dropLast := by
  induction h with
  | nil => exact .nil
  | cons r t ih =>
    cases t with
    | nil => exact .nil
    | cons q t' => exact .cons r ih
theorem Vals.eraseIdx : ∀ {xs : List V} {us : List Value} (i : Nat), Vals xs us → Vals (xs.eraseIdx i) (us.eraseIdx i)
  | _, _, _, .nil => .nil
  | _, _, 0, .cons _ t => t
  | _, _, i + 1, .cons r t => .cons r (Vals.eraseIdx i t)
theorem Vals.reverse {xs : List V} {us : List Value} (h : Vals xs us) : Vals xs.reverse us.reverse := by
  induction h with
  | nil => exact .nil
  | cons r t ih => rw [List.reverse_cons, List.reverse_cons]; exact Vals.append ih (.cons r .nil)
theorem erase_last {α : Type} (l : List α) : l.eraseIdx (l.length - 1) = l.dropLast := by
  induction l with
  | nil => rfl
  | cons a r ih =>
    cases r with
    | nil => rfl
    | cons b r =>
      have e : (a :: b :: r).length - 1 = ((b :: r).length - 1) + 1 := by
        have h1 : (a :: b :: r).length = r.length + 2 := rfl
        have h2 : (b :: r).length = r.length + 1 := rfl
        omega
      rw [e, List.eraseIdx_cons_succ, ih]
      all_goals rfl
section
variable {X : Cx} {pins : List (Addr × Obj)} {σ : St} {H : Hp} {s : Shared} {l b : Addr} {xs ys zs : List V}

/-! ### the two steps: a tracked list is rewritten, a new list is laid -/
theorem Inv.lset {its its' : List Value} {n : Nat} {f : Array Value → Array Value} {t' : Nat} (I : Inv X pins σ H s) (hH : H l = some (.lst xs))
    (e : s.heap.get? l = some { cls := .type "list", data := .seq its.toArray n }) (hf : f its.toArray = its'.toArray) (hv : Vals ys its') (hz : ys.length ≤ sizeLine) :
    Inv X pins σ (upd H l (.lst ys)) { s with heap := s.heap.update l (Obj.mapSeq f), toks := t' } := by
  have q := PySem.IsL.update e f
  rw [hf] at q
  refine I.write (x := l) (e := l) (by rw [hH]; exact trivial) (.inl rfl) (fun b' u hb hu => (Heap.get?_update_other s.heap (Obj.mapSeq f) (Ne.symm hb)).trans hu) ⟨_, q⟩ ?_
  exact ⟨hz, its', _, hv, q⟩
theorem Inv.lnew {its : List Value} {t' : Nat} (I : Inv X pins σ H s) (hv : Vals ys its) (hz : ys.length ≤ sizeLine) :
    Inv X pins σ (upd H s.heap.objs.size (.lst ys)) { s with heap := s.heap.push { cls := .type "list", data := .seq its.toArray }, toks := t' } :=
  I.laid (fun _ _ q => Heap.get?_push_of_some _ q) (Nat.le_refl _) ⟨hz, its, 0, hv, Heap.get?_push_size _ rfl⟩
theorem Inv.fresh (I : Inv X pins σ H s) : H s.heap.objs.size = none := I.hok.fresh (Nat.le_refl _)
theorem Inv.lstM (I : Inv X pins σ H s) (hH : H l = some (.lst xs)) : xs.length ≤ sizeLine ∧ ∃ (its : List Value) (n : Nat), Vals xs its ∧ xs.length = its.length ∧ s.heap.get? l = some { cls := .type "list", data := .seq its.toArray n } := by
  obtain ⟨z, its, n, r, e⟩ := I.hok l _ hH
  exact ⟨z, its, n, r, r.length, e⟩

end

section
variable {X : Cx}

/-! ### methods -/
def rAppend : V → List V → Hp → VK → Prop := fun x vs H Q => ∃ l xs y, x = .ref l ∧ vs = [y] ∧ H l = some (.lst xs) ∧ xs.length < sizeLine ∧ Q .non (upd H l (.lst (xs ++ [y])))
theorem mt_append : MtM X "list.append" rAppend := by
  intro pins s σ H x vs v us Q I rx rv h
  obtain ⟨l, xs, y, rfl, rfl, hH, hz, q⟩ := h
  cases rx
  obtain ⟨u, rfl, ru⟩ := rv.one
  obtain ⟨z, its, n, r, hl, e⟩ := I.lstM hH
  refine call_meets F.slot_list_append ⟨_, e, rfl⟩ F.entry_list_append (F.args_list_append_2 _ _) (PySem.list_append l its.toArray n u (by rw [List.size_toArray]; omega)) ⟨e, ?_⟩
  refine ⟨.non, _, I.lset (its' := its ++ [u]) hH e (by simp) (r.append (.cons ru .nil)) ?_, rfl, q⟩
  rw [List.length_append, List.length_singleton]
  omega

def rPop : V → List V → Hp → VK → Prop := fun x vs H Q => ∃ l xs y, x = .ref l ∧ vs = [] ∧ H l = some (.lst xs) ∧ xs[xs.length - 1]? = some y ∧ Q y (upd H l (.lst xs.dropLast))
theorem mt_pop : MtM X "list.pop" rPop := by
  intro pins s σ H x vs v us Q I rx rv h
  obtain ⟨l, xs, y, rfl, rfl, hH, hy, q⟩ := h
  cases rx
  have hus := rv.zero
  subst hus
  obtain ⟨z, its, n, r, hl, e⟩ := I.lstM hH
  obtain ⟨u, hu, ru⟩ := r.get hy
  have hy' : its.toArray[its.toArray.size - 1]? = some u := by
    show its.toArray[its.length - 1]? = some u
    rw [← Array.getElem?_toList, ← hl]
    exact hu
  refine call_meets F.slot_list_pop ⟨_, e, rfl⟩ F.entry_list_pop (F.args_list_pop_1 _) (MeetsSeq.list_pop_last l its.toArray n u hy' (by rw [List.size_toArray]; omega)) ⟨e, ?_⟩
  refine ⟨y, _, I.lset (its' := its.dropLast) hH e ?_ r.dropLast ?_, ru, q⟩
  · show its.toArray.eraseIdxIfInBounds (its.toArray.size - 1) = its.dropLast.toArray
    rw [List.size_toArray, List.eraseIdxIfInBounds_toArray, erase_last]
  · rw [List.length_dropLast]
    omega

/-! ### list + list, list += list, list * int -/
/-! ### del xs[i] -/
end

/-! ### xs[a:b] = ys -/
section
variable {prog : Program} {w : World} {A : Around} {E : Value → Shared → Prop} {s : Shared}
set_option maxRecDepth 100000 in
end

section
variable {X : Cx}
end
end L2

namespace Att
open PySem PySem.W PySem.Calls PyProof.Rows

/-! ### the script -/
theorem ints_of_wellAll {P : Params} {h : Heap} : ∀ (ns : List Int) (vs : List Value), WellAll P h vs (ns.map WData.int) → IntsAre vs ns := by
  intro ns
  induction ns with
  | nil =>
    intro vs w
    rw [List.map_nil] at w
    cases w
    exact .nil
  | cons n ns ih =>
    intro vs w
    rw [List.map_cons] at w
    cases w with
    | cons a b =>
      cases a
      exact .cons _ _ (ih _ b)

theorem script_of {l : OpenLaw} {n : Nat} (hn : l.most = some n) {P : Params} {h : Heap} {args : List WData} {vals : List Value}
    (hpre : l.row.toRowW.claim.pre args = true) (hwl : WellAll P h vals args) :
    ∃ a vs ns, vals = [Value.ref a] ∧ args = [WData.list (ns.map WData.int)] ∧ h.get? a = some { cls := .type "list", data := .seq vs.toArray } ∧ IntsAre vs ns ∧ ns.length ≤ n := by
  have hsh : WShape.hasAll [] args [.list .int] = true := (pre_splitW hpre).1
  have hc : l.pre.holds [] { args := args } = true := (pre_splitW hpre).2
  obtain ⟨d, r, rfl, h1, h2⟩ := hasAllW_cons hsh
  obtain rfl := hasAllW_nil h2
  obtain ⟨xs, rfl, h3⟩ := hasW_list h1
  obtain ⟨ns, rfl⟩ := items_int h3
  have hlen : ns.length ≤ n := by
    unfold OpenLaw.pre at hc
    have h4 : (WTm.not (.lt (.lit (.int (n : Int))) (.len (.arg 0)))).holds [] { args := [.list (ns.map .int)] } = true := by
      have h4 := (holds_andW hc).1
      rw [hn] at h4
      exact h4
    have h5 := condW_of h4 (w_not (w_lt w_lit (w_len_list (w_arg rfl))))
    rw [List.length_map] at h5
    refine Nat.le_of_not_lt fun q => ?_
    have q' : (n : Int) < ((ns.length : Nat) : Int) := by omega
    first
      | (rw [decide_eq_true q'] at h5; exact absurd h5 (by decide))
      | (simp at h5; omega)
  cases hwl with
  | cons w1 w2 =>
    cases w2
    cases w1 with
    | list ho hall => exact ⟨_, _, ns, rfl, rfl, ho, ints_of_wellAll ns _ hall, hlen⟩

theorem post_true (l : OpenLaw) (args : List WData) : l.row.toRowW.claim.post args (.bool true) args = true :=
  postW_of (r := l.row.toRowW) (X := (true == true))
    (show WShape.has [] (.bool true) .bool = true by first | rfl | decide | simp [WShape.has, WShape.arms, WShape.armsAll])
    (show (WTm.eq .res (.lit (.bool true))).value [] { args := args, res := some (.bool true), after := args } = some (.bool (true == true)) from w_eq_bool (w_res rfl) w_lit) rfl

/-! ### the attachment: holds_open's last premise (the goal 'hc' behind k_head) from a wpAny of the law's body -/
/-- the same from a codeAny of the CALL (for a layer whose function contracts speak of calls) -/
theorem attach_call {l : OpenLaw} {n : Nat} {q : Program} {loose : List Str} {XP : (Str → Option Value) → Heap → Prop} {YP : World → Heap → Prop} {d : DefRec}
    (hn : l.most = some n) (hdf : d.params.defaults = [])
    (call : ∀ (w : World) (s₀ s₁ : Shared) (mg mb : Str → Option Value) (fa : Addr) (o : Obj) (pm cd doc : Value) (a : Addr) (vs : List Value) (ns : List Int),
      Ground q loose [] XP w s₀ mg mb s₁.heap → YP w s₁.heap →
      s₁.heap.get? fa = some o → o.data = .func (docDef d.name d.params d.body d.scope pm cd doc) → s₁.heap.CodeRec cd d.name → mg d.name = some (.ref fa) →
      s₁.heap.get? a = some { cls := .type "list", data := .seq vs.toArray } → IntsAre vs ns → ns.length ≤ n → s₁.gens = #[] →
      codeAny (model l.prog w) callerA (.call (.ref fa) ⟨[.ref a], []⟩) (fun r s' => r = .ok (.ret (.bool true)) ∧ OldK s₁.heap s'.heap ∧ s'.os = s₁.os ∧ AllBare s'.gens) s₁) :
    WalkO q loose XP YP l.row.toRowW d [] (fun f vs => PySem.call f vs) := by
  intro w s₀ s₁ mg mb G Y fa o pm cd doc dV kV ho hd hcd hD hmg hg args vals as hpre hlay hrd hwl hlo
  obtain rfl : dV = .none := Dflts.none hD hdf
  obtain rfl : kV = .none := Dflts.noKw hD
  obtain ⟨a, vs, ns, rfl, rfl, hobj, hints, hlen⟩ := script_of hn hpre hwl
  refine enter_call (codeAny_mono (call w s₀ s₁ mg mb fa o pm cd doc a vs ns G Y ho (fd_plain hd) hcd hmg hobj hints hlen hg) fun r s' hq => ?_)
  obtain ⟨rfl, h2, h3, h4⟩ := hq
  exact ⟨.inl ⟨.bool true, .bool true, [], rfl, fun _ => rfl, .bool true, post_true l _, fun _ => ⟨List.Pairwise.nil, fun _ hm => (nomatch hm)⟩⟩, h2, h3, h4⟩

/-! ### rules over ANY heap (no ledger) from facts about the written part K: the library's own take a ledger (News) for what they write -/
section
variable {prog : Program} {w : World} {A : Around} {E : Value → Shared → Prop} {s : Shared} {K : Frag}

/-! the whole heap as the ledger: makes every rule that writes through a ledger a rule over any heap -/
def ledger (h : Heap) (L d : Addr) : List (Addr × Obj) := (List.range h.objs.size).filterMap fun a => if a = L ∨ a = d then none else (h.get? a).map fun o => (a, o)
end
end Att

namespace L2
open PySem PySem.Spec PyProof.Rows

theorem vals_ints : ∀ {vs : List Value} {ns : List Int}, IntsAre vs ns → Vals (ns.map V.int) vs
  | _, _, .nil => .nil
  | _, _, .cons n t h => .cons ⟨t, rfl⟩ (vals_ints h)

/-- nothing is tracked but the script, known to the object (or it is an object of the module) -/
def Only (H : Hp) : Prop := ∀ b, H b = none ∨ ∃ o xs, H b = some (.frz o (.lst xs))

/-- THE HEAD: the law's promise, at the heap behind the top. F, the promise of the law's def, may use that base is part of the heap (so K.In base, base.Ns mainGlobals mg stand in Mod) -/
theorem law_call {P : Program} {w : World} {K : PySem.W.Frag} {mg mb : Str → Option Value} {CX : CXT} {k : Nat} {fa a : Addr} {fd : FuncData} {x : Str} {sp : Sp} {s₁ : Shared} {vs : List Value} {ns : List Int}
    (KX : K.In s₁.heap) (hns : s₁.heap.Ns mainGlobals mg) (hb : s₁.heap.Ns builtinsNs mb) (hbb : ∀ x : Str, x ≠ "__name__" → mb x = bootBuiltins x) (hlim : s₁.heap.NoLimit) (hg : s₁.gens = #[])
    (ha : s₁.heap.get? a = some { cls := .type "list", data := .seq vs.toArray }) (hi : IntsAre vs ns) (hl : ns.length ≤ sizeLine) (hr : Room k callerA)
    (F : ∀ base : Heap, K.In base → base.Ns mainGlobals mg → FnOk P w K mg base CX k fa fd [x] sp) (hbind : ∀ (s : Shared) (u : Value), BindsTo s fd ⟨[u], []⟩ [(x, u)])
    (hsp : ∀ H : Hp, Only H → SqL K H a (ns.map V.int) → sp [.ref a] H (fun v _ => v = .bl true) fun _ _ _ => False)
    (hCX : ∀ H e s', CX [] H s₁ (fun _ _ _ => False) e s' → False) :
    codeAny (model P w) callerA (.call (.ref fa) ⟨[.ref a], []⟩) (fun r s' => r = .ok (.ret (.bool true)) ∧ OldK s₁.heap s'.heap ∧ s'.os = s₁.os ∧ AllBare s'.gens) s₁ := by
  have rv := vals_ints hi
  have lenV := hi.length
  -- from an abstract heap in which nothing but the script may be tracked
  have core : ∀ H : Hp, Only H → SqL K H a (ns.map V.int) → HOk P w H s₁.heap → (∀ b, H b ≠ none → b = a) → (H a ≠ none → K.lookup a = none) →
      codeAny (model P w) callerA (.call (.ref fa) ⟨[.ref a], []⟩) (fun r s' => r = .ok (.ret (.bool true)) ∧ OldK s₁.heap s'.heap ∧ s'.os = s₁.os ∧ AllBare s'.gens) s₁ := by
    intro H hO hS hok hA hK
    have base_of : ∀ {b : Addr} {o : Obj}, s₁.heap.get? b = some o → H b = none → (hidT s₁.heap H).get? b = some o := fun e n => hidT_get e n
    have noA : ∀ {b : Addr} {o : Obj} {es : Array DictEntry} {ep : Nat}, s₁.heap.get? b = some o → o.data = .dict es ep → H b = none := fun {b o es ep} e d => by
      cases q : H b with
      | none => rfl
      | some u =>
        have e' : b = a := hA b (by rw [q]; simp)
        subst e'
        rw [ha] at e; cases e
        have d' : Data.seq vs.toArray _ = Data.dict es ep := d
        cases d'
    have nsK : ∀ {b : Addr} {m : Str → Option Value}, s₁.heap.Ns b m → (hidT s₁.heap H).Ns b m := fun {b m} ⟨o, es, ep, e, d, r⟩ => ⟨o, es, ep, base_of e (noA e d), d, r⟩
    have hKb : K.In (hidT s₁.heap H) := fun b o e => base_of (KX b o e) (by
      cases q : H b with
      | none => rfl
      | some u =>
        have e' : b = a := hA b (by rw [q]; simp)
        subst e'
        rw [hK (by rw [q]; simp)] at e; cases e)
    have hM : Mod K mg (hidT s₁.heap H) := ⟨hKb, nsK hns, ⟨mb, nsK hb, hbb⟩, let ⟨mc, h1, h2⟩ := hlim; ⟨mc, nsK h1, h2⟩⟩
    have e0 : Env0 P w K mg (hidT s₁.heap H) callerA [] s₁ H := ⟨rfl, hM, fun b o e => of_hidT e, Nat.le_of_eq (hidT_size _ _), trivial, fun b hb => absurd (show b ∈ ([] : List Addr) from hb) (by simp), hok, .of_eq hg⟩
    refine codeAny_mono ((F _ hKb (nsK hns)).run callerA [] s₁ H ⟨[.ref a], []⟩ [.ref a] [.ref a] _ _ hr e0 (hbind s₁ (.ref a)) (.cons rfl .nil) (hsp H hO hS)) fun r s' h => ?_
    cases r with
    | error e => exact (hCX H e s' h).elim
    | ok fl =>
      cases fl with
      | next => exact False.elim h
      | brk => exact False.elim h
      | cont => exact False.elim h
      | ret u =>
        obtain ⟨v, H', os, bare, un, hok', r', q⟩ := h
        have q' : v = .bl true := q
        subst q'
        obtain rfl : u = Value.bool true := r'
        refine ⟨rfl, OldK.of_keep fun b o e => ?_, os, bare⟩
        cases q : H b with
        | none => exact un.keep b o e q (by intro z; exact absurd (show b ∈ ([] : List Addr) from z) (by simp)) (by simp)
        | some u =>
          rcases hO b with z | ⟨ob, xs, z⟩
          · rw [q] at z; cases z
          · have z2 := un.frzs b ob _ z
            obtain ⟨e1, _⟩ := hok b _ z
            obtain ⟨e2, _⟩ := hok' b _ z2
            rw [e] at e1; cases e1
            exact e2
  cases hk : K.lookup a with
  | some o =>
    -- the script is one of the module's own objects
    have e := KX a o hk
    rw [ha] at e
    cases e
    refine core (fun _ => none) (fun _ => .inl rfl) (.inr ⟨_, vs.toArray, _, hk, rfl, rfl, rfl, by rw [List.size_toArray, lenV]; exact hl, by simpa using rv⟩) (fun b u z => by have z' : (none : Option HO) = some u := z; cases z') (fun b z => absurd rfl z) fun z => absurd rfl z
  | none =>
    refine core (fun b => if b = a then some (.frz { cls := .type "list", data := .seq vs.toArray } (.lst (ns.map V.int))) else none) (fun b => ?_) (.inl (.inr ⟨{ cls := .type "list", data := .seq vs.toArray }, if_pos rfl⟩)) (fun b u z => ?_) (fun b z => ?_) fun _ => hk
    · by_cases hb : b = a
      · exact .inr ⟨_, _, if_pos hb⟩
      · exact .inl (if_neg hb)
    · by_cases hb : b = a
      · have z' := (if_pos hb).symm.trans z
        cases z'
        subst hb
        exact ⟨ha, by rw [List.length_map]; exact hl, vs, _, rv, ha⟩
      · have z' := (if_neg hb).symm.trans z
        cases z'
    · by_cases hb : b = a
      · exact hb
      · exact absurd (if_neg hb) z
end L2

namespace L2
open PySem PySem.Spec PyProof.Rows

abbrev KOf {K : PySem.W.Frag} {h : Heap} (_ : K.In h) : PySem.W.Frag := K

/-- the goal that k_head leaves (case hc), from the law's promise. F gives the function object fd (K's own) once, then the promise over every base -/
theorem walk_of {l : PySem.W.OpenLaw} {n k : Nat} {q : Program} {loose : List Str} {XP : (Str → Option Value) → Heap → Prop} {YP : World → Heap → Prop} {d : DefRec} {K : Params → PySem.W.Frag} {CX : World → CXT} {sp : World → Sp} {x : Str}
    (hn : l.most = some n) (hn2 : n ≤ sizeLine) (hdf : d.params.defaults = []) (hr : Room k callerA)
    (hY : ∀ (w : World) (h : Heap), YP w h → (K w.params).In h)
    (F : ∀ (w : World) (mg : Str → Option Value) (fa : Addr) (h : Heap), (K w.params).In h → h.Ns mainGlobals mg → mg d.name = some (.ref fa) →
      ∃ fd : FuncData, (∀ (s : Shared) (u : Value), BindsTo s fd ⟨[u], []⟩ [(x, u)]) ∧
        ∀ base : Heap, (K w.params).In base → base.Ns mainGlobals mg → FnOk l.prog w (K w.params) mg base (CX w) k fa fd [x] (sp w))
    (hsp : ∀ (w : World) (H : Hp) (a : Addr) (ns : List Int), ns.length ≤ n → Only H → SqL (K w.params) H a (ns.map V.int) → sp w [.ref a] H (fun v _ => v = .bl true) fun _ _ _ => False)
    (hCX : ∀ (w : World) (H : Hp) (s : Shared) (e : Value) (s' : Shared), CX w [] H s (fun _ _ _ => False) e s' → False) :
    PySem.W.WalkO q loose XP YP l.row.toRowW d [] (fun f vs => PySem.call f vs) := by
  refine Att.attach_call hn hdf fun w s₀ s₁ mg mb fa o pm cd doc a vs ns G Y ho hd hcd hmg hobj hints hlen hg => ?_
  have KX := hY w _ Y
  obtain ⟨fd, hb, hF⟩ := F w mg fa _ KX G.T.g hmg
  exact law_call KX G.T.g G.T.b G.T.builtins G.T.nolimit hg hobj hints (Nat.le_trans hlen hn2) hr hF hb (fun H hO hS => hsp w H a ns hlen hO hS) fun H e s' => hCX w H s₁ e s'
end L2

/- THE LAST THEOREM (shape; LID, My.* are yours):
   My.Adr: a structure of the addresses that your layer names (classes, functions); My.Txt K t: a structure (Prop) of the equations over K;
   My.txt_mk : {K} {implicit addresses ..} (e1 : nsIn K mainGlobals "law" = some (some (.ref f))) (e2 : K.lookup f = some ⟨oc, od, .func (fnOf "law" "law" params body scope dV kV doc pm an cdv ct), sl⟩) (e3 : codeIn K cdv "law" = true) .. : ∃ t, My.Txt K t

set_option maxRecDepth 100000 in
set_option maxHeartbeats 0 in
theorem PySem.Challenge.cw_LID_holds : PySem.Challenge.rw_LID.Holds := by
  w_on; o_law; k_head; (case hw => w_witness2)
  k_fill
  refine L2.walk_of (l := PySem.Challenge.rw_LID) (n := 63) (k := 40) (x := "script") (CX := fun w => ..) (sp := fun _ => My.sp_law) rfl (by decide) rfl ⟨rfl, by decide, by decide⟩ (fun w h Y => PySem.W.kIn_of Y) ?F ?S ?C
  case F =>
    intro w mg fa h KX G hmg
    have T : ∃ t, My.Txt (L2.KOf KX) t := by
      dsimp only [L2.KOf]                          -- K must stand as «<heap const> w.params» for k_is
      refine' My.txt_mk ?e1 ?e2 ?e3 ..
      (case e1 => PySem.W.k_is)                    -- in the order: a name -> its address -> its object -> its parts
      (case e2 => PySem.W.k_is)
      ..
    obtain ⟨t, T⟩ := T
    have e0 := hmg.symm.trans (PySem.W.mg_of KX G T.law)
    cases e0                                       -- fa is the law's own address
    exact ⟨_, fun s u => .of_eq rfl, fun base kb nb => My.law_fn T kb nb⟩     -- if «.of_eq rfl» comes too early: refine' ⟨_, ?b, fun base kb nb => My.law_fn T kb nb⟩; exact fun s u => .of_eq rfl
  case S => exact fun w H a ns hl hO hS => ..
  case C => exact ..
(the tactic k_is has no namespace: write k_is) -/

/-! SHORT WORDS over the layer: a def of the text, its body, what a loop and a test want. -/
namespace L2
open PySem PySem.Spec PyProof.Rows

/-! ### the text by places -/
/-- the j-th statement of a class's body -/
def inClass (s : Stmt) (j : Nat) : Stmt := match s with
  | .ClassDef _ _ _ body _ _ _ _ _ _ _ => body.getD j (.Pass ⟨0, 0, 0, 0⟩)
  | _ => .Pass ⟨0, 0, 0, 0⟩
def defArgs (s : Stmt) : Arguments := match s with
  | .FunctionDef _ a _ _ _ _ _ _ _ _ => a
  | _ => { posonlyargs := [], args := [], vararg := none, kwonlyargs := [], kw_defaults := [], kwarg := none, defaults := [] }
def defBody (s : Stmt) : List Stmt := match s with
  | .FunctionDef _ _ b _ _ _ _ _ _ _ => b
  | _ => []
def defScope (s : Stmt) : Scope := match s with
  | .FunctionDef _ _ _ _ _ _ sc _ _ _ => sc
  | _ => { kind := .function, names := [], isGenerator := false, isCoroutine := false }

/-! ### no exception leaves a def -/
abbrev CX0 : CXT := fun _ _ _ _ _ _ => False
abbrev E0 : XK := fun _ _ _ => False
/-! ### a def (or method) of the text as it stands behind the top -/
structure Fun (K : PySem.W.Frag) (x qual : Str) (st : Stmt) (f : Addr) (fd : FuncData) : Prop where
  ex : ∃ (oc : Value) (od : Option Addr) (kV doc pm : Value) (an : Option Addr) (cdv ct : Value) (osl : Array (Option Value)),
    fd = PySem.W.fnOf x qual (defArgs st) (defBody st) (defScope st) .none kV doc pm an cdv ct ∧ K.lookup f = some ⟨oc, od, .func fd, osl⟩ ∧ PySem.W.codeIn K cdv qual = true
  kp : PySem.W.keepIn K (.ref f) = true
section
variable {P : Program} {w : World} {K : PySem.W.Frag} {mg : Str → Option Value} {base : Heap}
/-- THE RULE for a def: its body as a term of rules, and the reading of that term -/
theorem Fun.ok {x qual : Str} {st : Stmt} {f : Addr} {fd : FuncData} {N ps : List Str} {k : Nat} {sp : Sp} (F : Fun K x qual st f fd) (S : FnScope N ps (defScope st)) (len : ∀ vs H Q E, sp vs H Q E → vs.length = ps.length)
    (hbody : ∀ (cdv : Value) (A : Around) (outer : List Env) (s : Shared) (H : Hp) (vs : List V) (Q : VK) (E : XK), Room k (A.deeper (envOfC qual (defScope st) s.heap.objs.size f cdv)) → sp vs H Q E →
      ∃ t, PSs (cxOf CX0 P w K mg base N qual (defScope st) f cdv A outer s H E).nox (defBody st) t ∧ t { nx := fun _ H' => Q .non H', rt := Q } (start N vs) H) : FnOk P w K mg base CX0 (k + 1) f fd ps sp := by
  obtain ⟨oc, od, kV, doc, pm, an, cdv, ct, osl, rfl, lk, hcd⟩ := F.ex
  refine fn_of lk hcd S len fun A outer s H vs Q E hr hsp => ?_
  obtain ⟨t, h, q⟩ := hbody cdv A outer s H vs Q E hr hsp
  exact ⟨t, h.nox, q⟩
/-- how its arguments bind (no defaults): h is «fun _ _ _ _ _ _ us hl => match us, hl with | [_, _], _ => rfl», one _ a parameter -/
theorem Fun.binds {x qual : Str} {st : Stmt} {f : Addr} {fd : FuncData} {ps : List Str} (F : Fun K x qual st f fd)
    (h : ∀ (kV doc pm : Value) (an : Option Addr) (cdv ct : Value) (us : List Value), us.length = ps.length → bindArgs (PySem.W.fnOf x qual (defArgs st) (defBody st) (defScope st) .none kV doc pm an cdv ct) ⟨us, []⟩ = pure (ps.zip us)) : Binds K fd ps [] := by
  obtain ⟨oc, od, kV, doc, pm, an, cdv, ct, osl, rfl, lk, hcd⟩ := F.ex
  exact .all (h kV doc pm an cdv ct)
theorem fun_mk {x qual : Str} {st : Stmt} {f : Addr} {oc : Value} {od an : Option Addr} {osl : Array (Option Value)} {kV doc pm cdv ct : Value} (l : K.lookup f = some ⟨oc, od, .func (PySem.W.fnOf x qual (defArgs st) (defBody st) (defScope st) .none kV doc pm an cdv ct), osl⟩)
    (c : PySem.W.codeIn K cdv qual = true) (k : PySem.W.keepIn K (.ref f) = true) : Fun K x qual st f (PySem.W.fnOf x qual (defArgs st) (defBody st) (defScope st) .none kV doc pm an cdv ct) := ⟨⟨oc, od, kV, doc, pm, an, cdv, ct, osl, rfl, l, c⟩, k⟩
end
theorem small1000 {n : Nat} (h : n ≤ 1000) : n < sizeLine := Nat.lt_of_le_of_lt h (by decide)

/-! ### expressions in short: the name that stands in the i-th slot -/
section
variable {X : Cx}
theorem pv (i : Nat) {x : Str} {pos : Pos} (hN : X.N[i]? = some x := by rfl) (hv : Vis X.env.scope x := by first | exact Or.inl rfl | exact Or.inr (Or.inl rfl) | exact Or.inr (Or.inr rfl)) (hd : (x == ("__debug__" : Str)) = false := by decide)
    (hcd : (x == ("__classdict__" : Str)) = false := by decide) : PE X (.Name x pos) (tVar i) := pe_var hN hv hd hcd
end

/-! ### tests -/
/-! ### heaps -/
/-- all that was tracked is as it was -/
def Same (H H' : Hp) : Prop := ∀ b o, H b = some o → H' b = some o
theorem Same.refl (H : Hp) : Same H H := fun _ _ h => h
theorem Same.trans {H H1 H2 : Hp} (a : Same H H1) (b : Same H1 H2) : Same H H2 := fun c o h => b c o (a c o h)
theorem Same.free {H H' : Hp} (e : Same H H') {l : Addr} (h : H' l = Option.none) : H l = Option.none := by
  cases q : H l with
  | none => rfl
  | some o =>
    rw [e l o q] at h
    cases h
theorem Same.seq {K : PySem.W.Frag} {H H' : Hp} {a : Addr} {xs : List V} (e : Same H H') (h : SqL K H a xs) : SqL K H' a xs := by
  rcases h with (h | ⟨o, h⟩) | h
  · exact .inl (.inl (e _ _ h))
  · exact .inl (.inr ⟨o, e _ _ h⟩)
  · exact .inr h

end L2

set_option Elab.async false
set_option linter.all false
set_option Elab.async false
set_option linter.all false
set_option maxRecDepth 100000
namespace L2
open PySem PySem.Spec PyProof.Rows

end L2

namespace L2
open PySem PySem.Spec PyProof.Rows

section
variable (P : Program) (w : World)
end

section
variable {P : Program} {w : World} {H H' : Hp} {h h' : Heap} {a : Addr} {o : HO}
end

section
variable {P : Program} {w : World} {H : Hp} {h h' : Heap} {x e : Addr} {o' : HO}
end

section
variable {fs fs' ex ex' : List Addr} {H H1 H2 : Hp} {h h1 h2 h' : Heap} {a x e : Addr} {o : HO}
end

end L2

namespace L2
open PySem PySem.Spec PyProof.Rows

section
variable {X : Cx} {pins : List (Addr × Obj)} {σ : List (Option V)} {H H' : Hp} {s : Shared} {h' : Heap}

end

end L2

namespace L2
open PySem PySem.Spec PyProof.Rows
section
variable {X : Cx}

variable {a b : Expr} {ta tb : TE} {pos : Pos}
variable {tA tB' : TT} {rest : List Expr}
end
end L2

namespace L2
open PySem PySem.Spec PyProof.Rows

section
variable {X : Cx} {pins : List (Addr × Obj)} {σ : St} {H : Hp} {s : Shared} {a : Addr} {xs ys : List V}
end

section
variable {X : Cx} {pins : List (Addr × Obj)} {σ : St} {H : Hp} {s : Shared} {E : Value → Shared → Prop}
end

section
variable {X : Cx} {st : Stmt} {rest : List Stmt} {t u : TS} {e : Expr} {te : TE} {pos : Pos}
end

section
variable {X : Cx} {pos : Pos}
end

section
variable {X : Cx} {pos : Pos}
end

end L2

namespace L2
open PySem PySem.Spec PyProof.Rows
section
variable {X : Cx} {tg : Expr}
end

end L2

namespace L2
open PySem PySem.Spec PyProof.Rows

section
variable {X : Cx} {a b c : Expr} {ta tb tc : TE} {pos : Pos}

end

section
variable {X : Cx} {a b c : Expr} {ta tb tc : TE} {pos : Pos}
end
end L2

namespace L2
open PySem PySem.Spec PyProof.Rows

section
variable {prog : Program} {w : World} {A : Around} {E : Value → Shared → Prop} {s : Shared} {K : PySem.W.Frag} {x dx C f : Addr} {mA : Str → Option Value} {name : Str} {v : Value}

end

section
variable {P : Program} {w : World} {H H' : Hp} {h h' : Heap} {a C dx : Addr} {fs fs' : List (Str × V)}
end

section
variable {X : Cx} {pins : List (Addr × Obj)} {σ : St} {H : Hp} {s : Shared} {a C dx : Addr} {fs : List (Str × V)} {f : Str} {v : V} {A : Around} {E : Value → Shared → Prop}

end

section
variable {X : Cx} {o e value : Expr} {f : Str} {pos pos' tpos : Pos} {ta tv : TE}
end

section
variable {X : Cx} {pins : List (Addr × Obj)} {σ : St} {H : Hp} {s : Shared} {A : Around} {E : Value → Shared → Prop} {Q : Value → Shared → Prop} {c : Value} {b : Bool}
end
end L2

namespace L2
open PySem PySem.Spec PyProof.Rows

section
variable {X : Cx} {e : Expr} {es : List Expr} {te : TE} {t : TA} {pos : Pos}
end

section
variable {X : Cx} {pins : List (Addr × Obj)} {σ : St} {H : Hp} {s s' : Shared}
end

section
variable {X : Cx} {CX : CXT} {k : Nat} {f C : Addr} {fd : FuncData} {ps : List Str} {sp : Sp} {dvs : List V} {ds : List Value} {E : XK} {x m : Str} {p pos apos : Pos} {e o : Expr} {es : List Expr} {ta : TE} {t : TA}

end

section
variable {X : Cx} {CX : CXT} {k : Nat} {f C : Addr} {fd : FuncData} {ps ks : List Str} {sp : Sp} {E : XK} {x m : Str} {p pos apos kpos : Pos} {e o : Expr} {es : List Expr} {kws : List Keyword} {te ta : TE} {t tk : TA} {nm : Option Str}
variable {g : List Value → List Value → List Value} {gV : List V → List V → List V}
end

end L2

namespace L2
open PySem PySem.Spec PyProof.Rows
section
variable {X : Cx} {x : Str} {p pos : Pos} {e : Expr} {es : List Expr} {t : TA} {id T : String} {r : List V → Hp → VK → Prop}

end
end L2

namespace L2
open PySem PySem.Spec PyProof.Rows

section
variable {κ : Type} [DecidableEq κ]
def valV (kvs : List (κ × V)) (k : κ) : Option V := (kvs.find? fun kv => decide (kv.1 = k)).map (·.2)
def putK (kvs : List (κ × V)) (k : κ) (v : V) : List (κ × V) :=
  if (kvs.any fun kv => decide (kv.1 = k)) = true then kvs.map (fun kv => if kv.1 = k then (kv.1, v) else kv) else kvs ++ [(k, v)]
def dropK (kvs : List (κ × V)) (k : κ) : List (κ × V) := kvs.filter fun kv => decide (kv.1 ≠ k)

theorem valV_pos {p : κ × V} {r : List (κ × V)} {k : κ} (e : p.1 = k) : valV (p :: r) k = some p.2 := by simp [valV, List.find?_cons, e]
theorem valV_neg {p : κ × V} {r : List (κ × V)} {k : κ} (e : ¬ p.1 = k) : valV (p :: r) k = valV r k := by simp [valV, List.find?_cons, e]
theorem valV_any (k : κ) : ∀ kvs : List (κ × V), (kvs.any fun kv => decide (kv.1 = k)) = (valV kvs k).isSome
  | [] => rfl
  | p :: r => by
    rw [List.any_cons]
    by_cases e : p.1 = k
    · simp only [valV_pos e, decide_eq_true e, Bool.true_or, Option.isSome_some]
    · rw [valV_neg e, decide_eq_false e, Bool.false_or]; exact valV_any k r
theorem RelO.isSome_eq {o : Option V} {u : Option Value} (r : RelO o u) : o.isSome = u.isSome := by
  cases o with
  | none => cases u with
    | none => rfl
    | some _ => exact (show False from r).elim
  | some _ => cases u with
    | none => exact (show False from r).elim
    | some _ => rfl
theorem RelO.getD {o : Option V} {u : Option Value} {d : V} {d' : Value} (r : RelO o u) (rd : RelV d d') : RelV (o.getD d) (u.getD d') := by
  cases o with
  | none => cases u with
    | none => exact rd
    | some _ => exact (show False from r).elim
  | some _ => cases u with
    | none => exact (show False from r).elim
    | some _ => exact r

theorem KV.val {kvs : List (κ × V)} {vs : List (κ × Value)} (r : KV kvs vs) (k : κ) : RelO (valV kvs k) (valueAt vs k) := by
  unfold KV at r
  induction r with
  | nil => exact True.intro
  | @cons p q ps qs h t ih =>
    obtain ⟨h1, h2⟩ := h
    by_cases e : p.1 = k
    · have e' : q.1 = k := h1.symm.trans e
      have b : valueAt (q :: qs) k = some q.2 := by simp [valueAt, List.find?_cons, e']
      rw [valV_pos e, b]; exact h2
    · have e' : ¬ q.1 = k := fun z => e (h1.trans z)
      have b : valueAt (q :: qs) k = valueAt qs k := by simp [valueAt, List.find?_cons, e']
      rw [valV_neg e, b]; exact ih
theorem KV.any {kvs : List (κ × V)} {vs : List (κ × Value)} (r : KV kvs vs) (k : κ) : (kvs.any fun kv => decide (kv.1 = k)) = vs.any fun kv => decide (kv.1 = k) := by
  unfold KV at r
  induction r with
  | nil => rfl
  | cons h t ih => rw [List.any_cons, List.any_cons, ih, h.1]
theorem KV.repl {kvs : List (κ × V)} {vs : List (κ × Value)} (r : KV kvs vs) (k : κ) {y : V} {u : Value} (ry : RelV y u) :
    KV (kvs.map fun kv => if kv.1 = k then (kv.1, y) else kv) (vs.map fun kv => if kv.1 = k then (kv.1, u) else kv) := by
  unfold KV at r ⊢
  induction r with
  | nil => exact .nil
  | @cons p q ps qs h t ih =>
    rw [List.map_cons, List.map_cons]
    refine .cons ?_ ih
    obtain ⟨h1, h2⟩ := h
    by_cases e : p.1 = k
    · rw [if_pos e, if_pos (h1.symm.trans e)]; exact ⟨h1, ry⟩
    · rw [if_neg e, if_neg (fun z => e (h1.trans z))]; exact ⟨h1, h2⟩
theorem KV.put {kvs : List (κ × V)} {vs : List (κ × Value)} (r : KV kvs vs) (k : κ) {y : V} {u : Value} (ry : RelV y u) : KV (putK kvs k y) (stored vs k u) := by
  unfold putK stored
  rw [r.any k]
  by_cases e : (vs.any fun kv => decide (kv.1 = k)) = true
  · rw [if_pos e, if_pos e]; exact r.repl k ry
  · rw [if_neg e, if_neg e]; exact Paired.snoc r ⟨rfl, ry⟩
theorem KV.drop {kvs : List (κ × V)} {vs : List (κ × Value)} (r : KV kvs vs) (k : κ) : KV (dropK kvs k) (without vs k) := by
  unfold KV at r ⊢
  unfold dropK without
  induction r with
  | nil => exact .nil
  | @cons p q ps qs h t ih =>
    obtain ⟨h1, h2⟩ := h
    rw [List.filter_cons, List.filter_cons]
    by_cases e : p.1 = k
    · have a : ¬ decide (p.1 ≠ k) = true := by simp [e]
      have b : ¬ decide (q.1 ≠ k) = true := by simp [h1.symm.trans e]
      rw [if_neg a, if_neg b]; exact ih
    · have e' : ¬ q.1 = k := fun z => e (h1.trans z)
      have a : decide (p.1 ≠ k) = true := by simp [e]
      have b : decide (q.1 ≠ k) = true := by simp [e']
      rw [if_pos a, if_pos b]; exact .cons ⟨h1, h2⟩ ih
theorem KV.keys {kvs : List (κ × V)} {vs : List (κ × Value)} (r : KV kvs vs) : kvs.map (·.1) = vs.map (·.1) := by
  unfold KV at r
  induction r with
  | nil => rfl
  | cons h t ih => rw [List.map_cons, List.map_cons, ih, h.1]
theorem KV.length {kvs : List (κ × V)} {vs : List (κ × Value)} (r : KV kvs vs) : kvs.length = vs.length := Paired.length r
end


theorem kV_is {P : Program} {w : World} {k : Key} {u : Value} (r : RelV (kV k) u) : (mixKind P w).is k u = true := by
  cases k with
  | inl i => obtain ⟨t, e⟩ := (show ∃ t, u = Value.int i t from r); subst e; exact mixKind_int P w i t
  | inr x => obtain ⟨t, e⟩ := (show ∃ t, u = Value.str x t from r); subst e; exact mixKind_str P w x t
theorem items_are {P : Program} {w : World} : ∀ {ks : List Key} {us : List Value}, Vals (ks.map kV) us → ItemsAre (mixKind P w) ks us
  | [], _, r => by rw [List.map_nil] at r; cases r; exact .nil
  | k :: ks, _, r => by
    rw [List.map_cons] at r
    cases r with
    | cons h t => exact .cons (kV_is h) (items_are t)

abbrev KT (H : Hp) : List (List Key × V) → List (List Key × Addr × Value) → Prop := Paired fun p q => p.1 = q.1 ∧ H q.2.1 = some (.tup (p.1.map kV)) ∧ RelV p.2 q.2.2
theorem KT.val {H : Hp} {kvs : List (List Key × V)} {xs : List (List Key × Addr × Value)} (r : KT H kvs xs) (k : List Key) : RelO (valV kvs k) ((atKey xs k).map (·.2)) := by
  induction r with
  | nil => exact True.intro
  | @cons p q ps qs h t ih =>
    obtain ⟨h1, _, h2⟩ := h
    by_cases e : p.1 = k
    · have e' : q.1 = k := h1.symm.trans e
      have b : atKey (q :: qs) k = some q.2 := by simp [atKey, List.find?_cons, e']
      rw [valV_pos e, b]; exact h2
    · have e' : ¬ q.1 = k := fun z => e (h1.trans z)
      have b : atKey (q :: qs) k = atKey qs k := by simp [atKey, List.find?_cons, e']
      rw [valV_neg e, b]; exact ih
theorem KT.repl {H : Hp} {kvs : List (List Key × V)} {xs : List (List Key × Addr × Value)} (r : KT H kvs xs) (k : List Key) {y : V} {u : Value} (ry : RelV y u) :
    KT H (kvs.map fun kv => if kv.1 = k then (kv.1, y) else kv) (xs.map (putAt k u)) := by
  induction r with
  | nil => exact .nil
  | @cons p q ps qs h t ih =>
    rw [List.map_cons, List.map_cons]
    refine .cons ?_ ih
    obtain ⟨h1, h2, h3⟩ := h
    unfold putAt
    by_cases e : p.1 = k
    · rw [if_pos e, if_pos (h1.symm.trans e)]; exact ⟨h1, h2, ry⟩
    · rw [if_neg e, if_neg (fun z => e (h1.trans z))]; exact ⟨h1, h2, h3⟩
theorem KT.put {H : Hp} {kvs : List (List Key × V)} {xs : List (List Key × Addr × Value)} (r : KT H kvs xs) (k : List Key) {b : Addr} {y : V} {u : Value} (hb : H b = some (.tup (k.map kV))) (ry : RelV y u) :
    KT H (putK kvs k y) (storedH xs k b u) := by
  have e : (kvs.any fun kv => decide (kv.1 = k)) = (atKey xs k).isSome := by
    rw [valV_any, (r.val k).isSome_eq, Option.isSome_map]
  unfold putK storedH
  rw [e]
  by_cases q : (atKey xs k).isSome = true
  · rw [if_pos q, if_pos q]; exact r.repl k ry
  · rw [if_neg q, if_neg q]; exact Paired.snoc r ⟨rfl, hb, ry⟩
theorem KT.keeps {H H' : Hp} {kvs : List (List Key × V)} {xs : List (List Key × Addr × Value)} (r : KT H kvs xs) (ht : ∀ b ys, H b = some (.tup ys) → H' b = some (.tup ys)) : KT H' kvs xs :=
  Paired.mapP r fun _ _ z => ⟨z.1, ht _ _ z.2.1, z.2.2⟩

section
variable {P : Program} {w : World} {H : Hp} {h : Heap} {a : Addr}
theorem rd_of {u : HO} (ok : HOk P w H h) (e : Rd H a u) : ObjOk P w H h a u := e.ok ok
theorem dk_rd {kvs : List (Key × V)} (ok : HOk P w H h) (e : Rd H a (.dK kvs)) : kvs.length ≤ sizeLine ∧ (a == sysModules) = false ∧ ∃ vs, KV kvs vs ∧ h.DictOf (mixKind P w) a vs :=
  show ObjOk P w H h a (.dK kvs) from rd_of ok e
theorem key_of {ks : List Key} (ok : HOk P w H h) (e : H a = some (.tup (ks.map kV))) : (tupleKind (mixKind P w)).is h ks a := by
  obtain ⟨_, its, r, o, h1, h2, n, h3⟩ := (show ObjOk P w H h a (.tup (ks.map kV)) from ok a _ e)
  exact ⟨o, its.toArray, n, h1, h2, h3, by simpa using items_are r⟩
theorem dt_rd {kvs : List (List Key × V)} (ok : HOk P w H h) (e : Rd H a (.dT kvs)) : kvs.length ≤ sizeLine ∧ (a == sysModules) = false ∧
    ∃ xs, KT H kvs xs ∧ h.DictOfH (tupleKind (mixKind P w)) a xs := by
  obtain ⟨z, y, xs, r, o, es, ep, h1, h2, h3, h4, h5⟩ := (show ObjOk P w H h a (.dT kvs) from rd_of ok e)
  refine ⟨z, y, xs, r, o, es, ep, h1, h2, h3, h4, fun x hx => ?_, h5⟩
  have all : ∀ {l : List (List Key × V)} {m : List (List Key × Addr × Value)}, KT H l m → ∀ x ∈ m, (tupleKind (mixKind P w)).is h x.1 x.2.1 := by
    intro l m q
    induction q with
    | nil => intro x hx; exact nomatch hx
    | @cons p q ps qs hq t ih =>
      intro x hx
      rcases List.mem_cons.mp hx with e | hx
      · subst e
        exact key_of ok (by rw [← hq.1]; exact hq.2.1)
      · exact ih x hx
  exact all r x hx
end

def DGet (H : Hp) (a : Addr) (y : V) (r : Option V) : Prop :=
  (∃ kvs k, Rd H a (.dK kvs) ∧ y = kV k ∧ r = valV kvs k) ∨ ∃ kvs k b, Rd H a (.dT kvs) ∧ y = .ref b ∧ H b = some (.tup (k.map kV)) ∧ r = valV kvs k
def DPut (H : Hp) (a : Addr) (y v : V) (H' : Hp) : Prop :=
  (∃ kvs k, H a = some (.dK kvs) ∧ y = kV k ∧ kvs.length < sizeLine ∧ H' = upd H a (.dK (putK kvs k v))) ∨
  ∃ kvs k b, H a = some (.dT kvs) ∧ y = .ref b ∧ H b = some (.tup (k.map kV)) ∧ kvs.length < sizeLine ∧ H' = upd H a (.dT (putK kvs k v))
theorem DGet.k {H : Hp} {a : Addr} {kvs : List (Key × V)} {k : Key} (e : H a = some (.dK kvs)) : DGet H a (kV k) (valV kvs k) := .inl ⟨kvs, k, .inl e, rfl, rfl⟩
theorem DGet.t {H : Hp} {a b : Addr} {kvs : List (List Key × V)} {k : List Key} (e : H a = some (.dT kvs)) (eb : H b = some (.tup (k.map kV))) : DGet H a (.ref b) (valV kvs k) := .inr ⟨kvs, k, b, .inl e, rfl, eb, rfl⟩
theorem DPut.k {H : Hp} {a : Addr} {kvs : List (Key × V)} {k : Key} {v : V} (e : H a = some (.dK kvs)) (hl : kvs.length < sizeLine) : DPut H a (kV k) v (upd H a (.dK (putK kvs k v))) := .inl ⟨kvs, k, e, rfl, hl, rfl⟩
theorem DPut.t {H : Hp} {a b : Addr} {kvs : List (List Key × V)} {k : List Key} {v : V} (e : H a = some (.dT kvs)) (eb : H b = some (.tup (k.map kV))) (hl : kvs.length < sizeLine) :
    DPut H a (.ref b) v (upd H a (.dT (putK kvs k v))) := .inr ⟨kvs, k, b, e, rfl, eb, hl, rfl⟩


section
variable {X : Cx} {pins : List (Addr × Obj)} {σ : St} {H : Hp} {s : Shared} {a : Addr} {y v : V} {u r : Value} {o : Option V} {A : Around} {E : Value → Shared → Prop}

theorem d_getItem {Q : Value → Shared → Prop} (hu : A.units + 1 < cLine) (I : Inv X pins σ H s) (g : DGet H a y (some v)) (ry : RelV y u) (h : ∀ w' s', Inv X pins σ H s' → RelV v w' → Q w' s') :
    wpAny (model X.prog X.w) A (getItem (.ref a) u) Q E s := by
  rcases g with ⟨kvs, k, e, ey, l⟩ | ⟨kvs, k, b, e, ey, eb, l⟩
  · subst ey
    obtain ⟨z, hd, vs, rel, dd⟩ := dk_rd I.hok e
    obtain ⟨w', hw, rw'⟩ := RelO.some_of (v := v) (o := valueAt vs k) (by rw [l]; exact rel.val k)
    exact wpAny_getItem_of (kV_is ry) dd.mapOf hw (h w' _ (I.tok _) rw')
  · subst ey
    cases (show u = Value.ref b from ry)
    obtain ⟨z, hd, xs, rel, dd⟩ := dt_rd I.hok e
    obtain ⟨w', hw, rw'⟩ := RelO.some_of (v := v) (o := (atKey xs k).map (·.2)) (by rw [l]; exact rel.val k)
    obtain ⟨p, hp, hp2⟩ := Option.map_eq_some_iff.mp hw
    refine wpAny_getItem_heap (tupleKind_room_in1 hu) (key_of I.hok eb) dd hp ?_
    rw [hp2]
    exact h w' _ (I.tok _) rw'
end

section
variable {X : Cx} {pins : List (Addr × Obj)} {σ : St} {H : Hp} {s : Shared} {a : Addr} {kvs : List (Key × V)} {k : Key} {u : Value} {A : Around} {E : Value → Shared → Prop}
end


theorem dict_typeIs {X : Cx} {pins : List (Addr × Obj)} {σ : St} {H : Hp} {s : Shared} {a : Addr} {y : V} {o : Option V} (I : Inv X pins σ H s) (g : DGet H a y o) : s.TypeIs (.ref a) "dict" := by
  rcases g with ⟨kvs, k, e, _, _⟩ | ⟨kvs, k, b, e, _, _, _⟩
  · obtain ⟨_, _, vs, _, dd⟩ := dk_rd I.hok e
    exact dd.typeIs
  · obtain ⟨_, _, xs, _, dd⟩ := dt_rd I.hok e
    exact dd.typeIs
section
variable {X : Cx} {o i e value : Expr} {pos pos' tpos : Pos} {td ty tv : TE}
end


section
variable {X : Cx} {pos : Pos}
end

def IsD (H : Hp) (a : Addr) : Prop := (∃ kvs, Rd H a (.dK kvs)) ∨ ∃ kvs, Rd H a (.dT kvs)
theorem isD_at {X : Cx} {pins : List (Addr × Obj)} {σ : St} {H : Hp} {s : Shared} {a : Addr} (I : Inv X pins σ H s) (d : IsD H a) :
    s.TypeIs (.ref a) "dict" ∧ (∀ b, Value.ref a = .ref b → ∃ ob, s.heap.get? b = some ob ∧ ob.dict = none) ∧ (a == sysModules) = false := by
  rcases d with ⟨kvs, e⟩ | ⟨kvs, e⟩
  · obtain ⟨_, hd, vs, _, dd⟩ := dk_rd I.hok e
    refine ⟨dd.typeIs, fun b q => ?_, hd⟩
    cases q
    obtain ⟨ob, _, _, h1, h2, _⟩ := dd
    exact ⟨ob, h1, h2.2.1⟩
  · obtain ⟨_, hd, xs, _, dd⟩ := dt_rd I.hok e
    refine ⟨dd.typeIs, fun b q => ?_, hd⟩
    cases q
    obtain ⟨ob, _, _, h1, h2, _⟩ := dd
    exact ⟨ob, h1, h2.2.1⟩

section
variable {X : Cx} {pins : List (Addr × Obj)} {σ : St} {H : Hp} {s : Shared} {a : Addr} {y d : V} {u r : Value} {o : Option V} {A : Around} {E : Value → Shared → Prop}
end

section
variable {X : Cx} {o e f : Expr} {apos cpos : Pos} {td ty tx : TE}
end

section
variable {X : Cx} {pins : List (Addr × Obj)} {σ : St} {H : Hp} {s : Shared} {a : Addr} {kvs : List (Key × V)} {A : Around} {E : Value → Shared → Prop}
end


section
variable {X : Cx} {pins : List (Addr × Obj)} {σ : St} {H : Hp} {s : Shared} {a : Addr} {y : V} {u : Value} {A : Around} {E : Value → Shared → Prop}
end
end L2

namespace Att
open PySem PySem.W PySem.Calls PyProof.Rows

section
variable {prog : Program} {w : World} {A : Around} {E : Value → Shared → Prop} {s : Shared} {K : Frag}

end
end Att

namespace L2
open PySem PySem.Spec PyProof.Rows

end L2

namespace L2
open PySem PySem.Spec PyProof.Rows

end L2


namespace L2
open PySem PySem.Spec PyProof.Rows

section
variable {P : Program} {w : World} {K : PySem.W.Frag} {mg : Str → Option Value} {base : Heap}
end
section
variable {X : Cx}
end

section
variable {κ : Type} [DecidableEq κ]
end
end L2


set_option Elab.async false
set_option linter.all false
set_option maxRecDepth 100000
namespace L2
open PySem PySem.Spec PyProof.Rows

/-! ### a comprehension's block -/
/-- what the block's names must be -/
def scOk (sc outer : Scope) : Bool :=
  decide (sc.kind = .function) && sc.names.all fun y => decide (y.2 ≠ .cell) && (decide (y.2 ≠ .free) || decide (outer.names.lookup y.1 = some .cell) || decide (outer.names.lookup y.1 = some .free)) && (decide (y.2 ≠ .local) || decide (sc.names.lookup y.1 = some .local))
/-- the block's names, each with its place among the names around it (none: its own) -/
def muOk (N NB : List Str) (sc : Scope) (μ : List (Option Nat)) : Bool :=
  decide (NB.length = μ.length) && (NB.zip μ).all fun p => match p.2 with
    | none => true
    | some i => decide (N[i]? = some p.1) && decide (sc.names.lookup p.1 = some .free)
def muSt (μ : List (Option Nat)) (σ : St) : St := μ.map fun o => o.bind fun i => (σ[i]?).join
def clGo (cells : List (Str × Addr)) : List (Str × NameKind) → List (Str × Addr) → List (Str × Addr)
  | [], cs => cs
  | (n, k) :: r, cs => clGo cells r (if (k == .free) = true then (n, (cells.lookup n).getD 0) :: cs else cs)
theorem closureFor_eq {scope : Scope} {env : Env} (h : ∀ y ∈ scope.names, y.2 = .free → ∃ c, env.cells.lookup y.1 = some c) : closureFor scope env = pure (clGo env.cells scope.names []) := by
  unfold closureFor
  have key : ∀ (names : List (Str × NameKind)) (cs : List (Str × Addr)), (∀ y ∈ names, y.2 = .free → ∃ c, env.cells.lookup y.1 = some c) →
      (forIn names cs fun (x : Str × NameKind) r => match x with
        | (name, kind) => if (kind == NameKind.free) = true then do
            let __do_lift ← cellOf env name
            pure (ForInStep.yield ((name, __do_lift) :: r))
          else pure (ForInStep.yield r) : Sem _) = pure (clGo env.cells names cs) := by
    intro names
    induction names with
    | nil => intro cs _; rfl
    | cons y r ih =>
      intro cs hy
      obtain ⟨n, k⟩ := y
      rw [List.forIn_cons]
      by_cases hk : k = .free
      · subst hk
        obtain ⟨c, hc⟩ := hy (n, .free) List.mem_cons_self rfl
        have e : cellOf env n = pure c := by unfold cellOf; rw [show env.cells.lookup n = some c from hc]
        simp only [e, beq_self_eq_true, if_true, pure_bind]
        rw [ih _ fun z hz => hy z (List.mem_cons_of_mem _ hz)]
        simp only [clGo, beq_self_eq_true, if_true]
        rw [show env.cells.lookup n = some c from hc]; rfl
      · have hb : (k == NameKind.free) = false := by simpa using hk
        simp only [hb, Bool.false_eq_true, if_false, pure_bind]
        rw [ih _ fun z hz => hy z (List.mem_cons_of_mem _ hz)]
        simp only [clGo, hb, Bool.false_eq_true, if_false]
  have q := key scope.names [] h
  simp only [bind_pure]
  exact q
theorem clGo_mem {cells : List (Str × Addr)} : ∀ {names : List (Str × NameKind)} {cs : List (Str × Addr)} {x : Str} {c : Addr}, (x, c) ∈ clGo cells names cs → (x, c) ∈ cs ∨ ((x, .free) ∈ names ∧ c = (cells.lookup x).getD 0)
  | [], cs, x, c, h => .inl h
  | (n, k) :: r, cs, x, c, h => by
    rcases clGo_mem (names := r) h with q | ⟨q, e⟩
    · by_cases hk : k = .free
      · subst hk
        simp only [beq_self_eq_true, if_true] at q
        rcases List.mem_cons.mp q with z | z
        · cases z; exact .inr ⟨List.mem_cons_self, rfl⟩
        · exact .inl z
      · have hb : (k == NameKind.free) = false := by simpa using hk
        simp only [hb, Bool.false_eq_true, if_false] at q
        exact .inl q
    · exact .inr ⟨List.mem_cons_of_mem _ q, e⟩
theorem clGo_keeps {cells : List (Str × Addr)} : ∀ {names : List (Str × NameKind)} {cs : List (Str × Addr)} {p : Str × Addr}, p ∈ cs → p ∈ clGo cells names cs
  | [], _, _, h => h
  | (n, k) :: r, cs, p, h => by
    show p ∈ clGo cells r _
    refine clGo_keeps ?_
    by_cases hk : (k == NameKind.free) = true
    · rw [if_pos hk]; exact List.mem_cons_of_mem _ h
    · rw [if_neg hk]; exact h
theorem clGo_has {cells : List (Str × Addr)} : ∀ {names : List (Str × NameKind)} {cs : List (Str × Addr)} {x : Str}, (x, .free) ∈ names → ∃ c, (x, c) ∈ clGo cells names cs
  | (n, k) :: r, cs, x, h => by
    rcases List.mem_cons.mp h with z | z
    · cases z
      refine ⟨(cells.lookup n).getD 0, ?_⟩
      show _ ∈ clGo cells r (if (NameKind.free == NameKind.free) = true then _ else _)
      exact clGo_keeps (by rw [if_pos (beq_self_eq_true _)]; exact List.mem_cons_self)
    · exact clGo_has (names := r) z
theorem lookup_of_mem {x : Str} {c : Addr} : ∀ {l : List (Str × Addr)}, (x, c) ∈ l → ∃ c', l.lookup x = some c'
  | (y, d) :: r, h => by
    rw [List.lookup_cons]
    by_cases e : (x == y) = true
    · rw [e]; exact ⟨d, rfl⟩
    · rw [Bool.eq_false_iff.mpr e]
      rcases List.mem_cons.mp h with z | z
      · cases z; exact absurd (beq_self_eq_true x) e
      · exact lookup_of_mem z
/-- the block's names behind relabel -/
theorem relabel_look {scope : Scope} {env : Env} {x : Str} {k : NameKind} (h : (relabel scope env).names.lookup x = some k) : ∃ k', scope.names.lookup x = some k' ∧ (k = k' ∨ (k' = .free ∧ k = .cell)) := by
  unfold relabel at h
  dsimp only at h
  revert h
  induction scope.names with
  | nil => intro h; cases h
  | cons y r ih =>
    obtain ⟨n, k'⟩ := y
    intro h
    rw [List.map_cons, List.lookup_cons] at h
    rw [List.lookup_cons]
    by_cases hc : (k' == NameKind.free && env.scope.kind == .function && env.kindOf n == some .cell) = true
    · dsimp only at h
      rw [if_pos hc] at h
      dsimp only at h
      cases e : x == n with
      | true =>
        rw [e] at h
        have hf : k' = .free := by
          have := hc
          simp only [Bool.and_eq_true] at this
          simpa using this.1.1
        exact ⟨k', rfl, .inr ⟨hf, (Option.some.inj h).symm⟩⟩
      | false => rw [e] at h; exact ih h
    · dsimp only at h
      rw [if_neg hc] at h
      dsimp only at h
      cases e : x == n with
      | true => rw [e] at h; exact ⟨k', rfl, .inl (Option.some.inj h).symm⟩
      | false => rw [e] at h; exact ih h
theorem lookup_mem {α : Type} {x : Str} {k : α} : ∀ {l : List (Str × α)}, l.lookup x = some k → (x, k) ∈ l
  | (y, d) :: r, h => by
    rw [List.lookup_cons] at h
    cases e : x == y with
    | true => rw [e] at h; cases h; have : x = y := by simpa using e
              subst this; exact List.mem_cons_self
    | false => rw [e] at h; exact List.mem_cons_of_mem _ (lookup_mem h)
end L2

set_option Elab.async false
set_option linter.all false
set_option maxRecDepth 100000
namespace L2
open PySem PySem.Spec PyProof.Rows

def blockOf (X : Cx) (s : Shared) (H : Hp) (scope : Scope) (C : Addr) (NB : List Str) (ex : List Addr) : Cx :=
  { X with N := NB, s₀ := s, H₀ := H, env := compEnvC scope (clGo X.env.cells scope.names []) C X.env, outer := X.stack, stack := X.stack, ex := ex, fn := fun _ => false, pn := [], xe := fun _ _ => False }

section
variable {X : Cx} {pins : List (Addr × Obj)} {σ : St} {H : Hp} {s s4 : Shared} {scope : Scope} {NB : List Str} {μ : List (Option Nat)} {fp : List Addr} {C : Addr}

theorem scOk_kind (h : scOk scope X.env.scope = true) : scope.kind = .function := by
  unfold scOk at h
  simp only [Bool.and_eq_true, decide_eq_true_eq] at h
  exact h.1
theorem scOk_at {sc outer : Scope} (h : scOk sc outer = true) {y : Str × NameKind} (hy : y ∈ sc.names) : y.2 ≠ .cell ∧ (y.2 = .free → outer.names.lookup y.1 = some .cell ∨ outer.names.lookup y.1 = some .free) ∧ (y.2 = .local → sc.names.lookup y.1 = some .local) := by
  unfold scOk at h
  simp only [Bool.and_eq_true, decide_eq_true_eq, List.all_eq_true, Bool.or_eq_true] at h
  obtain ⟨⟨h1, h2⟩, h3⟩ := h.2 y hy
  exact ⟨h1, fun e => by rcases h2 with (q | q) | q
                         · exact absurd e q
                         · exact .inl q
                         · exact .inr q, fun e => h3.elim (fun q => absurd e q) id⟩
theorem block_free (I : Inv X pins σ H s) (h : scOk scope X.env.scope = true) {x : Str} (hx : (x, .free) ∈ scope.names) : ∃ c, X.env.cells.lookup x = some c := I.ok.has x ((scOk_at h hx).2.1 rfl)
theorem block_cl (I : Inv X pins σ H s) (h : scOk scope X.env.scope = true) {x : Str} {c : Addr} (e : (clGo X.env.cells scope.names []).lookup x = some c) : X.env.cells.lookup x = some c := by
  rcases clGo_mem (lookup_mem e) with q | ⟨q, r⟩
  · cases q
  · obtain ⟨c', e'⟩ := block_free I h q
    rw [e'] at r
    rw [e', r]; rfl
theorem block_kind {env : Env} (h : scOk scope env.scope = true) {x : Str} {k : NameKind} (hk : (relabel scope env).names.lookup x = some k) (hc : k = .cell ∨ k = .free) : (x, .free) ∈ scope.names := by
  obtain ⟨k', e, q⟩ := relabel_look hk
  have m := lookup_mem e
  have n := (scOk_at h m).1
  rcases q with q | ⟨q, _⟩
  · subst q
    rcases hc with z | z
    · exact absurd z n
    · subst z; exact m
  · subst q; exact m
theorem muOk_at (h : muOk X.N NB scope μ = true) : NB.length = μ.length ∧ ∀ (j i : Nat), μ[j]? = some (some i) → ∃ x, NB[j]? = some x ∧ X.N[i]? = some x ∧ scope.names.lookup x = some .free := by
  unfold muOk at h
  simp only [Bool.and_eq_true, decide_eq_true_eq, List.all_eq_true] at h
  refine ⟨h.1, fun j i e => ?_⟩
  have hj : j < NB.length := by rw [h.1]; exact (List.getElem?_eq_some_iff.mp e).1
  have m : (NB[j], some i) ∈ NB.zip μ := by
    refine List.mem_iff_getElem?.mpr ⟨j, ?_⟩
    rw [List.getElem?_zip_eq_some]
    exact ⟨List.getElem?_eq_getElem hj, e⟩
  have q := h.2 _ m
  dsimp only at q
  simp only [Bool.and_eq_true, decide_eq_true_eq] at q
  exact ⟨NB[j], List.getElem?_eq_getElem hj, q.1, q.2⟩

/-- the block is entered -/
theorem block_start (I : Inv X pins σ H s) (hsc : scOk scope X.env.scope = true) (hmu : muOk X.N NB scope μ = true) (hfp : ∀ b ∈ fp, FpOk X pins H b) (hob : ∀ b ∈ fp, ∃ o, s.heap.get? b = some o)
    (hC : s.heap.objs.size ≤ C) {h4 : Heap} {t4 : Nat} (ns : h4.Ns C fun _ => none) (k : ∀ b o, s.heap.get? b = some o → h4.get? b = some o) :
    Inv (blockOf X s H scope C NB fp) [] (muSt μ σ) H { s with heap := h4, toks := t4 } := by
  obtain ⟨hlen, hmu⟩ := muOk_at hmu
  have ltC : ∀ b o, s.heap.get? b = some o → b ≠ C := fun b o e => Nat.ne_of_lt (Nat.lt_of_lt_of_le (Heap.lt_size e) hC)
  have cellOld : ∀ x c, X.env.cells.lookup x = some c → c ≠ C := fun x c e => by
    obtain ⟨v, o, ho, _⟩ := I.cell x c e
    exact ltC c o ho
  refine ⟨⟨I.ok.mod, (show scope.kind = _ from scOk_kind hsc), I.ok.glob, I.ok.blt, hC, fun x y c h1 h2 => I.ok.inj x y c (block_cl I hsc h1) (block_cl I hsc h2), fun x hx => ?_, fun x c h _ => (by cases h), I.ok.hd, I.ok.frames, .inl rfl, fun b hb => ?_, I.bs, Nat.le_trans I.ok.bsz I.sz, fun b o e hb => ?_, fun b hb hz => ?_, I.stack, I.stkFree⟩,
    rfl, I.bare, Un.kept k, ⟨_, ns, fun j x v e1 e2 e3 => ?_⟩, fun x c e => ?_, I.hok.fresh hC, fun x c e => I.freeC x c (block_cl I hsc e), fun p hp => (by cases hp), I.hok.kept k, ?_⟩
  · have q : (x, NameKind.free) ∈ scope.names := by
      rcases hx with hx | hx
      · exact block_kind hsc hx (.inl rfl)
      · exact block_kind hsc hx (.inr rfl)
    obtain ⟨c, m⟩ := clGo_has (cells := X.env.cells) (cs := []) q
    exact lookup_of_mem m
  · obtain ⟨o, ho⟩ := hob b hb
    refine ⟨ltC b o ho, fun x c e z => ?_⟩
    exact (hfp b hb).2.2.2.2.1 x c (block_cl I hsc e) z
  · rcases (hfp b hb).2.2.2.1 with z | z
    · exact I.ok.noex b o e z
    · exact absurd (Nat.lt_of_lt_of_le (Heap.lt_size (I.ok.bs b o e).1) z) (Nat.lt_irrefl _)
  · rcases List.mem_cons.mp (I.stkSub b hz) with e | e
    · exact (hfp b hb).2.1 e
    · exact (hfp b hb).2.2.1 e
  · have e2' : (μ[j]?).map (fun o => o.bind fun i => (σ[i]?).join) = some (some v) := by
      rw [← List.getElem?_map]; exact e2
    cases q : μ[j]? with
    | none => rw [q] at e2'; cases e2'
    | some o =>
      rw [q] at e2'
      cases o with
      | none => cases e2'
      | some i =>
        have e4 : (σ[i]?).join = some v := by simpa using e2'
        have e5 : σ[i]? = some (some v) := by
          cases z : σ[i]? with
          | none => rw [z] at e4; cases e4
          | some w => rw [z] at e4; simp at e4; rw [e4]
        obtain ⟨x', n1, n2, n3⟩ := hmu j i q
        have ex : x' = x := Option.some.inj (n1.symm.trans e1)
        subst ex
        have m := lookup_mem n3
        have ov := (scOk_at hsc m).2.1 rfl
        obtain ⟨mm, hn, hl⟩ := I.loc
        obtain ⟨u, r, l⟩ := hl i x' v n2 e5 (ov.elim (fun z => .inr (.inl z)) fun z => .inr (.inr z))
        refine ⟨u, r, .inr ⟨?_, ?_⟩⟩
        · rcases e3 with z | z | z
          · obtain ⟨k', z1, z2⟩ := relabel_look (k := .local) z
            rw [n3] at z1
            cases z1
            rcases z2 with z2 | ⟨_, z2⟩ <;> cases z2
          · exact .inl z
          · exact .inr z
        · rcases l with ⟨l, _⟩ | ⟨_, c, l1, l2⟩
          · rcases ov with z | z <;> (rw [show X.env.kindOf x' = _ from z] at l; cases l)
          · obtain ⟨c', m'⟩ := clGo_has (cells := X.env.cells) (cs := []) m
            obtain ⟨c'', l3⟩ := lookup_of_mem m'
            have l4 := block_cl I hsc l3
            rw [l1] at l4
            cases l4
            refine ⟨c, l3, ?_⟩
            obtain ⟨o, ho, hd⟩ := l2
            exact ⟨o, k _ _ ho, hd⟩
  · obtain ⟨v, o, ho, hd⟩ := I.cell x c (block_cl I hsc e)
    exact ⟨v, o, k _ _ ho, hd⟩
  · show (muSt μ σ).length = NB.length
    unfold muSt
    rw [List.length_map, hlen]

/-- an untracked list is tracked from now on -/
theorem HOk.adopt {P : Program} {w : World} {H : Hp} {h : Heap} {a : Addr} {o : HO} (x : HOk P w H h) (hn : H a = none) (new : ObjOk P w (upd H a o) h a o) : HOk P w (upd H a o) h := fun b u e => by
  by_cases hb : b = a
  · subst hb; rw [upd_same] at e; cases e; exact new
  · rw [upd_ne hb] at e
    exact (x b u e).stay (fun c v _ q => q) (fun c q => by rw [upd_ne (ne_of_none q hn)]; exact q) fun c xs q => by rw [upd_ne (ne_of_none q hn)]; exact q

/-- the block is left: its list is the value -/
theorem block_end {H' : Hp} {s' : Shared} {h' : Heap} {D : Addr} {pl : List (Addr × Obj)} {σ' : St} {its : List Value} {ys : List V} {n : Nat} (I : Inv X pins σ H s) (hfp : ∀ b ∈ fp, FpOk X pins H b) (J : Inv (blockOf X s H scope C NB fp) pl σ' H' s')
    (hC : s.heap.objs.size ≤ C) (hD : s.heap.objs.size ≤ D) (hDC : D ≠ C) (eD : s'.heap.get? D = some { cls := .type "list", data := .seq its.toArray n }) (nD : H' D = none) (r : Vals ys its) (hz : ys.length ≤ sizeLine)
    (sb : Heap.SameBut C s'.heap h') : Inv X pins σ (upd H' D (.lst ys)) { s' with heap := h' } := by
  have oldC : ∀ b o, s.heap.get? b = some o → b ≠ C := fun b o e => Nat.ne_of_lt (Nat.lt_of_lt_of_le (Heap.lt_size e) hC)
  have oldD : ∀ b o, s.heap.get? b = some o → b ≠ D := fun b o e => Nat.ne_of_lt (Nat.lt_of_lt_of_le (Heap.lt_size e) hD)
  have freshD : H D = none := I.hok.fresh hD
  have nC : H' C = none := J.free
  have u : Un (frs X.stack) fp H H' s.heap s'.heap := J.base
  have hok' : HOk X.prog X.w H' h' := fun b ob e => (J.hok b ob e).stay (fun c v hc q => (sb.2 c (by
    intro z
    subst z
    rcases hc with rfl | hc
    · rw [nC] at e; cases e
    · rw [nC] at hc; cases hc)).trans q) (fun _ q => q) fun _ _ q => q
  refine I.call' (ch := fp) J.os ⟨fun b o e n hb hx => ?_, fun b o e n hb hx => ?_, fun b o e n hx => ?_, fun b o e hx => ?_, fun b xs e => ?_, fun b o u' e => ?_, fun b ps e => ?_⟩ (hok'.adopt nD ⟨hz, its, n, r, (sb.2 D hDC).trans eD⟩) J.bare fun b hb => ?_
  · exact (sb.2 b (oldC b o e)).trans (u.keep b o e n hb hx)
  · obtain ⟨sl, q⟩ := u.slot b o e n hb hx
    exact ⟨sl, (sb.2 b (oldC b o e)).trans q⟩
  · rw [upd_ne (oldD b o e)]; exact u.free b o e n hx
  · obtain ⟨o', q⟩ := u.there b o e hx
    exact ⟨o', (sb.2 b (oldC b o e)).trans q⟩
  · rw [upd_ne (ne_of_none e freshD)]; exact u.tups b xs e
  · rw [upd_ne (ne_of_none e freshD)]; exact u.frzs b o u' e
  · rw [upd_ne (ne_of_none e freshD)]; exact u.tbls b ps e
  · obtain ⟨_, f1, _, f3, f4, f5⟩ := hfp b hb
    exact ⟨f3, f1, f4, f5⟩
end
end L2

set_option Elab.async false
set_option linter.all false
set_option maxRecDepth 100000
namespace L2
open PySem PySem.Spec PyProof.Rows

theorem compLoop_gen {prog : Program} {w : World} {A : Around} {R : Result → Shared → Prop} {s : Shared} {elt target iter : Expr} {ifs : List Expr} {scope : Scope} {pos : Pos} {it acc : Value} {env : Env} (I : Nat → Shared → Prop)
    (turn : ∀ n s, I n s → wpAny (model prog w) A (pyNext it) (fun r s₁ => match r with
      | none => R (.ok .next) s₁
      | some v => wpAny (model prog w) A (letOwnedTupleGo target it v) (fun _ s₁' => wpAny (model prog w) A (assign target env v) (fun _ s₂ =>
          wpAny (model prog w) A (forIn ifs true fun c r => if r = true then do let ok ← isTrue c env (eval c env); pure (ForInStep.yield ok) else pure (ForInStep.yield r)) (fun ok s₃ =>
            if ok = true then wpAny (model prog w) A (eval elt env) (fun x s₄ =>
              wpAny (model prog w) A (call (.builtin "list.append") [acc, x]) (fun _ s₅ => ∃ m, m < n ∧ I m s₅) (fun _ _ => False) s₄) (fun _ _ => False) s₃
            else ∃ m, m < n ∧ I m s₃) (fun _ _ => False) s₂) (fun _ _ => False) s₁') (fun _ _ => False) s₁) (fun _ _ => False) s)
    (n : Nat) (h : I n s) :
    codeAny (model prog w) A (.compLoop (.ListComp elt [⟨target, iter, ifs, 0⟩] scope pos) 0 it acc env) R s := by
  refine codeAny_loop rfl I (fun n s hI => ?_) n h
  show wpAny _ A ((compTurn (.ListComp elt [⟨target, iter, ifs, 0⟩] scope pos) 0 it acc env).onRaise (fun x => do noteFrame x env; theTreesLotGoes x)) _ _ s
  refine wpAny_noted ?_
  rw [compTurn_list]
  refine wpAny_bind (wpAny_standAt (wpAny_bind (wpAny_mono (turn n s hI) (fun r s₁ h₁ => ?_) fun _ _ h' => h'.elim)))
  cases r with
  | none => exact wpAny_pure h₁
  | some v =>
    refine wpAny_bind (wpAny_mono h₁ (fun _ s₁' h₁' => ?_) fun _ _ h' => h'.elim)
    refine wpAny_bind (wpAny_mono h₁' (fun _ s₂ h₂ => wpAny_bind (wpAny_mono h₂ (fun ok s₃ h₃ => ?_) fun _ _ h' => h'.elim)) fun _ _ h' => h'.elim)
    cases ok with
    | false => exact wpAny_pure ⟨rfl, h₃⟩
    | true =>
      exact wpAny_bind (wpAny_bind (wpAny_mono h₃ (fun x s₄ h₄ => wpAny_bind (wpAny_mono h₄ (fun _ s₅ h₅ => wpAny_pure (wpAny_pure ⟨rfl, h₅⟩)) fun _ _ h' => h'.elim)) fun _ _ h' => h'.elim))

/-- the tests of a comprehension -/
def PTs (X : Cx) (cs : List Expr) (t : TT) : Prop :=
  ∀ (pins : List (Addr × Obj)) (s : Shared) (σ : St) (H : Hp) (Q : Bool → Hp → Prop), Inv X pins σ H s → t σ H Q →
    wpAny (model X.prog X.w) X.A (forIn cs true fun c r => if r = true then do let ok ← isTrue c X.env (eval c X.env); pure (ForInStep.yield ok) else pure (ForInStep.yield r)) (TP X pins σ Q) X.xe s
def tYes : TT := fun _ H Q => Q true H
theorem pts_nil {X : Cx} : PTs X [] tYes := fun _ _ _ H _ I h => wpAny_tests_nil ⟨H, I, h⟩
/-- a target leaves the names around the block -/
def GKeeps (μ : List (Option Nat)) (g : TG) : Prop := ∀ σ x H Q, g x (muSt μ σ) H Q → g x (muSt μ σ) H fun σ' H' => Q σ' H' ∧ ∀ (j : Nat) v, (muSt μ σ)[j]? = some (some v) → σ'[j]? = some (some v)
theorem gk_name {μ : List (Option Nat)} {i : Nat} (h : μ[i]? = some none) : GKeeps μ (gName i) := fun σ x H Q q => by
  refine ⟨q, fun j v e => ?_⟩
  have hne : j ≠ i := fun z => by
    subst z
    unfold muSt at e
    rw [List.getElem?_map, h] at e
    cases e
  rw [List.getElem?_set_ne (Ne.symm hne)]
  exact e

/-- what a comprehension builds: W, by the turn, a measure, the items so far -/
def cBy (J : It) (H1 : Hp) (Q : VK) (st : V → Hp → (St → Hp → Prop) → Prop) (tc : TT) (te : TE) : Prop :=
  ∃ W : Nat → Nat → List V → Hp → Prop, (∃ m, W 0 m [] H1) ∧ ∀ i m ys H2, W i m ys H2 →
    (J.stop i H2 ∧ ∀ D, H2 D = none → Q (.ref D) (upd H2 D (.lst ys))) ∨
    (J.go i H2 ∧ ys.length < sizeLine ∧ ∃ N : List V → Hp → Prop, (∀ ys' H', N ys' H' → ∃ m', m' < m ∧ W (i + 1) m' ys' H') ∧ ∀ x H3, J.yld i H2 x H3 → st x H3 fun σ4 H4 => tc σ4 H4 fun b H5 => if b = true then te σ4 H5 fun y H6 => N (ys ++ [y]) H6 else N ys H5)
def tComp (wi : TI) (μ : List (Option Nat)) (g : TG) (tc : Shared → Hp → Addr → List Addr → TT) (te : Shared → Hp → Addr → List Addr → TE) : TE := fun σ H Q => wi σ H fun J H1 => ∀ s C ex, cBy J H1 Q (fun x H K => g x (muSt μ σ) H K) (tc s H1 C ex) (te s H1 C ex)

section
variable {X : Cx} {pins : List (Addr × Obj)} {σ : St} {H2 : Hp} {s2 : Shared} {tg elt iter : Expr} {ifs : List Expr} {scope : Scope} {pos : Pos} {NB : List Str} {μ : List (Option Nat)} {g : TG} {tc : Shared → Hp → Addr → List Addr → TT} {te : Shared → Hp → Addr → List Addr → TE} {fp : List Addr} {it : Addr} {tn : Nat → Heap → Prop} {J : It} {Q : VK}

/-- the block of a comprehension over an iterator that has come -/
theorem block_run (hc : X.calm = true) (I2 : Inv X pins σ H2 s2) (T : Turn X.prog X.w X.K tg J fp it tn) (st2 : tn 0 s2.heap) (f2 : ∀ b ∈ fp, FpOk X pins H2 b)
    (hsc : scOk scope X.env.scope = true) (hmu : muOk X.N NB scope μ = true) (hgk : GKeeps μ g)
    (hb : ∀ (s : Shared) (H : Hp) (C : Addr) (ex : List Addr), PG (blockOf X s H scope C NB ex) tg g ∧ PTs (blockOf X s H scope C NB ex) ifs (tc s H C ex) ∧ PE (blockOf X s H scope C NB ex) elt (te s H C ex))
    (q : ∀ C, cBy J H2 Q (fun x H K => g x (muSt μ σ) H K) (tc s2 H2 C fp) (te s2 H2 C fp)) {RR : Value → Addr → Result → Shared → Prop} {E : Value → Shared → Prop}
    (fin : ∀ (D C : Addr) (s' : Shared) (H' : Hp) (ys : List V) (m : Str → Option Value), s2.heap.objs.size ≤ D → s2.heap.objs.size ≤ C → D ≠ C → s'.heap.Ns C m → H' C = none → (∀ h', Heap.SameBut C s'.heap h' → Inv X pins σ (upd H' D (.lst ys)) { s' with heap := h' }) → Q (.ref D) (upd H' D (.lst ys)) → RR (.ref D) C (.ok .next) s') :
    wpAny (model X.prog X.w) X.A (newList []) (fun acc s₃ => wpAny (model X.prog X.w) X.A (newFunctionEnv scope X.env.globals (clGo X.env.cells scope.names []) [] X.env.qual none .none (some X.env)) (fun cenv s₄ =>
      codeAny (model X.prog X.w) X.A (.compStart (.ListComp elt [⟨tg, iter, ifs, 0⟩] scope pos) 0 (.ref it) acc { cenv with scope := relabel scope X.env }) (RR acc cenv.locals) s₄) E s₃) E s2 := by
  have hcell : ∀ y ∈ scope.names, y.2 ≠ .cell := fun y hy => (scOk_at hsc hy).1
  refine wpAny_newObj_type (wpAny_newFunctionEnv hcell (by intro y hy; simp at hy) (fun h₁ hns₁ hsb₁ => ?_) (scOk_kind hsc))
  dsimp only at hns₁ hsb₁ ⊢
  generalize hH2 : s2.heap.push { cls := .type "list", dict := none, data := .seq ([] : List Value).toArray } = Hp2 at hns₁ hsb₁ ⊢
  have hC : Hp2.objs.size = s2.heap.objs.size + 1 := by rw [← hH2, Heap.size_push]
  have hDC : s2.heap.objs.size ≠ Hp2.objs.size := by rw [hC]; exact Nat.ne_of_lt (Nat.lt_succ_self _)
  have hCle : s2.heap.objs.size ≤ Hp2.objs.size := by rw [hC]; exact Nat.le_succ _
  have old : ∀ b o, s2.heap.get? b = some o → h₁.get? b = some o := fun b o e => hsb₁.extBut b o (by rw [hC]; exact Nat.ne_of_lt (Nat.lt_succ_of_lt (Heap.lt_size e))) (Heap.get?_push_of_some _ (hH2 ▸ Heap.get?_push_of_some _ e))
  have eD : h₁.get? s2.heap.objs.size = some { cls := .type "list", data := .seq ([] : List Value).toArray } := hsb₁.extBut _ _ hDC (Heap.get?_push_of_some _ (hH2 ▸ Heap.get?_push_size _ rfl))
  have hob : ∀ b ∈ fp, ∃ o, s2.heap.get? b = some o := fun b hb => let ⟨o, e, _⟩ := T.obj _ _ st2 b hb; ⟨o, e⟩
  have fpD : ∀ b ∈ fp, b ≠ s2.heap.objs.size := fun b hb => let ⟨o, e⟩ := hob b hb; Nat.ne_of_lt (Heap.lt_size e)
  generalize hDD : s2.heap.objs.size = D at hCle hDC eD fpD ⊢
  generalize hCC : Hp2.objs.size = C at *
  have hDle : s2.heap.objs.size ≤ D := by rw [hDD]; exact Nat.le_refl _
  have hCle' : s2.heap.objs.size ≤ C := by rw [hDD]; exact hCle
  have I4 : Inv (blockOf X s2 H2 scope C NB fp) [] (muSt μ σ) H2 { s2 with heap := h₁, toks := s2.toks + ([] : List (Str × Value)).length } := block_start I2 hsc hmu f2 hob hCle' (by simpa using hns₁) old
  have stat : ∀ {H' : Hp} {pl : List (Addr × Obj)}, (∀ b ∈ fp, H' b = none) → (∀ p ∈ pl, p.1 = D) → ∀ b ∈ fp, FpOk (blockOf X s2 H2 scope C NB fp) pl H' b := fun {H' pl} hn hp b hb => by
    refine ⟨hn b hb, (I4.ok.exf b hb).1, I4.ok.exfs b hb, .inl hb, fun x c e z => (I4.ok.exf b hb).2 x c e z, fun p hp' z => ?_⟩
    have hp'' : p ∈ pl := by simpa [blockOf] using hp'
    exact fpD b hb (z ▸ hp p hp'')
  have nDf : D ∉ (blockOf X s2 H2 scope C NB fp).fs := fun z => by
    obtain ⟨_, o, ho, _⟩ := I4.ok.funs.mem z
    exact absurd (Heap.lt_size ho) (Nat.not_lt.mpr hDle)
  obtain ⟨W, ⟨m0, w0⟩, turn⟩ := q C
  have loop : ∀ s₃ : Shared, s₃ = { s2 with heap := h₁, toks := s2.toks + ([] : List (Str × Value)).length } →
      codeAny (model X.prog X.w) X.A (.compLoop (.ListComp elt [⟨tg, iter, ifs, 0⟩] scope pos) 0 (.ref it) (.ref D) (compEnvC scope (clGo X.env.cells scope.names []) C X.env)) (RR (.ref D) C) s₃ := by
    rintro s₃ rfl
    refine compLoop_gen (fun n s' => ∃ i ys its k H', Inv (blockOf X s2 H2 scope C NB fp) [(D, { cls := .type "list", data := .seq its k })] (muSt μ σ) H' s' ∧ tn i s'.heap ∧ (∀ b ∈ fp, H' b = none) ∧ Vals ys its.toList ∧ ys.length ≤ sizeLine ∧ W i n ys H') ?_ m0
      ⟨0, [], #[], 0, H2, I4.pins_of fun p hp => ?_, T.keep _ _ _ st2 fun b hb o e => old b o e, fun b hb => (f2 b hb).1, .nil, Nat.zero_le _, w0⟩
    rotate_left
    · have e := List.mem_singleton.mp hp
      subst e
      exact ⟨eD, I2.hok.fresh hDle, hDC, nDf, fun v => by simp⟩
    rintro n s3 ⟨i, ys, its, k, H3, I3, st3, fr3, rv, hz, w3⟩
    rcases turn i n ys H3 w3 with ⟨stop, qn⟩ | ⟨go, hlt, N, hN, step⟩
    · refine wpAny_mono (T.done (blockOf X s2 H2 scope C NB fp) rfl rfl rfl hc i _ s3 _ H3 (fun _ _ => False) I3 (stat fr3 (by simp)) st3 stop) (fun r s4 ⟨hr, I4'⟩ => ?_) fun _ _ e => e
      subst hr
      obtain ⟨p1, p2, p3, p4, p5⟩ := I4'.pin _ (List.mem_append_right _ List.mem_cons_self)
      obtain ⟨m, hn, _⟩ := id I4'.loc
      have e1 : s4.heap.get? D = some { cls := .type "list", data := .seq its.toList.toArray k } := by simpa using p1
      exact fin D C s4 H3 ys m hDle hCle' hDC hn I4'.free (fun h' sb => block_end I2 f2 I4' hCle' hDle hDC e1 p2 rv hz sb) (qn D p2)
    · refine wpAny_mono (T.item (blockOf X s2 H2 scope C NB fp) rfl rfl rfl hc i _ s3 _ H3 (fun _ _ => False) I3 (stat fr3 (by simp)) st3 go) (fun r s4 ⟨u, hr, h4⟩ => ?_) fun _ _ e => e
      subst hr
      refine thn h4 fun _ s5 ⟨x, H5, I5, r5, y5, st5, fr5⟩ => ?_
      have I5' := I5.pinned (stat fr5 (by simp)) (T.obj _ _ st5)
      have st' := hgk σ x H5 _ (step x H5 y5)
      obtain ⟨hg, ht, he⟩ := hb s2 H2 C fp
      refine thn (hg _ s5 _ H5 x u _ I5' r5 st') fun _ s6 ⟨σ6, H6, I6, q6, k6⟩ => ?_
      refine thn (ht _ s6 σ6 H6 _ I6 q6) fun ok s7 ⟨H7, I7, q7⟩ => ?_
      have again : ∀ {H8 : Hp} {s8 : Shared} {its' : Array Value} {k' : Nat} {ys' : List V}, Inv (blockOf X s2 H2 scope C NB fp) ([(D, { cls := .type "list", data := .seq its' k' })] ++ pinsAt fp s5.heap) σ6 H8 s8 → Vals ys' its'.toList → ys'.length ≤ sizeLine → (∃ m, m < n ∧ W (i + 1) m ys' H8) →
          ∃ m, m < n ∧ ∃ i ys its k H', Inv (blockOf X s2 H2 scope C NB fp) [(D, { cls := .type "list", data := .seq its k })] (muSt μ σ) H' s8 ∧ tn i s8.heap ∧ (∀ b ∈ fp, H' b = none) ∧ Vals ys its.toList ∧ ys.length ≤ sizeLine ∧ W i m ys H' := fun {H8 s8 its' k' ys'} I8 rv' hz' n8 => by
        obtain ⟨m', hm, w8⟩ := n8
        refine ⟨m', hm, i + 1, ys', its', k', H8, (I8.unpinned.weak ?_ k6), T.keep _ _ _ st5 fun b hb o e => (I8.pin (b, o) (List.mem_append_right _ (List.mem_append_right _ (mem_pinsAt hb e)))).1, fun b hb => ?_, rv', hz', w8⟩
        · rw [I8.len]; exact I4.len
        · obtain ⟨o, e, d⟩ := T.obj _ _ st5 b hb
          exact (I8.pin (b, o) (List.mem_append_right _ (List.mem_append_right _ (mem_pinsAt hb e)))).2.1
      cases ok with
      | false =>
        simp only [Bool.false_eq_true, if_false] at q7 ⊢
        exact again I7 rv hz (hN _ _ q7)
      | true =>
        simp only [if_true] at q7 ⊢
        refine thn (he _ s7 σ6 H7 _ I7 q7) fun uy s8 ⟨y, H8, I8, r8, q8⟩ => ?_
        obtain ⟨p1, p2, p3, p4, p5⟩ := I8.pin (D, _) (List.mem_append_right _ (List.mem_append_left _ List.mem_cons_self))
        have e1 : s8.heap.get? D = some { cls := .type "list", data := .seq its k } := p1
        have hsz : its.size = ys.length := by rw [← Array.length_toList]; exact rv.length.symm
        refine call_meets F.slot_list_append ⟨_, e1, rfl⟩ F.entry_list_append (F.args_list_append_2 _ _) (PySem.list_append D its k uy (by rw [hsz]; omega)) ⟨e1, ?_⟩
        have upd1 := PySem.IsL.update e1 (·.push uy)
        have Iu : Inv (blockOf X s2 H2 scope C NB fp) (pinsAt fp s5.heap) σ6 H8 s8 := I8.pins_of fun p hp => I8.pin p (List.mem_append_right _ (List.mem_append_right _ hp))
        have It := Iu.turned (it := D) (h' := s8.heap.update D (Obj.mapSeq (·.push uy))) (t' := s8.toks) (fun b o hb e => (Heap.get?_update_other _ _ (Ne.symm hb)).trans e) p2 p3 (.inr hDle) (fun x c e z => ?_) (fun p hp z => ?_)
        · refine again (its' := its.push uy) (k' := if (its.push uy).size == its.size then k else k + 1) (It.pins_of fun p hp => ?_) (by simpa using rv.append (.cons r8 .nil)) (by rw [List.length_append, List.length_singleton]; omega) (hN _ _ q8)
          rcases List.mem_append.mp hp with hp | hp
          · have e := List.mem_singleton.mp hp
            subst e
            exact ⟨upd1, p2, p3, p4, fun v => by simp⟩
          · exact It.pin p (List.mem_append_right _ hp)
        · have e' := block_cl I2 hsc e
          obtain ⟨v, o, ho, _⟩ := I2.cell x c e'
          exact absurd (Heap.lt_size ho) (by rw [z]; exact Nat.not_lt.mpr hDle)
        · have hp' : p ∈ pinsAt fp s5.heap := by simpa [blockOf] using hp
          exact fpD p.1 (of_pinsAt hp').1 z
  exact codeAny_compStart_list (loop _ rfl) (T.self _ 0 _ _ _ (T.keep _ _ _ st2 fun b hb o e => old b o e) (loop _ rfl))

/-- name = [elt for ..] -/
def tAsgC (i : Nat) (te : TE) : TS := fun D σ H => te σ H fun x H1 => D.nx (σ.set i (some x)) H1
theorem ps_setC {wi : TI} {i : Nat} {y : Str} {py spos : Pos} (hN : X.N.Nodup) (hiN : X.N[i]? = some y) (hy : Loc X.env.scope y) (hc : X.calm = true) (hi : PI X tg iter wi) (hsc : scOk scope X.env.scope = true) (hmu : muOk X.N NB scope μ = true) (hgk : GKeeps μ g)
    (hb : ∀ (s : Shared) (H : Hp) (C : Addr) (ex : List Addr), PG (blockOf X s H scope C NB ex) tg g ∧ PTs (blockOf X s H scope C NB ex) ifs (tc s H C ex) ∧ PE (blockOf X s H scope C NB ex) elt (te s H C ex))
    (hsw : swapsWith (.ListComp elt [⟨tg, iter, ifs, 0⟩] scope pos) (some (.Name y py)) spos.line X.env = pure true := by rfl)
    (hs : ∀ x, foldedSetIterable iter X.env x = pure x := by intro _; rfl) (hf : X.fn y = true ∨ X.env.scope.names.lookup y = some .local := by first | exact .inl rfl | exact .inr rfl | assumption) :
    PS X (.Assign [.Name y py] (.ListComp elt [⟨tg, iter, ifs, 0⟩] scope pos) spos) (tAsgC i (tComp wi μ g tc te)) := by
  intro pins s σ H D' I h
  have hnames : ∀ y ∈ scope.names, y.2 = .local → scope.names.lookup y.1 = some .local := fun y hy => (scOk_at hsc hy).2.2
  have hclos : closureFor scope X.env = pure (clGo X.env.cells scope.names []) := closureFor_eq fun y hy e => block_free I hsc (x := y.1) (by rw [← e]; exact hy)
  rw [exec_Assign_Name_used _ _ _ _ hsw]
  refine wpAny_bind (wpAny_standAt (wpAny_bind ?_))
  show wpAny _ X.A (do let _ ← comprehension (.ListComp elt [⟨tg, iter, ifs, 0⟩] scope pos) scope X.env _ (newList []) false (eval iter X.env) (some (assign (.Name y py) X.env))) _ _ s
  refine wpAny_bind (wpAny_mono (wpAny_comprehension_free (use := some (assign (.Name y py) X.env)) (Q := fun _ s' => SP X pins D' .next s') rfl hs hclos (scOk_kind hsc) hnames (thn (hi pins s σ H _ I h) fun v s1 h1 => thn h1 fun itv s2 h2 => ?_)) (fun _ s' hq => wpAny_pure (wpAny_pure hq)) fun _ _ e => e)
  obtain ⟨it, fp, tn, J, H2, e, I2, T, st2, f2, q⟩ := h2
  subst e
  refine block_run (RR := fun acc C => compPost (model X.prog X.w) X.A X.xe (some (assign (.Name y py) X.env)) (fun _ s' => SP X pins D' .next s') acc C) hc I2 T st2 f2 hsc hmu hgk hb (fun C => q s2 C fp) ?_
  intro D C s' H' ys m hD hC hDC hn nC hI hq
  have I' := hI s'.heap (.refl ..)
  show wpAny _ X.A (assign (.Name y py) X.env (.ref D)) _ _ _
  refine wpAny_assign_Name (store_ok2 (i := i) (v := .ref D) I' hN hiN hy rfl (fun s'' I'' hs'' => ?_) hf)
  obtain ⟨a, sb, ha⟩ := hs''
  have neC : a ≠ C := by
    rcases ha with z | z
    · rw [z]; exact Nat.ne_of_lt (Nat.lt_of_lt_of_le I2.lt hC)
    · obtain ⟨v, o, ho, _⟩ := I2.cell y a z
      exact Nat.ne_of_lt (Nat.lt_of_lt_of_le (Heap.lt_size ho) hC)
  refine ⟨m, hn.sameBut sb (Ne.symm neC), fun h' sb' => ?_⟩
  refine ⟨_, _, I''.turned (it := C) (t' := s''.toks) (fun b o hb e => (sb'.2 b hb).trans e) (by rw [upd_ne (Ne.symm hDC)]; exact nC) (Nat.ne_of_gt (Nat.lt_of_lt_of_le I2.lt hC)) (.inr (Nat.le_trans I2.sz hC)) (fun x c e z => ?_) (fun p hp z => ?_), hq⟩
  · obtain ⟨v, o, ho, _⟩ := I2.cell x c e
    exact absurd (Heap.lt_size ho) (by rw [z]; exact Nat.not_lt.mpr hC)
  · exact absurd (Heap.lt_size (I2.pin p hp).1) (by rw [z]; exact Nat.not_lt.mpr hC)

end
end L2

set_option Elab.async false
set_option linter.all false
set_option maxRecDepth 100000
namespace L2
open PySem PySem.Spec PyProof.Rows

section
variable {X : Cx}
end

end L2

set_option Elab.async false
set_option linter.all false
set_option maxRecDepth 100000
namespace L2
open PySem PySem.Spec PyProof.Rows

section
variable {prog : Program} {w : World} {A : Around} {R : Result → Shared → Prop}
end

section
variable {X : Cx} {e e2 : Expr} {te td : TE} {p pos kp : Pos}
end
end L2

set_option Elab.async false
set_option linter.all false
set_option maxRecDepth 100000
namespace L2
open PySem PySem.Spec PyProof.Rows

/-! ### data: what a value is, without addresses -/
inductive D where
  | non | bl (b : Bool) | int (i : Int) | str (x : Str) | tup (ds : List D) | lst (ds : List D) | exn (x : Str) | dct (t : Bool) (ks vs : List D) | ins (x : Str) (ns : List Str) (ds : List D)
/-- a dict's key -/
def dkD : Key → D
  | .inl i => .int i
  | .inr x => .str x
/-- an exception of the class at c stands at a -/
def excP (a c : Addr) (h : Heap) : Prop := ∃ o, h.get? a = some o ∧ o.cls = .ref c ∧ PySem.W.notCls o = true
mutual
inductive Has (K : PySem.W.Frag) (H : Hp) : V → D → Prop
  | non : Has K H .non .non
  | bl (b) : Has K H (.bl b) (.bl b)
  | int (i) : Has K H (.int i) (.int i)
  | str (x) : Has K H (.str x) (.str x)
  | tup {a xs ds} : H a = some (.tup xs) → HasL K H xs ds → Has K H (.ref a) (.tup ds)
  | lst {a xs ds} : SqL K H a xs → HasL K H xs ds → Has K H (.ref a) (.lst ds)
  | dcK {a kvs ds} : H a = some (.dK kvs) → HasL K H (kvs.map Prod.snd) ds → Has K H (.ref a) (.dct false (kvs.map fun kv => dkD kv.1) ds)
  | dcT {a kvs ds} : H a = some (.dT kvs) → HasL K H (kvs.map Prod.snd) ds → Has K H (.ref a) (.dct true (kvs.map fun kv => .tup (kv.1.map dkD)) ds)
  | ins {a C dx fs x ds} : PySem.W.nsIn K mainGlobals x = some (some (.ref C)) → H a = some (.ins C dx fs) → HasL K H (fs.map Prod.snd) ds → Has K H (.ref a) (.ins x (fs.map Prod.fst) ds)
  | exn {a c x} : PySem.W.nsIn K mainGlobals x = some (some (.ref c)) → H a = some (.ext (excP a c)) → Has K H (.ref a) (.exn x)
inductive HasL (K : PySem.W.Frag) (H : Hp) : List V → List D → Prop
  | nil : HasL K H [] []
  | cons {x d xs ds} : Has K H x d → HasL K H xs ds → HasL K H (x :: xs) (d :: ds)
end
theorem HasL.length {K : PySem.W.Frag} {H : Hp} : ∀ {xs : List V} {ds : List D}, HasL K H xs ds → xs.length = ds.length
  | _, _, .nil => rfl
  | _, _, .cons _ t => by rw [List.length_cons, List.length_cons, HasL.length t]
theorem HasL.get {K : PySem.W.Frag} {H : Hp} : ∀ {xs : List V} {ds : List D} {i : Nat} {d : D}, HasL K H xs ds → ds[i]? = some d → ∃ x, xs[i]? = some x ∧ Has K H x d
  | _, _, _, _, .nil, e => by simp at e
  | _, _, 0, _, .cons r _, e => by simp at e; subst e; exact ⟨_, rfl, r⟩
  | _, _, i + 1, d, .cons _ t, e => by
    obtain ⟨u, h1, h2⟩ := HasL.get (i := i) (d := d) t (by simpa using e)
    exact ⟨u, by simpa using h1, h2⟩
theorem HasL.getV {K : PySem.W.Frag} {H : Hp} : ∀ {xs : List V} {ds : List D} {i : Nat} {x : V}, HasL K H xs ds → xs[i]? = some x → ∃ d, ds[i]? = some d ∧ Has K H x d
  | _, _, _, _, .nil, e => by simp at e
  | _, _, 0, _, .cons r _, e => by simp at e; subst e; exact ⟨_, rfl, r⟩
  | _, _, i + 1, d, .cons _ t, e => by
    obtain ⟨u, h1, h2⟩ := HasL.getV (i := i) (x := d) t (by simpa using e)
    exact ⟨u, by simpa using h1, h2⟩
theorem HasL.append {K : PySem.W.Frag} {H : Hp} : ∀ {xs ys : List V} {ds es : List D}, HasL K H xs ds → HasL K H ys es → HasL K H (xs ++ ys) (ds ++ es)
  | _, _, _, _, .nil, h => h
  | _, _, _, _, .cons r t, h => .cons r (HasL.append t h)
theorem HasL.snoc {K : PySem.W.Frag} {H : Hp} {xs : List V} {ds : List D} {x : V} {d : D} (h : HasL K H xs ds) (r : Has K H x d) : HasL K H (xs ++ [x]) (ds ++ [d]) := h.append (.cons r .nil)
theorem HasL.take {K : PySem.W.Frag} {H : Hp} : ∀ {xs : List V} {ds : List D} (n : Nat), HasL K H xs ds → HasL K H (xs.take n) (ds.take n)
  | _, _, 0, _ => .nil
  | _, _, _ + 1, .nil => .nil
  | _, _, n + 1, .cons r t => .cons r (HasL.take n t)
theorem HasL.drop {K : PySem.W.Frag} {H : Hp} : ∀ {xs : List V} {ds : List D} (n : Nat), HasL K H xs ds → HasL K H (xs.drop n) (ds.drop n)
  | _, _, 0, r => r
  | _, _, _ + 1, .nil => .nil
  | _, _, n + 1, .cons _ t => HasL.drop n t
theorem HasL.reverse {K : PySem.W.Frag} {H : Hp} : ∀ {xs : List V} {ds : List D}, HasL K H xs ds → HasL K H xs.reverse ds.reverse
  | _, _, .nil => .nil
  | _, _, .cons r t => by rw [List.reverse_cons, List.reverse_cons]; exact (HasL.reverse t).snoc r
theorem HasL.ints {K : PySem.W.Frag} {H : Hp} : ∀ (ns : List Int), HasL K H (ns.map V.int) (ns.map D.int)
  | [] => .nil
  | n :: r => .cons (.int n) (HasL.ints r)
theorem Same.seqT {K : PySem.W.Frag} {H H' : Hp} {a : Addr} {xs : List V} (e : Same H H') (h : SqT K H a xs) : SqT K H' a xs := by
  rcases h with (h | ⟨o, h⟩) | h
  · exact .inl (.inl (e _ _ h))
  · exact .inl (.inr ⟨o, e _ _ h⟩)
  · exact .inr h
mutual
theorem Has.mono {K : PySem.W.Frag} {H H' : Hp} (e : Same H H') : ∀ {v : V} {d : D}, Has K H v d → Has K H' v d
  | _, _, .non => .non
  | _, _, .bl b => .bl b
  | _, _, .int i => .int i
  | _, _, .str x => .str x
  | _, _, .tup h r => .tup (e _ _ h) (HasL.mono e r)
  | _, _, .lst h r => .lst (e.seq h) (HasL.mono e r)
  | _, _, .dcK h r => .dcK (e _ _ h) (HasL.mono e r)
  | _, _, .dcT h r => .dcT (e _ _ h) (HasL.mono e r)
  | _, _, .ins n h r => .ins n (e _ _ h) (HasL.mono e r)
  | _, _, .exn h r => .exn h (e _ _ r)
theorem HasL.mono {K : PySem.W.Frag} {H H' : Hp} (e : Same H H') : ∀ {vs : List V} {ds : List D}, HasL K H vs ds → HasL K H' vs ds
  | _, _, .nil => .nil
  | _, _, .cons h t => .cons (Has.mono e h) (HasL.mono e t)
end
theorem same_new {H : Hp} {p : Addr} (h : H p = none) (o : HO) : Same H (upd H p o) := fun b u q => by rw [upd_ne (ne_of_none q h)]; exact q

mutual
def eqD : D → D → Bool
  | .non, .non => true
  | .bl a, .bl b => a == b
  | .int a, .int b => a == b
  | .str a, .str b => a == b
  | .bl a, .int b => (if a then 1 else 0) == b
  | .int a, .bl b => a == (if b then 1 else 0)
  | .tup a, .tup b => eqDs a b
  | .lst a, .lst b => eqDs a b
  | .exn a, .exn b => a == b
  | .dct s a b, .dct t c d => (s == t) && (eqDs a c && eqDs b d)
  | .ins x n a, .ins y m b => (x == y) && ((n == m) && eqDs a b)
  | _, _ => false
def eqDs : List D → List D → Bool
  | [], [] => true
  | a :: r, b :: t => eqD a b && eqDs r t
  | _, _ => false
end
mutual
theorem eqD_refl : ∀ d : D, eqD d d = true
  | .non => by simp [eqD]
  | .bl b => by simp [eqD]
  | .int b => by simp [eqD]
  | .str b => by simp [eqD]
  | .tup b => by simp only [eqD]; exact eqDs_refl b
  | .lst b => by simp only [eqD]; exact eqDs_refl b
  | .exn b => by simp [eqD]
  | .dct s a b => by simp only [eqD]; rw [eqDs_refl a, eqDs_refl b]; simp
  | .ins x n a => by simp only [eqD]; rw [eqDs_refl a]; simp
theorem eqDs_refl : ∀ d : List D, eqDs d d = true
  | [] => by simp [eqDs]
  | a :: r => by simp only [eqDs, eqD_refl a, eqDs_refl r, Bool.and_true]
end
mutual
def noX : D → Bool
  | .tup a => noXs a
  | .lst a => noXs a
  | .exn _ => false
  | .dct _ _ _ => false
  | .ins _ _ _ => false
  | _ => true
def noXs : List D → Bool
  | [] => true
  | a :: r => noX a && noXs r
end
theorem noX_mem : ∀ {ds : List D} {d : D}, d ∈ ds → noXs ds = true → noX d = true
  | a :: r, d, h, q => by
    rw [noXs, Bool.and_eq_true] at q
    rcases List.mem_cons.mp h with z | z
    · subst z; exact q.1
    · exact noX_mem z q.2
mutual
def dep : D → Nat
  | .tup a => deps a + 1
  | .lst a => deps a + 1
  | _ => 0
def deps : List D → Nat
  | [] => 0
  | a :: r => max (dep a) (deps r)
end
theorem dep_mem : ∀ {ds : List D} {d : D}, d ∈ ds → dep d ≤ deps ds
  | a :: r, d, h => by
    rw [deps]
    rcases List.mem_cons.mp h with z | z
    · subst z; exact Nat.le_max_left _ _
    · exact Nat.le_trans (dep_mem z) (Nat.le_max_right _ _)
theorem eqDs_len : ∀ {a b : List D}, eqDs a b = true → a.length = b.length
  | [], [], _ => rfl
  | [], _ :: _, h => by simp [eqDs] at h
  | _ :: _, [], h => by simp [eqDs] at h
  | a :: r, b :: t, h => by
    simp only [eqDs, Bool.and_eq_true] at h
    rw [List.length_cons, List.length_cons, eqDs_len h.2]
theorem eqDs_range : ∀ (a b : List D), a.length = b.length → (List.range a.length).all (fun j => eqD (a.getD j .non) (b.getD j .non)) = eqDs a b
  | [], [], _ => by simp [eqDs]
  | a :: r, b :: t, h => by
    have ih := eqDs_range r t (by simpa using h)
    rw [List.length_cons, List.range_succ_eq_map, List.all_cons, List.all_map, eqDs, ← ih]
    simp [Function.comp_def]
  | [], _ :: _, h => by cases h
  | _ :: _, [], h => by cases h
theorem eqDs_ne {a b : List D} (h : a.length ≠ b.length) : eqDs a b = false := by
  cases e : eqDs a b with
  | false => rfl
  | true => exact absurd (eqDs_len e) h
theorem eqDs_min (a b : List D) : ((List.range (min a.length b.length)).all (fun j => eqD (a.getD j .non) (b.getD j .non)) && (a.length == b.length)) = eqDs a b := by
  by_cases h : a.length = b.length
  · rw [← eqDs_range a b h, h]; simp
  · rw [eqDs_ne h, beq_false_of_ne h, Bool.and_false]

section
variable {X : Cx} {pins : List (Addr × Obj)} {σ : St} {H : Hp} {s : Shared}
theorem lst_tup (I : Inv X pins σ H s) {a : Addr} {xs ys : List V} (h : SqL X.K H a xs) (h' : SqT X.K H a ys) : False := by
  obtain ⟨its, _, ⟨o, n, e, c, _, _⟩, _⟩ := I.list h
  obtain ⟨its', _, ⟨o', e', c', _⟩, _⟩ := I.tuple h'
  rw [e] at e'; cases e'
  rw [c] at c'
  revert c'; decide
mutual
theorem has_inj (I : Inv X pins σ H s) : ∀ {v : V} {d d' : D}, noX d = true → noX d' = true → Has X.K H v d → Has X.K H v d' → d = d'
  | _, _, _, _, _, .non, .non => rfl
  | _, _, _, _, _, .bl _, .bl _ => rfl
  | _, _, _, _, _, .int _, .int _ => rfl
  | _, _, _, _, _, .str _, .str _ => rfl
  | _, _, _, n1, n2, .tup h r, .tup h' r' => by
    have e := I.tuple_inj (.of h) (.of h')
    subst e
    rw [hasL_inj I (by rw [noX] at n1; exact n1) (by rw [noX] at n2; exact n2) r r']
  | _, _, _, n1, n2, .lst h r, .lst h' r' => by
    have e := I.list_inj h h'
    subst e
    rw [hasL_inj I (by rw [noX] at n1; exact n1) (by rw [noX] at n2; exact n2) r r']
  | _, _, _, _, _, .tup h _, .lst h' _ => (lst_tup I h' (.of h)).elim
  | _, _, _, _, _, .lst h _, .tup h' _ => (lst_tup I h (.of h')).elim
  | _, _, _, n1, _, .exn _ _, _ => by rw [noX] at n1; cases n1
  | _, _, _, n1, _, .dcK _ _, _ => by rw [noX] at n1; cases n1
  | _, _, _, n1, _, .dcT _ _, _ => by rw [noX] at n1; cases n1
  | _, _, _, n1, _, .ins _ _ _, _ => by rw [noX] at n1; cases n1
  | _, _, _, _, n2, _, .exn _ _ => by rw [noX] at n2; cases n2
  | _, _, _, _, n2, _, .dcK _ _ => by rw [noX] at n2; cases n2
  | _, _, _, _, n2, _, .dcT _ _ => by rw [noX] at n2; cases n2
  | _, _, _, _, n2, _, .ins _ _ _ => by rw [noX] at n2; cases n2
theorem hasL_inj (I : Inv X pins σ H s) : ∀ {v : List V} {d d' : List D}, noXs d = true → noXs d' = true → HasL X.K H v d → HasL X.K H v d' → d = d'
  | _, _, _, _, _, .nil, .nil => rfl
  | _, _, _, n1, n2, .cons h r, .cons h' r' => by
    rw [noXs, Bool.and_eq_true] at n1 n2
    rw [has_inj I n1.1 n2.1 h h', hasL_inj I n1.2 n2.2 r r']
end
/-- what the heap has at a datum -/
theorem vat {xs : List V} {its : List Value} (r : Vals xs its) (j : Nat) (h : j < its.toArray.size) : ∃ x, xs[j]? = some x ∧ RelV x its.toArray[j] := by
  have h' : j < its.length := by simpa using h
  have hx : j < xs.length := by rw [r.length]; exact h'
  obtain ⟨u, hu, ru⟩ := r.get (List.getElem?_eq_getElem hx)
  rw [List.getElem?_eq_getElem h'] at hu
  refine ⟨xs[j], List.getElem?_eq_getElem hx, ?_⟩
  have e : its.toArray[j] = u := by simpa using hu
  rw [e]; exact ru
theorem getD_of {ds : List D} {j : Nat} {d : D} (h : ds[j]? = some d) : ds.getD j .non = d := by rw [List.getD_eq_getElem?_getD, h]; rfl
theorem eqAt_D (I : Inv X pins σ H s) : ∀ (n : Nat) (A : Around) (d e : D) (v w : V) (u1 u2 : Value), dep d ≤ n → noX d = true → noX e = true → A.units + n < cLine → Has X.K H v d → Has X.K H w e → RelV v u1 → RelV w u2 → SeqAt.EqAt A s u1 u2 (eqD d e) := by
  intro n
  induction n with
  | zero =>
    intro A d e v w u1 u2 hd hx1 hx2 hu h1 h2 r1 r2
    have hu' : A.units < cLine := by omega
    cases h1 with
    | exn _ _ => simp [noX] at hx1
    | dcK _ _ => simp [noX] at hx1
    | dcT _ _ => simp [noX] at hx1
    | ins _ _ _ => simp [noX] at hx1
    | non =>
      cases r1
      cases h2 with
      | exn _ _ => simp [noX] at hx2
      | dcK _ _ => simp [noX] at hx2
      | dcT _ _ => simp [noX] at hx2
      | ins _ _ _ => simp [noX] at hx2
      | non => cases r2; simp only [eqD]; exact .same _
      | bl b => cases r2; simp only [eqD]; exact .none_bool _
      | int b => obtain ⟨t, rfl⟩ := r2; simp only [eqD]; exact .none_int _ _
      | str b => obtain ⟨t, rfl⟩ := r2; simp only [eqD]; exact .none_str _ _
      | tup h r => cases r2; simp only [eqD]; obtain ⟨_, _, p, _⟩ := I.tuple (.of h); exact .none_tuple p hu'
      | lst h r => cases r2; simp only [eqD]; obtain ⟨_, _, p, _⟩ := I.list h; exact .none_list p.isList hu'
    | bl a =>
      cases r1
      cases h2 with
      | exn _ _ => simp [noX] at hx2
      | dcK _ _ => simp [noX] at hx2
      | dcT _ _ => simp [noX] at hx2
      | ins _ _ _ => simp [noX] at hx2
      | non => cases r2; simp only [eqD]; exact .bool_none _
      | bl b => cases r2; simp only [eqD]; exact .bool_bool _ _
      | int b => obtain ⟨t, rfl⟩ := r2; simp only [eqD]; exact .bool_int _ _ _
      | str b => obtain ⟨t, rfl⟩ := r2; simp only [eqD]; exact .bool_str _ _ _
      | tup h r => cases r2; simp only [eqD]; obtain ⟨_, _, p, _⟩ := I.tuple (.of h); exact .bool_tuple _ p hu'
      | lst h r => cases r2; simp only [eqD]; obtain ⟨_, _, p, _⟩ := I.list h; exact .bool_list _ p.isList hu'
    | int a =>
      obtain ⟨t', rfl⟩ := r1
      cases h2 with
      | exn _ _ => simp [noX] at hx2
      | dcK _ _ => simp [noX] at hx2
      | dcT _ _ => simp [noX] at hx2
      | ins _ _ _ => simp [noX] at hx2
      | non => cases r2; simp only [eqD]; exact .int_none _ _
      | bl b => cases r2; simp only [eqD]; exact .int_bool _ _ _
      | int b => obtain ⟨t, rfl⟩ := r2; simp only [eqD]; exact .int_int _ _ _ _
      | str b => obtain ⟨t, rfl⟩ := r2; simp only [eqD]; exact .int_str _ _ _ _
      | tup h r => cases r2; simp only [eqD]; obtain ⟨_, _, p, _⟩ := I.tuple (.of h); exact .int_tuple _ _ p hu'
      | lst h r => cases r2; simp only [eqD]; obtain ⟨_, _, p, _⟩ := I.list h; exact .int_list _ _ p.isList hu'
    | str a =>
      obtain ⟨t', rfl⟩ := r1
      cases h2 with
      | exn _ _ => simp [noX] at hx2
      | dcK _ _ => simp [noX] at hx2
      | dcT _ _ => simp [noX] at hx2
      | ins _ _ _ => simp [noX] at hx2
      | non => cases r2; simp only [eqD]; exact .str_none _ _
      | bl b => cases r2; simp only [eqD]; exact .str_bool _ _ _
      | int b => obtain ⟨t, rfl⟩ := r2; simp only [eqD]; exact .str_int _ _ _ _
      | str b => obtain ⟨t, rfl⟩ := r2; simp only [eqD]; exact .str_str _ _ _ _
      | tup h r => cases r2; simp only [eqD]; obtain ⟨_, _, p, _⟩ := I.tuple (.of h); exact .str_tuple _ _ p hu'
      | lst h r => cases r2; simp only [eqD]; obtain ⟨_, _, p, _⟩ := I.list h; exact .str_list _ _ p.isList hu'
    | tup h r => rw [dep] at hd; omega
    | lst h r => rw [dep] at hd; omega
  | succ n ih =>
    intro A d e v w u1 u2 hd hx1 hx2 hu h1 h2 r1 r2
    have hu' : A.units < cLine := by omega
    have hu1 : A.in1.units + n < cLine := by show A.units + 1 + n < cLine; omega
    by_cases hdn : dep d ≤ n
    · exact ih A d e v w u1 u2 hdn hx1 hx2 (by omega) h1 h2 r1 r2
    cases h1 with
    | exn _ _ => simp [noX] at hx1
    | dcK _ _ => simp [noX] at hx1
    | dcT _ _ => simp [noX] at hx1
    | ins _ _ _ => simp [noX] at hx1
    | non => exact absurd (by simp [dep]) hdn
    | bl _ => exact absurd (by simp [dep]) hdn
    | int _ => exact absurd (by simp [dep]) hdn
    | str _ => exact absurd (by simp [dep]) hdn
    | @tup a xs ds h r =>
      cases r1
      obtain ⟨its, rv, p, _⟩ := I.tuple (.of h)
      cases h2 with
      | exn _ _ => simp [noX] at hx2
      | dcK _ _ => simp [noX] at hx2
      | dcT _ _ => simp [noX] at hx2
      | ins _ _ _ => simp [noX] at hx2
      | non => cases r2; simp only [eqD]; exact .tuple_none p hu'
      | bl b => cases r2; simp only [eqD]; exact .tuple_bool _ p hu'
      | int b => obtain ⟨t, rfl⟩ := r2; simp only [eqD]; exact .tuple_int _ _ p hu'
      | str b => obtain ⟨t, rfl⟩ := r2; simp only [eqD]; exact .tuple_str _ _ p hu'
      | @lst a2 xs2 es h' r' => cases r2; simp only [eqD]; obtain ⟨_, _, p', _⟩ := I.list h'; exact .tuple_list p p'.isList hu'
      | @tup a2 xs2 es h' r' =>
        cases r2
        by_cases ha : a = a2
        · subst ha
          have e' := I.tuple_inj (.of h) (.of h')
          subst e'
          have e2 := hasL_inj I (by rw [noX] at hx1; exact hx1) (by rw [noX] at hx2; exact hx2) r r'
          subst e2
          rw [eqD_refl]
          exact .same _
        · obtain ⟨its', rv', p', _⟩ := I.tuple (.of h')
          refine .of_refs ha ?_
          have q := SeqAt.RcAt.tuples (A := A) (e := fun j => eqD (ds.getD j .non) (es.getD j .non)) p p' hu' fun j h1 h2 => ?_
          · have z1 : its.toArray.size = ds.length := by rw [List.size_toArray, ← rv.length, r.length]
            have z2 : its'.toArray.size = es.length := by rw [List.size_toArray, ← rv'.length, r'.length]
            rw [z1, z2, eqDs_min] at q
            simp only [eqD]
            exact q
          · obtain ⟨x, hx, rx⟩ := vat rv j h1
            obtain ⟨y, hy, ry⟩ := vat rv' j h2
            obtain ⟨dx, ex, hax⟩ := r.getV hx
            obtain ⟨dy, ey, hay⟩ := r'.getV hy
            rw [getD_of ex, getD_of ey]
            refine ih A.in1 dx dy x y _ _ ?_ (noX_mem (List.mem_of_getElem? ex) (by rw [noX] at hx1; exact hx1)) (noX_mem (List.mem_of_getElem? ey) (by rw [noX] at hx2; exact hx2)) hu1 hax hay rx ry
            rw [dep] at hd
            have := dep_mem (List.mem_of_getElem? ex)
            omega
    | @lst a xs ds h r =>
      cases r1
      obtain ⟨its, rv, p, _⟩ := I.list h
      cases h2 with
      | exn _ _ => simp [noX] at hx2
      | dcK _ _ => simp [noX] at hx2
      | dcT _ _ => simp [noX] at hx2
      | ins _ _ _ => simp [noX] at hx2
      | non => cases r2; simp only [eqD]; exact .list_none p.isList hu'
      | bl b => cases r2; simp only [eqD]; exact .list_bool _ p.isList hu'
      | int b => obtain ⟨t, rfl⟩ := r2; simp only [eqD]; exact .list_int _ _ p.isList hu'
      | str b => obtain ⟨t, rfl⟩ := r2; simp only [eqD]; exact .list_str _ _ p.isList hu'
      | @tup a2 xs2 es h' r' => cases r2; simp only [eqD]; obtain ⟨_, _, p', _⟩ := I.tuple (.of h'); exact .list_tuple p.isList p' hu'
      | @lst a2 xs2 es h' r' =>
        cases r2
        by_cases ha : a = a2
        · subst ha
          have e' := I.list_inj h h'
          subst e'
          have e2 := hasL_inj I (by rw [noX] at hx1; exact hx1) (by rw [noX] at hx2; exact hx2) r r'
          subst e2
          rw [eqD_refl]
          exact .same _
        · obtain ⟨its', rv', p', _⟩ := I.list h'
          refine .of_refs ha ?_
          have z1 : its.toArray.size = ds.length := by rw [List.size_toArray, ← rv.length, r.length]
          have z2 : its'.toArray.size = es.length := by rw [List.size_toArray, ← rv'.length, r'.length]
          by_cases hz : its.toArray.size = its'.toArray.size
          · have q := SeqAt.RcAt.lists (A := A) (e := fun j => eqD (ds.getD j .non) (es.getD j .non)) p.isList p'.isList hz hu' fun j h1 h2 => ?_
            · rw [z1, eqDs_range ds es (by rw [← z1, ← z2, hz])] at q
              simp only [eqD]
              exact q
            · obtain ⟨x, hx, rx⟩ := vat rv j h1
              obtain ⟨y, hy, ry⟩ := vat rv' j h2
              obtain ⟨dx, ex, hax⟩ := r.getV hx
              obtain ⟨dy, ey, hay⟩ := r'.getV hy
              rw [getD_of ex, getD_of ey]
              refine ih A.in1 dx dy x y _ _ ?_ (noX_mem (List.mem_of_getElem? ex) (by rw [noX] at hx1; exact hx1)) (noX_mem (List.mem_of_getElem? ey) (by rw [noX] at hx2; exact hx2)) hu1 hax hay rx ry
              rw [dep] at hd
              have := dep_mem (List.mem_of_getElem? ex)
              omega
          · have q := SeqAt.RcAt.lists_lengths (A := A) p.isList p'.isList (by simpa using hz) hu'
            simp only [eqD]
            rw [eqDs_ne (by rw [← z1, ← z2]; exact hz)]
            exact q
theorem rc_D (I : Inv X pins σ H s) (A : Around) (d e : D) (v w : V) (u1 u2 : Value) (hd : A.units + dep d < cLine) (hx1 : noX d = true) (hx2 : noX e = true) (h1 : Has X.K H v d) (h2 : Has X.K H w e) (r1 : RelV v u1) (r2 : RelV w u2) : SeqAt.RcAt A s u1 u2 (eqD d e) := by
  have hu' : A.units < cLine := by omega
  cases h1 with
  | exn _ _ => simp [noX] at hx1
  | dcK _ _ => simp [noX] at hx1
  | dcT _ _ => simp [noX] at hx1
  | ins _ _ _ => simp [noX] at hx1
  | non =>
    cases r1
    cases h2 with
    | exn _ _ => simp [noX] at hx2
    | dcK _ _ => simp [noX] at hx2
    | dcT _ _ => simp [noX] at hx2
    | ins _ _ _ => simp [noX] at hx2
    | non => cases r2; simp only [eqD]; exact .none_none
    | bl b => cases r2; simp only [eqD]; exact .none_bool _
    | int b => obtain ⟨t, rfl⟩ := r2; simp only [eqD]; exact .none_int _ _
    | str b => obtain ⟨t, rfl⟩ := r2; simp only [eqD]; exact .none_str _ _
    | tup h r => cases r2; simp only [eqD]; obtain ⟨_, _, p, _⟩ := I.tuple (.of h); exact .none_tuple  p hu'
    | lst h r => cases r2; simp only [eqD]; obtain ⟨_, _, p, _⟩ := I.list h; exact .none_list  p.isList hu'
  | bl a =>
    cases r1
    cases h2 with
    | exn _ _ => simp [noX] at hx2
    | dcK _ _ => simp [noX] at hx2
    | dcT _ _ => simp [noX] at hx2
    | ins _ _ _ => simp [noX] at hx2
    | non => cases r2; simp only [eqD]; exact .bool_none _
    | bl b => cases r2; simp only [eqD]; exact .bool_bool _ _
    | int b => obtain ⟨t, rfl⟩ := r2; simp only [eqD]; exact .bool_int _ _ _
    | str b => obtain ⟨t, rfl⟩ := r2; simp only [eqD]; exact .bool_str _ _ _
    | tup h r => cases r2; simp only [eqD]; obtain ⟨_, _, p, _⟩ := I.tuple (.of h); exact .bool_tuple _ p hu'
    | lst h r => cases r2; simp only [eqD]; obtain ⟨_, _, p, _⟩ := I.list h; exact .bool_list _ p.isList hu'
  | int a =>
    obtain ⟨t', rfl⟩ := r1
    cases h2 with
    | exn _ _ => simp [noX] at hx2
    | dcK _ _ => simp [noX] at hx2
    | dcT _ _ => simp [noX] at hx2
    | ins _ _ _ => simp [noX] at hx2
    | non => cases r2; simp only [eqD]; exact .int_none _ _
    | bl b => cases r2; simp only [eqD]; exact .int_bool _ _ _
    | int b => obtain ⟨t, rfl⟩ := r2; simp only [eqD]; exact .int_int _ _ _ _
    | str b => obtain ⟨t, rfl⟩ := r2; simp only [eqD]; exact .int_str _ _ _ _
    | tup h r => cases r2; simp only [eqD]; obtain ⟨_, _, p, _⟩ := I.tuple (.of h); exact .int_tuple _ _ p hu'
    | lst h r => cases r2; simp only [eqD]; obtain ⟨_, _, p, _⟩ := I.list h; exact .int_list _ _ p.isList hu'
  | str a =>
    obtain ⟨t', rfl⟩ := r1
    cases h2 with
    | exn _ _ => simp [noX] at hx2
    | dcK _ _ => simp [noX] at hx2
    | dcT _ _ => simp [noX] at hx2
    | ins _ _ _ => simp [noX] at hx2
    | non => cases r2; simp only [eqD]; exact .str_none _ _
    | bl b => cases r2; simp only [eqD]; exact .str_bool _ _ _
    | int b => obtain ⟨t, rfl⟩ := r2; simp only [eqD]; exact .str_int _ _ _ _
    | str b => obtain ⟨t, rfl⟩ := r2; simp only [eqD]; exact .str_str _ _ _ _
    | tup h r => cases r2; simp only [eqD]; obtain ⟨_, _, p, _⟩ := I.tuple (.of h); exact .str_tuple _ _ p hu'
    | lst h r => cases r2; simp only [eqD]; obtain ⟨_, _, p, _⟩ := I.list h; exact .str_list _ _ p.isList hu'
  | @tup a xs ds h r =>
    cases r1
    obtain ⟨its, rv, p, _⟩ := I.tuple (.of h)
    cases h2 with
    | exn _ _ => simp [noX] at hx2
    | dcK _ _ => simp [noX] at hx2
    | dcT _ _ => simp [noX] at hx2
    | ins _ _ _ => simp [noX] at hx2
    | non => cases r2; simp only [eqD]; exact .tuple_none  p hu'
    | bl b => cases r2; simp only [eqD]; exact .tuple_bool _ p hu'
    | int b => obtain ⟨t, rfl⟩ := r2; simp only [eqD]; exact .tuple_int _ _ p hu'
    | str b => obtain ⟨t, rfl⟩ := r2; simp only [eqD]; exact .tuple_str _ _ p hu'
    | @lst a2 xs2 es h' r' => cases r2; simp only [eqD]; obtain ⟨_, _, p', _⟩ := I.list h'; exact .tuple_list p p'.isList hu'
    | @tup a2 xs2 es h' r' =>
      cases r2
      obtain ⟨its', rv', p', _⟩ := I.tuple (.of h')
      have z1 : its.toArray.size = ds.length := by rw [List.size_toArray, ← rv.length, r.length]
      have z2 : its'.toArray.size = es.length := by rw [List.size_toArray, ← rv'.length, r'.length]
      have q := SeqAt.RcAt.tuples (A := A) (e := fun j => eqD (ds.getD j .non) (es.getD j .non)) p p' hu' fun j h1 h2 => ?_
      · rw [z1, z2, eqDs_min] at q
        simp only [eqD]
        exact q
      · obtain ⟨x, hx, rx⟩ := vat rv j h1
        obtain ⟨y, hy, ry⟩ := vat rv' j h2
        obtain ⟨dx, ex, hax⟩ := r.getV hx
        obtain ⟨dy, ey, hay⟩ := r'.getV hy
        rw [getD_of ex, getD_of ey]
        rw [dep] at hd
        have := dep_mem (List.mem_of_getElem? ex)
        exact eqAt_D I (deps ds) A.in1 dx dy x y _ _ this (noX_mem (List.mem_of_getElem? ex) (by rw [noX] at hx1; exact hx1)) (noX_mem (List.mem_of_getElem? ey) (by rw [noX] at hx2; exact hx2)) (by show A.units + 1 + _ < cLine; omega) hax hay rx ry
  | @lst a xs ds h r =>
    cases r1
    obtain ⟨its, rv, p, _⟩ := I.list h
    cases h2 with
    | exn _ _ => simp [noX] at hx2
    | dcK _ _ => simp [noX] at hx2
    | dcT _ _ => simp [noX] at hx2
    | ins _ _ _ => simp [noX] at hx2
    | non => cases r2; simp only [eqD]; exact .list_none  p.isList hu'
    | bl b => cases r2; simp only [eqD]; exact .list_bool _ p.isList hu'
    | int b => obtain ⟨t, rfl⟩ := r2; simp only [eqD]; exact .list_int _ _ p.isList hu'
    | str b => obtain ⟨t, rfl⟩ := r2; simp only [eqD]; exact .list_str _ _ p.isList hu'
    | @tup a2 xs2 es h' r' => cases r2; simp only [eqD]; obtain ⟨_, _, p', _⟩ := I.tuple (.of h'); exact .list_tuple p.isList p' hu'
    | @lst a2 xs2 es h' r' =>
      cases r2
      obtain ⟨its', rv', p', _⟩ := I.list h'
      have z1 : its.toArray.size = ds.length := by rw [List.size_toArray, ← rv.length, r.length]
      have z2 : its'.toArray.size = es.length := by rw [List.size_toArray, ← rv'.length, r'.length]
      by_cases hz : its.toArray.size = its'.toArray.size
      · have q := SeqAt.RcAt.lists (A := A) (e := fun j => eqD (ds.getD j .non) (es.getD j .non)) p.isList p'.isList hz hu' fun j h1 h2 => ?_
        · rw [z1, eqDs_range ds es (by rw [← z1, ← z2, hz])] at q
          simp only [eqD]
          exact q
        · obtain ⟨x, hx, rx⟩ := vat rv j h1
          obtain ⟨y, hy, ry⟩ := vat rv' j h2
          obtain ⟨dx, ex, hax⟩ := r.getV hx
          obtain ⟨dy, ey, hay⟩ := r'.getV hy
          rw [getD_of ex, getD_of ey]
          rw [dep] at hd
          have := dep_mem (List.mem_of_getElem? ex)
          exact eqAt_D I (deps ds) A.in1 dx dy x y _ _ this (noX_mem (List.mem_of_getElem? ex) (by rw [noX] at hx1; exact hx1)) (noX_mem (List.mem_of_getElem? ey) (by rw [noX] at hx2; exact hx2)) (by show A.units + 1 + _ < cLine; omega) hax hay rx ry
      · have q := SeqAt.RcAt.lists_lengths (A := A) p.isList p'.isList (by simpa using hz) hu'
        simp only [eqD]
        rw [eqDs_ne (by rw [← z1, ← z2]; exact hz)]
        exact q
theorem rcn_D (I : Inv X pins σ H s) (A : Around) (d e : D) (v w : V) (u1 u2 : Value) (hd : A.units + dep d < cLine) (hx1 : noX d = true) (hx2 : noX e = true) (h1 : Has X.K H v d) (h2 : Has X.K H w e) (r1 : RelV v u1) (r2 : RelV w u2) : SeqAt.RcNeAt A s u1 u2 (!eqD d e) := by
  have hu' : A.units < cLine := by omega
  cases h1 with
  | exn _ _ => simp [noX] at hx1
  | dcK _ _ => simp [noX] at hx1
  | dcT _ _ => simp [noX] at hx1
  | ins _ _ _ => simp [noX] at hx1
  | non =>
    cases r1
    cases h2 with
    | exn _ _ => simp [noX] at hx2
    | dcK _ _ => simp [noX] at hx2
    | dcT _ _ => simp [noX] at hx2
    | ins _ _ _ => simp [noX] at hx2
    | non => cases r2; simp only [eqD]; exact .none_none
    | bl b => cases r2; simp only [eqD]; exact .none_bool _
    | int b => obtain ⟨t, rfl⟩ := r2; simp only [eqD]; exact .none_int _ _
    | str b => obtain ⟨t, rfl⟩ := r2; simp only [eqD]; exact .none_str _ _
    | tup h r => cases r2; simp only [eqD]; obtain ⟨_, _, p, _⟩ := I.tuple (.of h); exact .none_tuple  p hu'
    | lst h r => cases r2; simp only [eqD]; obtain ⟨_, _, p, _⟩ := I.list h; exact .none_list  p.isList hu'
  | bl a =>
    cases r1
    cases h2 with
    | exn _ _ => simp [noX] at hx2
    | dcK _ _ => simp [noX] at hx2
    | dcT _ _ => simp [noX] at hx2
    | ins _ _ _ => simp [noX] at hx2
    | non => cases r2; simp only [eqD]; exact .bool_none _
    | bl b => cases r2; simp only [eqD]; exact .bool_bool _ _
    | int b => obtain ⟨t, rfl⟩ := r2; simp only [eqD]; exact .bool_int _ _ _
    | str b => obtain ⟨t, rfl⟩ := r2; simp only [eqD]; exact .bool_str _ _ _
    | tup h r => cases r2; simp only [eqD]; obtain ⟨_, _, p, _⟩ := I.tuple (.of h); exact .bool_tuple _ p hu'
    | lst h r => cases r2; simp only [eqD]; obtain ⟨_, _, p, _⟩ := I.list h; exact .bool_list _ p.isList hu'
  | int a =>
    obtain ⟨t', rfl⟩ := r1
    cases h2 with
    | exn _ _ => simp [noX] at hx2
    | dcK _ _ => simp [noX] at hx2
    | dcT _ _ => simp [noX] at hx2
    | ins _ _ _ => simp [noX] at hx2
    | non => cases r2; simp only [eqD]; exact .int_none _ _
    | bl b => cases r2; simp only [eqD]; exact .int_bool _ _ _
    | int b => obtain ⟨t, rfl⟩ := r2; simp only [eqD]; exact .int_int _ _ _ _
    | str b => obtain ⟨t, rfl⟩ := r2; simp only [eqD]; exact .int_str _ _ _ _
    | tup h r => cases r2; simp only [eqD]; obtain ⟨_, _, p, _⟩ := I.tuple (.of h); exact .int_tuple _ _ p hu'
    | lst h r => cases r2; simp only [eqD]; obtain ⟨_, _, p, _⟩ := I.list h; exact .int_list _ _ p.isList hu'
  | str a =>
    obtain ⟨t', rfl⟩ := r1
    cases h2 with
    | exn _ _ => simp [noX] at hx2
    | dcK _ _ => simp [noX] at hx2
    | dcT _ _ => simp [noX] at hx2
    | ins _ _ _ => simp [noX] at hx2
    | non => cases r2; simp only [eqD]; exact .str_none _ _
    | bl b => cases r2; simp only [eqD]; exact .str_bool _ _ _
    | int b => obtain ⟨t, rfl⟩ := r2; simp only [eqD]; exact .str_int _ _ _ _
    | str b => obtain ⟨t, rfl⟩ := r2; simp only [eqD]; exact .str_str _ _ _ _
    | tup h r => cases r2; simp only [eqD]; obtain ⟨_, _, p, _⟩ := I.tuple (.of h); exact .str_tuple _ _ p hu'
    | lst h r => cases r2; simp only [eqD]; obtain ⟨_, _, p, _⟩ := I.list h; exact .str_list _ _ p.isList hu'
  | @tup a xs ds h r =>
    cases r1
    obtain ⟨its, rv, p, _⟩ := I.tuple (.of h)
    cases h2 with
    | exn _ _ => simp [noX] at hx2
    | dcK _ _ => simp [noX] at hx2
    | dcT _ _ => simp [noX] at hx2
    | ins _ _ _ => simp [noX] at hx2
    | non => cases r2; simp only [eqD]; exact .tuple_none  p hu'
    | bl b => cases r2; simp only [eqD]; exact .tuple_bool _ p hu'
    | int b => obtain ⟨t, rfl⟩ := r2; simp only [eqD]; exact .tuple_int _ _ p hu'
    | str b => obtain ⟨t, rfl⟩ := r2; simp only [eqD]; exact .tuple_str _ _ p hu'
    | @lst a2 xs2 es h' r' => cases r2; simp only [eqD]; obtain ⟨_, _, p', _⟩ := I.list h'; exact .tuple_list p p'.isList hu'
    | @tup a2 xs2 es h' r' =>
      cases r2
      obtain ⟨its', rv', p', _⟩ := I.tuple (.of h')
      have z1 : its.toArray.size = ds.length := by rw [List.size_toArray, ← rv.length, r.length]
      have z2 : its'.toArray.size = es.length := by rw [List.size_toArray, ← rv'.length, r'.length]
      have q := SeqAt.RcNeAt.tuples (A := A) (e := fun j => eqD (ds.getD j .non) (es.getD j .non)) p p' hu' fun j h1 h2 => ?_
      · rw [z1, z2, eqDs_min] at q
        simp only [eqD]
        exact q
      · obtain ⟨x, hx, rx⟩ := vat rv j h1
        obtain ⟨y, hy, ry⟩ := vat rv' j h2
        obtain ⟨dx, ex, hax⟩ := r.getV hx
        obtain ⟨dy, ey, hay⟩ := r'.getV hy
        rw [getD_of ex, getD_of ey]
        rw [dep] at hd
        have := dep_mem (List.mem_of_getElem? ex)
        exact eqAt_D I (deps ds) A.in1 dx dy x y _ _ this (noX_mem (List.mem_of_getElem? ex) (by rw [noX] at hx1; exact hx1)) (noX_mem (List.mem_of_getElem? ey) (by rw [noX] at hx2; exact hx2)) (by show A.units + 1 + _ < cLine; omega) hax hay rx ry
  | @lst a xs ds h r =>
    cases r1
    obtain ⟨its, rv, p, _⟩ := I.list h
    cases h2 with
    | exn _ _ => simp [noX] at hx2
    | dcK _ _ => simp [noX] at hx2
    | dcT _ _ => simp [noX] at hx2
    | ins _ _ _ => simp [noX] at hx2
    | non => cases r2; simp only [eqD]; exact .list_none  p.isList hu'
    | bl b => cases r2; simp only [eqD]; exact .list_bool _ p.isList hu'
    | int b => obtain ⟨t, rfl⟩ := r2; simp only [eqD]; exact .list_int _ _ p.isList hu'
    | str b => obtain ⟨t, rfl⟩ := r2; simp only [eqD]; exact .list_str _ _ p.isList hu'
    | @tup a2 xs2 es h' r' => cases r2; simp only [eqD]; obtain ⟨_, _, p', _⟩ := I.tuple (.of h'); exact .list_tuple p.isList p' hu'
    | @lst a2 xs2 es h' r' =>
      cases r2
      obtain ⟨its', rv', p', _⟩ := I.list h'
      have z1 : its.toArray.size = ds.length := by rw [List.size_toArray, ← rv.length, r.length]
      have z2 : its'.toArray.size = es.length := by rw [List.size_toArray, ← rv'.length, r'.length]
      by_cases hz : its.toArray.size = its'.toArray.size
      · have q := SeqAt.RcNeAt.lists (A := A) (e := fun j => eqD (ds.getD j .non) (es.getD j .non)) p.isList p'.isList hz hu' fun j h1 h2 => ?_
        · rw [z1, eqDs_range ds es (by rw [← z1, ← z2, hz])] at q
          simp only [eqD]
          exact q
        · obtain ⟨x, hx, rx⟩ := vat rv j h1
          obtain ⟨y, hy, ry⟩ := vat rv' j h2
          obtain ⟨dx, ex, hax⟩ := r.getV hx
          obtain ⟨dy, ey, hay⟩ := r'.getV hy
          rw [getD_of ex, getD_of ey]
          rw [dep] at hd
          have := dep_mem (List.mem_of_getElem? ex)
          exact eqAt_D I (deps ds) A.in1 dx dy x y _ _ this (noX_mem (List.mem_of_getElem? ex) (by rw [noX] at hx1; exact hx1)) (noX_mem (List.mem_of_getElem? ey) (by rw [noX] at hx2; exact hx2)) (by show A.units + 1 + _ < cLine; omega) hax hay rx ry
      · have q := SeqAt.RcNeAt.lists_lengths (A := A) p.isList p'.isList (by simpa using hz) hu'
        simp only [eqD]
        rw [eqDs_ne (by rw [← z1, ← z2]; exact hz)]
        exact q

/-- == and != of data -/
def rEqD (K : PySem.W.Frag) (A : Around) (neg : Bool) : R2 := fun x y H Q => ∃ d e, Has K H x d ∧ Has K H y e ∧ A.units + dep d < cLine ∧ noX d = true ∧ noX e = true ∧ Q (.bl (if neg = true then !eqD d e else eqD d e)) H
theorem op_eqD : OpR X (compareOp .Eq) (rEqD X.K X.A false) := by
  intro pins s σ H x y v u Q I rx ry h
  obtain ⟨d, e, hd, he, hu, n1, n2, q⟩ := h
  exact rc_D I X.A d e x y v u hu n1 n2 hd he rx ry X.prog X.w X.xe _ ⟨.bl _, H, I, rfl, q⟩
theorem op_neD : OpR X (compareOp .NotEq) (rEqD X.K X.A true) := by
  intro pins s σ H x y v u Q I rx ry h
  obtain ⟨d, e, hd, he, hu, n1, n2, q⟩ := h
  exact rcn_D I X.A d e x y v u hu n1 n2 hd he rx ry X.prog X.w X.xe _ ⟨.bl _, H, I, rfl, q⟩
end
end L2

set_option Elab.async false
set_option linter.all false
set_option maxRecDepth 100000
namespace L2
open PySem PySem.Spec PyProof.Rows

/-! ### a layer of data: what an expression is worth, by the data of the names -/
/-- a tree of one's own: shared data, and things of one's own with such trees within -/
inductive OT where
  | sh (d : D) | lst (ts : List OT) | tup (ts : List OT) | dct (t : Bool) (ks : List D) (ts : List OT) | ins (x : Str) (ns : List Str) (ts : List OT)
/-- other things of one's own: a list of lists of one's own; a list, a tree that stays at a known address (by its number) -/
inductive Ow where
  | rows (dss : List (List D))
  | anc (p : Nat) (ds : List D)
  | tree (p : Option Nat) (t : OT)
/-- a name's content: a datum; or a list (or other thing) of one's own, that only this name has -/
inductive Cl where
  | val (d : D) | own (ds : List D) | ow (o : Ow)
abbrev Rho := List (Option Cl)
/-- a worth; an exception of the class at c; nothing said -/
inductive M (α : Type) where
  | ok (a : α) | ex (c : Str) | bad
def M.bind {α β : Type} (m : M α) (k : α → M β) : M β := match m with
  | .ok a => k a
  | .ex c => .ex c
  | .bad => .bad
@[simp] theorem M.bind_ok {α β : Type} (a : α) (k : α → M β) : (M.ok a).bind k = k a := rfl
@[simp] theorem M.bind_ex {α β : Type} (c : Str) (k : α → M β) : (M.ex c).bind k = .ex c := rfl
@[simp] theorem M.bind_bad {α β : Type} (k : α → M β) : M.bad.bind k = .bad := rfl
/-- the heap without the addresses of P -/
noncomputable def del (H : Hp) (P : Addr → Prop) : Hp := fun a => open Classical in if P a then none else H a
theorem del_of {H : Hp} {P : Addr → Prop} {a : Addr} (h : ¬ P a) : del H P a = H a := by unfold del; rw [if_neg h]
theorem del_in {H : Hp} {P : Addr → Prop} {a : Addr} (h : P a) : del H P a = none := by unfold del; rw [if_pos h]
theorem del_some {H : Hp} {P : Addr → Prop} {a : Addr} {o : HO} (h : del H P a = some o) : ¬ P a ∧ H a = some o := by
  by_cases hp : P a
  · rw [del_in hp] at h; cases h
  · rw [del_of hp] at h; exact ⟨hp, h⟩
theorem Same.del {H H' : Hp} {P : Addr → Prop} (e : Same H H') : Same (del H P) (del H' P) := fun b o h => by
  obtain ⟨h1, h2⟩ := del_some h
  rw [del_of h1]; exact e b o h2
theorem del_sub {H : Hp} {P P' : Addr → Prop} (h : ∀ a, P' a → P a) : Same (L2.del H P) (L2.del H P') := fun b o e => by
  obtain ⟨h1, h2⟩ := del_some e
  rw [del_of fun z => h1 (h b z)]; exact h2
theorem del_full {H : Hp} {P : Addr → Prop} : Same (L2.del H P) H := fun b o e => (del_some e).2
/-- a tracked thing: no tuple -/
def Trk (H : Hp) (a : Addr) : Prop := ∃ o, H a = some o ∧ ∀ xs, o ≠ .tup xs ∧ ∀ z, o ≠ .frz z (.tup xs)
theorem Trk.same {H H' : Hp} {a : Addr} (h : Trk H a) (e : Same H H') : Trk H' a := let ⟨o, q, r⟩ := h; ⟨o, e a o q, r⟩
theorem Trk.no {H : Hp} {a : Addr} (h : Trk H a) (e : H a = none) : False := by
  obtain ⟨o, q, r⟩ := h
  rw [e] at q; cases q
theorem Trk.lst {H : Hp} {a : Addr} {xs : List V} (h : H a = some (.lst xs)) : Trk H a := ⟨_, h, fun _ => ⟨fun z => (by cases z), fun _ z => by cases z⟩⟩
/-! trees -/
mutual
inductive OwT (K : PySem.W.Frag) (H : Hp) (P : Addr → Prop) : V → OT → List Addr → Prop
  | sh {v d} : Has K (del H P) v d → OwT K H P v (.sh d) []
  | lst {p xs ts fp} : H p = some (.lst xs) → OwTs K H P xs ts fp → OwT K H P (.ref p) (.lst ts) (p :: fp)
  | tup {p xs ts fp} : del H P p = some (.tup xs) → OwTs K H P xs ts fp → OwT K H P (.ref p) (.tup ts) fp
  | dK {p kvs ts fp} : H p = some (.dK kvs) → OwTs K H P (kvs.map Prod.snd) ts fp → OwT K H P (.ref p) (.dct false (kvs.map fun kv => dkD kv.1) ts) (p :: fp)
  | dT {p kvs ts fp} : H p = some (.dT kvs) → OwTs K H P (kvs.map Prod.snd) ts fp → OwT K H P (.ref p) (.dct true (kvs.map fun kv => .tup (kv.1.map dkD)) ts) (p :: fp)
  | ins {p C dx fs ts fp x} : PySem.W.nsIn K mainGlobals x = some (some (.ref C)) → H p = some (.ins C dx fs) → OwTs K H P (fs.map Prod.snd) ts fp → OwT K H P (.ref p) (.ins x (fs.map Prod.fst) ts) (p :: fp)
inductive OwTs (K : PySem.W.Frag) (H : Hp) (P : Addr → Prop) : List V → List OT → List Addr → Prop
  | nil : OwTs K H P [] [] []
  | cons {v t fp vs ts fq} : OwT K H P v t fp → OwTs K H P vs ts fq → OwTs K H P (v :: vs) (t :: ts) (fp ++ fq)
end
mutual
def er : OT → D
  | .sh d => d
  | .lst ts => .lst (ers ts)
  | .tup ts => .tup (ers ts)
  | .dct t ks ts => .dct t ks (ers ts)
  | .ins x ns ts => .ins x ns (ers ts)
def ers : List OT → List D
  | [] => []
  | t :: r => er t :: ers r
end
theorem ers_map : ∀ ts : List OT, ers ts = ts.map er
  | [] => rfl
  | t :: r => by rw [ers, ers_map r, List.map_cons]
mutual
theorem OwT.move {K : PySem.W.Frag} {H H' : Hp} {P P' : Addr → Prop} (sm : Same (del H P) (del H' P')) : ∀ {v : V} {t : OT} {fp : List Addr}, (∀ a ∈ fp, H' a = H a) → OwT K H P v t fp → OwT K H' P' v t fp
  | _, _, _, _, .sh h => .sh (h.mono sm)
  | _, _, _, k, .lst h r => .lst ((k _ List.mem_cons_self).trans h) (OwTs.move sm (fun a ha => k a (List.mem_cons_of_mem _ ha)) r)
  | _, _, _, k, .tup h r => .tup (sm _ _ h) (OwTs.move sm k r)
  | _, _, _, k, .dK h r => .dK ((k _ List.mem_cons_self).trans h) (OwTs.move sm (fun a ha => k a (List.mem_cons_of_mem _ ha)) r)
  | _, _, _, k, .dT h r => .dT ((k _ List.mem_cons_self).trans h) (OwTs.move sm (fun a ha => k a (List.mem_cons_of_mem _ ha)) r)
  | _, _, _, k, .ins n h r => .ins n ((k _ List.mem_cons_self).trans h) (OwTs.move sm (fun a ha => k a (List.mem_cons_of_mem _ ha)) r)
theorem OwTs.move {K : PySem.W.Frag} {H H' : Hp} {P P' : Addr → Prop} (sm : Same (del H P) (del H' P')) : ∀ {v : List V} {t : List OT} {fp : List Addr}, (∀ a ∈ fp, H' a = H a) → OwTs K H P v t fp → OwTs K H' P' v t fp
  | _, _, _, _, .nil => .nil
  | _, _, _, k, .cons h r => .cons (OwT.move sm (fun a ha => k a (List.mem_append_left _ ha)) h) (OwTs.move sm (fun a ha => k a (List.mem_append_right _ ha)) r)
end
mutual
theorem OwT.trk {K : PySem.W.Frag} {H : Hp} {P : Addr → Prop} : ∀ {v : V} {t : OT} {fp : List Addr}, OwT K H P v t fp → ∀ a ∈ fp, Trk H a
  | _, _, _, .sh h, a, ha => by cases ha
  | _, _, _, .lst h r, a, ha => by
    rcases List.mem_cons.mp ha with rfl | ha
    · exact .lst h
    · exact OwTs.trk r a ha
  | _, _, _, .tup h r, a, ha => OwTs.trk r a ha
  | _, _, _, .dK h r, a, ha => by
    rcases List.mem_cons.mp ha with rfl | ha
    · exact ⟨_, h, fun _ => ⟨fun z => (by cases z), fun _ z => by cases z⟩⟩
    · exact OwTs.trk r a ha
  | _, _, _, .dT h r, a, ha => by
    rcases List.mem_cons.mp ha with rfl | ha
    · exact ⟨_, h, fun _ => ⟨fun z => (by cases z), fun _ z => by cases z⟩⟩
    · exact OwTs.trk r a ha
  | _, _, _, .ins n h r, a, ha => by
    rcases List.mem_cons.mp ha with rfl | ha
    · exact ⟨_, h, fun _ => ⟨fun z => (by cases z), fun _ z => by cases z⟩⟩
    · exact OwTs.trk r a ha
theorem OwTs.trk {K : PySem.W.Frag} {H : Hp} {P : Addr → Prop} : ∀ {v : List V} {t : List OT} {fp : List Addr}, OwTs K H P v t fp → ∀ a ∈ fp, Trk H a
  | _, _, _, .nil, a, ha => by cases ha
  | _, _, _, .cons h r, a, ha => by
    rcases List.mem_append.mp ha with ha | ha
    · exact OwT.trk h a ha
    · exact OwTs.trk r a ha
end
mutual
theorem OwT.uniq {K : PySem.W.Frag} {H : Hp} {P P' : Addr → Prop} : ∀ {v : V} {t : OT} {fp fp' : List Addr}, OwT K H P v t fp → OwT K H P' v t fp' → fp = fp'
  | _, _, _, _, .sh _, .sh _ => rfl
  | _, _, _, _, .lst h r, .lst h' r' => by
    rw [h] at h'; cases h'
    rw [OwTs.uniq r r']
  | _, _, _, _, .tup h r, .tup h' r' => by
    have e := (del_some h).2.symm.trans (del_some h').2
    cases e
    exact OwTs.uniq r r'
  | _, _, _, _, .dK (kvs := kvs) (ts := ts) h r, x => by
    generalize ht : OT.dct false (kvs.map fun kv => dkD kv.1) ts = t at x
    cases x with
    | dK h' r' =>
      rw [h] at h'; cases h'
      injection ht with _ _ e
      subst e
      rw [OwTs.uniq r r']
    | dT h' r' => rw [h] at h'; cases h'
    | _ => cases ht
  | _, _, _, _, .dT (kvs := kvs) (ts := ts) h r, x => by
    generalize ht : OT.dct true (kvs.map fun kv => D.tup (kv.1.map dkD)) ts = t at x
    cases x with
    | dT h' r' =>
      rw [h] at h'; cases h'
      injection ht with _ _ e
      subst e
      rw [OwTs.uniq r r']
    | dK h' r' => rw [h] at h'; cases h'
    | _ => cases ht
  | _, _, _, _, .ins (fs := fs) (ts := ts) (x := y) n h r, x => by
    generalize ht : OT.ins y (fs.map Prod.fst) ts = t at x
    cases x with
    | ins n' h' r' =>
      rw [h] at h'; cases h'
      injection ht with _ _ e
      subst e
      rw [OwTs.uniq r r']
    | _ => cases ht
theorem OwTs.uniq {K : PySem.W.Frag} {H : Hp} {P P' : Addr → Prop} : ∀ {v : List V} {t : List OT} {fp fp' : List Addr}, OwTs K H P v t fp → OwTs K H P' v t fp' → fp = fp'
  | _, _, _, _, .nil, .nil => rfl
  | _, _, _, _, .cons h r, .cons h' r' => by rw [OwT.uniq h h', OwTs.uniq r r']
end
mutual
/-- a tree as a datum: where nothing of it is hidden -/
theorem OwT.has {K : PySem.W.Frag} {H : Hp} {P P0 : Addr → Prop} (hs : ∀ a, P0 a → P a) : ∀ {v : V} {t : OT} {fp : List Addr}, (∀ a ∈ fp, ¬ P0 a) → OwT K H P v t fp → Has K (del H P0) v (er t)
  | _, _, _, _, .sh h => by rw [er]; exact h.mono (del_sub hs)
  | _, _, _, k, .lst h r => by rw [er]; exact .lst (.of (show del H P0 _ = _ by rw [del_of (k _ List.mem_cons_self)]; exact h)) (OwTs.has hs (fun a ha => k a (List.mem_cons_of_mem _ ha)) r)
  | _, _, _, k, .tup h r => by rw [er]; exact .tup (del_sub hs _ _ h) (OwTs.has hs k r)
  | _, _, _, k, .dK h r => by rw [er]; exact .dcK (show del H P0 _ = _ by rw [del_of (k _ List.mem_cons_self)]; exact h) (OwTs.has hs (fun a ha => k a (List.mem_cons_of_mem _ ha)) r)
  | _, _, _, k, .dT h r => by rw [er]; exact .dcT (show del H P0 _ = _ by rw [del_of (k _ List.mem_cons_self)]; exact h) (OwTs.has hs (fun a ha => k a (List.mem_cons_of_mem _ ha)) r)
  | _, _, _, k, .ins n h r => by rw [er]; exact .ins n (show del H P0 _ = _ by rw [del_of (k _ List.mem_cons_self)]; exact h) (OwTs.has hs (fun a ha => k a (List.mem_cons_of_mem _ ha)) r)
theorem OwTs.has {K : PySem.W.Frag} {H : Hp} {P P0 : Addr → Prop} (hs : ∀ a, P0 a → P a) : ∀ {v : List V} {t : List OT} {fp : List Addr}, (∀ a ∈ fp, ¬ P0 a) → OwTs K H P v t fp → HasL K (del H P0) v (ers t)
  | _, _, _, _, .nil => by rw [ers]; exact .nil
  | _, _, _, k, .cons h r => by rw [ers]; exact .cons (OwT.has hs (fun a ha => k a (List.mem_append_left _ ha)) h) (OwTs.has hs (fun a ha => k a (List.mem_append_right _ ha)) r)
end
/-- lists of one's own at these addresses -/
inductive RowsH (K : PySem.W.Frag) (H : Hp) (P : Addr → Prop) : List Addr → List (List D) → Prop
  | nil : RowsH K H P [] []
  | cons {q : Addr} {xs : List V} {ds : List D} {ps : List Addr} {dss : List (List D)} : H q = some (.lst xs) → HasL K (del H P) xs ds → RowsH K H P ps dss → RowsH K H P (q :: ps) (ds :: dss)
/-- a content of one's own: the value and the addresses that it takes -/
def OwH (K : PySem.W.Frag) (H : Hp) (P : Addr → Prop) : Cl → V → List Addr → Prop
  | .own ds, v, fp => ∃ p xs, v = .ref p ∧ fp = [p] ∧ H p = some (.lst xs) ∧ HasL K (del H P) xs ds
  | .ow (.rows dss), v, fp => ∃ p ps, v = .ref p ∧ fp = p :: ps ∧ H p = some (.lst (ps.map V.ref)) ∧ RowsH K H P ps dss
  | .ow (.anc _ ds), v, fp => ∃ p xs, v = .ref p ∧ fp = [p] ∧ H p = some (.lst xs) ∧ HasL K (del H P) xs ds
  | .ow (.tree _ t), v, fp => OwT K H P v t fp
  | .val _, _, _ => False
def isOw : Cl → Bool
  | .val _ => false
  | _ => true
theorem RowsH.move {K : PySem.W.Frag} {H H' : Hp} {P P' : Addr → Prop} (sm : Same (del H P) (del H' P')) : ∀ {ps : List Addr} {dss : List (List D)}, (∀ a ∈ ps, H' a = H a) → RowsH K H P ps dss → RowsH K H' P' ps dss
  | _, _, _, .nil => .nil
  | _, _, k, .cons h r t => .cons ((k _ List.mem_cons_self).trans h) (r.mono sm) (RowsH.move sm (fun a ha => k a (List.mem_cons_of_mem _ ha)) t)
theorem RowsH.at {K : PySem.W.Frag} {H : Hp} {P : Addr → Prop} : ∀ {ps : List Addr} {dss : List (List D)}, RowsH K H P ps dss → ∀ a ∈ ps, ∃ xs, H a = some (.lst xs)
  | _, _, .nil, a, h => by cases h
  | _, _, .cons h r t, a, ha => by
    rcases List.mem_cons.mp ha with rfl | ha
    · exact ⟨_, h⟩
    · exact t.at a ha
theorem RowsH.length {K : PySem.W.Frag} {H : Hp} {P : Addr → Prop} : ∀ {ps : List Addr} {dss : List (List D)}, RowsH K H P ps dss → ps.length = dss.length
  | _, _, .nil => rfl
  | _, _, .cons h r t => by rw [List.length_cons, List.length_cons, t.length]
theorem RowsH.get {K : PySem.W.Frag} {H : Hp} {P : Addr → Prop} : ∀ {ps : List Addr} {dss : List (List D)} {i : Nat} {ds : List D}, RowsH K H P ps dss → dss[i]? = some ds → ∃ q xs, ps[i]? = some q ∧ H q = some (.lst xs) ∧ HasL K (del H P) xs ds
  | _, _, _, _, .nil, e => by simp at e
  | _, _, 0, _, .cons h r _, e => by simp at e; subst e; exact ⟨_, _, rfl, h, r⟩
  | _, _, i + 1, ds, .cons _ _ t, e => by
    obtain ⟨q, xs, h1, h2⟩ := RowsH.get (i := i) (ds := ds) t (by simpa using e)
    exact ⟨q, xs, by simpa using h1, h2⟩
theorem refs_inj : ∀ {ps qs : List Addr}, ps.map V.ref = qs.map V.ref → ps = qs
  | [], [], _ => rfl
  | [], _ :: _, h => by cases h
  | _ :: _, [], h => by cases h
  | p :: ps, q :: qs, h => by
    rw [List.map_cons, List.map_cons] at h
    injection h with h1 h2
    injection h1 with h1
    rw [h1, refs_inj h2]
theorem OwH.move {K : PySem.W.Frag} {H H' : Hp} {P P' : Addr → Prop} (sm : Same (del H P) (del H' P')) {c : Cl} {v : V} {fp : List Addr} (k : ∀ a ∈ fp, H' a = H a) (h : OwH K H P c v fp) : OwH K H' P' c v fp := by
  cases c with
  | val d => exact h
  | own ds =>
    obtain ⟨p, xs, rfl, rfl, h1, h2⟩ := h
    exact ⟨p, xs, rfl, rfl, (k p List.mem_cons_self).trans h1, h2.mono sm⟩
  | ow o =>
    cases o with
    | rows dss =>
      obtain ⟨p, ps, rfl, rfl, h1, h2⟩ := h
      exact ⟨p, ps, rfl, rfl, (k p List.mem_cons_self).trans h1, h2.move sm fun a ha => k a (List.mem_cons_of_mem _ ha)⟩
    | anc p ds =>
      obtain ⟨p, xs, rfl, rfl, h1, h2⟩ := h
      exact ⟨p, xs, rfl, rfl, (k p List.mem_cons_self).trans h1, h2.mono sm⟩
    | tree p t => exact OwT.move sm k h
theorem OwH.at {K : PySem.W.Frag} {H : Hp} {P : Addr → Prop} {c : Cl} {v : V} {fp : List Addr} (h : OwH K H P c v fp) : ∀ a ∈ fp, ∃ o, H a = some o := by
  cases c with
  | val d => exact h.elim
  | own ds =>
    obtain ⟨p, xs, rfl, rfl, h1, h2⟩ := h
    exact fun a ha => ⟨.lst xs, by rw [List.mem_singleton.mp ha]; exact h1⟩
  | ow o =>
    cases o with
    | rows dss =>
      obtain ⟨p, ps, rfl, rfl, h1, h2⟩ := h
      intro a ha
      rcases List.mem_cons.mp ha with rfl | ha
      · exact ⟨_, h1⟩
      · obtain ⟨xs, q⟩ := h2.at a ha
        exact ⟨_, q⟩
    | anc p ds =>
      obtain ⟨p, xs, rfl, rfl, h1, h2⟩ := h
      exact fun a ha => ⟨.lst xs, by rw [List.mem_singleton.mp ha]; exact h1⟩
    | tree p t =>
      intro a ha
      obtain ⟨o, q, _⟩ := OwT.trk h a ha
      exact ⟨o, q⟩
theorem OwH.same {K : PySem.W.Frag} {H H' : Hp} {P : Addr → Prop} (e : Same H H') {c : Cl} {v : V} {fp : List Addr} (h : OwH K H P c v fp) : OwH K H' P c v fp :=
  h.move e.del fun a ha => by obtain ⟨xs, q⟩ := h.at a ha; rw [q]; exact e _ _ q
theorem OwH.uniq {K : PySem.W.Frag} {H : Hp} {P P' : Addr → Prop} {c : Cl} {v : V} {fp fp' : List Addr} (h : OwH K H P c v fp) (h' : OwH K H P' c v fp') : fp = fp' := by
  cases c with
  | val d => exact h.elim
  | own ds =>
    obtain ⟨p, xs, rfl, rfl, h1, h2⟩ := h
    obtain ⟨p', xs', e, rfl, h1', h2'⟩ := h'
    cases e; rfl
  | ow o =>
    cases o with
    | rows dss =>
      obtain ⟨p, ps, rfl, rfl, h1, h2⟩ := h
      obtain ⟨p', ps', e, rfl, h1', h2'⟩ := h'
      cases e
      rw [h1] at h1'
      injection h1' with e
      injection e with e
      rw [refs_inj e]
    | anc p ds =>
      obtain ⟨p, xs, rfl, rfl, h1, h2⟩ := h
      obtain ⟨p', xs', e, rfl, h1', h2'⟩ := h'
      cases e; rfl
    | tree p t => exact OwT.uniq h h'
/-- what is not one's own to change; the addresses of the things that stay -/
structure P0T where
  pr : Addr → Prop
  g : Nat → Addr
instance : CoeFun P0T (fun _ => Addr → Prop) := ⟨P0T.pr⟩
instance : Coe P0T (Addr → Prop) := ⟨P0T.pr⟩
def pinOf : Cl → Option Nat
  | .ow (.anc n _) => some n
  | .ow (.tree (some n) _) => some n
  | _ => none
structure EnvP (K : PySem.W.Frag) (P0 : P0T) (P : Addr → Prop) (H : Hp) (σ : St) (ρ : Rho) : Prop where
  sub : ∀ a, P0 a → P a
  trk : ∀ a, P a → Trk H a
  val : ∀ (i : Nat) d, ρ[i]? = some (some (.val d)) → ∃ v, σ[i]? = some (some v) ∧ Has K (del H P) v d
  ows : ∀ (i : Nat) c, ρ[i]? = some (some c) → isOw c = true → ∃ v fp, σ[i]? = some (some v) ∧ OwH K H P c v fp ∧ (∀ a ∈ fp, P a ∧ ¬ P0 a) ∧ fp.Nodup
  apart : ∀ (i j : Nat) c c' v v' fp fp', ρ[i]? = some (some c) → ρ[j]? = some (some c') → σ[i]? = some (some v) → σ[j]? = some (some v') → OwH K H P c v fp → OwH K H P c' v' fp' → i ≠ j → ∀ a ∈ fp, a ∉ fp'
  len : σ.length = ρ.length
  pin : ∀ (i : Nat) c n, ρ[i]? = some (some c) → pinOf c = some n → σ[i]? = some (some (.ref (P0.g n)))
theorem EnvP.own {K : PySem.W.Frag} {P0 : P0T} {P : Addr → Prop} {H : Hp} {σ : St} {ρ : Rho} (E : EnvP K P0 P H σ ρ) (i : Nat) (ds : List D) (h : ρ[i]? = some (some (.own ds))) :
    ∃ p xs, σ[i]? = some (some (.ref p)) ∧ H p = some (.lst xs) ∧ P p ∧ ¬ P0 p ∧ HasL K (del H P) xs ds := by
  obtain ⟨v, fp, h1, ⟨p, xs, rfl, rfl, h2, h3⟩, h4, _⟩ := E.ows i _ h rfl
  exact ⟨p, xs, h1, h2, (h4 p List.mem_cons_self).1, (h4 p List.mem_cons_self).2, h3⟩
/-- the things of one's own stay apart in a later heap -/
theorem EnvP.apart' {K : PySem.W.Frag} {P0 : P0T} {P P' : Addr → Prop} {H H' : Hp} {σ : St} {ρ : Rho} (E : EnvP K P0 P H σ ρ) (sm : Same (del H P) (del H' P')) {i j : Nat} {c c' : Cl} {v v' : V} {fp fp' : List Addr}
    (ki : ∀ v fp, σ[i]? = some (some v) → OwH K H P c v fp → ∀ a ∈ fp, H' a = H a) (kj : ∀ v fp, σ[j]? = some (some v) → OwH K H P c' v fp → ∀ a ∈ fp, H' a = H a)
    (hi : ρ[i]? = some (some c)) (hj : ρ[j]? = some (some c')) (si : σ[i]? = some (some v)) (sj : σ[j]? = some (some v')) (h : OwH K H' P' c v fp) (h' : OwH K H' P' c' v' fp') (hne : i ≠ j) : ∀ a ∈ fp, a ∉ fp' := by
  have key : ∀ (k : Nat) (d : Cl) (w : V) (fq : List Addr), ρ[k]? = some (some d) → σ[k]? = some (some w) → (∀ v fp, σ[k]? = some (some v) → OwH K H P d v fp → ∀ a ∈ fp, H' a = H a) → OwH K H' P' d w fq → OwH K H P d w fq := fun k d w fq hk sk kk ho => by
    have io : isOw d = true := by cases d <;> first | rfl | exact ho.elim
    obtain ⟨w', fp2, s2, o2, _⟩ := E.ows k d hk io
    rw [sk] at s2; cases s2
    have o3 := o2.move sm (kk _ _ sk o2)
    rw [ho.uniq o3]
    exact o2
  exact E.apart i j c c' v v' fp fp' hi hj si sj (key i c v fp hi si ki h) (key j c' v' fp' hj sj kj h') hne
theorem EnvP.same {K : PySem.W.Frag} {P0 : P0T} {P : Addr → Prop} {H H' : Hp} {σ : St} {ρ : Rho} (E : EnvP K P0 P H σ ρ) (e : Same H H') : EnvP K P0 P H' σ ρ :=
  ⟨E.sub, fun a h => (E.trk a h).same e, fun i d h => let ⟨v, h1, h2⟩ := E.val i d h; ⟨v, h1, h2.mono e.del⟩,
    fun i c h io => let ⟨v, fp, h1, h2, h3, h4⟩ := E.ows i c h io; ⟨v, fp, h1, h2.same e, h3, h4⟩,
    fun i j c c' v v' fp fp' hi hj si sj h h' hne => E.apart' e.del (fun v fp _ o a ha => by obtain ⟨xs, q⟩ := o.at a ha; rw [q]; exact e _ _ q) (fun v fp _ o a ha => by obtain ⟨xs, q⟩ := o.at a ha; rw [q]; exact e _ _ q) hi hj si sj h h' hne, E.len, E.pin⟩
def gV (K : PySem.W.Frag) (WX : Str → Hp → Prop) (P : Addr → Prop) (H : Hp) (Q : VK) : M D → Prop
  | .ok d => ∀ v H', Same H H' → Has K (del H' P) v d → Q v H'
  | .ex x => ∀ H', Same H H' → WX x H'
  | .bad => False
def gA (K : PySem.W.Frag) (WX : Str → Hp → Prop) (P : Addr → Prop) (H : Hp) (Q : List V → Hp → Prop) : M (List D) → Prop
  | .ok d => ∀ v H', Same H H' → HasL K (del H' P) v d → Q v H'
  | .ex x => ∀ H', Same H H' → WX x H'
  | .bad => False
def gT (WX : Str → Hp → Prop) (H : Hp) (Q : Bool → Hp → Prop) : M Bool → Prop
  | .ok b => ∀ H', Same H H' → Q b H'
  | .ex x => ∀ H', Same H H' → WX x H'
  | .bad => False
section
variable {K : PySem.W.Frag} {WX : Str → Hp → Prop} {P : Addr → Prop} {H H' : Hp}
theorem gV.same {Q : VK} {m : M D} (h : gV K WX P H Q m) (e : Same H H') : gV K WX P H' Q m := by
  cases m with
  | ok d => exact fun v H2 q hv => h v H2 (e.trans q) hv
  | ex x => exact fun H2 q => h H2 (e.trans q)
  | bad => exact h
theorem gA.same {Q : List V → Hp → Prop} {m : M (List D)} (h : gA K WX P H Q m) (e : Same H H') : gA K WX P H' Q m := by
  cases m with
  | ok d => exact fun v H2 q hv => h v H2 (e.trans q) hv
  | ex x => exact fun H2 q => h H2 (e.trans q)
  | bad => exact h
theorem gT.same {Q : Bool → Hp → Prop} {m : M Bool} (h : gT WX H Q m) (e : Same H H') : gT WX H' Q m := by
  cases m with
  | ok d => exact fun H2 q => h H2 (e.trans q)
  | ex x => exact fun H2 q => h H2 (e.trans q)
  | bad => exact h
end
/-- the level: clean (nothing of one's own lists within), or any -/
def Lv (c : Bool) (P0 : P0T) (P : Addr → Prop) : Addr → Prop := if c = true then P else P0.pr
def DE (X : Cx) (WX : Str → Hp → Prop) (c : Bool) (e : Expr) (f : Rho → M D) : Prop :=
  ∃ t, PE X e t ∧ ∀ P0 P σ H Q ρ, EnvP X.K P0 P H σ ρ → gV X.K WX (Lv c P0 P) H Q (f ρ) → t σ H Q
def DA (X : Cx) (WX : Str → Hp → Prop) (c : Bool) (es : List Expr) (f : Rho → M (List D)) : Prop :=
  ∃ t, PA X es t ∧ (∀ P0 P σ H Q ρ, EnvP X.K P0 P H σ ρ → gA X.K WX (Lv c P0 P) H Q (f ρ) → t σ H Q) ∧ ∀ ρ ds, f ρ = .ok ds → ds.length = es.length
def DT (X : Cx) (WX : Str → Hp → Prop) (e : Expr) (f : Rho → M Bool) : Prop :=
  ∃ t, PT X e t ∧ ∀ P0 P σ H Q ρ, EnvP X.K P0 P H σ ρ → gT WX H Q (f ρ) → t σ H Q
def DW (X : Cx) (WX : Str → Hp → Prop) (e : Expr) (f : Rho → M Bool) : Prop :=
  ∃ t, PW X e t ∧ ∀ P0 P σ H Q ρ, EnvP X.K P0 P H σ ρ → gT WX H Q (f ρ) → t σ H Q
theorem DW.dt {X : Cx} {WX : Str → Hp → Prop} {e : Expr} {f : Rho → M Bool} (h : DW X WX e f) : DT X WX e f := let ⟨t, h1, h2⟩ := h; ⟨t, h1.pt, h2⟩

section
variable {X : Cx} {WX : Str → Hp → Prop} {c : Bool} {P0 : P0T} {P : Addr → Prop} {H : Hp} {σ : St} {ρ : Rho}
theorem EnvP.lv (E : EnvP X.K P0 P H σ ρ) (c : Bool) : ∀ a, Lv c P0 P a → P a := fun a h => by
  cases c with
  | true => exact h
  | false => exact E.sub a h
theorem EnvP.lvt (E : EnvP X.K P0 P H σ ρ) (c : Bool) : ∀ a, Lv c P0 P a → Trk H a := fun a h => E.trk a (E.lv c a h)
/-- a clean one is any one -/
theorem de_any {e : Expr} {f : Rho → M D} (h : DE X WX true e f) : DE X WX false e f := by
  obtain ⟨t, h1, h2⟩ := h
  refine ⟨t, h1, fun P0 P σ H Q ρ E g => h2 P0 P σ H Q ρ E ?_⟩
  cases e : f ρ with
  | ok d => rw [e] at g; exact fun v H' s hv => g v H' s (hv.mono (del_sub E.sub))
  | ex x => rw [e] at g; exact g
  | bad => rw [e] at g; exact g
def flatD : D → Bool
  | .tup _ | .lst _ | .exn _ | .dct _ _ _ | .ins _ _ _ => false
  | _ => true
theorem Has.flat {K : PySem.W.Frag} {H H' : Hp} {v : V} {d : D} (h : Has K H v d) (f : flatD d = true) : Has K H' v d := by
  cases h with
  | non => exact .non
  | bl b => exact .bl b
  | int b => exact .int b
  | str b => exact .str b
  | tup _ _ => cases f
  | lst _ _ => cases f
  | exn _ _ => cases f
  | dcK _ _ => cases f
  | dcT _ _ => cases f
  | ins _ _ _ => cases f
def fl (m : M D) : M D := m.bind fun d => if flatD d = true then .ok d else .bad
/-! names, constants -/
def rv (i : Nat) (ρ : Rho) : M D := match ρ[i]? with | some (some (.val d)) => .ok d | _ => .bad
def ra (i : Nat) (ρ : Rho) : M D := match ρ[i]? with | some (some (.val d)) => .ok d | some (some (.own ds)) => .ok (.lst ds) | some (some (.ow (.rows dss))) => .ok (.lst (dss.map D.lst)) | some (some (.ow (.anc _ ds))) => .ok (.lst ds) | some (some (.ow (.tree _ t))) => .ok (er t) | _ => .bad
theorem de_var (i : Nat) {x : Str} {pos : Pos} (h : PE X (.Name x pos) (tVar i)) : DE X WX true (.Name x pos) (rv i) := by
  refine ⟨_, h, fun P0 P σ H Q ρ E g => ?_⟩
  unfold rv at g
  split at g
  · rename_i d e
    obtain ⟨v, h1, h2⟩ := E.val i d e
    exact ⟨v, h1, g v H (Same.refl H) h2⟩
  · exact g.elim
theorem de_int {i j pos} : DE X WX c (.Constant (.int i) j pos) (fun _ => .ok (.int i)) := ⟨_, pe_int, fun P0 P σ H Q ρ E g => g _ H (Same.refl H) (.int i)⟩
theorem de_bl {b j pos} : DE X WX c (.Constant (.bool b) j pos) (fun _ => .ok (.bl b)) := ⟨_, pe_bl, fun P0 P σ H Q ρ E g => g _ H (Same.refl H) (.bl b)⟩
theorem de_non {j pos} : DE X WX c (.Constant .none j pos) (fun _ => .ok .non) := ⟨_, pe_non, fun P0 P σ H Q ρ E g => g _ H (Same.refl H) .non⟩
theorem de_str {x j pos} : DE X WX c (.Constant (.str x) j pos) (fun _ => .ok (.str x)) := ⟨_, pe_str, fun P0 P σ H Q ρ E g => g _ H (Same.refl H) (.str x)⟩
/-! two parts -/
/-- what an operation on data is worth -/
def OpD (K : PySem.W.Frag) (WX : Str → Hp → Prop) (r : R2) (dop : D → D → M D) : Prop :=
  ∀ (P : Addr → Prop) (H : Hp) (x y : D) (v w : V) (Q : VK), (∀ a, P a → Trk H a) → Has K (del H P) v x → Has K (del H P) w y → gV K WX P H Q (dop x y) → r v w H Q
variable {a b : Expr} {f g : Rho → M D} {pos : Pos}
theorem bin_D {ta tb : TE} {r : R2} {dop : D → D → M D} (ha : ∀ P0 P σ H Q ρ, EnvP X.K P0 P H σ ρ → gV X.K WX (Lv c P0 P) H Q (f ρ) → ta σ H Q) (hb : ∀ P0 P σ H Q ρ, EnvP X.K P0 P H σ ρ → gV X.K WX (Lv c P0 P) H Q (g ρ) → tb σ H Q)
    (hr : OpD X.K WX r dop) {Q : VK} (E : EnvP X.K P0 P H σ ρ) (h : gV X.K WX (Lv c P0 P) H Q ((f ρ).bind fun x => (g ρ).bind fun y => dop x y)) : tOp r ta tb σ H Q := by
  refine ha P0 P σ H _ ρ E ?_
  cases e : f ρ with
  | bad => rw [e] at h; exact h
  | ex x => rw [e] at h; exact h
  | ok x =>
    rw [e] at h
    intro v H1 s1 hv
    refine hb P0 P σ H1 _ ρ (E.same s1) ?_
    cases e2 : g ρ with
    | bad => rw [e2] at h; exact h
    | ex y => rw [e2] at h; exact gV.same (m := .ex y) h s1
    | ok y =>
      rw [e2] at h
      intro w H2 s2 hw
      exact hr _ H2 x y v w Q (fun a q => ((E.same s1).same s2).lvt c a q) (hv.mono s2.del) hw ((gV.same h s1).same s2)
theorem de_op {op : Operator} {r : R2} {dop : D → D → M D} (ho : OpR X (binaryOp op) r) (hr : OpD X.K WX r dop) (ha : DE X WX c a f) (hb : DE X WX c b g) : DE X WX c (.BinOp a op b pos) (fun ρ => (f ρ).bind fun x => (g ρ).bind fun y => dop x y) := by
  obtain ⟨ta, a1, a2⟩ := ha
  obtain ⟨tb, b1, b2⟩ := hb
  exact ⟨_, pe_op ho a1 b1, fun P0 P σ H Q ρ E h => bin_D a2 b2 hr E h⟩
theorem de_ix {r : R2} {dop : D → D → M D} (ho : IxR X r) (hr : OpD X.K WX r dop) (ha : DE X WX c a f) (hb : DE X WX c b g) (hs : PlainIx b) : DE X WX c (.Subscript a b pos) (fun ρ => (f ρ).bind fun x => (g ρ).bind fun y => dop x y) := by
  obtain ⟨ta, a1, a2⟩ := ha
  obtain ⟨tb, b1, b2⟩ := hb
  exact ⟨_, pe_ix ho a1 b1 hs, fun P0 P σ H Q ρ E h => bin_D a2 b2 hr E h⟩
/-! ints -/
def onInts (k : Int → Int → M D) (x y : D) : M D := match x, y with | .int i, .int j => k i j | _, _ => .bad
theorem Has.int_inv {K : PySem.W.Frag} {H : Hp} {v : V} {i : Int} (h : Has K H v (.int i)) : v = .int i := by cases h; rfl
theorem Has.bl_inv {K : PySem.W.Frag} {H : Hp} {v : V} {i : Bool} (h : Has K H v (.bl i)) : v = .bl i := by cases h; rfl
theorem opd_rI {C : Int → Int → Prop} {gv : Int → Int → V} {gd : Int → Int → D} [∀ i j, Decidable (C i j)] (hg : ∀ i j K H, Has K H (gv i j) (gd i j)) : OpD X.K WX (rI C gv) (onInts fun i j => if C i j then .ok (gd i j) else .bad) := by
  intro P H x y v w Q ht hx hy h
  unfold onInts at h
  split at h
  · rename_i i j
    rw [hx.int_inv, hy.int_inv]
    dsimp only at h
    by_cases hc : C i j
    · rw [if_pos hc] at h
      exact ⟨i, j, rfl, rfl, hc, h _ H (Same.refl H) (hg i j _ _)⟩
    · rw [if_neg hc] at h; exact h.elim
  · exact h.elim
theorem opd_rI0 {gv : Int → Int → V} {gd : Int → Int → D} (hg : ∀ i j K H, Has K H (gv i j) (gd i j)) : OpD X.K WX (rI0 gv) (onInts fun i j => .ok (gd i j)) := by
  intro P H x y v w Q ht hx hy h
  unfold onInts at h
  split at h
  · rename_i i j
    rw [hx.int_inv, hy.int_inv]
    exact ⟨i, j, rfl, rfl, h _ H (Same.refl H) (hg i j _ _)⟩
  · exact h.elim
instance (i j : Int) : Decidable (CDiv i j) := by unfold CDiv; infer_instance
instance (i j : Int) : Decidable (CPow i j) := by unfold CPow; infer_instance
instance (i j : Int) : Decidable (CMul i j) := by unfold CMul; infer_instance
def dAdd := onInts fun i j => .ok (.int (i + j))
def dSub := onInts fun i j => .ok (.int (i - j))
def dMod := onInts fun i j => if 0 < j then .ok (.int (i % j)) else .bad
def dFdiv := onInts fun i j => if CDiv i j then .ok (.int (i / j)) else .bad
def dPow := onInts fun i j => if CPow i j then .ok (.int (i ^ j.toNat)) else .bad
def dLt := onInts fun i j => .ok (.bl (decide (i < j)))
def dLe := onInts fun i j => .ok (.bl (decide (i ≤ j)))
def dGt := onInts fun i j => .ok (.bl (decide (j < i)))
def dGe := onInts fun i j => .ok (.bl (decide (j ≤ i)))
theorem de_add (ha : DE X WX c a f) (hb : DE X WX c b g) : DE X WX c (.BinOp a .Add b pos) (fun ρ => (f ρ).bind fun x => (g ρ).bind fun y => dAdd x y) := de_op op_add (opd_rI0 fun _ _ _ _ => .int _) ha hb
theorem de_sub (ha : DE X WX c a f) (hb : DE X WX c b g) : DE X WX c (.BinOp a .Sub b pos) (fun ρ => (f ρ).bind fun x => (g ρ).bind fun y => dSub x y) := de_op op_sub (opd_rI0 fun _ _ _ _ => .int _) ha hb
theorem de_mod (ha : DE X WX c a f) (hb : DE X WX c b g) : DE X WX c (.BinOp a .Mod b pos) (fun ρ => (f ρ).bind fun x => (g ρ).bind fun y => dMod x y) := de_op op_mod (opd_rI fun _ _ _ _ => .int _) ha hb
theorem de_fdiv (ha : DE X WX c a f) (hb : DE X WX c b g) : DE X WX c (.BinOp a .FloorDiv b pos) (fun ρ => (f ρ).bind fun x => (g ρ).bind fun y => dFdiv x y) := de_op op_fdiv (opd_rI fun _ _ _ _ => .int _) ha hb
theorem de_pow (ha : DE X WX c a f) (hb : DE X WX c b g) : DE X WX c (.BinOp a .Pow b pos) (fun ρ => (f ρ).bind fun x => (g ρ).bind fun y => dPow x y) := de_op op_pow (opd_rI fun _ _ _ _ => .int _) ha hb
/-! == and != of data -/
def dEq (n : Nat) (x y : D) : M D := if dep x ≤ n ∧ noX x = true ∧ noX y = true then .ok (.bl (eqD x y)) else .bad
def dNe (n : Nat) (x y : D) : M D := if dep x ≤ n ∧ noX x = true ∧ noX y = true then .ok (.bl (!eqD x y)) else .bad
theorem opd_eq {n : Nat} (hu : X.A.units + n < cLine) : OpD X.K WX (rEqD X.K X.A false) (dEq n) := by
  intro P H x y v w Q ht hx hy h
  unfold dEq at h
  by_cases hd : dep x ≤ n ∧ noX x = true ∧ noX y = true
  · rw [if_pos hd] at h
    exact ⟨x, y, hx.mono del_full, hy.mono del_full, by omega, hd.2.1, hd.2.2, h _ H (Same.refl H) (.bl _)⟩
  · rw [if_neg hd] at h; exact h.elim
theorem opd_ne {n : Nat} (hu : X.A.units + n < cLine) : OpD X.K WX (rEqD X.K X.A true) (dNe n) := by
  intro P H x y v w Q ht hx hy h
  unfold dNe at h
  by_cases hd : dep x ≤ n ∧ noX x = true ∧ noX y = true
  · rw [if_pos hd] at h
    exact ⟨x, y, hx.mono del_full, hy.mono del_full, by omega, hd.2.1, hd.2.2, h _ H (Same.refl H) (.bl _)⟩
  · rw [if_neg hd] at h; exact h.elim
/-! is None -/
def isNonD : D → Bool
  | .non => true
  | _ => false
theorem Has.isN {K : PySem.W.Frag} {H : Hp} {v : V} {d : D} (h : Has K H v d) : decide (v = .non) = isNonD d := by
  cases h <;> simp [isNonD]
/-! an item -/
def dIx (x y : D) : M D := match x, y with
  | .tup ds, .int i => (match atI ds i with | some d => .ok d | none => .bad)
  | .lst ds, .int i => (match atI ds i with | some d => .ok d | none => .bad)
  | _, _ => .bad
theorem HasL.atI {K : PySem.W.Frag} {H : Hp} {xs : List V} {ds : List D} {i : Int} {d : D} (h : HasL K H xs ds) (e : L2.atI ds i = some d) : ∃ v, L2.atI xs i = some v ∧ Has K H v d := by
  unfold L2.atI at e ⊢
  rw [← h.length] at e
  cases q : ixN xs.length i with
  | none => rw [q] at e; cases e
  | some j =>
    rw [q] at e
    exact h.get e
theorem SqL.undel {K : PySem.W.Frag} {H : Hp} {P : Addr → Prop} {a : Addr} {xs : List V} (h : SqL K (del H P) a xs) : SqL K H a xs := del_full.seq h
theorem SqT.undel {K : PySem.W.Frag} {H : Hp} {P : Addr → Prop} {a : Addr} {xs : List V} (h : SqT K (del H P) a xs) : SqT K H a xs := del_full.seqT h
theorem opd_ix : OpD X.K WX (fun x y H Q => rIxL X.K x y H Q ∨ rIxT X.K x y H Q) dIx := by
  intro P H x y v w Q ht hx hy h
  unfold dIx at h
  split at h
  · rename_i ds i
    split at h
    · rename_i d e
      cases hy
      cases hx with
      | tup hs hl =>
        obtain ⟨u, h1, h2⟩ := hl.atI e
        exact .inr ⟨_, _, i, u, rfl, rfl, SqT.of (del_some hs).2, h1, h _ H (Same.refl H) h2⟩
    · exact h.elim
  · rename_i ds i
    split at h
    · rename_i d e
      cases hy
      cases hx with
      | lst hs hl =>
        obtain ⟨u, h1, h2⟩ := hl.atI e
        exact .inl ⟨_, _, i, u, rfl, rfl, hs.undel, h1, h _ H (Same.refl H) h2⟩
    · exact h.elim
  · exact h.elim
/-! argument lists, tuples, lists -/
theorem da_nil : DA X WX c [] (fun _ => .ok []) := ⟨_, pa_nil, fun P0 P σ H Q ρ E h => h [] H (Same.refl H) .nil, fun ρ ds h => by cases h; rfl⟩
theorem da_cons {e : Expr} {es : List Expr} {f : Rho → M D} {fs : Rho → M (List D)} (he : DE X WX c e f) (hr : DA X WX c es fs) (hs : starEach (e :: es) X.env = (false, eval e X.env) :: starEach es X.env := by rfl) :
    DA X WX c (e :: es) (fun ρ => (f ρ).bind fun d => (fs ρ).bind fun ds => .ok (d :: ds)) := by
  obtain ⟨te, e1, e2⟩ := he
  obtain ⟨tr, r1, r2, r3⟩ := hr
  refine ⟨_, pa_cons e1 r1 hs, fun P0 P σ H Q ρ E h => ?_, fun ρ ds h => ?_⟩
  rotate_left
  · dsimp only at h
    cases q : f ρ with
    | bad => rw [q] at h; cases h
    | ex x => rw [q] at h; cases h
    | ok x =>
      rw [q] at h
      cases q2 : fs ρ with
      | bad => rw [q2] at h; cases h
      | ex x => rw [q2] at h; cases h
      | ok xs =>
        rw [q2] at h
        cases h
        rw [List.length_cons, List.length_cons, r3 ρ xs q2]
  dsimp only at h
  refine e2 P0 P σ H _ ρ E ?_
  cases q : f ρ with
  | bad => rw [q] at h; exact h
  | ex x => rw [q] at h; exact h
  | ok x =>
    rw [q] at h
    intro v H1 s1 hv
    refine r2 P0 P σ H1 _ ρ (E.same s1) ?_
    cases q2 : fs ρ with
    | bad => rw [q2] at h; exact h
    | ex y => rw [q2] at h; exact gA.same (m := .ex y) h s1
    | ok ds =>
      rw [q2] at h
      exact fun vs H2 s2 hvs => h _ H2 (s1.trans s2) (.cons (hv.mono s2.del) hvs)
theorem new_del {H : Hp} {P : Addr → Prop} {p : Addr} {o : HO} (hn : H p = none) (ht : ∀ a, P a → Trk H a) : del (upd H p o) P p = some o := by
  rw [del_of fun z => (ht p z).no hn]
  exact upd_same
theorem de_tup {es : List Expr} {fs : Rho → M (List D)} {x1} (ha : DA X WX c es fs) (hz : es.length ≤ 1000 := by decide) : DE X WX c (.Tuple es x1 pos) (fun ρ => (fs ρ).bind fun ds => if ds.length ≤ 1000 then .ok (.tup ds) else .bad) := by
  obtain ⟨ta, a1, a2, a3⟩ := ha
  refine ⟨_, pe_tup a1, fun P0 P σ H Q ρ E h => ?_⟩
  dsimp only at h
  refine a2 P0 P σ H _ ρ E ?_
  cases q : fs ρ with
  | bad => rw [q] at h; exact h
  | ex y => rw [q] at h; exact h
  | ok ds =>
    rw [q] at h
    simp only [M.bind_ok] at h
    by_cases hd : ds.length ≤ 1000
    · rw [if_pos hd] at h
      intro vs H1 s1 hvs
      refine ⟨Nat.le_of_lt (small1000 (by rw [hvs.length]; exact hd)), fun p hp => h _ _ (s1.trans (same_new hp _)) (.tup (new_del hp fun a q => (E.same s1).lvt c a q) (hvs.mono (same_new hp _).del))⟩
    · rw [if_neg hd] at h; exact h.elim
theorem de_lst {es : List Expr} {fs : Rho → M (List D)} (ha : DA X WX c es fs) : DE X WX c (.List es pos) (fun ρ => (fs ρ).bind fun ds => if ds.length ≤ 1000 then .ok (.lst ds) else .bad) := by
  obtain ⟨ta, a1, a2, a3⟩ := ha
  refine ⟨_, pe_lst a1, fun P0 P σ H Q ρ E h => ?_⟩
  dsimp only at h
  refine a2 P0 P σ H _ ρ E ?_
  cases q : fs ρ with
  | bad => rw [q] at h; exact h
  | ex y => rw [q] at h; exact h
  | ok ds =>
    rw [q] at h
    simp only [M.bind_ok] at h
    by_cases hd : ds.length ≤ 1000
    · rw [if_pos hd] at h
      intro vs H1 s1 hvs
      refine ⟨Nat.le_of_lt (small1000 (by rw [hvs.length]; exact hd)), fun p hp => h _ _ (s1.trans (same_new hp _)) (.lst (.of (new_del hp fun a q => (E.same s1).lvt c a q)) (hvs.mono (same_new hp _).del))⟩
    · rw [if_neg hd] at h; exact h.elim
end
end L2

set_option Elab.async false
set_option linter.all false
set_option maxRecDepth 100000
namespace L2
open PySem PySem.Spec PyProof.Rows

def asB (d : D) : M Bool := match d with | .bl b => .ok b | _ => .bad
section
variable {X : Cx} {WX : Str → Hp → Prop} {c : Bool} {P0 : P0T} {P : Addr → Prop} {H : Hp} {σ : St} {ρ : Rho} {a b e : Expr} {f g : Rho → M D} {ft gt : Rho → M Bool} {pos : Pos}
/-- from a worth to a test's -/
theorem gT_of {WX : Str → Hp → Prop} {P : Addr → Prop} {K : PySem.W.Frag} {H : Hp} {Q : Bool → Hp → Prop} {m : M D} (h : gT WX H Q (m.bind asB)) : gV K WX P H (fun x H' => ∃ k, x = .bl k ∧ Q k H') m := by
  cases m with
  | bad => exact h
  | ex x => exact h
  | ok d =>
    intro v H' s hv
    simp only [M.bind_ok] at h
    unfold asB at h
    split at h
    · rename_i b
      exact ⟨b, hv.bl_inv, h H' s⟩
    · exact h.elim
theorem dt_cmpR {op : CmpOp} {r : R2} {dop : D → D → M D} (ho : OpR X (compareOp op) r) (hr : OpD X.K WX r dop) (ha : DE X WX c a f) (hb : DE X WX c b g) (hm : behindInMarks op b = false) : DT X WX (.Compare a [op] [b] pos) (fun ρ => ((f ρ).bind fun x => (g ρ).bind fun y => dop x y).bind asB) := by
  obtain ⟨ta, a1, a2⟩ := ha
  obtain ⟨tb, b1, b2⟩ := hb
  exact ⟨_, pt_cmpR ho a1 b1 hm, fun P0 P σ H Q ρ E h => bin_D a2 b2 hr E (gT_of h)⟩
theorem dt_lt (ha : DE X WX c a f) (hb : DE X WX c b g) : DT X WX (.Compare a [.Lt] [b] pos) (fun ρ => ((f ρ).bind fun x => (g ρ).bind fun y => dLt x y).bind asB) := dt_cmpR op_lt (opd_rI0 fun _ _ _ _ => .bl _) ha hb (nomark _)
theorem dt_gt (ha : DE X WX c a f) (hb : DE X WX c b g) : DT X WX (.Compare a [.Gt] [b] pos) (fun ρ => ((f ρ).bind fun x => (g ρ).bind fun y => dGt x y).bind asB) := dt_cmpR op_gt (opd_rI0 fun _ _ _ _ => .bl _) ha hb (nomark _)
theorem dt_eq {n : Nat} (hu : X.A.units + n < cLine) (ha : DE X WX c a f) (hb : DE X WX c b g) : DT X WX (.Compare a [.Eq] [b] pos) (fun ρ => ((f ρ).bind fun x => (g ρ).bind fun y => dEq n x y).bind asB) := dt_cmpR op_eqD (opd_eq hu) ha hb (nomark _)
theorem dt_ne {n : Nat} (hu : X.A.units + n < cLine) (ha : DE X WX c a f) (hb : DE X WX c b g) : DT X WX (.Compare a [.NotEq] [b] pos) (fun ρ => ((f ρ).bind fun x => (g ρ).bind fun y => dNe n x y).bind asB) := dt_cmpR op_neD (opd_ne hu) ha hb (nomark _)
theorem dt_isN {j pos'} (ha : DE X WX c a f) : DT X WX (.Compare a [.Is] [.Constant .none j pos'] pos) (fun ρ => (f ρ).bind fun x => .ok (isNonD x)) := by
  obtain ⟨ta, a1, a2⟩ := ha
  refine ⟨_, pt_cmp (pc_isN a1), fun P0 P σ H Q ρ E h => ?_⟩
  dsimp only at h
  refine a2 P0 P σ H _ ρ E ?_
  cases e : f ρ with
  | bad => rw [e] at h; exact h
  | ex x => rw [e] at h; exact h
  | ok x => rw [e] at h; exact fun v H1 s1 hv => ⟨_, rfl, by rw [hv.isN]; exact h H1 s1⟩
theorem dt_notN {j pos'} (ha : DE X WX c a f) : DT X WX (.Compare a [.IsNot] [.Constant .none j pos'] pos) (fun ρ => (f ρ).bind fun x => .ok (!isNonD x)) := by
  obtain ⟨ta, a1, a2⟩ := ha
  refine ⟨_, pt_cmp (pc_notN a1), fun P0 P σ H Q ρ E h => ?_⟩
  dsimp only at h
  refine a2 P0 P σ H _ ρ E ?_
  cases e : f ρ with
  | bad => rw [e] at h; exact h
  | ex x => rw [e] at h; exact h
  | ok x => rw [e] at h; exact fun v H1 s1 hv => ⟨_, rfl, by rw [hv.isN]; exact h H1 s1⟩
theorem dt_not (ha : DT X WX a ft) : DT X WX (.UnaryOp .Not a pos) (fun ρ => (ft ρ).bind fun b => .ok (!b)) := by
  obtain ⟨ta, a1, a2⟩ := ha
  refine ⟨_, pt_not a1, fun P0 P σ H Q ρ E h => ?_⟩
  dsimp only at h
  refine a2 P0 P σ H _ ρ E ?_
  cases e : ft ρ with
  | bad => rw [e] at h; exact h
  | ex x => rw [e] at h; exact h
  | ok x => rw [e] at h; exact fun H1 s1 => h H1 s1
theorem dw_and1 (ha : DT X WX a ft) : DW X WX (.BoolOp .And [a] pos) ft := let ⟨ta, a1, a2⟩ := ha; ⟨_, pw_and1 a1, a2⟩
theorem dw_or1 (ha : DT X WX a ft) : DW X WX (.BoolOp .Or [a] pos) ft := let ⟨ta, a1, a2⟩ := ha; ⟨_, pw_or1 a1, a2⟩
theorem dw_and {rest : List Expr} (ha : DT X WX a ft) (hb : DW X WX (.BoolOp .And (b :: rest) pos) gt) : DW X WX (.BoolOp .And (a :: b :: rest) pos) (fun ρ => (ft ρ).bind fun k => if k = true then gt ρ else .ok false) := by
  obtain ⟨ta, a1, a2⟩ := ha
  obtain ⟨tb, b1, b2⟩ := hb
  refine ⟨_, pw_and a1 b1, fun P0 P σ H Q ρ E h => ?_⟩
  dsimp only at h
  refine a2 P0 P σ H _ ρ E ?_
  cases e : ft ρ with
  | bad => rw [e] at h; exact h
  | ex x => rw [e] at h; exact h
  | ok k =>
    rw [e] at h
    intro H1 s1
    cases k with
    | true =>
      simp only [M.bind_ok, if_true] at h ⊢
      exact b2 P0 P σ H1 _ ρ (E.same s1) (h.same s1)
    | false =>
      simp only [M.bind_ok, Bool.false_eq_true, if_false] at h ⊢
      exact h H1 s1
theorem dw_or {rest : List Expr} (ha : DT X WX a ft) (hb : DW X WX (.BoolOp .Or (b :: rest) pos) gt) : DW X WX (.BoolOp .Or (a :: b :: rest) pos) (fun ρ => (ft ρ).bind fun k => if k = true then .ok true else gt ρ) := by
  obtain ⟨ta, a1, a2⟩ := ha
  obtain ⟨tb, b1, b2⟩ := hb
  refine ⟨_, pw_or a1 b1, fun P0 P σ H Q ρ E h => ?_⟩
  dsimp only at h
  refine a2 P0 P σ H _ ρ E ?_
  cases e : ft ρ with
  | bad => rw [e] at h; exact h
  | ex x => rw [e] at h; exact h
  | ok k =>
    rw [e] at h
    intro H1 s1
    cases k with
    | true =>
      simp only [M.bind_ok, if_true] at h ⊢
      exact h H1 s1
    | false =>
      simp only [M.bind_ok, Bool.false_eq_true, if_false] at h ⊢
      exact b2 P0 P σ H1 _ ρ (E.same s1) (h.same s1)
/-! and, or, not as values of bools -/
/-! chains of ints: a op b op' d -/
/-! calls of what is built in -/
def CallD (K : PySem.W.Frag) (WX : Str → Hp → Prop) (r : List V → Hp → VK → Prop) (dF : List D → M D) : Prop :=
  ∀ (P : Addr → Prop) (H : Hp) (ds : List D) (vs : List V) (Q : VK), (∀ a, P a → Trk H a) → HasL K (del H P) vs ds → gV K WX P H Q (dF ds) → r vs H Q
variable {x : Str} {p : Pos} {es : List Expr} {fs : Rho → M (List D)} {id T : String} {r : List V → Hp → VK → Prop} {dF : List D → M D}
theorem call_D {ta : TA} (ha : ∀ P0 P σ H Q ρ, EnvP X.K P0 P H σ ρ → gA X.K WX (Lv c P0 P) H Q (fs ρ) → ta σ H Q) (hr : CallD X.K WX r dF) {Q : VK} (E : EnvP X.K P0 P H σ ρ) (h : gV X.K WX (Lv c P0 P) H Q ((fs ρ).bind dF)) : tCB r ta σ H Q := by
  refine ha P0 P σ H _ ρ E ?_
  cases e : fs ρ with
  | bad => rw [e] at h; exact h
  | ex x => rw [e] at h; exact h
  | ok ds =>
    rw [e] at h
    exact fun vs H1 s1 hvs => hr _ H1 ds vs Q (fun a q => (E.same s1).lvt c a q) hvs (h.same s1)
theorem de_callB (hc : CallR X (.builtin id) r) (hr : CallD X.K WX r dF) (hg : Gl X x) (hm : X.mg x = none) (hv : bootBuiltins x = some (.builtin id)) (ha : DA X WX c (e :: es) fs) (hn : x ≠ "__name__" := by decide) (hdb : (x == ("__debug__" : Str)) = false := by decide)
    (he : starEach (e :: es) X.env = (false, eval e X.env) :: starEach es X.env := by rfl) (hpl : (backTo pos (starEach es X.env)).any (·.1) = false := by rfl) : DE X WX c (.Call (.Name x p) (e :: es) [] pos) (fun ρ => (fs ρ).bind dF) := by
  obtain ⟨ta, a1, a2, a3⟩ := ha
  exact ⟨_, pe_callB hc hg hm hv a1 hn hdb he hpl, fun P0 P σ H Q ρ E h => call_D a2 hr E h⟩
def dLen (ds : List D) : M D := match ds with
  | [.lst xs] => .ok (.int xs.length)
  | [.tup xs] => .ok (.int xs.length)
  | _ => .bad
theorem HasL.one {K : PySem.W.Frag} {H : Hp} {vs : List V} {d : D} (h : HasL K H vs [d]) : ∃ v, vs = [v] ∧ Has K H v d := by
  cases h with
  | cons h t => cases t; exact ⟨_, rfl, h⟩
theorem HasL.two {K : PySem.W.Frag} {H : Hp} {vs : List V} {d e : D} (h : HasL K H vs [d, e]) : ∃ v w, vs = [v, w] ∧ Has K H v d ∧ Has K H w e := by
  cases h with
  | cons h t =>
    obtain ⟨w, rfl, hw⟩ := t.one
    exact ⟨_, w, rfl, h, hw⟩
theorem cd_len : CallD X.K WX (fun xs H Q => ∃ p ys, xs = [.ref p] ∧ (SqL X.K H p ys ∨ SqT X.K H p ys) ∧ Q (.int ys.length) H) dLen := by
  intro P H ds vs Q ht hl h
  unfold dLen at h
  split at h
  · obtain ⟨v, rfl, hv⟩ := hl.one
    cases hv with
    | lst hs hh => exact ⟨_, _, rfl, .inl hs.undel, by rw [hh.length]; exact h _ H (Same.refl H) (.int _)⟩
  · obtain ⟨v, rfl, hv⟩ := hl.one
    cases hv with
    | tup hs hh => exact ⟨_, _, rfl, .inr (SqT.of (del_some hs).2), by rw [hh.length]; exact h _ H (Same.refl H) (.int _)⟩
  · exact h.elim
theorem de_len (hg : Gl X "len") (hm : X.mg "len" = none) (ha : DE X WX c e f) (hs : starEach [e] X.env = [(false, eval e X.env)] := by rfl) : DE X WX c (.Call (.Name "len" p) [e] [] pos) (fun ρ => ((f ρ).bind fun d => (M.ok []).bind fun ds => .ok (d :: ds)).bind dLen) :=
  de_callB call_len_seq cd_len hg hm PySem.boot_len (da_cons ha da_nil hs) (he := hs)
/-! isinstance -/
def tyD : D → String
  | .non => "NoneType"
  | .bl _ => "bool"
  | .int _ => "int"
  | .str _ => "str"
  | .tup _ => "tuple"
  | .lst _ => "list"
  | .exn _ => "NoneType"
  | .dct _ _ _ => "dict"
  | .ins _ _ _ => "NoneType"
/-- the answer for a built-in type -/
def isTy (T : String) (d : D) : Bool := (tyD d == T) || (tyD d == "bool" && T == "int")
def isTyM (T : String) (d : D) : M D := match d with
  | .exn _ => .bad
  | .ins _ _ _ => .bad
  | d => .ok (.bl (isTy T d))
def isX : D → Bool
  | .exn _ => true
  | .ins _ _ _ => true
  | _ => false
theorem isTyM_of {T : String} {d : D} (h : isX d = false) : isTyM T d = .ok (.bl (isTy T d)) := by cases d <;> first | rfl | cases h
def rIsT (K : PySem.W.Frag) (T : String) : List V → Hp → VK → Prop := fun xs H Q => ∃ x d, xs = [x, .ty T] ∧ Has K H x d ∧ isX d = false ∧ Q (.bl (isTy T d)) H
theorem call_isT {T : String} (hk : ∀ d : D, PySem.W.kitOne X.K (.type (tyD d)) (.type T) = some (isTy T d)) : CallR X (.builtin "isinstance") (rIsT X.K T) := by
  intro pins s σ H xs us Q I r h
  obtain ⟨x, d, rfl, hd, hx, q⟩ := h
  obtain ⟨u, w, rfl, rx, rw'⟩ := r.two
  cases rw'
  have fin : ∀ tk, EP X pins σ Q (.bool (isTy T d)) { s with toks := tk } := fun tk => ⟨.bl _, H, I.tok tk, rfl, q⟩
  have e := hk d
  cases hd with
  | exn _ _ => cases hx
  | ins _ _ _ => cases hx
  | dcK hs hl =>
    cases rx
    obtain ⟨⟨o, h1, h2⟩, _, _⟩ := isD_at I (.inl ⟨_, .inl hs⟩)
    exact PySem.W.kia_one PySem.W.kitx_dict I.kIn ⟨o, h1, h2⟩ e (fun z => nomatch z) fin
  | dcT hs hl =>
    cases rx
    obtain ⟨⟨o, h1, h2⟩, _, _⟩ := isD_at I (.inr ⟨_, .inl hs⟩)
    exact PySem.W.kia_one PySem.W.kitx_dict I.kIn ⟨o, h1, h2⟩ e (fun z => nomatch z) fin
  | non => cases rx; exact PySem.W.kia_one PySem.W.kitx_none I.kIn True.intro e (fun z => nomatch z) fin
  | bl b => cases rx; exact PySem.W.kia_one PySem.W.kitx_bool I.kIn True.intro e (fun z => nomatch z) fin
  | int b => obtain ⟨t, rfl⟩ := rx; exact PySem.W.kia_one PySem.W.kitx_int I.kIn True.intro e (fun z => nomatch z) fin
  | str b => obtain ⟨t, rfl⟩ := rx; exact PySem.W.kia_one PySem.W.kitx_str I.kIn True.intro e (fun z => nomatch z) fin
  | tup hs hl =>
    cases rx
    obtain ⟨_, _, ⟨o, h1, h2, _⟩, _⟩ := I.tuple (.of hs)
    exact PySem.W.kia_one PySem.W.kitx_tuple I.kIn ⟨o, h1, h2⟩ e (fun z => nomatch z) fin
  | lst hs hl =>
    cases rx
    obtain ⟨_, _, ⟨o, n, h1, h2, _⟩, _⟩ := I.list hs
    exact PySem.W.kia_one PySem.W.kitx_list I.kIn ⟨o, h1, h2⟩ e (fun z => nomatch z) fin
theorem de_isT {T : String} {x2 : Str} {p2 : Pos} (hk : ∀ d : D, PySem.W.kitOne X.K (.type (tyD d)) (.type T) = some (isTy T d)) (hg : Gl X "isinstance") (hm : X.mg "isinstance" = none) (hg2 : Gl X x2) (hm2 : X.mg x2 = none) (hv2 : bootBuiltins x2 = some (.type T)) (ha : DE X WX c e f)
    (hb : bootBuiltins "isinstance" = some (.builtin "isinstance") := by decide +kernel) (hn2 : x2 ≠ "__name__" := by decide) (hdb2 : (x2 == ("__debug__" : Str)) = false := by decide) (hs : starEach [e, .Name x2 p2] X.env = (false, eval e X.env) :: starEach [.Name x2 p2] X.env := by rfl) (hs2 : starEach [.Name x2 p2] X.env = [(false, eval (.Name x2 p2) X.env)] := by rfl)
    (hpl : (backTo pos (starEach [.Name x2 p2] X.env)).any (·.1) = false := by rfl) :
    DE X WX c (.Call (.Name "isinstance" p) [e, .Name x2 p2] [] pos) (fun ρ => (f ρ).bind fun d => isTyM T d) := by
  obtain ⟨ta, a1, a2⟩ := ha
  refine ⟨_, pe_callB (call_isT hk) hg hm hb (pa_cons a1 (pa_cons (pe_bltn (v := .ty T) hg2 hm2 hv2 rfl hn2 hdb2) pa_nil hs2) hs) (by decide) (by decide) hs hpl, fun P0 P σ H Q ρ E h => ?_⟩
  dsimp only at h
  refine a2 P0 P σ H _ ρ E ?_
  cases q : f ρ with
  | bad => rw [q] at h; exact h
  | ex x => rw [q] at h; exact h
  | ok d =>
    rw [q] at h
    simp only [M.bind_ok] at h
    cases hx : isX d with
    | true => cases d <;> first | exact h.elim | cases hx
    | false =>
      rw [isTyM_of hx] at h
      exact fun v H1 s1 hv => ⟨v, d, rfl, hv.mono del_full, hx, h _ H1 s1 (.bl _)⟩
theorem kit_bool' (K : PySem.W.Frag) (d : D) : PySem.W.kitOne K (.type (tyD d)) (.type "bool") = some (isTy "bool" d) := by cases d <;> rfl
/-! slices -/
def dSl (lo hi : Option Int) (d : D) : M D := match d with
  | .lst ds => .ok (.lst ((ds.drop (HT.sIx ds.length 0 lo)).take (HT.sIx ds.length ds.length hi - HT.sIx ds.length 0 lo)))
  | _ => .bad
def DO (X : Cx) (WX : Str → Hp → Prop) (c : Bool) (e : Option Expr) (f : Rho → M (Option Int)) : Prop :=
  ∃ t, PO X e t ∧ ∀ P0 P σ H Q ρ, EnvP X.K P0 P H σ ρ → (match f ρ with | .ok o => ∀ H', Same H H' → Q o H' | .ex x => ∀ H', Same H H' → WX x H' | .bad => False) → t σ H Q
theorem do_none : DO X WX c none (fun _ => .ok none) := ⟨_, po_none, fun P0 P σ H Q ρ E h => h H (Same.refl H)⟩
def asI (d : D) : M (Option Int) := match d with | .int i => .ok (some i) | _ => .bad
theorem do_some (ha : DE X WX c e f) : DO X WX c (some e) (fun ρ => (f ρ).bind asI) := by
  obtain ⟨ta, a1, a2⟩ := ha
  refine ⟨_, po_some a1, fun P0 P σ H Q ρ E h => ?_⟩
  dsimp only at h
  refine a2 P0 P σ H _ ρ E ?_
  cases q : f ρ with
  | bad => rw [q] at h; exact h
  | ex x => rw [q] at h; exact h
  | ok d =>
    rw [q] at h
    cases d with
    | int i => exact fun v H1 s1 hv => ⟨i, hv.int_inv, h H1 s1⟩
    | _ => exact h.elim
end
end L2

set_option Elab.async false
set_option linter.all false
set_option maxRecDepth 100000
namespace L2
open PySem PySem.Spec PyProof.Rows

inductive Out where
  | ret (d : D) | next (ρ : Rho) | brk (ρ : Rho) | cont (ρ : Rho) | retO (c : Cl) | retE (t : OT) (ρ : Rho)
/-- what stays over a statement: all that is not one's own -/
def Tr (P0 P : Addr → Prop) (H : Hp) (P' : Addr → Prop) (H' : Hp) : Prop := Same (del H P) (del H' P') ∧ ∀ a, P0 a → H' a = H a
theorem Tr.refl {P0 P : Addr → Prop} {H : Hp} : Tr P0 P H P H := ⟨Same.refl _, fun _ _ => rfl⟩
theorem Tr.trans {P0 P P1 P2 : Addr → Prop} {H H1 H2 : Hp} (a : Tr P0 P H P1 H1) (b : Tr P0 P1 H1 P2 H2) : Tr P0 P H P2 H2 := ⟨a.1.trans b.1, fun x h => (b.2 x h).trans (a.2 x h)⟩
theorem EnvP.tr {K : PySem.W.Frag} {P0 : P0T} {P : Addr → Prop} {H H' : Hp} {σ : St} {ρ : Rho} (E : EnvP K P0 P H σ ρ) (e : Same H H') : Tr P0 P H P H' :=
  ⟨e.del, fun a h => by obtain ⟨o, q, _⟩ := E.trk a (E.sub a h); rw [e a o q, q]⟩
def gS (K : PySem.W.Frag) (WX : Str → Hp → Prop) (P0 : P0T) (P : Addr → Prop) (H : Hp) (Z : Ends) : M Out → Prop
  | .ok (.ret d) => ∀ v H' P', Tr P0 P H P' H' → Has K (del H' P0) v d → Z.rt v H'
  | .ok (.next ρ) => ∀ σ' H' P', Tr P0 P H P' H' → EnvP K P0 P' H' σ' ρ → Z.nx σ' H'
  | .ok (.brk ρ) => ∀ σ' H' P', Tr P0 P H P' H' → EnvP K P0 P' H' σ' ρ → Z.bk σ' H'
  | .ok (.cont ρ) => ∀ σ' H' P', Tr P0 P H P' H' → EnvP K P0 P' H' σ' ρ → Z.ct σ' H'
  | .ok (.retO c) => ∀ v fp H' P', Tr P0 P H P' H' → (∀ a, P0 a → P' a) → (∀ a, P' a → Trk H' a) → OwH K H' P' c v fp → (∀ a ∈ fp, P' a ∧ ¬ P0 a) → fp.Nodup → Z.rt v H'
  | .ok (.retE t ρ) => ∀ v fp σ' H' P', Tr P0 P H P' H' → EnvP K P0 P' H' σ' ρ → OwT K H' P' v t fp → fp.Nodup → (∀ a ∈ fp, P' a ∧ ¬ P0 a ∧ ∀ (j : Nat) c v' fq, ρ[j]? = some (some c) → σ'[j]? = some (some v') → OwH K H' P' c v' fq → a ∉ fq) → Z.rt v H'
  | .ex x => ∀ H' P', Tr P0 P H P' H' → WX x H'
  | .bad => False
theorem gS.tr {K : PySem.W.Frag} {WX : Str → Hp → Prop} {P0 : P0T} {P P' : Addr → Prop} {H H' : Hp} {Z : Ends} {m : M Out} (h : gS K WX P0 P H Z m) (t : Tr P0 P H P' H') : gS K WX P0 P' H' Z m := by
  cases m with
  | bad => exact h
  | ex x => exact fun H2 P2 t2 => h H2 P2 (t.trans t2)
  | ok o =>
    cases o with
    | ret d => exact fun v H2 P2 t2 hv => h v H2 P2 (t.trans t2) hv
    | next ρ => exact fun σ2 H2 P2 t2 hv => h σ2 H2 P2 (t.trans t2) hv
    | brk ρ => exact fun σ2 H2 P2 t2 hv => h σ2 H2 P2 (t.trans t2) hv
    | cont ρ => exact fun σ2 H2 P2 t2 hv => h σ2 H2 P2 (t.trans t2) hv
    | retO c => exact fun v fp H2 P2 t2 => h v fp H2 P2 (t.trans t2)
    | retE c ρ => exact fun v fp σ2 H2 P2 t2 => h v fp σ2 H2 P2 (t.trans t2)
def DS (X : Cx) (WX : Str → Hp → Prop) (st : Stmt) (g : Rho → M Out) : Prop :=
  ∃ t, PS X st t ∧ ∀ P0 P σ H Z ρ, EnvP X.K P0 P H σ ρ → gS X.K WX P0 P H Z (g ρ) → t Z σ H
def DSs (X : Cx) (WX : Str → Hp → Prop) (st : List Stmt) (g : Rho → M Out) : Prop :=
  ∃ t, PSs X st t ∧ ∀ P0 P σ H Z ρ, EnvP X.K P0 P H σ ρ → gS X.K WX P0 P H Z (g ρ) → t Z σ H
def seqM (m : M Out) (k : Rho → M Out) : M Out := match m with
  | .ok (.next ρ) => k ρ
  | m => m
@[simp] theorem seqM_next (ρ : Rho) (k : Rho → M Out) : seqM (.ok (.next ρ)) k = k ρ := rfl
@[simp] theorem seqM_ret (d : D) (k : Rho → M Out) : seqM (.ok (.ret d)) k = .ok (.ret d) := rfl
section
variable {X : Cx} {WX : Str → Hp → Prop} {c : Bool} {P0 : P0T} {P : Addr → Prop} {H : Hp} {σ : St} {ρ : Rho} {a b e : Expr} {f g : Rho → M D} {ft gt : Rho → M Bool} {pos : Pos} {st : Stmt} {rest : List Stmt} {g1 g2 : Rho → M Out}
theorem dss_nil : DSs X WX [] (fun ρ => .ok (.next ρ)) := ⟨_, pss_nil, fun P0 P σ H Z ρ E h => h σ H P Tr.refl E⟩
theorem dss_one (h : DS X WX st g1) : DSs X WX [st] g1 := let ⟨t, h1, h2⟩ := h; ⟨_, pss_one h1, h2⟩
theorem dss_cons (h : DS X WX st g1) (hr : DSs X WX rest g2) : DSs X WX (st :: rest) (fun ρ => seqM (g1 ρ) g2) := by
  obtain ⟨t, h1, h2⟩ := h
  obtain ⟨u, r1, r2⟩ := hr
  refine ⟨_, pss_cons h1 r1, fun P0 P σ H Z ρ E h => ?_⟩
  dsimp only at h
  refine h2 P0 P σ H { Z with nx := u Z } ρ E ?_
  cases q : g1 ρ with
  | bad => rw [q] at h; exact h
  | ex x => rw [q] at h; exact h
  | ok o =>
    rw [q] at h
    cases o with
    | ret d => exact h
    | brk d => exact h
    | cont d => exact h
    | retO d => exact h
    | retE d ρ2 => exact h
    | next ρ' => exact fun σ' H' P' t E' => r2 P0 P' σ' H' Z ρ' E' (gS.tr h t)
theorem ds_ret (ha : DE X WX false e f) : DS X WX (.Return (some e) pos) (fun ρ => (f ρ).bind fun d => .ok (.ret d)) := by
  obtain ⟨ta, a1, a2⟩ := ha
  refine ⟨_, ps_ret a1, fun P0 P σ H Z ρ E h => ?_⟩
  dsimp only at h
  refine a2 P0 P σ H _ ρ E ?_
  cases q : f ρ with
  | bad => rw [q] at h; exact h
  | ex x => rw [q] at h; exact fun H' s => h H' P (E.tr s)
  | ok d => rw [q] at h; exact fun v H' s hv => h v H' P (E.tr s) hv
theorem ds_if {c : Expr} {sa sb : List Stmt} (hc : DT X WX c ft) (ha : DSs X WX sa g1) (hb : DSs X WX sb g2) : DS X WX (.If c sa sb pos) (fun ρ => (ft ρ).bind fun k => if k = true then g1 ρ else g2 ρ) := by
  obtain ⟨tc, c1, c2⟩ := hc
  obtain ⟨ta, a1, a2⟩ := ha
  obtain ⟨tb, b1, b2⟩ := hb
  refine ⟨_, ps_if c1 a1 b1, fun P0 P σ H Z ρ E h => ?_⟩
  dsimp only at h
  refine c2 P0 P σ H _ ρ E ?_
  cases q : ft ρ with
  | bad => rw [q] at h; exact h
  | ex x => rw [q] at h; exact fun H' s => h H' P (E.tr s)
  | ok k =>
    rw [q] at h
    intro H1 s1
    cases k with
    | true =>
      simp only [M.bind_ok, if_true] at h ⊢
      exact a2 P0 P σ H1 Z ρ (E.same s1) (h.tr (E.tr s1))
    | false =>
      simp only [M.bind_ok, Bool.false_eq_true, if_false] at h ⊢
      exact b2 P0 P σ H1 Z ρ (E.same s1) (h.tr (E.tr s1))
/-! stores -/
theorem get_set {α : Type} {l : List α} {i j : Nat} {x y : α} (h : (l.set i x)[j]? = some y) : (i = j ∧ i < l.length ∧ x = y) ∨ (i ≠ j ∧ l[j]? = some y) := by
  by_cases e : i = j
  · subst e
    rw [List.getElem?_set_self'] at h
    cases q : l[i]? with
    | none => rw [q] at h; cases h
    | some z =>
      rw [q] at h
      exact .inl ⟨rfl, (List.getElem?_eq_some_iff.mp q).1, by simpa using h⟩
  · rw [List.getElem?_set_ne e] at h
    exact .inr ⟨e, h⟩
theorem EnvP.setv {K : PySem.W.Frag} (E : EnvP K P0 P H σ ρ) {i : Nat} {v : V} {d : D} (hv : Has K (del H P) v d) : EnvP K P0 P H (σ.set i (some v)) (ρ.set i (some (.val d))) := by
  have gs : ∀ {j : Nat}, i ≠ j → (σ.set i (some v))[j]? = σ[j]? := fun h => List.getElem?_set_ne h
  refine ⟨E.sub, E.trk, fun j e h => ?_, fun j c h io => ?_, fun j k c c' u u' fp fp' h1 h2 h3 h4 h5 h6 hne => ?_, by rw [List.length_set, List.length_set]; exact E.len, fun j c n h hp => ?_⟩
  rotate_left 3
  · rcases get_set h with ⟨rfl, hl, e1⟩ | ⟨hne, h⟩
    · cases e1; cases hp
    · rw [gs hne]; exact E.pin j c n h hp
  · rcases get_set h with ⟨rfl, hl, e1⟩ | ⟨hne, h⟩
    · cases e1
      exact ⟨v, List.getElem?_set_self (by rw [E.len]; exact hl), hv⟩
    · obtain ⟨w, h1, h2⟩ := E.val j e h
      exact ⟨w, by rw [gs hne]; exact h1, h2⟩
  · rcases get_set h with ⟨rfl, hl, e1⟩ | ⟨hne, h⟩
    · cases e1; cases io
    · obtain ⟨w, fp, h1, h2⟩ := E.ows j c h io
      exact ⟨w, fp, by rw [gs hne]; exact h1, h2⟩
  · rcases get_set h1 with ⟨rfl, hl, e1⟩ | ⟨hn1, h1⟩
    · cases e1; exact h5.elim
    · rcases get_set h2 with ⟨rfl, hl, e1⟩ | ⟨hn2, h2⟩
      · cases e1; exact h6.elim
      · rw [gs hn1] at h3
        rw [gs hn2] at h4
        exact E.apart j k c c' u u' fp fp' h1 h2 h3 h4 h5 h6 hne
/-- a name gets a thing of its own, in a later heap where the others' things stay -/
theorem EnvP.putO {K : PySem.W.Frag} (E : EnvP K P0 P H σ ρ) {P' : Addr → Prop} {H' : Hp} {i : Nat} {v : V} {c : Cl} {fp : List Addr} (hs : ∀ a, P a → P' a) (ht : ∀ a, P' a → Trk H' a) (sm : Same (del H P) (del H' P'))
    (keep : ∀ (j : Nat) c' v' fp', i ≠ j → ρ[j]? = some (some c') → σ[j]? = some (some v') → OwH K H P c' v' fp' → ∀ a ∈ fp', H' a = H a ∧ a ∉ fp)
    (new : OwH K H' P' c v fp) (hp : ∀ a ∈ fp, P' a ∧ ¬ P0 a) (nd : fp.Nodup) (hpin : ∀ n, pinOf c = some n → v = .ref (P0.g n) := by intro n z; cases z) : EnvP K P0 P' H' (σ.set i (some v)) (ρ.set i (some c)) := by
  have gs : ∀ {j : Nat}, i ≠ j → (σ.set i (some v))[j]? = σ[j]? := fun h => List.getElem?_set_ne h
  refine ⟨fun a h => hs a (E.sub a h), ht, fun j e h => ?_, fun j c' h io => ?_, fun j k c1 c2 u u' fp1 fp2 h1 h2 h3 h4 h5 h6 hne => ?_, by rw [List.length_set, List.length_set]; exact E.len, fun j c' n h hp => ?_⟩
  rotate_left 3
  · rcases get_set h with ⟨rfl, hl, e1⟩ | ⟨hne, h⟩
    · cases e1; rw [List.getElem?_set_self (by rw [E.len]; exact hl), hpin n hp]
    · rw [gs hne]; exact E.pin j c' n h hp
  · rcases get_set h with ⟨rfl, hl, e1⟩ | ⟨hne, h⟩
    · cases e1; exact new.elim
    · obtain ⟨w, h1, h2⟩ := E.val j e h
      exact ⟨w, by rw [gs hne]; exact h1, h2.mono sm⟩
  · rcases get_set h with ⟨rfl, hl, e1⟩ | ⟨hne, h⟩
    · cases e1
      exact ⟨v, fp, List.getElem?_set_self (by rw [E.len]; exact hl), new, hp, nd⟩
    · obtain ⟨w, fq, h1, h2, h3, h4⟩ := E.ows j c' h io
      exact ⟨w, fq, by rw [gs hne]; exact h1, h2.move sm fun a ha => (keep j c' w fq hne h h1 h2 a ha).1, fun a ha => ⟨hs a (h3 a ha).1, (h3 a ha).2⟩, h4⟩
  · have back : ∀ (l : Nat) (d : Cl) (w : V) (fq : List Addr), i ≠ l → ρ[l]? = some (some d) → σ[l]? = some (some w) → OwH K H' P' d w fq → ∃ fr, OwH K H P d w fr ∧ fr = fq := fun l d w fq hn hk sk ho => by
      have io : isOw d = true := by cases d <;> first | rfl | exact ho.elim
      obtain ⟨w', fp2, s2, o2, _⟩ := E.ows l d hk io
      rw [sk] at s2; cases s2
      exact ⟨fp2, o2, (o2.move sm fun a ha => (keep l d w fp2 hn hk sk o2 a ha).1).uniq ho⟩
    rcases get_set h1 with ⟨rfl, hl, e1⟩ | ⟨hn1, h1⟩
    · cases e1
      rw [List.getElem?_set_self (by rw [E.len]; exact hl)] at h3
      cases h3
      rcases get_set h2 with ⟨e, _⟩ | ⟨hn2, h2⟩
      · exact (hne e).elim
      · rw [gs hn2] at h4
        obtain ⟨fr, o, rfl⟩ := back k c2 u' fp2 hn2 h2 h4 h6
        intro a ha hb
        rw [new.uniq h5] at keep
        exact (keep k c2 u' fr hn2 h2 h4 o a hb).2 ha
    · rw [gs hn1] at h3
      obtain ⟨fr, o, rfl⟩ := back j c1 u fp1 hn1 h1 h3 h5
      rcases get_set h2 with ⟨rfl, hl, e1⟩ | ⟨hn2, h2⟩
      · cases e1
        rw [List.getElem?_set_self (by rw [E.len]; exact hl)] at h4
        cases h4
        intro a ha
        rw [new.uniq h6] at keep
        exact (keep j c1 u fr hn1 h1 h3 o a ha).2
      · rw [gs hn2] at h4
        obtain ⟨fr2, o2, rfl⟩ := back k c2 u' fp2 hn2 h2 h4 h6
        exact E.apart j k c1 c2 u u' fr fr2 h1 h2 h3 h4 o o2 hne
theorem set_at {α : Type} : ∀ {l : List α} {i : Nat} {x : α}, l[i]? = some x → l.set i x = l
  | [], _, _, h => by cases h
  | y :: r, 0, x, h => by cases h; rfl
  | y :: r, i + 1, x, h => by rw [List.set_cons_succ, set_at (by simpa using h)]
/-- one's own list gets other contents -/
theorem EnvP.mut {K : PySem.W.Frag} (E : EnvP K P0 P H σ ρ) {i p : Nat} {xs : List V} {ds ds' : List D} (ho : ρ[i]? = some (some (.own ds))) (hs : σ[i]? = some (some (.ref p))) (pP : P p) (nP0 : ¬ P0 p) (hx : HasL K (del H P) xs ds') :
    EnvP K P0 P (upd H p (.lst xs)) σ (ρ.set i (some (.own ds'))) ∧ Tr P0 P H P (upd H p (.lst xs)) := by
  have sd : del (upd H p (.lst xs)) P = del H P := by
    funext b
    by_cases hb : P b
    · rw [del_in hb, del_in hb]
    · rw [del_of hb, del_of hb, upd_ne (fun z => hb (by rw [z]; exact pP))]
  have sm : Same (del H P) (del (upd H p (.lst xs)) P) := by rw [sd]; exact Same.refl _
  obtain ⟨v, fp, s1, o1, _⟩ := E.ows i _ ho rfl
  rw [hs] at s1; cases s1
  have key := E.putO (P' := P) (H' := upd H p (.lst xs)) (i := i) (v := .ref p) (c := .own ds') (fp := [p]) (fun a h => h) (fun a h => ?_) sm (fun j c' v' fp' hne h1 h2 h3 a ha => ?_) ⟨p, xs, rfl, rfl, upd_same, by rw [sd]; exact hx⟩ (fun a ha => by rw [List.mem_singleton.mp ha]; exact ⟨pP, nP0⟩) (by simp)
  · rw [set_at hs] at key
    exact ⟨key, sm, fun a h => by rw [upd_ne (fun z => nP0 (by rw [← z]; exact h))]⟩
  · by_cases ha : a = p
    · subst ha; exact Trk.lst upd_same
    · unfold Trk; rw [upd_ne ha]; exact E.trk a h
  · obtain ⟨p', xs', e, rfl, _⟩ := o1
    cases e
    have hn : a ≠ p := fun z => E.apart j i c' _ v' _ fp' [p] h1 ho h2 hs h3 ⟨p, xs', rfl, rfl, by assumption⟩ (Ne.symm hne) a ha (by rw [z]; exact List.mem_singleton.mpr rfl)
    exact ⟨upd_ne hn, fun z => hn (List.mem_singleton.mp z)⟩
/-- one's own list grows -/
theorem EnvP.grow {K : PySem.W.Frag} (E : EnvP K P0 P H σ ρ) {i p : Nat} {xs : List V} {ds : List D} {v : V} {d : D} (ho : ρ[i]? = some (some (.own ds))) (hs : σ[i]? = some (some (.ref p))) (hp : H p = some (.lst xs)) (pP : P p) (nP0 : ¬ P0 p) (hx : HasL K (del H P) xs ds) (hv : Has K (del H P) v d) :
    EnvP K P0 P (upd H p (.lst (xs ++ [v]))) σ (ρ.set i (some (.own (ds ++ [d])))) ∧ Tr P0 P H P (upd H p (.lst (xs ++ [v]))) := E.mut ho hs pP nP0 (hx.snoc hv)
/-- name = e -/
theorem ds_set (i : Nat) {x : Str} {pos' : Pos} (hN : X.N.Nodup) (hi : X.N[i]? = some x) (hx : Loc X.env.scope x) (ha : DE X WX true e f) (hs : swapsWith e (some (.Name x pos')) pos.line X.env = pure false := by rfl) (hf : X.fn x = true ∨ X.env.scope.names.lookup x = some .local := by first | exact .inl rfl | exact .inr rfl | assumption) :
    DS X WX (.Assign [.Name x pos'] e pos) (fun ρ => (f ρ).bind fun d => .ok (.next (ρ.set i (some (.val d))))) := by
  obtain ⟨ta, a1, a2⟩ := ha
  refine ⟨_, ps_set hN hi hx a1 hs hf, fun P0 P σ H Z ρ E h => ?_⟩
  dsimp only at h
  refine a2 P0 P σ H _ ρ E ?_
  cases q : f ρ with
  | bad => rw [q] at h; exact h
  | ex x => rw [q] at h; exact fun H' s => h H' P (E.tr s)
  | ok d => rw [q] at h; exact fun v H' s hv => h _ H' P (E.tr s) ((E.same s).setv hv)
/-- name.append(e) of one's own list -/
def appM (i : Nat) (ρ : Rho) (m : M D) : M Out := match ρ[i]? with
  | some (some (.own ds)) => m.bind fun d => if ds.length < 1000 then .ok (.next (ρ.set i (some (.own (ds ++ [d]))))) else .bad
  | _ => .bad
theorem ds_append (i : Nat) {x : Str} {p1 apos cpos : Pos} (hv : PE X (.Name x p1) (tVar i)) (ha : DE X WX true e f) (hs : starEach [e] X.env = [(false, eval e X.env)] := by rfl)
    (hsw : swapsWith (.Call (.Attribute (.Name x p1) "append" apos) [e] [] cpos) none pos.line X.env = pure false := by rfl)
    (hbase : attributeBase (.Name x p1) "append" X.env (eval (.Name x p1) X.env) = eval (.Name x p1) X.env := by rfl)
    (hfew : ((backTo cpos (starEach [e] X.env)).all (fun x => !x.1) && (backToKw cpos (keywordEach [] X.env)).all (fun x => x.1.isSome) && decide (([e] : List Expr).length + ([] : List Keyword).length + (if ([] : List Keyword).isEmpty then 0 else 1) < 30)) = true := by rfl)
    (hline : (apos.endLine == cpos.line) = true := by rfl) (hplain : (backTo cpos (starEach [] X.env)).any (·.1) = false := by rfl) :
    DS X WX (.Expr (.Call (.Attribute (.Name x p1) "append" apos) [e] [] cpos) pos) (fun ρ => appM i ρ (f ρ)) := by
  obtain ⟨ta, a1, a2⟩ := ha
  refine ⟨_, ps_expr (pe_bm PySem.F.plainAttrs_list PySem.F.slot_list_append PySem.F.type_list_append mt_append hv (pa_cons a1 pa_nil hs) hbase hfew hline hs hplain) hsw, fun P0 P σ H Z ρ E h => ?_⟩
  dsimp only at h
  unfold appM at h
  split at h
  · rename_i ds e1
    obtain ⟨p, xs, h1, h2, h3, h4, h5⟩ := E.own i ds e1
    refine ⟨_, h1, .inl ⟨rfl, xs, .of h2⟩, ?_⟩
    refine a2 P0 P σ H _ ρ E ?_
    cases q : f ρ with
    | bad => rw [q] at h; exact h
    | ex y => rw [q] at h; exact fun H' s => h H' P (E.tr s)
    | ok d =>
      rw [q] at h
      simp only [M.bind_ok] at h
      by_cases hl : ds.length < 1000
      · rw [if_pos hl] at h
        intro v H1 s1 hv
        have E1 := E.same s1
        have h2' : H1 p = some (.lst xs) := s1 _ _ h2
        refine ⟨p, xs, v, rfl, rfl, h2', small1000 (by rw [h5.length]; omega), ?_⟩
        obtain ⟨E2, t2⟩ := E1.grow e1 h1 h2' h3 h4 (h5.mono s1.del) hv
        exact h _ _ _ ((E.tr s1).trans t2) E2
      · rw [if_neg hl] at h; exact h.elim
  · exact h.elim
end
end L2

set_option Elab.async false
set_option linter.all false
set_option maxRecDepth 100000
namespace L2
open PySem PySem.Spec PyProof.Rows

/-! ### targets -/
def gG (K : PySem.W.Frag) (P0 : P0T) (P : Addr → Prop) (H : Hp) (Q : St → Hp → Prop) : M Rho → Prop
  | .ok ρ => ∀ σ', EnvP K P0 P H σ' ρ → Q σ' H
  | _ => False
def DG (X : Cx) (tg : Expr) (gt : D → Rho → M Rho) : Prop :=
  ∃ g : TG, PG X tg g ∧ ∀ P0 P σ H Q ρ v d, EnvP X.K P0 P H σ ρ → Has X.K (del H P) v d → gG X.K P0 P H Q (gt d ρ) → g v σ H Q
/-! ### iterators -/
structure ItOk (K : PySem.W.Frag) (J : It) (P : Addr → Prop) (H : Hp) (ds : List D) : Prop where
  go : ∀ (i : Nat) P' H', Same (del H P) (del H' P') → i < ds.length → J.go i H'
  stop : ∀ (i : Nat) P' H', Same (del H P) (del H' P') → ds.length ≤ i → J.stop i H'
  yld : ∀ (i : Nat) P' H' v H'' d, Same (del H P) (del H' P') → (∀ a, P' a → Trk H' a) → ds[i]? = some d → J.yld i H' v H'' → Same H' H'' ∧ Has K (del H'' P') v d
def DI (X : Cx) (WX : Str → Hp → Prop) (tg iter : Expr) (f : Rho → M (List D)) : Prop :=
  ∃ wi, PI X tg iter wi ∧ ∀ P0 P σ H R ρ, EnvP X.K P0 P H σ ρ → (match f ρ with | .ok ds => ∀ J H', Same H H' → ItOk X.K J P H' ds → R J H' | .ex x => ∀ H', Same H H' → WX x H' | .bad => False) → wi σ H R
def forM (gt : D → Rho → M Rho) (body : Rho → M Out) : List D → Rho → M Out
  | [], ρ => .ok (.next ρ)
  | d :: r, ρ => match gt d ρ with
    | .ok ρ1 => (match body ρ1 with
      | .ok (.next ρ2) => forM gt body r ρ2
      | .ok (.cont ρ2) => forM gt body r ρ2
      | .ok (.brk ρ2) => .ok (.next ρ2)
      | m => m)
    | _ => .bad
section
variable {X : Cx} {WX : Str → Hp → Prop} {c : Bool} {P0 : P0T} {P : Addr → Prop} {H : Hp} {σ : St} {ρ : Rho} {a b e tg iter : Expr} {f g : Rho → M D} {ft : Rho → M Bool} {pos : Pos} {gt : D → Rho → M Rho} {gts : List D → Rho → M Rho} {gb : Rho → M Out} {fi : Rho → M (List D)}
theorem dg_name (i : Nat) {x : Str} (hN : X.N.Nodup) (hi : X.N[i]? = some x) (hx : Loc X.env.scope x) (hf : X.fn x = true ∨ X.env.scope.names.lookup x = some .local := by first | exact .inl rfl | exact .inr rfl | assumption) : DG X (.Name x pos) (fun d ρ => .ok (ρ.set i (some (.val d)))) :=
  ⟨_, pg_name hN hi hx hf, fun P0 P σ H Q ρ v d E hv h => h _ (E.setv hv)⟩
/-! iterators -/
theorem di_list (ha : DE X WX true e f) : DI X WX tg e (fun ρ => (f ρ).bind fun d => match d with | .lst ds => .ok ds | _ => .bad) := by
  obtain ⟨ta, a1, a2⟩ := ha
  refine ⟨_, pi_list a1, fun P0 P σ H R ρ E h => ?_⟩
  dsimp only at h
  refine a2 P0 P σ H _ ρ E ?_
  cases q : f ρ with
  | bad => rw [q] at h; exact h
  | ex x => rw [q] at h; exact h
  | ok d =>
    rw [q] at h
    cases d with
    | lst ds =>
      intro v H1 s1 hv
      cases hv with
      | @lst a xs _ hs hl =>
        refine ⟨a, rfl, ⟨xs, hs.undel⟩, h _ H1 s1 ⟨fun i P' H' s hi => ?_, fun i P' H' s hi => ?_, fun i P' H' v H'' d s ht hd y => ?_⟩⟩
        · obtain ⟨x, hx, _⟩ := hl.get (List.getElem?_eq_getElem hi)
          exact ⟨xs, x, (s.seq hs).undel, hx⟩
        · exact ⟨xs, (s.seq hs).undel, by rw [hl.length]; exact hi⟩
        · obtain ⟨rfl, y⟩ := y
          obtain ⟨x, hx, hd'⟩ := hl.get hd
          have e := y xs (s.seq hs).undel
          rw [hx] at e
          cases e
          exact ⟨Same.refl _, hd'.mono s⟩
    | _ => exact h.elim
def rangeD (lo : Int) : Nat → List D
  | 0 => []
  | n + 1 => .int lo :: rangeD (lo + 1) n
theorem rangeD_len (lo : Int) : ∀ n : Nat, (rangeD lo n).length = n := by
  intro n
  induction n generalizing lo with
  | zero => rfl
  | succ n ih => rw [rangeD, List.length_cons, ih]
theorem rangeD_get {lo : Int} {n i : Nat} {d : D} (h : (rangeD lo n)[i]? = some d) : d = .int (lo + i) ∧ i < n := by
  have hi : i < n := by
    have := (List.getElem?_eq_some_iff.mp h).1
    rw [rangeD_len] at this; exact this
  refine ⟨?_, hi⟩
  induction n generalizing lo i with
  | zero => omega
  | succ n ih =>
    cases i with
    | zero => rw [rangeD] at h; simp at h; rw [← h]; simp
    | succ i =>
      rw [rangeD, List.getElem?_cons_succ] at h
      rw [ih h (by omega)]
      congr 1
      omega
theorem itok_range {K : PySem.W.Frag} {P : Addr → Prop} {H : Hp} (lo : Int) (n : Nat) : ItOk K (Itr lo n) P H (rangeD lo n) :=
  ⟨fun i P' H' _ hi => by rw [rangeD_len] at hi; exact hi, fun i P' H' _ hi => by rw [rangeD_len] at hi; exact hi, fun i P' H' v H'' d _ _ hd y => by
    obtain ⟨rfl, rfl⟩ := y
    obtain ⟨rfl, _⟩ := rangeD_get hd
    exact ⟨Same.refl _, .int _⟩⟩
/-- range over one number; the bound is asked by choice, so that no reckoning of the kernel opens it -/
noncomputable def rngM : D → M (List D)
  | .int j => @ite _ (-(2 ^ 62) ≤ j ∧ j < 2 ^ 62) (Classical.propDecidable _) (.ok (rangeD 0 j.toNat)) .bad
  | _ => .bad
theorem rngM_int {j : Int} (h1 : -(2 ^ 62) ≤ j) (h2 : j < 2 ^ 62) : rngM (.int j) = .ok (rangeD 0 j.toNat) := if_pos ⟨h1, h2⟩
theorem rngM_nat {n : Nat} (h : n ≤ 1000) : rngM (.int (n : Int)) = .ok (rangeD 0 n) := by
  rw [rngM_int (by omega) (by omega), Int.toNat_natCast]
theorem di_range1 {p : Pos} (hg : Gl X "range") (hm : X.mg "range" = none) (ha : DE X WX c a f) (hs : starEach [a] X.env = [(false, eval a X.env)] := by rfl) :
    DI X WX tg (.Call (.Name "range" p) [a] [] pos) (fun ρ => (f ρ).bind rngM) := by
  obtain ⟨ta, a1, a2⟩ := ha
  refine ⟨_, pi_range1 hg hm (pa_cons a1 pa_nil hs) hs, fun P0 P σ H R ρ E h => ?_⟩
  dsimp only at h
  refine a2 P0 P σ H _ ρ E ?_
  cases q : f ρ with
  | bad => rw [q] at h; exact h
  | ex x => rw [q] at h; exact h
  | ok d =>
    rw [q] at h
    cases d with
    | int j =>
      simp only [M.bind_ok] at h
      by_cases hj : -(2 ^ 62) ≤ j ∧ j < 2 ^ 62
      · rw [rngM_int hj.1 hj.2] at h
        exact fun v H1 s1 hv => ⟨j, by rw [hv.int_inv], hj.1, hj.2, h _ H1 s1 (itok_range 0 _)⟩
      · have e : rngM (.int j) = .bad := if_neg hj
        rw [e] at h; exact h.elim
    | _ => exact h.elim
theorem drop_get {α : Type} {l : List α} {i : Nat} (h : i < l.length) : l.drop i = l[i] :: l.drop (i + 1) := List.drop_eq_getElem_cons h
/-- for -/
theorem ds_for {body : List Stmt} (hp : PassesOwn (model X.prog X.w) X.A X.env X.xe) (hc : X.calm = true) (hi : DI X WX tg iter fi) (hg : DG X tg gt) (hb : DSs X WX body gb) (hs : ∀ x, foldedSetIterable iter X.env x = pure x := by intro _; rfl) :
    DS X WX (.For tg iter body [] pos) (fun ρ => (fi ρ).bind fun ds => forM gt gb ds ρ) := by
  obtain ⟨wi, i1, i2⟩ := hi
  obtain ⟨t, a1, a2⟩ := hg
  obtain ⟨tb, b1, b2⟩ := hb
  refine ⟨_, ps_for hp hc i1 a1 b1 hs, fun P0 P σ H Z ρ E h => ?_⟩
  dsimp only at h
  refine i2 P0 P σ H _ ρ E ?_
  cases q : fi ρ with
  | bad => rw [q] at h; exact h
  | ex x => rw [q] at h; exact fun H' s => h H' P (E.tr s)
  | ok ds =>
    rw [q] at h
    simp only [M.bind_ok] at h
    intro J H1 s1 ok
    refine ⟨fun i m σ' H' => m = ds.length - i ∧ i ≤ ds.length ∧ ∃ P' ρ', Tr P0 P H1 P' H' ∧ EnvP X.K P0 P' H' σ' ρ' ∧ gS X.K WX P0 P' H' Z (forM gt gb (ds.drop i) ρ'),
      ⟨ds.length, by simp, Nat.zero_le _, P, ρ, Tr.refl, E.same s1, by rw [List.drop_zero]; exact h.tr (E.tr s1)⟩, ?_⟩
    rintro i m σ' H' ⟨rfl, hi, P', ρ', t', E', g'⟩
    by_cases hlt : i < ds.length
    · refine .inr ⟨ok.go i P' H' t'.1 hlt, fun σ2 H2 => i + 1 ≤ ds.length ∧ ∃ P2 ρ2, Tr P0 P H1 P2 H2 ∧ EnvP X.K P0 P2 H2 σ2 ρ2 ∧ gS X.K WX P0 P2 H2 Z (forM gt gb (ds.drop (i + 1)) ρ2), fun σ2 H2 hq => ⟨ds.length - (i + 1), by omega, rfl, hq.1, hq.2⟩, fun v H2 y => ?_⟩
      obtain ⟨s2, hv⟩ := ok.yld i P' H' v H2 ds[i] t'.1 E'.trk (List.getElem?_eq_getElem hlt) y
      rw [drop_get hlt, forM] at g'
      have E2 := E'.same s2
      refine a2 P0 P' σ' H2 _ ρ' v ds[i] E2 hv ?_
      cases q1 : gt ds[i] ρ' with
      | bad => rw [q1] at g'; exact g'
      | ex x => rw [q1] at g'; exact g'.elim
      | ok ρ1 =>
        rw [q1] at g'
        dsimp only at g'
        intro σ3 E3
        refine b2 P0 P' σ3 H2 _ ρ1 E3 ?_
        have tt : Tr P0 P H1 P' H2 := t'.trans (E'.tr s2)
        cases q2 : gb ρ1 with
        | bad => rw [q2] at g'; exact g'
        | ex x => rw [q2] at g'; exact gS.tr (m := .ex x) g' (E'.tr s2)
        | ok o =>
          rw [q2] at g'
          cases o with
          | ret d => exact gS.tr (m := .ok (.ret d)) g' (E'.tr s2)
          | retO d => exact gS.tr (m := .ok (.retO d)) g' (E'.tr s2)
          | retE d ρ2 => exact gS.tr (m := .ok (.retE d ρ2)) g' (E'.tr s2)
          | next ρ2 => exact fun σ4 H4 P4 t4 E4 => ⟨hlt, P4, ρ2, tt.trans t4, E4, gS.tr g' ((E'.tr s2).trans t4)⟩
          | cont ρ2 => exact fun σ4 H4 P4 t4 E4 => ⟨hlt, P4, ρ2, tt.trans t4, E4, gS.tr g' ((E'.tr s2).trans t4)⟩
          | brk ρ2 => exact fun σ4 H4 P4 t4 E4 => g' σ4 H4 P4 ((E'.tr s2).trans t4) E4
    · have e : i = ds.length := by omega
      subst e
      refine .inl ⟨ok.stop _ P' H' t'.1 (Nat.le_refl _), ?_⟩
      rw [List.drop_length, forM] at g'
      exact g' σ' H' P' Tr.refl E'
end
end L2

set_option Elab.async false
set_option linter.all false
set_option maxRecDepth 100000
namespace L2
open PySem PySem.Spec PyProof.Rows

/-! ### defs -/
def spM0 (K : PySem.W.Frag) (n : Nat) (F : List D → M D) : Sp := fun vs H Q _ => vs.length = n ∧ ∃ P ds, (∀ a, P a → Trk H a) ∧ HasL K (del H P) vs ds ∧ gV K (fun _ _ => False) P H Q (F ds)
def stRho (N : List Str) (ds : List D) : Rho := ds.map (fun d => some (.val d)) ++ List.replicate (N.length - ds.length) none
/-- a thing of one's own as a datum -/
def clD : Cl → M D
  | .val d => .ok d
  | .own ds => .ok (.lst ds)
  | .ow (.rows dss) => .ok (.lst (dss.map D.lst))
  | .ow (.anc _ _) => .bad
  | .ow (.tree _ t) => .ok (er t)
def fin (m : M Out) : M D := match m with
  | .ok (.ret d) => .ok d
  | .ok (.retO c) => clD c
  | .ok (.next _) => .ok .non
  | _ => .bad
theorem env_start {K : PySem.W.Frag} {P : Addr → Prop} {H : Hp} {N : List Str} {vs : List V} {ds : List D} (ht : ∀ a, P a → Trk H a) (h : HasL K (del H P) vs ds) : EnvP K ⟨P, fun _ => 0⟩ P H (start N vs) (stRho N ds) := by
  have hl := h.length
  have key : ∀ (i : Nat) (c : Cl), (stRho N ds)[i]? = some (some c) → ∃ d, ds[i]? = some d ∧ c = .val d := fun i c e => by
    unfold stRho at e
    by_cases hi : i < ds.length
    · rw [List.getElem?_append_left (by simpa using hi), List.getElem?_map] at e
      cases q : ds[i]? with
      | none => rw [q] at e; cases e
      | some d => rw [q] at e; cases e; exact ⟨d, rfl, rfl⟩
    · rw [List.getElem?_append_right (by simpa using hi), List.getElem?_replicate] at e
      split at e <;> cases e
  refine ⟨fun _ h => h, ht, fun i d e => ?_, fun i es e io => ?_, fun i j c c' v v' fp fp' e _ _ _ ho _ _ => ?_, ?_, fun i c n e hp => ?_⟩
  rotate_left 4
  · obtain ⟨d', q, z⟩ := key i _ e
    cases z
    cases hp
  · obtain ⟨d', q, z⟩ := key i _ e
    cases z
    obtain ⟨v, hv, hd⟩ := h.get q
    refine ⟨v, ?_, hd⟩
    unfold start
    rw [List.getElem?_append_left (by rw [List.length_map]; exact (List.getElem?_eq_some_iff.mp hv).1), List.getElem?_map, hv]
    rfl
  · obtain ⟨d', q, z⟩ := key i _ e
    cases z
    cases io
  · obtain ⟨d', q, z⟩ := key i _ e
    cases z
    exact ho.elim
  · unfold start stRho
    simp [hl]
theorem tr_same {P : Addr → Prop} {H H' : Hp} {P' : Addr → Prop} (t : Tr P P H P' H') : Same H H' := fun b o e => by
  by_cases hb : P b
  · rw [t.2 b hb]; exact e
  · exact (del_some (t.1 b o (by rw [del_of hb]; exact e))).2
theorem RowsH.hasL {K : PySem.W.Frag} {H : Hp} {P P0 : Addr → Prop} (hs : ∀ a, P0 a → P a) : ∀ {ps : List Addr} {dss : List (List D)}, (∀ a ∈ ps, ¬ P0 a) → RowsH K H P ps dss → HasL K (del H P0) (ps.map V.ref) (dss.map D.lst)
  | _, _, _, .nil => .nil
  | _, _, k, .cons h r t => .cons (.lst (.of (show del H P0 _ = _ by rw [del_of (k _ List.mem_cons_self)]; exact h)) (r.mono (del_sub hs))) (RowsH.hasL hs (fun a ha => k a (List.mem_cons_of_mem _ ha)) t)
theorem ret_own {K : PySem.W.Frag} {WX : Str → Hp → Prop} {P P2 : Addr → Prop} {H H' : Hp} {Q : VK} {c : Cl} {v : V} {fp : List Addr} (h : gV K WX P H Q (clD c)) (t' : Tr P P H P2 H') (hs : ∀ a, P a → P2 a) (ht : ∀ a, P2 a → Trk H' a) (ho : OwH K H' P2 c v fp) (hp : ∀ a ∈ fp, P2 a ∧ ¬ P a) : Q v H' := by
  cases c with
  | val d => exact ho.elim
  | own ds =>
    obtain ⟨p, xs, rfl, rfl, h1, h2⟩ := ho
    exact h _ H' (tr_same t') (.lst (.of (show del H' P p = _ by rw [del_of (hp p List.mem_cons_self).2]; exact h1)) (h2.mono (del_sub hs)))
  | ow o =>
    cases o with
    | rows dss =>
      obtain ⟨p, ps, rfl, rfl, h1, h2⟩ := ho
      exact h _ H' (tr_same t') (.lst (.of (show del H' P p = _ by rw [del_of (hp p List.mem_cons_self).2]; exact h1)) (h2.hasL hs fun a ha => (hp a (List.mem_cons_of_mem _ ha)).2))
    | anc p ds => exact h.elim
    | tree p t => exact h _ H' (tr_same t') (OwT.has hs (fun a ha => (hp a ha).2) ho)
section
variable {P : Program} {w : World} {K : PySem.W.Frag} {mg : Str → Option Value} {base : Heap}
/-- a def without exceptions, by its body's worth -/
theorem fn_D0 {x qual : Str} {st : Stmt} {f : Addr} {fd : FuncData} {N ps : List Str} {k : Nat} (F : Fun K x qual st f fd) (S : FnScope N ps (defScope st)) (g : Rho → M Out)
    (hb : ∀ (cdv : Value) (A : Around) (outer : List Env) (s : Shared) (H : Hp) (E : XK), Room k (A.deeper (envOfC qual (defScope st) s.heap.objs.size f cdv)) → DSs (cxOf CX0 P w K mg base N qual (defScope st) f cdv A outer s H E).nox (fun _ _ => False) (defBody st) g) :
    FnOk P w K mg base CX0 (k + 1) f fd ps (spM0 K ps.length fun ds => fin (g (stRho N ds))) := by
  refine F.ok S (fun vs H Q E h => h.1) fun cdv A outer s H vs Q E hr h => ?_
  obtain ⟨hl, P', ds, ht, hv, hq⟩ := h
  obtain ⟨t, h1, h2⟩ := hb cdv A outer s H E hr
  refine ⟨t, h1, h2 ⟨P', fun _ => 0⟩ P' _ H _ _ (env_start ht hv) ?_⟩
  dsimp only at hq
  revert hq
  cases g (stRho N ds) with
  | bad => exact fun h => h.elim
  | ex x => exact fun h => h.elim
  | ok o =>
    cases o with
    | ret d => exact fun h v H' P2 t hv => h v H' (tr_same t) hv
    | next ρ => exact fun h σ' H' P2 t E => h .non H' (tr_same t) .non
    | brk ρ => exact fun h => h.elim
    | cont ρ => exact fun h => h.elim
    | retO c => exact fun h v fp H' P2 t hs ht ho hp nd => ret_own h t hs ht ho hp
    | retE d ρ => exact fun h => h.elim
end
section
variable {X : Cx} {WX : Str → Hp → Prop} {c : Bool} {P0 : P0T} {P : Addr → Prop} {H : Hp} {σ : St} {ρ : Rho} {a b e tg iter : Expr} {f g : Rho → M D} {ft : Rho → M Bool} {pos : Pos} {gt : D → Rho → M Rho} {fi : Rho → M (List D)} {es : List Expr} {fs : Rho → M (List D)}
/-! ### comprehensions -/
def muRho (μ : List (Option Nat)) (ρ : Rho) : Rho := μ.map fun o => o.bind fun i => match ρ[i]? with | some (some (.val d)) => some (.val d) | _ => none
theorem muRho_get {μ : List (Option Nat)} {ρ : Rho} {j : Nat} {cl : Cl} (h : (muRho μ ρ)[j]? = some (some cl)) : ∃ i d, μ[j]? = some (some i) ∧ ρ[i]? = some (some (.val d)) ∧ cl = .val d := by
  unfold muRho at h
  rw [List.getElem?_map] at h
  cases q : μ[j]? with
  | none => rw [q] at h; cases h
  | some o =>
    rw [q] at h
    cases o with
    | none => cases h
    | some i =>
      simp only [Option.map_some, Option.bind_some, Option.some.injEq] at h
      split at h
      · rename_i d e
        cases h
        exact ⟨i, d, rfl, e, rfl⟩
      · cases h
theorem EnvP.block {K : PySem.W.Frag} (E : EnvP K P0 P H σ ρ) (μ : List (Option Nat)) : EnvP K P0 P H (muSt μ σ) (muRho μ ρ) := by
  refine ⟨E.sub, E.trk, fun j d h => ?_, fun j ds h io => ?_, fun j k c c' v v' fp fp' h _ _ _ ho _ _ => ?_, by unfold muSt muRho; simp, fun j c n h hp => by obtain ⟨i, d', h1, h2, h3⟩ := muRho_get h; subst h3; cases hp⟩
  · obtain ⟨i, d', h1, h2, h3⟩ := muRho_get h
    cases h3
    obtain ⟨v, h4, h5⟩ := E.val i d h2
    refine ⟨v, ?_, h5⟩
    unfold muSt
    rw [List.getElem?_map, h1]
    simp [h4]
  · obtain ⟨i, d', h1, h2, h3⟩ := muRho_get h
    cases h3
    cases io
  · obtain ⟨i, d', h1, h2, h3⟩ := muRho_get h
    cases h3
    exact ho.elim
def compM (gt : D → Rho → M Rho) (ft : Rho → M Bool) (fe : Rho → M D) : List D → Rho → M (List D)
  | [], _ => .ok []
  | d :: r, ρ => match gt d ρ with
    | .ok ρ1 => (match ft ρ1 with
      | .ok k => if k = true then (match fe ρ1 with
        | .ok y => (match compM gt ft fe r ρ with | .ok ys => .ok (y :: ys) | _ => .bad)
        | _ => .bad) else compM gt ft fe r ρ
      | _ => .bad)
    | _ => .bad
/-- a block's target -/
def DGB (X : Cx) (scope : Scope) (NB : List Str) (μ : List (Option Nat)) (tg : Expr) (gt : D → Rho → M Rho) : Prop :=
  ∃ g : TG, (∀ s H C ex, PG (blockOf X s H scope C NB ex) tg g) ∧ GKeeps μ g ∧ ∀ P0 P σ H Q ρ v d, EnvP X.K P0 P H σ ρ → Has X.K (del H P) v d → gG X.K P0 P H Q (gt d ρ) → g v σ H Q
theorem dgb_name {scope : Scope} {NB : List Str} {μ : List (Option Nat)} (i : Nat) {x : Str} (hN : NB.Nodup) (hi : NB[i]? = some x) (hx : (relabel scope X.env).names.lookup x = some .local) (hm : μ[i]? = some none) : DGB X scope NB μ (.Name x pos) (fun d ρ => .ok (ρ.set i (some (.val d)))) :=
  ⟨gName i, fun s H C ex => pg_name (X := blockOf X s H scope C NB ex) hN hi (.inl hx) (.inr hx), gk_name hm, fun P0 P σ H Q ρ v d E hv h => h _ (E.setv hv)⟩
/-- a block's tests -/
def DTs (X : Cx) (cs : List Expr) (f : Rho → M Bool) : Prop :=
  ∃ t, PTs X cs t ∧ ∀ P0 P σ H Q ρ, EnvP X.K P0 P H σ ρ → gT (fun _ _ => False) H Q (f ρ) → t σ H Q
theorem dts_nil : DTs X [] (fun _ => .ok true) := ⟨_, pts_nil, fun P0 P σ H Q ρ E h => h H (Same.refl H)⟩
def compR (m : M (List D)) : M D := match m with | .ok ys => .ok (.lst ys) | _ => .bad
theorem comp_D {μ : List (Option Nat)} {wi : TI} {gg : TG} {tc : Shared → Hp → Addr → List Addr → TT} {te : Shared → Hp → Addr → List Addr → TE} {fe : Rho → M D}
    (i2 : ∀ P0 P σ H R ρ, EnvP X.K P0 P H σ ρ → (match fi ρ with | .ok ds => ∀ J H', Same H H' → ItOk X.K J P H' ds → R J H' | .ex x => ∀ H', Same H H' → WX x H' | .bad => False) → wi σ H R)
    (g2 : ∀ P0 P σ H Q ρ v d, EnvP X.K P0 P H σ ρ → Has X.K (del H P) v d → gG X.K P0 P H Q (gt d ρ) → gg v σ H Q)
    (t2 : ∀ s H' C ex P0 P σ H Q ρ, EnvP X.K P0 P H σ ρ → gT (fun _ _ => False) H Q (ft ρ) → tc s H' C ex σ H Q)
    (e2 : ∀ s H' C ex P0 P σ H Q ρ, EnvP X.K P0 P H σ ρ → gV X.K (fun _ _ => False) (Lv c P0 P) H Q (fe ρ) → te s H' C ex σ H Q) {Q : VK}
    (E : EnvP X.K P0 P H σ ρ) (h : gV X.K WX (Lv c P0 P) H Q ((fi ρ).bind fun ds => if ds.length ≤ 1000 then compR (compM gt ft fe ds (muRho μ ρ)) else .bad)) : tComp wi μ gg tc te σ H Q := by
  refine i2 P0 P σ H _ ρ E ?_
  cases q : fi ρ with
  | bad => rw [q] at h; exact h
  | ex x => rw [q] at h; exact h
  | ok ds =>
    rw [q] at h
    simp only [M.bind_ok] at h
    by_cases hd : ¬ ds.length ≤ 1000
    · rw [if_neg hd] at h; exact h.elim
    have hd : ds.length ≤ 1000 := by omega
    rw [if_pos hd] at h
    intro J H1 s1 ok s C ex
    cases qc : compM gt ft fe ds (muRho μ ρ) with
    | bad => rw [qc] at h; exact h.elim
    | ex x => rw [qc] at h; exact h.elim
    | ok total =>
      rw [qc] at h
      unfold compR at h
      dsimp only at h
      have E1 := E.same s1
      refine ⟨fun i m ys H2 => m = ds.length - i ∧ i ≤ ds.length ∧ ys.length ≤ i ∧ Same H1 H2 ∧ ∃ es rest, HasL X.K (del H2 (Lv c P0 P)) ys es ∧ compM gt ft fe (ds.drop i) (muRho μ ρ) = .ok rest ∧ es ++ rest = total,
        ⟨ds.length, by simp, Nat.zero_le _, Nat.le_refl _, Same.refl _, [], total, .nil, by rw [List.drop_zero]; exact qc, rfl⟩, ?_⟩
      rintro i m ys H2 ⟨rfl, hi, hy, s2, es, rest, hes, hcm, htot⟩
      by_cases hlt : i < ds.length
      · refine .inr ⟨ok.go i P H2 s2.del hlt, Nat.lt_of_le_of_lt hy (small1000 (by omega)), fun ys' H' => i + 1 ≤ ds.length ∧ ys'.length ≤ i + 1 ∧ Same H1 H' ∧ ∃ es rest, HasL X.K (del H' (Lv c P0 P)) ys' es ∧ compM gt ft fe (ds.drop (i + 1)) (muRho μ ρ) = .ok rest ∧ es ++ rest = total, fun ys' H' hq => ⟨ds.length - (i + 1), by omega, rfl, hq.1, hq.2.1, hq.2.2.1, hq.2.2.2⟩, fun v H3 y => ?_⟩
        have E2 := E1.same s2
        obtain ⟨s3, hv⟩ := ok.yld i P H2 v H3 ds[i] s2.del E2.trk (List.getElem?_eq_getElem hlt) y
        rw [drop_get hlt, compM] at hcm
        have E3 := (E2.same s3).block μ
        refine g2 P0 P _ H3 _ (muRho μ ρ) v ds[i] E3 hv ?_
        cases q1 : gt ds[i] (muRho μ ρ) with
        | bad => rw [q1] at hcm; cases hcm
        | ex x => rw [q1] at hcm; cases hcm
        | ok ρ1 =>
          rw [q1] at hcm
          dsimp only at hcm
          intro σ4 E4
          refine t2 s H1 C ex P0 P σ4 H3 _ ρ1 E4 ?_
          cases q2 : ft ρ1 with
          | bad => rw [q2] at hcm; cases hcm
          | ex x => rw [q2] at hcm; cases hcm
          | ok k =>
            rw [q2] at hcm
            dsimp only at hcm
            intro H5 s5
            cases k with
            | false =>
              simp only [Bool.false_eq_true, if_false] at hcm ⊢
              exact ⟨hlt, by omega, (s2.trans s3).trans s5, es, rest, (hes.mono s3.del).mono s5.del, hcm, htot⟩
            | true =>
              simp only [if_true] at hcm ⊢
              refine e2 s H1 C ex P0 P σ4 H5 _ ρ1 (E4.same s5) ?_
              cases q3 : fe ρ1 with
              | bad => rw [q3] at hcm; cases hcm
              | ex x => rw [q3] at hcm; cases hcm
              | ok y' =>
                rw [q3] at hcm
                dsimp only at hcm
                cases q4 : compM gt ft fe (ds.drop (i + 1)) (muRho μ ρ) with
                | bad => rw [q4] at hcm; cases hcm
                | ex x => rw [q4] at hcm; cases hcm
                | ok ys2 =>
                  rw [q4] at hcm
                  cases hcm
                  intro w H6 s6 hw
                  refine ⟨hlt, by rw [List.length_append, List.length_singleton]; omega, ((s2.trans s3).trans s5).trans s6, es ++ [y'], ys2, (((hes.mono s3.del).mono s5.del).mono s6.del).snoc hw, rfl, ?_⟩
                  rw [List.append_assoc]; exact htot
      · have e : i = ds.length := by omega
        subst e
        rw [List.drop_length, compM] at hcm
        cases hcm
        rw [List.append_nil] at htot
        subst htot
        refine .inl ⟨ok.stop _ P H2 s2.del (Nat.le_refl _), fun D0 hn => h _ _ ((s1.trans s2).trans (same_new hn _)) (.lst (.of (new_del hn fun a q => (E1.same s2).lvt c a q)) (hes.mono (same_new hn _).del))⟩
/-- name = [elt for ..] on one line -/
theorem ds_setC {scope : Scope} {NB : List Str} {ifs : List Expr} {elt : Expr} {fe : Rho → M D} (i : Nat) {x : Str} {px spos : Pos} (μ : List (Option Nat)) (hN : X.N.Nodup) (hiN : X.N[i]? = some x) (hx : Loc X.env.scope x) (hc : X.calm = true) (hi : DI X WX tg iter fi) (hsc : scOk scope X.env.scope = true) (hmu : muOk X.N NB scope μ = true) (hg : DGB X scope NB μ tg gt)
    (ht : ∀ s H C ex, DTs (blockOf X s H scope C NB ex) ifs ft) (he : ∀ s H C ex, DE (blockOf X s H scope C NB ex) (fun _ _ => False) true elt fe)
    (hsw : swapsWith (.ListComp elt [⟨tg, iter, ifs, 0⟩] scope pos) (some (.Name x px)) spos.line X.env = pure true := by rfl) (hs : ∀ x, foldedSetIterable iter X.env x = pure x := by intro _; rfl) (hf : X.fn x = true ∨ X.env.scope.names.lookup x = some .local := by first | exact .inl rfl | exact .inr rfl | assumption) :
    DS X WX (.Assign [.Name x px] (.ListComp elt [⟨tg, iter, ifs, 0⟩] scope pos) spos) (fun ρ => ((fi ρ).bind fun ds => if ds.length ≤ 1000 then compR (compM gt ft fe ds (muRho μ ρ)) else .bad).bind fun d => .ok (.next (ρ.set i (some (.val d))))) := by
  obtain ⟨wi, i1, i2⟩ := hi
  obtain ⟨gg, g1, gk, g2⟩ := hg
  refine ⟨_, ps_setC hN hiN hx hc i1 hsc hmu gk (fun s H C ex => ⟨g1 s H C ex, (Classical.choose_spec (ht s H C ex)).1, (Classical.choose_spec (he s H C ex)).1⟩) hsw hs hf, fun P0 P σ H Z ρ E h => ?_⟩
  refine comp_D (c := true) i2 g2 (fun s H' C ex P0 P σ H Q ρ E h => (Classical.choose_spec (ht s H' C ex)).2 P0 P σ H Q ρ E h) (fun s H' C ex P0 P σ H Q ρ E h => (Classical.choose_spec (he s H' C ex)).2 P0 P σ H Q ρ E h) E ?_
  dsimp only at h
  revert h
  cases ((fi ρ).bind fun ds => if ds.length ≤ 1000 then compR (compM gt ft fe ds (muRho μ ρ)) else .bad) with
  | bad => exact fun h => h
  | ex y => exact fun h H' s => h H' P (E.tr s)
  | ok d => exact fun h v H' s hv => h _ H' P (E.tr s) ((E.same s).setv hv)
end
end L2

set_option Elab.async false
set_option linter.all false
set_option maxRecDepth 100000
namespace L2
open PySem PySem.Spec PyProof.Rows

section
variable {X : Cx} {WX : Str → Hp → Prop} {c : Bool} {P0 : P0T} {P : Addr → Prop} {H : Hp} {σ : St} {ρ : Rho} {a b e k : Expr} {f g : Rho → M D} {te tk : TE} {pos p2 : Pos}
/-! xs[::k], k = -1 -/
/-! min(xs, default=d) -/
def intsD : List D → Option (List Int)
  | [] => some []
  | .int i :: r => (intsD r).map (i :: ·)
  | _ => none
/-! an item of one's own list is clean -/
end
end L2

set_option Elab.async false
set_option linter.all false
set_option maxRecDepth 100000
namespace L2
open PySem PySem.Spec PyProof.Rows

theorem huR {A : Around} {k : Nat} (hr : Room k A) (n : Nat) (hn : n ≤ 64) : A.units + n < cLine := by have := hr.units; omega
/-- a def of the text, as it stands behind the top -/
structure FunAt (K : PySem.W.Frag) (mg : Str → Option Value) (x : Str) (st : Stmt) (ps : List Str) : Prop where
  ex : ∃ f fd, Fun K x x st f fd ∧ mg x = some (.ref f) ∧ Binds K fd ps []
section
variable {X : Cx} {WX : Str → Hp → Prop} {c : Bool} {e : Expr} {es : List Expr} {fs : Rho → M (List D)} {pos : Pos}
end
end L2

set_option Elab.async false
set_option linter.all false
set_option maxRecDepth 100000
namespace L2
open PySem PySem.Spec PyProof.Rows

/-! ### reckoning with worths -/
/-- xs[:n] -/
theorem dSl_take (ds : List D) (n : Nat) : dSl none (some (n : Int)) (.lst ds) = .ok (.lst (ds.take n)) := by
  unfold dSl
  dsimp only
  rw [HT.sIx_none, HT.sIx_nat, List.drop_zero, Nat.sub_zero]
  congr 2
  rw [Nat.min_def]
  split
  · rfl
  · rw [List.take_of_length_le (Nat.le_refl _), List.take_of_length_le (by omega)]
end L2

set_option Elab.async false
set_option linter.all false
set_option maxRecDepth 100000
namespace L2
open PySem PySem.Spec PyProof.Rows

theorem ObjOk.there {P : Program} {w : World} {H : Hp} {h : Heap} {a : Addr} {o : HO} (x : ObjOk P w H h a o) : ∃ ob, h.get? a = some ob := by
  cases o with
  | lst xs => obtain ⟨_, _, _, _, e⟩ := x; exact ⟨_, e⟩
  | tup xs => obtain ⟨_, _, _, o, e, _⟩ := x; exact ⟨o, e⟩
  | dK kvs => obtain ⟨_, _, _, _, o, _, _, e, _⟩ := x; exact ⟨_, e⟩
  | dT kvs => obtain ⟨_, _, _, _, o, _, _, e, _⟩ := x; exact ⟨_, e⟩
  | set S n => obtain ⟨o, _, _, _, e, _⟩ := x; exact ⟨_, e⟩
  | ins C dx fs => obtain ⟨_, _, _, e, _⟩ := x; exact ⟨_, e⟩
  | own y => obtain ⟨_, e⟩ := x; exact ⟨_, e⟩
  | xd fs => obtain ⟨_, ⟨_, _, _, e, _⟩, _⟩ := x; exact ⟨_, e⟩
  | rng lo hi => obtain ⟨_, _, _, e⟩ := x; exact ⟨_, e⟩
  | frz ob u => obtain ⟨e, _⟩ := x; exact ⟨_, e⟩
  | tbl ps => exact ⟨_, (show h.get? a = some _ from x)⟩
  | met f y => exact ⟨_, (show h.get? a = some _ from x)⟩
  | ext φ => obtain ⟨_, ⟨_, e⟩, _⟩ := x; exact ⟨_, e⟩
theorem HOk.gone {P : Program} {w : World} {H : Hp} {h : Heap} {a : Addr} (x : HOk P w H h) (e : h.get? a = none) : H a = none := by
  cases q : H a with
  | none => rfl
  | some o => obtain ⟨ob, z⟩ := (x a o q).there; rw [e] at z; cases z

/-- an exception in flight, as a caller finds it: it and its trace are new, nothing tracked -/
structure Flight (base g : Heap) (H : Hp) (l : List Env) (ea c : Addr) (h : Heap) : Prop where
  fly : ∃ a0, Heap.FlyingW base l ea (.ref c) a0 h
  new : g.get? ea = none
  un : H ea = none
  tr : ∀ oe vs T, h.get? ea = some oe → oe.data = .fields vs → vs[1]? = some (.ref T) → H T = none ∧ g.get? T = none
def CXe (P : Program) (w : World) (base : Heap) : CXT := fun outer H s E ev s' => ∃ (ea c : Addr) (H' : Hp), ev = .ref ea ∧ s'.os = s.os ∧ AllBare s'.gens ∧ Un (frs outer) [] H H' s.heap s'.heap ∧ HOk P w H' s'.heap ∧ Flight base s.heap H' outer ea c s'.heap ∧ E (.ref c) none H'

section
variable {P : Program} {w : World} {K : PySem.W.Frag} {mg : Str → Option Value} {base : Heap} {N : List Str} {qual : Str} {scope : Scope} {f : Addr} {cd : Value} {A : Around} {outer : List Env} {s : Shared} {H : Hp} {E : XK}
abbrev cxE (P : Program) (w : World) (K : PySem.W.Frag) (mg : Str → Option Value) (base : Heap) (N : List Str) (qual : Str) (scope : Scope) (f : Addr) (cd : Value) (A : Around) (outer : List Env) (s : Shared) (H : Hp) (E : XK) : Cx :=
  cxOf (CXe P w base) P w K mg base N qual scope f cd A outer s H E

/-- what is left of a frame that an exception leaves -/
theorem flown {pins : List (Addr × Obj)} {σ : St} {H1 : Hp} {s1 : Shared} {h' B : Heap} {ea c : Addr} {a0 : Value} {hid : List Addr} (J : Inv (cxE P w K mg base N qual scope f cd A outer s H E) pins σ H1 s1)
    (hB : ∀ b o, s1.heap.get? b = some o → b ∉ frs (envOfC qual scope s.heap.objs.size f cd :: outer) → b ∉ hid → (H1 b ≠ none ∨ ∃ o', s.heap.get? b = some o') → B.get? b = some o) (hbB : base.StaysIn B)
    (hh : ∀ b ∈ hid, H1 b = none ∧ s.heap.get? b = none) (hT : ∀ b, B.get? b = none → b ∉ frs (envOfC qual scope s.heap.objs.size f cd :: outer) → H1 b = none ∧ s.heap.get? b = none)
    (hea : s.heap.get? ea = none) (huea : H1 ea = none) (F : Heap.FlyingW B outer ea (.ref c) a0 h') (hsl : s1.heap.UpToSlots h') (q : E (.ref c) none H1) :
    CXe P w base outer H s E (.ref ea) { s1 with heap := h' } := by
  have fsF : ∀ b ∈ frs outer, ∃ o, s1.heap.get? b = some o ∧ ∀ vs, o.data ≠ .fields vs := fun b hb => (J.funs.mem hb).2
  have oldL : ∀ b o, s.heap.get? b = some o → b ≠ s.heap.objs.size := fun b o e => Nat.ne_of_lt (Heap.lt_size e)
  have stk : ∀ b, b ∈ frs (envOfC qual scope s.heap.objs.size f cd :: outer) → b = s.heap.objs.size ∨ b ∈ frs outer := fun b hb => by
    have hb' : b ∈ s.heap.objs.size :: frs outer := hb
    exact List.mem_cons.mp hb'
  have U : Un (frs outer) [] H H1 s.heap s1.heap := J.base
  have notHid : ∀ b o, s.heap.get? b = some o → b ∉ hid := fun b o e hb => by rw [(hh b hb).2] at e; cases e
  have keepH : ∀ b o, H1 b ≠ none → s1.heap.get? b = some o → h'.get? b = some o := fun b o hn e => by
    refine F.1 b o (hB b o e (fun hb => ?_) (fun hb => hn (hh b hb).1) (.inl hn))
    exact hn (J.stkFree b hb)
  refine ⟨ea, c, H1, rfl, J.os, J.bare, ⟨fun b o e n hb hx => ?_, fun b o e n hb hx => ?_, U.free, fun b o e hx => ?_, U.tups, U.frzs, U.tbls⟩, fun b ob e => ?_, ⟨⟨a0, ?_⟩, hea, huea, fun oe vs T h1 h2 h3 => ?_⟩, q⟩
  · refine F.1 b o (hB b o (U.keep b o e n hb hx) (fun z => ?_) (notHid b o e) (.inr ⟨o, e⟩))
    rcases stk b z with z | z
    · exact oldL b o e z
    · exact hb z
  · obtain ⟨sl, e1⟩ := U.slot b o e n hb hx
    obtain ⟨o2, e2, nf⟩ := fsF b hb
    rw [e1] at e2
    obtain ⟨sl', e3⟩ := hsl b _ e1 (by cases e2; exact nf)
    exact ⟨sl', e3⟩
  · obtain ⟨o', e1⟩ := U.there b o e hx
    by_cases hb : b ∈ frs outer
    · obtain ⟨o2, e2, nf⟩ := fsF b hb
      obtain ⟨sl', e3⟩ := hsl b _ e2 nf
      exact ⟨_, e3⟩
    · refine ⟨o', F.1 b o' (hB b o' e1 (fun z => ?_) (notHid b o e) (.inr ⟨o, e⟩))⟩
      rcases stk b z with z | z
      · exact oldL b o e z
      · exact hb z
  · refine (J.hok b ob e).stay (fun x v hx q => keepH x v ?_ q) (fun _ q => q) fun _ _ q => q
    rcases hx with rfl | hx
    · rw [e]; intro z; cases z
    · rw [hx]; intro z; cases z
  · exact PySem.W.flyingW_base hbB F
  · obtain ⟨_, _, ff, oe', vs', T', oT, ts, k1, k2, k3, k4, k5, k6, k7, k8, k9⟩ := F
    rw [show ({ s1 with heap := h' } : Shared).heap.get? ea = h'.get? ea from rfl, k1] at h1
    cases h1
    rw [k3] at h2
    cases h2
    rw [k4] at h3
    cases h3
    refine hT T k5 fun hb => ?_
    rcases stk T hb with z | z
    · obtain ⟨m, ⟨oL, es, ep, hoL, hdL, _⟩, _⟩ := J.loc
      obtain ⟨sl, e3⟩ := hsl s.heap.objs.size oL hoL fun vs zz => by rw [hdL] at zz; cases zz
      rw [← z, k7] at e3
      cases e3
      rw [show oL.data = _ from k8] at hdL
      cases hdL
    · obtain ⟨o2, e2, nf⟩ := fsF T z
      obtain ⟨sl, e3⟩ := hsl T o2 e2 nf
      rw [k7] at e3
      cases e3
      exact nf ts k8

theorem frs_in {l : List Env} : ∀ env ∈ l, ∀ a, env.frame = some a → a ∈ frs l := fun env he a ha => List.mem_filterMap.mpr ⟨env, he, ha⟩
/-- a def's context takes exceptions: made here -/
theorem xe_made {pins : List (Addr × Obj)} {σ : St} {H1 : Hp} {s2 : Shared} {h1 : Heap} {ea C : Addr} {vs : List Value} (J : Inv (cxE P w K mg base N qual scope f cd A outer s H E) pins σ H1 s2) (hx : Heap.MadeExcOf s2.heap h1 ea (.ref C) vs) (q : E (.ref C) none H1) :
    (cxE P w K mg base N qual scope f cd A outer s H E).xe (.ref ea) { s2 with heap := h1 } := by
  have J1 : Inv (cxE P w K mg base N qual scope f cd A outer s H E) pins σ H1 { s2 with heap := h1 } := J.kept (t' := s2.toks) hx.keeps
  have fr := J.stack
  have hcov := frs_in (l := envOfC qual scope s.heap.objs.size f cd :: outer)
  refine wpAny_leaves_madeW (base := PySem.W.hideAll s2.heap (frs (envOfC qual scope s.heap.objs.size f cd :: outer))) (outer := outer) (L := s.heap.objs.size) J.ok.frames rfl (fun b o e => PySem.W.of_hideAll _ e) (PySem.W.funFrames_hide fr hcov) hx fun h' t F ht hbt hsl => ?_
  have gone2 : ∀ b, s2.heap.get? b = none → H1 b = none ∧ s.heap.get? b = none := fun b e => by
    refine ⟨J.hok.gone e, ?_⟩
    cases q : s.heap.get? b with
    | none => rfl
    | some o => obtain ⟨o', z⟩ := J.base.there b o q (by simp [cxOf]); rw [e] at z; cases z
  refine flown (B := PySem.W.hideAll s2.heap (frs (envOfC qual scope s.heap.objs.size f cd :: outer))) (hid := []) J1 (fun b o e hb _ hor => ?_) (fun b o e => ?_) (fun b z => by cases z) (fun b e hb => ?_) (gone2 ea hx.new).2 (gone2 ea hx.new).1 F hsl q
  · have ho2 : ∃ o2, s2.heap.get? b = some o2 := by
      rcases hor with z | ⟨o', z⟩
      · cases q2 : H1 b with
        | none => exact absurd q2 z
        | some u => exact (J.hok b u q2).there
      · exact J.base.there b o' z (by simp [cxOf])
    obtain ⟨o2, e2⟩ := ho2
    have e3 := hx.keeps b o2 e2
    rw [show ({ s2 with heap := h1 } : Shared).heap.get? b = h1.get? b from rfl, e3] at e
    cases e
    exact PySem.W.hideAll_get _ e2 hb
  · refine PySem.W.hideAll_get _ (J.bk b o e) fun hb => ?_
    have z : base.get? b = none := (fr.mem hb).1
    rw [show base.get? b = some o from e] at z; cases z
  · refine gone2 b ?_
    cases q2 : s2.heap.get? b with
    | none => rfl
    | some o => rw [PySem.W.hideAll_get _ q2 hb] at e; cases e
/-- .. coming from a callee -/
theorem xe_call : Passes (CXe P w base) (cxE P w K mg base N qual scope f cd A outer s H E) E := by
  intro pins σ H0 s0 ev s1 I h
  obtain ⟨ea, c, H1, rfl, hos, hba, U, hok, ⟨⟨a0, F⟩, hnew, hun, htr⟩, q⟩ := h
  have J : Inv (cxE P w K mg base N qual scope f cd A outer s H E) pins σ H1 s1 := I.call' (ch := []) hos U hok hba fun b hb => by cases hb
  obtain ⟨f1, f2, f3, oe, vs, T, oT, ts, k1, k2, k3, k4, k5, k6, k7, k8, k9⟩ := F
  have hT := htr oe vs T k1 k3 k4
  have fr := J.stack
  have entry : ∀ b, s0.heap.get? b = none → s.heap.get? b = none := fun b e => by
    cases q : s.heap.get? b with
    | none => rfl
    | some o => obtain ⟨o', z⟩ := I.base.there b o q (by simp [cxOf]); rw [e] at z; cases z
  have hcov : ∀ env ∈ (envOfC qual scope s.heap.objs.size f cd :: outer), ∀ a, env.frame = some a → a ∈ frs (envOfC qual scope s.heap.objs.size f cd :: outer) ++ [ea, T] := fun env he a ha => List.mem_append_left _ (frs_in env he a ha)
  have FB : Heap.FlyingW (PySem.W.hideAll s1.heap (frs (envOfC qual scope s.heap.objs.size f cd :: outer) ++ [ea, T])) (envOfC qual scope s.heap.objs.size f cd :: outer) ea (.ref c) a0 s1.heap :=
    ⟨fun b o e => PySem.W.of_hideAll _ e, PySem.W.hideAll_none _ (by simp), PySem.W.funFrames_hide fr hcov, oe, vs, T, oT, ts, k1, k2, k3, k4, PySem.W.hideAll_none _ (by simp), k6, k7, k8, k9⟩
  refine wpAny_leaves_onW (outer := outer) (L := s.heap.objs.size) J.ok.frames rfl FB fun h' F' hsl => ?_
  have gone1 : ∀ b, s1.heap.get? b = none → H1 b = none ∧ s.heap.get? b = none := fun b e => by
    refine ⟨J.hok.gone e, ?_⟩
    cases q : s.heap.get? b with
    | none => rfl
    | some o => obtain ⟨o', z⟩ := J.base.there b o q (by simp [cxOf]); rw [e] at z; cases z
  have hid : ∀ b ∈ [ea, T], H1 b = none ∧ s.heap.get? b = none := fun b hb => by
    rcases List.mem_cons.mp hb with z | z
    · rw [z]; exact ⟨hun, entry ea hnew⟩
    · rw [List.mem_singleton.mp z]; exact ⟨hT.1, entry T hT.2⟩
  refine flown (hid := [ea, T]) J (fun b o e hb hb2 _ => PySem.W.hideAll_get _ e fun z => (List.mem_append.mp z).elim hb hb2) (fun b o e => ?_) hid (fun b e hb => ?_) (entry ea hnew) hun F' hsl q
  · refine PySem.W.hideAll_get _ (J.bk b o e) fun hb => ?_
    rcases List.mem_append.mp hb with hb | hb
    · have z : base.get? b = none := (fr.mem hb).1
      rw [show base.get? b = some o from e] at z; cases z
    · rcases List.mem_cons.mp hb with z | z
      · rw [z] at e; rw [show base.get? ea = some o from e] at f2; cases f2
      · rw [List.mem_singleton.mp z] at e; rw [show base.get? T = some o from e] at k5; cases k5
  · by_cases hb2 : b ∈ [ea, T]
    · exact hid b hb2
    · refine gone1 b ?_
      cases q2 : s1.heap.get? b with
      | none => rfl
      | some o => rw [PySem.W.hideAll_get _ q2 fun z => (List.mem_append.mp z).elim hb hb2] at e; cases e
end
end L2

set_option Elab.async false
set_option linter.all false
set_option maxRecDepth 100000
namespace L2
open PySem PySem.Spec PyProof.Rows

/-- a context takes the exceptions that E wants -/
structure XCall (X : Cx) (E : XK) : Prop where
  call : Passes (CXe X.prog X.w X.base) X E
  own : PassesOwn (model X.prog X.w) X.A X.env X.xe
structure XOk (X : Cx) (E : XK) : Prop extends XCall X E where
  made : ∀ pins σ H s h' ea C vs, Inv X pins σ H s → Heap.MadeExcOf s.heap h' ea (.ref C) vs → E (.ref C) none H → X.xe (.ref ea) { s with heap := h' }
theorem xok_def {P : Program} {w : World} {K : PySem.W.Frag} {mg : Str → Option Value} {base : Heap} {N : List Str} {qual : Str} {scope : Scope} {f : Addr} {cd : Value} {A : Around} {outer : List Env} {s : Shared} {H : Hp} {E : XK} :
    XOk (cxE P w K mg base N qual scope f cd A outer s H E) E := ⟨⟨xe_call, PassesOwn.leaving⟩, fun _ _ _ _ _ _ _ _ J hx q => xe_made J hx q⟩
theorem xok_no {X : Cx} (h : X.xe = fun _ _ => False) : XOk X E0 := ⟨⟨fun _ _ _ _ _ _ _ h => by obtain ⟨_, _, _, _, _, _, _, _, _, q⟩ := h; exact q.elim, by rw [h]; exact PassesOwn.never⟩, fun _ _ _ _ _ _ _ _ _ _ q => q.elim⟩
def wxOf (K : PySem.W.Frag) (E : XK) : Str → Hp → Prop := fun x H => ∃ c, PySem.W.nsIn K mainGlobals x = some (some (.ref c)) ∧ E (.ref c) none H
section
variable {P : Program} {w : World} {K : PySem.W.Frag} {mg : Str → Option Value} {base : Heap}
end
section
variable {X : Cx} {E : XK} {WX : Str → Hp → Prop} {c : Bool} {e : Expr} {es : List Expr} {fs : Rho → M (List D)} {f : Rho → M D} {ft : Rho → M Bool} {pos : Pos}
/-! raise -/
end
end L2

set_option Elab.async false
set_option linter.all false
set_option maxRecDepth 100000
namespace L2
open PySem PySem.Spec PySem.Calls PyProof.Rows PySem.W PySem.Builtin PySem.Builtin.ObjectAttr PySem.Builtin.Getset_descriptor
/-! ### exceptions as objects: `isinstance(e, C)`, `except C` -/
section
variable {K : Frag} {x D : Addr} {name : Str}
variable {prog : Program} {w : World} {A : Around} {E : Value → Shared → Prop} {s : Shared}
end
/-! isinstance(e, C) of an exception -/
section
variable {X : Cx} {WX : Str → Hp → Prop} {c : Bool} {e : Expr} {f : Rho → M D} {pos p : Pos}
end
/-! `except C`, C an own class -/
end L2

set_option Elab.async false
set_option linter.all false
set_option maxRecDepth 100000
namespace L2
open PySem PySem.Spec PyProof.Rows
/-! ### try: .. except C as e: .. -/
section
variable {X : Cx} {pins pins' : List (Addr × Obj)} {σ : St} {H0 H1 H : Hp} {s s0 s1 : Shared} {h4 : Heap} {ea T c : Addr}
theorem EnvP.drop {K : PySem.W.Frag} {P0 : P0T} {P : Addr → Prop} {ρ : Rho} (E : EnvP K P0 P H σ ρ) (i : Nat) : EnvP K P0 P H (σ.set i none) (ρ.set i none) := by
  have key : ∀ (j : Nat) (cl : Cl), (ρ.set i none)[j]? = some (some cl) → i ≠ j ∧ ρ[j]? = some (some cl) := fun j cl h => by
    rcases get_set h with ⟨_, _, z⟩ | z
    · cases z
    · exact z
  refine ⟨E.sub, E.trk, fun j d h => ?_, fun j ds h io => ?_, fun j k c c' v v' fp fp' h1 h2 h3 h4 h5 h6 hne => ?_, by simpa using E.len, fun j c n h hp => by obtain ⟨n1, h⟩ := key j _ h; rw [List.getElem?_set_ne n1]; exact E.pin j c n h hp⟩
  · obtain ⟨n, h⟩ := key j _ h
    rw [List.getElem?_set_ne n]
    exact E.val j d h
  · obtain ⟨n, h⟩ := key j _ h
    rw [List.getElem?_set_ne n]
    exact E.ows j ds h io
  · obtain ⟨n1, h1⟩ := key j _ h1
    obtain ⟨n2, h2⟩ := key k _ h2
    rw [List.getElem?_set_ne n1] at h3
    rw [List.getElem?_set_ne n2] at h4
    exact E.apart j k c c' v v' fp fp' h1 h2 h3 h4 h5 h6 hne
end
end L2

set_option Elab.async false
set_option linter.all false
set_option maxRecDepth 100000
namespace L2
open PySem PySem.Spec PyProof.Rows
section
variable {X : Cx} {WX : Str → Hp → Prop} {c : Bool} {a b e : Expr} {f g : Rho → M D} {pos p : Pos}
/-! list + list -/
def rCatS (K : PySem.W.Frag) : R2 := fun x y H Q => ∃ l b xs zs, x = .ref l ∧ y = .ref b ∧ SqL K H l xs ∧ SqL K H b zs ∧ xs.length + zs.length ≤ sizeLine ∧ ∀ p, H p = none → Q (.ref p) (upd H p (.lst (xs ++ zs)))
theorem op_catS : OpR X (binaryOp .Add) (rCatS X.K) := by
  intro pins s σ H x y v u Q I rx ry h
  obtain ⟨l, b, xs, zs, rfl, rfl, h1, h2, hz, q⟩ := h
  cases rx
  cases ry
  obtain ⟨its, r, ⟨⟨c1, d1, t1, sl1⟩, n, e1, q1, q2, q3⟩, hz1⟩ := I.list h1
  obtain ⟨its2, r2, ⟨⟨c2, d2, t2, sl2⟩, n2, e2, q4, q5, q6⟩, hz2⟩ := I.list h2
  dsimp only at q1 q2 q3 q4 q5 q6
  subst q1 q2 q3 q4 q5 q6
  have l1 := r.length
  have l2 := r2.length
  refine concat_meets ⟨_, e1, rfl⟩ ⟨_, e2, rfl⟩ noFill_list_add seq_list_add PySem.F.slot_list_add PySem.F.entry_list_add (PySem.F.args_list_add_2 _ _) (list_addW l b its.toArray its2.toArray n n2 none none sl1 sl2 (by rw [List.size_toArray, List.size_toArray]; omega)) ⟨e1, e2, ?_⟩
  rw [show its.toArray ++ its2.toArray = (its ++ its2).toArray by simp]
  exact ⟨.ref _, _, I.lnew (t' := s.toks) (r.append r2) (by rw [List.length_append]; omega), rfl, q _ I.fresh⟩
theorem HasL.app {K : PySem.W.Frag} {H : Hp} : ∀ {xs ys : List V} {ds es : List D}, HasL K H xs ds → HasL K H ys es → HasL K H (xs ++ ys) (ds ++ es)
  | _, _, _, _, .nil, h => h
  | _, _, _, _, .cons a t, h => .cons a (t.app h)
/-! in, not in: a list of ints -/
def dIn (neg : Bool) (x y : D) : M D := match x, y with
  | .int i, .lst ds => (match intsD ds with | some ns => .ok (.bl (if neg then !ns.contains i else ns.contains i)) | none => .bad)
  | _, _ => .bad
end
/-! own exception classes of the text -/
def one (x : Str) (b : Bool) : Str → Option Bool := fun y => if y = x then some b else none
section
variable {X : Cx} {E : XK} {WX : Str → Hp → Prop} {c : Bool} {e : Expr} {f : Rho → M D} {pos p : Pos}
end
end L2

set_option Elab.async false
set_option linter.all false
set_option maxRecDepth 100000
namespace L2
open PySem PySem.Spec PyProof.Rows
/-- a product of numbers that are not too long -/
def CMulB (i j : Int) : Prop := (i.natAbs < 2 ^ 1000 ∧ j.natAbs < 2 ^ 1000) ∨ CMul i j
instance (i j : Int) : Decidable (CMulB i j) := by unfold CMulB; infer_instance
theorem bits_1000 {i : Int} (h : i.natAbs < 2 ^ 1000) : Builtin.Int.intBits i ≤ 2 ^ 20 := by
  unfold Builtin.Int.intBits
  split
  · exact Nat.zero_le _
  · rename_i z
    have h0 : i.natAbs ≠ 0 := fun q => z (by rw [Int.natAbs_eq_zero.mp q]; rfl)
    have := (Nat.log2_lt h0).mpr h
    have h3 : (1000 : Nat) ≤ 2 ^ 20 := by decide
    exact Nat.le_trans this h3
theorem CMulB.ok {i j : Int} (h : CMulB i j) : IntMulOk i j := by
  rcases h with ⟨h1, h2⟩ | h
  · exact IntMulOk.of_bits (bits_1000 h1) (bits_1000 h2)
  · exact h.ok
theorem intsD_map (ns : List Int) : intsD (ns.map D.int) = some ns := by
  induction ns with
  | nil => rfl
  | cons n r ih => rw [List.map_cons, intsD, ih]; rfl
end L2

set_option Elab.async false
set_option linter.all false
set_option maxRecDepth 100000
namespace L2
open PySem PySem.Spec PyProof.Rows

/-! ### plain data: how deep, and no exception within -/
def Pl (n : Nat) (d : D) : Prop := dep d ≤ n ∧ noX d = true
theorem pl_int {n : Nat} (i : Int) : Pl n (.int i) := ⟨by rw [dep]; exact Nat.zero_le _; all_goals simp, by rw [noX]; all_goals simp⟩
theorem dEq_pl {n : Nat} {x y : D} (h : Pl n x) (k : Pl n y) : dEq n x y = .ok (.bl (eqD x y)) := by
  unfold dEq
  rw [if_pos ⟨h.1, h.2, k.2⟩]
theorem dNe_pl {n : Nat} {x y : D} (h : Pl n x) (k : Pl n y) : dNe n x y = .ok (.bl (!eqD x y)) := by
  unfold dNe
  rw [if_pos ⟨h.1, h.2, k.2⟩]
theorem dSl_mid (ds : List D) (a b : Nat) : dSl (some (a : Int)) (some (b : Int)) (.lst ds) = .ok (.lst ((ds.drop a).take (b - a))) := by
  unfold dSl
  dsimp only
  rw [HT.sIx_nat, HT.sIx_nat]
  congr 2
  by_cases h : a ≤ ds.length
  · rw [Nat.min_eq_left h]
    by_cases h2 : b ≤ ds.length
    · rw [Nat.min_eq_left h2]
    · rw [Nat.min_eq_right (by omega), List.take_of_length_le (by rw [List.length_drop]; exact Nat.le_refl _), List.take_of_length_le (by rw [List.length_drop]; omega)]
  · rw [Nat.min_eq_right (show ds.length ≤ a by omega), List.drop_of_length_le (Nat.le_refl _), List.drop_of_length_le (show ds.length ≤ a by omega), List.take_nil, List.take_nil]
end L2

set_option Elab.async false
set_option linter.all false
set_option maxRecDepth 100000
namespace L2
open PySem PySem.Spec PyProof.Rows

section
variable {X : Cx} {WX : Str → Hp → Prop} {c : Bool} {P0 : P0T} {P : Addr → Prop} {H : Hp} {σ : St} {ρ : Rho} {a b e : Expr} {f g : Rho → M D} {ft gt : Rho → M Bool} {pos : Pos} {st : Stmt} {rest : List Stmt} {g1 g2 : Rho → M Out}
/-! ### while -/
def whileM (c : Rho → M Bool) (b : Rho → M Out) : Nat → Rho → M Out
  | 0, _ => .bad
  | n + 1, ρ => match c ρ with
    | .ok true => (match b ρ with
      | .ok (.next ρ') => whileM c b n ρ'
      | .ok (.cont ρ') => whileM c b n ρ'
      | .ok (.brk ρ') => .ok (.next ρ')
      | r => r)
    | .ok false => .ok (.next ρ)
    | .ex x => .ex x
    | .bad => .bad
/-- a while loop: what some number of turns tells -/
noncomputable def loopM (c : Rho → M Bool) (b : Rho → M Out) (ρ : Rho) : M Out :=
  @dite _ (∃ n, whileM c b n ρ ≠ .bad) (Classical.propDecidable _) (fun h => whileM c b (Classical.choose h) ρ) (fun _ => .bad)
theorem whileM_more {c : Rho → M Bool} {b : Rho → M Out} : ∀ {n : Nat} {ρ : Rho}, whileM c b n ρ ≠ .bad → ∀ m, whileM c b (n + m) ρ = whileM c b n ρ
  | 0, ρ, h, m => (h rfl).elim
  | n + 1, ρ, h, m => by
    rw [show n + 1 + m = (n + m) + 1 by omega]
    rw [whileM] at h
    rw [whileM, whileM]
    cases q : c ρ with
    | bad => rfl
    | ex x => rfl
    | ok k =>
      rw [q] at h
      cases k with
      | false => rfl
      | true =>
        dsimp only at h ⊢
        cases q2 : b ρ with
        | bad => rfl
        | ex x => rfl
        | ok o =>
          rw [q2] at h
          cases o with
          | next ρ' => dsimp only at h ⊢; exact whileM_more h m
          | cont ρ' => dsimp only at h ⊢; exact whileM_more h m
          | brk ρ' => rfl
          | ret d => rfl
          | retO d => rfl
          | retE d ρ2 => rfl
theorem loopM_of {c : Rho → M Bool} {b : Rho → M Out} {n : Nat} {ρ : Rho} (h : whileM c b n ρ ≠ .bad) : loopM c b ρ = whileM c b n ρ := by
  unfold loopM
  have hx : ∃ n, whileM c b n ρ ≠ .bad := ⟨n, h⟩
  rw [dif_pos hx]
  have hc := Classical.choose_spec hx
  have e1 := whileM_more h (Classical.choose hx)
  have e2 := whileM_more hc n
  rw [Nat.add_comm] at e2
  rw [← e1, e2]
theorem loopM_bad {c : Rho → M Bool} {b : Rho → M Out} {ρ : Rho} (h : loopM c b ρ ≠ .bad) : ∃ n, whileM c b n ρ ≠ .bad ∧ loopM c b ρ = whileM c b n ρ := by
  by_cases hx : ∃ n, whileM c b n ρ ≠ .bad
  · obtain ⟨n, hn⟩ := hx
    exact ⟨n, hn, loopM_of hn⟩
  · exact (h (by unfold loopM; rw [dif_neg hx])).elim
theorem gS_nb {K : PySem.W.Frag} {Z : Ends} {m : M Out} (h : gS K WX P0 P H Z m) : m ≠ .bad := fun e => by rw [e] at h; exact h
theorem ds_while {body : List Stmt} (hp : PassesOwn (model X.prog X.w) X.A X.env X.xe) (hc : DT X WX a ft) (hb : DSs X WX body g1) : DS X WX (.While a body [] pos) (loopM ft g1) := by
  obtain ⟨tc, c1, c2⟩ := hc
  obtain ⟨tb, b1, b2⟩ := hb
  refine ⟨_, ps_while hp c1 b1, fun P0 P σ H Z ρ E h => ?_⟩
  obtain ⟨n, hn, en⟩ := loopM_bad (gS_nb h)
  rw [en] at h
  refine ⟨fun m σ' H' => ∃ ρ' P', EnvP X.K P0 P' H' σ' ρ' ∧ Tr P0 P H P' H' ∧ gS X.K WX P0 P' H' Z (whileM ft g1 m ρ'), ⟨n, ρ, P, E, Tr.refl, h⟩, ?_⟩
  rintro m σ1 H1 ⟨ρ1, P1, E1, t1, h1⟩
  cases m with
  | zero => exact h1.elim
  | succ m =>
    rw [whileM] at h1
    refine c2 P0 P1 σ1 H1 _ ρ1 E1 ?_
    cases q : ft ρ1 with
    | bad => rw [q] at h1; exact h1
    | ex x => rw [q] at h1; exact fun H2 s2 => h1 H2 P1 (E1.tr s2)
    | ok k =>
      rw [q] at h1
      intro H2 s2
      have E2 := E1.same s2
      cases k with
      | false =>
        rw [if_neg (by simp)]
        exact h1 σ1 H2 P1 (E1.tr s2) E2
      | true =>
        rw [if_pos rfl]
        dsimp only at h1
        refine ⟨fun σ' H' => ∃ ρ' P', EnvP X.K P0 P' H' σ' ρ' ∧ Tr P0 P H P' H' ∧ gS X.K WX P0 P' H' Z (whileM ft g1 m ρ'), fun σ' H' z => ⟨m, Nat.lt_succ_self m, z⟩, ?_⟩
        refine b2 P0 P1 σ1 H2 _ ρ1 E2 ?_
        cases q2 : g1 ρ1 with
        | bad => rw [q2] at h1; exact h1
        | ex x => rw [q2] at h1; exact fun H3 P3 t3 => h1 H3 P3 ((E1.tr s2).trans t3)
        | ok o =>
          rw [q2] at h1
          have t2 := t1.trans (E1.tr s2)
          cases o with
          | next ρ' => exact fun σ3 H3 P3 t3 E3 => ⟨ρ', P3, E3, t2.trans t3, h1.tr ((E1.tr s2).trans t3)⟩
          | cont ρ' => exact fun σ3 H3 P3 t3 E3 => ⟨ρ', P3, E3, t2.trans t3, h1.tr ((E1.tr s2).trans t3)⟩
          | brk ρ' => exact fun σ3 H3 P3 t3 E3 => h1 σ3 H3 P3 ((E1.tr s2).trans t3) E3
          | ret d => exact fun v H3 P3 t3 hv => h1 v H3 P3 ((E1.tr s2).trans t3) hv
          | retO d => exact fun v fp H3 P3 t3 => h1 v fp H3 P3 ((E1.tr s2).trans t3)
          | retE d ρ2 => exact fun v fp σ3 H3 P3 t3 => h1 v fp σ3 H3 P3 ((E1.tr s2).trans t3)
/-! ### int(..), all(..), any(..) -/
def boolsD : List D → Option (List Bool)
  | [] => some []
  | .bl b :: r => (boolsD r).map (b :: ·)
  | _ => none
theorem boolsD_map (bs : List Bool) : boolsD (bs.map D.bl) = some bs := by
  induction bs with
  | nil => rfl
  | cons b r ih => rw [List.map_cons, boolsD, ih]; rfl
def dAll (ds : List D) : M D := match ds with
  | [.lst xs] => (match boolsD xs with | some bs => .ok (.bl (bs.all id)) | none => .bad)
  | _ => .bad
end
end L2

set_option Elab.async false
set_option linter.all false
set_option maxRecDepth 100000
namespace PySem
namespace F
end F
section
variable {prog : Program} {w : World} {A : Around} {E : Value → Shared → Prop} {s : Shared}
end
end PySem
namespace PySem
section
variable {prog : Program} {w : World} {A : Around} {E : Value → Shared → Prop} {s : Shared}
end
end PySem
namespace L2
open PySem PySem.Spec PyProof.Rows
section
variable {X : Cx} {WX : Str → Hp → Prop} {c : Bool} {P0 : P0T} {P : Addr → Prop} {H : Hp} {σ : St} {ρ : Rho} {e : Expr} {f : Rho → M D} {pos : Pos} {te : TE}
end
end L2

set_option Elab.async false
set_option linter.all false
set_option maxRecDepth 100000
/-! ### a script's numbers are of at most 2 ** 20 bits -/
namespace L2
open PySem PySem.Spec PyProof.Rows
/-- a number as a script may hold one -/
def Sm (n : Int) : Prop := Builtin.Int.intBits n ≤ 2 ^ 20
theorem sm_all : ∀ {ns : List Int}, W.WData.weightAll (ns.map W.WData.int) ≤ 2 ^ 20 → ∀ n ∈ ns, Sm n
  | m :: r, h, n, hn => by
    rw [List.map_cons, W.WData.weightAll, W.WData.weight] at h
    rcases List.mem_cons.mp hn with rfl | hn
    · unfold Sm Builtin.Int.intBits
      omega
    · exact sm_all (by omega) n hn
theorem sm_of {ns : List Int} (h : W.WData.layableAll [W.WData.list (ns.map W.WData.int)] = true) : ∀ n ∈ ns, Sm n := by
  unfold W.WData.layableAll at h
  rw [List.all_cons, Bool.and_eq_true] at h
  have h1 := h.1
  unfold W.WData.layable at h1
  rw [Bool.and_eq_true, decide_eq_true_eq, W.WData.weight] at h1
  exact sm_all h1.2
end L2
namespace HT
open PySem PySem.W PyProof.Rows Spec Calls Att
theorem attach_sm {l : OpenLaw} {n : Nat} {q : Program} {loose : List Str} {XP : (Str → Option Value) → Heap → Prop} {YP : World → Heap → Prop} {d : DefRec}
    (hn : l.most = some n) (hdf : d.params.defaults = [])
    (run : ∀ (w : World) (s₀ s₁ : Shared) (mg mb : Str → Option Value) (fa : Addr) (o : Obj) (pm cd doc : Value) (a : Addr) (vs : List Value) (ns : List Int), (∀ n ∈ ns, L2.Sm n) →
      Ground q loose [] XP w s₀ mg mb s₁.heap → YP w s₁.heap → s₁.heap.get? fa = some o → o.data = .func (docDef d.name d.params d.body d.scope pm cd doc) → s₁.heap.CodeRec cd d.name → mg d.name = some (.ref fa) →
      s₁.heap.get? a = some { cls := .type "list", data := .seq vs.toArray } → IntsAre vs ns → ns.length ≤ n → s₁.gens = #[] →
      codeAny (model l.prog w) callerA (.call (.ref fa) ⟨[.ref a], []⟩) (fun r s' => r = .ok (.ret (.bool true)) ∧ OldK s₁.heap s'.heap ∧ s'.os = s₁.os ∧ AllBare s'.gens) s₁) :
    WalkO q loose XP YP l.row.toRowW d [] (fun f vs => PySem.call f vs) := by
  intro w s₀ s₁ mg mb G Y fa o pm cd doc dV kV ho hd hcd hD hmg hg args vals as hpre hlay hrd hwl hlo
  obtain rfl : dV = .none := Dflts.none hD hdf
  obtain rfl : kV = .none := Dflts.noKw hD
  obtain ⟨a, vs, ns, rfl, rfl, hobj, hints, hlen⟩ := script_of hn hpre hwl
  refine enter_call (codeAny_mono (run w s₀ s₁ mg mb fa o pm cd doc a vs ns (L2.sm_of hlay) G Y ho (fd_plain hd) hcd hmg hobj hints hlen hg) fun r s' hq => ?_)
  obtain ⟨rfl, h2, h3, h4⟩ := hq
  exact ⟨.inl ⟨.bool true, .bool true, [], rfl, fun _ => rfl, .bool true, post_true l _, fun _ => ⟨List.Pairwise.nil, fun _ hm => (nomatch hm)⟩⟩, h2, h3, h4⟩
end HT
namespace L2
open PySem PySem.Spec PyProof.Rows
theorem walk_sm {l : PySem.W.OpenLaw} {n k : Nat} {q : Program} {loose : List Str} {XP : (Str → Option Value) → Heap → Prop} {YP : World → Heap → Prop} {d : DefRec} {K : Params → PySem.W.Frag} {CX : World → CXT} {sp : World → Sp} {x : Str}
    (hn : l.most = some n) (hn2 : n ≤ sizeLine) (hdf : d.params.defaults = []) (hr : Room k callerA) (hY : ∀ (w : World) (h : Heap), YP w h → (K w.params).In h)
    (F : ∀ (w : World) (mg : Str → Option Value) (fa : Addr) (h : Heap), (K w.params).In h → h.Ns mainGlobals mg → mg d.name = some (.ref fa) → ∃ fd : FuncData, (∀ (s : Shared) (u : Value), BindsTo s fd ⟨[u], []⟩ [(x, u)]) ∧
        ∀ base : Heap, (K w.params).In base → base.Ns mainGlobals mg → FnOk l.prog w (K w.params) mg base (CX w) k fa fd [x] (sp w))
    (hsp : ∀ (w : World) (H : Hp) (a : Addr) (ns : List Int), (∀ n ∈ ns, Sm n) → ns.length ≤ n → Only H → SqL (K w.params) H a (ns.map V.int) → sp w [.ref a] H (fun v _ => v = .bl true) fun _ _ _ => False)
    (hCX : ∀ (w : World) (H : Hp) (s : Shared) (e : Value) (s' : Shared), CX w [] H s (fun _ _ _ => False) e s' → False) : PySem.W.WalkO q loose XP YP l.row.toRowW d [] (fun f vs => PySem.call f vs) := by
  refine HT.attach_sm hn hdf fun w s₀ s₁ mg mb fa o pm cd doc a vs ns hsm G Y ho hd hcd hmg hobj hints hlen hg => ?_
  have KX := hY w _ Y
  obtain ⟨fd, hb, hF⟩ := F w mg fa _ KX G.T.g hmg
  exact law_call KX G.T.g G.T.b G.T.builtins G.T.nolimit hg hobj hints (Nat.le_trans hlen hn2) hr hF hb (fun H hO hS => hsp w H a ns hsm hlen hO hS) fun H e s' => hCX w H s₁ e s'
theorem law_smM {F : List D → M D} (h : ∀ ns : List Int, ns.length ≤ 63 → (∀ n ∈ ns, Sm n) → F [.lst (ns.map D.int)] = .ok (.bl true)) (K : PySem.W.Frag) (H : Hp) (a : Addr) (ns : List Int) (hsm : ∀ n ∈ ns, Sm n) (hl : ns.length ≤ 63) (hS : SqL K H a (ns.map V.int)) : spM0 K 1 F [.ref a] H (fun v _ => v = .bl true) fun _ _ _ => False := by
  refine ⟨rfl, fun _ => False, [.lst (ns.map D.int)], fun _ z => z.elim, .cons (.lst ?_ (HasL.ints ns)) .nil, ?_⟩
  · have e : del H (fun _ => False) = H := by funext b; exact del_of (fun z => z)
    rw [e]; exact hS
  · rw [h ns hl hsm]
    exact fun v H' s hv => hv.bl_inv
/-! ### products with one great factor -/
def CMulW (i j : Int) : Prop := (Builtin.Int.intBits i ≤ 2 ^ 20 + 1 ∧ Builtin.Int.intBits j ≤ 2 ^ 10) ∨ CMulB i j
theorem mulok_sum {a b : Int} (h : Builtin.Int.intBits a + Builtin.Int.intBits b ≤ 2 ^ 21) : IntMulOk a b := by
  have e : (2 : Nat) ^ 21 = 2097152 := by decide
  have h2 : Builtin.Int.intTooBig (Builtin.Int.intBits a + Builtin.Int.intBits b) = false := by
    unfold Builtin.Int.intTooBig bitsLine
    exact decide_eq_false (by omega)
  unfold IntMulOk
  rw [h2]
  simp
theorem CMulW.ok {i j : Int} (h : CMulW i j) : IntMulOk i j := by
  rcases h with ⟨h1, h2⟩ | h
  · exact mulok_sum (by omega)
  · exact h.ok
theorem op_mulW {X : Cx} : OpR X (binaryOp .Mult) (rI CMulW fun i j => .int (i * j)) := opI fun _ _ _ _ _ _ _ hc q => mul_int q hc.ok
noncomputable instance (i j : Int) : Decidable (CMulW i j) := Classical.propDecidable _
noncomputable def dMulW := onInts fun i j => if CMulW i j then .ok (.int (i * j)) else .bad
theorem dMulW_ok {i j : Int} (h : CMulW i j) : dMulW (.int i) (.int j) = .ok (.int (i * j)) := by
  unfold dMulW onInts
  dsimp only
  rw [if_pos h]
theorem de_mulW {X : Cx} {WX : Str → Hp → Prop} {c : Bool} {a b : Expr} {f g : Rho → M D} {pos : Pos} (ha : DE X WX c a f) (hb : DE X WX c b g) : DE X WX c (.BinOp a .Mult b pos) (fun ρ => (f ρ).bind fun x => (g ρ).bind fun y => dMulW x y) := de_op op_mulW (opd_rI fun _ _ _ _ => .int _) ha hb
theorem bits_le {n : Int} {k : Nat} (h : n.natAbs < 2 ^ k) : Builtin.Int.intBits n ≤ k := by
  unfold Builtin.Int.intBits
  split
  · exact Nat.zero_le _
  · rename_i hn
    have hp : n.natAbs ≠ 0 := by simpa using hn
    exact (Nat.log2_lt hp).mpr h
end L2

set_option Elab.async false
set_option linter.all false
set_option maxRecDepth 100000
namespace L2
open PySem PySem.Spec PyProof.Rows
/-! ### a worth without a list within it holds whatever is one's own -/
mutual
def noL : D → Bool
  | .tup a => noLs a
  | .lst _ => false
  | .exn _ => false
  | .dct _ _ _ => false
  | .ins _ _ _ => false
  | _ => true
def noLs : List D → Bool
  | [] => true
  | a :: r => noL a && noLs r
end
theorem tup_own {H : Hp} {P0 P : Addr → Prop} {a : Addr} {xs : List V} (ht : ∀ a, P a → Trk H a) (h : del H P0 a = some (.tup xs)) : del H P a = some (.tup xs) := by
  obtain ⟨h1, h2⟩ := del_some h
  rw [del_of fun z => by
    obtain ⟨o', q, r⟩ := ht a z
    rw [h2] at q; cases q
    exact (r xs).1 rfl]
  exact h2
mutual
theorem Has.noL {K : PySem.W.Frag} {H : Hp} {P0 P : Addr → Prop} (ht : ∀ a, P a → Trk H a) : ∀ {v : V} {d : D}, noL d = true → Has K (del H P0) v d → Has K (del H P) v d
  | _, _, _, .non => .non
  | _, _, _, .bl b => .bl b
  | _, _, _, .int i => .int i
  | _, _, _, .str x => .str x
  | _, _, n, .tup h r => .tup (tup_own ht h) (HasL.noL ht (by rw [L2.noL] at n; exact n) r)
  | _, _, n, .lst h r => by rw [L2.noL] at n; cases n
  | _, _, n, .exn h r => by rw [L2.noL] at n; cases n
  | _, _, n, .dcK h r => by rw [L2.noL] at n; cases n
  | _, _, n, .dcT h r => by rw [L2.noL] at n; cases n
  | _, _, n, .ins _ h r => by rw [L2.noL] at n; cases n
theorem HasL.noL {K : PySem.W.Frag} {H : Hp} {P0 P : Addr → Prop} (ht : ∀ a, P a → Trk H a) : ∀ {vs : List V} {ds : List D}, noLs ds = true → HasL K (del H P0) vs ds → HasL K (del H P) vs ds
  | _, _, _, .nil => .nil
  | _, _, n, .cons h t => by
    rw [noLs, Bool.and_eq_true] at n
    exact .cons (Has.noL ht n.1 h) (HasL.noL ht n.2 t)
end
def dp (m : M D) : M D := m.bind fun d => if noL d = true then .ok d else .bad
end L2

set_option Elab.async false
set_option linter.all false
set_option maxRecDepth 100000
namespace L2
open PySem PySem.Spec PyProof.Rows
/-! ### lists of one length, made less at one place -/
section
variable {α : Type} (lt : α → α → Prop)
def LtL : List α → List α → Prop
  | y :: ys, x :: xs => (lt y x ∧ ys.length = xs.length) ∨ (y = x ∧ LtL ys xs)
  | _, _ => False
theorem LtL.len : ∀ {ys xs : List α}, LtL lt ys xs → ys.length = xs.length
  | y :: ys, x :: xs, h => by
    rcases h with ⟨_, h⟩ | ⟨_, h⟩
    · rw [List.length_cons, List.length_cons, h]
    · rw [List.length_cons, List.length_cons, LtL.len h]
  | [], [], h => h.elim
  | [], _ :: _, h => h.elim
  | _ :: _, [], h => h.elim
theorem LtL.trans (ht : ∀ a b c, lt a b → lt b c → lt a c) : ∀ {xs ys zs : List α}, LtL lt xs ys → LtL lt ys zs → LtL lt xs zs
  | x :: xs, y :: ys, z :: zs, h1, h2 => by
    rcases h1 with ⟨a, b⟩ | ⟨rfl, b⟩
    · rcases h2 with ⟨c, d⟩ | ⟨rfl, d⟩
      · exact .inl ⟨ht _ _ _ a c, b.trans d⟩
      · exact .inl ⟨a, b.trans (LtL.len lt d)⟩
    · rcases h2 with ⟨c, d⟩ | ⟨rfl, d⟩
      · exact .inl ⟨c, (LtL.len lt b).trans d⟩
      · exact .inr ⟨rfl, LtL.trans ht b d⟩
  | [], _, _, h, _ => by cases h
  | _ :: _, [], _, h, _ => by cases h
  | _ :: _, _ :: _, [], _, h => by cases h
end
end L2

set_option Elab.async false
set_option linter.all false
set_option maxRecDepth 100000
namespace L2
open PySem PySem.Spec PyProof.Rows
/-! ### a list of lists of one's own -/
section
variable {X : Cx} {WX : Str → Hp → Prop} {c : Bool} {P0 : P0T} {P : Addr → Prop} {H : Hp} {σ : St} {ρ : Rho} {a b e : Expr} {f g g2 : Rho → M D} {pos : Pos}
theorem RowsH.snoc {K : PySem.W.Frag} {H : Hp} {P : Addr → Prop} {q : Addr} {xs : List V} {ds : List D} (hq : H q = some (.lst xs)) (hx : HasL K (del H P) xs ds) : ∀ {ps : List Addr} {dss : List (List D)}, RowsH K H P ps dss → RowsH K H P (ps ++ [q]) (dss ++ [ds])
  | _, _, .nil => .cons hq hx .nil
  | _, _, .cons h r t => .cons h r (t.snoc hq hx)
theorem RowsH.set {K : PySem.W.Frag} {H H' : Hp} {P : Addr → Prop} (sm : Same (del H P) (del H' P)) {r : Addr} {xs : List V} {ds : List D} (hr : H' r = some (.lst xs)) (hx : HasL K (del H' P) xs ds) (k : ∀ a, a ≠ r → H' a = H a) : ∀ {ps : List Addr} {dss : List (List D)} {n : Nat}, ps.Nodup → ps[n]? = some r → RowsH K H P ps dss → RowsH K H' P ps (dss.set n ds)
  | _, _, _, _, e, .nil => by simp at e
  | _, _, 0, nd, e, .cons h1 h2 t => by
    simp at e; subst e
    rw [List.nodup_cons] at nd
    exact .cons hr hx (t.move sm fun a ha => k a fun z => nd.1 (by rw [← z]; exact ha))
  | q :: ps, d :: dss, n + 1, nd, e, .cons h1 h2 t => by
    rw [List.nodup_cons] at nd
    have e' : ps[n]? = some r := by simpa using e
    refine .cons ((k q fun z => nd.1 (by rw [z]; exact List.mem_of_getElem? e')).trans h1) (h2.mono sm) (t.set sm hr hx k nd.2 e')
end
end L2

set_option Elab.async false
set_option linter.all false
set_option maxRecDepth 100000
namespace L2
open PySem PySem.Spec PyProof.Rows
/-! ### min(..) of a list of ints -/
section
variable {X : Cx} {WX : Str → Hp → Prop} {c : Bool} {P0 : P0T} {P : Addr → Prop} {H : Hp} {σ : St} {ρ : Rho} {a b e : Expr} {f g g2 : Rho → M D} {pos : Pos}
theorem ints_of_vals : ∀ {ns : List Int} {us : List Value}, Vals (ns.map V.int) us → IntsAre us ns
  | [], _, .nil => .nil
  | n :: r, _, .cons h t => by obtain ⟨tk, rfl⟩ := h; exact .cons _ _ (ints_of_vals t)
theorem intsD_inv : ∀ {ds : List D} {ns : List Int}, intsD ds = some ns → ds = ns.map D.int
  | [], ns, h => by cases h; rfl
  | .int b :: r, bs, h => by
    rw [intsD] at h
    cases q : intsD r with
    | none => rw [q] at h; cases h
    | some bs' => rw [q] at h; cases h; rw [intsD_inv q]; rfl
  | .non :: r, bs, h => by cases h
  | .bl _ :: r, bs, h => by cases h
  | .str _ :: r, bs, h => by cases h
  | .tup _ :: r, bs, h => by cases h
  | .lst _ :: r, bs, h => by cases h
  | .exn _ :: r, bs, h => by cases h
  | .dct _ _ _ :: r, bs, h => by cases h
  | .ins _ _ _ :: r, bs, h => by cases h
theorem hasL_intsV {K : PySem.W.Frag} {H : Hp} : ∀ {vs : List V} {bs : List Int}, HasL K H vs (bs.map D.int) → vs = bs.map V.int
  | _, [], .nil => rfl
  | _, b :: r, .cons h t => by cases h; rw [hasL_intsV t]; rfl
end
end L2

set_option Elab.async false
set_option linter.all false
set_option maxRecDepth 100000
namespace L2
open PySem PySem.Spec PyProof.Rows
/-! ### costs -/
def addC : Option (Int × Int) → Option (Int × Int) → Option (Int × Int)
  | some p, some q => some (p.1 + q.1, p.2 + q.2)
  | _, _ => none
def ls2 (p q : Int × Int) : Int × Int := if p.1 < q.1 ∨ (p.1 = q.1 ∧ p.2 ≤ q.2) then p else q
def lsC : Option (Int × Int) → Option (Int × Int) → Option (Int × Int)
  | none, b => b
  | some p, none => some p
  | some p, some q => some (ls2 p q)
abbrev Co := Option (Int × Int)
def leC : Co → Co → Prop
  | _, none => True
  | none, some _ => False
  | some p, some q => p.1 < q.1 ∨ (p.1 = q.1 ∧ p.2 ≤ q.2)
theorem leC_anti : ∀ {a b : Co}, leC a b → leC b a → a = b
  | none, none, _, _ => rfl
  | none, some _, h, _ => h.elim
  | some _, none, _, h => h.elim
  | some p, some q, h1, h2 => by
    obtain ⟨p1, p2⟩ := p
    obtain ⟨q1, q2⟩ := q
    simp only [leC] at h1 h2
    have e1 : p1 = q1 := by omega
    have e2 : p2 = q2 := by omega
    rw [e1, e2]
def NN : Co → Prop
  | none => True
  | some p => 0 ≤ p.1 ∧ 0 ≤ p.2
/-! ### roads -/
structure Road where
  a : Int
  b : Int
  l : Option Int
  w : Int
def lenD : Option Int → D
  | none => .non
  | some i => .int i
def rdD (r : Road) : D := .tup [.int r.a, .int r.b, lenD r.l, .int r.w]
def netD (m : Int) (rs : List Road) : D := .tup [.int m, .lst (rs.map rdD)]
def rcC (r : Road) : Co := match r.l with | none => none | some l => some (l, 1)
structure OkR (m : Nat) (r : Road) : Prop where
  a0 : 0 ≤ r.a
  a1 : r.a < m
  b0 : 0 ≤ r.b
  b1 : r.b < m
  l0 : ∀ l, r.l = some l → 0 ≤ l
def turnR (r : Road) : Road := ⟨r.b, r.a, r.l, r.w⟩
theorem OkR.turn {m : Nat} {r : Road} (h : OkR m r) : OkR m (turnR r) := ⟨h.b0, h.b1, h.a0, h.a1, h.l0⟩
def atC (cs : List Co) (i : Int) : Co := cs.getD i.toNat none
theorem atC_set {cs : List Co} {i j : Int} {v : Co} (hi : 0 ≤ i) (hj : 0 ≤ j) (h1 : i < cs.length) : atC (cs.set i.toNat v) j = if j = i then v else atC cs j := by
  unfold atC
  rw [List.getD_eq_getElem?_getD, List.getD_eq_getElem?_getD]
  by_cases h : j = i
  · subst h
    rw [if_pos rfl, List.getElem?_set_self (by omega)]
    rfl
  · rw [if_neg h, List.getElem?_set_ne (by omega)]
/-! ### as data -/
theorem atI_in {α : Type} {l : List α} {n : Int} (h : 0 ≤ n ∧ n < l.length) : atI l n = l[n.toNat]? := by
  unfold atI ixN
  obtain ⟨h1, h2⟩ := h
  simp [h1, h2]
theorem dIx_map {α : Type} {f : α → D} {l : List α} {n : Int} {x : α} (h0 : 0 ≤ n) (h : l[n.toNat]? = some x) : dIx (.lst (l.map f)) (.int n) = .ok (f x) := by
  have h1 := (List.getElem?_eq_some_iff.mp h).1
  unfold dIx
  dsimp only
  rw [atI_in (by rw [List.length_map]; omega), List.getElem?_map, h]
  rfl
theorem dMod_pos {a b : Int} (h : 0 < b) : dMod (.int a) (.int b) = .ok (.int (a % b)) := by
  unfold dMod onInts
  dsimp only
  rw [if_pos h]
theorem dFdiv_lit {a b : Int} (h : CDiv a b) : dFdiv (.int a) (.int b) = .ok (.int (a / b)) := by
  unfold dFdiv onInts
  dsimp only
  rw [if_pos h]
end L2

set_option Elab.async false
set_option linter.all false
set_option maxRecDepth 100000
namespace L2
open PySem PySem.Spec PyProof.Rows
/-! ### ways, and the least that they cost -/
/-- a way from u to w of this cost -/
inductive Wk (rs : List Road) : Int → Int → Int × Int → Prop
  | nil (u : Int) : Wk rs u u (0, 0)
  | cons {r : Road} {l : Int} {w : Int} {c : Int × Int} : r ∈ rs → r.l = some l → Wk rs r.b w c → Wk rs r.a w (l + c.1, 1 + c.2)
theorem Wk.trans {rs : List Road} {u v w : Int} {c d : Int × Int} (h : Wk rs u v c) (k : Wk rs v w d) : Wk rs u w (c.1 + d.1, c.2 + d.2) := by
  induction h with
  | nil u => simpa using k
  | cons hr hl _ ih =>
    have := Wk.cons hr hl (ih k)
    simpa [Int.add_assoc] using this
theorem Wk.one {rs : List Road} {r : Road} {l : Int} (hr : r ∈ rs) (hl : r.l = some l) : Wk rs r.a r.b (l, 1) := by
  have := Wk.cons hr hl (Wk.nil (rs := rs) r.b)
  simpa using this
/-- the least cost of the ways -/
def IsMin (rs : List Road) (u w : Int) (x : Co) : Prop := (∀ c, Wk rs u w c → leC x (some c)) ∧ ∀ p, x = some p → Wk rs u w p
theorem IsMin.uniq {rs : List Road} {u w : Int} {x y : Co} (h : IsMin rs u w x) (k : IsMin rs u w y) : x = y := by
  refine leC_anti ?_ ?_
  · cases y with
    | none => cases x <;> exact trivial
    | some q => exact h.1 q (k.2 q rfl)
  · cases x with
    | none => cases y <;> exact trivial
    | some q => exact k.1 q (h.2 q rfl)
/-! ### going over all places between -/
structure FW (m k : Nat) (rs : List Road) (A : Int → Int → Co) : Prop where
  dg : ∀ x : Int, 0 ≤ x → x < m → A x x = some (0, 0)
  nn : ∀ x y : Int, 0 ≤ x → x < m → 0 ≤ y → y < m → NN (A x y)
  sd : ∀ x y : Int, 0 ≤ x → x < m → 0 ≤ y → y < m → ∀ p, A x y = some p → Wk rs x y p
  ed : ∀ r ∈ rs, leC (A r.a r.b) (rcC r)
  tr : ∀ v x y : Int, 0 ≤ v → v < k → 0 ≤ x → x < m → 0 ≤ y → y < m → leC (A x y) (addC (A x v) (A v y))
def over (k : Int) (A : Int → Int → Co) : Int → Int → Co := fun x y => lsC (A x y) (addC (A x k) (A k y))
/-! ### as lists of lists -/
def at2 (css : List (List Co)) (x y : Int) : Co := atC (css.getD x.toNat []) y
structure Mat (m : Nat) (css : List (List Co)) : Prop where
  len : css.length = m
  row : ∀ R ∈ css, R.length = m
theorem Mat.get {m : Nat} {css : List (List Co)} (h : Mat m css) {x : Int} (h0 : 0 ≤ x) (h1 : x < m) : css[x.toNat]? = some (css.getD x.toNat []) ∧ (css.getD x.toNat []).length = m := by
  have hl : x.toNat < css.length := by rw [h.len]; omega
  have e : css[x.toNat]? = some (css.getD x.toNat []) := by rw [List.getD_eq_getElem?_getD, List.getElem?_eq_getElem hl]; rfl
  exact ⟨e, h.row _ (List.mem_of_getElem? e)⟩
def put2 (css : List (List Co)) (x y : Int) (v : Co) : List (List Co) := css.set x.toNat ((css.getD x.toNat []).set y.toNat v)
theorem Mat.put {m : Nat} {css : List (List Co)} (h : Mat m css) {x y : Int} (h0 : 0 ≤ x) (h1 : x < m) (h2 : 0 ≤ y) (h3 : y < m) (v : Co) : Mat m (put2 css x y v) ∧ ∀ x' y' : Int, 0 ≤ x' → 0 ≤ y' → at2 (put2 css x y v) x' y' = if x' = x ∧ y' = y then v else at2 css x' y' := by
  obtain ⟨e, hl⟩ := h.get h0 h1
  refine ⟨⟨by unfold put2; rw [List.length_set]; exact h.len, fun R hR => ?_⟩, fun x' y' hx hy => ?_⟩
  · unfold put2 at hR
    rcases List.mem_or_eq_of_mem_set hR with z | z
    · exact h.row R z
    · rw [z, List.length_set]; exact hl
  · unfold at2 put2
    by_cases hxx : x' = x
    · subst hxx
      have e2 : (css.set x'.toNat ((css.getD x'.toNat []).set y.toNat v)).getD x'.toNat [] = (css.getD x'.toNat []).set y.toNat v := by
        rw [List.getD_eq_getElem?_getD (l := css.set _ _), List.getElem?_set_self (by rw [h.len]; omega)]; rfl
      rw [e2, atC_set h2 hy (by rw [hl]; exact h3)]
      by_cases hyy : y' = y
      · rw [if_pos hyy, if_pos ⟨rfl, hyy⟩]
      · rw [if_neg hyy, if_neg (fun z => hyy z.2)]
    · have e2 : (css.set x.toNat ((css.getD x.toNat []).set y.toNat v)).getD x'.toNat [] = css.getD x'.toNat [] := by
        rw [List.getD_eq_getElem?_getD, List.getElem?_set_ne (by omega), List.getD_eq_getElem?_getD]
      rw [e2, if_neg (fun z => hxx z.1)]
end L2

set_option Elab.async false
set_option linter.all false
set_option maxRecDepth 100000
namespace L2
open PySem PySem.Spec PyProof.Rows
theorem FW.congr {m k : Nat} {rs : List Road} {A B : Int → Int → Co} (F : FW m k rs A) (hk : k ≤ m) (hok : ∀ r ∈ rs, OkR m r) (h : ∀ x y : Int, 0 ≤ x → x < m → 0 ≤ y → y < m → B x y = A x y) : FW m k rs B := by
  refine ⟨fun x h0 h1 => ?_, fun x y h0 h1 h2 h3 => ?_, fun x y h0 h1 h2 h3 p hp => ?_, fun r hr => ?_, fun v x y v0 v1 h0 h1 h2 h3 => ?_⟩
  · rw [h x x h0 h1 h0 h1]; exact F.dg x h0 h1
  · rw [h x y h0 h1 h2 h3]; exact F.nn x y h0 h1 h2 h3
  · rw [h x y h0 h1 h2 h3] at hp; exact F.sd x y h0 h1 h2 h3 p hp
  · have ok := hok r hr
    rw [h r.a r.b ok.a0 ok.a1 ok.b0 ok.b1]; exact F.ed r hr
  · rw [h x y h0 h1 h2 h3, h x v h0 h1 v0 (by omega), h v y v0 (by omega) h2 h3]
    exact F.tr v x y v0 v1 h0 h1 h2 h3
/-! ### last roads -/
end L2

set_option Elab.async false
set_option linter.all false
set_option maxRecDepth 100000
namespace L2
open PySem PySem.Spec PyProof.Rows
end L2

set_option Elab.async false
set_option linter.all false
set_option maxRecDepth 100000
namespace L2
open PySem PySem.Spec PyProof.Rows
section
variable {X : Cx} {WX : Str → Hp → Prop} {c : Bool} {P0 : P0T} {P : Addr → Prop} {H : Hp} {σ : St} {ρ : Rho} {a b e : Expr} {f g g2 : Rho → M D} {pos : Pos}
/-! ### .. is True, is not False -/
/-! ### max(a, b) -/
def dMax2 (ds : List D) : M D := match ds with
  | [.int i, .int j] => .ok (.int (if j > i then j else i))
  | _ => .bad
theorem cd_max2 : CallD X.K WX (fun xs H Q => ∃ i j, xs = [.int i, .int j] ∧ Q (.int (if j > i then j else i)) H) dMax2 := by
  intro P H ds vs Q ht hl h
  unfold dMax2 at h
  split at h
  · obtain ⟨v, w, rfl, hv, hw⟩ := hl.two
    cases hv
    cases hw
    exact ⟨_, _, rfl, h _ H (Same.refl H) (.int _)⟩
  · exact h.elim
theorem de_max2 {p : Pos} (hc : X.calm = true) (hg : Gl X "max") (hm : X.mg "max" = none) (ha : DE X WX c a f) (hb2 : DE X WX c b g) (hb : bootBuiltins "max" = some (.builtin "max") := by decide +kernel) (hs : starEach [b] X.env = [(false, eval b X.env)] := by rfl) (hs2 : starEach [a, b] X.env = (false, eval a X.env) :: starEach [b] X.env := by rfl) (hpl : (backTo pos (starEach [b] X.env)).any (·.1) = false := by rfl) :
    DE X WX c (.Call (.Name "max" p) [a, b] [] pos) (fun ρ => ((f ρ).bind fun d => ((g ρ).bind fun d => (M.ok []).bind fun ds => .ok (d :: ds)).bind fun ds => .ok (d :: ds)).bind dMax2) :=
  de_callB (call_max2 hc) cd_max2 hg hm hb (da_cons ha (da_cons hb2 da_nil hs) hs2) (he := hs2) (hpl := hpl)
/-! ### list(name) of one's own list; name = list(e), a list of one's own -/
end
end L2

set_option Elab.async false
set_option linter.all false
set_option maxRecDepth 100000
namespace L2
open PySem PySem.Spec PyProof.Rows
theorem Wk.nn {m : Nat} {rs : List Road} (hok : ∀ r ∈ rs, OkR m r) {u w : Int} {c : Int × Int} (h : Wk rs u w c) : 0 ≤ c.1 ∧ 0 ≤ c.2 := by
  induction h with
  | nil => exact ⟨Int.le_refl _, Int.le_refl _⟩
  | cons hr hl _ ih =>
    have := (hok _ hr).l0 _ hl
    simp only
    omega
end L2

set_option Elab.async false
set_option linter.all false
set_option maxRecDepth 100000
namespace L2
open PySem PySem.Spec PyProof.Rows
/-! ### a def that gives a new thing away -/
section
variable {X : Cx} {WX : Str → Hp → Prop} {c : Bool} {P0 : P0T} {P : Addr → Prop} {H : Hp} {σ : St} {ρ : Rho} {a b e : Expr} {f g : Rho → M D} {pos : Pos}
end
theorem new_of {P P2 : Addr → Prop} {H H' : Hp} (t : Tr P P H P2 H') {a : Addr} (h : P2 a) (hn : ¬ P a) : H a = none := by
  cases q : H a with
  | none => rfl
  | some o =>
    have := t.1 a o (by rw [del_of hn]; exact q)
    exact ((del_some this).1 h).elim
end L2

set_option Elab.async false
set_option linter.all false
set_option maxRecDepth 100000
namespace L2
open PySem PySem.Spec PyProof.Rows
section
variable {X : Cx} {WX : Str → Hp → Prop} {c : Bool} {P0 : P0T} {P : Addr → Prop} {H : Hp} {σ : St} {ρ : Rho} {a b e : Expr} {f g : Rho → M D} {pos : Pos}
/-! ### name.insert(k, e) -/
/-- name.insert(k, e) of one's own list -/
def insM (i : Nat) (ρ : Rho) (mk md : M D) : M Out := match ρ[i]? with
  | some (some (.own ds)) => mk.bind fun k => md.bind fun d => match k with
    | .int j => if 0 ≤ j ∧ j.toNat ≤ ds.length ∧ ds.length < 1000 then .ok (.next (ρ.set i (some (.own (ds.take j.toNat ++ d :: ds.drop j.toNat))))) else .bad
    | _ => .bad
  | _ => .bad
theorem hasL_take {K : PySem.W.Frag} {H : Hp} : ∀ {vs : List V} {ds : List D} (n : Nat), HasL K H vs ds → HasL K H (vs.take n) (ds.take n)
  | _, _, 0, _ => by rw [List.take_zero, List.take_zero]; exact .nil
  | _, _, _ + 1, .nil => .nil
  | _, _, n + 1, .cons h t => by rw [List.take_succ_cons, List.take_succ_cons]; exact .cons h (hasL_take n t)
/-! ### str(int), any(..), list * int -/
def dAny (ds : List D) : M D := match ds with
  | [.lst xs] => (match boolsD xs with | some bs => .ok (.bl (bs.any id)) | none => .bad)
  | _ => .bad
end
end L2

set_option Elab.async false
set_option linter.all false
set_option maxRecDepth 100000
namespace L2
open PySem PySem.Spec PyProof.Rows
/-! ### trees of one's own: parts, changes -/
def kids : OT → List OT
  | .sh _ => []
  | .lst ts => ts
  | .tup ts => ts
  | .dct _ _ ts => ts
  | .ins _ _ ts => ts
def setKids : OT → List OT → OT
  | .sh d, _ => .sh d
  | .lst _, ts => .lst ts
  | .tup _, ts => .tup ts
  | .dct b ks _, ts => .dct b ks ts
  | .ins x ns _, ts => .ins x ns ts
def subT : OT → List Nat → Option OT
  | t, [] => some t
  | t, j :: π => match (kids t)[j]? with | some s => subT s π | none => none
def putT : OT → List Nat → OT → OT
  | _, [], u => u
  | t, j :: π, u => match (kids t)[j]? with | some s => setKids t ((kids t).set j (putT s π u)) | none => t
@[simp] theorem subT_nil (t : OT) : subT t [] = some t := by unfold subT; rfl
@[simp] theorem putT_nil (t u : OT) : putT t [] u = u := by unfold putT; rfl
theorem subT_cons {t s : OT} {j : Nat} {π : List Nat} (h : (kids t)[j]? = some s) : subT t (j :: π) = subT s π := by rw [subT, h]
theorem putT_cons {t s u : OT} {j : Nat} {π : List Nat} (h : (kids t)[j]? = some s) : putT t (j :: π) u = setKids t ((kids t).set j (putT s π u)) := by rw [putT, h]
section
variable {K : PySem.W.Frag} {H H' : Hp} {P P' : Addr → Prop}
/-- a node, its own address (if it has one) and the values within -/
def NodeV (K : PySem.W.Frag) (H : Hp) (P : Addr → Prop) (v : V) (t : OT) (q : List Addr) (xs : List V) : Prop := match t with
  | .sh _ => False
  | .lst ts => ∃ p, v = .ref p ∧ q = [p] ∧ H p = some (.lst xs)
  | .tup ts => ∃ p, v = .ref p ∧ q = [] ∧ del H P p = some (.tup xs)
  | .dct false ks ts => ∃ p kvs, v = .ref p ∧ q = [p] ∧ H p = some (.dK kvs) ∧ ks = (kvs.map fun kv => dkD kv.1) ∧ xs = kvs.map Prod.snd
  | .dct true ks ts => ∃ p kvs, v = .ref p ∧ q = [p] ∧ H p = some (.dT kvs) ∧ ks = (kvs.map fun kv => .tup (kv.1.map dkD)) ∧ xs = kvs.map Prod.snd
  | .ins x ns ts => ∃ p C dx fs, v = .ref p ∧ q = [p] ∧ PySem.W.nsIn K mainGlobals x = some (some (.ref C)) ∧ H p = some (.ins C dx fs) ∧ ns = fs.map Prod.fst ∧ xs = fs.map Prod.snd
theorem NodeV.own {v : V} {t : OT} {q : List Addr} {xs : List V} {fp : List Addr} (h : NodeV K H P v t q xs) (r : OwTs K H P xs (kids t) fp) : OwT K H P v t (q ++ fp) := by
  cases t with
  | sh d => exact h.elim
  | lst ts => obtain ⟨p, rfl, rfl, h⟩ := h; exact .lst h r
  | tup ts => obtain ⟨p, rfl, rfl, h⟩ := h; exact .tup h r
  | dct b ks ts =>
    cases b with
    | false => obtain ⟨p, kvs, rfl, rfl, h, rfl, rfl⟩ := h; exact .dK h r
    | true => obtain ⟨p, kvs, rfl, rfl, h, rfl, rfl⟩ := h; exact .dT h r
  | ins x ns ts => obtain ⟨p, C, dx, fs, rfl, rfl, n, h, rfl, rfl⟩ := h; exact .ins n h r
theorem OwT.node {v : V} {t : OT} {fp : List Addr} (h : OwT K H P v t fp) (hk : kids t ≠ [] ∨ ∀ d, t ≠ .sh d) : ∃ q xs fq, fp = q ++ fq ∧ NodeV K H P v t q xs ∧ OwTs K H P xs (kids t) fq := by
  cases h with
  | sh h => rcases hk with hk | hk; exact (hk rfl).elim; exact (hk _ rfl).elim
  | lst h r => exact ⟨[_], _, _, rfl, ⟨_, rfl, rfl, h⟩, r⟩
  | tup h r => exact ⟨[], _, _, rfl, ⟨_, rfl, rfl, h⟩, r⟩
  | dK h r => exact ⟨[_], _, _, rfl, ⟨_, _, rfl, rfl, h, rfl, rfl⟩, r⟩
  | dT h r => exact ⟨[_], _, _, rfl, ⟨_, _, rfl, rfl, h, rfl, rfl⟩, r⟩
  | ins n h r => exact ⟨[_], _, _, rfl, ⟨_, _, _, _, rfl, rfl, n, h, rfl, rfl⟩, r⟩
theorem NodeV.move (sm : Same (del H P) (del H' P')) {v : V} {t : OT} {q : List Addr} {xs : List V} (k : ∀ a ∈ q, H' a = H a) (h : NodeV K H P v t q xs) : NodeV K H' P' v t q xs := by
  cases t with
  | sh d => exact h.elim
  | lst ts => obtain ⟨p, rfl, rfl, h⟩ := h; exact ⟨p, rfl, rfl, (k p List.mem_cons_self).trans h⟩
  | tup ts => obtain ⟨p, rfl, rfl, h⟩ := h; exact ⟨p, rfl, rfl, sm _ _ h⟩
  | dct b ks ts =>
    cases b with
    | false => obtain ⟨p, kvs, rfl, rfl, h, rfl, rfl⟩ := h; exact ⟨p, kvs, rfl, rfl, (k p List.mem_cons_self).trans h, rfl, rfl⟩
    | true => obtain ⟨p, kvs, rfl, rfl, h, rfl, rfl⟩ := h; exact ⟨p, kvs, rfl, rfl, (k p List.mem_cons_self).trans h, rfl, rfl⟩
  | ins x ns ts => obtain ⟨p, C, dx, fs, rfl, rfl, n, h, rfl, rfl⟩ := h; exact ⟨p, C, dx, fs, rfl, rfl, n, (k p List.mem_cons_self).trans h, rfl, rfl⟩
theorem NodeV.kids {v : V} {t : OT} {q : List Addr} {xs : List V} (h : NodeV K H P v t q xs) (ts : List OT) : NodeV K H P v (setKids t ts) q xs := by
  cases t with
  | sh d => exact h.elim
  | lst us => exact h
  | tup us => exact h
  | dct b ks us => cases b <;> exact h
  | ins x ns us => exact h
theorem kids_setKids {v : V} {t : OT} {q : List Addr} {xs : List V} (h : NodeV K H P v t q xs) (ts : List OT) : L2.kids (setKids t ts) = ts := by
  cases t with
  | sh d => exact h.elim
  | lst us => rfl
  | tup us => rfl
  | dct b ks us => rfl
  | ins x ns us => rfl
theorem NodeV.inj {v : V} {t : OT} {q q' : List Addr} {xs xs' : List V} (h : NodeV K H P v t q xs) (h' : NodeV K H P v t q' xs') : q = q' ∧ xs = xs' := by
  cases t with
  | sh d => exact h.elim
  | lst ts => obtain ⟨p, rfl, rfl, h⟩ := h; obtain ⟨p', e, rfl, h'⟩ := h'; cases e; rw [h] at h'; cases h'; exact ⟨rfl, rfl⟩
  | tup ts => obtain ⟨p, rfl, rfl, h⟩ := h; obtain ⟨p', e, rfl, h'⟩ := h'; cases e; rw [h] at h'; cases h'; exact ⟨rfl, rfl⟩
  | dct b ks ts =>
    cases b with
    | false => obtain ⟨p, kvs, rfl, rfl, h, _, rfl⟩ := h; obtain ⟨p', kvs', e, rfl, h', _, rfl⟩ := h'; cases e; rw [h] at h'; cases h'; exact ⟨rfl, rfl⟩
    | true => obtain ⟨p, kvs, rfl, rfl, h, _, rfl⟩ := h; obtain ⟨p', kvs', e, rfl, h', _, rfl⟩ := h'; cases e; rw [h] at h'; cases h'; exact ⟨rfl, rfl⟩
  | ins x ns ts => obtain ⟨p, C, dx, fs, rfl, rfl, n, h, _, rfl⟩ := h; obtain ⟨p', C', dx', fs', e, rfl, n', h', _, rfl⟩ := h'; cases e; rw [h] at h'; cases h'; exact ⟨rfl, rfl⟩
/-- the value at a path -/
inductive SubV (K : PySem.W.Frag) (H : Hp) (P : Addr → Prop) : V → OT → List Nat → V → OT → Prop
  | nil {v t} : SubV K H P v t [] v t
  | cons {v t q xs j x s π v1 t1} : NodeV K H P v t q xs → xs[j]? = some x → (kids t)[j]? = some s → SubV K H P x s π v1 t1 → SubV K H P v t (j :: π) v1 t1
theorem SubV.sub {v v1 : V} {t t1 : OT} {π : List Nat} (h : SubV K H P v t π v1 t1) : subT t π = some t1 := by
  induction h with
  | nil => exact subT_nil _
  | cons _ _ hs _ ih => rw [subT_cons hs]; exact ih
theorem SubV.snoc {v v1 x : V} {t t1 s : OT} {π : List Nat} {q : List Addr} {xs : List V} {j : Nat} (h : SubV K H P v t π v1 t1) (n : NodeV K H P v1 t1 q xs) (hx : xs[j]? = some x) (hs : (kids t1)[j]? = some s) : SubV K H P v t (π ++ [j]) x s := by
  induction h with
  | nil => exact .cons n hx hs .nil
  | cons n' hx' hs' _ ih => exact .cons n' hx' hs' (ih n hs)
theorem OwTs.get : ∀ {xs : List V} {ts : List OT} {fp : List Addr} {j : Nat} {x : V} {s : OT}, OwTs K H P xs ts fp → xs[j]? = some x → ts[j]? = some s → ∃ pre fs post, fp = pre ++ fs ++ post ∧ OwT K H P x s fs
  | _, _, _, _, _, _, .nil, e, _ => by simp at e
  | _, _, _, 0, _, _, .cons h r, e, e' => by
    simp at e e'; subst e; subst e'
    exact ⟨[], _, _, rfl, h⟩
  | _, _, _, j + 1, _, _, .cons (fp := f1) h r, e, e' => by
    obtain ⟨pre, fs, post, z, q⟩ := OwTs.get r (by simpa using e) (by simpa using e')
    exact ⟨f1 ++ pre, fs, post, by rw [z]; simp, q⟩
theorem OwTs.len : ∀ {xs : List V} {ts : List OT} {fp : List Addr}, OwTs K H P xs ts fp → xs.length = ts.length
  | _, _, _, .nil => rfl
  | _, _, _, .cons _ r => by rw [List.length_cons, List.length_cons, r.len]
/-- the part at a path -/
theorem OwT.part {v v1 : V} {t t1 : OT} {π : List Nat} {fp : List Addr} (h : OwT K H P v t fp) (s : SubV K H P v t π v1 t1) : ∃ fp1, OwT K H P v1 t1 fp1 ∧ (∀ a ∈ fp1, a ∈ fp) ∧ (fp.Nodup → fp1.Nodup) := by
  induction s generalizing fp with
  | nil => exact ⟨fp, h, fun _ h => h, fun h => h⟩
  | cons n hx hs _ ih =>
    obtain ⟨q, xs, fq, rfl, n', r⟩ := h.node (.inl fun z => by rw [z] at hs; cases hs)
    obtain ⟨rfl, rfl⟩ := n.inj n'
    obtain ⟨pre, fs, post, rfl, o⟩ := r.get hx hs
    obtain ⟨fp1, o1, k, kn⟩ := ih o
    exact ⟨fp1, o1, fun a ha => List.mem_append_right _ (List.mem_append_left _ (List.mem_append_right _ (k a ha))), fun nd => kn (List.nodup_append.mp (List.nodup_append.mp (List.nodup_append.mp nd).2.1).1).2.1⟩
theorem OwTs.put (sm : Same (del H P) (del H' P')) : ∀ {xs : List V} {ts : List OT} {fp : List Addr} {j : Nat} {x : V} {s s' : OT} {fs fs' : List Addr}, OwTs K H P xs ts fp → xs[j]? = some x → ts[j]? = some s → OwT K H P x s fs → OwT K H' P' x s' fs' → (∀ a ∈ fp, a ∉ fs → H' a = H a) → fp.Nodup → fs'.Nodup → (∀ a ∈ fs', a ∈ fp → a ∈ fs) →
    ∃ fp', OwTs K H' P' xs (ts.set j s') fp' ∧ fp'.Nodup ∧ ∀ a ∈ fp', a ∈ fs' ∨ (a ∈ fp ∧ a ∉ fs)
  | _, _, _, _, _, _, _, _, _, .nil, e, _, _, _, _, _, _, _ => by simp at e
  | _, _, _, 0, x, s, s', fs, fs', .cons (fp := f1) (fq := f2) h r, e, e', o, o', k, nd, nd', dj => by
    simp at e e'; subst e; subst e'
    have := h.uniq o; subst this
    have nd2 := List.nodup_append.mp nd
    have k2 : ∀ a ∈ f2, a ∉ f1 := fun a ha hb => nd2.2.2 a hb a ha rfl
    refine ⟨fs' ++ f2, .cons o' (r.move sm fun a ha => k a (List.mem_append_right _ ha) (k2 a ha)), List.nodup_append.mpr ⟨nd', nd2.2.1, fun a ha b hb z => ?_⟩, fun a ha => ?_⟩
    · subst z
      exact k2 a hb (dj a ha (List.mem_append_right _ hb))
    · rcases List.mem_append.mp ha with ha | ha
      · exact .inl ha
      · exact .inr ⟨List.mem_append_right _ ha, k2 a ha⟩
  | _, _, _, j + 1, x, s, s', fs, fs', .cons (vs := vs0) (ts := ts0) (fp := f1) (fq := f2) h r, e, e', o, o', k, nd, nd', dj => by
    have nd2 := List.nodup_append.mp nd
    have e2 : vs0[j]? = some x := by simpa using e
    have e3 : ts0[j]? = some s := by simpa using e'
    obtain ⟨pre, fx, post, hf, ox⟩ := r.get e2 e3
    have := ox.uniq o; subst this
    have k1 : ∀ a ∈ f1, a ∉ fx := fun a ha hb => nd2.2.2 a ha a (by rw [hf]; exact List.mem_append_left _ (List.mem_append_right _ hb)) rfl
    obtain ⟨fp', q1, q2, q3⟩ := OwTs.put sm r e2 e3 o o' (fun a ha hn => k a (List.mem_append_right _ ha) hn) nd2.2.1 nd' (fun a ha hb => dj a ha (List.mem_append_right _ hb))
    refine ⟨f1 ++ fp', .cons (h.move sm fun a ha => k a (List.mem_append_left _ ha) (k1 a ha)) q1, List.nodup_append.mpr ⟨nd2.1, q2, fun a ha b hb z => ?_⟩, fun a ha => ?_⟩
    · subst z
      rcases q3 a hb with z | z
      · exact k1 a ha (dj a z (List.mem_append_left _ ha))
      · exact nd2.2.2 a ha a z.1 rfl
    · rcases List.mem_append.mp ha with ha | ha
      · exact .inr ⟨List.mem_append_left _ ha, k1 a ha⟩
      · rcases q3 a ha with z | z
        · exact .inl z
        · exact .inr ⟨List.mem_append_right _ z.1, z.2⟩
/-- the part at a path is changed -/
theorem OwT.put (sm : Same (del H P) (del H' P')) {v v1 : V} {t t1 u : OT} {π : List Nat} {fp fp1 fu : List Addr} (h : OwT K H P v t fp) (s : SubV K H P v t π v1 t1) (o : OwT K H P v1 t1 fp1) (o' : OwT K H' P' v1 u fu) (k : ∀ a ∈ fp, a ∉ fp1 → H' a = H a) (nd : fp.Nodup) (nd' : fu.Nodup) (dj : ∀ a ∈ fu, a ∈ fp → a ∈ fp1) :
    ∃ fp', OwT K H' P' v (putT t π u) fp' ∧ fp'.Nodup ∧ ∀ a ∈ fp', a ∈ fu ∨ (a ∈ fp ∧ a ∉ fp1) := by
  induction s generalizing fp with
  | nil =>
    rw [putT_nil]
    exact ⟨fu, o', nd', fun a ha => .inl ha⟩
  | @cons v t q xs j x s π v1 t1 n hx hs s1 ih =>
    obtain ⟨q', xs', fq, rfl, n', r⟩ := h.node (.inl fun z => by rw [z] at hs; cases hs)
    obtain ⟨rfl, rfl⟩ := n.inj n'
    have ndq := List.nodup_append.mp nd
    obtain ⟨pre, fs, post, hf, ox⟩ := r.get hx hs
    have sub : ∀ a ∈ fs, a ∈ fq := fun a ha => by rw [hf]; exact List.mem_append_left _ (List.mem_append_right _ ha)
    have ndf : fs.Nodup := by
      have := ndq.2.1
      rw [hf] at this
      exact (List.nodup_append.mp (List.nodup_append.mp this).1).2.1
    obtain ⟨fz, oz, kz, _⟩ := ox.part s1
    have := oz.uniq o; subst this
    obtain ⟨fs', q1, q2, q3⟩ := ih ox o o' (fun a ha hn => k a (List.mem_append_right _ (sub a ha)) hn) ndf (fun a ha hb => dj a ha (List.mem_append_right _ (sub a hb)))
    have qf : ∀ a ∈ q, a ∉ fs := fun a ha hb => ndq.2.2 a ha a (sub a hb) rfl
    have kq : ∀ a ∈ q, H' a = H a := fun a ha => k a (List.mem_append_left _ ha) fun z => qf a ha (kz a z)
    obtain ⟨fp', p1, p2, p3⟩ := r.put sm hx hs ox q1 (fun a ha hn => k a (List.mem_append_right _ ha) fun z => hn (kz a z)) ndq.2.1 q2 (fun a ha hb => by
      rcases q3 a ha with z | z
      · exact kz a (dj a z (List.mem_append_right _ hb))
      · exact z.1)
    rw [putT_cons hs]
    have n2 := (n.move sm kq).kids ((kids t).set j (putT s π u))
    have o2 := n2.own (fp := fp') (by rw [kids_setKids n]; exact p1)
    refine ⟨q ++ fp', o2, List.nodup_append.mpr ⟨ndq.1, p2, fun a ha b hb z => ?_⟩, fun a ha => ?_⟩
    · subst z
      rcases p3 a hb with z | z
      · rcases q3 a z with y | y
        · exact qf a ha (kz a (dj a y (List.mem_append_left _ ha)))
        · exact qf a ha y.1
      · exact ndq.2.2 a ha a z.1 rfl
    · rcases List.mem_append.mp ha with ha | ha
      · exact .inr ⟨List.mem_append_left _ ha, fun z => qf a ha (kz a z)⟩
      · rcases p3 a ha with z | z
        · rcases q3 a z with y | y
          · exact .inl y
          · exact .inr ⟨List.mem_append_right _ (sub a y.1), y.2⟩
        · exact .inr ⟨List.mem_append_right _ z.1, fun y => z.2 (kz a y)⟩
end
end L2

set_option Elab.async false
set_option linter.all false
set_option maxRecDepth 100000
namespace L2
open PySem PySem.Spec PyProof.Rows
/-! ### new things: an expression that gives a tree of new things -/
/-- P and these -/
def PU (P : Addr → Prop) (fp : List Addr) : Addr → Prop := fun a => P a ∨ a ∈ fp
theorem pu_sub {P : Addr → Prop} {fp : List Addr} : ∀ a, P a → PU P fp a := fun a h => .inl h
theorem pu_same {P : Addr → Prop} {fp : List Addr} {H H' : Hp} (s : Same H H') (hn : ∀ a ∈ fp, H a = none) : Same (del H P) (del H' (PU P fp)) := fun b o e => by
  obtain ⟨h1, h2⟩ := del_some e
  rw [del_of fun z => z.elim h1 fun w => by rw [hn b w] at h2; cases h2]
  exact s b o h2
theorem pu_nil {P : Addr → Prop} {H : Hp} : del H (PU P []) = del H P := by
  funext b
  by_cases h : P b
  · rw [del_in h, del_in (.inl h)]
  · rw [del_of h, del_of fun z => z.elim h fun w => by cases w]
theorem pu_trk {P : Addr → Prop} {fp : List Addr} {K : PySem.W.Frag} {H' : Hp} {Q : Addr → Prop} {v : V} {t : OT} (hP : ∀ a, P a → Trk H' a) (o : OwT K H' Q v t fp) : ∀ a, PU P fp a → Trk H' a := fun a h => h.elim (hP a) (o.trk a)
theorem pu_trks {P : Addr → Prop} {fp : List Addr} {K : PySem.W.Frag} {H' : Hp} {Q : Addr → Prop} {v : List V} {t : List OT} (hP : ∀ a, P a → Trk H' a) (o : OwTs K H' Q v t fp) : ∀ a, PU P fp a → Trk H' a := fun a h => h.elim (hP a) (o.trk a)
/-- more is one's own -/
theorem EnvP.more {K : PySem.W.Frag} {P0 : P0T} {P P' : Addr → Prop} {H H' : Hp} {σ : St} {ρ : Rho} (E : EnvP K P0 P H σ ρ) (e : Same H H') (hs : ∀ a, P a → P' a) (ht : ∀ a, P' a → Trk H' a) (sm : Same (del H P) (del H' P')) : EnvP K P0 P' H' σ ρ := by
  have keep : ∀ (c : Cl) (v : V) (fp : List Addr), OwH K H P c v fp → ∀ a ∈ fp, H' a = H a := fun c v fp o a ha => by
    obtain ⟨xs, q⟩ := o.at a ha
    rw [q]; exact e _ _ q
  exact ⟨fun a h => hs a (E.sub a h), ht, fun i d h => let ⟨v, h1, h2⟩ := E.val i d h; ⟨v, h1, h2.mono sm⟩,
    fun i c h io => let ⟨v, fp, h1, h2, h3, h4⟩ := E.ows i c h io; ⟨v, fp, h1, h2.move sm (keep c v fp h2), fun a ha => ⟨hs a (h3 a ha).1, (h3 a ha).2⟩, h4⟩,
    fun i j c c' v v' fp fp' hi hj si sj h h' hne => E.apart' sm (fun v fp _ o a ha => keep _ _ _ o a ha) (fun v fp _ o a ha => keep _ _ _ o a ha) hi hj si sj h h' hne, E.len, E.pin⟩
def gN' (K : PySem.W.Frag) (WX : Str → Hp → Prop) (P : Addr → Prop) (H : Hp) (Q : VK) : M OT → Prop
  | .ok t => ∀ v fp H', Same H H' → (∀ a ∈ fp, H a = none) → fp.Nodup → OwT K H' (PU P fp) v t fp → Q v H'
  | .ex x => ∀ H', Same H H' → WX x H'
  | .bad => False
def gNs (K : PySem.W.Frag) (WX : Str → Hp → Prop) (P : Addr → Prop) (H : Hp) (Q : List V → Hp → Prop) : M (List OT) → Prop
  | .ok t => ∀ v fp H', Same H H' → (∀ a ∈ fp, H a = none) → fp.Nodup → OwTs K H' (PU P fp) v t fp → Q v H'
  | .ex x => ∀ H', Same H H' → WX x H'
  | .bad => False
theorem none_same {H H' : Hp} (s : Same H H') {a : Addr} (h : H' a = none) : H a = none := by
  cases q : H a with
  | none => rfl
  | some o => rw [s a o q] at h; cases h
section
variable {K : PySem.W.Frag} {WX : Str → Hp → Prop} {P : Addr → Prop} {H H' : Hp}
theorem gN'.same {Q : VK} {m : M OT} (h : gN' K WX P H Q m) (e : Same H H') : gN' K WX P H' Q m := by
  cases m with
  | ok d => exact fun v fp H2 q hn nd o => h v fp H2 (e.trans q) (fun a ha => none_same e (hn a ha)) nd o
  | ex x => exact fun H2 q => h H2 (e.trans q)
  | bad => exact h
end
def DN (X : Cx) (WX : Str → Hp → Prop) (e : Expr) (f : Rho → M OT) : Prop :=
  ∃ t, PE X e t ∧ ∀ P0 P σ H Q ρ, EnvP X.K P0 P H σ ρ → gN' X.K WX P H Q (f ρ) → t σ H Q
def DNs (X : Cx) (WX : Str → Hp → Prop) (es : List Expr) (f : Rho → M (List OT)) : Prop :=
  ∃ t, PA X es t ∧ (∀ P0 P σ H Q ρ, EnvP X.K P0 P H σ ρ → gNs X.K WX P H Q (f ρ) → t σ H Q) ∧ ∀ ρ ts, f ρ = .ok ts → ts.length = es.length
def shM (d : D) : M OT := .ok (.sh d)
def erM (t : OT) : M D := .ok (er t)
section
variable {X : Cx} {WX : Str → Hp → Prop} {c : Bool} {P0 : P0T} {P : Addr → Prop} {H : Hp} {σ : St} {ρ : Rho} {a b e : Expr} {f g : Rho → M D} {fn : Rho → M OT} {pos : Pos} {es : List Expr}
/-- shared data -/
theorem dn_sh (h : DE X WX true e f) : DN X WX e (fun ρ => (f ρ).bind shM) := by
  obtain ⟨t, h1, h2⟩ := h
  refine ⟨t, h1, fun P0 P σ H Q ρ E g => h2 P0 P σ H Q ρ E ?_⟩
  dsimp only at g
  cases q : f ρ with
  | bad => rw [q] at g; exact g
  | ex x => rw [q] at g; exact g
  | ok d => rw [q] at g; exact fun v H' s hv => g v [] H' s (fun a ha => by cases ha) List.nodup_nil (.sh (by rw [pu_nil]; exact hv))
/-- a new thing that nobody changes is shared -/
theorem de_dn (h : DN X WX e fn) : DE X WX c e (fun ρ => (fn ρ).bind erM) := by
  suffices z : DE X WX true e (fun ρ => (fn ρ).bind erM) by
    cases c with
    | true => exact z
    | false => exact de_any z
  obtain ⟨t, h1, h2⟩ := h
  refine ⟨t, h1, fun P0 P σ H Q ρ E g => h2 P0 P σ H Q ρ E ?_⟩
  dsimp only at g
  cases q : fn ρ with
  | bad => rw [q] at g; exact g
  | ex x => rw [q] at g; exact g
  | ok d =>
    rw [q] at g
    exact fun v fp H' s hn nd o => g v H' s (o.has pu_sub fun a ha z => (E.trk a z).no (hn a ha))
theorem dns_nil : DNs X WX [] (fun _ => .ok []) := ⟨_, pa_nil, fun P0 P σ H Q ρ E h => h [] [] H (Same.refl H) (fun a ha => by cases ha) List.nodup_nil .nil, fun ρ ds h => by cases h; rfl⟩
theorem dns_cons {es : List Expr} {fs : Rho → M (List OT)} (he : DN X WX e fn) (hr : DNs X WX es fs) (hs : starEach (e :: es) X.env = (false, eval e X.env) :: starEach es X.env := by rfl) :
    DNs X WX (e :: es) (fun ρ => (fn ρ).bind fun d => (fs ρ).bind fun ds => .ok (d :: ds)) := by
  obtain ⟨te, e1, e2⟩ := he
  obtain ⟨tr, r1, r2, r3⟩ := hr
  refine ⟨_, pa_cons e1 r1 hs, fun P0 P σ H Q ρ E h => ?_, fun ρ ds h => ?_⟩
  rotate_left
  · dsimp only at h
    cases q : fn ρ with
    | bad => rw [q] at h; cases h
    | ex x => rw [q] at h; cases h
    | ok x =>
      rw [q] at h
      cases q2 : fs ρ with
      | bad => rw [q2] at h; cases h
      | ex x => rw [q2] at h; cases h
      | ok xs =>
        rw [q2] at h
        cases h
        rw [List.length_cons, List.length_cons, r3 ρ xs q2]
  dsimp only at h
  refine e2 P0 P σ H _ ρ E ?_
  cases q : fn ρ with
  | bad => rw [q] at h; exact h
  | ex x => rw [q] at h; exact h
  | ok x =>
    rw [q] at h
    intro v fp H1 s1 n1 nd1 o1
    have E1 : EnvP X.K P0 (PU P fp) H1 σ ρ := E.more s1 pu_sub (pu_trk (E.same s1).trk o1) (pu_same s1 n1)
    refine r2 P0 (PU P fp) σ H1 _ ρ E1 ?_
    cases q2 : fs ρ with
    | bad => rw [q2] at h; exact h
    | ex y => rw [q2] at h; exact fun H' s => h H' (s1.trans s)
    | ok ds =>
      rw [q2] at h
      intro vs fq H2 s2 n2 nd2 o2
      have dj : ∀ a ∈ fp, a ∉ fq := fun a ha hb => (o1.trk a ha).no (n2 a hb)
      have eP : PU (PU P fp) fq = PU P (fp ++ fq) := by
        funext a
        simp only [PU, List.mem_append, or_assoc]
      have sm : Same (del H1 (PU P fp)) (del H2 (PU P (fp ++ fq))) := by rw [← eP]; exact pu_same s2 n2
      refine h _ (fp ++ fq) H2 (s1.trans s2) (fun a ha => ?_) (List.nodup_append.mpr ⟨nd1, nd2, fun a ha b hb z => dj a ha (by rw [z]; exact hb)⟩) (.cons (o1.move sm fun a ha => ?_) (by rw [← eP]; exact o2))
      · rcases List.mem_append.mp ha with ha | ha
        · exact n1 a ha
        · exact none_same s1 (n2 a ha)
      · obtain ⟨o, z, _⟩ := o1.trk a ha
        rw [z]; exact s2 _ _ z
theorem pu_new {P : Addr → Prop} {fp : List Addr} {p : Addr} {H : Hp} {o : HO} (hn : H p = none) (hP : ∀ a, PU P fp a → Trk H a) : Same (del H (PU P fp)) (del (upd H p o) (PU P (p :: fp))) := fun b u e => by
  obtain ⟨h1, h2⟩ := del_some e
  have hb : b ≠ p := ne_of_none h2 hn
  rw [del_of fun z => z.elim (fun z => h1 (.inl z)) fun w => (List.mem_cons.mp w).elim hb fun w => h1 (.inr w), upd_ne hb]
  exact h2
/-- [..] -/
theorem dn_lst {fs : Rho → M (List OT)} (ha : DNs X WX es fs) (hz : es.length ≤ 1000 := by decide) : DN X WX (.List es pos) (fun ρ => (fs ρ).bind fun ts => .ok (.lst ts)) := by
  obtain ⟨ta, a1, a2, a3⟩ := ha
  refine ⟨_, pe_lst a1, fun P0 P σ H Q ρ E h => ?_⟩
  dsimp only at h
  refine a2 P0 P σ H _ ρ E ?_
  cases q : fs ρ with
  | bad => rw [q] at h; exact h
  | ex y => rw [q] at h; exact h
  | ok ts =>
    rw [q] at h
    simp only [M.bind_ok] at h
    intro vs fp H1 s1 n1 nd1 o1
    have hP := pu_trks (E.same s1).trk o1
    refine ⟨Nat.le_of_lt (small1000 (by rw [o1.len, a3 ρ ts q]; exact hz)), fun p hp => ?_⟩
    have hne : ∀ a ∈ fp, a ≠ p := fun a ha z => (o1.trk a ha).no (by rw [z]; exact hp)
    exact h _ (p :: fp) _ (s1.trans (same_new hp _)) (fun a ha => (List.mem_cons.mp ha).elim (fun z => by rw [z]; exact none_same s1 hp) (n1 a)) (List.nodup_cons.mpr ⟨fun z => hne p z rfl, nd1⟩) (.lst upd_same (o1.move (pu_new hp hP) fun a ha => upd_ne (hne a ha)))
theorem HasL.ows {K : PySem.W.Frag} {H : Hp} {P : Addr → Prop} : ∀ {xs : List V} {ds : List D}, HasL K (del H P) xs ds → OwTs K H P xs (ds.map .sh) []
  | _, _, .nil => .nil
  | _, _, .cons h t => .cons (.sh h) t.ows
/-- a list of shared data at a new address -/
theorem gN'.newL {K : PySem.W.Frag} {WX : Str → Hp → Prop} {P : Addr → Prop} {H H1 : Hp} {Q : VK} {xs : List V} {ds : List D} (h : gN' K WX P H Q (.ok (.lst (ds.map .sh)))) (s1 : Same H H1) (hx : HasL K (del H1 P) xs ds) : ∀ p, H1 p = none → Q (.ref p) (upd H1 p (.lst xs)) := fun p hp => by
  have hn : ∀ a ∈ [p], H1 a = none := fun a ha => by rw [List.mem_singleton.mp ha]; exact hp
  exact h _ [p] _ (s1.trans (same_new hp _)) (fun a ha => none_same s1 (hn a ha)) (by simp) (.lst upd_same (hx.mono (pu_same (same_new hp _) hn)).ows)
/-- shared data again -/
theorem OwTs.shs {K : PySem.W.Frag} {H : Hp} {P : Addr → Prop} : ∀ {xs : List V} {ds : List D} {fp : List Addr}, OwTs K H P xs (ds.map .sh) fp → fp = [] ∧ HasL K (del H P) xs ds
  | _, [], _, .nil => ⟨rfl, .nil⟩
  | _, d :: ds, _, .cons (.sh h) r => by
    obtain ⟨rfl, q⟩ := OwTs.shs r
    exact ⟨rfl, .cons h q⟩
/-! ### all names as shared data, below what is one's own -/
def lowC : Cl → Cl
  | .val d => .val d
  | .own ds => .val (.lst ds)
  | .ow (.rows dss) => .val (.lst (dss.map D.lst))
  | .ow (.anc _ ds) => .val (.lst ds)
  | .ow (.tree _ t) => .val (er t)
def lowR (ρ : Rho) : Rho := ρ.map fun o => o.map lowC
@[simp] theorem lowR_nil : lowR [] = [] := rfl
@[simp] theorem lowR_none (ρ : Rho) : lowR (none :: ρ) = none :: lowR ρ := rfl
@[simp] theorem lowR_some (c : Cl) (ρ : Rho) : lowR (some c :: ρ) = some (lowC c) :: lowR ρ := rfl
theorem EnvP.low {K : PySem.W.Frag} {P0 : P0T} {P : Addr → Prop} {H : Hp} {σ : St} {ρ : Rho} (E : EnvP K P0 P H σ ρ) : EnvP K P0 P0 H σ (lowR ρ) := by
  have key : ∀ (i : Nat) (c : Cl), (lowR ρ)[i]? = some (some c) → ∃ c', ρ[i]? = some (some c') ∧ c = lowC c' := fun i c h => by
    unfold lowR at h
    rw [List.getElem?_map] at h
    cases q : ρ[i]? with
    | none => rw [q] at h; cases h
    | some o =>
      rw [q] at h
      cases o with
      | none => cases h
      | some c' => cases h; exact ⟨c', rfl, rfl⟩
  have noOw : ∀ c, isOw (lowC c) = false := fun c => by
    cases c with
    | val d => rfl
    | own ds => rfl
    | ow o => cases o <;> rfl
  have noPin : ∀ c, pinOf (lowC c) = none := fun c => by
    cases c with
    | val d => rfl
    | own ds => rfl
    | ow o => cases o <;> rfl
  have noH : ∀ c v fp, ¬ OwH K H P0 (lowC c) v fp := fun c v fp h => by
    cases c with
    | val d => exact h
    | own ds => exact h
    | ow o => cases o <;> exact h
  refine ⟨fun _ h => h, fun a h => E.trk a (E.sub a h), fun i d h => ?_, fun i c h io => ?_, fun i j c c' v v' fp fp' hi hj si sj h h' hne => ?_, by unfold lowR; rw [List.length_map]; exact E.len, fun i c n h hp => by obtain ⟨c', h1, rfl⟩ := key i _ h; rw [noPin] at hp; cases hp⟩
  · obtain ⟨c, h1, h2⟩ := key i _ h
    cases c with
    | val d' =>
      cases h2
      obtain ⟨v, q1, q2⟩ := E.val i d h1
      exact ⟨v, q1, q2.mono (del_sub E.sub)⟩
    | own ds =>
      cases h2
      obtain ⟨p, xs, q1, q2, q3, q4, q5⟩ := E.own i ds h1
      exact ⟨_, q1, .lst (.of (show del H P0 p = _ by rw [del_of q4]; exact q2)) (q5.mono (del_sub E.sub))⟩
    | ow o =>
      obtain ⟨v, fp, q1, q2, q3, q4⟩ := E.ows i _ h1 rfl
      cases o with
      | rows dss =>
        cases h2
        obtain ⟨p, ps, rfl, rfl, q5, q6⟩ := q2
        exact ⟨_, q1, .lst (.of (show del H P0 p = _ by rw [del_of (q3 p List.mem_cons_self).2]; exact q5)) (q6.hasL E.sub fun a ha => (q3 a (List.mem_cons_of_mem _ ha)).2)⟩
      | anc p ds =>
        cases h2
        obtain ⟨p, xs, rfl, rfl, q5, q6⟩ := q2
        exact ⟨_, q1, .lst (.of (show del H P0 p = _ by rw [del_of (q3 p List.mem_cons_self).2]; exact q5)) (q6.mono (del_sub E.sub))⟩
      | tree p t =>
        cases h2
        exact ⟨_, q1, OwT.has E.sub (fun a ha => (q3 a ha).2) q2⟩
  · obtain ⟨c', h1, rfl⟩ := key i _ h
    rw [noOw] at io; cases io
  · obtain ⟨c1, h1, rfl⟩ := key i _ hi
    exact (noH _ _ _ h).elim
theorem dt_low {ft : Rho → M Bool} (h : DT X WX e ft) : DT X WX e (fun ρ => ft (lowR ρ)) := by
  obtain ⟨t, h1, h2⟩ := h
  exact ⟨t, h1, fun P0 P σ H Q ρ E g => h2 P0 P0 σ H Q (lowR ρ) E.low g⟩
/-! a tree whose shared parts hold no list stays clean beside one's own things -/
mutual
def noLT : OT → Bool
  | .sh d => noL d
  | .lst ts => noLTs ts
  | .tup ts => noLTs ts
  | .dct _ _ ts => noLTs ts
  | .ins _ _ ts => noLTs ts
def noLTs : List OT → Bool
  | [] => true
  | t :: r => noLT t && noLTs r
end
mutual
theorem OwT.clean {K : PySem.W.Frag} {H : Hp} {P P' : Addr → Prop} (ht : ∀ a, P' a → Trk H a) : ∀ {v : V} {t : OT} {fp : List Addr}, noLT t = true → OwT K H P v t fp → OwT K H P' v t fp
  | _, _, _, n, .sh h => .sh (h.noL ht (by rw [noLT] at n; exact n))
  | _, _, _, n, .lst h r => .lst h (OwTs.clean ht (by rw [noLT] at n; exact n) r)
  | _, _, _, n, .tup h r => .tup (tup_own ht h) (OwTs.clean ht (by rw [noLT] at n; exact n) r)
  | _, _, _, n, .dK h r => .dK h (OwTs.clean ht (by rw [noLT] at n; exact n) r)
  | _, _, _, n, .dT h r => .dT h (OwTs.clean ht (by rw [noLT] at n; exact n) r)
  | _, _, _, n, .ins x h r => .ins x h (OwTs.clean ht (by rw [noLT] at n; exact n) r)
theorem OwTs.clean {K : PySem.W.Frag} {H : Hp} {P P' : Addr → Prop} (ht : ∀ a, P' a → Trk H a) : ∀ {v : List V} {t : List OT} {fp : List Addr}, noLTs t = true → OwTs K H P v t fp → OwTs K H P' v t fp
  | _, _, _, _, .nil => .nil
  | _, _, _, n, .cons h r => by
    rw [noLTs, Bool.and_eq_true] at n
    exact .cons (OwT.clean ht n.1 h) (OwTs.clean ht n.2 r)
end
/-- list(e) -/
def newL (d : D) : M OT := match d with
  | .lst ds => .ok (.lst (ds.map .sh))
  | .tup ds => .ok (.lst (ds.map .sh))
  | _ => .bad
/-- a new list by an operation on two data -/
def OpN (K : PySem.W.Frag) (WX : Str → Hp → Prop) (r : R2) (dop : D → D → M OT) : Prop :=
  ∀ (P : Addr → Prop) (H : Hp) (x y : D) (v w : V) (Q : VK), (∀ a, P a → Trk H a) → Has K (del H P) v x → Has K (del H P) w y → gN' K WX P H Q (dop x y) → r v w H Q
theorem bin_N {ta tb : TE} {r : R2} {dop : D → D → M OT} (ha : ∀ P0 P σ H Q ρ, EnvP X.K P0 P H σ ρ → gV X.K WX (Lv true P0 P) H Q (f ρ) → ta σ H Q) (hb : ∀ P0 P σ H Q ρ, EnvP X.K P0 P H σ ρ → gV X.K WX (Lv true P0 P) H Q (g ρ) → tb σ H Q)
    (hr : OpN X.K WX r dop) {Q : VK} (E : EnvP X.K P0 P H σ ρ) (h : gN' X.K WX P H Q ((f ρ).bind fun x => (g ρ).bind fun y => dop x y)) : tOp r ta tb σ H Q := by
  refine ha P0 P σ H _ ρ E ?_
  cases e : f ρ with
  | bad => rw [e] at h; exact h
  | ex x => rw [e] at h; exact h
  | ok x =>
    rw [e] at h
    intro v H1 s1 hv
    refine hb P0 P σ H1 _ ρ (E.same s1) ?_
    cases e2 : g ρ with
    | bad => rw [e2] at h; exact h
    | ex y => rw [e2] at h; exact fun H' s => h H' (s1.trans s)
    | ok y =>
      rw [e2] at h
      intro w H2 s2 hw
      exact hr _ H2 x y v w Q ((E.same s1).same s2).trk (hv.mono s2.del) hw ((h.same s1).same s2)
/-- list + list -/
def plusN (x y : D) : M OT := match x, y with
  | .lst a, .lst b => if a.length + b.length ≤ 1000 then .ok (.lst ((a ++ b).map .sh)) else .bad
  | _, _ => .bad
end
end L2

set_option Elab.async false
set_option linter.all false
set_option maxRecDepth 100000
namespace L2
open PySem PySem.Spec PyProof.Rows
/-! ### defs that give a tree of new things -/
def spT (K : PySem.W.Frag) (n : Nat) (F : List D → M OT) : Sp := fun vs H Q E => vs.length = n ∧ ∃ P ds, (∀ a, P a → Trk H a) ∧ HasL K (del H P) vs ds ∧ gN' K (wxOf K E) P H Q (F ds)
def clT : Cl → M OT
  | .val d => .ok (.sh d)
  | .own ds => .ok (.lst (ds.map .sh))
  | .ow (.rows dss) => .ok (.lst (dss.map fun ds => .lst (ds.map .sh)))
  | .ow (.anc _ _) => .bad
  | .ow (.tree none t) => .ok t
  | .ow (.tree (some _) _) => .bad
def finT (m : M Out) : M OT := match m with
  | .ok (.ret d) => .ok (.sh d)
  | .ok (.retO c) => clT c
  | .ok (.next _) => .ok (.sh .non)
  | .ex x => .ex x
  | _ => .bad
theorem RowsH.ows {K : PySem.W.Frag} {H : Hp} {P : Addr → Prop} : ∀ {ps : List Addr} {dss : List (List D)}, RowsH K H P ps dss → OwTs K H P (ps.map V.ref) (dss.map fun ds => .lst (ds.map .sh)) ps
  | _, _, .nil => .nil
  | _, _, .cons h r t => .cons (.lst h r.ows) t.ows
theorem OwH.tree {K : PySem.W.Frag} {H : Hp} {P : Addr → Prop} {c : Cl} {v : V} {fp : List Addr} {t : OT} (h : OwH K H P c v fp) (e : clT c = .ok t) : OwT K H P v t fp := by
  cases c with
  | val d => exact h.elim
  | own ds =>
    cases e
    obtain ⟨p, xs, rfl, rfl, h1, h2⟩ := h
    exact .lst h1 h2.ows
  | ow o =>
    cases o with
    | rows dss =>
      cases e
      obtain ⟨p, ps, rfl, rfl, h1, h2⟩ := h
      exact .lst h1 h2.ows
    | anc p ds => cases e
    | tree p t' =>
      cases p with
      | none => cases e; exact h
      | some q => cases e
section
variable {P : Program} {w : World} {K : PySem.W.Frag} {mg : Str → Option Value} {base : Heap}
theorem finT_ok {WX : Str → Hp → Prop} {P P2 : Addr → Prop} {H H' : Hp} {Q : VK} {c : Cl} {v : V} {fp : List Addr} (h : gN' K WX P H Q (clT c)) (t : Tr P P H P2 H') (hs : ∀ a, P a → P2 a) (ho : OwH K H' P2 c v fp) (hp : ∀ a ∈ fp, P2 a ∧ ¬ P a) (nd : fp.Nodup) : Q v H' := by
  cases q : clT c with
  | bad => rw [q] at h; exact h.elim
  | ex x => cases c with
    | val d => cases q
    | own ds => cases q
    | ow o =>
      cases o with
      | rows dss => cases q
      | anc p ds => cases q
      | tree p t' => cases p <;> cases q
  | ok u =>
    rw [q] at h
    have o := ho.tree q
    refine h v fp H' (tr_same t) (fun a ha => new_of t (hp a ha).1 (hp a ha).2) nd (o.move (del_sub fun a ha => ha.elim (hs a) fun z => (hp a z).1) fun _ _ => rfl)
/-- a def, by its body's worth -/
theorem fn_T {x qual : Str} {st : Stmt} {f : Addr} {fd : FuncData} {N ps : List Str} {k : Nat} (F : Fun K x qual st f fd) (S : FnScope N ps (defScope st)) (g : Rho → M Out)
    (hb : ∀ (cdv : Value) (A : Around) (outer : List Env) (s : Shared) (H : Hp) (E : XK), Room k (A.deeper (envOfC qual (defScope st) s.heap.objs.size f cdv)) → DSs (cxE P w K mg base N qual (defScope st) f cdv A outer s H E) (wxOf K E) (defBody st) g) :
    FnOk P w K mg base (CXe P w base) (k + 1) f fd ps (spT K ps.length fun ds => finT (g (stRho N ds))) := by
  obtain ⟨oc, od, kV, doc, pm, an, cdv, ct, osl, rfl, lk, hcd⟩ := F.ex
  refine fn_of lk hcd S (fun vs H Q E h => h.1) fun A outer s H vs Q E hr h => ?_
  obtain ⟨hl, P', ds, ht, hv, hq⟩ := h
  obtain ⟨t, h1, h2⟩ := hb cdv A outer s H E hr
  refine ⟨t, h1, h2 ⟨P', fun _ => 0⟩ P' _ H _ _ (env_start ht hv) ?_⟩
  dsimp only at hq
  revert hq
  cases g (stRho N ds) with
  | bad => exact fun h => h.elim
  | ex x => exact fun h H' P2 t => h H' (tr_same t)
  | ok o =>
    cases o with
    | ret d => exact fun h v H' P2 t hv => h v [] H' (tr_same t) (fun a ha => by cases ha) List.nodup_nil (.sh (by rw [pu_nil]; exact hv))
    | next ρ => exact fun h σ' H' P2 t E => h .non [] H' (tr_same t) (fun a ha => by cases ha) List.nodup_nil (.sh .non)
    | brk ρ => exact fun h => h.elim
    | cont ρ => exact fun h => h.elim
    | retO c => exact fun h v fp H' P2 t hs ht ho hp nd => finT_ok h t hs ho hp nd
    | retE d ρ => exact fun h => h.elim
end
structure FnT (P : Program) (w : World) (K : PySem.W.Frag) (mg : Str → Option Value) (base : Heap) (x : Str) (k n : Nat) (F : List D → M OT) : Prop where
  ex : ∃ fa fd ps, FnOk P w K mg base (CXe P w base) k fa fd ps (spT K n F) ∧ mg x = some (.ref fa) ∧ PySem.W.keepIn K (.ref fa) = true ∧ Binds K fd ps []
theorem fnT_of {P : Program} {w : World} {K : PySem.W.Frag} {mg : Str → Option Value} {base : Heap} {x : Str} {st : Stmt} {N ps : List Str} {k n : Nat} (T : FunAt K mg x st ps) (S : FnScope N ps (defScope st)) (g : Rho → M Out)
    (hb : ∀ (f : Addr) (cdv : Value) (A : Around) (outer : List Env) (s : Shared) (H : Hp) (E : XK), Room k (A.deeper (envOfC x (defScope st) s.heap.objs.size f cdv)) → DSs (cxE P w K mg base N x (defScope st) f cdv A outer s H E) (wxOf K E) (defBody st) g) (hn : ps.length = n := by rfl) :
    FnT P w K mg base x (k + 1) n (fun ds => finT (g (stRho N ds))) := by
  obtain ⟨f, fd, F, hm, hB⟩ := T.ex
  subst hn
  exact ⟨⟨f, fd, ps, fn_T F S g (hb f), hm, F.kp, hB⟩⟩
section
variable {X : Cx} {E : XK} {WX : Str → Hp → Prop} {c : Bool} {e : Expr} {es : List Expr} {fs : Rho → M (List D)} {f : Rho → M D} {fn : Rho → M OT} {ft : Rho → M Bool} {pos : Pos}
/-- f(..), a new thing -/
theorem dn_call {k n : Nat} {F : List D → M OT} {x : Str} {p : Pos} (xo : XCall X E) (G : FnT X.prog X.w X.K X.mg X.base x k n F) (hr : Room k X.A) (hg : Gl X x) (ha : DA X (wxOf X.K E) true (e :: es) fs) (hn : (e :: es).length = n)
    (hdb : (x == ("__debug__" : Str)) = false := by decide) (he : starEach (e :: es) X.env = (false, eval e X.env) :: starEach es X.env := by rfl) (hpl : (backTo pos (starEach es X.env)).any (·.1) = false := by rfl) :
    DN X (wxOf X.K E) (.Call (.Name x p) (e :: es) [] pos) (fun ρ => (fs ρ).bind F) := by
  obtain ⟨fa, fd, ps, hF, hm, hk, hb⟩ := G.ex
  obtain ⟨ta, a1, a2, a3⟩ := ha
  refine ⟨_, pe_call hF hr hg hm hk hb .nil xo.call a1 hdb he hpl, fun P0 P σ H Q ρ E h => ?_⟩
  dsimp only at h
  refine a2 P0 P σ H _ ρ E ?_
  cases q : fs ρ with
  | bad => rw [q] at h; exact h
  | ex x => rw [q] at h; exact h
  | ok ds =>
    rw [q] at h
    simp only [M.bind_ok] at h
    intro vs H1 s1 hvs
    rw [List.append_nil]
    exact ⟨by rw [hvs.length, a3 ρ ds q]; exact hn, P, ds, (E.same s1).trk, hvs, h.same s1⟩
theorem dn_noX (h : DN X WX e fn) : DN X (fun _ _ => False) e fn := by
  obtain ⟨t, h1, h2⟩ := h
  refine ⟨t, h1, fun P0 P σ H Q ρ E g => h2 P0 P σ H Q ρ E ?_⟩
  cases q : fn ρ with
  | bad => rw [q] at g; exact g
  | ex x => rw [q] at g; exact (g H (Same.refl H)).elim
  | ok t => rw [q] at g; exact g
/-- return a new thing -/
def retT (t : OT) : M Out := match t with
  | .sh d => .ok (.ret d)
  | t => .ok (.retO (.ow (.tree none t)))
end
section
variable {X : Cx} {WX : Str → Hp → Prop} {c : Bool} {P0 : P0T} {P : Addr → Prop} {H : Hp} {σ : St} {ρ : Rho} {a b e : Expr} {f g : Rho → M D} {fn : Rho → M OT} {pos : Pos}
theorem EnvP.trn {K : PySem.W.Frag} {H' : Hp} {fp : List Addr} (E : EnvP K P0 P H σ ρ) (s : Same H H') (hn : ∀ a ∈ fp, H a = none) : Tr P0 P H (PU P fp) H' :=
  ⟨pu_same s hn, fun a ha => by obtain ⟨o, q, _⟩ := E.trk a (E.sub a ha); rw [q]; exact s _ _ q⟩
theorem ds_retT (ha : DN X WX e fn) : DS X WX (.Return (some e) pos) (fun ρ => (fn ρ).bind retT) := by
  obtain ⟨ta, a1, a2⟩ := ha
  refine ⟨_, ps_ret a1, fun P0 P σ H Z ρ E h => ?_⟩
  dsimp only at h
  refine a2 P0 P σ H _ ρ E ?_
  cases q : fn ρ with
  | bad => rw [q] at h; exact h
  | ex x => rw [q] at h; exact fun H' s => h H' P (E.tr s)
  | ok t =>
    rw [q] at h
    simp only [M.bind_ok] at h
    intro v fp H' s hn nd o
    have key : gS X.K WX P0 P H Z (.ok (.retO (.ow (.tree none t)))) → Z.rt v H' := fun h =>
      h v fp H' (PU P fp) (E.trn s hn) (fun a ha => .inl (E.sub a ha)) (pu_trk (E.same s).trk o) o (fun a ha => ⟨.inr ha, fun z => (E.trk a (E.sub a z)).no (hn a ha)⟩) nd
    cases t with
    | sh d =>
      cases o with
      | sh hv => exact h v H' P (E.tr s) (hv.mono (del_sub fun a ha => .inl (E.sub a ha)))
    | lst ts => exact key h
    | tup ts => exact key h
    | dct b ks ts => exact key h
    | ins x ns ts => exact key h
/-! ### names that get a tree -/
def shsOf : List OT → Option (List D)
  | [] => some []
  | .sh d :: r => (shsOf r).map (d :: ·)
  | _ :: _ => none
theorem shsOf_map : ∀ ds : List D, shsOf (ds.map .sh) = some ds
  | [] => rfl
  | d :: r => by rw [List.map_cons, shsOf, shsOf_map r]; rfl
theorem shsOf_some : ∀ {ts : List OT} {ds : List D}, shsOf ts = some ds → ts = ds.map .sh
  | [], ds, h => by cases h; rfl
  | .sh d :: r, ds, h => by
    rw [shsOf] at h
    cases q : shsOf r with
    | none => rw [q] at h; cases h
    | some es => rw [q] at h; cases h; rw [List.map_cons, ← shsOf_some q]
  | .lst _ :: r, ds, h => by cases h
  | .tup _ :: r, ds, h => by cases h
  | .dct _ _ _ :: r, ds, h => by cases h
  | .ins _ _ _ :: r, ds, h => by cases h
def toCl (p : Option Nat) (t : OT) : Cl := match t with
  | .lst ts => (match shsOf ts with
    | some ds => (match p with | none => .own ds | some q => .ow (.anc q ds))
    | none => .ow (.tree p (.lst ts)))
  | t => .ow (.tree p t)
@[simp] theorem toCl_list (ds : List D) : toCl none (.lst (ds.map .sh)) = .own ds := by unfold toCl; simp only [shsOf_map]
@[simp] theorem toCl_listP (q : Nat) (ds : List D) : toCl (some q) (.lst (ds.map .sh)) = .ow (.anc q ds) := by unfold toCl; simp only [shsOf_map]
@[simp] theorem toCl_tup (p : Option Nat) (ts : List OT) : toCl p (.tup ts) = .ow (.tree p (.tup ts)) := rfl
@[simp] theorem toCl_dct (p : Option Nat) (b : Bool) (ks : List D) (ts : List OT) : toCl p (.dct b ks ts) = .ow (.tree p (.dct b ks ts)) := rfl
@[simp] theorem toCl_ins (p : Option Nat) (x : Str) (ns : List Str) (ts : List OT) : toCl p (.ins x ns ts) = .ow (.tree p (.ins x ns ts)) := rfl
def treeOf : Cl → Option (Option Nat × OT)
  | .own ds => some (none, .lst (ds.map .sh))
  | .ow (.anc p ds) => some (some p, .lst (ds.map .sh))
  | .ow (.rows dss) => some (none, .lst (dss.map fun ds => .lst (ds.map .sh)))
  | .ow (.tree p t) => some (p, t)
  | .val _ => none
theorem OwH.toT {K : PySem.W.Frag} {H : Hp} {P : Addr → Prop} {c : Cl} {v : V} {fp : List Addr} {p : Option Nat} {t : OT} (h : OwH K H P c v fp) (e : treeOf c = some (p, t)) : OwT K H P v t fp := by
  cases c with
  | val d => exact h.elim
  | own ds =>
    cases e
    obtain ⟨p, xs, rfl, rfl, h1, h2⟩ := h
    exact .lst h1 h2.ows
  | ow o =>
    cases o with
    | rows dss =>
      cases e
      obtain ⟨p, ps, rfl, rfl, h1, h2⟩ := h
      exact .lst h1 h2.ows
    | anc p ds =>
      cases e
      obtain ⟨p, xs, rfl, rfl, h1, h2⟩ := h
      exact .lst h1 h2.ows
    | tree p t' => cases e; exact h
theorem OwH.toCl {K : PySem.W.Frag} {H : Hp} {P : Addr → Prop} {v : V} {fp : List Addr} {p : Option Nat} {t : OT} (h : OwT K H P v t fp) : OwH K H P (toCl p t) v fp := by
  unfold L2.toCl
  split
  · rename_i ts
    cases q : shsOf ts with
    | none => exact h
    | some ds =>
      have e := shsOf_some q
      subst e
      cases h with
      | lst h1 h2 =>
        obtain ⟨rfl, h3⟩ := h2.shs
        cases p with
        | none => exact ⟨_, _, rfl, rfl, h1, h3⟩
        | some q => exact ⟨_, _, rfl, rfl, h1, h3⟩
  · exact h
theorem pinOf_toCl (p : Option Nat) (t : OT) : pinOf (toCl p t) = p := by
  unfold toCl
  split
  · rename_i ts
    cases q : shsOf ts with
    | none => cases p <;> rfl
    | some ds => cases p <;> rfl
  · cases p <;> rfl
theorem pinOf_tree {c : Cl} {p : Option Nat} {t : OT} (h : treeOf c = some (p, t)) : pinOf c = p := by
  cases c with
  | val d => cases h
  | own ds => cases h; rfl
  | ow o =>
    cases o with
    | rows dss => cases h; rfl
    | anc p ds => cases h; rfl
    | tree p t => cases h; cases p <;> rfl
/-- name = a new thing, one's own from now on -/
def setT (i : Nat) (ρ : Rho) (t : OT) : M Out := match t with
  | .sh d => .ok (.next (ρ.set i (some (.val d))))
  | t => .ok (.next (ρ.set i (some (toCl none t))))
theorem set_T {K : PySem.W.Frag} {i : Nat} {t : OT} {v : V} {fp : List Addr} {H' : Hp} {Z : Ends} (E : EnvP K P0 P H σ ρ) (s : Same H H') (hn : ∀ a ∈ fp, H a = none) (nd : fp.Nodup) (o : OwT K H' (PU P fp) v t fp) (h : gS K WX P0 P H Z (setT i ρ t)) : Z.nx (σ.set i (some v)) H' := by
  have key : gS K WX P0 P H Z (.ok (.next (ρ.set i (some (toCl none t))))) → Z.nx (σ.set i (some v)) H' := fun h => by
    refine h _ H' (PU P fp) (E.trn s hn) (E.putO pu_sub (pu_trk (E.same s).trk o) (pu_same s hn) (fun j c' v' fp' hne g1 g2 g3 a ha => ?_) (OwH.toCl o) (fun a ha => ⟨.inr ha, fun z => (E.trk a (E.sub a z)).no (hn a ha)⟩) nd (fun n z => by rw [pinOf_toCl] at z; cases z))
    obtain ⟨xs, z⟩ := g3.at a ha
    exact ⟨by rw [z]; exact s _ _ z, fun w => by rw [hn a w] at z; cases z⟩
  cases t with
  | sh d =>
    cases o with
    | sh hv => exact h _ H' P (E.tr s) ((E.same s).setv (by rw [pu_nil] at hv; exact hv))
  | lst ts => exact key h
  | tup ts => exact key h
  | dct b ks ts => exact key h
  | ins x ns ts => exact key h
theorem ds_setT (i : Nat) {x : Str} {pos' : Pos} (hN : X.N.Nodup) (hi : X.N[i]? = some x) (hx : Loc X.env.scope x) (ha : DN X WX e fn) (hs : swapsWith e (some (.Name x pos')) pos.line X.env = pure false := by rfl) (hf : X.fn x = true ∨ X.env.scope.names.lookup x = some .local := by first | exact .inl rfl | exact .inr rfl | assumption) :
    DS X WX (.Assign [.Name x pos'] e pos) (fun ρ => (fn ρ).bind (setT i ρ)) := by
  obtain ⟨ta, a1, a2⟩ := ha
  refine ⟨_, ps_set hN hi hx a1 hs hf, fun P0 P σ H Z ρ E h => ?_⟩
  dsimp only at h
  refine a2 P0 P σ H _ ρ E ?_
  cases q : fn ρ with
  | bad => rw [q] at h; exact h
  | ex x => rw [q] at h; exact fun H' s => h H' P (E.tr s)
  | ok t =>
    rw [q] at h
    exact fun v fp H' s hn nd o => set_T E s hn nd o h
/-- return a name's own thing -/
def retC (i : Nat) (ρ : Rho) : M Out := match ρ[i]? with
  | some (some (.val d)) => .ok (.ret d)
  | some (some c) => .ok (.retO c)
  | _ => .bad
theorem ers_sh : ∀ ds : List D, ers (ds.map .sh) = ds
  | [] => rfl
  | d :: r => by rw [List.map_cons, ers, er, ers_sh r]
theorem lowC_tree {c : Cl} {p : Option Nat} {t : OT} (e : treeOf c = some (p, t)) : lowC c = .val (er t) := by
  cases c with
  | val d => cases e
  | own ds => cases e; rw [er, ers_sh]; rfl
  | ow o =>
    cases o with
    | rows dss =>
      cases e
      rw [er, ers_map, List.map_map]
      have : (er ∘ fun ds : List D => OT.lst (ds.map .sh)) = D.lst := by funext ds; rw [Function.comp, er, ers_sh]
      rw [this]; rfl
    | anc p ds => cases e; rw [er, ers_sh]; rfl
    | tree p t' => cases e; rfl
theorem treeOf_own {c : Cl} (h : isOw c = true) : ∃ p t, treeOf c = some (p, t) := by
  cases c with
  | val d => cases h
  | own ds => exact ⟨_, _, rfl⟩
  | ow o => cases o <;> exact ⟨_, _, rfl⟩
/-- nobody changes the name's thing any more: it is shared -/
def frzR (i : Nat) (ρ : Rho) : Rho := match ρ[i]? with
  | some (some c) => ρ.set i (some (lowC c))
  | _ => ρ
theorem EnvP.frz {K : PySem.W.Frag} (E : EnvP K P0 P H σ ρ) (i : Nat) : ∃ P', (∀ a, P' a → P a) ∧ EnvP K P0 P' H σ (frzR i ρ) := by
  unfold frzR
  split
  · rename_i c e1
    cases io : isOw c with
    | false =>
      cases c with
      | val d =>
        refine ⟨P, fun _ h => h, ?_⟩
        have : ρ.set i (some (lowC (.val d))) = ρ := set_at e1
        rw [this]; exact E
      | own ds => cases io
      | ow o => cases io
    | true =>
      obtain ⟨p, t, ht⟩ := treeOf_own io
      obtain ⟨v, fp, h1, h2, h3, h4⟩ := E.ows i c e1 io
      rw [lowC_tree ht]
      have o := h2.toT ht
      let P' : Addr → Prop := fun a => P a ∧ a ∉ fp
      have hsub : ∀ a, P' a → P a := fun a h => h.1
      have sm : Same (del H P) (del H P') := del_sub hsub
      have dj : ∀ (j : Nat) c' v' fp', i ≠ j → ρ[j]? = some (some c') → σ[j]? = some (some v') → OwH K H P c' v' fp' → ∀ a ∈ fp', a ∉ fp := fun j c' v' fp' hne g1 g2 g3 => E.apart j i c' c v' v fp' fp g1 e1 g2 h1 g3 h2 (Ne.symm hne)
      have old : ∀ (j : Nat) (c' : Cl) (v' : V) (fq : List Addr), ρ[j]? = some (some c') → σ[j]? = some (some v') → OwH K H P' c' v' fq → OwH K H P c' v' fq := fun j c' v' fq g1 g2 g3 => by
        have io' : isOw c' = true := by cases c' <;> first | rfl | exact g3.elim
        obtain ⟨w, fr, k1, k2, k3, k4⟩ := E.ows j c' g1 io'
        rw [g2] at k1; cases k1
        rw [g3.uniq (k2.move sm fun _ _ => rfl)]; exact k2
      refine ⟨P', hsub, ⟨fun a h => ⟨E.sub a h, fun z => (h3 a z).2 h⟩, fun a h => E.trk a h.1, fun j d h => ?_, fun j c' h io' => ?_, fun j k c1 c2 v1 v2 f1 f2 q1 q2 q3 q4 q5 q6 hne => ?_, by rw [List.length_set]; exact E.len, fun j c' n h hp => ?_⟩⟩
      rotate_left 3
      · rcases get_set h with ⟨rfl, hl, z⟩ | ⟨hne, h⟩
        · cases z; cases hp
        · exact E.pin j c' n h hp
      · rcases get_set h with ⟨rfl, hl, z⟩ | ⟨hne, h⟩
        · cases z
          exact ⟨v, h1, o.has hsub fun a ha z => z.2 ha⟩
        · obtain ⟨w, k1, k2⟩ := E.val j d h
          exact ⟨w, k1, k2.mono sm⟩
      · rcases get_set h with ⟨rfl, hl, z⟩ | ⟨hne, h⟩
        · cases z; cases io'
        · obtain ⟨w, fq, k1, k2, k3, k4⟩ := E.ows j c' h io'
          exact ⟨w, fq, k1, k2.move sm fun _ _ => rfl, fun a ha => ⟨⟨(k3 a ha).1, dj j c' w fq hne h k1 k2 a ha⟩, (k3 a ha).2⟩, k4⟩
      · rcases get_set q1 with ⟨rfl, hl, z⟩ | ⟨hn1, q1⟩
        · cases z; exact q5.elim
        · rcases get_set q2 with ⟨rfl, hl, z⟩ | ⟨hn2, q2⟩
          · cases z; exact q6.elim
          · exact E.apart j k c1 c2 v1 v2 f1 f2 q1 q2 q3 q4 (old j c1 v1 f1 q1 q3 q5) (old k c2 v2 f2 q2 q4 q6) hne
  · exact ⟨P, fun _ h => h, E⟩
theorem gS.less {K : PySem.W.Frag} {P' : Addr → Prop} {Z : Ends} {m : M Out} (hs : ∀ a, P' a → P a) (h : gS K WX P0 P H Z m) : gS K WX P0 P' H Z m := by
  have tr : ∀ {P2 : Addr → Prop} {H2 : Hp}, Tr P0 P' H P2 H2 → Tr P0 P H P2 H2 := fun t => ⟨(del_sub hs).trans t.1, t.2⟩
  cases m with
  | bad => exact h
  | ex x => exact fun H2 P2 t2 => h H2 P2 (tr t2)
  | ok o =>
    cases o with
    | ret d => exact fun v H2 P2 t2 hv => h v H2 P2 (tr t2) hv
    | next ρ => exact fun σ2 H2 P2 t2 hv => h σ2 H2 P2 (tr t2) hv
    | brk ρ => exact fun σ2 H2 P2 t2 hv => h σ2 H2 P2 (tr t2) hv
    | cont ρ => exact fun σ2 H2 P2 t2 hv => h σ2 H2 P2 (tr t2) hv
    | retO c => exact fun v fp H2 P2 t2 => h v fp H2 P2 (tr t2)
    | retE c ρ => exact fun v fp σ2 H2 P2 t2 => h v fp σ2 H2 P2 (tr t2)
theorem ds_frz (i : Nat) {st : Stmt} {g1 : Rho → M Out} (h : DS X WX st g1) : DS X WX st (fun ρ => g1 (frzR i ρ)) := by
  obtain ⟨t, h1, h2⟩ := h
  refine ⟨t, h1, fun P0 P σ H Z ρ E h => ?_⟩
  obtain ⟨P', hs, E'⟩ := E.frz i
  exact h2 P0 P' σ H Z _ E' (h.less hs)
end
end L2

set_option Elab.async false
set_option linter.all false
set_option maxRecDepth 100000
namespace L2
open PySem PySem.Spec PyProof.Rows
/-! ### places within one's own things -/
section
variable {K : PySem.W.Frag} {H H' : Hp} {P P' : Addr → Prop}
theorem NodeV.same {v : V} {t : OT} {q : List Addr} {xs : List V} (e : Same H H') (h : NodeV K H P v t q xs) : NodeV K H' P v t q xs := by
  cases t with
  | sh d => exact h.elim
  | lst ts => obtain ⟨p, rfl, rfl, h⟩ := h; exact ⟨p, rfl, rfl, e _ _ h⟩
  | tup ts => obtain ⟨p, rfl, rfl, h⟩ := h; exact ⟨p, rfl, rfl, e.del _ _ h⟩
  | dct b ks ts =>
    cases b with
    | false => obtain ⟨p, kvs, rfl, rfl, h, rfl, rfl⟩ := h; exact ⟨p, kvs, rfl, rfl, e _ _ h, rfl, rfl⟩
    | true => obtain ⟨p, kvs, rfl, rfl, h, rfl, rfl⟩ := h; exact ⟨p, kvs, rfl, rfl, e _ _ h, rfl, rfl⟩
  | ins x ns ts => obtain ⟨p, C, dx, fs, rfl, rfl, n, h, rfl, rfl⟩ := h; exact ⟨p, C, dx, fs, rfl, rfl, n, e _ _ h, rfl, rfl⟩
theorem SubV.same {v v1 : V} {t t1 : OT} {π : List Nat} (e : Same H H') (h : SubV K H P v t π v1 t1) : SubV K H' P v t π v1 t1 := by
  induction h with
  | nil => exact .nil
  | cons n hx hs _ ih => exact .cons (n.same e) hx hs ih
theorem NodeV.more {v : V} {t : OT} {q : List Addr} {xs : List V} (sm : Same (del H P) (del H' P')) (e : Same H H') (h : NodeV K H P v t q xs) : NodeV K H' P' v t q xs := by
  cases t with
  | sh d => exact h.elim
  | lst ts => obtain ⟨p, rfl, rfl, h⟩ := h; exact ⟨p, rfl, rfl, e _ _ h⟩
  | tup ts => obtain ⟨p, rfl, rfl, h⟩ := h; exact ⟨p, rfl, rfl, sm _ _ h⟩
  | dct b ks ts =>
    cases b with
    | false => obtain ⟨p, kvs, rfl, rfl, h, rfl, rfl⟩ := h; exact ⟨p, kvs, rfl, rfl, e _ _ h, rfl, rfl⟩
    | true => obtain ⟨p, kvs, rfl, rfl, h, rfl, rfl⟩ := h; exact ⟨p, kvs, rfl, rfl, e _ _ h, rfl, rfl⟩
  | ins x ns ts => obtain ⟨p, C, dx, fs, rfl, rfl, n, h, rfl, rfl⟩ := h; exact ⟨p, C, dx, fs, rfl, rfl, n, e _ _ h, rfl, rfl⟩
theorem SubV.more {v v1 : V} {t t1 : OT} {π : List Nat} (sm : Same (del H P) (del H' P')) (e : Same H H') (h : SubV K H P v t π v1 t1) : SubV K H' P' v t π v1 t1 := by
  induction h with
  | nil => exact .nil
  | cons n hx hs _ ih => exact .cons (n.more sm e) hx hs ih
end
/-- what stands at the path π of the name i -/
def atR (i : Nat) (ρ : Rho) (π : List Nat) : Option OT := match ρ[i]? with
  | some (some c) => (match treeOf c with | some (_, t) => subT t π | none => none)
  | _ => none
structure PlaceV (K : PySem.W.Frag) (P : Addr → Prop) (H : Hp) (σ : St) (ρ : Rho) (i : Nat) (π : List Nat) (v : V) (t1 : OT) : Prop where
  ex : ∃ v0 c p t, ρ[i]? = some (some c) ∧ treeOf c = some (p, t) ∧ σ[i]? = some (some v0) ∧ SubV K H P v0 t π v t1
theorem PlaceV.at {K : PySem.W.Frag} {P : Addr → Prop} {H : Hp} {σ : St} {ρ : Rho} {i : Nat} {π : List Nat} {v : V} {t1 : OT} (h : PlaceV K P H σ ρ i π v t1) : atR i ρ π = some t1 := by
  obtain ⟨v0, c, p, t, h1, h2, h3, h4⟩ := h.ex
  unfold atR
  simp only [h1, h2]
  exact h4.sub
theorem PlaceV.same {K : PySem.W.Frag} {P : Addr → Prop} {H H' : Hp} {σ : St} {ρ : Rho} {i : Nat} {π : List Nat} {v : V} {t1 : OT} (e : Same H H') (h : PlaceV K P H σ ρ i π v t1) : PlaceV K P H' σ ρ i π v t1 := by
  obtain ⟨v0, c, p, t, h1, h2, h3, h4⟩ := h.ex
  exact ⟨v0, c, p, t, h1, h2, h3, h4.same e⟩
theorem PlaceV.more {K : PySem.W.Frag} {P P' : Addr → Prop} {H H' : Hp} {σ : St} {ρ : Rho} {i : Nat} {π : List Nat} {v : V} {t1 : OT} (sm : Same (del H P) (del H' P')) (e : Same H H') (h : PlaceV K P H σ ρ i π v t1) : PlaceV K P' H' σ ρ i π v t1 := by
  obtain ⟨v0, c, p, t, h1, h2, h3, h4⟩ := h.ex
  exact ⟨v0, c, p, t, h1, h2, h3, h4.more sm e⟩
theorem PlaceV.own {K : PySem.W.Frag} {P0 : P0T} {P : Addr → Prop} {H : Hp} {σ : St} {ρ : Rho} {i : Nat} {π : List Nat} {v : V} {t1 : OT} (h : PlaceV K P H σ ρ i π v t1) (E : EnvP K P0 P H σ ρ) : ∃ fp1, OwT K H P v t1 fp1 ∧ (∀ a ∈ fp1, P a ∧ ¬ P0 a) ∧ fp1.Nodup := by
  obtain ⟨v0, c, p, t, h1, h2, h3, h4⟩ := h.ex
  have io : isOw c = true := by cases c <;> first | rfl | cases h2
  obtain ⟨w, fp, k1, k2, k3, k4⟩ := E.ows i c h1 io
  rw [h3] at k1; cases k1
  obtain ⟨fp1, o1, hk, kn⟩ := (k2.toT h2).part h4
  exact ⟨fp1, o1, fun a ha => k3 a (hk a ha), kn k4⟩
def gP (K : PySem.W.Frag) (WX : Str → Hp → Prop) (P : Addr → Prop) (H : Hp) (σ : St) (ρ : Rho) (i : Nat) (Q : VK) : M (List Nat) → Prop
  | .ok π => ∀ v t1 H', Same H H' → PlaceV K P H' σ ρ i π v t1 → Q v H'
  | .ex x => ∀ H', Same H H' → WX x H'
  | .bad => False
def DP (X : Cx) (WX : Str → Hp → Prop) (e : Expr) (i : Nat) (f : Rho → M (List Nat)) : Prop :=
  ∃ t, PE X e t ∧ ∀ P0 P σ H Q ρ, EnvP X.K P0 P H σ ρ → gP X.K WX P H σ ρ i Q (f ρ) → t σ H Q
section
variable {X : Cx} {WX : Str → Hp → Prop} {c : Bool} {P0 : P0T} {P : Addr → Prop} {H : Hp} {σ : St} {ρ : Rho} {a b e : Expr} {f g : Rho → M D} {fn : Rho → M OT} {fp : Rho → M (List Nat)} {pos : Pos} {i : Nat}
def isPl (i : Nat) (ρ : Rho) : M (List Nat) := match atR i ρ [] with | some _ => .ok [] | none => .bad
theorem dp_name (i : Nat) {x : Str} {p1 : Pos} (hv : PE X (.Name x p1) (tVar i)) : DP X WX (.Name x p1) i (isPl i) := by
  refine ⟨_, hv, fun P0 P σ H Q ρ E h => ?_⟩
  unfold isPl at h
  split at h
  · rename_i t e
    unfold atR at e
    split at e
    · rename_i cl e1
      split at e
      · rename_i p t0 e2
        have io : isOw cl = true := by cases cl <;> first | rfl | cases e2
        obtain ⟨v, fp, h1, h2, h3, h4⟩ := E.ows i cl e1 io
        exact ⟨v, h1, h v t0 H (Same.refl H) ⟨v, cl, p, t0, e1, e2, h1, .nil⟩⟩
      · cases e
    · cases e
  · exact h.elim
/-- the thing at a place is changed -/
theorem EnvP.mutP {K : PySem.W.Frag} {P' : Addr → Prop} {H' : Hp} {π : List Nat} {v1 : V} {t1 u : OT} {fp1 fu : List Addr} (E : EnvP K P0 P H σ ρ) (pl : PlaceV K P H σ ρ i π v1 t1) (o : OwT K H P v1 t1 fp1) (hs : ∀ a, P a → P' a) (ht : ∀ a, P' a → Trk H' a) (sm : Same (del H P) (del H' P')) (keep : ∀ a, P a → a ∉ fp1 → H' a = H a)
    (o' : OwT K H' P' v1 u fu) (nd : fu.Nodup) (hf : ∀ a ∈ fu, a ∈ fp1 ∨ (P' a ∧ ¬ P0 a ∧ ∀ (j : Nat) c v fp, ρ[j]? = some (some c) → σ[j]? = some (some v) → OwH K H P c v fp → a ∉ fp)) :
    ∃ c p t, ρ[i]? = some (some c) ∧ treeOf c = some (p, t) ∧ EnvP K P0 P' H' σ (ρ.set i (some (toCl p (putT t π u)))) ∧ Tr P0 P H P' H' := by
  obtain ⟨v0, c, p, t, h1, h2, h3, h4⟩ := pl.ex
  have io : isOw c = true := by cases c <;> first | rfl | cases h2
  obtain ⟨w, fp, k1, k2, k3, k4⟩ := E.ows i c h1 io
  rw [h3] at k1; cases k1
  have ot := k2.toT h2
  obtain ⟨fz, oz, kz, _⟩ := ot.part h4
  have := oz.uniq o; subst this
  obtain ⟨fp', q1, q2, q3⟩ := ot.put sm h4 o o' (fun a ha hn => keep a (k3 a ha).1 hn) k4 nd (fun a ha hb => (hf a ha).elim id fun z => (z.2.2 i c v0 fp h1 h3 k2 hb).elim)
  refine ⟨c, p, t, h1, h2, ?_, sm, fun a ha => keep a (E.sub a ha) fun z => (k3 a (kz a z)).2 ha⟩
  have key := E.putO (P' := P') (H' := H') (i := i) (v := v0) (c := toCl p (putT t π u)) (fp := fp') hs ht sm (fun j c' v' fq hne g1 g2 g3 a ha => ?_) (OwH.toCl q1) (fun a ha => ?_) q2 (fun n z => by rw [pinOf_toCl] at z; subst z; have := E.pin i c n h1 (pinOf_tree h2); rw [h3] at this; cases this; rfl)
  · rw [set_at h3] at key
    exact key
  · have nfp : a ∉ fp := E.apart j i c' c v' v0 fq fp g1 h1 g2 h3 g3 k2 (Ne.symm hne) a ha
    have io' : isOw c' = true := by cases c' <;> first | rfl | exact g3.elim
    obtain ⟨w', fr, m1, m2, m3, m4⟩ := E.ows j c' g1 io'
    rw [g2] at m1; cases m1
    have := m2.uniq g3; subst this
    refine ⟨keep a (m3 a ha).1 fun z => nfp (kz a z), fun z => ?_⟩
    rcases q3 a z with y | y
    · rcases hf a y with x | x
      · exact nfp (kz a x)
      · exact x.2.2 j c' v' fr g1 g2 g3 ha
    · exact nfp y.1
  · rcases q3 a ha with y | y
    · rcases hf a y with x | x
      · exact ⟨hs a (k3 a (kz a x)).1, (k3 a (kz a x)).2⟩
      · exact ⟨x.1, x.2.1⟩
    · exact ⟨hs a (k3 a y.1).1, (k3 a y.1).2⟩
/-- the list at a place gets other contents: of what it had, and new things -/
theorem EnvP.mutL {K : PySem.W.Frag} {π : List Nat} {l : Addr} {xs ys : List V} {ts us : List OT} {fq fu : List Addr} (E : EnvP K P0 P H σ ρ) (pl : PlaceV K P H σ ρ i π (.ref l) (.lst ts)) (hH : H l = some (.lst xs)) (o : OwTs K H P xs ts fq) (o' : OwTs K H P ys us fu) (nd : fu.Nodup) (hl : l ∉ fu)
    (hf : ∀ a ∈ fu, a ∈ fq ∨ (P a ∧ ¬ P0 a ∧ ∀ (j : Nat) c v fp, ρ[j]? = some (some c) → σ[j]? = some (some v) → OwH K H P c v fp → a ∉ fp)) :
    ∃ c p t, ρ[i]? = some (some c) ∧ treeOf c = some (p, t) ∧ EnvP K P0 P (upd H l (.lst ys)) σ (ρ.set i (some (toCl p (putT t π (.lst us))))) ∧ Tr P0 P H P (upd H l (.lst ys)) := by
  have ot : OwT K H P (.ref l) (.lst ts) (l :: fq) := .lst hH o
  obtain ⟨fp1, o1, hp, _⟩ := pl.own E
  have := o1.uniq ot; subst this
  have pP : P l := (hp l List.mem_cons_self).1
  have sd : del (upd H l (.lst ys)) P = del H P := by
    funext b
    by_cases hb : P b
    · rw [del_in hb, del_in hb]
    · rw [del_of hb, del_of hb, upd_ne (fun z => hb (by rw [z]; exact pP))]
  have sm : Same (del H P) (del (upd H l (.lst ys)) P) := by rw [sd]; exact Same.refl _
  refine E.mutP pl ot (fun _ h => h) (fun a h => ?_) sm (fun a ha hn => upd_ne fun z => hn (by rw [z]; exact List.mem_cons_self)) (.lst upd_same (o'.move sm fun a ha => upd_ne fun z => hl (by rw [← z]; exact ha))) (List.nodup_cons.mpr ⟨hl, nd⟩) (fun a ha => ?_)
  · by_cases ha : a = l
    · subst ha; exact Trk.lst upd_same
    · unfold Trk; rw [upd_ne ha]; exact E.trk a h
  · rcases List.mem_cons.mp ha with z | z
    · exact .inl (by rw [z]; exact List.mem_cons_self)
    · rcases hf a z with y | y
      · exact .inl (List.mem_cons_of_mem _ y)
      · exact .inr y
end
end L2

set_option Elab.async false
set_option linter.all false
set_option maxRecDepth 100000
namespace L2
open PySem PySem.Spec PyProof.Rows
/-! ### dicts as data -/
def kd : D → Option Key
  | .int i => some (.inl i)
  | .str x => some (.inr x)
  | _ => none
def kds : List D → Option (List Key)
  | [] => some []
  | d :: r => match kd d, kds r with | some k, some ks => some (k :: ks) | _, _ => none
theorem kd_dk {d : D} {k : Key} (h : kd d = some k) : d = dkD k := by
  cases d <;> simp [kd] at h <;> subst h <;> rfl
theorem kds_dk : ∀ {ds : List D} {ks : List Key}, kds ds = some ks → ds = ks.map dkD
  | [], ks, h => by cases h; rfl
  | d :: r, ks, h => by
    rw [kds] at h
    cases q : kd d with
    | none => rw [q] at h; cases h
    | some k =>
      cases q2 : kds r with
      | none => rw [q, q2] at h; cases h
      | some ks' =>
        rw [q, q2] at h
        cases h
        rw [List.map_cons, ← kd_dk q, ← kds_dk q2]
/-- what may be a key of a dict of this kind -/
inductive KeyD : Bool → D → Prop
  | k (κ : Key) : KeyD false (dkD κ)
  | t (κ : List Key) : KeyD true (.tup (κ.map dkD))
def keyOk (b : Bool) (d : D) : Bool := match b, d with
  | false, d => (kd d).isSome
  | true, .tup ds => (kds ds).isSome
  | _, _ => false
theorem keyOk_of {b : Bool} {d : D} (h : keyOk b d = true) : KeyD b d := by
  cases b with
  | false =>
    obtain ⟨k, hk⟩ := Option.isSome_iff_exists.mp (show (kd d).isSome = true from h)
    rw [kd_dk hk]; exact .k k
  | true =>
    cases d with
    | tup ds =>
      obtain ⟨k, hk⟩ := Option.isSome_iff_exists.mp (show (kds ds).isSome = true from h)
      rw [kds_dk hk]; exact .t k
    | _ => cases h
theorem eqD_dk (a b : Key) : eqD (dkD a) (dkD b) = decide (a = b) := by
  cases a with
  | inl i =>
    cases b with
    | inl j => simp only [dkD, eqD]; rw [Bool.eq_iff_iff]; simp
    | inr y => simp [dkD, eqD]
  | inr x =>
    cases b with
    | inl j => simp [dkD, eqD]
    | inr y => simp only [dkD, eqD]; rw [Bool.eq_iff_iff]; simp
theorem eqDs_dk : ∀ a b : List Key, eqDs (a.map dkD) (b.map dkD) = decide (a = b)
  | [], [] => by simp [eqDs]
  | [], _ :: _ => by simp [eqDs]
  | _ :: _, [] => by simp [eqDs]
  | a :: r, b :: t => by
    rw [List.map_cons, List.map_cons, eqDs, eqD_dk, eqDs_dk r t, Bool.eq_iff_iff]
    simp
/-- the value at a key, of keys and values side by side -/
def getK {α : Type} : List D → List α → D → Option α
  | k :: ks, v :: vs, y => if eqD k y = true then some v else getK ks vs y
  | _, _, _ => none
def hasK (ks : List D) (y : D) : Bool := ks.any fun k => eqD k y
section
variable {κ : Type} [DecidableEq κ] {fk : κ → D} (hf : ∀ a b, eqD (fk a) (fk b) = decide (a = b))
include hf
theorem getK_val {α : Type} : ∀ (kvs : List (κ × α)) (k : κ), getK (kvs.map fun kv => fk kv.1) (kvs.map Prod.snd) (fk k) = (kvs.find? fun kv => decide (kv.1 = k)).map (·.2)
  | [], k => rfl
  | p :: r, k => by
    rw [List.map_cons, List.map_cons, getK, hf, List.find?_cons]
    by_cases e : p.1 = k
    · rw [decide_eq_true e]; rfl
    · rw [decide_eq_false e]
      simp only [Bool.false_eq_true, if_false]
      exact getK_val r k
end
theorem getK_has {K : PySem.W.Frag} {H : Hp} : ∀ {ks : List D} {xs : List V} {ds : List D} {y d : D}, HasL K H xs ds → getK ks ds y = some d → ∃ x, getK ks xs y = some x ∧ Has K H x d
  | [], _, _, _, _, _, e => by simp [getK] at e
  | _ :: _, _, _, _, _, .nil, e => by simp [getK] at e
  | k :: ks, _, _, y, d, .cons h t, e => by
    rw [getK] at e ⊢
    by_cases q : eqD k y = true
    · rw [if_pos q] at e ⊢; cases e; exact ⟨_, rfl, h⟩
    · rw [if_neg q] at e ⊢; exact getK_has t e
section
variable {K : PySem.W.Frag} {H : Hp} {P : Addr → Prop}
theorem HasL.keys : ∀ {xs : List V} (κ : List Key), HasL K H xs (κ.map dkD) → xs = κ.map kV
  | _, [], .nil => rfl
  | _, k :: r, .cons h t => by
    rw [List.map_cons, ← HasL.keys r t]
    congr 1
    cases k with
    | inl i => exact h.int_inv
    | inr x => cases h; rfl
theorem Has.keyV {y : V} {κ : Key} (h : Has K H y (dkD κ)) : y = kV κ := by
  cases κ with
  | inl i => exact h.int_inv
  | inr x => cases h; rfl
/-- what a dict that may be read holds at a key -/
theorem dget_of {v y : V} {b : Bool} {ks vs : List D} {k : D} (hv : Has K (del H P) v (.dct b ks vs)) (hy : Has K (del H P) y k) (hk : KeyD b k) : ∃ a xs, v = .ref a ∧ DGet H a y (getK ks xs k) ∧ HasL K (del H P) xs vs ∧ xs.length = ks.length := by
  cases hv with
  | dcK hh hl =>
    cases hk with
    | k κ =>
      refine ⟨_, _, rfl, ?_, hl, by simp⟩
      rw [hy.keyV, getK_val eqD_dk]
      exact DGet.k (del_some hh).2
  | dcT hh hl =>
    cases hk with
    | t κ =>
      cases hy with
      | tup ht hl2 =>
        have e := HasL.keys κ hl2
        subst e
        refine ⟨_, _, rfl, ?_, hl, by simp⟩
        rw [getK_val (fk := fun κ : List Key => D.tup (κ.map dkD)) (fun a b => by simp only [eqD]; exact eqDs_dk a b)]
        exact DGet.t (del_some hh).2 (del_some ht).2
end
section
variable {X : Cx} {WX : Str → Hp → Prop} {c : Bool} {P0 : P0T} {P : Addr → Prop} {H : Hp} {σ : St} {ρ : Rho} {a b e : Expr} {f g : Rho → M D} {fn : Rho → M OT} {fp : Rho → M (List Nat)} {pos : Pos} {i : Nat}
def rIxD : R2 := fun x y H Q => ∃ a v, x = .ref a ∧ DGet H a y (some v) ∧ Q v H
theorem ix_dict (hu : X.A.units + 1 < cLine) : IxR X rIxD := by
  intro value slice pins s σ H x y v u Q I rx ry h hs
  obtain ⟨a, z, rfl, g, q⟩ := h
  cases rx
  have hT := dict_typeIs I g
  have h₂ : wpAny (model X.prog X.w) X.A (getItem (.ref a) u) (EP X pins σ Q) X.xe s := d_getItem hu I g ry fun w' s3 I3 rw' => ⟨z, H, I3, rw', q⟩
  unfold subscriptTail
  refine wpAny_bind ?_
  rw [getitemInPython_of_ne hT.not_modules]
  refine wpAny_bind (wpAny_specialOf hT PySem.F.slot_dict_getitem.lookup ?_)
  have fin : wpAny (model X.prog X.w) X.A (subscripted slice false (.ref a) u) (fun r s₃ => wpAny (model X.prog X.w) X.A (letTemporaryGo value (.ref a) r >>= fun _ => pure r) (EP X pins σ Q) X.xe s₃) X.xe s := by
    rw [hs]
    exact wpAny_operating (wpAny_mono h₂ (fun r s₃ h₃ => wpAny_bind (wpAny_letTemporaryGo (wpAny_pure h₃))) fun _ _ x => x)
  first
    | exact wpAny_pure (wpAny_bind fin)
    | exact wpAny_bind (wpAny_pure (wpAny_bind fin))
    | exact wpAny_bind fin
/-- x[y]: a list, a tuple, a dict -/
def dItm (x y : D) : M D := match x with
  | .dct b ks vs => if keyOk b y = true then (match getK ks vs y with | some d => .ok d | none => .bad) else .bad
  | x => dIx x y
theorem opd_itm : OpD X.K WX (fun x y H Q => (rIxL X.K x y H Q ∨ rIxT X.K x y H Q) ∨ rIxD x y H Q) dItm := by
  intro P H x y v w Q ht hx hy h
  cases x with
  | dct b ks vs =>
    simp only [dItm] at h
    by_cases hk : keyOk b y = true
    · rw [if_pos hk] at h
      obtain ⟨a, xs, rfl, g, hl, _⟩ := dget_of hx hy (keyOk_of hk)
      split at h
      · rename_i d e
        obtain ⟨u, e1, e2⟩ := getK_has hl e
        rw [e1] at g
        exact .inr ⟨a, u, rfl, g, h _ H (Same.refl H) e2⟩
      · exact h.elim
    · rw [if_neg hk] at h; exact h.elim
  | non => exact .inl (opd_ix P H _ y v w Q ht hx hy h)
  | bl b => exact .inl (opd_ix P H _ y v w Q ht hx hy h)
  | int b => exact .inl (opd_ix P H _ y v w Q ht hx hy h)
  | str b => exact .inl (opd_ix P H _ y v w Q ht hx hy h)
  | tup b => exact .inl (opd_ix P H _ y v w Q ht hx hy h)
  | lst b => exact .inl (opd_ix P H _ y v w Q ht hx hy h)
  | exn b => exact .inl (opd_ix P H _ y v w Q ht hx hy h)
  | ins b _ _ => exact .inl (opd_ix P H _ y v w Q ht hx hy h)
theorem de_itm {n : Nat} (hu : X.A.units + n < cLine) (ha : DE X WX c a f) (hb : DE X WX c b g) (hs : PlainIx b := by exact fun _ _ => rfl) (hn : 1 ≤ n := by decide) : DE X WX c (.Subscript a b pos) (fun ρ => (f ρ).bind fun x => (g ρ).bind fun y => dItm x y) := de_ix ((ix_list.or ix_tup).or (ix_dict (by omega))) opd_itm ha hb hs
/-- y in x: a list of ints, a dict -/
def dMem (neg : Bool) (y x : D) : M D := match x with
  | .dct b ks vs => if keyOk b y = true then .ok (.bl (if neg = true then !hasK ks y else hasK ks y)) else .bad
  | x => dIn neg y x
/-! truth -/
def truD : D → M Bool
  | .non => .ok false
  | .bl b => .ok b
  | .int i => .ok (i != 0)
  | .tup ds => .ok (!ds.isEmpty)
  | .lst ds => .ok (!ds.isEmpty)
  | _ => .bad
theorem isEmpty_hasL {K : PySem.W.Frag} {H : Hp} {xs : List V} {ds : List D} (h : HasL K H xs ds) : (!ds.isEmpty) = !xs.isEmpty := by cases h <;> rfl
theorem dt_tru (h : DE X WX c e f) (he : ∀ whole, isTrue e X.env whole = (do let v ← whole; standAt e.pos; holding [v] (truthy v)) := by intro _; rfl) : DT X WX e (fun ρ => (f ρ).bind truD) := by
  obtain ⟨t, h1, h2⟩ := h
  refine ⟨_, pt_truth h1 he, fun P0 P σ H Q ρ E h => h2 P0 P σ H _ ρ E ?_⟩
  dsimp only at h
  cases q : f ρ with
  | bad => rw [q] at h; exact h
  | ex x => rw [q] at h; exact h
  | ok d =>
    rw [q] at h
    simp only [M.bind_ok] at h
    intro v H' s hv
    cases hv with
    | non => exact ⟨false, rfl, h H' s⟩
    | bl b => exact ⟨b, rfl, h H' s⟩
    | int i => exact ⟨_, rfl, h H' s⟩
    | tup hs hl => exact ⟨_, .inr (.inl ⟨_, SqT.of (del_some hs).2, rfl⟩), by rw [← isEmpty_hasL hl]; exact h H' s⟩
    | lst hs hl => exact ⟨_, .inl ⟨_, hs.undel, rfl⟩, by rw [← isEmpty_hasL hl]; exact h H' s⟩
    | _ => exact h.elim
end
end L2

set_option Elab.async false
set_option linter.all false
set_option maxRecDepth 100000
namespace L2
open PySem PySem.Spec PyProof.Rows
/-! ### comprehensions: new lists -/
def compT (m : M (List D)) : M OT := match m with | .ok ys => .ok (.lst (ys.map .sh)) | _ => .bad
section
variable {X : Cx} {WX : Str → Hp → Prop} {c : Bool} {P0 : P0T} {P : Addr → Prop} {H : Hp} {σ : St} {ρ : Rho} {a b e tg iter : Expr} {f g : Rho → M D} {ft : Rho → M Bool} {pos : Pos} {gt : D → Rho → M Rho} {fi : Rho → M (List D)} {es : List Expr} {fs : Rho → M (List D)}
end
end L2

set_option Elab.async false
set_option linter.all false
set_option maxRecDepth 100000
namespace L2
open PySem PySem.Spec PyProof.Rows
/-! ### a def to which a thing of one's own is lent: it changes it, and gives a new thing -/
def gIOT (K : PySem.W.Frag) (WX : Str → Hp → Prop) (P : Addr → Prop) (p : Addr) (fp : List Addr) (H : Hp) (Q : VK) : M (OT × OT) → Prop
  | .ok (t, r) => ∀ v H' P' fp' fr, (∀ a, P a → a ∉ fp → P' a ∧ H' a = H a) → (∀ a, P' a → Trk H' a) → Same (del H P) (del H' P') → OwT K H' P' (.ref p) t fp' → fp'.Nodup → OwT K H' P' v r fr → fr.Nodup → (∀ a ∈ fr, a ∉ fp') →
      (∀ a ∈ fp', P' a ∧ (P a → a ∈ fp)) → (∀ a ∈ fr, P' a ∧ (P a → a ∈ fp)) → Q v H'
  | .ex _ => False
  | .bad => False
def spIOT (K : PySem.W.Frag) (n : Nat) (F : OT → List D → M (OT × OT)) : Sp := fun vs H Q E => vs.length = n ∧ ∃ P p t fp rest dsr, vs = .ref p :: rest ∧ (∀ a, P a → Trk H a) ∧ (∀ a ∈ fp, P a) ∧ fp.Nodup ∧ OwT K H P (.ref p) t fp ∧ HasL K (del H P) rest dsr ∧ gIOT K (wxOf K E) P p fp H Q (F t dsr)
def stIOT (N : List Str) (t : OT) (dsr : List D) : Rho := some (toCl (some 0) t) :: (dsr.map (fun d => some (.val d)) ++ List.replicate (N.length - (dsr.length + 1)) none)
def lentOf (ρ : Rho) : Option OT := match ρ[0]? with
  | some (some c) => (match treeOf c with | some (some 0, t) => some t | _ => none)
  | _ => none
def finIOT (m : M Out) : M (OT × OT) := match m with
  | .ok (.next ρ) => (match lentOf ρ with | some t => .ok (t, .sh .non) | none => .bad)
  | .ok (.retE r ρ) => (match lentOf ρ with | some t => .ok (t, r) | none => .bad)
  | _ => .bad
theorem isOw_toCl (p : Option Nat) (t : OT) : isOw (toCl p t) = true := by
  unfold toCl
  split
  · rename_i ts
    cases q : shsOf ts with
    | none => rfl
    | some ds => cases p <;> rfl
  · rfl
theorem env_startIOT {K : PySem.W.Frag} {P : Addr → Prop} {H : Hp} {N : List Str} {p : Addr} {t : OT} {fp : List Addr} {rest : List V} {dsr : List D} (ht : ∀ a, P a → Trk H a) (hp : ∀ a ∈ fp, P a) (nd : fp.Nodup) (o : OwT K H P (.ref p) t fp) (h : HasL K (del H P) rest dsr) :
    EnvP K ⟨fun a => P a ∧ a ∉ fp, fun _ => p⟩ P H (start N (.ref p :: rest)) (stIOT N t dsr) := by
  have hl := h.length
  have key : ∀ (i : Nat) (c : Cl), (dsr.map (fun d => some (Cl.val d)) ++ List.replicate (N.length - (dsr.length + 1)) none)[i]? = some (some c) → ∃ d, dsr[i]? = some d ∧ c = .val d := fun i c e => by
    by_cases hi : i < dsr.length
    · rw [List.getElem?_append_left (by simpa using hi), List.getElem?_map] at e
      cases q : dsr[i]? with
      | none => rw [q] at e; cases e
      | some d => rw [q] at e; cases e; exact ⟨d, rfl, rfl⟩
    · rw [List.getElem?_append_right (by simpa using hi), List.getElem?_replicate] at e
      split at e <;> cases e
  have st0 : (start N (.ref p :: rest))[0]? = some (some (.ref p)) := by unfold start; rfl
  refine ⟨fun a h => h.1, ht, fun i d e => ?_, fun i c e io => ?_, fun i j c c' v v' fp fp' e1 e2 _ _ o1 o2 hne => ?_, ?_, fun i c n e hpn => ?_⟩
  rotate_left 4
  · cases i with
    | zero => exact st0
    | succ i =>
      obtain ⟨d', q, z⟩ := key i _ (by unfold stIOT at e; simpa using e)
      cases z
      cases hpn
  · cases i with
    | zero =>
      have e' : some (toCl (some 0) t) = some (.val d) := by simpa [stIOT] using e
      have := isOw_toCl (some 0) t
      rw [Option.some.inj e'] at this
      cases this
    | succ i =>
      obtain ⟨d', q, z⟩ := key i _ (by unfold stIOT at e; simpa using e)
      cases z
      obtain ⟨v, hv, hd⟩ := h.get q
      refine ⟨v, ?_, hd⟩
      unfold start
      rw [List.map_cons, List.cons_append, List.getElem?_cons_succ, List.getElem?_append_left (by rw [List.length_map]; exact (List.getElem?_eq_some_iff.mp hv).1), List.getElem?_map, hv]
      rfl
  · cases i with
    | zero =>
      have e' : toCl (some 0) t = c := by simpa [stIOT] using e
      subst e'
      exact ⟨_, fp, st0, OwH.toCl o, fun a ha => ⟨hp a ha, fun z => z.2 ha⟩, nd⟩
    | succ i =>
      obtain ⟨d', q, z⟩ := key i _ (by unfold stIOT at e; simpa using e)
      cases z
      cases io
  · cases i with
    | zero =>
      cases j with
      | zero => exact (hne rfl).elim
      | succ j =>
        obtain ⟨d', q, z⟩ := key j _ (by unfold stIOT at e2; simpa using e2)
        cases z
        exact o2.elim
    | succ i =>
      obtain ⟨d', q, z⟩ := key i _ (by unfold stIOT at e1; simpa using e1)
      cases z
      exact o1.elim
  · unfold start stIOT
    simp [hl]
section
variable {P : Program} {w : World} {K : PySem.W.Frag} {mg : Str → Option Value} {base : Heap}
theorem lent_at {P0 : P0T} {P' : Addr → Prop} {H' : Hp} {σ' : St} {ρ : Rho} {t : OT} (E : EnvP K P0 P' H' σ' ρ) (h : lentOf ρ = some t) : ∃ c fp', ρ[0]? = some (some c) ∧ σ'[0]? = some (some (.ref (P0.g 0))) ∧ OwH K H' P' c (.ref (P0.g 0)) fp' ∧ OwT K H' P' (.ref (P0.g 0)) t fp' ∧ fp'.Nodup ∧ ∀ a ∈ fp', P' a ∧ ¬ P0 a := by
  unfold lentOf at h
  split at h
  · rename_i c e
    split at h
    · rename_i t' e2
      cases h
      have io : isOw c = true := by cases c <;> first | rfl | cases e2
      obtain ⟨v, fp, k1, k2, k3, k4⟩ := E.ows 0 c e io
      have := E.pin 0 c 0 e (pinOf_tree e2)
      rw [k1] at this
      cases this
      exact ⟨c, fp, e, k1, k2, k2.toT e2, k4, k3⟩
    · cases h
  · cases h
theorem fn_IOT {x qual : Str} {st : Stmt} {f : Addr} {fd : FuncData} {N ps : List Str} {k : Nat} (F : Fun K x qual st f fd) (S : FnScope N ps (defScope st)) (g : Rho → M Out)
    (hb : ∀ (cdv : Value) (A : Around) (outer : List Env) (s : Shared) (H : Hp) (E : XK), Room k (A.deeper (envOfC qual (defScope st) s.heap.objs.size f cdv)) → DSs (cxE P w K mg base N qual (defScope st) f cdv A outer s H E) (wxOf K E) (defBody st) g) :
    FnOk P w K mg base (CXe P w base) (k + 1) f fd ps (spIOT K ps.length fun t dsr => finIOT (g (stIOT N t dsr))) := by
  obtain ⟨oc, od, kV, doc, pm, an, cdv, ct, osl, rfl, lk, hcd⟩ := F.ex
  refine fn_of lk hcd S (fun vs H Q E h => h.1) fun A outer s H vs Q E hr h => ?_
  obtain ⟨hl, P', p, t, fp, rest, dsr, rfl, ht, hp, nd, ho, hv, hq⟩ := h
  obtain ⟨tt, h1, h2⟩ := hb cdv A outer s H E hr
  refine ⟨tt, h1, h2 ⟨fun a => P' a ∧ a ∉ fp, fun _ => p⟩ P' _ H _ _ (env_startIOT ht hp nd ho hv) ?_⟩
  dsimp only at hq
  revert hq
  cases g (stIOT N t dsr) with
  | bad => exact fun h => h.elim
  | ex x => exact fun h => h.elim
  | ok o =>
    have sub : ∀ {P2 : Addr → Prop} {H2 : Hp} {σ2 : St} {ρ : Rho}, EnvP K ⟨fun a => P' a ∧ a ∉ fp, fun _ => p⟩ P2 H2 σ2 ρ → ∀ a, P2 a ∧ ¬ (P' a ∧ a ∉ fp) → P2 a ∧ (P' a → a ∈ fp) := fun E a ha => ⟨ha.1, fun z => Classical.byContradiction fun w => ha.2 ⟨z, w⟩⟩
    cases o with
    | ret d => exact fun h => h.elim
    | retO d => exact fun h => h.elim
    | next ρ =>
      intro hq σ' H' P2 t2 E2
      unfold finIOT at hq
      dsimp only at hq
      split at hq
      · rename_i t' e
        obtain ⟨c, fp', k1, k2, k3, k4, k5, k6⟩ := lent_at E2 e
        exact hq .non H' P2 fp' [] (fun a ha hn => ⟨E2.sub a ⟨ha, hn⟩, t2.2 a ⟨ha, hn⟩⟩) E2.trk t2.1 k4 k5 (.sh .non) List.nodup_nil (fun a ha => by cases ha) (fun a ha => sub E2 a (k6 a ha)) (fun a ha => by cases ha)
      · exact hq.elim
    | retE r ρ =>
      intro hq v fr σ' H' P2 t2 E2 o2 nd2 hf
      unfold finIOT at hq
      dsimp only at hq
      split at hq
      · rename_i t' e
        obtain ⟨c, fp', k1, k2, k3, k4, k5, k6⟩ := lent_at E2 e
        exact hq v H' P2 fp' fr (fun a ha hn => ⟨E2.sub a ⟨ha, hn⟩, t2.2 a ⟨ha, hn⟩⟩) E2.trk t2.1 k4 k5 o2 nd2 (fun a ha => (hf a ha).2.2 0 c _ fp' k1 k2 k3) (fun a ha => sub E2 a (k6 a ha)) (fun a ha => sub E2 a ⟨(hf a ha).1, (hf a ha).2.1⟩)
      · exact hq.elim
    | brk ρ => exact fun h => h.elim
    | cont ρ => exact fun h => h.elim
end
section
variable {X : Cx} {WX : Str → Hp → Prop} {c : Bool} {P0 : P0T} {P : Addr → Prop} {H : Hp} {σ : St} {ρ : Rho} {a b e : Expr} {f g : Rho → M D} {fn : Rho → M OT} {fp : Rho → M (List Nat)} {pos : Pos} {i : Nat} {es : List Expr} {fs : Rho → M (List D)}
/-- what is new is no name's -/
theorem EnvP.new {K : PySem.W.Frag} {P' : Addr → Prop} {H' : Hp} (E : EnvP K P0 P H σ ρ) (s : Same H H') (sm : Same (del H P) (del H' P')) {a : Addr} (hn : H a = none) : ∀ (j : Nat) c v fq, ρ[j]? = some (some c) → σ[j]? = some (some v) → OwH K H' P' c v fq → a ∉ fq := fun j c v fq h1 h2 h3 ha => by
  have io : isOw c = true := by cases c <;> first | rfl | exact h3.elim
  obtain ⟨w, fr, k1, k2, k3, k4⟩ := E.ows j c h1 io
  rw [h2] at k1; cases k1
  have m := k2.move sm fun b hb => by obtain ⟨o, q⟩ := k2.at b hb; rw [q]; exact s _ _ q
  rw [h3.uniq m] at ha
  obtain ⟨o, q⟩ := k2.at a ha
  rw [hn] at q; cases q
end
end L2

set_option Elab.async false
set_option linter.all false
set_option maxRecDepth 100000
namespace L2
open PySem PySem.Spec PyProof.Rows
/-! ### changes at places -/
/-- the tree at a place is changed -/
def updR (i : Nat) (ρ : Rho) (π : List Nat) (u : OT) : M Out := match ρ[i]? with
  | some (some c) => (match treeOf c with | some (p, t) => .ok (.next (ρ.set i (some (toCl p (putT t π u))))) | none => .bad)
  | _ => .bad
def lstAt (i : Nat) (ρ : Rho) (π : List Nat) : M (List OT) := match atR i ρ π with | some (.lst ts) => .ok ts | _ => .bad
theorem updR_of {i : Nat} {ρ : Rho} {π : List Nat} {u : OT} {c : Cl} {p : Option Nat} {t : OT} (h : ρ[i]? = some (some c)) (ht : treeOf c = some (p, t)) : updR i ρ π u = .ok (.next (ρ.set i (some (toCl p (putT t π u))))) := by
  unfold updR
  simp only [h, ht]
theorem OwTs.append {K : PySem.W.Frag} {H : Hp} {P : Addr → Prop} : ∀ {xs ys : List V} {ts us : List OT} {fp fq : List Addr}, OwTs K H P xs ts fp → OwTs K H P ys us fq → OwTs K H P (xs ++ ys) (ts ++ us) (fp ++ fq)
  | _, _, _, _, _, _, .nil, h => h
  | _, _, _, _, _, _, .cons a t, h => by rw [List.append_assoc]; exact .cons a (t.append h)
section
variable {X : Cx} {WX : Str → Hp → Prop} {c : Bool} {P0 : P0T} {P : Addr → Prop} {H : Hp} {σ : St} {ρ : Rho} {a b e : Expr} {f g : Rho → M D} {fn : Rho → M OT} {fp : Rho → M (List Nat)} {pos : Pos} {i : Nat} {es : List Expr} {fs : Rho → M (List D)}
/-- the list that stands at a place -/
theorem PlaceV.lst {K : PySem.W.Frag} {π : List Nat} {v : V} {t1 : OT} {ts : List OT} (pl : PlaceV K P H σ ρ i π v t1) (E : EnvP K P0 P H σ ρ) (h : lstAt i ρ π = .ok ts) : t1 = .lst ts ∧ ∃ l xs fq, v = .ref l ∧ H l = some (.lst xs) ∧ OwTs K H P xs ts fq ∧ l ∉ fq ∧ fq.Nodup := by
  unfold lstAt at h
  rw [pl.at] at h
  split at h
  · rename_i ts' e
    cases e
    cases h
    obtain ⟨fp1, o1, hp, nd⟩ := pl.own E
    cases o1 with
    | lst hh hr => exact ⟨rfl, _, _, _, rfl, hh, hr, (List.nodup_cons.mp nd).1, (List.nodup_cons.mp nd).2⟩
  · cases h
def optM {α : Type} (o : Option α) : M α := match o with | some x => .ok x | none => .bad
/-- a list of shared data at a place -/
def shL (i : Nat) (ρ : Rho) (π : List Nat) : M (List D) := match atR i ρ π with | some (.lst ts) => (match shsOf ts with | some ds => .ok ds | none => .bad) | _ => .bad
theorem PlaceV.shl {K : PySem.W.Frag} {π : List Nat} {v : V} {t1 : OT} {ds : List D} (pl : PlaceV K P H σ ρ i π v t1) (E : EnvP K P0 P H σ ρ) (h : shL i ρ π = .ok ds) : t1 = .lst (ds.map .sh) ∧ ∃ l xs, v = .ref l ∧ H l = some (.lst xs) ∧ HasL K (del H P) xs ds := by
  unfold shL at h
  rw [pl.at] at h
  split at h
  · rename_i ts' e
    split at h
    · rename_i ds' e'
      cases e
      cases h
      have z := shsOf_some e'
      subst z
      obtain ⟨fp1, o1, hp, nd⟩ := pl.own E
      cases o1 with
      | lst hh hr => exact ⟨rfl, _, _, rfl, hh, hr.shs.2⟩
    · cases h
  · cases h
theorem shL_ex {π : List Nat} {x : Str} (h : shL i ρ π = .ex x) : False := by
  unfold shL at h
  split at h
  · split at h <;> cases h
  · cases h
/-- place.extend(e), e a new list of shared data -/
def asSh (t : OT) : M (List D) := match t with | .lst us => optM (shsOf us) | _ => .bad
end
end L2

set_option Elab.async false
set_option linter.all false
set_option maxRecDepth 100000
namespace L2
open PySem PySem.Spec PyProof.Rows
/-! ### expressions that change one's own things -/
def gX (K : PySem.W.Frag) (WX : Str → Hp → Prop) (P0 : P0T) (P : Addr → Prop) (H : Hp) (σ : St) (Q : VK) : M (Rho × OT) → Prop
  | .ok (ρ, t) => ∀ v fp H' P', Tr P0 P H P' H' → EnvP K P0 P' H' σ ρ → OwT K H' P' v t fp → fp.Nodup → (∀ a ∈ fp, P' a ∧ ¬ P0 a ∧ ∀ (j : Nat) c v' fq, ρ[j]? = some (some c) → σ[j]? = some (some v') → OwH K H' P' c v' fq → a ∉ fq) → Q v H'
  | .ex x => ∀ H' P', Tr P0 P H P' H' → WX x H'
  | .bad => False
def DX (X : Cx) (WX : Str → Hp → Prop) (e : Expr) (f : Rho → M (Rho × OT)) : Prop :=
  ∃ t, PE X e t ∧ ∀ P0 P σ H Q ρ, EnvP X.K P0 P H σ ρ → gX X.K WX P0 P H σ Q (f ρ) → t σ H Q
section
variable {X : Cx} {E : XK} {WX : Str → Hp → Prop} {c : Bool} {P0 : P0T} {P : Addr → Prop} {H : Hp} {σ : St} {ρ : Rho} {a b e : Expr} {f g : Rho → M D} {fn : Rho → M OT} {fx : Rho → M (Rho × OT)} {fp : Rho → M (List Nat)} {pos : Pos} {i : Nat} {es : List Expr} {fs : Rho → M (List D)}
/-- name = e -/
theorem ds_setX (j : Nat) {x : Str} {pos' : Pos} (hN : X.N.Nodup) (hi : X.N[j]? = some x) (hx : Loc X.env.scope x) (he : DX X WX e fx) (hs : swapsWith e (some (.Name x pos')) pos.line X.env = pure false := by rfl) (hf : X.fn x = true ∨ X.env.scope.names.lookup x = some .local := by first | exact .inl rfl | exact .inr rfl | assumption) :
    DS X WX (.Assign [.Name x pos'] e pos) (fun ρ => (fx ρ).bind fun z => setT j z.1 z.2) := by
  obtain ⟨te, e1, e2⟩ := he
  refine ⟨_, ps_set hN hi hx e1 hs hf, fun P0 P σ H Z ρ E h => ?_⟩
  dsimp only at h
  refine e2 P0 P σ H _ ρ E ?_
  cases q : fx ρ with
  | bad => rw [q] at h; exact h
  | ex x => rw [q] at h; exact h
  | ok z =>
    rw [q] at h
    simp only [M.bind_ok] at h
    intro v fp H' P' tr E' o nd hf
    have h' := h.tr tr
    have key : gS X.K WX P0 P' H' Z (.ok (.next (z.1.set j (some (toCl none z.2))))) → Z.nx (σ.set j (some v)) H' := fun h => by
      refine h _ H' P' Tr.refl (E'.putO (fun _ h => h) E'.trk (Same.refl _) (fun k c' v' fp' hne g1 g2 g3 b hb => ⟨rfl, fun w => (hf b w).2.2 k c' v' fp' g1 g2 g3 hb⟩) (OwH.toCl o) (fun b hb => ⟨(hf b hb).1, (hf b hb).2.1⟩) nd (fun n z => by rw [pinOf_toCl] at z; cases z))
    obtain ⟨ρ1, u⟩ := z
    cases u with
    | sh d =>
      cases o with
      | sh hv => exact h' _ H' P' Tr.refl (E'.setv hv)
    | lst ts => exact key h'
    | tup ts => exact key h'
    | dct b ks ts => exact key h'
    | ins x ns ts => exact key h'
end
end L2

set_option Elab.async false
set_option linter.all false
set_option maxRecDepth 100000
namespace L2
open PySem PySem.Spec PyProof.Rows
/-! ### place[k] = v of a dict with shared values -/
def dctAt (i : Nat) (ρ : Rho) (π : List Nat) : M (Bool × List D × List D) := match atR i ρ π with
  | some (.dct b ks ts) => (match shsOf ts with | some vs => .ok (b, ks, vs) | none => .bad)
  | _ => .bad
section
variable {X : Cx} {E : XK} {WX : Str → Hp → Prop} {c : Bool} {P0 : P0T} {P : Addr → Prop} {H : Hp} {σ : St} {ρ : Rho} {a b e : Expr} {f g : Rho → M D} {fn : Rho → M OT} {fx : Rho → M (Rho × OT)} {fp : Rho → M (List Nat)} {pos : Pos} {i : Nat} {es : List Expr} {fs : Rho → M (List D)}
theorem PlaceV.dct {K : PySem.W.Frag} {π : List Nat} {v : V} {t1 : OT} {bl : Bool} {ks vs : List D} (pl : PlaceV K P H σ ρ i π v t1) (E : EnvP K P0 P H σ ρ) (h : dctAt i ρ π = .ok (bl, ks, vs)) : t1 = .dct bl ks (vs.map .sh) ∧ ∃ l xs, v = .ref l ∧ P l ∧ HasL K (del H P) xs vs ∧ OwT K H P (.ref l) (.dct bl ks (vs.map .sh)) [l] ∧
    ((bl = false ∧ ∃ kvs, H l = some (.dK kvs) ∧ ks = (kvs.map fun kv => dkD kv.1) ∧ xs = kvs.map Prod.snd) ∨ (bl = true ∧ ∃ kvs, H l = some (.dT kvs) ∧ ks = (kvs.map fun kv => .tup (kv.1.map dkD)) ∧ xs = kvs.map Prod.snd)) := by
  unfold dctAt at h
  rw [pl.at] at h
  split at h
  · rename_i b' ks' ts' e
    split at h
    · rename_i vs' e'
      cases e
      cases h
      have z := shsOf_some e'
      subst z
      obtain ⟨fp1, o1, hp, nd⟩ := pl.own E
      generalize ht : OT.dct bl ks (vs.map .sh) = t at o1
      cases o1 with
      | dK hh hr =>
        injection ht with h1 h2 h3
        subst h1 h2 h3
        obtain ⟨rfl, hs⟩ := hr.shs
        exact ⟨rfl, _, _, rfl, (hp _ List.mem_cons_self).1, hs, .dK hh hr, .inl ⟨rfl, _, hh, rfl, rfl⟩⟩
      | dT hh hr =>
        injection ht with h1 h2 h3
        subst h1 h2 h3
        obtain ⟨rfl, hs⟩ := hr.shs
        exact ⟨rfl, _, _, rfl, (hp _ List.mem_cons_self).1, hs, .dT hh hr, .inr ⟨rfl, _, hh, rfl, rfl⟩⟩
      | _ => cases ht
    · cases h
  · cases h
/-- a thing at an address of one's own is changed, its parts shared -/
theorem EnvP.mut1 {K : PySem.W.Frag} {π : List Nat} {l : Addr} {t1 u : OT} {o' : HO} (E : EnvP K P0 P H σ ρ) (pl : PlaceV K P H σ ρ i π (.ref l) t1) (ot : OwT K H P (.ref l) t1 [l]) (hn : ∀ xs, o' ≠ .tup xs ∧ ∀ z, o' ≠ .frz z (.tup xs)) (new : Same (del H P) (del (upd H l o') P) → OwT K (upd H l o') P (.ref l) u [l]) :
    ∃ c p t, ρ[i]? = some (some c) ∧ treeOf c = some (p, t) ∧ EnvP K P0 P (upd H l o') σ (ρ.set i (some (toCl p (putT t π u)))) ∧ Tr P0 P H P (upd H l o') := by
  obtain ⟨fp1, o1, hp, _⟩ := pl.own E
  have := o1.uniq ot; subst this
  have pP : P l := (hp l List.mem_cons_self).1
  have sd : del (upd H l o') P = del H P := by
    funext b
    by_cases hb : P b
    · rw [del_in hb, del_in hb]
    · rw [del_of hb, del_of hb, upd_ne (fun z => hb (by rw [z]; exact pP))]
  have sm : Same (del H P) (del (upd H l o') P) := by rw [sd]; exact Same.refl _
  refine E.mutP pl ot (fun _ h => h) (fun a h => ?_) sm (fun a ha hn => upd_ne fun z => hn (by rw [z]; exact List.mem_cons_self)) (new sm) (by simp) (fun a ha => .inl ha)
  by_cases ha : a = l
  · subst ha; exact ⟨_, upd_same, hn⟩
  · unfold Trk; rw [upd_ne ha]; exact E.trk a h
end
end L2

set_option Elab.async false
set_option linter.all false
set_option maxRecDepth 100000
namespace L2
open PySem PySem.Spec PyProof.Rows
/-! ### min(list of tuples of ints) -/
section
variable {prog : Program} {w : World} {A : Around} {R : Result → Shared → Prop}
end
section
variable {X : Cx} {WX : Str → Hp → Prop} {c : Bool} {e : Expr} {f : Rho → M D} {pos : Pos}
end
/-! ### place.remove(int) of a list of ints -/
section
variable {X : Cx} {E : XK} {WX : Str → Hp → Prop} {c : Bool} {P0 : P0T} {P : Addr → Prop} {H : Hp} {σ : St} {ρ : Rho} {a b e : Expr} {f g : Rho → M D} {fn : Rho → M OT} {fp : Rho → M (List Nat)} {pos : Pos} {i : Nat}
end
end L2

set_option Elab.async false
set_option linter.all false
set_option maxRecDepth 100000
namespace L2
open PySem PySem.Spec PyProof.Rows
/-! ### for over a list of one's own, which stays as it is meanwhile -/
section
variable {X : Cx} {E : XK} {WX : Str → Hp → Prop} {c : Bool} {P0 : P0T} {P : Addr → Prop} {H : Hp} {σ : St} {ρ : Rho} {a b e tg : Expr} {f g : Rho → M D} {gt : D → Rho → M Rho} {gb : Rho → M Out} {pos : Pos} {i n : Nat}
/-- the address by another number -/
theorem EnvP.tok {K : PySem.W.Frag} {G : Nat → Addr} (E : EnvP K P0 P H σ ρ) (h : ∀ (j : Nat) c m, ρ[j]? = some (some c) → pinOf c = some m → G m = P0.g m) : EnvP K ⟨P0.pr, G⟩ P H σ ρ :=
  ⟨E.sub, E.trk, E.val, E.ows, E.apart, E.len, fun j c m h1 h2 => by rw [E.pin j c m h1 h2, ← h j c m h1 h2]⟩
end
end L2

set_option Elab.async false
set_option linter.all false
set_option maxRecDepth 100000
namespace L2
open PySem PySem.Spec PyProof.Rows
section
variable {X : Cx} {WX : Str → Hp → Prop} {c : Bool} {P0 : P0T} {P : Addr → Prop} {H : Hp} {σ : St} {ρ : Rho} {a b e : Expr} {f g : Rho → M D} {fn : Rho → M OT} {pos : Pos} {te : TE}
/-! ### sum(list of ints) -/
theorem call_sumI (hc : X.calm = true) : CallR X (.builtin "sum") (fun xs H Q => ∃ p ns, xs = [.ref p] ∧ SqL X.K H p (List.map V.int ns) ∧ Q (.int ns.sum) H) := by
  intro pins s σ H xs us Q I r h
  obtain ⟨p, ns, rfl, hq, q⟩ := h
  obtain ⟨u, rfl, rx⟩ := r.one
  cases rx
  obtain ⟨its, r', pl, hz⟩ := I.list hq
  have hl := pl.isList
  have hi := ints_of_vals r'
  obtain ⟨ys, e⟩ := hi.allInts.items
  have hns : ns = ys.toList.map (·.1) := by rw [← hi.numsOf, ← nums_intItems, ← e]
  rw [e] at hl
  refine sum_intListG (I.ok.hd hc) hl fun h' tk t' hk => ?_
  have e2 : preSum (numAt ys) ys.size = ns.sum := by rw [preSum_eq, List.take_of_length_le (by simp), hns]
  rw [e2]
  exact ⟨.int ns.sum, H, I.kept (t' := tk) hk, ⟨t', rfl⟩, q⟩
def dSum (ds : List D) : M D := match ds with
  | [.lst xs] => (match intsD xs with | some ns => .ok (.int ns.sum) | none => .bad)
  | _ => .bad
theorem cd_sum : CallD X.K WX (fun xs H Q => ∃ p ns, xs = [.ref p] ∧ SqL X.K H p (List.map V.int ns) ∧ Q (.int ns.sum) H) dSum := by
  intro P H ds vs Q ht hl h
  unfold dSum at h
  split at h
  · rename_i xs
    obtain ⟨v, rfl, hv⟩ := hl.one
    split at h
    · rename_i ns eb
      have := intsD_inv eb
      subst this
      cases hv with
      | lst hs hh =>
        have := hasL_intsV hh
        subst this
        exact ⟨_, ns, rfl, hs.undel, h _ H (Same.refl H) (.int _)⟩
    · exact h.elim
  · exact h.elim
theorem de_sum {p : Pos} (hc : X.calm = true) (hg : Gl X "sum") (hm : X.mg "sum" = none) (ha : DE X WX c e f) (hb : bootBuiltins "sum" = some (.builtin "sum") := by decide +kernel) (hs : starEach [e] X.env = [(false, eval e X.env)] := by rfl) : DE X WX c (.Call (.Name "sum" p) [e] [] pos) (fun ρ => ((f ρ).bind fun d => (M.ok []).bind fun ds => .ok (d :: ds)).bind dSum) :=
  de_callB (call_sumI hc) cd_sum hg hm hb (da_cons ha da_nil hs) (he := hs)
/-! ### list(range(n)) -/
/-! ### new lists: slices, sums, list(reversed(..)), [x] * n -/
def slN (lo hi : Option Int) (d : D) : M OT := match d with
  | .lst ds => .ok (.lst (((ds.drop (HT.sIx ds.length 0 lo)).take (HT.sIx ds.length ds.length hi - HT.sIx ds.length 0 lo)).map .sh))
  | _ => .bad
theorem dn_slice {lo hi : Option Expr} {fl' fh : Rho → M (Option Int)} {p2 : Pos} (ha : DE X WX true e f) (hl : DO X WX true lo fl') (hh : DO X WX true hi fh) : DN X WX (.Subscript e (.Slice lo hi none p2) pos) (fun ρ => (f ρ).bind fun d => (fl' ρ).bind fun l => (fh ρ).bind fun u => slN l u d) := by
  obtain ⟨ta, a1, a2⟩ := ha
  obtain ⟨tl, l1, l2⟩ := hl
  obtain ⟨th, h1, h2⟩ := hh
  refine ⟨_, pe_slice sl_list a1 l1 h1, fun P0 P σ H Q ρ E h => ?_⟩
  dsimp only at h
  refine a2 P0 P σ H _ ρ E ?_
  cases q : f ρ with
  | bad => rw [q] at h; exact h
  | ex x => rw [q] at h; exact h
  | ok d =>
    rw [q] at h
    intro v H1 s1 hv
    refine l2 P0 P σ H1 _ ρ (E.same s1) ?_
    cases q2 : fl' ρ with
    | bad => rw [q2] at h; exact h
    | ex y => rw [q2] at h; exact fun H' s => h H' (s1.trans s)
    | ok l =>
      rw [q2] at h
      intro H2 s2
      refine h2 P0 P σ H2 _ ρ ((E.same s1).same s2) ?_
      cases q3 : fh ρ with
      | bad => rw [q3] at h; exact h
      | ex y => rw [q3] at h; exact fun H' s => h H' ((s1.trans s2).trans s)
      | ok u =>
        rw [q3] at h
        simp only [M.bind_ok] at h
        intro H3 s3
        unfold slN at h
        split at h
        · cases hv with
          | lst hs hl =>
            refine ⟨_, _, rfl, (s3.seq (s2.seq hs.undel)), fun p hp => h.newL ((s1.trans s2).trans s3) ?_ p hp⟩
            unfold cutV
            rw [hl.length]
            exact ((((hl.drop _).take _).mono s2.del).mono s3.del)
        · exact h.elim
theorem opn_plus : OpN X.K WX (rCatS X.K) plusN := by
  intro P H x y v w Q ht hx hy h
  unfold plusN at h
  split at h
  · rename_i ds es
    by_cases hl : ds.length + es.length ≤ 1000
    · rw [if_pos hl] at h
      cases hx with
      | lst h1 h2 =>
        cases hy with
        | lst h3 h4 => exact ⟨_, _, _, _, rfl, rfl, h1.undel, h3.undel, Nat.le_of_lt (small1000 (by rw [h2.length, h4.length]; exact hl)), h.newL (Same.refl _) (h2.app h4)⟩
    · rw [if_neg hl] at h; exact h.elim
  · exact h.elim
theorem dn_plus (ha : DE X WX true a f) (hb : DE X WX true b g) : DN X WX (.BinOp a .Add b pos) (fun ρ => (f ρ).bind fun x => (g ρ).bind fun y => plusN x y) := by
  obtain ⟨ta, a1, a2⟩ := ha
  obtain ⟨tb, b1, b2⟩ := hb
  exact ⟨_, pe_op op_catS a1 b1, fun P0 P σ H Q ρ E h => bin_N a2 b2 opn_plus E h⟩
/-! ### tuple targets in comprehensions -/
def GK (μ : List (Option Nat)) (g : TG) : Prop := ∀ σ0 σ x H Q, (∀ (j : Nat) v, (muSt μ σ0)[j]? = some (some v) → σ[j]? = some (some v)) → g x σ H Q → g x σ H fun σ' H' => Q σ' H' ∧ ∀ (j : Nat) v, (muSt μ σ0)[j]? = some (some v) → σ'[j]? = some (some v)
theorem GK.keeps {μ : List (Option Nat)} {g : TG} (h : GK μ g) : GKeeps μ g := fun σ x H Q q => h σ (muSt μ σ) x H Q (fun _ _ z => z) q
variable {gts : List D → Rho → M Rho} {gt : D → Rho → M Rho} {es : List Expr}
end
end L2

set_option Elab.async false
set_option linter.all false
set_option maxRecDepth 100000
namespace L2
open PySem PySem.Spec PyProof.Rows
section
variable {X : Cx} {E : XK} {WX : Str → Hp → Prop} {c : Bool} {P0 : P0T} {P : Addr → Prop} {H : Hp} {σ : St} {ρ : Rho} {a b e : Expr} {f g : Rho → M D} {fn : Rho → M OT} {fx : Rho → M (Rho × OT)} {fp : Rho → M (List Nat)} {pos : Pos} {i : Nat} {te : TE}
end
end L2

set_option Elab.async false
set_option linter.all false
set_option maxRecDepth 100000
namespace L2
open PySem PySem.Spec PyProof.Rows
/-! ### reckoning: how a block ends -/
def WP (m : M Out) (nx : Rho → Prop) (rt : Out → Prop) (ex : Str → Prop) : Prop := match m with
  | .ok (.next ρ) => nx ρ
  | .ok o => rt o
  | .ex x => ex x
  | .bad => False
section
variable {nx : Rho → Prop} {rt : Out → Prop} {ex : Str → Prop} {m : M Out} {k : Rho → M Out} {ρ ρ' : Rho}
theorem wp_to (h : m = .ok (.next ρ')) (hn : nx ρ') : WP m nx rt ex := by rw [h]; exact hn
theorem WP.mono {nx' : Rho → Prop} {rt' : Out → Prop} {ex' : Str → Prop} (h : WP m nx rt ex) (h1 : ∀ ρ, nx ρ → nx' ρ) (h2 : ∀ o, rt o → rt' o) (h3 : ∀ x, ex x → ex' x) : WP m nx' rt' ex' := by
  cases m with
  | bad => exact h
  | ex x => exact h3 x h
  | ok o =>
    cases o with
    | next ρ => exact h1 ρ h
    | ret d => exact h2 _ h
    | brk d => exact h2 _ h
    | cont d => exact h2 _ h
    | retO d => exact h2 _ h
    | retE d ρ => exact h2 _ h
theorem wp_seq (h : WP m (fun ρ => WP (k ρ) nx rt ex) rt ex) : WP (seqM m k) nx rt ex := by
  cases m with
  | bad => exact h
  | ex x => exact h
  | ok o =>
    cases o with
    | next ρ => exact h
    | ret d => exact h
    | brk d => exact h
    | cont d => exact h
    | retO d => exact h
    | retE d ρ => exact h
theorem wp_step (h : m = .ok (.next ρ')) (hk : WP (k ρ') nx rt ex) : WP (seqM m k) nx rt ex := by rw [h]; exact hk
/-- a block in its place, then the rest -/
theorem wp_cut {I : Rho → Prop} (h : WP m I rt ex) (hk : ∀ ρ, I ρ → WP (k ρ) nx rt ex) : WP (seqM m k) nx rt ex := wp_seq (h.mono hk (fun _ h => h) fun _ h => h)
def inLoop (I : Rho → Prop) (nx : Rho → Prop) (rt : Out → Prop) (o : Out) : Prop := match o with
  | .cont ρ => I ρ
  | .brk ρ => nx ρ
  | o => rt o
theorem wp_for {gt : D → Rho → M Rho} {gb : Rho → M Out} {ds : List D} (I : Nat → Rho → Prop) (h0 : I 0 ρ)
    (step : ∀ i d ρ, ds[i]? = some d → I i ρ → ∃ ρ1, gt d ρ = .ok ρ1 ∧ WP (gb ρ1) (I (i + 1)) (inLoop (I (i + 1)) nx rt) ex) (done : ∀ ρ, I ds.length ρ → nx ρ) : WP (forM gt gb ds ρ) nx rt ex := by
  have key : ∀ (n i : Nat) (ρ : Rho), i + n = ds.length → I i ρ → WP (forM gt gb (ds.drop i) ρ) nx rt ex := by
    intro n
    induction n with
    | zero =>
      intro i ρ hi h
      have e : i = ds.length := by omega
      subst e
      rw [List.drop_length, forM]
      exact done ρ h
    | succ n ih =>
      intro i ρ hi h
      have hlt : i < ds.length := by omega
      obtain ⟨ρ1, h1, h2⟩ := step i ds[i] ρ (List.getElem?_eq_getElem hlt) h
      rw [drop_get hlt, forM, h1]
      dsimp only
      cases q : gb ρ1 with
      | bad => rw [q] at h2; exact h2
      | ex x => rw [q] at h2; exact h2
      | ok o =>
        rw [q] at h2
        cases o with
        | next ρ2 => exact ih (i + 1) ρ2 (by omega) h2
        | ret d => exact h2
        | retO d => exact h2
        | retE d ρ2 => exact h2
        | cont ρ2 => exact ih (i + 1) ρ2 (by omega) h2
        | brk ρ2 => exact h2
  have := key ds.length 0 ρ (by omega) h0
  rw [List.drop_zero] at this
  exact this
theorem wp_while {α : Type} {c : Rho → M Bool} {b : Rho → M Out} {lt : α → α → Prop} (J : α → Rho → Prop) {x : α} (hx : Acc lt x) (h0 : J x ρ)
    (step : ∀ x ρ, J x ρ → (c ρ = .ok false ∧ nx ρ) ∨ (c ρ = .ok true ∧ WP (b ρ) (fun ρ2 => ∃ y, lt y x ∧ J y ρ2) (inLoop (fun ρ2 => ∃ y, lt y x ∧ J y ρ2) nx rt) ex)) : WP (loopM c b ρ) nx rt ex := by
  have key : ∀ x, Acc lt x → ∀ ρ, J x ρ → ∃ n, whileM c b n ρ ≠ .bad ∧ WP (whileM c b n ρ) nx rt ex := by
    intro x hx
    induction hx with
    | intro x _ ih =>
      intro ρ h
      rcases step x ρ h with ⟨h1, h2⟩ | ⟨h1, h2⟩
      · refine ⟨1, ?_, ?_⟩
        · rw [whileM, h1]; intro z; cases z
        · rw [whileM, h1]; exact h2
      · cases q : b ρ with
        | bad => rw [q] at h2; exact h2.elim
        | ex y =>
          rw [q] at h2
          refine ⟨1, ?_, ?_⟩
          · rw [whileM, h1]; dsimp only; rw [q]; intro z; cases z
          · rw [whileM, h1]; dsimp only; rw [q]; exact h2
        | ok o =>
          rw [q] at h2
          have go : ∀ ρ2, (∃ y, lt y x ∧ J y ρ2) → (∀ n, whileM c b (n + 1) ρ = whileM c b n ρ2) → ∃ n, whileM c b n ρ ≠ .bad ∧ WP (whileM c b n ρ) nx rt ex := by
            rintro ρ2 ⟨y, hy, hJ⟩ e
            obtain ⟨n, h3, h4⟩ := ih y hy ρ2 hJ
            exact ⟨n + 1, by rw [e]; exact h3, by rw [e]; exact h4⟩
          cases o with
          | next ρ2 => exact go ρ2 h2 fun n => by rw [whileM, h1]; dsimp only; rw [q]
          | cont ρ2 => exact go ρ2 h2 fun n => by rw [whileM, h1]; dsimp only; rw [q]
          | brk ρ2 =>
            refine ⟨1, ?_, ?_⟩
            · rw [whileM, h1]; dsimp only; rw [q]; intro z; cases z
            · rw [whileM, h1]; dsimp only; rw [q]; exact h2
          | ret d =>
            refine ⟨1, ?_, ?_⟩
            · rw [whileM, h1]; dsimp only; rw [q]; intro z; cases z
            · rw [whileM, h1]; dsimp only; rw [q]; exact h2
          | retO d =>
            refine ⟨1, ?_, ?_⟩
            · rw [whileM, h1]; dsimp only; rw [q]; intro z; cases z
            · rw [whileM, h1]; dsimp only; rw [q]; exact h2
          | retE d ρ2 =>
            refine ⟨1, ?_, ?_⟩
            · rw [whileM, h1]; dsimp only; rw [q]; intro z; cases z
            · rw [whileM, h1]; dsimp only; rw [q]; exact h2
  obtain ⟨n, h1, h2⟩ := key x hx ρ h0
  unfold loopM
  have hx : ∃ n, whileM c b n ρ ≠ .bad := ⟨n, h1⟩
  rw [dif_pos hx]
  have e : whileM c b (Classical.choose hx) ρ = whileM c b n ρ := by
    have a := whileM_more (Classical.choose_spec hx) n
    have b' := whileM_more h1 (Classical.choose hx)
    rw [Nat.add_comm] at b'
    rw [← a, ← b']
  rw [e]
  exact h2
/-! how a def ends -/
def rtT (Q : OT → Prop) (o : Out) : Prop := match o with
  | .ret d => Q (.sh d)
  | .retO c => ∃ t, clT c = .ok t ∧ Q t
  | _ => False
theorem ft_of {Q : OT → Prop} (h : WP m (fun _ => Q (.sh .non)) (rtT Q) (fun _ => False)) : ∃ t, finT m = .ok t ∧ Q t := by
  cases m with
  | bad => exact h.elim
  | ex x => exact h.elim
  | ok o =>
    cases o with
    | next ρ => exact ⟨_, rfl, h⟩
    | ret d => exact ⟨_, rfl, h⟩
    | retO c => exact h
    | retE c ρ => exact h.elim
    | brk ρ => exact h.elim
    | cont ρ => exact h.elim
theorem ft_eq {t : OT} (h : WP m (fun _ => OT.sh .non = t) (rtT (· = t)) (fun _ => False)) : finT m = .ok t := by
  obtain ⟨u, h1, h2⟩ := ft_of (Q := (· = t)) h
  rw [h1, h2]
def rtD (Q : D → Prop) (o : Out) : Prop := match o with
  | .ret d => Q d
  | .retO c => ∃ t, clD c = .ok t ∧ Q t
  | _ => False
theorem fd_of {Q : D → Prop} (h : WP m (fun _ => Q .non) (rtD Q) (fun _ => False)) : ∃ t, fin m = .ok t ∧ Q t := by
  cases m with
  | bad => exact h.elim
  | ex x => exact h.elim
  | ok o =>
    cases o with
    | next ρ => exact ⟨_, rfl, h⟩
    | ret d => exact ⟨_, rfl, h⟩
    | retO c => exact h
    | retE c ρ => exact h.elim
    | brk ρ => exact h.elim
    | cont ρ => exact h.elim
theorem fd_eq {d : D} (h : WP m (fun _ => D.non = d) (rtD (· = d)) (fun _ => False)) : fin m = .ok d := by
  obtain ⟨u, h1, h2⟩ := fd_of (Q := (· = d)) h
  rw [h1, h2]
end
end L2

set_option Elab.async false
set_option linter.all false
set_option maxRecDepth 100000
namespace L2
open PySem PySem.Spec PyProof.Rows
/-! ### reckoning: names by their places in a list that is written out -/
section
variable {d : D} {ds es : List D} {ρ ρ' : Rho} {o : Option Cl} {i n : Nat} {p : Option Nat} {t u : OT} {π : List Nat} {b : Bool} {ks vs : List D} {ts : List OT} {m : M D}
theorem rv0 : rv 0 (some (.val d) :: ρ) = .ok d := rfl
theorem rvS : rv (i + 1) (o :: ρ) = rv i ρ := rfl
def mapNx (f : Rho → Rho) (m : M Out) : M Out := match m with
  | .ok (.next ρ) => .ok (.next (f ρ))
  | m => m
theorem mapNx_ok {f : Rho → Rho} : mapNx f (.ok (.next ρ)) = .ok (.next (f ρ)) := rfl
theorem isPl_own : isPl 0 (some (.own ds) :: ρ) = .ok [] := rfl
theorem isPl_anc : isPl 0 (some (.ow (.anc n ds)) :: ρ) = .ok [] := rfl
theorem isPl_tree : isPl 0 (some (.ow (.tree p t)) :: ρ) = .ok [] := by unfold isPl atR; simp [treeOf]
theorem isPlS : isPl (i + 1) (o :: ρ) = isPl i ρ := rfl
theorem atR_own : atR 0 (some (.own ds) :: ρ) π = subT (.lst (ds.map .sh)) π := rfl
theorem atR_anc : atR 0 (some (.ow (.anc n ds)) :: ρ) π = subT (.lst (ds.map .sh)) π := rfl
theorem atR_tree : atR 0 (some (.ow (.tree p t)) :: ρ) π = subT t π := rfl
theorem shL_own : shL 0 (some (.own ds) :: ρ) [] = .ok ds := by unfold shL; simp [atR_own, shsOf_map]
theorem shL_anc : shL 0 (some (.ow (.anc n ds)) :: ρ) [] = .ok ds := by unfold shL; simp [atR_anc, shsOf_map]
theorem shL_tree : shL 0 (some (.ow (.tree p (.lst (ds.map .sh)))) :: ρ) [] = .ok ds := by unfold shL; simp [atR_tree, shsOf_map]
theorem shLS : shL (i + 1) (o :: ρ) π = shL i ρ π := rfl
theorem lstAt_own : lstAt 0 (some (.own ds) :: ρ) [] = .ok (ds.map .sh) := by unfold lstAt; simp [atR_own]
theorem lstAt_anc : lstAt 0 (some (.ow (.anc n ds)) :: ρ) [] = .ok (ds.map .sh) := by unfold lstAt; simp [atR_anc]
theorem lstAt_tree : lstAt 0 (some (.ow (.tree p (.lst ts))) :: ρ) [] = .ok ts := by unfold lstAt; simp [atR_tree]
theorem lstAtS : lstAt (i + 1) (o :: ρ) π = lstAt i ρ π := rfl
theorem dctAt_tree : dctAt 0 (some (.ow (.tree p (.dct b ks (vs.map .sh)))) :: ρ) [] = .ok (b, ks, vs) := by unfold dctAt; simp [atR_tree, shsOf_map]
theorem dctAtS : dctAt (i + 1) (o :: ρ) π = dctAt i ρ π := rfl
theorem updR_own : updR 0 (some (.own ds) :: ρ) [] u = .ok (.next (some (toCl none u) :: ρ)) := by unfold updR; simp [treeOf]
theorem updR_anc : updR 0 (some (.ow (.anc n ds)) :: ρ) [] u = .ok (.next (some (toCl (some n) u) :: ρ)) := by unfold updR; simp [treeOf]
theorem updR_tree : updR 0 (some (.ow (.tree p t)) :: ρ) π u = .ok (.next (some (toCl p (putT t π u)) :: ρ)) := by unfold updR; simp [treeOf]
theorem updRS : updR (i + 1) (o :: ρ) π u = mapNx (o :: ·) (updR i ρ π u) := by
  unfold updR mapNx
  simp only [List.getElem?_cons_succ, List.set_cons_succ]
  split
  · rename_i c e
    split <;> simp_all
  · simp_all
theorem appM_own : appM 0 (some (.own ds) :: ρ) (.ok d) = if ds.length < 1000 then .ok (.next (some (.own (ds ++ [d])) :: ρ)) else .bad := rfl
theorem appMS : appM (i + 1) (o :: ρ) m = mapNx (o :: ·) (appM i ρ m) := by
  unfold appM
  rw [List.getElem?_cons_succ]
  cases q : ρ[i]? with
  | none => rfl
  | some oo =>
    cases oo with
    | none => rfl
    | some c =>
      cases c with
      | own ds =>
        cases m with
        | ok d =>
          simp only [M.bind_ok, List.set_cons_succ]
          by_cases h : ds.length < 1000
          · rw [if_pos h, if_pos h]; rfl
          · rw [if_neg h, if_neg h]; rfl
        | ex x => rfl
        | bad => rfl
      | val d => rfl
      | ow w => rfl
theorem insM_own {j : Int} : insM 0 (some (.own ds) :: ρ) (.ok (.int j)) (.ok d) = if 0 ≤ j ∧ j.toNat ≤ ds.length ∧ ds.length < 1000 then .ok (.next (some (.own (ds.take j.toNat ++ d :: ds.drop j.toNat)) :: ρ)) else .bad := rfl
theorem insMS {m2 : M D} : insM (i + 1) (o :: ρ) m m2 = mapNx (o :: ·) (insM i ρ m m2) := by
  unfold insM
  rw [List.getElem?_cons_succ]
  cases q : ρ[i]? with
  | none => rfl
  | some oo =>
    cases oo with
    | none => rfl
    | some c =>
      cases c with
      | own ds =>
        cases m with
        | ok d =>
          cases m2 with
          | ok d2 =>
            simp only [M.bind_ok, List.set_cons_succ]
            cases d with
            | int j =>
              dsimp only
              by_cases h : 0 ≤ j ∧ j.toNat ≤ ds.length ∧ ds.length < 1000
              · rw [if_pos h, if_pos h]; rfl
              · rw [if_neg h, if_neg h]; rfl
            | _ => rfl
          | ex x => rfl
          | bad => rfl
        | ex x => rfl
        | bad => rfl
      | val d => rfl
      | ow w => rfl
theorem retC_val : retC 0 (some (.val d) :: ρ) = .ok (.ret d) := rfl
theorem retC_own : retC 0 (some (.own ds) :: ρ) = .ok (.retO (.own ds)) := rfl
theorem retC_ow {w : Ow} : retC 0 (some (.ow w) :: ρ) = .ok (.retO (.ow w)) := rfl
theorem retCS : retC (i + 1) (o :: ρ) = retC i ρ := rfl
theorem frzS : frzR (i + 1) (o :: ρ) = o :: frzR i ρ := by
  unfold frzR
  simp only [List.getElem?_cons_succ, List.set_cons_succ]
  split <;> simp_all
theorem frz0 {c : Cl} : frzR 0 (some c :: ρ) = some (lowC c) :: ρ := rfl
theorem lowC_val : lowC (.val d) = .val d := rfl
theorem lowC_own : lowC (.own ds) = .val (.lst ds) := rfl
theorem lowC_anc : lowC (.ow (.anc n ds)) = .val (.lst ds) := rfl
theorem lowC_tr : lowC (.ow (.tree p t)) = .val (er t) := rfl
theorem er_dct : er (.dct b ks (vs.map .sh)) = .dct b ks vs := by rw [er, ers_sh]
theorem er_lst : er (.lst (ds.map .sh)) = .lst ds := by rw [er, ers_sh]
theorem er_sh : er (.sh d) = d := rfl
theorem muC {l : List (Option Nat)} : muRho (none :: l) ρ = none :: muRho l ρ := rfl
theorem muN : muRho [] ρ = [] := rfl
theorem muSo {l : List (Option Nat)} : muRho (some i :: l) ρ = (match ρ[i]? with | some (some (.val d)) => some (.val d) | _ => none) :: muRho l ρ := rfl
theorem ifl0 {α : Type} {x y : α} : (if ([] : List D).length ≤ 1000 then x else y) = x := if_pos (by show 0 ≤ 1000; decide)
theorem ifl1 {α : Type} {x y : α} {a : D} : (if [a].length ≤ 1000 then x else y) = x := if_pos (by show 1 ≤ 1000; decide)
theorem ifl2 {α : Type} {x y : α} {a b : D} : (if [a, b].length ≤ 1000 then x else y) = x := if_pos (by show 2 ≤ 1000; decide)
theorem ifl3 {α : Type} {x y : α} {a b c : D} : (if [a, b, c].length ≤ 1000 then x else y) = x := if_pos (by show 3 ≤ 1000; decide)
theorem ifl4 {α : Type} {x y : α} {a b c d : D} : (if [a, b, c, d].length ≤ 1000 then x else y) = x := if_pos (by show 4 ≤ 1000; decide)
theorem toCl_nil : toCl none (.lst []) = .own [] := rfl
theorem compM_mapF {α : Type} {gt : D → Rho → M Rho} {ft : Rho → M Bool} {fe : Rho → M D} {g : α → D} (p : α → Bool) (f : α → D) : ∀ {l : List α}, (∀ x ∈ l, ∃ ρ1, gt (g x) ρ = .ok ρ1 ∧ ft ρ1 = .ok (p x) ∧ (p x = true → fe ρ1 = .ok (f x))) → compM gt ft fe (l.map g) ρ = .ok ((l.filter p).map f)
  | [], _ => rfl
  | x :: r, h => by
    obtain ⟨ρ1, h1, h2, h3⟩ := h x List.mem_cons_self
    have ih := compM_mapF (gt := gt) (ft := ft) (fe := fe) (g := g) p f (l := r) fun y hy => h y (List.mem_cons_of_mem _ hy)
    rw [List.map_cons, compM, h1]
    dsimp only
    rw [h2]
    dsimp only
    rw [List.filter_cons]
    cases hp : p x with
    | true =>
      rw [if_pos rfl, h3 hp]
      dsimp only
      rw [ih]
      simp
    | false => simp [ih]
theorem compM_mapA {α : Type} {gt : D → Rho → M Rho} {ft : Rho → M Bool} {fe : Rho → M D} {g : α → D} (f : α → D) {l : List α} (h : ∀ x ∈ l, ∃ ρ1, gt (g x) ρ = .ok ρ1 ∧ ft ρ1 = .ok true ∧ fe ρ1 = .ok (f x)) : compM gt ft fe (l.map g) ρ = .ok (l.map f) := by
  have := compM_mapF (gt := gt) (ft := ft) (fe := fe) (ρ := ρ) (g := g) (fun _ => true) f (l := l) fun x hx => by
    obtain ⟨ρ1, h1, h2, h3⟩ := h x hx
    exact ⟨ρ1, h1, h2, fun _ => h3⟩
  rw [this, List.filter_eq_self.mpr (fun _ _ => rfl)]
theorem get_mapD {α : Type} {g : α → D} {l : List α} {i : Nat} {d : D} (h : (l.map g)[i]? = some d) : ∃ x, l[i]? = some x ∧ d = g x := by
  rw [List.getElem?_map] at h
  cases q : l[i]? with
  | none => rw [q] at h; cases h
  | some x => rw [q] at h; cases h; exact ⟨x, rfl, rfl⟩
theorem asSh_l : asSh (.lst (ds.map .sh)) = .ok ds := by unfold asSh; simp [shsOf_map, optM]
theorem optM_some {α : Type} {x : α} : optM (some x) = .ok x := rfl
theorem setT_sh : setT i ρ (.sh d) = .ok (.next (ρ.set i (some (.val d)))) := rfl
theorem setT_lst : setT i ρ (.lst ts) = .ok (.next (ρ.set i (some (toCl none (.lst ts))))) := rfl
theorem setT_tup : setT i ρ (.tup ts) = .ok (.next (ρ.set i (some (.ow (.tree none (.tup ts)))))) := rfl
theorem setT_dct : setT i ρ (.dct b ks ts) = .ok (.next (ρ.set i (some (.ow (.tree none (.dct b ks ts)))))) := rfl
theorem setT_ins {x : Str} {ns : List Str} : setT i ρ (.ins x ns ts) = .ok (.next (ρ.set i (some (.ow (.tree none (.ins x ns ts)))))) := rfl
theorem retT_sh : retT (.sh d) = .ok (.ret d) := rfl
theorem retT_lst : retT (.lst ts) = .ok (.retO (.ow (.tree none (.lst ts)))) := rfl
theorem retT_tup : retT (.tup ts) = .ok (.retO (.ow (.tree none (.tup ts)))) := rfl
theorem retT_dct : retT (.dct b ks ts) = .ok (.retO (.ow (.tree none (.dct b ks ts)))) := rfl
theorem truD_lst : truD (.lst ds) = .ok (!ds.isEmpty) := rfl
theorem mod_ne {a s m : Int} (h0 : 0 ≤ a) (h1 : a < m) (s0 : 1 ≤ s) (s1 : s < m) : (a + s) % m ≠ a := by
  by_cases h : a + s < m
  · rw [Int.emod_eq_of_lt (by omega) h]; omega
  · have e : (a + s) % m = (a + s - m) % m := by rw [Int.sub_emod_right]
    rw [e, Int.emod_eq_of_lt (by omega) (by omega)]; omega
theorem dEq_int {k : Nat} (i j : Int) : dEq k (.int i) (.int j) = .ok (.bl (decide (i = j))) := by
  rw [dEq_pl (pl_int _) (pl_int _)]
  simp only [eqD, Bool.beq_eq_decide_eq]
theorem dNe_int {k : Nat} (i j : Int) : dNe k (.int i) (.int j) = .ok (.bl (!decide (i = j))) := by
  rw [dNe_pl (pl_int _) (pl_int _)]
  simp only [eqD, Bool.beq_eq_decide_eq]
theorem dAdd_int {i j : Int} : dAdd (.int i) (.int j) = .ok (.int (i + j)) := rfl
theorem dSub_int {i j : Int} : dSub (.int i) (.int j) = .ok (.int (i - j)) := rfl
theorem dLt_int {i j : Int} : dLt (.int i) (.int j) = .ok (.bl (decide (i < j))) := rfl
theorem dLe_int {i j : Int} : dLe (.int i) (.int j) = .ok (.bl (decide (i ≤ j))) := rfl
theorem dGt_int {i j : Int} : dGt (.int i) (.int j) = .ok (.bl (decide (j < i))) := rfl
theorem dGe_int {i j : Int} : dGe (.int i) (.int j) = .ok (.bl (decide (j ≤ i))) := rfl
theorem asI_int {i : Int} : asI (.int i) = .ok (some i) := rfl
theorem dLen_lst : dLen [.lst ds] = .ok (.int ds.length) := rfl
theorem dLen_tup : dLen [.tup ds] = .ok (.int ds.length) := rfl
theorem ite_tt {α : Type} {x y : α} : (if true = true then x else y) = x := rfl
theorem ite_ff {α : Type} {x y : α} : (if false = true then x else y) = y := rfl
theorem slN_of {lo hi : Option Int} {x : D} (h : dSl lo hi x = .ok (.lst ds)) : slN lo hi x = .ok (.lst (ds.map .sh)) := by
  unfold dSl at h
  unfold slN
  cases x with
  | lst xs => dsimp only at h ⊢; injection h with h; injection h with h; rw [h]
  | _ => cases h
theorem slN_take (xs : List D) (k : Nat) : slN none (some (k : Int)) (.lst xs) = .ok (.lst ((xs.take k).map .sh)) := slN_of (dSl_take xs k)
theorem slN_mid (xs : List D) (a b : Nat) : slN (some (a : Int)) (some (b : Int)) (.lst xs) = .ok (.lst (((xs.drop a).take (b - a)).map .sh)) := slN_of (dSl_mid xs a b)
theorem newL_lst : newL (.lst ds) = .ok (.lst (ds.map .sh)) := rfl
theorem newL_tup : newL (.tup ds) = .ok (.lst (ds.map .sh)) := rfl
theorem dSum_ints {ns : List Int} : dSum [.lst (ns.map D.int)] = .ok (.int ns.sum) := by unfold dSum; dsimp only; rw [intsD_map]
theorem isTyM_lst {T : String} : isTyM T (.lst ds) = .ok (.bl (isTy T (.lst ds))) := rfl
theorem isTyM_tup {T : String} : isTyM T (.tup ds) = .ok (.bl (isTy T (.tup ds))) := rfl
theorem isTyM_int {T : String} {k : Int} : isTyM T (.int k) = .ok (.bl (isTy T (.int k))) := rfl
theorem isTyM_non {T : String} : isTyM T .non = .ok (.bl (isTy T .non)) := rfl
theorem isTyM_bl {T : String} {k : Bool} : isTyM T (.bl k) = .ok (.bl (isTy T (.bl k))) := rfl
theorem isTyM_str {T : String} {k : Str} : isTyM T (.str k) = .ok (.bl (isTy T (.str k))) := rfl
theorem isTyM_dct {T : String} : isTyM T (.dct b ks vs) = .ok (.bl (isTy T (.dct b ks vs))) := rfl
theorem ty_ll : isTy "list" (.lst ds) = true := rfl
theorem ty_tt : isTy "tuple" (.tup ds) = true := rfl
theorem ty_ii {k : Int} : isTy "int" (.int k) = true := rfl
theorem ty_ib {k : Int} : isTy "bool" (.int k) = false := rfl
theorem ty_dd : isTy "dict" (.dct b ks vs) = true := rfl
theorem dMem_ints {neg : Bool} {k : Int} {ns : List Int} : dMem neg (.int k) (.lst (ns.map D.int)) = .ok (.bl (if neg then !ns.contains k else ns.contains k)) := by
  unfold dMem dIn
  dsimp only
  rw [intsD_map]
/-- a name that has a datum, or nothing -/
def vO (s : Option D) : Option Cl := s.map .val
theorem lowR_vO {s : Option D} : lowR (vO s :: ρ) = vO s :: lowR ρ := by cases s <;> rfl
end
end L2

set_option Elab.async false
set_option linter.all false
set_option maxRecDepth 100000
namespace L2
open PySem PySem.Spec PyProof.Rows
/-! ### pairs as keys -/
theorem nodup_len {α : Type} [DecidableEq α] : ∀ {l u : List α}, l.Nodup → (∀ x ∈ l, x ∈ u) → l.length ≤ u.length
  | [], _, _, _ => Nat.zero_le _
  | x :: r, u, nd, h => by
    have nd2 := List.nodup_cons.mp nd
    have hx := h x List.mem_cons_self
    have ih := nodup_len (l := r) (u := u.erase x) nd2.2 fun y hy => (List.mem_erase_of_ne (fun z => nd2.1 (by rw [← z]; exact hy))).mpr (h y (List.mem_cons_of_mem _ hy))
    have e := List.length_erase_of_mem hx
    have : 0 < u.length := List.length_pos_of_mem hx
    rw [List.length_cons]
    omega
/-! ### bows -/
def NoSelf (B : List (Int × Int)) : Prop := ∀ x, (x, x) ∉ B
/-- the bows stay within these places, none from a place to itself, each once -/
structure BowsOk (m : Nat) (B : List (Int × Int)) : Prop where
  nd : B.Nodup
  no : NoSelf B
  inn : ∀ p ∈ B, (0 ≤ p.1 ∧ p.1 < m) ∧ (0 ≤ p.2 ∧ p.2 < m)
theorem BowsOk.len {m : Nat} {B : List (Int × Int)} (h : BowsOk m B) (hm : m ≤ 20) : B.length < 1000 := by
  have key := nodup_len (l := B) (u := (List.range m).flatMap fun i : Nat => (List.range m).map fun j : Nat => ((i : Int), (j : Int))) h.nd fun p hp => by
    obtain ⟨h1, h2⟩ := h.inn p hp
    refine List.mem_flatMap.mpr ⟨p.1.toNat, List.mem_range.mpr (by omega), List.mem_map.mpr ⟨p.2.toNat, List.mem_range.mpr (by omega), ?_⟩⟩
    rw [Int.toNat_of_nonneg h1.1, Int.toNat_of_nonneg h2.1]
  have e : ((List.range m).flatMap fun i : Nat => (List.range m).map fun j : Nat => ((i : Int), (j : Int))).length = m * m := by
    rw [List.length_flatMap]
    simp [List.map_const', List.sum_replicate_nat]
  rw [e] at key
  have : m * m ≤ 20 * 20 := Nat.mul_le_mul hm hm
  omega
/-! ### the lightest -/
end L2

set_option Elab.async false
set_option linter.all false
set_option maxRecDepth 100000
namespace L2
open PySem PySem.Spec PyProof.Rows
/-! ### sorted(list of ints) -/
section
variable {X : Cx} {WX : Str → Hp → Prop} {c : Bool} {P0 : P0T} {P : Addr → Prop} {H : Hp} {σ : St} {ρ : Rho} {a b e : Expr} {f g : Rho → M D} {fn : Rho → M OT} {pos : Pos} {te : TE}
/-! ### [x] * n -/
end
end L2

set_option Elab.async false
set_option linter.all false
set_option maxRecDepth 100000
namespace L2
/-! ### more evaluation -/
theorem onInts_ii {f : Int → Int → M D} {a b : Int} : onInts f (.int a) (.int b) = f a b := rfl
theorem dAll_map {bs : List Bool} : dAll [.lst (bs.map D.bl)] = .ok (.bl (bs.all id)) := by unfold dAll; dsimp only; rw [boolsD_map]
theorem dAny_map {bs : List Bool} : dAny [.lst (bs.map D.bl)] = .ok (.bl (bs.any id)) := by unfold dAny; dsimp only; rw [boolsD_map]
theorem plusN_l {a b : List D} (h : a.length + b.length ≤ 1000) : plusN (.lst a) (.lst b) = .ok (.lst ((a ++ b).map .sh)) := if_pos h
/-! ### orders -/
end L2
namespace L2
end L2
namespace L2
end L2
namespace L2
theorem frzN {ρ : Rho} : frzR 0 (none :: ρ) = none :: ρ := rfl
end L2

set_option Elab.async false
set_option linter.all false
set_option maxRecDepth 100000
namespace L2
open PySem PySem.Spec PyProof.Rows
/-! ### list * int, whatever the list -/
section
variable {X : Cx} {WX : Str → Hp → Prop} {c : Bool} {P0 : P0T} {P : Addr → Prop} {H : Hp} {σ : St} {ρ : Rho} {a b e : Expr} {f g : Rho → M D} {fn : Rho → M OT} {pos : Pos} {te : TE}
end
end L2

set_option Elab.async false
set_option linter.all false
set_option maxRecDepth 100000
namespace L2
/-! ### great numbers, kept shut -/
theorem big_ex : ∃ T Q : Int, dPow (.int 10) (.int 60) = .ok (.int T) ∧ dPow (.int 982451653) (.int 7) = .ok (.int Q) ∧ 1000000 < T ∧ T.natAbs < 2 ^ 200 ∧ 0 < Q ∧ Q.natAbs < 2 ^ 250 := ⟨10 ^ 60, 982451653 ^ 7, rfl, rfl, by decide, by decide, by decide, by decide⟩
noncomputable def T60 : Int := Classical.choose big_ex
theorem q7_ex : ∃ Q : Int, dPow (.int 10) (.int 60) = .ok (.int T60) ∧ dPow (.int 982451653) (.int 7) = .ok (.int Q) ∧ 1000000 < T60 ∧ T60.natAbs < 2 ^ 200 ∧ 0 < Q ∧ Q.natAbs < 2 ^ 250 := Classical.choose_spec big_ex
noncomputable def Q7 : Int := Classical.choose q7_ex
theorem pow60 : dPow (.int 10) (.int 60) = .ok (.int T60) := (Classical.choose_spec q7_ex).1
theorem powQ7 : dPow (.int 982451653) (.int 7) = .ok (.int Q7) := (Classical.choose_spec q7_ex).2.1
theorem t60_gt : 1000000 < T60 := (Classical.choose_spec q7_ex).2.2.1
theorem t60_lt : T60.natAbs < 2 ^ 200 := (Classical.choose_spec q7_ex).2.2.2.1
theorem q7_lt : Q7.natAbs < 2 ^ 250 := (Classical.choose_spec q7_ex).2.2.2.2.2
theorem mul_big {i j : Int} {k l : Nat} (hi : i.natAbs < 2 ^ k) (hk : k ≤ 1000) (hj : j.natAbs < 2 ^ l) (hl : l ≤ 1000) : dMulW (.int i) (.int j) = .ok (.int (i * j)) :=
  dMulW_ok (.inl ⟨Nat.le_trans (bits_le hi) (Nat.le_trans hk (by decide)), Nat.le_trans (bits_le hj) (Nat.le_trans hl (by decide))⟩)
theorem abs_le {i j : Int} {k : Nat} (h0 : 0 ≤ i) (h : i ≤ j) (hj : j.natAbs < 2 ^ k) : i.natAbs < 2 ^ k := by omega
theorem t60_mod {i : Int} : dMod (.int i) (.int T60) = .ok (.int (i % T60)) := dMod_pos (by have := t60_gt; omega)
theorem t60_mod7 {i : Int} : dMod (.int i) (.int (T60 + 7)) = .ok (.int (i % (T60 + 7))) := dMod_pos (by have := t60_gt; omega)
/-! ### roads and maps by their form -/
def cl : Nat → D → Prop
  | 0, d => isX d = false
  | n + 1, d => isX d = false ∧ ∀ ds, (d = .tup ds ∨ d = .lst ds) → ∀ e ∈ ds, cl n e
theorem cl.x {n : Nat} {d : D} (h : cl n d) : isX d = false := by cases n with | zero => exact h | succ n => exact h.1
theorem cl.less : ∀ {n : Nat} {d : D}, cl (n + 1) d → cl n d
  | 0, _, h => h.1
  | n + 1, _, h => ⟨h.1, fun ds e x hx => (h.2 ds e x hx).less⟩
structure OkRd (m : Nat) (r : Road) : Prop where
  a0 : 0 ≤ r.a
  a1 : r.a < m
  b0 : 0 ≤ r.b
  b1 : r.b < m
  ab : r.a ≠ r.b
  l0 : ∀ l, r.l = some l → 0 ≤ l ∧ l < T60
  w0 : 0 ≤ r.w
  w1 : r.w < T60
end L2
namespace L2
theorem all_cons {p : D → Prop} {d : D} {A : List D} (h : p d) (k : ∀ y ∈ A, p y) : ∀ y ∈ d :: A, p y := fun y hy => by
  rcases List.mem_cons.mp hy with rfl | hy
  · exact h
  · exact k y hy
/-- one of a list, by a number -/
theorem pick_mod {S : List D} {q : Int} (h : 0 < S.length) (h0 : 0 ≤ q) : dMod (.int q) (.int (S.length : Int)) = .ok (.int (q % S.length)) ∧ ∃ y, y ∈ S ∧ dItm (.lst S) (.int (q % (S.length : Int))) = .ok y := by
  have hsp : (0 : Int) < (S.length : Int) := by omega
  have b0 : 0 ≤ q % (S.length : Int) := Int.emod_nonneg _ (by omega)
  have b1 : q % (S.length : Int) < S.length := Int.emod_lt_of_pos _ hsp
  refine ⟨dMod_pos hsp, S[(q % (S.length : Int)).toNat]'(by omega), List.getElem_mem _, ?_⟩
  have := dIx_map (f := fun d : D => d) (l := S) b0 (List.getElem?_eq_getElem (by omega))
  rw [List.map_id'] at this
  exact this
end L2
namespace L2
end L2
namespace L2
section
variable {α β : Type} {a b c d e f g : α} {x y : β}
theorem ifl5 : (if [a, b, c, d, e].length ≤ 1000 then x else y) = x := rfl
theorem ifl6 : (if [a, b, c, d, e, f].length ≤ 1000 then x else y) = x := rfl
theorem ifl7 : (if [a, b, c, d, e, f, g].length ≤ 1000 then x else y) = x := rfl
theorem er_dct0 {t : Bool} : er (.dct t [] []) = .dct t [] [] := by simp [er, ers]
end
end L2
namespace L2
end L2

set_option Elab.async false
set_option linter.all false
set_option maxRecDepth 100000
namespace L2
open PySem PySem.Spec PyProof.Rows
/-! ### instances as data: fields, methods by the class, making -/
def lkD (f : Str) : List Str → List D → Option D
  | n :: ns, d :: ds => if f == n then some d else lkD f ns ds
  | _, _ => none
theorem lkD_some {K : PySem.W.Frag} {H : Hp} {f : Str} : ∀ {fs : List (Str × V)} {ds : List D} {d : D}, HasL K H (fs.map Prod.snd) ds → lkD f (fs.map Prod.fst) ds = some d → ∃ v, fs.lookup f = some v ∧ Has K H v d
  | [], ds, d, _, h => by simp [lkD] at h
  | (n, v) :: fs, _, d, .cons hv ht, h => by
    rw [List.map_cons, lkD] at h
    rw [List.lookup_cons]
    cases q : f == n with
    | true => rw [q, if_pos rfl] at h; cases h; exact ⟨v, rfl, hv⟩
    | false => rw [q, if_neg (by simp)] at h; exact lkD_some ht h
theorem lkD_none {K : PySem.W.Frag} {H : Hp} {f : Str} : ∀ {fs : List (Str × V)} {ds : List D}, HasL K H (fs.map Prod.snd) ds → lkD f (fs.map Prod.fst) ds = none → fs.lookup f = none
  | [], ds, _, h => rfl
  | (n, v) :: fs, _, .cons hv ht, h => by
    rw [List.map_cons, lkD] at h
    rw [List.lookup_cons]
    cases q : f == n with
    | true => rw [q, if_pos rfl] at h; cases h
    | false => rw [q, if_neg (by simp)] at h; exact lkD_none ht h
/-- the class x has no f of its own -/
structure FldAt (K : PySem.W.Frag) (x f : Str) : Prop where
  ex : ∃ C, PySem.W.nsIn K mainGlobals x = some (some (.ref C)) ∧ Cls K C ∧ NoAttr K C f
def dFld (cs : List Str) (f : Str) (d : D) : M D := match d with
  | .ins x ns ds => if x ∈ cs then (match lkD f ns ds with | some e => .ok e | none => .bad) else .bad
  | _ => .bad
section
variable {X : Cx} {E : XK} {WX : Str → Hp → Prop} {c : Bool} {P0 : P0T} {P : Addr → Prop} {H : Hp} {σ : St} {ρ : Rho} {a b e : Expr} {es : List Expr} {f g : Rho → M D} {fs : Rho → M (List D)} {fn : Rho → M OT} {pos : Pos} {te : TE}
theorem de_fld (cs : List Str) {fl : Str} (hcs : ∀ x ∈ cs, FldAt X.K x fl) (ha : DE X WX c a f) (hb : attributeBase a fl X.env (eval a X.env) = eval a X.env := by rfl) : DE X WX c (.Attribute a fl pos) (fun ρ => (f ρ).bind (dFld cs fl)) := by
  obtain ⟨ta, a1, a2⟩ := ha
  refine ⟨_, pe_fld a1 hb, fun P0 P σ H Q ρ E h => ?_⟩
  dsimp only at h
  refine a2 P0 P σ H _ ρ E ?_
  cases e : f ρ with
  | bad => rw [e] at h; exact h
  | ex x => rw [e] at h; exact h
  | ok d =>
    rw [e] at h
    simp only [M.bind_ok] at h
    intro v H1 s1 hv
    unfold dFld at h
    split at h
    · rename_i x ns ds
      split at h
      · rename_i hx
        split at h
        · rename_i d' el
          cases hv with
          | ins hn ha hl =>
            obtain ⟨C, hn', hc, hno⟩ := (hcs x hx).ex
            rw [hn] at hn'
            cases hn'
            obtain ⟨v', l1, l2⟩ := lkD_some hl el
            exact ⟨_, _, _, _, v', rfl, (del_some ha).2, hc, hno, l1, h v' H1 s1 l2⟩
        · exact h.elim
      · exact h.elim
    · exact h.elim
/-! methods -/
structure MthAt (K : PySem.W.Frag) (x m qual : Str) (st : Stmt) (ps : List Str) : Prop where
  ex : ∃ C f fd, PySem.W.nsIn K mainGlobals x = some (some (.ref C)) ∧ Cls K C ∧ Meth K C m f ∧ Fun K m qual st f fd ∧ Binds K fd ps []
structure MthT (P : Program) (w : World) (K : PySem.W.Frag) (mg : Str → Option Value) (base : Heap) (x m : Str) (k n : Nat) (F : List D → M OT) : Prop where
  ex : ∃ C fa fd ps, PySem.W.nsIn K mainGlobals x = some (some (.ref C)) ∧ Cls K C ∧ Meth K C m fa ∧ FnOk P w K mg base (CXe P w base) k fa fd ps (spT K n F) ∧ Binds K fd ps []
theorem mthT_of {P : Program} {w : World} {K : PySem.W.Frag} {mg : Str → Option Value} {base : Heap} {x m qual : Str} {st : Stmt} {N ps : List Str} {k n : Nat} (T : MthAt K x m qual st ps) (S : FnScope N ps (defScope st)) (g : Rho → M Out)
    (hb : ∀ (f : Addr) (cdv : Value) (A : Around) (outer : List Env) (s : Shared) (H : Hp) (E : XK), Room k (A.deeper (envOfC qual (defScope st) s.heap.objs.size f cdv)) → DSs (cxE P w K mg base N qual (defScope st) f cdv A outer s H E) (wxOf K E) (defBody st) g) (hn : ps.length = n := by rfl) :
    MthT P w K mg base x m (k + 1) n (fun ds => finT (g (stRho N ds))) := by
  obtain ⟨C, f, fd, h1, h2, h3, F, hB⟩ := T.ex
  subst hn
  exact ⟨⟨C, f, fd, ps, h1, h2, h3, fn_T F S g (hb f), hB⟩⟩
def lkF (x : Str) : List (Str × (List D → M OT)) → Option (List D → M OT)
  | [] => none
  | (y, F) :: r => if x = y then some F else lkF x r
theorem lkF_mem {x : Str} {F : List D → M OT} : ∀ {ms : List (Str × (List D → M OT))}, lkF x ms = some F → (x, F) ∈ ms
  | [], h => by cases h
  | (y, G) :: r, h => by
    unfold lkF at h
    split at h
    · rename_i e; cases h; subst e; exact List.mem_cons_self
    · exact List.mem_cons_of_mem _ (lkF_mem h)
def mSel (ms : List (Str × (List D → M OT))) (m : Str) (d : D) : M (List D → M OT) := match d with
  | .ins x ns es => (match lkF x ms with
    | some F => (match lkD m ns es with | none => .ok F | some _ => .bad)
    | none => .bad)
  | _ => .bad
theorem mSel_inv {ms : List (Str × (List D → M OT))} {m : Str} {d : D} {F : List D → M OT} (h : mSel ms m d = .ok F) : ∃ x ns es, d = .ins x ns es ∧ (x, F) ∈ ms ∧ lkD m ns es = none := by
  unfold mSel at h
  split at h
  · rename_i x ns es
    split at h
    · rename_i G e
      split at h
      · rename_i e2; cases h; exact ⟨x, ns, es, rfl, lkF_mem e, e2⟩
      · cases h
    · cases h
  · cases h
theorem mSel_noex {ms : List (Str × (List D → M OT))} {m : Str} {d : D} {x : Str} : mSel ms m d ≠ .ex x := fun h => by
  unfold mSel at h
  split at h
  · split at h
    · split at h <;> cases h
    · cases h
  · cases h
def tMethD (X : Cx) (m : Str) (k : Nat) (E : XK) (ta : TE) (t : TA) : TE := fun σ H Q => ta σ H fun x H1 => ∃ a C dx fs f fd ps n F, x = .ref a ∧ H1 a = some (.ins C dx fs) ∧ fs.lookup m = none ∧ Cls X.K C ∧ Meth X.K C m f ∧ FnOk X.prog X.w X.K X.mg X.base (CXe X.prog X.w X.base) k f fd ps (spT X.K n F) ∧ Binds X.K fd ps [] ∧
  t σ H1 fun vs H2 => spT X.K n F (x :: vs) H2 Q E
theorem pe_methD {pl : Sem Bool} {o : Expr} {m : Str} {k : Nat} {ta : TE} {t : TA} {apos : Pos} (he : PE X o ta) (hr : Room k X.A) (hx : Passes (CXe X.prog X.w X.base) X E) (ha : PA X (e :: es) t)
    (hst : starEach (e :: es) X.env = (false, eval e X.env) :: starEach es X.env := by rfl) (hpl : (backTo pos (starEach es X.env)).any (·.1) = false := by rfl)
    (ht : eval (.Call (.Attribute o m apos) (e :: es) [] pos) X.env = (do
      let ov ← eval o X.env
      standAt apos.atName
      let (f, first) ← holding [ov] (getMethod ov m pl)
      callWith pos f first (backTo pos (starEach (e :: es) X.env)) (backToKw pos (keywordEach [] X.env))) := by rfl) :
    PE X (.Call (.Attribute o m apos) (e :: es) [] pos) (tMethD X m k E ta t) := by
  intro pins s σ H Q I h
  refine PySem.W.methodCall_KW (pl := pl) (thn (he pins s σ H _ I h) fun u s1 ⟨x, H1, I1, rx, a, C, dx, fs, f, fd, ps, n, F, ex, ea, l, c, hm, hF, hb, q⟩ => ?_) ht
  subst ex
  obtain rfl : u = Value.ref a := rx
  refine getmeth_ok I1 ea c hm l ?_
  refine PySem.W.callWith_K (first := [.ref a]) (h₀ := X.base) I.ok.mod.kin hm.kp (thn (ha pos pins s1 σ H1 _ I1 q) fun us s2 ⟨vs, H2, I2, r, q2⟩ => ⟨I2.kIn, ?_⟩) hst hpl
  exact run_fn (us := .ref a :: us) (vs := .ref a :: vs) hF hr hb .nil hx I2 (.cons rfl r) (by rw [List.append_nil]; exact q2)
theorem fnOk_up {P : Program} {w : World} {K : PySem.W.Frag} {mg : Str → Option Value} {base : Heap} {CX : CXT} {k k' : Nat} {f : Addr} {fd : FuncData} {ps : List Str} {sp : Sp} (h : k ≤ k') (F : FnOk P w K mg base CX k f fd ps sp) : FnOk P w K mg base CX k' f fd ps sp :=
  ⟨F.len, fun A stack s H args us vs Q E hr => F.run A stack s H args us vs Q E (hr.mono h)⟩
theorem dn_meth {o : Expr} {fo : Rho → M D} {m : Str} {k n : Nat} {apos : Pos} {pl : Sem Bool} (ms : List (Str × (List D → M OT))) (xo : XCall X E) (hms : ∀ p ∈ ms, ∃ k', k' ≤ k ∧ MthT X.prog X.w X.K X.mg X.base p.1 m k' n p.2) (hr : Room k X.A) (ho : DE X (wxOf X.K E) true o fo) (ha : DA X (wxOf X.K E) true (e :: es) fs) (hnn : (e :: es).length + 1 = n)
    (hst : starEach (e :: es) X.env = (false, eval e X.env) :: starEach es X.env := by rfl) (hpl : (backTo pos (starEach es X.env)).any (·.1) = false := by rfl)
    (ht : eval (.Call (.Attribute o m apos) (e :: es) [] pos) X.env = (do
      let ov ← eval o X.env
      standAt apos.atName
      let (f, first) ← holding [ov] (getMethod ov m pl)
      callWith pos f first (backTo pos (starEach (e :: es) X.env)) (backToKw pos (keywordEach [] X.env))) := by rfl) :
    DN X (wxOf X.K E) (.Call (.Attribute o m apos) (e :: es) [] pos) (fun ρ => (fo ρ).bind fun d => (mSel ms m d).bind fun F => (fs ρ).bind fun ds => F (d :: ds)) := by
  obtain ⟨ta, a1, a2⟩ := ho
  obtain ⟨tb, b1, b2, b3⟩ := ha
  refine ⟨_, pe_methD (pl := pl) a1 hr xo.call b1 hst hpl ht, fun P0 P σ H Q ρ Ev h => ?_⟩
  dsimp only at h
  refine a2 P0 P σ H _ ρ Ev ?_
  cases q : fo ρ with
  | bad => rw [q] at h; exact h
  | ex x => rw [q] at h; exact h
  | ok d =>
    rw [q] at h
    simp only [M.bind_ok] at h
    intro v H1 s1 hv
    cases q2 : mSel ms m d with
    | bad => rw [q2] at h; exact h.elim
    | ex y => exact (mSel_noex q2).elim
    | ok F =>
      rw [q2] at h
      simp only [M.bind_ok] at h
      obtain ⟨x, ns, ds0, rfl, hmem, hlk⟩ := mSel_inv q2
      obtain ⟨k', hk', M0⟩ := hms _ hmem
      obtain ⟨C, fa, fd, ps, h1, h2, h3, h4, h5⟩ := M0.ex
      cases hv with
      | ins hn hH hl =>
        rw [hn] at h1
        cases h1
        refine ⟨_, _, _, _, fa, fd, ps, n, F, rfl, (del_some hH).2, lkD_none hl hlk, h2, h3, fnOk_up hk' h4, h5, ?_⟩
        refine b2 P0 P σ H1 _ ρ (Ev.same s1) ?_
        cases q3 : fs ρ with
        | bad => rw [q3] at h; exact h
        | ex y => rw [q3] at h; exact fun H' s => h H' (s1.trans s)
        | ok ds =>
          rw [q3] at h
          simp only [M.bind_ok] at h
          intro vs H2 s2 hvs
          have hself := (Has.ins hn hH hl).mono s2.del
          exact ⟨by rw [List.length_cons, hvs.length, b3 ρ ds q3]; exact hnn, P, _, ((Ev.same s1).same s2).trk, .cons hself hvs, h.same (s1.trans s2)⟩
end
end L2

set_option Elab.async false
set_option linter.all false
set_option maxRecDepth 100000
namespace L2
open PySem PySem.Spec PyProof.Rows
section
variable {X : Cx} {E : XK} {WX : Str → Hp → Prop} {c : Bool} {P0 : P0T} {P : Addr → Prop} {H : Hp} {σ : St} {ρ : Rho} {a b e : Expr} {es : List Expr} {f g : Rho → M D} {fs : Rho → M (List D)} {fn : Rho → M OT} {pos : Pos} {te : TE}
/-! ### C() without an __init__ of its own -/
structure Mk0 (K : PySem.W.Frag) (C : Addr) : Prop where
  makes : PySem.W.makesIn K C = true
  init : PySem.W.findIn K (.ref C) "__init__" = some (some (.builtin "object.__init__"))
  kp : PySem.W.keepIn K (.ref C) = true
theorem run_make0 {pins : List (Addr × Obj)} {s : Shared} {Q : VK} {C : Addr} (M : Mk0 X.K C) (I : Inv X pins σ H s)
    (h : ∀ x dx, H x = none → H dx = none → dx ≠ x → Q (.ref x) (upd (upd H dx (.own x)) x (.ins C dx []))) :
    wpAny (model X.prog X.w) X.A (call (.ref C) []) (EP X pins σ Q) X.xe s := by
  have hq := h (s.heap.objs.size + 1) s.heap.objs.size (I.hok.fresh (Nat.le_succ _)) (I.hok.fresh (Nat.le_refl _)) (Nat.ne_of_lt (Nat.lt_succ_self _))
  have I2 := Inv.made (C := C) I
  have Y := PySem.W.makes_of (M := model X.prog X.w) I.kIn M.makes
  refine wpAny_call (make_map0 I.kIn M.makes M.init (fun self => PySem.W.Looks.of_pure (PySem.W.oi_bind self)) ?_)
  have g1 : ((s.heap.push PySem.W.emptyDict).push (PySem.W.instObj C s.heap.objs.size)).get? (s.heap.objs.size + 1) = some (PySem.W.instObj C s.heap.objs.size) := by
    have := Heap.get?_push_size (s.heap.push PySem.W.emptyDict) (o := PySem.W.instObj C s.heap.objs.size) rfl
    rw [Heap.size_push] at this
    exact this
  have t1 : PySem.W.Looks (model X.prog X.w) ((s.heap.push PySem.W.emptyDict).push (PySem.W.instObj C s.heap.objs.size)) (typeOf (.ref (s.heap.objs.size + 1))) (.ref C) := (PySem.W.Looks.ld g1).andThen .now
  have t2 : PySem.W.Looks (model X.prog X.w) ((s.heap.push PySem.W.emptyDict).push (PySem.W.instObj C s.heap.objs.size)) (isInstance (.ref (s.heap.objs.size + 1)) (.type "object")) true := t1.andThen (Y.top.keeps fun b o e => Heap.get?_push_of_some _ (Heap.get?_push_of_some _ e))
  refine codeAny_call_builtin PySem.W.oi_plain PySem.W.entry_oi (@PySem.W.check_slot (model X.prog X.w) _ _ _ "object.__init__" "object" "__init__" (.ref (s.heap.objs.size + 1)) [] [] _ PySem.W.oi_kind PySem.W.oi_split t2 (PySem.W.oi_args (.ref (s.heap.objs.size + 1))) ?_)
  rw [PySem.W.oi_run]
  exact wpAny_pure ⟨rfl, ⟨V.ref (s.heap.objs.size + 1), _, I2, rfl, hq⟩⟩
structure ClsT (K : PySem.W.Frag) (mg : Str → Option Value) (x : Str) (C : Addr) : Prop where
  ns : PySem.W.nsIn K mainGlobals x = some (some (.ref C))
  mg' : mg x = some (.ref C)
theorem same_made {p dx C : Addr} (hp : H p = none) (hd : H dx = none) : Same H (upd (upd H dx (.own p)) p (.ins C dx [])) := fun b u q => by
  rw [upd_ne (ne_of_none q hp), upd_ne (ne_of_none q hd)]
  exact q
theorem gN'.newI {K : PySem.W.Frag} {WX : Str → Hp → Prop} {P : Addr → Prop} {H H1 : Hp} {Q : VK} {x : Str} {C p dx : Addr} (h : gN' K WX P H Q (.ok (.ins x [] []))) (s1 : Same H H1) (hn : PySem.W.nsIn K mainGlobals x = some (some (.ref C))) (hp : H1 p = none) (hd : H1 dx = none) : Q (.ref p) (upd (upd H1 dx (.own p)) p (.ins C dx [])) := by
  have hn1 : ∀ a ∈ [p], H1 a = none := fun a ha => by rw [List.mem_singleton.mp ha]; exact hp
  exact h _ [p] _ (s1.trans (same_made hp hd)) (fun a ha => none_same s1 (hn1 a ha)) (by simp) (OwT.ins (fs := []) hn upd_same .nil)
theorem dn_new0 {x : Str} {C : Addr} {p : Pos} (T : ClsT X.K X.mg x C) (M : Mk0 X.K C) (hg : Gl X x) (hdb : (x == ("__debug__" : Str)) = false := by decide) : DN X WX (.Call (.Name x p) [] [] pos) (fun _ => .ok (.ins x [] [])) := by
  refine ⟨fun σ H Q => ∀ y dx, H y = none → H dx = none → dx ≠ y → Q (.ref y) (upd (upd H dx (.own y)) y (.ins C dx [])), ?_, fun P0 P σ H Q ρ E h y dx hy hd _ => gN'.newI h (Same.refl _) T.ns hy hd⟩
  intro pins s σ H Q I h
  refine wpAny_Call_Name_kw (ld_glob I hg T.mg' ?_ hdb)
  exact PySem.W.callWith_K0 I.kIn M.kp (run_make0 M I h)
/-! ### C(..) with an __init__, to which the new one is lent -/
structure IniT (P : Program) (w : World) (K : PySem.W.Frag) (mg : Str → Option Value) (base : Heap) (x : Str) (k n : Nat) (F : OT → List D → M (OT × OT)) : Prop where
  ex : ∃ C fa fd ps, ClsT K mg x C ∧ Mk K C fa ∧ FnOk P w K mg base (CXe P w base) k fa fd ps (spIOT K n F) ∧ Binds K fd ps []
structure IniAt (K : PySem.W.Frag) (mg : Str → Option Value) (x qual : Str) (st : Stmt) (ps : List Str) : Prop where
  ex : ∃ C f fd, ClsT K mg x C ∧ Mk K C f ∧ Fun K "__init__" qual st f fd ∧ Binds K fd ps []
theorem iniT_of {P : Program} {w : World} {K : PySem.W.Frag} {mg : Str → Option Value} {base : Heap} {x qual : Str} {st : Stmt} {N ps : List Str} {k n : Nat} (T : IniAt K mg x qual st ps) (S : FnScope N ps (defScope st)) (g : Rho → M Out)
    (hb : ∀ (f : Addr) (cdv : Value) (A : Around) (outer : List Env) (s : Shared) (H : Hp) (E : XK), Room k (A.deeper (envOfC qual (defScope st) s.heap.objs.size f cdv)) → DSs (cxE P w K mg base N qual (defScope st) f cdv A outer s H E) (wxOf K E) (defBody st) g) (hn : ps.length = n := by rfl) :
    IniT P w K mg base x (k + 1) n (fun t dsr => finIOT (g (stIOT N t dsr))) := by
  obtain ⟨C, f, fd, h1, h2, F, hB⟩ := T.ex
  subst hn
  exact ⟨⟨C, f, fd, ps, h1, h2, fn_IOT F S g (hb f), hB⟩⟩
def madeM (m : M (OT × OT)) : M OT := match m with
  | .ok (t, .sh .non) => .ok t
  | _ => .bad
theorem dn_make {x : Str} {k n : Nat} {F : OT → List D → M (OT × OT)} {p : Pos} (xo : XCall X E) (G : IniT X.prog X.w X.K X.mg X.base x k n F) (hr : Room (k + 1) X.A) (hg : Gl X x) (ha : DA X (wxOf X.K E) true (e :: es) fs) (hnn : (e :: es).length + 1 = n)
    (hdb : (x == ("__debug__" : Str)) = false := by decide) (he : starEach (e :: es) X.env = (false, eval e X.env) :: starEach es X.env := by rfl) (hpl : (backTo pos (starEach es X.env)).any (·.1) = false := by rfl) :
    DN X (wxOf X.K E) (.Call (.Name x p) (e :: es) [] pos) (fun ρ => (fs ρ).bind fun ds => madeM (F (.ins x [] []) ds)) := by
  obtain ⟨C, fa, fd, ps, hT, hM, hF, hb⟩ := G.ex
  obtain ⟨ta, a1, a2, a3⟩ := ha
  refine ⟨_, pe_make hM hF hr hg hT.mg' hb .nil xo.call a1 hdb he hpl, fun P0 P σ H Q ρ Ev h => ?_⟩
  dsimp only at h
  refine a2 P0 P σ H _ ρ Ev ?_
  cases q : fs ρ with
  | bad => rw [q] at h; exact h
  | ex x => rw [q] at h; exact h
  | ok ds =>
    rw [q] at h
    simp only [M.bind_ok] at h
    intro vs H1 s1 hvs y dx hy hd hne
    rw [List.append_nil]
    have E1 := Ev.same s1
    have sm := same_made (C := C) hy hd
    have hn1 : ∀ a ∈ [y], H1 a = none := fun a ha => by rw [List.mem_singleton.mp ha]; exact hy
    refine ⟨by rw [List.length_cons, hvs.length, a3 ρ ds q]; exact hnn, PU P [y], y, .ins x [] [], [y], vs, ds, rfl, fun a ha => ?_, fun a ha => .inr ha, by simp, OwT.ins (fs := []) hT.ns upd_same .nil, hvs.mono (pu_same sm hn1), ?_⟩
    · rcases ha with ha | ha
      · exact (E1.trk a ha).same sm
      · rw [List.mem_singleton.mp ha]
        exact ⟨_, upd_same, fun xs => ⟨(fun z => by cases z), (fun z w => by cases w)⟩⟩
    · cases q2 : F (.ins x [] []) ds with
      | bad => rw [q2] at h; exact h
      | ex z => rw [q2] at h; exact h
      | ok tr =>
        obtain ⟨t, r⟩ := tr
        rw [q2] at h
        simp only [madeM] at h
        intro v H' P' fp' fr k1 k2 k3 k4 k5 k6 k7 k8 k9 k10
        cases r with
        | sh d =>
          cases d with
          | non =>
            cases k6 with
            | sh hv =>
              cases hv
              refine ⟨rfl, h _ fp' H' ?_ ?_ k5 ?_⟩
              · intro b u eb
                have e1 := s1 b u eb
                have hby : b ≠ y := fun z => by rw [z, hy] at e1; cases e1
                have e2 := sm b u e1
                by_cases hP : P b
                · exact (k1 b (.inl hP) (by simp [hby])).2.trans e2
                · exact (del_some (k3 b u (by rw [del_of fun z => z.elim hP fun w => hby (List.mem_singleton.mp w)]; exact e2))).2
              · intro b hbf
                cases eb : H b with
                | none => rfl
                | some u =>
                  exfalso
                  have e1 := s1 b u eb
                  have hby : b ≠ y := fun z => by rw [z, hy] at e1; cases e1
                  have e2 := sm b u e1
                  have hn := fun z => hby (List.mem_singleton.mp ((k9 b hbf).2 z))
                  exact (del_some (k3 b u (by rw [del_of hn]; exact e2))).1 (k9 b hbf).1
              · refine k4.move (fun b u eb => ?_) fun _ _ => rfl
                obtain ⟨g1, g2⟩ := del_some eb
                rw [del_of]
                · exact g2
                · rintro (z | z)
                  · have hby : b ≠ y := fun w => by
                      obtain ⟨o, e1, _⟩ := E1.trk b z
                      rw [w, hy] at e1
                      cases e1
                    exact g1 (k1 b (.inl z) (by simp [hby])).1
                  · exact g1 (k9 b z).1
          | _ => exact h.elim
        | _ => exact h.elim
end
end L2

set_option Elab.async false
set_option linter.all false
set_option maxRecDepth 100000
namespace L2
open PySem PySem.Spec PyProof.Rows
/-! ### place.f = e -/
def insAt (i : Nat) (ρ : Rho) (π : List Nat) : M (Str × List Str × List D) := match atR i ρ π with
  | some (.ins x ns ts) => (match shsOf ts with | some vs => .ok (x, ns, vs) | none => .bad)
  | _ => .bad
theorem insAt_ex {i : Nat} {ρ : Rho} {π : List Nat} {x : Str} (h : insAt i ρ π = .ex x) : False := by
  unfold insAt at h
  split at h
  · split at h <;> cases h
  · cases h
def fldN (f : Str) : List Str → List Str
  | [] => [f]
  | g :: r => if g = f then g :: r else g :: fldN f r
def fldV (f : Str) (d : D) : List Str → List D → List D
  | [], _ => [d]
  | g :: r, e :: t => if g = f then d :: t else e :: fldV f d r t
  | _ :: _, [] => []
theorem putF_fst (f : Str) (v : V) : ∀ fs : List (Str × V), (putF f v fs).map Prod.fst = fldN f (fs.map Prod.fst)
  | [] => rfl
  | (g, x) :: r => by
    rw [List.map_cons, fldN, putF]
    split
    · rfl
    · rw [List.map_cons, putF_fst f v r]
theorem putF_snd {K : PySem.W.Frag} {H : Hp} {f : Str} {v : V} {d : D} (hv : Has K H v d) : ∀ {fs : List (Str × V)} {ds : List D}, HasL K H (fs.map Prod.snd) ds → HasL K H ((putF f v fs).map Prod.snd) (fldV f d (fs.map Prod.fst) ds)
  | [], _, .nil => .cons hv .nil
  | (g, x) :: r, _, .cons hx ht => by
    rw [List.map_cons, fldV, putF]
    split
    · exact .cons hv ht
    · exact .cons hx (putF_snd hv ht)
section
variable {X : Cx} {E : XK} {WX : Str → Hp → Prop} {c : Bool} {P0 : P0T} {P : Addr → Prop} {H : Hp} {σ : St} {ρ : Rho} {a b e : Expr} {f g : Rho → M D} {fn : Rho → M OT} {fp : Rho → M (List Nat)} {pos : Pos} {i : Nat} {es : List Expr} {fs : Rho → M (List D)}
theorem PlaceV.ins {K : PySem.W.Frag} {π : List Nat} {v : V} {t1 : OT} {x : Str} {ns : List Str} {vs : List D} (pl : PlaceV K P H σ ρ i π v t1) (E : EnvP K P0 P H σ ρ) (h : insAt i ρ π = .ok (x, ns, vs)) :
    t1 = .ins x ns (vs.map .sh) ∧ ∃ l C dx fs, v = .ref l ∧ HasL K (del H P) (fs.map Prod.snd) vs ∧ OwT K H P (.ref l) (.ins x ns (vs.map .sh)) [l] ∧ PySem.W.nsIn K mainGlobals x = some (some (.ref C)) ∧ H l = some (.ins C dx fs) ∧ ns = fs.map Prod.fst := by
  unfold insAt at h
  rw [pl.at] at h
  split at h
  · rename_i x' ns' ts' e
    split at h
    · rename_i vs' e'
      cases e
      cases h
      have z := shsOf_some e'
      subst z
      obtain ⟨fp1, o1, hp, nd⟩ := pl.own E
      generalize ht : OT.ins x ns (vs.map .sh) = t at o1
      cases o1 with
      | ins hn hh hr =>
        injection ht with h1 h2 h3
        subst h1 h2 h3
        obtain ⟨rfl, hs⟩ := hr.shs
        exact ⟨rfl, _, _, _, _, rfl, hs, .ins hn hh hr, hn, hh, rfl⟩
      | _ => cases ht
    · cases h
  · cases h
theorem ds_fput (cs : List Str) {fl : Str} (hcs : ∀ x ∈ cs, FldAt X.K x fl) (ha : DP X WX a i fp) (hv : DE X WX true e f) {pos' : Pos} (hs : swapsWith e (some (.Attribute a fl pos')) pos.line X.env = pure false := by rfl) :
    DS X WX (.Assign [.Attribute a fl pos'] e pos) (fun ρ => (f ρ).bind fun v => (fp ρ).bind fun π => (insAt i ρ π).bind fun z => if z.1 ∈ cs ∧ z.2.1.length < 1000 then updR i ρ π (.ins z.1 (fldN fl z.2.1) ((fldV fl v z.2.1 z.2.2).map .sh)) else .bad) := by
  obtain ⟨ta, a1, a2⟩ := ha
  obtain ⟨tv, v1, v2⟩ := hv
  refine ⟨_, ps_fld a1 v1 hs, fun P0 P σ H Z ρ E h => ?_⟩
  dsimp only at h
  refine v2 P0 P σ H _ ρ E ?_
  cases q0 : f ρ with
  | bad => rw [q0] at h; exact h
  | ex x => rw [q0] at h; exact fun H' s => h H' P (E.tr s)
  | ok d =>
    rw [q0] at h
    simp only [M.bind_ok] at h
    intro w H0 s0 hw
    have E0 := E.same s0
    refine a2 P0 P σ H0 _ ρ E0 ?_
    cases q : fp ρ with
    | bad => rw [q] at h; exact h
    | ex x => rw [q] at h; exact fun H' s => h H' P ((E.tr s0).trans (E0.tr s))
    | ok π =>
      rw [q] at h
      simp only [M.bind_ok] at h
      intro v t1 H1 s1 pl
      have E1 := E0.same s1
      have tr1 := (E.tr s0).trans (E0.tr s1)
      cases q3 : insAt i ρ π with
      | bad => rw [q3] at h; exact h.elim
      | ex x => exact (insAt_ex q3).elim
      | ok z =>
        obtain ⟨x, ns, vs⟩ := z
        rw [q3] at h
        simp only [M.bind_ok] at h
        by_cases hc : x ∈ cs ∧ ns.length < 1000
        · rw [if_pos hc] at h
          obtain ⟨rfl, l, C, dx, fs, rfl, hxs, ot, hn, hH, rfl⟩ := pl.ins E1 q3
          obtain ⟨C', hn', hcl, hno⟩ := (hcs x hc.1).ex
          rw [hn] at hn'
          cases hn'
          have hw1 := hw.mono s1.del
          obtain ⟨c, p, t0, g1, g2, E3, t3⟩ := E1.mut1 (o' := .ins C dx (putF fl w fs)) (u := .ins x (fldN fl (fs.map Prod.fst)) ((fldV fl d (fs.map Prod.fst) vs).map .sh)) pl ot (fun _ => ⟨fun z => (by cases z), fun _ z => by cases z⟩) (fun mv => by
            have := OwT.ins (K := X.K) (H := upd H1 l (.ins C dx (putF fl w fs))) (P := P) (p := l) (fs := putF fl w fs) (x := x) hn upd_same (((putF_snd hw1 hxs).mono mv).ows)
            rw [putF_fst] at this
            exact this)
          rw [updR_of g1 g2] at h
          exact ⟨l, C, dx, fs, rfl, hH, hcl, hno, by have := hc.2; rw [List.length_map] at this; exact this, h _ _ _ (tr1.trans t3) E3⟩
        · rw [if_neg hc] at h; exact h.elim
end
end L2

set_option Elab.async false
set_option linter.all false
set_option maxRecDepth 100000
namespace L2
open PySem PySem.Spec PyProof.Rows
section
variable {X : Cx} {E : XK} {WX : Str → Hp → Prop} {c : Bool} {P0 : P0T} {P : Addr → Prop} {H : Hp} {σ : St} {ρ : Rho} {a b e : Expr} {f g : Rho → M D} {fn : Rho → M OT} {fp : Rho → M (List Nat)} {pos : Pos} {i : Nat} {es : List Expr} {fs : Rho → M (List D)}
/-! ### place.pop() of shared data -/
def popM (i : Nat) (ρ : Rho) (π : List Nat) (ds : List D) : M (Rho × OT) := match ds[ds.length - 1]? with
  | some d => (match ρ[i]? with
    | some (some c) => (match treeOf c with | some (p, t) => .ok (ρ.set i (some (toCl p (putT t π (.lst (ds.dropLast.map .sh))))), .sh d) | none => .bad)
    | _ => .bad)
  | none => .bad
theorem popM_of {π : List Nat} {ds : List D} {d : D} {c : Cl} {p : Option Nat} {t : OT} (h : ρ[i]? = some (some c)) (ht : treeOf c = some (p, t)) (hd : ds[ds.length - 1]? = some d) : popM i ρ π ds = .ok (ρ.set i (some (toCl p (putT t π (.lst (ds.dropLast.map .sh))))), .sh d) := by
  unfold popM
  simp only [h, ht, hd]
theorem hasL_dropLast {K : PySem.W.Frag} {H : Hp} {vs : List V} {ds : List D} (h : HasL K H vs ds) : HasL K H vs.dropLast ds.dropLast := by
  rw [List.dropLast_eq_take, List.dropLast_eq_take, h.length]
  exact hasL_take _ h
theorem dx_pop (ha : DP X WX a i fp) {apos cpos : Pos} (hbase : attributeBase a "pop" X.env (eval a X.env) = eval a X.env := by rfl) (hline : (apos.endLine == cpos.line) = true := by rfl) :
    DX X WX (.Call (.Attribute a "pop" apos) [] [] cpos) (fun ρ => (fp ρ).bind fun π => (shL i ρ π).bind fun ds => popM i ρ π ds) := by
  obtain ⟨ta, a1, a2⟩ := ha
  refine ⟨_, pe_bm0 PySem.F.plainAttrs_list PySem.F.slot_list_pop PySem.F.type_list_pop mt_pop a1 hbase hline, fun P0 P σ H Q ρ E h => ?_⟩
  dsimp only at h
  refine a2 P0 P σ H _ ρ E ?_
  cases q : fp ρ with
  | bad => rw [q] at h; exact h
  | ex x => rw [q] at h; exact fun H' s => h H' P (E.tr s)
  | ok π =>
    rw [q] at h
    simp only [M.bind_ok] at h
    intro v t1 H1 s1 pl
    have E1 := E.same s1
    cases q1 : shL i ρ π with
    | bad => rw [q1] at h; exact h.elim
    | ex x => exact (shL_ex q1).elim
    | ok ds =>
      rw [q1] at h
      simp only [M.bind_ok] at h
      obtain ⟨rfl, l, xs, rfl, hl, ol⟩ := pl.shl E1 q1
      refine ⟨.inl ⟨rfl, xs, .of hl⟩, ?_⟩
      cases hd : ds[ds.length - 1]? with
      | none => unfold popM at h; rw [hd] at h; exact h.elim
      | some d =>
        obtain ⟨y, hy, hyd⟩ := ol.get hd
        obtain ⟨c, p, t0, g1, g2, E3, t3⟩ := E1.mutL pl hl ol.ows (us := ds.dropLast.map .sh) (ys := xs.dropLast) (hasL_dropLast ol).ows (by simp) (by simp) (by simp)
        rw [popM_of g1 g2 hd] at h
        refine ⟨l, xs, y, rfl, rfl, hl, by rw [ol.length]; exact hy, ?_⟩
        have sd : Same (del H1 P) (del (upd H1 l (.lst xs.dropLast)) P) := t3.1
        exact h y [] _ _ ((E.tr s1).trans t3) E3 (.sh (hyd.mono sd)) (by simp) (by simp)
/-! ### isinstance(o, C), o an instance -/
structure IsAt (K : PySem.W.Frag) (x : Str) (Cv : Value) (b : Bool) : Prop where
  ex : ∃ C, PySem.W.nsIn K mainGlobals x = some (some (.ref C)) ∧ Cls K C ∧ PySem.W.findIn K (.ref C) "__class__" = some (some (.builtin "object.__class__")) ∧ PySem.W.specialIn K (.builtin "object.__class__") "__get__" = some (some (.builtin "getset_descriptor.__get__")) ∧ PySem.W.takesIn K (.builtin "object.__class__") = some true ∧ PySem.W.mroIn K C (.type "object") = some true ∧ PySem.W.kitOne K (.ref C) Cv = some b
def lkB (x : Str) : List (Str × Bool) → Option Bool
  | [] => none
  | (y, b) :: r => if x = y then some b else lkB x r
theorem lkB_mem {x : Str} {b : Bool} : ∀ {ms : List (Str × Bool)}, lkB x ms = some b → (x, b) ∈ ms
  | [], h => by cases h
  | (y, G) :: r, h => by
    unfold lkB at h
    split at h
    · rename_i e; cases h; subst e; exact List.mem_cons_self
    · exact List.mem_cons_of_mem _ (lkB_mem h)
def dIsI (tab : List (Str × Bool)) (d : D) : M D := match d with
  | .ins x _ _ => (match lkB x tab with | some b => .ok (.bl b) | none => .bad)
  | _ => .bad
def rIsI (K : PySem.W.Frag) (cv : V) (tab : List (Str × Bool)) : List V → Hp → VK → Prop := fun xs H Q => ∃ a C dx fs x b, xs = [.ref a, cv] ∧ PySem.W.nsIn K mainGlobals x = some (some (.ref C)) ∧ H a = some (.ins C dx fs) ∧ lkB x tab = some b ∧ Q (.bl b) H
theorem call_isI {cv : V} {Cv : Value} {tab : List (Str × Bool)} (hr : ∀ u, RelV cv u → u = Cv) (hk : ∀ p ∈ tab, IsAt X.K p.1 Cv p.2) : CallR X (.builtin "isinstance") (rIsI X.K cv tab) := by
  intro pins s σ H xs us Q I r h
  obtain ⟨a, C, dx, fs, x, b, rfl, hn, ha, ht, q⟩ := h
  obtain ⟨u, w, rfl, rx, rw'⟩ := r.two
  obtain rfl := hr w rw'
  obtain ⟨C', h1, h2, h3, h4, h5, h6, h7⟩ := (hk _ (lkB_mem ht)).ex
  rw [hn] at h1
  cases h1
  exact isinst_ok I rx (.ins ha h2 h3 h4 h5 h6) h7 fun tk => ⟨.bl _, H, I.tok tk, rfl, q⟩
theorem de_isI {C : Addr} {x2 : Str} {p p2 : Pos} (tab : List (Str × Bool)) (hk : ∀ p ∈ tab, IsAt X.K p.1 (.ref C) p.2) (hg : Gl X "isinstance") (hm : X.mg "isinstance" = none) (hg2 : Gl X x2) (hm2 : X.mg x2 = some (.ref C)) (ha : DE X WX c e f)
    (hb : bootBuiltins "isinstance" = some (.builtin "isinstance") := by decide +kernel) (hdb2 : (x2 == ("__debug__" : Str)) = false := by decide) (hs : starEach [e, .Name x2 p2] X.env = (false, eval e X.env) :: starEach [.Name x2 p2] X.env := by rfl) (hs2 : starEach [.Name x2 p2] X.env = [(false, eval (.Name x2 p2) X.env)] := by rfl)
    (hpl : (backTo pos (starEach [.Name x2 p2] X.env)).any (·.1) = false := by rfl) :
    DE X WX c (.Call (.Name "isinstance" p) [e, .Name x2 p2] [] pos) (fun ρ => (f ρ).bind (dIsI tab)) := by
  obtain ⟨ta, a1, a2⟩ := ha
  refine ⟨_, pe_callB (call_isI (cv := .ref C) (fun u r => by cases r; rfl) hk) hg hm hb (pa_cons a1 (pa_cons (pe_glob (v := .ref C) hg2 hm2 rfl hdb2) pa_nil hs2) hs) (by decide) (by decide) hs hpl, fun P0 P σ H Q ρ E h => ?_⟩
  dsimp only at h
  refine a2 P0 P σ H _ ρ E ?_
  cases q : f ρ with
  | bad => rw [q] at h; exact h
  | ex x => rw [q] at h; exact h
  | ok d =>
    rw [q] at h
    simp only [M.bind_ok] at h
    intro v H1 s1 hv
    unfold dIsI at h
    split at h
    · rename_i x ns ds
      split at h
      · rename_i b el
        cases hv with
        | ins hn hH hl => exact ⟨_, _, _, _, x, b, rfl, hn, (del_some hH).2, el, h _ H1 s1 (.bl _)⟩
      · exact h.elim
    · exact h.elim
end
end L2

set_option Elab.async false
set_option linter.all false
set_option maxRecDepth 100000
namespace L2
open PySem PySem.Spec PyProof.Rows
/-! ### short words for generated terms -/
theorem fld_nil {K : PySem.W.Frag} {f : Str} : ∀ y ∈ ([] : List Str), FldAt K y f := fun y h => by cases h
theorem fld_cons {K : PySem.W.Frag} {f x : Str} {xs : List Str} (h : FldAt K x f) (t : ∀ y ∈ xs, FldAt K y f) : ∀ y ∈ x :: xs, FldAt K y f := fun y hy => by
  rcases List.mem_cons.mp hy with rfl | hy
  · exact h
  · exact t y hy
theorem mth_nil {P : Program} {w : World} {K : PySem.W.Frag} {mg : Str → Option Value} {base : Heap} {m : Str} {k n : Nat} : ∀ p ∈ ([] : List (Str × (List D → M OT))), ∃ k', k' ≤ k ∧ MthT P w K mg base p.1 m k' n p.2 := fun p h => by cases h
theorem mth_cons {P : Program} {w : World} {K : PySem.W.Frag} {mg : Str → Option Value} {base : Heap} {m x : Str} {k k' n : Nat} {F : List D → M OT} {ms : List (Str × (List D → M OT))} (hk : k' ≤ k) (h : MthT P w K mg base x m k' n F) (t : ∀ p ∈ ms, ∃ k', k' ≤ k ∧ MthT P w K mg base p.1 m k' n p.2) :
    ∀ p ∈ (x, F) :: ms, ∃ k', k' ≤ k ∧ MthT P w K mg base p.1 m k' n p.2 := fun p hp => by
  rcases List.mem_cons.mp hp with rfl | hp
  · exact ⟨k', hk, h⟩
  · exact t p hp
structure New0 (K : PySem.W.Frag) (mg : Str → Option Value) (x : Str) : Prop where
  ex : ∃ C, ClsT K mg x C ∧ Mk0 K C
structure IsTab (K : PySem.W.Frag) (mg : Str → Option Value) (x : Str) (tab : List (Str × Bool)) : Prop where
  ex : ∃ C, mg x = some (.ref C) ∧ ∀ p ∈ tab, IsAt K p.1 (.ref C) p.2
theorem isat_nil {K : PySem.W.Frag} {Cv : Value} : ∀ p ∈ ([] : List (Str × Bool)), IsAt K p.1 Cv p.2 := fun p h => by cases h
theorem isat_cons {K : PySem.W.Frag} {Cv : Value} {x : Str} {b : Bool} {r : List (Str × Bool)} (h : IsAt K x Cv b) (t : ∀ p ∈ r, IsAt K p.1 Cv p.2) : ∀ p ∈ (x, b) :: r, IsAt K p.1 Cv p.2 := fun p hp => by
  rcases List.mem_cons.mp hp with rfl | hp
  · exact h
  · exact t p hp
section
variable {X : Cx} {E : XK} {WX : Str → Hp → Prop} {c : Bool} {e : Expr} {f : Rho → M D} {pos : Pos}
theorem dn_new {x : Str} {p : Pos} (T : New0 X.K X.mg x) (hg : Gl X x) (hdb : (x == ("__debug__" : Str)) = false := by decide) : DN X WX (.Call (.Name x p) [] [] pos) (fun _ => .ok (.ins x [] [])) := by
  obtain ⟨C, h1, h2⟩ := T.ex
  exact dn_new0 h1 h2 hg hdb
theorem de_isC {x2 : Str} {p p2 : Pos} {tab : List (Str × Bool)} (T : IsTab X.K X.mg x2 tab) (hg : Gl X "isinstance") (hm : X.mg "isinstance" = none) (hg2 : Gl X x2) (ha : DE X WX c e f)
    (hb : bootBuiltins "isinstance" = some (.builtin "isinstance") := by decide +kernel) (hdb2 : (x2 == ("__debug__" : Str)) = false := by decide) (hs : starEach [e, .Name x2 p2] X.env = (false, eval e X.env) :: starEach [.Name x2 p2] X.env := by rfl) (hs2 : starEach [.Name x2 p2] X.env = [(false, eval (.Name x2 p2) X.env)] := by rfl)
    (hpl : (backTo pos (starEach [.Name x2 p2] X.env)).any (·.1) = false := by rfl) :
    DE X WX c (.Call (.Name "isinstance" p) [e, .Name x2 p2] [] pos) (fun ρ => (f ρ).bind (dIsI tab)) := by
  obtain ⟨C, h1, h2⟩ := T.ex
  exact de_isI tab h2 hg hm hg2 h1 ha hb hdb2 hs hs2 hpl
end
end L2

set_option Elab.async false
set_option linter.all false
set_option maxRecDepth 100000
namespace L2
/-! ### travellers -/
theorem pop_last {ρ : Rho} {i : Nat} {xs : List D} {d : D} (h : ρ[i]? = some (some (.own (xs ++ [d])))) : popM i ρ [] (xs ++ [d]) = .ok (ρ.set i (some (.own xs)), .sh d) := by
  rw [popM_of h (p := none) (t := .lst ((xs ++ [d]).map .sh)) rfl (d := d) (by simp)]
  rw [putT_nil, List.dropLast_concat, toCl_list]
end L2

set_option Elab.async false
set_option linter.all false
set_option maxRecDepth 100000
namespace L2
open PySem PySem.Spec PyProof.Rows
/-- a def of which nothing is said: the floor of a recursion -/
theorem fnT_bad {P : Program} {w : World} {K : PySem.W.Frag} {mg : Str → Option Value} {base : Heap} {x : Str} {st : Stmt} {ps : List Str} (T : FunAt K mg x st ps) :
    FnT P w K mg base x 0 ps.length (fun _ => .bad) := by
  obtain ⟨f, fd, F, hm, hB⟩ := T.ex
  exact ⟨⟨f, fd, ps, ⟨fun vs H Q E h => h.1, fun A outer s H args us vs Q E _ _ _ _ h => by
    obtain ⟨_, P', ds, _, _, g⟩ := h
    exact g.elim⟩, hm, F.kp, hB⟩⟩
/-! ### travellers within travellers -/
inductive Mo where
  | plain | wide (n : Int) | short (n : Int) | even | pair (a b : Mo)
def moD : Mo → D
  | .plain => .tup [.str "plain"]
  | .wide n => .tup [.str "wide", .int n]
  | .short n => .tup [.str "short", .int n]
  | .even => .tup [.str "even"]
  | .pair a b => .tup [.str "pair", moD a, moD b]
def moO : Mo → D
  | .plain => .ins "Traveller" [] []
  | .wide n => .ins "Wide" ["least_width"] [.int n]
  | .short n => .ins "Short" ["most_length"] [.int n]
  | .even => .ins "Even" [] []
  | .pair a b => .ins "Pair" ["first", "second"] [moO a, moO b]
def moT : Mo → Option Int → Int → Option Int
  | _, none, _ => none
  | .plain, some l, _ => some l
  | .wide n, some l, w => if w < n then none else some l
  | .short n, some l, _ => if n < l then none else some l
  | .even, some _, _ => some 0
  | .pair a b, some l, w => moT b (moT a (some l) w) w
def moDep : Mo → Nat
  | .pair a b => max (moDep a) (moDep b) + 1
  | _ => 0
def moSz : Mo → Nat
  | .pair a b => moSz a + moSz b + 1
  | _ => 1
def moSzs : List Mo → Nat
  | [] => 0
  | m :: ms => moSz m + moSzs ms
def moRun (w : Int) : List Mo → Option Int → Option Int
  | [], l => l
  | m :: ms, l => moRun w ms (moT m l w)
theorem moT_none (m : Mo) (w : Int) : moT m none w = none := by cases m <;> rfl
theorem moRun_none (w : Int) : ∀ ms : List Mo, moRun w ms none = none
  | [] => rfl
  | m :: ms => by rw [moRun, moT_none]; exact moRun_none w ms
theorem szs_len : ∀ ms : List Mo, ms.length ≤ moSzs ms
  | [] => Nat.le_refl _
  | m :: ms => by
    have := szs_len ms
    have h1 : 1 ≤ moSz m := by cases m <;> simp only [moSz] <;> omega
    simp only [List.length_cons, moSzs]
    omega
theorem moSz_dep : ∀ m : Mo, moSz m + 1 ≤ 2 ^ (moDep m + 1)
  | .plain | .wide _ | .short _ | .even => by simp only [moSz, moDep]; decide
  | .pair a b => by
    have h1 := moSz_dep a
    have h2 := moSz_dep b
    have h3 : 2 ^ (moDep a + 1) ≤ 2 ^ (max (moDep a) (moDep b) + 1) := Nat.pow_le_pow_right (by decide) (by omega)
    have h4 : 2 ^ (moDep b + 1) ≤ 2 ^ (max (moDep a) (moDep b) + 1) := Nat.pow_le_pow_right (by decide) (by omega)
    simp only [moSz, moDep]
    rw [Nat.pow_succ]
    omega
theorem moCase (m : Mo) : (∃ a b, m = .pair a b) ∨ moSz m = 1 ∧ ∀ a b, m ≠ .pair a b := by
  cases m with
  | pair a b => exact .inl ⟨a, b, rfl⟩
  | _ => exact .inr ⟨rfl, fun a b h => by cases h⟩
end L2

set_option Elab.async false
set_option linter.all false
set_option maxRecDepth 100000
set_option maxHeartbeats 4000000
namespace K04
open PySem L2
def top (i : Nat) : Stmt := PySem.Challenge.pw_nodeladder_k04_travellers.main.body.getD i (.Pass ⟨0, 0, 0, 0⟩)
abbrev s_with_length : Stmt := top 1
theorem sc_with_length : FnScope ["road", "length"] ["road", "length"] (defScope s_with_length) := ⟨rfl, rfl, rfl, by decide +kernel, rfl, by decide +kernel, by decide +kernel⟩
abbrev s_Traveller_told : Stmt := inClass (top 2) 0
theorem sc_Traveller_told : FnScope ["self", "road"] ["self", "road"] (defScope s_Traveller_told) := ⟨rfl, rfl, rfl, by decide +kernel, rfl, by decide +kernel, by decide +kernel⟩
abbrev s_Wide___init__ : Stmt := inClass (top 3) 0
theorem sc_Wide___init__ : FnScope ["self", "width"] ["self", "width"] (defScope s_Wide___init__) := ⟨rfl, rfl, rfl, by decide +kernel, rfl, by decide +kernel, by decide +kernel⟩
abbrev s_Wide_told : Stmt := inClass (top 3) 1
theorem sc_Wide_told : FnScope ["self", "road"] ["self", "road"] (defScope s_Wide_told) := ⟨rfl, rfl, rfl, by decide +kernel, rfl, by decide +kernel, by decide +kernel⟩
abbrev s_Short___init__ : Stmt := inClass (top 4) 0
theorem sc_Short___init__ : FnScope ["self", "length"] ["self", "length"] (defScope s_Short___init__) := ⟨rfl, rfl, rfl, by decide +kernel, rfl, by decide +kernel, by decide +kernel⟩
abbrev s_Short_told : Stmt := inClass (top 4) 1
theorem sc_Short_told : FnScope ["self", "road"] ["self", "road"] (defScope s_Short_told) := ⟨rfl, rfl, rfl, by decide +kernel, rfl, by decide +kernel, by decide +kernel⟩
abbrev s_Even_told : Stmt := inClass (top 5) 0
theorem sc_Even_told : FnScope ["self", "road"] ["self", "road"] (defScope s_Even_told) := ⟨rfl, rfl, rfl, by decide +kernel, rfl, by decide +kernel, by decide +kernel⟩
abbrev s_Pair___init__ : Stmt := inClass (top 6) 0
theorem sc_Pair___init__ : FnScope ["self", "first", "second"] ["self", "first", "second"] (defScope s_Pair___init__) := ⟨rfl, rfl, rfl, by decide +kernel, rfl, by decide +kernel, by decide +kernel⟩
abbrev s_Pair_told : Stmt := inClass (top 6) 1
theorem sc_Pair_told : FnScope ["self", "road", "waiting", "length", "traveller"] ["self", "road"] (defScope s_Pair_told) := ⟨rfl, rfl, rfl, by decide +kernel, rfl, by decide +kernel, by decide +kernel⟩
abbrev s_law_length : Stmt := top 8
theorem sc_law_length : FnScope ["_law_cell"] ["_law_cell"] (defScope s_law_length) := ⟨rfl, rfl, rfl, by decide +kernel, rfl, by decide +kernel, by decide +kernel⟩
abbrev s_law_map : Stmt := top 9
theorem sc_law_map : FnScope ["_law_cells", "_law_many", "_law_roads", "_law_cell", "_law_start", "_law_end", "_law_mixed", "_law_width"] ["_law_cells", "_law_many"] (defScope s_law_map) := ⟨rfl, rfl, rfl, by decide +kernel, rfl, by decide +kernel, by decide +kernel⟩
abbrev s_law_one : Stmt := top 10
theorem sc_law_one : FnScope ["_law_cell", "_law_roads", "_law_number", "_law_road"] ["_law_cell", "_law_roads"] (defScope s_law_one) := ⟨rfl, rfl, rfl, by decide +kernel, rfl, by decide +kernel, by decide +kernel⟩
abbrev s_law_traveller : Stmt := top 11
theorem sc_law_traveller : FnScope ["_law_cell", "_law_roads", "_law_deep", "_law_first"] ["_law_cell", "_law_roads", "_law_deep"] (defScope s_law_traveller) := ⟨rfl, rfl, rfl, by decide +kernel, rfl, by decide +kernel, by decide +kernel⟩
abbrev s_law_made : Stmt := top 12
theorem sc_law_made : FnScope ["_law_model"] ["_law_model"] (defScope s_law_made) := ⟨rfl, rfl, rfl, by decide +kernel, rfl, by decide +kernel, by decide +kernel⟩
abbrev s_law_told : Stmt := top 13
theorem sc_law_told : FnScope ["_law_model", "_law_length_here", "_law_width"] ["_law_model", "_law_length_here", "_law_width"] (defScope s_law_told) := ⟨rfl, rfl, rfl, by decide +kernel, rfl, by decide +kernel, by decide +kernel⟩
abbrev s_law : Stmt := top 14
theorem sc_law : FnScope ["_law_script", "_law_cells", "_law_roads", "_law_k", "_law_cell", "_law_model", "_law_made_here", "_law_road", "_law_due", "_law_found"] ["_law_script"] (defScope s_law) := ⟨rfl, rfl, rfl, by decide +kernel, rfl, by decide +kernel, by decide +kernel⟩
structure Txt (K : PySem.W.Frag) (mg : Str → Option Value) : Prop where
  f_with_length : FunAt K mg "with_length" s_with_length ["road", "length"]
  f_Traveller_told : MthAt K "Traveller" "told" "Traveller.told" s_Traveller_told ["self", "road"]
  f_Wide___init__ : IniAt K mg "Wide" "Wide.__init__" s_Wide___init__ ["self", "width"]
  f_Wide_told : MthAt K "Wide" "told" "Wide.told" s_Wide_told ["self", "road"]
  f_Short___init__ : IniAt K mg "Short" "Short.__init__" s_Short___init__ ["self", "length"]
  f_Short_told : MthAt K "Short" "told" "Short.told" s_Short_told ["self", "road"]
  f_Even_told : MthAt K "Even" "told" "Even.told" s_Even_told ["self", "road"]
  f_Pair___init__ : IniAt K mg "Pair" "Pair.__init__" s_Pair___init__ ["self", "first", "second"]
  f_Pair_told : MthAt K "Pair" "told" "Pair.told" s_Pair_told ["self", "road"]
  f_law_length : FunAt K mg "_law_length" s_law_length ["_law_cell"]
  f_law_map : FunAt K mg "_law_map" s_law_map ["_law_cells", "_law_many"]
  f_law_one : FunAt K mg "_law_one" s_law_one ["_law_cell", "_law_roads"]
  f_law_traveller : FunAt K mg "_law_traveller" s_law_traveller ["_law_cell", "_law_roads", "_law_deep"]
  f_law_made : FunAt K mg "_law_made" s_law_made ["_law_model"]
  f_law_told : FunAt K mg "_law_told" s_law_told ["_law_model", "_law_length_here", "_law_width"]
  f_law : FunAt K mg "law" s_law ["_law_script"]
  b_bool : mg "bool" = none
  b_isinstance : mg "isinstance" = none
  b_len : mg "len" = none
  b_max : mg "max" = none
  b_range : mg "range" = none
  b_sum : mg "sum" = none
  g_Pair_first : FldAt K "Pair" "first"
  g_Pair_second : FldAt K "Pair" "second"
  g_Short_most_length : FldAt K "Short" "most_length"
  g_Wide_least_width : FldAt K "Wide" "least_width"
  n_Even : New0 K mg "Even"
  n_Traveller : New0 K mg "Traveller"
  t_Pair : IsTab K mg "Pair" [("Traveller", false), ("Wide", false), ("Short", false), ("Even", false), ("Pair", true)]
  t_Traveller : IsTab K mg "Traveller" [("Traveller", true), ("Wide", true), ("Short", true), ("Even", true), ("Pair", true)]

theorem ex_with_length : ∃ F : List D → M OT, (∀ {P : Program} {w : World} {K : PySem.W.Frag} {mg : Str → Option Value} {base : Heap}, Txt K mg → FnT P w K mg base "with_length" 1 2 F) ∧ (∀ (r : Road) (x : D), F [rdD r, x] = .ok (.sh (.tup [.int r.a, .int r.b, x, .int r.w]))) := by
  refine ⟨_, fun T => fnT_of (k := 0) T.f_with_length sc_with_length _ (fun f cdv A outer s H E hr => (dss_one (ds_retT (dn_sh (de_tup (da_cons (de_itm (huR hr 16 (by decide)) (de_var 0 (pv 0)) de_int) (da_cons (de_itm (huR hr 16 (by decide)) (de_var 0 (pv 0)) de_int) (da_cons (de_var 1 (pv 1)) (da_cons (de_itm (huR hr 16 (by decide)) (de_var 0 (pv 0)) de_int) da_nil))))))))), ?_⟩
  intro r x
  rfl
noncomputable def with_lengthF : List D → M OT := Classical.choose ex_with_length
theorem with_length_at {P : Program} {w : World} {K : PySem.W.Frag} {mg : Str → Option Value} {base : Heap} : Txt K mg → FnT P w K mg base "with_length" 1 2 with_lengthF := (Classical.choose_spec ex_with_length).1
theorem with_length_eq : ∀ (r : Road) (x : D), with_lengthF [rdD r, x] = .ok (.sh (.tup [.int r.a, .int r.b, x, .int r.w])) := (Classical.choose_spec ex_with_length).2
theorem ex_Traveller_told : ∃ F : List D → M OT, (∀ {P : Program} {w : World} {K : PySem.W.Frag} {mg : Str → Option Value} {base : Heap}, Txt K mg → MthT P w K mg base "Traveller" "told" 1 2 F) ∧ (∀ (d : D) (r : Road), F [d, rdD r] = .ok (.sh (lenD r.l))) := by
  refine ⟨_, fun T => mthT_of (k := 0) T.f_Traveller_told sc_Traveller_told _ (fun f cdv A outer s H E hr => (dss_one (ds_retT (dn_sh (de_itm (huR hr 16 (by decide)) (de_var 1 (pv 1)) de_int))))), ?_⟩
  intro d r
  rfl
noncomputable def Traveller_toldF : List D → M OT := Classical.choose ex_Traveller_told
theorem Traveller_told_at {P : Program} {w : World} {K : PySem.W.Frag} {mg : Str → Option Value} {base : Heap} : Txt K mg → MthT P w K mg base "Traveller" "told" 1 2 Traveller_toldF := (Classical.choose_spec ex_Traveller_told).1
theorem Traveller_told_eq : ∀ (d : D) (r : Road), Traveller_toldF [d, rdD r] = .ok (.sh (lenD r.l)) := (Classical.choose_spec ex_Traveller_told).2
theorem ex_Wide___init__ : ∃ F : OT → List D → M (OT × OT), (∀ {P : Program} {w : World} {K : PySem.W.Frag} {mg : Str → Option Value} {base : Heap}, Txt K mg → IniT P w K mg base "Wide" 1 2 F) ∧ (∀ d : D, F (.ins "Wide" [] []) [d] = .ok (.ins "Wide" ["least_width"] [.sh d], .sh .non)) := by
  refine ⟨_, fun T => iniT_of (k := 0) T.f_Wide___init__ sc_Wide___init__ _ (fun f cdv A outer s H E hr => (dss_one (ds_fput ["Wide"] (fld_cons T.g_Wide_least_width fld_nil) (dp_name 0 (pv 0)) (de_var 1 (pv 1))))), ?_⟩
  intro d
  rfl
noncomputable def Wide___init__F : OT → List D → M (OT × OT) := Classical.choose ex_Wide___init__
theorem Wide___init___at {P : Program} {w : World} {K : PySem.W.Frag} {mg : Str → Option Value} {base : Heap} : Txt K mg → IniT P w K mg base "Wide" 1 2 Wide___init__F := (Classical.choose_spec ex_Wide___init__).1
theorem Wide___init___eq : ∀ d : D, Wide___init__F (.ins "Wide" [] []) [d] = .ok (.ins "Wide" ["least_width"] [.sh d], .sh .non) := (Classical.choose_spec ex_Wide___init__).2
theorem ex_Wide_told : ∃ F : List D → M OT, (∀ {P : Program} {w : World} {K : PySem.W.Frag} {mg : Str → Option Value} {base : Heap}, Txt K mg → MthT P w K mg base "Wide" "told" 1 2 F) ∧ (∀ (n : Int) (r : Road), F [.ins "Wide" ["least_width"] [.int n], rdD r] = .ok (.sh (lenD (if r.w < n then none else r.l)))) := by
  refine ⟨_, fun T => mthT_of (k := 0) T.f_Wide_told sc_Wide_told _ (fun f cdv A outer s H E hr => (dss_cons (ds_if (dt_lt (c := true) (de_itm (huR hr 16 (by decide)) (de_var 1 (pv 1)) de_int) (de_fld ["Wide"] (fld_cons T.g_Wide_least_width fld_nil) (de_var 0 (pv 0)))) (dss_one (ds_retT (dn_sh de_non))) dss_nil) (dss_one (ds_retT (dn_sh (de_itm (huR hr 16 (by decide)) (de_var 1 (pv 1)) de_int)))))), ?_⟩
  intro n r
  have e0 : stRho ["self", "road"] [.ins "Wide" ["least_width"] [.int n], rdD r] = [some (.val (.ins "Wide" ["least_width"] [.int n])), some (.val (rdD r))] := rfl
  rw [e0]
  refine ft_eq ?_
  have i3 : dItm (rdD r) (.int 3) = .ok (.int r.w) := rfl
  have i2 : dItm (rdD r) (.int 2) = .ok (lenD r.l) := rfl
  have fl : dFld ["Wide"] "least_width" (.ins "Wide" ["least_width"] [.int n]) = .ok (.int n) := rfl
  by_cases h : r.w < n
  · simp only [rv0, rvS, lowR_vO, List.set_cons_zero, List.set_cons_succ, M.bind_ok, lowR_some, lowR_none, lowR_nil, lowC_val, lowC_own, lowC_anc, lowC_tr, er_dct, er_lst, er_sh, isPl_own, isPl_anc, isPl_tree, isPlS, shL_own, shL_anc, shL_tree, shLS, lstAt_own, lstAt_anc, lstAt_tree, lstAtS, dctAt_tree, dctAtS, updR_own, updR_anc, updR_tree, updRS, mapNx_ok, putT_nil, toCl_list, toCl_listP, toCl_dct, setT_sh, setT_lst, setT_tup, setT_dct, setT_ins, retT_sh, retT_lst, retT_tup, retT_dct, erM, shM, appM_own, appMS, insM_own, insMS, retC_val, retC_own, retC_ow, retCS, muC, muN, muSo, ifl0, ifl1, ifl2, ifl3, ifl4, toCl_nil, compR, compT, asB, asSh_l, optM_some, dEq_int, dNe_int, dAdd_int, dSub_int, dLt_int, dLe_int, dGt_int, dGe_int, asI_int, dLen_lst, dLen_tup, newL_lst, newL_tup, dSum_ints, isTyM_lst, isTyM_tup, isTyM_int, isTyM_non, isTyM_bl, isTyM_str, isTyM_dct, ty_ll, ty_tt, ty_ii, ty_ib, ty_dd, dMem_ints, ite_tt, ite_ff, Bool.not_true, Bool.not_false, List.getElem?_cons_zero, List.getElem?_cons_succ, onInts_ii, dAll_map, dAny_map, frz0, frzN, frzS, ifl5, ifl6, ifl7, er_dct0, i3, fl, decide_eq_true h, if_pos h]; rfl
  · apply wp_step
    · simp only [rv0, rvS, lowR_vO, List.set_cons_zero, List.set_cons_succ, M.bind_ok, lowR_some, lowR_none, lowR_nil, lowC_val, lowC_own, lowC_anc, lowC_tr, er_dct, er_lst, er_sh, isPl_own, isPl_anc, isPl_tree, isPlS, shL_own, shL_anc, shL_tree, shLS, lstAt_own, lstAt_anc, lstAt_tree, lstAtS, dctAt_tree, dctAtS, updR_own, updR_anc, updR_tree, updRS, mapNx_ok, putT_nil, toCl_list, toCl_listP, toCl_dct, setT_sh, setT_lst, setT_tup, setT_dct, setT_ins, retT_sh, retT_lst, retT_tup, retT_dct, erM, shM, appM_own, appMS, insM_own, insMS, retC_val, retC_own, retC_ow, retCS, muC, muN, muSo, ifl0, ifl1, ifl2, ifl3, ifl4, toCl_nil, compR, compT, asB, asSh_l, optM_some, dEq_int, dNe_int, dAdd_int, dSub_int, dLt_int, dLe_int, dGt_int, dGe_int, asI_int, dLen_lst, dLen_tup, newL_lst, newL_tup, dSum_ints, isTyM_lst, isTyM_tup, isTyM_int, isTyM_non, isTyM_bl, isTyM_str, isTyM_dct, ty_ll, ty_tt, ty_ii, ty_ib, ty_dd, dMem_ints, ite_tt, ite_ff, Bool.not_true, Bool.not_false, List.getElem?_cons_zero, List.getElem?_cons_succ, onInts_ii, dAll_map, dAny_map, frz0, frzN, frzS, ifl5, ifl6, ifl7, er_dct0, i3, fl, decide_eq_false h]; rfl
    simp only [rv0, rvS, lowR_vO, List.set_cons_zero, List.set_cons_succ, M.bind_ok, lowR_some, lowR_none, lowR_nil, lowC_val, lowC_own, lowC_anc, lowC_tr, er_dct, er_lst, er_sh, isPl_own, isPl_anc, isPl_tree, isPlS, shL_own, shL_anc, shL_tree, shLS, lstAt_own, lstAt_anc, lstAt_tree, lstAtS, dctAt_tree, dctAtS, updR_own, updR_anc, updR_tree, updRS, mapNx_ok, putT_nil, toCl_list, toCl_listP, toCl_dct, setT_sh, setT_lst, setT_tup, setT_dct, setT_ins, retT_sh, retT_lst, retT_tup, retT_dct, erM, shM, appM_own, appMS, insM_own, insMS, retC_val, retC_own, retC_ow, retCS, muC, muN, muSo, ifl0, ifl1, ifl2, ifl3, ifl4, toCl_nil, compR, compT, asB, asSh_l, optM_some, dEq_int, dNe_int, dAdd_int, dSub_int, dLt_int, dLe_int, dGt_int, dGe_int, asI_int, dLen_lst, dLen_tup, newL_lst, newL_tup, dSum_ints, isTyM_lst, isTyM_tup, isTyM_int, isTyM_non, isTyM_bl, isTyM_str, isTyM_dct, ty_ll, ty_tt, ty_ii, ty_ib, ty_dd, dMem_ints, ite_tt, ite_ff, Bool.not_true, Bool.not_false, List.getElem?_cons_zero, List.getElem?_cons_succ, onInts_ii, dAll_map, dAny_map, frz0, frzN, frzS, ifl5, ifl6, ifl7, er_dct0, i2, if_neg h]; rfl
noncomputable def Wide_toldF : List D → M OT := Classical.choose ex_Wide_told
theorem Wide_told_at {P : Program} {w : World} {K : PySem.W.Frag} {mg : Str → Option Value} {base : Heap} : Txt K mg → MthT P w K mg base "Wide" "told" 1 2 Wide_toldF := (Classical.choose_spec ex_Wide_told).1
theorem Wide_told_eq : ∀ (n : Int) (r : Road), Wide_toldF [.ins "Wide" ["least_width"] [.int n], rdD r] = .ok (.sh (lenD (if r.w < n then none else r.l))) := (Classical.choose_spec ex_Wide_told).2
theorem ex_Short___init__ : ∃ F : OT → List D → M (OT × OT), (∀ {P : Program} {w : World} {K : PySem.W.Frag} {mg : Str → Option Value} {base : Heap}, Txt K mg → IniT P w K mg base "Short" 1 2 F) ∧ (∀ d : D, F (.ins "Short" [] []) [d] = .ok (.ins "Short" ["most_length"] [.sh d], .sh .non)) := by
  refine ⟨_, fun T => iniT_of (k := 0) T.f_Short___init__ sc_Short___init__ _ (fun f cdv A outer s H E hr => (dss_one (ds_fput ["Short"] (fld_cons T.g_Short_most_length fld_nil) (dp_name 0 (pv 0)) (de_var 1 (pv 1))))), ?_⟩
  intro d
  rfl
noncomputable def Short___init__F : OT → List D → M (OT × OT) := Classical.choose ex_Short___init__
theorem Short___init___at {P : Program} {w : World} {K : PySem.W.Frag} {mg : Str → Option Value} {base : Heap} : Txt K mg → IniT P w K mg base "Short" 1 2 Short___init__F := (Classical.choose_spec ex_Short___init__).1
theorem Short___init___eq : ∀ d : D, Short___init__F (.ins "Short" [] []) [d] = .ok (.ins "Short" ["most_length"] [.sh d], .sh .non) := (Classical.choose_spec ex_Short___init__).2
theorem ex_Short_told : ∃ F : List D → M OT, (∀ {P : Program} {w : World} {K : PySem.W.Frag} {mg : Str → Option Value} {base : Heap}, Txt K mg → MthT P w K mg base "Short" "told" 1 2 F) ∧ (∀ (n : Int) (r : Road), F [.ins "Short" ["most_length"] [.int n], rdD r] = .ok (.sh (lenD (r.l.bind fun l => if n < l then none else some l)))) := by
  refine ⟨_, fun T => mthT_of (k := 0) T.f_Short_told sc_Short_told _ (fun f cdv A outer s H E hr => (dss_cons (ds_if (DW.dt (dw_or (dt_isN (c := true) (de_itm (huR hr 16 (by decide)) (de_var 1 (pv 1)) de_int)) (dw_or1 (dt_gt (c := true) (de_itm (huR hr 16 (by decide)) (de_var 1 (pv 1)) de_int) (de_fld ["Short"] (fld_cons T.g_Short_most_length fld_nil) (de_var 0 (pv 0))))))) (dss_one (ds_retT (dn_sh de_non))) dss_nil) (dss_one (ds_retT (dn_sh (de_itm (huR hr 16 (by decide)) (de_var 1 (pv 1)) de_int)))))), ?_⟩
  intro n r
  have e0 : stRho ["self", "road"] [.ins "Short" ["most_length"] [.int n], rdD r] = [some (.val (.ins "Short" ["most_length"] [.int n])), some (.val (rdD r))] := rfl
  rw [e0]
  refine ft_eq ?_
  obtain ⟨a, b, l, w⟩ := r
  have fl : dFld ["Short"] "most_length" (.ins "Short" ["most_length"] [.int n]) = .ok (.int n) := rfl
  cases l with
  | none => rfl
  | some l =>
    have i2 : dItm (rdD ⟨a, b, some l, w⟩) (.int 2) = .ok (.int l) := rfl
    by_cases h : n < l
    · simp only [rv0, rvS, lowR_vO, List.set_cons_zero, List.set_cons_succ, M.bind_ok, lowR_some, lowR_none, lowR_nil, lowC_val, lowC_own, lowC_anc, lowC_tr, er_dct, er_lst, er_sh, isPl_own, isPl_anc, isPl_tree, isPlS, shL_own, shL_anc, shL_tree, shLS, lstAt_own, lstAt_anc, lstAt_tree, lstAtS, dctAt_tree, dctAtS, updR_own, updR_anc, updR_tree, updRS, mapNx_ok, putT_nil, toCl_list, toCl_listP, toCl_dct, setT_sh, setT_lst, setT_tup, setT_dct, setT_ins, retT_sh, retT_lst, retT_tup, retT_dct, erM, shM, appM_own, appMS, insM_own, insMS, retC_val, retC_own, retC_ow, retCS, muC, muN, muSo, ifl0, ifl1, ifl2, ifl3, ifl4, toCl_nil, compR, compT, asB, asSh_l, optM_some, dEq_int, dNe_int, dAdd_int, dSub_int, dLt_int, dLe_int, dGt_int, dGe_int, asI_int, dLen_lst, dLen_tup, newL_lst, newL_tup, dSum_ints, isTyM_lst, isTyM_tup, isTyM_int, isTyM_non, isTyM_bl, isTyM_str, isTyM_dct, ty_ll, ty_tt, ty_ii, ty_ib, ty_dd, dMem_ints, ite_tt, ite_ff, Bool.not_true, Bool.not_false, List.getElem?_cons_zero, List.getElem?_cons_succ, onInts_ii, dAll_map, dAny_map, frz0, frzN, frzS, ifl5, ifl6, ifl7, er_dct0, i2, fl, isNonD, decide_eq_true h, Option.bind_some, if_pos h]; rfl
    · apply wp_step
      · simp only [rv0, rvS, lowR_vO, List.set_cons_zero, List.set_cons_succ, M.bind_ok, lowR_some, lowR_none, lowR_nil, lowC_val, lowC_own, lowC_anc, lowC_tr, er_dct, er_lst, er_sh, isPl_own, isPl_anc, isPl_tree, isPlS, shL_own, shL_anc, shL_tree, shLS, lstAt_own, lstAt_anc, lstAt_tree, lstAtS, dctAt_tree, dctAtS, updR_own, updR_anc, updR_tree, updRS, mapNx_ok, putT_nil, toCl_list, toCl_listP, toCl_dct, setT_sh, setT_lst, setT_tup, setT_dct, setT_ins, retT_sh, retT_lst, retT_tup, retT_dct, erM, shM, appM_own, appMS, insM_own, insMS, retC_val, retC_own, retC_ow, retCS, muC, muN, muSo, ifl0, ifl1, ifl2, ifl3, ifl4, toCl_nil, compR, compT, asB, asSh_l, optM_some, dEq_int, dNe_int, dAdd_int, dSub_int, dLt_int, dLe_int, dGt_int, dGe_int, asI_int, dLen_lst, dLen_tup, newL_lst, newL_tup, dSum_ints, isTyM_lst, isTyM_tup, isTyM_int, isTyM_non, isTyM_bl, isTyM_str, isTyM_dct, ty_ll, ty_tt, ty_ii, ty_ib, ty_dd, dMem_ints, ite_tt, ite_ff, Bool.not_true, Bool.not_false, List.getElem?_cons_zero, List.getElem?_cons_succ, onInts_ii, dAll_map, dAny_map, frz0, frzN, frzS, ifl5, ifl6, ifl7, er_dct0, i2, fl, isNonD, decide_eq_false h]; rfl
      simp only [rv0, rvS, lowR_vO, List.set_cons_zero, List.set_cons_succ, M.bind_ok, lowR_some, lowR_none, lowR_nil, lowC_val, lowC_own, lowC_anc, lowC_tr, er_dct, er_lst, er_sh, isPl_own, isPl_anc, isPl_tree, isPlS, shL_own, shL_anc, shL_tree, shLS, lstAt_own, lstAt_anc, lstAt_tree, lstAtS, dctAt_tree, dctAtS, updR_own, updR_anc, updR_tree, updRS, mapNx_ok, putT_nil, toCl_list, toCl_listP, toCl_dct, setT_sh, setT_lst, setT_tup, setT_dct, setT_ins, retT_sh, retT_lst, retT_tup, retT_dct, erM, shM, appM_own, appMS, insM_own, insMS, retC_val, retC_own, retC_ow, retCS, muC, muN, muSo, ifl0, ifl1, ifl2, ifl3, ifl4, toCl_nil, compR, compT, asB, asSh_l, optM_some, dEq_int, dNe_int, dAdd_int, dSub_int, dLt_int, dLe_int, dGt_int, dGe_int, asI_int, dLen_lst, dLen_tup, newL_lst, newL_tup, dSum_ints, isTyM_lst, isTyM_tup, isTyM_int, isTyM_non, isTyM_bl, isTyM_str, isTyM_dct, ty_ll, ty_tt, ty_ii, ty_ib, ty_dd, dMem_ints, ite_tt, ite_ff, Bool.not_true, Bool.not_false, List.getElem?_cons_zero, List.getElem?_cons_succ, onInts_ii, dAll_map, dAny_map, frz0, frzN, frzS, ifl5, ifl6, ifl7, er_dct0, i2, Option.bind_some, if_neg h]; rfl
noncomputable def Short_toldF : List D → M OT := Classical.choose ex_Short_told
theorem Short_told_at {P : Program} {w : World} {K : PySem.W.Frag} {mg : Str → Option Value} {base : Heap} : Txt K mg → MthT P w K mg base "Short" "told" 1 2 Short_toldF := (Classical.choose_spec ex_Short_told).1
theorem Short_told_eq : ∀ (n : Int) (r : Road), Short_toldF [.ins "Short" ["most_length"] [.int n], rdD r] = .ok (.sh (lenD (r.l.bind fun l => if n < l then none else some l))) := (Classical.choose_spec ex_Short_told).2
theorem ex_Even_told : ∃ F : List D → M OT, (∀ {P : Program} {w : World} {K : PySem.W.Frag} {mg : Str → Option Value} {base : Heap}, Txt K mg → MthT P w K mg base "Even" "told" 1 2 F) ∧ (∀ (d : D) (r : Road), F [d, rdD r] = .ok (.sh (lenD (r.l.map fun _ => 0)))) := by
  refine ⟨_, fun T => mthT_of (k := 0) T.f_Even_told sc_Even_told _ (fun f cdv A outer s H E hr => (dss_cons (ds_if (dt_isN (c := true) (de_itm (huR hr 16 (by decide)) (de_var 1 (pv 1)) de_int)) (dss_one (ds_retT (dn_sh de_non))) dss_nil) (dss_one (ds_retT (dn_sh de_int))))), ?_⟩
  intro d r
  obtain ⟨a, b, l, w⟩ := r
  cases l <;> rfl
noncomputable def Even_toldF : List D → M OT := Classical.choose ex_Even_told
theorem Even_told_at {P : Program} {w : World} {K : PySem.W.Frag} {mg : Str → Option Value} {base : Heap} : Txt K mg → MthT P w K mg base "Even" "told" 1 2 Even_toldF := (Classical.choose_spec ex_Even_told).1
theorem Even_told_eq : ∀ (d : D) (r : Road), Even_toldF [d, rdD r] = .ok (.sh (lenD (r.l.map fun _ => 0))) := (Classical.choose_spec ex_Even_told).2
theorem ex_Pair___init__ : ∃ F : OT → List D → M (OT × OT), (∀ {P : Program} {w : World} {K : PySem.W.Frag} {mg : Str → Option Value} {base : Heap}, Txt K mg → IniT P w K mg base "Pair" 1 3 F) ∧ (∀ d e : D, F (.ins "Pair" [] []) [d, e] = .ok (.ins "Pair" ["first", "second"] [.sh d, .sh e], .sh .non)) := by
  refine ⟨_, fun T => iniT_of (k := 0) T.f_Pair___init__ sc_Pair___init__ _ (fun f cdv A outer s H E hr => (dss_cons (ds_fput ["Pair"] (fld_cons T.g_Pair_first fld_nil) (dp_name 0 (pv 0)) (de_var 1 (pv 1))) (dss_one (ds_fput ["Pair"] (fld_cons T.g_Pair_second fld_nil) (dp_name 0 (pv 0)) (de_var 2 (pv 2)))))), ?_⟩
  intro d e
  rfl
noncomputable def Pair___init__F : OT → List D → M (OT × OT) := Classical.choose ex_Pair___init__
theorem Pair___init___at {P : Program} {w : World} {K : PySem.W.Frag} {mg : Str → Option Value} {base : Heap} : Txt K mg → IniT P w K mg base "Pair" 1 3 Pair___init__F := (Classical.choose_spec ex_Pair___init__).1
theorem Pair___init___eq : ∀ d e : D, Pair___init__F (.ins "Pair" [] []) [d, e] = .ok (.ins "Pair" ["first", "second"] [.sh d, .sh e], .sh .non) := (Classical.choose_spec ex_Pair___init__).2
theorem ex_Pair_told : ∃ F : List D → M OT, (∀ {P : Program} {w : World} {K : PySem.W.Frag} {mg : Str → Option Value} {base : Heap}, Txt K mg → MthT P w K mg base "Pair" "told" 2 2 F) ∧ (∀ (a b : Mo) (r : Road), moSz (.pair a b) ≤ 900 → F [moO (.pair a b), rdD r] = .ok (.sh (lenD (moT (.pair a b) r.l r.w)))) := by
  refine ⟨_, fun T => mthT_of (k := 1) T.f_Pair_told sc_Pair_told _ (fun f cdv A outer s H E hr => (dss_cons (ds_setT 2 sc_Pair_told.nd rfl (Or.inl rfl) (dn_lst (dns_cons (dn_sh (de_fld ["Pair"] (fld_cons T.g_Pair_second fld_nil) (de_var 0 (pv 0)))) (dns_cons (dn_sh (de_fld ["Pair"] (fld_cons T.g_Pair_first fld_nil) (de_var 0 (pv 0)))) dns_nil)))) (dss_cons (ds_set 3 sc_Pair_told.nd rfl (Or.inl rfl) (de_itm (huR hr 16 (by decide)) (de_var 1 (pv 1)) de_int)) (dss_cons (ds_while xok_def.toXCall.own (dt_low (DW.dt (dw_and (dt_tru (c := true) (de_var 2 (pv 2))) (dw_and1 (dt_notN (c := true) (de_var 3 (pv 3))))))) (dss_cons (ds_setX 4 sc_Pair_told.nd rfl (Or.inl rfl) (dx_pop (dp_name 2 (pv 2)))) (dss_one (ds_if (dt_tru (c := true) (de_isC T.t_Pair rfl T.b_isinstance rfl (de_var 4 (pv 4)))) (dss_cons (ds_append 2 (pv 2) (de_fld ["Pair"] (fld_cons T.g_Pair_second fld_nil) (de_var 4 (pv 4)))) (dss_one (ds_append 2 (pv 2) (de_fld ["Pair"] (fld_cons T.g_Pair_first fld_nil) (de_var 4 (pv 4)))))) (dss_one (ds_set 3 sc_Pair_told.nd rfl (Or.inl rfl) (de_dn (dn_meth (k := 1) [("Traveller", Traveller_toldF), ("Wide", Wide_toldF), ("Short", Short_toldF), ("Even", Even_toldF)] xok_def.toXCall (mth_cons (by decide) (Traveller_told_at T) (mth_cons (by decide) (Wide_told_at T) (mth_cons (by decide) (Short_told_at T) (mth_cons (by decide) (Even_told_at T) mth_nil)))) (hr.mono (by decide)) (de_var 4 (pv 4)) (da_cons (de_dn (dn_call xok_def.toXCall (with_length_at T) (hr.mono (by decide)) rfl (da_cons (de_var 1 (pv 1)) (da_cons (de_var 3 (pv 3)) da_nil)) rfl)) da_nil) rfl)))))))) (dss_one (ds_retT (dn_sh (de_var 3 (pv 3))))))))), ?_⟩
  intro a b r hsz0
  have e0 : stRho ["self", "road", "waiting", "length", "traveller"] [moO (.pair a b), rdD r] = [some (.val (moO (.pair a b))), some (.val (rdD r)), none, none, none] := rfl
  rw [e0]
  refine ft_eq ?_
  have i2 : dItm (rdD r) (.int 2) = .ok (lenD r.l) := rfl
  have f1 : ∀ a b : Mo, dFld ["Pair"] "first" (moO (.pair a b)) = .ok (moO a) := fun a b => rfl
  have f2 : ∀ a b : Mo, dFld ["Pair"] "second" (moO (.pair a b)) = .ok (moO b) := fun a b => rfl
  apply wp_step
  · simp only [rv0, rvS, lowR_vO, List.set_cons_zero, List.set_cons_succ, M.bind_ok, lowR_some, lowR_none, lowR_nil, lowC_val, lowC_own, lowC_anc, lowC_tr, er_dct, er_lst, er_sh, isPl_own, isPl_anc, isPl_tree, isPlS, shL_own, shL_anc, shL_tree, shLS, lstAt_own, lstAt_anc, lstAt_tree, lstAtS, dctAt_tree, dctAtS, updR_own, updR_anc, updR_tree, updRS, mapNx_ok, putT_nil, toCl_list, toCl_listP, toCl_dct, setT_sh, setT_lst, setT_tup, setT_dct, setT_ins, retT_sh, retT_lst, retT_tup, retT_dct, erM, shM, appM_own, appMS, insM_own, insMS, retC_val, retC_own, retC_ow, retCS, muC, muN, muSo, ifl0, ifl1, ifl2, ifl3, ifl4, toCl_nil, compR, compT, asB, asSh_l, optM_some, dEq_int, dNe_int, dAdd_int, dSub_int, dLt_int, dLe_int, dGt_int, dGe_int, asI_int, dLen_lst, dLen_tup, newL_lst, newL_tup, dSum_ints, isTyM_lst, isTyM_tup, isTyM_int, isTyM_non, isTyM_bl, isTyM_str, isTyM_dct, ty_ll, ty_tt, ty_ii, ty_ib, ty_dd, dMem_ints, ite_tt, ite_ff, Bool.not_true, Bool.not_false, List.getElem?_cons_zero, List.getElem?_cons_succ, onInts_ii, dAll_map, dAny_map, frz0, frzN, frzS, ifl5, ifl6, ifl7, er_dct0, f1, f2]; rfl
  apply wp_step
  · simp only [rv0, rvS, lowR_vO, List.set_cons_zero, List.set_cons_succ, M.bind_ok, lowR_some, lowR_none, lowR_nil, lowC_val, lowC_own, lowC_anc, lowC_tr, er_dct, er_lst, er_sh, isPl_own, isPl_anc, isPl_tree, isPlS, shL_own, shL_anc, shL_tree, shLS, lstAt_own, lstAt_anc, lstAt_tree, lstAtS, dctAt_tree, dctAtS, updR_own, updR_anc, updR_tree, updRS, mapNx_ok, putT_nil, toCl_list, toCl_listP, toCl_dct, setT_sh, setT_lst, setT_tup, setT_dct, setT_ins, retT_sh, retT_lst, retT_tup, retT_dct, erM, shM, appM_own, appMS, insM_own, insMS, retC_val, retC_own, retC_ow, retCS, muC, muN, muSo, ifl0, ifl1, ifl2, ifl3, ifl4, toCl_nil, compR, compT, asB, asSh_l, optM_some, dEq_int, dNe_int, dAdd_int, dSub_int, dLt_int, dLe_int, dGt_int, dGe_int, asI_int, dLen_lst, dLen_tup, newL_lst, newL_tup, dSum_ints, isTyM_lst, isTyM_tup, isTyM_int, isTyM_non, isTyM_bl, isTyM_str, isTyM_dct, ty_ll, ty_tt, ty_ii, ty_ib, ty_dd, dMem_ints, ite_tt, ite_ff, Bool.not_true, Bool.not_false, List.getElem?_cons_zero, List.getElem?_cons_succ, onInts_ii, dAll_map, dAny_map, frz0, frzN, frzS, ifl5, ifl6, ifl7, er_dct0, i2]; rfl
  have hsel : ∀ t : Mo, (∀ a b, t ≠ .pair a b) → ∃ G, mSel [("Traveller", Traveller_toldF), ("Wide", Wide_toldF), ("Short", Short_toldF), ("Even", Even_toldF)] "told" (moO t) = .ok G ∧ ∀ z : Int, G [moO t, rdD ⟨r.a, r.b, some z, r.w⟩] = .ok (.sh (lenD (moT t (some z) r.w))) := fun t ht => by
    cases t with
    | plain => exact ⟨_, rfl, fun z => Traveller_told_eq _ _⟩
    | wide n => exact ⟨_, rfl, fun z => Wide_told_eq n _⟩
    | short n => exact ⟨_, rfl, fun z => Short_told_eq n _⟩
    | even => exact ⟨_, rfl, fun z => Even_told_eq _ _⟩
    | pair a b => exact (ht a b rfl).elim
  have hisI : ∀ t : Mo, (∀ a b, t ≠ .pair a b) → dIsI [("Traveller", false), ("Wide", false), ("Short", false), ("Even", false), ("Pair", true)] (moO t) = .ok (.bl false) := fun t ht => by
    cases t with
    | pair a b => exact (ht a b rfl).elim
    | _ => rfl
  refine wp_cut (I := fun ρ => ∃ s2 s4 : Option Cl, ρ = [some (.val (moO (.pair a b))), some (.val (rdD r)), s2, some (.val (lenD (moT (.pair a b) r.l r.w))), s4]) ?_ ?_
  · have hst : moRun r.w [a, b] r.l = moT (.pair a b) r.l r.w := by
      cases q : r.l with
      | none => rw [moRun_none]; rfl
      | some z => rfl
    refine wp_while (lt := fun a b : Nat => a < b) (fun n ρ => ∃ (ts : List Mo) (l : Option Int) (s4 : Option Cl), ρ = [some (.val (moO (.pair a b))), some (.val (rdD r)), some (.own ((ts.map moO).reverse)), some (.val (lenD l)), s4] ∧ moSzs ts = n ∧ ts.length ≤ n ∧ n ≤ moSzs [a, b] ∧ moRun r.w ts l = moT (.pair a b) r.l r.w) (Nat.lt_wfRel.wf.apply (moSzs [a, b])) ⟨[a, b], r.l, none, rfl, rfl, szs_len _, Nat.le_refl _, hst⟩ ?_
    rintro n ρ ⟨ts, l, s4, rfl, hn, hlen, hle, hrun⟩
    cases ts with
    | nil =>
      left
      exact ⟨rfl, some (.own []), s4, by rw [← hrun]; rfl⟩
    | cons t ts =>
      have etru : truD (.lst (((t :: ts).map moO).reverse)) = .ok true := by
        rw [truD_lst]
        simp
      cases l with
      | none =>
        left
        refine ⟨?_, some (.own (((t :: ts).map moO).reverse)), s4, by rw [← hrun, moRun_none]⟩
        simp only [rv0, rvS, lowR_vO, List.set_cons_zero, List.set_cons_succ, M.bind_ok, lowR_some, lowR_none, lowR_nil, lowC_val, lowC_own, lowC_anc, lowC_tr, er_dct, er_lst, er_sh, isPl_own, isPl_anc, isPl_tree, isPlS, shL_own, shL_anc, shL_tree, shLS, lstAt_own, lstAt_anc, lstAt_tree, lstAtS, dctAt_tree, dctAtS, updR_own, updR_anc, updR_tree, updRS, mapNx_ok, putT_nil, toCl_list, toCl_listP, toCl_dct, setT_sh, setT_lst, setT_tup, setT_dct, setT_ins, retT_sh, retT_lst, retT_tup, retT_dct, erM, shM, appM_own, appMS, insM_own, insMS, retC_val, retC_own, retC_ow, retCS, muC, muN, muSo, ifl0, ifl1, ifl2, ifl3, ifl4, toCl_nil, compR, compT, asB, asSh_l, optM_some, dEq_int, dNe_int, dAdd_int, dSub_int, dLt_int, dLe_int, dGt_int, dGe_int, asI_int, dLen_lst, dLen_tup, newL_lst, newL_tup, dSum_ints, isTyM_lst, isTyM_tup, isTyM_int, isTyM_non, isTyM_bl, isTyM_str, isTyM_dct, ty_ll, ty_tt, ty_ii, ty_ib, ty_dd, dMem_ints, ite_tt, ite_ff, Bool.not_true, Bool.not_false, List.getElem?_cons_zero, List.getElem?_cons_succ, onInts_ii, dAll_map, dAny_map, frz0, frzN, frzS, ifl5, ifl6, ifl7, er_dct0, etru]
        rfl
      | some z =>
        right
        have erev : ((t :: ts).map moO).reverse = (ts.map moO).reverse ++ [moO t] := by rw [List.map_cons, List.reverse_cons]
        constructor
        · simp only [rv0, rvS, lowR_vO, List.set_cons_zero, List.set_cons_succ, M.bind_ok, lowR_some, lowR_none, lowR_nil, lowC_val, lowC_own, lowC_anc, lowC_tr, er_dct, er_lst, er_sh, isPl_own, isPl_anc, isPl_tree, isPlS, shL_own, shL_anc, shL_tree, shLS, lstAt_own, lstAt_anc, lstAt_tree, lstAtS, dctAt_tree, dctAtS, updR_own, updR_anc, updR_tree, updRS, mapNx_ok, putT_nil, toCl_list, toCl_listP, toCl_dct, setT_sh, setT_lst, setT_tup, setT_dct, setT_ins, retT_sh, retT_lst, retT_tup, retT_dct, erM, shM, appM_own, appMS, insM_own, insMS, retC_val, retC_own, retC_ow, retCS, muC, muN, muSo, ifl0, ifl1, ifl2, ifl3, ifl4, toCl_nil, compR, compT, asB, asSh_l, optM_some, dEq_int, dNe_int, dAdd_int, dSub_int, dLt_int, dLe_int, dGt_int, dGe_int, asI_int, dLen_lst, dLen_tup, newL_lst, newL_tup, dSum_ints, isTyM_lst, isTyM_tup, isTyM_int, isTyM_non, isTyM_bl, isTyM_str, isTyM_dct, ty_ll, ty_tt, ty_ii, ty_ib, ty_dd, dMem_ints, ite_tt, ite_ff, Bool.not_true, Bool.not_false, List.getElem?_cons_zero, List.getElem?_cons_succ, onInts_ii, dAll_map, dAny_map, frz0, frzN, frzS, ifl5, ifl6, ifl7, er_dct0, etru]
          rfl
        rw [erev]
        have hp := pop_last (ρ := [some (.val (moO (.pair a b))), some (.val (rdD r)), some (.own ((ts.map moO).reverse ++ [moO t])), some (.val (lenD (some z))), s4]) (i := 2) (xs := (ts.map moO).reverse) (d := moO t) rfl
        apply wp_step
        · simp only [rv0, rvS, lowR_vO, List.set_cons_zero, List.set_cons_succ, M.bind_ok, lowR_some, lowR_none, lowR_nil, lowC_val, lowC_own, lowC_anc, lowC_tr, er_dct, er_lst, er_sh, isPl_own, isPl_anc, isPl_tree, isPlS, shL_own, shL_anc, shL_tree, shLS, lstAt_own, lstAt_anc, lstAt_tree, lstAtS, dctAt_tree, dctAtS, updR_own, updR_anc, updR_tree, updRS, mapNx_ok, putT_nil, toCl_list, toCl_listP, toCl_dct, setT_sh, setT_lst, setT_tup, setT_dct, setT_ins, retT_sh, retT_lst, retT_tup, retT_dct, erM, shM, appM_own, appMS, insM_own, insMS, retC_val, retC_own, retC_ow, retCS, muC, muN, muSo, ifl0, ifl1, ifl2, ifl3, ifl4, toCl_nil, compR, compT, asB, asSh_l, optM_some, dEq_int, dNe_int, dAdd_int, dSub_int, dLt_int, dLe_int, dGt_int, dGe_int, asI_int, dLen_lst, dLen_tup, newL_lst, newL_tup, dSum_ints, isTyM_lst, isTyM_tup, isTyM_int, isTyM_non, isTyM_bl, isTyM_str, isTyM_dct, ty_ll, ty_tt, ty_ii, ty_ib, ty_dd, dMem_ints, ite_tt, ite_ff, Bool.not_true, Bool.not_false, List.getElem?_cons_zero, List.getElem?_cons_succ, onInts_ii, dAll_map, dAny_map, frz0, frzN, frzS, ifl5, ifl6, ifl7, er_dct0, hp]
          rfl
        rcases moCase t with ⟨a', b', rfl⟩ | ⟨hsz, hnp⟩
        · have hI : dIsI [("Traveller", false), ("Wide", false), ("Short", false), ("Even", false), ("Pair", true)] (moO (.pair a' b')) = .ok (.bl true) := rfl
          simp only [moSzs, moSz] at hn
          simp only [List.length_cons] at hlen
          have l1 : ((ts.map moO).reverse).length < 1000 := by rw [List.length_reverse, List.length_map]; simp only [moSzs, moSz] at hle hsz0; omega
          have l2 : ((ts.map moO).reverse ++ [moO b']).length < 1000 := by rw [List.length_append, List.length_reverse, List.length_map]; simp only [moSzs, moSz, List.length_singleton] at hle hsz0 ⊢; omega
          refine wp_to (ρ' := [some (.val (moO (.pair a b))), some (.val (rdD r)), some (.own (((a' :: b' :: ts).map moO).reverse)), some (.val (lenD (some z))), some (.val (moO (.pair a' b')))]) ?_ ⟨moSzs (a' :: b' :: ts), by simp only [moSzs]; omega, a' :: b' :: ts, _, _, rfl, rfl, szs_len _, by simp only [moSzs] at hle ⊢; omega, hrun⟩
          have er2 : ((a' :: b' :: ts).map moO).reverse = ((ts.map moO).reverse ++ [moO b']) ++ [moO a'] := by simp
          rw [er2]
          simp only [rv0, rvS, lowR_vO, List.set_cons_zero, List.set_cons_succ, M.bind_ok, lowR_some, lowR_none, lowR_nil, lowC_val, lowC_own, lowC_anc, lowC_tr, er_dct, er_lst, er_sh, isPl_own, isPl_anc, isPl_tree, isPlS, shL_own, shL_anc, shL_tree, shLS, lstAt_own, lstAt_anc, lstAt_tree, lstAtS, dctAt_tree, dctAtS, updR_own, updR_anc, updR_tree, updRS, mapNx_ok, putT_nil, toCl_list, toCl_listP, toCl_dct, setT_sh, setT_lst, setT_tup, setT_dct, setT_ins, retT_sh, retT_lst, retT_tup, retT_dct, erM, shM, appM_own, appMS, insM_own, insMS, retC_val, retC_own, retC_ow, retCS, muC, muN, muSo, ifl0, ifl1, ifl2, ifl3, ifl4, toCl_nil, compR, compT, asB, asSh_l, optM_some, dEq_int, dNe_int, dAdd_int, dSub_int, dLt_int, dLe_int, dGt_int, dGe_int, asI_int, dLen_lst, dLen_tup, newL_lst, newL_tup, dSum_ints, isTyM_lst, isTyM_tup, isTyM_int, isTyM_non, isTyM_bl, isTyM_str, isTyM_dct, ty_ll, ty_tt, ty_ii, ty_ib, ty_dd, dMem_ints, ite_tt, ite_ff, Bool.not_true, Bool.not_false, List.getElem?_cons_zero, List.getElem?_cons_succ, onInts_ii, dAll_map, dAny_map, frz0, frzN, frzS, ifl5, ifl6, ifl7, er_dct0, hI, truD, f1, f2, if_pos l1]
          simp only [if_true, seqM]
          simp only [rv0, rvS, lowR_vO, List.set_cons_zero, List.set_cons_succ, M.bind_ok, lowR_some, lowR_none, lowR_nil, lowC_val, lowC_own, lowC_anc, lowC_tr, er_dct, er_lst, er_sh, isPl_own, isPl_anc, isPl_tree, isPlS, shL_own, shL_anc, shL_tree, shLS, lstAt_own, lstAt_anc, lstAt_tree, lstAtS, dctAt_tree, dctAtS, updR_own, updR_anc, updR_tree, updRS, mapNx_ok, putT_nil, toCl_list, toCl_listP, toCl_dct, setT_sh, setT_lst, setT_tup, setT_dct, setT_ins, retT_sh, retT_lst, retT_tup, retT_dct, erM, shM, appM_own, appMS, insM_own, insMS, retC_val, retC_own, retC_ow, retCS, muC, muN, muSo, ifl0, ifl1, ifl2, ifl3, ifl4, toCl_nil, compR, compT, asB, asSh_l, optM_some, dEq_int, dNe_int, dAdd_int, dSub_int, dLt_int, dLe_int, dGt_int, dGe_int, asI_int, dLen_lst, dLen_tup, newL_lst, newL_tup, dSum_ints, isTyM_lst, isTyM_tup, isTyM_int, isTyM_non, isTyM_bl, isTyM_str, isTyM_dct, ty_ll, ty_tt, ty_ii, ty_ib, ty_dd, dMem_ints, ite_tt, ite_ff, Bool.not_true, Bool.not_false, List.getElem?_cons_zero, List.getElem?_cons_succ, onInts_ii, dAll_map, dAny_map, frz0, frzN, frzS, ifl5, ifl6, ifl7, er_dct0, f1, if_pos l2]
          try rfl
        · obtain ⟨G, hG1, hG2⟩ := hsel t hnp
          have hG3 := hG2 z
          have hw := with_length_eq r (.int z)
          have hrd : D.tup [.int r.a, .int r.b, .int z, .int r.w] = rdD ⟨r.a, r.b, some z, r.w⟩ := rfl
          have hI := hisI t hnp
          refine wp_to (ρ' := [some (.val (moO (.pair a b))), some (.val (rdD r)), some (.own ((ts.map moO).reverse)), some (.val (lenD (moT t (some z) r.w))), some (.val (moO t))]) ?_ ⟨moSzs ts, by simp only [moSzs] at hn; omega, ts, _, _, rfl, rfl, szs_len _, by simp only [moSzs] at hn; omega, hrun⟩
          have lz : lenD (some z) = .int z := rfl
          simp only [rv0, rvS, lowR_vO, List.set_cons_zero, List.set_cons_succ, M.bind_ok, lowR_some, lowR_none, lowR_nil, lowC_val, lowC_own, lowC_anc, lowC_tr, er_dct, er_lst, er_sh, isPl_own, isPl_anc, isPl_tree, isPlS, shL_own, shL_anc, shL_tree, shLS, lstAt_own, lstAt_anc, lstAt_tree, lstAtS, dctAt_tree, dctAtS, updR_own, updR_anc, updR_tree, updRS, mapNx_ok, putT_nil, toCl_list, toCl_listP, toCl_dct, setT_sh, setT_lst, setT_tup, setT_dct, setT_ins, retT_sh, retT_lst, retT_tup, retT_dct, erM, shM, appM_own, appMS, insM_own, insMS, retC_val, retC_own, retC_ow, retCS, muC, muN, muSo, ifl0, ifl1, ifl2, ifl3, ifl4, toCl_nil, compR, compT, asB, asSh_l, optM_some, dEq_int, dNe_int, dAdd_int, dSub_int, dLt_int, dLe_int, dGt_int, dGe_int, asI_int, dLen_lst, dLen_tup, newL_lst, newL_tup, dSum_ints, isTyM_lst, isTyM_tup, isTyM_int, isTyM_non, isTyM_bl, isTyM_str, isTyM_dct, ty_ll, ty_tt, ty_ii, ty_ib, ty_dd, dMem_ints, ite_tt, ite_ff, Bool.not_true, Bool.not_false, List.getElem?_cons_zero, List.getElem?_cons_succ, onInts_ii, dAll_map, dAny_map, frz0, frzN, frzS, ifl5, ifl6, ifl7, er_dct0, hI, truD, hG1, lz, hw, hrd, hG3]
          try rfl
  · rintro ρ ⟨s2, s4, rfl⟩
    rfl
noncomputable def Pair_toldF : List D → M OT := Classical.choose ex_Pair_told
theorem Pair_told_at {P : Program} {w : World} {K : PySem.W.Frag} {mg : Str → Option Value} {base : Heap} : Txt K mg → MthT P w K mg base "Pair" "told" 2 2 Pair_toldF := (Classical.choose_spec ex_Pair_told).1
theorem Pair_told_eq : ∀ (a b : Mo) (r : Road), moSz (.pair a b) ≤ 900 → Pair_toldF [moO (.pair a b), rdD r] = .ok (.sh (lenD (moT (.pair a b) r.l r.w))) := (Classical.choose_spec ex_Pair_told).2
theorem ex_law_length : ∃ F : List D → M OT, (∀ {P : Program} {w : World} {K : PySem.W.Frag} {mg : Str → Option Value} {base : Heap}, Txt K mg → FnT P w K mg base "_law_length" 1 1 F) ∧ (∀ c : Int, 0 ≤ c → c.natAbs < 2 ^ 250 → ∃ l : Option Int, (∀ z, l = some z → 0 ≤ z ∧ z < T60) ∧ F [.int c] = .ok (.sh (lenD l))) := by
  refine ⟨_, fun T => fnT_of (k := 0) T.f_law_length sc_law_length _ (fun f cdv A outer s H E hr => (dss_cons (ds_if (dt_eq (c := true) (huR hr 16 (by decide)) (de_mod (de_var 0 (pv 0)) de_int) de_int) (dss_one (ds_retT (dn_sh de_non))) dss_nil) (dss_cons (ds_if (dt_lt (c := true) (de_mod (de_var 0 (pv 0)) de_int) de_int) (dss_one (ds_retT (dn_sh (de_mod (de_fdiv (de_var 0 (pv 0)) de_int) de_int)))) dss_nil) (dss_cons (ds_if (dt_eq (c := true) (huR hr 16 (by decide)) (de_mod (de_var 0 (pv 0)) de_int) de_int) (dss_one (ds_retT (dn_sh (de_mod (de_fdiv (de_var 0 (pv 0)) de_int) de_int)))) dss_nil) (dss_one (ds_retT (dn_sh (de_mod (de_mulW (de_fdiv (de_var 0 (pv 0)) de_int) (de_pow de_int de_int)) (de_pow de_int de_int))))))))), ?_⟩
  intro c h0 hb
  have e0 : stRho ["_law_cell"] [.int c] = [some (.val (.int c))] := rfl
  rw [e0]
  have ht := t60_gt
  have w1 : dMod (.int c) (.int 6) = .ok (.int (c % 6)) := dMod_pos (by decide)
  have w2 : dFdiv (.int c) (.int 6) = .ok (.int (c / 6)) := dFdiv_lit ⟨by decide, by decide⟩
  have w3 : dMod (.int (c / 6)) (.int 4) = .ok (.int (c / 6 % 4)) := dMod_pos (by decide)
  have w4 : dMod (.int (c / 6)) (.int 101) = .ok (.int (c / 6 % 101)) := dMod_pos (by decide)
  have w5 : dMulW (.int (c / 6)) (.int Q7) = .ok (.int (c / 6 * Q7)) := mul_big (abs_le (j := c) (by omega) (by omega) hb) (by decide) q7_lt (by decide)
  by_cases c0 : c % 6 = 0
  · refine ⟨none, (fun z e => by cases e), ft_eq ?_⟩
    simp only [rv0, rvS, lowR_vO, List.set_cons_zero, List.set_cons_succ, M.bind_ok, lowR_some, lowR_none, lowR_nil, lowC_val, lowC_own, lowC_anc, lowC_tr, er_dct, er_lst, er_sh, isPl_own, isPl_anc, isPl_tree, isPlS, shL_own, shL_anc, shL_tree, shLS, lstAt_own, lstAt_anc, lstAt_tree, lstAtS, dctAt_tree, dctAtS, updR_own, updR_anc, updR_tree, updRS, mapNx_ok, putT_nil, toCl_list, toCl_listP, toCl_dct, setT_sh, setT_lst, setT_tup, setT_dct, setT_ins, retT_sh, retT_lst, retT_tup, retT_dct, erM, shM, appM_own, appMS, insM_own, insMS, retC_val, retC_own, retC_ow, retCS, muC, muN, muSo, ifl0, ifl1, ifl2, ifl3, ifl4, toCl_nil, compR, compT, asB, asSh_l, optM_some, dEq_int, dNe_int, dAdd_int, dSub_int, dLt_int, dLe_int, dGt_int, dGe_int, asI_int, dLen_lst, dLen_tup, newL_lst, newL_tup, dSum_ints, isTyM_lst, isTyM_tup, isTyM_int, isTyM_non, isTyM_bl, isTyM_str, isTyM_dct, ty_ll, ty_tt, ty_ii, ty_ib, ty_dd, dMem_ints, ite_tt, ite_ff, Bool.not_true, Bool.not_false, List.getElem?_cons_zero, List.getElem?_cons_succ, onInts_ii, dAll_map, dAny_map, frz0, frzN, frzS, ifl5, ifl6, ifl7, er_dct0, w1, decide_eq_true c0]; rfl
  by_cases c1 : c % 6 < 3
  · refine ⟨some (c / 6 % 4), (fun z e => by cases e; omega), ft_eq ?_⟩
    apply wp_step
    · simp only [rv0, rvS, lowR_vO, List.set_cons_zero, List.set_cons_succ, M.bind_ok, lowR_some, lowR_none, lowR_nil, lowC_val, lowC_own, lowC_anc, lowC_tr, er_dct, er_lst, er_sh, isPl_own, isPl_anc, isPl_tree, isPlS, shL_own, shL_anc, shL_tree, shLS, lstAt_own, lstAt_anc, lstAt_tree, lstAtS, dctAt_tree, dctAtS, updR_own, updR_anc, updR_tree, updRS, mapNx_ok, putT_nil, toCl_list, toCl_listP, toCl_dct, setT_sh, setT_lst, setT_tup, setT_dct, setT_ins, retT_sh, retT_lst, retT_tup, retT_dct, erM, shM, appM_own, appMS, insM_own, insMS, retC_val, retC_own, retC_ow, retCS, muC, muN, muSo, ifl0, ifl1, ifl2, ifl3, ifl4, toCl_nil, compR, compT, asB, asSh_l, optM_some, dEq_int, dNe_int, dAdd_int, dSub_int, dLt_int, dLe_int, dGt_int, dGe_int, asI_int, dLen_lst, dLen_tup, newL_lst, newL_tup, dSum_ints, isTyM_lst, isTyM_tup, isTyM_int, isTyM_non, isTyM_bl, isTyM_str, isTyM_dct, ty_ll, ty_tt, ty_ii, ty_ib, ty_dd, dMem_ints, ite_tt, ite_ff, Bool.not_true, Bool.not_false, List.getElem?_cons_zero, List.getElem?_cons_succ, onInts_ii, dAll_map, dAny_map, frz0, frzN, frzS, ifl5, ifl6, ifl7, er_dct0, w1, decide_eq_false c0]; rfl
    simp only [rv0, rvS, lowR_vO, List.set_cons_zero, List.set_cons_succ, M.bind_ok, lowR_some, lowR_none, lowR_nil, lowC_val, lowC_own, lowC_anc, lowC_tr, er_dct, er_lst, er_sh, isPl_own, isPl_anc, isPl_tree, isPlS, shL_own, shL_anc, shL_tree, shLS, lstAt_own, lstAt_anc, lstAt_tree, lstAtS, dctAt_tree, dctAtS, updR_own, updR_anc, updR_tree, updRS, mapNx_ok, putT_nil, toCl_list, toCl_listP, toCl_dct, setT_sh, setT_lst, setT_tup, setT_dct, setT_ins, retT_sh, retT_lst, retT_tup, retT_dct, erM, shM, appM_own, appMS, insM_own, insMS, retC_val, retC_own, retC_ow, retCS, muC, muN, muSo, ifl0, ifl1, ifl2, ifl3, ifl4, toCl_nil, compR, compT, asB, asSh_l, optM_some, dEq_int, dNe_int, dAdd_int, dSub_int, dLt_int, dLe_int, dGt_int, dGe_int, asI_int, dLen_lst, dLen_tup, newL_lst, newL_tup, dSum_ints, isTyM_lst, isTyM_tup, isTyM_int, isTyM_non, isTyM_bl, isTyM_str, isTyM_dct, ty_ll, ty_tt, ty_ii, ty_ib, ty_dd, dMem_ints, ite_tt, ite_ff, Bool.not_true, Bool.not_false, List.getElem?_cons_zero, List.getElem?_cons_succ, onInts_ii, dAll_map, dAny_map, frz0, frzN, frzS, ifl5, ifl6, ifl7, er_dct0, w1, w2, w3, decide_eq_true c1]; rfl
  by_cases c2 : c % 6 = 3
  · refine ⟨some (c / 6 % 101), (fun z e => by cases e; omega), ft_eq ?_⟩
    apply wp_step
    · simp only [rv0, rvS, lowR_vO, List.set_cons_zero, List.set_cons_succ, M.bind_ok, lowR_some, lowR_none, lowR_nil, lowC_val, lowC_own, lowC_anc, lowC_tr, er_dct, er_lst, er_sh, isPl_own, isPl_anc, isPl_tree, isPlS, shL_own, shL_anc, shL_tree, shLS, lstAt_own, lstAt_anc, lstAt_tree, lstAtS, dctAt_tree, dctAtS, updR_own, updR_anc, updR_tree, updRS, mapNx_ok, putT_nil, toCl_list, toCl_listP, toCl_dct, setT_sh, setT_lst, setT_tup, setT_dct, setT_ins, retT_sh, retT_lst, retT_tup, retT_dct, erM, shM, appM_own, appMS, insM_own, insMS, retC_val, retC_own, retC_ow, retCS, muC, muN, muSo, ifl0, ifl1, ifl2, ifl3, ifl4, toCl_nil, compR, compT, asB, asSh_l, optM_some, dEq_int, dNe_int, dAdd_int, dSub_int, dLt_int, dLe_int, dGt_int, dGe_int, asI_int, dLen_lst, dLen_tup, newL_lst, newL_tup, dSum_ints, isTyM_lst, isTyM_tup, isTyM_int, isTyM_non, isTyM_bl, isTyM_str, isTyM_dct, ty_ll, ty_tt, ty_ii, ty_ib, ty_dd, dMem_ints, ite_tt, ite_ff, Bool.not_true, Bool.not_false, List.getElem?_cons_zero, List.getElem?_cons_succ, onInts_ii, dAll_map, dAny_map, frz0, frzN, frzS, ifl5, ifl6, ifl7, er_dct0, w1, decide_eq_false c0]; rfl
    apply wp_step
    · simp only [rv0, rvS, lowR_vO, List.set_cons_zero, List.set_cons_succ, M.bind_ok, lowR_some, lowR_none, lowR_nil, lowC_val, lowC_own, lowC_anc, lowC_tr, er_dct, er_lst, er_sh, isPl_own, isPl_anc, isPl_tree, isPlS, shL_own, shL_anc, shL_tree, shLS, lstAt_own, lstAt_anc, lstAt_tree, lstAtS, dctAt_tree, dctAtS, updR_own, updR_anc, updR_tree, updRS, mapNx_ok, putT_nil, toCl_list, toCl_listP, toCl_dct, setT_sh, setT_lst, setT_tup, setT_dct, setT_ins, retT_sh, retT_lst, retT_tup, retT_dct, erM, shM, appM_own, appMS, insM_own, insMS, retC_val, retC_own, retC_ow, retCS, muC, muN, muSo, ifl0, ifl1, ifl2, ifl3, ifl4, toCl_nil, compR, compT, asB, asSh_l, optM_some, dEq_int, dNe_int, dAdd_int, dSub_int, dLt_int, dLe_int, dGt_int, dGe_int, asI_int, dLen_lst, dLen_tup, newL_lst, newL_tup, dSum_ints, isTyM_lst, isTyM_tup, isTyM_int, isTyM_non, isTyM_bl, isTyM_str, isTyM_dct, ty_ll, ty_tt, ty_ii, ty_ib, ty_dd, dMem_ints, ite_tt, ite_ff, Bool.not_true, Bool.not_false, List.getElem?_cons_zero, List.getElem?_cons_succ, onInts_ii, dAll_map, dAny_map, frz0, frzN, frzS, ifl5, ifl6, ifl7, er_dct0, w1, decide_eq_false c1]; rfl
    simp only [rv0, rvS, lowR_vO, List.set_cons_zero, List.set_cons_succ, M.bind_ok, lowR_some, lowR_none, lowR_nil, lowC_val, lowC_own, lowC_anc, lowC_tr, er_dct, er_lst, er_sh, isPl_own, isPl_anc, isPl_tree, isPlS, shL_own, shL_anc, shL_tree, shLS, lstAt_own, lstAt_anc, lstAt_tree, lstAtS, dctAt_tree, dctAtS, updR_own, updR_anc, updR_tree, updRS, mapNx_ok, putT_nil, toCl_list, toCl_listP, toCl_dct, setT_sh, setT_lst, setT_tup, setT_dct, setT_ins, retT_sh, retT_lst, retT_tup, retT_dct, erM, shM, appM_own, appMS, insM_own, insMS, retC_val, retC_own, retC_ow, retCS, muC, muN, muSo, ifl0, ifl1, ifl2, ifl3, ifl4, toCl_nil, compR, compT, asB, asSh_l, optM_some, dEq_int, dNe_int, dAdd_int, dSub_int, dLt_int, dLe_int, dGt_int, dGe_int, asI_int, dLen_lst, dLen_tup, newL_lst, newL_tup, dSum_ints, isTyM_lst, isTyM_tup, isTyM_int, isTyM_non, isTyM_bl, isTyM_str, isTyM_dct, ty_ll, ty_tt, ty_ii, ty_ib, ty_dd, dMem_ints, ite_tt, ite_ff, Bool.not_true, Bool.not_false, List.getElem?_cons_zero, List.getElem?_cons_succ, onInts_ii, dAll_map, dAny_map, frz0, frzN, frzS, ifl5, ifl6, ifl7, er_dct0, w1, w2, w4, decide_eq_true c2]; rfl
  · refine ⟨some (c / 6 * Q7 % T60), (fun z e => by cases e; exact ⟨Int.emod_nonneg _ (by omega), Int.emod_lt_of_pos _ (by omega)⟩), ft_eq ?_⟩
    apply wp_step
    · simp only [rv0, rvS, lowR_vO, List.set_cons_zero, List.set_cons_succ, M.bind_ok, lowR_some, lowR_none, lowR_nil, lowC_val, lowC_own, lowC_anc, lowC_tr, er_dct, er_lst, er_sh, isPl_own, isPl_anc, isPl_tree, isPlS, shL_own, shL_anc, shL_tree, shLS, lstAt_own, lstAt_anc, lstAt_tree, lstAtS, dctAt_tree, dctAtS, updR_own, updR_anc, updR_tree, updRS, mapNx_ok, putT_nil, toCl_list, toCl_listP, toCl_dct, setT_sh, setT_lst, setT_tup, setT_dct, setT_ins, retT_sh, retT_lst, retT_tup, retT_dct, erM, shM, appM_own, appMS, insM_own, insMS, retC_val, retC_own, retC_ow, retCS, muC, muN, muSo, ifl0, ifl1, ifl2, ifl3, ifl4, toCl_nil, compR, compT, asB, asSh_l, optM_some, dEq_int, dNe_int, dAdd_int, dSub_int, dLt_int, dLe_int, dGt_int, dGe_int, asI_int, dLen_lst, dLen_tup, newL_lst, newL_tup, dSum_ints, isTyM_lst, isTyM_tup, isTyM_int, isTyM_non, isTyM_bl, isTyM_str, isTyM_dct, ty_ll, ty_tt, ty_ii, ty_ib, ty_dd, dMem_ints, ite_tt, ite_ff, Bool.not_true, Bool.not_false, List.getElem?_cons_zero, List.getElem?_cons_succ, onInts_ii, dAll_map, dAny_map, frz0, frzN, frzS, ifl5, ifl6, ifl7, er_dct0, w1, decide_eq_false c0]; rfl
    apply wp_step
    · simp only [rv0, rvS, lowR_vO, List.set_cons_zero, List.set_cons_succ, M.bind_ok, lowR_some, lowR_none, lowR_nil, lowC_val, lowC_own, lowC_anc, lowC_tr, er_dct, er_lst, er_sh, isPl_own, isPl_anc, isPl_tree, isPlS, shL_own, shL_anc, shL_tree, shLS, lstAt_own, lstAt_anc, lstAt_tree, lstAtS, dctAt_tree, dctAtS, updR_own, updR_anc, updR_tree, updRS, mapNx_ok, putT_nil, toCl_list, toCl_listP, toCl_dct, setT_sh, setT_lst, setT_tup, setT_dct, setT_ins, retT_sh, retT_lst, retT_tup, retT_dct, erM, shM, appM_own, appMS, insM_own, insMS, retC_val, retC_own, retC_ow, retCS, muC, muN, muSo, ifl0, ifl1, ifl2, ifl3, ifl4, toCl_nil, compR, compT, asB, asSh_l, optM_some, dEq_int, dNe_int, dAdd_int, dSub_int, dLt_int, dLe_int, dGt_int, dGe_int, asI_int, dLen_lst, dLen_tup, newL_lst, newL_tup, dSum_ints, isTyM_lst, isTyM_tup, isTyM_int, isTyM_non, isTyM_bl, isTyM_str, isTyM_dct, ty_ll, ty_tt, ty_ii, ty_ib, ty_dd, dMem_ints, ite_tt, ite_ff, Bool.not_true, Bool.not_false, List.getElem?_cons_zero, List.getElem?_cons_succ, onInts_ii, dAll_map, dAny_map, frz0, frzN, frzS, ifl5, ifl6, ifl7, er_dct0, w1, decide_eq_false c1]; rfl
    apply wp_step
    · simp only [rv0, rvS, lowR_vO, List.set_cons_zero, List.set_cons_succ, M.bind_ok, lowR_some, lowR_none, lowR_nil, lowC_val, lowC_own, lowC_anc, lowC_tr, er_dct, er_lst, er_sh, isPl_own, isPl_anc, isPl_tree, isPlS, shL_own, shL_anc, shL_tree, shLS, lstAt_own, lstAt_anc, lstAt_tree, lstAtS, dctAt_tree, dctAtS, updR_own, updR_anc, updR_tree, updRS, mapNx_ok, putT_nil, toCl_list, toCl_listP, toCl_dct, setT_sh, setT_lst, setT_tup, setT_dct, setT_ins, retT_sh, retT_lst, retT_tup, retT_dct, erM, shM, appM_own, appMS, insM_own, insMS, retC_val, retC_own, retC_ow, retCS, muC, muN, muSo, ifl0, ifl1, ifl2, ifl3, ifl4, toCl_nil, compR, compT, asB, asSh_l, optM_some, dEq_int, dNe_int, dAdd_int, dSub_int, dLt_int, dLe_int, dGt_int, dGe_int, asI_int, dLen_lst, dLen_tup, newL_lst, newL_tup, dSum_ints, isTyM_lst, isTyM_tup, isTyM_int, isTyM_non, isTyM_bl, isTyM_str, isTyM_dct, ty_ll, ty_tt, ty_ii, ty_ib, ty_dd, dMem_ints, ite_tt, ite_ff, Bool.not_true, Bool.not_false, List.getElem?_cons_zero, List.getElem?_cons_succ, onInts_ii, dAll_map, dAny_map, frz0, frzN, frzS, ifl5, ifl6, ifl7, er_dct0, w1, decide_eq_false c2]; rfl
    simp only [rv0, rvS, lowR_vO, List.set_cons_zero, List.set_cons_succ, M.bind_ok, lowR_some, lowR_none, lowR_nil, lowC_val, lowC_own, lowC_anc, lowC_tr, er_dct, er_lst, er_sh, isPl_own, isPl_anc, isPl_tree, isPlS, shL_own, shL_anc, shL_tree, shLS, lstAt_own, lstAt_anc, lstAt_tree, lstAtS, dctAt_tree, dctAtS, updR_own, updR_anc, updR_tree, updRS, mapNx_ok, putT_nil, toCl_list, toCl_listP, toCl_dct, setT_sh, setT_lst, setT_tup, setT_dct, setT_ins, retT_sh, retT_lst, retT_tup, retT_dct, erM, shM, appM_own, appMS, insM_own, insMS, retC_val, retC_own, retC_ow, retCS, muC, muN, muSo, ifl0, ifl1, ifl2, ifl3, ifl4, toCl_nil, compR, compT, asB, asSh_l, optM_some, dEq_int, dNe_int, dAdd_int, dSub_int, dLt_int, dLe_int, dGt_int, dGe_int, asI_int, dLen_lst, dLen_tup, newL_lst, newL_tup, dSum_ints, isTyM_lst, isTyM_tup, isTyM_int, isTyM_non, isTyM_bl, isTyM_str, isTyM_dct, ty_ll, ty_tt, ty_ii, ty_ib, ty_dd, dMem_ints, ite_tt, ite_ff, Bool.not_true, Bool.not_false, List.getElem?_cons_zero, List.getElem?_cons_succ, onInts_ii, dAll_map, dAny_map, frz0, frzN, frzS, ifl5, ifl6, ifl7, er_dct0, w2, powQ7, w5, pow60, t60_mod]; rfl
noncomputable def law_lengthF : List D → M OT := Classical.choose ex_law_length
theorem law_length_at {P : Program} {w : World} {K : PySem.W.Frag} {mg : Str → Option Value} {base : Heap} : Txt K mg → FnT P w K mg base "_law_length" 1 1 law_lengthF := (Classical.choose_spec ex_law_length).1
theorem law_length_eq : ∀ c : Int, 0 ≤ c → c.natAbs < 2 ^ 250 → ∃ l : Option Int, (∀ z, l = some z → 0 ≤ z ∧ z < T60) ∧ law_lengthF [.int c] = .ok (.sh (lenD l)) := (Classical.choose_spec ex_law_length).2
theorem ex_law_map : ∃ F : List D → M OT, (∀ {P : Program} {w : World} {K : PySem.W.Frag} {mg : Str → Option Value} {base : Heap}, Txt K mg → FnT P w K mg base "_law_map" 2 2 F) ∧ (∀ (cs : List Int) (m : Nat), 1 ≤ m → m ≤ 16 → cs.length ≤ 60 → (∀ c ∈ cs, 0 ≤ c ∧ c < T60) → ∃ rs : List Road, rs.length ≤ 60 ∧ (∀ r ∈ rs, OkRd m r) ∧ F [.lst (cs.map D.int), .int m] = .ok (.sh (netD m rs))) := by
  refine ⟨_, fun T => fnT_of (k := 1) T.f_law_map sc_law_map _ (fun f cdv A outer s H E hr => (dss_cons (ds_setT 2 sc_law_map.nd rfl (Or.inl rfl) (dn_lst dns_nil)) (dss_cons (ds_for xok_def.toXCall.own rfl (di_list (de_var 0 (pv 0))) (dg_name 3 sc_law_map.nd rfl (Or.inl rfl)) (dss_one (ds_if (dt_gt (c := true) (de_var 1 (pv 1)) de_int) (dss_cons (ds_set 4 sc_law_map.nd rfl (Or.inl rfl) (de_mod (de_var 3 (pv 3)) (de_var 1 (pv 1)))) (dss_cons (ds_set 5 sc_law_map.nd rfl (Or.inl rfl) (de_mod (de_add (de_add (de_var 4 (pv 4)) de_int) (de_mod (de_fdiv (de_var 3 (pv 3)) de_int) (de_sub (de_var 1 (pv 1)) de_int))) (de_var 1 (pv 1)))) (dss_cons (ds_set 6 sc_law_map.nd rfl (Or.inl rfl) (de_mod (de_mulW (de_var 3 (pv 3)) de_int) (de_add (de_pow de_int de_int) de_int))) (dss_cons (ds_set 7 sc_law_map.nd rfl (Or.inl rfl) (de_itm (huR hr 16 (by decide)) (de_lst (da_cons (de_mod (de_fdiv (de_var 6 (pv 6)) de_int) de_int) (da_cons (de_mod (de_fdiv (de_var 6 (pv 6)) de_int) (de_pow de_int de_int)) da_nil))) (de_mod (de_fdiv (de_var 6 (pv 6)) de_int) de_int))) (dss_one (ds_append 2 (pv 2) (de_tup (da_cons (de_var 4 (pv 4)) (da_cons (de_var 5 (pv 5)) (da_cons (de_dn (dn_call xok_def.toXCall (law_length_at T) (hr.mono (by decide)) rfl (da_cons (de_fdiv (de_var 6 (pv 6)) de_int) da_nil) rfl)) (da_cons (de_var 7 (pv 7)) da_nil))))))))))) dss_nil))) (dss_one (ds_frz 2 (ds_retT (dn_sh (de_tup (da_cons (de_var 1 (pv 1)) (da_cons (de_var 2 (pv 2)) da_nil)))))))))), ?_⟩
  intro cs m hm hm2 hl hc
  have e0 : stRho ["_law_cells", "_law_many", "_law_roads", "_law_cell", "_law_start", "_law_end", "_law_mixed", "_law_width"] [.lst (cs.map D.int), .int m] = [some (.val (.lst (cs.map D.int))), some (.val (.int m)), none, none, none, none, none, none] := rfl
  rw [e0]
  refine (fun h : ∃ t, _ ∧ ∃ rs : List Road, t = OT.sh (netD m rs) ∧ rs.length ≤ 60 ∧ (∀ r ∈ rs, OkRd m r) => by
    obtain ⟨t, h1, R, rfl, h2, h3⟩ := h
    exact ⟨R, h2, h3, h1⟩) (ft_of ?_)
  have ht := t60_gt
  apply wp_step
  · rfl
  try simp only [List.set_cons_zero, List.set_cons_succ]
  refine wp_cut (I := fun ρ => ∃ (rs : List Road) (s3 s4 s5 s6 s7 : Option Cl), ρ = [some (.val (.lst (cs.map D.int))), some (.val (.int m)), some (.own (rs.map rdD)), s3, s4, s5, s6, s7] ∧ rs.length ≤ 60 ∧ ∀ r ∈ rs, OkRd m r) ?_ ?_
  · simp only [rv0, rvS, lowR_vO, List.set_cons_zero, List.set_cons_succ, M.bind_ok, lowR_some, lowR_none, lowR_nil, lowC_val, lowC_own, lowC_anc, lowC_tr, er_dct, er_lst, er_sh, isPl_own, isPl_anc, isPl_tree, isPlS, shL_own, shL_anc, shL_tree, shLS, lstAt_own, lstAt_anc, lstAt_tree, lstAtS, dctAt_tree, dctAtS, updR_own, updR_anc, updR_tree, updRS, mapNx_ok, putT_nil, toCl_list, toCl_listP, toCl_dct, setT_sh, setT_lst, setT_tup, setT_dct, setT_ins, retT_sh, retT_lst, retT_tup, retT_dct, erM, shM, appM_own, appMS, insM_own, insMS, retC_val, retC_own, retC_ow, retCS, muC, muN, muSo, ifl0, ifl1, ifl2, ifl3, ifl4, toCl_nil, compR, compT, asB, asSh_l, optM_some, dEq_int, dNe_int, dAdd_int, dSub_int, dLt_int, dLe_int, dGt_int, dGe_int, asI_int, dLen_lst, dLen_tup, newL_lst, newL_tup, dSum_ints, isTyM_lst, isTyM_tup, isTyM_int, isTyM_non, isTyM_bl, isTyM_str, isTyM_dct, ty_ll, ty_tt, ty_ii, ty_ib, ty_dd, dMem_ints, ite_tt, ite_ff, Bool.not_true, Bool.not_false, List.getElem?_cons_zero, List.getElem?_cons_succ, onInts_ii, dAll_map, dAny_map, frz0, frzN, frzS, ifl5, ifl6, ifl7, er_dct0]
    refine wp_for (fun i ρ => i ≤ 60 ∧ ∃ (rs : List Road) (s3 s4 s5 s6 s7 : Option Cl), ρ = [some (.val (.lst (cs.map D.int))), some (.val (.int m)), some (.own (rs.map rdD)), s3, s4, s5, s6, s7] ∧ rs.length ≤ i ∧ ∀ r ∈ rs, OkRd m r) ⟨by omega, [], none, none, none, none, none, rfl, by simp, fun r hr => by cases hr⟩ ?_ ?_
    · rintro i d ρ hd ⟨_, rs, s3, s4, s5, s6, s7, rfl, hrl, hrs⟩
      obtain ⟨c, hcq, rfl⟩ := get_mapD hd
      have hi := (List.getElem?_eq_some_iff.mp hcq).1
      obtain ⟨c0, c1⟩ := hc c (List.mem_of_getElem? hcq)
      refine ⟨_, rfl, ?_⟩
      by_cases hg : (1 : Int) < (m : Int)
      · have hmp : (0 : Int) < (m : Int) := by omega
        have hmp1 : (0 : Int) < (m : Int) - 1 := by omega
        obtain ⟨a, ha⟩ : ∃ a, a = c % (m : Int) := ⟨_, rfl⟩
        have a0 : 0 ≤ a := by rw [ha]; exact Int.emod_nonneg _ (by omega)
        have a1 : a < m := by rw [ha]; exact Int.emod_lt_of_pos _ hmp
        obtain ⟨s, hs⟩ : ∃ s, s = c / 16 % ((m : Int) - 1) := ⟨_, rfl⟩
        have s0 : 0 ≤ s := by rw [hs]; exact Int.emod_nonneg _ (by omega)
        have s1 : s < (m : Int) - 1 := by rw [hs]; exact Int.emod_lt_of_pos _ hmp1
        obtain ⟨b, hb⟩ : ∃ b, b = (a + 1 + s) % (m : Int) := ⟨_, rfl⟩
        have b0 : 0 ≤ b := by rw [hb]; exact Int.emod_nonneg _ (by omega)
        have b1 : b < m := by rw [hb]; exact Int.emod_lt_of_pos _ hmp
        have hab : a ≠ b := by
          have := mod_ne (a := a) (s := 1 + s) (m := m) a0 a1 (by omega) (by omega)
          rw [hb, Int.add_assoc]
          exact fun z => this z.symm
        obtain ⟨x, hx⟩ : ∃ x, x = c * 48271 % (T60 + 7) := ⟨_, rfl⟩
        have x0 : 0 ≤ x := by rw [hx]; exact Int.emod_nonneg _ (by omega)
        have x1 : x < T60 + 7 := by rw [hx]; exact Int.emod_lt_of_pos _ (by omega)
        have ma : dMod (.int c) (.int m) = .ok (.int a) := by rw [ha]; exact dMod_pos hmp
        have ad1 : dAdd (.int a) (.int 1) = .ok (.int (a + 1)) := rfl
        have d16 : dFdiv (.int c) (.int 16) = .ok (.int (c / 16)) := dFdiv_lit ⟨by decide, by decide⟩
        have sb : dSub (.int (m : Int)) (.int 1) = .ok (.int ((m : Int) - 1)) := rfl
        have ms : dMod (.int (c / 16)) (.int ((m : Int) - 1)) = .ok (.int s) := by rw [hs]; exact dMod_pos hmp1
        have ad2 : dAdd (.int (a + 1)) (.int s) = .ok (.int (a + 1 + s)) := rfl
        have mb : dMod (.int (a + 1 + s)) (.int m) = .ok (.int b) := by rw [hb]; exact dMod_pos hmp
        have mu : dMulW (.int c) (.int 48271) = .ok (.int (c * 48271)) := mul_big (k := 200) (l := 20) (abs_le c0 (by omega) t60_lt) (by decide) (by decide) (by decide)
        have ad7 : dAdd (.int T60) (.int 7) = .ok (.int (T60 + 7)) := rfl
        have mx : dMod (.int (c * 48271)) (.int (T60 + 7)) = .ok (.int x) := by rw [hx]; exact t60_mod7
        have f6 : dFdiv (.int x) (.int 600) = .ok (.int (x / 600)) := dFdiv_lit ⟨by decide, by decide⟩
        have f1 : dFdiv (.int x) (.int 100) = .ok (.int (x / 100)) := dFdiv_lit ⟨by decide, by decide⟩
        have f7 : dFdiv (.int x) (.int 7) = .ok (.int (x / 7)) := dFdiv_lit ⟨by decide, by decide⟩
        have m5 : dMod (.int (x / 600)) (.int 5) = .ok (.int (x / 600 % 5)) := dMod_pos (by decide)
        have m2 : dMod (.int (x / 100)) (.int 2) = .ok (.int (x / 100 % 2)) := dMod_pos (by decide)
        have b6 : 0 ≤ x / 600 % T60 ∧ x / 600 % T60 < T60 := ⟨Int.emod_nonneg _ (by omega), Int.emod_lt_of_pos _ (by omega)⟩
        obtain ⟨w, w0, w1, hw⟩ : ∃ w, 0 ≤ w ∧ w < T60 ∧ dItm (.lst [.int (x / 600 % 5), .int (x / 600 % T60)]) (.int (x / 100 % 2)) = .ok (.int w) := by
          have h : x / 100 % 2 = 0 ∨ x / 100 % 2 = 1 := by omega
          rcases h with h | h
          · rw [h]; exact ⟨x / 600 % 5, by omega, by omega, rfl⟩
          · rw [h]; exact ⟨x / 600 % T60, b6.1, b6.2, rfl⟩
        obtain ⟨l, hl0, hle⟩ := law_length_eq (x / 7) (by omega) (Nat.lt_trans (abs_le (j := T60) (by omega) (by omega) t60_lt) (Nat.pow_lt_pow_right (by decide) (by decide)))
        have hroom : (rs.map rdD).length < 1000 := by rw [List.length_map]; omega
        refine wp_to (ρ' := [some (.val (.lst (cs.map D.int))), some (.val (.int m)), some (.own ((rs ++ [Road.mk a b l w]).map rdD)), some (.val (.int c)), some (.val (.int a)), some (.val (.int b)), some (.val (.int x)), some (.val (.int w))]) ?_ ⟨by omega, _, _, _, _, _, _, rfl, by rw [List.length_append]; simp; omega, fun r hr => ?_⟩
        · simp only [rv0, rvS, lowR_vO, List.set_cons_zero, List.set_cons_succ, M.bind_ok, lowR_some, lowR_none, lowR_nil, lowC_val, lowC_own, lowC_anc, lowC_tr, er_dct, er_lst, er_sh, isPl_own, isPl_anc, isPl_tree, isPlS, shL_own, shL_anc, shL_tree, shLS, lstAt_own, lstAt_anc, lstAt_tree, lstAtS, dctAt_tree, dctAtS, updR_own, updR_anc, updR_tree, updRS, mapNx_ok, putT_nil, toCl_list, toCl_listP, toCl_dct, setT_sh, setT_lst, setT_tup, setT_dct, setT_ins, retT_sh, retT_lst, retT_tup, retT_dct, erM, shM, appM_own, appMS, insM_own, insMS, retC_val, retC_own, retC_ow, retCS, muC, muN, muSo, ifl0, ifl1, ifl2, ifl3, ifl4, toCl_nil, compR, compT, asB, asSh_l, optM_some, dEq_int, dNe_int, dAdd_int, dSub_int, dLt_int, dLe_int, dGt_int, dGe_int, asI_int, dLen_lst, dLen_tup, newL_lst, newL_tup, dSum_ints, isTyM_lst, isTyM_tup, isTyM_int, isTyM_non, isTyM_bl, isTyM_str, isTyM_dct, ty_ll, ty_tt, ty_ii, ty_ib, ty_dd, dMem_ints, ite_tt, ite_ff, Bool.not_true, Bool.not_false, List.getElem?_cons_zero, List.getElem?_cons_succ, onInts_ii, dAll_map, dAny_map, frz0, frzN, frzS, ifl5, ifl6, ifl7, er_dct0, decide_eq_true hg]
          have z1 : ∀ (A B : M Out), (if (True : Prop) then A else B) = A := fun A B => if_pos trivial
          simp only [rv0, rvS, lowR_vO, List.set_cons_zero, List.set_cons_succ, M.bind_ok, lowR_some, lowR_none, lowR_nil, lowC_val, lowC_own, lowC_anc, lowC_tr, er_dct, er_lst, er_sh, isPl_own, isPl_anc, isPl_tree, isPlS, shL_own, shL_anc, shL_tree, shLS, lstAt_own, lstAt_anc, lstAt_tree, lstAtS, dctAt_tree, dctAtS, updR_own, updR_anc, updR_tree, updRS, mapNx_ok, putT_nil, toCl_list, toCl_listP, toCl_dct, setT_sh, setT_lst, setT_tup, setT_dct, setT_ins, retT_sh, retT_lst, retT_tup, retT_dct, erM, shM, appM_own, appMS, insM_own, insMS, retC_val, retC_own, retC_ow, retCS, muC, muN, muSo, ifl0, ifl1, ifl2, ifl3, ifl4, toCl_nil, compR, compT, asB, asSh_l, optM_some, dEq_int, dNe_int, dAdd_int, dSub_int, dLt_int, dLe_int, dGt_int, dGe_int, asI_int, dLen_lst, dLen_tup, newL_lst, newL_tup, dSum_ints, isTyM_lst, isTyM_tup, isTyM_int, isTyM_non, isTyM_bl, isTyM_str, isTyM_dct, ty_ll, ty_tt, ty_ii, ty_ib, ty_dd, dMem_ints, ite_tt, ite_ff, Bool.not_true, Bool.not_false, List.getElem?_cons_zero, List.getElem?_cons_succ, onInts_ii, dAll_map, dAny_map, frz0, frzN, frzS, ifl5, ifl6, ifl7, er_dct0, seqM, ma, ad1, d16, sb, ms, ad2, mb, mu, pow60, ad7, mx, f6, f1, f7, m5, m2, t60_mod, hw, hle, if_pos hroom, z1]
          rw [List.map_append]
          rfl
        · rcases List.mem_append.mp hr with hr | hr
          · exact hrs r hr
          · rw [List.mem_singleton.mp hr]
            exact ⟨a0, a1, b0, b1, hab, hl0, w0, w1⟩
      · refine wp_to (ρ' := _) (by simp only [rv0, rvS, lowR_vO, List.set_cons_zero, List.set_cons_succ, M.bind_ok, lowR_some, lowR_none, lowR_nil, lowC_val, lowC_own, lowC_anc, lowC_tr, er_dct, er_lst, er_sh, isPl_own, isPl_anc, isPl_tree, isPlS, shL_own, shL_anc, shL_tree, shLS, lstAt_own, lstAt_anc, lstAt_tree, lstAtS, dctAt_tree, dctAtS, updR_own, updR_anc, updR_tree, updRS, mapNx_ok, putT_nil, toCl_list, toCl_listP, toCl_dct, setT_sh, setT_lst, setT_tup, setT_dct, setT_ins, retT_sh, retT_lst, retT_tup, retT_dct, erM, shM, appM_own, appMS, insM_own, insMS, retC_val, retC_own, retC_ow, retCS, muC, muN, muSo, ifl0, ifl1, ifl2, ifl3, ifl4, toCl_nil, compR, compT, asB, asSh_l, optM_some, dEq_int, dNe_int, dAdd_int, dSub_int, dLt_int, dLe_int, dGt_int, dGe_int, asI_int, dLen_lst, dLen_tup, newL_lst, newL_tup, dSum_ints, isTyM_lst, isTyM_tup, isTyM_int, isTyM_non, isTyM_bl, isTyM_str, isTyM_dct, ty_ll, ty_tt, ty_ii, ty_ib, ty_dd, dMem_ints, ite_tt, ite_ff, Bool.not_true, Bool.not_false, List.getElem?_cons_zero, List.getElem?_cons_succ, onInts_ii, dAll_map, dAny_map, frz0, frzN, frzS, ifl5, ifl6, ifl7, er_dct0, decide_eq_false hg]; try rfl) ⟨by omega, rs, _, _, _, _, _, rfl, by omega, hrs⟩
    · rintro ρ ⟨_, rs, s3, s4, s5, s6, s7, rfl, hrl, hrs⟩
      exact ⟨rs, _, _, _, _, _, rfl, by omega, hrs⟩
  · rintro ρ ⟨rs, s3, s4, s5, s6, s7, rfl, hrl, hrs⟩
    simp only [rv0, rvS, lowR_vO, List.set_cons_zero, List.set_cons_succ, M.bind_ok, lowR_some, lowR_none, lowR_nil, lowC_val, lowC_own, lowC_anc, lowC_tr, er_dct, er_lst, er_sh, isPl_own, isPl_anc, isPl_tree, isPlS, shL_own, shL_anc, shL_tree, shLS, lstAt_own, lstAt_anc, lstAt_tree, lstAtS, dctAt_tree, dctAtS, updR_own, updR_anc, updR_tree, updRS, mapNx_ok, putT_nil, toCl_list, toCl_listP, toCl_dct, setT_sh, setT_lst, setT_tup, setT_dct, setT_ins, retT_sh, retT_lst, retT_tup, retT_dct, erM, shM, appM_own, appMS, insM_own, insMS, retC_val, retC_own, retC_ow, retCS, muC, muN, muSo, ifl0, ifl1, ifl2, ifl3, ifl4, toCl_nil, compR, compT, asB, asSh_l, optM_some, dEq_int, dNe_int, dAdd_int, dSub_int, dLt_int, dLe_int, dGt_int, dGe_int, asI_int, dLen_lst, dLen_tup, newL_lst, newL_tup, dSum_ints, isTyM_lst, isTyM_tup, isTyM_int, isTyM_non, isTyM_bl, isTyM_str, isTyM_dct, ty_ll, ty_tt, ty_ii, ty_ib, ty_dd, dMem_ints, ite_tt, ite_ff, Bool.not_true, Bool.not_false, List.getElem?_cons_zero, List.getElem?_cons_succ, onInts_ii, dAll_map, dAny_map, frz0, frzN, frzS, ifl5, ifl6, ifl7, er_dct0]
    exact ⟨rs, rfl, hrl, hrs⟩
noncomputable def law_mapF : List D → M OT := Classical.choose ex_law_map
theorem law_map_at {P : Program} {w : World} {K : PySem.W.Frag} {mg : Str → Option Value} {base : Heap} : Txt K mg → FnT P w K mg base "_law_map" 2 2 law_mapF := (Classical.choose_spec ex_law_map).1
theorem law_map_eq : ∀ (cs : List Int) (m : Nat), 1 ≤ m → m ≤ 16 → cs.length ≤ 60 → (∀ c ∈ cs, 0 ≤ c ∧ c < T60) → ∃ rs : List Road, rs.length ≤ 60 ∧ (∀ r ∈ rs, OkRd m r) ∧ law_mapF [.lst (cs.map D.int), .int m] = .ok (.sh (netD m rs)) := (Classical.choose_spec ex_law_map).2
theorem ex_law_one : ∃ F : List D → M OT, (∀ {P : Program} {w : World} {K : PySem.W.Frag} {mg : Str → Option Value} {base : Heap}, Txt K mg → FnT P w K mg base "_law_one" 1 2 F) ∧ (∀ (rs : List Road) (c : Int), 0 ≤ c → ∃ m : Mo, moDep m = 0 ∧ F [.int c, .lst (rs.map rdD)] = .ok (.sh (moD m))) := by
  refine ⟨_, fun T => fnT_of (k := 0) T.f_law_one sc_law_one _ (fun f cdv A outer s H E hr => (dss_cons (ds_set 2 sc_law_one.nd rfl (Or.inl rfl) (de_mod (de_fdiv (de_var 0 (pv 0)) de_int) (de_pow de_int de_int))) (dss_cons (ds_if (DW.dt (dw_and (dt_gt (c := true) (de_len rfl T.b_len (de_var 1 (pv 1))) de_int) (dw_and1 (dt_gt (c := true) (de_mod (de_fdiv (de_var 0 (pv 0)) de_int) de_int) de_int)))) (dss_cons (ds_set 3 sc_law_one.nd rfl (Or.inl rfl) (de_itm (huR hr 16 (by decide)) (de_var 1 (pv 1)) (de_mod (de_fdiv (de_var 0 (pv 0)) de_int) (de_len rfl T.b_len (de_var 1 (pv 1)))))) (dss_cons (ds_set 2 sc_law_one.nd rfl (Or.inl rfl) (de_itm (huR hr 16 (by decide)) (de_var 3 (pv 3)) de_int)) (dss_cons (ds_if (DW.dt (dw_and (dt_eq (c := true) (huR hr 16 (by decide)) (de_mod (de_var 0 (pv 0)) de_int) de_int) (dw_and1 (dt_notN (c := true) (de_itm (huR hr 16 (by decide)) (de_var 3 (pv 3)) de_int))))) (dss_one (ds_set 2 sc_law_one.nd rfl (Or.inl rfl) (de_itm (huR hr 16 (by decide)) (de_var 3 (pv 3)) de_int))) dss_nil) (dss_one (ds_set 2 sc_law_one.nd rfl (Or.inl rfl) (de_max2 rfl rfl T.b_max de_int (de_add (de_sub (de_var 2 (pv 2)) de_int) (de_mod (de_fdiv (de_var 0 (pv 0)) de_int) de_int)))))))) dss_nil) (dss_one (ds_retT (dn_sh (de_itm (huR hr 16 (by decide)) (de_lst (da_cons (de_tup (da_cons de_str da_nil)) (da_cons (de_tup (da_cons de_str (da_cons (de_var 2 (pv 2)) da_nil))) (da_cons (de_tup (da_cons de_str (da_cons (de_var 2 (pv 2)) da_nil))) (da_cons (de_tup (da_cons de_str da_nil)) (da_cons (de_tup (da_cons de_str da_nil)) da_nil)))))) (de_mod (de_var 0 (pv 0)) de_int)))))))), ?_⟩
  intro rs c hc
  have e0 : stRho ["_law_cell", "_law_roads", "_law_number", "_law_road"] [.int c, .lst (rs.map rdD)] = [some (.val (.int c)), some (.val (.lst (rs.map rdD))), none, none] := rfl
  rw [e0]
  refine (fun h : ∃ t, _ ∧ ∃ m : Mo, moDep m = 0 ∧ t = .sh (moD m) => by
    obtain ⟨t, h1, m, h2, rfl⟩ := h
    exact ⟨m, h2, h1⟩) (ft_of ?_)
  obtain ⟨T, hT0, hT⟩ : ∃ T : Int, 0 < T ∧ dPow (.int 10) (.int 59) = .ok (.int T) := ⟨10 ^ 59, by decide, rfl⟩
  have w1 : dFdiv (.int c) (.int 5) = .ok (.int (c / 5)) := dFdiv_lit ⟨by decide, by decide⟩
  have w2 : dMod (.int (c / 5)) (.int T) = .ok (.int (c / 5 % T)) := dMod_pos hT0
  have w3 : dMod (.int (c / 5)) (.int 4) = .ok (.int (c / 5 % 4)) := dMod_pos (by decide)
  have w4 : dFdiv (.int c) (.int 20) = .ok (.int (c / 20)) := dFdiv_lit ⟨by decide, by decide⟩
  have w5 : dMod (.int c) (.int 5) = .ok (.int (c % 5)) := dMod_pos (by decide)
  have w6 : dFdiv (.int c) (.int 2000) = .ok (.int (c / 2000)) := dFdiv_lit ⟨by decide, by decide⟩
  have w7 : dMod (.int (c / 2000)) (.int 3) = .ok (.int (c / 2000 % 3)) := dMod_pos (by decide)
  apply wp_step
  · simp only [rv0, rvS, lowR_vO, List.set_cons_zero, List.set_cons_succ, M.bind_ok, lowR_some, lowR_none, lowR_nil, lowC_val, lowC_own, lowC_anc, lowC_tr, er_dct, er_lst, er_sh, isPl_own, isPl_anc, isPl_tree, isPlS, shL_own, shL_anc, shL_tree, shLS, lstAt_own, lstAt_anc, lstAt_tree, lstAtS, dctAt_tree, dctAtS, updR_own, updR_anc, updR_tree, updRS, mapNx_ok, putT_nil, toCl_list, toCl_listP, toCl_dct, setT_sh, setT_lst, setT_tup, setT_dct, setT_ins, retT_sh, retT_lst, retT_tup, retT_dct, erM, shM, appM_own, appMS, insM_own, insMS, retC_val, retC_own, retC_ow, retCS, muC, muN, muSo, ifl0, ifl1, ifl2, ifl3, ifl4, toCl_nil, compR, compT, asB, asSh_l, optM_some, dEq_int, dNe_int, dAdd_int, dSub_int, dLt_int, dLe_int, dGt_int, dGe_int, asI_int, dLen_lst, dLen_tup, newL_lst, newL_tup, dSum_ints, isTyM_lst, isTyM_tup, isTyM_int, isTyM_non, isTyM_bl, isTyM_str, isTyM_dct, ty_ll, ty_tt, ty_ii, ty_ib, ty_dd, dMem_ints, ite_tt, ite_ff, Bool.not_true, Bool.not_false, List.getElem?_cons_zero, List.getElem?_cons_succ, onInts_ii, dAll_map, dAny_map, frz0, frzN, frzS, ifl5, ifl6, ifl7, er_dct0, w1, hT, w2]; rfl
  try simp only [List.set_cons_zero, List.set_cons_succ]
  refine wp_cut (I := fun ρ => ∃ (n : Int) (s3 : Option Cl), ρ = [some (.val (.int c)), some (.val (.lst (rs.map rdD))), some (.val (.int n)), s3]) ?_ ?_
  · by_cases h1 : (0 : Int) < ((rs.map rdD).length : Int)
    · by_cases h2 : 0 < c / 5 % 4
      · have hlen : 0 < (rs.map rdD).length := by omega
        obtain ⟨p1, y, hy, p2⟩ := pick_mod hlen (show 0 ≤ c / 20 by omega)
        obtain ⟨r, hr, rfl⟩ := List.mem_map.mp hy
        have i2 : dItm (rdD r) (.int 2) = .ok (lenD r.l) := rfl
        have i3 : dItm (rdD r) (.int 3) = .ok (.int r.w) := rfl
        simp only [rv0, rvS, lowR_vO, List.set_cons_zero, List.set_cons_succ, M.bind_ok, lowR_some, lowR_none, lowR_nil, lowC_val, lowC_own, lowC_anc, lowC_tr, er_dct, er_lst, er_sh, isPl_own, isPl_anc, isPl_tree, isPlS, shL_own, shL_anc, shL_tree, shLS, lstAt_own, lstAt_anc, lstAt_tree, lstAtS, dctAt_tree, dctAtS, updR_own, updR_anc, updR_tree, updRS, mapNx_ok, putT_nil, toCl_list, toCl_listP, toCl_dct, setT_sh, setT_lst, setT_tup, setT_dct, setT_ins, retT_sh, retT_lst, retT_tup, retT_dct, erM, shM, appM_own, appMS, insM_own, insMS, retC_val, retC_own, retC_ow, retCS, muC, muN, muSo, ifl0, ifl1, ifl2, ifl3, ifl4, toCl_nil, compR, compT, asB, asSh_l, optM_some, dEq_int, dNe_int, dAdd_int, dSub_int, dLt_int, dLe_int, dGt_int, dGe_int, asI_int, dLen_lst, dLen_tup, newL_lst, newL_tup, dSum_ints, isTyM_lst, isTyM_tup, isTyM_int, isTyM_non, isTyM_bl, isTyM_str, isTyM_dct, ty_ll, ty_tt, ty_ii, ty_ib, ty_dd, dMem_ints, ite_tt, ite_ff, Bool.not_true, Bool.not_false, List.getElem?_cons_zero, List.getElem?_cons_succ, onInts_ii, dAll_map, dAny_map, frz0, frzN, frzS, ifl5, ifl6, ifl7, er_dct0, w1, w3, decide_eq_true h1, decide_eq_true h2, if_true]
        apply wp_step
        · simp only [rv0, rvS, lowR_vO, List.set_cons_zero, List.set_cons_succ, M.bind_ok, lowR_some, lowR_none, lowR_nil, lowC_val, lowC_own, lowC_anc, lowC_tr, er_dct, er_lst, er_sh, isPl_own, isPl_anc, isPl_tree, isPlS, shL_own, shL_anc, shL_tree, shLS, lstAt_own, lstAt_anc, lstAt_tree, lstAtS, dctAt_tree, dctAtS, updR_own, updR_anc, updR_tree, updRS, mapNx_ok, putT_nil, toCl_list, toCl_listP, toCl_dct, setT_sh, setT_lst, setT_tup, setT_dct, setT_ins, retT_sh, retT_lst, retT_tup, retT_dct, erM, shM, appM_own, appMS, insM_own, insMS, retC_val, retC_own, retC_ow, retCS, muC, muN, muSo, ifl0, ifl1, ifl2, ifl3, ifl4, toCl_nil, compR, compT, asB, asSh_l, optM_some, dEq_int, dNe_int, dAdd_int, dSub_int, dLt_int, dLe_int, dGt_int, dGe_int, asI_int, dLen_lst, dLen_tup, newL_lst, newL_tup, dSum_ints, isTyM_lst, isTyM_tup, isTyM_int, isTyM_non, isTyM_bl, isTyM_str, isTyM_dct, ty_ll, ty_tt, ty_ii, ty_ib, ty_dd, dMem_ints, ite_tt, ite_ff, Bool.not_true, Bool.not_false, List.getElem?_cons_zero, List.getElem?_cons_succ, onInts_ii, dAll_map, dAny_map, frz0, frzN, frzS, ifl5, ifl6, ifl7, er_dct0, w4, p1, p2]; rfl
        apply wp_step
        · simp only [rv0, rvS, lowR_vO, List.set_cons_zero, List.set_cons_succ, M.bind_ok, lowR_some, lowR_none, lowR_nil, lowC_val, lowC_own, lowC_anc, lowC_tr, er_dct, er_lst, er_sh, isPl_own, isPl_anc, isPl_tree, isPlS, shL_own, shL_anc, shL_tree, shLS, lstAt_own, lstAt_anc, lstAt_tree, lstAtS, dctAt_tree, dctAtS, updR_own, updR_anc, updR_tree, updRS, mapNx_ok, putT_nil, toCl_list, toCl_listP, toCl_dct, setT_sh, setT_lst, setT_tup, setT_dct, setT_ins, retT_sh, retT_lst, retT_tup, retT_dct, erM, shM, appM_own, appMS, insM_own, insMS, retC_val, retC_own, retC_ow, retCS, muC, muN, muSo, ifl0, ifl1, ifl2, ifl3, ifl4, toCl_nil, compR, compT, asB, asSh_l, optM_some, dEq_int, dNe_int, dAdd_int, dSub_int, dLt_int, dLe_int, dGt_int, dGe_int, asI_int, dLen_lst, dLen_tup, newL_lst, newL_tup, dSum_ints, isTyM_lst, isTyM_tup, isTyM_int, isTyM_non, isTyM_bl, isTyM_str, isTyM_dct, ty_ll, ty_tt, ty_ii, ty_ib, ty_dd, dMem_ints, ite_tt, ite_ff, Bool.not_true, Bool.not_false, List.getElem?_cons_zero, List.getElem?_cons_succ, onInts_ii, dAll_map, dAny_map, frz0, frzN, frzS, ifl5, ifl6, ifl7, er_dct0, i3]; rfl
        try simp only [List.set_cons_zero, List.set_cons_succ]
        refine wp_cut (I := fun ρ => ∃ (n : Int), ρ = [some (.val (.int c)), some (.val (.lst (rs.map rdD))), some (.val (.int n)), some (.val (rdD r))]) ?_ ?_
        · obtain ⟨a, b, l, w⟩ := r
          by_cases h3 : c % 5 = 2
          · cases l with
            | none =>
              have i2' : dItm (rdD ⟨a, b, none, w⟩) (.int 2) = .ok .non := rfl
              refine wp_to (ρ' := _) (by simp only [rv0, rvS, lowR_vO, List.set_cons_zero, List.set_cons_succ, M.bind_ok, lowR_some, lowR_none, lowR_nil, lowC_val, lowC_own, lowC_anc, lowC_tr, er_dct, er_lst, er_sh, isPl_own, isPl_anc, isPl_tree, isPlS, shL_own, shL_anc, shL_tree, shLS, lstAt_own, lstAt_anc, lstAt_tree, lstAtS, dctAt_tree, dctAtS, updR_own, updR_anc, updR_tree, updRS, mapNx_ok, putT_nil, toCl_list, toCl_listP, toCl_dct, setT_sh, setT_lst, setT_tup, setT_dct, setT_ins, retT_sh, retT_lst, retT_tup, retT_dct, erM, shM, appM_own, appMS, insM_own, insMS, retC_val, retC_own, retC_ow, retCS, muC, muN, muSo, ifl0, ifl1, ifl2, ifl3, ifl4, toCl_nil, compR, compT, asB, asSh_l, optM_some, dEq_int, dNe_int, dAdd_int, dSub_int, dLt_int, dLe_int, dGt_int, dGe_int, asI_int, dLen_lst, dLen_tup, newL_lst, newL_tup, dSum_ints, isTyM_lst, isTyM_tup, isTyM_int, isTyM_non, isTyM_bl, isTyM_str, isTyM_dct, ty_ll, ty_tt, ty_ii, ty_ib, ty_dd, dMem_ints, ite_tt, ite_ff, Bool.not_true, Bool.not_false, List.getElem?_cons_zero, List.getElem?_cons_succ, onInts_ii, dAll_map, dAny_map, frz0, frzN, frzS, ifl5, ifl6, ifl7, er_dct0, w5, decide_eq_true h3, i2', isNonD]; rfl) ⟨_, rfl⟩
            | some l =>
              have i2' : dItm (rdD ⟨a, b, some l, w⟩) (.int 2) = .ok (.int l) := rfl
              refine wp_to (ρ' := _) (by simp only [rv0, rvS, lowR_vO, List.set_cons_zero, List.set_cons_succ, M.bind_ok, lowR_some, lowR_none, lowR_nil, lowC_val, lowC_own, lowC_anc, lowC_tr, er_dct, er_lst, er_sh, isPl_own, isPl_anc, isPl_tree, isPlS, shL_own, shL_anc, shL_tree, shLS, lstAt_own, lstAt_anc, lstAt_tree, lstAtS, dctAt_tree, dctAtS, updR_own, updR_anc, updR_tree, updRS, mapNx_ok, putT_nil, toCl_list, toCl_listP, toCl_dct, setT_sh, setT_lst, setT_tup, setT_dct, setT_ins, retT_sh, retT_lst, retT_tup, retT_dct, erM, shM, appM_own, appMS, insM_own, insMS, retC_val, retC_own, retC_ow, retCS, muC, muN, muSo, ifl0, ifl1, ifl2, ifl3, ifl4, toCl_nil, compR, compT, asB, asSh_l, optM_some, dEq_int, dNe_int, dAdd_int, dSub_int, dLt_int, dLe_int, dGt_int, dGe_int, asI_int, dLen_lst, dLen_tup, newL_lst, newL_tup, dSum_ints, isTyM_lst, isTyM_tup, isTyM_int, isTyM_non, isTyM_bl, isTyM_str, isTyM_dct, ty_ll, ty_tt, ty_ii, ty_ib, ty_dd, dMem_ints, ite_tt, ite_ff, Bool.not_true, Bool.not_false, List.getElem?_cons_zero, List.getElem?_cons_succ, onInts_ii, dAll_map, dAny_map, frz0, frzN, frzS, ifl5, ifl6, ifl7, er_dct0, w5, decide_eq_true h3, i2', isNonD]; rfl) ⟨_, rfl⟩
          · refine wp_to (ρ' := _) (by simp only [rv0, rvS, lowR_vO, List.set_cons_zero, List.set_cons_succ, M.bind_ok, lowR_some, lowR_none, lowR_nil, lowC_val, lowC_own, lowC_anc, lowC_tr, er_dct, er_lst, er_sh, isPl_own, isPl_anc, isPl_tree, isPlS, shL_own, shL_anc, shL_tree, shLS, lstAt_own, lstAt_anc, lstAt_tree, lstAtS, dctAt_tree, dctAtS, updR_own, updR_anc, updR_tree, updRS, mapNx_ok, putT_nil, toCl_list, toCl_listP, toCl_dct, setT_sh, setT_lst, setT_tup, setT_dct, setT_ins, retT_sh, retT_lst, retT_tup, retT_dct, erM, shM, appM_own, appMS, insM_own, insMS, retC_val, retC_own, retC_ow, retCS, muC, muN, muSo, ifl0, ifl1, ifl2, ifl3, ifl4, toCl_nil, compR, compT, asB, asSh_l, optM_some, dEq_int, dNe_int, dAdd_int, dSub_int, dLt_int, dLe_int, dGt_int, dGe_int, asI_int, dLen_lst, dLen_tup, newL_lst, newL_tup, dSum_ints, isTyM_lst, isTyM_tup, isTyM_int, isTyM_non, isTyM_bl, isTyM_str, isTyM_dct, ty_ll, ty_tt, ty_ii, ty_ib, ty_dd, dMem_ints, ite_tt, ite_ff, Bool.not_true, Bool.not_false, List.getElem?_cons_zero, List.getElem?_cons_succ, onInts_ii, dAll_map, dAny_map, frz0, frzN, frzS, ifl5, ifl6, ifl7, er_dct0, w5, decide_eq_false h3]; rfl) ⟨_, rfl⟩
        · rintro ρ ⟨n, rfl⟩
          refine wp_to (ρ' := _) (by simp only [rv0, rvS, lowR_vO, List.set_cons_zero, List.set_cons_succ, M.bind_ok, lowR_some, lowR_none, lowR_nil, lowC_val, lowC_own, lowC_anc, lowC_tr, er_dct, er_lst, er_sh, isPl_own, isPl_anc, isPl_tree, isPlS, shL_own, shL_anc, shL_tree, shLS, lstAt_own, lstAt_anc, lstAt_tree, lstAtS, dctAt_tree, dctAtS, updR_own, updR_anc, updR_tree, updRS, mapNx_ok, putT_nil, toCl_list, toCl_listP, toCl_dct, setT_sh, setT_lst, setT_tup, setT_dct, setT_ins, retT_sh, retT_lst, retT_tup, retT_dct, erM, shM, appM_own, appMS, insM_own, insMS, retC_val, retC_own, retC_ow, retCS, muC, muN, muSo, ifl0, ifl1, ifl2, ifl3, ifl4, toCl_nil, compR, compT, asB, asSh_l, optM_some, dEq_int, dNe_int, dAdd_int, dSub_int, dLt_int, dLe_int, dGt_int, dGe_int, asI_int, dLen_lst, dLen_tup, newL_lst, newL_tup, dSum_ints, isTyM_lst, isTyM_tup, isTyM_int, isTyM_non, isTyM_bl, isTyM_str, isTyM_dct, ty_ll, ty_tt, ty_ii, ty_ib, ty_dd, dMem_ints, ite_tt, ite_ff, Bool.not_true, Bool.not_false, List.getElem?_cons_zero, List.getElem?_cons_succ, onInts_ii, dAll_map, dAny_map, frz0, frzN, frzS, ifl5, ifl6, ifl7, er_dct0, w6, w7, dMax2]; rfl) ⟨_, _, rfl⟩
      · refine wp_to (ρ' := _) (by simp only [rv0, rvS, lowR_vO, List.set_cons_zero, List.set_cons_succ, M.bind_ok, lowR_some, lowR_none, lowR_nil, lowC_val, lowC_own, lowC_anc, lowC_tr, er_dct, er_lst, er_sh, isPl_own, isPl_anc, isPl_tree, isPlS, shL_own, shL_anc, shL_tree, shLS, lstAt_own, lstAt_anc, lstAt_tree, lstAtS, dctAt_tree, dctAtS, updR_own, updR_anc, updR_tree, updRS, mapNx_ok, putT_nil, toCl_list, toCl_listP, toCl_dct, setT_sh, setT_lst, setT_tup, setT_dct, setT_ins, retT_sh, retT_lst, retT_tup, retT_dct, erM, shM, appM_own, appMS, insM_own, insMS, retC_val, retC_own, retC_ow, retCS, muC, muN, muSo, ifl0, ifl1, ifl2, ifl3, ifl4, toCl_nil, compR, compT, asB, asSh_l, optM_some, dEq_int, dNe_int, dAdd_int, dSub_int, dLt_int, dLe_int, dGt_int, dGe_int, asI_int, dLen_lst, dLen_tup, newL_lst, newL_tup, dSum_ints, isTyM_lst, isTyM_tup, isTyM_int, isTyM_non, isTyM_bl, isTyM_str, isTyM_dct, ty_ll, ty_tt, ty_ii, ty_ib, ty_dd, dMem_ints, ite_tt, ite_ff, Bool.not_true, Bool.not_false, List.getElem?_cons_zero, List.getElem?_cons_succ, onInts_ii, dAll_map, dAny_map, frz0, frzN, frzS, ifl5, ifl6, ifl7, er_dct0, w1, w3, decide_eq_true h1, decide_eq_false h2]; rfl) ⟨_, _, rfl⟩
    · refine wp_to (ρ' := _) (by simp only [rv0, rvS, lowR_vO, List.set_cons_zero, List.set_cons_succ, M.bind_ok, lowR_some, lowR_none, lowR_nil, lowC_val, lowC_own, lowC_anc, lowC_tr, er_dct, er_lst, er_sh, isPl_own, isPl_anc, isPl_tree, isPlS, shL_own, shL_anc, shL_tree, shLS, lstAt_own, lstAt_anc, lstAt_tree, lstAtS, dctAt_tree, dctAtS, updR_own, updR_anc, updR_tree, updRS, mapNx_ok, putT_nil, toCl_list, toCl_listP, toCl_dct, setT_sh, setT_lst, setT_tup, setT_dct, setT_ins, retT_sh, retT_lst, retT_tup, retT_dct, erM, shM, appM_own, appMS, insM_own, insMS, retC_val, retC_own, retC_ow, retCS, muC, muN, muSo, ifl0, ifl1, ifl2, ifl3, ifl4, toCl_nil, compR, compT, asB, asSh_l, optM_some, dEq_int, dNe_int, dAdd_int, dSub_int, dLt_int, dLe_int, dGt_int, dGe_int, asI_int, dLen_lst, dLen_tup, newL_lst, newL_tup, dSum_ints, isTyM_lst, isTyM_tup, isTyM_int, isTyM_non, isTyM_bl, isTyM_str, isTyM_dct, ty_ll, ty_tt, ty_ii, ty_ib, ty_dd, dMem_ints, ite_tt, ite_ff, Bool.not_true, Bool.not_false, List.getElem?_cons_zero, List.getElem?_cons_succ, onInts_ii, dAll_map, dAny_map, frz0, frzN, frzS, ifl5, ifl6, ifl7, er_dct0, decide_eq_false h1]; rfl) ⟨_, _, rfl⟩
  rintro ρ ⟨n, s3, rfl⟩
  have hc5 : c % 5 = 0 ∨ c % 5 = 1 ∨ c % 5 = 2 ∨ c % 5 = 3 ∨ c % 5 = 4 := by omega
  rcases hc5 with h | h | h | h | h
  · simp only [rv0, rvS, lowR_vO, List.set_cons_zero, List.set_cons_succ, M.bind_ok, lowR_some, lowR_none, lowR_nil, lowC_val, lowC_own, lowC_anc, lowC_tr, er_dct, er_lst, er_sh, isPl_own, isPl_anc, isPl_tree, isPlS, shL_own, shL_anc, shL_tree, shLS, lstAt_own, lstAt_anc, lstAt_tree, lstAtS, dctAt_tree, dctAtS, updR_own, updR_anc, updR_tree, updRS, mapNx_ok, putT_nil, toCl_list, toCl_listP, toCl_dct, setT_sh, setT_lst, setT_tup, setT_dct, setT_ins, retT_sh, retT_lst, retT_tup, retT_dct, erM, shM, appM_own, appMS, insM_own, insMS, retC_val, retC_own, retC_ow, retCS, muC, muN, muSo, ifl0, ifl1, ifl2, ifl3, ifl4, toCl_nil, compR, compT, asB, asSh_l, optM_some, dEq_int, dNe_int, dAdd_int, dSub_int, dLt_int, dLe_int, dGt_int, dGe_int, asI_int, dLen_lst, dLen_tup, newL_lst, newL_tup, dSum_ints, isTyM_lst, isTyM_tup, isTyM_int, isTyM_non, isTyM_bl, isTyM_str, isTyM_dct, ty_ll, ty_tt, ty_ii, ty_ib, ty_dd, dMem_ints, ite_tt, ite_ff, Bool.not_true, Bool.not_false, List.getElem?_cons_zero, List.getElem?_cons_succ, onInts_ii, dAll_map, dAny_map, frz0, frzN, frzS, ifl5, ifl6, ifl7, er_dct0, w5, h]; exact ⟨.plain, rfl, rfl⟩
  · simp only [rv0, rvS, lowR_vO, List.set_cons_zero, List.set_cons_succ, M.bind_ok, lowR_some, lowR_none, lowR_nil, lowC_val, lowC_own, lowC_anc, lowC_tr, er_dct, er_lst, er_sh, isPl_own, isPl_anc, isPl_tree, isPlS, shL_own, shL_anc, shL_tree, shLS, lstAt_own, lstAt_anc, lstAt_tree, lstAtS, dctAt_tree, dctAtS, updR_own, updR_anc, updR_tree, updRS, mapNx_ok, putT_nil, toCl_list, toCl_listP, toCl_dct, setT_sh, setT_lst, setT_tup, setT_dct, setT_ins, retT_sh, retT_lst, retT_tup, retT_dct, erM, shM, appM_own, appMS, insM_own, insMS, retC_val, retC_own, retC_ow, retCS, muC, muN, muSo, ifl0, ifl1, ifl2, ifl3, ifl4, toCl_nil, compR, compT, asB, asSh_l, optM_some, dEq_int, dNe_int, dAdd_int, dSub_int, dLt_int, dLe_int, dGt_int, dGe_int, asI_int, dLen_lst, dLen_tup, newL_lst, newL_tup, dSum_ints, isTyM_lst, isTyM_tup, isTyM_int, isTyM_non, isTyM_bl, isTyM_str, isTyM_dct, ty_ll, ty_tt, ty_ii, ty_ib, ty_dd, dMem_ints, ite_tt, ite_ff, Bool.not_true, Bool.not_false, List.getElem?_cons_zero, List.getElem?_cons_succ, onInts_ii, dAll_map, dAny_map, frz0, frzN, frzS, ifl5, ifl6, ifl7, er_dct0, w5, h]; exact ⟨.wide n, rfl, rfl⟩
  · simp only [rv0, rvS, lowR_vO, List.set_cons_zero, List.set_cons_succ, M.bind_ok, lowR_some, lowR_none, lowR_nil, lowC_val, lowC_own, lowC_anc, lowC_tr, er_dct, er_lst, er_sh, isPl_own, isPl_anc, isPl_tree, isPlS, shL_own, shL_anc, shL_tree, shLS, lstAt_own, lstAt_anc, lstAt_tree, lstAtS, dctAt_tree, dctAtS, updR_own, updR_anc, updR_tree, updRS, mapNx_ok, putT_nil, toCl_list, toCl_listP, toCl_dct, setT_sh, setT_lst, setT_tup, setT_dct, setT_ins, retT_sh, retT_lst, retT_tup, retT_dct, erM, shM, appM_own, appMS, insM_own, insMS, retC_val, retC_own, retC_ow, retCS, muC, muN, muSo, ifl0, ifl1, ifl2, ifl3, ifl4, toCl_nil, compR, compT, asB, asSh_l, optM_some, dEq_int, dNe_int, dAdd_int, dSub_int, dLt_int, dLe_int, dGt_int, dGe_int, asI_int, dLen_lst, dLen_tup, newL_lst, newL_tup, dSum_ints, isTyM_lst, isTyM_tup, isTyM_int, isTyM_non, isTyM_bl, isTyM_str, isTyM_dct, ty_ll, ty_tt, ty_ii, ty_ib, ty_dd, dMem_ints, ite_tt, ite_ff, Bool.not_true, Bool.not_false, List.getElem?_cons_zero, List.getElem?_cons_succ, onInts_ii, dAll_map, dAny_map, frz0, frzN, frzS, ifl5, ifl6, ifl7, er_dct0, w5, h]; exact ⟨.short n, rfl, rfl⟩
  · simp only [rv0, rvS, lowR_vO, List.set_cons_zero, List.set_cons_succ, M.bind_ok, lowR_some, lowR_none, lowR_nil, lowC_val, lowC_own, lowC_anc, lowC_tr, er_dct, er_lst, er_sh, isPl_own, isPl_anc, isPl_tree, isPlS, shL_own, shL_anc, shL_tree, shLS, lstAt_own, lstAt_anc, lstAt_tree, lstAtS, dctAt_tree, dctAtS, updR_own, updR_anc, updR_tree, updRS, mapNx_ok, putT_nil, toCl_list, toCl_listP, toCl_dct, setT_sh, setT_lst, setT_tup, setT_dct, setT_ins, retT_sh, retT_lst, retT_tup, retT_dct, erM, shM, appM_own, appMS, insM_own, insMS, retC_val, retC_own, retC_ow, retCS, muC, muN, muSo, ifl0, ifl1, ifl2, ifl3, ifl4, toCl_nil, compR, compT, asB, asSh_l, optM_some, dEq_int, dNe_int, dAdd_int, dSub_int, dLt_int, dLe_int, dGt_int, dGe_int, asI_int, dLen_lst, dLen_tup, newL_lst, newL_tup, dSum_ints, isTyM_lst, isTyM_tup, isTyM_int, isTyM_non, isTyM_bl, isTyM_str, isTyM_dct, ty_ll, ty_tt, ty_ii, ty_ib, ty_dd, dMem_ints, ite_tt, ite_ff, Bool.not_true, Bool.not_false, List.getElem?_cons_zero, List.getElem?_cons_succ, onInts_ii, dAll_map, dAny_map, frz0, frzN, frzS, ifl5, ifl6, ifl7, er_dct0, w5, h]; exact ⟨.even, rfl, rfl⟩
  · simp only [rv0, rvS, lowR_vO, List.set_cons_zero, List.set_cons_succ, M.bind_ok, lowR_some, lowR_none, lowR_nil, lowC_val, lowC_own, lowC_anc, lowC_tr, er_dct, er_lst, er_sh, isPl_own, isPl_anc, isPl_tree, isPlS, shL_own, shL_anc, shL_tree, shLS, lstAt_own, lstAt_anc, lstAt_tree, lstAtS, dctAt_tree, dctAtS, updR_own, updR_anc, updR_tree, updRS, mapNx_ok, putT_nil, toCl_list, toCl_listP, toCl_dct, setT_sh, setT_lst, setT_tup, setT_dct, setT_ins, retT_sh, retT_lst, retT_tup, retT_dct, erM, shM, appM_own, appMS, insM_own, insMS, retC_val, retC_own, retC_ow, retCS, muC, muN, muSo, ifl0, ifl1, ifl2, ifl3, ifl4, toCl_nil, compR, compT, asB, asSh_l, optM_some, dEq_int, dNe_int, dAdd_int, dSub_int, dLt_int, dLe_int, dGt_int, dGe_int, asI_int, dLen_lst, dLen_tup, newL_lst, newL_tup, dSum_ints, isTyM_lst, isTyM_tup, isTyM_int, isTyM_non, isTyM_bl, isTyM_str, isTyM_dct, ty_ll, ty_tt, ty_ii, ty_ib, ty_dd, dMem_ints, ite_tt, ite_ff, Bool.not_true, Bool.not_false, List.getElem?_cons_zero, List.getElem?_cons_succ, onInts_ii, dAll_map, dAny_map, frz0, frzN, frzS, ifl5, ifl6, ifl7, er_dct0, w5, h]; exact ⟨.plain, rfl, rfl⟩
noncomputable def law_oneF : List D → M OT := Classical.choose ex_law_one
theorem law_one_at {P : Program} {w : World} {K : PySem.W.Frag} {mg : Str → Option Value} {base : Heap} : Txt K mg → FnT P w K mg base "_law_one" 1 2 law_oneF := (Classical.choose_spec ex_law_one).1
theorem law_one_eq : ∀ (rs : List Road) (c : Int), 0 ≤ c → ∃ m : Mo, moDep m = 0 ∧ law_oneF [.int c, .lst (rs.map rdD)] = .ok (.sh (moD m)) := (Classical.choose_spec ex_law_one).2
theorem ex_law_traveller1 : ∃ F : List D → M OT, (∀ {P : Program} {w : World} {K : PySem.W.Frag} {mg : Str → Option Value} {base : Heap}, Txt K mg → FnT P w K mg base "_law_traveller" 2 3 F) ∧ (∀ (c : Int) (rs : List Road) (d : Nat), 0 ≤ c → c.natAbs < 2 ^ 250 → d < 1 → ∃ m : Mo, moDep m ≤ d ∧ F [.int c, .lst (rs.map rdD), .int d] = .ok (.sh (moD m))) := by
  refine ⟨_, fun T => fnT_of (k := 1) T.f_law_traveller sc_law_traveller _ (fun f cdv A outer s H E hr => (dss_cons (ds_if (DW.dt (dw_or (dt_eq (c := true) (huR hr 16 (by decide)) (de_var 2 (pv 2)) de_int) (dw_or1 (dt_eq (c := true) (huR hr 16 (by decide)) (de_mod (de_var 0 (pv 0)) de_int) de_int)))) (dss_one (ds_retT (dn_call xok_def.toXCall (law_one_at T) (hr.mono (by decide)) rfl (da_cons (de_fdiv (de_var 0 (pv 0)) de_int) (da_cons (de_var 1 (pv 1)) da_nil)) rfl))) dss_nil) (dss_cons (ds_set 3 sc_law_traveller.nd rfl (Or.inl rfl) (de_dn (dn_call xok_def.toXCall (fnT_bad T.f_law_traveller) (hr.mono (by decide)) rfl (da_cons (de_mod (de_mulW (de_var 0 (pv 0)) de_int) (de_add (de_pow de_int de_int) de_int)) (da_cons (de_var 1 (pv 1)) (da_cons (de_sub (de_var 2 (pv 2)) de_int) da_nil))) rfl))) (dss_one (ds_retT (dn_sh (de_tup (da_cons de_str (da_cons (de_var 3 (pv 3)) (da_cons (de_dn (dn_call xok_def.toXCall (fnT_bad T.f_law_traveller) (hr.mono (by decide)) rfl (da_cons (de_mod (de_mulW (de_var 0 (pv 0)) de_int) (de_add (de_pow de_int de_int) de_int)) (da_cons (de_var 1 (pv 1)) (da_cons (de_sub (de_var 2 (pv 2)) de_int) da_nil))) rfl)) da_nil)))))))))), ?_⟩
  intro c rs d hc hb hd
  have e0 : stRho ["_law_cell", "_law_roads", "_law_deep", "_law_first"] [.int c, .lst (rs.map rdD), .int d] = [some (.val (.int c)), some (.val (.lst (rs.map rdD))), some (.val (.int d)), none] := rfl
  rw [e0]
  have w1 : dMod (.int c) (.int 3) = .ok (.int (c % 3)) := dMod_pos (by decide)
  have w2 : dFdiv (.int c) (.int 3) = .ok (.int (c / 3)) := dFdiv_lit ⟨by decide, by decide⟩
  obtain ⟨m0, q0, eo⟩ := law_one_eq rs (c / 3) (by omega)
  by_cases hd0 : (d : Int) = 0
  · refine ⟨m0, by omega, ft_eq ?_⟩
    simp only [rv0, rvS, lowR_vO, List.set_cons_zero, List.set_cons_succ, M.bind_ok, lowR_some, lowR_none, lowR_nil, lowC_val, lowC_own, lowC_anc, lowC_tr, er_dct, er_lst, er_sh, isPl_own, isPl_anc, isPl_tree, isPlS, shL_own, shL_anc, shL_tree, shLS, lstAt_own, lstAt_anc, lstAt_tree, lstAtS, dctAt_tree, dctAtS, updR_own, updR_anc, updR_tree, updRS, mapNx_ok, putT_nil, toCl_list, toCl_listP, toCl_dct, setT_sh, setT_lst, setT_tup, setT_dct, setT_ins, retT_sh, retT_lst, retT_tup, retT_dct, erM, shM, appM_own, appMS, insM_own, insMS, retC_val, retC_own, retC_ow, retCS, muC, muN, muSo, ifl0, ifl1, ifl2, ifl3, ifl4, toCl_nil, compR, compT, asB, asSh_l, optM_some, dEq_int, dNe_int, dAdd_int, dSub_int, dLt_int, dLe_int, dGt_int, dGe_int, asI_int, dLen_lst, dLen_tup, newL_lst, newL_tup, dSum_ints, isTyM_lst, isTyM_tup, isTyM_int, isTyM_non, isTyM_bl, isTyM_str, isTyM_dct, ty_ll, ty_tt, ty_ii, ty_ib, ty_dd, dMem_ints, ite_tt, ite_ff, Bool.not_true, Bool.not_false, List.getElem?_cons_zero, List.getElem?_cons_succ, onInts_ii, dAll_map, dAny_map, frz0, frzN, frzS, ifl5, ifl6, ifl7, er_dct0, decide_eq_true hd0, w2, eo]; rfl
  by_cases hc0 : c % 3 = 0
  · refine ⟨m0, by omega, ft_eq ?_⟩
    simp only [rv0, rvS, lowR_vO, List.set_cons_zero, List.set_cons_succ, M.bind_ok, lowR_some, lowR_none, lowR_nil, lowC_val, lowC_own, lowC_anc, lowC_tr, er_dct, er_lst, er_sh, isPl_own, isPl_anc, isPl_tree, isPlS, shL_own, shL_anc, shL_tree, shLS, lstAt_own, lstAt_anc, lstAt_tree, lstAtS, dctAt_tree, dctAtS, updR_own, updR_anc, updR_tree, updRS, mapNx_ok, putT_nil, toCl_list, toCl_listP, toCl_dct, setT_sh, setT_lst, setT_tup, setT_dct, setT_ins, retT_sh, retT_lst, retT_tup, retT_dct, erM, shM, appM_own, appMS, insM_own, insMS, retC_val, retC_own, retC_ow, retCS, muC, muN, muSo, ifl0, ifl1, ifl2, ifl3, ifl4, toCl_nil, compR, compT, asB, asSh_l, optM_some, dEq_int, dNe_int, dAdd_int, dSub_int, dLt_int, dLe_int, dGt_int, dGe_int, asI_int, dLen_lst, dLen_tup, newL_lst, newL_tup, dSum_ints, isTyM_lst, isTyM_tup, isTyM_int, isTyM_non, isTyM_bl, isTyM_str, isTyM_dct, ty_ll, ty_tt, ty_ii, ty_ib, ty_dd, dMem_ints, ite_tt, ite_ff, Bool.not_true, Bool.not_false, List.getElem?_cons_zero, List.getElem?_cons_succ, onInts_ii, dAll_map, dAny_map, frz0, frzN, frzS, ifl5, ifl6, ifl7, er_dct0, decide_eq_false hd0, w1, decide_eq_true hc0, w2, eo]; rfl
  exact (by omega : False).elim
noncomputable def law_traveller1F : List D → M OT := Classical.choose ex_law_traveller1
theorem law_traveller1_at {P : Program} {w : World} {K : PySem.W.Frag} {mg : Str → Option Value} {base : Heap} : Txt K mg → FnT P w K mg base "_law_traveller" 2 3 law_traveller1F := (Classical.choose_spec ex_law_traveller1).1
theorem law_traveller1_eq : ∀ (c : Int) (rs : List Road) (d : Nat), 0 ≤ c → c.natAbs < 2 ^ 250 → d < 1 → ∃ m : Mo, moDep m ≤ d ∧ law_traveller1F [.int c, .lst (rs.map rdD), .int d] = .ok (.sh (moD m)) := (Classical.choose_spec ex_law_traveller1).2
theorem ex_law_traveller2 : ∃ F : List D → M OT, (∀ {P : Program} {w : World} {K : PySem.W.Frag} {mg : Str → Option Value} {base : Heap}, Txt K mg → FnT P w K mg base "_law_traveller" 3 3 F) ∧ (∀ (c : Int) (rs : List Road) (d : Nat), 0 ≤ c → c.natAbs < 2 ^ 250 → d < 2 → ∃ m : Mo, moDep m ≤ d ∧ F [.int c, .lst (rs.map rdD), .int d] = .ok (.sh (moD m))) := by
  refine ⟨_, fun T => fnT_of (k := 2) T.f_law_traveller sc_law_traveller _ (fun f cdv A outer s H E hr => (dss_cons (ds_if (DW.dt (dw_or (dt_eq (c := true) (huR hr 16 (by decide)) (de_var 2 (pv 2)) de_int) (dw_or1 (dt_eq (c := true) (huR hr 16 (by decide)) (de_mod (de_var 0 (pv 0)) de_int) de_int)))) (dss_one (ds_retT (dn_call xok_def.toXCall (law_one_at T) (hr.mono (by decide)) rfl (da_cons (de_fdiv (de_var 0 (pv 0)) de_int) (da_cons (de_var 1 (pv 1)) da_nil)) rfl))) dss_nil) (dss_cons (ds_set 3 sc_law_traveller.nd rfl (Or.inl rfl) (de_dn (dn_call xok_def.toXCall (law_traveller1_at T) (hr.mono (by decide)) rfl (da_cons (de_mod (de_mulW (de_var 0 (pv 0)) de_int) (de_add (de_pow de_int de_int) de_int)) (da_cons (de_var 1 (pv 1)) (da_cons (de_sub (de_var 2 (pv 2)) de_int) da_nil))) rfl))) (dss_one (ds_retT (dn_sh (de_tup (da_cons de_str (da_cons (de_var 3 (pv 3)) (da_cons (de_dn (dn_call xok_def.toXCall (law_traveller1_at T) (hr.mono (by decide)) rfl (da_cons (de_mod (de_mulW (de_var 0 (pv 0)) de_int) (de_add (de_pow de_int de_int) de_int)) (da_cons (de_var 1 (pv 1)) (da_cons (de_sub (de_var 2 (pv 2)) de_int) da_nil))) rfl)) da_nil)))))))))), ?_⟩
  intro c rs d hc hb hd
  have e0 : stRho ["_law_cell", "_law_roads", "_law_deep", "_law_first"] [.int c, .lst (rs.map rdD), .int d] = [some (.val (.int c)), some (.val (.lst (rs.map rdD))), some (.val (.int d)), none] := rfl
  rw [e0]
  have w1 : dMod (.int c) (.int 3) = .ok (.int (c % 3)) := dMod_pos (by decide)
  have w2 : dFdiv (.int c) (.int 3) = .ok (.int (c / 3)) := dFdiv_lit ⟨by decide, by decide⟩
  obtain ⟨m0, q0, eo⟩ := law_one_eq rs (c / 3) (by omega)
  by_cases hd0 : (d : Int) = 0
  · refine ⟨m0, by omega, ft_eq ?_⟩
    simp only [rv0, rvS, lowR_vO, List.set_cons_zero, List.set_cons_succ, M.bind_ok, lowR_some, lowR_none, lowR_nil, lowC_val, lowC_own, lowC_anc, lowC_tr, er_dct, er_lst, er_sh, isPl_own, isPl_anc, isPl_tree, isPlS, shL_own, shL_anc, shL_tree, shLS, lstAt_own, lstAt_anc, lstAt_tree, lstAtS, dctAt_tree, dctAtS, updR_own, updR_anc, updR_tree, updRS, mapNx_ok, putT_nil, toCl_list, toCl_listP, toCl_dct, setT_sh, setT_lst, setT_tup, setT_dct, setT_ins, retT_sh, retT_lst, retT_tup, retT_dct, erM, shM, appM_own, appMS, insM_own, insMS, retC_val, retC_own, retC_ow, retCS, muC, muN, muSo, ifl0, ifl1, ifl2, ifl3, ifl4, toCl_nil, compR, compT, asB, asSh_l, optM_some, dEq_int, dNe_int, dAdd_int, dSub_int, dLt_int, dLe_int, dGt_int, dGe_int, asI_int, dLen_lst, dLen_tup, newL_lst, newL_tup, dSum_ints, isTyM_lst, isTyM_tup, isTyM_int, isTyM_non, isTyM_bl, isTyM_str, isTyM_dct, ty_ll, ty_tt, ty_ii, ty_ib, ty_dd, dMem_ints, ite_tt, ite_ff, Bool.not_true, Bool.not_false, List.getElem?_cons_zero, List.getElem?_cons_succ, onInts_ii, dAll_map, dAny_map, frz0, frzN, frzS, ifl5, ifl6, ifl7, er_dct0, decide_eq_true hd0, w2, eo]; rfl
  by_cases hc0 : c % 3 = 0
  · refine ⟨m0, by omega, ft_eq ?_⟩
    simp only [rv0, rvS, lowR_vO, List.set_cons_zero, List.set_cons_succ, M.bind_ok, lowR_some, lowR_none, lowR_nil, lowC_val, lowC_own, lowC_anc, lowC_tr, er_dct, er_lst, er_sh, isPl_own, isPl_anc, isPl_tree, isPlS, shL_own, shL_anc, shL_tree, shLS, lstAt_own, lstAt_anc, lstAt_tree, lstAtS, dctAt_tree, dctAtS, updR_own, updR_anc, updR_tree, updRS, mapNx_ok, putT_nil, toCl_list, toCl_listP, toCl_dct, setT_sh, setT_lst, setT_tup, setT_dct, setT_ins, retT_sh, retT_lst, retT_tup, retT_dct, erM, shM, appM_own, appMS, insM_own, insMS, retC_val, retC_own, retC_ow, retCS, muC, muN, muSo, ifl0, ifl1, ifl2, ifl3, ifl4, toCl_nil, compR, compT, asB, asSh_l, optM_some, dEq_int, dNe_int, dAdd_int, dSub_int, dLt_int, dLe_int, dGt_int, dGe_int, asI_int, dLen_lst, dLen_tup, newL_lst, newL_tup, dSum_ints, isTyM_lst, isTyM_tup, isTyM_int, isTyM_non, isTyM_bl, isTyM_str, isTyM_dct, ty_ll, ty_tt, ty_ii, ty_ib, ty_dd, dMem_ints, ite_tt, ite_ff, Bool.not_true, Bool.not_false, List.getElem?_cons_zero, List.getElem?_cons_succ, onInts_ii, dAll_map, dAny_map, frz0, frzN, frzS, ifl5, ifl6, ifl7, er_dct0, decide_eq_false hd0, w1, decide_eq_true hc0, w2, eo]; rfl
  obtain ⟨X, hX0, hX1, hX⟩ : ∃ X : Int, 0 < X ∧ X.natAbs < 2 ^ 200 ∧ dPow (.int 10) (.int 50) = .ok (.int X) := ⟨10 ^ 50, by decide, by decide, rfl⟩
  have w3 : dMulW (.int c) (.int 48271) = .ok (.int (c * 48271)) := mul_big hb (by decide) (by decide : (48271 : Int).natAbs < 2 ^ 17) (by decide)
  have w4 : dMulW (.int c) (.int 69621) = .ok (.int (c * 69621)) := mul_big hb (by decide) (by decide : (69621 : Int).natAbs < 2 ^ 17) (by decide)
  have w5 : dMod (.int (c * 48271)) (.int (X + 151)) = .ok (.int (c * 48271 % (X + 151))) := dMod_pos (by omega)
  have w6 : dMod (.int (c * 69621)) (.int (X + 151)) = .ok (.int (c * 69621 % (X + 151))) := dMod_pos (by omega)
  have bX : ∀ z : Int, (z % (X + 151)).natAbs < 2 ^ 250 := fun z => by
    have h1 : 0 ≤ z % (X + 151) := Int.emod_nonneg _ (by omega)
    have h2 : z % (X + 151) < X + 151 := Int.emod_lt_of_pos _ (by omega)
    have h3 : (2 : Nat) ^ 200 + 151 < 2 ^ 250 := by decide
    omega
  obtain ⟨m1, q1, e1⟩ := law_traveller1_eq (c * 48271 % (X + 151)) rs (d - 1) (Int.emod_nonneg _ (by omega)) (bX _) (by omega)
  obtain ⟨m2, q2, e2⟩ := law_traveller1_eq (c * 69621 % (X + 151)) rs (d - 1) (Int.emod_nonneg _ (by omega)) (bX _) (by omega)
  have ed : (d : Int) - 1 = ((d - 1 : Nat) : Int) := by omega
  refine ⟨.pair m1 m2, by simp only [moDep]; omega, ft_eq ?_⟩
  apply wp_step
  · simp only [rv0, rvS, lowR_vO, List.set_cons_zero, List.set_cons_succ, M.bind_ok, lowR_some, lowR_none, lowR_nil, lowC_val, lowC_own, lowC_anc, lowC_tr, er_dct, er_lst, er_sh, isPl_own, isPl_anc, isPl_tree, isPlS, shL_own, shL_anc, shL_tree, shLS, lstAt_own, lstAt_anc, lstAt_tree, lstAtS, dctAt_tree, dctAtS, updR_own, updR_anc, updR_tree, updRS, mapNx_ok, putT_nil, toCl_list, toCl_listP, toCl_dct, setT_sh, setT_lst, setT_tup, setT_dct, setT_ins, retT_sh, retT_lst, retT_tup, retT_dct, erM, shM, appM_own, appMS, insM_own, insMS, retC_val, retC_own, retC_ow, retCS, muC, muN, muSo, ifl0, ifl1, ifl2, ifl3, ifl4, toCl_nil, compR, compT, asB, asSh_l, optM_some, dEq_int, dNe_int, dAdd_int, dSub_int, dLt_int, dLe_int, dGt_int, dGe_int, asI_int, dLen_lst, dLen_tup, newL_lst, newL_tup, dSum_ints, isTyM_lst, isTyM_tup, isTyM_int, isTyM_non, isTyM_bl, isTyM_str, isTyM_dct, ty_ll, ty_tt, ty_ii, ty_ib, ty_dd, dMem_ints, ite_tt, ite_ff, Bool.not_true, Bool.not_false, List.getElem?_cons_zero, List.getElem?_cons_succ, onInts_ii, dAll_map, dAny_map, frz0, frzN, frzS, ifl5, ifl6, ifl7, er_dct0, w1, decide_eq_false hd0, decide_eq_false hc0]; rfl
  apply wp_step
  · simp only [rv0, rvS, lowR_vO, List.set_cons_zero, List.set_cons_succ, M.bind_ok, lowR_some, lowR_none, lowR_nil, lowC_val, lowC_own, lowC_anc, lowC_tr, er_dct, er_lst, er_sh, isPl_own, isPl_anc, isPl_tree, isPlS, shL_own, shL_anc, shL_tree, shLS, lstAt_own, lstAt_anc, lstAt_tree, lstAtS, dctAt_tree, dctAtS, updR_own, updR_anc, updR_tree, updRS, mapNx_ok, putT_nil, toCl_list, toCl_listP, toCl_dct, setT_sh, setT_lst, setT_tup, setT_dct, setT_ins, retT_sh, retT_lst, retT_tup, retT_dct, erM, shM, appM_own, appMS, insM_own, insMS, retC_val, retC_own, retC_ow, retCS, muC, muN, muSo, ifl0, ifl1, ifl2, ifl3, ifl4, toCl_nil, compR, compT, asB, asSh_l, optM_some, dEq_int, dNe_int, dAdd_int, dSub_int, dLt_int, dLe_int, dGt_int, dGe_int, asI_int, dLen_lst, dLen_tup, newL_lst, newL_tup, dSum_ints, isTyM_lst, isTyM_tup, isTyM_int, isTyM_non, isTyM_bl, isTyM_str, isTyM_dct, ty_ll, ty_tt, ty_ii, ty_ib, ty_dd, dMem_ints, ite_tt, ite_ff, Bool.not_true, Bool.not_false, List.getElem?_cons_zero, List.getElem?_cons_succ, onInts_ii, dAll_map, dAny_map, frz0, frzN, frzS, ifl5, ifl6, ifl7, er_dct0, hX, w3, w5, ed, e1]; rfl
  simp only [rv0, rvS, lowR_vO, List.set_cons_zero, List.set_cons_succ, M.bind_ok, lowR_some, lowR_none, lowR_nil, lowC_val, lowC_own, lowC_anc, lowC_tr, er_dct, er_lst, er_sh, isPl_own, isPl_anc, isPl_tree, isPlS, shL_own, shL_anc, shL_tree, shLS, lstAt_own, lstAt_anc, lstAt_tree, lstAtS, dctAt_tree, dctAtS, updR_own, updR_anc, updR_tree, updRS, mapNx_ok, putT_nil, toCl_list, toCl_listP, toCl_dct, setT_sh, setT_lst, setT_tup, setT_dct, setT_ins, retT_sh, retT_lst, retT_tup, retT_dct, erM, shM, appM_own, appMS, insM_own, insMS, retC_val, retC_own, retC_ow, retCS, muC, muN, muSo, ifl0, ifl1, ifl2, ifl3, ifl4, toCl_nil, compR, compT, asB, asSh_l, optM_some, dEq_int, dNe_int, dAdd_int, dSub_int, dLt_int, dLe_int, dGt_int, dGe_int, asI_int, dLen_lst, dLen_tup, newL_lst, newL_tup, dSum_ints, isTyM_lst, isTyM_tup, isTyM_int, isTyM_non, isTyM_bl, isTyM_str, isTyM_dct, ty_ll, ty_tt, ty_ii, ty_ib, ty_dd, dMem_ints, ite_tt, ite_ff, Bool.not_true, Bool.not_false, List.getElem?_cons_zero, List.getElem?_cons_succ, onInts_ii, dAll_map, dAny_map, frz0, frzN, frzS, ifl5, ifl6, ifl7, er_dct0, hX, w4, w6, ed, e2]
  rfl
noncomputable def law_traveller2F : List D → M OT := Classical.choose ex_law_traveller2
theorem law_traveller2_at {P : Program} {w : World} {K : PySem.W.Frag} {mg : Str → Option Value} {base : Heap} : Txt K mg → FnT P w K mg base "_law_traveller" 3 3 law_traveller2F := (Classical.choose_spec ex_law_traveller2).1
theorem law_traveller2_eq : ∀ (c : Int) (rs : List Road) (d : Nat), 0 ≤ c → c.natAbs < 2 ^ 250 → d < 2 → ∃ m : Mo, moDep m ≤ d ∧ law_traveller2F [.int c, .lst (rs.map rdD), .int d] = .ok (.sh (moD m)) := (Classical.choose_spec ex_law_traveller2).2
theorem ex_law_traveller3 : ∃ F : List D → M OT, (∀ {P : Program} {w : World} {K : PySem.W.Frag} {mg : Str → Option Value} {base : Heap}, Txt K mg → FnT P w K mg base "_law_traveller" 4 3 F) ∧ (∀ (c : Int) (rs : List Road) (d : Nat), 0 ≤ c → c.natAbs < 2 ^ 250 → d < 3 → ∃ m : Mo, moDep m ≤ d ∧ F [.int c, .lst (rs.map rdD), .int d] = .ok (.sh (moD m))) := by
  refine ⟨_, fun T => fnT_of (k := 3) T.f_law_traveller sc_law_traveller _ (fun f cdv A outer s H E hr => (dss_cons (ds_if (DW.dt (dw_or (dt_eq (c := true) (huR hr 16 (by decide)) (de_var 2 (pv 2)) de_int) (dw_or1 (dt_eq (c := true) (huR hr 16 (by decide)) (de_mod (de_var 0 (pv 0)) de_int) de_int)))) (dss_one (ds_retT (dn_call xok_def.toXCall (law_one_at T) (hr.mono (by decide)) rfl (da_cons (de_fdiv (de_var 0 (pv 0)) de_int) (da_cons (de_var 1 (pv 1)) da_nil)) rfl))) dss_nil) (dss_cons (ds_set 3 sc_law_traveller.nd rfl (Or.inl rfl) (de_dn (dn_call xok_def.toXCall (law_traveller2_at T) (hr.mono (by decide)) rfl (da_cons (de_mod (de_mulW (de_var 0 (pv 0)) de_int) (de_add (de_pow de_int de_int) de_int)) (da_cons (de_var 1 (pv 1)) (da_cons (de_sub (de_var 2 (pv 2)) de_int) da_nil))) rfl))) (dss_one (ds_retT (dn_sh (de_tup (da_cons de_str (da_cons (de_var 3 (pv 3)) (da_cons (de_dn (dn_call xok_def.toXCall (law_traveller2_at T) (hr.mono (by decide)) rfl (da_cons (de_mod (de_mulW (de_var 0 (pv 0)) de_int) (de_add (de_pow de_int de_int) de_int)) (da_cons (de_var 1 (pv 1)) (da_cons (de_sub (de_var 2 (pv 2)) de_int) da_nil))) rfl)) da_nil)))))))))), ?_⟩
  intro c rs d hc hb hd
  have e0 : stRho ["_law_cell", "_law_roads", "_law_deep", "_law_first"] [.int c, .lst (rs.map rdD), .int d] = [some (.val (.int c)), some (.val (.lst (rs.map rdD))), some (.val (.int d)), none] := rfl
  rw [e0]
  have w1 : dMod (.int c) (.int 3) = .ok (.int (c % 3)) := dMod_pos (by decide)
  have w2 : dFdiv (.int c) (.int 3) = .ok (.int (c / 3)) := dFdiv_lit ⟨by decide, by decide⟩
  obtain ⟨m0, q0, eo⟩ := law_one_eq rs (c / 3) (by omega)
  by_cases hd0 : (d : Int) = 0
  · refine ⟨m0, by omega, ft_eq ?_⟩
    simp only [rv0, rvS, lowR_vO, List.set_cons_zero, List.set_cons_succ, M.bind_ok, lowR_some, lowR_none, lowR_nil, lowC_val, lowC_own, lowC_anc, lowC_tr, er_dct, er_lst, er_sh, isPl_own, isPl_anc, isPl_tree, isPlS, shL_own, shL_anc, shL_tree, shLS, lstAt_own, lstAt_anc, lstAt_tree, lstAtS, dctAt_tree, dctAtS, updR_own, updR_anc, updR_tree, updRS, mapNx_ok, putT_nil, toCl_list, toCl_listP, toCl_dct, setT_sh, setT_lst, setT_tup, setT_dct, setT_ins, retT_sh, retT_lst, retT_tup, retT_dct, erM, shM, appM_own, appMS, insM_own, insMS, retC_val, retC_own, retC_ow, retCS, muC, muN, muSo, ifl0, ifl1, ifl2, ifl3, ifl4, toCl_nil, compR, compT, asB, asSh_l, optM_some, dEq_int, dNe_int, dAdd_int, dSub_int, dLt_int, dLe_int, dGt_int, dGe_int, asI_int, dLen_lst, dLen_tup, newL_lst, newL_tup, dSum_ints, isTyM_lst, isTyM_tup, isTyM_int, isTyM_non, isTyM_bl, isTyM_str, isTyM_dct, ty_ll, ty_tt, ty_ii, ty_ib, ty_dd, dMem_ints, ite_tt, ite_ff, Bool.not_true, Bool.not_false, List.getElem?_cons_zero, List.getElem?_cons_succ, onInts_ii, dAll_map, dAny_map, frz0, frzN, frzS, ifl5, ifl6, ifl7, er_dct0, decide_eq_true hd0, w2, eo]; rfl
  by_cases hc0 : c % 3 = 0
  · refine ⟨m0, by omega, ft_eq ?_⟩
    simp only [rv0, rvS, lowR_vO, List.set_cons_zero, List.set_cons_succ, M.bind_ok, lowR_some, lowR_none, lowR_nil, lowC_val, lowC_own, lowC_anc, lowC_tr, er_dct, er_lst, er_sh, isPl_own, isPl_anc, isPl_tree, isPlS, shL_own, shL_anc, shL_tree, shLS, lstAt_own, lstAt_anc, lstAt_tree, lstAtS, dctAt_tree, dctAtS, updR_own, updR_anc, updR_tree, updRS, mapNx_ok, putT_nil, toCl_list, toCl_listP, toCl_dct, setT_sh, setT_lst, setT_tup, setT_dct, setT_ins, retT_sh, retT_lst, retT_tup, retT_dct, erM, shM, appM_own, appMS, insM_own, insMS, retC_val, retC_own, retC_ow, retCS, muC, muN, muSo, ifl0, ifl1, ifl2, ifl3, ifl4, toCl_nil, compR, compT, asB, asSh_l, optM_some, dEq_int, dNe_int, dAdd_int, dSub_int, dLt_int, dLe_int, dGt_int, dGe_int, asI_int, dLen_lst, dLen_tup, newL_lst, newL_tup, dSum_ints, isTyM_lst, isTyM_tup, isTyM_int, isTyM_non, isTyM_bl, isTyM_str, isTyM_dct, ty_ll, ty_tt, ty_ii, ty_ib, ty_dd, dMem_ints, ite_tt, ite_ff, Bool.not_true, Bool.not_false, List.getElem?_cons_zero, List.getElem?_cons_succ, onInts_ii, dAll_map, dAny_map, frz0, frzN, frzS, ifl5, ifl6, ifl7, er_dct0, decide_eq_false hd0, w1, decide_eq_true hc0, w2, eo]; rfl
  obtain ⟨X, hX0, hX1, hX⟩ : ∃ X : Int, 0 < X ∧ X.natAbs < 2 ^ 200 ∧ dPow (.int 10) (.int 50) = .ok (.int X) := ⟨10 ^ 50, by decide, by decide, rfl⟩
  have w3 : dMulW (.int c) (.int 48271) = .ok (.int (c * 48271)) := mul_big hb (by decide) (by decide : (48271 : Int).natAbs < 2 ^ 17) (by decide)
  have w4 : dMulW (.int c) (.int 69621) = .ok (.int (c * 69621)) := mul_big hb (by decide) (by decide : (69621 : Int).natAbs < 2 ^ 17) (by decide)
  have w5 : dMod (.int (c * 48271)) (.int (X + 151)) = .ok (.int (c * 48271 % (X + 151))) := dMod_pos (by omega)
  have w6 : dMod (.int (c * 69621)) (.int (X + 151)) = .ok (.int (c * 69621 % (X + 151))) := dMod_pos (by omega)
  have bX : ∀ z : Int, (z % (X + 151)).natAbs < 2 ^ 250 := fun z => by
    have h1 : 0 ≤ z % (X + 151) := Int.emod_nonneg _ (by omega)
    have h2 : z % (X + 151) < X + 151 := Int.emod_lt_of_pos _ (by omega)
    have h3 : (2 : Nat) ^ 200 + 151 < 2 ^ 250 := by decide
    omega
  obtain ⟨m1, q1, e1⟩ := law_traveller2_eq (c * 48271 % (X + 151)) rs (d - 1) (Int.emod_nonneg _ (by omega)) (bX _) (by omega)
  obtain ⟨m2, q2, e2⟩ := law_traveller2_eq (c * 69621 % (X + 151)) rs (d - 1) (Int.emod_nonneg _ (by omega)) (bX _) (by omega)
  have ed : (d : Int) - 1 = ((d - 1 : Nat) : Int) := by omega
  refine ⟨.pair m1 m2, by simp only [moDep]; omega, ft_eq ?_⟩
  apply wp_step
  · simp only [rv0, rvS, lowR_vO, List.set_cons_zero, List.set_cons_succ, M.bind_ok, lowR_some, lowR_none, lowR_nil, lowC_val, lowC_own, lowC_anc, lowC_tr, er_dct, er_lst, er_sh, isPl_own, isPl_anc, isPl_tree, isPlS, shL_own, shL_anc, shL_tree, shLS, lstAt_own, lstAt_anc, lstAt_tree, lstAtS, dctAt_tree, dctAtS, updR_own, updR_anc, updR_tree, updRS, mapNx_ok, putT_nil, toCl_list, toCl_listP, toCl_dct, setT_sh, setT_lst, setT_tup, setT_dct, setT_ins, retT_sh, retT_lst, retT_tup, retT_dct, erM, shM, appM_own, appMS, insM_own, insMS, retC_val, retC_own, retC_ow, retCS, muC, muN, muSo, ifl0, ifl1, ifl2, ifl3, ifl4, toCl_nil, compR, compT, asB, asSh_l, optM_some, dEq_int, dNe_int, dAdd_int, dSub_int, dLt_int, dLe_int, dGt_int, dGe_int, asI_int, dLen_lst, dLen_tup, newL_lst, newL_tup, dSum_ints, isTyM_lst, isTyM_tup, isTyM_int, isTyM_non, isTyM_bl, isTyM_str, isTyM_dct, ty_ll, ty_tt, ty_ii, ty_ib, ty_dd, dMem_ints, ite_tt, ite_ff, Bool.not_true, Bool.not_false, List.getElem?_cons_zero, List.getElem?_cons_succ, onInts_ii, dAll_map, dAny_map, frz0, frzN, frzS, ifl5, ifl6, ifl7, er_dct0, w1, decide_eq_false hd0, decide_eq_false hc0]; rfl
  apply wp_step
  · simp only [rv0, rvS, lowR_vO, List.set_cons_zero, List.set_cons_succ, M.bind_ok, lowR_some, lowR_none, lowR_nil, lowC_val, lowC_own, lowC_anc, lowC_tr, er_dct, er_lst, er_sh, isPl_own, isPl_anc, isPl_tree, isPlS, shL_own, shL_anc, shL_tree, shLS, lstAt_own, lstAt_anc, lstAt_tree, lstAtS, dctAt_tree, dctAtS, updR_own, updR_anc, updR_tree, updRS, mapNx_ok, putT_nil, toCl_list, toCl_listP, toCl_dct, setT_sh, setT_lst, setT_tup, setT_dct, setT_ins, retT_sh, retT_lst, retT_tup, retT_dct, erM, shM, appM_own, appMS, insM_own, insMS, retC_val, retC_own, retC_ow, retCS, muC, muN, muSo, ifl0, ifl1, ifl2, ifl3, ifl4, toCl_nil, compR, compT, asB, asSh_l, optM_some, dEq_int, dNe_int, dAdd_int, dSub_int, dLt_int, dLe_int, dGt_int, dGe_int, asI_int, dLen_lst, dLen_tup, newL_lst, newL_tup, dSum_ints, isTyM_lst, isTyM_tup, isTyM_int, isTyM_non, isTyM_bl, isTyM_str, isTyM_dct, ty_ll, ty_tt, ty_ii, ty_ib, ty_dd, dMem_ints, ite_tt, ite_ff, Bool.not_true, Bool.not_false, List.getElem?_cons_zero, List.getElem?_cons_succ, onInts_ii, dAll_map, dAny_map, frz0, frzN, frzS, ifl5, ifl6, ifl7, er_dct0, hX, w3, w5, ed, e1]; rfl
  simp only [rv0, rvS, lowR_vO, List.set_cons_zero, List.set_cons_succ, M.bind_ok, lowR_some, lowR_none, lowR_nil, lowC_val, lowC_own, lowC_anc, lowC_tr, er_dct, er_lst, er_sh, isPl_own, isPl_anc, isPl_tree, isPlS, shL_own, shL_anc, shL_tree, shLS, lstAt_own, lstAt_anc, lstAt_tree, lstAtS, dctAt_tree, dctAtS, updR_own, updR_anc, updR_tree, updRS, mapNx_ok, putT_nil, toCl_list, toCl_listP, toCl_dct, setT_sh, setT_lst, setT_tup, setT_dct, setT_ins, retT_sh, retT_lst, retT_tup, retT_dct, erM, shM, appM_own, appMS, insM_own, insMS, retC_val, retC_own, retC_ow, retCS, muC, muN, muSo, ifl0, ifl1, ifl2, ifl3, ifl4, toCl_nil, compR, compT, asB, asSh_l, optM_some, dEq_int, dNe_int, dAdd_int, dSub_int, dLt_int, dLe_int, dGt_int, dGe_int, asI_int, dLen_lst, dLen_tup, newL_lst, newL_tup, dSum_ints, isTyM_lst, isTyM_tup, isTyM_int, isTyM_non, isTyM_bl, isTyM_str, isTyM_dct, ty_ll, ty_tt, ty_ii, ty_ib, ty_dd, dMem_ints, ite_tt, ite_ff, Bool.not_true, Bool.not_false, List.getElem?_cons_zero, List.getElem?_cons_succ, onInts_ii, dAll_map, dAny_map, frz0, frzN, frzS, ifl5, ifl6, ifl7, er_dct0, hX, w4, w6, ed, e2]
  rfl
noncomputable def law_traveller3F : List D → M OT := Classical.choose ex_law_traveller3
theorem law_traveller3_at {P : Program} {w : World} {K : PySem.W.Frag} {mg : Str → Option Value} {base : Heap} : Txt K mg → FnT P w K mg base "_law_traveller" 4 3 law_traveller3F := (Classical.choose_spec ex_law_traveller3).1
theorem law_traveller3_eq : ∀ (c : Int) (rs : List Road) (d : Nat), 0 ≤ c → c.natAbs < 2 ^ 250 → d < 3 → ∃ m : Mo, moDep m ≤ d ∧ law_traveller3F [.int c, .lst (rs.map rdD), .int d] = .ok (.sh (moD m)) := (Classical.choose_spec ex_law_traveller3).2
theorem ex_law_traveller : ∃ F : List D → M OT, (∀ {P : Program} {w : World} {K : PySem.W.Frag} {mg : Str → Option Value} {base : Heap}, Txt K mg → FnT P w K mg base "_law_traveller" 5 3 F) ∧ (∀ (c : Int) (rs : List Road) (d : Nat), 0 ≤ c → c.natAbs < 2 ^ 250 → d < 4 → ∃ m : Mo, moDep m ≤ d ∧ F [.int c, .lst (rs.map rdD), .int d] = .ok (.sh (moD m))) := by
  refine ⟨_, fun T => fnT_of (k := 4) T.f_law_traveller sc_law_traveller _ (fun f cdv A outer s H E hr => (dss_cons (ds_if (DW.dt (dw_or (dt_eq (c := true) (huR hr 16 (by decide)) (de_var 2 (pv 2)) de_int) (dw_or1 (dt_eq (c := true) (huR hr 16 (by decide)) (de_mod (de_var 0 (pv 0)) de_int) de_int)))) (dss_one (ds_retT (dn_call xok_def.toXCall (law_one_at T) (hr.mono (by decide)) rfl (da_cons (de_fdiv (de_var 0 (pv 0)) de_int) (da_cons (de_var 1 (pv 1)) da_nil)) rfl))) dss_nil) (dss_cons (ds_set 3 sc_law_traveller.nd rfl (Or.inl rfl) (de_dn (dn_call xok_def.toXCall (law_traveller3_at T) (hr.mono (by decide)) rfl (da_cons (de_mod (de_mulW (de_var 0 (pv 0)) de_int) (de_add (de_pow de_int de_int) de_int)) (da_cons (de_var 1 (pv 1)) (da_cons (de_sub (de_var 2 (pv 2)) de_int) da_nil))) rfl))) (dss_one (ds_retT (dn_sh (de_tup (da_cons de_str (da_cons (de_var 3 (pv 3)) (da_cons (de_dn (dn_call xok_def.toXCall (law_traveller3_at T) (hr.mono (by decide)) rfl (da_cons (de_mod (de_mulW (de_var 0 (pv 0)) de_int) (de_add (de_pow de_int de_int) de_int)) (da_cons (de_var 1 (pv 1)) (da_cons (de_sub (de_var 2 (pv 2)) de_int) da_nil))) rfl)) da_nil)))))))))), ?_⟩
  intro c rs d hc hb hd
  have e0 : stRho ["_law_cell", "_law_roads", "_law_deep", "_law_first"] [.int c, .lst (rs.map rdD), .int d] = [some (.val (.int c)), some (.val (.lst (rs.map rdD))), some (.val (.int d)), none] := rfl
  rw [e0]
  have w1 : dMod (.int c) (.int 3) = .ok (.int (c % 3)) := dMod_pos (by decide)
  have w2 : dFdiv (.int c) (.int 3) = .ok (.int (c / 3)) := dFdiv_lit ⟨by decide, by decide⟩
  obtain ⟨m0, q0, eo⟩ := law_one_eq rs (c / 3) (by omega)
  by_cases hd0 : (d : Int) = 0
  · refine ⟨m0, by omega, ft_eq ?_⟩
    simp only [rv0, rvS, lowR_vO, List.set_cons_zero, List.set_cons_succ, M.bind_ok, lowR_some, lowR_none, lowR_nil, lowC_val, lowC_own, lowC_anc, lowC_tr, er_dct, er_lst, er_sh, isPl_own, isPl_anc, isPl_tree, isPlS, shL_own, shL_anc, shL_tree, shLS, lstAt_own, lstAt_anc, lstAt_tree, lstAtS, dctAt_tree, dctAtS, updR_own, updR_anc, updR_tree, updRS, mapNx_ok, putT_nil, toCl_list, toCl_listP, toCl_dct, setT_sh, setT_lst, setT_tup, setT_dct, setT_ins, retT_sh, retT_lst, retT_tup, retT_dct, erM, shM, appM_own, appMS, insM_own, insMS, retC_val, retC_own, retC_ow, retCS, muC, muN, muSo, ifl0, ifl1, ifl2, ifl3, ifl4, toCl_nil, compR, compT, asB, asSh_l, optM_some, dEq_int, dNe_int, dAdd_int, dSub_int, dLt_int, dLe_int, dGt_int, dGe_int, asI_int, dLen_lst, dLen_tup, newL_lst, newL_tup, dSum_ints, isTyM_lst, isTyM_tup, isTyM_int, isTyM_non, isTyM_bl, isTyM_str, isTyM_dct, ty_ll, ty_tt, ty_ii, ty_ib, ty_dd, dMem_ints, ite_tt, ite_ff, Bool.not_true, Bool.not_false, List.getElem?_cons_zero, List.getElem?_cons_succ, onInts_ii, dAll_map, dAny_map, frz0, frzN, frzS, ifl5, ifl6, ifl7, er_dct0, decide_eq_true hd0, w2, eo]; rfl
  by_cases hc0 : c % 3 = 0
  · refine ⟨m0, by omega, ft_eq ?_⟩
    simp only [rv0, rvS, lowR_vO, List.set_cons_zero, List.set_cons_succ, M.bind_ok, lowR_some, lowR_none, lowR_nil, lowC_val, lowC_own, lowC_anc, lowC_tr, er_dct, er_lst, er_sh, isPl_own, isPl_anc, isPl_tree, isPlS, shL_own, shL_anc, shL_tree, shLS, lstAt_own, lstAt_anc, lstAt_tree, lstAtS, dctAt_tree, dctAtS, updR_own, updR_anc, updR_tree, updRS, mapNx_ok, putT_nil, toCl_list, toCl_listP, toCl_dct, setT_sh, setT_lst, setT_tup, setT_dct, setT_ins, retT_sh, retT_lst, retT_tup, retT_dct, erM, shM, appM_own, appMS, insM_own, insMS, retC_val, retC_own, retC_ow, retCS, muC, muN, muSo, ifl0, ifl1, ifl2, ifl3, ifl4, toCl_nil, compR, compT, asB, asSh_l, optM_some, dEq_int, dNe_int, dAdd_int, dSub_int, dLt_int, dLe_int, dGt_int, dGe_int, asI_int, dLen_lst, dLen_tup, newL_lst, newL_tup, dSum_ints, isTyM_lst, isTyM_tup, isTyM_int, isTyM_non, isTyM_bl, isTyM_str, isTyM_dct, ty_ll, ty_tt, ty_ii, ty_ib, ty_dd, dMem_ints, ite_tt, ite_ff, Bool.not_true, Bool.not_false, List.getElem?_cons_zero, List.getElem?_cons_succ, onInts_ii, dAll_map, dAny_map, frz0, frzN, frzS, ifl5, ifl6, ifl7, er_dct0, decide_eq_false hd0, w1, decide_eq_true hc0, w2, eo]; rfl
  obtain ⟨X, hX0, hX1, hX⟩ : ∃ X : Int, 0 < X ∧ X.natAbs < 2 ^ 200 ∧ dPow (.int 10) (.int 50) = .ok (.int X) := ⟨10 ^ 50, by decide, by decide, rfl⟩
  have w3 : dMulW (.int c) (.int 48271) = .ok (.int (c * 48271)) := mul_big hb (by decide) (by decide : (48271 : Int).natAbs < 2 ^ 17) (by decide)
  have w4 : dMulW (.int c) (.int 69621) = .ok (.int (c * 69621)) := mul_big hb (by decide) (by decide : (69621 : Int).natAbs < 2 ^ 17) (by decide)
  have w5 : dMod (.int (c * 48271)) (.int (X + 151)) = .ok (.int (c * 48271 % (X + 151))) := dMod_pos (by omega)
  have w6 : dMod (.int (c * 69621)) (.int (X + 151)) = .ok (.int (c * 69621 % (X + 151))) := dMod_pos (by omega)
  have bX : ∀ z : Int, (z % (X + 151)).natAbs < 2 ^ 250 := fun z => by
    have h1 : 0 ≤ z % (X + 151) := Int.emod_nonneg _ (by omega)
    have h2 : z % (X + 151) < X + 151 := Int.emod_lt_of_pos _ (by omega)
    have h3 : (2 : Nat) ^ 200 + 151 < 2 ^ 250 := by decide
    omega
  obtain ⟨m1, q1, e1⟩ := law_traveller3_eq (c * 48271 % (X + 151)) rs (d - 1) (Int.emod_nonneg _ (by omega)) (bX _) (by omega)
  obtain ⟨m2, q2, e2⟩ := law_traveller3_eq (c * 69621 % (X + 151)) rs (d - 1) (Int.emod_nonneg _ (by omega)) (bX _) (by omega)
  have ed : (d : Int) - 1 = ((d - 1 : Nat) : Int) := by omega
  refine ⟨.pair m1 m2, by simp only [moDep]; omega, ft_eq ?_⟩
  apply wp_step
  · simp only [rv0, rvS, lowR_vO, List.set_cons_zero, List.set_cons_succ, M.bind_ok, lowR_some, lowR_none, lowR_nil, lowC_val, lowC_own, lowC_anc, lowC_tr, er_dct, er_lst, er_sh, isPl_own, isPl_anc, isPl_tree, isPlS, shL_own, shL_anc, shL_tree, shLS, lstAt_own, lstAt_anc, lstAt_tree, lstAtS, dctAt_tree, dctAtS, updR_own, updR_anc, updR_tree, updRS, mapNx_ok, putT_nil, toCl_list, toCl_listP, toCl_dct, setT_sh, setT_lst, setT_tup, setT_dct, setT_ins, retT_sh, retT_lst, retT_tup, retT_dct, erM, shM, appM_own, appMS, insM_own, insMS, retC_val, retC_own, retC_ow, retCS, muC, muN, muSo, ifl0, ifl1, ifl2, ifl3, ifl4, toCl_nil, compR, compT, asB, asSh_l, optM_some, dEq_int, dNe_int, dAdd_int, dSub_int, dLt_int, dLe_int, dGt_int, dGe_int, asI_int, dLen_lst, dLen_tup, newL_lst, newL_tup, dSum_ints, isTyM_lst, isTyM_tup, isTyM_int, isTyM_non, isTyM_bl, isTyM_str, isTyM_dct, ty_ll, ty_tt, ty_ii, ty_ib, ty_dd, dMem_ints, ite_tt, ite_ff, Bool.not_true, Bool.not_false, List.getElem?_cons_zero, List.getElem?_cons_succ, onInts_ii, dAll_map, dAny_map, frz0, frzN, frzS, ifl5, ifl6, ifl7, er_dct0, w1, decide_eq_false hd0, decide_eq_false hc0]; rfl
  apply wp_step
  · simp only [rv0, rvS, lowR_vO, List.set_cons_zero, List.set_cons_succ, M.bind_ok, lowR_some, lowR_none, lowR_nil, lowC_val, lowC_own, lowC_anc, lowC_tr, er_dct, er_lst, er_sh, isPl_own, isPl_anc, isPl_tree, isPlS, shL_own, shL_anc, shL_tree, shLS, lstAt_own, lstAt_anc, lstAt_tree, lstAtS, dctAt_tree, dctAtS, updR_own, updR_anc, updR_tree, updRS, mapNx_ok, putT_nil, toCl_list, toCl_listP, toCl_dct, setT_sh, setT_lst, setT_tup, setT_dct, setT_ins, retT_sh, retT_lst, retT_tup, retT_dct, erM, shM, appM_own, appMS, insM_own, insMS, retC_val, retC_own, retC_ow, retCS, muC, muN, muSo, ifl0, ifl1, ifl2, ifl3, ifl4, toCl_nil, compR, compT, asB, asSh_l, optM_some, dEq_int, dNe_int, dAdd_int, dSub_int, dLt_int, dLe_int, dGt_int, dGe_int, asI_int, dLen_lst, dLen_tup, newL_lst, newL_tup, dSum_ints, isTyM_lst, isTyM_tup, isTyM_int, isTyM_non, isTyM_bl, isTyM_str, isTyM_dct, ty_ll, ty_tt, ty_ii, ty_ib, ty_dd, dMem_ints, ite_tt, ite_ff, Bool.not_true, Bool.not_false, List.getElem?_cons_zero, List.getElem?_cons_succ, onInts_ii, dAll_map, dAny_map, frz0, frzN, frzS, ifl5, ifl6, ifl7, er_dct0, hX, w3, w5, ed, e1]; rfl
  simp only [rv0, rvS, lowR_vO, List.set_cons_zero, List.set_cons_succ, M.bind_ok, lowR_some, lowR_none, lowR_nil, lowC_val, lowC_own, lowC_anc, lowC_tr, er_dct, er_lst, er_sh, isPl_own, isPl_anc, isPl_tree, isPlS, shL_own, shL_anc, shL_tree, shLS, lstAt_own, lstAt_anc, lstAt_tree, lstAtS, dctAt_tree, dctAtS, updR_own, updR_anc, updR_tree, updRS, mapNx_ok, putT_nil, toCl_list, toCl_listP, toCl_dct, setT_sh, setT_lst, setT_tup, setT_dct, setT_ins, retT_sh, retT_lst, retT_tup, retT_dct, erM, shM, appM_own, appMS, insM_own, insMS, retC_val, retC_own, retC_ow, retCS, muC, muN, muSo, ifl0, ifl1, ifl2, ifl3, ifl4, toCl_nil, compR, compT, asB, asSh_l, optM_some, dEq_int, dNe_int, dAdd_int, dSub_int, dLt_int, dLe_int, dGt_int, dGe_int, asI_int, dLen_lst, dLen_tup, newL_lst, newL_tup, dSum_ints, isTyM_lst, isTyM_tup, isTyM_int, isTyM_non, isTyM_bl, isTyM_str, isTyM_dct, ty_ll, ty_tt, ty_ii, ty_ib, ty_dd, dMem_ints, ite_tt, ite_ff, Bool.not_true, Bool.not_false, List.getElem?_cons_zero, List.getElem?_cons_succ, onInts_ii, dAll_map, dAny_map, frz0, frzN, frzS, ifl5, ifl6, ifl7, er_dct0, hX, w4, w6, ed, e2]
  rfl
noncomputable def law_travellerF : List D → M OT := Classical.choose ex_law_traveller
theorem law_traveller_at {P : Program} {w : World} {K : PySem.W.Frag} {mg : Str → Option Value} {base : Heap} : Txt K mg → FnT P w K mg base "_law_traveller" 5 3 law_travellerF := (Classical.choose_spec ex_law_traveller).1
theorem law_traveller_eq : ∀ (c : Int) (rs : List Road) (d : Nat), 0 ≤ c → c.natAbs < 2 ^ 250 → d < 4 → ∃ m : Mo, moDep m ≤ d ∧ law_travellerF [.int c, .lst (rs.map rdD), .int d] = .ok (.sh (moD m)) := (Classical.choose_spec ex_law_traveller).2
theorem ex_law_made1 : ∃ F : List D → M OT, (∀ {P : Program} {w : World} {K : PySem.W.Frag} {mg : Str → Option Value} {base : Heap}, Txt K mg → FnT P w K mg base "_law_made" 3 1 F) ∧ (∀ m : Mo, moDep m < 1 → ∃ t, F [moD m] = .ok t ∧ er t = moO m) := by
  refine ⟨_, fun T => fnT_of (k := 2) T.f_law_made sc_law_made _ (fun f cdv A outer s H E hr => (dss_cons (ds_if (dt_eq (c := true) (huR hr 16 (by decide)) (de_itm (huR hr 16 (by decide)) (de_var 0 (pv 0)) de_int) de_str) (dss_one (ds_retT (dn_make xok_def.toXCall (Wide___init___at T) (hr.mono (by decide)) rfl (da_cons (de_itm (huR hr 16 (by decide)) (de_var 0 (pv 0)) de_int) da_nil) rfl))) dss_nil) (dss_cons (ds_if (dt_eq (c := true) (huR hr 16 (by decide)) (de_itm (huR hr 16 (by decide)) (de_var 0 (pv 0)) de_int) de_str) (dss_one (ds_retT (dn_make xok_def.toXCall (Short___init___at T) (hr.mono (by decide)) rfl (da_cons (de_itm (huR hr 16 (by decide)) (de_var 0 (pv 0)) de_int) da_nil) rfl))) dss_nil) (dss_cons (ds_if (dt_eq (c := true) (huR hr 16 (by decide)) (de_itm (huR hr 16 (by decide)) (de_var 0 (pv 0)) de_int) de_str) (dss_one (ds_retT (dn_new T.n_Even rfl))) dss_nil) (dss_cons (ds_if (dt_eq (c := true) (huR hr 16 (by decide)) (de_itm (huR hr 16 (by decide)) (de_var 0 (pv 0)) de_int) de_str) (dss_one (ds_retT (dn_make xok_def.toXCall (Pair___init___at T) (hr.mono (by decide)) rfl (da_cons (de_dn (dn_call xok_def.toXCall (fnT_bad T.f_law_made) (hr.mono (by decide)) rfl (da_cons (de_itm (huR hr 16 (by decide)) (de_var 0 (pv 0)) de_int) da_nil) rfl)) (da_cons (de_dn (dn_call xok_def.toXCall (fnT_bad T.f_law_made) (hr.mono (by decide)) rfl (da_cons (de_itm (huR hr 16 (by decide)) (de_var 0 (pv 0)) de_int) da_nil) rfl)) da_nil)) rfl))) dss_nil) (dss_one (ds_retT (dn_new T.n_Traveller rfl)))))))), ?_⟩
  intro m hm
  have e0 : stRho ["_law_model"] [moD m] = [some (.val (moD m))] := rfl
  rw [e0]
  have q1 : ∀ n : Int, madeM (Wide___init__F (.ins "Wide" [] []) [.int n]) = .ok (.ins "Wide" ["least_width"] [.sh (.int n)]) := fun n => by rw [Wide___init___eq]; rfl
  have q2 : ∀ n : Int, madeM (Short___init__F (.ins "Short" [] []) [.int n]) = .ok (.ins "Short" ["most_length"] [.sh (.int n)]) := fun n => by rw [Short___init___eq]; rfl
  have q3 : ∀ a b : D, madeM (Pair___init__F (.ins "Pair" [] []) [a, b]) = .ok (.ins "Pair" ["first", "second"] [.sh a, .sh b]) := fun a b => by rw [Pair___init___eq]; rfl
  cases m with
  | plain => exact ⟨_, rfl, rfl⟩
  | wide n =>
    refine ft_of ?_
    have i0 : dItm (moD (.wide n)) (.int 0) = .ok (.str "wide") := rfl
    have i1 : dItm (moD (.wide n)) (.int 1) = .ok (.int n) := rfl
    have s1 : dEq 16 (.str "wide") (.str "wide") = .ok (.bl true) := rfl
    simp only [rv0, rvS, lowR_vO, List.set_cons_zero, List.set_cons_succ, M.bind_ok, lowR_some, lowR_none, lowR_nil, lowC_val, lowC_own, lowC_anc, lowC_tr, er_dct, er_lst, er_sh, isPl_own, isPl_anc, isPl_tree, isPlS, shL_own, shL_anc, shL_tree, shLS, lstAt_own, lstAt_anc, lstAt_tree, lstAtS, dctAt_tree, dctAtS, updR_own, updR_anc, updR_tree, updRS, mapNx_ok, putT_nil, toCl_list, toCl_listP, toCl_dct, setT_sh, setT_lst, setT_tup, setT_dct, setT_ins, retT_sh, retT_lst, retT_tup, retT_dct, erM, shM, appM_own, appMS, insM_own, insMS, retC_val, retC_own, retC_ow, retCS, muC, muN, muSo, ifl0, ifl1, ifl2, ifl3, ifl4, toCl_nil, compR, compT, asB, asSh_l, optM_some, dEq_int, dNe_int, dAdd_int, dSub_int, dLt_int, dLe_int, dGt_int, dGe_int, asI_int, dLen_lst, dLen_tup, newL_lst, newL_tup, dSum_ints, isTyM_lst, isTyM_tup, isTyM_int, isTyM_non, isTyM_bl, isTyM_str, isTyM_dct, ty_ll, ty_tt, ty_ii, ty_ib, ty_dd, dMem_ints, ite_tt, ite_ff, Bool.not_true, Bool.not_false, List.getElem?_cons_zero, List.getElem?_cons_succ, onInts_ii, dAll_map, dAny_map, frz0, frzN, frzS, ifl5, ifl6, ifl7, er_dct0, i0, i1, s1, q1]
    exact ⟨_, rfl, rfl⟩
  | short n =>
    refine ft_of ?_
    have i0 : dItm (moD (.short n)) (.int 0) = .ok (.str "short") := rfl
    have i1 : dItm (moD (.short n)) (.int 1) = .ok (.int n) := rfl
    have s1 : dEq 16 (.str "short") (.str "wide") = .ok (.bl false) := rfl
    have s2 : dEq 16 (.str "short") (.str "short") = .ok (.bl true) := rfl
    apply wp_step
    · simp only [rv0, rvS, lowR_vO, List.set_cons_zero, List.set_cons_succ, M.bind_ok, lowR_some, lowR_none, lowR_nil, lowC_val, lowC_own, lowC_anc, lowC_tr, er_dct, er_lst, er_sh, isPl_own, isPl_anc, isPl_tree, isPlS, shL_own, shL_anc, shL_tree, shLS, lstAt_own, lstAt_anc, lstAt_tree, lstAtS, dctAt_tree, dctAtS, updR_own, updR_anc, updR_tree, updRS, mapNx_ok, putT_nil, toCl_list, toCl_listP, toCl_dct, setT_sh, setT_lst, setT_tup, setT_dct, setT_ins, retT_sh, retT_lst, retT_tup, retT_dct, erM, shM, appM_own, appMS, insM_own, insMS, retC_val, retC_own, retC_ow, retCS, muC, muN, muSo, ifl0, ifl1, ifl2, ifl3, ifl4, toCl_nil, compR, compT, asB, asSh_l, optM_some, dEq_int, dNe_int, dAdd_int, dSub_int, dLt_int, dLe_int, dGt_int, dGe_int, asI_int, dLen_lst, dLen_tup, newL_lst, newL_tup, dSum_ints, isTyM_lst, isTyM_tup, isTyM_int, isTyM_non, isTyM_bl, isTyM_str, isTyM_dct, ty_ll, ty_tt, ty_ii, ty_ib, ty_dd, dMem_ints, ite_tt, ite_ff, Bool.not_true, Bool.not_false, List.getElem?_cons_zero, List.getElem?_cons_succ, onInts_ii, dAll_map, dAny_map, frz0, frzN, frzS, ifl5, ifl6, ifl7, er_dct0, i0, s1]; rfl
    simp only [rv0, rvS, lowR_vO, List.set_cons_zero, List.set_cons_succ, M.bind_ok, lowR_some, lowR_none, lowR_nil, lowC_val, lowC_own, lowC_anc, lowC_tr, er_dct, er_lst, er_sh, isPl_own, isPl_anc, isPl_tree, isPlS, shL_own, shL_anc, shL_tree, shLS, lstAt_own, lstAt_anc, lstAt_tree, lstAtS, dctAt_tree, dctAtS, updR_own, updR_anc, updR_tree, updRS, mapNx_ok, putT_nil, toCl_list, toCl_listP, toCl_dct, setT_sh, setT_lst, setT_tup, setT_dct, setT_ins, retT_sh, retT_lst, retT_tup, retT_dct, erM, shM, appM_own, appMS, insM_own, insMS, retC_val, retC_own, retC_ow, retCS, muC, muN, muSo, ifl0, ifl1, ifl2, ifl3, ifl4, toCl_nil, compR, compT, asB, asSh_l, optM_some, dEq_int, dNe_int, dAdd_int, dSub_int, dLt_int, dLe_int, dGt_int, dGe_int, asI_int, dLen_lst, dLen_tup, newL_lst, newL_tup, dSum_ints, isTyM_lst, isTyM_tup, isTyM_int, isTyM_non, isTyM_bl, isTyM_str, isTyM_dct, ty_ll, ty_tt, ty_ii, ty_ib, ty_dd, dMem_ints, ite_tt, ite_ff, Bool.not_true, Bool.not_false, List.getElem?_cons_zero, List.getElem?_cons_succ, onInts_ii, dAll_map, dAny_map, frz0, frzN, frzS, ifl5, ifl6, ifl7, er_dct0, i0, i1, s2, q2]
    exact ⟨_, rfl, rfl⟩
  | even => exact ⟨_, rfl, rfl⟩
  | pair a b => exact (by simp only [moDep] at hm; omega : False).elim
noncomputable def law_made1F : List D → M OT := Classical.choose ex_law_made1
theorem law_made1_at {P : Program} {w : World} {K : PySem.W.Frag} {mg : Str → Option Value} {base : Heap} : Txt K mg → FnT P w K mg base "_law_made" 3 1 law_made1F := (Classical.choose_spec ex_law_made1).1
theorem law_made1_eq : ∀ m : Mo, moDep m < 1 → ∃ t, law_made1F [moD m] = .ok t ∧ er t = moO m := (Classical.choose_spec ex_law_made1).2
theorem ex_law_made2 : ∃ F : List D → M OT, (∀ {P : Program} {w : World} {K : PySem.W.Frag} {mg : Str → Option Value} {base : Heap}, Txt K mg → FnT P w K mg base "_law_made" 4 1 F) ∧ (∀ m : Mo, moDep m < 2 → ∃ t, F [moD m] = .ok t ∧ er t = moO m) := by
  refine ⟨_, fun T => fnT_of (k := 3) T.f_law_made sc_law_made _ (fun f cdv A outer s H E hr => (dss_cons (ds_if (dt_eq (c := true) (huR hr 16 (by decide)) (de_itm (huR hr 16 (by decide)) (de_var 0 (pv 0)) de_int) de_str) (dss_one (ds_retT (dn_make xok_def.toXCall (Wide___init___at T) (hr.mono (by decide)) rfl (da_cons (de_itm (huR hr 16 (by decide)) (de_var 0 (pv 0)) de_int) da_nil) rfl))) dss_nil) (dss_cons (ds_if (dt_eq (c := true) (huR hr 16 (by decide)) (de_itm (huR hr 16 (by decide)) (de_var 0 (pv 0)) de_int) de_str) (dss_one (ds_retT (dn_make xok_def.toXCall (Short___init___at T) (hr.mono (by decide)) rfl (da_cons (de_itm (huR hr 16 (by decide)) (de_var 0 (pv 0)) de_int) da_nil) rfl))) dss_nil) (dss_cons (ds_if (dt_eq (c := true) (huR hr 16 (by decide)) (de_itm (huR hr 16 (by decide)) (de_var 0 (pv 0)) de_int) de_str) (dss_one (ds_retT (dn_new T.n_Even rfl))) dss_nil) (dss_cons (ds_if (dt_eq (c := true) (huR hr 16 (by decide)) (de_itm (huR hr 16 (by decide)) (de_var 0 (pv 0)) de_int) de_str) (dss_one (ds_retT (dn_make xok_def.toXCall (Pair___init___at T) (hr.mono (by decide)) rfl (da_cons (de_dn (dn_call xok_def.toXCall (law_made1_at T) (hr.mono (by decide)) rfl (da_cons (de_itm (huR hr 16 (by decide)) (de_var 0 (pv 0)) de_int) da_nil) rfl)) (da_cons (de_dn (dn_call xok_def.toXCall (law_made1_at T) (hr.mono (by decide)) rfl (da_cons (de_itm (huR hr 16 (by decide)) (de_var 0 (pv 0)) de_int) da_nil) rfl)) da_nil)) rfl))) dss_nil) (dss_one (ds_retT (dn_new T.n_Traveller rfl)))))))), ?_⟩
  intro m hm
  have e0 : stRho ["_law_model"] [moD m] = [some (.val (moD m))] := rfl
  rw [e0]
  have q1 : ∀ n : Int, madeM (Wide___init__F (.ins "Wide" [] []) [.int n]) = .ok (.ins "Wide" ["least_width"] [.sh (.int n)]) := fun n => by rw [Wide___init___eq]; rfl
  have q2 : ∀ n : Int, madeM (Short___init__F (.ins "Short" [] []) [.int n]) = .ok (.ins "Short" ["most_length"] [.sh (.int n)]) := fun n => by rw [Short___init___eq]; rfl
  have q3 : ∀ a b : D, madeM (Pair___init__F (.ins "Pair" [] []) [a, b]) = .ok (.ins "Pair" ["first", "second"] [.sh a, .sh b]) := fun a b => by rw [Pair___init___eq]; rfl
  cases m with
  | plain => exact ⟨_, rfl, rfl⟩
  | wide n =>
    refine ft_of ?_
    have i0 : dItm (moD (.wide n)) (.int 0) = .ok (.str "wide") := rfl
    have i1 : dItm (moD (.wide n)) (.int 1) = .ok (.int n) := rfl
    have s1 : dEq 16 (.str "wide") (.str "wide") = .ok (.bl true) := rfl
    simp only [rv0, rvS, lowR_vO, List.set_cons_zero, List.set_cons_succ, M.bind_ok, lowR_some, lowR_none, lowR_nil, lowC_val, lowC_own, lowC_anc, lowC_tr, er_dct, er_lst, er_sh, isPl_own, isPl_anc, isPl_tree, isPlS, shL_own, shL_anc, shL_tree, shLS, lstAt_own, lstAt_anc, lstAt_tree, lstAtS, dctAt_tree, dctAtS, updR_own, updR_anc, updR_tree, updRS, mapNx_ok, putT_nil, toCl_list, toCl_listP, toCl_dct, setT_sh, setT_lst, setT_tup, setT_dct, setT_ins, retT_sh, retT_lst, retT_tup, retT_dct, erM, shM, appM_own, appMS, insM_own, insMS, retC_val, retC_own, retC_ow, retCS, muC, muN, muSo, ifl0, ifl1, ifl2, ifl3, ifl4, toCl_nil, compR, compT, asB, asSh_l, optM_some, dEq_int, dNe_int, dAdd_int, dSub_int, dLt_int, dLe_int, dGt_int, dGe_int, asI_int, dLen_lst, dLen_tup, newL_lst, newL_tup, dSum_ints, isTyM_lst, isTyM_tup, isTyM_int, isTyM_non, isTyM_bl, isTyM_str, isTyM_dct, ty_ll, ty_tt, ty_ii, ty_ib, ty_dd, dMem_ints, ite_tt, ite_ff, Bool.not_true, Bool.not_false, List.getElem?_cons_zero, List.getElem?_cons_succ, onInts_ii, dAll_map, dAny_map, frz0, frzN, frzS, ifl5, ifl6, ifl7, er_dct0, i0, i1, s1, q1]
    exact ⟨_, rfl, rfl⟩
  | short n =>
    refine ft_of ?_
    have i0 : dItm (moD (.short n)) (.int 0) = .ok (.str "short") := rfl
    have i1 : dItm (moD (.short n)) (.int 1) = .ok (.int n) := rfl
    have s1 : dEq 16 (.str "short") (.str "wide") = .ok (.bl false) := rfl
    have s2 : dEq 16 (.str "short") (.str "short") = .ok (.bl true) := rfl
    apply wp_step
    · simp only [rv0, rvS, lowR_vO, List.set_cons_zero, List.set_cons_succ, M.bind_ok, lowR_some, lowR_none, lowR_nil, lowC_val, lowC_own, lowC_anc, lowC_tr, er_dct, er_lst, er_sh, isPl_own, isPl_anc, isPl_tree, isPlS, shL_own, shL_anc, shL_tree, shLS, lstAt_own, lstAt_anc, lstAt_tree, lstAtS, dctAt_tree, dctAtS, updR_own, updR_anc, updR_tree, updRS, mapNx_ok, putT_nil, toCl_list, toCl_listP, toCl_dct, setT_sh, setT_lst, setT_tup, setT_dct, setT_ins, retT_sh, retT_lst, retT_tup, retT_dct, erM, shM, appM_own, appMS, insM_own, insMS, retC_val, retC_own, retC_ow, retCS, muC, muN, muSo, ifl0, ifl1, ifl2, ifl3, ifl4, toCl_nil, compR, compT, asB, asSh_l, optM_some, dEq_int, dNe_int, dAdd_int, dSub_int, dLt_int, dLe_int, dGt_int, dGe_int, asI_int, dLen_lst, dLen_tup, newL_lst, newL_tup, dSum_ints, isTyM_lst, isTyM_tup, isTyM_int, isTyM_non, isTyM_bl, isTyM_str, isTyM_dct, ty_ll, ty_tt, ty_ii, ty_ib, ty_dd, dMem_ints, ite_tt, ite_ff, Bool.not_true, Bool.not_false, List.getElem?_cons_zero, List.getElem?_cons_succ, onInts_ii, dAll_map, dAny_map, frz0, frzN, frzS, ifl5, ifl6, ifl7, er_dct0, i0, s1]; rfl
    simp only [rv0, rvS, lowR_vO, List.set_cons_zero, List.set_cons_succ, M.bind_ok, lowR_some, lowR_none, lowR_nil, lowC_val, lowC_own, lowC_anc, lowC_tr, er_dct, er_lst, er_sh, isPl_own, isPl_anc, isPl_tree, isPlS, shL_own, shL_anc, shL_tree, shLS, lstAt_own, lstAt_anc, lstAt_tree, lstAtS, dctAt_tree, dctAtS, updR_own, updR_anc, updR_tree, updRS, mapNx_ok, putT_nil, toCl_list, toCl_listP, toCl_dct, setT_sh, setT_lst, setT_tup, setT_dct, setT_ins, retT_sh, retT_lst, retT_tup, retT_dct, erM, shM, appM_own, appMS, insM_own, insMS, retC_val, retC_own, retC_ow, retCS, muC, muN, muSo, ifl0, ifl1, ifl2, ifl3, ifl4, toCl_nil, compR, compT, asB, asSh_l, optM_some, dEq_int, dNe_int, dAdd_int, dSub_int, dLt_int, dLe_int, dGt_int, dGe_int, asI_int, dLen_lst, dLen_tup, newL_lst, newL_tup, dSum_ints, isTyM_lst, isTyM_tup, isTyM_int, isTyM_non, isTyM_bl, isTyM_str, isTyM_dct, ty_ll, ty_tt, ty_ii, ty_ib, ty_dd, dMem_ints, ite_tt, ite_ff, Bool.not_true, Bool.not_false, List.getElem?_cons_zero, List.getElem?_cons_succ, onInts_ii, dAll_map, dAny_map, frz0, frzN, frzS, ifl5, ifl6, ifl7, er_dct0, i0, i1, s2, q2]
    exact ⟨_, rfl, rfl⟩
  | even => exact ⟨_, rfl, rfl⟩
  | pair a b =>
    obtain ⟨t1, h1, e1⟩ := law_made1_eq a (by simp only [moDep] at hm; omega)
    obtain ⟨t2, h2, e2⟩ := law_made1_eq b (by simp only [moDep] at hm; omega)
    refine ft_of ?_
    have i0 : dItm (moD (.pair a b)) (.int 0) = .ok (.str "pair") := rfl
    have i1 : dItm (moD (.pair a b)) (.int 1) = .ok (moD a) := rfl
    have i2 : dItm (moD (.pair a b)) (.int 2) = .ok (moD b) := rfl
    have s1 : dEq 16 (.str "pair") (.str "wide") = .ok (.bl false) := rfl
    have s2 : dEq 16 (.str "pair") (.str "short") = .ok (.bl false) := rfl
    have s3 : dEq 16 (.str "pair") (.str "even") = .ok (.bl false) := rfl
    have s4 : dEq 16 (.str "pair") (.str "pair") = .ok (.bl true) := rfl
    apply wp_step
    · simp only [rv0, rvS, lowR_vO, List.set_cons_zero, List.set_cons_succ, M.bind_ok, lowR_some, lowR_none, lowR_nil, lowC_val, lowC_own, lowC_anc, lowC_tr, er_dct, er_lst, er_sh, isPl_own, isPl_anc, isPl_tree, isPlS, shL_own, shL_anc, shL_tree, shLS, lstAt_own, lstAt_anc, lstAt_tree, lstAtS, dctAt_tree, dctAtS, updR_own, updR_anc, updR_tree, updRS, mapNx_ok, putT_nil, toCl_list, toCl_listP, toCl_dct, setT_sh, setT_lst, setT_tup, setT_dct, setT_ins, retT_sh, retT_lst, retT_tup, retT_dct, erM, shM, appM_own, appMS, insM_own, insMS, retC_val, retC_own, retC_ow, retCS, muC, muN, muSo, ifl0, ifl1, ifl2, ifl3, ifl4, toCl_nil, compR, compT, asB, asSh_l, optM_some, dEq_int, dNe_int, dAdd_int, dSub_int, dLt_int, dLe_int, dGt_int, dGe_int, asI_int, dLen_lst, dLen_tup, newL_lst, newL_tup, dSum_ints, isTyM_lst, isTyM_tup, isTyM_int, isTyM_non, isTyM_bl, isTyM_str, isTyM_dct, ty_ll, ty_tt, ty_ii, ty_ib, ty_dd, dMem_ints, ite_tt, ite_ff, Bool.not_true, Bool.not_false, List.getElem?_cons_zero, List.getElem?_cons_succ, onInts_ii, dAll_map, dAny_map, frz0, frzN, frzS, ifl5, ifl6, ifl7, er_dct0, i0, s1]; rfl
    apply wp_step
    · simp only [rv0, rvS, lowR_vO, List.set_cons_zero, List.set_cons_succ, M.bind_ok, lowR_some, lowR_none, lowR_nil, lowC_val, lowC_own, lowC_anc, lowC_tr, er_dct, er_lst, er_sh, isPl_own, isPl_anc, isPl_tree, isPlS, shL_own, shL_anc, shL_tree, shLS, lstAt_own, lstAt_anc, lstAt_tree, lstAtS, dctAt_tree, dctAtS, updR_own, updR_anc, updR_tree, updRS, mapNx_ok, putT_nil, toCl_list, toCl_listP, toCl_dct, setT_sh, setT_lst, setT_tup, setT_dct, setT_ins, retT_sh, retT_lst, retT_tup, retT_dct, erM, shM, appM_own, appMS, insM_own, insMS, retC_val, retC_own, retC_ow, retCS, muC, muN, muSo, ifl0, ifl1, ifl2, ifl3, ifl4, toCl_nil, compR, compT, asB, asSh_l, optM_some, dEq_int, dNe_int, dAdd_int, dSub_int, dLt_int, dLe_int, dGt_int, dGe_int, asI_int, dLen_lst, dLen_tup, newL_lst, newL_tup, dSum_ints, isTyM_lst, isTyM_tup, isTyM_int, isTyM_non, isTyM_bl, isTyM_str, isTyM_dct, ty_ll, ty_tt, ty_ii, ty_ib, ty_dd, dMem_ints, ite_tt, ite_ff, Bool.not_true, Bool.not_false, List.getElem?_cons_zero, List.getElem?_cons_succ, onInts_ii, dAll_map, dAny_map, frz0, frzN, frzS, ifl5, ifl6, ifl7, er_dct0, i0, s2]; rfl
    apply wp_step
    · simp only [rv0, rvS, lowR_vO, List.set_cons_zero, List.set_cons_succ, M.bind_ok, lowR_some, lowR_none, lowR_nil, lowC_val, lowC_own, lowC_anc, lowC_tr, er_dct, er_lst, er_sh, isPl_own, isPl_anc, isPl_tree, isPlS, shL_own, shL_anc, shL_tree, shLS, lstAt_own, lstAt_anc, lstAt_tree, lstAtS, dctAt_tree, dctAtS, updR_own, updR_anc, updR_tree, updRS, mapNx_ok, putT_nil, toCl_list, toCl_listP, toCl_dct, setT_sh, setT_lst, setT_tup, setT_dct, setT_ins, retT_sh, retT_lst, retT_tup, retT_dct, erM, shM, appM_own, appMS, insM_own, insMS, retC_val, retC_own, retC_ow, retCS, muC, muN, muSo, ifl0, ifl1, ifl2, ifl3, ifl4, toCl_nil, compR, compT, asB, asSh_l, optM_some, dEq_int, dNe_int, dAdd_int, dSub_int, dLt_int, dLe_int, dGt_int, dGe_int, asI_int, dLen_lst, dLen_tup, newL_lst, newL_tup, dSum_ints, isTyM_lst, isTyM_tup, isTyM_int, isTyM_non, isTyM_bl, isTyM_str, isTyM_dct, ty_ll, ty_tt, ty_ii, ty_ib, ty_dd, dMem_ints, ite_tt, ite_ff, Bool.not_true, Bool.not_false, List.getElem?_cons_zero, List.getElem?_cons_succ, onInts_ii, dAll_map, dAny_map, frz0, frzN, frzS, ifl5, ifl6, ifl7, er_dct0, i0, s3]; rfl
    simp only [rv0, rvS, lowR_vO, List.set_cons_zero, List.set_cons_succ, M.bind_ok, lowR_some, lowR_none, lowR_nil, lowC_val, lowC_own, lowC_anc, lowC_tr, er_dct, er_lst, er_sh, isPl_own, isPl_anc, isPl_tree, isPlS, shL_own, shL_anc, shL_tree, shLS, lstAt_own, lstAt_anc, lstAt_tree, lstAtS, dctAt_tree, dctAtS, updR_own, updR_anc, updR_tree, updRS, mapNx_ok, putT_nil, toCl_list, toCl_listP, toCl_dct, setT_sh, setT_lst, setT_tup, setT_dct, setT_ins, retT_sh, retT_lst, retT_tup, retT_dct, erM, shM, appM_own, appMS, insM_own, insMS, retC_val, retC_own, retC_ow, retCS, muC, muN, muSo, ifl0, ifl1, ifl2, ifl3, ifl4, toCl_nil, compR, compT, asB, asSh_l, optM_some, dEq_int, dNe_int, dAdd_int, dSub_int, dLt_int, dLe_int, dGt_int, dGe_int, asI_int, dLen_lst, dLen_tup, newL_lst, newL_tup, dSum_ints, isTyM_lst, isTyM_tup, isTyM_int, isTyM_non, isTyM_bl, isTyM_str, isTyM_dct, ty_ll, ty_tt, ty_ii, ty_ib, ty_dd, dMem_ints, ite_tt, ite_ff, Bool.not_true, Bool.not_false, List.getElem?_cons_zero, List.getElem?_cons_succ, onInts_ii, dAll_map, dAny_map, frz0, frzN, frzS, ifl5, ifl6, ifl7, er_dct0, i0, i1, i2, s4, h1, h2, e1, e2, q3]
    exact ⟨_, rfl, rfl⟩
noncomputable def law_made2F : List D → M OT := Classical.choose ex_law_made2
theorem law_made2_at {P : Program} {w : World} {K : PySem.W.Frag} {mg : Str → Option Value} {base : Heap} : Txt K mg → FnT P w K mg base "_law_made" 4 1 law_made2F := (Classical.choose_spec ex_law_made2).1
theorem law_made2_eq : ∀ m : Mo, moDep m < 2 → ∃ t, law_made2F [moD m] = .ok t ∧ er t = moO m := (Classical.choose_spec ex_law_made2).2
theorem ex_law_made3 : ∃ F : List D → M OT, (∀ {P : Program} {w : World} {K : PySem.W.Frag} {mg : Str → Option Value} {base : Heap}, Txt K mg → FnT P w K mg base "_law_made" 5 1 F) ∧ (∀ m : Mo, moDep m < 3 → ∃ t, F [moD m] = .ok t ∧ er t = moO m) := by
  refine ⟨_, fun T => fnT_of (k := 4) T.f_law_made sc_law_made _ (fun f cdv A outer s H E hr => (dss_cons (ds_if (dt_eq (c := true) (huR hr 16 (by decide)) (de_itm (huR hr 16 (by decide)) (de_var 0 (pv 0)) de_int) de_str) (dss_one (ds_retT (dn_make xok_def.toXCall (Wide___init___at T) (hr.mono (by decide)) rfl (da_cons (de_itm (huR hr 16 (by decide)) (de_var 0 (pv 0)) de_int) da_nil) rfl))) dss_nil) (dss_cons (ds_if (dt_eq (c := true) (huR hr 16 (by decide)) (de_itm (huR hr 16 (by decide)) (de_var 0 (pv 0)) de_int) de_str) (dss_one (ds_retT (dn_make xok_def.toXCall (Short___init___at T) (hr.mono (by decide)) rfl (da_cons (de_itm (huR hr 16 (by decide)) (de_var 0 (pv 0)) de_int) da_nil) rfl))) dss_nil) (dss_cons (ds_if (dt_eq (c := true) (huR hr 16 (by decide)) (de_itm (huR hr 16 (by decide)) (de_var 0 (pv 0)) de_int) de_str) (dss_one (ds_retT (dn_new T.n_Even rfl))) dss_nil) (dss_cons (ds_if (dt_eq (c := true) (huR hr 16 (by decide)) (de_itm (huR hr 16 (by decide)) (de_var 0 (pv 0)) de_int) de_str) (dss_one (ds_retT (dn_make xok_def.toXCall (Pair___init___at T) (hr.mono (by decide)) rfl (da_cons (de_dn (dn_call xok_def.toXCall (law_made2_at T) (hr.mono (by decide)) rfl (da_cons (de_itm (huR hr 16 (by decide)) (de_var 0 (pv 0)) de_int) da_nil) rfl)) (da_cons (de_dn (dn_call xok_def.toXCall (law_made2_at T) (hr.mono (by decide)) rfl (da_cons (de_itm (huR hr 16 (by decide)) (de_var 0 (pv 0)) de_int) da_nil) rfl)) da_nil)) rfl))) dss_nil) (dss_one (ds_retT (dn_new T.n_Traveller rfl)))))))), ?_⟩
  intro m hm
  have e0 : stRho ["_law_model"] [moD m] = [some (.val (moD m))] := rfl
  rw [e0]
  have q1 : ∀ n : Int, madeM (Wide___init__F (.ins "Wide" [] []) [.int n]) = .ok (.ins "Wide" ["least_width"] [.sh (.int n)]) := fun n => by rw [Wide___init___eq]; rfl
  have q2 : ∀ n : Int, madeM (Short___init__F (.ins "Short" [] []) [.int n]) = .ok (.ins "Short" ["most_length"] [.sh (.int n)]) := fun n => by rw [Short___init___eq]; rfl
  have q3 : ∀ a b : D, madeM (Pair___init__F (.ins "Pair" [] []) [a, b]) = .ok (.ins "Pair" ["first", "second"] [.sh a, .sh b]) := fun a b => by rw [Pair___init___eq]; rfl
  cases m with
  | plain => exact ⟨_, rfl, rfl⟩
  | wide n =>
    refine ft_of ?_
    have i0 : dItm (moD (.wide n)) (.int 0) = .ok (.str "wide") := rfl
    have i1 : dItm (moD (.wide n)) (.int 1) = .ok (.int n) := rfl
    have s1 : dEq 16 (.str "wide") (.str "wide") = .ok (.bl true) := rfl
    simp only [rv0, rvS, lowR_vO, List.set_cons_zero, List.set_cons_succ, M.bind_ok, lowR_some, lowR_none, lowR_nil, lowC_val, lowC_own, lowC_anc, lowC_tr, er_dct, er_lst, er_sh, isPl_own, isPl_anc, isPl_tree, isPlS, shL_own, shL_anc, shL_tree, shLS, lstAt_own, lstAt_anc, lstAt_tree, lstAtS, dctAt_tree, dctAtS, updR_own, updR_anc, updR_tree, updRS, mapNx_ok, putT_nil, toCl_list, toCl_listP, toCl_dct, setT_sh, setT_lst, setT_tup, setT_dct, setT_ins, retT_sh, retT_lst, retT_tup, retT_dct, erM, shM, appM_own, appMS, insM_own, insMS, retC_val, retC_own, retC_ow, retCS, muC, muN, muSo, ifl0, ifl1, ifl2, ifl3, ifl4, toCl_nil, compR, compT, asB, asSh_l, optM_some, dEq_int, dNe_int, dAdd_int, dSub_int, dLt_int, dLe_int, dGt_int, dGe_int, asI_int, dLen_lst, dLen_tup, newL_lst, newL_tup, dSum_ints, isTyM_lst, isTyM_tup, isTyM_int, isTyM_non, isTyM_bl, isTyM_str, isTyM_dct, ty_ll, ty_tt, ty_ii, ty_ib, ty_dd, dMem_ints, ite_tt, ite_ff, Bool.not_true, Bool.not_false, List.getElem?_cons_zero, List.getElem?_cons_succ, onInts_ii, dAll_map, dAny_map, frz0, frzN, frzS, ifl5, ifl6, ifl7, er_dct0, i0, i1, s1, q1]
    exact ⟨_, rfl, rfl⟩
  | short n =>
    refine ft_of ?_
    have i0 : dItm (moD (.short n)) (.int 0) = .ok (.str "short") := rfl
    have i1 : dItm (moD (.short n)) (.int 1) = .ok (.int n) := rfl
    have s1 : dEq 16 (.str "short") (.str "wide") = .ok (.bl false) := rfl
    have s2 : dEq 16 (.str "short") (.str "short") = .ok (.bl true) := rfl
    apply wp_step
    · simp only [rv0, rvS, lowR_vO, List.set_cons_zero, List.set_cons_succ, M.bind_ok, lowR_some, lowR_none, lowR_nil, lowC_val, lowC_own, lowC_anc, lowC_tr, er_dct, er_lst, er_sh, isPl_own, isPl_anc, isPl_tree, isPlS, shL_own, shL_anc, shL_tree, shLS, lstAt_own, lstAt_anc, lstAt_tree, lstAtS, dctAt_tree, dctAtS, updR_own, updR_anc, updR_tree, updRS, mapNx_ok, putT_nil, toCl_list, toCl_listP, toCl_dct, setT_sh, setT_lst, setT_tup, setT_dct, setT_ins, retT_sh, retT_lst, retT_tup, retT_dct, erM, shM, appM_own, appMS, insM_own, insMS, retC_val, retC_own, retC_ow, retCS, muC, muN, muSo, ifl0, ifl1, ifl2, ifl3, ifl4, toCl_nil, compR, compT, asB, asSh_l, optM_some, dEq_int, dNe_int, dAdd_int, dSub_int, dLt_int, dLe_int, dGt_int, dGe_int, asI_int, dLen_lst, dLen_tup, newL_lst, newL_tup, dSum_ints, isTyM_lst, isTyM_tup, isTyM_int, isTyM_non, isTyM_bl, isTyM_str, isTyM_dct, ty_ll, ty_tt, ty_ii, ty_ib, ty_dd, dMem_ints, ite_tt, ite_ff, Bool.not_true, Bool.not_false, List.getElem?_cons_zero, List.getElem?_cons_succ, onInts_ii, dAll_map, dAny_map, frz0, frzN, frzS, ifl5, ifl6, ifl7, er_dct0, i0, s1]; rfl
    simp only [rv0, rvS, lowR_vO, List.set_cons_zero, List.set_cons_succ, M.bind_ok, lowR_some, lowR_none, lowR_nil, lowC_val, lowC_own, lowC_anc, lowC_tr, er_dct, er_lst, er_sh, isPl_own, isPl_anc, isPl_tree, isPlS, shL_own, shL_anc, shL_tree, shLS, lstAt_own, lstAt_anc, lstAt_tree, lstAtS, dctAt_tree, dctAtS, updR_own, updR_anc, updR_tree, updRS, mapNx_ok, putT_nil, toCl_list, toCl_listP, toCl_dct, setT_sh, setT_lst, setT_tup, setT_dct, setT_ins, retT_sh, retT_lst, retT_tup, retT_dct, erM, shM, appM_own, appMS, insM_own, insMS, retC_val, retC_own, retC_ow, retCS, muC, muN, muSo, ifl0, ifl1, ifl2, ifl3, ifl4, toCl_nil, compR, compT, asB, asSh_l, optM_some, dEq_int, dNe_int, dAdd_int, dSub_int, dLt_int, dLe_int, dGt_int, dGe_int, asI_int, dLen_lst, dLen_tup, newL_lst, newL_tup, dSum_ints, isTyM_lst, isTyM_tup, isTyM_int, isTyM_non, isTyM_bl, isTyM_str, isTyM_dct, ty_ll, ty_tt, ty_ii, ty_ib, ty_dd, dMem_ints, ite_tt, ite_ff, Bool.not_true, Bool.not_false, List.getElem?_cons_zero, List.getElem?_cons_succ, onInts_ii, dAll_map, dAny_map, frz0, frzN, frzS, ifl5, ifl6, ifl7, er_dct0, i0, i1, s2, q2]
    exact ⟨_, rfl, rfl⟩
  | even => exact ⟨_, rfl, rfl⟩
  | pair a b =>
    obtain ⟨t1, h1, e1⟩ := law_made2_eq a (by simp only [moDep] at hm; omega)
    obtain ⟨t2, h2, e2⟩ := law_made2_eq b (by simp only [moDep] at hm; omega)
    refine ft_of ?_
    have i0 : dItm (moD (.pair a b)) (.int 0) = .ok (.str "pair") := rfl
    have i1 : dItm (moD (.pair a b)) (.int 1) = .ok (moD a) := rfl
    have i2 : dItm (moD (.pair a b)) (.int 2) = .ok (moD b) := rfl
    have s1 : dEq 16 (.str "pair") (.str "wide") = .ok (.bl false) := rfl
    have s2 : dEq 16 (.str "pair") (.str "short") = .ok (.bl false) := rfl
    have s3 : dEq 16 (.str "pair") (.str "even") = .ok (.bl false) := rfl
    have s4 : dEq 16 (.str "pair") (.str "pair") = .ok (.bl true) := rfl
    apply wp_step
    · simp only [rv0, rvS, lowR_vO, List.set_cons_zero, List.set_cons_succ, M.bind_ok, lowR_some, lowR_none, lowR_nil, lowC_val, lowC_own, lowC_anc, lowC_tr, er_dct, er_lst, er_sh, isPl_own, isPl_anc, isPl_tree, isPlS, shL_own, shL_anc, shL_tree, shLS, lstAt_own, lstAt_anc, lstAt_tree, lstAtS, dctAt_tree, dctAtS, updR_own, updR_anc, updR_tree, updRS, mapNx_ok, putT_nil, toCl_list, toCl_listP, toCl_dct, setT_sh, setT_lst, setT_tup, setT_dct, setT_ins, retT_sh, retT_lst, retT_tup, retT_dct, erM, shM, appM_own, appMS, insM_own, insMS, retC_val, retC_own, retC_ow, retCS, muC, muN, muSo, ifl0, ifl1, ifl2, ifl3, ifl4, toCl_nil, compR, compT, asB, asSh_l, optM_some, dEq_int, dNe_int, dAdd_int, dSub_int, dLt_int, dLe_int, dGt_int, dGe_int, asI_int, dLen_lst, dLen_tup, newL_lst, newL_tup, dSum_ints, isTyM_lst, isTyM_tup, isTyM_int, isTyM_non, isTyM_bl, isTyM_str, isTyM_dct, ty_ll, ty_tt, ty_ii, ty_ib, ty_dd, dMem_ints, ite_tt, ite_ff, Bool.not_true, Bool.not_false, List.getElem?_cons_zero, List.getElem?_cons_succ, onInts_ii, dAll_map, dAny_map, frz0, frzN, frzS, ifl5, ifl6, ifl7, er_dct0, i0, s1]; rfl
    apply wp_step
    · simp only [rv0, rvS, lowR_vO, List.set_cons_zero, List.set_cons_succ, M.bind_ok, lowR_some, lowR_none, lowR_nil, lowC_val, lowC_own, lowC_anc, lowC_tr, er_dct, er_lst, er_sh, isPl_own, isPl_anc, isPl_tree, isPlS, shL_own, shL_anc, shL_tree, shLS, lstAt_own, lstAt_anc, lstAt_tree, lstAtS, dctAt_tree, dctAtS, updR_own, updR_anc, updR_tree, updRS, mapNx_ok, putT_nil, toCl_list, toCl_listP, toCl_dct, setT_sh, setT_lst, setT_tup, setT_dct, setT_ins, retT_sh, retT_lst, retT_tup, retT_dct, erM, shM, appM_own, appMS, insM_own, insMS, retC_val, retC_own, retC_ow, retCS, muC, muN, muSo, ifl0, ifl1, ifl2, ifl3, ifl4, toCl_nil, compR, compT, asB, asSh_l, optM_some, dEq_int, dNe_int, dAdd_int, dSub_int, dLt_int, dLe_int, dGt_int, dGe_int, asI_int, dLen_lst, dLen_tup, newL_lst, newL_tup, dSum_ints, isTyM_lst, isTyM_tup, isTyM_int, isTyM_non, isTyM_bl, isTyM_str, isTyM_dct, ty_ll, ty_tt, ty_ii, ty_ib, ty_dd, dMem_ints, ite_tt, ite_ff, Bool.not_true, Bool.not_false, List.getElem?_cons_zero, List.getElem?_cons_succ, onInts_ii, dAll_map, dAny_map, frz0, frzN, frzS, ifl5, ifl6, ifl7, er_dct0, i0, s2]; rfl
    apply wp_step
    · simp only [rv0, rvS, lowR_vO, List.set_cons_zero, List.set_cons_succ, M.bind_ok, lowR_some, lowR_none, lowR_nil, lowC_val, lowC_own, lowC_anc, lowC_tr, er_dct, er_lst, er_sh, isPl_own, isPl_anc, isPl_tree, isPlS, shL_own, shL_anc, shL_tree, shLS, lstAt_own, lstAt_anc, lstAt_tree, lstAtS, dctAt_tree, dctAtS, updR_own, updR_anc, updR_tree, updRS, mapNx_ok, putT_nil, toCl_list, toCl_listP, toCl_dct, setT_sh, setT_lst, setT_tup, setT_dct, setT_ins, retT_sh, retT_lst, retT_tup, retT_dct, erM, shM, appM_own, appMS, insM_own, insMS, retC_val, retC_own, retC_ow, retCS, muC, muN, muSo, ifl0, ifl1, ifl2, ifl3, ifl4, toCl_nil, compR, compT, asB, asSh_l, optM_some, dEq_int, dNe_int, dAdd_int, dSub_int, dLt_int, dLe_int, dGt_int, dGe_int, asI_int, dLen_lst, dLen_tup, newL_lst, newL_tup, dSum_ints, isTyM_lst, isTyM_tup, isTyM_int, isTyM_non, isTyM_bl, isTyM_str, isTyM_dct, ty_ll, ty_tt, ty_ii, ty_ib, ty_dd, dMem_ints, ite_tt, ite_ff, Bool.not_true, Bool.not_false, List.getElem?_cons_zero, List.getElem?_cons_succ, onInts_ii, dAll_map, dAny_map, frz0, frzN, frzS, ifl5, ifl6, ifl7, er_dct0, i0, s3]; rfl
    simp only [rv0, rvS, lowR_vO, List.set_cons_zero, List.set_cons_succ, M.bind_ok, lowR_some, lowR_none, lowR_nil, lowC_val, lowC_own, lowC_anc, lowC_tr, er_dct, er_lst, er_sh, isPl_own, isPl_anc, isPl_tree, isPlS, shL_own, shL_anc, shL_tree, shLS, lstAt_own, lstAt_anc, lstAt_tree, lstAtS, dctAt_tree, dctAtS, updR_own, updR_anc, updR_tree, updRS, mapNx_ok, putT_nil, toCl_list, toCl_listP, toCl_dct, setT_sh, setT_lst, setT_tup, setT_dct, setT_ins, retT_sh, retT_lst, retT_tup, retT_dct, erM, shM, appM_own, appMS, insM_own, insMS, retC_val, retC_own, retC_ow, retCS, muC, muN, muSo, ifl0, ifl1, ifl2, ifl3, ifl4, toCl_nil, compR, compT, asB, asSh_l, optM_some, dEq_int, dNe_int, dAdd_int, dSub_int, dLt_int, dLe_int, dGt_int, dGe_int, asI_int, dLen_lst, dLen_tup, newL_lst, newL_tup, dSum_ints, isTyM_lst, isTyM_tup, isTyM_int, isTyM_non, isTyM_bl, isTyM_str, isTyM_dct, ty_ll, ty_tt, ty_ii, ty_ib, ty_dd, dMem_ints, ite_tt, ite_ff, Bool.not_true, Bool.not_false, List.getElem?_cons_zero, List.getElem?_cons_succ, onInts_ii, dAll_map, dAny_map, frz0, frzN, frzS, ifl5, ifl6, ifl7, er_dct0, i0, i1, i2, s4, h1, h2, e1, e2, q3]
    exact ⟨_, rfl, rfl⟩
noncomputable def law_made3F : List D → M OT := Classical.choose ex_law_made3
theorem law_made3_at {P : Program} {w : World} {K : PySem.W.Frag} {mg : Str → Option Value} {base : Heap} : Txt K mg → FnT P w K mg base "_law_made" 5 1 law_made3F := (Classical.choose_spec ex_law_made3).1
theorem law_made3_eq : ∀ m : Mo, moDep m < 3 → ∃ t, law_made3F [moD m] = .ok t ∧ er t = moO m := (Classical.choose_spec ex_law_made3).2
theorem ex_law_made : ∃ F : List D → M OT, (∀ {P : Program} {w : World} {K : PySem.W.Frag} {mg : Str → Option Value} {base : Heap}, Txt K mg → FnT P w K mg base "_law_made" 6 1 F) ∧ (∀ m : Mo, moDep m < 4 → ∃ t, F [moD m] = .ok t ∧ er t = moO m) := by
  refine ⟨_, fun T => fnT_of (k := 5) T.f_law_made sc_law_made _ (fun f cdv A outer s H E hr => (dss_cons (ds_if (dt_eq (c := true) (huR hr 16 (by decide)) (de_itm (huR hr 16 (by decide)) (de_var 0 (pv 0)) de_int) de_str) (dss_one (ds_retT (dn_make xok_def.toXCall (Wide___init___at T) (hr.mono (by decide)) rfl (da_cons (de_itm (huR hr 16 (by decide)) (de_var 0 (pv 0)) de_int) da_nil) rfl))) dss_nil) (dss_cons (ds_if (dt_eq (c := true) (huR hr 16 (by decide)) (de_itm (huR hr 16 (by decide)) (de_var 0 (pv 0)) de_int) de_str) (dss_one (ds_retT (dn_make xok_def.toXCall (Short___init___at T) (hr.mono (by decide)) rfl (da_cons (de_itm (huR hr 16 (by decide)) (de_var 0 (pv 0)) de_int) da_nil) rfl))) dss_nil) (dss_cons (ds_if (dt_eq (c := true) (huR hr 16 (by decide)) (de_itm (huR hr 16 (by decide)) (de_var 0 (pv 0)) de_int) de_str) (dss_one (ds_retT (dn_new T.n_Even rfl))) dss_nil) (dss_cons (ds_if (dt_eq (c := true) (huR hr 16 (by decide)) (de_itm (huR hr 16 (by decide)) (de_var 0 (pv 0)) de_int) de_str) (dss_one (ds_retT (dn_make xok_def.toXCall (Pair___init___at T) (hr.mono (by decide)) rfl (da_cons (de_dn (dn_call xok_def.toXCall (law_made3_at T) (hr.mono (by decide)) rfl (da_cons (de_itm (huR hr 16 (by decide)) (de_var 0 (pv 0)) de_int) da_nil) rfl)) (da_cons (de_dn (dn_call xok_def.toXCall (law_made3_at T) (hr.mono (by decide)) rfl (da_cons (de_itm (huR hr 16 (by decide)) (de_var 0 (pv 0)) de_int) da_nil) rfl)) da_nil)) rfl))) dss_nil) (dss_one (ds_retT (dn_new T.n_Traveller rfl)))))))), ?_⟩
  intro m hm
  have e0 : stRho ["_law_model"] [moD m] = [some (.val (moD m))] := rfl
  rw [e0]
  have q1 : ∀ n : Int, madeM (Wide___init__F (.ins "Wide" [] []) [.int n]) = .ok (.ins "Wide" ["least_width"] [.sh (.int n)]) := fun n => by rw [Wide___init___eq]; rfl
  have q2 : ∀ n : Int, madeM (Short___init__F (.ins "Short" [] []) [.int n]) = .ok (.ins "Short" ["most_length"] [.sh (.int n)]) := fun n => by rw [Short___init___eq]; rfl
  have q3 : ∀ a b : D, madeM (Pair___init__F (.ins "Pair" [] []) [a, b]) = .ok (.ins "Pair" ["first", "second"] [.sh a, .sh b]) := fun a b => by rw [Pair___init___eq]; rfl
  cases m with
  | plain => exact ⟨_, rfl, rfl⟩
  | wide n =>
    refine ft_of ?_
    have i0 : dItm (moD (.wide n)) (.int 0) = .ok (.str "wide") := rfl
    have i1 : dItm (moD (.wide n)) (.int 1) = .ok (.int n) := rfl
    have s1 : dEq 16 (.str "wide") (.str "wide") = .ok (.bl true) := rfl
    simp only [rv0, rvS, lowR_vO, List.set_cons_zero, List.set_cons_succ, M.bind_ok, lowR_some, lowR_none, lowR_nil, lowC_val, lowC_own, lowC_anc, lowC_tr, er_dct, er_lst, er_sh, isPl_own, isPl_anc, isPl_tree, isPlS, shL_own, shL_anc, shL_tree, shLS, lstAt_own, lstAt_anc, lstAt_tree, lstAtS, dctAt_tree, dctAtS, updR_own, updR_anc, updR_tree, updRS, mapNx_ok, putT_nil, toCl_list, toCl_listP, toCl_dct, setT_sh, setT_lst, setT_tup, setT_dct, setT_ins, retT_sh, retT_lst, retT_tup, retT_dct, erM, shM, appM_own, appMS, insM_own, insMS, retC_val, retC_own, retC_ow, retCS, muC, muN, muSo, ifl0, ifl1, ifl2, ifl3, ifl4, toCl_nil, compR, compT, asB, asSh_l, optM_some, dEq_int, dNe_int, dAdd_int, dSub_int, dLt_int, dLe_int, dGt_int, dGe_int, asI_int, dLen_lst, dLen_tup, newL_lst, newL_tup, dSum_ints, isTyM_lst, isTyM_tup, isTyM_int, isTyM_non, isTyM_bl, isTyM_str, isTyM_dct, ty_ll, ty_tt, ty_ii, ty_ib, ty_dd, dMem_ints, ite_tt, ite_ff, Bool.not_true, Bool.not_false, List.getElem?_cons_zero, List.getElem?_cons_succ, onInts_ii, dAll_map, dAny_map, frz0, frzN, frzS, ifl5, ifl6, ifl7, er_dct0, i0, i1, s1, q1]
    exact ⟨_, rfl, rfl⟩
  | short n =>
    refine ft_of ?_
    have i0 : dItm (moD (.short n)) (.int 0) = .ok (.str "short") := rfl
    have i1 : dItm (moD (.short n)) (.int 1) = .ok (.int n) := rfl
    have s1 : dEq 16 (.str "short") (.str "wide") = .ok (.bl false) := rfl
    have s2 : dEq 16 (.str "short") (.str "short") = .ok (.bl true) := rfl
    apply wp_step
    · simp only [rv0, rvS, lowR_vO, List.set_cons_zero, List.set_cons_succ, M.bind_ok, lowR_some, lowR_none, lowR_nil, lowC_val, lowC_own, lowC_anc, lowC_tr, er_dct, er_lst, er_sh, isPl_own, isPl_anc, isPl_tree, isPlS, shL_own, shL_anc, shL_tree, shLS, lstAt_own, lstAt_anc, lstAt_tree, lstAtS, dctAt_tree, dctAtS, updR_own, updR_anc, updR_tree, updRS, mapNx_ok, putT_nil, toCl_list, toCl_listP, toCl_dct, setT_sh, setT_lst, setT_tup, setT_dct, setT_ins, retT_sh, retT_lst, retT_tup, retT_dct, erM, shM, appM_own, appMS, insM_own, insMS, retC_val, retC_own, retC_ow, retCS, muC, muN, muSo, ifl0, ifl1, ifl2, ifl3, ifl4, toCl_nil, compR, compT, asB, asSh_l, optM_some, dEq_int, dNe_int, dAdd_int, dSub_int, dLt_int, dLe_int, dGt_int, dGe_int, asI_int, dLen_lst, dLen_tup, newL_lst, newL_tup, dSum_ints, isTyM_lst, isTyM_tup, isTyM_int, isTyM_non, isTyM_bl, isTyM_str, isTyM_dct, ty_ll, ty_tt, ty_ii, ty_ib, ty_dd, dMem_ints, ite_tt, ite_ff, Bool.not_true, Bool.not_false, List.getElem?_cons_zero, List.getElem?_cons_succ, onInts_ii, dAll_map, dAny_map, frz0, frzN, frzS, ifl5, ifl6, ifl7, er_dct0, i0, s1]; rfl
    simp only [rv0, rvS, lowR_vO, List.set_cons_zero, List.set_cons_succ, M.bind_ok, lowR_some, lowR_none, lowR_nil, lowC_val, lowC_own, lowC_anc, lowC_tr, er_dct, er_lst, er_sh, isPl_own, isPl_anc, isPl_tree, isPlS, shL_own, shL_anc, shL_tree, shLS, lstAt_own, lstAt_anc, lstAt_tree, lstAtS, dctAt_tree, dctAtS, updR_own, updR_anc, updR_tree, updRS, mapNx_ok, putT_nil, toCl_list, toCl_listP, toCl_dct, setT_sh, setT_lst, setT_tup, setT_dct, setT_ins, retT_sh, retT_lst, retT_tup, retT_dct, erM, shM, appM_own, appMS, insM_own, insMS, retC_val, retC_own, retC_ow, retCS, muC, muN, muSo, ifl0, ifl1, ifl2, ifl3, ifl4, toCl_nil, compR, compT, asB, asSh_l, optM_some, dEq_int, dNe_int, dAdd_int, dSub_int, dLt_int, dLe_int, dGt_int, dGe_int, asI_int, dLen_lst, dLen_tup, newL_lst, newL_tup, dSum_ints, isTyM_lst, isTyM_tup, isTyM_int, isTyM_non, isTyM_bl, isTyM_str, isTyM_dct, ty_ll, ty_tt, ty_ii, ty_ib, ty_dd, dMem_ints, ite_tt, ite_ff, Bool.not_true, Bool.not_false, List.getElem?_cons_zero, List.getElem?_cons_succ, onInts_ii, dAll_map, dAny_map, frz0, frzN, frzS, ifl5, ifl6, ifl7, er_dct0, i0, i1, s2, q2]
    exact ⟨_, rfl, rfl⟩
  | even => exact ⟨_, rfl, rfl⟩
  | pair a b =>
    obtain ⟨t1, h1, e1⟩ := law_made3_eq a (by simp only [moDep] at hm; omega)
    obtain ⟨t2, h2, e2⟩ := law_made3_eq b (by simp only [moDep] at hm; omega)
    refine ft_of ?_
    have i0 : dItm (moD (.pair a b)) (.int 0) = .ok (.str "pair") := rfl
    have i1 : dItm (moD (.pair a b)) (.int 1) = .ok (moD a) := rfl
    have i2 : dItm (moD (.pair a b)) (.int 2) = .ok (moD b) := rfl
    have s1 : dEq 16 (.str "pair") (.str "wide") = .ok (.bl false) := rfl
    have s2 : dEq 16 (.str "pair") (.str "short") = .ok (.bl false) := rfl
    have s3 : dEq 16 (.str "pair") (.str "even") = .ok (.bl false) := rfl
    have s4 : dEq 16 (.str "pair") (.str "pair") = .ok (.bl true) := rfl
    apply wp_step
    · simp only [rv0, rvS, lowR_vO, List.set_cons_zero, List.set_cons_succ, M.bind_ok, lowR_some, lowR_none, lowR_nil, lowC_val, lowC_own, lowC_anc, lowC_tr, er_dct, er_lst, er_sh, isPl_own, isPl_anc, isPl_tree, isPlS, shL_own, shL_anc, shL_tree, shLS, lstAt_own, lstAt_anc, lstAt_tree, lstAtS, dctAt_tree, dctAtS, updR_own, updR_anc, updR_tree, updRS, mapNx_ok, putT_nil, toCl_list, toCl_listP, toCl_dct, setT_sh, setT_lst, setT_tup, setT_dct, setT_ins, retT_sh, retT_lst, retT_tup, retT_dct, erM, shM, appM_own, appMS, insM_own, insMS, retC_val, retC_own, retC_ow, retCS, muC, muN, muSo, ifl0, ifl1, ifl2, ifl3, ifl4, toCl_nil, compR, compT, asB, asSh_l, optM_some, dEq_int, dNe_int, dAdd_int, dSub_int, dLt_int, dLe_int, dGt_int, dGe_int, asI_int, dLen_lst, dLen_tup, newL_lst, newL_tup, dSum_ints, isTyM_lst, isTyM_tup, isTyM_int, isTyM_non, isTyM_bl, isTyM_str, isTyM_dct, ty_ll, ty_tt, ty_ii, ty_ib, ty_dd, dMem_ints, ite_tt, ite_ff, Bool.not_true, Bool.not_false, List.getElem?_cons_zero, List.getElem?_cons_succ, onInts_ii, dAll_map, dAny_map, frz0, frzN, frzS, ifl5, ifl6, ifl7, er_dct0, i0, s1]; rfl
    apply wp_step
    · simp only [rv0, rvS, lowR_vO, List.set_cons_zero, List.set_cons_succ, M.bind_ok, lowR_some, lowR_none, lowR_nil, lowC_val, lowC_own, lowC_anc, lowC_tr, er_dct, er_lst, er_sh, isPl_own, isPl_anc, isPl_tree, isPlS, shL_own, shL_anc, shL_tree, shLS, lstAt_own, lstAt_anc, lstAt_tree, lstAtS, dctAt_tree, dctAtS, updR_own, updR_anc, updR_tree, updRS, mapNx_ok, putT_nil, toCl_list, toCl_listP, toCl_dct, setT_sh, setT_lst, setT_tup, setT_dct, setT_ins, retT_sh, retT_lst, retT_tup, retT_dct, erM, shM, appM_own, appMS, insM_own, insMS, retC_val, retC_own, retC_ow, retCS, muC, muN, muSo, ifl0, ifl1, ifl2, ifl3, ifl4, toCl_nil, compR, compT, asB, asSh_l, optM_some, dEq_int, dNe_int, dAdd_int, dSub_int, dLt_int, dLe_int, dGt_int, dGe_int, asI_int, dLen_lst, dLen_tup, newL_lst, newL_tup, dSum_ints, isTyM_lst, isTyM_tup, isTyM_int, isTyM_non, isTyM_bl, isTyM_str, isTyM_dct, ty_ll, ty_tt, ty_ii, ty_ib, ty_dd, dMem_ints, ite_tt, ite_ff, Bool.not_true, Bool.not_false, List.getElem?_cons_zero, List.getElem?_cons_succ, onInts_ii, dAll_map, dAny_map, frz0, frzN, frzS, ifl5, ifl6, ifl7, er_dct0, i0, s2]; rfl
    apply wp_step
    · simp only [rv0, rvS, lowR_vO, List.set_cons_zero, List.set_cons_succ, M.bind_ok, lowR_some, lowR_none, lowR_nil, lowC_val, lowC_own, lowC_anc, lowC_tr, er_dct, er_lst, er_sh, isPl_own, isPl_anc, isPl_tree, isPlS, shL_own, shL_anc, shL_tree, shLS, lstAt_own, lstAt_anc, lstAt_tree, lstAtS, dctAt_tree, dctAtS, updR_own, updR_anc, updR_tree, updRS, mapNx_ok, putT_nil, toCl_list, toCl_listP, toCl_dct, setT_sh, setT_lst, setT_tup, setT_dct, setT_ins, retT_sh, retT_lst, retT_tup, retT_dct, erM, shM, appM_own, appMS, insM_own, insMS, retC_val, retC_own, retC_ow, retCS, muC, muN, muSo, ifl0, ifl1, ifl2, ifl3, ifl4, toCl_nil, compR, compT, asB, asSh_l, optM_some, dEq_int, dNe_int, dAdd_int, dSub_int, dLt_int, dLe_int, dGt_int, dGe_int, asI_int, dLen_lst, dLen_tup, newL_lst, newL_tup, dSum_ints, isTyM_lst, isTyM_tup, isTyM_int, isTyM_non, isTyM_bl, isTyM_str, isTyM_dct, ty_ll, ty_tt, ty_ii, ty_ib, ty_dd, dMem_ints, ite_tt, ite_ff, Bool.not_true, Bool.not_false, List.getElem?_cons_zero, List.getElem?_cons_succ, onInts_ii, dAll_map, dAny_map, frz0, frzN, frzS, ifl5, ifl6, ifl7, er_dct0, i0, s3]; rfl
    simp only [rv0, rvS, lowR_vO, List.set_cons_zero, List.set_cons_succ, M.bind_ok, lowR_some, lowR_none, lowR_nil, lowC_val, lowC_own, lowC_anc, lowC_tr, er_dct, er_lst, er_sh, isPl_own, isPl_anc, isPl_tree, isPlS, shL_own, shL_anc, shL_tree, shLS, lstAt_own, lstAt_anc, lstAt_tree, lstAtS, dctAt_tree, dctAtS, updR_own, updR_anc, updR_tree, updRS, mapNx_ok, putT_nil, toCl_list, toCl_listP, toCl_dct, setT_sh, setT_lst, setT_tup, setT_dct, setT_ins, retT_sh, retT_lst, retT_tup, retT_dct, erM, shM, appM_own, appMS, insM_own, insMS, retC_val, retC_own, retC_ow, retCS, muC, muN, muSo, ifl0, ifl1, ifl2, ifl3, ifl4, toCl_nil, compR, compT, asB, asSh_l, optM_some, dEq_int, dNe_int, dAdd_int, dSub_int, dLt_int, dLe_int, dGt_int, dGe_int, asI_int, dLen_lst, dLen_tup, newL_lst, newL_tup, dSum_ints, isTyM_lst, isTyM_tup, isTyM_int, isTyM_non, isTyM_bl, isTyM_str, isTyM_dct, ty_ll, ty_tt, ty_ii, ty_ib, ty_dd, dMem_ints, ite_tt, ite_ff, Bool.not_true, Bool.not_false, List.getElem?_cons_zero, List.getElem?_cons_succ, onInts_ii, dAll_map, dAny_map, frz0, frzN, frzS, ifl5, ifl6, ifl7, er_dct0, i0, i1, i2, s4, h1, h2, e1, e2, q3]
    exact ⟨_, rfl, rfl⟩
noncomputable def law_madeF : List D → M OT := Classical.choose ex_law_made
theorem law_made_at {P : Program} {w : World} {K : PySem.W.Frag} {mg : Str → Option Value} {base : Heap} : Txt K mg → FnT P w K mg base "_law_made" 6 1 law_madeF := (Classical.choose_spec ex_law_made).1
theorem law_made_eq : ∀ m : Mo, moDep m < 4 → ∃ t, law_madeF [moD m] = .ok t ∧ er t = moO m := (Classical.choose_spec ex_law_made).2
theorem ex_law_told1 : ∃ F : List D → M OT, (∀ {P : Program} {w : World} {K : PySem.W.Frag} {mg : Str → Option Value} {base : Heap}, Txt K mg → FnT P w K mg base "_law_told" 1 3 F) ∧ (∀ (m : Mo) (l : Option Int) (w : Int), moDep m < 1 → F [moD m, lenD l, .int w] = .ok (.sh (lenD (moT m l w)))) := by
  refine ⟨_, fun T => fnT_of (k := 0) T.f_law_told sc_law_told _ (fun f cdv A outer s H E hr => (dss_cons (ds_if (dt_isN (c := true) (de_var 1 (pv 1))) (dss_one (ds_retT (dn_sh de_non))) dss_nil) (dss_cons (ds_if (dt_eq (c := true) (huR hr 16 (by decide)) (de_itm (huR hr 16 (by decide)) (de_var 0 (pv 0)) de_int) de_str) (dss_one (ds_retT (dn_call xok_def.toXCall (fnT_bad T.f_law_told) (hr.mono (by decide)) rfl (da_cons (de_itm (huR hr 16 (by decide)) (de_var 0 (pv 0)) de_int) (da_cons (de_dn (dn_call xok_def.toXCall (fnT_bad T.f_law_told) (hr.mono (by decide)) rfl (da_cons (de_itm (huR hr 16 (by decide)) (de_var 0 (pv 0)) de_int) (da_cons (de_var 1 (pv 1)) (da_cons (de_var 2 (pv 2)) da_nil))) rfl)) (da_cons (de_var 2 (pv 2)) da_nil))) rfl))) dss_nil) (dss_cons (ds_if (DW.dt (dw_or (DW.dt (dw_and (dt_eq (c := true) (huR hr 16 (by decide)) (de_itm (huR hr 16 (by decide)) (de_var 0 (pv 0)) de_int) de_str) (dw_and1 (dt_lt (c := true) (de_var 2 (pv 2)) (de_itm (huR hr 16 (by decide)) (de_var 0 (pv 0)) de_int))))) (dw_or1 (DW.dt (dw_and (dt_eq (c := true) (huR hr 16 (by decide)) (de_itm (huR hr 16 (by decide)) (de_var 0 (pv 0)) de_int) de_str) (dw_and1 (dt_gt (c := true) (de_var 1 (pv 1)) (de_itm (huR hr 16 (by decide)) (de_var 0 (pv 0)) de_int)))))))) (dss_one (ds_retT (dn_sh de_non))) dss_nil) (dss_cons (ds_if (dt_eq (c := true) (huR hr 16 (by decide)) (de_itm (huR hr 16 (by decide)) (de_var 0 (pv 0)) de_int) de_str) (dss_one (ds_retT (dn_sh de_int))) dss_nil) (dss_one (ds_retT (dn_sh (de_var 1 (pv 1)))))))))), ?_⟩
  intro m l w hm
  have e0 : stRho ["_law_model", "_law_length_here", "_law_width"] [moD m, lenD l, .int w] = [some (.val (moD m)), some (.val (lenD l)), some (.val (.int w))] := rfl
  rw [e0]
  refine ft_eq ?_
  cases l with
  | none => rw [moT_none]; rfl
  | some z =>
  have lz : lenD (some z) = .int z := rfl
  apply wp_step
  · rfl
  cases m with
  | plain => rfl
  | wide n =>
    have i0 : dItm (moD (.wide n)) (.int 0) = .ok (.str "wide") := rfl
    have i1 : dItm (moD (.wide n)) (.int 1) = .ok (.int n) := rfl
    have s1 : dEq 16 (.str "wide") (.str "wide") = .ok (.bl true) := rfl
    have s2 : dEq 16 (.str "wide") (.str "pair") = .ok (.bl false) := rfl
    have s3 : dEq 16 (.str "wide") (.str "short") = .ok (.bl false) := rfl
    have s4 : dEq 16 (.str "wide") (.str "even") = .ok (.bl false) := rfl
    apply wp_step
    · simp only [rv0, rvS, lowR_vO, List.set_cons_zero, List.set_cons_succ, M.bind_ok, lowR_some, lowR_none, lowR_nil, lowC_val, lowC_own, lowC_anc, lowC_tr, er_dct, er_lst, er_sh, isPl_own, isPl_anc, isPl_tree, isPlS, shL_own, shL_anc, shL_tree, shLS, lstAt_own, lstAt_anc, lstAt_tree, lstAtS, dctAt_tree, dctAtS, updR_own, updR_anc, updR_tree, updRS, mapNx_ok, putT_nil, toCl_list, toCl_listP, toCl_dct, setT_sh, setT_lst, setT_tup, setT_dct, setT_ins, retT_sh, retT_lst, retT_tup, retT_dct, erM, shM, appM_own, appMS, insM_own, insMS, retC_val, retC_own, retC_ow, retCS, muC, muN, muSo, ifl0, ifl1, ifl2, ifl3, ifl4, toCl_nil, compR, compT, asB, asSh_l, optM_some, dEq_int, dNe_int, dAdd_int, dSub_int, dLt_int, dLe_int, dGt_int, dGe_int, asI_int, dLen_lst, dLen_tup, newL_lst, newL_tup, dSum_ints, isTyM_lst, isTyM_tup, isTyM_int, isTyM_non, isTyM_bl, isTyM_str, isTyM_dct, ty_ll, ty_tt, ty_ii, ty_ib, ty_dd, dMem_ints, ite_tt, ite_ff, Bool.not_true, Bool.not_false, List.getElem?_cons_zero, List.getElem?_cons_succ, onInts_ii, dAll_map, dAny_map, frz0, frzN, frzS, ifl5, ifl6, ifl7, er_dct0, i0, s2]; rfl
    by_cases h : w < n
    · simp only [rv0, rvS, lowR_vO, List.set_cons_zero, List.set_cons_succ, M.bind_ok, lowR_some, lowR_none, lowR_nil, lowC_val, lowC_own, lowC_anc, lowC_tr, er_dct, er_lst, er_sh, isPl_own, isPl_anc, isPl_tree, isPlS, shL_own, shL_anc, shL_tree, shLS, lstAt_own, lstAt_anc, lstAt_tree, lstAtS, dctAt_tree, dctAtS, updR_own, updR_anc, updR_tree, updRS, mapNx_ok, putT_nil, toCl_list, toCl_listP, toCl_dct, setT_sh, setT_lst, setT_tup, setT_dct, setT_ins, retT_sh, retT_lst, retT_tup, retT_dct, erM, shM, appM_own, appMS, insM_own, insMS, retC_val, retC_own, retC_ow, retCS, muC, muN, muSo, ifl0, ifl1, ifl2, ifl3, ifl4, toCl_nil, compR, compT, asB, asSh_l, optM_some, dEq_int, dNe_int, dAdd_int, dSub_int, dLt_int, dLe_int, dGt_int, dGe_int, asI_int, dLen_lst, dLen_tup, newL_lst, newL_tup, dSum_ints, isTyM_lst, isTyM_tup, isTyM_int, isTyM_non, isTyM_bl, isTyM_str, isTyM_dct, ty_ll, ty_tt, ty_ii, ty_ib, ty_dd, dMem_ints, ite_tt, ite_ff, Bool.not_true, Bool.not_false, List.getElem?_cons_zero, List.getElem?_cons_succ, onInts_ii, dAll_map, dAny_map, frz0, frzN, frzS, ifl5, ifl6, ifl7, er_dct0, i0, i1, s1, decide_eq_true h, moT, if_pos h]; rfl
    · apply wp_step
      · simp only [rv0, rvS, lowR_vO, List.set_cons_zero, List.set_cons_succ, M.bind_ok, lowR_some, lowR_none, lowR_nil, lowC_val, lowC_own, lowC_anc, lowC_tr, er_dct, er_lst, er_sh, isPl_own, isPl_anc, isPl_tree, isPlS, shL_own, shL_anc, shL_tree, shLS, lstAt_own, lstAt_anc, lstAt_tree, lstAtS, dctAt_tree, dctAtS, updR_own, updR_anc, updR_tree, updRS, mapNx_ok, putT_nil, toCl_list, toCl_listP, toCl_dct, setT_sh, setT_lst, setT_tup, setT_dct, setT_ins, retT_sh, retT_lst, retT_tup, retT_dct, erM, shM, appM_own, appMS, insM_own, insMS, retC_val, retC_own, retC_ow, retCS, muC, muN, muSo, ifl0, ifl1, ifl2, ifl3, ifl4, toCl_nil, compR, compT, asB, asSh_l, optM_some, dEq_int, dNe_int, dAdd_int, dSub_int, dLt_int, dLe_int, dGt_int, dGe_int, asI_int, dLen_lst, dLen_tup, newL_lst, newL_tup, dSum_ints, isTyM_lst, isTyM_tup, isTyM_int, isTyM_non, isTyM_bl, isTyM_str, isTyM_dct, ty_ll, ty_tt, ty_ii, ty_ib, ty_dd, dMem_ints, ite_tt, ite_ff, Bool.not_true, Bool.not_false, List.getElem?_cons_zero, List.getElem?_cons_succ, onInts_ii, dAll_map, dAny_map, frz0, frzN, frzS, ifl5, ifl6, ifl7, er_dct0, i0, i1, s1, s3, decide_eq_false h]; rfl
      apply wp_step
      · simp only [rv0, rvS, lowR_vO, List.set_cons_zero, List.set_cons_succ, M.bind_ok, lowR_some, lowR_none, lowR_nil, lowC_val, lowC_own, lowC_anc, lowC_tr, er_dct, er_lst, er_sh, isPl_own, isPl_anc, isPl_tree, isPlS, shL_own, shL_anc, shL_tree, shLS, lstAt_own, lstAt_anc, lstAt_tree, lstAtS, dctAt_tree, dctAtS, updR_own, updR_anc, updR_tree, updRS, mapNx_ok, putT_nil, toCl_list, toCl_listP, toCl_dct, setT_sh, setT_lst, setT_tup, setT_dct, setT_ins, retT_sh, retT_lst, retT_tup, retT_dct, erM, shM, appM_own, appMS, insM_own, insMS, retC_val, retC_own, retC_ow, retCS, muC, muN, muSo, ifl0, ifl1, ifl2, ifl3, ifl4, toCl_nil, compR, compT, asB, asSh_l, optM_some, dEq_int, dNe_int, dAdd_int, dSub_int, dLt_int, dLe_int, dGt_int, dGe_int, asI_int, dLen_lst, dLen_tup, newL_lst, newL_tup, dSum_ints, isTyM_lst, isTyM_tup, isTyM_int, isTyM_non, isTyM_bl, isTyM_str, isTyM_dct, ty_ll, ty_tt, ty_ii, ty_ib, ty_dd, dMem_ints, ite_tt, ite_ff, Bool.not_true, Bool.not_false, List.getElem?_cons_zero, List.getElem?_cons_succ, onInts_ii, dAll_map, dAny_map, frz0, frzN, frzS, ifl5, ifl6, ifl7, er_dct0, i0, s4]; rfl
      simp only [rv0, rvS, lowR_vO, List.set_cons_zero, List.set_cons_succ, M.bind_ok, lowR_some, lowR_none, lowR_nil, lowC_val, lowC_own, lowC_anc, lowC_tr, er_dct, er_lst, er_sh, isPl_own, isPl_anc, isPl_tree, isPlS, shL_own, shL_anc, shL_tree, shLS, lstAt_own, lstAt_anc, lstAt_tree, lstAtS, dctAt_tree, dctAtS, updR_own, updR_anc, updR_tree, updRS, mapNx_ok, putT_nil, toCl_list, toCl_listP, toCl_dct, setT_sh, setT_lst, setT_tup, setT_dct, setT_ins, retT_sh, retT_lst, retT_tup, retT_dct, erM, shM, appM_own, appMS, insM_own, insMS, retC_val, retC_own, retC_ow, retCS, muC, muN, muSo, ifl0, ifl1, ifl2, ifl3, ifl4, toCl_nil, compR, compT, asB, asSh_l, optM_some, dEq_int, dNe_int, dAdd_int, dSub_int, dLt_int, dLe_int, dGt_int, dGe_int, asI_int, dLen_lst, dLen_tup, newL_lst, newL_tup, dSum_ints, isTyM_lst, isTyM_tup, isTyM_int, isTyM_non, isTyM_bl, isTyM_str, isTyM_dct, ty_ll, ty_tt, ty_ii, ty_ib, ty_dd, dMem_ints, ite_tt, ite_ff, Bool.not_true, Bool.not_false, List.getElem?_cons_zero, List.getElem?_cons_succ, onInts_ii, dAll_map, dAny_map, frz0, frzN, frzS, ifl5, ifl6, ifl7, er_dct0, lz, moT, if_neg h]; rfl
  | short n =>
    have i0 : dItm (moD (.short n)) (.int 0) = .ok (.str "short") := rfl
    have i1 : dItm (moD (.short n)) (.int 1) = .ok (.int n) := rfl
    have s1 : dEq 16 (.str "short") (.str "wide") = .ok (.bl false) := rfl
    have s2 : dEq 16 (.str "short") (.str "pair") = .ok (.bl false) := rfl
    have s3 : dEq 16 (.str "short") (.str "short") = .ok (.bl true) := rfl
    have s4 : dEq 16 (.str "short") (.str "even") = .ok (.bl false) := rfl
    apply wp_step
    · simp only [rv0, rvS, lowR_vO, List.set_cons_zero, List.set_cons_succ, M.bind_ok, lowR_some, lowR_none, lowR_nil, lowC_val, lowC_own, lowC_anc, lowC_tr, er_dct, er_lst, er_sh, isPl_own, isPl_anc, isPl_tree, isPlS, shL_own, shL_anc, shL_tree, shLS, lstAt_own, lstAt_anc, lstAt_tree, lstAtS, dctAt_tree, dctAtS, updR_own, updR_anc, updR_tree, updRS, mapNx_ok, putT_nil, toCl_list, toCl_listP, toCl_dct, setT_sh, setT_lst, setT_tup, setT_dct, setT_ins, retT_sh, retT_lst, retT_tup, retT_dct, erM, shM, appM_own, appMS, insM_own, insMS, retC_val, retC_own, retC_ow, retCS, muC, muN, muSo, ifl0, ifl1, ifl2, ifl3, ifl4, toCl_nil, compR, compT, asB, asSh_l, optM_some, dEq_int, dNe_int, dAdd_int, dSub_int, dLt_int, dLe_int, dGt_int, dGe_int, asI_int, dLen_lst, dLen_tup, newL_lst, newL_tup, dSum_ints, isTyM_lst, isTyM_tup, isTyM_int, isTyM_non, isTyM_bl, isTyM_str, isTyM_dct, ty_ll, ty_tt, ty_ii, ty_ib, ty_dd, dMem_ints, ite_tt, ite_ff, Bool.not_true, Bool.not_false, List.getElem?_cons_zero, List.getElem?_cons_succ, onInts_ii, dAll_map, dAny_map, frz0, frzN, frzS, ifl5, ifl6, ifl7, er_dct0, i0, s2]; rfl
    by_cases h : n < z
    · simp only [rv0, rvS, lowR_vO, List.set_cons_zero, List.set_cons_succ, M.bind_ok, lowR_some, lowR_none, lowR_nil, lowC_val, lowC_own, lowC_anc, lowC_tr, er_dct, er_lst, er_sh, isPl_own, isPl_anc, isPl_tree, isPlS, shL_own, shL_anc, shL_tree, shLS, lstAt_own, lstAt_anc, lstAt_tree, lstAtS, dctAt_tree, dctAtS, updR_own, updR_anc, updR_tree, updRS, mapNx_ok, putT_nil, toCl_list, toCl_listP, toCl_dct, setT_sh, setT_lst, setT_tup, setT_dct, setT_ins, retT_sh, retT_lst, retT_tup, retT_dct, erM, shM, appM_own, appMS, insM_own, insMS, retC_val, retC_own, retC_ow, retCS, muC, muN, muSo, ifl0, ifl1, ifl2, ifl3, ifl4, toCl_nil, compR, compT, asB, asSh_l, optM_some, dEq_int, dNe_int, dAdd_int, dSub_int, dLt_int, dLe_int, dGt_int, dGe_int, asI_int, dLen_lst, dLen_tup, newL_lst, newL_tup, dSum_ints, isTyM_lst, isTyM_tup, isTyM_int, isTyM_non, isTyM_bl, isTyM_str, isTyM_dct, ty_ll, ty_tt, ty_ii, ty_ib, ty_dd, dMem_ints, ite_tt, ite_ff, Bool.not_true, Bool.not_false, List.getElem?_cons_zero, List.getElem?_cons_succ, onInts_ii, dAll_map, dAny_map, frz0, frzN, frzS, ifl5, ifl6, ifl7, er_dct0, lz, i0, i1, s1, s3, decide_eq_true h, moT, if_pos h]; rfl
    · apply wp_step
      · simp only [rv0, rvS, lowR_vO, List.set_cons_zero, List.set_cons_succ, M.bind_ok, lowR_some, lowR_none, lowR_nil, lowC_val, lowC_own, lowC_anc, lowC_tr, er_dct, er_lst, er_sh, isPl_own, isPl_anc, isPl_tree, isPlS, shL_own, shL_anc, shL_tree, shLS, lstAt_own, lstAt_anc, lstAt_tree, lstAtS, dctAt_tree, dctAtS, updR_own, updR_anc, updR_tree, updRS, mapNx_ok, putT_nil, toCl_list, toCl_listP, toCl_dct, setT_sh, setT_lst, setT_tup, setT_dct, setT_ins, retT_sh, retT_lst, retT_tup, retT_dct, erM, shM, appM_own, appMS, insM_own, insMS, retC_val, retC_own, retC_ow, retCS, muC, muN, muSo, ifl0, ifl1, ifl2, ifl3, ifl4, toCl_nil, compR, compT, asB, asSh_l, optM_some, dEq_int, dNe_int, dAdd_int, dSub_int, dLt_int, dLe_int, dGt_int, dGe_int, asI_int, dLen_lst, dLen_tup, newL_lst, newL_tup, dSum_ints, isTyM_lst, isTyM_tup, isTyM_int, isTyM_non, isTyM_bl, isTyM_str, isTyM_dct, ty_ll, ty_tt, ty_ii, ty_ib, ty_dd, dMem_ints, ite_tt, ite_ff, Bool.not_true, Bool.not_false, List.getElem?_cons_zero, List.getElem?_cons_succ, onInts_ii, dAll_map, dAny_map, frz0, frzN, frzS, ifl5, ifl6, ifl7, er_dct0, lz, i0, i1, s1, s3, decide_eq_false h]; rfl
      apply wp_step
      · simp only [rv0, rvS, lowR_vO, List.set_cons_zero, List.set_cons_succ, M.bind_ok, lowR_some, lowR_none, lowR_nil, lowC_val, lowC_own, lowC_anc, lowC_tr, er_dct, er_lst, er_sh, isPl_own, isPl_anc, isPl_tree, isPlS, shL_own, shL_anc, shL_tree, shLS, lstAt_own, lstAt_anc, lstAt_tree, lstAtS, dctAt_tree, dctAtS, updR_own, updR_anc, updR_tree, updRS, mapNx_ok, putT_nil, toCl_list, toCl_listP, toCl_dct, setT_sh, setT_lst, setT_tup, setT_dct, setT_ins, retT_sh, retT_lst, retT_tup, retT_dct, erM, shM, appM_own, appMS, insM_own, insMS, retC_val, retC_own, retC_ow, retCS, muC, muN, muSo, ifl0, ifl1, ifl2, ifl3, ifl4, toCl_nil, compR, compT, asB, asSh_l, optM_some, dEq_int, dNe_int, dAdd_int, dSub_int, dLt_int, dLe_int, dGt_int, dGe_int, asI_int, dLen_lst, dLen_tup, newL_lst, newL_tup, dSum_ints, isTyM_lst, isTyM_tup, isTyM_int, isTyM_non, isTyM_bl, isTyM_str, isTyM_dct, ty_ll, ty_tt, ty_ii, ty_ib, ty_dd, dMem_ints, ite_tt, ite_ff, Bool.not_true, Bool.not_false, List.getElem?_cons_zero, List.getElem?_cons_succ, onInts_ii, dAll_map, dAny_map, frz0, frzN, frzS, ifl5, ifl6, ifl7, er_dct0, i0, s4]; rfl
      simp only [rv0, rvS, lowR_vO, List.set_cons_zero, List.set_cons_succ, M.bind_ok, lowR_some, lowR_none, lowR_nil, lowC_val, lowC_own, lowC_anc, lowC_tr, er_dct, er_lst, er_sh, isPl_own, isPl_anc, isPl_tree, isPlS, shL_own, shL_anc, shL_tree, shLS, lstAt_own, lstAt_anc, lstAt_tree, lstAtS, dctAt_tree, dctAtS, updR_own, updR_anc, updR_tree, updRS, mapNx_ok, putT_nil, toCl_list, toCl_listP, toCl_dct, setT_sh, setT_lst, setT_tup, setT_dct, setT_ins, retT_sh, retT_lst, retT_tup, retT_dct, erM, shM, appM_own, appMS, insM_own, insMS, retC_val, retC_own, retC_ow, retCS, muC, muN, muSo, ifl0, ifl1, ifl2, ifl3, ifl4, toCl_nil, compR, compT, asB, asSh_l, optM_some, dEq_int, dNe_int, dAdd_int, dSub_int, dLt_int, dLe_int, dGt_int, dGe_int, asI_int, dLen_lst, dLen_tup, newL_lst, newL_tup, dSum_ints, isTyM_lst, isTyM_tup, isTyM_int, isTyM_non, isTyM_bl, isTyM_str, isTyM_dct, ty_ll, ty_tt, ty_ii, ty_ib, ty_dd, dMem_ints, ite_tt, ite_ff, Bool.not_true, Bool.not_false, List.getElem?_cons_zero, List.getElem?_cons_succ, onInts_ii, dAll_map, dAny_map, frz0, frzN, frzS, ifl5, ifl6, ifl7, er_dct0, lz, moT, if_neg h]; rfl
  | even => rfl
  | pair a b => exact (by simp only [moDep] at hm; omega : False).elim
noncomputable def law_told1F : List D → M OT := Classical.choose ex_law_told1
theorem law_told1_at {P : Program} {w : World} {K : PySem.W.Frag} {mg : Str → Option Value} {base : Heap} : Txt K mg → FnT P w K mg base "_law_told" 1 3 law_told1F := (Classical.choose_spec ex_law_told1).1
theorem law_told1_eq : ∀ (m : Mo) (l : Option Int) (w : Int), moDep m < 1 → law_told1F [moD m, lenD l, .int w] = .ok (.sh (lenD (moT m l w))) := (Classical.choose_spec ex_law_told1).2
theorem ex_law_told2 : ∃ F : List D → M OT, (∀ {P : Program} {w : World} {K : PySem.W.Frag} {mg : Str → Option Value} {base : Heap}, Txt K mg → FnT P w K mg base "_law_told" 2 3 F) ∧ (∀ (m : Mo) (l : Option Int) (w : Int), moDep m < 2 → F [moD m, lenD l, .int w] = .ok (.sh (lenD (moT m l w)))) := by
  refine ⟨_, fun T => fnT_of (k := 1) T.f_law_told sc_law_told _ (fun f cdv A outer s H E hr => (dss_cons (ds_if (dt_isN (c := true) (de_var 1 (pv 1))) (dss_one (ds_retT (dn_sh de_non))) dss_nil) (dss_cons (ds_if (dt_eq (c := true) (huR hr 16 (by decide)) (de_itm (huR hr 16 (by decide)) (de_var 0 (pv 0)) de_int) de_str) (dss_one (ds_retT (dn_call xok_def.toXCall (law_told1_at T) (hr.mono (by decide)) rfl (da_cons (de_itm (huR hr 16 (by decide)) (de_var 0 (pv 0)) de_int) (da_cons (de_dn (dn_call xok_def.toXCall (law_told1_at T) (hr.mono (by decide)) rfl (da_cons (de_itm (huR hr 16 (by decide)) (de_var 0 (pv 0)) de_int) (da_cons (de_var 1 (pv 1)) (da_cons (de_var 2 (pv 2)) da_nil))) rfl)) (da_cons (de_var 2 (pv 2)) da_nil))) rfl))) dss_nil) (dss_cons (ds_if (DW.dt (dw_or (DW.dt (dw_and (dt_eq (c := true) (huR hr 16 (by decide)) (de_itm (huR hr 16 (by decide)) (de_var 0 (pv 0)) de_int) de_str) (dw_and1 (dt_lt (c := true) (de_var 2 (pv 2)) (de_itm (huR hr 16 (by decide)) (de_var 0 (pv 0)) de_int))))) (dw_or1 (DW.dt (dw_and (dt_eq (c := true) (huR hr 16 (by decide)) (de_itm (huR hr 16 (by decide)) (de_var 0 (pv 0)) de_int) de_str) (dw_and1 (dt_gt (c := true) (de_var 1 (pv 1)) (de_itm (huR hr 16 (by decide)) (de_var 0 (pv 0)) de_int)))))))) (dss_one (ds_retT (dn_sh de_non))) dss_nil) (dss_cons (ds_if (dt_eq (c := true) (huR hr 16 (by decide)) (de_itm (huR hr 16 (by decide)) (de_var 0 (pv 0)) de_int) de_str) (dss_one (ds_retT (dn_sh de_int))) dss_nil) (dss_one (ds_retT (dn_sh (de_var 1 (pv 1)))))))))), ?_⟩
  intro m l w hm
  have e0 : stRho ["_law_model", "_law_length_here", "_law_width"] [moD m, lenD l, .int w] = [some (.val (moD m)), some (.val (lenD l)), some (.val (.int w))] := rfl
  rw [e0]
  refine ft_eq ?_
  cases l with
  | none => rw [moT_none]; rfl
  | some z =>
  have lz : lenD (some z) = .int z := rfl
  apply wp_step
  · rfl
  cases m with
  | plain => rfl
  | wide n =>
    have i0 : dItm (moD (.wide n)) (.int 0) = .ok (.str "wide") := rfl
    have i1 : dItm (moD (.wide n)) (.int 1) = .ok (.int n) := rfl
    have s1 : dEq 16 (.str "wide") (.str "wide") = .ok (.bl true) := rfl
    have s2 : dEq 16 (.str "wide") (.str "pair") = .ok (.bl false) := rfl
    have s3 : dEq 16 (.str "wide") (.str "short") = .ok (.bl false) := rfl
    have s4 : dEq 16 (.str "wide") (.str "even") = .ok (.bl false) := rfl
    apply wp_step
    · simp only [rv0, rvS, lowR_vO, List.set_cons_zero, List.set_cons_succ, M.bind_ok, lowR_some, lowR_none, lowR_nil, lowC_val, lowC_own, lowC_anc, lowC_tr, er_dct, er_lst, er_sh, isPl_own, isPl_anc, isPl_tree, isPlS, shL_own, shL_anc, shL_tree, shLS, lstAt_own, lstAt_anc, lstAt_tree, lstAtS, dctAt_tree, dctAtS, updR_own, updR_anc, updR_tree, updRS, mapNx_ok, putT_nil, toCl_list, toCl_listP, toCl_dct, setT_sh, setT_lst, setT_tup, setT_dct, setT_ins, retT_sh, retT_lst, retT_tup, retT_dct, erM, shM, appM_own, appMS, insM_own, insMS, retC_val, retC_own, retC_ow, retCS, muC, muN, muSo, ifl0, ifl1, ifl2, ifl3, ifl4, toCl_nil, compR, compT, asB, asSh_l, optM_some, dEq_int, dNe_int, dAdd_int, dSub_int, dLt_int, dLe_int, dGt_int, dGe_int, asI_int, dLen_lst, dLen_tup, newL_lst, newL_tup, dSum_ints, isTyM_lst, isTyM_tup, isTyM_int, isTyM_non, isTyM_bl, isTyM_str, isTyM_dct, ty_ll, ty_tt, ty_ii, ty_ib, ty_dd, dMem_ints, ite_tt, ite_ff, Bool.not_true, Bool.not_false, List.getElem?_cons_zero, List.getElem?_cons_succ, onInts_ii, dAll_map, dAny_map, frz0, frzN, frzS, ifl5, ifl6, ifl7, er_dct0, i0, s2]; rfl
    by_cases h : w < n
    · simp only [rv0, rvS, lowR_vO, List.set_cons_zero, List.set_cons_succ, M.bind_ok, lowR_some, lowR_none, lowR_nil, lowC_val, lowC_own, lowC_anc, lowC_tr, er_dct, er_lst, er_sh, isPl_own, isPl_anc, isPl_tree, isPlS, shL_own, shL_anc, shL_tree, shLS, lstAt_own, lstAt_anc, lstAt_tree, lstAtS, dctAt_tree, dctAtS, updR_own, updR_anc, updR_tree, updRS, mapNx_ok, putT_nil, toCl_list, toCl_listP, toCl_dct, setT_sh, setT_lst, setT_tup, setT_dct, setT_ins, retT_sh, retT_lst, retT_tup, retT_dct, erM, shM, appM_own, appMS, insM_own, insMS, retC_val, retC_own, retC_ow, retCS, muC, muN, muSo, ifl0, ifl1, ifl2, ifl3, ifl4, toCl_nil, compR, compT, asB, asSh_l, optM_some, dEq_int, dNe_int, dAdd_int, dSub_int, dLt_int, dLe_int, dGt_int, dGe_int, asI_int, dLen_lst, dLen_tup, newL_lst, newL_tup, dSum_ints, isTyM_lst, isTyM_tup, isTyM_int, isTyM_non, isTyM_bl, isTyM_str, isTyM_dct, ty_ll, ty_tt, ty_ii, ty_ib, ty_dd, dMem_ints, ite_tt, ite_ff, Bool.not_true, Bool.not_false, List.getElem?_cons_zero, List.getElem?_cons_succ, onInts_ii, dAll_map, dAny_map, frz0, frzN, frzS, ifl5, ifl6, ifl7, er_dct0, i0, i1, s1, decide_eq_true h, moT, if_pos h]; rfl
    · apply wp_step
      · simp only [rv0, rvS, lowR_vO, List.set_cons_zero, List.set_cons_succ, M.bind_ok, lowR_some, lowR_none, lowR_nil, lowC_val, lowC_own, lowC_anc, lowC_tr, er_dct, er_lst, er_sh, isPl_own, isPl_anc, isPl_tree, isPlS, shL_own, shL_anc, shL_tree, shLS, lstAt_own, lstAt_anc, lstAt_tree, lstAtS, dctAt_tree, dctAtS, updR_own, updR_anc, updR_tree, updRS, mapNx_ok, putT_nil, toCl_list, toCl_listP, toCl_dct, setT_sh, setT_lst, setT_tup, setT_dct, setT_ins, retT_sh, retT_lst, retT_tup, retT_dct, erM, shM, appM_own, appMS, insM_own, insMS, retC_val, retC_own, retC_ow, retCS, muC, muN, muSo, ifl0, ifl1, ifl2, ifl3, ifl4, toCl_nil, compR, compT, asB, asSh_l, optM_some, dEq_int, dNe_int, dAdd_int, dSub_int, dLt_int, dLe_int, dGt_int, dGe_int, asI_int, dLen_lst, dLen_tup, newL_lst, newL_tup, dSum_ints, isTyM_lst, isTyM_tup, isTyM_int, isTyM_non, isTyM_bl, isTyM_str, isTyM_dct, ty_ll, ty_tt, ty_ii, ty_ib, ty_dd, dMem_ints, ite_tt, ite_ff, Bool.not_true, Bool.not_false, List.getElem?_cons_zero, List.getElem?_cons_succ, onInts_ii, dAll_map, dAny_map, frz0, frzN, frzS, ifl5, ifl6, ifl7, er_dct0, i0, i1, s1, s3, decide_eq_false h]; rfl
      apply wp_step
      · simp only [rv0, rvS, lowR_vO, List.set_cons_zero, List.set_cons_succ, M.bind_ok, lowR_some, lowR_none, lowR_nil, lowC_val, lowC_own, lowC_anc, lowC_tr, er_dct, er_lst, er_sh, isPl_own, isPl_anc, isPl_tree, isPlS, shL_own, shL_anc, shL_tree, shLS, lstAt_own, lstAt_anc, lstAt_tree, lstAtS, dctAt_tree, dctAtS, updR_own, updR_anc, updR_tree, updRS, mapNx_ok, putT_nil, toCl_list, toCl_listP, toCl_dct, setT_sh, setT_lst, setT_tup, setT_dct, setT_ins, retT_sh, retT_lst, retT_tup, retT_dct, erM, shM, appM_own, appMS, insM_own, insMS, retC_val, retC_own, retC_ow, retCS, muC, muN, muSo, ifl0, ifl1, ifl2, ifl3, ifl4, toCl_nil, compR, compT, asB, asSh_l, optM_some, dEq_int, dNe_int, dAdd_int, dSub_int, dLt_int, dLe_int, dGt_int, dGe_int, asI_int, dLen_lst, dLen_tup, newL_lst, newL_tup, dSum_ints, isTyM_lst, isTyM_tup, isTyM_int, isTyM_non, isTyM_bl, isTyM_str, isTyM_dct, ty_ll, ty_tt, ty_ii, ty_ib, ty_dd, dMem_ints, ite_tt, ite_ff, Bool.not_true, Bool.not_false, List.getElem?_cons_zero, List.getElem?_cons_succ, onInts_ii, dAll_map, dAny_map, frz0, frzN, frzS, ifl5, ifl6, ifl7, er_dct0, i0, s4]; rfl
      simp only [rv0, rvS, lowR_vO, List.set_cons_zero, List.set_cons_succ, M.bind_ok, lowR_some, lowR_none, lowR_nil, lowC_val, lowC_own, lowC_anc, lowC_tr, er_dct, er_lst, er_sh, isPl_own, isPl_anc, isPl_tree, isPlS, shL_own, shL_anc, shL_tree, shLS, lstAt_own, lstAt_anc, lstAt_tree, lstAtS, dctAt_tree, dctAtS, updR_own, updR_anc, updR_tree, updRS, mapNx_ok, putT_nil, toCl_list, toCl_listP, toCl_dct, setT_sh, setT_lst, setT_tup, setT_dct, setT_ins, retT_sh, retT_lst, retT_tup, retT_dct, erM, shM, appM_own, appMS, insM_own, insMS, retC_val, retC_own, retC_ow, retCS, muC, muN, muSo, ifl0, ifl1, ifl2, ifl3, ifl4, toCl_nil, compR, compT, asB, asSh_l, optM_some, dEq_int, dNe_int, dAdd_int, dSub_int, dLt_int, dLe_int, dGt_int, dGe_int, asI_int, dLen_lst, dLen_tup, newL_lst, newL_tup, dSum_ints, isTyM_lst, isTyM_tup, isTyM_int, isTyM_non, isTyM_bl, isTyM_str, isTyM_dct, ty_ll, ty_tt, ty_ii, ty_ib, ty_dd, dMem_ints, ite_tt, ite_ff, Bool.not_true, Bool.not_false, List.getElem?_cons_zero, List.getElem?_cons_succ, onInts_ii, dAll_map, dAny_map, frz0, frzN, frzS, ifl5, ifl6, ifl7, er_dct0, lz, moT, if_neg h]; rfl
  | short n =>
    have i0 : dItm (moD (.short n)) (.int 0) = .ok (.str "short") := rfl
    have i1 : dItm (moD (.short n)) (.int 1) = .ok (.int n) := rfl
    have s1 : dEq 16 (.str "short") (.str "wide") = .ok (.bl false) := rfl
    have s2 : dEq 16 (.str "short") (.str "pair") = .ok (.bl false) := rfl
    have s3 : dEq 16 (.str "short") (.str "short") = .ok (.bl true) := rfl
    have s4 : dEq 16 (.str "short") (.str "even") = .ok (.bl false) := rfl
    apply wp_step
    · simp only [rv0, rvS, lowR_vO, List.set_cons_zero, List.set_cons_succ, M.bind_ok, lowR_some, lowR_none, lowR_nil, lowC_val, lowC_own, lowC_anc, lowC_tr, er_dct, er_lst, er_sh, isPl_own, isPl_anc, isPl_tree, isPlS, shL_own, shL_anc, shL_tree, shLS, lstAt_own, lstAt_anc, lstAt_tree, lstAtS, dctAt_tree, dctAtS, updR_own, updR_anc, updR_tree, updRS, mapNx_ok, putT_nil, toCl_list, toCl_listP, toCl_dct, setT_sh, setT_lst, setT_tup, setT_dct, setT_ins, retT_sh, retT_lst, retT_tup, retT_dct, erM, shM, appM_own, appMS, insM_own, insMS, retC_val, retC_own, retC_ow, retCS, muC, muN, muSo, ifl0, ifl1, ifl2, ifl3, ifl4, toCl_nil, compR, compT, asB, asSh_l, optM_some, dEq_int, dNe_int, dAdd_int, dSub_int, dLt_int, dLe_int, dGt_int, dGe_int, asI_int, dLen_lst, dLen_tup, newL_lst, newL_tup, dSum_ints, isTyM_lst, isTyM_tup, isTyM_int, isTyM_non, isTyM_bl, isTyM_str, isTyM_dct, ty_ll, ty_tt, ty_ii, ty_ib, ty_dd, dMem_ints, ite_tt, ite_ff, Bool.not_true, Bool.not_false, List.getElem?_cons_zero, List.getElem?_cons_succ, onInts_ii, dAll_map, dAny_map, frz0, frzN, frzS, ifl5, ifl6, ifl7, er_dct0, i0, s2]; rfl
    by_cases h : n < z
    · simp only [rv0, rvS, lowR_vO, List.set_cons_zero, List.set_cons_succ, M.bind_ok, lowR_some, lowR_none, lowR_nil, lowC_val, lowC_own, lowC_anc, lowC_tr, er_dct, er_lst, er_sh, isPl_own, isPl_anc, isPl_tree, isPlS, shL_own, shL_anc, shL_tree, shLS, lstAt_own, lstAt_anc, lstAt_tree, lstAtS, dctAt_tree, dctAtS, updR_own, updR_anc, updR_tree, updRS, mapNx_ok, putT_nil, toCl_list, toCl_listP, toCl_dct, setT_sh, setT_lst, setT_tup, setT_dct, setT_ins, retT_sh, retT_lst, retT_tup, retT_dct, erM, shM, appM_own, appMS, insM_own, insMS, retC_val, retC_own, retC_ow, retCS, muC, muN, muSo, ifl0, ifl1, ifl2, ifl3, ifl4, toCl_nil, compR, compT, asB, asSh_l, optM_some, dEq_int, dNe_int, dAdd_int, dSub_int, dLt_int, dLe_int, dGt_int, dGe_int, asI_int, dLen_lst, dLen_tup, newL_lst, newL_tup, dSum_ints, isTyM_lst, isTyM_tup, isTyM_int, isTyM_non, isTyM_bl, isTyM_str, isTyM_dct, ty_ll, ty_tt, ty_ii, ty_ib, ty_dd, dMem_ints, ite_tt, ite_ff, Bool.not_true, Bool.not_false, List.getElem?_cons_zero, List.getElem?_cons_succ, onInts_ii, dAll_map, dAny_map, frz0, frzN, frzS, ifl5, ifl6, ifl7, er_dct0, lz, i0, i1, s1, s3, decide_eq_true h, moT, if_pos h]; rfl
    · apply wp_step
      · simp only [rv0, rvS, lowR_vO, List.set_cons_zero, List.set_cons_succ, M.bind_ok, lowR_some, lowR_none, lowR_nil, lowC_val, lowC_own, lowC_anc, lowC_tr, er_dct, er_lst, er_sh, isPl_own, isPl_anc, isPl_tree, isPlS, shL_own, shL_anc, shL_tree, shLS, lstAt_own, lstAt_anc, lstAt_tree, lstAtS, dctAt_tree, dctAtS, updR_own, updR_anc, updR_tree, updRS, mapNx_ok, putT_nil, toCl_list, toCl_listP, toCl_dct, setT_sh, setT_lst, setT_tup, setT_dct, setT_ins, retT_sh, retT_lst, retT_tup, retT_dct, erM, shM, appM_own, appMS, insM_own, insMS, retC_val, retC_own, retC_ow, retCS, muC, muN, muSo, ifl0, ifl1, ifl2, ifl3, ifl4, toCl_nil, compR, compT, asB, asSh_l, optM_some, dEq_int, dNe_int, dAdd_int, dSub_int, dLt_int, dLe_int, dGt_int, dGe_int, asI_int, dLen_lst, dLen_tup, newL_lst, newL_tup, dSum_ints, isTyM_lst, isTyM_tup, isTyM_int, isTyM_non, isTyM_bl, isTyM_str, isTyM_dct, ty_ll, ty_tt, ty_ii, ty_ib, ty_dd, dMem_ints, ite_tt, ite_ff, Bool.not_true, Bool.not_false, List.getElem?_cons_zero, List.getElem?_cons_succ, onInts_ii, dAll_map, dAny_map, frz0, frzN, frzS, ifl5, ifl6, ifl7, er_dct0, lz, i0, i1, s1, s3, decide_eq_false h]; rfl
      apply wp_step
      · simp only [rv0, rvS, lowR_vO, List.set_cons_zero, List.set_cons_succ, M.bind_ok, lowR_some, lowR_none, lowR_nil, lowC_val, lowC_own, lowC_anc, lowC_tr, er_dct, er_lst, er_sh, isPl_own, isPl_anc, isPl_tree, isPlS, shL_own, shL_anc, shL_tree, shLS, lstAt_own, lstAt_anc, lstAt_tree, lstAtS, dctAt_tree, dctAtS, updR_own, updR_anc, updR_tree, updRS, mapNx_ok, putT_nil, toCl_list, toCl_listP, toCl_dct, setT_sh, setT_lst, setT_tup, setT_dct, setT_ins, retT_sh, retT_lst, retT_tup, retT_dct, erM, shM, appM_own, appMS, insM_own, insMS, retC_val, retC_own, retC_ow, retCS, muC, muN, muSo, ifl0, ifl1, ifl2, ifl3, ifl4, toCl_nil, compR, compT, asB, asSh_l, optM_some, dEq_int, dNe_int, dAdd_int, dSub_int, dLt_int, dLe_int, dGt_int, dGe_int, asI_int, dLen_lst, dLen_tup, newL_lst, newL_tup, dSum_ints, isTyM_lst, isTyM_tup, isTyM_int, isTyM_non, isTyM_bl, isTyM_str, isTyM_dct, ty_ll, ty_tt, ty_ii, ty_ib, ty_dd, dMem_ints, ite_tt, ite_ff, Bool.not_true, Bool.not_false, List.getElem?_cons_zero, List.getElem?_cons_succ, onInts_ii, dAll_map, dAny_map, frz0, frzN, frzS, ifl5, ifl6, ifl7, er_dct0, i0, s4]; rfl
      simp only [rv0, rvS, lowR_vO, List.set_cons_zero, List.set_cons_succ, M.bind_ok, lowR_some, lowR_none, lowR_nil, lowC_val, lowC_own, lowC_anc, lowC_tr, er_dct, er_lst, er_sh, isPl_own, isPl_anc, isPl_tree, isPlS, shL_own, shL_anc, shL_tree, shLS, lstAt_own, lstAt_anc, lstAt_tree, lstAtS, dctAt_tree, dctAtS, updR_own, updR_anc, updR_tree, updRS, mapNx_ok, putT_nil, toCl_list, toCl_listP, toCl_dct, setT_sh, setT_lst, setT_tup, setT_dct, setT_ins, retT_sh, retT_lst, retT_tup, retT_dct, erM, shM, appM_own, appMS, insM_own, insMS, retC_val, retC_own, retC_ow, retCS, muC, muN, muSo, ifl0, ifl1, ifl2, ifl3, ifl4, toCl_nil, compR, compT, asB, asSh_l, optM_some, dEq_int, dNe_int, dAdd_int, dSub_int, dLt_int, dLe_int, dGt_int, dGe_int, asI_int, dLen_lst, dLen_tup, newL_lst, newL_tup, dSum_ints, isTyM_lst, isTyM_tup, isTyM_int, isTyM_non, isTyM_bl, isTyM_str, isTyM_dct, ty_ll, ty_tt, ty_ii, ty_ib, ty_dd, dMem_ints, ite_tt, ite_ff, Bool.not_true, Bool.not_false, List.getElem?_cons_zero, List.getElem?_cons_succ, onInts_ii, dAll_map, dAny_map, frz0, frzN, frzS, ifl5, ifl6, ifl7, er_dct0, lz, moT, if_neg h]; rfl
  | even => rfl
  | pair a b =>
    have h1 := law_told1_eq a (some z) w (by simp only [moDep] at hm; omega)
    have h2 := law_told1_eq b (moT a (some z) w) w (by simp only [moDep] at hm; omega)
    have i0 : dItm (moD (.pair a b)) (.int 0) = .ok (.str "pair") := rfl
    have i1 : dItm (moD (.pair a b)) (.int 1) = .ok (moD a) := rfl
    have i2 : dItm (moD (.pair a b)) (.int 2) = .ok (moD b) := rfl
    have s4 : dEq 16 (.str "pair") (.str "pair") = .ok (.bl true) := rfl
    simp only [rv0, rvS, lowR_vO, List.set_cons_zero, List.set_cons_succ, M.bind_ok, lowR_some, lowR_none, lowR_nil, lowC_val, lowC_own, lowC_anc, lowC_tr, er_dct, er_lst, er_sh, isPl_own, isPl_anc, isPl_tree, isPlS, shL_own, shL_anc, shL_tree, shLS, lstAt_own, lstAt_anc, lstAt_tree, lstAtS, dctAt_tree, dctAtS, updR_own, updR_anc, updR_tree, updRS, mapNx_ok, putT_nil, toCl_list, toCl_listP, toCl_dct, setT_sh, setT_lst, setT_tup, setT_dct, setT_ins, retT_sh, retT_lst, retT_tup, retT_dct, erM, shM, appM_own, appMS, insM_own, insMS, retC_val, retC_own, retC_ow, retCS, muC, muN, muSo, ifl0, ifl1, ifl2, ifl3, ifl4, toCl_nil, compR, compT, asB, asSh_l, optM_some, dEq_int, dNe_int, dAdd_int, dSub_int, dLt_int, dLe_int, dGt_int, dGe_int, asI_int, dLen_lst, dLen_tup, newL_lst, newL_tup, dSum_ints, isTyM_lst, isTyM_tup, isTyM_int, isTyM_non, isTyM_bl, isTyM_str, isTyM_dct, ty_ll, ty_tt, ty_ii, ty_ib, ty_dd, dMem_ints, ite_tt, ite_ff, Bool.not_true, Bool.not_false, List.getElem?_cons_zero, List.getElem?_cons_succ, onInts_ii, dAll_map, dAny_map, frz0, frzN, frzS, ifl5, ifl6, ifl7, er_dct0, i0, i1, i2, s4, h1, h2]
    rfl
noncomputable def law_told2F : List D → M OT := Classical.choose ex_law_told2
theorem law_told2_at {P : Program} {w : World} {K : PySem.W.Frag} {mg : Str → Option Value} {base : Heap} : Txt K mg → FnT P w K mg base "_law_told" 2 3 law_told2F := (Classical.choose_spec ex_law_told2).1
theorem law_told2_eq : ∀ (m : Mo) (l : Option Int) (w : Int), moDep m < 2 → law_told2F [moD m, lenD l, .int w] = .ok (.sh (lenD (moT m l w))) := (Classical.choose_spec ex_law_told2).2
theorem ex_law_told3 : ∃ F : List D → M OT, (∀ {P : Program} {w : World} {K : PySem.W.Frag} {mg : Str → Option Value} {base : Heap}, Txt K mg → FnT P w K mg base "_law_told" 3 3 F) ∧ (∀ (m : Mo) (l : Option Int) (w : Int), moDep m < 3 → F [moD m, lenD l, .int w] = .ok (.sh (lenD (moT m l w)))) := by
  refine ⟨_, fun T => fnT_of (k := 2) T.f_law_told sc_law_told _ (fun f cdv A outer s H E hr => (dss_cons (ds_if (dt_isN (c := true) (de_var 1 (pv 1))) (dss_one (ds_retT (dn_sh de_non))) dss_nil) (dss_cons (ds_if (dt_eq (c := true) (huR hr 16 (by decide)) (de_itm (huR hr 16 (by decide)) (de_var 0 (pv 0)) de_int) de_str) (dss_one (ds_retT (dn_call xok_def.toXCall (law_told2_at T) (hr.mono (by decide)) rfl (da_cons (de_itm (huR hr 16 (by decide)) (de_var 0 (pv 0)) de_int) (da_cons (de_dn (dn_call xok_def.toXCall (law_told2_at T) (hr.mono (by decide)) rfl (da_cons (de_itm (huR hr 16 (by decide)) (de_var 0 (pv 0)) de_int) (da_cons (de_var 1 (pv 1)) (da_cons (de_var 2 (pv 2)) da_nil))) rfl)) (da_cons (de_var 2 (pv 2)) da_nil))) rfl))) dss_nil) (dss_cons (ds_if (DW.dt (dw_or (DW.dt (dw_and (dt_eq (c := true) (huR hr 16 (by decide)) (de_itm (huR hr 16 (by decide)) (de_var 0 (pv 0)) de_int) de_str) (dw_and1 (dt_lt (c := true) (de_var 2 (pv 2)) (de_itm (huR hr 16 (by decide)) (de_var 0 (pv 0)) de_int))))) (dw_or1 (DW.dt (dw_and (dt_eq (c := true) (huR hr 16 (by decide)) (de_itm (huR hr 16 (by decide)) (de_var 0 (pv 0)) de_int) de_str) (dw_and1 (dt_gt (c := true) (de_var 1 (pv 1)) (de_itm (huR hr 16 (by decide)) (de_var 0 (pv 0)) de_int)))))))) (dss_one (ds_retT (dn_sh de_non))) dss_nil) (dss_cons (ds_if (dt_eq (c := true) (huR hr 16 (by decide)) (de_itm (huR hr 16 (by decide)) (de_var 0 (pv 0)) de_int) de_str) (dss_one (ds_retT (dn_sh de_int))) dss_nil) (dss_one (ds_retT (dn_sh (de_var 1 (pv 1)))))))))), ?_⟩
  intro m l w hm
  have e0 : stRho ["_law_model", "_law_length_here", "_law_width"] [moD m, lenD l, .int w] = [some (.val (moD m)), some (.val (lenD l)), some (.val (.int w))] := rfl
  rw [e0]
  refine ft_eq ?_
  cases l with
  | none => rw [moT_none]; rfl
  | some z =>
  have lz : lenD (some z) = .int z := rfl
  apply wp_step
  · rfl
  cases m with
  | plain => rfl
  | wide n =>
    have i0 : dItm (moD (.wide n)) (.int 0) = .ok (.str "wide") := rfl
    have i1 : dItm (moD (.wide n)) (.int 1) = .ok (.int n) := rfl
    have s1 : dEq 16 (.str "wide") (.str "wide") = .ok (.bl true) := rfl
    have s2 : dEq 16 (.str "wide") (.str "pair") = .ok (.bl false) := rfl
    have s3 : dEq 16 (.str "wide") (.str "short") = .ok (.bl false) := rfl
    have s4 : dEq 16 (.str "wide") (.str "even") = .ok (.bl false) := rfl
    apply wp_step
    · simp only [rv0, rvS, lowR_vO, List.set_cons_zero, List.set_cons_succ, M.bind_ok, lowR_some, lowR_none, lowR_nil, lowC_val, lowC_own, lowC_anc, lowC_tr, er_dct, er_lst, er_sh, isPl_own, isPl_anc, isPl_tree, isPlS, shL_own, shL_anc, shL_tree, shLS, lstAt_own, lstAt_anc, lstAt_tree, lstAtS, dctAt_tree, dctAtS, updR_own, updR_anc, updR_tree, updRS, mapNx_ok, putT_nil, toCl_list, toCl_listP, toCl_dct, setT_sh, setT_lst, setT_tup, setT_dct, setT_ins, retT_sh, retT_lst, retT_tup, retT_dct, erM, shM, appM_own, appMS, insM_own, insMS, retC_val, retC_own, retC_ow, retCS, muC, muN, muSo, ifl0, ifl1, ifl2, ifl3, ifl4, toCl_nil, compR, compT, asB, asSh_l, optM_some, dEq_int, dNe_int, dAdd_int, dSub_int, dLt_int, dLe_int, dGt_int, dGe_int, asI_int, dLen_lst, dLen_tup, newL_lst, newL_tup, dSum_ints, isTyM_lst, isTyM_tup, isTyM_int, isTyM_non, isTyM_bl, isTyM_str, isTyM_dct, ty_ll, ty_tt, ty_ii, ty_ib, ty_dd, dMem_ints, ite_tt, ite_ff, Bool.not_true, Bool.not_false, List.getElem?_cons_zero, List.getElem?_cons_succ, onInts_ii, dAll_map, dAny_map, frz0, frzN, frzS, ifl5, ifl6, ifl7, er_dct0, i0, s2]; rfl
    by_cases h : w < n
    · simp only [rv0, rvS, lowR_vO, List.set_cons_zero, List.set_cons_succ, M.bind_ok, lowR_some, lowR_none, lowR_nil, lowC_val, lowC_own, lowC_anc, lowC_tr, er_dct, er_lst, er_sh, isPl_own, isPl_anc, isPl_tree, isPlS, shL_own, shL_anc, shL_tree, shLS, lstAt_own, lstAt_anc, lstAt_tree, lstAtS, dctAt_tree, dctAtS, updR_own, updR_anc, updR_tree, updRS, mapNx_ok, putT_nil, toCl_list, toCl_listP, toCl_dct, setT_sh, setT_lst, setT_tup, setT_dct, setT_ins, retT_sh, retT_lst, retT_tup, retT_dct, erM, shM, appM_own, appMS, insM_own, insMS, retC_val, retC_own, retC_ow, retCS, muC, muN, muSo, ifl0, ifl1, ifl2, ifl3, ifl4, toCl_nil, compR, compT, asB, asSh_l, optM_some, dEq_int, dNe_int, dAdd_int, dSub_int, dLt_int, dLe_int, dGt_int, dGe_int, asI_int, dLen_lst, dLen_tup, newL_lst, newL_tup, dSum_ints, isTyM_lst, isTyM_tup, isTyM_int, isTyM_non, isTyM_bl, isTyM_str, isTyM_dct, ty_ll, ty_tt, ty_ii, ty_ib, ty_dd, dMem_ints, ite_tt, ite_ff, Bool.not_true, Bool.not_false, List.getElem?_cons_zero, List.getElem?_cons_succ, onInts_ii, dAll_map, dAny_map, frz0, frzN, frzS, ifl5, ifl6, ifl7, er_dct0, i0, i1, s1, decide_eq_true h, moT, if_pos h]; rfl
    · apply wp_step
      · simp only [rv0, rvS, lowR_vO, List.set_cons_zero, List.set_cons_succ, M.bind_ok, lowR_some, lowR_none, lowR_nil, lowC_val, lowC_own, lowC_anc, lowC_tr, er_dct, er_lst, er_sh, isPl_own, isPl_anc, isPl_tree, isPlS, shL_own, shL_anc, shL_tree, shLS, lstAt_own, lstAt_anc, lstAt_tree, lstAtS, dctAt_tree, dctAtS, updR_own, updR_anc, updR_tree, updRS, mapNx_ok, putT_nil, toCl_list, toCl_listP, toCl_dct, setT_sh, setT_lst, setT_tup, setT_dct, setT_ins, retT_sh, retT_lst, retT_tup, retT_dct, erM, shM, appM_own, appMS, insM_own, insMS, retC_val, retC_own, retC_ow, retCS, muC, muN, muSo, ifl0, ifl1, ifl2, ifl3, ifl4, toCl_nil, compR, compT, asB, asSh_l, optM_some, dEq_int, dNe_int, dAdd_int, dSub_int, dLt_int, dLe_int, dGt_int, dGe_int, asI_int, dLen_lst, dLen_tup, newL_lst, newL_tup, dSum_ints, isTyM_lst, isTyM_tup, isTyM_int, isTyM_non, isTyM_bl, isTyM_str, isTyM_dct, ty_ll, ty_tt, ty_ii, ty_ib, ty_dd, dMem_ints, ite_tt, ite_ff, Bool.not_true, Bool.not_false, List.getElem?_cons_zero, List.getElem?_cons_succ, onInts_ii, dAll_map, dAny_map, frz0, frzN, frzS, ifl5, ifl6, ifl7, er_dct0, i0, i1, s1, s3, decide_eq_false h]; rfl
      apply wp_step
      · simp only [rv0, rvS, lowR_vO, List.set_cons_zero, List.set_cons_succ, M.bind_ok, lowR_some, lowR_none, lowR_nil, lowC_val, lowC_own, lowC_anc, lowC_tr, er_dct, er_lst, er_sh, isPl_own, isPl_anc, isPl_tree, isPlS, shL_own, shL_anc, shL_tree, shLS, lstAt_own, lstAt_anc, lstAt_tree, lstAtS, dctAt_tree, dctAtS, updR_own, updR_anc, updR_tree, updRS, mapNx_ok, putT_nil, toCl_list, toCl_listP, toCl_dct, setT_sh, setT_lst, setT_tup, setT_dct, setT_ins, retT_sh, retT_lst, retT_tup, retT_dct, erM, shM, appM_own, appMS, insM_own, insMS, retC_val, retC_own, retC_ow, retCS, muC, muN, muSo, ifl0, ifl1, ifl2, ifl3, ifl4, toCl_nil, compR, compT, asB, asSh_l, optM_some, dEq_int, dNe_int, dAdd_int, dSub_int, dLt_int, dLe_int, dGt_int, dGe_int, asI_int, dLen_lst, dLen_tup, newL_lst, newL_tup, dSum_ints, isTyM_lst, isTyM_tup, isTyM_int, isTyM_non, isTyM_bl, isTyM_str, isTyM_dct, ty_ll, ty_tt, ty_ii, ty_ib, ty_dd, dMem_ints, ite_tt, ite_ff, Bool.not_true, Bool.not_false, List.getElem?_cons_zero, List.getElem?_cons_succ, onInts_ii, dAll_map, dAny_map, frz0, frzN, frzS, ifl5, ifl6, ifl7, er_dct0, i0, s4]; rfl
      simp only [rv0, rvS, lowR_vO, List.set_cons_zero, List.set_cons_succ, M.bind_ok, lowR_some, lowR_none, lowR_nil, lowC_val, lowC_own, lowC_anc, lowC_tr, er_dct, er_lst, er_sh, isPl_own, isPl_anc, isPl_tree, isPlS, shL_own, shL_anc, shL_tree, shLS, lstAt_own, lstAt_anc, lstAt_tree, lstAtS, dctAt_tree, dctAtS, updR_own, updR_anc, updR_tree, updRS, mapNx_ok, putT_nil, toCl_list, toCl_listP, toCl_dct, setT_sh, setT_lst, setT_tup, setT_dct, setT_ins, retT_sh, retT_lst, retT_tup, retT_dct, erM, shM, appM_own, appMS, insM_own, insMS, retC_val, retC_own, retC_ow, retCS, muC, muN, muSo, ifl0, ifl1, ifl2, ifl3, ifl4, toCl_nil, compR, compT, asB, asSh_l, optM_some, dEq_int, dNe_int, dAdd_int, dSub_int, dLt_int, dLe_int, dGt_int, dGe_int, asI_int, dLen_lst, dLen_tup, newL_lst, newL_tup, dSum_ints, isTyM_lst, isTyM_tup, isTyM_int, isTyM_non, isTyM_bl, isTyM_str, isTyM_dct, ty_ll, ty_tt, ty_ii, ty_ib, ty_dd, dMem_ints, ite_tt, ite_ff, Bool.not_true, Bool.not_false, List.getElem?_cons_zero, List.getElem?_cons_succ, onInts_ii, dAll_map, dAny_map, frz0, frzN, frzS, ifl5, ifl6, ifl7, er_dct0, lz, moT, if_neg h]; rfl
  | short n =>
    have i0 : dItm (moD (.short n)) (.int 0) = .ok (.str "short") := rfl
    have i1 : dItm (moD (.short n)) (.int 1) = .ok (.int n) := rfl
    have s1 : dEq 16 (.str "short") (.str "wide") = .ok (.bl false) := rfl
    have s2 : dEq 16 (.str "short") (.str "pair") = .ok (.bl false) := rfl
    have s3 : dEq 16 (.str "short") (.str "short") = .ok (.bl true) := rfl
    have s4 : dEq 16 (.str "short") (.str "even") = .ok (.bl false) := rfl
    apply wp_step
    · simp only [rv0, rvS, lowR_vO, List.set_cons_zero, List.set_cons_succ, M.bind_ok, lowR_some, lowR_none, lowR_nil, lowC_val, lowC_own, lowC_anc, lowC_tr, er_dct, er_lst, er_sh, isPl_own, isPl_anc, isPl_tree, isPlS, shL_own, shL_anc, shL_tree, shLS, lstAt_own, lstAt_anc, lstAt_tree, lstAtS, dctAt_tree, dctAtS, updR_own, updR_anc, updR_tree, updRS, mapNx_ok, putT_nil, toCl_list, toCl_listP, toCl_dct, setT_sh, setT_lst, setT_tup, setT_dct, setT_ins, retT_sh, retT_lst, retT_tup, retT_dct, erM, shM, appM_own, appMS, insM_own, insMS, retC_val, retC_own, retC_ow, retCS, muC, muN, muSo, ifl0, ifl1, ifl2, ifl3, ifl4, toCl_nil, compR, compT, asB, asSh_l, optM_some, dEq_int, dNe_int, dAdd_int, dSub_int, dLt_int, dLe_int, dGt_int, dGe_int, asI_int, dLen_lst, dLen_tup, newL_lst, newL_tup, dSum_ints, isTyM_lst, isTyM_tup, isTyM_int, isTyM_non, isTyM_bl, isTyM_str, isTyM_dct, ty_ll, ty_tt, ty_ii, ty_ib, ty_dd, dMem_ints, ite_tt, ite_ff, Bool.not_true, Bool.not_false, List.getElem?_cons_zero, List.getElem?_cons_succ, onInts_ii, dAll_map, dAny_map, frz0, frzN, frzS, ifl5, ifl6, ifl7, er_dct0, i0, s2]; rfl
    by_cases h : n < z
    · simp only [rv0, rvS, lowR_vO, List.set_cons_zero, List.set_cons_succ, M.bind_ok, lowR_some, lowR_none, lowR_nil, lowC_val, lowC_own, lowC_anc, lowC_tr, er_dct, er_lst, er_sh, isPl_own, isPl_anc, isPl_tree, isPlS, shL_own, shL_anc, shL_tree, shLS, lstAt_own, lstAt_anc, lstAt_tree, lstAtS, dctAt_tree, dctAtS, updR_own, updR_anc, updR_tree, updRS, mapNx_ok, putT_nil, toCl_list, toCl_listP, toCl_dct, setT_sh, setT_lst, setT_tup, setT_dct, setT_ins, retT_sh, retT_lst, retT_tup, retT_dct, erM, shM, appM_own, appMS, insM_own, insMS, retC_val, retC_own, retC_ow, retCS, muC, muN, muSo, ifl0, ifl1, ifl2, ifl3, ifl4, toCl_nil, compR, compT, asB, asSh_l, optM_some, dEq_int, dNe_int, dAdd_int, dSub_int, dLt_int, dLe_int, dGt_int, dGe_int, asI_int, dLen_lst, dLen_tup, newL_lst, newL_tup, dSum_ints, isTyM_lst, isTyM_tup, isTyM_int, isTyM_non, isTyM_bl, isTyM_str, isTyM_dct, ty_ll, ty_tt, ty_ii, ty_ib, ty_dd, dMem_ints, ite_tt, ite_ff, Bool.not_true, Bool.not_false, List.getElem?_cons_zero, List.getElem?_cons_succ, onInts_ii, dAll_map, dAny_map, frz0, frzN, frzS, ifl5, ifl6, ifl7, er_dct0, lz, i0, i1, s1, s3, decide_eq_true h, moT, if_pos h]; rfl
    · apply wp_step
      · simp only [rv0, rvS, lowR_vO, List.set_cons_zero, List.set_cons_succ, M.bind_ok, lowR_some, lowR_none, lowR_nil, lowC_val, lowC_own, lowC_anc, lowC_tr, er_dct, er_lst, er_sh, isPl_own, isPl_anc, isPl_tree, isPlS, shL_own, shL_anc, shL_tree, shLS, lstAt_own, lstAt_anc, lstAt_tree, lstAtS, dctAt_tree, dctAtS, updR_own, updR_anc, updR_tree, updRS, mapNx_ok, putT_nil, toCl_list, toCl_listP, toCl_dct, setT_sh, setT_lst, setT_tup, setT_dct, setT_ins, retT_sh, retT_lst, retT_tup, retT_dct, erM, shM, appM_own, appMS, insM_own, insMS, retC_val, retC_own, retC_ow, retCS, muC, muN, muSo, ifl0, ifl1, ifl2, ifl3, ifl4, toCl_nil, compR, compT, asB, asSh_l, optM_some, dEq_int, dNe_int, dAdd_int, dSub_int, dLt_int, dLe_int, dGt_int, dGe_int, asI_int, dLen_lst, dLen_tup, newL_lst, newL_tup, dSum_ints, isTyM_lst, isTyM_tup, isTyM_int, isTyM_non, isTyM_bl, isTyM_str, isTyM_dct, ty_ll, ty_tt, ty_ii, ty_ib, ty_dd, dMem_ints, ite_tt, ite_ff, Bool.not_true, Bool.not_false, List.getElem?_cons_zero, List.getElem?_cons_succ, onInts_ii, dAll_map, dAny_map, frz0, frzN, frzS, ifl5, ifl6, ifl7, er_dct0, lz, i0, i1, s1, s3, decide_eq_false h]; rfl
      apply wp_step
      · simp only [rv0, rvS, lowR_vO, List.set_cons_zero, List.set_cons_succ, M.bind_ok, lowR_some, lowR_none, lowR_nil, lowC_val, lowC_own, lowC_anc, lowC_tr, er_dct, er_lst, er_sh, isPl_own, isPl_anc, isPl_tree, isPlS, shL_own, shL_anc, shL_tree, shLS, lstAt_own, lstAt_anc, lstAt_tree, lstAtS, dctAt_tree, dctAtS, updR_own, updR_anc, updR_tree, updRS, mapNx_ok, putT_nil, toCl_list, toCl_listP, toCl_dct, setT_sh, setT_lst, setT_tup, setT_dct, setT_ins, retT_sh, retT_lst, retT_tup, retT_dct, erM, shM, appM_own, appMS, insM_own, insMS, retC_val, retC_own, retC_ow, retCS, muC, muN, muSo, ifl0, ifl1, ifl2, ifl3, ifl4, toCl_nil, compR, compT, asB, asSh_l, optM_some, dEq_int, dNe_int, dAdd_int, dSub_int, dLt_int, dLe_int, dGt_int, dGe_int, asI_int, dLen_lst, dLen_tup, newL_lst, newL_tup, dSum_ints, isTyM_lst, isTyM_tup, isTyM_int, isTyM_non, isTyM_bl, isTyM_str, isTyM_dct, ty_ll, ty_tt, ty_ii, ty_ib, ty_dd, dMem_ints, ite_tt, ite_ff, Bool.not_true, Bool.not_false, List.getElem?_cons_zero, List.getElem?_cons_succ, onInts_ii, dAll_map, dAny_map, frz0, frzN, frzS, ifl5, ifl6, ifl7, er_dct0, i0, s4]; rfl
      simp only [rv0, rvS, lowR_vO, List.set_cons_zero, List.set_cons_succ, M.bind_ok, lowR_some, lowR_none, lowR_nil, lowC_val, lowC_own, lowC_anc, lowC_tr, er_dct, er_lst, er_sh, isPl_own, isPl_anc, isPl_tree, isPlS, shL_own, shL_anc, shL_tree, shLS, lstAt_own, lstAt_anc, lstAt_tree, lstAtS, dctAt_tree, dctAtS, updR_own, updR_anc, updR_tree, updRS, mapNx_ok, putT_nil, toCl_list, toCl_listP, toCl_dct, setT_sh, setT_lst, setT_tup, setT_dct, setT_ins, retT_sh, retT_lst, retT_tup, retT_dct, erM, shM, appM_own, appMS, insM_own, insMS, retC_val, retC_own, retC_ow, retCS, muC, muN, muSo, ifl0, ifl1, ifl2, ifl3, ifl4, toCl_nil, compR, compT, asB, asSh_l, optM_some, dEq_int, dNe_int, dAdd_int, dSub_int, dLt_int, dLe_int, dGt_int, dGe_int, asI_int, dLen_lst, dLen_tup, newL_lst, newL_tup, dSum_ints, isTyM_lst, isTyM_tup, isTyM_int, isTyM_non, isTyM_bl, isTyM_str, isTyM_dct, ty_ll, ty_tt, ty_ii, ty_ib, ty_dd, dMem_ints, ite_tt, ite_ff, Bool.not_true, Bool.not_false, List.getElem?_cons_zero, List.getElem?_cons_succ, onInts_ii, dAll_map, dAny_map, frz0, frzN, frzS, ifl5, ifl6, ifl7, er_dct0, lz, moT, if_neg h]; rfl
  | even => rfl
  | pair a b =>
    have h1 := law_told2_eq a (some z) w (by simp only [moDep] at hm; omega)
    have h2 := law_told2_eq b (moT a (some z) w) w (by simp only [moDep] at hm; omega)
    have i0 : dItm (moD (.pair a b)) (.int 0) = .ok (.str "pair") := rfl
    have i1 : dItm (moD (.pair a b)) (.int 1) = .ok (moD a) := rfl
    have i2 : dItm (moD (.pair a b)) (.int 2) = .ok (moD b) := rfl
    have s4 : dEq 16 (.str "pair") (.str "pair") = .ok (.bl true) := rfl
    simp only [rv0, rvS, lowR_vO, List.set_cons_zero, List.set_cons_succ, M.bind_ok, lowR_some, lowR_none, lowR_nil, lowC_val, lowC_own, lowC_anc, lowC_tr, er_dct, er_lst, er_sh, isPl_own, isPl_anc, isPl_tree, isPlS, shL_own, shL_anc, shL_tree, shLS, lstAt_own, lstAt_anc, lstAt_tree, lstAtS, dctAt_tree, dctAtS, updR_own, updR_anc, updR_tree, updRS, mapNx_ok, putT_nil, toCl_list, toCl_listP, toCl_dct, setT_sh, setT_lst, setT_tup, setT_dct, setT_ins, retT_sh, retT_lst, retT_tup, retT_dct, erM, shM, appM_own, appMS, insM_own, insMS, retC_val, retC_own, retC_ow, retCS, muC, muN, muSo, ifl0, ifl1, ifl2, ifl3, ifl4, toCl_nil, compR, compT, asB, asSh_l, optM_some, dEq_int, dNe_int, dAdd_int, dSub_int, dLt_int, dLe_int, dGt_int, dGe_int, asI_int, dLen_lst, dLen_tup, newL_lst, newL_tup, dSum_ints, isTyM_lst, isTyM_tup, isTyM_int, isTyM_non, isTyM_bl, isTyM_str, isTyM_dct, ty_ll, ty_tt, ty_ii, ty_ib, ty_dd, dMem_ints, ite_tt, ite_ff, Bool.not_true, Bool.not_false, List.getElem?_cons_zero, List.getElem?_cons_succ, onInts_ii, dAll_map, dAny_map, frz0, frzN, frzS, ifl5, ifl6, ifl7, er_dct0, i0, i1, i2, s4, h1, h2]
    rfl
noncomputable def law_told3F : List D → M OT := Classical.choose ex_law_told3
theorem law_told3_at {P : Program} {w : World} {K : PySem.W.Frag} {mg : Str → Option Value} {base : Heap} : Txt K mg → FnT P w K mg base "_law_told" 3 3 law_told3F := (Classical.choose_spec ex_law_told3).1
theorem law_told3_eq : ∀ (m : Mo) (l : Option Int) (w : Int), moDep m < 3 → law_told3F [moD m, lenD l, .int w] = .ok (.sh (lenD (moT m l w))) := (Classical.choose_spec ex_law_told3).2
theorem ex_law_told : ∃ F : List D → M OT, (∀ {P : Program} {w : World} {K : PySem.W.Frag} {mg : Str → Option Value} {base : Heap}, Txt K mg → FnT P w K mg base "_law_told" 4 3 F) ∧ (∀ (m : Mo) (l : Option Int) (w : Int), moDep m < 4 → F [moD m, lenD l, .int w] = .ok (.sh (lenD (moT m l w)))) := by
  refine ⟨_, fun T => fnT_of (k := 3) T.f_law_told sc_law_told _ (fun f cdv A outer s H E hr => (dss_cons (ds_if (dt_isN (c := true) (de_var 1 (pv 1))) (dss_one (ds_retT (dn_sh de_non))) dss_nil) (dss_cons (ds_if (dt_eq (c := true) (huR hr 16 (by decide)) (de_itm (huR hr 16 (by decide)) (de_var 0 (pv 0)) de_int) de_str) (dss_one (ds_retT (dn_call xok_def.toXCall (law_told3_at T) (hr.mono (by decide)) rfl (da_cons (de_itm (huR hr 16 (by decide)) (de_var 0 (pv 0)) de_int) (da_cons (de_dn (dn_call xok_def.toXCall (law_told3_at T) (hr.mono (by decide)) rfl (da_cons (de_itm (huR hr 16 (by decide)) (de_var 0 (pv 0)) de_int) (da_cons (de_var 1 (pv 1)) (da_cons (de_var 2 (pv 2)) da_nil))) rfl)) (da_cons (de_var 2 (pv 2)) da_nil))) rfl))) dss_nil) (dss_cons (ds_if (DW.dt (dw_or (DW.dt (dw_and (dt_eq (c := true) (huR hr 16 (by decide)) (de_itm (huR hr 16 (by decide)) (de_var 0 (pv 0)) de_int) de_str) (dw_and1 (dt_lt (c := true) (de_var 2 (pv 2)) (de_itm (huR hr 16 (by decide)) (de_var 0 (pv 0)) de_int))))) (dw_or1 (DW.dt (dw_and (dt_eq (c := true) (huR hr 16 (by decide)) (de_itm (huR hr 16 (by decide)) (de_var 0 (pv 0)) de_int) de_str) (dw_and1 (dt_gt (c := true) (de_var 1 (pv 1)) (de_itm (huR hr 16 (by decide)) (de_var 0 (pv 0)) de_int)))))))) (dss_one (ds_retT (dn_sh de_non))) dss_nil) (dss_cons (ds_if (dt_eq (c := true) (huR hr 16 (by decide)) (de_itm (huR hr 16 (by decide)) (de_var 0 (pv 0)) de_int) de_str) (dss_one (ds_retT (dn_sh de_int))) dss_nil) (dss_one (ds_retT (dn_sh (de_var 1 (pv 1)))))))))), ?_⟩
  intro m l w hm
  have e0 : stRho ["_law_model", "_law_length_here", "_law_width"] [moD m, lenD l, .int w] = [some (.val (moD m)), some (.val (lenD l)), some (.val (.int w))] := rfl
  rw [e0]
  refine ft_eq ?_
  cases l with
  | none => rw [moT_none]; rfl
  | some z =>
  have lz : lenD (some z) = .int z := rfl
  apply wp_step
  · rfl
  cases m with
  | plain => rfl
  | wide n =>
    have i0 : dItm (moD (.wide n)) (.int 0) = .ok (.str "wide") := rfl
    have i1 : dItm (moD (.wide n)) (.int 1) = .ok (.int n) := rfl
    have s1 : dEq 16 (.str "wide") (.str "wide") = .ok (.bl true) := rfl
    have s2 : dEq 16 (.str "wide") (.str "pair") = .ok (.bl false) := rfl
    have s3 : dEq 16 (.str "wide") (.str "short") = .ok (.bl false) := rfl
    have s4 : dEq 16 (.str "wide") (.str "even") = .ok (.bl false) := rfl
    apply wp_step
    · simp only [rv0, rvS, lowR_vO, List.set_cons_zero, List.set_cons_succ, M.bind_ok, lowR_some, lowR_none, lowR_nil, lowC_val, lowC_own, lowC_anc, lowC_tr, er_dct, er_lst, er_sh, isPl_own, isPl_anc, isPl_tree, isPlS, shL_own, shL_anc, shL_tree, shLS, lstAt_own, lstAt_anc, lstAt_tree, lstAtS, dctAt_tree, dctAtS, updR_own, updR_anc, updR_tree, updRS, mapNx_ok, putT_nil, toCl_list, toCl_listP, toCl_dct, setT_sh, setT_lst, setT_tup, setT_dct, setT_ins, retT_sh, retT_lst, retT_tup, retT_dct, erM, shM, appM_own, appMS, insM_own, insMS, retC_val, retC_own, retC_ow, retCS, muC, muN, muSo, ifl0, ifl1, ifl2, ifl3, ifl4, toCl_nil, compR, compT, asB, asSh_l, optM_some, dEq_int, dNe_int, dAdd_int, dSub_int, dLt_int, dLe_int, dGt_int, dGe_int, asI_int, dLen_lst, dLen_tup, newL_lst, newL_tup, dSum_ints, isTyM_lst, isTyM_tup, isTyM_int, isTyM_non, isTyM_bl, isTyM_str, isTyM_dct, ty_ll, ty_tt, ty_ii, ty_ib, ty_dd, dMem_ints, ite_tt, ite_ff, Bool.not_true, Bool.not_false, List.getElem?_cons_zero, List.getElem?_cons_succ, onInts_ii, dAll_map, dAny_map, frz0, frzN, frzS, ifl5, ifl6, ifl7, er_dct0, i0, s2]; rfl
    by_cases h : w < n
    · simp only [rv0, rvS, lowR_vO, List.set_cons_zero, List.set_cons_succ, M.bind_ok, lowR_some, lowR_none, lowR_nil, lowC_val, lowC_own, lowC_anc, lowC_tr, er_dct, er_lst, er_sh, isPl_own, isPl_anc, isPl_tree, isPlS, shL_own, shL_anc, shL_tree, shLS, lstAt_own, lstAt_anc, lstAt_tree, lstAtS, dctAt_tree, dctAtS, updR_own, updR_anc, updR_tree, updRS, mapNx_ok, putT_nil, toCl_list, toCl_listP, toCl_dct, setT_sh, setT_lst, setT_tup, setT_dct, setT_ins, retT_sh, retT_lst, retT_tup, retT_dct, erM, shM, appM_own, appMS, insM_own, insMS, retC_val, retC_own, retC_ow, retCS, muC, muN, muSo, ifl0, ifl1, ifl2, ifl3, ifl4, toCl_nil, compR, compT, asB, asSh_l, optM_some, dEq_int, dNe_int, dAdd_int, dSub_int, dLt_int, dLe_int, dGt_int, dGe_int, asI_int, dLen_lst, dLen_tup, newL_lst, newL_tup, dSum_ints, isTyM_lst, isTyM_tup, isTyM_int, isTyM_non, isTyM_bl, isTyM_str, isTyM_dct, ty_ll, ty_tt, ty_ii, ty_ib, ty_dd, dMem_ints, ite_tt, ite_ff, Bool.not_true, Bool.not_false, List.getElem?_cons_zero, List.getElem?_cons_succ, onInts_ii, dAll_map, dAny_map, frz0, frzN, frzS, ifl5, ifl6, ifl7, er_dct0, i0, i1, s1, decide_eq_true h, moT, if_pos h]; rfl
    · apply wp_step
      · simp only [rv0, rvS, lowR_vO, List.set_cons_zero, List.set_cons_succ, M.bind_ok, lowR_some, lowR_none, lowR_nil, lowC_val, lowC_own, lowC_anc, lowC_tr, er_dct, er_lst, er_sh, isPl_own, isPl_anc, isPl_tree, isPlS, shL_own, shL_anc, shL_tree, shLS, lstAt_own, lstAt_anc, lstAt_tree, lstAtS, dctAt_tree, dctAtS, updR_own, updR_anc, updR_tree, updRS, mapNx_ok, putT_nil, toCl_list, toCl_listP, toCl_dct, setT_sh, setT_lst, setT_tup, setT_dct, setT_ins, retT_sh, retT_lst, retT_tup, retT_dct, erM, shM, appM_own, appMS, insM_own, insMS, retC_val, retC_own, retC_ow, retCS, muC, muN, muSo, ifl0, ifl1, ifl2, ifl3, ifl4, toCl_nil, compR, compT, asB, asSh_l, optM_some, dEq_int, dNe_int, dAdd_int, dSub_int, dLt_int, dLe_int, dGt_int, dGe_int, asI_int, dLen_lst, dLen_tup, newL_lst, newL_tup, dSum_ints, isTyM_lst, isTyM_tup, isTyM_int, isTyM_non, isTyM_bl, isTyM_str, isTyM_dct, ty_ll, ty_tt, ty_ii, ty_ib, ty_dd, dMem_ints, ite_tt, ite_ff, Bool.not_true, Bool.not_false, List.getElem?_cons_zero, List.getElem?_cons_succ, onInts_ii, dAll_map, dAny_map, frz0, frzN, frzS, ifl5, ifl6, ifl7, er_dct0, i0, i1, s1, s3, decide_eq_false h]; rfl
      apply wp_step
      · simp only [rv0, rvS, lowR_vO, List.set_cons_zero, List.set_cons_succ, M.bind_ok, lowR_some, lowR_none, lowR_nil, lowC_val, lowC_own, lowC_anc, lowC_tr, er_dct, er_lst, er_sh, isPl_own, isPl_anc, isPl_tree, isPlS, shL_own, shL_anc, shL_tree, shLS, lstAt_own, lstAt_anc, lstAt_tree, lstAtS, dctAt_tree, dctAtS, updR_own, updR_anc, updR_tree, updRS, mapNx_ok, putT_nil, toCl_list, toCl_listP, toCl_dct, setT_sh, setT_lst, setT_tup, setT_dct, setT_ins, retT_sh, retT_lst, retT_tup, retT_dct, erM, shM, appM_own, appMS, insM_own, insMS, retC_val, retC_own, retC_ow, retCS, muC, muN, muSo, ifl0, ifl1, ifl2, ifl3, ifl4, toCl_nil, compR, compT, asB, asSh_l, optM_some, dEq_int, dNe_int, dAdd_int, dSub_int, dLt_int, dLe_int, dGt_int, dGe_int, asI_int, dLen_lst, dLen_tup, newL_lst, newL_tup, dSum_ints, isTyM_lst, isTyM_tup, isTyM_int, isTyM_non, isTyM_bl, isTyM_str, isTyM_dct, ty_ll, ty_tt, ty_ii, ty_ib, ty_dd, dMem_ints, ite_tt, ite_ff, Bool.not_true, Bool.not_false, List.getElem?_cons_zero, List.getElem?_cons_succ, onInts_ii, dAll_map, dAny_map, frz0, frzN, frzS, ifl5, ifl6, ifl7, er_dct0, i0, s4]; rfl
      simp only [rv0, rvS, lowR_vO, List.set_cons_zero, List.set_cons_succ, M.bind_ok, lowR_some, lowR_none, lowR_nil, lowC_val, lowC_own, lowC_anc, lowC_tr, er_dct, er_lst, er_sh, isPl_own, isPl_anc, isPl_tree, isPlS, shL_own, shL_anc, shL_tree, shLS, lstAt_own, lstAt_anc, lstAt_tree, lstAtS, dctAt_tree, dctAtS, updR_own, updR_anc, updR_tree, updRS, mapNx_ok, putT_nil, toCl_list, toCl_listP, toCl_dct, setT_sh, setT_lst, setT_tup, setT_dct, setT_ins, retT_sh, retT_lst, retT_tup, retT_dct, erM, shM, appM_own, appMS, insM_own, insMS, retC_val, retC_own, retC_ow, retCS, muC, muN, muSo, ifl0, ifl1, ifl2, ifl3, ifl4, toCl_nil, compR, compT, asB, asSh_l, optM_some, dEq_int, dNe_int, dAdd_int, dSub_int, dLt_int, dLe_int, dGt_int, dGe_int, asI_int, dLen_lst, dLen_tup, newL_lst, newL_tup, dSum_ints, isTyM_lst, isTyM_tup, isTyM_int, isTyM_non, isTyM_bl, isTyM_str, isTyM_dct, ty_ll, ty_tt, ty_ii, ty_ib, ty_dd, dMem_ints, ite_tt, ite_ff, Bool.not_true, Bool.not_false, List.getElem?_cons_zero, List.getElem?_cons_succ, onInts_ii, dAll_map, dAny_map, frz0, frzN, frzS, ifl5, ifl6, ifl7, er_dct0, lz, moT, if_neg h]; rfl
  | short n =>
    have i0 : dItm (moD (.short n)) (.int 0) = .ok (.str "short") := rfl
    have i1 : dItm (moD (.short n)) (.int 1) = .ok (.int n) := rfl
    have s1 : dEq 16 (.str "short") (.str "wide") = .ok (.bl false) := rfl
    have s2 : dEq 16 (.str "short") (.str "pair") = .ok (.bl false) := rfl
    have s3 : dEq 16 (.str "short") (.str "short") = .ok (.bl true) := rfl
    have s4 : dEq 16 (.str "short") (.str "even") = .ok (.bl false) := rfl
    apply wp_step
    · simp only [rv0, rvS, lowR_vO, List.set_cons_zero, List.set_cons_succ, M.bind_ok, lowR_some, lowR_none, lowR_nil, lowC_val, lowC_own, lowC_anc, lowC_tr, er_dct, er_lst, er_sh, isPl_own, isPl_anc, isPl_tree, isPlS, shL_own, shL_anc, shL_tree, shLS, lstAt_own, lstAt_anc, lstAt_tree, lstAtS, dctAt_tree, dctAtS, updR_own, updR_anc, updR_tree, updRS, mapNx_ok, putT_nil, toCl_list, toCl_listP, toCl_dct, setT_sh, setT_lst, setT_tup, setT_dct, setT_ins, retT_sh, retT_lst, retT_tup, retT_dct, erM, shM, appM_own, appMS, insM_own, insMS, retC_val, retC_own, retC_ow, retCS, muC, muN, muSo, ifl0, ifl1, ifl2, ifl3, ifl4, toCl_nil, compR, compT, asB, asSh_l, optM_some, dEq_int, dNe_int, dAdd_int, dSub_int, dLt_int, dLe_int, dGt_int, dGe_int, asI_int, dLen_lst, dLen_tup, newL_lst, newL_tup, dSum_ints, isTyM_lst, isTyM_tup, isTyM_int, isTyM_non, isTyM_bl, isTyM_str, isTyM_dct, ty_ll, ty_tt, ty_ii, ty_ib, ty_dd, dMem_ints, ite_tt, ite_ff, Bool.not_true, Bool.not_false, List.getElem?_cons_zero, List.getElem?_cons_succ, onInts_ii, dAll_map, dAny_map, frz0, frzN, frzS, ifl5, ifl6, ifl7, er_dct0, i0, s2]; rfl
    by_cases h : n < z
    · simp only [rv0, rvS, lowR_vO, List.set_cons_zero, List.set_cons_succ, M.bind_ok, lowR_some, lowR_none, lowR_nil, lowC_val, lowC_own, lowC_anc, lowC_tr, er_dct, er_lst, er_sh, isPl_own, isPl_anc, isPl_tree, isPlS, shL_own, shL_anc, shL_tree, shLS, lstAt_own, lstAt_anc, lstAt_tree, lstAtS, dctAt_tree, dctAtS, updR_own, updR_anc, updR_tree, updRS, mapNx_ok, putT_nil, toCl_list, toCl_listP, toCl_dct, setT_sh, setT_lst, setT_tup, setT_dct, setT_ins, retT_sh, retT_lst, retT_tup, retT_dct, erM, shM, appM_own, appMS, insM_own, insMS, retC_val, retC_own, retC_ow, retCS, muC, muN, muSo, ifl0, ifl1, ifl2, ifl3, ifl4, toCl_nil, compR, compT, asB, asSh_l, optM_some, dEq_int, dNe_int, dAdd_int, dSub_int, dLt_int, dLe_int, dGt_int, dGe_int, asI_int, dLen_lst, dLen_tup, newL_lst, newL_tup, dSum_ints, isTyM_lst, isTyM_tup, isTyM_int, isTyM_non, isTyM_bl, isTyM_str, isTyM_dct, ty_ll, ty_tt, ty_ii, ty_ib, ty_dd, dMem_ints, ite_tt, ite_ff, Bool.not_true, Bool.not_false, List.getElem?_cons_zero, List.getElem?_cons_succ, onInts_ii, dAll_map, dAny_map, frz0, frzN, frzS, ifl5, ifl6, ifl7, er_dct0, lz, i0, i1, s1, s3, decide_eq_true h, moT, if_pos h]; rfl
    · apply wp_step
      · simp only [rv0, rvS, lowR_vO, List.set_cons_zero, List.set_cons_succ, M.bind_ok, lowR_some, lowR_none, lowR_nil, lowC_val, lowC_own, lowC_anc, lowC_tr, er_dct, er_lst, er_sh, isPl_own, isPl_anc, isPl_tree, isPlS, shL_own, shL_anc, shL_tree, shLS, lstAt_own, lstAt_anc, lstAt_tree, lstAtS, dctAt_tree, dctAtS, updR_own, updR_anc, updR_tree, updRS, mapNx_ok, putT_nil, toCl_list, toCl_listP, toCl_dct, setT_sh, setT_lst, setT_tup, setT_dct, setT_ins, retT_sh, retT_lst, retT_tup, retT_dct, erM, shM, appM_own, appMS, insM_own, insMS, retC_val, retC_own, retC_ow, retCS, muC, muN, muSo, ifl0, ifl1, ifl2, ifl3, ifl4, toCl_nil, compR, compT, asB, asSh_l, optM_some, dEq_int, dNe_int, dAdd_int, dSub_int, dLt_int, dLe_int, dGt_int, dGe_int, asI_int, dLen_lst, dLen_tup, newL_lst, newL_tup, dSum_ints, isTyM_lst, isTyM_tup, isTyM_int, isTyM_non, isTyM_bl, isTyM_str, isTyM_dct, ty_ll, ty_tt, ty_ii, ty_ib, ty_dd, dMem_ints, ite_tt, ite_ff, Bool.not_true, Bool.not_false, List.getElem?_cons_zero, List.getElem?_cons_succ, onInts_ii, dAll_map, dAny_map, frz0, frzN, frzS, ifl5, ifl6, ifl7, er_dct0, lz, i0, i1, s1, s3, decide_eq_false h]; rfl
      apply wp_step
      · simp only [rv0, rvS, lowR_vO, List.set_cons_zero, List.set_cons_succ, M.bind_ok, lowR_some, lowR_none, lowR_nil, lowC_val, lowC_own, lowC_anc, lowC_tr, er_dct, er_lst, er_sh, isPl_own, isPl_anc, isPl_tree, isPlS, shL_own, shL_anc, shL_tree, shLS, lstAt_own, lstAt_anc, lstAt_tree, lstAtS, dctAt_tree, dctAtS, updR_own, updR_anc, updR_tree, updRS, mapNx_ok, putT_nil, toCl_list, toCl_listP, toCl_dct, setT_sh, setT_lst, setT_tup, setT_dct, setT_ins, retT_sh, retT_lst, retT_tup, retT_dct, erM, shM, appM_own, appMS, insM_own, insMS, retC_val, retC_own, retC_ow, retCS, muC, muN, muSo, ifl0, ifl1, ifl2, ifl3, ifl4, toCl_nil, compR, compT, asB, asSh_l, optM_some, dEq_int, dNe_int, dAdd_int, dSub_int, dLt_int, dLe_int, dGt_int, dGe_int, asI_int, dLen_lst, dLen_tup, newL_lst, newL_tup, dSum_ints, isTyM_lst, isTyM_tup, isTyM_int, isTyM_non, isTyM_bl, isTyM_str, isTyM_dct, ty_ll, ty_tt, ty_ii, ty_ib, ty_dd, dMem_ints, ite_tt, ite_ff, Bool.not_true, Bool.not_false, List.getElem?_cons_zero, List.getElem?_cons_succ, onInts_ii, dAll_map, dAny_map, frz0, frzN, frzS, ifl5, ifl6, ifl7, er_dct0, i0, s4]; rfl
      simp only [rv0, rvS, lowR_vO, List.set_cons_zero, List.set_cons_succ, M.bind_ok, lowR_some, lowR_none, lowR_nil, lowC_val, lowC_own, lowC_anc, lowC_tr, er_dct, er_lst, er_sh, isPl_own, isPl_anc, isPl_tree, isPlS, shL_own, shL_anc, shL_tree, shLS, lstAt_own, lstAt_anc, lstAt_tree, lstAtS, dctAt_tree, dctAtS, updR_own, updR_anc, updR_tree, updRS, mapNx_ok, putT_nil, toCl_list, toCl_listP, toCl_dct, setT_sh, setT_lst, setT_tup, setT_dct, setT_ins, retT_sh, retT_lst, retT_tup, retT_dct, erM, shM, appM_own, appMS, insM_own, insMS, retC_val, retC_own, retC_ow, retCS, muC, muN, muSo, ifl0, ifl1, ifl2, ifl3, ifl4, toCl_nil, compR, compT, asB, asSh_l, optM_some, dEq_int, dNe_int, dAdd_int, dSub_int, dLt_int, dLe_int, dGt_int, dGe_int, asI_int, dLen_lst, dLen_tup, newL_lst, newL_tup, dSum_ints, isTyM_lst, isTyM_tup, isTyM_int, isTyM_non, isTyM_bl, isTyM_str, isTyM_dct, ty_ll, ty_tt, ty_ii, ty_ib, ty_dd, dMem_ints, ite_tt, ite_ff, Bool.not_true, Bool.not_false, List.getElem?_cons_zero, List.getElem?_cons_succ, onInts_ii, dAll_map, dAny_map, frz0, frzN, frzS, ifl5, ifl6, ifl7, er_dct0, lz, moT, if_neg h]; rfl
  | even => rfl
  | pair a b =>
    have h1 := law_told3_eq a (some z) w (by simp only [moDep] at hm; omega)
    have h2 := law_told3_eq b (moT a (some z) w) w (by simp only [moDep] at hm; omega)
    have i0 : dItm (moD (.pair a b)) (.int 0) = .ok (.str "pair") := rfl
    have i1 : dItm (moD (.pair a b)) (.int 1) = .ok (moD a) := rfl
    have i2 : dItm (moD (.pair a b)) (.int 2) = .ok (moD b) := rfl
    have s4 : dEq 16 (.str "pair") (.str "pair") = .ok (.bl true) := rfl
    simp only [rv0, rvS, lowR_vO, List.set_cons_zero, List.set_cons_succ, M.bind_ok, lowR_some, lowR_none, lowR_nil, lowC_val, lowC_own, lowC_anc, lowC_tr, er_dct, er_lst, er_sh, isPl_own, isPl_anc, isPl_tree, isPlS, shL_own, shL_anc, shL_tree, shLS, lstAt_own, lstAt_anc, lstAt_tree, lstAtS, dctAt_tree, dctAtS, updR_own, updR_anc, updR_tree, updRS, mapNx_ok, putT_nil, toCl_list, toCl_listP, toCl_dct, setT_sh, setT_lst, setT_tup, setT_dct, setT_ins, retT_sh, retT_lst, retT_tup, retT_dct, erM, shM, appM_own, appMS, insM_own, insMS, retC_val, retC_own, retC_ow, retCS, muC, muN, muSo, ifl0, ifl1, ifl2, ifl3, ifl4, toCl_nil, compR, compT, asB, asSh_l, optM_some, dEq_int, dNe_int, dAdd_int, dSub_int, dLt_int, dLe_int, dGt_int, dGe_int, asI_int, dLen_lst, dLen_tup, newL_lst, newL_tup, dSum_ints, isTyM_lst, isTyM_tup, isTyM_int, isTyM_non, isTyM_bl, isTyM_str, isTyM_dct, ty_ll, ty_tt, ty_ii, ty_ib, ty_dd, dMem_ints, ite_tt, ite_ff, Bool.not_true, Bool.not_false, List.getElem?_cons_zero, List.getElem?_cons_succ, onInts_ii, dAll_map, dAny_map, frz0, frzN, frzS, ifl5, ifl6, ifl7, er_dct0, i0, i1, i2, s4, h1, h2]
    rfl
noncomputable def law_toldF : List D → M OT := Classical.choose ex_law_told
theorem law_told_at {P : Program} {w : World} {K : PySem.W.Frag} {mg : Str → Option Value} {base : Heap} : Txt K mg → FnT P w K mg base "_law_told" 4 3 law_toldF := (Classical.choose_spec ex_law_told).1
theorem law_told_eq : ∀ (m : Mo) (l : Option Int) (w : Int), moDep m < 4 → law_toldF [moD m, lenD l, .int w] = .ok (.sh (lenD (moT m l w))) := (Classical.choose_spec ex_law_told).2
theorem ex_law : ∃ F : List D → M D, (∀ {P : Program} {w : World} {K : PySem.W.Frag} {mg : Str → Option Value} {base : Heap} {f : Addr} {fd : FuncData}, Txt K mg → Fun K "law" "law" s_law f fd → FnOk P w K mg base CX0 7 f fd ["_law_script"] (spM0 K 1 F)) ∧ (∀ ns : List Int, ns.length ≤ 63 → (∀ n ∈ ns, Sm n) → F [.lst (ns.map D.int)] = .ok (.bl true)) := by
  refine ⟨_, fun {P w K mg base f fd} T F => fn_D0 (k := 6) F sc_law _ (fun cdv A outer s H E hr => (dss_cons (ds_setC (NB := ["_law_cell"]) 1 [none] sc_law.nd rfl (Or.inl rfl) rfl (di_list (de_dn (dn_slice (de_var 0 (pv 0)) do_none (do_some de_int)))) rfl rfl (dgb_name 0 (by decide) rfl rfl rfl) (fun _ _ _ _ => dts_nil) (fun _ _ _ _ => (de_mod (de_var 0 (pv 0)) (de_pow de_int de_int)))) (dss_cons (ds_set 2 sc_law.nd rfl (Or.inl rfl) (de_itm (huR hr 16 (by decide)) (de_dn (dn_noX (dn_call (xok_no rfl).toXCall (law_map_at T) (hr.mono (by decide)) rfl (da_cons (de_var 1 (pv 1)) (da_cons de_int da_nil)) rfl))) de_int)) (dss_cons (ds_for PassesOwn.never rfl (di_range1 (c := true) rfl T.b_range (de_add de_int (de_len rfl T.b_len (de_var 1 (pv 1))))) (dg_name 3 sc_law.nd rfl (Or.inl rfl)) (dss_cons (ds_set 4 sc_law.nd rfl (Or.inl rfl) (de_mod (de_mulW (de_add (de_sum rfl rfl T.b_sum (de_dn (dn_slice (de_var 1 (pv 1)) (do_some (de_var 3 (pv 3))) (do_some (de_add (de_var 3 (pv 3)) de_int))))) (de_mulW de_int (de_var 3 (pv 3)))) de_int) (de_add (de_pow de_int de_int) de_int))) (dss_cons (ds_set 5 sc_law.nd rfl (Or.inl rfl) (de_dn (dn_noX (dn_call (xok_no rfl).toXCall (law_traveller_at T) (hr.mono (by decide)) rfl (da_cons (de_var 4 (pv 4)) (da_cons (de_var 2 (pv 2)) (da_cons de_int da_nil))) rfl)))) (dss_cons (ds_set 6 sc_law.nd rfl (Or.inl rfl) (de_dn (dn_noX (dn_call (xok_no rfl).toXCall (law_made_at T) (hr.mono (by decide)) rfl (da_cons (de_var 5 (pv 5)) da_nil) rfl)))) (dss_cons (ds_if (dt_not (dt_tru (c := true) (de_isC T.t_Traveller rfl T.b_isinstance rfl (de_var 6 (pv 6))))) (dss_one (ds_ret (de_any de_bl))) dss_nil) (dss_one (ds_for PassesOwn.never rfl (di_list (de_dn (dn_plus (de_dn (dn_slice (de_var 2 (pv 2)) (do_some (de_mulW (de_fdiv (de_var 3 (pv 3)) de_int) de_int)) (do_some (de_add (de_mulW (de_fdiv (de_var 3 (pv 3)) de_int) de_int) de_int)))) (de_lst (da_cons (de_tup (da_cons de_int (da_cons de_int (da_cons de_non (da_cons (de_sub (de_pow de_int de_int) de_int) da_nil))))) (da_cons (de_tup (da_cons de_int (da_cons de_int (da_cons de_int (da_cons de_int da_nil))))) da_nil)))))) (dg_name 7 sc_law.nd rfl (Or.inl rfl)) (dss_cons (ds_set 8 sc_law.nd rfl (Or.inl rfl) (de_dn (dn_noX (dn_call (xok_no rfl).toXCall (law_told_at T) (hr.mono (by decide)) rfl (da_cons (de_var 5 (pv 5)) (da_cons (de_itm (huR hr 16 (by decide)) (de_var 7 (pv 7)) de_int) (da_cons (de_itm (huR hr 16 (by decide)) (de_var 7 (pv 7)) de_int) da_nil))) rfl)))) (dss_cons (ds_set 9 sc_law.nd rfl (Or.inl rfl) (de_dn (dn_noX (dn_meth (k := 2) [("Traveller", Traveller_toldF), ("Wide", Wide_toldF), ("Short", Short_toldF), ("Even", Even_toldF), ("Pair", Pair_toldF)] (xok_no rfl).toXCall (mth_cons (by decide) (Traveller_told_at T) (mth_cons (by decide) (Wide_told_at T) (mth_cons (by decide) (Short_told_at T) (mth_cons (by decide) (Even_told_at T) (mth_cons (by decide) (Pair_told_at T) mth_nil))))) (hr.mono (by decide)) (de_var 6 (pv 6)) (da_cons (de_var 7 (pv 7)) da_nil) rfl)))) (dss_cons (ds_if (DW.dt (dw_or (dt_tru (c := true) (de_isT (kit_bool' _) rfl T.b_isinstance rfl T.b_bool (by decide +kernel) (de_var 9 (pv 9)))) (dw_or1 (dt_ne (c := true) (huR hr 16 (by decide)) (de_var 9 (pv 9)) (de_var 8 (pv 8)))))) (dss_one (ds_ret (de_any de_bl))) dss_nil) (dss_one (ds_if (DW.dt (dw_and (dt_isN (c := true) (de_var 8 (pv 8))) (dw_and1 (dt_notN (c := true) (de_var 9 (pv 9)))))) (dss_one (ds_ret (de_any de_bl))) dss_nil)))))))))))) (dss_one (ds_ret (de_any de_bl))))))), ?_⟩
  intro ns hns hsm
  have ht := t60_gt
  have e0 : stRho ["_law_script", "_law_cells", "_law_roads", "_law_k", "_law_cell", "_law_model", "_law_made_here", "_law_road", "_law_due", "_law_found"] [.lst (ns.map D.int)] = [some (.val (.lst (ns.map D.int))), none, none, none, none, none, none, none, none, none] := rfl
  rw [e0]
  refine fd_eq ?_
  have s2 : slN none (some 30) (.lst (ns.map D.int)) = .ok (.lst (((ns.take 30).map D.int).map .sh)) := by rw [List.map_take]; exact slN_take _ 30
  obtain ⟨cs, hcs⟩ : ∃ cs : List Int, cs = (ns.take 30).map fun c => c % T60 := ⟨_, rfl⟩
  have hcl : cs.length ≤ 30 := by rw [hcs, List.length_map, List.length_take]; omega
  have hcb : ∀ c ∈ cs, 0 ≤ c ∧ c < T60 := fun c hc => by
    rw [hcs] at hc
    obtain ⟨x, _, rfl⟩ := List.mem_map.mp hc
    exact ⟨Int.emod_nonneg _ (by omega), Int.emod_lt_of_pos _ (by omega)⟩
  obtain ⟨rs, hrl, hrs, hFm⟩ := law_map_eq cs 7 (by decide) (by decide) (by omega) hcb
  have hlen : ((ns.take 30).map D.int).length ≤ 1000 := by rw [List.length_map, List.length_take]; omega
  have n1 : dItm (netD 7 rs) (.int 1) = .ok (.lst (rs.map rdD)) := rfl
  apply wp_step
  · simp only [rv0, rvS, lowR_vO, List.set_cons_zero, List.set_cons_succ, M.bind_ok, lowR_some, lowR_none, lowR_nil, lowC_val, lowC_own, lowC_anc, lowC_tr, er_dct, er_lst, er_sh, isPl_own, isPl_anc, isPl_tree, isPlS, shL_own, shL_anc, shL_tree, shLS, lstAt_own, lstAt_anc, lstAt_tree, lstAtS, dctAt_tree, dctAtS, updR_own, updR_anc, updR_tree, updRS, mapNx_ok, putT_nil, toCl_list, toCl_listP, toCl_dct, setT_sh, setT_lst, setT_tup, setT_dct, setT_ins, retT_sh, retT_lst, retT_tup, retT_dct, erM, shM, appM_own, appMS, insM_own, insMS, retC_val, retC_own, retC_ow, retCS, muC, muN, muSo, ifl0, ifl1, ifl2, ifl3, ifl4, toCl_nil, compR, compT, asB, asSh_l, optM_some, dEq_int, dNe_int, dAdd_int, dSub_int, dLt_int, dLe_int, dGt_int, dGe_int, asI_int, dLen_lst, dLen_tup, newL_lst, newL_tup, dSum_ints, isTyM_lst, isTyM_tup, isTyM_int, isTyM_non, isTyM_bl, isTyM_str, isTyM_dct, ty_ll, ty_tt, ty_ii, ty_ib, ty_dd, dMem_ints, ite_tt, ite_ff, Bool.not_true, Bool.not_false, List.getElem?_cons_zero, List.getElem?_cons_succ, onInts_ii, dAll_map, dAny_map, frz0, frzN, frzS, ifl5, ifl6, ifl7, er_dct0, s2, if_pos hlen, pow60]
    rw [compM_mapA (fun c => D.int (c % T60)) (fun c hc => ⟨_, rfl, rfl, by simp only [rv0, rvS, lowR_vO, List.set_cons_zero, List.set_cons_succ, M.bind_ok, lowR_some, lowR_none, lowR_nil, lowC_val, lowC_own, lowC_anc, lowC_tr, er_dct, er_lst, er_sh, isPl_own, isPl_anc, isPl_tree, isPlS, shL_own, shL_anc, shL_tree, shLS, lstAt_own, lstAt_anc, lstAt_tree, lstAtS, dctAt_tree, dctAtS, updR_own, updR_anc, updR_tree, updRS, mapNx_ok, putT_nil, toCl_list, toCl_listP, toCl_dct, setT_sh, setT_lst, setT_tup, setT_dct, setT_ins, retT_sh, retT_lst, retT_tup, retT_dct, erM, shM, appM_own, appMS, insM_own, insMS, retC_val, retC_own, retC_ow, retCS, muC, muN, muSo, ifl0, ifl1, ifl2, ifl3, ifl4, toCl_nil, compR, compT, asB, asSh_l, optM_some, dEq_int, dNe_int, dAdd_int, dSub_int, dLt_int, dLe_int, dGt_int, dGe_int, asI_int, dLen_lst, dLen_tup, newL_lst, newL_tup, dSum_ints, isTyM_lst, isTyM_tup, isTyM_int, isTyM_non, isTyM_bl, isTyM_str, isTyM_dct, ty_ll, ty_tt, ty_ii, ty_ib, ty_dd, dMem_ints, ite_tt, ite_ff, Bool.not_true, Bool.not_false, List.getElem?_cons_zero, List.getElem?_cons_succ, onInts_ii, dAll_map, dAny_map, frz0, frzN, frzS, ifl5, ifl6, ifl7, er_dct0, pow60, t60_mod]⟩)]
    have e1 : ((ns.take 30).map fun c => D.int (c % T60)) = cs.map D.int := by rw [hcs, List.map_map]; rfl
    simp only [rv0, rvS, lowR_vO, List.set_cons_zero, List.set_cons_succ, M.bind_ok, lowR_some, lowR_none, lowR_nil, lowC_val, lowC_own, lowC_anc, lowC_tr, er_dct, er_lst, er_sh, isPl_own, isPl_anc, isPl_tree, isPlS, shL_own, shL_anc, shL_tree, shLS, lstAt_own, lstAt_anc, lstAt_tree, lstAtS, dctAt_tree, dctAtS, updR_own, updR_anc, updR_tree, updRS, mapNx_ok, putT_nil, toCl_list, toCl_listP, toCl_dct, setT_sh, setT_lst, setT_tup, setT_dct, setT_ins, retT_sh, retT_lst, retT_tup, retT_dct, erM, shM, appM_own, appMS, insM_own, insMS, retC_val, retC_own, retC_ow, retCS, muC, muN, muSo, ifl0, ifl1, ifl2, ifl3, ifl4, toCl_nil, compR, compT, asB, asSh_l, optM_some, dEq_int, dNe_int, dAdd_int, dSub_int, dLt_int, dLe_int, dGt_int, dGe_int, asI_int, dLen_lst, dLen_tup, newL_lst, newL_tup, dSum_ints, isTyM_lst, isTyM_tup, isTyM_int, isTyM_non, isTyM_bl, isTyM_str, isTyM_dct, ty_ll, ty_tt, ty_ii, ty_ib, ty_dd, dMem_ints, ite_tt, ite_ff, Bool.not_true, Bool.not_false, List.getElem?_cons_zero, List.getElem?_cons_succ, onInts_ii, dAll_map, dAny_map, frz0, frzN, frzS, ifl5, ifl6, ifl7, er_dct0, e1]
    rfl
  have hFm' : law_mapF [.lst (cs.map D.int), .int 7] = .ok (.sh (netD 7 rs)) := hFm
  apply wp_step
  · simp only [rv0, rvS, lowR_vO, List.set_cons_zero, List.set_cons_succ, M.bind_ok, lowR_some, lowR_none, lowR_nil, lowC_val, lowC_own, lowC_anc, lowC_tr, er_dct, er_lst, er_sh, isPl_own, isPl_anc, isPl_tree, isPlS, shL_own, shL_anc, shL_tree, shLS, lstAt_own, lstAt_anc, lstAt_tree, lstAtS, dctAt_tree, dctAtS, updR_own, updR_anc, updR_tree, updRS, mapNx_ok, putT_nil, toCl_list, toCl_listP, toCl_dct, setT_sh, setT_lst, setT_tup, setT_dct, setT_ins, retT_sh, retT_lst, retT_tup, retT_dct, erM, shM, appM_own, appMS, insM_own, insMS, retC_val, retC_own, retC_ow, retCS, muC, muN, muSo, ifl0, ifl1, ifl2, ifl3, ifl4, toCl_nil, compR, compT, asB, asSh_l, optM_some, dEq_int, dNe_int, dAdd_int, dSub_int, dLt_int, dLe_int, dGt_int, dGe_int, asI_int, dLen_lst, dLen_tup, newL_lst, newL_tup, dSum_ints, isTyM_lst, isTyM_tup, isTyM_int, isTyM_non, isTyM_bl, isTyM_str, isTyM_dct, ty_ll, ty_tt, ty_ii, ty_ib, ty_dd, dMem_ints, ite_tt, ite_ff, Bool.not_true, Bool.not_false, List.getElem?_cons_zero, List.getElem?_cons_succ, onInts_ii, dAll_map, dAny_map, frz0, frzN, frzS, ifl5, ifl6, ifl7, er_dct0, hFm', n1]; rfl
  try simp only [List.set_cons_zero, List.set_cons_succ]
  have hln : ((1 : Int) + ((cs.map D.int).length : Int)) = ((1 + cs.length : Nat) : Int) := by rw [List.length_map]; omega
  have hr := rngM_nat (n := 1 + cs.length) (by omega)
  refine wp_cut (I := fun ρ => ∃ (s3 s4 s5 s6 s7 s8 s9 : Option Cl), ρ = [some (.val (.lst (ns.map D.int))), some (.val (.lst (cs.map D.int))), some (.val (.lst (rs.map rdD))), s3, s4, s5, s6, s7, s8, s9]) ?_ ?_
  · simp only [rv0, rvS, lowR_vO, List.set_cons_zero, List.set_cons_succ, M.bind_ok, lowR_some, lowR_none, lowR_nil, lowC_val, lowC_own, lowC_anc, lowC_tr, er_dct, er_lst, er_sh, isPl_own, isPl_anc, isPl_tree, isPlS, shL_own, shL_anc, shL_tree, shLS, lstAt_own, lstAt_anc, lstAt_tree, lstAtS, dctAt_tree, dctAtS, updR_own, updR_anc, updR_tree, updRS, mapNx_ok, putT_nil, toCl_list, toCl_listP, toCl_dct, setT_sh, setT_lst, setT_tup, setT_dct, setT_ins, retT_sh, retT_lst, retT_tup, retT_dct, erM, shM, appM_own, appMS, insM_own, insMS, retC_val, retC_own, retC_ow, retCS, muC, muN, muSo, ifl0, ifl1, ifl2, ifl3, ifl4, toCl_nil, compR, compT, asB, asSh_l, optM_some, dEq_int, dNe_int, dAdd_int, dSub_int, dLt_int, dLe_int, dGt_int, dGe_int, asI_int, dLen_lst, dLen_tup, newL_lst, newL_tup, dSum_ints, isTyM_lst, isTyM_tup, isTyM_int, isTyM_non, isTyM_bl, isTyM_str, isTyM_dct, ty_ll, ty_tt, ty_ii, ty_ib, ty_dd, dMem_ints, ite_tt, ite_ff, Bool.not_true, Bool.not_false, List.getElem?_cons_zero, List.getElem?_cons_succ, onInts_ii, dAll_map, dAny_map, frz0, frzN, frzS, ifl5, ifl6, ifl7, er_dct0, hln, hr]
    refine wp_for (fun i ρ => ∃ (s3 s4 s5 s6 s7 s8 s9 : Option Cl), ρ = [some (.val (.lst (ns.map D.int))), some (.val (.lst (cs.map D.int))), some (.val (.lst (rs.map rdD))), s3, s4, s5, s6, s7, s8, s9]) ⟨none, none, none, none, none, none, none, rfl⟩ ?_ ?_
    · rintro k d ρ hd ⟨s3, s4, s5, s6, s7, s8, s9, rfl⟩
      obtain ⟨hd1, hi⟩ := rangeD_get hd
      rw [Int.zero_add] at hd1
      subst hd1
      refine ⟨_, rfl, ?_⟩
      have sl : slN (some (k : Int)) (some ((k : Int) + 1)) (.lst (cs.map D.int)) = .ok (.lst ((((cs.drop k).take 1).map D.int).map .sh)) := by
        have := slN_mid (cs.map D.int) k (k + 1)
        rw [show k + 1 - k = 1 by omega] at this
        rw [List.map_take, List.map_drop]
        exact this
      obtain ⟨S, hS, S0, S1⟩ : ∃ S : Int, ((cs.drop k).take 1).sum = S ∧ 0 ≤ S ∧ S < T60 := by
        cases hq : cs.drop k with
        | nil => exact ⟨0, rfl, by omega, by omega⟩
        | cons x xs =>
          have hx := hcb x (List.mem_of_mem_drop (hq ▸ List.mem_cons_self : x ∈ cs.drop k))
          refine ⟨x, ?_, hx.1, hx.2⟩
          rw [List.take_succ_cons, List.take_zero, List.sum_cons, List.sum_nil, Int.add_zero]
      have m7 : dMulW (.int 7) (.int k) = .ok (.int (7 * k)) := mul_big (k := 4) (l := 6) (by decide) (by decide) (by omega) (by decide)
      have hlt := t60_lt
      have mB : dMulW (.int (S + 7 * k)) (.int 982451653) = .ok (.int ((S + 7 * k) * 982451653)) := mul_big (k := 201) (l := 30) (by
        have h2 : (2 : Nat) ^ 201 = 2 ^ 200 + 2 ^ 200 := by decide
        have h3 : (1000 : Nat) < 2 ^ 200 := by decide
        omega) (by decide) (by decide) (by decide)
      have ad7 : dAdd (.int T60) (.int 7) = .ok (.int (T60 + 7)) := rfl
      obtain ⟨c, hc⟩ : ∃ c, c = (S + 7 * k) * 982451653 % (T60 + 7) := ⟨_, rfl⟩
      have c0 : 0 ≤ c := by rw [hc]; exact Int.emod_nonneg _ (by omega)
      have c1 : c < T60 + 7 := by rw [hc]; exact Int.emod_lt_of_pos _ (by omega)
      have cb : c.natAbs < 2 ^ 250 := by
        have h3 : (2 : Nat) ^ 200 + 7 < 2 ^ 250 := by decide
        omega
      obtain ⟨m, hmd, hT⟩ := law_traveller_eq c rs 3 c0 cb (by decide)
      have hT' : law_travellerF [.int c, .lst (rs.map rdD), .int 3] = .ok (.sh (moD m)) := hT
      obtain ⟨t, hM, hE⟩ := law_made_eq m (by omega)
      have hI : dIsI [("Traveller", true), ("Wide", true), ("Short", true), ("Even", true), ("Pair", true)] (moO m) = .ok (.bl true) := by cases m <;> rfl
      have hsz : moSz m ≤ 900 := by
        have h1 := moSz_dep m
        have h2 : 2 ^ (moDep m + 1) ≤ 2 ^ 4 := Nat.pow_le_pow_right (by decide) (by omega)
        omega
      have hsel : ∀ r : Road, (mSel [("Traveller", Traveller_toldF), ("Wide", Wide_toldF), ("Short", Short_toldF), ("Even", Even_toldF), ("Pair", Pair_toldF)] "told" (moO m)).bind (fun G => G [moO m, rdD r]) = .ok (.sh (lenD (moT m r.l r.w))) := fun r => by
        obtain ⟨ra, rb, rl, rw⟩ := r
        cases m with
        | plain => cases rl <;> exact Traveller_told_eq _ _
        | wide n =>
          refine (Wide_told_eq n _).trans ?_
          cases rl with
          | none => simp only [moT, ite_self]
          | some l => rfl
        | short n => cases rl <;> exact Short_told_eq n _
        | even => cases rl <;> exact Even_told_eq _ _
        | pair a b => exact Pair_told_eq a b _ hsz
      apply wp_step
      · simp only [rv0, rvS, lowR_vO, List.set_cons_zero, List.set_cons_succ, M.bind_ok, lowR_some, lowR_none, lowR_nil, lowC_val, lowC_own, lowC_anc, lowC_tr, er_dct, er_lst, er_sh, isPl_own, isPl_anc, isPl_tree, isPlS, shL_own, shL_anc, shL_tree, shLS, lstAt_own, lstAt_anc, lstAt_tree, lstAtS, dctAt_tree, dctAtS, updR_own, updR_anc, updR_tree, updRS, mapNx_ok, putT_nil, toCl_list, toCl_listP, toCl_dct, setT_sh, setT_lst, setT_tup, setT_dct, setT_ins, retT_sh, retT_lst, retT_tup, retT_dct, erM, shM, appM_own, appMS, insM_own, insMS, retC_val, retC_own, retC_ow, retCS, muC, muN, muSo, ifl0, ifl1, ifl2, ifl3, ifl4, toCl_nil, compR, compT, asB, asSh_l, optM_some, dEq_int, dNe_int, dAdd_int, dSub_int, dLt_int, dLe_int, dGt_int, dGe_int, asI_int, dLen_lst, dLen_tup, newL_lst, newL_tup, dSum_ints, isTyM_lst, isTyM_tup, isTyM_int, isTyM_non, isTyM_bl, isTyM_str, isTyM_dct, ty_ll, ty_tt, ty_ii, ty_ib, ty_dd, dMem_ints, ite_tt, ite_ff, Bool.not_true, Bool.not_false, List.getElem?_cons_zero, List.getElem?_cons_succ, onInts_ii, dAll_map, dAny_map, frz0, frzN, frzS, ifl5, ifl6, ifl7, er_dct0, sl, hS, m7, mB, pow60, ad7, t60_mod7, ← hc]; rfl
      try simp only [List.set_cons_zero, List.set_cons_succ]
      apply wp_step
      · simp only [rv0, rvS, lowR_vO, List.set_cons_zero, List.set_cons_succ, M.bind_ok, lowR_some, lowR_none, lowR_nil, lowC_val, lowC_own, lowC_anc, lowC_tr, er_dct, er_lst, er_sh, isPl_own, isPl_anc, isPl_tree, isPlS, shL_own, shL_anc, shL_tree, shLS, lstAt_own, lstAt_anc, lstAt_tree, lstAtS, dctAt_tree, dctAtS, updR_own, updR_anc, updR_tree, updRS, mapNx_ok, putT_nil, toCl_list, toCl_listP, toCl_dct, setT_sh, setT_lst, setT_tup, setT_dct, setT_ins, retT_sh, retT_lst, retT_tup, retT_dct, erM, shM, appM_own, appMS, insM_own, insMS, retC_val, retC_own, retC_ow, retCS, muC, muN, muSo, ifl0, ifl1, ifl2, ifl3, ifl4, toCl_nil, compR, compT, asB, asSh_l, optM_some, dEq_int, dNe_int, dAdd_int, dSub_int, dLt_int, dLe_int, dGt_int, dGe_int, asI_int, dLen_lst, dLen_tup, newL_lst, newL_tup, dSum_ints, isTyM_lst, isTyM_tup, isTyM_int, isTyM_non, isTyM_bl, isTyM_str, isTyM_dct, ty_ll, ty_tt, ty_ii, ty_ib, ty_dd, dMem_ints, ite_tt, ite_ff, Bool.not_true, Bool.not_false, List.getElem?_cons_zero, List.getElem?_cons_succ, onInts_ii, dAll_map, dAny_map, frz0, frzN, frzS, ifl5, ifl6, ifl7, er_dct0, hT']; rfl
      try simp only [List.set_cons_zero, List.set_cons_succ]
      apply wp_step
      · simp only [rv0, rvS, lowR_vO, List.set_cons_zero, List.set_cons_succ, M.bind_ok, lowR_some, lowR_none, lowR_nil, lowC_val, lowC_own, lowC_anc, lowC_tr, er_dct, er_lst, er_sh, isPl_own, isPl_anc, isPl_tree, isPlS, shL_own, shL_anc, shL_tree, shLS, lstAt_own, lstAt_anc, lstAt_tree, lstAtS, dctAt_tree, dctAtS, updR_own, updR_anc, updR_tree, updRS, mapNx_ok, putT_nil, toCl_list, toCl_listP, toCl_dct, setT_sh, setT_lst, setT_tup, setT_dct, setT_ins, retT_sh, retT_lst, retT_tup, retT_dct, erM, shM, appM_own, appMS, insM_own, insMS, retC_val, retC_own, retC_ow, retCS, muC, muN, muSo, ifl0, ifl1, ifl2, ifl3, ifl4, toCl_nil, compR, compT, asB, asSh_l, optM_some, dEq_int, dNe_int, dAdd_int, dSub_int, dLt_int, dLe_int, dGt_int, dGe_int, asI_int, dLen_lst, dLen_tup, newL_lst, newL_tup, dSum_ints, isTyM_lst, isTyM_tup, isTyM_int, isTyM_non, isTyM_bl, isTyM_str, isTyM_dct, ty_ll, ty_tt, ty_ii, ty_ib, ty_dd, dMem_ints, ite_tt, ite_ff, Bool.not_true, Bool.not_false, List.getElem?_cons_zero, List.getElem?_cons_succ, onInts_ii, dAll_map, dAny_map, frz0, frzN, frzS, ifl5, ifl6, ifl7, er_dct0, hM, hE]; rfl
      try simp only [List.set_cons_zero, List.set_cons_succ]
      apply wp_step
      · simp only [rv0, rvS, lowR_vO, List.set_cons_zero, List.set_cons_succ, M.bind_ok, lowR_some, lowR_none, lowR_nil, lowC_val, lowC_own, lowC_anc, lowC_tr, er_dct, er_lst, er_sh, isPl_own, isPl_anc, isPl_tree, isPlS, shL_own, shL_anc, shL_tree, shLS, lstAt_own, lstAt_anc, lstAt_tree, lstAtS, dctAt_tree, dctAtS, updR_own, updR_anc, updR_tree, updRS, mapNx_ok, putT_nil, toCl_list, toCl_listP, toCl_dct, setT_sh, setT_lst, setT_tup, setT_dct, setT_ins, retT_sh, retT_lst, retT_tup, retT_dct, erM, shM, appM_own, appMS, insM_own, insMS, retC_val, retC_own, retC_ow, retCS, muC, muN, muSo, ifl0, ifl1, ifl2, ifl3, ifl4, toCl_nil, compR, compT, asB, asSh_l, optM_some, dEq_int, dNe_int, dAdd_int, dSub_int, dLt_int, dLe_int, dGt_int, dGe_int, asI_int, dLen_lst, dLen_tup, newL_lst, newL_tup, dSum_ints, isTyM_lst, isTyM_tup, isTyM_int, isTyM_non, isTyM_bl, isTyM_str, isTyM_dct, ty_ll, ty_tt, ty_ii, ty_ib, ty_dd, dMem_ints, ite_tt, ite_ff, Bool.not_true, Bool.not_false, List.getElem?_cons_zero, List.getElem?_cons_succ, onInts_ii, dAll_map, dAny_map, frz0, frzN, frzS, ifl5, ifl6, ifl7, er_dct0, hI, truD]; rfl
      have f3 : dFdiv (.int (k : Int)) (.int 3) = .ok (.int ((k : Int) / 3)) := dFdiv_lit ⟨by decide, by decide⟩
      have m3 : dMulW (.int ((k : Int) / 3)) (.int 3) = .ok (.int ((k : Int) / 3 * 3)) := mul_big (k := 6) (l := 3) (by omega) (by decide) (by decide) (by decide)
      obtain ⟨a, ha⟩ : ∃ a : Nat, (k : Int) / 3 * 3 = (a : Int) := ⟨((k : Int) / 3 * 3).toNat, by omega⟩
      have sr : slN (some (a : Int)) (some ((a : Int) + 6)) (.lst (rs.map rdD)) = .ok (.lst ((((rs.drop a).take 6).map rdD).map .sh)) := by
        have := slN_mid (rs.map rdD) a (a + 6)
        rw [show a + 6 - a = 6 by omega] at this
        rw [List.map_take, List.map_drop]
        exact this
      have rd1 : D.tup [.int 1, .int 0, .non, .int (T60 - 1)] = rdD ⟨1, 0, none, T60 - 1⟩ := rfl
      have rd2 : D.tup [.int 0, .int 1, .int 0, .int 0] = rdD ⟨0, 1, some 0, 0⟩ := rfl
      have pl : plusN (.lst (((rs.drop a).take 6).map rdD)) (.lst [rdD ⟨1, 0, none, T60 - 1⟩, rdD ⟨0, 1, some 0, 0⟩]) = .ok (.lst ((((rs.drop a).take 6 ++ [(⟨1, 0, none, T60 - 1⟩ : Road), (⟨0, 1, some 0, 0⟩ : Road)]).map rdD).map .sh)) := by
        rw [plusN_l (by rw [List.length_map, List.length_take, List.length_cons, List.length_singleton]; omega), List.map_append (f := rdD)]
        rfl
      have sb1 : dSub (.int T60) (.int 1) = .ok (.int (T60 - 1)) := rfl
      simp only [rv0, rvS, lowR_vO, List.set_cons_zero, List.set_cons_succ, M.bind_ok, lowR_some, lowR_none, lowR_nil, lowC_val, lowC_own, lowC_anc, lowC_tr, er_dct, er_lst, er_sh, isPl_own, isPl_anc, isPl_tree, isPlS, shL_own, shL_anc, shL_tree, shLS, lstAt_own, lstAt_anc, lstAt_tree, lstAtS, dctAt_tree, dctAtS, updR_own, updR_anc, updR_tree, updRS, mapNx_ok, putT_nil, toCl_list, toCl_listP, toCl_dct, setT_sh, setT_lst, setT_tup, setT_dct, setT_ins, retT_sh, retT_lst, retT_tup, retT_dct, erM, shM, appM_own, appMS, insM_own, insMS, retC_val, retC_own, retC_ow, retCS, muC, muN, muSo, ifl0, ifl1, ifl2, ifl3, ifl4, toCl_nil, compR, compT, asB, asSh_l, optM_some, dEq_int, dNe_int, dAdd_int, dSub_int, dLt_int, dLe_int, dGt_int, dGe_int, asI_int, dLen_lst, dLen_tup, newL_lst, newL_tup, dSum_ints, isTyM_lst, isTyM_tup, isTyM_int, isTyM_non, isTyM_bl, isTyM_str, isTyM_dct, ty_ll, ty_tt, ty_ii, ty_ib, ty_dd, dMem_ints, ite_tt, ite_ff, Bool.not_true, Bool.not_false, List.getElem?_cons_zero, List.getElem?_cons_succ, onInts_ii, dAll_map, dAny_map, frz0, frzN, frzS, ifl5, ifl6, ifl7, er_dct0, f3, m3, ha, sr, pow60, sb1, rd1, rd2, pl]
      refine wp_for (fun i ρ => ∃ (s7 s8 s9 : Option Cl), ρ = [some (.val (.lst (ns.map D.int))), some (.val (.lst (cs.map D.int))), some (.val (.lst (rs.map rdD))), some (.val (.int k)), some (.val (.int c)), some (.val (moD m)), some (.val (moO m)), s7, s8, s9]) ⟨s7, s8, s9, rfl⟩ ?_ ?_
      · rintro j d ρ hd ⟨s7, s8, s9, rfl⟩
        obtain ⟨r, _, rfl⟩ := get_mapD hd
        refine ⟨_, rfl, ?_⟩
        have i2 : dItm (rdD r) (.int 2) = .ok (lenD r.l) := rfl
        have i3 : dItm (rdD r) (.int 3) = .ok (.int r.w) := rfl
        have hTo := law_told_eq m r.l r.w (by omega)
        have hSe := hsel r
        apply wp_step
        · simp only [rv0, rvS, lowR_vO, List.set_cons_zero, List.set_cons_succ, M.bind_ok, lowR_some, lowR_none, lowR_nil, lowC_val, lowC_own, lowC_anc, lowC_tr, er_dct, er_lst, er_sh, isPl_own, isPl_anc, isPl_tree, isPlS, shL_own, shL_anc, shL_tree, shLS, lstAt_own, lstAt_anc, lstAt_tree, lstAtS, dctAt_tree, dctAtS, updR_own, updR_anc, updR_tree, updRS, mapNx_ok, putT_nil, toCl_list, toCl_listP, toCl_dct, setT_sh, setT_lst, setT_tup, setT_dct, setT_ins, retT_sh, retT_lst, retT_tup, retT_dct, erM, shM, appM_own, appMS, insM_own, insMS, retC_val, retC_own, retC_ow, retCS, muC, muN, muSo, ifl0, ifl1, ifl2, ifl3, ifl4, toCl_nil, compR, compT, asB, asSh_l, optM_some, dEq_int, dNe_int, dAdd_int, dSub_int, dLt_int, dLe_int, dGt_int, dGe_int, asI_int, dLen_lst, dLen_tup, newL_lst, newL_tup, dSum_ints, isTyM_lst, isTyM_tup, isTyM_int, isTyM_non, isTyM_bl, isTyM_str, isTyM_dct, ty_ll, ty_tt, ty_ii, ty_ib, ty_dd, dMem_ints, ite_tt, ite_ff, Bool.not_true, Bool.not_false, List.getElem?_cons_zero, List.getElem?_cons_succ, onInts_ii, dAll_map, dAny_map, frz0, frzN, frzS, ifl5, ifl6, ifl7, er_dct0, i2, i3, hTo]; rfl
        try simp only [List.set_cons_zero, List.set_cons_succ]
        apply wp_step
        · simp only [rv0, rvS, lowR_vO, List.set_cons_zero, List.set_cons_succ, M.bind_ok, lowR_some, lowR_none, lowR_nil, lowC_val, lowC_own, lowC_anc, lowC_tr, er_dct, er_lst, er_sh, isPl_own, isPl_anc, isPl_tree, isPlS, shL_own, shL_anc, shL_tree, shLS, lstAt_own, lstAt_anc, lstAt_tree, lstAtS, dctAt_tree, dctAtS, updR_own, updR_anc, updR_tree, updRS, mapNx_ok, putT_nil, toCl_list, toCl_listP, toCl_dct, setT_sh, setT_lst, setT_tup, setT_dct, setT_ins, retT_sh, retT_lst, retT_tup, retT_dct, erM, shM, appM_own, appMS, insM_own, insMS, retC_val, retC_own, retC_ow, retCS, muC, muN, muSo, ifl0, ifl1, ifl2, ifl3, ifl4, toCl_nil, compR, compT, asB, asSh_l, optM_some, dEq_int, dNe_int, dAdd_int, dSub_int, dLt_int, dLe_int, dGt_int, dGe_int, asI_int, dLen_lst, dLen_tup, newL_lst, newL_tup, dSum_ints, isTyM_lst, isTyM_tup, isTyM_int, isTyM_non, isTyM_bl, isTyM_str, isTyM_dct, ty_ll, ty_tt, ty_ii, ty_ib, ty_dd, dMem_ints, ite_tt, ite_ff, Bool.not_true, Bool.not_false, List.getElem?_cons_zero, List.getElem?_cons_succ, onInts_ii, dAll_map, dAny_map, frz0, frzN, frzS, ifl5, ifl6, ifl7, er_dct0, hSe]; rfl
        try simp only [List.set_cons_zero, List.set_cons_succ]
        cases moT m r.l r.w with
        | none =>
          apply wp_step
          · rfl
          refine wp_to (ρ' := _) rfl ⟨_, _, _, rfl⟩
        | some z =>
          have lz : lenD (some z) = .int z := rfl
          apply wp_step
          · simp only [rv0, rvS, lowR_vO, List.set_cons_zero, List.set_cons_succ, M.bind_ok, lowR_some, lowR_none, lowR_nil, lowC_val, lowC_own, lowC_anc, lowC_tr, er_dct, er_lst, er_sh, isPl_own, isPl_anc, isPl_tree, isPlS, shL_own, shL_anc, shL_tree, shLS, lstAt_own, lstAt_anc, lstAt_tree, lstAtS, dctAt_tree, dctAtS, updR_own, updR_anc, updR_tree, updRS, mapNx_ok, putT_nil, toCl_list, toCl_listP, toCl_dct, setT_sh, setT_lst, setT_tup, setT_dct, setT_ins, retT_sh, retT_lst, retT_tup, retT_dct, erM, shM, appM_own, appMS, insM_own, insMS, retC_val, retC_own, retC_ow, retCS, muC, muN, muSo, ifl0, ifl1, ifl2, ifl3, ifl4, toCl_nil, compR, compT, asB, asSh_l, optM_some, dEq_int, dNe_int, dAdd_int, dSub_int, dLt_int, dLe_int, dGt_int, dGe_int, asI_int, dLen_lst, dLen_tup, newL_lst, newL_tup, dSum_ints, isTyM_lst, isTyM_tup, isTyM_int, isTyM_non, isTyM_bl, isTyM_str, isTyM_dct, ty_ll, ty_tt, ty_ii, ty_ib, ty_dd, dMem_ints, ite_tt, ite_ff, Bool.not_true, Bool.not_false, List.getElem?_cons_zero, List.getElem?_cons_succ, onInts_ii, dAll_map, dAny_map, frz0, frzN, frzS, ifl5, ifl6, ifl7, er_dct0, lz, decide_true, truD]; rfl
          refine wp_to (ρ' := _) rfl ⟨_, _, _, rfl⟩
      · rintro ρ ⟨s7, s8, s9, rfl⟩
        exact ⟨_, _, _, _, s7, s8, s9, rfl⟩
    · rintro ρ ⟨s3, s4, s5, s6, s7, s8, s9, rfl⟩
      exact ⟨s3, s4, s5, s6, s7, s8, s9, rfl⟩
  · rintro ρ ⟨s3, s4, s5, s6, s7, s8, s9, rfl⟩
    rfl
noncomputable def lawF : List D → M D := Classical.choose ex_law
theorem law_fn {P : Program} {w : World} {K : PySem.W.Frag} {mg : Str → Option Value} {base : Heap} {f : Addr} {fd : FuncData} : Txt K mg → Fun K "law" "law" s_law f fd → FnOk P w K mg base CX0 7 f fd ["_law_script"] (spM0 K 1 lawF) := (Classical.choose_spec ex_law).1
theorem law_eq : ∀ ns : List Int, ns.length ≤ 63 → (∀ n ∈ ns, Sm n) → lawF [.lst (ns.map D.int)] = .ok (.bl true) := (Classical.choose_spec ex_law).2

theorem all_mk {l : PySem.W.OpenLaw} {w : World} {K : PySem.W.Frag} {h : Heap} {mg : Str → Option Value} {fa : Addr} (X : K.In h) (G : h.Ns mainGlobals mg) (hfa : mg "law" = some (.ref fa))
    {C_Traveller : Addr} {C_Wide : Addr} {C_Short : Addr} {C_Even : Addr} {C_Pair : Addr} {f1 : Addr} {od1 an1 : Option Addr} {sl1 : Array (Option Value)} {oc1 kV1 dc1 pm1 cd1 ct1 : Value} {f2 : Addr} {od2 an2 : Option Addr} {sl2 : Array (Option Value)} {oc2 kV2 dc2 pm2 cd2 ct2 : Value} {f3 : Addr} {od3 an3 : Option Addr} {sl3 : Array (Option Value)} {oc3 kV3 dc3 pm3 cd3 ct3 : Value} {f4 : Addr} {od4 an4 : Option Addr} {sl4 : Array (Option Value)} {oc4 kV4 dc4 pm4 cd4 ct4 : Value} {f5 : Addr} {od5 an5 : Option Addr} {sl5 : Array (Option Value)} {oc5 kV5 dc5 pm5 cd5 ct5 : Value} {f6 : Addr} {od6 an6 : Option Addr} {sl6 : Array (Option Value)} {oc6 kV6 dc6 pm6 cd6 ct6 : Value} {f7 : Addr} {od7 an7 : Option Addr} {sl7 : Array (Option Value)} {oc7 kV7 dc7 pm7 cd7 ct7 : Value} {f8 : Addr} {od8 an8 : Option Addr} {sl8 : Array (Option Value)} {oc8 kV8 dc8 pm8 cd8 ct8 : Value} {f9 : Addr} {od9 an9 : Option Addr} {sl9 : Array (Option Value)} {oc9 kV9 dc9 pm9 cd9 ct9 : Value} {f10 : Addr} {od10 an10 : Option Addr} {sl10 : Array (Option Value)} {oc10 kV10 dc10 pm10 cd10 ct10 : Value} {f11 : Addr} {od11 an11 : Option Addr} {sl11 : Array (Option Value)} {oc11 kV11 dc11 pm11 cd11 ct11 : Value} {f12 : Addr} {od12 an12 : Option Addr} {sl12 : Array (Option Value)} {oc12 kV12 dc12 pm12 cd12 ct12 : Value} {f13 : Addr} {od13 an13 : Option Addr} {sl13 : Array (Option Value)} {oc13 kV13 dc13 pm13 cd13 ct13 : Value} {f14 : Addr} {od14 an14 : Option Addr} {sl14 : Array (Option Value)} {oc14 kV14 dc14 pm14 cd14 ct14 : Value} {f15 : Addr} {od15 an15 : Option Addr} {sl15 : Array (Option Value)} {oc15 kV15 dc15 pm15 cd15 ct15 : Value} {f16 : Addr} {od16 an16 : Option Addr} {sl16 : Array (Option Value)} {oc16 kV16 dc16 pm16 cd16 ct16 : Value}
    (aC_Traveller : PySem.W.nsIn K mainGlobals "Traveller" = some (some (.ref C_Traveller))) (pg_Traveller : PySem.W.plainGet K C_Traveller Str.empty = true) (hd_Traveller : PySem.W.hasDictIn K C_Traveller = true) (po_Traveller : PySem.W.plainOver K C_Traveller = true) (sa_Traveller : PySem.W.findIn K (.ref C_Traveller) "__setattr__" = some (some (.builtin "object.__setattr__"))) (mk_Traveller : PySem.W.makesIn K C_Traveller = true) (kc_Traveller : PySem.W.keepIn K (.ref C_Traveller) = true)
    (aC_Wide : PySem.W.nsIn K mainGlobals "Wide" = some (some (.ref C_Wide))) (pg_Wide : PySem.W.plainGet K C_Wide Str.empty = true) (hd_Wide : PySem.W.hasDictIn K C_Wide = true) (po_Wide : PySem.W.plainOver K C_Wide = true) (sa_Wide : PySem.W.findIn K (.ref C_Wide) "__setattr__" = some (some (.builtin "object.__setattr__"))) (mk_Wide : PySem.W.makesIn K C_Wide = true) (kc_Wide : PySem.W.keepIn K (.ref C_Wide) = true)
    (aC_Short : PySem.W.nsIn K mainGlobals "Short" = some (some (.ref C_Short))) (pg_Short : PySem.W.plainGet K C_Short Str.empty = true) (hd_Short : PySem.W.hasDictIn K C_Short = true) (po_Short : PySem.W.plainOver K C_Short = true) (sa_Short : PySem.W.findIn K (.ref C_Short) "__setattr__" = some (some (.builtin "object.__setattr__"))) (mk_Short : PySem.W.makesIn K C_Short = true) (kc_Short : PySem.W.keepIn K (.ref C_Short) = true)
    (aC_Even : PySem.W.nsIn K mainGlobals "Even" = some (some (.ref C_Even))) (pg_Even : PySem.W.plainGet K C_Even Str.empty = true) (hd_Even : PySem.W.hasDictIn K C_Even = true) (po_Even : PySem.W.plainOver K C_Even = true) (sa_Even : PySem.W.findIn K (.ref C_Even) "__setattr__" = some (some (.builtin "object.__setattr__"))) (mk_Even : PySem.W.makesIn K C_Even = true) (kc_Even : PySem.W.keepIn K (.ref C_Even) = true)
    (aC_Pair : PySem.W.nsIn K mainGlobals "Pair" = some (some (.ref C_Pair))) (pg_Pair : PySem.W.plainGet K C_Pair Str.empty = true) (hd_Pair : PySem.W.hasDictIn K C_Pair = true) (po_Pair : PySem.W.plainOver K C_Pair = true) (sa_Pair : PySem.W.findIn K (.ref C_Pair) "__setattr__" = some (some (.builtin "object.__setattr__"))) (mk_Pair : PySem.W.makesIn K C_Pair = true) (kc_Pair : PySem.W.keepIn K (.ref C_Pair) = true)
    (a1 : PySem.W.nsIn K mainGlobals "with_length" = some (some (.ref f1)))
    (l1 : K.lookup f1 = some ⟨oc1, od1, .func (PySem.W.fnOf "with_length" "with_length" (defArgs s_with_length) (defBody s_with_length) (defScope s_with_length) .none kV1 dc1 pm1 an1 cd1 ct1), sl1⟩) (c1 : PySem.W.codeIn K cd1 "with_length" = true) (k1 : PySem.W.keepIn K (.ref f1) = true)
    (a2 : PySem.W.findIn K (.ref C_Traveller) "told" = some (some (.ref f2))) (i2 : PySem.W.isFn K (.ref f2) = true)
    (l2 : K.lookup f2 = some ⟨oc2, od2, .func (PySem.W.fnOf "told" "Traveller.told" (defArgs s_Traveller_told) (defBody s_Traveller_told) (defScope s_Traveller_told) .none kV2 dc2 pm2 an2 cd2 ct2), sl2⟩) (c2 : PySem.W.codeIn K cd2 "Traveller.told" = true) (k2 : PySem.W.keepIn K (.ref f2) = true)
    (a3 : PySem.W.findIn K (.ref C_Wide) "__init__" = some (some (.ref f3))) (i3 : PySem.W.isFn K (.ref f3) = true)
    (l3 : K.lookup f3 = some ⟨oc3, od3, .func (PySem.W.fnOf "__init__" "Wide.__init__" (defArgs s_Wide___init__) (defBody s_Wide___init__) (defScope s_Wide___init__) .none kV3 dc3 pm3 an3 cd3 ct3), sl3⟩) (c3 : PySem.W.codeIn K cd3 "Wide.__init__" = true) (k3 : PySem.W.keepIn K (.ref f3) = true)
    (a4 : PySem.W.findIn K (.ref C_Wide) "told" = some (some (.ref f4))) (i4 : PySem.W.isFn K (.ref f4) = true)
    (l4 : K.lookup f4 = some ⟨oc4, od4, .func (PySem.W.fnOf "told" "Wide.told" (defArgs s_Wide_told) (defBody s_Wide_told) (defScope s_Wide_told) .none kV4 dc4 pm4 an4 cd4 ct4), sl4⟩) (c4 : PySem.W.codeIn K cd4 "Wide.told" = true) (k4 : PySem.W.keepIn K (.ref f4) = true)
    (a5 : PySem.W.findIn K (.ref C_Short) "__init__" = some (some (.ref f5))) (i5 : PySem.W.isFn K (.ref f5) = true)
    (l5 : K.lookup f5 = some ⟨oc5, od5, .func (PySem.W.fnOf "__init__" "Short.__init__" (defArgs s_Short___init__) (defBody s_Short___init__) (defScope s_Short___init__) .none kV5 dc5 pm5 an5 cd5 ct5), sl5⟩) (c5 : PySem.W.codeIn K cd5 "Short.__init__" = true) (k5 : PySem.W.keepIn K (.ref f5) = true)
    (a6 : PySem.W.findIn K (.ref C_Short) "told" = some (some (.ref f6))) (i6 : PySem.W.isFn K (.ref f6) = true)
    (l6 : K.lookup f6 = some ⟨oc6, od6, .func (PySem.W.fnOf "told" "Short.told" (defArgs s_Short_told) (defBody s_Short_told) (defScope s_Short_told) .none kV6 dc6 pm6 an6 cd6 ct6), sl6⟩) (c6 : PySem.W.codeIn K cd6 "Short.told" = true) (k6 : PySem.W.keepIn K (.ref f6) = true)
    (a7 : PySem.W.findIn K (.ref C_Even) "told" = some (some (.ref f7))) (i7 : PySem.W.isFn K (.ref f7) = true)
    (l7 : K.lookup f7 = some ⟨oc7, od7, .func (PySem.W.fnOf "told" "Even.told" (defArgs s_Even_told) (defBody s_Even_told) (defScope s_Even_told) .none kV7 dc7 pm7 an7 cd7 ct7), sl7⟩) (c7 : PySem.W.codeIn K cd7 "Even.told" = true) (k7 : PySem.W.keepIn K (.ref f7) = true)
    (a8 : PySem.W.findIn K (.ref C_Pair) "__init__" = some (some (.ref f8))) (i8 : PySem.W.isFn K (.ref f8) = true)
    (l8 : K.lookup f8 = some ⟨oc8, od8, .func (PySem.W.fnOf "__init__" "Pair.__init__" (defArgs s_Pair___init__) (defBody s_Pair___init__) (defScope s_Pair___init__) .none kV8 dc8 pm8 an8 cd8 ct8), sl8⟩) (c8 : PySem.W.codeIn K cd8 "Pair.__init__" = true) (k8 : PySem.W.keepIn K (.ref f8) = true)
    (a9 : PySem.W.findIn K (.ref C_Pair) "told" = some (some (.ref f9))) (i9 : PySem.W.isFn K (.ref f9) = true)
    (l9 : K.lookup f9 = some ⟨oc9, od9, .func (PySem.W.fnOf "told" "Pair.told" (defArgs s_Pair_told) (defBody s_Pair_told) (defScope s_Pair_told) .none kV9 dc9 pm9 an9 cd9 ct9), sl9⟩) (c9 : PySem.W.codeIn K cd9 "Pair.told" = true) (k9 : PySem.W.keepIn K (.ref f9) = true)
    (a10 : PySem.W.nsIn K mainGlobals "_law_length" = some (some (.ref f10)))
    (l10 : K.lookup f10 = some ⟨oc10, od10, .func (PySem.W.fnOf "_law_length" "_law_length" (defArgs s_law_length) (defBody s_law_length) (defScope s_law_length) .none kV10 dc10 pm10 an10 cd10 ct10), sl10⟩) (c10 : PySem.W.codeIn K cd10 "_law_length" = true) (k10 : PySem.W.keepIn K (.ref f10) = true)
    (a11 : PySem.W.nsIn K mainGlobals "_law_map" = some (some (.ref f11)))
    (l11 : K.lookup f11 = some ⟨oc11, od11, .func (PySem.W.fnOf "_law_map" "_law_map" (defArgs s_law_map) (defBody s_law_map) (defScope s_law_map) .none kV11 dc11 pm11 an11 cd11 ct11), sl11⟩) (c11 : PySem.W.codeIn K cd11 "_law_map" = true) (k11 : PySem.W.keepIn K (.ref f11) = true)
    (a12 : PySem.W.nsIn K mainGlobals "_law_one" = some (some (.ref f12)))
    (l12 : K.lookup f12 = some ⟨oc12, od12, .func (PySem.W.fnOf "_law_one" "_law_one" (defArgs s_law_one) (defBody s_law_one) (defScope s_law_one) .none kV12 dc12 pm12 an12 cd12 ct12), sl12⟩) (c12 : PySem.W.codeIn K cd12 "_law_one" = true) (k12 : PySem.W.keepIn K (.ref f12) = true)
    (a13 : PySem.W.nsIn K mainGlobals "_law_traveller" = some (some (.ref f13)))
    (l13 : K.lookup f13 = some ⟨oc13, od13, .func (PySem.W.fnOf "_law_traveller" "_law_traveller" (defArgs s_law_traveller) (defBody s_law_traveller) (defScope s_law_traveller) .none kV13 dc13 pm13 an13 cd13 ct13), sl13⟩) (c13 : PySem.W.codeIn K cd13 "_law_traveller" = true) (k13 : PySem.W.keepIn K (.ref f13) = true)
    (a14 : PySem.W.nsIn K mainGlobals "_law_made" = some (some (.ref f14)))
    (l14 : K.lookup f14 = some ⟨oc14, od14, .func (PySem.W.fnOf "_law_made" "_law_made" (defArgs s_law_made) (defBody s_law_made) (defScope s_law_made) .none kV14 dc14 pm14 an14 cd14 ct14), sl14⟩) (c14 : PySem.W.codeIn K cd14 "_law_made" = true) (k14 : PySem.W.keepIn K (.ref f14) = true)
    (a15 : PySem.W.nsIn K mainGlobals "_law_told" = some (some (.ref f15)))
    (l15 : K.lookup f15 = some ⟨oc15, od15, .func (PySem.W.fnOf "_law_told" "_law_told" (defArgs s_law_told) (defBody s_law_told) (defScope s_law_told) .none kV15 dc15 pm15 an15 cd15 ct15), sl15⟩) (c15 : PySem.W.codeIn K cd15 "_law_told" = true) (k15 : PySem.W.keepIn K (.ref f15) = true)
    (a16 : PySem.W.nsIn K mainGlobals "law" = some (some (.ref f16)))
    (l16 : K.lookup f16 = some ⟨oc16, od16, .func (PySem.W.fnOf "law" "law" (defArgs s_law) (defBody s_law) (defScope s_law) .none kV16 dc16 pm16 an16 cd16 ct16), sl16⟩) (c16 : PySem.W.codeIn K cd16 "law" = true) (k16 : PySem.W.keepIn K (.ref f16) = true)
    (z1 : PySem.W.nsIn K mainGlobals "bool" = some none)
    (z2 : PySem.W.nsIn K mainGlobals "isinstance" = some none)
    (z3 : PySem.W.nsIn K mainGlobals "len" = some none)
    (z4 : PySem.W.nsIn K mainGlobals "max" = some none)
    (z5 : PySem.W.nsIn K mainGlobals "range" = some none)
    (z6 : PySem.W.nsIn K mainGlobals "sum" = some none)
    (nf_Pair_first : PySem.W.findIn K (.ref C_Pair) "first" = some none)
    (nf_Pair_second : PySem.W.findIn K (.ref C_Pair) "second" = some none)
    (nf_Short_most_length : PySem.W.findIn K (.ref C_Short) "most_length" = some none)
    (nf_Wide_least_width : PySem.W.findIn K (.ref C_Wide) "least_width" = some none)
    (ni_Even : PySem.W.findIn K (.ref C_Even) "__init__" = some (some (.builtin "object.__init__")))
    (ni_Traveller : PySem.W.findIn K (.ref C_Traveller) "__init__" = some (some (.builtin "object.__init__")))
    (y4 : PySem.W.specialIn K (.builtin "object.__class__") "__get__" = some (some (.builtin "getset_descriptor.__get__"))) (y5 : PySem.W.takesIn K (.builtin "object.__class__") = some true)
    (y3_Traveller : PySem.W.findIn K (.ref C_Traveller) "__class__" = some (some (.builtin "object.__class__"))) (y6_Traveller : PySem.W.mroIn K C_Traveller (.type "object") = some true)
    (y3_Wide : PySem.W.findIn K (.ref C_Wide) "__class__" = some (some (.builtin "object.__class__"))) (y6_Wide : PySem.W.mroIn K C_Wide (.type "object") = some true)
    (y3_Short : PySem.W.findIn K (.ref C_Short) "__class__" = some (some (.builtin "object.__class__"))) (y6_Short : PySem.W.mroIn K C_Short (.type "object") = some true)
    (y3_Even : PySem.W.findIn K (.ref C_Even) "__class__" = some (some (.builtin "object.__class__"))) (y6_Even : PySem.W.mroIn K C_Even (.type "object") = some true)
    (y3_Pair : PySem.W.findIn K (.ref C_Pair) "__class__" = some (some (.builtin "object.__class__"))) (y6_Pair : PySem.W.mroIn K C_Pair (.type "object") = some true)
    (u_Pair_Pair : PySem.W.kitOne K (.ref C_Pair) (.ref C_Pair) = some true)
    (u_Even_Pair : PySem.W.kitOne K (.ref C_Even) (.ref C_Pair) = some false)
    (u_Short_Pair : PySem.W.kitOne K (.ref C_Short) (.ref C_Pair) = some false)
    (u_Wide_Pair : PySem.W.kitOne K (.ref C_Wide) (.ref C_Pair) = some false)
    (u_Traveller_Pair : PySem.W.kitOne K (.ref C_Traveller) (.ref C_Pair) = some false)
    (u_Pair_Traveller : PySem.W.kitOne K (.ref C_Pair) (.ref C_Traveller) = some true)
    (u_Even_Traveller : PySem.W.kitOne K (.ref C_Even) (.ref C_Traveller) = some true)
    (u_Short_Traveller : PySem.W.kitOne K (.ref C_Short) (.ref C_Traveller) = some true)
    (u_Wide_Traveller : PySem.W.kitOne K (.ref C_Wide) (.ref C_Traveller) = some true)
    (u_Traveller_Traveller : PySem.W.kitOne K (.ref C_Traveller) (.ref C_Traveller) = some true) :
    ∃ fd : FuncData, (∀ (s : Shared) (v : Value), BindsTo s fd ⟨[v], []⟩ [("_law_script", v)]) ∧ ∀ base : Heap, K.In base → base.Ns mainGlobals mg → FnOk l.prog w K mg base CX0 7 fa fd ["_law_script"] (spM0 K 1 lawF) := by
  have e := hfa.symm.trans (PySem.W.mg_of X G a16)
  cases e
  have cls_Traveller : Cls K C_Traveller := ⟨pg_Traveller, hd_Traveller, po_Traveller, sa_Traveller⟩
  have cls_Wide : Cls K C_Wide := ⟨pg_Wide, hd_Wide, po_Wide, sa_Wide⟩
  have cls_Short : Cls K C_Short := ⟨pg_Short, hd_Short, po_Short, sa_Short⟩
  have cls_Even : Cls K C_Even := ⟨pg_Even, hd_Even, po_Even, sa_Even⟩
  have cls_Pair : Cls K C_Pair := ⟨pg_Pair, hd_Pair, po_Pair, sa_Pair⟩
  have F1 := fun_mk (st := s_with_length) l1 c1 k1
  have T1 : FunAt K mg "with_length" s_with_length ["road", "length"] := ⟨_, _, F1, PySem.W.mg_of X G a1, F1.binds fun _ _ _ _ _ _ us hl => match us, hl with | [_, _], _ => rfl⟩
  have F2 := fun_mk (st := s_Traveller_told) l2 c2 k2
  have T2 : MthAt K "Traveller" "told" "Traveller.told" s_Traveller_told ["self", "road"] := ⟨_, _, _, aC_Traveller, cls_Traveller, ⟨a2, i2, k2⟩, F2, F2.binds fun _ _ _ _ _ _ us hl => match us, hl with | [_, _], _ => rfl⟩
  have F3 := fun_mk (st := s_Wide___init__) l3 c3 k3
  have T3 : IniAt K mg "Wide" "Wide.__init__" s_Wide___init__ ["self", "width"] := ⟨_, _, _, ⟨aC_Wide, PySem.W.mg_of X G aC_Wide⟩, ⟨mk_Wide, a3, i3, kc_Wide⟩, F3, F3.binds fun _ _ _ _ _ _ us hl => match us, hl with | [_, _], _ => rfl⟩
  have F4 := fun_mk (st := s_Wide_told) l4 c4 k4
  have T4 : MthAt K "Wide" "told" "Wide.told" s_Wide_told ["self", "road"] := ⟨_, _, _, aC_Wide, cls_Wide, ⟨a4, i4, k4⟩, F4, F4.binds fun _ _ _ _ _ _ us hl => match us, hl with | [_, _], _ => rfl⟩
  have F5 := fun_mk (st := s_Short___init__) l5 c5 k5
  have T5 : IniAt K mg "Short" "Short.__init__" s_Short___init__ ["self", "length"] := ⟨_, _, _, ⟨aC_Short, PySem.W.mg_of X G aC_Short⟩, ⟨mk_Short, a5, i5, kc_Short⟩, F5, F5.binds fun _ _ _ _ _ _ us hl => match us, hl with | [_, _], _ => rfl⟩
  have F6 := fun_mk (st := s_Short_told) l6 c6 k6
  have T6 : MthAt K "Short" "told" "Short.told" s_Short_told ["self", "road"] := ⟨_, _, _, aC_Short, cls_Short, ⟨a6, i6, k6⟩, F6, F6.binds fun _ _ _ _ _ _ us hl => match us, hl with | [_, _], _ => rfl⟩
  have F7 := fun_mk (st := s_Even_told) l7 c7 k7
  have T7 : MthAt K "Even" "told" "Even.told" s_Even_told ["self", "road"] := ⟨_, _, _, aC_Even, cls_Even, ⟨a7, i7, k7⟩, F7, F7.binds fun _ _ _ _ _ _ us hl => match us, hl with | [_, _], _ => rfl⟩
  have F8 := fun_mk (st := s_Pair___init__) l8 c8 k8
  have T8 : IniAt K mg "Pair" "Pair.__init__" s_Pair___init__ ["self", "first", "second"] := ⟨_, _, _, ⟨aC_Pair, PySem.W.mg_of X G aC_Pair⟩, ⟨mk_Pair, a8, i8, kc_Pair⟩, F8, F8.binds fun _ _ _ _ _ _ us hl => match us, hl with | [_, _, _], _ => rfl⟩
  have F9 := fun_mk (st := s_Pair_told) l9 c9 k9
  have T9 : MthAt K "Pair" "told" "Pair.told" s_Pair_told ["self", "road"] := ⟨_, _, _, aC_Pair, cls_Pair, ⟨a9, i9, k9⟩, F9, F9.binds fun _ _ _ _ _ _ us hl => match us, hl with | [_, _], _ => rfl⟩
  have F10 := fun_mk (st := s_law_length) l10 c10 k10
  have T10 : FunAt K mg "_law_length" s_law_length ["_law_cell"] := ⟨_, _, F10, PySem.W.mg_of X G a10, F10.binds fun _ _ _ _ _ _ us hl => match us, hl with | [_], _ => rfl⟩
  have F11 := fun_mk (st := s_law_map) l11 c11 k11
  have T11 : FunAt K mg "_law_map" s_law_map ["_law_cells", "_law_many"] := ⟨_, _, F11, PySem.W.mg_of X G a11, F11.binds fun _ _ _ _ _ _ us hl => match us, hl with | [_, _], _ => rfl⟩
  have F12 := fun_mk (st := s_law_one) l12 c12 k12
  have T12 : FunAt K mg "_law_one" s_law_one ["_law_cell", "_law_roads"] := ⟨_, _, F12, PySem.W.mg_of X G a12, F12.binds fun _ _ _ _ _ _ us hl => match us, hl with | [_, _], _ => rfl⟩
  have F13 := fun_mk (st := s_law_traveller) l13 c13 k13
  have T13 : FunAt K mg "_law_traveller" s_law_traveller ["_law_cell", "_law_roads", "_law_deep"] := ⟨_, _, F13, PySem.W.mg_of X G a13, F13.binds fun _ _ _ _ _ _ us hl => match us, hl with | [_, _, _], _ => rfl⟩
  have F14 := fun_mk (st := s_law_made) l14 c14 k14
  have T14 : FunAt K mg "_law_made" s_law_made ["_law_model"] := ⟨_, _, F14, PySem.W.mg_of X G a14, F14.binds fun _ _ _ _ _ _ us hl => match us, hl with | [_], _ => rfl⟩
  have F15 := fun_mk (st := s_law_told) l15 c15 k15
  have T15 : FunAt K mg "_law_told" s_law_told ["_law_model", "_law_length_here", "_law_width"] := ⟨_, _, F15, PySem.W.mg_of X G a15, F15.binds fun _ _ _ _ _ _ us hl => match us, hl with | [_, _, _], _ => rfl⟩
  have F16 := fun_mk (st := s_law) l16 c16 k16
  have T16 : FunAt K mg "law" s_law ["_law_script"] := ⟨_, _, F16, PySem.W.mg_of X G a16, F16.binds fun _ _ _ _ _ _ us hl => match us, hl with | [_], _ => rfl⟩
  have T : Txt K mg := ⟨T1, T2, T3, T4, T5, T6, T7, T8, T9, T10, T11, T12, T13, T14, T15, T16, PySem.W.mg_none_of X G z1, PySem.W.mg_none_of X G z2, PySem.W.mg_none_of X G z3, PySem.W.mg_none_of X G z4, PySem.W.mg_none_of X G z5, PySem.W.mg_none_of X G z6, ⟨_, aC_Pair, cls_Pair, nf_Pair_first⟩, ⟨_, aC_Pair, cls_Pair, nf_Pair_second⟩, ⟨_, aC_Short, cls_Short, nf_Short_most_length⟩, ⟨_, aC_Wide, cls_Wide, nf_Wide_least_width⟩, ⟨_, ⟨aC_Even, PySem.W.mg_of X G aC_Even⟩, ⟨mk_Even, ni_Even, kc_Even⟩⟩, ⟨_, ⟨aC_Traveller, PySem.W.mg_of X G aC_Traveller⟩, ⟨mk_Traveller, ni_Traveller, kc_Traveller⟩⟩, ⟨_, PySem.W.mg_of X G aC_Pair, (isat_cons ⟨_, aC_Traveller, cls_Traveller, y3_Traveller, y4, y5, y6_Traveller, u_Traveller_Pair⟩ (isat_cons ⟨_, aC_Wide, cls_Wide, y3_Wide, y4, y5, y6_Wide, u_Wide_Pair⟩ (isat_cons ⟨_, aC_Short, cls_Short, y3_Short, y4, y5, y6_Short, u_Short_Pair⟩ (isat_cons ⟨_, aC_Even, cls_Even, y3_Even, y4, y5, y6_Even, u_Even_Pair⟩ (isat_cons ⟨_, aC_Pair, cls_Pair, y3_Pair, y4, y5, y6_Pair, u_Pair_Pair⟩ isat_nil)))))⟩, ⟨_, PySem.W.mg_of X G aC_Traveller, (isat_cons ⟨_, aC_Traveller, cls_Traveller, y3_Traveller, y4, y5, y6_Traveller, u_Traveller_Traveller⟩ (isat_cons ⟨_, aC_Wide, cls_Wide, y3_Wide, y4, y5, y6_Wide, u_Wide_Traveller⟩ (isat_cons ⟨_, aC_Short, cls_Short, y3_Short, y4, y5, y6_Short, u_Short_Traveller⟩ (isat_cons ⟨_, aC_Even, cls_Even, y3_Even, y4, y5, y6_Even, u_Even_Traveller⟩ (isat_cons ⟨_, aC_Pair, cls_Pair, y3_Pair, y4, y5, y6_Pair, u_Pair_Traveller⟩ isat_nil)))))⟩⟩
  refine ⟨PySem.W.fnOf "law" "law" (defArgs s_law) (defBody s_law) (defScope s_law) .none kV16 dc16 pm16 an16 cd16 ct16, fun s v => .of_eq rfl, fun base _ _ => ?_⟩
  exact law_fn T F16
theorem walk {l : PySem.W.OpenLaw} {q : Program} {loose : List Str} {XP : (Str → Option Value) → Heap → Prop} {YP : World → Heap → Prop} {d : DefRec} {K : Params → PySem.W.Frag} (hn : l.most = some 63) (hdf : d.params.defaults = [])
    (hY : ∀ (w : World) (h : Heap), YP w h → (K w.params).In h)
    (F : ∀ (w : World) (mg : Str → Option Value) (fa : Addr) (h : Heap), (K w.params).In h → h.Ns mainGlobals mg → mg d.name = some (.ref fa) →
      ∃ fd : FuncData, (∀ (s : Shared) (u : Value), BindsTo s fd ⟨[u], []⟩ [("_law_script", u)]) ∧ ∀ base : Heap, (K w.params).In base → base.Ns mainGlobals mg → FnOk l.prog w (K w.params) mg base CX0 7 fa fd ["_law_script"] (spM0 (K w.params) 1 lawF)) :
    PySem.W.WalkO q loose XP YP l.row.toRowW d [] (fun f vs => PySem.call f vs) :=
  L2.walk_sm (n := 63) (k := 7) (x := "_law_script") (CX := fun _ => CX0) (sp := fun w => spM0 (K w.params) 1 lawF) hn (by decide) hdf ⟨rfl, by decide, by decide⟩ hY F (fun w H a ns hsm hl _ hS => law_smM law_eq (K w.params) H a ns hsm hl hS) fun _ _ _ _ _ z => z
end K04
open PySem PySem.W PyProof.Rows
set_option maxRecDepth 100000 in
set_option maxHeartbeats 0 in
theorem PySem.Challenge.cw_nodeladder_k04_travellers_holds : PySem.Challenge.rw_nodeladder_k04_travellers.Holds := by
  w_on; o_law; k_head; (case hw => w_witness2)
  k_fill
  refine K04.walk (l := PySem.Challenge.rw_nodeladder_k04_travellers) rfl rfl (fun w h Y => PySem.W.kIn_of Y) ?F
  case F =>
    intro w mg fa h KX G hmg
    refine' K04.all_mk KX G hmg ?aC_Traveller ?pg_Traveller ?hd_Traveller ?po_Traveller ?sa_Traveller ?mk_Traveller ?kc_Traveller ?aC_Wide ?pg_Wide ?hd_Wide ?po_Wide ?sa_Wide ?mk_Wide ?kc_Wide ?aC_Short ?pg_Short ?hd_Short ?po_Short ?sa_Short ?mk_Short ?kc_Short ?aC_Even ?pg_Even ?hd_Even ?po_Even ?sa_Even ?mk_Even ?kc_Even ?aC_Pair ?pg_Pair ?hd_Pair ?po_Pair ?sa_Pair ?mk_Pair ?kc_Pair ?a1 ?l1 ?c1 ?k1 ?a2 ?i2 ?l2 ?c2 ?k2 ?a3 ?i3 ?l3 ?c3 ?k3 ?a4 ?i4 ?l4 ?c4 ?k4 ?a5 ?i5 ?l5 ?c5 ?k5 ?a6 ?i6 ?l6 ?c6 ?k6 ?a7 ?i7 ?l7 ?c7 ?k7 ?a8 ?i8 ?l8 ?c8 ?k8 ?a9 ?i9 ?l9 ?c9 ?k9 ?a10 ?l10 ?c10 ?k10 ?a11 ?l11 ?c11 ?k11 ?a12 ?l12 ?c12 ?k12 ?a13 ?l13 ?c13 ?k13 ?a14 ?l14 ?c14 ?k14 ?a15 ?l15 ?c15 ?k15 ?a16 ?l16 ?c16 ?k16 ?z1 ?z2 ?z3 ?z4 ?z5 ?z6 ?nf_Pair_first ?nf_Pair_second ?nf_Short_most_length ?nf_Wide_least_width ?ni_Even ?ni_Traveller ?y4 ?y5 ?y3_Traveller ?y6_Traveller ?y3_Wide ?y6_Wide ?y3_Short ?y6_Short ?y3_Even ?y6_Even ?y3_Pair ?y6_Pair ?u_Pair_Pair ?u_Even_Pair ?u_Short_Pair ?u_Wide_Pair ?u_Traveller_Pair ?u_Pair_Traveller ?u_Even_Traveller ?u_Short_Traveller ?u_Wide_Traveller ?u_Traveller_Traveller
    (case aC_Traveller => k_is); (case pg_Traveller => k_is); (case hd_Traveller => k_is); (case po_Traveller => k_is); (case sa_Traveller => k_is); (case mk_Traveller => k_is); (case kc_Traveller => k_is); (case aC_Wide => k_is); (case pg_Wide => k_is); (case hd_Wide => k_is); (case po_Wide => k_is); (case sa_Wide => k_is); (case mk_Wide => k_is); (case kc_Wide => k_is); (case aC_Short => k_is); (case pg_Short => k_is); (case hd_Short => k_is); (case po_Short => k_is); (case sa_Short => k_is); (case mk_Short => k_is); (case kc_Short => k_is); (case aC_Even => k_is); (case pg_Even => k_is); (case hd_Even => k_is); (case po_Even => k_is); (case sa_Even => k_is); (case mk_Even => k_is); (case kc_Even => k_is); (case aC_Pair => k_is); (case pg_Pair => k_is); (case hd_Pair => k_is); (case po_Pair => k_is); (case sa_Pair => k_is); (case mk_Pair => k_is); (case kc_Pair => k_is); (case a1 => k_is); (case l1 => k_is); (case c1 => k_is); (case k1 => k_is); (case a2 => k_is); (case i2 => k_is); (case l2 => k_is); (case c2 => k_is); (case k2 => k_is); (case a3 => k_is); (case i3 => k_is); (case l3 => k_is); (case c3 => k_is); (case k3 => k_is); (case a4 => k_is); (case i4 => k_is); (case l4 => k_is); (case c4 => k_is); (case k4 => k_is); (case a5 => k_is); (case i5 => k_is); (case l5 => k_is); (case c5 => k_is); (case k5 => k_is); (case a6 => k_is); (case i6 => k_is); (case l6 => k_is); (case c6 => k_is); (case k6 => k_is); (case a7 => k_is); (case i7 => k_is); (case l7 => k_is); (case c7 => k_is); (case k7 => k_is); (case a8 => k_is); (case i8 => k_is); (case l8 => k_is); (case c8 => k_is); (case k8 => k_is); (case a9 => k_is); (case i9 => k_is); (case l9 => k_is); (case c9 => k_is); (case k9 => k_is); (case a10 => k_is); (case l10 => k_is); (case c10 => k_is); (case k10 => k_is); (case a11 => k_is); (case l11 => k_is); (case c11 => k_is); (case k11 => k_is); (case a12 => k_is); (case l12 => k_is); (case c12 => k_is); (case k12 => k_is); (case a13 => k_is); (case l13 => k_is); (case c13 => k_is); (case k13 => k_is); (case a14 => k_is); (case l14 => k_is); (case c14 => k_is); (case k14 => k_is); (case a15 => k_is); (case l15 => k_is); (case c15 => k_is); (case k15 => k_is); (case a16 => k_is); (case l16 => k_is); (case c16 => k_is); (case k16 => k_is); (case z1 => k_is); (case z2 => k_is); (case z3 => k_is); (case z4 => k_is); (case z5 => k_is); (case z6 => k_is); (case nf_Pair_first => k_is); (case nf_Pair_second => k_is); (case nf_Short_most_length => k_is); (case nf_Wide_least_width => k_is); (case ni_Even => k_is); (case ni_Traveller => k_is); (case y4 => k_is); (case y5 => k_is); (case y3_Traveller => k_is); (case y6_Traveller => k_is); (case y3_Wide => k_is); (case y6_Wide => k_is); (case y3_Short => k_is); (case y6_Short => k_is); (case y3_Even => k_is); (case y6_Even => k_is); (case y3_Pair => k_is); (case y6_Pair => k_is); (case u_Pair_Pair => kit_is); (case u_Even_Pair => kit_is); (case u_Short_Pair => kit_is); (case u_Wide_Pair => kit_is); (case u_Traveller_Pair => kit_is); (case u_Pair_Traveller => kit_is); (case u_Even_Traveller => kit_is); (case u_Short_Traveller => kit_is); (case u_Wide_Traveller => kit_is); (case u_Traveller_Traveller => kit_is)


